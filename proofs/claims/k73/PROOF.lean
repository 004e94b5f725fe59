import PyProof.Rows.All
import Open.Pieces
import OpenK.ZHead
import KE.KDictOf
import KE.KNestM
import KE.KIsAll
import PyProof.EqAt
import PyProof.EqKinds
import PyProof.TupleCall
import PyProof.ZipIter
import PyProof.Draws
import PyProof.EnumMake
import PyProof.Rows.SetFrom
import KE.KIntText
import KE.IntTextLaws
import KE.KSortTup
import KE.KDictSum
import KE.KSortedM
import PyProof.ListRange
import PyProof.StrLawsChain
import PyProof.StrCalls6
import PyProof.ExcAttrAll.ValueError
import PySem.Challenge.RW_tablestore_k73_all_plans_told
set_option genSizeOf false
set_option bootstrap.genMatcherCode false
set_option maxHeartbeats 4000000
set_option maxRecDepth 100000
set_option compiler.extract_closed false
open Array renaming getElem?_toList->ahB,length_toList->ait,perm_iff_toList_perm->ajm,toList_map->ajX,getElem?_map->akG,mk->akK,toList_inj->ak2
open Bool renaming false_ne_true->Le,and_eq_true->afU,eq_iff_iff->ago,false_eq_true->ahA,not_eq_true'->ahL,eq_false_iff->ahM,and_eq_true_iff->aih,or_eq_true->aiD,and_false->aju
open Classical renaming byContradiction->aiq,not_not->akV,skolem->ak3
open False renaming elim->ag7
open ForInStep renaming yield->aiB
open Int renaming toNat_natCast->agd,emod_nonneg->agZ,emod_lt_of_pos->ahf,ofNat_inj->ai5
open List renaming length_map->iF,getElem?_eq_getElem->lE,mem_cons_of_mem->mK,mem_cons->oR,mem_map->rW,mem_append->BY,map_cons->Do,map_append->RW,mem_singleton->acB,length_append->afR,getElem_mem->afV,length_cons->afW,mem_append_right->afX,getElem?_eq_some_iff->af1,size_toArray->af3,append_assoc->af4,map_map->af8,mem_filter->agb,nodup_cons->agc,append_nil->agh,range->agj,mem_cons_self->agl,mem_of_getElem?->agm,not_mem_nil->agn,of_mem_zip->agp,take_succ_eq_append_getElem->agq,length_filter_le->agr,forall_mem_cons->agu,find?_cons->agw,mem_append_left->agy,all_eq_true->agz,length_range->agC,getElem?_map->agH,all_cons->agJ,map_congr_left->agM,mem_range->agO,length_take->agP,nodup_nil->agQ,map_inj_left->agT,take_of_length_le->agW,mem_of_mem_take->ag8,getD_eq_getElem?_getD->ag9,flatMap_cons->aha,filter_cons->ahi,filter_cons_of_pos->ahk,set->ahu,lookup_cons->ahw,mem_flatMap->ahx,mem_filterMap->ahy,mem_of_mem_drop->ahF,nodup_append->ahN,nil_append->ahO,mem_map_of_mem->ahW,filter_cons_of_neg->ahY,length_drop->ah0,length_eq_one_iff->ah1,zip_cons_cons->ah4,length_singleton->ah8,reverse_cons->aib,getElem?_set_ne->aif,replicate->aim,getElem?_append_left->ain,drop_eq_getElem_cons->aio,lookup->ais,findIdx?_eq_some_iff_getElem->aiC,filter_eq_nil_iff->aiH,getElem?_eq_none->aiQ,map_id'->aiS,take_length->aiZ,mem_iff_getElem->ai3,filter_sublist->aja,forIn_cons->ajb,getElem?_append_right->ajj,find?_eq_none->ajr,filter_congr->ajJ,getElem?_replicate->ajN,getElem?_cons_zero->ajP,findIdx?->ajQ,drop_length->ajU,any_eq_true->ajW,getElem?_set_self->ajY,drop_eq_nil_of_le->aj0,flatMap_singleton->aj2,length_nil->aka,range_eq_range'->akk,filterMap_cons->aks,length_reverse->akv,filter_eq_self->akw,any_cons->akD,map_drop->akH,map_take->akI,take_sublist->akN,foldl_append->akS,ext_getElem?->akT,range'->ak8,map_id->alb
open Nat renaming le_refl->nE,le_trans->DO,zero_le->acr,lt_of_lt_of_le->afZ,ne_of_lt->af7,min_eq_left->ahJ,lt_irrefl->ahV,mul_le_mul_right->aii,le_add_right->air,le_succ_of_le->aiI,zero_add->aiP,lt_succ_self->aiY,div_le_div_right->ai2,le_succ->ai9,not_lt_zero->ajc,ne_of_gt->ajn,lt_or_ge->ajp,lt_succ_of_lt->ajH,le_mul_of_pos_left->aj3,le_of_eq->aj5,add_mul_div_right->akb,mul_comm->akc,mul_le_mul->akn,mul_le_mul_left->akx,le_of_lt->akY
open Ne renaming symm->ah5
open Option renaming bind_eq_some_iff->dO,map_eq_some_iff->iN,isSome_map->ahI,isSome_iff_exists->aiu,bind_some->ajV,map_eq_none_iff->aj1,getD_none->akZ,map_some->ak7
open Option.some renaming inj->ahd,injEq->akR
open Or renaming inr->agL,inl->ahm
open Prod renaming fst->IF
open PyProof.Rows renaming callWith_type1->agg,slot_tuple_getitem->agB,seqObj->ag6,callWith_builtin1->ahT,listUpdate_at->ajS,envOfC->ake,get?_update_seq->akg,IsTup->akW
open PyProof.Rows.SortSt renaming mk'->alg
open PySem renaming wpAny_bind->bY,wpAny_pure->lT,Value->By,Shared->MK,sizeLine->afT,starEach->afY,wpAny->af0,model->af6,bootBuiltins->af9,Addr->aga,mainGlobals->age,compareOp->agf,wpAny_Call_Name_kw->agi,wpAny_call_entry->agt,attributeBase->agx,wpAny_mono->agE,wpAny_callSpecial?_slot->agG,sizeLine_eq->agI,assignEach->agK,World->agN,Expr->agR,foldedSetIterable->agU,wpAny_newObj_type->agV,wpAny_holding->ag1,wpAny_field->ag5,Program->ahb,sysModules->ahg,binaryOp->ahh,swapsWith->ahj,mem_of_lookup->ahl,PyData->ahq,wpAny_loadPart'->ahr,wpAny_is_plain->ahE,backTo->ahP,wpAny_passesOwn->ahQ,wpAny_truthy_bool->ahR,Around->ahU,OsState->ahZ,Stmt->ah9,FuncData->aid,Heap->aij,codeAny_mono->aix,behindInMarks->aiE,tupleKind_room_in1->aiF,sliceBounds->aiJ,NameKind->aiL,wpAny_setField->aiM,rawInt->aiT,PassesOwn->aiU,cLine->aiV,Params->ai4,wpAny_attempt->ai8,wpAny_execs_nil->ajf,keywordEach->ajg,treeTable->ajh,Keyword->ajw,getItem->ajx,wpAny_rule->ajL,codeAny->ajR,letOwnedTupleGo->akd,wpAny_typeOf->akf,call_meets->aki,evalArgs_none->akt,standAt->aky,wpAny_of_eq->akz,call->akP,Within->akX,pyIter->ald
open PySem.Around renaming under_plainId->ai1
open PySem.Builtin.Frozenset renaming walkUnseen->ai6,unchanged->ajd,subsetOf->ajl,sizeOf->ajI
open PySem.Builtin.List renaming listTooLong->ag3
open PySem.Builtin.Slice renaming slicePlaces->ahD,sliceAdjust->ajs
open PySem.Builtin.SmallTypes renaming nextOf->agY,ownedTupleIsFree->ag2,ownedTupleHandOut->aip
open PySem.Builtin.Str renaming strSliceIndices->ahn,occurrences->aiz
open PySem.Builtin.Tuple renaming tupleExact->aiw,tupleItemsOf->ajk
open PySem.Calls renaming callWith_builtin->ahs,spliced_cons->ah3,spliced_nil->aic,evalArgs_plain->ai0,Name_function_global->aji
open PySem.F renaming called_set->ag4,slot_NoneType_hash->ahv,plainAttrs_list->ahX,args_tuple_add_2->aiv,entry_tuple_add->aiA,slot_tuple_add->aiG,slot_dict_getitem->ajt,slot_list_append->ajD,type_list_append->ajE,slot_tuple_index->ajG,plainAttrs_dict->ajO,slot_dict_pop->aj6,plain_set_new->aj8,slot_set_iter->aj9,slot_set_eq->aku
open PySem.Heap renaming get?_push_of_some->eQ,get?_push_size->ID,lt_size->OR,SameBut->agD,size_push->agX,get?_update_other->aht,get?_update_self->ah6,get?_update_ne->aje,get?_none_of_le->akj,get?_push_ne->akU,ExtBut->ak6
open PySem.Heap.IsSliceOf renaming new->akF
open PySem.Heap.SameBut renaming update->aho
open PySem.IsL renaming update->ak1
open PySem.NameKind renaming free->ag0,cell->alh
open PySem.Obj renaming mapSeq->agv,data_mapFields->ahz,isFreed_of_fields->aiO,cls_mapFields->ajF
open PySem.Paired renaming length->ajM
open PySem.PassesOwn renaming never->ala
open PySem.PyData renaming canLayAll0->ags,eqv->agS,depthAll->ahe,depth->ah7,tuple->ajq,canLay0->ajv,int->ajK,eqvAll->akJ,list->alc
open PySem.SeqAt renaming shaped->agk,canLay_of_shaped->ah2,notIn_listAt->akE,EqAt->akO,in_tupleAt->ak0
open PySem.SeqAt.EqAt renaming int_none->ako,str_none->akp,none_int->akq,none_str->akr,int_str->akA,str_int->akB,same->ak4
open PySem.SetTable renaming below->ale
open PySem.Str renaming ofString->afS
open PySem.Txt renaming join->akh
open PySem.Value renaming isInt->ahC,ref->ahG,isStrOf->aia,int->aiN,none->ajy,type->ajz,bool->alf
open PySem.W renaming Frag->aT,nsIn->af5,kia_one->agA,findIn->ahc,emptyDict->ahH,KeysLit->ahK,fnOf->ahS,looks_pair->aie,tabObj->aik,kitOne->ail,instObj->aiy,keepIn->aiK,boot_heap->aiW,codeHdIn->aiX,mg_of->ai7,callWith_K->ajo,hasDictIn->ajA,kitx_list->ajB,kitx_dict->ajC,plainGet->ajT,cellsFrom_some->ajZ,takerIn->aj4,OpenLaw->aj7,lookIn->akl,codeIn->akm,kitx_tuple->akC,plainOver->akL,specialIn->akM,takesIn->ak5,mapOf_K->ak9
open PySem.W.Fast renaming te14364793385576792824->agF,te10110043849684766642->ahp
open PySem.WalksT renaming enumerateD->akQ
open PySem.pickOrder renaming go->aiR
open True renaming intro->af2
open Option renaming some->Z,none->L
open Bool renaming true->U,false->η
def ali:=@if_pos
def alj:=@if_neg
def alk:=@decide_eq_false
def alm:=@decide_eq_true
def aln:=@of_decide_eq_true
def alo:=@congrArg
abbrev alp:=List Nat
abbrev alq:=List PySem.Str
abbrev alr:=List<|PySem.Addr×PySem.Obj
abbrev als:=PySem.Value->PySem.Shared->Prop
abbrev alu:=PySem.Str->Option PySem.Value
abbrev alv:=List PySem.Addr
abbrev alw:=List PySem.Value
abbrev alz(x:PySem.Str):Prop:=(x==("__debug__":PySem.Str))=η
local macro_rules|`(tactic|walk_at "v")=>`(tactic|first|exact Or.inl rfl|exact Or.inr (Or.inl rfl)|exact Or.inr (Or.inr rfl))
local macro_rules|`(tactic|walk_at "u")=>`(tactic|first|exact Or.inl rfl|exact Or.inr rfl|assumption)
local macro_rules|`(tactic|trivial)=>`(tactic|decide +kernel)
namespace L2
theorem cx{α β e ε:Type}{p q:α->β->e->ε->Prop}{r:Prop}(h:∃a b c d,p a b c d/\q a b c d)(k:∀a b c d,p a b c d->q a b c d->r):r:=by
 obtain⟨a,b,c,d,x,y⟩:=h;exact k a b c d x y
theorem iW{α β:Type}{p q r:α->β->Prop}{z:Prop}(h:∃a b,p a b/\q a b/\r a b)(k:∀a b,p a b->q a b->r a b->z):z:=by
 obtain⟨a,b,x,y,w⟩:=h;exact k a b x y w
end L2
set_option Elab.async false
noncomputable section
namespace HD
open PySem PySem.W PySem.Calls PyProof.Rows
abbrev p:ahb:=PySem.Challenge.pw_tablestore_k73_all_plans_told
def bd:List ah9:=behindTheImports p
noncomputable def S(i:Nat):ah9:=match p.main.body[i]? with|some s=>s|none=>.Pass default
def Sc(i j:Nat):ah9:=match S i with
 |.ClassDef _ _ _ b _ _ _ _ _ _ _=>(match b[j]? with|some s=>s|none=>.Pass default)
 |s=>s
def dA(s:ah9):Arguments:=match s with
 |.FunctionDef _ a _ _ _ _ _ _ _ _=>a
 |_=>⟨[],[],L,[],[],L,[]⟩
def dB(s:ah9):List ah9:=match s with
 |.FunctionDef _ _ b _ _ _ _ _ _ _=>b
 |_=>[]
noncomputable def dS(s:ah9):Scope:=match s with
 |.FunctionDef _ _ _ _ _ _ sc _ _ _=>sc
 |_=>{kind:=.function,names:=[],isGenerator:=η,isCoroutine:=η}
def fn(s:ah9)(n f:Str)(g:aga)(cl:List<|Str×aga)(d kd a e:By)(h:Option aga)(b c:By)(bl:aga):aid:=⟨n,f,dA s,.stmts<|dB s,dS s,g,cl,d,kd,a,e,h,b,c,bl⟩
def dN(s:ah9):Str:=match s with
 |.FunctionDef n _ _ _ _ _ _ _ _ _=>n
 |_=>""
noncomputable def tu(l:alw):Obj:=⟨.type "tuple",L,.seq l.toArray 0,#[]⟩
noncomputable def tn(t:Nat):alq->alw
 |[]=>[]
 |x::r=>.str x t::tn (t+1) r
noncomputable def tr(k:Int):List (Int×Nat)->alw
 |[]=>[]
 |x::r=>.int x.1 0::.int k 0::.ref x.2::tr k r
def fi(l:alw):Obj:=⟨.none,L,.fields l.toArray,#[]⟩
def fu(s:ah9)(m:By)(c:Nat):Obj:=⟨.type "function",L,.func<|fn s (dN s) (dN s) 3 [] .none .none .none m L (.ref c) .none 0,#[]⟩
def pr(s:ah9):Obj:=⟨.none,L,.func<|fn s (dN s) (dN s) 0 [] .none .none .none .none L .none .none 0,#[]⟩
noncomputable def co(n q:Str)(t:Nat)(l a b c d:Int)(v:Nat)(o:Bool)(u:Nat)(x y z:By)(k:Nat):Obj:=⟨.type "code",L,.fields #[.str n t,.str q<|t+1,.str "/claim/cut.py"<|t+2,.int l 0,.int a 0,.int b 0,.int c 0,.int d 0,.ref v,.bool o,.int 181 0,.ref u,.none,x,y,z,.int k 0,.int l 0,.str "/claim/cut.py"<|k+1],#[]⟩
noncomputable def tO(l:List Obj)(n:Nat):Nat->Nat->Nat->BT
 |0,_,_=>.nil
 |f+1,a,b=>if b<n then .node (l.getD b ⟨.none,L,.plain,#[]⟩) (tO l n f (2*a)<|a+b) (tO l n f (2*a)<|2*a+b)else .nil
noncomputable def ke(P:ai4)(x:Str)(t:Nat)(v:By):DictEntry:=⟨PyData.keyHash P x,.str x t,v⟩
noncomputable def en:Env:={scope:=p.main.scope,locals:=mainNs,globals:=mainNs,cells:=[],code:=(.ref 13),frame:=Z 14}
def cE:Code:=.body bd en
abbrev fq:Pos:=⟨0,0,0,0⟩
def o11:Obj:=tu []
def rK:Obj:=fi []
noncomputable def Z7(c:Nat)(b:Nat)(d:Str)(a:Nat):Obj:=⟨(.type "frame"),L,.plain,#[(Z<|.ref c),(Z<|.ref 3),(Z<|.ref b),L,(Z<|.str d a),L,(Z<|.ref 0)]⟩
def afv(P:ai4):List Obj:=[boot_o_0 P,boot_o_1 P,boot_o_2 P,boot_o_3 P,boot_o_4 P,boot_o_5 P,boot_o_6 P,boot_o_7 P,boot_o_8 P,boot_o_9 P,boot_o_10 P,o11,rK,co "<module>" "<module>" 182 1 0 0 0 0 11 η 12 .none .none .none 185,Z7 13 3 "__main__" 164]
def T0(P:ai4):BT:=tO (afv P) 15 12 1 0
theorem rA(w:agN)(os:ahZ):topGo ajh p w 11 (Z<|.ref 6) 12 ⟨aiW w.params,akK [],boot_drawn,boot_toks,os⟩ (topStub p)=Z ((⟨T0 w.params,15,{},#[],{},187,os⟩:SharedT).abs,⟨denote ajh cE,cE,⟨0,0,0,0⟩,[topFrame fq]⟩):=by
 rw[PySem.W.Fast.te15667345088766844465,agF,PySem.W.Fast.te11892475500146522536];kernel_rfl
theorem rB(w:agN)(os:ahZ):segRunT ajh p w 11 (Z<|.ref 6) 1 1 (⟨T0 w.params,15,{},#[],{},187,os⟩:SharedT) (blockOf bd en cE ⟨0,0,0,0⟩ [topFrame fq])=Z (.next,(⟨T0 w.params,15,{},#[],{},187,os⟩:SharedT),cE,⟨0,0,0,0⟩):=by
 rw[ahp,agF];kernel_rfl
noncomputable def abn:Obj:=⟨(.type "builtin_function_or_method"),L,(.fields #[(.builtin "type.__prepare__"),(.type "type")]),#[]⟩
def adQ(P:ai4)(a:Nat)(c:Str)(d:Int)(b:Nat):Obj:=⟨(.type "dict"),L,(.dict #[ke P "__module__" a<|.str "tablestore.errors" 187,ke P "__qualname__" (a+2)<|.str c<|a+1,ke P "__firstlineno__" (a+4)<|.int d<|a+3,ke P "__static_attributes__" (a+5)<|.ref b] 4),#[]⟩
noncomputable def aav(a:Nat):Obj:=⟨(.type "super"),L,(.fields #[(.ref a),(.ref a),(.ref a)]),#[]⟩
noncomputable def acN(a:Nat):Obj:=⟨(.type "builtin_function_or_method"),L,(.fields #[(.builtin "object.__init_subclass__"),(.ref a)]),#[]⟩
def o28:Obj:=tu [.ref 24]
def tq4(P:ai4)(a:Nat)(b:Int)(c:Nat):Obj:=⟨(.type "dict"),L,(.dict #[ke P "__module__" a<|.str "tablestore.errors" 187,ke P "__firstlineno__" (a+4)<|.int b<|a+3,ke P "__static_attributes__" (a+5)<|.ref c,ke P "__doc__" (a+6) .none] 2),#[]⟩
noncomputable def tq5(a:Str)(d:Nat)(e:Nat)(c:Nat)(b:Nat):Obj:=⟨(.type "type"),L,(.cls {name:=a,bases:=[(.ref 24)],mro:=[(.ref d),(.ref 24),(.type "ValueError"),(.type "Exception"),(.type "BaseException"),(.type "object")],ns:=e,qualname:=a,hasDict:=U,slotNames:=[],subclasses:=[],abstract:=η,collection:=L,hasDel:=η}),#[(Z<|.ref c),L,(Z<|.str a b),(Z<|.str a<|b+8),(Z<|.builtin "ValueError.__new__"),(Z<|.bool U)]⟩
def m335:By:=.str "tablestore.values" 335
def m378:By:=.str "tablestore.showing" 378
def m394:By:=.str "tablestore.conditions" 394
def m428:By:=.str "tablestore.plans" 428
def m567:By:=.str "tablestore.ordered" 567
def m625:By:=.str "tablestore.shapes" 625
def m717:By:=.str "tablestore.balance" 717
def m807:By:=.str "tablestore.tables" 807
def m898:By:=.str "tablestore.states" 898
noncomputable def m1004:By:=.str "law_tablestore_k73_all_plans_told" 1004
def g0:List ah9:=(bd.drop 0).take 130
def lN(i:Nat):Option<|List Str×alq:=localNames (dA<|S i) (dS<|S i)<|.stmts<|dB<|S i
def dL(i:Nat):Nat:=match S i with
 |.FunctionDef _ _ _ _ _ _ _ _ _ x=>x.line
 |_=>0
def gA(m:By)(q:Nat×Nat×Nat):List Obj:=let s:=S q.1;let a:=q.2.1;let t:=q.2.2;match lN q.1 with
 |some l=>[o11,rK,tu<|tn (t+3) l.1,o11,pr s,co (dN s) (dN s) t (dL q.1) (dA s).args.length 0 0 3 a U (a+1) (.ref<|a+2) (.ref<|a+3) (.ref<|a+4)<|t+3+l.1.length,fu s m<|a+5]
 |none=>[o11,rK,pr s,co (dN s) (dN s) t (dL q.1) (dA s).args.length 0 0 3 a U (a+1) .none .none (.ref<|a+2)<|t+3,fu s m<|a+3]
def gb(i:Nat):Nat×Nat:=match lN i with
 |some l=>(7,6+l.1.length)
 |none=>(5,6)
def ru:Nat->Nat->Nat->Nat->List (Nat×Nat×Nat)
 |0,_,_,_=>[]
 |n+1,i,a,t=>(i,a,t)::ru n (i+1) (a+(gb i).1) (t+(gb i).2)
def gK(P:ai4)(q:Nat×Nat×Nat):DictEntry:=ke P (dN<|S q.1) (q.2.2+(gb q.1).2-1)<|.ref<|q.2.1+(gb q.1).1-1
def gR(q:Nat×Nat×Nat):Int×Nat:=(dL q.1,q.2.1+(gb q.1).1-2)
def gX(P:ai4)(n:Str)(l:Int)(a t:Nat):List Obj:=[o28,abn,adQ P (t+7) n l<|a+7,o11,rK,co n n (t+2) l 0 0 0 0 (a+3) η (a+4) .none .none .none<|t+5,Z7 (a+5) (a+2) "tablestore.errors" 187,o11,tq4 P (t+7) l<|a+7,tq5 n (a+9) (a+8) a t,aav<|a+9,acN<|a+9]
def r0:=ru 5 13 125 343
def r1:=ru 1 19 158 380
def r2:=ru 1 21 165 388
def r3:=ru 1 23 170 396
def r4:=ru 3 25 177 404
def r5:=ru 13 32 199 457
def r6:=ru 6 49 278 575
def r7:=ru 10 60 322 646
def r8:=ru 2 71 386 719
def r9:=ru 1 73 398 734
def r10:=ru 1 75 405 748
def acR:=ru 6 77 410 755
def abL:=ru 6 85 471 842
def acm:=ru 10 93 512 913
def aaT:=ru 26 104 582 1006
def aeo(P:ai4):List Obj:=((afv P).set 3<|⟨(.type "dict"),L,(.dict ([ke P "__name__" 165<|.str "law_tablestore_k73_all_plans_told" 1004,ke P "__doc__" 166 .none,ke P "__package__" 167 .none,ke P "__loader__" 168<|.builtin "__main__.__loader__#opaque",ke P "__spec__" 169 .none,ke P "__annotations__" 170<|.ref 6,ke P "__builtins__" 171<|.ref 4,ke P "__file__" 173<|.str "/claim/cut.py" 172,ke P "__cached__" 174 .none,ke P "TableError" 206<|.ref 24,ke P "BadShape" 222<|.ref 37,ke P "BadChange" 238<|.ref 49,ke P "BadRow" 254<|.ref 61,ke P "NoTable" 270<|.ref 73,ke P "TableThere" 286<|.ref 85,ke P "NoColumn" 302<|.ref 97,ke P "IndexThere" 318<|.ref 109,ke P "NoRow" 334<|.ref 121,ke P "KINDS" 340<|.ref 124,ke P "MOST_SIGNS" 342<|.int 40 341]++r0.map (gK P)++[ke P "cells_of" 386<|.ref 404,ke P "cells_of_showing" 387<|.ref 164]++r2.map (gK P)++[ke P "parts_of" 402<|.ref 409,ke P "parts_of_conditions" 403<|.ref 176]++r4.map (gK P)++[ke P "TURNED" 448<|.ref 196,ke P "LOW_SIGNS" 452<|.ref 197,ke P "HIGH_SIGNS" 456<|.ref 198]++r5.map (gK P)++[ke P "FEWEST" 570<|.int 4 569,ke P "MOST" 572<|.int 8 571,ke P "MOST_ROW_NUMBER" 574<|.int 1000000000 573]++r6.map (gK P)++[ke P "NO_NAMES" 638<|.ref 320,ke P "COLUMN_KINDS" 641<|.ref 321,ke P "MOST_LETTERS" 643<|.int 8 642,ke P "MOST_COLUMNS" 645<|.int 8 644]++r7.map (gK P)++r8.map (gK P)++[ke P "cells_of_balance" 747<|.ref 404,ke P "parts_of_balance" 754<|.ref 409]++acR.map (gK P)++[ke P "Table" 841<|.ref 466]++abL.map (gK P)++[ke P "FORMS" 912<|.ref 511]++acm.map (gK P)++aaT.map (gK P)).toArray 126),#[]⟩).set 12 (fi<|tr 0<|[(2,20),(4,33),(6,45),(8,57),(10,69),(12,81),(14,93),(16,105),(18,117)]++r0.map gR++[(46,163)]++r2.map gR++[(59,175)]++r4.map gR++r5.map gR++r6.map gR++r7.map gR++r8.map gR++[(246,403),(255,408)]++acR.map gR++[(299,455)]++abL.map gR++acm.map gR++aaT.map gR)++([tu [.type "ValueError"],abn,adQ P 196 "TableError" 2 22,o11,rK,co "TableError" "TableError" 191 2 0 0 0 0 18 η 19 .none .none .none 194,Z7 20 17 "tablestore.errors" 187,o11,⟨(.type "dict"),L,(.dict #[ke P "__module__" 196<|.str "tablestore.errors" 187,ke P "__firstlineno__" 200<|.int 2 199,ke P "__static_attributes__" 201<|.ref 22,ke P "__weakref__" 203<|.ref 25,ke P "__doc__" 204 .none] 3),#[]⟩,⟨(.type "type"),L,(.cls {name:="TableError",bases:=[(.type "ValueError")],mro:=[(.ref 24),(.type "ValueError"),(.type "Exception"),(.type "BaseException"),(.type "object")],ns:=23,qualname:="TableError",hasDict:=U,slotNames:=[],subclasses:=[(.ref 37),(.ref 49),(.ref 61),(.ref 73),(.ref 85),(.ref 97),(.ref 109),(.ref 121)],abstract:=η,collection:=L,hasDel:=η}),#[(Z<|.ref 15),L,(Z<|.str "TableError" 189),(Z<|.str "TableError" 197),(Z<|.builtin "ValueError.__new__"),(Z<|.bool U)]⟩,⟨(.type "getset_descriptor"),L,(.fields #[(.str "__weakref__" 202),(.ref 24),(.builtin "ExceptionGroup.__weakref__"),.none]),#[]⟩,aav 24,acN 24]++(gX P "BadShape" 4 28 207++(gX P "BadChange" 6 40 223++(gX P "BadRow" 8 52 239++(gX P "NoTable" 10 64 255++(gX P "TableThere" 12 76 271++(gX P "NoColumn" 14 88 287++(gX P "IndexThere" 16 100 303++(gX P "NoRow" 18 112 319++([tu<|tn 337 ["none","number","text"]]++(r0.flatMap (gA m335)++(r1.flatMap (gA m378)++(r2.flatMap (gA m378)++(r3.flatMap (gA m394)++(r4.flatMap (gA m394)++([⟨(.type "dict"),L,(.dict #[ke P "=" 430<|.str "=" 431,ke P "<>" 432<|.str "<>" 433,ke P "<" 434<|.str ">" 435,ke P "<=" 436<|.str ">=" 437,ke P ">" 438<|.str "<" 439,ke P ">=" 440<|.str "<=" 441] 6),#[]⟩,tu<|tn 449 ["=",">",">="],tu<|tn 453 ["=","<","<="]]++(r5.flatMap (gA m428)++(r6.flatMap (gA m567)++([tu<|tn 627 ["and","by","down","from","none","not","or","order","show","take","where"],tu<|tn 639 ["number","text"]]++(r7.flatMap (gA m625)++(r8.flatMap (gA m717)++(r9.flatMap (gA m717)++(r10.flatMap (gA m717)++(acR.flatMap (gA m717)++([o11,abn,⟨(.type "dict"),L,(.dict #[ke P "__module__" 816<|.str "tablestore.tables" 807,ke P "__qualname__" 818<|.str "Table" 817,ke P "__firstlineno__" 820<|.int 299 819,ke P "__init__" 830<|.ref 463,ke P "__static_attributes__" 834<|.ref 464] 5),#[]⟩,o11,fi<|tr 4 [(301,462)],co "Table" "Table" 811 299 0 0 0 0 453 η 454 .none .none .none 814,Z7 455 452 "tablestore.tables" 807,o11,rK,tu<|tn 824 ["self","shape","rows","indexes"],o11,⟨.none,L,(.func<|fn (Sc 84 0) "__init__" "Table.__init__" 0 [] .none .none .none .none L .none .none 0),#[]⟩,co "__init__" "Table.__init__" 821 301 4 0 0 3 457 U 458 (.ref 459) (.ref 460) (.ref 461) 828,⟨(.type "function"),L,(.func<|fn (Sc 84 0) "__init__" "Table.__init__" 3 [] .none .none .none (.str "tablestore.tables" 807) L (.ref 462) .none 0),#[]⟩,tu<|tn 831 ["indexes","rows","shape"],⟨(.type "dict"),L,(.dict #[ke P "__module__" 816<|.str "tablestore.tables" 807,ke P "__firstlineno__" 820<|.int 299 819,ke P "__init__" 830<|.ref 463,ke P "__static_attributes__" 834<|.ref 464,ke P "__dict__" 836<|.ref 467,ke P "__weakref__" 838<|.ref 468,ke P "__doc__" 839 .none] 4),#[]⟩,⟨(.type "type"),L,(.cls {name:="Table",bases:=[(.type "object")],mro:=[(.ref 466),(.type "object")],ns:=465,qualname:="Table",hasDict:=U,slotNames:=[],subclasses:=[],abstract:=η,collection:=L,hasDel:=η}),#[L,L,(Z<|.str "Table" 809),(Z<|.str "Table" 817),(Z<|.builtin "object.__new__"),(Z<|.bool U)]⟩,⟨(.type "getset_descriptor"),L,(.fields #[(.str "__dict__" 835),(.ref 466),(.builtin "function.__dict__"),(.builtin "function.__dict__#set")]),#[]⟩,⟨(.type "getset_descriptor"),L,(.fields #[(.str "__weakref__" 837),(.ref 466),(.builtin "ExceptionGroup.__weakref__"),.none]),#[]⟩,aav 466,acN 466]++(abL.flatMap (gA m807)++([⟨(.type "dict"),L,(.dict #[ke P "table" 900<|.int 2 901,ke P "index" 902<|.int 3 903,ke P "put" 904<|.int 4 905,ke P "drop" 906<|.int 3 907] 4),#[]⟩]++(acm.flatMap (gA m898)++(aaT.flatMap<|gA m1004)))))))))))))))))))))))))))))
def T1(P:ai4):BT:=tO (aeo P) 738 12 1 0
def Rk(w:agN)(os:ahZ):Prop:=segRunT ajh p w 11 (Z<|.ref 6) 1 5269 (⟨T0 w.params,15,{},#[],{},187,os⟩:SharedT) (piecesOf g0 en cE ⟨0,0,0,0⟩ [topFrame fq])=Z (.next,(⟨T1 w.params,738,{},#[],{},1214,os⟩:SharedT),cE,⟨633,0,645,63⟩)
theorem rf0(w:agN)(os:ahZ):Rk (w.withFollow "special-get-raises" η) os:=by
 unfold Rk;rw[ahp,agF];kernel_rfl
theorem rt0(w:agN)(os:ahZ):Rk (w.withFollow "special-get-raises" U) os:=by
 unfold Rk;rw[ahp,agF];kernel_rfl
theorem rG0(w:agN)(os:ahZ):segRunT ajh p w 11 (Z<|.ref 6) 1 5269 (⟨T0 w.params,15,{},#[],{},187,os⟩:SharedT) (piecesOf g0 en cE ⟨0,0,0,0⟩ [topFrame fq])=Z (.next,(⟨T1 w.params,738,{},#[],{},1214,os⟩:SharedT),cE,⟨633,0,645,63⟩):=byRow2 "special-get-raises" (P:=fun w=>Rk w os) (fun w=>rf0 w os) (fun w=>rt0 w os) w
abbrev L1(P:ai4):List Obj:=aeo P
def H1(P:ai4):aij:=⟨akK<|L1 P,{}⟩
abbrev sf(w:agN)(os:ahZ):MK:=⟨H1 w.params,#[],{},1214,os⟩
theorem rF(w:agN)(os:ahZ):topRun ajh p w 11 (Z<|.ref 6) 2 (⟨T1 w.params,738,{},#[],{},1214,os⟩:SharedT).abs ⟨doneF .next,cE,⟨633,0,645,63⟩,[topFrame fq]⟩=Z (sf w os):=by
 rw[PySem.W.Fast.te14082659384304107361,agF];kernel_rfl
theorem Vh:bd=g0++([]):=by kernel_rfl
theorem run(w:agN)(os:ahZ):topRun ajh p w 11 (Z<|.ref 6) (12+(1+(5269+2))) ⟨aiW w.params,akK [],boot_drawn,boot_toks,os⟩ (topStub p)=Z (sf w os):=
 go_top (n:=12) (rA w os) (piece_block (n:=1) (segRun_of<|rB w os)<|Vh▸piece_app (n:=5269) (l:=g0) (segRun_of<|rG0 w os) (piece_nil<|rF w os))
noncomputable def q:ahb:=view p [1,2,3,4,5,6,7,8,9,11,12,13,14,15,16,17,20,21,24,25,26,27,29,30,31,32,33,34,35,36,37,38,39,40,41,42,43,44,46,47,48,49,50,51,52,53,54,56,57,58,59,60,61,62,63,64,65,66,67,68,69,71,72,73,74,75,76,77,78,79,80,81,82,84,85,86,87,88,89,90,92,93,94,95,96,97,98,99,100,101,102,104,105,106,107,108,109,110,111,112,113,114,115,116,117,118,119,120,121,122,123,124,125,126,127,128,129]
theorem YS(w:agN):(fencedOpening ajh p w 10662).map (fun s=>(s.heap,s.gens,s.drawn,s.toks))=Z (aiW w.params,akK [],boot_drawn,boot_toks):=
 boot_open (by kernel_rfl) (by decide) (fun s=>by kernel_rfl) w
theorem size(w:agN):((aiW w.params).isNs age&&(akK []:Array GenState).size==0,(aiW w.params).objs.size,(aiW w.params).nsMap age "__annotations__")=(U,11,(Z<|.ref 6)):=by
 kernel_rfl
theorem k0(w:agN)(os:ahZ):(staticsOk (importedModules p.main.body) (aiW w.params) (H1 w.params)&&namesBound p (H1 w.params)&&gensDone (sf w os)&&laidKept (aiW w.params) (H1 w.params))=U:=by kernel_rfl
theorem k1(w:agN)(os:ahZ):seen ((recsOf q).map (·.name)) (ownsOf q) [] {(sf w os)with gens:=#[]}=expectedOf q:=by
 kernel_rfl
theorem k2(w:agN)(os:ahZ):(sf w os).heap.bltView=bltViewBooted:=by
 kernel_rfl
theorem k3(w:agN)(os:ahZ):((sf w os).heap.keysOk (looseW q ["cells_of_showing","parts_of_conditions","TURNED","cells_of_balance","parts_of_balance","FORMS"]) ((recsOf q).map (·.name)) ((litsOf q).map (·.1)) ((clssOf q<|looseW q ["cells_of_showing","parts_of_conditions","TURNED","cells_of_balance","parts_of_balance","FORMS"]).map (·.name))&&(sf w os).heap.accountedOkI (importedModules p.main.body)&&(sf w os).heap.isNs age&&(sf w os).heap.isNs builtinsNs&&tablesOk q (sf w os).heap&&(xlAt q [] (sf w os)&&recOk [] (sf w os))&&(if U then(sf w os).gens.size==0 else !leftWithCleanup (sf w os).gens))=U:=by
 kernel_rfl
theorem k4(w:agN)(os:ahZ):tabsOk q (sf w os)=U:=by
 kernel_rfl
theorem k5(w:agN)(os:ahZ):pinSeenD q (drecsOf q) (sf w os)=pinGoodD (drecsOf q):=by
 kernel_rfl
theorem k6(w:agN)(os:ahZ):plainSeenE q (looseW q ["cells_of_showing","parts_of_conditions","TURNED","cells_of_balance","parts_of_balance","FORMS"]) (sf w os)=plainGoodE q (looseW q ["cells_of_showing","parts_of_conditions","TURNED","cells_of_balance","parts_of_balance","FORMS"]):=by
 kernel_rfl
theorem k7(w:agN)(os:ahZ):plainSeenD q ["cells_of_showing","parts_of_conditions","TURNED","cells_of_balance","parts_of_balance","FORMS"] (sf w os)=plainGoodD q ["cells_of_showing","parts_of_conditions","TURNED","cells_of_balance","parts_of_balance","FORMS"]:=by
 kernel_rfl
theorem k8(w:agN)(os:ahZ):wideSeen q (sf w os)=wideGood q:=by
 kernel_rfl
theorem k9(w:agN)(os:ahZ):clsSeenW q ["cells_of_showing","parts_of_conditions","TURNED","cells_of_balance","parts_of_balance","FORMS"] (sf w os)=clsGoodW q ["cells_of_showing","parts_of_conditions","TURNED","cells_of_balance","parts_of_balance","FORMS"]:=by
 kernel_rfl
def ad:alv:=agj 738
def K(P:ai4):Frag:=ad.zip<|L1 P
theorem kY(w:agN)(os:ahZ):X.obsZ ad (sf w os)=X.valZ K 738 1214 w:=by kernel_rfl
theorem left:LeftO p q ["cells_of_showing","parts_of_conditions","TURNED","cells_of_balance","parts_of_balance","FORMS"] (fun s=>xlAt q [] s&&recOk [] s) (X.obsZ ad) (X.valZ K 738 1214) 10662:=
 LeftO.of_pieces (H₀:=aiW) (H₁:=H1) (gs₀:=akK []) (gs₁:=#[]) (d₀:=boot_drawn) (d₁:={}) (k₀:=boot_toks) (k₁:=1214) (m₀:=11) (ann:=(Z<|.ref 6)) (M:=(12+(1+(5269+2)))) YS size run (by decide) fun w=>funext fun os=>aie (k0 w os)<|aie (aie (k1 w os)<|aie (k2 w os)<|aie (k3 w os)<|aie (k4 w os)<|aie (k5 w os)<|aie (k6 w os)<|aie (k7 w os)<|aie (k8 w os)<|k9 w os)<|kY w os
def dP(s:ah9):Pos:=match s with
 |.FunctionDef _ _ _ _ _ _ _ _ _ x=>x
 |_=>default
def d:DefRec:=⟨"law",dA<|S 129,dB<|S 129,dS<|S 129,dP<|S 129⟩
theorem wa:namesResolve p=U:=by kernel_rfl
theorem wb:namesMeet p p.main.body (fun _ n=>attrL n)=U:=by kernel_rfl
theorem lo:looksOpen p=U:=by
 unfold looksOpen;rw[wa,wb,Bool.and_true];kernel_rfl
theorem wd:PySem.Challenge.rw_tablestore_k73_all_plans_told.row.partSaid=U:=by
 unfold OpenRow.partSaid;rw[show looksOpen PySem.Challenge.rw_tablestore_k73_all_plans_told.row.toRowW.prog=U from lo];kernel_rfl
theorem ws:PySem.Challenge.rw_tablestore_k73_all_plans_told.wellSaid=U:=by
 unfold OpenLaw.wellSaid OpenRow.wellSaid;rw[wd];kernel_rfl
theorem hold(b:WalkX q ["cells_of_showing","parts_of_conditions","TURNED","cells_of_balance","parts_of_balance","FORMS"] (XL q []) (X.obsZ ad) (X.valZ K 738 1214) PySem.Challenge.rw_tablestore_k73_all_plans_told.row.toRowW d [] fun f vs=>akP f vs):PySem.Challenge.rw_tablestore_k73_all_plans_told.Holds:=by
 refine holds_law ws fun a=>?_;refine holds_openX (q:=q) (loose:=["cells_of_showing","parts_of_conditions","TURNED","cells_of_balance","parts_of_balance","FORMS"]) (Xt:=fun s=>xlAt q [] s&&recOk [] s) (XP:=XL q []) (N:=10662) left (fun s e=>xl_of s (aih.mp e).1) XL.keeps (d:=d) (kwd:=[]) (by kernel_rfl) (by kernel_rfl) (by kernel_rfl) (fun s e=>recFacts_of (aih.mp e).2) (by rfl) a (by trivial) ⟨rfl,rfl,rfl,rfl,rfl,by trivial⟩ ?hw b
 case hw=>w_witness2
end HD
end
noncomputable section
set_option hygiene false
local macro_rules|`(tactic|cbv)=>`(tactic|split at h)
local macro_rules|`(tactic|nofun)=>`(tactic|cases h)
local macro_rules|`(tactic|mleft)=>`(tactic|exact h.elim)
local macro_rules|`(tactic|mstop)=>`(tactic|replace h:=dO.mp h)
local macro_rules|`(tactic|mright)=>`(tactic|simp_all)
open scoped Lean.Order
local macro_rules|`(∅)=>`(by simp)
local macro_rules|`(⊥)=>`(by lia)
local macro_rules|`(⊤)=>`(by trivial)
local macro_rules|`(∎)=>`(by decide)
local macro_rules|`(#[0])=>`((by walk_at "m"))
local macro_rules|`(#[1])=>`((af6 X.prog X.w))
local macro_rules|`(#[2])=>`((ac rfl (ac rfl rfl)))
local macro_rules|`(#[3])=>`((X.fn x=U\/X.env.scope.names.lookup x=Z .local))
local macro_rules|`(#[4])=>`((af6 prog w))
local macro_rules|`(#[5])=>`((x==("__classdict__":Str)))
local macro_rules|`(#[6])=>`((.ListComp elt [⟨tg,iter,ifs,0⟩] scope pos))
local macro_rules|`(#[7])=>`((.Call (.Name x p) (e::es) [] pos))
local macro_rules|`(#[8])=>`((apos.endLine==cpos.line))
local macro_rules|`(#[9])=>`((own++as0))
local macro_rules|`(#[10])=>`((pe nm cs ys k most o4 o5 (Z<|.lst<|ps.map<|jb nm) o7 o8 o9))
local macro_rules|`(#[11])=>`((aR I q<|by rfl))
local macro_rules|`(#[12])=>`((by kernel_rfl))
local macro_rules|`(#[13])=>`((.ref s.heap.objs.size))
local macro_rules|`(#[14])=>`((aw (bf rfl rfl) rfl))
local macro_rules|`(#[15])=>`((jp X N scope b))
local macro_rules|`(#[16])=>`((fun z=>nomatch z))
local macro_rules|`(#[17])=>`((af rfl rfl bp))
local macro_rules|`(#[18])=>`((agx o name X.env (eval o X.env)=eval o X.env))
local macro_rules|`(#[19])=>`((K0 w.params))
local macro_rules|`(#[20])=>`((.Name x p1))
local macro_rules|`(#[21])=>`((afY (e::es) X.env=(η,eval e X.env)::afY es X.env))
local macro_rules|`(#[22])=>`((af rfl rfl bx))
local macro_rules|`(#[23])=>`((ql c qs mo zs (Z<|.lst<|a.map je) (Z<|wD<|a.map qk) o6 (Z<|pw f) L L L L L))
local macro_rules|`(#[24])=>`((by omega))
local macro_rules|`(#[25])=>`((qm X.env.scope x))
set_option hygiene true
theorem bb{α:Type}{P:List α->Prop}(h:P [])(g:∀a l,P l->P (a::l)):∀l,P l:=List.rec h g
theorem bi{P:Nat->Prop}(h:P 0)(g:∀n,P n->P (n+1)):∀n,P n:=Nat.rec h g
theorem Z04{a b c d:Prop}{r:Prop}(h:a/\b/\c/\d)(k:a->b->c->d->r):r:=by grind
theorem Z05{a b c d e:Prop}{r:Prop}(h:a/\b/\c/\d/\e)(k:a->b->c->d->e->r):r:=by grind
theorem Z09{a b c d e f g i j:Prop}{r:Prop}(h:a/\b/\c/\d/\e/\f/\g/\i/\j)(k:a->b->c->d->e->f->g->i->j->r):r:=by grind
theorem Z13{α}{a b c:α->Prop}{r:Prop}(h:∃x,a x/\b x/\c x)(k:∀x,a x->b x->c x->r):r:=by grind
theorem Z14{α}{a b c d:α->Prop}{r:Prop}(h:∃x,a x/\b x/\c x/\d x)(k:∀x,a x->b x->c x->d x->r):r:=by grind
theorem Z15{α}{a b c d e:α->Prop}{r:Prop}(h:∃x,a x/\b x/\c x/\d x/\e x)(k:∀x,a x->b x->c x->d x->e x->r):r:=by grind
theorem Z22{α β}{a b:α->β->Prop}{r:Prop}(h:∃x y,a x y/\b x y)(k:∀x y,a x y->b x y->r):r:=by grind
theorem Z23{α β}{a b c:α->β->Prop}{r:Prop}(h:∃x y,a x y/\b x y/\c x y)(k:∀x y,a x y->b x y->c x y->r):r:=by grind
theorem Z24{α β}{a b c d:α->β->Prop}{r:Prop}(h:∃x y,a x y/\b x y/\c x y/\d x y)(k:∀x y,a x y->b x y->c x y->d x y->r):r:=by grind
theorem Z25{α β}{a b c d e:α->β->Prop}{r:Prop}(h:∃x y,a x y/\b x y/\c x y/\d x y/\e x y)(k:∀x y,a x y->b x y->c x y->d x y->e x y->r):r:=by grind
theorem Z26{α β}{a b c d e f:α->β->Prop}{r:Prop}(h:∃x y,a x y/\b x y/\c x y/\d x y/\e x y/\f x y)(k:∀x y,a x y->b x y->c x y->d x y->e x y->f x y->r):r:=by grind
theorem Z33{α β γ}{a b c:α->β->γ->Prop}{r:Prop}(h:∃x y z,a x y z/\b x y z/\c x y z)(k:∀x y z,a x y z->b x y z->c x y z->r):r:=by grind
theorem Z34{α β γ}{a b c d:α->β->γ->Prop}{r:Prop}(h:∃x y z,a x y z/\b x y z/\c x y z/\d x y z)(k:∀x y z,a x y z->b x y z->c x y z->d x y z->r):r:=by grind
theorem Z35{α β γ}{a b c d e:α->β->γ->Prop}{r:Prop}(h:∃x y z,a x y z/\b x y z/\c x y z/\d x y z/\e x y z)(k:∀x y z,a x y z->b x y z->c x y z->d x y z->e x y z->r):r:=by grind
theorem Z36{α β γ}{a b c d e f:α->β->γ->Prop}{r:Prop}(h:∃x y z,a x y z/\b x y z/\c x y z/\d x y z/\e x y z/\f x y z)(k:∀x y z,a x y z->b x y z->c x y z->d x y z->e x y z->f x y z->r):r:=by grind
theorem Z41{α β γ δ}{a:α->β->γ->δ->Prop}{r:Prop}(h:∃x y z u,a x y z u)(k:∀x y z u,a x y z u->r):r:=by grind
theorem Z42{α β γ δ}{a b:α->β->γ->δ->Prop}{r:Prop}(h:∃x y z u,a x y z u/\b x y z u)(k:∀x y z u,a x y z u->b x y z u->r):r:=by grind
theorem Z43{α β γ δ}{a b c:α->β->γ->δ->Prop}{r:Prop}(h:∃x y z u,a x y z u/\b x y z u/\c x y z u)(k:∀x y z u,a x y z u->b x y z u->c x y z u->r):r:=by grind
theorem Z44{α β γ δ}{a b c d:α->β->γ->δ->Prop}{r:Prop}(h:∃x y z u,a x y z u/\b x y z u/\c x y z u/\d x y z u)(k:∀x y z u,a x y z u->b x y z u->c x y z u->d x y z u->r):r:=by grind
theorem Z46{α β γ δ}{a b c d e f:α->β->γ->δ->Prop}{r:Prop}(h:∃x y z u,a x y z u/\b x y z u/\c x y z u/\d x y z u/\e x y z u/\f x y z u)(k:∀x y z u,a x y z u->b x y z u->c x y z u->d x y z u->e x y z u->f x y z u->r):r:=by grind
theorem Z47{α β γ δ}{a b c d e f g:α->β->γ->δ->Prop}{r:Prop}(h:∃x y z u,a x y z u/\b x y z u/\c x y z u/\d x y z u/\e x y z u/\f x y z u/\g x y z u)(k:∀x y z u,a x y z u->b x y z u->c x y z u->d x y z u->e x y z u->f x y z u->g x y z u->r):r:=by grind
theorem Z48{α β γ δ}{a b c d e f g i:α->β->γ->δ->Prop}{r:Prop}(h:∃x y z u,a x y z u/\b x y z u/\c x y z u/\d x y z u/\e x y z u/\f x y z u/\g x y z u/\i x y z u)(k:∀x y z u,a x y z u->b x y z u->c x y z u->d x y z u->e x y z u->f x y z u->g x y z u->i x y z u->r):r:=by grind
theorem Z51{α β γ δ ε}{a:α->β->γ->δ->ε->Prop}{r:Prop}(h:∃x y z u v,a x y z u v)(k:∀x y z u v,a x y z u v->r):r:=by grind
theorem Z53{α β γ δ ε}{a b c:α->β->γ->δ->ε->Prop}{r:Prop}(h:∃x y z u v,a x y z u v/\b x y z u v/\c x y z u v)(k:∀x y z u v,a x y z u v->b x y z u v->c x y z u v->r):r:=by grind
theorem Z54{α β γ δ ε}{a b c d:α->β->γ->δ->ε->Prop}{r:Prop}(h:∃x y z u v,a x y z u v/\b x y z u v/\c x y z u v/\d x y z u v)(k:∀x y z u v,a x y z u v->b x y z u v->c x y z u v->d x y z u v->r):r:=by grind
theorem Z56{α β γ δ ε}{a b c d e f:α->β->γ->δ->ε->Prop}{r:Prop}(h:∃x y z u v,a x y z u v/\b x y z u v/\c x y z u v/\d x y z u v/\e x y z u v/\f x y z u v)(k:∀x y z u v,a x y z u v->b x y z u v->c x y z u v->d x y z u v->e x y z u v->f x y z u v->r):r:=by grind
theorem Z62{α β γ δ ε ζ}{a b:α->β->γ->δ->ε->ζ->Prop}{r:Prop}(h:∃x y z u v w,a x y z u v w/\b x y z u v w)(k:∀x y z u v w,a x y z u v w->b x y z u v w->r):r:=by grind
theorem Xaq(h:True:=by rfl):True:=h
def Xaz:Lean.Syntax:=Xaq._auto_1
theorem Xaj(h:True:=by decide):True:=h
def Xax:Lean.Syntax:=Xaj._auto_1
theorem Xbq(h:True:=by walk_at"v"):True:=h
def Xbz:Lean.Syntax:=Xbq._auto_1
theorem Xbj(h:True:=by walk_at "tok"):True:=h
def Xbx:Lean.Syntax:=Xbj._auto_1
theorem Xcq(h:True:=by walk_at"u"):True:=h
def Xcz:Lean.Syntax:=Xcq._auto_1
theorem Xcj(h:True:=by intro _;rfl):True:=h
def Xcx:Lean.Syntax:=Xcj._auto_1
theorem Xdq(h:True:=by exact fun _ _=>rfl):True:=h
def Xdz:Lean.Syntax:=Xdq._auto_1
theorem Xdj(h:True:=by exact fun _=>rfl):True:=h
def Xdx:Lean.Syntax:=Xdj._auto_1
theorem Xeq(h:True:=by simp):True:=h
def Xez:Lean.Syntax:=Xeq._auto_1
namespace L2
open PySem Sem
theorem ma(h:Runs M Γ p t fs s e s'):s.toks<=s'.toks:=by
 induction h<;>first
  |rfl
  |assumption
  |(rename_i c;exact Nat.le_of_succ_le c)
  |(rename_i a b;exact DO a b)
  |lia
theorem wp_toks{e:X->Pos->MK->Prop}(M:Model)(i:Ctx)(d:Sem X)(pos:Pos)(sh:MK)(hn:n<=sh.toks)
  (qO:wp M i d (fun x p s=>n<=s.toks->e x p s) (fun x p s=>n<=s.toks->exc x p s) pos sh):wp M i d e exc pos sh:=by
 revert qO hn
 induction d generalizing pos sh with
 |pure x=>mright
 |raise v=>mright
 |unsupported|finish|yield|fork|await|register=>exact fun _ h=>h
 |rule _ k b|«at» _ k b|alloc _ k b|loadIfAlive _ k b|point _ k b|ask k b|os _ _ k b|handled _ k b|newGen _ k b|stack k b|thread k b=>mright
 |fresh k b=>exact fun hn h=>b _ _ _ (aiI hn) h
 |load a _ k b|genState a k b=>exact fun hn⟨o,ho,h⟩=>⟨o,ho,b _ _ _ hn h⟩
 |update a _ f k b|choose _ _ k b=>exact fun hn⟨ha,h⟩=>⟨ha,b _ _ _ hn h⟩
 |call c h g l k b=>exact fun hn q_=>Z22 q_ fun r s' hr hk=>⟨r,s',hr,b r pos s' (DO hn<|ma hr) hk⟩
 | resume g r l k b=>exact fun hn  q_=>Z22 q_ fun res s' hw h=>⟨res,s',hw,b _ _ _ (DO hn ((by
   unfold Wakes at hw;split at hw
   .exact hw.elim
   .split at hw
    .obtain⟨m,j,h1,_,_,rfl⟩:=hw;have q:=ma h1;exact q
    .mright
    .rw[hw.2];exact nE _
   .obtain⟨m,j,h1,_,_,rfl⟩:=hw;have q:=ma h1;exact q
   .mright
   lia))) h⟩
theorem aP{t:Sem α}{Q:α->MK->Prop}(hn:n<=s.toks)
  (h:af0 M A t (fun v a=>n<=a.toks->Q v a) (fun e a=>n<=a.toks->E e a) s):af0 M A t Q E s:=fun c p b=>wp_toks M c t p s hn<|h c p b
theorem fH(hn:n<=s.toks)(h:ajR M A c (fun r a=>n<=a.toks->R r a) s):ajR M A c R s:=fun d p e b=>
 let⟨r,a,hr,hR⟩:=h d p e b
 ⟨r,a,hr,hR<|DO hn<|ma hr⟩
end L2
namespace L2
open PySem PySem.Spec PyProof.Rows
inductive Key where
 |inl (i:Int)|inr (x:Str)|nn
 deriving DecidableEq
noncomputable def qW:Key->By->Bool
 |.inl k,v=>ahC k v
 |.inr x,v=>aia x v
 |.nn,v=>match v with
  |.none=>U
  |_=>η
def ab2(w:agN):Key->Int
 |.inl k=>hashInt k
 |.inr x=>hashStr w x
 |.nn=>4238894112
theorem bT:∀{k:Key}{v:By},qW k v=U->(∃i t,k=Key.inl i/\v=aiN i t)\/(∃x t,k=Key.inr x/\v=Value.str x t)\/(k=Key.nn/\v=ajy)
 |.inl i,v,h=>by
  let⟨t,e⟩:=Value.isInt_shape h
  exact .inl ⟨i,t,rfl,e⟩
 |.inr x,v,h=>by
  let⟨t,e⟩:=Value.isStrOf_shape h
  exact .inr (.inl ⟨x,t,rfl,e⟩)
 |.nn,v,h=>by
  cases v with
  |none=>lia
  |_=>exact nomatch h
theorem F5(i:Int)(t:Tok):qW (.inl i) (.int i t)=U:=by simp[qW,ahC]
theorem Gd(x:Str)(t:Tok):qW (.inr x) (.str x t)=U:=by simp[qW,aia]
theorem Ro(a b:Int):decide ((Key.inl a:Key)=Key.inl b)=(a==b):=by
 lia
theorem Sl(a b:Str):decide ((Key.inr a:Key)=Key.inr b)=decide (a=b):=by
 mright
theorem Um(a:Int)(b:Str):decide ((Key.inl a:Key)=Key.inr b)=η:=alk (fun q=>nomatch q)
theorem RP(a:Str)(b:Int):decide ((Key.inr a:Key)=Key.inl b)=η:=alk (fun q=>nomatch q)
theorem GE(h:Q 4238894112 {s with toks:=s.toks+1}):af0 #[4] A (PySem.pyHash .none) Q E s:=by
 refine bY ?_;refine lT ?_;have a:s.TypeIs .none "NoneType":=rfl;refine bY<|wpAny_specialOf a ahv.lookup ?_;refine bY<|wpAny_specialOf a ahv.lookup ?_;refine bY (wpAny_callSpecialIfBoundUnlessNone?_slot a ahv
  (agt ahv a PySem.F.entry_NoneType_hash
   ((wpAny_ret_mkInt ?_)) (PySem.F.args_NoneType_hash_1 _)))
 exact lT h
def cq(prog:ahb)(w:agN):PySem.KeyKind prog w Key where
 is:=qW
 hash:=ab2 w
 inj:=fun v a b d hb=>by
  rcases bT d with⟨i,t,rfl,rfl⟩|⟨x,t,rfl,rfl⟩|⟨rfl,rfl⟩<;>rcases bT hb with⟨j,u,rfl,e⟩|⟨y,u,rfl,e⟩|⟨rfl,e⟩<;>first|rfl|(cases e;rfl)|cases e
 byValue:=fun k v h=>by
  rcases bT h with⟨i,t,rfl,rfl⟩|⟨x,t,rfl,rfl⟩|⟨rfl,rfl⟩<;>rfl
 pyHash:=fun c h=>by
  rcases bT c with⟨i,t,rfl,rfl⟩|⟨x,t,rfl,rfl⟩|⟨rfl,rfl⟩
  .exact wpAny_pyHash_int h
  .exact wpAny_pyHash_str h
  .exact GE h
 eqBool:=fun f c h=>by
  rcases bT f with⟨i,t,rfl,rfl⟩|⟨x,t,rfl,rfl⟩|⟨rfl,rfl⟩
  .rcases bT c with⟨j,u,rfl,rfl⟩|⟨y,u,rfl,rfl⟩|⟨rfl,rfl⟩
   .rw[Ro]at h;exact wpAny_eqBool_int h
   .rw[Um]at h;exact akA i t y u _ _ _ _ h
   .exact ako i t _ _ _ _ h
  .rcases bT c with⟨j,u,rfl,rfl⟩|⟨y,u,rfl,rfl⟩|⟨rfl,rfl⟩
   .rw[RP]at h;exact akB x t j u _ _ _ _ h
   .rw[Sl]at h;exact wpAny_eqBool_str h
   .exact akp x t _ _ _ _ h
  .rcases bT c with⟨j,u,rfl,rfl⟩|⟨y,u,rfl,rfl⟩|⟨rfl,rfl⟩
   .exact akq j u _ _ _ _ h
   .exact akr y u _ _ _ _ h
   .exact ak4 _ _ _ _ _ h
 «strs»:=fun k x t v h=>by
  rcases bT h with⟨i,u,rfl,e⟩|⟨y,u,rfl,e⟩|⟨rfl,e⟩
  .exact nomatch e
  .injection e with e1 _
   subst e1;cases v<;>rfl
  .exact nomatch e
inductive V where
 |non|bl (b:Bool)|int (i:Int)|str (x:Str)|byt (b:Array UInt8)|flt (b:UInt64)|ref (a:aga)|ty (n:String)
 deriving DecidableEq
abbrev alx:=List V
def a7:V->By->Prop
 |.non,u=>u=ajy
 |.bl b,u=>u=alf b
 |.int i,u=>∃t,u=aiN i t
 |.str x,u=>∃t,u=Value.str x t
 |.byt b,u=>∃t,u=Value.bytes b t
 |.flt b,u=>∃t,u=Value.float b t
 |.ref a,u=>u=ahG a
 |.ty n,u=>u=ajz n
abbrev aY:alx->alw->Prop:=Paired a7
theorem aY.length(r:aY xs us):xs.length=us.length:=ajM r
theorem aY.get:∀{xs:alx}{us:alw}{i:Nat}{x:V},aY xs us->xs[i]?=Z x->∃u,us[i]?=Z u/\a7 x u
 |_,_,_,_,.nil,e=>by simp at e
 |_,_,0,_,.cons r _,e=>by grind
 |_,_,i+1,x,.cons _ t,e=>by
  obtain⟨u,h1,h2⟩:=aY.get t (by simpa using e);mright
theorem aY.append{ys:alx}{ws:alw}(h:aY xs us)(s:aY ys ws):aY (xs++ys) (us++ws):=by
 induction h with
 |nil=>exact s
 |cons r _ i=>exact .cons r i
theorem aY.take:∀{xs:alx}{us:alw}(n:Nat),aY xs us->aY (xs.take n) (us.take n)
 |_,_,0,_=>.nil
 |_,_,_+1,.nil=>.nil
 |_,_,n+1,.cons r t=>.cons r<|aY.take n t
theorem aY.drop:∀{xs:alx}{us:alw}(n:Nat),aY xs us->aY (xs.drop n) (us.drop n)
 |_,_,0,r=>r
 |_,_,_+1,.nil=>.nil
 |_,_,n+1,.cons _ t=>aY.drop n t
def qd:Option V->Option By->Prop
 |some v,Z u=>a7 v u
 |none,L=>True
 |_,_=>False
def KV{κ:Type}:List (κ×V)->List (κ×By)->Prop:=Paired fun(p:κ×V)(q:κ×By)=>p.1=q.1/\a7 p.2 q.2
noncomputable def kV:Key->V
 |.inl i=>.int i
 |.inr x=>.str x
 |.nn=>.non
inductive HO where
 |lst (xs:alx)
 |tup (xs:alx)
 |dK (kvs:List<|Key×V)|dT (kvs:List<|List Key×V)
 |set (S:Int->Bool) (n:Nat)
 |ins (C dx:aga) (fs:List<|Str×V)
 |own (x:aga)
 |xd (fs:List<|Str×V)
 |met (f x:aga)
 |rng (lo hi:Int)
 |frz (o:Obj) (u:HO)
 |tbl (q:Str)
 |ext (φ:aij->Prop)
abbrev Hp:=aga->Option HO
def upd(H:Hp)(a:aga)(o:HO):Hp:=fun b=>if b=a then Z o else H b
theorem aG:upd H a o a=Z o:=by unfold upd;rw[ali rfl]
theorem aF(h:b≠a):upd H a o b=H b:=by unfold upd;rw[alj h]
theorem xW:upd (upd H a o) a u=upd H a u:=by
 funext b;unfold upd;split<;>rfl
theorem Vb{H:Hp}(h:H a=Z o)(h':H b=Z u)(d:o≠u):a≠b:=by
 intro e;mright
theorem bq{H:Hp}(h:H a=Z o)(h':H b=L):a≠b:=by
 grind
section
variable(P:ahb)(w:agN)
def cQ(H:Hp)(h:aij)(a:aga):HO->Prop
 |.lst xs=>xs.length<=afT/\∃(its:alw)(n:Nat),aY xs its/\h.get? a=Z {cls:=.type "list",data:=.seq its.toArray n}
 |.tup xs=>xs.length<=afT/\∃its:alw,aY xs its/\akW h a its.toArray
 |.dK kvs=>kvs.length<=afT/\(a==ahg)=η/\∃vs,KV kvs vs/\h.DictOf (cq P w) a vs
 | .dT kvs=>kvs.length<=afT/\(a==ahg)=η/\∃ xs:List (List Key×aga×By),
   Paired (fun(p:List Key×V)(q:List Key×aga×By)=>p.1=q.1/\H q.2.1=Z (.tup<|p.1.map kV)/\a7 p.2 q.2.2) kvs xs /\
   ∃o es d,h.get? a=Z o/\o.ExactDict/\o.data=.dict es d/\es.toList=xs.map (entryOfKey<|tupleKind<|cq P w)/\(xs.map (·.1)).Nodup
 |.set S n=>h.SetOf (intKind P w) a S n
 | .ins C dx fs=>H dx=Z (.own a)/\fs.length<=1000/\dx≠a/\h.get? a=Z (aiy C dx) /\
   ∃mA,h.Ns1 dx mA/\(∀f,qd (fs.lookup f)<|mA f)/\akX mA (fs.map (·.1))
 |.own _=>∃o,h.get? a=Z o
 |.xd fs=>∃mA,h.Ns1 a mA/\∀f,qd (fs.lookup f)<|mA f
 |.rng lo hi=>∃t u v,h.get? a=Z {cls:=.type "range",data:=.fields #[.int lo t,.int hi u,.int 1 v]}
 |.frz o u=>h.get? a=Z o/\cQ H h a u
 |.tbl q=>∃ps,h.get? a=Z (aik ps)/\TriplesOk ps.toList/\∀pos b,codeAmong pos ps.toList=Z b->∃c oc vs t,b=.ref c/\H c=Z (.frz oc<|.own a)/\oc.data=.fields vs/\vs[1]?=Z (.str q t)
 |.met f x=>h.get? a=Z (PySem.W.methodObj (.ref f)<|.ref x)
 |.ext φ=>φ h/\(∃o,h.get? a=Z o)/\∀h1 h2:aij,φ h1->(∀o,h1.get? a=Z o->h2.get? a=Z o)->φ h2
def nU(H:Hp)(h:aij):Prop:=∀a o,H a=Z o->cQ P w H h a o
end
section
variable{a:aga}
theorem cQ.lt(x:cQ P w H h a o):a<h.objs.size:=by
 cases o with
 |lst xs=>obtain⟨_,_,_,_,e⟩:=x;exact OR e
 |tup xs=>let⟨_,_,_,p⟩:=x;exact p.lt
 |dK b=>obtain⟨_,_,_,_,o,_,_,e,_⟩:=x;exact OR e
 |dT b=>obtain⟨_,_,_,_,o,_,_,e,_⟩:=x;exact OR e
 |set S n=>refine Z42 x fun o _ _ _ e _=>?_;exact OR e
 |ins C c fs=>refine Z05 x fun _ _ _ e _=>?_;exact OR e
 |own y=>let⟨_,e⟩:=x;exact OR e
 |xd fs=>obtain⟨_,⟨_,_,_,e,_⟩,_⟩:=x;exact OR e
 |rng lo d=>obtain⟨_,_,_,e⟩:=x;exact OR e
 |frz g u=>let⟨e,_⟩:=x;exact OR e
 |tbl q=>let⟨_,e,_⟩:=x;exact OR e
 |met f y=>exact OR<|(x)
 |ext φ=>let⟨_,⟨_,e⟩,_⟩:=x;exact OR e
theorem Paired.mapP{F G:α->β->Prop}{l₁:List α}{c:List β}(h:Paired F l₁ c)(f:∀a b,F a b->G a b):Paired G l₁ c:=by
 induction h with
 |nil=>exact .nil
 |cons r _ i=>exact .cons (f _ _ r) i
def IE(H:Hp)(b:aga)(u:HO):Prop:=H b=Z u/\match u with
 |.tup _=>True
 |.frz _ _=>True
 |_=>False
theorem cQ.stay(x:cQ P w H h a o)(k:∀b u,(b=a\/H b=Z (.own a))->h.get? b=Z u->h'.get? b=Z u)
  (B:∀b,H b=Z (.own a)->H' b=Z (.own a)) (m:∀b u,IE H b u->IE H' b u):cQ P w H' h' a o:=by
 induction o with
 |lst xs=>obtain⟨z,its,n,r,e⟩:=x;exact⟨z,its,n,r,k _ _ (.inl rfl) e⟩
 |tup xs=>let⟨z,its,r,g,e,c⟩:=x;exact⟨z,its,r,g,k _ _ (.inl rfl) e,c⟩
 |dK l=>obtain⟨z,y,vs,r,g,es,i,e,c⟩:=x;exact⟨z,y,vs,r,g,es,i,k _ _ (.inl rfl) e,c⟩
 |dT l=>
  obtain⟨z,y,xs,r,g,es,i,e,c⟩:=x;exact⟨z,y,xs,Paired.mapP r fun p q z=>⟨z.1,(m _ _ ⟨z.2.1,trivial⟩).1,z.2.2⟩,g,es,i,k _ _ (.inl rfl) e,c⟩
 |set S n=>refine Z42 x fun g es i t e c=>?_;exact⟨g,es,i,t,k _ _ (.inl rfl) e,c⟩
 |ins C I fs=>
  obtain⟨d,z,ne,e,mA,⟨od,es,i,j,c⟩,r⟩:=x;exact⟨B _ d,z,ne,k _ _ (.inl rfl) e,mA,⟨od,es,i,k _ _ (.inr d) j,c⟩,r⟩
 |own y=>let⟨g,e⟩:=x;exact⟨g,k _ _ (.inl rfl) e⟩
 |xd fs=>obtain⟨mA,⟨od,es,i,e,c⟩,r⟩:=x;exact⟨mA,⟨od,es,i,k _ _ (.inl rfl) e,c⟩,r⟩
 |rng lo J=>let⟨t,u,v,e⟩:=x;exact⟨t,u,v,k _ _ (.inl rfl) e⟩
 |frz g u F=>let⟨e,q⟩:=x;exact⟨k _ _ (.inl rfl) e,F q⟩
 |tbl q=>
  refine Z13 x fun ps e tr r=>?_;refine⟨ps,k a _ (.inl rfl) e,tr,fun pos A G=>?_⟩;refine Z43 (r pos A G) fun c oc vs s D j E=>?_;exact⟨c,oc,vs,s,D,(m _ _ ⟨j,trivial⟩).1,E⟩
 |met f y=>
  have e  := x;exact k a _ (.inl rfl) e
 |ext φ=>let⟨p,⟨o,e⟩,st⟩:=x;exact⟨st _ _ p fun o q=>k _ _ (.inl rfl) q,⟨o,k _ _ (.inl rfl) e⟩,st⟩
theorem nU.lt(x:nU P w H h)(e:H a=Z o):a<h.objs.size:=(x a o e).lt
theorem nU.fresh(x:nU P w H h)(e:h.objs.size<=a):H a=L:=by
 cases q:H a with
 |none=>rfl
 |some u=>exact absurd (afZ (x.lt q) e)<|ahV _
theorem nU.kept(x:nU P w H h)(k:∀b u,h.get? b=Z u->h'.get? b=Z u):nU P w H h':=fun a o e=>
 (x a o e).stay (fun b u _ q=>k b u q) (fun _ q=>q) fun _ _ q=>q
theorem nU.laid(x:nU P w H h)(k:∀b u,h.get? b=Z u->h'.get? b=Z u)(d:h.objs.size<=a)(new:cQ P w (upd H a o) h' a o):nU P w (upd H a o) h':=fun b u e=>by
 have hn:=x.fresh d;by_cases hb:b=a
 .subst hb;rw[aG]at e;cases e;exact new
 .rw[aF hb]at e;exact(x b u e).stay (fun c v _ q=>k c v q) (fun c q=>by rw[aF<|bq q hn];exact q) fun c xs q=>⟨by rw[aF<|bq q.1 hn];exact q.1,q.2⟩
end
def Rd(H:Hp)(a:aga)(u:HO):Prop:=H a=Z u\/∃o,H a=Z (.frz o u)
theorem Rd.ok(r:Rd H a u)(x:nU P w H h):cQ P w H h a u:=by
 rcases r with r|⟨o,r⟩
 .exact x a u r
 .obtain⟨_,q⟩:=x a _ r;exact q
def ZN:Option HO->Prop
 |some (.lst _)=>True
 |some (.dK _)=>True
 |some (.dT _)=>True
 |some (.set _ _)=>True
 |some (.ins _ _ _)=>True
 |some (.ext _)=>True
 |_=>False
section
theorem nU.write(ok:nU P w H h)(f:ZN<|H x)(l:e=x\/H e=Z (.own x))(k:∀b u,b≠e->h.get? b=Z u->h'.get? b=Z u)(g:∃u,h'.get? e=Z u)
  (new:cQ P w (upd H x o') h' x o'):nU P w (upd H x o') h':=fun b u q=>by
 have a:∀c y,H c=Z (.own y)->c≠x:=fun c y r z=>by subst z;rw[r]at f;exact f
 have d:∀c u,IE H c u->c≠x:=fun c u r z=>by subst z;rw[r.1]at f;have:=r.2;cases u<;>first|exact f|exact this
 by_cases hb:b=x
 .subst hb;rw[aG]at q;cases q;exact new
 .rw[aF hb]at q;by_cases i:b=e
  .have q':H b=Z (.own x):=by
    mright
   rw[q]at q';cases q';let⟨v,hv⟩:=g
   exact⟨v,⊥⟩
  .refine(ok b u q).stay (fun c v j r=>k c v ?_ r) (fun c r=>by rw[aF<|a c b r];exact r) fun c xs r=>⟨by rw[aF<|d c xs r];exact r.1,r.2⟩
   grind
end
structure Un(fs ex:alv)(H H':Hp)(h h':aij):Prop where
 keep:∀b o,h.get? b=Z o->H b=L->b∉fs->b∉ex->h'.get? b=Z o
 slot:∀b o,h.get? b=Z o->H b=L->b∈fs->b∉ex->∃sl,h'.get? b=Z {o with slots:=sl}
 free:∀b o,h.get? b=Z o->H b=L->b∉ex->H' b=L
 there:∀b o,h.get? b=Z o->b∉ex->∃o',h'.get? b=Z o'
 tups:∀b xs,H b=Z (.tup xs)->H' b=Z (.tup xs)
 frzs:∀b o u,H b=Z (.frz o u)->H' b=Z (.frz o u)
 tbls:∀b q,H b=Z (.tbl q)->H' b=Z (.tbl q)
section
variable{h h1 h2:aij}{a x:aga}
theorem Un.any(u:Un fs ex H H1 h h1)(q:h.get? b=Z ob)(n:H b=L)(a:b∉ex):∃c,h1.get? b=Z {ob with slots:=c}:=by
 by_cases hb:b∈fs
 .exact u.slot b ob q n hb a
 .exact⟨ob.slots,u.keep b ob q n hb a⟩
theorem Un.kept(k:∀b u,h.get? b=Z u->h'.get? b=Z u):Un fs ex H H h h':=
 ⟨fun b a q _ _ _=>k b a q,fun b a q _ _ _=>⟨a.slots,k b a q⟩,fun _ _ _ n _=>n,fun b a q _=>⟨a,k b a q⟩,fun _ _ q=>q,fun _ _ _ q=>q,fun _ _ q=>q⟩
theorem Un.laid(k:∀b u,h.get? b=Z u->h'.get? b=Z u)(c:h.objs.size<=a)(hn:H a=L):Un fs ex H (upd H a o) h h' where
 keep:=fun b u q _ _ _=>k b u q
 slot:=fun b u q _ _ _=>⟨u.slots,k b u q⟩
 free:=fun b u q n _=>by rw[aF<|af7<|afZ (OR q) c];exact n
 there:=fun b u q _=>⟨u,k b u q⟩
 tups:=fun b xs q=>by rw[aF<|bq q hn];exact q
 frzs:=fun b u xs q=>by rw[aF<|bq q hn];exact q
 tbls:=fun b ps q=>by rw[aF<|bq q hn];exact q
theorem Un.write(c:ZN<|H x)(g:e=x\/H e=Z (.own x))(k:∀b u,b≠e->h.get? b=Z u->h'.get? b=Z u)(f:∃u,h'.get? e=Z u):Un fs ex H (upd H x o) h h':=by
 have d:∀b,H b=L->b≠x:=fun b n z=>by subst z;rw[n]at c;exact c
 have hb:∀b,H b=L->b≠e:=fun b n z=>by
  mright
 have a:∀b u,H b=Z u->¬ZN (Z u)->b≠x:=fun b u q nm z=>⊥
 refine⟨fun b u q n _ _=>k b u (hb b n) q,fun b u q n _ _=>⟨u.slots,k b u (hb b n) q⟩,fun b u q n _=>by rw[aF<|d b n];exact n,fun b u q _=>?_,
  fun b xs q=>by rw[aF (a b _ q fun z=>z)];exact q,fun b u xs q=>by rw[aF (a b _ q fun z=>z)];exact q,fun b ps q=>by rw[aF (a b _ q fun z=>z)];exact q⟩
 grind
end
def ZX(h:aij)(H:Hp):alv:=(agj h.objs.size).filter fun a=>(H a).isSome
def zE(h:aij)(H:Hp):aij:=PySem.W.hideAll h<|ZX h H
theorem IT(e:h.get? b=Z o)(n:H b=L):(zE h H).get? b=Z o:=
 PySem.W.hideAll_get _ e fun a=>by
  have q:(H b).isSome=U:=(agb.mp a).2;rw[n]at q;simp at q
theorem MY(e:(zE h H).get? b=Z o):h.get? b=Z o/\H b=L:=by
 have a:h.get? b=Z o:=PySem.W.of_hideAll (ZX h H) e;refine⟨a,?_⟩;cases q:H b with
 |none=>rfl
 |some x=>
  have c:b∈ZX h H:=agb.mpr ⟨agO.mpr<|OR a,by simp[q]⟩;have z:(zE h H).get? b=L:=PySem.W.hideAll_none (ZX h H) c;rw[z]at e;cases e
structure Mod(K:aT)(mg:alu)(base:aij):Prop where
 kin:K.In base
 glob:base.Ns age mg
 blt:∃mb,base.Ns builtinsNs mb/\∀x:Str,x≠"__name__"->mb x=af9 x
 nolimit:base.NoLimit
set_option genInjectivity false
structure Cx where
 prog:ahb
 w:agN
 K:aT
 mg:Str->Option By
 base:aij
 A:ahU
 N:alq
 s₀:MK
 H₀:Hp
 env:Env
 outer:List Env
 stack:List Env
 ex:alv
 fn:Str->Bool
 calm:Bool
 tn:Nat:=0
 pn:alr
 xe:By->MK->Prop
def tM(l:List Env):alv:=l.filterMap (·.frame)
abbrev Cx.fs(X:Cx):alv:=tM X.outer
def qm(a:Scope)(x:Str):Prop:=a.names.lookup x=Z .local\/a.names.lookup x=Z .cell\/a.names.lookup x=Z .free
def Loc(a:Scope)(x:Str):Prop:=a.names.lookup x=Z .local\/a.names.lookup x=Z .cell
def aa1(env:Env)(h:aij)(m:alu)(x:Str)(u:By):Prop:=
 (env.kindOf x=Z .local/\m x=Z u)\/((env.kindOf x=Z .cell\/env.kindOf x=Z .free)/\∃c,env.cells.lookup x=Z c/\h.IsCell c (Z u))
noncomputable def ic(K:aT)(p:aga×Obj):Option<|aga×Str:=match p.2.data with
 |.fields vs=>match(vs[1]?:Option By),(vs[11]?:Option By)with
  |some (.str q _),Z (.ref P)=>if(K.lookup P).isNone&&aiX K p.1 P then Z (P,q++".<locals>."++"<lambda>")else L
  |_,_=>L
 |_=>L
def UV(K:aT)(H:Hp):Prop:=∀p∈K,∀x,ic K p=Z x->H x.1=Z (.tbl x.2)
structure Cx.Ok(X:Cx):Prop where
 mod:Mod X.K X.mg X.base
 kind:X.env.scope.kind=.function
 glob:X.env.globals=age
 blt:X.env.builtins=builtinsNs
 above:X.s₀.heap.objs.size<=X.env.locals
 inj:∀x y c,X.env.cells.lookup x=Z c->X.env.cells.lookup y=Z c->x=y
 has:∀x,(X.env.kindOf x=Z .cell\/X.env.kindOf x=Z .free)->∃c,X.env.cells.lookup x=Z c
 cab:∀x c,X.fn x=U->X.env.cells.lookup x=Z c->X.s₀.heap.objs.size<=c
 hd:X.calm=U->X.A.handled=L
 frames:X.A.frames=Z X.stack
 stk:X.stack=X.outer\/(X.stack=X.env::X.outer/\X.env.frame=Z X.env.locals)
 exf:∀b∈X.ex,b≠X.env.locals/\∀x c,X.env.cells.lookup x=Z c->c≠b
 bs:∀b o,X.base.get? b=Z o->X.s₀.heap.get? b=Z o/\X.H₀ b=L
 bsz:X.base.objs.size<=X.s₀.heap.objs.size
 noex:∀b o,X.base.get? b=Z o->b∉X.ex
 exfs:∀b∈X.ex,b∉X.fs
 funs:X.s₀.heap.FunFrames X.base X.outer
 frf:(∀b∈X.fs,X.H₀ b=L)/\UV X.K X.H₀
structure Inv(X:Cx)(aa:alr)(Y:List (Option V))(H:Hp)(s:MK):Prop where
 ok:X.Ok
 os:s.os=X.s₀.os
 bare:AllBare s.gens
 base:Un X.fs X.ex X.H₀ H X.s₀.heap s.heap
 loc:∃m,s.heap.Ns X.env.locals m/\∀(i:Nat)(x:Str)(v:V),X.N[i]?=Z x->Y[i]?=Z (Z v)->qm X.env.scope x->∃u,a7 v u/\aa1 X.env s.heap m x u
 cell:∀x c,X.env.cells.lookup x=Z c->∃v,s.heap.IsCell c v
 free:H X.env.locals=L
 freeC:∀x c,X.env.cells.lookup x=Z c->H c=L
 pin:∀p∈X.pn++aa,s.heap.get? p.1=Z p.2/\H p.1=L/\p.1≠X.env.locals/\p.1∉X.fs/\∀v,p.2.data≠.cell v
 hok:nU X.prog X.w H s.heap
 len:Y.length=X.N.length
 tk:X.tn<=s.toks
end L2
local macro_rules | `(tactic| walk_at "tok") => `(tactic| first | assumption | exact L2.Inv.tk (by assumption) | exact Nat.le_succ_of_le (L2.Inv.tk (by assumption)) | exact Nat.le_succ_of_le (Nat.le_succ_of_le (L2.Inv.tk (by assumption))) | (have hI := L2.Inv.tk (by assumption); omega) | exact Nat.zero_le _)
namespace L2
open PySem PySem.Spec PyProof.Rows
section
variable{X:Cx}
theorem Cx.Ok.nofr(ok:X.Ok)(e:X.base.get? b=Z o):b∉X.fs:=fun hb=>by
 have:=(ok.funs.mem hb).1
 rw[e]at this;cases this
theorem Inv.bs(I:Inv X aa Y H s):∀b o,X.base.get? b=Z o->s.heap.get? b=Z o/\H b=L:=fun b o e=>
 ⟨I.base.keep b o (I.ok.bs b o e).1 (I.ok.bs b o e).2 (I.ok.nofr e)<|I.ok.noex b o e,I.base.free b o (I.ok.bs b o e).1 (I.ok.bs b o e).2<|I.ok.noex b o e⟩
theorem Inv.bk(I:Inv X aa Y H s):∀b o,X.base.get? b=Z o->s.heap.get? b=Z o:=fun b o e=>(I.bs b o e).1
theorem Inv.mod(I:Inv X aa Y H s):Mod X.K X.mg X.base:=I.ok.mod
theorem Inv.tb(I:Inv X aa Y H s):UV X.K H:=fun p a x e=>I.base.tbls _ _<|I.ok.frf.2 p a x e
theorem Inv.kIn(I:Inv X aa Y H s):X.K.In s.heap:=I.ok.mod.kin.keeps I.bk
theorem Inv.fr(I:Inv X aa Y H s):∃m,Fr X.base X.env.locals s.heap m:=
 let⟨m,hn,_⟩:=I.loc
 ⟨m,hn,I.bk,DO I.ok.bsz I.ok.above⟩
theorem Inv.lt(I:Inv X aa Y H s):X.env.locals<s.heap.objs.size:=let⟨_,hn,_⟩:=I.loc;hn.lt
theorem Inv.sz(I:Inv X aa Y H s):X.s₀.heap.objs.size<=s.heap.objs.size:=DO I.ok.above<|akY I.lt
theorem Inv.nofs(I:Inv X aa Y H s){a:aga}(h:s.heap.objs.size<=a):a∉X.fs:=fun hb=>by
 obtain⟨_,o,b,_⟩:=I.ok.funs.mem hb;exact absurd (afZ (OR b)<|DO I.sz h)<|ahV _
theorem Inv.cne(I:Inv X aa Y H s):∀x c,X.env.cells.lookup x=Z c->c≠X.env.locals:=fun x c e z=>by
 let⟨v,o,ho,hd⟩:=I.cell x c e
 obtain⟨m,⟨d,es,f,b,a,_⟩,_⟩:=I.loc
 lia
theorem Inv.funs(I:Inv X aa Y H s):s.heap.FunFrames X.base X.outer:=by
 have all:∀(l:List Env),(∀b∈tM l,b∈X.fs)->X.s₀.heap.FunFrames X.base l->s.heap.FunFrames X.base l:=by
  intro l;induction l with
  |nil=>intro _ _;trivial
  |cons env r i=>
   intro hs g;obtain⟨f,⟨a,o,c,hn,h,d⟩,hr⟩:=g;have hL  := hs a (by unfold tM;mright);let⟨sl,e⟩:=I.base.slot a o h (I.ok.frf.1 a hL) hL fun z=>I.ok.exfs a z hL
   exact⟨f,⟨a,_,c,hn,e,d⟩,i (fun b hb=>hs b<|by unfold tM;rw[aks,c];exact mK _ hb) hr⟩
 exact all X.outer (fun _ hb=>hb) I.ok.funs
theorem Inv.stack(I:Inv X aa Y H s):s.heap.FunFrames X.base X.stack:=by
 rcases I.ok.stk with e|⟨e,hf⟩
 .rw[e];exact I.funs
 .rw[e];let⟨m,hn,_⟩:=I.loc
  refine .cons (by rw[I.ok.kind];decide) hf hn ?_ I.funs;exact akj<|DO I.ok.bsz I.ok.above
theorem Inv.stkSub(I:Inv X aa Y H s):∀b∈tM X.stack,b∈X.env.locals::X.fs:=fun b hb=>by
 rcases I.ok.stk with e|⟨e,hf⟩
 .mright
 .rw[e]at hb;unfold tM at hb;rw[aks,hf]at hb;exact hb
theorem Inv.stkFree(I:Inv X aa Y H s):∀b∈tM X.stack,H b=L:=fun b hb=>by
 rcases oR.mp (I.stkSub b hb)with e|hb
 .rw[e];exact I.free
 .obtain⟨_,o,a,_⟩:=I.ok.funs.mem hb;exact I.base.free b o a (I.ok.frf.1 b hb) fun z=>I.ok.exfs b z hb
theorem Inv.step{ch:alv}(I:Inv X aa Y H s)
  (f:∀b∈ch,(b∈X.ex\/X.s₀.heap.objs.size<=b)/\b≠X.env.locals/\(∀x c,X.env.cells.lookup x=Z c->c≠b)/\∀p∈X.pn++aa,p.1≠b)
  (keep:∀b o,b≠X.env.locals->b∉X.fs->b∉ch->s.heap.get? b=Z o->H b=L->h'.get? b=Z o)
  (slot:∀b o,b≠X.env.locals->b∈X.fs->b∉ch->s.heap.get? b=Z o->H b=L->∃E,h'.get? b=Z {o with slots:=E}) (free:∀b o,b∉ch->s.heap.get? b=Z o->H b=L->H' b=L)
  (there:∀b o,b∉ch->s.heap.get? b=Z o->∃B,h'.get? b=Z B)
  (tups:∀b xs,H b=Z (.tup xs)->H' b=Z (.tup xs)) (frzs:∀b o u,H b=Z (.frz o u)->H' b=Z (.frz o u)) (tbls:∀b q,H b=Z (.tbl q)->H' b=Z (.tbl q))
  (N:∀m,s.heap.Ns X.env.locals m->h'.Ns X.env.locals m) (C:nU X.prog X.w H' h') (hg:AllBare g') (K:autoParam (X.tn<=t') Xbx):
  Inv X aa Y H' {s with heap:=h',gens:=g',drawn:=d',toks:=t'}:=by
 have A:∀b o,X.s₀.heap.get? b=Z o->b≠X.env.locals:=fun b o e=>af7<|afZ (OR e) I.ok.above;have h:∀b o,X.s₀.heap.get? b=Z o->b∉X.ex->b∉ch:=fun b o e a hb=>by
  rcases(f b hb).1 with z|z
  .exact a z
  .exact absurd (afZ (OR e) z) (ahV _)
 have g:∀x c,X.env.cells.lookup x=Z c->∀v,s.heap.IsCell c v->h'.IsCell c v:=fun x c e v⟨o,y,hd⟩=>by
  have j:c∉ch:=fun z=>(f c z).2.2.1 x c e rfl;by_cases J:c∈X.fs
  .obtain⟨E,q⟩:=slot c o (I.cne x c e) J j y<|I.freeC x c e;exact⟨_,q,hd⟩
  .exact⟨o,keep c o (I.cne x c e) J j y<|I.freeC x c e,hd⟩
 refine⟨I.ok,I.os,hg,⟨fun b o e n hb a=>?_,fun b o e n hb a=>?_,fun b o e n a=>?_,fun b o e a=>?_,fun b xs e=>tups b xs<|I.base.tups b xs e,fun b o xs e=>frzs b o xs<|I.base.frzs b o xs e,fun b ps e=>?_⟩,?_,fun x c e=>?_,?_,fun x c e=>?_,fun p G=>?_,C,I.len,K⟩
 .exact keep b o (A b o e) hb (h b o e a) (I.base.keep b o e n hb a) (I.base.free b o e n a)
 .let⟨E,t⟩:=I.base.slot b o e n hb a
  obtain⟨D,F⟩:=slot b _ (A b o e) hb (h b o e a) t<|I.base.free b o e n a;exact⟨D,F⟩
 .let⟨B,t⟩:=I.base.there b o e a
  exact free b B (h b o e a) t<|I.base.free b o e n a
 .let⟨B,t⟩:=I.base.there b o e a
  exact there b B (h b o e a) t
 .exact tbls b ps (I.base.tbls b ps e)
 .let⟨m,hn,hl⟩:=I.loc
  refine⟨m,N m hn,fun i x v t F M=>?_⟩;let⟨u,r,l⟩:=hl i x v t F M
  refine⟨u,r,?_⟩;rcases l with l|⟨k,c,e,z⟩
  .exact .inl l
  .exact .inr ⟨k,c,e,g x c e _ z⟩
 .let⟨v,z⟩:=I.cell x c e
  exact⟨v,g x c e v z⟩
 .obtain⟨m,⟨o,_,_,y,_⟩,_⟩:=I.loc;exact free _ o (fun z=>(f _ z).2.1 rfl) y I.free
 .let⟨v,o,y,hd⟩:=I.cell x c e
  exact free c o (fun z=>(f c z).2.2.1 x c e rfl) y<|I.freeC x c e
 .let⟨e,n,ne,nf,d⟩:=I.pin p G
  have j:p.1∉ch:=fun z=>(f p.1 z).2.2.2 p G rfl;mright
theorem Inv.un(I:Inv X aa Y H s)(u:Un X.fs [] H H' s.heap h')(a:nU X.prog X.w H' h')(h:autoParam (X.tn<=t') Xbx):Inv X aa Y H' {s with heap:=h',toks:=t'}:=by
 obtain⟨m,⟨o,es,j,c,r⟩,_⟩:=id I.loc;obtain⟨i,f⟩:=u.any c I.free ∅;exact I.step (ch:=[]) (fun _ z=>nomatch z) (fun b o _ hb _ e n=>u.keep b o e n hb<|∅) (fun b o _ hb _ e n=>u.slot b o e n hb<|∅) (fun b o _ e n=>u.free b o e n<|∅) (fun b o _ e=>u.there b o e<|∅) u.tups u.frzs u.tbls (fun g d=>by
  let⟨o',es',ep',ho',r'⟩:=d
  rw[c]at ho';cases ho';exact⟨_,es',ep',f,r'⟩) a I.bare
theorem Inv.call(I:Inv X aa Y H s)(u:Un (tM X.stack) ch H H' s.heap h')(g:nU X.prog X.w H' h')(hg:AllBare g')
  (d:∀b∈ch,(b∈X.ex\/X.s₀.heap.objs.size<=b)/\b≠X.env.locals/\(∀x c,X.env.cells.lookup x=Z c->c≠b)/\∀p∈X.pn++aa,p.1≠b) (v:autoParam (X.tn<=t') Xbx):
  Inv X aa Y H' {s with heap:=h',gens:=g',drawn:=d',toks:=t'}:=by
 obtain⟨m,⟨o,es,y,k,r⟩,_⟩:=id I.loc;let⟨sl,j⟩:=u.any k I.free fun z=>(d _ z).2.1 rfl
 exact I.step d (fun b o j hb a e n=>u.keep b o e n (fun z=>(oR.mp<|I.stkSub b z).elim j hb) a) (fun b o _ _ a e n=>u.any e n a) (fun b o a e n=>u.free b o e n a) (fun b o a e=>u.there b o e a) u.tups u.frzs u.tbls (fun t q=>by
  obtain⟨A,i,h,f,l⟩:=q;rw[k]at f;cases f;exact⟨_,i,h,j,l⟩) g hg
theorem Inv.turned(I:Inv X aa Y H s)(k:∀b o,b≠it->s.heap.get? b=Z o->h'.get? b=Z o)(hn:H it=L)(d:it≠X.env.locals)
  (h1:it∈X.ex\/X.s₀.heap.objs.size<=it) (h2:∀x c,X.env.cells.lookup x=Z c->c≠it) (f:∀p∈X.pn++aa,p.1≠it) (h:autoParam (X.tn<=t') Xbx):Inv X aa Y H {s with heap:=h',toks:=t'}:=by
 refine I.step (ch:=[it]) (fun b hb=>?_) (fun b o _ _ a e _=>k b o (fun z=>a<|by simp[z]) e) (fun b o _ _ a e _=>⟨o.slots,k b o (fun z=>a<|by simp[z]) e⟩) (fun _ _ _ _ n=>n)
  (fun b o a e=>⟨o,k b o (fun z=>a<|by simp[z]) e⟩) (fun _ _ e=>e) (fun _ _ _ e=>e) (fun _ _ e=>e) (fun m g=>?_) (fun b u e=>?_) I.bare
 .have e  := by simpa using hb
  subst e;exact⟨h1,d,h2,f⟩
 .let⟨o,es,ep,ho,r⟩:=g
  exact⟨o,es,ep,k _ o (ah5 d) ho,r⟩
 .refine(I.hok b u e).stay (fun c v a q=>k c v ?_ q) (fun _ q=>q) fun _ _ q=>q
  lia
theorem Inv.tok(I:Inv X aa Y H s)(t:Nat)(a:autoParam (X.tn<=t) Xbx):Inv X aa Y H {s with toks:=t}:=I.un (Un.kept fun _ _ q=>q) I.hok
theorem Inv.kept(I:Inv X aa Y H s)(k:∀b u,s.heap.get? b=Z u->h'.get? b=Z u)(a:autoParam (X.tn<=t') Xbx):Inv X aa Y H {s with heap:=h',toks:=t'}:=I.un (Un.kept k)<|I.hok.kept k
theorem Inv.laid{a:aga}(I:Inv X aa Y H s)(k:∀b u,s.heap.get? b=Z u->h'.get? b=Z u)(c:s.heap.objs.size<=a)(new:cQ X.prog X.w (upd H a o) h' a o)(d:autoParam (X.tn<=t') Xbx):
  Inv X aa Y (upd H a o) {s with heap:=h',toks:=t'}:=I.un (Un.laid k c<|I.hok.fresh c)<|I.hok.laid k c new
theorem Inv.write(I:Inv X aa Y H s)(c:ZN<|H x)(d:e=x\/H e=Z (.own x))(k:∀b u,b≠e->s.heap.get? b=Z u->h'.get? b=Z u)(a:∃u,h'.get? e=Z u)
  (new:cQ X.prog X.w (upd H x o) h' x o) (f:autoParam (X.tn<=t') Xbx):Inv X aa Y (upd H x o) {s with heap:=h',toks:=t'}:=I.un (Un.write c d k a)<|I.hok.write c d k a new
theorem Inv.pins_of(I:Inv X aa Y H s)(h:∀p∈pins',s.heap.get? p.1=Z p.2/\H p.1=L/\p.1≠X.env.locals/\p.1∉X.fs/\∀v,p.2.data≠.cell v):Inv X pins' Y H s:=
 ⟨I.ok,I.os,I.bare,I.base,I.loc,I.cell,I.free,I.freeC,fun p a=>(BY.mp a).elim (fun z=>I.pin p<|agy _ z)<|h p,I.hok,I.len,I.tk⟩
theorem yP{N:alq}(c:N.Nodup){i j:Nat}(a:N[i]?=Z x)(b:N[j]?=Z x):i=j:=by
 let⟨h1,e1⟩:=af1.mp a
 let⟨h2,e2⟩:=af1.mp b
 exact(List.getElem_inj c).mp<|e1.trans e2.symm
theorem F4(I:Inv X aa Y H s)(V:X.N.Nodup)(G:X.N[i]?=Z x)(t:Loc X.env.scope x)(r:a7 v u)
  (h:∀O,Inv X aa (Y.set i<|Z v) H O->(∃a,agD a s.heap O.heap/\(a=X.env.locals\/X.env.cells.lookup x=Z a))->Q () O) (W:autoParam #[3] Xcz):af0 M A (storeName X.env x u) Q E s:=by
 let⟨m,hn,hl⟩:=id I.loc
 have F:(X.env.scope.kind==.class||(X.env.scope.kind==.module&&X.env.locals != X.env.globals))=η:=by rw[I.ok.kind];rfl
 have C:i<Y.length:=by rw[I.len];exact(af1.mp G).1
 have cne:=I.cne;have g:∀{a:aga}{h':aij},(∃o,s.heap.get? a=Z o/\H a=L)->agD a s.heap h'->nU X.prog X.w H h':=fun{a h'}ha hs b ob e=>by
  let⟨_,_,hfree⟩:=ha
  refine(I.hok b ob e).stay (fun c S l q=>(hs.2 c ?_).trans q) (fun _ q=>q) fun _ _ q=>q;rintro rfl;rcases l with rfl|l
  .rw[hfree]at e;cases e
  .rw[hfree]at l;cases l
 rcases t with hk|hk
 .refine wpAny_storeName_local hk hn (fun h' P hs=>?_) F;let⟨oL,_,_,hoL,_⟩:=id hn
  refine h _ ⟨I.ok,I.os,I.bare,⟨fun b o e n hb t=>?_,fun b o e n hb t=>?_,I.base.free,fun b o e t=>?_,I.base.tups,I.base.frzs,I.base.tbls⟩,⟨_,P,fun j y K f B R=>?_⟩,fun y c e=>?_,I.free,I.freeC,fun p T=>?_,g ⟨oL,hoL,I.free⟩ hs,by simpa using I.len,by walk_at "tok"⟩ ⟨_,hs,.inl rfl⟩
  .exact(hs.2 b<|af7<|afZ (OR e) I.ok.above).trans (I.base.keep b o e n hb t)
  .let⟨sl,f⟩:=I.base.slot b o e n hb t
   exact⟨sl,(hs.2 b<|af7<|afZ (OR e) I.ok.above).trans f⟩
  .let⟨o',f⟩:=I.base.there b o e t
   exact⟨o',(hs.2 b<|af7<|afZ (OR e) I.ok.above).trans f⟩
  .by_cases hj:j=i
   .subst hj;rw[G]at f;cases f;rw[ajY C]at B;cases B;exact⟨u,r,.inl ⟨hk,∅⟩⟩
   .rw[aif<|ah5 hj]at B;let⟨u',r',q⟩:=hl j y K f B R
    refine⟨u',r',?_⟩;rcases q with⟨k,e⟩|⟨k,c,e,z⟩
    .refine .inl ⟨k,?_⟩
     have:y≠x:=fun e=>hj<|yP V f<|e▸G
     simp[this,e]
    .exact .inr ⟨k,c,e,z.sameBut hs<|cne y c e⟩
  .let⟨S,z⟩:=I.cell y c e
   exact⟨S,z.sameBut hs<|cne y c e⟩
  .let⟨e,n,ne,nf,d⟩:=I.pin p T
   exact⟨(hs.2 p.1 ne).trans e,n,ne,nf,d⟩
 .have hfn:X.fn x=U:=by
   rcases W with z|z
   .exact z
   .rw[z]at hk;cases hk
  let⟨c,l⟩:=I.ok.has x<|.inl hk
  let⟨S,z⟩:=I.cell x c l
  refine wpAny_storeName_cell I.ok.kind hk l z fun h' D hs=>?_;let⟨oc,hoc,hocd⟩:=id z
  refine h {s with heap:=h'} ⟨I.ok,I.os,I.bare,⟨fun b o e n hb t=>?_,fun b o e n hb t=>?_,I.base.free,fun b o e t=>?_,I.base.tups,I.base.frzs,I.base.tbls⟩,⟨m,hn.sameBut hs<|ah5<|cne x c l,fun j y K f B R=>?_⟩,fun y J e=>?_,I.free,I.freeC,fun p T=>?_,g ⟨oc,hoc,I.freeC x c l⟩ hs,by simpa using I.len,I.tk⟩ ⟨c,hs,.inr l⟩
  .exact(hs.2 b<|af7<|afZ (OR e)<|I.ok.cab x c hfn l).trans (I.base.keep b o e n hb t)
  .let⟨sl,f⟩:=I.base.slot b o e n hb t
   exact⟨sl,(hs.2 b<|af7<|afZ (OR e)<|I.ok.cab x c hfn l).trans f⟩
  .let⟨o',f⟩:=I.base.there b o e t
   exact⟨o',(hs.2 b<|af7<|afZ (OR e)<|I.ok.cab x c hfn l).trans f⟩
  .by_cases hj:j=i
   .subst hj;rw[G]at f;cases f;rw[ajY C]at B;cases B;exact⟨u,r,.inr ⟨.inl hk,c,l,D⟩⟩
   .rw[aif<|ah5 hj]at B;let⟨u',r',q⟩:=hl j y K f B R
    refine⟨u',r',?_⟩;rcases q with q|⟨k,J,e,z'⟩
    .exact .inl q
    .refine .inr ⟨k,J,e,z'.sameBut hs ?_⟩;rintro rfl;exact hj<|yP V f<|I.ok.inj _ _ _ e l▸G
  .by_cases hcc:J=c
   .subst hcc;exact⟨_,D⟩
   .let⟨w2,z2⟩:=I.cell y J e
    exact⟨w2,z2.sameBut hs hcc⟩
  .let⟨e,n,ne,nf,d⟩:=I.pin p T
   refine⟨(hs.2 p.1 ?_).trans e,n,ne,nf,d⟩
   grind
theorem sF(I:Inv X aa Y H s)(f:X.N.Nodup)(c:X.N[i]?=Z x)(b:Loc X.env.scope x)(r:a7 v u)
  (h:∀a,Inv X aa (Y.set i<|Z v) H a->Q () a) (e:autoParam #[3] Xcz):af0 M A (storeName X.env x u) Q E s:=
 F4 I f c b r (fun a d _=>h a d) e
theorem Inv.call'(I:Inv X aa Y H s)(f:s'.os=s.os)(u:Un (tM X.stack) ch H H' s.heap s'.heap)(a:nU X.prog X.w H' s'.heap)(hg:AllBare s'.gens)
  (d:∀b∈ch,(b∈X.ex\/X.s₀.heap.objs.size<=b)/\b≠X.env.locals/\(∀x c,X.env.cells.lookup x=Z c->c≠b)/\∀p∈X.pn++aa,p.1≠b) (h:autoParam (X.tn<=s'.toks) Xbx):Inv X aa Y H' s':=by
 obtain⟨h',g',d',t',g⟩:=s';have e  := f;subst e;exact I.call u a hg d
end
abbrev XK:=By->Option aga->Hp->Prop
abbrev St:=List<|Option V
abbrev VK:=V->Hp->Prop
abbrev TE:=St->Hp->VK->Prop
abbrev TT:=St->Hp->(Bool->Hp->Prop)->Prop
abbrev TA:=St->Hp->(alx->Hp->Prop)->Prop
structure Ends where
 nx:St->Hp->Prop
 rt:VK
 bk:St->Hp->Prop:=fun _ _=>False
 ct:St->Hp->Prop:=fun _ _=>False
abbrev TS:=Ends->St->Hp->Prop
def EP(X:Cx)(b:alr)(Y:St)(Q:VK)(u:By)(a:MK):Prop:=∃v H',Inv X b Y H' a/\a7 v u/\Q v H'
def TP(X:Cx)(c:alr)(Y:St)(Q:Bool->Hp->Prop)(b:Bool)(a:MK):Prop:=∃H',Inv X c Y H' a/\Q b H'
def AP(X:Cx)(b:alr)(Y:St)(Q:alx->Hp->Prop)(us:alw)(a:MK):Prop:=∃vs H',Inv X b Y H' a/\aY vs us/\Q vs H'
def SP(X:Cx)(c:alr)(D:Ends)(f:Flow)(b:MK):Prop:=
 match f with
 |.next=>∃a H',Inv X c a H' b/\D.nx a H'
 |.brk=>∃a H',Inv X c a H' b/\D.bk a H'
 |.cont=>∃a H',Inv X c a H' b/\D.ct a H'
 |.ret u=>∃v a H',Inv X c a H' b/\a7 v u/\D.rt v H'
def PE(X:Cx)(e:agR)(t:TE):Prop:=
 ∀(a:alr)(s:MK)(Y:St)(H:Hp)(Q:VK),Inv X a Y H s->t Y H Q->af0 #[1] X.A (eval e X.env) (EP X a Y Q) X.xe s
def PT(X:Cx)(e:agR)(t:TT):Prop:=
 ∀(a:alr)(s:MK)(Y:St)(H:Hp)(Q:Bool->Hp->Prop),Inv X a Y H s->t Y H Q->af0 #[1] X.A (isTrue e X.env<|eval e X.env) (TP X a Y Q) X.xe s
def PW(X:Cx)(e:agR)(t:TT):Prop:=
 ∀(a:Sem By)(b:alr)(s:MK)(Y:St)(H:Hp)(Q:Bool->Hp->Prop),Inv X b Y H s->t Y H Q->af0 #[1] X.A (isTrue e X.env a) (TP X b Y Q) X.xe s
theorem PW.pt(h:PW X e t):PT X e t:=h _
def PA(X:Cx)(es:List agR)(t:TA):Prop:=
 ∀(pos:Pos)(a:alr)(s:MK)(Y:St)(H:Hp)(Q:alx->Hp->Prop),Inv X a Y H s->t Y H Q->af0 #[1] X.A (spliced<|ahP pos<|afY es X.env) (AP X a Y Q) X.xe s
def PS(X:Cx)(st:ah9)(t:TS):Prop:=
 ∀(a:alr)(s:MK)(Y:St)(H:Hp)(D:Ends),Inv X a Y H s->t D Y H->af0 #[1] X.A (exec st X.env) (SP X a D) X.xe s
def Ly(X:Cx)(st:List ah9)(t:TS):Prop:=
 ∀(a:alr)(s:MK)(Y:St)(H:Hp)(D:Ends),Inv X a Y H s->t D Y H->af0 #[1] X.A (execs st X.env) (SP X a D) X.xe s
theorem bX{t:Sem α}{Q b:α->MK->Prop}(h:af0 M A t Q E s)(hQ:∀a s,Q a s->b a s):af0 M A t b E s:=agE h hQ fun _ _ x=>x
section
variable{X:Cx}
def Zn(i:Nat):TE:=fun Y H Q=>∃v,Y[i]?=Z (Z v)/\Q v H
def tC(v:V):TE:=fun _ H Q=>Q v H
theorem HR{pos:Pos}(j:X.N[i]?=Z x)(o:qm X.env.scope x)(d:autoParam (alz x) Xax)(f:autoParam (#[5]=η) Xax):PE X (.Name x pos)<|Zn i:=by
 intro p s Y H Q I h;let⟨v,e,h⟩:=h
 obtain⟨m,hn,k⟩:=I.loc;let⟨u,r,l⟩:=k i x v j e o
 have fin:EP X p Y Q u s:=⟨v,H,I,r,h⟩;rcases l with⟨b,n⟩|⟨b,c,g,a⟩
 .exact wpAny_Name (wpAny_loadName_local I.ok.kind b hn n fin) d
 .rcases b with b|b
  .exact wpAny_Name (wpAny_loadName_cell I.ok.kind b g a fin) d
  .exact wpAny_Name (wpAny_loadName_free I.ok.kind b g a fin f) d
def Gl(X:Cx)(x:Str):Prop:=X.env.kindOf x=Z .globalImplicit
theorem jN{Y:St}(I:Inv X aa Y H s)(hg:Gl X x)(b:X.mg x=Z u)(h:Q u s)
  (a:autoParam (alz x) Xax):af0 #[1] X.A (eval (.Name x pos) X.env) Q E s:=
 aji I.ok.kind hg (Calls.loadGlobal_global (by rw[I.ok.glob];exact I.mod.glob.keeps I.bk) b h) a
theorem dX{E:als}{Y:St}{pos:Pos}(I:Inv X aa Y H s)(hg:Gl X x)(b:X.mg x=L)(c:af9 x=Z u)(h:Q u s)
  (hn:autoParam (x≠"__name__") Xax) (a:autoParam (alz x) Xax):af0 #[1] X.A (eval (.Name x pos) X.env) Q E s:=by
 let⟨mb,h1,h2⟩:=I.mod.blt
 exact aji I.ok.kind hg (Calls.loadGlobal_builtin (by rw[I.ok.glob];exact I.mod.glob.keeps I.bk) b (by rw[I.ok.blt];exact h1.keeps I.bk) ((h2 x hn).trans c) h) a
theorem DN(hg:Gl X x)(b:X.mg x=Z u)(r:a7 v u)(a:autoParam (alz x) Xax):PE X (.Name x pos)<|tC v:=
 fun _ _ _ H _ I h=>jN I hg b ⟨v,H,I,r,h⟩ a
theorem OO{pos:Pos}(hg:Gl X x)(b:X.mg x=L)(c:af9 x=Z u)(r:a7 v u)(hn:autoParam (x≠"__name__") Xax)(a:autoParam (alz x) Xax):PE X (.Name x pos)<|tC v:=
 fun _ _ _ H _ I h=>dX I hg b c ⟨v,H,I,r,h⟩ hn a
def tB(t:TE):TT:=fun Y H Q=>t Y H fun x H1=>∃c,x=.bl c/\Q c H1
variable{rest:List agR}
def aaK(t u:TT):TT:=fun Y H Q=>t Y H fun c H1=>if c=U then u Y H1 Q else Q η H1
def tOr(t u:TT):TT:=fun Y H Q=>t Y H fun c H1=>if c=U then Q U H1 else u Y H1 Q
def acL(t:TT):TT:=fun Y H Q=>t Y H fun c H1=>Q (!c) H1
theorem Ng(b:PT X a tA):PW X (.BoolOp .And [a] pos) tA:=by
 intro g d s Y H Q I h;refine isTrue_and<|bX (b d s Y H Q I h) fun c f e=>?_;cases c with
 |true=>exact isTrue_and_nil e
 |false=>exact e
theorem S3(b:PT X a tA):PW X (.BoolOp .Or [a] pos) tA:=by
 intro g d s Y H Q I h;refine isTrue_or<|bX (b d s Y H Q I h) fun c f e=>?_;cases c with
 |false=>exact isTrue_or_nil e
 |true=>exact e
theorem RX(h:PE X a t):PE X (.BoolOp op [a] pos) t:=fun b s Y H Q I hw=>BoolOp_one<|h b s Y H Q I hw
def tIf(t:TT)(ta tb:TE):TE:=fun Y H Q=>t Y H fun c H1=>if c=U then ta Y H1 Q else tb Y H1 Q
end
def dF(K:aT)(H:Hp)(a:aga)(xs:alx):Prop:=
 Rd H a (.lst xs) \/
  ∃(o:Obj)(its:Array By)(n:Nat),K.lookup a=Z o/\o.cls=.type "list"/\o.dict=L/\o.data=.seq its n/\its.size<=afT/\aY xs its.toList
def hV(K:aT)(H:Hp)(a:aga)(xs:alx):Prop:=
 Rd H a (.tup xs) \/
  ∃(o:Obj)(its:Array By)(n:Nat),K.lookup a=Z o/\o.cls=.type "tuple"/\o.data=.seq its n/\its.size<=afT/\aY xs its.toList
noncomputable def aaR:By->Option V
 |.none=>Z .non
 |.bool b=>Z<|.bl b
 |.int i _=>Z<|.int i
 |.str x _=>Z<|.str x
 |.bytes b _=>Z<|.byt b
 |.float b _=>Z<|.flt b
 |.ref a=>Z<|.ref a
 |.type n=>Z<|.ty n
 |_=>L
theorem a7.abs(r:a7 x u):aaR u=Z x:=by
 cases x with
 |non=>cases r;rfl
 |bl _=>cases r;rfl
 |int _=>obtain⟨t,rfl⟩:=r;rfl
 |str _=>obtain⟨t,rfl⟩:=r;rfl
 |byt _=>obtain⟨t,rfl⟩:=r;rfl
 |flt _=>obtain⟨t,rfl⟩:=r;rfl
 |ref _=>cases r;rfl
 |ty _=>cases r;rfl
theorem a7.inj(r:a7 x u)(q:a7 y u):x=y:=ahd<|r.abs.symm.trans q.abs
theorem aY.inj{ys:alx}(h:aY xs us)(g:aY ys us):xs=ys:=by
 induction h generalizing ys with
 |nil=>cases g;rfl
 |cons r t i=>
  cases g;rw[r.inj ‹_›,i ‹_›]
section
variable{Y:St}
theorem dF.of{K:aT}(h:H a=Z (.lst xs)):dF K H a xs:=.inl<|.inl h
theorem Inv.list(I:Inv X aa Y H s)(h:dF X.K H a xs):∃its:alw,aY xs its/\PlainL s.heap a its.toArray/\xs.length<=afT:=by
 rcases h with h|⟨o,its,n,hk,hc,hd,hs,hz,r⟩
 .obtain⟨z,its,n,r,e⟩:=h.ok I.hok;exact⟨its,r,⟨_,n,e,rfl,rfl,rfl⟩,z⟩
 .refine⟨its.toList,r,⟨o,n,I.kIn a o hk,hc,hd,by simpa using hs⟩,?_⟩;have e:=r.length;mright
theorem Inv.tuple(I:Inv X aa Y H s)(h:hV X.K H a xs):∃its:alw,aY xs its/\akW s.heap a its.toArray/\xs.length<=afT:=by
 rcases h with h|⟨o,its,n,hk,hc,hs,hz,r⟩
 .let⟨z,its,r,p⟩:=h.ok I.hok
  exact⟨its,r,p,z⟩
 .refine⟨its.toList,r,⟨o,I.kIn a o hk,hc,n,by simpa using hs⟩,?_⟩;have e:=r.length;mright
theorem Inv.list_inj(I:Inv X aa Y H s)(h:dF X.K H a xs)(h':dF X.K H a ys):xs=ys:=by
 obtain⟨its,r,⟨o,n,e,_,_,d⟩,_⟩:=I.list h;obtain⟨its',b,⟨c,g,f,_,_,d'⟩,_⟩:=I.list h'
 have:its=its':=by mright
 subst this;exact r.inj b
theorem Inv.tuple_inj(I:Inv X aa Y H s)(h:hV X.K H a xs)(h':hV X.K H a ys):xs=ys:=by
 obtain⟨its,r,⟨o,e,_,n,d⟩,_⟩:=I.tuple h;obtain⟨its',b,⟨c,f,_,g,d'⟩,_⟩:=I.tuple h'
 have:its=its':=by mright
 subst this;exact r.inj b
end
noncomputable abbrev Cx.wish(X:Cx)(E:als):Cx:={X with xe:=E}
noncomputable abbrev Cx.nox(X:Cx):Cx:=X.wish fun _ _=>False
theorem Cx.Ok.wish{X:Cx}(ok:X.Ok)(E:als):(X.wish E).Ok:=
 ⟨ok.mod,ok.kind,ok.glob,ok.blt,ok.above,ok.inj,ok.has,ok.cab,ok.hd,ok.frames,ok.stk,ok.exf,ok.bs,ok.bsz,ok.noex,ok.exfs,ok.funs,ok.frf⟩
theorem Cx.Ok.unwish{X:Cx}(ok:(X.wish E).Ok):X.Ok:=
 ⟨ok.mod,ok.kind,ok.glob,ok.blt,ok.above,ok.inj,ok.has,ok.cab,ok.hd,ok.frames,ok.stk,ok.exf,ok.bs,ok.bsz,ok.noex,ok.exfs,ok.funs,ok.frf⟩
section
variable{Y:St}
theorem Inv.wish(I:Inv X aa Y H s)(E:als):Inv (X.wish E) aa Y H s:=⟨I.ok.wish E,I.os,I.bare,I.base,I.loc,I.cell,I.free,I.freeC,I.pin,I.hok,I.len,I.tk⟩
theorem Inv.unwish(I:Inv (X.wish E) aa Y H s):Inv X aa Y H s:=⟨I.ok.unwish,I.os,I.bare,I.base,I.loc,I.cell,I.free,I.freeC,I.pin,I.hok,I.len,I.tk⟩
theorem SP.unwish(h:SP (X.wish E) aa D f s'):SP X aa D f s':=by
 cases f with
 |next=>obtain⟨a,H',I,q⟩:=h;exact⟨a,H',I.unwish,q⟩
 |brk=>obtain⟨a,H',I,q⟩:=h;exact⟨a,H',I.unwish,q⟩
 |cont=>obtain⟨a,H',I,q⟩:=h;exact⟨a,H',I.unwish,q⟩
 |ret u=>refine Z33 h fun v a H' I r q=>?_;exact⟨v,a,H',I.unwish,r,q⟩
theorem Ly.nox{st:List ah9}(h:Ly X.nox st t):Ly X st t:=fun a s Y H D I hw=>
 agE (h a s Y H D (I.wish _) hw) (fun _ _ q=>q.unwish) fun _ _ z=>ag7 z
end
section
variable{st:ah9}{rest:List ah9}
def YX:TS:=fun D Y H=>D.nx Y H
def ZK(t u:TS):TS:=fun D Y H=>t {D with nx:=u D} Y H
theorem uw(h1:PS X st t)(h2:Ly X rest u):Ly X (st::rest)<|ZK t u:=by
 intro b s Y H D I h;refine wpAny_execs_cons<|bX (h1 b s Y H {D with nx:=u D} I h) fun f c q=>?_;cases f with
 |next=>
  refine Z22 q fun a H' d q=>?_;exact h2 b c a H' D d q
 |ret v=>exact q
 |brk=>exact q
 |cont=>exact q
theorem C8(h1:PS X st t):Ly X [st] t:=by
 intro a s Y H D I h;refine wpAny_execs_cons<|bX (h1 a s Y H D I h) fun f b q=>?_;cases f with
 |next=>exact ajf q
 |ret v=>exact q
 |brk=>exact q
 |cont=>exact q
theorem Inv.quiet{a:alr}{Y:St}{H:Hp}{s:MK}(I:Inv X a Y H s):interactive X.env=η:=by simp[interactive,I.ok.kind]
def vZ(te:TE):TS:=fun D Y H=>te Y H fun _ H1=>D.nx Y H1
theorem MX(a:PE X e te)(hs:autoParam (ahj e L pos.line X.env=pure η) Xaz):PS X (.Expr e pos)<|vZ te:=by
 intro f s Y H D I h;exact wpAny_Expr_any (bX (a f s Y H _ I h) fun v g d=>iW d fun x H1 c r1 b=>⟨Y,H1,c,b⟩) I.quiet hs
def adf(te:TE):TS:=fun D Y H=>te Y H D.rt
def abd(c:TT)(t u:TS):TS:=fun D Y H=>c Y H fun b H1=>if b=U then t D Y H1 else u D Y H1
end
abbrev TG:=V->St->Hp->(St->Hp->Prop)->Prop
abbrev L8:=alx->St->Hp->(St->Hp->Prop)->Prop
def PG(X:Cx)(a:agR)(t:TG):Prop:=
 ∀(c:alr)(s:MK)(Y:St)(H:Hp)(v:V)(u:By)(Q:St->Hp->Prop),Inv X c Y H s->a7 v u->t v Y H Q ->
  af0 #[1] X.A (assign a X.env u) (fun _ d=>∃b H',Inv X c b H' d/\Q b H') X.xe s
def Z1(X:Cx)(ts:List agR)(t:L8):Prop:=
 ∀(b:alr)(s:MK)(Y:St)(H:Hp)(vs:alx)(us:alw)(Q:St->Hp->Prop),Inv X b Y H s->aY vs us->t vs Y H Q ->
  af0 #[1] X.A (assignInOrder ((agK ts X.env).map (·.2)) us) (fun _ c=>∃a H',Inv X b a H' c/\Q a H') X.xe s
abbrev SZ:=V->V->V->Hp->(Hp->Prop)->Prop
def TJ(X:Cx)(t:SZ):Prop:=
 ∀(b:alr)(s:MK)(Y:St)(H:Hp)(o i v:V)(ov a u:By)(Q:Hp->Prop),Inv X b Y H s->a7 o ov->a7 i a->a7 v u->t o i v H Q ->
  af0 #[1] X.A (setItem ov a u) (fun _ c=>∃H',Inv X b Y H' c/\Q H') X.xe s
abbrev ae7:=V->V->Hp->VK->Prop
def PIp(X:Cx)(op:Operator)(t:ae7):Prop:=
 ∀(a:alr)(s:MK)(Y:St)(H:Hp)(x y:V)(v u:By)(Q:VK),Inv X a Y H s->a7 x v->a7 y u->t x y H Q ->
  af0 #[1] X.A (inplaceOp op v u) (EP X a Y Q) X.xe s
section
variable{pos:Pos}
def ms(i:Nat):TG:=fun v Y H Q=>Q (Y.set i<|Z v) H
theorem Cb(e:X.N.Nodup)(b:X.N[i]?=Z x)(a:Loc X.env.scope x)(d:autoParam #[3] Xcz):PG X (.Name x pos)<|ms i:=by
 intro g s Y H v u Q I r h;exact wpAny_assign_Name<|sF I e b a r (fun f c=>⟨_,H,c,h⟩) d
def abP:L8:=fun vs Y H Q=>vs=[]/\Q Y H
def O5(t:TG)(u:L8):L8:=fun vs Y H Q=>∃v r,vs=v::r/\t v Y H fun a H'=>u r a H' Q
theorem Ld(h1:PG X e t)(h2:Z1 X es u)
  (hs:autoParam ((agK (e::es) X.env).map (·.2)=assign e X.env::(agK es X.env).map (·.2)) Xaz):Z1 X (e::es)<|O5 t u:=by
 intro a s Y H vs us Q I r h;obtain⟨v,d,c,h⟩:=h;subst c;cases r with
 |cons r b=>
  rw[hs];refine assignInOrder_cons<|bX (h1 a s Y H _ _ _ I r h) fun _ s1 q_=>Z22 q_ fun σ1 H1 I1 q1=>?_;exact h2 a s1 σ1 H1 _ _ Q I1 b q1
def W6(K:aT)(n:Nat)(t:L8):TG:=fun v Y H Q=>∃a xs,v=.ref a/\hV K H a xs/\xs.length=n/\t xs Y H Q
theorem So{k:Nat}(j:X.calm=U)(h:Z1 X es t)
  (hn:autoParam ((agK es X.env).length=n) Xaz) (c:autoParam ((agK es X.env).findIdx? (·.1)=L) Xaz):PG X (.Tuple es k pos)<|W6 X.K n t:=by
 intro l s Y H v u Q I r hw;obtain⟨a,xs,i,d,g,hw⟩:=hw;subst i;cases r;let⟨its,rv,ht,hz⟩:=I.tuple d
 refine assign_Tuple_tuple (I.ok.hd j) ht (by simp[hn,<-g,rv.length]) c fun h' f=>?_;have I1  := I.kept fun b o e=>f b o (af7<|OR e) e;exact h l _ Y H xs _ Q I1 (by simpa using rv) hw
def SU(c b:TE)(t:SZ):TG:=fun v Y H Q=>c Y H fun o H1=>b Y H1 fun i a=>t o i v a fun d=>Q Y d
theorem SA(g:PE X o to)(l:PE X i ti)(hs:TJ X t)
  (p:∀v,assign (.Subscript o i pos) X.env v=(do
   let ov <-holding [v] (eval o X.env)
   let a <-holding [v,ov] (eval i X.env)
   aky pos
   holding [v,ov,a] (setItem ov a v)
   release [v,ov,a] []):=by intro _;rfl):PG X (.Subscript o i pos) (SU to ti t):=by
 intro c s Y H v u Q I r h;refine bY<|ag1<|bX (g c s Y H _ I h) fun ov f b=>iW b fun x H1 m r1 d=>?_;refine bY<|ag1<|bX (l c f Y H1 _ m d) fun a j b=>iW b fun y k e r2 n=>?_;refine bY<|wpAny_standAt<|bY<|ag1<|bX (hs c j Y k x y v ov a u _ e r1 r2 r n) fun _ s3⟨H3,I3,q3⟩=>?_;exact wpAny_release ⟨Y,H3,I3,q3⟩
def xb(te:TE)(g:TG):TS:=fun D Y H=>te Y H fun x H1=>g x Y H1 D.nx
theorem TR(i:PE X e te)(hg:PG X tg g)(hs:autoParam (swapsWithSole [tg] e pos.line X.env=pure η) Xaz)(hw:autoParam (swappedStores [tg] e X.env=pure L) Xaz)
  (h1:autoParam ((agK [tg] X.env).map (·.2)=[assign tg X.env]) Xaz):PS X (.Assign [tg] e pos)<|xb te g:=by
 intro a s Y H D I h;refine wpAny_Assign_stores (bX (i a s Y H _ I h) fun v c d=>iW d fun x H1 f r1 b=>?_) hs hw;rw[h1];exact bX (hg a c Y H1 x v _ f r1 b) fun _ j q=>q
theorem Su(d:X.N.Nodup)(j:X.N[i]?=Z x)(f:Loc X.env.scope x)(l:PE X e te)(hs:autoParam (ahj e (Z<|.Name x pos') pos.line X.env=pure η) Xaz)(c:autoParam #[3] Xcz):
  PS X (.Assign [.Name x pos'] e pos) (xb te<|ms i):=by
 intro m s Y H D I h;refine wpAny_Assign_Name (bX (l m s Y H _ I h) fun v n g=>iW g fun y H1 k r1 a=>?_) hs;exact sF k d j f r1 (fun o b=>⟨_,H1,b,a⟩) c
def abb(i:Nat)(te:TE)(b:ae7):TS:=fun D Y H=>∃x,Y[i]?=Z (Z x)/\te Y H fun y H1=>b x y H1 fun z a=>D.nx (Y.set i<|Z z) a
theorem R8(E:X.N.Nodup)(q:X.N[i]?=Z x)(g:Loc X.env.scope x)(R:PE X e te)(J:PIp X op ti)(C:autoParam #[3] Xcz):
  PS X (.AugAssign (.Name x pos') op e pos) (abb i te ti):=by
 intro o s Y H D I h;let⟨v,e1,h⟩:=h
 let⟨m,hn,hl⟩:=I.loc
 have n:qm X.env.scope x:=by rcases g with k|k;exact .inl k;exact .inr (.inl k)
 let⟨u,r,l⟩:=hl i x v q e1 n
 refine wpAny_AugAssign_Name ?_;have p:af0 #[1] X.A (eval e X.env) (fun w f=>af0 #[1] X.A (inplaceOp op u w) (fun r d=>af0 #[1] X.A (storeName X.env x r) (fun _=>SP X o D .next) X.xe d) X.xe f) X.xe s:=by
  refine bX (R o s Y H _ I h) fun w F j=>iW j fun y H1 O r1 t=>?_;refine bX (J o F Y H1 v y u w _ O r r1 t) fun z T j=>iW j fun V K B r2 P=>?_;exact sF B E q g r2 (fun S Q=>⟨_,K,Q,P⟩) C
 rcases l with⟨a,G⟩|⟨a,c,M,b⟩
 .exact wpAny_loadName_local I.ok.kind a hn G p
 .rcases a with a|a
  .exact wpAny_loadName_cell I.ok.kind a M b p
  .rcases g with k|k
   .have:X.env.scope.names.lookup x=Z .free:=a
    rw[k]at this;cases this
   .have:X.env.scope.names.lookup x=Z .free:=a
    rw[k]at this;cases this
end
section
def Rf(c:TT)(tb:TS):TS:=fun D Y H=>∃W:Nat->St->Hp->Prop,(∃m,W m Y H)/\∀m Y H,W m Y H ->
 c Y H fun b H1=>if b=U then ∃N:St->Hp->Prop,(∀a H',N a H'->∃d,d<m/\W d a H')/\tb {D with nx:=N,ct:=N,bk:=D.nx} Y H1 else D.nx Y H1
end
structure It where
 go:Nat->Hp->Prop
 yld:Nat->Hp->V->Hp->Prop
 stop:Nat->Hp->Prop
def eZ(X:Cx)(a:alr)(H:Hp)(b:aga):Prop:=
 H b=L/\b≠X.env.locals/\b∉X.fs/\(b∈X.ex\/X.s₀.heap.objs.size<=b)/\(∀x c,X.env.cells.lookup x=Z c->c≠b)/\∀p∈X.pn++a,p.1≠b
theorem Inv.fpOk{Y:St}{b:aga}(I:Inv X aa Y H s)(hb:s.heap.objs.size<=b)(hn:H' b=L):eZ X aa H' b:=by
 refine⟨hn,ajn<|afZ I.lt hb,I.nofs hb,.inr<|DO I.sz hb,fun x c e z=>?_,fun p a z=>?_⟩
 .let⟨v,q⟩:=I.cell x c e
  exact absurd (afZ q.lt<|by rw[z];exact hb)<|ahV _
 .exact absurd (afZ (OR (I.pin p a).1)<|by rw[z];exact hb) (ahV _)
structure Turn(P:ahb)(w:agN)(K:aT)(tg:agR)(J:It)(fp:alv)(it:aga)(tn:Nat->aij->Prop):Prop where
 mem:it∈fp
 obj:∀i h,tn i h->∀b∈fp,∃o,h.get? b=Z o/\∀v,o.data≠.cell v
 keep:∀i h h',tn i h->(∀b∈fp,∀o,h.get? b=Z o->h'.get? b=Z o)->tn i h'
 item:∀(X:Cx),X.prog=P->X.w=w->X.K=K->X.calm=U->∀(i:Nat)(aa:alr)(s:MK)(Y:St)(H:Hp)(E:als),Inv X aa Y H s->(∀b∈fp,eZ X aa H b)->tn i s.heap->J.go i H ->
  af0 (af6 P w) X.A (pyNext<|.ref it) (fun r s1=>∃u,r=Z u /\
   af0 (af6 P w) X.A (akd tg (.ref it) u) (fun _ s2=>∃x H',Inv X aa Y H' s2/\a7 x u/\J.yld i H x H'/\tn (i+1) s2.heap/\∀b∈fp,H' b=L) E s1) E s
 done:∀(X:Cx),X.prog=P->X.w=w->X.K=K->X.calm=U->∀(i:Nat)(aa:alr)(s:MK)(Y:St)(H:Hp)(E:als),Inv X aa Y H s->(∀b∈fp,eZ X aa H b)->tn i s.heap->J.stop i H ->
  af0 (af6 P w) X.A (pyNext<|.ref it) (fun r s1=>r=L/\Inv X aa Y H s1) E s
 self:∀(A:ahU)(i:Nat)(s:MK)(Q:als)(E:als),tn i s.heap->Q (.ref it) s->af0 (af6 P w) A (ald<|.ref it) Q E s
abbrev TI:=St->Hp->(It->Hp->Prop)->Prop
def afd(X:Cx)(e:alr)(Y:St)(tg:agR)(R:It->Hp->Prop)(a:By)(c:MK):Prop:=
 ∃(it:aga)(d:alv)(tn:Nat->aij->Prop)(J:It)(H':Hp),a=.ref it/\Inv X e Y H' c/\Turn X.prog X.w X.K tg J d it tn/\tn 0 c.heap/\(∀b∈d,eZ X e H' b)/\R J H'
def PI(X:Cx)(tg iter:agR)(c:TI):Prop:=
 ∀(a:alr)(s:MK)(Y:St)(H:Hp)(R:It->Hp->Prop),Inv X a Y H s->c Y H R ->
  af0 #[1] X.A (eval iter X.env) (fun v b=>af0 #[1] X.A (ald v) (afd X a Y tg R) X.xe b) X.xe s
theorem zn(b:s.heap.get? it=Z o)(c:o.cls=.type n)(a:o.data=.fields vs)
    (hn:["enumerate","zip","dict_itemiterator","dict_reverseitemiterator","odict_iterator","itertools.zip_longest","itertools.pairwise"].contains n=η) (hQ:Q () s):af0 M A (akd tg (.ref it) u) Q E s:=by
  cases tg<;>first
    |exact lT hQ
    |(cases u<;>first
        |exact lT hQ
        | (refine bY (wpAny_load b ?_)
           rw[c,a];show af0 M A (if(["enumerate","zip","dict_itemiterator","dict_reverseitemiterator","odict_iterator","itertools.zip_longest","itertools.pairwise"].contains n&&vs[0]?==Z (aiT _))=U then _ else _) Q E s;rw[alj ⊥];exact lT hQ))
def aci(K:aT)(a:aga):It:=
 ⟨fun i H=>∃xs x,dF K H a xs/\xs[i]?=Z x,fun i H x H'=>H'=H/\∀xs,dF K H a xs->xs[i]?=Z x,fun i H=>∃xs,dF K H a xs/\xs.length<=i⟩
def aax(K:aT)(a:aga):It:=
 ⟨fun i H=>∃xs x,hV K H a xs/\xs[i]?=Z x,fun i H x H'=>H'=H/\∀xs,hV K H a xs->xs[i]?=Z x,fun i H=>∃xs,hV K H a xs/\xs.length<=i⟩
def Zc(lo:Int)(n:Nat):It:=⟨fun i _=>i<n,fun i H x H'=>H'=H/\x=.int (lo+i),fun i _=>n<=i⟩
theorem Fz{K:aT}(a it:aga):Turn P w K tg (aci K a) [it] it (fun i h=>h.IsListIter it a i) where
 mem:=∅
 obj:=fun i h st b hb=>by
  let⟨o,e,c,d⟩:=st
  mright
 keep:=fun i h h' st k=>st.at fun o e=>k it ∅ o e
 item:=by
  intro X l hw j m i r s Y H E I g st hg;subst l hw j;let⟨xs,x,hq,hx⟩:=hg
  let⟨its,rv,p,hz⟩:=I.list hq
  let⟨u,hu,ru⟩:=rv.get hx
  let⟨f0,f1,f2,f3,f4,f5⟩:=g it ∅
  refine wpAny_pyNext_list_item st p.isList (by simpa using hu) fun h' f q=>?_;have I1  := I.turned (fun b o hb e=>(q.2 b hb).trans e) f0 f1 f3 f4 f5;let⟨o,e,c,d⟩:=id f
  exact⟨u,rfl,zn e c d ∎ ⟨x,H,I1,ru,⟨rfl,fun ys hy=>by rw[I.list_inj hy hq];exact hx⟩,f,fun b hb=>(g b hb).1⟩⟩
 done:=by
  intro X l hw j m i r s Y H E I g st hg;subst l hw j;let⟨xs,hq,hx⟩:=hg
  let⟨its,rv,p,hz⟩:=I.list hq
  let⟨f0,f1,f2,f3,f4,f5⟩:=g it ∅
  have t:=rv.length;exact wpAny_pyNext_list_end (I.ok.hd m) st p.isList (by simp;lia) fun h' n=>⟨rfl,I.turned (fun b o hb e=>n b o hb e) f0 f1 f3 f4 f5⟩
 self:=fun _ _ _ _ _ st h=>wpAny_pyIter_listiter st h
theorem B1{K:aT}(a it:aga):Turn P w K tg (aax K a) [it] it (fun i h=>h.IsTupleIter it a i) where
 mem:=∅
 obj:=fun i h st b hb=>by
  have e:b=it:=by simpa using hb
  subst e;let⟨o,e,c,d⟩:=st
  mright
 keep:=fun i h h' st k=>st.at fun o e=>k it ∅ o e
 item:=by
  intro X l hw j m i r s Y H E I g st hg;subst l hw j;let⟨xs,x,hq,hx⟩:=hg
  let⟨its,rv,p,hz⟩:=I.tuple hq
  let⟨u,hu,ru⟩:=rv.get hx
  let⟨f0,f1,f2,f3,f4,f5⟩:=g it ∅
  refine wpAny_pyNext_tuple_item st ((p)) (by simpa using hu) fun h' f q=>?_;have I1  := I.turned (fun b o hb e=>(q.2 b hb).trans e) f0 f1 f3 f4 f5;let⟨o,e,c,d⟩:=id f
  exact⟨u,rfl,zn e c d ∎ ⟨x,H,I1,ru,⟨rfl,fun ys hy=>by rw[I.tuple_inj hy hq];exact hx⟩,f,fun b hb=>(g b hb).1⟩⟩
 done:=by
  intro X l hw j m i r s Y H E I g st hg;subst l hw j;let⟨xs,hq,hx⟩:=hg
  let⟨its,rv,p,hz⟩:=I.tuple hq
  let⟨f0,f1,f2,f3,f4,f5⟩:=g it ∅
  have t:=rv.length;exact wpAny_pyNext_tuple_end (I.ok.hd m) st ((p)) (by simp;lia) fun h' n=>⟨rfl,I.turned (fun b o hb e=>n b o hb e) f0 f1 f3 f4 f5⟩
 self:=fun _ _ _ _ _ st h=>wpAny_pyIter_tupleiter st h
theorem Bv{K:aT}(it:aga)(lo:Int)(n:Nat):Turn P w K tg (Zc lo n) [it] it (fun i h=>IsRangeIter h it (lo+(i:Nat)*1) ((n:Int)-(i:Nat)) 1) where
 mem:=∅
 obj:=fun i h st b hb=>by
  mright
 keep:=fun i h h' st k=>k it ∅ _ st
 item:=by
  intro X g hw f d i q s Y H E I c st hg;subst g hw f;let⟨f0,f1,f2,f3,f4,f5⟩:=c it ∅
  have W:=Walks.range (prog:=X.prog) (w:=X.w) (I.ok.hd d) it lo 1 n;refine aP I.tk<|W.item i s _ _ hg st fun v h' tk m a l p=>?_;obtain⟨t,rfl⟩:=m;have I1  := I.turned (fun b o hb e=>l b o (by simpa using hb) e) f0 f1 f3 f4 f5;refine⟨_,rfl,zn a rfl rfl ∎ ⟨.int<|lo+i,H,I1,⟨t,?_⟩,⟨rfl,rfl⟩,a,fun b hb=>(c b hb).1⟩⟩;rw[Int.mul_one]
 done:=by
  intro X g hw f d i q s Y H E I c st hg;let⟨f0,f1,f2,f3,f4,f5⟩:=c it ∅
  exact wpAny_pyNext_range_end (I.ok.hd d) st (by have:n<=i:=hg;lia) fun h' j=>⟨rfl,I.turned (fun b o hb e=>j b o hb e) f0 f1 f3 f4 f5⟩
 self:=fun _ _ _ _ _ st h=>wpAny_pyIter_rangeiter st h
section
variable{tg:agR}
theorem yI{Y:St}{lo a:Int}(I:Inv X aa Y H s)(h1:-(2^62)<=lo)(h2:lo<2^62)(d:-(2^62)<=a)(f:a<2^62)
  (q:R (Zc lo (a-lo).toNat) H) (h:autoParam (X.tn<=tk) Xbx):af0 #[1] X.A (ald<|.ref s.heap.objs.size) (afd X aa Y tg R) E {s with heap:=s.heap.push {cls:=.type "range",data:=.fields #[.int lo t,.int a u,.int 1 v]},toks:=tk}:=by
 refine wpAny_pyIter_range (IsRange.new ..) (small_one h1 h2 d f) ?_;have c:Inv X aa Y H {s with heap:=s.heap.push {cls:=.type "range",data:=.fields #[.int lo t,.int a u,.int 1 v]},toks:=tk}:=I.kept fun b o e=>eQ _ e;refine⟨(s.heap.push {cls:=.type "range",data:=.fields #[.int lo t,.int a u,.int 1 v]}).objs.size,[(s.heap.push {cls:=.type "range",data:=.fields #[.int lo t,.int a u,.int 1 v]}).objs.size],_,_,H,rfl,
  c.kept fun b o e=>eQ _ e,Bv _ lo (a-lo).toNat,?_,fun b hb=>?_,q⟩
 .have e1:lo+((0:Nat))*1=lo:=∅
  have g:(((a-lo).toNat))-((0:Nat))=Builtin.Range.rangeSize lo a 1:=by rw[rangeSize_one];split<;>lia
  rw[e1,g];exact ID _ rfl
 .have e:b=(s.heap.push {cls:=.type "range",data:=.fields #[.int lo t,.int a u,.int 1 v]}).objs.size:=by simpa using hb
  subst e;exact c.fpOk (nE _)<|c.hok.fresh<|nE _
def Pf(ta:TA):TI:=fun Y H R=>ta Y H fun vs H1=>∃i j:Int,vs=[.int i,.int j]/\(-(2^62)<=i/\i<2^62/\-(2^62)<=j/\j<2^62)/\R (Zc i (j-i).toNat) H1
theorem E1{a b:agR}{ta:TA}{p pos:Pos}(hg:Gl X "range")(m:X.mg "range"=L)(k:PA X [a,b] ta)(hs:autoParam (afY [a,b] X.env=[(η,eval a X.env),(η,eval b X.env)]) Xaz)(c:autoParam (afY [b] X.env=[(η,eval b X.env)]) Xaz):
  PI X tg (.Call (.Name "range" p) [a,b] [] pos) (Pf ta):=by
 intro v s Y H R I h;refine Call_ (dX I hg m boot_range<|agg (bX (k pos v s Y H _ I h) fun us x l=>iW l fun vs H1 o r1 d=>?_) (by rw[hs,c])<|by rw[c];rfl);obtain⟨i,j,e,⟨d,u,n,w⟩,q⟩:=d;subst e;cases r1 with
 |cons r f=>
  cases f with
  |cons g f=>
   cases f;obtain⟨t,rfl⟩:=r;obtain⟨t',rfl⟩:=g;exact call_range_2<|yI o d u n w q
def Zl(e:TI)(g:TG)(tb:TS):TS:=fun D Y H=>e Y H fun J H1=>∃W:Nat->Nat->St->Hp->Prop,(∃m,W 0 m Y H1)/\∀i m Y H,W i m Y H ->
 (J.stop i H/\D.nx Y H)\/(J.go i H/\∃N:St->Hp->Prop,(∀a H',N a H'->∃c,c<m/\W (i+1) c a H')/\∀x H',J.yld i H x H'->g x Y H' fun b d=>tb {D with nx:=N,ct:=N,bk:=D.nx} b d)
def mL(a:alv)(h:aij):alr:=a.filterMap fun b=>(h.get? b).map fun o=>(b,o)
theorem fm(hb:b∈fp)(e:h.get? b=Z o):(b,o)∈mL fp h:=ahy.mpr ⟨b,hb,by rw[e];rfl⟩
theorem FQ(a:p∈mL fp h):p.1∈fp/\h.get? p.1=Z p.2:=by
 let⟨b,hb,e⟩:=ahy.mp a
 cases q:h.get? b with
 |none=>grind
 |some o=>
  rw[q]at e;have e'  := ahd e;subst e';exact⟨hb,q⟩
theorem Inv.pinned{Y:St}(I:Inv X aa Y H s)(c:∀b∈fp,eZ X aa H b)(f:∀b∈fp,∃o,s.heap.get? b=Z o/\∀v,o.data≠.cell v):Inv X (aa++mL fp s.heap) Y H s:=
 I.pins_of fun p a=>(BY.mp a).elim (fun z=>I.pin p<|afX _ z) fun z=>by
  obtain⟨hb,e⟩:=FQ z;let⟨f0,f1,f2,_⟩:=c p.1 hb
  let⟨o,e',d⟩:=f p.1 hb
  grind
theorem Inv.unpinned{Y:St}(I:Inv X (aa++pl) Y H s):Inv X aa Y H s:=I.pins_of fun p a=>I.pin p<|afX _<|agy _ a
theorem TF(y:aiU #[1] X.A X.env X.xe)(G:X.calm=U)(V:PI X tg iter wi)(hg:PG X tg g)(hb:Ly X body tb)
  (hs:autoParam (∀x,agU iter X.env x=pure x) Xcx):PS X (.For tg iter body [] pos)<|Zl wi g tb:=by
 intro p s Y H D I h;refine wpAny_For (bX (V p s Y H _ I h) fun v s1 h1=>bX h1 fun R s2 h2=>?_) hs;obtain⟨it,q,tn,J,S,e,M,T,z,E,W,⟨P,O⟩,mD⟩:=h2;subst e
 have k:∀{H':Hp},(∀b∈q,H' b=L)->∀b∈q,eZ X p H' b:=fun hn b hb=>⟨hn b hb,(E b hb).2⟩;refine codeAny_forLoop_any (fun n F=>∃i j H',Inv X p j H' F/\tn i F.heap/\(∀b∈q,H' b=L)/\W i n j H') ?_ P ⟨0,Y,S,M,z,fun b hb=>(E b hb).1,O⟩;intro n s3 q_;refine Z34 q_ fun i σ3 H3 I3 st3 fr3 w3=>?_;rcases mD i n σ3 H3 w3 with⟨t,qn⟩|⟨K,N,Q,step⟩
 .refine ahQ y (bX (T.done X rfl rfl rfl G i p s3 σ3 H3 X.xe I3 (k fr3) st3 t) fun r s4⟨hr,I4⟩=>?_);subst hr;exact ajf ⟨σ3,H3,I4,qn⟩
 .refine ahQ y (bX (T.item X rfl rfl rfl G i p s3 σ3 H3 X.xe I3 (k fr3) st3 K) fun r s4⟨u,hr,h4⟩=>?_);subst hr;refine ahQ y<|bX h4 fun _ s5 q_=>Z25 q_ fun x H5 I5 r5 y5 st5 fr5=>?_;have B:=I5.pinned (k fr5)<|T.obj _ _ st5;refine ahQ y<|bX (hg _ s5 σ3 H5 x u _ B r5<|step x H5 y5) fun _ s6 q_=>Z22 q_ fun σ6 H6 I6 q6=>?_;refine ahQ y<|bX (hb _ s6 σ6 H6 _ I6 q6) fun f C l=>?_;have again:∀{a:St}{c:Hp},Inv X (p++mL q s5.heap) a c C->N a c->∃m,m<n/\∃i j H',Inv X p j H' C/\tn i C.heap/\(∀b∈q,H' b=L)/\W i m j H':=fun{a c}I7 n7=>by
   let⟨m',hm,w7⟩:=Q a c n7
   refine⟨m',hm,i+1,a,c,I7.unpinned,T.keep _ _ _ st5 fun b hb o e=>(I7.pin (b,o)<|afX _<|afX _<|fm hb e).1,fun b hb=>?_,w7⟩;let⟨o,e,d⟩:=T.obj _ _ st5 b hb
   exact(I7.pin (b,o)<|afX _<|afX _<|fm hb e).2.1
  cases f with
  |next=>let⟨a,c,I7,n7⟩:=l;exact again I7 n7
  |cont=>let⟨a,c,I7,n7⟩:=l;exact again I7 n7
  |brk=>let⟨a,c,I7,l⟩:=l;exact⟨a,c,I7.unpinned,l⟩
  |ret v=>let⟨x7,a,c,I7,r7,l⟩:=l;exact⟨x7,a,c,I7.unpinned,r7,l⟩
end
abbrev R2:=V->V->Hp->VK->Prop
def dz(X:Cx)(f:By->By->Sem By)(r:R2):Prop:=
 ∀(a:alr)(s:MK)(Y:St)(H:Hp)(x y:V)(v u:By)(Q:VK),Inv X a Y H s->a7 x v->a7 y u->r x y H Q ->
  af0 #[1] X.A (f v u) (EP X a Y Q) X.xe s
def OC(X:Cx)(f:By->Sem By)(r:V->Hp->VK->Prop):Prop:=
 ∀(a:alr)(s:MK)(Y:St)(H:Hp)(x:V)(v:By)(Q:VK),Inv X a Y H s->a7 x v->r x H Q ->
  af0 #[1] X.A (f v) (EP X a Y Q) X.xe s
def bF(X:Cx)(f:By)(r:alx->Hp->VK->Prop):Prop:=
 ∀(a:alr)(s:MK)(Y:St)(H:Hp)(xs:alx)(us:alw)(Q:VK),Inv X a Y H s->aY xs us->r xs H Q ->
  af0 #[1] X.A (call f us) (EP X a Y Q) X.xe s
def acP(X:Cx)(r:V->Hp->(Bool->Hp->Prop)->Prop):Prop:=
 ∀(a:alr)(s:MK)(Y:St)(H:Hp)(x:V)(v:By)(Q:Bool->Hp->Prop),Inv X a Y H s->a7 x v->r x H Q ->
  af0 #[1] X.A (truthy v) (TP X a Y Q) X.xe s
def Lw(r:R2)(ta tb:TE):TE:=fun Y H Q=>ta Y H fun x H1=>tb Y H1 fun y a=>r x y a Q
def tUn(r:V->Hp->VK->Prop)(ta:TE):TE:=fun Y H Q=>ta Y H fun x H1=>r x H1 Q
def rI(C:Int->Int->Prop)(g:Int->Int->V):R2:=fun x y H Q=>∃i j,x=.int i/\y=.int j/\C i j/\Q (g i j) H
def QQ(g:Int->Int->V):R2:=fun x y H Q=>∃i j,x=.int i/\y=.int j/\Q (g i j) H
def rU(g:Int->V):V->Hp->VK->Prop:=fun x H Q=>∃i,x=.int i/\Q (g i) H
section
theorem Th(l:PE X a ta)(hb:PE X b tb){Y:St}{R:V->V->Hp->Prop}(I:Inv X aa Y H s)
  (h:ta Y H fun x H1=>tb Y H1 fun y c=>R x y c) {f:By->By->Sem By}
  (m:∀v u g x y c,Inv X aa Y c g->a7 x v->a7 y u->R x y c->af0 #[1] X.A (f v u) Q X.xe g):
  af0 #[1] X.A (eval a X.env) (fun v d=>af0 #[1] X.A (eval b X.env) (fun u e=>af0 #[1] X.A (f v u) Q X.xe e) X.xe d) X.xe s:=by
 refine bX (l aa s Y H _ I h) fun v n i=>iW i fun x H1 o r1 j=>?_;refine bX (hb aa n Y H1 _ o j) fun u g i=>iW i fun y c k r2 p=>?_;exact m v u g x y c k r1 r2 p
theorem W8(f:dz X (ahh op) r)(e:PE X a ta)(hb:PE X b tb):PE X (.BinOp a op b pos)<|Lw r ta tb:=by
 intro k s Y H Q I h;exact wpAny_BinOp<|Th e hb I h fun v u g x y i c j d q=>f k g Y i x y v u Q c j d q
theorem ZZ{g:Int->Int->Int}
  (rule:∀(i j:Int)(t u:Tok)(s:MK)(Q:als)(E:als),C i j->Q (.int (g i j) s.toks) {s with toks:=s.toks+1}->af0 #[1] X.A (f (.int i t)<|.int j u) Q E s):
  dz X f (rI C fun i j=>.int<|g i j):=by
 intro d s Y H x y v u Q I b a h;obtain⟨i,j,rfl,rfl,c,q⟩:=h;obtain⟨t,rfl⟩:=b;obtain⟨t',rfl⟩:=a;exact rule i j t t' s _ _ c ⟨.int<|g i j,H,I.tok _,⟨_,rfl⟩,q⟩
theorem Sx{g:Int->Int->Int}
  (rule:∀(i j:Int)(t u:Tok)(s:MK)(Q:als)(E:als),Q (.int (g i j) s.toks) {s with toks:=s.toks+1}->af0 #[1] X.A (f (.int i t)<|.int j u) Q E s):
  dz X f (QQ fun i j=>.int<|g i j):=by
 intro c s Y H x y v u Q I b a h;obtain⟨i,j,rfl,rfl,q⟩:=h;obtain⟨t,rfl⟩:=b;obtain⟨t',rfl⟩:=a;exact rule i j t t' s _ _ ⟨.int<|g i j,H,I.tok _,⟨_,rfl⟩,q⟩
theorem Om{g:Int->Int->Bool}
  (rule:∀(i j:Int)(t u:Tok)(s:MK)(Q:als)(E:als),Q (.bool<|g i j) s->af0 #[1] X.A (f (.int i t)<|.int j u) Q E s):
  dz X f (QQ fun i j=>.bl<|g i j):=by
 intro c s Y H x y v u Q I b a h;obtain⟨i,j,rfl,rfl,q⟩:=h;obtain⟨t,rfl⟩:=b;obtain⟨t',rfl⟩:=a;exact rule i j t t' s _ _ ⟨.bl<|g i j,H,I,rfl,q⟩
def Hh(i j:Int):Prop:=0<j/\j<1073741824
def KN(i j:Int):Prop:=0<=j/\j<=1000000/\i.natAbs<2^64
def BQ(i j:Int):Prop:=(-(2^64)<i/\i<2^64)\/(-(2^64)<j/\j<2^64)
theorem BQ.ok(h:BQ i j):IntMulOk i j:=by
 rcases h with⟨h1,h2⟩|⟨h1,h2⟩
 .exact .of_left (intBits_le_64 h1 h2)
 .exact .of_right (intBits_le_64 h1 h2)
theorem RK:dz X (ahh .Add)<|QQ fun i j=>.int<|i+j:=Sx fun _ _ _ _ _ _ _ q=>add_int q
theorem SD:dz X (ahh .Sub)<|QQ fun i j=>.int<|i-j:=Sx fun _ _ _ _ _ _ _ q=>sub_int q
theorem TZ:dz X (ahh .Mult)<|rI BQ fun i j=>.int<|i*j:=ZZ fun _ _ _ _ _ _ _ a q=>mul_int q a.ok
theorem MN:dz X (ahh .FloorDiv)<|rI Hh fun i j=>.int<|i/j:=ZZ fun i j _ _ _ _ _ a q=>by
 have h1  := a.1;have h2  := a.2;exact floordiv_int ⊥ (by grind) (.inl<|PyProof.noPylong_small<|by omega)
theorem Ux:dz X (ahh .Mod)<|rI (fun _ j=>0<j) fun i j=>.int<|i%j:=ZZ fun i j _ _ _ _ _ a q=>by
 exact mod_int' ⊥ (by rw[Int.fmod_eq_emod_of_nonneg i<|⊥];exact q)
theorem Uc:dz X (ahh .Pow)<|rI KN fun i j=>.int<|i^j.toNat:=ZZ fun _ _ _ _ _ _ _ a q=>pow_int_small a.1 a.2.1 a.2.2 q
theorem unI{g:Int->Int}
  (rule:∀(i:Int)(t:Tok)(s:MK)(Q:als)(E:als),Q (.int (g i) s.toks) {s with toks:=s.toks+1}->af0 #[1] X.A (f<|.int i t) Q E s):
  OC X f (rU fun i=>.int<|g i):=by
 intro b s Y H x v Q I a h;obtain⟨i,rfl,q⟩:=h;obtain⟨t,rfl⟩:=a;exact rule i t s _ _ ⟨.int<|g i,H,I.tok _,⟨_,rfl⟩,q⟩
theorem Q1:OC X (unaryOp .USub)<|rU fun i=>.int<|-i:=unI fun _ _ _ _ _ q=>neg_int q
end
noncomputable def wI:V->V->Bool
 |.non,.non=>U|.non,.int _=>U|.int _,.non=>U|.non,.bl _=>U|.bl _,.non=>U|.non,.str _=>U|.str _,.non=>U
 |.int _,.int _=>U|.bl _,.bl _=>U|.str _,.str _=>U|.byt _,.byt _=>U
 |.int _,.str _=>U|.str _,.int _=>U|.bl _,.str _=>U|.str _,.bl _=>U
 |_,_=>η
def rEq:R2:=fun x y H Q=>wI x y=U/\Q (.bl<|decide (x=y)) H
def rNe:R2:=fun x y H Q=>wI x y=U/\Q (.bl<|!decide (x=y)) H
theorem Cf:decide (V.int i=V.int j)=(i==j):=by
 rw[ago];simp
theorem HK:decide (V.bl i=V.bl j)=(i==j):=by
 rw[ago];simp
theorem Di:decide (V.str i=V.str j)=(i==j):=by
 rw[ago];simp
theorem DS:decide (V.byt i=V.byt j)=(i.toList==j.toList):=by
 rw[ago];cases i;cases j;simp
section
variable{X:Cx}{a b c:agR}{ta tb tc:TE}{pos:Pos}
theorem aR{Y:St}(I:Inv X aa Y H s)(q:Q (.bl k) H)(e:k=k'):EP X aa Y Q (.bool k') s:=by
 subst e;exact⟨.bl k,H,I,rfl,q⟩
theorem XX:dz X (agf .Eq) rEq:=by
 intro c s Y H x y v u Q I b a h;let⟨hs,q⟩:=h
 cases x with
 |non=>
  cases b;cases y with
  |non=>cases a;exact PySem.EqNone.eq_none_none #[11]
  |bl j=>cases a;exact PySem.EqNone.eq_none_bool #[11]
  |int j=>obtain⟨t',rfl⟩:=a;exact PySem.EqNone.eq_none_int #[11]
  |str j=>obtain⟨t',rfl⟩:=a;exact PySem.EqNone.eq_none_str #[11]
  |_=>exact absurd (show η=U from hs) Le
 |bl i=>
  cases b;cases y with
  |non=>cases a;exact PySem.EqNone.eq_bool_none #[11]
  |bl j=>cases a;exact eq_bool<|aR I q HK
  |str j=>obtain⟨t',rfl⟩:=a;exact PySem.EqMixed.eq_bool_str #[11]
  |_=>exact absurd (show η=U from hs) Le
 |int i=>
  obtain⟨t,rfl⟩:=b;cases y with
  |non=>cases a;exact PySem.EqNone.eq_int_none #[11]
  |int j=>obtain⟨t',rfl⟩:=a;exact eq_int<|aR I q Cf
  |str j=>obtain⟨t',rfl⟩:=a;exact PySem.EqMixed.eq_int_str #[11]
  |_=>exact absurd (show η=U from hs) Le
 |str i=>
  obtain⟨t,rfl⟩:=b;cases y with
  |non=>cases a;exact PySem.EqNone.eq_str_none #[11]
  |bl j=>cases a;exact PySem.EqMixed.eq_str_bool #[11]
  |int j=>obtain⟨t',rfl⟩:=a;exact PySem.EqMixed.eq_str_int #[11]
  |str j=>obtain⟨t',rfl⟩:=a;exact eq_str<|aR I q Di
  |_=>exact absurd ((hs)) Le
 |byt i=>
  obtain⟨t,rfl⟩:=b;cases y with
  |byt j=>obtain⟨t',rfl⟩:=a;exact PySem.W.eq_bytes<|aR I q DS
  |_=>exact absurd ((hs)) Le
 |_=>cases y<;>exact absurd ((hs)) Le
theorem Y4:dz X (agf .NotEq) rNe:=by
 intro c s Y H x y v u Q I b a h;let⟨hs,q⟩:=h
 cases x with
 |non=>
  cases b;cases y with
  |non=>cases a;exact PySem.EqNone.ne_none_none #[11]
  |bl j=>cases a;exact PySem.EqNone.ne_none_bool #[11]
  |int j=>obtain⟨t',rfl⟩:=a;exact PySem.EqNone.ne_none_int #[11]
  |str j=>obtain⟨t',rfl⟩:=a;exact PySem.EqNone.ne_none_str #[11]
  |_=>exact absurd (show η=U from hs) Le
 |bl i=>
  cases b;cases y with
  |non=>cases a;exact PySem.EqNone.ne_bool_none #[11]
  |bl j=>cases a;exact ne_bool<|aR I q<|alo not HK
  |str j=>obtain⟨t',rfl⟩:=a;exact PySem.EqMixed.ne_bool_str #[11]
  |_=>exact absurd (show η=U from hs) Le
 |int i=>
  obtain⟨t,rfl⟩:=b;cases y with
  |non=>cases a;exact PySem.EqNone.ne_int_none #[11]
  |int j=>obtain⟨t',rfl⟩:=a;exact ne_int<|aR I q<|alo not Cf
  |str j=>obtain⟨t',rfl⟩:=a;exact PySem.EqMixed.ne_int_str #[11]
  |_=>exact absurd (show η=U from hs) Le
 |str i=>
  obtain⟨t,rfl⟩:=b;cases y with
  |non=>cases a;exact PySem.EqNone.ne_str_none #[11]
  |bl j=>cases a;exact PySem.EqMixed.ne_str_bool #[11]
  |int j=>obtain⟨t',rfl⟩:=a;exact PySem.EqMixed.ne_str_int #[11]
  |str j=>obtain⟨t',rfl⟩:=a;exact ne_str<|aR I q<|alo not Di
  |_=>exact absurd ((hs)) Le
 |byt i=>
  obtain⟨t,rfl⟩:=b;cases y with
  |byt j=>obtain⟨t',rfl⟩:=a;exact PySem.W.ne_bytes<|aR I q<|alo not DS
  |_=>exact absurd ((hs)) Le
 |_=>cases y<;>exact absurd ((hs)) Le
theorem WG:dz X (agf .Lt)<|QQ fun i j=>.bl<|decide (i<j):=Om fun _ _ _ _ _ _ _ q=>lt_int q
theorem Zr:dz X (agf .LtE)<|QQ fun i j=>.bl<|decide (i<=j):=Om fun _ _ _ _ _ _ _ q=>le_int q
theorem Yi:dz X (agf .Gt)<|QQ fun i j=>.bl<|decide (j<i):=Om fun _ _ _ _ _ _ _ q=>gt_int q
theorem Xk:dz X (agf .GtE)<|QQ fun i j=>.bl<|decide (j<=i):=Om fun _ _ _ _ _ _ _ q=>ge_int q
theorem EJ:dz X (agf .Lt) (fun x y H Q=>∃i j,x=.str i/\y=.str j/\Q (.bl<|decide (i.cps.toList<j.cps.toList)) H):=by
 intro c s Y H x y v u Q I b a h;obtain⟨i,j,rfl,rfl,q⟩:=h;obtain⟨t,rfl⟩:=b;obtain⟨t',rfl⟩:=a;exact lt_str<|aR I q rfl
theorem Fj:dz X (agf .In) (fun x y H Q=>∃i j,x=.str i/\y=.str j/\Q (.bl<|!(aiz j i 0 j.length 1).isEmpty) H):=by
 intro c s Y H x y v u Q I b a h;obtain⟨i,j,rfl,rfl,q⟩:=h;obtain⟨t,rfl⟩:=b;obtain⟨t',rfl⟩:=a;exact in_str<|aR I q rfl
theorem UA:dz X (agf .Is) (fun x y H Q=>y=.non/\Q (.bl<|decide (x=.non)) H):=by
 intro c s Y H x y v u Q I b a h;obtain⟨rfl,q⟩:=h;cases a;refine is_none_gen<|aR I q ?_;cases x<;>first
  |(rfl)
  |(obtain⟨t,rfl⟩:=b;rfl)
theorem xG:dz X (agf .NotIn) (fun x y H Q=>∃i j,x=.str i/\y=.str j/\Q (.bl<|!(!(aiz j i 0 j.length 1).isEmpty)) H):=by
 intro c s Y H x y v u Q I b a h;obtain⟨i,j,rfl,rfl,q⟩:=h;obtain⟨t,rfl⟩:=b;obtain⟨t',rfl⟩:=a;exact notIn_str<|aR I q rfl
theorem dz.or(h:dz X f r)(h':dz X f r'):dz X f (fun x y H Q=>r x y H Q\/r' x y H Q):=by
 intro c s Y H x y v u Q I b a q;rcases q with q|q
 .exact h c s Y H x y v u Q I b a q
 .exact h' c s Y H x y v u Q I b a q
theorem Mq(g:dz X (agf op) r)(e:PE X a ta)(hb:PE X b tb)(f:aiE op b=η):PE X (.Compare a [op] [b] pos)<|Lw r ta tb:=by
 intro l s Y H Q I h;exact wpAny_Compare1 (Th e hb I h fun v u i x y j c k d q=>g l i Y j x y v u Q c k d q) f
def aaY(K:aT)(x:V)(H:Hp)(k:Bool):Prop:=
 match x with
 |.non=>k=η
 |.bl b=>k=b
 |.int i=>k=(i != 0)
 |.str y=>y.length<=afT/\k=((y.length:Int) != 0)
 |.byt y=>y.size<=afT/\k=((y.size:Int) != 0)
 |.ref p=>(∃xs,dF K H p xs/\k=!xs.isEmpty)\/(∃xs,hV K H p xs/\k=!xs.isEmpty)\/∃a,H p=Z (.dK a)/\k=!a.isEmpty
 |_=>False
theorem A0{a:List<|κ×V}{vs:List<|κ×By}(r:KV a vs):(!vs.isEmpty)=!a.isEmpty:=by
 cases r<;>rfl
theorem sC(r:aY xs its):(!its.toArray.isEmpty)=!xs.isEmpty:=by
 cases r<;>rfl
theorem pU:(afT:Nat)<2^63:=by rw[agI];decide
theorem SV:acP X (fun x H Q=>∃k,aaY X.K x H k/\Q k H):=by
 intro l s Y H x v Q I f h;let⟨k,e,q⟩:=h
 have j:=pU;have hs:afT=16777216:=agI;cases x with
 |non=>
  cases f;have a:k=η:=e;subst a;exact truthy_none ⟨H,I,q⟩
 |bl b=>
  cases f;have a:k=b:=e;subst a;exact ahR ⟨H,I,q⟩
 |int i=>
  obtain⟨t,rfl⟩:=f;have a:k=(i != 0):=e;subst a;exact PySem.P.truthy_int ⟨H,I,q⟩
 |str y=>
  obtain⟨t,rfl⟩:=f;let⟨hy,a⟩:y.length<=afT/\k=((y.length:Int) != 0):=e
  subst a;exact PySem.P.truthy_str ⊥ ⟨H,I.tok _,q⟩
 |byt y=>
  obtain⟨t,rfl⟩:=f;let⟨hy,a⟩:y.size<=afT/\k=((y.size:Int) != 0):=e
  subst a;exact PySem.W.truthy_bytes ⊥ ⟨H,I.tok _,q⟩
 |ref p=>
  cases f;have a:(∃xs,dF X.K H p xs/\k=!xs.isEmpty)\/(∃xs,hV X.K H p xs/\k=!xs.isEmpty)\/∃c,H p=Z (.dK c)/\k=!c.isEmpty:=e;rcases a with⟨xs,g,a⟩|⟨xs,g,a⟩|⟨c,g,a⟩
  .subst a;let⟨its,r,pl,hz⟩:=I.list g
   have d:=r.length;exact wpAny_truthy_list pl.isList (by simp only[af3];omega) ⟨H,I.tok _,by rw[sC r];exact q⟩
  .subst a;let⟨its,r,pl,hz⟩:=I.tuple g
   have d:=r.length;exact truthy_tuple pl (by simp only[af3];omega) ⟨H,I.tok _,by rw[sC r];exact q⟩
  .subst a;let⟨hz,hS,vs,r,m⟩:c.length<=afT/\(p==ahg)=η/\∃vs,KV c vs/\s.heap.DictOf (cq X.prog X.w) p vs:=I.hok p _ g
   have d  := ajM r;exact wpAny_truthy_dict hS m ⊥ ⟨H,I.tok _,by rw[A0 r];exact q⟩
 |_=>exact((e)).elim
theorem AD:dz X (ahh .Add) (fun x y H Q=>∃i j,x=.str i/\y=.str j/\i.length+j.length<=afT/\Q (.str<|i++j) H):=by
 intro d s Y H x y v u Q I c a h;obtain⟨i,j,rfl,rfl,hz,q⟩:=h;obtain⟨t,rfl⟩:=c;obtain⟨t',rfl⟩:=a;exact aP I.tk<|add_str (fun t' tk b=>⟨.str<|i++j,H,I.tok _,⟨_,rfl⟩,q⟩) hz
theorem f7(r:aY [x] us):∃u,us=[u]/\a7 x u:=by
 cases r with
 |cons r1 r2=>cases r2;exact⟨_,rfl,r1⟩
theorem PX(r:aY [x,y] us):∃u w',us=[u,w']/\a7 x u/\a7 y w':=by
 cases r with
 |cons r1 r2=>
  cases r2 with
  |cons r3 r4=>cases r4;exact⟨_,_,rfl,r1,r3⟩
theorem Ju:bF X (.builtin "abs") (fun xs H Q=>∃i,xs=[.int i]/\Q (.int<|if i<0 then -i else i) H):=by
 intro b s Y H xs us Q I r h;obtain⟨i,rfl,q⟩:=h;obtain⟨u,rfl,t,rfl⟩:=f7 r;exact aP I.tk<|call_abs_int fun u tk a=>⟨.int<|if i<0 then -i else i,H,I.tok _,⟨_,rfl⟩,q⟩
theorem F6:bF X (.type "int") (fun xs H Q=>(∃i,xs=[.int i]/\Q (.int i) H)\/∃k,xs=[.bl k]/\Q (.int<|if k then 1 else 0) H):=by
 intro a s Y H xs us Q I r h;rcases h with⟨i,rfl,q⟩|⟨k,rfl,q⟩
 .obtain⟨u,rfl,t,rfl⟩:=f7 r;exact call_int_int ⟨.int i,H,I,⟨_,rfl⟩,q⟩
 .obtain⟨u,rfl,r1⟩:=f7 r;cases r1;exact call_int_bool ⟨.int<|if k then 1 else 0,H,I.tok _,⟨_,rfl⟩,q⟩
end
structure ObjM(h:aij)(x dx C:aga)(mA:alu):Prop where
 obj:h.get? x=Z (aiy C dx)
 ns:h.Ns1 dx mA
 ne:dx≠x
theorem Gq{h:aij}(n:h.Ns1 dx mA):∃od,h.get? dx=Z od/\∀name,akl name od=Z (mA name):=by
 refine Z35 n fun o es g f b c _ d=>?_;refine⟨o,f,fun name=>?_⟩;have e:=d name;unfold nsFind findBy at e;unfold akl;rw[b];dsimp only;split
 .mright
 .have a:es.toList.any (·.refKey)=η:=by
   rw[List.any_eq_false];intro y hy;let⟨z,t,hkey⟩:=c y<|Array.mem_toList_iff.mp hy
   simp[DictEntry.refKey,hkey]
  grind
theorem ObjM.look(I:ObjM h x dx C mA):∃od,PySem.W.InstAt h x (aiy C dx) C (Z od)/\∀name,akl name od=Z (mA name):=
 let⟨od,ho,hl⟩:=Gq I.ns
 ⟨od,⟨I.obj,rfl,rfl,ho⟩,hl⟩
section
variable{s:MK}{K:aT}
theorem get_map(X:K.In s.heap)(I:ObjM s.heap x dx C mA)(hg:ajT K C name=U)(b:ajA K C=U)
  (d:ahc K (.ref C) name=Z L) (e:mA name=Z v) (a:PySem.W.handedIn v=U) (h:Q v {s with toks:=s.toks+1}):
  af0 #[4] A (getAttr (.ref x) name expr) Q E s:=by
 obtain⟨od,J,c⟩:=I.look;exact PySem.W.get_value X J (PySem.W.plainGet_of hg).1 (PySem.W.findObj_own b d rfl (by rw[c,e])) a h
theorem OI(X:K.In s.heap)(I:ObjM s.heap x dx C mA)
  (hs:ahc K (.ref C) "__setattr__"=Z (Z<|.builtin "object.__setattr__")) (d:akL K C=U) (e:aj4 K C name=Z L) (f:ajA K C=U)
  (hw:akX mA ns) (hsz:ns.length<=afT)
  (h:∀h',ObjM h' x dx C (fun y=>if y=name then Z v else mA y)->agD dx s.heap h'->Q () {s with heap:=h',toks:=s.toks+2}):
  af0 #[4] A (setAttr (.ref x) name v) Q E s:=by
 let⟨od,J,hl⟩:=I.look
 refine PySem.W.set_plain X J hs<|PySem.W.osa_open X J d e fun b=>?_;let⟨cd,hc,hd'⟩:=PySem.W.any_some f
 have hx  := I.obj;refine bY<|lT<|bY<|bY<|wpAny_loadPart hx<|bY<|PySem.W.Looks.here (PySem.W.looks_clsIn X hc) ?_;rw[hd'];refine lT<|bY<|lT<|bY ?_;refine wpAny_nsSet1 I.ns fun h' c a=>?_;let⟨oD,esD,epD,hoD,hdD,hcD⟩:=c.count<|PySem.Within.cons name v hw
 refine bY<|wpAny_lookBehind hoD (by rw[hdD];exact pastItsLine_dict<|DO hcD<|by mright) ?_;exact lT<|h _ ⟨(a.2 _<|ah5 I.ne).trans I.obj,c,I.ne⟩ a
end
noncomputable def nz(f:Str)(v:V):List (Str×V)->List (Str×V)
 |[]=>[(f,v)]
 |(g,x)::r=>if g=f then(g,v)::r else(g,x)::nz f v r
theorem qJ(f g:Str)(v:V):∀fs:List<|Str×V,(nz f v fs).lookup g=if g=f then Z v else fs.lookup g:=bb (by
  show ais g [(f,v)]=_;by_cases h:g=f
  .mright
  mright) fun ⟨k,x⟩ r i=>by
  have b:=i;rw[show nz f v ((k,x)::r)=(if k=f then(k,v)::r else(k,x)::nz f v r)from rfl];by_cases a:k=f
  .rw[ali a];by_cases h:g=k
   .mright
   .have hb  := beq_eq_false_iff_ne.mpr h;simp only[ais,hb,alj fun e:g=f=>h<|e.trans a.symm]
  .rw[alj a];by_cases h:g=k
   .mright
   .have hb  := beq_eq_false_iff_ne.mpr h;simp only[ais,hb];exact b
theorem pW(f:Str)(v:V):∀fs:List<|Str×V,f∈(nz f v fs).map (·.1)/\∀g,g∈fs.map (·.1)->g∈(nz f v fs).map (·.1)
 |[]=>⟨by simp[nz],fun g h=>by simp at h⟩
 |(k,x)::r=>by
  let⟨i1,i2⟩:=pW f v r
  rw[show nz f v ((k,x)::r)=(if k=f then(k,v)::r else(k,x)::nz f v r)from rfl]
  grind
theorem qS(f:Str)(v:V):∀fs:List<|Str×V,(nz f v fs).length<=fs.length+1:=bb (by simp[nz]) fun ⟨k,x⟩ r i=>by
  have a:=i;rw[show nz f v ((k,x)::r)=(if k=f then(k,v)::r else(k,x)::nz f v r)from rfl]
  grind
theorem qd.some_of(r:qd (Z v) o):∃u,o=Z u/\a7 v u:=by
 cases o with
 |none=>exact((r)).elim
 |some u=>exact⟨u,rfl,r⟩
section
theorem wK(b:nU P w H h)(e:H a=Z (.ins C dx fs)):∃mA,ObjM h a dx C mA/\(∀f,qd (fs.lookup f)<|mA f)/\akX mA (fs.map (·.1))/\fs.length<=1000/\H dx=Z (.own a):=by
 obtain⟨d,z,ne,c,mA,n,r,q⟩:=((b a _ e));exact⟨mA,⟨c,n,ne⟩,r,q,z,d⟩
end
structure Cls(K:aT)(C:aga):Prop where
 pg:ajT K C Str.empty=U
 hd:ajA K C=U
 po:akL K C=U
 sa:ahc K (.ref C) "__setattr__"=Z (Z<|.builtin "object.__setattr__")
theorem Cls.get{K:aT}(c:Cls K C)(f:Str):ajT K C f=U:=c.pg
def eV(K:aT)(C:aga)(f:Str):Prop:=ahc K (.ref C) f=Z L
theorem eV.taker{K:aT}(n:eV K C f):aj4 K C f=Z L:=by
 unfold aj4;rw[(n)];rfl
section
variable{Y:St}
theorem Bg(I:Inv X aa Y H s)(e:H a=Z (.ins C dx fs))(c:Cls X.K C)(n:eV X.K C f)(l:fs.lookup f=Z v)
  (h:∀u d,Inv X aa Y H d->a7 v u->Q u d):af0 #[1] A (getAttr (.ref a) f b) Q E s:=by
 refine Z15 (wK I.hok e) fun mA O r _ _ _=>?_;let⟨u,hu,ru⟩:=qd.some_of (v:=v) (o:=mA f) (by grind)
 exact get_map I.kIn O (c.get f) c.hd n hu ((by
   cases v with
   |non=>cases((ru));rfl
   |bl b=>cases((ru));rfl
   |int i=>obtain⟨t,e⟩:=((ru));cases e;rfl
   |str x=>let⟨t,e⟩:=((ru));cases e;rfl
   |byt b=>let⟨t,e⟩:=((ru));cases e;rfl
   |flt b=>let⟨t,e⟩:=((ru));cases e;rfl
   |ref a=>cases((ru));rfl
   |ty n=>cases((ru));rfl)) (h u _ (I.tok _) ru)
theorem AO(I:Inv X aa Y H s)(e:H a=Z (.ins C dx fs))(c:Cls X.K C)(n:eV X.K C f)(k:fs.length<1000)(i:a7 y u)
  (h:∀d,Inv X aa Y (upd H a<|.ins C dx<|nz f y fs) d->Q () d):af0 #[1] A (setAttr (.ref a) f u) Q E s:=by
 let⟨mA,O,r,wi,_,ho⟩:=wK I.hok e
 have hz:(fs.map (·.1)).length<=afT:=by rw[iF,agI];lia
 refine OI I.kIn O c.sa c.po n.taker c.hd wi hz fun h' O' j=>h _ ?_;have hd:∃o,h'.get? dx=Z o:=let⟨o,_,_,e',_⟩:=O'.ns;⟨o,e'⟩;refine I.write (by rw[e];exact af2) (.inr ho) (fun b q hb z=>(j.2 b hb).trans z) hd ?_;refine⟨by rw[aF O.ne];exact ho,?_,O.ne,O'.obj,_,O'.ns,fun g=>?_,fun g hg=>?_⟩
 .have:=qS f y fs;lia
 .rw[qJ];by_cases q:g=f
  .rw[ali q,ali q];exact i
  grind
 .by_cases q:g=f
  .rw[q];exact(pW f y fs).1
  .refine(pW f y fs).2 g (wi g fun z=>hg ?_);mright
theorem Inv.made(I:Inv X aa Y H s):Inv X aa Y (upd (upd H s.heap.objs.size<|.own<|s.heap.objs.size+1) (s.heap.objs.size+1)<|.ins C s.heap.objs.size [])
  {s with heap:=(s.heap.push ahH).push<|aiy C s.heap.objs.size}:=by
 have a:(s.heap.push ahH).get? s.heap.objs.size=Z ahH:=ID s.heap rfl;have e2  := by
  have:=ID (s.heap.push ahH) (o:=aiy C s.heap.objs.size) rfl
  rwa [agX]at this
 have c:(s.heap.push ahH).Ns s.heap.objs.size (fun _=>L):=⟨ahH,#[],_,a,rfl,(fun e f=>absurd f<|∅),fun _=>rfl⟩;have d:=I.laid (o:=.own<|s.heap.objs.size+1) (fun b u q=>eQ _ q) (nE _) ⟨_,a⟩;refine d.laid (fun b u q=>eQ _ q) (aj5<|agX _ _) ?_;have ne:s.heap.objs.size≠s.heap.objs.size+1:=af7<|aiY _;refine⟨by rw[aF ne,aG],acr _,ne,e2,fun _=>L,(Heap.Ns1.of_empty c).at fun o q=>eQ _ q,fun _=>af2,fun y hy=>absurd rfl hy⟩
end
def aaP(K:aT)(ta:TE)(f:Str):TE:=fun Y H Q=>ta Y H fun x H1=>∃a C b fs v,x=.ref a/\H1 a=Z (.ins C b fs)/\Cls K C/\eV K C f/\fs.lookup f=Z v/\Q v H1
def acu(K:aT)(ta tv:TE)(f:Str):TS:=fun D Y H=>tv Y H fun y H1=>ta Y H1 fun x b=>∃a C c fs,x=.ref a/\b a=Z (.ins C c fs)/\Cls K C/\eV K C f/\fs.length<1000 /\
 D.nx Y (upd b a<|.ins C c<|nz f y fs)
section
variable{X:Cx}{o e value:agR}{f:Str}{pos pos' tpos:Pos}{ta tv:TE}
theorem R4(b:PE X e ta)(hb:agx e f X.env (eval e X.env)=eval e X.env):PE X (.Attribute e f pos)<|aaP X.K ta f:=by
 intro g s Y H Q I h;refine(fun hb h =>  Attribute_any_ h<|by rw[arm_eval_Attribute,hb]) hb<|bX (b g s Y H _ I h) fun u s1 k=>Z23 k fun x H1 I1 rx k=>Z56 k fun a C dx fs v ex ea c n l q=>?_;subst ex;obtain rfl:u=ahG a:=rx;exact Bg I1 ea c n l fun j i d ru=>⟨v,H1,d,ru,q⟩
theorem Ag(d:PE X o ta)(g:PE X value tv)(hs:ahj value (Z<|.Attribute o f pos') pos.line X.env=pure η):PS X (.Assign [.Attribute o f pos'] value pos)<|acu X.K ta tv f:=by
 intro b s Y H D I h;refine plainObj_wpAny_Assign_Attribute (bX (g b s Y H _ I h) fun u s1 j=>Z23 j fun y H1 I1 ry q=>bX (d b s1 Y H1 _ I1 q) fun ov s2 j=>Z23 j fun x H2 I2 rx j=>Z46 j fun a C dx fs ex ea c n l q2=>?_) hs;subst ex;obtain rfl:ov=ahG a:=rx;exact AO I2 ea c n l ry fun i e=>⟨Y,_,e,q2⟩
end
section
variable{Y:St}
inductive TyOf(K:aT)(H:Hp):V->By->Prop where
 |non:TyOf K H .non (.type "NoneType")
 |bl (x:Bool):TyOf K H (.bl x) (.type "bool")
 |int (i:Int):TyOf K H (.int i) (.type "int")
 |str (x:Str):TyOf K H (.str x) (.type "str")
 |flt (x:UInt64):TyOf K H (.flt x) (.type "float")
 |lst {a:aga} {xs:alx} (e:H a=Z (.lst xs)):TyOf K H (.ref a) (.type "list")
 |frz {a:aga} {o:Obj} {xs:alx} (e:H a=Z (.frz o<|.lst xs)):TyOf K H (.ref a) (.type "list")
 |tup {a:aga} {xs:alx} (e:H a=Z (.tup xs)):TyOf K H (.ref a) (.type "tuple")
 |dK {a:aga} {kvs:List<|Key×V} (e:H a=Z (.dK kvs)):TyOf K H (.ref a) (.type "dict")
 |dT {a:aga} {kvs:List<|List Key×V} (e:H a=Z (.dT kvs)):TyOf K H (.ref a) (.type "dict")
 | ins {a C dx:aga} {fs:List (Str×V)} (e:H a=Z (.ins C dx fs)) (cl:Cls K C) (ha:ahc K (.ref C) "__class__"=Z (Z (.builtin "object.__class__")))
   (hn:akM K (.builtin "object.__class__") "__get__"=Z (Z<|.builtin "getset_descriptor.__get__")) (htk:ak5 K (.builtin "object.__class__")=Z U)
   (hm:PySem.W.mroIn K C (.type "object")=Z U):TyOf K H (.ref a)<|.ref C
theorem iY(I:Inv X aa Y H s)(d:a7 x u)(j:TyOf X.K H x t)(e:ail X.K t c=Z b)(h:∀f,Q (.bool b) {s with toks:=f}):
  af0 #[1] A (call (.builtin "isinstance") [u,c]) Q E s:=by
 cases j with
 |non=>cases(show u=ajy from d);exact agA PySem.W.kitx_none I.kIn af2 e #[16] h
 |bl y=>cases((d));exact agA PySem.W.kitx_bool I.kIn af2 e #[16] h
 |int i=>obtain⟨t,q⟩:=((d));cases q;exact agA PySem.W.kitx_int I.kIn af2 e #[16] h
 |str y=>let⟨t,q⟩:=((d));cases q;exact agA PySem.W.kitx_str I.kIn af2 e #[16] h
 |flt y=>let⟨t,q⟩:=((d));cases q;exact agA PySem.W.kitx_float I.kIn af2 e #[16] h
 |@lst a xs ea=>
  cases((d));obtain⟨_,_,n,_,h1⟩:=((I.hok a _ ea));exact agA ajB I.kIn ⟨_,h1,rfl⟩ e #[16] h
 |@frz a ob xs ea=>
  cases((d));obtain⟨_,_,_,n,_,h1⟩:=((I.hok a _ ea));exact agA ajB I.kIn ⟨_,h1,rfl⟩ e #[16] h
 |@tup a xs ea=>
  cases((d));obtain⟨_,_,_,p⟩:=((I.hok a _ ea));let⟨o,h1,h2,_⟩:=p
  exact agA akC I.kIn ⟨o,h1,h2⟩ e #[16] h
 |@dK a kvs ea=>
  cases((d));let⟨_,_,vs,_,p⟩:=((I.hok a _ ea))
  refine Z33 p fun o es g h1 h2 _=>?_;exact agA ajC I.kIn ⟨o,h1,h2.1⟩ e #[16] h
 |@dT a kvs ea=>
  cases((d));obtain⟨_,_,xs,_,o,es,g,h1,h2,_⟩:=((I.hok a _ ea));exact agA ajC I.kIn ⟨o,h1,h2.1⟩ e #[16] h
 |@ins a C dx fs ea cl ha hn htk hm=>
  cases((d));let⟨mA,O,_⟩:=wK I.hok ea
  let⟨od,J,_⟩:=O.look
  exact agA (PySem.W.kitx_own (cl.get _) cl.hd ha hn htk hm) I.kIn J e #[16] h
end
structure Room(k:Nat)(A:ahU):Prop where
 hd:A.handled=L
 dp:A.depth+3*k+5<recursionLimit
 un:A.units+16*k+200<aiV
theorem Room.mono(r:Room k A)(h:j<=k):Room j A:=⟨r.hd,by have:=r.dp;lia,by have:=r.un;lia⟩
theorem Room.deeper(r:Room (k+1) A)(env:Env):Room k<|A.deeper env:=
 ⟨r.hd,by have:=r.dp;show A.depth+1+3*k+5<_;lia,by have:=r.un;show A.units+3+16*k+200<_;lia⟩
theorem B5{A:ahU}:(A.under<|.builtin "type.__call__" ⟨.ref C::us,kw⟩).depth=A.depth+1:=by
 rfl
theorem Bw{A:ahU}:(A.under<|.builtin "type.__call__" ⟨.ref C::us,kw⟩).units=A.units+1:=by
 rfl
theorem Room.make(r:Room (k+1) A)(C:aga)(us:alw)(kw:List<|Str×By):Room k<|A.under<|.builtin "type.__call__" ⟨.ref C::us,kw⟩:=
 ⟨r.hd,by have:=r.dp;rw[B5];lia,by have:=r.un;rw[Bw];lia⟩
theorem Room.depth(r:Room k A):A.depth<recursionLimit:=by have:=r.dp;lia
theorem Room.units(r:Room k A):A.units+64<aiV:=by have:=r.un;lia
def zP:TA:=fun _ H Q=>Q [] H
def oA(ta:TE)(tr:TA):TA:=fun Y H Q=>ta Y H fun x H1=>tr Y H1 fun xs a=>Q (x::xs) a
section
theorem Oj(f:PE X e te)(hr:PA X es t)(hs:autoParam #[21] Xaz):PA X (e::es)<|oA te t:=by
 intro pos b s Y H Q I h;rw[hs];refine ah3<|bX (f b s Y H _ I h) fun u g a=>iW a fun x H1 j r1 c=>?_;exact bX (hr pos b g Y H1 _ j c) fun us l a=>iW a fun xs i d r2 k=>⟨x::xs,i,d,.cons r1 r2,k⟩
def abJ(t:TA):TE:=fun Y H Q=>t Y H fun xs H1=>xs.length<=afT/\∀p,H1 p=L->Q (.ref p) (upd H1 p<|.tup xs)
def aan(t:TA):TE:=fun Y H Q=>t Y H fun xs H1=>xs.length<=afT/\∀p,H1 p=L->Q (.ref p) (upd H1 p<|.lst xs)
end
abbrev Sp:=alx->Hp->VK->XK->Prop
abbrev US:=List Env->Hp->MK->XK->By->MK->Prop
structure Env0(P:ahb)(w:agN)(K:aT)(mg:alu)(base:aij)(A:ahU)(outer:List Env)(s:MK)(H:Hp):Prop where
 frames:A.frames=Z outer
 mod:Mod K mg base
 bs:∀b o,base.get? b=Z o->s.heap.get? b=Z o/\H b=L
 bsz:base.objs.size<=s.heap.objs.size
 funs:s.heap.FunFrames base outer
 frf:(∀b∈tM outer,H b=L)/\UV K H
 hok:nU P w H s.heap
 bare:AllBare s.gens
def CE(a:List Env)(P:ahb)(w:agN)(H:Hp)(s:MK)(Q:VK)(u:By)(b:MK):Prop:=
 ∃v H',b.os=s.os/\AllBare b.gens/\Un (tM a) [] H H' s.heap b.heap/\nU P w H' b.heap/\a7 v u/\Q v H'
def CR(CX:US)(a:List Env)(P:ahb)(w:agN)(H:Hp)(s:MK)(Q:VK)(E:XK)(r:Result)(b:MK):Prop:=
 match r with
 |.ok (.ret u)=>CE a P w H s Q u b
 |.ok _=>False
 |.error e=>CX a H s E e b
structure FnOk(P:ahb)(w:agN)(K:aT)(mg:alu)(base:aij)(CX:US)(k:Nat)(f:aga)(fd:aid)(ps:alq)(sp:Sp):Prop where
 len:∀vs H Q E,sp vs H Q E->vs.length=ps.length
 run:∀(A:ahU)(outer:List Env)(s:MK)(H:Hp)(args:Args)(us:alw)(vs:alx)(Q:VK)(E:XK),Room k A->Env0 P w K mg base A outer s H->BindsTo s fd args (ps.zip us)->aY vs us->sp vs H Q E ->
  ajR (af6 P w) A (.call (.ref f) args) (CR CX outer P w H s Q E) s
theorem FnOk.imp{K:aT}(F:FnOk P w K mg base CX k f fd ps sp)
  (h:∀vs H Q E,sp' vs H Q E->sp vs H Q E):FnOk P w K mg base CX k f fd ps sp':=
 ⟨fun vs H Q E q=>F.len vs H Q E<|h _ _ _ _ q,fun A a s H b us vs Q E hr d hb c hs=>F.run A a s H b us vs Q E hr d hb c<|h _ _ _ _ hs⟩
theorem Env0.make{K:aT}(e:Env0 P w K mg base A outer s H)(C:aga)(us:alw)(kw:List<|Str×By):
  Env0 P w K mg base (A.under<|.builtin "type.__call__" ⟨.ref C::us,kw⟩) outer s H:=⟨by first|exact e.frames|assumption,e.mod,e.bs,e.bsz,e.funs,e.frf,e.hok,e.bare⟩
theorem Env0.in1{K:aT}(e:Env0 P w K mg base A outer s H):
  Env0 P w K mg base A.in1 outer s H:=⟨e.frames,e.mod,e.bs,e.bsz,e.funs,e.frf,e.hok,e.bare⟩
section
variable{Y:St}
theorem Inv.env0(I:Inv X aa Y H s):Env0 X.prog X.w X.K X.mg X.base X.A X.stack s H:=
 ⟨I.ok.frames,I.ok.mod,I.bs,DO I.ok.bsz I.sz,I.stack,⟨I.stkFree,I.tb⟩,I.hok,I.bare⟩
theorem Inv.after(I:Inv X aa Y H s)(h:CE X.stack X.prog X.w H s Q u s')(e:autoParam (X.tn<=s'.toks) Xbx):EP X aa Y Q u s':=by
 refine Z26 h fun v H' os bare un a r q=>?_;obtain⟨f,g,d,t,c⟩:=s';obtain rfl:c=s.os:=os;exact⟨v,H',I.call un a bare fun b z=>absurd z<|∅,r,q⟩
end
def Ys(sp:Sp)(dvs:alx)(E:XK)(t:TA):TE:=fun Y H Q=>t Y H fun vs H1=>sp (vs++dvs) H1 Q E
def Wn(C:aga)(sp:Sp)(dvs:alx)(E:XK)(t:TA):TE:=fun Y H Q=>t Y H fun vs H1=>∀x a,H1 x=L->H1 a=L->a≠x ->
 sp (.ref x::(vs++dvs)) (upd (upd H1 a<|.own x) x<|.ins C a []) (fun v b=>v=.non/\Q (.ref x) b) E
def gu(K:aT)(a:aid)(ps:alq)(ds:alw):Prop:=
 ∀(s:MK)(us:alw),K.In s.heap->(us++ds).length=ps.length->BindsTo s a ⟨us,[]⟩ (ps.zip<|us++ds)
theorem gu.all{K:aT}(h:∀us:alw,us.length=ps.length->bindArgs fd ⟨us,[]⟩=pure (ps.zip us)):gu K fd ps []:=fun s us _ a=>by
 rw[agh]at a⊢;exact .of_eq (h us a)
def tL(CX:US)(X:Cx)(E:XK):Prop:=∀(b:alr)(Y:St)(H:Hp)(s:MK)(e:By)(a:MK),Inv X b Y H s->CX X.stack H s E e a->X.xe e a
section
variable{p pos apos:Pos}
theorem Ah{Y:St}(F:FnOk X.prog X.w X.K X.mg X.base CX k f fd ps sp)(hr:Room k X.A)(hb:gu X.K fd ps ds)(c:aY dvs ds)(b:tL CX X E)
  (I:Inv X aa Y H s) (r:aY vs us) (h:sp (vs++dvs) H Q E):af0 #[1] X.A (call (.ref f) us) (EP X aa Y Q) X.xe s:=by
 have r2  := r.append c;have i:(us++ds).length=ps.length:=by rw[<-r2.length];exact F.len _ _ _ _ h
 refine wpAny_call<|fH I.tk<|aix (F.run X.A X.stack s H ⟨us,[]⟩ (us++ds) (vs++dvs) Q E hr I.env0 (hb s us I.kIn i) r2 h) fun r j a d=>?_;cases r with
 |error e=>exact b aa Y H s e j I a
 |ok g=>
  cases g with
  |ret u=>exact I.after a
  |next=>exact ag7 a
  |brk=>exact ag7 a
  |cont=>exact ag7 a
theorem yN(F:FnOk X.prog X.w X.K X.mg X.base CX k f fd ps sp)(hr:Room k X.A)(hg:Gl X x)(e:X.mg x=Z (.ref f))(d:aiK X.K (.ref f)=U)(hb:gu X.K fd ps ds)(c:aY dvs ds)(b:tL CX X E)
  (a:autoParam (alz x) Xax):PE X (.Call (.Name x p) [] [] pos)<|Ys sp dvs E zP:=by
 intro g s Y H Q I h;refine agi<|jN I hg e ?_ a;exact PySem.W.callWith_K0 I.kIn d<|Ah F hr hb c b I .nil h
structure Mk(K:aT)(C f:aga):Prop where
 makes:PySem.W.makesIn K C=U
 init:ahc K (.ref C) "__init__"=Z (Z<|.ref f)
 fn:PySem.W.isFn K (.ref f)=U
 kp:aiK K (.ref C)=U
theorem KK{Y:St}(M:Mk X.K C f)(F:FnOk X.prog X.w X.K X.mg X.base CX k f fd ps sp)(hr:Room (k+1) X.A)(hb:gu X.K fd ps ds)(g:aY dvs ds)
  (j:tL CX X E) (I:Inv X aa Y H s) (r:aY vs us)
  (h:∀x c,H x=L->H c=L->c≠x->sp (.ref x::(vs++dvs)) (upd (upd H c<|.own x) x<|.ins C c []) (fun v p=>v=.non/\Q (.ref x) p) E):
  af0 #[1] X.A (call (.ref C) us) (EP X aa Y Q) X.xe s:=by
 have d:=h (s.heap.objs.size+1) s.heap.objs.size (I.hok.fresh<|ai9 _) (I.hok.fresh<|nE _)<|af7<|aiY _;have b:=Inv.made (C:=C) I;have r2:aY (V.ref (s.heap.objs.size+1)::(vs++dvs))<|ahG (s.heap.objs.size+1)::(us++ds):=.cons rfl (r.append g);have hl  := by
  have e:=r2.length;rw[F.len _ _ _ _ d]at e;exact e.symm
 refine wpAny_call ((fun X m q i h=>by
   exact PySem.W.make_core (PySem.W.makes_of X m) (PySem.W.looks_findIn X q) (fun self=>PySem.W.bind_fn X self i) (.inl rfl) h) I.kIn M.makes M.init (beq_iff_eq.mp M.fn) (fH b.tk (aix (F.run _ X.stack _ _ ⟨ahG (s.heap.objs.size+1)::us,[]⟩ (ahG (s.heap.objs.size+1)::(us++ds)) _ _ E (hr.make C us [])
  (b.env0.make C us []) (hb _ (ahG (s.heap.objs.size+1)::us) b.kIn hl) r2 d) fun r n a o=>?_)))
 cases r with
 |error e=>exact j aa Y _ _ e n b a
 |ok l=>
  cases l with
  |ret u=>
   let⟨v,H',I3,rv,ev,q3⟩:=b.after a
   subst ev;exact⟨rv,⟨V.ref<|s.heap.objs.size+1,H',I3,rfl,q3⟩⟩
  |next=>exact ag7 a
  |brk=>exact ag7 a
  |cont=>exact ag7 a
theorem MW(M:Mk X.K C f)(F:FnOk X.prog X.w X.K X.mg X.base CX k f fd ps sp)(hr:Room (k+1) X.A)(hg:Gl X x)(l:X.mg x=Z (.ref C))(hb:gu X.K fd ps ds)(d:aY dvs ds)(i:tL CX X E)
  (g:PA X (e::es) t) (a:autoParam (alz x) Xax) (m:autoParam #[21] Xaz) (b:autoParam ((ahP pos<|afY es X.env).any (·.1)=η) Xaz):
  PE X #[7] (Wn C sp dvs E t):=by
 intro n s Y H Q I h;refine agi<|jN I hg l ?_ a;refine ajo I.ok.mod.kin M.kp (bX (g pos n s Y H _ I h) fun us o j=>iW j fun vs H1 c r q=>⟨c.kIn,?_⟩) m b;exact KK M F hr hb d i c r q
end
def PK(X:Cx)(a:List ajw)(t:TA):Prop:=
 ∀(pos:Pos)(b:alr)(s:MK)(Y:St)(H:Hp)(Q:alx->Hp->Prop),Inv X b Y H s->t Y H Q->af0 #[1] X.A (evalAll<|(backToKw pos<|ajg a X.env).map (·.2)) (AP X b Y Q) X.xe s
section
variable{p pos apos:Pos}
theorem UC:PK X [] zP:=fun _ _ _ _ H Q I h=>wpAny_evalAll_nil ⟨[],H,I,.nil,h⟩
theorem Oz(f:PE X e te)(hr:PK X kws t):PK X (⟨nm,e,kpos⟩::kws)<|oA te t:=by
 intro pos b s Y H Q I h;refine wpAny_evalAll_cons<|bY<|bX (f b s Y H _ I h) fun u g a=>iW a fun x H1 j r1 c=>bY<|wpAny_standAt<|lT ?_;exact bX (hr pos b g Y H1 _ j c) fun us l a=>iW a fun xs i d r2 k=>⟨x::xs,i,d,.cons r1 r2,k⟩
end
structure FnScope(N P:alq)(sc:Scope):Prop where
 kind:sc.kind=.function
 co:sc.isCoroutine=η
 gen:sc.isGenerator=η
 nd:N.Nodup
 pre:N.take P.length=P
 par:∀x∈P,sc.names.lookup x=Z .local\/sc.names.lookup x=Z .cell
 nofree:∀y∈sc.names,y.2≠.free
theorem vW{a:Str->Option aiL}:∀{binds:List<|Str×By}{m:alu},(∀v,(x,v)∉binds)->bindL a binds m x=m x
 |[],_,_=>rfl
 |(n,v)::r,m,h=>by
  unfold bindL;rw[vW fun w hw=>h w<|mK _ hw];split
  .grind
  .rfl
theorem vV{a:Str->Option aiL}:∀{binds:List<|Str×By}{m:alu},(∀v,(x,v)∉binds)->bindC a binds m x=m x
 |[],_,_=>rfl
 |(n,v)::r,m,h=>by
  unfold bindC;rw[vV fun w hw=>h w<|mK _ hw];split
  .rfl
  grind
theorem vP{a:Str->Option aiL}:∀{P:alq}{vs:alw}{i:Nat}{m:alu},P.Nodup->P[i]?=Z x->vs[i]?=Z v->a x=Z .local ->
  bindL a (P.zip vs) m x=Z v
 |[],_,_,_,_,h,_,_=>by simp at h
 |_::_,[],_,_,_,_,h,_=>by simp at h
 |p::P,w::vs,0,m,nd,h1,h2,hk=>by
  simp at h1 h2;subst h1;subst h2;show bindL a ((p,w)::P.zip vs) m p=_;unfold bindL;rw[vW fun v b=>(agc.mp nd).1 (agp b).1,ali hk];simp
 |p::P,w::vs,i+1,m,nd,h1,h2,hk=>by
  show bindL a ((p,w)::P.zip vs) m x=_;exact vP (agc.mp nd).2 (by simpa using h1) (by simpa using h2) hk
theorem vE{a:Str->Option aiL}:∀{P:alq}{vs:alw}{i:Nat}{m:alu},P.Nodup->P[i]?=Z x->vs[i]?=Z v->a x≠Z .local ->
  bindC a (P.zip vs) m x=Z v
 |[],_,_,_,_,h,_,_=>by simp at h
 |_::_,[],_,_,_,_,h,_=>by simp at h
 |p::P,w::vs,0,m,nd,h1,h2,hk=>by
  simp at h1 h2;subst h1;subst h2;show bindC a ((p,w)::P.zip vs) m p=_;unfold bindC;rw[vV fun v b=>(agc.mp nd).1 (agp b).1,alj hk];simp
 |p::P,w::vs,i+1,m,nd,h1,h2,hk=>by
  show bindC a ((p,w)::P.zip vs) m x=_;exact vE (agc.mp nd).2 (by simpa using h1) (by simpa using h2) hk
noncomputable def start(N:alq)(vs:alx):St:=vs.map Z++aim (N.length-vs.length) L
noncomputable def xq(CX:US)(P:ahb)(w:agN)(K:aT)(mg:alu)(base:aij)(N:alq)(a:Str)(scope:Scope)(f:aga)(c:By)(A:ahU)(outer:List Env)(s:MK)(H:Hp)(E:XK):Cx where
 prog:=P
 w:=w
 K:=K
 mg:=mg
 base:=base
 A:=A.deeper<|ake a scope s.heap.objs.size f c
 N:=N
 s₀:=s
 H₀:=H
 env:=ake a scope s.heap.objs.size f c
 outer:=outer
 stack:=ake a scope s.heap.objs.size f c::outer
 ex:=[]
 calm:=U
 fn:=fun _=>U
 pn:=[]
 xe:=fun e d=>af0 (af6 P w) (A.deeper<|ake a scope s.heap.objs.size f c) (leaving (ake a scope s.heap.objs.size f c) e) (fun _ b=>CX outer H s E e b) (fun g b=>CX outer H s E g b) d
theorem ze{a:Scope}(h:a.names.lookup x=Z .cell):∃c,(cellsFrom n a.names []).lookup x=Z c:=by
 have q:=ajZ a.names n []<|.inl h;exact aiu.mp q
theorem Gb{K:aT}
  (S:FnScope N ps scope) (o:A.handled=L) (d:Env0 P w K mg base A outer s H) (D:vs.length=ps.length) (r:aY vs us)
  (x:InCallC s s.heap.objs.size (bindL (ake qual scope s.heap.objs.size f cd).kindOf (ps.zip us) fun _=>L) (cellsFrom (s.heap.objs.size+1) scope.names []) (bindC (ake qual scope s.heap.objs.size f cd).kindOf (ps.zip us) fun _=>L) s1):
  Inv (xq CX P w K mg base N qual scope f cd A outer s H E) [] (start N vs) H s1:=by
 have B:ps.length<=N.length:=by have:=alo List.length S.pre;rw[agP]at this;lia
 obtain⟨h1,F,rfl,n⟩:=x.done;have g:∀b:aga,b∉(xq CX P w K mg base N qual scope f cd A outer s H E).ex:=fun b z=>absurd (show b∈([]:alv)from z) ∅;refine⟨⟨d.mod,S.kind,rfl,rfl,nE _,fun y z c h1 h2=>?_,fun y hy=>?_,fun y c _ h=>?_,fun _=>o,Around.frames_deeper d.frames,.inr ⟨rfl,rfl⟩,fun b z=>absurd z<|g b,d.bs,d.bsz,fun b _ _=>g b,fun b z=>absurd z<|g b,d.funs,d.frf⟩,
  rfl,d.bare,Un.kept n,⟨_,x.toInCall.ns,fun i y v h1 h2 C=>?_⟩,fun y c h=>⟨_,x.cell y c h⟩,d.hok.fresh (nE _),fun y c h=>?_,fun p l=>absurd (show p∈([]:alr)from l) ∅,d.hok.kept n,?_,acr _⟩
 .exact name_of_addr x.apart (ahl h1) (ahl h2)
 .have hy:scope.names.lookup y=Z .cell\/scope.names.lookup y=Z .free:=hy;rcases hy with hy|hy
  .exact ze hy
  .exact absurd rfl (S.nofree _<|ahl hy)
 .exact akY (x.above y c<|ahl h)
 .have m:i<vs.length:=by
   unfold start at h2;by_cases m:i<vs.length
   .exact m
   .rw[ajj<|by simpa using m]at h2;rw[ajN]at h2;split at h2<;>cases h2
  have t:vs[i]?=Z v:=by
   unfold start at h2;rw[ain<|by simpa using m,agH]at h2;cases e:vs[i]? with
   |none=>rw[e]at h2;cases h2
   |some a=>rw[e]at h2;cases h2;rfl
  let⟨u,hu,rv⟩:=r.get t
  have l:ps[i]?=Z y:=by
   rw[<-S.pre,List.getElem?_take_of_lt<|⊥];exact h1
  have j:ps.Nodup:=by rw[<-S.pre];exact S.nd.sublist<|akN _ _
  refine⟨u,rv,?_⟩;rcases S.par y (agm l)with k|k
  .exact .inl ⟨k,vP j l hu k⟩
  .obtain⟨c,e⟩:=ze k;refine .inr ⟨.inl k,c,e,?_⟩;have q:=x.cell y c e;rw[vE j l hu (by show scope.names.lookup y≠_;rw[k];decide)]at q;exact q
 .exact d.hok.fresh (akY<|x.above y c<|ahl h)
 .unfold start;show _=N.length;mright
theorem Zh{K:aT}{C kV l B c F oc:By}
  (lk:K.lookup f=Z ⟨oc,od,.func<|ahS name qual params body scope C kV l B an c F,osl⟩) (p:akm K c qual=U) (S:FnScope N ps scope)
  (len:∀vs H Q E,sp vs H Q E->vs.length=ps.length)
  (g:∀(A:ahU)(a:List Env)(s:MK)(H:Hp)(vs:alx)(Q:VK)(E:XK),Room k (A.deeper<|ake qual scope s.heap.objs.size f c)->sp vs H Q E ->
   ∃t,Ly (xq CX P w K mg base N qual scope f c A a s H E) body t/\t {nx:=fun _ H'=>Q .non H',rt:=Q} (start N vs) H):
  FnOk P w K mg base CX (k+1) f (ahS name qual params body scope C kV l B an c F) ps sp:=by
 refine⟨len,fun A a s H D us vs Q E hr j hb r i=>?_⟩;have R:=len _ _ _ _ i;have KX  := j.mod.kin.keeps fun b o e=>(j.bs b o e).1;have lim  := j.mod.nolimit.keeps fun b o e=>(j.bs b o e).1;have h:∀y∈ps.zip us,scope.names.lookup y.1=Z .local\/(scope.names.lookup y.1=Z .cell/\((cellsFrom (s.heap.objs.size+1) scope.names []).lookup y.1).isSome=U):=fun⟨n,v⟩hy=>by
  rcases S.par n (agp hy).1 with q|q
  .exact .inl q
  .exact .inr ⟨q,ajZ _ _ _<|.inl q⟩
 refine codeAny_call_function hr.depth (KX _ _ lk) rfl S.co S.gen rfl (PySem.W.codeRec_of KX p) (hb _ _ _ _ ?_);refine wpAny_newFunctionEnv_cells S.kind h fun env T s1 x=>?_;subst T;refine⟨lim.keeps x.toInCall.keep,codeAny_func ?_⟩;obtain⟨t,M,G⟩:=g A a s H vs Q E (hr.deeper _) i;have I:Inv (xq CX P w K mg base N qual scope f c A a s H E) [] (start N vs) H s1:=Gb S hr.hd j R r x;refine agE (M [] s1 (start N vs) H _ I G) (fun O z hs=>?_) fun e z hs=>hs;have fin:∀{d:St}{H':Hp}{v:V}{u:By},Inv (xq CX P w K mg base N qual scope f c A a s H E) [] d H' z->a7 v u->Q v H'->CE a P w H s Q u z:=
  fun{d H' v u}J m q=>⟨v,H',J.os,J.bare,J.base,J.hok,m,q⟩
 cases O with
 |ret u=>
  refine Z33 hs fun v d H' J m q=>?_;exact fin J m q
 |next=>
  obtain⟨d,H',J,q⟩:=hs;exact fin (v:=V.non) J rfl q
 |brk=>
  obtain⟨_,_,_,q⟩:=hs;exact ag7 q
 |cont=>
  let⟨_,_,_,q⟩:=hs
  exact ag7 q
section
variable{p pos:Pos}{id:String}
def UI(r:alx->Hp->VK->Prop)(t:TA):TE:=fun Y H Q=>t Y H fun vs H1=>r vs H1 Q
theorem K1(n:bF X (.builtin id) r)(hg:Gl X x)(k:X.mg x=L)(l:af9 x=Z (.builtin id))(g:PA X (e::es) t)(hn:autoParam (x≠"__name__") Xax)(a:autoParam (alz x) Xax)
  (d:autoParam #[21] Xaz) (b:autoParam ((ahP pos<|afY es X.env).any (·.1)=η) Xaz):PE X #[7]<|UI r t:=by
 intro c s Y H Q I h;refine agi<|dX I hg k l ?_ hn a;exact ahT (bX (g pos c s Y H _ I h) fun us i j=>iW j fun vs H1 m r1 f=>n c i Y H1 vs us Q m r1 f) d b
theorem Gn(n:bF X (.type T) r)(hg:Gl X x)(k:X.mg x=L)(l:af9 x=Z (.type T))(g:PA X (e::es) t)(hn:autoParam (x≠"__name__") Xax)(a:autoParam (alz x) Xax)
  (d:autoParam #[21] Xaz) (b:autoParam ((ahP pos<|afY es X.env).any (·.1)=η) Xaz):PE X #[7]<|UI r t:=by
 intro c s Y H Q I h;refine agi<|dX I hg k l ?_ hn a;exact agg (bX (g pos c s Y H _ I h) fun us i j=>iW j fun vs H1 m r1 f=>n c i Y H1 vs us Q m r1 f) d b
end
end L2
namespace HT
open PySem PyProof.Rows
section
variable{prog:ahb}{w:agN}{A:ahU}{E:als}{s:MK}
theorem N0(c:akW s.heap t vs.toArray)(hb:akW s.heap b ws.toArray)(a:vs≠[])
  (h1:ws=[]->Q (.ref t) s) (h2:ws≠[]->Q #[13] {s with heap:=s.heap.push {cls:=.type "tuple",data:=.seq (vs++ws).toArray}})
  (hsz:vs.length+ws.length<=afT):af0 #[4] A (ahh .Add (.ref t)<|.ref b) Q E s:=by
 let⟨⟨cls,dd,data,sl⟩,ho,hc,n,hd⟩:=id c
 let⟨⟨cls2,dd2,data2,sl2⟩,ho2,hc2,n2,hd2⟩:=id hb
 subst hc hd hc2 hd2;have e:vs.toArray++ws.toArray=(vs++ws).toArray:=∅
 by_cases hw:ws=[]
 .exact concat_meets ⟨_,ho,rfl⟩ ⟨_,ho2,rfl⟩ noFill_tuple_add seq_tuple_add aiG aiA (aiv _ _)
   (tuple_addW1 t b vs.toArray ws.toArray n n2 dd dd2 sl sl2 (by simpa using a)<|by simp[hw]) ⟨ho,ho2,h1 hw⟩
 .refine concat_meets ⟨_,ho,rfl⟩ ⟨_,ho2,rfl⟩ noFill_tuple_add seq_tuple_add aiG aiA (aiv _ _)
   (tuple_addW2 t b vs.toArray ws.toArray n n2 dd dd2 sl sl2 (by simpa using a) (by simpa using hw)<|by assumption) ⟨ho,ho2,?_⟩
  rw[e];exact h2 hw
noncomputable def sIx(n d:Nat):Option Int->Nat
 |none=>d
 |some v=>if v<0 then(v+(n:Int)).toNat else min v.toNat n
theorem lj(n d:Nat):sIx n d L=d:=rfl
theorem gH(n d k:Nat):sIx n d (Z (k:Int))=min k n:=by
 rfl
theorem AJ(n d:Nat)(a:d<=n)(o:Option Int):sIx n d o<=n:=by
 cases o with
 |none=>exact a
 |some v=>
  show(if v<0 then(v+n).toNat else min v.toNat n)<=n
  lia
theorem El(v:Int)(n d:Nat):(if v<0 then max (v+(n:Int)) 0 else min v (n:Int))=((sIx n d (Z v):Nat):Int):=by
 show(if v<0 then max (v+n) 0 else min v n)=(((if v<0 then(v+n).toNat else min v.toNat n)))
 grind
theorem Bu(lo a:Option Int)(n:Nat):ajs lo a 1 (n:Int)=(((sIx n 0 lo:Nat):Int),((sIx n n a:Nat):Int)):=by
 refine Prod.ext ?_ ?_
 .cases lo with
  |none=>rfl
  |some v=>exact El v n 0
 .cases a with
  |none=>rfl
  |some v=>exact El v n n
theorem AL(i j:Nat):ahD (i:Int) (j:Int) 1=j-i:=by
 unfold ahD
 lia
theorem tF(p:IsPart v o)(h:Q o s):af0 #[4] A (Builtin.Slice.slicePartIndex v) Q E s:=by
 cases p with
 |none=>exact slicePart_none h
 |int i t=>exact slicePart_int h
theorem jm{lo a:Option Int}{n:Nat}(hs:s.heap.IsSliceOf sl vl vu .none)(pl:IsPart vl lo)(b:IsPart vu a)
  (h:Q (((sIx n 0 lo:Nat):Int),1,sIx n n a-sIx n 0 lo) s):af0 #[4] A (Builtin.Slice.sliceApplied (.ref sl)<|pure (n:Int)) Q E s:=by
 let⟨os,hos,hcs,hds⟩:=id hs
 refine bY<|bY<|ag5 hos hds rfl (bY<|ag5 hos hds rfl (bY<|ag5 hos hds rfl (lT ?_)));refine bY<|slicePart_none ?_;refine bY<|tF pl<|bY<|tF b<|bY<|lT ?_;show af0 _ _ (match ajs lo a 1 n with|(lo,a)=>pure (lo,(1:Int),ahD lo a 1)) _ _ s
 rw[Bu lo a n];show af0 _ _ (pure (((sIx n 0 lo):Int),1,ahD ((sIx n 0 lo)) ((sIx n n a)) 1)) _ _ s;rw[AL];exact lT h
theorem JV(xs:Array By)(i k:Nat):((agj k).filterMap fun(m:Nat)=>xs[((i:Int)+(m:Int)*1).toNat]?).toArray=((xs.toList.drop i).take k).toArray:=by
 have e:(fun(m:Nat)=>xs[((i:Int)+m*1).toNat]?)=fun m=>xs[i+m]?:=by
  grind
 rw[e]
 have:=pick_run xs i k
 rw[List.filterMap_map]at this;have a:((fun x=>xs[x]?)∘fun x=>i+x)=fun m=>xs[i+m]?:=rfl;rw[a]at this;rw[this]
theorem on{lo b:Option Int}(c:akW s.heap t items)(hs:s.heap.IsSliceOf sl vl vu .none)(pl:IsPart vl lo)(f:IsPart vu b)
  (hw:¬(sIx items.size 0 lo=0/\sIx items.size items.size b=items.size))
  (h:Q #[13] {s with heap:=s.heap.push {cls:=.type "tuple",data:=.seq ((items.toList.drop<|sIx items.size 0 lo).take<|sIx items.size items.size b-sIx items.size 0 lo).toArray}})
  (hsz:items.size<=afT):af0 #[4] A (ajx (.ref t)<|.ref sl) Q E s:=by
 have a:sizeOk<|.seq ((items.toList.drop<|sIx items.size 0 lo).take<|sIx items.size items.size b-sIx items.size 0 lo).toArray:=by
  show((items.toList.drop<|sIx items.size 0 lo).take<|sIx items.size items.size b-sIx items.size 0 lo).toArray.size<=afT;rw[af3,agP,ah0,ait];omega
 have j:sIx items.size items.size b<=items.size:=AJ _ _ (nE _) b;let⟨os,hos,hcs,hds⟩:=id hs
 have d:s.TypeIs (.ref sl) "slice":=⟨os,hos,hcs⟩;unfold ajx;try with_reducible refine ag1 ?_
 first|refine bY (lT ?_)|skip
 refine bY<|wpAny_sequenceKey c.typeIs ∎ ?_;refine bY (agG (name:=afS "__getitem__") c.typeIs agB
  (agt agB c.typeIs entry_tuple_getitem ?_ (args_tuple_getitem _ _)))
 show af0 _ _ (ajk (.ref t) >>= _) _ _ s;refine bY<|tupleItemsOf_ c ?_;refine bY<|akf d ?_;rw[ali<|∎];refine bY<|jm hs pl f ?_;have e:¬((((sIx items.size 0 lo:Nat):Int)==0&&(1:Int)==1&&(sIx items.size items.size b-sIx items.size 0 lo)==items.size)=U):=by
  intro q;rw[afU,afU]at q;have g:((sIx items.size 0 lo:Nat):Int)=0:=eq_of_beq q.1.1;have i:sIx items.size items.size b-sIx items.size 0 lo=items.size:=eq_of_beq q.2;exact hw ⟨⊥,⊥⟩
 show af0 _ _ (if(((sIx items.size 0 lo:Nat):Int)==0&&(1:Int)==1&&(sIx items.size items.size b-sIx items.size 0 lo)==items.size)=U then _ else _) _ _ s;rw[alj e,JV]
 first
  |exact bY (m:=aiw _) (agV (lT ⟨_,rfl,lT h⟩) a)
  |exact bY (m:=aiw _) (agV (bY<|lT<|lT ⟨_,rfl,lT h⟩) a)
  |exact bY (bY (m:=aiw _)<|agV (lT<|lT ⟨_,rfl,lT h⟩) a)
  |rfl
end
end HT
namespace L2
open PySem PySem.Spec PyProof.Rows
abbrev TO:=St->Hp->(Option Int->Hp->Prop)->Prop
def PO(X:Cx)(e:Option agR)(t:TO):Prop:=
 ∀(a:alr)(s:MK)(Y:St)(H:Hp)(Q:Option Int->Hp->Prop),Inv X a Y H s->t Y H Q ->
  af0 #[1] X.A (evalPart e X.env) (fun u b=>∃o H',Inv X a Y H' b/\IsPart u o/\Q o H') X.xe s
def NF:TO:=fun _ H Q=>Q L H
section
variable{lo:Option agR}
def Aa(X:Cx)(r:V->Option Int->Option Int->Hp->VK->Prop):Prop:=
 ∀(e:alr)(s:MK)(Y:St)(H:Hp)(x:V)(v a c:By)(lo d:Option Int)(b:aga)(Q:VK),Inv X e Y H s->a7 x v->s.heap.IsSliceOf b a c .none->IsPart a lo->IsPart c d->r x lo d H Q ->
  ∃T id,typeLookup (.type T) "__getitem__"=pure (Z<|.builtin id)/\s.TypeIs v T/\af0 #[1] X.A (ajx v<|.ref b) (EP X e Y Q) X.xe s
theorem Aa.or(h:Aa X r)(h':Aa X r'):Aa X (fun x lo a H Q=>r x lo a H Q\/r' x lo a H Q):=by
 intro g s Y H x v d b lo a c Q I f hs pl e q;rcases q with q|q
 .exact h g s Y H x v d b lo a c Q I f hs pl e q
 .exact h' g s Y H x v d b lo a c Q I f hs pl e q
def tSl(r:V->Option Int->Option Int->Hp->VK->Prop)(te:TE)(d c:TO):TE:=fun Y H Q=>te Y H fun x H1=>d Y H1 fun l a=>c Y a fun u b=>r x l u b Q
def zy(xs:alx)(lo a:Option Int):alx:=(xs.drop<|HT.sIx xs.length 0 lo).take<|HT.sIx xs.length xs.length a-HT.sIx xs.length 0 lo
theorem qz(xs:alx)(lo a:Option Int):(zy xs lo a).length<=xs.length:=by
 unfold zy
 grind
def adg(K:aT):V->Option Int->Option Int->Hp->VK->Prop:=fun x lo b H Q=>∃a xs,x=.ref a/\hV K H a xs /\
 ¬(HT.sIx xs.length 0 lo=0/\HT.sIx xs.length xs.length b=xs.length)/\∀p,H p=L->Q (.ref p) (upd H p<|.tup<|zy xs lo b)
theorem R7:Aa X<|adg X.K:=by
 intro m s Y H x v l i lo d j Q I g hs pl f h;refine Z24 h fun a xs r0_ e hw q=>?_;subst r0_;cases g;let⟨its,r,ht,hz⟩:=I.tuple e
 have c:its.toArray.size=xs.length:=by exact r.length.symm
 refine⟨"tuple",_,agB.lookup,ht.typeIs,?_⟩;refine HT.on ht hs pl f (by rw[c];exact hw) ?_ ⊥;rw[c];refine⟨.ref s.heap.objs.size,_,I.laid (fun b k q=>eQ _ q) (nE _) ?_,rfl,q _<|I.hok.fresh<|nE _⟩;exact⟨DO (qz xs lo d) hz,_,(r.drop<|HT.sIx xs.length 0 lo).take<|HT.sIx xs.length xs.length d-HT.sIx xs.length 0 lo,IsTup.new _ _⟩
def Vv(K:aT):R2:=fun x y H Q=>∃a b xs ys,x=.ref a/\y=.ref b/\hV K H a xs/\hV K H b ys/\xs≠[]/\xs.length+ys.length<=afT /\
 (ys=[]->Q (.ref a) H)/\(ys≠[]->∀p,H p=L->Q (.ref p) (upd H p<|.tup<|xs++ys))
theorem aY.nil_iff(r:aY xs us):us=[]↔xs=[]:=by
 cases r with
 |nil=>simp
 |cons _ _=>simp
theorem M9:dz X (ahh .Add)<|Vv X.K:=by
 intro k s Y H x y v u Q I i d h;refine Z48 h fun a b xs ys r0_ r1_ e hb f hz c g=>?_;subst r0_ r1_;cases i;cases d;let⟨its,r1,p1,_⟩:=I.tuple e
 let⟨its2,r2,p2,_⟩:=I.tuple hb
 refine HT.N0 p1 p2 (fun z=>f<|r1.nil_iff.mp z) (fun z=>⟨.ref a,H,I,rfl,c<|r2.nil_iff.mp z⟩) (fun z=>?_) (by rw[<-r1.length,<-r2.length];exact hz);refine⟨.ref s.heap.objs.size,_,I.laid (fun b j q=>eQ _ q) (nE _) ?_,rfl,g (fun w=>z<|r2.nil_iff.mpr w) _<|I.hok.fresh<|nE _⟩;exact⟨by simp_all,_,r1.append r2,IsTup.new _ _⟩
end
noncomputable def NT(n:Nat)(i:Int):Option Nat:=if 0<=i then(if i<n then Z i.toNat else L)else if -(n:Int)<=i then Z (i+n).toNat else L
def atI{α:Type}(xs:List α)(i:Int):Option α:=(NT xs.length i).bind fun j=>xs[j]?
theorem MS(h:NT n i=Z j):seqIndex? i n=Z j/\j<n/\-(n:Int)<=i/\i<n:=by
 unfold NT at h;by_cases a:0<=i
 .rw[ali a]at h;by_cases h1:i<n
  .rw[ali h1]at h;have e  := ahd h;exact⟨by rw[seqIndex_of a h1,e],⊥,⊥,h1⟩
  grind
 .rw[alj a]at h;by_cases h1:-n<=i
  .rw[ali h1]at h;have e  := ahd h;exact⟨by rw[seqIndex_neg ⊥ h1,e],⊥,h1,⊥⟩
  grind
theorem xh{xs:List α}{v:α}(h:atI xs i=Z v):∃j,seqIndex? i xs.length=Z j/\xs[j]?=Z v/\j<xs.length/\-(xs.length:Int)<=i/\i<xs.length:=by
 unfold atI at h;cases e:NT xs.length i with
 |none=>rw[e]at h;nofun
 |some j=>
  rw[e]at h;let⟨h1,h2,h3,h4⟩:=MS e
  exact⟨j,h1,h,h2,h3,h4⟩
theorem bP{xs:List α}{j:Nat}{v:α}(h:xs[j]?=Z v):atI xs (j:Int)=Z v:=by
 have hj  := (af1.mp h).1;have e:NT xs.length j=Z j:=by
  unfold NT;mright
 unfold atI;rw[e];exact h
def rV(b:agR):Prop:=∀o i,subscripted b η o i=operate [o,i] (ajx o i)
def EK(X:Cx)(r:R2):Prop:=
 ∀(value a:agR)(b:alr)(s:MK)(Y:St)(H:Hp)(x y:V)(v u:By)(Q:VK),Inv X b Y H s->a7 x v->a7 y u->r x y H Q ->
  subscripted a η v u=operate [v,u] (ajx v u)->af0 #[1] X.A (subscriptTail value a v u) (EP X b Y Q) X.xe s
def YZ(X:Cx)(id:String)(r:V->alx->Hp->VK->Prop):Prop:=
 ∀(a:alr)(s:MK)(Y:St)(H:Hp)(x:V)(xs:alx)(v:By)(us:alw)(Q:VK),Inv X a Y H s->a7 x v->aY xs us->r x xs H Q ->
  af0 #[1] X.A (call (.builtin id)<|v::us) (EP X a Y Q) X.xe s
section
variable{X:Cx}{a b:agR}{ta tb:TE}{pos:Pos}
theorem EK.or(h:EK X r)(h':EK X r'):EK X (fun x y H Q=>r x y H Q\/r' x y H Q):=by
 intro value a d s Y H x y v u Q I c b q hs;rcases q with q|q
 .exact h value a d s Y H x y v u Q I c b q hs
 .exact h' value a d s Y H x y v u Q I c b q hs
def Yq(K:aT):R2:=fun x y H Q=>∃p xs i v,x=.ref p/\y=.int i/\dF K H p xs/\atI xs i=Z v/\Q v H
def W4(K:aT):R2:=fun x y H Q=>∃p xs i v,x=.ref p/\y=.int i/\hV K H p xs/\atI xs i=Z v/\Q v H
def aco:R2:=fun x y H Q=>∃z i c,x=.str z/\y=.int i/\z.length<=afT/\atI z.cps.toList i=Z c/\Q (.str ⟨#[c]⟩) H
theorem Nr:EK X<|Yq X.K:=by
 intro value a g s Y H x y v u Q I e d h hs;obtain⟨p,xs,i,z,rfl,rfl,c,f,q⟩:=h;cases e;obtain⟨t,rfl⟩:=d;let⟨its,r,pl,hz⟩:=I.list c
 let⟨j,h1,h2,h3,h4,h5⟩:=xh f
 let⟨w,ew,rw'⟩:=r.get h2
 have k:=r.length;have hn:=pU;have fin:EP X g Y Q w s:=⟨z,H,I,rw',q⟩;by_cases b:0<=i
 .have hj  := by
   rw[seqIndex_of b h5]at h1;exact ahd h1
  exact item_listR pl.isList b ⊥ (by grind) fin hs
 .have hj:(i+its.toArray.size).toNat=j:=by
   rw[seqIndex_neg #[24] h4]at h1
   grind
  exact subscriptTail_builtinR pl.isList.typeIs slot_list_getitem.lookup
   (wpAny_getItem_list_neg pl.isList #[24] (by mright) ⊥ (by grind) ⟨rfl,fin⟩) hs
theorem Ta:EK X<|W4 X.K:=by
 intro value a f s Y H x y v u Q I d c h hs;obtain⟨p,xs,i,z,rfl,rfl,b,e,q⟩:=h;cases d;obtain⟨t,rfl⟩:=c;let⟨its,r,pl,hz⟩:=I.tuple b
 let⟨j,h1,h2,h3,h4,h5⟩:=xh e
 let⟨w,ew,rw'⟩:=r.get h2
 have g:=r.length;have hn:=pU;have fin:EP X f Y Q w s:=⟨z,H,I,rw',q⟩;exact subscriptTail_builtinR pl.typeIs slot_tuple_getitem.lookup
  (getItem_tuple (j:=j) pl ⊥ ⊥ (by grind) (by simpa using ew) ⟨rfl,fin⟩) hs
def rIx(K:aT):R2:=fun x y H Q=>Yq K x y H Q\/W4 K x y H Q\/aco x y H Q
theorem Tp:EK X<|rIx X.K:=Nr.or (Ta.or (by
  intro value a g s Y H x y v u Q I d b h hs;refine Z35 h fun z i c r0_ r1_ hz e q=>?_;subst r0_ r1_;obtain⟨t,rfl⟩:=d;obtain⟨t',rfl⟩:=b;let⟨j,h1,h2,h3,h4,h5⟩:=xh e
  have f:z.cps.toList.length=z.length:=by rfl
  have hn:=pU;exact tail_any (typeIs_str s z t) slot_str_getitem.lookup (getItem_str (by
   lia) (by grind) ⟨.str ⟨#[c]⟩,H,I.tok _,⟨_,rfl⟩,q⟩) hs))
theorem xK(lo a:Option Int)(n:Nat):(aiJ lo a L n).1=((HT.sIx n 0 lo:Nat):Int)/\(aiJ lo a L n).2.1=((HT.sIx n n a:Nat):Int)/\(aiJ lo a L n).2.2=1:=by
 refine⟨?_,?_,rfl⟩
 .cases lo with
  |none=>rfl
  |some i=>
   simp only[aiJ,HT.sIx,akZ,show 1 > 0 by decide,if_true]
   grind
 .cases a with
  |none=>rfl
  |some i=>
   simp only[aiJ,HT.sIx,akZ,show(1:Int) > 0 by decide,if_true];by_cases h:i<0
   .simp only[h,if_true]<;>lia
   grind
theorem u7(its:alw)(lo a:Option Int):slicePick its.toArray lo a L=((its.drop<|HT.sIx its.length 0 lo).take<|HT.sIx its.length its.length a-HT.sIx its.length 0 lo).toArray:=by
 obtain⟨h1,h2,b⟩:=xK lo a its.toArray.size;unfold slicePick;rw[h1,h2,b];simp only[sliceRange_one,pick_run,af3]<;>rfl
def acT(K:aT):V->Option Int->Option Int->Hp->VK->Prop:=fun x lo b H Q=>∃a xs,x=.ref a/\dF K H a xs/\∀p,H p=L->Q (.ref p) (upd H p<|.lst<|zy xs lo b)
theorem L5:Aa X<|acT X.K:=by
 intro m s Y H x v l i lo d j Q I g hs pl f h;obtain⟨a,xs,rfl,e,q⟩:=h;cases g;let⟨its,r,ht,hz⟩:=I.list e
 have c:=r.length;refine⟨"list",_,slot_list_getitem.lookup,ht.isList.typeIs,?_⟩;refine wpAny_getItem_list_slice ht.isList hs pl f .none ∅ ?_ (by mright);rw[u7,<-c];refine⟨.ref s.heap.objs.size,_,I.laid (fun b k q=>eQ _ q) (nE _) ?_,rfl,q _<|I.hok.fresh<|nE _⟩;exact⟨DO (qz xs lo d) hz,_,0,(r.drop<|HT.sIx xs.length 0 lo).take<|HT.sIx xs.length xs.length d-HT.sIx xs.length 0 lo,ID _ rfl⟩
def fO:V->Bool
 |.non=>U
 |.bl _=>U
 |.int _=>U
 |.str _=>U
 |_=>η
noncomputable def eqV:V->V->Bool
 |.non,.non=>U
 |.bl a,.bl b=>a==b
 |.bl a,.int b=>(if a then 1 else 0)==b
 |.int a,.bl b=>a==(if b then 1 else 0)
 |.int a,.int b=>a==b
 |.str a,.str b=>a==b
 |_,_=>η
theorem UB(d:a7 y u)(c:a7 x v)(f:fO y=U)(e:fO x=U):akO A s u v<|eqV y x:=by
 cases y with
 |non=>
  cases d;cases x with
  |non=>cases c;exact ak4 _
  |bl b=>cases c;exact SeqAt.EqAt.none_bool b
  |int b=>obtain⟨t,rfl⟩:=c;exact akq b t
  |str b=>obtain⟨t,rfl⟩:=c;exact akr b t
  |_=>exact absurd (show η=U from e) Le
 |bl a=>
  cases d;cases x with
  |non=>cases c;exact SeqAt.EqAt.bool_none a
  |bl b=>cases c;exact SeqAt.EqAt.bool_bool a b
  |int b=>obtain⟨t,rfl⟩:=c;exact SeqAt.EqAt.bool_int a b t
  |str b=>obtain⟨t,rfl⟩:=c;exact SeqAt.EqAt.bool_str a b t
  |_=>exact absurd (show η=U from e) Le
 |int a=>
  obtain⟨t',rfl⟩:=d;cases x with
  |non=>cases c;exact ako a t'
  |bl b=>cases c;exact SeqAt.EqAt.int_bool a t' b
  |int b=>obtain⟨t,rfl⟩:=c;exact SeqAt.EqAt.int_int a t' b t
  |str b=>obtain⟨t,rfl⟩:=c;exact akA a t' b t
  |_=>exact absurd (show η=U from e) Le
 |str a=>
  obtain⟨t',rfl⟩:=d;cases x with
  |non=>cases c;exact akp a t'
  |bl b=>cases c;exact SeqAt.EqAt.str_bool a t' b
  |int b=>obtain⟨t,rfl⟩:=c;exact akB a t' b t
  |str b=>obtain⟨t,rfl⟩:=c;exact SeqAt.EqAt.str_str a t' b t
  |_=>exact absurd ((e)) Le
 |_=>exact absurd ((f)) Le
def yg(x:V)(u:By):Bool:=match u with
 |.none=>eqV .non x
 |.bool b=>eqV (.bl b) x
 |.int i _=>eqV (.int i) x
 |.str z _=>eqV (.str z) x
 |_=>η
theorem wJ(r:a7 y u)(f:fO y=U):yg x u=eqV y x:=by
 cases y with
 |non=>cases r;rfl
 |bl b=>cases r;rfl
 |int i=>obtain⟨t,rfl⟩:=r;rfl
 |str z=>obtain⟨t,rfl⟩:=r;rfl
 |_=>exact absurd ((f)) Le
theorem oB:∀{xs:alx}{us:alw},aY xs us->xs.all fO=U->us.any (yg x)=xs.any fun y=>eqV y x
 |_,_,.nil,_=>rfl
 |y::xs,u::us,.cons r t,f=>by
  rw[agJ,afU]at f;rw[akD,akD,wJ r f.1,oB t f.2]
theorem iZ(b:a7 x v)(c:fO x=U):∀{xs:alx}{us:alw},aY xs us->xs.all fO=U->∀u∈us,akO A s u v (yg x u)
 |_,_,.nil,_=>fun u a=>by cases a
 |y::xs,u::us,.cons r t,f=>fun d a=>by
  rw[agJ,afU]at f;rcases oR.mp a with rfl|a
  .rw[wJ r f.1];exact UB r b f.1 c
  .exact iZ b c t f.2 d a
def Gx(x:V)(xs:alx):Bool:=xs.any fun y=>eqV y x
def aea(K:aT)(a:Bool):R2:=fun x y H Q=>∃p xs,y=.ref p/\(dF K H p xs\/hV K H p xs)/\fO x=U/\xs.all fO=U/\Q (.bl<|if a then !Gx x xs else Gx x xs) H
theorem FU:dz X (agf .In)<|aea X.K η:=by
 intro e s Y H x y v u Q I b d h;refine Z25 h fun p xs r0_ a c fs q=>?_;subst r0_;cases d;rcases a with a|a
 .let⟨its,r,pl,hz⟩:=I.list a
  refine SeqAt.in_listAt (yg x) pl.isList (fun w hw=>iZ b c r fs w<|by simpa using hw) ⟨.bl _,H,I,rfl,?_⟩;rw[show its.toArray.any (yg x)=its.any (yg x) by simp,oB r fs];exact q
 .refine Z13 (I.tuple a) fun its r pl hz=>?_;refine ak0 (yg x) pl (fun w hw=>iZ b c r fs w<|by simpa using hw) ⟨.bl _,H,I,rfl,?_⟩;rw[show its.toArray.any (yg x)=its.any (yg x) by simp,oB r fs];exact q
theorem ww:dz X (agf .NotIn)<|aea X.K U:=by
 intro e s Y H x y v u Q I b d h;refine Z25 h fun p xs r0_ a c fs q=>?_;subst r0_;cases d;rcases a with a|a
 .let⟨its,r,pl,hz⟩:=I.list a
  refine akE (yg x) pl.isList (fun w hw=>iZ b c r fs w<|by simpa using hw) ⟨.bl _,H,I,rfl,?_⟩;rw[show its.toArray.any (yg x)=its.any (yg x) by simp,oB r fs];exact q
 .refine Z13 (I.tuple a) fun its r pl hz=>?_;refine SeqAt.notIn_tupleAt (yg x) pl (fun w hw=>iZ b c r fs w<|by simpa using hw) ⟨.bl _,H,I,rfl,?_⟩;rw[show its.toArray.any (yg x)=its.any (yg x) by simp,oB r fs];exact q
theorem xN:bF X (.builtin "len") (fun xs H Q=>∃p ys,xs=[.ref p]/\(dF X.K H p ys\/hV X.K H p ys)/\Q (.int ys.length) H):=by
 intro d s Y H xs us Q I r h;obtain⟨p,ys,rfl,b,q⟩:=h;obtain⟨u,rfl,c⟩:=f7 r;cases c;have hn:=pU;rcases b with b|b
 .let⟨its,r',pl,hz⟩:=I.list b
  have a:=r'.length;exact Calls.call_len_list pl.isList (by simp only[af3]<;>omega) ⟨.int ys.length,H,I.tok _,⟨s.toks+1,by mright⟩,q⟩
 .let⟨its,r',pl,hz⟩:=I.tuple b
  have a:=r'.length;exact len_tuple pl (by simp only[af3]<;>omega) ⟨.int ys.length,H,I.tok _,⟨s.toks+1,by grind⟩,q⟩
theorem xJ:bF X (.builtin "len") (fun xs H Q=>∃z,xs=[.str z]/\z.length<=afT/\Q (.int z.length) H):=by
 intro a s Y H xs us Q I r h;obtain⟨z,rfl,hz,q⟩:=h;obtain⟨u,rfl,t,rfl⟩:=f7 r;have hn:=pU;exact len_str ⊥ ⟨.int z.length,H,I.tok _,⟨_,rfl⟩,q⟩
theorem bF.or(h:bF X f r)(h':bF X f r'):bF X f (fun xs H Q=>r xs H Q\/r' xs H Q):=by
 intro b s Y H xs us Q I a q;rcases q with q|q
 .exact h b s Y H xs us Q I a q
 .exact h' b s Y H xs us Q I a q
theorem w8:bF X (.type "list") (fun xs H Q=>∃p ys,xs=[.ref p]/\(dF X.K H p ys\/hV X.K H p ys)/\∀l,H l=L->Q (.ref l) (upd H l<|.lst ys)):=by
 intro t s Y H xs us Q I r h;obtain⟨p,ys,rfl,f,q⟩:=h;obtain⟨u,rfl,m⟩:=f7 r;cases m;have fin:∀(its:alw),aY ys its->ys.length<=afT->∀(h':aij)(a:Nat),(∀b k,s.heap.get? b=Z k->h'.get? b=Z k) ->
   h'.get? s.heap.objs.size=Z {cls:=.type "list",dict:=L,data:=.seq its.toArray a,slots:=#[]}->EP X t Y Q #[13] {s with heap:=h'}:=fun its c hz h' a kp e=>
  ⟨.ref s.heap.objs.size,_,I.laid kp (nE _) (show cQ X.prog X.w _ h' _ (.lst ys)from⟨hz,its,a,c,e⟩),rfl,q _<|I.hok.fresh<|nE _⟩
 rcases f with f|f
 .let⟨its,c,pl,hz⟩:=I.list f
  have d:=c.length;obtain⟨o,i,j,n,g⟩:=pl.isList;exact call_list_seq p (.inl rfl) i j g (fun h' a kp e=>fin its c hz h' a kp e) (by grind)
 .let⟨its,c,pl,hz⟩:=I.tuple f
  have d:=c.length;let⟨o,i,j,n,g⟩:=pl
  exact call_list_seq p (.inr rfl) i j g (fun h' a kp e=>fin its c hz h' a kp e) (by mright)
theorem u6:bF X (.type "tuple") (fun xs H Q=>∃p ys,xs=[.ref p]/\((dF X.K H p ys/\∀l,H l=L->Q (.ref l) (upd H l<|.tup ys))\/(hV X.K H p ys/\Q (.ref p) H))):=by
 intro g s Y H xs us Q I r h;obtain⟨p,ys,rfl,h⟩:=h;obtain⟨u,rfl,f⟩:=f7 r;cases f;rcases h with⟨a,q⟩|⟨a,q⟩
 .let⟨its,r',pl,hz⟩:=I.list a
  have c:=r'.length;refine call_tuple_list pl.isList (fun h' kp=>?_) (by mright);have I1  := I.kept kp;have d:Inv X g Y (upd H h'.objs.size<|.tup ys) {s with heap:=h'.push {cls:=.type "tuple",data:=.seq its.toArray}}:=
   I1.laid (fun b o e=>eQ _ e) (nE _) ((⟨hz,its,r',IsTup.new _ _⟩))
  exact⟨.ref h'.objs.size,_,d,rfl,q _<|I1.hok.fresh<|nE _⟩
 .let⟨its,r',pl,hz⟩:=I.tuple a
  exact call_tuple_same pl ⟨.ref p,H,I,rfl,q⟩
def QW(K:aT)(T:String)(x:V)(H:Hp):Prop:=match x with
 |.str _=>T="str"
 |.int _=>T="int"
 | .ref p=>(T="list"/\∃ xs,dF K H p xs)\/(T="tuple"/\∃ o,K.lookup p=Z o/\o.cls=.type "tuple"/\o.dict=L) \/
   (T="dict"/\((∃a,H p=Z (.dK a))\/∃a,H p=Z (.dT a)))\/(T="set"/\∃S n,H p=Z (.set S n))
 |_=>False
theorem IM{Y:St}(I:Inv X aa Y H s)(r:a7 x v)(f:QW X.K T x H):
  s.TypeIs v T/\∀a,v=.ref a->∃k,s.heap.get? a=Z k/\k.dict=L:=by
 cases x with
 |str z=>
  obtain⟨t,rfl⟩:=r;cases((f));exact⟨typeIs_str s z t,fun _ e=>nomatch e⟩
 |int i=>
  obtain⟨t,rfl⟩:=r;cases((f));exact⟨typeIs_int s i t,fun _ e=>nomatch e⟩
 |ref p=>
  cases r;rcases f with⟨rfl,xs,l⟩|⟨rfl,o,b,m,g⟩|⟨rfl,b⟩|⟨rfl,S,n,b⟩
  .let⟨its,_,pl,_⟩:=I.list l
   refine⟨pl.isList.typeIs,fun a e=>?_⟩;cases e;let⟨o,n,e,c,g,_⟩:=pl
   exact⟨o,e,g⟩
  .refine⟨⟨o,I.kIn p o b,m⟩,fun a e=>?_⟩;cases e;exact⟨o,I.kIn _ o b,g⟩
  .have z:∃o,s.heap.get? p=Z o/\o.ExactDict:=by
    rcases b with⟨j,b⟩|⟨j,b⟩
    .obtain⟨_,_,_,_,o,_,_,e,d,_⟩:=I.hok p _ b;exact⟨o,e,d⟩
    .obtain⟨_,_,_,_,o,_,_,e,d,_⟩:=I.hok p _ b;exact⟨o,e,d⟩
   let⟨o,e,d⟩:=z
   refine⟨⟨o,e,d.1⟩,fun a h=>?_⟩;nofun;exact⟨o,e,d.2.1⟩
  .refine Z43 (I.hok p _ b) fun o _ _ _ e d _=>?_;refine⟨⟨o,e,d.1⟩,fun a h=>?_⟩;nofun;exact⟨o,e,d.2.1⟩
 |_=>exact ag7 f
def Vp(K:aT)(T:String)(r:V->alx->Hp->VK->Prop)(a:TE):TE:=fun Y H Q=>a Y H fun x H1=>QW K T x H1/\r x [] H1 Q
def WF(K:aT)(T:String)(r:V->alx->Hp->VK->Prop)(b:TE)(t:TA):TE:=fun Y H Q=>b Y H fun x H1=>QW K T x H1/\t Y H1 fun xs a=>r x xs a Q
variable{apos cpos:Pos}{id:String}
theorem Q2(f:PlainAttrs T)(c:Slot T name id)(d:typeOf (.builtin id)=pure (.type "method_descriptor"))(g:YZ X id r)(i:PE X o to)
  (a:autoParam #[18] Xaz) (b:autoParam (#[8]=U) Xaz):PE X (.Call (.Attribute o name apos) [] [] cpos)<|Vp X.K T r to:=by
 intro e s Y H Q I h;refine wpAny_Call_method0_late a b<|bX (i e s Y H _ I h) fun v s1 q_=>Z24 q_ fun x H1 I1 r1 ty q1=>?_;let⟨h1,h2⟩:=IM I1 r1 ty
 exact⟨T,id,f,c,d,h1,h2,ahs rfl (akt<|g e s1 Y H1 x [] v [] Q I1 r1 .nil q1)⟩
theorem YL(u:PlainAttrs T)(d:Slot T name id)(g:typeOf (.builtin id)=pure (.type "method_descriptor"))(n:YZ X id r)(p:PE X o to)(l:PA X (e::es) t)
  (a:autoParam #[18] Xaz)
  (c:((ahP cpos<|afY (e::es) X.env).all (fun x=>!x.1)&&(backToKw cpos<|ajg [] X.env).all (fun x=>x.1.isSome)
   && decide ((e::es).length+([]:List ajw).length+(if([]:List ajw).isEmpty then 0 else 1)<30))=U:=by rfl)
  (b:autoParam (#[8]=U) Xaz) (hs:autoParam #[21] Xaz) (f:autoParam ((ahP cpos<|afY es X.env).any (·.1)=η) Xaz):
  PE X (.Call (.Attribute o name apos) (e::es) [] cpos) (WF X.K T r to t):=by
 intro i s Y H Q I h;refine wpAny_Call_method_late a c b rfl (bX (p i s Y H _ I h) fun v s1 q_=>Z24 q_ fun x H1 I1 r1 ty q1=>?_);let⟨h1,h2⟩:=IM I1 r1 ty
 refine⟨T,id,u,d,g,h1,h2,?_⟩;have j:=l cpos i s1 Y H1 _ I1 q1;rw[hs]at j⊢;refine ahs (by assumption)<|ai0 ?_;exact bX j fun us q m=>iW m fun vs w k r2 y=>n i q Y w x vs v us Q k r1 r2 y
end
def abM(X:Cx)(id:String)(r:V->alx->Hp->VK->Prop):Prop:=
 ∀(a:alr)(s:MK)(Y:St)(H:Hp)(x:V)(xs:alx)(v:By)(us:alw)(Q:VK),Inv X a Y H s->a7 x v->aY xs us->r x xs H Q ->
  af0 #[1] X.A (call (.builtin id)<|v::us) (EP X a Y Q) X.xe s
theorem aY.one:∀{x:V}{us:alw},aY [x] us->∃u,us=[u]/\a7 x u:=fun h=>by
 cases h with
 |cons r t=>cases t;exact⟨_,rfl,r⟩
theorem aY.zero:∀{us:alw},aY [] us->us=[]
 |_,.nil=>rfl
theorem aY.reverse(h:aY xs us):aY xs.reverse us.reverse:=by
 induction h with
 |nil=>exact .nil
 |cons r t a=>rw[aib,aib];exact aY.append a<|.cons r .nil
section
variable{Y:St}
theorem Inv.lset{its its':alw}(I:Inv X aa Y H s)(b:H l=Z (.lst xs))
  (e:s.heap.get? l=Z {cls:=.type "list",data:=.seq its.toArray n}) (c:f its.toArray=its'.toArray) (d:aY ys its') (hz:ys.length<=afT) (h:autoParam (X.tn<=t') Xbx):
  Inv X aa Y (upd H l<|.lst ys) {s with heap:=s.heap.update l<|agv f,toks:=t'}:=by
 have q:=ak1 e f;rw[c]at q;refine I.write (by rw[b];exact trivial) (.inl rfl) (fun g u hb a=>(aht s.heap (agv f)<|ah5 hb).trans a) ⟨_,q⟩ ?_;exact⟨hz,its',_,d,q⟩
theorem Inv.lnew(I:Inv X aa Y H s)(a:aY ys its)(hz:ys.length<=afT)(b:autoParam (X.tn<=t') Xbx):
  Inv X aa Y (upd H s.heap.objs.size<|.lst ys) {s with heap:=s.heap.push {cls:=.type "list",data:=.seq its.toArray},toks:=t'}:=
 I.laid (fun _ _ q=>eQ _ q) (nE _) ⟨hz,its,0,a,ID _ rfl⟩
theorem Inv.fresh(I:Inv X aa Y H s):H s.heap.objs.size=L:=I.hok.fresh<|nE _
theorem Inv.lstM(I:Inv X aa Y H s)(a:H l=Z (.lst xs)):xs.length<=afT/\∃(its:alw)(n:Nat),aY xs its/\xs.length=its.length/\s.heap.get? l=Z {cls:=.type "list",data:=.seq its.toArray n}:=by
 obtain⟨z,its,n,r,e⟩:=I.hok l _ a;exact⟨z,its,n,r,r.length,e⟩
theorem zW(h:n<=afT):ag3 n=η:=by
 unfold ag3
 grind
end
section
def lS:V->alx->Hp->VK->Prop:=fun x vs H Q=>∃l xs y,x=.ref l/\vs=[y]/\H l=Z (.lst xs)/\xs.length<afT/\Q .non (upd H l<|.lst<|xs++[y])
theorem pY:abM X "list.append" lS:=by
 intro d s Y H x vs v us Q I c b h;obtain⟨l,xs,y,rfl,rfl,a,hz,q⟩:=h;cases c;obtain⟨u,rfl,ru⟩:=b.one;let⟨z,its,n,r,hl,e⟩:=I.lstM a
 refine aki F.slot_list_append ⟨_,e,rfl⟩ F.entry_list_append (F.args_list_append_2 _ _) (PySem.list_append l its.toArray n u<|by grind) ⟨e,?_⟩;refine⟨.non,_,I.lset a e ∅ (r.append<|.cons ru .nil) ?_,rfl,q⟩
 grind
def Ho:V->alx->Hp->VK->Prop:=fun x vs H Q=>∃l xs,x=.ref l/\vs=[]/\H l=Z (.lst xs)/\Q .non (upd H l<|.lst [])
theorem IQ:abM X "list.clear" Ho:=by
 intro g s Y H x vs v us Q I d c h;obtain⟨l,xs,rfl,rfl,b,q⟩:=h;cases d;have a:=c.zero;subst a;obtain⟨z,its,n,r,f,e⟩:=I.lstM b;refine aki F.slot_list_clear ⟨_,e,rfl⟩ F.entry_list_clear (F.args_list_clear_1 _) (AutoSeq1.list_clear_list_0 l its.toArray n<|by rw[af3];lia) ⟨e,?_⟩;exact⟨.non,_,I.lset (its':=[]) (ys:=[]) b e rfl .nil (acr _),rfl,q⟩
end
section
set_option maxRecDepth 100000 in
end
section
variable{κ:Type}[DecidableEq κ]
noncomputable def jg(a:List<|κ×V)(k:κ):Option V:=(a.find? fun b=>decide (b.1=k)).map (·.2)
noncomputable def oU(a:List<|κ×V)(k:κ)(v:V):List<|κ×V:=
 if(a.any fun b=>decide (b.1=k))=U then a.map (fun b=>if b.1=k then(b.1,v)else b)else a++[(k,v)]
noncomputable def jX(a:List<|κ×V)(k:κ):List<|κ×V:=a.filter fun b=>decide (b.1≠k)
theorem oC{p:κ×V}{r:List<|κ×V}{k:κ}(e:p.1=k):jg (p::r) k=Z p.2:=by simp[jg,agw,e]
theorem nG{p:κ×V}(e:¬p.1=k):jg (p::r) k=jg r k:=by simp[jg,agw,e]
theorem uN(k:κ):∀kvs:List<|κ×V,(kvs.any fun a=>decide (a.1=k))=(jg kvs k).isSome:=bb (rfl) fun p r i =>by
  rw[akD];by_cases e:p.1=k
  .simp only[oC e,alm e,Bool.true_or,Option.isSome_some]
  .rw[nG e,alk e];exact i
theorem qP(a:List<|κ×V)(k:κ)(v:V):(oU a k v).length<=a.length+1:=by
 unfold oU
 grind
theorem qd.isSome_eq(r:qd o u):o.isSome=u.isSome:=by
 cases o with
 |none=>cases u with
  |none=>rfl
  |some _=>exact((r)).elim
 |some _=>cases u with
  |none=>exact((r)).elim
  |some _=>rfl
theorem KV.val(r:KV kvs vs)(k:κ):qd (jg kvs k)<|valueAt vs k:=by
 induction r with
 |nil=>exact af2
 |@cons p q ps qs h t ih=>
  let⟨h1,h2⟩:=h
  by_cases e:p.1=k
  .have e'  := h1.symm.trans e;have b:valueAt (q::qs) k=Z q.2:=by simp[valueAt,agw,e']
   rw[oC e,b];exact h2
  .have e':¬q.1=k:=fun z=>e<|h1.trans z;have b:valueAt (q::qs) k=valueAt qs k:=by simp[valueAt,agw,e']
   rw[nG e,b];exact ih
theorem KV.any(r:KV kvs vs)(k:κ):(kvs.any fun a=>decide (a.1=k))=vs.any fun a=>decide (a.1=k):=by
 induction r with
 |nil=>rfl
 |cons h t b=>mright
theorem KV.repl(r:KV kvs vs)(k:κ)(b:a7 y u):
  KV (kvs.map fun a=>if a.1=k then(a.1,y)else a) (vs.map fun a=>if a.1=k then(a.1,u)else a):=by
 induction r with
 |nil=>exact .nil
 |@cons p q ps qs h t ih=>
  refine .cons ?_ ih;by_cases e:p.1=k
  .mright
  mright
theorem KV.put(r:KV kvs vs)(k:κ)(a:a7 y u):KV (oU kvs k y)<|stored vs k u:=by
 unfold oU stored;rw[r.any k];by_cases e:(vs.any fun b=>decide (b.1=k))=U
 .rw[ali e,ali e];exact r.repl k a
 .rw[alj e,alj e];exact Paired.snoc r ⟨rfl,a⟩
theorem KV.drop(r:KV kvs vs)(k:κ):KV (jX kvs k)<|without vs k:=by
 unfold jX without;induction r with
 |nil=>exact .nil
 |@cons p q ps qs h t ih=>
  let⟨h1,h2⟩:=h
  rw[ahi,ahi];by_cases e:p.1=k
  .mright
  .have e':¬q.1=k:=fun z=>e<|h1.trans z;have a:decide (p.1≠k)=U:=by simp[e]
   have b:decide (q.1≠k)=U:=by simp[e']
   rw[ali a,ali b];exact .cons ⟨h1,h2⟩ ih
theorem KV.length{a:List<|κ×V}(r:KV a vs):a.length=vs.length:=ajM r
end
theorem vy(r:a7 (kV k) u):(cq P w).is k u=U:=by
 cases k with
 |inl i=>obtain⟨t,e⟩:=((r));subst e;exact(F5 i t)
 |inr x=>let⟨t,e⟩:=((r));subst e;exact(Gd x t)
 |nn=>have e  := r;subst e;rfl
theorem vB:∀{ks:List Key}{us:alw},aY (ks.map kV) us->ItemsAre (cq P w) ks us:=@bb _ _ (@fun _ r=>by cases r;exact .nil) fun k ks i=>@fun _ r=>by
  cases r with
  |cons h t=>exact .cons (vy h)<|i t
abbrev KT(H:Hp):List (List Key×V)->List (List Key×aga×By)->Prop:=Paired fun p q=>p.1=q.1/\H q.2.1=Z (.tup<|p.1.map kV)/\a7 p.2 q.2.2
theorem KT.val(r:KT H kvs xs)(k:List Key):qd (jg kvs k)<|(atKey xs k).map (·.2):=by
 induction r with
 |nil=>exact af2
 |@cons p q ps qs h t ih=>
  let⟨h1,_,h2⟩:=h
  by_cases e:p.1=k
  .have e'  := h1.symm.trans e;have b:atKey (q::qs) k=Z q.2:=by simp[atKey,agw,e']
   rw[oC e,b];exact h2
  .have e':¬q.1=k:=fun z=>e<|h1.trans z;have b:atKey (q::qs) k=atKey qs k:=by simp[atKey,agw,e']
   rw[nG e,b];exact ih
theorem KT.repl(r:KT H kvs xs)(k:List Key)(b:a7 y u):
  KT H (kvs.map fun a=>if a.1=k then(a.1,y)else a) (xs.map<|putAt k u):=by
 induction r with
 |nil=>exact .nil
 |@cons p q ps qs h t ih=>
  refine .cons ?_ ih;unfold putAt;by_cases e:p.1=k
  .mright
  mright
theorem KT.put(r:KT H kvs xs)(k:List Key)(hb:H b=Z (.tup<|k.map kV))(a:a7 y u):
  KT H (oU kvs k y) (storedH xs k b u):=by
 have e:(kvs.any fun c=>decide (c.1=k))=(atKey xs k).isSome:=by
  rw[uN,(r.val k).isSome_eq,ahI]
 unfold oU storedH;rw[e];by_cases q:(atKey xs k).isSome=U
 .rw[ali q,ali q];exact r.repl k a
 .rw[alj q,alj q];exact Paired.snoc r ⟨rfl,hb,a⟩
theorem KT.keeps(r:KT H kvs xs)(a:∀b ys,H b=Z (.tup ys)->H' b=Z (.tup ys)):KT H' kvs xs:=
 Paired.mapP r fun _ _ z=>⟨z.1,a _ _ z.2.1,z.2.2⟩
section
theorem QP(ok:nU P w H h)(e:Rd H a u):cQ P w H h a u:=e.ok ok
theorem sw(ok:nU P w H h)(e:Rd H a<|.dK kvs):kvs.length<=afT/\(a==ahg)=η/\∃vs,KV kvs vs/\h.DictOf (cq P w) a vs:=
 (QP ok e)
theorem Pj(ok:nU P w H h)(e:H a=Z (.dK kvs)):kvs.length<=afT/\(a==ahg)=η/\∃vs,KV kvs vs/\h.DictOf (cq P w) a vs:=sw ok<|.inl e
theorem uu(ok:nU P w H h)(e:H a=Z (.tup<|ks.map kV)):(tupleKind<|cq P w).is h ks a:=by
 obtain⟨_,its,r,o,h1,h2,n,b⟩:=((ok a _ e));exact⟨o,its.toArray,n,h1,h2,b,by simpa using vB r⟩
theorem vG(ok:nU P w H h)(e:Rd H a<|.dT kvs):kvs.length<=afT/\(a==ahg)=η /\
  ∃xs,KT H kvs xs/\h.DictOfH (tupleKind<|cq P w) a xs:=by
 obtain⟨z,y,xs,r,o,es,g,h1,h2,c,d,f⟩:=((QP ok e));refine⟨z,y,xs,r,o,es,g,h1,h2,c,d,fun x b=>?_,f⟩;have all:∀{l:List<|List Key×V}{m:List<|List Key×aga×By},KT H l m->∀x∈m,(tupleKind<|cq P w).is h x.1 x.2.1:=by
  intro l m q;induction q with
  |nil=>grind
  |@cons p q ps qs hq t ih=>
   intro x b;rcases oR.mp b with e|b
   .exact uu ok (by mright)
   .exact ih x b
 exact all r x b
end
def wH(H:Hp)(a:aga)(y:V)(r:Option V):Prop:=
 (∃c k,Rd H a (.dK c)/\y=kV k/\r=jg c k)\/∃c k b,Rd H a (.dT c)/\y=.ref b/\H b=Z (.tup<|k.map kV)/\r=jg c k
def Nz(H:Hp)(a:aga)(y v:V)(H':Hp):Prop:=
 (∃c k,H a=Z (.dK c)/\y=kV k/\c.length<afT/\H'=upd H a (.dK<|oU c k v)) \/
 ∃c k b,H a=Z (.dT c)/\y=.ref b/\H b=Z (.tup<|k.map kV)/\c.length<afT/\H'=upd H a (.dT<|oU c k v)
theorem Nz.k{k:Key}(e:H a=Z (.dK kvs))(b:kvs.length<afT):Nz H a (kV k) v<|upd H a<|.dK<|oU kvs k v:=.inl ⟨kvs,k,e,rfl,b,rfl⟩
section
variable{Y:St}
theorem Inv.big(I:Inv X aa Y H s):ahg<s.heap.objs.size:=by
 have h  := (I.mod.glob.keeps I.bk).lt;exact Nat.lt_trans ∎ h
theorem FN(n:A.units+1<aiV)(I:Inv X aa Y H s)(g:wH H a y<|Z v)(j:a7 y u)(h:∀d m,Inv X aa Y H m->a7 v d->Q d m):
  af0 #[1] A (ajx (.ref a) u) Q E s:=by
 rcases g with⟨i,k,e,f,l⟩|⟨i,k,b,e,f,o,l⟩
 .subst f;let⟨z,hd,vs,rel,dd⟩:=sw I.hok e
  obtain⟨d,hw,c⟩:=qd.some_of (by rw[l];exact rel.val k);exact wpAny_getItem_of (vy j) dd.mapOf hw<|h d _ (I.tok _) c
 .subst f;cases((j));let⟨z,hd,xs,rel,dd⟩:=vG I.hok e
  obtain⟨d,hw,c⟩:=qd.some_of (by rw[l];exact rel.val k);let⟨p,hp,hp2⟩:=iN.mp hw
  refine wpAny_getItem_heap (aiF n) (uu I.hok o) dd hp ?_;rw[hp2];exact h d _ (I.tok _) c
theorem abQ(j:A.units+1<aiV)(I:Inv X aa Y H s)(g:wH H a y o)(f:a7 y u)(h:∀i,Inv X aa Y H i->Q (.bool o.isSome) i):
  af0 #[1] A (agf .In u<|.ref a) Q E s:=by
 rcases g with⟨d,k,e,c,l⟩|⟨d,k,b,e,c,m,l⟩
 .subst c;let⟨z,hd,vs,rel,dd⟩:=sw I.hok e
  refine wpAny_in_of (vy f) hd dd.mapOf ?_;rw[<-(rel.val k).isSome_eq,<-l];exact h _<|I.tok _
 .subst c;cases((f));let⟨z,hd,xs,rel,dd⟩:=vG I.hok e
  refine wpAny_in_heap (aiF j) (uu I.hok m) hd dd ?_;have q:=(rel.val k).isSome_eq;rw[ahI]at q;rw[<-q,<-l];exact h _<|I.tok _
theorem OM(j:A.units+1<aiV)(I:Inv X aa Y H s)(g:wH H a y o)(f:a7 y u)(h:∀i,Inv X aa Y H i->Q (.bool<|!o.isSome) i):
  af0 #[1] A (agf .NotIn u<|.ref a) Q E s:=by
 rcases g with⟨d,k,e,c,l⟩|⟨d,k,b,e,c,m,l⟩
 .subst c;let⟨z,hd,vs,rel,dd⟩:=sw I.hok e
  refine wpAny_notIn_of (vy f) hd dd.mapOf ?_;rw[<-(rel.val k).isSome_eq,<-l];exact h _<|I.tok _
 .subst c;cases((f));let⟨z,hd,xs,rel,dd⟩:=vG I.hok e
  refine wpAny_notIn_heap (aiF j) (uu I.hok m) hd dd ?_;have q:=(rel.val k).isSome_eq;rw[ahI]at q;rw[<-q,<-l];exact h _<|I.tok _
theorem w9(I:Inv X aa Y H s)(d:ZN<|H a)(hs:agD a s.heap h')(c:∃q,h'.get? a=Z q)(new:cQ X.prog X.w (upd H a ob) h' a ob)(e:autoParam (X.tn<=t') Xbx):
  Inv X aa Y (upd H a ob) {s with heap:=h',toks:=t'}:=
 I.write d (.inl rfl) (fun b q hb z=>(hs.2 b hb).trans z) c new
theorem Bj(z:kvs.length<=afT)(c:(a==ahg)=η)(b:KV kvs vs)(d:h'.DictOf (cq P w) a vs):
  cQ P w H' h' a (.dK kvs):=⟨z,c,vs,b,d⟩
theorem FH(B:A.units+1<aiV)(I:Inv X aa Y H s)(g:Nz H a y v H')(n:a7 y u)(o:a7 v r)(h:∀t,Inv X aa Y H' t->Q () t):
  af0 #[1] A (setItem (.ref a) u r) Q E s:=by
 rcases g with⟨d,k,e,m,l,j⟩|⟨d,k,b,e,m,p,l,j⟩
 .subst m j;let⟨z,hd,vs,rel,dd⟩:=Pj I.hok e
  have hz:vs.length<=afT:=by rw[<-rel.length];exact z
  have i:(oU d k v).length<=afT:=by have:=qP d k v;lia
  refine wpAny_setItem_pairs (hsz:=hz) (vy n) dd fun h' f hs=>h _ ?_;have C:∃q,h'.get? a=Z q:=let⟨q,_,_,hq,_⟩:=f;⟨q,hq⟩;exact w9 I (by rw[e];exact af2) hs C<|Bj i hd (rel.put k o) f
 .subst m j;cases(show u=ahG b from n);let⟨z,hd,xs,rel,dd⟩:=(vG I.hok<|.inl e)
  have hz:xs.length<=afT:=by rw[<-ajM rel];exact z
  have i:(oU d k v).length<=afT:=by have:=qP d k v;lia
  refine wpAny_setItem_heap (aiF B) (uu I.hok p) dd fun h' f hs=>h _ ?_;let⟨q,es,ep,hq,h2,h3,h4,_,h5⟩:=f
  refine w9 I (by rw[e];exact af2) hs ⟨q,hq⟩ ⟨i,hd,_,(rel.put k p o).keeps fun c ys x=>?_,q,es,ep,hq,h2,h3,h4,h5⟩;rw[aF<|Vb x e #[16]]
  exact x
end
section
variable{Y:St}
theorem Vq(I:Inv X aa Y H s)(e:H a=Z (.dK kvs))(d:a7 (kV k) u)(l:jg kvs k=Z v)(g:more=[]\/∃x,more=[x])
  (h:∀b f,Inv X aa Y (upd H a<|.dK<|jX kvs k) f->a7 v b->Q b f):af0 #[1] A (call (.builtin "dict.pop")<|.ref a::u::more) Q E s:=by
 let⟨z,hd,vs,rel,dd⟩:=Pj I.hok e
 let⟨b,hw,rw'⟩:=qd.some_of (v:=v) (o:=valueAt vs k) (by rw[<-l];exact rel.val k)
 have n:(keyPart u).isSome=U:=by
  cases k with
  |inl i=>let⟨t,q⟩:=(show ∃t,u=aiN i t from d);subst q;rfl
  |inr x=>let⟨t,q⟩:=(show ∃t,u=Value.str x t from d);subst q;rfl
  |nn=>have q:u=.none:=d;subst q;rfl
 have m:argsOk "dict.pop" ⟨.ref a::u::more,[]⟩:=by
  rcases g with q|⟨x,q⟩
  .subst q;exact PySem.F.args_dict_pop_2 _ _
  .subst q;exact PySem.F.args_dict_pop_3 _ _ _
 refine call_meetsIn aj6 dd.typeIs PySem.F.entry_dict_pop m (meets_dict_pop_there (cq X.prog X.w) a (vy d) more g n)
  ⟨vs,b,dd,by rw[<-rel.length];exact z,hw,fun h' c hs=>h b _ ?_ rw'⟩
 have j:∃q,h'.get? a=Z q:=let⟨q,_,_,hq,_⟩:=c;⟨q,hq⟩;exact w9 I (by rw[e];exact af2) hs j<|Bj (DO ((agr _ _)) z) hd (rel.drop k) c
end
def GW(i:agR):Prop:=∀ov a,subscripted i η ov a=operate [ov,a] (ajx ov a)
theorem Db{T id:String}
  (f:typeLookup (.type T) "__getitem__"=pure (Z<|.builtin id)) (hs:GW slice)
  (h:af0 #[4] A (eval value env) (fun o b=>af0 #[4] A (eval slice env) (fun i s₂=>s₂.TypeIs o T/\af0 #[4] A (ajx o i) Q E s₂) E b) E s):
  af0 #[4] A (eval (.Subscript value slice pos) env) Q E s:=by
 refine Subscript_<|agE h (fun o b d=>agE d (fun i s₂ a=>?_) fun _ _ x=>x) fun _ _ x=>x;let⟨hT,a⟩:=a
 refine bY ?_;refine bY<|wpAny_specialOf hT f ?_;have fin:af0 #[4] A (subscripted slice η o i) (fun r c=>af0 #[4] A (letTemporaryGo value o r >>= fun _=>pure r) Q E c) E s₂:=by
  rw[hs o i];exact wpAny_operating<|agE a (fun r c e=>bY<|wpAny_letTemporaryGo<|lT e) fun _ _ x=>x
 first
  |exact lT (bY fin)
  |lia
  |lia
def VT(c d:TE):TE:=fun Y H Q=>c Y H fun x H1=>d Y H1 fun y b=>∃a v,x=.ref a/\wH b a y (Z v)/\Q v b
section
theorem Oo(j:X.A.units+1<aiV)(l:PE X o td)(m:PE X i ty)(hs:GW i):PE X (.Subscript o i pos)<|VT td ty:=by
 intro f s Y H Q I h;refine Db ajt.lookup hs<|bX (l f s Y H _ I h) fun u s1 r=>Z23 r fun x H1 I1 rx q1=>bX (m f s1 Y H1 _ I1 q1) fun iv s2 r=>Z23 r fun y H2 I2 ry r=>Z23 r fun a v ex g q2=>?_;subst ex;obtain rfl:u=ahG a:=rx;exact⟨(by
   rcases g with⟨d,k,e,_,_⟩|⟨d,k,b,e,_,_,_⟩
   .let⟨_,_,vs,_,dd⟩:=sw I2.hok e
    exact dd.typeIs
   .let⟨_,_,xs,_,dd⟩:=vG I2.hok e
    exact dd.typeIs),FN j I2 g ry fun q p n c=>⟨v,H2,n,c,q2⟩⟩
end
theorem J7(h:aij)(hb:ahg<h.objs.size):cQ P w H (h.push {cls:=.type "dict",data:=.dict #[]}) h.objs.size<|.dK []:=
 ⟨acr _,beq_eq_false_iff_ne.mpr<|ah5<|af7 hb,[],.nil,Heap.DictOf.new h⟩
def Tn:TE:=fun _ H Q=>∀p,H p=L->Q (.ref p) (upd H p<|.dK [])
structure M1(X:Cx)(o:agR)(m:Str)(apos:Pos)(e:agR)(cpos:Pos):Prop where
 base:agx o m X.env (eval o X.env)=eval o X.env
 few:((ahP cpos<|afY [e] X.env).all (fun x=>!x.1)&&(backToKw cpos<|ajg [] X.env).all (fun x=>x.1.isSome)
  && decide (([e]:List agR).length+([]:List ajw).length+(if([]:List ajw).isEmpty then 0 else 1)<30))=U
 line:#[8]=U
 trees:ahP cpos (afY [e] X.env)=[(η,eval e X.env)]
def abY(H:Hp)(a:aga):Prop:=(∃b,Rd H a<|.dK b)\/∃b,Rd H a<|.dT b
theorem J2{Y:St}(I:Inv X aa Y H s)(d:abY H a):
  s.TypeIs (.ref a) "dict"/\(∀b,ahG a=.ref b->∃c,s.heap.get? b=Z c/\c.dict=L)/\(a==ahg)=η:=by
 rcases d with⟨f,e⟩|⟨f,e⟩
 .let⟨_,hd,vs,_,dd⟩:=sw I.hok e
  refine⟨dd.typeIs,fun b q=>?_,hd⟩;cases q;refine Z33 dd fun c _ _ h1 h2 _=>?_;exact⟨c,h1,h2.2.1⟩
 .let⟨_,hd,xs,_,dd⟩:=vG I.hok e
  refine⟨dd.typeIs,fun b q=>?_,hd⟩;cases q;refine Z33 dd fun c _ _ h1 h2 _=>?_;exact⟨c,h1,h2.2.1⟩
def Iu(d e:TE):TE:=fun Y H Q=>d Y H fun x H1=>∃a,x=.ref a/\abY H1 a/\e Y H1 fun y c=>∃b k v,c a=Z (.dK b)/\y=kV k/\jg b k=Z v/\Q v (upd c a<|.dK<|jX b k)
section
theorem Lg(g:PE X o td)(i:PE X e ty)(m:M1 X o "pop" apos e cpos):PE X (.Call (.Attribute o "pop" apos) [e] [] cpos)<|Iu td ty:=by
 intro c s Y H Q I h;refine wpAny_Call_method m.base m.few m.line ajO aj6 PySem.F.type_dict_pop<|bX (g c s Y H _ I h) fun u s1 p=>Z23 p fun x H1 I1 rx p=>Z13 p fun a ex d q1=>?_;subst ex;obtain rfl:u=ahG a:=rx;let⟨t1,t2,_⟩:=J2 I1 d
 refine⟨t1,t2,?_⟩;rw[m.trees];refine ahs rfl (ai0<|ah3<|bX (i c s1 Y H1 _ I1 q1) fun iv s2 p=>Z23 p fun y H2 I2 ry p=>Z34 p fun kvs k v ea ey l q2=>aic ?_);subst ey;exact Vq I2 ea ry l (.inl rfl) fun j n f b=>⟨v,_,f,b,q2⟩
end
section
variable{Y:St}
theorem Kc(I:Inv X aa Y H s)(e:Rd H a<|.dK kvs)(h:∀p f,H p=L->Inv X aa Y (upd H p<|.dK kvs) f->Q (.ref p) f):af0 #[1] A (call (.type "dict") [.ref a]) Q E s:=by
 let⟨z,hd,vs,rel,dd⟩:=sw I.hok e
 refine kt_call_dict hd dd (by rw[<-rel.length];exact z) fun h' c hs=>?_;refine h _ _ (I.hok.fresh<|nE _)<|I.laid (fun b q d=>?_) (nE _)<|Bj z (beq_eq_false_iff_ne.mpr<|ah5<|af7 I.big) rel c;exact(hs.2 b<|af7<|OR d).trans<|eQ _ d
end
end L2
namespace Att
open PySem PySem.W PySem.Calls PyProof.Rows
theorem rf:∀(ns:List Int)(vs:alw),WellAll P h vs (ns.map WData.int)->IntsAre vs ns:=by
 intro ns;induction ns with
 |nil=>
  intro vs w;rw[List.map_nil]at w;cases w;exact .nil
 |cons n ns c=>
  intro vs w;rw[Do]at w;cases w with
  |cons a b=>
   cases a;exact .cons _ _ (c _ b)
theorem Fy{l:OpenLaw}(hn:l.most=Z n)
  (c:l.row.toRowW.claim.pre args=U) (j:WellAll P h vals args):
  ∃a vs b,vals=[ahG a]/\args=[WData.list<|b.map WData.int]/\h.get? a=Z {cls:=.type "list",data:=.seq vs.toArray}/\IntsAre vs b/\b.length<=n:=by
 have k:WShape.hasAll [] args [.list .int]=U:=(pre_splitW c).1;have m:l.pre.holds [] {args:=args}=U:=(pre_splitW c).2;obtain⟨d,r,rfl,h1,h2⟩:=hasAllW_cons k;obtain rfl:=hasAllW_nil h2;obtain⟨xs,rfl,o⟩:=hasW_list h1;obtain⟨b,rfl⟩:=items_int o;have e:b.length<=n:=by
  unfold OpenLaw.pre at m;have g:(WTm.not<|.lt (.lit<|.int (n:Int))<|.len<|.arg 0).holds [] {args:=[.list<|b.map .int]}=U:=by
   have g:=(holds_andW m).1;rw[hn]at g;exact g
  have i:=condW_of g<|w_not<|w_lt w_lit<|w_len_list<|w_arg rfl;rw[iF]at i;refine Nat.le_of_not_lt fun q=>?_;have q':(n:Int)<((b.length:Nat):Int):=by omega
  first
   |(rw[alm q']at i;exact absurd i<|∎)
   |(simp at i;lia)
 cases j with
 |cons p s=>
  cases s;cases p with
  |list t f=>exact⟨_,_,b,rfl,rfl,t,rf b _ f,e⟩
theorem zf{l:OpenLaw}
  (hn:l.most=Z n) (v:d.params.defaults=[])
  (call:∀(w:agN)(c b:MK)(mg z:alu)(i:aga)(o:Obj)(u m g:By)(a:aga)(vs:alw)(p:List Int),
   Ground q loose [] XP w c mg z b.heap->YP w b.heap ->
   b.heap.get? i=Z o->o.data=.func (docDef d.name d.params d.body d.scope u m g)->b.heap.CodeRec m d.name->mg d.name=Z (.ref i) ->
   b.heap.get? a=Z {cls:=.type "list",data:=.seq vs.toArray}->IntsAre vs p->p.length<=n->b.gens=#[] ->
   ajR (af6 l.prog w) callerA (.call (.ref i) ⟨[.ref a],[]⟩) (fun r s=>r=.ok (.ret (.bool U))/\OldK b.heap s.heap/\s.os=b.os/\AllBare s.gens) b):
  WalkO q loose XP YP l.row.toRowW d [] (fun f vs=>akP f vs):=by
 intro w c b mg z G t i o u m g K kV N H y D A hg args C as j B F x O;obtain rfl:K=.none:=Dflts.none D v;obtain rfl:kV=.none:=Dflts.noKw D;refine Z35 (Fy hn j x) fun a vs p r0_ r1_ k e h=>?_;subst r0_ r1_;refine enter_call<|aix (call w c b mg z i o u m g a vs p G t N (fd_plain H) y A k e h hg) fun r s I=>?_;obtain⟨rfl,h2,E,J⟩:=I;exact⟨.inl ⟨.bool U,.bool U,[],rfl,fun _=>rfl,.bool U,(fun l args =>  postW_of (r:=l.row.toRowW) (X:=(U==U))
   (show WShape.has [] (.bool U) .bool=U by first|rfl|decide|simp[WShape.has,WShape.arms,WShape.armsAll])
   (show(WTm.eq .res (.lit (.bool U))).value [] {args:=args,res:=Z (.bool U),after:=args}=Z (.bool (U==U))from w_eq_bool (w_res rfl) w_lit) rfl) l _,fun _=>⟨List.Pairwise.nil,fun _ M=>(nomatch M)⟩⟩,h2,E,J⟩
end Att
namespace L2
open PySem PySem.Spec PyProof.Rows
theorem wg:∀{vs:alw}{a:List Int},IntsAre vs a->aY (a.map V.int) vs
 |_,_,.nil=>.nil
 |_,_,.cons n t h=>.cons ⟨t,rfl⟩<|wg h
theorem Sj{l:List<|aga×Str}(hn:(l.map (·.1)).Nodup)(h:x∈l):l.lookup x.1=Z x.2:=by
 induction l with
 |nil=>nofun
 |cons y r a=>
  rw[Do,agc]at hn;rcases oR.mp h with rfl|h
  .simp[ais]
  .have n:x.1≠y.1:=fun z=>hn.1<|z▸ahW h;rw[ais,show(x.1==y.1)=η from by simpa using n];exact a hn.2 h
theorem Ai{l:List<|aga×β}{b:aga}{q:β}(h:l.lookup b=Z q):(b,q)∈l:=by
 induction l with
 |nil=>nofun
 |cons y r a=>
  rw[ais]at h;cbv
  .rename_i e;nofun;rw[show b=y.1 from by simpa using e];exact agl
  .exact mK _ (a h)
theorem Ik{K:aT}(h:ic K p=Z x):K.lookup x.1=L/\aiX K p.1 x.1=U:=by
 unfold ic at h;cbv
 .cbv
  .cbv
   .rename_i e;nofun;rw[afU]at e;exact⟨by simpa using e.1,e.2⟩
   .nofun
  .nofun
 .nofun
theorem G6{K:aT}
  (Q:K.In s₁.heap) (C:s₁.heap.Ns age mg) (hb:s₁.heap.Ns builtinsNs mb) (R:∀x:Str,x≠"__name__"->mb x=af9 x) (A:s₁.heap.NoLimit) (hg:s₁.gens=#[])
  (hT:((K.filterMap<|ic K).map (·.1)).Nodup/\∀x∈K.filterMap (ic K),s₁.heap.get? x.1=Z (aik #[]))
  (i:s₁.heap.get? a=Z {cls:=.type "list",data:=.seq vs.toArray}) (hi:IntsAre vs ns) (X:ns.length<=afT) (hr:Room k callerA)
  (F:∀base:aij,K.In base->base.Ns age mg->FnOk P w K mg base CX k fa fd [x] sp) (t:∀(s:MK)(u:By),BindsTo s fd ⟨[u],[]⟩ [(x,u)])
  (N:∀H:Hp,dF K H a (ns.map V.int)->sp [.ref a] H (fun v _=>v=.bl U) fun _ _ _=>False)
  (S:∀H e f,CX [] H s₁ (fun _ _ _=>False) e f->False):
  ajR (af6 P w) callerA (.call (.ref fa) ⟨[.ref a],[]⟩) (fun r f=>r=.ok (.ret<|.bool U)/\OldK s₁.heap f.heap/\f.os=s₁.os/\AllBare f.gens) s₁:=by
 have T:=wg hi;have G:=hi.length;let l:=K.filterMap<|ic K
 have tab:∀b q,l.lookup b=Z q->K.lookup b=L/\s₁.heap.get? b=Z (aik #[])/\isCodeTable s₁.heap b:=fun b q e=>by
  have hm:=Ai e;obtain⟨p,hp,y⟩:=ahy.mp hm
  have:=Ik y
  have E:=hT.2 _ hm;exact⟨this.1,E,((PySem.W.codeHd_of_K Q this.2).tab E).isCodeTable⟩
 let H:Hp:=fun b=>match l.lookup b with
  |some q=>Z<|.tbl q
  |none=>if b=a/\K.lookup a=L then Z (.frz {cls:=.type "list",data:=.seq vs.toArray} (.lst<|ns.map V.int))else L
 have I:∀b u,H b=Z u->(∃q,u=.tbl q/\l.lookup b=Z q)\/(b=a/\K.lookup a=L/\u=.frz {cls:=.type "list",data:=.seq vs.toArray} (.lst<|ns.map V.int)):=fun b u e=>by
  have D:(match l.lookup b with
   |some q=>Z<|.tbl q
   |none=>if b=a/\K.lookup a=L then Z (HO.frz {cls:=.type "list",data:=.seq vs.toArray} (.lst (ns.map V.int)))else L)=Z u:=e
  split at D
  .cases D;exact .inl ⟨_,rfl,by assumption⟩
  .split at D
   .rename_i h;cases D;exact .inr ⟨h.1,h.2,rfl⟩
   .cases D
 have nk:∀b u,H b=Z u->K.lookup b=L:=fun b u e=>by
  rcases I b u e with⟨q,_,j⟩|⟨rfl,j,_⟩
  .exact(tab b q j).1
  .exact j
 have nl:l.lookup a=L:=by
  cases e:l.lookup a with
  |none=>rfl
  |some q=>have:=(tab a q e).2.1;rw[i]at this;cases this
 have M:nU P w H s₁.heap:=fun b u e=>by
  rcases I b u e with⟨q,rfl,j⟩|⟨rfl,_,rfl⟩
  .exact⟨#[],(tab b q j).2.1,trivial,fun pos cv z=>nomatch z⟩
  .exact⟨i,by rw[iF];exact X,vs,_,T,i⟩
 have hS:dF K H a<|ns.map V.int:=by
  cases hk:K.lookup a with
  |some o=>
   have e:=Q a o hk;rw[i]at e;cases e;exact .inr ⟨_,vs.toArray,_,hk,rfl,rfl,rfl,by rw[af3,G];exact X,by simpa using T⟩
  |none=>exact .inl<|.inr ⟨{cls:=.type "list",data:=.seq vs.toArray},by show(match l.lookup a with|some q=>_|none=>_)=_;rw[nl];exact ali ⟨rfl,hk⟩⟩
 have c:∀{b:aga}{o:Obj},s₁.heap.get? b=Z o->H b=L->(zE s₁.heap H).get? b=Z o:=fun e n=>IT e n;have O:∀{b:aga}{o:Obj}{es:Array DictEntry}{J:Nat},s₁.heap.get? b=Z o->o.data=.dict es J->H b=L:=fun{b o es J}e d=>by
  cases q:H b with
  |none=>rfl
  |some u=>
   rcases I b u q with⟨q1,_,z⟩|⟨rfl,_,_⟩
   .rw[(tab b q1 z).2.1]at e;cases e;cases d
   .rw[i]at e;cases e;cases d
 have g:∀{b:aga}{m:alu},s₁.heap.Ns b m->(zE s₁.heap H).Ns b m:=fun{b m} q_=>Z33 q_ fun o es J e d r=>⟨o,es,J,c e<|O e d,d,r⟩;have B:K.In<|zE s₁.heap H:=fun b o e=>c (Q b o e) (by
  cases q:H b with
  |none=>rfl
  |some u=>rw[nk b u q]at e;cases e)
 have hM:Mod K mg<|zE s₁.heap H:=⟨B,g C,⟨mb,g hb,R⟩,let⟨mc,h1,h2⟩:=A;⟨mc,g h1,h2⟩⟩;have abx:UV K H:=fun p hp x e=>by
  have:=Sj hT.1<|ahy.mpr ⟨p,hp,e⟩
  show(match l.lookup x.1 with|some q=>_|none=>_)=_
  rw[this]
 have e0:Env0 P w K mg (zE s₁.heap H) callerA [] s₁ H:=⟨rfl,hM,fun b o e=>MY e,aj5<|(fun h H=>PySem.W.hideAll_size _ _) _ _,trivial,⟨fun b hb=>absurd (show b∈([]:alv)from hb)<|∅,abx⟩,M,.of_eq hg⟩;refine aix ((F _ B<|g C).run callerA [] s₁ H ⟨[.ref a],[]⟩ [.ref a] [.ref a] _ _ hr e0 (t s₁<|.ref a) (.cons rfl .nil)<|N H hS) fun r f h=>?_;cases r with
 |error e=>exact(S H e f h).elim
 |ok fl=>
  cases fl with
  |next=>exact ag7 h
  |brk=>exact ag7 h
  |cont=>exact ag7 h
  |ret u=>
   let⟨v,H',os,bare,un,hok',r',q⟩:=h
   have q':v=.bl U:=q;subst q';obtain rfl:u=alf U:=r';have key:∀b o,s₁.heap.get? b=Z o->asItWas s₁.heap f.heap b o/\∃o',f.heap.get? b=Z o':=fun b o e=>by
    cases q:H b with
    |none=>
     have:=un.keep b o e q (by intro z;exact absurd (show b∈([]:alv)from z)<|∅) ∅
     exact⟨.inl this,_,this⟩
    |some u=>
     rcases I b u q with⟨z,rfl,j⟩|⟨rfl,_,rfl⟩
     .obtain⟨ps,y,_⟩:=hok' b _<|un.tbls b _ q;obtain⟨_,E,e4⟩:=tab b _ j;rw[e]at E;cases E;exact⟨.inr<|.inl ⟨e4,rfl,#[],ps,rfl,by rw[y];simp⟩,_,y⟩
     .obtain⟨y,_⟩:=hok' b _<|un.frzs b _ _ q;rw[e]at i;cases i;exact⟨.inl y,_,y⟩
   exact⟨rfl,⟨fun b o e=>(key b o e).1,fun b o e=>(key b o e).2⟩,os,bare⟩
theorem L7{l:aj7}{K:ai4->aT}{CX:agN->US}{sp:agN->Sp}
  (hn:l.most=Z n) (B:n<=afT) (y:d.params.defaults=[]) (hr:Room k callerA)
  (Q:∀(w:agN)(h:aij),YP w h->(K w.params).In h)
  (F:∀(w:agN)(mg:alu)(r:aga)(h:aij),(K w.params).In h->h.Ns age mg->mg d.name=Z (.ref r) ->
   ∃E:aid,(∀(s:MK)(u:By),BindsTo s E ⟨[u],[]⟩ [(x,u)]) /\
    ∀base:aij,(K w.params).In base->base.Ns age mg->FnOk l.prog w (K w.params) mg base (CX w) k r E [x] (sp w))
  (P:∀(w:agN)(h:aij),YP w h->(((K w.params).filterMap<|ic<|K w.params).map (·.1)).Nodup/\∀x∈(K w.params).filterMap (ic<|K w.params),h.get? x.1=Z (aik #[]))
  (z:∀(w:agN)(H:Hp)(a:aga)(t:List Int),t.length<=n->dF (K w.params) H a (t.map V.int)->sp w [.ref a] H (fun v _=>v=.bl U) fun _ _ _=>False)
  (D:∀(w:agN)(H:Hp)(s:MK)(e:By)(A:MK),CX w [] H s (fun _ _ _=>False) e A->False):
  PySem.W.WalkO q loose XP YP l.row.toRowW d [] (fun f vs=>akP f vs):=by
 refine Att.zf hn y fun w J m mg mb r o S X M a vs t G j ho R N C p i c hg=>?_;have I:=Q w _ j;obtain⟨E,hb,hF⟩:=F w mg r _ I G.T.g C;exact G6 I G.T.g G.T.b G.T.builtins G.T.nolimit hg (P w _ j) p i (DO c B) hr hF hb (fun H O=>z w H a t c O) fun H e A=>D w H m e A
def jq(s:ah9):Arguments:=match s with
 |.FunctionDef _ a _ _ _ _ _ _ _ _=>a
 |_=>{posonlyargs:=[],args:=[],vararg:=L,kwonlyargs:=[],kw_defaults:=[],kwarg:=L,defaults:=[]}
def dM(s:ah9):List ah9:=match s with
 |.FunctionDef _ _ b _ _ _ _ _ _ _=>b
 |_=>[]
noncomputable def aQ(s:ah9):Scope:=match s with
 |.FunctionDef _ _ _ _ _ _ sc _ _ _=>sc
 |_=>{kind:=.function,names:=[],isGenerator:=η,isCoroutine:=η}
abbrev j8:US:=fun _ _ _ _ _ _=>False
abbrev E0:XK:=fun _ _ _=>False
theorem zr:tL j8 X E0:=fun _ _ _ _ _ _ _ h=>h.elim
def Qx(K:aT)(a:By)(q:Str):Bool:=akm K a q&&(match a with
 |.ref c=>(match K.lookup c with
  |some o=>(ic K (c,o)).isSome
  |none=>η)
 |_=>η)
theorem J4{K:aT}(h:Qx K cdv q=U):∃c P,cdv=.ref c/\aiX K c P=U/\∀H,UV K H->H P=Z (.tbl<|q++".<locals>."++"<lambda>"):=by
 obtain⟨h1,h2⟩:=aih.mp h;split at h2
 .rename_i c;split at h2
  .rename_i o e;obtain⟨x,a⟩:=aiu.mp h2
   have:=Ik a
   refine⟨c,x.1,rfl,this.2,fun H t=>?_⟩;rw[t _ (Ai e) x a];unfold ic at a;split at a
   .rename_i vs hd;split at a
    .rename_i q' tk P e1 e2;split at a
     .cases a;unfold akm at h1;dsimp only at h1;rw[e]at h1;split at h1
      .rename_i vs' _ ho;cases ho;cases hd;split at h1
       .rename_i n _ _ hl;have b:vs.toList[1]?=Z (.str q' tk):=by rw[<-e1];simp
        rw[hl]at b;cases b;rw[show q'=q from by simpa using h1]
       .cases h1
      .cases h1
     .cases a
    .cases a
   .cases a
  .cases h2
 .cases h2
structure Fun(K:aT)(x qual:Str)(st:ah9)(f:aga)(fd:aid):Prop where
 ex:∃(oc:By)(od:Option aga)(kV doc pm:By)(an:Option aga)(cdv ct:By)(osl:Array<|Option By),
  fd=ahS x qual (jq st) (dM st) (aQ st) .none kV doc pm an cdv ct/\K.lookup f=Z ⟨oc,od,.func fd,osl⟩/\Qx K cdv qual=U
 kp:aiK K (.ref f)=U
section
variable{K:aT}
theorem Fun.ok{st:ah9}(F:Fun K x qual st f fd)(S:FnScope N ps<|aQ st)(len:∀vs H Q E,sp vs H Q E->vs.length=ps.length)
  (c:∀(b:By)(_:Qx K b qual=U)(A:ahU)(a:List Env)(s:MK)(H:Hp)(vs:alx)(Q:VK)(E:XK),Room k (A.deeper<|ake qual (aQ st) s.heap.objs.size f b)->sp vs H Q E ->
   ∃t,Ly (xq j8 P w K mg base N qual (aQ st) f b A a s H E).nox (dM st) t/\t {nx:=fun _ H'=>Q .non H',rt:=Q} (start N vs) H):FnOk P w K mg base j8 (k+1) f fd ps sp:=by
 obtain⟨oc,od,kV,g,i,j,b,l,osl,rfl,lk,d⟩:=F.ex;refine Zh lk (((aih.mp d).1)) S len fun A a s H vs Q E hr e=>?_;obtain⟨t,h,q⟩:=c b d A a s H vs Q E hr e;exact⟨t,h.nox,q⟩
theorem Fun.binds{st:ah9}(F:Fun K x qual st f fd)
  (h:∀(kV b d:By)(e:Option aga)(a c:By)(us:alw),us.length=ps.length->bindArgs (ahS x qual (jq st) (dM st) (aQ st) .none kV b d e a c) ⟨us,[]⟩=pure (ps.zip us)):gu K fd ps []:=by
 obtain⟨oc,od,kV,b,d,e,a,c,osl,rfl,lk,g⟩:=F.ex;exact .all (h kV b d e a c)
theorem GK{st:ah9}{kV b e a d:By}(l:K.lookup f=Z ⟨oc,od,.func<|ahS x qual (jq st) (dM st) (aQ st) .none kV b e an a d,osl⟩)
  (c:Qx K a qual=U) (k:aiK K (.ref f)=U):Fun K x qual st f<|ahS x qual (jq st) (dM st) (aQ st) .none kV b e an a d:=⟨⟨oc,od,kV,b,e,an,a,d,osl,rfl,l,c⟩,k⟩
end
section
variable{X:Cx}
theorem pv(i:Nat){pos:Pos}(d:autoParam (X.N[i]?=Z x) Xaz)(c:autoParam #[25] Xbz)(b:autoParam (alz x) Xax)
  (a:autoParam (#[5]=η) Xax):PE X (.Name x pos)<|Zn i:=HR d c b a
end
def av(H H':Hp):Prop:=∀b o,H b=Z o->H' b=Z o
theorem av.refl(H:Hp):av H H:=fun _ _ h=>h
theorem av.trans(a:av H H1)(b:av H1 H2):av H H2:=fun c o h=>b c o<|a c o h
theorem av.free(e:av H H')(h:H' l=Option.none):H l=Option.none:=by
 cases q:H l with
 |none=>rfl
 |some o=>
  rw[e l o q]at h;nofun
theorem av.seq{K:aT}(e:av H H')(h:dF K H a xs):dF K H' a xs:=by
 rcases h with(h|⟨o,h⟩)|h
 .exact .inl (.inl<|e _ _ h)
 .exact .inl (.inr ⟨o,e _ _ h⟩)
 .exact .inr h
section
variable{κ:Type}[DecidableEq κ]
theorem Gj{p:κ×V}(e:p.1=k):jX (p::r) k=jX r k:=by
 unfold jX
 grind
theorem FV{p:κ×V}(e:¬p.1=k):jX (p::r) k=p::jX r k:=by
 unfold jX
 grind
end
end L2
namespace L2
open PySem PySem.W PySem.W.X
theorem walkX{run:By->alw->Sem By}
  (e:∀P,as=(K P).map (·.1)) (h:WalkO q loose XP (fun w h=>(K w.params).In h) r d kwd run):WalkX q loose XP (obsZ as) (valZ K n t) r d kwd run:=
 fun w c b mg z G y a o l s j u kV h1 h2 k m p x g f as i A v hr hw hs=>
  h w c b mg z G (InK.keeps w c.heap b.heap (z_facts e y).2.1 i.keeps) a o l s j u kV h1 h2 k m p x g f as A v hr hw hs
theorem ln1{α:Type}{P:List α->Prop}(h:∀a,P [a]):∀us:List α,us.length=1->P us:=fun us e=>by
 obtain⟨a,rfl⟩:=ah1.mp e;exact h a
theorem acs{α:Type}{P:List α->Prop}(h:∀a us,us.length=n->P (a::us)):∀us:List α,us.length=n+1->P us:=fun us e=>by
 cases us with
 |nil=>cases e
 |cons a us=>mright
theorem ln2{α:Type}{P:List α->Prop}(h:∀a b,P [a,b]):∀us:List α,us.length=2->P us:=acs fun a=>ln1 fun b=>h a b
theorem ln3{α:Type}{P:List α->Prop}(h:∀a b c,P [a,b,c]):∀us:List α,us.length=3->P us:=acs fun a=>ln2 fun b c=>h a b c
theorem ln4{α:Type}{P:List α->Prop}(h:∀a b c d,P [a,b,c,d]):∀us:List α,us.length=4->P us:=acs fun a=>ln3 fun b c d=>h a b c d
end L2
namespace L2
open PySem PySem.Spec PyProof.Rows
noncomputable def fR(cells:List<|Str×aga):List (Str×aiL)->List (Str×aga)->List (Str×aga)
 |[],acc=>acc
 |(n,k)::r,acc=>if k=.free then fR cells r ((n,(cells.lookup n).getD 0)::acc)else fR cells r acc
theorem jW(h:∀y∈scope.names,y.2=.free->∃c,env.cells.lookup y.1=Z c):closureFor scope env=pure (fR env.cells scope.names []):=by
 simp only[closureFor];generalize([]:List<|Str×aga)=acc;revert h
 generalize scope.names=names;intro h;induction names generalizing acc with
 |nil=>rfl
 |cons y r d=>
  let⟨n,k⟩:=y
  by_cases a:k=.free
  .subst a;let⟨c,hc⟩:=h (n,.free) agl rfl
   have e:cellOf env n=pure c:=by unfold cellOf;rw[hc]
   have b:fR env.cells ((n,.free)::r) acc=fR env.cells r ((n,c)::acc):=by
    show(if ag0=.free then _ else _)=_;rw[hc];rfl
   mright
  .have b:fR env.cells ((n,k)::r) acc=fR env.cells r acc:=by
    show(if k=.free then _ else _)=_;rw[alj a]
   mright
theorem wF:∀(a:List<|Str×aiL)(acc:List<|Str×aga),(∀y∈a,y.2=.free->∃c,cells.lookup y.1=Z c) ->
  (fR cells a acc).lookup x=Z c->cells.lookup x=Z c\/acc.lookup x=Z c:=bb (fun acc _ e=>.inr e) fun ⟨n,k⟩ r i acc h e=>by
  have hr  := fun y hy=>h y<|mK _ hy;by_cases b:k=.free
  .subst b;rcases i _ hr e with z|z
   .exact .inl z
   .rw[ahw]at z;cases hx:x==n with
    |true=>
     rw[hx]at z;let⟨c',hc⟩:=h (n,.free) agl rfl
     grind
    |false=>
     mright
  .have e2:fR cells ((n,k)::r) acc=fR cells r acc:=by
    show(if k=.free then _ else _)=_;rw[alj b]
   rw[e2]at e;exact i acc hr e
theorem oy{cells:List<|Str×aga}{x:Str}:∀(a:List<|Str×aiL)(acc:List<|Str×aga),((x,ag0)∈a\/∃c,acc.lookup x=Z c)->∃c,(fR cells a acc).lookup x=Z c:=bb (fun acc h=>by
  rcases h with h|h
  .nofun
  .exact h) fun ⟨n,k⟩ r i acc h=>by
  by_cases b:k=.free
  .subst b;refine i _ ?_;rcases h with h|⟨c,h⟩
   .rcases oR.mp h with h|h
    .mright
    .exact .inl h
   .refine .inr ?_
    grind
  .have e2:fR cells ((n,k)::r) acc=fR cells r acc:=by
    show(if k=.free then _ else _)=_;rw[alj b]
   rw[e2];refine i acc ?_
   grind
structure Bk where
 cl:List<|Str×aga
 C:aga
 s:MK
 H:Hp
 fp:alv
 aa:alr
noncomputable def jp(X:Cx)(N:alq)(scope:Scope)(b:Bk):Cx:=
 {X with tn:=0,N:=N,s₀:=b.s,H₀:=b.H,env:=compEnvC scope b.cl b.C X.env,outer:=X.stack,stack:=X.stack,ex:=b.fp,fn:=fun _=>η,pn:=X.pn++b.aa,xe:=fun _ _=>False}
noncomputable def uj(ON:alq)(a:List<|Str×aiL):List (Option Nat)->alq->Bool
 |[],[]=>U
 |none::r,_::n=>uj ON a r n
 |some j::r,x::n=>decide (ON[j]?=Z x)&&decide ((x,ag0)∈a)&&uj ON a r n
 |_,_=>η
def zZ(osc:Scope)(ON N:alq)(ix:List<|Option Nat)(scope:Scope):Bool:=
 decide (scope.kind=.function)&&(scope.names.all fun y=>decide (y.2≠.cell))&&(scope.names.all fun y=>decide (y.2=.local->scope.names.lookup y.1=Z .local)) &&
 (scope.names.all fun y=>decide (y.2=.free->osc.names.lookup y.1=Z .cell\/osc.names.lookup y.1=Z .free))&&(scope.names.all fun y=>decide (y.2=.local->(y.1,ag0)∉scope.names))&&uj ON scope.names ix N
structure CScope(osc:Scope)(ON N:alq)(ix:List (Option Nat))(scope:Scope):Prop where
 kind:scope.kind=.function
 nocell:∀y∈scope.names,y.2≠.cell
 names:∀y∈scope.names,y.2=.local->scope.names.lookup y.1=Z .local
 outs:∀y∈scope.names,y.2=.free->osc.names.lookup y.1=Z .cell\/osc.names.lookup y.1=Z .free
 nolf:∀x,(x,NameKind.local)∈scope.names->(x,ag0)∈scope.names->False
 len:ix.length=N.length
 cap:∀(i j:Nat)(x:Str),ix[i]?=Z (Z j)->N[i]?=Z x->ON[j]?=Z x/\(x,ag0)∈scope.names
theorem qg:∀{ix:List<|Option Nat}{N:alq},uj ON names ix N=U->ix.length=N.length
 |[],[],_=>rfl
 |none::r,_::n,h=>alo Nat.succ<|qg h
 |some j::r,x::n,h=>by
  have h':(decide (ON[j]?=Z x)&&decide ((x,ag0)∈names)&&uj ON names r n)=U:=h;rw[afU]at h';exact alo Nat.succ<|qg h'.2
 |[],_::_,h=>by nofun
 |none::_,[],h=>by nofun
 |some _::_,[],h=>by nofun
theorem pz:∀{ix:List<|Option Nat}{N:alq},uj ON names ix N=U->∀(i j:Nat)(x:Str),ix[i]?=Z (Z j)->N[i]?=Z x->ON[j]?=Z x/\(x,ag0)∈names
 |[],_,_,i,j,x,h1,_=>by simp at h1
 |none::r,y::n,h,0,j,x,h1,_=>by simp at h1
 |none::r,y::n,h,i+1,j,x,h1,h2=>pz (ix:=r) h i j x (by simpa using h1) (by simpa using h2)
 |some k::r,y::n,h,i,j,x,h1,h2=>by
  have h':(decide (ON[k]?=Z y)&&decide ((y,ag0)∈names)&&uj ON names r n)=U:=h;rw[afU]at h';cases i with
  |zero=>
   mright
  |succ i=>exact pz h'.2 i j x (by simpa using h1) (by simpa using h2)
 |none::_,[],h,_,_,_,_,_=>by nofun
 |some _::_,[],h,_,_,_,_,_=>by nofun
theorem QH(h:zZ osc ON N ix scope=U):CScope osc ON N ix scope:=by
 unfold zZ at h;simp only[afU]at h;obtain⟨⟨⟨⟨⟨h1,h2⟩,d⟩,f⟩,b⟩,a⟩:=h;exact⟨aln h1,fun y hy=>aln<|agz.mp h2 y hy,fun y hy=>aln<|agz.mp d y hy,fun y hy=>aln<|agz.mp f y hy,
  fun x c e=>aln (agz.mp b (x,.local) c) rfl e,qg a,pz a⟩
def m5(ix:List<|Option Nat)(Y:St):St:=ix.map fun o=>o.bind fun j=>(Y[j]?).getD L
theorem eO{env:Env}:∀{a:List<|Str×aiL}{x:Str}{k:aiL},(a.map fun(n,k)=>if(k==ag0&&env.scope.kind==.function&&env.kindOf n==Z .cell)then(n,alh)else(n,k)).lookup x=Z k ->
  a.lookup x=Z k\/(k=.cell/\a.lookup x=Z .free/\env.kindOf x=Z .cell)
 |[],_,_,h=>by nofun
 |(n,k')::r,x,k,h=>by
  have c:=@eO env r x k;have h:ais x ((if(k'==ag0&&env.scope.kind==.function&&env.kindOf n==Z .cell)=U then(n,alh)else(n,k'))::_)=Z k:=h;by_cases b:(k'==ag0&&env.scope.kind==.function&&env.kindOf n==Z .cell)=U
  .rw[ali b]at h;rw[ahw]at h;rw[ahw];cases hx:x==n with
   |true=>
    lia
   |false=>
    mright
  .rw[ahw]at h;rw[ahw];cases hx:x==n with
   |true=>
    mright
   |false=>
    mright
theorem mem_of_lookupK:∀{a:List<|Str×aiL},a.lookup x=Z k->(x,k)∈a:=fun h=>ahl h
theorem Mt{Y:St}(I:Inv X aa Y H s)(Q:X.env.scope=osc)(P:X.N=ON)(S:CScope osc ON N ix scope)
  (t:∀b∈fp,eZ X aa H b) (F:∀b∈fp,∃o,s.heap.get? b=Z o) (hn:h'.Ns s.heap.objs.size m) (D:∀b o,s.heap.get? b=Z o->h'.get? b=Z o) (V:s'={s with heap:=h',toks:=s'.toks}):
  Inv (jp X N scope ⟨fR X.env.cells scope.names [],s.heap.objs.size,s,H,fp,aa⟩) [] (m5 ix Y) H s':=by
 subst Q P;have w:∀y∈scope.names,y.2=.free->∃c,X.env.cells.lookup y.1=Z c:=fun y hy e=>I.ok.has y.1<|S.outs y hy e;have f:∀x c,(fR X.env.cells scope.names []).lookup x=Z c->X.env.cells.lookup x=Z c:=fun x c e=>by
  rcases wF scope.names [] w e with z|z
  .exact z
  .cases z
 have C:∀b o,s.heap.get? b=Z o->b≠s.heap.objs.size:=fun b o e=>af7<|OR e;have A:∀x,(compEnvC scope (fR X.env.cells scope.names []) s.heap.objs.size X.env).kindOf x=Z .cell\/(compEnvC scope (fR X.env.cells scope.names []) s.heap.objs.size X.env).kindOf x=Z .free->(x,ag0)∈scope.names:=fun x r=>by
  rcases r with r|r
  .rcases eO (env:=X.env) r with z|⟨_,z,_⟩
   .exact absurd rfl (S.nocell _<|mem_of_lookupK z)
   .exact mem_of_lookupK z
  .rcases eO (env:=X.env) r with z|⟨z,_⟩
   .exact mem_of_lookupK z
   .cases z
 have l:∀x c,X.env.cells.lookup x=Z c->∀v,s.heap.IsCell c v->h'.IsCell c v:=fun x c e v⟨o,ho,hd⟩=>⟨o,D c o ho,hd⟩;rw[V];refine⟨⟨I.ok.mod,S.kind,I.ok.glob,I.ok.blt,nE _,fun x y c h1 h2=>I.ok.inj x y c (f x c h1)<|f y c h2,fun x r=>oy _ _<|.inl<|A x r,fun x c z _=>(nomatch z),I.ok.hd,I.ok.frames,.inl rfl,
  fun b hb=>?_,fun b o e=>I.bs b o e,DO I.ok.bsz I.sz,fun b o e hb=>?_,fun b hb r=>?_,I.stack,⟨fun b hb=>I.stkFree b hb,I.tb⟩⟩,
  rfl,I.bare,Un.kept D,⟨m,hn,fun i x v h1 h2 O=>?_⟩,fun x c e=>?_,I.hok.fresh (nE _),fun x c e=>I.freeC x c (f x c e),fun p T=>?_,I.hok.kept D,?_,acr _⟩
 .let⟨o,ho⟩:=F b hb
  exact⟨C b o ho,fun x c e=>(t b hb).2.2.2.2.1 x c<|f x c e⟩
 .rcases(t b hb).2.2.2.1 with z|z
  .exact I.ok.noex b o e z
  .exact absurd (afZ (OR e)<|DO I.ok.bsz z) (ahV _)
 .rcases oR.mp (I.stkSub b r)with z|z
  .exact(t b hb).2.1 z
  .exact(t b hb).2.2.1 z
 .-- a captured name
  have g:(m5 ix Y)[i]?=Z (Z v):=h2;unfold m5 at g;rw[agH]at g;cases e:ix[i]? with
  |none=>rw[e]at g;cases g
  |some o=>
   rw[e]at g;cases o with
   |none=>cases g
   |some j=>
    let⟨c1,c2⟩:=S.cap i j x e h1
    have h:(Y[j]?).getD L=Z v:=ahd g;have R:Y[j]?=Z (Z v):=by
     cases q:Y[j]? with
     |none=>rw[q]at h;nofun
     |some W=>rw[q]at h;rw[<-h];rfl
    have K:=S.outs _ c2 rfl;let⟨mX,hnX,hl⟩:=I.loc
    have J:qm X.env.scope x:=by
     rcases K with k|k
     .exact .inr (.inl k)
     .exact .inr (.inr k)
    let⟨u,ru,lk⟩:=hl j x v c1 R J
    refine⟨u,ru,.inr ?_⟩;have B:∃c,X.env.cells.lookup x=Z c/\s.heap.IsCell c (Z u):=by
     rcases lk with⟨k,_⟩|⟨_,c,E,G⟩
     .rcases K with k'|k'
      .have:X.env.kindOf x=Z .cell:=k'
       rw[k]at this;cases this
      .have:X.env.kindOf x=Z .free:=k'
       rw[k]at this;cases this
     .exact⟨c,E,G⟩
    let⟨c,E,G⟩:=B
    let⟨c',e3⟩:=oy (cells:=X.env.cells) scope.names []<|.inl c2
    have M:=f x c' e3;rw[E]at M;cases M;refine⟨?_,c,e3,l x c E _ G⟩;rcases O with k|k|k
    .rcases eO (env:=X.env) k with z|⟨z,_⟩
     .exact(S.nolf x (mem_of_lookupK z) c2).elim
     .cases z
    .exact .inl k
    .exact .inr k
 .let⟨v,z⟩:=I.cell x c (f x c e)
  exact⟨v,l x c (f x c e) v z⟩
 .have hp':p∈X.pn++aa:=by
   rcases BY.mp T with z|z
   .exact z
   .cases z
  let⟨e,n,ne,nf,d⟩:=I.pin p hp'
  refine⟨D _ _ e,n,C _ _ e,fun z=>?_,d⟩;rcases oR.mp (I.stkSub _ z)with q|q
  .exact ne q
  .exact nf q
 .unfold m5;rw[iF];exact S.len
section
variable{prog:ahb}{w:agN}{A:ahU}{R:Result->MK->Prop}{s:MK}
theorem wE(I:Nat->MK->Prop)
  (mD:∀n s,I n s->af0 #[4] A (pyNext it) (fun r d=>match r with
   |none=>R (.ok .next) d
   | some v=>af0 #[4] A (akd target it v) (fun _ a=>af0 #[4] A (assign target env v) (fun _ l =>
     af0 #[4] A (forIn ifs U fun c r=>if r=U then do let ok <-isTrue c env (eval c env);pure (aiB ok)else pure (aiB r)) (fun ok b=>
      if ok=U then af0 #[4] A (eval elt env) (fun x i=>
       af0 #[4] A (call (.builtin "list.append") [acc,x]) (fun _ k=>∃m,m<n/\I m k) (notedBy #[4] A env fun e f=>R (.error e) f) i) (notedBy #[4] A env fun e f=>R (.error e) f) b
      else ∃m,m<n/\I m b) (notedBy #[4] A env fun e f=>R (.error e) f) l) (notedBy #[4] A env fun e f=>R (.error e) f) a) (notedBy #[4] A env fun e f=>R (.error e) f) d) (notedBy #[4] A env fun e f=>R (.error e) f) s)
  (n:Nat) (h:I n s):
  ajR #[4] A (.compLoop (.ListComp elt [⟨target,iter,ifs,0⟩] scope pos) 0 it acc env) R s:=by
 refine codeAny_loop rfl I (fun n s u=>?_) n h;refine wpAny_noted ?_;refine bY<|wpAny_standAt<|bY<|agE (mD n s u) (fun r d g=>?_) fun _ _ h'=>h';cases r with
 |none=>exact lT g
 |some v=>
  refine bY<|agE g (fun _ a o=>?_) fun _ _ h'=>h';refine bY<|agE o (fun _ l p=>bY<|agE p (fun ok b j=>?_) fun _ _ h'=>h') fun _ _ h'=>h';cases ok with
  |false=>exact lT ⟨rfl,j⟩
  |true=>
   exact bY<|bY<|agE j (fun x i q=>bY<|agE q (fun _ k t=>lT<|lT ⟨rfl,t⟩) fun _ _ h'=>h') fun _ _ h'=>h'
end
def UY(X:Cx)(ifs:List agR)(t:TT):Prop:=
 ∀(a:alr)(s:MK)(Y:St)(H:Hp)(Q:Bool->Hp->Prop),Inv X a Y H s->t Y H Q ->
  af0 #[1] X.A (forIn ifs U fun c r=>if r=U then do let ok <-isTrue c X.env (eval c X.env);pure (aiB ok)else pure (aiB r)) (TP X a Y Q) X.xe s
def ab6:TT:=fun _ H Q=>Q U H
theorem Mo(h:PT X c t):UY X [c] t:=fun a s Y H Q I q=>wpAny_tests_one<|h a s Y H Q I q
def xy(g:TG)(n:TT)(te:TE)(J:It)(f:St)(H1:Hp)(Q:VK):Prop:=∀acc,H1 acc=L->∃W:Nat->Nat->St->Hp->Prop,
 (∃m,W 0 m f<|upd H1 acc<|.lst [])/\∀i m c H',W i m c H' ->
  (J.stop i H'/\Q (.ref acc) H')\/(J.go i H'/\∃M:St->Hp->Prop,(∀e d,M e d->∃h,h<m/\W (i+1) h e d)/\∀x d,J.yld i H' x d->g x c d fun a l=>n a l fun b j=>
   if b=U then te a j fun v k=>∃xs,k acc=Z (.lst xs)/\xs.length<afT/\M a (upd k acc (.lst (xs++[v])))else M a j)
def C7(ix:List<|Option Nat)(b:TI)(g:TG)(a:TT)(te:TE):TE:=fun Y H Q=>b Y H fun J H1=>xy g a te J (m5 ix Y) H1 Q
section
theorem Jl{Y c:St}(I:Inv X aa Y H s)(a:∀b∈fp,eZ X aa H b)(J:Inv (jp X N scope ⟨cl,s.heap.objs.size,s,H,fp,aa⟩) [] c H' s')(d:X.tn<=s'.toks):
  Inv X aa Y H' s'/\(∃m,s'.heap.Ns s.heap.objs.size m)/\H' s.heap.objs.size=L/\eZ X aa H' s.heap.objs.size:=by
 have u  := J.base;have I1  := I.call' J.os u J.hok J.bare fun b hb=>⟨(a b hb).2.2.2.1,(a b hb).2.1,(a b hb).2.2.2.2.1,(a b hb).2.2.2.2.2⟩;obtain⟨m,hn,_⟩:=J.loc;exact⟨I1,⟨m,hn⟩,J.free,I.fpOk (nE _) J.free⟩
theorem vY{Y:St}{RR:By->aga->Result->MK->Prop}
  (S:CScope osc ON N ix scope) (hE:X.env.scope=osc) (hO:X.N=ON) (hc:X.calm=U) (hg:∀b,PG #[15] tg g) (ht:∀b,UY #[15] ifs tt)
  (he:∀(F:MK)(H0:Hp)(pl:alr)(c:MK)(a:St)(H':Hp)(Q':VK)(acc:aga),Inv X aa Y H0 F->(∀b∈fp,eZ X aa H0 b)->(∀b∈fp,∃o,(b,o)∈pl)->Inv (jp X N scope ⟨fR X.env.cells scope.names [],F.heap.objs.size,F,H0,fp,aa⟩) ([]++pl) a H' c->te a H' Q' ->
   af0 #[1] X.A (eval elt (compEnvC scope (fR X.env.cells scope.names []) F.heap.objs.size X.env)) (EP (jp X N scope ⟨fR X.env.cells scope.names [],F.heap.objs.size,F,H0,fp,aa⟩) ([]++pl) a Q') (notedBy #[1] X.A (compEnvC scope (fR X.env.cells scope.names []) F.heap.objs.size X.env) fun e s''=>X.tn<=s''.toks->RR (.ref acc) F.heap.objs.size (.error e) s'') c)
  (I:Inv X aa Y H s) (T:Turn X.prog X.w X.K tg J fp it tn) (st:tn 0 s.heap) (O:∀b∈fp,eZ X aa H b) (q:xy g tt te J (m5 ix Y) H Q)
  (hRR:∀(acc C:aga)(H':Hp)(c:MK),Inv X aa Y H' c->(∃m,c.heap.Ns C m)->H' C=L->eZ X aa H' C->Q (.ref acc) H'->RR (.ref acc) C (.ok .next) c):
  af0 #[1] X.A (newList []) (fun acc s₃=>af0 #[1] X.A (newFunctionEnv scope X.env.globals (fR X.env.cells scope.names []) [] X.env.qual L .none<|Z X.env) (fun B s₄=>
   ajR #[1] X.A (.compStart #[6] 0 (.ref it) acc {B with scope:=relabel scope X.env}) (RR acc B.locals) s₄) E s₃) E s:=by
 refine agV<|wpAny_newFunctionEnv S.nocell (by intro y hy;simp at hy) (fun D j k=>?_) S.kind;dsimp only at j k⊢
 have I3:Inv X aa Y (upd H s.heap.objs.size<|.lst []) {s with heap:=s.heap.push {cls:=.type "list",dict:=L,data:=.seq ([]:alw).toArray}}:=
  I.laid (t':=s.toks) (fun b o e=>eQ _ e) (nE _) (show cQ X.prog X.w _ _ _ (.lst [])from⟨acr _,[],_,.nil,ID _ rfl⟩)
 have hacc:H s.heap.objs.size=L:=I.hok.fresh<|nE _;have hfo:∀b∈fp,∃o,s.heap.get? b=Z o:=fun b hb=>let⟨o,e,_⟩:=T.obj 0 _ st b hb;⟨o,e⟩;have fne:∀b∈fp,b≠s.heap.objs.size:=fun b hb=>let⟨o,e⟩:=hfo b hb;af7 (OR e);have l:∀b∈fp,eZ X aa (upd H s.heap.objs.size<|.lst []) b:=fun b hb=>⟨by rw[aF<|fne b hb];exact(O b hb).1,(O b hb).2⟩;let⟨W,⟨m0,w0⟩,mD⟩:=q s.heap.objs.size hacc
 generalize hH2:s.heap.push {cls:=.type "list",dict:=L,data:=.seq ([]:alw).toArray}=h2 at *;have G:∀b o,h2.get? b=Z o->D.get? b=Z o:=fun b o e=>k.extBut b o (af7<|OR e)<|eQ _ e;have P:∀b o,s.heap.get? b=Z o->h2.get? b=Z o:=fun b o e=>by rw[<-hH2];exact eQ _ e
 have fin:∀s₄:MK,s₄={s with heap:=D,toks:=s₄.toks}->X.tn<=s₄.toks->ajR #[1] X.A (.compLoop #[6] 0 (.ref it) #[13]<|compEnvC scope (fR X.env.cells scope.names []) h2.objs.size X.env)
   (RR #[13] h2.objs.size) s₄:=by
  intro s₄ e4 ht4;refine fH ht4 ?_;have J0:Inv (jp X N scope ⟨fR X.env.cells scope.names [],h2.objs.size,{s with heap:=h2},upd H s.heap.objs.size<|.lst [],fp,aa⟩) [] (m5 ix Y) (upd H s.heap.objs.size<|.lst []) s₄:=
   Mt (s:={s with heap:=h2}) I3 hE hO S l (fun b hb=>let⟨o,e⟩:=hfo b hb;⟨o,P b o e⟩) j G e4
  generalize hX:jp X N scope ⟨fR X.env.cells scope.names [],h2.objs.size,{s with heap:=h2},upd H s.heap.objs.size<|.lst [],fp,aa⟩=Yq0 at J0;have eE:compEnvC scope (fR X.env.cells scope.names []) h2.objs.size X.env=Yq0.env:=by rw[<-hX];rfl
  have eP:X.prog=Yq0.prog:=by rw[<-hX];rfl
  have eW:X.w=Yq0.w:=by rw[<-hX];rfl
  have eA:X.A=Yq0.A:=by rw[<-hX];rfl
  have eK:X.K=Yq0.K:=by rw[<-hX];rfl
  have eC:Yq0.calm=U:=by rw[<-hX];exact hc
  have T':Turn Yq0.prog Yq0.w Yq0.K tg J fp it tn:=by rw[<-eP,<-eW,<-eK];exact T
  have Rk:tn 0 s₄.heap:=T.keep _ _ _ st fun b hb o e=>by rw[e4];exact G b o<|P b o e
  have R:∀{H':Hp},(∀b∈fp,H' b=L)->∀b∈fp,eZ Yq0 [] H' b:=fun{H'}hn b hb=>by
   rw[<-hX];have f:=O b hb;refine⟨hn b hb,?_,?_,.inl hb,?_,?_⟩
   .have:=J0.ok.exf b (by rw[<-hX];exact hb)
    rw[<-hX]at this;exact this.1
   .have:=J0.ok.exfs b (by rw[<-hX];exact hb)
    rw[<-hX]at this;exact this
   .have:=J0.ok.exf b (by rw[<-hX];exact hb)
    rw[<-hX]at this;exact this.2
   .intro p hp;have hp':p∈X.pn++aa:=by
     rcases BY.mp hp with z|z
     .exact z
     .cases z
    exact f.2.2.2.2.2 p hp'
  have accne:s.heap.objs.size∉fp:=fun z=>fne _ z rfl;have h:∀e c,Yq0.xe e c->False:=by rw[<-hX];exact fun _ _ z=>z
  have hgY:PG Yq0 tg g:=by rw[<-hX];exact hg _
  have htY:UY Yq0 ifs tt:=by rw[<-hX];exact ht _
  rw[eE,eP,eW,eA];refine wE (fun n c=>∃i a H',Inv Yq0 [] a H' c/\tn i c.heap/\(∀b∈fp,H' b=L)/\W i n a H') ?_ m0 ⟨0,m5 ix Y,_,J0,Rk,fun b hb=>(l b hb).1,w0⟩;intro n s5 q_;refine Z34 q_ fun i σ5 H5 I5 st5 fr5 w5=>?_;rcases mD i n σ5 H5 w5 with⟨stop,qn⟩|⟨go,M,hM,step⟩
  .refine bX (T'.done Yq0 rfl rfl rfl eC i [] s5 σ5 H5 _ I5 (R fr5) st5 stop) fun r s6⟨hr,I6⟩=>?_;subst hr;have I6':=I6;rw[<-hX]at I6';intro htk;let⟨a1,a2,a3,a4⟩:=Jl (s:={s with heap:=h2}) I3 l I6' htk
   exact hRR _ _ H5 s6 a1 a2 a3 a4 qn
  .refine bX (T'.item Yq0 rfl rfl rfl eC i [] s5 σ5 H5 _ I5 (R fr5) st5 go) fun r s6⟨u,hr,h6⟩=>?_;subst hr;refine bX h6 fun _ s7 q_=>Z25 q_ fun x H7 I7 r7 y7 st7 fr7=>?_;have I7':=I7.pinned (R fr7)<|T.obj _ _ st7;refine agE (hgY _ s7 σ5 H7 x u _ I7' r7<|step x H7 y7) (fun _ s8 q_=>Z22 q_ fun σ8 H8 I8 q8=>?_) fun e c z=>(h e c z).elim;refine agE (htY _ s8 σ8 H8 _ I8 q8) (fun ok s9⟨H9,I9,q9⟩=>?_) fun e c z=>(h e c z).elim;have again:∀{t:St}{Ha:Hp}{sa:MK},Inv Yq0 ([]++mL fp s7.heap) t Ha sa->M t Ha->∃m,m<n/\∃i a H',Inv Yq0 [] a H' sa/\tn i sa.heap/\(∀b∈fp,H' b=L)/\W i m a H':=fun{t Ha sa}Ia na=>by
    let⟨m',hm,wa⟩:=hM t Ha na
    refine⟨m',hm,i+1,t,Ha,Ia.unpinned,T.keep _ _ _ st7 fun b hb o e=>(Ia.pin (b,o)<|afX _<|afX _<|fm hb e).1,fun b hb=>?_,wa⟩;let⟨o,e,d⟩:=T.obj _ _ st7 b hb
    exact(Ia.pin (b,o)<|afX _<|afX _<|fm hb e).2.1
   cases ok with
   |false=>
    rw[alj Le]at q9⊢;exact again I9 q9
   |true=>
    rw[ali rfl]at q9⊢;have V:=I9;rw[<-hX]at V;rw[<-eP,<-eW,<-eA,<-eE];refine agE (he {s with heap:=h2} _ _ s9 σ8 H9 _ _ I3 l (fun b hb=>let⟨o,e,d⟩:=T.obj _ _ st7 b hb;⟨o,fm hb e⟩) V q9) (fun y sb q_=>Z23 q_ fun vb Hb Ib' rb q_=>Z13 q_ fun xs hx hz nb=>?_) fun _ _ z=>z;have Ib:Inv Yq0 ([]++mL fp s7.heap) σ8 Hb sb:=by rw[<-hX];exact Ib'
    rw[eP,eW,eA];refine agE (pY (X:=Yq0) _ sb σ8 Hb #[13] [vb] #[13] [y] (fun v H'=>M σ8 H') Ib rfl (.cons rb .nil) ⟨s.heap.objs.size,xs,vb,rfl,rfl,hx,hz,nb⟩) (fun _ sc q_=>Z23 q_ fun vc Hc Ic rc nc=>?_) fun e c z=>(h e c z).elim;exact again Ic nc
 exact codeAny_compStart_list (fin _ rfl (by walk_at "tok"))<|T.self _ 0 _ _ _ (T.keep _ _ _ st fun b hb o e=>G b o<|P b o e)<|fin _ rfl (by walk_at "tok")
theorem Ln(S:CScope osc ON N ix scope)(k:X.env.scope=osc)(l:X.N=ON)(E:X.calm=U)(D:PI X tg iter wi)(hg:∀b,PG #[15] tg g)(t:∀b,UY #[15] ifs tt)(n:∀b,PE #[15] elt te)
  (hs:autoParam (∀x,agU iter X.env x=pure x) Xcx):PE X #[6]<|C7 ix wi g tt te:=by
 intro F s Y H Q I h;have a:∀y∈scope.names,y.2=.free->∃c,X.env.cells.lookup y.1=Z c:=fun y hy e=>I.ok.has y.1 (by subst k;exact S.outs y hy e);refine wpAny_comprehension_free rfl hs (jW a) S.kind S.names (bX (D F s Y H _ I h) fun v G h1=>bX h1 fun A O h2=>?_);refine Z56 h2 fun it V tn J R e r T d p q=>?_;subst e;refine vY S k l E hg t (fun P M pl j f H' u acc _ _ _ i q'=>agE (n _ _ j f H' u i q') (fun _ _ z=>z) fun _ _ z=>z.elim) r T d p q fun acc C H' j i hn K B q'=>?_;let⟨m,hn⟩:=hn
 refine⟨m,hn,fun h' w=>⟨.ref acc,H',?_,rfl,q'⟩⟩;let⟨f0,f1,f2',f3,f4,f5⟩:=B
 exact i.turned (fun b o hb e=>(w.2 b hb).trans e) f0 f1 f3 f4 f5
theorem AS{spos pos':Pos}(P:X.N.Nodup)(Q:X.N[i]?=Z x)(R:Loc X.env.scope x)(S:CScope osc ON N ix scope)(p:X.env.scope=osc)(B:X.N=ON)(hc:X.calm=U)(hi:PI X tg iter wi)(hg:∀b,PG #[15] tg g)(M:∀b,UY #[15] ifs tt)(F:∀b,PE #[15] elt te)
  (n:autoParam (ahj #[6] (Z<|.Name x pos') spos.line X.env=pure U) Xaz)
  (O:autoParam #[3] Xcz)
  (hs:autoParam (∀x,agU iter X.env x=pure x) Xcx):PS X (.Assign [.Name x pos'] #[6] spos)<|xb (C7 ix wi g tt te)<|ms i:=by
 intro w s Y H D I h;rw[exec_Assign_Name_used _ _ _ _ n];refine bY<|wpAny_standAt<|bY ?_;have a:∀y∈scope.names,y.2=.free->∃c,X.env.cells.lookup y.1=Z c:=fun y hy e=>I.ok.has y.1 (by subst p;exact S.outs y hy e);refine bY (agE (wpAny_comprehension_free rfl hs (jW a) S.kind S.names
  (bX (hi w s Y H _ I h) fun v s1 h1=>bX h1 fun itv s2 h2=>?_)) (fun _ d E=>lT (lT E)) fun _ _ e=>e)
 refine Z56 h2 fun it fp tn J t e G T j K q=>?_;subst e;refine vY S p B hc hg M (fun s0 H0 pl d k H' V acc _ _ _ l q'=>agE (F _ _ d k H' V l q') (fun _ _ z=>z) fun _ _ z=>z.elim) G T j K q fun acc C H' d l hn hC r q'=>?_;let⟨m,hn⟩:=hn
 have f:∃o,d.heap.get? C=Z o/\∀v,o.data≠.cell v:=by
  let⟨o,es,ep,ho,hd,_⟩:=hn
  grind
 have only:∀b∈[C],b=C:=fun b hb=>by simpa using hb
 have I1:=l.pinned (fun b hb=>(only b hb)▸r) fun b hb=>(only b hb)▸f;refine agE (Cb P Q R O (w++mL [C] d.heap) d Y H' (.ref acc) (.ref acc) D.nx I1 rfl q') (fun _ s'' q_=>Z22 q_ fun σ2 t I2' q2=>?_) fun _ _ z=>z;let⟨o,ho,hd⟩:=f
 have A:=I2'.pin (C,o)<|afX _<|afX _<|fm ∅ ho;refine⟨m,hn.at' fun o' e=>by simp_all,fun h' W=>⟨σ2,t,?_,q2⟩⟩;let⟨f0,f1,f2',f3,f4,f5⟩:=r
 exact I2'.unpinned.turned (fun b o hb e=>(W.2 b hb).trans e) A.2.1 f1 f3 f4 f5
end
theorem tJ{K:aT}{St:Nat->aij->Prop}(W:∀A:ahU,A.handled=L->Walks P w A it [it] [it] n Pv St)
  (p:∀i h,St i h->∃(o:Obj)(nm:String)(vs:Array By),h.get? it=Z o/\o.cls=.type nm/\o.data=.fields vs/\["enumerate","zip","dict_itemiterator","dict_reverseitemiterator","odict_iterator","itertools.zip_longest","itertools.pairwise"].contains nm=η)
  (go:∀i H,J.go i H->i<n) (r:∀i H u,J.go i H->Pv i u->∃x,a7 x u/\J.yld i H x H) (l:∀i h H,J.stop i H->St i h->St n h)
  (self:∀(A:ahU)(i:Nat)(s:MK)(Q:als)(E:als),St i s.heap->Q (.ref it) s->af0 (af6 P w) A (ald<|.ref it) Q E s):Turn P w K tg J [it] it St where
 mem:=∅
 obj:=fun i h st b hb=>by
  grind
 keep:=fun i h h' st k=>(W {} rfl).frame i h h' st fun b hb o e=>k b hb o e
 item:=by
  intro X q hw j g i t s Y H E I c st hg;let⟨f0,f1,f2,f3,f4,f5⟩:=c it ∅
  refine aP I.tk<|(W X.A<|I.ok.hd g).item i s _ _ (go i H hg) st fun v h' tk m a d f=>?_;have I1  := I.turned (fun b o hb e=>d b o (by simpa using hb) e) f0 f1 f3 f4 f5;let⟨x,rx,yx⟩:=r i H v hg m
  let⟨o,nm,vs,h1,h2,h3,h4⟩:=p (i+1) h' a
  exact⟨v,rfl,zn h1 h2 h3 h4 ⟨x,H,I1,rx,yx,a,fun b hb=>(c b hb).1⟩⟩
 done:=by
  intro X q hw j g i t s Y H E I c st hg;let⟨f0,f1,f2,f3,f4,f5⟩:=c it ∅
  exact aP I.tk<|(W X.A<|I.ok.hd g).done s _ _ (l i s.heap H hg st) fun h' tk d f=>⟨rfl,I.turned (fun b o hb e=>d b o (by simpa using hb) e) f0 f1 f3 f4 f5⟩
 self:=self
def Z5(z:Str):It:=⟨fun i _=>i<z.length,fun i H x H'=>H'=H/\∃c,z.cps[i]?=Z c/\x=.str ⟨#[c]⟩,fun i _=>i=z.length⟩
theorem Kx(h:SignAt z i u):∃x,a7 x u/\(Z5 z).yld i H x H:=by
 obtain⟨c,t,a,rfl⟩:=h;exact⟨.str ⟨#[c]⟩,⟨t,rfl⟩,rfl,c,a,rfl⟩
theorem NC(bs:List Bool):(agj bs.length).all (fun i=>(bs[i]?).getD U)=bs.all id:=by
 rw[ago,agz,agz];constructor
 .intro h b hb;let⟨i,hi,e⟩:=List.getElem_of_mem hb
  mright
 .intro h i hi;have a:=agO.mp hi;rw[lE a];exact h _<|afV a
section
variable{X:Cx}
def Ug(K:aT)(xs:alx)(H:Hp)(Q:VK):Prop:=match xs with
 |[.ref p]=>∃bs:List Bool,dF K H p (bs.map V.bl)/\Q (.bl<|bs.all id) H
 |_=>False
theorem KD(K:aT)(n:X.calm=U)(f:autoParam (X.K=K) Xaz):bF X (.builtin "all")<|Ug K:=by
 subst f;intro t s Y H xs us Q I r h;unfold Ug at h;cbv
 case h_2=>mleft
 rename_i p;let⟨bs,hq,q⟩:=h
 obtain⟨u,rfl,m⟩:=f7 r;cases m;let⟨its,rv,pl,hz⟩:=I.list hq
 have g:X.A.in1.handled=L:=I.ok.hd n;refine aP I.tk<|call_all_walk<|wpAny_pyIter_list pl.isList ?_;have c:p≠s.heap.objs.size:=by
  let⟨o,ho,_⟩:=pl.isList
  exact af7<|OR ho
 refine⟨s.heap.objs.size,[s.heap.objs.size,p],[s.heap.objs.size],its.toArray.size,_,_,fun i=>(bs[i]?).getD U,rfl,Walks.list g _ p c its.toArray,⟨⟨_,ID _ rfl,rfl,rfl⟩,Heap.IsList.push pl.isList _⟩,?_,?_⟩
 .intro i v s' Q' E' hv hQ';have hv'  := by simpa using hv
  have hi  := (af1.mp hv').1;have a:=rv.length;rw[iF]at a;have hb:(bs.map V.bl)[i]?=Z (V.bl bs[i]):=by
   grind
  let⟨u,hu,ru⟩:=rv.get hb
  rw[hv']at hu;cases hu;cases ru;have d:Q' bs[i] s':=by
   mright
  exact ahR d
 .intro h' tk hk;have l:Inv X t Y H {s with heap:=s.heap.push {cls:=.type "list_iterator",data:=.fields #[.ref p,.int 0 0]}}:=I.kept fun b o e=>eQ _ e;have j:(agj its.toArray.size).all (fun i=>(bs[i]?).getD U)=bs.all id:=by
   have a:=rv.length;rw[iF]at a;rw[af3,<-a];exact NC bs
  rw[j];let⟨f0,f1,f2,f3,f4,f5⟩:=I.fpOk (nE _)<|I.hok.fresh<|nE _
  exact fun k=>⟨.bl<|bs.all id,H,l.turned (fun b o hb e=>hk b o (by simpa using hb) e) f0 f1 f3 f4 f5,rfl,q⟩
end
theorem PE.imp(h:PE X e t)(i:∀Y H Q,t' Y H Q->t Y H Q):PE X e t':=fun a s Y H Q I q=>h a s Y H Q I<|i Y H Q q
theorem dz.imp(h:dz X f r)(i:∀x y H Q,r' x y H Q->r x y H Q):dz X f r':=fun c s Y H x y v u Q I a b q=>h c s Y H x y v u Q I a b<|i x y H Q q
theorem OC.imp(h:OC X f r)(i:∀x H Q,r' x H Q->r x H Q):OC X f r':=fun b s Y H x v Q I a q=>h b s Y H x v Q I a<|i x H Q q
theorem bF.imp(h:bF X f r)(i:∀xs H Q,r' xs H Q->r xs H Q):bF X f r':=fun b s Y H xs us Q I a q=>h b s Y H xs us Q I a<|i xs H Q q
theorem EK.imp(h:EK X r)(i:∀x y H Q,r' x y H Q->r x y H Q):EK X r':=fun value a d s Y H x y v u Q I c b q hs=>h value a d s Y H x y v u Q I c b (i x y H Q q) hs
theorem Aa.imp(h:Aa X r)(i:∀x l u H Q,r' x l u H Q->r x l u H Q):Aa X r':=fun g s Y H x v d b lo a c Q I f hs pl e q=>h g s Y H x v d b lo a c Q I f hs pl e<|i x lo a H Q q
section
variable{X:Cx}{a b:agR}{ta tb:TE}{pos:Pos}{rest:List agR}
def kT(o:Option<|Option V)(H:Hp)(Q:VK):Prop:=match o with
 |some (Z v)=>Q v H
 |_=>False
def uT(i:Nat):TE:=fun Y H Q=>kT Y[i]? H Q
theorem qv(i:Nat)(d:autoParam (X.N[i]?=Z x) Xaz)(c:autoParam #[25] Xbz)(b:autoParam (alz x) Xax)
  (a:autoParam (#[5]=η) Xax):PE X (.Name x pos)<|uT i:=(HR d c b a).imp fun Y H Q q=>by
 unfold uT kT at q;split at q
 .rename_i v e;exact⟨v,e,q⟩
 .exact q.elim
def acW(tb:TE)(Y:St)(Q:VK):VK:=fun x H1=>match x with
 |.bl c=>if c=U then tb Y H1 Q else Q (.bl η) H1
 |_=>False
def aa2(ta tb:TE):TE:=fun Y H Q=>ta Y H<|acW tb Y Q
def kOr(tb:TE)(Y:St)(Q:VK):VK:=fun x H1=>match x with
 |.bl c=>if c=U then Q (.bl U) H1 else tb Y H1 Q
 |_=>False
def uOr(ta tb:TE):TE:=fun Y H Q=>ta Y H<|kOr tb Y Q
def aaq(Q:VK):VK:=fun x H1=>match x with
 |.bl c=>Q (.bl<|!c) H1
 |_=>False
def acF(ta:TE):TE:=fun Y H Q=>ta Y H<|aaq Q
def Wo(Q:Bool->Hp->Prop):VK:=fun x H'=>match x with
 |.bl k=>Q k H'
 |_=>False
def XD(t:TE):TT:=fun Y H Q=>t Y H<|Wo Q
def ab1(K:aT)(Q:Bool->Hp->Prop):VK:=fun x H=>match x with
 |.non=>Q η H
 |.bl b=>Q b H
 |.int i=>Q (i != 0) H
 |.str y=>y.length<=afT/\Q ((y.length:Int) != 0) H
 |.ref p=>((∃xs,dF K H p xs/\Q (!xs.isEmpty) H)\/(∃xs,hV K H p xs/\Q (!xs.isEmpty) H))\/∃a,H p=Z (.dK a)/\Q (!a.isEmpty) H
 |_=>False
def HI(K:aT)(ta:TE):TT:=fun Y H Q=>ta Y H<|ab1 K Q
theorem Kt(K:aT)(g:PE X a ta)(m:∀c,isTrue a X.env c=(do let v <-c;aky a.pos;holding [v] (truthy v)))(f:autoParam (X.K=K) Xaz):
  PT X a (HI K ta):=by
 subst f;intro e s Y H Q I h;refine isTrue_plain (bX (g e s Y H _ I h) fun v j k=>iW k fun x H1 l r1 d=>SV e j Y H1 x v Q l r1 ?_)<|m _;cases x with
 |non=>exact⟨_,rfl,d⟩
 |bl b=>exact⟨_,rfl,d⟩
 |int i=>exact⟨_,rfl,d⟩
 |str y=>exact⟨_,⟨d.1,rfl⟩,d.2⟩
 |ref p=>
  rcases d with(⟨xs,h1,h2⟩|⟨xs,h1,h2⟩)|⟨xs,h1,h2⟩
  .exact⟨_,.inl ⟨xs,h1,rfl⟩,h2⟩
  .exact⟨_,.inr<|.inl ⟨xs,h1,rfl⟩,h2⟩
  .exact⟨_,.inr<|.inr ⟨xs,h1,rfl⟩,h2⟩
 |_=>exact d.elim
def U7:R2:=fun x y H Q=>match x,y with
 |.int i,.int j=>Q (.int<|i-j) H
 |_,_=>False
theorem aa0:dz X (ahh .Sub) U7:=SD.imp fun x y H Q q=>by
 unfold U7 at q;split at q
 .exact⟨_,_,rfl,rfl,q⟩
 .exact q.elim
def X3:R2:=fun x y H Q=>match x,y with
 |.int i,.int j=>Hh i j/\Q (.int<|i/j) H
 |_,_=>False
theorem aak:dz X (ahh .FloorDiv) X3:=MN.imp fun x y H Q q=>by
 unfold X3 at q;split at q
 .exact⟨_,_,rfl,rfl,q.1,q.2⟩
 .exact q.elim
def Zj:R2:=fun x y H Q=>match x,y with
 |.int i,.int j=>0<j/\Q (.int<|i%j) H
 |_,_=>False
theorem ac1:dz X (ahh .Mod) Zj:=Ux.imp fun x y H Q q=>by
 unfold Zj at q;split at q
 .exact⟨_,_,rfl,rfl,q.1,q.2⟩
 .exact q.elim
def ZG:R2:=fun x y H Q=>match x,y with
 |.int i,.int j=>KN i j/\Q (.int<|i^j.toNat) H
 |_,_=>False
theorem aaU:dz X (ahh .Pow) ZG:=Uc.imp fun x y H Q q=>by
 unfold ZG at q;split at q
 .exact⟨_,_,rfl,rfl,q.1,q.2⟩
 .exact q.elim
def Ze(x:V)(H:Hp)(Q:VK):Prop:=match x with
 |.int i=>Q (.int<|-i) H
 |_=>False
theorem aa3:OC X (unaryOp .USub) Ze:=Q1.imp fun x H Q q=>by
 unfold Ze at q;split at q
 .exact⟨_,rfl,q⟩
 .exact q.elim
theorem E8:dz X (agf .LtE) (fun x y H Q=>∃i j,x=.str i/\y=.str j/\Q (.bl<|!decide (j.cps.toList<i.cps.toList)) H):=by
 intro c s Y H x y v u Q I b a h;obtain⟨i,j,rfl,rfl,q⟩:=h;obtain⟨t,rfl⟩:=b;obtain⟨t',rfl⟩:=a;exact P.le_str<|aR I q rfl
theorem FX:dz X (agf .GtE) (fun x y H Q=>∃i j,x=.str i/\y=.str j/\Q (.bl<|!decide (i.cps.toList<j.cps.toList)) H):=by
 intro c s Y H x y v u Q I b a h;obtain⟨i,j,rfl,rfl,q⟩:=h;obtain⟨t,rfl⟩:=b;obtain⟨t',rfl⟩:=a;exact P.ge_str<|aR I q rfl
theorem Gp:dz X (agf .Gt) (fun x y H Q=>∃i j,x=.str i/\y=.str j/\Q (.bl<|decide (j.cps.toList<i.cps.toList)) H):=by
 intro c s Y H x y v u Q I b a h;obtain⟨i,j,rfl,rfl,q⟩:=h;obtain⟨t,rfl⟩:=b;obtain⟨t',rfl⟩:=a;exact P.gt_str<|aR I q rfl
def abD:R2:=fun x y H Q=>match x,y with
 |.int i,.int j=>Q (.bl<|decide (i<j)) H
 |.str i,.str j=>Q (.bl<|decide (i.cps.toList<j.cps.toList)) H
 |_,_=>False
def acw:R2:=fun x y H Q=>match x,y with
 |.int i,.int j=>Q (.bl<|decide (i<=j)) H
 |.str i,.str j=>Q (.bl<|!decide (j.cps.toList<i.cps.toList)) H
 |_,_=>False
def ab3:R2:=fun x y H Q=>match x,y with
 |.int i,.int j=>Q (.bl<|decide (j<i)) H
 |.str i,.str j=>Q (.bl<|decide (j.cps.toList<i.cps.toList)) H
 |_,_=>False
def ac9:R2:=fun x y H Q=>match x,y with
 |.int i,.int j=>Q (.bl<|decide (j<=i)) H
 |.str i,.str j=>Q (.bl<|!decide (i.cps.toList<j.cps.toList)) H
 |_,_=>False
theorem aei:dz X (agf .Lt) abD:=(WG.or EJ).imp fun x y H Q q=>by
 unfold abD at q;split at q
 .exact .inl ⟨_,_,rfl,rfl,q⟩
 .mright
 .exact q.elim
theorem afK:dz X (agf .LtE) acw:=(Zr.or E8).imp fun x y H Q q=>by
 unfold acw at q;split at q
 .exact .inl ⟨_,_,rfl,rfl,q⟩
 .mright
 .exact q.elim
theorem aeH:dz X (agf .Gt) ab3:=(Yi.or Gp).imp fun x y H Q q=>by
 unfold ab3 at q;split at q
 .exact .inl ⟨_,_,rfl,rfl,q⟩
 .mright
 .exact q.elim
theorem afL:dz X (agf .GtE) ac9:=(Xk.or FX).imp fun x y H Q q=>by
 unfold ac9 at q;split at q
 .exact .inl ⟨_,_,rfl,rfl,q⟩
 .mright
 .exact q.elim
theorem Kq:dz X (agf .Is) (fun x y H Q=>∃j,y=.bl j/\Q (.bl<|decide (x=.bl j)) H):=by
 intro c s Y H x y v u Q I a b h;obtain⟨j,rfl,q⟩:=h;cases b;cases x with
 |bl i=>cases a;exact ahE rfl (aR I q<|⊥)
 |non=>cases a;exact ahE rfl #[11]
 |int i=>obtain⟨t,rfl⟩:=a;exact ahE rfl #[11]
 |str i=>obtain⟨t,rfl⟩:=a;exact ahE rfl #[11]
 |byt i=>obtain⟨t,rfl⟩:=a;exact ahE rfl #[11]
 |flt i=>obtain⟨t,rfl⟩:=a;exact ahE rfl #[11]
 |ref i=>cases a;exact ahE rfl #[11]
 |ty i=>cases a;exact ahE rfl #[11]
noncomputable def LI:V->V->Bool
 |.non,.non=>U
 |.bl i,.bl j=>i==j
 |_,_=>η
def aaz:R2:=fun x y H Q=>match y with
 |.non=>Q (.bl<|LI x .non) H
 |.bl j=>Q (.bl<|LI x<|.bl j) H
 |_=>False
theorem Oi(x:V):decide (x=.non)=LI x .non:=by cases x<;>simp[LI]
theorem T3(x:V)(j:Bool):decide (x=.bl j)=LI x (.bl j):=by
 cases x with
 |bl i=>cases i<;>cases j<;>rfl
 |_=>simp[LI]
theorem afy:dz X (agf .Is) aaz:=(UA.or Kq).imp fun x y H Q q=>by
 unfold aaz at q;split at q
 .exact .inl ⟨rfl,by rw[Oi];exact q⟩
 .exact .inr ⟨_,rfl,by rw[T3];exact q⟩
 .exact q.elim
def Zv(K:aT):R2:=fun x y H Q=>match x,y with
 |.str z,.int i=>∃c,z.length<=afT/\atI z.cps.toList i=Z c/\Q (.str ⟨#[c]⟩) H
 |.ref p,.int i=>∃xs v,(dF K H p xs\/hV K H p xs)/\atI xs i=Z v/\Q v H
 |_,_=>False
theorem ae2(K:aT)(b:autoParam (X.K=K) Xaz):EK X<|Zv K:=by
 subst b;exact(Tp.imp fun x y H Q q=>by
   unfold Zv at q;split at q
   .let⟨c,h1,h2,a⟩:=q
    exact .inr (.inr ⟨_,_,c,rfl,rfl,h1,h2,a⟩)
   .obtain⟨xs,v,h1|h1,h2,a⟩:=q
    .exact .inl ⟨_,xs,_,v,rfl,rfl,h1,h2,a⟩
    .exact .inr (.inl ⟨_,xs,_,v,rfl,rfl,h1,h2,a⟩)
   .exact q.elim)
def TQ(K:aT)(xs:alx)(H:Hp)(Q:VK):Prop:=match xs with
 |[.str y]=>y.length<=afT/\Q (.int y.length) H
 |[.ref p]=>∃ys,(dF K H p ys\/hV K H p ys)/\Q (.int ys.length) H
 |_=>False
theorem YE(K:aT)(a:autoParam (X.K=K) Xaz):bF X (.builtin "len")<|TQ K:=by
 subst a;exact((xJ.or xN).imp fun xs H Q q=>by
   unfold TQ at q;split at q
   .mright
   .mright
   .exact q.elim)
def Zp(xs:alx)(H:Hp)(Q:VK):Prop:=match xs with
 |[.int i]=>Q (.int<|if i<0 then -i else i) H
 |_=>False
theorem acl:bF X (.builtin "abs") Zp:=Ju.imp fun xs H Q q=>by
 unfold Zp at q;split at q
 .mright
 .exact q.elim
def Zx(xs:alx)(H:Hp)(Q:VK):Prop:=match xs with
 |[.int i]=>Q (.int i) H
 |[.bl k]=>Q (.int<|if k=U then 1 else 0) H
 |_=>False
theorem adn:bF X (.type "int") Zx:=F6.imp fun xs H Q q=>by
 unfold Zx at q;split at q
 .mright
 .mright
 .exact q.elim
end
noncomputable def az:agR->Bool
 |.Starred ..=>η
 |_=>U
theorem bn(h:az e=U):afY (e::es) env=(η,eval e env)::afY es env:=by
 cases e<;>first|rfl|nofun
theorem c7:∀{es:List agR},es.all az=U->(ahP pos<|afY es env).any (·.1)=η:=@bb _ _ (fun _=>rfl) fun e es i h=>by
  rw[agJ,afU]at h;rw[bn h.1];have a:=i h.2;assumption
theorem N8(a:PE X e te)(hr:PA X es t)(hn:autoParam (az e=U) Xaz):PA X (e::es)<|oA te t:=Oj a hr<|bn hn
section
variable{p pos:Pos}{id:String}
theorem acg(f:bF X (.builtin id) r)(b:X.mg x=L)(c:af9 x=Z (.builtin id))(d:PA X (e::es) t)(hg:autoParam (Gl X x) Xaz)(h1:autoParam (az e=U) Xaz)(h2:autoParam (es.all az=U) Xaz)(hn:autoParam (x≠"__name__") Xax)(a:autoParam (alz x) Xax):
  PE X #[7] (UI r t):=K1 f hg b c d hn a (bn h1)<|c7 h2
theorem ac5(f:bF X (.type T) r)(b:X.mg x=L)(c:af9 x=Z (.type T))(d:PA X (e::es) t)(hg:autoParam (Gl X x) Xaz)(h1:autoParam (az e=U) Xaz)(h2:autoParam (es.all az=U) Xaz)(hn:autoParam (x≠"__name__") Xax)(a:autoParam (alz x) Xax):
  PE X #[7] (UI r t):=Gn f hg b c d hn a (bn h1)<|c7 h2
end
theorem BB:af9 "len"=Z (.builtin "len"):=⊤
theorem mm:af9 "isinstance"=Z (.builtin "isinstance"):=⊤
theorem Ij:af9 "int"=Z (.type "int"):=⊤
theorem lO:af9 "list"=Z (.type "list"):=⊤
theorem sJ:af9 "tuple"=Z (.type "tuple"):=⊤
theorem En:af9 "dict"=Z (.type "dict"):=⊤
theorem TV:af9 "zip"=Z (.type "zip"):=⊤
theorem xM:af9 "enumerate"=Z (.type "enumerate"):=⊤
theorem BM:af9 "set"=Z (.type "set"):=⊤
theorem V6{pos:Pos}(b:X.mg x=L)(c:af9 x=Z (.type n))(hg:autoParam (Gl X x) Xaz)(hn:autoParam (x≠"__name__") Xax)(a:autoParam (alz x) Xax):PE X (.Name x pos)<|tC<|.ty n:=
 OO hg b c rfl hn a
def kF(T C:String):Bool:=T==C||(T=="bool"&&C=="int")
noncomputable def qO(C:String):Bool:=C=="str"||C=="int"||C=="bool"||C=="list"||C=="tuple"||C=="dict"
theorem iq{K:aT}(c:T="NoneType"\/T="bool"\/T="int"\/T="str"\/T="list"\/T="tuple"\/T="dict")(b:qO C=U):ail K (.type T) (.type C)=Z (kF T C):=by
 have a:C="str"\/C="int"\/C="bool"\/C="list"\/C="tuple"\/C="dict":=by
  unfold qO at b
  lia
 rcases c with h|h|h|h|h|h|h<;>subst h<;>rcases a with h|h|h|h|h|h<;>subst h<;>first|rfl|decide +kernel
section
variable{X:Cx}
def ZJ(Q:Option Int->Hp->Prop):VK:=fun x H1=>match x with
 |.int i=>Q (Z i) H1
 |_=>False
def X1(t:TE):TO:=fun Y H Q=>t Y H<|ZJ Q
def nH(z:Str)(lo a:Option Int):Str:=⟨((z.cps.toList.drop<|HT.sIx z.length 0 lo).take<|HT.sIx z.length z.length a-HT.sIx z.length 0 lo).toArray⟩
theorem O0(v:Int)(n d:Nat):max 0 (min (if v<0 then v+(n:Int)else v) (n:Int))=((HT.sIx n d (Z v):Nat):Int):=by
 show _=(((if v<0 then(v+n).toNat else min v.toNat n):Nat):Int)
 grind
theorem loS(lo:Option Int)(n:Nat):(match lo with|none=>(0:Int)|some i=>max 0<|min (if i<0 then i+(n:Int)else i) (n:Int))=((HT.sIx n 0 lo:Nat):Int):=by
 cases lo with
 |none=>rfl
 |some v=>exact O0 v n 0
theorem hiS(a:Option Int)(n:Nat):(match a with|none=>(n:Int)|some i=>max 0<|min (if i<0 then i+(n:Int)else i) (n:Int))=((HT.sIx n n a:Nat):Int):=by
 cases a with
 |none=>rfl
 |some v=>exact O0 v n n
theorem VS(lo a:Option Int)(n:Nat):ahn lo a 1 n=sliceRange ((HT.sIx n 0 lo:Nat):Int) ((HT.sIx n n a:Nat):Int) 1:=by
 rw[<-loS,<-hiS];rfl
theorem aar(a b n:Nat)(c:a<=n)(hb:b<=n):ahn (Z (a:Int)) (Z (b:Int)) 1 n=sliceRange (a:Int) (b:Int) 1:=by
 rw[VS,HT.gH,HT.gH,ahJ c,ahJ hb]
theorem Ca(z:Str)(lo hi:Option Int):Txt.slice z lo hi=nH z lo hi:=by
 have d:=HT.AJ z.length 0 (acr _) lo;have hb:=HT.AJ z.length z.length (nE _) hi;unfold Txt.slice;rw[VS,<-aar _ _ _ d hb];unfold nH;generalize HT.sIx z.length 0 lo=a at d⊢;generalize HT.sIx z.length z.length hi=b at hb⊢;by_cases c:a<=b
 .exact StrLaws.sliceText_nat z c hb
 .have e:ahn (Z a) (Z b) 1 z.length=[]:=by
   have h1:((1:Int) > 0)=True:=∅
   have g:¬((a:Int)<0):=⊥
   have i:¬((b:Int)<0):=⊥
   have f:max 0 (min a z.length)=a:=⊥
   have e2  := by omega
   simp only[ahn,sliceRange,h1,if_true,alj g,alj i,f,e2];rw[alj<|⊥];rfl
  have j:b-a=0:=⊥
  rw[e,j];split
  .rename_i h;have hz  := by
    have h'  := by simpa using h
    exact h'.symm
   apply Str.ext'
   exact Array.eq_empty_of_size_eq_zero hz
  .rfl
theorem rN(z:Str)(lo a:Option Int):(nH z lo a).length<=z.length:=by
 unfold nH;simp[Str.length];lia
theorem Uq:Aa X (fun x lo b H Q=>∃z,x=.str z/\z.length<=afT/\Q (.str<|nH z lo b) H):=by
 intro r s Y H x v B y lo b f Q I p hs pl g h;obtain⟨z,rfl,hz,q⟩:=h;obtain⟨t,rfl⟩:=p;have fin:∀(l u:Option<|Int×Tok),l.map (·.1)=lo->u.map (·.1)=b->s.heap.IsSlice f l u L->af0 #[1] X.A (ajx (.str z t)<|.ref f) (EP X r Y Q) X.xe s:=fun l u m o c=>by
  refine aP I.tk<|wpAny_getItem_str_slice c rfl ?_;subst m o;refine post_val_or_str ?_;have e:(if(((L:Option<|Int×Tok).map (·.1)).getD 1==1&&(slicePicked z l u L).length==z.length)=U then z else⟨((slicePicked z l u L).filterMap (z.cps[·]?)).toArray⟩)=Txt.slice z (l.map (·.1)) (u.map (·.1)):=rfl;rw[e,Ca];exact⟨DO (rN _ _ _) hz,fun t' k n=>⟨.str _,H,I.tok _,⟨t',rfl⟩,q⟩⟩
 refine⟨"str",_,F.slot_str_getitem.lookup,typeIs_str s z t,?_⟩;cases pl with
 |none=>
  cases g with
  |none=>exact fin L L rfl rfl hs
  |int j a=>exact fin L (Z (j,a)) rfl rfl hs
 |int i d=>
  cases g with
  |none=>exact fin (Z (i,d)) L rfl rfl hs
  |int j a=>exact fin (Z (i,d)) (Z (j,a)) rfl rfl hs
def XJ(K:aT)(x:V)(lo b:Option Int)(H:Hp)(Q:VK):Prop:=match x with
 |.str z=>z.length<=afT/\Q (.str<|nH z lo b) H
 |.ref a=>(∃xs,dF K H a xs/\∀p,H p=L->Q (.ref p) (upd H p<|.lst<|zy xs lo b)) \/
  ∃xs,hV K H a xs/\¬(HT.sIx xs.length 0 lo=0/\HT.sIx xs.length xs.length b=xs.length)/\∀p,H p=L->Q (.ref p) (upd H p<|.tup<|zy xs lo b)
 |_=>False
theorem U4:Aa X<|XJ X.K:=(Uq.or<|L5.or R7).imp fun x lo b H Q q=>by
 unfold XJ at q;split at q
 .exact .inl ⟨_,rfl,q.1,q.2⟩
 .rcases q with⟨xs,h1,h2⟩|⟨xs,h1,h2,a⟩
  .exact .inr (.inl ⟨_,xs,rfl,h1,h2⟩)
  .exact .inr (.inr ⟨_,xs,rfl,h1,h2,a⟩)
 .exact q.elim
theorem oSl(K:aT)(a:autoParam (X.K=K) Xaz):Aa X<|XJ K:=by
 subst a;exact U4
variable{tg:agR}
def kIt(K:aT)(R:It->Hp->Prop):VK:=fun x H1=>match x with
 |.str z=>R (Z5 z) H1
 |.ref a=>((∃xs,dF K H1 a xs)/\R (aci K a) H1)\/((∃xs,hV K H1 a xs)/\R (aax K a) H1)
 |_=>False
def afx(K:aT)(a:TE):TI:=fun Y H R=>a Y H<|kIt K R
theorem T6(K:aT)(C:PE X l tl)(y:autoParam (X.K=K) Xaz):PI X tg l<|afx K tl:=by
 subst y;intro w s Y H R I h;refine bX (C w s Y H _ I h) fun v g B=>iW B fun x H1 j r1 k=>?_;cases x with
 |str z=>
  obtain⟨t,rfl⟩:=r1;have f:∀b∈[g.heap.objs.size],eZ X w H1 b:=fun b hb=>by
   have e  := by simpa using hb
   subst e;exact j.fpOk (nE _)<|j.hok.fresh<|nE _
  cases ha:z.cps.all (·<128)
  .refine wpAny_pyIter_wide ha ?_;exact⟨g.heap.objs.size,[g.heap.objs.size],_,_,H1,rfl,j.kept fun b o e=>eQ _ e,(fun it z t =>  tJ (fun A n=>Walks.strWide n it z t) (fun i h q_=>Z13 q_ fun o e c d=>⟨o,_,_,e,c,d,∎⟩) (fun i H h=>h) (fun i H u _ h=>Kx h) (fun i h H e st=>by
     have r:i=z.cps.size:=e;rw[<-r];exact st) fun A i s Q E st h=>wpAny_pyIter_striter_wide st h) _ z t,⟨_,ID _ rfl,rfl,rfl⟩,f,k⟩
  .refine wpAny_pyIter_ascii ha ?_;exact⟨g.heap.objs.size,[g.heap.objs.size],_,_,H1,rfl,j.kept fun b o e=>eQ _ e,(fun it z t =>  tJ (fun A n=>Walks.strAscii n it z t) (fun i h q_=>Z13 q_ fun o e c d=>⟨o,_,_,e,c,d,∎⟩) (fun i H h=>h) (fun i H u _ h=>Kx h) (fun i h H e st=>by
     have r:i=z.cps.size:=e;rw[<-r];exact st) fun A i s Q E st h=>wpAny_pyIter_striter_ascii st h) _ z t,⟨_,ID _ rfl,rfl,rfl⟩,f,k⟩
 |ref a=>
  cases r1;have f:∀b∈[g.heap.objs.size],eZ X w H1 b:=fun b hb=>by
   have e  := by simpa using hb
   subst e;exact j.fpOk (nE _)<|j.hok.fresh<|nE _
  rcases k with⟨⟨xs,m⟩,q⟩|⟨⟨xs,m⟩,q⟩
  .let⟨its,rv,p,hz⟩:=j.list m
   refine wpAny_pyIter_list p.isList ?_;exact⟨g.heap.objs.size,[g.heap.objs.size],_,_,H1,rfl,j.kept fun b o e=>eQ _ e,Fz a _,⟨_,ID _ rfl,rfl,rfl⟩,f,q⟩
  .let⟨its,rv,p,hz⟩:=j.tuple m
   refine wpAny_pyIter_tuple ((p)) ?_;exact⟨g.heap.objs.size,[g.heap.objs.size],_,_,H1,rfl,j.kept fun b o e=>eQ _ e,B1 a _,⟨_,ID _ rfl,rfl,rfl⟩,f,q⟩
 |_=>exact k.elim
def PY(R:It->Hp->Prop):alx->Hp->Prop:=fun vs H1=>match vs with
 |[.int j]=>(-(2^62)<=j/\j<2^62)/\R (Zc 0 j.toNat) H1
 |_=>False
def Qv(ta:TA):TI:=fun Y H R=>ta Y H<|PY R
theorem FW(hg:Gl X "range")(e:X.mg "range"=L)(c:PA X [a] ta)(hs:autoParam (afY [a] X.env=[(η,eval a X.env)]) Xaz):PI X tg (.Call (.Name "range" p) [a] [] pos)<|Qv ta:=by
 intro i s Y H R I h;refine Call_<|dX I hg e boot_range<|agg (bX (c pos i s Y H _ I h) fun us j d=>iW d fun vs H1 g r1 b=>?_) hs rfl;unfold PY at b;split at b
 .let⟨⟨q2,q3⟩,q⟩:=b
  cases r1 with
  |cons r f=>
   cases f;obtain⟨t,rfl⟩:=r;exact call_range_1 (yI g ⊥ ⊥ q2 q3<|by simpa using q)
 .exact b.elim
def adb(r:Str->alx->Hp->VK->Prop)(z:Str)(Q:VK):alx->Hp->Prop:=fun xs a=>r z xs a Q
def kSM(r:Str->alx->Hp->VK->Prop)(t:TA)(Y:St)(Q:VK):VK:=fun x H1=>match x with
 |.str z=>t Y H1<|adb r z Q
 |_=>False
def afi(r:Str->alx->Hp->VK->Prop)(a:TE)(t:TA):TE:=fun Y H Q=>a Y H<|kSM r t Y Q
def WS(X:Cx)(id:String)(r:Str->alx->Hp->VK->Prop):Prop:=
 ∀(a:alr)(s:MK)(Y:St)(H:Hp)(z:Str)(t:Tok)(xs:alx)(us:alw)(Q:VK),Inv X a Y H s->aY xs us->r z xs H Q ->
  af0 #[1] X.A (call (.builtin id)<|.str z t::us) (EP X a Y Q) X.xe s
theorem YB{apos cpos:Pos}{id:String}(f:Slot "str" name id)(i:typeOf (.builtin id)=pure (.type "method_descriptor"))(u:WS X id r)(w:PE X o to)(q:PA X (e::es) t)
  (b:autoParam #[18] Xaz)
  (d:((ahP cpos<|afY (e::es) X.env).all (fun x=>!x.1)&&(backToKw cpos<|ajg [] X.env).all (fun x=>x.1.isSome)
   && decide ((e::es).length+([]:List ajw).length+(if([]:List ajw).isEmpty then 0 else 1)<30))=U:=by rfl)
  (c:autoParam (#[8]=U) Xaz) (hs:autoParam #[21] Xaz) (a:autoParam ((ahP cpos<|afY es X.env).any (·.1)=η) Xaz):
  PE X (.Call (.Attribute o name apos) (e::es) [] cpos) (afi r to t):=by
 intro j s Y H Q I h;refine wpAny_Call_method_late b d c rfl (bX (w j s Y H _ I h) fun v m g=>iW g fun x H1 B r1 k=>?_);cases x with
 |str z=>
  obtain⟨n,rfl⟩:=r1;refine⟨"str",id,PySem.F.plainAttrs_str,f,i,typeIs_str m z n,(fun _ e=>nomatch e),?_⟩
  have l:=q cpos j m Y H1 _ B k;rw[hs]at l⊢;refine ahs (by show(η||(ahP cpos<|afY es X.env).any (·.1))=η;rw[a]<;>rfl)<|ai0 ?_;exact bX l fun us y g=>iW g fun vs A p r2 C=>u j y Y A z n vs us Q p r2 C
 |_=>exact k.elim
def Ke(K:aT)(z:Str)(xs:alx)(H:Hp)(Q:VK):Prop:=match xs with
 |[.ref p]=>∃ys:alq,dF K H p (ys.map V.str)/\(ys.map (·.length)).sum+ys.length*z.length<=16777216/\Q (.str<|akh z ys) H
 |_=>False
theorem ui:∀{ys:alq}{us:alw},aY (ys.map V.str) us->StrsAre us ys:=@bb _ _ (@fun us r=>by cases r;exact .nil) fun y ys i=>@fun us r=>by
  cases r with
  |cons r a=>
   obtain⟨t,rfl⟩:=r;exact .cons y t (i a)
theorem Nt(K:aT)(a:autoParam (X.K=K) Xaz):WS X "str.join"<|Ke K:=by
 subst a;intro d s Y H z t xs us Q I r h;unfold Ke at h;cbv
 .let⟨ys,hq,hz,q⟩:=h
  obtain⟨u,rfl,c⟩:=f7 r;cases c;let⟨its,rv,p,hz'⟩:=I.list hq
  exact aP I.tk<|join_list p.isList (by simpa using ui rv) hz fun t' k b=>⟨.str<|akh z ys,H,I.tok _,⟨t',rfl⟩,q⟩
 .mleft
end
structure Def(K:aT)(mg:alu)(x:Str)(st:ah9)(ps:alq)(f:aga)(fd:aid):Prop where
 F:Fun K x x st f fd
 b:gu K fd ps []
 m:mg x=Z (.ref f)
section
variable{st:ah9}{p pos:Pos}
def Ir(sp:Sp)(t:TA):TE:=fun Y H Q=>t Y H fun vs H1=>sp vs H1 Q E0
theorem pc(D:Def X.K X.mg x st ps f fd)(G:FnOk X.prog X.w X.K X.mg X.base j8 j f fd ps sp)(hr:Room k X.A)(g:PA X (e::es) t)(l:autoParam (j<=k) Xax)(hg:autoParam (Gl X x) Xaz)(a:autoParam (alz x) Xax)
  (h1:autoParam (az e=U) Xaz) (h2:autoParam (es.all az=U) Xaz):PE X #[7]<|Ir sp t:=by
 have n:afY (e::es) X.env=(η,eval e X.env)::afY es X.env:=bn h1;have c:(ahP pos<|afY es X.env).any (·.1)=η:=c7 h2;intro o s Y H Q I h;refine agi<|jN I hg D.m ?_ a;refine ajo (h₀:=X.base) I.ok.mod.kin D.F.kp (bX (g pos o s Y H _ I h) fun us u i=>iW i fun vs H1 d r q=>⟨d.kIn,?_⟩) n c;exact Ah (dvs:=[]) G (hr.mono l) D.b .nil zr d r (by rw[agh];exact q)
end
theorem aH(h:H p=L)(o:HO):av H<|upd H p o:=fun b u q=>by rw[aF<|bq q h];exact q
theorem av.seqT{K:aT}(e:av H H')(h:hV K H a xs):hV K H' a xs:=by
 rcases h with(h|⟨o,h⟩)|h
 .exact .inl (.inl<|e _ _ h)
 .exact .inl (.inr ⟨o,e _ _ h⟩)
 .exact .inr h
abbrev nu(z:Str):alx:=z.cps.toList.map fun c=>V.str ⟨#[c]⟩
theorem DY(a b:Str):(a++b).cps.toList=a.cps.toList++b.cps.toList:=by
 exact Array.toList_append
theorem str_len(a:Str):a.length=a.cps.toList.length:=by rfl
theorem PP:∀(sep:Str)(ys:alq),(Str.join sep ys).cps.toList=((ys.map fun y:Str=>y.cps.toList).intersperse sep.cps.toList).flatten
 |_,[]=>rfl
 |_,[x]=>by simp[Str.join]
 |sep,x::y::r=>by
  have a:=PP sep<|y::r;show((x++sep)++Str.join sep (y::r)).cps.toList=_;rw[DY,DY,a];simp[af4]
theorem Gg(a:Str)(ys:alq):(akh a ys).cps.toList=((ys.map fun y:Str=>y.cps.toList).intersperse a.cps.toList).flatten:=by
 show(Builtin.Str.glued a ys).cps.toList=_;rw[StrLaws.glued_eq_join,PP]
theorem vw{α:Type}:∀(xs:List<|List α),(xs.intersperse []).flatten=xs.flatten
 |[]=>rfl
 |[x]=>rfl
 |x::y::r=>by
  have a:=vw<|y::r;mright
theorem BD(ys:alq):(akh (afS "") ys).cps.toList=(ys.map fun y:Str=>y.cps.toList).flatten:=by
 rw[Gg];have e:(afS "").cps.toList=[]:=⊤
 rw[e,vw]
theorem Bn(cs:alp):(akh (afS "")<|cs.map fun c=>(⟨#[c]⟩:Str)).cps.toList=cs:=by
 rw[BD];induction cs with
 |nil=>rfl
 |cons c r a=>
  mright
theorem Fu(cs:alp):((cs.map fun c=>(⟨#[c]⟩:Str)).map (·.length)).sum=cs.length:=by
 induction cs with
 |nil=>rfl
 |cons c r a=>
  rw[Do,Do,List.sum_cons,a];show 1+r.length=r.length+1;lia
section
variable{K:aT}
def acb(r:R2)(x:V)(Q:VK):VK:=fun y a=>r x y a Q
def XA(r:R2)(tb:TE)(Y:St)(Q:VK):VK:=fun x H1=>tb Y H1<|acb r x Q
end
structure JE(X:Cx)(e:agR)(t:TE):Prop where
 out:PE X e t
structure JT(X:Cx)(e:agR)(t:TT):Prop where
 out:PT X e t
structure JW(X:Cx)(e:agR)(t:TT):Prop where
 out:PW X e t
structure JA(X:Cx)(es:List agR)(t:TA):Prop where
 out:PA X es t
structure JS(X:Cx)(st:ah9)(t:TS):Prop where
 out:PS X st t
structure JB(X:Cx)(st:List ah9)(t:TS):Prop where
 out:Ly X st t
structure JG(X:Cx)(e:agR)(t:TG):Prop where
 out:PG X e t
structure JGs(X:Cx)(es:List agR)(t:L8):Prop where
 out:Z1 X es t
structure JI(X:Cx)(tg e:agR)(t:TI):Prop where
 out:PI X tg e t
structure JO(X:Cx)(e:Option agR)(t:TO):Prop where
 out:PO X e t
structure JTs(X:Cx)(es:List agR)(t:TT):Prop where
 out:UY X es t
section
variable{X:Cx}{pos:Pos}{rest:List agR}
theorem jv(i:Nat)(d:autoParam (X.N[i]?=Z x) Xaz)(c:autoParam #[25] Xbz)(b:autoParam (alz x) Xax)
  (a:autoParam (#[5]=η) Xax):JE X (.Name x pos)<|uT i:=⟨qv i d c b a⟩
theorem WB:JE X (.Constant (.int i) j pos)<|tC<|.int i:=⟨(fun _ _ _ H _ I h=>wpAny_Constant_int ⟨.int i,H,I.tok _,⟨_,rfl⟩,h⟩)⟩
theorem abm{b j pos}:JE X (.Constant (.bool b) j pos)<|tC<|.bl b:=⟨(fun _ _ _ H _ I h=>Constant_bool ⟨.bl b,H,I,rfl,h⟩)⟩
theorem VN:JE X (.Constant .none j pos)<|tC .non:=⟨(fun _ _ _ H _ I h=>Constant_none ⟨.non,H,I,rfl,h⟩)⟩
theorem Vr:JE X (.Constant (.str x) j pos)<|tC<|.str x:=⟨(fun _ _ _ H _ I h=>Calls.Constant_str ⟨.str x,H,I.tok _,⟨_,rfl⟩,h⟩)⟩
theorem KB(a:X.mg x=Z u)(r:a7 v u)(hg:autoParam (Gl X x) Xaz)(b:autoParam (alz x) Xax):JE X (.Name x pos)<|tC v:=⟨DN hg a r b⟩
theorem acV(b:X.mg x=L)(c:af9 x=Z (.type n))(hg:autoParam (Gl X x) Xaz)(hn:autoParam (x≠"__name__") Xax)(a:autoParam (alz x) Xax):JE X (.Name x pos)<|tC<|.ty n:=⟨V6 b c hg hn a⟩
theorem aaJ(d:dz X (ahh op) r)(c:JE X a ta)(hb:JE X b tb):JE X (.BinOp a op b pos)<|Lw r ta tb:=⟨W8 d c.out hb.out⟩
theorem abH(i:OC X (unaryOp op) r)(g:JE X a ta):JE X (.UnaryOp op a pos)<|tUn r ta:=⟨(by
  intro b s Y H Q I h;exact UnaryOp_ (bX (g.out b s Y H _ I h) fun v c f=>iW f fun x H1 e r1 d=>i b c Y H1 x v Q e r1 d))⟩
theorem Yg(f:JE X a ta):JE X (.UnaryOp .Not a pos)<|acF ta:=⟨(by
  intro g s Y H Q I h;refine UnaryOp_<|bX (f.out g s Y H _ I h) fun v i e=>iW e fun x H1 d r1 b=>?_;cases x with
  |bl c=>
   cases r1;exact not_of<|ahR ⟨.bl<|!c,H1,d,rfl,b⟩
  |_=>exact b.elim)⟩
theorem ZR(h:JE X a ta):JE X (.BoolOp op [a] pos) ta:=⟨RX h.out⟩
theorem W7(g:JE X a ta)(hb:JE X (.BoolOp .And (b::rest) pos) tb):JE X (.BoolOp .And (a::b::rest) pos)<|aa2 ta tb:=⟨(by
  intro f s Y H Q I h;refine BoolOp_and<|bX (g.out f s Y H _ I h) fun v i j=>iW j fun x H1 e r1 d=>?_;cases x with
  |bl c=>
   cases r1;refine ahR ?_;cases c with
   |true=>exact hb.out f i Y H1 Q e d
   |false=>exact⟨.bl η,H1,e,rfl,d⟩
  |_=>exact d.elim)⟩
theorem abX(g:JE X a ta)(hb:JE X (.BoolOp .Or (b::rest) pos) tb):JE X (.BoolOp .Or (a::b::rest) pos)<|uOr ta tb:=⟨(by
  intro f s Y H Q I h;refine BoolOp_or<|bX (g.out f s Y H _ I h) fun v i j=>iW j fun x H1 e r1 d=>?_;cases x with
  |bl c=>
   cases r1;refine ahR ?_;cases c with
   |false=>exact hb.out f i Y H1 Q e d
   |true=>exact⟨.bl U,H1,e,rfl,d⟩
  |_=>exact d.elim)⟩
theorem VE(d:dz X (agf op) r)(c:JE X a ta)(hb:JE X b tb)(e:aiE op b=η):JE X (.Compare a [op] [b] pos)<|Lw r ta tb:=⟨Mq d c.out hb.out e⟩
theorem AX(o:dz X (agf op) r)(l:JE X a ta)(hb:JE X b tb)(n:aiE op b=η):JT X (.Compare a [op] [b] pos)<|XD<|Lw r ta tb:=⟨(by
  intro e s Y H Q I h;refine wpAny_isTrue_Compare1 (bX (l.out e s Y H _ I h) fun v m d=>iW d fun x H1 t r1 g=>bX (hb.out e m Y H1 _ t g) fun u p d=>iW d fun y q j r2 w=>
   bX (o e p Y q x y v u _ j r1 r2 w) fun c B d=>iW d fun z i A r3 f=>?_) n
  cases z with
  |bl k=>
   cases r3;exact ahR ⟨i,A,f⟩
  |_=>exact f.elim)⟩
theorem Xy(g:JT X c tA)(f:JE X a ta)(hb:JE X b tb):JE X (.IfExp c a b pos)<|tIf tA ta tb:=⟨(by
  intro e s Y H Q I h;refine wpAny_IfExp<|bX (g.out e s Y H _ I h) fun d s1⟨H1,I1,q1⟩=>?_;cases d with
  |true=>exact f.out e s1 Y H1 Q I1 q1
  |false=>exact hb.out e s1 Y H1 Q I1 q1)⟩
theorem Nl(b:JT X a tA):JW X (.BoolOp .And [a] pos) tA:=⟨Ng b.out⟩
theorem Tj(b:JT X a tA):JW X (.BoolOp .Or [a] pos) tA:=⟨S3 b.out⟩
theorem Rl(f:JT X a tA)(hb:JW X (.BoolOp .And (b::rest) pos) tB'):JW X (.BoolOp .And (a::b::rest) pos)<|aaK tA tB':=⟨(by
  intro e d s Y H Q I h;refine isTrue_and<|bX (f.out d s Y H _ I h) fun c s1⟨H1,I1,q1⟩=>?_;cases c with
  |true=>exact hb.out e d s1 Y H1 Q I1 q1
  |false=>exact⟨H1,I1,q1⟩)⟩
theorem YV(f:JT X a tA)(hb:JW X (.BoolOp .Or (b::rest) pos) tB'):JW X (.BoolOp .Or (a::b::rest) pos)<|tOr tA tB':=⟨(by
  intro e d s Y H Q I h;refine isTrue_or<|bX (f.out d s Y H _ I h) fun c s1⟨H1,I1,q1⟩=>?_;cases c with
  |true=>exact⟨H1,I1,q1⟩
  |false=>exact hb.out e d s1 Y H1 Q I1 q1)⟩
theorem Uh(b:JT X a tA):JT X (.UnaryOp .Not a pos)<|acL tA:=⟨(by
  intro d s Y H Q I h;exact isTrue_not (b.out d s Y H (fun c H1=>Q (!c) H1) I h))⟩
theorem GH(K:aT)(d:JE X a ta)(e:autoParam (∀b,isTrue a X.env b=(do let v <-b;aky a.pos;holding [v] (truthy v))) Xdx)(c:autoParam (X.K=K) Xaz):JT X a<|HI K ta:=⟨Kt K d.out e c⟩
theorem iM:JA X [] zP:=⟨(fun _ _ _ _ H Q I h=>aic ⟨[],H,I,.nil,h⟩)⟩
theorem eX(a:JE X e te)(hr:JA X es t)(hn:autoParam (az e=U) Xaz):JA X (e::es)<|oA te t:=⟨N8 a.out hr.out hn⟩
theorem VC(h:JA X es t):JE X (.List es pos)<|aan t:=⟨(by
  intro c s Y H Q I a;refine wpAny_List_spliced (bX (h.out pos c s Y H _ I a) fun us s1 q_=>Z24 q_ fun xs H1 I1 r z q=>⟨by rw[<-r.length];exact z,?_⟩);have hf  := I1.hok.fresh (nE _);refine⟨.ref s1.heap.objs.size,upd H1 s1.heap.objs.size (.lst xs),I1.laid (fun b u e=>eQ _ e) (nE _) ?_,rfl,q _ hf⟩;exact⟨z,us,0,r,ID _ rfl⟩)⟩
theorem Y1(h:JA X es t):JE X (.Tuple es x1 pos)<|abJ t:=⟨(by
  intro c s Y H Q I a;refine wpAny_Tuple_spliced (bX (h.out pos c s Y H _ I a) fun us s1 q_=>Z24 q_ fun xs H1 I1 r z q=>⟨by rw[<-r.length];exact z,?_⟩);have hf  := I1.hok.fresh (nE _);refine⟨.ref s1.heap.objs.size,upd H1 s1.heap.objs.size (.tup xs),I1.laid (fun b u e=>eQ _ e) (nE _) ?_,rfl,q _ hf⟩;exact⟨z,us,r,⟨_,ID _ rfl,rfl,_,rfl⟩⟩)⟩
theorem M8:JE X (.Dict [] [] pos) Tn:=⟨(fun a s Y H Q I h=>
  wpAny_Dict_empty ⟨.ref s.heap.objs.size,_,I.laid (fun _ _ q=>eQ _ q) (nE _) (J7 s.heap I.big),rfl,h _ (I.hok.fresh (nE _))⟩)⟩
theorem WK(hr:EK X r)(e:JE X a ta)(hb:JE X b tb)(hs:autoParam (rV b) Xdz):JE X (.Subscript a b pos)<|Lw r ta tb:=⟨(by
  intro j s Y H Q I h;exact Subscript_ (Th e.out hb.out I h fun v u f x y g c i d q=>hr a b j f Y g x y v u Q c i d q (hs _ _)))⟩
theorem NZ:JO X L NF:=⟨(by
  intro a s Y H Q I h;exact lT ⟨L,H,I,.none,h⟩)⟩
theorem NX(h:JE X e te):JO X (Z e)<|X1 te:=⟨(by
  intro d s Y H Q I hw;refine bX (h.out d s Y H _ I hw) fun u f b=>iW b fun x H1 c r1 a=>?_;cases x with
  |int i=>
   obtain⟨t,rfl⟩:=r1;exact⟨Z i,H1,c,.int i t,a⟩
  |_=>exact a.elim)⟩
theorem Ov{lo c:Option agR}(hr:Aa X r)(n:JE X e te)(k:JO X lo tl)(i:JO X c th):JE X (.Subscript e (.Slice lo c L p2) pos)<|tSl r te tl th:=⟨(by
  intro a s Y H Q I h;refine Subscript_<|bX (n.out a s Y H _ I h) fun v g j=>iW j fun x H1 m r1 d=>?_;refine wpAny_Slice<|bX (k.out a g Y H1 _ m d) fun vl s2 q_=>Z23 q_ fun l H2 I2 pl q2=>bX (i.out a s2 Y H2 _ I2 q2) fun vu s3 q_=>Z23 q_ fun u H3 I3 pu q3=>?_;refine lT ?_;have f:Inv X a Y H3 {s3 with heap:=s3.heap.push {cls:=.type "slice",data:=.fields #[vl,vu,.none]}}:=I3.kept fun b o q=>eQ _ q;let⟨T,id,hT,ht,hg⟩:=hr a {s3 with heap:=s3.heap.push {cls:=.type "slice",data:=.fields #[vl,vu,.none]}} Y H3 x v vl vu l u s3.heap.objs.size Q f r1 (akF ..) pl pu q3
  exact tail_any ht hT hg (by rfl))⟩
end
section
variable{st:ah9}{p pos:Pos}{id:String}
theorem Q4(D:Def X.K X.mg x st ps f fd)(G:FnOk X.prog X.w X.K X.mg X.base j8 j f fd ps sp)(hr:Room k X.A)(b:JA X (e::es) t)(c:autoParam (j<=k) Xax)(hg:autoParam (Gl X x) Xaz)(a:autoParam (alz x) Xax)
  (h1:autoParam (az e=U) Xaz) (h2:autoParam (es.all az=U) Xaz):JE X #[7]<|Ir sp t:=⟨pc D G hr b.out c hg a h1 h2⟩
theorem xk(f:bF X (.builtin id) r)(b:X.mg x=L)(c:af9 x=Z (.builtin id))(d:JA X (e::es) t)(hg:autoParam (Gl X x) Xaz)(h1:autoParam (az e=U) Xaz)(h2:autoParam (es.all az=U) Xaz)(hn:autoParam (x≠"__name__") Xax)(a:autoParam (alz x) Xax):
  JE X #[7] (UI r t):=⟨acg f b c d.out hg h1 h2 hn a⟩
theorem rS(f:bF X (.type T) r)(b:X.mg x=L)(c:af9 x=Z (.type T))(d:JA X (e::es) t)(hg:autoParam (Gl X x) Xaz)(h1:autoParam (az e=U) Xaz)(h2:autoParam (es.all az=U) Xaz)(hn:autoParam (x≠"__name__") Xax)(a:autoParam (alz x) Xax):
  JE X #[7] (UI r t):=⟨ac5 f b c d.out hg h1 h2 hn a⟩
end
section
variable{apos cpos:Pos}{id:String}
theorem zK(h:es.all az=U)(a:es.length<29):((ahP pos<|afY es env).all (fun x=>!x.1)&&(backToKw pos<|ajg [] env).all (fun x=>x.1.isSome)
   && decide (es.length+([]:List ajw).length+(if([]:List ajw).isEmpty then 0 else 1)<30))=U:=by
 have h1:(ahP pos<|afY es env).all (fun x=>!x.1)=U:=by
  have:=c7 (env:=env) (pos:=pos) h
  grind
 rw[h1];show(U&&U&&decide (es.length+0+0<30))=U
 lia
theorem aau(d:Slot "str" name id)(f:typeOf (.builtin id)=pure (.type "method_descriptor"))(h:WS X id r)(i:JE X o to)(j:JA X (e::es) t)
  (b:autoParam #[18] Xaz) (c:autoParam (#[8]=U) Xaz) (h1:autoParam ((e::es).all az=U) Xaz) (g:autoParam ((e::es).length<29) Xax):
  JE X (.Call (.Attribute o name apos) (e::es) [] cpos) (afi r to t):=by
 have a:=h1;rw[agJ,afU]at a;exact⟨YB d f h i.out j.out b (zK h1 g) c (bn a.1)<|c7 a.2⟩
end
section
variable{tg elt:agR}{pos:Pos}
theorem NJ:JTs X [] ab6:=⟨(fun _ _ _ H _ I h=>wpAny_tests_nil ⟨H,I,h⟩)⟩
theorem Mx(h:JT X c tt):JTs X [c] tt:=⟨Mo h.out⟩
theorem T5(a:zZ osc ON N ix scope=U)(e:JI X tg iter wi)(hg:∀b,JG #[15] tg g)(h:∀b,JTs #[15] ifs tt)(i:∀b,JE #[15] elt te)
  (d:autoParam (X.env.scope=osc) Xaz) (c:autoParam (X.N=ON) Xaz) (f:autoParam (X.calm=U) Xaz) (hs:autoParam (∀x,agU iter X.env x=pure x) Xcx):JE X #[6]<|C7 ix wi g tt te:=
 ⟨Ln (QH a) d c f e.out (fun b=>(hg b).out) (fun b=>(h b).out) (fun b=>(i b).out) hs⟩
theorem B8{spos pos':Pos}(j:X.N.Nodup)(l:Loc X.env.scope x)(a:zZ osc ON N ix scope=U)(n:JI X tg iter wi)(hg:∀b,JG #[15] tg g)(f:∀b,JTs #[15] ifs tt)(e:∀b,JE #[15] elt te)
  (k:autoParam (X.N[i]?=Z x) Xaz) (m:autoParam (X.env.scope=osc) Xaz) (d:autoParam (X.N=ON) Xaz) (o:autoParam (X.calm=U) Xaz)
  (c:autoParam (ahj #[6] (Z<|.Name x pos') spos.line X.env=pure U) Xaz)
  (h:autoParam #[3] Xcz)
  (hs:autoParam (∀x,agU iter X.env x=pure x) Xcx):JS X (.Assign [.Name x pos'] #[6] spos)<|xb (C7 ix wi g tt te)<|ms i:=
 ⟨AS j k l (QH a) m d o n.out (fun b=>(hg b).out) (fun b=>(f b).out) (fun b=>(e b).out) c h hs⟩
theorem JQ(K:aT)(a:JE X l tl)(b:autoParam (X.K=K) Xaz):JI X tg l<|afx K tl:=⟨T6 K a.out b⟩
theorem Fc{p pos:Pos}(b:X.mg "range"=L)(c:JA X [a] ta)(hg:autoParam (Gl X "range") Xaz)(hn:autoParam (az a=U) Xaz):JI X tg (.Call (.Name "range" p) [a] [] pos)<|Qv ta:=⟨FW hg b c.out<|bn hn⟩
end
section
variable{pos:Pos}{st:ah9}{rest:List ah9}
theorem OD(d:X.N.Nodup)(a:X.N[i]?=Z x)(b:Loc X.env.scope x)(c:autoParam #[3] Xcz):JG X (.Name x pos)<|ms i:=⟨Cb d a b c⟩
theorem N2:JGs X [] abP:=⟨(by
  intro a s Y H vs us Q I r h;let⟨e,h⟩:=h
  exact assignInOrder_nil ⟨Y,H,I,h⟩)⟩
theorem Jw{t:TG}{u:L8}(h1:JG X e t)(h2:JGs X es u)
  (hs:autoParam ((agK (e::es) X.env).map (·.2)=assign e X.env::(agK es X.env).map (·.2)) Xaz):JGs X (e::es)<|O5 t u:=⟨Ld h1.out h2.out hs⟩
theorem SX(K:aT){k:Nat}{t:L8}{n:Nat}(h:JGs X es t)(c:autoParam (X.calm=U) Xaz)
  (hn:autoParam ((agK es X.env).length=n) Xaz) (a:autoParam ((agK es X.env).findIdx? (·.1)=L) Xaz) (b:autoParam (X.K=K) Xaz):JG X (.Tuple es k pos)<|W6 K n t:=by
 subst b;exact⟨So c h.out hn a⟩
theorem G8:JB X [] YX:=⟨(fun _ _ Y H _ I h=>ajf ⟨Y,H,I,h⟩)⟩
theorem Ey(h1:JS X st t)(h2:JB X rest u):JB X (st::rest)<|ZK t u:=⟨uw h1.out h2.out⟩
theorem Au(h1:JS X st t):JB X [st] t:=⟨C8 h1.out⟩
theorem l5(a:JE X e te)(hs:autoParam (ahj e L pos.line X.env=pure η) Xaz):JS X (.Expr e pos)<|vZ te:=⟨MX a.out hs⟩
theorem xg(a:JE X e te):JS X (.Return (Z e) pos)<|adf te:=⟨(by
  intro f s Y H D I h;exact wpAny_Return_some (bX (a.out f s Y H _ I h) fun v g d=>iW d fun x H1 c r1 b=>⟨x,Y,H1,c,r1,b⟩))⟩
theorem QK(f:JT X c tc)(g:JB X a t)(hb:JB X b u):JS X (.If c a b pos)<|abd tc t u:=⟨(by
  intro e s Y H D I h;refine wpAny_If<|bX (f.out e s Y H _ I h) fun d s1⟨H1,I1,q1⟩=>?_;cases d with
  |true=>exact g.out e s1 Y H1 D I1 q1
  |false=>exact hb.out e s1 Y H1 D I1 q1)⟩
theorem Hg{pos':Pos}(f:X.N.Nodup)(a:Loc X.env.scope x)(d:JE X e te)(b:autoParam (X.N[i]?=Z x) Xaz)(hs:autoParam (ahj e (Z<|.Name x pos') pos.line X.env=pure η) Xaz)(c:autoParam #[3] Xcz):
  JS X (.Assign [.Name x pos'] e pos) (xb te<|ms i):=⟨Su f b a d.out hs c⟩
theorem HP(a:JE X e te)(hg:JG X tg g)(hs:autoParam (swapsWithSole [tg] e pos.line X.env=pure η) Xaz)(hw:autoParam (swappedStores [tg] e X.env=pure L) Xaz)
  (h1:autoParam ((agK [tg] X.env).map (·.2)=[assign tg X.env]) Xaz):JS X (.Assign [tg] e pos)<|xb te g:=⟨TR a.out hg.out hs hw h1⟩
theorem Tl{t:SZ}(b:JE X o to)(a:JE X i ti)(hs:TJ X t)
  (c:∀v,assign (.Subscript o i pos) X.env v=(do
   let ov <-holding [v] (eval o X.env)
   let iv <-holding [v,ov] (eval i X.env)
   aky pos
   holding [v,ov,iv] (setItem ov iv v)
   release [v,ov,iv] []):=by intro _;rfl):JG X (.Subscript o i pos) (SU to ti t):=⟨SA b.out a.out hs c⟩
theorem KG(c:aiU #[1] X.A X.env X.xe)(a:JI X tg iter wi)(hg:JG X tg g)(hb:JB X body tb)(b:autoParam (X.calm=U) Xaz)
  (hs:autoParam (∀x,agU iter X.env x=pure x) Xcx):JS X (.For tg iter body [] pos)<|Zl wi g tb:=⟨TF c b a.out hg.out hb.out hs⟩
theorem IW(g:aiU #[1] X.A X.env X.xe)(l:JT X c tc)(hb:JB X body tb):JS X (.While c body [] pos)<|Rf tc tb:=⟨(by
  intro e s Y H D I h;obtain⟨W,⟨j,i⟩,mD⟩:=h;refine wpAny_While<|codeAny_whileLoop (fun n k=>∃a H',Inv X e a H' k/\W n a H') ?_ j ⟨Y,H,I,i⟩;rintro n s1 ⟨σ1,H1,I1,w1⟩;refine ahQ g<|bX (l.out e s1 σ1 H1 _ I1<|mD n σ1 H1 w1) fun b s2⟨H2,I2,q2⟩=>?_;cases b with
  |true=>
   let⟨N,hN,q2⟩:=q2
   refine ahQ g<|bX (hb.out e s2 σ1 H2 _ I2 q2) fun f m d=>?_;cases f with
   |next=>
    let⟨σ3,H3,I3,n3⟩:=d
    let⟨m',hm,w3⟩:=hN σ3 H3 n3
    exact⟨m',hm,σ3,H3,I3,w3⟩
   |cont=>
    let⟨σ3,H3,I3,n3⟩:=d
    let⟨m',hm,w3⟩:=hN σ3 H3 n3
    exact⟨m',hm,σ3,H3,I3,w3⟩
   |brk=>exact d
   |ret v=>exact d
  |false=>
   exact ajf ⟨σ1,H2,I2,q2⟩)⟩
end
section
variable{K:aT}
theorem Fun.okJ{st:ah9}(F:Fun K x qual st f fd)(S:FnScope N ps<|aQ st)(len:∀vs H Q E,sp vs H Q E->vs.length=ps.length)
  (c:∀(b:By)(_:Qx K b qual=U)(A:ahU)(a:List Env)(s:MK)(H:Hp)(vs:alx)(Q:VK)(E:XK),Room k (A.deeper<|ake qual (aQ st) s.heap.objs.size f b)->sp vs H Q E ->
   ∃t,JB (xq j8 P w K mg base N qual (aQ st) f b A a s H E).nox (dM st) t/\t {nx:=fun _ H'=>Q .non H',rt:=Q} (start N vs) H):FnOk P w K mg base j8 (k+1) f fd ps sp:=
 F.ok S len fun b d A a s H vs Q E hr h=>let⟨t,h1,h2⟩:=c b d A a s H vs Q E hr h;⟨t,h1.out,h2⟩
end
theorem JE.imp(h:JE X e t)(i:∀Y H Q,t' Y H Q->t Y H Q):JE X e t':=⟨h.out.imp i⟩
theorem JT.imp(h:JT X e t)(i:∀Y H Q,t' Y H Q->t Y H Q):JT X e t':=⟨fun a s Y H Q I q=>h.out a s Y H Q I<|i Y H Q q⟩
theorem JW.imp(h:JW X e t)(i:∀Y H Q,t' Y H Q->t Y H Q):JW X e t':=⟨fun w a s Y H Q I q=>h.out w a s Y H Q I<|i Y H Q q⟩
theorem JA.imp(h:JA X es t)(i:∀Y H Q,t' Y H Q->t Y H Q):JA X es t':=⟨fun pos a s Y H Q I q=>h.out pos a s Y H Q I<|i Y H Q q⟩
theorem JS.imp{st:ah9}(h:JS X st t)(i:∀D Y H,t' D Y H->t D Y H):JS X st t':=⟨fun a s Y H D I q=>h.out a s Y H D I<|i D Y H q⟩
theorem JB.imp{st:List ah9}(h:JB X st t)(i:∀D Y H,t' D Y H->t D Y H):JB X st t':=⟨fun a s Y H D I q=>h.out a s Y H D I<|i D Y H q⟩
theorem JG.imp(h:JG X e t)(i:∀v Y H Q,t' v Y H Q->t v Y H Q):JG X e t':=⟨fun a s Y H v u Q I r q=>h.out a s Y H v u Q I r<|i v Y H Q q⟩
theorem JGs.imp(h:JGs X es t)(i:∀v Y H Q,t' v Y H Q->t v Y H Q):JGs X es t':=⟨fun a s Y H v u Q I r q=>h.out a s Y H v u Q I r<|i v Y H Q q⟩
theorem JI.imp(h:JI X tg e t)(i:∀Y H R,t' Y H R->t Y H R):JI X tg e t':=⟨fun a s Y H R I q=>h.out a s Y H R I<|i Y H R q⟩
theorem JO.imp(h:JO X e t)(i:∀Y H Q,t' Y H Q->t Y H Q):JO X e t':=⟨fun a s Y H Q I q=>h.out a s Y H Q I<|i Y H Q q⟩
theorem JTs.imp(h:JTs X es t)(i:∀Y H Q,t' Y H Q->t Y H Q):JTs X es t':=⟨fun a s Y H Q I q=>h.out a s Y H Q I<|i Y H Q q⟩
set_option genInjectivity true
inductive D where
 |non|bl (b:Bool)|int (i:Int)|str (x:Str)|ty (n:String)
 |lst (xs:List D)|tup (xs:List D)|dct (kvs:List<|Key×D)|obj (x:Str) (fs:List<|Str×D)
 |exn (x:Str)|cls (x:Str)
 |lsm (xs:List D)
 |dcf (kvs:List<|Key×D)
abbrev aly:=List D
def abG(a C:aga):HO:=.ext fun h=>∃o vs,h.get? a=Z o/\o.cls=.ref C/\o.dict=L/\o.data=.fields vs
section
variable(K:aT)(H:Hp)
mutual
def cz:D->V->Prop
 |.non,v=>v=.non
 |.bl b,v=>v=.bl b
 |.int i,v=>v=.int i
 |.str x,v=>v=.str x
 |.ty n,v=>v=.ty n
 |.lst ds,v=>∃a xs,v=.ref a/\dF K H a xs/\aE ds xs
 |.tup ds,v=>∃a xs,v=.ref a/\hV K H a xs/\aE ds xs
 |.dct ds,v=>∃a xs,v=.ref a/\H a=Z (.dK xs)/\ci ds xs
 |.obj x fs,v=>∃a C c xs,v=.ref a/\af5 K age x=Z (Z<|.ref C)/\H a=Z (.ins C c xs)/\mP fs xs
 |.exn x,v=>∃a C,v=.ref a/\af5 K age x=Z (Z<|.ref C)/\H a=Z (abG a C)
 |.cls x,v=>∃C,v=.ref C/\af5 K age x=Z (Z<|.ref C)
 |.lsm ds,v=>∃a xs,v=.ref a/\H a=Z (.lst xs)/\aE ds xs
 |.dcf ds,v=>∃a o xs,v=.ref a/\H a=Z (.frz o<|.dK xs)/\ci ds xs
def aE:aly->alx->Prop
 |[],xs=>xs=[]
 |d::ds,xs=>∃v vs,xs=v::vs/\cz d v/\aE ds vs
def ci:List (Key×D)->List (Key×V)->Prop
 |[],xs=>xs=[]
 |(k,d)::ds,xs=>∃v vs,xs=(k,v)::vs/\cz d v/\ci ds vs
def mP:List (Str×D)->List (Str×V)->Prop
 |[],xs=>xs=[]
 |(k,d)::ds,xs=>∃v vs,xs=(k,v)::vs/\cz d v/\mP ds vs
end
end
theorem av.rd(s:av H H')(h:Rd H a u):Rd H' a u:=by
 rcases h with h|⟨o,h⟩
 .exact .inl (s _ _ h)
 .exact .inr ⟨o,s _ _ h⟩
section
variable{K:aT}{H H':Hp}
mutual
theorem cz.mono(s:av H H'):∀{d:D}{v:V},cz K H d v->cz K H' d v
 |.non,_,h=>h
 |.bl _,_,h=>h
 |.int _,_,h=>h
 |.str _,_,h=>h
 |.ty _,_,h=>h
 |.lst ds,_,⟨a,xs,e,h1,h2⟩=>⟨a,xs,e,s.seq h1,aE.mono s h2⟩
 |.tup ds,_,⟨a,xs,e,h1,h2⟩=>⟨a,xs,e,s.seqT h1,aE.mono s h2⟩
 |.dct ds,_,⟨a,xs,e,h1,h2⟩=>⟨a,xs,e,s _ _ h1,ci.mono s h2⟩
 |.obj x ds,_,⟨a,C,dx,xs,e,h0,h1,h2⟩=>⟨a,C,dx,xs,e,h0,s _ _ h1,mP.mono s h2⟩
 |.exn _,_,⟨a,C,e,h1,h2⟩=>⟨a,C,e,h1,s _ _ h2⟩
 |.cls _,_,h=>h
 |.lsm ds,_,⟨a,xs,e,h1,h2⟩=>⟨a,xs,e,s _ _ h1,aE.mono s h2⟩
 |.dcf ds,_,⟨a,o,xs,e,h1,h2⟩=>⟨a,o,xs,e,s _ _ h1,ci.mono s h2⟩
theorem aE.mono(s:av H H'):∀{d:aly}{v:alx},aE K H d v->aE K H' d v
 |[],_,h=>h
 |d::ds,_,⟨v,vs,e,h1,h2⟩=>⟨v,vs,e,cz.mono s h1,aE.mono s h2⟩
theorem ci.mono(s:av H H'):∀{d:List<|Key×D}{v:List<|Key×V},ci K H d v->ci K H' d v
 |[],_,h=>h
 |(k,d)::ds,_,⟨v,vs,e,h1,h2⟩=>⟨v,vs,e,cz.mono s h1,ci.mono s h2⟩
theorem mP.mono(s:av H H'):∀{d:List<|Str×D}{v:List<|Str×V},mP K H d v->mP K H' d v
 |[],_,h=>h
 |(k,d)::ds,_,⟨v,vs,e,h1,h2⟩=>⟨v,vs,e,cz.mono s h1,mP.mono s h2⟩
end
theorem aE.len:∀{ds:aly}{xs:alx},aE K H ds xs->ds.length=xs.length:=@bb _ _ (@fun _ h=>by nofun;rfl) fun d ds i=>@fun _ j=>Z23 j fun v vs e h1 h2=>by subst e;simp[i h2]
theorem aE.get:∀{ds:aly}{xs:alx}{i:Nat}{d:D},aE K H ds xs->ds[i]?=Z d->∃v,xs[i]?=Z v/\cz K H d v
 |[],_,_,_,_,e=>by simp at e
 |d::ds,_,0,_,⟨v,vs,e,h1,h2⟩,q=>by
  grind
 |d::ds,_,i+1,_,⟨v,vs,e,h1,h2⟩,q=>by
  obtain⟨u,a,b⟩:=aE.get h2 (by simpa using q);mright
theorem aE.got:∀{ds:aly}{xs:alx}{i:Nat}{v:V},aE K H ds xs->xs[i]?=Z v->∃d,ds[i]?=Z d/\cz K H d v
 |[],_,_,_,h,e=>by nofun;simp at e
 |d::ds,_,0,_,⟨v,vs,e,h1,h2⟩,q=>by
  mright
 |d::ds,_,i+1,_,⟨v,vs,e,h1,h2⟩,q=>by
  subst e;obtain⟨u,a,b⟩:=aE.got h2 (by simpa using q);mright
theorem aE.nil:aE K H [] []:=rfl
theorem aE.cons(h:cz K H d v)(t:aE K H ds xs):aE K H (d::ds)<|v::xs:=⟨v,xs,rfl,h,t⟩
theorem aE.append:∀{ds es:aly}{xs ys:alx},aE K H ds xs->aE K H es ys->aE K H (ds++es) (xs++ys):=@bb _ _ (@fun _ _ _ h t=>by nofun;exact t) fun d ds i=>@fun _ _ _ j t=>Z23 j fun v vs e h1 h2=>by subst e;exact⟨v,_,rfl,h1,i h2 t⟩
theorem aE.take:∀{ds:aly}{xs:alx}(n:Nat),aE K H ds xs->aE K H (ds.take n) (xs.take n)
 |_,_,0,_=>by rfl
 |[],_,n+1,h=>by nofun;exact rfl
 |d::ds,_,n+1,⟨v,vs,e,h1,h2⟩=>by subst e;exact⟨v,_,rfl,h1,aE.take n h2⟩
theorem aE.drop:∀{ds:aly}{xs:alx}(n:Nat),aE K H ds xs->aE K H (ds.drop n) (xs.drop n)
 |_,_,0,h=>h
 |[],_,n+1,h=>by nofun;exact rfl
 |d::ds,_,n+1,⟨v,vs,e,h1,h2⟩=>by subst e;exact aE.drop n h2
end
def mask(as:alv)(H:Hp):Hp:=fun b=>if b∈as then L else H b
theorem dt(h:b∈as):mask as H b=L:=ali h
theorem aO(h:b∉as):mask as H b=H b:=alj h
theorem yW:mask [] H=H:=by funext b;exact alj ∅
theorem ap(as:alv)(H:Hp):av (mask as H) H:=fun b o e=>by
 unfold mask at e;mright
theorem aM(s:av H H'):av (mask as H)<|mask as H':=fun b o e=>by
 unfold mask at e⊢;split at e
 .cases e
 .rename_i h;rw[alj h];exact s b o e
theorem i9(as bs:alv)(H:Hp):mask (as++bs) H=mask bs (mask as H):=by
 funext b
 unfold mask
 grind
theorem fY(h:∀a∈bs,a∈as):av (mask as H)<|mask bs H:=fun b o e=>by
 by_cases hb:b∈as
 .rw[dt hb]at e;cases e
 .rw[aO hb]at e;rw[aO fun z=>hb<|h b z];exact e
theorem E2(s:av B H)(h:∀a∈as,B a=L):av B<|mask as H:=fun b o e=>by
 have hb:b∉as:=fun z=>by grind
 rw[aO hb];exact s b o e
inductive R(α:Type) where
 |ok (a:α)
 |er (x:Str)
 |no
noncomputable def R.bind{α β:Type}(r:R α)(f:α->R β):R β:=match r with
 |.ok a=>f a
 |.er x=>.er x
 |.no=>.no
theorem ax{a:α}{f:α->R β}:(R.ok a).bind f=f a:=rfl
theorem bind_assoc(r:R α)(f:α->R β)(g:β->R γ):(r.bind f).bind g=r.bind fun a=>(f a).bind g:=by cases r<;>rfl
structure Wd where
 K:aT
 mg:Str->Option By
 E:XK
abbrev Sd:=List<|Option D
def cX(W:Wd)(as:alv)(H:Hp)(r:R D)(Q:VK):Prop:=match r with
 |.ok d=>∀v H',av H H'->cz W.K (mask as H') d v->Q v H'
 |.er x=>∀e C H',av H H'->W.mg x=Z (.ref C)->W.E e (Z C) H'
 |.no=>False
def g7(W:Wd)(as:alv)(H:Hp)(r:R<|aly)(Q:alx->Hp->Prop):Prop:=match r with
 |.ok d=>∀v H',av H H'->aE W.K (mask as H') d v->Q v H'
 |.er x=>∀e C H',av H H'->W.mg x=Z (.ref C)->W.E e (Z C) H'
 |.no=>False
def fZ{α:Type}(W:Wd)(H:Hp)(r:R α)(Q:α->Hp->Prop):Prop:=match r with
 |.ok b=>∀H',av H H'->Q b H'
 |.er x=>∀e C H',av H H'->W.mg x=Z (.ref C)->W.E e (Z C) H'
 |.no=>False
def jS(K:aT)(H:Hp)(o:HO):D->Prop
 |.lst ds=>∃xs,o=.lst xs/\aE K H ds xs
 |.dct ds=>∃xs,o=.dK xs/\ci K H ds xs
 |.obj x ds=>∃C a xs,o=.ins C a xs/\af5 K age x=Z (Z<|.ref C)/\mP K H ds xs
 |_=>False
def e8(W:Wd)(as:alv)(H:Hp)(r:R D)(Q:VK):Prop:=match r with
 |.ok d=>∀p o H',av H H'->H p=L->H' p=Z o->jS W.K (mask (p::as) H') o d->Q (.ref p) H'
 |.er x=>∀e C H',av H H'->W.mg x=Z (.ref C)->W.E e (Z C) H'
 |.no=>False
theorem cX.mono(h:cX W as H r Q)(s:av H H'):cX W as H' r Q:=by
 cases r with
 |ok d=>exact fun v a b=>h v a<|s.trans b
 |er x=>exact fun e C a b=>h e C a<|s.trans b
 |no=>exact h
theorem e8.mono(h:e8 W as H r Q)(s:av H H'):e8 W as H' r Q:=by
 cases r with
 |ok d=>exact fun p o a b c=>h p o a (s.trans b)<|s.free c
 |er x=>exact fun e C a b=>h e C a<|s.trans b
 |no=>exact h
theorem g7.mono(h:g7 W as H r Q)(s:av H H'):g7 W as H' r Q:=by
 cases r with
 |ok d=>exact fun v a b=>h v a<|s.trans b
 |er x=>exact fun e C a b=>h e C a<|s.trans b
 |no=>exact h
theorem fZ.mono{r:R α}{Q:α->Hp->Prop}(h:fZ W H r Q)(s:av H H'):fZ W H' r Q:=by
 cases r with
 |ok d=>exact fun a b=>h a<|s.trans b
 |er x=>exact fun e C a b=>h e C a<|s.trans b
 |no=>exact h
theorem jS.den{K:aT}(i:p∉as)(e:H p=Z o)(h:jS K (mask (p::as) H) o d):cz K (mask as H) d<|.ref p:=by
 have s:av (mask (p::as) H)<|mask as H:=fY fun a g=>mK _ g;have b:mask as H p=Z o:=by rw[aO i];exact e
 cases d with
 |lst ds=>obtain⟨xs,rfl,h⟩:=h;exact⟨p,xs,rfl,.inl<|.inl b,h.mono s⟩
 |dct ds=>obtain⟨xs,rfl,h⟩:=h;exact⟨p,xs,rfl,b,h.mono s⟩
 |obj x ds=>obtain⟨C,c,xs,rfl,f,h⟩:=h;exact⟨p,C,c,xs,rfl,f,b,h.mono s⟩
 |_=>mleft
structure DI(K:aT)(as0:alv)(B:Hp)(O:alp)(own:alv)(Y:St)(Uq0:Sd)(H:Hp):Prop where
 len:Uq0.length=Y.length
 olen:own.length=O.length
 nd:own.Nodup
 ond:O.Nodup
 fresh:∀a∈own,B a=L
 ex0:∀a∈as0,B a≠L
 same:av B H
 var:∀i d,i∉O->Uq0[i]?=Z (Z d)->∃v,Y[i]?=Z (Z v)/\cz K (mask #[9] H) d v
 owns:∀i a,(i,a)∈O.zip own->∃d o,Uq0[i]?=Z (Z d)/\Y[i]?=Z (Z<|.ref a)/\H a=Z o/\jS K (mask #[9] H) o d
section
variable{K:aT}
theorem jS.mono(s:av H H')(h:jS K H o d):jS K H' o d:=by
 cases d with
 |lst ds=>obtain⟨xs,rfl,h⟩:=h;exact⟨xs,rfl,h.mono s⟩
 |dct ds=>obtain⟨xs,rfl,h⟩:=h;exact⟨xs,rfl,h.mono s⟩
 |obj x ds=>obtain⟨C,b,xs,rfl,a,h⟩:=h;exact⟨C,b,xs,rfl,a,h.mono s⟩
 |_=>mleft
theorem vx:∀{O:alp}{own:alv}{a:aga},own.length=O.length->a∈own->∃i,(i,a)∈O.zip own
 |[],[],_,_,h=>by nofun
 |i::O,b::own,a,l,h=>by
  rcases oR.mp h with rfl|h
  .mright
  .obtain⟨j,c⟩:=vx (by simpa using l) h;exact⟨j,mK _ c⟩
 |[],_::_,_,l,_=>by simp at l
 |_::_,[],_,_,h=>by nofun
theorem DI.exi(I:DI K as0 B O own Y Uq0 H):∀a∈own++as0,H a≠L:=fun a b=>by
 rcases BY.mp b with h|h
 .let⟨i,hi⟩:=vx I.olen h
  refine Z24 (I.owns i a hi) fun d o _ _ e _=>?_;rw[e];simp
 .cases e:B a with
  |none=>exact absurd e<|I.ex0 a h
  |some o=>rw[I.same a o e];simp
theorem DI.new(I:DI K as0 B O own Y Uq0 H)(h:H p=L):p∉own++as0:=fun z=>I.exi p z h
theorem DI.mono(I:DI K as0 B O own Y Uq0 H)(s:av H H'):DI K as0 B O own Y Uq0 H':=
 ⟨I.len,I.olen,I.nd,I.ond,I.fresh,I.ex0,I.same.trans s,fun i d b e=>let⟨v,h1,h2⟩:=I.var i d b e;⟨v,h1,h2.mono<|aM s⟩,
  fun i a b=>let⟨d,o,h1,h2,h3,h4⟩:=I.owns i a b;⟨d,o,h1,h2,s a o h3,h4.mono (aM s)⟩⟩
theorem DI.base(I:DI K as0 B' O own Y Uq0 H)(s:av B B')(h:∀a∈as0,B a≠L):DI K as0 B O own Y Uq0 H:=
 ⟨I.len,I.olen,I.nd,I.ond,fun a b=>s.free<|I.fresh a b,h,s.trans I.same,I.var,I.owns⟩
theorem DI.rebase(I:DI K as0 B O own Y Uq0 H)(c:∀a∈own,a∉as0):DI K as0 (mask own H) O own Y Uq0 H:=
 ⟨I.len,I.olen,I.nd,I.ond,fun a b=>dt b,fun a b=>(by
  rw[aO fun z=>c a z b];cases e:B a with
  |none=>exact absurd e<|I.ex0 a b
  |some o=>rw[I.same a o e];simp),ap _ _,I.var,I.owns⟩
theorem DI.apart(I:DI K as0 B O own Y Uq0 H):∀a∈own,a∉as0:=fun a b z=>I.ex0 a z<|I.fresh a b
theorem DI.baseIn(I:DI K as0 B O own Y Uq0 H):av B<|mask own H:=E2 I.same I.fresh
end
abbrev FE:=Sd->R D
abbrev FT:=Sd->R Bool
abbrev FA:=Sd->R (aly)
def tD(W:Wd)(O:alp)(φ:FE):TE:=fun Y H Q=>∃as0 B own Uq0,DI W.K as0 B O own Y Uq0 H/\cX W #[9] H (φ Uq0) Q
def tN(W:Wd)(O:alp)(φ:FE):TE:=fun Y H Q=>∃as0 B own Uq0,DI W.K as0 B O own Y Uq0 H/\e8 W #[9] H (φ Uq0) Q
def ky(W:Wd)(O:alp)(φ:FT):TT:=fun Y H Q=>∃as0 B own Uq0,DI W.K as0 B O own Y Uq0 H/\fZ W H (φ Uq0) Q
def qy(W:Wd)(O:alp)(φ:FA):TA:=fun Y H Q=>∃as0 B own Uq0,DI W.K as0 B O own Y Uq0 H/\g7 W #[9] H (φ Uq0) Q
def ZW(W:Wd)(O:alp)(φ:Sd->R (Option Int)):TO:=fun Y H Q=>∃as0 B own Uq0,DI W.K as0 B O own Y Uq0 H/\fZ W H (φ Uq0) Q
section
theorem bA(h:cX W as H (r.bind f) Q)(q:∀d v H',av H H'->cz W.K (mask as H') d v->cX W as H' (f d) Q->Q' v H'):cX W as H r Q':=by
 cases r with
 |ok d=>exact fun v H' s a=>q d v H' s a<|cX.mono h s
 |er x=>exact h
 |no=>exact h
theorem eu(h:cX W as H (r.bind f) Q)(q:∀d v H',av H H'->aE W.K (mask as H') d v->cX W as H' (f d) Q->Q' v H'):g7 W as H r Q':=by
 cases r with
 |ok d=>exact fun v H' s a=>q d v H' s a<|cX.mono h s
 |er x=>exact h
 |no=>exact h
theorem eJ(h:e8 W as H (r.bind f) Q)(q:∀d v H',av H H'->aE W.K (mask as H') d v->e8 W as H' (f d) Q->Q' v H'):g7 W as H r Q':=by
 cases r with
 |ok d=>exact fun v H' s a=>q d v H' s a<|e8.mono h s
 |er x=>exact h
 |no=>exact h
theorem nh{r:R α}{f:α->R D}{Q':α->Hp->Prop}(h:cX W as H (r.bind f) Q)(q:∀d H',av H H'->cX W as H' (f d) Q->Q' d H'):fZ W H r Q':=by
 cases r with
 |ok d=>exact fun H' s=>q d H' s<|cX.mono h s
 |er x=>exact h
 |no=>exact h
theorem c9{f:D->R α}{Q:α->Hp->Prop}(h:fZ W H (r.bind f) Q)(q:∀d v H',av H H'->cz W.K (mask as H') d v->fZ W H' (f d) Q->Q' v H'):cX W as H r Q':=by
 cases r with
 |ok d=>exact fun v H' s a=>q d v H' s a<|fZ.mono h s
 |er x=>exact h
 |no=>exact h
theorem lG{r:R α}{f:α->R β}{Q:β->Hp->Prop}{Q':α->Hp->Prop}(h:fZ W H (r.bind f) Q)(q:∀d H',av H H'->fZ W H' (f d) Q->Q' d H'):fZ W H r Q':=by
 cases r with
 |ok d=>exact fun H' s=>q d H' s<|fZ.mono h s
 |er x=>exact h
 |no=>exact h
theorem AY{Q:alx->Hp->Prop}(h:g7 W as H (r.bind f) Q)(q:∀d v H',av H H'->cz W.K (mask as H') d v->g7 W as H' (f d) Q->Q' v H'):cX W as H r Q':=by
 cases r with
 |ok d=>exact fun v H' s a=>q d v H' s a<|g7.mono h s
 |er x=>exact h
 |no=>exact h
theorem yQ{Q Q':alx->Hp->Prop}(h:g7 W as H (r.bind f) Q)(q:∀d v H',av H H'->aE W.K (mask as H') d v->g7 W as H' (f d) Q->Q' v H'):g7 W as H r Q':=by
 cases r with
 |ok d=>exact fun v H' s a=>q d v H' s a<|g7.mono h s
 |er x=>exact h
 |no=>exact h
end
section
variable{X:Cx}{W:Wd}{O:alp}{a b c e:agR}{φ ψ χ:FE}{pos:Pos}{rest es:List agR}{α:FA}
noncomputable def ak(i:Nat):FE:=fun Uq0=>match Uq0[i]? with
 |some (Z d)=>.ok d
 |_=>.no
def vC(d:D):FE:=fun _=>.ok d
theorem ZS(i:Nat)(b:autoParam (i∉O) Xax)(j:autoParam (X.N[i]?=Z x) Xaz)(g:autoParam #[25] Xbz)(c:autoParam (alz x) Xax)
  (a:autoParam (#[5]=η) Xax):JE X (.Name x pos)<|tD W O<|ak i:=(jv i j g c a).imp fun Y H Q f=>cx f fun as0 B own Uq0 I h=>by
 unfold ak at h;cbv
 .rename_i d e;let⟨v,h1,h2⟩:=I.var i d b e
  show kT Y[i]? H Q;rw[h1];exact h v H (av.refl H) h2
 .mleft
theorem YA:JE X (.Constant (.int i) j pos)<|tD W O<|vC<|.int i:=WB.imp fun Y H Q a=>cx a fun as0 B own Uq0 I h=>h _ H (av.refl H) rfl
theorem aaw{b j}:JE X (.Constant (.bool b) j pos)<|tD W O<|vC<|.bl b:=abm.imp fun Y H Q a=>cx a fun as0 B own Uq0 I h=>h _ H (av.refl H) rfl
theorem U1:JE X (.Constant .none j pos)<|tD W O<|vC .non:=VN.imp fun Y H Q a=>cx a fun as0 B own Uq0 I h=>h _ H (av.refl H) rfl
theorem VO:JE X (.Constant (.str x) j pos)<|tD W O<|vC<|.str x:=Vr.imp fun Y H Q a=>cx a fun as0 B own Uq0 I h=>h _ H (av.refl H) rfl
theorem SF(e:X.mg x=Z u)(r:a7 v u)(b:∀H,cz W.K H d v)(hg:autoParam (Gl X x) Xaz)(a:autoParam (alz x) Xax):JE X (.Name x pos)<|tD W O<|vC d:=
 (KB e r hg a).imp fun Y H Q c=>cx c fun as0 B own Uq0 I h=>h _ H (av.refl H)<|b _
theorem X2(c:X.mg x=L)(d:af9 x=Z (.type n))(hg:autoParam (Gl X x) Xaz)(hn:autoParam (x≠"__name__") Xax)(a:autoParam (alz x) Xax):JE X (.Name x pos)<|tD W O<|vC<|.ty n:=
 (acV c d hg hn a).imp fun Y H Q b=>cx b fun as0 B own Uq0 I h=>h _ H (av.refl H) rfl
def pb(W:Wd)(r:R2)(op:D->D->R D):Prop:=∀(as:alv)(H:Hp)(x y:V)(a b:D)(Q:VK),(∀p,H p=L->p∉as)->cz W.K (mask as H) a x->cz W.K (mask as H) b y->cX W as H (op a b) Q->r x y H Q
def aJ(op:D->D->R D)(φ ψ:FE):FE:=fun Uq0=>(φ Uq0).bind fun x=>(ψ Uq0).bind fun y=>op x y
theorem HL(g:∀{ta tb:TE},JE X a ta->JE X b tb->JE X e (t ta tb))(j:t=Lw r)(l:pb W r op)(i:JE X a<|tD W O φ)(hb:JE X b<|tD W O ψ):JE X e<|tD W O<|aJ op φ ψ:=by
 subst j;refine(g i hb).imp fun Y H Q k=>cx k fun as0 B own Uq0 I h=>⟨as0,B,own,Uq0,I,bA h fun x v H1 c m h1=>⟨as0,B,own,Uq0,I.mono c,bA h1 fun y u n d f h2=>?_⟩⟩;exact l #[9] n v u x y Q (fun p o=>((I.mono c).mono d).new o) (m.mono<|aM d) f h2
theorem ace(hr:EK X r)(c:pb W r g)(d:JE X a<|tD W O φ)(hb:JE X b<|tD W O ψ)(hs:autoParam (rV b) Xdz):JE X (.Subscript a b pos)<|tD W O<|aJ g φ ψ:=
 HL (fun h1 h2=>WK hr h1 h2 hs) rfl c d hb
def ae9(W:Wd)(r:V->Hp->VK->Prop)(op:D->R D):Prop:=∀(as:alv)(H:Hp)(x:V)(a:D)(Q:VK),cz W.K (mask as H) a x->cX W as H (op a) Q->r x H Q
def LG(op:D->R D)(φ:FE):FE:=fun Uq0=>(φ Uq0).bind op
theorem aaX(e:OC X (unaryOp op) r)(b:ae9 W r g)(c:JE X a<|tD W O φ):JE X (.UnaryOp op a pos)<|tD W O<|LG g φ:=
 (abH e c).imp fun Y H Q d=>cx d fun as0 B own Uq0 I h=>⟨as0,B,own,Uq0,I,bA h fun x v H1 i f h1=>b #[9] H1 v x Q f h1⟩
noncomputable def LH{α:Type}(d:D)(f:Bool->R α):R α:=match d with
 |.bl b=>f b
 |_=>.no
def Nh(φ:FE):FE:=fun Uq0=>(φ Uq0).bind fun x=>LH x fun b=>.ok<|.bl<|!b
def BG(φ ψ:FE):FE:=fun Uq0=>(φ Uq0).bind fun x=>LH x fun b=>if b=U then ψ Uq0 else .ok (.bl η)
def Tw(φ ψ:FE):FE:=fun Uq0=>(φ Uq0).bind fun x=>LH x fun b=>if b=U then .ok (.bl U)else ψ Uq0
theorem ZD(e:JE X a<|tD W O φ):JE X (.UnaryOp .Not a pos)<|tD W O<|Nh φ:=
 (Yg e).imp fun Y H Q d=>cx d fun as0 B own Uq0 I h=>⟨as0,B,own,Uq0,I,bA h fun x v H1 f c h1=>by
  cases x with
  |bl b=>cases c;exact h1 _ H1 (av.refl _) rfl
  |_=>exact h1.elim⟩
theorem X0(h:JE X a<|tD W O φ):JE X (.BoolOp op [a] pos)<|tD W O φ:=ZR h
theorem Wr(c:JE X a<|tD W O φ)(hb:JE X (.BoolOp .And (b::rest) pos)<|tD W O ψ):JE X (.BoolOp .And (a::b::rest) pos)<|tD W O<|BG φ ψ:=
 (W7 c hb).imp fun Y H Q e=>cx e fun as0 B own Uq0 I h=>⟨as0,B,own,Uq0,I,bA h fun x v H1 d f h1=>by
  cases x with
  |bl b=>
   cases f;cases b with
   |true=>exact⟨as0,B,own,Uq0,I.mono d,h1⟩
   |false=>exact h1 _ H1 (av.refl _) rfl
  |_=>exact h1.elim⟩
theorem aaH(c:JE X a<|tD W O φ)(hb:JE X (.BoolOp .Or (b::rest) pos)<|tD W O ψ):JE X (.BoolOp .Or (a::b::rest) pos)<|tD W O<|Tw φ ψ:=
 (abX c hb).imp fun Y H Q e=>cx e fun as0 B own Uq0 I h=>⟨as0,B,own,Uq0,I,bA h fun x v H1 d f h1=>by
  cases x with
  |bl b=>
   cases f;cases b with
   |false=>exact⟨as0,B,own,Uq0,I.mono d,h1⟩
   |true=>exact h1 _ H1 (av.refl _) rfl
  |_=>exact h1.elim⟩
variable{τ υ:FT}
def bG(φ:FE):FT:=fun Uq0=>(φ Uq0).bind fun x=>LH x .ok
theorem IS(s:dz X (agf op) r)(l:pb W r g)(n:JE X a<|tD W O φ)(hb:JE X b<|tD W O ψ)(q:aiE op b=η):JT X (.Compare a [op] [b] pos)<|ky W O<|bG<|aJ g φ ψ:=by
 refine(AX s n hb q).imp fun Y H Q o=>cx o fun as0 B own Uq0 I h=>?_;have h'  := by
  have e:bG (aJ g φ ψ) Uq0=(φ Uq0).bind fun x=>((ψ Uq0).bind fun y=>g x y).bind fun x=>LH x .ok:=by
   unfold bG aJ;rw[bind_assoc]
  rw[e]at h;exact h
 refine⟨as0,B,own,Uq0,I,c9 h' fun x v H1 f t h1=>?_⟩;have c:fZ W H1 ((ψ Uq0).bind fun y=>(g x y).bind fun x=>LH x .ok) Q:=by rw[<-bind_assoc];exact h1
 refine⟨as0,B,own,Uq0,I.mono f,c9 c fun y u C i j h2=>?_⟩;refine l #[9] C v u x y _ (fun p D=>((I.mono f).mono i).new D) (t.mono<|aM i) j<|c9 h2 fun z w m E A d=>?_;cases z with
 |bl k=>cases A;exact d m<|av.refl _
 |_=>exact d.elim
noncomputable def Sn:D->R Bool
 |.non=>.ok η
 |.bl b=>.ok b
 |.int i=>.ok<|i != 0
 |.str y=>if y.length<=1000000 then .ok (y.length != 0)else .no
 |.lst xs=>.ok<|!xs.isEmpty
 |.tup xs=>.ok<|!xs.isEmpty
 |.dct kvs=>.ok<|!kvs.isEmpty
 |_=>.no
theorem aE.empty{K:aT}(h:aE K H ds xs):xs.isEmpty=ds.isEmpty:=by
 cases ds with
 |nil=>nofun;rfl
 |cons d r=>obtain⟨v,vs,rfl,_⟩:=h;rfl
theorem ci.empty{K:aT}(h:ci K H ds xs):xs.isEmpty=ds.isEmpty:=by
 cases ds with
 |nil=>nofun;rfl
 |cons d r=>obtain⟨v,vs,rfl,_⟩:=h;rfl
theorem cR:(1000000:Nat)<=afT:=by rw[agI];decide
def rq(φ:FE):FT:=fun Uq0=>(φ Uq0).bind Sn
theorem Jk(K:aT)(k:JE X a<|tD W O φ)(m:autoParam (∀c,isTrue a X.env c=(do let v <-c;aky a.pos;holding [v] (truthy v))) Xdx)(j:autoParam (X.K=K) Xaz)(hW:autoParam (W.K=K) Xaz):JT X a<|ky W O<|rq φ:=
 (GH K k m j).imp fun Y H Q l=>cx l fun as0 B own Uq0 I h=>⟨as0,B,own,Uq0,I,c9 h fun x v H1 n d h1=>by
  subst hW;cases x with
  |non=>cases d;exact h1 H1<|av.refl _
  |bl b=>cases d;exact h1 H1<|av.refl _
  |int i=>cases d;exact h1 H1<|av.refl _
  |str y=>
   cases d;have h2:fZ W H1 (if y.length<=1000000 then R.ok (y.length != 0)else R.no) Q:=h1;split at h2
   .rename_i hl;refine⟨DO hl cR,?_⟩;have e:((y.length:Int) != 0)=(y.length != 0):=by
     lia
    rw[e];exact h2 H1<|av.refl _
   .exact h2.elim
  |lst ds=>
   obtain⟨p,xs,rfl,f,g⟩:=d;refine .inl (.inl ⟨xs,(ap _ _).seq f,?_⟩);rw[g.empty];exact h1 H1<|av.refl _
  |tup ds=>
   obtain⟨p,xs,rfl,f,g⟩:=d;refine .inl (.inr ⟨xs,(ap _ _).seqT f,?_⟩);rw[g.empty];exact h1 H1<|av.refl _
  |dct ds=>
   obtain⟨p,xs,rfl,f,g⟩:=d;refine .inr ⟨xs,ap _ _ _ _ f,?_⟩;rw[g.empty];exact h1 H1<|av.refl _
  |_=>exact h1.elim⟩
def jc(τ υ:FT):FT:=fun Uq0=>(τ Uq0).bind fun b=>if b=U then υ Uq0 else .ok η
def Bo(τ υ:FT):FT:=fun Uq0=>(τ Uq0).bind fun b=>if b=U then .ok U else υ Uq0
def ym(τ:FT):FT:=fun Uq0=>(τ Uq0).bind fun b=>.ok<|!b
theorem DZ(h:JW X a<|ky W O τ):JT X a<|ky W O τ:=(⟨h.out.pt⟩)
theorem Te(f:JT X a<|ky W O τ)(hb:JW X (.BoolOp .And (b::rest) pos)<|ky W O υ):JW X (.BoolOp .And (a::b::rest) pos)<|ky W O<|jc τ υ:=
 (Rl f hb).imp fun Y H Q e=>cx e fun as0 B own Uq0 I h=>⟨as0,B,own,Uq0,I,lG h fun c H1 d h1=>by
  cases c with
  |true=>exact⟨as0,B,own,Uq0,I.mono d,h1⟩
  |false=>exact h1 H1 (av.refl _)⟩
theorem WQ(f:JT X a<|ky W O τ)(hb:JW X (.BoolOp .Or (b::rest) pos)<|ky W O υ):JW X (.BoolOp .Or (a::b::rest) pos)<|ky W O<|Bo τ υ:=
 (YV f hb).imp fun Y H Q e=>cx e fun as0 B own Uq0 I h=>⟨as0,B,own,Uq0,I,lG h fun c H1 d h1=>by
  cases c with
  |false=>exact⟨as0,B,own,Uq0,I.mono d,h1⟩
  |true=>exact h1 H1 (av.refl _)⟩
theorem Sz(d:JT X a<|ky W O τ):JT X (.UnaryOp .Not a pos)<|ky W O<|ym τ:=
 (Uh d).imp fun Y H Q b=>cx b fun as0 B own Uq0 I h=>⟨as0,B,own,Uq0,I,lG h fun c H1 e h1=>h1 H1<|av.refl _⟩
def Ww(τ:FT)(φ ψ:FE):FE:=fun Uq0=>(τ Uq0).bind fun b=>if b=U then φ Uq0 else ψ Uq0
theorem Wt(g:JT X c<|ky W O τ)(f:JE X a<|tD W O φ)(hb:JE X b<|tD W O ψ):JE X (.IfExp c a b pos)<|tD W O<|Ww τ φ ψ:=
 (Xy g f hb).imp fun Y H Q e=>cx e fun as0 B own Uq0 I h=>⟨as0,B,own,Uq0,I,nh h fun c H1 d h1=>by
  cases c with
  |true=>exact⟨as0,B,own,Uq0,I.mono d,h1⟩
  |false=>exact⟨as0,B,own,Uq0,I.mono d,h1⟩⟩
def aA:FA:=fun _=>.ok []
def aj(φ:FE)(α:FA):FA:=fun Uq0=>(φ Uq0).bind fun d=>(α Uq0).bind fun ds=>.ok<|d::ds
theorem Kp:JA X []<|qy W O aA:=iM.imp fun Y H Q a=>cx a fun as0 B own Uq0 I h=>h [] H (av.refl _) rfl
theorem DG(b:JE X e<|tD W O φ)(hr:JA X es<|qy W O α)(hn:autoParam (az e=U) Xaz):JA X (e::es)<|qy W O<|aj φ α:=
 (eX b hr hn).imp fun Y H Q f=>cx f fun as0 B own Uq0 I h=>⟨as0,B,own,Uq0,I,AY h fun d v H1 c g h1=>⟨as0,B,own,Uq0,I.mono c,yQ h1 fun ds vs j i a h2=>
  h2 (v::vs) j (av.refl _) ⟨v,vs,rfl,g.mono (aM i),a⟩⟩⟩
def yt(ds:aly):R D:=if ds.length<=1000000 then .ok (.lst ds)else .no
def DB(ds:aly):R D:=if ds.length<=1000000 then .ok (.tup ds)else .no
def gm(α:FA):FE:=fun Uq0=>(α Uq0).bind yt
def dj(α:FA):FE:=fun Uq0=>(α Uq0).bind DB
theorem Fb(h:e8 W as H (yt ds) Q)(d:aE W.K (mask as H) ds xs):xs.length<=afT/\∀p,H p=L->Q (.ref p) (upd H p<|.lst xs):=by
 unfold yt at h;cbv
 .rename_i hl;refine⟨by rw[<-d.len];exact DO hl cR,fun p a=>?_⟩;refine h p (.lst xs) (upd H p<|.lst xs) (aH a _) a aG ⟨xs,rfl,d.mono ?_⟩;intro b o e;have hb:b≠p:=fun z=>by
   subst z
   have:=ap _ _ _ _ e
   rw[a]at this;cases this
  by_cases c:b∈as
  .rw[dt c]at e;cases e
  .rw[aO c]at e;rw[aO<|by simp[hb,c],aF hb];exact e
 .mleft
theorem W1(h:JA X es<|qy W O α):JE X (.List es pos)<|tN W O<|gm α:=
 (VC h).imp fun Y H Q b=>cx b fun as0 B own Uq0 I h=>⟨as0,B,own,Uq0,I,eJ h fun ds xs H1 c a h1=>Fb h1 a⟩
theorem vp(h:JE X e<|tN W O φ):JE X e<|tD W O φ:=h.imp fun Y H Q a=>cx a fun as0 B own Uq0 I q=>by
 refine⟨as0,B,own,Uq0,I,?_⟩;cases hr:φ Uq0 with
 |ok d=>
  rw[hr]at q;exact fun p o H' s b e od=>q (.ref p) H' s<|od.den (I.new b) e
 |er x=>rw[hr]at q;exact q
 |no=>rw[hr]at q;exact q
theorem XY(h:JA X es<|qy W O α):JE X (.Tuple es x1 pos)<|tD W O<|dj α:=
 (Y1 h).imp fun Y H Q d=>cx d fun as0 B own Uq0 I h=>⟨as0,B,own,Uq0,I,eu h fun ds xs H1 c b h1=>by
  unfold DB at h1;split at h1
  .rename_i hl;refine⟨by rw[<-b.len];exact DO hl cR,fun p a=>?_⟩;have hn:=(I.mono c).new a;refine h1 (.ref p) (upd H1 p<|.tup xs) (aH a _) ⟨p,xs,rfl,.inl<|.inl ?_,b.mono<|aM<|aH a _⟩;rw[aO hn];exact aG
  .exact h1.elim⟩
def qX(W:Wd)(r:alx->Hp->VK->Prop)(g:aly->R D):Prop:=∀(as:alv)(H:Hp)(xs:alx)(ds:aly)(Q:VK),(∀a∈as,H a≠L)->aE W.K (mask as H) ds xs->cX W as H (g ds) Q->r xs H Q
def Kg(W:Wd)(r:alx->Hp->VK->Prop)(g:aly->R D):Prop:=∀(as:alv)(H:Hp)(xs:alx)(ds:aly)(Q:VK),(∀a∈as,H a≠L)->aE W.K (mask as H) ds xs->e8 W as H (g ds) Q->r xs H Q
def aD(g:aly->R D)(α:FA):FE:=fun Uq0=>(α Uq0).bind g
section
variable{p:Pos}{id:String}
theorem Mi(l:bF X (.builtin id) r)(b:qX W r g)(i:X.mg x=L)(j:af9 x=Z (.builtin id))(c:JA X (e::es)<|qy W O α)(hg:autoParam (Gl X x) Xaz)(h1:autoParam (az e=U) Xaz)(h2:autoParam (es.all az=U) Xaz)(hn:autoParam (x≠"__name__") Xax)(a:autoParam (alz x) Xax):
  JE X #[7] (tD W O<|aD g α):=
 (xk l i j c hg h1 h2 hn a).imp fun Y H Q f=>cx f fun as0 B own Uq0 I h=>⟨as0,B,own,Uq0,I,eu h fun ds xs H1 d k h1=>b #[9] H1 xs ds Q (I.mono d).exi k h1⟩
theorem MZ(l:bF X (.type T) r)(b:qX W r g)(i:X.mg x=L)(j:af9 x=Z (.type T))(c:JA X (e::es)<|qy W O α)(hg:autoParam (Gl X x) Xaz)(h1:autoParam (az e=U) Xaz)(h2:autoParam (es.all az=U) Xaz)(hn:autoParam (x≠"__name__") Xax)(a:autoParam (alz x) Xax):
  JE X #[7] (tD W O<|aD g α):=
 (rS l i j c hg h1 h2 hn a).imp fun Y H Q f=>cx f fun as0 B own Uq0 I h=>⟨as0,B,own,Uq0,I,eu h fun ds xs H1 d k h1=>b #[9] H1 xs ds Q (I.mono d).exi k h1⟩
theorem NV(l:bF X (.type T) r)(b:Kg W r g)(i:X.mg x=L)(j:af9 x=Z (.type T))(c:JA X (e::es)<|qy W O α)(hg:autoParam (Gl X x) Xaz)(h1:autoParam (az e=U) Xaz)(h2:autoParam (es.all az=U) Xaz)(hn:autoParam (x≠"__name__") Xax)(a:autoParam (alz x) Xax):
  JE X #[7] (tN W O<|aD g α):=
 (rS l i j c hg h1 h2 hn a).imp fun Y H Q f=>cx f fun as0 B own Uq0 I h=>⟨as0,B,own,Uq0,I,eJ h fun ds xs H1 d k h1=>b #[9] H1 xs ds Q (I.mono d).exi k h1⟩
end
def mh:Sd->R (Option Int):=fun _=>.ok L
noncomputable def j6(φ:FE):Sd->R (Option Int):=fun Uq0=>(φ Uq0).bind fun d=>match d with
 |.int i=>.ok<|Z i
 |_=>.no
theorem sn:JO X L<|ZW W O mh:=NZ.imp fun Y H Q a=>cx a fun as0 B own Uq0 I h=>h H<|av.refl _
theorem sk(h:JE X e<|tD W O φ):JO X (Z e)<|ZW W O<|j6 φ:=(NX h).imp fun Y H Q b=>cx b fun as0 B own Uq0 I h=>⟨as0,B,own,Uq0,I,c9 h fun d v H1 c a h1=>by
  cases d with
  |int i=>cases a;exact h1 H1<|av.refl _
  |_=>exact h1.elim⟩
def Z3(W:Wd)(r:V->Option Int->Option Int->Hp->VK->Prop)(g:D->Option Int->Option Int->R D):Prop:=
 ∀(as:alv)(H:Hp)(x:V)(lo b:Option Int)(a:D)(Q:VK),(∀p,H p=L->p∉as)->cz W.K (mask as H) a x->cX W as H (g a lo b) Q->r x lo b H Q
def CO(g:D->Option Int->Option Int->R D)(φ:FE)(l u:Sd->R (Option Int)):FE:=fun Uq0=>(φ Uq0).bind fun x=>(l Uq0).bind fun lo=>(u Uq0).bind fun a=>g x lo a
theorem rG{lo a:Option agR}(hr:Aa X r)(i:Z3 W r g)(s:JE X e<|tD W O φ)(n:JO X lo<|ZW W O l)(k:JO X a<|ZW W O u):
  JE X (.Subscript e (.Slice lo a L p2) pos) (tD W O<|CO g φ l u):=
 (Ov hr s n k).imp fun Y H Q m=>cx m fun as0 B own Uq0 I h=>⟨as0,B,own,Uq0,I,bA h fun x v H1 b o h1=>⟨as0,B,own,Uq0,I.mono b,nh h1 fun lo t c h2=>⟨as0,B,own,Uq0,(I.mono b).mono c,nh h2 fun a j d f=>
  i #[9] j v lo a x Q (fun p q=>(((I.mono b).mono c).mono d).new q) (o.mono (aM (c.trans d))) f⟩⟩⟩
def aca(W:Wd)(r:Str->alx->Hp->VK->Prop)(g:Str->aly->R D):Prop:=
 ∀(as:alv)(H:Hp)(z:Str)(xs:alx)(ds:aly)(Q:VK),(∀p,H p=L->p∉as)->aE W.K (mask as H) ds xs->cX W as H (g z ds) Q->r z xs H Q
def Z6(g:Str->aly->R D)(φ:FE)(α:FA):FE:=fun Uq0=>(φ Uq0).bind fun x=>match x with
 |.str z=>(α Uq0).bind fun ds=>g z ds
 |_=>.no
theorem abt{apos cpos:Pos}{id:String}(c:Slot "str" name id)(d:typeOf (.builtin id)=pure (.type "method_descriptor"))(n:WS X id r)(j:aca W r g)(q:JE X o<|tD W O φ)(k:JA X (e::es)<|qy W O α)
  (a:autoParam #[18] Xaz) (b:autoParam (#[8]=U) Xaz) (h1:autoParam ((e::es).all az=U) Xaz) (m:autoParam ((e::es).length<29) Xax):
  JE X (.Call (.Attribute o name apos) (e::es) [] cpos) (tD W O<|Z6 g φ α):=
 (aau c d n q k a b h1 m).imp fun Y H Q l=>cx l fun as0 B own Uq0 I h=>⟨as0,B,own,Uq0,I,bA h fun x v H1 f s h1=>by
  cases x with
  |str z=>
   cases s;exact⟨as0,B,own,Uq0,I.mono f,eu h1 fun ds xs u t i h2=>j #[9] u z xs ds Q (fun p w=>((I.mono f).mono t).new w) i h2⟩
  |_=>exact h1.elim⟩
end
inductive Fl where
 |nx (Uq0:Sd)|rt (d:D)|bk (Uq0:Sd)|ct (Uq0:Sd)
 |rn (d:D)
set_option genInjectivity false
abbrev FS:=Sd->R Fl
def ce(W:Wd)(as0:alv)(B:Hp)(Ob O':alp)(r:R Fl)(D:Ends):Prop:=match r with
 |.ok (.nx Uq0)=>∀own Y H,DI W.K as0 B O' own Y Uq0 H->D.nx Y H
 |.ok (.bk Uq0)=>∀own Y H,DI W.K as0 B Ob own Y Uq0 H->D.bk Y H
 |.ok (.ct Uq0)=>∀own Y H,DI W.K as0 B Ob own Y Uq0 H->D.ct Y H
 |.ok (.rt d)=>∀v H,av B H->cz W.K (mask as0 H) d v->D.rt v H
 |.ok (.rn d)=>∀p o H,av B H->B p=L->H p=Z o->jS W.K (mask (p::as0) H) o d->D.rt (.ref p) H
 |.er x=>∀e C H,av B H->W.mg x=Z (.ref C)->W.E e (Z C) H
 |.no=>False
def sD(W:Wd)(Ob O O':alp)(φ:FS):TS:=fun D Y H=>∃as0 B own Uq0,DI W.K as0 B O own Y Uq0 H/\ce W as0 B Ob O' (φ Uq0) D
section
variable{W:Wd}{as0 own:alv}{B H:Hp}{Ob O O':alp}{Y:St}{Uq0:Sd}{D':Ends}
theorem bI(I:DI W.K as0 B O own Y Uq0 H)(h:ce W as0 B Ob O' (r.bind f) D')(q:∀d v H',av H H'->cz W.K (mask #[9] H') d v->ce W as0 B Ob O' (f d) D'->Q v H'):cX W #[9] H r Q:=by
 cases r with
 |ok d=>exact fun v H' s a=>q d v H' s a h
 |er x=>exact fun e C H' s=>h e C H'<|I.same.trans s
 |no=>exact h
theorem io(I:DI W.K as0 B O own Y Uq0 H)(h:ce W as0 B Ob O' (r.bind f) D')(q:∀d p o H',av H H'->H p=L->H' p=Z o->jS W.K (mask (p::#[9]) H') o d->ce W as0 B Ob O' (f d) D'->Q (.ref p) H'):e8 W #[9] H r Q:=by
 cases r with
 |ok d=>exact fun p o H' s h1 h2 a=>q d p o H' s h1 h2 a h
 |er x=>exact fun e C H' s=>h e C H'<|I.same.trans s
 |no=>exact h
theorem lC{r:R α}{f:α->R Fl}{Q:α->Hp->Prop}(I:DI W.K as0 B O own Y Uq0 H)(h:ce W as0 B Ob O' (r.bind f) D')(q:∀d H',av H H'->ce W as0 B Ob O' (f d) D'->Q d H'):fZ W H r Q:=by
 cases r with
 |ok d=>exact fun H' s=>q d H' s h
 |er x=>exact fun e C H' s=>h e C H'<|I.same.trans s
 |no=>exact h
theorem ce.base(h:ce W as0 B Ob O' r D')(s:av B B')(c:∀a∈as0,B a≠L):ce W as0 B' Ob O' r D':=by
 cases r with
 |ok f=>
  cases f with
  |nx Uq0=>exact fun own Y H I=>h own Y H<|I.base s c
  |bk Uq0=>exact fun own Y H I=>h own Y H<|I.base s c
  |ct Uq0=>exact fun own Y H I=>h own Y H<|I.base s c
  |rt d=>exact fun v H b=>h v H<|s.trans b
  |rn d=>exact fun p o H b g=>h p o H (s.trans b)<|s.free g
 |er x=>exact fun e C H b=>h e C H<|s.trans b
 |no=>exact h
theorem getElem?_set'{α:Type}{l:List α}{x:α}:(l.set i x)[j]?=if i=j then(if i<l.length then Z x else L)else l[j]?:=List.getElem?_set
theorem DI.set(I:DI W.K as0 B O own Y Uq0 H)(c:i∉O)(h:cz W.K (mask #[9] H) d v):DI W.K as0 B O own (Y.set i<|Z v) (Uq0.set i<|Z d) H:=by
 refine⟨by simp[I.len],I.olen,I.nd,I.ond,I.fresh,I.ex0,I.same,fun j e b q=>?_,fun j a b=>?_⟩
 .rw[getElem?_set']at q⊢;split at q
  .rename_i hij;rw[ali hij];split at q
   .rename_i hl;rw[ali<|by rw[<-I.len];exact hl]
    lia
   .cases q
  .rename_i hij;rw[alj hij];exact I.var j e b q
 .have hji:i≠j:=fun z=>c (by rw[z];exact(agp b).1);let⟨d',o,h1,h2,h3,h4⟩:=I.owns j a b
  mright
theorem zip_inj:∀{O:alp}{own:alv}{i j:Nat}{a:aga},own.Nodup->(i,a)∈O.zip own->(j,a)∈O.zip own->i=j
 |[],_,_,_,_,_,h,_=>by simp at h
 |_::_,[],_,_,_,_,h,_=>by simp at h
 |k::O,b::own,i,j,a,nd,h1,h2=>by
  rw[agc]at nd;rcases oR.mp h1 with e1|h1<;>rcases oR.mp h2 with e2|h2
  .lia
  .cases e1;exact absurd (agp h2).2 nd.1
  .cases e2;exact absurd (agp h1).2 nd.1
  .exact zip_inj nd.2 h1 h2
theorem bD:∀{O:alp}{own:alv}{i:Nat},own.length=O.length->i∈O->∃a,(i,a)∈O.zip own
 |[],_,_,_,h=>by nofun
 |k::O,[],_,l,_=>by simp at l
 |k::O,b::own,i,l,h=>by
  rcases oR.mp h with rfl|h
  .mright
  .obtain⟨a,c⟩:=bD (by simpa using l) h;exact⟨a,mK _ c⟩
noncomputable def bv(p:Nat->Bool):alp->alv->alv
 |i::O,a::own=>if p i=U then a::bv p O own else bv p O own
 |_,_=>[]
theorem iu{p:Nat->Bool}:∀{O:alp}{own:alv},(bv p O own).Sublist own
 |[],own=>by simp[bv]
 |_::_,[]=>by simp[bv]
 |i::O,a::own=>by
  unfold bv;split
  .exact(iu).cons_cons a
  .exact(iu).cons a
theorem kA:∀{O:alp}{own:alv},own.length=O.length->(bv p O own).length=(O.filter p).length
 |[],[],_=>rfl
 |i::O,a::own,l=>by
  have b:=kA (p:=p) (by simpa using l);unfold bv;rw[ahi];split
  .simp[b]
  .exact b
 |[],_::_,l=>by simp at l
 |_::_,[],l=>by simp at l
theorem eN:∀{O:alp}{own:alv}{i:Nat}{a:aga},(i,a)∈(O.filter p).zip (bv p O own)->(i,a)∈O.zip own/\p i=U
 |[],_,_,_,h=>by simp at h
 |_::_,[],_,_,h=>by simp[bv]at h
 |k::O,b::own,i,a,h=>by
  unfold bv at h;rw[ahi]at h;by_cases c:p k=U
  .rw[ali c,ali c]at h;rcases oR.mp h with e|h
   .mright
   .exact⟨mK _ (eN h).1,(eN h).2⟩
  .rw[alj c,alj c]at h;exact⟨mK _ (eN h).1,(eN h).2⟩
theorem ir:∀{O:alp}{own:alv}{a:aga},a∈bv p O own->∃i,(i,a)∈O.zip own/\p i=U
 |[],_,_,h=>by simp[bv]at h
 |_::_,[],_,h=>by simp[bv]at h
 |k::O,b::own,a,h=>by
  unfold bv at h;cbv
  .rcases oR.mp h with e|h
   .mright
   .let⟨i,h1,h2⟩:=ir h;exact⟨i,mK _ h1,h2⟩
  .let⟨i,h1,h2⟩:=ir h;exact⟨i,mK _ h1,h2⟩
theorem DI.freeze(I:DI W.K as0 B O own Y Uq0 H)(g:O.filter (fun i=>decide (i∈O2))=O2):∃e,DI W.K as0 B O2 e Y Uq0 H:=by
 generalize l:(fun i=>decide (i∈O2))=p at g;have m:∀i,p i=decide (i∈O2):=fun i=>by rw[<-l]
 have f:(bv p O own).Sublist own:=iu;have mem:∀a∈bv p O own,a∈own:=fun a c=>f.mem c;have s:av (mask #[9] H)<|mask (bv p O own++as0) H:=fY fun a c=>by
  grind
 refine⟨bv p O own,I.len,by rw[kA I.olen,g],I.nd.sublist f,by rw[<-g];exact I.ond.sublist aja,fun a c=>I.fresh a<|mem a c,I.ex0,I.same,fun i d k q=>?_,fun i a k=>?_⟩
 .by_cases h:i∈O
  .let⟨a,c⟩:=bD I.olen h
   let⟨d',o,h1,h2,h3,h4⟩:=I.owns i a c
   rw[q]at h1;cases h1;refine⟨.ref a,h2,jS.den ?_ h3<|h4.mono<|fY fun b hb=>?_⟩
   .intro z;rcases BY.mp z with z|z
    .let⟨j,h5,h6⟩:=ir z
     have:=zip_inj I.nd c h5
     mright
    .exact I.apart a (agp c).2 z
   .rcases oR.mp hb with rfl|hb
    .exact agy _ (agp c).2
    .rcases BY.mp hb with h|h
     .mright
     mright
  .let⟨v,h1,h2⟩:=I.var i d h q
   exact⟨v,h1,h2.mono s⟩
 .rw[<-g]at k;let⟨d,o,h1,h2,h3,h4⟩:=I.owns i a (eN k).1
  exact⟨d,o,h1,h2,h3,h4.mono s⟩
theorem DI.own1(I:DI W.K as0 B O own Y Uq0 H)(f:i∉O)(k:B p=L)(hn:p∉own++as0)(e:H p=Z o)(h:jS W.K (mask (p::#[9]) H) o d)(g:i<Uq0.length)
  (fr:∀j d',j∉O->Uq0[j]?=Z (Z d')->∃v,Y[j]?=Z (Z v)/\cz W.K (mask (p::#[9]) H) d' v)
  (fo:∀j a,(j,a)∈O.zip own->∃d o,Uq0[j]?=Z (Z d)/\Y[j]?=Z (Z<|.ref a)/\H a=Z o/\jS W.K (mask (p::#[9]) H) o d):
  DI W.K as0 B (i::O) (p::own) (Y.set i<|Z<|.ref p) (Uq0.set i<|Z d) H:=by
 refine⟨by simp[I.len],by simp[I.olen],agc.mpr ⟨fun z=>hn<|agy _ z,I.nd⟩,agc.mpr ⟨f,I.ond⟩,fun a c=>?_,I.ex0,I.same,fun j e b q=>?_,fun j a b=>?_⟩
 .rcases oR.mp c with rfl|c
  .exact k
  .exact I.fresh a c
 .have hji:i≠j:=fun z=>b (by grind);mright
 .rw[ah4]at b;rcases oR.mp b with z|b
  .cases z;refine⟨d,o,?_,?_,e,h⟩
   .mright
   .rw[getElem?_set',ali rfl,ali<|by rw[<-I.len];exact g]
  .have hji:i≠j:=fun z=>f (by rw[z];exact(agp b).1);mright
end
section
variable{X:Cx}{W:Wd}{Ob O O' O1 O2:alp}{e c:agR}{φ ψ:FS}{ε:FE}{τ:FT}{pos:Pos}{st:ah9}{sts rest:List ah9}
def br:FS:=fun Uq0=>.ok<|.nx Uq0
def aW(φ ψ:FS):FS:=fun Uq0=>(φ Uq0).bind fun f=>match f with
 |.nx δ'=>ψ δ'
 |f=>.ok f
theorem QY:JB X []<|sD W Ob O O br:=G8.imp fun D Y H a=>cx a fun as0 B own Uq0 I h=>h own Y H I
theorem Ez(h1:JS X st<|sD W Ob O O1 φ)(h2:JB X rest<|sD W Ob O1 O2 ψ):JB X (st::rest)<|sD W Ob O O2<|aW φ ψ:=(Ey h1 h2).imp fun D Y H b=>cx b fun as0 B own Uq0 I h=>by
 refine⟨as0,B,own,Uq0,I,?_⟩;unfold aW at h;cases hr:φ Uq0 with
 |ok f=>
  rw[hr]at h;cases f with
  |nx δ'=>exact fun a c H' e=>⟨as0,B,a,δ',e,h⟩
  |rt d=>exact h
  |rn d=>exact h
  |bk d=>exact h
  |ct d=>exact h
 |er x=>rw[hr]at h;exact h
 |no=>rw[hr]at h;exact h
theorem Kv(h1:JS X st<|sD W Ob O O1 φ):JB X [st]<|sD W Ob O O1 φ:=Au h1
theorem TN(h:JB X sts<|sD W Ob O2 O' φ)(a:autoParam (O.filter (fun i=>decide (i∈O2))=O2) Xax):JB X sts<|sD W Ob O O' φ:=h.imp fun D Y H b=>cx b fun as0 B own Uq0 I h=>
 let⟨own2,I2⟩:=I.freeze a;⟨as0,B,own2,Uq0,I2,h⟩
theorem MO(h:JB X sts<|sD W Ob O O1 φ)(c:autoParam (O1.filter (fun i=>decide (i∈O2))=O2) Xax):JB X sts<|sD W Ob O O2 φ:=h.imp fun D Y H e=>cx e fun as0 B own Uq0 I h=>by
 refine⟨as0,B,own,Uq0,I,?_⟩;cases hr:φ Uq0 with
 |ok f=>
  rw[hr]at h;cases f with
  |nx δ'=>exact fun b a H' g=>let⟨own2,I2⟩:=g.freeze c;h own2 a H' I2
  |rt d=>exact h
  |rn d=>exact h
  |bk d=>exact h
  |ct d=>exact h
 |er x=>rw[hr]at h;exact h
 |no=>rw[hr]at h;exact h
def gY(ε:FE):FS:=fun Uq0=>(ε Uq0).bind fun d=>.ok<|.rt d
theorem RF(h:JE X e<|tD W O ε):JS X (.Return (Z e) pos)<|sD W Ob O O'<|gY ε:=(xg h).imp fun D Y H c=>cx c fun as0 B own Uq0 I h=>
 ⟨as0,B,own,Uq0,I,bI I h fun d v H' s b h'=>h' v H' (I.same.trans s)<|b.mono<|fY fun a f=>afX _ f⟩
def qU(ε:FE):FS:=fun Uq0=>(ε Uq0).bind fun d=>.ok<|.rn d
theorem OK(h:JE X e<|tN W O ε):JS X (.Return (Z e) pos)<|sD W Ob O O'<|qU ε:=(xg h).imp fun D Y H c=>cx c fun as0 B own Uq0 I h=>
 ⟨as0,B,own,Uq0,I,io I h fun d p o H' s f e od h'=>h' p o H' (I.same.trans s) (I.same.free f) e (od.mono (fY fun a b=>by
  rcases oR.mp b with rfl|b
  .exact agl
  .exact mK _ (afX _ b)))⟩
theorem NI{i:Nat}{x:Str}{p1:Pos}(q:i∈O)(m:autoParam (X.N[i]?=Z x) Xaz)(p:autoParam #[25] Xbz)(k:autoParam (alz x) Xax)
  (f:autoParam (#[5]=η) Xax):JS X (.Return (Z<|.Name x p1) pos)<|sD W Ob O O'<|qU<|ak i:=(xg<|jv i m p k f).imp fun D Y H n=>cx n fun as0 B own Uq0 I h=>by
 obtain⟨a,g⟩:=bD I.olen q;refine Z24 (I.owns i a g) fun d o h1 h2 j l=>?_;have e:qU (ak i) Uq0=.ok (.rn d):=by unfold qU ak;rw[h1];rfl
 rw[e]at h;show kT Y[i]? H _;rw[h2];have c:a∈own:=(agp g).2;exact h a o H I.same (I.fresh a c) j (l.mono (fY fun b hb=>by
  rcases oR.mp hb with rfl|hb
  .exact agy _ c
  .exact afX _ hb))
def EA(ε:FE):FS:=fun Uq0=>(ε Uq0).bind fun _=>.ok<|.nx Uq0
theorem Nj(h:JE X e<|tD W O ε)(hs:autoParam (ahj e L pos.line X.env=pure η) Xaz):JS X (.Expr e pos)<|sD W Ob O O<|EA ε:=(l5 h hs).imp fun D Y H a=>cx a fun as0 B own Uq0 I h=>
 ⟨as0,B,own,Uq0,I,bI I h fun d v H' s b h'=>h' own Y H'<|I.mono s⟩
def gM(τ:FT)(φ ψ:FS):FS:=fun Uq0=>(τ Uq0).bind fun b=>if b=U then φ Uq0 else ψ Uq0
theorem XQ(d:JT X c<|ky W O τ)(f:JB X a<|sD W Ob O O' φ)(hb:JB X b<|sD W Ob O O' ψ):JS X (.If c a b pos)<|sD W Ob O O'<|gM τ φ ψ:=(QK d f hb).imp fun D Y H e=>cx e fun as0 B own Uq0 I h=>
 ⟨as0,B,own,Uq0,I,lC I h fun b H' s h'=>by
  cases b with
  |true=>exact⟨as0,B,own,Uq0,I.mono s,h'⟩
  |false=>exact⟨as0,B,own,Uq0,I.mono s,h'⟩⟩
def b8(i:Nat)(ε:FE):FS:=fun Uq0=>(ε Uq0).bind fun d=>.ok<|.nx<|Uq0.set i<|Z d
theorem HV{pos':Pos}(a:i∉O)(c:X.N.Nodup)(f:Loc X.env.scope x)(l:JE X e<|tD W O ε)(k:autoParam (X.N[i]?=Z x) Xaz)(hs:autoParam (ahj e (Z<|.Name x pos') pos.line X.env=pure η) Xaz)(b:autoParam #[3] Xcz):
  JS X (.Assign [.Name x pos'] e pos) (sD W Ob O O<|b8 i ε):=(Hg c f l k hs b).imp fun D Y H g=>cx g fun as0 B own Uq0 I h=>
 ⟨as0,B,own,Uq0,I,bI I h fun d v H' s j h'=>h' own _ H'<|(I.mono s).set a j⟩
noncomputable def xx(i:Nat)(ε:FE):FS:=fun Uq0=>(ε Uq0).bind fun d=>if i<Uq0.length then .ok (.nx<|Uq0.set i<|Z d)else .no
theorem fL(c:H p=L)(s:av H H'):av (mask as H)<|mask (p::as) H':=fun b o e=>by
 by_cases hb:b∈as
 .rw[dt hb]at e;cases e
 .rw[aO hb]at e;have a:b≠p:=fun z=>by mright
  rw[aO<|by simp[hb,a]];exact s b o e
theorem yz{K:aT}(I:DI K as0 B O own Y Uq0 H)(g:i∉O)(s:av H H')(b:H p=L)(e:H' p=Z o)(h:jS K (mask (p::#[9]) H') o d)(m:i<Uq0.length):
  DI K as0 B (i::O) (p::own) (Y.set i<|Z<|.ref p) (Uq0.set i<|Z d) H':=by
 refine DI.own1 (W:=⟨K,fun _=>L,E0⟩) (I.mono s) g (I.same.free b) (I.new b) e h m (fun j d' c q=>?_) fun j a c=>?_
 .let⟨v,h1,h2⟩:=I.var j d' c q
  exact⟨v,h1,h2.mono<|fL b s⟩
 .refine Z24 (I.owns j a c) fun d' f h1 h2 k l=>?_;exact⟨d',f,h1,h2,s a f k,l.mono<|fL b s⟩
theorem HW{pos':Pos}(a:i∉O)(c:X.N.Nodup)(f:Loc X.env.scope x)(l:JE X e<|tN W O ε)(j:autoParam (X.N[i]?=Z x) Xaz)(hs:autoParam (ahj e (Z<|.Name x pos') pos.line X.env=pure η) Xaz)(b:autoParam #[3] Xcz):
  JS X (.Assign [.Name x pos'] e pos) (sD W Ob O (i::O)<|xx i ε):=(Hg c f l j hs b).imp fun D Y H g=>cx g fun as0 B own Uq0 I h=>
 ⟨as0,B,own,Uq0,I,io I h fun d p o H' s k e od h'=>by
  split at h'
  .rename_i hl;exact h' _ _ H'<|yz I a s k e od hl
  .exact h'.elim⟩
inductive TgD where
 |one (i:Nat)|tup (is:alp)
noncomputable def mr:alp->aly->Sd->Sd
 |i::is,d::ds,Uq0=>mr is ds<|Uq0.set i<|Z d
 |_,_,Uq0=>Uq0
def fW:TgD->D->Sd->R Sd
 |.one i,d,Uq0=>.ok<|Uq0.set i<|Z d
 |.tup is,.tup ds,Uq0=>if ds.length=is.length then .ok (mr is ds Uq0)else .no
 |_,_,_=>.no
def gD(W:Wd)(O:alp)(tg:TgD):TG:=fun v Y H Q=>∃as0 B own Uq0 d,DI W.K as0 B O own Y Uq0 H/\cz W.K (mask #[9] H) d v/\match fW tg d Uq0 with
 |.ok δ'=>∀a,DI W.K as0 B O own a δ' H->Q a H
 |_=>False
def YG(W:Wd)(O:alp)(is:alp):L8:=fun vs Y H Q=>∃as0 B own Uq0 ds,DI W.K as0 B O own Y Uq0 H/\aE W.K (mask #[9] H) ds vs/\ds.length=is.length/\∀a,DI W.K as0 B O own a (mr is ds Uq0) H->Q a H
theorem RU(a:i∉O)(f:X.N.Nodup)(c:X.N[i]?=Z x)(b:Loc X.env.scope x)(e:autoParam #[3] Xcz):JG X (.Name x pos)<|gD W O<|.one i:=
 (OD f c b e).imp fun v Y H Q q_=>Z53 q_ fun as0 B own Uq0 d I dv h=>h _<|I.set a dv
theorem MP:JGs X []<|YG W O []:=N2.imp fun vs Y H Q q_=>Z54 q_ fun as0 B own Uq0 ds I dv hl h=>by
 cases ds with
 |nil=>cases dv;exact⟨rfl,h Y I⟩
 |cons _ _=>simp at hl
theorem Ih(h1:JG X e<|gD W O<|.one i)(h2:JGs X es<|YG W O is)
  (hs:autoParam ((agK (e::es) X.env).map (·.2)=assign e X.env::(agK es X.env).map (·.2)) Xaz):JGs X (e::es)<|YG W O<|i::is:=(Jw h1 h2 hs).imp fun vs Y H Q q_=>Z54 q_ fun as0 B own Uq0 ds I dv hl h=>by
 cases ds with
 |nil=>simp at hl
 |cons d ds=>
  obtain⟨v,r,rfl,b,c⟩:=dv;exact⟨v,r,rfl,as0,B,own,Uq0,d,I,b,fun a f=>⟨as0,B,own,_,ds,f,c,by simpa using hl,h⟩⟩
theorem Us(K:aT){k:Nat}(h:JGs X es<|YG W O is)(l:autoParam (is.length=n) Xaz)(i:autoParam (X.calm=U) Xaz)
  (hn:autoParam ((agK es X.env).length=n) Xaz) (e:autoParam ((agK es X.env).findIdx? (·.1)=L) Xaz) (g:autoParam (X.K=K) Xaz) (hW:autoParam (W.K=K) Xaz):JG X (.Tuple es k pos)<|gD W O<|.tup is:=by
 refine(SX K h i hn e g).imp fun v Y H Q q_=>Z53 q_ fun as0 B own Uq0 d I dv h=>?_;cases d with
 |tup ds=>
  obtain⟨a,xs,rfl,j,f⟩:=dv;have h':(match(if ds.length=is.length then R.ok (mr is ds Uq0)else .no)with|.ok δ'=>∀b,DI W.K as0 B O own b δ' H->Q b H|_=>False):=h
  by_cases c:ds.length=is.length
  .rw[ali c]at h';subst hW;exact⟨a,xs,rfl,(ap _ _).seqT j,by rw[<-f.len,c,l],as0,B,own,Uq0,ds,I,f,c,h'⟩
  mright
 |_=>mleft
structure GivesD(K:aT)(as0:alv)(B:Hp)(J:It)(xs:aly):Prop where
 go:∀i H,av (mask as0 B) H->i<xs.length->J.go i H
 yl:∀i H v H2 M,av (mask as0 B) H->(∀a∈M,H a≠L)->(∀a∈M,a∈as0\/B a=L)->i<xs.length->J.yld i H v H2->av H H2/\∃d,xs[i]?=Z d/\cz K (mask M H2) d v
 stop:∀H,av (mask as0 B) H->J.stop xs.length H
def gw(W:Wd)(as0 own:alv)(H:Hp)(r:R<|aly)(Q:It->Hp->Prop):Prop:=match r with
 |.ok xs=>∀J H',av H H'->GivesD W.K as0 (mask own H') J xs->Q J H'
 |.er x=>∀e C H',av H H'->W.mg x=Z (.ref C)->W.E e (Z C) H'
 |.no=>False
def iD(W:Wd)(O:alp)(ι:FA):TI:=fun Y H Q=>∃as0 B own Uq0,DI W.K as0 B O own Y Uq0 H/\gw W as0 own H (ι Uq0) Q
theorem iz(s:av (mask as0 B) H)(h:∀a∈M,a∈as0\/B a=L):av (mask as0 B)<|mask M H:=fun b o e=>by
 have c:=e;by_cases hb:b∈as0
 .rw[dt hb]at e;cases e
 .rw[aO hb]at e;have d:b∉M:=fun z=>by
   grind
  rw[aO d];exact s b o c
theorem FO{K:aT}(h1:dF K (mask as0 B) a xs)(h2:aE K (mask as0 B) ds xs):GivesD K as0 B (aci K a) ds where
 go:=fun i H s c=>by
  have b:i<xs.length:=by rw[<-h2.len];exact c
  exact⟨xs,xs[i],s.seq h1,by simp[b]⟩
 yl:=fun i H v H2 M s _ hM c⟨e,y⟩=>by
  subst e;let⟨d,q1,q2⟩:=h2.got<|y xs<|s.seq h1
  exact⟨av.refl _,d,q1,q2.mono<|iz s hM⟩
 stop:=fun H s=>⟨xs,s.seq h1,by rw[h2.len];exact nE _⟩
theorem FD{K:aT}(h1:hV K (mask as0 B) a xs)(h2:aE K (mask as0 B) ds xs):GivesD K as0 B (aax K a) ds where
 go:=fun i H s c=>by
  have b:i<xs.length:=by rw[<-h2.len];exact c
  exact⟨xs,xs[i],s.seqT h1,by simp[b]⟩
 yl:=fun i H v H2 M s _ hM c⟨e,y⟩=>by
  subst e;let⟨d,q1,q2⟩:=h2.got<|y xs<|s.seqT h1
  exact⟨av.refl _,d,q1,q2.mono<|iz s hM⟩
 stop:=fun H s=>⟨xs,s.seqT h1,by rw[h2.len];exact nE _⟩
abbrev IR(z:Str):aly:=z.cps.toList.map fun c=>D.str ⟨#[c]⟩
theorem AG{K:aT}(z:Str):GivesD K as0 B (Z5 z) (IR z) where
 go:=fun i H _ a=>by
  simpa[Z5,Str.length]using a
 yl:=fun i H v H2 M _ _ _ a⟨e,c,h1,h2⟩=>by
  subst e;refine⟨av.refl _,.str ⟨#[c]⟩,?_,h2⟩;mright
 stop:=fun H _=>by
  show _=z.length;simp[Str.length]
noncomputable def bK(lo:Int)(n:Nat):aly:=(agj n).map fun(k:Nat)=>D.int<|lo+(k:Int)
theorem oj{K:aT}(lo:Int)(n:Nat):GivesD K as0 B (Zc lo n) (bK lo n) where
 go:=fun i H _ a=>by
  unfold bK at a;rw[iF,agC]at a;exact a
 yl:=fun i H v H2 M _ _ _ a⟨e,h⟩=>by
  subst e;unfold bK at a⊢;refine⟨av.refl _,.int<|lo+i,?_,h⟩;mright
 stop:=fun H _=>by
  unfold bK;show n<=_;mright
noncomputable def dY:D->R (aly)
 |.lst xs=>.ok xs
 |.tup xs=>.ok xs
 |.str z=>.ok<|IR z
 |_=>.no
def gE(ε:FE):FA:=fun Uq0=>(ε Uq0).bind dY
variable{tg:agR}
theorem gw.mono(h:gw W as0 own H r Q)(s:av H H'):gw W as0 own H' r Q:=by
 cases r with
 |ok d=>exact fun J a b=>h J a<|s.trans b
 |er x=>exact fun e C a b=>h e C a<|s.trans b
 |no=>exact h
theorem mC(h:gw W as0 own H (r.bind f) Q)(q:∀d v H',av H H'->cz W.K (mask #[9] H') d v->gw W as0 own H' (f d) Q->Q' v H'):cX W #[9] H r Q':=by
 cases r with
 |ok d=>exact fun v H' s a=>q d v H' s a<|gw.mono h s
 |er x=>exact h
 |no=>exact h
theorem ib(h:gw W as0 own H (r.bind f) Q)(q:∀d v H',av H H'->aE W.K (mask #[9] H') d v->gw W as0 own H' (f d) Q->Q' v H'):g7 W #[9] H r Q':=by
 cases r with
 |ok d=>exact fun v H' s a=>q d v H' s a<|gw.mono h s
 |er x=>exact h
 |no=>exact h
theorem Q7(K:aT)(h:JE X l<|tD W O ε)(f:autoParam (X.K=K) Xaz)(hW:autoParam (W.K=K) Xaz):JI X tg l<|iD W O<|gE ε:=(JQ K h f).imp fun Y H Q g=>cx g fun as0 B own Uq0 I h=>
 ⟨as0,B,own,Uq0,I,mC h fun d v H' s e h'=>by
  subst hW;cases d with
  |lst ds=>
   obtain⟨a,xs,rfl,b,c⟩:=e;refine .inl ⟨⟨xs,(ap _ _).seq b⟩,h' _ H' (av.refl _) ?_⟩;rw[i9]at b c;exact FO b c
  |tup ds=>
   obtain⟨a,xs,rfl,b,c⟩:=e;refine .inr ⟨⟨xs,(ap _ _).seqT b⟩,h' _ H' (av.refl _) ?_⟩;rw[i9]at b c;exact FD b c
  |str z=>cases e;exact h' _ H' (av.refl _)<|AG z
  |_=>exact h'.elim⟩
def NY:aly->R (aly)
 |[.int j]=>if -(2^62)<=j/\j<2^62 then .ok (bK 0 j.toNat)else .no
 |_=>.no
def ut(α:FA):FA:=fun Uq0=>(α Uq0).bind NY
theorem Fg{p pos:Pos}(e:X.mg "range"=L)(c:JA X [a]<|qy W O α)(hg:autoParam (Gl X "range") Xaz)(hn:autoParam (az a=U) Xaz):JI X tg (.Call (.Name "range" p) [a] [] pos)<|iD W O<|ut α:=(Fc e c hg hn).imp fun Y H Q d=>cx d fun as0 B own Uq0 I h=>
 ⟨as0,B,own,Uq0,I,ib h fun ds vs H' s g h'=>by
  unfold NY at h';split at h'
  .obtain⟨v,r,rfl,f,b⟩:=g;cases f;cases b;split at h'
   .rename_i hj;exact⟨hj,h' _ H' (av.refl _)<|oj 0 _⟩
   .exact h'.elim
  .exact h'.elim⟩
def bm(tg:TgD)(a:FS):aly->Sd->R Fl
 |[],Uq0=>.ok<|.nx Uq0
 |x::r,Uq0=>(fW tg x Uq0).bind fun b=>(a b).bind fun f=>match f with
  |.nx δ2=>bm tg a r δ2
  |.ct δ2=>bm tg a r δ2
  |.bk δ2=>.ok<|.nx δ2
  |.rt d=>.ok<|.rt d
  |.rn d=>.ok<|.rn d
def nA(ι:FA)(t:TgD)(a:FS):FS:=fun Uq0=>(ι Uq0).bind fun xs=>bm t a xs Uq0
theorem yF(I:DI W.K as0 B O own Y Uq0 H)(h:ce W as0 B Ob O' (r.bind f) D')
  (q:∀d J H',av H H'->GivesD W.K as0 (mask own H') J d->ce W as0 B Ob O' (f d) D'->Q J H'):gw W as0 own H r Q:=by
 cases r with
 |ok d=>exact fun J H' s g=>q d J H' s g h
 |er x=>exact fun e C H' s=>h e C H'<|I.same.trans s
 |no=>exact h
theorem T8{iter:agR}{o:List ah9}{ι:FA}{t:TgD}(Q:aiU #[1] X.A X.env X.xe)(u:JI X tg iter<|iD W O ι)(hg:JG X tg<|gD W O t)(hb:JB X o<|sD W O O O φ)(R:autoParam (X.calm=U) Xaz)
  (hs:autoParam (∀x,agU iter X.env x=pure x) Xcx):JS X (.For tg iter o [] pos)<|sD W Ob O O<|nA ι t φ:=(KG Q u hg hb R hs).imp fun D' Y H E=>cx E fun as0 B own Uq0 I h=>by
 refine⟨as0,B,own,Uq0,I,yF I h fun xs J H1 D G h1=>?_⟩;have r:=I.mono D;have q:=r.rebase r.apart;have s:av B<|mask own H1:=r.baseIn;have h2:=h1.base s I.ex0;generalize P:mask own H1=B' at q s h2 G;have F:∀a∈as0,B' a≠L:=q.ex0;refine⟨fun i m Y H=>m=xs.length-i/\i<=xs.length/\∃own Uq0,DI W.K as0 B' O own Y Uq0 H/\ce W as0 B' Ob O (bm t φ (xs.drop i) Uq0) D',⟨xs.length,by rfl,acr _,own,Uq0,q,by simpa using h2⟩,?_⟩;rintro i m σ3 H3 ⟨rfl,u,own3,δ3,I3,h3⟩;by_cases k:i<xs.length
 .refine .inr ⟨G.go i H3 ((ap _ _).trans I3.same) k,fun j H'=>∃own Uq0,DI W.K as0 B' O own j Uq0 H'/\ce W as0 B' Ob O (bm t φ (xs.drop<|i+1) Uq0) D',fun j H' q_=>Z22 q_ fun g δ' p h'=>⟨xs.length-(i+1),by omega,rfl,k,g,δ',p,h'⟩,fun v M y=>?_⟩;let⟨s4,d,hd,dv⟩:=G.yl i H3 v M (own3++as0) ((ap _ _).trans I3.same) I3.exi (fun a C=>by
   rcases BY.mp C with z|z
   .exact .inr (I3.fresh a z)
   .exact .inl z) k y
  have N:xs.drop i=d::xs.drop (i+1):=by
   rw[aio k];rw[lE k]at hd;cases hd;rfl
  rw[N]at h3;refine⟨as0,B',own3,δ3,d,I3.mono s4,dv,?_⟩;have n:ce W as0 B' Ob O ((fW t d δ3).bind fun l=>(φ l).bind fun f=>match f with
   |.nx b=>bm t φ (xs.drop<|i+1) b
   |.ct b=>bm t φ (xs.drop<|i+1) b
   |.bk b=>.ok<|.nx b
   |.rt d=>.ok<|.rt d
   |.rn d=>.ok (.rn d)) D':=h3
  cases hb1:fW t d δ3 with
  |ok l=>
   rw[hb1]at n;refine fun j p=>⟨as0,B',own3,l,p,?_⟩;have c:ce W as0 B' Ob O ((φ l).bind fun f=>match f with
    |.nx b=>bm t φ (xs.drop<|i+1) b
    |.ct b=>bm t φ (xs.drop<|i+1) b
    |.bk b=>.ok<|.nx b
    |.rt d=>.ok<|.rt d
    |.rn d=>.ok (.rn d)) D':=n
   cases hr:φ l with
   |ok f=>
    rw[hr]at c;cases f with
    |nx b=>exact fun g j H' p=>⟨g,b,p,c⟩
    |ct b=>exact fun g j H' p=>⟨g,b,p,c⟩
    |bk b=>exact c
    |rt d=>exact c
    |rn d=>exact c
   |er x=>rw[hr]at c;exact c
   |no=>rw[hr]at c;exact c
  |er x=>unfold fW at hb1;lia
  |no=>rw[hb1]at n;exact n.elim
 .have e:i=xs.length:=⊥
  subst e;rw[ajU]at h3;exact .inl ⟨G.stop H3<|(ap _ _).trans I3.same,h3 own3 σ3 H3 I3⟩
def fj(τ:FT)(a:FS):Nat->Sd->R Fl
 |0,_=>.no
 |n+1,Uq0=>(τ Uq0).bind fun b=>if b=U then(a Uq0).bind fun f=>match f with
  |.nx δ2=>fj τ a n δ2
  |.ct δ2=>fj τ a n δ2
  |.bk δ2=>.ok<|.nx δ2
  |.rt d=>.ok<|.rt d
  |.rn d=>.ok<|.rn d
  else .ok (.nx Uq0)
theorem IV(n:Nat)(p:aiU #[1] X.A X.env X.xe)(r:JT X c<|ky W O τ)(hb:JB X body<|sD W O O O φ):JS X (.While c body [] pos)<|sD W Ob O O<|fj τ φ n:=(IW p r hb).imp fun D' Y H l=>cx l fun as0 B own Uq0 I h=>by
 refine⟨fun m Y H=>∃own Uq0,DI W.K as0 B O own Y Uq0 H/\ce W as0 B Ob O (fj τ φ m Uq0) D',⟨n,own,Uq0,I,h⟩,?_⟩;rintro m σ3 H3 ⟨own3,δ3,I3,h3⟩;cases m with
 |zero=>exact h3.elim
 |succ m=>
  refine⟨as0,B,own3,δ3,I3,lC I3 h3 fun b o k j=>?_⟩;cases b with
  |false=>exact j own3 σ3 o<|I3.mono k
  |true=>
   refine⟨fun g H'=>∃own Uq0,DI W.K as0 B O own g Uq0 H'/\ce W as0 B Ob O (fj τ φ m Uq0) D',fun g H' q=>⟨m,aiY m,q⟩,as0,B,own3,δ3,I3.mono k,?_⟩;have h4'  := j;cases hr:φ δ3 with
   |ok f=>
    rw[hr]at h4';cases f with
    |nx e=>exact fun a g H' i=>⟨a,e,i,h4'⟩
    |ct e=>exact fun a g H' i=>⟨a,e,i,h4'⟩
    |bk e=>exact h4'
    |rt d=>exact h4'
    |rn d=>exact h4'
   |er x=>rw[hr]at h4';exact h4'
   |no=>rw[hr]at h4';exact h4'
end
def R.calm{α:Type}:R α->R α
 |.ok a=>.ok a
 |_=>.no
def eD(ix:List<|Option Nat)(Uq0:Sd):Sd:=ix.map fun o=>o.bind fun j=>(Uq0[j]?).getD L
noncomputable def t8:TgD->Sd->Bool
 |.one i,Uq0=>match Uq0[i]? with
  |some L=>U
  |_=>η
 |.tup is,Uq0=>is.all fun i=>match Uq0[i]? with
  |some L=>U
  |_=>η
def cV(tg:TgD)(τ:FT)(ε:FE)(a:Sd):aly->R (aly)
 |[]=>.ok []
 |x::r=>(fW tg x a).bind fun c=>(τ c).bind fun b=>if b=U then(ε c).bind fun y=>(cV tg τ ε a r).bind fun ys=>.ok (y::ys)else cV tg τ ε a r
def bS(tg:TgD)(τ:FT)(ε:FE)(a:Sd)(xs:aly):R D:=if t8 tg a=U/\xs.length<=1000000 then(cV tg τ ε a xs).calm.bind fun ys=>.ok (.lst ys)else .no
def bW(ix:List<|Option Nat)(ι:FA)(tg:TgD)(τ:FT)(ε:FE):FE:=fun Uq0=>(ι Uq0).bind fun xs=>bS tg τ ε (eD ix Uq0) xs
def nL:FT:=fun _=>.ok U
theorem tQ:∀(is:alp)(ds:aly)(a Uq0:Sd),(∀(i:Nat),i∈is->a[i]?=Z L)->(∀(i:Nat)(d:D),a[i]?=Z (Z d)->Uq0[i]?=Z (Z d))->∀(i:Nat)(d:D),a[i]?=Z (Z d)->(mr is ds Uq0)[i]?=Z (Z d)
 |[],_,_,_,_,h=>by assumption
 |_::_,[],_,_,_,h=>by assumption
 |j::is,x::ds,a,Uq0,hn,h=>by
  intro i d e;refine tQ is ds a _ (fun i b=>hn i<|mK _ b) (fun i d e=>?_) i d e;have c:j≠i:=fun z=>by
   mright
  mright
theorem EZ{tg:TgD}{x:D}{a δ1:Sd}(c:t8 tg a=U)(h:fW tg x a=.ok δ1):∀(i:Nat)(d:D),a[i]?=Z (Z d)->δ1[i]?=Z (Z d):=by
 cases tg with
 |one j=>
  nofun;intro i d e;have g:j≠i:=fun z=>by
   subst z;have b:(match a[j]? with|some L=>U|_=>η)=U:=c
   rw[e]at b;cases b
  mright
 |tup is=>
  cases x with
  |tup ds=>
   have h':(if ds.length=is.length then R.ok (mr is ds a)else .no)=.ok δ1:=h;split at h'
   .cases h';refine tQ is ds a a (fun i f=>?_) fun i d e=>e;have b  := c
    have:=agz.mp b i f
    grind
   .cases h'
  |_=>nofun
theorem vH:∀(is:alp)(ds:aly)(Uq0:Sd),(mr is ds Uq0).length=Uq0.length
 |[],_,_=>by rfl
 |_::_,[],_=>by rfl
 |j::is,x::ds,Uq0=>by unfold mr;rw[vH is ds];simp
theorem KZ(h:fW tg x δ0=.ok δ1):δ1.length=δ0.length:=by
 cases tg with
 |one j=>nofun;simp
 |tup is=>
  cases x with
  |tup ds=>
   have h':(if ds.length=is.length then R.ok (mr is ds δ0)else .no)=.ok δ1:=h;split at h'
   .cases h';exact vH _ _ _
   .cases h'
  |_=>nofun
theorem DI.plain{K:aT}(f:Uq0.length=Y.length)(c:∀a∈M,H a≠L)(b:∀(i:Nat)(d:D),Uq0[i]?=Z (Z d)->∃v,Y[i]?=Z (Z v)/\cz K (mask M H) d v):DI K M H [] [] Y Uq0 H:=
 ⟨f,rfl,agQ,agQ,fun a g=>(nomatch g),c,av.refl _,fun i d _ e=>b i d e,fun i a h=>(by simp at h)⟩
section
variable{X:Cx}{W Wb:Wd}{O:alp}{osc:Scope}{ON N:alq}{ix:List (Option Nat)}{scope:Scope}{tg elt iter:agR}{ifs:List agR}{pos:Pos}{ι:FA}{t:TgD}{τ:FT}{ε:FE}
theorem ND:JTs X []<|ky W O nL:=NJ.imp fun Y H Q a=>cx a fun as0 B own Uq0 I h=>h H<|av.refl _
structure GivesC(K:aT)(M:alv)(H:Hp)(J:It)(xs:aly):Prop where
 go:∀i H1,av H H1->i<xs.length->J.go i H1
 yl:∀i H1 v H2 acc,av H H1->H acc=L->(∀a∈acc::M,H1 a≠L)->i<xs.length->J.yld i H1 v H2->av H1 H2/\∃d,xs[i]?=Z d/\cz K (mask (acc::M) H2) d v
 stop:∀H1,av H H1->J.stop xs.length H1
theorem GivesD.comp{K:aT}(G:GivesD K as0 (mask own H) J xs):GivesC K #[9] H J xs where
 go:=fun i H1 s c=>G.go i H1 ((ap _ _).trans<|(ap _ _).trans s) c
 yl:=fun i H1 v f acc s b e c y=>G.yl i H1 v f (acc::#[9]) ((ap _ _).trans<|(ap _ _).trans s) e (fun a d=>by
  rcases oR.mp d with rfl|d
  .refine .inr ?_
   cases z:mask own H a with
   |none=>rfl
   |some u=>have:=ap _ _ _ _ z;rw[b]at this;cases this
  .rcases BY.mp d with z|z
   .exact .inr (dt z)
   .exact .inl z) c y
 stop:=fun H1 s=>G.stop H1<|(ap _ _).trans<|(ap _ _).trans s
def xY(tg:TgD)(τ:FT)(ε:FE)(a:Sd)(xs:aly):R D:=if t8 tg a=U/\xs.length<=1000000 then(cV tg τ ε a xs).bind fun ys=>.ok (.lst ys)else .no
theorem F0{tg:TgD}(h:fW tg d Uq0=.er x):False:=by
 cases tg with
 |one i=>nofun
 |tup is=>
  cases d with
  |tup ds=>
   have h':(if ds.length=is.length then R.ok (mr is ds Uq0)else .no)=.er x:=h;split at h'<;>cases h'
  |_=>nofun
theorem Ip{K:aT}{as0 own:alv}{B H:Hp}{Y:St}{Uq0:Sd}{xs:aly}{J:It}{Q:VK}(A:Wb.K=K)(I:DI K as0 B O own Y Uq0 H)(hO:∀j∈ix,∀k,j=Z k->k∉O)(G:GivesC K #[9] H J xs)
  (hq:match xY t τ ε (eD ix Uq0) xs with
   |.ok d=>∀p o H',av H H'->H p=L->H' p=Z o->jS K (mask (p::#[9]) H') o d->Q (.ref p) H'
   |.er x=>∀e C H',av H H'->Wb.mg x=Z (.ref C)->Wb.E e (Z C) H'
   |.no=>False):xy (gD Wb [] t) (ky Wb [] τ) (tD Wb [] ε) J (m5 ix Y) H Q:=by
 intro acc f;unfold xY at hq;by_cases hc:t8 t (eD ix Uq0)=U/\xs.length<=1000000
 .rw[ali hc]at hq;let⟨hf,hlen⟩:=hc
  generalize W:cV t τ ε (eD ix Uq0) xs=ra at hq;have l:∀(es:aly)(r:R<|aly),ra=(r.bind fun rest=>.ok<|es++rest)->match r with
    |.ok rest=>∀p o H',av H H'->H p=L->H' p=Z o->jS K (mask (p::#[9]) H') o (.lst<|es++rest)->Q (.ref p) H'
    |.er x=>∀e C H',av H H'->Wb.mg x=Z (.ref C)->Wb.E e (Z C) H'
    |.no=>False:=fun es r e=>by
   subst e;cases r with
   |ok rest=>exact hq
   |er x=>exact hq
   |no=>exact hq
  clear hq;generalize hδ0:eD ix Uq0=δ0 at hf W;have cl:δ0.length=(m5 ix Y).length:=by rw[<-hδ0];unfold eD m5;simp
  have cv:∀(i:Nat)(d:D),δ0[i]?=Z (Z d)->∃v,(m5 ix Y)[i]?=Z (Z v)/\cz K (mask #[9] H) d v:=by rw[<-hδ0];exact(by
    intro i d e;unfold eD at e;unfold m5;rw[agH]at e⊢;cases h:ix[i]? with
    |none=>grind
    |some o=>
     rw[h]at e;cases o with
     |none=>cases e
     |some j=>
      have ej:Uq0[j]?=Z (Z d):=by
       cases q:Uq0[j]? with
       |none=>mright
       |some w=>mright
      let⟨v,h1,h2⟩:=I.var j d (hO _ (agm h) j rfl) ej
      mright)
  generalize m5 ix Y=σ0 at cl cv;have X:=I.exi;generalize hM:own++as0=M at cv l G X;have exM:∀a∈M,H a≠L:=X;have naM:acc∉M:=fun z=>exM acc z f
  have N:∀{H':Hp},av H H'->(∃o,H' acc=Z o)->∀a∈acc::M,H' a≠L:=fun{H'}s⟨o,e⟩a ha=>by
   rcases oR.mp ha with rfl|ha
   .rw[e];simp
   .cases q:H a with
    |none=>exact absurd q<|exM a ha
    |some u=>rw[s a u q];simp
  have s0:av H<|upd H acc<|.lst []:=aH f _;have start:ra=((cV t τ ε δ0<|xs.drop 0).bind fun rest=>.ok<|[]++rest):=by
   rw[<-W,List.drop_zero];cases cV t τ ε δ0 xs<;>rfl
  refine⟨fun i m S H'=>m=xs.length-i/\i<=xs.length/\∃ys es,H' acc=Z (.lst ys)/\ys.length<=i/\av H H'/\aE K (mask (acc::M) H') es ys/\ra=((cV t τ ε δ0<|xs.drop i).bind fun rest=>.ok<|es++rest)/\DI K (acc::M) H' [] [] S δ0 H',
   ⟨xs.length,by rfl,acr _,[],[],aG,acr _,s0,rfl,start,DI.plain cl (N s0 ⟨_,aG⟩) fun i d e=>let⟨v,h1,h2⟩:=cv i d e;⟨v,h1,h2.mono (fL f s0)⟩⟩,?_⟩
  rintro i m σ1 H1 ⟨rfl,hi,ys,es,e1,hl1,s1,d1,c,I1⟩;have sB:av H H1:=s1;by_cases P:i<xs.length
  .refine .inr ⟨G.go i H1 sB P,fun S H'=>∃ys es,H' acc=Z (.lst ys)/\ys.length<=i+1/\av H H'/\aE K (mask (acc::M) H') es ys/\ra=((cV t τ ε δ0<|xs.drop<|i+1).bind fun rest=>.ok<|es++rest)/\DI K (acc::M) H' [] [] S δ0 H',
    fun S H'⟨ys,es,q⟩=>⟨xs.length-(i+1),⊥,rfl,P,ys,es,q⟩,fun v H2 y=>?_⟩
   let⟨s2,d,hd,dv⟩:=G.yl i H1 v H2 acc sB f (N s1 ⟨_,e1⟩) P y
   have ed:xs.drop i=d::xs.drop (i+1):=by
    rw[aio P];rw[lE P]at hd;cases hd;rfl
   rw[ed]at c;have c:ra=(((fW t d δ0).bind fun g=>(τ g).bind fun b=>if b=U then(ε g).bind fun y=>(cV t τ ε δ0<|xs.drop<|i+1).bind fun ys=>.ok (y::ys)else cV t τ ε δ0 (xs.drop<|i+1)).bind fun rest=>.ok<|es++rest):=c;cases b1:fW t d δ0 with
   |er x=>exact(F0 b1).elim
   |no=>rw[b1]at c;exact(l es .no c).elim
   |ok g=>
    rw[b1,ax]at c;have I2:DI K (acc::M) H2 [] [] σ1 δ0 H2:=DI.plain I1.len (N (s1.trans s2) ⟨_,s2 _ _ e1⟩) fun i d e=>let⟨v,h1,h2⟩:=I1.var i d ∅ e;⟨v,h1,h2.mono<|aM s2⟩;have again:∀{T:St}{H3 H4:Hp},DI K (acc::M) H2 [] [] T g H3->av (mask (acc::M) H3) (mask (acc::M) H4)->(∀a∈acc::M,H4 a≠L)->DI K (acc::M) H4 [] [] T δ0 H4:=fun{T H3 H4}I3 s34 ex4=>
     DI.plain (by rw[<-KZ b1];exact I3.len) ex4 fun i d e=>let⟨v,h1,h2⟩:=I3.var i d ∅<|EZ hf b1 i d e;⟨v,h1,h2.mono s34⟩
    refine⟨acc::M,H2,[],δ0,d,by rw[A];exact I2,by rw[A];exact dv,?_⟩;rw[b1];refine fun T I3=>⟨acc::M,H2,[],g,I3,?_⟩;rw[A]at I3;cases b2:τ g with
    |er x=>rw[b2]at c;exact fun e C H' s' hm=>l es (.er x) c e C H' ((s1.trans s2).trans<|I3.same.trans s') hm
    |no=>rw[b2]at c;exact(l es .no c).elim
    |ok b=>
     rw[b2,ax]at c;refine fun H3 s3=>?_;have I3':=I3.mono s3;have n:av H1 H3:=s2.trans<|I3.same.trans s3;cases b with
     |false=>
      rw[alj Le]at c;exact⟨ys,es,n _ _ e1,⊥,s1.trans n,d1.mono<|aM n,c,again I3' (av.refl _)<|N (s1.trans n) ⟨_,n _ _ e1⟩⟩
     |true=>
      rw[ali rfl]at c;refine⟨acc::M,H2,[],g,by rw[A];exact I3',?_⟩;cases b3:ε g with
      |er x=>rw[b3]at c;exact fun e C H' s' hm=>l es (.er x) c e C H' ((s1.trans n).trans s') hm
      |no=>rw[b3]at c;exact(l es .no c).elim
      |ok y'=>
       rw[b3,ax]at c;refine fun v4 H4 s4 d4=>?_;rw[A]at d4;have s14:av H1 H4:=n.trans s4;have e4:=s14 _ _ e1;have hm:=cR;have F:av (mask (acc::M) H4)<|mask (acc::M)<|upd H4 acc<|.lst<|ys++[v4]:=fun b o e=>by
        by_cases hb:b∈acc::M
        .rw[dt hb]at e;cases e
        .rw[aO hb]at e⊢;rw[aF fun z=>hb<|by rw[z];exact agl];exact e
       have s5:av H<|upd H4 acc<|.lst<|ys++[v4]:=fun b o e=>by
        rw[aF<|bq e f];exact(s1.trans s14) b o e
       refine⟨ys,e4,⊥,ys++[v4],es++[y'],aG,by simp;omega,s5,?_,?_,again I3' ((aM s4).trans F)<|N s5 ⟨_,aG⟩⟩
       .exact(aE.append (d1.mono<|aM s14)<|aE.cons d4 aE.nil).mono F
       .rw[c];cases cV t τ ε δ0 (xs.drop<|i+1)with
        |ok r=>show R.ok _=R.ok _;simp
        |er x=>rfl
        |no=>rfl
  .have e':i=xs.length:=⊥
   subst e';rw[ajU]at c;have this:∀(p:aga)(o:HO)(H':Hp),av H H'->H p=L->H' p=Z o->jS K (mask (p::M) H') o (D.lst<|es++[])->Q (V.ref p) H':=l es (.ok []) c;rw[agh]at this;exact .inl ⟨G.stop H1 sB,this acc _ H1 s1 f e1 ⟨ys,rfl,d1⟩⟩
 grind
theorem ba{K:aT}(b:Wb.K=K)(I:DI K as0 B O own Y Uq0 H)(c:∀j∈ix,∀k,j=Z k->k∉O)(G:GivesC K #[9] H J xs)
  (a:match bS t τ ε (eD ix Uq0) xs with
   |.ok d=>∀p o H',av H H'->H p=L->H' p=Z o->jS K (mask (p::#[9]) H') o d->Q (.ref p) H'
   |_=>False):xy (gD Wb [] t) (ky Wb [] τ) (tD Wb [] ε) J (m5 ix Y) H Q:=by
 refine Ip b I c G ?_;unfold bS at a;unfold xY;by_cases e:t8 t (eD ix Uq0)=U/\xs.length<=1000000
 .rw[ali e]at a⊢;cases hall:cV t τ ε (eD ix Uq0) xs with
  |ok ys=>rw[hall]at a;exact a
  |er x=>rw[hall]at a;exact a.elim
  |no=>rw[hall]at a;exact a.elim
 mright
theorem Rr(f:zZ osc ON N ix scope=U)(q:JI X tg iter<|iD W O ι)(hg:∀b,JG #[15] tg<|gD Wb [] t)(l:∀b,JTs #[15] ifs<|ky Wb [] τ)(u:∀b,JE #[15] elt<|tD Wb [] ε)(i:∀j∈ix,∀k,j=Z k->k∉O)
  (a:autoParam (Wb.K=W.K) Xaz) (n:autoParam (X.env.scope=osc) Xaz) (e:autoParam (X.N=ON) Xaz) (g:autoParam (X.calm=U) Xaz) (hs:autoParam (∀x,agU iter X.env x=pure x) Xcx):JE X #[6]<|tN W O<|bW ix ι t τ ε:=
 (T5 f q hg l u n e g hs).imp fun Y H Q m=>cx m fun as0 B own Uq0 I h=>⟨as0,B,own,Uq0,I,by
  unfold bW at h;cases hr:ι Uq0 with
  |no=>rw[hr]at h;mleft
  |er x=>rw[hr]at h;exact h
  |ok xs=>
   rw[hr]at h;refine fun J H1 c G=>ba a (I.mono c) i G.comp ?_;have h':e8 W #[9] H (bS t τ ε (eD ix Uq0) xs) Q:=h;cases hq:bS t τ ε (eD ix Uq0) xs with
   |ok d=>rw[hq]at h';exact fun p o H' s r=>h' p o H' (c.trans s)<|c.free r
   |er x=>
    unfold bS at hq;split at hq
    .cases g:cV t τ ε (eD ix Uq0) xs<;>rw[g]at hq<;>cases hq
    .cases hq
   |no=>rw[hq]at h';exact h'.elim⟩
theorem Os{i:Nat}{spos pos':Pos}(r:X.N.Nodup)(y:Loc X.env.scope x)(f:zZ osc ON N ix scope=U)(A:JI X tg iter<|iD W O ι)(hg:∀b,JG #[15] tg<|gD Wb [] t)(n:∀b,JTs #[15] ifs<|ky Wb [] τ)(E:∀b,JE #[15] elt<|tD Wb [] ε)(m:∀j∈ix,∀k,j=Z k->k∉O)
  (a:autoParam (Wb.K=W.K) Xaz) (v:autoParam (X.N[i]?=Z x) Xaz) (z:autoParam (X.env.scope=osc) Xaz) (e:autoParam (X.N=ON) Xaz) (l:autoParam (X.calm=U) Xaz)
  (g:autoParam (ahj #[6] (Z<|.Name x pos') spos.line X.env=pure U) Xaz)
  (q:autoParam #[3] Xcz)
  (hs:autoParam (∀x,agU iter X.env x=pure x) Xcx):JS X (.Assign [.Name x pos'] #[6] spos)<|xb (tN W O<|bW ix ι t τ ε)<|ms i:=
 (B8 r y f A hg n E v z e l g q hs).imp fun D Y H w=>cx w fun as0 B own Uq0 I h=>⟨as0,B,own,Uq0,I,by
  unfold bW at h;cases hr:ι Uq0 with
  |no=>rw[hr]at h;mleft
  |er x=>rw[hr]at h;exact h
  |ok xs=>
   rw[hr]at h;refine fun J H1 c G=>ba a (I.mono c) m G.comp ?_;have h':e8 W #[9] H (bS t τ ε (eD ix Uq0) xs) (fun x H1=>ms i x Y H1 D.nx):=h;cases hq:bS t τ ε (eD ix Uq0) xs with
   |ok d=>rw[hq]at h';exact fun p o H' s C=>h' p o H' (c.trans s)<|c.free C
   |er x=>
    unfold bS at hq;split at hq
    .cases l:cV t τ ε (eD ix Uq0) xs<;>rw[l]at hq<;>cases hq
    .cases hq
   |no=>rw[hq]at h';exact h'.elim⟩
theorem Nq{st:ah9}(a:i∉O)(h:JS X st<|xb (tN W O ε)<|ms i):JS X st<|sD W Ob O (i::O)<|xx i ε:=h.imp fun D Y H b=>cx b fun as0 B own Uq0 I h=>
 ⟨as0,B,own,Uq0,I,io I h fun d p o H' s c e od h'=>by
  split at h'
  .rename_i hl;exact h' _ _ H'<|yz I a s c e od hl
  .exact h'.elim⟩
theorem Mc{st:ah9}(a:i∉O)(h:JS X st<|xb (tN W O ε)<|ms i):JS X st<|sD W Ob O O<|b8 i ε:=h.imp fun D Y H b=>cx b fun as0 B own Uq0 I h=>
 ⟨as0,B,own,Uq0,I,io I h fun d p o H' s c e od h'=>h' own _ H'<|(I.mono s).set a<|od.den (I.new c) e⟩
end
noncomputable def jU(N:alq)(ds:aly):Sd:=ds.map Z++aim (N.length-ds.length) L
noncomputable def zm(φ:FS)(N P:alq)(ds:aly):R D:=if ds.length=P.length then(φ<|jU N ds).bind fun f=>match f with
 |.rt d=>.ok d
 |.rn d=>.ok d
 |.nx _=>.ok .non
 |_=>.no
 else .no
def zY(K:aT)(mg:alu)(F:aly->R D):Sp:=fun vs H Q _=>∃as ds,(∀a∈as,H a≠L)/\aE K (mask as H) ds vs/\cX ⟨K,mg,E0⟩ as H (F ds) Q
section
variable{P:ahb}{w:agN}{K:aT}{mg:alu}{base:aij}
theorem sQ:∀{ds:aly}{vs:alx}{i:Nat}{d:D},aE K H ds vs->∀{n:Nat},(ds.map Z++aim n L)[i]?=Z (Z d)->∃v,(vs.map Z++aim n L)[i]?=Z (Z v)/\cz K H d v:=by
 intro ds vs i d h n e;have b:=h.len;by_cases a:i<ds.length
 .rw[ain<|by simpa using a]at e;rw[ain<|by simp_all];cases q:ds[i]? with
  |none=>grind
  |some d'=>
   let⟨v,h1,h2⟩:=h.get q
   mright
 .rw[ajj<|by simpa using a,ajN]at e;split at e<;>cases e
theorem Fun.okD{st:ah9}(F:Fun K x qual st f fd)(S:FnScope N ps<|aQ st)
  (g:∀(c:By)(_:Qx K c qual=U)(A:ahU)(b:List Env)(s:MK)(H:Hp)(E:XK),Room k (A.deeper<|ake qual (aQ st) s.heap.objs.size f c) ->
   JB (xq j8 P w K mg base N qual (aQ st) f c A b s H E).nox (dM st) (sD ⟨K,mg,E0⟩ [] [] O' φ)):FnOk P w K mg base j8 (k+1) f fd ps (zY K mg (zm φ N ps)):=by
 refine F.okJ S (fun vs H Q E h=>?_) fun c m A b s H vs Q E hr h=>?_
 .refine Z23 h fun as ds l j h=>?_;unfold zm at h;cbv
  .rename_i hl;rw[<-j.len];exact hl
  .mleft
 .let⟨as,ds,l,j,h⟩:=h
  unfold zm at h;cbv
  .refine⟨_,g c m A b s H E hr,as,H,[],jU N ds,⟨?_,rfl,agQ,agQ,fun a n=>(nomatch n),l,av.refl _,fun i d _ e=>?_,fun i a h=>(by simp at h)⟩,?_⟩
   .unfold jU start;simp[j.len]
   .unfold start;rw[<-j.len];exact sQ j e
   .cases hr:φ (jU N ds)with
    |ok q=>
     rw[hr]at h;cases q with
     |rt d=>assumption
     |rn d=>exact fun p o H' s r e od=>h (.ref p) H' s<|od.den (fun z=>l p z r) e
     |nx Uq0=>exact fun own Y H' I=>h .non H' I.same rfl
     |bk Uq0=>mleft
     |ct Uq0=>mleft
    |er x=>rw[hr]at h;exact fun e C H' s=>h e C H' s
    |no=>rw[hr]at h;mleft
  .mleft
noncomputable def zG(φ:FS)(N P:alq)(ds:aly):R D:=if ds.length=P.length then(φ<|jU N ds).bind fun f=>match f with
 |.rn d=>.ok d
 |_=>.no
 else .no
def UQ(K:aT)(mg:alu)(F:aly->R D):Sp:=fun vs H Q _=>∃as ds,(∀a∈as,H a≠L)/\aE K (mask as H) ds vs/\e8 ⟨K,mg,E0⟩ as H (F ds) Q
theorem Fun.okN{P:ahb}{w:agN}{K:aT}{mg:alu}{base:aij}{x c:Str}{st:ah9}{f:aga}{q:aid}{N ps:alq}{k:Nat}{φ:FS}{O':alp}(F:Fun K x c st f q)(S:FnScope N ps<|aQ st)
  (j:∀(g:By)(_:Qx K g c=U)(A:ahU)(b:List Env)(s:MK)(H:Hp)(E:XK),Room k (A.deeper<|ake c (aQ st) s.heap.objs.size f g) ->
   JB (xq j8 P w K mg base N c (aQ st) f g A b s H E).nox (dM st) (sD ⟨K,mg,E0⟩ [] [] O' φ)):FnOk P w K mg base j8 (k+1) f q ps (UQ K mg (zG φ N ps)):=by
 refine F.okJ S (fun vs H Q E h=>?_) fun g m A b s H vs Q E hr h=>?_
 .refine Z23 h fun as ds n l h=>?_;unfold zG at h;cbv
  .rename_i hl;rw[<-l.len];exact hl
  .mleft
 .refine Z23 h fun as ds n l h=>?_;unfold zG at h;cbv
  .rename_i hl;refine⟨_,j g m A b s H E hr,as,H,[],jU N ds,⟨?_,rfl,agQ,agQ,fun a r=>(nomatch r),n,av.refl _,fun i d _ e=>?_,fun i a h=>(by simp at h)⟩,?_⟩
   .unfold jU start;simp[l.len]
   .unfold jU at e;unfold start;rw[<-l.len];exact sQ l e
   .cases hr:φ (jU N ds)with
    |ok t=>
     rw[hr]at h;cases t with
     |rn d=>exact fun p o H' s u e od=>h p o H' s u e od
     |rt d=>mleft
     |nx Uq0=>mleft
     |bk Uq0=>mleft
     |ct Uq0=>mleft
    |er x=>rw[hr]at h;exact fun e C H' s=>h e C H' s
    |no=>rw[hr]at h;mleft
  .mleft
section
variable{st:ah9}{p pos:Pos}
theorem qE(h:e8 W as H (r.bind g) Q)(q:∀d v H',av H H'->aE W.K (mask as H') d v->e8 W as H' (g d) Q->Q' v H'):g7 W as H r Q':=eJ h q
theorem OG(D:Def X.K X.mg x st ps f fd)(G:FnOk X.prog X.w X.K X.mg X.base j8 j f fd ps<|UQ K mg F)(hr:Room k X.A)(b:JA X (e::es)<|qy ⟨K,mg,E0⟩ O α)(g:autoParam (j<=k) Xax)(hg:autoParam (Gl X x) Xaz)(a:autoParam (alz x) Xax)
  (h1:autoParam (az e=U) Xaz) (h2:autoParam (es.all az=U) Xaz):JE X #[7]<|tN ⟨K,mg,E0⟩ O<|aD F α:=
 (Q4 D G hr b g hg a h1 h2).imp fun Y H Q d=>cx d fun as0 B own Uq0 I h=>⟨as0,B,own,Uq0,I,qE h fun ds vs H1 c i h1=>⟨own++as0,ds,(I.mono c).exi,i,h1⟩⟩
end
end
section
variable{W:Wd}{X:Cx}
theorem aI(h:cX W as H (.ok d) Q)(a:cz W.K (mask as H) d v):Q v H:=h v H (av.refl _) a
theorem Ms:dz X (ahh .Add) (fun x y H Q=>∃l b xs zs,x=.ref l/\y=.ref b/\dF X.K H l xs/\dF X.K H b zs/\xs.length+zs.length<=afT/\∀p,H p=L->Q (.ref p) (upd H p<|.lst<|xs++zs)):=by
 intro f s Y H x y v u Q I d a h;refine Z46 h fun l b xs zs r0_ r1_ c hB hz q=>?_;subst r0_ r1_;cases d;cases a;let⟨its,r,pl,hl⟩:=I.list c
 let⟨its2,r2,pl2,hl2⟩:=I.list hB
 let⟨⟨cls,dd,data,sl⟩,ho,hc,n,hd⟩:=pl.isList
 let⟨⟨cls2,dd2,data2,sl2⟩,ho2,hc2,n2,hd2⟩:=pl2.isList
 subst hc hd hc2 hd2;have e:its.toArray++its2.toArray=(its++its2).toArray:=∅
 refine concat_meets ⟨_,ho,rfl⟩ ⟨_,ho2,rfl⟩ noFill_list_add seq_list_add PySem.F.slot_list_add PySem.F.entry_list_add (PySem.F.args_list_add_2 _ _) (list_addW l b its.toArray its2.toArray n n2 dd dd2 sl sl2<|by rw[af3,af3,<-r.length,<-r2.length];exact hz) ⟨ho,ho2,?_⟩;rw[e];exact⟨.ref _,_,I.lnew (r.append r2)<|by grind,rfl,q _ I.fresh⟩
def Ch(K:aT):R2:=fun x y H Q=>match x,y with
 |.int i,.int j=>Q (.int<|i+j) H
 |.str i,.str j=>i.length+j.length<=afT/\Q (.str<|i++j) H
 | .ref l,.ref b=>(∃ xs zs,dF K H l xs/\dF K H b zs/\xs.length+zs.length<=afT/\∀ p,H p=L->Q (.ref p) (upd H p (.lst (xs++zs)))) \/
   ∃xs zs,hV K H l xs/\hV K H b zs/\xs≠[]/\xs.length+zs.length<=afT/\(zs=[]->Q (.ref l) H)/\(zs≠[]->∀p,H p=L->Q (.ref p) (upd H p<|.tup<|xs++zs))
 |_,_=>False
theorem Qb(K:aT)(e:autoParam (X.K=K) Xaz):dz X (ahh .Add)<|Ch K:=by
 subst e;refine((RK.or AD).or<|Ms.or M9).imp fun x y H Q q=>?_;unfold Ch at q;split at q
 .exact .inl (.inl ⟨_,_,rfl,rfl,q⟩)
 .mright
 .rcases q with⟨xs,zs,h1,h2,a,b⟩|⟨xs,zs,h1,h2,a,b,c,d⟩
  .exact .inr (.inl ⟨_,_,xs,zs,rfl,rfl,h1,h2,a,b⟩)
  .exact .inr (.inr ⟨_,_,xs,zs,rfl,rfl,h1,h2,a,b,c,d⟩)
 .exact q.elim
noncomputable def eR(a b:D):R D:=match a,b with
 |.int i,.int j=>.ok<|.int<|i+j
 |.str x,.str y=>if x.length+y.length<=1000000 then .ok (.str<|x++y)else .no
 |.lst xs,.lst ys=>if xs.length+ys.length<=1000000 then .ok (.lst<|xs++ys)else .no
 |.tup xs,.tup ys=>if xs.isEmpty=η/\xs.length+ys.length<=1000000 then .ok (.tup<|xs++ys)else .no
 |_,_=>.no
theorem VB(K:aT)(hW:autoParam (W.K=K) Xaz):pb W (Ch K) eR:=by
 subst hW;intro as H x y a b Q hn k i h;unfold eR at h;cbv
 .cases k;cases i;exact aI h rfl
 .cases k;cases i;cbv
  .rename_i hl;exact⟨DO hl cR,aI h rfl⟩
  .mleft
 .obtain⟨p,vs,rfl,j,c⟩:=k;obtain⟨p2,ws,rfl,m,g⟩:=i;cbv
  .rename_i hl;rw[c.len,g.len]at hl;refine .inl ⟨vs,ws,(ap _ _).seq j,(ap _ _).seq m,DO hl cR,fun p f=>?_⟩;refine h _ _ (aH f _) ⟨p,vs++ws,rfl,.inl<|.inl<|by rw[aO<|hn p f];exact aG,(c.append g).mono<|aM<|aH f _⟩
  .mleft
 .rename_i xs ys;obtain⟨p,vs,rfl,j,c⟩:=k;obtain⟨p2,ws,rfl,m,g⟩:=i;cbv
  .rename_i hl;let⟨he,hl⟩:=hl
   have l:vs≠[]:=fun z=>by
    have:=c.empty
    rw[he,z]at this;cases this
   rw[c.len,g.len]at hl;refine .inr ⟨vs,ws,(ap _ _).seqT j,(ap _ _).seqT m,l,DO hl cR,fun z=>?_,fun z p f=>?_⟩
   .have:ys=[]:=by
     cases ys with
     |nil=>rfl
     |cons d r=>let⟨_,_,e,_⟩:=g;rw[z]at e;cases e
    subst this;rw[agh]at h;exact aI h ⟨p,vs,rfl,j,c⟩
   .exact h _ _ (aH f _) ⟨p,vs++ws,rfl,.inl<|.inl<|by rw[aO<|hn p f];exact aG,(c.append g).mono<|aM<|aH f _⟩
  .mleft
 .mleft
noncomputable def zi(a b:D):R D:=match a,b with
 |.int i,.int j=>.ok<|.int<|i-j
 |_,_=>.no
theorem AA:dz X (ahh .Mult) (fun x y H Q=>∃i n,x=.str i/\y=.int n/\MulOk i n/\Q (.str<|Txt.mul i n) H):=by
 intro e s Y H x y v u Q I d a h;obtain⟨i,n,rfl,rfl,b,q⟩:=h;obtain⟨t,rfl⟩:=d;obtain⟨t',rfl⟩:=a;exact aP I.tk<|SB.mul b fun t' k c=>⟨.str _,H,I.tok _,⟨t',rfl⟩,q⟩
def QN:R2:=fun x y H Q=>match x,y with
 |.int i,.int j=>BQ i j/\Q (.int<|i*j) H
 |.str i,.int j=>MulOk i j/\Q (.str<|Txt.mul i j) H
 |_,_=>False
instance (i j:Int):Decidable<|BQ i j:=by unfold BQ;infer_instance
instance (i j:Int):Decidable<|Hh i j:=by unfold Hh;infer_instance
instance (i j:Int):Decidable<|KN i j:=by unfold KN;infer_instance
noncomputable def rC(a b:D):R D:=match a,b with
 |.int i,.int j=>if BQ i j then .ok (.int<|i*j)else .no
 |.str x,.int n=>if x.length<=1000/\-1000<=n/\n<=1000 then .ok (.str<|Txt.mul x n)else .no
 |_,_=>.no
theorem acJ:pb W QN rC:=by
 intro as H x y a b Q hn d c h;unfold rC at h;cbv
 .cases d;cases c;cbv
  .rename_i hl;exact⟨hl,aI h rfl⟩
  .mleft
 .cases d;cases c;cbv
  .rename_i hl;exact⟨mulOk_of 1000 1000 hl.1 ⊥ ⊥ ∎<|∎,aI h rfl⟩
  .mleft
 .mleft
noncomputable def rg(a b:D):R D:=match a,b with
 |.int i,.int j=>if Hh i j then .ok (.int<|i/j)else .no
 |_,_=>.no
noncomputable def mf(a b:D):R D:=match a,b with
 |.int i,.int j=>if 0<j then .ok (.int<|i%j)else .no
 |_,_=>.no
noncomputable def GU(a b:D):R D:=match a,b with
 |.int i,.int j=>if KN i j then .ok (.int<|i^j.toNat)else .no
 |_,_=>.no
noncomputable def Hv(a:D):R D:=match a with
 |.int i=>.ok<|.int<|-i
 |_=>.no
noncomputable def LD(a b:D):R D:=match a,b with
 |.int i,.int j=>.ok<|.bl<|decide (i<j)
 |.str i,.str j=>.ok<|.bl<|decide (i.cps.toList<j.cps.toList)
 |_,_=>.no
noncomputable def O6(a b:D):R D:=match a,b with
 |.int i,.int j=>.ok<|.bl<|decide (i<=j)
 |.str i,.str j=>.ok<|.bl<|!decide (j.cps.toList<i.cps.toList)
 |_,_=>.no
noncomputable def Lz(a b:D):R D:=match a,b with
 |.int i,.int j=>.ok<|.bl<|decide (j<i)
 |.str i,.str j=>.ok<|.bl<|decide (j.cps.toList<i.cps.toList)
 |_,_=>.no
noncomputable def IK(a b:D):R D:=match a,b with
 |.int i,.int j=>.ok<|.bl<|decide (j<=i)
 |.str i,.str j=>.ok<|.bl<|!decide (i.cps.toList<j.cps.toList)
 |_,_=>.no
theorem aeQ:pb W abD LD:=by
 intro as H x y a b Q hn d c h;unfold LD at h;cbv
 .cases d;cases c;exact aI h rfl
 .cases d;cases c;exact aI h rfl
 .mleft
theorem aeL:pb W acw O6:=by
 intro as H x y a b Q hn d c h;unfold O6 at h;cbv
 .cases d;cases c;exact aI h rfl
 .cases d;cases c;exact aI h rfl
 .mleft
theorem afG:pb W ab3 Lz:=by
 intro as H x y a b Q hn d c h;unfold Lz at h;cbv
 .cases d;cases c;exact aI h rfl
 .cases d;cases c;exact aI h rfl
 .mleft
theorem ad5:pb W ac9 IK:=by
 intro as H x y a b Q hn d c h;unfold IK at h;cbv
 .cases d;cases c;exact aI h rfl
 .cases d;cases c;exact aI h rfl
 .mleft
def acM:D->Bool
 |.non=>U
 |_=>η
noncomputable def adP(j:Bool):D->Bool
 |.bl i=>i==j
 |_=>η
def Nk(x:D)(y:D):R D:=match y with
 |.non=>.ok<|.bl<|acM x
 |.bl j=>.ok<|.bl<|adP j x
 |_=>.no
theorem Fp{K:aT}(h:cz K H a x):LI x .non=acM a:=by
 cases a with
 |lst _=>obtain⟨_,_,rfl,_⟩:=h;rfl
 |tup _=>obtain⟨_,_,rfl,_⟩:=h;rfl
 |dct _=>obtain⟨_,_,rfl,_⟩:=h;rfl
 |obj _ _=>obtain⟨_,_,_,_,rfl,_⟩:=h;rfl
 |exn _=>obtain⟨_,_,rfl,_⟩:=h;rfl
 |cls _=>obtain⟨_,rfl,_⟩:=h;rfl
 |lsm _=>obtain⟨_,_,rfl,_⟩:=h;rfl
 |dcf _=>obtain⟨_,_,_,rfl,_⟩:=h;rfl
 |_=>nofun;rfl
theorem E9{K:aT}(h:cz K H a x):LI x (.bl j)=adP j a:=by
 cases a with
 |lst _=>obtain⟨_,_,rfl,_⟩:=h;rfl
 |tup _=>obtain⟨_,_,rfl,_⟩:=h;rfl
 |dct _=>obtain⟨_,_,rfl,_⟩:=h;rfl
 |obj _ _=>obtain⟨_,_,_,_,rfl,_⟩:=h;rfl
 |exn _=>obtain⟨_,_,rfl,_⟩:=h;rfl
 |cls _=>obtain⟨_,rfl,_⟩:=h;rfl
 |lsm _=>obtain⟨_,_,rfl,_⟩:=h;rfl
 |dcf _=>obtain⟨_,_,_,rfl,_⟩:=h;rfl
 |_=>nofun;rfl
theorem afp:pb W aaz Nk:=by
 intro as H x y a b Q hn d c h;unfold Nk at h;cbv
 .cases c;show Q (.bl<|LI x .non) H;rw[Fp d];exact aI h rfl
 .cases c;show Q (.bl<|LI x<|.bl _) H;rw[E9 d];exact aI h rfl
 .mleft
mutual
def bM:D->Option ahq
 |.non=>Z .none
 |.bl b=>Z<|.bool b
 |.int i=>Z<|.int i
 |.str x=>Z<|.str x
 |.lst xs=>(bH xs).map .list
 |.tup xs=>(bH xs).map .tuple
 |_=>L
def bH:aly->Option (List ahq)
 |[]=>Z []
 |d::ds=>(bM d).bind fun p=>(bH ds).map (p::·)
end
mutual
theorem eU{c:alr}{Y:St}{H:Hp}{s:MK}(I:Inv X c Y H s):∀{d:D}{v:V}{u:By}{p:ahq},cz X.K H d v->a7 v u->bM d=Z p->∃as,Reads s.heap u p as
 |.non,_,_,_,h,r,e=>by nofun;cases r;cases e;exact⟨_,.none⟩
 |.bl b,_,_,_,h,r,e=>by nofun;cases r;cases e;exact⟨_,.bool b⟩
 |.int i,_,_,_,h,r,e=>by nofun;obtain⟨t,rfl⟩:=r;cases e;exact⟨_,.int i t⟩
 |.str x,_,_,_,h,r,e=>by nofun;obtain⟨t,rfl⟩:=r;cases e;exact⟨_,.str x t⟩
 |.lst ds,_,_,_,⟨a,xs,h0,h1,h2⟩,r,e=>by
  subst h0;cases r;unfold bM at e;cases q:bH ds with
  |none=>rw[q]at e;cases e
  |some ps=>
   rw[q]at e;cases e;let⟨its,rv,pl,hz⟩:=I.list h1
   let⟨o,ho,hc,n,hd⟩:=pl.isList
   let⟨as,ha⟩:=lf I h2 rv q
   exact⟨_,.list ho hc hd<|by simpa using ha⟩
 |.tup ds,_,_,_,⟨a,xs,h0,h1,h2⟩,r,e=>by
  subst h0;cases r;unfold bM at e;cases q:bH ds with
  |none=>grind
  |some ps=>
   rw[q]at e;cases e;let⟨its,rv,pl,hz⟩:=I.tuple h1
   let⟨o,ho,hc,n,hd⟩:=pl
   let⟨as,ha⟩:=lf I h2 rv q
   exact⟨_,.tuple ho hc hd<|by simpa using ha⟩
 |.dct _,_,_,_,_,_,e=>by cases e
 |.obj _ _,_,_,_,_,_,e=>by cases e
 |.ty _,_,_,_,_,_,e=>by cases e
 |.exn _,_,_,_,_,_,e=>by cases e
 |.cls _,_,_,_,_,_,e=>by cases e
 |.lsm _,_,_,_,_,_,e=>by cases e
 |.dcf _,_,_,_,_,_,e=>by cases e
theorem lf{a:alr}{Y:St}{H:Hp}{s:MK}(I:Inv X a Y H s):∀{ds:aly}{vs:alx}{us:alw}{ps:List ahq},aE X.K H ds vs->aY vs us->bH ds=Z ps->∃as,ReadsAll s.heap us ps as
 |[],_,_,_,h,r,e=>by nofun;cases r;cases e;exact⟨_,.nil⟩
 |d::ds,_,_,_,⟨v,vs,h0,h1,h2⟩,r,e=>by
  subst h0;unfold bH at e;cases q:bM d with
  |none=>grind
  |some p=>
   rw[q]at e;cases q2:bH ds with
   |none=>mright
   |some ps=>
    rw[q2]at e;cases e;cases r with
    |cons r1 r2=>
     let⟨as,ha⟩:=eU I h1 r1 q
     let⟨bs,hb⟩:=lf I h2 r2 q2
     exact⟨_,.cons ha hb⟩
end
noncomputable def cH:D->Option V
 |.non=>Z .non
 |.bl b=>Z<|.bl b
 |.int i=>Z<|.int i
 |.str x=>Z<|.str x
 |_=>L
theorem fe{K:aT}(h:cz K H d v)(e:cH d=Z x):v=x:=by
 cases d with
 |non=>cases e;exact h
 |bl b=>cases e;exact h
 |int b=>cases e;exact h
 |str b=>cases e;exact h
 |_=>cases e
def dC(a b:D):Option Bool:=match bM a,bM b with
 |some p,Z q=>if agk p=U/\agk q=U then Z (agS p q)else L
 |_,_=>L
def jG(a b:D):Option Bool:=match cH a,cH b with
 |some x,Z y=>if wI x y=U then Z (decide (x=y))else L
 |_,_=>dC a b
def vj(K:aT)(f:Bool->Bool):R2:=fun x y H Q=>∃a b k,cz K H a x/\cz K H b y/\jG a b=Z k/\Q (.bl<|f k) H
theorem yq(h:dC a b=Z k):∃p q,bM a=Z p/\bM b=Z q/\agk p=U/\agk q=U/\k=agS p q:=by
 unfold dC at h;cbv
 .mright
 .nofun
theorem S5(K:aT)(j:X.A.units+64<aiV)(g:autoParam (X.K=K) Xaz):dz X (agf .Eq)<|vj K fun k=>k:=by
 subst g;intro l s Y H x y v u Q I d c h;let⟨a,b,k,da,db,e,q⟩:=h
 unfold jG at e;split at e
 .rename_i x' y' e1 e2;split at e
  .rename_i hs;cases e
   have:=fe da e1;subst this
   have:=fe db e2;subst this
   exact XX l s Y H _ _ v u Q I d c ⟨hs,q⟩
  .cases e
 .obtain⟨p,m,h1,h2,f,i,rfl⟩:=yq e;let⟨as,ra⟩:=eU I da d h1
  let⟨bs,rb⟩:=eU I db c h2
  exact eq_dataH ra rb f i j ⟨.bl _,H,I,rfl,q⟩
theorem Rs(K:aT)(j:X.A.units+64<aiV)(g:autoParam (X.K=K) Xaz):dz X (agf .NotEq)<|vj K fun k=>!k:=by
 subst g;intro l s Y H x y v u Q I d c h;let⟨a,b,k,da,db,e,q⟩:=h
 unfold jG at e;split at e
 .rename_i x' y' e1 e2;split at e
  .rename_i hs;cases e
   have:=fe da e1;subst this
   have:=fe db e2;subst this
   exact Y4 l s Y H _ _ v u Q I d c ⟨hs,q⟩
  .cases e
 .obtain⟨p,m,h1,h2,f,i,rfl⟩:=yq e;let⟨as,ra⟩:=eU I da d h1
  let⟨bs,rb⟩:=eU I db c h2
  exact ne_dataH ra rb f i j ⟨.bl _,H,I,rfl,q⟩
noncomputable def d7(o:Option Bool)(f:Bool->Bool):R D:=match o with
 |some k=>.ok<|.bl<|f k
 |none=>.no
def cW(a b:D):R D:=d7 (jG a b) fun k=>k
def nC(a b:D):R D:=d7 (jG a b) fun k=>!k
theorem Xx(K:aT)(f:Bool->Bool)(hW:autoParam (W.K=K) Xaz):pb W (vj K f) (fun a b=>d7 (jG a b) f):=by
 subst hW;intro as H x y a b Q hn d c h;have h:cX W as H (d7 (jG a b) f) Q:=h;cases e:jG a b with
 |none=>rw[e]at h;mleft
 |some k=>
  rw[e]at h;exact⟨a,b,k,d.mono<|ap _ _,c.mono<|ap _ _,e,aI h rfl⟩
theorem aet(K:aT)(hW:autoParam (W.K=K) Xaz):pb W (vj K fun k=>k) cW:=Xx K _ hW
theorem afl(K:aT)(hW:autoParam (W.K=K) Xaz):pb W (vj K fun k=>!k) nC:=Xx K _ hW
def jQ:aly->Option (alx)
 |[]=>Z []
 |d::ds=>(cH d).bind fun v=>(jQ ds).map (v::·)
theorem mI{K:aT}{H:Hp}:∀{ds:aly}{vs xs:alx},aE K H ds vs->jQ ds=Z xs->vs=xs/\xs.all fO=U:=@bb _ _ (@fun _ _ h e=>by nofun;cases e;exact⟨rfl,rfl⟩) fun d ds i=>@fun _ _ j e=>Z23 j fun v vs h0 h1 h2=>by
  subst h0;unfold jQ at e;cases q:cH d with
  |none=>grind
  |some x=>
   rw[q]at e;cases q2:jQ ds with
   |none=>grind
   |some xs=>
    rw[q2]at e;cases e;let⟨h3,h4⟩:=i h2 q2
    refine⟨by rw[fe h1 q,h3],?_⟩;rw[agJ,h4];cases d<;>cases q<;>rfl
theorem tw(e:cH d=Z x):fO x=U:=by cases d<;>cases e<;>rfl
def SI(j i:Str):Bool:=!(aiz j i 0 j.length 1).isEmpty
def zB(K:aT)(a:Bool):R2:=fun x y H Q=>match x,y with
 |.str i,.str j=>Q (.bl<|if a=U then !SI j i else SI j i) H
 |x,.ref p=>∃xs,(dF K H p xs\/hV K H p xs)/\fO x=U/\xs.all fO=U/\Q (.bl<|if a=U then !Gx x xs else Gx x xs) H
 |_,_=>False
theorem YW(K:aT)(a:autoParam (X.K=K) Xaz):dz X (agf .In)<|zB K η:=by
 subst a;refine(Fj.or FU).imp fun x y H Q q=>?_;unfold zB at q;split at q
 .exact .inl ⟨_,_,rfl,rfl,q⟩
 .let⟨xs,h1,h2,h3,h4⟩:=q
  exact .inr ⟨_,xs,rfl,h1,h2,h3,h4⟩
 .exact q.elim
theorem DW(K:aT)(b:autoParam (X.K=K) Xaz):dz X (agf .NotIn)<|zB K U:=by
 subst b;refine(xG.or ww).imp fun x y H Q q=>?_;unfold zB at q;split at q
 .exact .inl ⟨_,_,rfl,rfl,q⟩
 .refine Z14 q fun xs h1 h2 a c=>?_;exact .inr ⟨_,xs,rfl,h1,h2,a,c⟩
 .exact q.elim
def vJ(x:D)(xs:aly):Option Bool:=match cH x,jQ xs with
 |some v,Z vs=>Z<|Gx v vs
 |_,_=>L
def aad(x y:D):Option Bool:=match y with
 |.str j=>match x with
  |.str i=>Z<|SI j i
  |_=>L
 |.lst xs=>vJ x xs
 |.tup xs=>vJ x xs
 |_=>L
def FB(x y:D):R D:=d7 (aad x y) fun k=>if η=U then !k else k
def lm(x y:D):R D:=d7 (aad x y) fun k=>if U=U then !k else k
theorem WY(K:aT)(c:Bool)(hW:autoParam (W.K=K) Xaz):pb W (zB K c) (fun a b=>d7 (aad a b) fun k=>if c=U then !k else k):=by
 subst hW;intro as H x y a b Q hn g d h;have key:∀(p:aga)(ds:aly)(vs:alx),y=.ref p->(dF W.K H p vs\/hV W.K H p vs)->aE W.K (mask as H) ds vs->cX W as H (d7 (vJ a ds) fun k=>if c=U then !k else k) Q->zB W.K c x y H Q:=by
  intro p ds vs hy m l h;subst hy;unfold vJ at h;cases e1:cH a with
  |none=>rw[e1]at h;mleft
  |some v=>
   rw[e1]at h;cases e2:jQ ds with
   |none=>rw[e2]at h;mleft
   |some ws=>
    rw[e2]at h
    have:=fe g e1
    subst this;let⟨h3,h4⟩:=mI l e2
    subst h3;have fin:∃xs,(dF W.K H p xs\/hV W.K H p xs)/\fO x=U/\xs.all fO=U/\Q (.bl<|if c=U then !Gx x xs else Gx x xs) H:=⟨vs,m,tw e1,h4,aI h rfl⟩;cases x<;>exact fin
 cases b with
 |str j=>
  cases a with
  |str i=>cases g;cases d;exact aI h rfl
  |_=>mleft
 |lst ds=>obtain⟨p,vs,rfl,e,f⟩:=d;exact key p ds vs rfl (.inl<|(ap _ _).seq e) f h
 |tup ds=>obtain⟨p,vs,rfl,e,f⟩:=d;exact key p ds vs rfl (.inr<|(ap _ _).seqT e) f h
 |_=>mleft
theorem aeC(K:aT)(hW:autoParam (W.K=K) Xaz):pb W (zB K η) FB:=WY K η hW
theorem Ki(K:aT)(hW:autoParam (W.K=K) Xaz):pb W (zB K U) lm:=WY K U hW
def bw(a b:D):R D:=match a,b with
 |.str z,.int i=>if z.length<=1000000 then(match atI z.cps.toList i with
  |some c=>.ok<|.str ⟨#[c]⟩
  |none=>.no)else .no
 |.lst xs,.int i=>match atI xs i with
  |some d=>.ok d
  |none=>.no
 |.tup xs,.int i=>match atI xs i with
  |some d=>.ok d
  |none=>.no
 |_,_=>.no
theorem aE.atI{K:aT}(h:aE K H ds xs)(e:atI ds i=Z d):∃v,L2.atI xs i=Z v/\cz K H d v:=by
 unfold L2.atI at e⊢;rw[h.len]at e;cases q:NT xs.length i with
 |none=>grind
 |some j=>
  rw[q]at e;exact h.get e
theorem pIx(K:aT)(hW:autoParam (W.K=K) Xaz):pb W (Zv K) bw:=by
 subst hW;intro as H x y a b Q hn j f h;unfold bw at h;cbv
 .cases j;cases f;cbv
  .rename_i hl;cbv
   .rename_i c e;exact⟨c,DO hl cR,e,aI h rfl⟩
   .mleft
  .mleft
 .obtain⟨p,vs,rfl,g,i⟩:=j;cases f;cbv
  .rename_i d e;let⟨v,h1,h2⟩:=i.atI e
   exact⟨vs,v,.inl<|(ap _ _).seq g,h1,aI h h2⟩
  .mleft
 .obtain⟨p,vs,rfl,g,i⟩:=j;cases f;cbv
  .rename_i d e;let⟨v,h1,h2⟩:=i.atI e
   exact⟨vs,v,.inr<|(ap _ _).seqT g,h1,aI h h2⟩
  .mleft
 .mleft
def hZ(xs:aly)(lo a:Option Int):aly:=(xs.drop<|HT.sIx xs.length 0 lo).take<|HT.sIx xs.length xs.length a-HT.sIx xs.length 0 lo
theorem aE.cut{K:aT}(h:aE K H ds xs)(lo a:Option Int):aE K H (hZ ds lo a)<|zy xs lo a:=by
 unfold hZ zy;rw[h.len];exact(h.drop _).take _
def si(a:D)(lo b:Option Int):R D:=match a with
 |.str z=>if z.length<=1000000 then .ok (.str<|nH z lo b)else .no
 |.lst xs=>.ok<|.lst<|hZ xs lo b
 |.tup xs=>if HT.sIx xs.length 0 lo=0/\HT.sIx xs.length xs.length b=xs.length then .no else .ok (.tup<|hZ xs lo b)
 |_=>.no
theorem aao(K:aT)(hW:autoParam (W.K=K) Xaz):Z3 W (XJ K) si:=by
 subst hW;intro as H x lo f a Q hn e h;unfold si at h;cbv
 .cases e;cbv
  .rename_i hl;exact⟨DO hl cR,aI h rfl⟩
  .mleft
 .obtain⟨p,vs,rfl,d,c⟩:=e;refine .inl ⟨vs,(ap _ _).seq d,fun p b=>h _ _ (aH b _) ⟨p,_,rfl,.inl<|.inl<|by rw[aO<|hn p b];exact aG,(c.cut lo f).mono<|aM<|aH b _⟩⟩
 .obtain⟨p,vs,rfl,d,c⟩:=e;cbv
  .mleft
  .rename_i hc;rw[c.len]at hc;exact .inr ⟨vs,(ap _ _).seqT d,hc,fun p b=>h _ _ (aH b _) ⟨p,_,rfl,.inl<|.inl<|by rw[aO<|hn p b];exact aG,(c.cut lo f).mono<|aM<|aH b _⟩⟩
 .mleft
noncomputable def c8(ds:aly):R D:=match ds with
 |[.str z]=>if z.length<=1000000 then .ok (.int z.length)else .no
 |[.lst xs]=>.ok<|.int xs.length
 |[.tup xs]=>.ok<|.int xs.length
 |_=>.no
theorem eL{K:aT}(h:aE K H [d] xs):∃v,xs=[v]/\cz K H d v:=by
 obtain⟨v,vs,rfl,h1,h2⟩:=h;cases h2;exact⟨v,rfl,h1⟩
theorem Qk{K:aT}(h:aE K H [d,e] xs):∃v u,xs=[v,u]/\cz K H d v/\cz K H e u:=by
 obtain⟨v,vs,rfl,h1,h2⟩:=h;obtain⟨u,rfl,a⟩:=eL h2;exact⟨v,u,rfl,h1,a⟩
theorem abj(K:aT)(hW:autoParam (W.K=K) Xaz):qX W (TQ K) c8:=by
 subst hW;intro as H xs ds Q hn b h;unfold c8 at h;cbv
 .obtain⟨v,rfl,a⟩:=eL b;cases a;cbv
  .rename_i hl;exact⟨DO hl cR,aI h rfl⟩
  .mleft
 .obtain⟨v,rfl,a⟩:=eL b;obtain⟨p,vs,rfl,c,d⟩:=a;refine⟨vs,.inl<|(ap _ _).seq c,?_⟩;rw[<-d.len];exact aI h rfl
 .obtain⟨v,rfl,a⟩:=eL b;obtain⟨p,vs,rfl,c,d⟩:=a;refine⟨vs,.inr<|(ap _ _).seqT c,?_⟩;rw[<-d.len];exact aI h rfl
 .mleft
noncomputable def V8(ds:aly):R D:=match ds with
 |[.int i]=>.ok<|.int<|if i<0 then -i else i
 |_=>.no
noncomputable def Md(ds:aly):R D:=match ds with
 |[.int i]=>.ok<|.int i
 |[.bl k]=>.ok<|.int<|if k=U then 1 else 0
 |_=>.no
noncomputable def yR:aly->Option (List Bool)
 |[]=>Z []
 |.bl b::ds=>(yR ds).map (b::·)
 |_=>L
theorem yE{K:aT}:∀{ds:aly}{vs:alx}{bs:List Bool},aE K H ds vs->yR ds=Z bs->vs=bs.map V.bl:=@bb _ _ (@fun _ _ h e=>by nofun;cases e;rfl) fun d ds i=>@fun _ _ j e=>Z23 j fun v vs h0 h1 h2=>by
  subst h0;cases d with
  |bl b=>
   have e:(yR ds).map (b::·)=Z _:=e;cases q2:yR ds with
   |none=>mright
   |some xs=>
    rw[q2]at e;cases e;cases h1;rw[i h2 q2];rfl
  |_=>cases e
def zA(ds:aly):R D:=match ds with
 |[.lst xs]=>match yR xs with
  |some bs=>.ok<|.bl<|bs.all id
  |none=>.no
 |_=>.no
theorem aaZ(K:aT)(hW:autoParam (W.K=K) Xaz):qX W (Ug K) zA:=by
 subst hW;intro as H xs ds Q hn b h;unfold zA at h;cbv
 .obtain⟨v,rfl,a⟩:=eL b;obtain⟨p,vs,rfl,c,d⟩:=a;cbv
  .rename_i bs e;refine⟨bs,?_,aI h rfl⟩;rw[<-yE d e];exact(ap _ _).seq c
  .mleft
 .mleft
def C9(K:aT)(xs:alx)(H:Hp)(Q:VK):Prop:=match xs with
 |[x,.ty C]=>qO C=U/\(match x with
  |.non=>Q (.bl<|kF "NoneType" C) H
  |.bl _=>Q (.bl<|kF "bool" C) H
  |.int _=>Q (.bl<|kF "int" C) H
  |.str _=>Q (.bl<|kF "str" C) H
  |.ref a=>(∃xs,dF K H a xs/\Q (.bl<|kF "list" C) H)\/(∃xs,hV K H a xs/\Q (.bl<|kF "tuple" C) H)\/(∃b,H a=Z (.dK b)/\Q (.bl<|kF "dict" C) H)\/∃o b,H a=Z (.frz o<|.dK b)/\Q (.bl<|kF "dict" C) H
  |_=>False)
 |_=>False
theorem O8(K:aT)(l:autoParam (X.K=K) Xaz):bF X (.builtin "isinstance")<|C9 K:=by
 subst l;intro v s Y H xs us Q I r h;unfold C9 at h;cbv
 .rename_i x C;obtain⟨d,h⟩:=h;obtain⟨u,c,rfl,f,t⟩:=PX r;cases t;have fin:∀(b:Bool),Q (.bl b) H->∀tk,X.tn<=tk->EP X v Y Q (.bool b) {s with toks:=tk}:=fun b q tk p=>⟨.bl b,H,I.tok tk,rfl,q⟩;refine aP I.tk ?_;cases x with
  |non=>exact iY I f .non (iq (.inl rfl) d)<|fin _ h
  |bl b=>exact iY I f (.bl b) (iq (.inr<|.inl rfl) d)<|fin _ h
  |int b=>exact iY I f (.int b) (iq (.inr<|.inr<|.inl rfl) d)<|fin _ h
  |str b=>exact iY I f (.str b) (iq (.inr<|.inr<|.inr<|.inl rfl) d)<|fin _ h
  |ref a=>
   cases f;rcases h with⟨xs,e,q⟩|⟨xs,e,q⟩|⟨j,e,q⟩|⟨w,j,e,q⟩
   .obtain⟨its,m,pl,hz⟩:=I.list e;obtain⟨o,g,i,n,k⟩:=pl.isList;exact agA ajB I.kIn ⟨o,g,i⟩ (iq (.inr<|.inr<|.inr<|.inr<|.inl rfl) d) #[16]<|fin _ q
   .let⟨its,m,pl,hz⟩:=I.tuple e
    let⟨o,g,i,n,k⟩:=pl
    exact agA akC I.kIn ⟨o,g,i⟩ (iq (.inr<|.inr<|.inr<|.inr<|.inr<|.inl rfl) d) #[16]<|fin _ q
   .exact iY (x:=.ref a) I rfl (.dK e) (iq (.inr<|.inr<|.inr<|.inr<|.inr<|.inr rfl) d) (fin _ q)
   .let⟨_,_,_,vs,_,o,es,ep,h1,h2,_⟩:=((I.hok a _ e))
    exact agA ajC I.kIn ⟨o,h1,h2.1⟩ (iq (.inr<|.inr<|.inr<|.inr<|.inr<|.inr rfl) d) #[16]<|fin _ q
  |_=>mleft
 .mleft
def pJ(ds:aly):R D:=match ds with
 |[x,.ty C]=>if qO C=U then(match x with
  |.non=>.ok<|.bl<|kF "NoneType" C
  |.bl _=>.ok<|.bl<|kF "bool" C
  |.int _=>.ok<|.bl<|kF "int" C
  |.str _=>.ok<|.bl<|kF "str" C
  |.lst _=>.ok<|.bl<|kF "list" C
  |.tup _=>.ok<|.bl<|kF "tuple" C
  |.dct _=>.ok<|.bl<|kF "dict" C
  |.dcf _=>.ok<|.bl<|kF "dict" C
  |_=>.no)else .no
 |_=>.no
theorem aaE(K:aT)(hW:autoParam (W.K=K) Xaz):qX W (C9 K) pJ:=by
 subst hW;intro as H xs ds Q hn e h;unfold pJ at h;cbv
 .obtain⟨v,u,rfl,a,d⟩:=Qk e;cases d;cbv
  .rename_i hC;cbv
   .cases a;exact⟨hC,aI h rfl⟩
   .cases a;exact⟨hC,aI h rfl⟩
   .cases a;exact⟨hC,aI h rfl⟩
   .cases a;exact⟨hC,aI h rfl⟩
   .obtain⟨p,vs,rfl,b,c⟩:=a;exact⟨hC,.inl ⟨vs,(ap _ _).seq b,aI h rfl⟩⟩
   .obtain⟨p,vs,rfl,b,c⟩:=a;exact⟨hC,.inr<|.inl ⟨vs,(ap _ _).seqT b,aI h rfl⟩⟩
   .obtain⟨p,vs,rfl,b,c⟩:=a;exact⟨hC,.inr<|.inr<|.inl ⟨vs,ap _ _ _ _ b,aI h rfl⟩⟩
   .obtain⟨p,o,vs,rfl,b,c⟩:=a;exact⟨hC,.inr<|.inr<|.inr ⟨o,vs,ap _ _ _ _ b,aI h rfl⟩⟩
   .mleft
  .mleft
 .mleft
def xO(K:aT)(xs:alx)(H:Hp)(Q:VK):Prop:=match xs with
 |[.ref p]=>(∃ys,dF K H p ys/\∀l,H l=L->Q (.ref l) (upd H l<|.tup ys))\/∃ys,hV K H p ys/\Q (.ref p) H
 |_=>False
theorem Ji(K:aT)(a:autoParam (X.K=K) Xaz):bF X (.type "tuple")<|xO K:=by
 subst a;refine u6.imp fun xs H Q q=>?_;unfold xO at q;split at q
 .rcases q with⟨ys,h1,h2⟩|⟨ys,h1,h2⟩
  .exact⟨_,ys,rfl,.inl ⟨h1,h2⟩⟩
  .exact⟨_,ys,rfl,.inr ⟨h1,h2⟩⟩
 .exact q.elim
noncomputable def oM(ds:aly):R D:=match ds with
 |[.lst xs]=>.ok<|.tup xs
 |[.tup xs]=>.ok<|.tup xs
 |_=>.no
theorem TC{as:alv}{H:Hp}(hn:∀a∈as,H a≠L):∀p,H p=L->p∉as:=fun p b z=>hn p z b
theorem aaD(K:aT)(hW:autoParam (W.K=K) Xaz):qX W (xO K) oM:=by
 subst hW;intro as H xs ds Q hn e h;unfold oM at h;cbv
 .obtain⟨v,rfl,c⟩:=eL e;obtain⟨p,vs,rfl,a,d⟩:=c;exact .inl ⟨vs,(ap _ _).seq a,fun l b=>h _ _ (aH b _) ⟨l,vs,rfl,.inl<|.inl<|by rw[aO<|TC hn l b];exact aG,d.mono<|aM<|aH b _⟩⟩
 .obtain⟨v,rfl,c⟩:=eL e;obtain⟨p,vs,rfl,a,d⟩:=c;exact .inr ⟨vs,(ap _ _).seqT a,aI h ⟨p,vs,rfl,a,d⟩⟩
 .mleft
def xR(K:aT)(xs:alx)(H:Hp)(Q:VK):Prop:=match xs with
 |[.ref p]=>∃ys,(dF K H p ys\/hV K H p ys)/\∀l,H l=L->Q (.ref l) (upd H l<|.lst ys)
 |_=>False
theorem Ii(K:aT)(a:autoParam (X.K=K) Xaz):bF X (.type "list")<|xR K:=by
 refine w8.imp fun xs H Q q=>?_;unfold xR at q;split at q
 .mright
 .exact q.elim
noncomputable def vd(ds:aly):R D:=match ds with
 |[.lst xs]=>.ok<|.lst xs
 |[.tup xs]=>.ok<|.lst xs
 |_=>.no
theorem abh(K:aT)(hW:autoParam (W.K=K) Xaz):Kg W (xR K) vd:=by
 subst hW;intro as H xs ds Q hn e h;unfold vd at h;cbv
 .obtain⟨v,rfl,c⟩:=eL e;obtain⟨p,vs,rfl,b,d⟩:=c;exact⟨vs,.inl<|(ap _ _).seq b,fun l a=>h l _ _ (aH a _) a aG ⟨vs,rfl,d.mono<|fL a<|aH a _⟩⟩
 .obtain⟨v,rfl,c⟩:=eL e;obtain⟨p,vs,rfl,b,d⟩:=c;exact⟨vs,.inr<|(ap _ _).seqT b,fun l a=>h l _ _ (aH a _) a aG ⟨vs,rfl,d.mono<|fL a<|aH a _⟩⟩
 .mleft
theorem N6:JE X (.Dict [] [] pos)<|tN W O<|vC<|.dct []:=M8.imp fun Y H Q⟨as0,B,own,Uq0,I,h⟩p hp=>h p _ _ (aH hp _) hp aG ⟨[],rfl,rfl⟩
noncomputable def n6:aly->Option (alq)
 |[]=>Z []
 |.str b::ds=>(n6 ds).map (b::·)
 |_=>L
theorem pG{K:aT}:∀{ds:aly}{vs:alx}{bs:alq},aE K H ds vs->n6 ds=Z bs->vs=bs.map V.str:=@bb _ _ (@fun _ _ h e=>by nofun;cases e;rfl) fun d ds i=>@fun _ _ j e=>Z23 j fun v vs h0 h1 h2=>by
  subst h0;cases d with
  |str b=>
   have e:(n6 ds).map (b::·)=Z _:=e;cases q2:n6 ds with
   |none=>mright
   |some xs=>
    rw[q2]at e;cases e;cases h1;rw[i h2 q2];rfl
  |_=>cases e
def ue(z:Str)(ds:aly):R D:=match ds with
 |[.lst xs]=>match n6 xs with
  |some ys=>if(ys.map (·.length)).sum+ys.length*z.length<=1000000 then .ok (.str<|akh z ys)else .no
  |none=>.no
 |_=>.no
theorem W2(K:aT)(hW:autoParam (W.K=K) Xaz):aca W (Ke K) ue:=by
 subst hW;intro as H z xs ds Q hn b h;unfold ue at h;cbv
 .obtain⟨v,rfl,a⟩:=eL b;obtain⟨p,vs,rfl,c,d⟩:=a;cbv
  .rename_i ys e;cbv
   .rename_i hl;refine⟨ys,?_,DO hl<|∎,aI h rfl⟩;rw[<-pG d e];exact(ap _ _).seq c
   .mleft
  .mleft
 .mleft
end
section
variable{apos cpos:Pos}{id:String}
theorem MV(g:PlainAttrs T)(d:Slot T name id)(f:typeOf (.builtin id)=pure (.type "method_descriptor"))(i:YZ X id r)(j:JE X o to)(k:JA X (e::es) t)
  (b:autoParam #[18] Xaz) (c:autoParam (#[8]=U) Xaz) (h1:autoParam ((e::es).all az=U) Xaz) (h:autoParam ((e::es).length<29) Xax):
  JE X (.Call (.Attribute o name apos) (e::es) [] cpos) (WF X.K T r to t):=by
 have a:=h1;rw[agJ,afU]at a;exact⟨YL g d f i j.out k.out b (zK h1 h) c (bn a.1)<|c7 a.2⟩
theorem WZ(e:PlainAttrs T)(c:Slot T name id)(d:typeOf (.builtin id)=pure (.type "method_descriptor"))(f:YZ X id r)(g:JE X o to)
  (a:autoParam #[18] Xaz) (b:autoParam (#[8]=U) Xaz):
  JE X (.Call (.Attribute o name apos) [] [] cpos) (Vp X.K T r to):=⟨Q2 e c d f g.out a b⟩
end
theorem CM:∀{O:alp}{own:alv}{i:Nat}{a b:aga},O.Nodup->(i,a)∈O.zip own->(i,b)∈O.zip own->a=b
 |[],_,_,_,_,_,h,_=>by simp at h
 |_::_,[],_,_,_,_,h,_=>by simp at h
 |k::O,c::own,i,a,b,nd,h1,h2=>by
  rw[agc]at nd;rcases oR.mp h1 with e1|h1<;>rcases oR.mp h2 with e2|h2
  .lia
  .cases e1;exact absurd (agp h2).1 nd.1
  .cases e2;exact absurd (agp h1).1 nd.1
  .exact CM nd.2 h1 h2
theorem zO(h:a∈as):mask as (upd H a o)=mask as H:=by
 funext b
 unfold mask;split
 .rfl
 .rename_i hb;exact aF fun z=>hb (by rw[z];exact h)
theorem DI.mutate{K:aT}(I:DI K as0 B O own Y Uq0 H)(g:(i,a)∈O.zip own)(h:jS K (mask #[9] H) o' d'):
  DI K as0 B O own Y (Uq0.set i<|Z d') (upd H a o'):=by
 have l:a∈own++as0:=agy _ (agp g).2;refine Z24 (I.owns i a g) fun n o0 h1 h2 m o=>?_;have hil  := (af1.mp h1).1;refine⟨by simp[I.len],I.olen,I.nd,I.ond,I.fresh,I.ex0,fun b u e=>?_,fun j e f q=>?_,fun j b f=>?_⟩
 .have hb:b≠a:=fun z=>by
   have:=I.fresh a (agp g).2
   rw[z,this]at e;cases e
  rw[aF hb];exact I.same b u e
 .have c:i≠j:=fun z=>f (by rw[<-z];exact(agp g).1);rw[getElem?_set',alj c]at q;rw[zO l];exact I.var j e f q
 .rw[zO l];by_cases c:i=j
  .subst c
   have:=CM I.ond g f
   subst this;exact⟨d',o',by simp_all,h2,aG,h⟩
  .let⟨d,u,q1,q2,q3,q4⟩:=I.owns j b f
   have k:b≠a:=fun z=>c (by rw[z]at f;exact zip_inj I.nd g f);exact⟨d,u,by simp_all,q2,by rw[aF k];exact q3,q4⟩
section
variable{X:Cx}{W:Wd}{Ob O O':alp}{e:agR}{ε ψ:FE}{pos p1 p2 apos cpos:Pos}{x:Str}
theorem YT(K:aT)(w:i∈O)(hb:JE X e<|tD W O ψ)(p:autoParam (X.N[i]?=Z x) Xaz)(hs:autoParam (rV e) Xdz)(g:autoParam #[25] Xbz)(m:autoParam (alz x) Xax)
  (f:autoParam (#[5]=η) Xax) (n:autoParam (X.K=K) Xaz) (hW:autoParam (W.K=K) Xaz):JE X (.Subscript #[20] e pos)<|tD W O<|aJ bw (ak i) ψ:=
 (WK (ae2 K n) (jv i p g m f) hb hs).imp fun Y H Q r=>cx r fun as0 B own Uq0 I h=>by
  let⟨a,ha⟩:=bD I.olen w
  let⟨d,o,h1,h2,h3,h4⟩:=I.owns i a ha
  have s:Lw (Zv K) (uT i) (tD W O ψ) Y H Q=kT Y[i]? H (XA (Zv K) (tD W O ψ) Y Q):=rfl;rw[s,h2];have g:ak i Uq0=.ok d:=by unfold ak;rw[h1]
  have h':cX W #[9] H ((ψ Uq0).bind fun y=>bw d y) Q:=by
   have e:aJ bw (ak i) ψ Uq0=(ψ Uq0).bind fun y=>bw d y:=by unfold aJ;rw[g];rfl
   rw[<-e];exact h
  refine⟨as0,B,own,Uq0,I,bA h' fun y u t j l c=>?_⟩;cases d with
  |lst ds=>
   obtain⟨xs,rfl,q⟩:=h4;cases y with
   |int k=>
    cases l;have b:cX W #[9] t (match atI ds k with|some d=>.ok d|none=>.no) Q:=c
    cases q3:atI ds k with
    |none=>rw[q3]at b;exact b.elim
    |some d'=>
     rw[q3]at b;let⟨v,e1,e2⟩:=q.atI q3
     exact⟨xs,v,.inl<|dF.of<|j _ _ h3,e1,aI b<|e2.mono<|aM j⟩
   |_=>exact c.elim
  |_=>first|exact h4.elim|(cases y<;>exact c.elim)
theorem Rq(K:aT)(m:i∈O)(l:X.mg "len"=L)(j:autoParam (X.N[i]?=Z x) Xaz)(hg:autoParam (Gl X "len") Xaz)(c:autoParam #[25] Xbz)(f:autoParam (alz x) Xax)
  (b:autoParam (#[5]=η) Xax) (g:autoParam (X.K=K) Xaz) (hW:autoParam (W.K=K) Xaz):JE X (.Call (.Name "len" p2) [.Name x p1] [] pos)<|tD W O<|aD c8<|aj (ak i) aA:=
 (xk (YE K g) l BB (eX (jv i j c f b) iM) hg).imp fun Y H Q k=>cx k fun as0 B own Uq0 I h=>by
  let⟨a,ha⟩:=bD I.olen m
  let⟨d,o,h1,h2,h3,h4⟩:=I.owns i a ha
  show kT Y[i]? H _;rw[h2];have c:ak i Uq0=.ok d:=by unfold ak;rw[h1]
  have h':cX W #[9] H (c8 [d]) Q:=by
   have e:aD c8 (aj (ak i) aA) Uq0=c8 [d]:=by unfold aD aj aA;rw[c];rfl
   rw[<-e];exact h
  cases d with
  |lst ds=>
   obtain⟨xs,rfl,q⟩:=h4;refine⟨xs,.inl<|dF.of h3,?_⟩;rw[<-q.len];exact aI h' rfl
  |_=>first|exact h4.elim|exact h'.elim
noncomputable def aZ(i:Nat)(ε:FE):FS:=fun Uq0=>match Uq0[i]? with
 |some (Z<|.lst xs)=>(ε Uq0).bind fun d=>if xs.length<1000000 then .ok (.nx<|Uq0.set i<|Z<|.lst<|xs++[d])else .no
 |_=>.no
theorem Gk(u:i∈O)(w:JE X e<|tD W O ε)(p:autoParam (X.N[i]?=Z x) Xaz)(hn:autoParam (az e=U) Xaz)(c:autoParam (#[8]=U) Xaz)(s:autoParam #[25] Xbz)(m:autoParam (alz x) Xax)
  (g:autoParam (#[5]=η) Xax) (b:autoParam (agx #[20] "append" X.env (eval #[20] X.env)=eval #[20] X.env) Xaz)
  (hs:autoParam (ahj (.Call (.Attribute #[20] "append" apos) [e] [] cpos) L pos.line X.env=pure η) Xaz) (hW:autoParam (W.K=X.K) Xaz):
  JS X (.Expr (.Call (.Attribute #[20] "append" apos) [e] [] cpos) pos) (sD W Ob O O<|aZ i ε):=
 (l5 (MV ahX ajD ajE pY (jv i p s m g) (eX w iM hn) b c (by mright)<|by grind) hs).imp fun D Y H r=>cx r fun as0 B own Uq0 I h=>by
  let⟨a,ha⟩:=bD I.olen u
  let⟨d,o,h1,h2,h3,h4⟩:=I.owns i a ha
  have t:vZ (WF X.K "list" lS (uT i)<|oA (tD W O ε) zP) D Y H=kT Y[i]? H (fun x H1=>QW X.K "list" x H1/\oA (tD W O ε) zP Y H1 fun vs k=>lS x vs k fun _ n=>D.nx Y n):=rfl;rw[t,h2];unfold aZ at h;rw[h1]at h;cases d with
  |lst ds=>
   obtain⟨xs,rfl,q⟩:=h4;refine⟨.inl ⟨rfl,xs,dF.of h3⟩,as0,B,own,Uq0,I,bI I h fun y v k j l f=>?_⟩;split at f
   .refine⟨a,xs,v,rfl,rfl,j _ _ h3,?_,?_⟩
    .have:=cR;rw[<-q.len];lia
    .exact f own Y _ ((I.mono j).mutate ha ⟨xs++[v],rfl,(q.mono<|aM j).append<|aE.cons l aE.nil⟩)
   .exact f.elim
  |_=>mleft
end
end L2
namespace L2
open PySem PySem.Builtin
section
theorem oJ(a:s.heap.IsTupleIter it l i)
  (f:s.heap.IsTuple l items) (d:items[i]?=Z x)
  (hQ:∀h',h'.IsTupleIter it l (i+1)->agD it s.heap h'->Q x {s with heap:=h'}):
  af0 #[4] A (agY<|.ref it) Q E s:=by
 obtain⟨o,c,e,b⟩:=id a;let⟨ol,hol,_,nl,hdl⟩:=f
 refine bY (agG a.typeIs F.slot_tuple_iterator_next
  (agt F.slot_tuple_iterator_next a.typeIs F.entry_tuple_iterator_next ?_ (F.args_tuple_iterator_next_1 _)))
 show af0 _ _ (field (.ref it) 0 >>= _) _ _ s;refine bY<|ag5 c b rfl ?_;refine bY<|ag5 c b rfl ?_;refine bY<|wpAny_seqItems hol hdl ?_;simp only[agd,d];refine bY<|aiM c b ∅<|lT ⟨x,rfl,lT<|hQ _ ?_<|aho ..⟩;exact⟨_,ah6 _ c<|aiO<|ahz b _,(ajF ..).trans e,by
  rw[ahz b];simp[aiT]⟩
theorem qj(d:A.handled=L)
  (a:s.heap.IsTupleIter it l i) (f:s.heap.IsTuple l items) (b:items[i]?=L)
  (c:∀h' e,ak6 it s.heap h'->(∃o,h'.get? e=Z o/\o.cls=.type "StopIteration")->E (.ref e) {s with heap:=h'}):
  af0 #[4] A (agY<|.ref it) Q E s:=by
 let⟨o,ho,hc,hd⟩:=id a
 let⟨ol,hol,_,nl,hdl⟩:=f
 refine bY (agG a.typeIs F.slot_tuple_iterator_next
  (agt F.slot_tuple_iterator_next a.typeIs F.entry_tuple_iterator_next ?_ (F.args_tuple_iterator_next_1 _)))
 show af0 _ _ (field (.ref it) 0 >>= _) _ _ s;refine bY<|ag5 ho hd rfl ?_;refine bY<|ag5 ho hd rfl ?_;refine bY<|wpAny_seqItems hol hdl ?_;simp only[agd,b];refine bY<|ajL<|bY<|aiM ho hd ∅ ?_;refine bY ?_;refine bY (agV ?_<|by size_fits);refine bY<|akz (by rfl) ?_;refine agV ?_ (by size_fits);refine bY<|wpAny_handled ?_
 first|assumption|rw[d]
 refine bY<|lT<|wpAny_throw ?_;exact c _ _ (((aho ..).extBut.push _).push _) ⟨_,ID _ rfl,rfl⟩
end
theorem zg(j:A.handled=L)(it l:aga)(d:l≠it)(a:Array By):
  Draws prog w A it [it,l] a.size (fun i v=>a[i]?=Z v) (fun i h=>h.IsTupleIter it l i/\h.IsTuple l a) where
 live:=fun _ _ st=>let⟨o,ho,_⟩:=st.1;⟨o,ho⟩
 frame:=fun _ _ _ st f=>⟨(let⟨o,e,r⟩:=st.1;⟨o,f it ∅ o e,r⟩),by
  let⟨o,e,r⟩:=st.2
  exact⟨o,f l ∅ o e,r⟩⟩
 item:=fun i s Q E g st hQ=>by
  refine oJ st.1 st.2 (x:=a[i]) (by simp[g]) fun h' b c=>?_;refine hQ _ h' s.toks (by simp[g]) ⟨b,?_⟩ c;let⟨o,e,r⟩:=st.2
  exact⟨o,c.extBut l o d e,r⟩
 done:=fun s Q E st k=>qj j st.1 st.2 ∅ k
structure ZA(z Xi Xo i1 i2:aga)(fp1 fp2:alv):Prop where
 TIz:Xi≠z
 TOz:Xo≠z
 TITO:Xi≠Xo
 TIi1:Xi≠i1
 TIi2:Xi≠i2
 TOi1:Xo≠i1
 TOi2:Xo≠i2
 i1z:i1≠z
 i2z:i2≠z
 i12:i1≠i2
 z1:z∉fp1
 z2:z∉fp2
 TO1:Xo∉fp1
 TO2:Xo∉fp2
 i1f:i1∉fp2
 i2f:i2∉fp1
section
theorem bN(D:Draws prog w A it fp n P Sr)(st:Sr k h)(d:agD c h h')(a:c∉fp):Sr k h':=
 D.frame _ _ _ st fun b hb o e=>d.extBut b o (fun q=>a<|q▸hb) e
theorem FM{Q:als}(V:Draws prog w A i1 fp1 n1 P1 St1)(T:Draws prog w A i2 fp2 n2 P2 St2)(D:ZA z Xi Xo i1 i2 fp1 fp2)
  (hz:IsZip s.heap z Xi Xo .none) (hTI:IsPair s.heap Xi (.ref i1)<|.ref i2) (hTO:IsPair s.heap Xo a b) (h1:St1 k s.heap) (h2:St2 k s.heap) (l1:k<n1) (l2:k<n2)
  (hQ:∀x y h' tk,P1 k x->P2 k y->IsZip h' z Xi Xo (aiT s.heap.objs.size)->IsPair h' Xo x y->St1 (k+1) h'->St2 (k+1) h'->IsPair h' s.heap.objs.size x y->h'.objs.size=s.heap.objs.size+1 ->
   (∀c o,c≠z->c≠Xo->c≠i1->c≠i2->s.heap.get? c=Z o->h'.get? c=Z o)->Q #[13] {s with heap:=h',toks:=tk}):
  af0 #[4] A (Builtin.«zip.__next__» ⟨[.ref z],[]⟩) (fun fin s'=>∃v,fin=.done (.ret v)/\Q v s') E s:=by
 let⟨hp,g,d,tk0,os⟩:=s
 show af0 _ _ (field (.ref z) 2 >>= _) _ _ _;refine bY<|ag5 hz rfl (x:=.bool η) rfl ?_;show af0 _ _ (field (.ref z) 3 >>= _) _ _ _;refine bY<|ag5 hz rfl (x:=.ref Xi) rfl ?_;refine bY<|wpAny_seqItems hTI rfl ?_;show af0 _ _ (ag2 (.ref z) >>= _) _ _ _;refine bY ?_;unfold ag2;refine bY<|ag5 hz rfl (x:=.none) rfl (lT ?_);simp only[if_true];refine bY<|ajL ?_;refine bY<|ag5 hz rfl (x:=.ref Xo) rfl ?_;refine bY<|wpAny_setField_rec hz ∅ fun h₁ u j=>?_
 replace u:IsZip h₁ z Xi Xo .ellipsis:=u
 replace j:agD z hp h₁:=j
 refine bY ?_;simp only[List.zipIdx_cons,List.zipIdx_nil,ajb,List.forIn_nil];refine bY<|bY<|wpAny_onRaise ?_;show af0 _ _ (agY (.ref i1) >>= _) _ _ _;refine bY<|V.item k ⟨h₁,g,d,tk0,os⟩ _ _ l1 (bN V h1 j D.z1) fun x h₂ X px N i=>lT ?_
 replace i:agD i1 h₁ h₂:=i
 have F:IsPair h₂ Xo a b:=i.extBut _ _ D.TOi1<|j.extBut _ _ D.TOz hTO;show af0 _ _ _ _ _ ⟨h₂,g,d,X,os⟩;refine bY<|wpAny_seqItems F rfl ?_;refine bY<|wpAny_updateSeq_pair F fun h₃ r l=>?_
 replace r:IsPair h₃ Xo x b:=r
 replace l:agD Xo h₂ h₃:=l
 refine bY<|wpAny_letGo<|lT ?_;refine bY<|bY<|wpAny_onRaise ?_;show af0 _ _ (agY (.ref i2) >>= _) _ _ _;refine bY<|T.item k ⟨h₃,g,d,X,os⟩ _ _ l2 (bN T (bN T (bN T h2 j D.z2) i D.i1f) l D.TO2) fun y h₄ P py J h=>lT ?_
 replace h:agD i2 h₃ h₄:=h
 have C:IsPair h₄ Xo x b:=h.extBut _ _ D.TOi2 r;show af0 _ _ _ _ _ ⟨h₄,g,d,P,os⟩;refine bY<|wpAny_seqItems C rfl ?_;refine bY<|wpAny_updateSeq_pair C fun h₅ m f=>?_
 replace m:IsPair h₅ Xo x y:=m
 replace f:agD Xo h₄ h₅:=f
 refine bY<|wpAny_letGo<|lT<|lT ?_;refine bY<|wpAny_seqItems m rfl ?_;refine bY<|wpAny_newTuple ?_;have hsz:h₅.objs.size=hp.objs.size:=by rw[f.1,h.1,l.1,i.1,j.1]
 have H:IsZip h₅ z Xi Xo .ellipsis:=f.extBut _ _ D.TOz.symm<|h.extBut _ _ D.i2z.symm<|l.extBut _ _ D.TOz.symm<|i.extBut _ _ D.i1z.symm u;have S:∀c o,c≠z->c≠Xo->c≠i1->c≠i2->hp.get? c=Z o->h₅.get? c=Z o:=fun c o M c2 c3 c4 e=>
  f.extBut _ _ c2 (h.extBut _ _ c4<|l.extBut _ _ c2<|i.extBut _ _ c3<|j.extBut _ _ M e)
 have K:St1 (k+1) h₅:=bN V (bN V (bN V N l D.TO1) h D.i2f) f D.TO1;have O:St2 (k+1) h₅:=bN T J f D.TO2;have I:z<h₅.objs.size:=OR H;show af0 _ _ (aip (.ref z) (.ref h₅.objs.size) >>= _) _ _ _;refine bY ?_;unfold aip;have R:IsZip (h₅.push {cls:=.type "tuple",data:=.seq #[x,y]}) z Xi Xo .ellipsis:=eQ _ H;refine bY<|wpAny_setField_rec R ∅ fun h₇ B p=>?_
 replace B:IsZip h₇ z Xi Xo<|aiT h₅.objs.size:=B
 replace p:agD z (h₅.push {cls:=.type "tuple",data:=.seq #[x,y]}) h₇:=p
 refine wpAny_setField_rec B ∅ fun h₈ t n=>?_
 replace t:IsZip h₈ z Xi Xo<|aiT h₅.objs.size:=t
 replace n:agD z h₇ h₈:=n
 have up:∀c o,c≠z->h₅.get? c=Z o->h₈.get? c=Z o:=fun c o M e=>n.extBut _ _ M<|p.extBut _ _ M<|eQ _ e;have G:IsPair h₈ h₅.objs.size x y:=n.extBut _ _ (ajn I)<|p.extBut _ _ (ajn I)<|ID _ rfl;have W:h₈.objs.size=h₅.objs.size+1:=by rw[n.1,p.1,agX]
 rw[hsz]at t G W;refine lT ⟨_,rfl,?_⟩;show Q (.ref h₅.objs.size) ⟨h₈,g,d,P,os⟩;rw[hsz];exact hQ x y h₈ P px py t (up _ _ D.TOz m) (V.frame _ _ _ K fun b hb o e=>up b o (fun q=>D.z1<|q▸hb) e) (T.frame _ _ _ O fun b hb o e=>up b o (fun q=>D.z2<|q▸hb) e) G W
  fun c o M c2 c3 c4 e=>up c o M<|S c o M c2 c3 c4 e
theorem Jf(F:Draws prog w A i1 fp1 n1 P1 St1)(B:Draws prog w A i2 fp2 n2 P2 St2)(D:ZA z Xi Xo i1 i2 fp1 fp2)
  (hz:IsZip s.heap z Xi Xo .none) (J:IsPair s.heap Xi (.ref i1)<|.ref i2) (G:IsPair s.heap Xo a b) (h1:St1 k s.heap) (h2:St2 k s.heap) (y:k=n1\/(k<n1/\k=n2))
  (M:∀h' O e,(∀c o,c≠z->c≠Xo->c≠i1->c≠i2->s.heap.get? c=Z o->h'.get? c=Z o)->(∃o,h'.get? e=Z o/\o.cls=.type "StopIteration")->E (.ref e) {s with heap:=h',toks:=O}):
  af0 #[4] A (Builtin.«zip.__next__» ⟨[.ref z],[]⟩) Q E s:=by
 let⟨hp,g,d,tk0,os⟩:=s
 show af0 _ _ (field (.ref z) 2 >>= _) _ _ _;refine bY<|ag5 hz rfl (x:=.bool η) rfl ?_;show af0 _ _ (field (.ref z) 3 >>= _) _ _ _;refine bY<|ag5 hz rfl (x:=.ref Xi) rfl ?_;refine bY<|wpAny_seqItems J rfl ?_;show af0 _ _ (ag2 (.ref z) >>= _) _ _ _;refine bY ?_;unfold ag2;refine bY<|ag5 hz rfl (x:=.none) rfl (lT ?_);simp only[if_true];refine bY<|ajL ?_;refine bY<|ag5 hz rfl (x:=.ref Xo) rfl ?_;refine bY<|wpAny_setField_rec hz ∅ fun h₁ j h=>?_
 replace j:IsZip h₁ z Xi Xo .ellipsis:=j
 replace h:agD z hp h₁:=h
 refine bY ?_;simp only[List.zipIdx_cons,List.zipIdx_nil,ajb,List.forIn_nil];refine bY<|bY<|wpAny_onRaise ?_;show af0 _ _ (agY (.ref i1) >>= _) _ _ _;rcases y with rfl|⟨l1,rfl⟩
 .refine bY (F.done ⟨h₁,g,d,tk0,os⟩ _ _ (bN F h1 h D.z1) fun h₂ e f K=>?_)
  replace f:ak6 i1 h₁ h₂:=f
  let⟨oe,hoe,hce⟩:=K
  have q:IsZip h₂ z Xi Xo .ellipsis:=f _ _ D.i1z.symm j;have r:e≠z:=fun x=>by subst x;rw[q]at hoe;cases hoe;simp at hce
  refine wpAny_setField_rec q ∅ fun h₃ _ i=>M h₃ tk0 e (fun c o v _ I _ x=>i.extBut _ _ v<|f _ _ I<|h.extBut _ _ v x) ⟨oe,i.extBut _ _ r hoe,hce⟩
 .refine bY (F.item k ⟨h₁,g,d,tk0,os⟩ _ _ l1 (bN F h1 h D.z1) fun x h₂ t R H f=>lT ?_)
  replace f:agD i1 h₁ h₂:=f
  have m:IsPair h₂ Xo a b:=f.extBut _ _ D.TOi1<|h.extBut _ _ D.TOz G;show af0 _ _ _ _ _ ⟨h₂,g,d,t,os⟩;refine bY<|wpAny_seqItems m rfl ?_;refine bY<|wpAny_updateSeq_pair m fun h₃ C i=>?_
  replace i:agD Xo h₂ h₃:=i
  refine bY<|wpAny_letGo<|lT ?_;refine bY<|bY<|wpAny_onRaise ?_;show af0 _ _ (agY (.ref i2) >>= _) _ _ _;refine bY<|B.done ⟨h₃,g,d,t,os⟩ _ _ (bN B (bN B (bN B h2 h D.z2) f D.i1f) i D.TO2) fun h₄ e l K=>?_
  replace l:ak6 i2 h₃ h₄:=l
  let⟨oe,hoe,hce⟩:=K
  have p:IsZip h₄ z Xi Xo .ellipsis:=l _ _ D.i2z.symm<|i.extBut _ _ D.TOz.symm<|f.extBut _ _ D.i1z.symm j;have r:e≠z:=fun x=>by subst x;rw[p]at hoe;cases hoe;simp at hce
  refine wpAny_setField_rec p ∅ fun u _ n=>M u t e (fun c o v P I N x=>n.extBut _ _ v<|l _ _ N<|i.extBut _ _ P<|f.extBut _ _ I<|h.extBut _ _ v x) ⟨oe,n.extBut _ _ r hoe,hce⟩
end
theorem WalksT.zipD
  (q:Draws prog w A.in1 i1 fp1 n1 P1 St1) (m:Draws prog w A.in1 i2 fp2 n2 P2 St2) (D:ZA z Xi Xo i1 i2 fp1 fp2) (J:i1∈fp1) (I:i2∈fp2):
  WalksT prog w A z (z::Xi::Xo::(fp1++fp2)) [z,Xo,i1,i2] (min n1 n2)
   (fun i n=>∃x y,P1 i x/\P2 i y/\n=#[x,y])
   (fun i h=>IsZip h z Xi Xo .none/\IsPair h Xi (.ref i1) (.ref i2)/\(∃a b,IsPair h Xo a b)/\St1 i h/\St2 i h)
   (fun i T h=>IsZip h z Xi Xo (aiT T)/\IsPair h Xi (.ref i1) (.ref i2)/\(∃a b,IsPair h Xo a b)/\St1 (i+1) h/\St2 (i+1) h/\T≠z/\T≠Xo/\T≠i1/\T≠i2) where
 sub:=fun c d=>by simp at d⊢;rcases d with rfl|rfl|rfl|rfl<;>simp[J,I]
 frame:=fun i h h' f j=>by
  let⟨hz,hTI,⟨a,b,hTO⟩,h1,h2⟩:=f
  exact⟨j z ∅ _ hz,j Xi ∅ _ hTI,⟨a,b,j Xo ∅ _ hTO⟩,q.frame _ _ _ h1 fun b hb o e=>j b (by simp[hb]) o e,m.frame _ _ _ h2 fun b hb o e=>j b (by simp[hb]) o e⟩
 item:=fun i s Q E C f hQ=>by
  let⟨hz,hTI,⟨a,b,hTO⟩,h1,h2⟩:=f
  have v:i<n1:=afZ C<|Nat.min_le_left ..;have t:i<n2:=afZ C<|Nat.min_le_right ..;have l:s.TypeIs (.ref z) "zip":=⟨_,hz,rfl⟩;unfold pyNext;refine bY (ai8 (agG (name:=afS "__next__") l F.slot_zip_next
   (agt F.slot_zip_next l F.entry_zip_next (FM q m D hz hTI hTO h1 h2 v t fun x y h' u H py a1 a2 a3 a4 a5 K j=>lT ?_) (F.args_zip_next_1 _))))
  have lt:∀{c o},s.heap.get? c=Z o->s.heap.objs.size≠c:=fun e=>ajn<|OR e;exact hQ s.heap.objs.size #[x,y] h' u ⟨_,_,H,py,rfl⟩ (nE _) ⟨_,a5,rfl,_,rfl⟩
   ⟨a1,j _ _ D.TIz D.TITO D.TIi1 D.TIi2 hTI,⟨_,_,a2⟩,a3,a4,lt hz,lt hTO,(by let⟨_,e⟩:=q.live _ _ h1;exact lt e),(by let⟨_,e⟩:=m.live _ _ h2;exact lt e)⟩
   fun c o d e=>j c o (fun x=>d<|by simp[x]) (fun x=>d<|by simp[x]) (fun x=>d<|by simp[x]) (fun x=>d<|by simp[x]) e
 go:=fun elts k pos i T s Q E B hQ=>by
  let⟨hz,hTI,⟨a,b,hTO⟩,h1,h2,_⟩:=B
  refine wpAny_letOwnedTupleGo_zip hz fun h' r g=>hQ h' ⟨r,g.extBut _ _ D.TIz hTI,⟨a,b,g.extBut _ _ D.TOz hTO⟩,bN q h1 g D.z1,bN m h2 g D.z2⟩ fun c o d e=>g.extBut _ _ (fun x=>d<|by simp[x]) e
 apart:=fun i T h B l=>by
  mright
 done:=fun s Q E f hQ=>by
  let⟨hz,hTI,⟨a,b,hTO⟩,h1,h2⟩:=f
  have p:min n1 n2=n1\/(min n1 n2<n1/\min n1 n2=n2):=⊥
  have l:s.TypeIs (.ref z) "zip":=⟨_,hz,rfl⟩;refine bY (ai8 (agG l F.slot_zip_next
   (agt F.slot_zip_next l F.entry_zip_next (Jf q m D hz hTI hTO h1 h2 p fun h' u e j G=>?_) (F.args_zip_next_1 _))))
  let⟨o,ho,d⟩:=G
  refine bY<|wpAny_isInstance ⟨o,ho,d⟩ isSubtype_stop ?_;exact lT<|hQ h' u fun c o d e=>j c o (fun x=>d<|by simp[x]) (fun x=>d<|by simp[x]) (fun x=>d<|by simp[x]) (fun x=>d<|by simp[x]) e
 self:=fun i s Q E f hQ=>wpAny_pyIter_zip f.1 hQ
def uB(a:By)(o:Obj)(h:aij):Prop:=∀(prog:ahb)(w:agN)(A:ahU)(s:MK)(Q:als)(E:als),(∀b u,h.get? b=Z u->s.heap.get? b=Z u)->Q #[13] {s with heap:=s.heap.push o}->af0 #[4] A (ald a) Q E s
noncomputable abbrev aaa(h:aij)(a b:Obj):aij:=((h.push a).push b).push {cls:=.type "tuple",data:=.seq #[.ref h.objs.size,.ref (h.push a).objs.size]}
noncomputable abbrev Z0(h:aij)(b a:Obj):aij:=(aaa h b a).push {cls:=.type "tuple",data:=.seq #[.none,.none]}
noncomputable abbrev Ul(h:aij)(b a:Obj):aij:=(Z0 h b a).push {cls:=.type "zip",data:=.fields #[.none,.bool η,.bool η,.ref ((h.push b).push a).objs.size,.ref (aaa h b a).objs.size]}
theorem Ar(a b:By)(c j:Obj):
  Meets (Builtin.«zip.__new__» ⟨[.type "zip",a,b],[]⟩) (fun _ R s=>uB a c s.heap/\uB b j s.heap/\R (.ok<|.ret<|.ref (Z0 s.heap c j).objs.size) {s with heap:=Ul s.heap c j}):=
 .of_wp fun prog w A R s h=>by
  obtain⟨m,g,d,k,os⟩:=s;obtain⟨f,i,h⟩:=h;have l:=sub_zip;have p1  := fun{A Q E}q=>f prog w A ⟨m,g,d,k,os⟩ Q E (fun _ _ e=>e) q;have p2  := fun{A Q E}q=>i prog w A ⟨m.push c,g,d,k,os⟩ Q E (fun _ _ e=>eQ _ e) q
  wp_walk using p1,p2
  exact⟨_,rfl,h⟩
section
variable{s:MK}
theorem E3(r:uB a o1 s.heap)(n:uB b o2 s.heap)(p:o1.isFreed=η)(m:o2.isFreed=η)
  (h:∀h',IsZip h' (s.heap.objs.size+4) (s.heap.objs.size+2) (s.heap.objs.size+3) .none->IsPair h' (s.heap.objs.size+2) #[13] (.ref<|s.heap.objs.size+1) ->
   IsPair h' (s.heap.objs.size+3) .none .none->h'.get? s.heap.objs.size=Z o1->h'.get? (s.heap.objs.size+1)=Z o2->h'.objs.size=s.heap.objs.size+5 ->
   (∀c o,s.heap.get? c=Z o->h'.get? c=Z o)->Q (.ref (s.heap.objs.size+4)) {s with heap:=h'}):
  af0 #[4] A (call (.type "zip") [a,b]) Q E s:=by
 refine callType_new F.called_zip ∎ (F.typeCall_zip_2 _ _) (F.newCall_zip_2 _ _) (fun e=>F.args_object_init_3 e _ _) F.entry_zip_new
  (Ar a b o1 o2) ⟨r,n,?_⟩
 have d:(s.heap.push o1).objs.size=s.heap.objs.size+1:=agX ..;have g:((s.heap.push o1).push o2).objs.size=s.heap.objs.size+2:=by rw[agX,d]
 have i:(aaa s.heap o1 o2).objs.size=s.heap.objs.size+3:=by rw[agX,g]
 have f:(Z0 s.heap o1 o2).objs.size=s.heap.objs.size+4:=by rw[agX,i]
 have q:(Ul s.heap o1 o2).objs.size=s.heap.objs.size+5:=by rw[agX,f]
 have j:(Ul s.heap o1 o2).get? (Z0 s.heap o1 o2).objs.size=Z _:=ID _ rfl;have l:(Ul s.heap o1 o2).get? (aaa s.heap o1 o2).objs.size=Z _:=eQ _<|ID _ rfl;have k:(Ul s.heap o1 o2).get? ((s.heap.push o1).push o2).objs.size=Z _:=eQ _<|eQ _<|ID _ rfl;have g2:(Ul s.heap o1 o2).get? (s.heap.push o1).objs.size=Z o2:=eQ _<|eQ _<|eQ _<|ID _ m;have g1:(Ul s.heap o1 o2).get? s.heap.objs.size=Z o1:=eQ _<|eQ _<|eQ _<|eQ _<|ID _ p;show _/\_;rw[g,i,f]at j;rw[d,g]at k;rw[i]at l;rw[d]at g2;rw[f];exact⟨⟨_,j,rfl⟩,h _ j k l g1 g2 q fun c o x=>
  eQ _ (eQ _ (eQ _ (eQ _ (eQ _ x))))⟩
end
theorem yL(a:By)(b:Obj):
  Meets (Builtin.«enumerate.__new__» ⟨[.type "enumerate",a],[]⟩) (fun _ R s=>uB a b s.heap /\
   R (.ok (.ret (.ref (s.heap.push b).objs.size))) {s with heap:=(s.heap.push b).push {cls:=.type "enumerate",data:=.fields #[.none,.bool η,.ref s.heap.objs.size,aiT 0,.none,.none]}}):=
 .of_wp fun prog w A R s h=>by
  obtain⟨j,g,d,k,os⟩:=s;obtain⟨f,h⟩:=h;have i:=sub_enumerate;have p1  := fun{A Q E}q=>f prog w A ⟨j,g,d,k,os⟩ Q E (fun _ _ e=>e) q
  wp_walk
  refine wpAny_stack_any fun st=>lT ?_;split
  .rename_i c _ _ _ _ _;cases(c==ajz "enumerate")
   .wp_walk using p1
    exact⟨_,rfl,h⟩
   .wp_walk using p1
    exact⟨_,rfl,h⟩
  .wp_walk using p1
   exact⟨_,rfl,h⟩
section
variable{s:MK}
theorem Bs(e:uB a o1 s.heap)(d:o1.isFreed=η)
  (h:∀h',IsEnum h' (s.heap.objs.size+1) s.heap.objs.size 0 .none->h'.get? s.heap.objs.size=Z o1->h'.objs.size=s.heap.objs.size+2 ->
   (∀b o,s.heap.get? b=Z o->h'.get? b=Z o)->Q (.ref (s.heap.objs.size+1)) {s with heap:=h'}):
  af0 #[4] A (call (.type "enumerate") [a]) Q E s:=by
 refine callType_new F.called_enumerate ∎ (F.typeCall_enumerate_1 _) (F.newCall_enumerate_1 _) (fun c=>F.args_object_init_2 c _) F.entry_enumerate_new
  (yL a o1) ⟨e,?_⟩
 have hz:(s.heap.push o1).objs.size=s.heap.objs.size+1:=agX ..;rw[hz];have he  := by
  have:=ID (s.heap.push o1)
   (o:={cls:=.type "enumerate",data:=.fields #[.none,.bool η,.ref s.heap.objs.size,aiT 0,.none,.none]}) rfl
  rw[hz]at this;exact this
 refine⟨⟨_,he,rfl⟩,h _ he (eQ _<|ID _ d) (by mright) fun b o x=>eQ _<|eQ _ x⟩
end
end L2
namespace L2
open PySem PySem.Spec PyProof.Rows
theorem Ee{Y:St}(I:Inv X aa Y H s)(h:H a≠L\/∃o,X.K.lookup a=Z o):¬eZ X aa H a:=fun f=>by
 rcases h with h|⟨o,h⟩
 .exact h f.1
 .have e:=I.ok.mod.kin a o h;rcases f.2.2.2.1 with z|z
  .exact I.ok.noex a o e z
  .exact absurd (afZ (OR e)<|DO I.ok.bsz z) (ahV _)
theorem Cy(h:Rd H a u):H a≠L:=by
 rcases h with h|⟨o,h⟩<;>rw[h]<;>simp
theorem Ef{K:aT}(h:dF K H a xs):H a≠L\/∃o,K.lookup a=Z o:=by
 rcases h with h|⟨o,_,_,h,_⟩
 .exact .inl (Cy h)
 .mright
theorem EC{K:aT}(h:hV K H a xs):H a≠L\/∃o,K.lookup a=Z o:=by
 rcases h with h|⟨o,_,_,h,_⟩
 .exact .inl (Cy h)
 .mright
structure Src(K:aT)(B:Hp)(xs:alx)(it:aga)(S:Nat->aij->Prop):Prop where
 obj:∀i h,S i h->∃o,h.get? it=Z o/\∀v,o.data≠.cell v
 keep:∀i h h',S i h->(∀o,h.get? it=Z o->h'.get? it=Z o)->S i h'
 draw:∀(X:Cx)(aa:alr)(s:MK)(Y:St)(H:Hp),Inv X aa Y H s->X.K=K->av B H->eZ X aa H it->∀A:ahU,A.handled=L->∀i,S i s.heap ->
  ∃fp Pv St,Draws X.prog X.w A it fp xs.length Pv St/\St i s.heap/\it∈fp/\(∀b∈fp,b=it\/¬eZ X aa H b)/\(∀j u,Pv j u->∃x,xs[j]?=Z x/\a7 x u)/\∀j h,St j h->S j h
theorem src_list{K:aT}(g:dF K B a xs):Src K B xs it (fun i h=>h.IsListIter it a i) where
 obj:=fun i h q_=>Z13 q_ fun o e c d=>⟨o,e,fun v z=>⊥⟩
 keep:=fun i h h'⟨o,e,r⟩k=>⟨o,k o e,r⟩
 draw:=fun X x s Y H I n m f A q i st=>by
  subst n;let⟨its,rv,pl,hz⟩:=I.list<|m.seq g
  have l:a≠it:=fun z=>Ee I (Ef<|m.seq g)<|z▸f;have p:xs.length=its.toArray.size:=by exact rv.length
  refine⟨_,_,_,p▸Draws.list q it a l its.toArray,⟨st,pl.isList⟩,∅,fun b hb=>?_,fun j u w=>?_,fun j h st=>st.1⟩
  .rcases oR.mp hb with e|hb
   .exact .inl e
   .rw[acB.mp hb];exact .inr (Ee I<|Ef<|m.seq g)
  .have hu'  := by simpa using w
   have hj  := (af1.mp hu').1;have t:xs[j]?=Z (xs[j]'(by mright)):=by mright
   let⟨u',h1,h2⟩:=rv.get t
   mright
theorem src_tuple{K:aT}(g:hV K B a xs):Src K B xs it (fun i h=>h.IsTupleIter it a i) where
 obj:=fun i h q_=>Z13 q_ fun o e c d=>⟨o,e,fun v z=>⊥⟩
 keep:=fun i h h'⟨o,e,r⟩k=>⟨o,k o e,r⟩
 draw:=fun X x s Y H I n m f A q i st=>by
  subst n;let⟨its,rv,pl,hz⟩:=I.tuple<|m.seqT g
  have l:a≠it:=fun z=>Ee I (EC<|m.seqT g)<|z▸f;have p:xs.length=its.toArray.size:=by exact rv.length
  refine⟨_,_,_,p▸zg q it a l its.toArray,⟨st,pl⟩,∅,fun b hb=>?_,fun j u w=>?_,fun j h st=>st.1⟩
  .rcases oR.mp hb with e|hb
   .exact .inl e
   .rw[acB.mp hb];exact .inr (Ee I<|EC<|m.seqT g)
  .have hu'  := by simpa using w
   have hj  := (af1.mp hu').1;have t:xs[j]?=Z (xs[j]'(by mright)):=by mright
   let⟨u',h1,h2⟩:=rv.get t
   mright
theorem signs_get{j:Nat}(h:∃c t,z.cps[j]?=Z c/\u=.str ⟨#[c]⟩ t):∃x,(nu z)[j]?=Z x/\a7 x u:=by
 obtain⟨c,t,h1,rfl⟩:=h;refine⟨.str ⟨#[c]⟩,?_,⟨t,rfl⟩⟩;mright
theorem Fd{K:aT}:Src K B (nu z) it (fun i h=>h.IsStrIter it "str_ascii_iterator" z t i) where
 obj:=fun i h q_=>Z13 q_ fun o e c d=>⟨o,e,fun v z=>⊥⟩
 keep:=fun i h h'⟨o,e,r⟩k=>⟨o,k o e,r⟩
 draw:=fun X p s Y H I m n f A g i st=>by
  have a:(nu z).length=z.cps.size:=∅
  exact⟨_,_,_,a▸Draws.strAscii g it z t,st,∅,fun b hb=>.inl<|by simpa using hb,fun j u l=>signs_get l,fun j h st=>st⟩
theorem Hi{K:aT}:Src K B (nu z) it (fun i h=>h.IsStrIter it "str_iterator" z t i) where
 obj:=fun i h q_=>Z13 q_ fun o e c d=>⟨o,e,fun v z=>⊥⟩
 keep:=fun i h h'⟨o,e,r⟩k=>⟨o,k o e,r⟩
 draw:=fun X p s Y H I m n f A g i st=>by
  have a:(nu z).length=z.cps.size:=∅
  exact⟨_,_,_,a▸Draws.strWide g it z t,st,∅,fun b hb=>.inl<|by simpa using hb,fun j u l=>signs_get l,fun j h st=>st⟩
def X9(K:aT)(H:Hp)(x:V)(xs:alx):Prop:=(∃z,x=.str z/\xs=nu z)\/(∃a,x=.ref a/\dF K H a xs)\/∃a,x=.ref a/\hV K H a xs
theorem B6{Y:St}(I:Inv X aa Y H s)(r:a7 x u)(c:av B H)(h:X9 X.K B x xs):
  ∃(o:Obj)(S:aga->Nat->aij->Prop),uB u o s.heap/\o.isFreed=η/\(∀it h,h.get? it=Z o->S it 0 h)/\∀it,Src X.K B xs it<|S it:=by
 rcases h with⟨z,rfl,rfl⟩|⟨a,rfl,b⟩|⟨a,rfl,b⟩
 .obtain⟨t,rfl⟩:=r;cases ha:z.cps.all (·<128)
  .exact⟨{cls:=.type "str_iterator",data:=.fields #[.str z t,.int 0 0]},fun it i h=>h.IsStrIter it "str_iterator" z t i,fun prog w A s Q E _ q=>wpAny_pyIter_wide ha q,rfl,fun it h e=>⟨_,e,rfl,rfl⟩,fun it=>Hi⟩
  .exact⟨{cls:=.type "str_ascii_iterator",data:=.fields #[.str z t,.int 0 0]},fun it i h=>h.IsStrIter it "str_ascii_iterator" z t i,fun prog w A s Q E _ q=>wpAny_pyIter_ascii ha q,rfl,fun it h e=>⟨_,e,rfl,rfl⟩,fun it=>Fd⟩
 .cases r;obtain⟨its,d,pl,hz⟩:=I.list<|c.seq b;exact⟨{cls:=.type "list_iterator",data:=.fields #[.ref a,.int 0 0]},fun it i h=>h.IsListIter it a i,fun prog w A s Q E k q=>wpAny_pyIter_list (pl.keeps k).isList q,rfl,fun it h e=>⟨_,e,rfl,rfl⟩,fun it=>src_list b⟩
 .cases r;let⟨its,d,pl,hz⟩:=I.tuple (c.seqT b)
  refine⟨{cls:=.type "tuple_iterator",data:=.fields #[.ref a,.int 0 0]},fun it i h=>h.IsTupleIter it a i,fun prog w A s Q E k q=>?_,rfl,fun it h e=>⟨_,e,rfl,rfl⟩,fun it=>src_tuple b⟩;let⟨o,e,r⟩:=pl
  exact wpAny_pyIter_tuple ⟨o,k _ _ e,r⟩ q
theorem Inv.turnedT{Y:St}{ch:alv}{T:aga}(I:Inv X aa Y H s)(a:∀b∈ch,eZ X aa H b)(k:∀b o,b∉ch->s.heap.get? b=Z o->h'.get? b=Z o)(g:s.heap.objs.size<=T)
  (j:ys.length<=afT) (i:aY ys us) (f:akW h' T us.toArray) (p:autoParam (X.tn<=t') Xbx):Inv X aa Y (upd H T<|.tup ys) {s with heap:=h',toks:=t'}:=by
 have hn  := I.hok.fresh g;have h:∀b u,H b=Z u->b∉ch:=fun b u e z=>by rw[(a b z).1]at e;cases e
 refine I.step (fun b hb=>⟨(a b hb).2.2.2.1,(a b hb).2.1,(a b hb).2.2.2.2.1,(a b hb).2.2.2.2.2⟩) (fun b o _ _ d e _=>k b o d e) (fun b o _ _ d e _=>⟨o.slots,k b o d e⟩) (fun b o _ e n=>?_)
  (fun b o d e=>⟨o,k b o d e⟩) (fun b xs e=>?_) (fun b o u e=>?_) (fun b ps e=>?_) (fun m l=>?_) (fun b u e=>?_) I.bare
 .rw[aF<|af7<|afZ (OR e) g];exact n
 .rw[aF<|bq e hn];exact e
 .rw[aF<|bq e hn];exact e
 .rw[aF<|bq e hn];exact e
 .let⟨o,es,ep,ho,r⟩:=l
  exact⟨o,es,ep,k _ o (fun z=>(a _ z).2.1 rfl) ho,r⟩
 .by_cases hb:b=T
  .subst hb;rw[aG]at e;cases e;exact⟨j,us,i,f⟩
  .rw[aF hb]at e;refine(I.hok b u e).stay (fun c v d q=>k c v ?_ q) (fun c q=>by rw[aF<|bq q hn];exact q) fun c xs q=>⟨by rw[aF<|bq q.1 hn];exact q.1,q.2⟩
   grind
def Lh(B:Hp)(n:Nat)(a:Nat->V->V->Prop):It:=
 ⟨fun i H=>av B H/\i<n,fun i H v H'=>∃p x y,H p=L/\H'=upd H p (.tup [x,y])/\v=.ref p/\a i x y,fun i H=>av B H/\i=n⟩
theorem Iw{K:aT}{z TI TO j g:aga}(D:Src K B xs j S1)(O:Src K B ys g S2)(nd:[z,TI,TO,j,g].Nodup):
  Turn P w K (.Tuple elts k pos) (Lh B (min xs.length ys.length) fun i x y=>xs[i]?=Z x/\ys[i]?=Z y) [z,TI,TO,j,g] z
   (fun i h=>IsZip h z TI TO .none/\IsPair h TI (.ref j) (.ref g)/\(∃a b,IsPair h TO a b)/\S1 i h/\S2 i h):=by
 simp only[agc,oR,agn,or_false,not_or,agQ,and_true,not_false_eq_true]at nd;obtain⟨⟨zTI,zTO,S,F⟩,⟨TITO,TIi1,TIi2⟩,⟨TOi1,TOi2⟩,i12⟩:=nd;have za:∀{X:Cx}{C:alr}{H:Hp}{p fp2:alv},(∀b∈[z,TI,TO,j,g],eZ X C H b)->(∀b∈p,b=j\/¬eZ X C H b)->(∀b∈fp2,b=g\/¬eZ X C H b)->ZA z TI TO j g p fp2:=fun{X C H p fp2}d h1 h2=>
  {TIz:=ah5 zTI,TOz:=ah5 zTO,TITO:=TITO,TIi1:=TIi1,TIi2:=TIi2,TOi1:=TOi1,TOi2:=TOi2,i1z:=ah5 S,i2z:=ah5 F,i12:=i12,
   z1:=fun m=>(h1 z m).elim S fun q=>q<|d z<|∅,z2:=fun m=>(h2 z m).elim F fun q=>q<|d z<|∅,TO1:=fun m=>(h1 TO m).elim TOi1 fun q=>q<|d TO<|∅,TO2:=fun m=>(h2 TO m).elim TOi2 fun q=>q<|d TO<|∅,
   i1f:=fun m=>(h2 j m).elim i12 fun q=>q (d j ∅),i2f:=fun m=>(h1 g m).elim (ah5 i12) fun q=>q (d g ∅)}
 refine⟨∅,fun i h st b hb=>?_,fun i h h' st l=>?_,?_,?_,fun A i s Q E st q=>wpAny_pyIter_zip st.1 q⟩
 .let⟨hz,hTI,⟨a,b',hTO⟩,h1,h2⟩:=st
  simp only[oR,agn,or_false]at hb;rcases hb with rfl|rfl|rfl|rfl|rfl
  .exact⟨_,hz,fun v q=>by cases q⟩
  .exact⟨_,hTI,fun v q=>by cases q⟩
  .exact⟨_,hTO,fun v q=>by cases q⟩
  .exact D.obj i h h1
  .exact O.obj i h h2
 .let⟨hz,hTI,⟨a,b',hTO⟩,h1,h2⟩:=st
  exact⟨l z ∅ _ hz,l TI ∅ _ hTI,⟨a,b',l TO ∅ _ hTO⟩,D.keep i h h' h1 fun o e=>l j ∅ o e,O.keep i h h' h2 fun o e=>l g ∅ o e⟩
 .intro X hP hw G t i C s Y H E I d st hg;subst hP hw;let⟨hz,hTI,hTO,h1,h2⟩:=st
  let⟨sB,hi⟩:=hg
  have M:X.A.in1.handled=L:=I.ok.hd t;let⟨p,P1,St1,D1,st1,m1,n1,p1,b1⟩:=D.draw X C s Y H I G sB (d j<|∅) X.A.in1 M i h1
  let⟨fp2,P2,St2,D2,st2,m2,n2,p2,b2⟩:=O.draw X C s Y H I G sB (d g<|∅) X.A.in1 M i h2
  have W:=WalksT.zipD D1 D2 (za d n1 n2) m1 m2;refine aP I.tk<|W.item i s _ _ hi ⟨hz,hTI,hTO,st1,st2⟩ fun T vals h' tk pt hT isT R k1 htk=>⟨.ref T,rfl,W.go elts k pos i T {s with heap:=h',toks:=tk} _ _ R fun J N k2=>?_⟩;refine Z23 pt fun u1 u2 q1 q2 r0_=>?_;subst r0_;let⟨x,hx,rx⟩:=p1 i u1 q1
  let⟨y,hy,ry⟩:=p2 i u2 q2
  let⟨hz',hTI',hTO',st1',st2'⟩:=N
  have l:∀b o,b∉[z,TO,j,g]->s.heap.get? b=Z o->J.get? b=Z o:=fun b o hb e=>k2 b o hb<|k1 b o hb e;have hTn:H T=L:=I.hok.fresh hT;have lt:∀{b o},s.heap.get? b=Z o->b≠T:=fun e=>af7<|afZ (OR e) hT;have V:akW J T [u1,u2].toArray:=by
   let⟨o,e,r⟩:=isT
   exact⟨o,k2 T o (W.apart i T _ R) e,r⟩
  refine⟨.ref T,upd H T<|.tup [x,y],I.turnedT (t':=tk) (ch:=[z,TO,j,g]) (fun b hb=>d b (by simp only[oR,agn,or_false]at hb⊢;rcases hb with h|h|h|h<;>simp[h])) l hT (by show 2<=afT;decide) (.cons rx<|.cons ry .nil) V,rfl,⟨T,x,y,hTn,rfl,rfl,hx,hy⟩,
   ⟨hz',hTI',hTO',b1 _ _ st1',b2 _ _ st2'⟩,fun b hb=>?_⟩
  have hbT:b≠T:=by
   simp only[oR,agn,or_false]at hb;rcases hb with rfl|rfl|rfl|rfl|rfl
   .exact lt hz
   .exact lt hTI
   .let⟨_,_,e⟩:=hTO;exact lt e
   .let⟨_,e,_⟩:=D.obj _ _ h1;exact lt e
   .let⟨_,e,_⟩:=O.obj _ _ h2;exact lt e
  rw[aF hbT];exact(d b hb).1
 .intro X hP hw G t i C s Y H E I d st hg;subst hP hw;let⟨hz,hTI,hTO,h1,h2⟩:=st
  let⟨sB,hi⟩:=hg
  have M:X.A.in1.handled=L:=I.ok.hd t;let⟨p,P1,St1,D1,st1,m1,n1,p1,b1⟩:=D.draw X C s Y H I G sB (d j<|∅) X.A.in1 M i h1
  let⟨fp2,P2,St2,D2,st2,m2,n2,p2,b2⟩:=O.draw X C s Y H I G sB (d g<|∅) X.A.in1 M i h2
  have W:=WalksT.zipD D1 D2 (za d n1 n2) m1 m2;subst hi;refine aP I.tk<|W.done s _ _ ⟨hz,hTI,hTO,st1,st2⟩ fun h' tk l htk=>⟨rfl,?_⟩
  have nch:∀b u,H b=Z u->b∉[z,TO,j,g]:=fun b u e q=>by
   have:=(d b (by simp only[oR,agn,or_false]at q⊢;rcases q with h|h|h|h<;>simp[h])).1
   rw[this]at e;cases e
  refine I.step (g':=s.gens) (d':=s.drawn) (ch:=[z,TO,j,g]) (fun b hb=>?_) (fun b o _ _ t e _=>l b o t e) (fun b o _ _ t e _=>⟨o.slots,l b o t e⟩) (fun _ _ _ _ n=>n)
   (fun b o t e=>⟨o,l b o t e⟩) (fun _ _ e=>e) (fun _ _ _ e=>e) (fun _ _ e=>e) (fun m hm=>?_) (fun b u e=>?_) I.bare
  .have f:=d b (by simp only[oR,agn,or_false]at hb⊢;rcases hb with h|h|h|h<;>simp[h]);exact⟨f.2.2.2.1,f.2.1,f.2.2.2.2.1,f.2.2.2.2.2⟩
  .let⟨o,es,ep,ho,r⟩:=hm
   refine⟨o,es,ep,l _ o (fun q=>?_) ho,r⟩;exact(d _ (by simp only[oR,agn,or_false]at q⊢;rcases q with h|h|h|h<;>simp[h])).2.1 rfl
  .refine (I.hok b u e).stay (fun c v t q=>l c v ?_ q) (fun _ q=>q) fun _ _ q=>q
   grind
theorem Ff{K:aT}(F:Src K B xs it S)(ne:e≠it):
  Turn P w K (.Tuple elts k pos) (Lh B xs.length fun i x y=>x=.int (i:Int)/\xs[i]?=Z y) [e,it] e (fun i h=>(∃d,IsEnum h e it (i:Int) d)/\S i h):=by
 have C:∀{X:Cx}{p:alr}{H:Hp}{fp:alv},(∀b∈[e,it],eZ X p H b)->(∀b∈fp,b=it\/¬eZ X p H b)->e∉fp:=fun a h1 m=>(h1 e m).elim ne fun q=>q (a e<|∅);refine⟨∅,fun i h st b hb=>?_,fun i h h' st g=>?_,?_,?_,fun A i s Q E st q=>let⟨⟨d,he⟩,_⟩:=st;wpAny_pyIter_enum he q⟩
 .let⟨⟨d,he⟩,h1⟩:=st
  simp only[oR,agn,or_false]at hb;rcases hb with rfl|rfl
  .exact⟨_,he,fun v q=>by cases q⟩
  .exact F.obj i h h1
 .let⟨⟨d,he⟩,h1⟩:=st
  exact⟨⟨d,g e ∅ _ he⟩,F.keep i h h' h1 fun o q=>g it ∅ o q⟩
 .intro X hP hw hK j i p s Y H E I a st hg;subst hP hw;let⟨he,h1⟩:=st
  let⟨sB,hi⟩:=hg
  have R:X.A.in1.handled=L:=I.ok.hd j;refine Z36 (F.draw X p s Y H I hK sB (a it<|∅) X.A.in1 R i h1) fun fp1 P1 St1 D1 l m1 O p1 b1=>?_;have W:=akQ D1 e ne (C a O) m1;refine aP I.tk<|W.item i s _ _ hi ⟨he,l⟩ fun T vals h' tk pt hT isT M k1 V=>⟨.ref T,rfl,W.go elts k pos i T {s with heap:=h',toks:=tk} _ _ M fun D G k2=>?_⟩;obtain⟨t,u2,q2,rfl⟩:=pt;let⟨y,hy,ry⟩:=p1 i u2 q2
  let⟨he',st1'⟩:=G
  have g:∀b o,b∉[e,it]->s.heap.get? b=Z o->D.get? b=Z o:=fun b o hb q=>k2 b o hb<|k1 b o hb q;have N:H T=L:=I.hok.fresh hT;have lt:∀{b o},s.heap.get? b=Z o->b≠T:=fun q=>af7<|afZ (OR q) hT;have J:akW D T [.int i t,u2].toArray:=by
   let⟨o,q,r⟩:=isT
   exact⟨o,k2 T o (W.apart i T _ M) q,r⟩
  refine⟨.ref T,upd H T<|.tup [.int (i:Int),y],I.turnedT (t':=tk) (ch:=[e,it]) a g hT (by show 2<=afT;decide) (.cons ⟨t,rfl⟩<|.cons ry .nil) J,rfl,⟨T,_,y,N,rfl,rfl,rfl,hy⟩,⟨he',b1 _ _ st1'⟩,fun b hb=>?_⟩;have hbT:b≠T:=by
   simp only[oR,agn,or_false]at hb;rcases hb with rfl|rfl
   .let⟨_,q⟩:=he;exact lt q
   .let⟨_,q,_⟩:=F.obj _ _ h1;exact lt q
  rw[aF hbT];exact(a b hb).1
 .intro X hP hw hK j i p s Y H E I a st hg;subst hP hw;let⟨he,h1⟩:=st
  let⟨sB,hi⟩:=hg
  have R:X.A.in1.handled=L:=I.ok.hd j;obtain⟨fp1,P1,St1,D1,l,m1,O,p1,b1⟩:=F.draw X p s Y H I hK sB (a it<|∅) X.A.in1 R i h1;have W:=akQ D1 e ne (C a O) m1;subst hi;refine aP I.tk<|W.done s _ _ ⟨he,l⟩ fun h' tk g V=>⟨rfl,?_⟩;have nch:∀b u,H b=Z u->b∉[e,it]:=fun b u q m=>by
   have:=(a b m).1
   rw[this]at q;cases q
  refine I.step (g':=s.gens) (d':=s.drawn) (ch:=[e,it]) (fun b hb=>?_) (fun b o _ _ j q _=>g b o j q) (fun b o _ _ j q _=>⟨o.slots,g b o j q⟩) (fun _ _ _ _ n=>n)
   (fun b o j q=>⟨o,g b o j q⟩) (fun _ _ q=>q) (fun _ _ _ q=>q) (fun _ _ e=>e) (fun m hm=>?_) (fun b u q=>?_) I.bare
  .have f:=a b hb;exact⟨f.2.2.2.1,f.2.1,f.2.2.2.2.1,f.2.2.2.2.2⟩
  .let⟨o,es,ep,ho,r⟩:=hm
   exact⟨o,es,ep,g _ o (fun q=>(a _ q).2.1 rfl) ho,r⟩
  .refine(I.hok b u q).stay (fun c v j z=>g c v ?_ z) (fun _ z=>z) fun _ _ z=>z
   grind
theorem uc{K:aT}(hn:n=zs.length)(h:∀i x y,i<n->Pv i x y->∃a c,zs[i]?=Z (.tup [a,c])/\cz K (mask as0 B) a x/\cz K (mask as0 B) c y):GivesD K as0 B (Lh (mask as0 B) n Pv) zs where
 go:=fun i H s b=>⟨s,by rw[hn];exact b⟩
 yl:=fun i H v H2 M s hM hM2 b q_=>Z34 q_ fun p x y hp e ev hv=>by
  subst e ev;let⟨a,c,e1,d1,d2⟩:=h i x y (by rw[hn];exact b) hv
  have hpM  := fun z=>hM p z hp;have d:av (mask as0 B)<|mask M<|upd H p<|.tup [x,y]:=(iz s hM2).trans<|aM<|aH hp _;exact⟨aH hp _,_,e1,p,[x,y],rfl,.inl<|.inl<|by rw[aO hpM];exact aG,aE.cons (d1.mono d)<|aE.cons (d2.mono d) aE.nil⟩
 stop:=fun H s=>⟨s,hn.symm⟩
theorem xn{K:aT}(h:cz K H d v)(e:dY d=.ok xs):∃vs,X9 K H v vs/\aE K H xs vs:=by
 cases d with
 |lst ds=>cases e;obtain⟨a,vs,rfl,b,f⟩:=h;exact⟨vs,.inr<|.inl ⟨a,rfl,b⟩,f⟩
 |tup ds=>cases e;obtain⟨a,vs,rfl,b,f⟩:=h;exact⟨vs,.inr<|.inr ⟨a,rfl,b⟩,f⟩
 |str z=>
  cases e;nofun;refine⟨nu z,.inl ⟨z,rfl,rfl⟩,?_⟩;show aE K H (z.cps.toList.map fun c=>D.str ⟨#[c]⟩)<|z.cps.toList.map fun c=>V.str ⟨#[c]⟩;generalize z.cps.toList=cs;induction cs with
  |nil=>exact rfl
  |cons c r g=>exact⟨_,_,rfl,rfl,g⟩
 |_=>cases e
noncomputable def iB(xs ys:aly):aly:=List.zipWith (fun x y=>D.tup [x,y]) xs ys
def FJ(ds:aly):R<|aly:=match ds with
 |[a,b]=>(dY a).bind fun xs=>(dY b).bind fun ys=>.ok<|iB xs ys
 |_=>.no
def NQ(α:FA):FA:=fun Uq0=>(α Uq0).bind FJ
noncomputable def aU:Nat->aly->aly
 |_,[]=>[]
 |n,x::r=>.tup [.int (n:Int),x]::aU (n+1) r
theorem gz:∀(n:Nat)(xs:aly),(aU n xs).length=xs.length
 |_,[]=>rfl
 |n,x::r=>by unfold aU;simp[gz (n+1) r]
theorem nJ:∀(n:Nat)(xs:aly)(i:Nat),(aU n xs)[i]?=xs[i]?.map fun x=>.tup [.int ((n+i:Nat):Int),x]
 |_,[],i=>by simp[aU]
 |n,x::r,0=>by simp[aU]
 |n,x::r,i+1=>by
  unfold aU;rw[List.getElem?_cons_succ,nJ (n+1) r i]
  grind
def yp(ds:aly):R<|aly:=match ds with
 |[a]=>(dY a).bind fun xs=>.ok<|aU 0 xs
 |_=>.no
def cY(α:FA):FA:=fun Uq0=>(α Uq0).bind yp
section
variable{elts:List agR}{k:Nat}{p pos tpos:Pos}
theorem Sq(C:X.mg "zip"=L)(v:JA X [a,b]<|qy W O α)(hg:autoParam (Gl X "zip") Xaz)(h1:autoParam (az a=U) Xaz)(h2:autoParam (az b=U) Xaz)(hW:autoParam (W.K=X.K) Xaz):
  JI X (.Tuple elts k tpos) (.Call (.Name "zip" p) [a,b] [] pos) (iD W O<|NQ α):=⟨fun aa s Y H R I q_=>Z42 q_ fun as0 B own Uq0 DIh h=>by
 refine agi (dX I hg C TV ?_ ∎<|∎);refine agg (bX (v.out pos aa s Y H (fun vs H1=>av H H1/\∃ds,aE W.K (mask #[9] H1) ds vs/\gw W as0 own H1 (FJ ds) R) I ⟨as0,B,own,Uq0,DIh,ib h fun ds vs H1 d D c=>⟨d,ds,D,c⟩⟩) fun us d A=>iW A fun vs H1 g r1 m=>?_) (bn h1) (c7<|by rw[agJ,h2];rfl);let⟨sH,ds,dv,c⟩:=m
 unfold FJ at c;split at c
 .rename_i da db;obtain⟨E,G,rfl,f,e⟩:=Qk dv;cases e1:dY da with
  |no=>rw[e1]at c;exact c.elim
  |er x=>cases da<;>cases e1
  |ok xs=>
   rw[e1]at c;have c:gw W as0 own H1 ((dY db).bind fun ys=>.ok<|iB xs ys) R:=c;cases e2:dY db with
   |no=>rw[e2]at c;exact c.elim
   |er x=>cases db<;>cases e2
   |ok ys=>
    rw[e2]at c;have c:∀J H',av H1 H'->GivesD W.K as0 (mask own H') J (iB xs ys)->R J H':=c;obtain⟨u1,F,rfl,o,l⟩:=PX r1;rw[i9]at f e;let⟨xv,sv1,dn1⟩:=xn f e1
    let⟨yv,sv2,dn2⟩:=xn e e2
    rw[hW]at sv1 sv2 dn1 dn2;have t:av (mask as0<|mask own H1) H1:=(ap _ _).trans<|ap _ _;let⟨o1,S1,it1,fr1,st1,src1⟩:=B6 g o t sv1
    let⟨o2,S2,it2,fr2,st2,src2⟩:=B6 g l t sv2
    refine E3 it1 it2 fr1 fr2 fun h' hz r n g1 g2 hsz kp=>?_;refine wpAny_pyIter_zip hz ?_;have nw:∀j,j<5->H1 (d.heap.objs.size+j)=L:=fun j _=>g.hok.fresh<|air _ _;refine⟨d.heap.objs.size+4,_,_,_,H1,rfl,g.kept (t':=d.toks) kp,Iw (P:=X.prog) (w:=X.w) (src1 d.heap.objs.size) (src2<|d.heap.objs.size+1) (z:=d.heap.objs.size+4) (TI:=d.heap.objs.size+2) (TO:=d.heap.objs.size+3) ?_,⟨hz,r,⟨_,_,n⟩,st1 _ _ g1,st2 _ _ g2⟩,fun b hb=>?_,c _ H1 (av.refl _) ?_⟩
    .simp only[agc,oR,agn,or_false,not_or,agQ,and_true,not_false_eq_true];refine⟨⟨?_,?_,?_,?_⟩,⟨?_,?_,?_⟩,⟨?_,?_⟩,?_⟩<;>(intro q;have q':(_:Nat)=_:=q;lia)
    .have hb':d.heap.objs.size<=b:=by
      simp only[oR,agn,or_false]at hb;rcases hb with rfl|rfl|rfl|rfl|rfl<;>first|exact air _ _|exact nE _
     exact g.fpOk hb'<|g.hok.fresh hb'
    .rw[hW];refine uc ?_ fun i x y M u=>?_
     .unfold iB;rw[List.length_zipWith,dn1.len,dn2.len]
     .let⟨dx,m,q2⟩:=dn1.got u.1
      let⟨dy,q3,q4⟩:=dn2.got u.2
      refine⟨dx,dy,?_,q2,q4⟩;unfold iB;rw[List.getElem?_zipWith,m,q3]
 .exact c.elim⟩
theorem wA(r:X.mg "enumerate"=L)(o:JA X [a]<|qy W O α)(hg:autoParam (Gl X "enumerate") Xaz)(h1:autoParam (az a=U) Xaz)(hW:autoParam (W.K=X.K) Xaz):
  JI X (.Tuple elts k tpos) (.Call (.Name "enumerate" p) [a] [] pos) (iD W O<|cY α):=⟨fun aa s Y H R I q_=>Z42 q_ fun as0 B own Uq0 DIh h=>by
 refine agi (dX I hg r xM ?_ ∎<|∎);refine agg (bX (o.out pos aa s Y H (fun vs H1=>av H H1/\∃ds,aE W.K (mask #[9] H1) ds vs/\gw W as0 own H1 (yp ds) R) I ⟨as0,B,own,Uq0,DIh,ib h fun ds vs H1 f u c=>⟨f,ds,u,c⟩⟩) fun us f q=>iW q fun vs H1 g r1 n=>?_) (bn h1) rfl;let⟨sH,ds,dv,c⟩:=n
 unfold yp at c;split at c
 .rename_i da;obtain⟨v,rfl,d⟩:=eL dv;cases e1:dY da with
  |no=>rw[e1]at c;exact c.elim
  |er x=>cases da<;>cases e1
  |ok xs=>
   rw[e1]at c;have c:∀J H',av H1 H'->GivesD W.K as0 (mask own H') J (aU 0 xs)->R J H':=c;obtain⟨u1,rfl,l⟩:=f7 r1;rw[i9]at d;let⟨xv,sv1,dn1⟩:=xn d e1
   rw[hW]at sv1 dn1;have t:av (mask as0<|mask own H1) H1:=(ap _ _).trans<|ap _ _;let⟨o1,S1,it1,fr1,st1,src1⟩:=B6 g l t sv1
   refine Bs it1 fr1 fun h' m g1 hsz kp=>?_;refine wpAny_pyIter_enum m ?_;refine⟨f.heap.objs.size+1,_,_,_,H1,rfl,g.kept (t':=f.toks) kp,Ff (P:=X.prog) (w:=X.w) (src1 f.heap.objs.size) (e:=f.heap.objs.size+1)<|Nat.succ_ne_self _,⟨⟨_,m⟩,st1 _ _ g1⟩,fun b hb=>?_,c _ H1 (av.refl _) ?_⟩
   .have hb':f.heap.objs.size<=b:=by
     simp only[oR,agn,or_false]at hb;rcases hb with rfl|rfl<;>first|exact air _ _|exact nE _
    exact g.fpOk hb'<|g.hok.fresh hb'
   .rw[hW];refine uc ?_ fun i x y z j=>?_
    .rw[gz,dn1.len]
    .obtain⟨rfl,j⟩:=j;let⟨dy,q3,q4⟩:=dn1.got j
     refine⟨.int i,dy,?_,rfl,q4⟩;rw[nJ,q3,aiP];rfl
 .exact c.elim⟩
end
def OS(K:aT)(F:aly->R D):Sp:=fun vs H Q E=>∀mg,zY K mg F vs H Q E
theorem MG{K:aT}{b:List Int}(c:dF K H a<|b.map V.int)(h:F [.lst<|b.map D.int]=.ok (.bl U))(q:∀H',Q (.bl U) H'):OS K F [.ref a] H Q E:=
 fun mg=>(by
   refine⟨[],[.lst<|b.map D.int],fun a f=>(nomatch f),⟨.ref a,[],rfl,⟨a,b.map V.int,rfl,by rw[yW];exact c,?_⟩,rfl⟩,?_⟩
   .clear h c;induction b with
    |nil=>exact rfl
    |cons n r e=>exact⟨_,_,rfl,rfl,e⟩
   .rw[h];intro v H' s d;cases d;exact q H')
noncomputable def fin(r:R Fl):R D:=r.bind fun f=>match f with
 |.rt d=>.ok d
 |.rn d=>.ok d
 |.nx _=>.ok .non
 |_=>.no
section
variable{Uq0:Sd}{d e:D}{x y:Str}{i j:Int}{b c:Bool}{φ ψ:FE}{τ υ:FT}{α:FA}{S T:FS}
def VV(T:FS)(f:Fl):R Fl:=match f with
 |.nx δ'=>T δ'
 |f=>.ok f
theorem PV:aW S T Uq0=(S Uq0).bind (VV T):=by
 rfl
theorem Ty:VV T (.nx Uq0)=T Uq0:=rfl
def abZ(d:D):R Fl:=.ok<|.rt d
theorem Vi:gY φ Uq0=(φ Uq0).bind abZ:=rfl
def aev(S T:FS)(Uq0:Sd)(b:Bool):R Fl:=if b=U then S Uq0 else T Uq0
theorem WC:gM τ S T Uq0=(τ Uq0).bind (aev S T Uq0):=rfl
theorem YK:aev S T Uq0 b=if b=U then S Uq0 else T Uq0:=rfl
def ac3(k:Nat)(Uq0:Sd)(d:D):R Fl:=.ok<|.nx<|Uq0.set k<|Z d
theorem ZE:b8 k φ Uq0=(φ Uq0).bind (ac3 k Uq0):=rfl
noncomputable def Yv(k:Nat)(Uq0:Sd)(d:D):R Fl:=if k<Uq0.length then .ok (.nx<|Uq0.set k<|Z d)else .no
theorem XH:xx k φ Uq0=(φ Uq0).bind (Yv k Uq0):=rfl
theorem V4:Yv k Uq0 d=if k<Uq0.length then .ok (.nx<|Uq0.set k<|Z d)else .no:=rfl
def XZ(t:TgD)(S:FS)(Uq0:Sd)(xs:aly):R Fl:=bm t S xs Uq0
theorem OT:nA α t S Uq0=(α Uq0).bind (XZ t S Uq0):=rfl
theorem OY:XZ t S Uq0 xs=bm t S xs Uq0:=rfl
def K2(t:TgD)(S:FS)(r:aly)(f:Fl):R Fl:=match f with
 |.nx δ2=>bm t S r δ2
 |.ct δ2=>bm t S r δ2
 |.bk δ2=>.ok<|.nx δ2
 |.rt d=>.ok<|.rt d
 |.rn d=>.ok<|.rn d
def QS(t:TgD)(S:FS)(r:aly)(a:Sd):R Fl:=(S a).bind<|K2 t S r
theorem yy:bm t S (d::r) Uq0=(fW t d Uq0).bind (QS t S r):=by
 rfl
theorem Kw:QS t S r Uq0=(S Uq0).bind (K2 t S r):=rfl
theorem Dq:K2 t S r (.nx Uq0)=bm t S r Uq0:=rfl
noncomputable def ac6(r:R Fl):R D:=r.bind fun f=>match f with
 |.rn d=>.ok d
 |_=>.no
def ZU(d:D):R Fl:=.ok<|.rn d
theorem Q3:qU φ Uq0=(φ Uq0).bind ZU:=rfl
theorem Fh:fW (.tup [k,l]) (.tup [d,e]) Uq0=.ok ((Uq0.set k<|Z d).set l<|Z e):=rfl
def afB(op:D->D->R D)(ψ:FE)(Uq0:Sd)(x:D):R D:=(ψ Uq0).bind<|op x
theorem abS:aJ op φ ψ Uq0=(φ Uq0).bind (afB op ψ Uq0):=rfl
theorem aby:afB op ψ Uq0 d=(ψ Uq0).bind (op d):=rfl
def aaI(d:D):R D:=LH d fun b=>.ok<|.bl<|!b
theorem v_not:Nh φ Uq0=(φ Uq0).bind aaI:=rfl
def U9(ψ:FE)(Uq0:Sd)(d:D):R D:=LH d fun b=>if b=U then ψ Uq0 else .ok (.bl η)
theorem v_and:BG φ ψ Uq0=(φ Uq0).bind (U9 ψ Uq0):=rfl
theorem Vw:U9 ψ Uq0 (.bl b)=if b=U then ψ Uq0 else .ok (.bl η):=rfl
def aef(ψ:FE)(Uq0:Sd)(d:D):R D:=LH d fun b=>if b=U then .ok (.bl U)else ψ Uq0
theorem v_or:Tw φ ψ Uq0=(φ Uq0).bind (aef ψ Uq0):=rfl
theorem aaB:aef ψ Uq0 (.bl b)=if b=U then .ok (.bl U)else ψ Uq0:=rfl
def blK(d:D):R Bool:=LH d .ok
theorem abq:bG φ Uq0=(φ Uq0).bind blK:=rfl
theorem Xq:rq φ Uq0=(φ Uq0).bind Sn:=rfl
def QJ(υ:FT)(Uq0:Sd)(b:Bool):R Bool:=if b=U then υ Uq0 else .ok η
theorem Qi:jc τ υ Uq0=(τ Uq0).bind (QJ υ Uq0):=rfl
theorem RC:QJ υ Uq0 b=if b=U then υ Uq0 else .ok η:=rfl
def Zk(υ:FT)(Uq0:Sd)(b:Bool):R Bool:=if b=U then .ok U else υ Uq0
theorem RT:Bo τ υ Uq0=(τ Uq0).bind (Zk υ Uq0):=rfl
theorem Wk:Zk υ Uq0 b=if b=U then .ok U else υ Uq0:=rfl
def Wp(b:Bool):R Bool:=.ok<|!b
theorem WP:ym τ Uq0=(τ Uq0).bind Wp:=rfl
def Wy(φ ψ:FE)(Uq0:Sd)(b:Bool):R D:=if b=U then φ Uq0 else ψ Uq0
theorem Qy:Ww τ φ ψ Uq0=(τ Uq0).bind (Wy φ ψ Uq0):=rfl
theorem Pn:Wy φ ψ Uq0 b=if b=U then φ Uq0 else ψ Uq0:=rfl
theorem Wq:gm α Uq0=(α Uq0).bind yt:=rfl
theorem Xc:dj α Uq0=(α Uq0).bind DB:=rfl
theorem Ut:yt ds=if ds.length<=1000000 then .ok (.lst ds)else .no:=rfl
theorem TB:DB ds=if ds.length<=1000000 then .ok (.tup ds)else .no:=rfl
theorem QX:aD g α Uq0=(α Uq0).bind g:=rfl
noncomputable def oK(d:D):R<|Option Int:=match d with
 |.int i=>.ok<|Z i
 |_=>.no
theorem Rv:j6 φ Uq0=(φ Uq0).bind oK:=rfl
def RL(g:D->Option Int->Option Int->R D)(d:D)(lo a:Option Int):R D:=g d lo a
def Sa(g:D->Option Int->Option Int->R D)(u:Sd->R (Option Int))(Uq0:Sd)(d:D)(lo:Option Int):R D:=(u Uq0).bind<|RL g d lo
def XO(g:D->Option Int->Option Int->R D)(l u:Sd->R (Option Int))(Uq0:Sd)(d:D):R D:=(l Uq0).bind<|Sa g u Uq0 d
theorem acS:CO g φ l u Uq0=(φ Uq0).bind (XO g l u Uq0):=rfl
theorem Yp:XO g l u Uq0 d=(l Uq0).bind (Sa g u Uq0 d):=rfl
theorem Xj{lo:Option Int}:Sa g u Uq0 d lo=(u Uq0).bind (RL g d lo):=rfl
theorem Y7{lo hi:Option Int}:RL g d lo hi=g d lo hi:=rfl
def ad2(g:Str->aly->R D)(α:FA)(Uq0:Sd)(d:D):R D:=match d with
 |.str z=>(α Uq0).bind fun ds=>g z ds
 |_=>.no
theorem acC:ad2 g α Uq0 (.str x)=(α Uq0).bind (g x):=rfl
theorem Rt:bW ix α t τ φ Uq0=(α Uq0).bind (bS t τ φ<|eD ix Uq0):=rfl
theorem V0:gE φ Uq0=(φ Uq0).bind dY:=rfl
theorem Rp:ut α Uq0=(α Uq0).bind NY:=rfl
theorem ZT(h:-(2^62)<=i/\i<2^62):NY [.int i]=.ok (bK 0 i.toNat):=ali h
theorem Vz:NQ α Uq0=(α Uq0).bind FJ:=rfl
theorem VM(h1:dY d=.ok xs)(h2:dY e=.ok ys):FJ [d,e]=.ok (iB xs ys):=by
 unfold FJ;simp only[h1,h2,ax]
theorem KU:cY α Uq0=(α Uq0).bind yp:=rfl
theorem Jp:eR (.str x) (.str y)=if x.length+y.length<=1000000 then .ok (.str<|x++y)else .no:=rfl
theorem add_l:eR (.lst xs) (.lst ys)=if xs.length+ys.length<=1000000 then .ok (.lst<|xs++ys)else .no:=rfl
theorem VZ:zi (.int i) (.int j)=.ok (.int<|i-j):=rfl
theorem Zs(h:-(2^64)<i/\i<2^64):rC (.int i) (.int j)=.ok (.int<|i*j):=ali<|.inl h
theorem Wg(h:0<=j/\j<=1000000/\-(2^64)<i/\i<2^64):GU (.int i) (.int j)=.ok (.int<|i^j.toNat):=ali ⟨h.1,h.2.1,by omega⟩
theorem E7:LD (.int i) (.int j)=.ok (.bl<|decide (i<j)):=rfl
theorem WO:O6 (.int i) (.int j)=.ok (.bl<|decide (i<=j)):=rfl
theorem yX:Lz (.int i) (.int j)=.ok (.bl<|decide (j<i)):=rfl
theorem ZP:IK (.int i) (.int j)=.ok (.bl<|decide (j<=i)):=rfl
theorem U0:LD (.str x) (.str y)=.ok (.bl<|decide (x.cps.toList<y.cps.toList)):=rfl
theorem Y5:O6 (.str x) (.str y)=.ok (.bl<|!decide (y.cps.toList<x.cps.toList)):=rfl
theorem W0:IK (.str x) (.str y)=.ok (.bl<|!decide (x.cps.toList<y.cps.toList)):=rfl
theorem M3:Nk d .non=.ok (.bl<|acM d):=rfl
theorem ij:cW (.int i) (.int j)=.ok (.bl<|decide (i=j)):=congrArg (R.ok ∘ D.bl) ∅
theorem i6:cW (.str x) (.str y)=.ok (.bl<|decide (x=y)):=congrArg (R.ok ∘ D.bl) ∅
theorem PZ:cW .non (.str x)=.ok (.bl η):=rfl
theorem XW:nC (.int i) (.int j)=.ok (.bl<|!decide (i=j)):=congrArg (R.ok ∘ D.bl ∘ not) ∅
theorem VD:nC (.str x) (.str y)=.ok (.bl<|!decide (x=y)):=congrArg (R.ok ∘ D.bl ∘ not) ∅
theorem Mv(h:x.length<=1000000){k:Nat}(a:atI x.cps.toList i=Z k):bw (.str x) (.int i)=.ok (.str ⟨#[k]⟩):=by simp only[bw,ali h,a]
theorem xQ(a:atI xs i=Z d):bw (.lst xs) (.int i)=.ok d:=by simp only[bw,a]
theorem zJ(a:atI xs i=Z d):bw (.tup xs) (.int i)=.ok d:=by simp only[bw,a]
theorem bp:bw (.tup<|d::r) (.int 0)=.ok d:=zJ<|bP rfl
theorem bx:bw (.tup<|a::d::r) (.int 1)=.ok d:=zJ<|bP rfl
theorem dw{a b:D}:bw (.tup<|a::b::d::r) (.int 2)=.ok d:=zJ<|bP rfl
theorem zL{a b c:D}:bw (.tup<|a::b::c::d::r) (.int 3)=.ok d:=zJ<|bP rfl
theorem X4{lo a:Option Int}:si (.str x) lo a=if x.length<=1000000 then .ok (.str<|nH x lo a)else .no:=rfl
theorem xU{lo a:Option Int}:si (.lst xs) lo a=.ok (.lst<|hZ xs lo a):=rfl
theorem Ql:c8 [.str x]=if x.length<=1000000 then .ok (.int x.length)else .no:=rfl
theorem Dk:c8 [.lst xs]=.ok (.int xs.length):=rfl
theorem yr:c8 [.tup xs]=.ok (.int xs.length):=rfl
theorem vT:Md [.bl b]=.ok (.int<|if b=U then 1 else 0):=rfl
theorem qL:oM [.lst xs]=.ok (.tup xs):=rfl
theorem Vd:oM [.tup xs]=.ok (.tup xs):=rfl
theorem YR{xs:aly}{bs:List Bool}(h:yR xs=Z bs):zA [.lst xs]=.ok (.bl<|bs.all id):=by simp only[zA,h]
theorem Dw{β:Type}(f:β->Bool):∀xs:List β,yR (xs.map fun a=>D.bl<|f a)=Z (xs.map f):=bb (rfl) fun a r i =>by simp only[Do,yR,i,ak7]
theorem strs_map{β:Type}(f:β->Str):∀xs:List β,n6 (xs.map fun a=>D.str<|f a)=Z (xs.map f):=bb (rfl) fun a r i =>by simp only[Do,n6,i,ak7]
theorem Tr(h:n6 xs=Z ys)(a:(ys.map (·.length)).sum+ys.length*z.length<=1000000):ue z [.lst xs]=.ok (.str<|akh z ys):=by simp only[ue,h,ali a]
theorem n4(b:t8 t δ0=U)(a:xs.length<=1000000)(h:cV t τ ε δ0 xs=.ok ys):bS t τ ε δ0 xs=.ok (.lst ys):=by
 unfold bS;rw[ali ⟨b,a⟩,h];rfl
theorem tW{β:Type}{as:List β}(u:β->D)(f:β->D)(e:t8 (.one k) δ0=U)(d:as.length<=1000000)(h:∀a∈as,ε (δ0.set k<|Z<|u a)=.ok (f a)):bS (.one k) nL ε δ0 (as.map u)=.ok (.lst<|as.map f):=by
 refine n4 e (by mright) ?_;clear d;induction as with
 |nil=>rfl
 |cons a r c=>
  have h1:=h a agl;have c:=c fun b hb=>h b<|mK _ hb;show(ε<|δ0.set k<|Z<|u a).bind _=_;rw[h1];rw[c];rfl
end
theorem zd{β:Type}{M:Model}{A:ahU}{E:als}{s:MK}{b:Nat}(f:Nat->β->Sem (ForInStep β))(I:Nat->β->MK->Prop)(Q:β->MK->Prop)
  (mD:∀i c s,i<b->I i c s->af0 M A (f i c) (fun r a=>match r with|.yield b'=>I (i+1) b' a|.done b'=>Q b' a) E s)
  (fin:∀c s,I b c s->Q c s) (c:β) (h:I 0 c s):af0 M A (forIn [0:b] c f) Q E s:=by
 rw[Std.Legacy.Range.forIn_eq_forIn_range'];have hsz:[0:b].size=b:=by mright
 rw[hsz];refine wpAny_forIn_list f (fun l c st=>∃i,i<=b/\l=ak8 i (b-i) 1/\I i c st) Q ?_ ?_ _ c ⟨0,acr _,rfl,h⟩
 .rintro x rest c st ⟨i,hib,hl,hI⟩;have e:i<b:=by
   rcases ajp i b with h'|h'
   .exact h'
   mright
  let⟨n,hn⟩:∃n,b-i=n+1:=⟨b-i-1,⊥⟩
  rw[hn]at hl;obtain⟨rfl,rfl⟩:=List.cons.inj hl;refine agE (mD x c st #[24] hI) (fun r d h'=>?_) fun _ _ z=>z
  grind
 grind
theorem vo(l:aga)(a:alw)(n:Nat)(p:Option aga)(o:Array<|Option By)(x:By)(e:By->Bool)(k:Nat):
  Meets (Builtin.«tuple.index» ⟨[.ref l,x],[]⟩)
   (fun A R s=>s.heap.get? l=Z {cls:=.type "tuple",dict:=p,data:=.seq a.toArray n,slots:=o}/\(∀y,y∈a->akO A.in1 s y x (e y))/\(k<a.length/\(∀y,a[k]?=Z y->e y=U)/\∀j y,j<k->a[j]?=Z y->e y=η)/\R (.ok<|.ret<|.int (k:Nat) s.toks) {s with toks:=s.toks+1}):=
 .of_wp fun prog w A R s h=>by
  obtain⟨t,g,d,r,os⟩:=s;let⟨hl,he,⟨hk0,hk1,hk2⟩,h⟩:=h
  wp_walk using ahr hl,zd _ (fun i b m=>b.1=L/\m=⟨t,g,d,r,os⟩/\i<=k) _
  case mD=>
   rintro i b m hi ⟨hb,rfl,hik⟩;have c:i<a.length:=⊥
   have q:a.toArray[i]?=Z a[i]:=by simp[c]
   simp only[q];refine bY<|he _ (afV c) prog w _ _ ?_;by_cases f:i=k
   .subst f;rw[hk1 _<|lE c]
    wp_walk
    exact⟨_,rfl,h⟩
   .rw[hk2 i _ ⊥<|lE c]
    wp_walk
    exact⟨rfl,rfl,⊥⟩
  case fin=>
   grind
  lia
section
variable{X:Cx}{W:Wd}{O:alp}
def E5(x:V):alx->Option Nat
 |[]=>L
 |y::ys=>if eqV y x=U then Z 0 else(E5 x ys).map (·+1)
theorem v8{x:V}:∀{xs:alx}{us:alw}{k:Nat},aY xs us->xs.all fO=U->E5 x xs=Z k->k<us.length/\(∀y,us[k]?=Z y->yg x y=U)/\∀j y,j<k->us[j]?=Z y->yg x y=η
 |_,_,_,.nil,_,h=>by nofun
 |y::xs,u::us,k,.cons r t,f,h=>by
  rw[agJ,afU]at f;unfold E5 at h;cbv
  .rename_i e;nofun;refine⟨∅,fun a h'=>?_,fun j _ b _=>absurd b<|ajc _⟩;simp only[ajP,akR]at h';subst h';rw[wJ r f.1];exact e
  .rename_i e;cases q:E5 x xs with
   |none=>rw[q]at h;nofun
   |some c=>
    rw[q]at h;nofun;let⟨h1,h2,h3⟩:=v8 t f.2 q
    refine⟨by simpa using h1,fun a h'=>h2 a<|by simpa using h',fun j a b h'=>?_⟩;cases j with
    |zero=>
     simp only[ajP,akR]at h';subst h';rw[wJ r f.1];simpa using e
    |succ j=>grind
def abr(K:aT)(x:V)(xs:alx)(H:Hp)(Q:VK):Prop:=∃p vs y k,x=.ref p/\xs=[y]/\hV K H p vs/\fO y=U/\vs.all fO=U/\E5 y vs=Z k/\Q (.int (k:Nat)) H
theorem FF:YZ X "tuple.index"<|abr X.K:=by
 intro f s Y H x xs v us Q I d r h;refine Z47 h fun p vs y k r0_ r1_ a c fs e q=>?_;subst r0_ r1_;cases d;obtain⟨u,rfl,b⟩:=f7 r;let⟨its,rv,pl,hz⟩:=I.tuple a
 let⟨⟨cls,dd,data,sl⟩,ho,hc,n,hd⟩:=id pl
 subst hc hd;exact aki ajG ⟨_,ho,rfl⟩ PySem.F.entry_tuple_index (PySem.F.args_tuple_index_2 _ _) (vo p its n dd sl u (yg y) k) ⟨ho,fun z hz=>iZ b c rv fs z hz,v8 rv fs e,⟨.int _,H,I.tok _,⟨_,rfl⟩,q⟩⟩
def JN(k:D)(ds:aly):R D:=match k,ds with
 |.tup xs,[d]=>match cH d,jQ xs with
  |some v,Z vs=>match E5 v vs with
   |some k=>.ok<|.int (k:Nat)
   |none=>.no
  |_,_=>.no
 |_,_=>.no
def Ft(k:D)(α:FA):FE:=fun Uq0=>(α Uq0).bind fun ds=>JN k ds
theorem Vo:Ft k α Uq0=(α Uq0).bind (JN k):=rfl
theorem HY{apos cpos pos:Pos}(q:X.mg x=Z (.ref p))(m:∀H,cz W.K H d<|.ref p)(g:∃f,W.K.lookup p=Z f/\f.cls=.type "tuple"/\f.dict=L)(n:JA X [e]<|qy W O α)(j:autoParam (X.K=W.K) Xaz)(hg:autoParam (Gl X x) Xaz)(i:autoParam (alz x) Xax)
  (a:autoParam (agx (.Name x pos) "index" X.env (eval (.Name x pos) X.env)=eval (.Name x pos) X.env) Xaz) (b:autoParam (#[8]=U) Xaz) (h1:autoParam ([e].all az=U) Xaz) (c:autoParam ([e].length<29) Xax):
  JE X (.Call (.Attribute (.Name x pos) "index" apos) [e] [] cpos) (tD W O<|Ft d α):=
 (MV PySem.F.plainAttrs_tuple ajG PySem.F.type_tuple_index FF (KB (v:=.ref p) q rfl hg i) n a b h1 c).imp fun Y H Q o=>cx o fun as0 B own Uq0 I h=>by
  let⟨f,g,hc,hdn⟩:=g
  refine⟨.inr<|.inl ⟨rfl,f,by rw[j];exact g,hc,hdn⟩,as0,B,own,Uq0,I,eu h fun ds xs s t l h2=>?_⟩;have dp:=m<|mask #[9] s;unfold JN at h2;split at h2
  .obtain⟨v,rfl,r⟩:=eL l;let⟨p',vs,e0,q1,q2⟩:=dp
   cases e0;split at h2
   .rename_i w ws e1 e2;split at h2
    .rename_i k e3
     have:=fe r e1
     subst this;let⟨h3,h4⟩:=mI q2 e2
     subst h3;exact⟨p,vs,v,k,rfl,rfl,by rw[j];exact(ap _ _).seqT q1,tw e1,h4,e3,aI h2 rfl⟩
    .exact h2.elim
   .exact h2.elim
  .exact h2.elim
end
noncomputable def jz{α:Type}[DecidableEq α](ks:List α):List α:=ks.foldl (fun acc k=>if k∈acc then acc else acc++[k]) []
section
variable{α:Type}[DecidableEq α]
theorem lJ(ks:List α)(k:α):jz (ks++[k])=if k∈jz ks then jz ks else jz ks++[k]:=by unfold jz;rw[akS];rfl
theorem LP(ks:List α):(jz ks).length<=ks.length:=by
 have key:∀n,(jz<|ks.take n).length<=n:=by
  intro n;induction n with
  |zero=>simp[jz]
  |succ n a=>
   rcases ajp n ks.length with h|h
   .rw[agq h,lJ]
    grind
   .rw[agW<|⊥]at a⊢;lia
 have:=key ks.length
 rwa [aiZ]at this
end
abbrev uW(a:Bool):Obj:={cls:=.type "set",dict:=L,data:=.set #[] 0<|.fresh 0 0 a}
abbrev dH(w:agN):Bool:=!w.params.followText "set-order"
structure SetI(prog:ahb)(w:agN)(S:aga)(n:Nat)(P:Nat->By->Prop)(J:Nat->aij->Prop):Prop where
 keep:∀i(h h':aij),J i h->(∀o,h.get? S=Z o->h'.get? S=Z o)->J i h'
 add:∀A E i v(s:MK)(Q:Bool->MK->Prop),i<n->P i v->J i s.heap->(∀b h' tk,s.toks<=tk->agD S s.heap h'->J (i+1) h'->Q b {s with heap:=h',toks:=tk})->af0 #[4] A (setAdd S v) Q E s
section
variable{prog:ahb}{w:agN}{A:ahU}
theorem Hq{R:Result->MK->Prop}{St:Nat->MK->Prop}(W:WalksS prog w A.in1 I fp wr G n P St)(C:SetI prog w S n P J)(l:S∉fp):
  ∀(m i:Nat)(s:MK),n-i=m->i<=n->St i s->J i s.heap->(∀a,Moved (S::wr) G s a->J n a.heap->R (.ok<|.ret .none) a) ->
   ajR #[4] A (.builtin "set.update.loop" ⟨[.ref S,.ref I],[]⟩) R s:=by
 have g:=fun h=>l<|W.sub S h;have c:=fun b(hb:b∈wr)=>mK S hb;intro m;induction m with
 |zero=>
  intro i s B H d y u;obtain rfl:i=n:=⊥
  refine codeAny_builtin F.entry_set_update_loop ?_;rw[ai1 F.plain_set_update_loop _];exact bY (m:=pyNext<|.ref I)<|W.done s _ _ d fun a k=>lT<|u a (k.mono c)<|C.keep _ _ _ y fun o=>k.heap S o g
 |succ m E=>
  intro i s B H d y u;have f:i<n:=⊥
  refine codeAny_builtin F.entry_set_update_loop ?_;rw[ai1 F.plain_set_update_loop _];refine bY (m:=pyNext<|.ref I)<|W.item i s _ _ f d fun v a D r k=>?_;refine bY (m:=holding [v]<|setAdd S v)<|ag1<|C.add _ _ i v a _ f D (C.keep _ _ _ y fun o=>k.heap S o g) fun b h' K p t x=>?_;refine lT ⟨plainId_quiet F.plain_set_update_loop _,E (i+1) _ ⊥ f (W.frame _ a _ _ r p fun b hb o e=>?_) x fun z j q=>?_⟩
  .rw[t.2 b fun h=>l<|h▸hb];exact e
  .refine u z (Moved.trans W.gtrans ((k.mono c).then_heap p fun b o hb e=>?_) j) q;rw[t.2 b fun h=>hb<|h▸agl];exact e
variable{E:als}{s:MK}{Q:als}
theorem Kf(a:By)(h:Q #[13] {s with heap:=s.heap.push<|uW<|dH w}):ajR #[4] A (.call (.builtin "set.__new__") ⟨[.type "set",a],[]⟩) (wants Q E) s:=by
 refine codeAny_of_tree (show af0 _ A.in1 (checkBuiltinCall "set.__new__" _ >>= fun _=>again<|.builtin "set.__new__" _) _ _ s from ?_);refine bY<|akz (PySem.F.newCall_set_1 a)<|lT ⟨plainId_quiet aj8 _,codeAny_builtin PySem.F.entry_set_new ?_⟩;rw[ai1 aj8 _];have b:=sub_set_self;obtain⟨c,g,d,e,os⟩:=s;unfold Builtin.«set.__new__» Builtin.Frozenset.newClass;dsimp only;wp_walk;refine wpAny_askSetting<|lT ?_;dsimp only;simp only[newObj];exact bY<|wpAny_alloc<|lT<|lT h
theorem yK(hh:A.handled=L)(hl:s.heap.IsList l items)(C:SetI prog w s.heap.objs.size items.size (fun i v=>items[i]?=Z v) J)(h0:∀h:aij,h.get? s.heap.objs.size=Z (uW<|dH w)->J 0 h)
  (h:∀(h':aij)(G:Nat),J items.size h'->(∀b o,b<s.heap.objs.size->s.heap.get? b=Z o->h'.get? b=Z o)->Q #[13] {s with heap:=h',toks:=G}):
  af0 #[4] A (call (.type "set") [.ref l]) Q E s:=by
 obtain⟨c,tl,T⟩:=ag4.mro;have I:=ag4.made;have V:=ag4.sub;refine wpAny_call<|codeAny_of_tree (show af0 _ _ (callAny (.type "set") _) _ _ _ from ?_);refine lT ⟨Code.quiet_builtin _<|⊤,codeAny_builtin PySem.F.entry_type_call ?_⟩;rw[Around.under_plain (weight_type_call_type "set" [.ref l] []) rfl];have h1:=ag4.notType;have h2:=ag4.canCreate;have hct:=PySem.F.typeCall_set_1<|.ref l;repeat (any_goals (first|assumption|wp_step))
 refine aix (Kf (.ref l) (E:=E) (Q:=fun q f=>q=.ref s.heap.objs.size/\f={s with heap:=s.heap.push<|uW<|dH w}) ⟨rfl,rfl⟩) fun r f hr=>?_;cases r with
 |error e=>exact hr
 |ok fl=>
  cases fl with
  |ret q=>
   obtain⟨rfl,rfl⟩:=hr;have hS:(s.heap.push<|uW<|dH w).get? s.heap.objs.size=Z (uW<|dH w):=ID _ rfl;have hT:Shared.TypeIs {s with heap:=s.heap.push<|uW<|dH w} #[13] "set":=⟨_,hS,rfl⟩;have hli:=ag4.init.lookup;have hbi:=ag4.init.bind<|.ref s.heap.objs.size;repeat (any_goals (first|assumption|wp_step))
   refine aix (codeAny_call_builtin (R:=wants (fun r g=>r=.none/\∃h' G,g={s with heap:=h',toks:=G}/\J items.size h' /\
     (∀b o,b<s.heap.objs.size->s.heap.get? b=Z o->h'.get? b=Z o)) E) ag4.init.plain PySem.F.entry_set_init (check_set_init_1 hT ?_)) fun z g a=>?_
   .obtain⟨ol,B,x,nl,u⟩:=hl;obtain⟨ocls,j,O,d⟩:=ol;simp only at x u;subst x u;have n:(s.heap.push<|uW<|dH w).get? l=Z ⟨.type "list",j,.seq items nl,d⟩:=eQ _ B;have X:=PySem.F.sub_list_set;have W:=PySem.F.sub_list_frozenset;have hne:(ajz "list"==ajz "dict")=η:=∎
    have y:(s.heap.push<|uW<|dH w).IsList l items:=⟨_,n,rfl,nl,rfl⟩;unfold Builtin.«set.__init__» noKeywords Builtin.Frozenset.updateFrom;generalize H:ald=PI
    wp_walk
    subst H;refine wpAny_pyIter_list y<|bY<|wpAny_runValue ?_;have p:=OR B;have t:l≠(s.heap.push<|uW<|dH w).objs.size:=by rw[agX];exact af7<|ajH p
    have M:s.heap.objs.size∉[(s.heap.push<|uW<|dH w).objs.size,l]:=by
     rw[agX];simp only[oR,agn,or_false,not_or];exact⟨af7<|aiY _,ajn p⟩
    refine Hq ((Walks.list (A:=A.in1.in1.in1) (by simp[hh]) _ l t items).toS) C M (items.size-0) 0 _ #[24] (acr _) ⟨⟨_,ID _ rfl,rfl,rfl⟩,(y.push _)⟩ (h0 _<|eQ _ hS) ?_;intro s' D k;obtain⟨h',g',d',N,P⟩:=s';obtain rfl:g'=s.gens:=D.gens;obtain rfl:d'=s.drawn:=D.drawn;obtain rfl:P=s.os:=D.os;refine lT<|lT ⟨rfl,h',N,rfl,k,fun b o hb e=>?_⟩;have S:b≠(s.heap.push<|uW<|dH w).objs.size:=by rw[agX];exact af7<|ajH hb
    exact D.heap b o (by simp only[oR,agn,or_false,not_or];exact⟨af7 hb,S⟩)<|eQ _<|eQ _ e
   .cases z with
    |error e=>exact a
    |ok m=>
     cases m with
     |ret r=>
      obtain⟨rfl,h',G,rfl,k,K⟩:=a;repeat (any_goals (first|assumption|wp_step))
      exact h _ _ k K
     |_=>exact a.elim
  |_=>exact hr.elim
theorem sv{α:Type}[DecidableEq α]{knd:KeyKind prog w α}{l:aga}{a:Array By}{ks:List α}
  (u:A.handled=L) (x:s.heap.IsList l a) (d:ks.length=a.size) (y:∀(i:Nat)v,a[i]?=Z v->∀k,ks[i]?=Z k->knd.is k v=U/\v.scannable=U) (hb:a.size+1<scanBound)
  (h:∀(h':aij)(g:Nat),h'.SetOf knd s.heap.objs.size (fun r=>decide (r∈jz ks)) (jz ks).length ->
   (∀b o,b<s.heap.objs.size->s.heap.get? b=Z o->h'.get? b=Z o)->Q #[13] {s with heap:=h',toks:=g}):
  af0 #[4] A (call (.type "set") [.ref l]) Q E s:=by
 refine yK (J:=fun i h=>∃(S:α->Bool)(n:Nat),(∀k,S k=decide (k∈jz (ks.take i)))/\n=(jz<|ks.take i).length/\h.SetOf knd s.heap.objs.size S n) u x ⟨fun i h h'⟨S,n,e1,e2,o,es,ep,t,ho,rest⟩k=>⟨S,n,e1,e2,o,es,ep,t,k o ho,rest⟩,fun A E i v s' Q hlt hP⟨S,n,e1,e2,hS⟩q=>?_⟩ (fun h e=>⟨_,_,fun k=>?_,?_,(setObjOf_fresh (knd:=knd) _).setOf e<|by unfold scanBound;lia⟩) fun h' g q_=>Z23 q_ fun S n e1 e2 hS=>?_
 .have hik:i<ks.length:=⊥
  obtain⟨f,j⟩:=y i v hP ks[i]<|lE hik;unfold setAdd;refine ag1<|bY<|knd.pyHash f ?_;have c:n+1<scanBound:=by
   have:=LP<|ks.take i
   rw[agP]at this;lia
  refine wpAny_setAddHashed_of (knd:=knd) (s:={s' with toks:=s'.toks+1}) f j hS c fun h' m p=>q _ _ _ (ai9 _) m ⟨_,_,fun r=>?_,?_,p⟩
  .rw[agq hik,lJ]
   grind
  .rw[agq hik,lJ]
   grind
 .simp[jz]
 .simp[jz]
 .rw[<-d,aiZ]at e1 e2;obtain rfl:S=_:=funext e1;subst e2;exact h h' g hS
end
section
variable{X:Cx}{W:Wd}{O:alp}
def NR(K:aT)(t:TA):TE:=fun Y H Q=>t Y H fun vs H1=>∃a ys,vs=[.ref a]/\dF K H1 a (ys.map V.str)/\ys.length<=1000/\Q (.int ((jz ys).length:Nat)) H1
theorem EM{p1 p2 c pos:Pos}(T:X.calm=U)(r:X.mg "len"=L)(n:X.mg "set"=L)(F:PA X [e] t)(p:autoParam (Gl X "len") Xaz)(m:autoParam (Gl X "set") Xaz)
  (C:autoParam (afY [e] X.env=(η,eval e X.env)::afY [] X.env) Xaz) (y:autoParam ((ahP c<|afY [] X.env).any (·.1)=η) Xaz)
  (g:autoParam (afY [.Call (.Name "set" p2) [e] [] c] X.env=(η,eval (.Call (.Name "set" p2) [e] [] c) X.env)::afY [] X.env) Xaz) (j:autoParam ((ahP pos<|afY [] X.env).any (·.1)=η) Xaz):
  PE X (.Call (.Name "len" p1) [.Call (.Name "set" p2) [e] [] c] [] pos) (NR X.K t):=by
 intro W s Y H Q I h;refine agi (dX I p r BB ?_ ∎<|∎);refine ahT ?_ g j;rw[g];show af0 _ _ (spliced<|(η,eval (.Call (.Name "set" p2) [e] [] c) X.env)::ahP pos (afY [] X.env)) _ _ s;refine ah3 ?_;refine agi (dX I m n BM ?_ ∎<|∎);refine agg (bX (F c W s Y H _ I h) fun us s1 M=>iW M fun vs H1 l r1 D=>?_) C y;obtain⟨a,ys,rfl,E,hl,q⟩:=D;obtain⟨u,rfl,ru⟩:=f7 r1;cases ru;let⟨its,rv,pl,hz⟩:=l.list E
 have f:its.length=ys.length:=by rw[<-rv.length,iF]
 have x:scanBound=4096:=rfl;refine aP l.tk<|sv (knd:=strKind X.prog X.w) (ks:=ys) (l.ok.hd T) pl.isList (by simp[f]) (fun i v O k J=>?_) (by rw[x];simp;lia) fun h' tk S d P=>?_
 .have hv'  := by simpa using O
  obtain⟨u,B,ru⟩:=rv.get<|(by rw[agH,J];rfl);rw[hv']at B;cases B;obtain⟨t',rfl⟩:=ru;exact⟨strKind_is _ _ _ _,rfl⟩
 .refine aic ?_;refine Z48 S fun o es ep t' N z hd R A V G hn=>?_;have I2  := l.kept fun b u e=>d b u (OR e) e;refine call_len_set N z hd G ⊥ ⟨.int _,H1,I2.tok _,⟨_,rfl⟩,?_⟩;rw[hn];exact q
def lM(ds:aly):R D:=match ds with
 |[.lst xs]=>match n6 xs with
  |some ys=>if ys.length<=1000 then .ok (.int ((jz ys).length:Nat))else .no
  |none=>.no
 |_=>.no
theorem Jv{p1 p2 a pos:Pos}(f:X.mg "len"=L)(c:X.mg "set"=L)(k:JA X [e]<|qy W O α)(i:autoParam (X.K=W.K) Xaz)(o:autoParam (X.calm=U) Xaz)(d:autoParam (Gl X "len") Xaz)(b:autoParam (Gl X "set") Xaz)(h1:autoParam (az e=U) Xaz):
  JE X (.Call (.Name "len" p1) [.Call (.Name "set" p2) [e] [] a] [] pos) (tD W O<|aD lM α):=
 (JE.mk<|EM o f c k.out d b (bn h1) rfl rfl rfl).imp fun Y H Q l=>cx l fun as0 B own Uq0 I h=>⟨as0,B,own,Uq0,I,eu h fun ds xs r q g h2=>by
  unfold lM at h2;split at h2
  .obtain⟨v,rfl,m⟩:=eL g;obtain⟨p,vs,rfl,j,n⟩:=m;split at h2
   .rename_i ys e;split at h2
    .rename_i hl;refine⟨p,ys,rfl,?_,hl,aI h2 rfl⟩;rw[<-pG n e,i];exact(ap _ _).seq j
    .exact h2.elim
   .exact h2.elim
  .exact h2.elim⟩
end
section
variable{p1 pos:Pos}
theorem E6(K:aT)(f:Bool->Bool)(r:i∈O)(hW:W.K=K)(I:DI W.K as0 B O own Y Uq0 H)(h:cX W #[9] H (aJ (fun a b=>d7 (jG a b) f) (ak i) ψ Uq0) Q):Lw (vj K f) (uT i) (tD W O ψ) Y H Q:=by
 let⟨a,ha⟩:=bD I.olen r
 refine Z24 (I.owns i a ha) fun d o h1 h2 l m=>?_;have n:ak i Uq0=.ok d:=by unfold ak;rw[h1]
 have h':cX W #[9] H ((ψ Uq0).bind fun y=>d7 (jG d y) f) Q:=by
  have e:aJ (fun a b=>d7 (jG a b) f) (ak i) ψ Uq0=(ψ Uq0).bind fun y=>d7 (jG d y) f:=by unfold aJ;rw[n];rfl
  rw[<-e];exact h
 have p:Lw (vj K f) (uT i) (tD W O ψ) Y H Q=kT Y[i]? H (XA (vj K f) (tD W O ψ) Y Q):=rfl;rw[p,h2];subst hW;refine⟨as0,B,own,Uq0,I,bA h' fun y u q g j c=>?_⟩;have hao  := (agp ha).2;have od:jS W.K (mask [a] q) o d:=m.mono ((fY fun b hb=>by
  mright).trans (aM g))
 have dd  := by
  have:=od.den ∅<|g _ _ l
  rwa [yW]at this
 cases e:jG d y with
 |none=>rw[e]at c;exact c.elim
 |some k=>
  rw[e]at c;exact⟨d,y,k,dd,j.mono<|ap _ _,e,aI c rfl⟩
theorem NS(K:aT)(f:Bool->Bool)(q:i∈O)(n:dz X (agf op)<|vj K f)(hb:JE X b<|tD W O ψ)(m:aiE op b=η)(j:autoParam (X.N[i]?=Z x) Xaz)(o:autoParam #[25] Xbz)(e:autoParam (alz x) Xax)
  (c:autoParam (#[5]=η) Xax) (hW:autoParam (W.K=K) Xaz):JT X (.Compare #[20] [op] [b] pos)<|ky W O<|bG<|aJ (fun a b=>d7 (jG a b) f) (ak i) ψ:=
 (AX n (jv i j o e c) hb m).imp fun Y H Q l=>cx l fun as0 B own Uq0 I h=>E6 K f q hW I (c9 h fun z w g r p d=>by
  cases z with
  |bl k=>cases p;exact d g<|av.refl _
  |_=>exact d.elim)
end
noncomputable def Z4(tab:List<|Str×D)(d:D):R D:=match d with
 |.str x=>(match tab.lookup x with
  |some d=>.ok d
  |none=>.no)
 |_=>.no
section
variable{X:Cx}{W:Wd}{O Ob:alp}{e:agR}{φ:FE}{pos p1:Pos}
theorem N7(tab:List<|Str×D)(j:X.mg x=Z (.ref a))(g:X.K.lookup a=Z ⟨.type "dict",L,.dict es n,#[]⟩)(f:ahK X.w.params es.toList)
  (k:∀y d,tab.lookup y=Z d->∃v u,af5 X.K a y=Z (Z u)/\a7 v u/\∀H,cz W.K H d v) (o:JE X e<|tD W O φ) (hg:autoParam (Gl X x) Xaz) (b:autoParam (alz x) Xax) (hs:autoParam (GW e) Xdz):
  JE X (.Subscript #[20] e pos) (tD W O<|LG (Z4 tab) φ):=⟨by
 intro aa s Y H Q I0 ⟨as0,B,own,Uq0,I,h⟩;refine Db ajt.lookup hs<|jN I0 hg j (bX (o.out aa s Y H (fun v H1=>∃y d,v=.str y/\tab.lookup y=Z d/\cX W #[9] H1 (.ok d) Q) I0 ⟨as0,B,own,Uq0,I,bA h fun y v c l i h2=>?_⟩) fun iv l p=>Z23 p fun yv c I2 ry p=>Z23 p fun y d ey q1 q2=>?_) b
 .unfold Z4 at h2;cases y with
  |str x=>
   cases i;simp only at h2;cases q:tab.lookup x with
   |none=>rw[q]at h2;exact h2.elim
   |some d=>mright
  |_=>exact h2.elim
 .subst ey;obtain⟨t,rfl⟩:=ry;let⟨v,u,h1,h2,h3⟩:=k y d q1
  let⟨m,F⟩:=I2.fr
  refine⟨(ak9 (prog:=X.prog) I2.kIn g f).typeIs,PySem.W.topGetDict_K F I2.mod.kin g f h1 ⟨v,c,I2.tok _,h2,q2 v c (av.refl _) (h3 _)⟩⟩⟩
end
theorem tab_of{P:Str->D->Prop}:∀{tab:List<|Str×D},(∀p∈tab,P p.1 p.2)->∀{y:Str}{d:D},tab.lookup y=Z d->P y d:=@bb _ _ (fun _ _ _ e=>by cases e) fun p r i h y d e=>by
  rw[ahw]at e;cases hb:y==p.1 with
  |true=>
   rw[hb]at e;have e:Z p.2=Z d:=e;cases e
   have:y=p.1:=eq_of_beq hb
   rw[this];exact h p agl
  |false=>rw[hb]at e;exact i (fun q a=>h q<|mK _ a) e
end L2
namespace LX
open PySem PySem.AutoSeq1
open PySem.MeetsSeq PySem.MeetsSeq2 PySem.MeetsSeq3
theorem extend_list(l:aga)(c:Array By)(n:Nat)(b:aga)(a:Array By)(i:Nat)(f:Option aga)(e:Array<|Option By)(g:¬(!c.isEmpty&&ag3 (c.size+a.size))=U)(j:c.size<=afT)(d:c.size+a.size<=afT+1):
  Meets (Builtin.«list.extend» ⟨[.ref l,.ref b],[]⟩) (fun _ R s=>s.heap.get? l=Z {cls:=.type "list",dict:=L,data:=.seq c n,slots:=#[]}/\s.heap.get? b=Z {cls:=.type "list",dict:=f,data:=.seq a i,slots:=e}/\R (.ok<|.ret ajy) {s with heap:=s.heap.update l<|agv fun x=>x++a,toks:=s.toks}):=
 .of_wp fun prog w A R s h=>by
  let⟨hl,hb,h⟩:=h;wp_walk using(wpAny_updateSeq hl rfl),ahr hl,ahr hb;exact⟨_,rfl,h⟩
theorem wO(l:aga)(c:Array By)(n:Nat)(b:aga)(a:Array By)(i:Nat)(f:Option aga)(e:Array<|Option By)(g:¬(!c.isEmpty&&ag3 (c.size+a.size))=U)(j:c.size<=afT)(d:c.size+a.size<=afT+1):
  Meets (Builtin.«list.extend» ⟨[.ref l,.ref b],[]⟩) (fun _ R s=>s.heap.get? l=Z {cls:=.type "list",dict:=L,data:=.seq c n,slots:=#[]}/\s.heap.get? b=Z {cls:=.type "tuple",dict:=f,data:=.seq a i,slots:=e}/\R (.ok<|.ret ajy) {s with heap:=s.heap.update l<|agv fun x=>x++a,toks:=s.toks}):=
 .of_wp fun prog w A R s h=>by
  let⟨hl,hb,h⟩:=h;wp_walk using(wpAny_updateSeq hl rfl),ahr hl,ahr hb;exact⟨_,rfl,h⟩
end LX
namespace L2
open PySem PySem.Spec PyProof.Rows
section
def zQ(K:aT):V->alx->Hp->VK->Prop:=fun x vs H Q=>∃l b xs zs,x=.ref l/\vs=[.ref b]/\H l=Z (.lst xs)/\(dF K H b zs\/hV K H b zs)/\xs.length+zs.length<=afT/\Q .non (upd H l<|.lst<|xs++zs)
theorem Ae:abM X "list.extend"<|zQ X.K:=by
 intro i s Y H x vs v us Q I g f h;refine Z46 h fun l b xs zs r0_ r1_ c hB hz q=>?_;subst r0_ r1_;cases g;obtain⟨u,rfl,ru⟩:=f.one;cases ru;let⟨z,its,n,r,hl,e⟩:=I.lstM c
 rcases hB with hB|hB
 .let⟨its2,r2,pl,hz2⟩:=I.list hB
  let⟨⟨cls,dd,data,sl⟩,ho,hc,n2,hd⟩:=pl.isList
  simp only at hc hd;subst hc hd;have d:=r2.length;have hsz:its.toArray.size+its2.toArray.size<=afT:=by rw[af3,af3];lia
  have a:¬(!its.toArray.isEmpty&&ag3 (its.toArray.size+its2.toArray.size))=U:=by
   rw[zW hsz,aju];exact Le
  refine aki F.slot_list_extend ⟨_,e,rfl⟩ F.entry_list_extend (F.args_list_extend_2 _ _) (LX.extend_list l its.toArray n b its2.toArray n2 dd sl a (by rw[af3];lia)<|by omega) ⟨e,ho,?_⟩;refine⟨.non,_,I.lset (its':=its++its2) c e ∅ (r.append r2) ?_,rfl,q⟩
  grind
 .let⟨its2,r2,pl,hz2⟩:=I.tuple hB
  let⟨⟨cls,dd,data,sl⟩,ho,hc,n2,hd⟩:=pl
  subst hc hd;have d:=r2.length;have hsz:its.toArray.size+its2.toArray.size<=afT:=by grind
  have a:¬(!its.toArray.isEmpty&&ag3 (its.toArray.size+its2.toArray.size))=U:=by
   rw[zW hsz,aju];exact Le
  refine aki F.slot_list_extend ⟨_,e,rfl⟩ F.entry_list_extend (F.args_list_extend_2 _ _) (LX.wO l its.toArray n b its2.toArray n2 dd sl a (by mright)<|by omega) ⟨e,ho,?_⟩;refine⟨.non,_,I.lset c e ∅ (r.append r2) ?_,rfl,q⟩
  grind
end
section
variable{X:Cx}{W:Wd}{Ob O:alp}{e f:agR}{ε φ ψ:FE}{pos p1 p2 apos cpos:Pos}{x:Str}
noncomputable def CC(d:D):Option<|aly:=match d with
 |.lst ys=>Z ys
 |.tup ys=>Z ys
 |_=>L
def iw(i:Nat)(ε:FE):FS:=fun Uq0=>match Uq0[i]? with
 |some (Z<|.lst xs)=>(ε Uq0).bind fun d=>match CC d with
  |some ys=>if xs.length+ys.length<=1000000 then .ok (.nx<|Uq0.set i<|Z<|.lst<|xs++ys)else .no
  |none=>.no
 |_=>.no
theorem EX{K:aT}(h:cz K H d v)(e:CC d=Z ys):∃b zs,v=.ref b/\(dF K H b zs\/hV K H b zs)/\aE K H ys zs:=by
 cases d with
 |lst xs=>cases e;obtain⟨a,vs,rfl,h1,h2⟩:=h;exact⟨a,vs,rfl,.inl h1,h2⟩
 |tup xs=>cases e;obtain⟨a,vs,rfl,h1,h2⟩:=h;exact⟨a,vs,rfl,.inr h1,h2⟩
 |_=>cases e
theorem EH(u:i∈O)(w:JE X e<|tD W O ε)(r:autoParam (X.N[i]?=Z x) Xaz)(hn:autoParam (az e=U) Xaz)(g:autoParam (#[8]=U) Xaz)(t:autoParam #[25] Xbz)(n:autoParam (alz x) Xax)
  (j:autoParam (#[5]=η) Xax) (f:autoParam (agx #[20] "extend" X.env (eval #[20] X.env)=eval #[20] X.env) Xaz)
  (hs:autoParam (ahj (.Call (.Attribute #[20] "extend" apos) [e] [] cpos) L pos.line X.env=pure η) Xaz) (hW:autoParam (W.K=X.K) Xaz):
  JS X (.Expr (.Call (.Attribute #[20] "extend" apos) [e] [] cpos) pos) (sD W Ob O O<|iw i ε):=
 (l5 (MV ahX PySem.F.slot_list_extend PySem.F.type_list_extend Ae (jv i r t n j) (eX w iM hn) f g (by grind)<|by grind) hs).imp fun D Y H s=>cx s fun as0 B own Uq0 I h=>by
  let⟨a,ha⟩:=bD I.olen u
  let⟨d,o,h1,h2,h3,h4⟩:=I.owns i a ha
  show kT Y[i]? H fun x H1=>QW X.K "list" x H1/\tD W O ε Y H1 fun v l=>zQ X.K x [v] l fun _ p=>D.nx Y p;rw[h2];unfold iw at h;rw[h1]at h;cases d with
  |lst ds=>
   obtain⟨xs,rfl,q⟩:=h4;refine⟨.inl ⟨rfl,xs,dF.of h3⟩,as0,B,own,Uq0,I,bI I h fun y v l k m c=>?_⟩;cases ey:CC y with
   |none=>rw[ey]at c;exact c.elim
   |some ys=>
    rw[ey]at c;have c:ce W as0 B Ob O (if ds.length+ys.length<=1000000 then .ok (.nx<|Uq0.set i<|Z<|.lst<|ds++ys)else .no) D:=c;split at c
    .obtain⟨b,zs,rfl,hb,hz⟩:=EX m ey;have A:=cR;refine⟨a,b,xs,zs,rfl,rfl,k _ _ h3,?_,?_,?_⟩
     .rw[hW]at hb;exact hb.imp (fun z=>(ap _ _).seq z) fun z=>(ap _ _).seqT z
     .have:=q.len;have:=hz.len;lia
     .exact c own Y _ ((I.mono k).mutate ha ⟨xs++zs,rfl,(q.mono<|aM k).append hz⟩)
    .exact c.elim
  |_=>mleft
theorem Sm(K:aT){i:Nat}{C:String}(w:i∈O)(t:X.mg "isinstance"=L)(y:JE X e<|tD W O<|vC<|.ty C)(r:autoParam (X.N[i]?=Z x) Xaz)(hg:autoParam (Gl X "isinstance") Xaz)(g:autoParam #[25] Xbz)(m:autoParam (alz x) Xax)
  (f:autoParam (#[5]=η) Xax) (hn:autoParam (az e=U) Xaz) (n:autoParam (X.K=K) Xaz) (hW:autoParam (W.K=K) Xaz):JE X (.Call (.Name "isinstance" p2) [.Name x p1,e] [] pos)<|tD W O<|aD pJ<|aj (ak i)<|aj (vC<|.ty C) aA:=
 (xk (O8 K n) t mm (eX (jv i r g m f)<|eX y iM hn) hg rfl (by rw[agJ,hn];rfl)).imp fun Y H Q s=>cx s fun as0 B own Uq0 I h=>by
  obtain⟨a,p⟩:=bD I.olen w;refine Z24 (I.owns i a p) fun d o h1 h2 j c=>?_;show kT Y[i]? H fun v H1=>tD W O (vC<|.ty C) Y H1 fun u k=>C9 K [v,u] k Q;rw[h2];have g:ak i Uq0=.ok d:=by unfold ak;rw[h1]
  have h':cX W #[9] H (pJ [d,.ty C]) Q:=by
   have e:aD pJ (aj (ak i)<|aj (vC<|.ty C) aA) Uq0=pJ [d,.ty C]:=by unfold aD aj aA vC;rw[g];rfl
   rw[<-e];exact h
  refine⟨as0,B,own,Uq0,I,fun u k b l=>?_⟩;cases l;cases d with
  |lst ds=>
   obtain⟨xs,rfl,q⟩:=c;unfold pJ at h';simp only at h';split at h'
   .rename_i hC;exact⟨hC,.inl ⟨xs,dF.of<|b _ _ j,aI (h'.mono b) rfl⟩⟩
   .exact h'.elim
  |dct ds=>
   obtain⟨xs,rfl,q⟩:=c;unfold pJ at h';simp only at h';split at h'
   .rename_i hC;exact⟨hC,.inr<|.inr<|.inl ⟨xs,b _ _ j,aI (h'.mono b) rfl⟩⟩
   .exact h'.elim
  |obj z ds=>
   unfold pJ at h';simp only at h';split at h'<;>exact h'.elim
  |_=>exact c.elim
theorem SM(K:aT)(p:i∈O)(n:X.mg "tuple"=L)(k:autoParam (X.N[i]?=Z x) Xaz)(hg:autoParam (Gl X "tuple") Xaz)(f:autoParam #[25] Xbz)(g:autoParam (alz x) Xax)
  (b:autoParam (#[5]=η) Xax) (j:autoParam (X.K=K) Xaz) (hW:autoParam (W.K=K) Xaz):JE X (.Call (.Name "tuple" p2) [.Name x p1] [] pos)<|tD W O<|aD oM<|aj (ak i) aA:=
 (rS (Ji K j) n sJ (eX (jv i k f g b) iM) hg).imp fun Y H Q m=>cx m fun as0 B own Uq0 I h=>by
  let⟨a,ha⟩:=bD I.olen p
  let⟨d,o,h1,h2,h3,h4⟩:=I.owns i a ha
  show kT Y[i]? H fun v H1=>xO K [v] H1 Q;rw[h2];have f:ak i Uq0=.ok d:=by unfold ak;rw[h1]
  have h':cX W #[9] H (oM [d]) Q:=by
   have e:aD oM (aj (ak i) aA) Uq0=oM [d]:=by unfold aD aj aA;rw[f];rfl
   rw[<-e];exact h
  cases d with
  |lst ds=>
   obtain⟨xs,rfl,q⟩:=h4;refine .inl ⟨xs,dF.of h3,fun l c=>?_⟩;have hn:=I.new c;exact h' _ _ (aH c _) ⟨l,xs,rfl,.inl<|.inl<|by rw[aO hn];exact aG,q.mono<|aM<|aH c _⟩
  |_=>first|exact h4.elim|exact h'.elim
theorem RD(K:aT){i:Nat}(t:i∈O)(s:X.mg "list"=L)(p:autoParam (X.N[i]?=Z x) Xaz)(hg:autoParam (Gl X "list") Xaz)(f:autoParam #[25] Xbz)(k:autoParam (alz x) Xax)
  (c:autoParam (#[5]=η) Xax) (m:autoParam (X.K=K) Xaz) (hW:autoParam (W.K=K) Xaz):JE X (.Call (.Name "list" p2) [.Name x p1] [] pos)<|tN W O<|aD vd<|aj (ak i) aA:=
 (rS (Ii K m) s lO (eX (jv i p f k c) iM) hg).imp fun Y H Q r=>cx r fun as0 B own Uq0 I h=>by
  obtain⟨a,n⟩:=bD I.olen t;refine Z24 (I.owns i a n) fun d o h1 h2 j g=>?_;show kT Y[i]? H fun v H1=>xR K [v] H1 Q;rw[h2];have f:ak i Uq0=.ok d:=by unfold ak;rw[h1]
  have h':e8 W #[9] H (vd [d]) Q:=by
   have e:aD vd (aj (ak i) aA) Uq0=vd [d]:=by unfold aD aj aA;rw[f];rfl
   rw[<-e];exact h
  cases d with
  |lst ds=>
   obtain⟨xs,rfl,q⟩:=g;refine⟨xs,.inl<|dF.of j,fun l b=>?_⟩;exact h' l _ _ (aH b _) b aG ⟨xs,rfl,q.mono<|fL b<|aH b _⟩
  |_=>first|exact g.elim|exact h'.elim
end
structure Nw(X:Cx)(aa:alr)(b:aga):Prop where
 base:X.s₀.heap.get? b=L
 loc:b≠X.env.locals
 fs:b∉X.fs
 cell:∀x c,X.env.cells.lookup x=Z c->c≠b
 pin:∀p∈X.pn++aa,p.1≠b
section
variable{Y:St}{s:MK}
theorem Inv.track(I:Inv X aa Y H s)(n:Nw X aa y)(hy:H y=L)(new:cQ X.prog X.w (upd H y o) s.heap y o):Inv X aa Y (upd H y o) s:=by
 have hs  := aH hy o;refine⟨I.ok,I.os,I.bare,⟨I.base.keep,I.base.slot,fun b d e g h=>?_,I.base.there,fun b xs e=>hs _ _<|I.base.tups b xs e,fun b d u e=>hs _ _<|I.base.frzs b d u e,fun b ps e=>?_⟩,I.loc,I.cell,?_,fun x c e=>?_,fun p f=>?_,fun a u e=>?_,I.len,I.tk⟩
 .have:b≠y:=fun z=>by rw[z,n.base]at e;cases e
  rw[aF this];exact I.base.free b d e g h
 .exact hs _ _ (I.base.tbls b ps e)
 .rw[aF<|ah5 n.loc];exact I.free
 .rw[aF<|n.cell x c e];exact I.freeC x c e
 .let⟨h1,h2,h3⟩:=I.pin p f
  exact⟨h1,by rw[aF<|n.pin p f];exact h2,h3⟩
 .by_cases ha:a=y
  .subst ha;have i:u=o:=by unfold upd at e;lia
   rw[i];exact new
  .rw[aF ha]at e;exact(I.hok a u e).stay (fun _ _ _ q=>q) (fun b q=>hs _ _ q) fun b xs q=>⟨hs _ _ q.1,q.2⟩
end
abbrev Yd(K:aT)(x:Str)(C:aga):Prop:=af5 K age x=Z (Z<|.ref C)
section
variable{W:Wd}
theorem YN{O:alp}{p:Pos}(b:X.mg x=Z (.ref C))(hn:Yd W.K x C)(hg:autoParam (Gl X x) Xaz)(a:autoParam (alz x) Xax):JE X (.Name x p)<|tD W O<|vC<|.cls x:=
 ⟨fun aa s Y H Q I q_=>Z42 q_ fun as0 B own Uq0 _ h=>jN I hg b ⟨.ref C,H,I,rfl,h _ H (av.refl _) ⟨C,rfl,hn⟩⟩ a⟩
end
section
variable{X:Cx}{W:Wd}{Ob O:alp}{e:agR}{ε:FE}{pos:Pos}
noncomputable def Zm(i:Nat)(Uq0:Sd)(a:Int)(d:D):R Fl:=match d with
 |.int b=>.ok<|.nx<|Uq0.set i<|Z<|.int<|a+b
 |_=>.no
def rZ(i:Nat)(ε:FE):FS:=fun Uq0=>match Uq0[i]? with
 |some (Z<|.int a)=>(ε Uq0).bind<|Zm i Uq0 a
 |_=>.no
theorem FL{pos':Pos}(c:i∉O)(g:X.N.Nodup)(j:Loc X.env.scope x)(m:JE X e<|tD W O ε)(l:autoParam (X.N[i]?=Z x) Xaz)(f:autoParam #[3] Xcz):
  JS X (.AugAssign (.Name x pos') .Add e pos) (sD W Ob O O<|rZ i ε):=
 (JS.mk<|R8 g l j m.out (Sx fun _ _ _ _ _ _ _ q=>iadd_int q) f).imp fun D' Y H k=>cx k fun as0 B own Uq0 I h=>by
  unfold rZ at h;cbv
  .rename_i a ha;let⟨v,hv,dv⟩:=I.var i _ c ha
   cases dv;refine⟨.int a,hv,as0,B,own,Uq0,I,bI I h fun d v H' s b h'=>?_⟩;unfold Zm at h';split at h'
   .cases b;exact⟨_,_,rfl,rfl,h' own _ H'<|(I.mono s).set c rfl⟩
   .exact h'.elim
  .mleft
end
end L2
namespace TS
open PySem PyProof.Rows
structure TO{α:Type}(lt:α->α->Prop):Prop where
 irr:∀a,¬lt a a
 tr:∀a b c,lt a b->lt b c->lt a c
 tri:∀a b,lt a b\/a=b\/lt b a
abbrev K4:Type:=Int×Int×List Nat×Int
def LK(x y:K4):Prop:=x.1<y.1\/(x.1=y.1/\(x.2.1<y.2.1\/(x.2.1=y.2.1/\(x.2.2.1<y.2.2.1\/(x.2.2.1=y.2.2.1/\x.2.2.2<y.2.2.2)))))
instance (x y:K4):Decidable<|LK x y:=by unfold LK;infer_instance
section
theorem l1{a a':Int}{k l:Int×List Nat×Int}(h:a≠a'):LK (a,k) (a',l)↔a<a':=by simp[LK,h]
theorem l2{a b b':Int}{k l:List Nat×Int}(h:b≠b'):LK (a,b,k) (a,b',l)↔b<b':=by simp[LK,h]
theorem l3{a b c d:Int}{m n:alp}(h:m≠n):LK (a,b,m,c) (a,b,n,d)↔m<n:=by simp[LK,h]
end
end TS
namespace L2
open PySem PySem.Spec PyProof.Rows
open TS (K4 LK)
theorem EY{α:Type}{a:α}{P:Prop}(h:(L:Option α)=Z a):P:=by nofun
noncomputable def aeY:D->Option Int
 |.int n=>Z n
 |_=>L
theorem L3(h:aeY d=Z n):d=.int n:=by
 cases d with
 |int i=>exact alo D.int<|ahd h
 |_=>exact EY h
noncomputable def acn(v:D)(n:Int):Option K4:=match v with
 |.non=>Z (0,0,[],n)
 |.int i=>Z (1,i,[],n)
 |.str z=>Z (2,0,z.cps.toList,n)
 |_=>L
def acD(xs:aly):Option K4:=match xs with
 |[v,w]=>(aeY w).bind<|acn v
 |_=>L
def Bz(d:D):Option K4:=match d with
 |.tup xs=>acD xs
 |_=>L
noncomputable def au(k:K4):D:=if k.1=0 then .tup [.non,.int k.2.2.2]else if k.1=1 then .tup [.int k.2.1,.int k.2.2.2]else .tup [.str ⟨k.2.2.1.toArray⟩,.int k.2.2.2]
theorem J1(h:Bz d=Z k):au k=d:=by
 cases d with
 |tup xs=>
  match xs,h with
  |[],h=>exact EY h
  |[v],h=>exact EY h
  |[v,w],h=>
   let⟨n,e1,e2⟩:=dO.mp h
   rw[L3 e1];cases v with
   |non=>cases e2;rfl
   |int i=>cases e2;rfl
   |str z=>cases e2;rfl
   |_=>exact EY e2
  |v::w::u::r,h=>exact EY h
 |_=>exact EY h
end L2
namespace L2
open PySem PySem.Spec PyProof.Rows
section
variable{X:Cx}{W:Wd}{Ob O O2:alp}{e:agR}{φ:FE}{pos p1 apos cpos:Pos}{x:Str}
noncomputable def BV(i:Nat):FS:=fun Uq0=>match Uq0[i]? with
 |some (Z<|.lst xs)=>.ok<|.nx<|Uq0.set i<|Z<|.lst []
 |_=>.no
theorem Lp{i:Nat}(r:i∈O)(m:autoParam (X.N[i]?=Z x) Xaz)(c:autoParam (#[8]=U) Xaz)(p:autoParam #[25] Xbz)(j:autoParam (alz x) Xax)
  (e:autoParam (#[5]=η) Xax) (b:autoParam (agx #[20] "clear" X.env (eval #[20] X.env)=eval #[20] X.env) Xaz)
  (hs:autoParam (ahj (.Call (.Attribute #[20] "clear" apos) [] [] cpos) L pos.line X.env=pure η) Xaz) (hW:autoParam (W.K=X.K) Xaz):
  JS X (.Expr (.Call (.Attribute #[20] "clear" apos) [] [] cpos) pos) (sD W Ob O O<|BV i):=
 (l5 (WZ ahX PySem.F.slot_list_clear PySem.F.type_list_clear IQ (jv i m p j e) b c) hs).imp fun D Y H n=>cx n fun as0 B own Uq0 I h=>by
  obtain⟨a,g⟩:=bD I.olen r;refine Z24 (I.owns i a g) fun d o h1 h2 f l=>?_;show kT Y[i]? H fun x H1=>QW X.K "list" x H1/\Ho x [] H1 (fun _ k=>D.nx Y k);rw[h2];unfold BV at h;rw[h1]at h;cases d with
  |lst ds=>
   obtain⟨xs,rfl,q⟩:=l;refine⟨.inl ⟨rfl,xs,dF.of f⟩,a,xs,rfl,rfl,f,?_⟩;exact h own Y _<|I.mutate g ⟨[],rfl,aE.nil⟩
  |_=>mleft
end
section
variable{W:Wd}{X:Cx}
noncomputable def eS(p:ahq):List ahq->Option Bool
 |[]=>Z η
 |q::r=>if agk q=U/\q.depth<=32 then(eS p r).map fun b=>agS q p||b else L
def jB(x:D)(xs:aly):Option Bool:=match bM x,bH xs with
 |some p,Z ps=>if agk p=U then eS p ps else L
 |_,_=>L
def Ym(K:aT):R2:=fun x y H Q=>∃p a ds xs k,y=.ref p/\hV K H p xs/\cz K H a x/\aE K H ds xs/\jB a ds=Z k/\Q (.bl k) H
open Classical in
noncomputable def ou(s:MK)(p:ahq)(u:By):Bool:=decide (∃q bs,Reads s.heap u q bs/\q.canLay0=U/\agS q p=U)
theorem GO(r:Reads s.heap u q bs)(b:q.canLay0=U):ou s p u=agS q p:=by
 classical
 cases e:agS q p with
 |true=>exact @alm _ (_) ⟨q,bs,r,b,e⟩
 |false=>
  refine @alk _ (_) fun q_=>Z23 q_ fun q' a c _ d=>?_
  have:=SeqAt.Reads.unique q q' u bs a b r c
  lia
theorem ug{l:alr}{Y:St}{H:Hp}{s:MK}(I:Inv X l Y H s)(g:X.A.units+64<aiV){v:By}{p:ahq}{as:alv}(c:Reads s.heap v p as)(f:agk p=U):∀{ds:aly}{vs:alx}{us:alw}{ps:List ahq}{k:Bool},aE X.K H ds vs->aY vs us->bH ds=Z ps->eS p ps=Z k ->
  (∀u∈us,akO X.A.in1 s u v<|ou s p u)/\us.any (ou s p)=k
 |[],_,_,_,_,h,r,e,q=>by
  nofun;cases r;cases e;cases q
  grind
 |d::ds,_,_,_,k,⟨w1,ws,h0,h1,h2⟩,r,e,q=>by
  subst h0;unfold bH at e;cases q1:bM d with
  |none=>mright
  |some x=>
   rw[q1]at e;cases q2:bH ds with
   |none=>grind
   |some xs=>
    rw[q2]at e;cases e;unfold eS at q;split at q
    .rename_i hs;cases q3:eS p xs with
     |none=>grind
     |some k2=>
      cases r with
      |@cons _ u _ us r1 r2=>
       let⟨bs,hb⟩:=eU I h1 r1 q1
       let⟨i1,i2⟩:=ug I g c f h2 r2 q2 q3
       have b:=ah2 hs.1;have i:=GO (p:=p) hb b;refine⟨fun j a=>?_,by grind⟩;rcases oR.mp a with z|z
       .subst z;rw[i];refine SeqAt.eqAt_reads x p X.A.in1 s _ v bs as hb c b (ah2 f) ?_
        lia
       .exact i1 j z
    .cases q
theorem J8(h:jB x xs=Z k):∃p ps,bM x=Z p/\bH xs=Z ps/\agk p=U/\eS p ps=Z k:=by
 unfold jB at h;cbv
 .mright
 .nofun
theorem Xz(K:aT)(j:X.A.units+64<aiV)(d:autoParam (X.K=K) Xaz):dz X (agf .In)<|Ym K:=by
 subst d;intro o s Y H x y v u Q I n f h;refine Z56 h fun p a ds xs k r0_ l m i e q=>?_;subst r0_;cases f;refine Z24 (J8 e) fun b ps h1 h2 c g=>?_;let⟨as,ra⟩:=eU I m n h1
 let⟨its,r,pl,hz⟩:=I.tuple l
 let⟨i1,i2⟩:=ug I j ra c i r h2 g
 refine ak0 (ou s b) pl (fun y hy=>i1 y<|by simpa using hy) ⟨.bl k,H,I,?_,q⟩;rw[show(its.toArray.any<|ou s b)=its.any (ou s b) by simp,i2];rfl
def Rn(x y:D):Option Bool:=match y with
 |.tup ds=>jB x ds
 |_=>L
def Ge(x y:D):R D:=d7 (Rn x y) fun k=>k
theorem X6(K:aT)(hW:autoParam (W.K=K) Xaz):pb W (Ym K) Ge:=by
 subst hW;intro as H x y a b Q hn d c h;unfold Ge at h;cases e:Rn a b with
 |none=>rw[e]at h;mleft
 |some k=>
  rw[e]at h;have fin:=aI h<|(rfl);cases b with
  |tup ds=>
   obtain⟨p,xs,rfl,h1,h2⟩:=c;exact⟨p,a,_,xs,k,rfl,(ap _ _).seqT h1,d.mono<|ap _ _,h2.mono<|ap _ _,e,fin⟩
  |_=>cases e
end
end L2
namespace HT
open PySem PySem.Spec PyProof.Rows L2
section
theorem me{lo c:Option Int}(b:akW s.heap t items)(hs:s.heap.IsSliceOf sl vl vu .none)(pl:IsPart vl lo)(e:IsPart vu c)
  (hw:sIx items.size 0 lo=0/\sIx items.size items.size c=items.size) (h:Q (.ref t) s):af0 #[4] A (ajx (.ref t)<|.ref sl) Q E s:=by
 let⟨os,hos,hcs,hds⟩:=id hs
 have d:s.TypeIs (.ref sl) "slice":=⟨os,hos,hcs⟩;unfold ajx;try with_reducible refine ag1 ?_
 refine bY<|wpAny_sequenceKey b.typeIs ∎ ?_;refine bY (agG b.typeIs agB
  (agt agB b.typeIs entry_tuple_getitem ?_ (args_tuple_getitem _ _)))
 show af0 _ _ (ajk (.ref t) >>= _) _ _ s;refine bY<|tupleItemsOf_ b ?_;refine bY<|akf d ?_;refine bY<|jm hs pl e ?_;have a:(((sIx items.size 0 lo):Int)==0&&(1:Int)==1&&(sIx items.size items.size c-sIx items.size 0 lo)==items.size)=U:=by
  mright
 show af0 _ _ (if(((sIx items.size 0 lo):Int)==0&&1==1&&(sIx items.size items.size c-sIx items.size 0 lo)==items.size)=U then _ else _) _ _ s;rw[ali a];refine bY ?_;refine bY<|akf b.typeIs<|lT ?_
 first
  |assumption
  |lia
  |lia
  |exact bY (ajL<|lT ⟨_,rfl,lT h⟩)
end
end HT
namespace L2
open PySem PySem.Spec PyProof.Rows
section
variable{X:Cx}{W:Wd}
def abw(K:aT):V->Option Int->Option Int->Hp->VK->Prop:=fun x lo b H Q=>∃a xs,x=.ref a/\hV K H a xs/\(HT.sIx xs.length 0 lo=0/\HT.sIx xs.length xs.length b=xs.length)/\Q (.ref a) H
def Vx(K:aT)(x:V)(lo a:Option Int)(H:Hp)(Q:VK):Prop:=XJ K x lo a H Q\/abw K x lo a H Q
theorem ade(K:aT)(b:autoParam (X.K=K) Xaz):Aa X<|Vx K:=by
 subst b;exact U4.or (by
   intro k s Y H x v i f lo j g Q I e hs pl d h;obtain⟨a,xs,rfl,c,hw,q⟩:=h;cases e;let⟨its,r,ht,hz⟩:=I.tuple c
   have hlen  := by exact r.length.symm
   refine⟨"tuple",_,agB.lookup,ht.typeIs,?_⟩;exact HT.me ht hs pl d (by grind) ⟨.ref a,H,I,rfl,q⟩)
def ve(a:D)(lo b:Option Int):R D:=match a with
 |.tup xs=>if HT.sIx xs.length 0 lo=0/\HT.sIx xs.length xs.length b=xs.length then .ok (.tup xs)else .ok (.tup<|hZ xs lo b)
 |d=>si d lo b
theorem aai(K:aT)(hW:autoParam (W.K=K) Xaz):Z3 W (Vx K) ve:=by
 subst hW;intro as H x lo c a Q hn b h;unfold ve at h;cbv
 .cbv
  .rename_i hc;have d:=b;obtain⟨p,vs,rfl,e,f⟩:=b;rw[f.len]at hc;exact .inr ⟨p,vs,rfl,(ap _ _).seqT e,hc,aI h d⟩
  .refine .inl (aao W.K rfl as H x lo c _ Q hn b ?_);unfold si
   lia
 .exact .inl (aao W.K rfl as H x lo c _ Q hn b h)
theorem ZL{lo a:Option Int}:ve (.tup xs) lo a=.ok (.tup<|hZ xs lo a):=by
 unfold ve;dsimp only;split
 .unfold hZ
  grind
 .rfl
end
section
variable{X:Cx}{W:Wd}{Ob O O2:alp}{e ie:agR}{φ ε:FE}{pos p1 spos:Pos}{x:Str}
abbrev FG:Type:=D->Sd->R Sd
def gF(W:Wd)(O:alp)(f:FG):TG:=fun v Y H Q=>∃as0 B own Uq0 d,DI W.K as0 B O own Y Uq0 H/\cz W.K (mask #[9] H) d v/\match f d Uq0 with
 |.ok δ'=>∀a H',av (mask #[9] H) (mask #[9] H')->DI W.K as0 B O own a δ' H'->Q a H'
 |_=>False
theorem Si(h:JG X t<|gD W O tg):JG X t<|gF W O<|fW tg:=h.imp fun v Y H Q q_=>Z53 q_ fun as0 B own Uq0 d I dv h=>by
 refine⟨as0,B,own,Uq0,d,I,dv,?_⟩;cases q:fW tg d Uq0 with
 |ok δ'=>rw[q]at h;exact fun a b=>h a H (fun _ _ e=>e) b
 |er y=>rw[q]at h;exact h
 |no=>rw[q]at h;exact h
noncomputable def Of(f:FG)(ε:FE):FS:=fun Uq0=>(ε Uq0).bind fun d=>match f d Uq0 with
 |.ok δ'=>.ok<|.nx δ'
 |_=>.no
theorem Tm(j:JE X e<|tD W O ε)(hg:JG X t<|gF W O f)(hs:autoParam (swapsWithSole [t] e pos.line X.env=pure η) Xaz)(hw:autoParam (swappedStores [t] e X.env=pure L) Xaz)
  (h1:autoParam ((agK [t] X.env).map (·.2)=[assign t X.env]) Xaz):JS X (.Assign [t] e pos)<|sD W Ob O O<|Of f ε:=(HP j hg hs hw h1).imp fun D Y H c=>cx c fun as0 B own Uq0 I h=>
 ⟨as0,B,own,Uq0,I,bI I h fun d v H' s g h'=>by
  refine⟨as0,B,own,Uq0,d,I.mono s,g,?_⟩;cases e1:f d Uq0 with
  |ok δ'=>rw[e1]at h';exact fun a i _ b=>h' own a i b
  |er y=>rw[e1]at h';exact h'
  |no=>rw[e1]at h';exact h'⟩
theorem SW(h:ε Uq0=.ok d)(a:f d Uq0=.ok δ'):Of f ε Uq0=.ok (.nx δ'):=by
 unfold Of;rw[h];show(match f d Uq0 with|.ok δ'=>R.ok (Fl.nx δ')|_=>.no)=_;rw[a]
end
section
variable{X:Cx}{W:Wd}{O:alp}{tg:agR}
def SL:aly->R (aly)
 |[.int i,.int j]=>if -(2^62)<=i/\i<2^62/\-(2^62)<=j/\j<2^62 then .ok (bK i (j-i).toNat)else .no
 |_=>.no
def uS(α:FA):FA:=fun Uq0=>(α Uq0).bind SL
theorem F8{p pos:Pos}(g:X.mg "range"=L)(e:JA X [a,b]<|qy W O α)(hg:autoParam (Gl X "range") Xaz)(hs:autoParam (afY [a,b] X.env=[(η,eval a X.env),(η,eval b X.env)]) Xaz)(c:autoParam (afY [b] X.env=[(η,eval b X.env)]) Xaz):JI X tg (.Call (.Name "range" p) [a,b] [] pos)<|iD W O<|uS α:=
 (⟨E1 hg g e.out hs c⟩:JI X tg (.Call (.Name "range" p) [a,b] [] pos)<|Pf<|qy W O α).imp fun Y H Q f=>cx f fun as0 B own Uq0 I h=>
 ⟨as0,B,own,Uq0,I,ib h fun ds vs H' s k h'=>by
  unfold SL at h';split at h'
  .obtain⟨v,r,rfl,i,l,r2,rfl,d,j⟩:=k;cases i;cases d;cases j;split at h'
   .rename_i hj;exact⟨_,_,rfl,hj,h' _ H' (av.refl _)<|oj _ _⟩
   .exact h'.elim
  .exact h'.elim⟩
theorem GS{ws:alw}(l:akW s.heap t #[])(hb:akW s.heap b ws.toArray)(h:Q (.ref b) s):af0 #[4] A (ahh .Add (.ref t)<|.ref b) Q E s:=by
 obtain⟨⟨p,o,i,m⟩,g,r,n,k⟩:=id l;obtain⟨⟨j,e,data2,d⟩,a,f,q,c⟩:=id hb;subst r k f c;exact concat_meets ⟨_,g,rfl⟩ ⟨_,a,rfl⟩ noFill_tuple_add seq_tuple_add aiG aiA (aiv _ _) (tuple_addW0 t b #[] ws.toArray n q o e m d rfl) ⟨g,a,h⟩
def J6(K:aT):R2:=fun x y H Q=>Ch K x y H Q\/∃l b zs,x=.ref l/\y=.ref b/\hV K H l []/\hV K H b zs/\Q (.ref b) H
theorem Uy(K:aT)(a:autoParam (X.K=K) Xaz):dz X (ahh .Add)<|J6 K:=by
 subst a;refine(Qb X.K).or ?_;intro e s Y H x y v u Q I d c h;obtain⟨l,b,zs,rfl,rfl,h1,h2,q⟩:=h;cases d;cases c;let⟨its,r1,p1,_⟩:=I.tuple h1
 let⟨its2,r2,p2,_⟩:=I.tuple h2
 cases r1;exact GS p1 p2 ⟨.ref b,H,I,rfl,q⟩
def qA(a b:D):R D:=match a with
 |.tup []=>(match b with
  |.tup ys=>.ok<|.tup ys
  |_=>.no)
 |a=>eR a b
theorem Zu(K:aT)(hW:autoParam (W.K=K) Xaz):pb W (J6 K) qA:=by
 intro as H x y a b Q hn e c h;unfold qA at h;cbv
 .cbv
  .obtain⟨p,vs,rfl,f,g⟩:=e;cases g;obtain⟨p2,ws,rfl,d,i⟩:=c;subst hW;exact .inr ⟨p,p2,ws,rfl,rfl,(ap _ _).seqT f,(ap _ _).seqT d,aI h ⟨p2,ws,rfl,d,i⟩⟩
  .mleft
 .exact .inl (VB K hW as H x y a b Q hn e c h)
variable{apos cpos:Pos}
end
section
variable{Y:St}
theorem Inv.frzD(I:Inv X aa Y H s)(e:H a=Z (.dK kvs)):∃o,Inv X aa Y (upd H a<|.frz o<|.dK kvs) s:=by
 have ok  := I.hok a _ e;obtain⟨z,y,vs,r,d,es,g,f,c⟩:=id ok;refine⟨d,?_⟩;have ne:∀b u,H b=Z u->u≠.dK kvs->b≠a:=fun b u q n z=>by mright
 refine I.step (ch:=[]) (fun _ z=>nomatch z) (fun b o _ _ _ q _=>q) (fun b o _ _ _ q _=>⟨o.slots,q⟩)
  (fun b o _ _ n=>by rw[aF fun z=>⊥];exact n) (fun b o _ q=>⟨o,q⟩)
  (fun b xs q=>by rw[aF<|ne b _ q #[16]];exact q) (fun b o u q=>by rw[aF<|ne b _ q #[16]];exact q) (fun b ps q=>by rw[aF<|ne b _ q #[16]];exact q) (fun m h=>h) ?_ I.bare
 intro b u q;have st:∀{b:aga}{u:HO},cQ X.prog X.w H s.heap b u->cQ X.prog X.w (upd H a<|.frz d<|.dK kvs) s.heap b u:=fun{b u}x=>
  x.stay (fun c v _ q=>q) (fun c q=>by rw[aF<|ne c _ q #[16]];exact q) fun c xs q=>⟨by rw[aF<|ne c _ q.1 (fun z=>by have:=q.2;subst z;exact this)];exact q.1,q.2⟩
 by_cases hb:b=a
 .subst hb;rw[aG]at q;cases q;exact⟨f,st ok⟩
 .rw[aF hb]at q;exact st<|I.hok b u q
end
noncomputable def fzD:D->R D
 |.dct ds=>.ok<|.dcf ds
 |_=>.no
def WV(φ:FE):FE:=fun Uq0=>(φ Uq0).bind fzD
section
variable{X:Cx}{W:Wd}{Ob O O2 O':alp}{e:agR}{φ:FE}{ψ:FS}{st:ah9}{sts:List ah9}
theorem TH(h:JE X e<|tN W O φ):JE X e<|tD W O<|WV φ:=by
 refine⟨fun j s Y H Q I q=>?_⟩;let⟨as0,B,own,Uq0,DIh,q⟩:=q
 have q':e8 W #[9] H (φ Uq0) fun v H1=>∃p a,v=.ref p/\H1 p=Z (.dK a)/\∀o,Q v<|upd H1 p<|.frz o<|.dK a:=by
  unfold WV at q;cases hr:φ Uq0 with
  |er x=>rw[hr]at q;exact q
  |no=>rw[hr]at q;exact q
  |ok d=>
   rw[hr]at q;cases d with
   |dct ds=>
    intro p o H' c f g od;obtain⟨xs,rfl,od⟩:=od;refine⟨p,xs,rfl,g,fun i=>?_⟩;have hn:=DIh.new f;refine q (.ref p) _ (fun b u z=>?_) ⟨p,i,xs,rfl,?_,od.mono fun b u z=>?_⟩
    .rw[aF<|bq z f];exact c b u z
    .rw[aO hn];exact aG
    .by_cases hb:b∈p::#[9]
     .rw[dt hb]at z;cases z
     .rw[aO hb]at z;have h1:=fun w=>hb<|oR.mpr<|.inl w;have h2:=fun w=>hb<|oR.mpr<|.inr w;rw[aO h2,aF h1];exact z
   |_=>exact q.elim
 refine agE (h.out j s Y H _ I ⟨as0,B,own,Uq0,DIh,q'⟩) (fun u c⟨x,H1,I1,rx,p,a,e1,e2,hq⟩=>by
  let⟨o,I2⟩:=I1.frzD e2
  exact⟨x,_,I2,rx,hq o⟩) fun _ _ h=>h
theorem DI.frzO{K:aT}(I:DI K as0 B O own Y Uq0 H)(r:(i,a)∈O.zip own)(h1:Uq0[i]?=Z (Z<|.dct ds))(h2:Y[i]?=Z (Z<|.ref a))
  (x:ci K (mask #[9] H) ds xs) (m:Obj):∃g,DI K as0 B (O.filter fun k=>decide (k≠i)) g Y (Uq0.set i<|Z<|.dcf ds)<|upd H a<|.frz m<|.dK xs:=by
 generalize D:(fun k:Nat=>decide (k≠i))=p;have A:∀k,p k=decide (k≠i):=fun k=>by rw[<-D]
 have e:(bv p O own).Sublist own:=iu;have mem:∀a∈bv p O own,a∈own:=fun a c=>e.mem c;have c:a∈own:=(agp r).2;have C:i<Uq0.length:=(af1.mp h1).1;have f:a∉bv p O own:=fun z=>by
  obtain⟨j,y,t⟩:=ir z
  have:=zip_inj I.nd r y
  subst this;rw[A]at t;exact aln t rfl
 have s:av (mask #[9] H)<|mask (bv p O own++as0)<|upd H a<|.frz m<|.dK xs:=fun b u z=>by
  by_cases hb:b∈own++as0
  .rw[dt hb]at z;cases z
  .rw[aO hb]at z;rw[aO fun w=>hb ?_,aF fun w=>hb ?_]
   .exact z
   .rw[w];exact agy _ c
   .rcases BY.mp w with w|w
    .exact agy _ (mem b w)
    .exact afX _ w
 refine⟨bv p O own,by simp[I.len],kA I.olen,I.nd.sublist e,I.ond.sublist aja,fun a c=>I.fresh a<|mem a c,I.ex0,fun b u z=>?_,fun j d n q=>?_,fun j b n=>?_⟩
 .rw[aF fun w=>by rw[w,I.fresh a c]at z;cases z];exact I.same b u z
 .rw[getElem?_set']at q;split at q
  .rename_i hij;subst hij;cases q;refine⟨.ref a,h2,a,m,xs,rfl,?_,x.mono s⟩;rw[aO fun w=>?_]
   .exact aG
   .rcases BY.mp w with w|w
    .exact f w
    .exact I.apart a c w
  .have hO  := fun w=>n<|agb.mpr ⟨w,⊥⟩;let⟨v,q1,q2⟩:=I.var j d hO q
   exact⟨v,q1,q2.mono s⟩
 .let⟨hz,hpj⟩:=eN n
  let⟨d,o,q1,q2,q3,q4⟩:=I.owns j b hz
  have h:i≠j:=fun z=>by mright
  have l:b≠a:=fun z=>h<|zip_inj I.nd r<|z▸hz;exact⟨d,o,by simp_all,q2,by rw[aF l];exact q3,q4.mono s⟩
noncomputable def UM(i:Nat)(ψ:FS):FS:=fun Uq0=>match Uq0[i]? with
 |some (Z<|.dct ds)=>ψ<|Uq0.set i<|Z<|.dcf ds
 |_=>.no
theorem SN{Y:St}{D:Ends}(f:i∈O)(I:Inv X aa Y H s)(q:sD W Ob O O' (UM i ψ) D Y H):∃H',Inv X aa Y H' s/\sD W Ob (O.filter fun k=>decide (k≠i)) O' ψ D Y H':=by
 refine Z42 q fun as0 B own Uq0 b q=>?_;let⟨a,ha⟩:=bD b.olen f
 refine Z24 (b.owns i a ha) fun d o h1 h2 e c=>?_;unfold UM at q;rw[h1]at q;cases d with
 |dct ds=>
  obtain⟨xs,rfl,c⟩:=c;let⟨ob,I'⟩:=I.frzD e
  let⟨own2,D2⟩:=b.frzO ha h1 h2 c ob
  exact⟨_,I',as0,B,own2,_,D2,q⟩
 |_=>exact q.elim
theorem ZQ(h:JB X sts<|sD W Ob O2 O' ψ)(b:autoParam (i∈O) Xax)(a:autoParam (O.filter (fun k=>decide (k≠i))=O2) Xax):JB X sts<|sD W Ob O O'<|UM i ψ:=by
 subst a;refine⟨fun d s Y H D I q=>?_⟩;obtain⟨H',c,q'⟩:=SN b I q;exact h.out d s Y H' D c q'
end
noncomputable def uJ:D->Option Key
 |.int i=>Z<|.inl i
 |.str x=>Z<|.inr x
 |.non=>Z .nn
 |_=>L
noncomputable def pI:Key->D
 |.inl i=>.int i
 |.inr x=>.str x
 |.nn=>.non
theorem oz{K:aT}(h:cz K H d v)(e:uJ d=Z k):v=kV k:=by
 cases d with
 |int i=>cases e;exact h
 |str x=>cases e;exact h
 |non=>cases e;exact h
 |_=>cases e
theorem sS{K:aT}:∀k:Key,cz K H (pI k) (kV k)
 |.inl i=>rfl
 |.inr x=>rfl
 |.nn=>rfl
noncomputable def bV(a:List<|Key×D)(k:Key):Option D:=(a.find? fun b=>decide (b.1=k)).map (·.2)
def eF(a:List<|Key×D)(k:Key)(d:D):List<|Key×D:=
 if(bV a k).isSome=U then a.map fun q=>if q.1=k then(q.1,d)else q else a++[(k,d)]
section
variable{K:aT}
theorem ci.val:∀{ds:List<|Key×D}{xs:List<|Key×V}(k:Key),ci K H ds xs->(bV ds k=L/\jg xs k=L)\/∃d v,bV ds k=Z d/\jg xs k=Z v/\cz K H d v
 |[],_,k,h=>by nofun;exact .inl ⟨rfl,rfl⟩
 |(k',d)::r,_,k,⟨v,vs,e,h1,h⟩=>by
  subst e;by_cases q:k'=k
  .exact .inr ⟨d,v,by simp[bV,agw,q],oC q,h1⟩
  .rw[nG q,show bV ((k',d)::r) k=bV r k by simp[bV,agw,q]];exact ci.val k h
theorem ci.len:∀{ds:List<|Key×D}{xs:List<|Key×V},ci K H ds xs->ds.length=xs.length
 |[],_,h=>by nofun;rfl
 |(k',d)::r,_,⟨v,vs,e,_,h⟩=>by subst e;simp[ci.len h]
theorem ci.snoc:∀{ds:List<|Key×D}{xs:List<|Key×V}{k:Key}{d:D}{v:V},ci K H ds xs->cz K H d v->ci K H (ds++[(k,d)]) (xs++[(k,v)])
 |[],_,k,d,v,h,hd=>by nofun;exact⟨v,[],rfl,hd,rfl⟩
 |(k',d')::r,_,k,d,v,⟨v',vs,e,h1,h⟩,hd=>by subst e;exact⟨v',_,rfl,h1,ci.snoc h hd⟩
theorem ci.repl:∀{ds:List<|Key×D}{xs:List<|Key×V}(k:Key){d:D}{v:V},ci K H ds xs->cz K H d v ->
  ci K H (ds.map fun q=>if q.1=k then(q.1,d)else q) (xs.map fun q=>if q.1=k then(q.1,v)else q)
 |[],_,k,d,v,h,hd=>by nofun;exact rfl
 |(k',d')::r,_,k,d,v,⟨v',vs,e,h1,h⟩,hd=>by
  subst e;rw[Do,Do];have a:=ci.repl k h hd;by_cases q:k'=k
  .rw[ali q,ali q];exact⟨v,_,rfl,hd,a⟩
  .rw[alj q,alj q];exact⟨v',_,rfl,h1,a⟩
theorem ci.put(h:ci K H ds xs)(c:cz K H d v):ci K H (eF ds k d)<|oU xs k v:=by
 have e:(bV ds k).isSome=(jg xs k).isSome:=by
  rcases h.val k with⟨a,b⟩|⟨a,b,f,g,_⟩
  .rw[a,b];rfl
  .rw[f,g];rfl
 unfold eF oU;rw[uN,e];split
 .exact h.repl k c
 .exact h.snoc c
end
section
variable{X:Cx}{W:Wd}{Ob O O':alp}{a b e:agR}{φ ψ χ ε:FE}{pos p1 p2 apos cpos:Pos}{x:Str}
def IL:V->V->V->Hp->(Hp->Prop)->Prop:=fun o i v H Q=>∃p a k,o=.ref p/\i=kV k/\H p=Z (.dK a)/\a.length<afT/\Q (upd H p<|.dK<|oU a k v)
theorem FI(b:X.A.units+1<aiV):TJ X IL:=by
 intro n s Y H o i v ov m u Q I g e a h;refine Z35 h fun p j k r0_ r1_ f c q=>?_;subst r0_ r1_;cases g;exact FH b I (Nz.k f c) e a fun l d=>⟨_,d,q⟩
def zN(i:Nat)(ψ ε:FE):FS:=fun Uq0=>match Uq0[i]? with
 |some (Z<|.dct kvs)=>(ε Uq0).bind fun d=>(ψ Uq0).bind fun k=>match uJ k with
  |some k=>if kvs.length<1000000 then .ok (.nx<|Uq0.set i<|Z<|.dct<|eF kvs k d)else .no
  |none=>.no
 |_=>.no
theorem LW{spos:Pos}(n:X.A.units+64<aiV)(G:i∈O)(J:JE X e<|tD W O ε)(l:JE X ie<|tD W O ψ)(w:autoParam (X.N[i]?=Z x) Xaz)(C:autoParam #[25] Xbz)(r:autoParam (alz x) Xax)
  (j:autoParam (#[5]=η) Xax) (hs:autoParam (swapsWithSole [.Subscript #[20] ie spos] e pos.line X.env=pure η) Xaz) (hw:autoParam (swappedStores [.Subscript #[20] ie spos] e X.env=pure L) Xaz)
  (h1:autoParam ((agK [.Subscript #[20] ie spos] X.env).map (·.2)=[assign (.Subscript #[20] ie spos) X.env]) Xaz)
  (t:∀v,assign (.Subscript #[20] ie spos) X.env v=(do
   let ov <-holding [v] (eval #[20] X.env)
   let iv <-holding [v,ov] (eval ie X.env)
   aky spos
   holding [v,ov,iv] (setItem ov iv v)
   release [v,ov,iv] []):=by intro _;rfl):
  JS X (.Assign [.Subscript #[20] ie spos] e pos) (sD W Ob O O<|zN i ψ ε):=
 (HP J (Tl (jv i w C r j) l (FI<|⊥) t) hs hw h1).imp fun D Y H z=>cx z fun as0 B own Uq0 I h=>by
  let⟨a,hza⟩:=bD I.olen G
  let⟨d,o,h1,h2,h3,h4⟩:=I.owns i a hza
  unfold zN at h;rw[h1]at h;cases d with
  |dct ds=>
   obtain⟨xs,rfl,q⟩:=h4;refine⟨as0,B,own,Uq0,I,bI I h fun y v g c p s=>?_⟩;have E:SU (uT i) (tD W O ψ) IL v Y g D.nx=kT Y[i]? g (fun o H1=>tD W O ψ Y H1 fun i g=>IL o i v g fun m=>D.nx Y m):=rfl;rw[E,h2];refine⟨as0,B,own,Uq0,I.mono c,bI (I.mono c) s fun k u m f F b=>?_⟩;cases e:uJ k with
   |none=>rw[e]at b;exact b.elim
   |some ks=>
    rw[e]at b;have b:ce W as0 B Ob O (if ds.length<1000000 then .ok (.nx<|Uq0.set i<|Z<|.dct<|eF ds ks y)else .no) D:=b;split at b
    .have n:=oz F e;subst n;have K:=cR;refine⟨a,xs,ks,rfl,rfl,(c.trans f) _ _ h3,by rw[<-q.len];lia,?_⟩;exact b own Y _<|((I.mono c).mono f).mutate hza ⟨_,rfl,(q.mono<|aM<|c.trans f).put<|p.mono<|aM f⟩
    .exact b.elim
  |_=>mleft
def gc(a:List<|Key×D)(k:Key):List<|Key×D:=a.filter fun b=>decide (b.1≠k)
theorem ci.drop{K:aT}:∀{ds:List<|Key×D}{xs:List<|Key×V}(k:Key),ci K H ds xs->ci K H (gc ds k) (jX xs k)
 |[],_,k,h=>by nofun;exact rfl
 |(k',d')::r,_,k,⟨v',vs,e,h1,h⟩=>by
  subst e;have a:=ci.drop k h;by_cases q:k'=k
  .rw[(Gj q),show gc ((k',d')::r) k=gc r k by simp[gc,ahi,q]];exact a
  .rw[(FV q),show gc ((k',d')::r) k=(k',d')::gc r k by simp[gc,ahi,q]];exact⟨v',_,rfl,h1,a⟩
def wm(i:Nat)(ψ:FE):FS:=fun Uq0=>match Uq0[i]? with
 |some (Z<|.dct kvs)=>(ψ Uq0).bind fun k=>match uJ k with
  |some k=>if(bV kvs k).isSome=U then .ok (.nx<|Uq0.set i<|Z<|.dct<|gc kvs k)else .no
  |none=>.no
 |_=>.no
theorem LN(F:i∈O)(G:JE X e<|tD W O ε)(w:autoParam (X.N[i]?=Z x) Xaz)(hn:autoParam (az e=U) Xaz)(f:autoParam (#[8]=U) Xaz)(C:autoParam #[25] Xbz)(u:autoParam (alz x) Xax)
  (n:autoParam (#[5]=η) Xax) (c:autoParam (agx #[20] "pop" X.env (eval #[20] X.env)=eval #[20] X.env) Xaz)
  (hs:autoParam (ahj (.Call (.Attribute #[20] "pop" apos) [e] [] cpos) L pos.line X.env=pure η) Xaz)
  (j:autoParam (((ahP cpos<|afY [e] X.env).all (fun x=>!x.1)&&(backToKw cpos<|ajg [] X.env).all (fun x=>x.1.isSome)&&decide (([e]:List agR).length+([]:List ajw).length+(if([]:List ajw).isEmpty then 0 else 1)<30))=U) Xaz)
  (l:autoParam (ahP cpos (afY [e] X.env)=[(η,eval e X.env)]) Xaz):
  JS X (.Expr (.Call (.Attribute #[20] "pop" apos) [e] [] cpos) pos) (sD W Ob O O<|wm i ε):=
 (l5 ⟨Lg (jv i w C u n).out G.out ⟨c,j,f,l⟩⟩ hs).imp fun D Y H z=>cx z fun as0 B own Uq0 I h=>by
  let⟨a,ha⟩:=bD I.olen F
  let⟨d,o,h1,h2,h3,h4⟩:=I.owns i a ha
  have E:vZ (Iu (uT i)<|tD W O ε) D Y H=kT Y[i]? H (fun x H1=>∃a,x=.ref a/\abY H1 a/\tD W O ε Y H1 fun y r=>∃g k v,r a=Z (.dK g)/\y=kV k/\jg g k=Z v/\D.nx Y (upd r a<|.dK<|jX g k)):=rfl;rw[E,h2];unfold wm at h;rw[h1]at h;cases d with
  |dct ds=>
   obtain⟨xs,rfl,q⟩:=h4;refine⟨a,rfl,.inl ⟨xs,.inl h3⟩,as0,B,own,Uq0,I,bI I h fun y v r p t b=>?_⟩;cases e:uJ y with
   |none=>rw[e]at b;exact b.elim
   |some k=>
    rw[e]at b;have b:ce W as0 B Ob O (if(bV ds k).isSome=U then .ok (.nx<|Uq0.set i<|Z<|.dct<|gc ds k)else .no) D:=b;have hy:=oz t e;subst hy;rcases q.val k with⟨m,s⟩|⟨d',A,m,s,_⟩
    .rw[m]at b;exact b.elim
    .rw[m]at b;exact⟨xs,k,A,p _ _ h3,rfl,s,b own Y _<|(I.mono p).mutate ha ⟨_,rfl,(q.mono<|aM p).drop k⟩⟩
  |_=>mleft
noncomputable def wn:D->Option (List<|Key×D)
 |.dct k=>Z k
 |.dcf k=>Z k
 |_=>L
theorem qh{K:aT}(h:cz K H d v)(e:wn d=Z ds):∃p xs,v=.ref p/\Rd H p (.dK xs)/\ci K H ds xs:=by
 cases d with
 |dct k=>cases e;obtain⟨p,xs,rfl,h1,h2⟩:=h;exact⟨p,xs,rfl,.inl h1,h2⟩
 |dcf k=>cases e;obtain⟨p,o,xs,rfl,h1,h2⟩:=h;exact⟨p,xs,rfl,.inr ⟨o,h1⟩,h2⟩
 |_=>cases e
theorem wH.rd{k:Key}(h:Rd H p<|.dK xs):wH H p (kV k)<|jg xs k:=.inl ⟨xs,k,h,rfl,rfl⟩
def HG(b:Bool):R2:=fun x y H Q=>∃p a k,x=kV k/\y=.ref p/\Rd H p (.dK a)/\Q (.bl<|if b=U then !(jg a k).isSome else(jg a k).isSome) H
theorem KP(f:X.A.units+64<aiV):dz X (agf .In)<|HG η:=by
 intro i s Y H x y v u Q I c a h;obtain⟨p,e,k,rfl,rfl,d,q⟩:=h;cases a;exact abQ ⊥ I (wH.rd d) c fun g b=>⟨.bl _,H,b,rfl,q⟩
theorem vN(f:X.A.units+64<aiV):dz X (agf .NotIn)<|HG U:=by
 intro i s Y H x y v u Q I c a h;obtain⟨p,e,k,rfl,rfl,d,q⟩:=h;cases a;exact OM ⊥ I (wH.rd d) c fun g b=>⟨.bl _,H,b,rfl,q⟩
def GR(a b:D):Option Bool:=(wn b).bind fun c=>(uJ a).map fun k=>(bV c k).isSome
def Fe(a b:D):R D:=d7 (GR a b) fun k=>k
def oW(a b:D):R D:=d7 (GR a b) fun k=>!k
theorem E4{K:aT}(h:ci K H ds xs)(k:Key):(bV ds k).isSome=(jg xs k).isSome:=by
 rcases h.val k with⟨a,b⟩|⟨a,b,c,d,_⟩
 .rw[a,b];rfl
 .rw[c,d];rfl
theorem PJ(c:Bool):pb W (HG c) (fun a b=>d7 (GR a b) fun k=>if c=U then !k else k):=by
 intro as H x y a b Q hn g d h;have h:cX W as H (d7 (GR a b) fun k=>if c=U then !k else k) Q:=h;unfold GR at h;cases e:wn b with
 |none=>rw[e]at h;mleft
 |some i=>
  cases e2:uJ a with
  |none=>rw[e,e2]at h;mleft
  |some k=>
   rw[e,e2]at h;obtain⟨p,xs,rfl,h1,h2⟩:=qh d e;have f:=oz g e2;subst f;refine⟨p,xs,k,rfl,rfl,(ap _ _).rd h1,?_⟩;rw[<-E4 h2 k];exact aI h rfl
theorem U2:pb W (HG η) Fe:=PJ η
theorem Cu:pb W (HG U) oW:=PJ U
def AN(a b:D):R D:=match wn a with
 |some c=>(match uJ b with
  |some k=>(match bV c k with
   |some d=>.ok d
   |none=>.no)
  |none=>.no)
 |none=>.no
theorem WT(t:X.A.units+64<aiV)(l:JE X a<|tD W O φ)(hb:JE X b<|tD W O ψ)(hs:autoParam (GW b) Xdz):JE X (.Subscript a b pos)<|tD W O<|aJ AN φ ψ:=
 JE.imp ⟨Oo ⊥ l.out hb.out hs⟩ fun Y H Q n=>cx n fun as0 B own Uq0 I h=>⟨as0,B,own,Uq0,I,bA h fun x v H1 m o h1=>⟨as0,B,own,Uq0,I.mono m,bA h1 fun y u w f i h2=>by
  unfold AN at h2;cases e0:wn x with
  |none=>rw[e0]at h2;exact h2.elim
  |some s=>
   rw[e0]at h2;obtain⟨p,xs,rfl,j,r⟩:=qh o e0;cases e:uJ y with
   |none=>rw[e]at h2;exact h2.elim
   |some k=>
    rw[e]at h2;dsimp only at h2;have hy:=oz i e;subst hy;rcases(r.mono<|aM f).val k with⟨c,g⟩|⟨d,v,c,g,q⟩
    .rw[c]at h2;exact h2.elim
    .rw[c]at h2;exact⟨p,v,rfl,g▸wH.rd (f.rd ((ap _ _).rd j)),aI h2 q⟩⟩⟩
def Ti(xs:alx)(H:Hp)(Q:VK):Prop:=∃p a,xs=[.ref p]/\Rd H p (.dK a)/\∀l,H l=L->Q (.ref l) (upd H l<|.dK a)
theorem xt:bF X (.type "dict") Ti:=by
 intro g s Y H xs us Q I r h;obtain⟨p,e,rfl,d,q⟩:=h;obtain⟨u,rfl,c⟩:=f7 r;cases c;exact Kc I d fun l f a b=>⟨.ref l,_,b,rfl,q l a⟩
def Vg(ds:aly):R D:=match ds with
 |[d]=>(match wn d with
  |some a=>.ok<|.dct a
  |none=>.no)
 |_=>.no
end
theorem qe(h:qW k u=U):a7 (kV k) u:=by
 cases k with
 |inl i=>
  have h:ahC i u=U:=h;unfold ahC at h;cbv
  .have e:=eq_of_beq h;subst e;exact⟨_,rfl⟩
  .nofun
 |nn=>
  cases u with
  |none=>rfl
  |_=>exact nomatch h
 |inr x=>
  have h:aia x u=U:=h;unfold aia at h;cbv
  .have e:=eq_of_beq h;subst e;exact⟨_,rfl⟩
  .nofun
structure FzAt(X:Cx)(H:Hp)(h:aij)(a:aga)(ep:Nat)(xs:List (Key×V))(vs:List (Key×By)):Prop where
 at_:Heap.DictAt (cq X.prog X.w) h a vs ep
 rel:KV xs vs
def Ue(o:Obj):Nat:=match o.data with
 |.dict _ ep=>ep
 |_=>0
theorem qC{Y:St}(I:Inv X aa Y H s)(e:H a=Z (.frz o<|.dK xs)):
  xs.length<=afT/\(a==ahg)=η/\∃vs,FzAt X H s.heap a (Ue o) xs vs:=by
 obtain⟨c,z,d,vs,r,h,es,f,h1,h2,b,g⟩:=((I.hok a _ e));rw[c]at h1;cases h1
 have:Ue o=f:=by unfold Ue;rw[b]
 rw[this];exact⟨z,d,vs,⟨o,es,c,h2,b,g⟩,r⟩
theorem HH:entryFor table "dict_itemiterator.__iter__"=Z Builtin.«dict_keyiterator.__iter__»:=entryFor_alias (id':="dict_keyiterator.__iter__") #[12] #[12] #[12] #[12]
theorem j9(st:IsItemIter s.heap it d i n ep ok ov)(hQ:Q (.ref it) s):af0 #[4] A (ald<|.ref it) Q E s:=by
 have a:s.TypeIs (.ref it) "dict_itemiterator":=⟨_,st,rfl⟩;refine wpAny_pyIter_slot a F.slot_dict_itemiterator_iter<|agt F.slot_dict_itemiterator_iter a HH ?_<|F.args_dict_itemiterator_iter_1 _;exact lT ⟨_,rfl,"dict_itemiterator",_,a,F.slot_dict_itemiterator_next.lookup,hQ⟩
theorem HM{xs:List<|Key×V}(r:KV xs vs){i:Nat}(h:vs[i]?=Z (k,u)):∃v,xs[i]?=Z (k,v)/\a7 v u:=by
 induction r generalizing i with
 |nil=>simp at h
 |@cons p q ps qs hq t ih=>
  cases i with
  |zero=>simp at h;subst h;exact⟨p.2,by let⟨p1,p2⟩:=p;simp at hq⊢;exact hq.1,hq.2⟩
  |succ i=>mright
def ItK(a:aga)(o:Obj)(xs:List<|Key×V):It:=
 ⟨fun i H=>H a=Z (.frz o<|.dK xs)/\i<xs.length,fun i H v H'=>H'=H/\∃k x,xs[i]?=Z (k,x)/\v=kV k,fun i H=>H a=Z (.frz o<|.dK xs)/\i=xs.length⟩
theorem FC{K:aT}(it a:aga)(o:Obj)(xs:List<|Key×V):Turn P w K tg (ItK a o xs) [it] it (fun i h=>h.IsKeyIter it a i xs.length<|Ue o) where
 mem:=∅
 obj:=fun i h st b hb=>by
  have e:b=it:=by simpa using hb
  subst e;let⟨o,e,c,d⟩:=st
  exact⟨o,e,fun v z=>by rw[d]at z;cases z⟩
 keep:=fun i h h' st k=>by let⟨o,e,c,d⟩:=st;exact⟨o,k it ∅ o e,c,d⟩
 item:=by
  intro X q hw B t i D s Y H E I l st hg;subst q hw;let⟨j,u⟩:=hg
  let⟨z,hd,vs,F⟩:=qC I j
  let⟨f0,f1,f2,f3,f4,f5⟩:=l it ∅
  have m:=F.rel.length;have g:a≠it:=fun z=>by rw[z,f0]at j;cases j
  have W:=Walks.dictKeys (knd:=cq X.prog X.w) (I.ok.hd t) it a g vs<|Ue o;rw[m]at st;refine aP I.tk<|W.item i s _ _ (by mright) ⟨st,F.at_⟩ fun v h' tk C n p r=>?_;refine Z22 C fun k x h1 h2=>?_;obtain⟨y,A,_⟩:=HM F.rel h1;have I1  := I.turned (fun b o hb e=>p b o (by simpa using hb) e) f0 f1 f3 f4 f5;have f:=n.1;refine Z13 (id f) fun G e c d=>?_;rw[<-m]at f;exact⟨v,rfl,zn e c d ∎ ⟨kV k,H,I1,qe h2,⟨rfl,k,y,A,rfl⟩,f,fun b hb=>(l b hb).1⟩⟩
 done:=by
  intro X q hw B t i D s Y H E I l st hg;subst q hw;obtain⟨j,u⟩:=hg;let⟨z,hd,vs,F⟩:=qC I j
  let⟨f0,f1,f2,f3,f4,f5⟩:=l it ∅
  have m:=F.rel.length;have g:a≠it:=fun z=>by mright
  have W:=Walks.dictKeys (knd:=cq X.prog X.w) (I.ok.hd t) it a g vs<|Ue o;rw[u,m]at st;exact aP I.tk<|W.done s _ _ ⟨st,F.at_⟩ fun h' tk p r=>⟨rfl,I.turned (fun b o hb e=>p b o (by simpa using hb) e) f0 f1 f3 f4 f5⟩
 self:=fun _ _ _ _ _ st h=>wpAny_pyIter_keyiter st h
def ItP(a:aga)(o:Obj)(xs:List<|Key×V):It:=
 ⟨fun i H=>H a=Z (.frz o<|.dK xs)/\i<xs.length,fun i H v H'=>∃p k x,xs[i]?=Z (k,x)/\H p=L/\H'=upd H p (.tup [kV k,x])/\v=.ref p,fun i H=>H a=Z (.frz o<|.dK xs)/\i=xs.length⟩
theorem Aq{K:aT}(it a:aga)(o:Obj)(xs:List<|Key×V):
  Turn P w K (.Tuple elts k pos) (ItP a o xs) [it] it (fun i h=>∃ok ov,IsItemIter h it a i xs.length (Ue o) ok ov) where
 mem:=∅
 obj:=fun i h st b hb=>by
  have e:b=it:=by simpa using hb
  subst e;let⟨ok,ov,e⟩:=st
  exact⟨_,e,fun v z=>by cases z⟩
 keep:=fun i h h' st k=>by let⟨ok,ov,e⟩:=st;exact⟨ok,ov,k it ∅ _ e⟩
 item:=by
  intro X n hw x t i D s Y H E I f st hg;subst n hw;let⟨hq,hi⟩:=hg
  let⟨ok,ov,st⟩:=st
  let⟨z,hd,vs,F⟩:=qC I hq
  let⟨f0,f1,f2,f3,f4,f5⟩:=f it ∅
  have g:=F.rel.length;rw[g]at st;have l:i<vs.length:=by rw[<-g];exact hi
  let⟨⟨kk,u⟩,hv⟩:∃q,vs[i]?=Z q:=⟨vs[i],lE l⟩
  refine wpAny_pyNext_items_item st F.at_ hv fun key h' C so A hsz kp=>?_;let⟨y,h3,ry⟩:=HM F.rel hv
  refine⟨_,rfl,wpAny_letOwnedTupleGo_items so fun m p r=>?_⟩;have j:H s.heap.objs.size=L:=I.hok.fresh<|nE _;have c:s.heap.objs.size≠it:=fun z=>absurd (OR (show s.heap.get? it=Z _ from st)) (by rw[z];exact ahV _);have d:akW m s.heap.objs.size [key,u].toArray:=⟨_,(r.2 _ c).trans A,rfl,_,rfl⟩;refine⟨.ref s.heap.objs.size,upd H s.heap.objs.size<|.tup [kV kk,y],I.turnedT (t':=s.toks) (ch:=[it]) (fun b hb=>by rw[acB.mp hb];exact f it<|∅) (fun b o hb e=>(r.2 b<|by simpa using hb).trans<|kp b o (by simpa using hb) e) (nE _) (by show 2<=afT;decide) (.cons (qe C)<|.cons ry .nil) d,rfl,
   ⟨s.heap.objs.size,kk,y,h3,j,rfl,rfl⟩,⟨key,u,⊥⟩,fun b hb=>?_⟩
  have e  := by simpa using hb
  rw[e,aF c.symm];exact f0
 done:=by
  intro X n hw x t i D s Y H E I f st hg;subst n hw;let⟨hq,hi⟩:=hg
  let⟨ok,ov,st⟩:=st
  let⟨z,hd,vs,F⟩:=qC I hq
  let⟨f0,f1,f2,f3,f4,f5⟩:=f it ∅
  have g:=F.rel.length;rw[g]at st;exact wpAny_pyNext_items_end (I.ok.hd t) st F.at_ (aiQ<|⊥) fun h' B=>⟨rfl,I.turned (fun b o hb e=>B b o hb e) f0 f1 f3 f4 f5⟩
 self:=fun _ _ _ _ _ st h=>let⟨_,_,st⟩:=st;j9 st h
theorem ci.get{K:aT}:∀{ds:List<|Key×D}{xs:List<|Key×V}{i:Nat}{k:Key}{v:V},ci K H ds xs->xs[i]?=Z (k,v)->∃d,ds[i]?=Z (k,d)/\cz K H d v
 |[],_,i,k,v,h,e=>by nofun;simp at e
 |(k',d)::r,_,0,k,v,⟨v',vs,e,h1,h⟩,q=>by mright
 |(k',d)::r,_,i+1,k,v,⟨v',vs,e,h1,h⟩,q=>by
  subst e;obtain⟨d',a,b⟩:=ci.get h (by simpa using q);mright
section
variable{X:Cx}{W:Wd}{O:alp}{l:agR}{tg:agR}{ε:FE}{apos cpos:Pos}{elts:List agR}{k:Nat}{tpos:Pos}
def OW(d:D):R<|aly:=match d with
 |.dcf kvs=>.ok<|kvs.map fun q=>pI q.1
 |_=>.no
def Ce(ε:FE):FA:=fun Uq0=>(ε Uq0).bind OW
theorem Mw(h:JE X l<|tD W O ε):JI X tg l<|iD W O<|Ce ε:=⟨fun aa s Y H R I q_=>Z42 q_ fun as0 B own Uq0 DIh q=>by
 refine bX (h.out aa s Y H (fun v H1=>∃d,cz W.K (mask #[9] H1) d v/\gw W as0 own H1 (OW d) R) I ⟨as0,B,own,Uq0,DIh,mC q fun d v H1 f t c=>⟨d,t,c⟩⟩) fun u f⟨x,H1,I1,rx,d,dv,c⟩=>?_;cases d with
 |dcf ds=>
  obtain⟨a,o,xs,rfl,h1,h2⟩:=dv;cases rx;have j:=ap _ _ _ _ h1;let⟨z,hd,vs,F⟩:=qC I1 j
  have p:=F.rel.length;refine wpAny_pyIter_dict hd F.at_ ?_;refine⟨f.heap.objs.size,[f.heap.objs.size],_,_,H1,rfl,I1.kept fun b o e=>eQ _ e,FC f.heap.objs.size a o xs,⟨_,ID _ rfl,rfl,by rw[p];rfl⟩,fun b hb=>?_,c _ H1 (av.refl _) ?_⟩
  .have e  := by simpa using hb
   subst e;exact I1.fpOk (nE _)<|I1.hok.fresh<|nE _
  .rw[i9]at h1 h2;have n:(ds.map fun q=>pI q.1).length=xs.length:=by rw[iF];exact h2.len
   refine⟨fun i m g w=>⟨g _ _ h1,by mright⟩,fun i m v A M g _ C w hy=>?_,fun m g=>⟨g _ _ h1,n⟩⟩;obtain⟨rfl,k,y,r,rfl⟩:=hy;let⟨d,e2,_⟩:=h2.get r
   exact⟨av.refl _,pI k,by simp_all,sS k⟩
 |_=>exact c.elim⟩
theorem Ap(a:s.TypeIs (.ref d) "dict")(b:(d==ahg)=η)
  (hQ:Q #[13] {s with heap:=s.heap.push {cls:=.type "dict_items",data:=.fields #[.ref d]}}):af0 #[4] A (call (.builtin "dict.items") [.ref d]) Q E s:=by
 refine agt F.slot_dict_items a F.entry_dict_items ?_<|F.args_dict_items_1 _;refine bY ?_;refine bY<|wpAny_notOrdered_dict a ?_;refine lT ?_;unfold Builtin.Dict.showsAll;rw[alj<|⊥];refine bY<|lT ?_;refine bY<|agV ?_;exact lT ⟨_,rfl,hQ⟩
def KM(d:D):R<|aly:=match d with
 |.dcf kvs=>.ok<|kvs.map fun q=>D.tup [pI q.1,q.2]
 |_=>.no
def xX(ε:FE):FA:=fun Uq0=>(ε Uq0).bind KM
theorem Jd(h:JE X l<|tD W O ε)(c:autoParam (agx l "items" X.env (eval l X.env)=eval l X.env) Xaz)(g:autoParam (#[8]=U) Xaz):
  JI X (.Tuple elts k tpos) (.Call (.Attribute l "items" apos) [] [] cpos) (iD W O<|xX ε):=⟨fun aa s Y H R I q_=>Z42 q_ fun as0 B own Uq0 DIh q=>by
 refine wpAny_Call_method0_late c g<|bX (h.out aa s Y H (fun v H1=>∃d,cz W.K (mask #[9] H1) d v/\gw W as0 own H1 (KM d) R) I ⟨as0,B,own,Uq0,DIh,mC q fun d v H1 r P m=>⟨d,P,m⟩⟩) fun u r⟨x,H1,I1,rx,d,dv,m⟩=>?_;cases d with
 |dcf ds=>
  obtain⟨a,o,xs,rfl,h1,h2⟩:=dv;cases rx;have f:=ap _ _ _ _ h1;let⟨z,hd,vs,F⟩:=qC I1 f
  let⟨t1,t2,_⟩:=J2 I1<|.inl ⟨xs,.inr ⟨o,f⟩⟩
  refine⟨"dict","dict.items",ajO,PySem.F.slot_dict_items,PySem.F.type_dict_items,t1,t2,ahs rfl (akt<|Ap t1 hd ?_)⟩;have n:=I1.kept (h':=r.heap.push {cls:=.type "dict_items",data:=.fields #[.ref a]}) fun b o e=>eQ _ e;let⟨z,hd,vs,F⟩:=qC n f
  have G:=F.rel.length;refine wpAny_pyIter_items ⟨_,ID _ rfl,rfl,rfl⟩ F.at_ ?_;have t:∀{b:aga},b=(r.heap.push {cls:=.type "dict_items",data:=.fields #[.ref a]}).objs.size->eZ X aa H1 b:=fun{b}e=>by
   subst e;exact n.fpOk (nE _)<|n.hok.fresh<|nE _
  refine⟨_,[_],_,_,H1,rfl,n.kept fun b o e=>eQ _ e,Aq _ a o xs,⟨.none,.none,by rw[G];exact ID _ rfl⟩,fun b hb=>t<|by simpa using hb,m _ H1 (av.refl _) ?_⟩;rw[i9]at h1 h2;have E:(ds.map fun q=>D.tup [pI q.1,q.2]).length=xs.length:=by rw[iF];exact h2.len
  refine⟨fun i C j Q=>⟨j _ _ h1,by mright⟩,fun i C v S M j w J Q hy=>?_,fun C j=>⟨j _ _ h1,E⟩⟩;obtain⟨p,k,y,N,A,rfl,rfl⟩:=hy;let⟨d,e2,dd⟩:=h2.get N
  have hpM  := fun z=>w p z A;refine⟨aH A _,.tup [pI k,d],by grind,p,[kV k,y],rfl,.inl<|.inl<|by rw[aO hpM];exact aG,aE.cons (sS k)<|aE.cons (dd.mono<|(iz j J).trans<|aM<|aH A _) aE.nil⟩
 |_=>exact m.elim⟩
end
theorem mP.look{K:aT}:∀{fs:List<|Str×D}{xs:List<|Str×V}{d:D},mP K H fs xs->fs.lookup f=Z d->∃v,xs.lookup f=Z v/\cz K H d v
 |[],_,_,h,e=>by cases e
 |(g,d')::r,_,d,⟨v,vs,e0,h1,h⟩,e=>by
  subst e0;rw[ahw]at e⊢;cases q:f==g with
  |true=>lia
  |false=>rw[q]at e;exact mP.look h e
noncomputable def My(n f:Str)(d:D):R D:=match d with
 |.obj m fs=>if m=n then(match fs.lookup f with
  |some d=>.ok d
  |none=>.no)else .no
 |_=>.no
def yn(n f:Str)(φ:FE):FE:=fun Uq0=>(φ Uq0).bind<|My n f
section
variable{pos p:Pos}
theorem VA(K:aT)(hn:af5 K age n=Z (Z<|.ref C))(p:Cls K C)(k:eV K C f)(j:JE X e<|tD W O φ)(hb:autoParam (agx e f X.env (eval e X.env)=eval e X.env) Xaz)(g:autoParam (X.K=K) Xaz)(hW:autoParam (W.K=K) Xaz):
  JE X (.Attribute e f pos) (tD W O<|yn n f φ):=
 JE.imp ⟨R4 j.out hb⟩ fun Y H Q o=>cx o fun as0 B own Uq0 I h=>⟨as0,B,own,Uq0,I,bA h fun x v H1 q b h1=>by
  subst g;cases x with
  |obj m fs=>
   by_cases e:m=n
   .subst e;unfold My at h1;dsimp only at h1;rw[ali rfl]at h1;rw[hW]at b;refine Z44 b fun a r i xs r0_ h2 c l=>?_;subst r0_;rw[hn]at h2;cases h2;cases e2:fs.lookup f with
    |none=>rw[e2]at h1;exact h1.elim
    |some d=>
     rw[e2]at h1;let⟨v,q1,q2⟩:=l.look e2
     exact⟨a,C,i,xs,v,rfl,ap _ _ _ _ c,p,k,q1,aI h1<|by rw[hW];exact q2⟩
   .unfold My at h1;dsimp only at h1;rw[alj e]at h1;exact h1.elim
  |_=>exact h1.elim⟩
def Aw(C:aga)(b:alq):Sp:=fun vs H Q _=>∃x a us,vs=.ref x::us/\us.length=b.length/\H x=Z (.ins C a [])/\Q .non (upd H x<|.ins C a<|b.zip us)
def Qe(n:Str)(a:alq)(ds:aly):R D:=if ds.length=a.length then .ok (.obj n<|a.zip ds)else .no
def aeJ(n:Str)(a:alq)(α:FA):FE:=fun Uq0=>(α Uq0).bind<|Qe n a
theorem mP.zip{K:aT}:∀{a:alq}{ds:aly}{vs:alx},aE K H ds vs->mP K H (a.zip ds) (a.zip vs)
 |[],_,_,h=>rfl
 |f::r,[],_,h=>by nofun;exact rfl
 |f::r,d::ds,_,⟨v,vs,e,h1,h2⟩=>by subst e;exact⟨v,_,rfl,h1,mP.zip h2⟩
theorem TK{K:aT}(hn:af5 K age n=Z (Z<|.ref C))(v:X.mg n=Z (.ref C))(M:Mk K C g)(G:FnOk X.prog X.w X.K X.mg X.base j8 j g fd ps<|Aw C ns)(b:gu K fd ps [])(hr:Room k X.A)
  (r:JA X (e::es)<|qy ⟨K,mg,E0⟩ O α) (y:autoParam (j+1<=k) Xax) (hg:autoParam (Gl X n) Xaz) (f:autoParam ((n==("__debug__":Str))=η) Xax) (h1:autoParam (az e=U) Xaz) (h2:autoParam (es.all az=U) Xaz) (q:autoParam (X.K=K) Xaz):
  JE X (.Call (.Name n p) (e::es) [] pos) (tN ⟨K,mg,E0⟩ O<|aeJ n ns α):=by
 subst q;refine JE.imp ⟨MW M G (hr.mono y) hg v b .nil zr r.out f (bn h1)<|c7 h2⟩ fun Y H Q u=>cx u fun as0 B own Uq0 I h=>?_;refine⟨as0,B,own,Uq0,I,eJ h fun ds vs H1 D l h1 x a i d t=>?_⟩;unfold Qe at h1;split at h1
 .rename_i hl;rw[agh];have m:av H1<|upd (upd H1 a<|.own x) x<|.ins C a<|ns.zip vs:=fun c o e=>by
   rw[aF<|bq e i,aF<|bq e d];exact e
  refine⟨x,a,vs,rfl,by rw[<-l.len];exact hl,aG,rfl,?_⟩;rw[xW];refine h1 x _ _ m i aG ⟨C,a,_,rfl,hn,mP.zip<|l.mono fun c o e=>?_⟩;by_cases hb:c∈own++as0
  .rw[dt hb]at e;cases e
  .rw[aO hb]at e;have s:c≠x:=fun z=>by mright
   rw[aO fun z=>(oR.mp z).elim s hb];exact m c o e
 .exact h1.elim
end
section
variable{X:Cx}{W:Wd}{O:alp}{e:agR}{es:List agR}{φ:FE}{α:FA}{pos p p1 p2:Pos}{x:Str}
def Wa(a:List<|Key×V):alx:=a.map fun q=>kV q.1
theorem Fv{P:ahb}{w:agN}(r:KV xs vs)(a:acc.length=vs.length)(h:∀(j:Nat)(v:By),acc[j]?=Z v->∃(k:Key)(x:By),vs[j]?=Z (k,x)/\qW k v=U):aY (Wa xs) acc:=by
 induction r generalizing acc with
 |nil=>cases acc with
  |nil=>exact .nil
  |cons _ _=>simp at a
 |@cons p q ps qs hq t ih=>
  cases acc with
  |nil=>simp at a
  |cons v acc=>
   obtain⟨k,x,b,c⟩:=h 0 v rfl;simp at b;subst b;refine .cons (show a7 (kV p.1) v by rw[hq.1];exact qe c) (ih (by simpa using a) fun j u d=>?_);let⟨k',x',e3,e4⟩:=h (j+1) u (by simpa using d)
   mright
theorem vS{K:aT}:∀{ds:List<|Key×D}{a:List<|Key×V},ci K H ds a->aE K H (ds.map fun q=>pI q.1) (Wa a)
 |[],_,h=>by nofun;exact rfl
 |(k,d)::r,_,⟨v,vs,e,_,h⟩=>by subst e;exact⟨kV k,_,rfl,sS k,vS h⟩
def Yj(xs:alx)(H:Hp)(Q:VK):Prop:=∃a o b,xs=[.ref a]/\H a=Z (.frz o<|.dK b)/\∀l,H l=L->Q (.ref l) (upd H l<|.lst<|Wa b)
theorem AH(k:X.calm=U):bF X (.type "list") Yj:=by
 intro m s Y H xs us Q I r h;obtain⟨a,o,e,rfl,i,hok⟩:=h;obtain⟨u,rfl,ru⟩:=f7 r;cases ru;let⟨z,hd,vs,F⟩:=qC I i
 have f:=F.rel.length;refine aP I.tk<|PySem.W.kdl_call (PySem.W.kdl_dict hd) (I.ok.hd k) F.at_ (by mright) fun h' tk acc c kp hg b d=>?_;have g:=Fv (P:=X.prog) (w:=X.w) F.rel (by exact b.1) fun j v l=>b.2 j v (by mright);exact⟨.ref s.heap.objs.size,_,I.laid kp (nE _) (show cQ X.prog X.w _ h' _ (.lst<|Wa e)from⟨by unfold Wa;rw[iF];exact z,acc.toList,c,g,by simpa using hg⟩) d,rfl,hok _<|I.hok.fresh<|nE _⟩
def PD(ds:aly):R D:=match ds with
 |[.dcf kvs]=>.ok<|.lst<|kvs.map fun q=>pI q.1
 |_=>.no
structure IsC(K:aT)(C:aga):Prop where
 cl:Cls K C
 ha:ahc K (.ref C) "__class__"=Z (Z<|.builtin "object.__class__")
 hn:akM K (.builtin "object.__class__") "__get__"=Z (Z<|.builtin "getset_descriptor.__get__")
 htk:ak5 K (.builtin "object.__class__")=Z U
 hm:PySem.W.mroIn K C (.type "object")=Z U
 k:ail K (.ref C) (.ref C)=Z U
 kn:ail K (.type "NoneType") (.ref C)=Z η
 ki:ail K (.type "int") (.ref C)=Z η
 kt:ail K (.type "tuple") (.ref C)=Z η
end
def Mn:By->Option Str
 |.str x _=>Z x
 |_=>L
theorem we(k:Str):∀(es:List DictEntry)(ks:alq),es.map (fun e=>Mn e.key)=ks.map Z->(es.find? fun e=>aia k e.key).isSome=ks.contains k
 |[],[],_=>rfl
 |[],_::_,h=>by nofun
 |_::_,[],h=>by nofun
 |e::es,x::ks,h=>by
  rw[Do,Do,List.cons.injEq]at h;let⟨h1,h2⟩:=h
  have b:=we k es ks h2;have a:aia k e.key=(k==x):=by
   cases q:e.key with
   |str y t=>
    rw[q]at h1;rw[<-ahd h1];exact Bool.beq_comm
   |_=>rw[q]at h1;cases h1
  rw[agw,a,List.contains_cons];cases(k==x)with
  |true=>rfl
  |false=>exact b
def ZC(a:aga)(ks:alq):R2:=fun x y H Q=>∃k,x=.str k/\y=.ref a/\Q (.bl<|!ks.contains k) H
noncomputable def Sb(ks:alq)(x:Str)(a b:D):R D:=match a,b with
 |.str k,.cls y=>if y=x then .ok (.bl<|!ks.contains k)else .no
 |_,_=>.no
section
theorem QU(d:X.K.lookup a=Z ⟨.type "dict",L,.dict es n,#[]⟩)(c:ahK X.w.params es.toList)(g:es.toList.map (fun e=>Mn e.key)=ks.map Z)(hs:(a==ahg)=η):
  dz X (agf .NotIn) (ZC a ks):=by
 intro i s Y H x y v u Q I f b h;obtain⟨k,rfl,rfl,q⟩:=h;cases b;obtain⟨t,rfl⟩:=f;refine wpAny_notIn_of ((beq_self_eq_true k)) hs (ak9 I.kIn d c) ?_;have e:(findBy aia es k).isSome=ks.contains k:=by
  unfold findBy;rw[ahI,<-Array.find?_toList];exact we k es.toList ks g
 rw[e];exact⟨.bl _,H,I.tok _,rfl,q⟩
theorem aa9(hn:Yd W.K x a):pb W (ZC a ks)<|Sb ks x:=by
 intro as H v u d b Q i g f h;unfold Sb at h;cbv
 .cbv
  .rename_i e;subst e;cases g;obtain⟨C,rfl,c⟩:=f;rw[(hn)]at c;cases c;exact⟨_,rfl,rfl,aI h rfl⟩
  .mleft
 .mleft
end
section
variable{st:ah9}
def sNo:FS:=fun _=>.no
end
def tS(S:alp)(led:Bool):SetTable:={mask:=7,place:=S.toArray,dummies:=#[],finger:=0,led:=led,moves:=0,plain:=U}
def kr(S:alp)(a:Nat->Tok):Array<|Int×By:=(S.map fun(i:Nat)=>((i:Int),aiN (i:Int)<|a i)).toArray
noncomputable def oS(S:alp)(i:Nat):alp:=if i∈S then S else S.filter (fun j=>decide (j<i))++i::S.filter (fun j=>decide (i<j))
noncomputable def cG:List<|alp:=[[],[0],[1],[2],[0,1],[0,2],[1,2],[0,1,2]]
def gi(h:aij)(a:aga)(S:alp)(b:Bool)(c:Nat):Prop:=∃o d,h.get? a=Z o/\o.ExactSet/\o.data=.set (kr S d) c (tS S b)
theorem CI:∀S∈cG,∀i<3,oS S i∈cG:=⊤
theorem Qh(h:i<3):i=0\/i=1\/i=2:=by omega
theorem ny{i:Nat}(a:i<3):hashInt (i:Int)=(i:Int):=by
 rcases Qh a with rfl|rfl|rfl<;>decide +kernel
theorem bJ(a:S∈cG)(b:Bool)(c:Nat->Tok):(tS S b).fits (kr S c).size=U:=by
 unfold cG at a;simp only[oR,agn,or_false]at a;rcases a with rfl|rfl|rfl|rfl|rfl|rfl|rfl|rfl<;>kernel_rfl
theorem sub_lt:∀S∈cG,∀i∈S,i<3:=⊤
section
theorem qK(b:S∈cG)(d:Nat->Tok):ElemsOf (intKind prog w) (kr S d).toList:=fun e c=>by
 obtain⟨i,a,rfl⟩:=rW.mp c;exact⟨⟨i,by simp[intKind,ahC],(ny<|sub_lt S b i a).symm⟩,rfl⟩
theorem pC(b:S∈cG)(a:Nat->Tok):(kr S a).size<scanBound:=by
 have:∀S∈cG,S.length<=3:=∎
 have c:=this S b;unfold kr scanBound;simp;lia
theorem BA(a:S∈cG)(b:Bool):(tS S b).tooFull=η:=by
 unfold cG at a;simp only[oR,agn,or_false]at a;rcases a with rfl|rfl|rfl|rfl|rfl|rfl|rfl|rfl<;>kernel_rfl
theorem EO(c:S∈cG)(n:i<3)(hs:gi s.heap a S led ep)
  (h:∀b h' l,agD a s.heap h'->gi h' a (oS S i) led l->Q b {s with heap:=h'}):af0 #[4] A (setAddHashed a (.int (i:Int) t)<|hashInt (i:Int)) Q E s:=by
 let⟨o,tk,ho,hex,hd⟩:=hs
 have p:=bJ c led tk;have g:=qK (prog:=prog) (w:=w) c tk;have r:(intKind prog w).is (i:Int) (.int (i:Int) t)=U:=by simp[intKind,ahC]
 unfold setAddHashed setAddHashedIn;refine ag1<|bY<|wpAny_setState_of ho hd p ?_;dsimp only;rw[byScan_of (knd:=intKind prog w) rfl (pC c tk) g,ali rfl];unfold setAddByScan;refine bY<|bY<|ajL ?_;have q:hashInt (i:Int)=(intKind prog w).hash (i:Int):=rfl;rw[q];refine bY<|wpAny_setScan_of r ho hd p g ?_;have f:(∃j,ajQ (fun e=>(intKind prog w).is (i:Int) e.2) (kr S tk).toList=Z j)↔i∈S:=by
  unfold kr;rw[List.toList_toArray];constructor
  .rintro⟨j,hj⟩;let⟨hlt,hp,_⟩:=aiC.mp hj
   rw[List.getElem_map]at hp
   have:S[j]'(by simpa using hlt)=i:=by
    simp[intKind,ahC]at hp;lia
   rw[<-this];exact afV _
  .intro d;cases e:ajQ (fun e=>(intKind prog w).is (i:Int) e.2) (S.map fun(i:Nat)=>((i:Int),aiN (i:Int)<|tk i))with
   |some j=>exact⟨j,rfl⟩
   |none=>
    have:=List.findIdx?_eq_none_iff.mp e _<|rW.mpr ⟨i,d,rfl⟩
    simp[intKind,ahC]at this
 cases e:ajQ (fun e=>(intKind prog w).is (i:Int) e.2) (kr S tk).toList with
 |some j=>
  have d:=f.mp ⟨j,e⟩;have m:oS S i=S:=ali d;refine lT<|lT ?_
  have:=h η s.heap ep (Heap.SameBut.refl a s.heap) (by rw[m];exact⟨o,tk,ho,hex,hd⟩)
  exact this
 |none=>
  have d:i∉S:=fun z=>by
   let⟨j,hj⟩:=f.mpr z
   rw[e]at hj;cases hj
  have k:=CI S c i n;have u:layNew (tS S led) (kr S tk) (hashInt i) (.int i t)=(kr (oS S i) fun j=>if j=i then t else tk j,tS (oS S i) led,η,η):=by rw[ny n];exact(by
    unfold cG at c;simp only[oR,agn,or_false]at c;rcases c with rfl|rfl|rfl|rfl|rfl|rfl|rfl|rfl<;>rcases Qh n with rfl|rfl|rfl<;>first|exact absurd ∎ d|kernel_rfl)
  rw[<-q];rw[u];refine bY<|lT ?_;refine bY<|lT ?_;refine bY<|wpAny_storeSet_of ho hd ?_<|fits_of_scanBound<|pC k _;rw[ali rfl,BA k led];refine lT<|lT ?_;refine h U _ (ep+1) (aho _ _ _) ⟨{o with data:=.set (kr (oS S i) fun j=>if j=i then t else tk j) (ep+1)<|tS (oS S i) led},fun j=>if j=i then t else tk j,?_,hex,rfl⟩
  have:=ah6 (Obj.putSet (kr (oS S i) fun j=>if j=i then t else tk j)<|tS (oS S i) led) ho (by rw[putSet_of _ _ hd];rfl)
  rw[putSet_of _ _ hd]at this;exact this
end
def cb(ks:alp):alp:=ks.foldl oS []
theorem fV:∀(ks S:alp),S∈cG->(∀k∈ks,k<3)->ks.foldl oS S∈cG:=bb (fun S h _=>h) fun k r i S h hk=>i _ (CI S h k<|hk k<|∅) fun x a=>hk x (by simp[a])
section
variable{s:MK}
theorem wj{ks:alp}(u:A.handled=L)(x:s.heap.IsList l items)(d:ks.length=items.size)
  (y:∀(i:Nat)v,items[i]?=Z v->∀k,ks[i]?=Z k->∃t,v=.int (k:Int) t) (f:∀k∈ks,k<3)
  (h:∀(h':aij)(g a:Nat),gi h' s.heap.objs.size (cb ks) (dH w) a->(∀b o,b<s.heap.objs.size->s.heap.get? b=Z o->h'.get? b=Z o)->Q #[13] {s with heap:=h',toks:=g}):
  af0 #[4] A (call (.type "set") [.ref l]) Q E s:=by
 refine yK (J:=fun i h=>∃a,gi h s.heap.objs.size (cb<|ks.take i) (dH w) a) u x ⟨fun i h h'⟨a,o,g,ho,r⟩k=>⟨a,o,g,k o ho,r⟩,fun A E i v s' Q hlt hP⟨a,hs⟩q=>?_⟩ (fun h e=>⟨0,_,fun _=>0,e,⟨rfl,rfl,rfl⟩,rfl⟩) fun h' g⟨a,hs⟩=>h h' g a (by rw[<-d,aiZ]at hs;exact hs);have c:i<ks.length:=⊥
 obtain⟨t,rfl⟩:=y i v hP ks[i]<|lE c;unfold setAdd;refine ag1<|bY<|wpAny_pyHash_int<|EO (s:={s' with toks:=s'.toks+1}) (fV _ _ ∎ fun k p=>f k<|ag8 p) (f _<|afV c) hs fun b h' m n j=>q _ _ _ (ai9 _) n ⟨m,?_⟩;unfold cb at j⊢;rw[agq c,akS];exact j
end
theorem CJ{α:Type}(f:Nat->Nat):∀(n k:Nat)(l:List α)(out:Array α),l.length=n->(aiR f n k l out).toList.Perm (out.toList++l):=bi (fun k l out h=>by
  obtain rfl:=List.length_eq_zero_iff.mp h;unfold aiR;simp) fun n i k l out h=>by
  have a:f k%l.length<l.length:=Nat.mod_lt _ ⊥;unfold aiR;rw[lE a];refine(i (k+1) _ _<|by grind).trans ?_;rw[Array.toList_push,af4];refine List.Perm.append_left _ ?_;rw[List.eraseIdx_eq_take_drop_succ];have e:l=l.take (f k%l.length)++l[f k%l.length]::l.drop (f k%l.length+1):=by mright
  exact(List.perm_middle (l₁:=l.take<|f k%l.length)).symm.trans<|List.Perm.of_eq e.symm
theorem vD(f:Nat->Nat)(xs:Array α):(pickOrder f xs).toList.Perm xs.toList:=by
 have:=CJ f xs.size 0 xs.toList #[] ∅
 assumption
theorem pP:Slot "set_iterator" "__next__" "set_iterator.__next__":=
 .of (owner:="set_iterator") (n:="__next__") (by rfl) ⊤ ⊤ ⊤ (by first|exact .inl ⊤|lia) (by rfl)
theorem GP:entryFor table "set_iterator.__next__"=Z Builtin.«set_iterator.__next__»:=entryFor_of_tree #[12]
theorem Hf(a:By):argsOk "set_iterator.__next__" ⟨[a],[]⟩:=by rfl
theorem TL:entryFor table "set.__iter__"=Z Builtin.«frozenset.__iter__»:=entryFor_alias (id':="frozenset.__iter__") #[12] ⊤ ⊤ #[12]
theorem KA:Slot "set_iterator" "__iter__" "set_iterator.__iter__":=
 .of (owner:="set_iterator") (n:="__iter__") (by rfl) ⊤ ⊤ ⊤ (by first|exact .inl ⊤|lia) (by rfl)
theorem S4:entryFor table "set_iterator.__iter__"=Z Builtin.«dict_keyiterator.__iter__»:=entryFor_alias (id':="dict_keyiterator.__iter__") #[12] ⊤ ⊤ #[12]
theorem Ud(a:By):argsOk "set_iterator.__iter__" ⟨[a],[]⟩:=by rfl
def WI(w:agN)(a:aga)(b:Nat)(es:Array<|Int×By):Array<|Int×By:=if w.params.followText "set-order"=U then pickOrder (w.params.setOrder a b) es else es
theorem kc(w:agN)(a:aga)(b:Nat)(es:Array<|Int×By):(WI w a b es).toList.Perm es.toList:=by
 unfold WI;split
 .exact vD _ _
 .exact .refl _
noncomputable def wv(S:alp)(i:Nat):Nat:=match i with
 |0=>0
 |j+1=>S.getD j 0+1
def oE(w:agN)(S:alp)(i:Nat):Nat:=if w.params.followText "set-order"=U then 0 else wv S i
def XS(w:agN)(S:alp)(a:aga)(i b:Nat):Data:=.fields #[.int (oE w S i:Int) 0,.int (i:Int) 0,.ref a,.int (S.length:Int) 0,.int (b:Int) 0]
def gG(w:agN)(S:alp)(h:aij)(it a:aga)(i b:Nat):Prop:=∃o,h.get? it=Z o/\o.cls=.type "set_iterator"/\o.data=XS w S a i b
theorem vU{α β:Type}(g:α->β):∀(l:List α)(i:Nat),(l.map g).eraseIdx i=(l.eraseIdx i).map g
 |[],_=>rfl
 |_::_,0=>rfl
 |x::l,i+1=>alo (g x::·)<|vU g l i
theorem qN(g:α->β)(f:Nat->Nat):∀(n k:Nat)(l:List α)(out:Array α),aiR f n k (l.map g) (out.map g)=(aiR f n k l out).map g:=bi (fun k l out=>by rfl) fun n i k l out=>by
  unfold aiR;rw[iF,agH];cases l[f k%l.length]? with
  |none=>rfl
  |some x=>
   dsimp only[Option.map];rw[vU,<-Array.map_push];exact i (k+1) _ _
theorem KW(g:α->β)(f:Nat->Nat)(l:List α):pickOrder f (l.map g).toArray=(pickOrder f l.toArray).map g:=by
 have:=qN g f l.length 0 l #[]
 unfold pickOrder;simpa using this
noncomputable def qZ(w:agN)(a:aga)(b:Nat)(S:alp):alp:=if w.params.followText "set-order"=U then(pickOrder (w.params.setOrder a b) S.toArray).toList else S
theorem jn(w:agN)(a:aga)(b:Nat)(S:alp):(qZ w a b S).Perm S:=by
 unfold qZ;split
 .exact vD _ _
 .exact .refl _
theorem FZ:∀S∈cG,∀i<3,i<S.length->ale S.toArray (wv S i)=i:=⊤
theorem Je:∀S∈cG,ale S.toArray (wv S S.length)=S.length:=⊤
theorem sub_len:∀S∈cG,S.length<=3:=∎
section
variable{s:MK}
theorem gi.typeIs(h:gi s.heap a S led ep):s.TypeIs (.ref a) "set":=let⟨o,_,ho,hx,_⟩:=h;⟨o,ho,hx.1⟩
theorem Im(e:S∈cG)(hs:gi s.heap a S led ep)(h:Q η s):af0 #[4] A (setDrawn a) Q E s:=by
 refine Z23 hs fun o c f g d=>?_;refine bY<|wpAny_setState_of f d (bJ e led c) ?_;refine bY<|bY<|wpAny_askSetting<|lT<|lT ?_
 have:∀b , (!b&&(!U&&decide ((kr S c).size > 1)))=η:=by mright
 exact(this _).symm▸h
theorem HF(b:S∈cG)(hs:gi s.heap a S (dH w) ep)
  (h:Q #[13] {s with heap:=s.heap.push {cls:=.type "set_iterator",data:=XS w S a 0 ep}}):af0 #[4] A (ald<|.ref a) Q E s:=by
 let⟨o,tk,ho,hx,hd⟩:=id hs
 have c:=hs.typeIs;refine wpAny_pyIter_slot c aj9<|agt aj9 c TL ?_<|PySem.F.args_set_iter_1 _;refine bY<|lT ?_;refine bY ?_;refine bY<|wpAny_setEntries_of ho hd (bJ b _ tk)<|lT ?_;refine bY<|Im b hs ?_;refine bY<|lT ?_;refine bY<|wpAny_setEpoch_of ho hd (bJ b _ tk) ?_;refine bY<|agV<|lT ⟨_,rfl,"set_iterator",_,⟨_,ID _ rfl,rfl⟩,pP.lookup,?_⟩;have d:XS w S a 0 ep=.fields [aiT 0,aiT 0,.ref a,aiT<|(kr S tk).size,aiT ep].toArray:=by
  unfold XS oE kr aiT
  have:(if w.params.followText "set-order"=U then 0 else wv S 0)=0:=by split<;>rfl
  rw[this];simp
 rw[d]at h;exact h
theorem yB(e:S∈cG)(hs:gi s.heap a S (dH w) ep)(p:i<=S.length)
  (h:∀r,(∀k,(qZ w a ep S)[i]?=Z k->∃t,r=Z (.int (k:Int) t,oE w S<|i+1))->((qZ w a ep S)[i]?=L->r=L)->Q r s):af0 #[4] A (setNext a (oE w S i) i ep) Q E s:=by
 let⟨o,tk,ho,hx,hd⟩:=id hs
 have g:=bJ e (dH w) tk;unfold setNext setsByText;refine bY<|wpAny_setState_of ho hd g ?_;dsimp only;refine bY<|bY<|wpAny_askSetting<|lT ?_;refine wpAny_ite_split (fun hb=>?_) fun hb=>?_
 .replace hb:w.params.followText "set-order"=U:=hb
  simp only[bne_self_eq_false,ahA,↓reduceIte];unfold setWalk setsByText;refine bY<|bY<|wpAny_setState_of ho hd g ?_;dsimp only;refine bY<|bY<|wpAny_askSetting<|lT ?_;refine wpAny_ite_split (fun _=>?_) fun q=>absurd hb q;refine bY<|wpAny_askSetting<|lT<|lT ?_;have d:qZ w a ep S=(pickOrder (w.params.setOrder a ep) S.toArray).toList:=by unfold qZ;rw[ali hb]
  have m:pickOrder (w.params.setOrder a ep) (kr S tk)=(pickOrder (w.params.setOrder a ep) S.toArray).map fun(i:Nat)=>((i:Int),aiN (i:Int)<|tk i):=KW _ _ _;refine h _ (fun k c=>?_) fun c=>?_
  .rw[d,ahB]at c;refine⟨tk k,?_⟩;show((pickOrder (w.params.setOrder a ep)<|kr S tk)[i]?).map _=_;rw[m,akG,c];unfold oE;rw[ali hb,ali hb];rfl
  .rw[d,ahB]at c;show((pickOrder (w.params.setOrder a ep)<|kr S tk)[i]?).map _=_;rw[m,akG,c];rfl
 .replace hb:¬w.params.followText "set-order"=U:=hb
  have n:dH w=U:=by show(!_)=U;simpa using hb
  have d:qZ w a ep S=S:=by unfold qZ;rw[alj hb]
  have l:∀j,oE w S j=wv S j:=fun j=>by unfold oE;rw[alj hb]
  refine wpAny_ite_split (fun q=>absurd q (by show ¬((!U&&_)=U);simp)) fun _=>?_;rw[n];refine bY<|akz (a:=()) rfl (lT ?_);have u:∀b,(tS S b).place=S.toArray:=fun _=>rfl;simp only[u,l];refine h _ (fun k c=>?_) fun c=>?_
  .rw[d]at c;have f:=(af1.mp c).1;have v:=sub_len S e;rw[FZ S e i ⊥ f];unfold kr;refine⟨tk k,?_⟩;simp only[List.getElem?_toArray,agH,c,Option.map,l];unfold wv;simp[List.getD,c]
  .rw[d]at c;have  := Nat.le_antisymm p (by simpa using c);rw[this,Je S e];simp
end
section
variable{s:MK}
theorem gG.typeIs(h:gG w S s.heap it a i ep):s.TypeIs (.ref it) "set_iterator":=let⟨o,ho,hc,_⟩:=h;⟨o,ho,hc⟩
theorem gG.at'(x:gG w S h it a i ep)(e:∀o,h.get? it=Z o->h'.get? it=Z o):gG w S h' it a i ep:=let⟨o,ho,r⟩:=x;⟨o,e _ ho,r⟩
theorem gi.at'(x:gi h a S b ep)(e:∀o,h.get? a=Z o->h'.get? a=Z o):gi h' a S b ep:=let⟨o,t,ho,r⟩:=x;⟨o,t,e _ ho,r⟩
theorem next_item(l:S∈cG)(d:gG w S s.heap it a i ep)(hs:gi s.heap a S (dH w) ep)(j:(qZ w a ep S)[i]?=Z k)
  (hQ:∀t h',gG w S h' it a (i+1) ep->(∀b o,b≠it->s.heap.get? b=Z o->h'.get? b=Z o)->Q (Z<|.int (k:Int) t) {s with heap:=h'}):af0 #[4] A (pyNext<|.ref it) Q E s:=by
 let⟨o,ho,hc,hd⟩:=id d
 let⟨os,tk,hos,hxs,hds⟩:=id hs
 have p:=(jn w a ep S).length_eq;have n:=(af1.mp j).1;unfold pyNext;refine bY<|ai8<|agG (name:=afS "__next__") d.typeIs pP<|agt pP d.typeIs GP ?_<|Hf _;unfold Builtin.«set_iterator.__next__»;refine bY (m:=slotArgs _ _ _)<|lT ?_;dsimp only;refine bY<|wpAny_fieldsOf ho hd ?_;dsimp only;refine bY<|wpAny_setEntries_of hos hds (bJ l _ tk) ?_;have hsz:(kr S tk).size=S.length:=by unfold kr;simp
 rw[hsz];simp only[bne_self_eq_false,ahA,↓reduceIte,agd];refine bY<|yB l hs ⊥ fun r h1 _=>?_;obtain⟨t,rfl⟩:=h1 k j;dsimp only;refine bY<|aiM ho hd ∅ ?_;have f:=ah6 (Obj.mapFields (·.setIfInBounds 0 (aiT (oE w S (i+1):Nat)))) ho<|aiO<|ahz hd _;have c:=ahz hd fun x=>x.setIfInBounds 0<|aiT (oE w S (i+1):Nat);refine bY<|aiM f c ∅ ?_;have h:=ah6 (Obj.mapFields (·.setIfInBounds 1 (aiT<|(i:Int)+1))) f<|aiO<|ahz c _;have g:=ahz c fun x=>x.setIfInBounds 1<|aiT<|(i:Int)+1;refine lT ⟨_,rfl,lT<|hQ t _ ⟨_,h,(ajF ..).trans<|(ajF ..).trans hc,g.trans<|by simp[aiT,XS]⟩ fun b o hb e=>?_⟩;exact(aht _ _<|ah5 hb).trans<|(aht _ _<|ah5 hb).trans e
theorem next_end(f:A.handled=L)(d:S∈cG)(c:gG w S s.heap it a S.length ep)(hs:gi s.heap a S (dH w) ep)
  (hQ:∀h',(∀b o,b≠it->s.heap.get? b=Z o->h'.get? b=Z o)->Q L {s with heap:=h'}):af0 #[4] A (pyNext<|.ref it) Q E s:=by
 let⟨o,ho,hc,hd⟩:=id c
 let⟨os,tk,hos,hxs,hds⟩:=id hs
 have g:=(jn w a ep S).length_eq;refine bY<|ai8<|agG c.typeIs pP<|agt pP c.typeIs GP ?_<|Hf _;refine bY<|lT ?_;refine bY<|wpAny_fieldsOf ho hd ?_;refine bY<|wpAny_setEntries_of hos hds (bJ d _ tk) ?_;have hsz:(kr S tk).size=S.length:=by unfold kr;simp
 rw[hsz];simp only[bne_self_eq_false,ahA,↓reduceIte,agd];refine bY<|yB d hs (nE _) fun r _ h1=>?_;obtain rfl:=h1 (aiQ<|⊥);refine bY<|aiM ho hd ∅ ?_;refine bY ?_;refine bY (agV ?_<|by size_fits);refine bY<|akz (by rfl) ?_;refine agV ?_ (by size_fits);refine bY<|wpAny_handled ?_;rw[(f)];refine bY<|lT<|wpAny_throw ?_;refine bY<|wpAny_isInstance ⟨_,ID _ rfl,rfl⟩ isSubtype_stop ?_;refine lT<|hQ _ fun b o hb e=>?_;exact(((aho ..).extBut.push _).push _) b o hb e
def abl(w:agN)(a:aga)(b:Nat)(S:alp)(i:Nat)(v:By):Prop:=∃(k:Nat)(t:Tok),(qZ w a b S)[i]?=Z k/\v=.int (k:Int) t
theorem Fo(l:A.handled=L)(g:a≠it)(j:S∈cG):Walks prog w A it [it,a] [it] S.length (abl w a ep S) (fun i h=>gG w S h it a i ep/\gi h a S (dH w) ep) where
 sub:=fun b hb=>by mright
 frame:=fun _ _ _ st d=>⟨st.1.at' fun o e=>d it ∅ o e,st.2.at' fun o e=>d a ∅ o e⟩
 item:=fun i s Q E p st hQ=>by
  have n:=(jn w a ep S).length_eq;let⟨k,d⟩:∃k,(qZ w a ep S)[i]?=Z k:=⟨_,lE<|⊥⟩
  exact next_item j st.1 st.2 d fun t h' c f=>hQ _ h' s.toks ⟨k,t,d,rfl⟩ ⟨c,st.2.at' fun o e=>f a o g e⟩ fun b o hb e=>f b o (fun h=>hb<|by simp[h]) e
 done:=fun s Q E st hQ=>next_end l j st.1 st.2 fun h' m=>hQ h' s.toks fun b o hb e=>m b o (fun h=>hb<|by simp[h]) e
 self:=fun _ _ _ _ st hQ=>(by
   refine wpAny_pyIter_slot st.1.typeIs KA (agt KA st.1.typeIs S4 ?_ (Ud _));exact lT ⟨_,rfl,"set_iterator",_,st.1.typeIs,pP.lookup,hQ⟩)
theorem Ni(i:S∈cG):PySem.W.KdlSrc prog w "set" a a S.length (abl w a ep S) (fun h=>gi h a S (dH w) ep) where
 type:=fun _ c=>c.typeIs
 there:=fun _ c=>let⟨_,_,ho,_⟩:=c;⟨OR ho,OR ho⟩
 keep:=fun _ _ c j=>c.at' fun o e=>j a (.inl rfl) o e
 notList:=∎
 notTuple:=∎
 hint:=fun _ _ _ _ c g=>(by
   unfold Builtin.List.listLengthHint;refine bY<|wpAny_specialOf c.typeIs PySem.F.slot_set_len.lookup ?_;generalize f:("set.__len__":String)=id0
   wp_delta
   rw[show splitId id0=Z ("set","__len__")from by subst f;decide +kernel];subst f;refine bY (wpAny_isInstance (T:="set") (b:=U) c.typeIs (by rw[isSubtype_type];kernel_rfl) ?_);refine wpAny_ite_split (fun d=>absurd d ∎) fun _=>?_;refine wpAny_ite_split (fun _=>bY (akf c.typeIs (lT g))) fun d=>absurd ⊤ d)
 iter:=fun _ _ k c=>⟨_,_,(fun _ _ g=>HF i c g),Fo k (let⟨_,_,ho,_⟩:=c;af7 (OR ho)) i,⟨⟨_,ID _ rfl,rfl,rfl⟩,c.at' fun o e=>eQ _ e⟩⟩
end
theorem zw{K:aT}:∀l:alp,aE K H (l.map fun(k:Nat)=>D.int (k:Int)) (l.map fun(k:Nat)=>V.int (k:Int)):=bb (rfl) fun k l i =>⟨_,_,rfl,rfl,i⟩
theorem qa{K:aT}:∀{l:alp}{vs:alx},aE K H (l.map fun(k:Nat)=>D.int (k:Int)) vs->vs=l.map fun(k:Nat)=>V.int (k:Int):=@bb _ _ (@fun _ h=>h) fun k l i=>@fun _ j=>Z23 j fun v vs e h1 h2=>by subst e;rw[(h1),i h2];rfl
theorem KL(b:acc.length=S.length)(h:∀(j:Nat)(v:By),acc[j]?=Z v->abl w a ep S j v):aY ((qZ w a ep S).map fun(k:Nat)=>V.int (k:Int)) acc:=by
 have hl2  := b.trans (jn w a ep S).length_eq.symm;have key:∀(acc:alw)(l:alp),acc.length=l.length->(∀(j:Nat)v,acc[j]?=Z v->∃(k:Nat)(t:Tok),l[j]?=Z k/\v=.int k t)->aY (l.map fun(k:Nat)=>V.int k) acc:=by
  intro acc;induction acc with
  |nil=>intro l b _;cases l with
   |nil=>exact .nil
   |cons _ _=>simp at b
  |cons v acc d=>intro l b h;cases l with
   |nil=>simp at b
   |cons k l=>
    obtain⟨f,t,c,rfl⟩:=h 0 v rfl;simp at c;subst c;exact .cons ⟨_,rfl⟩ (d l (by simpa using b) fun j u e=>by simpa using h (j+1) u (by simpa using e))
 exact key acc _ hl2 h
section
variable{X:Cx}{W:Wd}{O:alp}
def M6(K:aT)(t:TA):TE:=fun Y H Q=>t Y H fun vs H1=>∃(a:aga)(ks:alp),vs=[.ref a]/\dF K H1 a (ks.map fun(k:Nat)=>V.int (k:Int))/\(∀k∈ks,k<3)/\∀q b,H1 q=L->aE K (fun _=>L) ((cb ks).map fun(k:Nat)=>D.int (k:Int)) b->Q (.ref q) (upd H1 q<|.lst b)
noncomputable def uO:aly->Option (alp)
 |[]=>Z []
 |.int i::r=>if 0<=i/\i<3 then(uO r).map (i.toNat::·)else L
 |_=>L
theorem uF:∀{ds:aly}{ks:alp},uO ds=Z ks->ds=ks.map (fun(k:Nat)=>D.int (k:Int))/\∀k∈ks,k<3
 |[],_,h=>by nofun;mright
 |.int i::r,ks,h=>by
  unfold uO at h;cbv
  .obtain⟨l,a,rfl⟩:=iN.mp h;let⟨h1,h2⟩:=uF a
   grind
  .nofun
def lP(ds:aly):R D:=match ds with
 |[.lst xs]=>(match uO xs with
  |some ks=>.ok<|.lst<|(cb ks).map fun(k:Nat)=>D.int (k:Int)
  |none=>.no)
 |_=>.no
end
section
variable{X:Cx}{K:aT}{st:ah9}{p pos:Pos}
theorem pcA(D:Def X.K mg0 y st ps f fd)(m:X.mg x=Z (.ref f))(G:FnOk X.prog X.w X.K X.mg X.base j8 j f fd ps sp)(hr:Room k X.A)(g:PA X (e::es) t)(l:autoParam (j<=k) Xax)(hg:autoParam (Gl X x) Xaz)(a:autoParam (alz x) Xax)
  (h1:autoParam (az e=U) Xaz) (h2:autoParam (es.all az=U) Xaz):PE X #[7]<|Ir sp t:=by
 have n:afY (e::es) X.env=(η,eval e X.env)::afY es X.env:=bn h1;have c:(ahP pos<|afY es X.env).any (·.1)=η:=c7 h2;intro o s Y H Q I h;refine agi<|jN I hg m ?_ a;refine ajo I.ok.mod.kin D.F.kp (bX (g pos o s Y H _ I h) fun us u i=>iW i fun vs H1 d r q=>⟨d.kIn,?_⟩) n c;exact Ah G (hr.mono l) D.b .nil zr d r (by mright)
theorem Mz(D:Def X.K mg0 y st ps f fd)(m:X.mg x=Z (.ref f))(G:FnOk X.prog X.w X.K X.mg X.base j8 j f fd ps<|zY K mg F)(hr:Room k X.A)(b:JA X (e::es)<|qy ⟨K,mg,E0⟩ O α)(g:autoParam (j<=k) Xax)(hg:autoParam (Gl X x) Xaz)(a:autoParam (alz x) Xax)
  (h1:autoParam (az e=U) Xaz) (h2:autoParam (es.all az=U) Xaz):JE X #[7]<|tD ⟨K,mg,E0⟩ O<|aD F α:=
 JE.imp ⟨pcA D m G hr b.out g hg a h1 h2⟩ fun Y H Q d=>cx d fun as0 B own Uq0 I h=>⟨as0,B,own,Uq0,I,eu h fun ds vs H1 c i h1=>⟨own++as0,ds,(I.mono c).exi,i,h1⟩⟩
end
noncomputable def V9(a:Scope)(x:Str):Bool:=match a.names.lookup x with
 |some .local=>U
 |some .cell=>U
 |some .free=>U
 |_=>η
def Xs(a:Scope)(x:Str):Bool:=V9 a x&&!(x==("__debug__":Str))&&!(x==("__classdict__":Str))
theorem Ax(h:Xs sc x=U):qm sc x/\alz x/\#[5]=η:=by
 unfold Xs at h;rw[afU,afU,ahL,ahL]at h;exact⟨(fun h=>by
   unfold V9 at h;cbv
   .rename_i e;exact .inl e
   .rename_i e;exact .inr (.inl e)
   .rename_i e;exact .inr (.inr e)
   .nofun) h.1.1,h.1.2,h.2⟩
abbrev Fm:=Scope->alq->alp->agR->Option (List agR×(List FE->FE))
abbrev Fq:=Scope->alq->alp->agR->Option (List agR×(List FE->FT))
abbrev Fi:=Scope->alq->alp->agR->agR->Option (List agR×(List FE->FA))
abbrev Fs:=Scope->alq->alp->ah9->Option (List agR×(List FE->FS))
structure Tb where
 x:List Fm
 n:List Fm
 q:List Fq
 i:List Fi
 s:List Fs
 c:List<|Str×D
 d:alq
 m:alq
 k:List<|Pos×alq
 w:Nat
def Js(X:Cx)(W:Wd)(O:alp):List agR->List FE->Prop
 |[],[]=>True
 |e::es,φ::φs=>JE X e (tD W O φ)/\Js X W O es φs
 |_,_=>False
def fv(X:Cx)(W:Wd)(f:Fm):Prop:=∀O e es b a,f X.env.scope X.N O e=Z (es,b)->Js X W O es a->JE X e (tD W O<|b a)
def wT(X:Cx)(W:Wd)(f:Fm):Prop:=∀O e es b a,f X.env.scope X.N O e=Z (es,b)->Js X W O es a->JE X e (tN W O<|b a)
def Ol(X:Cx)(W:Wd)(f:Fq):Prop:=∀O e es b a,f X.env.scope X.N O e=Z (es,b)->Js X W O es a->JT X e (ky W O<|b a)
def IX(X:Cx)(W:Wd)(f:Fi):Prop:=∀O g e es b a,f X.env.scope X.N O g e=Z (es,b)->Js X W O es a->JI X g e (iD W O<|b a)
def Jc(X:Cx)(W:Wd)(f:Fs):Prop:=∀Ob O s es b a,f X.env.scope X.N O s=Z (es,b)->Js X W O es a->JS X s (sD W Ob O O<|b a)
def CN(X:Cx)(W:Wd)(x:Str)(d:D):Prop:=∀(O:alp)(p:Pos),Gl X x->JE X (.Name x p) (tD W O<|vC d)
structure TbOk(X:Cx)(W:Wd)(t:Tb):Prop where
 x:∀f∈t.x,fv X W f
 n:∀f∈t.n,wT X W f
 q:∀f∈t.q,Ol X W f
 i:∀f∈t.i,IX X W f
 s:∀f∈t.s,Jc X W f
 c:∀q∈t.c,CN X W q.1 q.2
noncomputable def lk{β:Type}(x:Str):List (Str×β)->Option β
 |[]=>L
 |q::r=>if q.1=x then Z q.2 else lk x r
theorem GX:∀{l:List<|Str×β}{b:β},lk x l=Z b->(x,b)∈l:=@bb _ _ (@fun _ h=>by nofun) fun q r i=>@fun b h=>by
  unfold lk at h;cbv
  .grind
  .exact mK _ (i h)
noncomputable def Sw(f:agR->Option FE):List agR->Option (List FE)
 |[]=>Z []
 |e::es=>(f e).bind fun φ=>(Sw f es).map (φ::·)
noncomputable def fst{α β:Type}(l:List α)(f:α->Option β):Option β:=match l with
 |[]=>L
 |a::r=>match f a with
  |some b=>Z b
  |none=>fst r f
theorem l9{α β:Type}{f:α->Option β}{b:β}:∀{l:List α},fst l f=Z b->∃a∈l,f a=Z b:=@bb _ _ (fun h=>by nofun) fun a r i h=>by
  unfold fst at h;cbv
  .mright
  .let⟨c,h1,h2⟩:=i h;grind
def Ru(N:alq)(x:Str):Option Nat:=N.findIdx? fun y=>decide (y=x)
theorem jA(h:Ru N x=Z i):N[i]?=Z x:=by
 obtain⟨b,a,_⟩:=aiC.mp h;mright
noncomputable def zM:agR->Bool
 |.Set ..=>U
 |_=>η
theorem xr(h:zM e=η)(env:Env):∀x,agU e env x=pure x:=by
 cases e<;>first|exact fun _=>rfl|nofun
def Z9(t:Tb)(b:Scope)(N:alq)(O:alp)(a:agR->Option FE)(g it:agR):Option FA:=match fst t.i fun f=>f b N O g it with
 |some q=>(Sw a q.1).map q.2
 |none=>(a it).map gE
noncomputable def S0(scope a:Scope):Scope:={scope with names:=scope.names.map fun(n,k)=>if(k==.free&&a.kind==.function&&a.names.lookup n==Z .cell)then(n,.cell)else(n,k)}
noncomputable def wB:agR->Option Str
 |.Name x _=>Z x
 |_=>L
noncomputable def UL(a:Scope)(fn:Str->Bool)(x:Str):Bool:=decide (a.names.lookup x=Z .local)||(decide (a.names.lookup x=Z .cell)&&fn x)
theorem BC{X:Cx}(h:UL X.env.scope X.fn x=U):Loc X.env.scope x/\#[3]:=by
 unfold UL at h;rw[aiD,afU,decide_eq_true_eq,decide_eq_true_eq]at h;rcases h with h|h
 .exact⟨.inl h,.inr h⟩
 .exact⟨.inr h.1,.inl h.2⟩
def O3(N:alq)(O:alp)(a:Scope)(fn:Str->Bool)(e:agR):Option Nat:=(wB e).bind fun x=>(Ru N x).bind fun i=>if i∉O/\UL a fn x=U then Z i else L
def Gi(N:alq)(O:alp)(a:Scope)(fn:Str->Bool):List agR->Option (alp)
 |[]=>Z []
 |e::r=>(O3 N O a fn e).bind fun i=>(Gi N O a fn r).map (i::·)
def yU(N:alq)(O:alp)(a:Scope)(fn:Str->Bool):agR->Option TgD
 |.Name x p=>(O3 N O a fn<|.Name x p).map .one
 |.Tuple es _ _=>(Gi N O a fn es).map .tup
 |_=>L
def acA:agR->alq
 |.Name x _=>[x]
 |.Tuple es _ _=>es.filterMap wB
 |_=>[]
def Be(t:Tb)(b:Scope)(N:alq)(O:alp)(f:agR->Option FE)(e:Scope->alq->(agR->Option FE)×(agR->Option FT))(elt tg it:agR)(ifs:List agR)(scope:Scope)(pos:Pos):Option FE:=
 let a:=((t.k.find? fun q=>decide (q.1=pos)).map (·.2)).getD (acA tg)
  let ix:=a.map fun y=>if(acA tg).contains y=U then L else Ru N y
  if zZ b N a ix scope=U/\a.Nodup/\zM it=η/\(ix.all fun o=>match o with|some k=>decide (k∉O)|none=>U)=U then
   (yU a [] (S0 scope b) (fun _=>η) tg).bind fun d=>(Z9 t b N O f tg it).bind fun ι=>(match ifs with
    |[]=>Z nL
    |[c]=>(e (S0 scope b) a).2 c
    |_=>L).bind fun τ=>((e (S0 scope b) a).1 elt).map fun ε=>bW ix ι d τ ε
  else L
noncomputable def adk(t:Tb)(d:Scope)(N:alq)(O:alp)(g:agR->Option FE)(j:agR->Option FT)(h:Scope->alq->(agR->Option FE)×(agR->Option FT))(e:agR):Option FE:=match e with
  |.Constant (.int i) _ _=>Z<|vC<|.int i
  |.Constant (.str x) _ _=>Z<|vC<|.str x
  |.Constant (.bool b) _ _=>Z<|vC<|.bl b
  |.Constant .none _ _=>Z<|vC .non
  |.Name x _=>match Ru N x with
   |some i=>if i∉O/\Xs d x=U then Z (ak i)else L
   |none=>if d.names.lookup x=Z .globalImplicit then(lk x t.c).map vC else L
  |.ListComp elt [⟨tg,it,ifs,0⟩] scope pos=>Be t d N O g h elt tg it ifs scope pos
  |.IfExp c a b _=>(j c).bind fun τ=>(g a).bind fun φ=>(g b).map fun ψ=>Ww τ φ ψ
  |_=>(fst t.x fun f=>f d N O e).bind fun q=>(Sw g q.1).map q.2
def Vy:agR->Bool
 |.Name ..=>U
 |.Call ..=>U
 |.Subscript ..=>U
 |.Attribute ..=>U
 |_=>η
theorem Oy(h:Vy e=U)(env:Env):∀a,isTrue e env a=(do let v <-a;aky e.pos;holding [v] (truthy v)):=by
 cases e<;>first|exact fun _=>rfl|nofun
noncomputable def XN(f:agR->Option FT)(q:FT->FT->FT):List agR->Option FT
 |[]=>L
 |[a]=>f a
 |a::b::r=>(f a).bind fun τ=>(XN f q<|b::r).map<|q τ
def La(t:Tb)(d:Scope)(N:alq)(O:alp)(c:agR->Option FE)(b:agR->Option FT)(e:agR):Option FT:=match e with
 |.UnaryOp .Not a _=>(b a).map ym
 |.BoolOp .And l _=>XN b jc l
 |.BoolOp .Or l _=>XN b Bo l
 |_=>match fst t.q fun f=>f d N O e with
  |some q=>(Sw c q.1).map q.2
  |none=>if Vy e=U then(c e).map rq else L
def iQ(t:Tb):Nat->Scope->alq->alp->(agR->Option FE)×(agR->Option FT)
 |0,_,_,_=>(fun _=>L,fun _=>L)
 |n+1,sc,N,O=>(adk t sc N O (iQ t n sc N O).1 (iQ t n sc N O).2 fun a b=>iQ t n a b [],La t sc N O (iQ t n sc N O).1 (iQ t n sc N O).2)
section
variable{X:Cx}{W:Wd}{O:alp}{t:Tb}
theorem pQ(a:∀e φ,f e=Z φ->JE X e (tD W O φ)):∀(es:List agR)(l:List FE),Sw f es=Z l->Js X W O es l:=bb (fun _ h=>by nofun;exact af2) fun e es i _ h=>by
  let⟨φ,h1,h⟩:=dO.mp h
  obtain⟨l,h2,rfl⟩:=iN.mp h;exact⟨a e φ h1,i l h2⟩
theorem HC(c:W.K=X.K)(d:TbOk X W t)(a:∀e φ,fx e=Z φ->JE X e (tD W O φ))(h:Z9 t X.env.scope X.N O fx tg it=Z ι):JI X tg it<|iD W O ι:=by
 unfold Z9 at h;cbv
 .rename_i q e;let⟨f,h1,h2⟩:=l9 e
  obtain⟨l,b,rfl⟩:=iN.mp h;exact d.i f h1 O tg it _ _ l h2<|pQ a _ _ b
 .obtain⟨ε,h1,rfl⟩:=iN.mp h;exact Q7 X.K (a _ _ h1) rfl c
theorem B7(a:X.N.Nodup)(h:O3 X.N O X.env.scope X.fn e=Z i):JG X e (gD W O<|.one i)/\∃x p,e=.Name x p:=by
 let⟨x,h0,h⟩:=dO.mp h
 let⟨i,h1,h⟩:=dO.mp h
 cbv
 .rename_i hl;nofun;unfold wB at h0;split at h0
  .cases h0;exact⟨RU hl.1 a (jA h1) (BC hl.2).1 (BC hl.2).2,_,_,rfl⟩
  .cases h0
 .nofun
theorem Cd(d:X.N.Nodup):∀{es:List agR}{is:alp},Gi X.N O X.env.scope X.fn es=Z is->JGs X es (YG W O is)/\(agK es X.env).length=es.length/\es.length=is.length/\(agK es X.env).findIdx? (·.1)=L:=@bb _ _ (@fun _ h=>by nofun;exact⟨MP,rfl,rfl,rfl⟩) fun e r j=>@fun _ h=>by
  let⟨i,h1,h⟩:=dO.mp h
  obtain⟨f,h2,rfl⟩:=iN.mp h;let⟨z,a,b,c⟩:=j h2
  obtain⟨g,x,p,rfl⟩:=B7 d h1;refine⟨Ih g z rfl,by show(agK r X.env).length+1=_;rw[a];rfl,by rw[afW,afW,b],?_⟩;show ajQ (·.1) ((η,_)::agK r X.env)=L;rw[List.findIdx?_cons,c];rfl
theorem xl(e:W.K=X.K)(f:X.calm=U)(d:X.N.Nodup)(h:yU X.N O X.env.scope X.fn tg=Z q):JG X tg<|gD W O q:=by
 unfold yU at h;cbv
 .obtain⟨i,h1,rfl⟩:=iN.mp h;exact(B7 d h1).1
 .obtain⟨is,h1,rfl⟩:=iN.mp h;obtain⟨z,a,b,c⟩:=Cd d h1;exact Us X.K z rfl f (a.trans b) c rfl e
 .nofun
theorem K7(h:UL sc (fun _=>η) x=U):UL sc fn x=U:=by
 unfold UL at h⊢;rw[aju,Bool.or_false]at h;rw[h];rfl
theorem yH(h:O3 N O sc (fun _=>η) e=Z i):O3 N O sc fn e=Z i:=by
 unfold O3 at h⊢;obtain⟨x,a,h⟩:=dO.mp h;obtain⟨j,h1,h⟩:=dO.mp h;rw[a,ajV,h1,ajV];cbv
 .rename_i hq;rw[ali ⟨hq.1,K7 hq.2⟩];exact h
 .nofun
theorem vt{N:alq}{a:Scope}{fn:Str->Bool}{e:agR}{q:TgD}(h:yU N O a (fun _=>η) e=Z q):yU N O a fn e=Z q:=by
 have hs:∀{es:List agR}{is:alp},Gi N O a (fun _=>η) es=Z is->Gi N O a fn es=Z is:=fun{es}=>by
  induction es with
  |nil=>exact fun h=>h
  |cons e r b=>
   intro is h;let⟨i,h1,h⟩:=dO.mp h
   obtain⟨c,h2,rfl⟩:=iN.mp h;unfold Gi;rw[yH h1,b h2];rfl
 unfold yU at h⊢;cbv
 .obtain⟨i,h1,rfl⟩:=iN.mp h;rw[yH h1];rfl
 .obtain⟨is,h1,rfl⟩:=iN.mp h;rw[hs h1];rfl
 .nofun
structure CompOk(X:Cx)(W:Wd)(O:alp)(elt tg it:agR)(ifs:List agR)(scope:Scope)(N':alq)(ix:List (Option Nat))(ι:FA)(g:TgD)(τ:FT)(ε:FE):Prop where
 cs:zZ X.env.scope X.N N' ix scope=U
 i:JI X tg it<|iD W O ι
 g:∀b,JG (jp X N' scope b) tg<|gD W [] g
 t:∀b,JTs (jp X N' scope b) ifs<|ky W [] τ
 e:∀b,JE (jp X N' scope b) elt<|tD W [] ε
 o:∀j∈ix,∀k,j=Z k->k∉O
 s:zM it=η
theorem B0(d:W.K=X.K)(p:X.calm=U)(n:TbOk X W t)(m:∀e φ,fx e=Z φ->JE X e (tD W O φ))
  (f:∀N scope b,(∀e φ,(fy (jp X N scope b).env.scope N).1 e=Z φ->JE #[15] e (tD W [] φ))/\(∀e τ,(fy (jp X N scope b).env.scope N).2 e=Z τ->JT #[15] e (ky W [] τ)))
  (h:Be t X.env.scope X.N O fx fy elt tg it ifs scope pos=Z φ):∃a ix ι g τ ε,φ=bW ix ι g τ ε/\CompOk X W O elt tg it ifs scope a ix ι g τ ε:=by
 unfold Be at h;dsimp only at h;generalize((t.k.find? fun q=>decide (q.1=pos)).map (·.2)).getD (acA tg)=a at h;cbv
 .rename_i hq;obtain⟨o,h1,h⟩:=dO.mp h;let⟨ι,h2,h⟩:=dO.mp h
  let⟨τ,h3,h⟩:=dO.mp h
  obtain⟨ε,i,rfl⟩:=iN.mp h;refine⟨_,_,_,_,_,_,rfl,hq.1,HC d n m h2,fun b=>xl d p hq.2.1<|vt h1,fun b=>?_,fun b=>(f a scope b).1 _ _ i,(fun j l k e=>by
    have:=agz.mp hq.2.2.2 j l
    mright),hq.2.2.1⟩
  cases ifs with
  |nil=>cases h3;exact ND
  |cons c r=>
   cases r with
   |nil=>exact(fun h=>Mx h)<|(f a scope b).2 _ _ h3
   |cons _ _=>cases h3
 .nofun
theorem CompOk.n(a:X.calm=U){g:TgD}(C:CompOk X W O elt tg it ifs scope N' ix ι g τ ε):JE X (.ListComp elt [⟨tg,it,ifs,0⟩] scope pos)<|tN W O<|bW ix ι g τ ε:=
 Rr C.cs C.i C.g C.t C.e C.o rfl rfl rfl a (xr C.s _)
theorem SE(m:W.K=X.K)(g:X.calm=U)(k:TbOk X W t)(j:∀e φ,fx e=Z φ->JE X e (tD W O φ))(o:∀e τ,ft e=Z τ->JT X e (ky W O τ))
  (p:∀N scope b,(∀e φ,(fy (jp X N scope b).env.scope N).1 e=Z φ->JE #[15] e (tD W [] φ))/\(∀e τ,(fy (jp X N scope b).env.scope N).2 e=Z τ->JT #[15] e (ky W [] τ)))
  (e:agR) (φ:FE) (h:adk t X.env.scope X.N O fx ft fy e=Z φ):JE X e<|tD W O φ:=by
  unfold adk at h;cbv
  .nofun;exact YA
  .nofun;exact VO
  .nofun;exact aaw
  .nofun;exact U1
  .cbv
   .rename_i i h1;cbv
    .rename_i hc;nofun;let⟨a,b,c⟩:=Ax hc.2
     exact ZS i hc.1 (jA h1) a b c
    .nofun
   .cbv
    .rename_i hg;obtain⟨d,h1,rfl⟩:=iN.mp h;exact k.c _ (GX h1) O _ hg
    .nofun
  .refine Z62 (B0 m g k j p h) fun _ _ _ _ _ _ r0_ C=>?_;subst r0_;exact vp<|C.n g
  .let⟨τ,h0,h⟩:=dO.mp h
   let⟨φ1,h1,h⟩:=dO.mp h
   obtain⟨ψ,h2,rfl⟩:=iN.mp h;exact Wt (o _ _ h0) (j _ _ h1)<|j _ _ h2
  .let⟨q,h0,h⟩:=dO.mp h
   obtain⟨l,h1,rfl⟩:=iN.mp h;let⟨f,h2,h3⟩:=l9 h0
   exact k.x f h2 O e _ _ l h3<|pQ j _ _ h1
theorem Eu(c:∀e τ,f e=Z τ->JT X e (ky W O τ)):∀(l:List agR)(τ:FT),XN f jc l=Z τ->JW X (.BoolOp .And l pos) (ky W O τ)
 |[],_,h=>by nofun
 |[a],τ,h=>(fun d=>Nl d)<|c a τ h
 |a::b::r,_,h=>by
  let⟨τ,h1,h⟩:=dO.mp h
  obtain⟨υ,h2,rfl⟩:=iN.mp h;exact Te (c _ _ h1)<|Eu c (b::r) υ h2
theorem G1(c:∀e τ,f e=Z τ->JT X e (ky W O τ)):∀(l:List agR)(τ:FT),XN f Bo l=Z τ->JW X (.BoolOp .Or l pos) (ky W O τ)
 |[],_,h=>by nofun
 |[a],τ,h=>(fun d=>Tj d)<|c a τ h
 |a::b::r,_,h=>by
  let⟨τ,h1,h⟩:=dO.mp h
  obtain⟨υ,h2,rfl⟩:=iN.mp h;exact WQ (c _ _ h1)<|G1 c (b::r) υ h2
theorem RE(c:W.K=X.K)(d:TbOk X W t)(b:∀e φ,fx e=Z φ->JE X e (tD W O φ))(a:∀e τ,ft e=Z τ->JT X e (ky W O τ))(e:agR)(τ:FT)(h:La t X.env.scope X.N O fx ft e=Z τ):JT X e<|ky W O τ:=by
 unfold La at h;cbv
 .obtain⟨υ,h1,rfl⟩:=iN.mp h;exact Sz<|a _ _ h1
 .exact DZ (Eu a _ _ h)
 .exact DZ (G1 a _ _ h)
 .cbv
  .rename_i q e1;let⟨f,h2,h3⟩:=l9 e1
   obtain⟨l,h1,rfl⟩:=iN.mp h;exact d.q f h2 O e _ _ l h3<|pQ b _ _ h1
  .cbv
   .rename_i hb;obtain⟨φ,h1,rfl⟩:=iN.mp h;exact Jk X.K (b _ _ h1) (Oy hb _) rfl c
   .nofun
inductive Fam(X:Cx):Cx->Prop
 |re:Fam X X
 |bk {Yq0:Cx} (h:Fam X Yq0) (N:alq) (scope:Scope) (b:Bk):Fam X (jp Yq0 N scope b)
theorem Fam.eqs(h:Fam X Yq0):Yq0.K=X.K/\Yq0.mg=X.mg/\Yq0.prog=X.prog/\Yq0.w=X.w/\Yq0.base=X.base/\Yq0.A=X.A/\Yq0.calm=X.calm/\Yq0.env.code=X.env.code/\Yq0.env.qual=X.env.qual:=by
 induction h with
 |re=>exact⟨rfl,rfl,rfl,rfl,rfl,rfl,rfl,rfl,rfl⟩
 |bk _ N c b a=>exact a
theorem md(g:W.K=X.K)(i:X.calm=U)(hF:∀c,Fam X c->TbOk c W t):∀(n:Nat)(c:Cx)(d:Fam X c)(O:alp),(∀e φ,(iQ t n c.env.scope c.N O).1 e=Z φ->JE c e (tD W O φ))/\(∀e τ,(iQ t n c.env.scope c.N O).2 e=Z τ->JT c e (ky W O τ)):=bi (fun _ _ _=>⟨fun _ _ h=>(by nofun),fun _ _ h=>(by nofun)⟩) fun n k c d O=>by
  let⟨a,b⟩:=k c d O
  let⟨e1,_,_,_,_,e6,e7,_⟩:=d.eqs
  have f:W.K=c.K:=by rw[e1];exact g
  exact⟨SE f (by rw[e7];exact i) (hF c d) a b fun N scope j=>k (jp c N scope j) (.bk d N scope j) [],RE f (hF c d) a b⟩
end
section
theorem MB(hp:aiU #[1] X.A X.env X.xe)(hi:i∈O)(hj:j∈O)(T:i≠j)(hk:k∉O)(hg:JG X tg<|gD W O<|.one k)(hc:JT X c<|ky W O τ)(hr:JE X r<|tD W O ρ)(he:JE X e<|tD W O ε)
  (hNi:X.N[i]?=Z x) (hvi:qm X.env.scope x) (V:alz x) (hci:#[5]=η)
  (P:X.N[j]?=Z y) (S:qm X.env.scope y) (hdj:(y==("__debug__":Str))=η) (hcj:(y==("__classdict__":Str))=η) (hn:az e=U) (C:#[8]=U) (hcm:X.calm=U) (hW:W.K=X.K):
  JS X (.For tg #[20] [.If c [.Return (Z r) rp] [] ip,.Expr (.Call (.Attribute (.Name y p2) "append" apos) [e] [] cpos) ep] [] pos) (sD W Ob O O<|nA (gE<|ak i) (.one k)<|aW (gM τ (gY ρ) br)<|aZ j ε):=
 (KG hp (JQ X.K (jv i hNi hvi V hci) rfl) hg (Ey (QK hc (Au<|xg hr) G8)<|Au<|l5 (MV ahX ajD ajE pY (jv j P S hdj hcj) (eX he iM hn) rfl C (by mright) (by grind)) rfl) hcm fun _=>rfl).imp fun D' Y H hh=>cx hh fun as0 B own Uq0 I h=>by
  obtain⟨a,F⟩:=bD I.olen hi;obtain⟨b,hb⟩:=bD I.olen hj;refine Z24 (I.owns i a F) fun d o h1 h2 h3 h4=>?_;have hv:ak i Uq0=.ok d:=by unfold ak;rw[h1]
  have h0:ce W as0 B Ob O ((dY d).bind fun xs=>bm (.one k) (aW (gM τ (gY ρ) br)<|aZ j ε) xs Uq0) D':=by
   have e:nA (gE<|ak i) (.one k) (aW (gM τ (gY ρ) br)<|aZ j ε) Uq0=(dY d).bind fun xs=>bm (.one k) (aW (gM τ (gY ρ) br)<|aZ j ε) xs Uq0:=by unfold nA gE;rw[hv];rfl
   rw[<-e];exact h
  cases d with
  |lst ds=>
   show kT Y[i]? H _;rw[h2];obtain⟨xs,rfl,q⟩:=h4;refine .inl ⟨⟨xs,dF.of h3⟩,?_⟩;refine⟨fun n m Y H=>m=ds.length-n/\n<=ds.length/\∃Uq0,DI W.K as0 B O own Y Uq0 H/\Uq0[i]?=Z (Z<|.lst ds)/\ce W as0 B Ob O (bm (.one k) (aW (gM τ (gY ρ) br)<|aZ j ε) (ds.drop n) Uq0) D',⟨ds.length,by rfl,acr _,Uq0,I,h1,h0⟩,?_⟩;rintro n m σ3 M ⟨rfl,hn3,δ3,I3,e3,f3⟩;refine Z24 (I3.owns i a F) fun d3 o3 g1 g2 g3 g4=>?_;rw[e3]at g1;cases g1;obtain⟨l,rfl,Q⟩:=g4;by_cases u:n<ds.length
   .have hlt':n<l.length:=by rw[<-Q.len];exact u
    refine .inr ⟨⟨l,l[n],dF.of g3,by simp[hlt']⟩,fun g H'=>∃δ',DI W.K as0 B O own g δ' H'/\δ'[i]?=Z (Z<|.lst ds)/\ce W as0 B Ob O (bm (.one k) (aW (gM τ (gY ρ) br)<|aZ j ε) (ds.drop<|n+1) δ') D',fun g H' q_=>Z13 q_ fun δ' t e' f'=>⟨ds.length-(n+1),by omega,rfl,u,δ',t,e',f'⟩,fun v H4⟨eq4,y4⟩=>?_⟩;subst eq4;obtain⟨d,hd,dv⟩:=Q.got<|y4 l<|dF.of g3;have ed:ds.drop n=d::ds.drop (n+1):=by
     rw[aio u];rw[lE u]at hd;cases hd;rfl
    rw[ed]at f3;refine⟨as0,B,own,δ3,d,I3,dv,fun g t=>⟨as0,B,own,_,t,?_⟩⟩;have e1:(δ3.set k<|Z d)[i]?=Z (Z<|.lst ds):=by
     rw[aif fun(z:k=i)=>hk<|by rw[z];exact hi];exact e3
    have f4:ce W as0 B Ob O ((aW (gM τ (gY ρ) br) (aZ j ε)<|δ3.set k<|Z d).bind fun f=>match f with
     |.nx δ2=>bm (.one k) (aW (gM τ (gY ρ) br)<|aZ j ε) (ds.drop<|n+1) δ2
     |.ct δ2=>bm (.one k) (aW (gM τ (gY ρ) br)<|aZ j ε) (ds.drop<|n+1) δ2
     |.bk δ2=>.ok<|.nx δ2
     |.rt d=>.ok<|.rt d
     |.rn d=>.ok (.rn d)) D':=f3
    clear f3;generalize δ3.set k (Z d)=δ1 at t e1 f4⊢;have e5:aW (gM τ (gY ρ) br) (aZ j ε) δ1=(τ δ1).bind fun b=>if b=U then(ρ δ1).bind fun d=>.ok (.rt d)else aZ j ε δ1:=by
     unfold aW gM;cases τ δ1 with
     |ok b=>
      cases b with
      |true=>show(gY ρ δ1).bind _=(ρ δ1).bind _;unfold gY;cases ρ δ1<;>rfl
      |false=>rfl
     |er x=>rfl
     |no=>rfl
    rw[e5,bind_assoc]at f4;refine lC t f4 fun b H' s p=>?_;cases b with
    |true=>
     have p:ce W as0 B Ob O (((ρ δ1).bind fun d=>R.ok<|Fl.rt d).bind _) D':=p;rw[bind_assoc]at p;exact⟨as0,B,own,δ1,t.mono s,bI (t.mono s) p fun d v G E dv h'=>h' v G ((t.mono s).same.trans E)<|dv.mono<|fY fun a F=>afX _ F⟩
    |false=>
     have J:=t.mono s;refine Z24 (J.owns j b hb) fun d6 o6 k1 k2 k3 k4=>?_;have e0:∀(D:Ends),vZ (WF X.K "list" lS (uT j)<|oA (tD W O ε) zP) D g H'=kT g[j]? H' (fun x H1=>QW X.K "list" x H1/\oA (tD W O ε) zP g H1 fun vs G=>lS x vs G fun _ M=>D.nx g M):=fun _=>rfl;have p:ce W as0 B Ob O ((aZ j ε δ1).bind _) D':=p;show vZ (WF X.K "list" lS (uT j)<|oA (tD W O ε) zP) _ g H';rw[e0,k2];cases d6 with
     |lst es=>
      obtain⟨ys,rfl,q6⟩:=k4;rw[show aZ j ε δ1=(ε δ1).bind fun d=>if es.length<1000000 then .ok (.nx<|δ1.set j<|Z<|.lst<|es++[d])else .no by unfold aZ;rw[k1],bind_assoc]at p;refine⟨.inl ⟨rfl,ys,dF.of k3⟩,as0,B,own,δ1,J,bI J p fun y v G E d2 hq=>?_⟩;split at hq
      .refine⟨b,ys,v,rfl,rfl,E _ _ k3,?_,?_⟩
       .have:=cR;rw[<-q6.len];lia
       .exact⟨δ1.set j<|Z<|.lst<|es++[y],(J.mono E).mutate hb ⟨ys++[v],rfl,(q6.mono<|aM E).append<|aE.cons d2 aE.nil⟩,by rw[aif fun z=>T z.symm];exact e1,hq⟩
      .exact hq.elim
     |_=>first|exact k4.elim|(rw[show aZ j ε δ1=.no by unfold aZ;rw[k1]]at p;exact p.elim)
   .have e:n=ds.length:=⊥
    subst e;rw[ajU]at f3;exact .inl ⟨⟨l,dF.of g3,by rw[Q.len];exact nE _⟩,f3 own σ3 M I3⟩
  |_=>first|exact h4.elim|exact h0.elim
end
def F7:agR->Bool
 |.ListComp ..=>U
 |.SetComp ..=>U
 |.DictComp ..=>U
 |_=>η
theorem rP(h:F7 e=η)(tg:Option agR)(l:Nat)(env:Env):ahj e tg l env=pure η:=by
 cases e<;>first|rfl|nofun
noncomputable def afk(a:Scope)(x:Str)(p pos:Pos)(scope:Scope):Bool:=(if a.kind.isAnnotationScope then ScopeKind.function else a.kind)==.function&&a.names.lookup x==Z .local&&p.line==pos.line&&!(scope.names.any fun(n,k)=>n==x&&(k==.local||k==.cell))
theorem BR:ahj (.ListComp elt gs scope pos) (Z<|.Name x p) l env=pure (afk env.scope x p pos scope):=rfl
def dB:Nat:=30
def VH(a:Scope)(N:alq)(O:alp)(x:Str):Option Nat:=(Ru N x).bind fun i=>if i∈O/\Xs a x=U then Z i else L
theorem xu(h:VH sc N O x=Z i):N[i]?=Z x/\i∈O/\qm sc x/\alz x/\#[5]=η:=by
 mstop
 obtain⟨j,h1,h⟩:=h;cbv
 .rename_i hq;nofun;exact⟨jA h1,hq.1,Ax hq.2⟩
 .nofun
theorem Eh(h:wB e=Z x):∃p,e=.Name x p:=by
 unfold wB at h;cbv
 .mright
 .nofun
noncomputable def cM:agR->Option (agR×Str×List agR)
 |.Call (.Attribute a f apos) es [] cpos=>if#[8]=U then Z (a,f,es)else L
 |_=>L
theorem zz(h:cM e=Z q):∃apos cpos,e=.Call (.Attribute q.1 q.2.1 apos) q.2.2 [] cpos/\#[8]=U:=by
 unfold cM at h;cbv
 .grind
 .nofun
def xE:ah9->Option agR
 |.Expr e _=>Z e
 |_=>L
theorem Ht(h:xE s=Z e):∃pos,s=.Expr e pos:=by
 unfold xE at h;cbv
 .mright
 .nofun
noncomputable def aS:ah9->Option (agR×agR)
 |.Assign [t] e _=>Z (t,e)
 |_=>L
theorem O7(h:aS s=Z q):∃pos,s=.Assign [q.1] q.2 pos:=by
 unfold aS at h;cbv
 .nofun;exact⟨_,rfl⟩
 .nofun
def dV:ah9->Option agR
 |.Return o _=>o
 |_=>L
theorem d0(h:dV s=Z e):∃p,s=.Return (Z e) p:=by
 unfold dV at h;cbv
 .mright
 .nofun
def eb:ah9->Option (agR×agR)
 |.If c b e _=>match b,e with
  |[s],[]=>(dV s).map fun r=>(c,r)
  |_,_=>L
 |_=>L
theorem c0(h:eb s=Z q):∃r i,s=.If q.1 [.Return (Z q.2) r] [] i:=by
 unfold eb at h;cbv
 .cbv
  .obtain⟨r,i,rfl⟩:=iN.mp h;obtain⟨_,rfl⟩:=d0 i;exact⟨_,_,rfl⟩
  .nofun
 .nofun
def pe(t:Tb)(b:Scope)(fn:Str->Bool)(N:alq)(O:alp)(tg it:agR)(d:List ah9):Option FS:=match d with
 |[s,u]=>(wB it).bind fun x=>(eb s).bind fun v=>(xE u).bind fun z=>(cM z).bind fun m=>(wB m.1).bind fun y=>match m.2.2 with
  |[e]=>(O3 N O b fn tg).bind fun k=>(VH b N O x).bind fun i=>(VH b N O y).bind fun j=>if m.2.1="append"/\i≠j/\az e=U then((iQ t dB b N O).2 v.1).bind fun τ=>((iQ t dB b N O).1 v.2).bind fun f=>((iQ t dB b N O).1 e).map fun ε=>nA (gE<|ak i) (.one k) (aW (gM τ (gY f) br)<|aZ j ε)else L
  |_=>L
 |_=>L
def dg(t:Tb)(d:Scope)(fn:Str->Bool)(N:alq)(j:alp->List ah9->Option (FS×alp))(O:alp)(s:ah9):Option<|FS×alp:=match aS s with
 |some q=>(wB q.1).bind fun x=>(O3 N O d fn q.1).bind fun i=>match q.2 with
  |.ListComp elt [⟨tg,it,ifs,0⟩] scope pos=>(Be t d N O (iQ t dB d N O).1 (fun h k=>iQ t dB h k []) elt tg it ifs scope pos).map fun φ=>if t.m.contains x=U then(xx i φ,i::O)else(b8 i φ,O)
  |e=>if F7 e=U then L else match(if t.m.contains x=U then fst t.n fun f=>f d N O e else L)with
   |some q=>(Sw (iQ t dB d N O).1 q.1).map fun l=>(xx i<|q.2 l,i::O)
   |none=>((iQ t dB d N O).1 e).map fun ε=>(b8 i ε,O)
 |none=>match s with
 |.Return (Z e) _=>if t.m.contains "return"=U then (match e with
   |.ListComp elt [⟨tg,it,ifs,0⟩] scope pos=>(Be t d N O (iQ t dB d N O).1 (fun h k=>iQ t dB h k []) elt tg it ifs scope pos).map fun φ=>(qU φ,O)
   |_=>L)else((iQ t dB d N O).1 e).map fun ε=>(gY ε,O)
 |.If c a b _=>((iQ t dB d N O).2 c).bind fun τ=>(j O a).bind fun p=>(j O b).bind fun q=>if p.2=O/\q.2=O then Z (gM τ p.1 q.1,O)else L
 |.While c body [] _=>((iQ t dB d N O).2 c).bind fun τ=>(j O body).bind fun p=>if p.2=O then Z (fj τ p.1 t.w,O)else L
 |.Raise ..=>Z (sNo,O)
 |.For tg it body [] _=>match pe t d fn N O tg it body with
  |some φ=>Z (φ,O)
  |none=>(yU N O d fn tg).bind fun g=>if zM it=U then L else
   (Z9 t d N O (iQ t dB d N O).1 tg it).bind fun ι=>(j O body).bind fun p=>if p.2.filter (fun i=>decide (i∈O))=O then Z (nA ι g p.1,O)else L
 |_=>L
def abR(t:Tb)(a:Scope)(fn:Str->Bool)(N:alq)(b:alp->List ah9->Option (FS×alp))(O:alp)(s:ah9):Option<|FS×alp:=match dg t a fn N b O s with
 |some q=>Z q
 |none=>(fst t.s fun f=>f a N O s).bind fun q=>(Sw (iQ t dB a N O).1 q.1).map fun l=>(q.2 l,O)
def Z8(t:Tb)(N:alq)(O:alp):alp:=O.filter fun i=>match N[i]? with
 |some x=>t.d.contains x
 |none=>η
def UO(t:Tb)(N:alq)(f:alp->ah9->Option (FS×alp)):alp->List ah9->Option (FS×alp)
 |O,[]=>Z (br,O)
 |O,[s]=>match f O s with
  |some p=>Z p
  |none=>if(Z8 t N O).Nodup then(f [] s).map fun p=>((Z8 t N O).foldr UM p.1,p.2)else L
 |O,s::a::r=>match f O s with
  |some p=>(UO t N f p.2<|a::r).map fun q=>(aW p.1 q.1,q.2)
  |none=>if(Z8 t N O).Nodup then(f [] s).bind fun p=>(UO t N f p.2<|a::r).map fun q=>((Z8 t N O).foldr UM<|aW p.1 q.1,q.2)else L
def abT(t:Tb)(a:Scope)(fn:Str->Bool)(N:alq):Nat->alp->List ah9->Option (FS×alp)
 |0=>fun _ _=>L
 |n+1=>UO t N<|abR t a fn N<|abT t a fn N n
section
theorem Dh(h:X.N.Nodup)(c:Loc X.env.scope x)(d:X.fn x=U\/X.env.scope.names.lookup x=Z .local)(f:X.calm=U)(b:X.N[i]?=Z x)(a:i∉O)(C:CompOk X W O elt tg it ifs scope N' ix ι g τ ε):
  JS X (.Assign [.Name x p] (.ListComp elt [⟨tg,it,ifs,0⟩] scope pos) spos) (sD W Ob O (i::O)<|xx i<|bW ix ι g τ ε)/\JS X (.Assign [.Name x p] (.ListComp elt [⟨tg,it,ifs,0⟩] scope pos) spos) (sD W Ob O O<|b8 i<|bW ix ι g τ ε):=by
 cases hsw:afk X.env.scope x p pos scope with
 |true=>
  have j:=Os (spos:=spos) h c C.cs C.i C.g C.t C.e C.o rfl b rfl rfl f (BR.trans<|by rw[hsw]) d (xr C.s _);exact⟨Nq a j,Mc a j⟩
 |false=>exact⟨HW a h c (C.n f) b (BR.trans<|by rw[hsw]) d,HV a h c (vp<|C.n f) b (BR.trans<|by rw[hsw]) d⟩
theorem c5(v:W.K=X.K)(hF:∀B,Fam X B->TbOk B W t)(y:X.N.Nodup)(Q:aiU #[1] X.A X.env X.xe)(m:X.calm=U)(h:pe t X.env.scope X.fn X.N O tg it body=Z φ):JS X (.For tg it body [] p)<|sD W Ob O O φ:=by
 have d:=md v m hF dB X .re O;unfold pe at h;cbv
 .mstop;obtain⟨x,H,h⟩:=h;obtain⟨_,rfl⟩:=Eh H
  mstop;obtain⟨_,H,h⟩:=h;obtain⟨_,_,rfl⟩:=c0 H
  mstop;obtain⟨_,H,h⟩:=h;obtain⟨_,rfl⟩:=Ht H
  mstop;obtain⟨_,H,h⟩:=h;obtain⟨_,_,rfl,hn⟩:=zz H
  mstop;obtain⟨y,H,h⟩:=h;obtain⟨_,H⟩:=Eh H
  rw[H];cbv
  .rename_i z;rw[z];mstop;obtain⟨k,h1,h⟩:=h;mstop;obtain⟨i,h2,h⟩:=h;mstop;obtain⟨j,o,h⟩:=h;cbv
   .rename_i hq;obtain⟨S,J,z⟩:=hq;rw[S];obtain⟨τ,E,c⟩:=dO.mp h;obtain⟨ρ,M,c⟩:=dO.mp c;obtain⟨ε,P,rfl⟩:=iN.mp c;refine Z05 (xu h2) fun a1 a2 a3 a4 a5=>?_;refine Z05 (xu o) fun b1 b2 T b4 b5=>?_;have V:k∉O:=by
      obtain⟨x,_,h1⟩:=dO.mp h1;obtain⟨i,_,h1⟩:=dO.mp h1
      lia
    exact MB Q a2 b2 J V (B7 ‹_› h1).1 (d.2 _ _ E) (d.1 _ _ M) (d.1 _ _ P) a1 a3 a4 a5 b1 T b4 b5 z hn m v
   .nofun
  .nofun
 .nofun
theorem Q6(v:W.K=X.K)(hF:∀B,Fam X B->TbOk B W t)(y:X.N.Nodup)(Q:aiU #[1] X.A X.env X.xe)(m:X.calm=U)
  (F:∀O sts q,fb O sts=Z q->∀Ob,JB X sts<|sD W Ob O q.2 q.1) (O:alp) (s:ah9) (q:FS×alp) (h:dg t X.env.scope X.fn X.N fb O s=Z q) (Ob:alp):JS X s<|sD W Ob O q.2 q.1:=by
 have d:=md v m hF dB X .re O;have R:=fun N scope b=>md v m hF dB #[15] (.bk .re N scope b) [];have G:=hF X .re;unfold dg at h;cbv
 .rename_i a c;obtain⟨_,e⟩:=a;obtain⟨_,rfl⟩:=O7 c;mstop;obtain⟨x,H,h⟩:=h;obtain⟨p,rfl⟩:=Eh H;dsimp only at h⊢;let⟨i,h1,h⟩:=dO.mp h
  let⟨x,h0,h1⟩:=dO.mp h1
  cases h0;let⟨i,h2,h1⟩:=dO.mp h1
  split at h1
  .rename_i hq;cases h1;let⟨z,hf⟩:=BC hq.2
   cbv
   .let⟨φ,o,h⟩:=iN.mp h
    refine Z62 (B0 v m G d.1 R o) fun _ _ _ _ _ _ r0_ C=>?_;subst r0_;cbv
    .nofun;exact(Dh y z hf m (jA h2) hq.1 C).1
    .nofun;exact(Dh y z hf m (jA h2) hq.1 C).2
   .cbv
    .nofun
    .rename_i u;have u:=ahM.mpr u;cbv
     .rename_i r e;split at e
      .let⟨f,E,M⟩:=l9 e
       obtain⟨l,P,rfl⟩:=iN.mp h;exact HW hq.1 y z (G.n f E O _ _ _ l M<|pQ d.1 _ _ P) (jA h2) (rP u _ _ _) hf
      .cases e
     .obtain⟨ε,E,rfl⟩:=iN.mp h;exact HV hq.1 y z (d.1 _ _ E) (jA h2) (rP u _ _ _) hf
  .cases h1
 cbv
 .cbv
  .cbv
   .obtain⟨φ,o,rfl⟩:=iN.mp h;refine Z62 (B0 v m G d.1 R o) fun _ _ _ _ _ _ r0_ C=>?_;subst r0_;exact OK<|C.n m
   .nofun
  .obtain⟨ε,h2,rfl⟩:=iN.mp h;exact RF<|d.1 _ _ h2
 .let⟨τ,h1,h⟩:=dO.mp h
  let⟨p,h2,h⟩:=dO.mp h
  let⟨r,o,h⟩:=dO.mp h
  cbv
  .rename_i hq;nofun;have a:=F _ _ _ h2 Ob;have b:=F _ _ _ o Ob;rw[hq.1]at a;rw[hq.2]at b;exact XQ (d.2 _ _ h1) a b
  .nofun
 .let⟨τ,h1,h⟩:=dO.mp h
  let⟨p,h2,h⟩:=dO.mp h
  cbv
  .rename_i hq;nofun;have b:=F _ _ _ h2 O;rw[hq]at b;exact IV t.w Q (d.2 _ _ h1) b
  .nofun
 .nofun;exact(⟨fun aa s Y H D I q=>let⟨_,_,_,_,_,h⟩:=q;h.elim⟩)
 .cbv
  .rename_i z;nofun;exact c5 v hF y Q m z
  .let⟨g,h1,h⟩:=dO.mp h
   cbv
   .nofun
   .rename_i hs;let⟨ι,h2,h⟩:=dO.mp h
    let⟨p,o,h⟩:=dO.mp h
    cbv
    .rename_i hp2;nofun;have b:=MO (F _ _ _ o O) hp2;exact T8 Q (HC v G d.1 h2) (xl v m y h1) b m<|xr (ahM.mpr hs) _
    .nofun
 .nofun
theorem RY(b:W.K=X.K)(hF:∀a,Fam X a->TbOk a W t)(i:X.N.Nodup)(g:aiU #[1] X.A X.env X.xe)(c:X.calm=U)
  (d:∀O sts q,fb O sts=Z q->∀Ob,JB X sts<|sD W Ob O q.2 q.1) (O:alp) (s:ah9) (q:FS×alp) (h:abR t X.env.scope X.fn X.N fb O s=Z q) (Ob:alp):JS X s<|sD W Ob O q.2 q.1:=by
 unfold abR at h;cbv
 .rename_i e;nofun;exact Q6 b hF i g c d O s _ e Ob
 .obtain⟨r,h1,h⟩:=dO.mp h;obtain⟨l,h2,rfl⟩:=iN.mp h;let⟨f,h3,h4⟩:=l9 h1
  exact(hF X .re).s f h3 Ob O s _ _ l h4<|pQ (md b c hF dB X .re O).1 _ _ h2
theorem AF(h:JB X sts<|sD W Ob [] O' φ):∀(ds O:alp),ds.Nodup->(∀i∈ds,i∈O)->JB X sts (sD W Ob O O'<|ds.foldr UM φ):=bb (fun O _ _=>TN h ∅) fun i r m O nd hm=>by
  rw[agc]at nd;exact ZQ (m (O.filter fun k=>(k≠i)) nd.2 fun j a=>agb.mpr ⟨hm j<|mK _ a,alm<|(fun e=>nd.1<|e▸a)⟩) (hm i agl) rfl
theorem Ay(b:∀O s q,f O s=Z q->∀Ob,JS X s<|sD W Ob O q.2 q.1):∀(sts:List ah9)(O:alp)(q:FS×alp),UO t X.N f O sts=Z q->∀Ob,JB X sts (sD W Ob O q.2 q.1)
 |[],O,q,h,Ob=>by nofun;exact QY
 |[s],O,q,h,Ob=>by
  unfold UO at h;cbv
  .rename_i e;nofun;exact Kv<|b O s _ e Ob
  .cbv
   .rename_i nd;obtain⟨p,h1,rfl⟩:=iN.mp h;exact AF (Kv<|b [] s p h1 Ob) _ O nd fun i c=>(agb.mp c).1
   .nofun
 |s::a::r,O,q,h,Ob=>by
  unfold UO at h;cbv
  .rename_i p e;obtain⟨u,h2,rfl⟩:=iN.mp h;exact Ez (b O s p e Ob)<|Ay b (a::r) p.2 u h2 Ob
  .cbv
   .rename_i nd;let⟨p,h1,h⟩:=dO.mp h
    obtain⟨u,h2,rfl⟩:=iN.mp h;exact AF (Ez (b [] s p h1 Ob)<|Ay b (a::r) p.2 u h2 Ob) _ O nd fun i c=>(agb.mp c).1
   .nofun
theorem Bi(b:W.K=X.K)(hF:∀a,Fam X a->TbOk a W t)(e:X.N.Nodup)(c:aiU #[1] X.A X.env X.xe)(d:X.calm=U):∀(n:Nat)(O:alp)(sts:List ah9)(q:FS×alp),abT t X.env.scope X.fn X.N n O sts=Z q->∀Ob,JB X sts (sD W Ob O q.2 q.1):=bi (fun _ _ _ h _=>by nofun) fun n i O sts q h Ob=>Ay (fun O s q h Ob=>RY b hF e c d (i) O s q h Ob) sts O q h Ob
end
structure FY(Yq0:Cx)(P:ahb)(w:agN)(K:aT)(mg:alu)(base:aij)(k:Nat):Prop where
 eK:Yq0.K=K
 eM:Yq0.mg=mg
 eP:Yq0.prog=P
 eW:Yq0.w=w
 eB:Yq0.base=base
 hr:Room k Yq0.A
 cm:Yq0.calm=U/\∃c P q,Yq0.env.code=.ref c/\Yq0.env.qual=q++".<locals>."/\aiX K c P=U/\∀H,UV K H->H P=Z (.tbl<|q++".<locals>."++"<lambda>")
noncomputable def Ab(a:Scope)(x:Str):Bool:=decide (a.names.lookup x=Z .globalImplicit)&&!(x==("__debug__":Str))
theorem b7(h:Ab X.env.scope x=U):Gl X x/\alz x:=by
 unfold Ab at h;rw[afU,ahL,decide_eq_true_eq]at h;exact h
def aL:List FE->FA
 |[]=>aA
 |φ::l=>aj φ<|aL l
theorem vg:∀{es:List agR}{l:List FE},Js X W O es l->es.all az=U->JA X es (qy W O<|aL l)
 |[],[],_,_=>Kp
 |e::es,φ::l,h,hn=>by
  rw[agJ,afU]at hn;exact DG h.1 (vg h.2 hn.2) hn.1
 |[],_::_,h,_=>h.elim
 |_::_,[],h,_=>h.elim
noncomputable def cN:agR->Option (Str×List agR)
 |.Call (.Name x _) es [] _=>Z (x,es)
 |_=>L
theorem qQ(h:cN e=Z q):∃p pos,e=.Call (.Name q.1 p) q.2 [] pos:=by
 unfold cN at h;cbv
 .nofun;exact⟨_,_,rfl⟩
 .nofun
def fN(x:Str)(n:Nat->Bool)(c:List FE->FE):Fm:=fun a _ _ e=>(cN e).bind fun q=>if q.1=x/\Ab a x=U/\q.2.all az=U/\n q.2.length=U then Z (q.2,c)else L
theorem Kz(h:fN x n c sc N O e=Z (es,b)):∃p pos,e=.Call (.Name x p) es [] pos/\Ab sc x=U/\es.all az=U/\n es.length=U/\b=c:=by
 let⟨q,h1,h⟩:=dO.mp h
 cbv
 .obtain⟨p,pos,rfl⟩:=qQ h1;mright
 .nofun
def nT(x:Str)(F:aly->R D):Fm:=fN x (fun _=>U) fun l=>aD F<|aL l
structure Df where
 x:Str
 g:alq
 i:Nat
 N:alq
 p:Nat
 d:Nat
 m:alq:=[]
 k:List<|Pos×alq:=[]
 e:alp:=[]
 h:alp:=[]
 w:Nat:=1000
noncomputable def Df.ps(q:Df):alq:=q.N.take q.p
inductive Mr where
 |pl (φ:FS)
 |rc (φ:(aly->R D)->FS) (Zq0:Nat->aly->R D) (n:Nat)
 |ex (F:aly->R D)
 |nw (φ:FS)
def Mr.F(q:Df):Mr->(aly->R D)
 |.pl φ=>zm φ q.N q.ps
 |.rc _ Zq0 n=>Zq0 n
 |.ex F=>F
 |.nw φ=>zG φ q.N q.ps
def Mr.dp(q:Df):Mr->Nat
 |.rc _ _ n=>q.d+n
 |_=>q.d+1
noncomputable def UR(N ps:alq)(a:Scope):Bool:=decide (a.kind=.function)&&!a.isCoroutine&&!a.isGenerator&&decide N.Nodup&&decide (N.take ps.length=ps)&&ps.all (fun x=>decide (a.names.lookup x=Z .local)||decide (a.names.lookup x=Z .cell))&&a.names.all (fun y=>decide (y.2≠.free))
theorem HN(h:UR N ps sc=U):FnScope N ps sc:=by
 unfold UR at h;simp only[afU,ahL,decide_eq_true_eq,agz,aiD]at h;obtain⟨⟨⟨⟨⟨⟨a,b⟩,c⟩,d⟩,e⟩,f⟩,g⟩:=h;exact⟨a,b,c,d,e,f,g⟩
def Ci:Fs:=fun a N O s=>match s with
 |.Return (Z<|.Name x _) _=>(Ru N x).bind fun i=>if i∈O/\Xs a x=U then Z ([],fun _=>qU<|ak i)else L
 |_=>L
section
abbrev Xf:=List<|Nat×(Str->(aly->R D)->Fm)
variable(dc:Nat->ah9)(B:Tb)(ext:List Fm)(xf:Xf)
noncomputable def tbl(acc b:List<|Nat×Fm)(q:Df)(self:List Fm)(sf:List Fs):Tb:={B with x:=q.e.filterMap (fun i=>ext[i]?)++(self++(B.x++(acc.filter fun a=>decide (a.1<=q.d)).map (·.2))),n:=B.n++(b.filter fun a=>decide (a.1<=q.d)).map (·.2),s:=sf++B.s,m:=q.m,k:=q.k,w:=q.w}
def iP(t:Tb)(q:Df):Option FS:=(abT t (aQ<|dc q.i) (fun _=>U) q.N 12 []<|dM<|dc q.i).map (·.1)
def MI(q:Df)(m:Mr)(acc:List<|Nat×Fm):List<|Nat×Fm:=(if q.x∈q.g then(q.h.filterMap fun i=>xf[i]?).map fun h=>(m.dp q+h.1,h.2 q.x<|m.F q)else[])++(q.g.map (fun x=>(m.dp q,nT x<|m.F q))++acc)
def yC(q:Df)(m:Mr)(a:List<|Nat×Fm):List<|Nat×Fm:=match m with
 |.nw φ=>if q.x∈q.g then(q.d+1,nT q.x<|zG φ q.N q.ps)::a else a
 |_=>a
def JY(P:ahb)(w:agN)(K:aT)(mg:alu)(base:aij)(a:Nat×Fm):Prop:=∀b k,FY b P w K mg base k->a.1<=k->wT b ⟨K,mg,E0⟩ a.2
def qY(P:ahb)(w:agN)(K:aT)(mg:alu)(base:aij)(a:Nat×Fm):Prop:=∀b k,FY b P w K mg base k->a.1<=k->fv b ⟨K,mg,E0⟩ a.2
def Sy(q:Df)(acc b:List<|Nat×Fm):Mr->Prop
 |.pl φ=>iP dc (tbl B ext acc b q [] []) q=Z φ
 |.nw φ=>iP dc (tbl B ext acc b q [] [Ci]) q=Z φ
 |.rc φ Zq0 n=>(∀F,iP dc (tbl B ext acc b q (q.g.map fun x=>nT x F) []) q=Z (φ F))/\(∀ds,Zq0 0 ds=.no)/\∀m,Zq0 (m+1)=zm (φ<|Zq0 m) q.N q.ps
 |.ex F=>∀P w K mg base f c,Fun K q.x q.x (dc q.i) f c->(∀a∈acc,qY P w K mg base a)->FnScope q.N q.ps (aQ<|dc q.i)->FnOk P w K mg base j8 (q.d+1) f c q.ps (zY K mg F)
def OQ:List (Df×Mr)->List (Nat×Fm)->List (Nat×Fm)->Prop
 |[],_,_=>True
 |q::r,acc,an=>Sy dc B ext q.1 acc an q.2/\UR q.1.N q.1.ps (aQ<|dc q.1.i)=U/\OQ r (MI xf q.1 q.2 acc) (yC q.1 q.2 an)
end
section
variable{K:aT}
structure DfOk(dc:Nat->ah9)(K:aT)(mg:alu)(q:Df)(f:aga)(fd:aid):Prop where
 F:Fun K q.x q.x (dc q.i) f fd
 b:gu K fd q.ps []
 m:∀x∈q.g,mg x=Z (.ref f)
theorem CQ(Q:DfOk dc K mg q f fd)(G:FnOk P w K mg base j8 j f fd q.ps<|zY K mg F)(d:x∈q.g):qY P w K mg base (j,nT x F):=fun Yq0 k⟨e1,e2,e3,e4,e5,hr,_⟩hj O e es b φs h hJ=>by
 subst e1 e2 e3 e4 e5;obtain⟨p,pos,rfl,h1,h2,_,rfl⟩:=Kz (n:=fun _=>U) (N:=Yq0.N) (O:=O) h;let⟨hg,hd⟩:=b7 h1
 have o:Def Yq0.K (fun _=>Z<|.ref f) q.x (dc q.i) q.ps f fd:=⟨Q.F,Q.b,rfl⟩;cases es with
 |nil=>
  cases φs with
  |nil=>
   refine(JE.mk<|yN G (hr.mono hj) hg (Q.m x d) Q.F.kp Q.b .nil zr hd).imp fun Y H Q l=>cx l fun as0 B own Uq0 I h=>⟨own++as0,[],I.exi,aE.nil,h⟩
  |cons _ _=>exact hJ.elim
 |cons a r=>
  have c:=h2;rw[agJ,afU]at c;exact Mz o (Q.m x d) G hr (vg hJ h2) hj hg hd c.1 c.2
theorem Iy(Q:DfOk dc K mg q f fd)(G:FnOk P w K mg base j8 j f fd q.ps<|UQ K mg F)(d:q.x∈q.g):JY P w K mg base (j,nT q.x F):=fun Yq0 k⟨e1,e2,e3,e4,e5,hr,_⟩hj O e es b φs h hJ=>by
 subst e1 e2 e3 e4 e5;obtain⟨p,pos,rfl,h1,h2,_,rfl⟩:=Kz (n:=fun _=>U) (N:=Yq0.N) (O:=O) h;let⟨hg,hd⟩:=b7 h1
 cases es with
 |nil=>
  cases φs with
  |nil=>
   refine(JE.mk<|yN G (hr.mono hj) hg (Q.m _ d) Q.F.kp Q.b .nil zr hd).imp fun Y H Q i=>cx i fun as0 B own Uq0 I h=>⟨own++as0,[],I.exi,aE.nil,h⟩
  |cons _ _=>exact hJ.elim
 |cons a r=>
  have c:=h2;rw[agJ,afU]at c;exact OG ⟨Q.F,Q.b,Q.m _ d⟩ G hr (vg hJ h2) hj hg hd c.1 c.2
theorem FnOk.held(G:FnOk P w K mg base j8 j f fd ps<|UQ K mg F):FnOk P w K mg base j8 j f fd ps<|zY K mg F:=G.imp fun vs H Q E q_=>Z23 q_ fun as ds ex dv h=>⟨as,ds,ex,dv,by
 cases e:F ds with
 |ok d=>rw[e]at h;exact fun p o H' s a b od=>h _ H' s<|od.den (fun z=>ex p z a) b
 |er x=>rw[e]at h;exact h
 |no=>rw[e]at h;exact h⟩
theorem Av(hB:∀g k,FY g P w K mg base k->TbOk g ⟨K,mg,E0⟩ B/\∀f∈ext,fv g ⟨K,mg,E0⟩ f)(m:∀a∈acc,qY P w K mg base a)(hn:∀a∈an,JY P w K mg base a)(l:q.d<=k)(y:FY g P w K mg base k)(hs:∀f∈self,fv g ⟨K,mg,E0⟩ f)(j:∀f∈sf,Jc g ⟨K,mg,E0⟩ f):TbOk g ⟨K,mg,E0⟩<|tbl B ext acc an q self sf:=by
 obtain⟨b,e⟩:=hB g k y;refine⟨fun f j=>?_,fun f j=>?_,b.q,b.i,fun f h=>(BY.mp h).elim (j f)<|b.s f,b.c⟩
 .rcases BY.mp j with h|h
  .obtain⟨i,_,h2⟩:=ahy.mp h;exact e f<|agm h2
  .rcases BY.mp h with h|h
   .exact hs f h
   .rcases BY.mp h with h|h
    .exact b.x f h
    .obtain⟨a,h1,rfl⟩:=rW.mp h;let⟨h1,h2⟩:=agb.mp h1
     exact m a h1 g k y<|DO (aln h2) l
 .rcases BY.mp j with h|h
  .exact b.n f h
  .obtain⟨a,h1,rfl⟩:=rW.mp h;let⟨h1,h2⟩:=agb.mp h1
   exact hn a h1 g k y<|DO (aln h2) l
theorem Cr(F:Fun K q.x q.x (dc q.i) f fd)(S:FnScope q.N q.ps<|aQ<|dc q.i)(hF:∀j,FY j P w K mg base k->TbOk j ⟨K,mg,E0⟩ t)(h:iP dc t q=Z φ):FnOk P w K mg base j8 (k+1) f fd q.ps<|zY K mg<|zm φ q.N q.ps:=by
 obtain⟨r,h',rfl⟩:=iN.mp h;refine F.okD (O':=r.2) S fun o m A n s H E hr=>?_;obtain⟨y,u,rfl,l⟩:=J4 m;refine Bi rfl (fun j z=>?_) S.nd ala rfl 12 [] _ r h' [];refine Z09 z.eqs fun a b c d e g i p v=>?_;exact hF j ⟨a,b,c,d,e,g▸hr,i,y,u,_,p,v,l⟩
theorem Jr(F:Fun K q.x q.x (dc q.i) f fd)(S:FnScope q.N q.ps<|aQ<|dc q.i)(hF:∀j,FY j P w K mg base k->TbOk j ⟨K,mg,E0⟩ t)(h:iP dc t q=Z φ):FnOk P w K mg base j8 (k+1) f fd q.ps<|UQ K mg<|zG φ q.N q.ps:=by
 obtain⟨r,h',rfl⟩:=iN.mp h;refine F.okN (O':=r.2) S fun o m A n s H E hr=>?_;obtain⟨y,u,rfl,l⟩:=J4 m;refine Bi rfl (fun j z=>?_) S.nd ala rfl 12 [] _ r h' [];refine Z09 z.eqs fun a b c d e g i p v=>?_;exact hF j ⟨a,b,c,d,e,g▸hr,i,y,u,_,p,v,l⟩
theorem OV(hB:∀e k,FY e P w K mg base k->TbOk e ⟨K,mg,E0⟩ B/\∀f∈ext,fv e ⟨K,mg,E0⟩ f)(j:∀a∈acc,qY P w K mg base a)(hn:∀a∈an,JY P w K mg base a)(Q:DfOk dc K mg q f fd)(S:FnScope q.N q.ps<|aQ<|dc q.i)(h:Sy dc B ext q acc an (.nw φ)):
  FnOk P w K mg base j8 (q.d+1) f fd q.ps (UQ K mg<|zG φ q.N q.ps):=
 Jr Q.F S (fun e y=>Av (self:=[]) hB j hn (nE _) y (fun f g=>nomatch g) fun f g=>by rw[acB.mp g];exact(fun Ob O s es b l h m=>by
   unfold Ci at h;cbv
   .obtain⟨i,h1,h⟩:=dO.mp h;cbv
    .rename_i hq;nofun;obtain⟨a,b,c⟩:=Ax hq.2;exact NI hq.1 (jA h1) a b c
    .nofun
   .nofun)) h
theorem NN(hB:∀b k,FY b P w K mg base k->TbOk b ⟨K,mg,E0⟩ B/\∀f∈ext,fv b ⟨K,mg,E0⟩ f)(j:∀a∈acc,qY P w K mg base a)(hn:∀a∈an,JY P w K mg base a)(Q:DfOk dc K mg q f fd)(S:FnScope q.N q.ps<|aQ<|dc q.i)(h:Sy dc B ext q acc an m):
  FnOk P w K mg base j8 (m.dp q) f fd q.ps (zY K mg<|m.F q):=by
 cases m with
 |pl φ=>exact Cr Q.F S (fun b y=>Av (self:=[]) (sf:=[]) hB j hn (nE _) y (fun f c=>nomatch c) fun f c=>nomatch c) h
 |nw φ=>exact(OV hB j hn Q S h).held
 |ex F=>exact h P w K mg base f fd Q.F j S
 |rc φ e n=>
  obtain⟨h1,h2,l⟩:=h;show FnOk P w K mg base j8 (q.d+n) f fd q.ps<|zY K mg<|e n;induction n with
  |zero=>
   have  := funext h2;rw[this];exact( ⟨fun vs H Q E q_=>Z23 q_ fun _ _ _ _ h=>h.elim,fun A outer s H args us vs Q E hr e0 hb r q_=>Z23 q_ fun _ _ _ _ h=>h.elim⟩)
  |succ n p=>
   rw[l n];refine Cr Q.F S (fun b y=>Av (sf:=[]) hB j hn (air _ _) y (fun g hg=>?_) fun f c=>nomatch c)<|h1<|e n
   obtain⟨x,o,rfl⟩:=rW.mp hg;exact CQ Q p o b _ y<|nE _
def Sv(dc:Nat->ah9)(P:ahb)(w:agN)(K:aT)(mg:alu)(base:aij)(h:Nat×(Str->(aly->R D)->Fm)):Prop:=∀(q:Df)f fd j F,DfOk dc K mg q f fd->q.x∈q.g->FnOk P w K mg base j8 j f fd q.ps (zY K mg F)->qY P w K mg base (j+h.1,h.2 q.x F)
theorem Lj(hB:∀b k,FY b P w K mg base k->TbOk b ⟨K,mg,E0⟩ B/\∀f∈ext,fv b ⟨K,mg,E0⟩ f)(hX:∀h∈xf,Sv dc P w K mg base h){g:Nat->aga}{j:Nat->aid}:∀(l:List<|Df×Mr)(acc d:List<|Nat×Fm),(∀a∈acc,qY P w K mg base a)->(∀a∈d,JY P w K mg base a)->(∀q∈l,DfOk dc K mg q.1 (g q.1.i)<|j q.1.i)->OQ dc B ext xf l acc d ->
  ∀q∈l,FnOk P w K mg base j8 (q.2.dp q.1) (g q.1.i) (j q.1.i) q.1.ps<|zY K mg<|q.2.F q.1:=bb (fun _ _ _ _ _ _ _ h=>nomatch h) fun q r n acc d ha hn hl ⟨h1,h2,h3⟩ z hz=>by
  have Q:=hl q agl;have G:=NN hB ha hn Q (HN h2) h1;rcases oR.mp hz with rfl|hz
  .exact G
  .refine n _ _ (fun a h=>?_) (fun a h=>?_) (fun q m=>hl q<|mK _ m) h3 z hz
   .rcases BY.mp h with h|h
    .cbv
     .rename_i c;obtain⟨y,hy,rfl⟩:=rW.mp h;let⟨i,_,hi⟩:=ahy.mp hy
      exact hX y (agm hi) q.1 _ _ _ _ Q c G
     .exact nomatch h
    .rcases BY.mp h with h|h
     .obtain⟨x,c,rfl⟩:=rW.mp h;exact CQ Q G c
     .exact ha a h
   .unfold yC at h;cbv
    .rename_i φ e;cbv
     .rename_i c;rcases oR.mp h with rfl|h
      .exact Iy Q (OV hB ha hn Q (HN h2)<|e▸h1) c
      .exact hn a h
     .exact hn a h
    .exact hn a h
end
def Es(ds:aly):R D:=match ds with
 |[.int j]=>if 0<=j/\j<=1000 then .ok (.lst<|bK 0 j.toNat)else .no
 |_=>.no
section
def T9(n:Nat):alx:=(agj n).map fun(k:Nat)=>V.int<|(0:Int)+(k:Int)
theorem Nm{K:aT}(n:Nat):aE K H (bK 0 n)<|T9 n:=by
 unfold bK T9;induction agj n with
 |nil=>rfl
 |cons k l a=>exact⟨_,_,rfl,rfl,a⟩
theorem Oc(b:acc.length=n)(h:∀(j:Nat)v,acc[j]?=Z v->∃t,v=aiN ((0:Int)+j*1) t):aY (T9 n) acc:=by
 have key:∀(acc:alw)(k:Nat),(∀(j:Nat)v,acc[j]?=Z v->∃t,v=aiN ((0:Int)+((k+j:Nat))*1) t)->aY ((ak8 k acc.length).map fun(k:Nat)=>V.int<|0+k) acc:=by
  intro acc;induction acc with
  |nil=>exact fun _ _=>.nil
  |cons v acc c=>
   intro k h;obtain⟨t,rfl⟩:=h 0 v rfl;refine .cons ⟨t,∅⟩ (c (k+1) fun j u a=>?_);obtain⟨t,e⟩:=h (j+1) u (by simpa using a)
   grind
 have:=key acc 0 fun j v a=>by mright
 unfold T9;rw[akk,<-b];exact this
def WX(t:TA):TE:=fun Y H Q=>t Y H fun vs H1=>∃n:Nat,vs=[.int (n:Int)]/\n<=1000/\∀q,H1 q=L->Q (.ref q) (upd H1 q<|.lst<|T9 n)
theorem NU{p1 p2 a pos:Pos}(F:X.calm=U)(r:X.mg "list"=L)(m:X.mg "range"=L)(C:PA X [e] t)(p:Gl X "list")(l:Gl X "range")
  (A:afY [e] X.env=(η,eval e X.env)::afY [] X.env) (y:autoParam ((ahP a<|afY [] X.env).any (·.1)=η) Xaz)
  (f:autoParam (afY [.Call (.Name "range" p2) [e] [] a] X.env=(η,eval (.Call (.Name "range" p2) [e] [] a) X.env)::afY [] X.env) Xaz) (g:autoParam ((ahP pos<|afY [] X.env).any (·.1)=η) Xaz):
  PE X (.Call (.Name "list" p1) [.Call (.Name "range" p2) [e] [] a] [] pos) (WX t):=by
 intro G s Y H Q I h;refine agi (dX I p r lO ?_ ∎<|∎);refine agg ?_ f g;rw[f];show af0 _ _ (spliced<|(η,eval (.Call (.Name "range" p2) [e] [] a) X.env)::ahP pos (afY [] X.env)) _ _ s;refine ah3 ?_;refine agi (dX I l m boot_range ?_ ∎<|∎);refine agg (bX (C a G s Y H _ I h) fun us k D=>iW D fun vs H1 E r1 B=>?_) A y;obtain⟨n,rfl,hn,q⟩:=B;obtain⟨u,rfl,ru⟩:=f7 r1;obtain⟨t,rfl⟩:=ru;refine call_range_1 ?_;refine aic ?_;have i:=E.kept (h':=k.heap.push {cls:=.type "range",data:=.fields #[.int 0 k.toks,.int (n:Int) t,.int 1<|k.toks+1]}) (t':=k.toks+1+1) fun b o e=>eQ _ e;refine aP i.tk<|call_list_range (n:=n) (i.ok.hd F) (IsRange.new ..) (small_one ⊥ ⊥ ⊥<|⊥) (by rw[rangeSize_one];split<;>lia) ⊥ fun h' tk d z kp e c x=>?_;exact⟨.ref _,_,i.laid kp (nE _) (show cQ X.prog X.w _ h' _ (.lst<|T9 n)from⟨by rw[agI];unfold T9;simp;lia,d.toList,z,Oc (by exact c.1) fun j v J=>c.2 j v<|by grind,by simpa using e⟩) x,rfl,q _<|i.hok.fresh<|nE _⟩
theorem R9(d:X.mg "list"=L)(b:X.mg "range"=L)(i:JA X [e]<|qy W O α)(m:X.calm=U)(c:Gl X "list")(a:Gl X "range")(h1:az e=U):
  JE X (.Call (.Name "list" p1) [.Call (.Name "range" p2) [e] [] pos1] [] pos) (tN W O<|aD Es α):=
 (JE.mk<|NU m d b i.out c a<|bn h1).imp fun Y H Q k=>cx k fun as0 B own Uq0 I h=>⟨as0,B,own,Uq0,I,eJ h fun ds xs o n g h2=>by
  unfold Es at h2;split at h2
  .obtain⟨v,rfl,l⟩:=eL g;cases l;split at h2
   .rename_i j hj;refine⟨j.toNat,by grind,⊥,fun q f=>h2 q _ _ (aH f _) f aG ⟨_,rfl,Nm _⟩⟩
   .exact h2.elim
  .exact h2.elim⟩
end
theorem RN:entryFor table "set.__eq__"=Z Builtin.«frozenset.__eq__»:=entryFor_alias (id':="frozenset.__eq__") #[12] rfl ⊤ #[12]
section
variable{s:MK}
theorem gi.of(b:S∈cG)(hs:gi s.heap a S led ep):s.heap.SetOf (intKind prog w) a (fun k=>S.any fun i=>decide ((i:Int)=k)) S.length:=by
 refine Z23 hs fun o c f d e=>?_;refine⟨o,_,_,_,f,d,e,qK b c,fun k=>?_,pC b c,bJ b led c,by unfold kr;simp⟩;unfold kr;simp only[ajW,decide_eq_true_eq,rW];constructor
 .rintro⟨i,hi,rfl⟩;exact⟨_,⟨i,hi,rfl⟩,by simp[intKind,ahC]⟩
 .rintro⟨_,⟨i,hi,rfl⟩,h⟩;exact⟨i,hi,by simpa[intKind,ahC]using h⟩
theorem AW(c:T∈cG)(d:gi s.heap b T led ep)(a:i<3)(h:∀r:Option Nat,r.isSome=decide (i∈T)->Q r s):af0 #[4] A (setFind b (.int (i:Int) t) (i:Int)) Q E s:=by
 have e:=ny a
 have:=wpAny_setFind_of (A:=A) (E:=E) (knd:=intKind prog w) (k:=i) (x:=.int i t) (by simp[intKind,ahC]) rfl (gi.of c d) fun r hr=>h r (by rw[hr];rw[ago];simp[ai5])
 have f:(intKind prog w).hash i=hashInt i:=rfl
 lia
theorem wp_yield{α β:Type}{l:List α}{f:α->β->Sem (ForInStep β)}{b:β}{Q:β->MK->Prop}(a:∀x∈l,∀Q:ForInStep β->MK->Prop,Q (.yield b) s->af0 #[4] A (f x b) Q E s)(h:Q b s):af0 #[4] A (forIn l b f) Q E s:=by
 induction l with
 |nil=>exact lT h
 |cons x r c=>
  rw[ajb];exact bY (a x ∅ _<|c fun y hy=>a y<|by simp[hy])
theorem Fw(y:S∈cG)(B:T∈cG)(hs:gi s.heap a S led ep)(v:gi s.heap b T led' ep')(M:S.length<=T.length)(h:Q (S.all fun i=>decide (i∈T)) s):af0 #[4] A (ajl nm a b) Q E s:=by
 obtain⟨o,p,n,q,g⟩:=id hs;obtain⟨O,c,d,K,f⟩:=id v;have m:=bJ y led p;have hb:=bJ B led' c;have F:(kr S p).size=S.length:=by unfold kr;simp
 have J:(kr T c).size=T.length:=by unfold kr;simp
 unfold ajl ajI;refine bY<|bY<|wpAny_setEntries_of n g m<|lT ?_;refine bY<|bY<|wpAny_setEntries_of d f hb<|lT ?_;rw[F,J,alj<|⊥];refine bY<|wpAny_setEpoch_of n g m ?_;have G:∀{Q:List (Int×By)->MK->Prop},Q (kr S p).toList s->af0 #[4] A (ai6 a b) Q E s:=fun{Q}hQ=>by
  unfold ai6;refine bY<|wpAny_setEntries_of n g m ?_;refine bY<|wpAny_setEntries_of d f hb ?_;refine bY<|wp_yield (fun x q Q C=>?_)<|lT hQ
  have:∃(i:Int)(t:Tok),x.2=.int i t:=by
   unfold kr at q;rcases BY.mp q with h|h<;>(obtain⟨i,_,rfl⟩:=rW.mp (by simpa using h);exact⟨_,_,rfl⟩)
  obtain⟨i,t,e⟩:=this;obtain⟨N,P⟩:=x;cases e;exact bY<|lT<|lT C
 refine bY<|G ?_;have H:∀(l:alp)(Q:Option Bool×Unit->MK->Prop),(∀i∈l,i<3)->Q (if l.all (fun i=>decide (i∈T))=U then L else Z η,()) s->af0 #[4] A (forIn (l.map fun(i:Nat)=>((i:Int),aiN (i:Int)<|p i)) ((L,()):Option Bool×Unit) fun x __s=>match x with
   |(h,x)=>do
    let __do_lift <-holding [x] (setFind b x h)
    if __do_lift.isNone=U then pure (ForInStep.done (Z η,()))
     else do
      ajd nm a ep
      pure (aiB (L,()))) Q E s:=by
  intro l;induction l with
  |nil=>exact fun Q _ hQ=>lT hQ
  |cons i r I=>
   intro Q u hQ;rw[Do,ajb];refine bY<|bY<|ag1<|AW B v (u i<|∅) fun z hz=>?_;cases hm:decide (i∈T)with
   |true=>
    rw[hm]at hz;obtain⟨k,rfl⟩:=aiu.mp hz;refine bY ?_;unfold ajd;refine bY<|wpAny_setEpoch_of n g m ?_;simp only[bne_self_eq_false,ahA,↓reduceIte];refine lT<|lT<|I Q (fun j D=>u j<|by simp[D]) ?_;rw[agJ,hm,Bool.true_and]at hQ;exact hQ
   |false=>
    rw[hm]at hz;cases z with
    |some _=>cases hz
    |none=>
     refine lT<|lT ?_;rw[agJ,hm]at hQ;exact hQ
 refine bY<|H S _ (sub_lt S y) ?_;cases hm:S.all fun i=>(i∈T)with
 |true=>rw[hm]at h;exact lT h
 |false=>rw[hm]at h;exact lT h
theorem Nb:∀S∈cG,∀T∈cG,S.length=T.length->(S.all fun i=>decide (i∈T))=decide (S=T):=⊤
theorem M0(i:S∈cG)(j:T∈cG)(hs:gi s.heap a S led ep)(d:gi s.heap b T led' ep')(p:A.units<aiV)(h:Q (.bool<|decide (S=T)) s):af0 #[4] A (agf .Eq (.ref a)<|.ref b) Q E s:=by
 refine wpAny_richCompare_same_room (op:=.Eq) hs.typeIs d.typeIs aku (agt aku hs.typeIs RN ?_<|PySem.F.args_set_eq_2 _ _) p;unfold Builtin.«frozenset.__eq__»;refine bY<|lT ?_;dsimp only;refine Z23 (id hs) fun o l q v m=>?_;refine Z23 (id d) fun x c g u k=>?_;have n:=bJ i led l;have hb:=bJ j led' c;have r:(kr S l).size=S.length:=by unfold kr;simp
 have t:(kr T c).size=T.length:=by unfold kr;simp
 refine bY<|bY<|wpAny_isInstance (T:="set") d.typeIs PySem.F.sub_set_set<|lT ?_;refine bY<|lT<|bY<|lT ?_;unfold ajI;refine bY<|bY<|wpAny_setEntries_of q m n<|lT ?_;refine bY<|bY<|wpAny_setEntries_of g k hb<|lT ?_;rw[r,t];refine bY ?_;by_cases f:S.length=T.length
 .rw[alj<|by simp[f]];refine bY<|bY<|wpAny_isInstance (T:="set") hs.typeIs PySem.F.sub_set_frozenset<|lT ?_;refine Fw i j hs d ⊥ (lT ⟨_,rfl,#[16],?_⟩)
  rw[Nb S i T j f];exact h
 .rw[ali<|by simp[f]];refine lT (lT ⟨_,rfl,#[16],?_⟩)
  rw[alk fun e=>f<|by rw[e]]at h;exact h
end
def Fx(a:aga)(S:alp):HO:=.ext fun h=>∃b c,gi h a S b c
section
variable{X:Cx}{W:Wd}{O:alp}
def Yh(K:aT)(t:TA):TE:=fun Y H Q=>t Y H fun vs H1=>∃(a:aga)(ks:alp),vs=[.ref a]/\dF K H1 a (ks.map fun(k:Nat)=>V.int (k:Int))/\(∀k∈ks,k<3)/\∀q,H1 q=L->Q (.ref q) (upd H1 q<|Fx q<|cb ks)
theorem Hl(F:X.calm=U)(j:X.mg "set"=L)(B:JA X [e] t)(g:Gl X "set")(h1:az e=U):JE X (.Call (.Name "set" p2) [e] [] pos1)<|Yh X.K t:=JE.mk fun G s Y H Q I h=>by
 refine agi<|dX I g j BM ?_ ∎ rfl;refine agg (bX (B.out pos1 G s Y H _ I h) fun us J D=>iW D fun vs H1 f r1 y=>?_) (bn h1) rfl;obtain⟨a,ks,rfl,A,x,q⟩:=y;obtain⟨u,rfl,ru⟩:=f7 r1;cases ru;obtain⟨its,n,pl,hz⟩:=f.list A;have d:its.length=ks.length:=by rw[<-n.length,iF]
 refine aP f.tk<|wj (f.ok.hd F) pl.isList (by simp[d]) (fun i v E k C=>?_) x fun h' tk M hs c m=>?_
 .have hv'  := by simpa using E
  obtain⟨u,r,ru⟩:=n.get<|(by rw[agH,C];rfl);rw[hv']at r;cases r;exact ru
 .refine⟨.ref _,_,f.laid (fun b u e=>c b u (OR e) e) (nE _) (show cQ X.prog X.w _ h' _ (Fx _<|cb ks)from⟨⟨_,_,hs⟩,let⟨o,_,ho,_⟩:=hs;⟨o,ho⟩,fun h1 h2⟨l,p,z⟩k=>⟨l,p,z.at' k⟩⟩) m,rfl,q _<|f.hok.fresh<|nE _⟩
def SQ:R2:=fun x y H Q=>∃p q S T,x=.ref p/\y=.ref q/\H p=Z (Fx p S)/\H q=Z (Fx q T)/\S∈cG/\T∈cG/\Q (.bl<|decide (S=T)) H
theorem QV(b:X.A.units+64<aiV):dz X (agf .Eq) SQ:=fun aa s Y H x y v u Q I rx ry q_=>Z47 q_ fun p q S T e1 e2 hp hq hS hT k=>by
 subst e1 e2;cases rx;cases ry;obtain⟨⟨_,_,sp⟩,_⟩:=I.hok _ _ hp;obtain⟨⟨_,_,a⟩,_⟩:=I.hok _ _ hq;exact M0 hS hT sp a ⊥ ⟨.bl _,H,I,rfl,k⟩
def uH(d:D):R<|alp:=match d with
 |.lst xs=>(match uO xs with
  |some k=>.ok k
  |none=>.no)
 |_=>.no
theorem zo{K:aT}(h:cz K H d v)(e:uH d=.ok k):∃a,v=.ref a/\dF K H a (k.map fun(k:Nat)=>V.int (k:Int))/\∀i∈k,i<3:=by
 unfold uH at e;split at e
 .split at e
  .rename_i k' e';cases e;obtain⟨rfl,c⟩:=uF e';obtain⟨p,vs,rfl,b,f⟩:=h;rw[qa f]at b;exact⟨p,rfl,b,c⟩
  .cases e
 .cases e
theorem Cj(e:uH d=.er x):False:=by
 unfold uH at e;split at e
 .split at e<;>cases e
 .cases e
def uE(φ ψ:FE):FT:=fun Uq0=>(φ Uq0).bind fun x=>(uH x).bind fun k=>(ψ Uq0).bind fun y=>(uH y).bind fun l=>.ok<|decide (cb k=cb l)
theorem Ig(g:X.mg "set"=L)(n:X.calm=U)(C:X.A.units+64<aiV)(s:JE X a<|tD W O φ)(hb:JE X b<|tD W O ψ)(hg:Gl X "set")(h1:az a=U)(h2:az b=U)(e:W.K=X.K):
  JT X (.Compare (.Call (.Name "set" p1) [a] [] q1) [.Eq] [.Call (.Name "set" p2) [b] [] q2] pos) (ky W O<|uE φ ψ):=
 (AX (QV C) (Hl n g (eX s iM h1) hg h1) (Hl n g (eX hb iM h2) hg h2) rfl).imp fun Y H Q D=>cx D fun as0 B own Uq0 I h=>⟨as0,B,own,Uq0,I,c9 h fun x v H1 t G h1=>by
  cases hx:uH x with
  |er z=>exact(Cj hx).elim
  |no=>rw[hx]at h1;exact h1.elim
  |ok k=>
   rw[hx]at h1;obtain⟨p,rfl,w,m⟩:=zo G hx;refine⟨p,k,rfl,by rw[<-e];exact(ap _ _).seq w,m,fun q o=>?_⟩;have j:=aH o<|Fx q<|cb k;have r:=(I.mono t).mono j;refine⟨as0,B,own,Uq0,r,c9 (fZ.mono h1 j) fun y u N F J c=>?_⟩;cases hy:uH y with
   |er z=>exact(Cj hy).elim
   |no=>rw[hy]at c;exact c.elim
   |ok l=>
    rw[hy]at c;obtain⟨E,rfl,M,i⟩:=zo J hy;refine⟨E,l,rfl,by rw[<-e];exact(ap _ _).seq M,i,fun q' d=>?_⟩;have f:=aH d (Fx q' (cb l));exact⟨q,q',_,_,rfl,rfl,f _ _ (F _ _ aG),aG,fV k [] ∎ m,fV l [] ∎ i,c _ f⟩⟩
end
def vX:FE:=fun _=>.no
def g0(l:List FE):FE:=l.headD vX
def g1(l:List FE):FE:=(l.drop 1).headD vX
noncomputable def g2(l:List FE):FE:=(l.drop 2).headD vX
noncomputable def FK:agR->Bool
 |.Slice ..=>U
 |_=>η
theorem zj(h:FK b=η):rV b:=by
 cases b<;>first|exact fun _ _=>rfl|nofun
theorem QA(h:FK b=η):GW b:=by
 cases b<;>first|exact fun _ _=>rfl|nofun
theorem xP(h:zM b=η)(op:CmpOp):aiE op b=η:=by
 cases b<;>first|rfl|nofun
noncomputable def G4:agR->Bool
 |.Name ..=>U
 |.Subscript ..=>U
 |.Attribute ..=>U
 |.Constant ..=>U
 |.Call _ (_::_) _ _=>U
 |.Dict ..=>U
 |_=>η
theorem On(f:Str)(env:Env)(m:Sem By):agx (.Call g (a::es) kw pos) f env m=m:=by
 cases g<;>rfl
theorem Hy(h:G4 e=U)(f:Str)(env:Env):agx e f env (eval e env)=eval e env:=by
 cases e<;>first|rfl|skip;all_goals (rename_i g a kw pos;cases a<;>first|exact On _ _ _|nofun)
noncomputable def vh(d:alq):agR->Bool
 |.Name x _=>d.contains x
 |.Attribute _ f _=>d.contains f
 |.Subscript (.Name x _) _ _=>d.contains<|x++afS "[]"
 |_=>η
def jO:agR->Bool:=fun _=>U
def cS:agR->Option (agR×agR)
 |.Subscript a b _=>if FK b=U then L else Z (a,b)
 |_=>L
theorem Eo(h:cS e=Z q):∃pos,e=.Subscript q.1 q.2 pos/\FK q.2=η:=by
 unfold cS at h;cbv
 .cbv
  .nofun
  .nofun;mright
 .nofun
def cC:agR->Option (agR×CmpOp×agR)
 |.Compare a [o] [b] _=>if zM b=U then L else Z (a,o,b)
 |_=>L
theorem DK(h:cC e=Z q):∃pos,e=.Compare q.1 [q.2.1] [q.2.2] pos/\zM q.2.2=η:=by
 unfold cC at h;cbv
 .cbv
  .nofun
  .nofun;mright
 .nofun
theorem wf(h:F7 e=η)(t:agR)(l:Nat)(env:Env):swapsWithSole [t] e l env=pure η:=by
 exact rP h _ _ _
theorem Uz(h:FK ie=η)(env:Env)(v:By):assign (.Subscript #[20] ie spos) env v=(do
   let ov <-holding [v] (eval #[20] env)
   let iv <-holding [v,ov] (eval ie env)
   aky spos
   holding [v,ov,iv] (setItem ov iv v)
   release [v,ov,iv] []):=by
 cases ie<;>first|rfl|nofun
section
theorem z9(h:Js X W O [a] l):∃φ,l=[φ]/\JE X a (tD W O φ):=by
 match l,h with
 |[φ],h=>exact⟨φ,rfl,h.1⟩
theorem Lq(h:Js X W O [a,b] l):∃φ ψ,l=[φ,ψ]/\JE X a (tD W O φ)/\JE X b (tD W O ψ):=by
 match l,h with
 |[φ,ψ],h=>exact⟨φ,ψ,rfl,h.1,h.2.1⟩
theorem js3(h:Js X W O [a,b,c] l):∃φ ψ χ,l=[φ,ψ,χ]/\JE X a (tD W O φ)/\JE X b (tD W O ψ)/\JE X c (tD W O χ):=by
 match l,h with
 |[φ,ψ,χ],h=>exact⟨φ,ψ,χ,rfl,h.1,h.2.1,h.2.2.1⟩
theorem wT.m(h:wT X W f):fv X W f:=fun O e es b a h1 h2=>vp<|h O e es b a h1 h2
end
section
variable{X:Cx}{W:Wd}
def wQ(op:Operator)(g:D->D->R D):Fm:=fun _ _ _ e=>match e with
 |.BinOp a o b _=>if o=op then Z ([a,b],fun l=>aJ g (g0 l)<|g1 l)else L
 |_=>L
theorem jT(d:dz X (ahh op) r)(a:pb W r g):fv X W<|wQ op g:=fun O e es b c h f=>by
 unfold wQ at h;cbv
 .cbv
  .rename_i hq;subst hq;nofun;obtain⟨φ,ψ,rfl,h1,h2⟩:=Lq f;exact( HL (fun h1 h2=>aaJ d h1 h2) rfl a h1 h2)
  .nofun
 .nofun
def d5(op:CmpOp)(g:D->D->R D)(p:agR->Bool):Fm:=fun _ _ _ e=>(cC e).bind fun q=>if q.2.1=op/\p q.2.2=U then Z ([q.1,q.2.2],fun l=>aJ g (g0 l)<|g1 l)else L
def fQ(f:Fm):Fq:=fun a N O e=>(f a N O e).map fun q=>(q.1,fun l=>bG<|q.2 l)
theorem DF(h:d5 op g p sc N O e=Z (es,b)):∃x y pos,e=.Compare x [op] [y] pos/\es=[x,y]/\b=(fun l=>aJ g (g0 l)<|g1 l)/\zM y=η:=by
 mstop
 obtain⟨q,h1,h⟩:=h;cbv
 .rename_i hq;nofun;obtain⟨pos,rfl,h2⟩:=DK h1;exact⟨_,_,_,by rw[hq.1],rfl,rfl,h2⟩
 .nofun
theorem bj(c:dz X (agf op) r)(a:pb W r g):fv X W (d5 op g p)/\Ol X W (fQ<|d5 op g p):=by
 refine⟨fun O e es b f h d=>?_,fun O e es b f h d=>?_⟩
 .obtain⟨x,y,pos,rfl,rfl,rfl,hs⟩:=DF h;obtain⟨φ,ψ,rfl,h1,h2⟩:=Lq d;exact(fun c a j hb l =>  HL (fun h1 h2=>VE c h1 h2 l) rfl a j hb) c a h1 h2<|xP hs _
 .let⟨q,h,hq⟩:=iN.mp h
  obtain⟨x,y,pos,rfl,i,k,hs⟩:=DF h;cases hq;rw[i]at d;obtain⟨φ,ψ,rfl,h1,h2⟩:=Lq d;rw[k];exact IS c a h1 h2<|xP hs _
def aaA(g:D->D->R D)(p:agR->Bool):Fm:=fun _ _ _ e=>(cS e).bind fun q=>if p q.1=U then Z ([q.1,q.2],fun l=>aJ g (g0 l)<|g1 l)else L
theorem GQ(k:∀O a b pos φ ψ,FK b=η->JE X a (tD W O φ)->JE X b (tD W O ψ)->JE X (.Subscript a b pos) (tD W O<|aJ g φ ψ)):fv X W<|aaA g p:=fun O e es b f h d=>by
 mstop
 obtain⟨q,h1,h⟩:=h;cbv
 .nofun;obtain⟨pos,rfl,h2⟩:=Eo h1;obtain⟨φ,ψ,rfl,c,i⟩:=Lq d;exact k _ _ _ _ _ _ h2 c i
 .nofun
def oP(o:Option agR)(φ:FE):Sd->R (Option Int):=match o with
 |none=>mh
 |some _=>j6 φ
def aab(g:D->Option Int->Option Int->R D):Fm:=fun _ _ _ e=>match e with
 |.Subscript a (.Slice lo hi L _) _=>Z (a::(lo.toList++hi.toList),fun l=>CO g (g0 l) (oP lo<|g1 l)<|oP hi<|if lo.isSome=U then g2 l else g1 l)
 |_=>L
theorem JC(hr:Aa X r)(c:Z3 W r g):fv X W<|aab g:=fun O e es b i h d=>by
 unfold aab at h;cbv
 .rename_i a lo hi _ _;nofun;cases lo with
  |none=>cases hi with
   |none=>obtain⟨φ,rfl,h1⟩:=z9 d;exact rG hr c h1 sn sn
   |some u=>obtain⟨φ,ψ,rfl,h1,h2⟩:=Lq d;exact rG hr c h1 sn<|sk h2
  |some v=>cases hi with
   |none=>obtain⟨φ,ψ,rfl,h1,h2⟩:=Lq d;exact rG hr c h1 (sk h2) sn
   |some u=>obtain⟨φ,ψ,χ,rfl,h1,h2,f⟩:=js3 d;exact rG hr c h1 (sk h2)<|sk f
 .nofun
def WM:Fm:=fun _ _ _ e=>match e with
 |.Tuple es _ _=>if es.all az=U then Z (es,fun l=>dj<|aL l)else L
 |_=>L
def OH:Fm:=fun _ _ _ e=>match e with
 |.List es _=>if es.all az=U then Z (es,fun l=>gm<|aL l)else L
 |_=>L
theorem Ev:wT X W OH:=fun O e es b a h c=>by
 unfold OH at h;cbv
 .cbv
  .rename_i hq;nofun;exact W1<|vg c hq
  .nofun
 .nofun
def Lf(c f:Str):Fm:=fun _ _ _ e=>match e with
 |.Attribute a g _=>if g=f/\G4 a=U then Z ([a],fun l=>yn c f<|g0 l)else L
 |_=>L
theorem xV(hn:af5 X.K age c=Z (Z<|.ref C))(i:Cls X.K C)(d:eV X.K C f)(hW:W.K=X.K):fv X W<|Lf c f:=fun O e es b a h g=>by
 unfold Lf at h;cbv
 .cbv
  .rename_i hq;nofun;obtain⟨φ,rfl,h1⟩:=z9 g;rw[hq.1];exact VA X.K hn i d h1 (Hy hq.2 f _) rfl hW
  .nofun
 .nofun
def fB(x:Str)(F:aly->R D):Fm:=fN x (fun n=>decide (0<n)) fun l=>aD F<|aL l
theorem D7{c:FA->FE}{t:alp->FE->TE}(k:∀O a es p pos α,Gl X x->alz x->az a=U->es.all az=U->JA X (a::es) (qy W O α)->JE X (.Call (.Name x p) (a::es) [] pos) (t O<|c α)):
  ∀O e es b d,fN x (fun n=>decide (0<n)) (fun l=>c<|aL l) X.env.scope X.N O e=Z (es,b)->Js X W O es d->JE X e (t O<|b d):=fun O e es b d h g=>by
 obtain⟨p,pos,rfl,h1,h2,i,rfl⟩:=Kz h;cases es with
 |nil=>grind
 |cons a r=>
  have f:=h2;rw[agJ,afU]at f;exact k _ _ _ _ _ _ (b7 h1).1 (b7 h1).2 f.1 f.2<|vg g h2
theorem xI{id:String}(g:bF X (.builtin id) r)(c:qX W r F)(e:X.mg x=L)(h:af9 x=Z (.builtin id))(hn:autoParam (x≠"__name__") Xax):fv X W<|fB x F:=
 D7 fun O a es p pos α h1 h2 b f d=>Mi g c e h d h1 b f hn h2
theorem Ll(g:bF X (.type T) r)(c:qX W r F)(e:X.mg x=L)(h:af9 x=Z (.type T))(hn:autoParam (x≠"__name__") Xax):fv X W<|fB x F:=
 D7 fun O a es p pos α h1 h2 b f d=>MZ g c e h d h1 b f hn h2
theorem Bf(g:bF X (.type T) r)(c:Kg W r F)(e:X.mg x=L)(h:af9 x=Z (.type T))(hn:autoParam (x≠"__name__") Xax):wT X W<|fB x F:=
 D7 fun O a es p pos α h1 h2 b f d=>NV g c e h d h1 b f hn h2
theorem cy(b:X.mg x=L)(c:af9 x=Z (.type n))(hn:autoParam (x≠"__name__") Xax)(a:autoParam (alz x) Xax):CN X W x<|.ty n:=fun O p hg=>X2 b c hg hn a
theorem cg(c:X.mg x=Z u)(r:a7 v u)(b:∀H,cz W.K H d v)(a:autoParam (alz x) Xax):CN X W x d:=fun O p hg=>SF c r b hg a
def aaL(op:UnaryOp)(g:D->R D):Fm:=fun _ _ _ e=>match e with
 |.UnaryOp o a _=>if o=op then Z ([a],fun l=>LG g<|g0 l)else L
 |_=>L
theorem Ub(d:OC X (unaryOp op) r)(a:ae9 W r g):fv X W<|aaL op g:=fun O e es b c h f=>by
 unfold aaL at h;cbv
 .cbv
  .rename_i hq;subst hq;nofun;obtain⟨φ,rfl,h1⟩:=z9 f;exact aaX d a h1
  .nofun
 .nofun
def aeO:Fm:=fun _ _ _ e=>match e with
 |.UnaryOp .Not a _=>Z ([a],fun l=>Nh<|g0 l)
 |.BoolOp _ [a] _=>Z ([a],g0)
 |.BoolOp .And (a::b::r) pos=>Z ([a,.BoolOp .And (b::r) pos],fun l=>BG (g0 l)<|g1 l)
 |.BoolOp .Or (a::b::r) pos=>Z ([a,.BoolOp .Or (b::r) pos],fun l=>Tw (g0 l)<|g1 l)
 |_=>L
def ae6(m:Str)(n:Nat)(c:List FE->FE):Fm:=fun _ _ _ e=>(cM e).bind fun q=>if q.2.1=m/\q.2.2.length=n/\G4 q.1=U/\q.2.2.all az=U then Z (q.1::q.2.2,c)else L
theorem Ry(h:ae6 m n c sc N O e=Z (es,b)):∃a r apos cpos,e=.Call (.Attribute a m apos) r [] cpos/\es=a::r/\b=c/\r.length=n/\G4 a=U/\r.all az=U/\#[8]=U:=by
 mstop
 obtain⟨q,h1,h⟩:=h;cbv
 .rename_i hq;nofun;obtain⟨apos,cpos,rfl,h2⟩:=zz h1;exact⟨_,_,_,_,by rw[hq.1],rfl,rfl,hq.2.1,hq.2.2.1,hq.2.2.2,h2⟩
 .nofun
def aee(m:Str)(n:Nat)(g:Str->aly->R D):Fm:=ae6 m n fun l=>Z6 g (g0 l)<|aL<|l.drop 1
theorem SH{id:String}(d:Slot "str" m id)(i:typeOf (.builtin id)=pure (.type "method_descriptor"))(q:WS X id r)(k:aca W r g)(s:autoParam (0<n) Xax)(o:autoParam (n<29) Xax):fv X W<|aee m n g:=fun O e es b f h j=>by
 refine Z47 (Ry h) fun a r apos cpos r0_ r1_ r2_ hn hb hs p=>?_;subst r0_ r1_ r2_;cases r with
 |nil=>mright
 |cons c r=>
  cases f with
  |nil=>exact j.elim
  |cons φ l=>exact abt d i q k j.1 (vg j.2 hs) (Hy hb _ _) p hs (by rw[hn];exact o)
def TU(x:Str)(d:D):Fm:=fun b _ _ e=>(cM e).bind fun q=>match q.2.2 with
 |[a]=>if wB q.1=Z x/\q.2.1="index"/\Ab b x=U/\az a=U then Z ([a],fun l=>Ft d<|aL l)else L
 |_=>L
theorem N1(k:X.mg x=Z (.ref p))(c:∀H,cz W.K H d<|.ref p)(j:∃a,W.K.lookup p=Z a/\a.cls=.type "tuple"/\a.dict=L)(f:X.K=W.K):fv X W<|TU x d:=fun O e es b i h l=>by
 mstop
 obtain⟨⟨o,m,r⟩,h1,h⟩:=h;obtain⟨apos,cpos,rfl,g⟩:=zz h1;dsimp only at h;cbv
 .cbv
  .rename_i hq;nofun;let⟨h2,h3,h4,h5⟩:=hq
   obtain⟨_,rfl⟩:=Eh h2;rw[h3];exact HY k c j (vg l<|by grind) f (b7 h4).1 (b7 h4).2 rfl g (by grind) (Nat.le_add_left 2 27)
  .nofun
 .nofun
def UK(x y:Str)(F:aly->R D):Fm:=fun b _ _ e=>(cN e).bind fun q=>match q.2 with
 |[d]=>(cN d).bind fun r=>match r.2 with
  |[a]=>if q.1=x/\r.1=y/\Ab b x=U/\Ab b y=U/\az a=U then Z ([a],fun l=>aD F<|aL l)else L
  |_=>L
 |_=>L
theorem AR{t:alp->FE->TE}(k:∀O a p1 p2 g j α,Gl X x->Gl X y->az a=U->JA X [a] (qy W O α)->JE X (.Call #[20] [.Call (.Name y p2) [a] [] g] [] j) (t O<|aD F α)):
  ∀O e es b c,UK x y F X.env.scope X.N O e=Z (es,b)->Js X W O es c->JE X e (t O<|b c):=fun O e es b c h i=>by
 mstop
 obtain⟨⟨f,r⟩,h1,h⟩:=h;obtain⟨p,pos,rfl⟩:=qQ h1;dsimp only at h;cbv
 .let⟨⟨f2,r2⟩,h2,h⟩:=dO.mp h
  obtain⟨p2,d,rfl⟩:=qQ h2;dsimp only at h;cbv
  .cbv
   .rename_i hq;nofun;let⟨h1,h2,h3,h4,h5⟩:=hq
    rw[h1,h2];exact k _ _ _ _ _ _ _ (b7 h3).1 (b7 h4).1 h5 (vg i<|by grind)
   .nofun
  .nofun
 .nofun
def adS(n:Str)(a:alq):Fm:=fN n (fun n=>decide (0<n)) fun l=>aeJ n a<|aL l
theorem S9{K:aT}(hn:af5 K age n=Z (Z<|.ref C))(e:mg n=Z (.ref C))(M:Mk K C g)(G:FnOk P w K mg base j8 j g fd ps<|Aw C ns)(c:gu K fd ps []):qY P w K mg base (j+1,adS n ns):=fun Yq0 k⟨e1,e2,e3,e4,e5,hr,_⟩hj=>by
 subst e1 e2 e3 e4 e5;exact D7 fun O a es p pos α h1 h2 b f d=>vp<|TK hn e M G c hr d hj h1 h2 b f rfl
noncomputable def Dl:Fm:=fun _ _ _ e=>match e with
 |.Dict [] [] _=>Z ([],fun _=>vC<|.dct [])
 |_=>L
theorem yi:wT X W Dl:=fun O e es b a h c=>by
 unfold Dl at h;cbv
 .nofun;exact N6
 .nofun
def fFz(f:Fm):Fm:=fun a N O e=>(f a N O e).map fun q=>(q.1,fun l=>WV<|q.2 l)
def acp(x:Str)(tab:List<|Str×D):Fm:=fun a _ _ e=>(cS e).bind fun q=>if wB q.1=Z x/\Ab a x=U then Z ([q.2],fun l=>LG (Z4 tab)<|g0 l)else L
theorem Jj(k:X.mg x=Z (.ref a))(j:X.K.lookup a=Z ⟨.type "dict",L,.dict es n,#[]⟩)(f:ahK X.w.params es.toList)
  (l:∀y d,tab.lookup y=Z d->∃v u,af5 X.K a y=Z (Z u)/\a7 v u/\∀H,cz W.K H d v):fv X W<|acp x tab:=fun O e es b g h m=>by
 mstop
 obtain⟨⟨o,i⟩,h1,h⟩:=h;obtain⟨pos,rfl,h2⟩:=Eo h1;cbv
 .rename_i hq;nofun;obtain⟨_,rfl⟩:=Eh hq.1;obtain⟨φ,rfl,c⟩:=z9 m;exact N7 tab k j f l c (b7 hq.2).1 (b7 hq.2).2<|QA h2
 .nofun
def aaN(x:Str)(ks:alq):Fq:=fun a _ _ e=>(cC e).bind fun q=>if wB q.2.2=Z x/\q.2.1=.NotIn/\Ab a x=U then Z ([q.1],fun l=>bG<|aJ (Sb ks x) (g0 l)<|vC<|.cls x)else L
def Rc(K:aT)(mg:alu)(q:Str×D):Prop:=∃v u,mg q.1=Z u/\a7 v u/\(∀H,cz K H q.2 v)/\∀p,u=.ref p->∃a,K.lookup p=Z a/\a.cls=.type "tuple"/\a.dict=L
theorem IA(h:Rc X.K X.mg (x,d))(e:d=.tup ds)(c:W.K=X.K):fv X W<|TU x d:=by
 refine Z24 h fun v u h1 h2 b f=>?_;rw[<-c]at b f;obtain⟨a,xs,rfl,_⟩:∃a xs,v=.ref a/\hV W.K (fun _=>L) a xs:=by
  have:=b fun _=>L
  rw[e]at this;let⟨a,xs,e1,e2,_⟩:=this
  exact⟨a,xs,e1,e2⟩
 subst h2;exact N1 h1 b (f a rfl) c.symm
def oN(a:Scope)(N:alq)(O:alp)(e:agR):Option Nat:=(wB e).bind<|VH a N O
theorem vM(h:oN sc N O e=Z i):∃x p,e=.Name x p/\N[i]?=Z x/\i∈O/\qm sc x/\alz x/\#[5]=η:=by
 mstop
 obtain⟨x,h1,h⟩:=h;obtain⟨p,rfl⟩:=Eh h1;exact⟨x,p,rfl,xu h⟩
def X8:Fm:=fun a N O e=>(cS e).bind fun q=>(oN a N O q.1).map fun i=>([q.2],fun l=>aJ bw (ak i)<|g0 l)
theorem NW(a:W.K=X.K):fv X W X8:=fun O e es b d h f=>by
 mstop
 obtain⟨⟨u,v⟩,h1,h⟩:=h;obtain⟨pos,rfl,h2⟩:=Eo h1
 replace h:=iN.mp h
 let⟨i,h3,h⟩:=h
 nofun;refine Z26 (vM h3) fun x p r0_ a1 a2 a3 a4 a5=>?_;subst r0_;obtain⟨φ,rfl,c⟩:=z9 f;exact YT X.K a2 c a1 (zj h2) a3 a4 a5 rfl a
def SC(f:Str)(F:aly->R D):Fm:=fun b N O e=>(cN e).bind fun q=>match q.2 with
 |[a]=>if q.1=f/\Ab b f=U then(oN b N O a).map fun i=>([],fun l=>aD F<|aj (ak i) aA)else L
 |_=>L
theorem Ba(k:∀O i x p1 p2 pos,Gl X f->X.N[i]?=Z x->i∈O->qm X.env.scope x->alz x->#[5]=η->JE X (.Call (.Name f p2) [.Name x p1] [] pos) (tD W O<|aD F<|aj (ak i) aA)):fv X W<|SC f F:=fun O e es b a h c=>by
 mstop
 obtain⟨⟨g,r⟩,h1,h⟩:=h;obtain⟨p,pos,rfl⟩:=qQ h1;dsimp only at h;cbv
 .cbv
  .rename_i hq
   replace h:=iN.mp h
   let⟨i,h3,h⟩:=h
   nofun;refine Z26 (vM h3) fun x p r0_ a1 a2 a3 a4 a5=>?_;subst r0_;rw[hq.1];exact k _ _ _ _ _ _ (b7 hq.2).1 a1 a2 a3 a4 a5
  .nofun
 .nofun
theorem IG(d:X.mg "len"=L)(c:W.K=X.K):fv X W<|SC "len" c8:=Ba fun O i x p1 p2 pos hg h1 h2 a e b=>Rq X.K h2 d h1 hg a e b rfl c
theorem Lk(d:X.mg "tuple"=L)(c:W.K=X.K):fv X W<|SC "tuple" oM:=Ba fun O i x p1 p2 pos hg h1 h2 a e b=>SM X.K h2 d h1 hg a e b rfl c
theorem GJ(d:X.mg "list"=L)(c:W.K=X.K):fv X W<|SC "list" vd:=Ba fun O i x p1 p2 pos hg h1 h2 a e b=>vp<|RD X.K h2 d h1 hg a e b rfl c
theorem Lr(h1:X.mg "list"=L)(h2:X.mg "range"=L)(c:X.calm=U):wT X W<|UK "list" "range" Es:=
 AR fun O a p1 p2 d e α g1 g2 hn b=>R9 h1 h2 b c g1 g2 hn
def II:Fq:=fun c _ _ e=>(cC e).bind fun q=>(cN q.1).bind fun l=>(cN q.2.2).bind fun r=>match l.2,r.2 with
 |[a],[b]=>if q.2.1=.Eq/\l.1="set"/\r.1="set"/\Ab c "set"=U/\az a=U/\az b=U then Z ([a,b],fun l=>uE (g0 l)<|g1 l)else L
 |_,_=>L
theorem Fa(l:X.mg "set"=L)(n:X.calm=U)(j:X.A.units+64<aiV)(f:W.K=X.K):Ol X W II:=fun O e es b k h m=>by
 mstop
 obtain⟨⟨u,o,v⟩,h1,h⟩:=h
 mstop
 obtain⟨⟨l1,l2⟩,h2,h⟩:=h
 mstop
 obtain⟨⟨r1,r2⟩,d,h⟩:=h;obtain⟨pos,rfl,_⟩:=DK h1;obtain⟨p,q,c⟩:=qQ h2;obtain⟨r,q',a⟩:=qQ d;dsimp only at h c a⊢;subst c a;cbv
 .cbv
  .rename_i hq;nofun;let⟨a1,a2,a3,a4,a5,a6⟩:=hq
   obtain⟨φ,ψ,rfl,g,i⟩:=Lq m;rw[a1,a2,a3];exact Ig l n j g i (b7 a4).1 a5 a6 f
  .nofun
 .nofun
def RM(op:CmpOp)(f:Bool->Bool):Fq:=fun c N O e=>(cC e).bind fun q=>if q.2.1=op then(oN c N O q.1).map fun i=>([q.2.2],fun l=>bG<|aJ (fun a b=>d7 (jG a b) f) (ak i)<|g0 l)else L
theorem Ed(g:dz X (agf op)<|vj X.K f)(a:W.K=X.K):Ol X W<|RM op f:=fun O e es b d h j=>by
 mstop
 obtain⟨⟨u,o,v⟩,h1,h⟩:=h;obtain⟨pos,rfl,h2⟩:=DK h1;cbv
 .rename_i hq
  replace h:=iN.mp h
  let⟨i,h3,h⟩:=h
  nofun;refine Z26 (vM h3) fun x p r0_ a1 a2 a3 a4 a5=>?_;subst r0_;obtain⟨φ,rfl,c⟩:=z9 j;rw[hq];exact NS X.K f a2 g c (xP h2 _) a1 a3 a4 a5 a
 .nofun
def IB:agR->Bool
 |.Tuple ..=>U
 |_=>η
theorem rE(h:IB g=U):∃es k p,g=.Tuple es k p:=by
 cases g<;>first|lia|nofun
def fI(x:Str)(n:Nat)(t:Bool)(c:FA->FA):Fi:=fun a _ _ g e=>(cN e).bind fun q=>if q.1=x/\q.2.length=n/\Ab a x=U/\q.2.all az=U/\(t=U->IB g=U)then Z (q.2,fun l=>c<|aL l)else L
theorem C3(k:∀O g es p pos α,es.length=n->Gl X x->es.all az=U->(t=U->IB g=U)->JA X es (qy W O α)->JI X g (.Call (.Name x p) es [] pos) (iD W O<|c α)):IX X W<|fI x n t c:=fun O g e es b d h f=>by
 mstop
 obtain⟨q,a,h⟩:=h;obtain⟨p,pos,rfl⟩:=qQ a;cbv
 .rename_i hq;nofun;let⟨h1,h2,h3,h4,h5⟩:=hq
  rw[h1];exact k _ _ _ _ _ _ h2 (b7 h3).1 h4 h5<|vg f h4
 .nofun
theorem Kh(e:X.mg "enumerate"=L)(b:W.K=X.K):IX X W<|fI "enumerate" 1 U cY:=C3 fun O g es p pos α hn hg hs c d=>by
 obtain⟨_,_,_,rfl⟩:=rE<|c rfl
 match es,hn with
 |[a],_=>exact wA e d hg (by simpa using hs) b
theorem ML(f:X.mg "zip"=L)(c:W.K=X.K):IX X W<|fI "zip" 2 U NQ:=C3 fun O g es p pos α hn hg hs d e=>by
 obtain⟨_,_,_,rfl⟩:=rE<|d rfl
 match es,hn with
 |[a,b],_=>
  have hs  := by simpa using hs
  exact Sq f e hg hs.1 hs.2 c
def Pu(d:alq):Fi:=fun _ _ _ _ e=>if vh d e=U then Z ([e],fun l=>Ce<|g0 l)else L
def HZ:Fi:=fun _ _ _ g e=>(cM e).bind fun q=>if q.2.1="items"/\q.2.2.isEmpty=U/\G4 q.1=U/\IB g=U then Z ([q.1],fun l=>xX<|g0 l)else L
theorem ES:IX X W HZ:=fun O g e es b c h f=>by
 mstop
 obtain⟨⟨o,m,r⟩,h1,h⟩:=h;obtain⟨apos,cpos,rfl,a⟩:=zz h1;cbv
 .rename_i hq;nofun;let⟨h2,h3,h4,h5⟩:=hq
  obtain⟨_,_,_,rfl⟩:=rE h5;obtain⟨φ,rfl,d⟩:=z9 f;cases r with
  |cons _ _=>cases h3
  |nil=>
   rw[h2];exact Jd d (Hy h4 _ _) a
 .nofun
def WJ(m:Str)(c:Nat->FE->FS):Fs:=fun b N O s=>(xE s).bind fun e=>(cM e).bind fun q=>match q.2.2 with
 |[a]=>if q.2.1=m/\az a=U then(oN b N O q.1).map fun i=>([a],fun l=>c i<|g0 l)else L
 |_=>L
theorem BJ(k:∀Ob O i x e p1 apos cpos pos φ,X.N[i]?=Z x->i∈O->qm X.env.scope x->alz x->#[5]=η->az e=U->#[8]=U->JE X e (tD W O φ)->JS X (.Expr (.Call (.Attribute #[20] m apos) [e] [] cpos) pos) (sD W Ob O O<|c i φ)):Jc X W<|WJ m c:=fun Ob O s es b g h j=>by
 mstop
 obtain⟨e,d,h⟩:=h;obtain⟨_,rfl⟩:=Ht d
 mstop
 obtain⟨⟨o,f,r⟩,h1,h⟩:=h;obtain⟨apos,cpos,rfl,h2⟩:=zz h1;dsimp only at h;cbv
 .cbv
  .rename_i hq
   replace h:=iN.mp h
   let⟨i,h3,h⟩:=h
   nofun;refine Z26 (vM h3) fun x p r0_ a1 a2 a3 a4 a5=>?_;subst r0_;obtain⟨φ,rfl,a⟩:=z9 j;rw[hq.1];exact k _ _ _ _ _ _ _ _ _ _ a1 a2 a3 a4 a5 hq.2 h2 a
  .nofun
 .nofun
theorem M7:Jc X W<|WJ "pop" wm:=BJ fun Ob O i x e p1 apos cpos pos φ h1 h2 c d f b g h=>by
 have a:afY [e] X.env=[(η,eval e X.env)]:=bn b;exact LN h2 h h1 b g c d f rfl rfl (by rw[a];rfl) (by rw[a];rfl)
def adj:Fs:=fun a N O s=>(aS s).bind fun q=>(cS q.1).bind fun r=>if F7 q.2=U then L else(oN a N O r.1).map fun i=>([r.2,q.2],fun l=>zN i (g0 l)<|g1 l)
def Xn:Fs:=fun a N O s=>match s with
 |.AugAssign (.Name x _) .Add e _=>(Ru N x).bind fun i=>if i∉O/\N.Nodup/\a.names.lookup x=Z .local then Z ([e],fun l=>rZ i<|g0 l)else L
 |_=>L
def aaO:agR->Bool
 |.Call ..=>U
 |_=>η
def adc:Fs:=fun a N O s=>(aS s).bind fun q=>if aaO q.2=U/\IB q.1=U/\N.Nodup then(yU N O a (fun _=>η) q.1).map fun g=>([q.2],fun l=>Of (fW g)<|g0 l)else L
def WL:Fs:=fun _ _ _ s=>(xE s).bind fun e=>if F7 e=U then L else Z ([e],fun l=>EA<|g0 l)
end
theorem Kl(its:alw):slicePick its.toArray L L (Z<|-1)=its.reverse.toArray:=by
 unfold slicePick;have hb:aiJ L L (Z<|-1) its.toArray.size=((its.length:Int)-1,-1,-1):=by simp[aiJ]
 rw[hb];congr 1;have hr:sliceRange ((its.length:Int)-1) (-1) (-1)=(agj its.length).map fun k=>its.length-1-k:=by
  unfold sliceRange;have b:(if(-1:Int) > 0 then(if(its.length:Int)-1 < -1 then(-1-((its.length:Int)-1)+-1-1)/(-1)else 0)else(if(its.length:Int)-1 > -1 then((its.length:Int)-1 - -1 - -1-1)/(- -1)else 0)).toNat=its.length:=by
   rw[alj<|∎,show(- -1:Int)=1 from rfl,Int.ediv_one];split<;>lia
  simp only[b];apply agM
  intro k a
  have:=agO.mp a
  lia
 rw[hr];have key:∀n,n<=its.length->((agj n).map fun k=>its.length-1-k).filterMap (its.toArray[·]?)=its.reverse.take n:=by
  intro n;induction n with
  |zero=>intro _;rfl
  |succ n c=>
   intro hn;have d:n<its.reverse.length:=by rw[akv];assumption
   rw[List.range_succ,RW,List.filterMap_append,c<|⊥,agq d];congr 1
   have:its[its.length-1-n]?=Z its.reverse[n]:=by
    rw[List.getElem_reverse];exact lE #[24]
   simp[this]
 rw[key its.length<|nE _,agW<|∅]
section
variable{X:Cx}{W:Wd}{O:alp}{e st:agR}{p2 pos:Pos}{te ts:TE}{φ ψ:FE}
def adm(K:aT)(te ts:TE):TE:=fun Y H Q=>te Y H fun x H1=>ts Y H1 fun y b=>∃a xs,x=.ref a/\dF K b a xs/\y=.int (-1)/\∀p,b p=L->Q (.ref p) (upd b p<|.lst xs.reverse)
theorem Rz(p:PE X e te)(hs:PE X st ts):PE X (.Subscript e (.Slice L L (Z st) p2) pos)<|adm X.K te ts:=by
 intro d s Y H Q I h;refine Subscript_<|bX (p d s Y H _ I h) fun v j l=>iW l fun x H1 n r1 i=>?_;refine wpAny_Slice ?_;refine lT ?_;refine lT ?_;refine bX (hs d j Y H1 _ n i) fun y s2 q_=>Z23 q_ fun y' H2 I2 r2 q2=>?_;obtain⟨a,xs,rfl,k,rfl,q⟩:=q2;cases r1;obtain⟨g,rfl⟩:=r2;have c:Inv X d Y H2 {s2 with heap:=s2.heap.push {cls:=.type "slice",data:=.fields #[.none,.none,.int (-1) g]}}:=I2.kept fun b m q=>eQ _ q;let⟨its,r,ht,hz⟩:=c.list k
 have f:=r.length;refine tail_any ht.isList.typeIs slot_list_getitem.lookup ?_ (by rfl);refine wpAny_getItem_list_slice ht.isList (akF ..) .none .none (.int (-1) g) ∅ ?_ (by mright);rw[Kl];exact⟨.ref _,_,c.laid (o:=.lst xs.reverse) (fun b m q=>eQ _ q) (nE _) ⟨by simp_all,_,0,r.reverse,ID _ rfl⟩,rfl,q _<|c.hok.fresh<|nE _⟩
noncomputable def acy(a b:D):R D:=match a,b with
 |.lst xs,.int k=>if k=-1 then .ok (.lst xs.reverse)else .no
 |_,_=>.no
theorem aE.rev{K:aT}(h:aE K H ds xs):aE K H ds.reverse xs.reverse:=by
 induction ds generalizing xs with
 |nil=>nofun;exact rfl
 |cons d ds a=>
  obtain⟨v,vs,rfl,h1,h2⟩:=h;rw[aib,aib];exact(a h2).append ⟨v,[],rfl,h1,rfl⟩
theorem XB(f:W.K=X.K)(l:JE X e<|tD W O φ)(hs:JE X st<|tD W O ψ):JE X (.Subscript e (.Slice L L (Z st) p2) pos)<|tD W O<|aJ acy φ ψ:=
 (JE.mk<|Rz l.out hs.out).imp fun Y H Q i=>cx i fun as0 B own Uq0 I h=>⟨as0,B,own,Uq0,I,bA h fun x v H1 b j h1=>⟨as0,B,own,Uq0,I.mono b,bA h1 fun y u m c d h2=>by
  unfold acy at h2;split at h2
  .split at h2
   .rename_i hk;cases d;obtain⟨p,vs,rfl,g,k⟩:=j.mono<|aM c;refine⟨p,vs,rfl,f▸(ap _ _).seq g,by rw[hk],fun p a=>h2 _ _ (aH a _) ⟨p,_,rfl,.inl<|.inl<|by rw[aO<|((I.mono b).mono c).new a];exact aG,k.rev.mono<|aM<|aH a _⟩⟩
   .exact h2.elim
  .exact h2.elim⟩⟩
end
def ZH:Fm:=fun _ _ _ e=>match e with
 |.Subscript a (.Slice L L (Z st) _) _=>Z ([a,st],fun l=>aJ acy (g0 l)<|g1 l)
 |_=>L
end L2
namespace LU
open PySem PyProof.Rows PySem.SeqAt
open PySem.AutoSeq1 (wpAny_loadPart')
open PySem.MeetsSeq PySem.MeetsSeq2 PySem.MeetsSeq3
inductive Or where
 |lt
def Or.op:Or->CmpOp
 |.lt=>.Lt
def Or.bu:Or->Builtin
 |.lt=>Builtin.«tuple.__lt__»
def Or.sz:Or->Nat->Nat->Bool
 |.lt,m,n=>decide (m<n)
def Or.i:Or->Int->Int->Bool
 |.lt,m,n=>decide (m<n)
noncomputable def Or.s:Or->alp->alp->Bool
 |.lt,x,y=>decide (x<y)
def sM(o:Or)(A:ahU)(s:MK)(y x:By)(b:Bool):Prop:=
 ∀(prog:ahb)(w:agN)(E:als)(Q:als),Q (.bool b) s->af0 #[4] A (richCompare o.op y x) Q E s
inductive Lx(o:Or)(A:ahU)(s:MK):alw->alw->Bool->Prop
 |nn:Lx o A s [] [] (o.sz 0 0)
 |nc {y:By} {ys:alw}:Lx o A s [] (y::ys) (o.sz 0 1)
 |cn {x:By} {xs:alw}:Lx o A s (x::xs) [] (o.sz 1 0)
 |eq {x y:By} {xs ys:alw} {b:Bool} (h:EqAt A s x y U) (t:Lx o A s xs ys b):Lx o A s (x::xs) (y::ys) b
 |ne {x y:By} {xs ys:alw} {b:Bool} (h:EqAt A s x y η) (t:sM o A s x y b):Lx o A s (x::xs) (y::ys) b
theorem Or.sz_of(o:Or)(h1:m<n↔a<b)(h2:n<m↔b<a):o.sz a b=o.sz m n:=by
 cases o;unfold Or.sz;lia
theorem Jz(o:Or)(l b:aga)(c a:Array By)(n F:Nat)(D B:Option aga)(C z:Array<|Option By)(r:Bool):
  Meets (o.bu ⟨[.ref l,.ref b],[]⟩)
   (fun A R s=>s.heap.get? l=Z {cls:=.type "tuple",dict:=D,data:=.seq c n,slots:=C}/\s.heap.get? b=Z {cls:=.type "tuple",dict:=B,data:=.seq a F,slots:=z} /\
    Lx o A.in1 s c.toList a.toList r/\R (.ok (.ret (.bool r))) s):=by
 refine .of_wp fun prog w A R s h=>?_;obtain⟨t,g,d,q,os⟩:=s;obtain⟨E,hb,i,h⟩:=h;have G:=AutoSeq1.sub_tuple_tuple;have key:∀(vs ws:alw),([]:List<|By×By)=vs.zip ws->Lx o A.in1 ⟨t,g,d,q,os⟩ vs ws r->vs.length+a.size=ws.length+c.size->r=o.sz c.size a.size:=fun vs ws hz i e=>by
  cases i with
  |nn=>simp only[aka]at e;exact o.sz_of #[24] #[24]
  |nc=>simp only[aka,afW]at e;exact o.sz_of #[24] #[24]
  |cn=>simp only[aka,afW]at e;exact o.sz_of #[24] #[24]
  |eq p k=>rw[ah4]at hz;cases hz
  |ne p k=>rw[ah4]at hz;cases hz
 obtain⟨P,m,f⟩:∃P:alw->alw->Prop,(∀vs ws,Lx o A.in1 ⟨t,g,d,q,os⟩ vs ws r->P vs ws)/\∀vs ws,P vs ws->Lx o A.in1 ⟨t,g,d,q,os⟩ vs ws r:=⟨_,fun _ _ h=>h,fun _ _ h=>h⟩;cases o
 all_goals
  unfold Or.bu;dsimp only
  wp_walk using ahr E,ahr hb,wpAny_forIn_list _ (fun rest b u=>b.1=L/\u=⟨t,g,d,q,os⟩/\∃(vs ws:alw) , rest=vs.zip ws /\
   P vs ws/\vs.length+a.size=ws.length+c.size) _
  case turn=>
   rintro⟨y,x⟩ rest b u ⟨hb',rfl,vs,ws,hz,i,e⟩;cases f _ _ i with
   |nn=>cases hz
   |nc=>cases hz
   |cn=>rw[List.zip_nil_right]at hz;cases hz
   |eq p k=>
    rw[ah4]at hz;injection hz with hyx hrest
    injection hyx with hy hx2
    subst hy hx2;simp only[afW]at e;refine bY<|p prog w _ _ ?_
    wp_walk
    exact⟨rfl,rfl,_,_,hrest,m _ _ k,by omega⟩
   |ne p k=>
    rw[ah4]at hz;injection hz with hyx hrest
    injection hyx with hy hx2
    subst hy hx2;refine bY<|p prog w _ _ ?_;have j:=k prog w;unfold Or.op at j;dsimp only at j
    wp_walk using j
    exact⟨_,rfl,by simpa using h⟩
  case fin=>
   rintro⟨b1,b2⟩ u ⟨hb',rfl,vs,ws,hz,i,e⟩;simp only at hb';subst hb';have v:=key vs ws hz (f _ _ i) e;unfold Or.sz at v;dsimp only at v;rw[v]at h
   wp_walk
   exact⟨_,rfl,by simpa[Builtin.Tuple.tupleCompareSizes]using h⟩
  case h=>
   exact⟨rfl,rfl,c.toList,a.toList,rfl,m _ _ i,by simp;omega⟩
theorem sM.tup(v:akW s.heap l items)(hb:akW s.heap b items2)(d:Lx o A.in1 s items.toList items2.toList r)(e:A.units<aiV):sM o A s (.ref l) (.ref b) r:=fun prog w E Q h=>by
 obtain⟨⟨y,u,k,t⟩,c,C,n,q⟩:=id v;obtain⟨⟨p,i,data2,g⟩,a,j,B,f⟩:=id hb;subst C q j f;have m:=Jz o l b items items2 n B u i t g r;have z:alf r≠Value.notImplemented/\Q (.bool r) s:=⟨(fun x=>nomatch x),h⟩
 cases o;exact richCompare_meets_room ⟨_,c,rfl⟩ ⟨_,a,rfl⟩ PySem.F.slot_tuple_lt PySem.F.entry_tuple_lt (PySem.F.args_tuple_lt_2 _ _) m ⟨c,a,d,z⟩ e
theorem sM.int(a:Int)(t:Tok)(c:Int)(u:Tok):sM o A s (.int a t) (.int c u)<|o.i a c:=fun prog w E Q h=>by cases o;exact PyProof.Rows.lt_int h
theorem sM.str(a:Str)(t:Tok)(c:Str)(u:Tok):sM o A s (.str a t) (.str c u)<|o.s a.cps.toList c.cps.toList:=fun prog w E Q h=>by cases o;exact PyProof.Rows.lt_str h
mutual
def cpP(o:Or):ahq->ahq->Option Bool
 |.int i,.int j=>Z<|o.i i j
 |.str x,.str y=>Z<|o.s x.cps.toList y.cps.toList
 |.tuple xs,.tuple ys=>cpPs o xs ys
 |_,_=>L
def cpPs(o:Or):List ahq->List ahq->Option Bool
 |[],[]=>Z<|o.sz 0 0
 |[],_::_=>Z<|o.sz 0 1
 |_::_,[]=>Z<|o.sz 1 0
 |x::xs,y::ys=>if agS x y=U then cpPs o xs ys else cpP o x y
end
mutual
theorem B9(o:Or):∀(p q:ahq)(A:ahU)(s:MK)(a b:By)(as bs:alv)(k:Bool),Reads s.heap a p as->Reads s.heap b q bs->p.canLay0=U->q.canLay0=U->cpP o p q=Z k->A.units+min p.depth q.depth<aiV->sM o A s a b k
 |.int i,q,A,s,_,_,_,_,k,ra,rb,ha,hb,e,hu=>by
  cases ra with
  |int x t=>
   cases rb with
   |int y u=>cases e;exact sM.int _ _ _ _
   |_=>cases e
 |.str i,q,A,s,_,_,_,_,k,ra,rb,ha,hb,e,hu=>by
  cases ra with
  |str x t=>
   cases rb with
   |str y u=>cases e;exact sM.str _ _ _ _
   |_=>cases e
 |.tuple xs,q,A,s,_,_,_,_,k,ra,rb,ha,hb,e,hu=>by
  cases ra with
  |@tuple l o vs n _ as₁ h1 h2 h3 h4=>
   cases rb with
   |@tuple l' o' vs' n' ys bs₁ k1 k2 k3 k4=>
    exact sM.tup ⟨_,h1,h2,_,h3⟩ ⟨_,k1,k2,_,k3⟩ (tY _ xs ys A.in1 s _ _ _ _ k h4 k4 ha hb e<|room_in hu)<|room_here hu
   |_=>cases e
 |.none,q,_,_,_,_,_,_,_,_,_,_,_,e,_=>nomatch e
 |.bool _,q,_,_,_,_,_,_,_,_,_,_,_,e,_=>nomatch e
 |.list _,q,_,_,_,_,_,_,_,_,_,_,_,e,_=>nomatch e
 |.dict _,q,_,_,_,_,_,_,_,_,_,_,_,e,_=>nomatch e
theorem tY(o:Or):∀(xs ys:List ahq)(A:ahU)(s:MK)(vs ws:alw)(as bs:alv)(k:Bool),ReadsAll s.heap vs xs as->ReadsAll s.heap ws ys bs->ags xs=U->ags ys=U->cpPs o xs ys=Z k->A.units+min (ahe xs) (ahe ys)<aiV->Lx o A s vs ws k
 |[],ys,A,s,_,_,_,_,k,ra,rb,ha,hb,e,hu=>by
  cases ra;cases rb with
  |nil=>cases e;exact .nn
  |cons r d=>cases e;exact .nc
 |x::xs,[],A,s,_,_,_,_,k,ra,rb,ha,hb,e,hu=>by
  cases ra with
  |cons r d=>
   cases rb;cases e;exact .cn
 |x::xs,y::ys,A,s,_,_,_,_,k,ra,rb,ha,hb,e,hu=>by
  cases ra with
  |cons r d=>
   cases rb with
   |cons f c=>
    have a:x.canLay0=U/\ags xs=U:=by simpa[ags]using ha
    have b:y.canLay0=U/\ags ys=U:=by simpa[ags]using hb
    unfold cpPs at e;have q:=eqAt_reads x y A s _ _ _ _ r f a.1 b.1<|room_head hu;split at e
    .rename_i h;rw[h]at q;exact .eq q (tY o xs ys A s _ _ _ _ k d c a.2 b.2 e<|room_tail hu)
    .rename_i h;rw[Bool.not_eq_true]at h;rw[h]at q;exact .ne q (B9 o x y A s _ _ _ _ k r f a.1 b.1 e<|room_head hu)
end
end LU
namespace KS
open PySem PySem.W PyProof.Rows
section
variable{α β:Type}
noncomputable def Bl(f:Nat->Nat->Option Bool):KasT α->Option α
 |.ret a=>Z a
 |.ask i j k=>(f i j).bind fun b=>Bl f<|k b
theorem KR(c:∀i j b,f i j=Z b->∀C:Bool->MK->Prop,C b s->QM i j C s):∀(t:KasT α)(a:α),Bl f t=Z a->Q a s->t.kasWp QM Q s
 |.ret a,_,h,q=>by nofun;exact q
 |.ask i j k,a,h,q=>by
  let⟨b,e,h⟩:=dO.mp h
  exact c i j b e _<|KR c (k b) a h q
def Al(n:Nat)(P:α->Prop):KasT α->Prop
 |.ret a=>P a
 |.ask i j k=>(i<n/\j<n)/\∀b,Al n P<|k b
theorem IU:∀{t:KasT α},Al n P t->Bl f t=Z a->P a
 |.ret _,h,e=>by cases e;exact h
 |.ask i j k,h,e=>by
  let⟨b,_,e⟩:=dO.mp e
  exact IU (h.2 b) e
theorem DD{n:Nat}{P:α->Prop}{f:Nat->Nat->Option Bool}(c:∀i j,i<n->j<n->∃b,f i j=Z b):∀{t:KasT α},Al n P t->∃a,Bl f t=Z a
 |.ret a,_=>⟨a,rfl⟩
 |.ask i j k,h=>by
  let⟨b,e⟩:=c i j h.1.1 h.1.2
  let⟨a,e2⟩:=DD c<|h.2 b
  exact⟨a,by unfold Bl;rw[e];exact e2⟩
theorem lX{Q:β->Prop}(hg:∀a,P a->Al n Q (g a)):∀{t:KasT α},Al n P t->Al n Q (t.bind g)
 |.ret a,h=>hg a h
 |.ask i j k,h=>⟨h.1,fun b=>lX hg<|h.2 b⟩
theorem my{n:Nat}{P:α->Prop}{c:Prop}[Decidable c]{t u:KasT α}(h:Al n P t)(g:Al n P u):Al n P<|if c then t else u:=by
 split
 .exact h
 .exact g
end
section
variable{R:Array Nat->Prop}(hg:∀p i,R p->p.getD i 0<m)(hr:∀p i j,R p->R (kas_rev p i j))(hb:∀p k d,R p->R (bubble p k d))
include hg
theorem AK(h:R p):∀f n,Al m (fun _=>True) (kas_asc p f n)
 |0,_=>af2
 |f+1,n=>⟨⟨hg _ _ h,hg _ _ h⟩,fun b=>my af2<|AK h f<|n+1⟩
include hr in
theorem rH:∀f p n q,R p->Al m (fun r=>R r.1) (kas_desc f p n q)
 |0,p,n,q,h=>h
 |f+1,p,n,q,h=>⟨⟨hg _ _ h,hg _ _ h⟩,fun b=>my (my (rH f _ _ _<|hr _ _ _ h)<|rH f _ _ _ h) ⟨⟨hg _ _ h,hg _ _ h⟩,fun d=>my h<|rH f _ _ _ h⟩⟩
include hr in
theorem Cz(n k:Nat)(h:R p):Al m (fun r=>R r.2)<|kas_tail3 n k p:=by
 refine lX (fun _ _=>?_)<|AK hg (hr _ _ _ h) _ _;exact hr p 0 n h
include hr in
theorem QI(n k:Nat)(h:R p):Al m (fun r=>R r.2)<|kas_descPart n k p:=by
 exact lX (fun r z=>my (Cz hg hr _ _<|hr _ _ _ z)<|Cz hg hr _ _ z)<|rH hg hr _ p _ _ h
include hr in
theorem G0(k:Nat)(h:R p):Al m (fun r=>R r.2)<|kas_count k p:=by
 refine lX (fun n _=>?_)<|AK hg h _ _;split
 .exact h
 .split
  .refine⟨⟨hg _ _ h,hg _ _ h⟩,fun b=>?_⟩;dsimp only;split
   .exact h
   .exact QI hg hr _ _ (hr _ _ _ h)
  .exact QI hg hr _ _ h
theorem ua(h:R p)(k:Nat):∀f l r,Al m (fun _=>True) (kas_place p k f l r)
 |0,_,_=>af2
 |f+1,l,r=>my af2 ⟨⟨hg _ _ h,hg _ _ h⟩,fun _=>my (ua h k f _ _)<|ua h k f _ _⟩
include hb in
theorem Jh:∀f p k,R p->Al m R (kas_bin f p k)
 |0,p,k,h=>h
 |f+1,p,k,h=>lX (fun l _=>Jh f _ _<|hb _ _ _ h)<|ua hg h _ _ _ _
include hr hb in
theorem Nd(h:R<|List.toArray<|agj n):Al m R<|kas_sort n:=by
 exact lX (fun r z=>by split;exact Jh hg hb _ _ _ z;exact z)<|G0 hg hr _ h
end
theorem HE(a:0<n):Al n (fun p:Array Nat=>p.toList.Perm<|agj n)<|kas_sort n:=Nd
 (fun p i h=>by
  rw[Array.getD_eq_getD_getElem?,<-ahB];cases e:p.toList[i]? with
  |none=>exact a
  |some x=>exact agO.mp (h.mem_iff.mp (agm e)))
 (fun p i j h=>(ajm.mp<|mirror_perm _ _ _ _).trans h) (fun p k d h=>(ajm.mp<|bubble_perm _ _ _).trans h) (by rfl)
section
theorem Hu(h2:2<=it.size)(g:it.size<64)(l:∀i j b,f i j=Z b->∀C:Bool->MK->Prop,C b s->kas_cmp prog w A κ it i j C s)(k:Bl f (kas_sort it.size)=Z p)
  (h:∀a,arrOf a=p.map (kas_item it)->failedOf a=L->p.size=it.size->Q () a s):kasC #[4] A E sortRuns' Q (alg κ it #[] 7 L) s:=by
 have e:kas_st κ it (List.toArray<|agj it.size)=alg κ it #[] 7 L:=by unfold kas_st;rw[kas_range]
 rw[<-e];exact kas_runs (G:=fun d c=>d=p/\c=s) h2 g (fun d a c h1 h3 h4⟨e1,e2⟩=>by mright)<|KR l _ _ k ⟨rfl,rfl⟩
end
end KS
namespace KS
open PySem PySem.W PyProof.Rows PySem.SeqAt
def Nv(ks:List ahq)(i j:Nat):Option Bool:=(ks[i]?).bind fun a=>(ks[j]?).bind fun b=>LU.cpP .lt a b
def sL(ks:List ahq):Option<|alp:=if ks.length<2 then Z (agj ks.length)else(Bl (Nv ks)<|kas_sort ks.length).map Array.toList
theorem kc(h:sL ks=Z p):p.Perm<|agj ks.length:=by
 unfold sL at h;cbv
 .grind
 .obtain⟨q,e,rfl⟩:=iN.mp h;exact IU (P:=fun p  => p.toList.Perm<|agj ks.length) (HE<|by omega) e
theorem G3(h:∀a∈ks,∀b∈ks,∃r,LU.cpP .lt a b=Z r):∃p,sL ks=Z p:=by
 unfold sL;split
 .lia
 .obtain⟨p,e⟩:=DD (f:=Nv ks) (fun i j c d=>by
   let⟨r,e⟩:=h _ (afV c) _<|afV d
   exact⟨r,by unfold Nv;mright⟩) (HE #[24])
  exact⟨_,by rw[e];rfl⟩
noncomputable def pkL{α:Type}(d:α)(p:alp)(l:List α):List α:=p.map fun i=>l.getD i d
theorem JX(d:α)(l:List α):pkL d (agj l.length) l=l:=by
 refine akT fun k=>?_;unfold pkL;rcases ajp k l.length with h|h
 .mright
 mright
section
variable{prog:ahb}{w:agN}{A:ahU}{E:als}{s:MK}
theorem Ss(h:LU.Lx .lt A s vs ws r):vs.length=ws.length->Q r s->∀i,KatLex prog w A η η Q (vs.zip ws) i s:=by
 induction h with
 |nn=>exact fun _ q i=>kat_nil q
 |nc=>grind
 |cn=>mright
 |eq a _ b=>exact fun z q i=>kat_cons<|a prog w _ _<|kat_yes<|b (Nat.succ.inj z) q<|i+1
 |ne a t=>exact fun z q i=>kat_cons<|a prog w _ _<|kat_no<|kat_one _ _<|t prog w _ _<|(q)
noncomputable def isK:ahq->Bool
 |.tuple [.tuple _,_]=>U
 |_=>η
theorem wU(h:isK p=U):∃x y,p=.tuple [.tuple x,y]:=by
 unfold isK at h;cbv
 .lia
 .nofun
theorem AQ:∀{xs:List ahq}{vs:alw}{as:alv},ReadsAll h vs xs as->vs.length=xs.length:=@bb _ _ (@fun _ _ r=>by cases r;rfl) fun x xs i=>@fun _ _ r=>by
  cases r with
  |cons _ a=>rw[afW,afW,i a]
theorem MF(ru:Reads s.heap u p as)(c:Reads s.heap v q bs)(g:isK p=U)(b:isK q=U)(a:agk p=U)(d:agk q=U)(i:A.units+64<aiV)(e:LU.cpP .lt p q=Z r)(h:Q r s):af0 #[4] A (keyLt' (tuples' η) u v) Q (fun _ _=>False) s:=by
 obtain⟨x,y,rfl⟩:=wU g;obtain⟨j,k,rfl⟩:=wU b;cases ru with
 |@tuple l o vs n _ as₁ h1 h2 h3 h4=>
  cases c with
  |@tuple l' o' vs' n' _ bs₁ k1 k2 k3 k4=>
   have l1:=AQ h4;have l2:=AQ k4;have f:(ajq [.tuple x,y]).depth<=64:=by
    unfold agk at a;mright
   have z:=Ss (prog:=prog) (w:=w) (LU.tY .lt _ _ A s _ _ _ _ r h4 k4 (ah2 a) (ah2 d) e (by
    have  := by
     rw[ah7]at f;omega
    lia)) (by rw[l1,l2];rfl) h 0
   refine kat_lt h1 h3 k1 k3 ?_
   grind
end
section
variable{prog:ahb}{w:agN}{A:ahU}{E:als}{s:MK}{a kS:aga}{ks vs:alw}
noncomputable def Li(h:aij)(kS a:aga)(out:alw):aij:=(h.update kS<|agv fun _=>(#[]:Array By)).update a<|agv fun _=>out.toArray
theorem CS{st:SortSt}(d:s.heap.get? a=Z (ag6 "list" #[] e1))(i:s.heap.get? kS=Z (ag6 "list" ks.toArray e))(c:a≠kS)
  (b:(arrOf st).map (·.2)=out.toArray) (hz:out.length<=1000000) (f:ks.length<=1000000) (g:failedOf st=L) (h:P (.done<|.ret .none) {s with heap:=Li s.heap kS a out}):af0 #[4] A (ksk_tail a η e1 (.ref kS) st) P E s:=by
 have na'  := ((aho s.heap kS<|agv fun _=>#[]).2 a c).trans d;unfold ksk_tail;rw[b];refine bY<|ajS i rfl ?_ (by rw[af3,agI];lia) (acr _);refine bY<|wpAny_letGo ?_;refine bY<|seqEpoch_at na' rfl ?_;refine bY<|ajS na' rfl ?_ (acr _) (by simp only[ahA,if_false,af3,agI];lia);rw[g];simp only[bne_self_eq_false,ahA,if_false];exact lT h
inductive RdK(h:aij):alw->List ahq->Prop
 |nil:RdK h [] []
 |cons {u:By} {p:ahq} {as:alv} {us:alw} {ps:List ahq} (r:Reads h u p as) (k:isK p=U) (l:agk p=U) (t:RdK h us ps):RdK h (u::us) (p::ps)
theorem RdK.len(r:RdK h us ps):us.length=ps.length:=by
 induction r with
 |nil=>rfl
 |cons _ _ _ _ a=>mright
theorem RdK.at(r:RdK h us ps):∀{i:Nat}{p:ahq},ps[i]?=Z p->∃as,Reads h (us.getD i .none) p as/\isK p=U/\agk p=U:=by
 induction r with
 |nil=>mright
 |@cons u q as us ps r k l t ih=>
  intro i p e;cases i with
  |zero=>cases e;exact⟨as,r,k,l⟩
  |succ i=>exact ih e
theorem RdK.firsts(r:RdK h us ps):∃fs,KatTups h us fs/\fs.length=us.length/\∀v∈fs,∃q o,v=ahG q/\h.get? q=Z o/\o.cls=.type "tuple":=by
 induction r with
 |nil=>exact⟨[],KatTups.nil,rfl,fun v a=>nomatch a⟩
 |@cons u p as us ps r k l t ih=>
  let⟨fs,f1,f2,f3⟩:=ih
  obtain⟨x,y,rfl⟩:=wU k;cases r with
  |@tuple l o vs n _ as₁ h1 h2 h3 h4=>
   match e:vs.toList,h4 with
   |_,.cons r0 _=>
    cases r0 with
    |@tuple l' o' vs' n' _ bs₁ k1 k2 k3 k4=>
     refine⟨.ref l'::fs,KatTups.cons h1 h2 h3 (by rw[<-ahB,e];rfl) f1,by simp[f2],fun v a=>?_⟩
     grind
theorem item_at(b:ks.length=vs.length)(a:i<vs.length):kas_item (ks.toArray.zip vs.toArray) i=(ks.getD i .none,vs.getD i .none):=by
 unfold kas_item;mright
theorem Rj(F:A.units+64<aiV)(l:ks.length=vs.length)(hz:vs.length<=63)(u:s.heap.get? a=Z (ag6 "list" #[] e1))(z:s.heap.get? kS=Z (ag6 "list" ks.toArray e))(k:a≠kS)
  (n:RdK s.heap ks ps) (c:sL ps=Z p) (h:P (.done<|.ret .none) {s with heap:=Li s.heap kS a<|pkL .none p vs}):af0 #[4] A (ksk_end a η vs.toArray e1 (.ref kS) ks.toArray) P E s:=by
 have m:=n.len;have t:=kc c;have B:(ks.toArray.zip vs.toArray).toList=ks.zip vs:=∅
 have zs:(ks.toArray.zip vs.toArray).size=vs.length:=by rw[<-ait,B,List.length_zip];lia
 unfold ksk_end;try dsimp only
 unfold sL at c;by_cases h2:vs.length<2
 .have hn2:vs.toArray.size<2:=by rw[af3];omega
  rw[ali<|⊥]at c;cases c;rw[alj Le,ali hn2,ali hn2];refine bY<|lT ?_;rw[alj Le];refine bY<|lT ?_;rw[<-m,l,JX]at h;refine CS (st:=alg general' (ks.toArray.zip vs.toArray) #[] 7 L) (out:=vs) u z k ?_ ⊥ ⊥ rfl h;show(ks.toArray.zip vs.toArray).map (·.2)=_;apply ak2.mp
  rw[ajX,B];exact List.map_snd_zip ⊥
 .have hn2:¬vs.toArray.size<2:=by rw[af3];omega
  rw[alj<|⊥]at c;obtain⟨q,eq,rfl⟩:=iN.mp c;let⟨fs,f1,f2,f3⟩:=n.firsts
  rw[alj Le,alj hn2,alj hn2];refine bY<|kat_kind (T:=.type "tuple") f1 ⊥ (fun v I=>?_) ⊤ ?_
  .obtain⟨x,o,rfl,g1,g2⟩:=f3 v I;exact g2▸(Looks.ld g1).andThen .now
  rw[alj Le];have H:tuples' ((ajz "tuple") != ajz "tuple")=tuples' η:=by rfl
  rw[H];rw[<-m,l,<-zs]at eq;refine bY (show af0 _ _ _ _ _ _ from Hu (Q:=fun _ d G=>af0 #[4] A (ksk_tail a η e1 (ahG kS) d) P E G) (f:=Nv ps) ⊥ ⊥ (fun i j b g C D=>?_) eq fun d g1 g2 K=>?_)
  .let⟨x,ex,g⟩:=dO.mp g
   let⟨y,ey,g⟩:=dO.mp g
   let⟨as,r1,k1,l1⟩:=n.at ex
   let⟨bs,r2,k2,l2⟩:=n.at ey
   have r:i<vs.length:=by have:=(af1.mp ex).1;lia
   have J:j<vs.length:=by have:=(af1.mp ey).1;lia
   unfold kas_cmp;rw[item_at l r,item_at l J];exact MF r1 r2 k1 k2 l1 l2 F g D
  .refine CS (out:=pkL .none q.toList vs) u z k ?_ (by unfold pkL;rw[iF,t.length_eq,agC];lia) ⊥ g2 h;rw[g1];apply ak2.mp
   rw[ajX,ajX,af8];refine agM fun i r=>?_
   have:=agO.mp<|t.mem_iff.mp r
   show(kas_item _ i).2=_;rw[item_at l<|⊥]
end
end KS
namespace L2
open PySem PySem.Spec PyProof.Rows
open KS (sL pkL)
def ik(F:aly->R D)(d:D):D:=match F [d]with
 |.ok k=>k
 |_=>.non
def BW(F:aly->R D):aly->Option (List ahq)
 |[]=>Z []
 |d::r=>match F [d]with
  |.ok k=>(bM k).bind fun p=>if KS.isK p=U/\agk p=U then(BW F r).map (p::·)else L
  |_=>L
def tT(F:aly->R D)(ds:aly):R D:=match ds with
 |[.lst xs]=>if xs.length<=63 then(match(BW F xs).bind sL with
  |some p=>.ok<|.lst<|pkL .non p xs
  |none=>.no)else .no
 |_=>.no
theorem tH{F:aly->R D}{d:D}{r:aly}{l:List ahq}(h:BW F (d::r)=Z l):∃k p ps,l=p::ps/\F [d]=.ok k/\bM k=Z p/\KS.isK p=U/\agk p=U/\BW F r=Z ps:=by
 unfold BW at h;cbv
 .let⟨p,e2,h⟩:=dO.mp h
  cbv
  .obtain⟨ps,a,rfl⟩:=iN.mp h
   grind
  .nofun
 .nofun
theorem Eg:∀{ds:aly}{l:List ahq},BW F ds=Z l->∀d∈ds,∃k,F [d]=.ok k:=@bb _ _ (@fun _ _ d h=>nomatch h) fun e r i=>@fun _ h d hd=>by
  refine Z36 (tH h) fun k p ps r0_ h1 _ _ _ h2=>?_;subst r0_;rcases oR.mp hd with rfl|hd
  .exact⟨k,h1⟩
  .exact i h2 d hd
theorem kys_len:∀{ds:aly}{l:List ahq},BW F ds=Z l->l.length=ds.length:=@bb _ _ (@fun _ h=>by nofun;rfl) fun e r i=>@fun _ h=>by
  refine Z36 (tH h) fun k p ps r0_ _ _ _ _ h2=>?_;subst r0_;rw[afW,afW,i h2]
theorem C1(r:aY xs us):∀{p:alp},(∀i∈p,i<xs.length)->aY (pkL (.int 0) p xs) (pkL .none p us):=@bb _ _ (@fun _=>.nil) fun i t k=>@fun h=>by
  have e:=lE (h i<|∅);obtain⟨u,b,ru⟩:=r.get e;refine .cons ?_ (k fun j a=>h j<|mK _ a);mright
theorem CF{K:aT}(r:aE K H ds xs):∀{p:alp},(∀i∈p,i<xs.length)->aE K H (pkL .non p ds) (pkL (.int 0) p xs):=@bb _ _ (@fun _=>aE.nil) fun i t k=>@fun h=>by
  have e:=lE (h i<|∅);obtain⟨u,b,ru⟩:=r.got e;refine aE.cons ?_<|k fun j a=>h j<|mK _ a;mright
section
variable{Y:St}
theorem JF(G:FnOk X.prog X.w X.K X.mg X.base j8 k f fd ps sp)(hr:Room k X.A.in1.in1)(hb:gu X.K fd ps [])
  (I:Inv X aa Y H s) (r:aY vs us) (h:sp vs H Q E0):af0 #[1] X.A.in1.in1 (call (.ref f) us) (EP X aa Y Q) E s:=by
 have g:(us++[]).length=ps.length:=by rw[agh,<-r.length];exact G.len _ _ _ _ h
 have b:=hb s us I.kIn g;rw[agh]at b;refine wpAny_call<|fH I.tk<|aix (G.run X.A.in1.in1 X.stack s H ⟨us,[]⟩ us vs Q E0 hr I.env0.in1.in1 b r h) fun r i a c=>?_;cases r with
 |error e=>exact ag7 a
 |ok d=>
  cases d with
  |ret u=>exact I.after a
  |next=>exact ag7 a
  |brk=>exact ag7 a
  |cont=>exact ag7 a
def qp(kS:aga)(H H':Hp):Prop:=∀b o,b≠kS->H b=Z o->H' b=Z o
theorem qp.masked(h:qp kS H H'):av (mask (kS::as) H)<|mask (kS::as) H':=fun b o e=>by
 by_cases hb:b∈kS::as
 .rw[dt hb]at e;cases e
 .rw[aO hb]at e⊢;exact h b o (fun z=>hb<|z▸agl) e
theorem qp.upd:qp kS H<|upd H kS o:=fun b u hb e=>by rw[aF hb];exact e
theorem qp.trans(h:qp kS H H1)(g:qp kS H1 H2):qp kS H H2:=fun b o hb e=>g b o hb<|h b o hb e
def VX(X:Cx)(c:alr)(Y:St)(kS:aga)(as:alv)(H:Hp)(ks:aly)(b:MK):Prop:=
 ∃H' a,Inv X c Y H' b/\qp kS H H'/\H' kS=Z (.lst a)/\aE X.K (mask (kS::as) H') ks a
theorem AU
  (G:FnOk X.prog X.w X.K X.mg X.base j8 k f fd ps<|zY X.K mg F) (hr:Room k X.A.in1.in1) (hb:gu X.K fd ps []) (I:Inv X aa Y H s) (S:H kS=Z (.lst [])) (D:∀b∈as,H b≠L) (y:kS∉as)
  (r:aY xs us) (J:aE X.K (mask (kS::as) H) ds xs) (T:BW F ds=Z l) (hz:ds.length<=63)
  (h:∀H' c its n g,Inv X aa Y H' g->qp kS H H'->H' kS=Z (.lst c)->aE X.K (mask (kS::as) H') (ds.map<|ik F) c->aY c its->g.heap.get? kS=Z (ag6 "list" its.toArray n) ->
   af0 #[1] X.A.in1.in1 (ksk_end a η us.toArray e1 (.ref kS) its.toArray) P E g):
  af0 #[1] X.A.in1.in1 (ksk_rest a (.ref f) η us.toArray e1<|.ref kS) P E s:=by
 have m:ds.length=us.length:=J.len.trans r.length;unfold ksk_rest;refine bY<|ajL ?_;rw[List.forIn_toArray];refine bY<|ksk_fold (fun j g=>VX X aa Y kS as H ((ds.map<|ik F).take j) g) us 0 s ⟨H,[],I,fun b o _ e=>e,S,by rw[List.take_zero];exact aE.nil⟩ (fun j x g M R=>?_) fun g q=>?_
 .let⟨H1,c,I1,b1,k1,d1⟩:=R
  rw[aiP]at d1⊢;have V:j<us.length:=by
   have:=af1.mp M
   exact this.1
  have p:j<xs.length:=by rw[r.length];exact V
  let⟨u,hu,ru⟩:=r.get (i:=j)<|lE p
  rw[M]at hu;cases hu;let⟨d,q,dd⟩:=J.got (i:=j)<|lE p
  let⟨kk',q3⟩:=Eg T d<|agm q
  have C:ik F d=kk':=by unfold ik;rw[q3]
  have O:c.length<=j:=by rw[<-d1.len,agP];lia
  refine bY<|ai8<|agE (JF (us:=[x]) (vs:=[xs[j]]) (Q:=fun v t=>av H1 t/\cz X.K (mask (kS::as) t) (ik F d) v) (E:=fun _ _=>False) G hr hb I1 (.cons ru .nil) ⟨kS::as,[d],fun b hb=>?_,aE.cons (dd.mono b1.masked) aE.nil,?_⟩) (fun u W N=>?_) fun _ _ hF=>hF.elim
  .rcases oR.mp hb with rfl|hb
   .rw[k1];simp
   .cases e:H b with
    |none=>exact absurd e<|D b hb
    |some o=>rw[b1 b o (fun z=>y<|z▸hb) e];simp
  .rw[q3];exact fun v H' s B=>⟨s,by rw[C];exact B⟩
  .let⟨v,t,I2,rv,s12,B⟩:=N
   have k2:=s12 _ _ k1;let⟨z2,its,n,ri,hil,e2⟩:=I2.lstM k2
   try dsimp only
   refine bY<|ajS e2 rfl ?_ (by rw[af3,<-hil,agI];assumption) (DO (aj5<|Array.size_push ..)<|by rw[af3,<-hil,agI];lia);refine lT ⟨rfl,?_⟩;have I3:=I2.lset (its':=its++[u]) (f:=(·.push u)) (t':=W.toks) k2 e2 ∅ (ri.append<|.cons rv .nil) (by rw[afR,ah8,agI];lia) (by walk_at "tok");refine⟨_,_,I3,(b1.trans fun b o _ e=>s12 b o e).trans qp.upd,aG,?_⟩;have e:(ds.map<|ik F).take (j+1)=(ds.map<|ik F).take j++[ik F d]:=by
    rw[List.take_add_one,agH,q];rfl
   rw[e];refine((d1.mono<|aM s12).append<|aE.cons B aE.nil).mono (qp.upd (kS:=kS) (H:=t)).masked
 .let⟨H1,c,I1,b1,k1,d1⟩:=q
  have e:(ds.map<|ik F).take (0+us.length)=ds.map (ik F):=by rw[aiP];exact agW (by rw[iF,m];exact nE _)
  rw[e]at d1;let⟨z2,its,n,ri,hil,e2⟩:=I1.lstM k1
  refine bY<|listItems_at e2 rfl ?_
  grind
theorem CZ(I:Inv X aa Y H s)(c:av Hm H):∀{ds:aly}{a:alx}{its:alw}{l:List ahq},aE X.K Hm (ds.map<|ik F) a->aY a its->BW F ds=Z l->KS.RdK s.heap its l:=@bb _ _ (@fun _ _ _ dn r h=>by cases dn;cases r;nofun;exact .nil) fun d ds j=>@fun _ _ _ m r h=>Z23 m fun v vs e d1 d2=>by
  subst e;refine Z36 (tH h) fun k p ps r0_ h1 h2 f i g=>?_;subst r0_;cases r with
  |@cons _ u _ us r1 r2=>
   have b:ik F d=k:=by unfold ik;rw[h1]
   rw[b]at d1;let⟨as,ra⟩:=eU I (d1.mono c) r1 h2
   exact .cons ra f i (j d2 r2 g)
theorem An{oa:Obj}
  (I:Inv X (aa++[(a,ag6 "list" #[] e1)]) Y H' s') (fa:eZ X aa H' a) (h0:av H0 H) (J:H0 kS=L) (B:H0 a=L) (b:qp kS H H') (hk:H' kS=Z (.lst kvs)) (O:aE X.K (mask (kS::as) H') (ds.map<|ik F) kvs) (Q:aY kvs its)
  (R:s'.heap.get? kS=Z (ag6 "list" its.toArray n)) (has:a∉as) (T:kS∉as) (k:a≠kS)
  (r:aY xs us) (v:aE X.K (mask (kS::as) H) ds xs) (D:BW F ds=Z l) (G:sL l=Z p) (C:X.A.in1.in1.units+64<aiV) (hz:ds.length<=63) (j:X.s₀.heap.get? a=L)
  (h:∀d q g,Inv X aa Y d q->av H0 d->d a=Z (.lst g)->aE X.K (mask (a::as) d) (pkL .non p ds) g->P (.done<|.ret .none) q):
  af0 #[1] X.A.in1.in1 (ksk_end a η us.toArray e1 (.ref kS) its.toArray) P E s':=by
 have S:=I.pin (a,ag6 "list" #[] e1) ∅;have x:ds.length=us.length:=v.len.trans r.length;have M:its.length=us.length:=by rw[<-Q.length,<-O.len,iF,x]
 have pl:∀i∈p,i<xs.length:=fun i hi=>by
  have:=agO.mp<|(KS.kc G).mem_iff.mp hi
  rw[kys_len D]at this;rw[<-v.len];exact this
 have v1:=C1 r pl;have v2:=CF (v.mono b.masked) pl;refine KS.Rj C M ⊥ S.1 R k (CZ I (ap _ _) O Q D) G ?_;have N:(pkL (V.int 0) p xs).length<=afT:=by
  unfold pkL;rw[iF,(KS.kc G).length_eq,agC,kys_len D,agI];lia
 have I1:=I.lset (its':=[]) (ys:=[]) (f:=fun _=>(#[]:Array By)) (t':=s'.toks) hk R rfl .nil (acr _) (by walk_at "tok");have W:Inv X aa Y (upd H' kS<|.lst []) {s' with heap:=s'.heap.update kS<|agv fun _=>(#[]:Array By)}:=I1.unpinned;let⟨f0,f1,f2,f3,f4,f5⟩:=fa
 have m:upd H' kS (.lst []) a=L:=by rw[aF k];exact f0
 have na:(s'.heap.update kS<|agv fun _=>(#[]:Array By)).get? a=Z (ag6 "list" #[] e1):=((aho s'.heap kS<|agv fun _=>(#[]:Array By)).2 a k).trans S.1;have I3:=W.turned (t':=s'.toks) (h':=(s'.heap.update kS<|agv fun _=>(#[]:Array By)).update a<|agv fun _=>(pkL ajy p us).toArray) (it:=a) (fun c u hb C=>(aht _ _<|ah5 hb).trans C) m f1 f3 f4 f5 (by walk_at "tok");have I4:=I3.track (y:=a) (o:=.lst<|pkL (V.int 0) p xs) ⟨j,f1,f2,f4,f5⟩ m ⟨N,_,_,v1,ak1 na _⟩;refine h _ _ (pkL (V.int 0) p xs) I4 (fun c o e=>?_) aG<|v2.mono fun c o e=>?_
 .have s:c≠a:=fun z=>by rw[z,B]at e;cases e
  have t:c≠kS:=fun z=>by rw[z,J]at e;cases e
  rw[aF s,aF t];exact b c o t<|h0 c o e
 .by_cases hb:c∈kS::as
  .rw[dt hb]at e;cases e
  .rw[aO hb]at e;have s:c≠a:=fun z=>⊥
   have t:c≠kS:=fun z=>hb<|z▸agl;rw[aO fun z=>(oR.mp z).elim s fun z=>hb<|mK _ z,aF s,aF t];exact e
theorem B4
  (G:FnOk X.prog X.w X.K X.mg X.base j8 k f fd ps<|zY X.K mg F) (hr:Room k X.A.in1.in1) (hb:gu X.K fd ps []) (I:Inv X aa Y H s) (fa:eZ X aa H a) (c:s.heap.get? a=Z (ag6 "list" us.toArray n)) (D:∀b∈as,H b≠L)
  (r:aY xs us) (Q:aE X.K (mask as H) ds xs) (T:BW F ds=Z l) (ho:sL l=Z p) (hz:ds.length<=63) (m:X.s₀.heap.get? a=L)
  (h:∀g M j,Inv X aa Y g M->av H g->g a=Z (.lst j)->aE X.K (mask (a::as) g) (pkL .non p ds) j->P (.done<|.ret .none) M):
  af0 #[1] X.A.in1.in1 (ksk_tree a (.ref f) η) P E s:=by
 have hlu:ds.length=us.length:=Q.len.trans r.length;have ha:a<s.heap.objs.size:=OR c;let⟨t,ho1⟩:∃t,(s.heap.update a<|agv fun _=>(#[]:Array By)).get? a=Z (ag6 "list" #[] t):=⟨_,akg c fun _=>#[]⟩
 let⟨f0,f1,f2,f3,f4,f5⟩:=id fa
 have I1:=I.turned (t':=s.toks) (h':=s.heap.update a<|agv fun _=>(#[]:Array By)) (it:=a) (fun S u hb hu=>(aht _ _<|ah5 hb).trans hu) f0 f1 f3 f4 f5 (by walk_at "tok");have R:=I1.kept (t':=s.toks) (h':=(s.heap.update a<|agv fun _=>(#[]:Array By)).push<|ag6 "tuple" us.toArray 0) (fun _ _ q=>eQ _ q) (by walk_at "tok");have I3:=R.lnew (its:=[]) (ys:=[]) (t':=s.toks) .nil (acr _) (by walk_at "tok");have O:((s.heap.update a<|agv fun _=>(#[]:Array By)).push<|ag6 "tuple" us.toArray 0).objs.size=s.heap.objs.size+1:=by rw[size_push',Heap.size_update]
 have d:H ((s.heap.update a<|agv fun _=>(#[]:Array By)).push<|ag6 "tuple" us.toArray 0).objs.size=L:=R.fresh;have N:(((s.heap.update a<|agv fun _=>(#[]:Array By)).push<|ag6 "tuple" us.toArray 0).push<|ag6 "list" #[] 0).get? a=Z (ag6 "list" #[] t):=eQ _<|eQ _ ho1;unfold ksk_tree;refine bY<|listItems_at c rfl ?_;refine bY<|ajS c rfl ?_ (by rw[af3,agI];omega) (acr _);refine bY<|seqEpoch_at ho1 rfl ?_;refine bY<|wpAny_newTuple ?_ (by show us.length<=_;rw[agI];omega);refine bY<|wpAny_newList ?_<|acr _;refine ag1 ?_;have x:a≠((s.heap.update a<|agv fun _=>(#[]:Array By)).push<|ag6 "tuple" us.toArray 0).objs.size:=by rw[O];exact af7<|ajH ha
 generalize hq:((s.heap.update a<|agv fun _=>(#[]:Array By)).push<|ag6 "tuple" us.toArray 0).objs.size=kS at *;have i:kS∉as:=fun z=>D _ z d;have y:a∉as:=fun z=>D _ z f0;have I4:Inv X (aa++[(a,ag6 "list" #[] t)]) Y (upd H kS<|.lst []) {s with heap:=((s.heap.update a<|agv fun _=>(#[]:Array By)).push<|ag6 "tuple" us.toArray 0).push<|ag6 "list" #[] 0}:=by
  have B:Inv X aa Y (upd H kS<|.lst []) {s with heap:=((s.heap.update a<|agv fun _=>(#[]:Array By)).push<|ag6 "tuple" us.toArray 0).push<|ag6 "list" #[] 0}:=I3;refine B.pins_of fun p J=>?_;rcases BY.mp J with J|J
  .exact B.pin p (afX _ J)
  .obtain rfl:p=_:=by simpa using J
   exact⟨N,by rw[aF x];exact f0,f1,f2,fun v z=>by cases z⟩
 have up:av H<|upd H kS<|.lst []:=aH d _;have C:aE X.K (mask (kS::as)<|upd H kS<|.lst []) ds xs:=Q.mono fun b o e=>by
  by_cases hb:b∈as
  .rw[dt hb]at e;cases e
  .rw[aO hb]at e;have n1:b≠kS:=fun z=>by rw[z,d]at e;cases e
   rw[aO fun z=>(oR.mp z).elim n1 hb];exact up b o e
 refine AU G hr hb I4 aG (fun b hb=>by
  cases e:H b with
  |none=>grind
  |some o=>rw[up b o e];simp) i r C T hz fun H' kvs its n' s' V S k' d' W e'=>?_
 have pa:=V.pin (a,ag6 "list" #[] t) ∅;exact An (oa:=ag6 "list" #[] t) V ⟨pa.2.1,f1,f2,f3,f4,f5⟩ up d f0 S k' d' W e' y i x r C T ho (by have:=hr.un;lia) hz m h
theorem wC
  (G:FnOk X.prog X.w X.K X.mg X.base j8 k f fd ps<|zY X.K mg F) (hr:Room k X.A.in1.in1) (hb:gu X.K fd ps []) (I:Inv X aa Y H s) (C:s.heap.IsList lA us.toArray) (t:∀b∈as,H b≠L)
  (r:aY xs us) (u:aE X.K (mask as H) ds xs) (x:BW F ds=Z l) (y:sL l=Z p) (hz:ds.length<=63)
  (h:∀g H' a,av H H'->H g=L->H' g=Z (.lst a)->aE X.K (mask (g::as) H') (pkL .non p ds) a->Q (.ref g) H'):
  af0 #[1] X.A (call (.builtin "sorted") [.ref lA] [(afS "key",.ref f)]) (EP X aa Y Q) E s:=by
 have v:ds.length=us.length:=u.len.trans r.length;refine call_function_entry_kw kind_sorted plain_sorted entry_sorted (ksk_s1 _ _) ?_;unfold Builtin.«sorted»;refine bY (m:=checkCount "sorted" 1 1 _)<|lT ?_;refine bY (collect_list C ?_<|by rw[agI];omega);refine bY (wpAny_newList ?_<|by rw[agI];omega);have hsz:((s.heap.push<|ag6 "list" #[] 0).update s.heap.objs.size<|agv (·++us.toArray)).objs.size=s.heap.objs.size+1:=by
  mright
 have e:(((s.heap.push<|ag6 "list" #[] 0).update s.heap.objs.size<|agv (·++us.toArray)).push<|ag6 "list" us.toArray 0).get? (s.heap.objs.size+1)=Z (ag6 "list" us.toArray 0):=by
  rw[<-hsz];exact ID _ rfl
 have c:∀b o,s.heap.get? b=Z o->(((s.heap.push<|ag6 "list" #[] 0).update s.heap.objs.size<|agv (·++us.toArray)).push<|ag6 "list" us.toArray 0).get? b=Z o:=fun b o q=>by
  have hlt  := OR q;rw[akU _ _ _<|⊥,aje _ _ _ _<|af7 hlt,akU _ _ _<|af7 hlt];exact q
 have hfr  := I.hok.fresh<|ai9 _;have B:=I.kept c (by walk_at "tok");rw[hsz];refine bY<|ag1<|wpAny_call_entry_kw slot_list_sort ⟨_,e,rfl⟩ entry_list_sort ?body<|ksk_l1 _ _;refine B4 G hr hb B (I.fpOk (ai9 _) hfr) e t r u x y hz (akj<|DO I.sz<|ai9 _) fun d D a n z i j=>⟨_,rfl,?_⟩;exact lT ⟨_,rfl,.ref<|s.heap.objs.size+1,d,n,rfl,h _ d a z hfr i j⟩
end
theorem OF{K:aT}{st:ah9}{p p2 y pos:Pos}
  (Df:Def X.K X.mg x st ps f fd) (G:FnOk X.prog X.w X.K X.mg X.base j8 j f fd ps<|zY K mg F) (hr:Room k X.A) (R:X.mg "sorted"=L) (N:JE X e<|tD ⟨K,mg,E0⟩ O φ) (hj:autoParam (j+1<=k) Xax) (hg:autoParam (Gl X "sorted") Xaz) (o:autoParam (Gl X x) Xaz) (i:autoParam (alz x) Xax)
  (h1:autoParam (az e=U) Xaz) (D:autoParam (X.K=K) Xaz):JE X (.Call (.Name "sorted" p) [e] [⟨Z "key",.Name x p2,y⟩] pos)<|tN ⟨K,mg,E0⟩ O<|aD (tT F)<|aj φ aA:=by
 subst D;refine⟨fun z s Y H Q I h=>?_⟩;let⟨as0,B,own,Uq0,J,h⟩:=h
 have M:JA X [e]<|qy ⟨X.K,mg,E0⟩ O<|aj φ aA:=DG N Kp (hn:=h1);refine agi (dX I hg R (u:=.builtin "sorted") (by with_unfolding_all rfl) ?_ ∎<|∎);have W:ahP pos (afY [e] X.env)=(η,eval e X.env)::ahP pos (afY [] X.env):=by rw[bn h1];rfl
 refine callWith_kw (bX (M.out pos z s Y H (fun vs H1=>av H H1/\∃ds,aE X.K (mask #[9] H1) ds vs/\e8 ⟨X.K,mg,E0⟩ #[9] H1 (tT F ds) Q) I ⟨as0,B,own,Uq0,J,qE h fun ds vs H1 d T h1=>⟨d,ds,T,h1⟩⟩) fun us d⟨vs,H1,I1,r,sm,ds,dn,q⟩=>
  bX (Oz (nm:=Z "key") (kpos:=y) (DN (pos:=p2) (v:=.ref f) o Df.m rfl i) UC pos z d Y H1 (fun zs n=>zs=[.ref f]/\n=H1) I1 ⟨rfl,rfl⟩) fun ws s2 q_=>Z24 q_ fun zs n I2 rz e1 e2=>?_) W ?_ rfl rfl
 .subst e1 e2;obtain⟨w0,rfl,c⟩:=rz.one;cases c;have exi:∀b∈own++as0,n b≠L:=(J.mono sm).exi;unfold tT at q;split at q
  .rename_i ys;split at q
   .rename_i hz;split at q
    .rename_i pm hl;let⟨l,hl,ho⟩:=dO.mp hl
     obtain⟨v0,_,rfl,C,t⟩:=dn;cases t;obtain⟨lA,xs,rfl,V,E⟩:=C;obtain⟨u0,rfl,ru⟩:=r.one;cases ru;let⟨its,ri,hp,_⟩:=I2.list<|(ap _ _).seq V
     have rm:Room j X.A.in1.in1:=⟨hr.hd,by have:=hr.dp;show X.A.depth+3*j+5<_;lia,by have:=hr.un;show X.A.units+1+1+16*j+200<_;lia⟩;refine wC (mg:=mg) (F:=F) (as:=own++as0) G rm Df.b I2 hp.isList exi ri E hl ho hz fun p H' a S hn g P=>?_;exact q p _ H' S hn g ⟨a,rfl,P⟩
    .exact q.elim
   .exact q.elim
  .exact q.elim
 .exact c7 (by grind)
end L2
namespace L2
open PySem
def EV(x y:D):Option Bool:=match y with
 |.lst ds=>jB x ds
 |_=>L
def Br(x y:D):R D:=d7 (EV x y) fun k=>k
def vQ(x y:D):R D:=d7 (EV x y) fun k=>!k
end L2
namespace L2
open PySem PySem.Spec PyProof.Rows
section
theorem R5(h1:iP dc (tbl B ext acc an q [] []) q=Z φ)(h2:UR q.N q.ps (aQ<|dc q.i)=U)(a:OQ dc B ext xf r (MI xf q (.pl φ) acc) (yC q (.pl φ) an)):OQ dc B ext xf ((q,.pl φ)::r) acc an:=⟨h1,h2,a⟩
theorem RI(h1:iP dc (tbl B ext acc an q [] [Ci]) q=Z φ)(h2:UR q.N q.ps (aQ<|dc q.i)=U)(a:OQ dc B ext xf r (MI xf q (.nw φ) acc) (yC q (.nw φ) an)):OQ dc B ext xf ((q,.nw φ)::r) acc an:=⟨h1,h2,a⟩
theorem Tz(h1:∀F,iP dc (tbl B ext acc an q (q.g.map fun x=>nT x F) []) q=Z (φ F))(h2:UR q.N q.ps (aQ<|dc q.i)=U)(b:OQ dc B ext xf r (MI xf q (.rc φ Zq0 n) acc) (yC q (.rc φ Zq0 n) an))(c:autoParam (∀ds,Zq0 0 ds=.no) Xdx)(a:autoParam (∀m,Zq0 (m+1)=zm (φ<|Zq0 m) q.N q.ps) Xdx):OQ dc B ext xf ((q,.rc φ Zq0 n)::r) acc an:=⟨⟨h1,c,a⟩,h2,b⟩
end
noncomputable def aag:By->Option (D×V)
 |.int i _=>Z (.int i,.int i)
 |.str x _=>Z (.str x,.str x)
 |.bool b=>Z (.bl b,.bl b)
 |.none=>Z (.non,.non)
 |_=>L
def S6:alw->Option (List<|D×V)
 |[]=>Z []
 |u::r=>(aag u).bind fun q=>(S6 r).map (q::·)
def YF(K:aT)(u:By):Option D:=match u with
 |.ref a=>(match K.lookup a with
  |some o=>if o.cls=.type "tuple"/\o.dict=L then(match o.data with
   |.seq its _=>if its.size<=1000 then(S6 its.toList).map fun l=>.tup (l.map (·.1))else L
   |_=>L)else L
  |none=>L)
 |u=>(aag u).map (·.1)
theorem Jg{K:aT}(h:aag u=Z q):a7 q.2 u/\∀H,cz K H q.1 q.2:=by
 unfold aag at h;cbv<;>nofun
 .exact⟨⟨_,rfl⟩,fun H=>rfl⟩
 .exact⟨⟨_,rfl⟩,fun H=>rfl⟩
 .exact⟨rfl,fun H=>rfl⟩
 .exact⟨rfl,fun H=>rfl⟩
theorem Ew{K:aT}:∀{us:alw}{l:List<|D×V},S6 us=Z l->aY (l.map (·.2)) us/\∀H,aE K H (l.map (·.1)) (l.map (·.2)):=@bb _ _ (@fun _ h=>by nofun;exact⟨.nil,fun H=>rfl⟩) fun u r i=>@fun _ h=>by
  let⟨q,h1,h⟩:=dO.mp h
  obtain⟨l,h2,rfl⟩:=iN.mp h;obtain⟨a,b⟩:=Jg h1;obtain⟨c,d⟩:=i h2;exact⟨.cons a c,fun H=>⟨q.2,_,rfl,b H,d H⟩⟩
theorem Ui{K:aT}(h:YF K u=Z d):∃v,a7 v u/\(∀H,cz K H d v)/\∀p,u=.ref p->∃f,K.lookup p=Z f/\f.cls=.type "tuple"/\f.dict=L:=by
 unfold YF at h;cbv
 .rename_i a;cbv
  .rename_i o e;cbv
   .rename_i hc;cbv
    .rename_i its n hd;cbv
     .obtain⟨l,h1,rfl⟩:=iN.mp h;obtain⟨c,g⟩:=Ew h1;exact⟨.ref a,rfl,fun H=>⟨a,l.map (·.2),rfl,.inr ⟨o,its,n,e,hc.1,hd,by rw[agI];lia,c⟩,g H⟩,fun p i=>by mright⟩
     .nofun
    .nofun
   .nofun
  .nofun
 .obtain⟨q,h1,rfl⟩:=iN.mp h;let⟨a,b⟩:=Jg (K:=K) h1
  grind
section
variable{K:aT}(X:K.In h)(N:h.Ns age mg)
include X N
theorem S8{l:List<|Str×D}(e:(l.map fun q=>(af5 K age q.1).bind fun o=>o.bind<|YF K)=l.map fun q=>Z q.2):∀q∈l,Rc K mg q:=fun q b=>by
 have d:=agT.mp e q b;obtain⟨o,h1,h2⟩:=dO.mp d;obtain⟨u,a,c⟩:=dO.mp h2;let⟨v,h5⟩:=Ui c
 exact⟨v,u,ai7 X N<|by rw[h1,a],h5⟩
theorem We{l:alq}(e:l.map (af5 K age)=l.map fun _=>Z L):∀x∈l,mg x=L:=fun x a=>PySem.W.mg_none_of X N<|agT.mp e x a
end
abbrev Pl:=List<|Nat×Nat×Nat×By
def fA(a:Pl)(i:Nat):aga:=match a.lookup i with
 |some q=>q.1
 |none=>0
def cA(a:Pl)(i:Nat):aga:=match a.lookup i with
 |some q=>q.2.1
 |none=>0
def mA(a:Pl)(i:Nat):By:=match a.lookup i with
 |some q=>q.2.2
 |none=>.none
def UT:ah9->Str
 |.FunctionDef n _ _ _ _ _ _ _ _ _=>n
 |_=>""
def fD(dc:Nat->ah9)(a:Pl)(i:Nat):aid:=ahS (UT<|dc i) (UT<|dc i) (jq<|dc i) (dM<|dc i) (aQ<|dc i) .none .none .none (mA a i) L (.ref<|cA a i) .none
theorem M5(h:us.length<=5):∃a b c d e,us=([a,b,c,d,e]:alw).take us.length:=by
 match us,h with
 |[],_=>exact⟨.none,.none,.none,.none,.none,rfl⟩
 |[a],_=>exact⟨a,.none,.none,.none,.none,rfl⟩
 |[a,b],_=>mright
 |[a,b,c],_=>exact⟨a,b,c,.none,.none,rfl⟩
 |[a,b,c,d],_=>exact⟨a,b,c,d,.none,rfl⟩
 |[a,b,c,d,e],_=>mright
 |_::_::_::_::_::_::_,h=>mright
def bnL(dc:Nat->ah9)(q:Df×Mr)(kV g k:By)(h:Option aga)(f j a b c d e:By):Sem<|List<|Str×By:=bindArgs (ahS q.1.x q.1.x (jq<|dc q.1.i) (dM<|dc q.1.i) (aQ<|dc q.1.i) .none kV g k h f j) ⟨[a,b,c,d,e].take q.1.ps.length,[]⟩
def bnR(q:Df×Mr)(kV g j:By)(h:Option aga)(f i a b c d e:By):Sem<|List<|Str×By:=pure<|q.1.ps.zip<|[a,b,c,d,e].take q.1.ps.length
section
variable{K:aT}{G:List (Df×Mr)}
theorem SS(X:K.In h)(N:h.Ns age mg)(v:(G.map fun q=>UT<|dc q.1.i)=G.map fun q=>q.1.x)(u:(G.map fun q=>q.1.g.map<|af5 K age)=G.map fun q=>q.1.g.map fun _=>Z<|Z<|.ref<|fA Lq0 q.1.i)
  (B:(G.map fun q=>K.lookup<|fA Lq0 q.1.i)=G.map fun q=>Z ⟨.type "function",L,.func<|fD dc Lq0 q.1.i,#[]⟩) (A:(G.map fun q=>(Qx K (.ref<|cA Lq0 q.1.i) q.1.x,aiK K<|.ref<|fA Lq0 q.1.i))=G.map fun _=>(U,U))
  (z:G.map (bnL dc)=G.map bnR) (s:(G.map fun q=>decide (q.1.ps.length<=5))=G.map fun _=>U):∀q∈G,DfOk dc K mg q.1 (fA Lq0 q.1.i)<|fD dc Lq0 q.1.i:=fun q f=>by
 have l  := agT.mp v q f;have k:=agT.mp B q f;have p:=agT.mp A q f;have hb  := agT.mp z q f;have t:=aln<|agT.mp s q f;have F:Fun K q.1.x q.1.x (dc q.1.i) (fA Lq0 q.1.i)<|fD dc Lq0 q.1.i:=by
  unfold fD at k⊢;rw[l]at k⊢;exact GK k (Prod.mk.inj p).1 (Prod.mk.inj p).2
 refine⟨F,F.binds fun kV m r w j y us o=>?_,fun x l=>ai7 X N<|agT.mp (agT.mp u q f) x l⟩;refine Z51 (M5 (by rw[o];exact t)) fun a b c d e n=>?_;rw[o]at n;rw[n];exact congrFun (congrFun (congrFun (congrFun (congrFun (congrFun (congrFun (congrFun (congrFun (congrFun (congrFun hb kV) m) r) w) j) y) a) b) c) d) e
end
theorem Nx{l:alp}(h:aY (l.map fun(k:Nat)=>V.int (k:Int)) us):IntsAre us<|l.map fun(k:Nat)=>(k:Int):=by
 induction l generalizing us with
 |nil=>nofun;exact .nil
 |cons k l a=>
  cases h with
  |cons r t=>obtain⟨t',rfl⟩:=r;exact .cons _ _ (a t)
theorem Nf{l:alp}(h:IntsAre us<|l.map fun(k:Nat)=>(k:Int)):aY (l.map fun(k:Nat)=>V.int (k:Int)) us:=by
 induction l generalizing us with
 |nil=>nofun;exact .nil
 |cons k l a=>cases h with
  |cons n t h=>exact .cons ⟨t,rfl⟩<|a h
theorem RJ:∀S∈cG,(S.map fun(k:Nat)=>(k:Int)).Pairwise (·<=·):=∎
section
theorem Bp(hc:X.calm=U)(C:X.mg "sorted"=L)(A:X.mg "set"=L)(ha:PA X [e] t)(B:Gl X "sorted")(y:Gl X "set")
  (he:afY [e] X.env=(η,eval e X.env)::afY [] X.env):
  PE X (.Call (.Name "sorted" p1) [.Call (.Name "set" p2) [e] [] pos1] [] pos) (M6 X.K t):=by
 intro aa s Y H Q I h;refine agi (dX (u:=.builtin "sorted") I B C (by with_unfolding_all rfl) ?_ ∎<|∎);have p:afY [.Call (.Name "set" p2) [e] [] pos1] X.env=(η,eval (.Call (.Name "set" p2) [e] [] pos1) X.env)::afY [] X.env:=by rfl
 have r:(ahP pos<|afY [] X.env).any (·.1)=η:=by rfl
 refine ahT ?_ p r;rw[p];show af0 _ _ (spliced<|(η,eval (.Call (.Name "set" p2) [e] [] pos1) X.env)::ahP pos (afY [] X.env)) _ _ s;refine ah3 ?_;refine agi (dX I y A BM ?_ ∎<|∎);refine agg (bX (ha pos1 aa s Y H _ I h) fun us P hh=>iW hh fun vs H1 x r1 q1=>?_) he rfl;refine Z24 q1 fun a ks r0_ hq N q=>?_;subst r0_;obtain⟨u,rfl,ru⟩:=f7 r1;cases ru;obtain⟨its,O,pl,hz⟩:=x.list hq;have n:its.length=ks.length:=by rw[<-O.length,iF]
 have M:cb ks∈cG:=fV ks [] ∎ N;refine aP x.tk<|wj (ks:=ks) (x.ok.hd hc) pl.isList (by simp[n]) (fun i v E k hk=>?_) N fun h' tk ep hs g G=>?_
 .have hv':its[i]?=Z v:=by simpa using E
  obtain⟨u,R,ru⟩:=O.get (show(ks.map fun(k:Nat)=>V.int (k:Int))[i]?=Z (.int k) by rw[agH,hk];rfl);rw[hv']at R;cases R;exact ru
 .refine aic ?_;have z:Inv X aa Y H1 {P with heap:=h',toks:=tk}:=x.kept (fun b u e=>g b u (OR e) e) G;refine PySem.Calls.call_function_entry kind_sorted plain_sorted entry_sorted (args_sorted1 _) ?_;unfold Builtin.«sorted»;refine bY (m:=checkCount "sorted" 1 1 _)<|lT ?_;have J:=sub_len _ M;refine bY<|aP z.tk<|PySem.W.kdu_collect (Ni M) (z.ok.hd hc) hs (by rw[agI];lia) fun d l acc kp f w=>?_;have I3:=z.kept (t':=l) (h':=d) kp w;have E:=KL (acc:=acc.toList) (by rw[ait];exact f.1) fun j v hj=>f.2 j v (by rw[<-ahB];exact hj);have hal:acc.toList.length<=3:=by rw[ait,f.1];exact J
  refine bY (wpAny_newList ?_<|by rw[agI];lia);have D:(d.push<|ag6 "list" acc.toList.toArray 0).get? d.objs.size=Z (ag6 "list" acc.toList.toArray 0):=ID _ rfl;refine bY<|ag1<|agt slot_list_sort ⟨_,D,rfl⟩ entry_list_sort (list_sort_tree (s:={P with heap:=d.push<|ag6 "list" acc.toList.toArray 0,toks:=l}) D (Nx E) ⊥ fun out ns' T i2 i3=>⟨_,rfl,lT ⟨_,rfl,?_⟩⟩)<|PySem.F.args_list_sort_1 _;have en:=PySem.W.ksm_same (i2.trans<|(jn _ _ _ _).map _) i3<|RJ _ M;rw[en]at T;refine⟨.ref d.objs.size,_,I3.laid (t':=l) (fun c o q=>?_) (nE _) ?_,rfl,q _ _ (I3.hok.fresh<|nE _)<|zw _⟩
  .have hlt:c<d.objs.size:=OR q;unfold sortedHeap;rw[aje _ _ _ _<|af7 hlt];refine eQ _<|eQ _ ?_;rw[aje _ _ _ _<|af7 hlt];exact eQ _ q
  .let⟨S,g1⟩:∃S,((d.push<|ag6 "list" acc.toList.toArray 0).update d.objs.size<|agv fun _=>#[]).get? d.objs.size=Z (ag6 "list" #[] S):=⟨_,akg D fun _=>#[]⟩
   have g2:=akg (eQ (ag6 "list" #[] 0)<|eQ (ag6 "tuple" acc.toList.toArray 0) g1) fun _=>out;exact⟨by rw[agI,iF];lia,out.toList,_,Nf T,by unfold sortedHeap;simpa[ag6]using g2⟩
theorem EL(g:X.mg "sorted"=L)(d:X.mg "set"=L)(r:JA X [e]<|qy W O α)(j:X.K=W.K)(w:X.calm=U)(f:Gl X "sorted")(c:Gl X "set")(h1:az e=U):
  JE X (.Call (.Name "sorted" p1) [.Call (.Name "set" p2) [e] [] pos1] [] pos) (tN W O<|aD lP α):=
 (JE.mk<|Bp w g d r.out f c<|bn h1).imp fun Y H Q s=>cx s fun as0 B own Uq0 I h=>⟨as0,B,own,Uq0,I,eJ h fun ds xs y x l h2=>by
  unfold lP at h2;split at h2
  .obtain⟨v,rfl,t⟩:=eL l;obtain⟨p,vs,rfl,n,u⟩:=t;split at h2
   .rename_i ks e;obtain⟨rfl,m⟩:=uF e;refine⟨p,ks,rfl,?_,m,fun q a k i=>h2 q _ _ (aH k _) k aG ⟨a,rfl,?_⟩⟩
    .rw[<-qa u,j];exact(ap _ _).seq n
    .rw[j]at i;exact i.mono fun b o z=>by cases z
   .exact h2.elim
  .exact h2.elim⟩
end
section
variable{X:Cx}{W:Wd}
theorem yY(h1:X.mg "sorted"=L)(h2:X.mg "set"=L)(b:X.K=W.K)(d:X.calm=U):wT X W<|UK "sorted" "set" lP:=
 AR (t:=fun O φ=>tN W O φ) fun O a p1 p2 e f α g1 g2 hn c=>EL h1 h2 c b d g1 g2 hn
def CP(x:Str)(F:aly->R D):Fm:=fun b _ _ e=>match e with
 |.Call (.Name a _) [e] [⟨Z k,.Name f _,_⟩] _=>if a="sorted"/\k="key"/\f=x/\Ab b "sorted"=U/\Ab b x=U/\az e=U then Z ([e],fun l=>aD (tT F)<|aj (g0 l) aA)else L
 |_=>L
theorem IJ{K:aT}(a:mg "sorted"=L):Sv dc P w K mg base (1,CP):=fun q f fd j F Q hx G Yq0 k⟨e1,e2,e3,e4,e5,hr,_⟩hj O e es b φs h hJ=>by
 subst e1 e2 e3 e4 e5;have h:CP q.x F Yq0.env.scope Yq0.N O e=Z (es,b):=h;unfold CP at h;cbv
 .cbv
  .rename_i hq;nofun;let⟨h1,h2,h3,h4,h5,h6⟩:=hq
   obtain⟨φ,rfl,c⟩:=z9 hJ;rw[h1,h2,h3];exact vp<|OF (Df:=⟨Q.F,Q.b,Q.m _ hx⟩) G hr a c hj (b7 h4).1 (b7 h5).1 (b7 h5).2 h6 rfl
  .nofun
 .nofun
end
def NO(K:aT)(n:Bool):R2:=fun x y H Q=>∃p a ds xs k,y=.ref p/\dF K H p xs/\cz K H a x/\aE K H ds xs/\jB a ds=Z k/\Q (.bl<|if n=U then !k else k) H
section
theorem MU(K:aT)(j:X.A.units+64<aiV)(d:autoParam (X.K=K) Xaz):dz X (agf<|if n=U then .NotIn else .In)<|NO K n:=by
 subst d;intro t s Y H x y v u Q I o f h;refine Z56 h fun p a ds xs k r0_ l m i e q=>?_;subst r0_;cases f;refine Z24 (J8 e) fun b ps h1 h2 c g=>?_;let⟨as,ra⟩:=eU I m o h1
 let⟨its,r,pl,hz⟩:=I.list l
 let⟨i1,i2⟩:=ug I j ra c i r h2 g
 have z:its.toArray.any (ou s b)=k:=by rw[<-i2];simp
 cases n with
 |true=>exact akE (ou s b) pl.isList (fun y hy=>i1 y<|by simpa using hy) ⟨.bl<|!k,H,I,by rw[z];rfl,q⟩
 |false=>exact SeqAt.in_listAt (ou s b) pl.isList (fun y hy=>i1 y<|by simpa using hy) ⟨.bl k,H,I,by rw[z];rfl,q⟩
theorem W3(K:aT)(hW:autoParam (W.K=K) Xaz):pb W (NO K n) (fun x y=>d7 (EV x y) fun k=>if n=U then !k else k):=by
 subst hW;intro as H x y a b Q hn d c h;dsimp only at h;cases e:EV a b with
 |none=>rw[e]at h;mleft
 |some k=>
  rw[e]at h;have fin:=aI h rfl;cases b with
  |lst ds=>
   obtain⟨p,xs,rfl,h1,h2⟩:=c;exact⟨p,a,_,xs,k,rfl,(ap _ _).seq h1,d.mono<|ap _ _,h2.mono<|ap _ _,e,fin⟩
  |_=>cases e
theorem Pa(K:aT)(hW:autoParam (W.K=K) Xaz):pb W (NO K η) Br:=W3 K hW
theorem Pi(K:aT)(hW:autoParam (W.K=K) Xaz):pb W (NO K U) vQ:=W3 K hW
end
noncomputable def Qo(l:alq):agR->Bool
 |.Subscript (.Name x _) _ _=>!l.contains x
 |.Subscript ..=>U
 |_=>η
def Bm:alv->Bool
 |[]=>U
 |a::r=>!r.contains a&&Bm r
theorem yZ:∀{l:alv},Bm l=U->l.Nodup
 |[],_=>agQ
 |a::r,h=>by
  unfold Bm at h;rw[afU]at h;exact agc.mpr ⟨by simpa using h.1,yZ h.2⟩
theorem Mp{β:Type}{x:aga×β}{l:List<|aga×β}(hn:(l.map (·.1)).Nodup)(h:x∈l):l.lookup x.1=Z x.2:=by
 induction l with
 |nil=>nofun
 |cons y r a=>
  rw[Do,agc]at hn;rcases oR.mp h with rfl|h
  .grind
  .have n:x.1≠y.1:=fun z=>hn.1<|z▸ahW h;rw[ais,show(x.1==y.1)=η from by simpa using n];exact a hn.2 h
def Pw(C:String):Fm:=fun a N O e=>(cN e).bind fun q=>match q.2 with
 |[.Name x _,.Name y _]=>if q.1="isinstance"/\y=afS C/\Ab a "isinstance"=U/\Ab a (afS C)=U then(VH a N O x).map fun i=>([],fun _=>aD pJ<|aj (ak i)<|aj (vC<|.ty C) aA)else L
 |_=>L
theorem IH(m:X.mg "isinstance"=L)(r:X.mg (afS C)=L)(n:af9 (afS C)=Z (.type C))(g:(afS C)≠"__name__")(hW:W.K=X.K):fv X W<|Pw C:=fun O e es b l h s=>by
 mstop
 obtain⟨q,h1,h⟩:=h;obtain⟨p,pos,rfl⟩:=qQ h1;cbv
 .rename_i x p1 y p2 e1;cbv
  .rename_i hq;obtain⟨h2,rfl,k,j⟩:=hq;obtain⟨i,o,h⟩:=iN.mp h;nofun;refine Z05 (xu o) fun a b c d f=>?_;rw[h2,e1];exact Sm X.K b m (X2 r n (b7 j).1 g (b7 j).2) a (b7 k).1 c d f rfl rfl hW
  .nofun
 .nofun
def Yx:Fs:=fun a N O s=>(xE s).bind fun e=>(cM e).bind fun q=>if q.2.1="clear"/\q.2.2.isEmpty=U then(oN a N O q.1).map fun i=>([],fun _=>BV i)else L
theorem Ow(hW:W.K=X.K):Jc X W Yx:=fun Ob O s es b j h n=>by
 mstop
 obtain⟨e,g,h⟩:=h;obtain⟨_,rfl⟩:=Ht g
 mstop
 obtain⟨⟨o,f,r⟩,h1,h⟩:=h;obtain⟨apos,cpos,rfl,h2⟩:=zz h1;cbv
 .rename_i hq;obtain⟨i,a,h⟩:=iN.mp h;nofun;refine Z26 (vM a) fun x p r0_ c d k l m=>?_;subst r0_;obtain⟨rfl,hr⟩:=hq;have hr  := by simpa using hr
  subst hr;exact Lp d c h2 k l m rfl rfl hW
 .nofun
end L2
namespace T73
open PySem L2
noncomputable def dc(i:Nat):ah9:=PySem.Challenge.pw_tablestore_k73_all_plans_told.main.body.getD i<|.Pass ⟨0,0,0,0⟩
def nN(i:Nat):alq:=((aQ<|dc i).names.filter fun q=>q.2==.local||q.2==.cell).map (·.1)
def rD(φ:FS)(p n:Nat):aly->R D:=zm φ (aim n "")<|aim p ""
noncomputable def n5:D:=(.tup [(.str "none"),(.str "number"),(.str "text")])
def xw:D:=(.int 40)
noncomputable def ox:List<|Str×D:=[("=",(.str "=")),("<>",(.str "<>")),("<",(.str ">")),("<=",(.str ">=")),(">",(.str "<")),(">=",(.str "<="))]
noncomputable def fU:D:=(.tup [(.str "="),(.str ">"),(.str ">=")])
noncomputable def gC:D:=(.tup [(.str "="),(.str "<"),(.str "<=")])
def yV:D:=(.int 4)
def AV:D:=(.int 8)
def oH:D:=(.int 1000000000)
noncomputable def mx:D:=(.tup [(.str "and"),(.str "by"),(.str "down"),(.str "from"),(.str "none"),(.str "not"),(.str "or"),(.str "order"),(.str "show"),(.str "take"),(.str "where")])
def sZ:D:=(.tup [(.str "number"),(.str "text")])
def kW:D:=(.int 8)
def uP:D:=(.int 8)
noncomputable def lW:List<|Str×D:=[("table",(.int 2)),("index",(.int 3)),("put",(.int 4)),("drop",(.int 3))]
def df(i p d:Nat):Df:=⟨UT<|dc i,[UT<|dc i],i,nN i,p,d,[],[],[],[],1000⟩
def cT:List<|Str×D:=[("COLUMN_KINDS",sZ),("FEWEST",yV),("HIGH_SIGNS",gC),("KINDS",n5),("LOW_SIGNS",fU),("MOST",AV),("MOST_COLUMNS",uP),("MOST_LETTERS",kW),("MOST_ROW_NUMBER",oH),("MOST_SIGNS",xw),("NO_NAMES",mx)]
def dN:alq:=["rows","indexes","state","behind","_law_state","_law_newer"]
def lN:alq:=["_law_indexed"]
noncomputable def yT:List<|Str×D:=[("str",.ty "str"),("int",.ty "int"),("tuple",.ty "tuple"),("list",.ty "list"),("dict",.ty "dict"),("bool",.ty "bool")]
def tB:Tb:=⟨[X8,SC "len" c8,Pw "list",SC "list" vd,UK "list" "range" Es,SC "tuple" oM,wQ .Add eR,wQ .Sub zi,wQ .Mult rC,wQ .FloorDiv rg,wQ .Mod mf,wQ .Pow GU,d5 .Eq cW jO,d5 .NotEq nC jO,d5 .Lt LD jO,d5 .LtE O6 jO,d5 .Gt Lz jO,d5 .GtE IK jO,d5 .Is Nk jO,d5 .In Fe<|vh dN,d5 .In Br<|vh lN,d5 .NotIn vQ<|vh lN,d5 .In Ge<|Qo ["told"],d5 .In FB jO,d5 .NotIn oW<|vh dN,d5 .NotIn lm jO,acp "FORMS" lW,acp "TURNED" ox,aaA AN<|vh dN,aaA bw jO,aab si,ZH,WM,OH,Lf "Table" "shape",Lf "Table" "rows",Lf "Table" "indexes",UK "len" "set" lM,UK "sorted" "set" lP,fB "len" c8,fB "isinstance" pJ,fB "abs" V8,fB "all" zA,fB "tuple" oM,fB "int" Md,fB "list" vd,aaL .USub Hv,aeO,aee "join" 1 ue,TU "KINDS" n5,fFz Dl],[OH,Dl,fB "dict" Vg],[RM .Eq fun k=>k,RM .NotEq fun k=>!k,aaN "FORMS"<|lW.map (·.1),II,fQ<|d5 .Eq cW jO,fQ<|d5 .NotEq nC jO,fQ<|d5 .Lt LD jO,fQ<|d5 .LtE O6 jO,fQ<|d5 .Gt Lz jO,fQ<|d5 .GtE IK jO,fQ<|d5 .Is Nk jO,fQ<|d5 .In Fe<|vh dN,fQ<|d5 .In Br<|vh lN,fQ<|d5 .NotIn vQ<|vh lN,fQ<|d5 .In Ge<|Qo ["told"],fQ<|d5 .In FB jO,fQ<|d5 .NotIn oW<|vh dN,fQ<|d5 .NotIn lm jO],[fI "range" 1 η ut,fI "range" 2 η uS,fI "enumerate" 1 U cY,fI "zip" 2 U NQ,HZ,Pu dN],[WJ "append" aZ,WJ "extend" iw,WJ "pop" wm,adj,Xn,adc,Yx,WL],yT++cT,dN,[],[],1000⟩
def tE:List Fm:=[aab ve,wQ .Add qA,fB "list" PD]
def aC:List<|Nat×Fm:=[(2,adS "Table" ["shape","rows","indexes"])]
def xF:Xf:=[(1,CP)]
def Pr(_ _:Option FS):Prop:=True
theorem acX:Pr (Z x)<|Z x:=af2
abbrev gt(i:Option FS){x:FS}(_:Pr i<|Z x):FS:=x
def afH(_ _:(aly->R D)->Option FS):Prop:=True
theorem VI{x:(aly->R D)->FS}:afH (fun F=>Z<|x F) (fun F=>Z<|x F):=af2
abbrev QG(i:(aly->R D)->Option FS){x:(aly->R D)->FS}(_:afH i fun F=>Z<|x F):(aly->R D)->FS:=x
def ad(q:Df)(F:aly->R D)(A:List<|Nat×Fm)(n:Nat:=1):List<|Nat×Fm:=(if q.x∈q.g then(q.h.filterMap fun i=>xF[i]?).map fun h=>(q.d+n+h.1,h.2 q.x F)else[])++(q.g.map (fun x=>(q.d+n,nT x F))++A)
def bo(A N:List<|Nat×Fm)(q:Df)(s:List Fs:=[]):Option FS:=iP dc (tbl tB tE A N q [] s) q
def PR(A N:List<|Nat×Fm)(q:Df)(F:aly->R D):Option FS:=iP dc (tbl tB tE A N q (q.g.map fun x=>nT x F) []) q
local macro_rules | `(tactic| walk_at "m") => `(tactic| ((conv => arg 1; whnf); dsimp only [g0, g1, g2, aL, List.headD, List.drop, oP, Option.isSome]; exact acX))
local macro_rules | `(tactic| walk_at "n") => `(tactic| ((conv => arg 1; ext F; whnf); dsimp only [g0, g1, g2, aL, List.headD, List.drop, oP, Option.isSome]; exact VI))
def pL:Df:=df 14 1 0
def vL:=gt (bo aC [] pL) #[0]
def EG:=rD vL 1 1
def A1:=ad pL EG aC
def mO:Df:=df 13 1 1
def ux:=gt (bo A1 [] mO) #[0]
def uv:=rD ux 1 1
def A2:=ad mO uv A1
def qf:Df:=df 15 1 0
def vO:=gt (bo A2 [] qf) #[0]
def lR:=rD vO 1 1
def A3:=ad qf lR A2
def pA:Df:=df 16 2 1
def l4:=gt (bo A3 [] pA) #[0]
def ph:=rD l4 2 2
theorem ER(a0 a1:D):ph [a0,a1]=fin (l4 [Z a0,Z a1]):=rfl
def A4:=ad pA ph A3
def kQ:Df:=df 17 1 1
def qM:=gt (bo A4 [] kQ) #[0]
def qR:=rD qM 1 1
def A5:=ad kQ qR A4
def mR:Df:={df 73 2 0 with g:=["cells_of","cells_of_balance"],m:=["cells"],e:=[0]}
def gU:=gt (bo A5 [] mR) #[0]
def jP:=rD gU 2 7
theorem BS(a0 a1:D):jP [a0,a1]=fin (gU [Z a0,Z a1,L,L,L,L,L]):=rfl
def A6:=ad mR jP A5
def nq:Df:={df 21 2 1 with m:=["sides"],k:=[(⟨53,15,53,66⟩,["side","word"])]}
def dZ:=QG (PR A6 [] nq) (by walk_at "n")
def cZ:Nat->(aly->R D)
 |0=>(fun _=>.no)
 |n+1=>rD (dZ<|(cZ n)) 2 4
def B3:aly->R D:=(cZ 100)
theorem jH(n:Nat)(a0 a1:D):(cZ<|n+1) [a0,a1]=fin (dZ ((cZ n)) [Z a0,Z a1,L,L]):=rfl
def A7:=ad nq B3 A6 100
def mM:Df:=df 53 1 0
def tP:=gt (bo A7 [] mM) #[0]
def m7:=rD tP 1 1
def A8:=ad mM m7 A7
def mY:Df:={df 75 1 1 with g:=["parts_of","parts_of_balance"]}
def uq:=gt (bo A8 [] mY) #[0]
def nv:=rD uq 1 1
def A9:=ad mY nv A8
def mG:Df:=df 25 1 0
def uX:=gt (bo A9 [] mG) #[0]
def BI:=rD uX 1 3
def aeN:=ad mG BI A9
def d8:Df:={df 19 1 101 with g:=["cells_of_showing"]}
def g6:=gt (bo aeN [] d8) #[0]
def gT:=rD g6 1 1
def aeK:=ad d8 gT aeN
def kU:Df:=df 26 1 102
def qw:=gt (bo aeK [] kU) #[0]
def ig:=rD qw 1 1
def afA:=ad kU ig aeK
def m9:Df:=df 27 3 0
def sA:=gt (bo afA [] m9) #[0]
def sK:=rD sA 3 3
def adI:=ad m9 sK afA
def e9:Df:={df 33 2 0 with m:=["found"]}
def dm:=gt (bo adI [] e9) #[0]
def fz:=rD dm 2 4
theorem pE(a0 a1:D):fz [a0,a1]=fin (dm [Z a0,Z a1,L,L]):=rfl
def afh:=ad e9 fz adI
def cO:Df:={df 23 1 1 with g:=["parts_of_conditions"]}
def cL:=QG (PR afh [] cO) (by walk_at "n")
def bg:Nat->(aly->R D)
 |0=>(fun _=>.no)
 |n+1=>rD (cL<|(bg n)) 1 1
def cJ:aly->R D:=(bg 100)
def ae1:=ad cO cJ afh 100
def iO:Df:=df 34 3 2
def fF:=gt (bo ae1 [] iO) #[0]
def iH:=rD fF 3 4
theorem u9(a0 a1 a2:D):iH [a0,a1,a2]=fin (fF [Z a0,Z a1,Z a2,L]):=rfl
def adF:=ad iO iH ae1
def kJ:Df:=df 32 3 101
def fM:=gt (bo adF [] kJ) #[0]
def kO:=rD fM 3 7
theorem zx(a0 a1 a2:D):kO [a0,a1,a2]=fin (fM [Z a0,Z a1,Z a2,L,L,L,L]):=rfl
def ae0:=ad kJ kO adF
def Ac:Df:={df 35 3 102 with m:=["found"]}
def mW:=gt (bo ae0 [] Ac) #[0]
def wP:=rD mW 3 8
theorem RB(a0 a1 a2:D):wP [a0,a1,a2]=fin (mW [Z a0,Z a1,Z a2,L,L,L,L,L]):=rfl
def ae4:=ad Ac wP ae0
def lF:Df:={df 37 1 1 with m:=["orders"],k:=[(⟨119,17,119,64⟩,["other","number"]),(⟨120,22,120,71⟩,["order","number"])]}
def qI:=QG (PR ae4 [] lF) (by walk_at "n")
def lI:Nat->(aly->R D)
 |0=>(fun _=>.no)
 |n+1=>rD (qI<|(lI n)) 1 4
def qG:aly->R D:=(lI 100)
def adR:=ad lF qG ae4 100
def sI:Df:=df 39 2 1
def yD:=gt (bo adR [] sI) #[0]
def lw:=rD yD 2 2
def aff:=ad sI lw adR
def gk:Df:={df 42 3 103 with k:=[(⟨156,51,156,105⟩,["number","k","joined"])]}
def jZ:=gt (bo aff [] gk) #[0]
def dQ:=rD jZ 3 4
def afE:=ad gk dQ aff
def kL:Df:={df 43 3 104 with m:=["found"]}
def kZ:=gt (bo afE [] kL) #[0]
def qr:=rD kZ 3 5
def aeb:=ad kL qr afE
def fg:Df:={df 44 3 1 with k:=[(⟨168,11,168,95⟩,["place","column","table"])]}
def jd:=gt (bo aeb [] fg) #[0]
def jj:=rD jd 3 4
def aek:=ad fg jj aeb
def lD:Df:={df 40 4 105 with m:=["joints"],k:=[(⟨139,12,139,62⟩,["part","k"]),(⟨140,13,140,71⟩,["part","k","joined"]),(⟨141,13,141,97⟩,["part","k","joined"]),(⟨145,13,145,91⟩,["way","across","alone"])]}
def fT:=gt (bo aek [] lD) #[0]
def km:=rD fT 4 14
theorem yA(a0 a1 a2 a3:D):km [a0,a1,a2,a3]=fin (fT [Z a0,Z a1,Z a2,Z a3,L,L,L,L,L,L,L,L,L,L]):=rfl
def aeR:=ad lD km aek
def kC:Df:=df 41 2 0
def qt:=gt (bo aeR [] kC) #[0]
def kE:=rD qt 2 2
def afg:=ad kC kE aeR
def ff:Df:={df 38 3 106 with m:=["wider"],k:=[(⟨125,12,125,91⟩,["part","first"]),(⟨126,11,126,67⟩,["way","alone"]),(⟨132,25,132,90⟩,["joint","plan"])]}
def cf:=gt (bo afg [] ff) #[0]
def dq:=rD cf 3 12
theorem pT(a0 a1 a2:D):dq [a0,a1,a2]=fin (cf [Z a0,Z a1,Z a2,L,L,L,L,L,L,L,L,L]):=rfl
def adZ:=ad ff dq afg
abbrev D6:alq:=["tree","state","made","order"]
abbrev LQ:alq:=["tree","state"]
def oi:Df:={df 36 2 107 with N:=D6,m:=["made","return"],k:=[(⟨113,11,113,53⟩,["plan","tree"])]}
def Ei:=gt (bo adZ [] oi [Ci]) #[0]
def sr:aly->R D:=zG Ei D6 LQ
def aer:=ad oi sr adZ
def aN:=[(oi.d+1,nT oi.x sr)]
def iT:Df:=df 49 2 2
def mq:=gt (bo aer aN iT) #[0]
def b9:=rD mq 2 3
def ad9:=ad iT b9 aer
def iR:Df:=df 50 0 0
def fG:=gt (bo ad9 aN iR) #[0]
def iU:=rD fG 0 0
theorem vf:iU []=fin (fG []):=rfl
def aeD:=ad iR iU ad9
def jI:Df:=df 52 2 3
def oq:=gt (bo aeD aN jI) #[0]
def jK:=rD oq 2 3
def ad6:=ad jI jK aeD
def lH:Df:=df 51 3 4
def qx:=gt (bo ad6 aN lH) #[0]
def ku:=rD qx 3 6
def adB:=ad lH ku ad6
def ga:Df:=df 54 1 0
def j7:=gt (bo adB aN ga) #[0]
def j0:=rD j7 1 1
def ael:=ad ga j0 adB
def kI:Df:=df 61 1 0
def qq:=gt (bo ael aN kI) #[0]
def z0:=rD qq 1 1
def afD:=ad kI z0 ael
def pN:Df:=df 60 1 1
def lZ:=gt (bo afD aN pN) #[0]
def pX:=rD lZ 1 1
theorem Fn(a0:D):pX [a0]=fin (lZ [Z a0]):=rfl
def afe:=ad pN pX afD
def fw:Df:=df 66 1 0
def iX:=gt (bo afe aN fw) #[0]
def jf:=rD iX 1 1
def aew:=ad fw jf afe
def qi:Df:=df 63 1 0
def wo:=gt (bo aew aN qi) #[0]
def Gh:=rD wo 1 1
def afO:=ad qi Gh aew
def kl:Df:=df 65 1 2
def qD:=gt (bo afO aN kl) #[0]
def yo:=rD qD 1 1
def afC:=ad kl yo afO
def iS:Df:=df 64 1 3
def fJ:=gt (bo afC aN iS) #[0]
def iK:=rD fJ 1 2
theorem vi(a0:D):iK [a0]=fin (fJ [Z a0,L]):=rfl
def afz:=ad iS iK afC
def mS:Df:=df 62 1 4
def tG:=gt (bo afz aN mS) #[0]
def sT:=rD tG 1 1
def adJ:=ad mS sT afz
def gW:Df:=df 67 2 0
def kR:=gt (bo adJ aN gW) #[0]
def kD:=rD kR 2 4
def aeB:=ad gW kD adJ
def kG:Df:=df 69 2 2
def qF:=gt (bo aeB aN kG) #[0]
def kN:=rD qF 2 2
def adz:=ad kG kN aeB
def BO:Df:=df 68 2 3
def BX:=gt (bo adz aN BO) #[0]
def Ja:=rD BX 2 3
def adV:=ad BO Ja adz
def uh:Df:=df 77 1 2
def z6:=gt (bo adV aN uh) #[0]
def yS:=rD z6 1 2
def ad0:=ad uh yS adV
def jx:Df:={df 72 2 5 with k:=[(⟨239,16,239,73⟩,["other","entry"]),(⟨240,17,240,74⟩,["other","entry"])]}
def ck:=QG (PR ad0 aN jx) (by walk_at "n")
def dl:Nat->(aly->R D)
 |0=>(fun _=>.no)
 |n+1=>rD (ck<|(dl n)) 2 7
def wZ:aly->R D:=(dl 40)
theorem oX(n:Nat)(a0 a1:D):(dl<|n+1) [a0,a1]=fin (ck ((dl n)) [Z a0,Z a1,L,L,L,L,L]):=rfl
def adT:=ad jx wZ ad0 40
def jV:Df:=df 71 3 45
def n8:=gt (bo adT aN jV) #[0]
def jw:=rD n8 3 3
def adx:=ad jV jw adT
def uM:Df:={df 80 3 2 with e:=[1]}
def oT:=gt (bo adx aN uM) #[0]
def sx:=rD oT 3 6
theorem Ku(a0 a1 a2:D):sx [a0,a1,a2]=fin (oT [Z a0,Z a1,Z a2,L,L,L]):=rfl
def afN:=ad uM sx adx
def g9:Df:={df 79 2 5 with k:=[(⟨272,30,272,76⟩,["other","entry"])]}
def cc:=QG (PR afN aN g9) (by walk_at "n")
def bO:Nat->(aly->R D)
 |0=>(fun _=>.no)
 |n+1=>rD (cc<|(bO n)) 2 5
def kX:aly->R D:=(bO 40)
theorem lu(n:Nat)(a0 a1:D):(bO<|n+1) [a0,a1]=fin (cc ((bO n)) [Z a0,Z a1,L,L,L]):=rfl
def afw:=ad g9 kX afN 40
def gp:Df:=df 78 3 45
def dR:=gt (bo afw aN gp) #[0]
def dJ:=rD dR 3 4
theorem rh(a0 a1 a2:D):dJ [a0,a1,a2]=fin (dR [Z a0,Z a1,Z a2,L]):=rfl
def adU:=ad gp dJ afw
def ly:Df:={df 82 1 2 with h:=[0]}
def qB:=gt (bo adU aN ly) #[0]
def eG:=rD qB 1 1
def afF:=ad ly eG adU
def jL:Df:={df 81 1 4 with m:=["once"]}
def gy:=gt (bo afF aN jL) #[0]
def jJ:=rD gy 1 3
theorem xz(a0:D):jJ [a0]=fin (gy [Z a0,L,L]):=rfl
def aeX:=ad jL jJ afF
def kH:Df:=df 85 1 2
def qT:=gt (bo aeX aN kH) #[0]
def zI:=rD qT 1 1
def aem:=ad kH zI aeX
def f9:Df:=df 88 3 46
def j4:=gt (bo aem aN f9) #[0]
def j5:=rD j4 3 4
def aec:=ad f9 j5 aem
def np:Df:={df 86 3 47 with m:=["indexes","rows"]}
def mB:=gt (bo aec aN np) #[0]
def mz:=rD mB 3 7
def aeU:=ad np mz aec
def iE:Df:={df 87 2 47 with m:=["indexes","rows"]}
def iI:=gt (bo aeU aN iE) #[0]
def iA:=rD iI 2 5
def aen:=ad iE iA aeU
def jr:Df:={df 90 2 1 with k:=[(⟨333,11,333,71⟩,["number","row","place"])]}
def nO:=gt (bo aen aN jr) #[0]
def oQ:=rD nO 2 3
def aeW:=ad jr oQ aen
def jR:Df:={df 89 2 5 with m:=["indexes"]}
def oI:=gt (bo aeW aN jR) #[0]
def jy:=rD oI 2 3
def afa:=ad jR jy aeW
def pq:Df:=df 95 1 0
def vA:=gt (bo afa aN pq) #[0]
def FR:=rD vA 1 1
def adu:=ad pq FR afa
def jF:Df:={df 102 3 0 with m:=["behind"]}
def om:=gt (bo adu aN jF) #[0]
def oV:=rD om 3 4
def adw:=ad jF oV adu
def dW:Df:=df 96 2 5
def gS:=gt (bo adw aN dW) #[0]
def eh:=rD gS 2 2
def afs:=ad dW eh adw
def mQ:Df:=df 100 2 0
def tU:=gt (bo afs aN mQ) #[0]
def uG:=rD tU 2 2
def afJ:=ad mQ uG afs
def d9:Df:=df 97 3 6
def cj:=gt (bo afJ aN d9) #[0]
def cr:=rD cj 3 4
theorem mU(a0 a1 a2:D):cr [a0,a1,a2]=fin (cj [Z a0,Z a1,Z a2,L]):=rfl
def afo:=ad d9 cr afJ
def fE:Df:=df 98 4 48
def dh:=gt (bo afo aN fE) #[0]
def di:=rD dh 4 5
theorem pD(a0 a1 a2 a3:D):di [a0,a1,a2,a3]=fin (dh [Z a0,Z a1,Z a2,Z a3,L]):=rfl
def aed:=ad fE di afo
def gf:Df:=df 101 2 1
def cD:=gt (bo aed aN gf) #[0]
def gn:=rD cD 2 2
theorem rj(a0 a1:D):gn [a0,a1]=fin (cD [Z a0,Z a1]):=rfl
def ae5:=ad gf gn aed
def dD:Df:=df 99 3 48
def gr:=gt (bo ae5 aN dD) #[0]
def dE:=rD gr 3 4
def aeM:=ad dD dE ae5
def pR:Df:=df 93 2 49
def wq:=gt (bo aeM aN pR) #[0]
def eI:=rD wq 2 3
def adD:=ad pR eI aeM
def iJ:Df:=df 94 2 50
def ml:=gt (bo adD aN iJ) #[0]
def mv:=rD ml 2 4
def adp:=ad iJ mv adD
def kg:Df:=df 104 2 0
def qV:=gt (bo adp aN kg) #[0]
def f6:=rD qV 2 2
def aeS:=ad kg f6 adp
def mJ:Df:={df 105 2 0 with m:=["_law_found"]}
def gQ:=gt (bo aeS aN mJ) #[0]
def jD:=rD gQ 2 5
theorem AB(a0 a1:D):jD [a0,a1]=fin (gQ [Z a0,Z a1,L,L,L]):=rfl
def afb:=ad mJ jD aeS
def sU:Df:={df 106 2 0 with k:=[(⟨405,24,405,116⟩,["_law_j","_law_letters","_law_x"])]}
def oG:=gt (bo afb aN sU) #[0]
def tX:=rD oG 2 5
theorem JM(a0 a1:D):tX [a0,a1]=fin (oG [Z a0,Z a1,L,L,L]):=rfl
def aeP:=ad sU tX afb
def pZ:Df:={df 107 2 0 with k:=[(⟨413,23,413,115⟩,["_law_j","_law_some","_law_x"])]}
def l7:=gt (bo aeP aN pZ) #[0]
def i5:=rD l7 2 4
theorem FP(a0 a1:D):i5 [a0,a1]=fin (l7 [Z a0,Z a1,L,L]):=rfl
def adM:=ad pZ i5 aeP
def pF:Df:={df 108 2 1 with m:=["_law_columns"]}
def pO:=gt (bo adM aN pF) #[0]
def vR:=rD pO 2 4
def aep:=ad pF vR adM
def xc:Df:={df 109 2 1 with k:=[(⟨427,17,427,122⟩,["_law_c","_law_xs","_law_shape_here"])]}
def rT:=gt (bo aep aN xc) #[0]
def xS:=rD rT 2 3
theorem No(a0 a1:D):xS [a0,a1]=fin (rT [Z a0,Z a1,L]):=rfl
def adO:=ad xc xS aep
noncomputable abbrev Ao:alq:=["_law_shape_here","_law_xs","_law_k","_law_most","_law_early","_law_late_here","_law_puts","_law_j","_law_x","_law_number"]
def mN:Df:={df 110 4 2 with N:=Ao,m:=["_law_puts"],k:=[(⟨429,17,429,160⟩,["_law_j","_law_column","_law_shape_here","_law_xs"])]}
def bZ:=gt (bo adO aN mN) #[0]
def mE:=rD bZ 4 10
theorem Bt(a0 a1 a2 a3:D):mE [a0,a1,a2,a3]=fin (bZ [Z a0,Z a1,Z a2,Z a3,L,L,L,L,L,L]):=rfl
def ado:=ad mN mE adO
def kz:Df:={df 111 2 3 with m:=["_law_shapes"]}
def lc:=gt (bo ado aN kz) #[0]
def qH:=rD lc 2 6
def ad7:=ad kz qH ado
def ud:Df:=df 113 2 0
def yw:=gt (bo ad7 aN ud) #[0]
def i8:=rD yw 2 3
def ad1:=ad ud i8 ad7
def uy:Df:=df 114 2 1
def dG:=gt (bo ad1 aN uy) #[0]
def sX:=rD dG 2 5
theorem Kn(a0 a1:D):sX [a0,a1]=fin (dG [Z a0,Z a1,L,L,L]):=rfl
def aeh:=ad uy sX ad1
def iG:Df:=df 115 2 2
def cI:=gt (bo aeh aN iG) #[0]
def mw:=rD cI 2 5
def ad3:=ad iG mw aeh
def ng:Df:=df 116 2 3
def fh:=gt (bo ad3 aN ng) #[0]
def mZ:=rD fh 2 4
theorem Ak(a0 a1:D):mZ [a0,a1]=fin (fh [Z a0,Z a1,L,L]):=rfl
def adE:=ad ng mZ ad3
def sN:Df:={df 117 3 4 with k:=[(⟨505,19,505,116⟩,["_law_x","_law_shapes"]),(⟨514,24,514,159⟩,["_law_x","_law_wide"]),(⟨515,22,515,133⟩,["_law_x","_law_wide"]),(⟨517,23,517,134⟩,["_law_k","_law_sources"])]}
def bU:=gt (bo adE aN sN) #[0]
def uk:=rD bU 3 13
theorem GI(a0 a1 a2:D):uk [a0,a1,a2]=fin (bU [Z a0,Z a1,Z a2,L,L,L,L,L,L,L,L,L,L]):=rfl
def adt:=ad sN uk adE
def pM:Df:=df 118 1 1
def pV:=QG (PR adt aN pM) (by walk_at "n")
def gJ:Nat->(aly->R D)
 |0=>(fun _=>.no)
 |n+1=>rD (pV<|(gJ n)) 1 1
def lV:aly->R D:=(gJ 100)
def aeq:=ad pM lV adt 100
def mF:Df:=df 119 1 1
def dU:=QG (PR aeq aN mF) (by walk_at "n")
def de:Nat->(aly->R D)
 |0=>(fun _=>.no)
 |n+1=>rD (dU<|(de n)) 1 3
def cu:aly->R D:=(de 100)
theorem jM(n:Nat)(a0:D):(de<|n+1) [a0]=fin (dU ((de n)) [Z a0,L,L]):=rfl
def aes:=ad mF cu aeq 100
def m4:Df:=df 120 2 0
def m8:=gt (bo aes aN m4) #[0]
def mH:=rD m8 2 5
def adW:=ad m4 mH aes
def sW:Df:={df 121 4 101 with m:=["_law_found"],k:=[(⟨544,22,544,87⟩,["_law_j","_law_k"]),(⟨545,19,545,81⟩,["_law_j","_law_there"])]}
def nM:=gt (bo adW aN sW) #[0]
def zh:=rD nM 4 8
def afj:=ad sW zh adW
def tV:Df:=df 122 1 0
def zc:=gt (bo afj aN tV) #[0]
def sP:=rD zc 1 1
def afQ:=ad tV sP afj
def qb:Df:={df 123 2 101 with m:=["_law_parts_here"],k:=[(⟨557,11,557,81⟩,["_law_j","_law_way"])]}
def v5:=gt (bo afQ aN qb) #[0]
def F1:=rD v5 2 5
def aft:=ad qb F1 afQ
def tZ:Df:={df 124 3 103 with k:=[(⟨580,54,580,160⟩,["_law_part","_law_k"])]}
def ja:=QG (PR aft aN tZ) (by walk_at "n")
def gN:Nat->(aly->R D)
 |0=>(fun _=>.no)
 |n+1=>rD (ja<|(gN n)) 3 8
def uf:aly->R D:=(gN 100)
theorem Jb(n:Nat)(a0 a1 a2:D):(gN<|n+1) [a0,a1,a2]=fin (ja ((gN n)) [Z a0,Z a1,Z a2,L,L,L,L,L]):=rfl
def afP:=ad tZ uf aft 100
def kh:Df:={df 125 5 103 with m:=["_law_found","_law_merges"],e:=[0]}
def fS:=gt (bo afP aN kh) #[0]
def kq:=rD fS 5 11
theorem yJ(a0 a1 a2 a3 a4:D):kq [a0,a1,a2,a3,a4]=fin (fS [Z a0,Z a1,Z a2,Z a3,Z a4,L,L,L,L,L,L]):=rfl
def afM:=ad kh kq afP
def wX:Df:={df 126 3 104 with m:=["_law_turns"],k:=[(⟨609,34,609,93⟩,["_law_row_here","_law_turn"]),(⟨607,44,607,98⟩,["_law_one","_law_row_here"])]}
def nS:=gt (bo afM aN wX) #[0]
def MQ:=rD nS 3 11
def aez:=ad wX MQ afM
def um:Df:={df 127 3 0 with k:=[(⟨614,34,614,170⟩,["_law_column","_law_shape_here","_law_indexed"])]}
def nD:=gt (bo aez aN um) #[0]
def nW:=rD nD 3 5
theorem Iq(a0 a1 a2:D):nW [a0,a1,a2]=fin (nD [Z a0,Z a1,Z a2,L,L]):=rfl
def adq:=ad um nW aez
def pH:Df:={df 128 3 203 with m:=["_law_found","_law_told"]}
def gI:=gt (bo adq aN pH) #[0]
def lU:=rD gI 3 8
theorem Gc(a0 a1 a2:D):lU [a0,a1,a2]=fin (gI [Z a0,Z a1,Z a2,L,L,L,L,L]):=rfl
def A90:=ad pH lU adq
def KO:Df:=df 129 1 204
def yk:=gt (bo A90 aN KO) #[0]
def zq:=rD yk 1 8
theorem Zf(a0:D):zq [a0]=fin (yk [Z a0,L,L,L,L,L,L,L]):=rfl
def vF(_:aly):R D:=.no
def Pe{α β:Type}(_:α)(_:β):Prop:=True
theorem p0{α:Type}{x:α}:Pe x x:=af2
abbrev gx{α β:Type}(a:α){x:β}(_:Pe a x):β:=x
theorem Et(_:Pe a2 x):Pe (jc a1 a2) x:=af2
theorem RO(_:Pe a1 x):Pe (Bo a1 a2) x:=af2
theorem Uf(_:Pe a2 x):Pe (Bo a1 a2) x:=af2
theorem bc(_:Pe a3 x):Pe (nA a1 a2 a3) x:=af2
theorem gP(_:Pe a1 x):Pe (gM a1 a2 a3) x:=af2
theorem gq(_:Pe a2 x):Pe (gM a1 a2 a3) x:=af2
theorem Jm(_:Pe a3 x):Pe (gM a1 a2 a3) x:=af2
theorem aq(_:Pe a1 x):Pe (aW a1 a2) x:=af2
theorem ae(_:Pe a2 x):Pe (aW a1 a2) x:=af2
theorem wY(_:Pe a2 x):Pe (b8 a1 a2) x:=af2
theorem sO(_:Pe a4 x):Pe (bW a1 a2 a3 a4 a5) x:=af2
abbrev Re:FE:=aD c8<|aj (ak 0) aA
abbrev Zq:FE:=aJ GU (vC<|.int 10)<|vC<|.int 18
abbrev ab0:FE:=aJ Nk (ak 0)<|vC .non
abbrev OP:FE:=aD c8<|aj (ak 1) aA
abbrev acj:FS:=gx gU<|ae<|ae<|aq<|bc<|ae<|ae p0
abbrev Xa:FS:=b8 5<|aJ rg (aJ rC (ak 4) OP)<|ak 2
abbrev aaf:FE:=aJ bw (ak 0)<|vC<|.int 0
abbrev UX:FE:=aJ bw (ak 0)<|vC<|.int 1
abbrev aap:FE:=aJ bw (ak 1)<|vC<|.int 1
abbrev aa6:FE:=aJ bw (ak 1)<|vC<|.int 0
abbrev aaM:FE:=dj<|aj (ak 1)<|aj (ak 2) aA
abbrev acI:FT:=gx BX<|ae<|aq<|gP p0
abbrev aaS:FE:=aJ bw (ak 2)<|vC<|.int 0
abbrev JZ:FE:=aJ nC (ak 0)<|ak 1
abbrev PC:FT:=bG JZ
abbrev LS:FE:=aJ cW (ak 1)<|gm aA
abbrev abu:FS:=gx gQ<|ae<|ae<|aq<|bc p0
abbrev Td:FE:=aJ mf (ak 0)<|vC<|.int 6
abbrev Qg:FE:=aJ rC (ak 0)<|ak 0
abbrev acx:FE:=bW [L,Z 2,Z 0] (ut<|aj (aJ eR (vC<|.int 1) Td) aA) (.one 0) nL<|aJ bw (ak 1)<|aJ mf (aJ eR (aJ rg (ak 2)<|vC<|.int 7)<|aJ rC Qg<|vC<|.int 5)<|vC<|.int 26
abbrev Xe:FE:=aD c8<|aj (ak 3) aA
abbrev Yf:FE:=aJ eR Xe<|vC<|.int 1
abbrev ab4:FE:=aJ zi (aJ mf (aJ rC Qg<|vC<|.int 48271)<|aJ zi (aJ rC (vC<|.int 2) Zq)<|vC<|.int 1)<|aJ zi Zq<|vC<|.int 1
abbrev Xp:FE:=aJ cW (ak 1)<|vC<|.str "text"
abbrev aaF:FE:=aJ bw (ak 1)<|ak 0
abbrev X7:FE:=aJ mf (aJ bw (ak 1)<|vC<|.int 10)<|vC<|.int 3
abbrev ac4:FE:=gm<|aj (dj<|aj (vC<|.str "index")<|aj aaf<|aj (aJ bw (aJ bw UX<|aJ mf (aJ bw (ak 1)<|vC<|.int 6)<|aD c8<|aj UX aA)<|vC<|.int 0) aA) aA
abbrev Yy:FE:=aJ cW (aJ mf (aJ bw (ak 1)<|vC<|.int 5)<|vC<|.int 2)<|vC<|.int 0
abbrev abV:FS:=gx bZ<|ae<|aq p0
abbrev YD:FE:=aJ bw (ak 6)<|vC<|.int 0
abbrev act:FS:=gx bZ<|ae<|ae<|ae<|ae<|ae<|ae<|ae<|aq<|gq p0
abbrev XR:FE:=aD c8<|aj (ak 6) aA
abbrev WD:FE:=aJ Lz XR<|vC<|.int 2
abbrev abB:FT:=gx bZ<|aq<|wY<|sO p0
abbrev ada:FT:=gx bZ<|ae<|ae<|ae<|ae<|ae<|ae<|aq<|gP p0
abbrev YC:FE:=dj<|aj (vC<|.str "index")<|aj aaS<|aj aa6 aA
abbrev QO:FE:=aJ cW (ak 4)<|gm aA
abbrev Yl:FT:=jc (bG WD)<|bG<|aJ cW X7<|vC<|.int 1
abbrev HQ:FE:=aJ bw (ak 5)<|vC<|.int 0
abbrev aa5:FE:=gm<|aj (aJ eR (aJ rg (ak 0)<|vC<|.int 5)<|aJ mf HQ<|vC<|.int 2) aA
abbrev ack:FE:=aJ eR (aJ rg (ak 0)<|vC<|.int 3)<|aJ rC (vC<|.int 11)<|ak 4
abbrev WW:FE:=CO si (ak 5) (j6<|vC<|.int 1) mh
abbrev Yt:FE:=aD c8<|aj (aJ bw (ak 1)<|ak 2) aA
abbrev aam:FS:=gx dG<|ae<|aq p0
abbrev z1x:FS:=gx cI<|ae<|aq<|bc<|ae<|ae<|aq p0
abbrev abf:FS:=gx cI<|ae<|aq<|bc<|ae<|aq p0
abbrev ab5:FT:=gx fh<|ae<|aq<|gP p0
abbrev YI:FE:=aJ bw (ak 5)<|vC<|.int 1
abbrev z5x:FE:=dj<|aj (vC<|.str "test")<|aj (vC<|.str "=")<|aj (dj<|aj (vC<|.str "cell")<|aj (vC<|.int 1)<|aj (aJ mf (aJ bw (ak 3)<|vC<|.int 21)<|aD c8<|aj YI aA) aA)<|aj (dj<|aj (vC<|.str "cell")<|aj (vC<|.int 0)<|aj (aJ mf (aJ bw (ak 3)<|vC<|.int 22)<|aD c8<|aj HQ aA) aA) aA
abbrev acz:FT:=gx bU<|ae<|ae<|ae<|ae<|aq<|gP p0
abbrev TW:FS:=gx bU<|ae<|ae<|ae<|aq p0
abbrev W9:FE:=aD c8<|aj (ak 4) aA
abbrev aaG:FT:=gx bU<|ae<|ae<|ae<|ae<|ae<|ae<|aq<|gP p0
abbrev aaj:FS:=gx bU<|ae<|ae<|ae<|ae<|ae<|ae<|aq p0
noncomputable abbrev ab9:FS:=gx bU<|ae<|ae<|ae<|ae<|ae<|ae<|ae<|ae<|ae<|ae<|aq p0
abbrev abU:FS:=gx bU<|ae<|ae<|ae<|ae<|ae<|ae<|ae<|ae<|ae<|aq p0
abbrev abv:FS:=gx bU<|ae<|aq p0
abbrev acO:FS:=b8 5<|bW [L] (gE<|ak 4) (.one 0) nL<|bW [L] (gE UX) (.one 0) nL UX
abbrev Xr:FE:=aD lR<|aj (ak 0) aA
abbrev Xm:FE:=aD lR<|aj (ak 1) aA
abbrev acv:FE:=aJ LD (Ft n5<|aj Xr aA)<|Ft n5<|aj Xm aA
abbrev Cs:FE:=aJ bw (ak 0)<|vC<|.int 0
abbrev YJ:FE:=CO si (ak 0) (j6<|vC<|.int 1) mh
abbrev aay:FE:=aJ qA (CO si (ak 0) mh<|j6<|ak 3)<|aD nv<|aj (ak 5) aA
abbrev Ya:FE:=dj<|aj (vC<|.str "and")<|aj (ak 1)<|aj (ak 2) aA
abbrev G5:FE:=aJ bw (ak 0)<|vC<|.int 1
abbrev O9:FE:=aJ bw (ak 3)<|vC<|.int 2
abbrev QL:FE:=aJ bw (ak 3)<|vC<|.int 0
abbrev Qw:FE:=aJ bw (ak 3)<|vC<|.int 1
abbrev Ps:FE:=aJ cW QL<|vC<|.str "test"
abbrev IZ:FE:=aJ bw (ak 1)<|vC<|.int 0
abbrev XF:FE:=aJ bw (ak 5)<|vC<|.int 1
abbrev Zt:FS:=gx fM<|ae<|ae<|aq<|bc<|aq p0
abbrev Px:FE:=LG Hv<|vC<|.int 1
abbrev XU:FE:=aJ bw (ak 7)<|vC<|.int 1
abbrev X5:FS:=gx mW<|ae<|ae<|aq<|bc<|ae<|gq p0
abbrev WA:FE:=dj<|aj (vC<|.str "walk")<|aj (ak 2) aA
abbrev Xb:FS:=gx mW<|ae<|ae<|aq<|bc<|aq p0
abbrev Vt:FT:=gx mW<|ae<|ae<|aq<|bc<|ae<|gP<|Et p0
abbrev Ve:FE:=yn "Table" "indexes"<|ak 3
abbrev PL:FE:=gm<|aj (ak 1) aA
abbrev P8:FE:=aD ig<|aj (ak 0) aA
abbrev Vc:FE:=aJ bw (ak 4)<|vC<|.int 2
abbrev ZM:FE:=aJ cW (aJ bw Vc<|vC<|.int 1)<|ak 1
abbrev Vn:FS:=gx kZ<|ae<|aq<|bc<|gq p0
abbrev QD:FE:=aJ bw (ak 4)<|vC<|.int 1
abbrev UZ:FE:=aJ bw (ak 4)<|vC<|.int 0
abbrev Pm:FE:=aD dQ<|aj (ak 4)<|aj (ak 1)<|aj (ak 2) aA
abbrev QE:FE:=aJ cW UZ<|vC<|.str "test"
abbrev Ph:FE:=aJ cW QD<|vC<|.str "="
abbrev Y3:FE:=aJ Fe IZ<|yn "Table" "indexes"<|ak 2
abbrev Jq:FE:=aJ cW P8 PL
abbrev Qn:FE:=aJ bw (ak 12)<|vC<|.int 2
abbrev ZI:FE:=dj<|aj (dj<|aj (vC<|.str "merge")<|aj (vC .non)<|aj (ak 10)<|aj (aJ bw (ak 13)<|vC<|.int 1)<|aj (aJ bw (ak 13)<|vC<|.int 2)<|aj (ak 2)<|aj Qn aA)<|aj (ak 6) aA
abbrev Wm:FS:=gx fT<|ae<|ae<|ae<|ae<|ae<|ae<|ae<|ae<|aq<|bc<|gq p0
abbrev Qa:FE:=aD dQ<|aj (ak 0)<|aj (ak 1)<|aj (ak 2) aA
abbrev Yb:FE:=dj<|aj (vC<|.str "pair")<|aj (vC .non)<|aj (aD lw<|aj (ak 0)<|aj (ak 2) aA) aA
abbrev P4:FE:=aJ FB Qn<|ak 9
abbrev Yw:FS:=gx cf<|ae<|ae<|ae<|ae<|aq<|bc<|ae<|aq p0
abbrev Zo:FE:=aD kE<|aj Cs<|aj (ak 1) aA
abbrev V3:FS:=b8 8<|CO si (ak 2) mh<|j6<|ak 7
abbrev Zb:FE:=aD c8<|aj G5 aA
abbrev YO:FE:=aD dq<|aj (ak 0)<|aj (ak 1)<|aj (ak 3) aA
abbrev VY:FE:=aJ bw (ak 1)<|vC<|.int 3
abbrev Vf:FE:=aJ cW (ak 2)<|vC<|.int 0
abbrev abo:FT:=gx (ck vF)<|aq<|gq<|ae<|aq<|wY<|sO p0
abbrev aaV:FT:=gx (ck vF)<|aq<|gq<|aq<|wY<|sO p0
abbrev abi:FE:=aJ bw (ak 5)<|aD jK<|aj (ak 5)<|aj (ak 3) aA
abbrev ac8:FS:=gx (cc vF)<|ae<|ae<|aq p0
abbrev abO:FT:=gx cD<|gP p0
abbrev abz:FS:=gx mB<|ae<|ae<|ae<|aq<|bc p0
abbrev acE:FS:=gx iI<|ae<|ae<|ae<|aq<|bc p0
abbrev Vu:FE:=aD eI<|aj (ak 2)<|aj (ak 3) aA
abbrev adC:FS:=gx bU<|ae<|ae<|ae<|ae<|aq p0
abbrev abC:FS:=gx pO<|ae<|aq<|bc p0
abbrev acH:FS:=gx dG<|ae<|ae<|ae<|ae<|ae<|aq p0
abbrev acQ:FS:=gx dG<|ae<|ae<|ae<|ae<|aq p0
abbrev acK:FS:=gx dG<|ae<|ae<|aq p0
abbrev abe:FS:=gx bZ<|ae<|ae<|ae<|ae<|ae<|aq<|bc p0
abbrev aat:FS:=gx bZ<|ae<|ae<|ae<|ae<|ae<|ae<|aq<|gq p0
abbrev z6x:FS:=gx lc<|ae<|ae<|aq<|bc p0
abbrev ach:FS:=gx dG<|ae<|ae<|ae<|aq p0
abbrev Ye:FS:=gx dG<|aq p0
abbrev afm:FS:=gx bU<|ae<|ae<|ae<|ae<|ae<|ae<|ae<|ae<|aq p0
abbrev z9x:FS:=gx bU<|ae<|ae<|ae<|ae<|ae<|ae<|ae<|aq p0
abbrev V7:FS:=gx cI<|ae<|aq<|bc<|aq p0
abbrev ab8:FS:=gx cI<|ae<|aq<|bc p0
abbrev aey:FS:=gx fh<|p0
abbrev WR:FE:=gm<|aj (ak 0) aA
abbrev Y8:FS:=gx m8<|aq<|bc<|Jm p0
abbrev P3:FT:=gx nM<|ae<|aq<|bc<|ae<|ae<|gP<|Et p0
abbrev Wj:FS:=gx nM<|ae<|aq<|bc<|ae<|aq p0
abbrev GG:FE:=aJ nC (ak 0)<|aJ bw (ak 1)<|vC<|.int 1
abbrev Y0:FE:=aJ bw (ak 1)<|vC<|.int 2
abbrev Yn:FS:=gx (ja vF)<|ae<|ae<|ae<|ae<|ae<|aq<|Jm<|ae<|ae<|ae<|aq p0
abbrev XC:FS:=gx (ja vF)<|ae<|ae<|ae<|ae<|ae<|aq<|gq p0
abbrev Yk:FS:=b8 6<|dj<|aj (vC<|.str "pair")<|aj (ak 7) aA
abbrev Xg:FS:=b8 7<|aD sP<|aj O9 aA
abbrev Yr:FT:=bG<|aJ cW QL<|vC<|.str "match"
abbrev Ix:FE:=aJ bw (ak 8)<|vC<|.int 2
abbrev Zw:FE:=aJ bw (ak 9)<|vC<|.int 1
abbrev P5:FE:=dj<|aj (vC<|.str "merge")<|aj (dj<|aj (vC<|.str "walk")<|aj (ak 4) aA)<|aj Zw<|aj (aJ bw (ak 9)<|vC<|.int 2)<|aj (ak 4)<|aj Ix aA
abbrev Qm:FE:=aJ cW (CO ve (ak 7) mh<|j6<|vC<|.int 2)<|dj<|aj (vC<|.str "test")<|aj (vC<|.str "=") aA
abbrev Pc:FE:=aJ cW (aJ bw (aJ bw (ak 7)<|vC<|.int 3)<|vC<|.int 0)<|vC<|.str "cell"
abbrev P9:FE:=aJ cW (aJ bw (aJ bw (ak 7)<|vC<|.int 2)<|vC<|.int 0)<|vC<|.str "cell"
abbrev WU:FT:=jc (bG P9)<|bG Pc
abbrev VJ:FA:=gE<|gm<|aj (CO ve (ak 7) (j6<|vC<|.int 2) mh)<|aj (dj<|aj (aJ bw (ak 7)<|vC<|.int 3)<|aj (aJ bw (ak 7)<|vC<|.int 2) aA) aA
abbrev Wv:FS:=gx fS<|ae<|ae<|aq<|bc<|gq<|bc<|gq<|ae<|aq<|gq p0
abbrev P6:FT:=gx fS<|ae<|ae<|aq<|bc<|gq<|bc<|gP p0
abbrev Wh:FS:=gx nS<|ae<|ae<|ae<|aq<|bc<|ae<|aq<|bc<|aq p0
abbrev Xh:FS:=gx nS<|ae<|ae<|ae<|aq<|bc<|aq p0
abbrev VG:FS:=gx nS<|ae<|ae<|ae<|aq<|bc<|ae<|ae p0
abbrev Wi:FA:=uS<|aj (vC<|.int 1)<|aj (aD c8<|aj (ak 5) aA) aA
abbrev Qj:FE:=dj<|aj IZ<|aj Cs aA
abbrev Qr:FE:=aJ vQ Qj<|ak 2
abbrev Va:FT:=gx gI<|ae<|ae<|ae<|aq<|bc<|aq<|gP<|Uf p0
abbrev ZO:FT:=gx gI<|ae<|ae<|ae<|aq<|bc<|aq<|gP<|RO p0
abbrev YU:FE:=aD Md<|aj (aJ cW (aJ mf (aD f6<|aj (ak 0)<|aj (vC<|.int 2) aA)<|vC<|.int 3)<|vC<|.int 1) aA
abbrev PU:FE:=aJ cW Cs<|vC<|.str "index"
abbrev jk:ah9:=match dc 84 with
 |.ClassDef _ _ _ (st::_) _ _ _ _ _ _ _=>st
 |st=>st
theorem Gm:FnScope ["self","shape","rows","indexes"] ["self","shape","rows","indexes"]<|aQ jk:=⟨rfl,rfl,rfl,⊤,rfl,⊤,⊤⟩
noncomputable def zT:alq:=["isinstance","str","all","len","bool","int","abs","range","tuple","sorted","set","enumerate","list","zip","dict"]
structure Txt(w:agN)(K:aT)(mg:alu)(a_FORMS:aga)(es_FORMS:Array DictEntry)(n_FORMS:Nat)(a_TURNED:aga)(es_TURNED:Array DictEntry)(n_TURNED:Nat)(a_Table fi_Table:aga)(di_Table:aid):Prop where
 co:∀q∈cT,Rc K mg q
 z:∀x∈zT,mg x=L
 ED:mg "FORMS"=Z (.ref a_FORMS)
 EE:K.lookup a_FORMS=Z ⟨.type "dict",L,.dict es_FORMS n_FORMS,#[]⟩
 EF:ahK w.params es_FORMS.toList
 su:∀y d,lW.lookup y=Z d->∃v u,af5 K a_FORMS y=Z (Z u)/\a7 v u/\∀H,cz K H d v
 z8:Yd K "FORMS" a_FORMS
 ya:es_FORMS.toList.map (fun e=>Mn e.key)=(lW.map (·.1)).map Z
 yb:(a_FORMS==ahg)=η
 Ls:mg "TURNED"=Z (.ref a_TURNED)
 Lu:K.lookup a_TURNED=Z ⟨.type "dict",L,.dict es_TURNED n_TURNED,#[]⟩
 Lv:ahK w.params es_TURNED.toList
 uY:∀y d,ox.lookup y=Z d->∃v u,af5 K a_TURNED y=Z (Z u)/\a7 v u/\∀H,cz K H d v
 yc:mg "Table"=Z (.ref a_Table)
 jo:Yd K "Table" a_Table
 f8:IsC K a_Table
 uZ:Mk K a_Table fi_Table
 oZ:Fun K "__init__" "Table.__init__" jk fi_Table di_Table
 u3:gu K di_Table ["self","shape","rows","indexes"] []
 eY:eV K a_Table "shape"
 fK:eV K a_Table "rows"
 du:eV K a_Table "indexes"
section
variable{P:ahb}{w:agN}{K:aT}{mg:alu}{base:aij}{a_FORMS:aga}{es_FORMS:Array DictEntry}{n_FORMS:Nat}{a_TURNED:aga}{es_TURNED:Array DictEntry}{n_TURNED:Nat}{a_Table fi_Table:aga}{di_Table:aid}(T:Txt w K mg a_FORMS es_FORMS n_FORMS a_TURNED es_TURNED n_TURNED a_Table fi_Table di_Table)
include T
theorem KJ:FnOk P w K mg base j8 1 fi_Table di_Table ["self","shape","rows","indexes"]<|Aw a_Table ["shape","rows","indexes"]:=by
 refine T.oZ.ok (k:=0) Gm (fun vs H Q E h=>?_) fun d _ A b s H vs Q E hr h=>?_
 .obtain⟨x,a,us,rfl,h1,h2,c⟩:=h;exact alo (·+1) h1
 .refine⟨_,(uw (Ag (pv 0) (pv 1) rfl)<|uw (Ag (pv 0) (pv 2) rfl)<|C8<|Ag (pv 0) (pv 3) rfl),?_⟩;obtain⟨x,a,us,rfl,h1,h2,c⟩:=h
  obtain⟨u0,u1,u2,rfl⟩:=ln3 (P:=fun us=>∃a b c,us=[a,b,c]) (fun a b c=>⟨_,_,_,rfl⟩) us h1;refine⟨_,rfl,_,rfl,x,_,a,_,rfl,h2,T.f8.cl,T.eY,(by show(0:Nat)<1000;decide),_,rfl,_,rfl,x,_,a,_,rfl,aG,T.f8.cl,T.fK,(by show(1:Nat)<1000;decide),_,rfl,_,rfl,x,_,a,_,rfl,aG,T.f8.cl,T.du,(by show(2:Nat)<1000;decide),?_⟩;rw[xW,xW];exact c
omit T in
theorem bL{α:Type}{p:α->Prop}{a:α}{l:List α}(h:p a)(r:∀x∈l,p x):∀x∈a::l,p x:=agu.mpr ⟨h,r⟩
omit T in
theorem dbg:∀q∈cT,(q.1==("__debug__":Str))=η:=⊤
theorem abx{c:Cx}{k:Nat}(y:FY c P w K mg base k):TbOk c ⟨K,mg,E0⟩ tB/\∀f∈tE,fv c ⟨K,mg,E0⟩ f:=by
 obtain⟨V,e2,e3,e4,e5,hr,cm⟩:=y;subst V e2 e3 e4 e5;have y:FY c c.prog c.w c.K c.mg c.base k:=⟨rfl,rfl,rfl,rfl,rfl,hr,cm⟩;have hy:∀q∈yT,CN c ⟨c.K,c.mg,E0⟩ q.1 q.2:=(bL (cy (T.z _<|∎)<|⊤)<|bL (cy (T.z _<|∎) Ij)<|bL (cy (T.z _<|∎) sJ)<|bL (cy (T.z _<|∎) lO)<|bL (cy (T.z _<|∎) En)<|bL (cy (T.z _<|∎)<|⊤) (fun _ h=>nomatch h))
 exact⟨⟨(bL (NW rfl) (bL (IG (T.z _<|∎) rfl) (bL (IH (T.z _<|∎) (T.z _<|∎) lO ∎ rfl) (bL (GJ (T.z _<|∎) rfl) (bL ((Lr (T.z _<|∎) (T.z _<|∎) y.cm.1).m) (bL (Lk (T.z _<|∎) rfl) (bL (jT (Qb _)<|VB _) (bL (jT (aa0) ((by
   intro as H x y a b Q hn C I h;unfold zi at h;cbv
   .cases C;cases I;exact aI h rfl
   .mleft))) (bL (jT (((TZ.or AA).imp fun x y H Q q=>by
   unfold QN at q;split at q
   .exact .inl ⟨_,_,rfl,rfl,q.1,q.2⟩
   .mright
   .exact q.elim)) (acJ)) (bL (jT (aak) ((by
   intro as H x y a b Q hn C I h;unfold rg at h;cbv
   .cases C;cases I;cbv
    .rename_i r;exact⟨r,aI h rfl⟩
    .mleft
   .mleft))) (bL (jT (ac1) ((by
   intro as H x y a b Q hn C I h;unfold mf at h;cbv
   .cases C;cases I;cbv
    .rename_i r;exact⟨r,aI h rfl⟩
    .mleft
   .mleft))) (bL (jT (aaU) ((by
   intro as H x y a b Q hn C I h;unfold GU at h;cbv
   .cases C;cases I;cbv
    .rename_i r;exact⟨r,aI h rfl⟩
    .mleft
   .mleft))) (bL ((bj (S5 _ y.hr.units) (aet _)).1) (bL ((bj (Rs _ y.hr.units) (afl _)).1) (bL ((bj aei aeQ).1) (bL ((bj afK aeL).1) (bL ((bj aeH afG).1) (bL ((bj afL ad5).1) (bL ((bj afy afp).1) (bL ((bj (KP y.hr.units) U2).1) (bL ((bj (MU (n:=η) _ y.hr.units) (Pa _)).1) (bL ((bj (MU (n:=U) _ y.hr.units) (Pi _)).1) (bL ((bj (Xz _ y.hr.units) (X6 _)).1) (bL ((bj (YW _) (aeC _)).1) (bL ((bj (vN y.hr.units) Cu).1) (bL ((bj (DW _) (Ki _)).1) (bL (Jj T.ED T.EE T.EF T.su) (bL (Jj T.Ls T.Lu T.Lv T.uY) (bL ((GQ fun O a b pos φ ψ hs h1 h2=>WT y.hr.units h1 h2 (QA hs))) (bL ((fun hr hd=>GQ fun O a b pos φ ψ hs h1 h2=>ace hr hd h1 h2 (zj hs)) (ae2 _) (pIx _)) (bL (JC (oSl _) (aao _)) (bL ((fun O e es b j h d=>by
   unfold ZH at h;cbv
   .nofun;obtain⟨φ,ψ,rfl,h1,h2⟩:=Lq d;exact XB rfl h1 h2
   .nofun)) (bL ((fun O e es b j h d=>by
   unfold WM at h;cbv
   .cbv
    .rename_i hq;nofun;exact XY<|vg d hq
    .nofun
   .nofun)) (bL (Ev.m) (bL (xV T.jo T.f8.cl T.eY rfl) (bL (xV T.jo T.f8.cl T.fK rfl) (bL (xV T.jo T.f8.cl T.du rfl) (bL ((fun h1 h2 hK N =>  AR fun O a p1 p2 q1 q2 α g1 g2 hn J=>Jv h1 h2 J hK N g1 g2 hn) (T.z _ ∎) (T.z _ ∎) rfl y.cm.1) (bL ((yY (T.z _ ∎) (T.z _ ∎) rfl y.cm.1).m) (bL (xI (YE _) (abj _) (T.z _ ∎) BB) (bL (xI (O8 _) (aaE _) (T.z _ ∎) mm) (bL (xI acl (by
   intro as H xs ds Q hn E h;unfold V8 at h;cbv
   .obtain⟨v,rfl,B⟩:=eL E;cases B;exact aI h rfl
   .mleft) (T.z _ ∎) ⊤) (bL (xI (KD _ y.cm.1) (aaZ _) (T.z _ ∎) ⊤) (bL (Ll (Ji _) (aaD _) (T.z _ ∎) sJ) (bL (Ll adn (by
   intro as H xs ds Q hn E h;unfold Md at h;cbv
   .obtain⟨v,rfl,B⟩:=eL E;cases B;exact aI h rfl
   .obtain⟨v,rfl,B⟩:=eL E;cases B;exact aI h rfl
   .mleft) (T.z _ ∎) Ij) (bL ((Bf (Ii _) (abh _) (T.z _ ∎) lO).m) (bL (Ub aa3 (by
   intro as H x a Q C h;unfold Hv at h;cbv
   .cases C;exact aI h rfl
   .mleft)) (bL ((fun O e es b j h d=>by
   unfold aeO at h;cbv
   .nofun;obtain⟨φ,rfl,h1⟩:=z9 d;exact ZD h1
   .nofun;obtain⟨φ,rfl,h1⟩:=z9 d;exact X0 h1
   .nofun;obtain⟨φ,ψ,rfl,h1,h2⟩:=Lq d;exact Wr h1 h2
   .nofun;obtain⟨φ,ψ,rfl,h1,h2⟩:=Lq d;exact aaH h1 h2
   .nofun)) (bL (SH PySem.F.slot_str_join PySem.F.type_str_join (Nt _) (W2 _)) (bL (IA (T.co _ (agm (i:=3) rfl)) rfl rfl) (bL ((fun O e es b j h d=>by
   obtain⟨q,h1,h2⟩:=iN.mp h;cases h2;exact TH (yi O e q.1 q.2 j h1 d))) (fun _ h=>nomatch h)))))))))))))))))))))))))))))))))))))))))))))))))))),(bL (Ev) (bL (yi) (bL (Bf xt (by
   intro as H xs ds Q hn E h;unfold Vg at h;cbv
   .obtain⟨v,rfl,B⟩:=eL E;cbv
    .rename_i R e;obtain⟨p,vs,rfl,q1,q2⟩:=qh B e;exact⟨p,vs,rfl,(ap _ _).rd q1,fun l r=>h l _ _ (aH r _) r aG ⟨vs,rfl,q2.mono<|fL r<|aH r _⟩⟩
    .mleft
   .mleft) (T.z _ ∎) En) (fun _ h=>nomatch h)))),(bL (Ed (S5 _ y.hr.units) rfl) (bL (Ed (Rs _ y.hr.units) rfl) (bL ((fun O e es b j h d=>by
   mstop
   obtain⟨⟨u,o,v⟩,h1,h⟩:=h;obtain⟨pos,rfl,h2⟩:=DK h1;cbv
   .rename_i hq;nofun;let⟨A,G,D⟩:=hq
    obtain⟨_,rfl⟩:=Eh A;obtain⟨φ,rfl,S⟩:=z9 d;rw[G];exact IS (QU T.EE T.EF T.ya T.yb) (aa9 T.z8) S (YN T.ED T.z8 (b7 D).1 (b7 D).2) rfl
   .nofun)) (bL (Fa (T.z _ ∎) y.cm.1 y.hr.units rfl) (bL ((bj (S5 _ y.hr.units) (aet _)).2) (bL ((bj (Rs _ y.hr.units) (afl _)).2) (bL ((bj aei aeQ).2) (bL ((bj afK aeL).2) (bL ((bj aeH afG).2) (bL ((bj afL ad5).2) (bL ((bj afy afp).2) (bL ((bj (KP y.hr.units) U2).2) (bL ((bj (MU (n:=η) _ y.hr.units) (Pa _)).2) (bL ((bj (MU (n:=U) _ y.hr.units) (Pi _)).2) (bL ((bj (Xz _ y.hr.units) (X6 _)).2) (bL ((bj (YW _) (aeC _)).2) (bL ((bj (vN y.hr.units) Cu).2) (bL ((bj (DW _) (Ki _)).2) (fun _ h=>nomatch h))))))))))))))))))),(bL ((fun hm=>C3 fun O g es p pos α hn hg hs _ J=>by
   match es,hn with
   |[a],_=>exact Fg hm J hg (by simpa using hs)) (T.z _ ∎)) (bL ((fun hm=>C3 fun O g es p pos α hn hg hs _ J=>by
   match es,hn with
   |[a,b],_=>
    have hs  := by simpa using hs
    exact F8 hm J hg (by rw[bn hs.1,bn hs.2];rfl) (by rw[bn hs.2];rfl)) (T.z _ ∎)) (bL (Kh (T.z _ ∎) rfl) (bL (ML (T.z _ ∎) rfl) (bL (ES) (bL ((fun O g e es b j h d=>by
   unfold Pu at h;cbv
   .nofun;obtain⟨φ,rfl,h1⟩:=z9 d;exact Mw h1
   .nofun)) (fun _ h=>nomatch h))))))),(bL ((BJ fun Ob O i x e p1 apos cpos pos φ h1 h2 A G D S X W=>Gk h2 W h1 S X A G D rfl rfl rfl)) (bL ((BJ fun Ob O i x e p1 apos cpos pos φ h1 h2 A G D S X W=>EH h2 W h1 S X A G D rfl rfl rfl)) (bL (M7) (bL ((fun Ob O s es b j h d=>by
   mstop
   obtain⟨⟨t,e⟩,M,h⟩:=h;obtain⟨_,rfl⟩:=O7 M
   mstop
   obtain⟨⟨u,v⟩,h1,h⟩:=h;let⟨_,V,h2⟩:=Eo h1
   subst V;cbv
   .nofun
   .rename_i N
    replace h:=iN.mp h
    let⟨i,A,h⟩:=h
    nofun;refine Z26 (vM A) fun x p r0_ a1 a2 a3 a4 a5=>?_;subst r0_;obtain⟨φ,ψ,rfl,G,D⟩:=Lq d;exact LW y.hr.units a2 D G a1 a3 a4 a5 (wf (ahM.mpr N) _ _ _) rfl rfl (Uz h2 _))) (bL ((fun Ob O s es b j h d=>by
   unfold Xn at h;cbv
   .let⟨i,h1,h⟩:=dO.mp h
    cbv
    .rename_i hq;nofun;obtain⟨φ,rfl,h2⟩:=z9 d;exact FL hq.1 hq.2.1 (.inl hq.2.2) h2 (jA h1)<|.inr hq.2.2
    .nofun
   .nofun)) (bL ((fun Ob O s es b j h d=>by
   mstop
   obtain⟨⟨t,e⟩,M,h⟩:=h;obtain⟨_,rfl⟩:=O7 M;cbv
   .rename_i hq
    replace h:=iN.mp h
    let⟨g,h1,h⟩:=h
    nofun;obtain⟨φ,rfl,h2⟩:=z9 d;let⟨_,_,_,V⟩:=rE hq.2.1
    subst V;have A:F7 e=η:=by have:=hq.1;cases e<;>first|rfl|cases this
    exact Tm h2 (Si<|xl rfl y.cm.1 hq.2.2 (vt h1)) (wf A _ _ _) (by have:=hq.1;cases e<;>first|rfl|cases this) rfl
   .nofun)) (bL (Ow rfl) (bL ((fun Ob O s es b j h d=>by
   mstop
   obtain⟨e,M,h⟩:=h;obtain⟨_,rfl⟩:=Ht M;cbv
   .nofun
   .rename_i N;nofun;obtain⟨φ,rfl,h2⟩:=z9 d;exact Nj h2 (rP (ahM.mpr N) _ _ _))) (fun _ h=>nomatch h))))))))),fun q h=>(BY.mp h).elim (hy q) (fun h=>let⟨v,u,h1,h2,A,_⟩:=T.co q h;cg h1 h2 A (dbg q h))⟩,(bL (JC (ade _) (aai _)) (bL (jT (Uy _) (Zu _)) (bL ((Bf (AH y.cm.1) (by
   intro as H xs ds Q hn E h;unfold PD at h;cbv
   .obtain⟨v,rfl,B⟩:=eL E;obtain⟨a,o,R,rfl,h1,h2⟩:=B;exact⟨a,o,R,rfl,ap _ _ _ _ h1,fun l r=>h l _ _ (aH r _) r aG ⟨_,rfl,(vS h2).mono<|fL r<|aH r _⟩⟩
   .mleft) (T.z _ ∎) lO).m) (fun _ h=>nomatch h))))⟩
theorem hX:∀h∈xF,Sv dc P w K mg base h:=(bL (IJ<|T.z _<|∎) (fun _ h=>nomatch h))
end
def G:List<|Df×Mr:=[
 (pL,.pl vL),
 (mO,.pl ux),
 (qf,.pl vO),
 (pA,.pl l4),
 (kQ,.pl qM),
 (mR,.pl gU),
 (nq,.rc dZ cZ 100),
 (mM,.pl tP),
 (mY,.pl uq),
 (mG,.pl uX),
 (d8,.pl g6),
 (kU,.pl qw),
 (m9,.pl sA),
 (e9,.pl dm),
 (cO,.rc cL bg 100),
 (iO,.pl fF),
 (kJ,.pl fM),
 (Ac,.pl mW),
 (lF,.rc qI lI 100),
 (sI,.pl yD),
 (gk,.pl jZ),
 (kL,.pl kZ),
 (fg,.pl jd),
 (lD,.pl fT),
 (kC,.pl qt),
 (ff,.pl cf),
 (oi,.nw Ei),
 (iT,.pl mq),
 (iR,.pl fG),
 (jI,.pl oq),
 (lH,.pl qx),
 (ga,.pl j7),
 (kI,.pl qq),
 (pN,.pl lZ),
 (fw,.pl iX),
 (qi,.pl wo),
 (kl,.pl qD),
 (iS,.pl fJ),
 (mS,.pl tG),
 (gW,.pl kR),
 (kG,.pl qF),
 (BO,.pl BX),
 (uh,.pl z6),
 (jx,.rc ck dl 40),
 (jV,.pl n8),
 (uM,.pl oT),
 (g9,.rc cc bO 40),
 (gp,.pl dR),
 (ly,.pl qB),
 (jL,.pl gy),
 (kH,.pl qT),
 (f9,.pl j4),
 (np,.pl mB),
 (iE,.pl iI),
 (jr,.pl nO),
 (jR,.pl oI),
 (pq,.pl vA),
 (jF,.pl om),
 (dW,.pl gS),
 (mQ,.pl tU),
 (d9,.pl cj),
 (fE,.pl dh),
 (gf,.pl cD),
 (dD,.pl gr),
 (pR,.pl wq),
 (iJ,.pl ml),
 (kg,.pl qV),
 (mJ,.pl gQ),
 (sU,.pl oG),
 (pZ,.pl l7),
 (pF,.pl pO),
 (xc,.pl rT),
 (mN,.pl bZ),
 (kz,.pl lc),
 (ud,.pl yw),
 (uy,.pl dG),
 (iG,.pl cI),
 (ng,.pl fh),
 (sN,.pl bU),
 (pM,.rc pV gJ 100),
 (mF,.rc dU de 100),
 (m4,.pl m8),
 (sW,.pl nM),
 (tV,.pl zc),
 (qb,.pl v5),
 (tZ,.rc ja gN 100),
 (kh,.pl fS),
 (wX,.pl nS),
 (um,.pl nD),
 (pH,.pl gI),
 (KO,.pl yk)]
open TS (K4 LK)
abbrev uI(i:Nat)(n:Int):FE:=aJ bw (ak i)<|vC<|.int n
abbrev adN:FE:=vC<|.int 0
abbrev Gu:FE:=vC<|.int 1
abbrev iC2:FE:=vC<|.int 2
abbrev ac7:FE:=vC<|.int 10
abbrev nP:FE:=vC<|.str "leaf"
abbrev pK:FE:=vC<|.str "branch"
abbrev lQ:FT:=(jc (bG<|aJ LD (aJ eR (ak 2) Gu) Re)<|ym<|rq<|aD b9<|aj (ak 1)<|aj (aJ bw (aJ bw (ak 0)<|aJ eR (ak 2) Gu) adN) aA)
abbrev hQ:FT:=(bG<|aJ cW (uI 4 0) pK)
abbrev hB:FS:=(aW (b8 5<|uI 4 1)<|b8 4<|aJ bw abi Gu)
abbrev cpB:FS:=(gM (bG<|aJ cW (uI 3 0)<|ak 1) (gY<|ak 2) br)
abbrev cB:FS:=(aW Xa<|aW (b8 6<|aJ rg (aJ rC (aJ eR (ak 4) Gu) OP)<|ak 2) acj)
abbrev nB:FS:=(gM (Bo (bG LS)<|bG<|aJ nC (aJ bw (ak 1)<|LG Hv Gu)<|ak 2) (aZ 1<|ak 2) br)
abbrev aex:FS:=abz
abbrev aeV:FS:=b8 2 Vu
theorem aK(h:τ Uq0=.ok U):gM τ S T Uq0=S Uq0:=by rw[WC,h,ax,YK,ali rfl]
theorem bt(h:τ Uq0=.ok η):gM τ S T Uq0=T Uq0:=by rw[WC,h,ax,YK,alj Le]
theorem ag(h:S Uq0=.ok (.nx δ')):aW S T Uq0=T δ':=by rw[PV,h,ax,Ty]
theorem bB(h:S Uq0=.ok (.rt d)):aW S T Uq0=.ok (.rt d):=by rw[PV,h];rfl
theorem ar(h:φ Uq0=.ok d):gY φ Uq0=.ok (.rt d):=by rw[Vi,h];rfl
theorem Mh{φ:FE}{Uq0:Sd}{d:D}(h:φ Uq0=.ok d):qU φ Uq0=.ok (.rn d):=by rw[Q3,h];rfl
theorem am(h:φ Uq0=.ok d):b8 k φ Uq0=.ok (.nx<|Uq0.set k<|Z d):=by rw[ZE,h];rfl
theorem gg(h:φ Uq0=.ok d)(a:autoParam (k<Uq0.length) Xez):xx k φ Uq0=.ok (.nx<|Uq0.set k<|Z d):=by rw[XH,h,ax,V4,ali a]
theorem ao(h:r=.ok (.rt d)):fin r=.ok d:=by rw[h];rfl
theorem Ou{r:R Fl}{d:D}(h:r=.ok (.rn d)):ac6 r=.ok d:=by rw[h];rfl
theorem skip(h:τ Uq0=.ok η):aW (gM τ S br) T Uq0=T Uq0:=ag<|(bt h).trans rfl
theorem ac(h:φ Uq0=.ok d)(h2:α Uq0=.ok ds):aj φ α Uq0=.ok (d::ds):=by unfold aj;rw[h,h2];rfl
theorem ay(h:α Uq0=.ok ds)(a:autoParam (ds.length<=100) Xez):dj α Uq0=.ok (.tup ds):=by rw[Xc,h,ax,TB,ali<|⊥]
theorem aX(h:α Uq0=.ok ds)(a:autoParam (ds.length<=100) Xez):gm α Uq0=.ok (.lst ds):=by rw[Wq,h,ax,Ut,ali<|⊥]
theorem af(h1:φ Uq0=.ok a)(h2:ψ Uq0=.ok b)(h:f a b=.ok c):aJ f φ ψ Uq0=.ok c:=by rw[abS,h1,ax,aby,h2,ax,h]
theorem aB(h:φ Uq0=.ok (.bl b)):bG φ Uq0=.ok b:=by rw[abq,h];rfl
theorem ai(h:α Uq0=.ok ds)(a:F ds=r):aD F α Uq0=r:=by rw[QX,h,ax,a]
theorem aV(h:B (Uq0.set i<|Z x)=.ok (.nx δ')):bm (.one i) B (x::r) Uq0=bm (.one i) B r δ':=by
 rw[yy];have e:fW (.one i) x Uq0=.ok (Uq0.set i<|x):=rfl;rw[e,ax,Kw,h,ax,Dq]
theorem bE(h:ι Uq0=.ok xs)(a:bm g B xs Uq0=.ok (.nx δ')):nA ι g B Uq0=.ok (.nx δ'):=by rw[OT,h,ax,OY,a]
theorem Bc{τ:FT}{B:FS}{n:Nat}{Uq0 δ':Sd}(h:τ Uq0=.ok U)(hb:B Uq0=.ok (.nx δ')):fj τ B (n+1) Uq0=fj τ B n δ':=by
 rw[fj,h,hb];rfl
theorem Ka(h:τ Uq0=.ok η):fj τ B (n+1) Uq0=.ok (.nx Uq0):=by
 rw[fj,h,ax,alj Le]
theorem cK(h:φ Uq0=.ok d)(a:Sn d=.ok b):rq φ Uq0=.ok b:=by rw[Xq,h,ax,a]
theorem Lm(h:τ Uq0=.ok b):ym τ Uq0=.ok (!b):=by rw[WP,h];rfl
theorem oY(h:τ Uq0=.ok U):ym τ Uq0=.ok η:=Lm h
theorem XI(h:τ Uq0=.ok U):Bo τ υ Uq0=.ok U:=by rw[RT,h];rfl
theorem n9(h:τ Uq0=.ok η)(h2:υ Uq0=.ok b):Bo τ υ Uq0=.ok b:=by rw[RT,h,ax,Wk,alj Le,h2]
theorem gO(h:τ Uq0=.ok U)(h2:υ Uq0=.ok b):jc τ υ Uq0=.ok b:=by rw[Qi,h,ax,RC,ali rfl,h2]
theorem hU(h:τ Uq0=.ok η):jc τ υ Uq0=.ok η:=by rw[Qi,h];rfl
theorem fc(h:φ Uq0=.ok (.bl U))(h2:ψ Uq0=.ok d):BG φ ψ Uq0=.ok d:=by rw[v_and,h,ax,Vw,ali rfl,h2]
theorem PH(h:φ Uq0=.ok (.bl η))(h2:ψ Uq0=.ok d):Tw φ ψ Uq0=.ok d:=by rw[v_or,h,ax,aaB,alj Le,h2]
theorem Od(h:φ Uq0=.ok (.bl b)):Nh φ Uq0=.ok (.bl<|!b):=by rw[v_not,h];rfl
theorem cP(h:Uq0[i]?=Z (Z<|.lst xs))(a:ε Uq0=.ok d)(b:xs.length<1000):aZ i ε Uq0=.ok (.nx<|Uq0.set i<|Z<|.lst<|xs++[d]):=by
 unfold aZ;rw[h];dsimp only;rw[a,ax,ali<|⊥]
theorem B2(h:Uq0[i]?=Z (Z<|.lst xs))(a:ε Uq0=.ok d)(c:CC d=Z ys)(b:xs.length+ys.length<=1000000):iw i ε Uq0=.ok (.nx<|Uq0.set i<|Z<|.lst<|xs++ys):=by
 unfold iw;rw[h];dsimp only;rw[a,ax,c];dsimp only;rw[ali b]
theorem cF(h:φ Uq0=.ok a)(h1:l Uq0=.ok lo)(h2:u Uq0=.ok hi)(b:si a lo hi=.ok d):CO si φ l u Uq0=.ok d:=by
 rw[acS,h,ax,Yp,h1,ax,Xj,h2,ax,Y7,b]
theorem a9(h:φ Uq0=.ok (.int i)):j6 φ Uq0=.ok (Z i):=by rw[Rv,h];rfl
theorem bh(h:φ Uq0=.ok d)(a:dY d=.ok xs):gE φ Uq0=.ok xs:=by rw[V0,h,ax,a]
theorem lg{n:Nat}(h:φ Uq0=.ok (.int (n:Int)))(hn:n<=1000000):ut (aj φ aA) Uq0=.ok (bK 0 n):=by
 rw[Rp,ac h rfl,ax,ZT<|⊥,agd]
theorem ba(h:ι Uq0=.ok xs)(a:bS t τ ε (eD ix Uq0) xs=.ok d):bW ix ι t τ ε Uq0=.ok d:=by rw[Rt,h,ax,a]
theorem cw{β:Type}{rest:Sd}(u f:β->D)(xs:List β)(h:∀x∈xs,ε (Z (u x)::rest)=.ok (f x))(a:xs.length<=1000):bS (.one 0) nL ε (L::rest) (xs.map u)=.ok (.lst<|xs.map f):=
 tW u f rfl ⊥ h
theorem cp{β:Type}{rest:Sd}(u f:β->D)(p:β->Bool)(xs:List β)(h:∀x∈xs,τ (Z (u x)::rest)=.ok (p x))(h2:∀x∈xs,p x=U->ε (Z (u x)::rest)=.ok (f x))(b:xs.length<=1000):bS (.one 0) τ ε (L::rest) (xs.map u)=.ok (.lst<|(xs.filter p).map f):=by
 refine n4 rfl (by rw[iF];lia) ?_;clear b;induction xs with
 |nil=>rfl
 |cons x r d=>
  have h1:=h x ∅;have a:=h2 x ∅;have c:=d (fun y hy=>h y<|mK _ hy) fun y hy=>h2 y<|mK _ hy;show(τ<|(u x)::rest).bind _=_;rw[h1,ax];cases e:p x with
  |true=>
   rw[ahk e];show(ε<|(u x)::rest).bind _=_;rw[a e,c];rfl
  |false=>mright
theorem bR(h:φ Uq0=.ok a)(b:c8 [a]=.ok d):aD c8 (aj φ aA) Uq0=.ok d:=ai (ac h rfl) b
theorem kB{β:Type}(f:β->D)(xs:List β){i:Nat}{x:β}(h:xs[i]?=Z x):bw (.lst<|xs.map f) (.int (i:Int))=.ok (f x):=xQ (bP<|by mright)
theorem JH{β:Type}(f:β->D)(xs:List β){i:Nat}{x:β}(h:xs[i]?=Z x):bw (.tup<|xs.map f) (.int (i:Int))=.ok (f x):=zJ (bP<|by mright)
theorem im{β:Type}(f:β->D)(xs:List β):c8 [.lst<|xs.map f]=.ok (.int (xs.length:Int)):=by rw[Dk,iF]
theorem kP{β:Type}(f:β->D)(xs:List β):c8 [.tup<|xs.map f]=.ok (.int (xs.length:Int)):=by rw[yr,iF]
theorem gV(h1:φ Uq0=.ok (.int i))(h2:ψ Uq0=.ok (.int j))(h:autoParam (-(2^64)<j/\j<2^64) Xax):aJ rC φ ψ Uq0=.ok (.int<|i*j):=af h1 h2<|(ali<|.inr h)
theorem aw(h1:φ Uq0=.ok (.int i))(h2:ψ Uq0=.ok (.int j))(h:autoParam (0<j) Xax):aJ mf φ ψ Uq0=.ok (.int<|i%j):=af h1 h2<|(ali h)
theorem bf(h1:φ Uq0=.ok (.int i))(h2:ψ Uq0=.ok (.int j))(h:autoParam (0<j/\j<1073741824) Xax):aJ rg φ ψ Uq0=.ok (.int<|i/j):=af h1 h2<|(ali h)
theorem bC(h1:φ Uq0=.ok (.int i))(h2:ψ Uq0=.ok (.int j)):aJ eR φ ψ Uq0=.ok (.int<|i+j):=af h1 h2 rfl
theorem iC(h1:φ Uq0=.ok (.int i))(h2:ψ Uq0=.ok (.int j)):aJ zi φ ψ Uq0=.ok (.int<|i-j):=af h1 h2 rfl
theorem tf(h1:φ Uq0=.ok (.int i))(h2:ψ Uq0=.ok (.int j)):bG (aJ cW φ ψ) Uq0=.ok (decide (i=j)):=aB<|af h1 h2 ij
theorem C5(h:τ Uq0=.ok U)(h2:φ Uq0=.ok d):Ww τ φ ψ Uq0=.ok d:=by rw[Qy,h,ax,Pn,ali rfl,h2]
theorem HJ(h:τ Uq0=.ok η)(h2:ψ Uq0=.ok d):Ww τ φ ψ Uq0=.ok d:=by rw[Qy,h,ax,Pn,alj Le,h2]
theorem Qc(h:φ Uq0=.ok (.bl a))(h2:ψ Uq0=.ok (.bl b)):Tw φ ψ Uq0=.ok (.bl<|a||b):=by
 cases a with
 |true=>exact(by rw[v_or,h];rfl)
 |false=>exact PH h h2
theorem AM(h:φ Uq0=.ok (.bl a))(h2:ψ Uq0=.ok (.bl b)):BG φ ψ Uq0=.ok (.bl<|a&&b):=by
 cases a with
 |true=>exact fc h h2
 |false=>exact(by rw[v_and,h];rfl)
theorem OX(h:φ Uq0=.ok d)(a:pJ [d,.ty C]=.ok (.bl b)):aD pJ (aj φ<|aj (vC<|.ty C) aA) Uq0=.ok (.bl b):=ai (ac h rfl) a
def cell(a:List Int)(k:Int):Int:=a.getD k.toNat 0
theorem Ea(a:List Int)(k:Int)(c:0<=k):f6 [.lst<|a.map D.int,.int k]=.ok (.int<|cell a k):=by
 obtain⟨n,rfl⟩:∃n:Nat,k=n:=⟨k.toNat,⊥⟩;have b:bG (aJ LD (ak 1) Re) [Z<|.lst<|a.map D.int,Z<|.int n]=.ok (((n:Int)<a.length)):=aB<|af rfl ((im _ _)) E7;unfold cell;rw[agd,ag9];by_cases h:n<a.length
 .rw[alm<|⊥]at b;rw[lE h];exact ao<|bB<|(aK b).trans<|ar<|(kB _ _<|lE h)
 .rw[alk<|⊥]at b;rw[aiQ<|⊥];exact ao<|(skip b).trans rfl
abbrev acq:Str:=afS " !\"#$&'()*+,-./0123456789:;<=>?@ABCDEFGHIJKLMNOPQRSTUVWXYZ[\\]^_`"
abbrev adl:Str:=acq++afS "abcdefghijklmnopqrstuvwxyz{|}~"
def tab:alp:=adl.cps.toList
def Vl(n:Nat):D->Prop
 |.non=>True
 |.int _=>True
 |.str z=>z.length<=n/\∀c∈z.cps.toList,c∈tab
 |_=>False
theorem Vl.mono(h:Vl n d)(a:n<=m):Vl m d:=by
 cases d with
 |str z=>exact⟨DO h.1 a,h.2⟩
 |non=>exact af2
 |int _=>exact af2
 |_=>mleft
noncomputable def RZ(a b:Int):Int:=if a=b then 0 else if a<b then -1 else 1
noncomputable def Se(a b:alp):Int:=if a=b then 0 else if a<b then -1 else 1
def QM:D->D->Int
 |.non,.non=>0
 |.non,_=>-1
 |_,.non=>1
 |.int a,.int b=>RZ a b
 |.int _,_=>-1
 |_,.int _=>1
 |.str a,.str b=>Se a.cps.toList b.cps.toList
 |_,_=>0
def kx:D->Int
 |.non=>0
 |.int _=>1
 |_=>2
noncomputable def kw(i:Int):Str:=if i=0 then "none"else if i=1 then "number"else "text"
theorem kind(h:Vl 100 d):lR [d]=.ok (.str<|kw<|kx d):=by
 cases d with
 |non=>rfl
 |int i=>rfl
 |str z=>rfl
 |_=>mleft
theorem DC(d:D):kx d=0\/kx d=1\/kx d=2:=by
 unfold kx;split
 .exact .inl rfl
 .lia
 .mright
theorem Y6(i:Int)(h:i=0\/i=1\/i=2):JN n5 [.str<|kw i]=.ok (.int i):=by
 rcases h with rfl|rfl|rfl<;>with_unfolding_all rfl
theorem ZB(h:i=0\/i=1\/i=2)(g:j=0\/j=1\/j=2):decide (kw i=kw j)=decide (i=j):=by
 rcases h with rfl|rfl|rfl<;>rcases g with rfl|rfl|rfl<;>decide +kernel
theorem C0{a b:Str}(h:a.cps.toList=b.cps.toList):a=b:=by
 cases a;mright
theorem GV(h:φ Uq0=.ok d)(hr:JN k [d]=.ok r):Ft k (aj φ aA) Uq0=.ok r:=by rw[Vo,ac h rfl,ax,hr]
theorem Up(b:Vl 100 d)(a:Vl 100 e)(h:¬kx d=kx e):QM d e=if kx d<kx e then -1 else 1:=by
 cases d with
 |non=>cases e with
  |non=>lia
  |int j=>rfl
  |str z=>rfl
  |_=>exact a.elim
 |int i=>cases e with
  |non=>rfl
  |int j=>exact absurd rfl h
  |str z=>rfl
  |_=>exact a.elim
 |str x=>cases e with
  |non=>rfl
  |int j=>rfl
  |str z=>exact absurd rfl h
  |_=>exact a.elim
 |_=>exact b.elim
theorem Eb(d e:D)(c:Vl 100 d)(b:Vl 100 e):ph [d,e]=.ok (.int<|QM d e):=by
 rw[ER,l4];have f:bG (aJ nC Xr Xm) [Z d,Z e]=.ok (!decide (kx d=kx e)):=aB (af (ai (ac rfl rfl)<|kind c) (ai (ac rfl rfl)<|kind b)<|VD.trans<|by rw[ZB (DC d)<|DC e]);by_cases h:kx d=kx e
 .rw[alm h]at f;refine ao<|(skip f).trans ?_;cases d with
  |non=>cases e with
   |non=>exact bB<|(aK<|aB<|af rfl rfl (by rfl)).trans<|ar rfl
   |int j=>nofun
   |str z=>nofun
   |_=>exact b.elim
  |int i=>cases e with
   |non=>nofun
   |int j=>
    show _=R.ok (Fl.rt<|.int<|RZ i j);unfold RZ;by_cases q:i=j
    .rw[ali q];exact bB<|(aK<|aB<|af rfl rfl (ij.trans<|by rw[alm q])).trans<|ar rfl
    .rw[alj q];refine(skip<|aB<|af rfl rfl (ij.trans<|by rw[alk q])).trans<|ar ?_;by_cases a:i<j
     .rw[ali a];exact C5 (aB<|af rfl rfl (E7.trans<|by rw[alm a])) rfl
     .rw[alj a];exact HJ (aB<|af rfl rfl (E7.trans<|by rw[alk a])) rfl
   |str z=>nofun
   |_=>exact b.elim
  |str x=>cases e with
   |non=>nofun
   |int j=>nofun
   |str z=>
    show _=R.ok (Fl.rt<|.int<|Se x.cps.toList z.cps.toList);unfold Se;by_cases q:x=z
    .rw[ali<|by rw[q]];exact bB<|(aK<|aB<|af rfl rfl (i6.trans<|by rw[alm q])).trans<|ar rfl
    .rw[alj fun w=>q<|C0 w];refine(skip<|aB<|af rfl rfl (i6.trans<|by rw[alk q])).trans<|ar ?_;by_cases a:x.cps.toList<z.cps.toList
     .rw[ali a];exact C5 (aB<|af rfl rfl (U0.trans<|by rw[alm a])) rfl
     .rw[alj a];exact HJ (aB<|af rfl rfl (U0.trans<|by rw[alk a])) rfl
   |_=>exact b.elim
  |_=>exact c.elim
 .rw[alk h]at f;refine ao<|bB<|(aK f).trans<|ar ?_;rw[Up c b h];have g:bG acv [d,e]=.ok ((kx d<kx e)):=aB<|af (GV ((kind c))<|Y6 _<|DC d) (GV ((kind b))<|Y6 _<|DC e) E7;by_cases q:kx d<kx e
  .rw[alm q]at g;rw[ali q];exact C5 g rfl
  .rw[alk q]at g;rw[alj q];exact HJ g rfl
theorem zt:aJ GU ac7 (vC<|.int 18) Uq0=.ok (.int 1000000000000000000):=rfl
def ahead(d:D)(n:Int)(e:D)(m:Int):Bool:=decide (QM d e<0)||(decide (QM d e=0)&&decide (n<m))
theorem zH(d e:D)(n m:Int)(a:Vl 40 d)(b:Vl 40 e):b9 [.tup [d,.int n],.tup [e,.int m]]=.ok (.bl<|ahead d n e m):=by
 exact ao<|(ag<|am<|ai rfl (Eb d e (a.mono<|∎)<|b.mono<|∎)).trans<|ar<|Qc rfl (AM (ij) rfl)
theorem afr(x:Str)(h:∀c∈x.cps.toList,c∈tab):PyData.strOk x=U:=by
 have hr:∀c∈tab,32<=c/\c<=126:=⊤
 show x.cps.all (·<0x110000)=U;rw[<-Array.all_toList,agz];intro c a
 grind
noncomputable def g8(k:K4):D:=if k.1=0 then .non else if k.1=1 then .int k.2.1 else .str ⟨k.2.2.1.toArray⟩
theorem un(k:K4):au k=.tup [g8 k,.int k.2.2.2]:=by
 unfold au g8;split
 .rfl
 .split<;>rfl
structure Ok(k:K4):Prop where
 v:Vl 40<|g8 k
 e:Bz (au k)=Z k
theorem Ok.of{v:D}(h:Bz (.tup [v,.int n])=Z k)(a:Vl 40 v):Ok k:=by
 have e:=J1 h;have b:=e;rw[un]at b
 have:g8 k=v:=by mright
 exact⟨this▸a,e▸h⟩
noncomputable def QF:D->ahq
 |.int i=>.int i
 |.str z=>.str z
 |_=>.none
theorem BP(h:Vl 40 v):bM v=Z (QF v):=by
 cases v with
 |non=>rfl
 |int i=>rfl
 |str z=>rfl
 |_=>mleft
theorem Er(h:Vl 40 v):(QF v).canLay0=U/\(QF v).depth=0:=by
 cases v with
 |non=>exact⟨rfl,rfl⟩
 |int i=>exact⟨rfl,rfl⟩
 |str z=>exact⟨afr z h.2,rfl⟩
 |_=>mleft
def u8(k:K4):ahq:=.tuple [QF<|g8 k,.int k.2.2.2]
theorem Ok.py{k:K4}(h:Ok k):bM (au k)=Z (u8 k):=by
 rw[un,bM,bH,BP h.v];rfl
theorem Ok.lay(h:Ok k):(u8 k).canLay0=U/\(u8 k).depth=1:=by
 let⟨h1,h2⟩:=Er h.v
 unfold u8;rw[ajv,ags,h1,ah7,ahe,h2];exact⟨rfl,rfl⟩
theorem Ok.shaped(h:Ok k):agk (u8 k)=U:=by
 unfold agk;rw[h.lay.1,alm<|by rw[h.lay.2];lia];rfl
theorem Ok.deep(h:Ok k)(g:Ok l):jG (au k) (au l)=Z (agS (u8 k)<|u8 l):=by
 have e:jG (au k) (au l)=dC (au k) (au l):=by rw[un];rfl
 rw[e,dC,h.py,g.py];dsimp only;rw[ali ⟨h.shaped,g.shaped⟩]
theorem Ok.ne(h:Ok k)(g:Ok l):nC (au k) (au l)=.ok (.bl<|!PyData.eqv (u8 k) (u8 l)):=by
 unfold nC;rw[h.deep g];rfl
theorem aal:∀{a:List K4},(∀k∈a,Ok k)->bH (a.map au)=Z (a.map u8)
 |[],_=>rfl
 |k::r,h=>by
  rw[Do,bH,(h k<|∅).py,aal fun x b=>h x<|mK _ b];rfl
theorem OU{p:ahq}:∀{c:List K4},(∀k∈c,Ok k)->∃b,eS p (c.map u8)=Z b:=@bb _ _ (@fun _=>⟨_,rfl⟩) fun l r i=>@fun g=>by
  have a:=g l ∅;obtain⟨b,e⟩:=i fun x d=>g x<|mK _ d;exact⟨_,by rw[Do,eS,ali ⟨a.shaped,by rw[a.lay.2];lia⟩,e];rfl⟩
theorem Ok.mem{k:K4}(h:Ok k){a:List K4}(g:∀k∈a,Ok k):∃b,Ge (au k) (.tup<|a.map au)=.ok (.bl b):=by
 obtain⟨b,c⟩:=OU g;have e:Rn (au k) (.tup<|a.map au)=b:=by
  show jB _ _=_;rw[jB,h.py,aal g];dsimp only;rw[ali h.shaped,c]
 exact⟨b,by unfold Ge;rw[e];rfl⟩
theorem KH:∀{a:List K4},(∀k∈a,Ok k)->ags (a.map u8)=U/\ahe (a.map u8)<=1
 |[],_=>⟨rfl,acr _⟩
 |k::r,h=>by
  have c:=(h k<|∅).lay;let⟨h1,h2⟩:=KH fun x b=>h x<|mK _ b
  rw[Do,ags,ahe];mright
theorem K6(h:∀k∈ls,Ok k):jG (.lst<|ls.map au) (.lst [])=Z (decide (ls=[])):=by
 have e:jG (.lst<|ls.map au) (.lst [])=dC (.lst<|ls.map au) (.lst []):=rfl;have a:bM (.lst<|ls.map au)=Z (.list<|ls.map u8):=by rw[bM,aal h];rfl
 have b:bM (.lst [])=Z (.list []):=rfl;let⟨h1,h2⟩:=KH h
 have hs:agk (.list<|ls.map u8)=U:=by
  unfold agk;rw[ajv,h1,ah7,alm<|⊥];rfl
 rw[e,dC,a,b];dsimp only;rw[ali ⟨hs,∎⟩];cases ls with
 |nil=>rfl
 |cons k r=>rfl
theorem eq_nil(h:∀k∈ls,Ok k):cW (.lst<|ls.map au) (.lst [])=.ok (.bl<|decide (ls=[])):=by
 unfold cW;rw[K6 h];rfl
theorem u0(k:K4):bw (au k) (.int 0)=.ok (g8 k):=by rw[un];exact bp
theorem u1(k:K4):bw (au k) (.int 1)=.ok (.int k.2.2.2):=by rw[un];exact bx
def ah(k l:K4):Bool:=match b9 [au k,au l]with
 |.ok (.bl b)=>b
 |_=>η
theorem Ok.ahead(h:Ok k)(g:Ok l):b9 [au k,au l]=.ok (.bl<|ah k l):=by
 obtain⟨b,e⟩:∃b,b9 [.tup [g8 k,.int k.2.2.2],.tup [g8 l,.int l.2.2.2]]=.ok (.bl b):=⟨_,zH (g8 k) (g8 l) k.2.2.2 l.2.2.2 h.v g.v⟩;rw[<-un,<-un]at e;unfold ah;rw[e]
theorem Hk(h:φ Uq0=.ok (.bl b)):ym (rq φ) Uq0=.ok (!b):=Lm<|cK h rfl
theorem ub(n:Nat):bK 0 n=(agj n).map fun(k:Nat)=>D.int (k:Int):=by
 unfold bK;mright
theorem uA(h:0<=i):hZ xs L (Z i)=xs.take i.toNat:=by
 obtain⟨n,rfl⟩:∃n:Nat,i=n:=⟨i.toNat,⊥⟩;unfold hZ;rw[HT.lj,HT.gH,agd,List.drop_zero,List.take_eq_take_iff];lia
theorem Lc(h:0<=i):hZ xs (Z i) L=xs.drop i.toNat:=by
 obtain⟨n,rfl⟩:∃n:Nat,i=n:=⟨i.toNat,⊥⟩;unfold hZ;rw[HT.lj,HT.gH,agd];by_cases q:n<=xs.length
 .rw[ahJ q,agW<|by simp_all]
 .rw[Nat.min_eq_right<|⊥,aj0<|nE _,aj0<|⊥,List.take_nil]
def bQ:Nat->D
 |0=>.str "leaf"
 |_+1=>.str "branch"
def mn:Nat->Nat
 |0=>1
 |_+1=>2
def rt:Nat->Nat
 |0=>0
 |_+1=>2
def Tg:Nat->D->Prop
 |0,x=>∃k,Ok k/\x=au k
 |h+1,x=>∃k xs,Ok k/\x=.tup [au k,.tup [bQ h,.tup xs]]/\mn h<=xs.length/\xs.length<=8/\∀y∈xs,Tg h y
def WN(h lo:Nat)(d:D):Prop:=∃xs,d=.tup [bQ h,.tup xs]/\lo<=xs.length/\xs.length<=8/\∀x∈xs,Tg h x
theorem LY(h:Nat):1<=mn h:=by nofun<;>unfold mn<;>lia
theorem Yc(h:Nat):mn h<=2:=by nofun<;>unfold mn<;>lia
theorem Lo(h:Nat):rt h<=mn h:=by nofun<;>unfold mn rt<;>lia
theorem WN.mono(g:WN h lo d)(e:lo'<=lo):WN h lo' d:=let⟨xs,a,b,c⟩:=g;⟨xs,a,DO e b,c⟩
theorem ae8:decide (("leaf":Str)="branch")=η:=⊤
theorem adA:decide (("branch":Str)="leaf")=η:=⊤
theorem HB{xs:aly}(m:Ok k)(o:∀x∈xs,Tg (h+1) x)(p:c8 [c]=.ok (.int (xs.length:Int)))(g:∀(i:Nat)x,xs[i]?=Z x->bw c (.int (i:Int))=.ok x):∀(n j:Nat),j<xs.length->xs.length<=j+n ->
  ∃i:Nat,fj lQ (rZ 2 Gu) n [Z c,Z<|au k,Z<|.int (j:Int)]=.ok (.nx [Z c,Z<|au k,Z<|.int (i:Int)])/\i<xs.length:=bi (fun j h1 h2=>absurd h1 ⊥) fun n u j h1 h2=>by
  have r:(j:Int)+1=((j+1:Nat):Int):=⊥
  have a:bG (aJ LD (aJ eR (ak 2) Gu) Re) [Z c,Z<|au k,Z<|.int (j:Int)]=.ok (decide ((j:Int)+1<(xs.length:Int))):=aB<|af (bC rfl rfl) (bR rfl p) E7;by_cases d:j+1<xs.length
  .rw[alm<|⊥]at a;have f:=lE d;refine Z23 (o _<|afV d) fun l ys q e _=>?_;rw[e]at f;have b:ym (rq<|aD b9<|aj (ak 1)<|aj (aJ bw (aJ bw (ak 0)<|aJ eR (ak 2) Gu) adN) aA) [Z c,Z<|au k,Z<|.int (j:Int)]=.ok (!ah k l):=
    Hk (ai (ac rfl (ac (af (af rfl (bC rfl rfl) (by rw[r];exact g _ _ f)) rfl bp) rfl))<|m.ahead q)
   cases hb:ah k l with
   |true=>rw[hb]at b;exact⟨j,Ka<|gO a b,h1⟩
   |false=>
    rw[hb]at b;obtain⟨i,e,s⟩:=u (j+1) d ⊥;exact⟨i,(Bc (gO a b) rfl).trans e,s⟩
  .rw[alk<|⊥]at a;exact⟨j,Ka<|hU a,h1⟩
theorem mT{xs:aly}(b:Ok k)(f:∀x∈xs,Tg (h+1) x)(g:c8 [c]=.ok (.int (xs.length:Int)))(a:∀(i:Nat)x,xs[i]?=Z x->bw c (.int (i:Int))=.ok x)(hn:1<=xs.length)(j:xs.length<=1000):∃i:Nat,jK [c,au k]=.ok (.int (i:Int))/\i<xs.length:=by
 obtain⟨i,e,d⟩:=HB b f g a 1000 0 hn ⊥;refine⟨i,?_,d⟩;exact ao<|((ag e).trans rfl)
theorem ZY:∀{xs:aly},(∀x∈xs,Tg 0 x)->∃ks:List K4,xs=ks.map au/\∀k∈ks,Ok k
 |[],_=>⟨[],rfl,fun k a=>nomatch a⟩
 |x::r,h=>by
  obtain⟨k,a,e⟩:=h x ∅;obtain⟨ks,b,h2⟩:=ZY fun y hy=>h y<|mK _ hy;refine⟨k::ks,by rw[e,b];rfl,fun l c=>?_⟩
  grind
theorem K8(j:Ok k):∀(h n lo:Nat)(d:D)(o:Option D),h<n->WN h lo d->(h=0\/1<=lo) ->
  ∃(ks:List K4)(f:Option D),fj hQ hB n [Z a,Z b,Z c,Z<|au k,Z d,o]=.ok (.nx [Z a,Z b,Z c,Z<|au k,Z<|.tup [.str "leaf",.tup<|ks.map au],f])/\∀l∈ks,Ok l:=by
 intro h n;induction n generalizing h with
 |zero=>exact fun _ _ _ hn _ _=>absurd hn<|ajc _
 |succ n w=>
  cases h with
  |zero=>
  intro lo d o hn y _;refine Z14 y fun xs e _ _ hx=>?_;subst e;obtain⟨ks,rfl,q⟩:=ZY hx;exact⟨ks,o,Ka<|aB<|af #[17] rfl (i6.trans<|by rw[ae8]),q⟩
  |succ h=>
  intro lo d o hn y hlo;refine Z14 y fun xs e h1 h2 hx=>?_;subst e;obtain⟨i,ei,m⟩:=mT (c:=.tup xs) j hx yr (fun i x h=>zJ<|bP h) ⊥ ⊥;have g:=lE m;refine Z25 (hx _<|afV m) fun l ys v e p r t=>?_;rw[e]at g;obtain⟨ks,f,s,u⟩:=w h (mn h) (.tup [bQ h,.tup ys]) (Z<|.tup xs) ⊥ ⟨ys,rfl,p,r,t⟩<|.inr<|LY h;refine⟨ks,f,(Bc rfl ?_).trans s,u⟩;exact(am<|af (af rfl (ei) (zJ<|bP g)) rfl bx)
theorem vz(a:Ok k)(f:WN h (rt h) d)(j:h<=700):∃b,ku [d,g8 k,.int k.2.2.2]=.ok (.bl b):=by
 obtain⟨ks,i,e,g⟩:=K8 a h 1000 (rt h) d L ⊥ f ((by
   cases h with
   |zero=>exact .inl rfl
   |succ h=>exact .inr (by show 1<=2;lia)))
 rw[un]at e;obtain⟨b,c⟩:=a.mem g;rw[un]at c;exact⟨b,ao<|(((ag e).trans<|ar<|c))⟩
theorem Dm(a:0<=i)(h1:i<=j)(h2:j<=(xs.length:Int)):hZ xs (Z i) (Z j)=(xs.drop i.toNat).take (j.toNat-i.toNat):=by
 obtain⟨n,rfl⟩:∃n:Nat,i=n:=⟨i.toNat,⊥⟩;obtain⟨m,rfl⟩:∃n:Nat,j=n:=⟨j.toNat,⊥⟩;unfold hZ;rw[HT.gH,HT.gH,agd,agd,ahJ<|⊥,ahJ<|⊥]
structure Rw(c:D)(xs:aly):Prop where
 l:c8 [c]=.ok (.int (xs.length:Int))
 s:∀lo hi,∃y,ve c lo hi=.ok y/\oM [y]=.ok (.tup<|hZ xs lo hi)
theorem L0(xs:aly):Rw (.lst xs) xs:=⟨Dk,fun lo a=>⟨_,xU,qL⟩⟩
theorem R3(a:Rw c xs)(e:xs.length<=1000)(hz:zs.length<100)(f:0<m/\m<100):
  cB [Z w,Z c,Z<|.int m,Z<|.lst zs,Z<|.int p,o5,o6]=.ok (.nx [Z w,Z c,Z<|.int m,Z<|.lst<|zs++[.tup [w,.tup<|hZ xs (Z<|p*(xs.length:Int)/m)<|Z<|(p+1)*(xs.length:Int)/m]],Z<|.int p,Z<|.int<|p*(xs.length:Int)/m,Z<|.int<|(p+1)*(xs.length:Int)/m]):=by
 obtain⟨y,b,d⟩:=a.s ((p*(xs.length:Int)/m))<|((p+1)*(xs.length:Int)/m);exact(ag<|am<|bf (gV rfl (a.l) ⊥) rfl ⊥).trans<|(ag<|am<|bf (gV rfl (a.l) ⊥) rfl ⊥).trans<|cP rfl (ay<|ac rfl (ac (ai (ac (b) rfl) d) rfl)) ⊥
theorem acU(a:0<m)(b:n<=8*m):p*n/m<=(p+1)*n/m/\(p+1)*n/m<=p*n/m+8/\(4*m<=n->p*n/m+4<=(p+1)*n/m):=by
 have e  := Nat.succ_mul p n;rw[e];refine⟨ai2<|air _ _,?_,fun c=>?_⟩
 .rw[<-akb _ _ a];exact ai2 ⊥
 .rw[<-akb _ _ a];exact ai2 ⊥
theorem Pk(v:Rw c xs)(B:xs.length<=700)(s:0<m)(l:m<=90)(u:xs.length<=8*m)(o:m=1\/4*m<=xs.length):∀(k p:Nat)(a:List<|aly)(o4 o5 o6:Option D),p+k=m->a.length=p->(∀r∈a,r.length<=8/\(m=1->r=xs)/\(m≠1->4<=r.length)/\∀x∈r,x∈xs) ->
  ∃(b:List<|aly)(f h g:Option D),bm (.one 4) cB ((ak8 p k).map fun(k:Nat)=>D.int (k:Int)) [Z w,Z c,Z<|.int (m:Int),Z<|.lst<|a.map fun r=>D.tup [w,.tup r],o4,o5,o6]=.ok (.nx [Z w,Z c,Z<|.int (m:Int),Z<|.lst<|b.map fun r=>D.tup [w,.tup r],f,h,g])/\b.length=m/\∀r∈b,r.length<=8/\(m=1->r=xs)/\(m≠1->4<=r.length)/\∀x∈r,x∈xs:=bi (fun p a o4 o5 o6 hp hr hb=>⟨a,o4,o5,o6,rfl,⊥,hb⟩) fun k J p a o4 o5 o6 hp hr hb=>by
  obtain⟨G,I,F⟩:=acU (n:=xs.length) (p:=p) s u;have H:(p+1)*xs.length/m<=xs.length:=by
   refine Nat.div_le_of_le_mul ?_;exact aii _ ⊥
  have t:=R3 (w:=w) (zs:=a.map fun r=>D.tup [w,.tup r]) (m:=(m:Int)) (p:=(p:Int)) (o5:=o5) (o6:=o6) v ⊥ (by rw[iF];lia) ⊥;have y:((p:Int)*(xs.length:Int)/(m:Int))=((p*xs.length/m:Nat):Int):=by rw[<-Int.natCast_mul];rfl
  have E:(((p:Int)+1)*(xs.length:Int)/(m:Int))=(((p+1)*xs.length/m:Nat):Int):=by
   rw[show(p:Int)+1=((p+1:Nat):Int) by lia,<-Int.natCast_mul];rfl
  rw[y,E,Dm ⊥ ⊥<|⊥,agd,agd]at t;have j:((xs.drop<|p*xs.length/m).take<|(p+1)*xs.length/m-p*xs.length/m).length=(p+1)*xs.length/m-p*xs.length/m:=by
   rw[agP,ah0];lia
  have e:m=1->(xs.drop<|p*xs.length/m).take ((p+1)*xs.length/m-p*xs.length/m)=xs:=fun h1=>by
   have:p=0:=⊥
   subst this;rw[h1];simp
  have d:∀x∈(xs.drop<|p*xs.length/m).take ((p+1)*xs.length/m-p*xs.length/m),x∈xs:=fun x A=>ahF<|ag8 A;generalize(xs.drop<|p*xs.length/m).take ((p+1)*xs.length/m-p*xs.length/m)=r0 at t j e d;rw[show(a.map fun r=>D.tup [w,.tup r])++[.tup [w,.tup r0]]=(a++[r0]).map fun r=>D.tup [w,.tup r] by simp]at t;obtain⟨b,f,h,g,g1,g2,C⟩:=J (p+1) (a++[r0]) (Z<|.int (p:Int)) (Z<|.int ((p*xs.length/m:Nat):Int)) (Z<|.int (((p+1)*xs.length/m:Nat):Int)) ⊥ (by rw[afR,hr];rfl) (fun r i=>by
    rcases BY.mp i with z|z
    .exact hb r z
    .rw[acB.mp z];exact⟨⊥,e,fun q=>by have:=F (o.resolve_left q);lia,d⟩)
  refine⟨b,f,h,g,?_,g2,C⟩;rw[List.range'_succ,Do];have t'  := t;rw[aV t'];exact g1
structure Fr(h:Nat)(qs:aly)(m:Nat):Prop where
 n:∀q∈qs,WN h (mn h) q
 l:qs.length=(m+7)/8
theorem fresh(j:Rw c xs)(o:∀x∈xs,Tg h x)(t:mn h<=xs.length)(h1:xs.length<=700):∃qs:aly,jP [bQ h,c]=.ok (.lst qs)/\Fr h qs xs.length:=by
 have v:=LY h;have u:=Yc h;have k:((xs.length:Int)+8-1)/8=(((xs.length+7)/8:Nat):Int):=⊥
 have p:aJ rg (aJ zi (aJ eR OP<|vC AV) Gu) (vC AV) [Z<|bQ h,Z c,L,L,L,L,L]=.ok (.int (((xs.length+7)/8:Nat):Int)):=
  (bf (iC (bC (bR rfl j.l) rfl) rfl) rfl ∎).trans (by rw[k])
 refine Z43 (Pk (w:=bQ h) (m:=(xs.length+7)/8) j h1 ⊥ ⊥ ⊥ ⊥ ((xs.length+7)/8) 0 [] L L L ⊥ rfl (fun r hr=>by cases hr)) fun d o4 o5 o6 g1 g2 s=>?_;refine⟨d.map fun r=>D.tup [bQ h,.tup r],?_,fun q g=>?_,by rw[iF,g2]⟩
 .rw[BS,gU];refine ao<|(ag<|am p).trans<|(ag<|gg<|aX rfl).trans<|(ag<|bE (δ':=[Z<|bQ h,Z c,Z<|.int (((xs.length+7)/8:Nat):Int),Z<|.lst<|d.map fun r=>D.tup [bQ h,.tup r],o4,o5,o6]) (lg (n:=(xs.length+7)/8) rfl ⊥) ?_).trans rfl;rw[ub,akk];exact g1
 .obtain⟨r,hr,rfl⟩:=rW.mp g;obtain⟨a,b,e,f⟩:=s r hr;refine⟨r,rfl,?_,a,fun x i=>o x<|f x i⟩
  grind
theorem Jx(c:WN h lo d)(e:1<=lo):∃k,m7 [d]=.ok (au k)/\Ok k:=by
 obtain⟨xs,rfl,h1,h2,b⟩:=c;cases xs with
 |nil=>simp at h1;lia
 |cons x r=>
  cases h with
  |zero=>
   obtain⟨k,a,rfl⟩:=b x ∅;exact⟨k,ao<|ar<|C5 rfl (bp),a⟩
  |succ h=>
   obtain⟨k,ys,a,rfl,_⟩:=b x ∅;exact⟨k,ao<|ar<|(af (bp) rfl bp),a⟩
theorem vv:∀{qs:aly},(∀q∈qs,WN h (mn h) q)->∃ps:List<|K4×D,qs=ps.map Prod.snd/\∀p∈ps,m7 [p.2]=.ok (au p.1)/\Ok p.1:=@bb _ _ (@fun _=>⟨[],rfl,fun p a=>nomatch a⟩) fun q r i=>@fun hq=>by
  obtain⟨k,e,d⟩:=Jx (hq q<|∅)<|LY h;obtain⟨ps,c,h2⟩:=i fun x b=>hq x<|mK _ b;refine⟨(k,q)::ps,by rw[c];rfl,fun p a=>?_⟩;rcases oR.mp a with z|z
  .mright
  .exact h2 p z
theorem nV(b:∀q∈qs,WN h (mn h) q)(j:qs.length<=100):∃xs,nv [.lst qs]=.ok (.lst xs)/\xs.length=qs.length/\∀x∈xs,Tg (h+1) x:=by
 obtain⟨ps,rfl,c⟩:=vv b;refine⟨ps.map fun p=>.tup [au p.1,p.2],?_,by simp_all,fun x d=>?_⟩
 .exact ao (ar<|(cw _ _ _ (fun p a=>ay<|ac ((c p a).1) rfl)<|by grind))
 .obtain⟨p,a,rfl⟩:=rW.mp d;refine Z14 (b p.2<|rW.mpr ⟨p,a,rfl⟩) fun ys e f i g=>?_;exact⟨p.1,ys,(c p a).2,by rw[e],f,i,g⟩
theorem V2(a:xs.length+ys.length<=1000):qA (.tup xs) (.tup ys)=.ok (.tup<|xs++ys):=by
 cases xs with
 |nil=>rfl
 |cons x r=>exact ali ⟨rfl,⊥⟩
theorem sG(a:xs.length+ys.length<=1000):eR (.lst xs) (.lst ys)=.ok (.lst<|xs++ys):=(ali<|⊥)
theorem VR(a:xs.length+ys.length<=1000):qA (.lst xs) (.lst ys)=.ok (.lst<|xs++ys):=sG a
theorem abN(xs:aly)(j:Nat):si (.lst xs) L (Z (j:Int))=.ok (.lst<|xs.take j):=by rw[xU,uA<|⊥,agd]
theorem aa4(xs:aly){j:Nat}(h:i=(j:Int)):si (.lst xs) (Z i) L=.ok (.lst<|xs.drop j):=by rw[h,xU,Lc<|⊥,agd]
theorem Dz{xs ps:aly}(e:∀x∈xs,Tg (h+1) x)(c:∀x∈ps,Tg (h+1) x)(hs:s<=t)(b:t<=xs.length)(hn:lo<=s+ps.length+(xs.length-t))(d:s+ps.length+(xs.length-t)<=8):
  WN (h+1) lo (.tup [.str "branch",.tup<|xs.take s++ps++xs.drop t]):=by
 refine⟨_,rfl,?_,?_,fun x a=>?_⟩
 .grind
 .grind
 grind
theorem UE{h j:Nat}{xs zs:aly}(k:∀x∈xs,Tg (h+1) x)(h2:2<=xs.length)(D:xs.length<=8)(B:j<xs.length)(hz:zs.length<=8)(m:∀z∈zs,Tg h z):
  ∃d',sx [.lst xs,.int (j:Int),.tup [bQ h,.tup zs]]=.ok d'/\WN (h+1) (xs.length-1) d':=by
 have F:=LY h;rw[Ku,oT];have a:∀(s:Nat)(ts:aly),s+2<=xs.length->(∀y∈ts,Tg h y)->mn h<=ts.length->ts.length<=16->∃d',(aW (b8 5<|aD jP<|aj (uI 2 0)<|aj (ak 4) aA)<|gY<|dj<|aj pK<|aj (aD oM<|aj (aJ qA aay<|CO si (ak 0) (j6<|aJ qA (ak 3) iC2) mh) aA) aA) [Z<|.lst xs,Z<|.int (j:Int),Z<|.tup [bQ h,.tup zs],Z<|.int (s:Int),Z<|.tup ts,L]=.ok (.rt d')/\WN (h+1) (xs.length-1) d':=fun s ts hs q r G=>by
  obtain⟨qs,w,o⟩:=fresh ((⟨yr,fun lo E=>⟨_,ZL,Vd⟩⟩)) q r ⊥;have A:=o.l;obtain⟨ps,t,C,i⟩:=nV o.n ⊥;refine⟨_,(ag<|am<|ai (ac #[17]<|ac rfl rfl) w).trans<|ar<|ay<|ac rfl (ac (ai (ac (af (af (cF rfl rfl (a9 rfl) (abN xs s)) (ai (ac rfl rfl) t)<|VR<|by rw[agP];lia) (cF rfl (a9<|af (c:=.int<|(s:Int)+2) rfl rfl rfl) rfl (aa4 xs (j:=s+2)<|⊥))<|VR<|by rw[afR,agP,ah0];lia) rfl) qL) rfl),Dz k i ⊥ ⊥ ⊥<|⊥⟩
 cases j with
 |zero=>
  have b:=lE (show 1<xs.length by lia);refine Z25 (k _<|afV (show 1<xs.length by lia)) fun l ys _ e p v g=>?_;rw[e]at b;obtain⟨d',f,d⟩:=a 0 (zs++ys) ⊥ (fun y hy=>(BY.mp hy).elim (m y)<|g y) (by rw[afR];lia) (by rw[afR];lia);exact⟨d',ao<|(ag<|(aK<|aB<|af rfl rfl (ij.trans rfl)).trans<|(ag<|am rfl).trans<|am<|af #[22] (af (af (af rfl rfl (xQ<|bP b)) rfl bx) rfl bx)<|V2<|⊥).trans f,d⟩
 |succ j=>
  have b:=lE (show j<xs.length by lia);refine Z25 (k _<|afV (show j<xs.length by lia)) fun l ys _ e p v g=>?_;rw[e]at b;have u:((j+1:Nat):Int)-1=(j:Int):=⊥
  obtain⟨d',f,d⟩:=a j (ys++zs) ⊥ (fun y hy=>(BY.mp hy).elim (g y)<|m y) (by rw[afR];lia) (by rw[afR];lia);exact⟨d',ao<|(ag<|(bt<|aB<|af rfl rfl (ij.trans<|by rw[alk<|⊥])).trans<|(ag<|am<|af rfl rfl (VZ.trans<|by rw[u])).trans<|am<|af (af (af ((xQ<|bP b)) rfl bx) rfl bx) rfl (V2<|⊥)).trans f,d⟩
theorem afu(h1:h=0\/2<=lo):h=0\/2<=mn h:=by
 cases h with
 |zero=>exact .inl rfl
 |succ h=>exact .inr<|nE _
theorem tq(o:Ok k):∀(h n lo:Nat)(d:D),h<n->WN h lo d->(h=0\/2<=lo)->∃qs:aly,dl n [d,au k]=.ok (.lst qs)/\(∀q∈qs,WN h (mn h) q)/\1<=qs.length/\qs.length<=3:=by
 intro h n;induction n generalizing h with
 |zero=>exact fun _ _ hn _ _=>absurd hn<|ajc _
 |succ n W=>
  cases h with
  |zero=>
  intro lo d hn X p;refine Z14 X fun xs e h1 h2 b=>?_;subst e;obtain⟨ks,rfl,r⟩:=ZY b;rw[iF]at h1 h2;have I:=agr (fun l=>ah l k) ks;have Q:=agr (fun l=>ah k l) ks;have C:bS (.one 0) aaV (ak 0) [L,Z<|au k] (ks.map au)=.ok (.lst<|(ks.filter fun l=>ah l k).map au):=
   cp au au _ ks (fun l m=>cK (ai #[2]<|(r l m).ahead o) rfl) (fun _ _ _=>rfl) ⊥
  have y:bS (.one 0) abo (ak 0) [L,Z<|au k] (ks.map au)=.ok (.lst<|(ks.filter fun l=>ah k l).map au):=
   cp au au _ ks (fun l m=>cK (ai #[2]<|o.ahead<|r l m) rfl) (fun _ _ _=>rfl) ⊥
  have K:((ks.filter fun l=>ah l k).map au).length=(ks.filter fun l=>ah l k).length:=iF _;have H:((ks.filter fun l=>ah k l).map au).length=(ks.filter fun l=>ah k l).length:=iF _;have s:∀x∈(ks.filter fun l=>ah l k).map au++[au k]++(ks.filter fun l=>ah k l).map au,Tg 0 x:=fun x b=>by
   rcases BY.mp b with b|b
   .rcases BY.mp b with b|b
    .obtain⟨l,m,rfl⟩:=rW.mp b;exact⟨l,r l (agb.mp m).1,rfl⟩
    .exact⟨k,o,acB.mp b⟩
   .obtain⟨l,m,rfl⟩:=rW.mp b;exact⟨l,r l (agb.mp m).1,rfl⟩
  generalize(ks.filter fun l=>ah l k).map au=A at C K s;generalize(ks.filter fun l=>ah k l).map au=B at y H s;have M:(A++[au k]++B).length=A.length+1+B.length:=by rw[afR,afR];rfl
  obtain⟨qs,e,f⟩:=fresh (h:=0) (L0<|A++[au k]++B) s (by show 1<=_;lia) ⊥;have G:=f.l;refine⟨qs,?_,f.n,⊥,⊥⟩;rw[oX,ck];have g:bG (aJ cW (uI 0 0) nP) [Z<|.tup [bQ 0,.tup<|ks.map au],Z<|au k,L,L,L,L,L]=.ok U:=aB<|af #[17] rfl (i6.trans<|by rw[alm rfl]);exact ao<|bB<|(aK g).trans<|(ag<|am<|ba (bh #[22] rfl) C).trans<|(ag<|am<|ba (bh #[22] rfl) y).trans<|ar<|ai (ac rfl (ac (af (af rfl (aX<|ac rfl rfl) (sG<|by simp;lia)) rfl (sG<|by rw[afR];simp;lia)) rfl)) e
  |succ h=>
  intro lo d hn X p;refine Z14 X fun xs e h1 h2 b=>?_;subst e;have p:2<=lo:=⊥
  obtain⟨j,O,z⟩:=mT (c:=.lst xs) o b Dk (fun i x h=>xQ<|bP h) ⊥ ⊥;have w:=lE z;refine Z25 (b _<|afV z) fun l ys _ e E P R=>?_;rw[e]at w;refine Z14 (W h (mn h) (.tup [bQ h,.tup ys]) ⊥ ⟨ys,rfl,E,P,R⟩<|afu (lo:=2)<|.inr<|nE _) fun qs J F a1 V=>?_;refine Z13 (nV F ⊥) fun ps N T v=>?_;have u:(xs.take j).length=j:=by rw[agP];lia
  have t:(xs.drop<|j+1).length=xs.length-(j+1):=ah0;have M:(xs.take j++ps++xs.drop (j+1)).length=xs.length-1+ps.length:=by rw[afR,afR,u,t];lia
  obtain⟨S,e,f⟩:=fresh (h:=h+1) (L0<|xs.take j++ps++xs.drop (j+1)) (fun x a=>by
   rcases BY.mp a with a|a
   .rcases BY.mp a with a|a
    .exact b x (ag8 a)
    .exact v x a
   .exact b x (ahF a)) (by show 2<=_;lia) ⊥
  have G:=f.l;refine⟨S,?_,f.n,⊥,⊥⟩;rw[oX,ck];have g:bG (aJ cW (uI 0 0) nP) [Z<|.tup [bQ<|h+1,.tup xs],Z<|au k,L,L,L,L,L]=.ok η:=aB<|af #[17] rfl (i6.trans<|by rw[adA]);exact ao<|(skip g).trans<|((ag<|am<|ai #[2] O).trans<|(ag<|am<|ai (ac (af (af rfl rfl (xQ<|bP w)) rfl bx)<|ac rfl rfl) J).trans<|ar<|ai (ac rfl (ac (af (af (cF rfl rfl (a9 rfl) (abN xs j)) (ai (ac rfl rfl) N)<|sG<|⊥) (cF rfl (a9<|bC rfl rfl) rfl (aa4 xs (j:=j+1)<|⊥))<|sG<|by grind) rfl)) e)
theorem nZ(g:Ok k):∀(h n lo:Nat)(d:D),h<n->WN h lo d->(h=0\/2<=lo)->∃d',bO n [d,au k]=.ok d'/\WN h (mn h-1) d':=by
 intro h n;induction n generalizing h with
 |zero=>exact fun _ _ hn _ _=>absurd hn<|ajc _
 |succ n P=>
  cases h with
  |zero=>
  intro lo d hn Q f;refine Z14 Q fun xs e h1 h2 hx=>?_;subst e;obtain⟨ks,rfl,t⟩:=ZY hx;rw[iF]at h1 h2;have M:=agr (fun l=>!PyData.eqv (u8 l) (u8 k)) ks;refine⟨.tup [.str "leaf",.tup<|(ks.filter fun l=>!PyData.eqv (u8 l) (u8 k)).map au],?_,_,rfl,acr _,by rw[iF];lia,fun x r=>?_⟩
  .rw[lu,cc];have C:bS (.one 0) PC (ak 0) [L,Z<|au k] (ks.map au)=.ok (.lst<|(ks.filter fun l=>!PyData.eqv (u8 l) (u8 k)).map au):=
    cp au au _ ks (fun l m=>aB<|af rfl rfl ((t l m).ne g)) (fun _ _ _=>rfl) ⊥
   have a:bG (aJ cW (uI 0 0) nP) [Z<|.tup [bQ 0,.tup<|ks.map au],Z<|au k,L,L,L]=.ok U:=aB<|af #[17] rfl (i6.trans<|by rw[alm rfl]);exact ao<|bB<|(aK a).trans<|ar<|ay<|ac rfl (ac (ai (ac (ba (bh #[22] rfl) C) rfl) qL) rfl)
  .obtain⟨l,m,rfl⟩:=rW.mp r;exact⟨l,t l (agb.mp m).1,rfl⟩
  |succ h=>
  intro lo d hn Q f;refine Z14 Q fun xs e h1 h2 hx=>?_;subst e;have f:2<=lo:=⊥
  obtain⟨j,B,o⟩:=mT (c:=.lst xs) g hx Dk (fun i x h=>xQ<|bP h) ⊥ ⊥;have s:=lE o;refine Z25 (hx _<|afV o) fun l ys _ e y E H=>?_;rw[e]at s;obtain⟨K,z,zs,rfl,J,u,v⟩:=P h (mn h) (.tup [bQ h,.tup ys]) ⊥ ⟨ys,rfl,y,E,H⟩<|afu (lo:=2)<|.inr<|nE _;rw[lu,cc];have a:bG (aJ cW (uI 0 0) nP) [Z<|.tup [bQ<|h+1,.tup xs],Z<|au k,L,L,L]=.ok η:=aB<|af #[17] rfl (i6.trans<|by rw[adA]);have b:bG (aJ IK (aD c8<|aj (uI 4 1) aA)<|vC yV) [Z<|.tup [bQ<|h+1,.tup xs],Z<|au k,Z<|.lst xs,Z<|.int (j:Int),Z<|.tup [bQ h,.tup zs]]=.ok (decide ((4:Int)<=(zs.length:Int))):=aB<|af (bR #[22] yr) rfl ZP;have start:=fun T:FS=>(skip (S:=gY<|dj<|aj nP<|aj (aD oM<|aj (bW [L,Z 1] (gE<|uI 0 1) (.one 0) PC<|ak 0) aA) aA) (T:=aW (b8 2<|aD vd<|aj (uI 0 1) aA)<|aW ac8<|aW (b8 4<|aD (bO n)<|aj (aJ bw (aJ bw (ak 2)<|ak 3) Gu)<|aj (ak 1) aA) T) a).trans
   ((ag<|am<|ai (ac #[22] rfl)<|rfl).trans<|(ag<|am<|ai #[2] B).trans<|ag<|am<|ai (ac (af (af rfl rfl (xQ<|bP s)) rfl bx)<|ac rfl rfl) z)
  by_cases I:4<=zs.length
  .rw[alm<|⊥]at b;have N:=Yc h;refine Z13 (nV (h:=h) (qs:=[.tup [bQ h,.tup zs]]) (fun q b=>by rw[acB.mp b];exact⟨zs,rfl,⊥,u,v⟩) ∅) fun ps A w p=>?_;have w:ps.length=1:=w;exact⟨_,ao<|(start _).trans<|bB<|(aK b).trans<|ar<|ay<|ac rfl (ac (ai (ac (af (af (cF rfl rfl (a9 rfl) (abN xs j)) (ai (ac (aX<|ac rfl rfl) rfl) A)<|sG<|by rw[agP];lia) (cF rfl (a9<|bC rfl rfl) rfl (aa4 xs (j:=j+1)<|⊥))<|sG<|by rw[afR,agP,ah0];lia) rfl) qL) rfl),Dz hx p ⊥ ⊥ (by show 1<=_;lia)<|⊥⟩
  .rw[alk<|⊥]at b;obtain⟨d',G,F⟩:=UE hx ⊥ h2 o u v;exact⟨d',ao<|(start _).trans<|(skip b).trans<|ar<|G,F.mono (by show 1<=_;lia)⟩
theorem GN(b:∀q∈qs,WN h (mn h) q)(h1:1<=qs.length)(i:qs.length<=8):∃h' d,h'<=h+1/\yS [.lst qs]=.ok d/\WN h' (rt h') d:=by
 by_cases o:qs.length=1
 .obtain⟨q,rfl⟩:=ah1.mp o;exact⟨h,q,⊥,rfl,(b q<|∅).mono<|Lo h⟩
 .obtain⟨ps,c,k,a⟩:=nV b ⊥;obtain⟨g,e,f⟩:=fresh (L0 ps) a (by show 2<=_;lia) ⊥;have j:=f.l;obtain⟨r,rfl⟩:=ah1.mp (show g.length=1 by lia);exact⟨h+1,r,nE _,ao<|((ag<|(Bc (aB<|(yX.trans<|by rw[alm<|⊥]))<|am<|ai (ac rfl (ac (c) rfl)) e).trans rfl).trans rfl),(f.n r<|∅).mono<|Lo<|h+1⟩
theorem afn(h:Nat):h=0\/2<=rt h:=by
 cases h with
 |zero=>exact .inl rfl
 |succ h=>exact .inr<|nE _
theorem BN(c:Ok k)(a:WN h (rt h) d)(i:h<40):∃h' d',h'<=h+1/\jw [d,g8 k,.int k.2.2.2]=.ok d'/\WN h' (rt h') d':=by
 obtain⟨b,g⟩:=vz c a ⊥;refine Z14 (tq c h 40 (rt h) d i a<|afn h) fun qs e f a1 m=>?_;refine Z23 (GN f a1 ⊥) fun h' d' hb l j=>?_;rw[un]at e;cases b with
 |true=>exact⟨h,d,⊥,ao<|bB<|(aK<|cK (g) rfl).trans rfl,a⟩
 |false=>exact⟨h',d',hb,ao<|(skip<|cK (g) rfl).trans<|ar<|ai (ac (e) rfl) l,j⟩
theorem vk(g:Ok k)(a:WN h (rt h) d)(o:h<40):∃h' d',h'<=h/\dJ [d,g8 k,.int k.2.2.2]=.ok d'/\WN h' (rt h') d':=by
 obtain⟨b,i⟩:=vz g a ⊥;obtain⟨q,e,xs,rfl,m,j,c⟩:=nZ g h 40 (rt h) d o a<|afn h;rw[un]at e;rw[rh,dR];cases b with
 |false=>exact⟨h,d,nE _,ao<|bB<|(aK<|Hk (b:=η)<|ai (ac rfl #[2]) i).trans<|ar rfl,a⟩
 |true=>
  have start:=fun T:FS=>(skip (S:=gY<|ak 0) (T:=aW (b8 3<|aD kX<|aj (ak 0)<|aj aaM aA) T) (Uq0:=[Z d,Z<|g8 k,Z<|.int k.2.2.2,L])<|Hk (φ:=aD ku<|aj (ak 0)<|aj (ak 1)<|aj (ak 2) aA) (b:=U)<|ai (ac rfl #[2]) i).trans<|ag<|am<|ai (ac rfl (ac (ay<|ac rfl (ac rfl rfl)) rfl)) e;cases h with
  |zero=>exact⟨0,_,nE _,ao<|(start _).trans<|(skip<|hU<|aB<|af #[17] rfl (i6.trans<|by rw[ae8])).trans<|ar rfl,xs,rfl,acr _,j,c⟩
  |succ h=>
   have m:1<=xs.length:=m;have s:bG (aJ cW (uI 3 0) pK) [Z d,Z<|g8 k,Z<|.int k.2.2.2,Z<|.tup [bQ<|h+1,.tup xs]]=.ok U:=aB<|af #[17] rfl (i6.trans<|by rw[alm rfl]);have f:bG (aJ cW (aD c8<|aj (uI 3 1) aA) Gu) [Z d,Z<|g8 k,Z<|.int k.2.2.2,Z<|.tup [bQ<|h+1,.tup xs]]=.ok (decide ((xs.length:Int)=1)):=tf (bR #[22] yr) rfl;by_cases h1:xs.length=1
   .rw[alm<|⊥]at f;obtain⟨x,rfl⟩:=ah1.mp h1;obtain⟨l,ys,_,rfl,n,p,r⟩:=c x ∅;exact⟨h,_,⊥,ao<|(start _).trans rfl,ys,rfl,DO (Lo h) n,p,r⟩
   .rw[alk<|⊥]at f;exact⟨h+1,_,nE _,ao<|(start _).trans<|(skip<|f).trans rfl,xs,rfl,by show 2<=_;lia,j,c⟩
def Py(k:Nat)(d:D):Prop:=∃p,bM d=Z p/\p.canLay0=U/\p.depth<=k
theorem Py.list:∀{ds:aly},(∀d∈ds,Py k d)->∃ps,bH ds=Z ps/\ags ps=U/\ahe ps<=k/\ps.length=ds.length:=@bb _ _ (fun _=>⟨[],rfl,rfl,acr _,rfl⟩) fun d r i h=>by
  refine Z13 (h d ∅) fun p h1 h2 c=>?_;refine Z14 (i fun x b=>h x<|mK _ b) fun ps a g f e=>?_;refine⟨p::ps,?_,?_,?_,by simp[e]⟩
  .rw[bH,h1,a];rfl
  .rw[ags,h2,g];rfl
  .exact Nat.max_le.mpr ⟨c,f⟩
theorem Py.tup(h:∀d∈ds,Py k d):Py (k+1)<|.tup ds:=by
 obtain⟨ps,a,b,e,c⟩:=Py.list h;exact⟨.tuple ps,by rw[bM,a];rfl,b,by rw[ah7];lia⟩
theorem Py.lst(h:∀d∈ds,Py k d):Py (k+1)<|.lst ds:=by
 obtain⟨ps,a,b,e,c⟩:=Py.list h;exact⟨.list ps,by rw[bM,a];rfl,b,by rw[ah7];lia⟩
theorem Py.mono(h:Py k d)(e:k<=l):Py l d:=let⟨p,a,b,c⟩:=h;⟨p,a,b,DO c e⟩
theorem Py.two(c:Py k a)(hb:Py k b):Py (k+1)<|.tup [a,b]:=Py.tup fun d e=>by
 rcases oR.mp e with z|z
 .rw[z];exact c
 grind
theorem Py.int(i:Int):Py 0<|.int i:=⟨.int i,rfl,rfl,nE _⟩
theorem Py.shaped(h1:p.canLay0=U)(h2:p.depth<=k)(a:k<=60):agk p=U:=by
 unfold agk
 lia
theorem Py.self(h:Py k d)(b:k<=60)(hs:cH d=L):jG d d=Z U:=by
 obtain⟨p,c,a,f⟩:=h;have e:jG d d=dC d d:=by unfold jG;rw[hs]
 have s:=Py.shaped a f b;rw[e,dC,c];dsimp only;rw[ali ⟨s,s⟩,SeqAt.eqv_refl _ a]
theorem Py.ne(h:Py k d)(a:k<=60)(hs:cH d=L):nC d d=.ok (.bl η):=by
 unfold nC;rw[h.self a hs];rfl
theorem Py.eq(h:Py k d)(a:k<=60)(hs:cH d=L):cW d d=.ok (.bl U):=by
 unfold cW;rw[h.self a hs];rfl
theorem Py.nil(h:∀d∈ds,Py k d)(j:k<=50):nC (.lst ds) (.lst [])=.ok (.bl<|decide (0<ds.length)):=by
 refine Z14 (Py.list h) fun ps a i l e=>?_;have c:bM (.lst ds)=Z (.list ps):=by rw[bM,a];rfl
 have g:bM (.lst [])=Z (.list []):=rfl;have f:dC (.lst ds) (.lst [])=(agS (.list ps)<|.list []):=by
  unfold dC;rw[c,g];simp only;rw[ali ⟨Py.shaped (k:=k+1) i (by rw[ah7];lia)<|⊥,∎⟩]
 have b:jG (.lst ds) (.lst [])=dC (.lst ds) (.lst []):=rfl;unfold nC;rw[b,f];cases ps with
 |nil=>
  have:ds.length=0:=by grind
  rw[this];rfl
 |cons p r=>
  have:0<ds.length:=by rw[<-e];simp
  rw[alm this];rfl
theorem il(h:B ((Uq0.set i<|Z a).set j<|Z b)=.ok (.nx δ')):bm (.tup [i,j]) B (.tup [a,b]::r) Uq0=bm (.tup [i,j]) B r δ':=by
 rw[yy,Fh,ax,Kw,h,ax,Dq]
def ov:D->D
 |.non=>.int 0
 |d=>d
theorem EI(h:Vl 40 d):qR [d]=.ok (.tup [.int<|kx d,ov d]):=by
 cases d with
 |non=>rfl
 |int i=>rfl
 |str z=>rfl
 |_=>mleft
def kp(k:K4):ahq:=.tuple [.tuple [.int<|T73.kx<|g8 k,QF<|ov<|g8 k],.int k.2.2.2]
theorem Ok.key(h:Ok k):eG [au k]=.ok (.tup [.tup [.int<|T73.kx<|g8 k,ov<|g8 k],.int k.2.2.2]):=by
 exact ao<|ar<|ay<|ac (ai (ac ((u0 k)) rfl)<|EI h.v)<|ac ((u1 k)) rfl
theorem ZF(h:Vl 40 d):Vl 40<|ov d:=by
 cases d with
 |non=>exact af2
 |int i=>exact af2
 |str z=>exact h
 |_=>mleft
theorem Ok.kp(h:Ok k):bM (.tup [.tup [.int<|T73.kx<|g8 k,ov<|g8 k],.int k.2.2.2])=Z (kp k)/\KS.isK (T73.kp k)=U/\agk (T73.kp k)=U:=by
 have v:=ZF h.v;obtain⟨l1,l2⟩:=Er v;refine⟨?_,rfl,?_⟩
 .rw[bM,bH,bM,bH,bH,BP v];rfl
 .unfold agk T73.kp;rw[ajv,ags,ajv,ags,ags,l1,ah7,ahe,ah7,ahe,ahe,l2];rfl
theorem Yo:∀{l:List K4},(∀k∈l,Ok k)->BW eG (l.map au)=Z (l.map kp)
 |[],_=>rfl
 |k::r,h=>by
  have a:=h k ∅;obtain⟨h1,h2,c⟩:=a.kp;rw[Do,BW,a.key];dsimp only;rw[h1];show(if KS.isK (kp k)=U/\agk (kp k)=U then(BW eG<|r.map au).map (kp k::·)else L)=_;rw[ali ⟨h2,c⟩,Yo fun x b=>h x<|mK _ b];rfl
theorem Zg{u v:D}(b:Vl 40 u)(a:Vl 40 v)(e:T73.kx u=T73.kx v):∃r,LU.cpP .lt (QF<|ov u) (QF<|ov v)=Z r:=by
 cases u with
 |non=>cases v with
  |non=>exact⟨_,rfl⟩
  |int j=>exact absurd (show(0:Int)=1 from e) ∎
  |str z=>exact absurd (show(0:Int)=2 from e) ∎
  |_=>exact a.elim
 |int i=>cases v with
  |non=>exact absurd (show(1:Int)=0 from e) ∎
  |int j=>exact⟨_,show LU.cpP .lt (.int i) (.int j)=_ by rw[LU.cpP]⟩
  |str z=>exact absurd (show(1:Int)=2 from e) ∎
  |_=>exact a.elim
 |str x=>cases v with
  |non=>exact absurd (show(2:Int)=0 from e) ∎
  |int j=>exact absurd (show(2:Int)=1 from e) ∎
  |str z=>exact⟨_,show LU.cpP .lt (.str x) (.str z)=_ by rw[LU.cpP]⟩
  |_=>exact a.elim
 |_=>exact b.elim
theorem VL{a b:K4}(f:Ok a)(hb:Ok b):∃r,LU.cpP .lt (kp a) (kp b)=Z r:=by
 have c:=f.v;have d:=hb.v;have g:∀i j , ∃r,LU.cpPs .lt [.int i] [.int j]=Z r:=fun i j=>by
  rw[LU.cpPs];split
  .exact⟨_,by rw[LU.cpPs]⟩
  .exact⟨_,by rw[LU.cpP]⟩
 unfold kp;rw[LU.cpP,LU.cpPs];split
 .exact g _ _
 .rw[LU.cpP,LU.cpPs];split
  .rename_i h0 h1;have e  := by simpa[agS]using h1
   rw[LU.cpPs];split
   .exact⟨_,by rw[LU.cpPs]⟩
   .exact Zg c d e
  .exact⟨_,by rw[LU.cpP]⟩
theorem Q8(f:α->β){a:α}{b:β}{l:List α}(h:∀i∈p,i<l.length):KS.pkL b p (l.map f)=(KS.pkL a p l).map f:=by
 unfold KS.pkL;mright
theorem N9{a:α}{l:List α}(h:p.Perm<|agj l.length):(KS.pkL a p l).Perm l:=by
 have:=h.map fun i=>l.getD i a
 rw[show(agj l.length).map (fun i=>l.getD i a)=l from KS.JX a l]at this;exact this
theorem Mb(h:∀k∈l,Ok k)(j:l.length<=63):∃ss:List K4,tT eG [.lst<|l.map au]=.ok (.lst<|ss.map au)/\ss.Perm l:=by
 obtain⟨p,e⟩:=KS.G3 fun a g b hb=>by
  obtain⟨x,d,rfl⟩:=rW.mp g;obtain⟨y,hy,rfl⟩:=rW.mp hb;exact VL (h x d)<|h y hy
 have c:=KS.kc e;rw[iF]at c;refine⟨KS.pkL (0,0,[],0) p l,?_,N9 c⟩;unfold tT;dsimp only;rw[ali<|by simp_all,Yo h,ajV,e];dsimp only;rw[Q8 au fun i f=>agO.mp<|c.mem_iff.mp f]
theorem NK{xs:aly}:atI (xs++[x]) (-1)=Z x:=by
 have e:NT (xs++[x]).length (-1)=xs.length:=by
  unfold NT;rw[alj<|∎,afR,ah8,ali<|⊥];congr 1;lia
 unfold atI;mright
theorem BZ:∀(rest acc:List K4)(o:Option D),(∀k∈acc,Ok k)->(∀k∈rest,Ok k)->acc.length+rest.length<=900 ->
  ∃(c:List K4)(g:Option D),bm (.one 2) nB (rest.map au) [Z a,Z<|.lst<|acc.map au,o]=.ok (.nx [Z a,Z<|.lst<|c.map au,g])/\(∀k∈c,Ok k)/\c.length<=acc.length+rest.length:=bb (fun acc o oa _ _=>⟨acc,o,rfl,oa,∅⟩) fun k rest q acc o oa orr hl=>by
  have ok:=orr k ∅;rw[afW]at hl;have d:bG LS [Z a,Z<|.lst<|acc.map au,Z<|au k]=.ok (decide (acc=[])):=aB<|af rfl (aX rfl) (eq_nil oa);obtain⟨b,m⟩:∃b,Bo (bG LS) (bG<|aJ nC (aJ bw (ak 1)<|LG Hv Gu)<|ak 2) [Z a,Z<|.lst<|acc.map au,Z<|au k]=.ok b:=by
   by_cases f:acc=[]
   .rw[alm f]at d;exact⟨_,XI d⟩
   .rw[alk f]at d;obtain⟨r,l,p⟩:∃r l,acc=r++[l]:=by
     cases hacc:acc.reverse with
     |nil=>exact absurd (List.reverse_eq_nil_iff.mp hacc) f
     |cons l r=>exact⟨r.reverse,l,by rw[<-List.reverse_reverse acc,hacc,aib]⟩
    have j:bw (.lst<|acc.map au) (.int<|-1)=.ok (au l):=xQ (by rw[p,RW];exact NK);exact⟨_,n9 d<|aB<|af (af rfl rfl j) rfl ((oa l<|by rw[p];simp).ne ok)⟩
  have h:∀x∈rest,Ok x:=fun x i=>orr x<|mK _ i;cases b with
  |true=>
   obtain⟨c,g,e,p2,n⟩:=q (acc++[k]) (Z<|au k) (fun x i=>by
    rcases BY.mp i with z|z
    .exact oa x z
    .rw[acB.mp z];exact ok) h (by rw[afR,ah8];lia)
   refine⟨c,g,?_,p2,by rw[afR,ah8]at n;rw[afW];lia⟩;have t:nB (ahu [Z a,Z<|.lst<|acc.map au,o] 2<|Z<|au k)=.ok (.nx [Z a,Z<|.lst<|(acc++[k]).map au,Z<|au k]):=by
    rw[RW];exact(aK m).trans<|cP rfl rfl (by rw[iF];lia)
   rw[Do,aV t];exact e
  |false=>
   obtain⟨c,g,e,p2,n⟩:=q acc ((au k)) oa h ⊥;refine⟨c,g,?_,p2,by grind⟩;have t:nB (ahu [a,Z<|.lst<|acc.map au,o] 2<|(au k))=.ok (.nx [a,Z<|.lst<|acc.map au,(au k)]):=(bt m).trans rfl;rw[Do,aV t];exact e
theorem BU{xs:List K4}(r:∀k∈xs,Ok k)(v:xs.length<=63):∃h d,h<=1/\jJ [.lst<|xs.map au]=.ok d/\WN h (rt h) d:=by
 obtain⟨m,y,s⟩:=Mb r v;have q:∀k∈m,Ok k:=fun k i=>r k<|s.mem_iff.mp i;have p:m.length=xs.length:=s.length_eq;refine Z23 (BZ (a:=.lst<|xs.map au) m [] L (fun x b=>by cases b) q (by simp;lia)) fun ks o e p2 w=>?_;have t:ks.length<=xs.length:=by simpa[p]using w
 rw[xz,gy];have start:∀T:FS,(aW (xx 1<|gm aA)<|aW (nA (gE<|aD (tT eG)<|aj (ak 0) aA) (.one 2) nB) T) [Z<|.lst<|xs.map au,L,L]=T [Z<|.lst<|xs.map au,Z<|.lst<|ks.map au,o]:=fun T=>
  (ag<|gg<|aX rfl).trans (ag<|bE (bh (ai (ac rfl rfl) y) rfl) e)
 have c:bG LS [Z<|.lst<|xs.map au,Z<|.lst<|ks.map au,o]=.ok (decide (ks=[])):=aB<|af rfl (aX rfl) (eq_nil p2);by_cases j:ks=[]
 .rw[alm j]at c;have z:iU []=.ok (.tup [.str "leaf",.tup []]):=by
   rw[vf,fG];exact ao<|ar<|ay<|ac rfl (ac (ay rfl) rfl)
  exact⟨0,_,⊥,ao<|(start _).trans<|bB<|(aK c).trans<|ar<|ai rfl z,[],rfl,acr _,acr _,fun x b=>nomatch b⟩
 .rw[alk j]at c;have g:1<=ks.length:=List.length_pos_iff.mpr j;obtain⟨qs,C,f⟩:=fresh (h:=0) (L0<|ks.map au) (fun x b=>by
   obtain⟨k,i,rfl⟩:=rW.mp b;exact⟨k,p2 k i,rfl⟩) (by rw[iF];exact g) (by grind)
  have u:=f.l;rw[iF]at u;obtain⟨h,d,hb,B,A⟩:=GN f.n ⊥ ⊥;exact⟨h,d,hb,ao<|(start _).trans<|(skip c).trans<|ar<|ai (ac (C) rfl) B,A⟩
noncomputable def b6(c:Str×Str):D:=.tup [.str c.1,.str c.2]
def BL(nm:Str)(cs:List<|Str×Str):D:=.tup [.str nm,.tup<|cs.map b6]
noncomputable def nQ(c:Str):List (Str×Str)->Nat
 |[]=>0
 |q::r=>if q.1=c then 0 else nQ c r+1
theorem iy:∀{cs:List<|Str×Str},c∈cs.map IF->nQ c cs<cs.length:=@bb _ _ (@fun h=>by simp at h) fun q r i=>@fun h=>by
  unfold nQ;split
  .simp
  .rcases oR.mp h with z|z
   .lia
   .have:=i z;simp;omega
theorem Kk(h:B ((Uq0.set i<|Z a).set j<|Z b)=.ok (.rt d)):bm (.tup [i,j]) B (.tup [a,b]::r) Uq0=.ok (.rt d):=by
 show((B<|(Uq0.set i<|a).set j<|b).bind _)=_;rw[h];rfl
theorem Nc(h:ι Uq0=.ok xs)(a:bm g B xs Uq0=.ok (.rt d)):nA ι g B Uq0=.ok (.rt d):=by rw[OT,h,ax,OY,a]
theorem Da:∀(cs:List<|Str×Str)(j:Nat)(b o3:Option D),c∈cs.map IF ->
  bm (.tup [2,3]) cpB (aU j<|cs.map b6) [Z a,Z<|.str c,b,o3]=.ok (.rt<|.int ((j+nQ c cs:Nat):Int)):=bb (fun _ _ _ h=>by simp at h) fun q r i j b o3 h=>by
  have t:bG (aJ cW (uI 3 0)<|ak 1) [a,Z<|.str c,Z<|.int j,(b6 q)]=.ok ((q.1=c)):=aB<|i6;by_cases e:q.1=c
  .rw[alm e]at t
   have:nQ c (q::r)=0:=by unfold nQ;rw[ali e]
   rw[this];exact Kk<|(aK t).trans rfl
  .rw[alk e]at t;have f:nQ c (q::r)=nQ c r+1:=alj e;rw[f];have h':c∈r.map IF:=by
    grind
   have g:=i (j+1) (Z<|.int j) ((b6 q)) h';have d:((j+(nQ c r+1)))=((j+1+nQ c r:Nat)):=⊥
   rw[d,<-g];exact il<|(bt t).trans rfl
theorem gB(h:c∈cs.map IF):kD [BL nm cs,.str c]=.ok (.int (nQ c cs:Int)):=by
 have e:=Da (a:=BL nm cs) cs 0 L L h;rw[aiP]at e;refine ao<|bB<|Nc ?_ e;rfl
abbrev zD:=Int×aly
def fX(a:List zD):List<|Key×D:=a.map fun q=>(Key.inl q.1,D.tup q.2)
def sj(ids:List<|Str×D):List<|Key×D:=ids.map fun q=>(Key.inr q.1,q.2)
def pS(nm:Str)(cs:List<|Str×Str)(a:List zD)(ids:List<|Str×D):D:=.obj "Table" [("shape",BL nm cs),("rows",.dcf<|fX a),("indexes",.dcf<|sj ids)]
theorem xj(h:φ Uq0=.ok d)(a:My n f d=.ok e):yn n f φ Uq0=.ok e:=by unfold yn;rw[h,ax,a]
theorem Y2(h:φ Uq0=.ok (.dct ds)):WV φ Uq0=.ok (.dcf ds):=by unfold WV;rw[h];rfl
noncomputable def c6(a:List zD)(n:Int):Option<|aly:=(a.find? fun q=>decide (q.1=n)).map (·.2)
def qc(a:List zD)(n:Int)(r:aly):List zD:=if(c6 a n).isSome=U then a.map fun q=>if q.1=n then(q.1,r)else q else a++[(n,r)]
def ji(a:List zD)(n:Int):List zD:=a.filter fun q=>decide (q.1≠n)
theorem kM(n:Int):∀rs:List zD,bV (fX rs) (.inl n)=(c6 rs n).map D.tup:=bb (rfl) fun q r i =>by
  by_cases e:q.1=n
  .simp[fX,bV,c6,agw,e]
  .have:=i
   simp[fX,bV,c6,agw,e]at this⊢;exact this
theorem Kr(n:Int)(x:aly)(a:List zD):eF (fX a) (.inl n) (.tup x)=fX (qc a n x):=by
 unfold eF qc;rw[kM]
 have:((c6 a n).map D.tup).isSome=(c6 a n).isSome:=by grind
 rw[this];split
 .unfold fX;rw[af8,af8];apply agM
  intro q _;by_cases e:q.1=n
  .simp[e]
  .simp[e]
 .unfold fX;rw[RW];rfl
theorem EW(n:Int)(a:List zD):gc (fX a) (.inl n)=fX (ji a n):=by
 unfold gc ji fX;rw[List.filter_map];congr 1;apply ajJ
 simp
theorem Em(h:c6 rs n=Z x):(n,x)∈rs:=by
 unfold c6 at h;cases e:rs.find? fun q=>(q.1=n)with
 |none=>rw[e]at h;nofun
 |some q=>
  grind
theorem F2(h:c6 rs n=L):∀q∈rs,q.1≠n:=fun q a e=>by
 have:=ajr.mp (aj1.mp h) q a
 exact this<|alm e
noncomputable def Uj(v:D)(n:Int):K4:=match v with
 |.int i=>(1,i,[],n)
 |.str z=>(2,0,z.cps.toList,n)
 |_=>(0,0,[],n)
theorem Qd(v:D)(n:Int):(Uj v n).2.2.2=n:=by unfold Uj;split<;>rfl
theorem xH(h:Vl 40 v):Ok (Uj v n)/\au (Uj v n)=.tup [v,.int n]/\g8 (Uj v n)=v:=by
 cases v with
 |non=>exact⟨Ok.of rfl h,rfl,rfl⟩
 |int i=>exact⟨Ok.of rfl h,rfl,rfl⟩
 |str z=>exact⟨Ok.of rfl h,rfl,by rfl⟩
 |_=>mleft
structure RowOk(m:Nat)(r:aly):Prop where
 len:r.length=m
 v:∀v∈r,Vl 40 v
def eK(p:Nat)(q:zD):K4:=Uj (q.2.getD p .non) q.1
theorem RowOk.at_(h:RowOk m r)(b:p<m):Vl 40 (r.getD p .non)/\r[p]?=Z (r.getD p .non):=by
 have a:p<r.length:=by rw[h.len];exact b
 have e  := lE a
 have:r.getD p .non=r[p]:=by mright
 rw[this];exact⟨h.v _<|afV a,e⟩
structure RsOk(m:Nat)(rs:List zD):Prop where
 nd:(rs.map IF).Nodup
 r:∀q∈rs,RowOk m q.2
def tI(B:Nat)(d:D):Prop:=∃h,h<=B/\WN h (rt h) d
theorem v6(h:RsOk m rs)(n:Int)(x:aly):(qc rs n x).Perm<|(n,x)::ji rs n:=by
 unfold qc;cases e:c6 rs n with
 |none=>
  have j:ji rs n=rs:=akw.mpr fun q d=>alm<|F2 e q d;mright
 |some c=>
  rw[ali (show(Z c).isSome=U from rfl)];have b:=Em e;have nd:=h.nd;clear h e;unfold ji;induction rs with
  |nil=>cases b
  |cons q r f=>
   rw[Do,agc]at nd;by_cases eq:q.1=n
   .have hr:∀z∈r,z.1≠n:=fun z hz i=>nd.1<|rW.mpr ⟨z,hz,by rw[i,eq]⟩;have g:(r.map fun q=>if q.1=n then(q.1,x)else q)=r:=by
     conv=>rhs;rw[<-alb r]
     apply agM
     intro z hz;rw[alj<|hr z hz];rfl
    have e2  := akw.mpr fun z hz=>alm<|hr z hz;rw[Do,ali eq,g,ahi,alj<|by simp[eq],e2,eq]
   .rw[Do,alj eq,ahi,ali<|by simp[eq]];have a:(n,c)∈r:=by
     grind
    exact((f a nd.2).cons q).trans<|List.Perm.swap _ _ _
theorem uL(h:RsOk m rs)(n:Int):RsOk m<|ji rs n:=
 ⟨h.nd.sublist<|aja.map _,fun q a=>h.r q (agb.mp a).1⟩
theorem Hd(a:List zD)(n:Int):∀q∈ji a n,q.1≠n:=fun q b=>aln (agb.mp b).2
theorem Il(h:RsOk m rs)(n:Int)(x:aly):(qc rs n x).length<=rs.length+1:=by
 rw[(v6 h n x).length_eq,afW]
 have:(ji rs n).length<=rs.length:=agr _ _
 lia
theorem YH(h:RsOk m rs)(c:p<m):∀k∈rs.map (eK p),Ok k:=fun k a=>by
 obtain⟨q,b,rfl⟩:=rW.mp a;exact(xH ((h.r q b).at_ c).1).1
theorem RV(b:RowOk m x)(i:p<m)(hB:B<40)(f:tI B d):∃d',jw [d,x.getD p .non,.int n]=.ok d'/\tI (B+1) d':=by
 obtain⟨h,hb,j⟩:=f;obtain⟨o,_,c⟩:=xH (b.at_ i).1;refine Z23 (BN o j ⊥) fun h' d' g e a=>?_;rw[c,Qd]at e;exact⟨d',e,h',⊥,a⟩
theorem NM(b:RowOk m x)(i:p<m)(hB:B<40)(f:tI B d):∃d',dJ [d,x.getD p .non,.int n]=.ok d'/\tI B d':=by
 obtain⟨h,hb,j⟩:=f;obtain⟨o,_,c⟩:=xH (b.at_ i).1;refine Z23 (vk o j ⊥) fun h' d' g e a=>?_;rw[c,Qd]at e;exact⟨d',e,h',⊥,a⟩
noncomputable def j3(ids:List<|Str×D)(c:Str):Option D:=(ids.find? fun q=>decide (q.1=c)).map (·.2)
theorem rO(c:Str):∀ids:List<|Str×D,bV (sj ids) (.inr c)=j3 ids c:=bb (rfl) fun q r i =>by
  have a:=i;by_cases e:q.1=c
  .simp[sj,bV,j3,agw,e]
  .simp[sj,bV,j3,agw,e]at a⊢;exact a
theorem tp(h:c∉ids.map IF):j3 ids c=L:=by
 unfold j3;rw[ajr.mpr fun q a z=>h<|rW.mpr ⟨q,a,aln z⟩];rfl
theorem zF(hn:(ids.map IF).Nodup):∀{q:Str×D},q∈ids->j3 ids q.1=Z q.2:=by
 induction ids with
 |nil=>grind
 |cons a r b=>
  intro q h;rw[Do,agc]at hn;rcases oR.mp h with rfl|h
  .simp[j3,agw]
  .have:a.1≠q.1:=fun e=>hn.1 (rW.mpr ⟨q,h,e.symm⟩)
   have b:=b hn.2 h;simp[j3,agw,this]at b⊢;exact b
theorem wW(h:c∉ids.map IF):eF (sj ids) (.inr c) d=sj (ids++[(c,d)]):=by
 unfold eF;rw[rO,tp h];unfold sj;rw[RW];rfl
theorem TM(h:j3 ids c=Z d):AN (.dcf<|sj ids) (.str c)=.ok d:=by
 show(match bV (sj ids) (.inr c)with|some d=>R.ok d|none=>.no)=_
 rw[rO,h]
theorem uQ:oW (.int n) (.dcf<|fX rs)=.ok (.bl<|!(c6 rs n).isSome):=by
 show d7 ((bV (fX rs)<|.inl n).isSome) _=_;rw[kM];cases c6 rs n<;>rfl
structure TbOk(B:Nat)(cs:List (Str×Str))(rs:List zD)(ids:List (Str×D)):Prop where
 r:RsOk cs.length rs
 nd:(ids.map IF).Nodup
 i:∀q∈ids,q.1∈cs.map IF/\tI B q.2
theorem BK(h:RowOk m x)(a:p<m):bw (.tup x) (.int (p:Int))=.ok (x.getD p .non):=zJ<|bP (h.at_ a).2
theorem mj(h:RsOk cs.length rs)(hB:B<40)(a:c∈cs.map IF)(g:j3 ids c=Z d)(b:tI B d):
  ∃d',j5 [pS nm cs rs ids,.str c,.int n]=.ok d'/\tI B d':=by
 have s1  := (TM g);cases e:c6 rs n with
 |none=>
  refine⟨d,?_,b⟩;exact ao<|(ag<|am s1).trans<|bB<|(aK<|aB<|(uQ.trans<|by rw[e];rfl)).trans rfl
 |some i=>
  have hx0  := h.r _<|Em e;obtain⟨d',f,h1⟩:=NM hx0 (iy a) hB b;refine⟨d',?_,h1⟩;exact ao ((ag<|am s1).trans ((skip<|aB<|(uQ.trans<|by rw[e];rfl)).trans (ar (ai (ac rfl (ac (af (((by
    show(match bV (fX rs) (.inl n)with|some d=>R.ok d|none=>.no)=_
    rw[kM,e];rfl))) ((gB a)) (BK hx0 (iy a))) rfl)) f))))
theorem nX(h:Uq0[i]?=Z (Z<|.dct kvs))(c:ε Uq0=.ok d)(b:ψ Uq0=.ok k)(a:uJ k=Z kk)(e:kvs.length<1000):zN i ψ ε Uq0=.ok (.nx<|Uq0.set i<|Z<|.dct<|eF kvs kk d):=by
 unfold zN;rw[h];show((ε Uq0).bind _)=_;rw[c,ax];rw[b,ax,a]
 lia
theorem Oq(h:Uq0[i]?=Z (Z<|.dct kvs))(c:ψ Uq0=.ok k)(a:uJ k=Z kk)(b:(bV kvs kk).isSome=U):wm i ψ Uq0=.ok (.nx<|Uq0.set i<|Z<|.dct<|gc kvs kk):=by
 unfold wm;rw[h];show((ψ Uq0).bind _)=_;rw[c,ax,a];dsimp only;rw[ali b]
theorem CU(h:RsOk cs.length rs)(i:RowOk cs.length x)(hB:B<40):
  ∀(a acc:List<|Str×D)(o5 o6:Option D),(∀q∈a,j3 ids q.1=Z q.2/\q.1∈cs.map IF/\tI B q.2)->((acc++a).map IF).Nodup->acc.length+a.length<1000 ->
   ∃(out:List<|Str×D)(c b:Option D),bm (.one 5) aex (a.map fun q=>D.str q.1) [Z<|pS nm cs rs ids,Z<|.int n,Z<|.tup x,Z rd,Z<|.dct<|sj acc,o5,o6]=.ok (.nx [Z<|pS nm cs rs ids,Z<|.int n,Z<|.tup x,Z rd,Z<|.dct<|sj<|acc++out,c,b])/\out.map IF=a.map IF/\∀q∈out,tI (B+1) q.2:=bb (fun acc o5 o6 _ _ _=>⟨[],o5,o6,by rw[agh];rfl,rfl,fun q d=>nomatch d⟩) fun q r y acc o5 o6 d nd hln=>by
  obtain⟨l,f,o⟩:=d q ∅;obtain⟨k,m,p⟩:=mj (nm:=nm) (n:=n) h hB f l o;obtain⟨g,s,v⟩:=RV (n:=n) i (iy f) hB p;have j:q.1∉acc.map IF:=fun z=>by
   rw[RW,Do,ahN]at nd;exact nd.2.2 _ z _ agl rfl
  refine Z33 (y (acc++[(q.1,g)]) (Z<|.str q.1) (Z k) (fun z hz=>d z<|mK _ hz) (by simpa using nd) (by simp at hln⊢;lia)) fun out c b e u w=>?_;refine⟨(q.1,g)::out,c,b,?_,by rw[Do,Do,u],fun z hz=>?_⟩
  .have t:aex (ahu [Z<|pS nm cs rs ids,Z<|.int n,Z<|.tup x,Z rd,Z<|.dct<|sj acc,o5,o6] 5<|Z<|.str q.1)=.ok (.nx [Z<|pS nm cs rs ids,Z<|.int n,Z<|.tup x,Z rd,Z<|.dct<|sj<|acc++[(q.1,g)],Z<|.str q.1,Z k]):=by
    rw[<-wW j];exact(ag<|am<|ai (ac rfl #[2]) m).trans (nX rfl (ai (ac rfl (ac (af rfl (ai (ac (xj rfl (by
      rfl)) (ac rfl rfl)) (gB f)) (BK i (iy f))) (ac rfl rfl))) s) rfl rfl (by unfold sj;rw[iF];lia))
   rw[Do,aV t,e,af4];rfl
  grind
theorem Dr(h:φ Uq0=.ok (.dcf kvs)):Ce φ Uq0=.ok (kvs.map fun q=>pI q.1):=by unfold Ce;rw[h];rfl
theorem zC(ids:List<|Str×D):(sj ids).map (fun q=>pI q.1)=ids.map fun q=>D.str q.1:=by unfold sj;rw[af8];rfl
theorem Hn(h:TbOk B cs rs ids)(c:RowOk cs.length x)(k:rs.length<=600)(j:ids.length<=100)(hB:B<40):
  ∃ids',mz [pS nm cs rs ids,.int n,.tup x]=.ok (pS nm cs (qc rs n x) ids')/\ids'.map IF=ids.map IF/\TbOk (B+1) cs (qc rs n x) ids':=by
 obtain⟨out,o5,o6,e,d,b⟩:=CU (nm:=nm) (ids:=ids) (n:=n) (x:=x) h.r c hB ids [] L L (fun q a=>⟨zF h.nd a,h.i q a⟩) (by simpa using h.nd) (by simp;lia);refine⟨out,?_,d,(by
   have f:=v6 h.r n x;refine⟨?_,fun q a=>?_⟩
   .refine(f.map IF).nodup_iff.mpr ?_;rw[Do,agc];refine⟨fun z=>?_,(uL h.r n).nd⟩;obtain⟨q,a,e⟩:=rW.mp z;exact Hd rs n q a e
   .rcases oR.mp (f.mem_iff.mp a)with rfl|z
    .exact c
    .exact(uL h.r n).r q z),by rw[d];exact h.nd,fun q a=>⟨?_,b q a⟩⟩
 .refine ao (((ag<|nX rfl rfl rfl rfl (by unfold fX;rw[iF];lia)).trans ?_));rw[Kr];refine((ag<|bE ((Dr rfl).trans<|by rw[zC]) e).trans ?_);rfl
 .have:q.1∈ids.map IF:=by grind
  obtain⟨z,hz,g⟩:=rW.mp this;rw[<-g];exact(h.i z hz).1
theorem map_two{β:Type}{rest:Sd}(u v f:β->D)(xs:List β)(h:∀x∈xs,ε (Z (u x)::Z (v x)::rest)=.ok (f x))(a:xs.length<=1000):bS (.tup [0,1]) nL ε (L::L::rest) (xs.map fun x=>D.tup [u x,v x])=.ok (.lst<|xs.map f):=by
 refine n4 rfl (by grind) ?_;clear a;induction xs with
 |nil=>rfl
 |cons x r c=>
  have h1:=h x ∅;have b:=c fun y hy=>h y<|mK _ hy;show(ε<|(u x)::(v x)::rest).bind _=_;rw[h1,b];rfl
theorem Hs(h:φ Uq0=.ok (.dcf kvs)):xX φ Uq0=.ok (kvs.map fun q=>D.tup [pI q.1,q.2]):=by unfold xX;rw[h];rfl
theorem BF(a:List zD):(fX a).map (fun q=>D.tup [pI q.1,q.2])=a.map fun q=>D.tup [.int q.1,.tup q.2]:=by unfold fX;rw[af8];rfl
theorem As(h:RsOk cs.length rs)(e:rs.length<=600)(a:c∈cs.map IF):oQ [pS nm cs rs ids,.str c]=.ok (.lst<|(rs.map<|eK<|nQ c cs).map au):=by
 rw[af8];refine ao ((ag<|am<|(gB a)).trans<|ar<|ba ((Hs rfl).trans<|by rw[BF])<|map_two (fun q  => D.int q.1) (fun q=>D.tup q.2) _ rs (fun q b=>?_)<|⊥);have d:=(h.r q b).at_<|iy a
 have:=(xH (n:=q.1) d.1).2.1
 show _=R.ok (au<|Uj (q.2.getD (nQ c cs) .non) q.1);rw[this];exact ay<|ac ((BK (h.r q b)<|iy a)) rfl
theorem tK(h:TbOk B cs rs ids)(hB:1<=B)(k:rs.length<=63)(n:ids.length<=100)(f:c∈cs.map IF)(hn:c∉ids.map IF):
  ∃d,jy [pS nm cs rs ids,.str c]=.ok (pS nm cs rs<|ids++[(c,d)])/\TbOk B cs rs (ids++[(c,d)]):=by
 refine Z23 (BU (xs:=rs.map<|eK<|nQ c cs) (YH h.r<|iy f) (by mright)) fun j d hb e l=>?_;refine⟨d,?_,h.r,?_,fun q g=>?_⟩
 .refine ao (((ag<|nX rfl (ai (ac ((As h.r (DO k<|∎) f)) rfl) e) rfl rfl (by unfold sj;rw[iF];lia)).trans ?_));rw[wW hn];rfl
 .rw[RW,ahN];refine⟨h.nd,∅,fun a o b hb m=>?_⟩;mright
 .rcases BY.mp g with z|z
  .exact h.i q z
  .obtain rfl:q=(c,d):=by simpa using z
   exact⟨f,j,DO hb hB,l⟩
def K3(z:Str):Prop:=∀c∈z.cps.toList,c∈tab
theorem Py.str(h:K3 z):Py 0<|.str z:=⟨.str z,rfl,afr z h,nE _⟩
theorem Hz(h:Vl 40 v):Py 0 v:=⟨QF v,BP h,(Er h).1,by rw[(Er h).2];exact nE _⟩
theorem Ri(h:RowOk m r):Py 1<|.tup r:=Py.tup fun d a=>Hz<|h.v d a
theorem PN{β:Type}(p:β->Bool)(xs:List β):zA [.lst<|xs.map fun x=>D.bl<|p x]=.ok (.bl<|xs.all p):=by
 rw[YR<|Dw p xs,List.all_map];rfl
theorem M2{β:Type}{Uq0 rest:Sd}(u:β->D)(p:β->Bool){xs:List β}(a:ι Uq0=.ok (xs.map u))(h:∀x∈xs,ε (Z (u x)::rest)=.ok (.bl<|p x))(b:xs.length<=1000)(c:autoParam (eD ix Uq0=L::rest) Xaz):aD zA (aj (bW ix ι (.one 0) nL ε) aA) Uq0=.ok (.bl<|xs.all p):=
 ai (ac (ba a<|by rw[c];exact cw u (fun x=>D.bl<|p x) xs h b) rfl) (PN p xs)
theorem abA{β:Type}{Uq0 rest:Sd}(u v:β->D)(p:β->Bool){xs:List β}(a:ι Uq0=.ok (xs.map fun x=>D.tup [u x,v x]))(h:∀x∈xs,ε (Z (u x)::Z (v x)::rest)=.ok (.bl<|p x))(b:xs.length<=1000)(c:autoParam (eD ix Uq0=L::L::rest) Xaz):aD zA (aj (bW ix ι (.tup [0,1]) nL ε) aA) Uq0=.ok (.bl<|xs.all p):=
 ai (ac (ba a<|by rw[c];exact map_two u v (fun x=>D.bl<|p x) xs h b) rfl) (PN p xs)
theorem Jy{r:R D}(h:r=.ok (.bl a))(e:a=b):r=.ok (.bl b):=by rw[h,e]
abbrev adv:Str:=afS "abcdefghijklmnopqrstuvwxyz"
noncomputable def al:alp:=adv.cps.toList
theorem Tf:al.length=26:=⊤
def Mm(i:Int):Nat:=al.getD (i%26).toNat 0
theorem Pp(i:Int):al[(i%26).toNat]?=Z (Mm i):=by
 have a:(i%26).toNat<al.length:=by rw[Tf];lia
 unfold Mm;mright
theorem QB(i:Int):atI adv.cps.toList (i%26)=Z (Mm i):=by
 have h:=bP<|Pp i;rw[show(((i%26).toNat))=i%26 by lia]at h;exact h
noncomputable def ws:alq:=["and","by","down","from","none","not","or","order","show","take"]
def aeA:List<|alp:=(ws++([("where":Str)]:alq)).map fun z=>z.cps.toList
def okN(z:Str):Bool:=!decide (z="where")&&!Gx (.str z) (ws.map V.str)
theorem R0(h:okN z=η):z.cps.toList∈aeA:=by
 unfold okN at h;by_cases e:z="where"
 .rw[e];decide +kernel
 .rw[alk e]at h;have h  := by simpa using h
  unfold Gx at h;rw[List.any_map,ajW]at h;obtain⟨y,hy,e⟩:=h;have e:(y==z)=U:=e;rw[beq_iff_eq]at e;rw[<-e];exact rW.mpr ⟨y,agy _ hy,rfl⟩
theorem gZ(a b:Str):(a++b).cps.toList=a.cps.toList++b.cps.toList:=by
 show(a.cps++b.cps).toList=_;simp
theorem x5(a b:Str):(a++b).length=a.length+b.length:=by
 rw[str_len,str_len,str_len,gZ,afR]
theorem P7(h:α Uq0=.ok ds)(a:g z ds=r):Z6 g (vC<|.str z) α Uq0=r:=by
 show(ad2 g _ _<|.str z)=_;rw[acC,h,ax,a]
theorem HS(f:Nat->Nat)(n:Nat)(hn:n<=1000):∃z:Str,ue "" [.lst<|(agj n).map fun(k:Nat)=>D.str ⟨#[f k]⟩]=.ok (.str z)/\z.cps.toList=(agj n).map f:=by
 have a:((agj n).map fun k=>(⟨#[f k]⟩:Str))=(((agj n).map f).map fun c=>⟨#[c]⟩):=by mright
 have b:(afS "").length=0:=⊤
 refine⟨_,Tr (strs_map (fun k=>(⟨#[f k]⟩))<|agj n)<|by rw[a,Fu,iF,agC];lia,?_⟩;rw[a,Bn]
theorem Zy(z:Str)(p:Nat):(nH z L<|Z (p:Int)).cps.toList=z.cps.toList.take p:=by
 unfold nH;rw[HT.gH,HT.lj];rw[str_len];mright
theorem VP(z:Str)(p:Nat):(nH z (Z (p:Int)) L).cps.toList=z.cps.toList.drop p:=by
 unfold nH;rw[HT.gH,HT.lj];rw[str_len];rcases Nat.le_total p z.cps.toList.length with h|h
 .rw[ahJ h,agW<|∅]
 mright
structure NmOk(y:Str):Prop where
 l0:1<=y.length
 l1:y.length<=8
 al:∀c∈y.cps.toList,c∈al
 ok:okN y=U
theorem wR(a b:Nat):(([a]:alp)<[b])↔a<b:=by
 constructor
 .intro h;cases h with
  |rel h=>exact h
  |cons h=>nofun
 .exact fun h=>List.Lex.rel h
theorem Zd:∀c∈al,97<=c/\c<=122:=⊤
theorem XT(c:Nat)(h:97<=c):IK (.str ⟨#[c]⟩) (.str "a")=.ok (.bl U):=by
 have b:(afS "a").cps.toList=[97]:=⊤
 rw[W0,b];simp only[wR];simp[h]
theorem XE(c:Nat)(h:c<=122):O6 (.str ⟨#[c]⟩) (.str "z")=.ok (.bl U):=by
 have a:(afS "z").cps.toList=[122]:=⊤
 rw[Y5,a];simp only[wR];simp[h]
theorem Cq(h:NmOk y):pX [.str y]=.ok (.bl U):=by
 rw[Fn,lZ];have i:=h.l1;have l0:=h.l0;have ne:¬y="":=fun e=>by
  rw[e]at l0;exact absurd l0 ⊤
 have b:bG (aJ cW (ak 0)<|vC<|.str "") [Z<|.str y]=.ok η:=aB<|af rfl rfl (i6.trans<|by rw[alk ne]);have d:bG (aJ Lz Re<|vC kW) [Z<|.str y]=.ok η:=aB<|af (bR rfl (Ql.trans<|ali<|⊥)) rfl (yX.trans<|by rw[alk<|⊥]);have f:lm (.str y) mx=.ok (.bl U):=by
  have:lm (.str y) mx=.ok (.bl<|!Gx (.str y) ((ws++[("where":Str)]).map V.str)):=rfl
  rw[this];have a:=h.ok;unfold okN at a;rw[afU]at a;obtain⟨k1,k2⟩:=a;unfold Gx at k2⊢;rw[RW,List.any_append];have k1:¬y="where":=by simpa using k1
  have k2:((ws.map V.str).any fun z=>L2.eqV z<|.str y)=η:=by simpa using k2
  rw[k2]
  have:([("where":Str)].map V.str).any (fun z=>L2.eqV z<|.str y)=η:=by
   show(("where"==y)||false)=η
   lia
  rw[this];rfl
 exact ao ((skip<|(n9 b d)).trans (ar (fc (Jy (M2 (fun c  => D.str ⟨#[c]⟩) (fun _=>U) rfl (fun c g=>((fun h=>by
   obtain⟨h1,h2⟩:=Zd c h;exact ao (ar (fc ((XT c h1)) ((XE c h2))))) (h.al c g))) (by rw[<-str_len];lia)) ∅) (f))))
def Kd(z:Str):Prop:=z="number"\/z="text"
structure Sh(nm:Str)(cs:List (Str×Str)):Prop where
 n:NmOk nm
 l0:1<=cs.length
 l1:cs.length<=8
 nd:(cs.map IF).Nodup
 c:∀q∈cs,NmOk q.1/\Kd q.2
theorem Nn{ks:alq}(h:ks.Nodup):jz ks=ks:=by
 have key:∀n,jz (ks.take n)=ks.take n:=by
  intro n;induction n with
  |zero=>rfl
  |succ n a=>
   rcases ajp n ks.length with hn|hn
   .rw[agq hn,lJ,a,alj fun z=>?_]
    have:=(akN (n+1) ks)
    rw[agq hn]at this
    grind
   .rw[agW<|⊥]at a⊢;exact a
 have:=key ks.length
 rwa [aiZ]at this
theorem Me{zs:alq}(h:zs.length<=100)(a:zs.Nodup):lM [.lst<|zs.map D.str]=.ok (.int (zs.length:Int)):=by
 have:lM [.lst<|zs.map D.str]=.ok (.int<|(jz zs).length):=by
  unfold lM;dsimp only;rw[((strs_map (fun z=>z) zs).trans<|by rw[aiS])]
  lia
 rw[this,Nn a]
section
theorem Sh.cols(h:Sh nm cs):iK [.tup<|cs.map b6]=.ok (.bl U):=by
 rw[vi,fJ];have l0:=h.l0;have l1:=h.l1;have b:∀{Uq0:Sd},aD c8 (aj (ak 0) aA) (Z (.tup<|cs.map b6)::Uq0)=.ok (.int (cs.length:Int)):=bR rfl (kP _ _);have f:bW [L] (gE<|ak 0) (.one 0) nL (uI 0 0) [Z<|.tup<|cs.map b6,L]=.ok (.lst<|(cs.map IF).map D.str):=by
  rw[af8];exact(cw b6 _ cs (fun q a=>af rfl rfl bp)<|⊥)
 refine ao ((skip<|n9 rfl (n9 (aB<|af b rfl (E7.trans<|by rw[alk<|⊥]))<|aB<|af b rfl (yX.trans<|by grind))).trans ((skip (oY (cK (Jy (M2 b6 (fun _=>U) rfl (fun q a=>((fun h=>by
   have d:jf [.str q.2]=.ok (.bl U):=by
    rcases h.2 with e|e<;>rw[e]<;>kernel_rfl
   exact ao (ar (fc rfl (fc ((Cq h.1)) (d))))) (h.c q a))) ⊥) ∅) rfl))).trans ((ag (am f)).trans (ar ?_))))
 exact af ((Me (by grind) h.nd)) rfl (ij.trans<|by mright)
theorem Sh.ok(h:Sh nm cs):sT [BL nm cs]=.ok (.bl U):=by
 exact ao<|ar<|fc rfl (fc ((Cq h.n))<|h.cols)
end
structure Gv(kd:Str)(x:D):Prop where
 v:Vl 40 x
 f:kN [x,.str kd]=.ok (.bl U)
theorem abg(e:a.cps.toList=[n])(h:n<=c):IK (.str ⟨#[c]⟩) (.str a)=.ok (.bl U):=by
 rw[W0,e];simp only[wR];simp[h]
theorem aaQ(e:a.cps.toList=[n])(h:c<=n):O6 (.str ⟨#[c]⟩) (.str a)=.ok (.bl U):=by
 rw[Y5,e];simp only[wR];simp[h]
theorem Rb:∀c∈tab,32<=c/\c<=126:=⊤
theorem fk(hn:Nk v .non=.ok (.bl η))(a:Vl 100 v)(c:uv [v]=.ok (.bl U))(hb:decide (kw (kx v)=kd)=b):kN [v,.str kd]=.ok (.bl b):=by
 exact ao<|ar<|PH (hn)<|fc (c)<|af ((kind a)) rfl (i6.trans<|by rw[hb])
theorem nR(lo:Int)(n:Nat):bK lo (n+1)=.int lo::bK (lo+1) n:=by
 unfold bK;rw[List.range_succ_eq_map,Do,af8];refine congr (∅) (agM fun k _=>?_);show D.int (lo+((k+1)))=_;lia
theorem Ks(h:-1000000000000000000<a/\a<1000000000000000000):Gv "number"<|.int a:=
 have hv  := Jy (by
   rfl) ((by split<;>lia))
 ⟨af2,fk rfl af2 hv rfl⟩
theorem Km(h:Vl 40<|.str z):Gv "text"<|.str z:=
 ⟨h,fk rfl (h.mono<|∎) ((by
   have b:=h.1;refine ao (bB ((ar (fc (af (((ali ⊥))) rfl (WO.trans (by grind))) (Jy (M2 (fun c  => D.str ⟨#[c]⟩) (fun _=>U) rfl (fun c a=>?_) (by rw[<-str_len];lia)) ∅)))));obtain⟨h1,h2⟩:=Rb c (h.2 c a);exact ao (ar (fc ((abg rfl h1)) ((aaQ rfl h2)))))) rfl⟩
structure RowG(cs:List (Str×Str))(r:aly):Prop where
 len:r.length=cs.length
 v:∀p∈r.zip cs,Gv p.2.2 p.1
theorem RowG.ok(h:RowG cs r):RowOk cs.length r:=⟨h.len,fun v b=>by
 obtain⟨i,a,e⟩:=ai3.mp b;have c:i<cs.length:=by rw[<-h.len];exact a
 rw[<-e];exact(h.v (r[i],cs[i]) (ai3.mpr ⟨i,by grind,by mright⟩)).v⟩
section
theorem zU:∀(r:aly)(cs:List<|Str×Str),iB r (cs.map b6)=(r.zip cs).map fun q=>D.tup [q.1,b6 q.2]
 |[],_=>by simp[iB]
 |_::_,[]=>by simp[iB]
 |a::r,c::cs=>by
  have:=zU r cs
  unfold iB at this⊢;simp[this]
theorem RowG.fits(h:RowG cs r)(b:cs.length<=100):Ja [BL nm cs,.tup r]=.ok (.bl U):=by
 have q:acI [(BL nm cs),Z<|.tup r,Z<|.tup<|cs.map b6]=.ok η:=
  n9 rfl (aB<|af rfl ((kP _ _)) (XW.trans<|by rw[h.len,alm rfl];rfl))
 refine ao<|((skip q).trans<|ar<|Jy (abA (fun q:D×Str×Str=>q.1) (fun q=>b6 q.2) (fun _=>U) ?_ (fun q a=>(h.v q a).f)<|by grind)<|∅);rw[Vz,(ac rfl rfl),ax,VM rfl rfl,zU]
end
abbrev SB:FS:=abu
noncomputable def Ad:Nat->Int->Int->List Int
 |0,_,_=>[]
 |n+1,x,k=>((x*48271+11+k)%2147483647)::Ad n ((x*48271+11+k)%2147483647) (k+1)
theorem i0:∀(n:Nat)(x k:Int),(Ad n x k).length=n:=bi (fun _ _=>rfl) fun n i x k=>by rw[Ad,afW,i]
theorem xZ:∀(n:Nat)(x k:Int),∀y∈Ad n x k,0<=y/\y<2147483647:=bi (fun _ _ y h=>nomatch h) fun n i x k y h=>by
  rcases oR.mp h with rfl|h
  .exact⟨agZ _<|∎,ahf _<|∎⟩
  .exact i _ _ y h
theorem DX:∀(n:Nat)(x k:Int)(acc:List Int)(o4:Option D),acc.length+n<1000->∃d c,bm (.one 4) SB (bK k n) [Z a,Z b,Z<|.lst<|acc.map D.int,Z<|.int x,o4]=.ok (.nx [Z a,Z b,Z<|.lst<|(acc++Ad n x k).map D.int,d,c]):=bi (fun x k acc o4 _=>⟨_,o4,by rw[Ad,agh];rfl⟩) fun n i x k acc o4 h=>by
  obtain⟨d,c,e⟩:=i ((x*48271+11+k)%2147483647) (k+1) (acc++[(x*48271+11+k)%2147483647]) (Z<|.int k) (by simp;lia);refine⟨d,c,?_⟩;have t:SB (ahu [a,b,Z<|.lst<|acc.map D.int,Z<|.int x,o4] 4<|Z<|.int k)=.ok (.nx [a,b,Z<|.lst<|(acc++[(x*48271+11+k)%2147483647]).map D.int,Z<|.int<|(x*48271+11+k)%2147483647,Z<|.int k]):=by
   rw[RW];exact(ag<|am<|aw (bC (bC (gV rfl rfl) rfl) rfl) rfl).trans<|cP rfl rfl (by grind)
  rw[nR,aV t,e,af4];rfl
def uR(c:Int)(n:Nat):List Int:=Ad n (c%2147483647) 0
theorem nY(c:Int)(n:Nat)(hn:n<900):jD [.int c,.int (n:Int)]=.ok (.lst<|(uR c n).map D.int):=by
 obtain⟨d,o4,e⟩:=DX (a:=.int c) (b:=.int (n:Int)) n (c%2147483647) 0 [] L (by simp;lia);rw[AB,gQ];exact ao<|(ag<|gg<|aX rfl).trans<|(ag<|am<|aw rfl rfl).trans<|(ag<|bE (lg rfl ⊥) e).trans rfl
theorem Tv(c:Int)(h:i<n):∃y,(uR c n)[i]?=Z y/\0<=y/\y<2147483647:=by
 have a:i<(uR c n).length:=by unfold uR;rw[i0];exact h
 exact⟨_,lE a,xZ _ _ _ _<|afV a⟩
def Qf(x:Int):alp:=(agj (1+x%6).toNat).map fun(j:Nat)=>Mm<|x/7+(0+(j:Int))*(0+(j:Int))*5
def aah(x:Int):Nat:=(x/11%(((Qf x).length:Int)+1)).toNat
def UJ(x k:Int):alp:=(Qf x).take (aah x)++113::(Qf x).drop (aah x)++[Mm<|x/13+k]
def u4(x k:Int):Str:=⟨(UJ x k).toArray⟩
theorem Ie(x:Int):((Qf x).length:Int)=1+x%6:=by unfold Qf;grind
theorem AE(x k:Int):((UJ x k).length:Int)=3+x%6:=by
 have:=Ie x
 unfold UJ;simp;lia
theorem KC(x k:Int):tX [.int x,.int k]=.ok (.str<|u4 x k):=by
 rw[JM,oG];obtain⟨n,en,hn⟩:∃n:Nat,1+x%6=(n:Int)/\n<=6:=⟨(1+x%6).toNat,⊥,⊥⟩;obtain⟨z,h,b⟩:=HS (fun j=>Mm<|x/7+(0+(j:Int))*(0+(j:Int))*5) n ⊥;have a:z.cps.toList=Qf x:=by rw[b];unfold Qf;rw[en];rfl
 have l:z.length=n:=by rw[str_len,b,iF,agC]
 have i:Z6 ue (vC<|.str "") (aj acx aA) [Z<|.int x,Z<|.int k,Z<|.str "abcdefghijklmnopqrstuvwxyz",L,L]=.ok (.str z):=by
  refine P7 (ac (ba (lg (n:=n) ((bC rfl (aw rfl rfl)).trans<|by rw[en])<|⊥)<|cw _ _ _ (fun j c=>?_)<|by rw[agC];lia) rfl) h;have c:=agO.mp c;exact af rfl (aw (bC (bf rfl rfl)<|gV (gV rfl rfl ⊥) rfl) rfl) (Mv ⊤<|QB _)
 obtain⟨p,d⟩:∃p:Nat,x/11%((n:Int)+1)=(p:Int):=⟨(x/11%((n:Int)+1)).toNat,by have:=agZ (x/11) (show((n:Int)+1)≠0 by lia);lia⟩;have g:aJ mf (aJ rg (ak 0)<|vC<|.int 11) Yf [Z<|.int x,Z<|.int k,Z<|.str "abcdefghijklmnopqrstuvwxyz",Z<|.str z,L]=.ok (.int (p:Int)):=
  (aw (bf rfl rfl) (bC (bR rfl (Ql.trans<|ali<|⊥)) rfl)<|⊥).trans (by rw[l,d])
 have l1:=rN z L<|Z (p:Int);have l2:=rN z (Z (p:Int)) L;have m:(afS "q").length=1:=⊤
 have l3:(⟨#[Mm<|x/13+k]⟩:Str).length=1:=rfl;refine ao<|(ag<|am rfl).trans<|(ag<|am i).trans<|(ag<|am g).trans<|ar<|(af (af (af (cF rfl rfl (a9 rfl) (X4.trans<|ali<|⊥)) rfl (Jp.trans<|ali<|⊥)) (cF rfl (a9 rfl) rfl (X4.trans<|ali<|⊥))<|Jp.trans<|ali<|by rw[x5];lia) (af rfl (aw (bC (bf rfl rfl) rfl) rfl) (Mv ⊤<|QB _))<|Jp.trans<|ali<|by rw[x5,x5];lia).trans ?_;congr 2;apply C0
 have e:(afS "q").cps.toList=[113]:=⊤
 have f:aah x=p:=by unfold aah;rw[Ie,en,d];rfl
 rw[gZ,gZ,gZ,Zy,VP,e,a];unfold u4 UJ;rw[f];simp
theorem KY(i:Int):Mm i∈al:=agm<|Pp i
theorem DJ(x k:Int):(u4 x k).cps.toList=UJ x k:=by simp[u4]
theorem Qz(x k:Int):NmOk<|u4 x k:=by
 have b:=AE x k;refine⟨by rw[str_len,DJ];lia,by rw[str_len,DJ];lia,fun c a=>(fun h=>by
   have hb:∀c∈Qf x,c∈al:=fun c a=>by
    obtain⟨j,_,rfl⟩:=rW.mp a;exact KY _
   rcases BY.mp h with h|h
   .rcases BY.mp h with h|h
    .exact hb c (ag8 h)
    .rcases oR.mp h with h|h
     .rw[h];decide +kernel
     grind
   .rw[acB.mp h];exact KY _) (by assumption),?_⟩
 cases e:okN (u4 x k)with
 |true=>rfl
 |false=>
  have h:=R0 e;rw[DJ]at h
  have:∀w∈aeA,113∉w:=⊤
  exact absurd (by unfold UJ;simp)<|this _ h
theorem TD:∀a<26,∀d<26,0<d->al.getD ((a+d)%26) 0≠al.getD a 0:=⊤
theorem JL{i j:Nat}(h:i<j)(a:j<26):u4 x i≠u4 x j:=fun e=>by
 have e:=alo (fun y  => y.cps.toList) e;have e:=(List.append_inj' e rfl).2;have k:=TD ((x/13+i)%26).toNat ⊥ (j-i) ⊥ ⊥;unfold Mm at e
 grind
theorem GT:u4 x k≠u4 (x+1) l:=fun e=>by
 have e:=alo (fun y  => y.cps.toList.length) e;simp only[DJ]at e;have h1:=AE x k;have h2:=AE (x+1) l;lia
abbrev PM:Str:=afS " !\"#$&'()*+,-./09:;<=>?@AZ[\\]^_`abyz{|}~"
noncomputable def so:alp:=PM.cps.toList
theorem Rg:so.length=40:=⊤
def U3(i:Int):Nat:=so.getD (i%40).toNat 0
theorem PQ(i:Int):so[(i%40).toNat]?=Z (U3 i):=by
 have a:(i%40).toNat<so.length:=by rw[Rg];lia
 unfold U3;mright
theorem U5(i:Int):atI PM.cps.toList (i%40)=Z (U3 i):=by
 have h:=bP<|PQ i;rw[show(((i%40).toNat))=i%40 by lia]at h;exact h
theorem Wx(i:Int):U3 i∈tab:=by
 have:∀c∈so,c∈tab:=⊤
 exact this _<|agm<|PQ i
theorem acY(c:0<=i)(h1:i<6):∃z:Str,bw (.lst [.str "",.str "a",.str "ab",.str "b",.str "B",.str "a~"]) (.int i)=.ok (.str z)/\Vl 40 (.str z):=by
 have:i=0\/i=1\/i=2\/i=3\/i=4\/i=5:=⊥
 rcases this with rfl|rfl|rfl|rfl|rfl|rfl<;>exact⟨_,rfl,⊤,⊤⟩
theorem adh(e:0<=i)(h1:i<4):∃j:Int,bw (.lst [.int a,.int b,.int c,.int d]) (.int i)=.ok (.int j)/\(j=a\/j=b\/j=c\/j=d):=by
 have:i=0\/i=1\/i=2\/i=3:=⊥
 rcases this with rfl|rfl|rfl|rfl
 .exact⟨_,rfl,.inl rfl⟩
 .exact⟨_,rfl,.inr<|.inl rfl⟩
 .exact⟨_,rfl,.inr<|.inr<|.inl rfl⟩
 .exact⟨_,rfl,.inr<|.inr<|.inr rfl⟩
theorem gj(h1:φ Uq0=.ok (.str a))(h2:ψ Uq0=.ok (.str b)):bG (aJ cW φ ψ) Uq0=.ok (decide (a=b)):=aB<|af h1 h2 i6
theorem gv(h1:φ Uq0=.ok (.int i))(h2:ψ Uq0=.ok (.int j))(h:i=j):bG (aJ cW φ ψ) Uq0=.ok U:=(tf h1 h2).trans (by mright)
theorem dI(h1:φ Uq0=.ok (.int i))(h2:ψ Uq0=.ok (.int j))(h:¬i=j):bG (aJ cW φ ψ) Uq0=.ok η:=(tf h1 h2).trans (by mright)
theorem Qq(h1:φ Uq0=.ok (.str i))(h2:ψ Uq0=.ok (.str j))(h:i=j):bG (aJ cW φ ψ) Uq0=.ok U:=(gj h1 h2).trans (by mright)
theorem DU(h1:φ Uq0=.ok (.str i))(h2:ψ Uq0=.ok (.str j))(h:¬i=j):bG (aJ cW φ ψ) Uq0=.ok η:=(gj h1 h2).trans (by mright)
theorem Af(u:0<=x)(h1:x<2147483647)(o:Kd kd):∃v,i5 [.int x,.str kd]=.ok v/\Gv kd v:=by
 rw[FP,l7];have h:∀T:FS,aW (b8 2<|vC<|.str PM) T [Z<|.int x,Z<|.str kd,L,L]=T [Z<|.int x,Z<|.str kd,Z<|.str PM,L]:=fun T=>ag<|am rfl;have w:∀{j:Int},Td [Z<|.int x,Z<|.str kd,Z<|.str PM,L]=.ok (.int<|x%6):=aw rfl rfl;by_cases l:x%6=0
 .exact⟨.non,ao<|(h _).trans<|bB<|(aK<|gv (aw rfl rfl) rfl l).trans<|ar rfl,(⟨af2,by
    rfl⟩)⟩
 have g:∀{A T:FS},aW (gM (bG<|aJ cW Td<|vC<|.int 0) A br) T [Z<|.int x,Z<|.str kd,Z<|.str PM,L]=T [Z<|.int x,Z<|.str kd,Z<|.str PM,L]:=skip<|dI (aw rfl rfl) rfl l;rcases o with rfl|rfl
 .have nt:∀{Uq0:Sd},bG Xp (Z (.int x)::Z (.str "number")::Uq0)=.ok η:=DU rfl rfl ⊤;by_cases f:x%6=5
  .obtain⟨j,r,e⟩:=adh (a:=1000000000000000000-1) (b:=1-1000000000000000000) (c:=1000000000000000000-2) (d:=x*x*48271%(2*1000000000000000000-1)-(1000000000000000000-1)) (show 0<=x/6%4 by lia) ⊥;have q:ab4 [Z<|.int x,Z<|.str "number",Z<|.str PM,L]=.ok (.int<|x*x*48271%(2*1000000000000000000-1)-(1000000000000000000-1)):=
    iC (aw (gV (gV rfl rfl ⟨⊥,⊥⟩) rfl)<|iC (gV rfl zt) rfl) (iC zt rfl)
   refine⟨.int j,ao<|(h _).trans<|g.trans<|(skip<|hU nt).trans<|(skip nt).trans<|bB<|(aK<|gv (aw rfl rfl) rfl f).trans<|(ag<|am q).trans<|ar<|af (aX<|ac (iC zt rfl)<|ac (iC rfl zt)<|ac (iC zt rfl)<|ac rfl rfl) #[14] r,Ks ?_⟩;have p:0<=x*x*48271%(2*1000000000000000000-1):=agZ _ ∎;have s:x*x*48271%(2*1000000000000000000-1)<2*1000000000000000000-1:=ahf _ ∎;generalize x*x*48271%(2*1000000000000000000-1)=t at p s e;rcases e with rfl|rfl|rfl|rfl<;>constructor<;>lia
  .exact⟨.int<|x/6%4-1,ao<|(h _).trans<|g.trans<|(skip<|hU nt).trans<|(skip nt).trans<|(skip<|dI (aw rfl rfl) rfl f).trans<|ar<|iC #[14] rfl,Ks ⟨⊥,⊥⟩⟩
 .have nt:∀{Uq0:Sd},bG Xp (Z (.int x)::Z (.str "text")::Uq0)=.ok U:=Qq rfl rfl rfl;by_cases f:x%6=5
  .obtain⟨n,en,hn⟩:∃n:Nat,x/6%41=(n:Int)/\n<=40:=⟨(x/6%41).toNat,⊥,⊥⟩;obtain⟨z,i,k⟩:=HS (fun j=>U3<|x/7+(0+(j:Int))*(0+(j:Int))*13) n ⊥;refine⟨.str z,ao<|(h _).trans<|g.trans<|bB<|(aK<|gO nt<|gv (aw rfl rfl) rfl f).trans<|ar<|P7 (ac (ba (lg (n:=n) ((aw (bf rfl rfl) rfl).trans<|by rw[en])<|⊥)<|cw _ _ _ (fun j e=>?_)<|by rw[agC];lia) rfl) i,Km ⟨by rw[str_len,k,iF,agC];exact hn,fun c m=>?_⟩⟩
   .have e:=agO.mp e;exact af rfl (aw (bC (bf rfl rfl)<|gV (gV rfl rfl ⊥) rfl) rfl) (Mv ⊤<|U5 _)
   .rw[k]at m;obtain⟨j,_,rfl⟩:=rW.mp m;exact Wx _
  .obtain⟨z,i,hz⟩:=acY (show 0<=x/6%6 by lia) ⊥;exact⟨.str z,ao<|(g.trans<|(skip<|gO nt<|dI rfl rfl f).trans<|bB<|(ar<|i)),Km hz⟩
def lv(x:Int)(kd:Str):D:=match i5 [.int x,.str kd]with
 |.ok v=>v
 |_=>.non
theorem oh(b:0<=x)(h1:x<2147483647)(a:Kd kd):i5 [.int x,.str kd]=.ok (lv x kd)/\Gv kd (lv x kd):=by
 obtain⟨v,e,g⟩:=Af b h1 a
 have:lv x kd=v:=by unfold lv;rw[e]
 rw[this];exact⟨e,g⟩
noncomputable def kf(ys:List Int)(j:Nat):Str:=if ys.getD (3+j) 0%3=2 then "text"else "number"
theorem XV(ys:List Int)(j:Nat):Kd<|kf ys j:=by unfold kf;split;exact .inr rfl;exact .inl rfl
def yf(ys:List Int)(n:Nat):List<|Str×Str:=(agj n).map fun(j:Nat)=>(u4 (ys.getD 1 0) (j:Int),kf ys j)
noncomputable def Dp(ys:List Int):Nat:=(1+ys.getD 2 0%(if ys.getD 2 0/24%4=3 then 8 else 3)).toNat
theorem G2(ys:List Int):1<=Dp ys/\Dp ys<=8:=by
 unfold Dp;split<;>constructor<;>lia
theorem wx(ys:List Int)(n:Nat):(yf ys n).length=n:=by unfold yf;mright
theorem T7(x k:Int):Sh (u4 x k)<|yf ys<|Dp ys:=by
 have h:=G2 ys;refine⟨Qz _ _,by rw[wx];exact h.1,by rw[wx];exact h.2,?_,fun q c=>?_⟩
 .unfold yf;rw[af8,List.nodup_iff_pairwise_ne,List.pairwise_map];refine List.pairwise_lt_range.imp_of_mem fun{a b}ha hb hab=>?_;have hb:=agO.mp hb;exact JL hab ⊥
 .obtain⟨j,_,rfl⟩:=rW.mp c;exact⟨Qz _ _,XV _ _⟩
theorem cU{ys:List Int}(h:i<ys.length):bw (.lst<|ys.map D.int) (.int (i:Int))=.ok (.int<|ys.getD i 0):=by
 have e  := lE h;rw[ag9,e];exact kB _ _ e
abbrev adH:FS:=abC
theorem ab7:bw (.lst [.str "number",.str "number",.str "text"]) (.int<|i%3)=.ok (.str<|if i%3=2 then "text"else "number"):=by
 have:i%3=0\/i%3=1\/i%3=2:=⊥
 rcases this with e|e|e<;>rw[e]<;>rfl
theorem CK(hy:ys.length=16):∀(n j:Nat)(o3:Option D),j+n<=8->∃a,bm (.one 3) adH (bK (j:Int) n) [Z<|.lst<|ys.map D.int,Z kk,Z<|.lst<|(yf ys j).map b6,o3]=.ok (.nx [Z<|.lst<|ys.map D.int,Z kk,Z<|.lst<|(yf ys<|j+n).map b6,a]):=bi (fun j o3 _=>⟨o3,rfl⟩) fun n i j o3 h=>by
  obtain⟨a,e⟩:=i (j+1) (Z<|.int (j:Int)) ⊥;refine⟨a,?_⟩;have b:yf ys (j+1)=yf ys j++[(u4 (ys.getD 1 0) (j:Int),kf ys j)]:=by unfold yf;rw[List.range_succ,RW];rfl
  have t:adH (ahu [Z<|.lst<|ys.map D.int,kk,Z<|.lst<|(yf ys j).map b6,o3] 3<|Z<|.int j)=.ok (.nx [Z<|.lst<|ys.map D.int,kk,Z<|.lst<|(yf ys<|j+1).map b6,Z<|.int j]):=by
   rw[b,RW];refine cP rfl (ay<|ac (ai (ac ((cU<|⊥)) rfl)<|KC _ _)<|ac (af rfl (aw (af rfl rfl (by exact cU<|⊥)) rfl) ab7) rfl) (by rw[iF,wx];lia)
  rw[nR,aV t]
  have:(j:Int)+1=((j+1:Nat)):=by rfl
  rw[this,e,Nat.add_assoc,Nat.add_comm 1 n]
theorem ac2:bw (.lst [.int 3,.int 3,.int 3,.int 8]) (.int<|i%4)=.ok (.int<|if i%4=3 then 8 else 3):=by
 have:i%4=0\/i%4=1\/i%4=2\/i%4=3:=⊥
 rcases this with e|e|e|e<;>rw[e]<;>rfl
theorem MM(hy:ys.length=16)(k:Int):vR [.lst<|ys.map D.int,.int k]=.ok (BL (u4 (ys.getD 0 0) k)<|yf ys<|Dp ys):=by
 obtain⟨o3,e⟩:=CK hy (Dp ys) 0 L (by have:=(G2 ys).2;lia);rw[aiP]at e;have hn:1+ys.getD 2 0%(if ys.getD 2 0/24%4=3 then 8 else 3)=(Dp ys):=by unfold Dp;split<;>lia
 refine ao<|((ag<|bE (lg ?_<|⊥) e).trans<|ar<|ay<|ac (ai (ac ((cU<|⊥)) rfl)<|KC _ _) rfl);rw[<-hn];exact bC rfl (aw ((cU<|⊥)) (af rfl (aw (bf ((cU<|⊥)) rfl) rfl) ac2)<|by split<;>decide)
def Gy(x:Int)(cs:List<|Str×Str):aly:=(agj cs.length).map fun c=>lv ((uR x cs.length).getD c 0) (cs.getD c ("","")).2
theorem D0{nm:Str}{cs:List<|Str×Str}(h:Sh nm cs)(x:Int):xS [.int x,BL nm cs]=.ok (.tup<|Gy x cs)/\RowG cs (Gy x cs):=by
 have l1:=h.l1;have key:∀c<cs.length,Kd (cs.getD c ("","")).2/\0<=(uR x cs.length).getD c 0/\(uR x cs.length).getD c 0<2147483647/\cs[c]?=Z (cs.getD c ("","")):=fun c a=>by
  obtain⟨y,e,j,d⟩:=Tv x (n:=cs.length) a;have i:cs[c]?=Z cs[c]:=lE a;rw[ag9,i,ag9,e];exact⟨(h.c _<|afV a).2,j,d,rfl⟩
 have g:(uR x cs.length).length=cs.length:=i0 _ _ _;refine⟨?_,?_,fun p m=>?_⟩
 .rw[No,rT];have f:aD c8 (aj aap aA) [Z<|.int x,Z<|BL nm cs,L]=.ok (.int (cs.length:Int)):=bR #[22]<|kP _ _;refine ao<|(ag<|am<|ai (ac rfl (ac f rfl))<|nY _ _<|⊥).trans<|ar<|ai (ac (ba (lg (n:=cs.length) (bR #[22]<|kP _ _)<|⊥) ?_) rfl) qL;rw[ub];refine cw _ _ _ (fun c a=>?_) (by rw[agC];lia);have a:=agO.mp a;refine Z04 (key c a) fun k1 k2 k3 k4=>?_;exact ai (ac (af rfl rfl (cU<|by rw[g];exact a))<|ac (af (af #[22] rfl (JH _ _ k4)) rfl bx) rfl) (oh k2 k3 k1).1
 .unfold Gy;rw[iF,agC]
 .obtain⟨c,a,e⟩:=ai3.mp m;have b:c<cs.length:=by rw[List.length_zip]at a;lia
  obtain⟨k1,k2,k3,k4⟩:=key c b;rw[List.getElem_zip]at e;have l:cs[c]=cs.getD c ("",""):=by rw[lE b]at k4;exact ahd k4
  have hr:c<(Gy x cs).length:=by unfold Gy;rw[iF,agC];exact b
  have k:(Gy x cs)[c]=lv ((uR x cs.length).getD c 0) (cs.getD c ("","")).2:=by
   have q:(Gy x cs)[c]?=Z (lv ((uR x cs.length).getD c 0) (cs.getD c ("","")).2):=by unfold Gy;rw[agH,List.getElem?_range b];rfl
   grind
  rw[<-e,l,k];exact(oh k2 k3 k1).2
abbrev afq:FS:=acE
theorem Cv(h:RsOk cs.length rs)(hB:B<40):
  ∀(a acc:List<|Str×D)(o4:Option D),(∀q∈a,j3 ids q.1=Z q.2/\q.1∈cs.map IF/\tI B q.2)->((acc++a).map IF).Nodup->acc.length+a.length<1000 ->
   ∃(out:List<|Str×D)(b:Option D),bm (.one 4) afq (a.map fun q=>D.str q.1) [Z<|pS nm cs rs ids,Z<|.int n,Z rd,Z<|.dct<|sj acc,o4]=.ok (.nx [Z<|pS nm cs rs ids,Z<|.int n,Z rd,Z<|.dct<|sj<|acc++out,b])/\out.map IF=a.map IF/\∀q∈out,tI B q.2:=bb (fun acc o4 _ _ _=>⟨[],o4,by rw[agh];rfl,rfl,fun q c=>nomatch c⟩) fun q r p acc o4 c nd hln=>by
  obtain⟨g,l,j⟩:=c q ∅;obtain⟨f,i,m⟩:=mj (nm:=nm) (n:=n) h hB l g j;have d:q.1∉acc.map IF:=fun z=>by
   rw[RW,Do,ahN]at nd;exact nd.2.2 _ z _ agl rfl
  refine Z23 (p (acc++[(q.1,f)]) (Z<|.str q.1) (fun z hz=>c z<|mK _ hz) (by simpa using nd) (by simp at hln⊢;lia)) fun out b e k o=>?_;refine⟨(q.1,f)::out,b,?_,by rw[Do,Do,k],fun z hz=>?_⟩
  .have t:afq (ahu [Z<|pS nm cs rs ids,Z<|.int n,Z rd,Z<|.dct<|sj acc,o4] 4<|Z<|.str q.1)=.ok (.nx [Z<|pS nm cs rs ids,Z<|.int n,rd,Z<|.dct<|sj<|acc++[(q.1,f)],Z<|.str q.1]):=by
    rw[<-wW d];exact nX rfl (i) rfl rfl (by unfold sj;rw[iF];lia)
   rw[Do,aV t,e,af4];rfl
  grind
theorem zS(h:TbOk B cs rs ids)(hn:(c6 rs n).isSome=U)(g:rs.length<=600)(f:ids.length<=100)(hB:B<40):
  ∃ids',iA [pS nm cs rs ids,.int n]=.ok (pS nm cs (ji rs n) ids')/\ids'.map IF=ids.map IF/\TbOk B cs (ji rs n) ids':=by
 obtain⟨out,o4,e,c,b⟩:=Cv h.r hB ids [] L (fun q a=>⟨zF h.nd a,h.i q a⟩) (by simpa using h.nd) (by simp;lia);refine⟨out,?_,c,uL h.r n,by rw[c];exact h.nd,fun q a=>⟨?_,b q a⟩⟩
 .refine ao (((ag<|Oq rfl rfl rfl (by rw[kM];grind)).trans ?_));rw[EW];refine((ag<|bE ((Dr rfl).trans<|by rw[zC]) e).trans ?_);rfl
 .have:q.1∈ids.map IF:=by grind
  obtain⟨z,hz,d⟩:=rW.mp this;rw[<-d];exact(h.i z hz).1
theorem MR(h:φ Uq0=.ok d):EA φ Uq0=.ok (.nx Uq0):=by unfold EA;rw[h];rfl
section
theorem jC(a:kvs.length<1000):oV [.dcf kvs,.str n,d]=.ok (.dcf<|eF kvs (.inr n) d):=by
 exact ao<|((ag<|nX rfl rfl rfl rfl a).trans rfl)
theorem Bx(h:bV kvs (.inr n)=Z d):AN (.dcf kvs) (.str n)=.ok d:=by
 show(match bV kvs (.inr n)with|some d=>R.ok d|none=>.no)=_
 rw[h]
theorem Uo:oW (.str n) (.dcf kvs)=.ok (.bl<|!(bV kvs<|.inr n).isSome):=rfl
theorem CG:Fe (.str n) (.dcf kvs)=.ok (.bl (bV kvs<|.inr n).isSome):=rfl
theorem sy(h:bV kvs (.inr n)=Z d):uG [.dcf kvs,.str n]=.ok d:=by
 exact ao<|(skip<|n9 rfl (aB<|(Uo.trans<|by rw[h];rfl))).trans<|ar<|(Bx h)
theorem Az(h:Sh nm cs)(hn:bV kvs (.inr nm)=L)(a:kvs.length<1000):eh [.dcf kvs,BL nm cs]=.ok (.dcf<|eF kvs (.inr nm)<|pS nm cs [] []):=by
 exact ao<|(skip<|oY<|cK (h.ok) rfl).trans<|(skip<|aB<|(CG.trans<|by rw[hn];rfl)).trans<|ar<|(jC a)
theorem uD(h:1<=m/\m<=1000000000):j0 [.int m]=.ok (.bl U):=by
 exact ao<|ar<|fc rfl (fc rfl (fc ((ZP.trans<|by mright))<|(WO.trans<|by mright)))
theorem IC{m:Int}{x:aly}{t:D}(hs:Sh nm cs)(d:bV kvs (.inr nm)=Z (pS nm cs rs ids))(b:kvs.length<1000)(c:1<=m/\m<=1000000000)(a:RowG cs x)(e:mz [pS nm cs rs ids,.int m,.tup x]=.ok t):di [.dcf kvs,.str nm,.int m,.tup x]=.ok (.dcf<|eF kvs (.inr nm) t):=by
 rw[pD,dh];exact ao<|(ag<|am<|ai #[2]<|sy d).trans<|(skip<|oY<|cK (ai (ac rfl rfl)<|uD c) rfl).trans<|(skip<|oY<|cK ((a.fits (by have:=hs.l1;lia))) rfl).trans<|ar<|ai (ac rfl (ac rfl (ac (e) rfl)))<|jC b
theorem DA{c:Str}{t:D}(d:bV kvs (.inr nm)=Z (pS nm cs rs ids))(b:kvs.length<1000)(a:c∈cs.map IF)(hn:c∉ids.map IF)(e:jy [pS nm cs rs ids,.str c]=.ok t):cr [.dcf kvs,.str nm,.str c]=.ok (.dcf<|eF kvs (.inr nm) t):=by
 rw[mU,cj];exact ao<|(ag<|am<|ai #[2]<|sy d).trans<|(skip<|(aB<|af ((gB a)) rfl rfl)).trans<|(skip<|aB<|(CG.trans<|by rw[rO,tp hn];rfl)).trans<|ar<|ai (ac rfl (ac rfl (ac (e) rfl)))<|jC b
theorem Ga{m:Int}{t:D}(c:bV kvs (.inr nm)=Z (pS nm cs rs ids))(hn:(c6 rs m).isSome=U)(a:kvs.length<1000)(b:1<=m/\m<=1000000000)(e:iA [pS nm cs rs ids,.int m]=.ok t):dE [.dcf kvs,.str nm,.int m]=.ok (.dcf<|eF kvs (.inr nm) t):=by
 have d:gn [pS nm cs rs ids,.int m]=.ok .non:=by
  rw[rj,cD,gt];have q:abO [Z<|pS nm cs rs ids,Z<|.int m]=.ok η:=n9 (oY<|cK ((uD b)) rfl)<|aB<|(uQ.trans<|by rw[hn];rfl);rw[bt q];rfl
 exact ao<|(ag<|am<|(sy c)).trans<|(ag<|MR<|d).trans<|ar<|ai (ac rfl (ac rfl (ac (e) rfl)))<|jC a
end
theorem J3(h:eh [st,sh]=.ok d):eI [st,.tup [.str "table",sh]]=.ok d:=by
 exact ao<|(ag<|am rfl).trans<|bB<|(aK rfl).trans<|ar<|h
theorem y6(h:cr [st,a,b]=.ok d):eI [st,.tup [.str "index",a,b]]=.ok d:=by
 exact ao<|(ag<|am rfl).trans<|(skip rfl).trans<|bB<|(aK rfl).trans<|ar<|h
theorem Tx(h:di [st,a,b,c]=.ok d):eI [st,.tup [.str "put",a,b,c]]=.ok d:=by
 exact ao<|(ag<|am rfl).trans<|(skip rfl).trans<|(skip rfl).trans<|bB<|(aK rfl).trans<|ar<|h
theorem MA(h:dE [st,a,b]=.ok d):eI [st,.tup [.str "drop",a,b]]=.ok d:=by
 exact ao<|(ag<|am rfl).trans<|(skip rfl).trans<|(skip rfl).trans<|(skip rfl).trans<|ar<|h
structure Tq where
 nm:Str
 cs:List<|Str×Str
 rs:List zD
 ids:List<|Str×D
def Tq.d(q:Tq):D:=pS q.nm q.cs q.rs q.ids
def dg(s:List Tq):List<|Key×D:=s.map fun q=>(Key.inr q.nm,q.d)
def Nw(s:List Tq)(nm:Str):Prop:=∀q∈s,q.nm≠nm
section
variable{q:Tq}
theorem wL(h:Nw s nm):bV (dg s) (.inr nm)=L:=by
 unfold bV dg;rw[ajr.mpr fun x a=>?_]
 .rfl
 .obtain⟨z,hz,rfl⟩:=rW.mp a;simpa using h z hz
theorem rJ(s t:List Tq):dg (s++t)=dg s++dg t:=RW
theorem val_last(h:Nw s q.nm):bV (dg<|s++[q]) (.inr q.nm)=Z q.d:=by
 have hn:=wL h;unfold bV at hn⊢;rw[rJ,List.find?_append,aj1.mp hn];simp[dg]
theorem Ox(h:Nw s q.nm):eF (dg s) (.inr q.nm) q.d=dg (s++[q]):=by
 unfold eF;rw[wL h,rJ];rfl
theorem uC(h:Nw s q.nm)(e:q'.nm=q.nm):eF (dg<|s++[q]) (.inr q.nm) q'.d=dg (s++[q']):=by
 unfold eF;rw[val_last h,ali (show(Z q.d).isSome=U from rfl),rJ,rJ,RW];congr 1
 .conv=>rhs;rw[<-alb (dg s)]
  apply agM
  intro x a;obtain⟨z,hz,rfl⟩:=rW.mp a;rw[alj<|by simpa using h z hz];rfl
 .simp[dg,e]
end
theorem ul(s:List Tq):(dg s).length=s.length:=iF _
def aac(q:Tq):D:=.tup [.str "table",BL q.nm q.cs]
def nK(nm c:Str):D:=.tup [.str "index",.str nm,.str c]
noncomputable def jb(nm:Str)(p:Int×aly):D:=.tup [.str "put",.str nm,.int p.1,.tup p.2]
def Zi(nm:Str)(n:Int):D:=.tup [.str "drop",.str nm,.int n]
def vI(s:List Tq):List<|Str×Str:=s.flatMap fun q=>q.ids.map fun p=>(q.nm,p.1)
theorem oO(s t:List Tq):vI (s++t)=vI s++vI t:=List.flatMap_append
noncomputable def Gf:D->List (Str×Str)
 |.tup [.str w,.str n,.str c]=>if w="index"then[(n,c)]else[]
 |_=>[]
def abK(x:D):Prop:=∃w r,x=.tup (.str w::r)/\((w="index"/\∃n c,r=[.str n,.str c])\/(¬w="index"/\Gf x=[]))
structure St1(s:List Tq)(x:D)(s':List Tq):Prop where
 c:eI [.dcf<|dg s,x]=.ok (.dcf<|dg s')
 k:vI s'=vI s++Gf x
 w:abK x
inductive Go:List Tq->aly->List Tq->Prop where
 |nil (s:List Tq):Go s [] s
 |cons {s s1 s2:List Tq} {x:D} {xs:aly}:St1 s x s1->Go s1 xs s2->Go s (x::xs) s2
theorem Go.app(h:Go s xs s1)(g:Go s1 ys s2):Go s (xs++ys) s2:=by
 induction h with
 |nil=>exact g
 |cons e _ a=>exact .cons e<|a g
theorem N5(h:Go s xs s'):∀o3:Option D,∃d,bm (.one 3) aeV xs [Z a,Z b,Z<|.dcf<|dg s,o3]=.ok (.nx [Z a,Z b,Z<|.dcf<|dg s',d]):=by
 induction h with
 |nil s=>exact fun o3=>⟨o3,rfl⟩
 |cons e _ i=>
  rename_i s f j x xs _;intro o3;obtain⟨o,g⟩:=i<|x;refine⟨o,?_⟩;have t:aeV (ahu [a,b,Z<|.dcf<|dg s,o3] 3<|x)=.ok (.nx [a,b,Z<|.dcf<|dg f,x]):=am<|e.c;rw[aV t];exact g
theorem zX(h:Go s xs s'):mv [.dcf<|dg s,.lst xs]=.ok (.dcf<|dg s'):=by
 obtain⟨o,e⟩:=N5 h L;exact ao<|((ag<|e).trans rfl)
theorem OB(h:Go s xs s'):vI s'=vI s++xs.flatMap Gf:=by
 induction h with
 |nil=>simp
 |cons e _ a=>rw[a,e.k];simp
theorem adi(h:Go s xs s'):∀x∈xs,abK x:=by
 induction h with
 |nil=>simp
 |cons e _ b=>intro x a;rcases oR.mp a with rfl|a;exact e.w;exact b x a
structure TOk(B:Nat)(q:Tq):Prop where
 sh:Sh q.nm q.cs
 t:TbOk B q.cs q.rs q.ids
 lr:q.rs.length<=40
 li:q.ids.length<=20
theorem T4(hs:Sh q.nm q.cs)(hr:q.rs=[])(a:q.ids=[])(hn:Nw s q.nm)(c:s.length<500):St1 s (aac q)<|s++[q]:=by
 have b:q.d=pS q.nm q.cs [] []:=by unfold Tq.d;rw[hr,a]
 refine⟨(J3<|Az hs (wL hn)<|by rw[ul];lia).trans<|by rw[<-b,Ox hn],?_,_,_,rfl,.inr ⟨⊤,rfl⟩⟩;rw[oO];simp[vI,a,aac,Gf]
abbrev S1(q:Tq)(x:D)(q':Tq):Prop:=∀s,Nw s q.nm->s.length<500->St1 (s++[q]) x (s++[q'])
theorem YM(h:TOk B q)(hB:1<=B)(a:c∈q.cs.map IF)(hn:c∉q.ids.map IF)(f:q.ids.length<20):∃d,TOk B {q with ids:=q.ids++[(c,d)]}/\S1 q (nK q.nm c) {q with ids:=q.ids++[(c,d)]}:=by
 obtain⟨d,e,b⟩:=tK h.t hB (by have:=h.lr;lia) ⊥ a hn;refine⟨d,⟨h.sh,b,h.lr,by simp;lia⟩,fun s hs g=>⟨?_,?_,_,_,rfl,.inl ⟨rfl,_,_,rfl⟩⟩⟩
 .refine(y6<|DA (val_last hs) (by rw[ul];simp;lia) a hn e).trans ?_;rw[<-uC (q':={q with ids:=q.ids++[(c,d)]}) hs rfl];rfl
 .rw[oO,oO];simp[vI,nK,Gf]
theorem yM{s:List Tq}{q:Tq}{b:List zD}{a:List<|Str×D}(e:a.map IF=q.ids.map IF):vI (s++[{q with rs:=b,ids:=a}])=vI (s++[q])++[]:=by
 rw[oO,oO,agh];congr 1;have h:=alo (List.map fun c=>(q.nm,c)) e;rw[af8,af8]at h;unfold vI;rw[aj2,aj2];exact h
theorem RG(h:TOk B q)(hB:B<40)(f:1<=m/\m<=1000000000)(d:RowG q.cs x)(hr:(qc q.rs m x).length<=40):∃a,a.map IF=q.ids.map IF/\TOk (B+1) {q with rs:=qc q.rs m x,ids:=a}/\S1 q (jb q.nm (m,x)) {q with rs:=qc q.rs m x,ids:=a}:=by
 obtain⟨a,e,c,g⟩:=Hn h.t d.ok (by have:=h.lr;lia) (by have:=h.li;lia) hB;have b:a.length=q.ids.length:=by rw[<-iF,c,iF]
 refine⟨a,c,⟨h.sh,g,hr,by rw[b];exact h.li⟩,fun s hs i=>⟨?_,?_,_,_,rfl,.inr ⟨⊤,rfl⟩⟩⟩
 .refine(Tx<|IC h.sh (val_last hs) (by rw[ul];simp;lia) f d e).trans ?_;rw[<-uC (q':={q with rs:=qc q.rs m x,ids:=a}) hs rfl];rfl
 .exact yM c
theorem Mu(h:TOk B q)(hB:B<40)(d:1<=m/\m<=1000000000)(hn:(c6 q.rs m).isSome=U):∃a,a.map IF=q.ids.map IF/\TOk B {q with rs:=ji q.rs m,ids:=a}/\S1 q (Zi q.nm m) {q with rs:=ji q.rs m,ids:=a}:=by
 obtain⟨a,e,c,f⟩:=zS h.t hn (by have:=h.lr;lia) (by have:=h.li;lia) hB;have b:a.length=q.ids.length:=by rw[<-iF,c,iF]
 refine⟨a,c,⟨h.sh,f,DO (agr _ _) h.lr,by rw[b];exact h.li⟩,fun s hs g=>⟨?_,?_,_,_,rfl,.inr ⟨⊤,rfl⟩⟩⟩
 .refine(MA<|Ga (val_last hs) hn (by rw[ul];simp;lia) d e).trans ?_;rw[<-uC (q':={q with rs:=ji q.rs m,ids:=a}) hs rfl];rfl
 .exact yM c
abbrev SG(q:Tq)(xs:aly)(q':Tq):Prop:=q'.nm=q.nm/\q'.cs=q.cs/\∀s,Nw s q.nm->s.length<500->Go (s++[q]) xs (s++[q'])
theorem SG.nil(q:Tq):SG q [] q:=⟨rfl,rfl,fun s _ _=>.nil _⟩
theorem SG.one(h:S1 q x q')(b:q'.nm=q.nm)(c:q'.cs=q.cs):SG q [x] q':=⟨b,c,fun s hs a=>.cons (h s hs a)<|.nil _⟩
theorem SG.app(h:SG q xs q1)(g:SG q1 ys q2):SG q (xs++ys) q2:=⟨g.1.trans h.1,g.2.1.trans h.2.1,fun s hs a=>(h.2.2 s hs a).app<|g.2.2 s (by rw[h.1];exact hs) a⟩
theorem AC(hB:1<=B):∀(ys:alq){q:Tq},TOk B q->(∀c∈ys,c∈q.cs.map IF/\c∉q.ids.map IF)->ys.Nodup->q.ids.length+ys.length<=20->∃q',TOk B q'/\SG q (ys.map<|nK q.nm) q'/\q'.rs=q.rs/\q'.ids.map IF=q.ids.map IF++ys:=bb (@fun q h _ _ _=>⟨q,h,.nil q,rfl,by grind⟩) fun c r i=>@fun q h hc nd hl=>by
  obtain⟨d,h1,g1⟩:=YM h hB (hc c<|∅).1 (hc c<|∅).2 (by simp at hl;lia);rw[agc]at nd;refine Z14 (i h1 (fun z hz=>⟨(hc z<|mK _ hz).1,fun w=>by
   grind⟩) nd.2 (by grind)) fun q' h2 g2 a b=>?_
  refine⟨q',h2,?_,a,by rw[b];simp⟩;exact(SG.one g1 rfl rfl).app g2
theorem vq(h:(c6 rs m).isSome=U\/m=n):(c6 (qc rs n x) m).isSome=U:=by
 have key:∀l , (c6 l m).isSome=U↔∃q∈l,q.1=m:=fun l=>by
  unfold c6;mright
 rw[key]at h⊢;unfold qc;split
 .rename_i hs;have hs:∃q∈rs,q.1=n:=by
   unfold c6 at hs;mright
  obtain⟨q,a,e⟩:∃q∈rs,q.1=m:=by
   rcases h with h|h
   .exact h
   .rw[h];exact hs
  refine⟨_,rW.mpr ⟨q,a,rfl⟩,?_⟩;split<;>exact e
 .rcases h with⟨q,a,e⟩|e
  .exact⟨q,agy _ a,e⟩
  mright
theorem DT:∀(ps:List<|Int×aly){q:Tq}{B:Nat},TOk B q->B+ps.length<=40->(∀p∈ps,(1<=p.1/\p.1<=1000000000)/\RowG q.cs p.2)->q.rs.length+ps.length<=40->∃q',TOk (B+ps.length) q'/\SG q (ps.map<|jb q.nm) q'/\q'.ids.map IF=q.ids.map IF/\q'.rs.length<=q.rs.length+ps.length/\∀m,((c6 q.rs m).isSome=U\/∃p∈ps,p.1=m)->(c6 q'.rs m).isSome=U:=bb (@fun q B h _ _ _=>⟨q,h,.nil q,rfl,nE _,fun m a=>a.elim id fun⟨_,b,_⟩=>nomatch b⟩) fun p r j=>@fun q B h hB b hl=>by
  have g:=Il h.t.r p.1 p.2;refine Z13 (RG h (by simp at hB;lia) (b p<|∅).1 (b p<|∅).2 (by simp at hl;lia)) fun d f h1 g1=>?_;refine Z15 (j h1 (by simp at hB;lia) (fun z hz=>b z<|mK _ hz) (by simp at hl⊢;lia)) fun q' h2 g2 i c hs=>?_;refine⟨q',?_,?_,i.trans f,by simp at c⊢;lia,fun m a=>hs m ?_⟩
  .rw[afW,show B+(r.length+1)=B+1+r.length by lia];exact h2
  .rw[Do];exact(SG.one g1 rfl rfl).app g2
  .rcases a with a|⟨z,hz,e⟩
   .exact .inl (vq<|.inl a)
   .rcases oR.mp hz with rfl|hz
    .exact .inl (vq<|.inr e.symm)
    .grind
theorem HU(h:nC a b=.ok (.bl k)):cW a b=.ok (.bl<|!k):=by
 have h:d7 (jG a b) (fun k=>!k)=.ok (.bl k):=h;show d7 (jG a b) (fun k=>k)=_;cases e:jG a b with
 |none=>rw[e]at h;nofun
 |some c=>
  rw[e]at h;nofun;cases c<;>rfl
theorem kj(h:NmOk y):K3 y:=fun c a=>by
 have:∀c∈al,c∈tab:=⊤
 exact this c<|h.al c a
theorem Qt(h1:Py k a)(h2:Py k b)(f:Py k c):Py (k+1)<|.tup [a,b,c]:=Py.tup fun d e=>by
 simp at e;rcases e with rfl|rfl|rfl<;>assumption
theorem aaW(h1:Py k a)(h2:Py k b)(g:Py k c)(h:Py k e):Py (k+1)<|.tup [a,b,c,e]:=Py.tup fun d f=>by
 simp at f;rcases f with rfl|rfl|rfl|rfl<;>assumption
theorem Hx(h:(z.cps.toList.all fun c=>tab.contains c)=U):K3 z:=fun c a=>by
 have:=agz.mp h c a
 simpa using this
section
variable{nm:Str}{cs:List (Str×Str)}{ys:List Int}(hs:Sh nm cs)(hy:ys.length=16)
theorem VF(hn:NmOk nm)(a:NmOk c):Py 1<|nK nm c:=Qt (Py.str<|Hx rfl) (Py.str<|kj hn)<|Py.str<|kj a
abbrev Pd:FT:=abB
abbrev Po:FE:=YC
include hy in
theorem Dc:∀(l:List<|Str×Str)(j:Nat),j+l.length<1000->∃a:List<|Str×Str,a.Sublist l/\cV (.tup [0,1]) Pd Po [L,L,Z<|.tup [.str nm,P],Z<|.lst<|ys.map D.int] (aU j<|l.map b6)=.ok (a.map fun c=>nK nm c.1):=bb (fun _ _=>⟨[],.slnil,rfl⟩) fun c r k j hj=>by
  obtain⟨a,h1,h2⟩:=k (j+1) (by simp at hj;lia);have q:Pd [Z<|.int (j:Int),Z<|b6 c,Z<|.tup [.str nm,P],Z<|.lst<|ys.map D.int]=.ok (decide (ys.getD 4 0/((j:Int)+1)%3=0)):=tf (aw (bf (af rfl rfl (cU (i:=4)<|⊥)) (bC rfl rfl) ⟨by omega,by simp at hj;lia⟩) rfl) rfl;have z:Po [Z<|.int (j:Int),Z<|b6 c,Z<|.tup [.str nm,P],Z<|.lst<|ys.map D.int]=.ok (nK nm c.1):=ay<|ac rfl (ac #[17]<|ac #[17] rfl);have e:cV (.tup [0,1]) Pd Po [L,L,Z<|.tup [.str nm,P],Z<|.lst<|ys.map D.int] (aU j<|(c::r).map b6)=(Pd [Z<|.int (j:Int),Z<|b6 c,Z<|.tup [.str nm,P],Z<|.lst<|ys.map D.int]).bind fun b=>if b=U then(Po [Z<|.int (j:Int),Z<|b6 c,Z<|.tup [.str nm,P],Z<|.lst<|ys.map D.int]).bind fun y=>(cV (.tup [0,1]) Pd Po [L,L,Z<|.tup [.str nm,P],Z<|.lst<|ys.map D.int]<|aU (j+1)<|r.map b6).bind fun ys=>.ok (y::ys)else cV (.tup [0,1]) Pd Po [L,L,Z<|.tup [.str nm,P],Z<|.lst<|ys.map D.int] (aU (j+1)<|r.map b6):=rfl;rw[e,q,ax];by_cases d:ys.getD 4 0/((j:Int)+1)%3=0
  .rw[alm d,ali rfl,z,ax,h2,ax];exact⟨c::a,h1.cons_cons c,rfl⟩
  grind
abbrev pe(nm:Str)(cs:List<|Str×Str)(ys:List Int)(k most:Int)(o4 o5 o6 o7 o8 o9:Option D):Sd:=[Z<|BL nm cs,Z<|.lst<|ys.map D.int,Z<|.int k,Z<|.int most,o4,o5,o6,o7,o8,o9]
structure Cl(cs:List (Str×Str))(E:alq):Prop where
 nd:E.Nodup
 m:∀c∈E,c∈cs.map IF
 l:E.length<=8
include hs hy in
theorem LO:∃E:alq,Cl cs E/\∀T:FS,aW (b8 4<|bW [L,L,Z 0,Z 1] (cY<|aj UX aA) (.tup [0,1]) Pd Po) (aW abV T) (pe nm cs ys k most L L L L L L)=T (pe nm cs ys k most (Z<|.lst<|E.map<|nK nm) L L L L L):=by
 have l1:=hs.l1;obtain⟨a,h1,h2⟩:=Dc (nm:=nm) (P:=.tup<|cs.map b6) hy cs 0 ⊥;have d:bW [L,L,Z 0,Z 1] (cY<|aj UX aA) (.tup [0,1]) Pd Po (pe nm cs ys k most L L L L L L)=.ok (.lst<|a.map fun c=>nK nm c.1):=by
  refine ba (xs:=aU 0<|cs.map b6) ?_<|n4 rfl (by rw[gz,iF];lia) h2;rw[KU,ac #[22] rfl,ax];rfl
 have nd:(a.map IF).Nodup:=hs.nd.sublist<|h1.map _;have f:∀c∈a.map IF,c∈cs.map IF:=fun c b=>(h1.map _).subset b;have e:(a.map IF).length<=8:=by rw[iF];exact DO h1.length_le l1
 have g:a.map (fun c=>nK nm c.1)=(a.map IF).map (nK nm):=by rw[af8];rfl
 rw[g]at d;by_cases b:ys.getD 14 0%3=0
 .refine⟨(a.map IF).reverse,⟨(List.reverse_perm _).nodup_iff.mpr nd,fun c h=>f c<|List.mem_reverse.mp h,by rw[akv];exact e⟩,fun T=>?_⟩;refine(ag<|am d).trans<|ag<|(aK<|gv (aw (af rfl rfl (cU (i:=14)<|by omega)) rfl) rfl b).trans<|am ?_;rw[List.map_reverse];rfl
 .exact⟨a.map IF,⟨nd,f,e⟩,fun T=>(ag<|am d).trans<|skip<|dI (aw ((cU (i:=14)<|by omega)) rfl) rfl b⟩
abbrev aba:FT:=(jc (bG Yy)<|bG QO)
abbrev adr:FE:=ac4
include hs hy in
theorem Tc(u:Cl cs E):∃F:alq,Cl cs F/\(∀c∈F,c∉E)/\∀T:FS,aW (b8 5<|gm aA) (aW (gM aba (b8 5 adr) br) T) (pe nm cs ys k most (Z<|.lst<|E.map<|nK nm) L L L L L)=T (pe nm cs ys k most (Z<|.lst<|E.map<|nK nm) (Z<|.lst<|F.map<|nK nm) L L L L):=by
 have l0:=hs.l0;have b:∀{o:Option D},bG Yy (pe nm cs ys k most (Z<|.lst<|E.map<|nK nm) o L L L L)=.ok (decide (ys.getD 5 0%2=0)):=tf (aw (af rfl rfl (cU (i:=5)<|⊥)) rfl) rfl;have l:∀{o:Option D},bG QO (pe nm cs ys k most (Z<|.lst<|E.map<|nK nm) o L L L L)=.ok (!decide (0<(E.map<|nK nm).length)):=aB (af rfl (aX rfl) (HU (Py.nil ((fun d s=>by
   obtain⟨c,e,rfl⟩:=rW.mp s;obtain⟨q,t,rfl⟩:=rW.mp (u.m c e);exact VF hs.n (hs.c q t).1)) ∎)))
 have f:∀T:FS,aba (pe nm cs ys k most (Z<|.lst<|E.map<|nK nm) (Z<|.lst []) L L L L)=.ok η->∃F:alq,Cl cs F/\(∀c∈F,c∉E)/\∀T:FS,aW (b8 5<|gm aA) (aW (gM aba (b8 5 adr) br) T) (pe nm cs ys k most (Z<|.lst<|E.map<|nK nm) L L L L L)=T (pe nm cs ys k most (Z<|.lst<|E.map<|nK nm) (Z<|.lst<|F.map<|nK nm) L L L L):=fun _ h=>
  ⟨[],⟨agQ,(fun c h=>nomatch h),∎⟩,(fun c h=>nomatch h),fun T=>(ag<|am<|aX rfl).trans<|skip h⟩
 by_cases g:ys.getD 5 0%2=0
 .cases E with
  |cons a r=>exact f br (gO (b.trans<|by rw[alm g])<|l.trans<|by rw[alm<|∅];rfl)
  |nil=>
   obtain⟨p,v,j⟩:∃p:Nat,ys.getD 6 0%(cs.length:Int)=(p:Int)/\p<cs.length:=⟨(ys.getD 6 0%(cs.length:Int)).toNat,by have:=agZ (ys.getD 6 0) (show(cs.length:Int)≠0 by omega);lia,by have:=ahf (ys.getD 6 0) (show(0:Int)<cs.length by lia);have:=agZ (ys.getD 6 0) (show(cs.length:Int)≠0 by omega);lia⟩;refine⟨[cs[p].1],⟨∅,fun c e=>?_,∅⟩,(fun c _ h=>nomatch h),fun T=>?_⟩
   .rw[acB.mp e];exact rW.mpr ⟨_,afV j,rfl⟩
   .refine(ag<|am<|aX rfl).trans (ag<|(aK<|gO (b.trans<|by rw[alm g])<|l.trans rfl).trans<|am ?_);refine aX<|ac (ay<|ac rfl (ac rfl (ac (af (af rfl (aw ((cU (i:=6)<|⊥)) ((kP _ _))<|⊥) (by rw[v];exact JH _ _<|lE j)) rfl bp) rfl))) rfl
 .exact f br (hU<|b.trans<|⊥)
noncomputable def Am(ys:List Int)(k:Int)(j:Nat):Int:=1+k+3*(((j:Int)+ys.getD 8 0)*7%50)+999999800*(if decide (ys.getD 13 0%4=0)=U then 1 else 0)
abbrev PB:FS:=abe
def R6(ys:List Int)(k:Int)(cs:List<|Str×Str):Nat->List Int->List (Int×aly)
 |_,[]=>[]
 |j,z::r=>(Am ys k j,Gy z cs)::R6 ys k cs (j+1) r
theorem DP{k:Int}:∀(j:Nat)(zs:List Int),(R6 ys k cs j zs).length=zs.length
 |_,[]=>rfl
 |j,z::r=>by rw[R6,afW,DP,afW]
include hs in
theorem Kb(h:0<=k/\k<=2):∀(j:Nat)(zs:List Int),∀p∈R6 ys k cs j zs,(1<=p.1/\p.1<=1000000000)/\RowG cs p.2
 |_,[],p,hp=>nomatch hp
 |j,z::r,p,hp=>by
  rcases oR.mp hp with rfl|hp
  .exact⟨(by
     unfold Am;omega),(D0 hs z).2⟩
  .exact Kb h (j+1) r p hp
include hs hy in
theorem Iv:∀(zs:List Int)(j:Nat)(acc:List<|Int×aly)(o7 o8 o9:Option D),acc.length+zs.length<900->∃c b a,bm (.tup [7,8]) PB (aU j<|zs.map D.int) (pe nm cs ys k most o4 o5 (Z<|.lst<|acc.map<|jb nm) o7 o8 o9)=.ok (.nx<|pe nm cs ys k most o4 o5 (Z<|.lst<|(acc++R6 ys k cs j zs).map<|jb nm) c b a):=bb (fun j acc o7 o8 o9 _=>⟨o7,o8,o9,by rw[R6,agh];rfl⟩) fun z r m j acc o7 o8 o9 h=>by
  obtain⟨c,b,a,e⟩:=m (j+1) (acc++[(Am ys k j,Gy z cs)]) (Z<|.int (j:Int)) (Z<|.int z) (Z<|.int<|Am ys k j) (by simp at h⊢;lia);refine⟨c,b,a,?_⟩;have t:PB (pe nm cs ys k most o4 o5 (Z<|.lst<|acc.map<|jb nm) (Z<|.int (j:Int)) (Z<|.int z) o9)=.ok (.nx<|pe nm cs ys k most o4 o5 (Z<|.lst<|(acc++[(Am ys k j,Gy z cs)]).map<|jb nm) (Z<|.int (j:Int)) (Z<|.int z)<|Z<|.int<|Am ys k j):=by
   rw[RW];refine(ag<|am (d:=.int<|Am ys k j) ?_).trans<|cP rfl (ay<|ac rfl (ac #[17]<|ac rfl (ac (ai #[2] (D0 hs z).1) rfl))) (by grind);exact bC (bC rfl (af rfl (aw (gV (bC rfl ((cU (i:=8)<|⊥))) rfl) rfl) rfl))<|af rfl (ai (ac (af (aw ((cU (i:=13)<|⊥)) rfl) rfl ij) rfl) vT) rfl
  have f:=il (i:=7) (j:=8) (r:=aU (j+1)<|r.map D.int) (Uq0:=pe nm cs ys k most o4 o5 (Z<|.lst<|acc.map<|jb nm) o7 o8 o9) t;rw[Do,aU,f,e,af4];rfl
end
section
variable{ys:List Int}(hs:Sh nm cs)(hy:ys.length=16)
abbrev xA:FT:=ada
abbrev xB:FS:=aat
abbrev xC:FT:=Yl
abbrev xD:FS:=act
abbrev aeG(cs:List<|Str×Str)(p:Int×aly):Prop:=(1<=p.1/\p.1<=1000000000)/\RowG cs p.2
include hs hy in
theorem UD{ps:List<|Int×aly}(b:∀p∈ps,aeG cs p)(j:ps.length<=31):∃ps':List<|Int×aly,(∀p∈ps',aeG cs p)/\ps'.length<=ps.length+1/\∀T:FS,aW (gM xA xB br) T #[10]=T (pe nm cs ys k most o4 o5 (Z<|.lst<|ps'.map<|jb nm) o7 o8 o9):=by
 have a:bG (aJ nC (ak 6)<|gm aA) #[10]=.ok (decide (0<(ps.map<|jb nm).length)):=aB<|af rfl (aX rfl) (Py.nil (k:=2) (fun d g=>by obtain⟨p,h,rfl⟩:=rW.mp g;exact(fun hn h =>  aaW ((Py.str<|Hx rfl).mono<|∎) ((Py.str<|kj hn).mono<|∎) ((Py.int _).mono<|∎)<|Ri h.ok) hs.n (b p h).2)<|∎);have e:bG (aJ Lz X7<|vC<|.int 0) #[10]=.ok (decide (0<ys.getD 10 0%3)):=aB<|af (aw (af rfl rfl (cU (i:=10)<|⊥)) rfl) rfl yX;by_cases h1:0<ps.length
 .have a:=a.trans (by rw[alm<|by rw[iF];exact h1]);by_cases h2:0<ys.getD 10 0%3
  .have e:=e.trans (by rw[alm h2]);obtain⟨i,ei,f⟩:∃i:Nat,ys.getD 11 0%(ps.length:Int)=(i:Int)/\i<ps.length:=⟨(ys.getD 11 0%(ps.length:Int)).toNat,by have:=agZ (ys.getD 11 0) (show(ps.length:Int)≠0 by omega);lia,by have:=ahf (ys.getD 11 0) (show(0:Int)<ps.length by lia);have:=agZ (ys.getD 11 0) (show(ps.length:Int)≠0 by omega);lia⟩;have hg:=b ps[i]<|afV f;refine⟨ps++[(ps[i].1,Gy (ys.getD 12 0) cs)],fun p h=>?_,∅,fun T=>ag<|(aK<|gO a e).trans ?_⟩
   .rcases BY.mp h with h|h
    .exact b p h
    .rw[acB.mp h];exact⟨hg.1,(D0 hs _).2⟩
   .rw[RW];exact cP rfl (ay<|ac rfl (ac #[17]<|ac (af (af (c:=jb nm ps[i]) rfl (aw (af rfl rfl (cU (i:=11)<|⊥)) (bR rfl (im _ _))<|⊥) (by rw[ei];exact kB _ _<|lE f)) rfl dw)<|ac (ai (ac (af rfl rfl (cU (i:=12)<|⊥))<|ac rfl rfl) (D0 hs _).1) rfl)) (by grind)
  .exact⟨ps,b,by omega,fun T=>skip<|gO a<|e.trans<|by mright⟩
 .exact⟨ps,b,by omega,fun T=>skip<|hU<|a.trans<|by mright⟩
include hy in
theorem RQ{ps:List<|Int×aly}(c:ps.length<=40):∃dr:List Int,dr.length<=1/\(∀n∈dr,∃p∈ps,p.1=n)/\∀T:FS,aW (gM xC xD br) T #[10]=T (pe nm cs ys k most o4 o5 (Z<|.lst<|ps.map (jb nm)++dr.map (Zi nm)) o7 o8 o9):=by
 have b:xC #[10]=.ok η->∃dr:List Int,dr.length<=1/\(∀n∈dr,∃p∈ps,p.1=n)/\∀T:FS,aW (gM xC xD br) T #[10]=T (pe nm cs ys k most o4 o5 (Z<|.lst<|ps.map (jb nm)++dr.map (Zi nm)) o7 o8 o9):=fun h=>⟨[],∎,(fun n hn=>nomatch hn),fun T=>by rw[List.map_nil,agh];exact skip h⟩
 have a:bG WD #[10]=.ok (((2:Int)<ps.length)):=aB<|af ((im _ _)) rfl yX;by_cases h1:(2:Int)<ps.length
 .have a:=a.trans (by rw[alm h1]);by_cases h2:ys.getD 10 0%3=1
  .cases ps with
   |nil=>simp at h1
   |cons p r=>
    refine⟨[p.1],∅,fun n hn=>⟨p,∅,(acB.mp hn).symm⟩,fun T=>ag<|(aK<|gO a<|gv (aw ((cU (i:=10)<|⊥)) rfl) rfl h2).trans ?_⟩;exact cP rfl (ay<|ac rfl (ac rfl (ac (af ((xQ<|bP rfl)) rfl dw) rfl))) (by grind)
  .exact b (gO a<|dI (aw ((cU (i:=10)<|⊥)) rfl) rfl h2)
 .exact b (hU<|a.trans<|by mright)
structure QOk(q:Tq):Prop where
 sh:Sh q.nm q.cs
 r:RsOk q.cs.length q.rs
 l:q.rs.length<=40
 k:∃B,1<=B/\TOk B q
include hs hy in
theorem Jn{k most:Nat}(hk:k<=2)(hm:most<=30):∃ch q,mE [BL nm cs,.lst<|ys.map D.int,.int (k:Int),.int (most:Int)]=.ok (.lst ch)/\ch.length<=60/\SG ⟨nm,cs,[],[]⟩ ch q/\QOk q:=by
 obtain⟨E,d,S⟩:=LO hs hy (k:=(k:Int)) (most:=(most:Int));obtain⟨F,hF,C,e2⟩:=Tc hs hy (k:=(k:Int)) (most:=(most:Int)) d;obtain⟨m,X,N⟩:∃m:Nat,ys.getD 7 0%((most:Int)+1)=(m:Int)/\m<=most:=⟨(ys.getD 7 0%((most:Int)+1)).toNat,by have:=agZ (ys.getD 7 0) (show((most:Int)+1)≠0 by omega);omega,by have:=ahf (ys.getD 7 0) (show(0:Int)<(most:Int)+1 by omega);have:=agZ (ys.getD 7 0) (show((most:Int)+1)≠0 by omega);omega⟩;have j:(uR (ys.getD 9 0) m).length=m:=i0 _ _ _;obtain⟨o7,o8,o9,J⟩:=Iv hs hy (k:=(k:Int)) (most:=(most:Int)) (o4:=Z<|.lst<|E.map<|nK nm) (o5:=Z<|.lst<|F.map<|nK nm) (uR (ys.getD 9 0) m) 0 [] L L L (by rw[j];simp;omega);rw[ahO]at J;have B:=Kb (ys:=ys) hs (k:=(k:Int)) ⟨by omega,by omega⟩ 0<|uR (ys.getD 9 0) m;have hpl:(R6 ys (k:Int) cs 0<|uR (ys.getD 9 0) m).length=m:=by rw[DP,j]
 obtain⟨ps,o,T,e4⟩:=UD hs hy (k:=(k:Int)) (most:=(most:Int)) (o4:=Z<|.lst<|E.map<|nK nm) (o5:=Z<|.lst<|F.map<|nK nm) (o7:=o7) (o8:=o8) (o9:=o9) B #[24];obtain⟨y,M,f,R⟩:=RQ (nm:=nm) (cs:=cs) hy (k:=(k:Int)) (most:=(most:Int)) (o4:=Z<|.lst<|E.map<|nK nm) (o5:=Z<|.lst<|F.map<|nK nm) (o7:=o7) (o8:=o8) (o9:=o9) (ps:=ps) #[24];have Q:TOk 1 ⟨nm,cs,[],[]⟩:=⟨hs,⟨⟨agQ,(fun q x=>nomatch x)⟩,agQ,(fun q x=>nomatch x)⟩,acr _,acr _⟩
 obtain⟨q1,V,g1,r1,i1⟩:=AC ∎ E Q (fun c w=>⟨d.m c w,(fun h=>nomatch h)⟩) d.nd (by have:=d.l;simp;omega)
 obtain⟨g,K,g2,O,l2,W⟩:=DT ps V #[24] (fun p v=>by rw[g1.2.1];exact o p v) (by rw[r1];simp;omega);have gd:∃e,TOk (1+ps.length) e/\SG g (y.map<|Zi g.nm) e/\e.ids.map IF=g.ids.map IF:=by
  match y,M,f with
  |[],_,_=>exact⟨g,K,.nil g,rfl⟩
  |[n],_,f=>
   obtain⟨p,v,rfl⟩:=f n ∅;obtain⟨H,a,b,c⟩:=Mu K ⊥ (o p v).1<|W p.1<|.inr ⟨p,v,rfl⟩;exact⟨_,b,SG.one c rfl rfl,a⟩
 refine Z13 gd fun e P u i3=>?_;have en:g.nm=nm:=g2.1.trans g1.1;have z:e.nm=nm:=u.1.trans en;have A:e.cs=cs:=u.2.1.trans<|g2.2.1.trans g1.2.1;have G:e.ids.map IF=E:=by rw[i3,O,i1];rfl
 refine Z14 (AC #[24] F P (fun c w=>⟨by rw[A];exact hF.m c w,by rw[G];exact C c w⟩) hF.nd (by have:=alo List.length G;rw[iF]at this;have:=d.l;have:=hF.l;lia)) fun q4 s I r4 i4=>?_;refine⟨E.map (nK nm)++(ps.map (jb nm)++y.map (Zi nm))++F.map (nK nm),q4,?_,?_,?_,s.sh,s.t.r,s.lr,_,by omega,s⟩
 .rw[Bt,bZ];refine ao<|(S _).trans<|(e2 _).trans<|(ag<|gg<|aX rfl).trans<|(ag<|bE (xs:=aU 0<|(uR (ys.getD 9 0) m).map D.int) ?_ J).trans<|(e4 _).trans<|(R _).trans<|ar<|af (af rfl rfl (add_l.trans<|ali (by have:=d.l;simp;lia))) rfl (add_l.trans<|ali (by have:=d.l;have:=hF.l;simp;lia));rw[KU,ac (ai (ac (af rfl rfl (cU (i:=9)<|⊥))<|ac ((aw (af rfl rfl (cU (i:=7)<|⊥)) (bC rfl rfl)<|⊥).trans<|by rw[X]) rfl)<|nY _ m<|⊥) rfl,ax];rfl
 .have:=d.l
  have:=hF.l
  simp;lia
 .rw[<-af4];rw[g1.1]at g2;rw[en]at u;rw[z]at I;exact((g1.app g2).app u).app I
end
theorem v3(xs:aly)(k:Nat):hZ xs (Z (k:Int)) L=xs.drop k:=by
 unfold hZ;rw[HT.gH,HT.lj];rcases Nat.le_total k xs.length with h|h
 .rw[ahJ h,agW<|∅]
 mright
def je(q:Tq):D:=BL q.nm q.cs
abbrev LB:FS:=z6x
structure Ts(c:Int)(k:Nat)(qs:List Tq):Prop where
 l:qs.length=k
 o:∀q∈qs,QOk q
 n:∀q∈qs,∃(i:Nat)(a:Int),i<k/\(a=0\/a=1)/\q.nm=u4 (c/5+a) i
 nd:(qs.map Tq.nm).Nodup
theorem Ts.nw(h:Ts c k qs)(j:k<=20)(g:a=0\/a=1):Nw qs<|u4 (c/5+a) k:=fun q f e=>by
 obtain⟨i,b,d,hb,en⟩:=h.n q f;rw[en]at e;rcases g with rfl|rfl<;>rcases hb with rfl|rfl
 .exact JL d #[24] e
 .rw[Int.add_zero]at e;exact GT e.symm
 .rw[Int.add_zero]at e;exact GT e
 .exact JL d #[24] e
theorem DH{most:Nat}(E:most<=30):∀(n k:Nat)(qs:List Tq)(ch:aly)(o4 o5:Option D),k+n<=3->Ts c k qs->Go [] ch qs->ch.length<=61*k ->
  ∃f d m r,bm (.one 4) LB (bK (k:Int) n) [Z<|.int c,Z<|.int (most:Int),Z<|.lst ch,Z<|.lst<|qs.map je,o4,o5]=.ok (.nx [Z<|.int c,Z<|.int (most:Int),Z<|.lst d,Z<|.lst<|f.map je,m,r])/\Ts c (k+n) f/\Go [] d f/\d.length<=61*(k+n):=bi (fun k qs ch o4 o5 _ h g hl=>⟨qs,ch,o4,o5,rfl,h,g,hl⟩) fun n R k qs ch o4 o5 hk h g hl=>by
  have hz:(uR (c/3+11*(k:Int)) 16).length=16:=i0 _ _ _;generalize N:uR (c/3+11*(k:Int)) 16=zs at hz;obtain⟨a,M,B⟩:∃a:Int,zs.getD 0 0%2=a/\(a=0\/a=1):=⟨_,rfl,⊥⟩;have hw:(((c/5+a)::zs.drop 1):List Int).length=16:=by simp;omega
  generalize F:(((c/5+a)::zs.drop 1):List Int)=ws at hw;have H:ws.getD 0 0=c/5+a:=by rw[<-F];rfl
  have hs:Sh (u4 (c/5+a) (k:Int))<|yf ws<|Dp ws:=T7 _ _;have j:=MM hw (k:Int);rw[H]at j;refine Z24 (Jn hs hz (k:=k) (most:=most) ⊥ E) fun C q s K w qo=>?_;have nw:=h.nw ⊥ B;have en:q.nm=u4 (c/5+a) (k:Int):=w.1;have O:q.cs=yf ws (Dp ws):=w.2.1;have p:je q=BL (u4 (c/5+a) (k:Int)) (yf ws<|Dp ws):=by unfold je;rw[en,O]
  have h':Ts c (k+1)<|qs++[q]:=by
   refine⟨by simp[h.l],fun z hz=>?_,fun z hz=>?_,?_⟩
   .rcases BY.mp hz with hz|hz
    .exact h.o z hz
    .rw[acB.mp hz];exact qo
   .rcases BY.mp hz with hz|hz
    .refine Z22 (h.n z hz) fun i b Q hb=>?_;exact⟨i,b,⊥,hb⟩
    .rw[acB.mp hz];exact⟨k,a,⊥,B,en⟩
   .rw[RW,ahN];refine⟨h.nd,∅,fun x I y hy u=>?_⟩;obtain⟨z,hz,rfl⟩:=rW.mp I;simp at hy;rw[hy,en]at u;exact nw z hz u
  have g':Go [] (ch++[aac ⟨u4 (c/5+a) (k:Int),yf ws<|Dp ws,[],[]⟩]++C)<|qs++[q]:=by
   have A:qs.length<500:=by rw[h.l];lia
   exact(g.app<|.cons (T4 (q:=⟨u4 (c/5+a) (k:Int),yf ws<|Dp ws,[],[]⟩) hs rfl rfl nw A)<|.nil _).app<|w.2.2 qs nw A
  refine Z44 (R (k+1) (qs++[q]) _ (Z<|.int (k:Int)) (Z<|.lst<|zs.map D.int) ⊥ h' g' (by simp;lia)) fun f d m r e h2 g2 P=>?_;refine⟨f,d,m,r,?_,by rw[show k+(n+1)=k+1+n by lia];exact h2,g2,⊥⟩;have t:LB (ahu [Z<|.int c,Z<|.int (most:Int),Z<|.lst ch,Z<|.lst<|qs.map je,o4,o5] 4<|Z<|.int (k:Int))=.ok (.nx [Z<|.int c,Z<|.int (most:Int),Z<|.lst<|ch++[aac ⟨u4 (c/5+a) (k:Int),yf ws<|Dp ws,[],[]⟩]++C,Z<|.lst<|(qs++[q]).map je,Z<|.int (k:Int),Z<|.lst<|zs.map D.int]):=by
   have J:aD jD (aj ack<|aj (vC<|.int 16) aA) [Z<|.int c,Z<|.int (most:Int),Z<|.lst ch,Z<|.lst<|qs.map je,Z<|.int (k:Int),o5]=.ok (.lst<|zs.map D.int):=by
    rw[<-N];exact ai (ac (bC (bf rfl rfl)<|af rfl rfl (Zs<|∎))<|ac rfl rfl) (nY _ 16<|∎)
   have G:aJ eR aa5 WW [Z<|.int c,Z<|.int (most:Int),Z<|.lst ch,Z<|.lst<|qs.map je,Z<|.int (k:Int),Z<|.lst<|zs.map D.int]=.ok (.lst<|ws.map D.int):=by
    rw[<-F,Do,akH,<-v3,<-M];exact af (aX<|ac (bC (bf rfl rfl)<|aw (af rfl rfl (cU (i:=0)<|⊥)) rfl) rfl) (cF rfl (a9 rfl) rfl xU) (add_l.trans<|ali<|by rw[show((1:Int))=((1:Nat):Int)from rfl,v3];simp;lia)
   have v:bw (.lst<|(qs++[q]).map je) (.int (k:Int))=.ok (je q):=kB _ _ (by rw[<-h.l];simp);rw[RW]at v⊢;refine(ag<|am J).trans<|(ag<|cP rfl (ai (ac G<|ac rfl rfl)<|j.trans<|by rw[<-p]) (by rw[iF,h.l];lia)).trans<|am ?_;refine af (af rfl (aX<|ac (ay<|ac rfl (ac (af rfl rfl v) rfl)) rfl) (add_l.trans<|ali<|by simp;lia)) (ai (ac (af rfl rfl v)<|ac rfl #[2])<|by rw[p];exact s)<|(add_l.trans<|ali<|by simp;lia).trans ?_;rw[p];rfl
  rw[nR,aV t]
  assumption
theorem Fk(c:Int){most:Nat}(b:most<=30):∃qs ch n,qH [.int c,.int (most:Int)]=.ok (.tup [.lst<|qs.map je,.lst ch])/\Ts c n qs/\Go [] ch qs/\(1<=n/\n<=3)/\ch.length<=183:=by
 obtain⟨n,en,hn⟩:∃n:Nat,1+c%3=n/\1<=n/\n<=3:=⟨(1+c%3).toNat,⊥,⊥,⊥⟩;obtain⟨qs,ch,o4,o5,e,h,g,d⟩:=DH b n 0 [] [] L L ⊥ ⟨rfl,(fun q a=>nomatch a),(fun q a=>nomatch a),agQ⟩ (.nil _) ∅
 rw[aiP]at h;refine⟨qs,ch,n,?_,h,g,hn,⊥⟩;exact ao<|rfl.trans (((ag<|bE (lg ((bC rfl rfl).trans<|by rw[en])<|⊥) e).trans rfl))
inductive Sid where
 |val (v:D)
 |cel (k c:Nat)
noncomputable def Sid.d:Sid->D
 |.val v=>.tup [.str "value",v]
 |.cel k c=>.tup [.str "cell",.int (k:Int),.int (c:Int)]
set_option genInjectivity true in
inductive Cn where
 |test (sg:Str) (a b:Sid)
 |neg (c:Cn)
 |and (a b:Cn)
 |or (a b:Cn)
def Cn.d:Cn->D
 |.test sg a b=>.tup [.str "test",.str sg,a.d,b.d]
 |.neg c=>.tup [.str "not",c.d]
 |.and a b=>.tup [.str "and",a.d,b.d]
 |.or a b=>.tup [.str "or",a.d,b.d]
noncomputable def Cn.h:Cn->Nat
 |.test _ _ _=>2
 |.neg c=>c.h+1
 |.and a b=>max a.h b.h+1
 |.or a b=>max a.h b.h+1
noncomputable def Cn.n:Cn->Nat
 |.test _ _ _=>3
 |.neg c=>c.n+1
 |.and a b=>a.n+b.n+1
 |.or a b=>a.n+b.n+1
def pw:Option Cn->D
 |none=>.non
 |some c=>c.d
abbrev Wl:Type:=List<|alq
noncomputable def wD(W:Wl):D:=.lst<|W.map fun r=>.lst<|r.map D.str
structure WOk(W:Wl):Prop where
 l0:1<=W.length
 l1:W.length<=3
 r:∀r∈W,1<=r.length/\r.length<=8/\∀z∈r,Kd z
def i7(W:Wl):Sid->Prop
 |.val v=>Vl 40 v
 |.cel k c=>∃r,W[k]?=Z r/\c<r.length
def Sg(z:Str):Prop:=z="="\/z="<>"\/z="<"\/z="<="\/z=">"\/z=">="
def ia(W:Wl):Cn->Prop
 |.test sg a b=>Sg sg/\i7 W a/\i7 W b
 |.neg c=>ia W c
 |.and a b=>ia W a/\ia W b
 |.or a b=>ia W a/\ia W b
theorem ju(a:Int){n:Nat}(h:0<n):∃p:Nat,a%(n:Int)=(p:Int)/\p<n:=by
 have h1:=agZ a (show(n:Int)≠0 by lia);have h2:=ahf a (show(0:Int)<n by lia);exact⟨(a%n).toNat,⊥,⊥⟩
section
variable(hW:WOk W)
include hW
theorem BE(x:Int):∃k c r,i8 [.int x,wD W]=.ok (Sid.cel k c).d/\k<W.length/\W[k]?=Z r/\c<r.length:=by
 obtain⟨k,f,a⟩:=ju x (n:=W.length) (by have:=hW.l0;assumption);have hr:=hW.r _<|afV a;obtain⟨c,e,b⟩:=ju (x/8) (n:=W[k].length) ⊥;refine⟨k,c,W[k],?_,a,lE a,b⟩;have g:aJ mf (ak 0) OP [Z<|.int x,(wD W),L]=.ok (.int k):=(aw rfl ((im _ _)) ⊥).trans (by rw[f]);have h:aJ mf (aJ rg (ak 0)<|vC<|.int 8) Yt [Z<|.int x,(wD W),Z<|.int k]=.ok (.int c):=(aw rfl (bR ((kB _ _<|lE a))<|im _ _) ⊥).trans (by rw[e]);exact ao<|(ag<|am g).trans<|ar<|ay<|ac rfl (ac rfl (ac h rfl))
omit hW in
theorem sg8(a:0<=i)(h1:i<8):∃z:Str,bw (.lst [.str "=",.str "<>",.str "<",.str "<=",.str ">",.str ">=",.str "=",.str "="]) (.int i)=.ok (.str z)/\Sg z:=by
 have:i=0\/i=1\/i=2\/i=3\/i=4\/i=5\/i=6\/i=7:=⊥
 rcases this with rfl|rfl|rfl|rfl|rfl|rfl|rfl|rfl
 .exact⟨_,rfl,.inl rfl⟩
 .exact⟨_,rfl,.inr<|.inl rfl⟩
 .exact⟨_,rfl,.inr<|.inr<|.inl rfl⟩
 .exact⟨_,rfl,.inr<|.inr<|.inr<|.inl rfl⟩
 .exact⟨_,rfl,.inr<|.inr<|.inr<|.inr<|.inl rfl⟩
 .exact⟨_,rfl,.inr<|.inr<|.inr<|.inr<|.inr rfl⟩
 .exact⟨_,rfl,.inl rfl⟩
 .exact⟨_,rfl,.inl rfl⟩
omit hW in
theorem ae3:∃z:Str,bw (.lst [.str "number",.str "text"]) (.int<|i%2)=.ok (.str z)/\Kd z:=by
 have:i%2=0\/i%2=1:=⊥
 rcases this with e|e<;>rw[e]
 .exact⟨_,rfl,.inl rfl⟩
 .exact⟨_,rfl,.inr rfl⟩
abbrev La(x:Int)(W:Wl)(a:Sid)(z:Str)(b:Sid):Sd:=[Z<|.int x,Z<|wD W,Z a.d,Z<|.str z,Z b.d]
theorem Rx(J:0<=x)(h1:x<2147483647):∃z a b,sX [.int x,wD W]=.ok (Cn.test z a b).d/\ia W (.test z a b):=by
 refine Z34 (BE hW<|x/6) fun k c r p E h l=>?_;obtain⟨z,H,hz⟩:=sg8 (i:=x/3%8) ⊥ ⊥;have hr:=hW.r r<|agm h;obtain⟨I,F⟩:=oh (x:=x/97) (kd:=r[c]) ⊥ ⊥<|hr.2.2 _<|afV l;have B:∀T:FS,aW Ye (aW aam<|aW acK T) [Z<|.int x,Z<|wD W,L,L,L]=T (La x W (.cel k c) z<|.val<|lv (x/97) r[c]):=fun T=>
  (ag<|am<|ai (ac (bf rfl rfl)<|ac rfl rfl) p).trans ((ag<|am<|af (aX<|ac rfl (ac rfl (ac rfl (ac rfl (ac rfl (ac rfl #[2])))))) #[14] H).trans<|ag<|am<|ay<|ac rfl (ac (ai (ac (bf rfl rfl)<|ac (af (af rfl #[22] (kB _ _ h)) (af rfl rfl dw)<|kB _ _<|lE l) rfl) I) rfl))
 have D:∀{a:Sid}{b:Sid},i7 W b->∃f,i7 W f/\∀T:FS,aW ach T (La x W a z b)=T (La x W a z f):=fun{a b}hb=>by
  by_cases q:x%3=0
  .refine Z34 (BE hW<|x/101) fun k c r p E h l=>?_;exact⟨.cel k c,⟨r,h,l⟩,fun T=>ag<|(aK<|gv (aw rfl rfl) rfl q).trans<|am<|ai (ac (bf rfl rfl)<|ac rfl rfl) p⟩
  .exact⟨b,hb,fun T=>skip<|dI (aw rfl rfl) rfl q⟩
 have C:∀{a:Sid}{b:Sid},i7 W b->∃f,i7 W f/\∀T:FS,aW acQ T (La x W a z b)=T (La x W a z f):=fun{a b}hb=>by
  by_cases q:x%13=0
  .obtain⟨y,s,hy⟩:=ae3 (i:=x/13);obtain⟨e,g⟩:=oh (x:=x/97) ⊥ ⊥ hy;exact⟨.val _,g.v,fun T=>ag<|(aK<|gv (aw rfl rfl) rfl q).trans<|am<|ay<|ac rfl (ac (ai (ac (bf rfl rfl)<|ac (af (aX<|ac rfl (ac rfl rfl)) #[14] s) rfl) e) rfl)⟩
  .exact⟨b,hb,fun T=>skip<|dI (aw rfl rfl) rfl q⟩
 have G:∀{a:Sid}{b:Sid},i7 W a->∃w,i7 W w/\∀T:FS,aW acH T (La x W a z b)=T (La x W w z b):=fun{a b}m=>by
  by_cases q:x%17=0
  .obtain⟨y,s,hy⟩:=ae3 (i:=x/17);obtain⟨e,g⟩:=oh (x:=x/41) ⊥ ⊥ hy;exact⟨.val _,g.v,fun T=>ag<|(aK<|gv (aw rfl rfl) rfl q).trans<|am<|ay<|ac rfl (ac (ai (ac (bf rfl rfl)<|ac (af (aX<|ac rfl (ac rfl rfl)) #[14] s) rfl) e) rfl)⟩
  .exact⟨a,m,fun T=>skip<|dI (aw rfl rfl) rfl q⟩
 obtain⟨K,n,t⟩:=D (a:=.cel k c) (b:=.val<|lv (x/97) r[c]) F.v;obtain⟨o,j,A⟩:=C (a:=.cel k c) n;obtain⟨a,m,u⟩:=G (a:=.cel k c) (b:=o) ⟨r,h,l⟩;rw[Kn,dG];by_cases q:x/5%3=0
 .exact⟨z,o,a,ao<|(B _).trans<|(t _).trans<|(A _).trans<|(u _).trans<|bB<|(aK<|gv #[14] rfl q).trans<|ar<|ay<|ac rfl (ac rfl #[2]),hz,j,m⟩
 .exact⟨z,a,o,ao<|(B _).trans<|(t _).trans<|(A _).trans<|(u _).trans<|(skip<|dI rfl rfl q).trans rfl,hz,m,j⟩
omit hW in
theorem M3(f:Option Cn):Nk (pw f) .non=.ok (.bl f.isNone):=by
 cases f with
 |none=>rfl
 |some c=>cases c<;>rfl
abbrev CB:FS:=ab8
abbrev Be(xs:D)(W:Wl)(f:D)(o3 o4:Option D):Sd:=[Z xs,Z<|wD W,Z f,o3,o4]
def hF:Option Cn->Nat
 |none=>2
 |some c=>c.h
def nF:Option Cn->Nat
 |none=>0
 |some c=>c.n
def yd(W:Wl):Option Cn->Prop
 |none=>True
 |some c=>ia W c/\2<=c.h
theorem Mj(y:0<=x)(h1:x<2147483647)(f:Option Cn)(e:yd W f)(o4:Option D):∃c j,CB (Be xs W (pw f) (Z<|.int x) o4)=.ok (.nx<|Be xs W (Cn.d c) (Z<|.int x) j)/\yd W (Z c)/\c.h<=max (hF f) 3+2/\c.n<=nF f+6:=by
 obtain⟨z,a,b,o,m⟩:=Rx hW y h1;have w:∃u,(ia W u/\2<=u.h/\u.h<=3/\u.n<=4)/\∀T:FS,aW V7 (aW abf T) (Be xs W (pw f) (Z<|.int x) o4)=T (Be xs W (pw f) (Z<|.int x)<|Z<|Cn.d u):=by
  by_cases q:x/7%6=0
  .exact⟨.neg<|.test z a b,⟨m,by show 2<=3;decide,by show 3<=3;decide,by show 4<=4;decide⟩,fun T=>(ag<|am<|ai #[2] o).trans<|ag<|(aK<|gv #[14] rfl q).trans<|am<|ay<|ac rfl (ac rfl rfl)⟩
  .exact⟨.test z a b,⟨m,by show 2<=2;decide,by show 2<=3;decide,by show 3<=4;decide⟩,fun T=>(ag<|am<|ai #[2] o).trans<|skip<|dI #[14] rfl q⟩
 obtain⟨u,⟨g,l,t,E⟩,r⟩:=w;have C:∃v,(ia W v/\2<=v.h/\v.h<=max (hF f) 3+1/\v.n<=nF f+5)/\∀T:FS,aW z1x T (Be xs W (pw f) (Z<|.int x)<|Z<|Cn.d u)=T (Be xs W (Cn.d v) (Z<|.int x)<|Z<|Cn.d u):=by
  cases f with
  |none=>exact⟨u,⟨g,l,⊥,⊥⟩,fun T=>ag<|(aK<|aB<|af rfl rfl rfl).trans<|am rfl⟩
  |some c=>
   have q0:bG (aJ Nk (ak 2)<|vC .non) (Be xs W (Cn.d c) (Z<|.int x)<|Z<|Cn.d u)=.ok η:=aB<|af rfl rfl (M3<|Z c);have F:2<=c.h:=e.2;by_cases i:x/11%5=0
   .exact⟨.or c u,⟨⟨e.1,g⟩,by show 2<=max c.h u.h+1;omega,by show max c.h u.h+1<=max c.h 3+1;omega,by show c.n+u.n+1<=c.n+5;omega⟩,fun T=>ag<|(bt q0).trans<|(aK<|gv #[14] rfl i).trans<|am<|ay<|ac rfl #[2]⟩
   .by_cases q2:x/11%5=1
    .exact⟨.and u c,⟨⟨g,e.1⟩,by show 2<=max u.h c.h+1;omega,by show max u.h c.h+1<=max c.h 3+1;omega,by show u.n+c.n+1<=c.n+5;omega⟩,fun T=>ag<|(bt q0).trans<|(bt<|dI #[14] rfl i).trans<|(aK<|gv #[14] rfl q2).trans<|am<|ay<|ac rfl #[2]⟩
    .by_cases q3:x/11%5=2
     .exact⟨.or u c,⟨⟨g,e.1⟩,by show 2<=max u.h c.h+1;omega,by show max u.h c.h+1<=max c.h 3+1;omega,by show u.n+c.n+1<=c.n+5;omega⟩,fun T=>ag<|(bt q0).trans<|(bt<|dI #[14] rfl i).trans<|(bt<|dI #[14] rfl q2).trans<|(aK<|gv #[14] rfl q3).trans<|am<|ay<|ac rfl #[2]⟩
     .exact⟨.and c u,⟨⟨e.1,g⟩,by show 2<=max c.h u.h+1;omega,by show max c.h u.h+1<=max c.h 3+1;omega,by show c.n+u.n+1<=c.n+5;omega⟩,fun T=>ag<|(bt q0).trans<|(bt<|dI #[14] rfl i).trans<|(bt<|dI #[14] rfl q2).trans<|(bt<|dI #[14] rfl q3).trans<|am<|ay<|ac rfl #[2]⟩
 obtain⟨v,⟨p,k,B,A⟩,s⟩:=C;by_cases q:x/17%7=0
 .exact⟨.neg v,Z u.d,(r _).trans<|(s _).trans<|(aK<|gv #[14] rfl q).trans rfl,⟨p,by show 2<=v.h+1;lia⟩,by show v.h+1<=_;lia,by show v.n+1<=_;lia⟩
 .exact⟨v,u.d,(r _).trans<|(s _).trans<|(bt<|dI rfl rfl q).trans rfl,⟨p,k⟩,⊥,⊥⟩
end
def TX(x:Int):Prop:=0<=x/\x<2147483647
section
variable(hW:WOk W)
include hW
theorem Ec:∀(l:List Int)(f:Option Cn)(o3 o4:Option D),(∀x∈l,TX x)->yd W f->∃b d a,bm (.one 3) CB (l.map D.int) (Be xs W (pw f) o3 o4)=.ok (.nx<|Be xs W (pw b) d a)/\yd W b/\(max (hF b) 3<=max (hF f) 3+2*l.length/\nF b<=nF f+6*l.length)/\((f.isSome=U\/l≠[])->b.isSome=U)
 |[],f,o3,o4,_,hf=>⟨f,o3,o4,rfl,hf,⟨∅,∅⟩,fun h=>h.elim id fun h=>absurd rfl h⟩
 |x::r,f,o3,o4,hx,hf=>by
  obtain⟨c,a,t,k,p,o⟩:=Mj hW (hx x<|∅).1 (hx x<|∅).2 f hf o4;obtain⟨b,j,i,e,h1,⟨h2,m⟩,g⟩:=Ec r (c) (Z<|.int x) a (fun y hy=>hx y<|mK _ hy) k;refine⟨b,j,i,?_,h1,?_,fun _=>g<|.inl rfl⟩
  .have t2  := t;rw[Do,aV t2];exact e
  .have:hF (c)=c.h:=rfl
   have n:nF (c)=c.n:=rfl
   grind
theorem lx(b:∀x∈l,TX x)(hn:l.length<=100):∃f,mw [.lst<|l.map D.int,wD W]=.ok (pw f)/\yd W f/\(hF f<=3+2*l.length/\nF f<=6*l.length)/\(l≠[]->f.isSome=U):=by
 obtain⟨f,o3,o4,e,h1,h2,a⟩:=Ec hW l L L L b af2;refine⟨f,?_,h1,by have:hF L=2:=rfl;have n:nF L=0:=rfl;lia,fun h=>a<|.inr h⟩;exact ao<|((ag<|e).trans rfl)
theorem Lb{l:List Int}(m:∀x∈l,TX x)(hn:l.length<=4):∃f,mZ [.lst<|l.map D.int,wD W]=.ok (pw f)/\yd W f/\hF f<=12/\nF f<=25:=by
 rw[Ak,fh];have u:∀{p o3:Option D},Re [Z<|.lst<|l.map D.int,Z<|wD W,p,o3]=.ok (.int (l.length:Int)):=bR rfl (im _ _);have G:(l.length:Int)/2=((l.length/2:Nat):Int):=by rfl
 have y:∀T:FS,aW (b8 2<|aJ rg Re<|vC<|.int 2) T [Z<|.lst<|l.map D.int,Z<|wD W,L,L]=T [Z<|.lst<|l.map D.int,Z<|wD W,Z<|.int ((l.length/2:Nat):Int),L]:=fun T=>ag (am<|(bf u rfl).trans<|by rw[G]);have t:ab5 [Z<|.lst<|l.map D.int,Z<|wD W,Z<|.int ((l.length/2:Nat):Int),L]=.ok η->∃f,fin (aey [Z<|.lst<|l.map D.int,Z<|wD W,L,L])=.ok (pw f)/\yd W f/\hF f<=12/\nF f<=25:=fun q=>by
  refine Z14 (lx hW m ⊥) fun f e h1 h2 _=>?_;exact⟨f,ao<|(y _).trans<|(skip q).trans<|ar<|ai #[2] e,h1,⊥,⊥⟩
 have g:bG (aJ Lz Re<|vC<|.int 3) [Z<|.lst<|l.map D.int,Z<|wD W,Z<|.int ((l.length/2:Nat):Int),L]=.ok (decide ((3:Int)<(l.length:Int))):=aB<|af u rfl yX;by_cases E:(3:Int)<(l.length:Int)
 .have g:=g.trans (by rw[alm E]);by_cases z:l.getD 0 0%3=0
  .refine Z14 (lx hW (l:=l.take<|l.length/2) (fun x j=>m x<|ag8 j) (by simp;lia)) fun C o g1 k1 k=>?_;refine Z14 (lx hW (l:=l.drop<|l.length/2) (fun x j=>m x<|ahF j) (by simp;lia)) fun B s g2 k2 r=>?_;have l1:(l.take<|l.length/2).length=l.length/2:=by simp;lia
   have l2:(l.drop<|l.length/2).length=l.length-l.length/2:=∅
   have k:=k (fun h=>by rw[h]at l1;simp at l1;lia);have r:=r (fun h=>by rw[h]at l2;simp at l2;lia);rw[l1]at k1;rw[l2]at k2
   match C,k,o,g1,k1,B,r,s,g2,k2 with
   |some a,_,o,g1,k1,Z b,_,s,g2,k2=>
    have k3:a.n<=6*(l.length/2):=k1.2;have k4:b.n<=6*(l.length-l.length/2):=k2.2;have k1:a.h<=3+2*(l.length/2):=k1.1;have k2:b.h<=3+2*(l.length-l.length/2):=k2.1;have F:hZ (l.map D.int) L (Z ((l.length/2:Nat):Int))=(l.take<|l.length/2).map D.int:=by rw[uA<|⊥,agd,akI]
    have A:hZ (l.map D.int) (Z ((l.length/2:Nat):Int)) L=(l.drop<|l.length/2).map D.int:=by rw[v3,akH]
    have two:∀(w:Str)(c:Cn),Cn.d c=.tup [.str w,a.d,b.d]->(bw (.lst [.str "and",.str "or"]) (.int<|l.getD 0 0/3%2)=.ok (.str w))->fin (aey [Z<|.lst<|l.map D.int,Z<|wD W,L,L])=.ok (Cn.d c):=fun w c I H=>by
     rw[I];have v:∀{p o3:Option D},aaf [Z<|.lst<|l.map D.int,Z<|wD W,p,o3]=.ok (.int<|l.getD 0 0):=af rfl rfl (cU (i:=0)<|⊥);exact ao<|(y _).trans<|bB<|(aK<|gO g<|gv (aw v rfl) rfl z).trans<|(ag<|am<|af (aX<|ac rfl (ac rfl rfl)) (aw (bf v rfl) rfl) H).trans<|ar<|ay<|ac rfl (ac (ai (ac (cF rfl rfl (a9 rfl) (xU.trans<|by rw[F]))<|ac rfl rfl) o)<|ac (ai (ac (cF rfl (a9 rfl) rfl (xU.trans<|by rw[A]))<|ac rfl rfl) s) rfl)
    have:l.getD 0 0/3%2=0\/l.getD 0 0/3%2=1:=⊥
    rcases this with e|e
    .exact⟨Z<|.and a b,two "and" (.and a b) rfl (by rw[e];rfl),⟨⟨g1.1,g2.1⟩,by have:=g1.2;show 2<=max a.h b.h+1;omega⟩,by show max a.h b.h+1<=12;omega,by show a.n+b.n+1<=25;omega⟩
    .exact⟨Z<|.or a b,two "or" (.or a b) rfl (by rw[e];rfl),⟨⟨g1.1,g2.1⟩,by have:=g1.2;show 2<=max a.h b.h+1;omega⟩,by show max a.h b.h+1<=12;omega,by show a.n+b.n+1<=25;omega⟩
  .exact t (gO g<|dI (aw ((cU (i:=0)<|⊥)) rfl) rfl z)
 .exact t (hU<|g.trans<|by mright)
end
theorem wz{zs:List Int}(h1:a<=b)(h2:b<=zs.length):si (.lst<|zs.map D.int) (Z (a:Int)) (Z (b:Int))=.ok (.lst<|((zs.drop a).take<|b-a).map D.int):=by
 rw[xU,Dm ⊥ ⊥<|by simp_all,agd,agd,akI,akH]
noncomputable def qk(q:Tq):alq:=q.cs.map Prod.snd
theorem abE{a:List Tq}(e:1<=a.length)(h1:a.length<=3)(h:∀q∈a,QOk q):WOk<|a.map qk:=⟨by simp_all,by simp_all,fun r hr=>by
 obtain⟨q,b,rfl⟩:=rW.mp hr;have s:=(h q b).sh;refine⟨by unfold qk;rw[iF];exact s.l0,by unfold qk;rw[iF];exact s.l1,fun z hz=>?_⟩;obtain⟨c,d,rfl⟩:=rW.mp hz;exact(s.c c d).2⟩
noncomputable def EN(qs:List Tq)(q0:Tq)(x:Int):Tq:=qs.getD (x/7%(qs.length:Int)).toNat q0
theorem CL(h:0<qs.length)(x:Int):qs[(x/7%(qs.length:Int)).toNat]?=Z (EN qs q0 x)/\EN qs q0 x∈qs:=by
 obtain⟨p,e,b⟩:=ju (x/7) h;have a:qs[(x/7%qs.length).toNat]?=(EN qs q0 x):=by
  unfold EN;mright
 exact⟨a,agm a⟩
abbrev ql(c:Int)(qs:List Tq)(mo:Int)(zs:List Int)(o4 o5 o6 o7 o8 o9 o10 o11 rK:Option D):Sd:=[Z<|.int c,Z<|.lst<|qs.map je,Z<|.int mo,Z<|.lst<|zs.map D.int,o4,o5,o6,o7,o8,o9,o10,o11,rK]
section
variable{zs:List Int}(hz:zs.length=24)(hr:∀x∈zs,TX x)
include hz
theorem pB{i:Nat}(h:i<24):aJ bw (ak 3) (vC<|.int (i:Int)) (ql c qs mo zs o4 o5 o6 o7 o8 o9 o10 o11 rK)=.ok (.int<|zs.getD i 0):=(cU<|⊥)
theorem VU(h1:1<=m)(j:m<=3)(f:zs.getD 0 0%mo=((m-1:Nat):Int))(g:0<mo)(b:0<qs.length)(T:FS):aW abv T (ql c qs mo zs L L L L L L L L L)=T (ql c qs mo zs (Z<|.lst<|(((zs.drop 1).take m).map<|EN qs q0).map je) L L L L L L L L):=by
 refine ag<|am ?_;rw[af8];have h:(2:Int)+((m-1:Nat))=((m+1:Nat)):=⊥
 refine ba (bh (cF rfl rfl (a9<|(bC rfl (aw (pB hz<|∎) rfl g)).trans<|by rw[f,h]) (wz (a:=1) ⊥<|⊥)) rfl) ?_;refine cw D.int _ _ (fun x i=>?_) (by simp;lia);obtain⟨p,e,k⟩:=ju (x/7) b;have d:=(CL (q0:=q0) b x).1;rw[e]at d;exact af rfl (aw rfl ((im _ _)) ⊥) (by rw[e];exact kB _ _ d)
omit hz in
theorem Rm{a:List Tq}(hs:∀q∈a,QOk q)(d:a.length<=3)(T:FS):aW acO T (ql c qs mo zs (Z<|.lst<|a.map je) L L L L L L L L)=T (ql c qs mo zs (Z<|.lst<|a.map je) (Z<|wD<|a.map qk) L L L L L L L):=by
 refine ag<|am ?_;unfold wD;rw[af8];refine(cw je _ a (fun q b=>?_)<|⊥)
 have:=(hs q b).sh.l1
 show _=R.ok (D.lst<|(qk q).map D.str);unfold qk;rw[af8];exact(cw b6 _ q.cs (fun c e=>rfl)<|⊥)
include hr in
theorem MT(d:mo≠1):∃l:List Int,(∀x∈l,TX x)/\l.length<=4/\∀T:FS,aW TW (aW adC T) (ql c qs mo zs o4 o5 L L L L L L L)=T (ql c qs mo zs o4 o5 (Z<|.lst<|l.map D.int) L L L L L L):=by
 obtain⟨t,j,k⟩:∃t:Nat,zs.getD 4 0%5=(t:Int)/\t<5:=⟨(zs.getD 4 0%5).toNat,⊥,⊥⟩;have h:(5:Int)+(t:Int)=((5+t:Nat):Int):=by rfl
 have f:∀T:FS,aW TW T (ql c qs mo zs o4 o5 L L L L L L L)=T (ql c qs mo zs o4 o5 (Z<|.lst<|((zs.drop 5).take<|5+t-5).map D.int) L L L L L L):=fun T=>
  ag (am<|cF rfl (a9 rfl) (a9<|(bC rfl (aw (pB hz (i:=4)<|∎) rfl)).trans<|by rw[j,h]) (wz (a:=5) (b:=5+t) ⊥<|⊥))
 have g:acz (ql c qs mo zs o4 o5 (Z<|.lst<|((zs.drop 5).take<|5+t-5).map D.int) L L L L L L)=.ok η->∃l:List Int,(∀x∈l,TX x)/\l.length<=4/\∀T:FS,aW TW (aW adC T) (ql c qs mo zs o4 o5 L L L L L L L)=T (ql c qs mo zs o4 o5 (Z<|.lst<|l.map D.int) L L L L L L):=fun q=>
  ⟨(zs.drop 5).take<|5+t-5,fun x e=>hr x<|ahF<|ag8 e,by simp;lia,fun T=>(f _).trans<|skip q⟩
 exact g<|hU<|dI rfl rfl d
theorem SO{a:List Tq}(hW:WOk<|a.map qk)(o:yd (a.map qk) f)(k:hF f<=12/\nF f<=25):∃l o8,yd (a.map qk) l/\(hF l<=13/\nF l<=29)/\∀T:FS,aW aaj T #[23]=T (ql c qs mo zs (Z<|.lst<|a.map je) (Z<|wD<|a.map qk) o6 (Z<|pw l) o8 L L L L):=by
 have g:bG (aJ Lz W9<|vC<|.int 1) #[23]=.ok (decide ((1:Int)<(a.length:Int))):=aB<|af (bR rfl (im _ _)) rfl yX;by_cases t:(1:Int)<(a.length:Int)
 .have g:=g.trans (by rw[alm t]);by_cases q:zs.getD 20 0%2=0
  .have w1:1<(a.map qk).length:=by rw[iF];lia
   have m:0<(a.map qk).length:=⊥
   have r1:=hW.r _<|afV w1;have r0:=hW.r _<|afV m;obtain⟨e,u,h1⟩:=ju (zs.getD 21 0) (n:=(a.map qk)[1].length) ⊥;obtain⟨b,v,s⟩:=ju (zs.getD 22 0) (n:=(a.map qk)[0].length) ⊥;have k1:ia (a.map qk)<|.test "=" (.cel 1 e)<|.cel 0 b:=⟨.inl rfl,⟨_,lE w1,h1⟩,⟨_,lE m,s⟩⟩;have p:z5x #[23]=.ok (Cn.d<|.test "=" (.cel 1 e)<|.cel 0 b):=
    ay (ac rfl (ac rfl (ac (ay<|ac rfl (ac rfl (ac ((aw (pB hz (i:=21)<|∎) (bR (af rfl rfl (kB (i:=1) _ _<|lE w1))<|im _ _)<|⊥).trans<|by rw[u]) rfl)))<|ac (ay<|ac rfl (ac rfl (ac ((aw (pB hz (i:=22)<|∎) (bR (af rfl rfl (kB (i:=0) _ _<|lE m))<|im _ _)<|⊥).trans<|by rw[v]) rfl))) rfl)))
   have j:aaG #[23]=.ok U:=gO g<|gv (aw (pB hz (i:=20)<|∎) rfl) rfl q;cases f with
   |none=>exact⟨Z<|.test "=" (.cel 1 e)<|.cel 0 b,Z<|Cn.d<|.test "=" (.cel 1 e)<|.cel 0 b,⟨k1,nE _⟩,⟨by show 2<=13;decide,by show 3<=29;decide⟩,fun T=>ag<|(aK j).trans<|(ag<|am p).trans<|am<|af (aX<|ac (ay<|ac rfl #[2])<|ac rfl rfl) (ai (ac (af rfl rfl rfl) rfl) vT) rfl⟩
   |some d=>
    refine⟨Z<|.and (.test "=" (.cel 1 e)<|.cel 0 b) d,Z<|Cn.d<|.test "=" (.cel 1 e)<|.cel 0 b,⟨⟨k1,o.1⟩,by show 2<=max 2 d.h+1;lia⟩,⟨by have k:d.h<=12:=k.1;show max 2 d.h+1<=13;lia,by have k:d.n<=25:=k.2;show 3+d.n+1<=29;lia⟩,fun T=>ag<|(aK j).trans<|(ag<|am p).trans<|am ?_⟩;exact af rfl (ai (ac ((M3<|d)) rfl) vT) rfl
  .exact⟨f,L,o,⟨by omega,by omega⟩,fun T=>skip<|gO g<|dI (aw (pB hz<|∎) rfl) rfl q⟩
 .exact⟨f,L,o,⟨by omega,by omega⟩,fun T=>skip<|hU<|g.trans<|by grind⟩
end
def uz(W:Wl)(p:Nat×Nat):Prop:=∃r,W[p.1]?=Z r/\p.2<r.length
def bz(p:Nat×Nat):D:=(Sid.cel p.1 p.2).d
theorem Uu(hW:WOk W):∃g:Int->Nat×Nat,∀x,i8 [.int x,wD W]=.ok (bz<|g x)/\uz W (g x):=
 ak3 (p:=fun x q=>i8 [.int x,wD W]=.ok (bz q)/\uz W q) |>.mp fun x=>by
  refine Z34 (BE hW x) fun k c r e _ b a=>?_;exact⟨(k,c),e,r,b,a⟩
theorem Py.bl(b:Bool):Py 0<|.bl b:=⟨.bool b,rfl,rfl,nE _⟩
theorem Py.non:Py 0 .non:=⟨.none,rfl,rfl,nE _⟩
theorem Py.w(h:(z.cps.toList.all fun c=>tab.contains c)=U):Py 0<|.str z:=Py.str<|Hx h
theorem uo(p:Nat×Nat):Py 1<|bz p:=Qt (Py.w rfl) (Py.int _)<|Py.int _
theorem Bb:∀{s:Sid},i7 W s->Py 1 s.d
 |.val v,h=>Py.two (Py.w rfl)<|Hz h
 |.cel k c,h=>uo (k,c)
theorem Vs(h:Sg z):Py 0<|.str z:=by
 rcases h with rfl|rfl|rfl|rfl|rfl|rfl<;>exact Py.w rfl
theorem mi:∀{c:Cn},ia W c->Py c.h c.d
 |.test z a b,h=>aaW (Py.w ⊤ |>.mono (acr _)) ((Vs h.1).mono<|acr _) (Bb h.2.1)<|Bb h.2.2
 |.neg c,h=>Py.two ((Py.w<|⊤).mono<|acr _)<|mi h
 |.and a b,h=>Qt ((Py.w rfl).mono<|acr _) ((mi h.1).mono<|Nat.le_max_left _ _)<|(mi h.2).mono<|Nat.le_max_right _ _
 |.or a b,h=>Qt ((Py.w rfl).mono<|acr _) ((mi h.1).mono<|Nat.le_max_left _ _)<|(mi h.2).mono<|Nat.le_max_right _ _
theorem aa7:∀{f:Option Cn},yd W f->Py (hF f) (pw f)
 |none,_=>Py.non.mono<|acr _
 |some c,h=>mi h.1
structure Tre where
 ps:List<|Tq×Str
 f:Option Cn
 os:aly
 c:Nat×Nat
 ts:aly
 tk:D
noncomputable def V1(p:Tq×Str):D:=.tup [.str p.1.nm,.str p.2]
def Tre.W(t:Tre):Wl:=t.ps.map fun p=>qk p.1
def Tre.d(t:Tre):D:=.tup [.str "ask",.tup<|t.ps.map V1,pw t.f,.tup t.os,.tup<|bz t.c::t.ts,t.tk]
structure TrOk(qs:List Tq)(t:Tre):Prop where
 l0:1<=t.ps.length
 l1:t.ps.length<=3
 q:∀p∈t.ps,p.1∈qs
 f:yd t.W t.f
 h:hF t.f<=13
 n:nF t.f<=29
 c:uz t.W t.c
 p:Py 47 t.d
 o:∀d∈t.os,Py 2 d
theorem M5:bw (.lst [.int a,.int a,.int a,.int b]) (.int<|i%4)=.ok (.int<|if i%4=3 then b else a):=by
 have:i%4=0\/i%4=1\/i%4=2\/i%4=3:=⊥
 rcases this with e|e|e|e<;>rw[e]<;>rfl
def abc:Str:=afS "abc"
theorem RA{k:Nat}(h:k<3):atI abc.cps.toList (k:Int)=Z (97+k):=by
 have:k=0\/k=1\/k=2:=⊥
 rcases this with rfl|rfl|rfl<;>decide +kernel
def uU(q:Tq)(k:Nat):Str:=nH q.nm L (Z 1)++⟨#[97+k]⟩
theorem IY(h:NmOk q.nm)(b:k<3):K3<|uU q k:=fun c a=>by
 unfold uU at a;rw[gZ,BY]at a;rcases a with a|a
 .exact kj h c ((by
    unfold nH at a;exact ahF (ag8 (by simpa using a))))
 .have:k=0\/k=1\/k=2:=⊥
  have e  := by simpa using a
  rw[e];rcases this with rfl|rfl|rfl<;>decide +kernel
section
variable{zs:List Int}(hz:zs.length=24)
include hz
theorem Ko{g:Int->Nat×Nat}(hg:∀x,i8 [.int x,wD W]=.ok (bz<|g x)/\uz W (g x)):∃os:aly,(∀d∈os,Py 2 d)/\∀T:FS,aW z9x T (ql c qs mo zs o4 (Z<|wD W) o6 o7 o8 L L L L)=T (ql c qs mo zs o4 (Z<|wD W) o6 o7 o8 (Z<|.tup os) L L L):=by
 obtain⟨t,f,h⟩:∃t:Nat,zs.getD 10 0%(if zs.getD 10 0/9%4=3 then 9 else 3)=(t:Int)/\t<9:=by
  split
  .exact⟨(zs.getD 10 0%9).toNat,⊥,⊥⟩
  .exact⟨(zs.getD 10 0%3).toNat,by omega,by omega⟩
 have e:(11:Int)+(t:Int)=((11+t:Nat):Int):=by rfl
 refine⟨((zs.drop 11).take<|11+t-11).map fun x=>.tup [bz<|g x,.bl<|decide (x/64%2=1)],fun d b=>?_,fun T=>ag<|am<|ai (ac (ba (bh (cF rfl (a9 rfl) (a9<|(bC rfl (aw (pB hz (i:=10)<|∎) (af rfl (aw (bf (pB hz<|∎) rfl) rfl) M5)<|by split<;>lia)).trans<|by rw[f,e]) (wz (a:=11) ⊥<|⊥)) rfl)<|cw D.int _ _ (fun x _=>ay<|ac ((hg x).1)<|ac (ij) rfl)<|by simp;lia) rfl) qL⟩;obtain⟨x,_,rfl⟩:=rW.mp b;exact Py.two (uo _)<|(Py.bl _).mono<|acr _
theorem Ra{g:Int->Nat×Nat}(hg:∀x,i8 [.int x,wD W]=.ok (bz<|g x)/\uz W (g x)):∃(p:Nat×Nat)(ts:aly),uz W p/\(∀d∈ts,Py 1 d)/\∀T:FS,aW afm T (ql c qs mo zs o4 (Z<|wD W) o6 o7 o8 o9 L L L)=T (ql c qs mo zs o4 (Z<|wD W) o6 o7 o8 o9 (Z<|.tup<|bz p::ts) L L):=by
 obtain⟨t,k,l⟩:∃t:Nat,zs.getD 13 0%(if zs.getD 13 0/24%4=3 then 8 else 3)=(t:Int)/\t<8:=by
  split
  .exact⟨(zs.getD 13 0%8).toNat,⊥,⊥⟩
  .exact⟨(zs.getD 13 0%3).toNat,by omega,by omega⟩
 have h:(15:Int)+(t:Int)=((15+t:Nat):Int):=by rfl
 have b:∀T:FS,aW afm T (ql c qs mo zs o4 (Z<|wD W) o6 o7 o8 o9 L L L)=T (ql c qs mo zs o4 (Z<|wD W) o6 o7 o8 o9 (Z<|.tup<|((zs.drop 14).take<|15+t-14).map fun x=>bz<|g x) L L):=fun T=>ag<|am<|ai (ac (ba (bh (cF rfl (a9 rfl) (a9<|(bC rfl (aw (pB hz (i:=13)<|∎) (af (aX<|ac rfl (ac rfl #[2])) (aw (bf (pB hz (i:=13)<|∎) rfl) rfl) M5)<|by split<;>lia)).trans<|by rw[k,h]) (wz (a:=14) ⊥<|⊥)) rfl)<|cw D.int _ _ (fun x _=>(hg x).1)<|by simp;lia) rfl) qL;have j:((zs.drop 14).take<|15+t-14).length=t+1:=by simp;lia
 match e:(zs.drop 14).take<|15+t-14,j with
 |x::r,_=>
  rw[e]at b;refine⟨g x,r.map fun x=>bz<|g x,(hg x).2,fun d f=>?_,b⟩;obtain⟨y,_,rfl⟩:=rW.mp f;exact uo _
theorem SJ:∃tk:D,Py 0 tk/\∀T:FS,aW abU T (ql c qs mo zs o4 o5 o6 o7 o8 o9 o10 L L)=T (ql c qs mo zs o4 o5 o6 o7 o8 o9 o10 (Z tk) L):=by
 have key:∃tk:D,Py 0 tk/\bw (.lst [.non,.non,.int<|zs.getD 19 0%4,.int<|zs.getD 19 0%40]) (.int<|zs.getD 18 0%4)=.ok tk:=by
  have:zs.getD 18 0%4=0\/zs.getD 18 0%4=1\/zs.getD 18 0%4=2\/zs.getD 18 0%4=3:=⊥
  rcases this with e|e|e|e<;>rw[e]
  .exact⟨_,Py.non,rfl⟩
  .exact⟨_,Py.non,rfl⟩
  .exact⟨_,Py.int _,rfl⟩
  .exact⟨_,Py.int _,rfl⟩
 obtain⟨tk,h,e⟩:=key;exact⟨tk,h,fun T=>ag<|am<|af (aX<|ac rfl (ac rfl (ac (aw (pB hz<|∎) rfl)<|ac (aw (pB hz<|∎) rfl) rfl))) (aw (pB hz<|∎) rfl) e⟩
omit hz in
theorem Mg{a:List Tq}(hs:∀q∈a,QOk q)(d:a.length<=3)(T:FS):aW ab9 T (ql c qs mo zs (Z<|.lst<|a.map je) o5 o6 o7 o8 o9 o10 o11 L)=T (ql c qs mo zs (Z<|.lst<|a.map je) o5 o6 o7 o8 o9 o10 o11<|Z<|.tup<|((agj a.length).map fun k=>(a.getD k q0,uU (a.getD k q0) k)).map V1):=by
 refine ag<|am<|ai (ac (ba (lg (n:=a.length) (bR rfl (im _ _))<|⊥) ?_) rfl) qL;rw[ub,af8];refine cw _ _ _ (fun k b=>?_) (by grind);have b:=agO.mp b;have e:a[k]?=(a.getD k q0):=by grind
 have n:=(hs _<|agm e).sh.n.l1;have l1:=rN (a.getD k q0).nm L<|Z 1;have nm:∀(r:Sd),aJ bw aaF (vC<|.int 0) (Z (.int k)::Z (.lst<|a.map je)::r)=.ok (.str (a.getD k q0).nm):=fun r=>af ((kB _ _ e)) rfl bp;exact ay<|ac (nm _)<|ac (af (cF (nm _) rfl rfl ((ali<|⊥))) ((Mv ⊤<|RA<|⊥))<|(ali (by have:(⟨#[97+k]⟩:Str).length=1:=rfl;lia))) rfl
end
theorem QT(c:Int)(K:∀q∈qs,QOk q)(B:0<qs.length){mo:Nat}(hm:2<=mo/\mo<=3):∃t:Tre,uk [.int c,.lst<|qs.map je,.int (mo:Int)]=.ok t.d/\TrOk qs t:=by
 have hz:(uR c 24).length=24:=i0 _ _ _;have hr:∀x∈uR c 24,TX x:=fun x P=>xZ _ _ _ x P;obtain⟨m,W,R⟩:=ju ((uR c 24).getD 0 0) (n:=mo) ⊥;obtain⟨q0,J⟩:∃q0,q0∈qs:=⟨_,afV B⟩;have H:=fun T=>VU (mo:=(mo:Int)) (c:=c) (qs:=qs) hz (q0:=q0) (m:=m+1) ⊥ ⊥ (by rw[W,Nat.add_sub_cancel]) ⊥ B T;generalize es:((uR c 24).drop 1 |>.take (m+1)).map (EN qs q0)=src at H
 have hs:∀q∈src,q∈qs:=fun q h=>by
  rw[<-es]at h;obtain⟨x,_,rfl⟩:=rW.mp h;exact(CL B x).2
 have hsl:src.length=m+1:=by rw[<-es,iF,agP,ah0,hz];lia
 have o:∀q∈src,QOk q:=fun q h=>K q<|hs q h;have hW:=abE ⊥ ⊥ o;have V:=fun T=>Rm (c:=c) (mo:=(mo:Int)) (qs:=qs) (zs:=uR c 24) o ⊥ T;refine Z13 (MT (c:=c) (mo:=(mo:Int)) (qs:=qs) hz hr (o4:=Z<|.lst<|src.map je) (o5:=Z<|wD<|src.map qk) ⊥) fun l C E O=>?_;refine Z13 (Lb hW C E) fun f S N Q=>?_;refine Z23 (SO (c:=c) (mo:=(mo:Int)) (qs:=qs) hz (o6:=Z<|.lst<|l.map D.int) hW N Q) fun r o8 b s X=>?_;obtain⟨g,hg⟩:=Uu hW;obtain⟨os,u,M⟩:=Ko (c:=c) (mo:=(mo:Int)) (qs:=qs) hz hg (o4:=Z<|.lst<|src.map je) (o6:=Z<|.lst<|l.map D.int) (o7:=Z<|pw r) (o8:=o8);refine Z23 (Ra (c:=c) (mo:=(mo:Int)) (qs:=qs) hz hg (o4:=Z<|.lst<|src.map je) (o6:=Z<|.lst<|l.map D.int) (o7:=Z<|pw r) (o8:=o8) (o9:=Z<|.tup os)) fun p ts i A G=>?_;obtain⟨I,F,z⟩:=SJ (c:=c) (mo:=(mo:Int)) (qs:=qs) hz (o4:=Z<|.lst<|src.map je) (o5:=Z<|wD<|src.map qk) (o6:=Z<|.lst<|l.map D.int) (o7:=Z<|pw r) (o8:=o8) (o9:=Z<|.tup os) (o10:=Z<|.tup<|bz p::ts);have v:=fun T=>Mg (c:=c) (mo:=(mo:Int)) (qs:=qs) (zs:=uR c 24) (q0:=q0) o ⊥ (o5:=Z<|wD<|src.map qk) (o6:=Z<|.lst<|l.map D.int) (o7:=Z<|pw r) (o8:=o8) (o9:=Z<|.tup os) (o10:=Z<|.tup<|bz p::ts) (o11:=Z I) T;have fst:((agj src.length).map fun k=>(src.getD k q0,uU (src.getD k q0) k)).map IF=src:=by rw[af8];exact(by
   refine akT fun k=>?_;rcases ajp k src.length with h|h
   .mright
   mright)
 have snd:∀p∈(agj src.length).map fun k=>(src.getD k q0,uU (src.getD k q0) k),p.1∈src/\K3 p.2:=fun p i=>by
  obtain⟨k,y,rfl⟩:=rW.mp i;have y:=agO.mp y;have e:src.getD k q0∈src:=by rw[ag9,lE y];exact afV y
  exact⟨e,IY (o _ e).sh.n<|⊥⟩
 have j:((agj src.length).map fun k=>(src.getD k q0,uU (src.getD k q0) k)).length=src.length:=by rw[iF,agC]
 generalize((agj src.length).map fun k=>(src.getD k q0,uU (src.getD k q0) k))=ps at fst snd v j;have eW:src.map qk=ps.map fun p=>qk p.1:=by rw[<-fst,af8];rfl
 rw[eW]at i b;refine⟨⟨ps,r,os,p,ts,I⟩,?_,(by lia:1<=ps.length),(by lia:ps.length<=3),fun p h=>hs _ (snd p h).1,b,s.1,s.2,i,?_,u⟩
 .rw[GI,bU];exact ao<|(ag<|am<|ai #[2]<|nY c 24<|∎).trans<|(H _).trans<|(V _).trans<|(O _).trans<|(ag<|am<|ai #[2] S).trans<|(X _).trans<|(M _).trans<|(G _).trans<|(z _).trans<|(v _).trans<|ar<|ay<|ac rfl (ac rfl (ac rfl (ac rfl #[2])))
 .refine Py.tup fun d a=>?_;simp at a;rcases a with rfl|rfl|rfl|rfl|rfl|rfl
  .exact(Py.w<|⊤).mono #[24]
  .refine(Py.tup (k:=1) fun d a=>?_).mono #[24];obtain⟨p,i,rfl⟩:=rW.mp a;exact Py.two (Py.str<|kj (o _ (snd p i).1).sh.n)<|Py.str (snd p i).2
  .exact(aa7 b).mono ⊥
  .exact(Py.tup u).mono ⊥
  .refine(Py.tup (k:=1) fun d a=>?_).mono #[24];rcases oR.mp a with rfl|a
   .exact uo p
   .exact A d a
  .exact F.mono #[24]
def Cn.w:Cn->Str
 |.test _ _ _=>"test"
 |.neg _=>"not"
 |.and _ _=>"and"
 |.or _ _=>"or"
theorem Uk(c:Cn):bw c.d (.int 0)=.ok (.str c.w):=by cases c<;>exact bp
theorem jY(c:Cn):1<=c.h:=by cases c<;>simp[Cn.h]
theorem Kj(c:Cn){r:Sd}:bG ab0 (Z c.d::r)=.ok η:=aB<|(M3<|c)
theorem LZ(c:Cn){r:Sd}:bG (aJ cW aaf<|vC<|.str z) (Z c.d::r)=.ok (decide (c.w=z)):=gj ((Uk c)) rfl
noncomputable def Cn.parts:Cn->List Cn
 |.and a b=>a.parts++b.parts
 |c=>[c]
theorem crc{P:Cn->Prop}(t:∀z a b,P (.test z a b))(n:∀c,P c->P (.neg c))(a:∀a b,P a->P b->P (.and a b))(o:∀a b,P a->P b->P (.or a b)):∀c,P c:=Cn.rec t n a o
theorem gL:∀c:Cn,c.parts.length<=c.n:=crc (fun _ _ _=>by show 1<=3;decide) (fun c i=>by show 1<=c.n+1;lia) (fun a b i j_=>by
  have:=i
  have:=j_
  show(a.parts++b.parts).length<=a.n+b.n+1
  grind) (fun a b i j_=>by show 1<=a.n+b.n+1;lia)
theorem wt(h:n<=m)(h1:1<=n):∃k,m=k+1:=⟨m-1,by omega⟩
theorem WE{c:Cn}(hw:¬c.w="and")(a:c.parts=[c]):bg (n+1) [c.d]=.ok (.lst<|c.parts.map Cn.d):=by
 rw[a];exact ao<|(skip<|Kj c).trans<|(skip<|(LZ c).trans<|by mright).trans rfl
theorem w4:∀(c:Cn)(n:Nat),c.h<=n->c.n<=1000->bg n [c.d]=.ok (.lst<|c.parts.map Cn.d):=crc (fun z a b n h _=>by
  obtain⟨m,rfl⟩:=wt h<|jY _;exact WE (by show ¬(afS "test")="and";decide +kernel) rfl) (fun c j n h _=>by
  obtain⟨m,rfl⟩:=wt h<|jY _;rfl) (fun a b j j_ n h hn=>by
  obtain⟨m,rfl⟩:=wt h<|jY _;have h:max a.h b.h+1<=m+1:=h;have hn:a.n+b.n+1<=1000:=hn;have e:=j m ⊥ ⊥;have f:=j_ m ⊥ ⊥;have g:=gL a;have i:=gL b;exact ao<|(skip rfl).trans<|bB<|(ar<|af (e) (f)<|((ali<|by grind).trans<|by rw[<-RW];rfl))) (fun a b j j_ n h _=>by
  obtain⟨m,rfl⟩:=wt h<|jY _;rfl)
def fP:Option Cn->List Cn
 |none=>[]
 |some c=>c.parts
theorem xi(h:hF f<=90)(hn:nF f<=300):cJ [pw f]=.ok (.lst<|(fP f).map Cn.d):=by
 cases f with
 |none=>
  rfl
 |some c=>exact w4 c 100 (by have h:c.h<=90:=h;lia) (by have hn:c.n<=300:=hn;lia)
theorem zp:∀n,gJ n=bg n:=bi (rfl) fun n i =>by
  show rD (pV<|gJ n) 1 1=rD (cL<|bg n) 1 1;rw[i];rfl
theorem M4(h:hF f<=90)(hn:nF f<=300):lV [pw f]=.ok (.lst<|(fP f).map Cn.d):=by
 show gJ 100 _=_;rw[zp];exact xi h hn
noncomputable def Sid.cl:Sid->List (Nat×Nat)
 |.val _=>[]
 |.cel k c=>[(k,c)]
def Cn.cl:Cn->List (Nat×Nat)
 |.test _ a b=>a.cl++b.cl
 |.neg c=>c.cl
 |.and a b=>a.cl++b.cl
 |.or a b=>a.cl++b.cl
theorem DM(s:Sid):s.cl.length<=1:=by cases s<;>simp[Sid.cl]
theorem gh:∀c:Cn,c.cl.length<=c.n:=crc (fun _ a b=>by
  have:=DM a
  have:=DM b
  show(a.cl++b.cl).length<=3
  grind) (fun c i=>by have:=i;show c.cl.length<=c.n+1;lia) (fun a b i j_=>by
  have:=i
  have:=j_
  show(a.cl++b.cl).length<=a.n+b.n+1
  grind) (fun a b i j_=>by
  have:=i
  have:=j_
  show(a.cl++b.cl).length<=a.n+b.n+1
  grind)
theorem Dg:si (.tup<|d::r) (Z 1) L=.ok (.tup r):=by
 have:si (.tup<|d::r) ((1:Int)) L=.ok (.tup<|hZ (d::r) (((1:Nat):Int)) L):=rfl
 rw[v3]at this;exact this
theorem Qp:si (.tup<|d::e::r) (Z 2) L=.ok (.tup r):=by
 have:si (.tup<|d::e::r) ((2:Int)) L=.ok (.tup<|hZ (d::e::r) (((2:Nat):Int)) L):=rfl
 rw[v3]at this;exact this
def Sid.w:Sid->Str
 |.val _=>"value"
 |.cel _ _=>"cell"
theorem zR(s:Sid):bw s.d (.int 0)=.ok (.str s.w):=by cases s<;>exact bp
theorem Wu(a b:Sid):(([a,b].filter fun(s:Sid)=>decide (s.w="cell")).map Sid.d)=(a.cl++b.cl).map bz:=by
 cases a<;>cases b<;>rfl
abbrev SBd(n:Nat):FS:=(iw 2<|aD (cZ n)<|aj (ak 3)<|aj (ak 1) aA)
theorem zu{o3:Option D}(h:cZ n [e,.str "cell"]=.ok (.lst ys))(b:xs.length+ys.length<=1000000):SBd n [Z a,Z<|.str "cell",Z<|.lst xs,Z e]=.ok (.nx [Z a,Z<|.str "cell",Z<|.lst<|xs++ys,Z e]):=
 B2 rfl (h) rfl b
theorem wc{c:Cn}{r:Sd}(h:¬c.w=z):bG (aJ cW aaf<|vC<|.str z) (Z c.d::r)=.ok η:=(LZ c).trans (by mright)
theorem lK:∀(c:Cn)(n:Nat),c.h<=n->c.n<=1000->cZ n [c.d,.str "cell"]=.ok (.lst<|c.cl.map bz):=crc (fun z a b n h _=>by
  obtain⟨m,rfl⟩:=wt h<|jY _;rw[jH,dZ];refine ao<|(skip<|Kj _).trans<|bB<|(aK<|(LZ<|.test z a b).trans rfl).trans<|ar<|ba (bh (cF rfl (a9 rfl) rfl Qp) rfl) ?_;refine(cp Sid.d Sid.d (fun(s:Sid)=>decide (s.w="cell")) [a,b] (fun s _=>gj (af rfl rfl (zR s)) rfl) (fun s _ _=>rfl)<|∅).trans ?_;rw[Wu];rfl) (fun c i n h hn=>by
  obtain⟨m,rfl⟩:=wt h<|jY _;have h:c.h+1<=m+1:=h;have hn:c.n+1<=1000:=hn;have e:=i m ⊥ ⊥;have l:=gh c;rw[jH,dZ];exact ao<|(skip<|Kj _).trans<|(skip<|wc (c:=.neg c) (show ¬(afS "not")="test" by trivial)).trans<|(ag<|gg<|aX rfl).trans<|(ag<|bE (bh (cF rfl (a9 rfl) rfl Dg) rfl)<|(aV<|zu (o3:=L) e<|by rw[iF];simp;lia).trans rfl).trans<|ar rfl) (fun a b i j_ n h hn=>by
  obtain⟨m,rfl⟩:=wt h<|jY _;have h:max a.h b.h+1<=m+1:=h;have hn:a.n+b.n+1<=1000:=hn;have f:=i m ⊥ ⊥;have g:=j_ m ⊥ ⊥;have l1:=gh a;have l2:=gh b;rw[jH,dZ];exact ao<|(skip<|Kj _).trans<|(skip<|wc (c:=.and a b) (show ¬(afS "and")="test" by trivial)).trans<|(ag<|gg<|aX rfl).trans<|(ag<|bE (bh (cF rfl (a9 rfl) rfl Dg) rfl)<|(aV<|zu (o3:=L) f<|by rw[iF];simp;omega).trans<|(aV<|zu (o3:=L) g<|by rw[iF];simp;omega).trans rfl).trans<|ar (by show R.ok (D.lst<|([]++a.cl.map bz)++b.cl.map bz)=_;rw[ahO,<-RW];rfl)) (fun a b i j_ n h hn=>by
  obtain⟨m,rfl⟩:=wt h<|jY _;have h:max a.h b.h+1<=m+1:=h;have hn:a.n+b.n+1<=1000:=hn;have f:=i m ⊥ ⊥;have g:=j_ m ⊥ ⊥;have l1:=gh a;have l2:=gh b;rw[jH,dZ];exact ao<|(skip<|Kj _).trans<|(skip<|wc (c:=.or a b) (show ¬(afS "or")="test" by trivial)).trans<|((ag<|((aV<|zu (o3:=L) f<|by rw[iF];simp;omega).trans<|(aV<|zu (o3:=L) g<|by rw[iF];simp;omega).trans rfl)).trans<|ar<|by rw[ahO,<-RW];rfl))
theorem xT:∀{ks:alp},(∀k∈ks,k<3)->uO (ks.map fun(k:Nat)=>D.int (k:Int))=Z ks
 |[],_=>rfl
 |k::r,h=>by
  have b:=h k ∅;show(if 0<=(k:Int)/\(k:Int)<3 then(uO<|r.map fun(k:Nat)=>D.int k).map ((k:Int).toNat::·)else L)=_;rw[ali ⟨⊥,⊥⟩,xT fun x a=>h x<|mK _ a];rfl
theorem Ua(h:∀k∈ks,k<3):lP [.lst<|ks.map fun(k:Nat)=>D.int (k:Int)]=.ok (.lst<|(cb ks).map fun(k:Nat)=>D.int (k:Int)):=by
 unfold lP;dsimp only;rw[xT h]
theorem Np:k∈oS S i↔k∈S\/k=i:=by
 unfold oS;by_cases h:i∈S
 .mright
 .rw[alj h,BY,oR,agb,agb];constructor
  .rintro(⟨h,_⟩|e|⟨h,_⟩)
   .exact .inl h
   .exact .inr e
   .exact .inl h
  .rintro(z|e)
   .have:k≠i:=fun e=>h (e▸z)
    rcases Nat.lt_or_gt_of_ne this with q|q
    .mright
    .mright
   .exact .inr (.inl e)
theorem ot:∀{ks S:alp}{k:Nat},k∈ks.foldl oS S↔k∈S\/k∈ks:=@bb _ _ (@fun S k=>∅) fun i r j=>@fun S k=>by
  rw[List.foldl_cons,j,Np,oR,or_assoc]
theorem Ml:∀A∈cG,∀B∈cG,(∀k<3,k∈A↔k∈B)->A=B:=⊤
theorem To(c:∀k∈a,k<3)(hb:∀k∈b,k<3)(h:∀k,k∈a↔k∈b):cb a=cb b:=
 Ml _ (fV a [] ∎ c) _ (fV b [] ∎ hb) fun k _=>by
  unfold cb;rw[ot,ot,h k]
def Cn.ks(c:Cn):alp:=c.cl.map IF
section
variable{W:Wl}(hW:W.length<=3)
include hW
theorem Jo:∀{s:Sid},i7 W s->∀k∈s.cl.map IF,k<3
 |.val v,_,k,hk=>nomatch hk
 |.cel i c,h,k,hk=>by
  obtain⟨r,e,_⟩:=h;have  := by simpa[Sid.cl]using hk
  grind
theorem sR:∀{c:Cn},ia W c->∀k∈c.ks,k<3
 |.test z a b,h,k,d=>by
  have d:k∈(a.cl++b.cl).map IF:=d;rw[RW,BY]at d;exact d.elim (Jo hW h.2.1 k)<|Jo hW h.2.2 k
 |.neg c,h,k,d=>sR (c:=c) h k d
 |.and a b,h,k,d=>by
  have d:k∈(a.cl++b.cl).map IF:=d;rw[RW,BY]at d;exact d.elim (sR h.1 k)<|sR h.2 k
 |.or a b,h,k,d=>by
  have d:k∈(a.cl++b.cl).map IF:=d;rw[RW,BY]at d;exact d.elim (sR h.1 k)<|sR h.2 k
end
noncomputable def MC(k p:Nat):Sid->Bool
 |.cel a b=>decide (a=k)&&decide (b=p)
 |_=>η
theorem jE(h1:Py k a)(h2:Py l b)(g:k<=60)(j:l<=60)(hs:cH a=L):∃p q,bM a=Z p/\bM b=Z q/\jG a b=Z (agS p q):=by
 obtain⟨p,c,h,e⟩:=h1;obtain⟨q,d,i,f⟩:=h2;refine⟨p,q,c,d,?_⟩;unfold jG;rw[hs]
 have:dC a b=Z (agS p q):=by
  unfold dC;rw[c,d];dsimp only;rw[ali ⟨Py.shaped h e g,Py.shaped i f j⟩]
 cases cH b<;>exact this
theorem Og{s:Sid}(h:i7 W s)(k p:Nat):cW s.d (Sid.cel k p).d=.ok (.bl<|MC k p s):=by
 obtain⟨x,y,c,f,e⟩:=jE (Bb h) (uo (k,p)) ∎ ∎ (by cases s<;>rfl);have e:jG s.d (Sid.cel k p).d=Z (agS x y):=e;unfold cW;rw[e];cases f;cases s with
 |val v=>
  have c:((bM v).bind fun q=>Z<|ajq [.str "value",q])=Z x:=by
   cases hv:bM v with
   |none=>simp[Sid.d,bM,bH,hv]at c
   |some q=>simpa[Sid.d,bM,bH,hv]using c
  obtain⟨q,g,c⟩:=dO.mp c;cases c;rfl
 |cel a b=>
  cases c;show R.ok (D.bl<|agS (.tuple [.str "cell",.int (a:Int),.int (b:Int)])<|.tuple [.str "cell",.int (k:Int),.int (p:Int)])=_
  have:agS (.tuple [.str "cell",.int (a:Int),.int (b:Int)]) (.tuple [.str "cell",.int (k:Int),.int (p:Int)])=MC k p (.cel a b):=by
   show(((afS "cell")==(afS "cell"))&&(((a:Int)==(k:Int))&&(((b:Int)==(p:Int))&&U)))=_;rw[ago];simp[MC,ai5]
  rw[this]
noncomputable def v7(q:Str×D):D:=.tup [.str q.1,q.2]
noncomputable def mD(z:Str):Str:=if z="<"then ">"else if z="<="then ">="else if z=">"then "<"else if z=">="then "<="else z
def vn(k p:Nat)(z:Str)(a:Sid):Sid->List (Str×D)
 |.val v=>if MC k p a=U then[(z,v)]else[]
 |_=>[]
def GA(k p:Nat):Cn->List (Str×D)
 |.test z a b=>vn k p z a b++vn k p (mD z) b a
 |_=>[]
theorem iL(h:τ Uq0=.ok x)(h2:υ Uq0=.ok y):jc τ υ Uq0=.ok (x&&y):=by
 cases x with
 |true=>exact gO h h2
 |false=>exact hU h
abbrev aae(i j:Int):FT:=jc (bG<|aJ cW (aJ bw (ak 3)<|vC<|.int i)<|ak 1)<|bG<|aJ cW (aJ bw (aJ bw (ak 3)<|vC<|.int j)<|vC<|.int 0)<|vC<|.str "value"
theorem W5:¬(afS "cell")="value":=⊤
theorem Ck{o0:Option D}{x:D}{a b:Sid}{z:Str}{i j:Int}{ε:FE}{l:List<|Str×D}{k p:Nat}(g:i7 W a)(h1:bw x (.int i)=.ok a.d)(h2:bw x (.int j)=.ok b.d)(h:l.length<1000)
  (m:∀v,b=.val v->ε [o0,Z (Sid.cel k p).d,Z<|.lst<|l.map v7,Z x]=.ok (v7 (z,v))):
  gM (aae i j) (aZ 2 ε) br [o0,Z (Sid.cel k p).d,Z<|.lst<|l.map v7,Z x]=.ok (.nx [o0,Z (Sid.cel k p).d,Z<|.lst<|(l++vn k p z a b).map v7,Z x]):=by
 have f:aae i j [o0,Z (Sid.cel k p).d,Z<|.lst<|l.map v7,Z x]=.ok (MC k p a&&decide (b.w="value")):=iL (aB<|af (af rfl rfl h1) rfl (Og g k p))<|gj (af (af rfl rfl h2) rfl (zR b)) rfl;cases b with
 |val v=>
  have e:(MC k p a&&decide ((Sid.val v).w="value"))=MC k p a:=by simp[Sid.w]
  rw[e]at f;cases hc:MC k p a with
  |true=>
   rw[hc]at f;refine(aK f).trans<|(cP rfl (m v rfl) (by rw[iF];exact h)).trans ?_;simp[vn,hc]
  |false=>
   rw[hc]at f;refine(bt f).trans ?_;simp[vn,hc];rfl
 |cel c d=>
  have e:(MC k p a&&decide ((Sid.cel c d).w="value"))=η:=by
   rw[show decide ((Sid.cel c d).w="value")=η from alk W5,aju]
  rw[e]at f;refine(bt f).trans ?_;simp[vn];rfl
abbrev aej(φ:FE)(j:Int):FE:=dj<|aj φ<|aj (aJ bw (aJ bw (ak 3)<|vC<|.int j)<|vC<|.int 1) aA
abbrev abW:FS:=gM (bG Ps) (aW (gM (aae 2 3) (aZ 2<|aej Qw 3) br)<|gM (aae 3 2) (aZ 2<|aej (LG (Z4 ox) Qw) 2) br) br
theorem OA{c:Cn}:bG Ps [o0,o1,o2,Z c.d]=.ok (decide (c.w="test")):=gj (af rfl rfl (Uk c)) rfl
theorem wy:¬(afS "not")="test"/\¬(afS "and")="test"/\¬(afS "or")="test":=⊤
theorem sY(k p:Nat)(z:Str)(a b:Sid):(vn k p z a b).length<=1:=by
 unfold vn;split
 .split<;>simp
 .simp
theorem Xu(h:φ Uq0=.ok a)(h2:f a=.ok b):LG f φ Uq0=.ok b:=by unfold LG;rw[h,ax,h2]
theorem Ma{c:Cn}(g:ia W c){o0:Option D}{l:List<|Str×D}{k p:Nat}(h:l.length<999):
  abW [o0,Z (Sid.cel k p).d,Z<|.lst<|l.map v7,Z c.d]=.ok (.nx [o0,Z (Sid.cel k p).d,Z<|.lst<|(l++GA k p c).map v7,Z c.d]):=by
 cases c with
 |test z a b=>
  obtain⟨hz,f,hb⟩:=g;refine(aK OA).trans ((ag<|Ck (z:=z) f rfl rfl ⊥ fun v e=>?_).trans ((Ck (z:=mD z) hb rfl rfl (by
   have:=sY k p z a b
   rw[afR];lia) fun v e=>?_).trans ?_))
  .subst e;exact ay<|ac rfl (ac rfl rfl)
  .subst e;exact ay (ac (Xu rfl ((by
     rcases hz with rfl|rfl|rfl|rfl|rfl|rfl<;>kernel_rfl))) (ac rfl rfl))
  .rw[af4];rfl
 |neg c=>exact(bt<|OA.trans<|by rw[show(Cn.neg c).w="not"from rfl,alk wy.1]).trans (by simp[GA];rfl)
 |and a b=>exact(bt<|OA.trans<|by rw[show(Cn.and a b).w="and"from rfl,alk wy.2.1]).trans (by simp[GA];rfl)
 |or a b=>exact(bt<|OA.trans<|by rw[show(Cn.or a b).w="or"from rfl,alk wy.2.2]).trans (by simp[GA];rfl)
theorem NA(k p:Nat)(c:Cn):(GA k p c).length<=2:=by
 cases c with
 |test z a b=>
  have h1:=sY k p z a b;have h2:=sY k p (mD z) b a;unfold GA;rw[afR];lia
 |_=>simp[GA]
theorem CT:∀(cs:List Cn)(l:List<|Str×D)(o3:Option D),(∀c∈cs,ia W c)->l.length+2*cs.length<999->∃a,bm (.one 3) abW (cs.map Cn.d) [o0,Z (Sid.cel k p).d,Z<|.lst<|l.map v7,o3]=.ok (.nx [o0,Z (Sid.cel k p).d,Z<|.lst<|(l++cs.flatMap (GA k p)).map v7,a]):=bb (fun l o3 _ _=>⟨o3,by simp;rfl⟩) fun c r i l o3 hc hl=>by
  have h2:=NA k p c;obtain⟨o,e⟩:=i (l++GA k p c) (Z c.d) (fun x b=>hc x<|mK _ b) (by simp at hl⊢;lia);refine⟨o,?_⟩;have t:abW (ahu [o0,Z (Sid.cel k p).d,Z<|.lst<|l.map v7,o3] 3<|Z c.d)=_:=Ma (hc c<|∅) (by simp at hl;lia);rw[Do,aV t,e,af4];rfl
theorem uK{cs:List Cn}{k p:Nat}(a:∀c∈cs,ia W c)(b:cs.length<400):fz [.lst<|cs.map Cn.d,(Sid.cel k p).d]=.ok (.lst<|(cs.flatMap<|GA k p).map v7):=by
 obtain⟨o,e⟩:=CT (o0:=Z<|.lst<|cs.map Cn.d) (k:=k) (p:=p) cs [] L a (by simp;lia);rw[pE,dm];refine ao<|(ag<|gg<|aX rfl).trans<|(ag<|bE (bh rfl rfl) e).trans<|ar rfl
abbrev Bd:=D×Bool
noncomputable def Gr(b:Bd):D:=.tup [b.1,.bl b.2]
def kb:Option Bd->D
 |none=>.tup []
 |some b=>Gr b
def afc(s:Int)(b o:Bd):Bool:=decide (QM b.1 o.1=s)||(decide (QM b.1 o.1=0)&&!b.2)
def up(s:Int)(o:Option Bd)(b:Bd):Option Bd:=match o with
 |none=>Z b
 |some x=>if afc s b x=U then Z b else Z x
noncomputable def U6(z:Str):Bool:=decide (z="=")||(decide (z="<=")||decide (z=">="))
noncomputable def Ny(z:Str):Bool:=decide (z="=")||(decide (z=">")||decide (z=">="))
noncomputable def NG(z:Str):Bool:=decide (z="=")||(decide (z="<")||decide (z="<="))
theorem Xv(h:Sg z):FB (.str "=") (.str z)=.ok (.bl<|U6 z):=by
 rcases h with rfl|rfl|rfl|rfl|rfl|rfl<;>kernel_rfl
theorem Vj(h:Sg z):FB (.str z) fU=.ok (.bl<|Ny z):=by
 rcases h with rfl|rfl|rfl|rfl|rfl|rfl<;>kernel_rfl
theorem XM(h:Sg z):FB (.str z) gC=.ok (.bl<|NG z):=by
 rcases h with rfl|rfl|rfl|rfl|rfl|rfl<;>kernel_rfl
theorem Pz(h:Vl 40 b.1):Py 1<|Gr b:=Py.two (Hz h)<|Py.bl _
def vK(o:Option Bd):Prop:=∀b,o=Z b->Vl 40 b.1
theorem lh:Py 1<|.tup []:=Py.tup fun d h=>nomatch h
theorem GL(h:vK o):cW (kb o) (.tup [])=.ok (.bl o.isNone):=by
 unfold cW;cases o with
 |none=>rw[show kb L=.tup []from rfl,lh.self ∎ rfl];rfl
 |some b=>
  obtain⟨p,q,a,c,e⟩:=jE (Pz<|h b rfl) lh ∎ ∎ rfl;rw[show kb (Z b)=Gr b from rfl,e];cases c;have a:((bM b.1).bind fun q=>Z<|ajq [q,.bool b.2])=Z p:=by
   cases hv:bM b.1 with
   |none=>simp[Gr,bM,bH,hv]at a
   |some q=>simpa[Gr,bM,bH,hv]using a
  obtain⟨q,d,a⟩:=dO.mp a;cases a;rfl
theorem Tu(h:φ Uq0=.ok (.bl x))(h2:ψ Uq0=.ok (.bl y)):Tw φ ψ Uq0=.ok (.bl<|x||y):=by
 unfold Tw;rw[h,ax];cases x
 .exact h2
 .rfl
theorem L9(h:φ Uq0=.ok (.bl x))(h2:ψ Uq0=.ok (.bl y)):BG φ ψ Uq0=.ok (.bl<|x&&y):=by
 unfold BG;rw[h,ax];cases x
 .rfl
 .exact h2
def Gs(q:Str×D):Bd:=(q.2,U6 q.1)
def He(o:Option Bd)(q:Str×D):Option Bd:=if Ny q.1=U then up 1 o (Gs q)else o
def Nu(o:Option Bd)(q:Str×D):Option Bd:=if NG q.1=U then up (-1) o (Gs q)else o
abbrev UF(i:Nat)(k:D)(ε:FE):FT:=jc (bG<|aJ FB HQ<|vC k)<|Bo (bG<|aJ cW (ak i)<|dj aA)<|rq<|aD iH<|aj (ak 6)<|aj (ak i)<|aj ε aA
abbrev abp:FS:=aW Zt<|aW (gM (UF 3 fU<|vC<|.int 1) (b8 3<|ak 6) br)<|gM (UF 4 gC Px) (b8 4<|ak 6) br
theorem Cw(h:vK o)(hb:Vl 40 b.1):vK<|up s o b:=by
 intro x a;unfold up at a;split at a
 .cases a;exact hb
 .split at a
  .cases a;exact hb
  .cases a;exact h _ rfl
def UP(s:Int)(o:Option Bd)(b:Bd):Bool:=match o with
 |none=>U
 |some x=>afc s b x
theorem Xl:up s o b=if UP s o b=U then Z b else o:=by
 cases o with
 |none=>rfl
 |some x=>rfl
theorem D9{q:Str×D}(a:vK o)(hb:Vl 40 b.1)(f:aJ bw (ak 5) (vC<|.int 0) Uq0=.ok (.str q.1))(g:FB (.str q.1) kd=.ok (.bl c))
  (d:ak i Uq0=.ok (kb o)) (h:ak 6 Uq0=.ok (Gr b)) (j:ε Uq0=.ok (.int s)):UF i kd ε Uq0=.ok (c&&UP s o b):=by
 refine iL (aB<|af f rfl g) ?_;have e:bG (aJ cW (ak i)<|dj aA) Uq0=.ok o.isNone:=aB<|af d (ay rfl)<|GL a;cases o with
 |none=>exact XI e
 | some x=>exact n9 e (cK (ai (ac h (ac d (ac j rfl))) ((fun hb a=>by
   rw[u9,fF];exact ao ((ag (am (ai (ac #[17] (ac #[17] rfl)) (Eb _ _ (hb.mono ∎) (a.mono ∎))))).trans (ar (Tu (af rfl rfl ij) (L9 (af rfl rfl ij) (Od #[22])))))) hb (a x rfl))) rfl)
theorem LV(d:vK l)(c:vK h)(hz:Sg q.1)(a:Vl 40 q.2):
  abp [a0,a1,a2,Z<|kb l,Z<|kb h,Z<|v7 q,o6]=.ok (.nx [a0,a1,a2,Z<|kb<|He l q,Z<|kb<|Nu h q,Z<|v7 q,Z<|Gr<|Gs q]):=by
 refine(ag<|am<|ay<|ac #[22]<|ac (af rfl #[17] (Xv hz)) rfl).trans ?_;have h1:UF 3 fU (vC<|.int 1) [a0,a1,a2,Z<|kb l,Z<|kb h,Z<|v7 q,Z<|Gr<|Gs q]=.ok (Ny q.1&&UP 1 l (Gs q)):=D9 (q:=q) d a #[17] (Vj hz) rfl rfl rfl;have b:gM (UF 3 fU<|vC<|.int 1) (b8 3<|ak 6) br [a0,a1,a2,Z<|kb l,Z<|kb h,Z<|v7 q,Z<|Gr<|Gs q]=.ok (.nx [a0,a1,a2,Z<|kb<|He l q,Z<|kb h,Z<|v7 q,Z<|Gr<|Gs q]):=by
  unfold He;rw[Xl];cases e1:Ny q.1<;>cases e2:UP 1 l<|Gs q<;>rw[e1,e2]at h1
  .exact bt h1
  .exact bt h1
  .exact bt h1
  .exact(aK h1).trans (am rfl)
 refine(ag b).trans ?_;have h2:UF 4 gC Px [a0,a1,a2,Z<|kb<|He l q,Z<|kb h,Z<|v7 q,Z<|Gr<|Gs q]=.ok (NG q.1&&UP (-1) h (Gs q)):=D9 (q:=q) c a #[17] (XM hz) rfl rfl rfl;unfold Nu;rw[Xl];cases e1:NG q.1<;>cases e2:UP (-1) h<|Gs q<;>rw[e1,e2]at h2
 .exact bt h2
 .exact bt h2
 .exact bt h2
 .exact(aK h2).trans (am rfl)
theorem Co:∀(ts:List<|Str×D)(l h:Option Bd)(o5 o6:Option D),vK l->vK h->(∀q∈ts,Sg q.1/\Vl 40 q.2)->∃c d,bm (.one 5) abp (ts.map v7) [a0,a1,a2,Z<|kb l,Z<|kb h,o5,o6]=.ok (.nx [a0,a1,a2,Z<|kb<|ts.foldl He l,Z<|kb<|ts.foldl Nu h,c,d]):=bb (fun l h o5 o6 _ _ _=>⟨o5,o6,rfl⟩) fun q r i l h o5 o6 hl hh hq=>by
  obtain⟨hz,f⟩:=hq q ∅;have g1:vK<|He l q:=by unfold He;split;exact Cw hl f;exact hl
  have g2:vK<|Nu h q:=by unfold Nu;split;exact Cw hh f;exact hh
  obtain⟨a,b,e⟩:=i (He l q) (Nu h q) (Z<|v7 q) (Z<|Gr<|Gs q) g1 g2 fun x g=>hq x<|mK _ g;refine⟨a,b,?_⟩;have t:abp (ahu [a0,a1,a2,Z<|kb l,Z<|kb h,o5,o6] 5<|Z<|v7 q)=_:=LV hl hh hz f;rw[Do,aV t];exact e
theorem Dn(hz:Sg z)(hb:i7 W b):∀q∈vn k p z a b,Sg q.1/\Vl 40 q.2:=by
 intro q c;unfold vn at c;split at c
 .split at c
  .rw[acB.mp c];exact⟨hz,hb⟩
  .cases c
 .cases c
theorem QZ(h:ia W c):∀q∈GA k p c,Sg q.1/\Vl 40 q.2:=by
 cases c with
 |test z a b=>
  intro q d;rcases BY.mp d with d|d
  .exact Dn h.1 h.2.2 q d
  .exact Dn ((by
     rcases h.1 with rfl|rfl|rfl|rfl|rfl|rfl<;>(unfold Sg;decide +kernel))) h.2.1 q d
 |_=>intro q d;cases d
def N4(k p:Nat)(f:Option Cn):List<|Str×D:=(fP f).flatMap<|GA k p
theorem ur:∀{c:Cn},ia W c->∀x∈c.parts,ia W x
 |.and a b,h,x,hx=>by
  rcases BY.mp hx with hx|hx
  .exact ur h.1 x hx
  .exact ur h.2 x hx
 |.test z a b,h,x,hx=>by rw[acB.mp hx];exact h
 |.neg c,h,x,hx=>by rw[acB.mp hx];exact h
 |.or a b,h,x,hx=>by rw[acB.mp hx];exact h
theorem CH(h:yd W f):∀x∈fP f,ia W x:=by
 cases f with
 |none=>intro x a;cases a
 |some c=>exact ur h.1
theorem Sf(h:nF f<=300):(fP f).length<=300:=by
 cases f with
 |none=>exact acr _
 |some c=>exact DO (gL c) h
def UU(k p:Nat)(f:Option Cn):Option Bd:=(N4 k p f).foldl He L
def UW(k p:Nat)(f:Option Cn):Option Bd:=(N4 k p f).foldl Nu L
def ZV(k p:Nat)(f:Option Cn):D:=.tup [kb<|UU k p f,kb<|UW k p f]
theorem Ek(h:yd W f)(k p:Nat):∀q∈N4 k p f,Sg q.1/\Vl 40 q.2:=fun q a=>by
 obtain⟨c,b,a⟩:=ahx.mp a;exact QZ (CH h c b) q a
theorem ET{W:Wl}{tr:D}{f:Option Cn}(c:bw tr (.int 2)=.ok (pw f))(a:yd W f)(d:hF f<=90)(hn:nF f<=300)(k p:Nat):kO [tr,.int (k:Int),.int (p:Int)]=.ok (ZV k p f):=by
 obtain⟨o5,o6,e⟩:=Co (a0:=Z tr) (a1:=Z<|.int (k:Int)) (a2:=Z<|.int (p:Int)) (N4 k p f) L L L L (fun b h=>nomatch h) (fun b h=>nomatch h)<|Ek a k p
 rw[zx,fM];refine ao<|(ag<|am<|ay rfl).trans<|(ag<|am<|ay rfl).trans<|(ag<|bE (bh (ai (ac (ai (ac (af rfl rfl c) rfl)<|xi d hn)<|ac (ay<|ac rfl #[2]) rfl)<|uK (k:=k) (p:=p) (CH a) (by have:=Sf hn;lia)) rfl) e).trans<|ar<|ay<|ac rfl (ac rfl rfl)
theorem GM(f:Tq->D){qs:List Tq}(hn:(qs.map Tq.nm).Nodup)(h:q∈qs):bV (qs.map fun q=>(Key.inr q.nm,f q)) (.inr q.nm)=Z (f q):=by
 induction qs with
 |nil=>exact nomatch h
 |cons a r b=>
  rw[Do,agc]at hn;unfold bV;by_cases e:a.nm=q.nm
  .have:q=a:=by
    grind
   subst this;simp
  .have h2:q∈r:=by
    grind
   have:=b hn.2 h2
   unfold bV at this;mright
structure TrK(tr:D)(ps:List (Tq×Str))(W:Wl)(f:Option Cn):Prop where
 s:bw tr (.int 1)=.ok (.tup<|ps.map V1)
 c:bw tr (.int 2)=.ok (pw f)
 g:yd W f
 h:hF f<=13
 n:nF f<=29
 w:W=ps.map fun p=>qk p.1
 l0:1<=ps.length
 l1:ps.length<=3
 o:∃os,bw tr (.int 3)=.ok (.tup os)/\∀d∈os,Py 2 d
theorem z7{k:Nat}(c:TrK tr ps W f)(hn:(qs.map Tq.nm).Nodup)(b:ps[k]?=Z p)(a:q∈qs)(e:q.nm=p.1.nm):sK [tr,.dcf<|dg qs,.int (k:Int)]=.ok q.d:=by
 exact ao<|ar<|af rfl (af (af (c.s) rfl (JH V1 ps b)) rfl bp) (e▸Bx (GM Tq.d hn a))
noncomputable def F3(k:Nat):D:=.tup [.str "walk",.int (k:Int)]
def ads(k p:Nat)(f:Option Cn):D:=.tup [.str "seek",.int (k:Int),.int (p:Int),kb<|UU k p f,kb<|UW k p f]
def OE(q:Tq)(f:Option Cn)(k p:Nat)(c:Str×Str):aly:=if(decide (c.1∈q.ids.map IF)&&((UU k p f).isSome||(UW k p f).isSome))=U then[ads k p f]else[]
def NB(q:Tq)(f:Option Cn)(k:Nat):Nat->List (Str×Str)->aly
 |_,[]=>[]
 |p,c::r=>OE q f k p c++NB q f k (p+1) r
theorem QC(e:yd W f)(k p:Nat):vK (UU k p f)/\vK (UW k p f):=by
 have h:=Ek e k p;have key:∀(ts:List<|Str×D),(∀q∈ts,Sg q.1/\Vl 40 q.2)->∀l g , vK l->vK g->vK (ts.foldl He l)/\vK (ts.foldl Nu g):=by
  intro ts;induction ts with
  |nil=>mright
  |cons q r j=>
   intro a l g c hg;obtain⟨hz,d⟩:=a q ∅;exact j (fun x i=>a x<|mK _ i) _ _ (by unfold He;split;exact Cw c d;exact c) (by unfold Nu;split;exact Cw hg d;exact hg)
 exact key _ h L L (fun b h=>nomatch h) (fun b h=>nomatch h)
theorem zk(h:vK o):Py 1<|kb o:=by
 cases o with
 |none=>exact lh
 |some b=>exact Pz<|h b rfl
theorem Iz(h:vK o):∃a,bM (kb o)=Z a/\agS a (.tuple [])=o.isNone:=by
 obtain⟨p,q,b,c,e⟩:=jE (zk h) lh ∎ ∎ (by cases o<;>rfl);refine⟨p,b,?_⟩;cases c
 have:=GL h
 unfold cW at this;rw[e]at this;injection this with this
 injection this
def Yz:D:=.tup [.tup [],.tup []]
theorem Vm(d:vK a)(hb:vK b):nC (.tup [kb a,kb b]) Yz=.ok (.bl<|a.isSome||b.isSome):=by
 obtain⟨x,e,h⟩:=Iz d;obtain⟨y,j,i⟩:=Iz hb;obtain⟨p,q,c,g,f⟩:=jE (Py.two (zk d)<|zk hb) (Py.two lh lh) ∎ ∎ rfl;have g1:bM (.tup [kb a,kb b])=Z (.tuple [x,y]):=by
  show(((bM<|kb a).bind fun p=>((bM<|kb b).bind fun q=>Z [q]).map (p::·)).map ajq)=_;rw[e,j];rfl
 rw[g1]at c;cases c;cases g;unfold nC;rw[show jG (.tup [kb a,kb b]) Yz=_ from f];show R.ok (D.bl<|!(agS x (.tuple [])&&(agS y (.tuple [])&&U)))=_;rw[h,i];cases a<;>cases b<;>rfl
theorem GC:(bV (sj ids)<|.inr c).isSome=decide (c∈ids.map IF):=by
 unfold bV sj;rw[ahI,List.find?_map,ahI];rw[ago];simp
abbrev aeg:FT:=jc (bG<|aJ Fe YD Ve) Vt
abbrev aeI:FS:=aW Xb<|gM aeg X5 br
theorem Oe{k p:Nat}(a:TrK tr ps W f)(j:l.length<1000):
  aeI [Z tr,Z sd,Z<|.int (k:Int),Z q.d,Z<|.lst l,Z<|.int (p:Int),Z<|b6 c,o7]=.ok (.nx [Z tr,Z sd,Z<|.int (k:Int),Z q.d,Z<|.lst<|l++OE q f k p c,Z<|.int (p:Int),Z<|b6 c,Z<|ZV k p f]):=by
 obtain⟨e,i⟩:=QC a.g k p;refine(ag<|am<|ai (ac rfl #[2])<|ET a.c a.g (by have:=a.h;lia) (by have:=a.n;lia) k p).trans ?_;have b:aeg [Z tr,Z sd,Z<|.int (k:Int),Z q.d,Z<|.lst l,Z<|.int (p:Int),Z<|b6 c,Z<|ZV k p f]=.ok (decide (c.1∈q.ids.map IF)&&((UU k p f).isSome||(UW k p f).isSome)):=
  iL (aB<|af #[17] (xj rfl rfl)<|CG.trans<|by rw[GC]) (aB<|af rfl (ay<|ac (ay rfl)<|ac (ay rfl) rfl) (Vm e i))
 unfold OE;cases h:(decide (c.1∈q.ids.map IF)&&((UU k p f).isSome||(UW k p f).isSome))with
 |false=>
  rw[h]at b;refine(bt b).trans ?_;simp;rfl
 |true=>
  rw[h]at b;exact(aK b).trans<|cP rfl (ay<|ac rfl (ac rfl (ac rfl (ac #[17]<|ac #[22] rfl)))) j
theorem Cp{k:Nat}(m:TrK tr ps W f):∀(cs:List<|Str×Str)(p:Nat)(l:aly)(o5 o6 o7:Option D),l.length+cs.length<1000 ->
  ∃b a g,bm (.tup [5,6]) aeI (aU p<|cs.map b6) [Z tr,Z sd,Z<|.int (k:Int),Z q.d,Z<|.lst l,o5,o6,o7]=.ok (.nx [Z tr,Z sd,Z<|.int (k:Int),Z q.d,Z<|.lst<|l++NB q f k p cs,b,a,g]):=bb (fun p l o5 o6 o7 _=>⟨o5,o6,o7,by rw[NB,agh];rfl⟩) fun c r s p l o5 o6 o7 h=>by
  have h1:(OE q f k p c).length<=1:=by unfold OE;split<;>simp
  obtain⟨x,y,z,e⟩:=s (p+1) (l++OE q f k p c) (Z<|.int (p:Int)) (Z<|b6 c) (Z<|ZV k p f) (by simp at h⊢;lia);refine⟨x,y,z,?_⟩;have n:=il (i:=5) (j:=6) (r:=aU (p+1)<|r.map b6) (Uq0:=[Z tr,Z sd,Z<|.int (k:Int),Z q.d,Z<|.lst l,o5,o6,o7]) (Oe (sd:=sd) (q:=q) (k:=k) (p:=p) (c:=c) (o7:=o7) m<|by simp at h;lia);rw[Do,aU,n,e,NB,af4]
theorem Q0(h:φ Uq0=.ok (.tup xs))(a:xs.length<=1000):cY (aj φ aA) Uq0=.ok (aU 0 xs):=by
 unfold cY;rw[ac h rfl,ax];unfold yp
 first|rfl|exact ali #[24]|(simp;omega)
theorem ways{tr:D}{ps:List<|Tq×Str}{W:Wl}{f:Option Cn}{qs:List Tq}{k:Nat}{p:Tq×Str}{q:Tq}(a:TrK tr ps W f)(hn:(qs.map Tq.nm).Nodup)(h:ps[k]?=Z p)(b:q∈qs)(e:q.nm=p.1.nm)(i:q.cs.length<=8):
  wP [tr,.dcf<|dg qs,.int (k:Int)]=.ok (.lst<|F3 k::NB q f k 0 q.cs):=by
 obtain⟨x,y,z,g⟩:=Cp (sd:=.dcf<|dg qs) (q:=q) (k:=k) a q.cs 0 [F3 k] L L L (by simp;lia);have c:gm (aj WA aA) [Z tr,Z<|.dcf<|dg qs,Z<|.int (k:Int),Z q.d,L,L,L,L]=.ok (.lst [F3 k]):=aX<|ac (ay<|ac rfl (ac rfl rfl)) rfl;rw[RB,mW];refine ao ?_;refine(ag<|am<|ai (ac rfl #[2])<|z7 a hn h b e).trans ?_;exact((ag<|gg (k:=4) c).trans<|(ag<|bE (Q0 (af (xj rfl rfl) rfl bx)<|by rw[iF];lia) g).trans<|ar rfl)
noncomputable def iV(q:Str×Str):D:=.tup [.str q.1,.str q.2]
theorem OJ{qs:List Tq}(hn:(qs.map Tq.nm).Nodup)(b:q∈qs):(qs.filter fun x=>decide (x.nm=q.nm))=[q]:=by
 induction qs with
 |nil=>exact nomatch b
 |cons a r d=>
  rw[Do,agc]at hn;by_cases e:a.nm=q.nm
  .have:q=a:=by
    rcases oR.mp b with rfl|h
    .rfl
    .exact absurd (e▸rW.mpr ⟨q,h,rfl⟩) hn.1
   subst this;rw[ahk<|∅,aiH.mpr fun x c=>?_];intro h;exact hn.1 (by rw[<-aln h];exact rW.mpr ⟨x,c,rfl⟩)
  .have h2:q∈r:=by
    rcases oR.mp b with rfl|h
    .exact absurd rfl e
    .exact h
   rw[ahY<|by simpa using e];exact d hn.2 h2
theorem Io(h1:NmOk q.1)(h2:NmOk q.2):∃x,bM (iV q)=Z x/\agk x=U/\x.depth<=32/\x=.tuple [.str q.1,.str q.2]:=by
 obtain⟨x,e,c,d⟩:=Py.two (Py.str<|kj h1)<|Py.str<|kj h2;refine⟨x,e,Py.shaped c d<|∎,⊥,?_⟩;cases e;rfl
theorem Q5(a b:Str×Str):agS (.tuple [.str a.1,.str a.2]) (.tuple [.str b.1,.str b.2])=decide (a=b):=by
 show((a.1==b.1)&&((a.2==b.2)&&U))=_;rw[ago];simp[Prod.ext_iff]
theorem Hr(h1:NmOk q.1)(h2:NmOk q.2):∀{l:List<|Str×Str},(∀x∈l,NmOk x.1/\NmOk x.2)->EV (iV q) (.lst<|l.map iV)=Z (decide (q∈l)):=by
 intro l j;obtain⟨x,e,s,d,rfl⟩:=Io h1 h2;have key:∀l:List<|Str×Str,(∀x∈l,NmOk x.1/\NmOk x.2)->∃ps,bH (l.map iV)=Z ps/\eS (.tuple [.str q.1,.str q.2]) ps=Z (decide (q∈l)):=by
  intro l;induction l with
  |nil=>exact fun _=>⟨[],rfl,by simp[eS]⟩
  |cons a r m=>
   intro h;obtain⟨ps,b,c⟩:=m fun x i=>h x<|mK _ i;obtain⟨y,f,k,g,rfl⟩:=Io (h a<|∅).1 (h a<|∅).2;refine⟨.tuple [.str a.1,.str a.2]::ps,?_,?_⟩
   .show((bM<|iV a).bind fun p=>(bH<|r.map iV).map (p::·))=_;rw[f,b];rfl
   .rw[eS,ali ⟨k,g⟩,c,Q5];show Z (decide (a=q)||decide (q∈r))=_;congr 1;rw[ago];simp;constructor
    .rintro(z|z)
     .exact .inl z.symm
     .exact .inr z
    .rintro(z|z)
     .exact .inl z.symm
     .exact .inr z
 obtain⟨ps,b,c⟩:=key l j;unfold EV jB;dsimp only;rw[e,b];dsimp only;rw[ali s,c]
structure IxK(q:Tq)(J:List (Str×Str)):Prop where
 n:NmOk q.nm
 c:∀c∈q.cs,NmOk c.1
 j:∀x∈J,NmOk x.1/\NmOk x.2
 m:∀c,(q.nm,c)∈J↔c∈q.ids.map IF
theorem Qu(h:τ Uq0=.ok x)(h2:υ Uq0=.ok y):Bo τ υ Uq0=.ok (x||y):=by
 cases x with
 |true=>rw[RT,h];rfl
 |false=>exact n9 h h2
def tM(J:List<|Str×Str)(q:Tq):List<|Str×Str:=(q.cs.filter fun c=>!decide ((q.nm,c.1)∈J)).map fun c=>(q.nm,c.1)
abbrev abF:FE:=bW [L,Z 4,Z 1] (gE QD) (.one 0) (bG Qr) Qj
theorem C2(h:q.cs.length<=8):(tM J q).length<=8:=by
 unfold tM;rw[iF];exact DO (agr _ _) h
theorem NH(h:IxK q J)(b:q.cs.length<=8):abF [Z a0,Z<|.lst<|J.map iV,Z x,o3,Z<|je q]=.ok (.lst<|(tM J q).map iV):=by
 have g:=cp (τ:=bG Qr) (ε:=dj<|aj IZ<|aj Cs aA) (rest:=[(je q),Z<|.lst<|J.map iV]) b6 (fun c=>iV (q.nm,c.1)) (fun c=>!((q.nm,c.1)∈J)) q.cs
  (fun c a=>by
   have e:vQ (iV (q.nm,c.1)) (.lst<|J.map iV)=.ok (.bl<|!((q.nm,c.1)∈J)):=by
    unfold vQ;rw[Hr h.n (h.c c a) h.j];rfl
   exact aB (e))
  (fun c _ _=>rfl) ⊥
 refine(g).trans ?_;unfold tM;rw[af8];rfl
theorem DR:∀(qs:List Tq)(l:List<|Str×Str)(o4:Option D),(∀q∈qs,IxK q J/\q.cs.length<=8)->l.length+8*qs.length<=1000 ->
  ∃a,bm (.one 4) (b8 3<|aJ eR (ak 3) abF) (qs.map je) [Z a0,Z<|.lst<|J.map iV,Z x,Z<|.lst<|l.map iV,o4]=.ok (.nx [Z a0,Z<|.lst<|J.map iV,Z x,Z<|.lst<|(l++qs.flatMap (tM J)).map iV,a]):=bb (fun l o4 _ _=>⟨o4,by simp;rfl⟩) fun q r i l o4 h hl=>by
  obtain⟨c,b⟩:=h q ∅;have d:=C2 (J:=J) b;obtain⟨o,g⟩:=i (l++tM J q) ((je q)) (fun y hy=>h y<|by simp[hy]) (by grind);have t:b8 3 (aJ eR (ak 3) abF) (ahu [a0,Z<|.lst<|J.map iV,x,Z<|.lst<|l.map iV,o4] 4<|(je q))=.ok (.nx [a0,Z<|.lst<|J.map iV,x,Z<|.lst<|(l++tM J q).map iV,(je q)]):=
   am (af rfl (NH c b) ((sG<|by grind).trans<|by grind))
  rw[Do,aV t,g];simp
theorem HA(h:∀x∈d::r,Py 1 x):cW (.lst<|d::r) (.lst [])=.ok (.bl η):=by
 obtain⟨p,q,c,g,e⟩:=jE (Py.lst h) (Py.lst (k:=1) (ds:=[]) fun _ h=>nomatch h) ∎ ∎ rfl
 obtain⟨ps,f,_,_,l⟩:=Py.list h;unfold cW;rw[e];have c:(bH<|d::r).map alc=p:=c;rw[f]at c;cases c;cases g;cases ps with
 |nil=>cases l
 |cons a b=>rfl
def Zz(qs:List Tq)(J:List<|Str×Str)(n c:Str):Prop:=∃q∈qs,q.nm=n/\c∈q.cs.map IF/\(n,c)∉J
theorem Q9(h:∀q∈qs,IxK q J/\q.cs.length<=8)(t:qs.length<=100)(x:Int):nW [.lst<|qs.map je,.lst<|J.map iV,.int x]=.ok (.tup [])\/∃n c,nW [.lst<|qs.map je,.lst<|J.map iV,.int x]=.ok (iV (n,c))/\Zz qs J n c:=by
 obtain⟨o,g⟩:=DR (a0:=.lst<|qs.map je) (x:=.int x) qs [] L h (by simp;lia);have f:∀p∈qs.flatMap (tM J),Zz qs J p.1 p.2:=by
  intro p j;obtain⟨q,d,j⟩:=ahx.mp j;unfold tM at j;obtain⟨c,a,rfl⟩:=rW.mp j;obtain⟨a,hn⟩:=agb.mp a;exact⟨q,d,rfl,ahW a,by simpa using hn⟩
 have hn:(qs.flatMap<|tM J).length<=8*qs.length:=by
  clear g f t;induction qs with
  |nil=>simp
  |cons q r w=>
   have:=C2 (J:=J) (h q<|∅).2
   have:=w (fun y hy=>h y<|by simp[hy])
   rw[aha,afR,afW];lia
 rw[ahO]at g;rw[Iq,nD];generalize qs.flatMap (tM J)=Lq0 at g f hn;cases Lq0 with
 |nil=>
  refine .inl (ao ?_);refine(ag<|am<|aX rfl).trans ?_;refine(ag<|bE (bh rfl rfl) g).trans ?_;exact(bB<|(aK<|aB<|af rfl (aX rfl) rfl).trans<|ar<|ay rfl)
 |cons p r=>
  have h1:=agZ x (b:=((p::r).length:Int)) (by simp only[afW];lia);have h2:=ahf x (b:=((p::r).length:Int)) (by simp only[afW];lia);have v:∀x∈(p::r).map iV,Py 1 x:=by
   intro x m;obtain⟨y,hy,rfl⟩:=rW.mp m;obtain⟨q,d,e,a,_⟩:=f y hy;obtain⟨k,s,u⟩:=rW.mp a
   have:=(h q d).1.n
   have:=(h q d).1.c k s
   exact Py.two (Py.str<|kj<|by rw[<-e];assumption) (Py.str<|kj<|by rw[<-u];assumption)
  obtain⟨i,ei⟩:=Int.eq_ofNat_of_zero_le h1;have l:i<(p::r).length:=by rw[ei]at h2;lia
  refine .inr ⟨((p::r)[i]).1,((p::r)[i]).2,ao ?_,f _<|afV l⟩;refine(ag<|g).trans ?_;refine(ag<|bt<|aB<|(HA v)).trans ?_;refine ar<|af rfl (aw rfl ((show c8 [.lst<|(p::r).map iV]=.ok (.int<|(p::r).length) by rw[<-iF];rfl)) (h:=by lia)) ?_;rw[ei];exact kB iV (p::r)<|lE l
structure TdOk(tr:D)(ps:List (Tq×Str))(W:Wl)(f:Option Cn)(qs:List Tq)(J:List (Str×Str)):Prop where
 t:TrK tr ps W f
 n:(qs.map Tq.nm).Nodup
 p:∀p∈ps,∃q∈qs,q.nm=p.1.nm/\q.cs=p.1.cs
 i:∀q∈qs,IxK q J/\q.cs.length<=8
 l:qs.length<=1000
 m:ps.length<=1000
noncomputable def aeZ:D->D
 |.tup (_::r)=>.tup r
 |d=>d
noncomputable def SR:D->Bool
 |.tup (.str w::_)=>decide (w="index")
 |_=>η
theorem JU:∀{ch:aly},(∀x∈ch,abK x)->(ch.filter SR).map aeZ=(ch.flatMap Gf).map iV
 |[],_=>rfl
 |x::r,h=>by
  have b:=JU fun y hy=>h y<|mK _ hy;refine Z22 (h x ∅) fun w t e g=>?_;rw[aha,RW,<-b];rcases g with⟨hw,n,c,a⟩|⟨hw,d⟩
  .rw[e,a];rw[hw];rfl
  .have e1:¬SR x=U:=by rw[e];exact fun k=>hw (aln k)
   grind
abbrev ixE:FE:=bW [L] (gE<|ak 2) (.one 0) (bG PU) YJ
theorem Ws{r:Sd}(h:Go [] ch qs)(i:ch.length<=183):ixE (a0::a1::Z (.lst ch)::r)=.ok (.lst<|(vI qs).map iV):=by
 have hw:=adi h;have g:=cp (τ:=bG PU) (ε:=CO si (ak 0) (j6<|vC<|.int 1) mh) (rest:=[]) (fun d  => d) aeZ SR ch
  (fun x a=>by
   obtain⟨w,t,e,g⟩:=hw x a;rw[e];exact gj (bp) rfl)
  (fun x a b=>by
   obtain⟨w,t,e,g⟩:=hw x a;rcases g with⟨hw,n,c,f⟩|⟨hw,_⟩
   .rw[e,f];rfl
   .rw[e]at b;exact absurd (aln b) hw)
  ⊥
 rw[aiS]at g;rw[JU hw]at g;have e:=OB h;rw[e];exact g
theorem CY{qs:List Tq}(hn:(qs.map Tq.nm).Nodup)(a:q∈qs)(hr:r∈qs)(e:r.nm=q.nm):r=q:=by
 have h:=OJ hn a
 have:r∈qs.filter fun x=>(x.nm=q.nm):=agb.mpr ⟨hr,alm e⟩
 mright
theorem D4(hn:(qs.map Tq.nm).Nodup)(b:q∈qs)(c:Str):(q.nm,c)∈vI qs↔c∈q.ids.map IF:=by
 unfold vI;rw[ahx];constructor
 .rintro⟨r,hr,h⟩;obtain⟨p,a,e⟩:=rW.mp h;injection e with e1 e2
  rw[<-CY hn b hr e1,<-e2];exact ahW a
 .intro h;obtain⟨p,a,e⟩:=rW.mp h;exact⟨q,b,rW.mpr ⟨p,a,by rw[e]⟩⟩
theorem Xw(hn:(qs.map Tq.nm).Nodup)(h:∀q∈qs,QOk q):∀q∈qs,IxK q (vI qs)/\q.cs.length<=8:=fun q a=>
 ⟨⟨(h q a).sh.n,fun c d=>((h q a).sh.c c d).1,(by
   intro x b;obtain⟨q,a,b⟩:=ahx.mp b;obtain⟨p,f,rfl⟩:=rW.mp b;obtain⟨B,_,t⟩:=(h q a).k;obtain⟨c,d,e⟩:=rW.mp (t.t.i p f).1;exact⟨(h q a).sh.n,by rw[<-e];exact((h q a).sh.c c d).1⟩),D4 hn a⟩,(h q a).sh.l1⟩
def upd(qs:List Tq)(q':Tq):List Tq:=qs.map fun r=>if r.nm=q'.nm then q' else r
theorem IP(hn:(qs.map Tq.nm).Nodup)(b:q∈qs):bV (dg qs) (.inr q.nm)=Z q.d:=by
 induction qs with
 |nil=>exact nomatch b
 |cons a r c=>
  rw[Do,agc]at hn;unfold bV dg;by_cases e:a.nm=q.nm
  .have:q=a:=by
    rcases oR.mp b with rfl|h
    .rfl
    grind
   subst this;simp
  .have h2:q∈r:=by
    grind
   have:=c hn.2 h2
   unfold bV dg at this
   grind
theorem T2(hn:(qs.map Tq.nm).Nodup)(a:q∈qs)(e:q'.nm=q.nm):eF (dg qs) (.inr q.nm) q'.d=dg (upd qs q'):=by
 unfold eF;rw[IP hn a];unfold dg upd;rw[af8,af8];apply agM
 intro r hr;by_cases h:r.nm=q.nm
 .simp[h,e]
 .simp[h,e]
theorem NP(hn:(qs.map Tq.nm).Nodup)(f:q∈qs)(h:QOk q)(g:qs.length<=100)(b:c∈q.cs.map IF)(a:c∉q.ids.map IF):∃d,eI [.dcf<|dg qs,nK q.nm c]=.ok (.dcf<|dg<|upd qs {q with ids:=q.ids++[(c,d)]}):=by
 obtain⟨B,hB,t⟩:=h.k;obtain⟨d,e,i⟩:=tK t.t hB (by have:=t.lr;lia) (by have:=t.li;lia) b a;refine⟨d,(y6<|DA (IP hn f) (by rw[ul];lia) b a e).trans ?_⟩;rw[<-T2 (q':={q with ids:=q.ids++[(c,d)]}) hn f rfl];rfl
theorem Na(h:TdOk tr ps W f qs J)(b:q∈qs)(y:c∈q.cs.map IF):TdOk tr ps W f (upd qs {q with ids:=q.ids++[(c,d)]}) (J++[(q.nm,c)])/\(upd qs {q with ids:=q.ids++[(c,d)]}).map je=qs.map je:=by
 have en:(upd qs {q with ids:=q.ids++[(c,d)]}).map Tq.nm=qs.map Tq.nm:=by
  unfold upd;rw[af8];apply agM
  intro r hr;by_cases e:r.nm=q.nm
  .simp[e]
  .simp[e]
 have v:∀x∈J++[(q.nm,c)],NmOk x.1/\NmOk x.2:=by
  intro x g;rcases BY.mp g with g|g
  .exact(h.i q b).1.j x g
  .rw[acB.mp g];obtain⟨k,a,w⟩:=rW.mp y;exact⟨(h.i q b).1.n,by rw[<-w];exact(h.i q b).1.c k a⟩
 refine⟨⟨h.t,by rw[en];exact h.n,?_,?_,by unfold upd;rw[iF];exact h.l,h.m⟩,?_⟩
 .intro p hp;obtain⟨r,hr,o,u⟩:=h.p p hp;refine⟨_,ahW hr,?_⟩;by_cases z:r.nm=q.nm
  .have:=CY h.n b hr z
   subst this;rw[ali rfl];exact⟨o,u⟩
  .rw[alj z];exact⟨o,u⟩
 .intro z hz;obtain⟨r,hr,rfl⟩:=rW.mp hz;obtain⟨a,s⟩:=h.i r hr;by_cases e:r.nm=q.nm
  .have:=CY h.n b hr e
   subst this;rw[ali rfl];refine⟨⟨a.n,a.c,v,fun x=>?_⟩,s⟩
   have:=a.m x
   simp[this]
  .rw[alj e];refine⟨⟨a.n,a.c,v,fun x=>?_⟩,s⟩
   have:=a.m x
   simp[this,e]
 .unfold upd;rw[af8];apply agM
  intro r hr;by_cases e:r.nm=q.nm
  .have:=CY h.n b hr e
   subst this;show je (if r.nm=r.nm then _ else r)=_;rw[ali rfl];rfl
  mright
noncomputable abbrev nI(k:Nat):D:=.int (k:Int)
abbrev LBd(n:Nat):FS:=b8 1<|aJ eR (ak 1)<|aD (de n)<|aj (ak 2) aA
theorem yu(h:de n [e]=.ok (.lst ys))(b:xs.length+ys.length<=1000):LBd n [a,Z<|.lst xs,Z e]=.ok (.nx [a,Z<|.lst<|xs++ys,Z e]):=
 am (af rfl (h) (sG b))
def Sid.k:Sid->D
 |.val _=>.non
 |.cel k _=>nI k
theorem lY(c:Cn):c.ks.length<=c.n:=by unfold Cn.ks;rw[iF];exact gh c
theorem v9:∀(c:Cn)(n:Nat),c.h<=n->c.n<=900->de n [c.d]=.ok (.lst<|c.ks.map nI):=crc (fun z a b n h _=>by
  obtain⟨m,rfl⟩:=wt h<|jY _;rw[jM,dU];refine ao<|bB<|(aK<|(LZ<|.test z a b).trans rfl).trans<|ar<|ba (bh (cF rfl (a9 rfl) rfl Qp) rfl) ?_;refine(cp Sid.d Sid.k (fun(s:Sid)=>decide (s.w="cell")) [a,b] (fun s _=>gj (af rfl rfl (zR s)) rfl) (fun s _ hs=>?_)<|∅).trans ?_
  .cases s with
   |val v=>exact absurd (aln hs) (by show ¬(afS "value")="cell";decide +kernel)
   |cel k c=>exact af rfl rfl bx
  .cases a<;>cases b<;>rfl) (fun c i n h hn=>by
  obtain⟨m,rfl⟩:=wt h<|jY _;have h:c.h+1<=m+1:=h;have hn:c.n+1<=900:=hn;have e:=i m ⊥ ⊥;have l:=lY c;rw[jM,dU];exact ao<|(skip<|wc (c:=.neg c) (show ¬(afS "not")="test" by trivial)).trans<|(ag<|am<|aX rfl).trans<|(ag<|bE (bh (cF rfl (a9 rfl) rfl Dg) rfl)<|(aV<|yu e<|by rw[iF];simp;lia).trans rfl).trans<|ar rfl) (fun a b i j_ n h hn=>by
  obtain⟨m,rfl⟩:=wt h<|jY _;have h:max a.h b.h+1<=m+1:=h;have hn:a.n+b.n+1<=900:=hn;have f:=i m #[24] #[24];have g:=j_ m #[24] #[24];have l1:=lY a;have l2:=lY b;rw[jM,dU];exact ao<|(skip<|wc (c:=.and a b) (show ¬(afS "and")="test" by trivial)).trans<|(ag<|am<|aX rfl).trans<|(ag<|bE (bh (cF rfl (a9 rfl) rfl Dg) rfl)<|(aV<|yu f<|by rw[iF];simp;omega).trans<|(aV<|yu g<|by rw[iF];simp;omega).trans rfl).trans<|ar (by show R.ok (D.lst<|([]++a.ks.map nI)++b.ks.map nI)=_;rw[ahO,<-RW];unfold Cn.ks;rw[<-RW];rfl)) (fun a b i j_ n h hn=>by
  obtain⟨m,rfl⟩:=wt h<|jY _;have h:max a.h b.h+1<=m+1:=h;have hn:a.n+b.n+1<=900:=hn;have f:=i m #[24] #[24];have g:=j_ m #[24] #[24];have l1:=lY a;have l2:=lY b;rw[jM,dU];exact ao<|(skip<|wc (c:=.or a b) (show ¬(afS "or")="test" by trivial)).trans<|((ag<|((aV<|yu f<|by rw[iF];simp;omega).trans<|(aV<|yu g<|by rw[iF];simp;omega).trans rfl)).trans<|ar<|by rw[ahO,<-RW];unfold Cn.ks;rw[<-RW];rfl))
structure Pt(c:Cn):Prop where
 k:∀k∈c.ks,k<3
 h:c.h<=13
 n:c.n<=29
 w:∃W,ia W c/\W.length<=3
theorem Dd(h:Pt c):cu [c.d]=.ok (.lst<|c.ks.map nI):=v9 c 100 (by have:=h.h;lia) (by have:=h.n;lia)
theorem GB(h:Pt c):ig [c.d]=.ok (.lst<|(cb c.ks).map nI):=let⟨W,h1,h2⟩:=h.w;(fun hW a h hn=>by
  have e:gT [c.d]=.ok (.lst<|c.cl.map bz):=by
   exact ao<|ar<|(lK c 100 ⊥<|⊥)
  have l:=gh c;refine ao (ar (ai (ac (ba (bh (e) rfl) (cw bz (fun p=>D.int p.1) c.cl (fun p _=>rfl) ⊥)) rfl) ?_));rw[<-Ua (sR hW a)];unfold Cn.ks;rw[af8];rfl) h2 h1 (by have:=h.h;omega) (by have:=h.n;omega)
theorem mem_set:k∈cb ks↔k∈ks:=by unfold cb;rw[ot];simp
theorem xo:∀c:Cn,∀x∈c.parts,x.h<=c.h/\x.n<=c.n:=crc (fun _ _ _ x hx=>by rw[acB.mp hx];mright) (fun _ i x hx=>by rw[acB.mp hx];lia) (fun a b i j_ x hx=>by
  show x.h<=max a.h b.h+1/\x.n<=a.n+b.n+1;rcases BY.mp hx with hx|hx
  .have:=i x hx;lia
  .have:=j_ x hx;lia) (fun _ _ i j_ x hx=>by rw[acB.mp hx];lia)
theorem oF(a:TrK tr ps W f):∀c∈fP f,Pt c:=fun c b=>by
 have ok:=CH a.g c b;have hW:W.length<=3:=by rw[a.w,iF];exact a.l1
 have hb:c.h<=hF f/\c.n<=nF f:=by
  cases f with
  |none=>exact nomatch b
  |some d=>exact xo d c b
 have:=a.h
 have:=a.n
 exact⟨sR hW ok,⊥,⊥,W,ok,hW⟩
theorem yj(a:TrK tr ps W f):(fP f).length<=29:=by
 have:=a.n
 cases f with
 |none=>exact acr _
 |some d=>exact DO (gL d) this
theorem C4(a:TrK tr ps W f):cJ [pw f]=.ok (.lst<|(fP f).map Cn.d):=xi (by have:=a.h;lia) (by have:=a.n;lia)
theorem rR(a:TrK tr ps W f):lV [pw f]=.ok (.lst<|(fP f).map Cn.d):=M4 (by have:=a.h;lia) (by have:=a.n;lia)
def UH(d:D):List Cn->D
 |[]=>d
 |c::r=>UH (.tup [.str "and",d,c.d]) r
def yG(p:D)(cs:List Cn):D:=match cs with
 |[]=>p
 |c::r=>.tup [.str "sieve",p,UH c.d r]
abbrev TgB:FS:=b8 1 Ya
theorem D8:∀(r:List Cn)(d:D)(o:Option D),∃b,bm (.one 2) TgB (r.map Cn.d) [a,Z d,o]=.ok (.nx [a,Z<|UH d r,b]):=bb (fun d o=>⟨o,rfl⟩) fun c r i d o=>by
  obtain⟨b,e⟩:=i (.tup [.str "and",d,c.d])<|c.d;refine⟨b,?_⟩;assumption
theorem abI:si (.lst<|d::r) (Z 1) L=.ok (.lst r):=by
 rw[xU,show(1:Int)=((1:Nat))from rfl,v3];rfl
theorem wV:lw [p,.lst<|cs.map Cn.d]=.ok (yG p cs):=by
 cases cs with
 |nil=>rfl
 | cons c r=>exact ao (ar ((ay (ac rfl (ac rfl (ac ((by
   obtain⟨o,e⟩:=D8 r c.d L;exact ao ((ag (am ((kB Cn.d (c::r) rfl)))).trans ((ag (bE (bh (abI) rfl) e)).trans rfl)))) rfl))))))
abbrev afI:FS:=gM (bG Vf) (b8 4<|ak 3) Y8
theorem DL:∀(r:List Cn)(n:Nat)(d:D)(h o3:Option D),∃f g,bm (.tup [2,3]) afI (aU (n+1)<|r.map Cn.d) [a,b,h,o3,Z d]=.ok (.nx [a,b,f,g,Z<|UH d r]):=bb (fun n d h o3=>⟨h,o3,rfl⟩) fun c r i n d h o3=>by
  obtain⟨f,g,e⟩:=i (n+1) (.tup [.str "and",d,c.d]) (Z<|.int<|(n+1))<|c.d;refine⟨f,g,?_⟩;assumption
theorem Py.nilE(h:∀d∈ds,Py k d)(a:k<=50):cW (.lst ds) (.lst [])=.ok (.bl<|decide (ds.length=0)):=by
 have:=Py.nil h a
 unfold nC at this;unfold cW;cases e:jG (.lst ds) (.lst [])with
 |none=>rw[e]at this;cases this
 |some b=>
  rw[e]at this;injection this with this
  injection this with this
  show R.ok (D.bl b)=_;have h2:b=!(0<ds.length):=by rw[<-this];simp
  rw[h2];congr 2;rw[ago];simp
theorem G7(h:Pt c):Py 13 c.d:=let⟨W,h1,_⟩:=h.w;(mi h1).mono h.h
theorem KF(h:∀c∈cs,Pt c):mH [p,.lst<|cs.map Cn.d]=.ok (yG p cs):=by
 have q:∀{a o3 o4:Option D},bG (aJ cW (ak 1)<|gm aA) [Z p,Z<|.lst<|cs.map Cn.d,a,o3,o4]=.ok (decide ((cs.map Cn.d).length=0)):=fun{a o3 o4}=>aB ((Py.nilE ((fun d b=>by
   obtain⟨c,f,rfl⟩:=rW.mp b;exact G7 (h c f))) ∎))
 cases cs with
 |nil=>rfl
 |cons c r=>
  obtain⟨a,o3,e⟩:=DL r 0 c.d (Z<|.int 0)<|c.d;have g:bm (.tup [2,3]) afI (aU 0<|(c::r).map Cn.d) [p,Z<|.lst<|(c::r).map Cn.d,L,L,L]=.ok (.nx [p,Z<|.lst<|(c::r).map Cn.d,a,o3,(UH c.d r)]):=by
   assumption
  exact ao<|(ag<|g).trans<|(skip<|q.trans rfl).trans rfl
theorem Qs:∀{r:List Cn}{d:D}{k:Nat},Py k d->13<=k->(∀c∈r,Pt c)->Py (k+r.length) (UH d r):=@bb _ _ (@fun d k h _ _=>h) fun c r i=>@fun d k h hk hr=>by
  have:=i (Qt ((Py.w (z:="and") rfl).mono<|acr _) h<|(G7<|hr c<|∅).mono hk) ⊥ fun x a=>hr x (by simp[a])
  exact this.mono (by simp;lia)
theorem wu(a:Py m p)(e:42<=m)(d:cs.length<=29)(h:∀c∈cs,Pt c):Py (m+1)<|yG p cs:=by
 cases cs with
 |nil=>exact a.mono ⊥
 |cons c r=>exact Qt ((Py.w rfl).mono<|acr _) a ((Qs (G7<|h c<|∅) ⊥ fun x b=>h x<|by simp[b]).mono<|by simp at d;lia)
def Vk(p:D):Prop:=∃w r,p=.tup (.str w::r)/\w≠"sieve"
theorem bare(h:Vk p):sP [yG p cs]=.ok p:=by
 obtain⟨w,r,rfl,hw⟩:=h;cases cs with
 |nil=>exact ao<|(skip<|DU (bp) rfl hw).trans rfl
 |cons c l=>rfl
theorem Wz(k:Nat)(J:alp):aad (nI k) (.lst<|J.map nI)=Z (decide (k∈J)):=by
 have h1:jQ (J.map nI)=(J.map fun(k:Nat)=>V.int k):=by
  induction J with
  |nil=>rfl
  |cons a r b=>show(Z<|V.int a).bind (fun v=>(jQ<|r.map nI).map (v::·))=_;rw[b];rfl
 show vJ (nI k) (J.map nI)=_;unfold vJ;rw[h1];show Z (_)=_;congr 1;unfold Gx;rw[ago];simp only[List.any_map,ajW,Function.comp_apply,decide_eq_true_eq];constructor
 .rintro⟨x,hx,e⟩;have e:((x:Int)==k)=U:=e
  grind
 .exact fun h=>⟨k,h,by show((k:Int)==k)=U;simp⟩
theorem JP(k:Nat)(J:alp):FB (nI k) (.lst<|J.map nI)=.ok (.bl<|decide (k∈J)):=by unfold FB;rw[Wz];rfl
theorem Wc(k:Nat)(J:alp):lm (nI k) (.lst<|J.map nI)=.ok (.bl<|!decide (k∈J)):=by unfold lm;rw[Wz];rfl
theorem PZ(a b:alp):jG (.lst<|a.map nI) (.lst<|b.map nI)=Z (decide (a=b)):=by
 have h1:∀a:alp,bH (a.map nI)=Z (a.map fun(k:Nat)=>ajK (k:Int)):=fun a=>by
  induction a with
  |nil=>rfl
  |cons x r f=>show(Z<|ajK (x:Int)).bind (fun v=>(bH<|r.map nI).map (v::·))=_;rw[f];rfl
 have h2:∀a b:alp,akJ (a.map fun(k:Nat)=>ajK (k:Int)) (b.map fun(k:Nat)=>ajK (k:Int))=decide (a=b):=fun a=>by
  induction a with
  |nil=>intro b;cases b<;>simp[akJ]
  |cons x r f=>
   intro b;cases b with
   |nil=>rfl
   |cons y s=>
    rw[Do,Do,akJ,f];show((x:Int)==y&&_)=_;rw[ago];simp[ai5]
 have py:∀a:alp,agk (.list<|a.map fun(k:Nat)=>ajK k)=U:=fun a=>by
  obtain⟨p,e,c,d⟩:=Py.lst (ds:=a.map nI) fun d g=>by
   obtain⟨k,_,rfl⟩:=rW.mp g;exact Py.int _
  have e:(bH<|a.map nI).map alc=p:=e;rw[h1]at e;cases e;exact Py.shaped c d ∎
 have e:∀a:alp,bM (.lst<|a.map nI)=Z (.list<|a.map fun(k:Nat)=>ajK k):=fun a=>by
  show(bH<|a.map nI).map alc=_;rw[h1];rfl
 show dC _ _=_;unfold dC;rw[e,e];dsimp only;rw[ali ⟨py a,py b⟩,agS,h2]
theorem NL(a b:alp):cW (.lst<|a.map nI) (.lst<|b.map nI)=.ok (.bl<|decide (a=b)):=by unfold cW;rw[PZ];rfl
theorem K5(a b:Nat):cW (nI a) (nI b)=.ok (.bl<|decide (a=b)):=by
 rw[ij];simp[ai5]
theorem Pq(a b:Nat):nC (nI a) (nI b)=.ok (.bl<|!decide (a=b)):=by
 rw[XW];simp[ai5]
def kK(k:Nat)(c:Cn):Bool:=decide (cb c.ks=[k])
def pj(k:Nat)(J:alp)(c:Cn):Bool:=decide (k∈cb c.ks)&&(decide (1<(cb c.ks).length)&&(cb c.ks).all fun n=>decide (n=k)||decide (n∈J))
theorem R1(h:Pt c):(cb c.ks).length<=3:=sub_len _<|fV _ [] ∎ h.k
theorem Bh(h:Pt c)(k:Nat)(J:alp):dQ [c.d,nI k,.lst<|J.map nI]=.ok (.bl<|pj k J c):=by
 have l:=R1 h;refine ao<|(ag<|am<|(GB h)).trans<|ar<|AM ((JP _ _))<|AM ((yX.trans ?_))<|M2 nI (fun n=>(n=k)||(n∈J)) rfl (fun n _=>Qc (af rfl rfl (K5 _ _))<|af rfl rfl (JP _ _)) ⊥
 congr 2
 grind
theorem KQ(h:Pt c)(k:Nat)(h1:φ Uq0=.ok c.d)(h2:ψ Uq0=.ok (nI k)):bG (aJ cW (aD ig<|aj φ aA)<|gm<|aj ψ aA) Uq0=.ok (kK k c):=
 aB (af (ai (ac h1 rfl)<|GB h) (aX<|ac h2 rfl)<|NL (cb c.ks) [k])
theorem rM(h:∀k∈ks,k<3)(b:k<3):cb ks=[k]↔k∈ks/\∀j∈ks,j=k:=by
 constructor
 .intro e;have m:∀j,j∈ks↔j=k:=fun j=>by rw[<-mem_set,e];simp
  mright
 .intro ⟨h1,h2⟩;have e:cb [k]=[k]:=by
   rfl
  rw[<-e];exact To h (fun j a=>by mright) fun j=>⟨fun a=>by grind,fun a=>by mright⟩
theorem set_nil:cb ks=[]↔ks=[]:=by
 constructor
 .intro e;cases ks with
  |nil=>rfl
  |cons a r=>
   have:a∈cb (a::r):=mem_set.mpr ∅
   mright
 .intro e;rw[e];rfl
def LC(J:alp)(k m:Nat)(c:Cn):Bool:=decide (k∈c.ks)&&(decide (m<=(c.ks.filter fun j=>!decide (j=k)).length)&&decide (((c.ks.filter fun j=>!decide (j=k)).filter fun j=>!decide (j∈J))=[]))
theorem DV{ks J:alp}:((ks.filter fun j=>!decide (j=k)).filter fun j=>!decide (j∈J))=[]↔∀j∈ks,j=k\/j∈J:=by
 rw[aiH];simp only[agb,ahL,decide_eq_false_iff_not,not_and,akV,and_imp];exact⟨fun h j a=>Classical.or_iff_not_imp_left.mpr<|h j a,fun h j a n=>(h j a).resolve_left n⟩
theorem og(h:∀k∈ks,k<3)(c:k∈ks):1<(cb ks).length↔∃j∈ks,j≠k:=by
 have f:=h k c;constructor
 .intro l;apply aiq
  intro n;have  := (rM h f).mpr ⟨c,fun j d=>aiq fun z=>n ⟨j,d,z⟩⟩;rw[this]at l;simp at l
 .rintro⟨j,d,n⟩;have a:=mem_set.mpr d;have b:=mem_set.mpr c
  match e:cb ks,a,b with
  |[x],a,b=>mright
  |x::y::r,_,_=>simp
abbrev ye:=(Nat×Nat)×(Nat×Nat)
def sV(e:ye):D:=.tup [bz e.1,bz e.2]
noncomputable def qu(k:Nat)(J:alp):Cn->List ye
 |.test z (.cel i p) (.cel j r)=>if z="="then(if i=k/\j∈J then[((i,p),(j,r))]else if j=k/\i∈J then[((j,r),(i,p))]else[])else[]
 |_=>[]
theorem HX{z:Str}(hz:z="="):qu k J (.test z (.cel i p)<|.cel j r)=if i=k/\j∈J then[((i,p),(j,r))]else if j=k/\i∈J then[((j,r),(i,p))]else[]:=ali hz
theorem wG(k:Nat)(J:alp)(c:Cn):(qu k J c).length<=1:=by
 unfold qu;split
 .split
  .split
   .simp
   .split<;>simp
  .simp
 .simp
abbrev ady:FT:=jc (bG QE)<|jc (bG Ph)<|rq Pm
abbrev Z2:FS:=gM ady Vn br
abbrev F9(a:Option D)(k:Nat)(J:alp)(es:List ye)(o4:Option D):Sd:=[a,Z<|nI k,Z<|.lst<|J.map nI,Z<|.lst<|es.map sV,o4]
theorem Dy:F9 a k J (es++[e]) o=[a,Z<|nI k,Z<|.lst<|J.map nI,Z<|.lst<|es.map sV++[sV e],o]:=∅
theorem O4(h:Pt<|.test z a b)(g:k∉J)(hz:z="="):pj k J (.test z a b)=!(qu k J<|.test z a b).isEmpty:=by
 have ks:∀{a b:Sid},(Cn.test z a b).ks=(a.cl++b.cl).map IF:=rfl;have hn:∀{a b:Sid},Pt (.test z a b)->(¬∃i p j r,a=.cel i p/\b=.cel j r)->pj k J (.test z a b)=η:=by
  intro a b h n;have l:(Cn.test z a b).ks.length<=1:=by
   cases a with
   |val v=>cases b<;>simp[ks,Sid.cl]
   |cel i p=>cases b with
    |val v=>simp[ks,Sid.cl]
    |cel j r=>exact absurd ⟨i,p,j,r,rfl,rfl⟩ n
  apply ahM.mpr
  intro e;unfold pj at e;simp only[afU,decide_eq_true_eq,mem_set]at e;obtain⟨h1,h2,_⟩:=e;obtain⟨j,d,f⟩:=(og h.k h1).mp h2
  match e:(Cn.test z a b).ks,l,h1,d with
  |[x],_,h1,d=>exact f<|(acB.mp d).trans (acB.mp h1).symm
 cases a with
 |val v=>rw[hn h (fun q_=>Z42 q_ fun _ _ _ _ e _=>nomatch e)];rfl
 |cel i p=>cases b with
  |val v=>rw[hn h (fun q_=>Z42 q_ fun _ _ _ _ _ e=>nomatch e)];rfl
  |cel j r=>
   have m:∀n,n∈cb (Cn.test z (.cel i p)<|.cel j r).ks↔n=i\/n=j:=fun n=>by rw[mem_set,ks];simp[Sid.cl]
   have two:k=i\/k=j->(1<(cb (Cn.test z (.cel i p)<|.cel j r).ks).length↔i≠j):=fun c=>by
    rw[og h.k<|mem_set.mp<|(m k).mpr c];constructor
    .rintro⟨n,hn,ne⟩ e;rcases(m n).mp (mem_set.mpr hn)with rfl|rfl<;>rcases c with rfl|rfl<;>mright
    .intro ne;rcases c with rfl|rfl
     .exact⟨j,mem_set.mp<|(m j).mpr<|.inr rfl,fun e=>ne e.symm⟩
     .exact⟨i,mem_set.mp<|(m i).mpr<|.inl rfl,ne⟩
   unfold pj;rw[HX hz]
   grind
theorem Oa(h:Pt c)(o:k∉J)(u:es.length<900):Z2 (F9 a k J es<|Z c.d)=.ok (.nx<|F9 a k J (es++qu k J c)<|Z c.d):=by
 have q:bG QE (F9 a k J es<|Z c.d)=.ok (decide (c.w="test")):=gj (af rfl rfl (Uk c)) rfl;have m:¬c.w="test"->qu k J c=[]->Z2 (F9 a k J es<|Z c.d)=.ok (.nx<|F9 a k J (es++qu k J c)<|Z c.d):=fun n e=>by
  rw[e,agh];exact(bt<|hU<|q.trans<|by rw[alk n]).trans rfl
 cases c with
 |neg c=>exact m wy.1 rfl
 |and x y=>exact m wy.2.1 rfl
 |or x y=>exact m wy.2.2 rfl
 |test z x y=>
  have hz:bG Ph (F9 a k J es<|Z (Cn.test z x y).d)=.ok (decide (z="=")):=gj #[22] rfl;have t:rq Pm (F9 a k J es<|Z (Cn.test z x y).d)=.ok (pj k J<|.test z x y):=cK (ai (ac rfl #[2])<|Bh h k J) rfl;have b:=iL q<|iL hz t;by_cases l:z="="
  .by_cases hc:qu k J (.test z x y)=[]
   .rw[hc,agh];rw[O4 h o l,hc]at b;exact(bt<|b.trans<|∅).trans rfl
   .rw[O4 h o l]at b;have b:ady (F9 a k J es<|Z (Cn.test z x y).d)=.ok U:=b.trans (by rw[alm l,alm (show(Cn.test z x y).w="test"from rfl)];cases e:qu k J (.test z x y)with|nil=>exact absurd e hc|cons _ _=>rfl);refine(aK b).trans ?_;cases x with
    |val v=>exact absurd rfl hc
    |cel i p=>cases y with
     |val v=>exact absurd rfl hc
     |cel j r=>
      have s:bG ZM (F9 a k J es<|Z (Cn.test z (.cel i p)<|.cel j r).d)=.ok (decide (i=k)):=aB<|af (af (af rfl rfl dw) rfl bx) rfl (K5 i k);rw[HX l]at hc⊢;by_cases f:i=k
      .by_cases c2:j∈J
       .rw[ali ⟨f,c2⟩];refine(aK<|s.trans<|by rw[alm f]).trans<|(cP rfl (ay<|ac (af rfl rfl dw)<|ac (af rfl rfl zL) rfl) (by rw[iF];omega)).trans ?_;rw[Dy];rfl
       .rw[alj fun e=>c2 e.2]at hc;by_cases g:j=k/\i∈J
        .exact absurd (f▸g.2) o
        .rw[alj g]at hc;exact absurd rfl hc
      .rw[alj fun e=>f e.1]at hc⊢;by_cases g:j=k/\i∈J
       .rw[ali g];refine(bt<|s.trans<|by rw[alk f]).trans<|(cP rfl (ay<|ac (af rfl rfl zL)<|ac (af rfl rfl dw) rfl) (by rw[iF];omega)).trans ?_;rw[Dy];rfl
       .rw[alj g]at hc;exact absurd rfl hc
  .have e:qu k J (.test z x y)=[]:=by
    unfold qu;split
    .mright
    .rfl
   rw[e,agh];exact(bt<|b.trans<|⊥).trans rfl
theorem eq_loop{a:Option D}{k:Nat}{J:alp}(f:k∉J):∀(cs:List Cn)(es:List ye)(o:Option D),(∀c∈cs,Pt c)->es.length+cs.length<900->∃b,bm (.one 4) Z2 (cs.map Cn.d) (F9 a k J es o)=.ok (.nx<|F9 a k J (es++cs.flatMap (qu k J)) b):=bb (fun es o _ _=>⟨o,by simp[bm]⟩) fun c r i es o h hl=>by
  have l:=wG k J c;obtain⟨b,e⟩:=i (es++qu k J c) (c.d) (fun x g=>h x<|by simp[g]) (by grind);refine⟨b,?_⟩;have t:Z2 (ahu (F9 a k J es o) 4<|c.d)=_:=Oa (h c<|∅) f ⊥;rw[Do,aV t,e,aha,af4]
def eqs(k:Nat)(J:alp)(cs:List Cn):List ye:=cs.flatMap<|qu k J
theorem Uv(a:k∉J)(h:∀c∈cs,Pt c)(b:cs.length<=29):qr [.lst<|cs.map Cn.d,nI k,.lst<|J.map nI]=.ok (.lst<|(eqs k J cs).map sV):=by
 obtain⟨o,e⟩:=eq_loop a cs [] L h (by simp;lia);exact ao<|((ag<|e).trans rfl)
theorem rL:∀(cs:List Cn),(eqs k J cs).length<=cs.length:=bb (nE _) fun c r i =>by
  have:=i
  have:=wG k J c
  unfold eqs at *
  grind
noncomputable def ow(q:Tq):Nat->List (Str×Str)->alp
 |_,[]=>[]
 |p,c::r=>(if c.1∈q.ids.map IF then[p]else[])++ow q (p+1) r
theorem Cm:∀{cs:List<|Str×Str}{p m:Nat},m∈ow q p cs↔∃i c,m=p+i/\cs[i]?=Z c/\c.1∈q.ids.map IF:=@bb _ _ (@fun p m=>by simp[ow]) fun c r j=>@fun p m=>by
  unfold ow;rw[BY,j];constructor
  .rintro(h|⟨i,d,e,h1,h2⟩)
   .cbv
    .rename_i hc;exact⟨0,c,by simpa using h,rfl,hc⟩
    .nofun
   .exact⟨i+1,d,⊥,by simpa using h1,h2⟩
  .intro k;refine Z23 k fun i d e h1 h2=>?_;cases i with
   |zero=>
    grind
   |succ i=>exact .inr ⟨i,d,⊥,by simpa using h1,h2⟩
abbrev UG:FT:=bG Y3
theorem Ds:∀(cs:List<|Str×Str)(p:Nat),cV (.tup [0,1]) UG (ak 0) [L,L,Z q.d] (aU p<|cs.map b6)=.ok ((ow q p cs).map nI):=bb (fun p=>rfl) fun c r i p=>by
  have a:=i<|p+1;have e:cV (.tup [0,1]) UG (ak 0) [L,L,Z q.d] (aU p<|(c::r).map b6)=(UG [Z<|nI p,Z<|b6 c,Z q.d]).bind fun b=>if b=U then(ak 0 [(nI p),(b6 c),q.d]).bind fun y=>(cV (.tup [0,1]) UG (ak 0) [L,L,q.d]<|aU (p+1)<|r.map b6).bind fun ys=>.ok (y::ys)else cV (.tup [0,1]) UG (ak 0) [L,L,q.d] (aU (p+1)<|r.map b6):=rfl;have t:UG [(nI p),(b6 c),q.d]=.ok ((c.1∈q.ids.map IF)):=aB<|(CG.trans<|by rw[GC]);rw[e,t,a,show ow q p (c::r)=(if c.1∈q.ids.map IF then[p]else[])++ow q (p+1) r from rfl];by_cases h:c.1∈q.ids.map IF
  .rw[alm h,ali h];rfl
  .rw[alk h,alj h];rfl
structure Src(tr:D)(ps:List (Tq×Str))(W:Wl)(f:Option Cn)(qs:List Tq)(k:Nat)(q:Tq):Prop where
 t:TrK tr ps W f
 n:(qs.map Tq.nm).Nodup
 p:∃p,ps[k]?=Z p/\q.nm=p.1.nm/\q.cs=p.1.cs
 m:q∈qs
 c:q.cs.length<=8
def zV(q:Tq)(f:Option Cn)(k:Nat):aly:=F3 k::NB q f k 0 q.cs
theorem Src.ways(S:Src tr ps W f qs k q):wP [tr,.dcf<|dg qs,nI k]=.ok (.lst<|zV q f k):=let⟨p,e,e1,_⟩:=S.p;T73.ways S.t S.n e S.m e1 S.c
theorem Src.places(S:Src tr ps W f qs k q):jj [tr,.dcf<|dg qs,nI k]=.ok (.lst<|(ow q 0 q.cs).map nI):=by
 obtain⟨p,e,a,_⟩:=S.p
 have:=S.c
 exact ao<|(ag<|am<|ai rfl (z7 S.t S.n e S.m a)).trans<|ar<|(n4 rfl (by rw[gz,iF];lia) (Ds q.cs 0))
theorem Cg:∀(cs:List<|Str×Str)(p:Nat),(NB q f k p cs).length<=cs.length:=bb (fun p=>nE _) fun c r i p=>by
  have:=i<|p+1
  have h1:(OE q f k p c).length<=1:=by unfold OE;split<;>simp
  unfold NB
  grind
theorem Src.wl(S:Src tr ps W f qs k q):(zV q f k).length<=9:=by
 have:=Cg (q:=q) (f:=f) (k:=k) q.cs 0
 have:=S.c
 unfold zV;rw[afW];lia
inductive Jt where
 |pair (w:D)
 |mat (e:ye)
 |mrg (e:ye)
def Jt.full(k:Nat)(al:List Cn)(pl:D):Jt->D
 |.pair w=>.tup [.str "pair",pl,yG w al]
 |.mat e=>.tup [.str "match",pl,nI k,nI e.1.2,nI e.2.1,nI e.2.2]
 |.mrg e=>.tup [.str "merge",pl,yG (F3 k) al,nI e.2.1,nI e.2.2,nI k,nI e.1.2]
def Jt.cs(xa ei:List Cn):Jt->List Cn
 |.pair _=>xa
 |.mat _=>ei
 |.mrg _=>xa
def Jt.ch(k:Nat):Jt->D
 |.pair w=>.tup [.str "pair",w]
 |.mat e=>.tup [.str "match",nI e.1.2,nI e.2.1,nI e.2.2]
 |.mrg e=>.tup [.str "merge",F3 k,nI e.2.1,nI e.2.2,nI k,nI e.1.2]
def UN(ws:aly)(es:List ye)(ix:alp):List Jt:=ws.map .pair++((es.filter fun e=>decide (e.1.2∈ix)).map .mat++es.map .mrg)
def Jt.two(k:Nat)(al xa ei:List Cn)(j:Jt):D:=.tup [j.full k al .non,.lst<|(j.cs xa ei).map Cn.d]
abbrev aaC:FS:=gM (bG P4) Wm br
abbrev ad4:FS:=aZ 11 ZI
section
variable{a0 a1 a3 a4 a5 a8:Option D}{k:Nat}{al xa ei:List Cn}{ix:alp}{wd:D}
abbrev JR(a0 a1:Option D)(k:Nat)(a3 a4 a5:Option D)(xa ei:List Cn)(a8:Option D)(ix:alp)(wd:D)(l:aly)(rK a:Option D):Sd:=[a0,a1,Z<|nI k,a3,a4,a5,Z<|.lst<|xa.map Cn.d,Z<|.lst<|ei.map Cn.d,a8,Z<|.lst<|ix.map nI,Z wd,Z<|.lst l,rK,a]
theorem xL:∀(es:List ye)(l:aly)(rK a:Option D),l.length+es.length<900->∃p q,bm (.tup [12,13]) aaC (es.map sV) (JR a0 a1 k a3 a4 a5 xa ei a8 ix wd l rK a)=.ok (.nx<|JR a0 a1 k a3 a4 a5 xa ei a8 ix wd (l++((es.filter fun e=>decide (e.1.2∈ix)).map Jt.mat).map (Jt.two k al xa ei)) p q):=bb (fun l rK a _=>⟨rK,a,by simp[bm]⟩) fun e r i l rK a hl=>by
  have q:bG P4 (JR a0 a1 k a3 a4 a5 xa ei a8 ix wd l (Z<|bz e.1)<|Z<|bz e.2)=.ok (decide (e.1.2∈ix)):=aB<|af (af rfl rfl dw) rfl (JP _ _);by_cases h:e.1.2∈ix
  .obtain⟨p,q',g⟩:=i (l++[Jt.two k al xa ei<|.mat e]) (Z<|bz e.1) (Z<|bz e.2) (by simp at hl⊢;lia);refine⟨p,q',?_⟩;have t:aaC (((JR a0 a1 k a3 a4 a5 xa ei a8 ix wd l rK a).set 12<|Z<|bz e.1).set 13<|Z<|bz e.2)=.ok (.nx<|JR a0 a1 k a3 a4 a5 xa ei a8 ix wd (l++[Jt.two k al xa ei<|.mat e]) (Z<|bz e.1)<|Z<|bz e.2):=(aK<|q.trans<|by rw[alm h]).trans<|cP rfl (ay<|ac (ay<|ac rfl (ac rfl (ac rfl (ac (af rfl rfl dw)<|ac #[22]<|ac (af rfl rfl dw) rfl))))<|ac rfl rfl) (by simp at hl;lia);have b:=il (r:=r.map sV) t;rw[Do];refine b.trans<|g.trans ?_;rw[ahk<|by simpa using h];simp
  .obtain⟨p,q',g⟩:=i l (Z<|bz e.1) (Z<|bz e.2) (by simp at hl⊢;lia);refine⟨p,q',?_⟩;have t:aaC (((JR a0 a1 k a3 a4 a5 xa ei a8 ix wd l rK a).set 12<|Z<|bz e.1).set 13<|Z<|bz e.2)=.ok (.nx<|JR a0 a1 k a3 a4 a5 xa ei a8 ix wd l ((bz e.1))<|(bz e.2)):=(bt<|q.trans<|by mright).trans rfl;have b:=il (r:=r.map sV) t;refine b.trans<|?_;mright
theorem EB:∀(es:List ye)(l:aly)(rK a:Option D),l.length+es.length<900->∃p q,bm (.tup [12,13]) ad4 (es.map sV) (JR a0 a1 k a3 a4 a5 xa ei a8 ix (yG (F3 k) al) l rK a)=.ok (.nx<|JR a0 a1 k a3 a4 a5 xa ei a8 ix (yG (F3 k) al) (l++(es.map Jt.mrg).map (Jt.two k al xa ei)) p q):=bb (fun l rK a _=>⟨rK,a,by simp[bm]⟩) fun e r i l rK a hl=>by
  obtain⟨p,q',g⟩:=i (l++[Jt.two k al xa ei<|.mrg e]) ((bz e.1)) ((bz e.2)) (by simp at hl⊢;lia);refine⟨p,q',?_⟩;have t:ad4 (((JR a0 a1 k a3 a4 a5 xa ei a8 ix (yG (F3 k) al) l rK a).set 12<|(bz e.1)).set 13<|(bz e.2))=.ok (.nx<|JR a0 a1 k a3 a4 a5 xa ei a8 ix (yG (F3 k) al) (l++[Jt.two k al xa ei<|.mrg e]) ((bz e.1))<|(bz e.2)):=cP rfl rfl ⊥;have b:=il (r:=r.map sV) t;refine b.trans<|g.trans ?_;simp
end
theorem Src.joints(S:Src tr ps W f qs k q)(j:k∉J)(s:J.length<=3):km [tr,.dcf<|dg qs,nI k,.lst<|J.map nI]=.ok (.lst<|(UN (zV q f k) (eqs k J<|fP f)<|ow q 0 q.cs).map<|Jt.two k ((fP f).filter<|kK k) ((fP f).filter<|pj k J)<|(fP f).filter fun c=>kK k c||pj k J c):=by
 have g:=oF S.t;have l:=yj S.t;have wl:=S.wl;have p:=rL (k:=k) (J:=J)<|fP f;have h:=cp (rest:=[Z<|nI k]) (τ:=bG Jq) (ε:=ak 0) Cn.d Cn.d (kK k) (fP f) (fun c a=>KQ (g c a) k rfl rfl) (fun _ _ _=>rfl) #[24];have n:=cp (rest:=[Z<|nI k,Z<|.lst<|J.map nI]) (τ:=rq Qa) (ε:=ak 0) Cn.d Cn.d (pj k J) (fP f) (fun c a=>cK (ai (ac rfl #[2])<|Bh (g c a) k J) rfl) (fun _ _ _=>rfl) #[24];have i:=cp (rest:=[Z<|nI k,Z<|.lst<|J.map nI]) (τ:=Bo (bG Jq)<|rq Qa) (ε:=ak 0) Cn.d Cn.d (fun c=>kK k c||pj k J c) (fP f) (fun c a=>Qu (KQ (g c a) k rfl rfl)<|cK (ai (ac rfl #[2])<|Bh (g c a) k J) rfl) (fun _ _ _=>rfl) #[24]
 have b:=cw (rest:=[Z<|.lst<|((fP f).filter<|pj k J).map Cn.d,Z<|.lst<|((fP f).filter<|kK k).map Cn.d]) (ε:=dj<|aj Yb<|aj (ak 1) aA) (fun w:D=>w) (fun w=>Jt.two k ((fP f).filter<|kK k) ((fP f).filter<|pj k J) ((fP f).filter fun c=>kK k c||pj k J c)<|.pair w) (zV q f k) (fun w _=>ay<|ac (ay<|ac rfl (ac rfl (ac (ai #[2] wV) rfl)))<|ac rfl rfl) ⊥
 rw[aiS]at b;obtain⟨o,m,g1⟩:=xL (a0:=Z tr) (a1:=Z<|.dcf<|dg qs) (k:=k) (a3:=Z<|.lst<|J.map nI) (a4:=Z<|.lst<|(fP f).map Cn.d) (a5:=Z<|.lst<|((fP f).filter<|kK k).map Cn.d) (xa:=(fP f).filter<|pj k J) (ei:=(fP f).filter fun c=>kK k c||pj k J c) (a8:=Z<|.lst<|(eqs k J<|fP f).map sV) (ix:=ow q 0 q.cs) (wd:=yG (F3 k)<|(fP f).filter<|kK k) (al:=(fP f).filter<|kK k) (eqs k J<|fP f) ((zV q f k).map fun w=>Jt.two k ((fP f).filter<|kK k) ((fP f).filter<|pj k J) ((fP f).filter fun c=>kK k c||pj k J c)<|.pair w) L L (by rw[iF];lia)
 have r:=agr (fun e:ye=>decide (e.1.2∈ow q 0 q.cs))<|eqs k J<|fP f;obtain⟨o3,o4,g2⟩:=EB (a0:=Z tr) (a1:=Z<|.dcf<|dg qs) (k:=k) (a3:=Z<|.lst<|J.map nI) (a4:=Z<|.lst<|(fP f).map Cn.d) (a5:=Z<|.lst<|((fP f).filter<|kK k).map Cn.d) (xa:=(fP f).filter<|pj k J) (ei:=(fP f).filter fun c=>kK k c||pj k J c) (a8:=Z<|.lst<|(eqs k J<|fP f).map sV) (ix:=ow q 0 q.cs) (al:=(fP f).filter<|kK k) (eqs k J<|fP f) (((zV q f k).map fun w=>Jt.two k ((fP f).filter<|kK k) ((fP f).filter<|pj k J) ((fP f).filter fun c=>kK k c||pj k J c)<|.pair w)++(((eqs k J<|fP f).filter fun e=>decide (e.1.2∈ow q 0 q.cs)).map Jt.mat).map (Jt.two k ((fP f).filter<|kK k) ((fP f).filter<|pj k J)<|(fP f).filter fun c=>kK k c||pj k J c)) o m (by simp;lia)
 rw[yA,fT];refine ao ?_;refine(ag<|am<|ai (ac (af rfl rfl S.t.c) rfl)<|C4 S.t).trans ?_;refine(ag<|am<|ba (bh rfl rfl) h).trans ?_;refine(ag<|am<|ba (bh rfl rfl) n).trans ?_;refine(ag<|am<|ba (bh rfl rfl) i).trans ?_;refine(ag<|am<|ai (ac rfl #[2])<|Uv j g l).trans ?_;refine(ag<|am<|ai (ac rfl #[2]) S.places).trans ?_;refine(ag<|am<|ai (ac (ay<|ac rfl (ac rfl rfl))<|ac rfl rfl) wV).trans ?_;refine(ag<|gg (k:=11)<|ba (bh (ai (ac rfl #[2]) S.ways) rfl) b).trans ?_;refine(ag<|g1).trans ?_;refine(ag<|g2).trans ?_;show R.ok (_)=_;unfold UN;simp
theorem Aj{w:Str}(hw:(w.cps.toList.all fun c=>tab.contains c)=U)(b:Py 46 d)(h:¬w="test"):cW (.tup [.str w,d]) (.tup [.str "test",.str "="])=.ok (.bl η):=by
 obtain⟨p,q,a,g,e⟩:=jE (Py.two ((Py.w hw).mono<|acr 46) b) (Py.two (Py.w (z:="test")<|⊤)<|Py.w (z:="=") rfl) ∎ ∎ rfl;unfold cW;rw[e];obtain⟨x,f,_⟩:=b;have a:(bH [.str w,d]).map ajq=Z p:=a;rw[show bH [.str w,d]=Z [.str w,x] by show(Z<|PyData.str w).bind (fun p=>((bM d).bind fun p=>(Z []).map (p::·)).map (p::·))=_;rw[f];rfl]at a;cases a;cases g;show R.ok (D.bl<|(w=="test")&&_)=_
 lia
abbrev aeu:FT:=jc (bG Qm) WU
abbrev Y9:FE:=aJ bw (aJ bw G5<|ak 4)<|vC<|.int 0
abbrev aeF:FS:=gM P6 (aW (b8 10<|aJ bw (aJ bw (aJ bw (yn "Table" "shape"<|aJ AN (ak 1) Y9)<|vC<|.int 1) Ix)<|vC<|.int 0)<|aW (gM (bG<|aJ Br (dj<|aj Y9<|aj (ak 10) aA)<|ak 2) Wv br)<|aZ 6 P5) br
abbrev acG:FS:=gM aeu (nA VJ (.tup [8,9]) aeF) br
abbrev u5(tr:D)(qs:List Tq)(JJ:List<|Str×Str)(J:alp)(k:Nat)(l m:aly)(o7 o8 o9 o10:Option D):Sd:=[Z tr,Z<|.dcf<|dg qs,Z<|.lst<|JJ.map iV,Z<|.lst<|J.map nI,Z<|nI k,Z<|.lst l,Z<|.lst m,o7,o8,o9,o10]
noncomputable def one(k:Nat)(J:alp)(a b:Nat×Nat):List ye:=if a.1=k/\b.1∈J then[(a,b)]else[]
def vm(ix:alp)(k:Nat)(es:List ye):aly:=((es.filter fun e=>decide (e.1.2∈ix)).map Jt.mat).map<|Jt.ch k
def y8(k:Nat)(es:List ye):aly:=(es.map Jt.mrg).map<|Jt.ch k
theorem J9(S:Src tr ps W f qs k q)(v:IxK q JJ)(F:uz W a)(I:l.length<900)(K:m.length<900):∃o,aeF (u5 tr qs JJ J k l m o7 (Z<|bz a) (Z<|bz b) o10)=.ok (.nx<|u5 tr qs JJ J k (l++vm (ow q 0 q.cs) k (one k J a b)) (m++y8 k (one k J a b)) o7 (Z<|bz a) (Z<|bz b) o):=by
 have t:P6 (u5 tr qs JJ J k l m o7 (Z<|bz a) (Z<|bz b) o10)=.ok (decide (a.1=k)&&decide (b.1∈J)):=iL (aB<|af #[22] rfl (K5 _ _))<|aB<|af #[22] rfl (JP _ _);unfold one;by_cases h:a.1=k/\b.1∈J
 .rw[ali h];refine Z13 S.p fun p C G H=>?_;obtain⟨r,hr,g⟩:=F;have E:a.2<q.cs.length:=by
   rw[S.t.w,h.1,agH,C]at hr;cases hr;unfold qk at g;rw[iF,<-H]at g;exact g
  have y:q.cs[a.2]?=Z q.cs[a.2]:=lE E;have nm:∀{o10:Option D},Y9 (u5 tr qs JJ J k l m o7 (Z<|bz a) (Z<|bz b) o10)=.ok (.str q.nm):=G▸af (af (af rfl rfl S.t.s) rfl (JH V1 ps C)) rfl bp;have x:aJ bw (aJ bw (aJ bw (yn "Table" "shape"<|aJ AN (ak 1) Y9)<|vC<|.int 1) Ix) (vC<|.int 0) (u5 tr qs JJ J k l m o7 (Z<|bz a) (Z<|bz b) o10)=.ok (.str (q.cs[a.2]).1):=af (af (af (xj (af rfl nm (Bx<|GM Tq.d S.n S.m)) rfl) rfl bx) (af rfl rfl dw)<|JH b6 q.cs y) rfl bp;have A:∀{o10:Option D},bG (aJ Br (dj<|aj Y9<|aj (ak 10) aA)<|ak 2) (u5 tr qs JJ J k l m o7 (Z<|bz a) (Z<|bz b)<|Z<|.str (q.cs[a.2]).1)=.ok (decide (a.2∈ow q 0 q.cs)):=fun{_}=>aB (af (ay<|ac nm<|ac rfl rfl) rfl (by
   show Br (iV (q.nm,(q.cs[a.2]).1)) _=_;unfold Br;rw[Hr (q:=(q.nm,(q.cs[a.2]).1)) v.n (v.c _<|afV E) v.j];show R.ok (D.bl _)=_;congr 2;rw[ago];simp only[decide_eq_true_eq];rw[v.m,Cm];constructor
   .exact fun z=>⟨a.2,_,⊥,y,z⟩
   .rintro⟨i,c,e,hi,hz⟩
    have:i=a.2:=⊥
    subst this;rw[y]at hi;cases hi;exact hz))
  refine⟨Z<|.str (q.cs[a.2]).1,?_⟩;refine(aK<|t.trans<|by rw[alm h.1,alm h.2];rfl).trans<|(ag<|am x).trans ?_;have B:∀(l:aly),aZ 6 P5 (u5 tr qs JJ J k l m o7 (Z<|bz a) (Z<|bz b)<|Z<|.str (q.cs[a.2]).1)=.ok (.nx<|u5 tr qs JJ J k l (m++[Jt.ch k<|.mrg (a,b)]) o7 (Z<|bz a) (Z<|bz b)<|Z<|.str (q.cs[a.2]).1):=fun l=>cP rfl (ay<|ac rfl (ac (ay<|ac rfl (ac rfl rfl))<|ac #[22]<|ac (af rfl rfl dw)<|ac rfl (ac (af rfl rfl dw) rfl))) ⊥;by_cases u:a.2∈ow q 0 q.cs
  .have e:vm (ow q 0 q.cs) k [(a,b)]=[Jt.ch k<|.mat (a,b)]:=by unfold vm;rw[ahk<|by simpa using u];rfl
   rw[e];exact(ag<|(aK<|(A (o10:=L)).trans<|by rw[alm u]).trans<|cP rfl (ay<|ac rfl (ac (af rfl rfl dw)<|ac #[22]<|ac (af rfl rfl dw) rfl)) ⊥).trans<|B _
  .have e:vm (ow q 0 q.cs) k [(a,b)]=[]:=by unfold vm;rw[ahY<|by simpa using u];rfl
   rw[e,agh];exact(skip<|(A (o10:=L)).trans<|by rw[alk u]).trans<|B _
 .rw[alj h];refine⟨o10,(bt<|?_).trans ?_⟩
  .lia
  .unfold vm y8;simp;rfl
theorem tR(h:φ Uq0=.ok a)(h1:lo' Uq0=.ok lo)(h2:hi' Uq0=.ok hi)(b:ve a lo hi=.ok d):CO ve φ lo' hi' Uq0=.ok d:=by
 unfold CO;rw[h,ax,h1,ax,h2,ax,b]
theorem OL{z:Str}(b:k∉J)(hz:z="="):one k J (i,p) (j,r)++one k J (j,r) (i,p)=qu k J (.test z (.cel i p)<|.cel j r):=by
 rw[HX hz];unfold one;by_cases a:i=k/\j∈J
 .mright
 .rw[alj a,alj a,ahO]
theorem D5(ix:alp)(k:Nat)(a b:List ye):vm ix k (a++b)=vm ix k a++vm ix k b:=by unfold vm;simp
theorem Ex(k:Nat)(a b:List ye):y8 k (a++b)=y8 k a++y8 k b:=by unfold y8;simp
theorem xm(ix:alp)(k:Nat)(a:List ye):(vm ix k a).length<=a.length:=by
 unfold vm;rw[iF,iF];exact agr _ _
theorem wS(k:Nat)(a:List ye):(y8 k a).length=a.length:=by unfold y8;simp
theorem Oh(k:Nat)(J:alp)(a b:Nat×Nat):(one k J a b).length<=1:=by unfold one;split<;>simp
theorem acd(a b:Sid):¬(a.w="cell"/\b.w="cell")->qu k J (.test z a b)=[]:=fun h=>by
 cases a with
 |val v=>rfl
 |cel i p=>cases b with
  |val v=>rfl
  |cel j r=>exact absurd ⟨rfl,rfl⟩ h
theorem MH(S:Src tr ps W f qs k q)(F:IxK q JJ)(s:ia W c)(E:Pt c)(I:k∉J)(N:l.length<800)(O:m.length<800):∃n o g,acG (u5 tr qs JJ J k l m (Z c.d) o8 o9 o10)=.ok (.nx<|u5 tr qs JJ J k (l++vm (ow q 0 q.cs) k (qu k J c)) (m++y8 k (qu k J c)) (Z c.d) n o g):=by
 have u:aeu (u5 tr qs JJ J k l m (Z c.d) o8 o9 o10)=.ok η->qu k J c=[]->∃n o g,acG (u5 tr qs JJ J k l m (Z c.d) o8 o9 o10)=.ok (.nx<|u5 tr qs JJ J k (l++vm (ow q 0 q.cs) k (qu k J c)) (m++y8 k (qu k J c)) (Z c.d) n o g):=fun t e=>by
  refine⟨o8,o9,o10,?_⟩;rw[e];refine(bt t).trans ?_;unfold vm y8;simp;rfl
 have two:∀{d:D},dj (aj (vC<|.str "test")<|aj (vC<|.str "=") aA) (u5 tr qs JJ J k l m (Z c.d) o8 o9 o10)=.ok (.tup [.str "test",.str "="]):=fun{_}=>ay<|ac rfl (ac rfl rfl);cases c with
 |neg d=>
  have A:Py 46 d.d:=(mi (c:=d) (W:=W) s).mono (by have h:=E.h;have:d.h+1<=13:=h;lia);exact u (hU<|aB<|af (tR rfl rfl (a9 rfl) rfl) (two (d:=.non))<|Aj (w:="not") ⊤ A wy.1) rfl
 |and x y=>
  have A:Py 46 x.d:=(mi (W:=W) s.1).mono (by have h:=E.h;have:max x.h y.h+1<=13:=h;omega);exact u (hU<|aB<|af (tR rfl rfl (a9 rfl) rfl) (two (d:=.non))<|Aj (w:="and") ⊤ A wy.2.1) rfl
 |or x y=>
  have A:Py 46 x.d:=(mi (W:=W) s.1).mono (by have h:=E.h;have:max x.h y.h+1<=13:=h;omega);exact u (hU<|aB<|af (tR rfl rfl (a9 rfl) rfl) (two (d:=.non))<|Aj (w:="or") ⊤ A wy.2.2) rfl
 |test z a b=>
  have H:bG Qm (u5 tr qs JJ J k l m (Z (Cn.test z a b).d) o8 o9 o10)=.ok (decide (z="=")):=aB (af (tR rfl rfl (a9 rfl) rfl) (two (d:=.non)) ((by
    rcases s.1 with rfl|rfl|rfl|rfl|rfl|rfl<;>kernel_rfl)))
  have K:bG P9 (u5 tr qs JJ J k l m (Z (Cn.test z a b).d) o8 o9 o10)=.ok (decide (a.w="cell")):=gj (af (af rfl rfl dw) rfl (zR a)) rfl;have G:bG Pc (u5 tr qs JJ J k l m (Z (Cn.test z a b).d) o8 o9 o10)=.ok (decide (b.w="cell")):=gj (af (af rfl rfl zL) rfl (zR b)) rfl;have t:=iL H<|iL K G;by_cases hz:z="="
  .by_cases hw:a.w="cell"/\b.w="cell"
   .cases a with
    |val v=>exact absurd hw.1 (by show ¬(afS "value")="cell";decide +kernel)
    |cel i p=>cases b with
     |val v=>exact absurd hw.2 (by show ¬(afS "value")="cell";decide +kernel)
     |cel j r=>
      have M:=Oh k J (i,p) (j,r);have Q:=xm (ow q 0 q.cs) k<|one k J (i,p) (j,r);have P:=wS k<|one k J (i,p) (j,r);obtain⟨B,g1⟩:=J9 (J:=J) (JJ:=JJ) (l:=l) (m:=m) (o7:=Z (Cn.test z (.cel i p)<|.cel j r).d) (o10:=o10) (a:=(i,p)) (b:=(j,r)) S F s.2.1 ⊥ ⊥;obtain⟨C,g2⟩:=J9 (J:=J) (JJ:=JJ) (l:=l++vm (ow q 0 q.cs) k (one k J (i,p) (j,r))) (m:=m++y8 k (one k J (i,p) (j,r))) (o7:=Z (Cn.test z (.cel i p)<|.cel j r).d) (o10:=B) (a:=(j,r)) (b:=(i,p)) S F s.2.2 (by rw[afR];lia) (by rw[afR];lia);refine⟨Z<|bz (j,r),Z<|bz (i,p),C,(aK<|t.trans<|by rw[alm hz,alm hw.1,alm hw.2];rfl).trans ?_⟩;refine bE (bh (aX<|ac (tR rfl (a9 rfl) rfl rfl)<|ac (ay<|ac (af rfl rfl zL)<|ac (af rfl rfl dw) rfl) rfl) rfl) ?_;refine(il (Uq0:=u5 tr qs JJ J k l m (Z (Cn.test z (.cel i p)<|.cel j r).d) o8 o9 o10) g1).trans ?_;refine(il (Uq0:=u5 tr qs JJ J k (l++vm (ow q 0 q.cs) k (one k J (i,p) (j,r))) (m++y8 k (one k J (i,p) (j,r))) (Z (Cn.test z (.cel i p)<|.cel j r).d) (Z<|bz (i,p)) (Z<|bz (j,r)) B) g2).trans ?_;rw[<-OL I hz,D5,Ex,af4,af4];rfl
   .refine u (t.trans ?_) (acd a b hw);congr 1;rw[ahM];intro e;simp only[afU,decide_eq_true_eq]at e;exact hw e.2
  .refine u (t.trans<|by rw[alk hz];rfl) ?_;unfold qu
   lia
theorem y9{JJ:List<|Str×Str}(S:Src tr ps W f qs k q)(o:IxK q JJ)(p:k∉J):∀(cs:List Cn)(l m:aly)(o7 o8 o9 o10:Option D),(∀c∈cs,ia W c/\Pt c)->l.length+cs.length<700->m.length+cs.length<700->∃i b j a,bm (.one 7) acG (cs.map Cn.d) (u5 tr qs JJ J k l m o7 o8 o9 o10)=.ok (.nx<|u5 tr qs JJ J k (l++vm (ow q 0 q.cs) k (eqs k J cs)) (m++y8 k (eqs k J cs)) i b j a):=bb (fun l m o7 o8 o9 o10 _ _ _=>⟨o7,o8,o9,o10,by simp[bm,eqs,vm,y8]⟩) fun c r I l m o7 o8 o9 o10 h hl hm=>by
  have A:=wG k J c;have C:=xm (ow q 0 q.cs) k<|qu k J c;have B:=wS k<|qu k J c;obtain⟨y,u,n,t⟩:=MH (l:=l) (m:=m) S o (h c<|∅).1 (h c<|∅).2 p ⊥ ⊥;refine Z41 (I (l++vm (ow q 0 q.cs) k (qu k J c)) (m++y8 k (qu k J c)) (c.d) y u n (fun x v=>h x<|by simp[v]) (by grind) (by grind)) fun s w z g e=>?_;refine⟨s,w,z,g,?_⟩;rw[Do,aV t,e];unfold eqs;rw[aha,D5,Ex,af4,af4]
theorem Ot(S:Src tr ps W f qs k q)(d:IxK q JJ)(i:k∉J):kq [tr,.dcf<|dg qs,.lst<|JJ.map iV,.lst<|J.map nI,nI k]=.ok (.lst<|(UN (zV q f k) (eqs k J<|fP f)<|ow q 0 q.cs).map<|Jt.ch k):=by
 have j:=oF S.t;have l:=yj S.t;have wl:=S.wl;have n:=rL (k:=k) (J:=J)<|fP f;have s:=xm (ow q 0 q.cs) k<|eqs k J<|fP f;have p:=wS k<|eqs k J<|fP f;have a:=cw (rest:=[]) (ε:=dj<|aj (vC<|.str "pair")<|aj (ak 0) aA) (fun w  => w) (fun w=>Jt.ch k<|.pair w) (zV q f k) (fun w _=>rfl) ⊥;rw[aiS]at a;refine Z41 (y9 S d i (fP f) ((zV q f k).map fun w=>Jt.ch k<|.pair w) [] L L L L (fun c b=>⟨CH S.t.g c b,j c b⟩) (by grind) (by simp;lia)) fun m o r h e=>?_;rw[yJ];refine ao ?_;refine(ag<|gg<|ba (bh (S.ways) rfl) a).trans ?_;refine(ag<|bE (bh (ai (ac (S.t.c) rfl)<|rR S.t) rfl) e).trans ?_;refine ar<|((sG ?_).trans ?_)
 .grind
 .unfold UN vm y8;simp
theorem OZ{β:Type}{rest:Sd}(u f:β->D)(xs:List β)(h:∀x∈xs,ε (Z (u x)::rest)=.ok (f x))(a:xs.length<=1000000):bS (.one 0) nL ε (L::rest) (xs.map u)=.ok (.lst<|xs.map f):=tW u f rfl a h
theorem yO(a:xs.length+ys.length<=1000000):eR (.lst xs) (.lst ys)=.ok (.lst<|xs++ys):=ali a
theorem V5(k n:Nat):bK (k:Int) (n+1)=nI k::bK ((k+1:Nat):Int) n:=by
 rw[nR];congr 2
theorem Cc(h1:φ Uq0=.ok (.int 1))(h2:ψ Uq0=.ok (nI<|n+1))(hn:n<=1000):uS (aj φ<|aj ψ aA) Uq0=.ok (bK ((1:Nat):Int) n):=by
 unfold uS;rw[ac h1<|ac h2 rfl,ax];unfold SL
 grind
section
variable(f:Option Cn)(qo:Nat->Tq)
def jt(J:alp)(k:Nat):List Jt:=UN (zV (qo k) f k) (eqs k J<|fP f)<|ow (qo k) 0 (qo k).cs
def JK(k:Nat):List Cn:=(fP f).filter<|kK k
def LF(J:alp)(k:Nat):List Cn:=(fP f).filter<|pj k J
def LJ(J:alp)(k:Nat):List Cn:=(fP f).filter fun c=>kK k c||pj k J c
def KI(k:Nat):List Cn:=(fP f).filter fun c=>decide (cb c.ks=[])||kK k c
abbrev uV:=D×aly
def Gz(J:alp)(k:Nat)(x:uV)(j:Jt):uV:=(yG (j.full k (JK f k) x.1)<|j.cs (LF f J k)<|LJ f J k,x.2++[j.ch k])
def BH(J:alp)(k:Nat)(a:List uV):List uV:=a.flatMap fun x=>(jt f qo J k).map<|Gz f J k x
def Rh:alp->alp->List uV->List uV
 |_,[],Lq0=>Lq0
 |J,k::r,Lq0=>Rh (J++[k]) r<|BH f qo J k Lq0
def Gw(k:Nat):List uV:=(zV (qo k) f k).map fun w=>(yG w<|KI f k,[w])
def DQ:alp->List uV
 |[]=>[]
 |k::r=>Rh f qo [k] r<|Gw f qo k
end
structure Ord(tr:D)(ps:List (Tq×Str))(W:Wl)(f:Option Cn)(qs:List Tq)(qo:Nat->Tq)(os:alp):Prop where
 s:∀k∈os,Src tr ps W f qs k<|qo k
 n:os.Nodup
 l:os.length<=3
theorem Bq{os:alp}(h:Ord tr ps W f qs qo os)(a:k∈os)(J:alp):(jt f qo J k).length<=67:=by
 have S:=h.s k a;have wl:=S.wl;have l:=yj S.t;have b:=rL (k:=k) (J:=J)<|fP f;unfold jt UN
 grind
theorem se{os:alp}(h:Ord tr ps W f qs qo os)(a:k∈os)(J:alp):∀Lq0:List uV,(BH f qo J k Lq0).length<=67*Lq0.length:=bb (nE _) fun x r i =>by
  have:=i
  have l:=Bq h a J;unfold BH at this⊢
  grind
theorem w6{os:alp}(h:Ord tr ps W f qs qo os)(a:k∈os):(Gw f qo k).length<=9:=by unfold Gw;rw[iF];exact(h.s k a).wl
theorem EU{al:List Cn}(j:Jt):kE [j.full k al .non,pl]=.ok (j.full k al pl):=by
 cases j<;>exact rfl
abbrev adK:FE:=aD lw<|aj Zo<|aj G5 aA
abbrev ac0:FS:=iw 10<|bW [L,Z 11] (gE<|ak 9) (.one 0) nL adK
abbrev PF(tr sd:D)(os:alp)(a3 a4 a5:Option D)(l6:aly)(o7 o8 o9 o10 o11:Option D):Sd:=[Z tr,Z sd,Z<|.lst<|os.map nI,a3,a4,a5,Z<|.lst l6,o7,o8,o9,o10,o11]
theorem CA{os:alp}(a:List Jt)(d:a.length<=67):∀(b:List uV)(acc:aly)(o11:Option D),acc.length+67*b.length<=1000000->∃c,bm (.one 11) ac0 (b.map IF) (PF tr sd os a3 a4 a5 l6 o7 o8 (Z<|.lst<|a.map<|Jt.two k (JK f k) (LF f J k)<|LJ f J k) (Z<|.lst acc) o11)=.ok (.nx<|PF tr sd os a3 a4 a5 l6 o7 o8 (Z<|.lst<|a.map<|Jt.two k (JK f k) (LF f J k)<|LJ f J k) (Z<|.lst<|acc++(b.flatMap fun x=>a.map<|Gz f J k x).map IF) c):=bb (fun acc o11 _=>⟨o11,by simp[bm]⟩) fun x r i acc o11 hl=>by
  have e:=cw (rest:=[Z x.1]) (ε:=adK) (Jt.two k (JK f k) (LF f J k)<|LJ f J k) (fun j=>(Gz f J k x j).1) a (fun j _=>(ai (ac ((EU j)) rfl) wV)) ⊥;obtain⟨p,g⟩:=i (acc++a.map fun j=>(Gz f J k x j).1) (x.1) (by grind);refine⟨p,?_⟩;have t:ac0 (ahu (PF tr sd os a3 a4 a5 l6 o7 o8 (Z<|.lst<|a.map<|Jt.two k (JK f k) (LF f J k)<|LJ f J k) (Z<|.lst acc) o11) 11<|x.1)=.ok (.nx<|PF tr sd os a3 a4 a5 l6 o7 o8 (Z<|.lst<|a.map<|Jt.two k (JK f k) (LF f J k)<|LJ f J k) (Z<|.lst<|acc++a.map fun j=>(Gz f J k x j).1)<|x.1):=B2 rfl (e) rfl (by grind);rw[Do,aV t,g,aha,RW,af8,af4];rfl
abbrev aeT:FS:=aW V3<|aW Yw<|aW (xx 10<|gm aA)<|aW (nA (gE<|ak 6) (.one 11) ac0)<|b8 6<|ak 10
theorem GZ(os:alp)(h:n<=os.length):si (.lst<|os.map nI) L (Z (n:Int))=.ok (.lst<|(os.take n).map nI):=by
 rw[xU,uA<|∅,agd,akI]
theorem ME{os:alp}{a3 a4 a5 o7 o8 o9 o10 o11:Option D}(h:Ord tr ps W f qs qo os)(e:os=J++k::r)(m:67*Lq0.length<=1000000):∃c d a b,aeT (PF tr (.dcf<|dg qs) os a3 a4 a5 (Lq0.map IF) (Z<|nI J.length) o8 o9 o10 o11)=.ok (.nx<|PF tr (.dcf<|dg qs) os a3 a4 a5 ((BH f qo J k Lq0).map IF) (Z<|nI J.length) c d a b):=by
 have i:k∈os:=by rw[e];simp
 have q:k∉J:=fun z=>by
  have:=h.n
  rw[e,ahN]at this;exact this.2.2 k z k ∅ rfl
 have u:=h.l;have o:os[J.length]?=Z k:=by rw[e];simp
 have j:os.take J.length=J:=by rw[e];simp
 have t:J.length<=os.length:=by rw[e];simp
 obtain⟨p,g⟩:=CA (tr:=tr) (sd:=.dcf<|dg qs) (os:=os) (a3:=a3) (a4:=a4) (a5:=a5) (o7:=Z<|nI J.length) (o8:=Z<|.lst<|J.map nI) (l6:=Lq0.map IF) (f:=f) (J:=J) (k:=k) (jt f qo J k) (Bq h i J) Lq0 [] o11 (by simpa using m);refine⟨Z<|.lst<|J.map nI,Z<|.lst<|(jt f qo J k).map<|Jt.two k (JK f k) (LF f J k)<|LJ f J k,Z<|.lst<|(BH f qo J k Lq0).map IF,p,?_⟩;refine(ag<|am<|cF rfl rfl (a9 rfl) ((GZ os t).trans<|by rw[j])).trans ?_;refine(ag<|am<|ai (ac rfl (ac rfl (ac (af rfl rfl (kB nI os o))<|ac rfl rfl)))<|(h.s k i).joints q<|⊥).trans ?_;refine(ag<|g).trans ?_;exact rfl
theorem Dt{os:alp}(h:Ord tr ps W f qs qo os):∀(r J:alp)(a:List uV)(o7 o8 o9 o10 o11:Option D),os=J++r->a.length*67^r.length<=1000000->∃j d l b c,bm (.one 7) aeT (bK (J.length:Int) r.length) (PF tr (.dcf<|dg qs) os a3 a4 a5 (a.map IF) o7 o8 o9 o10 o11)=.ok (.nx<|PF tr (.dcf<|dg qs) os a3 a4 a5 ((Rh f qo J r a).map IF) j d l b c):=bb (fun J a o7 o8 o9 o10 o11 _ _=>⟨o7,o8,o9,o10,o11,rfl⟩) fun k r y J a o7 o8 o9 o10 o11 e hl=>by
  have u:k∈os:=by rw[e];simp
  have q:=se h u J a;have p1:1<=67^r.length:=Nat.one_le_pow _ _ ∎;have h2:(BH f qo J k a).length*67^r.length<=1000000:=by
   refine DO (aii _ q)<|DO (?_) hl
   grind
  have h1:67*a.length<=1000000:=by
   refine DO ?_ hl;rw[akc 67];exact akx _<|aj3 _ p1
  obtain⟨w,s,m,o,t⟩:=ME (o7:=o7) h e h1;obtain⟨p,v,x,i,n,g⟩:=y (J++[k]) (BH f qo J k a) ((nI J.length)) w s m o (by rw[e];simp) h2;refine⟨p,v,x,i,n,?_⟩;rw[afW,V5,aV t];rw[afR]at g;exact g
theorem CW{os:alp}(h:Ord tr ps W f qs qo os):∀(r J:alp)(a:List uV),(∀k∈r,k∈os)->(Rh f qo J r a).length<=a.length*67^r.length:=bb (fun J a _=>by show a.length<=a.length*1;lia) fun k r i J a hr=>by
  have b:=se h (hr k<|∅) J a;have d:=i (J++[k]) (BH f qo J k a) fun x c=>hr x (by simp[c]);show(Rh f qo (J++[k]) r<|BH f qo J k a).length<=a.length*(67^r.length*67);refine DO d<|DO (aii _ b)<|?_
  lia
theorem pow_2(h:n<=2):67^n<=4489:=DO (Nat.pow_le_pow_right ∎ h) ∎
theorem rY{os:alp}(h:Ord tr ps W f qs qo os):(DQ f qo os).length<=40401:=by
 cases os with
 |nil=>exact acr _
 |cons k r=>
  have b:=w6 h (k:=k) ∅;have c:=CW h r [k] (Gw f qo k) fun x a=>by simp[a]
  have l:=h.l;have p:=pow_2 (by simp at l;omega);refine DO c (DO (akn b p)<|∎)
theorem J5{os:alp}(h:Ord tr ps W f qs qo os)(q:os≠[]):dq [tr,.dcf<|dg qs,.lst<|os.map nI]=.ok (.lst<|(DQ f qo os).map IF):=by
 cases os with
 |nil=>exact absurd rfl q
 |cons k r=>
  have S:=h.s k ∅;have j:=oF S.t;have l:=yj S.t;have wl:=S.wl;have a:=h.l;have b:=w6 h (k:=k) ∅;have p:=pow_2 (n:=r.length) (by simp at a;omega);have u:=cp (rest:=[Z<|nI k]) (τ:=Bo (bG<|aJ cW P8<|gm aA)<|bG Jq) (ε:=ak 0) Cn.d Cn.d (fun c=>decide (cb c.ks=[])||kK k c) (fP f) (fun c m=>Qu ((fun h h1 =>  aB<|af (ai (ac h1 rfl)<|GB h) rfl (NL (cb c.ks) [])) (j c m) rfl)<|KQ (j c m) k rfl rfl) (fun _ _ _=>rfl) ⊥
  have e:=cw (rest:=[Z<|.lst<|(KI f k).map Cn.d]) (ε:=aD lw<|aj (ak 0)<|aj (ak 1) aA) (fun w:D=>w) (fun w=>yG w<|KI f k) (zV (qo k) f k) (fun w _=>ai #[2] wV) ⊥;rw[aiS]at e;refine Z51 (Dt (a3:=Z<|.lst<|(fP f).map Cn.d) (a4:=Z<|nI k) (a5:=Z<|.lst<|(KI f k).map Cn.d) h r [k] (Gw f qo k) L L L L L rfl (DO (akn b p)<|∎)) fun y z A v x g=>?_;have o:(Gw f qo k).map IF=(zV (qo k) f k).map fun w=>yG w<|KI f k:=by unfold Gw;rw[af8];rfl
  rw[o]at g;rw[pT,cf];refine ao ?_;refine(ag<|am<|ai (ac (af rfl rfl S.t.c) rfl)<|C4 S.t).trans ?_;refine(ag<|am<|af rfl rfl (kB (i:=0) nI (k::r) rfl)).trans ?_;refine(ag<|am<|ba (bh rfl rfl) u).trans ?_;refine(ag<|am<|ba (bh (ai (ac rfl #[2]) S.ways) rfl) e).trans ?_;refine(ag<|bE (Cc (n:=r.length) rfl (bR rfl ((im _ _).trans<|by rw[afW])) (by simp at a;lia)) g).trans ?_;exact rfl
noncomputable def lz:Nat->List (alp)
 |1=>[[0]]
 |2=>[[0,1],[1,0]]
 |3=>[[0,1,2],[0,2,1],[1,0,2],[1,2,0],[2,0,1],[2,1,0]]
 |_=>[]
theorem Ky(a:1<=n)(h1:n<=3):n=1\/n=2\/n=3:=by omega
theorem SK(a:1<=n)(h1:n<=3):qG [.lst<|bK 0 n]=.ok (.lst<|(lz n).map fun os=>D.lst<|os.map nI):=by
 rcases Ky a h1 with rfl|rfl|rfl<;>kernel_rfl
theorem rQ(a:1<=n)(h1:n<=3):(lz n).length<=6/\∀os∈lz n,os.Nodup/\os.length=n/\os≠[]/\∀k∈os,k<n:=by
 rcases Ky a h1 with rfl|rfl|rfl<;>decide
structure Ask(tr:D)(ps:List (Tq×Str))(W:Wl)(f:Option Cn)(qs:List Tq)(qo:Nat->Tq):Prop where
 t:TrK tr ps W f
 s:∀k<ps.length,Src tr ps W f qs k<|qo k
theorem Ask.ord(A:Ask tr ps W f qs qo):∀os∈lz ps.length,Ord tr ps W f qs qo os:=fun os g=>by
 obtain⟨_,h⟩:=rQ A.t.l0 A.t.l1;obtain⟨a,b,c,d⟩:=h os g;exact⟨fun k e=>A.s k<|d k e,a,by rw[b];exact A.t.l1⟩
def AI(f:Option Cn)(qo:Nat->Tq)(n:Nat):List uV:=(lz n).flatMap<|DQ f qo
theorem D3{oss:List<|alp}(h:∀os∈oss,Ord tr ps W f qs qo os):(oss.flatMap<|DQ f qo).length<=40401*oss.length:=by
 induction oss with
 |nil=>grind
 |cons os r a=>
  have:=rY (h os<|∅)
  grind
abbrev adX:FS:=iw 2 YO
theorem C6:∀(oss:List<|alp)(acc:aly)(o:Option D),(∀os∈oss,Ord tr ps W f qs qo os/\os≠[])->acc.length+40401*oss.length<=1000000->∃a,bm (.one 3) adX (oss.map fun os=>D.lst<|os.map nI) [Z tr,Z<|.dcf<|dg qs,Z<|.lst acc,o]=.ok (.nx [Z tr,Z<|.dcf<|dg qs,Z<|.lst<|acc++(oss.flatMap<|DQ f qo).map IF,a]):=bb (fun acc o _ _=>⟨o,by simp[bm]⟩) fun os r i acc o h hl=>by
  have l:=rY (h os<|∅).1;obtain⟨a,e⟩:=i (acc++(DQ f qo os).map IF) (Z<|.lst<|os.map nI) (fun x b=>h x<|by simp[b]) (by grind);refine⟨a,?_⟩;have t:adX (ahu [tr,Z<|.dcf<|dg qs,Z<|.lst acc,o] 3<|Z<|.lst<|os.map nI)=.ok (.nx [tr,Z<|.dcf<|dg qs,Z<|.lst<|acc++(DQ f qo os).map IF,Z<|.lst<|os.map nI]):=B2 rfl ((J5 (h os<|∅).1 (h os<|∅).2)) rfl (by grind);rw[Do,aV t,e,aha,RW,af4]
noncomputable def LM(od:aly)(x:uV):D:=.tup [.str "sort",x.1,.tup od]
theorem U8(A:Ask tr ps W f qs qo)(a:bw tr (.int 3)=.ok (.tup od)):sr [tr,.dcf<|dg qs]=.ok (.lst<|(AI f qo ps.length).map<|LM od):=by
 obtain⟨d,b⟩:=rQ A.t.l0 A.t.l1;have l1:=A.t.l1;have al:=D3 (oss:=lz ps.length) A.ord;obtain⟨o,e⟩:=C6 (qs:=qs) (lz ps.length) [] L (fun os h=>⟨A.ord os h,(b os h).2.2.1⟩) (by simp;lia);have c:=OZ (rest:=[tr]) (ε:=dj<|aj (vC<|.str "sort")<|aj (ak 0)<|aj VY aA) IF (LM od) (AI f qo ps.length) (fun x _=>ay<|ac rfl (ac rfl (ac (a) rfl))) (by unfold AI;lia);refine Ou ?_;refine(ag<|bE (bh (ai (ac (ai (ac (bR (A.t.s)<|kP _ _) rfl)<|(ali ⟨⊥,⊥⟩)) rfl)<|SK A.t.l0 A.t.l1) rfl) e).trans ?_;exact Mh<|c
abbrev adY:FE:=aJ eR (ak 1) WR
abbrev Ur:FS:=b8 9<|aJ eR (ak 9)<|bW [L,Z 10] (gE<|ak 8) (.one 0) nL adY
abbrev L4(tr sd:D)(JJ:List<|Str×Str)(fo:aly)(o4:Option D)(os:alp)(rows:aly)(o7 o8 o9 o10:Option D):Sd:=[Z tr,Z sd,Z<|.lst<|JJ.map iV,Z<|.lst fo,o4,Z<|.lst<|os.map nI,Z<|.lst rows,o7,o8,o9,o10]
def ka(x:uV):D:=.lst x.2
theorem Du{os:alp}(a:List Jt)(d:a.length<=67):∀(b:List uV)(acc:aly)(o10:Option D),(∀x∈b,x.2.length<=100)->acc.length+67*b.length<=1000000->∃c,bm (.one 10) Ur (b.map ka) (L4 tr sd JJ fo o4 os rows o7 (Z<|.lst<|a.map<|Jt.ch k) (Z<|.lst acc) o10)=.ok (.nx<|L4 tr sd JJ fo o4 os rows o7 (Z<|.lst<|a.map<|Jt.ch k) (Z<|.lst<|acc++(b.flatMap fun x=>a.map<|Gz f J k x).map ka) c):=bb (fun acc o10 _ _=>⟨o10,by simp[bm]⟩) fun x r i acc o10 hx hl=>by
  have h:=hx x ∅;have e:=cw (rest:=[Z<|ka x]) (ε:=adY) (Jt.ch k) (fun j=>ka<|Gz f J k x j) a (fun j _=>af rfl (aX<|ac rfl rfl) (yO (xs:=x.2) (ys:=[j.ch k])<|by simp;lia)) ⊥;obtain⟨p,g⟩:=i (acc++a.map fun j=>ka<|Gz f J k x j) ((ka x)) (fun y hy=>hx y<|by simp[hy]) (by grind);refine⟨p,?_⟩;have t:Ur (ahu (L4 tr sd JJ fo o4 os rows o7 (Z<|.lst<|a.map<|Jt.ch k) (Z<|.lst acc) o10) 10<|(ka x))=.ok (.nx<|L4 tr sd JJ fo o4 os rows o7 (Z<|.lst<|a.map<|Jt.ch k) (Z<|.lst<|acc++a.map fun j=>ka<|Gz f J k x j)<|(ka x)):=am<|af rfl (e) (yO<|by grind);rw[Do,aV t,g,aha,RW,af8,af4];rfl
abbrev abk:FS:=aW Wh<|aW (b8 9<|gm aA)<|aW (nA (gE<|ak 6) (.one 10) Ur)<|b8 6<|ak 9
theorem Yu{c:List Jt}{a:List uV}(h:∀x∈a,x.2.length<=m):∀y∈a.flatMap fun x=>c.map<|Gz f J k x,y.2.length<=m+1:=fun y hy=>by
 obtain⟨x,b,hy⟩:=ahx.mp hy;obtain⟨j,_,rfl⟩:=rW.mp hy
 have:=h x b
 show(x.2++[j.ch k]).length<=m+1;mright
theorem L6{os:alp}(h:Ord tr ps W f qs qo os)(l:∀k∈os,IxK (qo k) JJ)(e:os=J++k::r)(j:∀x∈Lq0,x.2.length<=100)(m:67*Lq0.length<=1000000):∃c d a,abk (L4 tr (.dcf<|dg qs) JJ fo o4 os (Lq0.map ka) (Z<|nI J.length) o8 o9 o10)=.ok (.nx<|L4 tr (.dcf<|dg qs) JJ fo o4 os ((BH f qo J k Lq0).map ka) (Z<|nI J.length) c d a):=by
 have b:k∈os:=by rw[e];simp
 have q:k∉J:=fun z=>by
  have:=h.n
  rw[e,ahN]at this;exact this.2.2 k z k ∅ rfl
 have o:os[J.length]?=Z k:=by rw[e];simp
 have i:os.take J.length=J:=by rw[e];simp
 have t:J.length<=os.length:=by rw[e];simp
 obtain⟨p,g⟩:=Du (tr:=tr) (sd:=.dcf<|dg qs) (JJ:=JJ) (fo:=fo) (o4:=o4) (o7:=Z<|nI J.length) (os:=os) (rows:=Lq0.map ka) (f:=f) (J:=J) (k:=k) (jt f qo J k) (Bq h b J) Lq0 [] o10 j (by simpa using m);refine⟨Z<|.lst<|(jt f qo J k).map<|Jt.ch k,Z<|.lst<|(BH f qo J k Lq0).map ka,p,?_⟩;refine(ag<|am<|ai (ac rfl (ac rfl (ac rfl (ac (cF rfl rfl (a9 rfl) ((GZ os t).trans<|by rw[i]))<|ac (af rfl rfl (kB nI os o)) rfl))))<|Ot (h.s k b) (l k b) q).trans ?_;refine(ag<|g).trans ?_;exact rfl
theorem Dj{os:alp}(h:Ord tr ps W f qs qo os)(o:∀k∈os,IxK (qo k) JJ):∀(r J:alp)(a:List uV)(o7 o8 o9 o10:Option D),os=J++r->(∀x∈a,x.2.length<=90-r.length)->a.length*67^r.length<=1000000->∃j d m b,bm (.one 7) abk (bK (J.length:Int) r.length) (L4 tr (.dcf<|dg qs) JJ fo o4 os (a.map ka) o7 o8 o9 o10)=.ok (.nx<|L4 tr (.dcf<|dg qs) JJ fo o4 os ((Rh f qo J r a).map ka) j d m b):=bb (fun J a o7 o8 o9 o10 _ _ _=>⟨o7,o8,o9,o10,rfl⟩) fun k r I J a o7 o8 o9 o10 e hx c=>by
  have v:k∈os:=by rw[e];simp
  have p:=h.l;have C:r.length<=3:=by rw[e]at p;simp at p;lia
  have s:=se h v J a;have p1:1<=67^r.length:=Nat.one_le_pow _ _ ∎;have c:a.length*(67^r.length*67)<=1000000:=c;have h2:(BH f qo J k a).length*67^r.length<=1000000:=by
   refine DO (aii _ s)<|DO (aj5 ?_) c;rw[akc 67,Nat.mul_assoc,akc 67]
  have h1:67*a.length<=1000000:=by
   refine DO ?_ c;rw[akc 67];exact akx _<|aj3 _ p1
  simp only[afW]at hx;obtain⟨A,u,n,t⟩:=L6 h o e (fun x z=>by grind) h1;obtain⟨q,w,B,i,g⟩:=I (J++[k]) (BH f qo J k a) ((nI J.length)) A u n (by rw[e];simp) (fun y hy=>by have:=Yu hx y hy;lia) h2;refine⟨q,w,B,i,?_⟩;rw[afW,V5,aV t];rw[afR]at g;exact g
noncomputable def N3(y:List Nat×uV):D:=.tup [.lst<|y.1.map nI,.lst y.2.2]
abbrev aas:FS:=aW Xh<|aW (nA Wi (.one 7) abk) VG
theorem Op{os:alp}(h:Ord tr ps W f qs qo os)(v:os≠[])(y:∀k∈os,IxK (qo k) JJ)(C:fo.length+40401<=1000000):∃rows j d m a,aas [Z tr,Z<|.dcf<|dg qs,Z<|.lst<|JJ.map iV,Z<|.lst fo,o4,Z<|.lst<|os.map nI,o6,o7,o8,o9,o10]=.ok (.nx<|L4 tr (.dcf<|dg qs) JJ (fo++((DQ f qo os).map fun x=>(os,x)).map N3) o4 os rows j d m a):=by
 cases os with
 |nil=>exact absurd rfl v
 |cons k r=>
  have S:=h.s k ∅;have wl:=S.wl;have c:=h.l;have b:=w6 h (k:=k) ∅;have p:=pow_2 (n:=r.length) (by simp at c;omega);have pl:=rY h;have o:=cw (rest:=[]) (ε:=gm<|aj (ak 0) aA) (fun w:D=>w) (fun w=>D.lst [w]) (zV (qo k) f k) (fun w _=>aX<|ac rfl rfl) ⊥;rw[aiS]at o;refine Z41 (Dj (JJ:=JJ) (fo:=fo) (o4:=o4) h y r [k] (Gw f qo k) o7 o8 o9 o10 rfl (fun x u=>by
   obtain⟨w,_,rfl⟩:=rW.mp u;simp at c⊢;lia) (DO (akn b p) ∎)) fun q z B e g=>?_
  have t:(Gw f qo k).map ka=(zV (qo k) f k).map fun w=>D.lst [w]:=by unfold Gw;rw[af8];rfl
  rw[t]at g;have A:=OZ (rest:=[Z<|.lst<|(k::r).map nI]) (ε:=dj<|aj (ak 1)<|aj (ak 0) aA) ka (fun x=>N3 (k::r,x)) (DQ f qo<|k::r) (fun x _=>ay<|ac rfl (ac rfl rfl)) ⊥;refine⟨(DQ f qo<|k::r).map ka,q,z,B,e,?_⟩;refine(ag<|am<|ba (bh (ai (ac rfl (ac rfl (ac (af rfl rfl (kB (i:=0) nI (k::r) rfl)) rfl))) S.ways) rfl) o).trans ?_;refine(ag<|bE (Cc (n:=r.length) rfl (((im _ _).trans<|by rw[afW])) (by simp at c;lia)) g).trans ?_;refine(am<|af rfl (A) (yO<|by grind)).trans ?_;rw[af8];rfl
def wN(f:Option Cn)(qo:Nat->Tq)(n:Nat):List<|List Nat×uV:=(lz n).flatMap fun os=>(DQ f qo os).map fun x=>(os,x)
theorem De:∀(oss:List<|alp)(fo:aly)(o5 o6 o7 o8 o9 o10:Option D),(∀os∈oss,Ord tr ps W f qs qo os/\os≠[]/\∀k∈os,IxK (qo k) JJ)->fo.length+40401*oss.length<=1000000->∃g j c i b a,bm (.one 5) aas (oss.map fun os=>D.lst<|os.map nI) [Z tr,Z<|.dcf<|dg qs,Z<|.lst<|JJ.map iV,Z<|.lst fo,o4,o5,o6,o7,o8,o9,o10]=.ok (.nx [Z tr,Z<|.dcf<|dg qs,Z<|.lst<|JJ.map iV,Z<|.lst<|fo++(oss.flatMap fun os=>(DQ f qo os).map fun x=>(os,x)).map N3,o4,g,j,c,i,b,a]):=bb (fun fo o5 o6 o7 o8 o9 o10 _ _=>⟨o5,o6,o7,o8,o9,o10,by simp[bm]⟩) fun os r s fo o5 o6 o7 o8 o9 o10 h hl=>by
  obtain⟨h1,h2,m⟩:=h os ∅;have l:=rY h1;refine Z51 (Op (JJ:=JJ) (fo:=fo) (o4:=o4) (o6:=o6) (o7:=o7) (o8:=o8) (o9:=o9) (o10:=o10) h1 h2 m (by simp at hl;lia)) fun rows n p q d t=>?_;obtain⟨g,j,c,i,b,a,e⟩:=s (fo++((DQ f qo os).map fun x=>(os,x)).map N3) (Z<|.lst<|os.map nI) (Z<|.lst rows) n p q d (fun x o=>h x<|by simp[o]) (by rw[afR,iF,iF];simp at hl;lia);refine⟨g,j,c,i,b,a,?_⟩;have t:aas (ahu [Z tr,Z<|.dcf<|dg qs,Z<|.lst<|JJ.map iV,Z<|.lst fo,o4,o5,o6,o7,o8,o9,o10] 5<|Z<|.lst<|os.map nI)=_:=t;rw[Do,aV t];refine e.trans ?_;rw[aha,RW,af4]
theorem Pb(h:Pt c):c.ks.length<=29:=DO (lY c) h.n
theorem geN(a b:Nat):IK (nI a) (nI b)=.ok (.bl<|decide (b<=a)):=by
 have:IK (nI a) (nI b)=.ok (.bl<|((b:Int)<=a)):=rfl
 mright
abbrev adG:FS:=aW (b8 6<|bW [L,Z 2] (gE<|aD cu<|aj (ak 5) aA) (.one 0) (bG JZ)<|ak 0)<|aW Wj<|gM (jc (bG<|aJ FB (ak 2)<|aD cu<|aj (ak 5) aA) P3) (aZ 4<|ak 5) br
abbrev VQ(tr:D)(J:alp)(k m:Nat)(fo:List Cn)(o5 o6 o7:Option D):Sd:=[Z tr,Z<|.lst<|J.map nI,Z<|nI k,Z<|nI m,Z<|.lst<|fo.map Cn.d,o5,o6,o7]
theorem aa8{ks:alp}(k:Nat)(a:ks.length<=29):bS (.one 0) (bG JZ) (ak 0) [L,Z<|nI k] (ks.map nI)=.ok (.lst<|(ks.filter fun j=>!decide (j=k)).map nI):=
 cp nI nI (fun j=>!(j=k)) ks (fun j _=>aB<|(Pq _ _)) (fun _ _ _=>rfl) ⊥
theorem LR(h:Pt c)(g:fo.length<900):∃a b,adG (VQ tr J k m fo (Z c.d) o6 o7)=.ok (.nx<|VQ tr J k m (fo++[c].filter (LC J k m)) (Z c.d) a b):=by
 have l:=Pb h;have f:=agr (fun j=>!decide (j=k)) c.ks;have e:=cp (rest:=[Z<|.lst<|J.map nI]) (τ:=bG<|aJ lm (ak 0)<|ak 1) (ε:=ak 0) nI nI (fun j=>!decide (j∈J)) (c.ks.filter fun j=>!decide (j=k)) (fun j _=>aB<|af rfl rfl (Wc _ _)) (fun _ _ _=>rfl) ⊥;have q:jc (bG<|aJ FB (ak 2)<|aD cu<|aj (ak 5) aA) P3 (VQ tr J k m fo (Z c.d) (Z<|.lst<|(c.ks.filter fun j=>!decide (j=k)).map nI)<|Z<|.lst<|((c.ks.filter fun j=>!decide (j=k)).filter fun j=>!decide (j∈J)).map nI)=.ok (LC J k m c):=iL (aB<|af rfl (ai (ac rfl rfl)<|Dd h) (JP _ _))<|iL (aB<|af (bR rfl (im _ _)) rfl (geN _ _))<|aB<|af rfl (aX rfl) (NL _ []);refine⟨Z<|.lst<|(c.ks.filter fun j=>!decide (j=k)).map nI,Z<|.lst<|((c.ks.filter fun j=>!(j=k)).filter fun j=>!(j∈J)).map nI,?_⟩;refine(ag<|am<|ba (bh ((Dd h)) rfl)<|aa8 k l).trans ?_;refine(ag<|am<|e).trans ?_;cases hc:LC J k m c with
 |true=>
  rw[hc]at q;refine(aK q).trans<|(cP rfl rfl (by grind)).trans ?_
  grind
 |false=>
  rw[hc]at q;rw[ahY<|by rw[hc];simp,List.filter_nil,agh];exact(bt q).trans rfl
theorem Ct:∀(cs fo:List Cn)(o5 o6 o7:Option D),(∀c∈cs,Pt c)->fo.length+cs.length<900->∃a f b,bm (.one 5) adG (cs.map Cn.d) (VQ tr J k m fo o5 o6 o7)=.ok (.nx<|VQ tr J k m (fo++cs.filter (LC J k m)) a f b):=bb (fun fo o5 o6 o7 _ _=>⟨o5,o6,o7,by simp[bm]⟩) fun c r n fo o5 o6 o7 h hl=>by
  obtain⟨i,j,t⟩:=LR (fo:=fo) (h c<|∅) ⊥;obtain⟨a,f,b,e⟩:=n (fo++[c].filter (LC J k m)) (c.d) i j (fun x g=>h x<|by simp[g]) (by grind);refine⟨a,f,b,?_⟩;rw[Do,aV t];refine e.trans ?_
  grind
theorem TY(a:TrK tr ps W f)(J:alp)(k m:Nat):zh [tr,.lst<|J.map nI,nI k,nI m]=.ok (.lst<|((fP f).filter<|LC J k m).map Cn.d):=by
 have l:=yj a;obtain⟨b,h,g,e⟩:=Ct (fP f) [] L L L (oF a) (by simp;lia);exact ao<|((ag<|bE (bh (ai (ac (a.c) rfl)<|rR a) rfl) e).trans rfl)
theorem GF(b:TrK tr ps W f)(J:alp)(k:Nat):(fP f).filter (LC J k 1)=LF f J k:=ajJ fun c d=>(fun h J k=>by
  unfold LC pj;rw[ago];simp only[afU,decide_eq_true_eq,DV,agz,aiD,mem_set];constructor
  .rintro⟨h1,h2,h3⟩;refine⟨h1,(og h.k h1).mpr ?_,h3⟩;obtain⟨j,a⟩:=List.exists_mem_of_length_pos (h2)
   grind
  .rintro⟨h1,h2,h3⟩;obtain⟨j,a,n⟩:=(og h.k h1).mp h2;exact⟨h1,List.length_pos_of_mem (agb.mpr ⟨a,by simpa using n⟩),h3⟩) (oF b c d) J k
theorem Sk(b:TrK tr ps W f)(J:alp)(a:k<3):(fP f).filter (LC J k 0)=LJ f J k:=ajJ fun c d=>(fun h J a=>by
  unfold LC kK pj;rw[ago];simp only[afU,decide_eq_true_eq,DV,agz,aiD,mem_set,acr,true_and];constructor
  .rintro⟨h1,h3⟩;by_cases z:1<(cb c.ks).length
   .exact .inr ⟨h1,z,h3⟩
   .refine .inl ((rM h.k a).mpr ⟨h1,fun j e=>aiq fun n=>z<|(og h.k h1).mpr ⟨j,e,n⟩⟩)
  .rintro(z|⟨h1,_,h3⟩)
   .obtain⟨h1,h2⟩:=(rM h.k a).mp z;mright
   .grind) (oF b c d) J a
structure Way(k:Nat)(w:D):Prop where
 b:Vk w
 k:bw w (.int 1)=.ok (nI k)
 p:Py 2 w
 s:cH w=L
theorem sE(k:Nat):Way k<|F3 k:=⟨⟨"walk",_,rfl,⊤⟩,bx,(Py.two (Py.w rfl)<|Py.int _).mono<|∎,rfl⟩
theorem RS(b:yd W f)(k p:Nat):Way k<|ads k p f:=⟨⟨"seek",_,rfl,⊤⟩,bx,by
 obtain⟨h1,h2⟩:=QC b k p;refine Py.tup fun d a=>?_;simp at a;rcases a with rfl|rfl|rfl|rfl|rfl
 .exact(Py.w rfl).mono ∎
 .exact(Py.int _).mono ∎
 .exact(Py.int _).mono ∎
 .exact zk h1
 .exact zk h2,rfl⟩
theorem Ep(a:yd W f):∀(cs:List<|Str×Str)(p:Nat),∀d∈NB q f k p cs,Way k d:=bb (fun _ d h=>nomatch h) fun c r i p d h=>by
  rcases BY.mp h with h|h
  .unfold OE at h;cbv
   .rw[acB.mp h];exact RS a k p
   .nofun
  .exact i (p+1) d h
theorem CD(S:Src tr ps W f qs k q):∀w∈zV q f k,Way k w:=fun w hw=>by
 rcases oR.mp hw with rfl|hw
 .exact sE k
 .exact Ep S.t.g q.cs 0 w hw
theorem YY(h:Pt c)(b:k<3):decide ((c.ks.filter fun j=>!decide (j=k))=[])=(decide (cb c.ks=[])||kK k c):=by
 unfold kK;rw[ago];simp only[aiD,decide_eq_true_eq,set_nil,rM h.k b,aiH,ahL,decide_eq_false_iff_not,akV];constructor
 .intro z;cases e:c.ks with
  |nil=>exact .inl rfl
  |cons a r=>
   rw[e]at z;exact .inr ⟨by simp_all,z⟩
 grind
abbrev acf:FS:=gM (bG<|aJ cW (bW [L,Z 2] (gE<|aD cu<|aj (ak 4) aA) (.one 0) (bG GG)<|ak 0)<|gm aA) (aZ 3<|ak 4) br
abbrev Pg(a0 a1:Option D)(w:D)(fo:List Cn)(o4:Option D):Sd:=[a0,a1,Z w,Z<|.lst<|fo.map Cn.d,o4]
theorem Mf:Pg a0 a1 w (fo++[c]) o4=[a0,a1,Z w,Z<|.lst<|fo.map Cn.d++[c.d],o4]:=∅
theorem wM(hw:Way k w)(f:k<3):∀(cs fo:List Cn)(o4:Option D),(∀c∈cs,Pt c)->fo.length+cs.length<900->∃a,bm (.one 4) acf (cs.map Cn.d) (Pg a0 a1 w fo o4)=.ok (.nx<|Pg a0 a1 w (fo++cs.filter fun c=>decide (cb c.ks=[])||kK k c) a):=bb (fun fo o4 _ _=>⟨o4,by simp[bm]⟩) fun c r m fo o4 h hl=>by
  have i:=h c ∅;have l:=Pb i;have e:=cp (rest:=[Z w]) (τ:=bG GG) (ε:=ak 0) nI nI (fun j=>!decide (j=k)) c.ks (fun j _=>aB<|af rfl (af rfl rfl hw.k) (Pq _ _)) (fun _ _ _=>rfl) #[24];have q:bG (aJ cW (bW [L,Z 2] (gE<|aD cu<|aj (ak 4) aA) (.one 0) (bG GG)<|ak 0)<|gm aA) (Pg a0 a1 w fo<|Z c.d)=.ok (decide (cb c.ks=[])||kK k c):=aB (af (ba (bh (ai (ac rfl rfl)<|Dd i) rfl) e) (aX rfl)<|(NL _ []).trans<|by rw[YY i f])
  cases hb:(decide (cb c.ks=[])||kK k c)with
  |true=>
   rw[hb]at q;obtain⟨a,g⟩:=m (fo++[c]) (Z c.d) (fun x b=>h x<|by simp[b]) (by simp at hl⊢;omega);refine⟨a,?_⟩;have t:acf (ahu (Pg a0 a1 w fo o4) 4<|Z c.d)=.ok (.nx<|Pg a0 a1 w (fo++[c])<|Z c.d):=(aK q).trans ((cP rfl rfl (by rw[iF];simp at hl;omega)).trans<|by rw[Mf];rfl);rw[Do,aV t,g,ahk (p:=fun c=>(cb c.ks=[])||kK k c) hb,af4]
   rfl
  |false=>
   rw[hb]at q;obtain⟨a,g⟩:=m fo (c.d) (fun x b=>h x<|by simp[b]) (by grind);refine⟨a,?_⟩;have t:acf (ahu (Pg a0 a1 w fo o4) 4<|c.d)=.ok (.nx<|Pg a0 a1 w fo<|c.d):=(bt q).trans rfl;rw[Do,aV t,g,ahY<|by rw[hb];simp]
theorem GD(h:cH p=L):cH (yG p cs)=L:=by cases cs<;>first|exact h|rfl
theorem mV(a:TrK tr ps W f):(∀c∈(fP f).filter p,Pt c)/\((fP f).filter p).length<=29:=⟨fun c b=>oF a c (agb.mp b).1,DO (agr _ _)<|yj a⟩
def Jt.Ok(k:Nat):Jt->Prop
 |.pair w=>Way k w
 |_=>True
def Jt.w:Jt->Str
 |.pair _=>"pair"
 |.mat _=>"match"
 |.mrg _=>"merge"
theorem JD{al:List Cn}(j:Jt):bw (j.full k al pl) (.int 0)=.ok (.str j.w):=by cases j<;>exact bp
theorem GY:Py 0<|.str "pair":=Py.w ⊤
theorem Dv:Py 0<|.str "match":=Py.w ⊤
theorem DE:Py 0<|.str "merge":=Py.w ⊤
theorem MJ{al:List Cn}{j:Jt}(h:j.Ok k)(b:Py m pl)(g:43<=m)(l:∀c∈al,Pt c)(f:al.length<=29):Py (m+1)<|j.full k al pl:=by
 have n:∀i , Py m<|nI i:=fun i=>(Py.int _).mono<|acr _;cases j with
 |pair w=>exact Qt (GY.mono<|acr _) b<|(wu (h.p.mono<|∎) (nE _) f l).mono g
 |mat e=>
  refine Py.tup fun d a=>?_;simp at a;rcases a with rfl|rfl|rfl|rfl|rfl|rfl
  .exact Dv.mono (acr _)
  .exact b
  .exact n _
  .exact n _
  .exact n _
  .exact n _
 |mrg e=>
  refine Py.tup fun d a=>?_;simp at a;rcases a with rfl|rfl|rfl|rfl|rfl|rfl|rfl
  .exact DE.mono (acr _)
  .exact b
  .exact(wu ((sE k).p.mono<|∎) (nE _) f l).mono g
  .exact n _
  .exact n _
  .exact n _
  .exact n _
theorem Za{j:Jt}(h:j.Ok k):Py 4<|j.ch k:=by
 have n:∀i , Py 3<|nI i:=fun i=>(Py.int _).mono<|acr _;cases j with
 |pair w=>exact(Py.two (GY.mono<|acr 3)<|h.p.mono<|∎)
 |mat e=>exact aaW (Dv.mono<|acr _) (n _) (n _)<|n _
 |mrg e=>
  refine Py.tup fun d a=>?_;simp at a;rcases a with rfl|rfl|rfl|rfl|rfl|rfl
  .exact DE.mono (acr _)
  .exact(sE k).p.mono ∎
  .exact n _
  .exact n _
  .exact n _
  .exact n _
structure Rd(tr:D)(J:alp)(x:uV):Prop where
 p:Py (41+2*J.length) x.1
 s:cH x.1=L
 r:∀m,J.length<=m->gN m [x.1,tr,nI J.length]=.ok (.tup [.lst<|J.map nI,.lst x.2])
 l:x.2.length=J.length
 y:∀d∈x.2,Py 4 d
theorem Tk(S:Src tr ps W f qs k<|qo k)(i:k<3):∀x∈Gw f qo k,Rd tr [k] x:=fun x h=>by
 obtain⟨w,hw,rfl⟩:=rW.mp h;have a:=CD S w hw;obtain⟨h1,h2⟩:=mV S.t;refine⟨wu (a.p.mono<|∎) (nE _) h2 h1,GD a.s,fun m j=>?_,rfl,fun d g=>by rw[acB.mp g];exact a.p.mono<|∎⟩;obtain⟨n,rfl⟩:=wt j<|nE _;exact ao (bB ((ar (((by
   have l:=yj S.t;obtain⟨h1,h2⟩:=mV S.t;obtain⟨o,e⟩:=wM a i (fP f) [] L (oF S.t) (by simp;omega);have py:=wu (a.p.mono (∎)) (nE _) h2 h1;refine ao ?_;refine(ag (am ((bare a.b)))).trans ?_;refine(ag (bE (bh (ai (ac (S.t.c) rfl) (rR S.t)) rfl) e)).trans ?_;refine(skip (aB (af rfl ((KF h1)) (py.ne ∎ (GD a.s))))).trans ?_;exact ar (ay (ac (aX (ac (a.k) rfl)) rfl))))))))
theorem G9(h:∀k∈ks,k<3):uH (.lst<|ks.map nI)=.ok ks:=by
 unfold uH;dsimp only;rw[xT h]
theorem XG(h:Pt c)(a:k<3)(h1:φ Uq0=.ok c.d)(h2:ψ Uq0=.ok (nI k)):uE (aD cu<|aj φ aA) (gm<|aj ψ aA) Uq0=.ok (kK k c):=by
 unfold uE;rw[ai (ac h1 rfl)<|Dd h,ax,G9 h.k,ax,aX<|ac h2 rfl,ax,show uH (.lst [nI k])=.ok [k]from G9 (ks:=[k]) fun j b=>by simp_all];rfl
theorem acZ(j:Jt):nC (.str j.w) (.str "match")=.ok (.bl (match j with|.mat _=>η|_=>U)):=by cases j<;>kernel_rfl
theorem VW:¬(afS "pair")="match"/\¬(afS "merge")="match"/\¬(afS "pair")="merge":=⊤
noncomputable abbrev MD(pl tr:D)(n:Nat)(full ah:D)(o5 o6 o7:Option D):Sd:=[Z pl,Z tr,Z<|nI n,Z full,Z ah,o5,o6,o7]
abbrev adL:FS:=gM (bG<|aJ nC O9<|aD mH<|aj (ak 7)<|aj (bW [L,Z 5] (gE<|aD lV<|aj Y0 aA) (.one 0) (uE (aD cu<|aj (ak 0) aA) PL)<|ak 0) aA) (gY<|vC .non) br
abbrev YF:FS:=gM Yr XC<|aW Xg<|aW (b8 5 XU)<|aW Yk<|aW Yn adL
theorem Hj(a:TrK tr ps W f)(b:k<3){pl ah:D}(hw:Way k w)(h2:bw full (.int 2)=.ok (yG w<|JK f k)):adL (MD pl tr n full ah (Z<|nI k) o6<|Z w)=.ok (.nx<|MD pl tr n full ah (Z<|nI k) o6<|Z w):=by
 obtain⟨a1,a2⟩:=mV a;have py:=wu (hw.p.mono<|∎) (nE _) a2 a1;exact(bt<|aB<|af (h2) (ai (ac rfl (ac (ba (bh (ai (ac (a.c) rfl)<|rR a) rfl)<|( cp Cn.d Cn.d (kK k) (fP f) (fun c e=>XG (oF a c e) b rfl rfl) (fun _ _ _=>rfl) (by have:=yj a;omega))) rfl))<|KF a1)<|py.ne ∎<|GD hw.s).trans rfl
theorem RH(c:TrK tr ps W f)(a:k<3){pl ah xp:D}{j:Jt}(h:j.Ok k):∃o7,YF (MD pl tr n (j.full k (JK f k) xp) ah L L L)=.ok (.nx<|MD pl tr n (j.full k (JK f k) xp) ah (Z<|nI k) (Z<|j.ch k) o7):=by
 cases j with
 |mat e=>exact⟨L,(aK<|Qq #[17] rfl rfl).trans<|(ag<|am<|af rfl rfl dw).trans<|am<|af (ay<|ac rfl rfl) (cF rfl (a9 rfl) rfl rfl) rfl⟩
 |pair w=>
  refine⟨Z w,(bt<|DU #[17] rfl VW.1).trans ?_⟩;refine(ag<|am<|ai (ac (af rfl rfl dw) rfl)<|bare h.b).trans ?_;refine(ag<|am<|af rfl rfl h.k).trans ?_;refine(ag<|am<|ay<|ac rfl (ac rfl rfl)).trans ?_;refine(skip<|DU #[17] rfl VW.2.2).trans ?_;exact Hj c a h dw
 |mrg e=>
  refine⟨(F3 k),?_⟩;refine(ag<|am<|(bare (sE k).b)).trans ?_;exact Hj c a (sE k) dw
theorem Tt(a:TrK tr ps W f)(q:k<3)(D:1<=J.length)(C:J.length<=3)(b:Rd tr J x)(i:j.Ok k):Rd tr (J++[k])<|Gz f J k x j:=by
 obtain⟨a1,a2⟩:=mV a (p:=kK k);have cs:(∀c∈j.cs (LF f J k) (LJ f J k),Pt c)/\(j.cs (LF f J k)<|LJ f J k).length<=29:=by
  cases j
  .exact mV a
  .exact mV a
  .exact mV a
 have z:=MJ (k:=k) i b.p #[24] a1 a2;have o:=wu z #[24] cs.2 cs.1;have g:(J++[k]).length=J.length+1:=∅
 have sf:cH (j.full k (JK f k) x.1)=L:=by cases j<;>rfl
 refine⟨by rw[g];exact o.mono<|by omega,GD sf,fun m s=>?_,by show(x.2++[_]).length=_;rw[afR,b.l,g];rfl,fun d t=>?_⟩
 .rw[g]at s⊢;obtain⟨n,rfl⟩:=wt s #[24];have v:gN n [x.1,tr,.int<|((J.length+1:Nat):Int)-1]=.ok (.tup [.lst<|J.map nI,.lst x.2]):=by
   have:(((J.length+1:Nat):Int)-1)=(J.length:Int):=by omega
   rw[this];exact b.r n #[24]
  obtain⟨o7,A⟩:=RH (n:=J.length+1) (pl:=(Gz f J k x j).1) (ah:=.tup [.lst<|J.map nI,.lst x.2]) (xp:=x.1) a q i;rw[Jb,ja];refine ao ?_;refine(skip<|dI rfl rfl #[24]).trans ?_;refine(ag (am (ai (ac rfl rfl) (bare ((by
    cases j
    .exact⟨"pair",_,rfl,⊤⟩
    .exact⟨"match",_,rfl,⊤⟩
    .exact⟨"merge",_,rfl,⊤⟩)))))).trans ?_
  refine(skip<|aB<|af (af rfl rfl (JD j)) (ay<|ac rfl #[2])<|(by cases j<;>kernel_rfl)).trans ?_;refine(ag<|am<|ai (ac (af rfl rfl ((by cases j<;>exact bx)))<|ac rfl (ac (iC rfl rfl) rfl)) v).trans ?_;refine(skip<|aB<|af rfl rfl rfl).trans ?_;refine(ag A).trans ?_;refine(skip (aB (af rfl (ai (ac rfl (ac (ai (ac rfl (ac #[17]<|ac rfl (ac (ai (ac (af (af rfl rfl (JD j)) rfl (acZ j)) rfl) vT) rfl))) ((by
    cases j with
    |mat e=>exact(TY a J k 0).trans (by rw[Sk a J q];rfl)
    |pair w=>exact(TY a J k 1).trans (by rw[GF a J k];rfl)
    |mrg e=>exact(TY a J k 1).trans (by rw[GF a J k];rfl)))) rfl)) (KF cs.1)) (o.ne #[24] (GD sf))))).trans ?_
  have u:eR (.lst<|J.map nI) (.lst [nI k])=.ok (.lst<|(J++[k]).map nI):=(yO<|by rw[iF];simp;omega).trans (by rw[RW];rfl);have B:eR (.lst x.2) (.lst [j.ch k])=.ok (.lst<|x.2++[j.ch k]):=yO (by rw[b.l];simp;omega);exact ar<|ay<|ac (af #[17] (aX<|ac rfl rfl) u)<|ac (af #[22] (aX<|ac rfl rfl) B) rfl
 .rcases BY.mp t with h|h
  .exact b.y d h
  .rw[acB.mp h];exact Za i
theorem S7{os:alp}(h:Ord tr ps W f qs qo os)(l:k∈os)(d:k<3)(g:1<=J.length)(b:J.length<=3)(i:∀x∈Lq0,Rd tr J x):∀y∈BH f qo J k Lq0,Rd tr (J++[k]) y:=fun y hy=>by
 obtain⟨x,c,hy⟩:=ahx.mp hy;obtain⟨j,a,rfl⟩:=rW.mp hy;have S:=h.s k l;exact Tt S.t d g b (i x c) ((fun S=>fun j a=>by
   rcases BY.mp a with h|h
   .obtain⟨w,hw,rfl⟩:=rW.mp h;exact CD S w hw
   .rcases BY.mp h with h|h<;>(obtain⟨e,_,rfl⟩:=rW.mp h;exact af2)) S j a)
theorem K9{os:alp}(h:Ord tr ps W f qs qo os)(b:∀k∈os,k<3):∀(r J:alp)(a:List uV),os=J++r->1<=J.length->(∀x∈a,Rd tr J x)->∀y∈Rh f qo J r a,Rd tr os y:=bb (fun J a e _ hL=>by rw[e,agh];exact hL) fun k r i J a e h0 hL=>by
  have c:k∈os:=by rw[e];simp
  have l:=h.l;exact i (J++[k]) (BH f qo J k a) (by rw[e];simp) ∅<|S7 h c (b k c) h0 (by grind) hL
theorem Uw{os:alp}(h:Ord tr ps W f qs qo os)(a:∀k∈os,k<3):∀y∈DQ f qo os,Rd tr os y:=by
 cases os with
 |nil=>exact fun y hy=>nomatch hy
 |cons k r=>exact K9 h a r [k] (Gw f qo k) rfl (nE _) (Tk (h.s k<|∅)<|a k<|∅)
theorem QR:AI f qo n=(wN f qo n).map Prod.snd:=by
 unfold AI wN;rw[List.map_flatMap];congr 1;funext os
 rw[af8];exact(alb _).symm
theorem Wf(h:Uq0[i]?=Z (Z<|.lst xs))(a:ε Uq0=.ok d)(b:xs.length<1000000):aZ i ε Uq0=.ok (.nx<|Uq0.set i<|Z<|.lst<|xs++[d]):=by
 unfold aZ;rw[h];dsimp only;rw[a,ax,ali b]
abbrev aeE:FT:=Bo ZO Va
abbrev ad8:FS:=aW (gM aeE (gY<|vC<|.bl η) br)<|aZ 4<|aD uf<|aj XF<|aj (ak 0)<|aj Zb aA
theorem CV(b:TrK tr ps W f)(j:bw tr (.int 3)=.ok (.tup od))(i:∀d∈od,Py 2 d):∀(a:List<|List Nat×uV)(acc:aly)(o5:Option D),(∀y∈a,Rd tr y.1 y.2/\y.1.length=ps.length)->acc.length+a.length<1000000->∃g,bm (.one 5) ad8 (a.map fun y=>LM od y.2) [Z tr,a1,a2,a3,Z<|.lst acc,o5,o6,o7]=.ok (.nx [Z tr,a1,a2,a3,Z<|.lst<|acc++a.map N3,g,o6,o7]):=bb (fun acc o5 _ _=>⟨o5,by simp[bm]⟩) fun y r m acc o5 h hl=>by
  obtain⟨hr,hn⟩:=h y ∅;have l1:=b.l1;obtain⟨p,e⟩:=m (acc++[N3 y]) (Z<|LM od y.2) (fun z hz=>h z<|by simp[hz]) (by simp at hl⊢;omega);refine⟨p,?_⟩;have c:aeE [Z tr,a1,a2,a3,Z<|.lst acc,Z<|LM od y.2,o6,o7]=.ok η:=n9 (oY<|cK (OX rfl #[12]) rfl)<|n9 (aB<|af (bR rfl rfl) rfl rfl)<|n9 (aB<|af #[17] rfl #[12])<|aB<|af (af rfl rfl dw) (af rfl rfl j)<|(Py.tup i).ne ∎ rfl;have k:uf [y.2.1,tr,nI ps.length]=.ok (N3 y):=by rw[<-hn];exact hr.r 100 #[24]
  have t:ad8 (ahu [Z tr,a1,a2,a3,Z<|.lst acc,o5,o6,o7] 5<|(LM od y.2))=.ok (.nx [tr,a1,a2,a3,Z<|.lst<|acc++[N3 y],(LM od y.2),o6,o7]):=(skip c).trans<|Wf rfl (ai (ac rfl (ac rfl (ac (bR (b.s)<|kP _ _) rfl))) k) #[24];rw[Do,aV t,e,af4];rfl
theorem ri_{JJ:List<|Str×Str}(A:Ask tr ps W f qs qo)(r:∀k<ps.length,IxK (qo k) JJ):lU [tr,.dcf<|dg qs,.lst<|JJ.map iV]=.ok (.bl U):=by
 obtain⟨od,n,i⟩:=A.t.o;obtain⟨u,c⟩:=rQ A.t.l0 A.t.l1;have l1:=A.t.l1;have al:=D3 (oss:=lz ps.length) A.ord;have g:=U8 A n;have j:∀y∈wN f qo ps.length,Rd tr y.1 y.2/\y.1.length=ps.length:=fun y hy=>by
  obtain⟨os,h1,h2⟩:=ahx.mp hy;obtain⟨x,q,rfl⟩:=rW.mp h2;exact⟨Uw (A.ord os h1) (fun k l=>by have:=(c os h1).2.2.2 k l;omega) x q,(c os h1).2.1⟩
 have E:(wN f qo ps.length).length<=242406:=by
  have:(AI f qo ps.length).length<=242406:=by unfold AI;omega
  rw[QR,iF]at this;exact this
 rw[QR,af8]at g;have g:sr [tr,.dcf<|dg qs]=.ok (.lst<|(wN f qo ps.length).map fun y=>LM od y.2):=g;obtain⟨o5,e⟩:=CV (a1:=Z<|.dcf<|dg qs) (a2:=Z<|.lst<|JJ.map iV) (a3:=Z<|.lst<|(wN f qo ps.length).map fun y=>LM od y.2) (o6:=L) (o7:=L) A.t n i (wN f qo ps.length) [] L j (by simp;omega);have a:Py 49<|.lst<|(wN f qo ps.length).map fun y=>LM od y.2:=Py.lst fun d b=>by
  obtain⟨y,hy,rfl⟩:=rW.mp b
  have:=(j y hy).2
  exact Qt (k:=47) ((Py.w (z:="sort")<|⊤).mono<|acr _) ((j y hy).1.p.mono<|by omega) ((Py.tup i).mono<|∎)
 have m:Py 7<|.lst<|(wN f qo ps.length).map N3:=Py.lst fun d b=>by
  obtain⟨y,hy,rfl⟩:=rW.mp b;refine Py.two ((Py.lst (k:=0) fun d i=>?_).mono<|∎)<|Py.lst (j y hy).1.y;obtain⟨k,_,rfl⟩:=rW.mp i;exact Py.int _
 rw[Gc,gI];refine ao ?_;refine(ag<|gg (k:=3)<|ai #[2] g).trans ?_;refine(skip<|oY<|cK (OX rfl rfl) rfl).trans ?_;refine(ag<|gg (k:=4)<|aX rfl).trans ?_;refine(ag<|bE (bh rfl rfl) e).trans ?_;refine(ag<|am<|ai (ac rfl rfl) rfl).trans ?_;refine(ag<|am<|ai #[2] g).trans ?_;refine(skip (n9 (aB (af rfl (ai (ac rfl #[2]) ((by
   obtain⟨u,c⟩:=rQ A.t.l0 A.t.l1;have l1:=A.t.l1;have l0:=A.t.l0;obtain⟨F,H,C,G,B,v,e⟩:=De (qs:=qs) (JJ:=JJ) (o4:=Z<|.lst [.lst<|(lz 1).map fun os=>D.lst<|os.map nI,.lst<|(lz 2).map fun os=>D.lst<|os.map nI,.lst<|(lz 3).map fun os=>D.lst<|os.map nI]) (lz ps.length) [] L L L L L L (fun os h=>⟨A.ord os h,(c os h).2.2.1,fun k l=>r k<|(c os h).2.2.2 k l⟩) (by simp;omega);have ix:bw (.lst [.lst<|(lz 1).map fun os=>D.lst<|os.map nI,.lst<|(lz 2).map fun os=>D.lst<|os.map nI,.lst<|(lz 3).map fun os=>D.lst<|os.map nI]) (.int<|ps.length-1)=.ok (.lst<|(lz ps.length).map fun os=>D.lst<|os.map nI):=by
    rcases Ky l0 l1 with h|h|h<;>rw[h]<;>rfl
   refine ao ?_;refine(ag (bE (bh (af rfl (iC (bR (A.t.s) (kP _ _)) rfl) ix) rfl) e)).trans ?_;exact rfl))) (m.ne ∎ rfl))) (n9 (aB (af rfl rfl (a.ne ∎ rfl))) (aB (af rfl rfl (a.ne ∎ rfl)))))).trans ?_
 exact ar<|(a.eq ∎ rfl)
theorem SY(h:TdOk tr ps W f qs J):∃qo,Ask tr ps W f qs qo/\∀k<ps.length,IxK (qo k) J:=by
 have key:∀k , ∃q:Tq,k<ps.length->Src tr ps W f qs k q/\IxK q J:=fun k=>by
  by_cases a:k<ps.length
  .obtain⟨q,c,d,e⟩:=h.p ps[k]<|afV a;exact⟨q,fun _=>⟨⟨h.t,h.n,⟨_,lE a,d,e⟩,c,(h.i q c).2⟩,(h.i q c).1⟩⟩
  .exact⟨⟨"",[],[],[]⟩,fun z=>absurd z a⟩
 obtain⟨qo,b⟩:=ak3.mp key;exact⟨qo,⟨h.t,fun k a=>(b k a).1⟩,fun k a=>(b k a).2⟩
theorem rX(h:TdOk tr ps W f qs J):lU [tr,.dcf<|dg qs,.lst<|J.map iV]=.ok (.bl U):=let⟨_,A,hI⟩:=SY h;ri_ A hI
theorem YQ(h1:NmOk n)(h2:NmOk c):nC (iV (n,c)) (.tup [])=.ok (.bl U):=by
 obtain⟨p,q,a,b,e⟩:=jE (Py.two (Py.str<|kj h1)<|Py.str<|kj h2) lh ∎ ∎ rfl;unfold nC;rw[show jG (iV (n,c)) (.tup [])=_ from e];cases a;cases b;rfl
theorem Xd(b:Ts c n qs)(hn:n<=3)(a:TrOk qs t):TdOk t.d t.ps t.W t.f qs<|vI qs:=
 ⟨(⟨bx,dw,a.f,a.h,a.n,rfl,a.l0,a.l1,t.os,zL,a.o⟩),b.nd,fun p e=>⟨p.1,a.q p e,rfl,rfl⟩,Xw b.nd b.o,by rw[b.l];omega,by have:=a.l1;omega⟩
theorem Ej:∀{qs:List Tq},(∀q∈qs,QOk q)->(vI qs).length<=20*qs.length
 |[],_=>acr _
 |q::r,h=>by
  have a:=Ej fun z hz=>h z<|mK _ hz;obtain⟨B,_,t⟩:=(h q<|∅).k
  have:=t.li
  unfold vI at a⊢
  grind
theorem law_true(b:List Int):zq [.lst<|b.map D.int]=.ok (.bl U):=by
 obtain⟨qs,ch,n,K,a,v,⟨z,p⟩,E⟩:=Fk (cell b 0%1000000000000) (most:=2) ∎;have s:∃mo:Nat,(2<=mo/\mo<=3)/\∀{r:Sd},aJ eR (vC<|.int 2) YU (Z (.lst<|b.map D.int)::r)=.ok (.int (mo:Int)):=by
  have e:∀{r:Sd},aD f6 (aj (ak 0)<|aj (vC<|.int 2) aA) (Z (.lst<|b.map D.int)::r)=.ok (.int<|cell b 2):=fun{r}=>ai #[2] (Ea b 2<|∎);by_cases h:cell b 2%3=1
  .exact⟨3,∎,fun{r}=>(bC (i:=2) (j:=1) rfl (ai (ac (af (aw (j:=3) e rfl) rfl (ij.trans<|by rw[alm h])) rfl) vT)).trans rfl⟩
  .exact⟨2,∎,fun{r}=>(bC (i:=2) (j:=0) rfl (ai (ac (af (aw (j:=3) e rfl) rfl (ij.trans<|by rw[alk h])) rfl) vT)).trans rfl⟩
 obtain⟨mo,F,H⟩:=s;obtain⟨t,B,y⟩:=QT (cell b 1) a.o (by rw[a.l];omega) (mo:=mo) F;have J:=zX v;have e:∀(k:Int)(h:0<=k){r:Sd},aD f6 (aj (ak 0)<|aj (vC<|.int k) aA) (Z (.lst<|b.map D.int)::r)=.ok (.int<|cell b k):=fun k h r=>ai #[2]<|Ea b k h;have I:=Xw a.nd a.o;have w:qs.length<=100:=by rw[a.l];omega
 have g:=Xd a p y;rw[Zf,yk];refine ao ?_;refine(ag<|SW (ai (ac (aw (e 0<|∎)<|af rfl rfl ((Wg<|∎).trans rfl))<|ac rfl rfl) K) rfl).trans ?_;refine(ag<|am<|ai (ac (Y2 rfl)<|ac rfl rfl) J).trans ?_;refine(ag<|am<|Ws v E).trans ?_;refine(ag<|am<|ai (ac (e 1<|∎)<|ac rfl (ac H rfl)) B).trans ?_;refine(skip<|oY<|cK (ai (ac rfl #[2])<|rX g) rfl).trans ?_;rcases Q9 I w (cell b 3)with ef|⟨m,c,ef,q,hq,rfl,hc,hi⟩
 .refine(ag<|am<|ai (ac rfl (ac rfl (ac (e 3<|∎) rfl))) ef).trans ?_;refine(skip<|aB<|af rfl (ay rfl) (lh.ne ∎ rfl)).trans ?_;exact ar<|ai (ac rfl #[2])<|rX g
 .have hi:c∉q.ids.map IF:=fun h=>hi<|(D4 a.nd hq c).mpr h;obtain⟨x,A⟩:=NP a.nd hq (a.o q hq) w hc hi;obtain⟨tn,es⟩:=Na (d:=x) g hq hc;have u:=rX tn;rw[RW]at u;obtain⟨k,C,G⟩:=rW.mp hc;refine(ag<|am<|ai (ac rfl (ac rfl (ac (e 3<|∎) rfl))) ef).trans ?_;have f:((vI qs).map iV).length+[iV (q.nm,c)].length<=1000:=by
   have:=Ej a.o
   rw[a.l]at this;rw[iF];show _+1<=1000;omega
  refine(ag<|(aK<|aB<|af rfl (ay rfl) (YQ (a.o q hq).sh.n<|by rw[<-G];exact((a.o q hq).sh.c k C).1)).trans<|(ag<|am<|ai (ac rfl (ac (ay<|ac rfl (ac #[17]<|ac #[22] rfl)) rfl)) A).trans<|(bt<|oY<|cK (ai (ac rfl (ac rfl (ac (af rfl (aX<|ac rfl rfl) (sG f)) rfl))) u) rfl).trans rfl).trans ?_;exact ar<|ai (ac rfl #[2])<|rX g
end T73
namespace T73
open PySem L2
noncomputable def eT(o:Obj):Bool:=match o with
 |⟨.none,L,.fields vs,_⟩=>vs.size==0
 |_=>η
noncomputable def K0(P:ai4):aT:=(HD.K P).filter fun p=>!eT p.2
theorem WH{P:ai4}{h:aij}(X:(HD.K P).In h):(K0 P).In h:=fun b o e=>X b o<|Mp (by rw[show(HD.K P).map (·.1)=agj 738 from by kernel_rfl];exact List.nodup_range) (agb.mp<|Ai e).1
theorem l8(P:ai4):(((K0 P).filterMap<|ic<|K0 P).map fun x=>(HD.K P).lookup x.1)=((K0 P).filterMap<|ic<|K0 P).map fun _=>Z<|aik #[]:=by kernel_rfl
def LA:Pl:=[(14,136,135,HD.m335),(13,129,128,HD.m335),(15,143,142,HD.m335),(16,150,149,HD.m335),(17,157,156,HD.m335),(73,404,403,HD.m717),(21,169,168,HD.m378),(53,312,311,HD.m567),(75,409,408,HD.m717),(25,183,182,HD.m394),(19,164,163,HD.m378),(26,188,187,HD.m394),(27,195,194,HD.m394),(33,212,211,HD.m428),(23,176,175,HD.m394),(34,219,218,HD.m428),(32,205,204,HD.m428),(35,226,225,HD.m428),(37,236,235,HD.m428),(39,248,247,HD.m428),(42,265,264,HD.m428),(43,272,271,HD.m428),(44,277,276,HD.m428),(40,253,252,HD.m428),(41,260,259,HD.m428),(38,241,240,HD.m428),(36,231,230,HD.m428),(49,284,283,HD.m567),(50,291,290,HD.m567),(52,305,304,HD.m567),(51,298,297,HD.m567),(54,319,318,HD.m567),(61,333,332,HD.m625),(60,326,325,HD.m625),(66,366,365,HD.m625),(63,347,346,HD.m625),(65,359,358,HD.m625),(64,352,351,HD.m625),(62,340,339,HD.m625),(67,373,372,HD.m625),(69,385,384,HD.m625),(68,378,377,HD.m625),(77,416,415,HD.m717),(72,397,396,HD.m717),(71,392,391,HD.m717),(80,435,434,HD.m717),(79,428,427,HD.m717),(78,423,422,HD.m717),(82,449,448,HD.m717),(81,442,441,HD.m717),(85,477,476,HD.m807),(88,498,497,HD.m807),(86,484,483,HD.m807),(87,491,490,HD.m807),(90,510,509,HD.m807),(89,505,504,HD.m807),(95,532,531,HD.m898),(102,581,580,HD.m898),(96,539,538,HD.m898),(100,567,566,HD.m898),(97,546,545,HD.m898),(98,553,552,HD.m898),(101,574,573,HD.m898),(99,560,559,HD.m898),(93,518,517,HD.m898),(94,525,524,HD.m898),(104,588,587,HD.m1004),(105,595,594,HD.m1004),(106,600,599,HD.m1004),(107,605,604,HD.m1004),(108,612,611,HD.m1004),(109,617,616,HD.m1004),(110,622,621,HD.m1004),(111,629,628,HD.m1004),(113,643,642,HD.m1004),(114,650,649,HD.m1004),(115,657,656,HD.m1004),(116,664,663,HD.m1004),(117,669,668,HD.m1004),(118,676,675,HD.m1004),(119,681,680,HD.m1004),(120,688,687,HD.m1004),(121,693,692,HD.m1004),(122,700,699,HD.m1004),(123,705,704,HD.m1004),(124,710,709,HD.m1004),(125,715,714,HD.m1004),(126,720,719,HD.m1004),(127,725,724,HD.m1004),(128,732,731,HD.m1004),(129,737,736,HD.m1004)]
theorem l0:(G.map fun q=>UT<|dc q.1.i)=G.map fun q=>q.1.x:=by kernel_rfl
theorem l1(w:agN):(G.map fun q=>q.1.g.map<|af5 #[19] age)=G.map fun q=>q.1.g.map fun _=>Z<|Z<|.ref<|fA LA q.1.i:=by kernel_rfl
theorem all_mk{l:aj7}{w:agN}{h:aij}{mg:alu}{I:aga}(X:(K0 w.params).In h)(N:h.Ns age mg)(B:mg "law"=Z (.ref I)):
  ∃fd:aid,(∀(s:MK)(v:By),BindsTo s fd ⟨[v],[]⟩ [("_law_script",v)])/\∀base:aij,(K0 w.params).In base->base.Ns age mg->FnOk l.prog w #[19] mg base j8 205 I fd ((nN 129).take 1) (zY #[19] mg zq):=by
 have J:=SS X N l0 (l1 w) (#[12]) (#[12]) #[12] #[12];have E:af5 #[19] age "FORMS"=Z (Z<|.ref 511):=by kernel_rfl
 have A:(K0 w.params).lookup 511=Z ⟨.type "dict",L,.dict #[HD.ke w.params "table" 900<|.int 2 901,HD.ke w.params "index" 902<|.int 3 903,HD.ke w.params "put" 904<|.int 4 905,HD.ke w.params "drop" 906<|.int 3 907] 4,#[]⟩:=by kernel_rfl
 have x:ahK w.params #[HD.ke w.params "table" 900<|.int 2 901,HD.ke w.params "index" 902<|.int 3 903,HD.ke w.params "put" 904<|.int 4 905,HD.ke w.params "drop" 906<|.int 3 907].toList:=⟨⟨_,_,rfl,rfl⟩,⟨⟨_,_,rfl,rfl⟩,⟨⟨_,_,rfl,rfl⟩,⟨⟨_,_,rfl,rfl⟩,af2⟩⟩⟩⟩;have S:#[HD.ke w.params "table" 900<|.int 2 901,HD.ke w.params "index" 902<|.int 3 903,HD.ke w.params "put" 904<|.int 4 905,HD.ke w.params "drop" 906<|.int 3 907].toList.map (fun e=>Mn e.key)=(lW.map (·.1)).map Z:=by kernel_rfl
 have O:(511==ahg)=η:=by kernel_rfl
 have p:af5 #[19] 511 "drop"=Z (Z<|.int 3 907):=by kernel_rfl
 have n:af5 #[19] 511 "put"=Z (Z<|.int 4 905):=by kernel_rfl
 have r:af5 #[19] 511 "index"=Z (Z<|.int 3 903):=by kernel_rfl
 have q:af5 #[19] 511 "table"=Z (Z<|.int 2 901):=by kernel_rfl
 have V:af5 #[19] age "TURNED"=Z (Z<|.ref 196):=by kernel_rfl
 have t:(K0 w.params).lookup 196=Z ⟨.type "dict",L,.dict #[HD.ke w.params "=" 430<|.str "=" 431,HD.ke w.params "<>" 432<|.str "<>" 433,HD.ke w.params "<" 434<|.str ">" 435,HD.ke w.params "<=" 436<|.str ">=" 437,HD.ke w.params ">" 438<|.str "<" 439,HD.ke w.params ">=" 440<|.str "<=" 441] 6,#[]⟩:=by kernel_rfl
 have o:ahK w.params #[HD.ke w.params "=" 430<|.str "=" 431,HD.ke w.params "<>" 432<|.str "<>" 433,HD.ke w.params "<" 434<|.str ">" 435,HD.ke w.params "<=" 436<|.str ">=" 437,HD.ke w.params ">" 438<|.str "<" 439,HD.ke w.params ">=" 440<|.str "<=" 441].toList:=⟨⟨_,_,rfl,rfl⟩,⟨⟨_,_,rfl,rfl⟩,⟨⟨_,_,rfl,rfl⟩,⟨⟨_,_,rfl,rfl⟩,⟨⟨_,_,rfl,rfl⟩,⟨⟨_,_,rfl,rfl⟩,af2⟩⟩⟩⟩⟩⟩;have c:af5 #[19] 196 ">="=Z (Z<|.str "<=" 441):=by kernel_rfl
 have b:af5 #[19] 196 ">"=Z (Z<|.str "<" 439):=by kernel_rfl
 have a:af5 #[19] 196 "<="=Z (Z<|.str ">=" 437):=by kernel_rfl
 have f:af5 #[19] 196 "<"=Z (Z<|.str ">" 435):=by kernel_rfl
 have g:af5 #[19] 196 "<>"=Z (Z<|.str "<>" 433):=by kernel_rfl
 have j:af5 #[19] 196 "="=Z (Z<|.str "=" 431):=by kernel_rfl
 have yc:mg "Table"=Z (.ref 466):=ai7 X N #[12];have jo:Yd #[19] "Table" 466:=(by kernel_rfl:af5 #[19] age "Table"=Z (Z<|.ref 466));have R:IsC #[19] 466:=⟨⟨by kernel_rfl,by kernel_rfl,by kernel_rfl,by kernel_rfl⟩,by kernel_rfl,by kernel_rfl,by kernel_rfl,by kernel_rfl,by kernel_rfl,by kernel_rfl,by kernel_rfl,by kernel_rfl⟩;have uZ:Mk #[19] 466 463:=⟨by kernel_rfl,by kernel_rfl,by kernel_rfl,by kernel_rfl⟩;have D:Fun #[19] "__init__" "Table.__init__" jk 463<|ahS "__init__" "Table.__init__" (jq jk) (dM jk) (aQ jk) .none .none .none HD.m807 L (.ref 462) .none:=GK (oc:=.type "function") (od:=L) (osl:=#[]) #[12] #[12] #[12];have u3:=D.binds (ps:=["self","shape","rows","indexes"]) fun _ _ _ _ _ _=>ln4 fun _ _ _ _=>rfl;have W:eV #[19] 466 "shape":=(by kernel_rfl:ahc #[19] (.ref 466) "shape"=Z L);have Q:eV #[19] 466 "rows":=(by kernel_rfl:ahc #[19] (.ref 466) "rows"=Z L);have K:eV #[19] 466 "indexes":=(by kernel_rfl:ahc #[19] (.ref 466) "indexes"=Z L);have C:(KO,Mr.pl yk)∈G:=agm (i:=90) #[12];have e:=B.symm.trans<|(J _ C).m "law" agl;cases e;refine⟨fD dc LA 129,fun s v=>.of_eq<|by rfl,fun base _ _=>?_⟩;have T:Txt w #[19] mg _ _ _ _ _ _ _ _ _:=⟨S8 X N<|#[12],We X N<|#[12],ai7 X N E,A,x,fun y d e=>tab_of (tab:=lW) (P:=fun y d=>∃v u,af5 #[19] 511 y=Z (Z u)/\a7 v u/\∀H,cz #[19] H d v) (agu.mpr ⟨⟨.int 2,.int 2 901,q,⟨_,rfl⟩,fun H=>rfl⟩,(agu.mpr ⟨⟨.int 3,.int 3 903,r,⟨_,rfl⟩,fun H=>rfl⟩,(agu.mpr ⟨⟨.int 4,.int 4 905,n,⟨_,rfl⟩,fun H=>rfl⟩,(agu.mpr ⟨⟨.int 3,.int 3 907,p,⟨_,rfl⟩,fun H=>rfl⟩,(fun _ h=>nomatch h)⟩)⟩)⟩)⟩) e,E,S,O,ai7 X N V,t,o,fun y d e=>tab_of (tab:=ox) (P:=fun y d=>∃v u,af5 #[19] 196 y=Z (Z u)/\a7 v u/\∀H,cz #[19] H d v) (agu.mpr ⟨⟨.str "=",.str "=" 431,j,⟨_,rfl⟩,fun H=>rfl⟩,(agu.mpr ⟨⟨.str "<>",.str "<>" 433,g,⟨_,rfl⟩,fun H=>rfl⟩,(agu.mpr ⟨⟨.str ">",.str ">" 435,f,⟨_,rfl⟩,fun H=>rfl⟩,(agu.mpr ⟨⟨.str ">=",.str ">=" 437,a,⟨_,rfl⟩,fun H=>rfl⟩,(agu.mpr ⟨⟨.str "<",.str "<" 439,b,⟨_,rfl⟩,fun H=>rfl⟩,(agu.mpr ⟨⟨.str "<=",.str "<=" 441,c,⟨_,rfl⟩,fun H=>rfl⟩,(fun _ h=>nomatch h)⟩)⟩)⟩)⟩)⟩)⟩) e,yc,jo,R,uZ,D,u3,W,Q,K⟩
 exact Lj (fun M k y=>abx T y) (hX T) G aC [] (((bL (S9 T.jo T.yc T.uZ (KJ T) T.u3) (fun _ h=>nomatch h)))) (fun _ z=>nomatch z) J (by
   unfold G;repeat (first|refine R5 #[12] #[12] ?_|refine Tz (fun F=>by kernel_rfl) #[12] ?_|refine RI #[12] #[12] ?_)
   exact af2) _ C
theorem walk{l:aj7}{q:ahb}{loose:alq}{XP:(alu)->aij->Prop}{i:agN->aij->Prop}{d:DefRec}{K:ai4->aT}(hn:l.most=Z 63)(g:d.params.defaults=[])
  (p:∀(w:agN)(h:aij),i w h->(K w.params).In h)
  (o:∀(w:agN)(h:aij),i w h->(((K w.params).filterMap<|ic<|K w.params).map (·.1)).Nodup/\∀x∈(K w.params).filterMap (ic<|K w.params),h.get? x.1=Z (aik #[]))
  (F:∀(w:agN)(mg:alu)(b:aga)(h:aij),(K w.params).In h->h.Ns age mg->mg d.name=Z (.ref b) ->
   ∃c:aid,(∀(s:MK)(u:By),BindsTo s c ⟨[u],[]⟩ [("_law_script",u)])/\∀base:aij,(K w.params).In base->base.Ns age mg->FnOk l.prog w (K w.params) mg base j8 205 b c ((nN 129).take 1) (zY (K w.params) mg zq)):
  PySem.W.WalkO q loose XP i l.row.toRowW d [] (fun f vs=>akP f vs):=
 L2.L7 (n:=63) (k:=205) (x:="_law_script") (CX:=fun _=>j8) (sp:=fun w=>OS (K w.params) zq) hn ∎ g ⟨rfl,∎,∎⟩ p (fun w mg b h h1 h2 e=>(fun h=>by
   obtain⟨c,h1,h2⟩:=h;exact⟨c,h1,fun base e j=>(h2 base e j).imp fun vs H Q E q=>q mg⟩) (F w mg b h h1 h2 e)) o (fun _ _ a r t m=>MG m (law_true r) fun _=>rfl) fun _ _ _ _ _ z=>z
end T73
open PySem PySem.W PyProof.Rows
set_option maxRecDepth 100000 in
set_option maxHeartbeats 0 in
theorem PySem.Challenge.cw_tablestore_k73_all_plans_told_holds : PySem.Challenge.rw_tablestore_k73_all_plans_told.Holds := by
 refine HD.hold<|L2.walkX (fun _=>by kernel_rfl) ?_;exact T73.walk (l:=PySem.Challenge.rw_tablestore_k73_all_plans_told) (K:=T73.K0) rfl #[12] (fun w h Yq0=>T73.WH Yq0) (fun w h Yq0=>⟨L2.yZ<|#[12],fun x hx=>Yq0 _ _<|agT.mp (T73.l8 w.params) x hx⟩) fun w mg fa h KX G hmg=>T73.all_mk KX G hmg
