import PyProof.Rows.All
import Wide.All
import OpenK.AllK
import Wide.FinOn
import Lean
import PyProof.EqAt
import PyProof.EqKinds
import PyProof.TupleCall
import PyProof.ZipIter
import PyProof.Draws
import PyProof.EnumMake
import PyProof.Rows.SetFrom
import KE.KIntText
import KE.IntTextLaws
import KE.KSortTup
import PyProof.StrLawsChain
import PyProof.StrCalls6
import PyProof.ExcAttrAll.ValueError
import PySem.Challenge.RW_tablestore_k70_conditions_judged
set_option maxHeartbeats 4000000
set_option genSizeOf false
set_option maxRecDepth 100000
set_option linter.all false
set_option compiler.extract_closed false
open Array renaming getElem?_toList->aan,toList_map->aaL,length_toList->abd,toList_inj->abR,perm_iff_toList_perm->ab3,getElem?_map->adk,mk->adm,map->adO
open Bool renaming false_ne_true->By,and_eq_true->YR,false_eq_true->Z5,eq_iff_iff->abl,not_eq_true'->aby,eq_false_iff->abz,and_false->ab8,and_eq_true_iff->acX
open False renaming elim->ZT
open ForInStep renaming yield->abW
open Int renaming toNat_natCast->YZ,emod_nonneg->ZQ,emod_lt_of_pos->aao
open List renaming length_map->iN,getElem?_eq_getElem->lE,mem_cons_of_mem->lT,mem_cons->mK,mem_append->xb,mem_map->Do,getElem?_eq_some_iff->K2,mem_append_right->MK,mem_singleton->OR,map_cons->YB,size_toArray->YC,length_append->YE,getElem_mem->YG,map_append->YK,mem_of_getElem?->YO,length_cons->YU,range->YV,nodup_cons->YW,mem_append_left->YY,not_mem_nil->Y3,map_map->Y5,length_range->Y7,mem_range->Y8,append_nil->Y9,of_mem_zip->Za,take_succ_eq_append_getElem->Zb,mem_cons_self->Zc,getD_eq_getElem?_getD->Ze,find?_cons->Zg,mem_filter->Zi,getElem?_map->Zk,length_take->Zx,all_eq_true->Zy,take_of_length_le->ZD,nodup_nil->ZF,append_assoc->ZM,map_inj_left->ZN,mem_of_mem_take->ZU,map_congr_left->ZV,all_cons->ZX,length_filter_le->ZZ,filter_cons->Z8,getElem?_append_right->aaj,lookup_cons->aak,getElem?_append_left->aaq,forall_mem_cons->aav,mem_of_mem_drop->aaw,length_drop->aaK,mem_flatMap->aaM,length_eq_one_iff->aaP,zip_cons_cons->aaR,length_singleton->aaW,reverse_cons->aaY,nodup_append->aaZ,replicate->aa6,drop_eq_getElem_cons->aa7,lookup->abb,mem_filterMap->abk,length_nil->abo,getElem?_cons_zero->abq,nil_append->abt,findIdx?_eq_some_iff_getElem->abu,getElem?_eq_none->abJ,take_length->abP,mem_iff_getElem->abU,filter_sublist->abX,find?_eq_none->ab5,getElem?_replicate->acq,getElem?_cons_succ->acu,findIdx?->acv,set->acx,drop_length->acA,getElem?_set_self->acB,drop_eq_nil_of_le->acD,map_nil->acJ,dropLast_eq_take->acM,length_zip->acO,getElem?_set_ne->acW,drop_zero->acZ,filterMap_cons->ac5,length_reverse->ac7,filter_eq_self->ac9,getElem?_range->ada,any_cons->adi,map_drop->adl,take_sublist->adp,foldl_append->adv,ext_getElem?->adw
open Nat renaming le_refl->oR,le_trans->Le,lt_of_lt_of_le->YF,zero_le->YJ,ne_of_lt->YL,le_succ_of_le->aax,min_eq_left->aaA,lt_irrefl->aaG,not_lt_zero->aaU,le_add_right->aa9,le_succ->abw,zero_add->abH,lt_or_ge->abI,lt_succ_self->abO,div_le_div_right->abT,ne_of_gt->ab4,lt_succ_of_lt->acj,add_mul_div_right->acP,le_of_lt->adz,le_of_eq->adA,succ_mul->adB
open Ne renaming symm->aaN
open Option renaming bind_eq_some_iff->dO,map_eq_some_iff->iF,isSome_map->abx,bind_some->abQ,isSome_iff_exists->acg,map_eq_none_iff->acE,getD_none->adC,map_some->adL
open Option.some renaming inj->ZY,injEq->adu
open Or renaming inr->ZL,inl->aal
open Prod renaming fst->YD
open PyProof.Rows renaming slot_tuple_getitem->Zl,seqObj->Zt,callWith_type1->Zw,callWith_builtin1->aaE,listUpdate_at->aa1,get?_update_seq->abZ,envOfC->ac0,IsTup->adx
open PyProof.Rows.SortSt renaming mk'->acT
open PySem renaming wpAny_bind->bY,wpAny_pure->nE,Value->rW,Shared->IF,sizeLine->RW,wpAny->YH,starEach->YI,model->YN,mainGlobals->YQ,Addr->YS,bootBuiltins->YT,compareOp->YX,attributeBase->Y4,sizeLine_eq->Zd,wpAny_call_entry->Zf,wpAny_Call_Name_kw->Zh,wpAny_mono->Zm,assignEach->Zn,Expr->Zq,wpAny_callSpecial?_slot->Zr,foldedSetIterable->Zs,World->Zv,wpAny_newObj_type->Zz,wpAny_holding->ZI,PyData->ZO,wpAny_field->ZR,swapsWith->Z2,sysModules->Z6,binaryOp->Z7,Program->Z9,backTo->aaa,mem_of_lookup->aac,wpAny_loadPart'->aag,tupleKind_room_in1->aap,wpAny_is_plain->aas,OsState->aat,wpAny_passesOwn->aaB,wpAny_truthy_bool->aaC,Around->aaF,behindInMarks->aaI,keywordEach->aaJ,Keyword->aaQ,FuncData->aaS,Stmt->aa0,cLine->aa3,Heap->abh,codeAny_mono->abi,sliceBounds->abB,NameKind->abE,wpAny_setField->abF,rawInt->abL,PassesOwn->abM,wpAny_attempt->abV,wpAny_execs_nil->abY,treeTable->ab0,codeAny->ab9,getItem->aca,Params->acn,wpAny_rule->aco,standAt->acy,letOwnedTupleGo->acQ,wpAny_typeOf->acR,call_meets->acU,evalArgs_none->ac6,wpAny_of_eq->adb,call->ads,Within->ady,pyIter->adP
open PySem.Around renaming under_plainId->abS
open PySem.Builtin.List renaming listTooLong->ZK
open PySem.Builtin.Slice renaming slicePlaces->aar,sliceAdjust->ab6
open PySem.Builtin.SmallTypes renaming nextOf->ZG,ownedTupleIsFree->ZJ,ownedTupleHandOut->aa8
open PySem.Builtin.Str renaming strSliceIndices->aad,occurrences->abm
open PySem.Builtin.Tuple renaming tupleExact->abg,tupleItemsOf->ab2
open PySem.Calls renaming callWith_builtin->ZC,spliced_cons->Z3,evalArgs_plain->aau,spliced_nil->aaz,call_function_entry->abA,Name_function_global->ab1
open PySem.F renaming called_set->ZP,slot_dict_get->Z0,slot_NoneType_hash->aai,plainAttrs_dict->aaH,entry_dict_get->aaO,args_tuple_add_2->abf,entry_tuple_add->abn,plainAttrs_list->abp,slot_tuple_add->abv,slot_dict_getitem->ab7,slot_tuple_index->aci,args_dict_get_2->acr,args_dict_get_3->acs,slot_dict_pop->acH,type_dict_get->acI,plain_set_new->acL,slot_set_iter->acN
open PySem.Heap renaming get?_push_of_some->eQ,get?_push_size->BY,lt_size->ID,SameBut->Zo,size_push->ZE,get?_update_other->aah,get?_update_self->aaT,get?_update_ne->abe,get?_push_ne->ack,get?_none_of_le->acV,ExtBut->adK
open PySem.Heap.IsSliceOf renaming new->adj
open PySem.Heap.SameBut renaming update->aae
open PySem.IsL renaming update->adE
open PySem.NameKind renaming free->ZH,cell->adT
open PySem.Obj renaming mapSeq->Y2,data_mapFields->aam,isFreed_of_fields->abG,cls_mapFields->ach
open PySem.Paired renaming length->acp
open PySem.PassesOwn renaming never->adN
open PySem.PyData renaming canLayAll0->Y0,depthAll->Z1,eqv->Z4,depth->aaV,canLay0->abD,int->acm
open PySem.SeqAt renaming shaped->YM,canLay_of_shaped->Zu,EqAt->adq,in_tupleAt->adD,eqAt_reads->adF
open PySem.SeqAt.EqAt renaming int_none->ac1,str_none->ac2,none_int->ac3,none_str->ac4,int_str->ade,str_int->adf,same->adI
open PySem.SetTable renaming below->adR
open PySem.Str renaming ofString->DO
open PySem.Txt renaming join->acS
open PySem.Value renaming none->ZS,ref->aab,isStrOf->aaX,isInt->aba,type->acb,int->acF,bool->adS
open PySem.W renaming Frag->aT,nsIn->Y1,kia_one->Zj,findIn->ZW,emptyDict->aay,fnOf->aaD,looks_pair->aa2,kitOne->aa4,keepIn->aa5,instObj->abj,KeysLit->abr,codeIn->abC,boot_heap->abN,hasDictIn->acd,kitx_list->ace,kitx_dict->acf,mg_of->acw,plainGet->acz,cellsFrom_some->acC,takerIn->acG,OpenLaw->acK,lookIn->acY,kdu_collect->ac8,kitx_tuple->adg,callWith_K->adh,plainOver->adn,specialIn->ado,kdl_dict->adG,kas_item->adH,takesIn->adJ,mapOf_K->adM,keq_ne->adQ
open PySem.W.Fast renaming te14364793385576792824->Zp,te10110043849684766642->aaf
open PySem.WalksT renaming enumerateD->adt
open PySem.pickOrder renaming go->abK
open True renaming intro->Y6
open Option renaming some->θ,none->ξ
open Bool renaming true->ζ,false->η
def adU:=@if_pos
def adV:=@if_neg
def adW:=@decide_eq_false
def adX:=@decide_eq_true
def adY:=@of_decide_eq_true
def adZ:=@congrArg
abbrev ad0:=List Nat
abbrev ad1:=List PySem.Str
abbrev ad2:=List (PySem.Addr×PySem.Obj)
abbrev ad3:=PySem.Value->PySem.Shared->Prop
abbrev ad4:=PySem.Str->Option PySem.Value
abbrev ad5:=List PySem.Addr
abbrev ad6:=List PySem.Value
abbrev ad9 (x:PySem.Str):Prop:=(x==("__debug__":PySem.Str))=η
local macro_rules|`(tactic|walk_at "v")=>`(tactic|first|exact Or.inl rfl|exact Or.inr (Or.inl rfl)|exact Or.inr (Or.inr rfl))
local macro_rules|`(tactic|walk_at "u")=>`(tactic|first|exact Or.inl rfl|exact Or.inr rfl|assumption)
local macro_rules|`(tactic|trivial)=>`(tactic|decide +kernel)
noncomputable section
namespace L2
theorem cJ {α β g ε:Type} {p q:α->β->g->ε->Prop} {r:Prop} (h:∃ a b c d,p a b c d/\q a b c d) (k:∀ a b c d,p a b c d->q a b c d->r):r:=by
 obtain ⟨a,b,c,d,x,y⟩:=h;exact k a b c d x y
theorem jC {α β:Type} {p q r:α->β->Prop} {z:Prop} (h:∃ a b,p a b/\q a b/\r a b) (k:∀ a b,p a b->q a b->r a b->z):z:=by
 obtain ⟨a,b,x,y,w⟩:=h;exact k a b x y w
end L2
set_option Elab.async false
noncomputable section
namespace HD
open PySem PySem.W PySem.Calls PyProof.Rows
abbrev p:Z9:=PySem.Challenge.pw_tablestore_k70_conditions_judged
abbrev ls:ad1:=["cells_of_showing","parts_of_conditions","cells_of_balance","parts_of_balance","FORMS"]
def bd:List aa0:=behindTheImports p
def S (i:Nat):aa0:=match p.main.body[i]? with|some s=>s|none=>.Pass default
def Sc (i j:Nat):aa0:=match S i with
 | .ClassDef _ _ _ b _ _ _ _ _ _ _=>(match b[j]? with|some s=>s|none=>.Pass default)
 | s=>s
def dA (s:aa0):Arguments:=match s with
 | .FunctionDef _ a _ _ _ _ _ _ _ _=>a
 | _=>⟨[],[],ξ,[],[],ξ,[]⟩
def dB (s:aa0):List aa0:=match s with
 | .FunctionDef _ _ b _ _ _ _ _ _ _=>b
 | _=>[]
noncomputable def dS (s:aa0):Scope:=match s with
 | .FunctionDef _ _ _ _ _ _ sc _ _ _=>sc
 | _=>{ kind:=.function,names:=[],isGenerator:=η,isCoroutine:=η }
def fn (s:aa0) (n u:Str) (g:YS) (cl:List (Str×YS)) (d kd r v:rW) (z:Option YS) (C I:rW) (bl:YS):aaS:=⟨n,u,dA s,.stmts (dB s),dS s,g,cl,d,kd,r,v,z,C,I,bl⟩
def dN (s:aa0):Str:=match s with
 | .FunctionDef n _ _ _ _ _ _ _ _ _=>n
 | _=>""
def tu (l:ad6):Obj:=⟨.type "tuple",ξ,.seq l.toArray 0,#[]⟩
def tn (t:Nat):ad1->ad6
 | []=>[]
 | x::r=>.str x t::tn (t+1) r
noncomputable def tr (k:Int):List (Int×Nat)->ad6
 | []=>[]
 | x::r=>.int x.1 0::.int k 0::.ref x.2::tr k r
def fi (l:ad6):Obj:=⟨.none,ξ,.fields l.toArray,#[]⟩
def fu (s:aa0) (m:rW) (c:Nat):Obj:=⟨.type "function",ξ,.func (fn s (dN s) (dN s) 3 [] .none .none .none m ξ (.ref c) .none 0),#[]⟩
def pr (s:aa0):Obj:=⟨.none,ξ,.func (fn s (dN s) (dN s) 0 [] .none .none .none .none ξ .none .none 0),#[]⟩
noncomputable def co (n q:Str) (t:Nat) (l a b c d:Int) (v:Nat) (o:Bool) (u:Nat) (x y z:rW) (k:Nat):Obj:=⟨.type "code",ξ,.fields #[.str n t,.str q (t+1),.str "/claim/cut.py" (t+2),.int l 0,.int a 0,.int b 0,.int c 0,.int d 0,.ref v,.bool o,.int 181 0,.ref u,.none,x,y,z,.int k 0,.int l 0,.str "/claim/cut.py" (k+1)],#[]⟩
def tO (l:List Obj) (n:Nat):Nat->Nat->Nat->BT
 | 0,_,_=>.nil
 | f+1,a,b=>if b < n then .node (l.getD b ⟨.none,ξ,.plain,#[]⟩) (tO l n f (2*a) (a+b)) (tO l n f (2*a) (2*a+b)) else .nil
noncomputable def ke (P:acn) (x:Str) (t:Nat) (v:rW):DictEntry:=⟨PyData.keyHash P x,.str x t,v⟩
def en:Env:={ scope:=p.main.scope,locals:=mainNs,globals:=mainNs,cells:=[],code:=(.ref 13),frame:=θ 14 }
def cE:Code:=.body bd en
abbrev fq:Pos:=⟨0,0,0,0⟩
def o11:Obj:=tu []
def C1:Obj:=fi []
def UX (u:Nat) (g:Nat) (v:Str) (r:Nat):Obj:=⟨(.type "frame"),ξ,.plain,#[(θ (.ref u)),(θ (.ref 3)),(θ (.ref g)),ξ,(θ (.str v r)),ξ,(θ (.ref 0))]⟩
def Yb (P:acn):List Obj:=[boot_o_0 P,boot_o_1 P,boot_o_2 P,boot_o_3 P,boot_o_4 P,boot_o_5 P,boot_o_6 P,boot_o_7 P,boot_o_8 P,boot_o_9 P,boot_o_10 P,o11,C1,co "<module>" "<module>" 182 1 0 0 0 0 11 η 12 .none .none .none 185,UX 13 3 "__main__" 164]
def T0 (P:acn):BT:=tO (Yb P) 15 12 1 0
abbrev sA (w:Zv) (os:aat):SharedT:=⟨T0 w.params,15,{},#[],{},187,os⟩
theorem rA (w:Zv) (os:aat):topGo ab0 p w 11 (θ (.ref 6)) 12 ⟨abN w.params,adm [],boot_drawn,boot_toks,os⟩ (topStub p)=θ ((sA w os).abs,⟨denote ab0 cE,cE,⟨0,0,0,0⟩,[topFrame fq]⟩):=by
 rw [PySem.W.Fast.te15667345088766844465,Zp,PySem.W.Fast.te11892475500146522536];kernel_rfl
theorem rB (w:Zv) (os:aat):segRunT ab0 p w 11 (θ (.ref 6)) 1 1 (sA w os) (blockOf bd en cE ⟨0,0,0,0⟩ [topFrame fq])=θ (.next,(sA w os),cE,⟨0,0,0,0⟩):=by
 rw [aaf,Zp];kernel_rfl
def Xh:Obj:=⟨(.type "builtin_function_or_method"),ξ,(.fields #[(.builtin "type.__prepare__"),(.type "type")]),#[]⟩
def XM (P:acn) (g:Nat) (r:Str) (v:Int) (u:Nat):Obj:=⟨(.type "dict"),ξ,(.dict #[ke P "__module__" g (.str "tablestore.errors" 187),ke P "__qualname__" (g+2) (.str r (g+1)),ke P "__firstlineno__" (g+4) (.int v (g+3)),ke P "__static_attributes__" (g+5) (.ref u)] 4),#[]⟩
def W7 (g:Nat):Obj:=⟨(.type "super"),ξ,(.fields #[(.ref g),(.ref g),(.ref g)]),#[]⟩
def Xs (g:Nat):Obj:=⟨(.type "builtin_function_or_method"),ξ,(.fields #[(.builtin "object.__init_subclass__"),(.ref g)]),#[]⟩
def o28:Obj:=tu [.ref 24]
def tq4 (P:acn) (g:Nat) (r:Int) (u:Nat):Obj:=⟨(.type "dict"),ξ,(.dict #[ke P "__module__" g (.str "tablestore.errors" 187),ke P "__firstlineno__" (g+4) (.int r (g+3)),ke P "__static_attributes__" (g+5) (.ref u),ke P "__doc__" (g+6) .none] 2),#[]⟩
noncomputable def tq5 (g:Str) (v:Nat) (z:Nat) (u:Nat) (r:Nat):Obj:=⟨(.type "type"),ξ,(.cls { name:=g,bases:=[(.ref 24)],mro:=[(.ref v),(.ref 24),(.type "ValueError"),(.type "Exception"),(.type "BaseException"),(.type "object")],ns:=z,qualname:=g,hasDict:=ζ,slotNames:=[],subclasses:=[],abstract:=η,collection:=ξ,hasDel:=η }),#[(θ (.ref u)),ξ,(θ (.str g r)),(θ (.str g (r+8))),(θ (.builtin "ValueError.__new__")),(θ (.bool ζ))]⟩
def m335:rW:=.str "tablestore.values" 335
def m378:rW:=.str "tablestore.showing" 378
def m394:rW:=.str "tablestore.conditions" 394
def m462:rW:=.str "tablestore.ordered" 462
def m520:rW:=.str "tablestore.shapes" 520
def m612:rW:=.str "tablestore.balance" 612
def m702:rW:=.str "tablestore.tables" 702
def m793:rW:=.str "tablestore.states" 793
def m899:rW:=.str "law_tablestore_k70_conditions_judged" 899
def g0:List aa0:=(bd.drop 0).take 117
def lN (i:Nat):Option (List Str×ad1):=localNames (dA (S i)) (dS (S i)) (.stmts (dB (S i)))
def dL (i:Nat):Nat:=match S i with
 | .FunctionDef _ _ _ _ _ _ _ _ _ x=>x.line
 | _=>0
def gA (m:rW) (q:Nat×Nat×Nat):List Obj:=let s:=S q.1;let a:=q.2.1;let t:=q.2.2;match lN q.1 with
 | some l=>[o11,C1,tu (tn (t+3) l.1),o11,pr s,co (dN s) (dN s) t (dL q.1) (dA s).args.length 0 0 3 a ζ (a+1) (.ref (a+2)) (.ref (a+3)) (.ref (a+4)) (t+3+l.1.length),fu s m (a+5)]
 | none=>[o11,C1,pr s,co (dN s) (dN s) t (dL q.1) (dA s).args.length 0 0 3 a ζ (a+1) .none .none (.ref (a+2)) (t+3),fu s m (a+3)]
def gb (i:Nat):Nat×Nat:=match lN i with
 | some l=>(7,6+l.1.length)
 | none=>(5,6)
def ru:Nat->Nat->Nat->Nat->List (Nat×Nat×Nat)
 | 0,_,_,_=>[]
 | n+1,i,a,t=>(i,a,t)::ru n (i+1) (a+(gb i).1) (t+(gb i).2)
def gK (P:acn) (q:Nat×Nat×Nat):DictEntry:=ke P (dN (S q.1)) (q.2.2+(gb q.1).2 - 1) (.ref (q.2.1+(gb q.1).1 - 1))
def gR (q:Nat×Nat×Nat):Int×Nat:=(dL q.1,q.2.1+(gb q.1).1 - 2)
def gX (P:acn) (n:Str) (l:Int) (a t:Nat):List Obj:=[o28,Xh,XM P (t+7) n l (a+7),o11,C1,co n n (t+2) l 0 0 0 0 (a+3) η (a+4) .none .none .none (t+5),UX (a+5) (a+2) "tablestore.errors" 187,o11,tq4 P (t+7) l (a+7),tq5 n (a+9) (a+8) a t,W7 (a+9),Xs (a+9)]
def r0:=ru 5 13 125 343
def r1:=ru 1 19 158 380
def r2:=ru 1 21 165 388
def r3:=ru 1 26 173 408
def r4:=ru 5 28 180 416
def r5:=ru 6 37 213 470
def r6:=ru 10 48 257 541
def r7:=ru 2 59 321 614
def r8:=ru 1 61 333 629
def r9:=ru 1 63 340 643
def r10:=ru 6 65 345 650
def r11:=ru 6 73 406 737
def r12:=ru 10 81 447 808
def r13:=ru 25 92 517 901
def X1 (P:acn):List Obj:=((Yb P).set 3 (⟨(.type "dict"),ξ,(.dict ([ke P "__name__" 165 (.str "law_tablestore_k70_conditions_judged" 899),ke P "__doc__" 166 .none,ke P "__package__" 167 .none,ke P "__loader__" 168 (.builtin "__main__.__loader__#opaque"),ke P "__spec__" 169 .none,ke P "__annotations__" 170 (.ref 6),ke P "__builtins__" 171 (.ref 4),ke P "__file__" 173 (.str "/claim/cut.py" 172),ke P "__cached__" 174 .none,ke P "TableError" 206 (.ref 24),ke P "BadShape" 222 (.ref 37),ke P "BadChange" 238 (.ref 49),ke P "BadRow" 254 (.ref 61),ke P "NoTable" 270 (.ref 73),ke P "TableThere" 286 (.ref 85),ke P "NoColumn" 302 (.ref 97),ke P "IndexThere" 318 (.ref 109),ke P "NoRow" 334 (.ref 121),ke P "KINDS" 340 (.ref 124),ke P "MOST_SIGNS" 342 (.int 40 341)]++r0.map (gK P)++[ke P "cells_of" 386 (.ref 339),ke P "cells_of_showing" 387 (.ref 164)]++r2.map (gK P)++[ke P "AHEAD_SIGNS" 399 (.ref 170),ke P "SAME_SIGNS" 403 (.ref 171),ke P "BEHIND_SIGNS" 407 (.ref 172),ke P "parts_of" 414 (.ref 344),ke P "parts_of_conditions" 415 (.ref 179)]++r4.map (gK P)++[ke P "FEWEST" 465 (.int 4 464),ke P "MOST" 467 (.int 8 466),ke P "MOST_ROW_NUMBER" 469 (.int 1000000000 468)]++r5.map (gK P)++[ke P "NO_NAMES" 533 (.ref 255),ke P "COLUMN_KINDS" 536 (.ref 256),ke P "MOST_LETTERS" 538 (.int 8 537),ke P "MOST_COLUMNS" 540 (.int 8 539)]++r6.map (gK P)++r7.map (gK P)++[ke P "cells_of_balance" 642 (.ref 339),ke P "parts_of_balance" 649 (.ref 344)]++r10.map (gK P)++[ke P "Table" 736 (.ref 401)]++r11.map (gK P)++[ke P "FORMS" 807 (.ref 446)]++r12.map (gK P)++r13.map (gK P)).toArray 114),#[]⟩)).set 12 (fi (tr 0 ([(2,20),(4,33),(6,45),(8,57),(10,69),(12,81),(14,93),(16,105),(18,117)]++r0.map gR++[(46,163)]++r2.map gR++[(62,178)]++r4.map gR++r5.map gR++r6.map gR++r7.map gR++[(171,338),(180,343)]++r10.map gR++[(224,390)]++r11.map gR++r12.map gR++r13.map gR)))++([tu [.type "ValueError"],Xh,XM P 196 "TableError" 2 22,o11,C1,co "TableError" "TableError" 191 2 0 0 0 0 18 η 19 .none .none .none 194,UX 20 17 "tablestore.errors" 187,o11,⟨(.type "dict"),ξ,(.dict #[ke P "__module__" 196 (.str "tablestore.errors" 187),ke P "__firstlineno__" 200 (.int 2 199),ke P "__static_attributes__" 201 (.ref 22),ke P "__weakref__" 203 (.ref 25),ke P "__doc__" 204 .none] 3),#[]⟩,⟨(.type "type"),ξ,(.cls { name:="TableError",bases:=[(.type "ValueError")],mro:=[(.ref 24),(.type "ValueError"),(.type "Exception"),(.type "BaseException"),(.type "object")],ns:=23,qualname:="TableError",hasDict:=ζ,slotNames:=[],subclasses:=[(.ref 37),(.ref 49),(.ref 61),(.ref 73),(.ref 85),(.ref 97),(.ref 109),(.ref 121)],abstract:=η,collection:=ξ,hasDel:=η }),#[(θ (.ref 15)),ξ,(θ (.str "TableError" 189)),(θ (.str "TableError" 197)),(θ (.builtin "ValueError.__new__")),(θ (.bool ζ))]⟩,⟨(.type "getset_descriptor"),ξ,(.fields #[(.str "__weakref__" 202),(.ref 24),(.builtin "ExceptionGroup.__weakref__"),.none]),#[]⟩,W7 24,Xs 24]++(gX P "BadShape" 4 28 207++(gX P "BadChange" 6 40 223++(gX P "BadRow" 8 52 239++(gX P "NoTable" 10 64 255++(gX P "TableThere" 12 76 271++(gX P "NoColumn" 14 88 287++(gX P "IndexThere" 16 100 303++(gX P "NoRow" 18 112 319++([tu (tn 337 ["none","number","text"])]++(r0.flatMap (gA m335)++(r1.flatMap (gA m378)++(r2.flatMap (gA m378)++([tu (tn 396 ["<","<=","<>"]),tu (tn 400 ["=","<=",">="]),tu (tn 404 [">",">=","<>"])]++(r3.flatMap (gA m394)++(r4.flatMap (gA m394)++(r5.flatMap (gA m462)++([tu (tn 522 ["and","by","down","from","none","not","or","order","show","take","where"]),tu (tn 534 ["number","text"])]++(r6.flatMap (gA m520)++(r7.flatMap (gA m612)++(r8.flatMap (gA m612)++(r9.flatMap (gA m612)++(r10.flatMap (gA m612)++([o11,Xh,⟨(.type "dict"),ξ,(.dict #[ke P "__module__" 711 (.str "tablestore.tables" 702),ke P "__qualname__" 713 (.str "Table" 712),ke P "__firstlineno__" 715 (.int 224 714),ke P "__init__" 725 (.ref 398),ke P "__static_attributes__" 729 (.ref 399)] 5),#[]⟩,o11,fi (tr 4 [(226,397)]),co "Table" "Table" 706 224 0 0 0 0 388 η 389 .none .none .none 709,UX 390 387 "tablestore.tables" 702,o11,C1,tu (tn 719 ["self","shape","rows","indexes"]),o11,⟨.none,ξ,(.func (fn (Sc 72 0) "__init__" "Table.__init__" 0 [] .none .none .none .none ξ .none .none 0)),#[]⟩,co "__init__" "Table.__init__" 716 226 4 0 0 3 392 ζ 393 (.ref 394) (.ref 395) (.ref 396) 723,⟨(.type "function"),ξ,(.func (fn (Sc 72 0) "__init__" "Table.__init__" 3 [] .none .none .none (.str "tablestore.tables" 702) ξ (.ref 397) .none 0)),#[]⟩,tu (tn 726 ["indexes","rows","shape"]),⟨(.type "dict"),ξ,(.dict #[ke P "__module__" 711 (.str "tablestore.tables" 702),ke P "__firstlineno__" 715 (.int 224 714),ke P "__init__" 725 (.ref 398),ke P "__static_attributes__" 729 (.ref 399),ke P "__dict__" 731 (.ref 402),ke P "__weakref__" 733 (.ref 403),ke P "__doc__" 734 .none] 4),#[]⟩,⟨(.type "type"),ξ,(.cls { name:="Table",bases:=[(.type "object")],mro:=[(.ref 401),(.type "object")],ns:=400,qualname:="Table",hasDict:=ζ,slotNames:=[],subclasses:=[],abstract:=η,collection:=ξ,hasDel:=η }),#[ξ,ξ,(θ (.str "Table" 704)),(θ (.str "Table" 712)),(θ (.builtin "object.__new__")),(θ (.bool ζ))]⟩,⟨(.type "getset_descriptor"),ξ,(.fields #[(.str "__dict__" 730),(.ref 401),(.builtin "function.__dict__"),(.builtin "function.__dict__#set")]),#[]⟩,⟨(.type "getset_descriptor"),ξ,(.fields #[(.str "__weakref__" 732),(.ref 401),(.builtin "ExceptionGroup.__weakref__"),.none]),#[]⟩,W7 401,Xs 401]++(r11.flatMap (gA m702)++([⟨(.type "dict"),ξ,(.dict #[ke P "table" 795 (.int 2 796),ke P "index" 797 (.int 3 798),ke P "put" 799 (.int 4 800),ke P "drop" 801 (.int 3 802)] 4),#[]⟩]++(r12.flatMap (gA m793)++(r13.flatMap (gA m899)))))))))))))))))))))))))))))
def T1 (P:acn):BT:=tO (X1 P) 680 12 1 0
abbrev sB (w:Zv) (os:aat):SharedT:=⟨T1 w.params,680,{},#[],{},1135,os⟩
def Oe (w:Zv) (os:aat):Prop:=segRunT ab0 p w 11 (θ (.ref 6)) 1 4873 (sA w os) (piecesOf g0 en cE ⟨0,0,0,0⟩ [topFrame fq])=θ (.next,(sB w os),cE,⟨518,0,539,151⟩)
def rf0 (w:Zv) (os:aat):Oe (w.withFollow "special-get-raises" η) os:=by
 unfold Oe;rw [aaf,Zp];kernel_rfl
def rt0 (w:Zv) (os:aat):Oe (w.withFollow "special-get-raises" ζ) os:=by
 unfold Oe;rw [aaf,Zp];kernel_rfl
theorem rG0 (w:Zv) (os:aat):segRunT ab0 p w 11 (θ (.ref 6)) 1 4873 (sA w os) (piecesOf g0 en cE ⟨0,0,0,0⟩ [topFrame fq])=θ (.next,(sB w os),cE,⟨518,0,539,151⟩):=byRow2 "special-get-raises" (P:=fun w=>Oe w os) (fun w=>rf0 w os) (fun w=>rt0 w os) w
abbrev L1 (P:acn):List Obj:=X1 P
def H1 (P:acn):abh:=⟨adm (L1 P),{}⟩
abbrev sf (w:Zv) (os:aat):IF:=⟨H1 w.params,#[],{},1135,os⟩
theorem rF (w:Zv) (os:aat):topRun ab0 p w 11 (θ (.ref 6)) 2 (sB w os).abs ⟨doneF .next,cE,⟨518,0,539,151⟩,[topFrame fq]⟩=θ (sf w os):=by
 rw [PySem.W.Fast.te14082659384304107361,Zp];kernel_rfl
theorem TF:bd=g0++([]):=by kernel_rfl
theorem run (w:Zv) (os:aat):topRun ab0 p w 11 (θ (.ref 6)) (12+(1+(4873+2))) ⟨abN w.params,adm [],boot_drawn,boot_toks,os⟩ (topStub p)=θ (sf w os) :=
 go_top (n:=12) (rA w os) (piece_block (n:=1) (segRun_of (rB w os)) (TF ▸ piece_app (n:=4873) (l:=g0) (segRun_of (rG0 w os)) (piece_nil (rF w os))))
noncomputable def q:Z9:=view p [1,2,3,4,5,6,7,8,9,11,12,13,14,15,16,17,20,21,23,24,25,27,28,29,30,31,32,34,35,36,37,38,39,40,41,42,44,45,46,47,48,49,50,51,52,53,54,55,56,57,59,60,61,62,63,64,65,66,67,68,69,70,72,73,74,75,76,77,78,80,81,82,83,84,85,86,87,88,89,90,92,93,94,95,96,97,98,99,100,101,102,103,104,105,106,107,108,109,110,111,112,113,114,115,116]
theorem QT (w:Zv):(fencedOpening ab0 p w 9870).map (fun s=>(s.heap,s.gens,s.drawn,s.toks))=θ (abN w.params,adm [],boot_drawn,boot_toks) :=
 boot_open (by kernel_rfl) (by decide) (fun s=>by kernel_rfl) w
theorem size (w:Zv):((abN w.params).isNs YQ&&(adm []:Array GenState).size==0,(abN w.params).objs.size,(abN w.params).nsMap YQ "__annotations__")=(ζ,11,(θ (.ref 6))):=by
 kernel_rfl
theorem k0 (w:Zv) (os:aat):(staticsOk (importedModules p.main.body) (abN w.params) (H1 w.params)&&namesBound p (H1 w.params)&&gensDone (sf w os)&&laidKept (abN w.params) (H1 w.params))=ζ:=by kernel_rfl
theorem k1 (w:Zv) (os:aat):seen ((recsOf q).map (·.name)) (ownsOf q) [] { (sf w os) with gens:=#[] }=expectedOf q:=by
 kernel_rfl
theorem k2 (w:Zv) (os:aat):(sf w os).heap.bltView=bltViewBooted:=by
 kernel_rfl
theorem k3 (w:Zv) (os:aat):((sf w os).heap.keysOk (looseW q ls) ((recsOf q).map (·.name)) ((litsOf q).map (·.1)) ((clssOf q (looseW q ls)).map (·.name))&&(sf w os).heap.accountedOkI (importedModules p.main.body)&&(sf w os).heap.isNs YQ&&(sf w os).heap.isNs builtinsNs&&tablesOk q (sf w os).heap&&(xlAt q [] (sf w os)&&recOk [] (sf w os))&&(if ζ then (sf w os).gens.size==0 else !leftWithCleanup (sf w os).gens))=ζ:=by
 kernel_rfl
theorem k4 (w:Zv) (os:aat):tabsOk q (sf w os)=ζ:=by
 kernel_rfl
theorem k5 (w:Zv) (os:aat):pinSeenD q (drecsOf q) (sf w os)=pinGoodD (drecsOf q):=by
 kernel_rfl
theorem k6 (w:Zv) (os:aat):plainSeenE q (looseW q ls) (sf w os)=plainGoodE q (looseW q ls):=by
 kernel_rfl
theorem k7 (w:Zv) (os:aat):plainSeenD q ls (sf w os)=plainGoodD q ls:=by
 kernel_rfl
theorem k8 (w:Zv) (os:aat):wideSeen q (sf w os)=wideGood q:=by
 kernel_rfl
theorem k9 (w:Zv) (os:aat):clsSeenW q ls (sf w os)=clsGoodW q ls:=by
 kernel_rfl
def ad:ad5:=YV 680
def K (P:acn):Frag:=ad.zip (L1 P)
theorem kY (w:Zv) (os:aat):X.obsZ ad (sf w os)=X.valZ K 680 1135 w:=by kernel_rfl
theorem left:LeftO p q ls (fun s=>xlAt q [] s&&recOk [] s) (X.obsZ ad) (X.valZ K 680 1135) 9870 :=
 LeftO.of_pieces (H₀:=abN) (H₁:=H1) (gs₀:=adm []) (gs₁:=#[]) (d₀:=boot_drawn) (d₁:={}) (k₀:=boot_toks) (k₁:=1135) (m₀:=11) (ann:=(θ (.ref 6))) (M:=(12+(1+(4873+2)))) QT size run (by decide) fun w=>funext fun os=>aa2 (k0 w os) (aa2 (aa2 (k1 w os) (aa2 (k2 w os) (aa2 (k3 w os) (aa2 (k4 w os) (aa2 (k5 w os) (aa2 (k6 w os) (aa2 (k7 w os) (aa2 (k8 w os) (k9 w os))))))))) (kY w os))
def dP (s:aa0):Pos:=match s with
 | .FunctionDef _ _ _ _ _ _ _ _ _ x=>x
 | _=>default
def d:DefRec:=⟨"law",dA (S 116),dB (S 116),dS (S 116),dP (S 116)⟩
def wa:namesResolve p=ζ:=by kernel_rfl
theorem wb:namesMeet p p.main.body (fun _ n=>attrL n)=ζ:=by kernel_rfl
def lo:looksOpen p=ζ:=by
 unfold looksOpen;rw [wa,wb,Bool.and_true];kernel_rfl
abbrev P4:=PySem.Challenge.rw_tablestore_k70_conditions_judged
def wd:P4.row.partSaid=ζ:=by
 unfold OpenRow.partSaid;rw [show looksOpen P4.row.toRowW.prog=ζ from lo];kernel_rfl
def ws:P4.wellSaid=ζ:=by
 unfold OpenLaw.wellSaid OpenRow.wellSaid;rw [wd];kernel_rfl
theorem hold (r:WalkX q ls (XL q []) (X.obsZ ad) (X.valZ K 680 1135) P4.row.toRowW d [] fun f vs=>ads f vs):P4.Holds:=by
 refine holds_law ws fun g=>?_;refine holds_openX (q:=q) (loose:=ls) (Xt:=fun s=>xlAt q [] s&&recOk [] s) (XP:=XL q []) (N:=9870) left (fun s e=>xl_of s (acX.mp e).1) XL.keeps (d:=d) (kwd:=[]) (by kernel_rfl) (by kernel_rfl) (by kernel_rfl) (fun s e=>recFacts_of (acX.mp e).2) (by rfl) g (by trivial) ⟨rfl,rfl,rfl,rfl,rfl,by trivial⟩ ?hw r
 case hw=>w_witness2
end HD
end
namespace L2
open PySem Sem
theorem km (h:Runs M Γ p t fs s e s'):s.toks<=s'.toks:=by
 induction h <;> first
  | rfl
  | assumption
  | (rename_i u;exact Nat.le_of_succ_le u)
  | (rename_i g r;exact Le g r)
  | grind
theorem wp_toks {C:X->Pos->IF->Prop} (M:Model) (I:Ctx) (z:Sem X) (pos:Pos) (sh:IF) (hn:n<=sh.toks)
  (oh:wp M I z (fun x p s=>n<=s.toks->C x p s) (fun x p s=>n<=s.toks->exc x p s) pos sh):wp M I z C exc pos sh:=by
 revert oh hn
 induction z generalizing pos sh with
 | pure x=>simp_all
 | raise v=>simp_all
 | unsupported|finish|yield|fork|await|register=>exact fun _ h=>h
 | rule _ k u|«at» _ k u|alloc _ k u|loadIfAlive _ k u|point _ k u|ask k u|os _ _ k u|handled _ k u|newGen _ k u|stack k u|thread k u=>simp_all
 | fresh k u=>exact fun hn h=>u _ _ _ (aax hn) h
 | load a _ k u|genState a k u=>exact fun hn ⟨o,ho,h⟩=>⟨o,ho,u _ _ _ hn h⟩
 | update a _ f k u|choose _ _ k u=>exact fun hn ⟨ha,h⟩=>⟨ha,u _ _ _ hn h⟩
 | call c h g l k u=>exact fun hn ⟨r,s',hr,hk⟩=>⟨r,s',hr,u r pos s' (Le hn (km hr)) hk⟩
 | resume g r l k u=>exact fun hn ⟨res,s',hw,h⟩=>⟨res,s',hw,u _ _ _ (Le hn ((by
   unfold Wakes at hw;split at hw
   .exact hw.elim
   .split at hw
    .obtain ⟨L,J,h1,_,_,rfl⟩:=hw;have q:=km h1;exact q
    .simp_all
    .rw [hw.2];exact oR _
   .obtain ⟨L,J,h1,_,_,rfl⟩:=hw;have q:=km h1;exact q
   .simp_all
   grind))) h⟩
theorem aP {t:Sem α} {Q:α->IF->Prop} (hn:n<=s.toks)
  (h:YH M A t (fun v g=>n<=g.toks->Q v g) (fun e g=>n<=g.toks->E e g) s):YH M A t Q E s:=fun u p r=>wp_toks M u t p s hn (h u p r)
theorem fM (hn:n<=s.toks) (h:ab9 M A c (fun r g=>n<=g.toks->R r g) s):ab9 M A c R s:=fun v p e u =>
 let ⟨r,g,hr,hR⟩:=h v p e u
 ⟨r,g,hr,hR (Le hn (km hr))⟩
end L2
namespace L2
open PySem PySem.Spec PyProof.Rows
inductive Key where
 | inl (i:Int)|inr (x:Str)|nn
 deriving DecidableEq
def oo:Key->rW->Bool
 | .inl k,v=>aba k v
 | .inr x,v=>aaX x v
 | .nn,v=>match v with
  | .none=>ζ
  | _=>η
def Xn (w:Zv):Key->Int
 | .inl k=>hashInt k
 | .inr x=>hashStr w x
 | .nn=>4238894112
theorem bZ:∀ {k:Key} {v:rW},oo k v=ζ->(∃ i t,k=Key.inl i/\v=acF i t)\/(∃ x t,k=Key.inr x/\v=Value.str x t)\/(k=Key.nn/\v=ZS)
 | .inl i,v,h=>by
  let ⟨t,e⟩:=Value.isInt_shape h
  exact .inl ⟨i,t,rfl,e⟩
 | .inr x,v,h=>by
  let ⟨t,e⟩:=Value.isStrOf_shape h
  exact .inr (.inl ⟨x,t,rfl,e⟩)
 | .nn,v,h=>by
  cases v with
  | none=>grind
  | _=>exact nomatch h
theorem Dy (i:Int) (t:Tok):oo (.inl i) (.int i t)=ζ:=by simp [oo,aba]
theorem DB (x:Str) (t:Tok):oo (.inr x) (.str x t)=ζ:=by simp [oo,aaX]
theorem PR (a b:Int):decide ((Key.inl a:Key)=Key.inl b)=(a==b):=by
 grind
theorem Pe (a b:Str):decide ((Key.inr a:Key)=Key.inr b)=decide (a=b):=by
 simp_all
theorem Pr (a:Int) (b:Str):decide ((Key.inl a:Key)=Key.inr b)=η:=adW (fun q=>nomatch q)
theorem Pf (a:Str) (b:Int):decide ((Key.inr a:Key)=Key.inl b)=η:=adW (fun q=>nomatch q)
theorem Fc (h:Q 4238894112 { s with toks:=s.toks+1 }):YH (YN prog w) A (PySem.pyHash .none) Q E s:=by
 refine bY ?_;refine nE ?_;have g:s.TypeIs .none "NoneType":=rfl;refine bY (wpAny_specialOf g aai.lookup ?_);refine bY (wpAny_specialOf g aai.lookup ?_);refine bY (wpAny_callSpecialIfBoundUnlessNone?_slot g aai
  (Zf aai g PySem.F.entry_NoneType_hash
   ((wpAny_ret_mkInt ?_)) (PySem.F.args_NoneType_hash_1 _)))
 exact nE h
def bB (prog:Z9) (w:Zv):PySem.KeyKind prog w Key where
 is:=oo
 hash:=Xn w
 inj:=fun v a b g hb=>by
  rcases bZ g with ⟨i,t,rfl,rfl⟩|⟨x,t,rfl,rfl⟩|⟨rfl,rfl⟩ <;> rcases bZ hb with ⟨j,u,rfl,e⟩|⟨y,u,rfl,e⟩|⟨rfl,e⟩ <;> first|rfl|(cases e;rfl)|cases e
 byValue:=fun k v h=>by
  rcases bZ h with ⟨i,t,rfl,rfl⟩|⟨x,t,rfl,rfl⟩|⟨rfl,rfl⟩ <;> rfl
 pyHash:=fun hv h=>by
  rcases bZ hv with ⟨i,t,rfl,rfl⟩|⟨x,t,rfl,rfl⟩|⟨rfl,rfl⟩
  .exact wpAny_pyHash_int h
  .exact wpAny_pyHash_str h
  .exact Fc h
 eqBool:=fun r hv h=>by
  rcases bZ r with ⟨i,t,rfl,rfl⟩|⟨x,t,rfl,rfl⟩|⟨rfl,rfl⟩
  .rcases bZ hv with ⟨j,u,rfl,rfl⟩|⟨y,u,rfl,rfl⟩|⟨rfl,rfl⟩
   .rw [PR] at h;exact wpAny_eqBool_int h
   .rw [Pr] at h;exact ade i t y u _ _ _ _ h
   .exact ac1 i t _ _ _ _ h
  .rcases bZ hv with ⟨j,u,rfl,rfl⟩|⟨y,u,rfl,rfl⟩|⟨rfl,rfl⟩
   .rw [Pf] at h;exact adf x t j u _ _ _ _ h
   .rw [Pe] at h;exact wpAny_eqBool_str h
   .exact ac2 x t _ _ _ _ h
  .rcases bZ hv with ⟨j,u,rfl,rfl⟩|⟨y,u,rfl,rfl⟩|⟨rfl,rfl⟩
   .exact ac3 j u _ _ _ _ h
   .exact ac4 y u _ _ _ _ h
   .exact adI _ _ _ _ _ h
 «strs»:=fun k x t v h=>by
  rcases bZ h with ⟨i,u,rfl,e⟩|⟨y,u,rfl,e⟩|⟨rfl,e⟩
  .exact nomatch e
  .injection e with e1 _
   subst e1;cases v <;> rfl
  .exact nomatch e
inductive V where
 | non|bl (b:Bool)|int (i:Int)|str (x:Str)|byt (b:Array UInt8)|flt (b:UInt64)|ref (a:YS)|ty (n:String)
 deriving DecidableEq
abbrev ad7:=List V
def aQ:V->rW->Prop
 | .non,u=>u=ZS
 | .bl b,u=>u=adS b
 | .int i,u=>∃ t,u=acF i t
 | .str x,u=>∃ t,u=Value.str x t
 | .byt b,u=>∃ t,u=Value.bytes b t
 | .flt b,u=>∃ t,u=Value.float b t
 | .ref a,u=>u=aab a
 | .ty n,u=>u=acb n
abbrev aU:ad7->ad6->Prop:=Paired aQ
theorem aU.length (r:aU xs us):xs.length=us.length:=acp r
theorem aU.get:∀ {xs:ad7} {us:ad6} {i:Nat} {x:V},aU xs us->xs[i]?=θ x->∃ u,us[i]?=θ u/\aQ x u
 | _,_,_,_,.nil,e=>by simp at e
 | _,_,0,_,.cons r _,e=>by grind
 | _,_,i+1,x,.cons _ t,e=>by
  obtain ⟨u,h1,h2⟩:=aU.get t (by simpa using e);simp_all
theorem aU.append:∀ {xs ys:ad7} {us ws:ad6},aU xs us->aU ys ws->aU (xs++ys) (us++ws)
 | _,_,_,_,.nil,s=>s
 | _,_,_,_,.cons r t,s=>.cons r (aU.append t s)
theorem aU.take:∀ {xs:ad7} {us:ad6} (n:Nat),aU xs us->aU (xs.take n) (us.take n)
 | _,_,0,_=>.nil
 | _,_,_+1,.nil=>.nil
 | _,_,n+1,.cons r t=>.cons r (aU.take n t)
theorem aU.drop:∀ {xs:ad7} {us:ad6} (n:Nat),aU xs us->aU (xs.drop n) (us.drop n)
 | _,_,0,r=>r
 | _,_,_+1,.nil=>.nil
 | _,_,n+1,.cons _ t=>aU.drop n t
def j7:Option V->Option rW->Prop
 | some v,θ u=>aQ v u
 | none,ξ=>True
 | _,_=>False
def KV {κ:Type}:List (κ×V)->List (κ×rW)->Prop:=Paired fun (p:κ×V) (q:κ×rW)=>p.1=q.1/\aQ p.2 q.2
noncomputable def kV:Key->V
 | .inl i=>.int i
 | .inr x=>.str x
 | .nn=>.non
inductive HO where
 /-- a list -/
 | lst (xs:ad7)
 /-- a tuple (never changes) -/
 | tup (xs:ad7)
 /-- a dict whose keys are ints and texts;one whose keys are tuples of ints and texts (the empty one is both) -/
 | dK (kvs:List (Key×V))|dT (kvs:List (List Key×V))
 /-- a set of ints: its members,its size -/
 | set (S:Int->Bool) (n:Nat)
 /-- an instance of the class at C,its dict at dx,its attributes -/
 | ins (C dx:YS) (fs:List (Str×V))
 /-- the dict of the instance at x -/
 | own (x:YS)
 /-- the dict of an exception -/
 | xd (fs:List (Str×V))
 /-- a bound method,f of x -/
 | met (f x:YS)
 /-- a range object lo,lo+1,.. below hi -/
 | rng (lo hi:Int)
 /-- a thing that is oh to the object (the script;a dict while a loop walks it): read,never written while it is so -/
 | frz (o:Obj) (u:HO)
 /-- a code object's table -/
 | tbl (ps:Array rW)
 /-- any other thing,by what is ζ of its one object (a def of one's own: SetO a S n:=HO.ext fun h=>..) -/
 | ext (φ:abh->Prop)
abbrev Hp:=YS->Option HO
def upd (H:Hp) (a:YS) (o:HO):Hp:=fun b=>if b=a then θ o else H b
theorem aE:upd H a o a=θ o:=by unfold upd;rw [adU rfl]
theorem aA (h:b≠a):upd H a o b=H b:=by unfold upd;rw [adV h]
theorem ux:upd (upd H a o) a u=upd H a u:=by
 funext b;unfold upd;split <;> rfl
theorem RJ {H:Hp} (h:H a=θ o) (h':H b=θ u) (d:o≠u):a≠b:=by
 intro e;simp_all
theorem a9 {H:Hp} (h:H a=θ o) (h':H b=ξ):a≠b:=by
 grind
section
variable (P:Z9) (w:Zv)
def dc (H:Hp) (h:abh) (a:YS):HO->Prop
 | .lst xs=>xs.length<=RW/\∃ (its:ad6) (n:Nat),aU xs its/\h.get? a=θ { cls:=.type "list",data:=.seq its.toArray n }
 | .tup xs=>xs.length<=RW/\∃ its:ad6,aU xs its/\adx h a its.toArray
 | .dK kvs=>kvs.length<=RW/\(a==Z6)=η/\∃ vs,KV kvs vs/\h.DictOf (bB P w) a vs
 | .dT kvs=>kvs.length<=RW/\(a==Z6)=η/\∃ xs:List (List Key×YS×rW),
   Paired (fun (p:List Key×V) (q:List Key×YS×rW)=>p.1=q.1/\H q.2.1=θ (.tup (p.1.map kV))/\aQ p.2 q.2.2) kvs xs /\
   ∃ o es g,h.get? a=θ o/\o.ExactDict/\o.data=.dict es g/\es.toList=xs.map (entryOfKey (tupleKind (bB P w)))/\(xs.map (·.1)).Nodup
 | .set S n=>h.SetOf (intKind P w) a S n
 | .ins C dx fs=>H dx=θ (.own a)/\fs.length<=1000/\dx≠a/\h.get? a=θ (abj C dx) /\
   ∃ mA,h.Ns1 dx mA/\(∀ f,j7 (fs.lookup f) (mA f))/\ady mA (fs.map (·.1))
 | .own _=>∃ o,h.get? a=θ o
 | .xd fs=>∃ mA,h.Ns1 a mA/\∀ f,j7 (fs.lookup f) (mA f)
 | .rng lo hi=>∃ t u v,h.get? a=θ { cls:=.type "range",data:=.fields #[.int lo t,.int hi u,.int 1 v] }
 | .frz o u=>h.get? a=θ o/\dc H h a u
 | .tbl ps=>h.get? a=θ { cls:=.none,data:=.fields ps }
 | .met f x=>h.get? a=θ (PySem.W.methodObj (.ref f) (.ref x))
 | .ext φ=>φ h/\(∃ o,h.get? a=θ o)/\∀ h1 h2:abh,φ h1->(∀ o,h1.get? a=θ o->h2.get? a=θ o)->φ h2
def l9 (H:Hp) (h:abh):Prop:=∀ a o,H a=θ o->dc P w H h a o
end
section
variable {a:YS}
theorem dc.lt (x:dc P w H h a o):a < h.objs.size:=by
 cases o with
 | lst xs=>obtain ⟨_,_,_,_,e⟩:=x;exact ID e
 | tup xs=>let ⟨_,_,_,p⟩:=x;exact p.lt
 | dK g=>obtain ⟨_,_,_,_,o,_,_,e,_⟩:=x;exact ID e
 | dT g=>obtain ⟨_,_,_,_,o,_,_,e,_⟩:=x;exact ID e
 | set S n=>obtain ⟨o,_,_,_,e,_⟩:=x;exact ID e
 | ins C r fs=>obtain ⟨_,_,_,e,_⟩:=x;exact ID e
 | own y=>let ⟨_,e⟩:=x;exact ID e
 | xd fs=>obtain ⟨_,⟨_,_,_,e,_⟩,_⟩:=x;exact ID e
 | rng lo v=>obtain ⟨_,_,_,e⟩:=x;exact ID e
 | frz ob u=>let ⟨e,_⟩:=x;exact ID e
 | tbl ps=>exact ID ((x))
 | met f y=>exact ID ((x))
 | ext φ=>let ⟨_,⟨_,e⟩,_⟩:=x;exact ID e
theorem Paired.mapP {F G:α->β->Prop}:∀ {l₁:List α} {g:List β},Paired F l₁ g->(∀ a b,F a b->G a b)->Paired G l₁ g
 | _,_,.nil,_=>.nil
 | _,_,.cons r t,f=>.cons (f _ _ r) (Paired.mapP t f)
theorem dc.stay (x:dc P w H h a o) (k:∀ b u,(b=a\/H b=θ (.own a))->h.get? b=θ u->h'.get? b=θ u)
  (J:∀ b,H b=θ (.own a)->H' b=θ (.own a)) (ht:∀ b xs,H b=θ (.tup xs)->H' b=θ (.tup xs)):dc P w H' h' a o:=by
 induction o with
 | lst xs=>obtain ⟨z,its,n,r,e⟩:=x;exact ⟨z,its,n,r,k _ _ (.inl rfl) e⟩
 | tup xs=>let ⟨z,its,r,ob,e,c⟩:=x;exact ⟨z,its,r,ob,k _ _ (.inl rfl) e,c⟩
 | dK I=>obtain ⟨z,y,vs,r,ob,es,g,e,c⟩:=x;exact ⟨z,y,vs,r,ob,es,g,k _ _ (.inl rfl) e,c⟩
 | dT I =>
  obtain ⟨z,y,xs,r,ob,es,g,e,c⟩:=x;exact ⟨z,y,xs,Paired.mapP r fun p q z=>⟨z.1,ht _ _ z.2.1,z.2.2⟩,ob,es,g,k _ _ (.inl rfl) e,c⟩
 | set S n=>obtain ⟨ob,es,g,t,e,c⟩:=x;exact ⟨ob,es,g,t,k _ _ (.inl rfl) e,c⟩
 | ins C Y fs =>
  obtain ⟨d,z,ne,e,mA,⟨od,es,g,L,c⟩,r⟩:=x;exact ⟨J _ d,z,ne,k _ _ (.inl rfl) e,mA,⟨od,es,g,k _ _ (.inr d) L,c⟩,r⟩
 | own y=>let ⟨ob,e⟩:=x;exact ⟨ob,k _ _ (.inl rfl) e⟩
 | xd fs=>obtain ⟨mA,⟨od,es,g,e,c⟩,r⟩:=x;exact ⟨mA,⟨od,es,g,k _ _ (.inl rfl) e,c⟩,r⟩
 | rng lo Z=>let ⟨t,u,v,e⟩:=x;exact ⟨t,u,v,k _ _ (.inl rfl) e⟩
 | frz ob u M=>let ⟨e,q⟩:=x;exact ⟨k _ _ (.inl rfl) e,M q⟩
 | tbl ps =>
  have e  := x;exact k a _ (.inl rfl) e
 | met f y =>
  have e  := x;exact k a _ (.inl rfl) e
 | ext φ=>let ⟨p,⟨o,e⟩,st⟩:=x;exact ⟨st _ _ p fun o q=>k _ _ (.inl rfl) q,⟨o,k _ _ (.inl rfl) e⟩,st⟩
theorem l9.lt (x:l9 P w H h) (e:H a=θ o):a < h.objs.size:=(x a o e).lt
theorem l9.fresh (x:l9 P w H h) (e:h.objs.size<=a):H a=ξ:=by
 cases q:H a with
 | none=>rfl
 | some u=>exact absurd (YF (x.lt q) e) (aaG _)
theorem l9.kept (x:l9 P w H h) (k:∀ b u,h.get? b=θ u->h'.get? b=θ u):l9 P w H h':=fun a o e =>
 (x a o e).stay (fun b u _ q=>k b u q) (fun _ q=>q) fun _ _ q=>q
theorem l9.laid (x:l9 P w H h) (k:∀ b u,h.get? b=θ u->h'.get? b=θ u) (g:h.objs.size<=a) (new:dc P w (upd H a o) h' a o):l9 P w (upd H a o) h':=fun b u e=>by
 have hn:=x.fresh g;by_cases hb:b=a
 .subst hb;rw [aE] at e;cases e;exact new
 .rw [aA hb] at e;exact (x b u e).stay (fun c v _ q=>k c v q) (fun c q=>by rw [aA (a9 q hn)];exact q) fun c xs q=>by rw [aA (a9 q hn)];exact q
end
def Rd (H:Hp) (a:YS) (u:HO):Prop:=H a=θ u\/∃ o,H a=θ (.frz o u)
theorem Rd.ok (r:Rd H a u) (x:l9 P w H h):dc P w H h a u:=by
 rcases r with r|⟨o,r⟩
 .exact x a u r
 .obtain ⟨_,q⟩:=x a _ r;exact q
def SO:Option HO->Prop
 | some (.lst _)=>True
 | some (.dK _)=>True
 | some (.dT _)=>True
 | some (.set _ _)=>True
 | some (.ins _ _ _)=>True
 | some (.ext _)=>True
 | _=>False
section
theorem l9.write (ok:l9 P w H h) (I:SO (H x)) (M:e=x\/H e=θ (.own x)) (k:∀ b u,b≠e->h.get? b=θ u->h'.get? b=θ u) (J:∃ u,h'.get? e=θ u)
  (new:dc P w (upd H x o') h' x o'):l9 P w (upd H x o') h':=fun b u q=>by
 have g:∀ c y,H c=θ (.own y)->c≠x:=fun c y r z=>by subst z;rw [r] at I;exact I
 have C:∀ c xs,H c=θ (.tup xs)->c≠x:=fun c xs r z=>by subst z;rw [r] at I;exact I
 by_cases hb:b=x
 .subst hb;rw [aE] at q;cases q;exact new
 .rw [aA hb] at q;by_cases L:b=e
  .have q':H b=θ (.own x):=by
    simp_all
   rw [q] at q';cases q';let ⟨v,hv⟩:=J
   exact ⟨v,by grind⟩
  .refine (ok b u q).stay (fun c v Y r=>k c v ?_ r) (fun c r=>by rw [aA (g c b r)];exact r) fun c xs r=>by rw [aA (C c xs r)];exact r
   grind
end
structure Un (fs ex:ad5) (H H':Hp) (h h':abh):Prop where
 keep:∀ b o,h.get? b=θ o->H b=ξ->b∉fs->b∉ex->h'.get? b=θ o
 slot:∀ b o,h.get? b=θ o->H b=ξ->b∈fs->b∉ex->∃ sl,h'.get? b=θ { o with slots:=sl }
 free:∀ b o,h.get? b=θ o->H b=ξ->b∉ex->H' b=ξ
 there:∀ b o,h.get? b=θ o->b∉ex->∃ o',h'.get? b=θ o'
 tups:∀ b xs,H b=θ (.tup xs)->H' b=θ (.tup xs)
 frzs:∀ b o u,H b=θ (.frz o u)->H' b=θ (.frz o u)
 tbls:∀ b ps,H b=θ (.tbl ps)->∃ more,H' b=θ (.tbl (ps++more))
section
variable {h h1 h2:abh} {a x:YS}
theorem Un.any (u:Un fs ex H H1 h h1) (q:h.get? b=θ ob) (n:H b=ξ) (g:b∉ex):∃ r,h1.get? b=θ { ob with slots:=r }:=by
 by_cases hb:b∈fs
 .exact u.slot b ob q n hb g
 .exact ⟨ob.slots,u.keep b ob q n hb g⟩
theorem Un.kept (k:∀ b u,h.get? b=θ u->h'.get? b=θ u):Un fs ex H H h h' :=
 ⟨fun b ob q _ _ _=>k b ob q,fun b ob q _ _ _=>⟨ob.slots,k b ob q⟩,fun _ _ _ n _=>n,fun b ob q _=>⟨ob,k b ob q⟩,fun _ _ q=>q,fun _ _ _ q=>q,fun _ ps q=>⟨#[],by rw [q];simp⟩⟩
theorem Un.laid (k:∀ b u,h.get? b=θ u->h'.get? b=θ u) (g:h.objs.size<=a) (hn:H a=ξ):Un fs ex H (upd H a o) h h' where
 keep:=fun b u q _ _ _=>k b u q
 slot:=fun b u q _ _ _=>⟨u.slots,k b u q⟩
 free:=fun b u q n _=>by rw [aA (YL (YF (ID q) g))];exact n
 there:=fun b u q _=>⟨u,k b u q⟩
 tups:=fun b xs q=>by rw [aA (a9 q hn)];exact q
 frzs:=fun b u xs q=>by rw [aA (a9 q hn)];exact q
 tbls:=fun b ps q=>⟨#[],by rw [aA (a9 q hn),q];simp⟩
theorem Un.write (g:SO (H x)) (C:e=x\/H e=θ (.own x)) (k:∀ b u,b≠e->h.get? b=θ u->h'.get? b=θ u) (v:∃ u,h'.get? e=θ u):Un fs ex H (upd H x o) h h':=by
 have r:∀ b,H b=ξ->b≠x:=fun b n z=>by subst z;rw [n] at g;exact g
 have hb:∀ b,H b=ξ->b≠e:=fun b n z=>by
  simp_all
 have hm:∀ b u,H b=θ u->¬ SO (θ u)->b≠x:=fun b u q nm z=>by grind
 refine ⟨fun b u q n _ _=>k b u (hb b n) q,fun b u q n _ _=>⟨u.slots,k b u (hb b n) q⟩,fun b u q n _=>by rw [aA (r b n)];exact n,fun b u q _=>?_,
  fun b xs q=>by rw [aA (hm b _ q fun z=>z)];exact q,fun b u xs q=>by rw [aA (hm b _ q fun z=>z)];exact q,fun b ps q=>⟨#[],by rw [aA (hm b _ q fun z=>z),q];simp⟩⟩
 grind
end
def Vc (h:abh) (H:Hp):ad5:=(YV h.objs.size).filter fun a=>(H a).isSome
def xH (h:abh) (H:Hp):abh:=PySem.W.hideAll h (Vc h H)
theorem Ge (e:h.get? b=θ o) (n:H b=ξ):(xH h H).get? b=θ o :=
 PySem.W.hideAll_get _ e fun hm=>by
  have q:(H b).isSome=ζ:=(Zi.mp hm).2;rw [n] at q;simp at q
theorem JV (e:(xH h H).get? b=θ o):h.get? b=θ o/\H b=ξ:=by
 have g:h.get? b=θ o:=PySem.W.of_hideAll (Vc h H) e;refine ⟨g,?_⟩;cases q:H b with
 | none=>rfl
 | some x =>
  have hm:b∈Vc h H:=Zi.mpr ⟨Y8.mpr (ID g),by simp [q]⟩;have z:(xH h H).get? b=ξ:=PySem.W.hideAll_none (Vc h H) hm;rw [z] at e;cases e
structure Mod (K:aT) (mg:ad4) (base:abh):Prop where
 kin:K.In base
 glob:base.Ns YQ mg
 blt:∃ mb,base.Ns builtinsNs mb/\∀ x:Str,x≠"__name__"->mb x=YT x
 nolimit:base.NoLimit
structure Cx where
 prog:Z9
 w:Zv
 K:aT
 mg:Str->Option rW
 base:abh
 A:aaF
 N:ad1
 s₀:IF
 H₀:Hp
 env:Env
 outer:List Env
 stack:List Env
 ex:ad5
 fn:Str->Bool
 calm:Bool
 tn:Nat:=0
 pn:ad2
 xe:rW->IF->Prop
def HM (l:List Env):ad5:=l.filterMap (·.frame)
abbrev Cx.fs (X:Cx):ad5:=HM X.outer
def sd (g:Scope) (x:Str):Prop:=g.names.lookup x=θ .local\/g.names.lookup x=θ .cell\/g.names.lookup x=θ .free
def vZ (g:Scope) (x:Str):Prop:=g.names.lookup x=θ .local\/g.names.lookup x=θ .cell
def Wf (env:Env) (h:abh) (m:ad4) (x:Str) (u:rW):Prop :=
 (env.kindOf x=θ .local/\m x=θ u)\/((env.kindOf x=θ .cell\/env.kindOf x=θ .free)/\∃ c,env.cells.lookup x=θ c/\h.IsCell c (θ u))
structure Cx.Ok (X:Cx):Prop where
 mod:Mod X.K X.mg X.base
 kind:X.env.scope.kind=.function
 glob:X.env.globals=YQ
 blt:X.env.builtins=builtinsNs
 above:X.s₀.heap.objs.size<=X.env.locals
 inj:∀ x y c,X.env.cells.lookup x=θ c->X.env.cells.lookup y=θ c->x=y
 has:∀ x,(X.env.kindOf x=θ .cell\/X.env.kindOf x=θ .free)->∃ c,X.env.cells.lookup x=θ c
 cab:∀ x c,X.fn x=ζ->X.env.cells.lookup x=θ c->X.s₀.heap.objs.size<=c
 hd:X.calm=ζ->X.A.handled=ξ
 frames:X.A.frames=θ X.stack
 stk:X.stack=X.outer\/(X.stack=X.env::X.outer/\X.env.frame=θ X.env.locals)
 exf:∀ b∈X.ex,b≠X.env.locals/\∀ x c,X.env.cells.lookup x=θ c->c≠b
 bs:∀ b o,X.base.get? b=θ o->X.s₀.heap.get? b=θ o/\X.H₀ b=ξ
 bsz:X.base.objs.size<=X.s₀.heap.objs.size
 noex:∀ b o,X.base.get? b=θ o->b∉X.ex
 exfs:∀ b∈X.ex,b∉X.fs
 funs:X.s₀.heap.FunFrames X.base X.outer
 frf:∀ b∈X.fs,X.H₀ b=ξ
structure Inv (X:Cx) (af:ad2) (σ:List (Option V)) (H:Hp) (s:IF):Prop where
 ok:X.Ok
 os:s.os=X.s₀.os
 bare:AllBare s.gens
 base:Un X.fs X.ex X.H₀ H X.s₀.heap s.heap
 loc:∃ m,s.heap.Ns X.env.locals m/\∀ (i:Nat) (x:Str) (v:V),X.N[i]?=θ x->σ[i]?=θ (θ v)->sd X.env.scope x->∃ u,aQ v u/\Wf X.env s.heap m x u
 cell:∀ x c,X.env.cells.lookup x=θ c->∃ v,s.heap.IsCell c v
 free:H X.env.locals=ξ
 freeC:∀ x c,X.env.cells.lookup x=θ c->H c=ξ
 pin:∀ p∈X.pn++af,s.heap.get? p.1=θ p.2/\H p.1=ξ/\p.1≠X.env.locals/\p.1∉X.fs/\∀ v,p.2.data≠.cell v
 hok:l9 X.prog X.w H s.heap
 len:σ.length=X.N.length
 tk:X.tn<=s.toks
end L2
local macro_rules | `(tactic| walk_at "tok") => `(tactic| first | assumption | exact L2.Inv.tk (by assumption) | exact Nat.le_succ_of_le (L2.Inv.tk (by assumption)) | exact Nat.le_succ_of_le (Nat.le_succ_of_le (L2.Inv.tk (by assumption))) | (have hI := L2.Inv.tk (by assumption); lia) | exact Nat.zero_le _)
namespace L2
open PySem PySem.Spec PyProof.Rows
section
variable {X:Cx}
theorem Cx.Ok.nofr (ok:X.Ok) (e:X.base.get? b=θ o):b∉X.fs:=fun hb=>by
 have:=(ok.funs.mem hb).1
 rw [e] at this;cases this
theorem Inv.bs (I:Inv X af σ H s):∀ b o,X.base.get? b=θ o->s.heap.get? b=θ o/\H b=ξ:=fun b o e =>
 ⟨I.base.keep b o (I.ok.bs b o e).1 (I.ok.bs b o e).2 (I.ok.nofr e) (I.ok.noex b o e),I.base.free b o (I.ok.bs b o e).1 (I.ok.bs b o e).2 (I.ok.noex b o e)⟩
theorem Inv.bk (I:Inv X af σ H s):∀ b o,X.base.get? b=θ o->s.heap.get? b=θ o:=fun b o e=>(I.bs b o e).1
theorem Inv.mod (I:Inv X af σ H s):Mod X.K X.mg X.base:=I.ok.mod
theorem Inv.kIn (I:Inv X af σ H s):X.K.In s.heap:=I.ok.mod.kin.keeps I.bk
theorem Inv.fr (I:Inv X af σ H s):∃ m,Fr X.base X.env.locals s.heap m :=
 let ⟨m,hn,_⟩:=I.loc
 ⟨m,hn,I.bk,Le I.ok.bsz I.ok.above⟩
theorem Inv.lt (I:Inv X af σ H s):X.env.locals < s.heap.objs.size:=let ⟨_,hn,_⟩:=I.loc;hn.lt
theorem Inv.sz (I:Inv X af σ H s):X.s₀.heap.objs.size<=s.heap.objs.size:=Le I.ok.above (adz I.lt)
theorem Inv.nofs (I:Inv X af σ H s) {a:YS} (h:s.heap.objs.size<=a):a∉X.fs:=fun hb=>by
 obtain ⟨_,o,g,_⟩:=I.ok.funs.mem hb;exact absurd (YF (ID g) (Le I.sz h)) (aaG _)
theorem Inv.cne (I:Inv X af σ H s):∀ x c,X.env.cells.lookup x=θ c->c≠X.env.locals:=fun x c e z=>by
 let ⟨v,o,ho,hd⟩:=I.cell x c e
 obtain ⟨m,⟨u,es,C,g,r,_⟩,_⟩:=I.loc
 grind
theorem Inv.funs (I:Inv X af σ H s):s.heap.FunFrames X.base X.outer:=by
 have all:∀ (l:List Env),(∀ b∈HM l,b∈X.fs)->X.s₀.heap.FunFrames X.base l->s.heap.FunFrames X.base l:=by
  intro l;induction l with
  | nil=>intro _ _;trivial
  | cons env r J =>
   intro hs C;obtain ⟨M,⟨L,o,g,hn,u,v⟩,hr⟩:=C;have hL  := hs L (by unfold HM;simp_all);let ⟨sl,e⟩:=I.base.slot L o u (I.ok.frf L hL) hL fun z=>I.ok.exfs L z hL
   exact ⟨M,⟨L,_,g,hn,e,v⟩,J (fun b hb=>hs b (by unfold HM;rw [ac5,g];exact lT _ hb)) hr⟩
 exact all X.outer (fun _ hb=>hb) I.ok.funs
theorem Inv.stack (I:Inv X af σ H s):s.heap.FunFrames X.base X.stack:=by
 rcases I.ok.stk with e|⟨e,hf⟩
 .rw [e];exact I.funs
 .rw [e];let ⟨m,hn,_⟩:=I.loc
  refine .cons (by rw [I.ok.kind];decide) hf hn ?_ I.funs;exact acV (Le I.ok.bsz I.ok.above)
theorem Inv.stkSub (I:Inv X af σ H s):∀ b∈HM X.stack,b∈X.env.locals::X.fs:=fun b hb=>by
 rcases I.ok.stk with e|⟨e,hf⟩
 .simp_all
 .rw [e] at hb;unfold HM at hb;rw [ac5,hf] at hb;exact hb
theorem Inv.stkFree (I:Inv X af σ H s):∀ b∈HM X.stack,H b=ξ:=fun b hb=>by
 rcases mK.mp (I.stkSub b hb) with e|hb
 .rw [e];exact I.free
 .obtain ⟨_,o,g,_⟩:=I.ok.funs.mem hb;exact I.base.free b o g (I.ok.frf b hb) fun z=>I.ok.exfs b z hb
theorem Inv.step {ch:ad5} (I:Inv X af σ H s)
  (J:∀ b∈ch,(b∈X.ex\/X.s₀.heap.objs.size<=b)/\b≠X.env.locals/\(∀ x c,X.env.cells.lookup x=θ c->c≠b)/\∀ p∈X.pn++af,p.1≠b)
  (keep:∀ b o,b≠X.env.locals->b∉X.fs->b∉ch->s.heap.get? b=θ o->H b=ξ->h'.get? b=θ o)
  (slot:∀ b o,b≠X.env.locals->b∈X.fs->b∉ch->s.heap.get? b=θ o->H b=ξ->∃ sl,h'.get? b=θ { o with slots:=sl }) (free:∀ b o,b∉ch->s.heap.get? b=θ o->H b=ξ->H' b=ξ)
  (there:∀ b o,b∉ch->s.heap.get? b=θ o->∃ o',h'.get? b=θ o')
  (tups:∀ b xs,H b=θ (.tup xs)->H' b=θ (.tup xs)) (frzs:∀ b o u,H b=θ (.frz o u)->H' b=θ (.frz o u)) (tbls:∀ b ps,H b=θ (.tbl ps)->∃ more,H' b=θ (.tbl (ps++more)))
  (ns:∀ m,s.heap.Ns X.env.locals m->h'.Ns X.env.locals m) (hok:l9 X.prog X.w H' h') (hg:AllBare g') (ht:X.tn<=t':=by walk_at "tok") :
  Inv X af σ H' { s with heap:=h',gens:=g',drawn:=d',toks:=t' }:=by
 have neL:∀ b o,X.s₀.heap.get? b=θ o->b≠X.env.locals:=fun b o e=>YL (YF (ID e) I.ok.above);have M:∀ b o,X.s₀.heap.get? b=θ o->b∉X.ex->b∉ch:=fun b o e g hb=>by
  rcases (J b hb).1 with z|z
  .exact g z
  .exact absurd (YF (ID e) z) (aaG _)
 have C:∀ x c,X.env.cells.lookup x=θ c->∀ v,s.heap.IsCell c v->h'.IsCell c v:=fun x c e v ⟨o,Z,hd⟩=>by
  have Y:c∉ch:=fun z=>(J c z).2.2.1 x c e rfl;by_cases hc:c∈X.fs
  .obtain ⟨sl,q⟩:=slot c o (I.cne x c e) hc Y Z (I.freeC x c e);exact ⟨_,q,hd⟩
  .exact ⟨o,keep c o (I.cne x c e) hc Y Z (I.freeC x c e),hd⟩
 refine ⟨I.ok,I.os,hg,⟨fun b o e n hb g=>?_,fun b o e n hb g=>?_,fun b o e n g=>?_,fun b o e g=>?_,fun b xs e=>tups b xs (I.base.tups b xs e),fun b o xs e=>frzs b o xs (I.base.frzs b o xs e),fun b ps e=>?_⟩,?_,fun x c e=>?_,?_,fun x c e=>?_,fun p hp=>?_,hok,I.len,ht⟩
 .exact keep b o (neL b o e) hb (M b o e g) (I.base.keep b o e n hb g) (I.base.free b o e n g)
 .let ⟨sl,L⟩:=I.base.slot b o e n hb g
  obtain ⟨sl',e2⟩:=slot b _ (neL b o e) hb (M b o e g) L (I.base.free b o e n g);exact ⟨sl',e2⟩
 .let ⟨o',L⟩:=I.base.there b o e g
  exact free b o' (M b o e g) L (I.base.free b o e n g)
 .let ⟨o',L⟩:=I.base.there b o e g
  exact there b o' (M b o e g) L
 .let ⟨m1,L⟩:=I.base.tbls b ps e
  let ⟨m2,e2⟩:=tbls b _ L
  exact ⟨m1++m2,by rw [e2,Array.append_assoc]⟩
 .let ⟨m,hn,hl⟩:=I.loc
  refine ⟨m,ns m hn,fun i x v L e2 e3=>?_⟩;let ⟨u,r,l⟩:=hl i x v L e2 e3
  refine ⟨u,r,?_⟩;rcases l with l|⟨k,c,e,z⟩
  .exact .inl l
  .exact .inr ⟨k,c,e,C x c e _ z⟩
 .let ⟨v,z⟩:=I.cell x c e
  exact ⟨v,C x c e v z⟩
 .obtain ⟨m,⟨o,_,_,Z,_⟩,_⟩:=I.loc;exact free _ o (fun z=>(J _ z).2.1 rfl) Z I.free
 .let ⟨v,o,Z,hd⟩:=I.cell x c e
  exact free c o (fun z=>(J c z).2.2.1 x c e rfl) Z (I.freeC x c e)
 .let ⟨e,n,ne,nf,d⟩:=I.pin p hp
  have Y:p.1∉ch:=fun z=>(J p.1 z).2.2.2 p hp rfl;simp_all
theorem Inv.un (I:Inv X af σ H s) (u:Un X.fs [] H H' s.heap h') (g:l9 X.prog X.w H' h') (ht:X.tn<=t':=by walk_at "tok"):Inv X af σ H' { s with heap:=h',toks:=t' }:=by
 obtain ⟨m,⟨o,es,M,v,r⟩,_⟩:=id I.loc;obtain ⟨J,C⟩:=u.any v I.free (by simp);exact I.step (ch:=[]) (fun _ z=>nomatch z) (fun b o _ hb _ e n=>u.keep b o e n hb (by simp)) (fun b o _ hb _ e n=>u.slot b o e n hb (by simp)) (fun b o _ e n=>u.free b o e n (by simp)) (fun b o _ e=>u.there b o e (by simp)) u.tups u.frzs u.tbls (fun L hm=>by
  let ⟨o',es',ep',ho',r'⟩:=hm
  rw [v] at ho';cases ho';exact ⟨_,es',ep',C,r'⟩) g I.bare
theorem Inv.call (I:Inv X af σ H s) (u:Un (HM X.stack) ch H H' s.heap h') (L:l9 X.prog X.w H' h') (hg:AllBare g')
  (C:∀ b∈ch,(b∈X.ex\/X.s₀.heap.objs.size<=b)/\b≠X.env.locals/\(∀ x c,X.env.cells.lookup x=θ c->c≠b)/\∀ p∈X.pn++af,p.1≠b) (ht:X.tn<=t':=by walk_at "tok") :
  Inv X af σ H' { s with heap:=h',gens:=g',drawn:=d',toks:=t' }:=by
 obtain ⟨m,⟨o,es,ep,Z,r⟩,_⟩:=id I.loc;let ⟨sl,J⟩:=u.any Z I.free fun z=>(C _ z).2.1 rfl
 exact I.step C (fun b o J hb g e n=>u.keep b o e n (fun z=>(mK.mp (I.stkSub b z)).elim J hb) g) (fun b o _ _ g e n=>u.any e n g) (fun b o g e n=>u.free b o e n g) (fun b o g e=>u.there b o e g) u.tups u.frzs u.tbls (fun m' hm=>by
  obtain ⟨o',Y,M,v,r'⟩:=hm;rw [Z] at v;cases v;exact ⟨_,Y,M,J,r'⟩) L hg
theorem Inv.turned (I:Inv X af σ H s) (k:∀ b o,b≠it->s.heap.get? b=θ o->h'.get? b=θ o) (hn:H it=ξ) (C:it≠X.env.locals)
  (h1:it∈X.ex\/X.s₀.heap.objs.size<=it) (h2:∀ x c,X.env.cells.lookup x=θ c->c≠it) (J:∀ p∈X.pn++af,p.1≠it) (ht:X.tn<=t':=by walk_at "tok"):Inv X af σ H { s with heap:=h',toks:=t' }:=by
 refine I.step (ch:=[it]) (fun b hb=>?_) (fun b o _ _ g e _=>k b o (fun z=>g (by simp [z])) e) (fun b o _ _ g e _=>⟨o.slots,k b o (fun z=>g (by simp [z])) e⟩) (fun _ _ _ _ n=>n)
  (fun b o g e=>⟨o,k b o (fun z=>g (by simp [z])) e⟩) (fun _ _ e=>e) (fun _ _ _ e=>e) (fun b ps e=>⟨#[],by rw [e];simp⟩) (fun m hm=>?_) (fun b u e=>?_) I.bare
 .have e  := by simpa using hb
  subst e;exact ⟨h1,C,h2,J⟩
 .let ⟨o,es,ep,ho,r⟩:=hm
  exact ⟨o,es,ep,k _ o (aaN C) ho,r⟩
 .refine (I.hok b u e).stay (fun c v g q=>k c v ?_ q) (fun _ q=>q) fun _ _ q=>q
  grind
theorem Inv.tok (I:Inv X af σ H s) (t:Nat) (ht:X.tn<=t:=by walk_at "tok"):Inv X af σ H { s with toks:=t }:=I.un (Un.kept fun _ _ q=>q) I.hok
theorem Inv.kept (I:Inv X af σ H s) (k:∀ b u,s.heap.get? b=θ u->h'.get? b=θ u) (ht:X.tn<=t':=by walk_at "tok"):Inv X af σ H { s with heap:=h',toks:=t' }:=I.un (Un.kept k) (I.hok.kept k)
theorem Inv.laid {a:YS} (I:Inv X af σ H s) (k:∀ b u,s.heap.get? b=θ u->h'.get? b=θ u) (g:s.heap.objs.size<=a) (new:dc X.prog X.w (upd H a o) h' a o) (ht:X.tn<=t':=by walk_at "tok") :
  Inv X af σ (upd H a o) { s with heap:=h',toks:=t' }:=I.un (Un.laid k g (I.hok.fresh g)) (I.hok.laid k g new)
theorem Inv.write (I:Inv X af σ H s) (v:SO (H x)) (r:e=x\/H e=θ (.own x)) (k:∀ b u,b≠e->s.heap.get? b=θ u->h'.get? b=θ u) (g:∃ u,h'.get? e=θ u)
  (new:dc X.prog X.w (upd H x o) h' x o) (ht:X.tn<=t':=by walk_at "tok"):Inv X af σ (upd H x o) { s with heap:=h',toks:=t' }:=I.un (Un.write v r k g) (I.hok.write v r k g new)
theorem Inv.pins_of (I:Inv X af σ H s) (h:∀ p∈pins',s.heap.get? p.1=θ p.2/\H p.1=ξ/\p.1≠X.env.locals/\p.1∉X.fs/\∀ v,p.2.data≠.cell v):Inv X pins' σ H s :=
 ⟨I.ok,I.os,I.bare,I.base,I.loc,I.cell,I.free,I.freeC,fun p g=>(xb.mp g).elim (fun z=>I.pin p (YY _ z)) (h p),I.hok,I.len,I.tk⟩
theorem wJ {N:ad1} (g:N.Nodup) {i j:Nat} (a:N[i]?=θ x) (b:N[j]?=θ x):i=j:=by
 let ⟨h1,e1⟩:=K2.mp a
 let ⟨h2,e2⟩:=K2.mp b
 exact (List.getElem_inj g).mp (e1.trans e2.symm)
theorem CY (I:Inv X af σ H s) (hN:X.N.Nodup) (hi:X.N[i]?=θ x) (L:vZ X.env.scope x) (r:aQ v u)
  (h:∀ s',Inv X af (σ.set i (θ v)) H s'->(∃ a,Zo a s.heap s'.heap/\(a=X.env.locals\/X.env.cells.lookup x=θ a))->Q () s') (hf:X.fn x=ζ\/X.env.scope.names.lookup x=θ .local:=by walk_at"u"):YH M A (storeName X.env x u) Q E s:=by
 let ⟨m,hn,hl⟩:=id I.loc
 have hcls:(X.env.scope.kind==.class||(X.env.scope.kind==.module&&X.env.locals != X.env.globals))=η:=by rw [I.ok.kind];rfl
 have Z:i < σ.length:=by rw [I.len];exact (K2.mp hi).1
 have cne:=I.cne;have C:∀ {a:YS} {h':abh},(∃ o,s.heap.get? a=θ o/\H a=ξ)->Zo a s.heap h'->l9 X.prog X.w H h':=fun {a h'} ha hs b ob e=>by
  let ⟨_,_,hfree⟩:=ha
  refine (I.hok b ob e).stay (fun c w' J q=>(hs.2 c ?_).trans q) (fun _ q=>q) fun _ _ q=>q;rintro rfl;rcases J with rfl|J
  .rw [hfree] at e;cases e
  .rw [hfree] at J;cases J
 rcases L with hk|hk
 .refine wpAny_storeName_local hk hn (fun h' hn' hs=>?_) hcls;let ⟨oL,_,_,hoL,_⟩:=id hn
  refine h _ ⟨I.ok,I.os,I.bare,⟨fun b o e n hb L=>?_,fun b o e n hb L=>?_,I.base.free,fun b o e L=>?_,I.base.tups,I.base.frzs,I.base.tbls⟩,⟨_,hn',fun j y v' g Y e3=>?_⟩,fun y c e=>?_,I.free,I.freeC,fun p hp=>?_,C ⟨oL,hoL,I.free⟩ hs,by simpa using I.len,by walk_at "tok"⟩ ⟨_,hs,.inl rfl⟩
  .exact (hs.2 b (YL (YF (ID e) I.ok.above))).trans (I.base.keep b o e n hb L)
  .let ⟨sl,g⟩:=I.base.slot b o e n hb L
   exact ⟨sl,(hs.2 b (YL (YF (ID e) I.ok.above))).trans g⟩
  .let ⟨o',g⟩:=I.base.there b o e L
   exact ⟨o',(hs.2 b (YL (YF (ID e) I.ok.above))).trans g⟩
  .by_cases hj:j=i
   .subst hj;rw [hi] at g;cases g;rw [acB Z] at Y;cases Y;exact ⟨u,r,.inl ⟨hk,by simp⟩⟩
   .rw [acW (aaN hj)] at Y;let ⟨u',r',q⟩:=hl j y v' g Y e3
    refine ⟨u',r',?_⟩;rcases q with ⟨k,e⟩|⟨k,c,e,z⟩
    .refine .inl ⟨k,?_⟩
     have:y≠x:=fun e=>hj (wJ hN g (e ▸ hi))
     simp [this,e]
    .exact .inr ⟨k,c,e,z.sameBut hs (cne y c e)⟩
  .let ⟨w',z⟩:=I.cell y c e
   exact ⟨w',z.sameBut hs (cne y c e)⟩
  .let ⟨e,n,ne,nf,d⟩:=I.pin p hp
   exact ⟨(hs.2 p.1 ne).trans e,n,ne,nf,d⟩
 .have hfn:X.fn x=ζ:=by
   rcases hf with z|z
   .exact z
   .rw [z] at hk;cases hk
  let ⟨c,J⟩:=I.ok.has x (.inl hk)
  let ⟨w',z⟩:=I.cell x c J
  refine wpAny_storeName_cell I.ok.kind hk J z (fun h' hc' hs=>?_);let ⟨oc,hoc,hocd⟩:=id z
  refine h { s with heap:=h' } ⟨I.ok,I.os,I.bare,⟨fun b o e n hb L=>?_,fun b o e n hb L=>?_,I.base.free,fun b o e L=>?_,I.base.tups,I.base.frzs,I.base.tbls⟩,⟨m,hn.sameBut hs (aaN (cne x c J)),fun j y v' g Y e3=>?_⟩,fun y c' e=>?_,I.free,I.freeC,fun p hp=>?_,C ⟨oc,hoc,I.freeC x c J⟩ hs,by simpa using I.len,I.tk⟩ ⟨c,hs,.inr J⟩
  .exact (hs.2 b (YL (YF (ID e) (I.ok.cab x c hfn J)))).trans (I.base.keep b o e n hb L)
  .let ⟨sl,g⟩:=I.base.slot b o e n hb L
   exact ⟨sl,(hs.2 b (YL (YF (ID e) (I.ok.cab x c hfn J)))).trans g⟩
  .let ⟨o',g⟩:=I.base.there b o e L
   exact ⟨o',(hs.2 b (YL (YF (ID e) (I.ok.cab x c hfn J)))).trans g⟩
  .by_cases hj:j=i
   .subst hj;rw [hi] at g;cases g;rw [acB Z] at Y;cases Y;exact ⟨u,r,.inr ⟨.inl hk,c,J,hc'⟩⟩
   .rw [acW (aaN hj)] at Y;let ⟨u',r',q⟩:=hl j y v' g Y e3
    refine ⟨u',r',?_⟩;rcases q with q|⟨k,c',e,z'⟩
    .exact .inl q
    .refine .inr ⟨k,c',e,z'.sameBut hs ?_⟩;rintro rfl;exact hj (wJ hN g (I.ok.inj _ _ _ e J ▸ hi))
  .by_cases hcc:c'=c
   .subst hcc;exact ⟨_,hc'⟩
   .let ⟨w2,z2⟩:=I.cell y c' e
    exact ⟨w2,z2.sameBut hs hcc⟩
  .let ⟨e,n,ne,nf,d⟩:=I.pin p hp
   refine ⟨(hs.2 p.1 ?_).trans e,n,ne,nf,d⟩
   grind
theorem qe (I:Inv X af σ H s) (z:X.N.Nodup) (C:X.N[i]?=θ x) (J:vZ X.env.scope x) (r:aQ v u)
  (h:∀ g,Inv X af (σ.set i (θ v)) H g->Q () g) (L:X.fn x=ζ\/X.env.scope.names.lookup x=θ .local:=by walk_at"u"):YH M A (storeName X.env x u) Q E s :=
 CY I z C J r (fun g Y _=>h g Y) L
theorem Inv.call' (I:Inv X af σ H s) (v:s'.os=s.os) (u:Un (HM X.stack) ch H H' s.heap s'.heap) (r:l9 X.prog X.w H' s'.heap) (hg:AllBare s'.gens)
  (g:∀ b∈ch,(b∈X.ex\/X.s₀.heap.objs.size<=b)/\b≠X.env.locals/\(∀ x c,X.env.cells.lookup x=θ c->c≠b)/\∀ p∈X.pn++af,p.1≠b) (ht:X.tn<=s'.toks:=by walk_at "tok"):Inv X af σ H' s':=by
 obtain ⟨h',g',d',t',z⟩:=s';have e  := v;subst e;exact I.call u r hg g
end
abbrev XK:=rW->Option YS->Hp->Prop
abbrev St:=List (Option V)
abbrev VK:=V->Hp->Prop
abbrev TE:=St->Hp->VK->Prop
abbrev TT:=St->Hp->(Bool->Hp->Prop)->Prop
abbrev TA:=St->Hp->(ad7->Hp->Prop)->Prop
structure Ends where
 nx:St->Hp->Prop
 rt:VK
 bk:St->Hp->Prop:=fun _ _=>False
 ct:St->Hp->Prop:=fun _ _=>False
abbrev TS:=Ends->St->Hp->Prop
def EP (X:Cx) (g:ad2) (σ:St) (Q:VK) (u:rW) (r:IF):Prop:=∃ v H',Inv X g σ H' r/\aQ v u/\Q v H'
def TP (X:Cx) (g:ad2) (σ:St) (Q:Bool->Hp->Prop) (b:Bool) (r:IF):Prop:=∃ H',Inv X g σ H' r/\Q b H'
def AP (X:Cx) (g:ad2) (σ:St) (Q:ad7->Hp->Prop) (us:ad6) (r:IF):Prop:=∃ vs H',Inv X g σ H' r/\aU vs us/\Q vs H'
def SP (X:Cx) (r:ad2) (D:Ends) (f:Flow) (z:IF):Prop :=
 match f with
 | .next=>∃ g H',Inv X r g H' z/\D.nx g H'
 | .brk=>∃ g H',Inv X r g H' z/\D.bk g H'
 | .cont=>∃ g H',Inv X r g H' z/\D.ct g H'
 | .ret u=>∃ v g H',Inv X r g H' z/\aQ v u/\D.rt v H'
def PE (X:Cx) (e:Zq) (t:TE):Prop :=
 ∀ (g:ad2) (s:IF) (σ:St) (H:Hp) (Q:VK),Inv X g σ H s->t σ H Q->YH (YN X.prog X.w) X.A (eval e X.env) (EP X g σ Q) X.xe s
def PT (X:Cx) (e:Zq) (t:TT):Prop :=
 ∀ (g:ad2) (s:IF) (σ:St) (H:Hp) (Q:Bool->Hp->Prop),Inv X g σ H s->t σ H Q->YH (YN X.prog X.w) X.A (isTrue e X.env (eval e X.env)) (TP X g σ Q) X.xe s
def PW (X:Cx) (e:Zq) (t:TT):Prop :=
 ∀ (g:Sem rW) (r:ad2) (s:IF) (σ:St) (H:Hp) (Q:Bool->Hp->Prop),Inv X r σ H s->t σ H Q->YH (YN X.prog X.w) X.A (isTrue e X.env g) (TP X r σ Q) X.xe s
theorem PW.pt (h:PW X e t):PT X e t:=h _
def PA (X:Cx) (es:List Zq) (t:TA):Prop :=
 ∀ (pos:Pos) (g:ad2) (s:IF) (σ:St) (H:Hp) (Q:ad7->Hp->Prop),Inv X g σ H s->t σ H Q->YH (YN X.prog X.w) X.A (spliced (aaa pos (YI es X.env))) (AP X g σ Q) X.xe s
def PS (X:Cx) (st:aa0) (t:TS):Prop :=
 ∀ (g:ad2) (s:IF) (σ:St) (H:Hp) (D:Ends),Inv X g σ H s->t D σ H->YH (YN X.prog X.w) X.A (exec st X.env) (SP X g D) X.xe s
def Io (X:Cx) (st:List aa0) (t:TS):Prop :=
 ∀ (g:ad2) (s:IF) (σ:St) (H:Hp) (D:Ends),Inv X g σ H s->t D σ H->YH (YN X.prog X.w) X.A (execs st X.env) (SP X g D) X.xe s
theorem bV {t:Sem α} {Q g:α->IF->Prop} (h:YH M A t Q E s) (hQ:∀ a s,Q a s->g a s):YH M A t g E s:=Zm h hQ fun _ _ x=>x
section
variable {X:Cx}
def R1 (i:Nat):TE:=fun σ H Q=>∃ v,σ[i]?=θ (θ v)/\Q v H
def tC (v:V):TE:=fun _ H Q=>Q v H
theorem D6 {pos:Pos} (Y:X.N[i]?=θ x) (hv:sd X.env.scope x) (J:ad9 x:=by decide) (C:(x==("__classdict__":Str))=η:=by decide):PE X (.Name x pos) (R1 i):=by
 intro M s σ H Q I h;let ⟨v,e,h⟩:=h
 obtain ⟨m,hn,Z⟩:=I.loc;let ⟨u,r,l⟩:=Z i x v Y e hv
 have fin:EP X M σ Q u s:=⟨v,H,I,r,h⟩;rcases l with ⟨z,hm⟩|⟨z,c,L,g⟩
 .exact wpAny_Name (wpAny_loadName_local I.ok.kind z hn hm fin) J
 .rcases z with z|z
  .exact wpAny_Name (wpAny_loadName_cell I.ok.kind z L g fin) J
  .exact wpAny_Name (wpAny_loadName_free I.ok.kind z L g fin C) J
def Gl (X:Cx) (x:Str):Prop:=X.env.kindOf x=θ .globalImplicit
theorem kz {σ:St} (I:Inv X af σ H s) (hg:Gl X x) (hm:X.mg x=θ u) (h:Q u s)
  (g:ad9 x:=by decide):YH (YN X.prog X.w) X.A (eval (.Name x pos) X.env) Q E s :=
 ab1 I.ok.kind hg (Calls.loadGlobal_global (by rw [I.ok.glob];exact I.mod.glob.keeps I.bk) hm h) g
theorem gI {E:ad3} {σ:St} {pos:Pos} (I:Inv X af σ H s) (hg:Gl X x) (hm:X.mg x=ξ) (hv:YT x=θ u) (h:Q u s)
  (hn:x≠"__name__":=by decide) (g:ad9 x:=by decide):YH (YN X.prog X.w) X.A (eval (.Name x pos) X.env) Q E s:=by
 let ⟨mb,h1,h2⟩:=I.mod.blt
 exact ab1 I.ok.kind hg (Calls.loadGlobal_builtin (by rw [I.ok.glob];exact I.mod.glob.keeps I.bk) hm (by rw [I.ok.blt];exact h1.keeps I.bk) ((h2 x hn).trans hv) h) g
theorem A6 (hg:Gl X x) (hm:X.mg x=θ u) (r:aQ v u) (g:ad9 x:=by decide):PE X (.Name x pos) (tC v) :=
 fun _ _ _ H _ I h=>kz I hg hm ⟨v,H,I,r,h⟩ g
theorem Ji {pos:Pos} (hg:Gl X x) (hm:X.mg x=ξ) (hv:YT x=θ u) (r:aQ v u) (hn:x≠"__name__":=by decide) (g:ad9 x:=by decide):PE X (.Name x pos) (tC v) :=
 fun _ _ _ H _ I h=>gI I hg hm hv ⟨v,H,I,r,h⟩ hn g
def tB (t:TE):TT:=fun σ H Q=>t σ H fun x H1=>∃ c,x=.bl c/\Q c H1
variable {rest:List Zq}
def Vs (t u:TT):TT:=fun σ H Q=>t σ H fun c H1=>if c=ζ then u σ H1 Q else Q η H1
def tOr (t u:TT):TT:=fun σ H Q=>t σ H fun c H1=>if c=ζ then Q ζ H1 else u σ H1 Q
def Vx (t:TT):TT:=fun σ H Q=>t σ H fun c H1=>Q (!c) H1
theorem KN (g:PT X a tA):PW X (.BoolOp .And [a] pos) tA:=by
 intro v r s σ H Q I h;refine isTrue_and (bV (g r s σ H Q I h) fun c u e=>?_);cases c with
 | true=>exact isTrue_and_nil e
 | false=>exact e
theorem MP (g:PT X a tA):PW X (.BoolOp .Or [a] pos) tA:=by
 intro v r s σ H Q I h;refine isTrue_or (bV (g r s σ H Q I h) fun c u e=>?_);cases c with
 | false=>exact isTrue_or_nil e
 | true=>exact e
theorem NJ (h:PE X a t):PE X (.BoolOp op [a] pos) t:=fun g s σ H Q I hw=>BoolOp_one (h g s σ H Q I hw)
def tIf (t:TT) (ta tb:TE):TE:=fun σ H Q=>t σ H fun c H1=>if c=ζ then ta σ H1 Q else tb σ H1 Q
end
def eV (K:aT) (H:Hp) (a:YS) (xs:ad7):Prop :=
 Rd H a (.lst xs) \/
  ∃ (o:Obj) (its:Array rW) (n:Nat),K.lookup a=θ o/\o.cls=.type "list"/\o.dict=ξ/\o.data=.seq its n/\its.size<=RW/\aU xs its.toList
def gU (K:aT) (H:Hp) (a:YS) (xs:ad7):Prop :=
 Rd H a (.tup xs) \/
  ∃ (o:Obj) (its:Array rW) (n:Nat),K.lookup a=θ o/\o.cls=.type "tuple"/\o.data=.seq its n/\its.size<=RW/\aU xs its.toList
noncomputable def VG:rW->Option V
 | .none=>θ .non
 | .bool b=>θ (.bl b)
 | .int i _=>θ (.int i)
 | .str x _=>θ (.str x)
 | .bytes b _=>θ (.byt b)
 | .float b _=>θ (.flt b)
 | .ref a=>θ (.ref a)
 | .type n=>θ (.ty n)
 | _=>ξ
theorem aQ.abs (r:aQ x u):VG u=θ x:=by
 cases x with
 | non=>cases r;rfl
 | bl _=>cases r;rfl
 | int _=>obtain ⟨t,rfl⟩:=r;rfl
 | str _=>obtain ⟨t,rfl⟩:=r;rfl
 | byt _=>obtain ⟨t,rfl⟩:=r;rfl
 | flt _=>obtain ⟨t,rfl⟩:=r;rfl
 | ref _=>cases r;rfl
 | ty _=>cases r;rfl
theorem aQ.inj (r:aQ x u) (q:aQ y u):x=y:=ZY (r.abs.symm.trans q.abs)
theorem aU.inj:∀ {xs ys:ad7} {us:ad6},aU xs us->aU ys us->xs=ys
 | _,_,_,.nil,.nil=>rfl
 | _,_,_,.cons r t,.cons r' t'=>by rw [r.inj r',aU.inj t t']
section
variable {σ:St}
theorem eV.of {K:aT} (h:H a=θ (.lst xs)):eV K H a xs:=.inl (.inl h)
theorem Inv.list (I:Inv X af σ H s) (h:eV X.K H a xs):∃ its:ad6,aU xs its/\PlainL s.heap a its.toArray/\xs.length<=RW:=by
 rcases h with h|⟨o,its,n,hk,hc,hd,hs,hz,r⟩
 .obtain ⟨z,its,n,r,e⟩:=h.ok I.hok;exact ⟨its,r,⟨_,n,e,rfl,rfl,rfl⟩,z⟩
 .refine ⟨its.toList,r,⟨o,n,I.kIn a o hk,hc,hd,by simpa using hs⟩,?_⟩;have e:=r.length;simp_all
theorem Inv.tuple (I:Inv X af σ H s) (h:gU X.K H a xs):∃ its:ad6,aU xs its/\adx s.heap a its.toArray/\xs.length<=RW:=by
 rcases h with h|⟨o,its,n,hk,hc,hs,hz,r⟩
 .let ⟨z,its,r,p⟩:=h.ok I.hok
  exact ⟨its,r,p,z⟩
 .refine ⟨its.toList,r,⟨o,I.kIn a o hk,hc,n,by simpa using hs⟩,?_⟩;have e:=r.length;simp_all
theorem Inv.list_inj (I:Inv X af σ H s) (h:eV X.K H a xs) (h':eV X.K H a ys):xs=ys:=by
 obtain ⟨its,r,⟨o,n,e,_,_,d⟩,_⟩:=I.list h;obtain ⟨its',g,⟨v,u,z,_,_,d'⟩,_⟩:=I.list h'
 have:its=its':=by simp_all
 subst this;exact r.inj g
theorem Inv.tuple_inj (I:Inv X af σ H s) (h:gU X.K H a xs) (h':gU X.K H a ys):xs=ys:=by
 obtain ⟨its,r,⟨o,e,_,n,d⟩,_⟩:=I.tuple h;obtain ⟨its',g,⟨v,z,_,u,d'⟩,_⟩:=I.tuple h'
 have:its=its':=by simp_all
 subst this;exact r.inj g
end
noncomputable abbrev Cx.wish (X:Cx) (E:ad3):Cx:={ X with xe:=E }
abbrev Cx.nox (X:Cx):Cx:=X.wish fun _ _=>False
def Cx.Ok.wish {X:Cx} (ok:X.Ok) (E:ad3):(X.wish E).Ok :=
 ⟨ok.mod,ok.kind,ok.glob,ok.blt,ok.above,ok.inj,ok.has,ok.cab,ok.hd,ok.frames,ok.stk,ok.exf,ok.bs,ok.bsz,ok.noex,ok.exfs,ok.funs,ok.frf⟩
def Cx.Ok.unwish {X:Cx} (ok:(X.wish E).Ok):X.Ok :=
 ⟨ok.mod,ok.kind,ok.glob,ok.blt,ok.above,ok.inj,ok.has,ok.cab,ok.hd,ok.frames,ok.stk,ok.exf,ok.bs,ok.bsz,ok.noex,ok.exfs,ok.funs,ok.frf⟩
section
variable {σ:St}
theorem Inv.wish (I:Inv X af σ H s) (E:ad3):Inv (X.wish E) af σ H s:=⟨I.ok.wish E,I.os,I.bare,I.base,I.loc,I.cell,I.free,I.freeC,I.pin,I.hok,I.len,I.tk⟩
theorem Inv.unwish (I:Inv (X.wish E) af σ H s):Inv X af σ H s:=⟨I.ok.unwish,I.os,I.bare,I.base,I.loc,I.cell,I.free,I.freeC,I.pin,I.hok,I.len,I.tk⟩
theorem SP.unwish (h:SP (X.wish E) af D f s'):SP X af D f s':=by
 cases f with
 | next=>obtain ⟨g,H',I,q⟩:=h;exact ⟨g,H',I.unwish,q⟩
 | brk=>obtain ⟨g,H',I,q⟩:=h;exact ⟨g,H',I.unwish,q⟩
 | cont=>obtain ⟨g,H',I,q⟩:=h;exact ⟨g,H',I.unwish,q⟩
 | ret u=>obtain ⟨v,g,H',I,r,q⟩:=h;exact ⟨v,g,H',I.unwish,r,q⟩
theorem Io.nox {st:List aa0} (h:Io X.nox st t):Io X st t:=fun g s σ H D I hw =>
 Zm (h g s σ H D (I.wish _) hw) (fun _ _ q=>q.unwish) fun _ _ z=>ZT z
end
section
variable {st:aa0} {rest:List aa0}
def A7:TS:=fun D σ H=>D.nx σ H
def S9 (t u:TS):TS:=fun D σ H=>t { D with nx:=u D } σ H
theorem qq (h1:PS X st t) (h2:Io X rest u):Io X (st::rest) (S9 t u):=by
 intro r s σ H D I h;refine wpAny_execs_cons (bV (h1 r s σ H { D with nx:=u D } I h) fun f z q=>?_);cases f with
 | next =>
  obtain ⟨g,H',C,q⟩:=q;exact h2 r z g H' D C q
 | ret v=>exact q
 | brk=>exact q
 | cont=>exact q
theorem AK (h1:PS X st t):Io X [st] t:=by
 intro g s σ H D I h;refine wpAny_execs_cons (bV (h1 g s σ H D I h) fun f r q=>?_);cases f with
 | next=>exact abY q
 | ret v=>exact q
 | brk=>exact q
 | cont=>exact q
theorem Inv.quiet {g:ad2} {σ:St} {H:Hp} {s:IF} (I:Inv X g σ H s):interactive X.env=η:=by simp [interactive,I.ok.kind]
def tP (te:TE):TS:=fun D σ H=>te σ H fun _ H1=>D.nx σ H1
theorem K9 (u:PE X e te) (hs:Z2 e ξ pos.line X.env=pure η:=by rfl):PS X (.Expr e pos) (tP te):=by
 intro z s σ H D I h;exact wpAny_Expr_any (bV (u z s σ H _ I h) fun v C g=>jC g fun x H1 r r1 q1=>⟨σ,H1,r,q1⟩) I.quiet hs
def Wi (te:TE):TS:=fun D σ H=>te σ H D.rt
def IZ (c:TT) (t u:TS):TS:=fun D σ H=>c σ H fun b H1=>if b=ζ then t D σ H1 else u D σ H1
end
abbrev TG:=V->St->Hp->(St->Hp->Prop)->Prop
abbrev KP:=ad7->St->Hp->(St->Hp->Prop)->Prop
def PG (X:Cx) (g:Zq) (t:TG):Prop :=
 ∀ (z:ad2) (s:IF) (σ:St) (H:Hp) (v:V) (u:rW) (Q:St->Hp->Prop),Inv X z σ H s->aQ v u->t v σ H Q ->
  YH (YN X.prog X.w) X.A (assign g X.env u) (fun _ C=>∃ r H',Inv X z r H' C/\Q r H') X.xe s
def U7 (X:Cx) (ts:List Zq) (t:KP):Prop :=
 ∀ (r:ad2) (s:IF) (σ:St) (H:Hp) (vs:ad7) (us:ad6) (Q:St->Hp->Prop),Inv X r σ H s->aU vs us->t vs σ H Q ->
  YH (YN X.prog X.w) X.A (assignInOrder ((Zn ts X.env).map (·.2)) us) (fun _ u=>∃ g H',Inv X r g H' u/\Q g H') X.xe s
abbrev OM:=V->V->V->Hp->(Hp->Prop)->Prop
def MF (X:Cx) (t:OM):Prop :=
 ∀ (r:ad2) (s:IF) (σ:St) (H:Hp) (o i v:V) (ov g u:rW) (Q:Hp->Prop),Inv X r σ H s->aQ o ov->aQ i g->aQ v u->t o i v H Q ->
  YH (YN X.prog X.w) X.A (setItem ov g u) (fun _ z=>∃ H',Inv X r σ H' z/\Q H') X.xe s
abbrev X6:=V->V->Hp->VK->Prop
def PIp (X:Cx) (op:Operator) (t:X6):Prop :=
 ∀ (g:ad2) (s:IF) (σ:St) (H:Hp) (x y:V) (v u:rW) (Q:VK),Inv X g σ H s->aQ x v->aQ y u->t x y H Q ->
  YH (YN X.prog X.w) X.A (inplaceOp op v u) (EP X g σ Q) X.xe s
section
variable {pos:Pos}
def jA (i:Nat):TG:=fun v σ H Q=>Q (σ.set i (θ v)) H
theorem BD (g:X.N.Nodup) (z:X.N[i]?=θ x) (C:vZ X.env.scope x) (J:X.fn x=ζ\/X.env.scope.names.lookup x=θ .local:=by walk_at"u"):PG X (.Name x pos) (jA i):=by
 intro M s σ H v u Q I r h;exact wpAny_assign_Name (qe I g z C r (fun Y L=>⟨_,H,L,h⟩) J)
def Xz:KP:=fun vs σ H Q=>vs=[]/\Q σ H
def LI (t:TG) (u:KP):KP:=fun vs σ H Q=>∃ v r,vs=v::r/\t v σ H fun g H'=>u r g H' Q
theorem Hf (h1:PG X e t) (h2:U7 X es u)
  (hs:(Zn (e::es) X.env).map (·.2)=assign e X.env::(Zn es X.env).map (·.2):=by rfl):U7 X (e::es) (LI t u):=by
 intro g s σ H vs us Q I r h;obtain ⟨v,J,z,h⟩:=h;subst z;cases r with
 | cons r C =>
  rw [hs];refine assignInOrder_cons (bV (h1 g s σ H _ _ _ I r h) fun _ s1 ⟨σ1,H1,I1,q1⟩=>?_);exact h2 g s1 σ1 H1 _ _ Q I1 C q1
def RS (K:aT) (n:Nat) (t:KP):TG:=fun v σ H Q=>∃ a xs,v=.ref a/\gU K H a xs/\xs.length=n/\t xs σ H Q
theorem MJ {k:Nat} (L:X.calm=ζ) (h:U7 X es t)
  (hn:(Zn es X.env).length=n:=by rfl) (g:(Zn es X.env).findIdx? (·.1)=ξ:=by rfl):PG X (.Tuple es k pos) (RS X.K n t):=by
 intro z s σ H v u Q I r hw;obtain ⟨a,xs,J,hq,M,hw⟩:=hw;subst J;cases r;let ⟨its,rv,ht,hz⟩:=I.tuple hq
 refine assign_Tuple_tuple (I.ok.hd L) ht (by simp [hn,<- M,rv.length]) g fun h' C=>?_;have I1  := I.kept fun b o e=>C b o (YL (ID e)) e;exact h z _ σ H xs _ Q I1 (by simpa using rv) hw
def yP (u r:TE) (t:OM):TG:=fun v σ H Q=>u σ H fun o H1=>r σ H1 fun i g=>t o i v g fun z=>Q σ z
theorem OJ (J:PE X o to) (hi:PE X i ti) (hs:MF X t)
  (ha:∀ v,assign (.Subscript o i pos) X.env v=(do
   let ov <- holding [v] (eval o X.env)
   let g <- holding [v,ov] (eval i X.env)
   acy pos
   holding [v,ov,g] (setItem ov g v)
   release [v,ov,g] []):=by intro _;rfl):PG X (.Subscript o i pos) (yP to ti t):=by
 intro z s σ H v u Q I r h;refine bY (ZI (bV (J z s σ H _ I h) fun ov Y C=>jC C fun x H1 Z r1 q1=>?_));refine bY (ZI (bV (hi z Y σ H1 _ Z q1) fun g L C=>jC C fun y M I2 r2 q2=>?_));refine bY (wpAny_standAt (bY (ZI (bV (hs z L σ M x y v ov g u _ I2 r1 r2 r q2) fun _ s3 ⟨H3,I3,q3⟩=>?_))));exact wpAny_release ⟨σ,H3,I3,q3⟩
def qm (te:TE) (g:TG):TS:=fun D σ H=>te σ H fun x H1=>g x σ H1 D.nx
theorem Na (u:PE X e te) (hg:PG X tg g) (hs:swapsWithSole [tg] e pos.line X.env=pure η:=by rfl) (hw:swappedStores [tg] e X.env=pure ξ:=by rfl)
  (h1:(Zn [tg] X.env).map (·.2)=[assign tg X.env]:=by rfl):PS X (.Assign [tg] e pos) (qm te g):=by
 intro r s σ H D I h;refine wpAny_Assign_stores (bV (u r s σ H _ I h) fun v C z=>jC z fun x H1 J r1 q1=>?_) hs hw;rw [h1];exact bV (hg r C σ H1 x v _ J r1 q1) fun _ L q=>q
theorem Pc (M:X.N.Nodup) (Y:X.N[i]?=θ x) (C:vZ X.env.scope x) (r:PE X e te) (hs:Z2 e (θ (.Name x pos')) pos.line X.env=pure η:=by rfl) (g:X.fn x=ζ\/X.env.scope.names.lookup x=θ .local:=by walk_at"u") :
  PS X (.Assign [.Name x pos'] e pos) (qm te (jA i)):=by
 intro z s σ H D I h;refine wpAny_Assign_Name (bV (r z s σ H _ I h) fun v s1 J=>jC J fun y H1 L r1 q1=>?_) hs;exact qe L M Y C r1 (fun s2 Z=>⟨_,H1,Z,q1⟩) g
def VT (i:Nat) (te:TE) (r:X6):TS:=fun D σ H=>∃ x,σ[i]?=θ (θ x)/\te σ H fun y H1=>r x y H1 fun z g=>D.nx (σ.set i (θ z)) g
theorem OA (hN:X.N.Nodup) (hi:X.N[i]?=θ x) (Y:vZ X.env.scope x) (he:PE X e te) (ho:PIp X op ti) (hf:X.fn x=ζ\/X.env.scope.names.lookup x=θ .local:=by walk_at"u") :
  PS X (.AugAssign (.Name x pos') op e pos) (VT i te ti):=by
 intro M s σ H D I h;let ⟨v,e1,h⟩:=h
 let ⟨m,hn,hl⟩:=I.loc
 have vis:sd X.env.scope x:=by rcases Y with k|k;exact .inl k;exact .inr (.inl k)
 let ⟨u,r,l⟩:=hl i x v hi e1 vis
 refine wpAny_AugAssign_Name ?_;have go:YH (YN X.prog X.w) X.A (eval e X.env) (fun w J=>YH (YN X.prog X.w) X.A (inplaceOp op u w) (fun r L=>YH (YN X.prog X.w) X.A (storeName X.env x r) (fun _=>SP X M D .next) X.xe L) X.xe J) X.xe s:=by
  refine bV (he M s σ H _ I h) fun w s1 Z=>jC Z fun y H1 I1 r1 q1=>?_;refine bV (ho M s1 σ H1 v y u w _ I1 r r1 q1) fun z s2 Z=>jC Z fun zv H2 I2 r2 q2=>?_;exact qe I2 hN hi Y r2 (fun s3 I3=>⟨_,H2,I3,q2⟩) hf
 rcases l with ⟨g,hm⟩|⟨g,c,hc,C⟩
 .exact wpAny_loadName_local I.ok.kind g hn hm go
 .rcases g with g|g
  .exact wpAny_loadName_cell I.ok.kind g hc C go
  .rcases Y with k|k
   .have:X.env.scope.names.lookup x=θ .free:=g
    rw [k] at this;cases this
   .have:X.env.scope.names.lookup x=θ .free:=g
    rw [k] at this;cases this
end
section
def Pd (c:TT) (tb:TS):TS:=fun D σ H=>∃ W:Nat->St->Hp->Prop,(∃ m,W m σ H)/\∀ m σ H,W m σ H ->
 c σ H fun b H1=>if b=ζ then ∃ N:St->Hp->Prop,(∀ g H',N g H'->∃ r,r < m/\W r g H')/\tb { D with nx:=N,ct:=N,bk:=D.nx } σ H1 else D.nx σ H1
end
structure It where
 go:Nat->Hp->Prop
 yld:Nat->Hp->V->Hp->Prop
 stop:Nat->Hp->Prop
def eZ (X:Cx) (g:ad2) (H:Hp) (b:YS):Prop :=
 H b=ξ/\b≠X.env.locals/\b∉X.fs/\(b∈X.ex\/X.s₀.heap.objs.size<=b)/\(∀ x c,X.env.cells.lookup x=θ c->c≠b)/\∀ p∈X.pn++g,p.1≠b
theorem Inv.fpOk {σ:St} {b:YS} (I:Inv X af σ H s) (hb:s.heap.objs.size<=b) (hn:H' b=ξ):eZ X af H' b:=by
 refine ⟨hn,ab4 (YF I.lt hb),I.nofs hb,.inr (Le I.sz hb),fun x c e z=>?_,fun p g z=>?_⟩
 .let ⟨v,q⟩:=I.cell x c e
  exact absurd (YF q.lt (by rw [z];exact hb)) (aaG _)
 .exact absurd (YF (ID (I.pin p g).1) (by rw [z];exact hb)) (aaG _)
structure Turn (P:Z9) (w:Zv) (K:aT) (tg:Zq) (J:It) (fp:ad5) (it:YS) (tn:Nat->abh->Prop):Prop where
 mem:it∈fp
 obj:∀ i h,tn i h->∀ b∈fp,∃ o,h.get? b=θ o/\∀ v,o.data≠.cell v
 keep:∀ i h h',tn i h->(∀ b∈fp,∀ o,h.get? b=θ o->h'.get? b=θ o)->tn i h'
 item:∀ (X:Cx),X.prog=P->X.w=w->X.K=K->X.calm=ζ->∀ (i:Nat) (af:ad2) (s:IF) (σ:St) (H:Hp) (E:ad3),Inv X af σ H s->(∀ b∈fp,eZ X af H b)->tn i s.heap->J.go i H ->
  YH (YN P w) X.A (pyNext (.ref it)) (fun r s1=>∃ u,r=θ u /\
   YH (YN P w) X.A (acQ tg (.ref it) u) (fun _ s2=>∃ x H',Inv X af σ H' s2/\aQ x u/\J.yld i H x H'/\tn (i+1) s2.heap/\∀ b∈fp,H' b=ξ) E s1) E s
 done:∀ (X:Cx),X.prog=P->X.w=w->X.K=K->X.calm=ζ->∀ (i:Nat) (af:ad2) (s:IF) (σ:St) (H:Hp) (E:ad3),Inv X af σ H s->(∀ b∈fp,eZ X af H b)->tn i s.heap->J.stop i H ->
  YH (YN P w) X.A (pyNext (.ref it)) (fun r s1=>r=ξ/\Inv X af σ H s1) E s
 self:∀ (A:aaF) (i:Nat) (s:IF) (Q:ad3) (E:ad3),tn i s.heap->Q (.ref it) s->YH (YN P w) A (adP (.ref it)) Q E s
abbrev TI:=St->Hp->(It->Hp->Prop)->Prop
def XI (X:Cx) (v:ad2) (σ:St) (tg:Zq) (R:It->Hp->Prop) (g:rW) (r:IF):Prop :=
 ∃ (it:YS) (u:ad5) (tn:Nat->abh->Prop) (J:It) (H':Hp),g=.ref it/\Inv X v σ H' r/\Turn X.prog X.w X.K tg J u it tn/\tn 0 r.heap/\(∀ b∈u,eZ X v H' b)/\R J H'
def PI (X:Cx) (tg iter:Zq) (u:TI):Prop :=
 ∀ (g:ad2) (s:IF) (σ:St) (H:Hp) (R:It->Hp->Prop),Inv X g σ H s->u σ H R ->
  YH (YN X.prog X.w) X.A (eval iter X.env) (fun v r=>YH (YN X.prog X.w) X.A (adP v) (XI X g σ tg R) X.xe r) X.xe s
theorem w6 (g:s.heap.get? it=θ o) (v:o.cls=.type n) (r:o.data=.fields vs)
    (hn:["enumerate","zip","dict_itemiterator","dict_reverseitemiterator","odict_iterator","itertools.zip_longest","itertools.pairwise"].contains n=η) (hQ:Q () s):YH M A (acQ tg (.ref it) u) Q E s:=by
  cases tg <;> first
    | exact nE hQ
    | (cases u <;> first
        | exact nE hQ
        | (refine bY (wpAny_load g ?_)
           rw [v,r];show YH M A (if (["enumerate","zip","dict_itemiterator","dict_reverseitemiterator","odict_iterator","itertools.zip_longest","itertools.pairwise"].contains n&&vs[0]?==θ (abL _))=ζ then _ else _) Q E s;rw [adV (by grind)];exact nE hQ))
def Wy (K:aT) (a:YS):It :=
 ⟨fun i H=>∃ xs x,eV K H a xs/\xs[i]?=θ x,fun i H x H'=>H'=H/\∀ xs,eV K H a xs->xs[i]?=θ x,fun i H=>∃ xs,eV K H a xs/\xs.length<=i⟩
def Xy (K:aT) (a:YS):It :=
 ⟨fun i H=>∃ xs x,gU K H a xs/\xs[i]?=θ x,fun i H x H'=>H'=H/\∀ xs,gU K H a xs->xs[i]?=θ x,fun i H=>∃ xs,gU K H a xs/\xs.length<=i⟩
def U1 (lo:Int) (n:Nat):It:=⟨fun i _=>i < n,fun i H x H'=>H'=H/\x=.int (lo+i),fun i _=>n<=i⟩
theorem C2 {K:aT} (a it:YS):Turn P w K tg (Wy K a) [it] it (fun i h=>h.IsListIter it a i) where
 mem:=by simp
 obj:=fun i h st b hb=>by
  let ⟨o,e,c,d⟩:=st
  simp_all
 keep:=fun i h h' st k=>st.at fun o e=>k it (by simp) o e
 item:=by
  intro X hP hw v z i C s σ H E I r st hg;subst hP hw v;let ⟨xs,x,hq,hx⟩:=hg
  let ⟨its,rv,p,hz⟩:=I.list hq
  let ⟨u,hu,ru⟩:=rv.get hx
  let ⟨f0,f1,f2,f3,f4,f5⟩:=r it (by simp)
  refine wpAny_pyNext_list_item st p.isList (by simpa using hu) fun h' g L=>?_;have I1  := I.turned (fun b o hb e=>(L.2 b hb).trans e) f0 f1 f3 f4 f5;let ⟨o,e,c,d⟩:=id g
  exact ⟨u,rfl,w6 e c d (by decide) ⟨x,H,I1,ru,⟨rfl,fun ys hy=>by rw [I.list_inj hy hq];exact hx⟩,g,fun b hb=>(r b hb).1⟩⟩
 done:=by
  intro X hP hw v z i C s σ H E I r st hg;subst hP hw v;let ⟨xs,hq,hx⟩:=hg
  let ⟨its,rv,p,hz⟩:=I.list hq
  let ⟨f0,f1,f2,f3,f4,f5⟩:=r it (by simp)
  have M:=rv.length;exact wpAny_pyNext_list_end (I.ok.hd z) st p.isList (by simp;lia) fun h' J=>⟨rfl,I.turned (fun b o hb e=>J b o hb e) f0 f1 f3 f4 f5⟩
 self:=fun _ _ _ _ _ st h=>wpAny_pyIter_listiter st h
theorem yi {K:aT} (a it:YS):Turn P w K tg (Xy K a) [it] it (fun i h=>h.IsTupleIter it a i) where
 mem:=by simp
 obj:=fun i h st b hb=>by
  have e:b=it:=by simpa using hb
  subst e;let ⟨o,e,c,d⟩:=st
  simp_all
 keep:=fun i h h' st k=>st.at fun o e=>k it (by simp) o e
 item:=by
  intro X hP hw v z i C s σ H E I r st hg;subst hP hw v;let ⟨xs,x,hq,hx⟩:=hg
  let ⟨its,rv,p,hz⟩:=I.tuple hq
  let ⟨u,hu,ru⟩:=rv.get hx
  let ⟨f0,f1,f2,f3,f4,f5⟩:=r it (by simp)
  refine wpAny_pyNext_tuple_item st ((p)) (by simpa using hu) fun h' g L=>?_;have I1  := I.turned (fun b o hb e=>(L.2 b hb).trans e) f0 f1 f3 f4 f5;let ⟨o,e,c,d⟩:=id g
  exact ⟨u,rfl,w6 e c d (by decide) ⟨x,H,I1,ru,⟨rfl,fun ys hy=>by rw [I.tuple_inj hy hq];exact hx⟩,g,fun b hb=>(r b hb).1⟩⟩
 done:=by
  intro X hP hw v z i C s σ H E I r st hg;subst hP hw v;let ⟨xs,hq,hx⟩:=hg
  let ⟨its,rv,p,hz⟩:=I.tuple hq
  let ⟨f0,f1,f2,f3,f4,f5⟩:=r it (by simp)
  have M:=rv.length;exact wpAny_pyNext_tuple_end (I.ok.hd z) st ((p)) (by simp;lia) fun h' J=>⟨rfl,I.turned (fun b o hb e=>J b o hb e) f0 f1 f3 f4 f5⟩
 self:=fun _ _ _ _ _ st h=>wpAny_pyIter_tupleiter st h
theorem zK {K:aT} (it:YS) (lo:Int) (n:Nat):Turn P w K tg (U1 lo n) [it] it (fun i h=>IsRangeIter h it (lo+(i:Nat)*1) ((n:Int) - (i:Nat)) 1) where
 mem:=by simp
 obj:=fun i h st b hb=>by
  simp_all
 keep:=fun i h h' st k=>k it (by simp) _ st
 item:=by
  intro X hP hw z u i J s σ H E I r st hg;subst hP hw z;let ⟨f0,f1,f2,f3,f4,f5⟩:=r it (by simp)
  have W:=Walks.range (prog:=X.prog) (w:=X.w) (I.ok.hd u) it lo 1 n;refine aP I.tk (W.item i s _ _ hg st fun v h' tk hv g C M=>?_);obtain ⟨t,rfl⟩:=hv;have I1  := I.turned (fun b o hb e=>C b o (by simpa using hb) e) f0 f1 f3 f4 f5;refine ⟨_,rfl,w6 g rfl rfl (by decide) ⟨.int (lo+i),H,I1,⟨t,?_⟩,⟨rfl,rfl⟩,g,fun b hb=>(r b hb).1⟩⟩;rw [Int.mul_one]
 done:=by
  intro X hP hw z u i J s σ H E I r st hg;let ⟨f0,f1,f2,f3,f4,f5⟩:=r it (by simp)
  exact wpAny_pyNext_range_end (I.ok.hd u) st (by have:n<=i:=hg;lia) fun h' L=>⟨rfl,I.turned (fun b o hb e=>L b o hb e) f0 f1 f3 f4 f5⟩
 self:=fun _ _ _ _ _ st h=>wpAny_pyIter_rangeiter st h
section
variable {tg:Zq}
theorem Fy {σ:St} {lo g:Int} (I:Inv X af σ H s) (h1:-(2 ^ 62)<=lo) (h2:lo < 2 ^ 62) (J:-(2 ^ 62)<=g) (z:g < 2 ^ 62)
  (q:R (U1 lo (g - lo).toNat) H) (ht:X.tn<=tk:=by walk_at "tok"):YH (YN X.prog X.w) X.A (adP (.ref s.heap.objs.size)) (XI X af σ tg R) E { s with heap:=s.heap.push { cls:=.type "range",data:=.fields #[.int lo t,.int g u,.int 1 v] },toks:=tk }:=by
 refine wpAny_pyIter_range (IsRange.new ..) (small_one h1 h2 J z) ?_;have r:Inv X af σ H { s with heap:=s.heap.push { cls:=.type "range",data:=.fields #[.int lo t,.int g u,.int 1 v] },toks:=tk }:=I.kept fun b o e=>eQ _ e;refine ⟨(s.heap.push { cls:=.type "range",data:=.fields #[.int lo t,.int g u,.int 1 v] }).objs.size,[(s.heap.push { cls:=.type "range",data:=.fields #[.int lo t,.int g u,.int 1 v] }).objs.size],_,_,H,rfl,
  r.kept fun b o e=>eQ _ e,zK _ lo (g - lo).toNat,?_,fun b hb=>?_,q⟩
 .have e1:lo+((0:Nat))*1=lo:=by simp
  have C:(((g - lo).toNat)) - ((0:Nat))=Builtin.Range.rangeSize lo g 1:=by rw [rangeSize_one];split <;> lia
  rw [e1,C];exact BY _ rfl
 .have e:b=(s.heap.push { cls:=.type "range",data:=.fields #[.int lo t,.int g u,.int 1 v] }).objs.size:=by simpa using hb
  subst e;exact r.fpOk (oR _) (r.hok.fresh (oR _))
def Qp (C:TI) (g:TG) (tb:TS):TS:=fun D σ H=>C σ H fun J H1=>∃ W:Nat->Nat->St->Hp->Prop,(∃ m,W 0 m σ H1)/\∀ i m σ H,W i m σ H ->
 (J.stop i H/\D.nx σ H)\/(J.go i H/\∃ N:St->Hp->Prop,(∀ r H',N r H'->∃ v,v < m/\W (i+1) v r H')/\∀ x H',J.yld i H x H'->g x σ H' fun u z=>tb { D with nx:=N,ct:=N,bk:=D.nx } u z)
def lU (g:ad5) (h:abh):ad2:=g.filterMap fun b=>(h.get? b).map fun o=>(b,o)
theorem fj (hb:b∈fp) (e:h.get? b=θ o):(b,o)∈lU fp h:=abk.mpr ⟨b,hb,by rw [e];rfl⟩
theorem Dl (g:p∈lU fp h):p.1∈fp/\h.get? p.1=θ p.2:=by
 let ⟨b,hb,e⟩:=abk.mp g
 cases q:h.get? b with
 | none=>grind
 | some o =>
  rw [q] at e;have e'  := ZY e;subst e';exact ⟨hb,q⟩
theorem Inv.pinned {σ:St} (I:Inv X af σ H s) (r:∀ b∈fp,eZ X af H b) (g:∀ b∈fp,∃ o,s.heap.get? b=θ o/\∀ v,o.data≠.cell v):Inv X (af++lU fp s.heap) σ H s :=
 I.pins_of fun p u=>(xb.mp u).elim (fun z=>I.pin p (MK _ z)) fun z=>by
  obtain ⟨hb,e⟩:=Dl z;let ⟨f0,f1,f2,_⟩:=r p.1 hb
  let ⟨o,e',d⟩:=g p.1 hb
  grind
theorem Inv.unpinned {σ:St} (I:Inv X (af++pl) σ H s):Inv X af σ H s:=I.pins_of fun p g=>I.pin p (MK _ (YY _ g))
theorem NN (hp:abM (YN X.prog X.w) X.A X.env X.xe) (hc:X.calm=ζ) (hi:PI X tg iter wi) (hg:PG X tg g) (hb:Io X body tb)
  (hs:∀ x,Zs iter X.env x=pure x:=by intro _;rfl):PS X (.For tg iter body [] pos) (Qp wi g tb):=by
 intro Z s σ H D I h;refine wpAny_For (bV (hi Z s σ H _ I h) fun v s1 h1=>bV h1 fun itv s2 h2=>?_) hs;obtain ⟨it,fp,tn,J,H2,e,I2,T,st2,f2,W,⟨m0,w0⟩,turn⟩:=h2;subst e
 have L:∀ {H':Hp},(∀ b∈fp,H' b=ξ)->∀ b∈fp,eZ X Z H' b:=fun hn b hb=>⟨hn b hb,(f2 b hb).2⟩;refine codeAny_forLoop_any (fun n s'=>∃ i M H',Inv X Z M H' s'/\tn i s'.heap/\(∀ b∈fp,H' b=ξ)/\W i n M H') ?_ m0 ⟨0,σ,H2,I2,st2,fun b hb=>(f2 b hb).1,w0⟩;rintro n s3 ⟨i,σ3,H3,I3,st3,fr3,w3⟩;rcases turn i n σ3 H3 w3 with ⟨stop,qn⟩|⟨go,N,hN,step⟩
 .refine aaB hp (bV (T.done X rfl rfl rfl hc i Z s3 σ3 H3 X.xe I3 (L fr3) st3 stop) fun r s4 ⟨hr,I4⟩=>?_);subst hr;exact abY ⟨σ3,H3,I4,qn⟩
 .refine aaB hp (bV (T.item X rfl rfl rfl hc i Z s3 σ3 H3 X.xe I3 (L fr3) st3 go) fun r s4 ⟨u,hr,h4⟩=>?_);subst hr;refine aaB hp (bV h4 fun _ s5 ⟨x,H5,I5,r5,y5,st5,fr5⟩=>?_);have I5':=I5.pinned (L fr5) (T.obj _ _ st5);refine aaB hp (bV (hg _ s5 σ3 H5 x u _ I5' r5 (step x H5 y5)) fun _ s6 ⟨σ6,H6,I6,q6⟩=>?_);refine aaB hp (bV (hb _ s6 σ6 H6 _ I6 q6) fun f s7 Y=>?_);have again:∀ {z:St} {C:Hp},Inv X (Z++lU fp s5.heap) z C s7->N z C->∃ m,m < n/\∃ i M H',Inv X Z M H' s7/\tn i s7.heap/\(∀ b∈fp,H' b=ξ)/\W i m M H':=fun {z C} I7 n7=>by
   let ⟨m',hm,w7⟩:=hN z C n7
   refine ⟨m',hm,i+1,z,C,I7.unpinned,T.keep _ _ _ st5 fun b hb o e=>(I7.pin (b,o) (MK _ (MK _ (fj hb e)))).1,fun b hb=>?_,w7⟩;let ⟨o,e,d⟩:=T.obj _ _ st5 b hb
   exact (I7.pin (b,o) (MK _ (MK _ (fj hb e)))).2.1
  cases f with
  | next=>let ⟨z,C,I7,n7⟩:=Y;exact again I7 n7
  | cont=>let ⟨z,C,I7,n7⟩:=Y;exact again I7 n7
  | brk=>let ⟨z,C,I7,Y⟩:=Y;exact ⟨z,C,I7.unpinned,Y⟩
  | ret v=>let ⟨x7,z,C,I7,r7,Y⟩:=Y;exact ⟨x7,z,C,I7.unpinned,r7,Y⟩
end
abbrev R2:=V->V->Hp->VK->Prop
def dh (X:Cx) (f:rW->rW->Sem rW) (r:R2):Prop :=
 ∀ (g:ad2) (s:IF) (σ:St) (H:Hp) (x y:V) (v u:rW) (Q:VK),Inv X g σ H s->aQ x v->aQ y u->r x y H Q ->
  YH (YN X.prog X.w) X.A (f v u) (EP X g σ Q) X.xe s
def Iy (X:Cx) (f:rW->Sem rW) (r:V->Hp->VK->Prop):Prop :=
 ∀ (g:ad2) (s:IF) (σ:St) (H:Hp) (x:V) (v:rW) (Q:VK),Inv X g σ H s->aQ x v->r x H Q ->
  YH (YN X.prog X.w) X.A (f v) (EP X g σ Q) X.xe s
def bD (X:Cx) (f:rW) (r:ad7->Hp->VK->Prop):Prop :=
 ∀ (g:ad2) (s:IF) (σ:St) (H:Hp) (xs:ad7) (us:ad6) (Q:VK),Inv X g σ H s->aU xs us->r xs H Q ->
  YH (YN X.prog X.w) X.A (call f us) (EP X g σ Q) X.xe s
def VW (X:Cx) (r:V->Hp->(Bool->Hp->Prop)->Prop):Prop :=
 ∀ (g:ad2) (s:IF) (σ:St) (H:Hp) (x:V) (v:rW) (Q:Bool->Hp->Prop),Inv X g σ H s->aQ x v->r x H Q ->
  YH (YN X.prog X.w) X.A (truthy v) (TP X g σ Q) X.xe s
def Ip (r:R2) (ta tb:TE):TE:=fun σ H Q=>ta σ H fun x H1=>tb σ H1 fun y g=>r x y g Q
def tUn (r:V->Hp->VK->Prop) (ta:TE):TE:=fun σ H Q=>ta σ H fun x H1=>r x H1 Q
def rI (C:Int->Int->Prop) (g:Int->Int->V):R2:=fun x y H Q=>∃ i j,x=.int i/\y=.int j/\C i j/\Q (g i j) H
def Lq (g:Int->Int->V):R2:=fun x y H Q=>∃ i j,x=.int i/\y=.int j/\Q (g i j) H
def rU (g:Int->V):V->Hp->VK->Prop:=fun x H Q=>∃ i,x=.int i/\Q (g i) H
section
theorem M7 (M:PE X a ta) (hb:PE X b tb) {σ:St} {R:V->V->Hp->Prop} (I:Inv X af σ H s)
  (h:ta σ H fun x H1=>tb σ H1 fun y g=>R x y g) {f:rW->rW->Sem rW}
  (L:∀ v u C x y g,Inv X af σ g C->aQ x v->aQ y u->R x y g->YH (YN X.prog X.w) X.A (f v u) Q X.xe C) :
  YH (YN X.prog X.w) X.A (eval a X.env) (fun v r=>YH (YN X.prog X.w) X.A (eval b X.env) (fun u z=>YH (YN X.prog X.w) X.A (f v u) Q X.xe z) X.xe r) X.xe s:=by
 refine bV (M af s σ H _ I h) fun v Y J=>jC J fun x H1 Z r1 q1=>?_;refine bV (hb af Y σ H1 _ Z q1) fun u C J=>jC J fun y g I2 r2 q2=>?_;exact L v u C x y g I2 r1 r2 q2
theorem RK (g:dh X (Z7 op) r) (J:PE X a ta) (hb:PE X b tb):PE X (.BinOp a op b pos) (Ip r ta tb):=by
 intro C s σ H Q I h;exact wpAny_BinOp (M7 J hb I h fun v u z x y L Y M Z q=>g C z σ L x y v u Q Y M Z q)
theorem Vh {g:Int->Int->Int}
  (rule:∀ (i j:Int) (t u:Tok) (s:IF) (Q:ad3) (E:ad3),C i j->Q (.int (g i j) s.toks) { s with toks:=s.toks+1 }->YH (YN X.prog X.w) X.A (f (.int i t) (.int j u)) Q E s) :
  dh X f (rI C fun i j=>.int (g i j)):=by
 intro L s σ H x y v u Q I r J h;obtain ⟨i,j,rfl,rfl,z,q⟩:=h;obtain ⟨t,rfl⟩:=r;obtain ⟨t',rfl⟩:=J;exact rule i j t t' s _ _ z ⟨.int (g i j),H,I.tok _,⟨_,rfl⟩,q⟩
theorem NM {g:Int->Int->Int}
  (rule:∀ (i j:Int) (t u:Tok) (s:IF) (Q:ad3) (E:ad3),Q (.int (g i j) s.toks) { s with toks:=s.toks+1 }->YH (YN X.prog X.w) X.A (f (.int i t) (.int j u)) Q E s) :
  dh X f (Lq fun i j=>.int (g i j)):=by
 intro C s σ H x y v u Q I r z h;obtain ⟨i,j,rfl,rfl,q⟩:=h;obtain ⟨t,rfl⟩:=r;obtain ⟨t',rfl⟩:=z;exact rule i j t t' s _ _ ⟨.int (g i j),H,I.tok _,⟨_,rfl⟩,q⟩
theorem JU {g:Int->Int->Bool}
  (rule:∀ (i j:Int) (t u:Tok) (s:IF) (Q:ad3) (E:ad3),Q (.bool (g i j)) s->YH (YN X.prog X.w) X.A (f (.int i t) (.int j u)) Q E s) :
  dh X f (Lq fun i j=>.bl (g i j)):=by
 intro C s σ H x y v u Q I r z h;obtain ⟨i,j,rfl,rfl,q⟩:=h;obtain ⟨t,rfl⟩:=r;obtain ⟨t',rfl⟩:=z;exact rule i j t t' s _ _ ⟨.bl (g i j),H,I,rfl,q⟩
def HC (i j:Int):Prop:=0 < j/\j < 1073741824
def Ft (i j:Int):Prop:=0<=j/\j<=1000000/\i.natAbs < 2 ^ 64
def yq (i j:Int):Prop:=(-(2 ^ 64) < i/\i < 2 ^ 64)\/(-(2 ^ 64) < j/\j < 2 ^ 64)
theorem yq.ok (h:yq i j):IntMulOk i j:=by
 rcases h with ⟨h1,h2⟩|⟨h1,h2⟩
 .exact .of_left (intBits_le_64 h1 h2)
 .exact .of_right (intBits_le_64 h1 h2)
theorem NT:dh X (Z7 .Add) (Lq fun i j=>.int (i+j)):=NM fun _ _ _ _ _ _ _ q=>add_int q
theorem NZ:dh X (Z7 .Sub) (Lq fun i j=>.int (i - j)):=NM fun _ _ _ _ _ _ _ q=>sub_int q
theorem Nb:dh X (Z7 .Mult) (rI yq fun i j=>.int (i*j)):=Vh fun _ _ _ _ _ _ _ g q=>mul_int q g.ok
theorem IJ:dh X (Z7 .FloorDiv) (rI HC fun i j=>.int (i/j)):=Vh fun i j _ _ _ _ _ g q=>by
 have h1  := g.1;have h2  := g.2;exact floordiv_int (by lia) (by grind) (.inl (PyProof.noPylong_small (by lia)))
theorem OH:dh X (Z7 .Mod) (rI (fun _ j=>0 < j) fun i j=>.int (i % j)):=Vh fun i j _ _ _ _ _ g q=>by
 exact mod_int' (by lia) (by rw [Int.fmod_eq_emod_of_nonneg i (by lia)];exact q)
theorem No:dh X (Z7 .Pow) (rI Ft fun i j=>.int (i ^ j.toNat)):=Vh fun _ _ _ _ _ _ _ g q=>pow_int_small g.1 g.2.1 g.2.2 q
theorem unI {g:Int->Int}
  (rule:∀ (i:Int) (t:Tok) (s:IF) (Q:ad3) (E:ad3),Q (.int (g i) s.toks) { s with toks:=s.toks+1 }->YH (YN X.prog X.w) X.A (f (.int i t)) Q E s) :
  Iy X f (rU fun i=>.int (g i)):=by
 intro u s σ H x v Q I r h;obtain ⟨i,rfl,q⟩:=h;obtain ⟨t,rfl⟩:=r;exact rule i t s _ _ ⟨.int (g i),H,I.tok _,⟨_,rfl⟩,q⟩
theorem Nf:Iy X (unaryOp .USub) (rU fun i=>.int (-i)):=unI fun _ _ _ _ _ q=>neg_int q
end
def u6:V->V->Bool
 | .non,.non=>ζ|.non,.int _=>ζ|.int _,.non=>ζ|.non,.bl _=>ζ|.bl _,.non=>ζ|.non,.str _=>ζ|.str _,.non=>ζ
 | .int _,.int _=>ζ|.bl _,.bl _=>ζ|.str _,.str _=>ζ|.byt _,.byt _=>ζ
 | .int _,.str _=>ζ|.str _,.int _=>ζ|.bl _,.str _=>ζ|.str _,.bl _=>ζ
 | _,_=>η
def rEq:R2:=fun x y H Q=>u6 x y=ζ/\Q (.bl (decide (x=y))) H
def rNe:R2:=fun x y H Q=>u6 x y=ζ/\Q (.bl (!decide (x=y))) H
theorem Bl:decide (V.int i=V.int j)=(i==j):=by
 rw [abl];simp
theorem Gu:decide (V.bl i=V.bl j)=(i==j):=by
 rw [abl];simp
theorem BF:decide (V.str i=V.str j)=(i==j):=by
 rw [abl];simp
theorem BO:decide (V.byt i=V.byt j)=(i.toList==j.toList):=by
 rw [abl];cases i;cases j;simp
section
variable {X:Cx} {a b c:Zq} {ta tb tc:TE} {pos:Pos}
theorem aR {σ:St} (I:Inv X af σ H s) (q:Q (.bl k) H) (e:k=k'):EP X af σ Q (.bool k') s:=by
 subst e;exact ⟨.bl k,H,I,rfl,q⟩
def SW:dh X (YX .Eq) rEq:=by
 intro z s σ H x y v u Q I r g h;let ⟨hs,q⟩:=h
 cases x with
 | non =>
  cases r;cases y with
  | non=>cases g;exact PySem.EqNone.eq_none_none (aR I q (by simp))
  | bl j=>cases g;exact PySem.EqNone.eq_none_bool (aR I q (by simp))
  | int j=>obtain ⟨t',rfl⟩:=g;exact PySem.EqNone.eq_none_int (aR I q (by simp))
  | str j=>obtain ⟨t',rfl⟩:=g;exact PySem.EqNone.eq_none_str (aR I q (by simp))
  | _=>exact absurd (show η=ζ from hs) By
 | bl i =>
  cases r;cases y with
  | non=>cases g;exact PySem.EqNone.eq_bool_none (aR I q (by simp))
  | bl j=>cases g;exact eq_bool (aR I q Gu)
  | str j=>obtain ⟨t',rfl⟩:=g;exact PySem.EqMixed.eq_bool_str (aR I q (by simp))
  | _=>exact absurd (show η=ζ from hs) By
 | int i =>
  obtain ⟨t,rfl⟩:=r;cases y with
  | non=>cases g;exact PySem.EqNone.eq_int_none (aR I q (by simp))
  | int j=>obtain ⟨t',rfl⟩:=g;exact eq_int (aR I q Bl)
  | str j=>obtain ⟨t',rfl⟩:=g;exact PySem.EqMixed.eq_int_str (aR I q (by simp))
  | _=>exact absurd (show η=ζ from hs) By
 | str i =>
  obtain ⟨t,rfl⟩:=r;cases y with
  | non=>cases g;exact PySem.EqNone.eq_str_none (aR I q (by simp))
  | bl j=>cases g;exact PySem.EqMixed.eq_str_bool (aR I q (by simp))
  | int j=>obtain ⟨t',rfl⟩:=g;exact PySem.EqMixed.eq_str_int (aR I q (by simp))
  | str j=>obtain ⟨t',rfl⟩:=g;exact eq_str (aR I q BF)
  | _=>exact absurd ((hs)) By
 | byt i =>
  obtain ⟨t,rfl⟩:=r;cases y with
  | byt j=>obtain ⟨t',rfl⟩:=g;exact PySem.W.eq_bytes (aR I q BO)
  | _=>exact absurd ((hs)) By
 | _=>cases y <;> exact absurd ((hs)) By
def TW:dh X (YX .NotEq) rNe:=by
 intro z s σ H x y v u Q I r g h;let ⟨hs,q⟩:=h
 cases x with
 | non =>
  cases r;cases y with
  | non=>cases g;exact PySem.EqNone.ne_none_none (aR I q (by simp))
  | bl j=>cases g;exact PySem.EqNone.ne_none_bool (aR I q (by simp))
  | int j=>obtain ⟨t',rfl⟩:=g;exact PySem.EqNone.ne_none_int (aR I q (by simp))
  | str j=>obtain ⟨t',rfl⟩:=g;exact PySem.EqNone.ne_none_str (aR I q (by simp))
  | _=>exact absurd (show η=ζ from hs) By
 | bl i =>
  cases r;cases y with
  | non=>cases g;exact PySem.EqNone.ne_bool_none (aR I q (by simp))
  | bl j=>cases g;exact ne_bool (aR I q (adZ not Gu))
  | str j=>obtain ⟨t',rfl⟩:=g;exact PySem.EqMixed.ne_bool_str (aR I q (by simp))
  | _=>exact absurd (show η=ζ from hs) By
 | int i =>
  obtain ⟨t,rfl⟩:=r;cases y with
  | non=>cases g;exact PySem.EqNone.ne_int_none (aR I q (by simp))
  | int j=>obtain ⟨t',rfl⟩:=g;exact ne_int (aR I q (adZ not Bl))
  | str j=>obtain ⟨t',rfl⟩:=g;exact PySem.EqMixed.ne_int_str (aR I q (by simp))
  | _=>exact absurd (show η=ζ from hs) By
 | str i =>
  obtain ⟨t,rfl⟩:=r;cases y with
  | non=>cases g;exact PySem.EqNone.ne_str_none (aR I q (by simp))
  | bl j=>cases g;exact PySem.EqMixed.ne_str_bool (aR I q (by simp))
  | int j=>obtain ⟨t',rfl⟩:=g;exact PySem.EqMixed.ne_str_int (aR I q (by simp))
  | str j=>obtain ⟨t',rfl⟩:=g;exact ne_str (aR I q (adZ not BF))
  | _=>exact absurd ((hs)) By
 | byt i =>
  obtain ⟨t,rfl⟩:=r;cases y with
  | byt j=>obtain ⟨t',rfl⟩:=g;exact PySem.W.ne_bytes (aR I q (adZ not BO))
  | _=>exact absurd ((hs)) By
 | _=>cases y <;> exact absurd ((hs)) By
theorem UA:dh X (YX .Lt) (Lq fun i j=>.bl (decide (i < j))):=JU fun _ _ _ _ _ _ _ q=>lt_int q
theorem Qt:dh X (YX .LtE) (Lq fun i j=>.bl (decide (i<=j))):=JU fun _ _ _ _ _ _ _ q=>le_int q
theorem Ug:dh X (YX .Gt) (Lq fun i j=>.bl (decide (j < i))):=JU fun _ _ _ _ _ _ _ q=>gt_int q
theorem Sx:dh X (YX .GtE) (Lq fun i j=>.bl (decide (j<=i))):=JU fun _ _ _ _ _ _ _ q=>ge_int q
theorem CW:dh X (YX .Lt) (fun x y H Q=>∃ i j,x=.str i/\y=.str j/\Q (.bl (decide (i.cps.toList < j.cps.toList))) H):=by
 intro z s σ H x y v u Q I g r h;obtain ⟨i,j,rfl,rfl,q⟩:=h;obtain ⟨t,rfl⟩:=g;obtain ⟨t',rfl⟩:=r;exact lt_str (aR I q rfl)
theorem CG:dh X (YX .In) (fun x y H Q=>∃ i j,x=.str i/\y=.str j/\Q (.bl (!(abm j i 0 j.length 1).isEmpty)) H):=by
 intro z s σ H x y v u Q I g r h;obtain ⟨i,j,rfl,rfl,q⟩:=h;obtain ⟨t,rfl⟩:=g;obtain ⟨t',rfl⟩:=r;exact in_str (aR I q rfl)
theorem M3:dh X (YX .Is) (fun x y H Q=>y=.non/\Q (.bl (decide (x=.non))) H):=by
 intro z s σ H x y v u Q I r g h;obtain ⟨rfl,q⟩:=h;cases g;refine is_none_gen (aR I q ?_);cases x <;> first
  | (rfl)
  | (obtain ⟨t,rfl⟩:=r;rfl)
theorem vt:dh X (YX .NotIn) (fun x y H Q=>∃ i j,x=.str i/\y=.str j/\Q (.bl (!(!(abm j i 0 j.length 1).isEmpty))) H):=by
 intro z s σ H x y v u Q I g r h;obtain ⟨i,j,rfl,rfl,q⟩:=h;obtain ⟨t,rfl⟩:=g;obtain ⟨t',rfl⟩:=r;exact notIn_str (aR I q rfl)
theorem dh.or (h:dh X f r) (h':dh X f r'):dh X f (fun x y H Q=>r x y H Q\/r' x y H Q):=by
 intro g s σ H x y v u Q I C z q;rcases q with q|q
 .exact h g s σ H x y v u Q I C z q
 .exact h' g s σ H x y v u Q I C z q
theorem x8 (b:Zq) (h:op≠.In:=by decide) (h2:op≠.NotIn:=by decide):aaI op b=η:=by
 have r:(op==CmpOp.In)=η:=by grind
 have g:(op==CmpOp.NotIn)=η:=by grind
 cases b <;> simp [aaI,r,g]
theorem J8 (g:dh X (YX op) r) (J:PE X a ta) (hb:PE X b tb) (hm:aaI op b=η):PE X (.Compare a [op] [b] pos) (Ip r ta tb):=by
 intro C s σ H Q I h;exact wpAny_Compare1 (M7 J hb I h fun v u z x y L Y M Z q=>g C z σ L x y v u Q Y M Z q) hm
def WL (K:aT) (x:V) (H:Hp) (k:Bool):Prop :=
 match x with
 | .non=>k=η
 | .bl b=>k=b
 | .int i=>k=(i != 0)
 | .str y=>y.length<=RW/\k=((y.length:Int) != 0)
 | .byt y=>y.size<=RW/\k=((y.size:Int) != 0)
 | .ref p=>(∃ xs,eV K H p xs/\k=!xs.isEmpty)\/(∃ xs,gU K H p xs/\k=!xs.isEmpty)\/∃ g,H p=θ (.dK g)/\k=!g.isEmpty
 | _=>False
theorem yW {g:List (κ×V)} {vs:List (κ×rW)} (r:KV g vs):(!vs.isEmpty)=!g.isEmpty:=by
 cases r <;> rfl
theorem pZ (r:aU xs its):(!its.toArray.isEmpty)=!xs.isEmpty:=by
 cases r <;> simp
theorem n5:(RW:Nat) < 2 ^ 63:=by rw [Zd];decide
theorem NF:VW X (fun x H Q=>∃ k,WL X.K x H k/\Q k H):=by
 intro L s σ H x v Q I C h;let ⟨k,e,q⟩:=h
 have M:=n5;have hs:RW=16777216:=Zd;cases x with
 | non =>
  cases C;have g:k=η:=e;subst g;exact truthy_none ⟨H,I,q⟩
 | bl b =>
  cases C;have g:k=b:=e;subst g;exact aaC ⟨H,I,q⟩
 | int i =>
  obtain ⟨t,rfl⟩:=C;have g:k=(i != 0):=e;subst g;exact PySem.P.truthy_int ⟨H,I,q⟩
 | str y =>
  obtain ⟨t,rfl⟩:=C;let ⟨hy,g⟩:y.length<=RW/\k=((y.length:Int) != 0):=e
  subst g;exact PySem.P.truthy_str (by lia) ⟨H,I.tok _,q⟩
 | byt y =>
  obtain ⟨t,rfl⟩:=C;let ⟨hy,g⟩:y.size<=RW/\k=((y.size:Int) != 0):=e
  subst g;exact PySem.W.truthy_bytes (by lia) ⟨H,I.tok _,q⟩
 | ref p =>
  cases C;have g:(∃ xs,eV X.K H p xs/\k=!xs.isEmpty)\/(∃ xs,gU X.K H p xs/\k=!xs.isEmpty)\/∃ u,H p=θ (.dK u)/\k=!u.isEmpty:=e;rcases g with ⟨xs,J,g⟩|⟨xs,J,g⟩|⟨u,J,g⟩
  .subst g;let ⟨its,r,pl,hz⟩:=I.list J
   have z:=r.length;exact wpAny_truthy_list pl.isList (by simp only [YC];lia) ⟨H,I.tok _,by rw [pZ r];exact q⟩
  .subst g;let ⟨its,r,pl,hz⟩:=I.tuple J
   have z:=r.length;exact truthy_tuple pl (by simp only [YC];lia) ⟨H,I.tok _,by rw [pZ r];exact q⟩
  .subst g;let ⟨hz,hS,vs,r,m⟩:u.length<=RW/\(p==Z6)=η/\∃ vs,KV u vs/\s.heap.DictOf (bB X.prog X.w) p vs:=I.hok p _ J
   have z  := acp r;exact wpAny_truthy_dict hS m (by lia) ⟨H,I.tok _,by rw [yW r];exact q⟩
 | _=>exact ((e)).elim
theorem zP:dh X (Z7 .Add) (fun x y H Q=>∃ i j,x=.str i/\y=.str j/\i.length+j.length<=RW/\Q (.str (i++j)) H):=by
 intro C s σ H x y v u Q I r z h;obtain ⟨i,j,rfl,rfl,hz,q⟩:=h;obtain ⟨t,rfl⟩:=r;obtain ⟨t',rfl⟩:=z;exact aP I.tk (add_str (fun t' tk g=>⟨.str (i++j),H,I.tok _,⟨_,rfl⟩,q⟩) hz)
theorem gj (r:aU [x] us):∃ u,us=[u]/\aQ x u:=by
 cases r with
 | cons r1 r2=>cases r2;exact ⟨_,rfl,r1⟩
theorem La (r:aU [x,y] us):∃ u w',us=[u,w']/\aQ x u/\aQ y w':=by
 cases r with
 | cons r1 r2 =>
  cases r2 with
  | cons r3 r4=>cases r4;exact ⟨_,_,rfl,r1,r3⟩
theorem GC:bD X (.builtin "abs") (fun xs H Q=>∃ i,xs=[.int i]/\Q (.int (if i < 0 then -i else i)) H):=by
 intro v s σ H xs us Q I r h;obtain ⟨i,rfl,q⟩:=h;obtain ⟨u,rfl,t,rfl⟩:=gj r;exact aP I.tk (call_abs_int fun u tk g=>⟨.int (if i < 0 then -i else i),H,I.tok _,⟨_,rfl⟩,q⟩)
theorem CN:bD X (.type "int") (fun xs H Q=>(∃ i,xs=[.int i]/\Q (.int i) H)\/∃ k,xs=[.bl k]/\Q (.int (if k then 1 else 0)) H):=by
 intro g s σ H xs us Q I r h;rcases h with ⟨i,rfl,q⟩|⟨k,rfl,q⟩
 .obtain ⟨u,rfl,t,rfl⟩:=gj r;exact call_int_int ⟨.int i,H,I,⟨_,rfl⟩,q⟩
 .obtain ⟨u,rfl,r1⟩:=gj r;cases r1;exact call_int_bool ⟨.int (if k then 1 else 0),H,I.tok _,⟨_,rfl⟩,q⟩
end
structure ObjM (h:abh) (x dx C:YS) (mA:ad4):Prop where
 obj:h.get? x=θ (abj C dx)
 ns:h.Ns1 dx mA
 ne:dx≠x
theorem Cf {h:abh} (n:h.Ns1 dx mA):∃ od,h.get? dx=θ od/\∀ name,acY name od=θ (mA name):=by
 obtain ⟨o,es,v,g,r,u,_,hm⟩:=n;refine ⟨o,g,fun name=>?_⟩;have e:=hm name;unfold nsFind findBy at e;unfold acY;rw [r];dsimp only;split
 .simp_all
 .have a:es.toList.any (·.refKey)=η:=by
   rw [List.any_eq_false];intro y hy;let ⟨z,t,hkey⟩:=u y (Array.mem_toList_iff.mp hy)
   simp [DictEntry.refKey,hkey]
  grind
theorem ObjM.look (I:ObjM h x dx C mA):∃ od,PySem.W.InstAt h x (abj C dx) C (θ od)/\∀ name,acY name od=θ (mA name) :=
 let ⟨od,ho,hl⟩:=Cf I.ns
 ⟨od,⟨I.obj,rfl,rfl,ho⟩,hl⟩
section
variable {s:IF} {K:aT}
theorem get_map (X:K.In s.heap) (I:ObjM s.heap x dx C mA) (hg:acz K C name=ζ) (u:acd K C=ζ)
  (r:ZW K (.ref C) name=θ ξ) (hv:mA name=θ v) (g:PySem.W.handedIn v=ζ) (h:Q v { s with toks:=s.toks+1 }) :
  YH (YN prog w) A (getAttr (.ref x) name expr) Q E s:=by
 obtain ⟨od,J,z⟩:=I.look;exact PySem.W.get_value X J (PySem.W.plainGet_of hg).1 (PySem.W.findObj_own u r rfl (by rw [z,hv])) g h
theorem K0 (X:K.In s.heap) (I:ObjM s.heap x dx C mA)
  (hs:ZW K (.ref C) "__setattr__"=θ (θ (.builtin "object.__setattr__"))) (z:adn K C=ζ) (ht:acG K C name=θ ξ) (u:acd K C=ζ)
  (hw:ady mA ns) (hsz:ns.length<=RW)
  (h:∀ h',ObjM h' x dx C (fun y=>if y=name then θ v else mA y)->Zo dx s.heap h'->Q () { s with heap:=h',toks:=s.toks+2 }) :
  YH (YN prog w) A (setAttr (.ref x) name v) Q E s:=by
 let ⟨od,J,hl⟩:=I.look
 refine PySem.W.set_plain X J hs (PySem.W.osa_open X J z ht fun b=>?_);let ⟨cd,hc,hd'⟩:=PySem.W.any_some u
 have hx  := I.obj;refine bY (nE (bY (bY (wpAny_loadPart hx (bY (PySem.W.Looks.here (PySem.W.looks_clsIn X hc) ?_))))));rw [hd'];refine nE (bY (nE (bY ?_)));refine wpAny_nsSet1 I.ns fun h' r g=>?_;let ⟨oD,esD,epD,hoD,hdD,hcD⟩:=r.count (PySem.Within.cons name v hw)
 refine bY (wpAny_lookBehind hoD (by rw [hdD];exact pastItsLine_dict (Le hcD (by simp_all))) ?_);exact nE (h _ ⟨(g.2 _ (aaN I.ne)).trans I.obj,r,I.ne⟩ g)
end
noncomputable def lD (f:Str) (v:V):List (Str×V)->List (Str×V)
 | []=>[(f,v)]
 | (g,x)::r=>if g=f then (g,v)::r else (g,x)::lD f v r
theorem oj (f g:Str) (v:V):∀ fs:List (Str×V),(lD f v fs).lookup g=if g=f then θ v else fs.lookup g
 | []=>by
  show abb g [(f,v)]=_;by_cases h:g=f
  .simp_all
  simp_all
 | (k,x)::r=>by
  have z:=oj f g v r;rw [show lD f v ((k,x)::r)=(if k=f then (k,v)::r else (k,x)::lD f v r) from rfl];by_cases u:k=f
  .rw [adU u];by_cases h:g=k
   .simp_all
   .have hb  := beq_eq_false_iff_ne.mpr h;simp only [abb,hb,adV (fun e:g=f=>h (e.trans u.symm))]
  .rw [adV u];by_cases h:g=k
   .simp_all
   .have hb  := beq_eq_false_iff_ne.mpr h;simp only [abb,hb];exact z
theorem nv (f:Str) (v:V):∀ fs:List (Str×V),f∈(lD f v fs).map (·.1)/\∀ g,g∈fs.map (·.1)->g∈(lD f v fs).map (·.1)
 | []=>⟨by simp [lD],fun g h=>by simp at h⟩
 | (k,x)::r=>by
  let ⟨i1,i2⟩:=nv f v r
  rw [show lD f v ((k,x)::r)=(if k=f then (k,v)::r else (k,x)::lD f v r) from rfl]
  grind
theorem oT (f:Str) (v:V):∀ fs:List (Str×V),(lD f v fs).length<=fs.length+1
 | []=>by simp [lD]
 | (k,x)::r=>by
  have g:=oT f v r;rw [show lD f v ((k,x)::r)=(if k=f then (k,v)::r else (k,x)::lD f v r) from rfl]
  grind
theorem j7.some_of (r:j7 (θ v) o):∃ u,o=θ u/\aQ v u:=by
 cases o with
 | none=>exact ((r)).elim
 | some u=>exact ⟨u,rfl,r⟩
theorem j7.none_of (r:j7 ξ o):o=ξ:=by
 cases o with
 | none=>rfl
 | some u=>exact ((r)).elim
section
theorem vx (g:l9 P w H h) (e:H a=θ (.ins C dx fs)):∃ mA,ObjM h a dx C mA/\(∀ f,j7 (fs.lookup f) (mA f))/\ady mA (fs.map (·.1))/\fs.length<=1000/\H dx=θ (.own a):=by
 obtain ⟨d,z,ne,ob,mA,n,r,q⟩:=((g a _ e));exact ⟨mA,⟨ob,n,ne⟩,r,q,z,d⟩
end
structure Cls (K:aT) (C:YS):Prop where
 pg:acz K C Str.empty=ζ
 hd:acd K C=ζ
 po:adn K C=ζ
 sa:ZW K (.ref C) "__setattr__"=θ (θ (.builtin "object.__setattr__"))
theorem Cls.get {K:aT} (c:Cls K C) (f:Str):acz K C f=ζ:=c.pg
def eN (K:aT) (C:YS) (f:Str):Prop:=ZW K (.ref C) f=θ ξ
theorem eN.taker {K:aT} (n:eN K C f):acG K C f=θ ξ:=by
 unfold acG;rw [(n)];rfl
section
variable {σ:St}
theorem zB (I:Inv X af σ H s) (e:H a=θ (.ins C dx fs)) (c:Cls X.K C) (n:eN X.K C f) (l:fs.lookup f=θ v)
  (h:∀ u g,Inv X af σ H g->aQ v u->Q u g):YH (YN X.prog X.w) A (getAttr (.ref a) f b) Q E s:=by
 obtain ⟨mA,O,r,_,_,_⟩:=vx I.hok e;let ⟨u,hu,ru⟩:=j7.some_of (v:=v) (o:=mA f) (by grind)
 exact get_map I.kIn O (c.get f) c.hd n hu ((by
   cases v with
   | non=>cases ((ru));rfl
   | bl b=>cases ((ru));rfl
   | int i=>obtain ⟨t,e⟩:=((ru));cases e;rfl
   | str x=>let ⟨t,e⟩:=((ru));cases e;rfl
   | byt b=>let ⟨t,e⟩:=((ru));cases e;rfl
   | flt b=>let ⟨t,e⟩:=((ru));cases e;rfl
   | ref a=>cases ((ru));rfl
   | ty n=>cases ((ru));rfl)) (h u _ (I.tok _) ru)
theorem yO (I:Inv X af σ H s) (e:H a=θ (.ins C dx fs)) (c:Cls X.K C) (n:eN X.K C f) (M:fs.length < 1000) (L:aQ y u)
  (h:∀ v,Inv X af σ (upd H a (.ins C dx (lD f y fs))) v->Q () v):YH (YN X.prog X.w) A (setAttr (.ref a) f u) Q E s:=by
 let ⟨mA,O,r,wi,_,ho⟩:=vx I.hok e
 have hz:(fs.map (·.1)).length<=RW:=by rw [iN,Zd];lia
 refine K0 I.kIn O c.sa c.po n.taker c.hd wi hz fun h' O' J=>h _ ?_;have hd:∃ o,h'.get? dx=θ o:=let ⟨o,_,_,e',_⟩:=O'.ns;⟨o,e'⟩;refine I.write (by rw [e];exact Y6) (.inr ho) (fun b q hb z=>(J.2 b hb).trans z) hd ?_;refine ⟨by rw [aA O.ne];exact ho,?_,O.ne,O'.obj,_,O'.ns,fun g=>?_,fun g hg=>?_⟩
 .have:=oT f y fs;lia
 .rw [oj];by_cases q:g=f
  .rw [adU q,adU q];exact L
  grind
 .by_cases q:g=f
  .rw [q];exact (nv f y fs).1
  .refine (nv f y fs).2 g (wi g fun z=>hg ?_);simp_all
theorem Inv.made (I:Inv X af σ H s):Inv X af σ (upd (upd H s.heap.objs.size (.own (s.heap.objs.size+1))) (s.heap.objs.size+1) (.ins C s.heap.objs.size []))
  { s with heap:=(s.heap.push aay).push (abj C s.heap.objs.size) }:=by
 have g:(s.heap.push aay).get? s.heap.objs.size=θ aay:=BY s.heap rfl;have e2  := by
  have:=BY (s.heap.push aay) (o:=abj C s.heap.objs.size) rfl
  rwa [ZE] at this
 have r:(s.heap.push aay).Ns s.heap.objs.size (fun _=>ξ):=⟨aay,#[],_,g,rfl,(fun e v=>absurd v (by simp)),fun _=>rfl⟩;have z:=I.laid (o:=.own (s.heap.objs.size+1)) (fun b u q=>eQ _ q) (oR _) ⟨_,g⟩;refine z.laid (fun b u q=>eQ _ q) (adA (ZE _ _)) ?_;have ne:s.heap.objs.size≠s.heap.objs.size+1:=YL (abO _);refine ⟨by rw [aA ne,aE],YJ _,ne,e2,fun _=>ξ,(Heap.Ns1.of_empty r).at fun o q=>eQ _ q,fun _=>Y6,fun y hy=>absurd rfl hy⟩
end
def VB (K:aT) (ta:TE) (f:Str):TE:=fun σ H Q=>ta σ H fun x H1=>∃ a C g fs v,x=.ref a/\H1 a=θ (.ins C g fs)/\Cls K C/\eN K C f/\fs.lookup f=θ v/\Q v H1
def Xe (K:aT) (ta tv:TE) (f:Str):TS:=fun D σ H=>tv σ H fun y H1=>ta σ H1 fun x g=>∃ a C r fs,x=.ref a/\g a=θ (.ins C r fs)/\Cls K C/\eN K C f/\fs.length < 1000 /\
 D.nx σ (upd g a (.ins C r (lD f y fs)))
section
variable {X:Cx} {o e value:Zq} {f:Str} {pos pos' tpos:Pos} {ta tv:TE}
theorem OK (g:PE X e ta) (hb:Y4 e f X.env (eval e X.env)=eval e X.env):PE X (.Attribute e f pos) (VB X.K ta f):=by
 intro r s σ H Q I h;refine (fun hb h =>  Attribute_any_ h (by rw [arm_eval_Attribute,hb])) hb (bV (g r s σ H _ I h) fun u s1 ⟨x,H1,I1,rx,a,C,dx,fs,v,ex,ea,c,n,l,q⟩=>?_);subst ex;obtain rfl:u=aab a:=rx;exact zB I1 ea c n l fun L J z ru=>⟨v,H1,z,ru,q⟩
theorem zh (v:PE X o ta) (hv:PE X value tv) (hs:Z2 value (θ (.Attribute o f pos')) pos.line X.env=pure η):PS X (.Assign [.Attribute o f pos'] value pos) (Xe X.K ta tv f):=by
 intro g s σ H D I h;refine plainObj_wpAny_Assign_Attribute (bV (hv g s σ H _ I h) fun u s1 ⟨y,H1,I1,ry,q⟩=>bV (v g s1 σ H1 _ I1 q) fun ov s2 ⟨x,H2,I2,rx,a,C,dx,fs,ex,ea,c,n,l,q2⟩=>?_) hs;subst ex;obtain rfl:ov=aab a:=rx;exact yO I2 ea c n l ry fun z r=>⟨σ,_,r,q2⟩
end
section
variable {σ:St}
inductive TyOf (K:aT) (H:Hp):V->rW->Prop where
 | non:TyOf K H .non (.type "NoneType")
 | bl (x:Bool):TyOf K H (.bl x) (.type "bool")
 | int (i:Int):TyOf K H (.int i) (.type "int")
 | str (x:Str):TyOf K H (.str x) (.type "str")
 | flt (x:UInt64):TyOf K H (.flt x) (.type "float")
 | lst {a:YS} {xs:ad7} (e:H a=θ (.lst xs)):TyOf K H (.ref a) (.type "list")
 | frz {a:YS} {o:Obj} {xs:ad7} (e:H a=θ (.frz o (.lst xs))):TyOf K H (.ref a) (.type "list")
 | tup {a:YS} {xs:ad7} (e:H a=θ (.tup xs)):TyOf K H (.ref a) (.type "tuple")
 | dK {a:YS} {kvs:List (Key×V)} (e:H a=θ (.dK kvs)):TyOf K H (.ref a) (.type "dict")
 | dT {a:YS} {kvs:List (List Key×V)} (e:H a=θ (.dT kvs)):TyOf K H (.ref a) (.type "dict")
 | ins {a C dx:YS} {fs:List (Str×V)} (e:H a=θ (.ins C dx fs)) (cl:Cls K C) (ha:ZW K (.ref C) "__class__"=θ (θ (.builtin "object.__class__")))
   (hn:ado K (.builtin "object.__class__") "__get__"=θ (θ (.builtin "getset_descriptor.__get__"))) (htk:adJ K (.builtin "object.__class__")=θ ζ)
   (hm:PySem.W.mroIn K C (.type "object")=θ ζ):TyOf K H (.ref a) (.ref C)
theorem iT (I:Inv X af σ H s) (g:aQ x u) (v:TyOf X.K H x t) (e:aa4 X.K t c=θ b) (h:∀ r,Q (.bool b) { s with toks:=r }) :
  YH (YN X.prog X.w) A (call (.builtin "isinstance") [u,c]) Q E s:=by
 cases v with
 | non=>cases (show u=ZS from g);exact Zj PySem.W.kitx_none I.kIn Y6 e (fun z=>nomatch z) h
 | bl y=>cases ((g));exact Zj PySem.W.kitx_bool I.kIn Y6 e (fun z=>nomatch z) h
 | int i=>obtain ⟨t,q⟩:=((g));cases q;exact Zj PySem.W.kitx_int I.kIn Y6 e (fun z=>nomatch z) h
 | str y=>let ⟨t,q⟩:=((g));cases q;exact Zj PySem.W.kitx_str I.kIn Y6 e (fun z=>nomatch z) h
 | flt y=>let ⟨t,q⟩:=((g));cases q;exact Zj PySem.W.kitx_float I.kIn Y6 e (fun z=>nomatch z) h
 | @lst a xs ea =>
  cases ((g));obtain ⟨_,_,n,_,h1⟩:=((I.hok a _ ea));exact Zj ace I.kIn ⟨_,h1,rfl⟩ e (fun z=>nomatch z) h
 | @frz a ob xs ea =>
  cases ((g));obtain ⟨_,_,_,n,_,h1⟩:=((I.hok a _ ea));exact Zj ace I.kIn ⟨_,h1,rfl⟩ e (fun z=>nomatch z) h
 | @tup a xs ea =>
  cases ((g));obtain ⟨_,_,_,p⟩:=((I.hok a _ ea));let ⟨o,h1,h2,_⟩:=p
  exact Zj adg I.kIn ⟨o,h1,h2⟩ e (fun z=>nomatch z) h
 | @dK a kvs ea =>
  cases ((g));let ⟨_,_,vs,_,p⟩:=((I.hok a _ ea))
  obtain ⟨o,es,L,h1,h2,_⟩:=p;exact Zj acf I.kIn ⟨o,h1,h2.1⟩ e (fun z=>nomatch z) h
 | @dT a kvs ea =>
  cases ((g));obtain ⟨_,_,xs,_,o,es,L,h1,h2,_⟩:=((I.hok a _ ea));exact Zj acf I.kIn ⟨o,h1,h2.1⟩ e (fun z=>nomatch z) h
 | @ins a C dx fs ea cl ha hn htk hm =>
  cases ((g));let ⟨mA,O,_⟩:=vx I.hok ea
  let ⟨od,J,_⟩:=O.look
  exact Zj (PySem.W.kitx_own (cl.get _) cl.hd ha hn htk hm) I.kIn J e (fun z=>nomatch z) h
end
structure Room (k:Nat) (A:aaF):Prop where
 hd:A.handled=ξ
 dp:A.depth+3*k+5 < recursionLimit
 un:A.units+16*k+200 < aa3
theorem Room.mono (r:Room k A) (h:j<=k):Room j A:=⟨r.hd,by have:=r.dp;lia,by have:=r.un;lia⟩
theorem Room.deeper (r:Room (k+1) A) (env:Env):Room k (A.deeper env) :=
 ⟨r.hd,by have:=r.dp;show A.depth+1+3*k+5 < _;lia,by have:=r.un;show A.units+3+16*k+200 < _;lia⟩
theorem zJ {A:aaF}:(A.under (.builtin "type.__call__" ⟨.ref C::us,kw⟩)).depth=A.depth+1:=by
 rfl
theorem yc {A:aaF}:(A.under (.builtin "type.__call__" ⟨.ref C::us,kw⟩)).units=A.units+1:=by
 rfl
theorem Room.make (r:Room (k+1) A) (C:YS) (us:ad6) (kw:List (Str×rW)):Room k (A.under (.builtin "type.__call__" ⟨.ref C::us,kw⟩)) :=
 ⟨r.hd,by have:=r.dp;rw [zJ];lia,by have:=r.un;rw [yc];lia⟩
theorem Room.depth (r:Room k A):A.depth < recursionLimit:=by have:=r.dp;lia
theorem Room.units (r:Room k A):A.units+64 < aa3:=by have:=r.un;lia
def Fh:TA:=fun _ H Q=>Q [] H
def tL (ta:TE) (tr:TA):TA:=fun σ H Q=>ta σ H fun x H1=>tr σ H1 fun xs g=>Q (x::xs) g
section
theorem Iv (v:PE X e te) (hr:PA X es t) (hs:YI (e::es) X.env=(η,eval e X.env)::YI es X.env:=by rfl):PA X (e::es) (tL te t):=by
 intro pos r s σ H Q I h;rw [hs];refine Z3 (bV (v r s σ H _ I h) fun u C g=>jC g fun x H1 J r1 q1=>?_);exact bV (hr pos r C σ H1 _ J q1) fun us M g=>jC g fun xs z L r2 q2=>⟨x::xs,z,L,.cons r1 r2,q2⟩
def Wa (t:TA):TE:=fun σ H Q=>t σ H fun xs H1=>xs.length<=RW/\∀ p,H1 p=ξ->Q (.ref p) (upd H1 p (.tup xs))
def We (t:TA):TE:=fun σ H Q=>t σ H fun xs H1=>xs.length<=RW/\∀ p,H1 p=ξ->Q (.ref p) (upd H1 p (.lst xs))
end
abbrev Sp:=ad7->Hp->VK->XK->Prop
abbrev P6:=List Env->Hp->IF->XK->rW->IF->Prop
structure Env0 (P:Z9) (w:Zv) (K:aT) (mg:ad4) (base:abh) (A:aaF) (outer:List Env) (s:IF) (H:Hp):Prop where
 frames:A.frames=θ outer
 mod:Mod K mg base
 bs:∀ b o,base.get? b=θ o->s.heap.get? b=θ o/\H b=ξ
 bsz:base.objs.size<=s.heap.objs.size
 funs:s.heap.FunFrames base outer
 frf:∀ b∈HM outer,H b=ξ
 hok:l9 P w H s.heap
 bare:AllBare s.gens
def CE (g:List Env) (P:Z9) (w:Zv) (H:Hp) (s:IF) (Q:VK) (u:rW) (r:IF):Prop :=
 ∃ v H',r.os=s.os/\AllBare r.gens/\Un (HM g) [] H H' s.heap r.heap/\l9 P w H' r.heap/\aQ v u/\Q v H'
def CR (CX:P6) (g:List Env) (P:Z9) (w:Zv) (H:Hp) (s:IF) (Q:VK) (E:XK) (r:Result) (v:IF):Prop :=
 match r with
 | .ok (.ret u)=>CE g P w H s Q u v
 | .ok _=>False
 | .error e=>CX g H s E e v
structure FnOk (P:Z9) (w:Zv) (K:aT) (mg:ad4) (base:abh) (CX:P6) (k:Nat) (f:YS) (fd:aaS) (ps:ad1) (sp:Sp):Prop where
 len:∀ vs H Q E,sp vs H Q E->vs.length=ps.length
 run:∀ (A:aaF) (outer:List Env) (s:IF) (H:Hp) (args:Args) (us:ad6) (vs:ad7) (Q:VK) (E:XK),Room k A->Env0 P w K mg base A outer s H->BindsTo s fd args (ps.zip us)->aU vs us->sp vs H Q E ->
  ab9 (YN P w) A (.call (.ref f) args) (CR CX outer P w H s Q E) s
theorem FnOk.imp {K:aT} (F:FnOk P w K mg base CX k f fd ps sp)
  (h:∀ vs H Q E,sp' vs H Q E->sp vs H Q E):FnOk P w K mg base CX k f fd ps sp' :=
 ⟨fun vs H Q E q=>F.len vs H Q E (h _ _ _ _ q),fun A g s H r us vs Q E hr u hb hv hs=>F.run A g s H r us vs Q E hr u hb hv (h _ _ _ _ hs)⟩
theorem Env0.make {K:aT} (e:Env0 P w K mg base A outer s H) (C:YS) (us:ad6) (kw:List (Str×rW)) :
  Env0 P w K mg base (A.under (.builtin "type.__call__" ⟨.ref C::us,kw⟩)) outer s H:=⟨by first|exact e.frames|assumption,e.mod,e.bs,e.bsz,e.funs,e.frf,e.hok,e.bare⟩
theorem Env0.in1 {K:aT} (e:Env0 P w K mg base A outer s H) :
  Env0 P w K mg base A.in1 outer s H:=⟨e.frames,e.mod,e.bs,e.bsz,e.funs,e.frf,e.hok,e.bare⟩
section
variable {σ:St}
theorem Inv.env0 (I:Inv X af σ H s):Env0 X.prog X.w X.K X.mg X.base X.A X.stack s H :=
 ⟨I.ok.frames,I.ok.mod,I.bs,Le I.ok.bsz I.sz,I.stack,I.stkFree,I.hok,I.bare⟩
theorem Inv.after (I:Inv X af σ H s) (h:CE X.stack X.prog X.w H s Q u s') (ht:X.tn<=s'.toks:=by walk_at "tok"):EP X af σ Q u s':=by
 obtain ⟨v,H',os,C,un,L,r,q⟩:=h;obtain ⟨M,g,d,t,J⟩:=s';obtain rfl:J=s.os:=os;exact ⟨v,H',I.call un L C (fun b z=>absurd z (by simp)),r,q⟩
end
def Qj (sp:Sp) (g:ad7) (E:XK) (t:TA):TE:=fun σ H Q=>t σ H fun vs H1=>sp (vs++g) H1 Q E
def Q5 (C:YS) (sp:Sp) (r:ad7) (E:XK) (t:TA):TE:=fun σ H Q=>t σ H fun vs H1=>∀ x g,H1 x=ξ->H1 g=ξ->g≠x ->
 sp (.ref x::(vs++r)) (upd (upd H1 g (.own x)) x (.ins C g [])) (fun v u=>v=.non/\Q (.ref x) u) E
def gi (K:aT) (g:aaS) (ps:ad1) (ds:ad6):Prop :=
 ∀ (s:IF) (us:ad6),K.In s.heap->(us++ds).length=ps.length->BindsTo s g ⟨us,[]⟩ (ps.zip (us++ds))
theorem gi.all {K:aT} (h:∀ us:ad6,us.length=ps.length->bindArgs fd ⟨us,[]⟩=pure (ps.zip us)):gi K fd ps []:=fun s us _ g=>by
 rw [Y9] at g ⊢;exact .of_eq (h us g)
def qL (CX:P6) (X:Cx) (E:XK):Prop:=∀ (r:ad2) (σ:St) (H:Hp) (s:IF) (e:rW) (g:IF),Inv X r σ H s->CX X.stack H s E e g->X.xe e g
section
variable {p pos apos:Pos}
theorem Ga {σ:St} (F:FnOk X.prog X.w X.K X.mg X.base CX k f fd ps sp) (hr:Room k X.A) (hb:gi X.K fd ps ds) (v:aU dvs ds) (g:qL CX X E)
  (I:Inv X af σ H s) (r:aU vs us) (h:sp (vs++dvs) H Q E):YH (YN X.prog X.w) X.A (call (.ref f) us) (EP X af σ Q) X.xe s:=by
 have r2  := r.append v;have C:(us++ds).length=ps.length:=by rw [<- r2.length];exact F.len _ _ _ _ h
 refine wpAny_call (fM I.tk (abi (F.run X.A X.stack s H ⟨us,[]⟩ (us++ds) (vs++dvs) Q E hr I.env0 (hb s us I.kIn C) r2 h) fun r J hq z=>?_));cases r with
 | error e=>exact g af σ H s e J I hq
 | ok L =>
  cases L with
  | ret u=>exact I.after hq
  | next=>exact ZT hq
  | brk=>exact ZT hq
  | cont=>exact ZT hq
theorem FR (F:FnOk X.prog X.w X.K X.mg X.base CX k f fd ps sp) (hr:Room k X.A) (hg:Gl X x) (hm:X.mg x=θ (.ref f)) (v:aa5 X.K (.ref f)=ζ) (hb:gi X.K fd ps ds) (u:aU dvs ds) (r:qL CX X E)
  (g:ad9 x:=by decide):PE X (.Call (.Name x p) [] [] pos) (Qj sp dvs E Fh):=by
 intro z s σ H Q I h;refine Zh (kz I hg hm ?_ g);exact PySem.W.callWith_K0 I.kIn v (Ga F hr hb u r I .nil h)
structure Mk (K:aT) (C f:YS):Prop where
 makes:PySem.W.makesIn K C=ζ
 init:ZW K (.ref C) "__init__"=θ (θ (.ref f))
 fn:PySem.W.isFn K (.ref f)=ζ
 kp:aa5 K (.ref C)=ζ
theorem GO {σ:St} (M:Mk X.K C f) (F:FnOk X.prog X.w X.K X.mg X.base CX k f fd ps sp) (hr:Room (k+1) X.A) (hb:gi X.K fd ps ds) (hd:aU dvs ds)
  (Y:qL CX X E) (I:Inv X af σ H s) (r:aU vs us)
  (h:∀ x J,H x=ξ->H J=ξ->J≠x->sp (.ref x::(vs++dvs)) (upd (upd H J (.own x)) x (.ins C J [])) (fun v Z=>v=.non/\Q (.ref x) Z) E) :
  YH (YN X.prog X.w) X.A (call (.ref C) us) (EP X af σ Q) X.xe s:=by
 have hq:=h (s.heap.objs.size+1) s.heap.objs.size (I.hok.fresh (abw _)) (I.hok.fresh (oR _)) (YL (abO _));have z:=Inv.made (C:=C) I;have r2:aU (V.ref (s.heap.objs.size+1)::(vs++dvs)) (aab (s.heap.objs.size+1)::(us++ds)):=.cons rfl (r.append hd);have hl  := by
  have e:=r2.length;rw [F.len _ _ _ _ hq] at e;exact e.symm
 refine wpAny_call ((fun X hm hi L h=>by
   exact PySem.W.make_core (PySem.W.makes_of X hm) (PySem.W.looks_findIn X hi) (fun self=>PySem.W.bind_fn X self L) (.inl rfl) h) I.kIn M.makes M.init (beq_iff_eq.mp M.fn) (fM z.tk (abi (F.run _ X.stack _ _ ⟨aab (s.heap.objs.size+1)::us,[]⟩ (aab (s.heap.objs.size+1)::(us++ds)) _ _ E (hr.make C us [])
  (z.env0.make C us []) (hb _ (aab (s.heap.objs.size+1)::us) z.kIn hl) r2 hq) fun r s' g htk=>?_)))
 cases r with
 | error e=>exact Y af σ _ _ e s' z g
 | ok fl =>
  cases fl with
  | ret u =>
   let ⟨v,H',I3,rv,ev,q3⟩:=z.after g
   subst ev;exact ⟨rv,⟨V.ref (s.heap.objs.size+1),H',I3,rfl,q3⟩⟩
  | next=>exact ZT g
  | brk=>exact ZT g
  | cont=>exact ZT g
theorem Jb (M:Mk X.K C f) (F:FnOk X.prog X.w X.K X.mg X.base CX k f fd ps sp) (hr:Room (k+1) X.A) (hg:Gl X x) (hm:X.mg x=θ (.ref C)) (hb:gi X.K fd ps ds) (hd:aU dvs ds) (L:qL CX X E)
  (Y:PA X (e::es) t) (u:ad9 x:=by decide) (z:YI (e::es) X.env=(η,eval e X.env)::YI es X.env:=by rfl) (g:(aaa pos (YI es X.env)).any (·.1)=η:=by rfl) :
  PE X (.Call (.Name x p) (e::es) [] pos) (Q5 C sp dvs E t):=by
 intro J s σ H Q I h;refine Zh (kz I hg hm ?_ u);refine adh I.ok.mod.kin M.kp (bV (Y pos J s σ H _ I h) fun us s1 Z=>jC Z fun vs H1 v r q=>⟨v.kIn,?_⟩) z g;exact GO M F hr hb hd L v r q
end
def PK (X:Cx) (g:List aaQ) (t:TA):Prop :=
 ∀ (pos:Pos) (r:ad2) (s:IF) (σ:St) (H:Hp) (Q:ad7->Hp->Prop),Inv X r σ H s->t σ H Q->YH (YN X.prog X.w) X.A (evalAll ((backToKw pos (aaJ g X.env)).map (·.2))) (AP X r σ Q) X.xe s
section
variable {p pos apos:Pos}
def PN:PK X [] Fh:=fun _ _ _ _ H Q I h=>wpAny_evalAll_nil ⟨[],H,I,.nil,h⟩
theorem IX (v:PE X e te) (hr:PK X kws t):PK X (⟨nm,e,kpos⟩::kws) (tL te t):=by
 intro pos r s σ H Q I h;refine wpAny_evalAll_cons (bY (bV (v r s σ H _ I h) fun u C g=>jC g fun x H1 J r1 q1=>bY (wpAny_standAt (nE ?_))));exact bV (hr pos r C σ H1 _ J q1) fun us M g=>jC g fun xs z L r2 q2=>⟨x::xs,z,L,.cons r1 r2,q2⟩
end
structure FnScope (N P:ad1) (sc:Scope):Prop where
 kind:sc.kind=.function
 co:sc.isCoroutine=η
 gen:sc.isGenerator=η
 nd:N.Nodup
 pre:N.take P.length=P
 par:∀ x∈P,sc.names.lookup x=θ .local\/sc.names.lookup x=θ .cell
 nofree:∀ y∈sc.names,y.2≠.free
theorem sU {g:Str->Option abE}:∀ {binds:List (Str×rW)} {m:ad4},(∀ v,(x,v)∉binds)->bindL g binds m x=m x
 | [],_,_=>rfl
 | (n,v)::r,m,h=>by
  unfold bindL;rw [sU fun w hw=>h w (lT _ hw)];split
  .grind
  .rfl
theorem tK {g:Str->Option abE}:∀ {binds:List (Str×rW)} {m:ad4},(∀ v,(x,v)∉binds)->bindC g binds m x=m x
 | [],_,_=>rfl
 | (n,v)::r,m,h=>by
  unfold bindC;rw [tK fun w hw=>h w (lT _ hw)];split
  .rfl
  grind
theorem tJ {g:Str->Option abE}:∀ {P:ad1} {vs:ad6} {i:Nat} {m:ad4},P.Nodup->P[i]?=θ x->vs[i]?=θ v->g x=θ .local ->
  bindL g (P.zip vs) m x=θ v
 | [],_,_,_,_,h,_,_=>by simp at h
 | _::_,[],_,_,_,_,h,_=>by simp at h
 | p::P,w::vs,0,m,nd,h1,h2,hk=>by
  simp at h1 h2;subst h1;subst h2;show bindL g ((p,w)::P.zip vs) m p=_;unfold bindL;rw [sU fun v hv=>(YW.mp nd).1 (Za hv).1,adU hk];simp
 | p::P,w::vs,i+1,m,nd,h1,h2,hk=>by
  show bindL g ((p,w)::P.zip vs) m x=_;exact tJ (YW.mp nd).2 (by simpa using h1) (by simpa using h2) hk
theorem sT {g:Str->Option abE}:∀ {P:ad1} {vs:ad6} {i:Nat} {m:ad4},P.Nodup->P[i]?=θ x->vs[i]?=θ v->g x≠θ .local ->
  bindC g (P.zip vs) m x=θ v
 | [],_,_,_,_,h,_,_=>by simp at h
 | _::_,[],_,_,_,_,h,_=>by simp at h
 | p::P,w::vs,0,m,nd,h1,h2,hk=>by
  simp at h1 h2;subst h1;subst h2;show bindC g ((p,w)::P.zip vs) m p=_;unfold bindC;rw [tK fun v hv=>(YW.mp nd).1 (Za hv).1,adV hk];simp
 | p::P,w::vs,i+1,m,nd,h1,h2,hk=>by
  show bindC g ((p,w)::P.zip vs) m x=_;exact sT (YW.mp nd).2 (by simpa using h1) (by simpa using h2) hk
def start (N:ad1) (vs:ad7):St:=vs.map θ++aa6 (N.length - vs.length) ξ
noncomputable def wq (CX:P6) (P:Z9) (w:Zv) (K:aT) (mg:ad4) (base:abh) (N:ad1) (g:Str) (scope:Scope) (f:YS) (u:rW) (A:aaF) (outer:List Env) (s:IF) (H:Hp) (E:XK):Cx where
 prog:=P
 w:=w
 K:=K
 mg:=mg
 base:=base
 A:=A.deeper (ac0 g scope s.heap.objs.size f u)
 N:=N
 s₀:=s
 H₀:=H
 env:=ac0 g scope s.heap.objs.size f u
 outer:=outer
 stack:=ac0 g scope s.heap.objs.size f u::outer
 ex:=[]
 calm:=ζ
 fn:=fun _=>ζ
 pn:=[]
 xe:=fun e z=>YH (YN P w) (A.deeper (ac0 g scope s.heap.objs.size f u)) (leaving (ac0 g scope s.heap.objs.size f u) e) (fun _ r=>CX outer H s E e r) (fun v r=>CX outer H s E v r) z
theorem xG {g:Scope} (h:g.names.lookup x=θ .cell):∃ c,(cellsFrom n g.names []).lookup x=θ c:=by
 have q:=acC g.names n [] (.inl h);exact acg.mp q
theorem B3 {K:aT}
  (S:FnScope N ps scope) (hd:A.handled=ξ) (g:Env0 P w K mg base A outer s H) (hl:vs.length=ps.length) (r:aU vs us)
  (x:InCallC s s.heap.objs.size (bindL (ac0 qual scope s.heap.objs.size f cd).kindOf (ps.zip us) fun _=>ξ) (cellsFrom (s.heap.objs.size+1) scope.names []) (bindC (ac0 qual scope s.heap.objs.size f cd).kindOf (ps.zip us) fun _=>ξ) s1) :
  Inv (wq CX P w K mg base N qual scope f cd A outer s H E) [] (start N vs) H s1:=by
 have Y:ps.length<=N.length:=by have:=adZ List.length S.pre;rw [Zx] at this;lia
 obtain ⟨h1,tk,rfl,M⟩:=x.done;have C:∀ b:YS,b∉(wq CX P w K mg base N qual scope f cd A outer s H E).ex:=fun b z=>absurd (show b∈([]:ad5) from z) (by simp);refine ⟨⟨g.mod,S.kind,rfl,rfl,oR _,fun y z c h1 h2=>?_,fun y hy=>?_,fun y c _ h=>?_,fun _=>hd,Around.frames_deeper g.frames,.inr ⟨rfl,rfl⟩,fun b z=>absurd z (C b),g.bs,g.bsz,fun b _ _=>C b,fun b z=>absurd z (C b),g.funs,g.frf⟩,
  rfl,g.bare,Un.kept M,⟨_,x.toInCall.ns,fun i y v h1 h2 h3=>?_⟩,fun y c h=>⟨_,x.cell y c h⟩,g.hok.fresh (oR _),fun y c h=>?_,fun p J=>absurd (show p∈([]:ad2) from J) (by simp),g.hok.kept M,?_,YJ _⟩
 .exact name_of_addr x.apart (aac h1) (aac h2)
 .have hy:scope.names.lookup y=θ .cell\/scope.names.lookup y=θ .free:=hy;rcases hy with hy|hy
  .exact xG hy
  .exact absurd rfl (S.nofree _ (aac hy))
 .exact adz (x.above y c (aac h))
 .have L:i < vs.length:=by
   unfold start at h2;by_cases L:i < vs.length
   .exact L
   .rw [aaj (by simpa using L)] at h2;rw [acq] at h2;split at h2 <;> cases h2
  have Z:vs[i]?=θ v:=by
   unfold start at h2;rw [aaq (by simpa using L),Zk] at h2;cases e:vs[i]? with
   | none=>rw [e] at h2;cases h2
   | some a=>rw [e] at h2;cases h2;rfl
  let ⟨u,hu,rv⟩:=r.get Z
  have J:ps[i]?=θ y:=by
   rw [<- S.pre,List.getElem?_take_of_lt (by lia)];exact h1
  have I:ps.Nodup:=by rw [<- S.pre];exact S.nd.sublist (adp _ _)
  refine ⟨u,rv,?_⟩;rcases S.par y (YO J) with k|k
  .exact .inl ⟨k,tJ I J hu k⟩
  .obtain ⟨c,e⟩:=xG k;refine .inr ⟨.inl k,c,e,?_⟩;have q:=x.cell y c e;rw [sT I J hu (by show scope.names.lookup y≠_;rw [k];decide)] at q;exact q
 .exact g.hok.fresh (adz (x.above y c (aac h)))
 .unfold start;show _=N.length;simp_all
theorem S3 {K:aT} {dV kV Z pm z ct oc:rW}
  (lk:K.lookup f=θ ⟨oc,od,.func (aaD name qual params body scope dV kV Z pm an z ct),osl⟩) (hcd:abC K z qual=ζ) (S:FnScope N ps scope)
  (len:∀ vs H Q E,sp vs H Q E->vs.length=ps.length)
  (L:∀ (A:aaF) (g:List Env) (s:IF) (H:Hp) (vs:ad7) (Q:VK) (E:XK),Room k (A.deeper (ac0 qual scope s.heap.objs.size f z))->sp vs H Q E ->
   ∃ t,Io (wq CX P w K mg base N qual scope f z A g s H E) body t/\t { nx:=fun _ H'=>Q .non H',rt:=Q } (start N vs) H) :
  FnOk P w K mg base CX (k+1) f (aaD name qual params body scope dV kV Z pm an z ct) ps sp:=by
 refine ⟨len,fun A g s H args us vs Q E hr Y hb r hsp=>?_⟩;have hl:=len _ _ _ _ hsp;have KX  := Y.mod.kin.keeps fun b o e=>(Y.bs b o e).1;have lim  := Y.mod.nolimit.keeps fun b o e=>(Y.bs b o e).1;have M:∀ y∈ps.zip us,scope.names.lookup y.1=θ .local\/(scope.names.lookup y.1=θ .cell/\((cellsFrom (s.heap.objs.size+1) scope.names []).lookup y.1).isSome=ζ):=fun ⟨n,v⟩ hy=>by
  rcases S.par n (Za hy).1 with q|q
  .exact .inl q
  .exact .inr ⟨q,acC _ _ _ (.inl q)⟩
 refine codeAny_call_function hr.depth (KX _ _ lk) rfl S.co S.gen rfl (PySem.W.codeRec_of KX hcd) (hb _ _ _ _ ?_);refine wpAny_newFunctionEnv_cells S.kind M fun env he s1 x=>?_;subst he;refine ⟨lim.keeps x.toInCall.keep,codeAny_func ?_⟩;obtain ⟨t,ht,hq⟩:=L A g s H vs Q E (hr.deeper _) hsp;have I:Inv (wq CX P w K mg base N qual scope f z A g s H E) [] (start N vs) H s1:=B3 S hr.hd Y hl r x;refine Zm (ht [] s1 (start N vs) H _ I hq) (fun fl s' hs=>?_) fun e s' hs=>hs;have fin:∀ {C:St} {H':Hp} {v:V} {u:rW},Inv (wq CX P w K mg base N qual scope f z A g s H E) [] C H' s'->aQ v u->Q v H'->CE g P w H s Q u s' :=
  fun {C H' v u} J rv q=>⟨v,H',J.os,J.bare,J.base,J.hok,rv,q⟩
 cases fl with
 | ret u =>
  obtain ⟨v,C,H',J,rv,q⟩:=hs;exact fin J rv q
 | next =>
  obtain ⟨C,H',J,q⟩:=hs;exact fin (v:=V.non) J rfl q
 | brk =>
  obtain ⟨_,_,_,q⟩:=hs;exact ZT q
 | cont =>
  let ⟨_,_,_,q⟩:=hs
  exact ZT q
section
variable {p pos:Pos} {id:String}
def P7 (r:ad7->Hp->VK->Prop) (t:TA):TE:=fun σ H Q=>t σ H fun vs H1=>r vs H1 Q
theorem Ho (Y:bD X (.builtin id) r) (hg:Gl X x) (hm:X.mg x=ξ) (hv:YT x=θ (.builtin id)) (C:PA X (e::es) t) (hn:x≠"__name__":=by decide) (u:ad9 x:=by decide)
  (z:YI (e::es) X.env=(η,eval e X.env)::YI es X.env:=by rfl) (g:(aaa pos (YI es X.env)).any (·.1)=η:=by rfl):PE X (.Call (.Name x p) (e::es) [] pos) (P7 r t):=by
 intro v s σ H Q I h;refine Zh (gI I hg hm hv ?_ hn u);exact aaE (bV (C pos v s σ H _ I h) fun us L J=>jC J fun vs H1 M r1 q1=>Y v L σ H1 vs us Q M r1 q1) z g
theorem BZ (Y:bD X (.type T) r) (hg:Gl X x) (hm:X.mg x=ξ) (hv:YT x=θ (.type T)) (C:PA X (e::es) t) (hn:x≠"__name__":=by decide) (u:ad9 x:=by decide)
  (z:YI (e::es) X.env=(η,eval e X.env)::YI es X.env:=by rfl) (g:(aaa pos (YI es X.env)).any (·.1)=η:=by rfl):PE X (.Call (.Name x p) (e::es) [] pos) (P7 r t):=by
 intro v s σ H Q I h;refine Zh (gI I hg hm hv ?_ hn u);exact Zw (bV (C pos v s σ H _ I h) fun us L J=>jC J fun vs H1 M r1 q1=>Y v L σ H1 vs us Q M r1 q1) z g
end
end L2
namespace HT
open PySem PyProof.Rows
section
variable {prog:Z9} {w:Zv} {A:aaF} {E:ad3} {s:IF}
theorem KH (ht:adx s.heap t vs.toArray) (hb:adx s.heap b ws.toArray) (hv:vs≠[])
  (h1:ws=[]->Q (.ref t) s) (h2:ws≠[]->Q (.ref s.heap.objs.size) { s with heap:=s.heap.push { cls:=.type "tuple",data:=.seq (vs++ws).toArray } })
  (hsz:vs.length+ws.length<=RW):YH (YN prog w) A (Z7 .Add (.ref t) (.ref b)) Q E s:=by
 let ⟨⟨cls,dd,data,sl⟩,ho,hc,n,hd⟩:=id ht
 let ⟨⟨cls2,dd2,data2,sl2⟩,ho2,hc2,n2,hd2⟩:=id hb
 subst hc hd hc2 hd2;have e:vs.toArray++ws.toArray=(vs++ws).toArray:=by simp
 by_cases hw:ws=[]
 .exact concat_meets ⟨_,ho,rfl⟩ ⟨_,ho2,rfl⟩ noFill_tuple_add seq_tuple_add abv abn (abf _ _)
   (tuple_addW1 t b vs.toArray ws.toArray n n2 dd dd2 sl sl2 (by simpa using hv) (by simp [hw])) ⟨ho,ho2,h1 hw⟩
 .refine concat_meets ⟨_,ho,rfl⟩ ⟨_,ho2,rfl⟩ noFill_tuple_add seq_tuple_add abv abn (abf _ _)
   (tuple_addW2 t b vs.toArray ws.toArray n n2 dd dd2 sl sl2 (by simpa using hv) (by simpa using hw) (by assumption)) ⟨ho,ho2,?_⟩
  rw [e];exact h2 hw
noncomputable def sIx (n d:Nat):Option Int->Nat
 | none=>d
 | some v=>if v < 0 then (v+(n:Int)).toNat else min v.toNat n
def j9 (n d:Nat):sIx n d ξ=d:=rfl
theorem gu (n d k:Nat):sIx n d (θ (k:Int))=min k n:=by
 rfl
theorem y8 (n d:Nat) (g:d<=n) (o:Option Int):sIx n d o<=n:=by
 cases o with
 | none=>exact g
 | some v =>
  show (if v < 0 then (v+n).toNat else min v.toNat n)<=n
  grind
theorem Bp (v:Int) (n d:Nat):(if v < 0 then max (v+(n:Int)) 0 else min v (n:Int))=((sIx n d (θ v):Nat):Int):=by
 show (if v < 0 then max (v+n) 0 else min v n)=(((if v < 0 then (v+n).toNat else min v.toNat n)))
 grind
theorem yr (lo g:Option Int) (n:Nat):ab6 lo g 1 (n:Int)=(((sIx n 0 lo:Nat):Int),((sIx n n g:Nat):Int)):=by
 refine Prod.ext ?_ ?_
 .cases lo with
  | none=>rfl
  | some v=>exact Bp v n 0
 .cases g with
  | none=>rfl
  | some v=>exact Bp v n n
theorem yZ (i j:Nat):aar (i:Int) (j:Int) 1=j - i:=by
 unfold aar
 grind
theorem pV (p:IsPart v o) (h:Q o s):YH (YN prog w) A (Builtin.Slice.slicePartIndex v) Q E s:=by
 cases p with
 | none=>exact slicePart_none h
 | int i t=>exact slicePart_int h
theorem iH {lo g:Option Int} {n:Nat} (hs:s.heap.IsSliceOf sl vl vu .none) (pl:IsPart vl lo) (r:IsPart vu g)
  (h:Q (((sIx n 0 lo:Nat):Int),1,sIx n n g - sIx n 0 lo) s):YH (YN prog w) A (Builtin.Slice.sliceApplied (.ref sl) (pure (n:Int))) Q E s:=by
 let ⟨os,hos,hcs,hds⟩:=id hs
 refine bY (bY (ZR hos hds rfl (bY (ZR hos hds rfl (bY (ZR hos hds rfl (nE ?_)))))));refine bY (slicePart_none ?_);refine bY (pV pl (bY (pV r (bY (nE ?_)))));show YH _ _ (match ab6 lo g 1 n with|(lo,g)=>pure (lo,(1:Int),aar lo g 1)) _ _ s
 rw [yr lo g n];show YH _ _ (pure (((sIx n 0 lo):Int),1,aar ((sIx n 0 lo)) ((sIx n n g)) 1)) _ _ s;rw [yZ];exact nE h
theorem GL (xs:Array rW) (i k:Nat):((YV k).filterMap fun (m:Nat)=>xs[((i:Int)+(m:Int)*1).toNat]?).toArray=((xs.toList.drop i).take k).toArray:=by
 have e:(fun (m:Nat)=>xs[((i:Int)+m*1).toNat]?)=fun m=>xs[i+m]?:=by
  grind
 rw [e]
 have:=pick_run xs i k
 rw [List.filterMap_map] at this;have g:((fun x=>xs[x]?) ∘ fun x=>i+x)=fun m=>xs[i+m]?:=rfl;rw [g] at this;rw [this]
theorem mO {lo r:Option Int} (ht:adx s.heap t items) (hs:s.heap.IsSliceOf sl vl vu .none) (pl:IsPart vl lo) (z:IsPart vu r)
  (hw:¬ (sIx items.size 0 lo=0/\sIx items.size items.size r=items.size))
  (h:Q (.ref s.heap.objs.size) { s with heap:=s.heap.push { cls:=.type "tuple",data:=.seq ((items.toList.drop (sIx items.size 0 lo)).take (sIx items.size items.size r - sIx items.size 0 lo)).toArray } })
  (hsz:items.size<=RW):YH (YN prog w) A (aca (.ref t) (.ref sl)) Q E s:=by
 have g:sizeOk (.seq ((items.toList.drop (sIx items.size 0 lo)).take (sIx items.size items.size r - sIx items.size 0 lo)).toArray):=by
  show ((items.toList.drop (sIx items.size 0 lo)).take (sIx items.size items.size r - sIx items.size 0 lo)).toArray.size<=RW;rw [YC,Zx,aaK,abd];lia
 have C:sIx items.size items.size r<=items.size:=y8 _ _ (oR _) r;let ⟨os,hos,hcs,hds⟩:=id hs
 have u:s.TypeIs (.ref sl) "slice":=⟨os,hos,hcs⟩;unfold aca;try with_reducible refine ZI ?_
 first|refine bY (nE ?_)|skip
 refine bY (wpAny_sequenceKey ht.typeIs (by decide) ?_);refine bY (Zr (name:=DO "__getitem__") ht.typeIs Zl
  (Zf Zl ht.typeIs entry_tuple_getitem ?_ (args_tuple_getitem _ _)))
 show YH _ _ (ab2 (.ref t) >>= _) _ _ s;refine bY (tupleItemsOf_ ht ?_);refine bY (acR u ?_);rw [adU (by decide)];refine bY (iH hs pl z ?_);have v:¬ ((((sIx items.size 0 lo:Nat):Int)==0&&(1:Int)==1&&(sIx items.size items.size r - sIx items.size 0 lo)==items.size)=ζ):=by
  intro q;rw [YR,YR] at q;have q1:((sIx items.size 0 lo:Nat):Int)=0:=eq_of_beq q.1.1;have q2:sIx items.size items.size r - sIx items.size 0 lo=items.size:=eq_of_beq q.2;exact hw ⟨by lia,by lia⟩
 show YH _ _ (if (((sIx items.size 0 lo:Nat):Int)==0&&(1:Int)==1&&(sIx items.size items.size r - sIx items.size 0 lo)==items.size)=ζ then _ else _) _ _ s;rw [adV v,GL]
 first
  | exact bY (m:=abg _) (Zz (nE ⟨_,rfl,nE h⟩) g)
  | exact bY (m:=abg _) (Zz (bY (nE (nE ⟨_,rfl,nE h⟩))) g)
  | exact bY (bY (m:=abg _) (Zz (nE (nE ⟨_,rfl,nE h⟩)) g))
  | grind
end
end HT
namespace L2
open PySem PySem.Spec PyProof.Rows
abbrev TO:=St->Hp->(Option Int->Hp->Prop)->Prop
def PO (X:Cx) (e:Option Zq) (t:TO):Prop :=
 ∀ (g:ad2) (s:IF) (σ:St) (H:Hp) (Q:Option Int->Hp->Prop),Inv X g σ H s->t σ H Q ->
  YH (YN X.prog X.w) X.A (evalPart e X.env) (fun u r=>∃ o H',Inv X g σ H' r/\IsPart u o/\Q o H') X.xe s
def KO:TO:=fun _ H Q=>Q ξ H
section
variable {lo:Option Zq}
def x6 (X:Cx) (r:V->Option Int->Option Int->Hp->VK->Prop):Prop :=
 ∀ (C:ad2) (s:IF) (σ:St) (H:Hp) (x:V) (v z u:rW) (lo I:Option Int) (g:YS) (Q:VK),Inv X C σ H s->aQ x v->s.heap.IsSliceOf g z u .none->IsPart z lo->IsPart u I->r x lo I H Q ->
  ∃ T id,typeLookup (.type T) "__getitem__"=pure (θ (.builtin id))/\s.TypeIs v T/\YH (YN X.prog X.w) X.A (aca v (.ref g)) (EP X C σ Q) X.xe s
theorem x6.or (h:x6 X r) (h':x6 X r'):x6 X (fun x lo g H Q=>r x lo g H Q\/r' x lo g H Q):=by
 intro z s σ H x v M L lo g C Q I J hs pl u q;rcases q with q|q
 .exact h z s σ H x v M L lo g C Q I J hs pl u q
 .exact h' z s σ H x v M L lo g C Q I J hs pl u q
def tSl (r:V->Option Int->Option Int->Hp->VK->Prop) (te:TE) (g z:TO):TE:=fun σ H Q=>te σ H fun x H1=>g σ H1 fun l v=>z σ v fun u C=>r x l u C Q
def xW (xs:ad7) (lo g:Option Int):ad7:=(xs.drop (HT.sIx xs.length 0 lo)).take (HT.sIx xs.length xs.length g - HT.sIx xs.length 0 lo)
theorem oi (xs:ad7) (lo g:Option Int):(xW xs lo g).length<=xs.length:=by
 unfold xW
 grind
def WM (K:aT):V->Option Int->Option Int->Hp->VK->Prop:=fun x lo g H Q=>∃ a xs,x=.ref a/\gU K H a xs /\
 ¬ (HT.sIx xs.length 0 lo=0/\HT.sIx xs.length xs.length g=xs.length)/\∀ p,H p=ξ->Q (.ref p) (upd H p (.tup (xW xs lo g)))
def PY:x6 X (WM X.K):=by
 intro L s σ H x v Z Y lo u M Q I J hs pl z h;obtain ⟨a,xs,rfl,C,hw,q⟩:=h;cases J;let ⟨its,r,ht,hz⟩:=I.tuple C
 have g:its.toArray.size=xs.length:=by exact r.length.symm
 refine ⟨"tuple",_,Zl.lookup,ht.typeIs,?_⟩;refine HT.mO ht hs pl z (by rw [g];exact hw) ?_ (by grind);rw [g];refine ⟨.ref s.heap.objs.size,_,I.laid (fun b ob q=>eQ _ q) (oR _) ?_,rfl,q _ (I.hok.fresh (oR _))⟩;exact ⟨Le (oi xs lo u) hz,_,(r.drop (HT.sIx xs.length 0 lo)).take (HT.sIx xs.length xs.length u - HT.sIx xs.length 0 lo),IsTup.new _ _⟩
def Q2 (K:aT):R2:=fun x y H Q=>∃ a b xs ys,x=.ref a/\y=.ref b/\gU K H a xs/\gU K H b ys/\xs≠[]/\xs.length+ys.length<=RW /\
 (ys=[]->Q (.ref a) H)/\(ys≠[]->∀ p,H p=ξ->Q (.ref p) (upd H p (.tup (xs++ys))))
theorem aU.nil_iff (r:aU xs us):us=[] ↔ xs=[]:=by
 cases r with
 | nil=>simp
 | cons _ _=>simp
def KU:dh X (Z7 .Add) (Q2 X.K):=by
 intro L s σ H x y v u Q I C J h;obtain ⟨a,b,xs,ys,rfl,rfl,g,hb,r,hz,q1,q2⟩:=h;cases C;cases J;let ⟨its,r1,p1,_⟩:=I.tuple g
 let ⟨its2,r2,p2,_⟩:=I.tuple hb
 refine HT.KH p1 p2 (fun z=>r (r1.nil_iff.mp z)) (fun z=>⟨.ref a,H,I,rfl,q1 (r2.nil_iff.mp z)⟩) (fun z=>?_) (by rw [<- r1.length,<- r2.length];exact hz);refine ⟨.ref s.heap.objs.size,_,I.laid (fun b ob q=>eQ _ q) (oR _) ?_,rfl,q2 (fun w=>z (r2.nil_iff.mpr w)) _ (I.hok.fresh (oR _))⟩;exact ⟨by simp_all,_,r1.append r2,IsTup.new _ _⟩
end
noncomputable def Ka (n:Nat) (i:Int):Option Nat:=if 0<=i then (if i < n then θ i.toNat else ξ) else if -(n:Int)<=i then θ (i+n).toNat else ξ
def atI {α:Type} (xs:List α) (i:Int):Option α:=(Ka xs.length i).bind fun j=>xs[j]?
theorem Kl (h:Ka n i=θ j):seqIndex? i n=θ j/\j < n/\-(n:Int)<=i/\i < n:=by
 unfold Ka at h;by_cases g:0<=i
 .rw [adU g] at h;by_cases h1:i < n
  .rw [adU h1] at h;have e  := ZY h;exact ⟨by rw [seqIndex_of g h1,e],by lia,by lia,h1⟩
  grind
 .rw [adV g] at h;by_cases h1:-n<=i
  .rw [adU h1] at h;have e  := ZY h;exact ⟨by rw [seqIndex_neg (by lia) h1,e],by lia,h1,by lia⟩
  grind
theorem uZ {xs:List α} {v:α} (h:atI xs i=θ v):∃ j,seqIndex? i xs.length=θ j/\xs[j]?=θ v/\j < xs.length/\-(xs.length:Int)<=i/\i < xs.length:=by
 unfold atI at h;cases e:Ka xs.length i with
 | none=>rw [e] at h;cases h
 | some j =>
  rw [e] at h;let ⟨h1,h2,h3,h4⟩:=Kl e
  exact ⟨j,h1,h,h2,h3,h4⟩
theorem bM {xs:List α} {j:Nat} {v:α} (h:xs[j]?=θ v):atI xs (j:Int)=θ v:=by
 have hj  := (K2.mp h).1;have e:Ka xs.length j=θ j:=by
  unfold Ka;simp_all
 unfold atI;rw [e];exact h
def pM (b:Zq):Prop:=∀ o i,subscripted b η o i=operate [o,i] (aca o i)
def CA (X:Cx) (r:R2):Prop :=
 ∀ (value g:Zq) (z:ad2) (s:IF) (σ:St) (H:Hp) (x y:V) (v u:rW) (Q:VK),Inv X z σ H s->aQ x v->aQ y u->r x y H Q ->
  subscripted g η v u=operate [v,u] (aca v u)->YH (YN X.prog X.w) X.A (subscriptTail value g v u) (EP X z σ Q) X.xe s
def Qq (X:Cx) (id:String) (r:V->ad7->Hp->VK->Prop):Prop :=
 ∀ (g:ad2) (s:IF) (σ:St) (H:Hp) (x:V) (xs:ad7) (v:rW) (us:ad6) (Q:VK),Inv X g σ H s->aQ x v->aU xs us->r x xs H Q ->
  YH (YN X.prog X.w) X.A (call (.builtin id) (v::us)) (EP X g σ Q) X.xe s
section
variable {X:Cx} {a b:Zq} {ta tb:TE} {pos:Pos}
theorem CA.or (h:CA X r) (h':CA X r'):CA X (fun x y H Q=>r x y H Q\/r' x y H Q):=by
 intro value g z s σ H x y v u Q I J C q hs;rcases q with q|q
 .exact h value g z s σ H x y v u Q I J C q hs
 .exact h' value g z s σ H x y v u Q I J C q hs
def QA (K:aT):R2:=fun x y H Q=>∃ p xs i v,x=.ref p/\y=.int i/\eV K H p xs/\atI xs i=θ v/\Q v H
def TU (K:aT):R2:=fun x y H Q=>∃ p xs i v,x=.ref p/\y=.int i/\gU K H p xs/\atI xs i=θ v/\Q v H
def W5:R2:=fun x y H Q=>∃ z i c,x=.str z/\y=.int i/\z.length<=RW/\atI z.cps.toList i=θ c/\Q (.str ⟨#[c]⟩) H
def Ky:CA X (QA X.K):=by
 intro value g L s σ H x y v u Q I M Y h hs;obtain ⟨p,xs,i,z,rfl,rfl,hq,J,q⟩:=h;cases M;obtain ⟨t,rfl⟩:=Y;let ⟨its,r,pl,hz⟩:=I.list hq
 let ⟨j,h1,h2,h3,h4,h5⟩:=uZ J
 let ⟨w,ew,rw'⟩:=r.get h2
 have Z:=r.length;have hn:=n5;have fin:EP X L σ Q w s:=⟨z,H,I,rw',q⟩;by_cases C:0<=i
 .have hj  := by
   rw [seqIndex_of C h5] at h1;exact ZY h1
  exact item_listR pl.isList C (by lia) (by grind) fin hs
 .have hj:(i+its.toArray.size).toNat=j:=by
   rw [seqIndex_neg (by lia) h4] at h1
   grind
  exact subscriptTail_builtinR pl.isList.typeIs slot_list_getitem.lookup
   (wpAny_getItem_list_neg pl.isList (by lia) (by simp_all) (by lia) (by grind) ⟨rfl,fin⟩) hs
def Po:CA X (TU X.K):=by
 intro value g J s σ H x y v u Q I L M h hs;obtain ⟨p,xs,i,z,rfl,rfl,hq,C,q⟩:=h;cases L;obtain ⟨t,rfl⟩:=M;let ⟨its,r,pl,hz⟩:=I.tuple hq
 let ⟨j,h1,h2,h3,h4,h5⟩:=uZ C
 let ⟨w,ew,rw'⟩:=r.get h2
 have Y:=r.length;have hn:=n5;have fin:EP X J σ Q w s:=⟨z,H,I,rw',q⟩;exact subscriptTail_builtinR pl.typeIs slot_tuple_getitem.lookup
  (getItem_tuple (j:=j) pl (by lia) (by lia) (by grind) (by simpa using ew) ⟨rfl,fin⟩) hs
def rIx (K:aT):R2:=fun x y H Q=>QA K x y H Q\/TU K x y H Q\/W5 x y H Q
def OP:CA X (rIx X.K):=Ky.or (Po.or (by
  intro value g L s σ H x y v u Q I C J h hs;obtain ⟨z,i,c,rfl,rfl,hz,r,q⟩:=h;obtain ⟨t,rfl⟩:=C;obtain ⟨t',rfl⟩:=J;let ⟨j,h1,h2,h3,h4,h5⟩:=uZ r
  have M:z.cps.toList.length=z.length:=by rfl
  have hn:=n5;exact tail_any (typeIs_str s z t) slot_str_getitem.lookup (getItem_str (by
   grind) (by grind) ⟨.str ⟨#[c]⟩,H,I.tok _,⟨_,rfl⟩,q⟩) hs))
theorem uB (lo g:Option Int) (n:Nat):(abB lo g ξ n).1=((HT.sIx n 0 lo:Nat):Int)/\(abB lo g ξ n).2.1=((HT.sIx n n g:Nat):Int)/\(abB lo g ξ n).2.2=1:=by
 refine ⟨?_,?_,rfl⟩
 .cases lo with
  | none=>rfl
  | some i =>
   simp only [abB,HT.sIx,adC,show 1 > 0 by decide,if_true]
   grind
 .cases g with
  | none=>rfl
  | some i =>
   simp only [abB,HT.sIx,adC,show (1:Int) > 0 by decide,if_true];by_cases h:i < 0
   .simp only [h,if_true] <;> lia
   grind
theorem sF (its:ad6) (lo g:Option Int):slicePick its.toArray lo g ξ=((its.drop (HT.sIx its.length 0 lo)).take (HT.sIx its.length its.length g - HT.sIx its.length 0 lo)).toArray:=by
 obtain ⟨h1,h2,r⟩:=uB lo g its.toArray.size;unfold slicePick;rw [h1,h2,r];simp only [sliceRange_one,pick_run,YC] <;> rfl
def Ww (K:aT):V->Option Int->Option Int->Hp->VK->Prop:=fun x lo g H Q=>∃ a xs,x=.ref a/\eV K H a xs/\∀ p,H p=ξ->Q (.ref p) (upd H p (.lst (xW xs lo g)))
def IE:x6 X (Ww X.K):=by
 intro L s σ H x v Z Y lo u M Q I J hs pl z h;obtain ⟨a,xs,rfl,C,q⟩:=h;cases J;let ⟨its,r,ht,hz⟩:=I.list C
 have g:=r.length;refine ⟨"list",_,slot_list_getitem.lookup,ht.isList.typeIs,?_⟩;refine wpAny_getItem_list_slice ht.isList hs pl z .none (by simp) ?_ (by simp_all);rw [sF,<- g];refine ⟨.ref s.heap.objs.size,_,I.laid (fun b ob q=>eQ _ q) (oR _) ?_,rfl,q _ (I.hok.fresh (oR _))⟩;exact ⟨Le (oi xs lo u) hz,_,0,(r.drop (HT.sIx xs.length 0 lo)).take (HT.sIx xs.length xs.length u - HT.sIx xs.length 0 lo),BY _ rfl⟩
def fU:V->Bool
 | .non=>ζ
 | .bl _=>ζ
 | .int _=>ζ
 | .str _=>ζ
 | _=>η
noncomputable def eqV:V->V->Bool
 | .non,.non=>ζ
 | .bl a,.bl b=>a==b
 | .bl a,.int b=>(if a then 1 else 0)==b
 | .int a,.bl b=>a==(if b then 1 else 0)
 | .int a,.int b=>a==b
 | .str a,.str b=>a==b
 | _,_=>η
theorem MN (r:aQ y u) (g:aQ x v) (C:fU y=ζ) (z:fU x=ζ):adq A s u v (eqV y x):=by
 cases y with
 | non =>
  cases r;cases x with
  | non=>cases g;exact adI _
  | bl b=>cases g;exact SeqAt.EqAt.none_bool b
  | int b=>obtain ⟨t,rfl⟩:=g;exact ac3 b t
  | str b=>obtain ⟨t,rfl⟩:=g;exact ac4 b t
  | _=>exact absurd (show η=ζ from z) By
 | bl a =>
  cases r;cases x with
  | non=>cases g;exact SeqAt.EqAt.bool_none a
  | bl b=>cases g;exact SeqAt.EqAt.bool_bool a b
  | int b=>obtain ⟨t,rfl⟩:=g;exact SeqAt.EqAt.bool_int a b t
  | str b=>obtain ⟨t,rfl⟩:=g;exact SeqAt.EqAt.bool_str a b t
  | _=>exact absurd (show η=ζ from z) By
 | int a =>
  obtain ⟨t',rfl⟩:=r;cases x with
  | non=>cases g;exact ac1 a t'
  | bl b=>cases g;exact SeqAt.EqAt.int_bool a t' b
  | int b=>obtain ⟨t,rfl⟩:=g;exact SeqAt.EqAt.int_int a t' b t
  | str b=>obtain ⟨t,rfl⟩:=g;exact ade a t' b t
  | _=>exact absurd (show η=ζ from z) By
 | str a =>
  obtain ⟨t',rfl⟩:=r;cases x with
  | non=>cases g;exact ac2 a t'
  | bl b=>cases g;exact SeqAt.EqAt.str_bool a t' b
  | int b=>obtain ⟨t,rfl⟩:=g;exact adf a t' b t
  | str b=>obtain ⟨t,rfl⟩:=g;exact SeqAt.EqAt.str_str a t' b t
  | _=>exact absurd ((z)) By
 | _=>exact absurd ((C)) By
def vT (x:V) (u:rW):Bool:=match u with
 | .none=>eqV .non x
 | .bool b=>eqV (.bl b) x
 | .int i _=>eqV (.int i) x
 | .str z _=>eqV (.str z) x
 | _=>η
theorem u9 (r:aQ y u) (f:fU y=ζ):vT x u=eqV y x:=by
 cases y with
 | non=>cases r;rfl
 | bl b=>cases r;rfl
 | int i=>obtain ⟨t,rfl⟩:=r;rfl
 | str z=>obtain ⟨t,rfl⟩:=r;rfl
 | _=>exact absurd ((f)) By
theorem mV:∀ {xs:ad7} {us:ad6},aU xs us->xs.all fU=ζ->us.any (vT x)=xs.any fun y=>eqV y x
 | _,_,.nil,_=>rfl
 | y::xs,u::us,.cons r t,f=>by
  rw [ZX,YR] at f;rw [adi,adi,u9 r f.1,mV t f.2]
theorem iL (C:aQ x v) (z:fU x=ζ):∀ {xs:ad7} {us:ad6},aU xs us->xs.all fU=ζ->∀ u∈us,adq A s u v (vT x u)
 | _,_,.nil,_=>fun u g=>by cases g
 | y::xs,u::us,.cons r t,f=>fun I g=>by
  rw [ZX,YR] at f;rcases mK.mp g with rfl|g
  .rw [u9 r f.1];exact MN r C f.1 z
  .exact iL C z t f.2 I g
def Hl (x:V) (xs:ad7):Bool:=xs.any fun y=>eqV y x
def XY (K:aT) (neg:Bool):R2:=fun x y H Q=>∃ p xs,y=.ref p/\(eV K H p xs\/gU K H p xs)/\fU x=ζ/\xs.all fU=ζ/\Q (.bl (if neg then !Hl x xs else Hl x xs)) H
def Db:dh X (YX .In) (XY X.K η):=by
 intro J s σ H x y v u Q I z C h;obtain ⟨p,xs,rfl,hq,g,fs,q⟩:=h;cases C;rcases hq with hq|hq
 .let ⟨its,r,pl,hz⟩:=I.list hq
  refine SeqAt.in_listAt (vT x) pl.isList (fun w hw=>iL z g r fs w (by simpa using hw)) ⟨.bl _,H,I,rfl,?_⟩;rw [show its.toArray.any (vT x)=its.any (vT x) by simp,mV r fs];exact q
 .obtain ⟨its,r,pl,hz⟩:=I.tuple hq;refine adD (vT x) pl (fun w hw=>iL z g r fs w (by simpa using hw)) ⟨.bl _,H,I,rfl,?_⟩;rw [show its.toArray.any (vT x)=its.any (vT x) by simp,mV r fs];exact q
def vq:dh X (YX .NotIn) (XY X.K ζ):=by
 intro J s σ H x y v u Q I z C h;obtain ⟨p,xs,rfl,hq,g,fs,q⟩:=h;cases C;rcases hq with hq|hq
 .let ⟨its,r,pl,hz⟩:=I.list hq
  refine SeqAt.notIn_listAt (vT x) pl.isList (fun w hw=>iL z g r fs w (by simpa using hw)) ⟨.bl _,H,I,rfl,?_⟩;rw [show its.toArray.any (vT x)=its.any (vT x) by simp,mV r fs];exact q
 .obtain ⟨its,r,pl,hz⟩:=I.tuple hq;refine SeqAt.notIn_tupleAt (vT x) pl (fun w hw=>iL z g r fs w (by simpa using hw)) ⟨.bl _,H,I,rfl,?_⟩;rw [show its.toArray.any (vT x)=its.any (vT x) by simp,mV r fs];exact q
theorem uF:bD X (.builtin "len") (fun xs H Q=>∃ p ys,xs=[.ref p]/\(eV X.K H p ys\/gU X.K H p ys)/\Q (.int ys.length) H):=by
 intro z s σ H xs us Q I r h;obtain ⟨p,ys,rfl,hq,q⟩:=h;obtain ⟨u,rfl,v⟩:=gj r;cases v;have hn:=n5;rcases hq with hq|hq
 .let ⟨its,r',pl,hz⟩:=I.list hq
  have g:=r'.length;exact Calls.call_len_list pl.isList (by simp only [YC] <;> lia) ⟨.int ys.length,H,I.tok _,⟨s.toks+1,by simp_all⟩,q⟩
 .let ⟨its,r',pl,hz⟩:=I.tuple hq
  have g:=r'.length;exact len_tuple pl (by simp only [YC] <;> lia) ⟨.int ys.length,H,I.tok _,⟨s.toks+1,by grind⟩,q⟩
theorem vF:bD X (.builtin "len") (fun xs H Q=>∃ z,xs=[.str z]/\z.length<=RW/\Q (.int z.length) H):=by
 intro g s σ H xs us Q I r h;obtain ⟨z,rfl,hz,q⟩:=h;obtain ⟨u,rfl,t,rfl⟩:=gj r;have hn:=n5;exact len_str (by lia) ⟨.int z.length,H,I.tok _,⟨_,rfl⟩,q⟩
theorem bD.or (h:bD X f r) (h':bD X f r'):bD X f (fun xs H Q=>r xs H Q\/r' xs H Q):=by
 intro g s σ H xs us Q I u q;rcases q with q|q
 .exact h g s σ H xs us Q I u q
 .exact h' g s σ H xs us Q I u q
theorem vN:bD X (.type "list") (fun xs H Q=>∃ p ys,xs=[.ref p]/\(eV X.K H p ys\/gU X.K H p ys)/\∀ l,H l=ξ->Q (.ref l) (upd H l (.lst ys))):=by
 intro Y s σ H xs us Q I r h;obtain ⟨p,ys,rfl,hq,q⟩:=h;obtain ⟨u,rfl,Z⟩:=gj r;cases Z;have fin:∀ (its:ad6),aU ys its->ys.length<=RW->∀ (h':abh) (g:Nat),(∀ b M,s.heap.get? b=θ M->h'.get? b=θ M) ->
   h'.get? s.heap.objs.size=θ { cls:=.type "list",dict:=ξ,data:=.seq its.toArray g,slots:=#[] }->EP X Y σ Q (.ref s.heap.objs.size) { s with heap:=h' }:=fun its v hz h' g kp e =>
  ⟨.ref s.heap.objs.size,_,I.laid kp (oR _) (show dc X.prog X.w _ h' _ (.lst ys) from ⟨hz,its,g,v,e⟩),rfl,q _ (I.hok.fresh (oR _))⟩
 rcases hq with hq|hq
 .let ⟨its,v,pl,hz⟩:=I.list hq
  have z:=v.length;obtain ⟨o,C,J,n,L⟩:=pl.isList;exact call_list_seq p (.inl rfl) C J L (fun h' g kp e=>fin its v hz h' g kp e) (by grind)
 .let ⟨its,v,pl,hz⟩:=I.tuple hq
  have z:=v.length;let ⟨o,C,J,n,L⟩:=pl
  exact call_list_seq p (.inr rfl) C J L (fun h' g kp e=>fin its v hz h' g kp e) (by simp_all)
theorem sn:bD X (.type "tuple") (fun xs H Q=>∃ p ys,xs=[.ref p]/\((eV X.K H p ys/\∀ l,H l=ξ->Q (.ref l) (upd H l (.tup ys)))\/(gU X.K H p ys/\Q (.ref p) H))):=by
 intro v s σ H xs us Q I r h;obtain ⟨p,ys,rfl,h⟩:=h;obtain ⟨u,rfl,z⟩:=gj r;cases z;rcases h with ⟨hq,q⟩|⟨hq,q⟩
 .let ⟨its,r',pl,hz⟩:=I.list hq
  have g:=r'.length;refine call_tuple_list pl.isList (fun h' kp=>?_) (by simp_all);have I1  := I.kept kp;have C:Inv X v σ (upd H h'.objs.size (.tup ys)) { s with heap:=h'.push { cls:=.type "tuple",data:=.seq its.toArray } } :=
   I1.laid (fun b o e=>eQ _ e) (oR _) ((⟨hz,its,r',IsTup.new _ _⟩))
  exact ⟨.ref h'.objs.size,_,C,rfl,q _ (I1.hok.fresh (oR _))⟩
 .let ⟨its,r',pl,hz⟩:=I.tuple hq
  exact call_tuple_same pl ⟨.ref p,H,I,rfl,q⟩
def Qc (K:aT) (T:String) (x:V) (H:Hp):Prop:=match x with
 | .str _=>T="str"
 | .int _=>T="int"
 | .ref p=>(T="list"/\∃ xs,eV K H p xs)\/(T="tuple"/\∃ o,K.lookup p=θ o/\o.cls=.type "tuple"/\o.dict=ξ) \/
   (T="dict"/\((∃ g,H p=θ (.dK g))\/∃ g,H p=θ (.dT g)))\/(T="set"/\∃ S n,H p=θ (.set S n))
 | _=>False
theorem ET {σ:St} (I:Inv X af σ H s) (r:aQ x v) (C:Qc X.K T x H) :
  s.TypeIs v T/\∀ a,v=.ref a->∃ ob,s.heap.get? a=θ ob/\ob.dict=ξ:=by
 cases x with
 | str z =>
  obtain ⟨t,rfl⟩:=r;cases ((C));exact ⟨typeIs_str s z t,fun _ e=>nomatch e⟩
 | int i =>
  obtain ⟨t,rfl⟩:=r;cases ((C));exact ⟨typeIs_int s i t,fun _ e=>nomatch e⟩
 | ref p =>
  cases r;rcases C with ⟨rfl,xs,hq⟩|⟨rfl,o,g,Y,J⟩|⟨rfl,g⟩|⟨rfl,S,n,g⟩
  .let ⟨its,_,pl,_⟩:=I.list hq
   refine ⟨pl.isList.typeIs,fun a e=>?_⟩;cases e;let ⟨o,n,e,c,J,_⟩:=pl
   exact ⟨o,e,J⟩
  .refine ⟨⟨o,I.kIn p o g,Y⟩,fun a e=>?_⟩;cases e;exact ⟨o,I.kIn _ o g,J⟩
  .have z:∃ o,s.heap.get? p=θ o/\o.ExactDict:=by
    rcases g with ⟨L,g⟩|⟨L,g⟩
    .obtain ⟨_,_,_,_,o,_,_,e,u,_⟩:=I.hok p _ g;exact ⟨o,e,u⟩
    .obtain ⟨_,_,_,_,o,_,_,e,u,_⟩:=I.hok p _ g;exact ⟨o,e,u⟩
   let ⟨o,e,u⟩:=z
   refine ⟨⟨o,e,u.1⟩,fun a M=>?_⟩;cases M;exact ⟨o,e,u.2.1⟩
  .obtain ⟨o,_,_,_,e,u,_⟩:=I.hok p _ g;refine ⟨⟨o,e,u.1⟩,fun a M=>?_⟩;cases M;exact ⟨o,e,u.2.1⟩
 | _=>exact ZT C
def TC (K:aT) (T:String) (r:V->ad7->Hp->VK->Prop) (g:TE):TE:=fun σ H Q=>g σ H fun x H1=>Qc K T x H1/\r x [] H1 Q
def Ws (K:aT) (T:String) (r:V->ad7->Hp->VK->Prop) (u:TE) (t:TA):TE:=fun σ H Q=>u σ H fun x H1=>Qc K T x H1/\t σ H1 fun xs g=>r x xs g Q
variable {apos cpos:Pos} {id:String}
theorem O5 (M:PlainAttrs T) (z:Slot T name id) (C:typeOf (.builtin id)=pure (.type "method_descriptor")) (hm:Qq X id r) (L:PE X o to)
  (g:Y4 o name X.env (eval o X.env)=eval o X.env:=by rfl) (u:(apos.endLine==cpos.line)=ζ:=by rfl):PE X (.Call (.Attribute o name apos) [] [] cpos) (TC X.K T r to):=by
 intro J s σ H Q I h;refine wpAny_Call_method0_late g u (bV (L J s σ H _ I h) fun v s1 ⟨x,H1,I1,r1,ty,q1⟩=>?_);let ⟨h1,h2⟩:=ET I1 r1 ty
 exact ⟨T,id,M,z,C,h1,h2,ZC rfl (ac6 (hm J s1 σ H1 x [] v [] Q I1 r1 .nil q1))⟩
theorem Qr (pa:PlainAttrs T) (z:Slot T name id) (M:typeOf (.builtin id)=pure (.type "method_descriptor")) (hm:Qq X id r) (Y:PE X o to) (ha:PA X (e::es) t)
  (g:Y4 o name X.env (eval o X.env)=eval o X.env:=by rfl)
  (C:((aaa cpos (YI (e::es) X.env)).all (fun x=>!x.1)&&(backToKw cpos (aaJ [] X.env)).all (fun x=>x.1.isSome)
   && decide ((e::es).length+([]:List aaQ).length+(if ([]:List aaQ).isEmpty then 0 else 1) < 30))=ζ:=by rfl)
  (u:(apos.endLine==cpos.line)=ζ:=by rfl) (hs:YI (e::es) X.env=(η,eval e X.env)::YI es X.env:=by rfl) (J:(aaa cpos (YI es X.env)).any (·.1)=η:=by rfl) :
  PE X (.Call (.Attribute o name apos) (e::es) [] cpos) (Ws X.K T r to t):=by
 intro L s σ H Q I h;refine wpAny_Call_method_late g C u rfl (bV (Y L s σ H _ I h) fun v s1 ⟨x,H1,I1,r1,ty,q1⟩=>?_);let ⟨h1,h2⟩:=ET I1 r1 ty
 refine ⟨T,id,pa,z,M,h1,h2,?_⟩;have hA:=ha cpos L s1 σ H1 _ I1 q1;rw [hs] at hA ⊢;refine ZC (by grind) (aau ?_);exact bV hA fun us Z hh=>jC hh fun vs H2 I2 r2 q2=>hm L Z σ H2 x vs v us Q I2 r1 r2 q2
end
def Vq (X:Cx) (id:String) (r:V->ad7->Hp->VK->Prop):Prop :=
 ∀ (g:ad2) (s:IF) (σ:St) (H:Hp) (x:V) (xs:ad7) (v:rW) (us:ad6) (Q:VK),Inv X g σ H s->aQ x v->aU xs us->r x xs H Q ->
  YH (YN X.prog X.w) X.A (call (.builtin id) (v::us)) (EP X g σ Q) X.xe s
theorem aU.one:∀ {x:V} {us:ad6},aU [x] us->∃ u,us=[u]/\aQ x u
 | _,_,.cons r .nil=>⟨_,rfl,r⟩
theorem aU.zero:∀ {us:ad6},aU [] us->us=[]
 | _,.nil=>rfl
theorem aU.dropLast (h:aU xs us):aU xs.dropLast us.dropLast:=by
 induction h with
 | nil=>exact .nil
 | cons r t g =>
  cases t with
  | nil=>exact .nil
  | cons q t'=>exact .cons r g
theorem aU.reverse (h:aU xs us):aU xs.reverse us.reverse:=by
 induction h with
 | nil=>exact .nil
 | cons r t g=>rw [aaY,aaY];exact aU.append g (.cons r .nil)
section
variable {σ:St}
theorem Inv.lset {its its':ad6} (I:Inv X af σ H s) (r:H l=θ (.lst xs))
  (e:s.heap.get? l=θ { cls:=.type "list",data:=.seq its.toArray n }) (g:f its.toArray=its'.toArray) (hv:aU ys its') (hz:ys.length<=RW) (ht:X.tn<=t':=by walk_at "tok") :
  Inv X af σ (upd H l (.lst ys)) { s with heap:=s.heap.update l (Y2 f),toks:=t' }:=by
 have q:=adE e f;rw [g] at q;refine I.write (by rw [r];exact trivial) (.inl rfl) (fun z u hb v=>(aah s.heap (Y2 f) (aaN hb)).trans v) ⟨_,q⟩ ?_;exact ⟨hz,its',_,hv,q⟩
theorem Inv.lnew (I:Inv X af σ H s) (hv:aU ys its) (hz:ys.length<=RW) (ht:X.tn<=t':=by walk_at "tok") :
  Inv X af σ (upd H s.heap.objs.size (.lst ys)) { s with heap:=s.heap.push { cls:=.type "list",data:=.seq its.toArray },toks:=t' } :=
 I.laid (fun _ _ q=>eQ _ q) (oR _) ⟨hz,its,0,hv,BY _ rfl⟩
theorem Inv.fresh (I:Inv X af σ H s):H s.heap.objs.size=ξ:=I.hok.fresh (oR _)
theorem Inv.lstM (I:Inv X af σ H s) (g:H l=θ (.lst xs)):xs.length<=RW/\∃ (its:ad6) (n:Nat),aU xs its/\xs.length=its.length/\s.heap.get? l=θ { cls:=.type "list",data:=.seq its.toArray n }:=by
 obtain ⟨z,its,n,r,e⟩:=I.hok l _ g;exact ⟨z,its,n,r,r.length,e⟩
theorem xQ (h:n<=RW):ZK n=η:=by
 unfold ZK
 grind
end
section
def uG:V->ad7->Hp->VK->Prop:=fun x vs H Q=>∃ l xs y,x=.ref l/\vs=[y]/\H l=θ (.lst xs)/\xs.length < RW/\Q .non (upd H l (.lst (xs++[y])))
def sL:Vq X "list.append" uG:=by
 intro L s σ H x vs v us Q I J C h;obtain ⟨l,xs,y,rfl,rfl,g,hz,q⟩:=h;cases J;obtain ⟨u,rfl,ru⟩:=C.one;let ⟨z,its,n,r,hl,e⟩:=I.lstM g
 refine acU F.slot_list_append ⟨_,e,rfl⟩ F.entry_list_append (F.args_list_append_2 _ _) (PySem.list_append l its.toArray n u (by grind)) ⟨e,?_⟩;refine ⟨.non,_,I.lset g e (by simp) (r.append (.cons ru .nil)) ?_,rfl,q⟩
 grind
def Q4:V->ad7->Hp->VK->Prop:=fun x vs H Q=>∃ l xs y,x=.ref l/\vs=[]/\H l=θ (.lst xs)/\xs[xs.length - 1]?=θ y/\Q y (upd H l (.lst xs.dropLast))
def Ps:Vq X "list.pop" Q4:=by
 intro Y s σ H x vs v us Q I M L h;obtain ⟨l,xs,y,rfl,rfl,J,hy,q⟩:=h;cases M;have g:=L.zero;subst g;let ⟨z,its,n,r,hl,e⟩:=I.lstM J
 let ⟨u,hu,ru⟩:=r.get hy
 have C:its.toArray[its.toArray.size - 1]?=θ u:=by
  simp_all
 refine acU F.slot_list_pop ⟨_,e,rfl⟩ F.entry_list_pop (F.args_list_pop_1 _) (MeetsSeq.list_pop_last l its.toArray n u C (by simp_all)) ⟨e,?_⟩;refine ⟨y,_,I.lset J e ?_ r.dropLast ?_,ru,q⟩
 .grind
 grind
end
section
set_option maxRecDepth 100000 in
end
section
variable {κ:Type} [DecidableEq κ]
def fX (g:List (κ×V)) (k:κ):Option V:=(g.find? fun r=>decide (r.1=k)).map (·.2)
noncomputable def gW (g:List (κ×V)) (k:κ) (v:V):List (κ×V) :=
 if (g.any fun r=>decide (r.1=k))=ζ then g.map (fun r=>if r.1=k then (r.1,v) else r) else g++[(k,v)]
def jx (g:List (κ×V)) (k:κ):List (κ×V):=g.filter fun r=>decide (r.1≠k)
theorem iR {p:κ×V} {r:List (κ×V)} {k:κ} (e:p.1=k):fX (p::r) k=θ p.2:=by simp [fX,Zg,e]
theorem iJ {p:κ×V} (e:¬ p.1=k):fX (p::r) k=fX r k:=by simp [fX,Zg,e]
theorem mL (k:κ):∀ kvs:List (κ×V),(kvs.any fun g=>decide (g.1=k))=(fX kvs k).isSome
 | []=>rfl
 | p::r=>by
  rw [adi];by_cases e:p.1=k
  .simp only [iR e,adX e,Bool.true_or,Option.isSome_some]
  .rw [iJ e,adW e];exact mL k r
theorem jU (g:List (κ×V)) (k:κ) (v:V):(gW g k v).length<=g.length+1:=by
 unfold gW
 grind
theorem EB {g:List (κ×V)} (v:V) (h:fX g k=ξ):gW g k v=g++[(k,v)]:=by
 unfold gW;rw [mL,h];exact adV (by decide)
theorem j7.isSome_eq (r:j7 o u):o.isSome=u.isSome:=by
 cases o with
 | none=>cases u with
  | none=>rfl
  | some _=>exact ((r)).elim
 | some _=>cases u with
  | none=>exact ((r)).elim
  | some _=>rfl
theorem j7.getD (r:j7 o u) (rd:aQ d d'):aQ (o.getD d) (u.getD d'):=by
 cases o with
 | none=>cases u with
  | none=>exact rd
  | some _=>exact ((r)).elim
 | some _=>cases u with
  | none=>exact ((r)).elim
  | some _=>exact r
theorem KV.val (r:KV kvs vs) (k:κ):j7 (fX kvs k) (valueAt vs k):=by
 induction r with
 | nil=>exact Y6
 | @cons p q ps qs h t ih =>
  let ⟨h1,h2⟩:=h
  by_cases e:p.1=k
  .have e'  := h1.symm.trans e;have b:valueAt (q::qs) k=θ q.2:=by simp [valueAt,Zg,e']
   rw [iR e,b];exact h2
  .have e':¬ q.1=k:=fun z=>e (h1.trans z);have b:valueAt (q::qs) k=valueAt qs k:=by simp [valueAt,Zg,e']
   rw [iJ e,b];exact ih
theorem KV.any (r:KV kvs vs) (k:κ):(kvs.any fun g=>decide (g.1=k))=vs.any fun g=>decide (g.1=k):=by
 induction r with
 | nil=>rfl
 | cons h t u=>simp_all
theorem KV.repl (r:KV kvs vs) (k:κ) (v:aQ y u) :
  KV (kvs.map fun g=>if g.1=k then (g.1,y) else g) (vs.map fun g=>if g.1=k then (g.1,u) else g):=by
 induction r with
 | nil=>exact .nil
 | @cons p q ps qs h t ih =>
  refine .cons ?_ ih;by_cases e:p.1=k
  .simp_all
  simp_all
theorem KV.put (r:KV kvs vs) (k:κ) (g:aQ y u):KV (gW kvs k y) (stored vs k u):=by
 unfold gW stored;rw [r.any k];by_cases e:(vs.any fun v=>decide (v.1=k))=ζ
 .rw [adU e,adU e];exact r.repl k g
 .rw [adV e,adV e];exact Paired.snoc r ⟨rfl,g⟩
theorem KV.drop (r:KV kvs vs) (k:κ):KV (jx kvs k) (without vs k):=by
 unfold jx without;induction r with
 | nil=>exact .nil
 | @cons p q ps qs h t ih =>
  let ⟨h1,h2⟩:=h
  rw [Z8,Z8];by_cases e:p.1=k
  .simp_all
  .have e':¬ q.1=k:=fun z=>e (h1.trans z);have a:decide (p.1≠k)=ζ:=by simp [e]
   have b:decide (q.1≠k)=ζ:=by simp [e']
   rw [adU a,adU b];exact .cons ⟨h1,h2⟩ ih
theorem KV.length {g:List (κ×V)} (r:KV g vs):g.length=vs.length:=acp r
end
theorem mJ (r:aQ (kV k) u):(bB P w).is k u=ζ:=by
 cases k with
 | inl i=>obtain ⟨t,e⟩:=((r));subst e;exact (Dy i t)
 | inr x=>let ⟨t,e⟩:=((r));subst e;exact (DB x t)
 | nn=>have e  := r;subst e;rfl
theorem tF:∀ {ks:List Key} {us:ad6},aU (ks.map kV) us->ItemsAre (bB P w) ks us
 | [],_,r=>by cases r;exact .nil
 | k::ks,_,r=>by
  cases r with
  | cons h t=>exact .cons (mJ h) (tF t)
abbrev KT (H:Hp):List (List Key×V)->List (List Key×YS×rW)->Prop:=Paired fun p q=>p.1=q.1/\H q.2.1=θ (.tup (p.1.map kV))/\aQ p.2 q.2.2
theorem KT.val (r:KT H kvs xs) (k:List Key):j7 (fX kvs k) ((atKey xs k).map (·.2)):=by
 induction r with
 | nil=>exact Y6
 | @cons p q ps qs h t ih =>
  let ⟨h1,_,h2⟩:=h
  by_cases e:p.1=k
  .have e'  := h1.symm.trans e;have b:atKey (q::qs) k=θ q.2:=by simp [atKey,Zg,e']
   rw [iR e,b];exact h2
  .have e':¬ q.1=k:=fun z=>e (h1.trans z);have b:atKey (q::qs) k=atKey qs k:=by simp [atKey,Zg,e']
   rw [iJ e,b];exact ih
theorem KT.repl (r:KT H kvs xs) (k:List Key) (v:aQ y u) :
  KT H (kvs.map fun g=>if g.1=k then (g.1,y) else g) (xs.map (putAt k u)):=by
 induction r with
 | nil=>exact .nil
 | @cons p q ps qs h t ih =>
  refine .cons ?_ ih;unfold putAt;by_cases e:p.1=k
  .simp_all
  simp_all
theorem KT.put (r:KT H kvs xs) (k:List Key) (hb:H b=θ (.tup (k.map kV))) (g:aQ y u) :
  KT H (gW kvs k y) (storedH xs k b u):=by
 have e:(kvs.any fun v=>decide (v.1=k))=(atKey xs k).isSome:=by
  rw [mL,(r.val k).isSome_eq,abx]
 unfold gW storedH;rw [e];by_cases q:(atKey xs k).isSome=ζ
 .rw [adU q,adU q];exact r.repl k g
 .rw [adV q,adV q];exact Paired.snoc r ⟨rfl,hb,g⟩
theorem KT.keeps (r:KT H kvs xs) (ht:∀ b ys,H b=θ (.tup ys)->H' b=θ (.tup ys)):KT H' kvs xs :=
 Paired.mapP r fun _ _ z=>⟨z.1,ht _ _ z.2.1,z.2.2⟩
section
theorem Lv (ok:l9 P w H h) (e:Rd H a u):dc P w H h a u:=e.ok ok
theorem jO (ok:l9 P w H h) (e:Rd H a (.dK kvs)):kvs.length<=RW/\(a==Z6)=η/\∃ vs,KV kvs vs/\h.DictOf (bB P w) a vs :=
 (Lv ok e)
theorem HR (ok:l9 P w H h) (e:H a=θ (.dK kvs)):kvs.length<=RW/\(a==Z6)=η/\∃ vs,KV kvs vs/\h.DictOf (bB P w) a vs:=jO ok (.inl e)
theorem ly (ok:l9 P w H h) (e:H a=θ (.tup (ks.map kV))):(tupleKind (bB P w)).is h ks a:=by
 obtain ⟨_,its,r,o,h1,h2,n,g⟩:=((ok a _ e));exact ⟨o,its.toArray,n,h1,h2,g,by simpa using tF r⟩
theorem oB (ok:l9 P w H h) (e:Rd H a (.dT kvs)):kvs.length<=RW/\(a==Z6)=η /\
  ∃ xs,KT H kvs xs/\h.DictOfH (tupleKind (bB P w)) a xs:=by
 obtain ⟨z,y,xs,r,o,es,I,h1,h2,u,v,C⟩:=((Lv ok e));refine ⟨z,y,xs,r,o,es,I,h1,h2,u,v,fun x g=>?_,C⟩;have all:∀ {l:List (List Key×V)} {m:List (List Key×YS×rW)},KT H l m->∀ x∈m,(tupleKind (bB P w)).is h x.1 x.2.1:=by
  intro l m q;induction q with
  | nil=>grind
  | @cons p q ps qs hq t ih =>
   intro x g;rcases mK.mp g with e|g
   .exact ly ok (by simp_all)
   .exact ih x g
 exact all r x g
end
def jo (H:Hp) (a:YS) (y:V) (r:Option V):Prop :=
 (∃ g k,Rd H a (.dK g)/\y=kV k/\r=fX g k)\/∃ g k b,Rd H a (.dT g)/\y=.ref b/\H b=θ (.tup (k.map kV))/\r=fX g k
def JM (H:Hp) (a:YS) (y v:V) (H':Hp):Prop :=
 (∃ g k,H a=θ (.dK g)/\y=kV k/\g.length < RW/\H'=upd H a (.dK (gW g k v))) \/
 ∃ g k b,H a=θ (.dT g)/\y=.ref b/\H b=θ (.tup (k.map kV))/\g.length < RW/\H'=upd H a (.dT (gW g k v))
theorem JM.k {k:Key} (e:H a=θ (.dK kvs)) (g:kvs.length < RW):JM H a (kV k) v (upd H a (.dK (gW kvs k v))):=.inl ⟨kvs,k,e,rfl,g,rfl⟩
section
variable {σ:St}
theorem Inv.big (I:Inv X af σ H s):Z6 < s.heap.objs.size:=by
 have h  := (I.mod.glob.keeps I.bk).lt;exact Nat.lt_trans (by decide) h
theorem Dr (hu:A.units+1 < aa3) (I:Inv X af σ H s) (g:jo H a y (θ v)) (M:aQ y u) (h:∀ C Y,Inv X af σ H Y->aQ v C->Q C Y) :
  YH (YN X.prog X.w) A (aca (.ref a) u) Q E s:=by
 rcases g with ⟨J,k,e,L,l⟩|⟨J,k,b,e,L,Z,l⟩
 .subst L;let ⟨z,hd,vs,rel,dd⟩:=jO I.hok e
  obtain ⟨C,hw,r⟩:=j7.some_of (by rw [l];exact rel.val k);exact wpAny_getItem_of (mJ M) dd.mapOf hw (h C _ (I.tok _) r)
 .subst L;cases ((M));let ⟨z,hd,xs,rel,dd⟩:=oB I.hok e
  obtain ⟨C,hw,r⟩:=j7.some_of (by rw [l];exact rel.val k);let ⟨p,hp,hp2⟩:=iF.mp hw
  refine wpAny_getItem_heap (aap hu) (ly I.hok Z) dd hp ?_;rw [hp2];exact h C _ (I.tok _) r
theorem Xr (M:A.units+1 < aa3) (I:Inv X af σ H s) (g:jo H a y o) (C:aQ y u) (h:∀ J,Inv X af σ H J->Q (.bool o.isSome) J) :
  YH (YN X.prog X.w) A (YX .In u (.ref a)) Q E s:=by
 rcases g with ⟨r,k,e,v,l⟩|⟨r,k,b,e,v,L,l⟩
 .subst v;let ⟨z,hd,vs,rel,dd⟩:=jO I.hok e
  refine wpAny_in_of (mJ C) hd dd.mapOf ?_;rw [<- (rel.val k).isSome_eq,<- l];exact h _ (I.tok _)
 .subst v;cases ((C));let ⟨z,hd,xs,rel,dd⟩:=oB I.hok e
  refine wpAny_in_heap (aap M) (ly I.hok L) hd dd ?_;have q:=(rel.val k).isSome_eq;rw [abx] at q;rw [<- q,<- l];exact h _ (I.tok _)
theorem KW (M:A.units+1 < aa3) (I:Inv X af σ H s) (g:jo H a y o) (C:aQ y u) (h:∀ J,Inv X af σ H J->Q (.bool (!o.isSome)) J) :
  YH (YN X.prog X.w) A (YX .NotIn u (.ref a)) Q E s:=by
 rcases g with ⟨r,k,e,v,l⟩|⟨r,k,b,e,v,L,l⟩
 .subst v;let ⟨z,hd,vs,rel,dd⟩:=jO I.hok e
  refine wpAny_notIn_of (mJ C) hd dd.mapOf ?_;rw [<- (rel.val k).isSome_eq,<- l];exact h _ (I.tok _)
 .subst v;cases ((C));let ⟨z,hd,xs,rel,dd⟩:=oB I.hok e
  refine wpAny_notIn_heap (aap M) (ly I.hok L) hd dd ?_;have q:=(rel.val k).isSome_eq;rw [abx] at q;rw [<- q,<- l];exact h _ (I.tok _)
theorem pE (I:Inv X af σ H s) (g:SO (H a)) (hs:Zo a s.heap h') (r:∃ q,h'.get? a=θ q) (new:dc X.prog X.w (upd H a ob) h' a ob) (ht:X.tn<=t':=by walk_at "tok") :
  Inv X af σ (upd H a ob) { s with heap:=h',toks:=t' } :=
 I.write g (.inl rfl) (fun b q hb z=>(hs.2 b hb).trans z) r new
theorem vw (z:kvs.length<=RW) (r:(a==Z6)=η) (g:KV kvs vs) (u:h'.DictOf (bB P w) a vs) :
  dc P w H' h' a (.dK kvs):=⟨z,r,vs,g,u⟩
theorem Cj (hu:A.units+1 < aa3) (I:Inv X af σ H s) (g:JM H a y v H') (ry:aQ y u) (rv:aQ v r) (h:∀ s',Inv X af σ H' s'->Q () s') :
  YH (YN X.prog X.w) A (setItem (.ref a) u r) Q E s:=by
 rcases g with ⟨C,k,e,Y,l,M⟩|⟨C,k,b,e,Y,Z,l,M⟩
 .subst Y M;let ⟨z,hd,vs,rel,dd⟩:=HR I.hok e
  have hz:vs.length<=RW:=by rw [<- rel.length];exact z
  have L:(gW C k v).length<=RW:=by have:=jU C k v;lia
  refine wpAny_setItem_pairs (hsz:=hz) (mJ ry) dd fun h' J hs=>h _ ?_;have he:∃ q,h'.get? a=θ q:=let ⟨q,_,_,hq,_⟩:=J;⟨q,hq⟩;exact pE I (by rw [e];exact Y6) hs he (vw L hd (rel.put k rv) J)
 .subst Y M;cases (show u=aab b from ry);let ⟨z,hd,xs,rel,dd⟩:=(oB I.hok (.inl e))
  have hz:xs.length<=RW:=by rw [<- acp rel];exact z
  have L:(gW C k v).length<=RW:=by have:=jU C k v;lia
  refine wpAny_setItem_heap (aap hu) (ly I.hok Z) dd fun h' J hs=>h _ ?_;let ⟨q,es,ep,hq,h2,h3,h4,_,h5⟩:=J
  refine pE I (by rw [e];exact Y6) hs ⟨q,hq⟩ ⟨L,hd,_,(rel.put k Z rv).keeps fun c ys ec=>?_,q,es,ep,hq,h2,h3,h4,h5⟩;rw [aA (RJ ec e (fun z=>nomatch z))]
  exact ec
end
section
variable {σ:St}
theorem SM (I:Inv X af σ H s) (e:H a=θ (.dK kvs)) (C:aQ (kV k) u) (l:fX kvs k=θ v) (hm:more=[]\/∃ x,more=[x])
  (h:∀ r J,Inv X af σ (upd H a (.dK (jx kvs k))) J->aQ v r->Q r J):YH (YN X.prog X.w) A (call (.builtin "dict.pop") (.ref a::u::more)) Q E s:=by
 let ⟨z,hd,vs,rel,dd⟩:=HR I.hok e
 let ⟨r,hw,rw'⟩:=j7.some_of (v:=v) (o:=valueAt vs k) (by rw [<- l];exact rel.val k)
 have Y:(keyPart u).isSome=ζ:=by
  cases k with
  | inl i=>let ⟨t,q⟩:=(show ∃ t,u=acF i t from C);subst q;rfl
  | inr x=>let ⟨t,q⟩:=(show ∃ t,u=Value.str x t from C);subst q;rfl
  | nn=>have q:u=.none:=C;subst q;rfl
 have L:argsOk "dict.pop" ⟨.ref a::u::more,[]⟩:=by
  rcases hm with q|⟨x,q⟩
  .subst q;exact PySem.F.args_dict_pop_2 _ _
  .subst q;exact PySem.F.args_dict_pop_3 _ _ _
 refine call_meetsIn acH dd.typeIs PySem.F.entry_dict_pop L (meets_dict_pop_there (bB X.prog X.w) a (mJ C) more hm Y)
  ⟨vs,r,dd,by rw [<- rel.length];exact z,hw,fun h' g hs=>h r _ ?_ rw'⟩
 have M:∃ q,h'.get? a=θ q:=let ⟨q,_,_,hq,_⟩:=g;⟨q,hq⟩;exact pE I (by rw [e];exact Y6) hs M (vw (Le ((ZZ _ _)) z) hd (rel.drop k) g)
end
def yg (i:Zq):Prop:=∀ ov g,subscripted i η ov g=operate [ov,g] (aca ov g)
theorem A1 {T id:String}
  (I:typeLookup (.type T) "__getitem__"=pure (θ (.builtin id))) (hs:yg slice)
  (h:YH (YN prog w) A (eval value env) (fun o v=>YH (YN prog w) A (eval slice env) (fun i s₂=>s₂.TypeIs o T/\YH (YN prog w) A (aca o i) Q E s₂) E v) E s) :
  YH (YN prog w) A (eval (.Subscript value slice pos) env) Q E s:=by
 refine Subscript_ (Zm h (fun o v z=>Zm z (fun i s₂ g=>?_) fun _ _ x=>x) fun _ _ x=>x);let ⟨hT,g⟩:=g
 refine bY ?_;refine bY (wpAny_specialOf hT I ?_);have fin:YH (YN prog w) A (subscripted slice η o i) (fun r u=>YH (YN prog w) A (letTemporaryGo value o r >>= fun _=>pure r) Q E u) E s₂:=by
  rw [hs o i];exact wpAny_operating (Zm g (fun r u C=>bY (wpAny_letTemporaryGo (nE C))) fun _ _ x=>x)
 first
  | exact nE (bY fin)
  | lia
  | lia
def wk (u r:TE):TE:=fun σ H Q=>u σ H fun x H1=>r σ H1 fun y g=>∃ a v,x=.ref a/\jo g a y (θ v)/\Q v g
section
theorem ut (L:X.A.units+1 < aa3) (J:PE X o td) (Y:PE X i ty) (hs:yg i):PE X (.Subscript o i pos) (wk td ty):=by
 intro C s σ H Q I h;refine A1 ab7.lookup hs (bV (J C s σ H _ I h) fun u s1 ⟨x,H1,I1,rx,q1⟩=>bV (Y C s1 σ H1 _ I1 q1) fun iv s2 ⟨y,H2,I2,ry,a,v,ex,g,q2⟩=>?_);subst ex;obtain rfl:u=aab a:=rx;exact ⟨(by
   rcases g with ⟨r,k,e,_,_⟩|⟨r,k,b,e,_,_,_⟩
   .let ⟨_,_,vs,_,dd⟩:=jO I2.hok e
    exact dd.typeIs
   .let ⟨_,_,xs,_,dd⟩:=oB I2.hok e
    exact dd.typeIs),Dr L I2 g ry fun Z s3 M z=>⟨v,H2,M,z,q2⟩⟩
end
theorem wH (h:abh) (hb:Z6 < h.objs.size):dc P w H (h.push { cls:=.type "dict",data:=.dict #[] }) h.objs.size (.dK []) :=
 ⟨YJ _,beq_eq_false_iff_ne.mpr (aaN (YL hb)),[],.nil,Heap.DictOf.new h⟩
def GX:TE:=fun _ H Q=>∀ p,H p=ξ->Q (.ref p) (upd H p (.dK []))
def uD:List (TE×TE)->St->Hp->(List (V×V)->Hp->Prop)->Prop
 | [],_,H,Q=>Q [] H
 | (tk,tv)::r,σ,H,Q=>tk σ H fun x H1=>tv σ H1 fun y g=>uD r σ g fun ps u=>Q ((x,y)::ps) u
abbrev VV:List (V×V)->List (rW×rW)->Prop:=Paired fun p q=>aQ p.1 q.1/\aQ p.2 q.2
def Tu (X:Cx) (pos:Pos) (r:List (Option Zq)) (g:List Zq) (zG:List (TE×TE)):Prop :=
 ∀ (u:ad2) (s:IF) (σ:St) (H:Hp) (Q:List (V×V)->Hp->Prop),Inv X u σ H s->uD zG σ H Q ->
  YH (YN X.prog X.w) X.A (evalPairs (pairTrees r g X.env pos)) (fun vs v=>∃ ps H',Inv X u σ H' v/\VV ps vs/\Q ps H') X.xe s
theorem K1:Tu X pos [] [] []:=fun g s σ H Q I h=>pairTrees_nil_walk ⟨[],H,I,.nil,h⟩
theorem Gb (r:PE X k tk) (hv:PE X v tv) (hr:Tu X pos ks vs zG) :
  Tu X pos (θ k::ks) (v::vs) ((tk,tv)::zG):=fun g s σ H Q I h =>
 pairTrees_cons_walk (bV (r g s σ H _ I h) fun u s1 ⟨x,H1,I1,rx,q1⟩=>bV (hv g s1 σ H1 _ I1 q1) fun w2 s2 ⟨y,H2,I2,ry,q2⟩ =>
  bV (hr g s2 σ H2 _ I2 q2) fun ws s3 ⟨ps,H3,I3,rel,q3⟩=>⟨(x,y)::ps,H3,I3,.cons ⟨rx,ry⟩ rel,q3⟩)
def nM (g more:List (Key×V)):List (Key×V):=more.foldl (fun acc r=>gW acc r.1 r.2) g
theorem KV.merge:∀ {more:List (Key×V)} {u:List (Key×rW)} {g:List (Key×V)} {vs:List (Key×rW)},KV more u->KV g vs->KV (nM g more) (merged vs u):=by
 intro more u g vs r;induction r generalizing g vs with
 | nil=>intro q;exact q
 | @cons p q ps qs h t ih =>
  intro r0;have e:KV (gW g p.1 p.2) (stored vs q.1 q.2):=by
   have:=r0.put p.1 h.2
   rw [<- h.1];exact this
  exact ih e
theorem lh:∀ (more g:List (Key×V)),(nM g more).length<=g.length+more.length
 | [],g=>by show g.length<=g.length+0;lia
 | p::r,g=>by
  have h1:=lh r (gW g p.1 p.2);have h2:=jU g p.1 p.2;show (nM (gW g p.1 p.2) r).length<=_;rw [YU];lia
theorem rG:∀ {g:List (Key×V)} {ws:List (rW×rW)},VV (g.map fun v=>(kV v.1,v.2)) ws->∃ u,Carries (bB P w) ws u/\KV g u
 | [],_,r=>by cases r;exact ⟨[],Y6,.nil⟩
 | p::g,_,r=>by
  cases r with
  | @cons a b as bs h t =>
   obtain ⟨u,c,q⟩:=rG t;obtain ⟨C,z⟩:=b;exact ⟨(p.1,z)::u,⟨mJ h.1,rfl,c⟩,.cons ⟨rfl,h.2⟩ q⟩
def Re (zG:List (TE×TE)):TE:=fun σ H Q=>∀ p,H p=ξ->uD zG σ (upd H p (.dK [])) fun ps r=>r p=θ (.dK [])/\∃ kvs:List (Key×V),ps=kvs.map (fun g=>(kV g.1,g.2))/\kvs.length<=15/\Q (.ref p) (upd r p (.dK (nM [] kvs)))
theorem IP (h:Tu X pos keys values zG) (g:keys.all (·.isSome)=ζ) (Y:keys.length=values.length) (v:keys≠[])
  (u:keys.length<=15):PE X (.Dict keys values pos) (Re zG):=by
 intro J s σ H Q I q;have hn:=I.hok.fresh (oR s.heap.objs.size);have M:=I.laid (fun _ _ q=>eQ _ q) (oR _) (wH s.heap I.big);refine wpAny_Dict_walk (knd:=bB X.prog X.w) g Y v u (bV (h J _ σ _ _ M (q _ hn)) fun ws s2 ⟨ps,H2,I2,rel,e,kvs,ep,lk,q2⟩=>?_);subst ep;obtain ⟨L,c,rk⟩:=rG rel;let ⟨z,hd,vs0,r0,dd⟩:=HR I2.hok e
 cases r0;refine ⟨L,c,dd,fun h' r hs=>⟨.ref s.heap.objs.size,_,?_,rfl,q2⟩⟩;have hz:(nM [] kvs).length<=RW:=by
  have h1:=lh kvs [];rw [abo] at h1;rw [Zd];lia
 have C:∃ q,h'.get? s.heap.objs.size=θ q:=let ⟨q,_,_,hq,_⟩:=r;⟨q,hq⟩;exact pE I2 (by rw [e];exact Y6) hs C (vw hz hd (rk.merge .nil) r)
structure M1 (X:Cx) (o:Zq) (m:Str) (apos:Pos) (e:Zq) (cpos:Pos):Prop where
 base:Y4 o m X.env (eval o X.env)=eval o X.env
 few:((aaa cpos (YI [e] X.env)).all (fun x=>!x.1)&&(backToKw cpos (aaJ [] X.env)).all (fun x=>x.1.isSome)
  && decide (([e]:List Zq).length+([]:List aaQ).length+(if ([]:List aaQ).isEmpty then 0 else 1) < 30))=ζ
 line:(apos.endLine==cpos.line)=ζ
 trees:aaa cpos (YI [e] X.env)=[(η,eval e X.env)]
structure M2 (X:Cx) (o:Zq) (m:Str) (apos:Pos) (e f:Zq) (cpos:Pos):Prop where
 base:Y4 o m X.env (eval o X.env)=eval o X.env
 few:((aaa cpos (YI [e,f] X.env)).all (fun x=>!x.1)&&(backToKw cpos (aaJ [] X.env)).all (fun x=>x.1.isSome)
  && decide (([e,f]:List Zq).length+([]:List aaQ).length+(if ([]:List aaQ).isEmpty then 0 else 1) < 30))=ζ
 line:(apos.endLine==cpos.line)=ζ
 trees:aaa cpos (YI [e,f] X.env)=[(η,eval e X.env),(η,eval f X.env)]
def SD (H:Hp) (a:YS):Prop:=(∃ g,Rd H a (.dK g))\/∃ g,Rd H a (.dT g)
theorem uY {σ:St} (I:Inv X af σ H s) (d:SD H a) :
  s.TypeIs (.ref a) "dict"/\(∀ b,aab a=.ref b->∃ ob,s.heap.get? b=θ ob/\ob.dict=ξ)/\(a==Z6)=η:=by
 rcases d with ⟨g,e⟩|⟨g,e⟩
 .let ⟨_,hd,vs,_,dd⟩:=jO I.hok e
  refine ⟨dd.typeIs,fun b q=>?_,hd⟩;cases q;obtain ⟨ob,_,_,h1,h2,_⟩:=dd;exact ⟨ob,h1,h2.2.1⟩
 .let ⟨_,hd,xs,_,dd⟩:=oB I.hok e
  refine ⟨dd.typeIs,fun b q=>?_,hd⟩;cases q;obtain ⟨ob,_,_,h1,h2,_⟩:=dd;exact ⟨ob,h1,h2.2.1⟩
section
variable {σ:St}
theorem MV (Y:A.units+1 < aa3) (I:Inv X af σ H s) (g:jo H a y o) (J:aQ y u) (h:∀ C L,Inv X af σ H L->aQ (o.getD .non) C->Q C L) :
  YH (YN X.prog X.w) A (call (.builtin "dict.get") [.ref a,u]) Q E s:=by
 rcases g with ⟨r,k,e,v,l⟩|⟨r,k,b,e,v,M,l⟩
 .subst v;let ⟨z,hd,vs,rel,dd⟩:=jO I.hok e
  refine call_meetsIn Z0 dd.typeIs aaO (acr _ _) (meets_dict_get (bB X.prog X.w) a (mJ J) hd) ⟨_,dd.mapOf,h _ _ (I.tok _) ?_⟩;rw [l];exact (rel.val k).getD rfl
 .subst v;cases ((J));let ⟨z,hd,xs,rel,dd⟩:=oB I.hok e
  refine call_meetsIn Z0 dd.typeIs aaO (acr _ _) (meetsH_dict_get (tupleKind (bB X.prog X.w)) a b hd) ⟨aap Y,k,xs,ly I.hok M,dd,h _ _ (I.tok _) ?_⟩;rw [l];exact (rel.val k).getD rfl
theorem M0 (Z:A.units+1 < aa3) (I:Inv X af σ H s) (g:jo H a y o) (L:aQ y u) (rd:aQ d r) (h:∀ J M,Inv X af σ H M->aQ (o.getD d) J->Q J M) :
  YH (YN X.prog X.w) A (call (.builtin "dict.get") [.ref a,u,r]) Q E s:=by
 rcases g with ⟨v,k,e,C,l⟩|⟨v,k,b,e,C,Y,l⟩
 .subst C;let ⟨z,hd,vs,rel,dd⟩:=jO I.hok e
  refine call_meetsIn Z0 dd.typeIs aaO (acs _ _ _) (meets_dict_get_default (bB X.prog X.w) a (mJ L) hd r) ⟨_,dd.mapOf,h _ _ (I.tok _) ?_⟩;rw [l];exact (rel.val k).getD rd
 .subst C;cases ((L));let ⟨z,hd,xs,rel,dd⟩:=oB I.hok e
  refine call_meetsIn Z0 dd.typeIs aaO (acs _ _ _) (meetsH_dict_get_default (tupleKind (bB X.prog X.w)) a b hd r) ⟨aap Z,k,xs,ly I.hok Y,dd,h _ _ (I.tok _) ?_⟩;rw [l];exact (rel.val k).getD rd
end
def Pj (u r:TE):TE:=fun σ H Q=>u σ H fun x H1=>∃ a,x=.ref a/\SD H1 a/\r σ H1 fun y g=>∃ o,jo g a y o/\Q (o.getD .non) g
def NV (v r tx:TE):TE:=fun σ H Q=>v σ H fun x H1=>∃ a,x=.ref a/\SD H1 a/\r σ H1 fun y u=>tx σ u fun z g=>∃ o,jo g a y o/\Q (o.getD z) g
def uQ (z u:TE):TE:=fun σ H Q=>z σ H fun x H1=>∃ a,x=.ref a/\SD H1 a/\u σ H1 fun y r=>∃ g k v,r a=θ (.dK g)/\y=kV k/\fX g k=θ v/\Q v (upd r a (.dK (jx g k)))
section
theorem FZ (L:X.A.units+1 < aa3) (C:PE X o td) (J:PE X e ty) (m:M1 X o "get" apos e cpos):PE X (.Call (.Attribute o "get" apos) [e] [] cpos) (Pj td ty):=by
 intro v s σ H Q I h;refine wpAny_Call_method m.base m.few m.line aaH Z0 acI (bV (C v s σ H _ I h) fun u s1 ⟨x,H1,I1,rx,a,ex,d,q1⟩=>?_);subst ex;obtain rfl:u=aab a:=rx;let ⟨t1,t2,_⟩:=uY I1 d
 refine ⟨t1,t2,?_⟩;rw [m.trees];refine ZC rfl (aau (Z3 (bV (J v s1 σ H1 _ I1 q1) fun iv s2 ⟨y,H2,I2,ry,ov,g,q2⟩=>aaz ?_)));exact MV L I2 g ry fun M Y z r=>⟨_,H2,z,r,q2⟩
theorem E5 (Y:X.A.units+1 < aa3) (C:PE X o td) (M:PE X e ty) (J:PE X f tx) (m:M2 X o "get" apos e f cpos):PE X (.Call (.Attribute o "get" apos) [e,f] [] cpos) (NV td ty tx):=by
 intro v s σ H Q I h;refine wpAny_Call_method m.base m.few m.line aaH Z0 acI (bV (C v s σ H _ I h) fun u s1 ⟨x,H1,I1,rx,a,ex,d,q1⟩=>?_);subst ex;obtain rfl:u=aab a:=rx;let ⟨t1,t2,_⟩:=uY I1 d
 refine ⟨t1,t2,?_⟩;rw [m.trees];refine ZC rfl (aau (Z3 (bV (M v s1 σ H1 _ I1 q1) fun iv s2 ⟨y,H2,I2,ry,q2⟩ =>
  Z3 (bV (J v s2 σ H2 _ I2 q2) fun fv s3 ⟨z,H3,I3,rz,ov,g,q3⟩=>aaz ?_))))
 exact M0 Y I3 g ry rz fun Z s4 L r=>⟨_,H3,L,r,q3⟩
theorem wK (C:PE X o td) (J:PE X e ty) (m:M1 X o "pop" apos e cpos):PE X (.Call (.Attribute o "pop" apos) [e] [] cpos) (uQ td ty):=by
 intro r s σ H Q I h;refine wpAny_Call_method m.base m.few m.line aaH acH PySem.F.type_dict_pop (bV (C r s σ H _ I h) fun u s1 ⟨x,H1,I1,rx,a,ex,d,q1⟩=>?_);subst ex;obtain rfl:u=aab a:=rx;let ⟨t1,t2,_⟩:=uY I1 d
 refine ⟨t1,t2,?_⟩;rw [m.trees];refine ZC rfl (aau (Z3 (bV (J r s1 σ H1 _ I1 q1) fun iv s2 ⟨y,H2,I2,ry,kvs,k,v,ea,ey,l,q2⟩=>aaz ?_)));subst ey;exact SM I2 ea ry l (.inl rfl) fun L M z g=>⟨v,_,z,g,q2⟩
end
section
variable {σ:St}
theorem Gj (I:Inv X af σ H s) (e:Rd H a (.dK kvs)) (h:∀ p r,H p=ξ->Inv X af σ (upd H p (.dK kvs)) r->Q (.ref p) r):YH (YN X.prog X.w) A (call (.type "dict") [.ref a]) Q E s:=by
 let ⟨z,hd,vs,rel,dd⟩:=jO I.hok e
 refine kt_call_dict hd dd (by rw [<- rel.length];exact z) fun h' g hs=>?_;refine h _ _ (I.hok.fresh (oR _)) (I.laid (fun b q hq=>?_) (oR _) (vw z (beq_eq_false_iff_ne.mpr (aaN (YL I.big))) rel g));exact (hs.2 b (YL (ID hq))).trans (eQ _ hq)
end
end L2
namespace Att
open PySem PySem.W PySem.Calls PyProof.Rows
theorem pd:∀ (ns:List Int) (vs:ad6),WellAll P h vs (ns.map WData.int)->IntsAre vs ns:=by
 intro ns;induction ns with
 | nil =>
  intro vs w;rw [acJ] at w;cases w;exact .nil
 | cons n ns g =>
  intro vs w;rw [YB] at w;cases w with
  | cons a b =>
   cases a;exact .cons _ _ (g _ b)
theorem C4 {l:OpenLaw} (hn:l.most=θ n)
  (g:l.row.toRowW.claim.pre args=ζ) (I:WellAll P h vals args) :
  ∃ a vs ns,vals=[aab a]/\args=[WData.list (ns.map WData.int)]/\h.get? a=θ { cls:=.type "list",data:=.seq vs.toArray }/\IntsAre vs ns/\ns.length<=n:=by
 have J:WShape.hasAll [] args [.list .int]=ζ:=(pre_splitW g).1;have L:l.pre.holds [] { args:=args }=ζ:=(pre_splitW g).2;obtain ⟨d,r,rfl,h1,h2⟩:=hasAllW_cons J;obtain rfl:=hasAllW_nil h2;obtain ⟨xs,rfl,Y⟩:=hasW_list h1;obtain ⟨ns,rfl⟩:=items_int Y;have v:ns.length<=n:=by
  unfold OpenLaw.pre at L;have z:(WTm.not (.lt (.lit (.int (n:Int))) (.len (.arg 0)))).holds [] { args:=[.list (ns.map .int)] }=ζ:=by
   have z:=(holds_andW L).1;rw [hn] at z;exact z
  have C:=condW_of z (w_not (w_lt w_lit (w_len_list (w_arg rfl))));rw [iN] at C;refine Nat.le_of_not_lt fun q=>?_;have q':(n:Int) < ((ns.length:Nat):Int):=by lia
  first
   | (rw [adX q'] at C;exact absurd C (by decide))
   | (simp at C;lia)
 cases I with
 | cons w1 Z =>
  cases Z;cases w1 with
  | list M u=>exact ⟨_,_,ns,rfl,rfl,M,pd ns _ u,v⟩
theorem xg {l:OpenLaw}
  (hn:l.most=θ n) (hdf:d.params.defaults=[])
  (call:∀ (w:Zv) (u g:IF) (mg mb:ad4) (J:YS) (o:Obj) (pm M v:rW) (a:YS) (vs:ad6) (ns:List Int),
   Ground q loose [] XP w u mg mb g.heap->YP w g.heap ->
   g.heap.get? J=θ o->o.data=.func (docDef d.name d.params d.body d.scope pm M v)->g.heap.CodeRec M d.name->mg d.name=θ (.ref J) ->
   g.heap.get? a=θ { cls:=.type "list",data:=.seq vs.toArray }->IntsAre vs ns->ns.length<=n->g.gens=#[] ->
   ab9 (YN l.prog w) callerA (.call (.ref J) ⟨[.ref a],[]⟩) (fun r Z=>r=.ok (.ret (.bool ζ))/\OldK g.heap Z.heap/\Z.os=g.os/\AllBare Z.gens) g) :
  WalkO q loose XP YP l.row.toRowW d [] (fun f vs=>ads f vs):=by
 intro w u g mg mb G Y J o pm M v dV kV ho hd hcd hD hmg hg args vals as L hlay hrd hwl hlo;obtain rfl:dV=.none:=Dflts.none hD hdf;obtain rfl:kV=.none:=Dflts.noKw hD;obtain ⟨a,vs,ns,rfl,rfl,C,z,I⟩:=C4 hn L hwl;refine enter_call (abi (call w u g mg mb J o pm M v a vs ns G Y ho (fd_plain hd) hcd hmg C z I hg) fun r Z hq=>?_);obtain ⟨rfl,h2,h3,h4⟩:=hq;exact ⟨.inl ⟨.bool ζ,.bool ζ,[],rfl,fun _=>rfl,.bool ζ,(fun l args =>  postW_of (r:=l.row.toRowW) (X:=(ζ==ζ))
   (show WShape.has [] (.bool ζ) .bool=ζ by first|rfl|decide|simp [WShape.has,WShape.arms,WShape.armsAll])
   (show (WTm.eq .res (.lit (.bool ζ))).value [] { args:=args,res:=θ (.bool ζ),after:=args }=θ (.bool (ζ==ζ)) from w_eq_bool (w_res rfl) w_lit) rfl) l _,fun _=>⟨List.Pairwise.nil,fun _ hm=>(nomatch hm)⟩⟩,h2,h3,h4⟩
end Att
namespace L2
open PySem PySem.Spec PyProof.Rows
theorem tw:∀ {vs:ad6} {ns:List Int},IntsAre vs ns->aU (ns.map V.int) vs
 | _,_,.nil=>.nil
 | _,_,.cons n t h=>.cons ⟨t,rfl⟩ (tw h)
def M6 (H:Hp):Prop:=∀ b,H b=ξ\/∃ o xs,H b=θ (.frz o (.lst xs))
theorem Fd {K:aT}
  (KX:K.In s₁.heap) (Y:s₁.heap.Ns YQ mg) (hb:s₁.heap.Ns builtinsNs mb) (hbb:∀ x:Str,x≠"__name__"->mb x=YT x) (hlim:s₁.heap.NoLimit) (hg:s₁.gens=#[])
  (ha:s₁.heap.get? a=θ { cls:=.type "list",data:=.seq vs.toArray }) (hi:IntsAre vs ns) (hl:ns.length<=RW) (hr:Room k callerA)
  (F:∀ base:abh,K.In base->base.Ns YQ mg->FnOk P w K mg base CX k fa fd [x] sp) (L:∀ (s:IF) (u:rW),BindsTo s fd ⟨[u],[]⟩ [(x,u)])
  (hsp:∀ H:Hp,M6 H->eV K H a (ns.map V.int)->sp [.ref a] H (fun v _=>v=.bl ζ) fun _ _ _=>False)
  (hCX:∀ H e C,CX [] H s₁ (fun _ _ _=>False) e C->False) :
  ab9 (YN P w) callerA (.call (.ref fa) ⟨[.ref a],[]⟩) (fun r C=>r=.ok (.ret (.bool ζ))/\OldK s₁.heap C.heap/\C.os=s₁.os/\AllBare C.gens) s₁:=by
 have rv:=tw hi;have M:=hi.length
 have J:∀ H:Hp,M6 H->eV K H a (ns.map V.int)->l9 P w H s₁.heap->(∀ b,H b≠ξ->b=a)->(H a≠ξ->K.lookup a=ξ) ->
   ab9 (YN P w) callerA (.call (.ref fa) ⟨[.ref a],[]⟩) (fun r C=>r=.ok (.ret (.bool ζ))/\OldK s₁.heap C.heap/\C.os=s₁.os/\AllBare C.gens) s₁:=by
  intro H hO hS Z hA hK;have g:∀ {b:YS} {o:Obj},s₁.heap.get? b=θ o->H b=ξ->(xH s₁.heap H).get? b=θ o:=fun e n=>Ge e n;have noA:∀ {b:YS} {o:Obj} {es:Array DictEntry} {ep:Nat},s₁.heap.get? b=θ o->o.data=.dict es ep->H b=ξ:=fun {b o es ep} e d=>by
   cases q:H b with
   | none=>rfl
   | some u =>
    have e':b=a:=hA b (by rw [q];simp);subst e';rw [ha] at e;cases e;have d':Data.seq vs.toArray _=Data.dict es ep:=d;cases d'
  have I:∀ {b:YS} {m:ad4},s₁.heap.Ns b m->(xH s₁.heap H).Ns b m:=fun {b m} ⟨o,es,ep,e,d,r⟩=>⟨o,es,ep,g e (noA e d),d,r⟩;have hKb:K.In (xH s₁.heap H):=fun b o e=>g (KX b o e) (by
   cases q:H b with
   | none=>rfl
   | some u =>
    have e':b=a:=hA b (by rw [q];simp);subst e';rw [hK (by rw [q];simp)] at e;cases e)
  have hM:Mod K mg (xH s₁.heap H):=⟨hKb,I Y,⟨mb,I hb,hbb⟩,let ⟨mc,h1,h2⟩:=hlim;⟨mc,I h1,h2⟩⟩;have e0:Env0 P w K mg (xH s₁.heap H) callerA [] s₁ H:=⟨rfl,hM,fun b o e=>JV e,adA ((fun h H=>PySem.W.hideAll_size _ _) _ _),trivial,fun b hb=>absurd (show b∈([]:ad5) from hb) (by simp),Z,.of_eq hg⟩;refine abi ((F _ hKb (I Y)).run callerA [] s₁ H ⟨[.ref a],[]⟩ [.ref a] [.ref a] _ _ hr e0 (L s₁ (.ref a)) (.cons rfl .nil) (hsp H hO hS)) fun r C h=>?_;cases r with
  | error e=>exact (hCX H e C h).elim
  | ok fl =>
   cases fl with
   | next=>exact ZT h
   | brk=>exact ZT h
   | cont=>exact ZT h
   | ret u =>
    let ⟨v,H',os,bare,un,hok',r',q⟩:=h
    have q':v=.bl ζ:=q;subst q';obtain rfl:u=adS ζ:=r';refine ⟨rfl,OldK.of_keep fun b o e=>?_,os,bare⟩;cases q:H b with
    | none=>exact un.keep b o e q (by intro z;exact absurd (show b∈([]:ad5) from z) (by simp)) (by simp)
    | some u =>
     rcases hO b with z|⟨ob,xs,z⟩
     .rw [q] at z;cases z
     .have z2:=un.frzs b ob _ z;let ⟨e1,_⟩:=Z b _ z
      let ⟨e2,_⟩:=hok' b _ z2
      rw [e] at e1;cases e1;exact e2
 cases hk:K.lookup a with
 | some o =>
  have e:=KX a o hk;rw [ha] at e;cases e;refine J (fun _=>ξ) (fun _=>.inl rfl) (.inr ⟨_,vs.toArray,_,hk,rfl,rfl,rfl,by rw [YC,M];exact hl,by simpa using rv⟩) (fun b u z=>by have z':(ξ:Option HO)=θ u:=z;cases z') (fun b z=>absurd rfl z) fun z=>absurd rfl z
 | none =>
  refine J (fun b=>if b=a then θ (.frz { cls:=.type "list",data:=.seq vs.toArray } (.lst (ns.map V.int))) else ξ) (fun b=>?_) (.inl (.inr ⟨{ cls:=.type "list",data:=.seq vs.toArray },adU rfl⟩)) (fun b u z=>?_) (fun b z=>?_) fun _=>hk
  .by_cases hb:b=a
   .exact .inr ⟨_,_,adU hb⟩
   .exact .inl (adV hb)
  .by_cases hb:b=a
   .have z':=(adU hb).symm.trans z;cases z';subst hb;exact ⟨ha,by rw [iN];exact hl,vs,_,rv,ha⟩
   .have z':=(adV hb).symm.trans z;cases z'
  .by_cases hb:b=a
   .exact hb
   .exact absurd (adV hb) z
theorem Jj {l:acK} {K:acn->aT} {CX:Zv->P6} {sp:Zv->Sp}
  (hn:l.most=θ n) (hn2:n<=RW) (hdf:d.params.defaults=[]) (hr:Room k callerA)
  (hY:∀ (w:Zv) (h:abh),YP w h->(K w.params).In h)
  (F:∀ (w:Zv) (mg:ad4) (J:YS) (h:abh),(K w.params).In h->h.Ns YQ mg->mg d.name=θ (.ref J) ->
   ∃ M:aaS,(∀ (s:IF) (u:rW),BindsTo s M ⟨[u],[]⟩ [(x,u)]) /\
    ∀ base:abh,(K w.params).In base->base.Ns YQ mg->FnOk l.prog w (K w.params) mg base (CX w) k J M [x] (sp w))
  (L:∀ (w:Zv) (H:Hp) (a:YS) (ns:List Int),ns.length<=n->M6 H->eV (K w.params) H a (ns.map V.int)->sp w [.ref a] H (fun v _=>v=.bl ζ) fun _ _ _=>False)
  (Z:∀ (w:Zv) (H:Hp) (s:IF) (e:rW) (s':IF),CX w [] H s (fun _ _ _=>False) e s'->False) :
  PySem.W.WalkO q loose XP YP l.row.toRowW d [] (fun f vs=>ads f vs):=by
 refine Att.xg hn hdf fun w s₀ C mg mb J o pm cd doc a vs ns G Y ho hd hcd hmg I z r hg=>?_;have KX:=hY w _ Y;obtain ⟨M,hb,hF⟩:=F w mg J _ KX G.T.g hmg;exact Fd KX G.T.g G.T.b G.T.builtins G.T.nolimit hg I z (Le r hn2) hr hF hb (fun H hO hS=>L w H a ns r hO hS) fun H e s'=>Z w H C e s'
def i5 (s:aa0):Arguments:=match s with
 | .FunctionDef _ a _ _ _ _ _ _ _ _=>a
 | _=>{ posonlyargs:=[],args:=[],vararg:=ξ,kwonlyargs:=[],kw_defaults:=[],kwarg:=ξ,defaults:=[] }
def eJ (s:aa0):List aa0:=match s with
 | .FunctionDef _ _ b _ _ _ _ _ _ _=>b
 | _=>[]
noncomputable def aY (s:aa0):Scope:=match s with
 | .FunctionDef _ _ _ _ _ _ sc _ _ _=>sc
 | _=>{ kind:=.function,names:=[],isGenerator:=η,isCoroutine:=η }
abbrev l8:P6:=fun _ _ _ _ _ _=>False
abbrev E0:XK:=fun _ _ _=>False
def ES:qL l8 X E0:=fun _ _ _ _ _ _ _ h=>h.elim
structure Fun (K:aT) (x qual:Str) (st:aa0) (f:YS) (fd:aaS):Prop where
 ex:∃ (oc:rW) (od:Option YS) (kV doc pm:rW) (an:Option YS) (cdv ct:rW) (osl:Array (Option rW)),
  fd=aaD x qual (i5 st) (eJ st) (aY st) .none kV doc pm an cdv ct/\K.lookup f=θ ⟨oc,od,.func fd,osl⟩/\abC K cdv qual=ζ
 kp:aa5 K (.ref f)=ζ
section
variable {K:aT}
theorem Fun.ok {st:aa0} (F:Fun K x qual st f fd) (S:FnScope N ps (aY st)) (len:∀ vs H Q E,sp vs H Q E->vs.length=ps.length)
  (u:∀ (r:rW) (A:aaF) (g:List Env) (s:IF) (H:Hp) (vs:ad7) (Q:VK) (E:XK),Room k (A.deeper (ac0 qual (aY st) s.heap.objs.size f r))->sp vs H Q E ->
   ∃ t,Io (wq l8 P w K mg base N qual (aY st) f r A g s H E).nox (eJ st) t/\t { nx:=fun _ H'=>Q .non H',rt:=Q } (start N vs) H):FnOk P w K mg base l8 (k+1) f fd ps sp:=by
 obtain ⟨oc,od,kV,C,J,L,r,I,osl,rfl,lk,v⟩:=F.ex;refine S3 lk v S len fun A g s H vs Q E hr z=>?_;obtain ⟨t,h,q⟩:=u r A g s H vs Q E hr z;exact ⟨t,h.nox,q⟩
theorem Fun.binds {st:aa0} (F:Fun K x qual st f fd)
  (h:∀ (kV g u:rW) (v:Option YS) (r z:rW) (us:ad6),us.length=ps.length->bindArgs (aaD x qual (i5 st) (eJ st) (aY st) .none kV g u v r z) ⟨us,[]⟩=pure (ps.zip us)):gi K fd ps []:=by
 obtain ⟨oc,od,kV,g,u,v,r,z,osl,rfl,lk,C⟩:=F.ex;exact .all (h kV g u v r z)
theorem EK {st:aa0} {kV r u g v:rW} (l:K.lookup f=θ ⟨oc,od,.func (aaD x qual (i5 st) (eJ st) (aY st) .none kV r u an g v),osl⟩)
  (c:abC K g qual=ζ) (k:aa5 K (.ref f)=ζ):Fun K x qual st f (aaD x qual (i5 st) (eJ st) (aY st) .none kV r u an g v):=⟨⟨oc,od,kV,r,u,an,g,v,osl,rfl,l,c⟩,k⟩
end
section
variable {X:Cx}
theorem pv (i:Nat) {pos:Pos} (r:X.N[i]?=θ x:=by rfl) (hv:sd X.env.scope x:=by walk_at"v") (u:ad9 x:=by decide)
  (g:(x==("__classdict__":Str))=η:=by decide):PE X (.Name x pos) (R1 i):=D6 r hv u g
end
def aw (H H':Hp):Prop:=∀ b o,H b=θ o->H' b=θ o
def aw.refl (H:Hp):aw H H:=fun _ _ h=>h
theorem aw.trans (a:aw H H1) (b:aw H1 H2):aw H H2:=fun c o h=>b c o (a c o h)
theorem aw.free (e:aw H H') (h:H' l=Option.none):H l=Option.none:=by
 cases q:H l with
 | none=>rfl
 | some o =>
  rw [e l o q] at h;cases h
theorem aw.seq {K:aT} (e:aw H H') (h:eV K H a xs):eV K H' a xs:=by
 rcases h with (h|⟨o,h⟩)|h
 .exact .inl (.inl (e _ _ h))
 .exact .inl (.inr ⟨o,e _ _ h⟩)
 .exact .inr h
section
variable {κ:Type} [DecidableEq κ]
theorem Ch {p:κ×V} (e:p.1=k):jx (p::r) k=jx r k:=by
 unfold jx
 grind
theorem Ce {p:κ×V} (e:¬ p.1=k):jx (p::r) k=p::jx r k:=by
 unfold jx
 grind
end
end L2
namespace L2
open PySem PySem.W PySem.W.X PySem.W.ZRun
theorem walkX {run:rW->ad6->Sem rW}
  (e:∀ P,as=(K P).map (·.1)) (h:WalkO q loose XP (fun w h=>(K w.params).In h) r d kwd run):WalkX q loose XP (obsZ as) (valZ K n t) r d kwd run :=
 fun w u g mg mb G y a o pm cd C I kV h1 h2 J Y Z M v z as L hp hl hr hw hs =>
  h w u g mg mb G (InK.keeps w u.heap g.heap (z_facts e y).2.1 L.keeps) a o pm cd C I kV h1 h2 J Y Z M v z as hp hl hr hw hs
theorem ln1 {α:Type} {P:List α->Prop} (h:∀ a,P [a]):∀ us:List α,us.length=1->P us:=fun us e=>by
 obtain ⟨a,rfl⟩:=aaP.mp e;exact h a
theorem W9 {α:Type} {P:List α->Prop} (h:∀ a us,us.length=n->P (a::us)):∀ us:List α,us.length=n+1->P us:=fun us e=>by
 cases us with
 | nil=>cases e
 | cons a us=>simp_all
theorem ln2 {α:Type} {P:List α->Prop} (h:∀ a b,P [a,b]):∀ us:List α,us.length=2->P us:=W9 fun a=>ln1 fun b=>h a b
theorem ln3 {α:Type} {P:List α->Prop} (h:∀ a b c,P [a,b,c]):∀ us:List α,us.length=3->P us:=W9 fun a=>ln2 fun b c=>h a b c
theorem ln4 {α:Type} {P:List α->Prop} (h:∀ a b c d,P [a,b,c,d]):∀ us:List α,us.length=4->P us:=W9 fun a=>ln3 fun b c d=>h a b c d
end L2
namespace L2
open PySem PySem.Spec PyProof.Rows
noncomputable def fT (cells:List (Str×YS)):List (Str×abE)->List (Str×YS)->List (Str×YS)
 | [],acc=>acc
 | (n,k)::r,acc=>if k=.free then fT cells r ((n,(cells.lookup n).getD 0)::acc) else fT cells r acc
theorem jF (h:∀ y∈scope.names,y.2=.free->∃ c,env.cells.lookup y.1=θ c):closureFor scope env=pure (fT env.cells scope.names []):=by
 simp only [closureFor];generalize ([]:List (Str×YS))=acc;revert h
 generalize scope.names=names;intro h;induction names generalizing acc with
 | nil=>rfl
 | cons y r z =>
  let ⟨n,k⟩:=y
  by_cases g:k=.free
  .subst g;let ⟨c,hc⟩:=h (n,.free) Zc rfl
   have v:cellOf env n=pure c:=by unfold cellOf;rw [hc]
   have u:fT env.cells ((n,.free)::r) acc=fT env.cells r ((n,c)::acc):=by
    show (if ZH=.free then _ else _)=_;rw [hc];rfl
   simp_all
  .have u:fT env.cells ((n,k)::r) acc=fT env.cells r acc:=by
    show (if k=.free then _ else _)=_;rw [adV g]
   simp_all
theorem vL:∀ (g:List (Str×abE)) (acc:List (Str×YS)),(∀ y∈g,y.2=.free->∃ c,cells.lookup y.1=θ c) ->
  (fT cells g acc).lookup x=θ c->cells.lookup x=θ c\/acc.lookup x=θ c
 | [],acc,_,e=>.inr e
 | (n,k)::r,acc,h,e=>by
  have hr  := fun y hy=>h y (lT _ hy);by_cases u:k=.free
  .subst u;rcases vL r _ hr e with z|z
   .exact .inl z
   .rw [aak] at z;cases hx:x==n with
    | true =>
     rw [hx] at z;let ⟨c',hc⟩:=h (n,.free) Zc rfl
     grind
    | false =>
     simp_all
  .have e2:fT cells ((n,k)::r) acc=fT cells r acc:=by
    show (if k=.free then _ else _)=_;rw [adV u]
   rw [e2] at e;exact vL r acc hr e
theorem mH {cells:List (Str×YS)} {x:Str}:∀ (g:List (Str×abE)) (acc:List (Str×YS)),((x,ZH)∈g\/∃ c,acc.lookup x=θ c)->∃ c,(fT cells g acc).lookup x=θ c
 | [],acc,h=>by
  rcases h with h|h
  .cases h
  .exact h
 | (n,k)::r,acc,h=>by
  by_cases u:k=.free
  .subst u;refine mH r _ ?_;rcases h with h|⟨c,h⟩
   .rcases mK.mp h with h|h
    .simp_all
    .exact .inl h
   .right
    grind
  .have e2:fT cells ((n,k)::r) acc=fT cells r acc:=by
    show (if k=.free then _ else _)=_;rw [adV u]
   rw [e2];refine mH r acc ?_
   grind
structure Bk where
 cl:List (Str×YS)
 C:YS
 s:IF
 H:Hp
 fp:ad5
 af:ad2
noncomputable def iW (X:Cx) (N:ad1) (scope:Scope) (b:Bk):Cx :=
 { X with tn:=0,N:=N,s₀:=b.s,H₀:=b.H,env:=compEnvC scope b.cl b.C X.env,outer:=X.stack,stack:=X.stack,ex:=b.fp,fn:=fun _=>η,pn:=X.pn++b.af,xe:=fun _ _=>False }
noncomputable def qD (ON:ad1) (g:List (Str×abE)):List (Option Nat)->ad1->Bool
 | [],[]=>ζ
 | none::r,_::n=>qD ON g r n
 | some j::r,x::n=>decide (ON[j]?=θ x)&&decide ((x,ZH)∈g)&&qD ON g r n
 | _,_=>η
def wY (osc:Scope) (ON N:ad1) (ix:List (Option Nat)) (scope:Scope):Bool :=
 decide (scope.kind=.function)&&(scope.names.all fun y=>decide (y.2≠.cell))&&(scope.names.all fun y=>decide (y.2=.local->scope.names.lookup y.1=θ .local)) &&
 (scope.names.all fun y=>decide (y.2=.free->osc.names.lookup y.1=θ .cell\/osc.names.lookup y.1=θ .free))&&(scope.names.all fun y=>decide (y.2=.local->(y.1,ZH)∉scope.names))&&qD ON scope.names ix N
structure CScope (osc:Scope) (ON N:ad1) (ix:List (Option Nat)) (scope:Scope):Prop where
 kind:scope.kind=.function
 nocell:∀ y∈scope.names,y.2≠.cell
 names:∀ y∈scope.names,y.2=.local->scope.names.lookup y.1=θ .local
 outs:∀ y∈scope.names,y.2=.free->osc.names.lookup y.1=θ .cell\/osc.names.lookup y.1=θ .free
 nolf:∀ x,(x,NameKind.local)∈scope.names->(x,ZH)∈scope.names->False
 len:ix.length=N.length
 cap:∀ (i j:Nat) (x:Str),ix[i]?=θ (θ j)->N[i]?=θ x->ON[j]?=θ x/\(x,ZH)∈scope.names
theorem nT:∀ {ix:List (Option Nat)} {N:ad1},qD ON names ix N=ζ->ix.length=N.length
 | [],[],_=>rfl
 | none::r,_::n,h=>adZ Nat.succ (nT h)
 | some j::r,x::n,h=>by
  have h':(decide (ON[j]?=θ x)&&decide ((x,ZH)∈names)&&qD ON names r n)=ζ:=h;rw [YR] at h';exact adZ Nat.succ (nT h'.2)
 | [],_::_,h=>by cases h
 | none::_,[],h=>by cases h
 | some _::_,[],h=>by cases h
theorem nO:∀ {ix:List (Option Nat)} {N:ad1},qD ON names ix N=ζ->∀ (i j:Nat) (x:Str),ix[i]?=θ (θ j)->N[i]?=θ x->ON[j]?=θ x/\(x,ZH)∈names
 | [],_,_,i,j,x,h1,_=>by simp at h1
 | none::r,y::n,h,0,j,x,h1,_=>by simp at h1
 | none::r,y::n,h,i+1,j,x,h1,h2=>nO (ix:=r) h i j x (by simpa using h1) (by simpa using h2)
 | some k::r,y::n,h,i,j,x,h1,h2=>by
  have h':(decide (ON[k]?=θ y)&&decide ((y,ZH)∈names)&&qD ON names r n)=ζ:=h;rw [YR] at h';cases i with
  | zero =>
   simp_all
  | succ i=>exact nO h'.2 i j x (by simpa using h1) (by simpa using h2)
 | none::_,[],h,_,_,_,_,_=>by cases h
 | some _::_,[],h,_,_,_,_,_=>by cases h
theorem Ll (h:wY osc ON N ix scope=ζ):CScope osc ON N ix scope:=by
 unfold wY at h;simp only [YR] at h;obtain ⟨⟨⟨⟨⟨h1,h2⟩,C⟩,r⟩,z⟩,g⟩:=h;exact ⟨adY h1,fun y hy=>adY (Zy.mp h2 y hy),fun y hy=>adY (Zy.mp C y hy),fun y hy=>adY (Zy.mp r y hy),
  fun x u v=>adY (Zy.mp z (x,.local) u) rfl v,nT g,nO g⟩
def lz (ix:List (Option Nat)) (σ:St):St:=ix.map fun o=>o.bind fun j=>(σ[j]?).getD ξ
theorem eh {env:Env}:∀ {g:List (Str×abE)} {x:Str} {k:abE},(g.map fun (n,k)=>if (k==ZH&&env.scope.kind==.function&&env.kindOf n==θ .cell) then (n,adT) else (n,k)).lookup x=θ k ->
  g.lookup x=θ k\/(k=.cell/\g.lookup x=θ .free/\env.kindOf x=θ .cell)
 | [],_,_,h=>by cases h
 | (n,k')::r,x,k,h=>by
  have v:=@eh env r x k;have h:abb x ((if (k'==ZH&&env.scope.kind==.function&&env.kindOf n==θ .cell)=ζ then (n,adT) else (n,k'))::_)=θ k:=h;by_cases u:(k'==ZH&&env.scope.kind==.function&&env.kindOf n==θ .cell)=ζ
  .rw [adU u] at h;rw [aak] at h;rw [aak];cases hx:x==n with
   | true =>
    grind
   | false =>
    simp_all
  .rw [aak] at h;rw [aak];cases hx:x==n with
   | true =>
    simp_all
   | false =>
    simp_all
theorem mem_of_lookupK:∀ {g:List (Str×abE)},g.lookup x=θ k->(x,k)∈g:=fun h=>aac h
theorem Kv {σ:St} (I:Inv X af σ H s) (hE:X.env.scope=osc) (hO:X.N=ON) (S:CScope osc ON N ix scope)
  (Y:∀ b∈fp,eZ X af H b) (hfo:∀ b∈fp,∃ o,s.heap.get? b=θ o) (hn:h'.Ns s.heap.objs.size m) (hk:∀ b o,s.heap.get? b=θ o->h'.get? b=θ o) (he:s'={ s with heap:=h',toks:=s'.toks }) :
  Inv (iW X N scope ⟨fT X.env.cells scope.names [],s.heap.objs.size,s,H,fp,af⟩) [] (lz ix σ) H s':=by
 subst hE hO;have M:∀ y∈scope.names,y.2=.free->∃ c,X.env.cells.lookup y.1=θ c:=fun y hy e=>I.ok.has y.1 (S.outs y hy e);have g:∀ x c,(fT X.env.cells scope.names []).lookup x=θ c->X.env.cells.lookup x=θ c:=fun x c e=>by
  rcases vL scope.names [] M e with z|z
  .exact z
  .cases z
 have old:∀ b o,s.heap.get? b=θ o->b≠s.heap.objs.size:=fun b o e=>YL (ID e);have Z:∀ x,(compEnvC scope (fT X.env.cells scope.names []) s.heap.objs.size X.env).kindOf x=θ .cell\/(compEnvC scope (fT X.env.cells scope.names []) s.heap.objs.size X.env).kindOf x=θ .free->(x,ZH)∈scope.names:=fun x L=>by
  rcases L with L|L
  .rcases eh (env:=X.env) L with z|⟨_,z,_⟩
   .exact absurd rfl (S.nocell _ (mem_of_lookupK z))
   .exact mem_of_lookupK z
  .rcases eh (env:=X.env) L with z|⟨z,_⟩
   .exact mem_of_lookupK z
   .cases z
 have J:∀ x c,X.env.cells.lookup x=θ c->∀ v,s.heap.IsCell c v->h'.IsCell c v:=fun x c e v ⟨o,ho,hd⟩=>⟨o,hk c o ho,hd⟩;rw [he];refine ⟨⟨I.ok.mod,S.kind,I.ok.glob,I.ok.blt,oR _,fun x y c h1 h2=>I.ok.inj x y c (g x c h1) (g y c h2),fun x L=>mH _ _ (.inl (Z x L)),fun x c z _=>(nomatch z),I.ok.hd,I.ok.frames,.inl rfl,
  fun b hb=>?_,fun b o e=>I.bs b o e,Le I.ok.bsz I.sz,fun b o e hb=>?_,fun b hb L=>?_,I.stack,fun b hb=>I.stkFree b hb⟩,
  rfl,I.bare,Un.kept hk,⟨m,hn,fun i x v h1 h2 h3=>?_⟩,fun x c e=>?_,I.hok.fresh (oR _),fun x c e=>I.freeC x c (g x c e),fun p hp=>?_,I.hok.kept hk,?_,YJ _⟩
 .let ⟨o,ho⟩:=hfo b hb
  exact ⟨old b o ho,fun x c e=>(Y b hb).2.2.2.2.1 x c (g x c e)⟩
 .rcases (Y b hb).2.2.2.1 with z|z
  .exact I.ok.noex b o e z
  .exact absurd (YF (ID e) (Le I.ok.bsz z)) (aaG _)
 .rcases mK.mp (I.stkSub b L) with z|z
  .exact (Y b hb).2.1 z
  .exact (Y b hb).2.2.1 z
 .-- a captured name
  have r:(lz ix σ)[i]?=θ (θ v):=h2;unfold lz at r;rw [Zk] at r;cases e:ix[i]? with
  | none=>rw [e] at r;cases r
  | some o =>
   rw [e] at r;cases o with
   | none=>cases r
   | some j =>
    let ⟨c1,c2⟩:=S.cap i j x e h1
    have C:(σ[j]?).getD ξ=θ v:=ZY r;have ej:σ[j]?=θ (θ v):=by
     cases q:σ[j]? with
     | none=>rw [q] at C;cases C
     | some w'=>rw [q] at C;rw [<- C];rfl
    have ko:=S.outs _ c2 rfl;let ⟨mX,hnX,hl⟩:=I.loc
    have vis:sd X.env.scope x:=by
     rcases ko with k|k
     .exact .inr (.inl k)
     .exact .inr (.inr k)
    let ⟨u,ru,lk⟩:=hl j x v c1 ej vis
    refine ⟨u,ru,.inr ?_⟩;have hcel:∃ c,X.env.cells.lookup x=θ c/\s.heap.IsCell c (θ u):=by
     rcases lk with ⟨k,_⟩|⟨_,c,e1,e2⟩
     .rcases ko with k'|k'
      .have:X.env.kindOf x=θ .cell:=k'
       rw [k] at this;cases this
      .have:X.env.kindOf x=θ .free:=k'
       rw [k] at this;cases this
     .exact ⟨c,e1,e2⟩
    let ⟨c,e1,e2⟩:=hcel
    let ⟨c',e3⟩:=mH (cells:=X.env.cells) scope.names [] (.inl c2)
    have e4:=g x c' e3;rw [e1] at e4;cases e4;refine ⟨?_,c,e3,J x c e1 _ e2⟩;rcases h3 with k|k|k
    .rcases eh (env:=X.env) k with z|⟨z,_⟩
     .exact (S.nolf x (mem_of_lookupK z) c2).elim
     .cases z
    .exact .inl k
    .exact .inr k
 .let ⟨v,z⟩:=I.cell x c (g x c e)
  exact ⟨v,J x c (g x c e) v z⟩
 .have hp':p∈X.pn++af:=by
   rcases xb.mp hp with z|z
   .exact z
   .cases z
  let ⟨e,n,ne,nf,d⟩:=I.pin p hp'
  refine ⟨hk _ _ e,n,old _ _ e,fun z=>?_,d⟩;rcases mK.mp (I.stkSub _ z) with q|q
  .exact ne q
  .exact nf q
 .unfold lz;rw [iN];exact S.len
section
variable {prog:Z9} {w:Zv} {A:aaF} {R:Result->IF->Prop} {s:IF}
theorem uT (I:Nat->IF->Prop)
  (turn:∀ n s,I n s->YH (YN prog w) A (pyNext it) (fun r g=>match r with
   | none=>R (.ok .next) g
   | some v=>YH (YN prog w) A (acQ target it v) (fun _ u=>YH (YN prog w) A (assign target env v) (fun _ M =>
     YH (YN prog w) A (forIn ifs ζ fun c r=>if r=ζ then do let ok <- isTrue c env (eval c env);pure (abW ok) else pure (abW r)) (fun ok z =>
      if ok=ζ then YH (YN prog w) A (eval elt env) (fun x J =>
       YH (YN prog w) A (call (.builtin "list.append") [acc,x]) (fun _ L=>∃ m,m < n/\I m L) (notedBy (YN prog w) A env fun e C=>R (.error e) C) J) (notedBy (YN prog w) A env fun e C=>R (.error e) C) z
      else ∃ m,m < n/\I m z) (notedBy (YN prog w) A env fun e C=>R (.error e) C) M) (notedBy (YN prog w) A env fun e C=>R (.error e) C) u) (notedBy (YN prog w) A env fun e C=>R (.error e) C) g) (notedBy (YN prog w) A env fun e C=>R (.error e) C) s)
  (n:Nat) (h:I n s) :
  ab9 (YN prog w) A (.compLoop (.ListComp elt [⟨target,iter,ifs,0⟩] scope pos) 0 it acc env) R s:=by
 refine codeAny_loop rfl I (fun n s hI=>?_) n h;refine wpAny_noted ?_;refine bY (wpAny_standAt (bY (Zm (turn n s hI) (fun r g Z=>?_) fun _ _ h'=>h')));cases r with
 | none=>exact nE Z
 | some v =>
  refine bY (Zm Z (fun _ u h₁'=>?_) fun _ _ h'=>h');refine bY (Zm h₁' (fun _ M h₂=>bY (Zm h₂ (fun ok z Y=>?_) fun _ _ h'=>h')) fun _ _ h'=>h');cases ok with
  | false=>exact nE ⟨rfl,Y⟩
  | true =>
   exact bY (bY (Zm Y (fun x J h₄=>bY (Zm h₄ (fun _ L h₅=>nE (nE ⟨rfl,h₅⟩)) fun _ _ h'=>h')) fun _ _ h'=>h'))
end
def P9 (X:Cx) (ifs:List Zq) (t:TT):Prop :=
 ∀ (g:ad2) (s:IF) (σ:St) (H:Hp) (Q:Bool->Hp->Prop),Inv X g σ H s->t σ H Q ->
  YH (YN X.prog X.w) X.A (forIn ifs ζ fun c r=>if r=ζ then do let ok <- isTrue c X.env (eval c X.env);pure (abW ok) else pure (abW r)) (TP X g σ Q) X.xe s
def Wp:TT:=fun _ H Q=>Q ζ H
theorem KA (h:PT X c t):P9 X [c] t:=fun g s σ H Q I q=>wpAny_tests_one (h g s σ H Q I q)
def vi (g:TG) (tt:TT) (te:TE) (J:It) (I:St) (H1:Hp) (Q:VK):Prop:=∀ acc,H1 acc=ξ->∃ W:Nat->Nat->St->Hp->Prop,
 (∃ m,W 0 m I (upd H1 acc (.lst [])))/\∀ i m z H',W i m z H' ->
  (J.stop i H'/\Q (.ref acc) H')\/(J.go i H'/\∃ M:St->Hp->Prop,(∀ C u,M C u->∃ Y,Y < m/\W (i+1) Y C u)/\∀ x u,J.yld i H' x u->g x z u fun r H3=>tt r H3 fun b Z =>
   if b=ζ then te r Z fun v L=>∃ xs,L acc=θ (.lst xs)/\xs.length < RW/\M r (upd L acc (.lst (xs++[v]))) else M r Z)
def Bo (ix:List (Option Nat)) (r:TI) (g:TG) (u:TT) (te:TE):TE:=fun σ H Q=>r σ H fun J H1=>vi g u te J (lz ix σ) H1 Q
section
theorem DS {σ r:St} (I:Inv X af σ H s) (g:∀ b∈fp,eZ X af H b) (J:Inv (iW X N scope ⟨cl,s.heap.objs.size,s,H,fp,af⟩) [] r H' s') (ht:X.tn<=s'.toks) :
  Inv X af σ H' s'/\(∃ m,s'.heap.Ns s.heap.objs.size m)/\H' s.heap.objs.size=ξ/\eZ X af H' s.heap.objs.size:=by
 have u  := J.base;have I1  := I.call' J.os u J.hok J.bare fun b hb=>⟨(g b hb).2.2.2.1,(g b hb).2.1,(g b hb).2.2.2.2.1,(g b hb).2.2.2.2.2⟩;obtain ⟨m,hn,_⟩:=J.loc;exact ⟨I1,⟨m,hn⟩,J.free,I.fpOk (oR _) J.free⟩
theorem sR {σ:St} {RR:rW->YS->Result->IF->Prop}
  (S:CScope osc ON N ix scope) (hE:X.env.scope=osc) (hO:X.N=ON) (hc:X.calm=ζ) (hg:∀ b,PG (iW X N scope b) tg g) (ht:∀ b,P9 (iW X N scope b) ifs tt)
  (he:∀ (s0:IF) (H0:Hp) (pl:ad2) (Z:IF) (L:St) (H':Hp) (Q':VK) (acc:YS),Inv X af σ H0 s0->(∀ b∈fp,eZ X af H0 b)->(∀ b∈fp,∃ o,(b,o)∈pl)->Inv (iW X N scope ⟨fT X.env.cells scope.names [],s0.heap.objs.size,s0,H0,fp,af⟩) ([]++pl) L H' Z->te L H' Q' ->
   YH (YN X.prog X.w) X.A (eval elt (compEnvC scope (fT X.env.cells scope.names []) s0.heap.objs.size X.env)) (EP (iW X N scope ⟨fT X.env.cells scope.names [],s0.heap.objs.size,s0,H0,fp,af⟩) ([]++pl) L Q') (notedBy (YN X.prog X.w) X.A (compEnvC scope (fT X.env.cells scope.names []) s0.heap.objs.size X.env) fun e s''=>X.tn<=s''.toks->RR (.ref acc) s0.heap.objs.size (.error e) s'') Z)
  (I:Inv X af σ H s) (T:Turn X.prog X.w X.K tg J fp it tn) (st:tn 0 s.heap) (hfp:∀ b∈fp,eZ X af H b) (q:vi g tt te J (lz ix σ) H Q)
  (hRR:∀ (acc C:YS) (H':Hp) (Z:IF),Inv X af σ H' Z->(∃ m,Z.heap.Ns C m)->H' C=ξ->eZ X af H' C->Q (.ref acc) H'->RR (.ref acc) C (.ok .next) Z) :
  YH (YN X.prog X.w) X.A (newList []) (fun acc s₃=>YH (YN X.prog X.w) X.A (newFunctionEnv scope X.env.globals (fT X.env.cells scope.names []) [] X.env.qual ξ .none (θ X.env)) (fun cenv s₄ =>
   ab9 (YN X.prog X.w) X.A (.compStart (.ListComp elt [⟨tg,iter,ifs,0⟩] scope pos) 0 (.ref it) acc { cenv with scope:=relabel scope X.env }) (RR acc cenv.locals) s₄) E s₃) E s:=by
 refine Zz (wpAny_newFunctionEnv S.nocell (by intro y hy;simp at hy) (fun h₁ hns₁ hsb₁=>?_) S.kind);dsimp only at hns₁ hsb₁ ⊢
 have I3:Inv X af σ (upd H s.heap.objs.size (.lst [])) { s with heap:=s.heap.push { cls:=.type "list",dict:=ξ,data:=.seq ([]:ad6).toArray } } :=
  I.laid (t':=s.toks) (fun b o e=>eQ _ e) (oR _) (show dc X.prog X.w _ _ _ (.lst []) from ⟨YJ _,[],_,.nil,BY _ rfl⟩)
 have hacc:H s.heap.objs.size=ξ:=I.hok.fresh (oR _);have hfo:∀ b∈fp,∃ o,s.heap.get? b=θ o:=fun b hb=>let ⟨o,e,_⟩:=T.obj 0 _ st b hb;⟨o,e⟩;have fne:∀ b∈fp,b≠s.heap.objs.size:=fun b hb=>let ⟨o,e⟩:=hfo b hb;YL (ID e);have hfp3:∀ b∈fp,eZ X af (upd H s.heap.objs.size (.lst [])) b:=fun b hb=>⟨by rw [aA (fne b hb)];exact (hfp b hb).1,(hfp b hb).2⟩;let ⟨W,⟨m0,w0⟩,turn⟩:=q s.heap.objs.size hacc
 generalize hH2:s.heap.push { cls:=.type "list",dict:=ξ,data:=.seq ([]:ad6).toArray }=h2 at *;have hk1:∀ b o,h2.get? b=θ o->h₁.get? b=θ o:=fun b o e=>hsb₁.extBut b o (YL (ID e)) (eQ _ e);have old:∀ b o,s.heap.get? b=θ o->h2.get? b=θ o:=fun b o e=>by rw [<- hH2];exact eQ _ e
 have fin:∀ s₄:IF,s₄={ s with heap:=h₁,toks:=s₄.toks }->X.tn<=s₄.toks->ab9 (YN X.prog X.w) X.A (.compLoop (.ListComp elt [⟨tg,iter,ifs,0⟩] scope pos) 0 (.ref it) (.ref s.heap.objs.size) (compEnvC scope (fT X.env.cells scope.names []) h2.objs.size X.env))
   (RR (.ref s.heap.objs.size) h2.objs.size) s₄:=by
  intro s₄ e4 ht4;refine fM ht4 ?_;have J0:Inv (iW X N scope ⟨fT X.env.cells scope.names [],h2.objs.size,{ s with heap:=h2 },upd H s.heap.objs.size (.lst []),fp,af⟩) [] (lz ix σ) (upd H s.heap.objs.size (.lst [])) s₄ :=
   Kv (s:={ s with heap:=h2 }) I3 hE hO S hfp3 (fun b hb=>let ⟨o,e⟩:=hfo b hb;⟨o,old b o e⟩) hns₁ hk1 e4
  generalize hX:iW X N scope ⟨fT X.env.cells scope.names [],h2.objs.size,{ s with heap:=h2 },upd H s.heap.objs.size (.lst []),fp,af⟩=Y at J0;have eE:compEnvC scope (fT X.env.cells scope.names []) h2.objs.size X.env=Y.env:=by rw [<- hX];rfl
  have eP:X.prog=Y.prog:=by rw [<- hX];rfl
  have eW:X.w=Y.w:=by rw [<- hX];rfl
  have eA:X.A=Y.A:=by rw [<- hX];rfl
  have eK:X.K=Y.K:=by rw [<- hX];rfl
  have eC:Y.calm=ζ:=by rw [<- hX];exact hc
  have T':Turn Y.prog Y.w Y.K tg J fp it tn:=by rw [<- eP,<- eW,<- eK];exact T
  have Oe:tn 0 s₄.heap:=T.keep _ _ _ st fun b hb o e=>by rw [e4];exact hk1 b o (old b o e)
  have fpY:∀ {H':Hp},(∀ b∈fp,H' b=ξ)->∀ b∈fp,eZ Y [] H' b:=fun {H'} hn b hb=>by
   rw [<- hX];have f:=hfp b hb;refine ⟨hn b hb,?_,?_,.inl hb,?_,?_⟩
   .have:=J0.ok.exf b (by rw [<- hX];exact hb)
    rw [<- hX] at this;exact this.1
   .have:=J0.ok.exfs b (by rw [<- hX];exact hb)
    rw [<- hX] at this;exact this
   .have:=J0.ok.exf b (by rw [<- hX];exact hb)
    rw [<- hX] at this;exact this.2
   .intro p hp;have hp':p∈X.pn++af:=by
     rcases xb.mp hp with z|z
     .exact z
     .cases z
    exact f.2.2.2.2.2 p hp'
  have accne:s.heap.objs.size∉fp:=fun z=>fne _ z rfl;have never:∀ e Z,Y.xe e Z->False:=by rw [<- hX];exact fun _ _ z=>z
  have hgY:PG Y tg g:=by rw [<- hX];exact hg _
  have htY:P9 Y ifs tt:=by rw [<- hX];exact ht _
  rw [eE,eP,eW,eA];refine uT (fun n Z=>∃ i L H',Inv Y [] L H' Z/\tn i Z.heap/\(∀ b∈fp,H' b=ξ)/\W i n L H') ?_ m0 ⟨0,lz ix σ,_,J0,Oe,fun b hb=>(hfp3 b hb).1,w0⟩;rintro n s5 ⟨i,σ5,H5,I5,st5,fr5,w5⟩;rcases turn i n σ5 H5 w5 with ⟨stop,qn⟩|⟨go,M,hM,step⟩
  .refine bV (T'.done Y rfl rfl rfl eC i [] s5 σ5 H5 _ I5 (fpY fr5) st5 stop) fun r s6 ⟨hr,I6⟩=>?_;subst hr;have I6':=I6;rw [<- hX] at I6';intro htk;let ⟨a1,a2,a3,a4⟩:=DS (s:={ s with heap:=h2 }) I3 hfp3 I6' htk
   exact hRR _ _ H5 s6 a1 a2 a3 a4 qn
  .refine bV (T'.item Y rfl rfl rfl eC i [] s5 σ5 H5 _ I5 (fpY fr5) st5 go) fun r s6 ⟨u,hr,h6⟩=>?_;subst hr;refine bV h6 fun _ s7 ⟨x,H7,I7,r7,y7,st7,fr7⟩=>?_;have I7':=I7.pinned (fpY fr7) (T.obj _ _ st7);refine Zm (hgY _ s7 σ5 H7 x u _ I7' r7 (step x H7 y7)) (fun _ s8 ⟨σ8,H8,I8,q8⟩=>?_) fun e Z z=>(never e Z z).elim;refine Zm (htY _ s8 σ8 H8 _ I8 q8) (fun ok s9 ⟨H9,I9,q9⟩=>?_) fun e Z z=>(never e Z z).elim;have again:∀ {σa:St} {Ha:Hp} {sa:IF},Inv Y ([]++lU fp s7.heap) σa Ha sa->M σa Ha->∃ m,m < n/\∃ i L H',Inv Y [] L H' sa/\tn i sa.heap/\(∀ b∈fp,H' b=ξ)/\W i m L H':=fun {σa Ha sa} Ia na=>by
    let ⟨m',hm,wa⟩:=hM σa Ha na
    refine ⟨m',hm,i+1,σa,Ha,Ia.unpinned,T.keep _ _ _ st7 fun b hb o e=>(Ia.pin (b,o) (MK _ (MK _ (fj hb e)))).1,fun b hb=>?_,wa⟩;let ⟨o,e,d⟩:=T.obj _ _ st7 b hb
    exact (Ia.pin (b,o) (MK _ (MK _ (fj hb e)))).2.1
   cases ok with
   | false =>
    rw [adV By] at q9 ⊢;exact again I9 q9
   | true =>
    rw [adU rfl] at q9 ⊢;have I9':=I9;rw [<- hX] at I9';rw [<- eP,<- eW,<- eA,<- eE];refine Zm (he { s with heap:=h2 } _ _ s9 σ8 H9 _ _ I3 hfp3 (fun b hb=>let ⟨o,e,d⟩:=T.obj _ _ st7 b hb;⟨o,fj hb e⟩) I9' q9) (fun y sb ⟨vb,Hb,Ib',rb,xs,hx,hz,nb⟩=>?_) fun _ _ z=>z;have Ib:Inv Y ([]++lU fp s7.heap) σ8 Hb sb:=by rw [<- hX];exact Ib'
    rw [eP,eW,eA];refine Zm (sL (X:=Y) _ sb σ8 Hb (.ref s.heap.objs.size) [vb] (.ref s.heap.objs.size) [y] (fun v H'=>M σ8 H') Ib rfl (.cons rb .nil) ⟨s.heap.objs.size,xs,vb,rfl,rfl,hx,hz,nb⟩) (fun _ sc ⟨vc,Hc,Ic,rc,nc⟩=>?_) fun e Z z=>(never e Z z).elim;exact again Ic nc
 exact codeAny_compStart_list (fin _ rfl (by walk_at "tok")) (T.self _ 0 _ _ _ (T.keep _ _ _ st fun b hb o e=>hk1 b o (old b o e)) (fin _ rfl (by walk_at "tok")))
theorem Ee (S:CScope osc ON N ix scope) (Y:X.env.scope=osc) (hO:X.N=ON) (hc:X.calm=ζ) (hi:PI X tg iter wi) (hg:∀ b,PG (iW X N scope b) tg g) (ht:∀ b,P9 (iW X N scope b) ifs tt) (he:∀ b,PE (iW X N scope b) elt te)
  (hs:∀ x,Zs iter X.env x=pure x:=by intro _;rfl):PE X (.ListComp elt [⟨tg,iter,ifs,0⟩] scope pos) (Bo ix wi g tt te):=by
 intro af s σ H Q I h;have r:∀ y∈scope.names,y.2=.free->∃ c,X.env.cells.lookup y.1=θ c:=fun y hy e=>I.ok.has y.1 (by subst Y;exact S.outs y hy e);refine wpAny_comprehension_free rfl hs (jF r) S.kind S.names (bV (hi af s σ H _ I h) fun v s1 h1=>bV h1 fun itv s2 h2=>?_);obtain ⟨it,fp,tn,J,H2,e,I2,T,L,f2,q⟩:=h2;subst e;refine sR S Y hO hc hg ht (fun s0 H0 pl Z u H' Q' acc _ _ _ M q'=>Zm (he _ _ Z u H' Q' M q') (fun _ _ z=>z) fun _ _ z=>z.elim) I2 T L f2 q fun acc C H' Z M hn hC fC q'=>?_;let ⟨m,hn⟩:=hn
 refine ⟨m,hn,fun h' sb=>⟨.ref acc,H',?_,rfl,q'⟩⟩;let ⟨f0,f1,f2',f3,f4,f5⟩:=fC
 exact M.turned (fun b o hb e=>(sb.2 b hb).trans e) f0 f1 f3 f4 f5
theorem zD {spos pos':Pos} (hN:X.N.Nodup) (hx:X.N[i]?=θ x) (hl:vZ X.env.scope x) (S:CScope osc ON N ix scope) (hE:X.env.scope=osc) (hO:X.N=ON) (hc:X.calm=ζ) (hi:PI X tg iter wi) (hg:∀ b,PG (iW X N scope b) tg g) (ht:∀ b,P9 (iW X N scope b) ifs tt) (he:∀ b,PE (iW X N scope b) elt te)
  (Y:Z2 (.ListComp elt [⟨tg,iter,ifs,0⟩] scope pos) (θ (.Name x pos')) spos.line X.env=pure ζ:=by rfl)
  (hf:X.fn x=ζ\/X.env.scope.names.lookup x=θ .local:=by walk_at"u")
  (hs:∀ x,Zs iter X.env x=pure x:=by intro _;rfl):PS X (.Assign [.Name x pos'] (.ListComp elt [⟨tg,iter,ifs,0⟩] scope pos) spos) (qm (Bo ix wi g tt te) (jA i)):=by
 intro af s σ H D I h;rw [exec_Assign_Name_used _ _ _ _ Y];refine bY (wpAny_standAt (bY ?_));have r:∀ y∈scope.names,y.2=.free->∃ c,X.env.cells.lookup y.1=θ c:=fun y hy e=>I.ok.has y.1 (by subst hE;exact S.outs y hy e);refine bY (Zm (wpAny_comprehension_free rfl hs (jF r) S.kind S.names
  (bV (hi af s σ H _ I h) fun v s1 h1=>bV h1 fun itv s2 h2=>?_)) (fun _ L hq=>nE (nE hq)) fun _ _ e=>e)
 obtain ⟨it,fp,tn,J,H2,e,I2,T,st2,f2,q⟩:=h2;subst e;refine sR S hE hO hc hg ht (fun s0 H0 pl L Z H' Q' acc _ _ _ I' q'=>Zm (he _ _ L Z H' Q' I' q') (fun _ _ z=>z) fun _ _ z=>z.elim) I2 T st2 f2 q fun acc C H' L I' hn hC fC q'=>?_;let ⟨m,hn⟩:=hn
 have M:∃ o,L.heap.get? C=θ o/\∀ v,o.data≠.cell v:=by
  let ⟨o,es,ep,ho,hd,_⟩:=hn
  grind
 have only:∀ b∈[C],b=C:=fun b hb=>by simpa using hb
 have I1:=I'.pinned (fun b hb=>(only b hb) ▸ fC) (fun b hb=>(only b hb) ▸ M);refine Zm (BD hN hx hl hf (af++lU [C] L.heap) L σ H' (.ref acc) (.ref acc) D.nx I1 rfl q') (fun _ s'' ⟨σ2,H2,I2',q2⟩=>?_) fun _ _ z=>z;let ⟨o,ho,hd⟩:=M
 have pn:=I2'.pin (C,o) (MK _ (MK _ (fj (by simp) ho)));refine ⟨m,hn.at' fun o' e=>by simp_all,fun h' sb=>⟨σ2,H2,?_,q2⟩⟩;let ⟨f0,f1,f2',f3,f4,f5⟩:=fC
 exact I2'.unpinned.turned (fun b o hb e=>(sb.2 b hb).trans e) pn.2.1 f1 f3 f4 f5
end
theorem rO {K:aT} {St:Nat->abh->Prop} (W:∀ A:aaF,A.handled=ξ->Walks P w A it [it] [it] n Pv St)
  (ob:∀ i h,St i h->∃ (o:Obj) (nm:String) (vs:Array rW),h.get? it=θ o/\o.cls=.type nm/\o.data=.fields vs/\["enumerate","zip","dict_itemiterator","dict_reverseitemiterator","odict_iterator","itertools.zip_longest","itertools.pairwise"].contains nm=η)
  (go:∀ i H,J.go i H->i < n) (yl:∀ i H u,J.go i H->Pv i u->∃ x,aQ x u/\J.yld i H x H) (Z:∀ i h H,J.stop i H->St i h->St n h)
  (self:∀ (A:aaF) (i:Nat) (s:IF) (Q:ad3) (E:ad3),St i s.heap->Q (.ref it) s->YH (YN P w) A (adP (.ref it)) Q E s):Turn P w K tg J [it] it St where
 mem:=by simp
 obj:=fun i h st b hb=>by
  grind
 keep:=fun i h h' st k=>(W {} rfl).frame i h h' st fun b hb o e=>k b hb o e
 item:=by
  intro X hP hw Y L i M s σ H E I r st hg;let ⟨f0,f1,f2,f3,f4,f5⟩:=r it (by simp)
  refine aP I.tk ((W X.A (I.ok.hd L)).item i s _ _ (go i H hg) st fun v h' tk hv g z C=>?_);have I1  := I.turned (fun b o hb e=>z b o (by simpa using hb) e) f0 f1 f3 f4 f5;let ⟨x,rx,yx⟩:=yl i H v hg hv
  let ⟨o,nm,vs,h1,h2,h3,h4⟩:=ob (i+1) h' g
  exact ⟨v,rfl,w6 h1 h2 h3 h4 ⟨x,H,I1,rx,yx,g,fun b hb=>(r b hb).1⟩⟩
 done:=by
  intro X hP hw Y L i M s σ H E I r st hg;let ⟨f0,f1,f2,f3,f4,f5⟩:=r it (by simp)
  exact aP I.tk ((W X.A (I.ok.hd L)).done s _ _ (Z i s.heap H hg st) fun h' tk z C=>⟨rfl,I.turned (fun b o hb e=>z b o (by simpa using hb) e) f0 f1 f3 f4 f5⟩)
 self:=self
def UT (z:Str):It:=⟨fun i _=>i < z.length,fun i H x H'=>H'=H/\∃ c,z.cps[i]?=θ c/\x=.str ⟨#[c]⟩,fun i _=>i=z.length⟩
theorem Eb (h:SignAt z i u):∃ x,aQ x u/\(UT z).yld i H x H:=by
 obtain ⟨c,t,g,rfl⟩:=h;exact ⟨.str ⟨#[c]⟩,⟨t,rfl⟩,rfl,c,g,rfl⟩
theorem Jl (bs:List Bool):(YV bs.length).all (fun i=>(bs[i]?).getD ζ)=bs.all id:=by
 rw [abl,Zy,Zy];constructor
 .intro h b hb;let ⟨i,hi,e⟩:=List.getElem_of_mem hb
  simp_all
 .intro h i hi;have g:=Y8.mp hi;rw [lE g];exact h _ (YG g)
section
variable {X:Cx}
def MT (K:aT) (xs:ad7) (H:Hp) (Q:VK):Prop:=match xs with
 | [.ref p]=>∃ bs:List Bool,eV K H p (bs.map V.bl)/\Q (.bl (bs.all id)) H
 | _=>False
theorem GJ (K:aT) (hc:X.calm=ζ) (hK:X.K=K:=by rfl):bD X (.builtin "all") (MT K):=by
 subst hK;intro J s σ H xs us Q I r h;unfold MT at h;split at h
 case h_2=>exact h.elim
 rename_i p;let ⟨bs,hq,q⟩:=h
 obtain ⟨u,rfl,rx⟩:=gj r;cases rx;let ⟨its,rv,pl,hz⟩:=I.list hq
 have L:X.A.in1.handled=ξ:=I.ok.hd hc;refine aP I.tk (call_all_walk (wpAny_pyIter_list pl.isList ?_));have C:p≠s.heap.objs.size:=by
  let ⟨o,ho,_⟩:=pl.isList
  exact YL (ID ho)
 refine ⟨s.heap.objs.size,[s.heap.objs.size,p],[s.heap.objs.size],its.toArray.size,_,_,fun i=>(bs[i]?).getD ζ,rfl,Walks.list L _ p C its.toArray,⟨⟨_,BY _ rfl,rfl,rfl⟩,Heap.IsList.push pl.isList _⟩,?_,?_⟩
 .intro i v s' Q' E' hv hQ';have hv'  := by simpa using hv
  have hi  := (K2.mp hv').1;have g:=rv.length;rw [iN] at g;have hb:(bs.map V.bl)[i]?=θ (V.bl bs[i]):=by
   grind
  let ⟨u,hu,ru⟩:=rv.get hb
  rw [hv'] at hu;cases hu;cases ru;have z:Q' bs[i] s':=by
   simp_all
  exact aaC z
 .intro h' tk hk;have M:Inv X J σ H { s with heap:=s.heap.push { cls:=.type "list_iterator",data:=.fields #[.ref p,.int 0 0] } }:=I.kept fun b o e=>eQ _ e;have Y:(YV its.toArray.size).all (fun i=>(bs[i]?).getD ζ)=bs.all id:=by
   have g:=rv.length;rw [iN] at g;rw [YC,<- g];exact Jl bs
  rw [Y];let ⟨f0,f1,f2,f3,f4,f5⟩:=I.fpOk (oR _) (I.hok.fresh (oR _))
  exact fun Z=>⟨.bl (bs.all id),H,M.turned (fun b o hb e=>hk b o (by simpa using hb) e) f0 f1 f3 f4 f5,rfl,q⟩
end
theorem PE.imp (h:PE X e t) (i:∀ σ H Q,t' σ H Q->t σ H Q):PE X e t':=fun g s σ H Q I q=>h g s σ H Q I (i σ H Q q)
theorem dh.imp (h:dh X f r) (i:∀ x y H Q,r' x y H Q->r x y H Q):dh X f r':=fun g s σ H x y v u Q I a b q=>h g s σ H x y v u Q I a b (i x y H Q q)
theorem Iy.imp (h:Iy X f r) (i:∀ x H Q,r' x H Q->r x H Q):Iy X f r':=fun g s σ H x v Q I a q=>h g s σ H x v Q I a (i x H Q q)
theorem bD.imp (h:bD X f r) (i:∀ xs H Q,r' xs H Q->r xs H Q):bD X f r':=fun g s σ H xs us Q I a q=>h g s σ H xs us Q I a (i xs H Q q)
theorem CA.imp (h:CA X r) (i:∀ x y H Q,r' x y H Q->r x y H Q):CA X r':=fun value g z s σ H x y v u Q I J C q hs=>h value g z s σ H x y v u Q I J C (i x y H Q q) hs
theorem x6.imp (h:x6 X r) (i:∀ x l u H Q,r' x l u H Q->r x l u H Q):x6 X r':=fun C s σ H x v Y M lo g J Q I L hs pl z q=>h C s σ H x v Y M lo g J Q I L hs pl z (i x lo g H Q q)
section
variable {X:Cx} {a b:Zq} {ta tb:TE} {pos:Pos} {rest:List Zq}
def oZ (o:Option (Option V)) (H:Hp) (Q:VK):Prop:=match o with
 | some (θ v)=>Q v H
 | _=>False
def lC (i:Nat):TE:=fun σ H Q=>oZ σ[i]? H Q
theorem qv (i:Nat) (r:X.N[i]?=θ x:=by rfl) (hv:sd X.env.scope x:=by walk_at"v") (u:ad9 x:=by decide)
  (g:(x==("__classdict__":Str))=η:=by decide):PE X (.Name x pos) (lC i):=(D6 r hv u g).imp fun σ H Q q=>by
 unfold lC oZ at q;split at q
 .rename_i v e;exact ⟨v,e,q⟩
 .exact q.elim
def Vt (tb:TE) (σ:St) (Q:VK):VK:=fun x H1=>match x with
 | .bl c=>if c=ζ then tb σ H1 Q else Q (.bl η) H1
 | _=>False
def XC (ta tb:TE):TE:=fun σ H Q=>ta σ H (Vt tb σ Q)
def kOr (tb:TE) (σ:St) (Q:VK):VK:=fun x H1=>match x with
 | .bl c=>if c=ζ then Q (.bl ζ) H1 else tb σ H1 Q
 | _=>False
def uOr (ta tb:TE):TE:=fun σ H Q=>ta σ H (kOr tb σ Q)
def Xv (Q:VK):VK:=fun x H1=>match x with
 | .bl c=>Q (.bl (!c)) H1
 | _=>False
def VS (ta:TE):TE:=fun σ H Q=>ta σ H (Xv Q)
def Rv (Q:Bool->Hp->Prop):VK:=fun x H'=>match x with
 | .bl k=>Q k H'
 | _=>False
def QM (t:TE):TT:=fun σ H Q=>t σ H (Rv Q)
def WQ (K:aT) (Q:Bool->Hp->Prop):VK:=fun x H=>match x with
 | .non=>Q η H
 | .bl b=>Q b H
 | .int i=>Q (i != 0) H
 | .str y=>y.length<=RW/\Q ((y.length:Int) != 0) H
 | .ref p=>((∃ xs,eV K H p xs/\Q (!xs.isEmpty) H)\/(∃ xs,gU K H p xs/\Q (!xs.isEmpty) H))\/∃ g,H p=θ (.dK g)/\Q (!g.isEmpty) H
 | _=>False
def E7 (K:aT) (ta:TE):TT:=fun σ H Q=>ta σ H (WQ K Q)
theorem GZ (K:aT) (z:PE X a ta) (u:∀ g,isTrue a X.env g=(do let v <- g;acy a.pos;holding [v] (truthy v))) (M:X.K=K:=by rfl) :
  PT X a (E7 K ta):=by
 subst M;intro r s σ H Q I h;refine isTrue_plain (bV (z r s σ H _ I h) fun v J C=>jC C fun x H1 L r1 q1=>NF r J σ H1 x v Q L r1 ?_) (u _);cases x with
 | non=>exact ⟨_,rfl,q1⟩
 | bl b=>exact ⟨_,rfl,q1⟩
 | int i=>exact ⟨_,rfl,q1⟩
 | str y=>exact ⟨_,⟨q1.1,rfl⟩,q1.2⟩
 | ref p =>
  rcases q1 with (⟨xs,h1,h2⟩|⟨xs,h1,h2⟩)|⟨xs,h1,h2⟩
  .exact ⟨_,.inl ⟨xs,h1,rfl⟩,h2⟩
  .exact ⟨_,.inr (.inl ⟨xs,h1,rfl⟩),h2⟩
  .exact ⟨_,.inr (.inr ⟨xs,h1,rfl⟩),h2⟩
 | _=>exact q1.elim
def UO:R2:=fun x y H Q=>match x,y with
 | .int i,.int j=>Q (.int (i - j)) H
 | _,_=>False
def WG:dh X (Z7 .Sub) UO:=NZ.imp fun x y H Q q=>by
 unfold UO at q;split at q
 .exact ⟨_,_,rfl,rfl,q⟩
 .exact q.elim
def Tr:R2:=fun x y H Q=>match x,y with
 | .int i,.int j=>HC i j/\Q (.int (i/j)) H
 | _,_=>False
def W6:dh X (Z7 .FloorDiv) Tr:=IJ.imp fun x y H Q q=>by
 unfold Tr at q;split at q
 .exact ⟨_,_,rfl,rfl,q.1,q.2⟩
 .exact q.elim
def Sj:R2:=fun x y H Q=>match x,y with
 | .int i,.int j=>0 < j/\Q (.int (i % j)) H
 | _,_=>False
def Vm:dh X (Z7 .Mod) Sj:=OH.imp fun x y H Q q=>by
 unfold Sj at q;split at q
 .exact ⟨_,_,rfl,rfl,q.1,q.2⟩
 .exact q.elim
def RI:R2:=fun x y H Q=>match x,y with
 | .int i,.int j=>Ft i j/\Q (.int (i ^ j.toNat)) H
 | _,_=>False
def W2:dh X (Z7 .Pow) RI:=No.imp fun x y H Q q=>by
 unfold RI at q;split at q
 .exact ⟨_,_,rfl,rfl,q.1,q.2⟩
 .exact q.elim
def T2 (x:V) (H:Hp) (Q:VK):Prop:=match x with
 | .int i=>Q (.int (-i)) H
 | _=>False
def Wh:Iy X (unaryOp .USub) T2:=Nf.imp fun x H Q q=>by
 unfold T2 at q;split at q
 .exact ⟨_,rfl,q⟩
 .exact q.elim
theorem Dc:dh X (YX .LtE) (fun x y H Q=>∃ i j,x=.str i/\y=.str j/\Q (.bl (!decide (j.cps.toList < i.cps.toList))) H):=by
 intro z s σ H x y v u Q I g r h;obtain ⟨i,j,rfl,rfl,q⟩:=h;obtain ⟨t,rfl⟩:=g;obtain ⟨t',rfl⟩:=r;exact P.le_str (aR I q rfl)
theorem CQ:dh X (YX .GtE) (fun x y H Q=>∃ i j,x=.str i/\y=.str j/\Q (.bl (!decide (i.cps.toList < j.cps.toList))) H):=by
 intro z s σ H x y v u Q I g r h;obtain ⟨i,j,rfl,rfl,q⟩:=h;obtain ⟨t,rfl⟩:=g;obtain ⟨t',rfl⟩:=r;exact P.ge_str (aR I q rfl)
theorem Cc:dh X (YX .Gt) (fun x y H Q=>∃ i j,x=.str i/\y=.str j/\Q (.bl (decide (j.cps.toList < i.cps.toList))) H):=by
 intro z s σ H x y v u Q I g r h;obtain ⟨i,j,rfl,rfl,q⟩:=h;obtain ⟨t,rfl⟩:=g;obtain ⟨t',rfl⟩:=r;exact P.gt_str (aR I q rfl)
def V0:R2:=fun x y H Q=>match x,y with
 | .int i,.int j=>Q (.bl (decide (i < j))) H
 | .str i,.str j=>Q (.bl (decide (i.cps.toList < j.cps.toList))) H
 | _,_=>False
def WO:R2:=fun x y H Q=>match x,y with
 | .int i,.int j=>Q (.bl (decide (i<=j))) H
 | .str i,.str j=>Q (.bl (!decide (j.cps.toList < i.cps.toList))) H
 | _,_=>False
def Vn:R2:=fun x y H Q=>match x,y with
 | .int i,.int j=>Q (.bl (decide (j < i))) H
 | .str i,.str j=>Q (.bl (decide (j.cps.toList < i.cps.toList))) H
 | _,_=>False
def WK:R2:=fun x y H Q=>match x,y with
 | .int i,.int j=>Q (.bl (decide (j<=i))) H
 | .str i,.str j=>Q (.bl (!decide (i.cps.toList < j.cps.toList))) H
 | _,_=>False
def Yg:dh X (YX .Lt) V0:=(UA.or CW).imp fun x y H Q q=>by
 unfold V0 at q;split at q
 .exact .inl ⟨_,_,rfl,rfl,q⟩
 .simp_all
 .exact q.elim
def Yw:dh X (YX .LtE) WO:=(Qt.or Dc).imp fun x y H Q q=>by
 unfold WO at q;split at q
 .exact .inl ⟨_,_,rfl,rfl,q⟩
 .simp_all
 .exact q.elim
def XQ:dh X (YX .Gt) Vn:=(Ug.or Cc).imp fun x y H Q q=>by
 unfold Vn at q;split at q
 .exact .inl ⟨_,_,rfl,rfl,q⟩
 .simp_all
 .exact q.elim
def Ym:dh X (YX .GtE) WK:=(Sx.or CQ).imp fun x y H Q q=>by
 unfold WK at q;split at q
 .exact .inl ⟨_,_,rfl,rfl,q⟩
 .simp_all
 .exact q.elim
theorem FH:dh X (YX .Is) (fun x y H Q=>∃ j,y=.bl j/\Q (.bl (decide (x=.bl j))) H):=by
 intro z s σ H x y v u Q I g r h;obtain ⟨j,rfl,q⟩:=h;cases r;cases x with
 | bl i=>cases g;exact aas rfl (aR I q (by grind))
 | non=>cases g;exact aas rfl (aR I q (by simp))
 | int i=>obtain ⟨t,rfl⟩:=g;exact aas rfl (aR I q (by simp))
 | str i=>obtain ⟨t,rfl⟩:=g;exact aas rfl (aR I q (by simp))
 | byt i=>obtain ⟨t,rfl⟩:=g;exact aas rfl (aR I q (by simp))
 | flt i=>obtain ⟨t,rfl⟩:=g;exact aas rfl (aR I q (by simp))
 | ref i=>cases g;exact aas rfl (aR I q (by simp))
 | ty i=>cases g;exact aas rfl (aR I q (by simp))
def Ik:V->V->Bool
 | .non,.non=>ζ
 | .bl i,.bl j=>i==j
 | _,_=>η
def Vp:R2:=fun x y H Q=>match y with
 | .non=>Q (.bl (Ik x .non)) H
 | .bl j=>Q (.bl (Ik x (.bl j))) H
 | _=>False
theorem Ko (x:V):decide (x=.non)=Ik x .non:=by cases x <;> simp [Ik]
theorem Nn (x:V) (j:Bool):decide (x=.bl j)=Ik x (.bl j):=by
 cases x with
 | bl i=>cases i <;> cases j <;> rfl
 | _=>simp [Ik]
def Ya:dh X (YX .Is) Vp:=(M3.or FH).imp fun x y H Q q=>by
 unfold Vp at q;split at q
 .exact .inl ⟨rfl,by rw [Ko];exact q⟩
 .exact .inr ⟨_,rfl,by rw [Nn];exact q⟩
 .exact q.elim
def R5 (K:aT):R2:=fun x y H Q=>match x,y with
 | .str z,.int i=>∃ c,z.length<=RW/\atI z.cps.toList i=θ c/\Q (.str ⟨#[c]⟩) H
 | .ref p,.int i=>∃ xs v,(eV K H p xs\/gU K H p xs)/\atI xs i=θ v/\Q v H
 | _,_=>False
theorem DF (K:aT) (r:X.K=K:=by rfl):CA X (R5 K):=by
 subst r;exact (OP.imp fun x y H Q q=>by
   unfold R5 at q;split at q
   .let ⟨c,h1,h2,g⟩:=q
    exact .inr (.inr ⟨_,_,c,rfl,rfl,h1,h2,g⟩)
   .obtain ⟨xs,v,h1|h1,h2,g⟩:=q
    .exact .inl ⟨_,xs,_,v,rfl,rfl,h1,h2,g⟩
    .exact .inr (.inl ⟨_,xs,_,v,rfl,rfl,h1,h2,g⟩)
   .exact q.elim)
def MC (K:aT) (xs:ad7) (H:Hp) (Q:VK):Prop:=match xs with
 | [.str y]=>y.length<=RW/\Q (.int y.length) H
 | [.ref p]=>∃ ys,(eV K H p ys\/gU K H p ys)/\Q (.int ys.length) H
 | _=>False
theorem Tt (K:aT) (g:X.K=K:=by rfl):bD X (.builtin "len") (MC K):=by
 subst g;exact ((vF.or uF).imp fun xs H Q q=>by
   unfold MC at q;split at q
   .simp_all
   .simp_all
   .exact q.elim)
def QE (xs:ad7) (H:Hp) (Q:VK):Prop:=match xs with
 | [.int i]=>Q (.int (if i < 0 then -i else i)) H
 | _=>False
def Xq:bD X (.builtin "abs") QE:=GC.imp fun xs H Q q=>by
 unfold QE at q;split at q
 .simp_all
 .exact q.elim
def Ry (xs:ad7) (H:Hp) (Q:VK):Prop:=match xs with
 | [.int i]=>Q (.int i) H
 | [.bl k]=>Q (.int (if k=ζ then 1 else 0)) H
 | _=>False
def WE:bD X (.type "int") Ry:=CN.imp fun xs H Q q=>by
 unfold Ry at q;split at q
 .simp_all
 .simp_all
 .exact q.elim
end
noncomputable def aM:Zq->Bool
 | .Starred ..=>η
 | _=>ζ
theorem bw (h:aM e=ζ):YI (e::es) env=(η,eval e env)::YI es env:=by
 cases e <;> first|rfl|cases h
theorem dq:∀ {es:List Zq},es.all aM=ζ->(aaa pos (YI es env)).any (·.1)=η
 | [],_=>rfl
 | e::es,h=>by
  rw [ZX,YR] at h;rw [bw h.1];have g:=dq (env:=env) (pos:=pos) h.2;assumption
theorem Jg (g:PE X e te) (hr:PA X es t) (hn:aM e=ζ:=by rfl):PA X (e::es) (tL te t):=Iv g hr (bw hn)
section
variable {p pos:Pos} {id:String}
theorem WH (v:bD X (.builtin id) r) (hm:X.mg x=ξ) (hv:YT x=θ (.builtin id)) (u:PA X (e::es) t) (hg:Gl X x:=by rfl) (h1:aM e=ζ:=by rfl) (h2:es.all aM=ζ:=by rfl) (hn:x≠"__name__":=by decide) (g:ad9 x:=by decide) :
  PE X (.Call (.Name x p) (e::es) [] pos) (P7 r t):=Ho v hg hm hv u hn g (bw h1) (dq h2)
theorem VA (v:bD X (.type T) r) (hm:X.mg x=ξ) (hv:YT x=θ (.type T)) (u:PA X (e::es) t) (hg:Gl X x:=by rfl) (h1:aM e=ζ:=by rfl) (h2:es.all aM=ζ:=by rfl) (hn:x≠"__name__":=by decide) (g:ad9 x:=by decide) :
  PE X (.Call (.Name x p) (e::es) [] pos) (P7 r t):=BZ v hg hm hv u hn g (bw h1) (dq h2)
end
theorem yd:YT "len"=θ (.builtin "len"):=by trivial
theorem Gk:YT "int"=θ (.type "int"):=by trivial
theorem vD:YT "list"=θ (.type "list"):=by trivial
theorem qI:YT "tuple"=θ (.type "tuple"):=by trivial
theorem BL:YT "dict"=θ (.type "dict"):=by trivial
theorem OE:YT "zip"=θ (.type "zip"):=by trivial
theorem uq:YT "enumerate"=θ (.type "enumerate"):=by trivial
theorem Ie:YT "set"=θ (.type "set"):=by trivial
theorem RT {pos:Pos} (hm:X.mg x=ξ) (hv:YT x=θ (.type n)) (hg:Gl X x:=by rfl) (hn:x≠"__name__":=by decide) (g:ad9 x:=by decide):PE X (.Name x pos) (tC (.ty n)) :=
 Ji hg hm hv rfl hn g
def jV (T C:String):Bool:=T==C||(T=="bool"&&C=="int")
noncomputable def oh (C:String):Bool:=C=="str"||C=="int"||C=="bool"||C=="list"||C=="tuple"||C=="dict"
theorem hU {K:aT} (r:T="NoneType"\/T="bool"\/T="int"\/T="str"\/T="list"\/T="tuple"\/T="dict") (u:oh C=ζ):aa4 K (.type T) (.type C)=θ (jV T C):=by
 have g:C="str"\/C="int"\/C="bool"\/C="list"\/C="tuple"\/C="dict":=by
  unfold oh at u
  grind
 rcases r with h|h|h|h|h|h|h <;> subst h <;> rcases g with h|h|h|h|h|h <;> subst h <;> first|rfl|decide +kernel
section
variable {X:Cx}
def Rh (Q:Option Int->Hp->Prop):VK:=fun x H1=>match x with
 | .int i=>Q (θ i) H1
 | _=>False
def Uy (t:TE):TO:=fun σ H Q=>t σ H (Rh Q)
def mF (z:Str) (lo g:Option Int):Str:=⟨((z.cps.toList.drop (HT.sIx z.length 0 lo)).take (HT.sIx z.length z.length g - HT.sIx z.length 0 lo)).toArray⟩
theorem L8 (v:Int) (n d:Nat):max 0 (min (if v < 0 then v+(n:Int) else v) (n:Int))=((HT.sIx n d (θ v):Nat):Int):=by
 show _=(((if v < 0 then (v+n).toNat else min v.toNat n):Nat):Int)
 grind
theorem loS (lo:Option Int) (n:Nat):(match lo with|none=>(0:Int)|some i=>max 0 (min (if i < 0 then i+(n:Int) else i) (n:Int)))=((HT.sIx n 0 lo:Nat):Int):=by
 cases lo with
 | none=>rfl
 | some v=>exact L8 v n 0
theorem hiS (g:Option Int) (n:Nat):(match g with|none=>(n:Int)|some i=>max 0 (min (if i < 0 then i+(n:Int) else i) (n:Int)))=((HT.sIx n n g:Nat):Int):=by
 cases g with
 | none=>rfl
 | some v=>exact L8 v n n
theorem UJ (lo g:Option Int) (n:Nat):aad lo g 1 n=sliceRange ((HT.sIx n 0 lo:Nat):Int) ((HT.sIx n n g:Nat):Int) 1:=by
 rw [<- loS,<- hiS];rfl
theorem WX (a b n:Nat) (g:a<=n) (hb:b<=n):aad (θ (a:Int)) (θ (b:Int)) 1 n=sliceRange (a:Int) (b:Int) 1:=by
 rw [UJ,HT.gu,HT.gu,aaA g,aaA hb]
theorem x9 (z:Str) (lo hi:Option Int):Txt.slice z lo hi=mF z lo hi:=by
 have r:=HT.y8 z.length 0 (YJ _) lo;have hb:=HT.y8 z.length z.length (oR _) hi;unfold Txt.slice;rw [UJ,<- WX _ _ _ r hb];unfold mF;generalize HT.sIx z.length 0 lo=a at r ⊢;generalize HT.sIx z.length z.length hi=b at hb ⊢;by_cases g:a<=b
 .exact StrLaws.sliceText_nat z g hb
 .have e:aad (θ a) (θ b) 1 z.length=[]:=by
   have h1:((1:Int) > 0)=True:=by simp
   have n1:¬ ((a:Int) < 0):=by lia
   have n2:¬ ((b:Int) < 0):=by lia
   have u:max 0 (min a z.length)=a:=by lia
   have e2  := by omega
   simp only [aad,sliceRange,h1,if_true,adV n1,adV n2,u,e2];rw [adV (by omega)];rfl
  have v:b - a=0:=by lia
  rw [e,v];split
  .rename_i h;have hz  := by
    have h'  := by simpa using h
    exact h'.symm
   apply Str.ext'
   exact Array.eq_empty_of_size_eq_zero hz
  .rfl
theorem pK (z:Str) (lo g:Option Int):(mF z lo g).length<=z.length:=by
 unfold mF;simp [Str.length];lia
theorem OL:x6 X (fun x lo C H Q=>∃ z,x=.str z/\z.length<=RW/\Q (.str (mF z lo C)) H):=by
 intro Y s σ H x v vl vu lo C M Q I rx hs pl L h;obtain ⟨z,rfl,hz,q⟩:=h;obtain ⟨t,rfl⟩:=rx;have fin:∀ (l u:Option (Int×Tok)),l.map (·.1)=lo->u.map (·.1)=C->s.heap.IsSlice M l u ξ->YH (YN X.prog X.w) X.A (aca (.str z t) (.ref M)) (EP X Y σ Q) X.xe s:=fun l u Z e2 r=>by
  refine aP I.tk (wpAny_getItem_str_slice r rfl ?_);subst Z e2;refine post_val_or_str ?_;have e:(if (((ξ:Option (Int×Tok)).map (·.1)).getD 1==1&&(slicePicked z l u ξ).length==z.length)=ζ then z else ⟨((slicePicked z l u ξ).filterMap (z.cps[·]?)).toArray⟩)=Txt.slice z (l.map (·.1)) (u.map (·.1)):=rfl;rw [e,x9];exact ⟨Le (pK _ _ _) hz,fun t' k htk=>⟨.str _,H,I.tok _,⟨t',rfl⟩,q⟩⟩
 refine ⟨"str",_,F.slot_str_getitem.lookup,typeIs_str s z t,?_⟩;cases pl with
 | none =>
  cases L with
  | none=>exact fin ξ ξ rfl rfl hs
  | int j g=>exact fin ξ (θ (j,g)) rfl rfl hs
 | int i J =>
  cases L with
  | none=>exact fin (θ (i,J)) ξ rfl rfl hs
  | int j g=>exact fin (θ (i,J)) (θ (j,g)) rfl rfl hs
def Uv (K:aT) (x:V) (lo g:Option Int) (H:Hp) (Q:VK):Prop:=match x with
 | .str z=>z.length<=RW/\Q (.str (mF z lo g)) H
 | .ref a=>(∃ xs,eV K H a xs/\∀ p,H p=ξ->Q (.ref p) (upd H p (.lst (xW xs lo g)))) \/
  ∃ xs,gU K H a xs/\¬ (HT.sIx xs.length 0 lo=0/\HT.sIx xs.length xs.length g=xs.length)/\∀ p,H p=ξ->Q (.ref p) (upd H p (.tup (xW xs lo g)))
 | _=>False
def QL:x6 X (Uv X.K):=(OL.or (IE.or PY)).imp fun x lo r H Q q=>by
 unfold Uv at q;split at q
 .exact .inl ⟨_,rfl,q.1,q.2⟩
 .rcases q with ⟨xs,h1,h2⟩|⟨xs,h1,h2,g⟩
  .exact .inr (.inl ⟨_,xs,rfl,h1,h2⟩)
  .exact .inr (.inr ⟨_,xs,rfl,h1,h2,g⟩)
 .exact q.elim
theorem oSl (K:aT) (g:X.K=K:=by rfl):x6 X (Uv K):=by
 subst g;exact QL
variable {tg:Zq}
def kIt (K:aT) (R:It->Hp->Prop):VK:=fun x H1=>match x with
 | .str z=>R (UT z) H1
 | .ref a=>((∃ xs,eV K H1 a xs)/\R (Wy K a) H1)\/((∃ xs,gU K H1 a xs)/\R (Xy K a) H1)
 | _=>False
def Yq (K:aT) (g:TE):TI:=fun σ H R=>g σ H (kIt K R)
theorem OV (K:aT) (Z:PE X l tl) (Y:X.K=K:=by rfl):PI X tg l (Yq K tl):=by
 subst Y;intro J s σ H R I h;refine bV (Z J s σ H _ I h) fun v r M=>jC M fun x H1 C r1 q1=>?_;cases x with
 | str z =>
  obtain ⟨t,rfl⟩:=r1;have g:∀ b∈[r.heap.objs.size],eZ X J H1 b:=fun b hb=>by
   have e  := by simpa using hb
   subst e;exact C.fpOk (oR _) (C.hok.fresh (oR _))
  cases ha:z.cps.all (· < 128)
  .refine wpAny_pyIter_wide ha ?_;exact ⟨r.heap.objs.size,[r.heap.objs.size],_,_,H1,rfl,C.kept fun b o e=>eQ _ e,(fun it z t =>  rO (fun A hA=>Walks.strWide hA it z t) (fun i h ⟨o,e,c,d⟩=>⟨o,_,_,e,c,d,by decide⟩) (fun i H h=>h) (fun i H u _ h=>Eb h) (fun i h H e st=>by
     have L:i=z.cps.size:=e;rw [<- L];exact st) fun A i s Q E st h=>wpAny_pyIter_striter_wide st h) _ z t,⟨_,BY _ rfl,rfl,rfl⟩,g,q1⟩
  .refine wpAny_pyIter_ascii ha ?_;exact ⟨r.heap.objs.size,[r.heap.objs.size],_,_,H1,rfl,C.kept fun b o e=>eQ _ e,(fun it z t =>  rO (fun A hA=>Walks.strAscii hA it z t) (fun i h ⟨o,e,c,d⟩=>⟨o,_,_,e,c,d,by decide⟩) (fun i H h=>h) (fun i H u _ h=>Eb h) (fun i h H e st=>by
     have L:i=z.cps.size:=e;rw [<- L];exact st) fun A i s Q E st h=>wpAny_pyIter_striter_ascii st h) _ z t,⟨_,BY _ rfl,rfl,rfl⟩,g,q1⟩
 | ref a =>
  cases r1;have g:∀ b∈[r.heap.objs.size],eZ X J H1 b:=fun b hb=>by
   have e  := by simpa using hb
   subst e;exact C.fpOk (oR _) (C.hok.fresh (oR _))
  rcases q1 with ⟨⟨xs,hq⟩,q⟩|⟨⟨xs,hq⟩,q⟩
  .let ⟨its,rv,p,hz⟩:=C.list hq
   refine wpAny_pyIter_list p.isList ?_;exact ⟨r.heap.objs.size,[r.heap.objs.size],_,_,H1,rfl,C.kept fun b o e=>eQ _ e,C2 a _,⟨_,BY _ rfl,rfl,rfl⟩,g,q⟩
  .let ⟨its,rv,p,hz⟩:=C.tuple hq
   refine wpAny_pyIter_tuple ((p)) ?_;exact ⟨r.heap.objs.size,[r.heap.objs.size],_,_,H1,rfl,C.kept fun b o e=>eQ _ e,yi a _,⟨_,BY _ rfl,rfl,rfl⟩,g,q⟩
 | _=>exact q1.elim
def MB (R:It->Hp->Prop):ad7->Hp->Prop:=fun vs H1=>match vs with
 | [.int j]=>(-(2 ^ 62)<=j/\j < 2 ^ 62)/\R (U1 0 j.toNat) H1
 | _=>False
def Mb (ta:TA):TI:=fun σ H R=>ta σ H (MB R)
theorem Du (hg:Gl X "range") (hm:X.mg "range"=ξ) (u:PA X [a] ta) (hs:YI [a] X.env=[(η,eval a X.env)]:=by rfl):PI X tg (.Call (.Name "range" p) [a] [] pos) (Mb ta):=by
 intro g s σ H R I h;refine Call_ (gI I hg hm boot_range (Zw (bV (u pos g s σ H _ I h) fun us J v=>jC v fun vs H1 z r1 q1=>?_) hs rfl));unfold MB at q1;split at q1
 .let ⟨⟨q2,q3⟩,q⟩:=q1
  cases r1 with
  | cons r C =>
   cases C;obtain ⟨t,rfl⟩:=r;exact call_range_1 (Fy z (by lia) (by lia) q2 q3 (by simpa using q))
 .exact q1.elim
def Xu (r:Str->ad7->Hp->VK->Prop) (z:Str) (Q:VK):ad7->Hp->Prop:=fun xs g=>r z xs g Q
def kSM (r:Str->ad7->Hp->VK->Prop) (t:TA) (σ:St) (Q:VK):VK:=fun x H1=>match x with
 | .str z=>t σ H1 (Xu r z Q)
 | _=>False
def X5 (r:Str->ad7->Hp->VK->Prop) (g:TE) (t:TA):TE:=fun σ H Q=>g σ H (kSM r t σ Q)
def Uh (X:Cx) (id:String) (r:Str->ad7->Hp->VK->Prop):Prop :=
 ∀ (g:ad2) (s:IF) (σ:St) (H:Hp) (z:Str) (t:Tok) (xs:ad7) (us:ad6) (Q:VK),Inv X g σ H s->aU xs us->r z xs H Q ->
  YH (YN X.prog X.w) X.A (call (.builtin id) (.str z t::us)) (EP X g σ Q) X.xe s
theorem UD {apos cpos:Pos} {id:String} (J:Slot "str" name id) (Z:typeOf (.builtin id)=pure (.type "method_descriptor")) (hm:Uh X id r) (ho:PE X o to) (ha:PA X (e::es) t)
  (u:Y4 o name X.env (eval o X.env)=eval o X.env:=by rfl)
  (L:((aaa cpos (YI (e::es) X.env)).all (fun x=>!x.1)&&(backToKw cpos (aaJ [] X.env)).all (fun x=>x.1.isSome)
   && decide ((e::es).length+([]:List aaQ).length+(if ([]:List aaQ).isEmpty then 0 else 1) < 30))=ζ:=by rfl)
  (C:(apos.endLine==cpos.line)=ζ:=by rfl) (hs:YI (e::es) X.env=(η,eval e X.env)::YI es X.env:=by rfl) (g:(aaa cpos (YI es X.env)).any (·.1)=η:=by rfl) :
  PE X (.Call (.Attribute o name apos) (e::es) [] cpos) (X5 r to t):=by
 intro M s σ H Q I h;refine wpAny_Call_method_late u L C rfl (bV (ho M s σ H _ I h) fun v s1 Y=>jC Y fun x H1 I1 r1 q1=>?_);cases x with
 | str z =>
  obtain ⟨tk,rfl⟩:=r1;refine ⟨"str",id,PySem.F.plainAttrs_str,J,Z,typeIs_str s1 z tk,(fun _ e=>nomatch e),?_⟩
  have hA:=ha cpos M s1 σ H1 _ I1 q1;rw [hs] at hA ⊢;refine ZC (by show (η||(aaa cpos (YI es X.env)).any (·.1))=η;rw [g] <;> rfl) (aau ?_);exact bV hA fun us s2 Y=>jC Y fun vs H2 I2 r2 q2=>hm M s2 σ H2 z tk vs us Q I2 r2 q2
 | _=>exact q1.elim
def D7 (K:aT) (z:Str) (xs:ad7) (H:Hp) (Q:VK):Prop:=match xs with
 | [.ref p]=>∃ ys:ad1,eV K H p (ys.map V.str)/\(ys.map (·.length)).sum+ys.length*z.length<=16777216/\Q (.str (acS z ys)) H
 | _=>False
theorem qa:∀ {ys:ad1} {us:ad6},aU (ys.map V.str) us->StrsAre us ys
 | [],us,r=>by cases r;exact .nil
 | y::ys,us,r=>by
  cases r with
  | cons r g =>
   obtain ⟨t,rfl⟩:=r;exact .cons y t (qa g)
theorem Jd (K:aT) (v:X.K=K:=by rfl):Uh X "str.join" (D7 K):=by
 subst v;intro J s σ H z t xs us Q I r h;unfold D7 at h;split at h
 .let ⟨ys,hq,hz,q⟩:=h
  obtain ⟨u,rfl,C⟩:=gj r;cases C;let ⟨its,rv,p,hz'⟩:=I.list hq
  exact aP I.tk (join_list p.isList (by simpa using qa rv) hz fun t' k g=>⟨.str (acS z ys),H,I.tok _,⟨t',rfl⟩,q⟩)
 .exact h.elim
end
structure Def (K:aT) (mg:ad4) (x:Str) (st:aa0) (ps:ad1) (f:YS) (fd:aaS):Prop where
 F:Fun K x x st f fd
 b:gi K fd ps []
 m:mg x=θ (.ref f)
section
variable {st:aa0} {p pos:Pos}
def Th (sp:Sp) (t:TA):TE:=fun σ H Q=>t σ H fun vs H1=>sp vs H1 Q E0
end
theorem aI (h:H p=ξ) (o:HO):aw H (upd H p o):=fun b u q=>by rw [aA (a9 q h)];exact q
theorem aw.seqT {K:aT} (e:aw H H') (h:gU K H a xs):gU K H' a xs:=by
 rcases h with (h|⟨o,h⟩)|h
 .exact .inl (.inl (e _ _ h))
 .exact .inl (.inr ⟨o,e _ _ h⟩)
 .exact .inr h
abbrev lj (z:Str):ad7:=z.cps.toList.map fun c=>V.str ⟨#[c]⟩
theorem AM (a b:Str):(a++b).cps.toList=a.cps.toList++b.cps.toList:=by
 exact Array.toList_append
theorem str_len (a:Str):a.length=a.cps.toList.length:=by rfl
theorem LW:∀ (sep:Str) (ys:ad1),(Str.join sep ys).cps.toList=((ys.map (fun y:Str=>y.cps.toList)).intersperse sep.cps.toList).flatten
 | _,[]=>rfl
 | _,[x]=>by simp [Str.join]
 | sep,x::y::r=>by
  have g:=LW sep (y::r);show ((x++sep)++Str.join sep (y::r)).cps.toList=_;rw [AM,AM,g];simp [ZM]
theorem Dp (g:Str) (ys:ad1):(acS g ys).cps.toList=((ys.map (fun y:Str=>y.cps.toList)).intersperse g.cps.toList).flatten:=by
 show (Builtin.Str.glued g ys).cps.toList=_;rw [StrLaws.glued_eq_join,LW]
theorem tR {α:Type}:∀ (xs:List (List α)),(xs.intersperse []).flatten=xs.flatten
 | []=>rfl
 | [x]=>rfl
 | x::y::r=>by
  have g:=tR (y::r);simp_all
theorem zI (ys:ad1):(acS (DO "") ys).cps.toList=(ys.map (fun y:Str=>y.cps.toList)).flatten:=by
 rw [Dp];have e:(DO "").cps.toList=[]:=by trivial
 rw [e,tR]
theorem y6 (cs:ad0):(acS (DO "") (cs.map fun c=>(⟨#[c]⟩:Str))).cps.toList=cs:=by
 rw [zI];induction cs with
 | nil=>rfl
 | cons c r g =>
  simp_all
theorem CF (cs:ad0):((cs.map fun c=>(⟨#[c]⟩:Str)).map (·.length)).sum=cs.length:=by
 induction cs with
 | nil=>rfl
 | cons c r g =>
  rw [YB,YB,List.sum_cons,g];show 1+r.length=r.length+1;lia
section
variable {K:aT}
def Xa (r:R2) (x:V) (Q:VK):VK:=fun y g=>r x y g Q
def UC (r:R2) (tb:TE) (σ:St) (Q:VK):VK:=fun x H1=>tb σ H1 (Xa r x Q)
end
structure JE (X:Cx) (e:Zq) (t:TE):Prop where
 out:PE X e t
structure JT (X:Cx) (e:Zq) (t:TT):Prop where
 out:PT X e t
structure JW (X:Cx) (e:Zq) (t:TT):Prop where
 out:PW X e t
structure JA (X:Cx) (es:List Zq) (t:TA):Prop where
 out:PA X es t
structure JS (X:Cx) (st:aa0) (t:TS):Prop where
 out:PS X st t
structure JB (X:Cx) (st:List aa0) (t:TS):Prop where
 out:Io X st t
structure JG (X:Cx) (e:Zq) (t:TG):Prop where
 out:PG X e t
structure JGs (X:Cx) (es:List Zq) (t:KP):Prop where
 out:U7 X es t
structure JI (X:Cx) (tg e:Zq) (t:TI):Prop where
 out:PI X tg e t
structure JO (X:Cx) (e:Option Zq) (t:TO):Prop where
 out:PO X e t
structure JTs (X:Cx) (es:List Zq) (t:TT):Prop where
 out:P9 X es t
section
variable {X:Cx} {pos:Pos} {rest:List Zq}
theorem jv (i:Nat) (r:X.N[i]?=θ x:=by rfl) (hv:sd X.env.scope x:=by walk_at"v") (u:ad9 x:=by decide)
  (g:(x==("__classdict__":Str))=η:=by decide):JE X (.Name x pos) (lC i):=⟨qv i r hv u g⟩
theorem Ue:JE X (.Constant (.int i) j pos) (tC (.int i)):=⟨(fun _ _ _ H _ I h=>wpAny_Constant_int ⟨.int i,H,I.tok _,⟨_,rfl⟩,h⟩)⟩
theorem VL {b j pos}:JE X (.Constant (.bool b) j pos) (tC (.bl b)):=⟨(fun _ _ _ H _ I h=>Constant_bool ⟨.bl b,H,I,rfl,h⟩)⟩
theorem SE:JE X (.Constant .none j pos) (tC .non):=⟨(fun _ _ _ H _ I h=>Constant_none ⟨.non,H,I,rfl,h⟩)⟩
theorem Tk:JE X (.Constant (.str x) j pos) (tC (.str x)):=⟨(fun _ _ _ H _ I h=>Calls.Constant_str ⟨.str x,H,I.tok _,⟨_,rfl⟩,h⟩)⟩
theorem Gz (hm:X.mg x=θ u) (r:aQ v u) (hg:Gl X x:=by rfl) (g:ad9 x:=by decide):JE X (.Name x pos) (tC v):=⟨A6 hg hm r g⟩
theorem WF (hm:X.mg x=ξ) (hv:YT x=θ (.type n)) (hg:Gl X x:=by rfl) (hn:x≠"__name__":=by decide) (g:ad9 x:=by decide):JE X (.Name x pos) (tC (.ty n)):=⟨RT hm hv hg hn g⟩
theorem Wx (g:dh X (Z7 op) r) (u:JE X a ta) (hb:JE X b tb):JE X (.BinOp a op b pos) (Ip r ta tb):=⟨RK g u.out hb.out⟩
theorem W3 (u:Iy X (unaryOp op) r) (C:JE X a ta):JE X (.UnaryOp op a pos) (tUn r ta):=⟨(by
  intro g s σ H Q I h;exact UnaryOp_ (bV (C.out g s σ H _ I h) fun v J z=>jC z fun x H1 L r1 q1=>u g J σ H1 x v Q L r1 q1))⟩
theorem T3 (r:JE X a ta):JE X (.UnaryOp .Not a pos) (VS ta):=⟨(by
  intro z s σ H Q I h;refine UnaryOp_ (bV (r.out z s σ H _ I h) fun v C g=>jC g fun x H1 u r1 q1=>?_);cases x with
  | bl c =>
   cases r1;exact not_of (aaC ⟨.bl (!c),H1,u,rfl,q1⟩)
  | _=>exact q1.elim)⟩
theorem Qi (h:JE X a ta):JE X (.BoolOp op [a] pos) ta:=⟨NJ h.out⟩
theorem Tm (u:JE X a ta) (hb:JE X (.BoolOp .And (b::rest) pos) tb):JE X (.BoolOp .And (a::b::rest) pos) (XC ta tb):=⟨(by
  intro g s σ H Q I h;refine BoolOp_and (bV (u.out g s σ H _ I h) fun v C z=>jC z fun x H1 r r1 q1=>?_);cases x with
  | bl c =>
   cases r1;refine aaC ?_;cases c with
   | true=>exact hb.out g C σ H1 Q r q1
   | false=>exact ⟨.bl η,H1,r,rfl,q1⟩
  | _=>exact q1.elim)⟩
theorem WD (u:JE X a ta) (hb:JE X (.BoolOp .Or (b::rest) pos) tb):JE X (.BoolOp .Or (a::b::rest) pos) (uOr ta tb):=⟨(by
  intro g s σ H Q I h;refine BoolOp_or (bV (u.out g s σ H _ I h) fun v C z=>jC z fun x H1 r r1 q1=>?_);cases x with
  | bl c =>
   cases r1;refine aaC ?_;cases c with
   | false=>exact hb.out g C σ H1 Q r q1
   | true=>exact ⟨.bl ζ,H1,r,rfl,q1⟩
  | _=>exact q1.elim)⟩
theorem Si (g:dh X (YX op) r) (u:JE X a ta) (hb:JE X b tb) (hm:aaI op b=η):JE X (.Compare a [op] [b] pos) (Ip r ta tb):=⟨J8 g u.out hb.out hm⟩
theorem E9 (J:dh X (YX op) r) (M:JE X a ta) (hb:JE X b tb) (hm:aaI op b=η):JT X (.Compare a [op] [b] pos) (QM (Ip r ta tb)):=⟨(by
  intro C s σ H Q I h;refine wpAny_isTrue_Compare1 (bV (M.out C s σ H _ I h) fun v Z g=>jC g fun x H1 I1 r1 q1=>bV (hb.out C Z σ H1 _ I1 q1) fun u L g=>jC g fun y Y I2 r2 q2 =>
   bV (J C L σ Y x y v u _ I2 r1 r2 q2) fun c s3 g=>jC g fun z H3 I3 r3 q3=>?_) hm
  cases z with
  | bl k =>
   cases r3;exact aaC ⟨H3,I3,q3⟩
  | _=>exact q3.elim)⟩
theorem Ro (u:JT X c tA) (r:JE X a ta) (hb:JE X b tb):JE X (.IfExp c a b pos) (tIf tA ta tb):=⟨(by
  intro g s σ H Q I h;refine wpAny_IfExp (bV (u.out g s σ H _ I h) fun d s1 ⟨H1,I1,q1⟩=>?_);cases d with
  | true=>exact r.out g s1 σ H1 Q I1 q1
  | false=>exact hb.out g s1 σ H1 Q I1 q1)⟩
theorem IQ (g:JT X a tA):JW X (.BoolOp .And [a] pos) tA:=⟨KN g.out⟩
theorem OY (g:JT X a tA):JW X (.BoolOp .Or [a] pos) tA:=⟨MP g.out⟩
theorem Nk (r:JT X a tA) (hb:JW X (.BoolOp .And (b::rest) pos) tB'):JW X (.BoolOp .And (a::b::rest) pos) (Vs tA tB'):=⟨(by
  intro u g s σ H Q I h;refine isTrue_and (bV (r.out g s σ H _ I h) fun c s1 ⟨H1,I1,q1⟩=>?_);cases c with
  | true=>exact hb.out u g s1 σ H1 Q I1 q1
  | false=>exact ⟨H1,I1,q1⟩)⟩
theorem Qh (r:JT X a tA) (hb:JW X (.BoolOp .Or (b::rest) pos) tB'):JW X (.BoolOp .Or (a::b::rest) pos) (tOr tA tB'):=⟨(by
  intro u g s σ H Q I h;refine isTrue_or (bV (r.out g s σ H _ I h) fun c s1 ⟨H1,I1,q1⟩=>?_);cases c with
  | true=>exact ⟨H1,I1,q1⟩
  | false=>exact hb.out u g s1 σ H1 Q I1 q1)⟩
theorem Of (g:JT X a tA):JT X (.UnaryOp .Not a pos) (Vx tA):=⟨(by
  intro r s σ H Q I h;exact isTrue_not (g.out r s σ H (fun c H1=>Q (!c) H1) I h))⟩
theorem GW (K:aT) (r:JE X a ta) (u:∀ g,isTrue a X.env g=(do let v <- g;acy a.pos;holding [v] (truthy v)):=by exact fun _=>rfl) (z:X.K=K:=by rfl):JT X a (E7 K ta):=⟨GZ K r.out u z⟩
def qr:JA X [] Fh:=⟨(fun _ _ _ _ H Q I h=>aaz ⟨[],H,I,.nil,h⟩)⟩
theorem m5 (g:JE X e te) (hr:JA X es t) (hn:aM e=ζ:=by rfl):JA X (e::es) (tL te t):=⟨Jg g.out hr.out hn⟩
theorem RU (h:JA X es t):JE X (.List es pos) (We t):=⟨(by
  intro g s σ H Q I hq;refine wpAny_List_spliced (bV (h.out pos g s σ H _ I hq) fun us s1 ⟨xs,H1,I1,r,z,q⟩=>⟨by rw [<- r.length];exact z,?_⟩);have hf  := I1.hok.fresh (oR _);refine ⟨.ref s1.heap.objs.size,upd H1 s1.heap.objs.size (.lst xs),I1.laid (fun b u e=>eQ _ e) (oR _) ?_,rfl,q _ hf⟩;exact ⟨z,us,0,r,BY _ rfl⟩)⟩
theorem Rc (h:JA X es t):JE X (.Tuple es x1 pos) (Wa t):=⟨(by
  intro g s σ H Q I hq;refine wpAny_Tuple_spliced (bV (h.out pos g s σ H _ I hq) fun us s1 ⟨xs,H1,I1,r,z,q⟩=>⟨by rw [<- r.length];exact z,?_⟩);have hf  := I1.hok.fresh (oR _);refine ⟨.ref s1.heap.objs.size,upd H1 s1.heap.objs.size (.tup xs),I1.laid (fun b u e=>eQ _ e) (oR _) ?_,rfl,q _ hf⟩;exact ⟨z,us,r,⟨_,BY _ rfl,rfl,_,rfl⟩⟩)⟩
theorem uN:JE X (.Dict [] [] pos) GX:=⟨(fun g s σ H Q I h =>
  wpAny_Dict_empty ⟨.ref s.heap.objs.size,_,I.laid (fun _ _ q=>eQ _ q) (oR _) (wH s.heap I.big),rfl,h _ (I.hok.fresh (oR _))⟩)⟩
theorem Q7 (hr:CA X r) (C:JE X a ta) (hb:JE X b tb) (hs:pM b:=by exact fun _ _=>rfl):JE X (.Subscript a b pos) (Ip r ta tb):=⟨(by
  intro z s σ H Q I h;exact Subscript_ (M7 C.out hb.out I h fun v u g x y J M L Y q=>hr a b z g σ J x y v u Q M L Y q (hs _ _)))⟩
def IM:JO X ξ KO:=⟨(by
  intro g s σ H Q I h;exact nE ⟨ξ,H,I,.none,h⟩)⟩
theorem IC (h:JE X e te):JO X (θ e) (Uy te):=⟨(by
  intro g s σ H Q I hw;refine bV (h.out g s σ H _ I hw) fun u z r=>jC r fun x H1 v r1 q1=>?_;cases x with
  | int i =>
   obtain ⟨t,rfl⟩:=r1;exact ⟨θ i,H1,v,.int i t,q1⟩
  | _=>exact q1.elim)⟩
theorem JY {lo z:Option Zq} (hr:x6 X r) (C:JE X e te) (hl:JO X lo tl) (Z:JO X z th):JE X (.Subscript e (.Slice lo z ξ p2) pos) (tSl r te tl th):=⟨(by
  intro g s σ H Q I h;refine Subscript_ (bV (C.out g s σ H _ I h) fun v L J=>jC J fun x H1 Y r1 q1=>?_);refine wpAny_Slice (bV (hl.out g L σ H1 _ Y q1) fun vl s2 ⟨l,H2,I2,pl,q2⟩=>bV (Z.out g s2 σ H2 _ I2 q2) fun vu s3 ⟨u,H3,I3,pu,q3⟩=>?_);refine nE ?_;have M:Inv X g σ H3 { s3 with heap:=s3.heap.push { cls:=.type "slice",data:=.fields #[vl,vu,.none] } }:=I3.kept fun b ob q=>eQ _ q;let ⟨T,id,hT,ht,hg⟩:=hr g { s3 with heap:=s3.heap.push { cls:=.type "slice",data:=.fields #[vl,vu,.none] } } σ H3 x v vl vu l u s3.heap.objs.size Q M r1 (adj ..) pl pu q3
  exact tail_any ht hT hg (by rfl))⟩
end
section
variable {st:aa0} {p pos:Pos} {id:String}
theorem vh (v:bD X (.builtin id) r) (hm:X.mg x=ξ) (hv:YT x=θ (.builtin id)) (u:JA X (e::es) t) (hg:Gl X x:=by rfl) (h1:aM e=ζ:=by rfl) (h2:es.all aM=ζ:=by rfl) (hn:x≠"__name__":=by decide) (g:ad9 x:=by decide) :
  JE X (.Call (.Name x p) (e::es) [] pos) (P7 r t):=⟨WH v hm hv u.out hg h1 h2 hn g⟩
theorem ve (v:bD X (.type T) r) (hm:X.mg x=ξ) (hv:YT x=θ (.type T)) (u:JA X (e::es) t) (hg:Gl X x:=by rfl) (h1:aM e=ζ:=by rfl) (h2:es.all aM=ζ:=by rfl) (hn:x≠"__name__":=by decide) (g:ad9 x:=by decide) :
  JE X (.Call (.Name x p) (e::es) [] pos) (P7 r t):=⟨VA v hm hv u.out hg h1 h2 hn g⟩
end
section
variable {apos cpos:Pos} {id:String}
theorem wl (h:es.all aM=ζ) (g:es.length < 29):((aaa pos (YI es env)).all (fun x=>!x.1)&&(backToKw pos (aaJ [] env)).all (fun x=>x.1.isSome)
   && decide (es.length+([]:List aaQ).length+(if ([]:List aaQ).isEmpty then 0 else 1) < 30))=ζ:=by
 have h1:(aaa pos (YI es env)).all (fun x=>!x.1)=ζ:=by
  have:=dq (env:=env) (pos:=pos) h
  grind
 rw [h1];show (ζ&&ζ&&decide (es.length+0+0 < 30))=ζ
 grind
theorem W8 (z:Slot "str" name id) (C:typeOf (.builtin id)=pure (.type "method_descriptor")) (hm:Uh X id r) (I:JE X o to) (J:JA X (e::es) t)
  (g:Y4 o name X.env (eval o X.env)=eval o X.env:=by rfl) (u:(apos.endLine==cpos.line)=ζ:=by rfl) (h1:(e::es).all aM=ζ:=by rfl) (L:(e::es).length < 29:=by decide) :
  JE X (.Call (.Attribute o name apos) (e::es) [] cpos) (X5 r to t):=by
 have v:=h1;rw [ZX,YR] at v;exact ⟨UD z C hm I.out J.out g (wl h1 L) u (bw v.1) (dq v.2)⟩
end
section
variable {tg elt:Zq} {pos:Pos}
def IK:JTs X [] Wp:=⟨(fun _ _ _ H _ I h=>wpAny_tests_nil ⟨H,I,h⟩)⟩
theorem K7 (h:JT X c tt):JTs X [c] tt:=⟨KA h.out⟩
theorem OD (r:wY osc ON N ix scope=ζ) (C:JI X tg iter wi) (hg:∀ b,JG (iW X N scope b) tg g) (ht:∀ b,JTs (iW X N scope b) ifs tt) (v:∀ b,JE (iW X N scope b) elt te)
  (u:X.env.scope=osc:=by rfl) (z:X.N=ON:=by rfl) (I:X.calm=ζ:=by rfl) (hs:∀ x,Zs iter X.env x=pure x:=by intro _;rfl):JE X (.ListComp elt [⟨tg,iter,ifs,0⟩] scope pos) (Bo ix wi g tt te) :=
 ⟨Ee (Ll r) u z I C.out (fun b=>(hg b).out) (fun b=>(ht b).out) (fun b=>(v b).out) hs⟩
theorem yE {spos pos':Pos} (M:X.N.Nodup) (Y:vZ X.env.scope x) (r:wY osc ON N ix scope=ζ) (Z:JI X tg iter wi) (hg:∀ b,JG (iW X N scope b) tg g) (ht:∀ b,JTs (iW X N scope b) ifs tt) (C:∀ b,JE (iW X N scope b) elt te)
  (J:X.N[i]?=θ x:=by rfl) (hE:X.env.scope=osc:=by rfl) (I:X.N=ON:=by rfl) (L:X.calm=ζ:=by rfl)
  (v:Z2 (.ListComp elt [⟨tg,iter,ifs,0⟩] scope pos) (θ (.Name x pos')) spos.line X.env=pure ζ:=by rfl)
  (z:X.fn x=ζ\/X.env.scope.names.lookup x=θ .local:=by walk_at"u")
  (hs:∀ x,Zs iter X.env x=pure x:=by intro _;rfl):JS X (.Assign [.Name x pos'] (.ListComp elt [⟨tg,iter,ifs,0⟩] scope pos) spos) (qm (Bo ix wi g tt te) (jA i)) :=
 ⟨zD M J Y (Ll r) hE I L Z.out (fun b=>(hg b).out) (fun b=>(ht b).out) (fun b=>(C b).out) v z hs⟩
theorem PM (K:aT) (r:JE X l tl) (g:X.K=K:=by rfl):JI X tg l (Yq K tl):=⟨OV K r.out g⟩
theorem CS {p pos:Pos} (hm:X.mg "range"=ξ) (g:JA X [a] ta) (hg:Gl X "range":=by rfl) (hn:aM a=ζ:=by rfl):JI X tg (.Call (.Name "range" p) [a] [] pos) (Mb ta):=⟨Du hg hm g.out (bw hn)⟩
end
section
variable {pos:Pos} {st:aa0} {rest:List aa0}
theorem Ap (g:X.N.Nodup) (r:X.N[i]?=θ x) (v:vZ X.env.scope x) (z:X.fn x=ζ\/X.env.scope.names.lookup x=θ .local:=by walk_at"u"):JG X (.Name x pos) (jA i):=⟨BD g r v z⟩
def KZ:JGs X [] Xz:=⟨(by
  intro g s σ H vs us Q I r h;let ⟨e,h⟩:=h
  exact assignInOrder_nil ⟨σ,H,I,h⟩)⟩
theorem GA {t:TG} {u:KP} (h1:JG X e t) (h2:JGs X es u)
  (hs:(Zn (e::es) X.env).map (·.2)=assign e X.env::(Zn es X.env).map (·.2):=by rfl):JGs X (e::es) (LI t u):=⟨Hf h1.out h2.out hs⟩
theorem NP (K:aT) {k:Nat} {t:KP} {n:Nat} (h:JGs X es t) (u:X.calm=ζ:=by rfl)
  (hn:(Zn es X.env).length=n:=by rfl) (g:(Zn es X.env).findIdx? (·.1)=ξ:=by rfl) (r:X.K=K:=by rfl):JG X (.Tuple es k pos) (RS K n t):=by
 subst r;exact ⟨MJ u h.out hn g⟩
def vK:JB X [] A7:=⟨(fun _ _ σ H _ I h=>abY ⟨σ,H,I,h⟩)⟩
theorem m9 (h1:JS X st t) (h2:JB X rest u):JB X (st::rest) (S9 t u):=⟨qq h1.out h2.out⟩
theorem rQ (h1:JS X st t):JB X [st] t:=⟨AK h1.out⟩
theorem mN (g:JE X e te) (hs:Z2 e ξ pos.line X.env=pure η:=by rfl):JS X (.Expr e pos) (tP te):=⟨K9 g.out hs⟩
theorem PF (u:JE X e te):JS X (.Return (θ e) pos) (Wi te):=⟨(by
  intro z s σ H D I h;exact wpAny_Return_some (bV (u.out z s σ H _ I h) fun v C g=>jC g fun x H1 r r1 q1=>⟨x,σ,H1,r,r1,q1⟩))⟩
theorem BN (v:JT X c tc) (r:JB X a t) (hb:JB X b u):JS X (.If c a b pos) (IZ tc t u):=⟨(by
  intro g s σ H D I h;refine wpAny_If (bV (v.out g s σ H _ I h) fun d s1 ⟨H1,I1,q1⟩=>?_);cases d with
  | true=>exact r.out g s1 σ H1 D I1 q1
  | false=>exact hb.out g s1 σ H1 D I1 q1)⟩
theorem zw {pos':Pos} (g:X.N.Nodup) (r:vZ X.env.scope x) (z:JE X e te) (C:X.N[i]?=θ x:=by rfl) (hs:Z2 e (θ (.Name x pos')) pos.line X.env=pure η:=by rfl) (v:X.fn x=ζ\/X.env.scope.names.lookup x=θ .local:=by walk_at"u") :
  JS X (.Assign [.Name x pos'] e pos) (qm te (jA i)):=⟨Pc g C r z.out hs v⟩
theorem qi (r:JE X e te) (hg:JG X tg g) (hs:swapsWithSole [tg] e pos.line X.env=pure η:=by rfl) (hw:swappedStores [tg] e X.env=pure ξ:=by rfl)
  (h1:(Zn [tg] X.env).map (·.2)=[assign tg X.env]:=by rfl):JS X (.Assign [tg] e pos) (qm te g):=⟨Na r.out hg.out hs hw h1⟩
theorem yF {t:OM} (g:JE X o to) (u:JE X i ti) (hs:MF X t)
  (r:∀ v,assign (.Subscript o i pos) X.env v=(do
   let ov <- holding [v] (eval o X.env)
   let iv <- holding [v,ov] (eval i X.env)
   acy pos
   holding [v,ov,iv] (setItem ov iv v)
   release [v,ov,iv] []):=by intro _;rfl):JG X (.Subscript o i pos) (yP to ti t):=⟨OJ g.out u.out hs r⟩
theorem FC (r:abM (YN X.prog X.w) X.A X.env X.xe) (u:JI X tg iter wi) (hg:JG X tg g) (hb:JB X body tb) (v:X.calm=ζ:=by rfl)
  (hs:∀ x,Zs iter X.env x=pure x:=by intro _;rfl):JS X (.For tg iter body [] pos) (Qp wi g tb):=⟨NN r v u.out hg.out hb.out hs⟩
theorem Hu (u:abM (YN X.prog X.w) X.A X.env X.xe) (J:JT X c tc) (hb:JB X body tb):JS X (.While c body [] pos) (Pd tc tb):=⟨(by
  intro r s σ H D I h;obtain ⟨W,⟨C,z⟩,turn⟩:=h;refine wpAny_While (codeAny_whileLoop (fun n L=>∃ g H',Inv X r g H' L/\W n g H') ?_ C ⟨σ,H,I,z⟩);rintro n s1 ⟨σ1,H1,I1,w1⟩;refine aaB u (bV (J.out r s1 σ1 H1 _ I1 (turn n σ1 H1 w1)) fun b s2 ⟨H2,I2,q2⟩=>?_);cases b with
  | true =>
   let ⟨N,hN,q2⟩:=q2
   refine aaB u (bV (hb.out r s2 σ1 H2 _ I2 q2) fun f M q3=>?_);cases f with
   | next =>
    let ⟨σ3,H3,I3,n3⟩:=q3
    let ⟨m',hm,w3⟩:=hN σ3 H3 n3
    exact ⟨m',hm,σ3,H3,I3,w3⟩
   | cont =>
    let ⟨σ3,H3,I3,n3⟩:=q3
    let ⟨m',hm,w3⟩:=hN σ3 H3 n3
    exact ⟨m',hm,σ3,H3,I3,w3⟩
   | brk=>exact q3
   | ret v=>exact q3
  | false =>
   exact abY ⟨σ1,H2,I2,q2⟩)⟩
end
section
variable {K:aT}
theorem Fun.okJ {st:aa0} (F:Fun K x qual st f fd) (S:FnScope N ps (aY st)) (len:∀ vs H Q E,sp vs H Q E->vs.length=ps.length)
  (u:∀ (r:rW) (A:aaF) (g:List Env) (s:IF) (H:Hp) (vs:ad7) (Q:VK) (E:XK),Room k (A.deeper (ac0 qual (aY st) s.heap.objs.size f r))->sp vs H Q E ->
   ∃ t,JB (wq l8 P w K mg base N qual (aY st) f r A g s H E).nox (eJ st) t/\t { nx:=fun _ H'=>Q .non H',rt:=Q } (start N vs) H):FnOk P w K mg base l8 (k+1) f fd ps sp :=
 F.ok S len fun r A g s H vs Q E hr h=>let ⟨t,h1,h2⟩:=u r A g s H vs Q E hr h;⟨t,h1.out,h2⟩
end
theorem JE.imp (h:JE X e t) (i:∀ σ H Q,t' σ H Q->t σ H Q):JE X e t':=⟨h.out.imp i⟩
theorem JT.imp (h:JT X e t) (i:∀ σ H Q,t' σ H Q->t σ H Q):JT X e t':=⟨fun g s σ H Q I q=>h.out g s σ H Q I (i σ H Q q)⟩
theorem JW.imp (h:JW X e t) (i:∀ σ H Q,t' σ H Q->t σ H Q):JW X e t':=⟨fun w g s σ H Q I q=>h.out w g s σ H Q I (i σ H Q q)⟩
theorem JA.imp (h:JA X es t) (i:∀ σ H Q,t' σ H Q->t σ H Q):JA X es t':=⟨fun pos g s σ H Q I q=>h.out pos g s σ H Q I (i σ H Q q)⟩
theorem JS.imp {st:aa0} (h:JS X st t) (i:∀ D σ H,t' D σ H->t D σ H):JS X st t':=⟨fun g s σ H D I q=>h.out g s σ H D I (i D σ H q)⟩
theorem JB.imp {st:List aa0} (h:JB X st t) (i:∀ D σ H,t' D σ H->t D σ H):JB X st t':=⟨fun g s σ H D I q=>h.out g s σ H D I (i D σ H q)⟩
theorem JG.imp (h:JG X e t) (i:∀ v σ H Q,t' v σ H Q->t v σ H Q):JG X e t':=⟨fun g s σ H v u Q I r q=>h.out g s σ H v u Q I r (i v σ H Q q)⟩
theorem JGs.imp (h:JGs X es t) (i:∀ v σ H Q,t' v σ H Q->t v σ H Q):JGs X es t':=⟨fun g s σ H v u Q I r q=>h.out g s σ H v u Q I r (i v σ H Q q)⟩
theorem JI.imp (h:JI X tg e t) (i:∀ σ H R,t' σ H R->t σ H R):JI X tg e t':=⟨fun g s σ H R I q=>h.out g s σ H R I (i σ H R q)⟩
theorem JO.imp (h:JO X e t) (i:∀ σ H Q,t' σ H Q->t σ H Q):JO X e t':=⟨fun g s σ H Q I q=>h.out g s σ H Q I (i σ H Q q)⟩
theorem JTs.imp (h:JTs X es t) (i:∀ σ H Q,t' σ H Q->t σ H Q):JTs X es t':=⟨fun g s σ H Q I q=>h.out g s σ H Q I (i σ H Q q)⟩
inductive D where
 | non|bl (b:Bool)|int (i:Int)|str (x:Str)|ty (n:String)
 | lst (xs:List D)|tup (xs:List D)|dct (kvs:List (Key×D))|obj (x:Str) (fs:List (Str×D))
 /-- an exception that was caught,by its class's name;a class of the text -/
 | exn (x:Str)|cls (x:Str)
 /-- a list of which it is oh that it was laid anew (it may be changed) -/
 | lsm (xs:List D)
 /-- a dict that is not changed any more -/
 | dcf (kvs:List (Key×D))
abbrev ad8:=List D
def Wk (a C:YS):HO:=.ext fun h=>∃ o vs,h.get? a=θ o/\o.cls=.ref C/\o.dict=ξ/\o.data=.fields vs
section
variable (K:aT) (H:Hp)
mutual
def cr:D->V->Prop
 | .non,v=>v=.non
 | .bl b,v=>v=.bl b
 | .int i,v=>v=.int i
 | .str x,v=>v=.str x
 | .ty n,v=>v=.ty n
 | .lst ds,v=>∃ a xs,v=.ref a/\eV K H a xs/\aH ds xs
 | .tup ds,v=>∃ a xs,v=.ref a/\gU K H a xs/\aH ds xs
 | .dct ds,v=>∃ a xs,v=.ref a/\H a=θ (.dK xs)/\bH ds xs
 | .obj x fs,v=>∃ a C g xs,v=.ref a/\Y1 K YQ x=θ (θ (.ref C))/\H a=θ (.ins C g xs)/\lP fs xs
 | .exn x,v=>∃ a C,v=.ref a/\Y1 K YQ x=θ (θ (.ref C))/\H a=θ (Wk a C)
 | .cls x,v=>∃ C,v=.ref C/\Y1 K YQ x=θ (θ (.ref C))
 | .lsm ds,v=>∃ a xs,v=.ref a/\H a=θ (.lst xs)/\aH ds xs
 | .dcf ds,v=>∃ a o xs,v=.ref a/\H a=θ (.frz o (.dK xs))/\bH ds xs
def aH:ad8->ad7->Prop
 | [],xs=>xs=[]
 | d::ds,xs=>∃ v vs,xs=v::vs/\cr d v/\aH ds vs
def bH:List (Key×D)->List (Key×V)->Prop
 | [],xs=>xs=[]
 | (k,d)::ds,xs=>∃ v vs,xs=(k,v)::vs/\cr d v/\bH ds vs
def lP:List (Str×D)->List (Str×V)->Prop
 | [],xs=>xs=[]
 | (k,d)::ds,xs=>∃ v vs,xs=(k,v)::vs/\cr d v/\lP ds vs
end
end
theorem aw.rd (s:aw H H') (h:Rd H a u):Rd H' a u:=by
 rcases h with h|⟨o,h⟩
 .exact .inl (s _ _ h)
 .exact .inr ⟨o,s _ _ h⟩
section
variable {K:aT} {H H':Hp}
mutual
theorem cr.mono (s:aw H H'):∀ {d:D} {v:V},cr K H d v->cr K H' d v
 | .non,_,h=>h
 | .bl _,_,h=>h
 | .int _,_,h=>h
 | .str _,_,h=>h
 | .ty _,_,h=>h
 | .lst ds,_,⟨a,xs,e,h1,h2⟩=>⟨a,xs,e,s.seq h1,aH.mono s h2⟩
 | .tup ds,_,⟨a,xs,e,h1,h2⟩=>⟨a,xs,e,s.seqT h1,aH.mono s h2⟩
 | .dct ds,_,⟨a,xs,e,h1,h2⟩=>⟨a,xs,e,s _ _ h1,bH.mono s h2⟩
 | .obj x ds,_,⟨a,C,dx,xs,e,h0,h1,h2⟩=>⟨a,C,dx,xs,e,h0,s _ _ h1,lP.mono s h2⟩
 | .exn _,_,⟨a,C,e,h1,h2⟩=>⟨a,C,e,h1,s _ _ h2⟩
 | .cls _,_,h=>h
 | .lsm ds,_,⟨a,xs,e,h1,h2⟩=>⟨a,xs,e,s _ _ h1,aH.mono s h2⟩
 | .dcf ds,_,⟨a,o,xs,e,h1,h2⟩=>⟨a,o,xs,e,s _ _ h1,bH.mono s h2⟩
theorem aH.mono (s:aw H H'):∀ {d:ad8} {v:ad7},aH K H d v->aH K H' d v
 | [],_,h=>h
 | d::ds,_,⟨v,vs,e,h1,h2⟩=>⟨v,vs,e,cr.mono s h1,aH.mono s h2⟩
theorem bH.mono (s:aw H H'):∀ {d:List (Key×D)} {v:List (Key×V)},bH K H d v->bH K H' d v
 | [],_,h=>h
 | (k,d)::ds,_,⟨v,vs,e,h1,h2⟩=>⟨v,vs,e,cr.mono s h1,bH.mono s h2⟩
theorem lP.mono (s:aw H H'):∀ {d:List (Str×D)} {v:List (Str×V)},lP K H d v->lP K H' d v
 | [],_,h=>h
 | (k,d)::ds,_,⟨v,vs,e,h1,h2⟩=>⟨v,vs,e,cr.mono s h1,lP.mono s h2⟩
end
theorem aH.len:∀ {ds:ad8} {xs:ad7},aH K H ds xs->ds.length=xs.length
 | [],_,h=>by cases h;rfl
 | d::ds,_,⟨v,vs,e,h1,h2⟩=>by subst e;simp [aH.len h2]
theorem aH.get:∀ {ds:ad8} {xs:ad7} {i:Nat} {d:D},aH K H ds xs->ds[i]?=θ d->∃ v,xs[i]?=θ v/\cr K H d v
 | [],_,_,_,_,e=>by simp at e
 | d::ds,_,0,_,⟨v,vs,e,h1,h2⟩,q=>by
  grind
 | d::ds,_,i+1,_,⟨v,vs,e,h1,h2⟩,q=>by
  obtain ⟨u,r,g⟩:=aH.get h2 (by simpa using q);simp_all
theorem aH.got:∀ {ds:ad8} {xs:ad7} {i:Nat} {v:V},aH K H ds xs->xs[i]?=θ v->∃ d,ds[i]?=θ d/\cr K H d v
 | [],_,_,_,h,e=>by cases h;simp at e
 | d::ds,_,0,_,⟨v,vs,e,h1,h2⟩,q=>by
  simp_all
 | d::ds,_,i+1,_,⟨v,vs,e,h1,h2⟩,q=>by
  subst e;obtain ⟨u,r,g⟩:=aH.got h2 (by simpa using q);simp_all
def aH.nil:aH K H [] []:=rfl
theorem aH.cons (h:cr K H d v) (t:aH K H ds xs):aH K H (d::ds) (v::xs):=⟨v,xs,rfl,h,t⟩
theorem aH.append:∀ {ds es:ad8} {xs ys:ad7},aH K H ds xs->aH K H es ys->aH K H (ds++es) (xs++ys)
 | [],_,_,_,h,t=>by cases h;exact t
 | d::ds,_,_,_,⟨v,vs,e,h1,h2⟩,t=>by subst e;exact ⟨v,_,rfl,h1,aH.append h2 t⟩
theorem aH.take:∀ {ds:ad8} {xs:ad7} (n:Nat),aH K H ds xs->aH K H (ds.take n) (xs.take n)
 | _,_,0,_=>by rfl
 | [],_,n+1,h=>by cases h;exact rfl
 | d::ds,_,n+1,⟨v,vs,e,h1,h2⟩=>by subst e;exact ⟨v,_,rfl,h1,aH.take n h2⟩
theorem aH.drop:∀ {ds:ad8} {xs:ad7} (n:Nat),aH K H ds xs->aH K H (ds.drop n) (xs.drop n)
 | _,_,0,h=>h
 | [],_,n+1,h=>by cases h;exact rfl
 | d::ds,_,n+1,⟨v,vs,e,h1,h2⟩=>by subst e;exact aH.drop n h2
end
def mask (as:ad5) (H:Hp):Hp:=fun b=>if b∈as then ξ else H b
theorem bT (h:b∈as):mask as H b=ξ:=adU h
theorem aD (h:b∉as):mask as H b=H b:=adV h
def rq:mask [] H=H:=by funext b;exact adV (by simp)
def ar (as:ad5) (H:Hp):aw (mask as H) H:=fun b o e=>by
 unfold mask at e;simp_all
theorem aG (s:aw H H'):aw (mask as H) (mask as H'):=fun b o e=>by
 unfold mask at e ⊢;split at e
 .cases e
 .rename_i h;rw [adV h];exact s b o e
theorem iG (as bs:ad5) (H:Hp):mask (as++bs) H=mask bs (mask as H):=by
 funext b
 unfold mask
 grind
theorem jZ (h:∀ a∈bs,a∈as):aw (mask as H) (mask bs H):=fun b o e=>by
 by_cases hb:b∈as
 .rw [bT hb] at e;cases e
 .rw [aD hb] at e;rw [aD fun z=>hb (h b z)];exact e
theorem C8 (s:aw B H) (h:∀ a∈as,B a=ξ):aw B (mask as H):=fun b o e=>by
 have hb:b∉as:=fun z=>by grind
 rw [aD hb];exact s b o e
inductive R (α:Type) where
 | ok (a:α)
 | er (x:Str)
 | no
noncomputable def R.bind {α β:Type} (r:R α) (f:α->R β):R β:=match r with
 | .ok a=>f a
 | .er x=>.er x
 | .no=>.no
theorem az {a:α} {f:α->R β}:(R.ok a).bind f=f a:=rfl
theorem bind_assoc (r:R α) (f:α->R β) (g:β->R γ):(r.bind f).bind g=r.bind fun a=>(f a).bind g:=by cases r <;> rfl
structure Wd where
 K:aT
 mg:Str->Option rW
 E:XK
abbrev Sd:=List (Option D)
def cD (W:Wd) (as:ad5) (H:Hp) (r:R D) (Q:VK):Prop:=match r with
 | .ok d=>∀ v H',aw H H'->cr W.K (mask as H') d v->Q v H'
 | .er x=>∀ e C H',aw H H'->W.mg x=θ (.ref C)->W.E e (θ C) H'
 | .no=>False
def ip (W:Wd) (as:ad5) (H:Hp) (r:R (ad8)) (Q:ad7->Hp->Prop):Prop:=match r with
 | .ok d=>∀ v H',aw H H'->aH W.K (mask as H') d v->Q v H'
 | .er x=>∀ e C H',aw H H'->W.mg x=θ (.ref C)->W.E e (θ C) H'
 | .no=>False
def fZ {α:Type} (W:Wd) (H:Hp) (r:R α) (Q:α->Hp->Prop):Prop:=match r with
 | .ok b=>∀ H',aw H H'->Q b H'
 | .er x=>∀ e C H',aw H H'->W.mg x=θ (.ref C)->W.E e (θ C) H'
 | .no=>False
def ja (K:aT) (H:Hp) (o:HO):D->Prop
 | .lst ds=>∃ xs,o=.lst xs/\aH K H ds xs
 | .dct ds=>∃ xs,o=.dK xs/\bH K H ds xs
 | .obj x ds=>∃ C g xs,o=.ins C g xs/\Y1 K YQ x=θ (θ (.ref C))/\lP K H ds xs
 | _=>False
def ij (W:Wd) (as:ad5) (H:Hp) (r:R D) (Q:VK):Prop:=match r with
 | .ok d=>∀ p o H',aw H H'->H p=ξ->H' p=θ o->ja W.K (mask (p::as) H') o d->Q (.ref p) H'
 | .er x=>∀ e C H',aw H H'->W.mg x=θ (.ref C)->W.E e (θ C) H'
 | .no=>False
theorem cD.mono (h:cD W as H r Q) (s:aw H H'):cD W as H' r Q:=by
 cases r with
 | ok d=>exact fun v u g=>h v u (s.trans g)
 | er x=>exact fun e C u g=>h e C u (s.trans g)
 | no=>exact h
theorem ij.mono (h:ij W as H r Q) (s:aw H H'):ij W as H' r Q:=by
 cases r with
 | ok d=>exact fun p o u g v=>h p o u (s.trans g) (s.free v)
 | er x=>exact fun e C u g=>h e C u (s.trans g)
 | no=>exact h
theorem ip.mono (h:ip W as H r Q) (s:aw H H'):ip W as H' r Q:=by
 cases r with
 | ok d=>exact fun v u g=>h v u (s.trans g)
 | er x=>exact fun e C u g=>h e C u (s.trans g)
 | no=>exact h
theorem fZ.mono {r:R α} {Q:α->Hp->Prop} (h:fZ W H r Q) (s:aw H H'):fZ W H' r Q:=by
 cases r with
 | ok d=>exact fun u g=>h u (s.trans g)
 | er x=>exact fun e C u g=>h e C u (s.trans g)
 | no=>exact h
theorem ja.den {K:aT} (v:p∉as) (e:H p=θ o) (h:ja K (mask (p::as) H) o d):cr K (mask as H) d (.ref p):=by
 have s:aw (mask (p::as) H) (mask as H):=jZ fun a r=>lT _ r;have g:mask as H p=θ o:=by rw [aD v];exact e
 cases d with
 | lst ds=>obtain ⟨xs,rfl,h⟩:=h;exact ⟨p,xs,rfl,.inl (.inl g),h.mono s⟩
 | dct ds=>obtain ⟨xs,rfl,h⟩:=h;exact ⟨p,xs,rfl,g,h.mono s⟩
 | obj x ds=>obtain ⟨C,z,xs,rfl,u,h⟩:=h;exact ⟨p,C,z,xs,rfl,u,g,h.mono s⟩
 | _=>exact h.elim
structure DI (K:aT) (as0:ad5) (B:Hp) (O:ad0) (own:ad5) (σ:St) (U:Sd) (H:Hp):Prop where
 len:U.length=σ.length
 olen:own.length=O.length
 nd:own.Nodup
 ond:O.Nodup
 fresh:∀ a∈own,B a=ξ
 ex0:∀ a∈as0,B a≠ξ
 same:aw B H
 var:∀ i d,i∉O->U[i]?=θ (θ d)->∃ v,σ[i]?=θ (θ v)/\cr K (mask (own++as0) H) d v
 owns:∀ i a,(i,a)∈O.zip own->∃ d o,U[i]?=θ (θ d)/\σ[i]?=θ (θ (.ref a))/\H a=θ o/\ja K (mask (own++as0) H) o d
section
variable {K:aT}
theorem ja.mono (s:aw H H') (h:ja K H o d):ja K H' o d:=by
 cases d with
 | lst ds=>obtain ⟨xs,rfl,h⟩:=h;exact ⟨xs,rfl,h.mono s⟩
 | dct ds=>obtain ⟨xs,rfl,h⟩:=h;exact ⟨xs,rfl,h.mono s⟩
 | obj x ds=>obtain ⟨C,r,xs,rfl,g,h⟩:=h;exact ⟨C,r,xs,rfl,g,h.mono s⟩
 | _=>exact h.elim
theorem t8:∀ {O:ad0} {own:ad5} {a:YS},own.length=O.length->a∈own->∃ i,(i,a)∈O.zip own
 | [],[],_,_,h=>by cases h
 | i::O,b::own,a,l,h=>by
  rcases mK.mp h with rfl|h
  .simp_all
  .obtain ⟨j,g⟩:=t8 (by simpa using l) h;exact ⟨j,lT _ g⟩
 | [],_::_,_,l,_=>by simp at l
 | _::_,[],_,_,h=>by cases h
theorem DI.exi (I:DI K as0 B O own σ U H):∀ a∈own++as0,H a≠ξ:=fun a g=>by
 rcases xb.mp g with h|h
 .let ⟨i,hi⟩:=t8 I.olen h
  obtain ⟨d,o,_,_,e,_⟩:=I.owns i a hi;rw [e];simp
 .cases e:B a with
  | none=>exact absurd e (I.ex0 a h)
  | some o=>rw [I.same a o e];simp
theorem DI.new (I:DI K as0 B O own σ U H) (h:H p=ξ):p∉own++as0:=fun z=>I.exi p z h
theorem DI.mono (I:DI K as0 B O own σ U H) (s:aw H H'):DI K as0 B O own σ U H' :=
 ⟨I.len,I.olen,I.nd,I.ond,I.fresh,I.ex0,I.same.trans s,fun i d g e=>let ⟨v,h1,h2⟩:=I.var i d g e;⟨v,h1,h2.mono (aG s)⟩,
  fun i a g=>let ⟨d,o,h1,h2,h3,h4⟩:=I.owns i a g;⟨d,o,h1,h2,s a o h3,h4.mono (aG s)⟩⟩
theorem DI.base (I:DI K as0 B' O own σ U H) (s:aw B B') (h:∀ a∈as0,B a≠ξ):DI K as0 B O own σ U H :=
 ⟨I.len,I.olen,I.nd,I.ond,fun a g=>s.free (I.fresh a g),h,s.trans I.same,I.var,I.owns⟩
theorem DI.rebase (I:DI K as0 B O own σ U H) (r:∀ a∈own,a∉as0):DI K as0 (mask own H) O own σ U H :=
 ⟨I.len,I.olen,I.nd,I.ond,fun a g=>bT g,fun a g=>(by
  rw [aD fun z=>r a z g];cases e:B a with
  | none=>exact absurd e (I.ex0 a g)
  | some o=>rw [I.same a o e];simp),ar _ _,I.var,I.owns⟩
theorem DI.apart (I:DI K as0 B O own σ U H):∀ a∈own,a∉as0:=fun a g z=>I.ex0 a z (I.fresh a g)
theorem DI.baseIn (I:DI K as0 B O own σ U H):aw B (mask own H):=C8 I.same I.fresh
end
abbrev FE:=Sd->R D
abbrev FT:=Sd->R Bool
abbrev FA:=Sd->R (ad8)
def tD (W:Wd) (O:ad0) (φ:FE):TE:=fun σ H Q=>∃ as0 B own U,DI W.K as0 B O own σ U H/\cD W (own++as0) H (φ U) Q
def tN (W:Wd) (O:ad0) (φ:FE):TE:=fun σ H Q=>∃ as0 B own U,DI W.K as0 B O own σ U H/\ij W (own++as0) H (φ U) Q
def i9 (W:Wd) (O:ad0) (φ:FT):TT:=fun σ H Q=>∃ as0 B own U,DI W.K as0 B O own σ U H/\fZ W H (φ U) Q
def rY (W:Wd) (O:ad0) (φ:FA):TA:=fun σ H Q=>∃ as0 B own U,DI W.K as0 B O own σ U H/\ip W (own++as0) H (φ U) Q
def Vi (W:Wd) (O:ad0) (φ:Sd->R (Option Int)):TO:=fun σ H Q=>∃ as0 B own U,DI W.K as0 B O own σ U H/\fZ W H (φ U) Q
section
theorem a7 (h:cD W as H (r.bind f) Q) (q:∀ d v H',aw H H'->cr W.K (mask as H') d v->cD W as H' (f d) Q->Q' v H'):cD W as H r Q':=by
 cases r with
 | ok d=>exact fun v H' s g=>q d v H' s g (cD.mono h s)
 | er x=>exact h
 | no=>exact h
theorem dF (h:cD W as H (r.bind f) Q) (q:∀ d v H',aw H H'->aH W.K (mask as H') d v->cD W as H' (f d) Q->Q' v H'):ip W as H r Q':=by
 cases r with
 | ok d=>exact fun v H' s g=>q d v H' s g (cD.mono h s)
 | er x=>exact h
 | no=>exact h
theorem dW (h:ij W as H (r.bind f) Q) (q:∀ d v H',aw H H'->aH W.K (mask as H') d v->ij W as H' (f d) Q->Q' v H'):ip W as H r Q':=by
 cases r with
 | ok d=>exact fun v H' s g=>q d v H' s g (ij.mono h s)
 | er x=>exact h
 | no=>exact h
theorem lV {r:R α} {f:α->R D} {Q':α->Hp->Prop} (h:cD W as H (r.bind f) Q) (q:∀ d H',aw H H'->cD W as H' (f d) Q->Q' d H'):fZ W H r Q':=by
 cases r with
 | ok d=>exact fun H' s=>q d H' s (cD.mono h s)
 | er x=>exact h
 | no=>exact h
theorem fF {f:D->R α} {Q:α->Hp->Prop} (h:fZ W H (r.bind f) Q) (q:∀ d v H',aw H H'->cr W.K (mask as H') d v->fZ W H' (f d) Q->Q' v H'):cD W as H r Q':=by
 cases r with
 | ok d=>exact fun v H' s g=>q d v H' s g (fZ.mono h s)
 | er x=>exact h
 | no=>exact h
theorem jY {r:R α} {f:α->R β} {Q:β->Hp->Prop} {Q':α->Hp->Prop} (h:fZ W H (r.bind f) Q) (q:∀ d H',aw H H'->fZ W H' (f d) Q->Q' d H'):fZ W H r Q':=by
 cases r with
 | ok d=>exact fun H' s=>q d H' s (fZ.mono h s)
 | er x=>exact h
 | no=>exact h
theorem yn {Q:ad7->Hp->Prop} (h:ip W as H (r.bind f) Q) (q:∀ d v H',aw H H'->cr W.K (mask as H') d v->ip W as H' (f d) Q->Q' v H'):cD W as H r Q':=by
 cases r with
 | ok d=>exact fun v H' s g=>q d v H' s g (ip.mono h s)
 | er x=>exact h
 | no=>exact h
theorem xz {Q Q':ad7->Hp->Prop} (h:ip W as H (r.bind f) Q) (q:∀ d v H',aw H H'->aH W.K (mask as H') d v->ip W as H' (f d) Q->Q' v H'):ip W as H r Q':=by
 cases r with
 | ok d=>exact fun v H' s g=>q d v H' s g (ip.mono h s)
 | er x=>exact h
 | no=>exact h
end
section
variable {X:Cx} {W:Wd} {O:ad0} {a b c e:Zq} {φ ψ χ:FE} {pos:Pos} {rest es:List Zq} {α:FA}
noncomputable def ae (i:Nat):FE:=fun U=>match U[i]? with
 | some (θ d)=>.ok d
 | _=>.no
noncomputable def vC (d:D):FE:=fun _=>.ok d
theorem jB (i:Nat) (C:i∉O:=by decide) (r:X.N[i]?=θ x:=by rfl) (hv:sd X.env.scope x:=by walk_at"v") (z:ad9 x:=by decide)
  (g:(x==("__classdict__":Str))=η:=by decide):JE X (.Name x pos) (tD W O (ae i)):=(jv i r hv z g).imp fun σ H Q u=>cJ u fun as0 B own U I h=>by
 unfold ae at h;split at h
 .rename_i d e;let ⟨v,h1,h2⟩:=I.var i d C e
  show oZ σ[i]? H Q;rw [h1];exact h v H (aw.refl H) h2
 .exact h.elim
theorem jW:JE X (.Constant (.int i) j pos) (tD W O (vC (.int i))):=Ue.imp fun σ H Q g=>cJ g fun as0 B own U I h=>h _ H (aw.refl H) rfl
theorem VF {b j}:JE X (.Constant (.bool b) j pos) (tD W O (vC (.bl b))):=VL.imp fun σ H Q g=>cJ g fun as0 B own U I h=>h _ H (aw.refl H) rfl
theorem RV:JE X (.Constant .none j pos) (tD W O (vC .non)):=SE.imp fun σ H Q g=>cJ g fun as0 B own U I h=>h _ H (aw.refl H) rfl
theorem wN:JE X (.Constant (.str x) j pos) (tD W O (vC (.str x))):=Tk.imp fun σ H Q g=>cJ g fun as0 B own U I h=>h _ H (aw.refl H) rfl
theorem Nh (hm:X.mg x=θ u) (r:aQ v u) (C:∀ H,cr W.K H d v) (hg:Gl X x:=by rfl) (g:ad9 x:=by decide):JE X (.Name x pos) (tD W O (vC d)) :=
 (Gz hm r hg g).imp fun σ H Q z=>cJ z fun as0 B own U I h=>h _ H (aw.refl H) (C _)
theorem Vw (hm:X.mg x=ξ) (hv:YT x=θ (.type n)) (hg:Gl X x:=by rfl) (hn:x≠"__name__":=by decide) (r:ad9 x:=by decide):JE X (.Name x pos) (tD W O (vC (.ty n))) :=
 (WF hm hv hg hn r).imp fun σ H Q g=>cJ g fun as0 B own U I h=>h _ H (aw.refl H) rfl
def n6 (W:Wd) (r:R2) (op:D->D->R D):Prop:=∀ (as:ad5) (H:Hp) (x y:V) (a b:D) (Q:VK),(∀ p,H p=ξ->p∉as)->cr W.K (mask as H) a x->cr W.K (mask as H) b y->cD W as H (op a b) Q->r x y H Q
def ao (op:D->D->R D) (φ ψ:FE):FE:=fun U=>(φ U).bind fun x=>(ψ U).bind fun y=>op x y
theorem HF (ht:∀ {ta tb:TE},JE X a ta->JE X b tb->JE X e (t ta tb)) (et:t=Ip r) (J:n6 W r op) (M:JE X a (tD W O φ)) (hb:JE X b (tD W O ψ)):JE X e (tD W O (ao op φ ψ)):=by
 subst et;refine (ht M hb).imp fun σ H Q Y=>cJ Y fun as0 B own U I h=>⟨as0,B,own,U,I,a7 h fun x v H1 z L h1=>⟨as0,B,own,U,I.mono z,a7 h1 fun y u Z g C h2=>?_⟩⟩;exact J (own++as0) Z v u x y Q (fun p hp=>((I.mono z).mono g).new hp) (L.mono (aG g)) C h2
theorem qR (hr:CA X r) (v:n6 W r g) (u:JE X a (tD W O φ)) (hb:JE X b (tD W O ψ)) (hs:pM b:=by exact fun _ _=>rfl):JE X (.Subscript a b pos) (tD W O (ao g φ ψ)) :=
 HF (fun h1 h2=>Q7 hr h1 h2 hs) rfl v u hb
def Yc (W:Wd) (r:V->Hp->VK->Prop) (op:D->R D):Prop:=∀ (as:ad5) (H:Hp) (x:V) (a:D) (Q:VK),cr W.K (mask as H) a x->cD W as H (op a) Q->r x H Q
def LQ (op:D->R D) (φ:FE):FE:=fun U=>(φ U).bind op
theorem V8 (u:Iy X (unaryOp op) r) (L:Yc W r g) (C:JE X a (tD W O φ)):JE X (.UnaryOp op a pos) (tD W O (LQ g φ)) :=
 (W3 u C).imp fun σ H Q J=>cJ J fun as0 B own U I h=>⟨as0,B,own,U,I,a7 h fun x v H1 M z h1=>L (own++as0) H1 v x Q z h1⟩
noncomputable def Il {α:Type} (d:D) (f:Bool->R α):R α:=match d with
 | .bl b=>f b
 | _=>.no
def wg (φ:FE):FE:=fun U=>(φ U).bind fun x=>Il x fun b=>.ok (.bl (!b))
def fh (φ ψ:FE):FE:=fun U=>(φ U).bind fun x=>Il x fun b=>if b=ζ then ψ U else .ok (.bl η)
def Im (φ ψ:FE):FE:=fun U=>(φ U).bind fun x=>Il x fun b=>if b=ζ then .ok (.bl ζ) else ψ U
theorem Sv (r:JE X a (tD W O φ)):JE X (.UnaryOp .Not a pos) (tD W O (wg φ)) :=
 (T3 r).imp fun σ H Q g=>cJ g fun as0 B own U I h=>⟨as0,B,own,U,I,a7 h fun x v H1 z u h1=>by
  cases x with
  | bl b=>cases u;exact h1 _ H1 (aw.refl _) rfl
  | _=>exact h1.elim⟩
theorem TV (h:JE X a (tD W O φ)):JE X (.BoolOp op [a] pos) (tD W O φ):=Qi h
theorem T9 (r:JE X a (tD W O φ)) (hb:JE X (.BoolOp .And (b::rest) pos) (tD W O ψ)):JE X (.BoolOp .And (a::b::rest) pos) (tD W O (fh φ ψ)) :=
 (Tm r hb).imp fun σ H Q u=>cJ u fun as0 B own U I h=>⟨as0,B,own,U,I,a7 h fun x v H1 z g h1=>by
  cases x with
  | bl b =>
   cases g;cases b with
   | true=>exact ⟨as0,B,own,U,I.mono z,h1⟩
   | false=>exact h1 _ H1 (aw.refl _) rfl
  | _=>exact h1.elim⟩
theorem VY (r:JE X a (tD W O φ)) (hb:JE X (.BoolOp .Or (b::rest) pos) (tD W O ψ)):JE X (.BoolOp .Or (a::b::rest) pos) (tD W O (Im φ ψ)) :=
 (WD r hb).imp fun σ H Q u=>cJ u fun as0 B own U I h=>⟨as0,B,own,U,I,a7 h fun x v H1 z g h1=>by
  cases x with
  | bl b =>
   cases g;cases b with
   | false=>exact ⟨as0,B,own,U,I.mono z,h1⟩
   | true=>exact h1 _ H1 (aw.refl _) rfl
  | _=>exact h1.elim⟩
variable {τ υ:FT}
def aX (φ:FE):FT:=fun U=>(φ U).bind fun x=>Il x .ok
theorem qw (Z:dh X (YX op) r) (hd:n6 W r g) (ha:JE X a (tD W O φ)) (hb:JE X b (tD W O ψ)) (hm:aaI op b=η):JT X (.Compare a [op] [b] pos) (i9 W O (aX (ao g φ ψ))):=by
 refine (E9 Z ha hb hm).imp fun σ H Q hh=>cJ hh fun as0 B own U I h=>?_;have h'  := by
  have e:aX (ao g φ ψ) U=(φ U).bind fun x=>((ψ U).bind fun y=>g x y).bind fun x=>Il x .ok:=by
   unfold aX ao;rw [bind_assoc]
  rw [e] at h;exact h
 refine ⟨as0,B,own,U,I,fF h' fun x v H1 M d1 h1=>?_⟩;have C:fZ W H1 ((ψ U).bind fun y=>(g x y).bind fun x=>Il x .ok) Q:=by rw [<- bind_assoc];exact h1
 refine ⟨as0,B,own,U,I.mono M,fF C fun y u H2 J Y h2=>?_⟩;refine hd (own++as0) H2 v u x y _ (fun p hp=>((I.mono M).mono J).new hp) (d1.mono (aG J)) Y (fF h2 fun z w H3 s3 d3 L=>?_);cases z with
 | bl k=>cases d3;exact L H3 (aw.refl _)
 | _=>exact L.elim
noncomputable def NI:D->R Bool
 | .non=>.ok η
 | .bl b=>.ok b
 | .int i=>.ok (i != 0)
 | .str y=>if y.length<=1000000 then .ok (y.length != 0) else .no
 | .lst xs=>.ok (!xs.isEmpty)
 | .tup xs=>.ok (!xs.isEmpty)
 | .dct kvs=>.ok (!kvs.isEmpty)
 | _=>.no
theorem aH.empty {K:aT} (h:aH K H ds xs):xs.isEmpty=ds.isEmpty:=by
 cases ds with
 | nil=>cases h;rfl
 | cons d r=>obtain ⟨v,vs,rfl,_⟩:=h;rfl
theorem bH.empty {K:aT} (h:bH K H ds xs):xs.isEmpty=ds.isEmpty:=by
 cases ds with
 | nil=>cases h;rfl
 | cons d r=>obtain ⟨v,vs,rfl,_⟩:=h;rfl
def cj:(1000000:Nat)<=RW:=by rw [Zd];decide
def dC (φ:FE):FT:=fun U=>(φ U).bind NI
theorem DU (K:aT) (z:JE X a (tD W O φ)) (u:∀ g,isTrue a X.env g=(do let v <- g;acy a.pos;holding [v] (truthy v)):=by exact fun _=>rfl) (J:X.K=K:=by rfl) (hW:W.K=K:=by rfl):JT X a (i9 W O (dC φ)) :=
 (GW K z u J).imp fun σ H Q C=>cJ C fun as0 B own U I h=>⟨as0,B,own,U,I,fF h fun x v H1 L r h1=>by
  subst hW;cases x with
  | non=>cases r;exact h1 H1 (aw.refl _)
  | bl b=>cases r;exact h1 H1 (aw.refl _)
  | int i=>cases r;exact h1 H1 (aw.refl _)
  | str y =>
   cases r;have h2:fZ W H1 (if y.length<=1000000 then R.ok (y.length != 0) else R.no) Q:=h1;split at h2
   .rename_i hl;refine ⟨Le hl cj,?_⟩;have e:((y.length:Int) != 0)=(y.length != 0):=by
     grind
    rw [e];exact h2 H1 (aw.refl _)
   .exact h2.elim
  | lst ds =>
   obtain ⟨p,xs,rfl,q1,q2⟩:=r;refine .inl (.inl ⟨xs,(ar _ _).seq q1,?_⟩);rw [q2.empty];exact h1 H1 (aw.refl _)
  | tup ds =>
   obtain ⟨p,xs,rfl,q1,q2⟩:=r;refine .inl (.inr ⟨xs,(ar _ _).seqT q1,?_⟩);rw [q2.empty];exact h1 H1 (aw.refl _)
  | dct ds =>
   obtain ⟨p,xs,rfl,q1,q2⟩:=r;refine .inr ⟨xs,ar _ _ _ _ q1,?_⟩;rw [q2.empty];exact h1 H1 (aw.refl _)
  | _=>exact h1.elim⟩
def jJ (τ υ:FT):FT:=fun U=>(τ U).bind fun b=>if b=ζ then υ U else .ok η
def se (τ υ:FT):FT:=fun U=>(τ U).bind fun b=>if b=ζ then .ok ζ else υ U
def fW (τ:FT):FT:=fun U=>(τ U).bind fun b=>.ok (!b)
theorem AE (h:JW X a (i9 W O τ)):JT X a (i9 W O τ):=(⟨h.out.pt⟩)
theorem On (r:JT X a (i9 W O τ)) (hb:JW X (.BoolOp .And (b::rest) pos) (i9 W O υ)):JW X (.BoolOp .And (a::b::rest) pos) (i9 W O (jJ τ υ)) :=
 (Nk r hb).imp fun σ H Q g=>cJ g fun as0 B own U I h=>⟨as0,B,own,U,I,jY h fun c H1 u h1=>by
  cases c with
  | true=>exact ⟨as0,B,own,U,I.mono u,h1⟩
  | false=>exact h1 H1 (aw.refl _)⟩
theorem QU (r:JT X a (i9 W O τ)) (hb:JW X (.BoolOp .Or (b::rest) pos) (i9 W O υ)):JW X (.BoolOp .Or (a::b::rest) pos) (i9 W O (se τ υ)) :=
 (Qh r hb).imp fun σ H Q g=>cJ g fun as0 B own U I h=>⟨as0,B,own,U,I,jY h fun c H1 u h1=>by
  cases c with
  | false=>exact ⟨as0,B,own,U,I.mono u,h1⟩
  | true=>exact h1 H1 (aw.refl _)⟩
theorem Nv (r:JT X a (i9 W O τ)):JT X (.UnaryOp .Not a pos) (i9 W O (fW τ)) :=
 (Of r).imp fun σ H Q g=>cJ g fun as0 B own U I h=>⟨as0,B,own,U,I,jY h fun c H1 u h1=>h1 H1 (aw.refl _)⟩
def Ir (τ:FT) (φ ψ:FE):FE:=fun U=>(τ U).bind fun b=>if b=ζ then φ U else ψ U
theorem S4 (v:JT X c (i9 W O τ)) (u:JE X a (tD W O φ)) (hb:JE X b (tD W O ψ)):JE X (.IfExp c a b pos) (tD W O (Ir τ φ ψ)) :=
 (Ro v u hb).imp fun σ H Q r=>cJ r fun as0 B own U I h=>⟨as0,B,own,U,I,lV h fun c H1 g h1=>by
  cases c with
  | true=>exact ⟨as0,B,own,U,I.mono g,h1⟩
  | false=>exact ⟨as0,B,own,U,I.mono g,h1⟩⟩
noncomputable def aj:FA:=fun _=>.ok []
def aa (φ:FE) (α:FA):FA:=fun U=>(φ U).bind fun d=>(α U).bind fun ds=>.ok (d::ds)
theorem zz:JA X [] (rY W O aj):=qr.imp fun σ H Q g=>cJ g fun as0 B own U I h=>h [] H (aw.refl _) rfl
theorem vE (z:JE X e (tD W O φ)) (hr:JA X es (rY W O α)) (hn:aM e=ζ:=by rfl):JA X (e::es) (rY W O (aa φ α)) :=
 (m5 z hr hn).imp fun σ H Q C=>cJ C fun as0 B own U I h=>⟨as0,B,own,U,I,yn h fun d v H1 L u h1=>⟨as0,B,own,U,I.mono L,xz h1 fun ds vs J r g h2 =>
  h2 (v::vs) J (aw.refl _) ⟨v,vs,rfl,u.mono (aG r),g⟩⟩⟩
def v6 (ds:ad8):R D:=if ds.length<=1000000 then .ok (.lst ds) else .no
def AD (ds:ad8):R D:=if ds.length<=1000000 then .ok (.tup ds) else .no
def bP (α:FA):FE:=fun U=>(α U).bind v6
def bt (α:FA):FE:=fun U=>(α U).bind AD
theorem Cb (h:ij W as H (v6 ds) Q) (r:aH W.K (mask as H) ds xs):xs.length<=RW/\∀ p,H p=ξ->Q (.ref p) (upd H p (.lst xs)):=by
 unfold v6 at h;split at h
 .rename_i hl;refine ⟨by rw [<- r.len];exact Le hl cj,fun p g=>?_⟩;refine h p (.lst xs) (upd H p (.lst xs)) (aI g _) g aE ⟨xs,rfl,r.mono ?_⟩;intro b o e;have hb:b≠p:=fun z=>by
   subst z
   have:=ar _ _ _ _ e
   rw [g] at this;cases this
  by_cases hm:b∈as
  .rw [bT hm] at e;cases e
  .rw [aD hm] at e;rw [aD (by simp [hb,hm]),aA hb];exact e
 .exact h.elim
theorem Ty (h:JA X es (rY W O α)):JE X (.List es pos) (tN W O (bP α)) :=
 (RU h).imp fun σ H Q g=>cJ g fun as0 B own U I h=>⟨as0,B,own,U,I,dW h fun ds xs H1 u r h1=>Cb h1 r⟩
theorem xp (h:JE X e (tN W O φ)):JE X e (tD W O φ):=h.imp fun σ H Q g=>cJ g fun as0 B own U I q=>by
 refine ⟨as0,B,own,U,I,?_⟩;cases hr:φ U with
 | ok d =>
  rw [hr] at q;exact fun p o H' s r e od=>q (.ref p) H' s (od.den (I.new r) e)
 | er x=>rw [hr] at q;exact q
 | no=>rw [hr] at q;exact q
theorem Sk (h:JA X es (rY W O α)):JE X (.Tuple es x1 pos) (tD W O (bt α)) :=
 (Rc h).imp fun σ H Q u=>cJ u fun as0 B own U I h=>⟨as0,B,own,U,I,dF h fun ds xs H1 v r h1=>by
  unfold AD at h1;split at h1
  .rename_i hl;refine ⟨by rw [<- r.len];exact Le hl cj,fun p g=>?_⟩;have hn:=(I.mono v).new g;refine h1 (.ref p) (upd H1 p (.tup xs)) (aI g _) ⟨p,xs,rfl,.inl (.inl ?_),r.mono (aG (aI g _))⟩;rw [aD hn];exact aE
  .exact h1.elim⟩
def oV (W:Wd) (r:ad7->Hp->VK->Prop) (g:ad8->R D):Prop:=∀ (as:ad5) (H:Hp) (xs:ad7) (ds:ad8) (Q:VK),(∀ a∈as,H a≠ξ)->aH W.K (mask as H) ds xs->cD W as H (g ds) Q->r xs H Q
def AG (W:Wd) (r:ad7->Hp->VK->Prop) (g:ad8->R D):Prop:=∀ (as:ad5) (H:Hp) (xs:ad7) (ds:ad8) (Q:VK),(∀ a∈as,H a≠ξ)->aH W.K (mask as H) ds xs->ij W as H (g ds) Q->r xs H Q
def ai (g:ad8->R D) (α:FA):FE:=fun U=>(α U).bind g
section
variable {p:Pos} {id:String}
theorem Kx (L:bD X (.builtin id) r) (M:oV W r g) (hm:X.mg x=ξ) (hv:YT x=θ (.builtin id)) (z:JA X (e::es) (rY W O α)) (hg:Gl X x:=by rfl) (h1:aM e=ζ:=by rfl) (h2:es.all aM=ζ:=by rfl) (hn:x≠"__name__":=by decide) (u:ad9 x:=by decide) :
  JE X (.Call (.Name x p) (e::es) [] pos) (tD W O (ai g α)) :=
 (vh L hm hv z hg h1 h2 hn u).imp fun σ H Q C=>cJ C fun as0 B own U I h=>⟨as0,B,own,U,I,dF h fun ds xs H1 J v h1=>M (own++as0) H1 xs ds Q (I.mono J).exi v h1⟩
theorem IT (L:bD X (.type T) r) (M:oV W r g) (hm:X.mg x=ξ) (hv:YT x=θ (.type T)) (z:JA X (e::es) (rY W O α)) (hg:Gl X x:=by rfl) (h1:aM e=ζ:=by rfl) (h2:es.all aM=ζ:=by rfl) (hn:x≠"__name__":=by decide) (u:ad9 x:=by decide) :
  JE X (.Call (.Name x p) (e::es) [] pos) (tD W O (ai g α)) :=
 (ve L hm hv z hg h1 h2 hn u).imp fun σ H Q C=>cJ C fun as0 B own U I h=>⟨as0,B,own,U,I,dF h fun ds xs H1 J v h1=>M (own++as0) H1 xs ds Q (I.mono J).exi v h1⟩
theorem IR (L:bD X (.type T) r) (M:AG W r g) (hm:X.mg x=ξ) (hv:YT x=θ (.type T)) (z:JA X (e::es) (rY W O α)) (hg:Gl X x:=by rfl) (h1:aM e=ζ:=by rfl) (h2:es.all aM=ζ:=by rfl) (hn:x≠"__name__":=by decide) (u:ad9 x:=by decide) :
  JE X (.Call (.Name x p) (e::es) [] pos) (tN W O (ai g α)) :=
 (ve L hm hv z hg h1 h2 hn u).imp fun σ H Q C=>cJ C fun as0 B own U I h=>⟨as0,B,own,U,I,dW h fun ds xs H1 J v h1=>M (own++as0) H1 xs ds Q (I.mono J).exi v h1⟩
end
def eG:Sd->R (Option Int):=fun _=>.ok ξ
def bS (φ:FE):Sd->R (Option Int):=fun U=>(φ U).bind fun d=>match d with
 | .int i=>.ok (θ i)
 | _=>.no
theorem pA:JO X ξ (Vi W O eG):=IM.imp fun σ H Q g=>cJ g fun as0 B own U I h=>h H (aw.refl _)
theorem pN (h:JE X e (tD W O φ)):JO X (θ e) (Vi W O (bS φ)):=(IC h).imp fun σ H Q g=>cJ g fun as0 B own U I h=>⟨as0,B,own,U,I,fF h fun d v H1 u r h1=>by
  cases d with
  | int i=>cases r;exact h1 H1 (aw.refl _)
  | _=>exact h1.elim⟩
def Ve (W:Wd) (r:V->Option Int->Option Int->Hp->VK->Prop) (g:D->Option Int->Option Int->R D):Prop :=
 ∀ (as:ad5) (H:Hp) (x:V) (lo u:Option Int) (a:D) (Q:VK),(∀ p,H p=ξ->p∉as)->cr W.K (mask as H) a x->cD W as H (g a lo u) Q->r x lo u H Q
def oJ (g:D->Option Int->Option Int->R D) (φ:FE) (l u:Sd->R (Option Int)):FE:=fun U=>(φ U).bind fun x=>(l U).bind fun lo=>(u U).bind fun r=>g x lo r
theorem pC {lo z:Option Zq} (hr:x6 X r) (hd:Ve W r g) (Y:JE X e (tD W O φ)) (hl:JO X lo (Vi W O l)) (hu:JO X z (Vi W O u)) :
  JE X (.Subscript e (.Slice lo z ξ p2) pos) (tD W O (oJ g φ l u)) :=
 (JY hr Y hl hu).imp fun σ H Q hh=>cJ hh fun as0 B own U I h=>⟨as0,B,own,U,I,a7 h fun x v H1 J Z h1=>⟨as0,B,own,U,I.mono J,lV h1 fun lo H2 C h2=>⟨as0,B,own,U,(I.mono J).mono C,lV h2 fun z H3 L M =>
  hd (own++as0) H3 v lo z x Q (fun p hp=>(((I.mono J).mono C).mono L).new hp) (Z.mono (aG (C.trans L))) M⟩⟩⟩
def Wo (W:Wd) (r:Str->ad7->Hp->VK->Prop) (g:Str->ad8->R D):Prop :=
 ∀ (as:ad5) (H:Hp) (z:Str) (xs:ad7) (ds:ad8) (Q:VK),(∀ p,H p=ξ->p∉as)->aH W.K (mask as H) ds xs->cD W as H (g z ds) Q->r z xs H Q
def Qd (g:Str->ad8->R D) (φ:FE) (α:FA):FE:=fun U=>(φ U).bind fun x=>match x with
 | .str z=>(α U).bind fun ds=>g z ds
 | _=>.no
theorem VH {apos cpos:Pos} {id:String} (J:Slot "str" name id) (L:typeOf (.builtin id)=pure (.type "method_descriptor")) (hm:Uh X id r) (hd:Wo W r g) (Z:JE X o (tD W O φ)) (ha:JA X (e::es) (rY W O α))
  (u:Y4 o name X.env (eval o X.env)=eval o X.env:=by rfl) (C:(apos.endLine==cpos.line)=ζ:=by rfl) (h1:(e::es).all aM=ζ:=by rfl) (hl:(e::es).length < 29:=by decide) :
  JE X (.Call (.Attribute o name apos) (e::es) [] cpos) (tD W O (Qd g φ α)) :=
 (W8 J L hm Z ha u C h1 hl).imp fun σ H Q hh=>cJ hh fun as0 B own U I h=>⟨as0,B,own,U,I,a7 h fun x v H1 M d1 h1=>by
  cases x with
  | str z =>
   cases d1;exact ⟨as0,B,own,U,I.mono M,dF h1 fun ds xs H2 s2 Y h2=>hd (own++as0) H2 z xs ds Q (fun p hp=>((I.mono M).mono s2).new hp) Y h2⟩
  | _=>exact h1.elim⟩
end
inductive Fl where
 | nx (U:Sd)|rt (d:D)|bk (U:Sd)|ct (U:Sd)
 /-- a return of what is laid anew,and nobody else's -/
 | rn (d:D)
abbrev FS:=Sd->R Fl
def bx (W:Wd) (as0:ad5) (B:Hp) (Ob O':ad0) (r:R Fl) (D:Ends):Prop:=match r with
 | .ok (.nx U)=>∀ own σ H,DI W.K as0 B O' own σ U H->D.nx σ H
 | .ok (.bk U)=>∀ own σ H,DI W.K as0 B Ob own σ U H->D.bk σ H
 | .ok (.ct U)=>∀ own σ H,DI W.K as0 B Ob own σ U H->D.ct σ H
 | .ok (.rt d)=>∀ v H,aw B H->cr W.K (mask as0 H) d v->D.rt v H
 | .ok (.rn d)=>∀ p o H,aw B H->B p=ξ->H p=θ o->ja W.K (mask (p::as0) H) o d->D.rt (.ref p) H
 | .er x=>∀ e C H,aw B H->W.mg x=θ (.ref C)->W.E e (θ C) H
 | .no=>False
def sD (W:Wd) (Ob O O':ad0) (φ:FS):TS:=fun D σ H=>∃ as0 B own U,DI W.K as0 B O own σ U H/\bx W as0 B Ob O' (φ U) D
section
variable {W:Wd} {as0 own:ad5} {B H:Hp} {Ob O O':ad0} {σ:St} {U:Sd} {D':Ends}
theorem b4 (I:DI W.K as0 B O own σ U H) (h:bx W as0 B Ob O' (r.bind f) D') (q:∀ d v H',aw H H'->cr W.K (mask (own++as0) H') d v->bx W as0 B Ob O' (f d) D'->Q v H'):cD W (own++as0) H r Q:=by
 cases r with
 | ok d=>exact fun v H' s g=>q d v H' s g h
 | er x=>exact fun e C H' s=>h e C H' (I.same.trans s)
 | no=>exact h
theorem j2 (I:DI W.K as0 B O own σ U H) (h:bx W as0 B Ob O' (r.bind f) D') (q:∀ d p o H',aw H H'->H p=ξ->H' p=θ o->ja W.K (mask (p::(own++as0)) H') o d->bx W as0 B Ob O' (f d) D'->Q (.ref p) H'):ij W (own++as0) H r Q:=by
 cases r with
 | ok d=>exact fun p o H' s h1 h2 g=>q d p o H' s h1 h2 g h
 | er x=>exact fun e C H' s=>h e C H' (I.same.trans s)
 | no=>exact h
theorem oS {r:R α} {f:α->R Fl} {Q:α->Hp->Prop} (I:DI W.K as0 B O own σ U H) (h:bx W as0 B Ob O' (r.bind f) D') (q:∀ d H',aw H H'->bx W as0 B Ob O' (f d) D'->Q d H'):fZ W H r Q:=by
 cases r with
 | ok d=>exact fun H' s=>q d H' s h
 | er x=>exact fun e C H' s=>h e C H' (I.same.trans s)
 | no=>exact h
theorem bx.base (h:bx W as0 B Ob O' r D') (s:aw B B') (u:∀ a∈as0,B a≠ξ):bx W as0 B' Ob O' r D':=by
 cases r with
 | ok f =>
  cases f with
  | nx U=>exact fun own σ H I=>h own σ H (I.base s u)
  | bk U=>exact fun own σ H I=>h own σ H (I.base s u)
  | ct U=>exact fun own σ H I=>h own σ H (I.base s u)
  | rt d=>exact fun v H g=>h v H (s.trans g)
  | rn d=>exact fun p o H g z=>h p o H (s.trans g) (s.free z)
 | er x=>exact fun e C H g=>h e C H (s.trans g)
 | no=>exact h
theorem getElem?_set' {α:Type} {l:List α} {x:α}:(l.set i x)[j]?=if i=j then (if i < l.length then θ x else ξ) else l[j]?:=List.getElem?_set
theorem DI.set (I:DI W.K as0 B O own σ U H) (r:i∉O) (h:cr W.K (mask (own++as0) H) d v):DI W.K as0 B O own (σ.set i (θ v)) (U.set i (θ d)) H:=by
 refine ⟨by simp [I.len],I.olen,I.nd,I.ond,I.fresh,I.ex0,I.same,fun j e g q=>?_,fun j a g=>?_⟩
 .rw [getElem?_set'] at q ⊢;split at q
  .rename_i hij;rw [adU hij];split at q
   .rename_i hl;rw [adU (by rw [<- I.len];exact hl)]
    grind
   .cases q
  .rename_i hij;rw [adV hij];exact I.var j e g q
 .have hji:i≠j:=fun z=>r (by rw [z];exact (Za g).1);let ⟨d',o,h1,h2,h3,h4⟩:=I.owns j a g
  simp_all
theorem zip_inj:∀ {O:ad0} {own:ad5} {i j:Nat} {a:YS},own.Nodup->(i,a)∈O.zip own->(j,a)∈O.zip own->i=j
 | [],_,_,_,_,_,h,_=>by simp at h
 | _::_,[],_,_,_,_,h,_=>by simp at h
 | k::O,b::own,i,j,a,nd,h1,h2=>by
  rw [YW] at nd;rcases mK.mp h1 with e1|h1 <;> rcases mK.mp h2 with e2|h2
  .grind
  .cases e1;exact absurd (Za h2).2 nd.1
  .cases e2;exact absurd (Za h1).2 nd.1
  .exact zip_inj nd.2 h1 h2
theorem cw:∀ {O:ad0} {own:ad5} {i:Nat},own.length=O.length->i∈O->∃ a,(i,a)∈O.zip own
 | [],_,_,_,h=>by cases h
 | k::O,[],_,l,_=>by simp at l
 | k::O,b::own,i,l,h=>by
  rcases mK.mp h with rfl|h
  .simp_all
  .obtain ⟨a,g⟩:=cw (by simpa using l) h;exact ⟨a,lT _ g⟩
def bj (p:Nat->Bool):ad0->ad5->ad5
 | i::O,a::own=>if p i=ζ then a::bj p O own else bj p O own
 | _,_=>[]
theorem iq {p:Nat->Bool}:∀ {O:ad0} {own:ad5},(bj p O own).Sublist own
 | [],own=>by simp [bj]
 | _::_,[]=>by simp [bj]
 | i::O,a::own=>by
  unfold bj;split
  .exact (iq).cons_cons a
  .exact (iq).cons a
theorem jS:∀ {O:ad0} {own:ad5},own.length=O.length->(bj p O own).length=(O.filter p).length
 | [],[],_=>rfl
 | i::O,a::own,l=>by
  have g:=jS (p:=p) (by simpa using l);unfold bj;rw [Z8];split
  .simp [g]
  .exact g
 | [],_::_,l=>by simp at l
 | _::_,[],l=>by simp at l
theorem dX:∀ {O:ad0} {own:ad5} {i:Nat} {a:YS},(i,a)∈(O.filter p).zip (bj p O own)->(i,a)∈O.zip own/\p i=ζ
 | [],_,_,_,h=>by simp at h
 | _::_,[],_,_,h=>by simp [bj] at h
 | k::O,b::own,i,a,h=>by
  unfold bj at h;rw [Z8] at h;by_cases g:p k=ζ
  .rw [adU g,adU g] at h;rcases mK.mp h with e|h
   .simp_all
   .exact ⟨lT _ (dX h).1,(dX h).2⟩
  .rw [adV g,adV g] at h;exact ⟨lT _ (dX h).1,(dX h).2⟩
theorem iu:∀ {O:ad0} {own:ad5} {a:YS},a∈bj p O own->∃ i,(i,a)∈O.zip own/\p i=ζ
 | [],_,_,h=>by simp [bj] at h
 | _::_,[],_,h=>by simp [bj] at h
 | k::O,b::own,a,h=>by
  unfold bj at h;split at h
  .rcases mK.mp h with e|h
   .simp_all
   .let ⟨i,h1,h2⟩:=iu h;exact ⟨i,lT _ h1,h2⟩
  .let ⟨i,h1,h2⟩:=iu h;exact ⟨i,lT _ h1,h2⟩
theorem DI.freeze (I:DI W.K as0 B O own σ U H) (C:O.filter (fun i=>decide (i∈O2))=O2):∃ r,DI W.K as0 B O2 r σ U H:=by
 generalize L:(fun i=>decide (i∈O2))=p at C;have M:∀ i,p i=decide (i∈O2):=fun i=>by rw [<- L]
 have u:(bj p O own).Sublist own:=iq;have mem:∀ a∈bj p O own,a∈own:=fun a g=>u.mem g;have s:aw (mask (own++as0) H) (mask (bj p O own++as0) H):=jZ fun a g=>by
  grind
 refine ⟨bj p O own,I.len,by rw [jS I.olen,C],I.nd.sublist u,by rw [<- C];exact I.ond.sublist abX,fun a g=>I.fresh a (mem a g),I.ex0,I.same,fun i d J q=>?_,fun i a J=>?_⟩
 .by_cases h:i∈O
  .let ⟨a,g⟩:=cw I.olen h
   let ⟨d',o,h1,h2,h3,h4⟩:=I.owns i a g
   rw [q] at h1;cases h1;refine ⟨.ref a,h2,ja.den ?_ h3 (h4.mono (jZ fun b hb=>?_))⟩
   .intro z;rcases xb.mp z with z|z
    .let ⟨j,h5,h6⟩:=iu z
     have:=zip_inj I.nd g h5
     simp_all
    .exact I.apart a (Za g).2 z
   .rcases mK.mp hb with rfl|hb
    .exact YY _ (Za g).2
    .rcases xb.mp hb with h|h
     .simp_all
     simp_all
  .let ⟨v,h1,h2⟩:=I.var i d h q
   exact ⟨v,h1,h2.mono s⟩
 .rw [<- C] at J;let ⟨d,o,h1,h2,h3,h4⟩:=I.owns i a (dX J).1
  exact ⟨d,o,h1,h2,h3,h4.mono s⟩
theorem DI.own1 (I:DI W.K as0 B O own σ U H) (u:i∉O) (C:B p=ξ) (hn:p∉own++as0) (e:H p=θ o) (h:ja W.K (mask (p::(own++as0)) H) o d) (J:i < U.length)
  (fr:∀ j d',j∉O->U[j]?=θ (θ d')->∃ v,σ[j]?=θ (θ v)/\cr W.K (mask (p::(own++as0)) H) d' v)
  (fo:∀ j a,(j,a)∈O.zip own->∃ d o,U[j]?=θ (θ d)/\σ[j]?=θ (θ (.ref a))/\H a=θ o/\ja W.K (mask (p::(own++as0)) H) o d) :
  DI W.K as0 B (i::O) (p::own) (σ.set i (θ (.ref p))) (U.set i (θ d)) H:=by
 refine ⟨by simp [I.len],by simp [I.olen],YW.mpr ⟨fun z=>hn (YY _ z),I.nd⟩,YW.mpr ⟨u,I.ond⟩,fun a r=>?_,I.ex0,I.same,fun j e g q=>?_,fun j a g=>?_⟩
 .rcases mK.mp r with rfl|r
  .exact C
  .exact I.fresh a r
 .have hji:i≠j:=fun z=>g (by grind);simp_all
 .rw [aaR] at g;rcases mK.mp g with z|g
  .cases z;refine ⟨d,o,?_,?_,e,h⟩
   .simp_all
   .rw [getElem?_set',adU rfl,adU (by rw [<- I.len];exact J)]
  .have hji:i≠j:=fun z=>u (by rw [z];exact (Za g).1);simp_all
end
section
variable {X:Cx} {W:Wd} {Ob O O' O1 O2:ad0} {e c:Zq} {φ ψ:FS} {ε:FE} {τ:FT} {pos:Pos} {st:aa0} {sts rest:List aa0}
noncomputable def aF:FS:=fun U=>.ok (.nx U)
def ap (φ ψ:FS):FS:=fun U=>(φ U).bind fun f=>match f with
 | .nx δ'=>ψ δ'
 | f=>.ok f
theorem MO:JB X [] (sD W Ob O O aF):=vK.imp fun D σ H g=>cJ g fun as0 B own U I h=>h own σ H I
theorem BA (h1:JS X st (sD W Ob O O1 φ)) (h2:JB X rest (sD W Ob O1 O2 ψ)):JB X (st::rest) (sD W Ob O O2 (ap φ ψ)):=(m9 h1 h2).imp fun D σ H r=>cJ r fun as0 B own U I h=>by
 refine ⟨as0,B,own,U,I,?_⟩;unfold ap at h;cases hr:φ U with
 | ok f =>
  rw [hr] at h;cases f with
  | nx δ'=>exact fun g u H' v=>⟨as0,B,g,δ',v,h⟩
  | rt d=>exact h
  | rn d=>exact h
  | bk d=>exact h
  | ct d=>exact h
 | er x=>rw [hr] at h;exact h
 | no=>rw [hr] at h;exact h
theorem zd (h1:JS X st (sD W Ob O O1 φ)):JB X [st] (sD W Ob O O1 φ):=rQ h1
theorem O6 (h:JB X sts (sD W Ob O2 O' φ)) (r:O.filter (fun i=>decide (i∈O2))=O2:=by decide):JB X sts (sD W Ob O O' φ):=h.imp fun D σ H g=>cJ g fun as0 B own U I h =>
 let ⟨own2,I2⟩:=I.freeze r;⟨as0,B,own2,U,I2,h⟩
def aB (ε:FE):FS:=fun U=>(ε U).bind fun d=>.ok (.rt d)
theorem GE (h:JE X e (tD W O ε)):JS X (.Return (θ e) pos) (sD W Ob O O' (aB ε)):=(PF h).imp fun D σ H g=>cJ g fun as0 B own U I h =>
 ⟨as0,B,own,U,I,b4 I h fun d v H' s u h'=>h' v H' (I.same.trans s) (u.mono (jZ fun a r=>MK _ r))⟩
def wC (ε:FE):FS:=fun U=>(ε U).bind fun _=>.ok (.nx U)
theorem IH (h:JE X e (tD W O ε)) (hs:Z2 e ξ pos.line X.env=pure η:=by rfl):JS X (.Expr e pos) (sD W Ob O O (wC ε)):=(mN h hs).imp fun D σ H g=>cJ g fun as0 B own U I h =>
 ⟨as0,B,own,U,I,b4 I h fun d v H' s r h'=>h' own σ H' (I.mono s)⟩
def bN (τ:FT) (φ ψ:FS):FS:=fun U=>(τ U).bind fun b=>if b=ζ then φ U else ψ U
theorem SI (u:JT X c (i9 W O τ)) (r:JB X a (sD W Ob O O' φ)) (hb:JB X b (sD W Ob O O' ψ)):JS X (.If c a b pos) (sD W Ob O O' (bN τ φ ψ)):=(BN u r hb).imp fun D σ H g=>cJ g fun as0 B own U I h =>
 ⟨as0,B,own,U,I,oS I h fun b H' s h'=>by
  cases b with
  | true=>exact ⟨as0,B,own,U,I.mono s,h'⟩
  | false=>exact ⟨as0,B,own,U,I.mono s,h'⟩⟩
def aJ (i:Nat) (ε:FE):FS:=fun U=>(ε U).bind fun d=>.ok (.nx (U.set i (θ d)))
theorem Ea {pos':Pos} (r:i∉O) (M:X.N.Nodup) (C:vZ X.env.scope x) (z:JE X e (tD W O ε)) (Y:X.N[i]?=θ x:=by rfl) (hs:Z2 e (θ (.Name x pos')) pos.line X.env=pure η:=by rfl) (g:X.fn x=ζ\/X.env.scope.names.lookup x=θ .local:=by walk_at"u") :
  JS X (.Assign [.Name x pos'] e pos) (sD W Ob O O (aJ i ε)):=(zw M C z Y hs g).imp fun D σ H J=>cJ J fun as0 B own U I h =>
 ⟨as0,B,own,U,I,b4 I h fun d v H' s L h'=>h' own _ H' ((I.mono s).set r L)⟩
def f6 (i:Nat) (ε:FE):FS:=fun U=>(ε U).bind fun d=>if i < U.length then .ok (.nx (U.set i (θ d))) else .no
theorem f8 (r:H p=ξ) (s:aw H H'):aw (mask as H) (mask (p::as) H'):=fun b o e=>by
 by_cases hb:b∈as
 .rw [bT hb] at e;cases e
 .rw [aD hb] at e;have g:b≠p:=fun z=>by simp_all
  rw [aD (by simp [hb,g])];exact s b o e
theorem wj {K:aT} (I:DI K as0 B O own σ U H) (C:i∉O) (s:aw H H') (g:H p=ξ) (e:H' p=θ o) (h:ja K (mask (p::(own++as0)) H') o d) (L:i < U.length) :
  DI K as0 B (i::O) (p::own) (σ.set i (θ (.ref p))) (U.set i (θ d)) H':=by
 refine DI.own1 (W:=⟨K,fun _=>ξ,E0⟩) (I.mono s) C (I.same.free g) (I.new g) e h L (fun j d' r q=>?_) fun j a r=>?_
 .let ⟨v,h1,h2⟩:=I.var j d' r q
  exact ⟨v,h1,h2.mono (f8 g s)⟩
 .obtain ⟨d',u,h1,h2,z,J⟩:=I.owns j a r;exact ⟨d',u,h1,h2,s a u z,J.mono (f8 g s)⟩
theorem E1 {pos':Pos} (r:i∉O) (J:X.N.Nodup) (z:vZ X.env.scope x) (v:JE X e (tN W O ε)) (M:X.N[i]?=θ x:=by rfl) (hs:Z2 e (θ (.Name x pos')) pos.line X.env=pure η:=by rfl) (g:X.fn x=ζ\/X.env.scope.names.lookup x=θ .local:=by walk_at"u") :
  JS X (.Assign [.Name x pos'] e pos) (sD W Ob O (i::O) (f6 i ε)):=(zw J z v M hs g).imp fun D σ H C=>cJ C fun as0 B own U I h =>
 ⟨as0,B,own,U,I,j2 I h fun d p o H' s L e od h'=>by
  split at h'
  .rename_i hl;exact h' _ _ H' (wj I r s L e od hl)
  .exact h'.elim⟩
inductive TgD where
 | one (i:Nat)|tup (is:ad0)
noncomputable def lg:ad0->ad8->Sd->Sd
 | i::is,d::ds,U=>lg is ds (U.set i (θ d))
 | _,_,U=>U
def cO:TgD->D->Sd->R Sd
 | .one i,d,U=>.ok (U.set i (θ d))
 | .tup is,.tup ds,U=>if ds.length=is.length then .ok (lg is ds U) else .no
 | _,_,_=>.no
def gD (W:Wd) (O:ad0) (tg:TgD):TG:=fun v σ H Q=>∃ as0 B own U d,DI W.K as0 B O own σ U H/\cr W.K (mask (own++as0) H) d v/\match cO tg d U with
 | .ok δ'=>∀ g,DI W.K as0 B O own g δ' H->Q g H
 | _=>False
def Rb (W:Wd) (O:ad0) (is:ad0):KP:=fun vs σ H Q=>∃ as0 B own U ds,DI W.K as0 B O own σ U H/\aH W.K (mask (own++as0) H) ds vs/\ds.length=is.length/\∀ g,DI W.K as0 B O own g (lg is ds U) H->Q g H
theorem NR (C:i∉O) (g:X.N.Nodup) (J:X.N[i]?=θ x) (r:vZ X.env.scope x) (z:X.fn x=ζ\/X.env.scope.names.lookup x=θ .local:=by walk_at"u"):JG X (.Name x pos) (gD W O (.one i)) :=
 (Ap g J r z).imp fun v σ H Q ⟨as0,B,own,U,d,I,dv,h⟩=>h _ (I.set C dv)
theorem Ku:JGs X [] (Rb W O []):=KZ.imp fun vs σ H Q ⟨as0,B,own,U,ds,I,dv,hl,h⟩=>by
 cases ds with
 | nil=>cases dv;exact ⟨rfl,h σ I⟩
 | cons _ _=>simp at hl
theorem Gq (h1:JG X e (gD W O (.one i))) (h2:JGs X es (Rb W O is))
  (hs:(Zn (e::es) X.env).map (·.2)=assign e X.env::(Zn es X.env).map (·.2):=by rfl):JGs X (e::es) (Rb W O (i::is)):=(GA h1 h2 hs).imp fun vs σ H Q ⟨as0,B,own,U,ds,I,dv,hl,h⟩=>by
 cases ds with
 | nil=>simp at hl
 | cons d ds =>
  obtain ⟨v,r,rfl,z,g⟩:=dv;exact ⟨v,r,rfl,as0,B,own,U,d,I,z,fun u C=>⟨as0,B,own,_,ds,C,g,by simpa using hl,h⟩⟩
theorem NA (K:aT) {k:Nat} (h:JGs X es (Rb W O is)) (z:is.length=n:=by rfl) (J:X.calm=ζ:=by rfl)
  (hn:(Zn es X.env).length=n:=by rfl) (u:(Zn es X.env).findIdx? (·.1)=ξ:=by rfl) (C:X.K=K:=by rfl) (hW:W.K=K:=by rfl):JG X (.Tuple es k pos) (gD W O (.tup is)):=by
 refine (NP K h J hn u C).imp fun v σ H Q ⟨as0,B,own,U,d,I,dv,h⟩=>?_;cases d with
 | tup ds =>
  obtain ⟨a,xs,rfl,q1,q2⟩:=dv;have h':(match (if ds.length=is.length then R.ok (lg is ds U) else .no) with|.ok δ'=>∀ g,DI W.K as0 B O own g δ' H->Q g H|_=>False):=h
  by_cases r:ds.length=is.length
  .rw [adU r] at h';subst hW;exact ⟨a,xs,rfl,(ar _ _).seqT q1,by rw [<- q2.len,r,z],as0,B,own,U,ds,I,q2,r,h'⟩
  simp_all
 | _=>exact h.elim
structure GivesD (K:aT) (as0:ad5) (B:Hp) (J:It) (xs:ad8):Prop where
 go:∀ i H,aw (mask as0 B) H->i < xs.length->J.go i H
 yl:∀ i H v H2 M,aw (mask as0 B) H->(∀ a∈M,H a≠ξ)->(∀ a∈M,a∈as0\/B a=ξ)->i < xs.length->J.yld i H v H2->aw H H2/\∃ d,xs[i]?=θ d/\cr K (mask M H2) d v
 stop:∀ H,aw (mask as0 B) H->J.stop xs.length H
def gh (W:Wd) (as0 own:ad5) (H:Hp) (r:R (ad8)) (Q:It->Hp->Prop):Prop:=match r with
 | .ok xs=>∀ J H',aw H H'->GivesD W.K as0 (mask own H') J xs->Q J H'
 | .er x=>∀ e C H',aw H H'->W.mg x=θ (.ref C)->W.E e (θ C) H'
 | .no=>False
def iD (W:Wd) (O:ad0) (ι:FA):TI:=fun σ H Q=>∃ as0 B own U,DI W.K as0 B O own σ U H/\gh W as0 own H (ι U) Q
theorem hZ (s:aw (mask as0 B) H) (h:∀ a∈M,a∈as0\/B a=ξ):aw (mask as0 B) (mask M H):=fun b o e=>by
 have g:=e;by_cases hb:b∈as0
 .rw [bT hb] at e;cases e
 .rw [aD hb] at e;have hm:b∉M:=fun z=>by
   grind
  rw [aD hm];exact s b o g
theorem CO {K:aT} (h1:eV K (mask as0 B) a xs) (h2:aH K (mask as0 B) ds xs):GivesD K as0 B (Wy K a) ds where
 go:=fun i H s r=>by
  have g:i < xs.length:=by rw [<- h2.len];exact r
  exact ⟨xs,xs[i],s.seq h1,by simp [g]⟩
 yl:=fun i H v H2 M s _ hM r ⟨e,y⟩=>by
  subst e;let ⟨d,q1,q2⟩:=h2.got (y xs (s.seq h1))
  exact ⟨aw.refl _,d,q1,q2.mono (hZ s hM)⟩
 stop:=fun H s=>⟨xs,s.seq h1,by rw [h2.len];exact oR _⟩
theorem Co {K:aT} (h1:gU K (mask as0 B) a xs) (h2:aH K (mask as0 B) ds xs):GivesD K as0 B (Xy K a) ds where
 go:=fun i H s r=>by
  have g:i < xs.length:=by rw [<- h2.len];exact r
  exact ⟨xs,xs[i],s.seqT h1,by simp [g]⟩
 yl:=fun i H v H2 M s _ hM r ⟨e,y⟩=>by
  subst e;let ⟨d,q1,q2⟩:=h2.got (y xs (s.seqT h1))
  exact ⟨aw.refl _,d,q1,q2.mono (hZ s hM)⟩
 stop:=fun H s=>⟨xs,s.seqT h1,by rw [h2.len];exact oR _⟩
abbrev DT (z:Str):ad8:=z.cps.toList.map fun c=>D.str ⟨#[c]⟩
theorem yt {K:aT} (z:Str):GivesD K as0 B (UT z) (DT z) where
 go:=fun i H _ g=>by
  simpa [UT,Str.length] using g
 yl:=fun i H v H2 M _ _ _ g ⟨e,c,h1,h2⟩=>by
  subst e;refine ⟨aw.refl _,.str ⟨#[c]⟩,?_,h2⟩;simp_all
 stop:=fun H _=>by
  show _=z.length;simp [Str.length]
noncomputable def dI (lo:Int) (n:Nat):ad8:=(YV n).map fun (k:Nat)=>D.int (lo+(k:Int))
theorem uU {K:aT} (lo:Int) (n:Nat):GivesD K as0 B (U1 lo n) (dI lo n) where
 go:=fun i H _ g=>by
  unfold dI at g;rw [iN,Y7] at g;exact g
 yl:=fun i H v H2 M _ _ _ g ⟨e,h⟩=>by
  subst e;unfold dI at g ⊢;refine ⟨aw.refl _,.int (lo+i),?_,h⟩;simp_all
 stop:=fun H _=>by
  unfold dI;show n<=_;simp_all
noncomputable def fH:D->R (ad8)
 | .lst xs=>.ok xs
 | .tup xs=>.ok xs
 | .str z=>.ok (DT z)
 | _=>.no
def cY (ε:FE):FA:=fun U=>(ε U).bind fH
variable {tg:Zq}
theorem gh.mono (h:gh W as0 own H r Q) (s:aw H H'):gh W as0 own H' r Q:=by
 cases r with
 | ok d=>exact fun J u g=>h J u (s.trans g)
 | er x=>exact fun e C u g=>h e C u (s.trans g)
 | no=>exact h
theorem lG (h:gh W as0 own H (r.bind f) Q) (q:∀ d v H',aw H H'->cr W.K (mask (own++as0) H') d v->gh W as0 own H' (f d) Q->Q' v H'):cD W (own++as0) H r Q':=by
 cases r with
 | ok d=>exact fun v H' s g=>q d v H' s g (gh.mono h s)
 | er x=>exact h
 | no=>exact h
theorem jK (h:gh W as0 own H (r.bind f) Q) (q:∀ d v H',aw H H'->aH W.K (mask (own++as0) H') d v->gh W as0 own H' (f d) Q->Q' v H'):ip W (own++as0) H r Q':=by
 cases r with
 | ok d=>exact fun v H' s g=>q d v H' s g (gh.mono h s)
 | er x=>exact h
 | no=>exact h
theorem Ew (K:aT) (h:JE X l (tD W O ε)) (u:X.K=K:=by rfl) (hW:W.K=K:=by rfl):JI X tg l (iD W O (cY ε)):=(PM K h u).imp fun σ H Q r=>cJ r fun as0 B own U I h =>
 ⟨as0,B,own,U,I,lG h fun d v H' s g h'=>by
  subst hW;cases d with
  | lst ds =>
   obtain ⟨a,xs,rfl,q1,q2⟩:=g;refine .inl ⟨⟨xs,(ar _ _).seq q1⟩,h' _ H' (aw.refl _) ?_⟩;rw [iG] at q1 q2;exact CO q1 q2
  | tup ds =>
   obtain ⟨a,xs,rfl,q1,q2⟩:=g;refine .inr ⟨⟨xs,(ar _ _).seqT q1⟩,h' _ H' (aw.refl _) ?_⟩;rw [iG] at q1 q2;exact Co q1 q2
  | str z=>cases g;exact h' _ H' (aw.refl _) (yt z)
  | _=>exact h'.elim⟩
def J2:ad8->R (ad8)
 | [.int j]=>if -(2 ^ 62)<=j/\j < 2 ^ 62 then .ok (dI 0 j.toNat) else .no
 | _=>.no
def fE (α:FA):FA:=fun U=>(α U).bind J2
theorem CP {p pos:Pos} (hm:X.mg "range"=ξ) (z:JA X [a] (rY W O α)) (hg:Gl X "range":=by rfl) (hn:aM a=ζ:=by rfl):JI X tg (.Call (.Name "range" p) [a] [] pos) (iD W O (fE α)):=(CS hm z hg hn).imp fun σ H Q C=>cJ C fun as0 B own U I h =>
 ⟨as0,B,own,U,I,jK h fun ds vs H' s J h'=>by
  unfold J2 at h';split at h'
  .obtain ⟨v,r,rfl,u,g⟩:=J;cases u;cases g;split at h'
   .rename_i hj;exact ⟨hj,h' _ H' (aw.refl _) (uU 0 _)⟩
   .exact h'.elim
  .exact h'.elim⟩
def cG (tg:TgD) (g:FS):ad8->Sd->R Fl
 | [],U=>.ok (.nx U)
 | x::r,U=>(cO tg x U).bind fun u=>(g u).bind fun f=>match f with
  | .nx δ2=>cG tg g r δ2
  | .ct δ2=>cG tg g r δ2
  | .bk δ2=>.ok (.nx δ2)
  | .rt d=>.ok (.rt d)
  | .rn d=>.ok (.rn d)
def fY (ι:FA) (t:TgD) (g:FS):FS:=fun U=>(ι U).bind fun xs=>cG t g xs U
theorem wc (I:DI W.K as0 B O own σ U H) (h:bx W as0 B Ob O' (r.bind f) D')
  (q:∀ d J H',aw H H'->GivesD W.K as0 (mask own H') J d->bx W as0 B Ob O' (f d) D'->Q J H'):gh W as0 own H r Q:=by
 cases r with
 | ok d=>exact fun J H' s g=>q d J H' s g h
 | er x=>exact fun e C H' s=>h e C H' (I.same.trans s)
 | no=>exact h
theorem OC {iter:Zq} {Z:List aa0} {ι:FA} {t:TgD} (hp:abM (YN X.prog X.w) X.A X.env X.xe) (hi:JI X tg iter (iD W O ι)) (hg:JG X tg (gD W O t)) (hb:JB X Z (sD W O O O φ)) (hc:X.calm=ζ:=by rfl)
  (hs:∀ x,Zs iter X.env x=pure x:=by intro _;rfl):JS X (.For tg iter Z [] pos) (sD W Ob O O (fY ι t φ)):=(FC hp hi hg hb hc hs).imp fun D' σ H hh=>cJ hh fun as0 B own U I h=>by
 refine ⟨as0,B,own,U,I,wc I h fun xs J H1 s1 G h1=>?_⟩;have I1:=I.mono s1;have I2:=I1.rebase I1.apart;have sB:aw B (mask own H1):=I1.baseIn;have h2:=h1.base sB I.ex0;generalize hB':mask own H1=B' at I2 sB h2 G;have ex':∀ a∈as0,B' a≠ξ:=I2.ex0;refine ⟨fun i m σ H=>m=xs.length - i/\i<=xs.length/\∃ own U,DI W.K as0 B' O own σ U H/\bx W as0 B' Ob O (cG t φ (xs.drop i) U) D',⟨xs.length,by simp,YJ _,own,U,I2,by simpa using h2⟩,?_⟩;rintro i m σ3 H3 ⟨rfl,hi,own3,δ3,I3,h3⟩;by_cases M:i < xs.length
 .refine .inr ⟨G.go i H3 ((ar _ _).trans I3.same) M,fun C H'=>∃ own U,DI W.K as0 B' O own C U H'/\bx W as0 B' Ob O (cG t φ (xs.drop (i+1)) U) D',fun C H' ⟨u,δ',I',h'⟩=>⟨xs.length - (i+1),by lia,rfl,M,u,δ',I',h'⟩,fun v H4 y=>?_⟩;let ⟨s4,d,hd,dv⟩:=G.yl i H3 v H4 (own3++as0) ((ar _ _).trans I3.same) I3.exi (fun a ha=>by
   rcases xb.mp ha with z|z
   .exact .inr (I3.fresh a z)
   .exact .inl z) M y
  have ed:xs.drop i=d::xs.drop (i+1):=by
   rw [aa7 M];rw [lE M] at hd;cases hd;rfl
  rw [ed] at h3;refine ⟨as0,B',own3,δ3,d,I3.mono s4,dv,?_⟩;have Y:bx W as0 B' Ob O ((cO t d δ3).bind fun L=>(φ L).bind fun f=>match f with
   | .nx g=>cG t φ (xs.drop (i+1)) g
   | .ct g=>cG t φ (xs.drop (i+1)) g
   | .bk g=>.ok (.nx g)
   | .rt d=>.ok (.rt d)
   | .rn d=>.ok (.rn d)) D':=h3
  cases hb1:cO t d δ3 with
  | ok L =>
   rw [hb1] at Y;refine fun C I'=>⟨as0,B',own3,L,I',?_⟩;have r:bx W as0 B' Ob O ((φ L).bind fun f=>match f with
    | .nx g=>cG t φ (xs.drop (i+1)) g
    | .ct g=>cG t φ (xs.drop (i+1)) g
    | .bk g=>.ok (.nx g)
    | .rt d=>.ok (.rt d)
    | .rn d=>.ok (.rn d)) D':=Y
   cases hr:φ L with
   | ok f =>
    rw [hr] at r;cases f with
    | nx g=>exact fun u C H' I'=>⟨u,g,I',r⟩
    | ct g=>exact fun u C H' I'=>⟨u,g,I',r⟩
    | bk g=>exact r
    | rt d=>exact r
    | rn d=>exact r
   | er x=>rw [hr] at r;exact r
   | no=>rw [hr] at r;exact r
  | er x=>unfold cO at hb1;grind
  | no=>rw [hb1] at Y;exact Y.elim
 .have e:i=xs.length:=by lia
  subst e;rw [acA] at h3;exact .inl ⟨G.stop H3 ((ar _ _).trans I3.same),h3 own3 σ3 H3 I3⟩
def b5 (τ:FT) (g:FS):Nat->Sd->R Fl
 | 0,_=>.no
 | n+1,U=>(τ U).bind fun b=>if b=ζ then (g U).bind fun f=>match f with
  | .nx δ2=>b5 τ g n δ2
  | .ct δ2=>b5 τ g n δ2
  | .bk δ2=>.ok (.nx δ2)
  | .rt d=>.ok (.rt d)
  | .rn d=>.ok (.rn d)
  else .ok (.nx U)
theorem E3 (n:Nat) (M:abM (YN X.prog X.w) X.A X.env X.xe) (L:JT X c (i9 W O τ)) (hb:JB X body (sD W O O O φ)):JS X (.While c body [] pos) (sD W Ob O O (b5 τ φ n)):=(Hu M L hb).imp fun D' σ H J=>cJ J fun as0 B own U I h=>by
 refine ⟨fun m σ H=>∃ own U,DI W.K as0 B O own σ U H/\bx W as0 B Ob O (b5 τ φ m U) D',⟨n,own,U,I,h⟩,?_⟩;rintro m σ3 H3 ⟨own3,δ3,I3,h3⟩;cases m with
 | zero=>exact h3.elim
 | succ m =>
  refine ⟨as0,B,own3,δ3,I3,oS I3 h3 fun b Y C z=>?_⟩;cases b with
  | false=>exact z own3 σ3 Y (I3.mono C)
  | true =>
   refine ⟨fun u H'=>∃ own U,DI W.K as0 B O own u U H'/\bx W as0 B Ob O (b5 τ φ m U) D',fun u H' q=>⟨m,abO m,q⟩,as0,B,own3,δ3,I3.mono C,?_⟩;have h4'  := z;cases hr:φ δ3 with
   | ok f =>
    rw [hr] at h4';cases f with
    | nx r=>exact fun g u H' v=>⟨g,r,v,h4'⟩
    | ct r=>exact fun g u H' v=>⟨g,r,v,h4'⟩
    | bk r=>exact h4'
    | rt d=>exact h4'
    | rn d=>exact h4'
   | er x=>rw [hr] at h4';exact h4'
   | no=>rw [hr] at h4';exact h4'
end
def R.calm {α:Type}:R α->R α
 | .ok a=>.ok a
 | _=>.no
def d5 (ix:List (Option Nat)) (U:Sd):Sd:=ix.map fun o=>o.bind fun j=>(U[j]?).getD ξ
def qT:TgD->Sd->Bool
 | .one i,U=>match U[i]? with
  | some ξ=>ζ
  | _=>η
 | .tup is,U=>is.all fun i=>match U[i]? with
  | some ξ=>ζ
  | _=>η
def dY (tg:TgD) (τ:FT) (ε:FE) (g:Sd):ad8->R (ad8)
 | []=>.ok []
 | x::r=>(cO tg x g).bind fun u=>(τ u).bind fun b=>if b=ζ then (ε u).bind fun y=>(dY tg τ ε g r).bind fun ys=>.ok (y::ys) else dY tg τ ε g r
def cc (tg:TgD) (τ:FT) (ε:FE) (g:Sd) (xs:ad8):R D:=if qT tg g=ζ/\xs.length<=1000000 then (dY tg τ ε g xs).calm.bind fun ys=>.ok (.lst ys) else .no
def bo (ix:List (Option Nat)) (ι:FA) (tg:TgD) (τ:FT) (ε:FE):FE:=fun U=>(ι U).bind fun xs=>cc tg τ ε (d5 ix U) xs
noncomputable def fS:FT:=fun _=>.ok ζ
theorem qZ:∀ (is:ad0) (ds:ad8) (g U:Sd),(∀ (i:Nat),i∈is->g[i]?=θ ξ)->(∀ (i:Nat) (d:D),g[i]?=θ (θ d)->U[i]?=θ (θ d))->∀ (i:Nat) (d:D),g[i]?=θ (θ d)->(lg is ds U)[i]?=θ (θ d)
 | [],_,_,_,_,h=>by assumption
 | _::_,[],_,_,_,h=>by assumption
 | j::is,x::ds,g,U,hn,h=>by
  intro i d e;refine qZ is ds g _ (fun i u=>hn i (lT _ u)) (fun i d e=>?_) i d e;have r:j≠i:=fun z=>by
   simp_all
  simp_all
theorem Dq {tg:TgD} {x:D} {g δ1:Sd} (u:qT tg g=ζ) (h:cO tg x g=.ok δ1):∀ (i:Nat) (d:D),g[i]?=θ (θ d)->δ1[i]?=θ (θ d):=by
 cases tg with
 | one j =>
  cases h;intro i d e;have v:j≠i:=fun z=>by
   subst z;have r:(match g[j]? with|some ξ=>ζ|_=>η)=ζ:=u
   rw [e] at r;cases r
  simp_all
 | tup is =>
  cases x with
  | tup ds =>
   have h':(if ds.length=is.length then R.ok (lg is ds g) else .no)=.ok δ1:=h;split at h'
   .cases h';refine qZ is ds g g (fun i C=>?_) fun i d e=>e;have r  := u
    have:=Zy.mp r i C
    grind
   .cases h'
  | _=>cases h
theorem sV:∀ (is:ad0) (ds:ad8) (U:Sd),(lg is ds U).length=U.length
 | [],_,_=>by rfl
 | _::_,[],_=>by rfl
 | j::is,x::ds,U=>by unfold lg;rw [sV is ds];simp
theorem HK (h:cO tg x δ0=.ok δ1):δ1.length=δ0.length:=by
 cases tg with
 | one j=>cases h;simp
 | tup is =>
  cases x with
  | tup ds =>
   have h':(if ds.length=is.length then R.ok (lg is ds δ0) else .no)=.ok δ1:=h;split at h'
   .cases h';exact sV _ _ _
   .cases h'
  | _=>cases h
theorem DI.plain {K:aT} (z:U.length=σ.length) (u:∀ a∈M,H a≠ξ) (g:∀ (i:Nat) (d:D),U[i]?=θ (θ d)->∃ v,σ[i]?=θ (θ v)/\cr K (mask M H) d v):DI K M H [] [] σ U H :=
 ⟨z,rfl,ZF,ZF,fun a r=>(nomatch r),u,aw.refl _,fun i d _ e=>g i d e,fun i a h=>(by simp at h)⟩
section
variable {X:Cx} {W Wb:Wd} {O:ad0} {osc:Scope} {ON N:ad1} {ix:List (Option Nat)} {scope:Scope} {tg elt iter:Zq} {ifs:List Zq} {pos:Pos} {ι:FA} {t:TgD} {τ:FT} {ε:FE}
theorem KB:JTs X [] (i9 W O fS):=IK.imp fun σ H Q g=>cJ g fun as0 B own U I h=>h H (aw.refl _)
structure GivesC (K:aT) (M:ad5) (H:Hp) (J:It) (xs:ad8):Prop where
 go:∀ i H1,aw H H1->i < xs.length->J.go i H1
 yl:∀ i H1 v H2 acc,aw H H1->H acc=ξ->(∀ a∈acc::M,H1 a≠ξ)->i < xs.length->J.yld i H1 v H2->aw H1 H2/\∃ d,xs[i]?=θ d/\cr K (mask (acc::M) H2) d v
 stop:∀ H1,aw H H1->J.stop xs.length H1
theorem GivesD.comp {K:aT} (G:GivesD K as0 (mask own H) J xs):GivesC K (own++as0) H J xs where
 go:=fun i H1 s C=>G.go i H1 ((ar _ _).trans ((ar _ _).trans s)) C
 yl:=fun i H1 v L acc s g I C y=>G.yl i H1 v L (acc::(own++as0)) ((ar _ _).trans ((ar _ _).trans s)) I (fun a r=>by
  rcases mK.mp r with rfl|r
  .right
   cases z:mask own H a with
   | none=>rfl
   | some u=>have:=ar _ _ _ _ z;rw [g] at this;cases this
  .rcases xb.mp r with z|z
   .exact .inr (bT z)
   .exact .inl z) C y
 stop:=fun H1 s=>G.stop H1 ((ar _ _).trans ((ar _ _).trans s))
def uE (tg:TgD) (τ:FT) (ε:FE) (g:Sd) (xs:ad8):R D:=if qT tg g=ζ/\xs.length<=1000000 then (dY tg τ ε g xs).bind fun ys=>.ok (.lst ys) else .no
theorem B4 {tg:TgD} (h:cO tg d U=.er x):False:=by
 cases tg with
 | one i=>cases h
 | tup is =>
  cases d with
  | tup ds =>
   have h':(if ds.length=is.length then R.ok (lg is ds U) else .no)=.er x:=h;split at h' <;> cases h'
  | _=>cases h
theorem Gc {K:aT} {as0 own:ad5} {B H:Hp} {σ:St} {U:Sd} {xs:ad8} {J:It} {Q:VK} (hWb:Wb.K=K) (I:DI K as0 B O own σ U H) (hO:∀ j∈ix,∀ k,j=θ k->k∉O) (G:GivesC K (own++as0) H J xs)
  (hq:match uE t τ ε (d5 ix U) xs with
   | .ok d=>∀ p o H',aw H H'->H p=ξ->H' p=θ o->ja K (mask (p::(own++as0)) H') o d->Q (.ref p) H'
   | .er x=>∀ e C H',aw H H'->Wb.mg x=θ (.ref C)->Wb.E e (θ C) H'
   | .no=>False):vi (gD Wb [] t) (i9 Wb [] τ) (tD Wb [] ε) J (lz ix σ) H Q:=by
 intro acc L;unfold uE at hq;by_cases hc:qT t (d5 ix U)=ζ/\xs.length<=1000000
 .rw [adU hc] at hq;let ⟨hf,hlen⟩:=hc
  generalize hall:dY t τ ε (d5 ix U) xs=ra at hq;have hq':∀ (es:ad8) (r:R (ad8)),ra=(r.bind fun rest=>.ok (es++rest))->match r with
    | .ok rest=>∀ p o H',aw H H'->H p=ξ->H' p=θ o->ja K (mask (p::(own++as0)) H') o (.lst (es++rest))->Q (.ref p) H'
    | .er x=>∀ e C H',aw H H'->Wb.mg x=θ (.ref C)->Wb.E e (θ C) H'
    | .no=>False:=fun es r e=>by
   subst e;cases r with
   | ok rest=>exact hq
   | er x=>exact hq
   | no=>exact hq
  clear hq;generalize hδ0:d5 ix U=δ0 at hf hall;have cl:δ0.length=(lz ix σ).length:=by rw [<- hδ0];unfold d5 lz;simp
  have cv:∀ (i:Nat) (d:D),δ0[i]?=θ (θ d)->∃ v,(lz ix σ)[i]?=θ (θ v)/\cr K (mask (own++as0) H) d v:=by rw [<- hδ0];exact (by
    intro i d e;unfold d5 at e;unfold lz;rw [Zk] at e ⊢;cases h:ix[i]? with
    | none=>grind
    | some o =>
     rw [h] at e;cases o with
     | none=>cases e
     | some j =>
      have ej:U[j]?=θ (θ d):=by
       cases q:U[j]? with
       | none=>simp_all
       | some w=>simp_all
      let ⟨v,h1,h2⟩:=I.var j d (hO _ (YO h) j rfl) ej
      simp_all)
  generalize lz ix σ=σ0 at cl cv;have exM0:=I.exi;generalize hM:own++as0=M at cv hq' G exM0;have exM:∀ a∈M,H a≠ξ:=exM0;have naM:acc∉M:=fun z=>exM acc z L
  have exA:∀ {H':Hp},aw H H'->(∃ o,H' acc=θ o)->∀ a∈acc::M,H' a≠ξ:=fun {H'} s ⟨o,e⟩ a ha=>by
   rcases mK.mp ha with rfl|ha
   .rw [e];simp
   .cases q:H a with
    | none=>exact absurd q (exM a ha)
    | some u=>rw [s a u q];simp
  have s0:aw H (upd H acc (.lst [])):=aI L _;have start:ra=((dY t τ ε δ0 (xs.drop 0)).bind fun rest=>.ok ([]++rest)):=by
   rw [<- hall,acZ];cases dY t τ ε δ0 xs <;> rfl
  refine ⟨fun i m σ' H'=>m=xs.length - i/\i<=xs.length/\∃ ys es,H' acc=θ (.lst ys)/\ys.length<=i/\aw H H'/\aH K (mask (acc::M) H') es ys/\ra=((dY t τ ε δ0 (xs.drop i)).bind fun rest=>.ok (es++rest))/\DI K (acc::M) H' [] [] σ' δ0 H',
   ⟨xs.length,by simp,YJ _,[],[],aE,YJ _,s0,rfl,start,DI.plain cl (exA s0 ⟨_,aE⟩) fun i d e=>let ⟨v,h1,h2⟩:=cv i d e;⟨v,h1,h2.mono (f8 L s0)⟩⟩,?_⟩
  rintro i m σ1 H1 ⟨rfl,hi,ys,es,e1,hl1,s1,d1,g,I1⟩;have sB:aw H H1:=s1;by_cases hlt:i < xs.length
  .refine .inr ⟨G.go i H1 sB hlt,fun σ' H'=>∃ ys es,H' acc=θ (.lst ys)/\ys.length<=i+1/\aw H H'/\aH K (mask (acc::M) H') es ys/\ra=((dY t τ ε δ0 (xs.drop (i+1))).bind fun rest=>.ok (es++rest))/\DI K (acc::M) H' [] [] σ' δ0 H',
    fun σ' H' ⟨ys,es,q⟩=>⟨xs.length - (i+1),by lia,rfl,hlt,ys,es,q⟩,fun v H2 y=>?_⟩
   let ⟨s2,d,hd,dv⟩:=G.yl i H1 v H2 acc sB L (exA s1 ⟨_,e1⟩) hlt y
   have ed:xs.drop i=d::xs.drop (i+1):=by
    rw [aa7 hlt];rw [lE hlt] at hd;cases hd;rfl
   rw [ed] at g;have g:ra=(((cO t d δ0).bind fun Y=>(τ Y).bind fun b=>if b=ζ then (ε Y).bind fun y=>(dY t τ ε δ0 (xs.drop (i+1))).bind fun ys=>.ok (y::ys) else dY t τ ε δ0 (xs.drop (i+1))).bind fun rest=>.ok (es++rest)):=g;cases b1:cO t d δ0 with
   | er x=>exact (B4 b1).elim
   | no=>rw [b1] at g;exact (hq' es .no g).elim
   | ok Y =>
    rw [b1,az] at g;have I2:DI K (acc::M) H2 [] [] σ1 δ0 H2:=DI.plain I1.len (exA (s1.trans s2) ⟨_,s2 _ _ e1⟩) fun i d e=>let ⟨v,h1,h2⟩:=I1.var i d (by simp) e;⟨v,h1,h2.mono (aG s2)⟩;have again:∀ {σ3:St} {H3 H4:Hp},DI K (acc::M) H2 [] [] σ3 Y H3->aw (mask (acc::M) H3) (mask (acc::M) H4)->(∀ a∈acc::M,H4 a≠ξ)->DI K (acc::M) H4 [] [] σ3 δ0 H4:=fun {σ3 H3 H4} I3 s34 ex4 =>
     DI.plain (by rw [<- HK b1];exact I3.len) ex4 fun i d e=>let ⟨v,h1,h2⟩:=I3.var i d (by simp) (Dq hf b1 i d e);⟨v,h1,h2.mono s34⟩
    refine ⟨acc::M,H2,[],δ0,d,by rw [hWb];exact I2,by rw [hWb];exact dv,?_⟩;rw [b1];refine fun σ3 I3=>⟨acc::M,H2,[],Y,I3,?_⟩;rw [hWb] at I3;cases b2:τ Y with
    | er x=>rw [b2] at g;exact fun e C H' s' hm=>hq' es (.er x) g e C H' ((s1.trans s2).trans (I3.same.trans s')) hm
    | no=>rw [b2] at g;exact (hq' es .no g).elim
    | ok b =>
     rw [b2,az] at g;refine fun H3 s3=>?_;have I3':=I3.mono s3;have Z:aw H1 H3:=s2.trans (I3.same.trans s3);cases b with
     | false =>
      rw [adV By] at g;exact ⟨ys,es,Z _ _ e1,by lia,s1.trans Z,d1.mono (aG Z),g,again I3' (aw.refl _) (exA (s1.trans Z) ⟨_,Z _ _ e1⟩)⟩
     | true =>
      rw [adU rfl] at g;refine ⟨acc::M,H2,[],Y,by rw [hWb];exact I3',?_⟩;cases b3:ε Y with
      | er x=>rw [b3] at g;exact fun e C H' s' hm=>hq' es (.er x) g e C H' ((s1.trans Z).trans s') hm
      | no=>rw [b3] at g;exact (hq' es .no g).elim
      | ok y' =>
       rw [b3,az] at g;refine fun v4 H4 s4 d4=>?_;rw [hWb] at d4;have s14:aw H1 H4:=Z.trans s4;have e4:=s14 _ _ e1;have hm:=cj;have same5:aw (mask (acc::M) H4) (mask (acc::M) (upd H4 acc (.lst (ys++[v4])))):=fun b o e=>by
        by_cases hb:b∈acc::M
        .rw [bT hb] at e;cases e
        .rw [aD hb] at e ⊢;rw [aA (fun z=>hb (by rw [z];exact Zc))];exact e
       have s5:aw H (upd H4 acc (.lst (ys++[v4]))):=fun b o e=>by
        rw [aA (a9 e L)];exact (s1.trans s14) b o e
       refine ⟨ys,e4,by lia,ys++[v4],es++[y'],aE,by simp;lia,s5,?_,?_,again I3' ((aG s4).trans same5) (exA s5 ⟨_,aE⟩)⟩
       .exact (aH.append (d1.mono (aG s14)) (aH.cons d4 aH.nil)).mono same5
       .rw [g];cases dY t τ ε δ0 (xs.drop (i+1)) with
        | ok r=>show R.ok _=R.ok _;simp
        | er x=>rfl
        | no=>rfl
  .have e':i=xs.length:=by lia
   subst e';rw [acA] at g;have this:∀ (p:YS) (o:HO) (H':Hp),aw H H'->H p=ξ->H' p=θ o->ja K (mask (p::M) H') o (D.lst (es++[]))->Q (V.ref p) H':=hq' es (.ok []) g;rw [Y9] at this;exact .inl ⟨G.stop H1 sB,this acc _ H1 s1 L e1 ⟨ys,rfl,d1⟩⟩
 grind
theorem bF {K:aT} (g:Wb.K=K) (I:DI K as0 B O own σ U H) (r:∀ j∈ix,∀ k,j=θ k->k∉O) (G:GivesC K (own++as0) H J xs)
  (hq:match cc t τ ε (d5 ix U) xs with
   | .ok d=>∀ p o H',aw H H'->H p=ξ->H' p=θ o->ja K (mask (p::(own++as0)) H') o d->Q (.ref p) H'
   | _=>False):vi (gD Wb [] t) (i9 Wb [] τ) (tD Wb [] ε) J (lz ix σ) H Q:=by
 refine Gc g I r G ?_;unfold cc at hq;unfold uE;by_cases u:qT t (d5 ix U)=ζ/\xs.length<=1000000
 .rw [adU u] at hq ⊢;cases hall:dY t τ ε (d5 ix U) xs with
  | ok ys=>rw [hall] at hq;exact hq
  | er x=>rw [hall] at hq;exact hq.elim
  | no=>rw [hall] at hq;exact hq.elim
 simp_all
theorem Nr (g:wY osc ON N ix scope=ζ) (Z:JI X tg iter (iD W O ι)) (hg:∀ b,JG (iW X N scope b) tg (gD Wb [] t)) (ht:∀ b,JTs (iW X N scope b) ifs (i9 Wb [] τ)) (C:∀ b,JE (iW X N scope b) elt (tD Wb [] ε)) (L:∀ j∈ix,∀ k,j=θ k->k∉O)
  (v:Wb.K=W.K:=by rfl) (hE:X.env.scope=osc:=by rfl) (z:X.N=ON:=by rfl) (u:X.calm=ζ:=by rfl) (hs:∀ x,Zs iter X.env x=pure x:=by intro _;rfl):JE X (.ListComp elt [⟨tg,iter,ifs,0⟩] scope pos) (tN W O (bo ix ι t τ ε)) :=
 (OD g Z hg ht C hE z u hs).imp fun σ H Q M=>cJ M fun as0 B own U I h=>⟨as0,B,own,U,I,by
  unfold bo at h;cases hr:ι U with
  | no=>rw [hr] at h;exact h.elim
  | er x=>rw [hr] at h;exact h
  | ok xs =>
   rw [hr] at h;refine fun J H1 r G=>bF v (I.mono r) L G.comp ?_;have h':ij W (own++as0) H (cc t τ ε (d5 ix U) xs) Q:=h;cases hq:cc t τ ε (d5 ix U) xs with
   | ok d=>rw [hq] at h';exact fun p o H' s Y=>h' p o H' (r.trans s) (r.free Y)
   | er x =>
    unfold cc at hq;split at hq
    .cases u:dY t τ ε (d5 ix U) xs <;> rw [u] at hq <;> cases hq
    .cases hq
   | no=>rw [hq] at h';exact h'.elim⟩
theorem JP {i:Nat} {spos pos':Pos} (hN:X.N.Nodup) (hl:vZ X.env.scope x) (g:wY osc ON N ix scope=ζ) (hi:JI X tg iter (iD W O ι)) (hg:∀ b,JG (iW X N scope b) tg (gD Wb [] t)) (ht:∀ b,JTs (iW X N scope b) ifs (i9 Wb [] τ)) (Y:∀ b,JE (iW X N scope b) elt (tD Wb [] ε)) (Z:∀ j∈ix,∀ k,j=θ k->k∉O)
  (C:Wb.K=W.K:=by rfl) (hx:X.N[i]?=θ x:=by rfl) (hE:X.env.scope=osc:=by rfl) (L:X.N=ON:=by rfl) (z:X.calm=ζ:=by rfl)
  (r:Z2 (.ListComp elt [⟨tg,iter,ifs,0⟩] scope pos) (θ (.Name x pos')) spos.line X.env=pure ζ:=by rfl)
  (M:X.fn x=ζ\/X.env.scope.names.lookup x=θ .local:=by walk_at"u")
  (hs:∀ x,Zs iter X.env x=pure x:=by intro _;rfl):JS X (.Assign [.Name x pos'] (.ListComp elt [⟨tg,iter,ifs,0⟩] scope pos) spos) (qm (tN W O (bo ix ι t τ ε)) (jA i)) :=
 (yE hN hl g hi hg ht Y hx hE L z r M hs).imp fun D σ H hh=>cJ hh fun as0 B own U I h=>⟨as0,B,own,U,I,by
  unfold bo at h;cases hr:ι U with
  | no=>rw [hr] at h;exact h.elim
  | er x=>rw [hr] at h;exact h
  | ok xs =>
   rw [hr] at h;refine fun J H1 v G=>bF C (I.mono v) Z G.comp ?_;have h':ij W (own++as0) H (cc t τ ε (d5 ix U) xs) (fun x H1=>jA i x σ H1 D.nx):=h;cases hq:cc t τ ε (d5 ix U) xs with
   | ok d=>rw [hq] at h';exact fun p o H' s hp=>h' p o H' (v.trans s) (v.free hp)
   | er x =>
    unfold cc at hq;split at hq
    .cases z:dY t τ ε (d5 ix U) xs <;> rw [z] at hq <;> cases hq
    .cases hq
   | no=>rw [hq] at h';exact h'.elim⟩
theorem KM {st:aa0} (g:i∉O) (h:JS X st (qm (tN W O ε) (jA i))):JS X st (sD W Ob O (i::O) (f6 i ε)):=h.imp fun D σ H r=>cJ r fun as0 B own U I h =>
 ⟨as0,B,own,U,I,j2 I h fun d p o H' s u e od h'=>by
  split at h'
  .rename_i hl;exact h' _ _ H' (wj I g s u e od hl)
  .exact h'.elim⟩
theorem JZ {st:aa0} (g:i∉O) (h:JS X st (qm (tN W O ε) (jA i))):JS X st (sD W Ob O O (aJ i ε)):=h.imp fun D σ H r=>cJ r fun as0 B own U I h =>
 ⟨as0,B,own,U,I,j2 I h fun d p o H' s u e od h'=>h' own _ H' ((I.mono s).set g (od.den (I.new u) e))⟩
end
def uX (N:ad1) (ds:ad8):Sd:=ds.map θ++aa6 (N.length - ds.length) ξ
def uC (φ:FS) (N P:ad1) (ds:ad8):R D:=if ds.length=P.length then (φ (uX N ds)).bind fun f=>match f with
 | .rt d=>.ok d
 | .rn d=>.ok d
 | .nx _=>.ok .non
 | _=>.no
 else .no
def vV (K:aT) (mg:ad4) (F:ad8->R D):Sp:=fun vs H Q _=>∃ as ds,(∀ a∈as,H a≠ξ)/\aH K (mask as H) ds vs/\cD ⟨K,mg,E0⟩ as H (F ds) Q
section
variable {P:Z9} {w:Zv} {K:aT} {mg:ad4} {base:abh}
theorem yX:∀ {ds:ad8} {vs:ad7} {i:Nat} {d:D},aH K H ds vs->∀ {n:Nat},(ds.map θ++aa6 n ξ)[i]?=θ (θ d)->∃ v,(vs.map θ++aa6 n ξ)[i]?=θ (θ v)/\cr K H d v:=by
 intro ds vs i d h n e;have r:=h.len;by_cases g:i < ds.length
 .rw [aaq (by simpa using g)] at e;rw [aaq (by simp_all)];cases q:ds[i]? with
  | none=>grind
  | some d' =>
   let ⟨v,h1,h2⟩:=h.get q
   simp_all
 .rw [aaj (by simpa using g),acq] at e;split at e <;> cases e
theorem Fun.okD {st:aa0} (F:Fun K x qual st f fd) (S:FnScope N ps (aY st))
  (u:∀ (r:rW) (A:aaF) (g:List Env) (s:IF) (H:Hp) (E:XK),Room k (A.deeper (ac0 qual (aY st) s.heap.objs.size f r)) ->
   JB (wq l8 P w K mg base N qual (aY st) f r A g s H E).nox (eJ st) (sD ⟨K,mg,E0⟩ [] [] O' φ)):FnOk P w K mg base l8 (k+1) f fd ps (vV K mg (uC φ N ps)):=by
 refine F.okJ S (fun vs H Q E h=>?_) fun r A g s H vs Q E hr h=>?_
 .obtain ⟨as,ds,J,v,h⟩:=h;unfold uC at h;split at h
  .rename_i hl;rw [<- v.len];exact hl
  .exact h.elim
 .let ⟨as,ds,J,v,h⟩:=h
  unfold uC at h;split at h
  .refine ⟨_,u r A g s H E hr,as,H,[],uX N ds,⟨?_,rfl,ZF,ZF,fun a L=>(nomatch L),J,aw.refl _,fun i d _ e=>?_,fun i a h=>(by simp at h)⟩,?_⟩
   .unfold uX start;simp [v.len]
   .unfold start;rw [<- v.len];exact yX v e
   .cases hr:φ (uX N ds) with
    | ok Y =>
     rw [hr] at h;cases Y with
     | rt d=>assumption
     | rn d=>exact fun p o H' s M e od=>h (.ref p) H' s (od.den (fun z=>J p z M) e)
     | nx U=>exact fun own σ H' I=>h .non H' I.same rfl
     | bk U=>exact h.elim
     | ct U=>exact h.elim
    | er x=>rw [hr] at h;exact fun e C H' s=>h e C H' s
    | no=>rw [hr] at h;exact h.elim
  .exact h.elim
end
section
variable {W:Wd} {X:Cx}
theorem aK (h:cD W as H (.ok d) Q) (g:cr W.K (mask as H) d v):Q v H:=h v H (aw.refl _) g
theorem Jq:dh X (Z7 .Add) (fun x y H Q=>∃ l b xs zs,x=.ref l/\y=.ref b/\eV X.K H l xs/\eV X.K H b zs/\xs.length+zs.length<=RW/\∀ p,H p=ξ->Q (.ref p) (upd H p (.lst (xs++zs)))):=by
 intro J s σ H x y v u Q I g C h;obtain ⟨l,b,xs,zs,rfl,rfl,z,hB,hz,q⟩:=h;cases g;cases C;let ⟨its,r,pl,hl⟩:=I.list z
 let ⟨its2,r2,pl2,hl2⟩:=I.list hB
 let ⟨⟨cls,dd,data,sl⟩,ho,hc,n,hd⟩:=pl.isList
 let ⟨⟨cls2,dd2,data2,sl2⟩,ho2,hc2,n2,hd2⟩:=pl2.isList
 subst hc hd hc2 hd2;have e:its.toArray++its2.toArray=(its++its2).toArray:=by simp
 refine concat_meets ⟨_,ho,rfl⟩ ⟨_,ho2,rfl⟩ noFill_list_add seq_list_add PySem.F.slot_list_add PySem.F.entry_list_add (PySem.F.args_list_add_2 _ _) (list_addW l b its.toArray its2.toArray n n2 dd dd2 sl sl2 (by rw [YC,YC,<- r.length,<- r2.length];exact hz)) ⟨ho,ho2,?_⟩;rw [e];exact ⟨.ref _,_,I.lnew (r.append r2) (by grind),rfl,q _ I.fresh⟩
def Ay (K:aT):R2:=fun x y H Q=>match x,y with
 | .int i,.int j=>Q (.int (i+j)) H
 | .str i,.str j=>i.length+j.length<=RW/\Q (.str (i++j)) H
 | .ref l,.ref b=>(∃ xs zs,eV K H l xs/\eV K H b zs/\xs.length+zs.length<=RW/\∀ p,H p=ξ->Q (.ref p) (upd H p (.lst (xs++zs)))) \/
   ∃ xs zs,gU K H l xs/\gU K H b zs/\xs≠[]/\xs.length+zs.length<=RW/\(zs=[]->Q (.ref l) H)/\(zs≠[]->∀ p,H p=ξ->Q (.ref p) (upd H p (.tup (xs++zs))))
 | _,_=>False
theorem LM (K:aT) (z:X.K=K:=by rfl):dh X (Z7 .Add) (Ay K):=by
 subst z;refine ((NT.or zP).or (Jq.or KU)).imp fun x y H Q q=>?_;unfold Ay at q;split at q
 .exact .inl (.inl ⟨_,_,rfl,rfl,q⟩)
 .simp_all
 .rcases q with ⟨xs,zs,h1,h2,r,g⟩|⟨xs,zs,h1,h2,r,g,u,v⟩
  .exact .inr (.inl ⟨_,_,xs,zs,rfl,rfl,h1,h2,r,g⟩)
  .exact .inr (.inr ⟨_,_,xs,zs,rfl,rfl,h1,h2,r,g,u,v⟩)
 .exact q.elim
noncomputable def bm (a b:D):R D:=match a,b with
 | .int i,.int j=>.ok (.int (i+j))
 | .str x,.str y=>if x.length+y.length<=1000000 then .ok (.str (x++y)) else .no
 | .lst xs,.lst ys=>if xs.length+ys.length<=1000000 then .ok (.lst (xs++ys)) else .no
 | .tup xs,.tup ys=>if xs.isEmpty=η/\xs.length+ys.length<=1000000 then .ok (.tup (xs++ys)) else .no
 | _,_=>.no
theorem QP (K:aT) (hW:W.K=K:=by rfl):n6 W (Ay K) bm:=by
 subst hW;intro as H x y a b Q hn v u h;unfold bm at h;split at h
 .cases v;cases u;exact aK h rfl
 .cases v;cases u;split at h
  .rename_i hl;exact ⟨Le hl cj,aK h rfl⟩
  .exact h.elim
 .obtain ⟨p,vs,rfl,q1,q2⟩:=v;obtain ⟨p2,ws,rfl,q3,q4⟩:=u;split at h
  .rename_i hl;rw [q2.len,q4.len] at hl;refine .inl ⟨vs,ws,(ar _ _).seq q1,(ar _ _).seq q3,Le hl cj,fun p g=>?_⟩;refine h _ _ (aI g _) ⟨p,vs++ws,rfl,.inl (.inl (by rw [aD (hn p g)];exact aE)),(q2.append q4).mono (aG (aI g _))⟩
  .exact h.elim
 .rename_i xs ys;obtain ⟨p,vs,rfl,q1,q2⟩:=v;obtain ⟨p2,ws,rfl,q3,q4⟩:=u;split at h
  .rename_i hl;let ⟨he,hl⟩:=hl
   have C:vs≠[]:=fun z=>by
    have:=q2.empty
    rw [he,z] at this;cases this
   rw [q2.len,q4.len] at hl;refine .inr ⟨vs,ws,(ar _ _).seqT q1,(ar _ _).seqT q3,C,Le hl cj,fun z=>?_,fun z p g=>?_⟩
   .have:ys=[]:=by
     cases ys with
     | nil=>rfl
     | cons d r=>let ⟨_,_,e,_⟩:=q4;rw [z] at e;cases e
    subst this;rw [Y9] at h;exact aK h ⟨p,vs,rfl,q1,q2⟩
   .exact h _ _ (aI g _) ⟨p,vs++ws,rfl,.inl (.inl (by rw [aD (hn p g)];exact aE)),(q2.append q4).mono (aG (aI g _))⟩
  .exact h.elim
 .exact h.elim
def lJ (a b:D):R D:=match a,b with
 | .int i,.int j=>.ok (.int (i - j))
 | _,_=>.no
theorem zx:dh X (Z7 .Mult) (fun x y H Q=>∃ i n,x=.str i/\y=.int n/\MulOk i n/\Q (.str (Txt.mul i n)) H):=by
 intro C s σ H x y v u Q I r z h;obtain ⟨i,n,rfl,rfl,hm,q⟩:=h;obtain ⟨t,rfl⟩:=r;obtain ⟨t',rfl⟩:=z;exact aP I.tk (SB.mul hm fun t' k g=>⟨.str _,H,I.tok _,⟨t',rfl⟩,q⟩)
def Li:R2:=fun x y H Q=>match x,y with
 | .int i,.int j=>yq i j/\Q (.int (i*j)) H
 | .str i,.int j=>MulOk i j/\Q (.str (Txt.mul i j)) H
 | _,_=>False
instance (i j:Int):Decidable (yq i j):=by unfold yq;infer_instance
instance (i j:Int):Decidable (HC i j):=by unfold HC;infer_instance
instance (i j:Int):Decidable (Ft i j):=by unfold Ft;infer_instance
noncomputable def jI (a b:D):R D:=match a,b with
 | .int i,.int j=>if yq i j then .ok (.int (i*j)) else .no
 | .str x,.int n=>if x.length<=1000/\-1000<=n/\n<=1000 then .ok (.str (Txt.mul x n)) else .no
 | _,_=>.no
def VO:n6 W Li jI:=by
 intro as H x y a b Q hn g r h;unfold jI at h;split at h
 .cases g;cases r;split at h
  .rename_i hl;exact ⟨hl,aK h rfl⟩
  .exact h.elim
 .cases g;cases r;split at h
  .rename_i hl;exact ⟨mulOk_of 1000 1000 hl.1 (by lia) (by lia) (by decide) (by decide),aK h rfl⟩
  .exact h.elim
 .exact h.elim
noncomputable def cp (a b:D):R D:=match a,b with
 | .int i,.int j=>if HC i j then .ok (.int (i/j)) else .no
 | _,_=>.no
noncomputable def bc (a b:D):R D:=match a,b with
 | .int i,.int j=>if 0 < j then .ok (.int (i % j)) else .no
 | _,_=>.no
noncomputable def zO (a b:D):R D:=match a,b with
 | .int i,.int j=>if Ft i j then .ok (.int (i ^ j.toNat)) else .no
 | _,_=>.no
def D4 (a:D):R D:=match a with
 | .int i=>.ok (.int (-i))
 | _=>.no
noncomputable def vB (a b:D):R D:=match a,b with
 | .int i,.int j=>.ok (.bl (decide (i < j)))
 | .str i,.str j=>.ok (.bl (decide (i.cps.toList < j.cps.toList)))
 | _,_=>.no
noncomputable def DH (a b:D):R D:=match a,b with
 | .int i,.int j=>.ok (.bl (decide (i<=j)))
 | .str i,.str j=>.ok (.bl (!decide (j.cps.toList < i.cps.toList)))
 | _,_=>.no
noncomputable def x5 (a b:D):R D:=match a,b with
 | .int i,.int j=>.ok (.bl (decide (j < i)))
 | .str i,.str j=>.ok (.bl (decide (j.cps.toList < i.cps.toList)))
 | _,_=>.no
noncomputable def B5 (a b:D):R D:=match a,b with
 | .int i,.int j=>.ok (.bl (decide (j<=i)))
 | .str i,.str j=>.ok (.bl (!decide (i.cps.toList < j.cps.toList)))
 | _,_=>.no
def Ye:n6 W V0 vB:=by
 intro as H x y a b Q hn g r h;unfold vB at h;split at h
 .cases g;cases r;exact aK h rfl
 .cases g;cases r;exact aK h rfl
 .exact h.elim
def Yp:n6 W WO DH:=by
 intro as H x y a b Q hn g r h;unfold DH at h;split at h
 .cases g;cases r;exact aK h rfl
 .cases g;cases r;exact aK h rfl
 .exact h.elim
def Yt:n6 W Vn x5:=by
 intro as H x y a b Q hn g r h;unfold x5 at h;split at h
 .cases g;cases r;exact aK h rfl
 .cases g;cases r;exact aK h rfl
 .exact h.elim
def Yl:n6 W WK B5:=by
 intro as H x y a b Q hn g r h;unfold B5 at h;split at h
 .cases g;cases r;exact aK h rfl
 .cases g;cases r;exact aK h rfl
 .exact h.elim
def W1:D->Bool
 | .non=>ζ
 | _=>η
def XZ (j:Bool):D->Bool
 | .bl i=>i==j
 | _=>η
def isD (x:D) (y:D):R D:=match y with
 | .non=>.ok (.bl (W1 x))
 | .bl j=>.ok (.bl (XZ j x))
 | _=>.no
theorem C0 {K:aT} (h:cr K H a x):Ik x .non=W1 a:=by
 cases a with
 | lst _=>obtain ⟨_,_,rfl,_⟩:=h;rfl
 | tup _=>obtain ⟨_,_,rfl,_⟩:=h;rfl
 | dct _=>obtain ⟨_,_,rfl,_⟩:=h;rfl
 | obj _ _=>obtain ⟨_,_,_,_,rfl,_⟩:=h;rfl
 | exn _=>obtain ⟨_,_,rfl,_⟩:=h;rfl
 | cls _=>obtain ⟨_,rfl,_⟩:=h;rfl
 | lsm _=>obtain ⟨_,_,rfl,_⟩:=h;rfl
 | dcf _=>obtain ⟨_,_,_,rfl,_⟩:=h;rfl
 | _=>cases h;rfl
theorem Dm {K:aT} (h:cr K H a x):Ik x (.bl j)=XZ j a:=by
 cases a with
 | lst _=>obtain ⟨_,_,rfl,_⟩:=h;rfl
 | tup _=>obtain ⟨_,_,rfl,_⟩:=h;rfl
 | dct _=>obtain ⟨_,_,rfl,_⟩:=h;rfl
 | obj _ _=>obtain ⟨_,_,_,_,rfl,_⟩:=h;rfl
 | exn _=>obtain ⟨_,_,rfl,_⟩:=h;rfl
 | cls _=>obtain ⟨_,rfl,_⟩:=h;rfl
 | lsm _=>obtain ⟨_,_,rfl,_⟩:=h;rfl
 | dcf _=>obtain ⟨_,_,_,rfl,_⟩:=h;rfl
 | _=>cases h;rfl
def XW:n6 W Vp isD:=by
 intro as H x y a b Q hn g r h;unfold isD at h;split at h
 .cases r;show Q (.bl (Ik x .non)) H;rw [C0 g];exact aK h rfl
 .cases r;show Q (.bl (Ik x (.bl _))) H;rw [Dm g];exact aK h rfl
 .exact h.elim
mutual
noncomputable def cI:D->Option ZO
 | .non=>θ .none
 | .bl b=>θ (.bool b)
 | .int i=>θ (.int i)
 | .str x=>θ (.str x)
 | .lst xs=>(dm xs).map .list
 | .tup xs=>(dm xs).map .tuple
 | _=>ξ
noncomputable def dm:ad8->Option (List ZO)
 | []=>θ []
 | d::ds=>(cI d).bind fun p=>(dm ds).map (p::·)
end
mutual
theorem cu {g:ad2} {σ:St} {H:Hp} {s:IF} (I:Inv X g σ H s):∀ {d:D} {v:V} {u:rW} {p:ZO},cr X.K H d v->aQ v u->cI d=θ p->∃ as,Reads s.heap u p as
 | .non,_,_,_,h,r,e=>by cases h;cases r;cases e;exact ⟨_,.none⟩
 | .bl b,_,_,_,h,r,e=>by cases h;cases r;cases e;exact ⟨_,.bool b⟩
 | .int i,_,_,_,h,r,e=>by cases h;obtain ⟨t,rfl⟩:=r;cases e;exact ⟨_,.int i t⟩
 | .str x,_,_,_,h,r,e=>by cases h;obtain ⟨t,rfl⟩:=r;cases e;exact ⟨_,.str x t⟩
 | .lst ds,_,_,_,⟨a,xs,h0,h1,h2⟩,r,e=>by
  subst h0;cases r;unfold cI at e;cases q:dm ds with
  | none=>rw [q] at e;cases e
  | some ps =>
   rw [q] at e;cases e;let ⟨its,rv,pl,hz⟩:=I.list h1
   let ⟨o,ho,hc,n,hd⟩:=pl.isList
   let ⟨as,ha⟩:=j8 I h2 rv q
   exact ⟨_,.list ho hc hd (by simpa using ha)⟩
 | .tup ds,_,_,_,⟨a,xs,h0,h1,h2⟩,r,e=>by
  subst h0;cases r;unfold cI at e;cases q:dm ds with
  | none=>grind
  | some ps =>
   rw [q] at e;cases e;let ⟨its,rv,pl,hz⟩:=I.tuple h1
   let ⟨o,ho,hc,n,hd⟩:=pl
   let ⟨as,ha⟩:=j8 I h2 rv q
   exact ⟨_,.tuple ho hc hd (by simpa using ha)⟩
 | .dct _,_,_,_,_,_,e=>by cases e
 | .obj _ _,_,_,_,_,_,e=>by cases e
 | .ty _,_,_,_,_,_,e=>by cases e
 | .exn _,_,_,_,_,_,e=>by cases e
 | .cls _,_,_,_,_,_,e=>by cases e
 | .lsm _,_,_,_,_,_,e=>by cases e
 | .dcf _,_,_,_,_,_,e=>by cases e
theorem j8 {g:ad2} {σ:St} {H:Hp} {s:IF} (I:Inv X g σ H s):∀ {ds:ad8} {vs:ad7} {us:ad6} {ps:List ZO},aH X.K H ds vs->aU vs us->dm ds=θ ps->∃ as,ReadsAll s.heap us ps as
 | [],_,_,_,h,r,e=>by cases h;cases r;cases e;exact ⟨_,.nil⟩
 | d::ds,_,_,_,⟨v,vs,h0,h1,h2⟩,r,e=>by
  subst h0;unfold dm at e;cases q:cI d with
  | none=>grind
  | some p =>
   rw [q] at e;cases q2:dm ds with
   | none=>simp_all
   | some ps =>
    rw [q2] at e;cases e;cases r with
    | cons r1 r2 =>
     let ⟨as,ha⟩:=cu I h1 r1 q
     let ⟨bs,hb⟩:=j8 I h2 r2 q2
     exact ⟨_,.cons ha hb⟩
end
noncomputable def eT:D->Option V
 | .non=>θ .non
 | .bl b=>θ (.bl b)
 | .int i=>θ (.int i)
 | .str x=>θ (.str x)
 | _=>ξ
theorem ff {K:aT} (h:cr K H d v) (e:eT d=θ x):v=x:=by
 cases d with
 | non=>cases e;exact h
 | bl b=>cases e;exact h
 | int b=>cases e;exact h
 | str b=>cases e;exact h
 | _=>cases e
def eu (a b:D):Option Bool:=match cI a,cI b with
 | some p,θ q=>if YM p=ζ/\YM q=ζ then θ (Z4 p q) else ξ
 | _,_=>ξ
def j1 (a b:D):Option Bool:=match eT a,eT b with
 | some x,θ y=>if u6 x y=ζ then θ (decide (x=y)) else ξ
 | _,_=>eu a b
def sI (K:aT) (f:Bool->Bool):R2:=fun x y H Q=>∃ a b k,cr K H a x/\cr K H b y/\j1 a b=θ k/\Q (.bl (f k)) H
theorem xy (h:eu a b=θ k):∃ p q,cI a=θ p/\cI b=θ q/\YM p=ζ/\YM q=ζ/\k=Z4 p q:=by
 unfold eu at h;split at h
 .simp_all
 .cases h
theorem Dk (K:aT) (L:X.A.units+64 < aa3) (M:X.K=K:=by rfl):dh X (YX .Eq) (sI K fun k=>k):=by
 subst M;intro C s σ H x y v u Q I g r h;let ⟨a,b,k,da,db,e,q⟩:=h
 unfold j1 at e;split at e
 .rename_i x' y' e1 e2;split at e
  .rename_i hs;cases e
   have:=ff da e1;subst this
   have:=ff db e2;subst this
   exact SW C s σ H _ _ v u Q I g r ⟨hs,q⟩
  .cases e
 .obtain ⟨p,Y,h1,h2,z,J,rfl⟩:=xy e;let ⟨as,ra⟩:=cu I da g h1
  let ⟨bs,rb⟩:=cu I db r h2
  exact eq_dataH ra rb z J L ⟨.bl _,H,I,rfl,q⟩
theorem Pg (K:aT) (L:X.A.units+64 < aa3) (M:X.K=K:=by rfl):dh X (YX .NotEq) (sI K fun k=>!k):=by
 subst M;intro C s σ H x y v u Q I g r h;let ⟨a,b,k,da,db,e,q⟩:=h
 unfold j1 at e;split at e
 .rename_i x' y' e1 e2;split at e
  .rename_i hs;cases e
   have:=ff da e1;subst this
   have:=ff db e2;subst this
   exact TW C s σ H _ _ v u Q I g r ⟨hs,q⟩
  .cases e
 .obtain ⟨p,Y,h1,h2,z,J,rfl⟩:=xy e;let ⟨as,ra⟩:=cu I da g h1
  let ⟨bs,rb⟩:=cu I db r h2
  exact ne_dataH ra rb z J L ⟨.bl _,H,I,rfl,q⟩
def dD (o:Option Bool) (f:Bool->Bool):R D:=match o with
 | some k=>.ok (.bl (f k))
 | none=>.no
def bG (a b:D):R D:=dD (j1 a b) fun k=>k
def kA (a b:D):R D:=dD (j1 a b) fun k=>!k
theorem UN (K:aT) (f:Bool->Bool) (hW:W.K=K:=by rfl):n6 W (sI K f) (fun a b=>dD (j1 a b) f):=by
 subst hW;intro as H x y a b Q hn g r h;have h:cD W as H (dD (j1 a b) f) Q:=h;cases e:j1 a b with
 | none=>rw [e] at h;exact h.elim
 | some k =>
  rw [e] at h;exact ⟨a,b,k,g.mono (ar _ _),r.mono (ar _ _),e,aK h rfl⟩
theorem Q3 (K:aT) (hW:W.K=K:=by rfl):n6 W (sI K fun k=>k) bG:=UN K _ hW
theorem XN (K:aT) (hW:W.K=K:=by rfl):n6 W (sI K fun k=>!k) kA:=UN K _ hW
def lK:ad8->Option (ad7)
 | []=>θ []
 | d::ds=>(eT d).bind fun v=>(lK ds).map (v::·)
theorem lH {K:aT} {H:Hp}:∀ {ds:ad8} {vs xs:ad7},aH K H ds vs->lK ds=θ xs->vs=xs/\xs.all fU=ζ
 | [],_,_,h,e=>by cases h;cases e;exact ⟨rfl,rfl⟩
 | d::ds,_,_,⟨v,vs,h0,h1,h2⟩,e=>by
  subst h0;unfold lK at e;cases q:eT d with
  | none=>grind
  | some x =>
   rw [q] at e;cases q2:lK ds with
   | none=>grind
   | some xs =>
    rw [q2] at e;cases e;let ⟨h3,h4⟩:=lH h2 q2
    refine ⟨by rw [ff h1 q,h3],?_⟩;rw [ZX,h4];cases d <;> cases q <;> rfl
theorem rh (e:eT d=θ x):fU x=ζ:=by cases d <;> cases e <;> rfl
def Nz (j i:Str):Bool:=!(abm j i 0 j.length 1).isEmpty
def xm (K:aT) (neg:Bool):R2:=fun x y H Q=>match x,y with
 | .str i,.str j=>Q (.bl (if neg=ζ then !Nz j i else Nz j i)) H
 | x,.ref p=>∃ xs,(eV K H p xs\/gU K H p xs)/\fU x=ζ/\xs.all fU=ζ/\Q (.bl (if neg=ζ then !Hl x xs else Hl x xs)) H
 | _,_=>False
theorem QH (K:aT) (g:X.K=K:=by rfl):dh X (YX .In) (xm K η):=by
 subst g;refine (CG.or Db).imp fun x y H Q q=>?_;unfold xm at q;split at q
 .exact .inl ⟨_,_,rfl,rfl,q⟩
 .let ⟨xs,h1,h2,h3,h4⟩:=q
  exact .inr ⟨_,xs,rfl,h1,h2,h3,h4⟩
 .exact q.elim
theorem An (K:aT) (u:X.K=K:=by rfl):dh X (YX .NotIn) (xm K ζ):=by
 subst u;refine (vt.or vq).imp fun x y H Q q=>?_;unfold xm at q;split at q
 .exact .inl ⟨_,_,rfl,rfl,q⟩
 .obtain ⟨xs,h1,h2,r,g⟩:=q;exact .inr ⟨_,xs,rfl,h1,h2,r,g⟩
 .exact q.elim
def AC (x:D) (xs:ad8):Option Bool:=match eT x,lK xs with
 | some v,θ vs=>θ (Hl v vs)
 | _,_=>ξ
def Xw (x y:D):Option Bool:=match y with
 | .str j=>match x with
  | .str i=>θ (Nz j i)
  | _=>ξ
 | .lst xs=>AC x xs
 | .tup xs=>AC x xs
 | _=>ξ
def L5 (x y:D):R D:=dD (Xw x y) fun k=>if η=ζ then !k else k
def nQ (x y:D):R D:=dD (Xw x y) fun k=>if ζ=ζ then !k else k
theorem S7 (K:aT) (neg:Bool) (hW:W.K=K:=by rfl):n6 W (xm K neg) (fun a b=>dD (Xw a b) fun k=>if neg=ζ then !k else k):=by
 subst hW;intro as H x y a b Q hn r g h;have key:∀ (p:YS) (ds:ad8) (vs:ad7),y=.ref p->(eV W.K H p vs\/gU W.K H p vs)->aH W.K (mask as H) ds vs->cD W as H (dD (AC a ds) fun k=>if neg=ζ then !k else k) Q->xm W.K neg x y H Q:=by
  intro p ds vs hy hq u h;subst hy;unfold AC at h;cases e1:eT a with
  | none=>rw [e1] at h;exact h.elim
  | some v =>
   rw [e1] at h;cases e2:lK ds with
   | none=>rw [e2] at h;exact h.elim
   | some ws =>
    rw [e2] at h
    have:=ff r e1
    subst this;let ⟨h3,h4⟩:=lH u e2
    subst h3;have fin:∃ xs,(eV W.K H p xs\/gU W.K H p xs)/\fU x=ζ/\xs.all fU=ζ/\Q (.bl (if neg=ζ then !Hl x xs else Hl x xs)) H:=⟨vs,hq,rh e1,h4,aK h rfl⟩;cases x <;> exact fin
 cases b with
 | str j =>
  cases a with
  | str i=>cases r;cases g;exact aK h rfl
  | _=>exact h.elim
 | lst ds=>obtain ⟨p,vs,rfl,q1,q2⟩:=g;exact key p ds vs rfl (.inl ((ar _ _).seq q1)) q2 h
 | tup ds=>obtain ⟨p,vs,rfl,q1,q2⟩:=g;exact key p ds vs rfl (.inr ((ar _ _).seqT q1)) q2 h
 | _=>exact h.elim
theorem XU (K:aT) (hW:W.K=K:=by rfl):n6 W (xm K η) L5:=S7 K η hW
theorem GM (K:aT) (hW:W.K=K:=by rfl):n6 W (xm K ζ) nQ:=S7 K ζ hW
def aV (a b:D):R D:=match a,b with
 | .str z,.int i=>if z.length<=1000000 then (match atI z.cps.toList i with
  | some c=>.ok (.str ⟨#[c]⟩)
  | none=>.no) else .no
 | .lst xs,.int i=>match atI xs i with
  | some d=>.ok d
  | none=>.no
 | .tup xs,.int i=>match atI xs i with
  | some d=>.ok d
  | none=>.no
 | _,_=>.no
theorem aH.atI {K:aT} (h:aH K H ds xs) (e:atI ds i=θ d):∃ v,L2.atI xs i=θ v/\cr K H d v:=by
 unfold L2.atI at e ⊢;rw [h.len] at e;cases q:Ka xs.length i with
 | none=>grind
 | some j =>
  rw [q] at e;exact h.get e
theorem F3 (K:aT) (hW:W.K=K:=by rfl):n6 W (R5 K) aV:=by
 subst hW;intro as H x y a b Q hn g r h;unfold aV at h;split at h
 .cases g;cases r;split at h
  .rename_i hl;split at h
   .rename_i c e;exact ⟨c,Le hl cj,e,aK h rfl⟩
   .exact h.elim
  .exact h.elim
 .obtain ⟨p,vs,rfl,q1,q2⟩:=g;cases r;split at h
  .rename_i d e;let ⟨v,h1,h2⟩:=q2.atI e
   exact ⟨vs,v,.inl ((ar _ _).seq q1),h1,aK h h2⟩
  .exact h.elim
 .obtain ⟨p,vs,rfl,q1,q2⟩:=g;cases r;split at h
  .rename_i d e;let ⟨v,h1,h2⟩:=q2.atI e
   exact ⟨vs,v,.inr ((ar _ _).seqT q1),h1,aK h h2⟩
  .exact h.elim
 .exact h.elim
def gT (xs:ad8) (lo g:Option Int):ad8:=(xs.drop (HT.sIx xs.length 0 lo)).take (HT.sIx xs.length xs.length g - HT.sIx xs.length 0 lo)
theorem aH.cut {K:aT} (h:aH K H ds xs) (lo g:Option Int):aH K H (gT ds lo g) (xW xs lo g):=by
 unfold gT xW;rw [h.len];exact (h.drop _).take _
def jH (a:D) (lo g:Option Int):R D:=match a with
 | .str z=>if z.length<=1000000 then .ok (.str (mF z lo g)) else .no
 | .lst xs=>.ok (.lst (gT xs lo g))
 | .tup xs=>if HT.sIx xs.length 0 lo=0/\HT.sIx xs.length xs.length g=xs.length then .no else .ok (.tup (gT xs lo g))
 | _=>.no
theorem V7 (K:aT) (hW:W.K=K:=by rfl):Ve W (Uv K) jH:=by
 subst hW;intro as H x lo u a Q hn r h;unfold jH at h;split at h
 .cases r;split at h
  .rename_i hl;exact ⟨Le hl cj,aK h rfl⟩
  .exact h.elim
 .obtain ⟨p,vs,rfl,q1,q2⟩:=r;refine .inl ⟨vs,(ar _ _).seq q1,fun p g=>h _ _ (aI g _) ⟨p,_,rfl,.inl (.inl (by rw [aD (hn p g)];exact aE)),(q2.cut lo u).mono (aG (aI g _))⟩⟩
 .obtain ⟨p,vs,rfl,q1,q2⟩:=r;split at h
  .exact h.elim
  .rename_i hc;rw [q2.len] at hc;exact .inr ⟨vs,(ar _ _).seqT q1,hc,fun p g=>h _ _ (aI g _) ⟨p,_,rfl,.inl (.inl (by rw [aD (hn p g)];exact aE)),(q2.cut lo u).mono (aG (aI g _))⟩⟩
 .exact h.elim
noncomputable def ce (ds:ad8):R D:=match ds with
 | [.str z]=>if z.length<=1000000 then .ok (.int z.length) else .no
 | [.lst xs]=>.ok (.int xs.length)
 | [.tup xs]=>.ok (.int xs.length)
 | _=>.no
theorem dZ {K:aT} (h:aH K H [d] xs):∃ v,xs=[v]/\cr K H d v:=by
 obtain ⟨v,vs,rfl,h1,h2⟩:=h;cases h2;exact ⟨v,rfl,h1⟩
theorem My {K:aT} (h:aH K H [d,e] xs):∃ v u,xs=[v,u]/\cr K H d v/\cr K H e u:=by
 obtain ⟨v,vs,rfl,h1,h2⟩:=h;obtain ⟨u,rfl,g⟩:=dZ h2;exact ⟨v,u,rfl,h1,g⟩
theorem V9 (K:aT) (hW:W.K=K:=by rfl):oV W (MC K) ce:=by
 subst hW;intro as H xs ds Q hn r h;unfold ce at h;split at h
 .obtain ⟨v,rfl,g⟩:=dZ r;cases g;split at h
  .rename_i hl;exact ⟨Le hl cj,aK h rfl⟩
  .exact h.elim
 .obtain ⟨v,rfl,g⟩:=dZ r;obtain ⟨p,vs,rfl,q1,q2⟩:=g;refine ⟨vs,.inl ((ar _ _).seq q1),?_⟩;rw [<- q2.len];exact aK h rfl
 .obtain ⟨v,rfl,g⟩:=dZ r;obtain ⟨p,vs,rfl,q1,q2⟩:=g;refine ⟨vs,.inr ((ar _ _).seqT q1),?_⟩;rw [<- q2.len];exact aK h rfl
 .exact h.elim
def Oc (ds:ad8):R D:=match ds with
 | [.int i]=>.ok (.int (if i < 0 then -i else i))
 | _=>.no
def Ey (ds:ad8):R D:=match ds with
 | [.int i]=>.ok (.int i)
 | [.bl k]=>.ok (.int (if k=ζ then 1 else 0))
 | _=>.no
noncomputable def xT:ad8->Option (List Bool)
 | []=>θ []
 | .bl b::ds=>(xT ds).map (b::·)
 | _=>ξ
theorem xO {K:aT}:∀ {ds:ad8} {vs:ad7} {bs:List Bool},aH K H ds vs->xT ds=θ bs->vs=bs.map V.bl
 | [],_,_,h,e=>by cases h;cases e;rfl
 | d::ds,_,_,⟨v,vs,h0,h1,h2⟩,e=>by
  subst h0;cases d with
  | bl b =>
   have e:(xT ds).map (b::·)=θ _:=e;cases q2:xT ds with
   | none=>simp_all
   | some xs =>
    rw [q2] at e;cases e;cases h1;rw [xO h2 q2];rfl
  | _=>cases e
def pq (ds:ad8):R D:=match ds with
 | [.lst xs]=>match xT xs with
  | some bs=>.ok (.bl (bs.all id))
  | none=>.no
 | _=>.no
theorem Wc (K:aT) (hW:W.K=K:=by rfl):oV W (MT K) pq:=by
 subst hW;intro as H xs ds Q hn r h;unfold pq at h;split at h
 .obtain ⟨v,rfl,g⟩:=dZ r;obtain ⟨p,vs,rfl,q1,q2⟩:=g;split at h
  .rename_i bs e;refine ⟨bs,?_,aK h rfl⟩;rw [<- xO q2 e];exact (ar _ _).seq q1
  .exact h.elim
 .exact h.elim
def Gy (K:aT) (xs:ad7) (H:Hp) (Q:VK):Prop:=match xs with
 | [x,.ty C]=>oh C=ζ/\(match x with
  | .non=>Q (.bl (jV "NoneType" C)) H
  | .bl _=>Q (.bl (jV "bool" C)) H
  | .int _=>Q (.bl (jV "int" C)) H
  | .str _=>Q (.bl (jV "str" C)) H
  | .ref a=>(∃ xs,eV K H a xs/\Q (.bl (jV "list" C)) H)\/(∃ xs,gU K H a xs/\Q (.bl (jV "tuple" C)) H)\/(∃ g,H a=θ (.dK g)/\Q (.bl (jV "dict" C)) H)\/∃ o g,H a=θ (.frz o (.dK g))/\Q (.bl (jV "dict" C)) H
  | _=>False)
 | _=>False
theorem Ta (K:aT) (hK:X.K=K:=by rfl):bD X (.builtin "isinstance") (Gy K):=by
 subst hK;intro Y s σ H xs us Q I r h;unfold Gy at h;split at h
 .rename_i x C;obtain ⟨g,h⟩:=h;obtain ⟨u,c,rfl,v,rc⟩:=La r;cases rc;have fin:∀ (b:Bool),Q (.bl b) H->∀ tk,X.tn<=tk->EP X Y σ Q (.bool b) { s with toks:=tk }:=fun b q tk htk=>⟨.bl b,H,I.tok tk,rfl,q⟩;refine aP I.tk ?_;cases x with
  | non=>exact iT I v .non (hU (.inl rfl) g) (fin _ h)
  | bl b=>exact iT I v (.bl b) (hU (.inr (.inl rfl)) g) (fin _ h)
  | int b=>exact iT I v (.int b) (hU (.inr (.inr (.inl rfl))) g) (fin _ h)
  | str b=>exact iT I v (.str b) (hU (.inr (.inr (.inr (.inl rfl)))) g) (fin _ h)
  | ref a =>
   cases v;rcases h with ⟨xs,hq,q⟩|⟨xs,hq,q⟩|⟨M,hq,q⟩|⟨ob,M,hq,q⟩
   .obtain ⟨its,Z,pl,hz⟩:=I.list hq;obtain ⟨o,J,L,n,hd⟩:=pl.isList;exact Zj ace I.kIn ⟨o,J,L⟩ (hU (.inr (.inr (.inr (.inr (.inl rfl))))) g) (fun z=>nomatch z) (fin _ q)
   .let ⟨its,Z,pl,hz⟩:=I.tuple hq
    let ⟨o,J,L,n,hd⟩:=pl
    exact Zj adg I.kIn ⟨o,J,L⟩ (hU (.inr (.inr (.inr (.inr (.inr (.inl rfl)))))) g) (fun z=>nomatch z) (fin _ q)
   .exact iT (x:=.ref a) I rfl (.dK hq) (hU (.inr (.inr (.inr (.inr (.inr (.inr rfl)))))) g) (fin _ q)
   .let ⟨_,_,_,vs,_,o,es,ep,h1,h2,_⟩:=((I.hok a _ hq))
    exact Zj acf I.kIn ⟨o,h1,h2.1⟩ (hU (.inr (.inr (.inr (.inr (.inr (.inr rfl)))))) g) (fun z=>nomatch z) (fin _ q)
  | _=>exact h.elim
 .exact h.elim
def lO (ds:ad8):R D:=match ds with
 | [x,.ty C]=>if oh C=ζ then (match x with
  | .non=>.ok (.bl (jV "NoneType" C))
  | .bl _=>.ok (.bl (jV "bool" C))
  | .int _=>.ok (.bl (jV "int" C))
  | .str _=>.ok (.bl (jV "str" C))
  | .lst _=>.ok (.bl (jV "list" C))
  | .tup _=>.ok (.bl (jV "tuple" C))
  | .dct _=>.ok (.bl (jV "dict" C))
  | .dcf _=>.ok (.bl (jV "dict" C))
  | _=>.no) else .no
 | _=>.no
theorem VD (K:aT) (hW:W.K=K:=by rfl):oV W (Gy K) lO:=by
 subst hW;intro as H xs ds Q hn z h;unfold lO at h;split at h
 .obtain ⟨v,u,rfl,g,r⟩:=My z;cases r;split at h
  .rename_i hC;split at h
   .cases g;exact ⟨hC,aK h rfl⟩
   .cases g;exact ⟨hC,aK h rfl⟩
   .cases g;exact ⟨hC,aK h rfl⟩
   .cases g;exact ⟨hC,aK h rfl⟩
   .obtain ⟨p,vs,rfl,q1,q2⟩:=g;exact ⟨hC,.inl ⟨vs,(ar _ _).seq q1,aK h rfl⟩⟩
   .obtain ⟨p,vs,rfl,q1,q2⟩:=g;exact ⟨hC,.inr (.inl ⟨vs,(ar _ _).seqT q1,aK h rfl⟩)⟩
   .obtain ⟨p,vs,rfl,q1,q2⟩:=g;exact ⟨hC,.inr (.inr (.inl ⟨vs,ar _ _ _ _ q1,aK h rfl⟩))⟩
   .obtain ⟨p,o,vs,rfl,q1,q2⟩:=g;exact ⟨hC,.inr (.inr (.inr ⟨o,vs,ar _ _ _ _ q1,aK h rfl⟩))⟩
   .exact h.elim
  .exact h.elim
 .exact h.elim
def vO (K:aT) (xs:ad7) (H:Hp) (Q:VK):Prop:=match xs with
 | [.ref p]=>(∃ ys,eV K H p ys/\∀ l,H l=ξ->Q (.ref l) (upd H l (.tup ys)))\/∃ ys,gU K H p ys/\Q (.ref p) H
 | _=>False
theorem G3 (K:aT) (g:X.K=K:=by rfl):bD X (.type "tuple") (vO K):=by
 subst g;refine sn.imp fun xs H Q q=>?_;unfold vO at q;split at q
 .rcases q with ⟨ys,h1,h2⟩|⟨ys,h1,h2⟩
  .exact ⟨_,ys,rfl,.inl ⟨h1,h2⟩⟩
  .exact ⟨_,ys,rfl,.inr ⟨h1,h2⟩⟩
 .exact q.elim
def gQ (ds:ad8):R D:=match ds with
 | [.lst xs]=>.ok (.tup xs)
 | [.tup xs]=>.ok (.tup xs)
 | _=>.no
theorem Oa {as:ad5} {H:Hp} (hn:∀ a∈as,H a≠ξ):∀ p,H p=ξ->p∉as:=fun p g z=>hn p z g
theorem WP (K:aT) (hW:W.K=K:=by rfl):oV W (vO K) gQ:=by
 subst hW;intro as H xs ds Q hn u h;unfold gQ at h;split at h
 .obtain ⟨v,rfl,g⟩:=dZ u;obtain ⟨p,vs,rfl,q1,q2⟩:=g;exact .inl ⟨vs,(ar _ _).seq q1,fun l r=>h _ _ (aI r _) ⟨l,vs,rfl,.inl (.inl (by rw [aD (Oa hn l r)];exact aE)),q2.mono (aG (aI r _))⟩⟩
 .obtain ⟨v,rfl,g⟩:=dZ u;obtain ⟨p,vs,rfl,q1,q2⟩:=g;exact .inr ⟨vs,(ar _ _).seqT q1,aK h ⟨p,vs,rfl,q1,q2⟩⟩
 .exact h.elim
def zL (K:aT) (xs:ad7) (H:Hp) (Q:VK):Prop:=match xs with
 | [.ref p]=>∃ ys,(eV K H p ys\/gU K H p ys)/\∀ l,H l=ξ->Q (.ref l) (upd H l (.lst ys))
 | _=>False
theorem N3 (K:aT) (g:X.K=K:=by rfl):bD X (.type "list") (zL K):=by
 refine vN.imp fun xs H Q q=>?_;unfold zL at q;split at q
 .simp_all
 .exact q.elim
def zf (ds:ad8):R D:=match ds with
 | [.lst xs]=>.ok (.lst xs)
 | [.tup xs]=>.ok (.lst xs)
 | _=>.no
theorem VQ (K:aT) (hW:W.K=K:=by rfl):AG W (zL K) zf:=by
 subst hW;intro as H xs ds Q hn u h;unfold zf at h;split at h
 .obtain ⟨v,rfl,r⟩:=dZ u;obtain ⟨p,vs,rfl,q1,q2⟩:=r;exact ⟨vs,.inl ((ar _ _).seq q1),fun l g=>h l _ _ (aI g _) g aE ⟨vs,rfl,q2.mono (f8 g (aI g _))⟩⟩
 .obtain ⟨v,rfl,r⟩:=dZ u;obtain ⟨p,vs,rfl,q1,q2⟩:=r;exact ⟨vs,.inr ((ar _ _).seqT q1),fun l g=>h l _ _ (aI g _) g aE ⟨vs,rfl,q2.mono (f8 g (aI g _))⟩⟩
 .exact h.elim
theorem IL:JE X (.Dict [] [] pos) (tN W O (vC (.dct []))):=uN.imp fun σ H Q ⟨as0,B,own,U,I,h⟩ p hp=>h p _ _ (aI hp _) hp aE ⟨[],rfl,rfl⟩
noncomputable def mZ:ad8->Option (ad1)
 | []=>θ []
 | .str b::ds=>(mZ ds).map (b::·)
 | _=>ξ
theorem nD {K:aT}:∀ {ds:ad8} {vs:ad7} {bs:ad1},aH K H ds vs->mZ ds=θ bs->vs=bs.map V.str
 | [],_,_,h,e=>by cases h;cases e;rfl
 | d::ds,_,_,⟨v,vs,h0,h1,h2⟩,e=>by
  subst h0;cases d with
  | str b =>
   have e:(mZ ds).map (b::·)=θ _:=e;cases q2:mZ ds with
   | none=>simp_all
   | some xs =>
    rw [q2] at e;cases e;cases h1;rw [nD h2 q2];rfl
  | _=>cases e
def mf (z:Str) (ds:ad8):R D:=match ds with
 | [.lst xs]=>match mZ xs with
  | some ys=>if (ys.map (·.length)).sum+ys.length*z.length<=1000000 then .ok (.str (acS z ys)) else .no
  | none=>.no
 | _=>.no
theorem TB (K:aT) (hW:W.K=K:=by rfl):Wo W (D7 K) mf:=by
 subst hW;intro as H z xs ds Q hn r h;unfold mf at h;split at h
 .obtain ⟨v,rfl,g⟩:=dZ r;obtain ⟨p,vs,rfl,q1,q2⟩:=g;split at h
  .rename_i ys e;split at h
   .rename_i hl;refine ⟨ys,?_,Le hl (by decide),aK h rfl⟩;rw [<- nD q2 e];exact (ar _ _).seq q1
   .exact h.elim
  .exact h.elim
 .exact h.elim
end
section
variable {apos cpos:Pos} {id:String}
theorem MI (L:PlainAttrs T) (z:Slot T name id) (C:typeOf (.builtin id)=pure (.type "method_descriptor")) (hm:Qq X id r) (I:JE X o to) (J:JA X (e::es) t)
  (g:Y4 o name X.env (eval o X.env)=eval o X.env:=by rfl) (u:(apos.endLine==cpos.line)=ζ:=by rfl) (h1:(e::es).all aM=ζ:=by rfl) (M:(e::es).length < 29:=by decide) :
  JE X (.Call (.Attribute o name apos) (e::es) [] cpos) (Ws X.K T r to t):=by
 have v:=h1;rw [ZX,YR] at v;exact ⟨Qr L z C hm I.out J.out g (wl h1 M) u (bw v.1) (dq v.2)⟩
theorem Su (I:PlainAttrs T) (v:Slot T name id) (z:typeOf (.builtin id)=pure (.type "method_descriptor")) (hm:Qq X id r) (C:JE X o to)
  (g:Y4 o name X.env (eval o X.env)=eval o X.env:=by rfl) (u:(apos.endLine==cpos.line)=ζ:=by rfl) :
  JE X (.Call (.Attribute o name apos) [] [] cpos) (TC X.K T r to):=⟨O5 I v z hm C.out g u⟩
end
theorem AF:∀ {O:ad0} {own:ad5} {i:Nat} {a b:YS},O.Nodup->(i,a)∈O.zip own->(i,b)∈O.zip own->a=b
 | [],_,_,_,_,_,h,_=>by simp at h
 | _::_,[],_,_,_,_,h,_=>by simp at h
 | k::O,c::own,i,a,b,nd,h1,h2=>by
  rw [YW] at nd;rcases mK.mp h1 with e1|h1 <;> rcases mK.mp h2 with e2|h2
  .grind
  .cases e1;exact absurd (Za h2).1 nd.1
  .cases e2;exact absurd (Za h1).1 nd.1
  .exact AF nd.2 h1 h2
theorem jM (h:a∈as):mask as (upd H a o)=mask as H:=by
 funext b
 unfold mask;split
 .rfl
 .rename_i hb;exact aA fun z=>hb (by rw [z];exact h)
theorem DI.mutate {K:aT} (I:DI K as0 B O own σ U H) (v:(i,a)∈O.zip own) (h:ja K (mask (own++as0) H) o' d') :
  DI K as0 B O own σ (U.set i (θ d')) (upd H a o'):=by
 have hm:a∈own++as0:=YY _ (Za v).2;obtain ⟨Y,L,h1,h2,J,M⟩:=I.owns i a v;have hil  := (K2.mp h1).1;refine ⟨by simp [I.len],I.olen,I.nd,I.ond,I.fresh,I.ex0,fun b u e=>?_,fun j e r q=>?_,fun j b r=>?_⟩
 .have hb:b≠a:=fun z=>by
   have:=I.fresh a (Za v).2
   rw [z,this] at e;cases e
  rw [aA hb];exact I.same b u e
 .have g:i≠j:=fun z=>r (by rw [<- z];exact (Za v).1);rw [getElem?_set',adV g] at q;rw [jM hm];exact I.var j e r q
 .rw [jM hm];by_cases g:i=j
  .subst g
   have:=AF I.ond v r
   subst this;exact ⟨d',o',by simp_all,h2,aE,h⟩
  .let ⟨d,u,q1,q2,q3,q4⟩:=I.owns j b r
   have C:b≠a:=fun z=>g (by rw [z] at r;exact zip_inj I.nd v r);exact ⟨d,u,by simp_all,q2,by rw [aA C];exact q3,q4⟩
section
variable {X:Cx} {W:Wd} {Ob O O':ad0} {e:Zq} {ε ψ:FE} {pos p1 p2 apos cpos:Pos} {x:Str}
theorem Ub (K:aT) (hi:i∈O) (hb:JE X e (tD W O ψ)) (hN:X.N[i]?=θ x:=by rfl) (hs:pM e:=by exact fun _ _=>rfl) (hv:sd X.env.scope x:=by walk_at"v") (hd:ad9 x:=by decide)
  (z:(x==("__classdict__":Str))=η:=by decide) (Z:X.K=K:=by rfl) (hW:W.K=K:=by rfl):JE X (.Subscript (.Name x p1) e pos) (tD W O (ao aV (ae i) ψ)) :=
 (Q7 (DF K Z) (jv i hN hv hd z) hb hs).imp fun σ H Q M=>cJ M fun as0 B own U I h=>by
  let ⟨a,ha⟩:=cw I.olen hi
  let ⟨d,o,h1,h2,h3,h4⟩:=I.owns i a ha
  have L:Ip (R5 K) (lC i) (tD W O ψ) σ H Q=oZ σ[i]? H (UC (R5 K) (tD W O ψ) σ Q):=rfl;rw [L,h2];have hv:ae i U=.ok d:=by unfold ae;rw [h1]
  have h':cD W (own++as0) H ((ψ U).bind fun y=>aV d y) Q:=by
   have e:ao aV (ae i) ψ U=(ψ U).bind fun y=>aV d y:=by unfold ao;rw [hv];rfl
   rw [<- e];exact h
  refine ⟨as0,B,own,U,I,a7 h' fun y u Y C J r=>?_⟩;cases d with
  | lst ds =>
   obtain ⟨xs,rfl,q⟩:=h4;cases y with
   | int k =>
    cases J;have g:cD W (own++as0) Y (match atI ds k with|some d=>.ok d|none=>.no) Q:=r
    cases q3:atI ds k with
    | none=>rw [q3] at g;exact g.elim
    | some d' =>
     rw [q3] at g;let ⟨v,e1,e2⟩:=q.atI q3
     exact ⟨xs,v,.inl (eV.of (C _ _ h3)),e1,aK g (e2.mono (aG C))⟩
   | _=>exact r.elim
  | _=>first|exact h4.elim|(cases y <;> exact r.elim)
theorem Pa (K:aT) (J:i∈O) (hm:X.mg "len"=ξ) (z:X.N[i]?=θ x:=by rfl) (hg:Gl X "len":=by rfl) (hv:sd X.env.scope x:=by walk_at"v") (C:ad9 x:=by decide)
  (g:(x==("__classdict__":Str))=η:=by decide) (u:X.K=K:=by rfl) (hW:W.K=K:=by rfl):JE X (.Call (.Name "len" p2) [.Name x p1] [] pos) (tD W O (ai ce (aa (ae i) aj))) :=
 (vh (Tt K u) hm yd (m5 (jv i z hv C g) qr) hg).imp fun σ H Q r=>cJ r fun as0 B own U I h=>by
  let ⟨a,ha⟩:=cw I.olen J
  let ⟨d,o,h1,h2,h3,h4⟩:=I.owns i a ha
  show oZ σ[i]? H _;rw [h2];have hv:ae i U=.ok d:=by unfold ae;rw [h1]
  have h':cD W (own++as0) H (ce [d]) Q:=by
   have e:ai ce (aa (ae i) aj) U=ce [d]:=by unfold ai aa aj;rw [hv];rfl
   rw [<- e];exact h
  cases d with
  | lst ds =>
   obtain ⟨xs,rfl,q⟩:=h4;refine ⟨xs,.inl (eV.of h3),?_⟩;rw [<- q.len];exact aK h' rfl
  | _=>first|exact h4.elim|exact h'.elim
def bK (i:Nat) (ε:FE):FS:=fun U=>match U[i]? with
 | some (θ (.lst xs))=>(ε U).bind fun d=>if xs.length < 1000000 then .ok (.nx (U.set i (θ (.lst (xs++[d]))))) else .no
 | _=>.no
theorem Dg (hi:i∈O) (M:JE X e (tD W O ε)) (Z:X.N[i]?=θ x:=by rfl) (hn:aM e=ζ:=by rfl) (g:(apos.endLine==cpos.line)=ζ:=by rfl) (hv:sd X.env.scope x:=by walk_at"v") (hd:ad9 x:=by decide)
  (z:(x==("__classdict__":Str))=η:=by decide) (r:Y4 (.Name x p1) "append" X.env (eval (.Name x p1) X.env)=eval (.Name x p1) X.env:=by rfl)
  (hs:Z2 (.Call (.Attribute (.Name x p1) "append" apos) [e] [] cpos) ξ pos.line X.env=pure η:=by rfl) (hW:W.K=X.K:=by rfl) :
  JS X (.Expr (.Call (.Attribute (.Name x p1) "append" apos) [e] [] cpos) pos) (sD W Ob O O (bK i ε)) :=
 (mN (MI abp PySem.F.slot_list_append PySem.F.type_list_append sL (jv i Z hv hd z) (m5 M qr hn) r g (by simp_all) (by grind)) hs).imp fun D σ H Y=>cJ Y fun as0 B own U I h=>by
  let ⟨a,ha⟩:=cw I.olen hi
  let ⟨d,o,h1,h2,h3,h4⟩:=I.owns i a ha
  have L:tP (Ws X.K "list" uG (lC i) (tL (tD W O ε) Fh)) D σ H=oZ σ[i]? H (fun x H1=>Qc X.K "list" x H1/\tL (tD W O ε) Fh σ H1 fun vs C=>uG x vs C (fun _ H3=>D.nx σ H3)):=rfl;rw [L,h2];unfold bK at h;rw [h1] at h;cases d with
  | lst ds =>
   obtain ⟨xs,rfl,q⟩:=h4;refine ⟨.inl ⟨rfl,xs,eV.of h3⟩,as0,B,own,U,I,b4 I h fun y v C u J hq=>?_⟩;split at hq
   .refine ⟨a,xs,v,rfl,rfl,u _ _ h3,?_,?_⟩
    .have:=cj;rw [<- q.len];lia
    .exact hq own σ _ ((I.mono u).mutate ha ⟨xs++[v],rfl,(q.mono (aG u)).append (aH.cons J aH.nil)⟩)
   .exact hq.elim
  | _=>exact h.elim
end
end L2
namespace L2
open PySem PySem.Builtin
section
theorem mD (g:s.heap.IsTupleIter it l i)
  (z:s.heap.IsTuple l items) (v:items[i]?=θ x)
  (hQ:∀ h',h'.IsTupleIter it l (i+1)->Zo it s.heap h'->Q x { s with heap:=h' }) :
  YH (YN prog w) A (ZG (.ref it)) Q E s:=by
 obtain ⟨o,u,C,r⟩:=id g;let ⟨ol,hol,_,nl,hdl⟩:=z
 refine bY (Zr g.typeIs F.slot_tuple_iterator_next
  (Zf F.slot_tuple_iterator_next g.typeIs F.entry_tuple_iterator_next ?_ (F.args_tuple_iterator_next_1 _)))
 show YH _ _ (field (.ref it) 0 >>= _) _ _ s;refine bY (ZR u r rfl ?_);refine bY (ZR u r rfl ?_);refine bY (wpAny_seqItems hol hdl ?_);simp only [YZ,v];refine bY (abF u r (by simp) (nE ⟨x,rfl,nE (hQ _ ?_ (aae ..))⟩));exact ⟨_,aaT _ u (abG (aam r _)),(ach ..).trans C,by
  rw [aam r];simp [abL]⟩
theorem nU (v:A.handled=ξ)
  (g:s.heap.IsTupleIter it l i) (z:s.heap.IsTuple l items) (u:items[i]?=ξ)
  (r:∀ h' e,adK it s.heap h'->(∃ o,h'.get? e=θ o/\o.cls=.type "StopIteration")->E (.ref e) { s with heap:=h' }) :
  YH (YN prog w) A (ZG (.ref it)) Q E s:=by
 let ⟨o,ho,hc,hd⟩:=id g
 let ⟨ol,hol,_,nl,hdl⟩:=z
 refine bY (Zr g.typeIs F.slot_tuple_iterator_next
  (Zf F.slot_tuple_iterator_next g.typeIs F.entry_tuple_iterator_next ?_ (F.args_tuple_iterator_next_1 _)))
 show YH _ _ (field (.ref it) 0 >>= _) _ _ s;refine bY (ZR ho hd rfl ?_);refine bY (ZR ho hd rfl ?_);refine bY (wpAny_seqItems hol hdl ?_);simp only [YZ,u];refine bY (aco (bY (abF ho hd (by simp) ?_)));refine bY ?_;refine bY (Zz ?_ (by size_fits));refine bY (adb (by rfl) ?_);refine Zz ?_ (by size_fits);refine bY (wpAny_handled ?_)
 first|assumption|rw [v]
 refine bY (nE (wpAny_throw ?_));exact r _ _ (((aae ..).extBut.push _).push _) ⟨_,BY _ rfl,rfl⟩
end
theorem w9 (L:A.handled=ξ) (it l:YS) (C:l≠it) (g:Array rW) :
  Draws prog w A it [it,l] g.size (fun i v=>g[i]?=θ v) (fun i h=>h.IsTupleIter it l i/\h.IsTuple l g) where
 live:=fun _ _ st=>let ⟨o,ho,_⟩:=st.1;⟨o,ho⟩
 frame:=fun _ _ _ st J=>⟨(let ⟨o,e,r⟩:=st.1;⟨o,J it (by simp) o e,r⟩),by
  let ⟨o,e,r⟩:=st.2
  exact ⟨o,J l (by simp) o e,r⟩⟩
 item:=fun i s Q E I st hQ=>by
  refine mD st.1 st.2 (x:=g[i]) (by simp [I]) fun h' z u=>?_;refine hQ _ h' s.toks (by simp [I]) ⟨z,?_⟩ u;let ⟨o,e,r⟩:=st.2
  exact ⟨o,u.extBut l o C e,r⟩
 done:=fun s Q E st M=>nU L st.1 st.2 (by simp) M
structure ZA (z Xi Xo i1 i2:YS) (fp1 fp2:ad5):Prop where
 TIz:Xi≠z
 TOz:Xo≠z
 TITO:Xi≠Xo
 TIi1:Xi≠i1
 TIi2:Xi≠i2
 TOi1:Xo≠i1
 TOi2:Xo≠i2
 i1z:i1≠z
 i2z:i2≠z
 i12:i1≠i2
 z1:z∉fp1
 z2:z∉fp2
 TO1:Xo∉fp1
 TO2:Xo∉fp2
 i1f:i1∉fp2
 i2f:i2∉fp1
section
theorem bQ (D:Draws prog w A it fp n P Sr) (st:Sr k h) (g:Zo c h h') (r:c∉fp):Sr k h' :=
 D.frame _ _ _ st fun b hb o e=>g.extBut b o (fun q=>r (q ▸ hb)) e
theorem Dt {Q:ad3} (D1:Draws prog w A i1 fp1 n1 P1 St1) (D2:Draws prog w A i2 fp2 n2 P2 St2) (D:ZA z Xi Xo i1 i2 fp1 fp2)
  (hz:IsZip s.heap z Xi Xo .none) (hTI:IsPair s.heap Xi (.ref i1) (.ref i2)) (hTO:IsPair s.heap Xo a b) (h1:St1 k s.heap) (h2:St2 k s.heap) (l1:k < n1) (l2:k < n2)
  (hQ:∀ x y h' tk,P1 k x->P2 k y->IsZip h' z Xi Xo (abL s.heap.objs.size)->IsPair h' Xo x y->St1 (k+1) h'->St2 (k+1) h'->IsPair h' s.heap.objs.size x y->h'.objs.size=s.heap.objs.size+1 ->
   (∀ c o,c≠z->c≠Xo->c≠i1->c≠i2->s.heap.get? c=θ o->h'.get? c=θ o)->Q (.ref s.heap.objs.size) { s with heap:=h',toks:=tk }) :
  YH (YN prog w) A (Builtin.«zip.__next__» ⟨[.ref z],[]⟩) (fun fin s'=>∃ v,fin=.done (.ret v)/\Q v s') E s:=by
 let ⟨hp,g,d,tk0,os⟩:=s
 show YH _ _ (field (.ref z) 2 >>= _) _ _ _;refine bY (ZR hz rfl (x:=.bool η) rfl ?_);show YH _ _ (field (.ref z) 3 >>= _) _ _ _;refine bY (ZR hz rfl (x:=.ref Xi) rfl ?_);refine bY (wpAny_seqItems hTI rfl ?_);show YH _ _ (ZJ (.ref z) >>= _) _ _ _;refine bY ?_;unfold ZJ;refine bY (ZR hz rfl (x:=.none) rfl (nE ?_));simp only [if_true];refine bY (aco ?_);refine bY (ZR hz rfl (x:=.ref Xo) rfl ?_);refine bY (wpAny_setField_rec hz (by simp) fun h₁ hz₁ C=>?_)
 replace hz₁:IsZip h₁ z Xi Xo .ellipsis:=hz₁
 replace C:Zo z hp h₁:=C
 refine bY ?_;simp only [List.zipIdx_cons,List.zipIdx_nil,List.forIn_cons,List.forIn_nil];refine bY (bY (wpAny_onRaise ?_));show YH _ _ (ZG (.ref i1) >>= _) _ _ _;refine bY (D1.item k ⟨h₁,g,d,tk0,os⟩ _ _ l1 (bQ D1 h1 C D.z1) fun x h₂ tk2 px h1₂ u=>nE ?_)
 replace u:Zo i1 h₁ h₂:=u
 have hTO₂:IsPair h₂ Xo a b:=u.extBut _ _ D.TOi1 (C.extBut _ _ D.TOz hTO);show YH _ _ _ _ _ ⟨h₂,g,d,tk2,os⟩;refine bY (wpAny_seqItems hTO₂ rfl ?_);refine bY (wpAny_updateSeq_pair hTO₂ fun h₃ Z I=>?_)
 replace Z:IsPair h₃ Xo x b:=Z
 replace I:Zo Xo h₂ h₃:=I
 refine bY (wpAny_letGo (nE ?_));refine bY (bY (wpAny_onRaise ?_));show YH _ _ (ZG (.ref i2) >>= _) _ _ _;refine bY (D2.item k ⟨h₃,g,d,tk2,os⟩ _ _ l2 (bQ D2 (bQ D2 (bQ D2 h2 C D.z2) u D.i1f) I D.TO2) fun y h₄ tk4 py h2₄ r=>nE ?_)
 replace r:Zo i2 h₃ h₄:=r
 have hTO₄:IsPair h₄ Xo x b:=r.extBut _ _ D.TOi2 Z;show YH _ _ _ _ _ ⟨h₄,g,d,tk4,os⟩;refine bY (wpAny_seqItems hTO₄ rfl ?_);refine bY (wpAny_updateSeq_pair hTO₄ fun h₅ L J=>?_)
 replace L:IsPair h₅ Xo x y:=L
 replace J:Zo Xo h₄ h₅:=J
 refine bY (wpAny_letGo (nE (nE ?_)));refine bY (wpAny_seqItems L rfl ?_);refine bY (wpAny_newTuple ?_);have hsz:h₅.objs.size=hp.objs.size:=by rw [J.1,r.1,I.1,u.1,C.1]
 have hz₅:IsZip h₅ z Xi Xo .ellipsis:=J.extBut _ _ D.TOz.symm (r.extBut _ _ D.i2z.symm (I.extBut _ _ D.TOz.symm (u.extBut _ _ D.i1z.symm hz₁)));have hk₅:∀ c o,c≠z->c≠Xo->c≠i1->c≠i2->hp.get? c=θ o->h₅.get? c=θ o:=fun c o c1 c2 c3 c4 e =>
  J.extBut _ _ c2 (r.extBut _ _ c4 (I.extBut _ _ c2 (u.extBut _ _ c3 (C.extBut _ _ c1 e))))
 have h1₅:St1 (k+1) h₅:=bQ D1 (bQ D1 (bQ D1 h1₂ I D.TO1) r D.i2f) J D.TO1;have h2₅:St2 (k+1) h₅:=bQ D2 h2₄ J D.TO2;have hzlt:z < h₅.objs.size:=ID hz₅;show YH _ _ (aa8 (.ref z) (.ref h₅.objs.size) >>= _) _ _ _;refine bY ?_;unfold aa8;have hz₆:IsZip (h₅.push { cls:=.type "tuple",data:=.seq #[x,y] }) z Xi Xo .ellipsis:=eQ _ hz₅;refine bY (wpAny_setField_rec hz₆ (by simp) fun h₇ hz₇ M=>?_)
 replace hz₇:IsZip h₇ z Xi Xo (abL h₅.objs.size):=hz₇
 replace M:Zo z (h₅.push { cls:=.type "tuple",data:=.seq #[x,y] }) h₇:=M
 refine wpAny_setField_rec hz₇ (by simp) fun h₈ hz₈ Y=>?_
 replace hz₈:IsZip h₈ z Xi Xo (abL h₅.objs.size):=hz₈
 replace Y:Zo z h₇ h₈:=Y
 have up:∀ c o,c≠z->h₅.get? c=θ o->h₈.get? c=θ o:=fun c o c1 e=>Y.extBut _ _ c1 (M.extBut _ _ c1 (eQ _ e));have hT₈:IsPair h₈ h₅.objs.size x y:=Y.extBut _ _ (ab4 hzlt) (M.extBut _ _ (ab4 hzlt) (BY _ rfl));have hz8:h₈.objs.size=h₅.objs.size+1:=by rw [Y.1,M.1,ZE]
 rw [hsz] at hz₈ hT₈ hz8;refine nE ⟨_,rfl,?_⟩;show Q (.ref h₅.objs.size) ⟨h₈,g,d,tk4,os⟩;rw [hsz];exact hQ x y h₈ tk4 px py hz₈ (up _ _ D.TOz L) (D1.frame _ _ _ h1₅ fun b hb o e=>up b o (fun q=>D.z1 (q ▸ hb)) e) (D2.frame _ _ _ h2₅ fun b hb o e=>up b o (fun q=>D.z2 (q ▸ hb)) e) hT₈ hz8
  fun c o c1 c2 c3 c4 e=>up c o c1 (hk₅ c o c1 c2 c3 c4 e)
theorem Ig (D1:Draws prog w A i1 fp1 n1 P1 St1) (D2:Draws prog w A i2 fp2 n2 P2 St2) (D:ZA z Xi Xo i1 i2 fp1 fp2)
  (hz:IsZip s.heap z Xi Xo .none) (hTI:IsPair s.heap Xi (.ref i1) (.ref i2)) (hTO:IsPair s.heap Xo a b) (h1:St1 k s.heap) (h2:St2 k s.heap) (hend:k=n1\/(k < n1/\k=n2))
  (hE:∀ h' tk e,(∀ c o,c≠z->c≠Xo->c≠i1->c≠i2->s.heap.get? c=θ o->h'.get? c=θ o)->(∃ o,h'.get? e=θ o/\o.cls=.type "StopIteration")->E (.ref e) { s with heap:=h',toks:=tk }) :
  YH (YN prog w) A (Builtin.«zip.__next__» ⟨[.ref z],[]⟩) Q E s:=by
 let ⟨hp,g,d,tk0,os⟩:=s
 show YH _ _ (field (.ref z) 2 >>= _) _ _ _;refine bY (ZR hz rfl (x:=.bool η) rfl ?_);show YH _ _ (field (.ref z) 3 >>= _) _ _ _;refine bY (ZR hz rfl (x:=.ref Xi) rfl ?_);refine bY (wpAny_seqItems hTI rfl ?_);show YH _ _ (ZJ (.ref z) >>= _) _ _ _;refine bY ?_;unfold ZJ;refine bY (ZR hz rfl (x:=.none) rfl (nE ?_));simp only [if_true];refine bY (aco ?_);refine bY (ZR hz rfl (x:=.ref Xo) rfl ?_);refine bY (wpAny_setField_rec hz (by simp) fun h₁ C u=>?_)
 replace C:IsZip h₁ z Xi Xo .ellipsis:=C
 replace u:Zo z hp h₁:=u
 refine bY ?_;simp only [List.zipIdx_cons,List.zipIdx_nil,List.forIn_cons,List.forIn_nil];refine bY (bY (wpAny_onRaise ?_));show YH _ _ (ZG (.ref i1) >>= _) _ _ _;rcases hend with rfl|⟨l1,rfl⟩
 .refine bY (D1.done ⟨h₁,g,d,tk0,os⟩ _ _ (bQ D1 h1 u D.z1) fun h₂ e r he=>?_)
  replace r:adK i1 h₁ h₂:=r
  let ⟨oe,hoe,hce⟩:=he
  have Y:IsZip h₂ z Xi Xo .ellipsis:=r _ _ D.i1z.symm C;have Z:e≠z:=fun x=>by subst x;rw [Y] at hoe;cases hoe;simp at hce
  refine wpAny_setField_rec Y (by simp) fun h₃ _ v=>hE h₃ tk0 e (fun c o c1 _ c3 _ x=>v.extBut _ _ c1 (r _ _ c3 (u.extBut _ _ c1 x))) ⟨oe,v.extBut _ _ Z hoe,hce⟩
 .refine bY (D1.item k ⟨h₁,g,d,tk0,os⟩ _ _ l1 (bQ D1 h1 u D.z1) fun x h₂ tk2 px h1₂ r=>nE ?_)
  replace r:Zo i1 h₁ h₂:=r
  have J:IsPair h₂ Xo a b:=r.extBut _ _ D.TOi1 (u.extBut _ _ D.TOz hTO);show YH _ _ _ _ _ ⟨h₂,g,d,tk2,os⟩;refine bY (wpAny_seqItems J rfl ?_);refine bY (wpAny_updateSeq_pair J fun h₃ hTO₃ v=>?_)
  replace v:Zo Xo h₂ h₃:=v
  refine bY (wpAny_letGo (nE ?_));refine bY (bY (wpAny_onRaise ?_));show YH _ _ (ZG (.ref i2) >>= _) _ _ _;refine bY (D2.done ⟨h₃,g,d,tk2,os⟩ _ _ (bQ D2 (bQ D2 (bQ D2 h2 u D.z2) r D.i1f) v D.TO2) fun h₄ e I he=>?_)
  replace I:adK i2 h₃ h₄:=I
  let ⟨oe,hoe,hce⟩:=he
  have L:IsZip h₄ z Xi Xo .ellipsis:=I _ _ D.i2z.symm (v.extBut _ _ D.TOz.symm (r.extBut _ _ D.i1z.symm C));have Z:e≠z:=fun x=>by subst x;rw [L] at hoe;cases hoe;simp at hce
  refine wpAny_setField_rec L (by simp) fun h₅ _ M=>hE h₅ tk2 e (fun c o c1 c2 c3 c4 x=>M.extBut _ _ c1 (I _ _ c4 (v.extBut _ _ c2 (r.extBut _ _ c3 (u.extBut _ _ c1 x))))) ⟨oe,M.extBut _ _ Z hoe,hce⟩
end
theorem WalksT.zipD
  (M:Draws prog w A.in1 i1 fp1 n1 P1 St1) (L:Draws prog w A.in1 i2 fp2 n2 P2 St2) (D:ZA z Xi Xo i1 i2 fp1 fp2) (m1:i1∈fp1) (m2:i2∈fp2) :
  WalksT prog w A z (z::Xi::Xo::(fp1++fp2)) [z,Xo,i1,i2] (min n1 n2)
   (fun i J=>∃ x y,P1 i x/\P2 i y/\J=#[x,y])
   (fun i h=>IsZip h z Xi Xo .none/\IsPair h Xi (.ref i1) (.ref i2)/\(∃ a b,IsPair h Xo a b)/\St1 i h/\St2 i h)
   (fun i T h=>IsZip h z Xi Xo (abL T)/\IsPair h Xi (.ref i1) (.ref i2)/\(∃ a b,IsPair h Xo a b)/\St1 (i+1) h/\St2 (i+1) h/\T≠z/\T≠Xo/\T≠i1/\T≠i2) where
 sub:=fun c g=>by simp at g ⊢;rcases g with rfl|rfl|rfl|rfl <;> simp [m1,m2]
 frame:=fun i h h' r v=>by
  let ⟨hz,hTI,⟨a,b,hTO⟩,h1,h2⟩:=r
  exact ⟨v z (by simp) _ hz,v Xi (by simp) _ hTI,⟨a,b,v Xo (by simp) _ hTO⟩,M.frame _ _ _ h1 fun b hb o e=>v b (by simp [hb]) o e,L.frame _ _ _ h2 fun b hb o e=>v b (by simp [hb]) o e⟩
 item:=fun i s Q E hi r hQ=>by
  let ⟨hz,hTI,⟨a,b,hTO⟩,h1,h2⟩:=r
  have hix:i < n1:=YF hi (Nat.min_le_left ..);have hiy:i < n2:=YF hi (Nat.min_le_right ..);have C:s.TypeIs (.ref z) "zip":=⟨_,hz,rfl⟩;unfold pyNext;refine bY (abV (Zr (name:=DO "__next__") C F.slot_zip_next
   (Zf F.slot_zip_next C F.entry_zip_next (Dt M L D hz hTI hTO h1 h2 hix hiy fun x y h' Z px py a1 a2 a3 a4 a5 a6 v=>nE ?_) (F.args_zip_next_1 _))))
  have lt:∀ {c o},s.heap.get? c=θ o->s.heap.objs.size≠c:=fun e=>ab4 (ID e);exact hQ s.heap.objs.size #[x,y] h' Z ⟨_,_,px,py,rfl⟩ (oR _) ⟨_,a5,rfl,_,rfl⟩
   ⟨a1,v _ _ D.TIz D.TITO D.TIi1 D.TIi2 hTI,⟨_,_,a2⟩,a3,a4,lt hz,lt hTO,(by let ⟨_,e⟩:=M.live _ _ h1;exact lt e),(by let ⟨_,e⟩:=L.live _ _ h2;exact lt e)⟩
   fun c o g e=>v c o (fun x=>g (by simp [x])) (fun x=>g (by simp [x])) (fun x=>g (by simp [x])) (fun x=>g (by simp [x])) e
 go:=fun elts k pos i T s Q E hm hQ=>by
  let ⟨hz,hTI,⟨a,b,hTO⟩,h1,h2,_⟩:=hm
  refine wpAny_letOwnedTupleGo_zip hz fun h' Y u=>hQ h' ⟨Y,u.extBut _ _ D.TIz hTI,⟨a,b,u.extBut _ _ D.TOz hTO⟩,bQ M h1 u D.z1,bQ L h2 u D.z2⟩ fun c o g e=>u.extBut _ _ (fun x=>g (by simp [x])) e
 apart:=fun i T h hm C=>by
  simp_all
 done:=fun s Q E r hQ=>by
  let ⟨hz,hTI,⟨a,b,hTO⟩,h1,h2⟩:=r
  have I:min n1 n2=n1\/(min n1 n2 < n1/\min n1 n2=n2):=by lia
  have C:s.TypeIs (.ref z) "zip":=⟨_,hz,rfl⟩;refine bY (abV (Zr C F.slot_zip_next
   (Zf F.slot_zip_next C F.entry_zip_next (Ig M L D hz hTI hTO h1 h2 I fun h' Z e v he=>?_) (F.args_zip_next_1 _))))
  let ⟨o,ho,g⟩:=he
  refine bY (wpAny_isInstance ⟨o,ho,g⟩ isSubtype_stop ?_);exact nE (hQ h' Z fun c o g e=>v c o (fun x=>g (by simp [x])) (fun x=>g (by simp [x])) (fun x=>g (by simp [x])) (fun x=>g (by simp [x])) e)
 self:=fun i s Q E r hQ=>wpAny_pyIter_zip r.1 hQ
def qO (a:rW) (o:Obj) (h:abh):Prop:=∀ (prog:Z9) (w:Zv) (A:aaF) (s:IF) (Q:ad3) (E:ad3),(∀ b u,h.get? b=θ u->s.heap.get? b=θ u)->Q (.ref s.heap.objs.size) { s with heap:=s.heap.push o }->YH (YN prog w) A (adP a) Q E s
abbrev U0 (h:abh) (g r:Obj):abh:=((h.push g).push r).push { cls:=.type "tuple",data:=.seq #[.ref h.objs.size,.ref (h.push g).objs.size] }
abbrev U6 (h:abh) (g r:Obj):abh:=(U0 h g r).push { cls:=.type "tuple",data:=.seq #[.none,.none] }
noncomputable abbrev NK (h:abh) (g r:Obj):abh:=(U6 h g r).push { cls:=.type "zip",data:=.fields #[.none,.bool η,.bool η,.ref ((h.push g).push r).objs.size,.ref (U0 h g r).objs.size] }
theorem yH (a b:rW) (r z:Obj) :
  Meets (Builtin.«zip.__new__» ⟨[.type "zip",a,b],[]⟩) (fun _ R s=>qO a r s.heap/\qO b z s.heap/\R (.ok (.ret (.ref (U6 s.heap r z).objs.size))) { s with heap:=NK s.heap r z }) :=
 .of_wp fun prog w A R s h=>by
  obtain ⟨I,g,d,C,os⟩:=s;obtain ⟨u,v,h⟩:=h;have J:=sub_zip;have p1  := fun {A Q E} q=>u prog w A ⟨I,g,d,C,os⟩ Q E (fun _ _ e=>e) q;have p2  := fun {A Q E} q=>v prog w A ⟨I.push r,g,d,C,os⟩ Q E (fun _ _ e=>eQ _ e) q
  wp_walk using p1,p2
  exact ⟨_,rfl,h⟩
section
variable {s:IF}
theorem Cu (i1:qO a o1 s.heap) (i2:qO b o2 s.heap) (f1:o1.isFreed=η) (M:o2.isFreed=η)
  (h:∀ h',IsZip h' (s.heap.objs.size+4) (s.heap.objs.size+2) (s.heap.objs.size+3) .none->IsPair h' (s.heap.objs.size+2) (.ref s.heap.objs.size) (.ref (s.heap.objs.size+1)) ->
   IsPair h' (s.heap.objs.size+3) .none .none->h'.get? s.heap.objs.size=θ o1->h'.get? (s.heap.objs.size+1)=θ o2->h'.objs.size=s.heap.objs.size+5 ->
   (∀ c o,s.heap.get? c=θ o->h'.get? c=θ o)->Q (.ref (s.heap.objs.size+4)) { s with heap:=h' }) :
  YH (YN prog w) A (call (.type "zip") [a,b]) Q E s:=by
 refine callType_new F.called_zip (by decide) (F.typeCall_zip_2 _ _) (F.newCall_zip_2 _ _) (fun v=>F.args_object_init_3 v _ _) F.entry_zip_new
  (yH a b o1 o2) ⟨i1,i2,?_⟩
 have C:(s.heap.push o1).objs.size=s.heap.objs.size+1:=ZE ..;have r:((s.heap.push o1).push o2).objs.size=s.heap.objs.size+2:=by rw [ZE,C]
 have z:(U0 s.heap o1 o2).objs.size=s.heap.objs.size+3:=by rw [ZE,r]
 have u:(U6 s.heap o1 o2).objs.size=s.heap.objs.size+4:=by rw [ZE,z]
 have L:(NK s.heap o1 o2).objs.size=s.heap.objs.size+5:=by rw [ZE,u]
 have g:(NK s.heap o1 o2).get? (U6 s.heap o1 o2).objs.size=θ _:=BY _ rfl;have J:(NK s.heap o1 o2).get? (U0 s.heap o1 o2).objs.size=θ _:=eQ _ (BY _ rfl);have I:(NK s.heap o1 o2).get? ((s.heap.push o1).push o2).objs.size=θ _:=eQ _ (eQ _ (BY _ rfl));have g2:(NK s.heap o1 o2).get? (s.heap.push o1).objs.size=θ o2:=eQ _ (eQ _ (eQ _ (BY _ M)));have g1:(NK s.heap o1 o2).get? s.heap.objs.size=θ o1:=eQ _ (eQ _ (eQ _ (eQ _ (BY _ f1))));show _/\_;rw [r,z,u] at g;rw [C,r] at I;rw [z] at J;rw [C] at g2;rw [u];exact ⟨⟨_,g,rfl⟩,h _ g I J g1 g2 L fun c o x =>
  eQ _ (eQ _ (eQ _ (eQ _ (eQ _ x))))⟩
end
theorem xl (a:rW) (u:Obj) :
  Meets (Builtin.«enumerate.__new__» ⟨[.type "enumerate",a],[]⟩) (fun _ R s=>qO a u s.heap /\
   R (.ok (.ret (.ref (s.heap.push u).objs.size))) { s with heap:=(s.heap.push u).push { cls:=.type "enumerate",data:=.fields #[.none,.bool η,.ref s.heap.objs.size,abL 0,.none,.none] } }) :=
 .of_wp fun prog w A R s h=>by
  obtain ⟨C,g,d,z,os⟩:=s;obtain ⟨r,h⟩:=h;have v:=sub_enumerate;have p1  := fun {A Q E} q=>r prog w A ⟨C,g,d,z,os⟩ Q E (fun _ _ e=>e) q
  wp_walk
  refine wpAny_stack_any fun st=>nE ?_;split
  .rename_i c _ _ _ _ _;cases (c==acb "enumerate")
   .wp_walk using p1
    exact ⟨_,rfl,h⟩
   .wp_walk using p1
    exact ⟨_,rfl,h⟩
  .wp_walk using p1
   exact ⟨_,rfl,h⟩
section
variable {s:IF}
theorem ye (i1:qO a o1 s.heap) (f1:o1.isFreed=η)
  (h:∀ h',IsEnum h' (s.heap.objs.size+1) s.heap.objs.size 0 .none->h'.get? s.heap.objs.size=θ o1->h'.objs.size=s.heap.objs.size+2 ->
   (∀ b o,s.heap.get? b=θ o->h'.get? b=θ o)->Q (.ref (s.heap.objs.size+1)) { s with heap:=h' }) :
  YH (YN prog w) A (call (.type "enumerate") [a]) Q E s:=by
 refine callType_new F.called_enumerate (by decide) (F.typeCall_enumerate_1 _) (F.newCall_enumerate_1 _) (fun g=>F.args_object_init_2 g _) F.entry_enumerate_new
  (xl a o1) ⟨i1,?_⟩
 have hz:(s.heap.push o1).objs.size=s.heap.objs.size+1:=ZE ..;rw [hz];have he  := by
  have:=BY (s.heap.push o1)
   (o:={ cls:=.type "enumerate",data:=.fields #[.none,.bool η,.ref s.heap.objs.size,abL 0,.none,.none] }) rfl
  rw [hz] at this;exact this
 refine ⟨⟨_,he,rfl⟩,h _ he (eQ _ (BY _ f1)) (by simp_all) fun b o x=>eQ _ (eQ _ x)⟩
end
end L2
namespace L2
open PySem PySem.Spec PyProof.Rows
theorem AL {σ:St} (I:Inv X af σ H s) (h:H a≠ξ\/∃ o,X.K.lookup a=θ o):¬ eZ X af H a:=fun f=>by
 rcases h with h|⟨o,h⟩
 .exact h f.1
 .have e:=I.ok.mod.kin a o h;rcases f.2.2.2.1 with z|z
  .exact I.ok.noex a o e z
  .exact absurd (YF (ID e) (Le I.ok.bsz z)) (aaG _)
theorem AJ (h:Rd H a u):H a≠ξ:=by
 rcases h with h|⟨o,h⟩ <;> rw [h] <;> simp
theorem AX {K:aT} (h:eV K H a xs):H a≠ξ\/∃ o,K.lookup a=θ o:=by
 rcases h with h|⟨o,_,_,h,_⟩
 .exact .inl (AJ h)
 .simp_all
theorem Bw {K:aT} (h:gU K H a xs):H a≠ξ\/∃ o,K.lookup a=θ o:=by
 rcases h with h|⟨o,_,_,h,_⟩
 .exact .inl (AJ h)
 .simp_all
structure Src (K:aT) (B:Hp) (xs:ad7) (it:YS) (S:Nat->abh->Prop):Prop where
 obj:∀ i h,S i h->∃ o,h.get? it=θ o/\∀ v,o.data≠.cell v
 keep:∀ i h h',S i h->(∀ o,h.get? it=θ o->h'.get? it=θ o)->S i h'
 draw:∀ (X:Cx) (af:ad2) (s:IF) (σ:St) (H:Hp),Inv X af σ H s->X.K=K->aw B H->eZ X af H it->∀ A:aaF,A.handled=ξ->∀ i,S i s.heap ->
  ∃ fp Pv St,Draws X.prog X.w A it fp xs.length Pv St/\St i s.heap/\it∈fp/\(∀ b∈fp,b=it\/¬ eZ X af H b)/\(∀ j u,Pv j u->∃ x,xs[j]?=θ x/\aQ x u)/\∀ j h,St j h->S j h
theorem src_list {K:aT} (hq:eV K B a xs):Src K B xs it (fun i h=>h.IsListIter it a i) where
 obj:=fun i h ⟨o,e,c,d⟩=>⟨o,e,fun v z=>by grind⟩
 keep:=fun i h h' ⟨o,e,r⟩ k=>⟨o,k o e,r⟩
 draw:=fun X Y s σ H I L sB f A hA i st=>by
  subst L;let ⟨its,rv,pl,hz⟩:=I.list (sB.seq hq)
  have g:a≠it:=fun z=>AL I (AX (sB.seq hq)) (z ▸ f);have M:xs.length=its.toArray.size:=by exact rv.length
  refine ⟨_,_,_,M ▸ Draws.list hA it a g its.toArray,⟨st,pl.isList⟩,by simp,fun b hb=>?_,fun j u J=>?_,fun j h st=>st.1⟩
  .rcases mK.mp hb with e|hb
   .exact .inl e
   .rw [OR.mp hb];exact .inr (AL I (AX (sB.seq hq)))
  .have hu'  := by simpa using J
   have hj  := (K2.mp hu').1;have C:xs[j]?=θ (xs[j]'(by simp_all)):=by simp_all
   let ⟨u',h1,h2⟩:=rv.get C
   simp_all
theorem src_tuple {K:aT} (hq:gU K B a xs):Src K B xs it (fun i h=>h.IsTupleIter it a i) where
 obj:=fun i h ⟨o,e,c,d⟩=>⟨o,e,fun v z=>by grind⟩
 keep:=fun i h h' ⟨o,e,r⟩ k=>⟨o,k o e,r⟩
 draw:=fun X Y s σ H I L sB f A hA i st=>by
  subst L;let ⟨its,rv,pl,hz⟩:=I.tuple (sB.seqT hq)
  have g:a≠it:=fun z=>AL I (Bw (sB.seqT hq)) (z ▸ f);have M:xs.length=its.toArray.size:=by exact rv.length
  refine ⟨_,_,_,M ▸ w9 hA it a g its.toArray,⟨st,pl⟩,by simp,fun b hb=>?_,fun j u J=>?_,fun j h st=>st.1⟩
  .rcases mK.mp hb with e|hb
   .exact .inl e
   .rw [OR.mp hb];exact .inr (AL I (Bw (sB.seqT hq)))
  .have hu'  := by simpa using J
   have hj  := (K2.mp hu').1;have C:xs[j]?=θ (xs[j]'(by simp_all)):=by simp_all
   let ⟨u',h1,h2⟩:=rv.get C
   simp_all
theorem signs_get {j:Nat} (h:∃ c t,z.cps[j]?=θ c/\u=.str ⟨#[c]⟩ t):∃ x,(lj z)[j]?=θ x/\aQ x u:=by
 obtain ⟨c,t,h1,rfl⟩:=h;refine ⟨.str ⟨#[c]⟩,?_,⟨t,rfl⟩⟩;simp_all
theorem CJ {K:aT}:Src K B (lj z) it (fun i h=>h.IsStrIter it "str_ascii_iterator" z t i) where
 obj:=fun i h ⟨o,e,c,d⟩=>⟨o,e,fun v z=>by grind⟩
 keep:=fun i h h' ⟨o,e,r⟩ k=>⟨o,k o e,r⟩
 draw:=fun X J s σ H I L sB f A hA i st=>by
  have C:(lj z).length=z.cps.size:=by simp
  exact ⟨_,_,_,C ▸ Draws.strAscii hA it z t,st,by simp,fun b hb=>.inl (by simpa using hb),fun j u g=>signs_get g,fun j h st=>st⟩
theorem FN {K:aT}:Src K B (lj z) it (fun i h=>h.IsStrIter it "str_iterator" z t i) where
 obj:=fun i h ⟨o,e,c,d⟩=>⟨o,e,fun v z=>by grind⟩
 keep:=fun i h h' ⟨o,e,r⟩ k=>⟨o,k o e,r⟩
 draw:=fun X J s σ H I L sB f A hA i st=>by
  have C:(lj z).length=z.cps.size:=by simp
  exact ⟨_,_,_,C ▸ Draws.strWide hA it z t,st,by simp,fun b hb=>.inl (by simpa using hb),fun j u g=>signs_get g,fun j h st=>st⟩
def Rm (K:aT) (H:Hp) (x:V) (xs:ad7):Prop:=(∃ z,x=.str z/\xs=lj z)\/(∃ a,x=.ref a/\eV K H a xs)\/∃ a,x=.ref a/\gU K H a xs
theorem yR {σ:St} (I:Inv X af σ H s) (r:aQ x u) (sB:aw B H) (h:Rm X.K B x xs) :
  ∃ (o:Obj) (S:YS->Nat->abh->Prop),qO u o s.heap/\o.isFreed=η/\(∀ it h,h.get? it=θ o->S it 0 h)/\∀ it,Src X.K B xs it (S it):=by
 rcases h with ⟨z,rfl,rfl⟩|⟨a,rfl,hq⟩|⟨a,rfl,hq⟩
 .obtain ⟨t,rfl⟩:=r;cases ha:z.cps.all (· < 128)
  .exact ⟨{ cls:=.type "str_iterator",data:=.fields #[.str z t,.int 0 0] },fun it i h=>h.IsStrIter it "str_iterator" z t i,fun prog w A s Q E _ q=>wpAny_pyIter_wide ha q,rfl,fun it h e=>⟨_,e,rfl,rfl⟩,fun it=>FN⟩
  .exact ⟨{ cls:=.type "str_ascii_iterator",data:=.fields #[.str z t,.int 0 0] },fun it i h=>h.IsStrIter it "str_ascii_iterator" z t i,fun prog w A s Q E _ q=>wpAny_pyIter_ascii ha q,rfl,fun it h e=>⟨_,e,rfl,rfl⟩,fun it=>CJ⟩
 .cases r;obtain ⟨its,g,pl,hz⟩:=I.list (sB.seq hq);exact ⟨{ cls:=.type "list_iterator",data:=.fields #[.ref a,.int 0 0] },fun it i h=>h.IsListIter it a i,fun prog w A s Q E k q=>wpAny_pyIter_list (pl.keeps k).isList q,rfl,fun it h e=>⟨_,e,rfl,rfl⟩,fun it=>src_list hq⟩
 .cases r;let ⟨its,g,pl,hz⟩:=I.tuple (sB.seqT hq)
  refine ⟨{ cls:=.type "tuple_iterator",data:=.fields #[.ref a,.int 0 0] },fun it i h=>h.IsTupleIter it a i,fun prog w A s Q E k q=>?_,rfl,fun it h e=>⟨_,e,rfl,rfl⟩,fun it=>src_tuple hq⟩;let ⟨o,e,r⟩:=pl
  exact wpAny_pyIter_tuple ⟨o,k _ _ e,r⟩ q
theorem Inv.turnedT {σ:St} {ch:ad5} {T:YS} (I:Inv X af σ H s) (g:∀ b∈ch,eZ X af H b) (k:∀ b o,b∉ch->s.heap.get? b=θ o->h'.get? b=θ o) (L:s.heap.objs.size<=T)
  (Z:ys.length<=RW) (Y:aU ys us) (J:adx h' T us.toArray) (ht:X.tn<=t':=by walk_at "tok"):Inv X af σ (upd H T (.tup ys)) { s with heap:=h',toks:=t' }:=by
 have hn  := I.hok.fresh L;have M:∀ b u,H b=θ u->b∉ch:=fun b u e z=>by rw [(g b z).1] at e;cases e
 refine I.step (fun b hb=>⟨(g b hb).2.2.2.1,(g b hb).2.1,(g b hb).2.2.2.2.1,(g b hb).2.2.2.2.2⟩) (fun b o _ _ C e _=>k b o C e) (fun b o _ _ C e _=>⟨o.slots,k b o C e⟩) (fun b o _ e n=>?_)
  (fun b o C e=>⟨o,k b o C e⟩) (fun b xs e=>?_) (fun b o u e=>?_) (fun b ps e=>⟨#[],?_⟩) (fun m hm=>?_) (fun b u e=>?_) I.bare
 .rw [aA (YL (YF (ID e) L))];exact n
 .rw [aA (a9 e hn)];exact e
 .rw [aA (a9 e hn)];exact e
 .rw [aA (a9 e hn),e];simp
 .let ⟨o,es,ep,ho,r⟩:=hm
  exact ⟨o,es,ep,k _ o (fun z=>(g _ z).2.1 rfl) ho,r⟩
 .by_cases hb:b=T
  .subst hb;rw [aE] at e;cases e;exact ⟨Z,us,Y,J⟩
  .rw [aA hb] at e;refine (I.hok b u e).stay (fun c v C q=>k c v ?_ q) (fun c q=>by rw [aA (a9 q hn)];exact q) fun c xs q=>by rw [aA (a9 q hn)];exact q
   grind
def Fx (B:Hp) (n:Nat) (g:Nat->V->V->Prop):It :=
 ⟨fun i H=>aw B H/\i < n,fun i H v H'=>∃ p x y,H p=ξ/\H'=upd H p (.tup [x,y])/\v=.ref p/\g i x y,fun i H=>aw B H/\i=n⟩
theorem FX {K:aT} {z TI TO i1 i2:YS} (s1:Src K B xs i1 S1) (s2:Src K B ys i2 S2) (nd:[z,TI,TO,i1,i2].Nodup) :
    Turn P w K (.Tuple elts k pos) (Fx B (min xs.length ys.length) fun i x y=>xs[i]?=θ x/\ys[i]?=θ y) [z,TI,TO,i1,i2] z
      (fun i h=>IsZip h z TI TO .none/\IsPair h TI (.ref i1) (.ref i2)/\(∃ a b,IsPair h TO a b)/\S1 i h/\S2 i h):=by
  simp only [YW,mK,Y3,or_false,not_or,ZF,and_true,not_false_eq_true] at nd;obtain ⟨⟨zTI,zTO,zi1,zi2⟩,⟨TITO,TIi1,TIi2⟩,⟨TOi1,TOi2⟩,i12⟩:=nd;have za:∀ {X:Cx} {L:ad2} {H:Hp} {J fp2:ad5},(∀ b∈[z,TI,TO,i1,i2],eZ X L H b)->(∀ b∈J,b=i1\/¬ eZ X L H b)->(∀ b∈fp2,b=i2\/¬ eZ X L H b)->ZA z TI TO i1 i2 J fp2:=fun {X L H J fp2} g h1 h2 =>
    { TIz:=aaN zTI,TOz:=aaN zTO,TITO:=TITO,TIi1:=TIi1,TIi2:=TIi2,TOi1:=TOi1,TOi2:=TOi2,i1z:=aaN zi1,i2z:=aaN zi2,i12:=i12,
      z1:=fun m=>(h1 z m).elim zi1 fun q=>q (g z (by simp)),z2:=fun m=>(h2 z m).elim zi2 fun q=>q (g z (by simp)),TO1:=fun m=>(h1 TO m).elim TOi1 fun q=>q (g TO (by simp)),TO2:=fun m=>(h2 TO m).elim TOi2 fun q=>q (g TO (by simp)),
      i1f:=fun m=>(h2 i1 m).elim i12 fun q=>q (g i1 (by simp)),i2f:=fun m=>(h1 i2 m).elim (aaN i12) fun q=>q (g i2 (by simp)) }
  refine ⟨by simp,fun i h st b hb=>?_,fun i h h' st C=>?_,?_,?_,fun A i s Q E st q=>wpAny_pyIter_zip st.1 q⟩
  . let ⟨hz,hTI,⟨a,b',hTO⟩,h1,h2⟩:=st
    simp only [mK,Y3,or_false] at hb;rcases hb with rfl|rfl|rfl|rfl|rfl
    . exact ⟨_,hz,fun v q=>by cases q⟩
    . exact ⟨_,hTI,fun v q=>by cases q⟩
    . exact ⟨_,hTO,fun v q=>by cases q⟩
    . exact s1.obj i h h1
    . exact s2.obj i h h2
  . let ⟨hz,hTI,⟨a,b',hTO⟩,h1,h2⟩:=st
    exact ⟨C z (by simp) _ hz,C TI (by simp) _ hTI,⟨a,b',C TO (by simp) _ hTO⟩,s1.keep i h h' h1 fun o e=>C i1 (by simp) o e,s2.keep i h h' h2 fun o e=>C i2 (by simp) o e⟩
  . intro X hP hw hK M i L s σ H E I g st hg;subst hP hw;let ⟨hz,hTI,hTO,h1,h2⟩:=st
    let ⟨sB,hi⟩:=hg
    have hh:X.A.in1.handled=ξ:=I.ok.hd M;let ⟨J,P1,St1,D1,st1,m1,n1,p1,b1⟩:=s1.draw X L s σ H I hK sB (g i1 (by simp)) X.A.in1 hh i h1
    let ⟨fp2,P2,St2,D2,st2,m2,n2,p2,b2⟩:=s2.draw X L s σ H I hK sB (g i2 (by simp)) X.A.in1 hh i h2
    have W:=WalksT.zipD D1 D2 (za g n1 n2) m1 m2;refine aP I.tk (W.item i s _ _ hi ⟨hz,hTI,hTO,st1,st2⟩ fun T vals h' tk pt hT isT mid k1 htk=>⟨.ref T,rfl,W.go elts k pos i T { s with heap:=h',toks:=tk } _ _ mid fun Y Z k2=>?_⟩);obtain ⟨u1,u2,q1,q2,rfl⟩:=pt;let ⟨x,hx,rx⟩:=p1 i u1 q1
    let ⟨y,hy,ry⟩:=p2 i u2 q2
    let ⟨hz',hTI',hTO',st1',st2'⟩:=Z
    have C:∀ b o,b∉[z,TO,i1,i2]->s.heap.get? b=θ o->Y.get? b=θ o:=fun b o hb e=>k2 b o hb (k1 b o hb e);have hTn:H T=ξ:=I.hok.fresh hT;have lt:∀ {b o},s.heap.get? b=θ o->b≠T:=fun e=>YL (YF (ID e) hT);have isT':adx Y T [u1,u2].toArray:=by
      let ⟨o,e,r⟩:=isT
      exact ⟨o,k2 T o (W.apart i T _ mid) e,r⟩
    refine ⟨.ref T,upd H T (.tup [x,y]),I.turnedT (t':=tk) (ch:=[z,TO,i1,i2]) (fun b hb=>g b (by simp only [mK,Y3,or_false] at hb ⊢;rcases hb with h|h|h|h <;> simp [h])) C hT (by show 2<=RW;decide) (.cons rx (.cons ry .nil)) isT',rfl,⟨T,x,y,hTn,rfl,rfl,hx,hy⟩,
      ⟨hz',hTI',hTO',b1 _ _ st1',b2 _ _ st2'⟩,fun b hb=>?_⟩
    have hbT:b≠T:=by
      simp only [mK,Y3,or_false] at hb;rcases hb with rfl|rfl|rfl|rfl|rfl
      . exact lt hz
      . exact lt hTI
      . let ⟨_,_,e⟩:=hTO;exact lt e
      . let ⟨_,e,_⟩:=s1.obj _ _ h1;exact lt e
      . let ⟨_,e,_⟩:=s2.obj _ _ h2;exact lt e
    rw [aA hbT];exact (g b hb).1
  . intro X hP hw hK M i L s σ H E I g st hg;subst hP hw;let ⟨hz,hTI,hTO,h1,h2⟩:=st
    let ⟨sB,hi⟩:=hg
    have hh:X.A.in1.handled=ξ:=I.ok.hd M;let ⟨J,P1,St1,D1,st1,m1,n1,p1,b1⟩:=s1.draw X L s σ H I hK sB (g i1 (by simp)) X.A.in1 hh i h1
    let ⟨fp2,P2,St2,D2,st2,m2,n2,p2,b2⟩:=s2.draw X L s σ H I hK sB (g i2 (by simp)) X.A.in1 hh i h2
    have W:=WalksT.zipD D1 D2 (za g n1 n2) m1 m2;subst hi;refine aP I.tk (W.done s _ _ ⟨hz,hTI,hTO,st1,st2⟩ fun h' tk C htk=>⟨rfl,?_⟩)
    have nch:∀ b u,H b=θ u->b∉[z,TO,i1,i2]:=fun b u e q=>by
      have:=(g b (by simp only [mK,Y3,or_false] at q ⊢;rcases q with h|h|h|h <;> simp [h])).1
      rw [this] at e;cases e
    refine I.step (g':=s.gens) (d':=s.drawn) (ch:=[z,TO,i1,i2]) (fun b hb=>?_) (fun b o _ _ M e _=>C b o M e) (fun b o _ _ M e _=>⟨o.slots,C b o M e⟩) (fun _ _ _ _ n=>n)
      (fun b o M e=>⟨o,C b o M e⟩) (fun _ _ e=>e) (fun _ _ _ e=>e) (fun b ps e=>⟨#[],by rw [e];simp⟩) (fun m hm=>?_) (fun b u e=>?_) I.bare
    . have f:=g b (by simp only [mK,Y3,or_false] at hb ⊢;rcases hb with h|h|h|h <;> simp [h]);exact ⟨f.2.2.2.1,f.2.1,f.2.2.2.2.1,f.2.2.2.2.2⟩
    . let ⟨o,es,ep,ho,r⟩:=hm
      refine ⟨o,es,ep,C _ o (fun q=>?_) ho,r⟩;exact (g _ (by simp only [mK,Y3,or_false] at q ⊢;rcases q with h|h|h|h <;> simp [h])).2.1 rfl
    . refine (I.hok b u e).stay (fun c v M q=>C c v ?_ q) (fun _ q=>q) fun _ _ q=>q
      grind
theorem C5 {K:aT} (s1:Src K B xs it S) (ne:e≠it) :
  Turn P w K (.Tuple elts k pos) (Fx B xs.length fun i x y=>x=.int (i:Int)/\xs[i]?=θ y) [e,it] e (fun i h=>(∃ C,IsEnum h e it (i:Int) C)/\S i h):=by
 have nof:∀ {X:Cx} {Y:ad2} {H:Hp} {fp:ad5},(∀ b∈[e,it],eZ X Y H b)->(∀ b∈fp,b=it\/¬ eZ X Y H b)->e∉fp:=fun g h1 m=>(h1 e m).elim ne fun q=>q (g e (by simp));refine ⟨by simp,fun i h st b hb=>?_,fun i h h' st J=>?_,?_,?_,fun A i s Q E st q=>let ⟨⟨C,he⟩,_⟩:=st;wpAny_pyIter_enum he q⟩
 .let ⟨⟨C,he⟩,h1⟩:=st
  simp only [mK,Y3,or_false] at hb;rcases hb with rfl|rfl
  .exact ⟨_,he,fun v q=>by cases q⟩
  .exact s1.obj i h h1
 .let ⟨⟨C,he⟩,h1⟩:=st
  exact ⟨⟨C,J e (by simp) _ he⟩,s1.keep i h h' h1 fun o q=>J it (by simp) o q⟩
 .intro X hP hw hK L i Y s σ H E I g st hg;subst hP hw;let ⟨he,h1⟩:=st
  let ⟨sB,hi⟩:=hg
  have hh:X.A.in1.handled=ξ:=I.ok.hd L;obtain ⟨fp1,P1,St1,D1,M,m1,n1,p1,b1⟩:=s1.draw X Y s σ H I hK sB (g it (by simp)) X.A.in1 hh i h1;have W:=adt D1 e ne (nof g n1) m1;refine aP I.tk (W.item i s _ _ hi ⟨he,M⟩ fun T vals h' tk pt hT isT mid k1 htk=>⟨.ref T,rfl,W.go elts k pos i T { s with heap:=h',toks:=tk } _ _ mid fun h'' Z k2=>?_⟩);obtain ⟨t,u2,q2,rfl⟩:=pt;let ⟨y,hy,ry⟩:=p1 i u2 q2
  let ⟨he',st1'⟩:=Z
  have J:∀ b o,b∉[e,it]->s.heap.get? b=θ o->h''.get? b=θ o:=fun b o hb q=>k2 b o hb (k1 b o hb q);have hTn:H T=ξ:=I.hok.fresh hT;have lt:∀ {b o},s.heap.get? b=θ o->b≠T:=fun q=>YL (YF (ID q) hT);have isT':adx h'' T [.int i t,u2].toArray:=by
   let ⟨o,q,r⟩:=isT
   exact ⟨o,k2 T o (W.apart i T _ mid) q,r⟩
  refine ⟨.ref T,upd H T (.tup [.int (i:Int),y]),I.turnedT (t':=tk) (ch:=[e,it]) g J hT (by show 2<=RW;decide) (.cons ⟨t,rfl⟩ (.cons ry .nil)) isT',rfl,⟨T,_,y,hTn,rfl,rfl,rfl,hy⟩,⟨he',b1 _ _ st1'⟩,fun b hb=>?_⟩;have hbT:b≠T:=by
   simp only [mK,Y3,or_false] at hb;rcases hb with rfl|rfl
   .let ⟨_,q⟩:=he;exact lt q
   .let ⟨_,q,_⟩:=s1.obj _ _ h1;exact lt q
  rw [aA hbT];exact (g b hb).1
 .intro X hP hw hK L i Y s σ H E I g st hg;subst hP hw;let ⟨he,h1⟩:=st
  let ⟨sB,hi⟩:=hg
  have hh:X.A.in1.handled=ξ:=I.ok.hd L;obtain ⟨fp1,P1,St1,D1,M,m1,n1,p1,b1⟩:=s1.draw X Y s σ H I hK sB (g it (by simp)) X.A.in1 hh i h1;have W:=adt D1 e ne (nof g n1) m1;subst hi;refine aP I.tk (W.done s _ _ ⟨he,M⟩ fun h' tk J htk=>⟨rfl,?_⟩);have nch:∀ b u,H b=θ u->b∉[e,it]:=fun b u q m=>by
   have:=(g b m).1
   rw [this] at q;cases q
  refine I.step (g':=s.gens) (d':=s.drawn) (ch:=[e,it]) (fun b hb=>?_) (fun b o _ _ L q _=>J b o L q) (fun b o _ _ L q _=>⟨o.slots,J b o L q⟩) (fun _ _ _ _ n=>n)
   (fun b o L q=>⟨o,J b o L q⟩) (fun _ _ q=>q) (fun _ _ _ q=>q) (fun b ps q=>⟨#[],by rw [q];simp⟩) (fun m hm=>?_) (fun b u q=>?_) I.bare
  .have f:=g b hb;exact ⟨f.2.2.2.1,f.2.1,f.2.2.2.2.1,f.2.2.2.2.2⟩
  .let ⟨o,es,ep,ho,r⟩:=hm
   exact ⟨o,es,ep,J _ o (fun q=>(g _ q).2.1 rfl) ho,r⟩
  .refine (I.hok b u q).stay (fun c v L z=>J c v ?_ z) (fun _ z=>z) fun _ _ z=>z
   grind
theorem qJ {K:aT} (hn:n=zs.length) (h:∀ i x y,i < n->Pv i x y->∃ u g,zs[i]?=θ (.tup [u,g])/\cr K (mask as0 B) u x/\cr K (mask as0 B) g y):GivesD K as0 B (Fx (mask as0 B) n Pv) zs where
 go:=fun i H s r=>⟨s,by rw [hn];exact r⟩
 yl:=fun i H v H2 M s hM hM2 r ⟨p,x,y,hp,e,ev,hv⟩=>by
  subst e ev;let ⟨u,g,e1,d1,d2⟩:=h i x y (by rw [hn];exact r) hv
  have hpM  := fun z=>hM p z hp;have C:aw (mask as0 B) (mask M (upd H p (.tup [x,y]))):=(hZ s hM2).trans (aG (aI hp _));exact ⟨aI hp _,_,e1,p,[x,y],rfl,.inl (.inl (by rw [aD hpM];exact aE)),aH.cons (d1.mono C) (aH.cons (d2.mono C) aH.nil)⟩
 stop:=fun H s=>⟨s,hn.symm⟩
theorem vk {K:aT} (h:cr K H d v) (e:fH d=.ok xs):∃ vs,Rm K H v vs/\aH K H xs vs:=by
 cases d with
 | lst ds=>cases e;obtain ⟨a,vs,rfl,q1,q2⟩:=h;exact ⟨vs,.inr (.inl ⟨a,rfl,q1⟩),q2⟩
 | tup ds=>cases e;obtain ⟨a,vs,rfl,q1,q2⟩:=h;exact ⟨vs,.inr (.inr ⟨a,rfl,q1⟩),q2⟩
 | str z =>
  cases e;cases h;refine ⟨lj z,.inl ⟨z,rfl,rfl⟩,?_⟩;show aH K H (z.cps.toList.map fun c=>D.str ⟨#[c]⟩) (z.cps.toList.map fun c=>V.str ⟨#[c]⟩);generalize z.cps.toList=cs;induction cs with
  | nil=>exact rfl
  | cons c r g=>exact ⟨_,_,rfl,rfl,g⟩
 | _=>cases e
def iB (xs ys:ad8):ad8:=List.zipWith (fun x y=>D.tup [x,y]) xs ys
def Dh (ds:ad8):R (ad8):=match ds with
 | [a,b]=>(fH a).bind fun xs=>(fH b).bind fun ys=>.ok (iB xs ys)
 | _=>.no
def DX (α:FA):FA:=fun U=>(α U).bind Dh
def bq:Nat->ad8->ad8
 | _,[]=>[]
 | n,x::r=>.tup [.int (n:Int),x]::bq (n+1) r
theorem jn:∀ (n:Nat) (xs:ad8),(bq n xs).length=xs.length
 | _,[]=>rfl
 | n,x::r=>by unfold bq;simp [jn (n+1) r]
theorem mI:∀ (n:Nat) (xs:ad8) (i:Nat),(bq n xs)[i]?=xs[i]?.map fun x=>.tup [.int ((n+i:Nat):Int),x]
 | _,[],i=>by simp [bq]
 | n,x::r,0=>by simp [bq]
 | n,x::r,i+1=>by
  unfold bq;rw [acu,mI (n+1) r i]
  grind
def Au (ds:ad8):R (ad8):=match ds with
 | [a]=>(fH a).bind fun xs=>.ok (bq 0 xs)
 | _=>.no
def cq (α:FA):FA:=fun U=>(α U).bind Au
section
variable {elts:List Zq} {k:Nat} {p pos tpos:Pos}
theorem M8 (hm:X.mg "zip"=ξ) (ha:JA X [a,b] (rY W O α)) (hg:Gl X "zip":=by rfl) (h1:aM a=ζ:=by rfl) (h2:aM b=ζ:=by rfl) (hW:W.K=X.K:=by rfl) :
  JI X (.Tuple elts k tpos) (.Call (.Name "zip" p) [a,b] [] pos) (iD W O (DX α)):=⟨fun af s σ H R I ⟨as0,B,own,U,DIh,h⟩=>by
 refine Zh (gI I hg hm OE ?_ (by decide) (by decide));refine Zw (bV (ha.out pos af s σ H (fun vs H1=>aw H H1/\∃ ds,aH W.K (mask (own++as0) H1) ds vs/\gh W as0 own H1 (Dh ds) R) I ⟨as0,B,own,U,DIh,jK h fun ds vs H1 g Z hq=>⟨g,ds,Z,hq⟩⟩) fun us g hh=>jC hh fun vs H1 v r1 q1=>?_) (bw h1) (dq (by rw [ZX,h2];rfl));let ⟨sH,ds,dv,hq⟩:=q1
 unfold Dh at hq;split at hq
 .rename_i da db;obtain ⟨va,vb,rfl,u,r⟩:=My dv;cases e1:fH da with
  | no=>rw [e1] at hq;exact hq.elim
  | er x=>cases da <;> cases e1
  | ok xs =>
   rw [e1] at hq;have hq:gh W as0 own H1 ((fH db).bind fun ys=>.ok (iB xs ys)) R:=hq;cases e2:fH db with
   | no=>rw [e2] at hq;exact hq.elim
   | er x=>cases db <;> cases e2
   | ok ys =>
    rw [e2] at hq;have hq:∀ J H',aw H1 H'->GivesD W.K as0 (mask own H') J (iB xs ys)->R J H':=hq;obtain ⟨u1,u2,rfl,M,Y⟩:=La r1;rw [iG] at u r;let ⟨xv,sv1,dn1⟩:=vk u e1
    let ⟨yv,sv2,dn2⟩:=vk r e2
    rw [hW] at sv1 sv2 dn1 dn2;have sB:aw (mask as0 (mask own H1)) H1:=(ar _ _).trans (ar _ _);let ⟨o1,S1,it1,fr1,st1,src1⟩:=yR v M sB sv1
    let ⟨o2,S2,it2,fr2,st2,src2⟩:=yR v Y sB sv2
    refine Cu it1 it2 fr1 fr2 fun h' hz C L g1 g2 hsz kp=>?_;refine wpAny_pyIter_zip hz ?_;have nw:∀ j,j < 5->H1 (g.heap.objs.size+j)=ξ:=fun j _=>v.hok.fresh (aa9 _ _);refine ⟨g.heap.objs.size+4,_,_,_,H1,rfl,v.kept (t':=g.toks) kp,FX (P:=X.prog) (w:=X.w) (src1 g.heap.objs.size) (src2 (g.heap.objs.size+1)) (z:=g.heap.objs.size+4) (TI:=g.heap.objs.size+2) (TO:=g.heap.objs.size+3) ?_,⟨hz,C,⟨_,_,L⟩,st1 _ _ g1,st2 _ _ g2⟩,fun b hb=>?_,hq _ H1 (aw.refl _) ?_⟩
    .simp only [YW,mK,Y3,or_false,not_or,ZF,and_true,not_false_eq_true];refine ⟨⟨?_,?_,?_,?_⟩,⟨?_,?_,?_⟩,⟨?_,?_⟩,?_⟩ <;> (intro q;have q':(_:Nat)=_:=q;lia)
    .have hb':g.heap.objs.size<=b:=by
      simp only [mK,Y3,or_false] at hb;rcases hb with rfl|rfl|rfl|rfl|rfl <;> first|exact aa9 _ _|exact oR _
     exact v.fpOk hb' (v.hok.fresh hb')
    .rw [hW];refine qJ ?_ fun i x y hi hv=>?_
     .unfold iB;rw [List.length_zipWith,dn1.len,dn2.len]
     .let ⟨dx,q1,q2⟩:=dn1.got hv.1
      let ⟨dy,q3,q4⟩:=dn2.got hv.2
      refine ⟨dx,dy,?_,q2,q4⟩;unfold iB;rw [List.getElem?_zipWith,q1,q3]
 .exact hq.elim⟩
theorem uV (hm:X.mg "enumerate"=ξ) (L:JA X [a] (rY W O α)) (hg:Gl X "enumerate":=by rfl) (h1:aM a=ζ:=by rfl) (hW:W.K=X.K:=by rfl) :
  JI X (.Tuple elts k tpos) (.Call (.Name "enumerate" p) [a] [] pos) (iD W O (cq α)):=⟨fun af s σ H R I ⟨as0,B,own,U,DIh,h⟩=>by
 refine Zh (gI I hg hm uq ?_ (by decide) (by decide));refine Zw (bV (L.out pos af s σ H (fun vs H1=>aw H H1/\∃ ds,aH W.K (mask (own++as0) H1) ds vs/\gh W as0 own H1 (Au ds) R) I ⟨as0,B,own,U,DIh,jK h fun ds vs H1 r C hq=>⟨r,ds,C,hq⟩⟩) fun us r M=>jC M fun vs H1 u r1 q1=>?_) (bw h1) rfl;let ⟨sH,ds,dv,hq⟩:=q1
 unfold Au at hq;split at hq
 .rename_i da;obtain ⟨Y,rfl,g⟩:=dZ dv;cases e1:fH da with
  | no=>rw [e1] at hq;exact hq.elim
  | er x=>cases da <;> cases e1
  | ok xs =>
   rw [e1] at hq;have hq:∀ J H',aw H1 H'->GivesD W.K as0 (mask own H') J (bq 0 xs)->R J H':=hq;obtain ⟨u1,rfl,v⟩:=gj r1;rw [iG] at g;let ⟨xv,sv1,dn1⟩:=vk g e1
   rw [hW] at sv1 dn1;have sB:aw (mask as0 (mask own H1)) H1:=(ar _ _).trans (ar _ _);let ⟨o1,S1,it1,fr1,st1,src1⟩:=yR u v sB sv1
   refine ye it1 fr1 fun h' z g1 hsz kp=>?_;refine wpAny_pyIter_enum z ?_;refine ⟨r.heap.objs.size+1,_,_,_,H1,rfl,u.kept (t':=r.toks) kp,C5 (P:=X.prog) (w:=X.w) (src1 r.heap.objs.size) (e:=r.heap.objs.size+1) (Nat.succ_ne_self _),⟨⟨_,z⟩,st1 _ _ g1⟩,fun b hb=>?_,hq _ H1 (aw.refl _) ?_⟩
   .have hb':r.heap.objs.size<=b:=by
     simp only [mK,Y3,or_false] at hb;rcases hb with rfl|rfl <;> first|exact aa9 _ _|exact oR _
    exact u.fpOk hb' (u.hok.fresh hb')
   .rw [hW];refine qJ ?_ fun i x y Z hv=>?_
    .rw [jn,dn1.len]
    .obtain ⟨rfl,hv⟩:=hv;let ⟨dy,q3,q4⟩:=dn1.got hv
     refine ⟨.int i,dy,?_,rfl,q4⟩;rw [mI,q3,abH];rfl
 .exact hq.elim⟩
end
def Fb (K:aT) (F:ad8->R D):Sp:=fun vs H Q E=>∀ mg,vV K mg F vs H Q E
theorem Jp {K:aT} {C:aaS->Prop}
  (h:∃ g:aaS,C g/\∀ base:abh,K.In base->base.Ns YQ mg->FnOk P w K mg base l8 k fa g ps (vV K mg F)) :
  ∃ g:aaS,C g/\∀ base:abh,K.In base->base.Ns YQ mg->FnOk P w K mg base l8 k fa g ps (Fb K F):=by
 obtain ⟨g,h1,h2⟩:=h;exact ⟨g,h1,fun base u r=>(h2 base u r).imp fun vs H Q E q=>q mg⟩
theorem Iw {K:aT} {ns:List Int} (g:eV K H a (ns.map V.int)) (h:F [.lst (ns.map D.int)]=.ok (.bl ζ)) (q:∀ H',Q (.bl ζ) H'):Fb K F [.ref a] H Q E :=
 fun mg=>(by
   refine ⟨[],[.lst (ns.map D.int)],fun a u=>(nomatch u),⟨.ref a,[],rfl,⟨a,ns.map V.int,rfl,by rw [rq];exact g,?_⟩,rfl⟩,?_⟩
   .clear h g;induction ns with
    | nil=>exact rfl
    | cons n r z=>exact ⟨_,_,rfl,rfl,z⟩
   .rw [h];intro v H' s C;cases C;exact q H')
def fin (r:R Fl):R D:=r.bind fun f=>match f with
 | .rt d=>.ok d
 | .rn d=>.ok d
 | .nx _=>.ok .non
 | _=>.no
section
variable {U:Sd} {d e:D} {x y:Str} {i j:Int} {b c:Bool} {φ ψ:FE} {τ υ:FT} {α:FA} {S T:FS}
def RP (T:FS) (f:Fl):R Fl:=match f with
 | .nx δ'=>T δ'
 | f=>.ok f
theorem Ly:ap S T U=(S U).bind (RP T):=by
 rfl
theorem Op:RP T (.nx U)=T U:=rfl
def WY (d:D):R Fl:=.ok (.rt d)
theorem Q8:aB φ U=(φ U).bind WY:=rfl
def X2 (S T:FS) (U:Sd) (b:Bool):R Fl:=if b=ζ then S U else T U
theorem Rs:bN τ S T U=(τ U).bind (X2 S T U):=rfl
theorem Ua:X2 S T U b=if b=ζ then S U else T U:=rfl
def Wg (k:Nat) (U:Sd) (d:D):R Fl:=.ok (.nx (U.set k (θ d)))
theorem Qw:aJ k φ U=(φ U).bind (Wg k U):=rfl
def Uc (k:Nat) (U:Sd) (d:D):R Fl:=if k < U.length then .ok (.nx (U.set k (θ d))) else .no
theorem T8:f6 k φ U=(φ U).bind (Uc k U):=rfl
theorem Rj:Uc k U d=if k < U.length then .ok (.nx (U.set k (θ d))) else .no:=rfl
def Tz (t:TgD) (S:FS) (U:Sd) (xs:ad8):R Fl:=cG t S xs U
theorem Lz:fY α t S U=(α U).bind (Tz t S U):=rfl
theorem Mf:Tz t S U xs=cG t S xs U:=rfl
def G1 (t:TgD) (S:FS) (r:ad8) (f:Fl):R Fl:=match f with
 | .nx δ2=>cG t S r δ2
 | .ct δ2=>cG t S r δ2
 | .bk δ2=>.ok (.nx δ2)
 | .rt d=>.ok (.rt d)
 | .rn d=>.ok (.rn d)
def Md (t:TgD) (S:FS) (r:ad8) (g:Sd):R Fl:=(S g).bind (G1 t S r)
theorem wS:cG t S (d::r) U=(cO t d U).bind (Md t S r):=by
 rfl
theorem F4:Md t S r U=(S U).bind (G1 t S r):=rfl
theorem Bv:G1 t S r (.nx U)=cG t S r U:=rfl
theorem Cv:cO (.tup [k,l]) (.tup [d,e]) U=.ok ((U.set k (θ d)).set l (θ e)):=rfl
def Yz (op:D->D->R D) (ψ:FE) (U:Sd) (x:D):R D:=(ψ U).bind (op x)
theorem Vo:ao op φ ψ U=(φ U).bind (Yz op ψ U):=rfl
theorem VX:Yz op ψ U d=(ψ U).bind (op d):=rfl
def Vz (d:D):R D:=Il d fun b=>.ok (.bl (!b))
theorem v_not:wg φ U=(φ U).bind Vz:=rfl
def TX (ψ:FE) (U:Sd) (d:D):R D:=Il d fun b=>if b=ζ then ψ U else .ok (.bl η)
theorem v_and:fh φ ψ U=(φ U).bind (TX ψ U):=rfl
theorem Rn:TX ψ U (.bl b)=if b=ζ then ψ U else .ok (.bl η):=rfl
def X0 (ψ:FE) (U:Sd) (d:D):R D:=Il d fun b=>if b=ζ then .ok (.bl ζ) else ψ U
theorem v_or:Im φ ψ U=(φ U).bind (X0 ψ U):=rfl
theorem VU:X0 ψ U (.bl b)=if b=ζ then .ok (.bl ζ) else ψ U:=rfl
def blK (d:D):R Bool:=Il d .ok
theorem WW:aX φ U=(φ U).bind blK:=rfl
theorem Uj:dC φ U=(φ U).bind NI:=rfl
def Ma (υ:FT) (U:Sd) (b:Bool):R Bool:=if b=ζ then υ U else .ok η
theorem Lh:jJ τ υ U=(τ U).bind (Ma υ U):=rfl
theorem PJ:Ma υ U b=if b=ζ then υ U else .ok η:=rfl
def Qv (υ:FT) (U:Sd) (b:Bool):R Bool:=if b=ζ then .ok ζ else υ U
theorem UH:se τ υ U=(τ U).bind (Qv υ U):=rfl
theorem R3:Qv υ U b=if b=ζ then .ok ζ else υ U:=rfl
def QI (b:Bool):R Bool:=.ok (!b)
theorem Rf:fW τ U=(τ U).bind QI:=rfl
def TJ (φ ψ:FE) (U:Sd) (b:Bool):R D:=if b=ζ then φ U else ψ U
theorem Lb:Ir τ φ ψ U=(τ U).bind (TJ φ ψ U):=rfl
theorem LG:TJ φ ψ U b=if b=ζ then φ U else ψ U:=rfl
theorem S0:bP α U=(α U).bind v6:=rfl
theorem Rr:bt α U=(α U).bind AD:=rfl
theorem OW:v6 ds=if ds.length<=1000000 then .ok (.lst ds) else .no:=rfl
theorem Pi:AD ds=if ds.length<=1000000 then .ok (.tup ds) else .no:=rfl
theorem MM:ai g α U=(α U).bind g:=rfl
def oK (d:D):R (Option Int):=match d with
 | .int i=>.ok (θ i)
 | _=>.no
theorem Oq:bS φ U=(φ U).bind oK:=rfl
def PP (g:D->Option Int->Option Int->R D) (d:D) (lo r:Option Int):R D:=g d lo r
def O3 (g:D->Option Int->Option Int->R D) (u:Sd->R (Option Int)) (U:Sd) (d:D) (lo:Option Int):R D:=(u U).bind (PP g d lo)
def R8 (g:D->Option Int->Option Int->R D) (l u:Sd->R (Option Int)) (U:Sd) (d:D):R D:=(l U).bind (O3 g u U d)
theorem XD:oJ g φ l u U=(φ U).bind (R8 g l u U):=rfl
theorem QB:R8 g l u U d=(l U).bind (O3 g u U d):=rfl
theorem QN {lo:Option Int}:O3 g u U d lo=(u U).bind (PP g d lo):=rfl
theorem SH {lo hi:Option Int}:PP g d lo hi=g d lo hi:=rfl
def XT (g:Str->ad8->R D) (α:FA) (U:Sd) (d:D):R D:=match d with
 | .str z=>(α U).bind fun ds=>g z ds
 | _=>.no
theorem VM:XT g α U (.str x)=(α U).bind (g x):=rfl
theorem Px:bo ix α t τ φ U=(α U).bind (cc t τ φ (d5 ix U)):=rfl
theorem Uw:cY φ U=(φ U).bind fH:=rfl
theorem OT:fE α U=(α U).bind J2:=rfl
theorem SA (h:-(2 ^ 62)<=i/\i < 2 ^ 62):J2 [.int i]=.ok (dI 0 i.toNat):=adU h
theorem Sb:DX α U=(α U).bind Dh:=rfl
theorem RL (h1:fH d=.ok xs) (h2:fH e=.ok ys):Dh [d,e]=.ok (iB xs ys):=by
 unfold Dh;simp only [h1,h2,az]
theorem HN:cq α U=(α U).bind Au:=rfl
theorem GT:bm (.str x) (.str y)=if x.length+y.length<=1000000 then .ok (.str (x++y)) else .no:=rfl
theorem add_l:bm (.lst xs) (.lst ys)=if xs.length+ys.length<=1000000 then .ok (.lst (xs++ys)) else .no:=rfl
theorem Sl:lJ (.int i) (.int j)=.ok (.int (i - j)):=rfl
theorem R7 (h:-(2 ^ 64) < i/\i < 2 ^ 64):jI (.int i) (.int j)=.ok (.int (i*j)):=adU (.inl h)
theorem Td (h:0<=j/\j<=1000000/\-(2 ^ 64) < i/\i < 2 ^ 64):zO (.int i) (.int j)=.ok (.int (i ^ j.toNat)):=adU ⟨h.1,h.2.1,by lia⟩
theorem C9:vB (.int i) (.int j)=.ok (.bl (decide (i < j))):=rfl
theorem S6:DH (.int i) (.int j)=.ok (.bl (decide (i<=j))):=rfl
theorem yM:x5 (.int i) (.int j)=.ok (.bl (decide (j < i))):=rfl
theorem UG:B5 (.int i) (.int j)=.ok (.bl (decide (j<=i))):=rfl
theorem UK:vB (.str x) (.str y)=.ok (.bl (decide (x.cps.toList < y.cps.toList))):=rfl
theorem QY:DH (.str x) (.str y)=.ok (.bl (!decide (y.cps.toList < x.cps.toList))):=rfl
theorem SS:B5 (.str x) (.str y)=.ok (.bl (!decide (x.cps.toList < y.cps.toList))):=rfl
theorem wF:isD d .non=.ok (.bl (W1 d)):=rfl
theorem kW:bG (.int i) (.int j)=.ok (.bl (decide (i=j))):=by simp [bG,j1,eT,u6,dD]
theorem ib:bG (.str x) (.str y)=.ok (.bl (decide (x=y))):=by simp [bG,j1,eT,u6,dD]
theorem Q6:bG (.bl b) (.bl c)=.ok (.bl (decide (b=c))):=by simp [bG,j1,eT,u6,dD]
theorem Rt:kA (.int i) (.int j)=.ok (.bl (!decide (i=j))):=by simp [kA,j1,eT,u6,dD]
theorem Uk:kA (.str x) (.str y)=.ok (.bl (!decide (x=y))):=by simp [kA,j1,eT,u6,dD]
theorem Ju (h:x.length<=1000000) {k:Nat} (g:atI x.cps.toList i=θ k):aV (.str x) (.int i)=.ok (.str ⟨#[k]⟩):=by simp only [aV,adU h,g]
theorem vd (g:atI xs i=θ d):aV (.lst xs) (.int i)=.ok d:=by simp only [aV,g]
theorem uA (g:atI xs i=θ d):aV (.tup xs) (.int i)=.ok d:=by simp only [aV,g]
theorem bW:aV (.tup (d::r)) (.int 0)=.ok d:=uA (bM rfl)
theorem bJ:aV (.tup (a::d::r)) (.int 1)=.ok d:=uA (bM rfl)
theorem iQ {a b:D}:aV (.tup (a::b::d::r)) (.int 2)=.ok d:=uA (bM rfl)
theorem ER {a b c:D}:aV (.tup (a::b::c::d::r)) (.int 3)=.ok d:=uA (bM rfl)
theorem UF {lo g:Option Int}:jH (.str x) lo g=if x.length<=1000000 then .ok (.str (mF x lo g)) else .no:=rfl
theorem we {lo g:Option Int}:jH (.lst xs) lo g=.ok (.lst (gT xs lo g)):=rfl
theorem LK:ce [.str x]=if x.length<=1000000 then .ok (.int x.length) else .no:=rfl
theorem Ah:ce [.lst xs]=.ok (.int xs.length):=rfl
theorem wz:ce [.tup xs]=.ok (.int xs.length):=rfl
theorem GU:Ey [.bl b]=.ok (.int (if b=ζ then 1 else 0)):=rfl
theorem on:gQ [.lst xs]=.ok (.tup xs):=rfl
theorem SZ:gQ [.tup xs]=.ok (.tup xs):=rfl
theorem RB {xs:ad8} {bs:List Bool} (h:xT xs=θ bs):pq [.lst xs]=.ok (.bl (bs.all id)):=by simp only [pq,h]
theorem BH {β:Type} (f:β->Bool):∀ xs:List β,xT (xs.map fun a=>D.bl (f a))=θ (xs.map f)
 | []=>rfl
 | a::r=>by simp only [YB,xT,BH f r,adL]
theorem strs_map {β:Type} (f:β->Str):∀ xs:List β,mZ (xs.map fun a=>D.str (f a))=θ (xs.map f)
 | []=>rfl
 | a::r=>by simp only [YB,mZ,strs_map f r,adL]
theorem Pp (h:mZ xs=θ ys) (g:(ys.map (·.length)).sum+ys.length*z.length<=1000000):mf z [.lst xs]=.ok (.str (acS z ys)):=by simp only [mf,h,adU g]
theorem pR (r:qT t δ0=ζ) (g:xs.length<=1000000) (h:dY t τ ε δ0 xs=.ok ys):cc t τ ε δ0 xs=.ok (.lst ys):=by
 unfold cc;rw [adU ⟨r,g⟩,h];rfl
theorem zS {β:Type} {as:List β} (u:β->D) (f:β->D) (v:qT (.one k) δ0=ζ) (z:as.length<=1000000) (h:∀ a∈as,ε (δ0.set k (θ (u a)))=.ok (f a)):cc (.one k) fS ε δ0 (as.map u)=.ok (.lst (as.map f)):=by
 refine pR v (by simp_all) ?_;clear z;induction as with
 | nil=>rfl
 | cons a r g =>
  have h1:=h a Zc;have g:=g fun b hb=>h b (lT _ hb);show (ε (δ0.set k (θ (u a)))).bind _=_;rw [h1];rw [g];rfl
end
theorem wQ {β:Type} {M:Model} {A:aaF} {E:ad3} {s:IF} {b:Nat} (f:Nat->β->Sem (ForInStep β)) (I:Nat->β->IF->Prop) (Q:β->IF->Prop)
  (turn:∀ i c s,i < b->I i c s->YH M A (f i c) (fun r g=>match r with|.yield b'=>I (i+1) b' g|.done b'=>Q b' g) E s)
  (fin:∀ c s,I b c s->Q c s) (c:β) (h:I 0 c s):YH M A (forIn [0:b] c f) Q E s:=by
 rw [Std.Legacy.Range.forIn_eq_forIn_range'];have hsz:[0:b].size=b:=by simp_all
 rw [hsz];refine wpAny_forIn_list f (fun l c st=>∃ i,i<=b/\l=List.range' i (b - i) 1/\I i c st) Q ?_ ?_ _ c ⟨0,YJ _,rfl,h⟩
 .rintro x rest c st ⟨i,hib,hl,hI⟩;have v:i < b:=by
   rcases abI i b with h'|h'
   .exact h'
   simp_all
  let ⟨n,hn⟩:∃ n,b - i=n+1:=⟨b - i - 1,by lia⟩
  rw [hn] at hl;obtain ⟨rfl,rfl⟩:=List.cons.inj hl;refine Zm (turn x c st (by lia) hI) (fun r u h'=>?_) fun _ _ z=>z
  grind
 grind
theorem sr (l:YS) (r:ad6) (n:Nat) (L:Option YS) (C:Array (Option rW)) (x:rW) (e:rW->Bool) (k:Nat) :
  Meets (Builtin.«tuple.index» ⟨[.ref l,x],[]⟩)
   (fun A R s=>s.heap.get? l=θ { cls:=.type "tuple",dict:=L,data:=.seq r.toArray n,slots:=C }/\(∀ y,y∈r->adq A.in1 s y x (e y))/\(k < r.length/\(∀ y,r[k]?=θ y->e y=ζ)/\∀ j y,j < k->r[j]?=θ y->e y=η)/\R (.ok (.ret (.int (k:Nat) s.toks))) { s with toks:=s.toks+1 }) :=
 .of_wp fun prog w A R s h=>by
  obtain ⟨M,g,d,I,os⟩:=s;let ⟨hl,he,⟨hk0,hk1,hk2⟩,h⟩:=h
  wp_walk using aag hl,wQ _ (fun i b z=>b.1=ξ/\z=⟨M,g,d,I,os⟩/\i<=k) _
  case turn =>
   rintro i b z hi ⟨hb,rfl,hik⟩;have u:i < r.length:=by lia
   have J:r.toArray[i]?=θ r[i]:=by simp [u]
   simp only [J];refine bY (he _ (YG u) prog w _ _ ?_);by_cases v:i=k
   .subst v;rw [hk1 _ (lE u)]
    wp_walk
    exact ⟨_,rfl,h⟩
   .rw [hk2 i _ (by lia) (lE u)]
    wp_walk
    exact ⟨rfl,rfl,by lia⟩
  case fin =>
   grind
  grind
section
variable {X:Cx} {W:Wd} {O:ad0}
def B8 (x:V):ad7->Option Nat
 | []=>ξ
 | y::ys=>if eqV y x=ζ then θ 0 else (B8 x ys).map (·+1)
theorem uh {x:V}:∀ {xs:ad7} {us:ad6} {k:Nat},aU xs us->xs.all fU=ζ->B8 x xs=θ k->k < us.length/\(∀ y,us[k]?=θ y->vT x y=ζ)/\∀ j y,j < k->us[j]?=θ y->vT x y=η
 | _,_,_,.nil,_,h=>by cases h
 | y::xs,u::us,k,.cons r t,f,h=>by
  rw [ZX,YR] at f;unfold B8 at h;split at h
  .rename_i e;cases h;refine ⟨by simp,fun g h'=>?_,fun j _ v _=>absurd v (aaU _)⟩;simp only [abq,adu] at h';subst h';rw [u9 r f.1];exact e
  .rename_i e;cases q:B8 x xs with
   | none=>rw [q] at h;cases h
   | some z =>
    rw [q] at h;cases h;let ⟨h1,h2,h3⟩:=uh t f.2 q
    refine ⟨by simpa using h1,fun g h'=>h2 g (by simpa using h'),fun j g v h'=>?_⟩;cases j with
    | zero =>
     simp only [abq,adu] at h';subst h';rw [u9 r f.1];simpa using e
    | succ j=>grind
def VC (K:aT) (x:V) (xs:ad7) (H:Hp) (Q:VK):Prop:=∃ p vs y k,x=.ref p/\xs=[y]/\gU K H p vs/\fU y=ζ/\vs.all fU=ζ/\B8 y vs=θ k/\Q (.int (k:Nat)) H
def CL:Qq X "tuple.index" (VC X.K):=by
 intro L s σ H x xs v us Q I g r h;obtain ⟨p,vs,y,k,rfl,rfl,hq,C,fs,e,q⟩:=h;cases g;obtain ⟨u,rfl,J⟩:=gj r;let ⟨its,rv,pl,hz⟩:=I.tuple hq
 let ⟨⟨cls,dd,data,sl⟩,ho,hc,n,hd⟩:=id pl
 subst hc hd;exact acU aci ⟨_,ho,rfl⟩ PySem.F.entry_tuple_index (PySem.F.args_tuple_index_2 _ _) (sr p its n dd sl u (vT y) k) ⟨ho,fun z hz=>iL J C rv fs z hz,uh rv fs e,⟨.int _,H,I.tok _,⟨_,rfl⟩,q⟩⟩
def E4 (k:D) (ds:ad8):R D:=match k,ds with
 | .tup xs,[d]=>match eT d,lK xs with
  | some v,θ vs=>match B8 v vs with
   | some k=>.ok (.int (k:Nat))
   | none=>.no
  | _,_=>.no
 | _,_=>.no
def yo (k:D) (α:FA):FE:=fun U=>(α U).bind fun ds=>E4 k ds
theorem TL:yo k α U=(α U).bind (E4 k):=rfl
theorem Ek {apos cpos pos:Pos} (hm:X.mg x=θ (.ref p)) (hd:∀ H,cr W.K H d (.ref p)) (z:∃ ob,W.K.lookup p=θ ob/\ob.cls=.type "tuple"/\ob.dict=ξ) (M:JA X [e] (rY W O α)) (J:X.K=W.K:=by rfl) (hg:Gl X x:=by rfl) (C:ad9 x:=by decide)
  (g:Y4 (.Name x pos) "index" X.env (eval (.Name x pos) X.env)=eval (.Name x pos) X.env:=by rfl) (r:(apos.endLine==cpos.line)=ζ:=by rfl) (h1:[e].all aM=ζ:=by rfl) (u:[e].length < 29:=by decide) :
  JE X (.Call (.Attribute (.Name x pos) "index" apos) [e] [] cpos) (tD W O (yo d α)) :=
 (MI PySem.F.plainAttrs_tuple aci PySem.F.type_tuple_index CL (Gz (v:=.ref p) hm rfl hg C) M g r h1 u).imp fun σ H Q Y=>cJ Y fun as0 B own U I h=>by
  let ⟨ob,z,hc,hdn⟩:=z
  refine ⟨.inr (.inl ⟨rfl,ob,by rw [J];exact z,hc,hdn⟩),as0,B,own,U,I,dF h fun ds xs Z s2 L h2=>?_⟩;have dp:=hd (mask (own++as0) Z);unfold E4 at h2;split at h2
  .obtain ⟨v,rfl,dv⟩:=dZ L;let ⟨p',vs,e0,q1,q2⟩:=dp
   cases e0;split at h2
   .rename_i w ws e1 e2;split at h2
    .rename_i k e3
     have:=ff dv e1
     subst this;let ⟨h3,h4⟩:=lH q2 e2
     subst h3;exact ⟨p,vs,v,k,rfl,rfl,by rw [J];exact (ar _ _).seqT q1,rh e1,h4,e3,aK h2 rfl⟩
    .exact h2.elim
   .exact h2.elim
  .exact h2.elim
end
def jm {α:Type} [DecidableEq α] (ks:List α):List α:=ks.foldl (fun acc k=>if k∈acc then acc else acc++[k]) []
section
variable {α:Type} [DecidableEq α]
theorem kq (ks:List α) (k:α):jm (ks++[k])=if k∈jm ks then jm ks else jm ks++[k]:=by unfold jm;rw [adv];rfl
theorem Jt (ks:List α):(jm ks).length<=ks.length:=by
 have key:∀ n,(jm (ks.take n)).length<=n:=by
  intro n;induction n with
  | zero=>simp [jm]
  | succ n g =>
   rcases abI n ks.length with h|h
   .rw [Zb h,kq]
    grind
   .rw [ZD (by lia)] at g ⊢;lia
 have:=key ks.length
 rwa [abP] at this
end
abbrev ql (g:Bool):Obj:={ cls:=.type "set",dict:=ξ,data:=.set #[] 0 (.fresh 0 0 g) }
abbrev dl (w:Zv):Bool:=!w.params.followText "set-order"
structure SetI (prog:Z9) (w:Zv) (S:YS) (n:Nat) (P:Nat->rW->Prop) (J:Nat->abh->Prop):Prop where
 keep:∀ i (h h':abh),J i h->(∀ o,h.get? S=θ o->h'.get? S=θ o)->J i h'
 add:∀ A E i v (s:IF) (Q:Bool->IF->Prop),i < n->P i v->J i s.heap->(∀ b h' tk,s.toks<=tk->Zo S s.heap h'->J (i+1) h'->Q b { s with heap:=h',toks:=tk })->YH (YN prog w) A (setAdd S v) Q E s
section
variable {prog:Z9} {w:Zv} {A:aaF}
theorem HA {R:Result->IF->Prop} {St:Nat->IF->Prop} (W:WalksS prog w A.in1 I fp wr G n P St) (C:SetI prog w S n P J) (L:S∉fp) :
  ∀ (m i:Nat) (s:IF),n - i=m->i<=n->St i s->J i s.heap->(∀ r,Moved (S::wr) G s r->J n r.heap->R (.ok (.ret .none)) r) ->
   ab9 (YN prog w) A (.builtin "set.update.loop" ⟨[.ref S,.ref I],[]⟩) R s:=by
 have hSw:=fun h=>L (W.sub S h);have g:=fun b (hb:b∈wr)=>lT S hb;intro m;induction m with
 | zero =>
  intro i s hk hi u hJ hR;obtain rfl:i=n:=by lia
  refine codeAny_builtin F.entry_set_update_loop ?_;rw [abS F.plain_set_update_loop _];exact bY (m:=pyNext (.ref I)) (W.done s _ _ u fun r hm=>nE (hR r (hm.mono g) (C.keep _ _ _ hJ fun o=>hm.heap S o hSw)))
 | succ m ih =>
  intro i s hk hi u hJ hR;have z:i < n:=by lia
  refine codeAny_builtin F.entry_set_update_loop ?_;rw [abS F.plain_set_update_loop _];refine bY (m:=pyNext (.ref I)) (W.item i s _ _ z u fun v r hP Y hm=>?_);refine bY (m:=holding [v] (setAdd S v)) (ZI (C.add _ _ i v r _ z hP (C.keep _ _ _ hJ fun o=>hm.heap S o hSw) fun b h' tk htk hsb hJ'=>?_));refine nE ⟨plainId_quiet F.plain_set_update_loop _,ih (i+1) _ (by lia) z (W.frame _ r _ _ Y htk fun b hb o e=>?_) hJ' fun s'' M Z=>?_⟩
  .rw [hsb.2 b (fun h=>L (h ▸ hb))];exact e
  .refine hR s'' (Moved.trans W.gtrans ((hm.mono g).then_heap htk fun b o hb e=>?_) M) Z;rw [hsb.2 b (fun h=>hb (h ▸ Zc))];exact e
variable {E:ad3} {s:IF} {Q:ad3}
theorem Hs (a:rW) (h:Q (.ref s.heap.objs.size) { s with heap:=s.heap.push (ql (dl w)) }):ab9 (YN prog w) A (.call (.builtin "set.__new__") ⟨[.type "set",a],[]⟩) (wants Q E) s:=by
 refine codeAny_of_tree (show YH _ A.in1 (checkBuiltinCall "set.__new__" _ >>= fun _=>again (.builtin "set.__new__" _)) _ _ s from ?_);refine bY (adb (PySem.F.newCall_set_1 a) (nE ⟨plainId_quiet acL _,codeAny_builtin PySem.F.entry_set_new ?_⟩));rw [abS acL _];have r:=sub_set_self;obtain ⟨v,g,d,u,os⟩:=s;unfold Builtin.«set.__new__» Builtin.Frozenset.newClass;dsimp only;wp_walk;refine wpAny_askSetting (nE ?_);dsimp only;simp only [newObj];exact bY (wpAny_alloc (nE (nE h)))
theorem wx (hh:A.handled=ξ) (hl:s.heap.IsList l items) (C:SetI prog w s.heap.objs.size items.size (fun i v=>items[i]?=θ v) J) (h0:∀ h:abh,h.get? s.heap.objs.size=θ (ql (dl w))->J 0 h)
  (h:∀ (h':abh) (tk:Nat),J items.size h'->(∀ b o,b < s.heap.objs.size->s.heap.get? b=θ o->h'.get? b=θ o)->Q (.ref s.heap.objs.size) { s with heap:=h',toks:=tk }) :
  YH (YN prog w) A (call (.type "set") [.ref l]) Q E s:=by
 obtain ⟨c,tl,hmro⟩:=ZP.mro;have hmade:=ZP.made;have hsub:=ZP.sub;refine wpAny_call (codeAny_of_tree (show YH _ _ (callAny (.type "set") _) _ _ _ from ?_));refine nE ⟨Code.quiet_builtin _ (by trivial),codeAny_builtin PySem.F.entry_type_call ?_⟩;rw [Around.under_plain (weight_type_call_type "set" [.ref l] []) rfl];have h1:=ZP.notType;have h2:=ZP.canCreate;have hct:=PySem.F.typeCall_set_1 (.ref l);repeat (any_goals (first|assumption|wp_step))
 refine abi (Hs (.ref l) (E:=E) (Q:=fun obj z=>obj=.ref s.heap.objs.size/\z={ s with heap:=s.heap.push (ql (dl w)) }) ⟨rfl,rfl⟩) fun r z hr=>?_;cases r with
 | error e=>exact hr
 | ok fl =>
  cases fl with
  | ret obj =>
   obtain ⟨rfl,rfl⟩:=hr;have hS:(s.heap.push (ql (dl w))).get? s.heap.objs.size=θ (ql (dl w)):=BY _ rfl;have hT:Shared.TypeIs { s with heap:=s.heap.push (ql (dl w)) } (.ref s.heap.objs.size) "set":=⟨_,hS,rfl⟩;have hli:=ZP.init.lookup;have hbi:=ZP.init.bind (.ref s.heap.objs.size);repeat (any_goals (first|assumption|wp_step))
   refine abi (codeAny_call_builtin (R:=wants (fun r I=>r=.none/\∃ h' tk,I={ s with heap:=h',toks:=tk }/\J items.size h' /\
     (∀ b o,b < s.heap.objs.size->s.heap.get? b=θ o->h'.get? b=θ o)) E) ZP.init.plain PySem.F.entry_set_init (check_set_init_1 hT ?_)) fun r₂ I g=>?_
   .obtain ⟨ol,hol,hcl,nl,hdl⟩:=hl;obtain ⟨ocls,L,odata,u⟩:=ol;simp only at hcl hdl;subst hcl hdl;have Z:(s.heap.push (ql (dl w))).get? l=θ ⟨.type "list",L,.seq items nl,u⟩:=eQ _ hol;have hsls:=PySem.F.sub_list_set;have hslf:=PySem.F.sub_list_frozenset;have hne:(acb "list"==acb "dict")=η:=by decide
    have hl1:(s.heap.push (ql (dl w))).IsList l items:=⟨_,Z,rfl,nl,rfl⟩;unfold Builtin.«set.__init__» noKeywords Builtin.Frozenset.updateFrom;generalize hPI:adP=PI
    wp_walk
    subst hPI;refine wpAny_pyIter_list hl1 (bY (wpAny_runValue ?_));have hlS:=ID hol;have hneI:l≠(s.heap.push (ql (dl w))).objs.size:=by rw [ZE];exact YL (acj hlS)
    have hSf:s.heap.objs.size∉[(s.heap.push (ql (dl w))).objs.size,l]:=by
     rw [ZE];simp only [mK,Y3,or_false,not_or];exact ⟨YL (abO _),ab4 hlS⟩
    refine HA ((Walks.list (A:=A.in1.in1.in1) (by simp [hh]) _ l hneI items).toS) C hSf (items.size - 0) 0 _ (by lia) (YJ _) ⟨⟨_,BY _ rfl,rfl,rfl⟩,(hl1.push _)⟩ (h0 _ (eQ _ hS)) ?_;intro s' hm M;obtain ⟨h',g',d',tk',os'⟩:=s';obtain rfl:g'=s.gens:=hm.gens;obtain rfl:d'=s.drawn:=hm.drawn;obtain rfl:os'=s.os:=hm.os;refine nE (nE ⟨rfl,h',tk',rfl,M,fun b o hb e=>?_⟩);have hb2:b≠(s.heap.push (ql (dl w))).objs.size:=by rw [ZE];exact YL (acj hb)
    exact hm.heap b o (by simp only [mK,Y3,or_false,not_or];exact ⟨YL hb,hb2⟩) (eQ _ (eQ _ e))
   .cases r₂ with
    | error e=>exact g
    | ok Y =>
     cases Y with
     | ret r =>
      obtain ⟨rfl,h',tk,rfl,M,hk'⟩:=g;repeat (any_goals (first|assumption|wp_step))
      exact h _ _ M hk'
     | _=>exact g.elim
  | _=>exact hr.elim
theorem qz {α:Type} [DecidableEq α] {knd:KeyKind prog w α} {l:YS} {g:Array rW} {ks:List α}
  (Z:A.handled=ξ) (hl:s.heap.IsList l g) (u:ks.length=g.size) (hi:∀ (i:Nat) v,g[i]?=θ v->∀ k,ks[i]?=θ k->knd.is k v=ζ/\v.scannable=ζ) (hb:g.size+1 < scanBound)
  (h:∀ (h':abh) (I:Nat),h'.SetOf knd s.heap.objs.size (fun Y=>decide (Y∈jm ks)) (jm ks).length ->
   (∀ b o,b < s.heap.objs.size->s.heap.get? b=θ o->h'.get? b=θ o)->Q (.ref s.heap.objs.size) { s with heap:=h',toks:=I }) :
  YH (YN prog w) A (call (.type "set") [.ref l]) Q E s:=by
 refine wx (J:=fun i h=>∃ (S:α->Bool) (n:Nat),(∀ k,S k=decide (k∈jm (ks.take i)))/\n=(jm (ks.take i)).length/\h.SetOf knd s.heap.objs.size S n) Z hl ⟨fun i h h' ⟨S,n,e1,e2,o,es,ep,t,ho,rest⟩ k=>⟨S,n,e1,e2,o,es,ep,t,k o ho,rest⟩,fun A E i v s' Q hlt hP ⟨S,n,e1,e2,hS⟩ q=>?_⟩ (fun h e=>⟨_,_,fun k=>?_,?_,(setObjOf_fresh (knd:=knd) _).setOf e (by unfold scanBound;lia)⟩) fun h' I ⟨S,n,e1,e2,hS⟩=>?_
 .have hik:i < ks.length:=by lia
  obtain ⟨z,C⟩:=hi i v hP ks[i] (lE hik);unfold setAdd;refine ZI (bY (knd.pyHash z ?_));have r:n+1 < scanBound:=by
   have:=Jt (ks.take i)
   rw [Zx] at this;lia
  refine wpAny_setAddHashed_of (knd:=knd) (s:={ s' with toks:=s'.toks+1 }) z C hS r fun h' M L=>q _ _ _ (abw _) M ⟨_,_,fun Y=>?_,?_,L⟩
  .rw [Zb hik,kq]
   grind
  .rw [Zb hik,kq]
   grind
 .simp [jm]
 .simp [jm]
 .rw [<- u,abP] at e1 e2;obtain rfl:S=_:=funext e1;subst e2;exact h h' I hS
end
section
variable {X:Cx} {W:Wd} {O:ad0}
def J1 (K:aT) (t:TA):TE:=fun σ H Q=>t σ H fun vs H1=>∃ a ys,vs=[.ref a]/\eV K H1 a (ys.map V.str)/\ys.length<=1000/\Q (.int ((jm ys).length:Nat)) H1
theorem CT {p1 p2 g pos:Pos} (hc:X.calm=ζ) (Y:X.mg "len"=ξ) (hm2:X.mg "set"=ξ) (ha:PA X [e] t) (Z:Gl X "len":=by rfl) (hg2:Gl X "set":=by rfl)
  (he:YI [e] X.env=(η,eval e X.env)::YI [] X.env:=by rfl) (M:(aaa g (YI [] X.env)).any (·.1)=η:=by rfl)
  (C:YI [.Call (.Name "set" p2) [e] [] g] X.env=(η,eval (.Call (.Name "set" p2) [e] [] g) X.env)::YI [] X.env:=by rfl) (z:(aaa pos (YI [] X.env)).any (·.1)=η:=by rfl) :
  PE X (.Call (.Name "len" p1) [.Call (.Name "set" p2) [e] [] g] [] pos) (J1 X.K t):=by
 intro af s σ H Q I h;refine Zh (gI I Z Y yd ?_ (by decide) (by decide));refine aaE ?_ C z;rw [C];show YH _ _ (spliced ((η,eval (.Call (.Name "set" p2) [e] [] g) X.env)::aaa pos (YI [] X.env))) _ _ s;refine Z3 ?_;refine Zh (gI I hg2 hm2 Ie ?_ (by decide) (by decide));refine Zw (bV (ha g af s σ H _ I h) fun us s1 hh=>jC hh fun vs H1 L r1 q1=>?_) he M;obtain ⟨a,ys,rfl,hq,hl,q⟩:=q1;obtain ⟨u,rfl,ru⟩:=gj r1;cases ru;let ⟨its,rv,pl,hz⟩:=L.list hq
 have J:its.length=ys.length:=by rw [<- rv.length,iN]
 have hsb:scanBound=4096:=rfl;refine aP L.tk (qz (knd:=strKind X.prog X.w) (ks:=ys) (L.ok.hd hc) pl.isList (by simp [J]) (fun i v hv k hk=>?_) (by rw [hsb];simp;lia) fun h' tk hS r htk=>?_)
 .have hv'  := by simpa using hv
  obtain ⟨u,hu,ru⟩:=rv.get ((by rw [Zk,hk];rfl));rw [hv'] at hu;cases hu;obtain ⟨t',rfl⟩:=ru;exact ⟨strKind_is _ _ _ _,rfl⟩
 .refine aaz ?_;obtain ⟨o,es,ep,t',ho,hex,hd,hel,hmem,hb',hf,hn⟩:=hS;have I2  := L.kept fun b u e=>r b u (ID e) e;refine call_len_set ho hex hd hf (by lia) ⟨.int _,H1,I2.tok _,⟨_,rfl⟩,?_⟩;rw [hn];exact q
def i8 (ds:ad8):R D:=match ds with
 | [.lst xs]=>match mZ xs with
  | some ys=>if ys.length<=1000 then .ok (.int ((jm ys).length:Nat)) else .no
  | none=>.no
 | _=>.no
theorem Fu {p1 p2 g pos:Pos} (r:X.mg "len"=ξ) (C:X.mg "set"=ξ) (M:JA X [e] (rY W O α)) (Z:X.K=W.K:=by rfl) (hc:X.calm=ζ:=by rfl) (u:Gl X "len":=by rfl) (z:Gl X "set":=by rfl) (h1:aM e=ζ:=by rfl) :
  JE X (.Call (.Name "len" p1) [.Call (.Name "set" p2) [e] [] g] [] pos) (tD W O (ai i8 α)) :=
 (JE.mk (CT hc r C M.out u z (bw h1) rfl rfl rfl)).imp fun σ H Q Y=>cJ Y fun as0 B own U I h=>⟨as0,B,own,U,I,dF h fun ds xs H2 s2 J h2=>by
  unfold i8 at h2;split at h2
  .obtain ⟨v,rfl,L⟩:=dZ J;obtain ⟨p,vs,rfl,q1,q2⟩:=L;split at h2
   .rename_i ys e;split at h2
    .rename_i hl;refine ⟨p,ys,rfl,?_,hl,aK h2 rfl⟩;rw [<- nD q2 e,Z];exact (ar _ _).seq q1
    .exact h2.elim
   .exact h2.elim
  .exact h2.elim⟩
end
section
variable {p1 pos:Pos}
theorem B7 (K:aT) (f:Bool->Bool) (M:i∈O) (hW:W.K=K) (I:DI W.K as0 B O own σ U H) (h:cD W (own++as0) H (ao (fun a b=>dD (j1 a b) f) (ae i) ψ U) Q):Ip (sI K f) (lC i) (tD W O ψ) σ H Q:=by
 let ⟨a,ha⟩:=cw I.olen M
 obtain ⟨d,o,h1,h2,C,J⟩:=I.owns i a ha;have hv:ae i U=.ok d:=by unfold ae;rw [h1]
 have h':cD W (own++as0) H ((ψ U).bind fun y=>dD (j1 d y) f) Q:=by
  have e:ao (fun a b=>dD (j1 a b) f) (ae i) ψ U=(ψ U).bind fun y=>dD (j1 d y) f:=by unfold ao;rw [hv];rfl
  rw [<- e];exact h
 have z:Ip (sI K f) (lC i) (tD W O ψ) σ H Q=oZ σ[i]? H (UC (sI K f) (tD W O ψ) σ Q):=rfl;rw [z,h2];subst hW;refine ⟨as0,B,own,U,I,a7 h' fun y u L r v g=>?_⟩;have hao  := (Za ha).2;have od:ja W.K (mask [a] L) o d:=J.mono ((jZ fun b hb=>by
  simp_all).trans (aG r))
 have dd  := by
  have:=od.den (by simp) (r _ _ C)
  rwa [rq] at this
 cases e:j1 d y with
 | none=>rw [e] at g;exact g.elim
 | some k =>
  rw [e] at g;exact ⟨d,y,k,dd,v.mono (ar _ _),e,aK g rfl⟩
theorem IA (K:aT) (f:Bool->Bool) (Y:i∈O) (u:dh X (YX op) (sI K f)) (hb:JE X b (tD W O ψ)) (hm:aaI op b=η) (L:X.N[i]?=θ x:=by rfl) (hv:sd X.env.scope x:=by walk_at"v") (M:ad9 x:=by decide)
  (g:(x==("__classdict__":Str))=η:=by decide) (hW:W.K=K:=by rfl):JT X (.Compare (.Name x p1) [op] [b] pos) (i9 W O (aX (ao (fun a b=>dD (j1 a b) f) (ae i) ψ))) :=
 (E9 u (jv i L hv M g) hb hm).imp fun σ H Q J=>cJ J fun as0 B own U I h=>B7 K f Y hW I (fF h fun z w Z s3 C r=>by
  cases z with
  | bl k=>cases C;exact r Z (aw.refl _)
  | _=>exact r.elim)
end
def U8 (tab:List (Str×D)) (d:D):R D:=match d with
 | .str x=>(match tab.lookup x with
  | some d=>.ok d
  | none=>.no)
 | _=>.no
section
variable {X:Cx} {W:Wd} {O Ob:ad0} {e:Zq} {φ:FE} {pos p1:Pos}
theorem Kz (tab:List (Str×D)) (hm:X.mg x=θ (.ref a)) (z:X.K.lookup a=θ ⟨.type "dict",ξ,.dict es n,#[]⟩) (C:abr X.w.params es.toList)
  (hv:∀ y d,tab.lookup y=θ d->∃ v u,Y1 X.K a y=θ (θ u)/\aQ v u/\∀ H,cr W.K H d v) (M:JE X e (tD W O φ)) (hg:Gl X x:=by rfl) (r:ad9 x:=by decide) (hs:yg e:=by exact fun _ _=>rfl) :
  JE X (.Subscript (.Name x p1) e pos) (tD W O (LQ (U8 tab) φ)):=⟨by
 intro af s σ H Q I0 ⟨as0,B,own,U,I,h⟩;refine A1 ab7.lookup hs (kz I0 hg hm (bV (M.out af s σ H (fun v H1=>∃ y d,v=.str y/\tab.lookup y=θ d/\cD W (own++as0) H1 (.ok d) Q) I0 ⟨as0,B,own,U,I,a7 h fun y v g L J h2=>?_⟩) fun iv L ⟨yv,g,I2,ry,y,d,ey,q1,q2⟩=>?_) r)
 .unfold U8 at h2;cases y with
  | str x =>
   cases J;simp only at h2;cases q:tab.lookup x with
   | none=>rw [q] at h2;exact h2.elim
   | some d=>simp_all
  | _=>exact h2.elim
 .subst ey;obtain ⟨t,rfl⟩:=ry;let ⟨v,u,h1,h2,h3⟩:=hv y d q1
  let ⟨m,F⟩:=I2.fr
  refine ⟨(adM (prog:=X.prog) I2.kIn z C).typeIs,PySem.W.topGetDict_K F I2.mod.kin z C h1 ⟨v,g,I2.tok _,h2,q2 v g (aw.refl _) (h3 _)⟩⟩⟩
end
section
variable {X:Cx} {W:Wd} {Ob O:ad0} {e f:Zq} {ε ψ:FE} {pos p1 p2 p3 apos cpos apos2 cpos2 apos3 cpos3 tpos:Pos} {x:Str} {tx:Nat}
theorem aH.dropLast {K:aT} (h:aH K H ds xs):aH K H ds.dropLast xs.dropLast:=by
 rw [acM,acM,<- h.len];exact h.take _
end
theorem tab_of {P:Str->D->Prop}:∀ {tab:List (Str×D)},(∀ p∈tab,P p.1 p.2)->∀ {y:Str} {d:D},tab.lookup y=θ d->P y d
 | [],_,_,_,e=>by cases e
 | p::r,h,y,d,e=>by
  rw [aak] at e;cases hb:y==p.1 with
  | true =>
   rw [hb] at e;have e:θ p.2=θ d:=e;cases e
   have:y=p.1:=eq_of_beq hb
   rw [this];exact h p Zc
  | false=>rw [hb] at e;exact tab_of (fun q hq=>h q (lT _ hq)) e
end L2
namespace LX
open PySem PySem.AutoSeq1
open PySem.MeetsSeq PySem.MeetsSeq2 PySem.MeetsSeq3
theorem extend_list (l:YS) (r:Array rW) (n:Nat) (b:YS) (g:Array rW) (n2:Nat) (C:Option YS) (z:Array (Option rW)) (v:¬(!r.isEmpty&&ZK (r.size+g.size))=ζ) (I:r.size<=RW) (u:r.size+g.size<=RW+1) :
  Meets (Builtin.«list.extend» ⟨[.ref l,.ref b],[]⟩) (fun _ R s=>s.heap.get? l=θ { cls:=.type "list",dict:=ξ,data:=.seq r n,slots:=#[] }/\s.heap.get? b=θ { cls:=.type "list",dict:=C,data:=.seq g n2,slots:=z }/\R (.ok (.ret ZS)) { s with heap:=s.heap.update l (Y2 fun x=>x++g),toks:=s.toks }) :=
 .of_wp fun prog w A R s h=>by
  let ⟨hl,hb,h⟩:=h;wp_walk using (wpAny_updateSeq hl rfl),aag hl,aag hb;exact ⟨_,rfl,h⟩
theorem uw (l:YS) (r:Array rW) (n:Nat) (b:YS) (g:Array rW) (n2:Nat) (C:Option YS) (z:Array (Option rW)) (v:¬(!r.isEmpty&&ZK (r.size+g.size))=ζ) (I:r.size<=RW) (u:r.size+g.size<=RW+1) :
  Meets (Builtin.«list.extend» ⟨[.ref l,.ref b],[]⟩) (fun _ R s=>s.heap.get? l=θ { cls:=.type "list",dict:=ξ,data:=.seq r n,slots:=#[] }/\s.heap.get? b=θ { cls:=.type "tuple",dict:=C,data:=.seq g n2,slots:=z }/\R (.ok (.ret ZS)) { s with heap:=s.heap.update l (Y2 fun x=>x++g),toks:=s.toks }) :=
 .of_wp fun prog w A R s h=>by
  let ⟨hl,hb,h⟩:=h;wp_walk using (wpAny_updateSeq hl rfl),aag hl,aag hb;exact ⟨_,rfl,h⟩
end LX
namespace L2
open PySem PySem.Spec PyProof.Rows
section
def wB (K:aT):V->ad7->Hp->VK->Prop:=fun x vs H Q=>∃ l b xs zs,x=.ref l/\vs=[.ref b]/\H l=θ (.lst xs)/\(eV K H b zs\/gU K H b zs)/\xs.length+zs.length<=RW/\Q .non (upd H l (.lst (xs++zs)))
def zN:Vq X "list.extend" (wB X.K):=by
 intro Y s σ H x vs v us Q I M L h;obtain ⟨l,b,xs,zs,rfl,rfl,J,hB,hz,q⟩:=h;cases M;obtain ⟨u,rfl,ru⟩:=L.one;cases ru;let ⟨z,its,n,r,hl,e⟩:=I.lstM J
 rcases hB with hB|hB
 .let ⟨its2,r2,pl,hz2⟩:=I.list hB
  let ⟨⟨cls,dd,data,sl⟩,ho,hc,n2,hd⟩:=pl.isList
  simp only at hc hd;subst hc hd;have C:=r2.length;have hsz:its.toArray.size+its2.toArray.size<=RW:=by rw [YC,YC];lia
  have g:¬ (!its.toArray.isEmpty&&ZK (its.toArray.size+its2.toArray.size))=ζ:=by
   rw [xQ hsz,ab8];exact By
  refine acU F.slot_list_extend ⟨_,e,rfl⟩ F.entry_list_extend (F.args_list_extend_2 _ _) (LX.extend_list l its.toArray n b its2.toArray n2 dd sl g (by rw [YC];lia) (by lia)) ⟨e,ho,?_⟩;refine ⟨.non,_,I.lset (its':=its++its2) J e (by simp) (r.append r2) ?_,rfl,q⟩
  grind
 .let ⟨its2,r2,pl,hz2⟩:=I.tuple hB
  let ⟨⟨cls,dd,data,sl⟩,ho,hc,n2,hd⟩:=pl
  subst hc hd;have C:=r2.length;have hsz:its.toArray.size+its2.toArray.size<=RW:=by grind
  have g:¬ (!its.toArray.isEmpty&&ZK (its.toArray.size+its2.toArray.size))=ζ:=by
   rw [xQ hsz,ab8];exact By
  refine acU F.slot_list_extend ⟨_,e,rfl⟩ F.entry_list_extend (F.args_list_extend_2 _ _) (LX.uw l its.toArray n b its2.toArray n2 dd sl g (by simp_all) (by lia)) ⟨e,ho,?_⟩;refine ⟨.non,_,I.lset J e (by simp) (r.append r2) ?_,rfl,q⟩
  grind
end
section
variable {X:Cx} {W:Wd} {Ob O:ad0} {e f:Zq} {ε φ ψ:FE} {pos p1 p2 apos cpos:Pos} {x:Str}
def Bn (d:D):Option (ad8):=match d with
 | .lst ys=>θ ys
 | .tup ys=>θ ys
 | _=>ξ
def gv (i:Nat) (ε:FE):FS:=fun U=>match U[i]? with
 | some (θ (.lst xs))=>(ε U).bind fun d=>match Bn d with
  | some ys=>if xs.length+ys.length<=1000000 then .ok (.nx (U.set i (θ (.lst (xs++ys))))) else .no
  | none=>.no
 | _=>.no
theorem Cr {K:aT} (h:cr K H d v) (e:Bn d=θ ys):∃ b zs,v=.ref b/\(eV K H b zs\/gU K H b zs)/\aH K H ys zs:=by
 cases d with
 | lst xs=>cases e;obtain ⟨a,vs,rfl,h1,h2⟩:=h;exact ⟨a,vs,rfl,.inl h1,h2⟩
 | tup xs=>cases e;obtain ⟨a,vs,rfl,h1,h2⟩:=h;exact ⟨a,vs,rfl,.inr h1,h2⟩
 | _=>cases e
theorem Da (hi:i∈O) (M:JE X e (tD W O ε)) (Z:X.N[i]?=θ x:=by rfl) (hn:aM e=ζ:=by rfl) (g:(apos.endLine==cpos.line)=ζ:=by rfl) (hv:sd X.env.scope x:=by walk_at"v") (hd:ad9 x:=by decide)
  (C:(x==("__classdict__":Str))=η:=by decide) (r:Y4 (.Name x p1) "extend" X.env (eval (.Name x p1) X.env)=eval (.Name x p1) X.env:=by rfl)
  (hs:Z2 (.Call (.Attribute (.Name x p1) "extend" apos) [e] [] cpos) ξ pos.line X.env=pure η:=by rfl) (hW:W.K=X.K:=by rfl) :
  JS X (.Expr (.Call (.Attribute (.Name x p1) "extend" apos) [e] [] cpos) pos) (sD W Ob O O (gv i ε)) :=
 (mN (MI abp PySem.F.slot_list_extend PySem.F.type_list_extend zN (jv i Z hv hd C) (m5 M qr hn) r g (by grind) (by grind)) hs).imp fun D σ H Y=>cJ Y fun as0 B own U I h=>by
  let ⟨a,ha⟩:=cw I.olen hi
  let ⟨d,o,h1,h2,h3,h4⟩:=I.owns i a ha
  show oZ σ[i]? H (fun x H1=>Qc X.K "list" x H1/\tD W O ε σ H1 fun v J=>wB X.K x [v] J (fun _ H3=>D.nx σ H3));rw [h2];unfold gv at h;rw [h1] at h;cases d with
  | lst ds =>
   obtain ⟨xs,rfl,q⟩:=h4;refine ⟨.inl ⟨rfl,xs,eV.of h3⟩,as0,B,own,U,I,b4 I h fun y v J u L hq=>?_⟩;cases ey:Bn y with
   | none=>rw [ey] at hq;exact hq.elim
   | some ys =>
    rw [ey] at hq;have hq:bx W as0 B Ob O (if ds.length+ys.length<=1000000 then .ok (.nx (U.set i (θ (.lst (ds++ys))))) else .no) D:=hq;split at hq
    .obtain ⟨b,zs,rfl,hb,hz⟩:=Cr L ey;have hm:=cj;refine ⟨a,b,xs,zs,rfl,rfl,u _ _ h3,?_,?_,?_⟩
     .rw [hW] at hb;exact hb.imp (fun z=>(ar _ _).seq z) fun z=>(ar _ _).seqT z
     .have:=q.len;have:=hz.len;lia
     .exact hq own σ _ ((I.mono u).mutate ha ⟨xs++zs,rfl,(q.mono (aG u)).append hz⟩)
    .exact hq.elim
  | _=>exact h.elim
theorem OS (K:aT) (L:i∈O) (hm:X.mg "tuple"=ξ) (C:X.N[i]?=θ x:=by rfl) (hg:Gl X "tuple":=by rfl) (hv:sd X.env.scope x:=by walk_at"v") (J:ad9 x:=by decide)
  (g:(x==("__classdict__":Str))=η:=by decide) (z:X.K=K:=by rfl) (hW:W.K=K:=by rfl):JE X (.Call (.Name "tuple" p2) [.Name x p1] [] pos) (tD W O (ai gQ (aa (ae i) aj))) :=
 (ve (G3 K z) hm qI (m5 (jv i C hv J g) qr) hg).imp fun σ H Q u=>cJ u fun as0 B own U I h=>by
  let ⟨a,ha⟩:=cw I.olen L
  let ⟨d,o,h1,h2,h3,h4⟩:=I.owns i a ha
  show oZ σ[i]? H (fun v H1=>vO K [v] H1 Q);rw [h2];have hv:ae i U=.ok d:=by unfold ae;rw [h1]
  have h':cD W (own++as0) H (gQ [d]) Q:=by
   have e:ai gQ (aa (ae i) aj) U=gQ [d]:=by unfold ai aa aj;rw [hv];rfl
   rw [<- e];exact h
  cases d with
  | lst ds =>
   obtain ⟨xs,rfl,q⟩:=h4;refine .inl ⟨xs,eV.of h3,fun l r=>?_⟩;have hn:=I.new r;exact h' _ _ (aI r _) ⟨l,xs,rfl,.inl (.inl (by rw [aD hn];exact aE)),q.mono (aG (aI r _))⟩
  | _=>first|exact h4.elim|exact h'.elim
end
structure Nw (X:Cx) (af:ad2) (b:YS):Prop where
 base:X.s₀.heap.get? b=ξ
 loc:b≠X.env.locals
 fs:b∉X.fs
 cell:∀ x c,X.env.cells.lookup x=θ c->c≠b
 pin:∀ p∈X.pn++af,p.1≠b
section
variable {σ:St} {s:IF}
theorem Inv.track (I:Inv X af σ H s) (n:Nw X af y) (hy:H y=ξ) (new:dc X.prog X.w (upd H y o) s.heap y o):Inv X af σ (upd H y o) s:=by
 have hs  := aI hy o;refine ⟨I.ok,I.os,I.bare,⟨I.base.keep,I.base.slot,fun b ob e r v=>?_,I.base.there,fun b xs e=>hs _ _ (I.base.tups b xs e),fun b ob u e=>hs _ _ (I.base.frzs b ob u e),fun b ps e=>?_⟩,I.loc,I.cell,?_,fun x c e=>?_,fun p g=>?_,fun a u e=>?_,I.len,I.tk⟩
 .have:b≠y:=fun z=>by rw [z,n.base] at e;cases e
  rw [aA this];exact I.base.free b ob e r v
 .let ⟨more,q⟩:=I.base.tbls b ps e;exact ⟨more,hs _ _ q⟩
 .rw [aA (aaN n.loc)];exact I.free
 .rw [aA (n.cell x c e)];exact I.freeC x c e
 .let ⟨h1,h2,h3⟩:=I.pin p g
  exact ⟨h1,by rw [aA (n.pin p g)];exact h2,h3⟩
 .by_cases ha:a=y
  .subst ha;have C:u=o:=by unfold upd at e;grind
   rw [C];exact new
  .rw [aA ha] at e;exact (I.hok a u e).stay (fun _ _ _ q=>q) (fun b q=>hs _ _ q) fun b xs q=>hs _ _ q
end
abbrev RX (K:aT) (x:Str) (C:YS):Prop:=Y1 K YQ x=θ (θ (.ref C))
section
variable {W:Wd}
theorem RO {O:ad0} {p:Pos} (hm:X.mg x=θ (.ref C)) (hn:RX W.K x C) (hg:Gl X x:=by rfl) (g:ad9 x:=by decide):JE X (.Name x p) (tD W O (vC (.cls x))) :=
 ⟨fun af s σ H Q I ⟨as0,B,own,U,_,h⟩=>kz I hg hm ⟨.ref C,H,I,rfl,h _ H (aw.refl _) ⟨C,rfl,hn⟩⟩ g⟩
end
section
variable {X:Cx} {W:Wd} {Ob O:ad0} {e:Zq} {ε:FE} {pos:Pos}
def TN (i:Nat) (U:Sd) (a:Int) (d:D):R Fl:=match d with
 | .int b=>.ok (.nx (U.set i (θ (.int (a+b)))))
 | _=>.no
def mW (i:Nat) (ε:FE):FS:=fun U=>match U[i]? with
 | some (θ (.int a))=>(ε U).bind (TN i U a)
 | _=>.no
theorem Ci {pos':Pos} (r:i∉O) (M:X.N.Nodup) (J:vZ X.env.scope x) (C:JE X e (tD W O ε)) (Y:X.N[i]?=θ x:=by rfl) (z:X.fn x=ζ\/X.env.scope.names.lookup x=θ .local:=by walk_at"u") :
  JS X (.AugAssign (.Name x pos') .Add e pos) (sD W Ob O O (mW i ε)) :=
 (JS.mk (OA M Y J C.out (NM fun _ _ _ _ _ _ _ q=>iadd_int q) z)).imp fun D' σ H L=>cJ L fun as0 B own U I h=>by
  unfold mW at h;split at h
  .rename_i a ha;let ⟨v,hv,dv⟩:=I.var i _ r ha
   cases dv;refine ⟨.int a,hv,as0,B,own,U,I,b4 I h fun d v H' s g h'=>?_⟩;unfold TN at h';split at h'
   .cases g;exact ⟨_,_,rfl,rfl,h' own _ H' ((I.mono s).set r rfl)⟩
   .exact h'.elim
  .exact h.elim
end
end L2
namespace TS
open PySem PyProof.Rows
structure TO {α:Type} (lt:α->α->Prop):Prop where
 irr:∀ a,¬ lt a a
 tr:∀ a b c,lt a b->lt b c->lt a c
 tri:∀ a b,lt a b\/a=b\/lt b a
abbrev K4:Type:=Int×Int×List Nat×Int
def DE (x y:K4):Prop:=x.1 < y.1\/(x.1=y.1/\(x.2.1 < y.2.1\/(x.2.1=y.2.1/\(x.2.2.1 < y.2.2.1\/(x.2.2.1=y.2.2.1/\x.2.2.2 < y.2.2.2)))))
instance (x y:K4):Decidable (DE x y):=by unfold DE;infer_instance
section
theorem l1 {a a':Int} {k l:Int×List Nat×Int} (h:a≠a'):DE (a,k) (a',l) ↔ a < a':=by simp [DE,h]
theorem l2 {a b b':Int} {k l:List Nat×Int} (h:b≠b'):DE (a,b,k) (a,b',l) ↔ b < b':=by simp [DE,h]
theorem l3 {a b c g:Int} {m n:ad0} (h:m≠n):DE (a,b,m,c) (a,b,n,g) ↔ m < n:=by simp [DE,h]
theorem l4 {a b c c':Int} {m:ad0}:DE (a,b,m,c) (a,b,m,c') ↔ c < c':=by simp [DE,List.lt_irrefl]
end
end TS
namespace L2
open PySem PySem.Spec PyProof.Rows
open TS (K4 DE)
theorem C6 {α:Type} {a:α} {P:Prop} (h:(ξ:Option α)=θ a):P:=by cases h
def Yd:D->Option Int
 | .int n=>θ n
 | _=>ξ
theorem Km (h:Yd d=θ n):d=.int n:=by
 cases d with
 | int i=>exact adZ D.int (ZY h)
 | _=>exact C6 h
noncomputable def Xk (v:D) (n:Int):Option K4:=match v with
 | .non=>θ (0,0,[],n)
 | .int i=>θ (1,i,[],n)
 | .str z=>θ (2,0,z.cps.toList,n)
 | _=>ξ
def WT (xs:ad8):Option K4:=match xs with
 | [v,w]=>(Yd w).bind (Xk v)
 | _=>ξ
def yB (d:D):Option K4:=match d with
 | .tup xs=>WT xs
 | _=>ξ
noncomputable def ax (k:K4):D:=if k.1=0 then .tup [.non,.int k.2.2.2] else if k.1=1 then .tup [.int k.2.1,.int k.2.2.2] else .tup [.str ⟨k.2.2.1.toArray⟩,.int k.2.2.2]
theorem ED (h:yB d=θ k):ax k=d:=by
 cases d with
 | tup xs =>
  match xs,h with
  | [],h=>exact C6 h
  | [v],h=>exact C6 h
  | [v,w],h =>
   let ⟨n,e1,e2⟩:=dO.mp h
   rw [Km e1];cases v with
   | non=>cases e2;rfl
   | int i=>cases e2;rfl
   | str z=>cases e2;rfl
   | _=>exact C6 e2
  | v::w::u::r,h=>exact C6 h
 | _=>exact C6 h
end L2
namespace L2
open PySem PySem.Spec PyProof.Rows
section
variable {W:Wd} {X:Cx}
noncomputable def il (p:ZO):List ZO->Option Bool
 | []=>θ η
 | q::r=>if YM q=ζ/\q.depth<=32 then (il p r).map fun b=>Z4 q p||b else ξ
def nJ (x:D) (xs:ad8):Option Bool:=match cI x,dm xs with
 | some p,θ ps=>if YM p=ζ then il p ps else ξ
 | _,_=>ξ
def Q0 (K:aT):R2:=fun x y H Q=>∃ p a ds xs k,y=.ref p/\gU K H p xs/\cr K H a x/\aH K H ds xs/\nJ a ds=θ k/\Q (.bl k) H
open Classical in
noncomputable def sY (s:IF) (p:ZO) (u:rW):Bool:=decide (∃ q bs,Reads s.heap u q bs/\q.canLay0=ζ/\Z4 q p=ζ)
theorem Hq (r:Reads s.heap u q bs) (hq:q.canLay0=ζ):sY s p u=Z4 q p:=by
 classical
 cases e:Z4 q p with
 | true=>exact @adX _ (_) ⟨q,bs,r,hq,e⟩
 | false =>
  refine @adW _ (_) fun ⟨q',g,v,_,z⟩=>?_
  have:=SeqAt.Reads.unique q q' u bs g hq r v
  grind
theorem xr {M:ad2} {σ:St} {H:Hp} {s:IF} (I:Inv X M σ H s) (Y:X.A.units+64 < aa3) {v:rW} {p:ZO} {as:ad5} (C:Reads s.heap v p as) (J:YM p=ζ):∀ {ds:ad8} {vs:ad7} {us:ad6} {ps:List ZO} {k:Bool},aH X.K H ds vs->aU vs us->dm ds=θ ps->il p ps=θ k ->
  (∀ u∈us,adq X.A.in1 s u v (sY s p u))/\us.any (sY s p)=k
 | [],_,_,_,_,h,r,e,q=>by
  cases h;cases r;cases e;cases q
  grind
 | d::ds,_,_,_,k,⟨w1,ws,h0,h1,h2⟩,r,e,q=>by
  subst h0;unfold dm at e;cases q1:cI d with
  | none=>simp_all
  | some x =>
   rw [q1] at e;cases q2:dm ds with
   | none=>grind
   | some xs =>
    rw [q2] at e;cases e;unfold il at q;split at q
    .rename_i hs;cases q3:il p xs with
     | none=>grind
     | some k2 =>
      cases r with
      | @cons _ u _ us r1 r2 =>
       let ⟨bs,hb⟩:=cu I h1 r1 q1
       let ⟨i1,i2⟩:=xr I Y C J h2 r2 q2 q3
       have hq:=Zu hs.1;have Z:=Hq (p:=p) hb hq;refine ⟨fun L g=>?_,by grind⟩;rcases mK.mp g with z|z
       .subst z;rw [Z];refine adF x p X.A.in1 s _ v bs as hb C hq (Zu J) ?_
        grind
       .exact i1 L z
    .cases q
theorem PV (h:nJ x xs=θ k):∃ p ps,cI x=θ p/\dm xs=θ ps/\YM p=ζ/\il p ps=θ k:=by
 unfold nJ at h;split at h
 .simp_all
 .cases h
theorem Qu (K:aT) (M:X.A.units+64 < aa3) (Y:X.K=K:=by rfl):dh X (YX .In) (Q0 K):=by
 subst Y;intro af s σ H x y v u Q I Z ry h;obtain ⟨p,a,ds,xs,k,rfl,hl,J,L,e,q⟩:=h;cases ry;obtain ⟨g,ps,h1,h2,z,C⟩:=PV e;let ⟨as,ra⟩:=cu I J Z h1
 let ⟨its,r,pl,hz⟩:=I.tuple hl
 let ⟨i1,i2⟩:=xr I M ra z L r h2 C
 refine adD (sY s g) pl (fun y hy=>i1 y (by simpa using hy)) ⟨.bl k,H,I,?_,q⟩;rw [show (its.toArray.any (sY s g))=its.any (sY s g) by simp,i2];rfl
def MD (x y:D):Option Bool:=match y with
 | .tup ds=>nJ x ds
 | _=>ξ
def yG (x y:D):R D:=dD (MD x y) fun k=>k
theorem Qz (K:aT) (hW:W.K=K:=by rfl):n6 W (Q0 K) yG:=by
 subst hW;intro as H x y a b Q hn r g h;unfold yG at h;cases e:MD a b with
 | none=>rw [e] at h;exact h.elim
 | some k =>
  rw [e] at h;have fin:=aK h ((rfl));cases b with
  | tup ds =>
   obtain ⟨p,xs,rfl,h1,h2⟩:=g;exact ⟨p,a,_,xs,k,rfl,(ar _ _).seqT h1,r.mono (ar _ _),h2.mono (ar _ _),e,fin⟩
  | _=>cases e
end
end L2
namespace HT
open PySem PySem.Spec PyProof.Rows L2
section
theorem kM {lo r:Option Int} (ht:adx s.heap t items) (hs:s.heap.IsSliceOf sl vl vu .none) (pl:IsPart vl lo) (v:IsPart vu r)
  (hw:sIx items.size 0 lo=0/\sIx items.size items.size r=items.size) (h:Q (.ref t) s):YH (YN prog w) A (aca (.ref t) (.ref sl)) Q E s:=by
 let ⟨os,hos,hcs,hds⟩:=id hs
 have u:s.TypeIs (.ref sl) "slice":=⟨os,hos,hcs⟩;unfold aca;try with_reducible refine ZI ?_
 refine bY (wpAny_sequenceKey ht.typeIs (by decide) ?_);refine bY (Zr ht.typeIs Zl
  (Zf Zl ht.typeIs entry_tuple_getitem ?_ (args_tuple_getitem _ _)))
 show YH _ _ (ab2 (.ref t) >>= _) _ _ s;refine bY (tupleItemsOf_ ht ?_);refine bY (acR u ?_);refine bY (iH hs pl v ?_);have g:(((sIx items.size 0 lo):Int)==0&&(1:Int)==1&&(sIx items.size items.size r - sIx items.size 0 lo)==items.size)=ζ:=by
  simp_all
 show YH _ _ (if (((sIx items.size 0 lo):Int)==0&&1==1&&(sIx items.size items.size r - sIx items.size 0 lo)==items.size)=ζ then _ else _) _ _ s;rw [adU g];refine bY ?_;refine bY (acR ht.typeIs (nE ?_))
 first
  | assumption
  | lia
  | lia
  | exact bY (aco (nE ⟨_,rfl,nE h⟩))
end
end HT
namespace L2
open PySem PySem.Spec PyProof.Rows
section
variable {X:Cx} {W:Wd}
def Xb (K:aT):V->Option Int->Option Int->Hp->VK->Prop:=fun x lo g H Q=>∃ a xs,x=.ref a/\gU K H a xs/\(HT.sIx xs.length 0 lo=0/\HT.sIx xs.length xs.length g=xs.length)/\Q (.ref a) H
def R4 (K:aT) (x:V) (lo g:Option Int) (H:Hp) (Q:VK):Prop:=Uv K x lo g H Q\/Xb K x lo g H Q
theorem Wr (K:aT) (C:X.K=K:=by rfl):x6 X (R4 K):=by
 subst C;exact QL.or (by
   intro J s σ H x v Z M lo Y L Q I z hs pl g h;obtain ⟨a,xs,rfl,u,hw,q⟩:=h;cases z;let ⟨its,r,ht,hz⟩:=I.tuple u
   have hlen  := by exact r.length.symm
   refine ⟨"tuple",_,Zl.lookup,ht.typeIs,?_⟩;exact HT.kM ht hs pl g (by grind) ⟨.ref a,H,I,rfl,q⟩)
def yJ (a:D) (lo g:Option Int):R D:=match a with
 | .tup xs=>if HT.sIx xs.length 0 lo=0/\HT.sIx xs.length xs.length g=xs.length then .ok (.tup xs) else .ok (.tup (gT xs lo g))
 | d=>jH d lo g
theorem XB (K:aT) (hW:W.K=K:=by rfl):Ve W (R4 K) yJ:=by
 subst hW;intro as H x lo r a Q hn g h;unfold yJ at h;split at h
 .split at h
  .rename_i hc;have u:=g;obtain ⟨p,vs,rfl,q1,q2⟩:=g;rw [q2.len] at hc;exact .inr ⟨p,vs,rfl,(ar _ _).seqT q1,hc,aK h u⟩
  .refine .inl (V7 W.K rfl as H x lo r _ Q hn g ?_);unfold jH
   grind
 .exact .inl (V7 W.K rfl as H x lo r _ Q hn g h)
theorem SK {lo g:Option Int}:yJ (.tup xs) lo g=.ok (.tup (gT xs lo g)):=by
 unfold yJ;dsimp only;split
 .unfold gT
  grind
 .rfl
end
section
variable {X:Cx} {W:Wd} {Ob O O2:ad0} {e ie:Zq} {φ ε:FE} {pos p1 spos:Pos} {x:Str}
abbrev FG:Type:=D->Sd->R Sd
def gF (W:Wd) (O:ad0) (f:FG):TG:=fun v σ H Q=>∃ as0 B own U d,DI W.K as0 B O own σ U H/\cr W.K (mask (own++as0) H) d v/\match f d U with
 | .ok δ'=>∀ g H',aw (mask (own++as0) H) (mask (own++as0) H')->DI W.K as0 B O own g δ' H'->Q g H'
 | _=>False
theorem Eg (h:JG X t (gD W O tg)):JG X t (gF W O (cO tg)):=h.imp fun v σ H Q ⟨as0,B,own,U,d,I,dv,h⟩=>by
 refine ⟨as0,B,own,U,d,I,dv,?_⟩;cases q:cO tg d U with
 | ok δ'=>rw [q] at h;exact fun g r=>h g H (fun _ _ e=>e) r
 | er y=>rw [q] at h;exact h
 | no=>rw [q] at h;exact h
def Dw (f:FG) (ε:FE):FS:=fun U=>(ε U).bind fun d=>match f d U with
 | .ok δ'=>.ok (.nx δ')
 | _=>.no
theorem N9 (r:JE X e (tD W O ε)) (hg:JG X t (gF W O f)) (hs:swapsWithSole [t] e pos.line X.env=pure η:=by rfl) (hw:swappedStores [t] e X.env=pure ξ:=by rfl)
  (h1:(Zn [t] X.env).map (·.2)=[assign t X.env]:=by rfl):JS X (.Assign [t] e pos) (sD W Ob O O (Dw f ε)):=(qi r hg hs hw h1).imp fun D σ H u=>cJ u fun as0 B own U I h =>
 ⟨as0,B,own,U,I,b4 I h fun d v H' s C h'=>by
  refine ⟨as0,B,own,U,d,I.mono s,C,?_⟩;cases e1:f d U with
  | ok δ'=>rw [e1] at h';exact fun g z _ J=>h' own g z J
  | er y=>rw [e1] at h';exact h'
  | no=>rw [e1] at h';exact h'⟩
theorem F5 (h:ε U=.ok d) (g:f d U=.ok δ'):Dw f ε U=.ok (.nx δ'):=by
 unfold Dw;rw [h];show (match f d U with|.ok δ'=>R.ok (Fl.nx δ')|_=>.no)=_;rw [g]
end
section
variable {X:Cx} {W:Wd} {O:ad0} {tg:Zq}
theorem Ht {ws:ad6} (ht:adx s.heap t #[]) (hb:adx s.heap b ws.toArray) (h:Q (.ref b) s):YH (YN prog w) A (Z7 .Add (.ref t) (.ref b)) Q E s:=by
 obtain ⟨⟨cls,M,I,L⟩,C,Y,n,Z⟩:=id ht;obtain ⟨⟨J,u,data2,v⟩,g,z,n2,r⟩:=id hb;subst Y Z z r;exact concat_meets ⟨_,C,rfl⟩ ⟨_,g,rfl⟩ noFill_tuple_add seq_tuple_add abv abn (abf _ _) (tuple_addW0 t b #[] ws.toArray n n2 M u L v rfl) ⟨C,g,h⟩
def EF (K:aT):R2:=fun x y H Q=>Ay K x y H Q\/∃ l b zs,x=.ref l/\y=.ref b/\gU K H l []/\gU K H b zs/\Q (.ref b) H
theorem P3 (K:aT) (g:X.K=K:=by rfl):dh X (Z7 .Add) (EF K):=by
 subst g;refine (LM X.K).or ?_;intro C s σ H x y v u Q I r z h;obtain ⟨l,b,zs,rfl,rfl,h1,h2,q⟩:=h;cases r;cases z;let ⟨its,r1,p1,_⟩:=I.tuple h1
 let ⟨its2,r2,p2,_⟩:=I.tuple h2
 cases r1;exact Ht p1 p2 ⟨.ref b,H,I,rfl,q⟩
def ia (a b:D):R D:=match a with
 | .tup []=>(match b with
  | .tup ys=>.ok (.tup ys)
  | _=>.no)
 | a=>bm a b
theorem RA (K:aT) (hW:W.K=K:=by rfl):n6 W (EF K) ia:=by
 intro as H x y a b Q hn r g h;unfold ia at h;split at h
 .split at h
  .obtain ⟨p,vs,rfl,q1,q2⟩:=r;cases q2;obtain ⟨p2,ws,rfl,q3,q4⟩:=g;subst hW;exact .inr ⟨p,p2,ws,rfl,rfl,(ar _ _).seqT q1,(ar _ _).seqT q3,aK h ⟨p2,ws,rfl,q3,q4⟩⟩
  .exact h.elim
 .exact .inl (QP K hW as H x y a b Q hn r g h)
variable {apos cpos:Pos}
end
section
variable {σ:St}
theorem Inv.frzD (I:Inv X af σ H s) (e:H a=θ (.dK kvs)):∃ o,Inv X af σ (upd H a (.frz o (.dK kvs))) s:=by
 have ok  := I.hok a _ e;obtain ⟨z,y,vs,r,ob,es,C,g,c⟩:=id ok;refine ⟨ob,?_⟩;have ne:∀ b u,H b=θ u->u≠.dK kvs->b≠a:=fun b u q n z=>by simp_all
 refine I.step (ch:=[]) (fun _ z=>nomatch z) (fun b o _ _ _ q _=>q) (fun b o _ _ _ q _=>⟨o.slots,q⟩)
  (fun b o _ _ n=>by rw [aA (fun z=>by grind)];exact n) (fun b o _ q=>⟨o,q⟩)
  (fun b xs q=>by rw [aA (ne b _ q (fun z=>nomatch z))];exact q) (fun b o u q=>by rw [aA (ne b _ q (fun z=>nomatch z))];exact q) (fun b ps q=>⟨#[],by rw [aA (ne b _ q (fun z=>nomatch z)),q];simp⟩) (fun m h=>h) ?_ I.bare
 intro b u q;have st:∀ {b:YS} {u:HO},dc X.prog X.w H s.heap b u->dc X.prog X.w (upd H a (.frz ob (.dK kvs))) s.heap b u:=fun {b u} x =>
  x.stay (fun c v _ q=>q) (fun c q=>by rw [aA (ne c _ q (fun z=>nomatch z))];exact q) fun c xs q=>by rw [aA (ne c _ q (fun z=>nomatch z))];exact q
 by_cases hb:b=a
 .subst hb;rw [aE] at q;cases q;exact ⟨g,st ok⟩
 .rw [aA hb] at q;exact st (I.hok b u q)
end
def fzD:D->R D
 | .dct ds=>.ok (.dcf ds)
 | _=>.no
def Gx (φ:FE):FE:=fun U=>(φ U).bind fzD
section
variable {X:Cx} {W:Wd} {Ob O O2 O':ad0} {e:Zq} {φ:FE} {ψ:FS} {st:aa0} {sts:List aa0}
theorem Ol (h:JE X e (tN W O φ)):JE X e (tD W O (Gx φ)):=by
 refine ⟨fun L s σ H Q I q=>?_⟩;let ⟨as0,B,own,U,DIh,q⟩:=q
 have q':ij W (own++as0) H (φ U) fun v H1=>∃ p g,v=.ref p/\H1 p=θ (.dK g)/\∀ o,Q v (upd H1 p (.frz o (.dK g))):=by
  unfold Gx at q;cases hr:φ U with
  | er x=>rw [hr] at q;exact q
  | no=>rw [hr] at q;exact q
  | ok d =>
   rw [hr] at q;cases d with
   | dct ds =>
    intro p o H' r C J od;obtain ⟨xs,rfl,od⟩:=od;refine ⟨p,xs,rfl,J,fun ob=>?_⟩;have hn:=DIh.new C;refine q (.ref p) _ (fun b u z=>?_) ⟨p,ob,xs,rfl,?_,od.mono fun b u z=>?_⟩
    .rw [aA (a9 z C)];exact r b u z
    .rw [aD hn];exact aE
    .by_cases hb:b∈p::(own++as0)
     .rw [bT hb] at z;cases z
     .rw [aD hb] at z;have h1:=fun w=>hb (mK.mpr (.inl w));have h2:=fun w=>hb (mK.mpr (.inr w));rw [aD h2,aA h1];exact z
   | _=>exact q.elim
 refine Zm (h.out L s σ H _ I ⟨as0,B,own,U,DIh,q'⟩) (fun u r ⟨x,H1,I1,rx,p,g,e1,e2,hq⟩=>by
  let ⟨o,I2⟩:=I1.frzD e2
  exact ⟨x,_,I2,rx,hq o⟩) fun _ _ h=>h
theorem DI.frzO {K:aT} (I:DI K as0 B O own σ U H) (M:(i,a)∈O.zip own) (h1:U[i]?=θ (θ (.dct ds))) (h2:σ[i]?=θ (θ (.ref a)))
  (h4:bH K (mask (own++as0) H) ds xs) (ob:Obj):∃ C,DI K as0 B (O.filter fun k=>decide (k≠i)) C σ (U.set i (θ (.dcf ds))) (upd H a (.frz ob (.dK xs))):=by
 generalize hp:(fun k:Nat=>decide (k≠i))=p;have pi:∀ k,p k=decide (k≠i):=fun k=>by rw [<- hp]
 have r:(bj p O own).Sublist own:=iq;have mem:∀ a∈bj p O own,a∈own:=fun a g=>r.mem g;have g:a∈own:=(Za M).2;have hil:i < U.length:=(K2.mp h1).1;have J:a∉bj p O own:=fun z=>by
  obtain ⟨j,h5,h6⟩:=iu z
  have:=zip_inj I.nd M h5
  subst this;rw [pi] at h6;exact adY h6 rfl
 have s:aw (mask (own++as0) H) (mask (bj p O own++as0) (upd H a (.frz ob (.dK xs)))):=fun b u z=>by
  by_cases hb:b∈own++as0
  .rw [bT hb] at z;cases z
  .rw [aD hb] at z;rw [aD fun w=>hb ?_,aA fun w=>hb ?_]
   .exact z
   .rw [w];exact YY _ g
   .rcases xb.mp w with w|w
    .exact YY _ (mem b w)
    .exact MK _ w
 refine ⟨bj p O own,by simp [I.len],jS I.olen,I.nd.sublist r,I.ond.sublist abX,fun a g=>I.fresh a (mem a g),I.ex0,fun b u z=>?_,fun j d Y q=>?_,fun j b Y=>?_⟩
 .rw [aA (fun w=>by rw [w,I.fresh a g] at z;cases z)];exact I.same b u z
 .rw [getElem?_set'] at q;split at q
  .rename_i hij;subst hij;cases q;refine ⟨.ref a,h2,a,ob,xs,rfl,?_,h4.mono s⟩;rw [aD fun w=>?_]
   .exact aE
   .rcases xb.mp w with w|w
    .exact J w
    .exact I.apart a g w
  .have hO  := fun w=>Y (Zi.mpr ⟨w,by grind⟩);let ⟨v,q1,q2⟩:=I.var j d hO q
   exact ⟨v,q1,q2.mono s⟩
 .let ⟨hz,hpj⟩:=dX Y
  let ⟨d,o,q1,q2,q3,q4⟩:=I.owns j b hz
  have L:i≠j:=fun z=>by simp_all
  have Z:b≠a:=fun z=>L (zip_inj I.nd M (z ▸ hz));exact ⟨d,o,by simp_all,q2,by rw [aA Z];exact q3,q4.mono s⟩
noncomputable def DG (i:Nat) (ψ:FS):FS:=fun U=>match U[i]? with
 | some (θ (.dct ds))=>ψ (U.set i (θ (.dcf ds)))
 | _=>.no
theorem NW {σ:St} {D:Ends} (v:i∈O) (I:Inv X af σ H s) (q:sD W Ob O O' (DG i ψ) D σ H):∃ H',Inv X af σ H' s/\sD W Ob (O.filter fun k=>decide (k≠i)) O' ψ D σ H':=by
 obtain ⟨as0,B,own,U,g,q⟩:=q;let ⟨a,ha⟩:=cw g.olen v
 obtain ⟨d,o,h1,h2,u,r⟩:=g.owns i a ha;unfold DG at q;rw [h1] at q;cases d with
 | dct ds =>
  obtain ⟨xs,rfl,r⟩:=r;let ⟨ob,I'⟩:=I.frzD u
  let ⟨own2,D2⟩:=g.frzO ha h1 h2 r ob
  exact ⟨_,I',as0,B,own2,_,D2,q⟩
 | _=>exact q.elim
theorem UB (h:JB X sts (sD W Ob O2 O' ψ)) (v:i∈O:=by decide) (r:O.filter (fun k=>decide (k≠i))=O2:=by decide):JB X sts (sD W Ob O O' (DG i ψ)):=by
 subst r;refine ⟨fun u s σ H D I q=>?_⟩;obtain ⟨H',g,q'⟩:=NW v I q;exact h.out u s σ H' D g q'
end
def cb:D->Option Key
 | .int i=>θ (.inl i)
 | .str x=>θ (.inr x)
 | .non=>θ .nn
 | _=>ξ
noncomputable def j6:Key->D
 | .inl i=>.int i
 | .inr x=>.str x
 | .nn=>.non
theorem cU {K:aT} (h:cr K H d v) (e:cb d=θ k):v=kV k:=by
 cases d with
 | int i=>cases e;exact h
 | str x=>cases e;exact h
 | non=>cases e;exact h
 | _=>cases e
theorem p9 {K:aT}:∀ k:Key,cr K H (j6 k) (kV k)
 | .inl i=>rfl
 | .inr x=>rfl
 | .nn=>rfl
noncomputable def bv (g:List (Key×D)) (k:Key):Option D:=(g.find? fun r=>decide (r.1=k)).map (·.2)
def cx (g:List (Key×D)) (k:Key) (d:D):List (Key×D) :=
 if (bv g k).isSome=ζ then g.map fun q=>if q.1=k then (q.1,d) else q else g++[(k,d)]
section
variable {K:aT}
theorem bH.val:∀ {ds:List (Key×D)} {xs:List (Key×V)} (k:Key),bH K H ds xs->(bv ds k=ξ/\fX xs k=ξ)\/∃ d v,bv ds k=θ d/\fX xs k=θ v/\cr K H d v
 | [],_,k,h=>by cases h;exact .inl ⟨rfl,rfl⟩
 | (k',d)::r,_,k,⟨v,vs,e,h1,h⟩=>by
  subst e;by_cases q:k'=k
  .exact .inr ⟨d,v,by simp [bv,Zg,q],iR q,h1⟩
  .rw [iJ q,show bv ((k',d)::r) k=bv r k by simp [bv,Zg,q]];exact bH.val k h
theorem bH.len:∀ {ds:List (Key×D)} {xs:List (Key×V)},bH K H ds xs->ds.length=xs.length
 | [],_,h=>by cases h;rfl
 | (k',d)::r,_,⟨v,vs,e,_,h⟩=>by subst e;simp [bH.len h]
theorem bH.snoc:∀ {ds:List (Key×D)} {xs:List (Key×V)} {k:Key} {d:D} {v:V},bH K H ds xs->cr K H d v->bH K H (ds++[(k,d)]) (xs++[(k,v)])
 | [],_,k,d,v,h,hd=>by cases h;exact ⟨v,[],rfl,hd,rfl⟩
 | (k',d')::r,_,k,d,v,⟨v',vs,e,h1,h⟩,hd=>by subst e;exact ⟨v',_,rfl,h1,bH.snoc h hd⟩
theorem bH.repl:∀ {ds:List (Key×D)} {xs:List (Key×V)} (k:Key) {d:D} {v:V},bH K H ds xs->cr K H d v ->
  bH K H (ds.map fun q=>if q.1=k then (q.1,d) else q) (xs.map fun q=>if q.1=k then (q.1,v) else q)
 | [],_,k,d,v,h,hd=>by cases h;exact rfl
 | (k',d')::r,_,k,d,v,⟨v',vs,e,h1,h⟩,hd=>by
  subst e;rw [YB,YB];have g:=bH.repl k h hd;by_cases q:k'=k
  .rw [adU q,adU q];exact ⟨v,_,rfl,hd,g⟩
  .rw [adV q,adV q];exact ⟨v',_,rfl,h1,g⟩
theorem bH.put (h:bH K H ds xs) (g:cr K H d v):bH K H (cx ds k d) (gW xs k v):=by
 have e:(bv ds k).isSome=(fX xs k).isSome:=by
  rcases h.val k with ⟨a,b⟩|⟨a,b,r,u,_⟩
  .rw [a,b];rfl
  .rw [r,u];rfl
 unfold cx gW;rw [mL,e];split
 .exact h.repl k g
 .exact h.snoc g
end
section
variable {X:Cx} {W:Wd} {Ob O O':ad0} {a b e:Zq} {φ ψ χ ε:FE} {pos p1 p2 apos cpos:Pos} {x:Str}
def wV:V->V->V->Hp->(Hp->Prop)->Prop:=fun o i v H Q=>∃ p g k,o=.ref p/\i=kV k/\H p=θ (.dK g)/\g.length < RW/\Q (upd H p (.dK (gW g k v)))
theorem nz (C:X.A.units+1 < aa3):MF X wV:=by
 intro af s σ H o i v ov Z u Q I g z r h;obtain ⟨p,J,k,rfl,rfl,L,M,q⟩:=h;cases g;exact Cj C I (JM.k L M) z r fun s' Y=>⟨_,Y,q⟩
def lf (i:Nat) (ψ ε:FE):FS:=fun U=>match U[i]? with
 | some (θ (.dct kvs))=>(ε U).bind fun d=>(ψ U).bind fun k=>match cb k with
  | some k=>if kvs.length < 1000000 then .ok (.nx (U.set i (θ (.dct (cx kvs k d))))) else .no
  | none=>.no
 | _=>.no
theorem Jy {spos:Pos} (M:X.A.units+64 < aa3) (hi:i∈O) (he:JE X e (tD W O ε)) (L:JE X ie (tD W O ψ)) (hN:X.N[i]?=θ x:=by rfl) (hv:sd X.env.scope x:=by walk_at"v") (hd:ad9 x:=by decide)
  (J:(x==("__classdict__":Str))=η:=by decide) (hs:swapsWithSole [.Subscript (.Name x p1) ie spos] e pos.line X.env=pure η:=by rfl) (hw:swappedStores [.Subscript (.Name x p1) ie spos] e X.env=pure ξ:=by rfl)
  (h1:(Zn [.Subscript (.Name x p1) ie spos] X.env).map (·.2)=[assign (.Subscript (.Name x p1) ie spos) X.env]:=by rfl)
  (ha:∀ v,assign (.Subscript (.Name x p1) ie spos) X.env v=(do
   let ov <- holding [v] (eval (.Name x p1) X.env)
   let iv <- holding [v,ov] (eval ie X.env)
   acy spos
   holding [v,ov,iv] (setItem ov iv v)
   release [v,ov,iv] []):=by intro _;rfl) :
  JS X (.Assign [.Subscript (.Name x p1) ie spos] e pos) (sD W Ob O O (lf i ψ ε)) :=
 (qi he (yF (jv i hN hv hd J) L (nz (by lia)) ha) hs hw h1).imp fun D σ H hh=>cJ hh fun as0 B own U I h=>by
  let ⟨a,hza⟩:=cw I.olen hi
  let ⟨d,o,h1,h2,h3,h4⟩:=I.owns i a hza
  unfold lf at h;rw [h1] at h;cases d with
  | dct ds =>
   obtain ⟨xs,rfl,q⟩:=h4;refine ⟨as0,B,own,U,I,b4 I h fun y v z r Z hq=>?_⟩;have e0:yP (lC i) (tD W O ψ) wV v σ z D.nx=oZ σ[i]? z (fun o H1=>tD W O ψ σ H1 fun i z=>wV o i v z fun Y=>D.nx σ Y):=rfl;rw [e0,h2];refine ⟨as0,B,own,U,I.mono r,b4 (I.mono r) hq fun k u Y C d3 g=>?_⟩;cases e:cb k with
   | none=>rw [e] at g;exact g.elim
   | some ks =>
    rw [e] at g;have g:bx W as0 B Ob O (if ds.length < 1000000 then .ok (.nx (U.set i (θ (.dct (cx ds ks y))))) else .no) D:=g;split at g
    .have M:=cU d3 e;subst M;have hm:=cj;refine ⟨a,xs,ks,rfl,rfl,(r.trans C) _ _ h3,by rw [<- q.len];lia,?_⟩;exact g own σ _ (((I.mono r).mono C).mutate hza ⟨_,rfl,(q.mono (aG (r.trans C))).put (Z.mono (aG C))⟩)
    .exact g.elim
  | _=>exact h.elim
def cX (g:List (Key×D)) (k:Key):List (Key×D):=g.filter fun r=>decide (r.1≠k)
theorem bH.drop {K:aT}:∀ {ds:List (Key×D)} {xs:List (Key×V)} (k:Key),bH K H ds xs->bH K H (cX ds k) (jx xs k)
 | [],_,k,h=>by cases h;exact rfl
 | (k',d')::r,_,k,⟨v',vs,e,h1,h⟩=>by
  subst e;have g:=bH.drop k h;by_cases q:k'=k
  .rw [(Ch q),show cX ((k',d')::r) k=cX r k by simp [cX,Z8,q]];exact g
  .rw [(Ce q),show cX ((k',d')::r) k=(k',d')::cX r k by simp [cX,Z8,q]];exact ⟨v',_,rfl,h1,g⟩
def rM (i:Nat) (ψ:FE):FS:=fun U=>match U[i]? with
 | some (θ (.dct kvs))=>(ψ U).bind fun k=>match cb k with
  | some k=>if (bv kvs k).isSome=ζ then .ok (.nx (U.set i (θ (.dct (cX kvs k))))) else .no
  | none=>.no
 | _=>.no
theorem Jm (hi:i∈O) (he:JE X e (tD W O ε)) (hN:X.N[i]?=θ x:=by rfl) (hn:aM e=ζ:=by rfl) (g:(apos.endLine==cpos.line)=ζ:=by rfl) (hv:sd X.env.scope x:=by walk_at"v") (hd:ad9 x:=by decide)
  (M:(x==("__classdict__":Str))=η:=by decide) (r:Y4 (.Name x p1) "pop" X.env (eval (.Name x p1) X.env)=eval (.Name x p1) X.env:=by rfl)
  (hs:Z2 (.Call (.Attribute (.Name x p1) "pop" apos) [e] [] cpos) ξ pos.line X.env=pure η:=by rfl)
  (z:((aaa cpos (YI [e] X.env)).all (fun x=>!x.1)&&(backToKw cpos (aaJ [] X.env)).all (fun x=>x.1.isSome)&&decide (([e]:List Zq).length+([]:List aaQ).length+(if ([]:List aaQ).isEmpty then 0 else 1) < 30))=ζ:=by rfl)
  (J:aaa cpos (YI [e] X.env)=[(η,eval e X.env)]:=by rfl) :
  JS X (.Expr (.Call (.Attribute (.Name x p1) "pop" apos) [e] [] cpos) pos) (sD W Ob O O (rM i ε)) :=
 (mN ⟨wK (jv i hN hv hd M).out he.out ⟨r,z,g,J⟩⟩ hs).imp fun D σ H hh=>cJ hh fun as0 B own U I h=>by
  let ⟨a,ha⟩:=cw I.olen hi
  let ⟨d,o,h1,h2,h3,h4⟩:=I.owns i a ha
  have e0:tP (uQ (lC i) (tD W O ε)) D σ H=oZ σ[i]? H (fun x H1=>∃ a,x=.ref a/\SD H1 a/\tD W O ε σ H1 fun y L=>∃ u k v,L a=θ (.dK u)/\y=kV k/\fX u k=θ v/\D.nx σ (upd L a (.dK (jx u k)))):=rfl;rw [e0,h2];unfold rM at h;rw [h1] at h;cases d with
  | dct ds =>
   obtain ⟨xs,rfl,q⟩:=h4;refine ⟨a,rfl,.inl ⟨xs,.inl h3⟩,as0,B,own,U,I,b4 I h fun y v L C d2 hq=>?_⟩;cases e:cb y with
   | none=>rw [e] at hq;exact hq.elim
   | some k =>
    rw [e] at hq;have hq:bx W as0 B Ob O (if (bv ds k).isSome=ζ then .ok (.nx (U.set i (θ (.dct (cX ds k))))) else .no) D:=hq;have hy:=cU d2 e;subst hy;rcases q.val k with ⟨Y,Z⟩|⟨d',v',Y,Z,_⟩
    .rw [Y] at hq;exact hq.elim
    .rw [Y] at hq;exact ⟨xs,k,v',C _ _ h3,rfl,Z,hq own σ _ ((I.mono C).mutate ha ⟨_,rfl,(q.mono (aG C)).drop k⟩)⟩
  | _=>exact h.elim
noncomputable def ig:D->Option (List (Key×D))
 | .dct k=>θ k
 | .dcf k=>θ k
 | _=>ξ
theorem fJ {K:aT} (h:cr K H d v) (e:ig d=θ ds):∃ p xs,v=.ref p/\Rd H p (.dK xs)/\bH K H ds xs:=by
 cases d with
 | dct k=>cases e;obtain ⟨p,xs,rfl,h1,h2⟩:=h;exact ⟨p,xs,rfl,.inl h1,h2⟩
 | dcf k=>cases e;obtain ⟨p,o,xs,rfl,h1,h2⟩:=h;exact ⟨p,xs,rfl,.inr ⟨o,h1⟩,h2⟩
 | _=>cases e
theorem jo.rd {k:Key} (h:Rd H p (.dK xs)):jo H p (kV k) (fX xs k):=.inl ⟨xs,k,h,rfl,rfl⟩
def HL (neg:Bool):R2:=fun x y H Q=>∃ p g k,x=kV k/\y=.ref p/\Rd H p (.dK g)/\Q (.bl (if neg=ζ then !(fX g k).isSome else (fX g k).isSome)) H
theorem F0 (M:X.A.units+64 < aa3):dh X (YX .In) (HL η):=by
 intro L s σ H x y v u Q I g C h;obtain ⟨p,r,k,rfl,rfl,z,q⟩:=h;cases C;exact Xr (by lia) I (jo.rd z) g fun Y J=>⟨.bl _,H,J,rfl,q⟩
theorem sZ (M:X.A.units+64 < aa3):dh X (YX .NotIn) (HL ζ):=by
 intro L s σ H x y v u Q I g C h;obtain ⟨p,r,k,rfl,rfl,z,q⟩:=h;cases C;exact KW (by lia) I (jo.rd z) g fun Y J=>⟨.bl _,H,J,rfl,q⟩
def DZ (a b:D):Option Bool:=(ig b).bind fun g=>(cb a).map fun k=>(bv g k).isSome
def Cm (a b:D):R D:=dD (DZ a b) fun k=>k
def ik (a b:D):R D:=dD (DZ a b) fun k=>!k
theorem B9 {K:aT} (h:bH K H ds xs) (k:Key):(bv ds k).isSome=(fX xs k).isSome:=by
 rcases h.val k with ⟨a,b⟩|⟨a,b,g,r,_⟩
 .rw [a,b];rfl
 .rw [g,r];rfl
theorem Mp (neg:Bool):n6 W (HL neg) (fun a b=>dD (DZ a b) fun k=>if neg=ζ then !k else k):=by
 intro as H x y a b Q hn u g h;have h:cD W as H (dD (DZ a b) fun k=>if neg=ζ then !k else k) Q:=h;unfold DZ at h;cases e:ig b with
 | none=>rw [e] at h;exact h.elim
 | some v =>
  cases e2:cb a with
  | none=>rw [e,e2] at h;exact h.elim
  | some k =>
   rw [e,e2] at h;obtain ⟨p,xs,rfl,h1,h2⟩:=fJ g e;have r:=cU u e2;subst r;refine ⟨p,xs,k,rfl,rfl,(ar _ _).rd h1,?_⟩;rw [<- B9 h2 k];exact aK h rfl
def Tw:n6 W (HL η) Cm:=Mp η
def Br:n6 W (HL ζ) ik:=Mp ζ
def lZ (a b:D):R D:=match ig a with
 | some g=>(match cb b with
  | some k=>(match bv g k with
   | some d=>.ok d
   | none=>.no)
  | none=>.no)
 | none=>.no
theorem Tf (hu:X.A.units+64 < aa3) (L:JE X a (tD W O φ)) (hb:JE X b (tD W O ψ)) (hs:yg b:=by exact fun _ _=>rfl):JE X (.Subscript a b pos) (tD W O (ao lZ φ ψ)) :=
 JE.imp ⟨ut (by lia) L.out hb.out hs⟩ fun σ H Q M=>cJ M fun as0 B own U I h=>⟨as0,B,own,U,I,a7 h fun x v H1 Y J h1=>⟨as0,B,own,U,I.mono Y,a7 h1 fun y u H2 r C h2=>by
  unfold lZ at h2;cases e0:ig x with
  | none=>rw [e0] at h2;exact h2.elim
  | some kvs =>
   rw [e0] at h2;obtain ⟨p,xs,rfl,q1,q2⟩:=fJ J e0;cases e:cb y with
   | none=>rw [e] at h2;exact h2.elim
   | some k =>
    rw [e] at h2;dsimp only at h2;have hy:=cU C e;subst hy;rcases (q2.mono (aG r)).val k with ⟨g,z⟩|⟨d,v,g,z,Z⟩
    .rw [g] at h2;exact h2.elim
    .rw [g] at h2;exact ⟨p,v,rfl,z ▸ jo.rd (r.rd ((ar _ _).rd q1)),aK h2 Z⟩⟩⟩
def Pm (xs:ad7) (H:Hp) (Q:VK):Prop:=∃ p g,xs=[.ref p]/\Rd H p (.dK g)/\∀ l,H l=ξ->Q (.ref l) (upd H l (.dK g))
def uW:bD X (.type "dict") Pm:=by
 intro L s σ H xs us Q I r h;obtain ⟨p,v,rfl,C,q⟩:=h;obtain ⟨u,rfl,g⟩:=gj r;cases g;exact Gj I C fun l M z J=>⟨.ref l,_,J,rfl,q l z⟩
def C3 (ds:ad8):R D:=match ds with
 | [d]=>(match ig d with
  | some g=>.ok (.dct g)
  | none=>.no)
 | _=>.no
end
def qM (a b:D):Option Bool:=match cI a,cI b with
 | some p,θ q=>if YM p=ζ/\p.depth<=32/\YM q=ζ then θ (Z4 p q) else ξ
 | _,_=>ξ
theorem B0 (h:qM a b=θ k):∃ p q,cI a=θ p/\cI b=θ q/\YM p=ζ/\p.depth<=32/\YM q=ζ/\k=Z4 p q:=by
 unfold qM at h;split at h
 .simp_all
 .cases h
def ow (g:List (Key×D)):List (Key×D)->Option Bool
 | []=>θ ζ
 | (k,d)::r=>match bv g k with
  | none=>θ η
  | some y=>(qM d y).bind fun e=>(ow g r).map fun b=>e&&b
def JH (g r:List (Key×D)):Option Bool:=if g.length=r.length then ow r g else θ η
def HJ (a b:D):Option Bool:=(ig a).bind fun g=>(ig b).bind fun r=>JH g r
def DD (a b:D):R D:=dD (HJ a b) fun k=>!k
section
theorem A0 {af:ad2} {σ:St} {H:Hp} {s:IF} (I:Inv X af σ H s) (hu:X.A.units+64 < aa3) {z:List (Key×D)} {Z:List (Key×V)} {L:List (Key×rW)} (hb:bH X.K H z Z) (M:KV Z L) :
  ∀ {g:List (Key×D)} {ya:List (Key×V)} {Y:List (Key×rW)} {r:Bool},bH X.K H g ya->KV ya Y->ow z g=θ r->PySem.W.KeqHits X.A.in1 s L Y r
 | [],_,_,_,h,rv,e=>by
  cases h;cases rv;cases e;exact .nil
 | (k,d)::g,_,_,r,⟨v,vs,e0,h1,h2⟩,rv,e=>by
  subst e0;cases rv with
  | @cons _ u _ us r1 r2 =>
   let ⟨ku,vu⟩:=u
   let ⟨e1,r1⟩:=r1
   subst e1;unfold ow at e;have rk:=KV.val M k;rcases hb.val k with ⟨C,J⟩|⟨y,w,C,J,c3⟩
   .rw [C] at e;cases e;rw [J] at rk;exact .miss rk.none_of
   .rw [C] at e;rw [J] at rk;let ⟨w',e2,rw'⟩:=rk.some_of
    dsimp only at e;cases q1:qM d y with
    | none=>simp_all
    | some b1 =>
     rw [q1] at e;cases q2:ow z g with
     | none=>grind
     | some b2 =>
      rw [q2] at e;cases e;obtain ⟨p,q,t1,t2,t3,t4,t5,rfl⟩:=B0 q1;let ⟨as,ra⟩:=cu I h1 r1 t1
      let ⟨bs,rb'⟩:=cu I c3 rw' t2
      refine .hit e2 (adF p q X.A.in1 s _ _ as bs ra rb' (Zu t3) (Zu t5) ?_) (A0 I hu hb M h2 r2 q2)
      grind
def QX (K:aT):R2:=fun x y H Q=>∃ p q a b xs ys k,x=.ref p/\y=.ref q/\Rd H p (.dK xs)/\Rd H q (.dK ys)/\bH K H a xs/\bH K H b ys/\JH a b=θ k/\Q (.bl (!k)) H
theorem F1 (K:aT) (M:X.A.units+64 < aa3) (Z:X.K=K:=by rfl):dh X (YX .NotEq) (QX K):=by
 subst Z;intro af s σ H x y v u Q I Y ry h;obtain ⟨p,q,a,b,xs,ys,k,rfl,rfl,hp,hq,L,J,e,hQ⟩:=h;cases Y;cases ry;let ⟨_,h1,va,ra,d1⟩:=jO I.hok hp
 let ⟨_,h2,vb,rb,d2⟩:=jO I.hok hq
 have l1  := L.len.trans ((ra)).length;have l2  := J.len.trans ((rb)).length;have g:(if a.length=b.length then ow b a else θ η)=θ k:=e;by_cases C:a.length=b.length
 .rw [adU C] at g;refine adQ h1 h2 d1 d2 (by lia) (fun _=>A0 I M J rb L ra g) ⟨.bl (!k),H,I,?_,hQ⟩
  have:(va.length==vb.length)=ζ:=by grind
  rw [this];rfl
 .rw [adV C] at g;cases g;refine adQ (r:=η) h1 h2 d1 d2 (by lia) (fun z=>absurd (l1.trans (z.trans l2.symm)) C) ⟨.bl (!η),H,I,?_,hQ⟩;rw [ab8];rfl
theorem Rk (K:aT) (hW:W.K=K:=by rfl):n6 W (QX K) DD:=by
 subst hW;intro as H x y a b Q hn z r h;have h:cD W as H (dD (HJ a b) fun k=>!k) Q:=h;cases e:HJ a b with
 | none=>rw [e] at h;exact h.elim
 | some k =>
  rw [e] at h;have h'  := h;unfold HJ at e;cases ea:ig a with
  | none=>simp_all
  | some C =>
   cases eb:ig b with
   | none=>simp_all
   | some v =>
    rw [ea,eb] at e;obtain ⟨p,xs,rfl,h1,h2⟩:=fJ z ea;obtain ⟨q,ys,rfl,g,u⟩:=fJ r eb;exact ⟨p,q,C,v,xs,ys,k,rfl,rfl,(ar _ _).rd h1,(ar _ _).rd g,h2.mono (ar _ _),u.mono (ar _ _),e,aK h' rfl⟩
end
theorem n9 (h:oo k u=ζ):aQ (kV k) u:=by
 cases k with
 | inl i =>
  have h:aba i u=ζ:=h;unfold aba at h;split at h
  .have e:=eq_of_beq h;subst e;exact ⟨_,rfl⟩
  .cases h
 | nn =>
  cases u with
  | none=>rfl
  | _=>exact nomatch h
 | inr x =>
  have h:aaX x u=ζ:=h;unfold aaX at h;split at h
  .have e:=eq_of_beq h;subst e;exact ⟨_,rfl⟩
  .cases h
structure FzAt (X:Cx) (H:Hp) (h:abh) (a:YS) (ep:Nat) (xs:List (Key×V)) (vs:List (Key×rW)):Prop where
 at_:Heap.DictAt (bB X.prog X.w) h a vs ep
 rel:KV xs vs
def Og (o:Obj):Nat:=match o.data with
 | .dict _ ep=>ep
 | _=>0
theorem mx {σ:St} (I:Inv X af σ H s) (e:H a=θ (.frz o (.dK xs))) :
  xs.length<=RW/\(a==Z6)=η/\∃ vs,FzAt X H s.heap a (Og o) xs vs:=by
 obtain ⟨g,z,C,vs,r,ob,es,J,h1,h2,u,v⟩:=((I.hok a _ e));rw [g] at h1;cases h1
 have:Og o=J:=by unfold Og;rw [u]
 rw [this];exact ⟨z,C,vs,⟨o,es,g,h2,u,v⟩,r⟩
def Ej:entryFor table "dict_itemiterator.__iter__"=θ Builtin.«dict_keyiterator.__iter__»:=entryFor_alias (id':="dict_keyiterator.__iter__") (by kernel_rfl) (by kernel_rfl) (by kernel_rfl) (by kernel_rfl)
theorem jG (st:IsItemIter s.heap it d i n ep ok ov) (hQ:Q (.ref it) s):YH (YN prog w) A (adP (.ref it)) Q E s:=by
 have ht:s.TypeIs (.ref it) "dict_itemiterator":=⟨_,st,rfl⟩;refine wpAny_pyIter_slot ht F.slot_dict_itemiterator_iter (Zf F.slot_dict_itemiterator_iter ht Ej ?_ (F.args_dict_itemiterator_iter_1 _));exact nE ⟨_,rfl,"dict_itemiterator",_,ht,F.slot_dict_itemiterator_next.lookup,hQ⟩
theorem E8 {xs:List (Key×V)} (r:KV xs vs) {i:Nat} (h:vs[i]?=θ (k,u)):∃ v,xs[i]?=θ (k,v)/\aQ v u:=by
 induction r generalizing i with
 | nil=>simp at h
 | @cons p q ps qs hq t ih =>
  cases i with
  | zero=>simp at h;subst h;exact ⟨p.2,by let ⟨p1,p2⟩:=p;simp at hq ⊢;exact hq.1,hq.2⟩
  | succ i=>simp_all
def ItK (a:YS) (o:Obj) (xs:List (Key×V)):It :=
 ⟨fun i H=>H a=θ (.frz o (.dK xs))/\i < xs.length,fun i H v H'=>H'=H/\∃ k x,xs[i]?=θ (k,x)/\v=kV k,fun i H=>H a=θ (.frz o (.dK xs))/\i=xs.length⟩
theorem Cz {K:aT} (it a:YS) (o:Obj) (xs:List (Key×V)):Turn P w K tg (ItK a o xs) [it] it (fun i h=>h.IsKeyIter it a i xs.length (Og o)) where
 mem:=by simp
 obj:=fun i h st b hb=>by
  have e:b=it:=by simpa using hb
  subst e;let ⟨o,e,c,d⟩:=st
  exact ⟨o,e,fun v z=>by rw [d] at z;cases z⟩
 keep:=fun i h h' st k=>by let ⟨o,e,c,d⟩:=st;exact ⟨o,k it (by simp) o e,c,d⟩
 item:=by
  intro X hP hw hK Y i af s σ H E I u st hg;subst hP hw;let ⟨hq,Z⟩:=hg
  let ⟨z,hd,vs,F⟩:=mx I hq
  let ⟨f0,f1,f2,f3,f4,f5⟩:=u it (by simp)
  have C:=F.rel.length;have g:a≠it:=fun z=>by rw [z,f0] at hq;cases hq
  have W:=Walks.dictKeys (knd:=bB X.prog X.w) (I.ok.hd Y) it a g vs (Og o);rw [C] at st;refine aP I.tk (W.item i s _ _ (by simp_all) ⟨st,F.at_⟩ fun v h' tk hv L J M=>?_);obtain ⟨k,x,h1,h2⟩:=hv;obtain ⟨y,h3,_⟩:=E8 F.rel h1;have I1  := I.turned (fun b o hb e=>J b o (by simpa using hb) e) f0 f1 f3 f4 f5;have r:=L.1;obtain ⟨o2,e,c,d⟩:=id r;rw [<- C] at r;exact ⟨v,rfl,w6 e c d (by decide) ⟨kV k,H,I1,n9 h2,⟨rfl,k,y,h3,rfl⟩,r,fun b hb=>(u b hb).1⟩⟩
 done:=by
  intro X hP hw hK Y i af s σ H E I u st hg;subst hP hw;obtain ⟨hq,Z⟩:=hg;let ⟨z,hd,vs,F⟩:=mx I hq
  let ⟨f0,f1,f2,f3,f4,f5⟩:=u it (by simp)
  have C:=F.rel.length;have g:a≠it:=fun z=>by simp_all
  have W:=Walks.dictKeys (knd:=bB X.prog X.w) (I.ok.hd Y) it a g vs (Og o);rw [Z,C] at st;exact aP I.tk (W.done s _ _ ⟨st,F.at_⟩ fun h' tk J M=>⟨rfl,I.turned (fun b o hb e=>J b o (by simpa using hb) e) f0 f1 f3 f4 f5⟩)
 self:=fun _ _ _ _ _ st h=>wpAny_pyIter_keyiter st h
def ItP (a:YS) (o:Obj) (xs:List (Key×V)):It :=
 ⟨fun i H=>H a=θ (.frz o (.dK xs))/\i < xs.length,fun i H v H'=>∃ p k x,xs[i]?=θ (k,x)/\H p=ξ/\H'=upd H p (.tup [kV k,x])/\v=.ref p,fun i H=>H a=θ (.frz o (.dK xs))/\i=xs.length⟩
theorem yQ {K:aT} (it a:YS) (o:Obj) (xs:List (Key×V)) :
  Turn P w K (.Tuple elts k pos) (ItP a o xs) [it] it (fun i h=>∃ ok ov,IsItemIter h it a i xs.length (Og o) ok ov) where
 mem:=by simp
 obj:=fun i h st b hb=>by
  have e:b=it:=by simpa using hb
  subst e;let ⟨ok,ov,e⟩:=st
  exact ⟨_,e,fun v z=>by cases z⟩
 keep:=fun i h h' st k=>by let ⟨ok,ov,e⟩:=st;exact ⟨ok,ov,k it (by simp) _ e⟩
 item:=by
  intro X hP hw hK hc i af s σ H E I C st hg;subst hP hw;let ⟨hq,hi⟩:=hg
  let ⟨ok,ov,st⟩:=st
  let ⟨z,hd,vs,F⟩:=mx I hq
  let ⟨f0,f1,f2,f3,f4,f5⟩:=C it (by simp)
  have J:=F.rel.length;rw [J] at st;have Y:i < vs.length:=by rw [<- J];exact hi
  let ⟨⟨kk,u⟩,hv⟩:∃ q,vs[i]?=θ q:=⟨vs[i],lE Y⟩
  refine wpAny_pyNext_items_item st F.at_ hv fun key h' hk so ht hsz kp=>?_;let ⟨y,h3,ry⟩:=E8 F.rel hv
  refine ⟨_,rfl,wpAny_letOwnedTupleGo_items so fun L Z sb=>?_⟩;have M:H s.heap.objs.size=ξ:=I.hok.fresh (oR _);have r:s.heap.objs.size≠it:=fun z=>absurd (ID (show s.heap.get? it=θ _ from st)) (by rw [z];exact aaG _);have g:adx L s.heap.objs.size [key,u].toArray:=⟨_,(sb.2 _ r).trans ht,rfl,_,rfl⟩;refine ⟨.ref s.heap.objs.size,upd H s.heap.objs.size (.tup [kV kk,y]),I.turnedT (t':=s.toks) (ch:=[it]) (fun b hb=>by rw [OR.mp hb];exact C it (by simp)) (fun b o hb e=>(sb.2 b (by simpa using hb)).trans (kp b o (by simpa using hb) e)) (oR _) (by show 2<=RW;decide) (.cons (n9 hk) (.cons ry .nil)) g,rfl,
   ⟨s.heap.objs.size,kk,y,h3,M,rfl,rfl⟩,⟨key,u,by grind⟩,fun b hb=>?_⟩
  have e  := by simpa using hb
  rw [e,aA r.symm];exact f0
 done:=by
  intro X hP hw hK hc i af s σ H E I C st hg;subst hP hw;let ⟨hq,hi⟩:=hg
  let ⟨ok,ov,st⟩:=st
  let ⟨z,hd,vs,F⟩:=mx I hq
  let ⟨f0,f1,f2,f3,f4,f5⟩:=C it (by simp)
  have J:=F.rel.length;rw [J] at st;exact wpAny_pyNext_items_end (I.ok.hd hc) st F.at_ (abJ (by lia)) fun h' eb=>⟨rfl,I.turned (fun b o hb e=>eb b o hb e) f0 f1 f3 f4 f5⟩
 self:=fun _ _ _ _ _ st h=>let ⟨_,_,st⟩:=st;jG st h
theorem bH.get {K:aT}:∀ {ds:List (Key×D)} {xs:List (Key×V)} {i:Nat} {k:Key} {v:V},bH K H ds xs->xs[i]?=θ (k,v)->∃ d,ds[i]?=θ (k,d)/\cr K H d v
 | [],_,i,k,v,h,e=>by cases h;simp at e
 | (k',d)::r,_,0,k,v,⟨v',vs,e,h1,h⟩,q=>by simp_all
 | (k',d)::r,_,i+1,k,v,⟨v',vs,e,h1,h⟩,q=>by
  subst e;obtain ⟨d',q1,q2⟩:=bH.get h (by simpa using q);simp_all
section
variable {X:Cx} {W:Wd} {O:ad0} {l:Zq} {tg:Zq} {ε:FE} {apos cpos:Pos} {elts:List Zq} {k:Nat} {tpos:Pos}
def LR (d:D):R (ad8):=match d with
 | .dcf kvs=>.ok (kvs.map fun q=>j6 q.1)
 | _=>.no
def rN (ε:FE):FA:=fun U=>(ε U).bind LR
theorem KF (h:JE X l (tD W O ε)):JI X tg l (iD W O (rN ε)):=⟨fun af s σ H R I ⟨as0,B,own,U,DIh,q⟩=>by
 refine bV (h.out af s σ H (fun v H1=>∃ d,cr W.K (mask (own++as0) H1) d v/\gh W as0 own H1 (LR d) R) I ⟨as0,B,own,U,DIh,lG q fun d v H1 r L hq=>⟨d,L,hq⟩⟩) fun u r ⟨x,H1,I1,rx,d,dv,hq⟩=>?_;cases d with
 | dcf ds =>
  obtain ⟨a,o,xs,rfl,h1,h2⟩:=dv;cases rx;have C:=ar _ _ _ _ h1;let ⟨z,hd,vs,F⟩:=mx I1 C
  have Z:=F.rel.length;refine wpAny_pyIter_dict hd F.at_ ?_;refine ⟨r.heap.objs.size,[r.heap.objs.size],_,_,H1,rfl,I1.kept fun b o e=>eQ _ e,Cz r.heap.objs.size a o xs,⟨_,BY _ rfl,rfl,by rw [Z];rfl⟩,fun b hb=>?_,hq _ H1 (aw.refl _) ?_⟩
  .have e  := by simpa using hb
   subst e;exact I1.fpOk (oR _) (I1.hok.fresh (oR _))
  .rw [iG] at h1 h2;have ll:(ds.map fun q=>j6 q.1).length=xs.length:=by rw [iN];exact h2.len
   refine ⟨fun i J g hi=>⟨g _ _ h1,by simp_all⟩,fun i J v H3 M g _ hM hi hy=>?_,fun J g=>⟨g _ _ h1,ll⟩⟩;obtain ⟨rfl,k,y,Y,rfl⟩:=hy;let ⟨d,e2,_⟩:=h2.get Y
   exact ⟨aw.refl _,j6 k,by simp_all,p9 k⟩
 | _=>exact hq.elim⟩
theorem zR (ht:s.TypeIs (.ref d) "dict") (g:(d==Z6)=η)
  (hQ:Q (.ref s.heap.objs.size) { s with heap:=s.heap.push { cls:=.type "dict_items",data:=.fields #[.ref d] } }):YH (YN prog w) A (call (.builtin "dict.items") [.ref d]) Q E s:=by
 refine Zf F.slot_dict_items ht F.entry_dict_items ?_ (F.args_dict_items_1 _);refine bY ?_;refine bY (wpAny_notOrdered_dict ht ?_);refine nE ?_;unfold Builtin.Dict.showsAll;rw [adV (by grind)];refine bY (nE ?_);refine bY (Zz ?_);exact nE ⟨_,rfl,hQ⟩
def HZ (d:D):R (ad8):=match d with
 | .dcf kvs=>.ok (kvs.map fun q=>D.tup [j6 q.1,q.2])
 | _=>.no
def pY (ε:FE):FA:=fun U=>(ε U).bind HZ
theorem F9 (h:JE X l (tD W O ε)) (g:Y4 l "items" X.env (eval l X.env)=eval l X.env:=by rfl) (r:(apos.endLine==cpos.line)=ζ:=by rfl) :
  JI X (.Tuple elts k tpos) (.Call (.Attribute l "items" apos) [] [] cpos) (iD W O (pY ε)):=⟨fun af s σ H R I ⟨as0,B,own,U,DIh,q⟩=>by
 refine wpAny_Call_method0_late g r (bV (h.out af s σ H (fun v H1=>∃ d,cr W.K (mask (own++as0) H1) d v/\gh W as0 own H1 (HZ d) R) I ⟨as0,B,own,U,DIh,lG q fun d v H1 Y d1 hq=>⟨d,d1,hq⟩⟩) fun u Y ⟨x,H1,I1,rx,d,dv,hq⟩=>?_);cases d with
 | dcf ds =>
  obtain ⟨a,o,xs,rfl,h1,h2⟩:=dv;cases rx;have C:=ar _ _ _ _ h1;let ⟨z,hd,vs,F⟩:=mx I1 C
  let ⟨t1,t2,_⟩:=uY I1 (.inl ⟨xs,.inr ⟨o,C⟩⟩)
  refine ⟨"dict","dict.items",aaH,PySem.F.slot_dict_items,PySem.F.type_dict_items,t1,t2,ZC rfl (ac6 (zR t1 hd ?_))⟩;have L:=I1.kept (h':=Y.heap.push { cls:=.type "dict_items",data:=.fields #[.ref a] }) fun b o e=>eQ _ e;let ⟨z,hd,vs,F⟩:=mx L C
  have hl:=F.rel.length;refine wpAny_pyIter_items ⟨_,BY _ rfl,rfl,rfl⟩ F.at_ ?_;have hb0:∀ {b:YS},b=(Y.heap.push { cls:=.type "dict_items",data:=.fields #[.ref a] }).objs.size->eZ X af H1 b:=fun {b} e=>by
   subst e;exact L.fpOk (oR _) (L.hok.fresh (oR _))
  refine ⟨_,[_],_,_,H1,rfl,L.kept fun b o e=>eQ _ e,yQ _ a o xs,⟨.none,.none,by rw [hl];exact BY _ rfl⟩,fun b hb=>hb0 (by simpa using hb),hq _ H1 (aw.refl _) ?_⟩;rw [iG] at h1 h2;have ll:(ds.map fun q=>D.tup [j6 q.1,q.2]).length=xs.length:=by rw [iN];exact h2.len
  refine ⟨fun i H2 J hi=>⟨J _ _ h1,by simp_all⟩,fun i H2 v H3 M J hM1 hM hi hy=>?_,fun H2 J=>⟨J _ _ h1,ll⟩⟩;obtain ⟨p,k,y,e1,Z,rfl,rfl⟩:=hy;let ⟨d,e2,dd⟩:=h2.get e1
  have hpM  := fun z=>hM1 p z Z;refine ⟨aI Z _,.tup [j6 k,d],by grind,p,[kV k,y],rfl,.inl (.inl (by rw [aD hpM];exact aE)),aH.cons (p9 k) (aH.cons (dd.mono ((hZ J hM).trans (aG (aI Z _)))) aH.nil)⟩
 | _=>exact hq.elim⟩
end
theorem lP.look {K:aT}:∀ {fs:List (Str×D)} {xs:List (Str×V)} {d:D},lP K H fs xs->fs.lookup f=θ d->∃ v,xs.lookup f=θ v/\cr K H d v
 | [],_,_,h,e=>by cases e
 | (g,d')::r,_,d,⟨v,vs,e0,h1,h⟩,e=>by
  subst e0;rw [aak] at e ⊢;cases q:f==g with
  | true=>grind
  | false=>rw [q] at e;exact lP.look h e
def He (n f:Str) (d:D):R D:=match d with
 | .obj m fs=>if m=n then (match fs.lookup f with
  | some d=>.ok d
  | none=>.no) else .no
 | _=>.no
def oX (n f:Str) (φ:FE):FE:=fun U=>(φ U).bind (He n f)
section
variable {pos p:Pos}
theorem RD (K:aT) (hn:Y1 K YQ n=θ (θ (.ref C))) (Y:Cls K C) (r:eN K C f) (z:JE X e (tD W O φ)) (hb:Y4 e f X.env (eval e X.env)=eval e X.env:=by rfl) (Z:X.K=K:=by rfl) (hW:W.K=K:=by rfl) :
  JE X (.Attribute e f pos) (tD W O (oX n f φ)) :=
 JE.imp ⟨OK z.out hb⟩ fun σ H Q M=>cJ M fun as0 B own U I h=>⟨as0,B,own,U,I,a7 h fun x v H1 s1 g h1=>by
  subst Z;cases x with
  | obj m fs =>
   by_cases e:m=n
   .subst e;unfold He at h1;dsimp only at h1;rw [adU rfl] at h1;rw [hW] at g;obtain ⟨a,C',J,xs,rfl,h2,u,L⟩:=g;rw [hn] at h2;cases h2;cases e2:fs.lookup f with
    | none=>rw [e2] at h1;exact h1.elim
    | some d =>
     rw [e2] at h1;let ⟨v,q1,q2⟩:=L.look e2
     exact ⟨a,C,J,xs,v,rfl,ar _ _ _ _ u,Y,r,q1,aK h1 (by rw [hW];exact q2)⟩
   .unfold He at h1;dsimp only at h1;rw [adV e] at h1;exact h1.elim
  | _=>exact h1.elim⟩
def yL (C:YS) (ns:ad1):Sp:=fun vs H Q _=>∃ x g us,vs=.ref x::us/\us.length=ns.length/\H x=θ (.ins C g [])/\Q .non (upd H x (.ins C g (ns.zip us)))
def LZ (n:Str) (ns:ad1) (ds:ad8):R D:=if ds.length=ns.length then .ok (.obj n (ns.zip ds)) else .no
def Qa (n:Str) (ns:ad1) (α:FA):FE:=fun U=>(α U).bind (LZ n ns)
theorem lP.zip {K:aT}:∀ {ns:ad1} {ds:ad8} {vs:ad7},aH K H ds vs->lP K H (ns.zip ds) (ns.zip vs)
 | [],_,_,h=>rfl
 | f::r,[],_,h=>by cases h;exact rfl
 | f::r,d::ds,_,⟨v,vs,e,h1,h2⟩=>by subst e;exact ⟨v,_,rfl,h1,lP.zip h2⟩
theorem N6 {K:aT} (hn:Y1 K YQ n=θ (θ (.ref C))) (hm:X.mg n=θ (.ref C)) (M:Mk K C g) (G:FnOk X.prog X.w X.K X.mg X.base l8 j g fd ps (yL C ns)) (b:gi K fd ps []) (hr:Room k X.A)
  (Z:JA X (e::es) (rY ⟨K,mg,E0⟩ O α)) (hj:j+1<=k:=by decide) (hg:Gl X n:=by rfl) (v:(n==("__debug__":Str))=η:=by decide) (h1:aM e=ζ:=by rfl) (h2:es.all aM=ζ:=by rfl) (hK:X.K=K:=by rfl) :
  JE X (.Call (.Name n p) (e::es) [] pos) (tN ⟨K,mg,E0⟩ O (Qa n ns α)):=by
 subst hK;refine JE.imp ⟨Jb M G (hr.mono hj) hg hm b .nil ES Z.out v (bw h1) (dq h2)⟩ fun σ H Q hh=>cJ hh fun as0 B own U I h=>?_;refine ⟨as0,B,own,U,I,dW h fun ds vs H1 s1 J h1 x r L u hne=>?_⟩;unfold LZ at h1;split at h1
 .rename_i hl;rw [Y9];have Y:aw H1 (upd (upd H1 r (.own x)) x (.ins C r (ns.zip vs))):=fun c o e=>by
   rw [aA (a9 e L),aA (a9 e u)];exact e
  refine ⟨x,r,vs,rfl,by rw [<- J.len];exact hl,aE,rfl,?_⟩;rw [ux];refine h1 x _ _ Y L aE ⟨C,r,_,rfl,hn,lP.zip (J.mono fun c o e=>?_)⟩;by_cases hb:c∈own++as0
  .rw [bT hb] at e;cases e
  .rw [aD hb] at e;have n1:c≠x:=fun z=>by simp_all
   rw [aD (fun z=>(mK.mp z).elim n1 hb)];exact Y c o e
 .exact h1.elim
end
def BK:D->Option (ad8)
 | .lst xs=>θ xs
 | .dcf kvs=>θ (kvs.map fun q=>j6 q.1)
 | _=>ξ
section
variable {X:Cx} {W:Wd} {O:ad0} {e:Zq} {es:List Zq} {φ:FE} {α:FA} {pos p p1 p2:Pos} {x:Str}
def Jv (g:List (Key×V)):ad7:=g.map fun q=>kV q.1
theorem uf {P:Z9} {w:Zv} (r:KV xs vs) (g:acc.length=vs.length) (h:∀ (j:Nat) (v:rW),acc[j]?=θ v->∃ (k:Key) (x:rW),vs[j]?=θ (k,x)/\oo k v=ζ):aU (Jv xs) acc:=by
 induction r generalizing acc with
 | nil=>cases acc with
  | nil=>exact .nil
  | cons _ _=>simp at g
 | @cons p q ps qs hq t ih =>
  cases acc with
  | nil=>simp at g
  | cons v acc =>
   obtain ⟨k,x,z,C⟩:=h 0 v rfl;simp at z;subst z;refine .cons (show aQ (kV p.1) v by rw [hq.1];exact n9 C) (ih (by simpa using g) fun j u I=>?_);let ⟨k',x',e3,e4⟩:=h (j+1) u (by simpa using I)
   simp_all
theorem nA {K:aT}:∀ {ds:List (Key×D)} {g:List (Key×V)},bH K H ds g->aH K H (ds.map fun q=>j6 q.1) (Jv g)
 | [],_,h=>by cases h;exact rfl
 | (k,d)::r,_,⟨v,vs,e,_,h⟩=>by subst e;exact ⟨kV k,_,rfl,p9 k,nA h⟩
theorem xI {K:aT} (h:cr K H d v) (e:BK d=θ xs):∃ a ys,v=.ref a/\(eV K H a ys\/∃ o g,H a=θ (.frz o (.dK g))/\ys=Jv g)/\aH K H xs ys:=by
 cases d with
 | lst ds=>cases e;obtain ⟨a,ys,rfl,h1,h2⟩:=h;exact ⟨a,ys,rfl,.inl h1,h2⟩
 | dcf ds =>
  cases e;obtain ⟨a,o,g,rfl,h1,h2⟩:=h;exact ⟨a,Jv g,rfl,.inr ⟨o,g,h1,rfl⟩,nA h2⟩
 | _=>cases e
def Ti (xs:ad7) (H:Hp) (Q:VK):Prop:=∃ a o g,xs=[.ref a]/\H a=θ (.frz o (.dK g))/\∀ l,H l=ξ->Q (.ref l) (upd H l (.lst (Jv g)))
theorem zi (Z:X.calm=ζ):bD X (.type "list") Ti:=by
 intro af s σ H xs us Q I r h;obtain ⟨a,o,J,rfl,Y,hok⟩:=h;obtain ⟨u,rfl,ru⟩:=gj r;cases ru;let ⟨z,hd,vs,F⟩:=mx I Y
 have L:=F.rel.length;refine aP I.tk (PySem.W.kdl_call (adG hd) (I.ok.hd Z) F.at_ (by simp_all) fun h' tk acc c kp hg g C=>?_);have M:=uf (P:=X.prog) (w:=X.w) F.rel (by exact g.1) fun j v hj=>g.2 j v (by simp_all);exact ⟨.ref s.heap.objs.size,_,I.laid kp (oR _) (show dc X.prog X.w _ h' _ (.lst (Jv J)) from ⟨by unfold Jv;rw [iN];exact z,acc.toList,c,M,by simpa using hg⟩) C,rfl,hok _ (I.hok.fresh (oR _))⟩
def Hn (ds:ad8):R D:=match ds with
 | [.dcf kvs]=>.ok (.lst (kvs.map fun q=>j6 q.1))
 | _=>.no
structure IsC (K:aT) (C:YS):Prop where
 cl:Cls K C
 ha:ZW K (.ref C) "__class__"=θ (θ (.builtin "object.__class__"))
 hn:ado K (.builtin "object.__class__") "__get__"=θ (θ (.builtin "getset_descriptor.__get__"))
 htk:adJ K (.builtin "object.__class__")=θ ζ
 hm:PySem.W.mroIn K C (.type "object")=θ ζ
 k:aa4 K (.ref C) (.ref C)=θ ζ
 kn:aa4 K (.type "NoneType") (.ref C)=θ η
 ki:aa4 K (.type "int") (.ref C)=θ η
 kt:aa4 K (.type "tuple") (.ref C)=θ η
end
section
variable {X:Cx} {W:Wd} {Ob O:ad0} {e:Zq} {φ ε:FE} {pos p1 apos cpos:Pos} {x:Str}
noncomputable def jc (i:Nat) (f:FG):FS:=fun U=>match U[i]? with
 | some (θ (.lst xs))=>(match xs[xs.length - 1]? with
  | some d=>(match f d (U.set i (θ (.lst xs.dropLast))) with
   | .ok δ'=>.ok (.nx δ')
   | _=>.no)
  | none=>.no)
 | _=>.no
theorem Cw (Z:i∈O) (hg:JG X t (gF W O f)) (M:X.N[i]?=θ x:=by rfl) (g:(apos.endLine==cpos.line)=ζ:=by rfl) (hv:sd X.env.scope x:=by walk_at"v") (Y:ad9 x:=by decide)
  (z:(x==("__classdict__":Str))=η:=by decide) (r:Y4 (.Name x p1) "pop" X.env (eval (.Name x p1) X.env)=eval (.Name x p1) X.env:=by rfl)
  (hs:swapsWithSole [t] (.Call (.Attribute (.Name x p1) "pop" apos) [] [] cpos) pos.line X.env=pure η:=by rfl) (hw:swappedStores [t] (.Call (.Attribute (.Name x p1) "pop" apos) [] [] cpos) X.env=pure ξ:=by rfl)
  (h1:(Zn [t] X.env).map (·.2)=[assign t X.env]:=by rfl) (hW:W.K=X.K:=by rfl):JS X (.Assign [t] (.Call (.Attribute (.Name x p1) "pop" apos) [] [] cpos) pos) (sD W Ob O O (jc i f)) :=
 (qi (Su abp PySem.F.slot_list_pop PySem.F.type_list_pop Ps (jv i M hv Y z) r g) hg hs hw h1).imp fun D σ H L=>cJ L fun as0 B own U I h=>by
  let ⟨a,ha⟩:=cw I.olen Z
  let ⟨d,o,h1,h2,h3,h4⟩:=I.owns i a ha
  show oZ σ[i]? H (fun x H1=>Qc X.K "list" x H1/\Q4 x [] H1 fun v u=>gF W O f v σ u D.nx);rw [h2];unfold jc at h;rw [h1] at h;cases d with
  | lst ds =>
   obtain ⟨xs,rfl,q⟩:=h4;dsimp only at h;cases e:ds[ds.length - 1]? with
   | none=>rw [e] at h;exact h.elim
   | some y =>
    rw [e] at h;dsimp only at h;let ⟨v,ev,dv⟩:=q.get e
    rw [q.len] at ev;have hm:a∈own++as0:=YY _ (Za ha).2;have J:=I.mutate (d':=.lst ds.dropLast) ha ⟨_,rfl,q.dropLast⟩;refine ⟨.inl ⟨rfl,xs,eV.of h3⟩,a,xs,v,rfl,rfl,h3,ev,as0,B,own,_,y,J,by rw [jM hm];exact dv,?_⟩;cases e1:f y (U.set i (θ (.lst ds.dropLast))) with
    | ok δ'=>rw [e1] at h;exact fun C u _ J=>h own C u J
    | er y=>rw [e1] at h;exact h.elim
    | no=>rw [e1] at h;exact h.elim
  | _=>exact h.elim
end
def Kq:rW->Option Str
 | .str x _=>θ x
 | _=>ξ
theorem ub (k:Str):∀ (es:List DictEntry) (ks:ad1),es.map (fun e=>Kq e.key)=ks.map θ->(es.find? fun e=>aaX k e.key).isSome=ks.contains k
 | [],[],_=>rfl
 | [],_::_,h=>by cases h
 | _::_,[],h=>by cases h
 | e::es,x::ks,h=>by
  rw [YB,YB,List.cons.injEq] at h;let ⟨h1,h2⟩:=h
  have r:=ub k es ks h2;have g:aaX k e.key=(k==x):=by
   cases q:e.key with
   | str y t =>
    rw [q] at h1;rw [<- ZY h1];exact Bool.beq_comm
   | _=>rw [q] at h1;cases h1
  rw [Zg,g,List.contains_cons];cases (k==x) with
  | true=>rfl
  | false=>exact r
def S8 (a:YS) (ks:ad1):R2:=fun x y H Q=>∃ k,x=.str k/\y=.ref a/\Q (.bl (!ks.contains k)) H
def K5 (ks:ad1) (x:Str) (a b:D):R D:=match a,b with
 | .str k,.cls y=>if y=x then .ok (.bl (!ks.contains k)) else .no
 | _,_=>.no
section
theorem Np (z:X.K.lookup a=θ ⟨.type "dict",ξ,.dict es n,#[]⟩) (C:abr X.w.params es.toList) (g:es.toList.map (fun e=>Kq e.key)=ks.map θ) (hs:(a==Z6)=η) :
  dh X (YX .NotIn) (S8 a ks):=by
 intro L s σ H x y v u Q I r J h;obtain ⟨k,rfl,rfl,q⟩:=h;cases J;obtain ⟨t,rfl⟩:=r;refine wpAny_notIn_of ((beq_self_eq_true k)) hs (adM I.kIn z C) ?_;have e:(findBy aaX es k).isSome=ks.contains k:=by
  unfold findBy;rw [abx,<- Array.find?_toList];exact ub k es.toList ks g
 rw [e];exact ⟨.bl _,H,I.tok _,rfl,q⟩
theorem W4 (hn:RX W.K x a):n6 W (S8 a ks) (K5 ks x):=by
 intro as H v u d b Q hq r z h;unfold K5 at h;split at h
 .split at h
  .rename_i e;subst e;cases r;obtain ⟨C,rfl,g⟩:=z;rw [(hn)] at g;cases g;exact ⟨_,rfl,rfl,aK h rfl⟩
  .exact h.elim
 .exact h.elim
end
abbrev KD:=Key×List (Key×D)
def InK (K:aT) (M H:Hp):List KD->ad5->List (Key×V)->Prop
 | [],bs,kvs=>bs=[]/\kvs=[]
 | (k,ds)::r,bs,kvs=>∃ b u g xs,bs=b::u/\kvs=(k,.ref b)::g/\H b=θ (.dK xs)/\bH K M ds xs/\InK K M H r u g
def c9 (k:Key):List KD->Option (List (Key×D))
 | []=>ξ
 | q::r=>if q.1=k then θ q.2 else c9 k r
noncomputable def fe (k:Key) (ds:List (Key×D)):List KD->List KD
 | []=>[]
 | q::r=>if q.1=k then (q.1,ds)::r else q::fe k ds r
section
variable {K:aT}
theorem InK.mono (s:aw M M'):∀ {u:List KD} {bs:ad5} {g:List (Key×V)},(∀ b∈bs,∀ o,H b=θ o->H' b=θ o)->InK K M H u bs g->InK K M' H' u bs g
 | [],_,_,_,h=>h
 | (k,ds)::r,_,_,hb,⟨b,bs',kvs',xs,e1,e2,e3,e4,e5⟩=>by
  subst e1;exact ⟨b,bs',kvs',xs,rfl,e2,hb b (by simp) _ e3,e4.mono s,e5.mono s fun c v=>hb c (by simp [v])⟩
theorem InK.len:∀ {u:List KD} {bs:ad5} {g:List (Key×V)},InK K M H u bs g->u.length=g.length
 | [],_,_,⟨_,e⟩=>by rw [e];rfl
 | (k,ds)::r,_,_,⟨b,bs',kvs',xs,e1,e2,e3,e4,e5⟩=>by rw [e2];simp [e5.len]
theorem InK.val (k:Key):∀ {u:List KD} {bs:ad5} {g:List (Key×V)},InK K M H u bs g->(c9 k u=ξ/\fX g k=ξ)\/∃ ds b xs,c9 k u=θ ds/\fX g k=θ (.ref b)/\b∈bs/\H b=θ (.dK xs)/\bH K M ds xs
 | [],_,_,⟨_,e⟩=>by rw [e];exact .inl ⟨rfl,rfl⟩
 | (k',ds)::r,_,_,⟨b,bs',kvs',xs,e1,e2,e3,e4,e5⟩=>by
  subst e1 e2;by_cases q:k'=k
  .exact .inr ⟨ds,b,xs,adU q,iR q,by simp,e3,e4⟩
  .rw [iJ q,show c9 k ((k',ds)::r)=c9 k r from adV q];rcases e5.val k with h|⟨ds',b',xs',h1,h2,h3,h4,h5⟩
   .exact .inl h
   simp_all
theorem InK.snoc (hb:H b=θ (.dK [])):∀ {u:List KD} {bs:ad5} {g:List (Key×V)},InK K M H u bs g->InK K M H (u++[(k,[])]) (bs++[b]) (g++[(k,.ref b)])
 | [],_,_,⟨e1,e2⟩=>by subst e1 e2;exact ⟨b,[],[],[],rfl,rfl,hb,rfl,rfl,rfl⟩
 | (k',ds)::r,_,_,⟨b',bs',kvs',xs,e1,e2,e3,e4,e5⟩=>by
  subst e1 e2;exact ⟨b',bs'++[b],kvs'++[(k,.ref b)],xs,rfl,rfl,e3,e4,e5.snoc hb⟩
theorem InK.put (u:bH K M ds' xs'):∀ {v:List KD} {bs:ad5} {g:List (Key×V)},bs.Nodup->InK K M H v bs g->fX g k=θ (.ref b)->InK K M (upd H b (.dK xs')) (fe k ds' v) bs g
 | [],_,_,_,⟨_,e⟩,h=>by rw [e] at h;cases h
 | (k',ds)::r,_,_,nd,⟨b',bs',kvs',xs,e1,e2,e3,e4,e5⟩,h=>by
  subst e1 e2;rw [YW] at nd;by_cases q:k'=k
  .rw [iR q] at h;cases h;rw [show fe k ds' ((k',ds)::r)=(k',ds')::r from adU q];exact ⟨_,bs',kvs',xs',rfl,rfl,aE,u,e5.mono (aw.refl M) fun c J o e=>by rw [aA (fun z=>nd.1 (by grind))];exact e⟩
  .rw [iJ q] at h;rw [show fe k ds' ((k',ds)::r)=(k',ds)::fe k ds' r from adV q];have hb:b∈bs':=by
    rcases e5.val k with ⟨_,z⟩|⟨_,C,_,_,z,I,_⟩
    .grind
    grind
   exact ⟨b',bs',kvs',xs,rfl,rfl,by rw [aA (fun z=>nd.1 (by rw [z];exact hb))];exact e3,e4,e5.put u nd.2 h⟩
end
structure GR (K:aT) (as0:ad5) (B:Hp) (i:Nat) (p:YS) (bs:ad5) (dd:List KD) (σ:St) (U:Sd) (H:Hp):Prop where
 len:U.length=σ.length
 var:∀ (k:Nat) (d:D),U[k]?=θ (θ d)->∃ v,σ[k]?=θ (θ v)/\cr K (mask (p::(bs++as0)) H) d v
 hi:σ[i]?=θ (θ (.ref p))
 bs_:aw B H
 bp:B p=ξ
 bb:∀ b∈bs,B b=ξ
 pn:p∉bs
 nd:bs.Nodup
 ex:∀ a∈as0,B a≠ξ
 hp:∃ kvs,H p=θ (.dK kvs)/\InK K (mask (p::(bs++as0)) H) H dd bs kvs
section
variable {K:aT}
theorem InK.exi:∀ {u:List KD} {bs:ad5} {g:List (Key×V)},InK K M H u bs g->∀ b∈bs,H b≠ξ
 | [],_,_,⟨e,_⟩,b,hb=>by simp_all
 | (k,ds)::r,_,_,⟨b',bs',kvs',xs,e1,e2,e3,e4,e5⟩,b,hb=>by
  subst e1;rcases mK.mp hb with rfl|hb
  .rw [e3];simp
  .exact e5.exi b hb
theorem GR.exi (g:GR K as0 B i p bs dd σ U H):∀ a∈p::(bs++as0),H a≠ξ:=fun a r=>by
 obtain ⟨u,z,v⟩:=g.hp;rcases mK.mp r with rfl|r
 .rw [z];simp
 .rcases xb.mp r with r|r
  .exact v.exi a r
  .cases e:B a with
   | none=>exact absurd e (g.ex a r)
   | some o=>rw [g.bs_ a o e];simp
theorem GR.di (g:GR K as0 B i p bs dd σ U H):DI K (p::(bs++as0)) H [] [] σ U H:=DI.plain g.len g.exi g.var
theorem GR.mono (g:GR K as0 B i p bs dd σ U H) (s:aw H H'):GR K as0 B i p bs dd σ U H' :=
 ⟨g.len,fun k d e=>let ⟨v,h1,h2⟩:=g.var k d e;⟨v,h1,h2.mono (aG s)⟩,g.hi,g.bs_.trans s,g.bp,g.bb,g.pn,g.nd,g.ex,let ⟨kvs,h1,h2⟩:=g.hp;⟨kvs,s _ _ h1,h2.mono (aG s) fun b _ o e=>s b o e⟩⟩
theorem GR.set (g:GR K as0 B i p bs dd σ U H) (r:k≠i) (u:cr K (mask (p::(bs++as0)) H) d v):GR K as0 B i p bs dd (σ.set k (θ v)) (U.set k (θ d)) H :=
 let I:=g.di.set (W:=⟨K,fun _=>ξ,E0⟩) (by simp) u
 ⟨I.len,fun j e q=>I.var j e (by simp) q,by rw [getElem?_set',adV r];exact g.hi,g.bs_,g.bp,g.bb,g.pn,g.nd,g.ex,g.hp⟩
theorem iP (h:aw B H) (hb:B a=ξ):aw B (upd H a o):=fun b u e=>by rw [aA (a9 e hb)];exact h b u e
theorem GR.more (g:GR K as0 B i p bs dd σ U H) (hq:H q=ξ) (s:aw (upd H q (.dK [])) H') (Y:H' p=θ (.dK kvs)) {k:Key} (hk:c9 k dd=ξ) :
  GR K as0 B i p (bs++[q]) (dd++[(k,[])]) σ U (upd H' p (.dK (gW kvs k (.ref q)))):=by
 have ex:=g.exi;have C:∀ a∈p::(bs++as0),a≠q:=fun a M z=>ex a M (by rw [z];exact hq);have r:aw H H':=(aI hq _).trans s;have I:p≠q:=C p (by simp);let ⟨kvs',h1,h2⟩:=g.hp
 have L:=r _ _ h1;rw [Y] at L;cases L;have J:H' q=θ (.dK []):=s q _ aE;have u:aw (mask (p::(bs++as0)) H) (mask (p::(bs++[q]++as0)) (upd H' p (.dK (gW kvs k (.ref q))))):=fun b o e=>by
  by_cases hb:b∈p::(bs++as0)
  .rw [bT hb] at e;cases e
  .rw [aD hb] at e;have Z:b≠q:=fun z=>by simp_all
   simp only [mK,xb,not_or] at hb;rw [aD (by simp_all),aA hb.1];exact r b o e
 refine ⟨g.len,fun j d e=>let ⟨v,a1,a2⟩:=g.var j d e;⟨v,a1,a2.mono u⟩,g.hi,iP (g.bs_.trans r) g.bp,g.bp,fun b hb=>?_,fun z=>?_,?_,g.ex,_,aE,?_⟩
 .rcases xb.mp hb with h|h
  .exact g.bb b h
  .rw [OR.mp h];exact g.bs_.free hq
 .rcases xb.mp z with h|h
  .exact g.pn h
  simp_all
 .refine aaZ.mpr ⟨g.nd,by simp,fun a M b hb=>?_⟩
  grind
 .have hv:fX kvs k=ξ:=by
   rcases h2.val k with z|⟨ds,b,xs,z,_⟩
   .exact z.2
   .grind
  rw [EB _ hv] at u ⊢;refine InK.snoc (by rw [aA (aaN I)];exact J) (h2.mono u fun b hb o e=>?_);rw [aA (fun z=>g.pn (by grind))];exact r b o e
theorem GR.put (g:GR K as0 B i p bs dd σ U H) (u:H p=θ (.dK kvs)) {k:Key} (hv:fX kvs k=θ (.ref b)) (hb:b∈bs) (v:bH K (mask (p::(bs++as0)) H) ds' xs') :
  GR K as0 B i p bs (fe k ds' dd) σ U (upd H b (.dK xs')):=by
 have hm:b∈p::(bs++as0):=by simp [hb]
 let ⟨kvs',h1,h2⟩:=g.hp
 rw [u] at h1;cases h1;have r:p≠b:=fun z=>g.pn (by rw [z];exact hb);exact ⟨g.len,by rw [jM hm];exact g.var,g.hi,iP g.bs_ (g.bb b hb),g.bp,g.bb,g.pn,g.nd,g.ex,kvs,by rw [aA r];exact u,by rw [jM hm];exact h2.put v g.nd hv⟩
end
def qN (τ:FT) (g r u:FE) (v:List KD) (U:Sd):R (List KD):=(τ U).bind fun c=>if c=ζ then (u U).bind fun d=>(g U).bind fun k=>match cb k with
 | some k=>(match c9 k v with
  | some ds=>(r U).bind fun n=>match cb n with
   | some n=>if ds.length < 1000000 then .ok (fe k (cx ds n d) v) else .no
   | none=>.no
  | none=>.no)
 | none=>.no else .ok v
section
variable {st:aa0}
noncomputable def D9:FS:=fun _=>.no
end
section
variable {X:Cx} {W:Wd} {O:ad0} {a b c:Zq} {φ ψ χ:FE} {x:Str} {p1 pos apos cpos:Pos}
def tG (φ ψ:FE):FE:=fun U=>(φ U).bind fun x=>match ig x with
 | some g=>(ψ U).bind fun y=>match cb y with
  | some k=>.ok ((bv g k).getD .non)
  | none=>.no
 | none=>.no
theorem J6 (hu:X.A.units+64 < aa3) (ha:JE X a (tD W O φ)) (hb:JE X b (tD W O ψ)) (g:Y4 a "get" X.env (eval a X.env)=eval a X.env:=by rfl)
  (z:((aaa cpos (YI [b] X.env)).all (fun x=>!x.1)&&(backToKw cpos (aaJ [] X.env)).all (fun x=>x.1.isSome)&&decide (([b]:List Zq).length+([]:List aaQ).length+(if ([]:List aaQ).isEmpty then 0 else 1) < 30))=ζ:=by rfl)
  (r:(apos.endLine==cpos.line)=ζ:=by rfl) (J:aaa cpos (YI [b] X.env)=[(η,eval b X.env)]:=by rfl):JE X (.Call (.Attribute a "get" apos) [b] [] cpos) (tD W O (tG φ ψ)) :=
 JE.imp ⟨FZ (by lia) ha.out hb.out ⟨g,z,r,J⟩⟩ fun σ H Q hh=>cJ hh fun as0 B own U I h=>⟨as0,B,own,U,I,a7 h fun x v H1 s1 Z h1=>by
  cases e0:ig x with
  | none=>rw [e0] at h1;exact h1.elim
  | some kvs =>
   rw [e0] at h1;obtain ⟨p,xs,rfl,q1,q2⟩:=fJ Z e0;refine ⟨p,rfl,.inl ⟨xs,(ar _ _).rd q1⟩,as0,B,own,U,I.mono s1,a7 h1 fun y u H2 C Y h2=>?_⟩;cases e:cb y with
   | none=>rw [e] at h2;exact h2.elim
   | some k =>
    rw [e] at h2;dsimp only at h2;have hy:=cU Y e;subst hy;rcases (q2.mono (aG C)).val k with ⟨L,M⟩|⟨d,v,L,M,c3⟩
    .rw [L] at h2;exact ⟨ξ,M ▸ jo.rd (C.rd ((ar _ _).rd q1)),aK h2 rfl⟩
    .rw [L] at h2;exact ⟨θ v,M ▸ jo.rd (C.rd ((ar _ _).rd q1)),aK h2 c3⟩⟩
def Iu:List (Str×FE)->Sd->R (List (Str×Bool))
 | [],_=>.ok []
 | (x,φ)::r,U=>(φ U).bind fun d=>match d with
  | .bl b=>(Iu r U).bind fun l=>.ok ((x,b)::l)
  | _=>.no
def DM (l:List (Str×Bool)):List (Key×D):=l.foldl (fun acc q=>cx acc (.inr q.1) (.bl q.2)) []
def ue (ps:List (Str×FE)):FE:=fun U=>(Iu ps U).bind fun l=>.ok (.dct (DM l))
def PB (X:Cx) (W:Wd) (O:ad0) (pos:Pos) (r:List (Option Zq)) (g:List Zq) (ps:List (Str×FE)):Prop:=Tu X pos r g (ps.map fun q=>(tD W O (vC (.str q.1)),tD W O q.2))
theorem tT:∀ (ps:List (Str×FE)) {H:Hp} {Q:List (V×V)->Hp->Prop},DI W.K as0 B O own σ U H->fZ W H (Iu ps U) (fun l H'=>l.length=ps.length->Q (l.map fun q=>(V.str q.1,V.bl q.2)) H')->uD (ps.map fun q=>(tD W O (vC (.str q.1)),tD W O q.2)) σ H Q
 | [],H,Q,I,h=>h H (aw.refl _) rfl
 | (x,φ)::r,H,Q,I,h=>⟨as0,B,own,U,I,fun v H1 g J=>⟨as0,B,own,U,I.mono g,by
   subst J;unfold Iu at h;show cD W (own++as0) H1 (φ U) _;cases e:φ U with
   | er z=>rw [e] at h;exact fun e C H' s=>h e C H' (g.trans s)
   | no=>rw [e] at h;exact h
   | ok d =>
    rw [e] at h;intro y M u L;cases d with
    | bl b =>
     subst L;refine tT r ((I.mono g).mono u) ?_;cases e2:Iu r U with
     | er z=>rw [e2] at h;exact fun e C H' s=>h e C H' ((g.trans u).trans s)
     | no=>rw [e2] at h;exact h
     | ok l =>
      rw [e2] at h;exact fun H' s Y=>h H' ((g.trans u).trans s) (by grind)
    | _=>exact h.elim⟩⟩
theorem xJ {K:aT}:∀ (l:List (Str×Bool)) {ds:List (Key×D)} {xs:List (Key×V)},bH K H ds xs->bH K H (l.foldl (fun acc q=>cx acc (.inr q.1) (.bl q.2)) ds) (nM xs (l.map fun q=>(.inr q.1,V.bl q.2)))
 | [],_,_,h=>h
 | q::l,_,_,h=>xJ l (h.put rfl)
theorem PH (h:PB X W O pos keys values ps) (g:keys.all (·.isSome)=ζ:=by rfl) (L:keys.length=values.length:=by rfl) (J:keys≠[]:=by simp) (r:keys.length<=15:=by decide) (M:ps.length<=15:=by decide) :
  JE X (.Dict keys values pos) (tN W O (ue ps)) :=
 JE.imp ⟨IP h g L J r⟩ fun σ H Q ⟨as0,B,own,U,I,h⟩ p hpH=>by
  refine tT ps (I.mono (aI hpH (.dK []))) ?_;unfold ue at h;cases e:Iu ps U with
  | er z=>rw [e] at h;exact fun e C H' s=>h e C H' ((aI hpH _).trans s)
  | no=>rw [e] at h;exact h
  | ok l =>
   rw [e] at h;intro H' s v;refine ⟨s p _ aE,l.map fun q=>(.inr q.1,V.bl q.2),by rw [Y5];rfl,by simp_all,?_⟩;exact h p _ _ (fun b o u=>by rw [aA (a9 u hpH)];exact s b o (by rw [aA (a9 u hpH)];exact u)) hpH aE ⟨_,rfl,xJ l rfl⟩
end
section
variable {σ:St}
theorem xn:∀ (as:ad5) {H:Hp},Inv X af σ H s->(∀ a∈as,∃ g,H a=θ (.dK g))->as.Nodup->∃ H',Inv X af σ H' s/\(∀ a,a∉as->H' a=H a)/\∀ a∈as,∀ g,H a=θ (.dK g)->∃ o,H' a=θ (.frz o (.dK g))
 | [],H,I,_,_=>⟨H,I,fun _ _=>rfl,fun a v=>nomatch v⟩
 | a::r,H,I,hk,nd=>by
  let ⟨g,e⟩:=hk a (by simp)
  let ⟨o,I1⟩:=I.frzD e
  rw [YW] at nd;have ne:∀ b∈r,b≠a:=fun b hb z=>nd.1 (z ▸ hb);let ⟨H',I2,h1,h2⟩:=xn r I1 (fun b hb=>by rw [aA (ne b hb)];exact hk b (by simp [hb])) nd.2
  refine ⟨H',I2,fun b hb=>?_,fun b hb xs u=>?_⟩
  .rw [mK,not_or] at hb;rw [h1 b hb.2,aA hb.1]
  .rcases mK.mp hb with rfl|hb
   .rw [e] at u;cases u;exact ⟨o,by rw [h1 b nd.1,aE]⟩
   .exact h2 b hb xs (by rw [aA (ne b hb)];exact u)
def VR (t:TS):TS:=fun D σ H=>∃ as:ad5,as.Nodup/\(∀ a∈as,∃ g,H a=θ (.dK g))/\∀ H':Hp,(∀ a,a∉as->H' a=H a)->(∀ a∈as,∀ g,H a=θ (.dK g)->∃ o,H' a=θ (.frz o (.dK g)))->t D σ H'
theorem Ni (h:JB X sts t):JB X sts (VR t):=⟨fun af s σ H D I ⟨as,nd,hk,q⟩=>by
 obtain ⟨H',g,h1,h2⟩:=xn as I hk nd;exact h.out af s σ H' D g (q H' h1 h2)⟩
end
section
variable {K:aT}
theorem InK.isD:∀ {u:List KD} {bs:ad5} {g:List (Key×V)},InK K M H u bs g->∀ b∈bs,∃ xs,H b=θ (.dK xs)
 | [],_,_,⟨e,_⟩,b,hb=>by simp_all
 | (k,ds)::r,_,_,⟨b',bs',kvs',xs,e1,e2,e3,e4,e5⟩,b,hb=>by
  subst e1;rcases mK.mp hb with rfl|hb
  .grind
  .exact e5.isD b hb
theorem InK.denF (s:aw M M'):∀ {u:List KD} {bs:ad5} {g:List (Key×V)},(∀ b∈bs,∀ xs,H b=θ (.dK xs)->∃ o,M' b=θ (.frz o (.dK xs)))->InK K M H u bs g->bH K M' (u.map fun q=>(q.1,D.dcf q.2)) g
 | [],_,_,_,⟨_,e⟩=>e
 | (k,ds)::r,_,_,hb,⟨b,bs',kvs',xs,e1,e2,e3,e4,e5⟩=>by
  subst e1 e2;let ⟨o,eo⟩:=hb b (by simp) _ e3
  exact ⟨.ref b,kvs',rfl,⟨b,o,xs,rfl,eo,e4.mono s⟩,e5.denF s fun c v=>hb c (by simp [v])⟩
theorem GR.fz (g:GR K as0 B i p bs dd σ U H) (h1:∀ a,a∉p::bs->H' a=H a) (h2:∀ a∈p::bs,∀ u,H a=θ (.dK u)->∃ o,H' a=θ (.frz o (.dK u))) :
  DI K as0 B [] [] σ (U.set i (θ (.dcf (dd.map fun q=>(q.1,D.dcf q.2))))) H':=by
 let ⟨u,e1,e2⟩:=g.hp
 have hb:∀ a∈p::bs,B a=ξ:=fun a C=>by
  rcases mK.mp C with rfl|C
  .exact g.bp
  .exact g.bb a C
 have s:aw (mask (p::(bs++as0)) H) (mask as0 H'):=fun b o e=>by
  by_cases hm:b∈p::(bs++as0)
  .rw [bT hm] at e;cases e
  .rw [aD hm] at e;simp only [mK,xb,not_or] at hm;rw [aD hm.2.2,h1 b (by grind)];exact e
 refine ⟨by simp [g.len],rfl,ZF,ZF,fun a C=>(nomatch C),g.ex,fun b o e=>?_,fun k e _ r=>?_,fun j a h=>(by simp at h)⟩
 .rw [h1 b fun z=>by grind];exact g.bs_ b o e
 rw [abt];rw [getElem?_set'] at r;split at r
 .rename_i hk;subst hk;split at r
  .cases r;let ⟨o,eo⟩:=h2 p (by simp) _ e1
   refine ⟨_,g.hi,p,o,u,rfl,by rw [aD fun z=>g.ex p z g.bp];exact eo,e2.denF s fun b I xs ex=>?_⟩;let ⟨o,eo⟩:=h2 b (by simp [I]) _ ex
   exact ⟨o,by rw [aD fun z=>g.ex b z (g.bb b I)];exact eo⟩
  .cases r
 .let ⟨v,a1,a2⟩:=g.var k e r
  exact ⟨v,a1,a2.mono s⟩
end
def qB (τ:FT) (ε:FE) (g:List KD) (U:Sd):R (List KD):=(τ U).bind fun c=>if c=ζ then (ε U).bind fun k=>match cb k with
 | some k=>if c9 k g=ξ/\g.length < 1000000 then .ok (g++[(k,[])]) else .no
 | none=>.no else .ok g
def m4 (τ:FT) (g r:FE) (u:List KD) (U:Sd):R (List KD):=(τ U).bind fun c=>if c=ζ then (g U).bind fun k=>match cb k with
 | some k=>(match c9 k u with
  | some ds=>(r U).bind fun n=>match cb n with
   | some n=>if (bv ds n).isSome=ζ then .ok (fe k (cX ds n) u) else .no
   | none=>.no
  | none=>.no)
 | none=>.no else .ok u
def tU (z:FT) (J:FE) (r:FT) (u v C:FE) (g:FT) (L I:FE) (Z:List KD) (U:Sd):R (List KD):=(qB z J Z U).bind fun Y=>(qN r u v C Y U).bind fun M=>m4 g L I M U
def LP (a:Nat) (f:List KD->Sd->R (List KD)):ad8->Sd->List KD->R (Sd×List KD)
 | [],U,dd=>.ok (U,dd)
 | x::r,U,dd=>(f dd (U.set a (θ x))).bind fun g=>LP a f r (U.set a (θ x)) g
def N7 (i:Nat) (q:Sd×List KD):R Fl:=.ok (.nx (q.1.set i (θ (.dcf (q.2.map fun q=>(q.1,D.dcf q.2))))))
def zj (i a:Nat) (ι:FA) (f:List KD->Sd->R (List KD)):FS:=fun U=>if i < U.length then (ι (U.set i ξ)).bind fun xs=>(LP a f xs (U.set i ξ) []).bind (N7 i) else .no
theorem tH (r:R α) (f:α->R β) (g:β->R γ):(r.bind f).bind g=r.bind fun x=>(f x).bind g:=by cases r <;> rfl
def kS (i:Nat) (ψ:FS) (r:R (Sd×List KD)):R Fl:=(r.bind (N7 i)).bind fun f=>match f with|.nx δ'=>ψ δ'|f=>.ok f
theorem Ix (r:R α) (f:α->R (Sd×List KD)):kS i ψ (r.bind f)=r.bind fun x=>kS i ψ (f x):=by cases r <;> rfl
section
abbrev Om (W:Wd) (Ob O2:ad0) (i:Nat) (D' v:Ends) (as0:ad5) (B u:Hp) (p:YS) (σ:St) (U:Sd) (k:List KD->R Fl):Prop:=∀ r g H',GR W.K as0 B i p r g σ U H'->aw (mask (p::as0) u) H'->(∀ b∈r,u b=ξ)->bx W as0 B Ob O2 (k g) D'->v.nx σ H'
theorem F7 (g:GR W.K as0 B i p bs dd σ U H) (sG:aw (mask (p::as0) H3) H) (L:∀ b∈bs,H3 b=ξ) (h:bx W as0 B Ob O2 ((qB τ ε dd U).bind k) D') (hk:Om W Ob O2 i D' Dn as0 B H3 p σ U k) :
  IZ (i9 W [] τ) (qm GX (yP (lC i) (tD W [] ε) wV)) A7 Dn σ H:=by
 refine ⟨_,_,[],U,g.di,?_⟩;unfold qB at h;cases hτ:τ U with
 | er z=>rw [hτ] at h;exact fun e C H' s=>h e C H' (g.bs_.trans s)
 | no=>rw [hτ] at h;exact h
 | ok c =>
 rw [hτ] at h;intro H6 s6;have I:=g.mono s6;have v:=sG.trans s6;cases c with
 | false=>exact hk bs dd H6 I v L h
 | true =>
  intro q hq;unfold yP lC;rw [I.hi];have M:=I.mono (aI hq (.dK []));refine ⟨_,_,[],U,M.di,?_⟩;cases hε:ε U with
  | er z=>rw [hε] at h;exact fun e C H' s=>h e C H' (M.bs_.trans s)
  | no=>rw [hε] at h;exact h
  | ok k7 =>
  rw [hε] at h;intro v7 H7 s7 Z;have u:bx W as0 B Ob O2 ((match cb k7 with
   | some k=>if c9 k dd=ξ/\dd.length < 1000000 then R.ok (dd++[(k,[])]) else .no
   | none=>.no).bind k) D':=h
  cases hx:cb k7 with
  | none=>rw [hx] at u;exact u.elim
  | some kk =>
  rw [hx] at u;dsimp only at u;have Y:=cU Z hx;subst Y;by_cases hz:c9 kk dd=ξ/\dd.length < 1000000
  case neg=>rw [adV hz] at u;exact u.elim
  rw [adU hz] at u;let ⟨kvs,e1,e2⟩:=(M.mono s7).hp
  have hm:=cj;refine ⟨p,kvs,kk,rfl,rfl,e1,by rw [<- e2.len];lia,hk (bs++[q]) _ _ (I.more hq s7 e1 hz.1) (iP (v.trans ((aI hq _).trans s7)) (bT (by simp))) (fun c J=>?_) u⟩;rcases xb.mp J with J|J
  .exact L c J
  .rw [OR.mp J];cases e:H3 q with
   | none=>rfl
   | some o =>
    by_cases r:q∈p::as0
    .rcases mK.mp r with rfl|r
     .let ⟨kv,e3,_⟩:=I.hp;rw [e3] at hq;cases hq
     .exact absurd (I.bs_.free hq) (I.ex q r)
    .have:=v q o (by rw [aD r];exact e)
     rw [hq] at this;cases this
theorem HS (g:GR W.K as0 B i p bs dd σ U H) (sG:aw (mask (p::as0) H3) H) (I:∀ b∈bs,H3 b=ξ) (h:bx W as0 B Ob O2 ((qN τ ε2 ε3 ε4 dd U).bind k) D') (hk:Om W Ob O2 i D' Dn as0 B H3 p σ U k) :
  IZ (i9 W [] τ) (qm (tD W [] ε4) (yP (wk (lC i) (tD W [] ε2)) (tD W [] ε3) wV)) A7 Dn σ H:=by
 refine ⟨_,_,[],U,g.di,?_⟩;unfold qN at h;cases hτ:τ U with
 | er z=>rw [hτ] at h;exact fun e C H' s=>h e C H' (g.bs_.trans s)
 | no=>rw [hτ] at h;exact h
 | ok c =>
 rw [hτ] at h;intro H6 s6;have g6:=g.mono s6;have L:=sG.trans s6;cases c with
 | false=>exact hk bs dd H6 g6 L I h
 | true =>
  rw [adU rfl];have u:bx W as0 B Ob O2 (((ε4 U).bind fun d=>(ε2 U).bind fun k=>match cb k with
   | some k=>(match c9 k dd with
    | some ds=>(ε3 U).bind fun n=>match cb n with
     | some n=>if ds.length < 1000000 then .ok (fe k (cx ds n d) dd) else .no
     | none=>.no
    | none=>.no)
   | none=>.no).bind k) D':=h
  refine ⟨_,_,[],U,g6.di,?_⟩;cases hε:ε4 U with
  | er z=>rw [hε] at u;exact fun e C H' s=>u e C H' (g6.bs_.trans s)
  | no=>rw [hε] at u;exact u
  | ok d7 =>
  rw [hε] at u;intro v7 H7 s7 dv7;have Y:=g6.mono s7;unfold yP wk lC;rw [Y.hi];refine ⟨_,_,[],U,Y.di,?_⟩;cases hε2:ε2 U with
  | er z=>rw [hε2] at u;exact fun e C H' s=>u e C H' (Y.bs_.trans s)
  | no=>rw [hε2] at u;exact u
  | ok k8 =>
  rw [hε2] at u;intro v8 H8 s8 dv8;have g8:=Y.mono s8;have r:bx W as0 B Ob O2 ((match cb k8 with
   | some k=>(match c9 k dd with
    | some ds=>(ε3 U).bind fun n=>match cb n with
     | some n=>if ds.length < 1000000 then .ok (fe k (cx ds n d7) dd) else .no
     | none=>.no
    | none=>.no)
   | none=>.no).bind k) D':=u
  cases hx:cb k8 with
  | none=>rw [hx] at r;exact r.elim
  | some kk =>
  rw [hx] at r;have hv8:=cU dv8 hx;subst hv8;let ⟨kvs,e1,e2⟩:=g8.hp
  rcases e2.val kk with ⟨z,_⟩|⟨ds,Z,xs0,z1,z2,z3,z4,z5⟩
  .dsimp only at r;rw [z] at r;exact r.elim
  dsimp only at r;rw [z1] at r;refine ⟨p,.ref Z,rfl,z2 ▸ jo.rd (.inl e1),?_⟩;refine ⟨_,_,[],U,g8.di,?_⟩;cases hε3:ε3 U with
  | er z=>rw [hε3] at r;exact fun e C H' s=>r e C H' (g8.bs_.trans s)
  | no=>rw [hε3] at r;exact r
  | ok k9 =>
  rw [hε3] at r;intro v9 H9 J dv9;have g9:=g8.mono J;have v:bx W as0 B Ob O2 ((match cb k9 with
    | some n=>if ds.length < 1000000 then R.ok (fe kk (cx ds n d7) dd) else .no
    | none=>.no).bind k) D':=r
  cases hk9:cb k9 with
  | none=>rw [hk9] at v;exact v.elim
  | some kn =>
  rw [hk9] at v;have hv9:=cU dv9 hk9;subst hv9;by_cases hz:ds.length < 1000000
  case neg=>dsimp only at v;rw [adV hz] at v;exact v.elim
  dsimp only at v;rw [adU hz] at v;have hm:=cj;have z4':=J _ _ z4;have M:=z5.mono (aG (as:=p::(bs++as0)) J);have e1':=J _ _ e1;exact ⟨Z,xs0,kn,rfl,rfl,z4',by rw [<- M.len];lia,hk bs _ _ (g9.put e1' z2 z3 (M.put (dv7.mono (aG (s8.trans J))))) (iP (L.trans (s7.trans (s8.trans J))) (by
   by_cases q:Z∈p::as0
   .exact bT q
   .rw [aD q];exact I Z z3)) I v⟩
theorem Di (g:GR W.K as0 B i p bs dd σ U H) (sG:aw (mask (p::as0) H3) H) (v:∀ b∈bs,H3 b=ξ) (h:bx W as0 B Ob O2 ((m4 τ ε2 ε3 dd U).bind k) D') (hk:Om W Ob O2 i D' Dn as0 B H3 p σ U k) :
  IZ (i9 W [] τ) (tP (uQ (wk (lC i) (tD W [] ε2)) (tD W [] ε3))) A7 Dn σ H:=by
 refine ⟨_,_,[],U,g.di,?_⟩;unfold m4 at h;cases hτ:τ U with
 | er z=>rw [hτ] at h;exact fun e C H' s=>h e C H' (g.bs_.trans s)
 | no=>rw [hτ] at h;exact h
 | ok c =>
 rw [hτ] at h;intro H7 s7;have J:=g.mono s7;have L:=sG.trans s7;cases c with
 | false=>exact hk bs dd H7 J L v h
 | true =>
  rw [adU rfl];have I:bx W as0 B Ob O2 (((ε2 U).bind fun k=>match cb k with
   | some k=>(match c9 k dd with
    | some ds=>(ε3 U).bind fun n=>match cb n with
     | some n=>if (bv ds n).isSome=ζ then .ok (fe k (cX ds n) dd) else .no
     | none=>.no
    | none=>.no)
   | none=>.no).bind k) D':=h
  unfold tP uQ wk lC;rw [J.hi];refine ⟨_,_,[],U,J.di,?_⟩;cases hε2:ε2 U with
  | er z=>rw [hε2] at I;exact fun e C H' s=>I e C H' (J.bs_.trans s)
  | no=>rw [hε2] at I;exact I
  | ok k8 =>
  rw [hε2] at I;intro v8 H8 s8 dv8;have g8:=J.mono s8;have r:bx W as0 B Ob O2 ((match cb k8 with
   | some k=>(match c9 k dd with
    | some ds=>(ε3 U).bind fun n=>match cb n with
     | some n=>if (bv ds n).isSome=ζ then .ok (fe k (cX ds n) dd) else .no
     | none=>.no
    | none=>.no)
   | none=>.no).bind k) D':=I
  cases hx:cb k8 with
  | none=>rw [hx] at r;exact r.elim
  | some kk =>
  rw [hx] at r;have hv8:=cU dv8 hx;subst hv8;let ⟨kvs,e1,e2⟩:=g8.hp
  rcases e2.val kk with ⟨z,_⟩|⟨ds,bb,M,z1,z2,z3,z4,z5⟩
  .dsimp only at r;rw [z] at r;exact r.elim
  dsimp only at r;rw [z1] at r;refine ⟨p,.ref bb,rfl,z2 ▸ jo.rd (.inl e1),bb,rfl,.inl ⟨M,.inl z4⟩,?_⟩;refine ⟨_,_,[],U,g8.di,?_⟩;cases hε3:ε3 U with
  | er z=>rw [hε3] at r;exact fun e C H' s=>r e C H' (g8.bs_.trans s)
  | no=>rw [hε3] at r;exact r
  | ok k9 =>
  rw [hε3] at r;intro v9 H9 Z dv9;have g9:=g8.mono Z;have u:bx W as0 B Ob O2 ((match cb k9 with
    | some n=>if (bv ds n).isSome=ζ then R.ok (fe kk (cX ds n) dd) else .no
    | none=>.no).bind k) D':=r
  cases hk9:cb k9 with
  | none=>rw [hk9] at u;exact u.elim
  | some kn =>
  rw [hk9] at u;have hv9:=cU dv9 hk9;subst hv9;have z4':=Z _ _ z4;have Y:=z5.mono (aG (as:=p::(bs++as0)) Z);have e1':=Z _ _ e1;dsimp only at u;rcases Y.val kn with ⟨c1,c2⟩|⟨d',v',c1,c2,_⟩
  .rw [c1] at u;exact u.elim
  rw [c1,adU (show (θ d').isSome=ζ from rfl)] at u;exact ⟨M,kn,v',z4',rfl,c2,hk bs _ _ (g9.put e1' z2 z3 (Y.drop kn)) (iP (L.trans (s8.trans Z)) (by
   by_cases q:bb∈p::as0
   .exact bT q
   .rw [aD q];exact v bb z3)) v u⟩
end
section
variable {rest:List aa0} {p1 p2 p3 q1 q2 q3 q4 q5 r1 r2 r3 r4 r5 f1 t1 t2 t3 t4 t5 i1 i2 i3:Pos}
theorem Hk (K:aT) (hp:abM (YN X.prog X.w) X.A X.env X.xe) (hu:X.A.units+64 < aa3) (hN:X.N.Nodup) (hx:vZ X.env.scope x) (hxa:vZ X.env.scope xa)
  (hi:JI X (.Name xa q5) it (iD W [] ι)) (hc1:JT X c1 (i9 W [] τ1)) (h1:JE X e1 (tD W [] ε1)) (hc2:JT X c2 (i9 W [] τ2)) (h2:JE X e2 (tD W [] ε2)) (h3:JE X e3 (tD W [] ε3)) (h4:JE X e4 (tD W [] ε4))
  (hc3:JT X c3 (i9 W [] τ3)) (h5:JE X e5 (tD W [] ε5)) (h6:JE X e6 (tD W [] ε6)) (hr:JB X rest (sD W Ob [] O2 ψ))
  (hai:a≠i:=by decide) (M:X.N[i]?=θ x:=by rfl) (hXa:X.N[a]?=θ xa:=by rfl) (hv:sd X.env.scope x:=by walk_at"v") (hd:ad9 x:=by decide) (hcd:(x==("__classdict__":Str))=η:=by decide)
  (hf:X.fn x=ζ\/X.env.scope.names.lookup x=θ .local:=by walk_at"u") (hfa:X.fn xa=ζ\/X.env.scope.names.lookup xa=θ .local:=by walk_at"u")
  (hs0:Z2 (.Dict [] [] p2) (θ (.Name x p1)) p3.line X.env=pure η:=by rfl) (hn2:yg e2:=by exact fun _ _=>rfl) (hn5:yg e5:=by exact fun _ _=>rfl)
  (hs1:swapsWithSole [.Subscript (.Name x q1) e1 q2] (.Dict [] [] q3) q4.line X.env=pure η:=by rfl) (hw1:swappedStores [.Subscript (.Name x q1) e1 q2] (.Dict [] [] q3) X.env=pure ξ:=by rfl)
  (h11:(Zn [.Subscript (.Name x q1) e1 q2] X.env).map (·.2)=[assign (.Subscript (.Name x q1) e1 q2) X.env]:=by rfl)
  (ha1:∀ v,assign (.Subscript (.Name x q1) e1 q2) X.env v=(do
   let ov <- holding [v] (eval (.Name x q1) X.env)
   let iv <- holding [v,ov] (eval e1 X.env)
   acy q2
   holding [v,ov,iv] (setItem ov iv v)
   release [v,ov,iv] []):=by intro _;rfl)
  (hs2:swapsWithSole [.Subscript (.Subscript (.Name x r1) e2 r2) e3 r3] e4 r4.line X.env=pure η:=by rfl) (hw2:swappedStores [.Subscript (.Subscript (.Name x r1) e2 r2) e3 r3] e4 X.env=pure ξ:=by rfl)
  (h12:(Zn [.Subscript (.Subscript (.Name x r1) e2 r2) e3 r3] X.env).map (·.2)=[assign (.Subscript (.Subscript (.Name x r1) e2 r2) e3 r3) X.env]:=by rfl)
  (ha2:∀ v,assign (.Subscript (.Subscript (.Name x r1) e2 r2) e3 r3) X.env v=(do
   let ov <- holding [v] (eval (.Subscript (.Name x r1) e2 r2) X.env)
   let iv <- holding [v,ov] (eval e3 X.env)
   acy r3
   holding [v,ov,iv] (setItem ov iv v)
   release [v,ov,iv] []):=by intro _;rfl)
  (hbase:Y4 (.Subscript (.Name x t1) e5 t2) "pop" X.env (eval (.Subscript (.Name x t1) e5 t2) X.env)=eval (.Subscript (.Name x t1) e5 t2) X.env:=by rfl)
  (hfew:((aaa t4 (YI [e6] X.env)).all (fun x=>!x.1)&&(backToKw t4 (aaJ [] X.env)).all (fun x=>x.1.isSome)&&decide (([e6]:List Zq).length+([]:List aaQ).length+(if ([]:List aaQ).isEmpty then 0 else 1) < 30))=ζ:=by rfl)
  (hline:(t3.endLine==t4.line)=ζ:=by rfl) (htr:aaa t4 (YI [e6] X.env)=[(η,eval e6 X.env)]:=by rfl)
  (hs3:Z2 (.Call (.Attribute (.Subscript (.Name x t1) e5 t2) "pop" t3) [e6] [] t4) ξ t5.line X.env=pure η:=by rfl)
  (hW:W.K=K:=by rfl) (hcm:X.calm=ζ:=by rfl) (hsi:∀ x,Zs it X.env x=pure x:=by intro _;rfl) :
  JB X (.Assign [.Name x p1] (.Dict [] [] p2) p3::.For (.Name xa q5) it [.If c1 [.Assign [.Subscript (.Name x q1) e1 q2] (.Dict [] [] q3) q4] [] i1,.If c2 [.Assign [.Subscript (.Subscript (.Name x r1) e2 r2) e3 r3] e4 r4] [] i2,.If c3 [.Expr (.Call (.Attribute (.Subscript (.Name x t1) e5 t2) "pop" t3) [e6] [] t4) t5] [] i3] [] f1::rest)
   (sD W Ob [] O2 (ap (zj i a ι (tU τ1 ε1 τ2 ε2 ε3 ε4 τ3 ε5 ε6)) ψ)):=by
 refine JB.imp (m9 (zw hN hx uN M hs0 hf) (m9 (FC hp hi (Ap hN hXa hxa hfa)
   (m9 (BN hc1 (rQ (qi uN (yF (jv i M hv hd hcd) h1 (nz (by lia)) ha1) hs1 hw1 h11)) vK)
   (m9 (BN hc2 (rQ (qi h4 (yF ⟨ut (by lia) (jv i M hv hd hcd).out h2.out hn2⟩ h3 (nz (by lia)) ha2) hs2 hw2 h12)) vK)
   (rQ (BN hc3 (rQ (mN ⟨wK (ut (by lia) (jv i M hv hd hcd).out h5.out hn5) h6.out ⟨hbase,hfew,hline,htr⟩⟩ hs3)) vK)))) hcm hsi) (Ni hr))) fun D' σ H hh=>cJ hh fun as0 B own U I h=>?_
 have eown:own=[]:=List.eq_nil_of_length_eq_zero I.olen;subst eown;have hrr:∀ as0 B σ U H,DI W.K as0 B [] [] σ U H->bx W as0 B Ob O2 (ψ U) D'->sD W Ob [] O2 ψ D' σ H:=fun as0 B σ U H I h=>⟨as0,B,[],U,I,h⟩;generalize sD W Ob [] O2 ψ=tr at hrr;unfold ap zj at h;by_cases Y:i < U.length
 case neg=>rw [adV Y] at h;exact h.elim
 rw [adU Y] at h;intro p L;have g0:GR W.K as0 B i p [] [] (σ.set i (θ (.ref p))) (U.set i ξ) (upd H p (.dK [])):=by
  have sm:aw (mask as0 H) (mask (p::as0) (upd H p (.dK []))):=f8 L (aI L _);refine ⟨by simp [I.len],fun k d e=>?_,by rw [getElem?_set',adU rfl,adU (by rw [<- I.len];exact Y)],I.same.trans (aI L _),I.same.free L,fun b hb=>(nomatch hb),by simp,by simp,I.ex0,[],aE,rfl,rfl⟩
  rw [getElem?_set'] at e ⊢;split at e
  .first|cases e|(split at e <;> cases e)
  .rename_i hk;rw [adV hk];let ⟨v,a1,a2⟩:=I.var k d (by simp) e
   exact ⟨v,a1,a2.mono sm⟩
 dsimp only [jA];generalize (upd H p (.dK []))=H2 at g0;generalize σ.set i (θ (.ref p))=σ2 at g0;generalize U.set i ξ=δ2 at g0 h;clear L I Y;refine ⟨p::([]++as0),H2,[],δ2,g0.di,?_⟩;generalize hst:tU τ1 ε1 τ2 ε2 ε3 ε4 τ3 ε5 ε6=st at h;cases hι:ι δ2 with
 | er z=>rw [hι] at h;exact fun e C H' s=>h e C H' (g0.bs_.trans s)
 | no=>rw [hι] at h;exact h
 | ok xs =>
 rw [hι] at h;have h:bx W as0 B Ob O2 (kS i ψ (LP a st xs δ2 [])) D':=h;intro J H3 s3 G;rw [rq] at G;have g3:=g0.mono s3;refine ⟨fun n m Z H'=>m=xs.length - n/\n<=xs.length/\∃ bs δ' g,GR W.K as0 B i p bs g Z δ' H'/\aw (mask (p::as0) H3) H'/\(∀ b∈bs,H3 b=ξ)/\bx W as0 B Ob O2 (kS i ψ (LP a st (xs.drop n) δ' g)) D',
  ⟨xs.length,by simp,YJ _,[],δ2,[],g3,ar _ _,fun b hb=>(nomatch hb),by rw [acZ];exact h⟩,?_⟩
 rintro n m σ4 H4 ⟨rfl,hn,bs,δ4,dd4,g4,sG,hbs,h4⟩;by_cases r:n < xs.length
 .refine .inr ⟨G.go n H4 sG r,fun Z H'=>∃ bs δ' g,GR W.K as0 B i p bs g Z δ' H'/\aw (mask (p::as0) H3) H'/\(∀ b∈bs,H3 b=ξ)/\bx W as0 B Ob O2 (kS i ψ (LP a st (xs.drop (n+1)) δ' g)) D',
   fun Z H' z=>⟨xs.length - (n+1),by lia,rfl,r,z⟩,fun v H5 y=>?_⟩
  let ⟨s5,d,hd5,dv⟩:=G.yl n H4 v H5 (p::(bs++as0)) sG g4.exi (fun u hu=>by
   rcases mK.mp hu with rfl|hu
   .exact .inl (by simp)
   .rcases xb.mp hu with hu|hu
    .exact .inr (hbs u hu)
    .exact .inl (by simp [hu])) r y
  have ed:xs.drop n=d::xs.drop (n+1):=by
   rw [aa7 r];rw [lE r] at hd5;cases hd5;rfl
  rw [ed] at h4;have g5:=(g4.mono s5).set hai dv;have sG5:=sG.trans s5;have h5:bx W as0 B Ob O2 (kS i ψ ((st dd4 (δ4.set a (θ d))).bind fun g=>LP a st (xs.drop (n+1)) (δ4.set a (θ d)) g)) D':=h4;rw [Ix] at h5;dsimp only [jA];generalize σ4.set a (θ v)=σ5 at g5;generalize δ4.set a (θ d)=δ5 at g5 h5;have hst5:st dd4 δ5=(qB τ1 ε1 dd4 δ5).bind fun d1=>(qN τ2 ε2 ε3 ε4 d1 δ5).bind fun d2=>m4 τ3 ε5 ε6 d2 δ5:=by rw [<- hst];rfl
  rw [hst5,tH] at h5;refine F7 g5 sG5 hbs h5 fun b6 d6 H6 g6 sG6 hb6 h6=>?_;rw [tH] at h6;exact HS g6 sG6 hb6 h6 fun b7 d7 H7 g7 sG7 hb7 h7=>Di g7 sG7 hb7 h7 fun b8 d8 H8 g8 sG8 hb8 h8=>⟨b8,δ5,d8,g8,sG8,hb8,h8⟩
 .have e:n=xs.length:=by lia
  subst e;rw [acA] at h4;let ⟨kvs,e1,e2⟩:=g4.hp
  refine .inl ⟨G.stop H4 sG,p::bs,YW.mpr ⟨g4.pn,g4.nd⟩,fun b hb=>?_,fun H' y1 y2=>hrr as0 B _ _ _ (g4.fz y1 y2) h4⟩;rcases mK.mp hb with rfl|hb
  .exact ⟨kvs,e1⟩
  .exact e2.isD b hb
end
def tS (S:ad0) (led:Bool):SetTable:={ mask:=7,place:=S.toArray,dummies:=#[],finger:=0,led:=led,moves:=0,plain:=ζ }
def p8 (S:ad0) (g:Nat->Tok):Array (Int×rW):=(S.map fun (i:Nat)=>((i:Int),acF (i:Int) (g i))).toArray
def me (S:ad0) (i:Nat):ad0:=if i∈S then S else S.filter (fun j=>decide (j < i))++i::S.filter (fun j=>decide (i < j))
def d9:List (ad0):=[[],[0],[1],[2],[0,1],[0,2],[1,2],[0,1,2]]
def kO (h:abh) (a:YS) (S:ad0) (g:Bool) (u:Nat):Prop:=∃ o r,h.get? a=θ o/\o.ExactSet/\o.data=.set (p8 S r) u (tS S g)
theorem Am:∀ S∈d9,∀ i < 3,me S i∈d9:=by trivial
theorem LN (h:i < 3):i=0\/i=1\/i=2:=by lia
theorem qU {i:Nat} (g:i < 3):hashInt (i:Int)=(i:Int):=by
 rcases LN g with rfl|rfl|rfl <;> decide +kernel
theorem dG (r:S∈d9) (g:Bool) (u:Nat->Tok):(tS S g).fits (p8 S u).size=ζ:=by
 unfold d9 at r;simp only [mK,Y3,or_false] at r;rcases r with rfl|rfl|rfl|rfl|rfl|rfl|rfl|rfl <;> kernel_rfl
theorem sub_lt:∀ S∈d9,∀ i∈S,i < 3:=by trivial
section
theorem wU (v:S∈d9) (g:Nat->Tok):ElemsOf (intKind prog w) (p8 S g).toList:=fun e r=>by
 obtain ⟨i,u,rfl⟩:=Do.mp r;exact ⟨⟨i,by simp [intKind,aba],(qU (sub_lt S v i u)).symm⟩,rfl⟩
theorem tQ (r:S∈d9) (g:Nat->Tok):(p8 S g).size < scanBound:=by
 have:∀ S∈d9,S.length<=3:=by decide
 have u:=this S r;unfold p8 scanBound;simp;lia
theorem yS (r:S∈d9) (g:Bool):(tS S g).tooFull=η:=by
 unfold d9 at r;simp only [mK,Y3,or_false] at r;rcases r with rfl|rfl|rfl|rfl|rfl|rfl|rfl|rfl <;> kernel_rfl
theorem CC (g:S∈d9) (J:i < 3) (hs:kO s.heap a S led ep)
  (h:∀ b h' I,Zo a s.heap h'->kO h' a (me S i) led I->Q b { s with heap:=h' }):YH (YN prog w) A (setAddHashed a (.int (i:Int) t) (hashInt (i:Int))) Q E s:=by
 let ⟨o,tk,ho,hex,hd⟩:=hs
 have L:=dG g led tk;have v:=wU (prog:=prog) (w:=w) g tk;have Z:(intKind prog w).is (i:Int) (.int (i:Int) t)=ζ:=by simp [intKind,aba]
 unfold setAddHashed setAddHashedIn;refine ZI (bY (wpAny_setState_of ho hd L ?_));dsimp only;rw [byScan_of (knd:=intKind prog w) rfl (tQ g tk) v,adU rfl];unfold setAddByScan;refine bY (bY (aco ?_));have M:hashInt (i:Int)=(intKind prog w).hash (i:Int):=rfl;rw [M];refine bY (wpAny_setScan_of Z ho hd L v ?_);have r:(∃ j,acv (fun e=>(intKind prog w).is (i:Int) e.2) (p8 S tk).toList=θ j) ↔ i∈S:=by
  unfold p8;rw [List.toList_toArray];constructor
  .rintro ⟨j,hj⟩;let ⟨hlt,hp,_⟩:=abu.mp hj
   rw [List.getElem_map] at hp
   have:S[j]'(by simpa using hlt)=i:=by
    simp [intKind,aba] at hp;lia
   rw [<- this];exact YG _
  .intro hm;cases e:acv (fun e=>(intKind prog w).is (i:Int) e.2) (S.map fun (i:Nat)=>((i:Int),acF (i:Int) (tk i))) with
   | some j=>exact ⟨j,rfl⟩
   | none =>
    have:=List.findIdx?_eq_none_iff.mp e _ (Do.mpr ⟨i,hm,rfl⟩)
    simp [intKind,aba] at this
 cases e:acv (fun e=>(intKind prog w).is (i:Int) e.2) (p8 S tk).toList with
 | some j =>
  have hm:=r.mp ⟨j,e⟩;have C:me S i=S:=adU hm;refine nE (nE ?_)
  have:=h η s.heap ep (Heap.SameBut.refl a s.heap) (by rw [C];exact ⟨o,tk,ho,hex,hd⟩)
  exact this
 | none =>
  have hm:i∉S:=fun z=>by
   let ⟨j,hj⟩:=r.mpr z
   rw [e] at hj;cases hj
  have u:=Am S g i J;have Y:layNew (tS S led) (p8 S tk) (hashInt i) (.int i t)=(p8 (me S i) (fun j=>if j=i then t else tk j),tS (me S i) led,η,η):=by rw [qU J];exact (by
    unfold d9 at g;simp only [mK,Y3,or_false] at g;rcases g with rfl|rfl|rfl|rfl|rfl|rfl|rfl|rfl <;> rcases LN J with rfl|rfl|rfl <;> first|exact absurd (by decide) hm|kernel_rfl)
  rw [<- M];rw [Y];refine bY (nE ?_);refine bY (nE ?_);refine bY (wpAny_storeSet_of ho hd ?_ (fits_of_scanBound (tQ u _)));rw [adU rfl,yS u led];refine nE (nE ?_);refine h ζ _ (ep+1) (aae _ _ _) ⟨{ o with data:=.set (p8 (me S i) fun j=>if j=i then t else tk j) (ep+1) (tS (me S i) led) },fun j=>if j=i then t else tk j,?_,hex,rfl⟩
  have:=aaT (Obj.putSet (p8 (me S i) fun j=>if j=i then t else tk j) (tS (me S i) led)) ho (by rw [putSet_of _ _ hd];rfl)
  rw [putSet_of _ _ hd] at this;exact this
end
def nZ (ks:ad0):ad0:=ks.foldl me []
theorem jL:∀ (ks S:ad0),S∈d9->(∀ k∈ks,k < 3)->ks.foldl me S∈d9
 | [],S,h,_=>h
 | k::r,S,h,hk=>jL r _ (Am S h k (hk k (by simp))) fun x g=>hk x (by simp [g])
section
variable {s:IF}
theorem B2 {ks:ad0} (Z:A.handled=ξ) (hl:s.heap.IsList l items) (C:ks.length=items.size)
  (hi:∀ (i:Nat) v,items[i]?=θ v->∀ k,ks[i]?=θ k->∃ t,v=.int (k:Int) t) (I:∀ k∈ks,k < 3)
  (h:∀ (h':abh) (z g:Nat),kO h' s.heap.objs.size (nZ ks) (dl w) g->(∀ b o,b < s.heap.objs.size->s.heap.get? b=θ o->h'.get? b=θ o)->Q (.ref s.heap.objs.size) { s with heap:=h',toks:=z }) :
  YH (YN prog w) A (call (.type "set") [.ref l]) Q E s:=by
 refine wx (J:=fun i h=>∃ g,kO h s.heap.objs.size (nZ (ks.take i)) (dl w) g) Z hl ⟨fun i h h' ⟨g,o,z,ho,r⟩ k=>⟨g,o,z,k o ho,r⟩,fun A E i v s' Q hlt hP ⟨g,hs⟩ q=>?_⟩ (fun h e=>⟨0,_,fun _=>0,e,⟨rfl,rfl,rfl⟩,rfl⟩) fun h' z ⟨g,hs⟩=>h h' z g (by rw [<- C,abP] at hs;exact hs);have u:i < ks.length:=by lia
 obtain ⟨t,rfl⟩:=hi i v hP ks[i] (lE u);unfold setAdd;refine ZI (bY (wpAny_pyHash_int (CC (s:={ s' with toks:=s'.toks+1 }) (jL _ _ (by decide) fun k hk=>I k (ZU hk)) (I _ (YG u)) hs fun b h' M Y L=>q _ _ _ (abw _) Y ⟨M,?_⟩)));unfold nZ at L ⊢;rw [Zb u,adv];exact L
end
theorem A4 {α:Type} (f:Nat->Nat):∀ (n k:Nat) (l:List α) (out:Array α),l.length=n->(abK f n k l out).toList.Perm (out.toList++l)
 | 0,k,l,out,h=>by
  obtain rfl:=List.length_eq_zero_iff.mp h;unfold abK;simp
 | n+1,k,l,out,h=>by
  have g:f k % l.length < l.length:=Nat.mod_lt _ (by lia);unfold abK;rw [lE g];refine (A4 f n (k+1) _ _ (by grind)).trans ?_;rw [Array.toList_push,ZM];refine List.Perm.append_left _ ?_;rw [List.eraseIdx_eq_take_drop_succ];have e:l=l.take (f k % l.length)++l[f k % l.length]::l.drop (f k % l.length+1):=by simp_all
  exact (List.perm_middle (l₁:=l.take (f k % l.length))).symm.trans (List.Perm.of_eq e.symm)
theorem tp (f:Nat->Nat) (xs:Array α):(pickOrder f xs).toList.Perm xs.toList:=by
 have:=A4 f xs.size 0 xs.toList #[] (by simp)
 assumption
def n4:Slot "set_iterator" "__next__" "set_iterator.__next__" :=
 .of (owner:="set_iterator") (n:="__next__") (by rfl) (by trivial) (by trivial) (by trivial) (by first|exact .inl (by trivial)|lia) (by rfl)
def Fe:entryFor table "set_iterator.__next__"=θ Builtin.«set_iterator.__next__»:=entryFor_of_tree (by kernel_rfl)
theorem Hy (a:rW):argsOk "set_iterator.__next__" ⟨[a],[]⟩:=by rfl
def NC:entryFor table "set.__iter__"=θ Builtin.«frozenset.__iter__»:=entryFor_alias (id':="frozenset.__iter__") (by kernel_rfl) (by trivial) (by trivial) (by kernel_rfl)
def Ez:Slot "set_iterator" "__iter__" "set_iterator.__iter__" :=
 .of (owner:="set_iterator") (n:="__iter__") (by rfl) (by trivial) (by trivial) (by trivial) (by first|exact .inl (by trivial)|lia) (by rfl)
def Pk:entryFor table "set_iterator.__iter__"=θ Builtin.«dict_keyiterator.__iter__»:=entryFor_alias (id':="dict_keyiterator.__iter__") (by kernel_rfl) (by trivial) (by trivial) (by kernel_rfl)
theorem N5 (a:rW):argsOk "set_iterator.__iter__" ⟨[a],[]⟩:=by rfl
def QD (w:Zv) (a:YS) (g:Nat) (es:Array (Int×rW)):Array (Int×rW):=if w.params.followText "set-order"=ζ then pickOrder (w.params.setOrder a g) es else es
theorem dt (w:Zv) (a:YS) (g:Nat) (es:Array (Int×rW)):(QD w a g es).toList.Perm es.toList:=by
 unfold QD;split
 .exact tp _ _
 .exact .refl _
noncomputable def tZ (S:ad0) (i:Nat):Nat:=match i with
 | 0=>0
 | j+1=>S.getD j 0+1
def ma (w:Zv) (S:ad0) (i:Nat):Nat:=if w.params.followText "set-order"=ζ then 0 else tZ S i
def T7 (w:Zv) (S:ad0) (a:YS) (i g:Nat):Data:=.fields #[.int (ma w S i:Int) 0,.int (i:Int) 0,.ref a,.int (S.length:Int) 0,.int (g:Int) 0]
def gq (w:Zv) (S:ad0) (h:abh) (it a:YS) (i g:Nat):Prop:=∃ o,h.get? it=θ o/\o.cls=.type "set_iterator"/\o.data=T7 w S a i g
theorem sJ {α β:Type} (g:α->β):∀ (l:List α) (i:Nat),(l.map g).eraseIdx i=(l.eraseIdx i).map g
 | [],_=>rfl
 | _::_,0=>rfl
 | x::l,i+1=>adZ (g x::·) (sJ g l i)
theorem og (g:α->β) (f:Nat->Nat):∀ (n k:Nat) (l:List α) (out:Array α),abK f n k (l.map g) (out.map g)=(abK f n k l out).map g
 | 0,k,l,out=>by rfl
 | n+1,k,l,out=>by
  unfold abK;rw [iN,Zk];cases l[f k % l.length]? with
  | none=>rfl
  | some x =>
   dsimp only [Option.map];rw [sJ,<- Array.map_push];exact og g f n (k+1) _ _
theorem GG (g:α->β) (f:Nat->Nat) (l:List α):pickOrder f (l.map g).toArray=(pickOrder f l.toArray).map g:=by
 have:=og g f l.length 0 l #[]
 unfold pickOrder;simpa using this
def pb (w:Zv) (a:YS) (g:Nat) (S:ad0):ad0:=if w.params.followText "set-order"=ζ then (pickOrder (w.params.setOrder a g) S.toArray).toList else S
theorem gy (w:Zv) (a:YS) (g:Nat) (S:ad0):(pb w a g S).Perm S:=by
 unfold pb;split
 .exact tp _ _
 .exact .refl _
theorem Cg:∀ S∈d9,∀ i < 3,i < S.length->adR S.toArray (tZ S i)=i:=by trivial
theorem Fo:∀ S∈d9,adR S.toArray (tZ S S.length)=S.length:=by trivial
theorem sub_len:∀ S∈d9,S.length<=3:=by decide
section
variable {s:IF}
theorem kO.typeIs (h:kO s.heap a S led ep):s.TypeIs (.ref a) "set":=let ⟨o,_,ho,hx,_⟩:=h;⟨o,ho,hx.1⟩
theorem G6 (v:S∈d9) (hs:kO s.heap a S led ep) (h:Q η s):YH (YN prog w) A (setDrawn a) Q E s:=by
 obtain ⟨o,g,r,z,u⟩:=hs;refine bY (wpAny_setState_of r u (dG v led g) ?_);refine bY (bY (wpAny_askSetting (nE (nE ?_))))
 have:∀ b , (!b&&(!ζ&&decide ((p8 S g).size > 1)))=η:=by simp_all
 exact (this _).symm ▸ h
theorem GP (g:S∈d9) (hs:kO s.heap a S (dl w) ep)
  (h:Q (.ref s.heap.objs.size) { s with heap:=s.heap.push { cls:=.type "set_iterator",data:=T7 w S a 0 ep } }):YH (YN prog w) A (adP (.ref a)) Q E s:=by
 let ⟨o,tk,ho,hx,hd⟩:=id hs
 have r:=hs.typeIs;refine wpAny_pyIter_slot r acN (Zf acN r NC ?_ (PySem.F.args_set_iter_1 _));refine bY (nE ?_);refine bY ?_;refine bY (wpAny_setEntries_of ho hd (dG g _ tk) (nE ?_));refine bY (G6 g hs ?_);refine bY (nE ?_);refine bY (wpAny_setEpoch_of ho hd (dG g _ tk) ?_);refine bY (Zz (nE ⟨_,rfl,"set_iterator",_,⟨_,BY _ rfl,rfl⟩,n4.lookup,?_⟩));have u:T7 w S a 0 ep=.fields [abL 0,abL 0,.ref a,abL ((p8 S tk).size),abL ep].toArray:=by
  unfold T7 ma p8 abL
  have:(if w.params.followText "set-order"=ζ then 0 else tZ S 0)=0:=by split <;> rfl
  rw [this];simp
 rw [u] at h;exact h
theorem xL (v:S∈d9) (hs:kO s.heap a S (dl w) ep) (Y:i<=S.length)
  (h:∀ r,(∀ k,(pb w a ep S)[i]?=θ k->∃ t,r=θ (.int (k:Int) t,ma w S (i+1)))->((pb w a ep S)[i]?=ξ->r=ξ)->Q r s):YH (YN prog w) A (setNext a (ma w S i) i ep) Q E s:=by
 let ⟨o,tk,ho,hx,hd⟩:=id hs
 have C:=dG v (dl w) tk;unfold setNext setsByText;refine bY (wpAny_setState_of ho hd C ?_);dsimp only;refine bY (bY (wpAny_askSetting (nE ?_)));refine wpAny_ite_split (fun hb=>?_) fun hb=>?_
 .replace hb:w.params.followText "set-order"=ζ:=hb
  simp only [bne_self_eq_false,Z5,↓reduceIte];unfold setWalk setsByText;refine bY (bY (wpAny_setState_of ho hd C ?_));dsimp only;refine bY (bY (wpAny_askSetting (nE ?_)));refine wpAny_ite_split (fun _=>?_) fun q=>absurd hb q;refine bY (wpAny_askSetting (nE (nE ?_)));have u:pb w a ep S=(pickOrder (w.params.setOrder a ep) S.toArray).toList:=by unfold pb;rw [adU hb]
  have J:pickOrder (w.params.setOrder a ep) (p8 S tk)=(pickOrder (w.params.setOrder a ep) S.toArray).map fun (i:Nat)=>((i:Int),acF (i:Int) (tk i)):=GG _ _ _;refine h _ (fun k g=>?_) fun g=>?_
  .rw [u,aan] at g;refine ⟨tk k,?_⟩;show ((pickOrder (w.params.setOrder a ep) (p8 S tk))[i]?).map _=_;rw [J,adk,g];unfold ma;rw [adU hb,adU hb];rfl
  .rw [u,aan] at g;show ((pickOrder (w.params.setOrder a ep) (p8 S tk))[i]?).map _=_;rw [J,adk,g];rfl
 .replace hb:¬ w.params.followText "set-order"=ζ:=hb
  have L:dl w=ζ:=by show (!_)=ζ;simpa using hb
  have u:pb w a ep S=S:=by unfold pb;rw [adV hb]
  have I:∀ j,ma w S j=tZ S j:=fun j=>by unfold ma;rw [adV hb]
  refine wpAny_ite_split (fun q=>absurd q (by show ¬ ((!ζ&&_)=ζ);simp)) fun _=>?_;rw [L];refine bY (adb (a:=()) rfl (nE ?_));have M:∀ b,(tS S b).place=S.toArray:=fun _=>rfl;simp only [M,I];refine h _ (fun k g=>?_) fun g=>?_
  .rw [u] at g;have z:=(K2.mp g).1;have Z:=sub_len S v;rw [Cg S v i (by lia) z];unfold p8;refine ⟨tk k,?_⟩;simp only [List.getElem?_toArray,Zk,g,Option.map,I];unfold tZ;simp [List.getD,g]
  .rw [u] at g;have  := Nat.le_antisymm Y (by simpa using g);rw [this,Fo S v];simp
end
section
variable {s:IF}
theorem gq.typeIs (h:gq w S s.heap it a i ep):s.TypeIs (.ref it) "set_iterator":=let ⟨o,ho,hc,_⟩:=h;⟨o,ho,hc⟩
theorem gq.at' (x:gq w S h it a i ep) (e:∀ o,h.get? it=θ o->h'.get? it=θ o):gq w S h' it a i ep:=let ⟨o,ho,r⟩:=x;⟨o,e _ ho,r⟩
theorem kO.at' (x:kO h a S b ep) (e:∀ o,h.get? a=θ o->h'.get? a=θ o):kO h' a S b ep:=let ⟨o,t,ho,r⟩:=x;⟨o,t,e _ ho,r⟩
theorem next_item (I:S∈d9) (g:gq w S s.heap it a i ep) (hs:kO s.heap a S (dl w) ep) (J:(pb w a ep S)[i]?=θ k)
  (hQ:∀ t h',gq w S h' it a (i+1) ep->(∀ b o,b≠it->s.heap.get? b=θ o->h'.get? b=θ o)->Q (θ (.int (k:Int) t)) { s with heap:=h' }):YH (YN prog w) A (pyNext (.ref it)) Q E s:=by
 let ⟨o,ho,hc,hd⟩:=id g
 let ⟨os,tk,hos,hxs,hds⟩:=id hs
 have M:=(gy w a ep S).length_eq;have L:=(K2.mp J).1;unfold pyNext;refine bY (abV (Zr (name:=DO "__next__") g.typeIs n4 (Zf n4 g.typeIs Fe ?_ (Hy _))));unfold Builtin.«set_iterator.__next__»;refine bY (m:=slotArgs _ _ _) (nE ?_);dsimp only;refine bY (wpAny_fieldsOf ho hd ?_);dsimp only;refine bY (wpAny_setEntries_of hos hds (dG I _ tk) ?_);have hsz:(p8 S tk).size=S.length:=by unfold p8;simp
 rw [hsz];simp only [bne_self_eq_false,Z5,↓reduceIte,YZ];refine bY (xL I hs (by lia) fun r h1 _=>?_);obtain ⟨t,rfl⟩:=h1 k J;dsimp only;refine bY (abF ho hd (by simp) ?_);have v:=aaT (Obj.mapFields (·.setIfInBounds 0 (abL (ma w S (i+1):Nat)))) ho (abG (aam hd _));have u:=aam hd (fun x=>x.setIfInBounds 0 (abL (ma w S (i+1):Nat)));refine bY (abF v u (by simp) ?_);have C:=aaT (Obj.mapFields (·.setIfInBounds 1 (abL ((i:Int)+1)))) v (abG (aam u _));have z:=aam u (fun x=>x.setIfInBounds 1 (abL ((i:Int)+1)));refine nE ⟨_,rfl,nE (hQ t _ ⟨_,C,(ach ..).trans ((ach ..).trans hc),z.trans (by simp [abL,T7])⟩ fun b o hb e=>?_)⟩;exact (aah _ _ (aaN hb)).trans ((aah _ _ (aaN hb)).trans e)
theorem next_end (v:A.handled=ξ) (u:S∈d9) (g:gq w S s.heap it a S.length ep) (hs:kO s.heap a S (dl w) ep)
  (hQ:∀ h',(∀ b o,b≠it->s.heap.get? b=θ o->h'.get? b=θ o)->Q ξ { s with heap:=h' }):YH (YN prog w) A (pyNext (.ref it)) Q E s:=by
 let ⟨o,ho,hc,hd⟩:=id g
 let ⟨os,tk,hos,hxs,hds⟩:=id hs
 have z:=(gy w a ep S).length_eq;refine bY (abV (Zr g.typeIs n4 (Zf n4 g.typeIs Fe ?_ (Hy _))));refine bY (nE ?_);refine bY (wpAny_fieldsOf ho hd ?_);refine bY (wpAny_setEntries_of hos hds (dG u _ tk) ?_);have hsz:(p8 S tk).size=S.length:=by unfold p8;simp
 rw [hsz];simp only [bne_self_eq_false,Z5,↓reduceIte,YZ];refine bY (xL u hs (oR _) fun r _ h1=>?_);obtain rfl:=h1 (abJ (by lia));refine bY (abF ho hd (by simp) ?_);refine bY ?_;refine bY (Zz ?_ (by size_fits));refine bY (adb (by rfl) ?_);refine Zz ?_ (by size_fits);refine bY (wpAny_handled ?_);rw [(v)];refine bY (nE (wpAny_throw ?_));refine bY (wpAny_isInstance ⟨_,BY _ rfl,rfl⟩ isSubtype_stop ?_);refine nE (hQ _ fun b o hb e=>?_);exact (((aae ..).extBut.push _).push _) b o hb e
def Vu (w:Zv) (a:YS) (g:Nat) (S:ad0) (i:Nat) (v:rW):Prop:=∃ (k:Nat) (t:Tok),(pb w a g S)[i]?=θ k/\v=.int (k:Int) t
theorem Cy (I:A.handled=ξ) (v:a≠it) (z:S∈d9):Walks prog w A it [it,a] [it] S.length (Vu w a ep S) (fun i h=>gq w S h it a i ep/\kO h a S (dl w) ep) where
 sub:=fun b hb=>by simp_all
 frame:=fun _ _ _ st u=>⟨st.1.at' fun o e=>u it (by simp) o e,st.2.at' fun o e=>u a (by simp) o e⟩
 item:=fun i s Q E L st hQ=>by
  have J:=(gy w a ep S).length_eq;let ⟨k,u⟩:∃ k,(pb w a ep S)[i]?=θ k:=⟨_,lE (by lia)⟩
  exact next_item z st.1 st.2 u fun t h' r g=>hQ _ h' s.toks ⟨k,t,u,rfl⟩ ⟨r,st.2.at' fun o e=>g a o v e⟩ fun b o hb e=>g b o (fun h=>hb (by simp [h])) e
 done:=fun s Q E st hQ=>next_end I z st.1 st.2 fun h' C=>hQ h' s.toks fun b o hb e=>C b o (fun h=>hb (by simp [h])) e
 self:=fun _ _ _ _ st hQ=>(by
   refine wpAny_pyIter_slot st.1.typeIs Ez (Zf Ez st.1.typeIs Pk ?_ (N5 _));exact nE ⟨_,rfl,"set_iterator",_,st.1.typeIs,n4.lookup,hQ⟩)
theorem Ja (u:S∈d9):PySem.W.KdlSrc prog w "set" a a S.length (Vu w a ep S) (fun h=>kO h a S (dl w) ep) where
 type:=fun _ hm=>hm.typeIs
 there:=fun _ hm=>let ⟨_,_,ho,_⟩:=hm;⟨ID ho,ID ho⟩
 keep:=fun _ _ hm z=>hm.at' fun o e=>z a (.inl rfl) o e
 notList:=by decide
 notTuple:=by decide
 hint:=fun _ _ _ _ hm hq=>(by
   unfold Builtin.List.listLengthHint;refine bY (wpAny_specialOf hm.typeIs PySem.F.slot_set_len.lookup ?_);generalize r:("set.__len__":String)=id0
   wp_delta
   rw [show splitId id0=θ ("set","__len__") from by subst r;decide +kernel];subst r;refine bY (wpAny_isInstance (T:="set") (b:=ζ) hm.typeIs (by rw [isSubtype_type];kernel_rfl) ?_);refine wpAny_ite_split (fun g=>absurd g (by decide)) fun _=>?_;refine wpAny_ite_split (fun _=>bY (acR hm.typeIs (nE hq))) fun g=>absurd (by trivial) g)
 iter:=fun _ _ v hm=>⟨_,_,(fun _ _ hq=>GP u hm hq),Cy v (let ⟨_,_,ho,_⟩:=hm;YL (ID ho)) u,⟨⟨_,BY _ rfl,rfl,rfl⟩,hm.at' fun o e=>eQ _ e⟩⟩
end
theorem xj {K:aT}:∀ l:ad0,aH K H (l.map fun (k:Nat)=>D.int (k:Int)) (l.map fun (k:Nat)=>V.int (k:Int))
 | []=>rfl
 | k::l=>⟨_,_,rfl,rfl,xj l⟩
theorem ua {K:aT}:∀ {l:ad0} {vs:ad7},aH K H (l.map fun (k:Nat)=>D.int (k:Int)) vs->vs=l.map fun (k:Nat)=>V.int (k:Int)
 | [],_,h=>h
 | k::l,_,⟨v,vs,e,h1,h2⟩=>by subst e;rw [(h1),ua h2];rfl
theorem Es (g:acc.length=S.length) (h:∀ (j:Nat) (v:rW),acc[j]?=θ v->Vu w a ep S j v):aU ((pb w a ep S).map fun (k:Nat)=>V.int (k:Int)) acc:=by
 have hl2  := g.trans (gy w a ep S).length_eq.symm;have key:∀ (acc:ad6) (l:ad0),acc.length=l.length->(∀ (j:Nat) v,acc[j]?=θ v->∃ (k:Nat) (t:Tok),l[j]?=θ k/\v=.int k t)->aU (l.map fun (k:Nat)=>V.int k) acc:=by
  intro acc;induction acc with
  | nil=>intro l g _;cases l with
   | nil=>exact .nil
   | cons _ _=>simp at g
  | cons v acc z=>intro l g h;cases l with
   | nil=>simp at g
   | cons k l =>
    obtain ⟨I,t,r,rfl⟩:=h 0 v rfl;simp at r;subst r;exact .cons ⟨_,rfl⟩ (z l (by simpa using g) fun j u C=>by simpa using h (j+1) u (by simpa using C))
 exact key acc _ hl2 h
section
variable {X:Cx} {W:Wd} {O:ad0}
def JN (K:aT) (t:TA):TE:=fun σ H Q=>t σ H fun vs H1=>∃ (a:YS) (ks:ad0),vs=[.ref a]/\eV K H1 a (ks.map fun (k:Nat)=>V.int (k:Int))/\(∀ k∈ks,k < 3)/\∀ q g,H1 q=ξ->aH K (fun _=>ξ) ((nZ ks).map fun (k:Nat)=>D.int (k:Int)) g->Q (.ref q) (upd H1 q (.lst g))
noncomputable def tY:ad8->Option (ad0)
 | []=>θ []
 | .int i::r=>if 0<=i/\i < 3 then (tY r).map (i.toNat::·) else ξ
 | _=>ξ
theorem wT:∀ {ds:ad8} {ks:ad0},tY ds=θ ks->ds=ks.map (fun (k:Nat)=>D.int (k:Int))/\∀ k∈ks,k < 3
 | [],_,h=>by cases h;simp_all
 | .int i::r,ks,h=>by
  unfold tY at h;split at h
  .obtain ⟨l,g,rfl⟩:=iF.mp h;let ⟨h1,h2⟩:=wT g
   grind
  .cases h
def ir (ds:ad8):R D:=match ds with
 | [.lst xs]=>(match tY xs with
  | some ks=>.ok (.lst ((nZ ks).map fun (k:Nat)=>D.int (k:Int)))
  | none=>.no)
 | _=>.no
end
section
variable {X:Cx} {K:aT} {st:aa0} {p pos:Pos}
theorem pcA (D:Def X.K mg0 y st ps f fd) (m:X.mg x=θ (.ref f)) (G:FnOk X.prog X.w X.K X.mg X.base l8 j f fd ps sp) (hr:Room k X.A) (J:PA X (e::es) t) (M:j<=k:=by decide) (hg:Gl X x:=by rfl) (u:ad9 x:=by decide)
  (h1:aM e=ζ:=by rfl) (h2:es.all aM=ζ:=by rfl):PE X (.Call (.Name x p) (e::es) [] pos) (Th sp t):=by
 have z:YI (e::es) X.env=(η,eval e X.env)::YI es X.env:=bw h1;have g:(aaa pos (YI es X.env)).any (·.1)=η:=dq h2;intro C s σ H Q I h;refine Zh (kz I hg m ?_ u);refine adh I.ok.mod.kin D.F.kp (bV (J pos C s σ H _ I h) fun us Y L=>jC L fun vs H1 v r q=>⟨v.kIn,?_⟩) z g;exact Ga G (hr.mono M) D.b .nil ES v r (by simp_all)
theorem Jn (D:Def X.K mg0 y st ps f fd) (m:X.mg x=θ (.ref f)) (G:FnOk X.prog X.w X.K X.mg X.base l8 j f fd ps (vV K mg F)) (hr:Room k X.A) (u:JA X (e::es) (rY ⟨K,mg,E0⟩ O α)) (C:j<=k:=by decide) (hg:Gl X x:=by rfl) (g:ad9 x:=by decide)
  (h1:aM e=ζ:=by rfl) (h2:es.all aM=ζ:=by rfl):JE X (.Call (.Name x p) (e::es) [] pos) (tD ⟨K,mg,E0⟩ O (ai F α)) :=
 JE.imp ⟨pcA D m G hr u.out C hg g h1 h2⟩ fun σ H Q v=>cJ v fun as0 B own U I h=>⟨as0,B,own,U,I,dF h fun ds vs H1 z r h1=>⟨own++as0,ds,(I.mono z).exi,r,h1⟩⟩
end
section
variable {X:Cx} {W:Wd} {O:ad0} {a b c:Zq} {φ ψ χ:FE} {apos cpos:Pos}
def sQ (φ ψ χ:FE):FE:=fun U=>(φ U).bind fun x=>match ig x with
 | some g=>(ψ U).bind fun y=>(χ U).bind fun z=>match cb y with
  | some k=>.ok ((bv g k).getD z)
  | none=>.no
 | none=>.no
theorem K3 (hu:X.A.units+64 < aa3) (ha:JE X a (tD W O φ)) (hb:JE X b (tD W O ψ)) (hc:JE X c (tD W O χ)) (r:Y4 a "get" X.env (eval a X.env)=eval a X.env:=by rfl)
  (J:((aaa cpos (YI [b,c] X.env)).all (fun x=>!x.1)&&(backToKw cpos (aaJ [] X.env)).all (fun x=>x.1.isSome)&&decide (([b,c]:List Zq).length+([]:List aaQ).length+(if ([]:List aaQ).isEmpty then 0 else 1) < 30))=ζ:=by rfl)
  (C:(apos.endLine==cpos.line)=ζ:=by rfl) (M:aaa cpos (YI [b,c] X.env)=[(η,eval b X.env),(η,eval c X.env)]:=by rfl):JE X (.Call (.Attribute a "get" apos) [b,c] [] cpos) (tD W O (sQ φ ψ χ)) :=
 JE.imp ⟨E5 (by lia) ha.out hb.out hc.out ⟨r,J,C,M⟩⟩ fun σ H Q hh=>cJ hh fun as0 B own U I h=>⟨as0,B,own,U,I,a7 h fun x v H1 s1 d1 h1=>by
  cases e0:ig x with
  | none=>rw [e0] at h1;exact h1.elim
  | some kvs =>
   rw [e0] at h1;obtain ⟨p,xs,rfl,q1,q2⟩:=fJ d1 e0;refine ⟨p,rfl,.inl ⟨xs,(ar _ _).rd q1⟩,as0,B,own,U,I.mono s1,a7 h1 fun y u H2 L d2 h2=>⟨as0,B,own,U,(I.mono s1).mono L,a7 h2 fun z u3 H3 Y d3 g=>?_⟩⟩;cases e:cb y with
   | none=>rw [e] at g;exact g.elim
   | some k =>
    rw [e] at g;dsimp only at g;have hy:=cU d2 e;subst hy;rcases (q2.mono (aG (L.trans Y))).val k with ⟨Z,c2⟩|⟨d,v,Z,c2,c3⟩
    .rw [Z] at g;exact ⟨ξ,c2 ▸ jo.rd (Y.rd (L.rd ((ar _ _).rd q1))),aK g d3⟩
    .rw [Z] at g;exact ⟨θ v,c2 ▸ jo.rd (Y.rd (L.rd ((ar _ _).rd q1))),aK g c3⟩⟩
end
noncomputable def Up (g:Scope) (x:Str):Bool:=match g.names.lookup x with
 | some .local=>ζ
 | some .cell=>ζ
 | some .free=>ζ
 | _=>η
def U9 (g:Scope) (x:Str):Bool:=Up g x&&!(x==("__debug__":Str))&&!(x==("__classdict__":Str))
theorem Gn (h:U9 sc x=ζ):sd sc x/\ad9 x/\(x==("__classdict__":Str))=η:=by
 unfold U9 at h;rw [YR,YR,aby,aby] at h;exact ⟨(fun h=>by
   unfold Up at h;split at h
   .rename_i e;exact .inl e
   .rename_i e;exact .inr (.inl e)
   .rename_i e;exact .inr (.inr e)
   .cases h) h.1.1,h.1.2,h.2⟩
abbrev Fm:=Scope->ad1->ad0->Zq->Option (List Zq×(List FE->FE))
abbrev Fq:=Scope->ad1->ad0->Zq->Option (List Zq×(List FE->FT))
abbrev Fi:=Scope->ad1->ad0->Zq->Zq->Option (List Zq×(List FE->FA))
abbrev Fs:=Scope->ad1->ad0->aa0->Option (List Zq×(List FE->FS))
structure Tb where
 x:List Fm
 n:List Fm
 q:List Fq
 i:List Fi
 s:List Fs
 c:List (Str×D)
 d:ad1
 m:ad1
 k:List (Pos×ad1)
 w:Nat
def Js (X:Cx) (W:Wd) (O:ad0):List Zq->List FE->Prop
 | [],[]=>True
 | e::es,φ::φs=>JE X e (tD W O φ)/\Js X W O es φs
 | _,_=>False
def fg (X:Cx) (W:Wd) (f:Fm):Prop:=∀ O e es b g,f X.env.scope X.N O e=θ (es,b)->Js X W O es g->JE X e (tD W O (b g))
def vn (X:Cx) (W:Wd) (f:Fm):Prop:=∀ O e es b g,f X.env.scope X.N O e=θ (es,b)->Js X W O es g->JE X e (tN W O (b g))
def Ow (X:Cx) (W:Wd) (f:Fq):Prop:=∀ O e es b g,f X.env.scope X.N O e=θ (es,b)->Js X W O es g->JT X e (i9 W O (b g))
def Ih (X:Cx) (W:Wd) (f:Fi):Prop:=∀ O g e es b r,f X.env.scope X.N O g e=θ (es,b)->Js X W O es r->JI X g e (iD W O (b r))
def Kn (X:Cx) (W:Wd) (f:Fs):Prop:=∀ Ob O s es b g,f X.env.scope X.N O s=θ (es,b)->Js X W O es g->JS X s (sD W Ob O O (b g))
def Bj (X:Cx) (W:Wd) (x:Str) (d:D):Prop:=∀ (O:ad0) (p:Pos),Gl X x->JE X (.Name x p) (tD W O (vC d))
structure TbOk (X:Cx) (W:Wd) (t:Tb):Prop where
 x:∀ f∈t.x,fg X W f
 n:∀ f∈t.n,vn X W f
 q:∀ f∈t.q,Ow X W f
 i:∀ f∈t.i,Ih X W f
 s:∀ f∈t.s,Kn X W f
 c:∀ q∈t.c,Bj X W q.1 q.2
def lk {β:Type} (x:Str):List (Str×β)->Option β
 | []=>ξ
 | q::r=>if q.1=x then θ q.2 else lk x r
theorem EW:∀ {l:List (Str×β)} {b:β},lk x l=θ b->(x,b)∈l
 | [],_,h=>by cases h
 | q::r,b,h=>by
  unfold lk at h;split at h
  .grind
  .exact lT _ (EW h)
noncomputable def zG (f:Zq->Option FE):List Zq->Option (List FE)
 | []=>θ []
 | e::es=>(f e).bind fun φ=>(zG f es).map (φ::·)
def fst {α β:Type} (l:List α) (f:α->Option β):Option β:=match l with
 | []=>ξ
 | a::r=>match f a with
  | some b=>θ b
  | none=>fst r f
theorem kK {α β:Type} {f:α->Option β} {b:β}:∀ {l:List α},fst l f=θ b->∃ a∈l,f a=θ b
 | [],h=>by cases h
 | a::r,h=>by
  unfold fst at h;split at h
  .simp_all
  .let ⟨c,h1,h2⟩:=kK h;grind
def P8 (N:ad1) (x:Str):Option Nat:=N.findIdx? fun y=>decide (y=x)
theorem j4 (h:P8 N x=θ i):N[i]?=θ x:=by
 obtain ⟨r,g,_⟩:=abu.mp h;simp_all
noncomputable def xh:Zq->Bool
 | .Set ..=>ζ
 | _=>η
theorem u5 (h:xh e=η) (env:Env):∀ x,Zs e env x=pure x:=by
 cases e <;> first|exact fun _=>rfl|cases h
def UV (t:Tb) (u:Scope) (N:ad1) (O:ad0) (r:Zq->Option FE) (g it:Zq):Option FA:=match fst t.i fun f=>f u N O g it with
 | some q=>(zG r q.1).map q.2
 | none=>(r it).map cY
def Nq (scope g:Scope):Scope:={ scope with names:=scope.names.map fun (n,k)=>if (k==.free&&g.kind==.function&&g.names.lookup n==θ .cell) then (n,.cell) else (n,k) }
noncomputable def sq:Zq->Option Str
 | .Name x _=>θ x
 | _=>ξ
def Qb (g:Scope) (fn:Str->Bool) (x:Str):Bool:=decide (g.names.lookup x=θ .local)||(decide (g.names.lookup x=θ .cell)&&fn x)
theorem Aa {X:Cx} (h:Qb X.env.scope X.fn x=ζ):vZ X.env.scope x/\(X.fn x=ζ\/X.env.scope.names.lookup x=θ .local):=by
 unfold Qb at h;rw [Bool.or_eq_true,YR,decide_eq_true_eq,decide_eq_true_eq] at h;rcases h with h|h
 .exact ⟨.inl h,.inr h⟩
 .exact ⟨.inr h.1,.inl h.2⟩
def Nt (N:ad1) (O:ad0) (g:Scope) (fn:Str->Bool) (e:Zq):Option Nat:=(sq e).bind fun x=>(P8 N x).bind fun i=>if i∉O/\Qb g fn x=ζ then θ i else ξ
def Dd (N:ad1) (O:ad0) (g:Scope) (fn:Str->Bool):List Zq->Option (ad0)
 | []=>θ []
 | e::r=>(Nt N O g fn e).bind fun i=>(Dd N O g fn r).map (i::·)
def uu (N:ad1) (O:ad0) (g:Scope) (fn:Str->Bool):Zq->Option TgD
 | .Name x p=>(Nt N O g fn (.Name x p)).map .one
 | .Tuple es _ _=>(Dd N O g fn es).map .tup
 | _=>ξ
def WR:Zq->ad1
 | .Name x _=>[x]
 | .Tuple es _ _=>es.filterMap sq
 | _=>[]
def Bu (t:Tb) (r:Scope) (N:ad1) (O:ad0) (z:Zq->Option FE) (v:Scope->ad1->(Zq->Option FE)×(Zq->Option FT)) (elt tg it:Zq) (ifs:List Zq) (scope:Scope) (pos:Pos):Option FE :=
 let g:=((t.k.find? fun q=>decide (q.1=pos)).map (·.2)).getD (WR tg)
  let ix:=g.map fun y=>if (WR tg).contains y=ζ then ξ else P8 N y
  if wY r N g ix scope=ζ/\g.Nodup/\xh it=η/\(ix.all fun o=>match o with|some k=>decide (k∉O)|none=>ζ)=ζ then
   (uu g [] (Nq scope r) (fun _=>η) tg).bind fun u=>(UV t r N O z tg it).bind fun ι=>(match ifs with
    | []=>θ fS
    | [c]=>(v (Nq scope r) g).2 c
    | _=>ξ).bind fun τ=>((v (Nq scope r) g).1 elt).map fun ε=>bo ix ι u τ ε
  else ξ
def WU (t:Tb) (g:Scope) (N:ad1) (O:ad0) (r:Zq->Option FE) (u:Zq->Option FT) (v:Scope->ad1->(Zq->Option FE)×(Zq->Option FT)) (e:Zq):Option FE:=match e with
  | .Constant (.int i) _ _=>θ (vC (.int i))
  | .Constant (.str x) _ _=>θ (vC (.str x))
  | .Constant (.bool b) _ _=>θ (vC (.bl b))
  | .Constant .none _ _=>θ (vC .non)
  | .Name x _=>match P8 N x with
   | some i=>if i∉O/\U9 g x=ζ then θ (ae i) else ξ
   | none=>if g.names.lookup x=θ .globalImplicit then (lk x t.c).map vC else ξ
  | .ListComp elt [⟨tg,it,ifs,0⟩] scope pos=>Bu t g N O r v elt tg it ifs scope pos
  | .IfExp c a b _=>(u c).bind fun τ=>(r a).bind fun φ=>(r b).map fun ψ=>Ir τ φ ψ
  | _=>(fst t.x fun f=>f g N O e).bind fun q=>(zG r q.1).map q.2
def RZ:Zq->Bool
 | .Name ..=>ζ
 | .Call ..=>ζ
 | .Subscript ..=>ζ
 | .Attribute ..=>ζ
 | _=>η
theorem J7 (h:RZ e=ζ) (env:Env):∀ g,isTrue e env g=(do let v <- g;acy e.pos;holding [v] (truthy v)):=by
 cases e <;> first|exact fun _=>rfl|cases h
noncomputable def UR (f:Zq->Option FT) (q:FT->FT->FT):List Zq->Option FT
 | []=>ξ
 | [a]=>f a
 | a::b::r=>(f a).bind fun τ=>(UR f q (b::r)).map (q τ)
def GH (t:Tb) (u:Scope) (N:ad1) (O:ad0) (r:Zq->Option FE) (g:Zq->Option FT) (e:Zq):Option FT:=match e with
 | .UnaryOp .Not a _=>(g a).map fW
 | .BoolOp .And l _=>UR g jJ l
 | .BoolOp .Or l _=>UR g se l
 | _=>match fst t.q fun f=>f u N O e with
  | some q=>(zG r q.1).map q.2
  | none=>if RZ e=ζ then (r e).map dC else ξ
def kL (t:Tb):Nat->Scope->ad1->ad0->(Zq->Option FE)×(Zq->Option FT)
 | 0,_,_,_=>(fun _=>ξ,fun _=>ξ)
 | n+1,sc,N,O=>(WU t sc N O (kL t n sc N O).1 (kL t n sc N O).2 fun g r=>kL t n g r [],GH t sc N O (kL t n sc N O).1 (kL t n sc N O).2)
section
variable {X:Cx} {W:Wd} {O:ad0} {t:Tb}
theorem nK (g:∀ e φ,f e=θ φ->JE X e (tD W O φ)):∀ (es:List Zq) (l:List FE),zG f es=θ l->Js X W O es l
 | [],_,h=>by cases h;exact Y6
 | e::es,_,h=>by
  let ⟨φ,h1,h⟩:=dO.mp h
  obtain ⟨l,h2,rfl⟩:=iF.mp h;exact ⟨g e φ h1,nK g es l h2⟩
theorem EH (v:W.K=X.K) (u:TbOk X W t) (g:∀ e φ,fx e=θ φ->JE X e (tD W O φ)) (h:UV t X.env.scope X.N O fx tg it=θ ι):JI X tg it (iD W O ι):=by
 unfold UV at h;split at h
 .rename_i q e;let ⟨f,h1,h2⟩:=kK e
  obtain ⟨l,r,rfl⟩:=iF.mp h;exact u.i f h1 O tg it _ _ l h2 (nK g _ _ r)
 .obtain ⟨ε,h1,rfl⟩:=iF.mp h;exact Ew X.K (g _ _ h1) rfl v
theorem EG (g:X.N.Nodup) (h:Nt X.N O X.env.scope X.fn e=θ i):JG X e (gD W O (.one i))/\∃ x p,e=.Name x p:=by
 let ⟨x,h0,h⟩:=dO.mp h
 let ⟨i,h1,h⟩:=dO.mp h
 split at h
 .rename_i hl;cases h;unfold sq at h0;split at h0
  .cases h0;exact ⟨NR hl.1 g (j4 h1) (Aa hl.2).1 (Aa hl.2).2,_,_,rfl⟩
  .cases h0
 .cases h
theorem Bt (u:X.N.Nodup):∀ {es:List Zq} {is:ad0},Dd X.N O X.env.scope X.fn es=θ is->JGs X es (Rb W O is)/\(Zn es X.env).length=es.length/\es.length=is.length/\(Zn es X.env).findIdx? (·.1)=ξ
 | [],_,h=>by cases h;exact ⟨Ku,rfl,rfl,rfl⟩
 | e::r,_,h=>by
  let ⟨i,h1,h⟩:=dO.mp h
  obtain ⟨v,h2,rfl⟩:=iF.mp h;let ⟨z,a,b,c⟩:=Bt u h2
  obtain ⟨g,x,p,rfl⟩:=EG u h1;refine ⟨Gq g z rfl,by show (Zn r X.env).length+1=_;rw [a];rfl,by rw [YU,YU,b],?_⟩;show acv (·.1) ((η,_)::Zn r X.env)=ξ;rw [List.findIdx?_cons,c];rfl
theorem pO (r:W.K=X.K) (u:X.calm=ζ) (g:X.N.Nodup) (h:uu X.N O X.env.scope X.fn tg=θ q):JG X tg (gD W O q):=by
 unfold uu at h;split at h
 .obtain ⟨i,h1,rfl⟩:=iF.mp h;exact (EG g h1).1
 .obtain ⟨is,h1,rfl⟩:=iF.mp h;obtain ⟨z,a,b,c⟩:=Bt g h1;exact NA X.K z rfl u (a.trans b) c rfl r
 .cases h
theorem GK (h:Qb sc (fun _=>η) x=ζ):Qb sc fn x=ζ:=by
 unfold Qb at h ⊢;rw [ab8,Bool.or_false] at h;rw [h];rfl
theorem w8 (h:Nt N O sc (fun _=>η) e=θ i):Nt N O sc fn e=θ i:=by
 unfold Nt at h ⊢;obtain ⟨x,g,h⟩:=dO.mp h;obtain ⟨j,h1,h⟩:=dO.mp h;rw [g,abQ,h1,abQ];split at h
 .rename_i hq;rw [adU ⟨hq.1,GK hq.2⟩];exact h
 .cases h
theorem nq {N:ad1} {g:Scope} {fn:Str->Bool} {e:Zq} {q:TgD} (h:uu N O g (fun _=>η) e=θ q):uu N O g fn e=θ q:=by
 have hs:∀ {es:List Zq} {is:ad0},Dd N O g (fun _=>η) es=θ is->Dd N O g fn es=θ is:=fun {es}=>by
  induction es with
  | nil=>exact fun h=>h
  | cons e r u =>
   intro is h;let ⟨i,h1,h⟩:=dO.mp h
   obtain ⟨v,h2,rfl⟩:=iF.mp h;unfold Dd;rw [w8 h1,u h2];rfl
 unfold uu at h ⊢;split at h
 .obtain ⟨i,h1,rfl⟩:=iF.mp h;rw [w8 h1];rfl
 .obtain ⟨is,h1,rfl⟩:=iF.mp h;rw [hs h1];rfl
 .cases h
structure CompOk (X:Cx) (W:Wd) (O:ad0) (elt tg it:Zq) (ifs:List Zq) (scope:Scope) (N':ad1) (ix:List (Option Nat)) (ι:FA) (g:TgD) (τ:FT) (ε:FE):Prop where
 cs:wY X.env.scope X.N N' ix scope=ζ
 i:JI X tg it (iD W O ι)
 g:∀ b,JG (iW X N' scope b) tg (gD W [] g)
 t:∀ b,JTs (iW X N' scope b) ifs (i9 W [] τ)
 e:∀ b,JE (iW X N' scope b) elt (tD W [] ε)
 o:∀ j∈ix,∀ k,j=θ k->k∉O
 s:xh it=η
theorem G0 (z:W.K=X.K) (L:X.calm=ζ) (C:TbOk X W t) (M:∀ e φ,fx e=θ φ->JE X e (tD W O φ))
  (v:∀ N scope b,(∀ e φ,(fy (iW X N scope b).env.scope N).1 e=θ φ->JE (iW X N scope b) e (tD W [] φ))/\(∀ e τ,(fy (iW X N scope b).env.scope N).2 e=θ τ->JT (iW X N scope b) e (i9 W [] τ)))
  (h:Bu t X.env.scope X.N O fx fy elt tg it ifs scope pos=θ φ):∃ u ix ι g τ ε,φ=bo ix ι g τ ε/\CompOk X W O elt tg it ifs scope u ix ι g τ ε:=by
 unfold Bu at h;dsimp only at h;generalize ((t.k.find? fun q=>decide (q.1=pos)).map (·.2)).getD (WR tg)=u at h;split at h
 .rename_i hq;obtain ⟨J,h1,h⟩:=dO.mp h;let ⟨ι,h2,h⟩:=dO.mp h
  let ⟨τ,h3,h⟩:=dO.mp h
  obtain ⟨ε,I,rfl⟩:=iF.mp h;refine ⟨_,_,_,_,_,_,rfl,hq.1,EH z C M h2,fun b=>pO z L hq.2.1 (nq h1),fun b=>?_,fun b=>(v u scope b).1 _ _ I,(fun j Y k e=>by
    have:=Zy.mp hq.2.2.2 j Y
    simp_all),hq.2.2.1⟩
  cases ifs with
  | nil=>cases h3;exact KB
  | cons c r =>
   cases r with
   | nil=>exact (fun h=>K7 h) ((v u scope b).2 _ _ h3)
   | cons _ _=>cases h3
 .cases h
theorem CompOk.n (r:X.calm=ζ) {g:TgD} (C:CompOk X W O elt tg it ifs scope N' ix ι g τ ε):JE X (.ListComp elt [⟨tg,it,ifs,0⟩] scope pos) (tN W O (bo ix ι g τ ε)) :=
 Nr C.cs C.i C.g C.t C.e C.o rfl rfl rfl r (u5 C.s _)
theorem O4 (I:W.K=X.K) (g:X.calm=ζ) (u:TbOk X W t) (r:∀ e φ,fx e=θ φ->JE X e (tD W O φ)) (z:∀ e τ,ft e=θ τ->JT X e (i9 W O τ))
  (v:∀ N scope b,(∀ e φ,(fy (iW X N scope b).env.scope N).1 e=θ φ->JE (iW X N scope b) e (tD W [] φ))/\(∀ e τ,(fy (iW X N scope b).env.scope N).2 e=θ τ->JT (iW X N scope b) e (i9 W [] τ)))
  (e:Zq) (φ:FE) (h:WU t X.env.scope X.N O fx ft fy e=θ φ):JE X e (tD W O φ):=by
  unfold WU at h;split at h
  .cases h;exact jW
  .cases h;exact wN
  .cases h;exact VF
  .cases h;exact RV
  .split at h
   .rename_i i h1;split at h
    .rename_i hc;cases h;let ⟨a,b,c⟩:=Gn hc.2
     exact jB i hc.1 (j4 h1) a b c
    .cases h
   .split at h
    .rename_i hg;obtain ⟨d,h1,rfl⟩:=iF.mp h;exact u.c _ (EW h1) O _ hg
    .cases h
  .obtain ⟨_,_,_,_,_,_,rfl,C⟩:=G0 I g u r v h;exact xp (C.n g)
  .let ⟨τ,h0,h⟩:=dO.mp h
   let ⟨φ1,h1,h⟩:=dO.mp h
   obtain ⟨ψ,h2,rfl⟩:=iF.mp h;exact S4 (z _ _ h0) (r _ _ h1) (r _ _ h2)
  .let ⟨q,h0,h⟩:=dO.mp h
   obtain ⟨l,h1,rfl⟩:=iF.mp h;let ⟨f,h2,h3⟩:=kK h0
   exact u.x f h2 O e _ _ l h3 (nK r _ _ h1)
theorem A3 (g:∀ e τ,f e=θ τ->JT X e (i9 W O τ)):∀ (l:List Zq) (τ:FT),UR f jJ l=θ τ->JW X (.BoolOp .And l pos) (i9 W O τ)
 | [],_,h=>by cases h
 | [a],τ,h=>(fun u=>IQ u) (g a τ h)
 | a::b::r,_,h=>by
  let ⟨τ,h1,h⟩:=dO.mp h
  obtain ⟨υ,h2,rfl⟩:=iF.mp h;exact On (g _ _ h1) (A3 g (b::r) υ h2)
theorem Fv (g:∀ e τ,f e=θ τ->JT X e (i9 W O τ)):∀ (l:List Zq) (τ:FT),UR f se l=θ τ->JW X (.BoolOp .Or l pos) (i9 W O τ)
 | [],_,h=>by cases h
 | [a],τ,h=>(fun u=>OY u) (g a τ h)
 | a::b::r,_,h=>by
  let ⟨τ,h1,h⟩:=dO.mp h
  obtain ⟨υ,h2,rfl⟩:=iF.mp h;exact QU (g _ _ h1) (Fv g (b::r) υ h2)
theorem N2 (v:W.K=X.K) (u:TbOk X W t) (r:∀ e φ,fx e=θ φ->JE X e (tD W O φ)) (g:∀ e τ,ft e=θ τ->JT X e (i9 W O τ)) (e:Zq) (τ:FT) (h:GH t X.env.scope X.N O fx ft e=θ τ):JT X e (i9 W O τ):=by
 unfold GH at h;split at h
 .obtain ⟨υ,h1,rfl⟩:=iF.mp h;exact Nv (g _ _ h1)
 .exact AE (A3 g _ _ h)
 .exact AE (Fv g _ _ h)
 .split at h
  .rename_i q e1;let ⟨f,h2,h3⟩:=kK e1
   obtain ⟨l,h1,rfl⟩:=iF.mp h;exact u.q f h2 O e _ _ l h3 (nK r _ _ h1)
  .split at h
   .rename_i hb;obtain ⟨φ,h1,rfl⟩:=iF.mp h;exact DU X.K (r _ _ h1) (J7 hb _) rfl v
   .cases h
inductive Fam (X:Cx):Cx->Prop
 | re:Fam X X
 | bk {Y:Cx} (h:Fam X Y) (N:ad1) (scope:Scope) (b:Bk):Fam X (iW Y N scope b)
theorem Fam.eqs (h:Fam X Y):Y.K=X.K/\Y.mg=X.mg/\Y.prog=X.prog/\Y.w=X.w/\Y.base=X.base/\Y.A=X.A/\Y.calm=X.calm:=by
 induction h with
 | re=>exact ⟨rfl,rfl,rfl,rfl,rfl,rfl,rfl⟩
 | bk _ N r b g=>exact g
theorem mU (v:W.K=X.K) (u:X.calm=ζ) (hF:∀ Y,Fam X Y->TbOk Y W t):∀ (n:Nat) (Y:Cx) (g:Fam X Y) (O:ad0),(∀ e φ,(kL t n Y.env.scope Y.N O).1 e=θ φ->JE Y e (tD W O φ))/\(∀ e τ,(kL t n Y.env.scope Y.N O).2 e=θ τ->JT Y e (i9 W O τ))
 | 0,_,_,_=>⟨fun _ _ h=>(by cases h),fun _ _ h=>(by cases h)⟩
 | n+1,Y,g,O=>by
  let ⟨a,b⟩:=mU v u hF n Y g O
  let ⟨e1,_,_,_,_,e6,e7⟩:=g.eqs
  have r:W.K=Y.K:=by rw [e1];exact v
  exact ⟨O4 r (by rw [e7];exact u) (hF Y g) a b fun N scope z=>mU v u hF n (iW Y N scope z) (.bk g N scope z) [],N2 r (hF Y g) a b⟩
end
def DA:Zq->Bool
 | .ListComp ..=>ζ
 | .SetComp ..=>ζ
 | .DictComp ..=>ζ
 | _=>η
theorem pQ (h:DA e=η) (tg:Option Zq) (l:Nat) (env:Env):Z2 e tg l env=pure η:=by
 cases e <;> first|rfl|cases h
noncomputable def XJ (g:Scope) (x:Str) (p pos:Pos) (scope:Scope):Bool:=(if g.kind.isAnnotationScope then ScopeKind.function else g.kind)==.function&&g.names.lookup x==θ .local&&p.line==pos.line&&!(scope.names.any fun (n,k)=>n==x&&(k==.local||k==.cell))
theorem yk:Z2 (.ListComp elt gs scope pos) (θ (.Name x p)) l env=pure (XJ env.scope x p pos scope):=rfl
def dB:Nat:=30
def iX (t:Tb) (r:Scope) (fn:Str->Bool) (N:ad1) (u:ad0->List aa0->Option (FS×ad0)) (O:ad0) (s:aa0):Option (FS×ad0):=match s with
 | .Assign [.Name x p] e _=>(Nt N O r fn (.Name x p)).bind fun i=>match e with
  | .ListComp elt [⟨tg,it,ifs,0⟩] scope pos=>(Bu t r N O (kL t dB r N O).1 (fun v z=>kL t dB v z []) elt tg it ifs scope pos).map fun φ=>if t.m.contains x=ζ then (f6 i φ,i::O) else (aJ i φ,O)
  | e=>if DA e=ζ then ξ else match (if t.m.contains x=ζ then fst t.n fun f=>f r N O e else ξ) with
   | some q=>(zG (kL t dB r N O).1 q.1).map fun l=>(f6 i (q.2 l),i::O)
   | none=>((kL t dB r N O).1 e).map fun ε=>(aJ i ε,O)
 | .Return (θ e) _=>((kL t dB r N O).1 e).map fun ε=>(aB ε,O)
 | .If c a b _=>((kL t dB r N O).2 c).bind fun τ=>(u O a).bind fun p=>(u O b).bind fun q=>if p.2=O/\q.2=O then θ (bN τ p.1 q.1,O) else ξ
 | .While c body [] _=>((kL t dB r N O).2 c).bind fun τ=>(u O body).bind fun p=>if p.2=O then θ (b5 τ p.1 t.w,O) else ξ
 | .Raise ..=>θ (D9,O)
 | .For tg it body [] _=>(uu N O r fn tg).bind fun g=>if xh it=ζ then ξ else
   (UV t r N O (kL t dB r N O).1 tg it).bind fun ι=>(u O body).bind fun p=>if p.2=O then θ (fY ι g p.1,O) else ξ
 | _=>ξ
def Xx (t:Tb) (g:Scope) (fn:Str->Bool) (N:ad1) (r:ad0->List aa0->Option (FS×ad0)) (O:ad0) (s:aa0):Option (FS×ad0):=match iX t g fn N r O s with
 | some q=>θ q
 | none=>(fst t.s fun f=>f g N O s).bind fun q=>(zG (kL t dB g N O).1 q.1).map fun l=>(q.2 l,O)
def Vg (t:Tb) (N:ad1) (O:ad0):ad0:=O.filter fun i=>match N[i]? with
 | some x=>t.d.contains x
 | none=>η
def Qg (t:Tb) (N:ad1) (f:ad0->aa0->Option (FS×ad0)):ad0->List aa0->Option (FS×ad0)
 | O,[]=>θ (aF,O)
 | O,[s]=>match f O s with
  | some p=>θ p
  | none=>if (Vg t N O).Nodup then (f [] s).map fun p=>((Vg t N O).foldr DG p.1,p.2) else ξ
 | O,s::a::r=>match f O s with
  | some p=>(Qg t N f p.2 (a::r)).map fun q=>(ap p.1 q.1,q.2)
  | none=>if (Vg t N O).Nodup then (f [] s).bind fun p=>(Qg t N f p.2 (a::r)).map fun q=>((Vg t N O).foldr DG (ap p.1 q.1),q.2) else ξ
def Wq (t:Tb) (g:Scope) (fn:Str->Bool) (N:ad1):Nat->ad0->List aa0->Option (FS×ad0)
 | 0=>fun _ _=>ξ
 | n+1=>Qg t N (Xx t g fn N (Wq t g fn N n))
section
theorem BE (u:X.N.Nodup) (z:vZ X.env.scope x) (v:X.fn x=ζ\/X.env.scope.names.lookup x=θ .local) (J:X.calm=ζ) (I:X.N[i]?=θ x) (r:i∉O) (C:CompOk X W O elt tg it ifs scope N' ix ι g τ ε) :
  JS X (.Assign [.Name x p] (.ListComp elt [⟨tg,it,ifs,0⟩] scope pos) spos) (sD W Ob O (i::O) (f6 i (bo ix ι g τ ε)))/\JS X (.Assign [.Name x p] (.ListComp elt [⟨tg,it,ifs,0⟩] scope pos) spos) (sD W Ob O O (aJ i (bo ix ι g τ ε))):=by
 cases hsw:XJ X.env.scope x p pos scope with
 | true =>
  have j:=JP (spos:=spos) u z C.cs C.i C.g C.t C.e C.o rfl I rfl rfl J (yk.trans (by rw [hsw])) v (u5 C.s _);exact ⟨KM r j,JZ r j⟩
 | false=>exact ⟨E1 r u z (C.n J) I (yk.trans (by rw [hsw])) v,Ea r u z (xp (C.n J)) I (yk.trans (by rw [hsw])) v⟩
theorem ME (z:W.K=X.K) (hF:∀ Y,Fam X Y->TbOk Y W t) (J:X.N.Nodup) (hp:abM (YN X.prog X.w) X.A X.env X.xe) (v:X.calm=ζ)
  (L:∀ O sts q,fb O sts=θ q->∀ Ob,JB X sts (sD W Ob O q.2 q.1)) (O:ad0) (s:aa0) (q:FS×ad0) (h:iX t X.env.scope X.fn X.N fb O s=θ q) (Ob:ad0):JS X s (sD W Ob O q.2 q.1):=by
 have tx:=mU z v hF dB X .re O;have ty:=fun N scope b=>mU z v hF dB (iW X N scope b) (.bk .re N scope b) [];have M:=hF X .re;unfold iX at h;split at h
 .let ⟨i,h1,h⟩:=dO.mp h
  let ⟨x,h0,h1⟩:=dO.mp h1
  cases h0;let ⟨i,h2,h1⟩:=dO.mp h1
  split at h1
  .rename_i hq;cases h1;let ⟨hl,hf⟩:=Aa hq.2
   split at h
   .let ⟨φ,h3,h⟩:=iF.mp h
    obtain ⟨_,_,_,_,_,_,rfl,C⟩:=G0 z v M tx.1 ty h3;split at h
    .cases h;exact (BE J hl hf v (j4 h2) hq.1 C).1
    .cases h;exact (BE J hl hf v (j4 h2) hq.1 C).2
   .split at h
    .cases h
    .rename_i u;have u:=abz.mpr u;split at h
     .rename_i r e;split at e
      .let ⟨f,Z,h5⟩:=kK e
       obtain ⟨l,h6,rfl⟩:=iF.mp h;exact E1 hq.1 J hl (M.n f Z O _ _ _ l h5 (nK tx.1 _ _ h6)) (j4 h2) (pQ u _ _ _) hf
      .cases e
     .obtain ⟨ε,Z,rfl⟩:=iF.mp h;exact Ea hq.1 J hl (tx.1 _ _ Z) (j4 h2) (pQ u _ _ _) hf
  .cases h1
 .obtain ⟨ε,h2,rfl⟩:=iF.mp h;exact GE (tx.1 _ _ h2)
 .let ⟨τ,h1,h⟩:=dO.mp h
  let ⟨p,h2,h⟩:=dO.mp h
  let ⟨r,h3,h⟩:=dO.mp h
  split at h
  .rename_i hq;cases h;have a:=L _ _ _ h2 Ob;have b:=L _ _ _ h3 Ob;rw [hq.1] at a;rw [hq.2] at b;exact SI (tx.2 _ _ h1) a b
  .cases h
 .let ⟨τ,h1,h⟩:=dO.mp h
  let ⟨p,h2,h⟩:=dO.mp h
  split at h
  .rename_i hq;cases h;have b:=L _ _ _ h2 O;rw [hq] at b;exact E3 t.w hp (tx.2 _ _ h1) b
  .cases h
 .cases h;exact (⟨fun af s σ H D I q=>let ⟨_,_,_,_,_,h⟩:=q;h.elim⟩)
 .let ⟨g,h1,h⟩:=dO.mp h
  split at h
  .cases h
  .rename_i hs;let ⟨ι,h2,h⟩:=dO.mp h
   let ⟨p,h3,h⟩:=dO.mp h
   split at h
   .rename_i hp2;cases h;have b:=L _ _ _ h3 O;rw [hp2] at b;exact OC hp (EH z M tx.1 h2) (pO z v J h1) b v (u5 (abz.mpr hs) _)
   .cases h
 .cases h
theorem Nl (u:W.K=X.K) (hF:∀ Y,Fam X Y->TbOk Y W t) (v:X.N.Nodup) (z:abM (YN X.prog X.w) X.A X.env X.xe) (g:X.calm=ζ)
  (C:∀ O sts q,fb O sts=θ q->∀ Ob,JB X sts (sD W Ob O q.2 q.1)) (O:ad0) (s:aa0) (q:FS×ad0) (h:Xx t X.env.scope X.fn X.N fb O s=θ q) (Ob:ad0):JS X s (sD W Ob O q.2 q.1):=by
 unfold Xx at h;split at h
 .rename_i e;cases h;exact ME u hF v z g C O s _ e Ob
 .obtain ⟨r,h1,h⟩:=dO.mp h;obtain ⟨l,h2,rfl⟩:=iF.mp h;let ⟨f,h3,h4⟩:=kK h1
  exact (hF X .re).s f h3 Ob O s _ _ l h4 (nK (mU u g hF dB X .re O).1 _ _ h2)
theorem y4 (h:JB X sts (sD W Ob [] O' φ)):∀ (ds O:ad0),ds.Nodup->(∀ i∈ds,i∈O)->JB X sts (sD W Ob O O' (ds.foldr DG φ))
 | [],O,_,_=>O6 h (by simp)
 | i::r,O,nd,hm=>by
  rw [YW] at nd;exact UB (y4 h r (O.filter fun k=>decide (k≠i)) nd.2 fun j g=>Zi.mpr ⟨hm j (lT _ g),adX ((fun e=>nd.1 (e ▸ g)))⟩) (hm i Zc) rfl
theorem zo (g:∀ O s q,f O s=θ q->∀ Ob,JS X s (sD W Ob O q.2 q.1)):∀ (sts:List aa0) (O:ad0) (q:FS×ad0),Qg t X.N f O sts=θ q->∀ Ob,JB X sts (sD W Ob O q.2 q.1)
 | [],O,q,h,Ob=>by cases h;exact MO
 | [s],O,q,h,Ob=>by
  unfold Qg at h;split at h
  .rename_i e;cases h;exact zd (g O s _ e Ob)
  .split at h
   .rename_i nd;obtain ⟨p,h1,rfl⟩:=iF.mp h;exact y4 (zd (g [] s p h1 Ob)) _ O nd fun i v=>(Zi.mp v).1
   .cases h
 | s::a::r,O,q,h,Ob=>by
  unfold Qg at h;split at h
  .rename_i p e;obtain ⟨u,h2,rfl⟩:=iF.mp h;exact BA (g O s p e Ob) (zo g (a::r) p.2 u h2 Ob)
  .split at h
   .rename_i nd;let ⟨p,h1,h⟩:=dO.mp h
    obtain ⟨u,h2,rfl⟩:=iF.mp h;exact y4 (BA (g [] s p h1 Ob) (zo g (a::r) p.2 u h2 Ob)) _ O nd fun i v=>(Zi.mp v).1
   .cases h
theorem DV (v:W.K=X.K) (hF:∀ Y,Fam X Y->TbOk Y W t) (g:X.N.Nodup) (u:abM (YN X.prog X.w) X.A X.env X.xe) (r:X.calm=ζ):∀ (n:Nat) (O:ad0) (sts:List aa0) (q:FS×ad0),Wq t X.env.scope X.fn X.N n O sts=θ q->∀ Ob,JB X sts (sD W Ob O q.2 q.1)
 | 0,_,_,_,h,_=>by cases h
 | n+1,O,sts,q,h,Ob=>zo (fun O s q h Ob=>Nl v hF g u r (DV v hF g u r n) O s q h Ob) sts O q h Ob
end
structure FY (Y:Cx) (P:Z9) (w:Zv) (K:aT) (mg:ad4) (base:abh) (k:Nat):Prop where
 eK:Y.K=K
 eM:Y.mg=mg
 eP:Y.prog=P
 eW:Y.w=w
 eB:Y.base=base
 hr:Room k Y.A
 cm:Y.calm=ζ
def Cs (g:Scope) (x:Str):Bool:=decide (g.names.lookup x=θ .globalImplicit)&&!(x==("__debug__":Str))
theorem cK (h:Cs X.env.scope x=ζ):Gl X x/\ad9 x:=by
 unfold Cs at h;rw [YR,aby,decide_eq_true_eq] at h;exact h
def aL:List FE->FA
 | []=>aj
 | φ::l=>aa φ (aL l)
theorem uP:∀ {es:List Zq} {l:List FE},Js X W O es l->es.all aM=ζ->JA X es (rY W O (aL l))
 | [],[],_,_=>zz
 | e::es,φ::l,h,hn=>by
  rw [ZX,YR] at hn;exact vE h.1 (uP h.2 hn.2) hn.1
 | [],_::_,h,_=>h.elim
 | _::_,[],h,_=>h.elim
def cN:Zq->Option (Str×List Zq)
 | .Call (.Name x _) es [] _=>θ (x,es)
 | _=>ξ
theorem xt (h:cN e=θ q):∃ p pos,e=.Call (.Name q.1 p) q.2 [] pos:=by
 unfold cN at h;split at h
 .cases h;exact ⟨_,_,rfl⟩
 .cases h
def fN (x:Str) (n:Nat->Bool) (c:List FE->FE):Fm:=fun g _ _ e=>(cN e).bind fun q=>if q.1=x/\Cs g x=ζ/\q.2.all aM=ζ/\n q.2.length=ζ then θ (q.2,c) else ξ
theorem Hg (h:fN x n c sc N O e=θ (es,b)):∃ p pos,e=.Call (.Name x p) es [] pos/\Cs sc x=ζ/\es.all aM=ζ/\n es.length=ζ/\b=c:=by
 let ⟨q,h1,h⟩:=dO.mp h
 split at h
 .cases h;obtain ⟨p,pos,rfl⟩:=xt h1;simp_all
 .cases h
def A8 (x:Str) (F:ad8->R D):Fm:=fN x (fun _=>ζ) fun l=>ai F (aL l)
structure Df where
 x:Str
 g:ad1
 i:Nat
 N:ad1
 p:Nat
 d:Nat
 m:ad1:=[]
 k:List (Pos×ad1):=[]
 e:ad0:=[]
 h:ad0:=[]
 w:Nat:=1000
noncomputable def Df.ps (q:Df):ad1:=q.N.take q.p
inductive Mr where
 | pl (φ:FS)
 | rc (φ:(ad8->R D)->FS) (Z:Nat->ad8->R D) (n:Nat)
 | ex (F:ad8->R D)
def Mr.F (q:Df):Mr->(ad8->R D)
 | .pl φ=>uC φ q.N q.ps
 | .rc _ Z n=>Z n
 | .ex F=>F
def Mr.dp (q:Df):Mr->Nat
 | .rc _ _ n=>q.d+n
 | _=>q.d+1
noncomputable def UW (N ps:ad1) (g:Scope):Bool:=decide (g.kind=.function)&&!g.isCoroutine&&!g.isGenerator&&decide N.Nodup&&decide (N.take ps.length=ps)&&ps.all (fun x=>decide (g.names.lookup x=θ .local)||decide (g.names.lookup x=θ .cell))&&g.names.all (fun y=>decide (y.2≠.free))
section
abbrev Xf:=List (Nat×(Str->(ad8->R D)->Fm))
variable (dQ:Nat->aa0) (B:Tb) (ext:List Fm) (xf:Xf)
noncomputable def tbl (acc:List (Nat×Fm)) (q:Df) (self:List Fm):Tb:={ B with x:=q.e.filterMap (fun i=>ext[i]?)++(self++(B.x++(acc.filter fun a=>decide (a.1<=q.d)).map (·.2))),m:=q.m,k:=q.k,w:=q.w }
def rj (t:Tb) (q:Df):Option FS:=(Wq t (aY (dQ q.i)) (fun _=>ζ) q.N 12 [] (eJ (dQ q.i))).map (·.1)
def Oh (q:Df) (m:Mr) (acc:List (Nat×Fm)):List (Nat×Fm):=(if q.x∈q.g then (q.h.filterMap fun i=>xf[i]?).map fun h=>(m.dp q+h.1,h.2 q.x (m.F q)) else [])++(q.g.map (fun x=>(m.dp q,A8 x (m.F q)))++acc)
def oI (P:Z9) (w:Zv) (K:aT) (mg:ad4) (base:abh) (a:Nat×Fm):Prop:=∀ Y k,FY Y P w K mg base k->a.1<=k->fg Y ⟨K,mg,E0⟩ a.2
def Qy (q:Df) (acc:List (Nat×Fm)):Mr->Prop
 | .pl φ=>rj dQ (tbl B ext acc q []) q=θ φ
 | .rc φ Z n=>(∀ F,rj dQ (tbl B ext acc q (q.g.map fun x=>A8 x F)) q=θ (φ F))/\(∀ ds,Z 0 ds=.no)/\∀ m,Z (m+1)=uC (φ (Z m)) q.N q.ps
 | .ex F=>∀ P w K mg base f r,Fun K q.x q.x (dQ q.i) f r->(∀ a∈acc,oI P w K mg base a)->FnScope q.N q.ps (aY (dQ q.i))->FnOk P w K mg base l8 (q.d+1) f r q.ps (vV K mg F)
def Oi:List (Df×Mr)->List (Nat×Fm)->Prop
 | [],_=>True
 | q::r,acc=>Qy dQ B ext q.1 acc q.2/\UW q.1.N q.1.ps (aY (dQ q.1.i))=ζ/\Oi r (Oh xf q.1 q.2 acc)
end
section
variable {K:aT}
structure DfOk (dQ:Nat->aa0) (K:aT) (mg:ad4) (q:Df) (f:YS) (fd:aaS):Prop where
 F:Fun K q.x q.x (dQ q.i) f fd
 b:gi K fd q.ps []
 m:∀ x∈q.g,mg x=θ (.ref f)
theorem AY (Q:DfOk dQ K mg q f fd) (G:FnOk P w K mg base l8 j f fd q.ps (vV K mg F)) (v:x∈q.g):oI P w K mg base (j,A8 x F):=fun Y k ⟨e1,e2,e3,e4,e5,hr,_⟩ hj O e es b φs h hJ=>by
 subst e1 e2 e3 e4 e5;obtain ⟨p,pos,rfl,h1,h2,_,rfl⟩:=Hg (n:=fun _=>ζ) (N:=Y.N) (O:=O) h;let ⟨hg,hd⟩:=cK h1
 have C:Def Y.K (fun _=>θ (.ref f)) q.x (dQ q.i) q.ps f fd:=⟨Q.F,Q.b,rfl⟩;cases es with
 | nil =>
  cases φs with
  | nil =>
   refine (JE.mk (FR G (hr.mono hj) hg (Q.m x v) Q.F.kp Q.b .nil ES hd)).imp fun σ H Q z=>cJ z fun as0 B own U I h=>⟨own++as0,[],I.exi,aH.nil,h⟩
  | cons _ _=>exact hJ.elim
 | cons a r =>
  have u:=h2;rw [ZX,YR] at u;exact Jn C (Q.m x v) G hr (uP hJ h2) hj hg hd u.1 u.2
theorem HQ (hB:∀ Y k,FY Y P w K mg base k->TbOk Y ⟨K,mg,E0⟩ B/\∀ f∈ext,fg Y ⟨K,mg,E0⟩ f) (g:∀ a∈acc,oI P w K mg base a) (u:q.d<=k) (y:FY Y P w K mg base k) (hs:∀ f∈self,fg Y ⟨K,mg,E0⟩ f):TbOk Y ⟨K,mg,E0⟩ (tbl B ext acc q self):=by
 obtain ⟨b,e⟩:=hB Y k y;refine ⟨fun f r=>?_,b.n,b.q,b.i,b.s,b.c⟩;rcases xb.mp r with h|h
 .obtain ⟨i,_,h2⟩:=abk.mp h;exact e f (YO h2)
 .rcases xb.mp h with h|h
  .exact hs f h
  .rcases xb.mp h with h|h
   .exact b.x f h
   .obtain ⟨a,h1,rfl⟩:=Do.mp h;let ⟨h1,h2⟩:=Zi.mp h1
    exact g a h1 Y k y (Le (adY h2) u)
theorem Bd (F:Fun K q.x q.x (dQ q.i) f fd) (S:FnScope q.N q.ps (aY (dQ q.i))) (hF:∀ Y,FY Y P w K mg base k->TbOk Y ⟨K,mg,E0⟩ t) (h:rj dQ t q=θ φ):FnOk P w K mg base l8 (k+1) f fd q.ps (vV K mg (uC φ q.N q.ps)):=by
 obtain ⟨r,h',rfl⟩:=iF.mp h;refine F.okD (O':=r.2) S fun v A u s H E hr=>?_;refine DV rfl (fun Y z=>?_) S.nd adN rfl 12 [] _ r h' [];obtain ⟨a,b,c,d,e,g,i⟩:=z.eqs;exact hF Y ⟨a,b,c,d,e,g ▸ hr,i⟩
theorem IY (hB:∀ Y k,FY Y P w K mg base k->TbOk Y ⟨K,mg,E0⟩ B/\∀ f∈ext,fg Y ⟨K,mg,E0⟩ f) (u:∀ a∈acc,oI P w K mg base a) (Q:DfOk dQ K mg q f fd) (S:FnScope q.N q.ps (aY (dQ q.i))) (h:Qy dQ B ext q acc m) :
  FnOk P w K mg base l8 (m.dp q) f fd q.ps (vV K mg (m.F q)):=by
 cases m with
 | pl φ=>exact Bd Q.F S (fun Y y=>HQ (self:=[]) hB u (oR _) y fun f v=>nomatch v) h
 | ex F=>exact h P w K mg base f fd Q.F u S
 | rc φ Z n =>
  obtain ⟨h1,h2,z⟩:=h;show FnOk P w K mg base l8 (q.d+n) f fd q.ps (vV K mg (Z n));induction n with
  | zero =>
   have  := funext h2;rw [this];exact ( ⟨fun vs H Q E ⟨_,_,_,_,h⟩=>h.elim,fun A outer s H args us vs Q E hr e0 hb r ⟨_,_,_,_,h⟩=>h.elim⟩)
  | succ n I =>
   rw [z n];refine Bd Q.F S (fun Y y=>HQ hB u (aa9 _ _) y fun g hg=>?_) (h1 (Z n));obtain ⟨x,C,rfl⟩:=Do.mp hg;exact AY Q I C Y _ y (oR _)
def MZ (dQ:Nat->aa0) (P:Z9) (w:Zv) (K:aT) (mg:ad4) (base:abh) (h:Nat×(Str->(ad8->R D)->Fm)):Prop:=∀ (q:Df) f fd j F,DfOk dQ K mg q f fd->q.x∈q.g->FnOk P w K mg base l8 j f fd q.ps (vV K mg F)->oI P w K mg base (j+h.1,h.2 q.x F)
theorem D8 (hB:∀ Y k,FY Y P w K mg base k->TbOk Y ⟨K,mg,E0⟩ B/\∀ f∈ext,fg Y ⟨K,mg,E0⟩ f) (hX:∀ h∈xf,MZ dQ P w K mg base h) {v:Nat->YS} {C:Nat->aaS}:∀ (l:List (Df×Mr)) (acc:List (Nat×Fm)),(∀ a∈acc,oI P w K mg base a)->(∀ q∈l,DfOk dQ K mg q.1 (v q.1.i) (C q.1.i))->Oi dQ B ext xf l acc ->
  ∀ q∈l,FnOk P w K mg base l8 (q.2.dp q.1) (v q.1.i) (C q.1.i) q.1.ps (vV K mg (q.2.F q.1))
 | [],_,_,_,_,_,h=>nomatch h
 | q::r,acc,ha,hl,⟨h1,h2,h3⟩,z,hz=>by
  have Q:=hl q Zc;have G:=IY hB ha Q ((by
    unfold UW at h2;simp only [YR,aby,decide_eq_true_eq,Zy,Bool.or_eq_true] at h2;obtain ⟨⟨⟨⟨⟨⟨a,b⟩,c⟩,d⟩,e⟩,f⟩,g⟩:=h2;exact ⟨a,b,c,d,e,f,g⟩)) h1
  rcases mK.mp hz with rfl|hz
  .exact G
  .refine D8 hB hX r _ (fun a h=>?_) (fun q hq=>hl q (lT _ hq)) h3 z hz;rcases xb.mp h with h|h
   .split at h
    .rename_i u;obtain ⟨y,hy,rfl⟩:=Do.mp h;let ⟨i,_,hi⟩:=abk.mp hy
     exact hX y (YO hi) q.1 _ _ _ _ Q u G
    .exact nomatch h
   .rcases xb.mp h with h|h
    .obtain ⟨x,u,rfl⟩:=Do.mp h;exact AY Q G u
    .exact ha a h
end
noncomputable def vX:FE:=fun _=>.no
def g0 (l:List FE):FE:=l.headD vX
def g1 (l:List FE):FE:=(l.drop 1).headD vX
def g2 (l:List FE):FE:=(l.drop 2).headD vX
def Cq:Zq->Bool
 | .Slice ..=>ζ
 | _=>η
def xw (h:Cq b=η):pM b:=by
 cases b <;> first|exact fun _ _=>rfl|cases h
def MA (h:Cq b=η):yg b:=by
 cases b <;> first|exact fun _ _=>rfl|cases h
theorem u7 (h:xh b=η) (op:CmpOp):aaI op b=η:=by
 cases b <;> first|rfl|cases h
def HX:Zq->Bool
 | .Name ..=>ζ
 | .Subscript ..=>ζ
 | .Attribute ..=>ζ
 | .Constant ..=>ζ
 | .Call _ (_::_) _ _=>ζ
 | _=>η
theorem Jk (f:Str) (env:Env) (m:Sem rW):Y4 (.Call g (a::es) kw pos) f env m=m:=by
 cases g <;> rfl
theorem ww (h:HX e=ζ) (f:Str) (env:Env):Y4 e f env (eval e env)=eval e env:=by
 cases e <;> first|rfl|skip;all_goals (rename_i g r kw pos;cases r <;> first|exact Jk _ _ _|cases h)
def xV (d:ad1):Zq->Bool
 | .Name x _=>d.contains x
 | .Attribute _ f _=>d.contains f
 | .Subscript (.Name x _) _ _=>d.contains (x++DO "[]")
 | _=>η
def Mw:Zq->Bool
 | .Subscript ..=>ζ
 | _=>η
def gE:Zq->Bool:=fun _=>ζ
theorem wA (h:sq e=θ x):∃ p,e=.Name x p:=by
 unfold sq at h;split at h
 .simp_all
 .cases h
def cM:Zq->Option (Zq×Str×List Zq)
 | .Call (.Attribute a f apos) es [] cpos=>if (apos.endLine==cpos.line)=ζ then θ (a,f,es) else ξ
 | _=>ξ
theorem wm (h:cM e=θ q):∃ apos cpos,e=.Call (.Attribute q.1 q.2.1 apos) q.2.2 [] cpos/\(apos.endLine==cpos.line)=ζ:=by
 unfold cM at h;split at h
 .grind
 .cases h
def cS:Zq->Option (Zq×Zq)
 | .Subscript a b _=>if Cq b=ζ then ξ else θ (a,b)
 | _=>ξ
theorem Ae (h:cS e=θ q):∃ pos,e=.Subscript q.1 q.2 pos/\Cq q.2=η:=by
 unfold cS at h;split at h
 .split at h
  .cases h
  .cases h;simp_all
 .cases h
def cC:Zq->Option (Zq×CmpOp×Zq)
 | .Compare a [o] [b] _=>if xh b=ζ then ξ else θ (a,o,b)
 | _=>ξ
theorem EL (h:cC e=θ q):∃ pos,e=.Compare q.1 [q.2.1] [q.2.2] pos/\xh q.2.2=η:=by
 unfold cC at h;split at h
 .split at h
  .cases h
  .cases h;simp_all
 .cases h
def xE:aa0->Option Zq
 | .Expr e _=>θ e
 | _=>ξ
theorem Mx (h:xE s=θ e):∃ pos,s=.Expr e pos:=by
 unfold xE at h;split at h
 .simp_all
 .cases h
def aS:aa0->Option (Zq×Zq)
 | .Assign [t] e _=>θ (t,e)
 | _=>ξ
theorem FO (h:aS s=θ q):∃ pos,s=.Assign [q.1] q.2 pos:=by
 unfold aS at h;split at h
 .cases h;exact ⟨_,rfl⟩
 .cases h
theorem tq (h:DA e=η) (t:Zq) (l:Nat) (env:Env):swapsWithSole [t] e l env=pure η:=by
 exact pQ h _ _ _
theorem PD (h:Cq ie=η) (env:Env) (v:rW):assign (.Subscript (.Name x p1) ie spos) env v=(do
   let ov <- holding [v] (eval (.Name x p1) env)
   let iv <- holding [v,ov] (eval ie env)
   acy spos
   holding [v,ov,iv] (setItem ov iv v)
   release [v,ov,iv] []):=by
 cases ie <;> first|rfl|cases h
section
theorem xN (h:Js X W O [a] l):∃ φ,l=[φ]/\JE X a (tD W O φ):=by
 match l,h with
 | [φ],h=>exact ⟨φ,rfl,h.1⟩
theorem E6 (h:Js X W O [a,b] l):∃ φ ψ,l=[φ,ψ]/\JE X a (tD W O φ)/\JE X b (tD W O ψ):=by
 match l,h with
 | [φ,ψ],h=>exact ⟨φ,ψ,rfl,h.1,h.2.1⟩
theorem X8 (h:Js X W O [a,b,c] l):∃ φ ψ χ,l=[φ,ψ,χ]/\JE X a (tD W O φ)/\JE X b (tD W O ψ)/\JE X c (tD W O χ):=by
 match l,h with
 | [φ,ψ,χ],h=>exact ⟨φ,ψ,χ,rfl,h.1,h.2.1,h.2.2.1⟩
theorem vn.m (h:vn X W f):fg X W f:=fun O e es b g h1 h2=>xp (h O e es b g h1 h2)
end
section
variable {X:Cx} {W:Wd}
def uz (op:Operator) (g:D->D->R D):Fm:=fun _ _ _ e=>match e with
 | .BinOp a o b _=>if o=op then θ ([a,b],fun l=>ao g (g0 l) (g1 l)) else ξ
 | _=>ξ
theorem ju (v:dh X (Z7 op) r) (z:n6 W r g):fg X W (uz op g):=fun O e es b u h C=>by
 unfold uz at h;split at h
 .split at h
  .rename_i hq;subst hq;cases h;obtain ⟨φ,ψ,rfl,h1,h2⟩:=E6 C;exact ( HF (fun h1 h2=>Wx v h1 h2) rfl z h1 h2)
  .cases h
 .cases h
def dj (op:CmpOp) (g:D->D->R D) (p:Zq->Bool):Fm:=fun _ _ _ e=>(cC e).bind fun q=>if q.2.1=op/\p q.2.2=ζ then θ ([q.1,q.2.2],fun l=>ao g (g0 l) (g1 l)) else ξ
def fQ (f:Fm):Fq:=fun g N O e=>(f g N O e).map fun q=>(q.1,fun l=>aX (q.2 l))
theorem AW (h:dj op g p sc N O e=θ (es,b)):∃ x y pos,e=.Compare x [op] [y] pos/\es=[x,y]/\b=(fun l=>ao g (g0 l) (g1 l))/\xh y=η:=by
 replace h:=dO.mp h
 obtain ⟨q,h1,h⟩:=h;split at h
 .rename_i hq;cases h;obtain ⟨pos,rfl,h2⟩:=EL h1;exact ⟨_,_,_,by rw [hq.1],rfl,rfl,h2⟩
 .cases h
theorem aZ (u:dh X (YX op) r) (z:n6 W r g):fg X W (dj op g p)/\Ow X W (fQ (dj op g p)):=by
 refine ⟨fun O e es b C h v=>?_,fun O e es b C h v=>?_⟩
 .obtain ⟨x,y,pos,rfl,rfl,rfl,hs⟩:=AW h;obtain ⟨φ,ψ,rfl,h1,h2⟩:=E6 v;exact (fun u z L hb hm =>  HF (fun h1 h2=>Si u h1 h2 hm) rfl z L hb) u z h1 h2 (u7 hs _)
 .let ⟨q,h,hq⟩:=iF.mp h
  obtain ⟨x,y,pos,rfl,I,J,hs⟩:=AW h;cases hq;rw [I] at v;obtain ⟨φ,ψ,rfl,h1,h2⟩:=E6 v;rw [J];exact qw u z h1 h2 (u7 hs _)
def Xj (g:D->D->R D) (p:Zq->Bool):Fm:=fun _ _ _ e=>(cS e).bind fun q=>if p q.1=ζ then θ ([q.1,q.2],fun l=>ao g (g0 l) (g1 l)) else ξ
theorem HG (k:∀ O a b pos φ ψ,Cq b=η->JE X a (tD W O φ)->JE X b (tD W O ψ)->JE X (.Subscript a b pos) (tD W O (ao g φ ψ))):fg X W (Xj g p):=fun O e es b r h z=>by
 replace h:=dO.mp h
 obtain ⟨q,h1,h⟩:=h;split at h
 .cases h;obtain ⟨pos,rfl,h2⟩:=Ae h1;obtain ⟨φ,ψ,rfl,v,u⟩:=E6 z;exact k _ _ _ _ _ _ h2 v u
 .cases h
def oP (o:Option Zq) (φ:FE):Sd->R (Option Int):=match o with
 | none=>eG
 | some _=>bS φ
def U3 (g:D->Option Int->Option Int->R D):Fm:=fun _ _ _ e=>match e with
 | .Subscript a (.Slice lo hi ξ _) _=>θ (a::(lo.toList++hi.toList),fun l=>oJ g (g0 l) (oP lo (g1 l)) (oP hi (if lo.isSome=ζ then g2 l else g1 l)))
 | _=>ξ
theorem FJ (hr:x6 X r) (z:Ve W r g):fg X W (U3 g):=fun O e es b I h C=>by
 unfold U3 at h;split at h
 .rename_i a lo hi _ _;cases h;cases lo with
  | none=>cases hi with
   | none=>obtain ⟨φ,rfl,h1⟩:=xN C;exact pC hr z h1 pA pA
   | some u=>obtain ⟨φ,ψ,rfl,h1,h2⟩:=E6 C;exact pC hr z h1 pA (pN h2)
  | some v=>cases hi with
   | none=>obtain ⟨φ,ψ,rfl,h1,h2⟩:=E6 C;exact pC hr z h1 (pN h2) pA
   | some u=>obtain ⟨φ,ψ,χ,rfl,h1,h2,J⟩:=X8 C;exact pC hr z h1 (pN h2) (pN J)
 .cases h
def Tp:Fm:=fun _ _ _ e=>match e with
 | .Tuple es _ _=>if es.all aM=ζ then θ (es,fun l=>bt (aL l)) else ξ
 | _=>ξ
def KK:Fm:=fun _ _ _ e=>match e with
 | .List es _=>if es.all aM=ζ then θ (es,fun l=>bP (aL l)) else ξ
 | _=>ξ
def AR:vn X W KK:=fun O e es b g h r=>by
 unfold KK at h;split at h
 .split at h
  .rename_i hq;cases h;exact Ty (uP r hq)
  .cases h
 .cases h
def Fg (c f:Str):Fm:=fun _ _ _ e=>match e with
 | .Attribute a g _=>if g=f/\HX a=ζ then θ ([a],fun l=>oX c f (g0 l)) else ξ
 | _=>ξ
theorem vH (hn:Y1 X.K YQ c=θ (θ (.ref C))) (v:Cls X.K C) (r:eN X.K C f) (hW:W.K=X.K):fg X W (Fg c f):=fun O e es b g h u=>by
 unfold Fg at h;split at h
 .split at h
  .rename_i hq;cases h;obtain ⟨φ,rfl,h1⟩:=xN u;rw [hq.1];exact RD X.K hn v r h1 (ww hq.2 f _) rfl hW
  .cases h
 .cases h
def fB (x:Str) (F:ad8->R D):Fm:=fN x (fun n=>decide (0 < n)) fun l=>ai F (aL l)
theorem Ak {c:FA->FE} {t:ad0->FE->TE} (k:∀ O a es p pos α,Gl X x->ad9 x->aM a=ζ->es.all aM=ζ->JA X (a::es) (rY W O α)->JE X (.Call (.Name x p) (a::es) [] pos) (t O (c α))) :
  ∀ O e es b g,fN x (fun n=>decide (0 < n)) (fun l=>c (aL l)) X.env.scope X.N O e=θ (es,b)->Js X W O es g->JE X e (t O (b g)):=fun O e es b g h v=>by
 obtain ⟨p,pos,rfl,h1,h2,z,rfl⟩:=Hg h;cases es with
 | nil=>grind
 | cons a r =>
  have u:=h2;rw [ZX,YR] at u;exact k _ _ _ _ _ _ (cK h1).1 (cK h1).2 u.1 u.2 (uP v h2)
theorem uM {id:String} (C:bD X (.builtin id) r) (v:oV W r F) (hm:X.mg x=ξ) (hv:YT x=θ (.builtin id)) (hn:x≠"__name__":=by decide):fg X W (fB x F) :=
 Ak fun O a es p pos α h1 h2 z g u=>Kx C v hm hv u h1 z g hn h2
theorem EN (C:bD X (.type T) r) (v:oV W r F) (hm:X.mg x=ξ) (hv:YT x=θ (.type T)) (hn:x≠"__name__":=by decide):fg X W (fB x F) :=
 Ak fun O a es p pos α h1 h2 z g u=>IT C v hm hv u h1 z g hn h2
theorem yp (C:bD X (.type T) r) (v:AG W r F) (hm:X.mg x=ξ) (hv:YT x=θ (.type T)) (hn:x≠"__name__":=by decide):vn X W (fB x F) :=
 Ak fun O a es p pos α h1 h2 z g u=>IR C v hm hv u h1 z g hn h2
theorem cy (hm:X.mg x=ξ) (hv:YT x=θ (.type n)) (hn:x≠"__name__":=by decide) (g:ad9 x:=by decide):Bj X W x (.ty n):=fun O p hg=>Vw hm hv hg hn g
theorem cg (hm:X.mg x=θ u) (r:aQ v u) (z:∀ H,cr W.K H d v) (g:ad9 x:=by decide):Bj X W x d:=fun O p hg=>Nh hm r z hg g
def Vv (op:UnaryOp) (g:D->R D):Fm:=fun _ _ _ e=>match e with
 | .UnaryOp o a _=>if o=op then θ ([a],fun l=>LQ g (g0 l)) else ξ
 | _=>ξ
theorem ND (v:Iy X (unaryOp op) r) (z:Yc W r g):fg X W (Vv op g):=fun O e es b u h C=>by
 unfold Vv at h;split at h
 .split at h
  .rename_i hq;subst hq;cases h;obtain ⟨φ,rfl,h1⟩:=xN C;exact V8 v z h1
  .cases h
 .cases h
def XO:Fm:=fun _ _ _ e=>match e with
 | .UnaryOp .Not a _=>θ ([a],fun l=>wg (g0 l))
 | .BoolOp _ [a] _=>θ ([a],g0)
 | .BoolOp .And (a::b::r) pos=>θ ([a,.BoolOp .And (b::r) pos],fun l=>fh (g0 l) (g1 l))
 | .BoolOp .Or (a::b::r) pos=>θ ([a,.BoolOp .Or (b::r) pos],fun l=>Im (g0 l) (g1 l))
 | _=>ξ
def P5 (m:Str) (n:Nat) (c:List FE->FE):Fm:=fun _ _ _ e=>(cM e).bind fun q=>if q.2.1=m/\q.2.2.length=n/\HX q.1=ζ/\q.2.2.all aM=ζ then θ (q.1::q.2.2,c) else ξ
theorem z0 (h:P5 m n c sc N O e=θ (es,b)):∃ a r apos cpos,e=.Call (.Attribute a m apos) r [] cpos/\es=a::r/\b=c/\r.length=n/\HX a=ζ/\r.all aM=ζ/\(apos.endLine==cpos.line)=ζ:=by
 replace h:=dO.mp h
 obtain ⟨q,h1,h⟩:=h;split at h
 .rename_i hq;cases h;obtain ⟨apos,cpos,rfl,h2⟩:=wm h1;exact ⟨_,_,_,_,by rw [hq.1],rfl,rfl,hq.2.1,hq.2.2.1,hq.2.2.2,h2⟩
 .cases h
def X7 (m:Str) (n:Nat) (g:Str->ad8->R D):Fm:=P5 m n fun l=>Qd g (g0 l) (aL (l.drop 1))
theorem OI {id:String} (u:Slot "str" m id) (C:typeOf (.builtin id)=pure (.type "method_descriptor")) (hm:Uh X id r) (J:Wo W r g) (M:0 < n:=by decide) (I:n < 29:=by decide):fg X W (X7 m n g):=fun O e es b z h v=>by
 obtain ⟨a,r,apos,cpos,rfl,rfl,rfl,hn,hb,hs,L⟩:=z0 h;cases r with
 | nil=>simp_all
 | cons c r =>
  cases z with
  | nil=>exact v.elim
  | cons φ l=>exact VH u C hm J v.1 (uP v.2 hs) (ww hb _ _) L hs (by rw [hn];exact I)
theorem Gi (v:X.A.units+64 < aa3):fg X W (P5 "get" 1 fun l=>tG (g0 l) (g1 l)):=fun O e es b C h u=>by
 obtain ⟨a,r,apos,cpos,rfl,rfl,rfl,hn,hb,hs,z⟩:=z0 h
 match r,hn with
 | [c],_ =>
  obtain ⟨φ,ψ,rfl,h1,h2⟩:=E6 u;have hs  := by simpa using hs
  have g:YI [c] X.env=[(η,eval c X.env)]:=bw hs;exact J6 v h1 h2 (ww hb _ _) (by rw [g];rfl) z (by rw [g];rfl)
theorem Ii (z:X.A.units+64 < aa3):fg X W (P5 "get" 2 fun l=>sQ (g0 l) (g1 l) (g2 l)):=fun O e es b I h v=>by
 obtain ⟨a,r,apos,cpos,rfl,rfl,rfl,hn,hb,hs,C⟩:=z0 h
 match r,hn with
 | [c,d],_ =>
  obtain ⟨φ,ψ,χ,rfl,h1,h2,u⟩:=X8 v;have hs  := by simpa using hs
  have g:YI [c,d] X.env=[(η,eval c X.env),(η,eval d X.env)]:=(bw hs.1).trans (adZ _ (bw hs.2));exact K3 z h1 h2 u (ww hb _ _) (by rw [g];rfl) C (by rw [g];rfl)
def PQ (x:Str) (d:D):Fm:=fun g _ _ e=>(cM e).bind fun q=>match q.2.2 with
 | [a]=>if sq q.1=θ x/\q.2.1="index"/\Cs g x=ζ/\aM a=ζ then θ ([a],fun l=>yo d (aL l)) else ξ
 | _=>ξ
theorem Jw (hm:X.mg x=θ (.ref p)) (z:∀ H,cr W.K H d (.ref p)) (C:∃ ob,W.K.lookup p=θ ob/\ob.cls=.type "tuple"/\ob.dict=ξ) (v:X.K=W.K):fg X W (PQ x d):=fun O e es b I h u=>by
 replace h:=dO.mp h
 obtain ⟨⟨o,m,r⟩,h1,h⟩:=h;obtain ⟨apos,cpos,rfl,g⟩:=wm h1;dsimp only at h;split at h
 .split at h
  .rename_i hq;cases h;let ⟨h2,h3,h4,h5⟩:=hq
   obtain ⟨_,rfl⟩:=wA h2;rw [h3];exact Ek hm z C (uP u (by grind)) v (cK h4).1 (cK h4).2 rfl g (by grind) (Nat.le_add_left 2 27)
  .cases h
 .cases h
def U2 (x y:Str) (F:ad8->R D):Fm:=fun g _ _ e=>(cN e).bind fun q=>match q.2 with
 | [d]=>(cN d).bind fun r=>match r.2 with
  | [a]=>if q.1=x/\r.1=y/\Cs g x=ζ/\Cs g y=ζ/\aM a=ζ then θ ([a],fun l=>ai F (aL l)) else ξ
  | _=>ξ
 | _=>ξ
theorem Ex {t:ad0->FE->TE} (k:∀ O a p1 p2 q1 q2 α,Gl X x->Gl X y->aM a=ζ->JA X [a] (rY W O α)->JE X (.Call (.Name x p1) [.Call (.Name y p2) [a] [] q1] [] q2) (t O (ai F α))) :
  ∀ O e es b g,U2 x y F X.env.scope X.N O e=θ (es,b)->Js X W O es g->JE X e (t O (b g)):=fun O e es b g h v=>by
 replace h:=dO.mp h
 obtain ⟨⟨f,r⟩,h1,h⟩:=h;obtain ⟨p,pos,rfl⟩:=xt h1;dsimp only at h;split at h
 .let ⟨⟨f2,r2⟩,h2,h⟩:=dO.mp h
  obtain ⟨p2,u,rfl⟩:=xt h2;dsimp only at h;split at h
  .split at h
   .rename_i hq;cases h;let ⟨h1,h2,h3,h4,h5⟩:=hq
    rw [h1,h2];exact k _ _ _ _ _ _ _ (cK h3).1 (cK h4).1 h5 (uP v (by grind))
   .cases h
  .cases h
 .cases h
def XV (n:Str) (ns:ad1):Fm:=fN n (fun n=>decide (0 < n)) fun l=>Qa n ns (aL l)
theorem Pu {K:aT} (hn:Y1 K YQ n=θ (θ (.ref C))) (hm:mg n=θ (.ref C)) (M:Mk K C g) (G:FnOk P w K mg base l8 j g fd ps (yL C ns)) (z:gi K fd ps []):oI P w K mg base (j+1,XV n ns):=fun Y k ⟨e1,e2,e3,e4,e5,hr,_⟩ hj=>by
 subst e1 e2 e3 e4 e5;exact Ak fun O a es p pos α h1 h2 v r u=>xp (N6 hn hm M G z hr u hj h1 h2 v r rfl)
def Ac:Fm:=fun _ _ _ e=>match e with
 | .Dict [] [] _=>θ ([],fun _=>vC (.dct []))
 | _=>ξ
def wn:vn X W Ac:=fun O e es b g h r=>by
 unfold Ac at h;split at h
 .cases h;exact IL
 .cases h
def WB (f:Fm):Fm:=fun g N O e=>(f g N O e).map fun q=>(q.1,fun l=>Gx (q.2 l))
theorem Hi (r:vn X W f):fg X W (WB f):=fun O e es b g h u=>by
 obtain ⟨q,h1,h2⟩:=iF.mp h;cases h2;exact Ol (r O e q.1 q.2 g h1 u)
noncomputable def Vf:List (Option Zq)->Option (ad1)
 | []=>θ []
 | some (.Constant (.str x) _ _)::r=>(Vf r).map (x::·)
 | _=>ξ
def Mn:Fm:=fun _ _ _ e=>match e with
 | .Dict ks vs _=>(Vf ks).bind fun xs=>if xs.length=vs.length/\0 < vs.length/\vs.length<=15 then θ (vs,fun l=>ue (xs.zip l)) else ξ
 | _=>ξ
theorem FD {pos:Pos} {O:ad0}:∀ {ks:List (Option Zq)} {xs:ad1} {vs:List Zq} {l:List FE},Vf ks=θ xs->xs.length=vs.length->Js X W O vs l->PB X W O pos ks vs (xs.zip l)/\ks.all (·.isSome)=ζ/\ks.length=vs.length/\(xs.zip l).length=vs.length
 | [],xs,vs,l,h,hl,hJ=>by
  cases h
  match vs,hl,l,hJ with
  | [],_,[],_=>exact ⟨(K1),rfl,rfl,rfl⟩
 | k::r,xs,vs,l,h,hl,hJ=>by
  unfold Vf at h;split at h
  .simp_all
  .rename_i y _ _ r' e;cases e;obtain ⟨ys,h1,rfl⟩:=iF.mp h
   match vs,hl,l,hJ with
   | v::vs,hl,φ::l,hJ =>
    obtain ⟨a,b,c,d⟩:=FD h1 (by simpa using hl) hJ.2;exact ⟨(Gb wN.out hJ.1.out a),by grind,by grind,by grind⟩
  .cases h
def Yr (x:Str) (tab:List (Str×D)):Fm:=fun g _ _ e=>(cS e).bind fun q=>if sq q.1=θ x/\Cs g x=ζ then θ ([q.2],fun l=>LQ (U8 tab) (g0 l)) else ξ
theorem M5 (hm:X.mg x=θ (.ref a)) (z:X.K.lookup a=θ ⟨.type "dict",ξ,.dict es n,#[]⟩) (I:abr X.w.params es.toList)
  (hv:∀ y d,tab.lookup y=θ d->∃ v u,Y1 X.K a y=θ (θ u)/\aQ v u/\∀ H,cr W.K H d v):fg X W (Yr x tab):=fun O e es b C h r=>by
 replace h:=dO.mp h
 obtain ⟨⟨o,i⟩,h1,h⟩:=h;obtain ⟨pos,rfl,h2⟩:=Ae h1;split at h
 .rename_i hq;cases h;obtain ⟨_,rfl⟩:=wA hq.1;obtain ⟨φ,rfl,g⟩:=xN r;exact Kz tab hm z I hv g (cK hq.2).1 (cK hq.2).2 (MA h2)
 .cases h
def VJ (x:Str) (ks:ad1):Fq:=fun g _ _ e=>(cC e).bind fun q=>if sq q.2.2=θ x/\q.2.1=.NotIn/\Cs g x=ζ then θ ([q.1],fun l=>aX (ao (K5 ks x) (g0 l) (vC (.cls x)))) else ξ
def N8 (K:aT) (mg:ad4) (q:Str×D):Prop:=∃ v u,mg q.1=θ u/\aQ v u/\(∀ H,cr K H q.2 v)/\∀ p,u=.ref p->∃ ob,K.lookup p=θ ob/\ob.cls=.type "tuple"/\ob.dict=ξ
theorem Ei (h:N8 X.K X.mg (x,d)) (e:d=.tup ds) (z:W.K=X.K):fg X W (PQ x d):=by
 obtain ⟨v,u,h1,h2,g,r⟩:=h;rw [<- z] at g r;obtain ⟨a,xs,rfl,_⟩:∃ a xs,v=.ref a/\gU W.K (fun _=>ξ) a xs:=by
  have:=g fun _=>ξ
  rw [e] at this;let ⟨a,xs,e1,e2,_⟩:=this
  exact ⟨a,xs,e1,e2⟩
 subst h2;exact Jw h1 g (r a rfl) z.symm
def owB (g:Scope) (N:ad1) (O:ad0) (x:Str):Option Nat:=(P8 N x).bind fun i=>if i∈O/\U9 g x=ζ then θ i else ξ
def oN (g:Scope) (N:ad1) (O:ad0) (e:Zq):Option Nat:=(sq e).bind (owB g N O)
theorem uc (h:oN sc N O e=θ i):∃ x p,e=.Name x p/\N[i]?=θ x/\i∈O/\sd sc x/\ad9 x/\(x==("__classdict__":Str))=η:=by
 replace h:=dO.mp h
 obtain ⟨x,h1,h⟩:=h;obtain ⟨p,rfl⟩:=wA h1;exact ⟨x,p,rfl,(by
   replace h:=dO.mp h
   obtain ⟨j,h1,h⟩:=h;split at h
   .rename_i hq;cases h;exact ⟨j4 h1,hq.1,Gn hq.2⟩
   .cases h)⟩
def RH:Fm:=fun g N O e=>(cS e).bind fun q=>(oN g N O q.1).map fun i=>([q.2],fun l=>ao aV (ae i) (g0 l))
theorem JF (J:W.K=X.K):fg X W RH:=fun O e es b L h I=>by
 replace h:=dO.mp h
 obtain ⟨⟨u,v⟩,h1,h⟩:=h;obtain ⟨pos,rfl,h2⟩:=Ae h1
 replace h:=iF.mp h
 let ⟨i,h3,h⟩:=h
 cases h;obtain ⟨x,p,rfl,z,Y,C,r,M⟩:=uc h3;obtain ⟨φ,rfl,g⟩:=xN I;exact Ub X.K Y g z (xw h2) C r M rfl J
def Uo (f:Str) (F:ad8->R D):Fm:=fun g N O e=>(cN e).bind fun q=>match q.2 with
 | [a]=>if q.1=f/\Cs g f=ζ then (oN g N O a).map fun i=>([],fun l=>ai F (aa (ae i) aj)) else ξ
 | _=>ξ
theorem HW (k:∀ O i x p1 p2 pos,Gl X f->X.N[i]?=θ x->i∈O->sd X.env.scope x->ad9 x->(x==("__classdict__":Str))=η->JE X (.Call (.Name f p2) [.Name x p1] [] pos) (tD W O (ai F (aa (ae i) aj)))):fg X W (Uo f F):=fun O e es b C h L=>by
 replace h:=dO.mp h
 obtain ⟨⟨g,r⟩,h1,h⟩:=h;obtain ⟨p,pos,rfl⟩:=xt h1;dsimp only at h;split at h
 .split at h
  .rename_i hq
   replace h:=iF.mp h
   let ⟨i,h3,h⟩:=h
   cases h;obtain ⟨x,p,rfl,v,J,z,u,I⟩:=uc h3;rw [hq.1];exact k _ _ _ _ _ _ (cK hq.2).1 v J z u I
  .cases h
 .cases h
theorem Et (hm:X.mg "len"=ξ) (v:W.K=X.K):fg X W (Uo "len" ce):=HW fun O i x p1 p2 pos hg h1 h2 u g r=>Pa X.K h2 hm h1 hg u g r rfl v
theorem En (hm:X.mg "tuple"=ξ) (v:W.K=X.K):fg X W (Uo "tuple" gQ):=HW fun O i x p1 p2 pos hg h1 h2 u g r=>OS X.K h2 hm h1 hg u g r rfl v
def OB (op:CmpOp) (f:Bool->Bool):Fq:=fun g N O e=>(cC e).bind fun q=>if q.2.1=op then (oN g N O q.1).map fun i=>([q.2.2],fun l=>aX (ao (fun a b=>dD (j1 a b) f) (ae i) (g0 l))) else ξ
theorem BB (g:dh X (YX op) (sI X.K f)) (L:W.K=X.K):Ow X W (OB op f):=fun O e es b M h J=>by
 replace h:=dO.mp h
 obtain ⟨⟨u,o,v⟩,h1,h⟩:=h;obtain ⟨pos,rfl,h2⟩:=EL h1;split at h
 .rename_i hq
  replace h:=iF.mp h
  let ⟨i,h3,h⟩:=h
  cases h;obtain ⟨x,p,rfl,C,Z,I,z,Y⟩:=uc h3;obtain ⟨φ,rfl,r⟩:=xN J;rw [hq];exact IA X.K f Z g r (u7 h2 _) C I z Y L
 .cases h
def Eh:Zq->Bool
 | .Tuple ..=>ζ
 | _=>η
theorem pI (h:Eh g=ζ):∃ es k p,g=.Tuple es k p:=by
 cases g <;> first|grind|cases h
def fI (x:Str) (n:Nat) (t:Bool) (c:FA->FA):Fi:=fun r _ _ g e=>(cN e).bind fun q=>if q.1=x/\q.2.length=n/\Cs r x=ζ/\q.2.all aM=ζ/\(t=ζ->Eh g=ζ) then θ (q.2,fun l=>c (aL l)) else ξ
theorem El (k:∀ O g es p pos α,es.length=n->Gl X x->es.all aM=ζ->(t=ζ->Eh g=ζ)->JA X es (rY W O α)->JI X g (.Call (.Name x p) es [] pos) (iD W O (c α))):Ih X W (fI x n t c):=fun O g e es b r h v=>by
 replace h:=dO.mp h
 obtain ⟨q,u,h⟩:=h;obtain ⟨p,pos,rfl⟩:=xt u;split at h
 .rename_i hq;cases h;let ⟨h1,h2,h3,h4,h5⟩:=hq
  rw [h1];exact k _ _ _ _ _ _ h2 (cK h3).1 h4 h5 (uP v h4)
 .cases h
theorem HV (hm:X.mg "enumerate"=ξ) (u:W.K=X.K):Ih X W (fI "enumerate" 1 ζ cq):=El fun O g es p pos α hn hg hs ht r=>by
 obtain ⟨_,_,_,rfl⟩:=pI (ht rfl)
 match es,hn with
 | [a],_=>exact uV hm r hg (by simpa using hs) u
theorem JJ (hm:X.mg "zip"=ξ) (u:W.K=X.K):Ih X W (fI "zip" 2 ζ DX):=El fun O g es p pos α hn hg hs ht r=>by
 obtain ⟨_,_,_,rfl⟩:=pI (ht rfl)
 match es,hn with
 | [a,b],_ =>
  have hs  := by simpa using hs
  exact M8 hm r hg hs.1 hs.2 u
def LL (d:ad1):Fi:=fun _ _ _ _ e=>if xV d e=ζ then θ ([e],fun l=>rN (g0 l)) else ξ
def FV:Fi:=fun _ _ _ g e=>(cM e).bind fun q=>if q.2.1="items"/\q.2.2.isEmpty=ζ/\HX q.1=ζ/\Eh g=ζ then θ ([q.1],fun l=>pY (g0 l)) else ξ
def Ct:Ih X W FV:=fun O g e es b C h z=>by
 replace h:=dO.mp h
 obtain ⟨⟨o,m,r⟩,h1,h⟩:=h;obtain ⟨apos,cpos,rfl,u⟩:=wm h1;split at h
 .rename_i hq;cases h;let ⟨h2,h3,h4,h5⟩:=hq
  obtain ⟨_,_,_,rfl⟩:=pI h5;obtain ⟨φ,rfl,v⟩:=xN z;cases r with
  | cons _ _=>cases h3
  | nil =>
   rw [h2];exact F9 v (ww h4 _ _) u
 .cases h
def UL (m:Str) (c:Nat->FE->FS):Fs:=fun g N O s=>(xE s).bind fun e=>(cM e).bind fun q=>match q.2.2 with
 | [a]=>if q.2.1=m/\aM a=ζ then (oN g N O q.1).map fun i=>([a],fun l=>c i (g0 l)) else ξ
 | _=>ξ
theorem y9 (k:∀ Ob O i x e p1 apos cpos pos φ,X.N[i]?=θ x->i∈O->sd X.env.scope x->ad9 x->(x==("__classdict__":Str))=η->aM e=ζ->(apos.endLine==cpos.line)=ζ->JE X e (tD W O φ)->JS X (.Expr (.Call (.Attribute (.Name x p1) m apos) [e] [] cpos) pos) (sD W Ob O O (c i φ))):Kn X W (UL m c):=fun Ob O s es b J h I=>by
 replace h:=dO.mp h
 obtain ⟨e,g,h⟩:=h;obtain ⟨_,rfl⟩:=Mx g
 replace h:=dO.mp h
 obtain ⟨⟨o,f,r⟩,h1,h⟩:=h;obtain ⟨apos,cpos,rfl,h2⟩:=wm h1;dsimp only at h;split at h
 .split at h
  .rename_i hq
   replace h:=iF.mp h
   let ⟨i,h3,h⟩:=h
   cases h;obtain ⟨x,p,rfl,v,M,C,u,L⟩:=uc h3;obtain ⟨φ,rfl,z⟩:=xN I;rw [hq.1];exact k _ _ _ _ _ _ _ _ _ _ v M C u L hq.2 h2 z
  .cases h
 .cases h
def Jr:Kn X W (UL "pop" rM):=y9 fun Ob O i x e p1 apos cpos pos φ h1 h2 u v z g I C=>by
 have r:YI [e] X.env=[(η,eval e X.env)]:=bw g;exact Jm h2 C h1 g I u v z rfl rfl (by rw [r];rfl) (by rw [r];rfl)
def W0:Fs:=fun g N O s=>(aS s).bind fun q=>(cS q.1).bind fun r=>if DA q.2=ζ then ξ else (oN g N O r.1).map fun i=>([r.2,q.2],fun l=>lf i (g0 l) (g1 l))
def UQ:Fs:=fun g N O s=>match s with
 | .AugAssign (.Name x _) .Add e _=>(P8 N x).bind fun i=>if i∉O/\N.Nodup/\g.names.lookup x=θ .local then θ ([e],fun l=>mW i (g0 l)) else ξ
 | _=>ξ
def VN:Zq->Bool
 | .Call ..=>ζ
 | _=>η
def Wj:Fs:=fun r N O s=>(aS s).bind fun q=>if VN q.2=ζ/\Eh q.1=ζ/\N.Nodup then (uu N O r (fun _=>η) q.1).map fun g=>([q.2],fun l=>Dw (cO g) (g0 l)) else ξ
def BM:Fs:=fun u N O s=>(aS s).bind fun q=>(cM q.2).bind fun r=>if r.2.1="pop"/\r.2.2.isEmpty=ζ/\(sq q.1).isSome=ζ/\N.Nodup then (uu N O u (fun _=>η) q.1).bind fun g=>(oN u N O r.1).map fun i=>([],fun l=>jc i (cO g)) else ξ
theorem yY (u:W.K=X.K) (M:X.calm=ζ):Kn X W BM:=fun Ob O s es b Y h hJ=>by
 replace h:=dO.mp h
 obtain ⟨⟨t,e⟩,v,h⟩:=h;obtain ⟨_,rfl⟩:=FO v
 replace h:=dO.mp h
 obtain ⟨⟨o,m,r⟩,h1,h⟩:=h;obtain ⟨apos,cpos,J,h2⟩:=wm h1;subst J;split at h
 .rename_i hq
  replace h:=dO.mp h
  obtain ⟨g,z,h⟩:=h
  replace h:=iF.mp h
  let ⟨i,h4,h⟩:=h
  cases h;let ⟨h5,h6,h7,h8⟩:=hq
  obtain ⟨x,p,rfl,I,a2,L,C,Z⟩:=uc h4;let ⟨y,hy⟩:=acg.mp h7
  obtain ⟨_,rfl⟩:=wA hy;cases r with
  | cons _ _=>cases h6
  | nil =>
   rw [h5];exact Cw (hW:=u) a2 (Eg (pO u M h8 (nq z))) I h2 L C Z rfl
 .cases h
def To:Fs:=fun _ _ _ s=>(xE s).bind fun e=>if DA e=ζ then ξ else θ ([e],fun l=>wC (g0 l))
end
theorem Fk (its:ad6):slicePick its.toArray ξ ξ (θ (-1))=its.reverse.toArray:=by
 unfold slicePick;have hb:abB ξ ξ (θ (-1)) its.toArray.size=((its.length:Int) - 1,-1,-1):=by simp [abB]
 rw [hb];congr 1;have hr:sliceRange ((its.length:Int) - 1) (-1) (-1)=(YV its.length).map fun k=>its.length - 1 - k:=by
  unfold sliceRange;have v:(if (-1:Int) > 0 then (if (its.length:Int) - 1 < -1 then (-1 - ((its.length:Int) - 1)+-1 - 1)/(-1) else 0) else (if (its.length:Int) - 1 > -1 then ((its.length:Int) - 1 - -1 - -1 - 1)/(- -1) else 0)).toNat=its.length:=by
   rw [adV (by decide),show (- -1:Int)=1 from rfl,Int.ediv_one];split <;> lia
  simp only [v];apply ZV
  intro k g
  have:=Y8.mp g
  lia
 rw [hr];have key:∀ n,n<=its.length->((YV n).map fun k=>its.length - 1 - k).filterMap (its.toArray[·]?)=its.reverse.take n:=by
  intro n;induction n with
  | zero=>intro _;rfl
  | succ n u =>
   intro hn;have r:n < its.reverse.length:=by rw [ac7];lia
   rw [List.range_succ,YK,List.filterMap_append,u (by lia),Zb r];congr 1
   have:its[its.length - 1 - n]?=θ its.reverse[n]:=by
    rw [List.getElem_reverse];exact lE (by lia)
   simp [this]
 rw [key its.length (oR _),ZD (by simp)]
section
variable {X:Cx} {W:Wd} {O:ad0} {e st:Zq} {p2 pos:Pos} {te ts:TE} {φ ψ:FE}
def WJ (K:aT) (te ts:TE):TE:=fun σ H Q=>te σ H fun x H1=>ts σ H1 fun y g=>∃ a xs,x=.ref a/\eV K g a xs/\y=.int (-1)/\∀ p,g p=ξ->Q (.ref p) (upd g p (.lst xs.reverse))
theorem OU (C:PE X e te) (hs:PE X st ts):PE X (.Subscript e (.Slice ξ ξ (θ st) p2) pos) (WJ X.K te ts):=by
 intro g s σ H Q I h;refine Subscript_ (bV (C g s σ H _ I h) fun v M L=>jC L fun x H1 Y r1 q1=>?_);refine wpAny_Slice ?_;refine nE ?_;refine nE ?_;refine bV (hs g M σ H1 _ Y q1) fun y s2 ⟨y',H2,I2,r2,q2⟩=>?_;obtain ⟨a,xs,rfl,J,rfl,q⟩:=q2;cases r1;obtain ⟨t2,rfl⟩:=r2;have u:Inv X g σ H2 { s2 with heap:=s2.heap.push { cls:=.type "slice",data:=.fields #[.none,.none,.int (-1) t2] } }:=I2.kept fun b ob q=>eQ _ q;let ⟨its,r,ht,hz⟩:=u.list J
 have z:=r.length;refine tail_any ht.isList.typeIs slot_list_getitem.lookup ?_ (by rfl);refine wpAny_getItem_list_slice ht.isList (adj ..) .none .none (.int (-1) t2) (by simp) ?_ (by simp_all);rw [Fk];exact ⟨.ref _,_,u.laid (o:=.lst xs.reverse) (fun b ob q=>eQ _ q) (oR _) ⟨by simp_all,_,0,r.reverse,BY _ rfl⟩,rfl,q _ (u.hok.fresh (oR _))⟩
noncomputable def UU (a b:D):R D:=match a,b with
 | .lst xs,.int k=>if k=-1 then .ok (.lst xs.reverse) else .no
 | _,_=>.no
theorem aH.rev {K:aT} (h:aH K H ds xs):aH K H ds.reverse xs.reverse:=by
 induction ds generalizing xs with
 | nil=>cases h;exact rfl
 | cons d ds g =>
  obtain ⟨v,vs,rfl,h1,h2⟩:=h;rw [aaY,aaY];exact (g h2).append ⟨v,[],rfl,h1,rfl⟩
theorem Qx (Y:W.K=X.K) (J:JE X e (tD W O φ)) (hs:JE X st (tD W O ψ)):JE X (.Subscript e (.Slice ξ ξ (θ st) p2) pos) (tD W O (ao UU φ ψ)) :=
 (JE.mk (OU J.out hs.out)).imp fun σ H Q M=>cJ M fun as0 B own U I h=>⟨as0,B,own,U,I,a7 h fun x v H1 z L h1=>⟨as0,B,own,U,I.mono z,a7 h1 fun y u Z r C h2=>by
  unfold UU at h2;split at h2
  .split at h2
   .rename_i hk;cases C;obtain ⟨p,vs,rfl,q1,q2⟩:=L.mono (aG r);refine ⟨p,vs,rfl,Y ▸ (ar _ _).seq q1,by rw [hk],fun p g=>h2 _ _ (aI g _) ⟨p,_,rfl,.inl (.inl (by rw [aD (((I.mono z).mono r).new g)];exact aE)),q2.rev.mono (aG (aI g _))⟩⟩
   .exact h2.elim
  .exact h2.elim⟩⟩
end
def QJ:Fm:=fun _ _ _ e=>match e with
 | .Subscript a (.Slice ξ ξ (θ st) _) _=>θ ([a,st],fun l=>ao UU (g0 l) (g1 l))
 | _=>ξ
end L2
namespace LU
open PySem PyProof.Rows PySem.SeqAt
open PySem.AutoSeq1 (wpAny_loadPart')
open PySem.MeetsSeq PySem.MeetsSeq2 PySem.MeetsSeq3
inductive Or where
 | lt|le|gt|ge
def Or.op:Or->CmpOp
 | .lt=>.Lt
 | .le=>.LtE
 | .gt=>.Gt
 | .ge=>.GtE
def Or.bu:Or->Builtin
 | .lt=>Builtin.«tuple.__lt__»
 | .le=>Builtin.«tuple.__le__»
 | .gt=>Builtin.«tuple.__gt__»
 | .ge=>Builtin.«tuple.__ge__»
def Or.sz:Or->Nat->Nat->Bool
 | .lt,m,n=>decide (m < n)
 | .le,m,n=>decide (m<=n)
 | .gt,m,n=>decide (n < m)
 | .ge,m,n=>decide (n<=m)
def Or.i:Or->Int->Int->Bool
 | .lt,m,n=>decide (m < n)
 | .le,m,n=>decide (m<=n)
 | .gt,m,n=>decide (n < m)
 | .ge,m,n=>decide (n<=m)
noncomputable def Or.s:Or->ad0->ad0->Bool
 | .lt,x,y=>decide (x < y)
 | .le,x,y=>!decide (y < x)
 | .gt,x,y=>decide (y < x)
 | .ge,x,y=>!decide (x < y)
def qd (o:Or) (A:aaF) (s:IF) (y x:rW) (b:Bool):Prop :=
 ∀ (prog:Z9) (w:Zv) (E:ad3) (Q:ad3),Q (.bool b) s->YH (YN prog w) A (richCompare o.op y x) Q E s
inductive Lx (o:Or) (A:aaF) (s:IF):ad6->ad6->Bool->Prop
 | nn:Lx o A s [] [] (o.sz 0 0)
 | nc {y:rW} {ys:ad6}:Lx o A s [] (y::ys) (o.sz 0 1)
 | cn {x:rW} {xs:ad6}:Lx o A s (x::xs) [] (o.sz 1 0)
 | eq {x y:rW} {xs ys:ad6} {b:Bool} (h:EqAt A s x y ζ) (t:Lx o A s xs ys b):Lx o A s (x::xs) (y::ys) b
 | ne {x y:rW} {xs ys:ad6} {b:Bool} (h:EqAt A s x y η) (t:qd o A s x y b):Lx o A s (x::xs) (y::ys) b
theorem Or.sz_of (o:Or) (h1:m < n ↔ a < b) (h2:n < m ↔ b < a):o.sz a b=o.sz m n:=by
 cases o <;> (unfold Or.sz;grind)
theorem GN (o:Or) (l b:YS) (v u:Array rW) (n n2:Nat) (dd dd2:Option YS) (sl sl2:Array (Option rW)) (r:Bool) :
  Meets (o.bu ⟨[.ref l,.ref b],[]⟩)
   (fun A R s=>s.heap.get? l=θ { cls:=.type "tuple",dict:=dd,data:=.seq v n,slots:=sl }/\s.heap.get? b=θ { cls:=.type "tuple",dict:=dd2,data:=.seq u n2,slots:=sl2 } /\
    Lx o A.in1 s v.toList u.toList r/\R (.ok (.ret (.bool r))) s):=by
 refine .of_wp fun prog w A R s h=>?_;obtain ⟨Z,g,d,Y,os⟩:=s;obtain ⟨hl,hb,I,h⟩:=h;have f2:=AutoSeq1.sub_tuple_tuple;have key:∀ (vs ws:ad6),([]:List (rW×rW))=vs.zip ws->Lx o A.in1 ⟨Z,g,d,Y,os⟩ vs ws r->vs.length+u.size=ws.length+v.size->r=o.sz v.size u.size:=fun vs ws hz I z=>by
  cases I with
  | nn=>simp only [abo] at z;exact o.sz_of (by lia) (by lia)
  | nc=>simp only [abo,YU] at z;exact o.sz_of (by lia) (by lia)
  | cn=>simp only [abo,YU] at z;exact o.sz_of (by lia) (by lia)
  | eq L ht=>rw [aaR] at hz;cases hz
  | ne L ht=>rw [aaR] at hz;cases hz
 obtain ⟨P,M,C⟩:∃ P:ad6->ad6->Prop,(∀ vs ws,Lx o A.in1 ⟨Z,g,d,Y,os⟩ vs ws r->P vs ws)/\∀ vs ws,P vs ws->Lx o A.in1 ⟨Z,g,d,Y,os⟩ vs ws r:=⟨_,fun _ _ h=>h,fun _ _ h=>h⟩;cases o
 all_goals
  unfold Or.bu;dsimp only
  wp_walk using aag hl,aag hb,wpAny_forIn_list _ (fun rest b s'=>b.1=ξ/\s'=⟨Z,g,d,Y,os⟩/\∃ (vs ws:ad6) , rest=vs.zip ws /\
   P vs ws/\vs.length+u.size=ws.length+v.size) _
  case turn =>
   rintro ⟨y,x⟩ rest b s' ⟨hb',rfl,vs,ws,hz,I,z⟩;cases C _ _ I with
   | nn=>cases hz
   | nc=>cases hz
   | cn=>rw [List.zip_nil_right] at hz;cases hz
   | eq L ht =>
    rw [aaR] at hz;injection hz with hyx hrest
    injection hyx with hy hx2
    subst hy hx2;simp only [YU] at z;refine bY (L prog w _ _ ?_)
    wp_walk
    exact ⟨rfl,rfl,_,_,hrest,M _ _ ht,by lia⟩
   | ne L ht =>
    rw [aaR] at hz;injection hz with hyx hrest
    injection hyx with hy hx2
    subst hy hx2;refine bY (L prog w _ _ ?_);have J:=ht prog w;unfold Or.op at J;dsimp only at J
    wp_walk using J
    exact ⟨_,rfl,by simpa using h⟩
  case fin =>
   rintro ⟨b1,b2⟩ s' ⟨hb',rfl,vs,ws,hz,I,z⟩;simp only at hb';subst hb';have hv:=key vs ws hz (C _ _ I) z;unfold Or.sz at hv;dsimp only at hv;rw [hv] at h
   wp_walk
   exact ⟨_,rfl,by simpa [Builtin.Tuple.tupleCompareSizes] using h⟩
  case h =>
   exact ⟨rfl,rfl,v.toList,u.toList,rfl,M _ _ I,by simp;lia⟩
theorem qd.tup (hl:adx s.heap l items) (hb:adx s.heap b items2) (v:Lx o A.in1 s items.toList items2.toList r) (C:A.units < aa3):qd o A s (.ref l) (.ref b) r:=fun prog w E Q h=>by
 obtain ⟨⟨cls,dd,Y,sl⟩,u,hc,n,hd⟩:=id hl;obtain ⟨⟨Z,J,data2,L⟩,g,M,n2,I⟩:=id hb;subst hc hd M I;have m:=GN o l b items items2 n n2 dd J sl L r;have z:adS r≠Value.notImplemented/\Q (.bool r) s:=⟨(fun x=>nomatch x),h⟩
 cases o with
 | lt=>exact richCompare_meets_room ⟨_,u,rfl⟩ ⟨_,g,rfl⟩ PySem.F.slot_tuple_lt PySem.F.entry_tuple_lt (PySem.F.args_tuple_lt_2 _ _) m ⟨u,g,v,z⟩ C
 | le=>exact richCompare_meets_room ⟨_,u,rfl⟩ ⟨_,g,rfl⟩ PySem.F.slot_tuple_le PySem.F.entry_tuple_le (PySem.F.args_tuple_le_2 _ _) m ⟨u,g,v,z⟩ C
 | gt=>exact richCompare_meets_room ⟨_,u,rfl⟩ ⟨_,g,rfl⟩ PySem.F.slot_tuple_gt PySem.F.entry_tuple_gt (PySem.F.args_tuple_gt_2 _ _) m ⟨u,g,v,z⟩ C
 | ge=>exact richCompare_meets_room ⟨_,u,rfl⟩ ⟨_,g,rfl⟩ PySem.F.slot_tuple_ge PySem.F.entry_tuple_ge (PySem.F.args_tuple_ge_2 _ _) m ⟨u,g,v,z⟩ C
theorem qd.int (a:Int) (t:Tok) (c:Int) (u:Tok):qd o A s (.int a t) (.int c u) (o.i a c):=fun prog w E Q h=>by
 cases o with
 | lt=>exact (PyProof.Rows.lt_int h)
 | le=>exact (PyProof.Rows.le_int h)
 | gt=>exact (PyProof.Rows.gt_int h)
 | ge=>exact (PyProof.Rows.ge_int h)
theorem qd.str (a:Str) (t:Tok) (c:Str) (u:Tok):qd o A s (.str a t) (.str c u) (o.s a.cps.toList c.cps.toList):=fun prog w E Q h=>by
 cases o with
 | lt=>exact (PyProof.Rows.lt_str h)
 | le=>exact (PySem.P.le_str h)
 | gt=>exact (PySem.P.gt_str h)
 | ge=>exact (PySem.P.ge_str h)
mutual
def cpP (o:Or):ZO->ZO->Option Bool
 | .int i,.int j=>θ (o.i i j)
 | .str x,.str y=>θ (o.s x.cps.toList y.cps.toList)
 | .tuple xs,.tuple ys=>cpPs o xs ys
 | _,_=>ξ
def cpPs (o:Or):List ZO->List ZO->Option Bool
 | [],[]=>θ (o.sz 0 0)
 | [],_::_=>θ (o.sz 0 1)
 | _::_,[]=>θ (o.sz 1 0)
 | x::xs,y::ys=>if Z4 x y=ζ then cpPs o xs ys else cpP o x y
end
mutual
theorem qx (o:Or):∀ (p q:ZO) (A:aaF) (s:IF) (a b:rW) (as bs:ad5) (k:Bool),Reads s.heap a p as->Reads s.heap b q bs->p.canLay0=ζ->q.canLay0=ζ->cpP o p q=θ k->A.units+min p.depth q.depth < aa3->qd o A s a b k
 | .int i,q,A,s,_,_,_,_,k,ra,rb,ha,hb,e,hu=>by
  cases ra with
  | int x t =>
   cases rb with
   | int y u=>unfold cpP at e;cases e;exact qd.int _ _ _ _
   | _=>unfold cpP at e;cases e
 | .str i,q,A,s,_,_,_,_,k,ra,rb,ha,hb,e,hu=>by
  cases ra with
  | str x t =>
   cases rb with
   | str y u=>unfold cpP at e;cases e;exact qd.str _ _ _ _
   | _=>unfold cpP at e;cases e
 | .tuple xs,q,A,s,_,_,_,_,k,ra,rb,ha,hb,e,hu=>by
  cases ra with
  | @tuple l o vs n _ as₁ h1 h2 h3 h4 =>
   cases rb with
   | @tuple l' o' vs' n' ys bs₁ k1 k2 k3 k4 =>
    unfold cpP at e;exact qd.tup ⟨_,h1,h2,_,h3⟩ ⟨_,k1,k2,_,k3⟩ (rL _ xs ys A.in1 s _ _ _ _ k h4 k4 ha hb e (room_in hu)) (room_here hu)
   | _=>unfold cpP at e;cases e
 | .none,q,_,_,_,_,_,_,_,_,_,_,_,e,_=>by unfold cpP at e;cases e
 | .bool _,q,_,_,_,_,_,_,_,_,_,_,_,e,_=>by unfold cpP at e;cases e
 | .list _,q,_,_,_,_,_,_,_,_,_,_,_,e,_=>by unfold cpP at e;cases e
 | .dict _,q,_,_,_,_,_,_,_,_,_,_,_,e,_=>by unfold cpP at e;cases e
theorem rL (o:Or):∀ (xs ys:List ZO) (A:aaF) (s:IF) (vs ws:ad6) (as bs:ad5) (k:Bool),ReadsAll s.heap vs xs as->ReadsAll s.heap ws ys bs->Y0 xs=ζ->Y0 ys=ζ->cpPs o xs ys=θ k->A.units+min (Z1 xs) (Z1 ys) < aa3->Lx o A s vs ws k
 | [],ys,A,s,_,_,_,_,k,ra,rb,ha,hb,e,hu=>by
  cases ra;cases rb with
  | nil=>unfold cpPs at e;cases e;exact .nn
  | cons r z=>unfold cpPs at e;cases e;exact .nc
 | x::xs,[],A,s,_,_,_,_,k,ra,rb,ha,hb,e,hu=>by
  cases ra with
  | cons r z =>
   cases rb;unfold cpPs at e;cases e;exact .cn
 | x::xs,y::ys,A,s,_,_,_,_,k,ra,rb,ha,hb,e,hu=>by
  cases ra with
  | cons r z =>
   cases rb with
   | cons C v =>
    have u:x.canLay0=ζ/\Y0 xs=ζ:=by simpa [Y0] using ha
    have g:y.canLay0=ζ/\Y0 ys=ζ:=by simpa [Y0] using hb
    unfold cpPs at e;have q:=eqAt_reads x y A s _ _ _ _ r C u.1 g.1 (room_head hu);split at e
    .rename_i h;rw [h] at q;exact .eq q (rL o xs ys A s _ _ _ _ k z v u.2 g.2 e (room_tail hu))
    .rename_i h;rw [Bool.not_eq_true] at h;rw [h] at q;exact .ne q (qx o x y A s _ _ _ _ k r C u.1 g.1 e (room_head hu))
end
end LU
namespace L2
open PySem PySem.Spec PyProof.Rows
section
variable {X:Cx} {W:Wd} {o:LU.Or}
def SN (o:LU.Or) (a b:D):Option Bool:=match cI a,cI b with
 | some p,θ q=>if YM p=ζ/\YM q=ζ then LU.cpP o p q else ξ
 | _,_=>ξ
def XX (o:LU.Or) (K:aT):R2:=fun x y H Q=>∃ a b k,cr K H a x/\cr K H b y/\SN o a b=θ k/\Q (.bl k) H
theorem UZ (K:aT) (J:X.A.units+64 < aa3) (L:X.K=K:=by rfl):dh X (YX o.op) (XX o K):=by
 subst L;intro af s σ H x y v u Q I M Z h;obtain ⟨a,b,k,r,g,e,q⟩:=h;unfold SN at e;split at e
 .rename_i p p' h1 h2;split at e
  .rename_i hs;obtain ⟨as,Y⟩:=cu I r M h1;obtain ⟨bs,C⟩:=cu I g Z h2;have z:=LU.qx o p p' X.A s v u as bs k Y C (Zu hs.1) (Zu hs.2) e (SeqAt.room_of_shaped hs.1 J) X.prog X.w X.xe;cases o <;> exact z _ ⟨.bl k,H,I,rfl,q⟩
  .cases e
 .cases e
def DL (o:LU.Or) (a b:D):R D:=dD (SN o a b) fun k=>k
theorem UY (K:aT) (hW:W.K=K:=by rfl):n6 W (XX o K) (DL o):=by
 subst hW;intro as H x y a b Q hn g r h;unfold DL at h;cases e:SN o a b with
 | none=>rw [e] at h;exact h.elim
 | some k=>rw [e] at h;exact ⟨a,b,k,g.mono (ar _ _),r.mono (ar _ _),e,aK h rfl⟩
end
end L2
namespace KS
open PySem PySem.W PyProof.Rows
section
variable {α β:Type}
def zZ (f:Nat->Nat->Option Bool):KasT α->Option α
 | .ret a=>θ a
 | .ask i j k=>(f i j).bind fun b=>zZ f (k b)
theorem Gg (g:∀ i j b,f i j=θ b->∀ C:Bool->IF->Prop,C b s->EC i j C s):∀ (t:KasT α) (a:α),zZ f t=θ a->Q a s->t.kasWp EC Q s
 | .ret a,_,h,q=>by cases h;exact q
 | .ask i j k,a,h,q=>by
  let ⟨b,e,h⟩:=dO.mp h
  exact g i j b e _ (Gg g (k b) a h q)
def Al (n:Nat) (P:α->Prop):KasT α->Prop
 | .ret a=>P a
 | .ask i j k=>(i < n/\j < n)/\∀ b,Al n P (k b)
theorem EI:∀ {t:KasT α},Al n P t->zZ f t=θ a->P a
 | .ret _,h,e=>by cases e;exact h
 | .ask i j k,h,e=>by
  let ⟨b,_,e⟩:=dO.mp e
  exact EI (h.2 b) e
theorem Ar {n:Nat} {P:α->Prop} {f:Nat->Nat->Option Bool} (g:∀ i j,i < n->j < n->∃ b,f i j=θ b):∀ {t:KasT α},Al n P t->∃ a,zZ f t=θ a
 | .ret a,_=>⟨a,rfl⟩
 | .ask i j k,h=>by
  let ⟨b,e⟩:=g i j h.1.1 h.1.2
  let ⟨a,e2⟩:=Ar g (h.2 b)
  exact ⟨a,by unfold zZ;rw [e];exact e2⟩
theorem kj {Q:β->Prop} (hg:∀ a,P a->Al n Q (g a)):∀ {t:KasT α},Al n P t->Al n Q (t.bind g)
 | .ret a,h=>hg a h
 | .ask i j k,h=>⟨h.1,fun b=>kj hg (h.2 b)⟩
theorem lS {n:Nat} {P:α->Prop} {c:Prop} [Decidable c] {t u:KasT α} (h:Al n P t) (g:Al n P u):Al n P (if c then t else u):=by
 split
 .exact h
 .exact g
end
section
variable {R:Array Nat->Prop} (hg:∀ p i,R p->p.getD i 0 < m) (hr:∀ p i j,R p->R (kas_rev p i j)) (hb:∀ p k d,R p->R (bubble p k d))
include hg
theorem zp (h:R p):∀ f n,Al m (fun _=>True) (kas_asc p f n)
 | 0,_=>Y6
 | f+1,n=>⟨⟨hg _ _ h,hg _ _ h⟩,fun b=>lS Y6 (zp h f (n+1))⟩
include hr in
theorem pG:∀ f p n q,R p->Al m (fun r=>R r.1) (kas_desc f p n q)
 | 0,p,n,q,h=>h
 | f+1,p,n,q,h=>⟨⟨hg _ _ h,hg _ _ h⟩,fun b=>lS (lS (pG f _ _ _ (hr _ _ _ h)) (pG f _ _ _ h)) ⟨⟨hg _ _ h,hg _ _ h⟩,fun d=>lS h (pG f _ _ _ h)⟩⟩
include hr in
theorem Ax (n k:Nat) (h:R p):Al m (fun r=>R r.2) (kas_tail3 n k p):=by
 refine kj (fun _ _=>?_) (zp hg (hr _ _ _ h) _ _);exact hr p 0 n h
include hr in
theorem L7 (n k:Nat) (h:R p):Al m (fun r=>R r.2) (kas_descPart n k p):=by
 exact kj (fun r z=>lS (Ax hg hr _ _ (hr _ _ _ z)) (Ax hg hr _ _ z)) (pG hg hr _ p _ _ h)
include hr in
theorem EZ (k:Nat) (h:R p):Al m (fun r=>R r.2) (kas_count k p):=by
 refine kj (fun n _=>?_) (zp hg h _ _);split
 .exact h
 .split
  .refine ⟨⟨hg _ _ h,hg _ _ h⟩,fun b=>?_⟩;dsimp only;split
   .exact h
   .exact L7 hg hr _ _ (hr _ _ _ h)
  .exact L7 hg hr _ _ h
theorem qp (h:R p) (k:Nat):∀ f l r,Al m (fun _=>True) (kas_place p k f l r)
 | 0,_,_=>Y6
 | f+1,l,r=>lS Y6 ⟨⟨hg _ _ h,hg _ _ h⟩,fun _=>lS (qp h k f _ _) (qp h k f _ _)⟩
include hb in
theorem HH:∀ f p k,R p->Al m R (kas_bin f p k)
 | 0,p,k,h=>h
 | f+1,p,k,h=>kj (fun l _=>HH f _ _ (hb _ _ _ h)) (qp hg h _ _ _ _)
include hr hb in
theorem Kk (h:R (List.toArray (YV n))):Al m R (kas_sort n):=by
 exact kj (fun r z=>by split;exact HH hg hb _ _ _ z;exact z) (EZ hg hr _ h)
end
theorem FK (g:0 < n):Al n (fun p:Array Nat=>p.toList.Perm (YV n)) (kas_sort n):=Kk
 (fun p i h=>by
  rw [Array.getD_eq_getD_getElem?,<- aan];cases e:p.toList[i]? with
  | none=>exact g
  | some x=>exact Y8.mp (h.mem_iff.mp (YO e)))
 (fun p i j h=>(ab3.mp (mirror_perm _ _ _ _)).trans h) (fun p k d h=>(ab3.mp (bubble_perm _ _ _)).trans h) (by simp)
section
theorem wE (h2:2<=it.size) (z:it.size < 64) (I:∀ i j b,f i j=θ b->∀ C:Bool->IF->Prop,C b s->kas_cmp prog w A κ it i j C s) (v:zZ f (kas_sort it.size)=θ p)
  (h:∀ g,arrOf g=p.map (kas_item it)->failedOf g=ξ->p.size=it.size->Q () g s):kasC (YN prog w) A E sortRuns' Q (acT κ it #[] 7 ξ) s:=by
 have e:kas_st κ it (List.toArray (YV it.size))=acT κ it #[] 7 ξ:=by unfold kas_st;rw [kas_range]
 rw [<- e];exact kas_runs (G:=fun r u=>r=p/\u=s) h2 z (fun r g u h1 h3 h4 ⟨e1,e2⟩=>by simp_all) (Gg I _ _ v ⟨rfl,rfl⟩)
end
end KS
namespace KS
open PySem PySem.W PyProof.Rows PySem.SeqAt
def askP (ks:List ZO) (i j:Nat):Option Bool:=(ks[i]?).bind fun a=>(ks[j]?).bind fun b=>LU.cpP .lt a b
def gV (ks:List ZO):Option (ad0):=if ks.length < 2 then θ (YV ks.length) else (zZ (askP ks) (kas_sort ks.length)).map Array.toList
theorem dt (h:gV ks=θ p):p.Perm (YV ks.length):=by
 unfold gV at h;split at h
 .grind
 .obtain ⟨q,e,rfl⟩:=iF.mp h;exact EI (P:=fun p  => p.toList.Perm (YV ks.length)) (FK (by lia)) e
theorem xS (h:∀ a∈ks,∀ b∈ks,∃ r,LU.cpP .lt a b=θ r):∃ p,gV ks=θ p:=by
 unfold gV;split
 .grind
 .obtain ⟨p,e⟩:=Ar (f:=askP ks) (fun i j g u=>by
   let ⟨r,e⟩:=h _ (YG g) _ (YG u)
   exact ⟨r,by unfold askP;simp_all⟩) (FK (by lia))
  exact ⟨_,by rw [e];rfl⟩
def pkL {α:Type} (d:α) (p:ad0) (l:List α):List α:=p.map fun i=>l.getD i d
theorem yI (d:α) (l:List α):pkL d (YV l.length) l=l:=by
 refine adw fun k=>?_;unfold pkL;rcases abI k l.length with h|h
 .simp_all
 simp_all
section
variable {prog:Z9} {w:Zv} {A:aaF} {E:ad3} {s:IF}
theorem PX (h:LU.Lx .lt A s vs ws r):vs.length=ws.length->Q r s->∀ i,KatLex prog w A η η Q (vs.zip ws) i s:=by
 induction h with
 | nn=>exact fun _ q i=>kat_nil q
 | nc=>grind
 | cn=>simp_all
 | eq g _ u=>exact fun z q i=>kat_cons (g prog w _ _ (kat_yes (u (Nat.succ.inj z) q (i+1))))
 | ne g t=>exact fun z q i=>kat_cons (g prog w _ _ (kat_no (kat_one _ _ (t prog w _ _ ((q))))))
def isK:ZO->Bool
 | .tuple [.tuple _,_]=>ζ
 | _=>η
theorem vy (h:isK p=ζ):∃ x y,p=.tuple [.tuple x,y]:=by
 unfold isK at h;split at h
 .grind
 .cases h
theorem zu:∀ {xs:List ZO} {vs:ad6} {as:ad5},ReadsAll h vs xs as->vs.length=xs.length
 | [],_,_,r=>by cases r;rfl
 | x::xs,_,_,r=>by
  cases r with
  | cons _ g=>rw [YU,YU,zu g]
theorem J4 (ru:Reads s.heap u p as) (I:Reads s.heap v q bs) (J:isK p=ζ) (hq:isK q=ζ) (g:YM p=ζ) (L:YM q=ζ) (Y:A.units+64 < aa3) (e:LU.cpP .lt p q=θ r) (h:Q r s):YH (YN prog w) A (keyLt' (tuples' η) u v) Q (fun _ _=>False) s:=by
 obtain ⟨x,y,rfl⟩:=vy J;obtain ⟨M,Z,rfl⟩:=vy hq;cases ru with
 | @tuple l o vs n _ as₁ h1 h2 h3 h4 =>
  cases I with
  | @tuple l' o' vs' n' _ bs₁ k1 k2 k3 k4 =>
   have l1:=zu h4;have l2:=zu k4;have C:(PyData.tuple [.tuple x,y]).depth<=64:=by
    unfold YM at g;simp_all
   have z:=PX (prog:=prog) (w:=w) (LU.rL .lt _ _ A s _ _ _ _ r h4 k4 (Zu g) (Zu L) e (by
    have  := by
     rw [aaV] at C;omega
    omega)) (by rw [l1,l2];rfl) h 0
   refine kat_lt h1 h3 k1 k3 ?_
   grind
end
section
variable {prog:Z9} {w:Zv} {A:aaF} {E:ad3} {s:IF} {a kQq:YS} {ks vs:ad6}
def Fz (h:abh) (kQq a:YS) (out:ad6):abh:=(h.update kQq (Y2 fun _=>(#[]:Array rW))).update a (Y2 fun _=>out.toArray)
theorem Bi {st:SortSt} (z:s.heap.get? a=θ (Zt "list" #[] e1)) (v:s.heap.get? kQq=θ (Zt "list" ks.toArray e)) (r:a≠kQq)
  (g:(arrOf st).map (·.2)=out.toArray) (hz:out.length<=1000000) (C:ks.length<=1000000) (u:failedOf st=ξ) (h:P (.done (.ret .none)) { s with heap:=Fz s.heap kQq a out }):YH (YN prog w) A (ksk_tail a η e1 (.ref kQq) st) P E s:=by
 have na'  := ((aae s.heap kQq (Y2 fun _=>#[])).2 a r).trans z;unfold ksk_tail;rw [g];refine bY (aa1 v rfl ?_ (by rw [YC,Zd];lia) (YJ _));refine bY (wpAny_letGo ?_);refine bY (seqEpoch_at na' rfl ?_);refine bY (aa1 na' rfl ?_ (YJ _) (by simp only [Z5,if_false,YC,Zd];lia));rw [u];simp only [bne_self_eq_false,Z5,if_false];exact nE h
inductive RdK (h:abh):ad6->List ZO->Prop
 | nil:RdK h [] []
 | cons {u:rW} {p:ZO} {as:ad5} {us:ad6} {ps:List ZO} (r:Reads h u p as) (k:isK p=ζ) (l:YM p=ζ) (t:RdK h us ps):RdK h (u::us) (p::ps)
theorem RdK.len (r:RdK h us ps):us.length=ps.length:=by
 induction r with
 | nil=>rfl
 | cons _ _ _ _ g=>simp_all
theorem RdK.at (r:RdK h us ps):∀ {i:Nat} {p:ZO},ps[i]?=θ p->∃ as,Reads h (us.getD i .none) p as/\isK p=ζ/\YM p=ζ:=by
 induction r with
 | nil=>simp_all
 | @cons u q as us ps r k l t ih =>
  intro i p e;cases i with
  | zero=>cases e;exact ⟨as,r,k,l⟩
  | succ i=>exact ih e
theorem RdK.firsts (r:RdK h us ps):∃ fs,KatTups h us fs/\fs.length=us.length/\∀ v∈fs,∃ q o,v=aab q/\h.get? q=θ o/\o.cls=.type "tuple":=by
 induction r with
 | nil=>exact ⟨[],KatTups.nil,rfl,fun v hv=>nomatch hv⟩
 | @cons u p as us ps r k l t ih =>
  let ⟨fs,f1,f2,f3⟩:=ih
  obtain ⟨x,y,rfl⟩:=vy k;cases r with
  | @tuple l o vs n _ as₁ h1 h2 h3 h4 =>
   match e:vs.toList,h4 with
   | _,.cons r0 _ =>
    cases r0 with
    | @tuple l' o' vs' n' _ bs₁ k1 k2 k3 k4 =>
     refine ⟨.ref l'::fs,KatTups.cons h1 h2 h3 (by rw [<- aan,e];rfl) f1,by simp [f2],fun v hv=>?_⟩
     grind
theorem item_at (r:ks.length=vs.length) (g:i < vs.length):kas_item (ks.toArray.zip vs.toArray) i=(ks.getD i .none,vs.getD i .none):=by
 unfold kas_item;simp_all
theorem Nm (hu:A.units+64 < aa3) (J:ks.length=vs.length) (hz:vs.length<=63) (na:s.heap.get? a=θ (Zt "list" #[] e1)) (Z:s.heap.get? kQq=θ (Zt "list" ks.toArray e)) (z:a≠kQq)
  (L:RdK s.heap ks ps) (g:gV ps=θ p) (h:P (.done (.ret .none)) { s with heap:=Fz s.heap kQq a (pkL .none p vs) }):YH (YN prog w) A (ksk_end a η vs.toArray e1 (.ref kQq) ks.toArray) P E s:=by
 have I:=L.len;have Y:=dt g;have zl:(ks.toArray.zip vs.toArray).toList=ks.zip vs:=by simp
 have zs:(ks.toArray.zip vs.toArray).size=vs.length:=by rw [<- abd,zl,acO];lia
 unfold ksk_end;try dsimp only
 unfold gV at g;by_cases h2:vs.length < 2
 .have hn2:vs.toArray.size < 2:=by rw [YC];lia
  rw [adU (by lia)] at g;cases g;rw [adV By,adU hn2,adU hn2];refine bY (nE ?_);rw [adV By];refine bY (nE ?_);rw [<- I,J,yI] at h;refine Bi (st:=acT general' (ks.toArray.zip vs.toArray) #[] 7 ξ) (out:=vs) na Z z ?_ (by lia) (by lia) rfl h;show (ks.toArray.zip vs.toArray).map (·.2)=_;apply abR.mp
  rw [aaL,zl];exact List.map_snd_zip (by lia)
 .have hn2:¬ vs.toArray.size < 2:=by rw [YC];lia
  rw [adV (by lia)] at g;obtain ⟨q,eq,rfl⟩:=iF.mp g;let ⟨fs,f1,f2,f3⟩:=L.firsts
  rw [adV By,adV hn2,adV hn2];refine bY (kat_kind (T:=.type "tuple") f1 (by lia) (fun v hv=>?_) (by trivial) ?_)
  .obtain ⟨x,o,rfl,g1,g2⟩:=f3 v hv;exact g2 ▸ (Looks.ld g1).andThen .now
  rw [adV By];have ek:tuples' ((acb "tuple") != acb "tuple")=tuples' η:=by rfl
  rw [ek];rw [<- I,J,<- zs] at eq;refine bY (show YH _ _ _ _ _ _ from wE (Q:=fun _ u s'=>YH (YN prog w) A (ksk_tail a η e1 (aab kQq) u) P E s') (f:=askP ps) (by lia) (by lia) (fun i j b r C hC=>?_) eq fun u g1 g2 g3=>?_)
  .let ⟨x,ex,r⟩:=dO.mp r
   let ⟨y,ey,r⟩:=dO.mp r
   let ⟨as,r1,k1,l1⟩:=L.at ex
   let ⟨bs,r2,k2,l2⟩:=L.at ey
   have M:i < vs.length:=by have:=(K2.mp ex).1;lia
   have hj:j < vs.length:=by have:=(K2.mp ey).1;lia
   unfold kas_cmp;rw [item_at J M,item_at J hj];exact J4 r1 r2 k1 k2 l1 l2 hu r hC
  .refine Bi (out:=pkL .none q.toList vs) na Z z ?_ (by unfold pkL;rw [iN,Y.length_eq,Y7];lia) (by lia) g2 h;rw [g1];apply abR.mp
   rw [aaL,aaL,Y5];refine ZV fun i M=>?_
   have:=Y8.mp (Y.mem_iff.mp M)
   show (kas_item _ i).2=_;rw [item_at J (by lia)]
end
end KS
namespace L2
open PySem PySem.Spec PyProof.Rows
open KS (gV pkL)
def ic (F:ad8->R D) (d:D):D:=match F [d] with
 | .ok k=>k
 | _=>.non
def yu (F:ad8->R D):ad8->Option (List ZO)
 | []=>θ []
 | d::r=>match F [d] with
  | .ok k=>(cI k).bind fun p=>if KS.isK p=ζ/\YM p=ζ then (yu F r).map (p::·) else ξ
  | _=>ξ
def ox (F:ad8->R D) (ds:ad8):R D:=match ds with
 | [.lst xs]=>if xs.length<=63 then (match (yu F xs).bind gV with
  | some p=>.ok (.lst (pkL .non p xs))
  | none=>.no) else .no
 | _=>.no
theorem rK {F:ad8->R D} {d:D} {r:ad8} {l:List ZO} (h:yu F (d::r)=θ l):∃ k p ps,l=p::ps/\F [d]=.ok k/\cI k=θ p/\KS.isK p=ζ/\YM p=ζ/\yu F r=θ ps:=by
 unfold yu at h;split at h
 .let ⟨p,e2,h⟩:=dO.mp h
  split at h
  .obtain ⟨ps,g,rfl⟩:=iF.mp h
   grind
  .cases h
 .cases h
theorem Av:∀ {ds:ad8} {l:List ZO},yu F ds=θ l->∀ d∈ds,∃ k,F [d]=.ok k
 | [],_,_,d,h=>nomatch h
 | e::r,_,h,d,hd=>by
  obtain ⟨k,p,ps,rfl,h1,_,_,_,h2⟩:=rK h;rcases mK.mp hd with rfl|hd
  .exact ⟨k,h1⟩
  .exact Av h2 d hd
theorem kys_len:∀ {ds:ad8} {l:List ZO},yu F ds=θ l->l.length=ds.length
 | [],_,h=>by cases h;rfl
 | e::r,_,h=>by
  obtain ⟨k,p,ps,rfl,_,_,_,_,h2⟩:=rK h;rw [YU,YU,kys_len h2]
theorem vA (r:aU xs us):∀ {p:ad0},(∀ i∈p,i < xs.length)->aU (pkL (.int 0) p xs) (pkL .none p us)
 | [],_=>.nil
 | i::t,h=>by
  have e:=lE (h i (by simp));obtain ⟨u,v,ru⟩:=r.get e;refine .cons ?_ (vA r fun j g=>h j (lT _ g));simp_all
theorem vI {K:aT} (r:aH K H ds xs):∀ {p:ad0},(∀ i∈p,i < xs.length)->aH K H (pkL .non p ds) (pkL (.int 0) p xs)
 | [],_=>aH.nil
 | i::t,h=>by
  have e:=lE (h i (by simp));obtain ⟨u,v,ru⟩:=r.got e;refine aH.cons ?_ (vI r fun j g=>h j (lT _ g));simp_all
section
variable {σ:St}
theorem GD (G:FnOk X.prog X.w X.K X.mg X.base l8 k f fd ps sp) (hr:Room k X.A.in1.in1) (hb:gi X.K fd ps [])
  (I:Inv X af σ H s) (r:aU vs us) (h:sp vs H Q E0):YH (YN X.prog X.w) X.A.in1.in1 (call (.ref f) us) (EP X af σ Q) E s:=by
 have v:(us++[]).length=ps.length:=by rw [Y9,<- r.length];exact G.len _ _ _ _ h
 have b:=hb s us I.kIn v;rw [Y9] at b;refine wpAny_call (fM I.tk (abi (G.run X.A.in1.in1 X.stack s H ⟨us,[]⟩ us vs Q E0 hr I.env0.in1.in1 b r h) fun r C hq g=>?_));cases r with
 | error e=>exact ZT hq
 | ok z =>
  cases z with
  | ret u=>exact I.after hq
  | next=>exact ZT hq
  | brk=>exact ZT hq
  | cont=>exact ZT hq
def ny (kQq:YS) (H H':Hp):Prop:=∀ b o,b≠kQq->H b=θ o->H' b=θ o
theorem ny.masked (h:ny kQq H H'):aw (mask (kQq::as) H) (mask (kQq::as) H'):=fun b o e=>by
 by_cases hb:b∈kQq::as
 .rw [bT hb] at e;cases e
 .rw [aD hb] at e ⊢;exact h b o (fun z=>hb (z ▸ Zc)) e
def ny.upd:ny kQq H (upd H kQq o):=fun b u hb e=>by rw [aA hb];exact e
theorem ny.trans (h:ny kQq H H1) (g:ny kQq H1 H2):ny kQq H H2:=fun b o hb e=>g b o hb (h b o hb e)
def Sm (X:Cx) (u:ad2) (σ:St) (kQq:YS) (as:ad5) (H:Hp) (ks:ad8) (r:IF):Prop :=
 ∃ H' g,Inv X u σ H' r/\ny kQq H H'/\H' kQq=θ (.lst g)/\aH X.K (mask (kQq::as) H') ks g
theorem zt
  (G:FnOk X.prog X.w X.K X.mg X.base l8 k f fd ps (vV X.K mg F)) (hr:Room k X.A.in1.in1) (hb:gi X.K fd ps []) (I:Inv X af σ H s) (hk:H kQq=θ (.lst [])) (Z:∀ b∈as,H b≠ξ) (hks:kQq∉as)
  (r:aU xs us) (dn:aH X.K (mask (kQq::as) H) ds xs) (hl:yu F ds=θ l) (hz:ds.length<=63)
  (h:∀ H' g its n C,Inv X af σ H' C->ny kQq H H'->H' kQq=θ (.lst g)->aH X.K (mask (kQq::as) H') (ds.map (ic F)) g->aU g its->C.heap.get? kQq=θ (Zt "list" its.toArray n) ->
   YH (YN X.prog X.w) X.A.in1.in1 (ksk_end a η us.toArray e1 (.ref kQq) its.toArray) P E C) :
  YH (YN X.prog X.w) X.A.in1.in1 (ksk_rest a (.ref f) η us.toArray e1 (.ref kQq)) P E s:=by
 have J:ds.length=us.length:=dn.len.trans r.length;unfold ksk_rest;refine bY (aco ?_);rw [List.forIn_toArray];refine bY (ksk_fold (fun j C=>Sm X af σ kQq as H ((ds.map (ic F)).take j) C) us 0 s ⟨H,[],I,fun b o _ e=>e,hk,by rw [List.take_zero];exact aH.nil⟩ (fun j x C hx hI=>?_) fun C Y=>?_)
 .let ⟨H1,g,I1,b1,k1,d1⟩:=hI
  rw [abH] at d1 ⊢;have hj:j < us.length:=by
   have:=K2.mp hx
   exact this.1
  have L:j < xs.length:=by rw [r.length];exact hj
  let ⟨u,hu,ru⟩:=r.get (i:=j) (lE L)
  rw [hx] at hu;cases hu;let ⟨d,Y,dd⟩:=dn.got (i:=j) (lE L)
  let ⟨kk',q3⟩:=Av hl d (YO Y)
  have ekd:ic F d=kk':=by unfold ic;rw [q3]
  have hkl:g.length<=j:=by rw [<- d1.len,Zx];lia
  refine bY (abV (Zm (GD (us:=[x]) (vs:=[xs[j]]) (Q:=fun v M=>aw H1 M/\cr X.K (mask (kQq::as) M) (ic F d) v) (E:=fun _ _=>False) G hr hb I1 (.cons ru .nil) ⟨kQq::as,[d],fun b hb=>?_,aH.cons (dd.mono b1.masked) aH.nil,?_⟩) (fun u s2 hq=>?_) fun _ _ hF=>hF.elim))
  .rcases mK.mp hb with rfl|hb
   .rw [k1];simp
   .cases e:H b with
    | none=>exact absurd e (Z b hb)
    | some o=>rw [b1 b o (fun z=>hks (z ▸ hb)) e];simp
  .rw [q3];exact fun v H' s dv=>⟨s,by rw [ekd];exact dv⟩
  .let ⟨v,M,I2,rv,s12,dv⟩:=hq
   have k2:=s12 _ _ k1;let ⟨z2,its,n,ri,hil,e2⟩:=I2.lstM k2
   try dsimp only
   refine bY (aa1 e2 rfl ?_ (by rw [YC,<- hil,Zd];lia) (Le (adA (Array.size_push ..)) (by rw [YC,<- hil,Zd];lia)));refine nE ⟨rfl,?_⟩;have I3:=I2.lset (its':=its++[u]) (f:=(·.push u)) (t':=s2.toks) k2 e2 (by simp) (ri.append (.cons rv .nil)) (by rw [YE,aaW,Zd];lia) (by walk_at "tok");refine ⟨_,_,I3,(b1.trans fun b o _ e=>s12 b o e).trans ny.upd,aE,?_⟩;have e:(ds.map (ic F)).take (j+1)=(ds.map (ic F)).take j++[ic F d]:=by
    rw [List.take_add_one,Zk,Y];rfl
   rw [e];refine ((d1.mono (aG s12)).append (aH.cons dv aH.nil)).mono (ny.upd (kQq:=kQq) (H:=M)).masked
 .let ⟨H1,g,I1,b1,k1,d1⟩:=Y
  have e:(ds.map (ic F)).take (0+us.length)=ds.map (ic F):=by rw [abH];exact ZD (by rw [iN,J];exact oR _)
  rw [e] at d1;let ⟨z2,its,n,ri,hil,e2⟩:=I1.lstM k1
  refine bY (listItems_at e2 rfl ?_)
  grind
theorem Az (I:Inv X af σ H s) (hm:aw Hm H):∀ {ds:ad8} {g:ad7} {its:ad6} {l:List ZO},aH X.K Hm (ds.map (ic F)) g->aU g its->yu F ds=θ l->KS.RdK s.heap its l
 | [],_,_,_,dn,r,h=>by cases dn;cases r;cases h;exact .nil
 | d::ds,_,_,_,⟨v,vs,e,d1,d2⟩,r,h=>by
  subst e;obtain ⟨k,p,ps,rfl,h1,h2,L,C,J⟩:=rK h;cases r with
  | @cons _ u _ us r1 r2 =>
   have z:ic F d=k:=by unfold ic;rw [h1]
   rw [z] at d1;let ⟨as,ra⟩:=cu I (d1.mono hm) r1 h2
   exact .cons ra L C (Az I hm d2 r2 J)
theorem zQ {oa:Obj}
  (I:Inv X (af++[(a,Zt "list" #[] e1)]) σ H' s') (fa:eZ X af H' a) (h0:aw H0 H) (h0k:H0 kQq=ξ) (Z:H0 a=ξ) (b:ny kQq H H') (hk:H' kQq=θ (.lst kvs)) (dk:aH X.K (mask (kQq::as) H') (ds.map (ic F)) kvs) (rk:aU kvs its)
  (ek:s'.heap.get? kQq=θ (Zt "list" its.toArray n)) (has:a∉as) (hks:kQq∉as) (L:a≠kQq)
  (r:aU xs us) (dn:aH X.K (mask (kQq::as) H) ds xs) (hl:yu F ds=θ l) (ho:gV l=θ p) (hu:X.A.in1.in1.units+64 < aa3) (hz:ds.length<=63) (J:X.s₀.heap.get? a=ξ)
  (h:∀ v Y C,Inv X af σ v Y->aw H0 v->v a=θ (.lst C)->aH X.K (mask (a::as) v) (pkL .non p ds) C->P (.done (.ret .none)) Y) :
  YH (YN X.prog X.w) X.A.in1.in1 (ksk_end a η us.toArray e1 (.ref kQq) its.toArray) P E s':=by
 have pa:=I.pin (a,Zt "list" #[] e1) (by simp);have hlu:ds.length=us.length:=dn.len.trans r.length;have hlk:its.length=us.length:=by rw [<- rk.length,<- dk.len,iN,hlu]
 have pl:∀ i∈p,i < xs.length:=fun i hi=>by
  have:=Y8.mp ((KS.dt ho).mem_iff.mp hi)
  rw [kys_len hl] at this;rw [<- dn.len];exact this
 have v1:=vA r pl;have v2:=vI (dn.mono b.masked) pl;refine KS.Nm hu hlk (by lia) pa.1 ek L (Az I (ar _ _) dk rk hl) ho ?_;have hol:(pkL (V.int 0) p xs).length<=RW:=by
  unfold pkL;rw [iN,(KS.dt ho).length_eq,Y7,kys_len hl,Zd];lia
 have I1:=I.lset (its':=[]) (ys:=[]) (f:=fun _=>(#[]:Array rW)) (t':=s'.toks) hk ek rfl .nil (YJ _) (by walk_at "tok");have I2:Inv X af σ (upd H' kQq (.lst [])) { s' with heap:=s'.heap.update kQq (Y2 fun _=>(#[]:Array rW)) }:=I1.unpinned;let ⟨f0,f1,f2,f3,f4,f5⟩:=fa
 have M:upd H' kQq (.lst []) a=ξ:=by rw [aA L];exact f0
 have na:(s'.heap.update kQq (Y2 fun _=>(#[]:Array rW))).get? a=θ (Zt "list" #[] e1):=((aae s'.heap kQq (Y2 fun _=>(#[]:Array rW))).2 a L).trans pa.1;have I3:=I2.turned (t':=s'.toks) (h':=(s'.heap.update kQq (Y2 fun _=>(#[]:Array rW))).update a (Y2 fun _=>(pkL ZS p us).toArray)) (it:=a) (fun g u hb hu=>(aah _ _ (aaN hb)).trans hu) M f1 f3 f4 f5 (by walk_at "tok");have I4:=I3.track (y:=a) (o:=.lst (pkL (V.int 0) p xs)) ⟨J,f1,f2,f4,f5⟩ M ⟨hol,_,_,v1,adE na _⟩;refine h _ _ (pkL (V.int 0) p xs) I4 (fun g o e=>?_) aE (v2.mono fun g o e=>?_)
 .have n1:g≠a:=fun z=>by rw [z,Z] at e;cases e
  have n2:g≠kQq:=fun z=>by rw [z,h0k] at e;cases e
  rw [aA n1,aA n2];exact b g o n2 (h0 g o e)
 .by_cases hb:g∈kQq::as
  .rw [bT hb] at e;cases e
  .rw [aD hb] at e;have n1:g≠a:=fun z=>by grind
   have n2:g≠kQq:=fun z=>hb (z ▸ Zc);rw [aD (fun z=>(mK.mp z).elim n1 fun z=>hb (lT _ z)),aA n1,aA n2];exact e
theorem zU
  (G:FnOk X.prog X.w X.K X.mg X.base l8 k f fd ps (vV X.K mg F)) (hr:Room k X.A.in1.in1) (hb:gi X.K fd ps []) (I:Inv X af σ H s) (fa:eZ X af H a) (C:s.heap.get? a=θ (Zt "list" us.toArray n)) (has:∀ b∈as,H b≠ξ)
  (r:aU xs us) (dn:aH X.K (mask as H) ds xs) (hl:yu F ds=θ l) (ho:gV l=θ p) (hz:ds.length<=63) (Y:X.s₀.heap.get? a=ξ)
  (h:∀ J s'' L,Inv X af σ J s''->aw H J->J a=θ (.lst L)->aH X.K (mask (a::as) J) (pkL .non p ds) L->P (.done (.ret .none)) s'') :
  YH (YN X.prog X.w) X.A.in1.in1 (ksk_tree a (.ref f) η) P E s:=by
 have hlu:ds.length=us.length:=dn.len.trans r.length;have ha:a < s.heap.objs.size:=ID C;let ⟨Z,ho1⟩:∃ Z,(s.heap.update a (Y2 fun _=>(#[]:Array rW))).get? a=θ (Zt "list" #[] Z):=⟨_,abZ C fun _=>#[]⟩
 let ⟨f0,f1,f2,f3,f4,f5⟩:=id fa
 have I1:=I.turned (t':=s.toks) (h':=s.heap.update a (Y2 fun _=>(#[]:Array rW))) (it:=a) (fun b' u hb hu=>(aah _ _ (aaN hb)).trans hu) f0 f1 f3 f4 f5 (by walk_at "tok");have I2:=I1.kept (t':=s.toks) (h':=(s.heap.update a (Y2 fun _=>(#[]:Array rW))).push (Zt "tuple" us.toArray 0)) (fun _ _ q=>eQ _ q) (by walk_at "tok");have I3:=I2.lnew (its:=[]) (ys:=[]) (t':=s.toks) .nil (YJ _) (by walk_at "tok");have hkS:((s.heap.update a (Y2 fun _=>(#[]:Array rW))).push (Zt "tuple" us.toArray 0)).objs.size=s.heap.objs.size+1:=by rw [size_push',Heap.size_update]
 have g:H ((s.heap.update a (Y2 fun _=>(#[]:Array rW))).push (Zt "tuple" us.toArray 0)).objs.size=ξ:=I2.fresh;have ho3:(((s.heap.update a (Y2 fun _=>(#[]:Array rW))).push (Zt "tuple" us.toArray 0)).push (Zt "list" #[] 0)).get? a=θ (Zt "list" #[] Z):=eQ _ (eQ _ ho1);unfold ksk_tree;refine bY (listItems_at C rfl ?_);refine bY (aa1 C rfl ?_ (by rw [YC,Zd];lia) (YJ _));refine bY (seqEpoch_at ho1 rfl ?_);refine bY (wpAny_newTuple ?_ (by show us.length<=_;rw [Zd];lia));refine bY (wpAny_newList ?_ (YJ _));refine ZI ?_;have hne:a≠((s.heap.update a (Y2 fun _=>(#[]:Array rW))).push (Zt "tuple" us.toArray 0)).objs.size:=by rw [hkS];exact YL (acj ha)
 generalize hq:((s.heap.update a (Y2 fun _=>(#[]:Array rW))).push (Zt "tuple" us.toArray 0)).objs.size=kQq at *;have M:kQq∉as:=fun z=>has _ z g;have haas:a∉as:=fun z=>has _ z f0;have I4:Inv X (af++[(a,Zt "list" #[] Z)]) σ (upd H kQq (.lst [])) { s with heap:=((s.heap.update a (Y2 fun _=>(#[]:Array rW))).push (Zt "tuple" us.toArray 0)).push (Zt "list" #[] 0) }:=by
  have I3':Inv X af σ (upd H kQq (.lst [])) { s with heap:=((s.heap.update a (Y2 fun _=>(#[]:Array rW))).push (Zt "tuple" us.toArray 0)).push (Zt "list" #[] 0) }:=I3;refine I3'.pins_of fun p hp=>?_;rcases xb.mp hp with hp|hp
  .exact I3'.pin p (MK _ hp)
  .obtain rfl:p=_:=by simpa using hp
   exact ⟨ho3,by rw [aA hne];exact f0,f1,f2,fun v z=>by cases z⟩
 have up:aw H (upd H kQq (.lst [])):=aI g _;have dn':aH X.K (mask (kQq::as) (upd H kQq (.lst []))) ds xs:=dn.mono fun b o e=>by
  by_cases hb:b∈as
  .rw [bT hb] at e;cases e
  .rw [aD hb] at e;have n1:b≠kQq:=fun z=>by rw [z,g] at e;cases e
   rw [aD (fun z=>(mK.mp z).elim n1 hb)];exact up b o e
 refine zt G hr hb I4 aE (fun b hb=>by
  cases e:H b with
  | none=>grind
  | some o=>rw [up b o e];simp) M r dn' hl hz fun H' kvs its n' s' I' b' k' d' r' e'=>?_
 have pa:=I'.pin (a,Zt "list" #[] Z) (by simp);exact zQ (oa:=Zt "list" #[] Z) I' ⟨pa.2.1,f1,f2,f3,f4,f5⟩ up g f0 b' k' d' r' e' haas M hne r dn' hl ho (by have:=hr.un;lia) hz Y h
theorem vM
  (G:FnOk X.prog X.w X.K X.mg X.base l8 k f fd ps (vV X.K mg F)) (hr:Room k X.A.in1.in1) (hb:gi X.K fd ps []) (I:Inv X af σ H s) (hp:s.heap.IsList lA us.toArray) (L:∀ b∈as,H b≠ξ)
  (r:aU xs us) (Z:aH X.K (mask as H) ds xs) (hl:yu F ds=θ l) (ho:gV l=θ p) (hz:ds.length<=63)
  (h:∀ C H' g,aw H H'->H C=ξ->H' C=θ (.lst g)->aH X.K (mask (C::as) H') (pkL .non p ds) g->Q (.ref C) H') :
  YH (YN X.prog X.w) X.A (call (.builtin "sorted") [.ref lA] [(DO "key",.ref f)]) (EP X af σ Q) E s:=by
 have hlu:ds.length=us.length:=Z.len.trans r.length;refine call_function_entry_kw kind_sorted plain_sorted entry_sorted (ksk_s1 _ _) ?_;unfold Builtin.«sorted»;refine bY (m:=checkCount "sorted" 1 1 _) (nE ?_);refine bY (collect_list hp ?_ (by rw [Zd];lia));refine bY (wpAny_newList ?_ (by rw [Zd];lia));have hsz:((s.heap.push (Zt "list" #[] 0)).update s.heap.objs.size (Y2 (·++us.toArray))).objs.size=s.heap.objs.size+1:=by
  simp_all
 have u:(((s.heap.push (Zt "list" #[] 0)).update s.heap.objs.size (Y2 (·++us.toArray))).push (Zt "list" us.toArray 0)).get? (s.heap.objs.size+1)=θ (Zt "list" us.toArray 0):=by
  rw [<- hsz];exact BY _ rfl
 have v:∀ b o,s.heap.get? b=θ o->(((s.heap.push (Zt "list" #[] 0)).update s.heap.objs.size (Y2 (·++us.toArray))).push (Zt "list" us.toArray 0)).get? b=θ o:=fun b o q=>by
  have hlt  := ID q;rw [ack _ _ _ (by grind),abe _ _ _ _ (YL hlt),ack _ _ _ (YL hlt)];exact q
 have hfr  := I.hok.fresh (abw _);have I1:=I.kept v (by walk_at "tok");rw [hsz];refine bY (ZI (wpAny_call_entry_kw slot_list_sort ⟨_,u,rfl⟩ entry_list_sort ?body (ksk_l1 _ _)));refine zU G hr hb I1 (I.fpOk (abw _) hfr) u L r Z hl ho hz (acV (Le I.sz (abw _))) fun z s'' g M s0 Y J=>⟨_,rfl,?_⟩;exact nE ⟨_,rfl,.ref (s.heap.objs.size+1),z,M,rfl,h _ z g s0 hfr Y J⟩
end
theorem JX {K:aT} {st:aa0} {p p2 p3 pos:Pos}
  (Df:Def X.K X.mg x st ps f fd) (G:FnOk X.prog X.w X.K X.mg X.base l8 j f fd ps (vV K mg F)) (hr:Room k X.A) (hm:X.mg "sorted"=ξ) (ha:JE X e (tD ⟨K,mg,E0⟩ O φ)) (hj:j+1<=k:=by decide) (hg:Gl X "sorted":=by rfl) (L:Gl X x:=by rfl) (Z:ad9 x:=by decide)
  (h1:aM e=ζ:=by rfl) (hK:X.K=K:=by rfl):JE X (.Call (.Name "sorted" p) [e] [⟨θ "key",.Name x p2,p3⟩] pos) (tN ⟨K,mg,E0⟩ O (ai (ox F) (aa φ aj))):=by
 subst hK;refine ⟨fun af s σ H Q I h=>?_⟩;let ⟨as0,B,own,U,J,h⟩:=h
 have hA:JA X [e] (rY ⟨X.K,mg,E0⟩ O (aa φ aj)):=vE ha zz (hn:=h1);refine Zh (gI I hg hm (u:=.builtin "sorted") (by with_unfolding_all rfl) ?_ (by decide) (by decide));have he:aaa pos (YI [e] X.env)=(η,eval e X.env)::aaa pos (YI [] X.env):=by rw [bw h1];rfl
 refine callWith_kw (bV (hA.out pos af s σ H (fun vs H1=>aw H H1/\∃ ds,aH X.K (mask (own++as0) H1) ds vs/\ij ⟨X.K,mg,E0⟩ (own++as0) H1 (ox F ds) Q) I ⟨as0,B,own,U,J,(fun h q=>dW h q) h fun ds vs H1 C d1 h1=>⟨C,ds,d1,h1⟩⟩) fun us C ⟨vs,H1,I1,r,sm,ds,dn,q⟩ =>
  bV (IX (nm:=θ "key") (kpos:=p3) (A6 (pos:=p2) (v:=.ref f) L Df.m rfl Z) PN pos af C σ H1 (fun zs z=>zs=[.ref f]/\z=H1) I1 ⟨rfl,rfl⟩) fun ws s2 ⟨zs,z,I2,rz,e1,e2⟩=>?_) he ?_ rfl rfl
 .subst e1 e2;obtain ⟨w0,rfl,P4⟩:=rz.one;cases P4;have exi:∀ b∈own++as0,z b≠ξ:=(J.mono sm).exi;unfold ox at q;split at q
  .rename_i ys;split at q
   .rename_i hz;split at q
    .rename_i pm hl;let ⟨l,hl,ho⟩:=dO.mp hl
     obtain ⟨v0,_,rfl,d0,Y⟩:=dn;cases Y;obtain ⟨lA,xs,rfl,hS,dx⟩:=d0;obtain ⟨u0,rfl,ru⟩:=r.one;cases ru;let ⟨its,ri,hp,_⟩:=I2.list ((ar _ _).seq hS)
     have rm:Room j X.A.in1.in1:=⟨hr.hd,by have:=hr.dp;show X.A.depth+3*j+5 < _;lia,by have:=hr.un;show X.A.units+1+1+16*j+200 < _;lia⟩;refine vM (mg:=mg) (F:=F) (as:=own++as0) G rm Df.b I2 hp.isList exi ri dx hl ho hz fun p H' g s' hn M dd=>?_;exact q p _ H' s' hn M ⟨g,rfl,dd⟩
    .exact q.elim
   .exact q.elim
  .exact q.elim
 .exact dq (by grind)
noncomputable def l7:ad8->Option (List ZO)
 | []=>θ []
 | .int i::r=>(l7 r).map (.int i::·)
 | _=>ξ
def wP (xs:ad8):R D:=if xs.length<=63 then (match (l7 xs).bind gV with
 | some p=>.ok (.lst (pkL .non p xs))
 | none=>.no) else .no
section
variable {prog:Z9} {w:Zv} {A:aaF} {E:ad3} {s:IF}
inductive RdI:ad6->List ZO->Prop
 | nil:RdI [] []
 | cons {i:Int} {t:Tok} {us:ad6} {ps:List ZO} (h:RdI us ps):RdI (.int i t::us) (.int i::ps)
theorem RdI.len (r:RdI us ps):us.length=ps.length:=by
 induction r with
 | nil=>rfl
 | cons _ g=>simp_all
theorem RdI.ints (r:RdI us ps):∃ ns,IntsAre us ns:=by
 induction r with
 | nil=>exact ⟨[],.nil⟩
 | @cons i t us ps _ ih=>let ⟨ns,q⟩:=ih;exact ⟨i::ns,.cons i t q⟩
theorem RdI.at (r:RdI us ps):∀ {i:Nat} {p:ZO},ps[i]?=θ p->∃ n t,us.getD i .none=.int n t/\p=.int n:=by
 induction r with
 | nil=>simp_all
 | @cons n t us ps _ ih =>
  intro i p e;cases i with
  | zero=>simp_all
  | succ i=>exact ih e
theorem rE {d:D} {r:ad8} {l:List ZO} (h:l7 (d::r)=θ l):∃ i ps,d=.int i/\l=.int i::ps/\l7 r=θ ps:=by
 unfold l7 at h;split at h
 .grind
 .rename_i e;cases e;obtain ⟨l,h2,rfl⟩:=iF.mp h;exact ⟨_,_,rfl,rfl,h2⟩
 .cases h
theorem DW {K:aT}:∀ {ds:ad8} {xs:ad7} {us:ad6} {l:List ZO},aH K H ds xs->aU xs us->l7 ds=θ l->RdI us l
 | [],_,_,_,dn,r,h=>by cases dn;cases r;cases h;exact .nil
 | d::ds,_,_,_,⟨v,vs,e,d1,d2⟩,r,h=>by
  subst e;obtain ⟨i,ps,rfl,rfl,h2⟩:=rE h;cases d1;cases r with
  | cons r1 r2=>obtain ⟨t,rfl⟩:=r1;exact .cons (DW d2 r2 h2)
theorem vf:∀ {ds:ad8} {l:List ZO},l7 ds=θ l->l.length=ds.length
 | [],_,h=>by cases h;rfl
 | d::ds,_,h=>by
  obtain ⟨i,ps,rfl,rfl,h2⟩:=rE h;show ps.length+1=ds.length+1;rw [vf h2]
theorem CU (Y:s.heap.get? a=θ (Zt "list" vs.toArray n)) (hz:vs.length<=63)
  (hr:RdI vs ps) (J:gV ps=θ p) (h:P (.done (.ret .none)) { s with heap:=sortedHeap s.heap a vs (pkL .none p vs).toArray }) :
  YH (YN prog w) A (Builtin.«list.sort» ⟨[.ref a],[]⟩) P E s:=by
 let ⟨Z,ho1⟩:∃ Z,(s.heap.update a (Y2 fun _=>(#[]:Array rW))).get? a=θ (Zt "list" #[] Z):=⟨_,abZ Y fun _=>#[]⟩
 have u:(((s.heap.update a (Y2 fun _=>(#[]:Array rW))).push (Zt "tuple" vs.toArray 0)).push (Zt "list" #[] 0)).get? a=θ (Zt "list" #[] Z):=eQ _ (eQ _ ho1);have M:=hr.len;have pp:=KS.dt J;have pl:(pkL ZS p vs).length=vs.length:=by unfold pkL;rw [iN,pp.length_eq,Y7];lia
 have zl:(vs.toArray.zip vs.toArray).toList=vs.zip vs:=by simp
 have zs:(vs.toArray.zip vs.toArray).size=vs.length:=by rw [<- abd,zl,acO];lia
 unfold Builtin.«list.sort»;dsimp only;rw [adV (by decide),adV (by decide)];refine bY (nE ?_);show YH _ _ (Builtin.List.listItems (.ref a) >>= _) _ _ _;refine bY (listItems_at Y rfl ?_);refine bY (aa1 Y rfl ?_ (by rw [YC,Zd];lia) (YJ _));refine bY (seqEpoch_at ho1 rfl ?_);refine bY (wpAny_newTuple ?_ (by show vs.length<=_;rw [Zd];lia));refine bY (wpAny_newList ?_ (YJ _));refine ZI ?_;rw [adV (show ¬ ((abb (DO "key") []).getD ZS != ZS)=ζ from By),adV (show ¬ ((abb (DO "key") []).getD ZS != ZS)=ζ from By)];show YH _ _ _ _ _ { s with heap:=((s.heap.update a (Y2 fun _=>(#[]:Array rW))).push (Zt "tuple" vs.toArray 0)).push (Zt "list" #[] 0) };refine bY (nE ?_);rw [adV By];unfold gV at J;by_cases h2:vs.length < 2
 .have hn2:vs.toArray.size < 2:=by rw [YC];lia
  rw [adU (by lia)] at J;cases J;rw [<- M,KS.yI] at h;have L:adO (fun x=>x.snd) (arrOf (acT general' (vs.toArray.zip vs.toArray) #[] 7 ξ))=vs.toArray:=by
   apply abR.mp
   rw [aaL];show (vs.toArray.zip vs.toArray).toList.map _=_;rw [zl];exact List.map_snd_zip (oR _)
  rw [adU hn2];refine bY (nE ?_);rw [adU hn2];refine bY (nE ?_);rw [adV (show ¬ ((abb (DO "key") []).getD ZS != ZS)=ζ from By)];refine bY (seqEpoch_at u rfl ?_);have q2:(adO (fun x=>x.snd) (arrOf (acT general' (vs.toArray.zip vs.toArray) #[] 7 ξ))).size<=RW:=by rw [L,YC,Zd];lia
  rw [<- L] at h;refine bY (aa1 u rfl ?_ (YJ _) (aax q2));dsimp only;simp only [bne_self_eq_false,Z5,if_false];exact nE h
 .have hn2:¬ vs.toArray.size < 2:=by rw [YC];lia
  rw [adV (by lia)] at J;obtain ⟨q,eq,rfl⟩:=iF.mp J;rw [adV hn2];show YH _ _ (keyKind' vs.toArray >>= _) _ _ _;have hk:keyKind' vs.toArray=pure oneType':=by
   let ⟨ns,v⟩:=hr.ints
   match vs,h2,v with
   | [],h2,_=>exact absurd (show 0 < 2 by decide) h2
   | [_],h2,_=>exact absurd (show 1 < 2 by decide) h2
   | v1::v2::r,_,v=>exact keyKind_ints v
  rw [hk];refine bY (nE ?_);rw [adV hn2];rw [<- M,<- zs] at eq;have w0:=KS.wE (prog:=prog) (w:=w) (A:=A) (E:=E) (κ:=oneType') (s:={ s with heap:=((s.heap.update a (Y2 fun _=>(#[]:Array rW))).push (Zt "tuple" vs.toArray 0)).push (Zt "list" #[] 0) }) (f:=KS.askP ps) (Q:=fun _ g s'=>s'={ s with heap:=((s.heap.update a (Y2 fun _=>(#[]:Array rW))).push (Zt "tuple" vs.toArray 0)).push (Zt "list" #[] 0) }/\arrOf g=q.map (adH (vs.toArray.zip vs.toArray))/\failedOf g=ξ) (by lia) (by lia) (fun i j b I C hC=>by
   let ⟨x,ex,I⟩:=dO.mp I
   let ⟨y,ey,I⟩:=dO.mp I
   obtain ⟨n1,t1,u1,rfl⟩:=hr.at ex;obtain ⟨n2,t2,u2,rfl⟩:=hr.at ey;have v:i < vs.length:=by have:=(K2.mp ex).1;lia
   have hj:j < vs.length:=by have:=(K2.mp ey).1;lia
   unfold PySem.W.kas_cmp;rw [KS.item_at rfl v,KS.item_at rfl hj,u1,u2];unfold LU.cpP at I;cases I;exact PySem.W.kat_lt_int hC) eq fun g g1 g2 g3=>⟨rfl,g1,g2⟩
  refine bY (Zm w0 ?_ fun _ _ z=>z);rintro ⟨⟨⟩,g⟩ s' ⟨rfl,g1,g2⟩;have L:adO (fun x=>x.snd) (arrOf g)=(pkL ZS q.toList vs).toArray:=by
   rw [g1];apply abR.mp
   rw [aaL,aaL,Y5];refine ZV fun i v=>?_
   have:=Y8.mp (pp.mem_iff.mp v)
   show (adH _ i).2=_;rw [KS.item_at rfl (by lia)]
  rw [adV (show ¬ ((abb (DO "key") []).getD ZS != ZS)=ζ from By)];refine bY (seqEpoch_at u rfl ?_);have q2:(adO (fun x=>x.snd) (arrOf g)).size<=RW:=by rw [L,YC,pl,Zd];lia
  rw [<- L] at h;refine bY (aa1 u rfl ?_ (YJ _) (aax q2));dsimp only;simp only [bne_self_eq_false,Z5,if_false];split
  .rename_i e he;exact absurd (g2.symm.trans he) (by simp)
  .exact nE h
end
theorem Ad {K:aT}:∀ {ds:ad8} {xs:ad7} {l:List ZO},aH K H ds xs->l7 ds=θ l->aH K H' ds xs
 | [],_,_,dn,_=>by assumption
 | d::ds,_,_,⟨v,vs,e,d1,d2⟩,h=>by
  subst e;obtain ⟨i,ps,rfl,rfl,h2⟩:=rE h;cases d1;exact aH.cons rfl (Ad d2 h2)
section
variable {σ:St}
theorem jR (I:Inv X af σ H s) (r:aU xs us) (u:aH X.K H ds xs) (z:l7 ds=θ l) (J:gV l=θ p) (hz:ds.length<=63) (hok:∀ q g,H q=ξ->aH X.K (fun _=>ξ) (pkL .non p ds) g->Q (.ref q) (upd H q (.lst g))) :
  YH (YN X.prog X.w) X.A.in1 (newList us >>= fun l=>holding [l] (call (.builtin "list.sort") [l]) >>= fun _=>ret l) (fun fin s'=>∃ v,fin=Fin.done (Flow.ret v)/\EP X af σ Q v s') E s:=by
 have M:ds.length=us.length:=u.len.trans r.length;refine bY (wpAny_newList ?_ (by rw [Zd];lia));have C:(s.heap.push (Zt "list" us.toArray 0)).get? s.heap.objs.size=θ (Zt "list" us.toArray 0):=BY _ rfl;refine bY (ZI (Zf slot_list_sort ⟨_,C,rfl⟩ entry_list_sort ?_ (PySem.F.args_list_sort_1 _)));have pl:∀ i∈p,i < xs.length:=fun i Z=>by
  have:=Y8.mp ((KS.dt J).mem_iff.mp Z)
  rw [vf z] at this;rw [<- u.len];exact this
 have Y:=vA r pl;have ll:(pkL (V.int 0) p xs).length=ds.length:=by unfold pkL;rw [iN,(KS.dt J).length_eq,Y7,vf z]
 refine CU (s:={ s with heap:=s.heap.push (Zt "list" us.toArray 0) }) C (by lia) (DW u r z) J ⟨_,rfl,nE ⟨_,rfl,?_⟩⟩;refine ⟨.ref s.heap.objs.size,upd H s.heap.objs.size (.lst (pkL (.int 0) p xs)),I.laid (t':=s.toks) (fun c o q=>?_) (oR _) ?_,rfl,hok _ _ (I.hok.fresh (oR _)) (vI (Ad u z) pl)⟩
 .have hlt:c < s.heap.objs.size:=ID q;unfold sortedHeap;rw [abe _ _ _ _ (YL hlt)];refine eQ _ (eQ _ ?_);rw [abe _ _ _ _ (YL hlt)];exact eQ _ q
 .let ⟨L,g1⟩:∃ L,((s.heap.push (Zt "list" us.toArray 0)).update s.heap.objs.size (Y2 fun _=>#[])).get? s.heap.objs.size=θ (Zt "list" #[] L):=⟨_,abZ C fun _=>#[]⟩
  have g2:=abZ (eQ (Zt "list" #[] 0) (eQ (Zt "tuple" us.toArray 0) g1)) fun _=>(pkL ZS p us).toArray;exact ⟨by rw [Zd];lia,pkL .none p us,_,Y,g2⟩
end
section
variable {X:Cx} {W:Wd} {O:ad0} {e:Zq} {es:List Zq} {φ:FE} {α:FA} {pos p p1 p2:Pos} {x:Str}
def oO (ds:ad8):R D:=match ds with
 | [d]=>(match BK d with
  | some xs=>wP xs
  | none=>.no)
 | _=>.no
def Mc (K:aT) (xs:ad7) (H:Hp) (Q:VK):Prop:=∃ a ds ys l p,xs=[.ref a]/\(eV K H a ys\/∃ o r,H a=θ (.frz o (.dK r))/\ys=Jv r)/\aH K H ds ys/\l7 ds=θ l/\gV l=θ p/\ds.length<=63 /\
 ∀ q g,H q=ξ->aH K (fun _=>ξ) (pkL .non p ds) g->Q (.ref q) (upd H q (.lst g))
theorem sj (K:aT) (hc:X.calm=ζ) (hK:X.K=K:=by rfl):bD X (.builtin "sorted") (Mc K):=by
 subst hK;intro af s σ H xs us Q I r h;obtain ⟨a,ds,ys,l,pm,rfl,src,dn,hl,J,hz,C⟩:=h;obtain ⟨u,rfl,ru⟩:=gj r;cases ru;refine abA kind_sorted plain_sorted entry_sorted (args_sorted1 _) ?_;unfold Builtin.«sorted»;refine bY (m:=checkCount "sorted" 1 1 _) (nE ?_);rcases src with hS|⟨o,kvs,hD,rfl⟩
 .let ⟨its,ri,hp,_⟩:=I.list hS
  refine bY (collect_list hp.isList ?_ (by rw [<- ri.length,<- dn.len,Zd];lia));have L:∀ c o,s.heap.get? c=θ o->((s.heap.push (Zt "list" #[] 0)).update s.heap.objs.size (Y2 (·++its.toArray))).get? c=θ o:=fun c o q=>by
   have M:c < s.heap.objs.size:=ID q;rw [abe _ _ _ _ (YL M),ack _ _ _ (YL M)];exact q
  have Y:=I.kept L (by walk_at "tok");exact jR Y ri dn hl J hz C
 .let ⟨z,hd,vs,F⟩:=mx I hD
  have hlen:=F.rel.length;refine bY (aP I.tk (ac8 (adG hd) (I.ok.hd hc) F.at_ (by grind) fun h' tk acc kp g Z=>?_));have Y:=I.kept kp Z;exact jR Y (uf (P:=X.prog) (w:=X.w) F.rel (by exact g.1) fun j v hj=>g.2 j v (by simp_all)) dn hl J hz C
theorem Ql (K:aT) (hW:W.K=K:=by rfl):AG W (Mc K) oO:=by
 subst hW;intro as H xs ds Q hn L h;unfold oO at h;split at h
 .obtain ⟨v,rfl,I⟩:=dZ L;split at h
  .rename_i d zs e;obtain ⟨a,ys,rfl,C,J⟩:=xI I e;have g:eV W.K H a ys\/∃ o kvs,H a=θ (.frz o (.dK kvs))/\ys=Jv kvs:=by
    rcases C with q|⟨o,kvs,q,r⟩
    .exact .inl ((ar _ _).seq q)
    .exact .inr ⟨o,kvs,ar _ _ _ _ q,r⟩
   unfold wP at h;split at h
   .rename_i hz;split at h
    .rename_i pm hl;let ⟨l,hl,hpm⟩:=dO.mp hl
     exact ⟨a,zs,ys,l,pm,rfl,g,J.mono (ar _ _),hl,hpm,hz,fun q u hq M=>h q _ _ (aI hq _) hq aE ⟨u,rfl,M.mono fun b o z=>by cases z⟩⟩
    .exact h.elim
   .exact h.elim
  .exact h.elim
 .exact h.elim
theorem z8 (K:aT) (z:X.calm=ζ) (hm:X.mg "sorted"=ξ) (r:JE X e (tD W O φ)) (hg:Gl X "sorted":=by rfl) (h1:aM e=ζ:=by rfl) (C:X.K=K:=by rfl) (hW:W.K=K:=by rfl) :
  JE X (.Call (.Name "sorted" p) [e] [] pos) (tN W O (ai oO (aa φ aj))) :=
 (vh (sj K z C) hm (by rfl) (vE r zz (hn:=h1)) hg h1 rfl).imp fun σ H Q u=>cJ u fun as0 B own U I h=>⟨as0,B,own,U,I,dW h fun ds xs H1 v g h1=>Ql K hW (own++as0) H1 xs ds Q (I.mono v).exi g h1⟩
end
def Wm (L:ad0):Option (ad0):=(gV (L.map fun (k:Nat)=>acm (k:Int))).map fun p=>pkL 0 p L
def QG:List (ad0):=[[]]++(YV 3).flatMap fun a=>[[a]]++(YV 3).flatMap fun b=>[[a,b]]++(YV 3).map fun c=>[a,b,c]
theorem Rx:∀ L∈QG,∀ S∈d9,L.isPerm S=ζ->Wm L=θ S:=by trivial
theorem in3 (g:L.length<=3) (h:∀ k∈L,k < 3):L∈QG:=by
 have r  := fun k u=>Y8.mpr (h k u)
 match L,g,r with
 | [],_,_=>exact YY _ (by simp)
 | [a],_,r=>exact MK _ (aaM.mpr ⟨a,r _ (by simp),YY _ (by simp)⟩)
 | [a,b],_,r=>exact MK _ (aaM.mpr ⟨a,r _ (by simp),MK _ (aaM.mpr ⟨b,r _ (by simp),YY _ (by simp)⟩)⟩)
 | [a,b,c],_,r=>exact MK _ (aaM.mpr ⟨a,r _ (by simp),MK _ (aaM.mpr ⟨b,r _ (by simp),MK _ (Do.mpr ⟨c,r _ (by simp),rfl⟩)⟩)⟩)
 | _::_::_::_::_,g,_=>simp at g
theorem Vk:∀ S∈d9,S.length<=3/\∀ k∈S,k < 3:=by trivial
theorem Be:∀ L:ad0,l7 (L.map fun (k:Nat)=>D.int (k:Int))=θ (L.map fun (k:Nat)=>acm (k:Int))
 | []=>rfl
 | k::r=>by
  show (l7 (r.map fun (k:Nat)=>D.int k)).map (acm k::·)=_;rw [Be r];rfl
theorem MG (h:∀ i∈p,i < L.length):pkL D.non p (L.map fun (k:Nat)=>D.int (k:Int))=(pkL 0 p L).map fun (k:Nat)=>D.int (k:Int):=by
 unfold pkL;simp_all
theorem WS {S L:ad0} (r:S∈d9) (g:L.Perm S):∃ l p,l7 (L.map fun (k:Nat)=>D.int (k:Int))=θ l/\gV l=θ p/\pkL D.non p (L.map fun (k:Nat)=>D.int (k:Int))=S.map fun (k:Nat)=>D.int (k:Int):=by
 obtain ⟨h1,h2⟩:=Vk S r
 have:=Rx L (in3 (by rw [g.length_eq];exact h1) fun k u=>h2 k (g.mem_iff.mp u)) S r (List.isPerm_iff.mpr g)
 let ⟨p,e,e2⟩:=iF.mp this
 refine ⟨_,p,Be L,e,?_⟩;rw [MG fun i v=>by have:=Y8.mp ((KS.dt e).mem_iff.mp v);rwa [iN] at this,e2]
section
theorem zA {p1 p2 g pos:Pos} (hc:X.calm=ζ) (hm1:X.mg "sorted"=ξ) (hm2:X.mg "set"=ξ) (ha:PA X [e] t) (hg1:Gl X "sorted":=by rfl) (hg2:Gl X "set":=by rfl)
  (he:YI [e] X.env=(η,eval e X.env)::YI [] X.env:=by rfl) (Z:(aaa g (YI [] X.env)).any (·.1)=η:=by rfl)
  (J:YI [.Call (.Name "set" p2) [e] [] g] X.env=(η,eval (.Call (.Name "set" p2) [e] [] g) X.env)::YI [] X.env:=by rfl) (C:(aaa pos (YI [] X.env)).any (·.1)=η:=by rfl) :
  PE X (.Call (.Name "sorted" p1) [.Call (.Name "set" p2) [e] [] g] [] pos) (JN X.K t):=by
 intro af s σ H Q I h;refine Zh (gI (u:=.builtin "sorted") I hg1 hm1 (by with_unfolding_all rfl) ?_ (by decide) (by decide));refine aaE ?_ J C;rw [J];show YH _ _ (spliced ((η,eval (.Call (.Name "set" p2) [e] [] g) X.env)::aaa pos (YI [] X.env))) _ _ s;refine Z3 ?_;refine Zh (gI I hg2 hm2 Ie ?_ (by decide) (by decide));refine Zw (bV (ha g af s σ H _ I h) fun us s1 hh=>jC hh fun vs H1 Y r1 q1=>?_) he Z;obtain ⟨a,ks,rfl,hq,h3,q⟩:=q1;obtain ⟨u,rfl,ru⟩:=gj r1;cases ru;let ⟨its,rv,pl,hz⟩:=Y.list hq
 have L:its.length=ks.length:=by rw [<- rv.length,iN]
 have hS:nZ ks∈d9:=jL ks [] (by decide) h3;refine aP Y.tk (B2 (ks:=ks) (Y.ok.hd hc) pl.isList (by simp [L]) (fun i v hv k hk=>?_) h3 fun h' tk ep hs z htk=>?_)
 .have hv':its[i]?=θ v:=by simpa using hv
  let ⟨u,hu,ru⟩:=rv.get (show (ks.map fun (k:Nat)=>V.int (k:Int))[i]?=θ (.int k) by rw [Zk,hk];rfl)
  rw [hv'] at hu;cases hu;exact ru
 .refine aaz ?_;have I2:Inv X af σ H1 { s1 with heap:=h',toks:=tk }:=Y.kept (fun b u e=>z b u (ID e) e) htk;refine abA kind_sorted plain_sorted entry_sorted (args_sorted1 _) ?_;unfold Builtin.«sorted»;refine bY (m:=checkCount "sorted" 1 1 _) (nE ?_);have h63:=sub_len _ hS;refine bY (aP I2.tk (ac8 (Ja hS) (I2.ok.hd hc) hs (by rw [Zd];lia) fun h'' tk' acc kp r M=>?_));have I3:=I2.kept (t':=tk') (h':=h'') kp M;obtain ⟨l,pm,n1,n2,n3⟩:=WS hS (gy X.w _ ep (nZ ks));refine jR I3 (Es (acc:=acc.toList) (by rw [abd];exact r.1) fun j v hj=>r.2 j v (by rw [<- aan];exact hj)) (xj _) n1 n2 (by rw [iN,(gy _ _ _ _).length_eq];lia) ?_;rw [n3];exact q
theorem DC {p1 p2 r pos:Pos} (u:X.mg "sorted"=ξ) (L:X.mg "set"=ξ) (ha:JA X [e] (rY W O α)) (M:X.K=W.K:=by rfl) (hc:X.calm=ζ:=by rfl) (C:Gl X "sorted":=by rfl) (J:Gl X "set":=by rfl) (h1:aM e=ζ:=by rfl) :
  JE X (.Call (.Name "sorted" p1) [.Call (.Name "set" p2) [e] [] r] [] pos) (tN W O (ai ir α)) :=
 (JE.mk (zA hc u L ha.out C J (bw h1) rfl rfl rfl)).imp fun σ H Q hh=>cJ hh fun as0 B own U I h=>⟨as0,B,own,U,I,dW h fun ds xs H2 s2 Z h2=>by
  unfold ir at h2;split at h2
  .obtain ⟨v,rfl,d1⟩:=dZ Z;obtain ⟨p,vs,rfl,q1,q2⟩:=d1;split at h2
   .rename_i ks e;obtain ⟨rfl,h3⟩:=wT e;refine ⟨p,ks,rfl,?_,h3,fun q g hq Y=>h2 q _ _ (aI hq _) hq aE ⟨g,rfl,?_⟩⟩
    .rw [<- ua q2,M];exact (ar _ _).seq q1
    .rw [M] at Y;exact Y.mono fun b o z=>by cases z
   .exact h2.elim
  .exact h2.elim⟩
end
end L2
namespace L2
open PySem PySem.Spec PyProof.Rows
section
theorem Nx (h1:rj dQ (tbl B ext acc q []) q=θ φ) (h2:UW q.N q.ps (aY (dQ q.i))=ζ) (g:Oi dQ B ext xf r (Oh xf q (.pl φ) acc)):Oi dQ B ext xf ((q,.pl φ)::r) acc:=⟨h1,h2,g⟩
theorem O7 (h1:∀ F,rj dQ (tbl B ext acc q (q.g.map fun x=>A8 x F)) q=θ (φ F)) (h2:UW q.N q.ps (aY (dQ q.i))=ζ) (z:Oi dQ B ext xf r (Oh xf q (.rc φ Z n) acc)) (u:∀ ds,Z 0 ds=.no:=by exact fun _=>rfl) (v:∀ m,Z (m+1)=uC (φ (Z m)) q.N q.ps:=by exact fun _=>rfl):Oi dQ B ext xf ((q,.rc φ Z n)::r) acc:=⟨⟨h1,u,v⟩,h2,z⟩
end
noncomputable def Va:rW->Option (D×V)
 | .int i _=>θ (.int i,.int i)
 | .str x _=>θ (.str x,.str x)
 | .bool b=>θ (.bl b,.bl b)
 | .none=>θ (.non,.non)
 | _=>ξ
def Nd:ad6->Option (List (D×V))
 | []=>θ []
 | u::r=>(Va u).bind fun q=>(Nd r).map (q::·)
def US (K:aT) (u:rW):Option D:=match u with
 | .ref a=>(match K.lookup a with
  | some o=>if o.cls=.type "tuple"/\o.dict=ξ then (match o.data with
   | .seq its _=>if its.size<=1000 then (Nd its.toList).map fun l=>.tup (l.map (·.1)) else ξ
   | _=>ξ) else ξ
  | none=>ξ)
 | u=>(Va u).map (·.1)
theorem Fj {K:aT} (h:Va u=θ q):aQ q.2 u/\∀ H,cr K H q.1 q.2:=by
 unfold Va at h;split at h <;> cases h
 .exact ⟨⟨_,rfl⟩,fun H=>rfl⟩
 .exact ⟨⟨_,rfl⟩,fun H=>rfl⟩
 .exact ⟨rfl,fun H=>rfl⟩
 .exact ⟨rfl,fun H=>rfl⟩
theorem A2 {K:aT}:∀ {us:ad6} {l:List (D×V)},Nd us=θ l->aU (l.map (·.2)) us/\∀ H,aH K H (l.map (·.1)) (l.map (·.2))
 | [],_,h=>by cases h;exact ⟨.nil,fun H=>rfl⟩
 | u::r,_,h=>by
  let ⟨q,h1,h⟩:=dO.mp h
  obtain ⟨l,h2,rfl⟩:=iF.mp h;obtain ⟨a,b⟩:=Fj h1;obtain ⟨c,d⟩:=A2 h2;exact ⟨.cons a c,fun H=>⟨q.2,_,rfl,b H,d H⟩⟩
theorem PU {K:aT} (h:US K u=θ d):∃ v,aQ v u/\(∀ H,cr K H d v)/\∀ p,u=.ref p->∃ ob,K.lookup p=θ ob/\ob.cls=.type "tuple"/\ob.dict=ξ:=by
 unfold US at h;split at h
 .rename_i a;split at h
  .rename_i o e;split at h
   .rename_i hc;split at h
    .rename_i its n hd;split at h
     .obtain ⟨l,h1,rfl⟩:=iF.mp h;obtain ⟨c,g⟩:=A2 h1;exact ⟨.ref a,rfl,fun H=>⟨a,l.map (·.2),rfl,.inr ⟨o,its,n,e,hc.1,hd,by rw [Zd];lia,c⟩,g H⟩,fun p r=>by simp_all⟩
     .cases h
    .cases h
   .cases h
  .cases h
 .obtain ⟨q,h1,rfl⟩:=iF.mp h;let ⟨a,b⟩:=Fj (K:=K) h1
  grind
section
variable {K:aT} (X:K.In h) (N:h.Ns YQ mg)
include X N
theorem MS {l:List (Str×D)} (e:(l.map fun q=>(Y1 K YQ q.1).bind fun o=>o.bind (US K))=l.map fun q=>θ q.2):∀ q∈l,N8 K mg q:=fun q hq=>by
 have z:=ZN.mp e q hq;obtain ⟨o,h1,h2⟩:=dO.mp z;obtain ⟨u,r,g⟩:=dO.mp h2;let ⟨v,h5⟩:=PU g
 exact ⟨v,u,acw X N (by rw [h1,r]),h5⟩
theorem Ul {l:ad1} (e:l.map (Y1 K YQ)=l.map fun _=>θ ξ):∀ x∈l,mg x=ξ:=fun x g=>PySem.W.mg_none_of X N (ZN.mp e x g)
end
abbrev Pl:=List (Nat×Nat×Nat×rW)
def fA (L:Pl) (i:Nat):YS:=match L.lookup i with
 | some q=>q.1
 | none=>0
def cA (L:Pl) (i:Nat):YS:=match L.lookup i with
 | some q=>q.2.1
 | none=>0
def mA (L:Pl) (i:Nat):rW:=match L.lookup i with
 | some q=>q.2.2
 | none=>.none
def Qf:aa0->Str
 | .FunctionDef n _ _ _ _ _ _ _ _ _=>n
 | _=>""
def fD (dQ:Nat->aa0) (L:Pl) (i:Nat):aaS:=aaD (Qf (dQ i)) (Qf (dQ i)) (i5 (dQ i)) (eJ (dQ i)) (aY (dQ i)) .none .none .none (mA L i) ξ (.ref (cA L i)) .none
theorem JR (h:us.length<=5):∃ a b c d e,us=([a,b,c,d,e]:ad6).take us.length:=by
 match us,h with
 | [],_=>exact ⟨.none,.none,.none,.none,.none,rfl⟩
 | [a],_=>exact ⟨a,.none,.none,.none,.none,rfl⟩
 | [a,b],_=>simp_all
 | [a,b,c],_=>exact ⟨a,b,c,.none,.none,rfl⟩
 | [a,b,c,d],_=>exact ⟨a,b,c,d,.none,rfl⟩
 | [a,b,c,d,e],_=>simp_all
 | _::_::_::_::_::_::_,h=>simp_all
def XH (dQ:Nat->aa0) (q:Df×Mr) (kV g u:rW) (v:Option YS) (r z a b c d e:rW):Sem (List (Str×rW)):=bindArgs (aaD q.1.x q.1.x (i5 (dQ q.1.i)) (eJ (dQ q.1.i)) (aY (dQ q.1.i)) .none kV g u v r z) ⟨[a,b,c,d,e].take q.1.ps.length,[]⟩
def YA (q:Df×Mr) (kV g u:rW) (v:Option YS) (r z a b c d e:rW):Sem (List (Str×rW)):=pure (q.1.ps.zip ([a,b,c,d,e].take q.1.ps.length))
section
variable {K:aT} {G:List (Df×Mr)}
theorem Ot (X:K.In h) (N:h.Ns YQ mg) (M:(G.map fun q=>Qf (dQ q.1.i))=G.map fun q=>q.1.x) (Z:(G.map fun q=>q.1.g.map (Y1 K YQ))=G.map fun q=>q.1.g.map fun _=>θ (θ (.ref (fA L q.1.i))))
  (e2:(G.map fun q=>K.lookup (fA L q.1.i))=G.map fun q=>θ ⟨.type "function",ξ,.func (fD dQ L q.1.i),#[]⟩) (Y:(G.map fun q=>(abC K (.ref (cA L q.1.i)) q.1.x,aa5 K (.ref (fA L q.1.i))))=G.map fun _=>(ζ,ζ))
  (e4:G.map (XH dQ)=G.map YA) (e5:(G.map fun q=>decide (q.1.ps.length<=5))=G.map fun _=>ζ):∀ q∈G,DfOk dQ K mg q.1 (fA L q.1.i) (fD dQ L q.1.i):=fun q hq=>by
 have v  := ZN.mp M q hq;have r:=ZN.mp e2 q hq;have J:=ZN.mp Y q hq;have hb  := ZN.mp e4 q hq;have hl:=adY (ZN.mp e5 q hq);have F:Fun K q.1.x q.1.x (dQ q.1.i) (fA L q.1.i) (fD dQ L q.1.i):=by
  unfold fD at r ⊢;rw [v] at r ⊢;exact EK r (Prod.mk.inj J).1 (Prod.mk.inj J).2
 refine ⟨F,F.binds fun kV u pm an z ct us I=>?_,fun x v=>acw X N (ZN.mp (ZN.mp Z q hq) x v)⟩;obtain ⟨a,b,c,d,e,C⟩:=JR (by rw [I];exact hl);rw [I] at C;rw [C];exact congrFun (congrFun (congrFun (congrFun (congrFun (congrFun (congrFun (congrFun (congrFun (congrFun (congrFun hb kV) u) pm) an) z) ct) a) b) c) d) e
end
section
variable {X:Cx} {W:Wd}
theorem xK (h1:X.mg "sorted"=ξ) (h2:X.mg "set"=ξ) (u:X.K=W.K) (r:X.calm=ζ):vn X W (U2 "sorted" "set" ir) :=
 Ex fun O a p1 p2 q1 q2 α g1 g2 hn g=>DC h1 h2 g u r g1 g2 hn
def Lo:Fm:=fN "sorted" (fun n=>decide (n=1)) fun l=>ai oO (aa (g0 l) aj)
theorem Gm (hm:X.mg "sorted"=ξ) (C:W.K=X.K) (v:X.calm=ζ):vn X W Lo:=fun O e es b r h z=>by
 obtain ⟨p,pos,rfl,h1,h2,u,rfl⟩:=Hg h
 match es,adY u with
 | [a],_ =>
  obtain ⟨φ,rfl,g⟩:=xN z;exact z8 X.K v hm g (cK h1).1 (by simpa using h2) rfl C
def Ao (x:Str) (F:ad8->R D):Fm:=fun g _ _ e=>match e with
 | .Call (.Name a _) [e] [⟨θ k,.Name f _,_⟩] _=>if a="sorted"/\k="key"/\f=x/\Cs g "sorted"=ζ/\Cs g x=ζ/\aM e=ζ then θ ([e],fun l=>ai (ox F) (aa (g0 l) aj)) else ξ
 | _=>ξ
theorem F8 {K:aT} (hm:mg "sorted"=ξ):MZ dQ P w K mg base (1,Ao):=fun q f fd j F Q hx G Y k ⟨e1,e2,e3,e4,e5,hr,_⟩ hj O e es b φs h hJ=>by
 subst e1 e2 e3 e4 e5;have h:Ao q.x F Y.env.scope Y.N O e=θ (es,b):=h;unfold Ao at h;split at h
 .split at h
  .rename_i hq;cases h;let ⟨h1,h2,h3,h4,h5,h6⟩:=hq
   obtain ⟨φ,rfl,g⟩:=xN hJ;rw [h1,h2,h3];exact xp (JX (Df:=⟨Q.F,Q.b,Q.m _ hx⟩) G hr hm g hj (cK h4).1 (cK h5).1 (cK h5).2 h6 rfl)
  .cases h
 .cases h
end
end L2
namespace T70
open PySem L2
def dQ (i:Nat):aa0:=PySem.Challenge.pw_tablestore_k70_conditions_judged.main.body.getD i (.Pass ⟨0,0,0,0⟩)
def nN (i:Nat):ad1:=((aY (dQ i)).names.filter fun q=>q.2==.local||q.2==.cell).map (·.1)
def rD (φ:FS) (p n:Nat):ad8->R D:=uC φ (aa6 n "") (aa6 p "")
def kG:D:=(.tup [(.str "none"),(.str "number"),(.str "text")])
def mm:D:=(.int 40)
def bC:D:=(.tup [(.str "<"),(.str "<="),(.str "<>")])
def bL:D:=(.tup [(.str "="),(.str "<="),(.str ">=")])
def br:D:=(.tup [(.str ">"),(.str ">="),(.str "<>")])
def qP:D:=(.int 4)
def p0:D:=(.int 8)
def io:D:=(.int 1000000000)
noncomputable def jt:D:=(.tup [(.str "and"),(.str "by"),(.str "down"),(.str "from"),(.str "none"),(.str "not"),(.str "or"),(.str "order"),(.str "show"),(.str "take"),(.str "where")])
def kg:D:=(.tup [(.str "number"),(.str "text")])
def gN:D:=(.int 8)
def jX:D:=(.int 8)
def iw:List (Str×D):=[("table",(.int 2)),("index",(.int 3)),("put",(.int 4)),("drop",(.int 3))]
def tm:FS:=(aB (fh (ao B5 (ae 0) (vC (.str " "))) (ao DH (ae 0) (vC (.str "~")))))
def CM:=rD tm 1 1
abbrev vU:FE:=ai ce (aa (ae 0) aj)
abbrev CZ:FE:=ai lO (aa (ae 0) (aa (vC (.ty "str")) aj))
abbrev CD:FE:=ao zO (vC (.int 10)) (vC (.int 18))
abbrev vo:FE:=ao isD (ae 0) (vC .non)
abbrev NX:FE:=ai lO (aa (ae 0) (aa (vC (.ty "bool")) aj))
abbrev PZ:FE:=ai lO (aa (ae 0) (aa (vC (.ty "int")) aj))
def qy:FS:=(ap (bN (dC CZ) (aB (fh (ao DH vU (vC mm)) (ai pq (aa (bo [ξ] (cY (ae 0)) (.one 0) fS (ai CM (aa (ae 0) aj))) aj)))) aF) (ap (bN (jJ (dC PZ) (fW (dC NX))) (aB (ao vB (ai Oc (aa (ae 0) aj)) CD)) aF) (aB vo)))
def rS:=rD qy 1 1
def sK:FS:=(ap (bN (aX vo) (aB (vC (.str "none"))) aF) (aB (Ir (dC CZ) (vC (.str "text")) (vC (.str "number")))))
def nV:=rD sK 1 1
abbrev HP:FE:=ai nV (aa (ae 0) aj)
abbrev OO:FE:=ai nV (aa (ae 1) aj)
abbrev Uf:FE:=ao vB (yo kG (aa HP aj)) (yo kG (aa OO aj))
abbrev A9:FE:=LQ D4 (vC (.int 1))
abbrev G7:FE:=ao bG (ae 0) (ae 1)
def kJ:FS:=(ap (bN (aX (ao kA HP OO)) (aB (Ir (aX Uf) A9 (vC (.int 1)))) aF) (ap (bN (aX G7) (aB (vC (.int 0))) aF) (aB (Ir (aX (ao vB (ae 0) (ae 1))) A9 (vC (.int 1))))))
def kI:=rD kJ 2 2
theorem Cp (g r:D):kI [g,r]=fin (kJ [θ g,θ r]):=rfl
def oF:FS:=(ap (bN (aX vo) (aB (bt (aa (vC (.int 0)) (aa (vC (.int 0)) aj)))) aF) (aB (bt (aa (yo kG (aa HP aj)) (aa (ae 0) aj)))))
def oy:=rD oF 1 1
abbrev rf:FE:=ai ce (aa (ae 1) aj)
abbrev RM:FS:=bK 3 (bt (aa (ae 0) (aa (ai gQ (aa (oJ yJ (ae 1) (bS (ae 5)) (bS (ae 6))) aj)) aj)))
abbrev Lm:FS:=aJ 5 (ao cp (ao jI (ae 4) rf) (ae 2))
def jp:FS:=(ap (aJ 2 (ao cp (ao lJ (ao bm rf (vC p0)) (vC (.int 1))) (vC p0))) (ap (f6 3 (bP aj)) (ap (fY (fE (aa (ae 2) aj)) (.one 4) (ap Lm (ap (aJ 6 (ao cp (ao jI (ao bm (ae 4) (vC (.int 1))) rf) (ae 2))) RM))) (aB (ae 3)))))
def ci:=rD jp 2 7
theorem zk (g r:D):ci [g,r]=fin (jp [θ g,θ r,ξ,ξ,ξ,ξ,ξ]):=rfl
abbrev nX:FE:=ao aV (ae 0) (vC (.int 0))
abbrev Oy:FS:=bN (aX vo) (aB (bP aj)) aF
def dH (lw:ad8->R D):FS:=(ap Oy (ap (bN (aX (ao bG nX (vC (.str "test")))) (aB (bo [ξ,θ 1] (cY (oJ jH (ae 0) (bS (vC (.int 2))) eG)) (.one 0) (aX (ao bG nX (ae 1))) (ae 0))) aF) (ap (f6 2 (bP aj)) (ap (fY (cY (oJ jH (ae 0) (bS (vC (.int 1))) eG)) (.one 3) (gv 2 (ai lw (aa (ae 3) (aa (ae 1) aj))))) (aB (ae 2))))))
def cW:Nat->(ad8->R D)
 | 0=>(fun _=>.no)
 | n+1=>rD (dH ((cW n))) 2 4
def lw:ad8->R D:=(cW 100)
theorem jg (n:Nat) (g r:D):(cW (n+1)) [g,r]=fin (dH ((cW n)) [θ g,θ r,ξ,ξ]):=rfl
abbrev kX:FE:=ao aV (ae 0) (vC (.int 1))
abbrev MW:FT:=aX (ao bG nX (vC (.str "leaf")))
def rg:FS:=(aB (Ir MW (ao aV kX (vC (.int 0))) (ao aV (ao aV kX (vC (.int 0))) (vC (.int 0)))))
def lu:=rD rg 1 1
def qA:FS:=(aB (bo [ξ] (cY (ae 0)) (.one 0) fS (bt (aa (ai lu (aa (ae 0) aj)) (aa (ae 0) aj)))))
def gG:=rD qA 1 1
def gB:FS:=(aB (ai lw (aa (ae 0) (aa (vC (.str "cell")) aj))))
def gC:=rD gB 1 1
def oW:FS:=(aB (ai ir (aa (bo [ξ] (cY (ai gC (aa (ae 0) aj))) (.one 0) fS kX) aj)))
def ou:=rD oW 1 1
def jb:FS:=(aB (ao lZ (ae 1) (ao aV (ao aV kX (ae 2)) (vC (.int 0)))))
def lW:=rD jb 3 3
theorem yC (g u r:D):lW [g,u,r]=fin (jb [θ g,θ u,θ r]):=rfl
abbrev pj:FE:=ao aV (ae 3) (vC (.int 1))
abbrev sx:FE:=ao aV (ae 3) (vC (.int 0))
abbrev Dz:FE:=ao aV (ae 3) (vC (.int 2))
def iY:FS:=(ap (bN (aX (ao bG sx (vC (.str "value")))) (aB pj) aF) (aB (ao aV (ao lZ (oX "Table" "rows" (ai lW (aa (ae 0) (aa (ae 1) (aa pj aj))))) (ao aV (ae 2) pj)) Dz)))
def cQ:=rD iY 4 4
theorem yV (g v r u:D):cQ [g,v,r,u]=fin (iY [θ g,θ v,θ r,θ u]):=rfl
abbrev Lk:FT:=aX (ao bG (ae 1) (vC (.int 0)))
def mq:FS:=(ap (bN Lk (aB (ao L5 (ae 0) (vC bL))) aF) (aB (Ir (aX (ao vB (ae 1) (vC (.int 0)))) (ao L5 (ae 0) (vC bC)) (ao L5 (ae 0) (vC br)))))
def mS:=rD mq 2 2
abbrev Gw:FE:=ao isD (ae 3) (vC .non)
def kl (i7:ad8->R D):FS:=(ap (bN (aX Gw) (aB (vC (.bl ζ))) aF) (ap (aJ 4 sx) (ap (bN (aX (ao bG (ae 4) (vC (.str "and")))) (aB (fh (ai i7 (aa (ae 0) (aa (ae 1) (aa (ae 2) (aa pj aj))))) (ai i7 (aa (ae 0) (aa (ae 1) (aa (ae 2) (aa Dz aj))))))) aF) (ap (bN (aX (ao bG (ae 4) (vC (.str "or")))) (aB (Im (ai i7 (aa (ae 0) (aa (ae 1) (aa (ae 2) (aa pj aj))))) (ai i7 (aa (ae 0) (aa (ae 1) (aa (ae 2) (aa Dz aj))))))) aF) (ap (bN (aX (ao bG (ae 4) (vC (.str "not")))) (aB (wg (ai i7 (aa (ae 0) (aa (ae 1) (aa (ae 2) (aa pj aj))))))) aF) (ap (aJ 5 (ai cQ (aa (ae 0) (aa (ae 1) (aa (ae 2) (aa Dz aj)))))) (ap (aJ 6 (ai cQ (aa (ae 0) (aa (ae 1) (aa (ae 2) (aa (ao aV (ae 3) (vC (.int 3))) aj)))))) (aB (ai mS (aa pj (aa (ai kI (aa (ae 5) (aa (ae 6) aj))) aj)))))))))))
def kF:Nat->(ad8->R D)
 | 0=>(fun _=>.no)
 | n+1=>rD (kl ((kF n))) 4 7
def i7:ad8->R D:=(kF 100)
theorem uH (n:Nat) (u g v r:D):(kF (n+1)) [u,g,v,r]=fin (kl ((kF n)) [θ u,θ g,θ v,θ r,ξ,ξ,ξ]):=rfl
abbrev uR:FE:=ao aV (ae 1) (vC (.int 1))
abbrev zV:FE:=ao aV (ae 1) (vC (.int 0))
def lc:FS:=(ap (aJ 2 (ai kI (aa nX (aa zV aj)))) (aB (Im (ao vB (ae 2) (vC (.int 0))) (fh (ao bG (ae 2) (vC (.int 0))) (ao vB kX uR)))))
def bA:=rD lc 2 3
def fL:FS:=(aB (bt (aa (vC (.str "leaf")) (aa (bt aj) aj))))
def iA:=rD fL 0 0
theorem sw:iA []=fin (fL []):=rfl
def mR:FS:=(ap (aJ 2 (vC (.int 0))) (ap (b5 (jJ (aX (ao vB (ao bm (ae 2) (vC (.int 1))) vU)) (fW (dC (ai bA (aa (ae 1) (aa (ao aV (ao aV (ae 0) (ao bm (ae 2) (vC (.int 1)))) (vC (.int 0))) aj)))))) (mW 2 (vC (.int 1))) 1000) (aB (ae 2))))
def gr:=rD mR 2 3
abbrev Jx:FE:=bt (aa (ae 1) (aa (ae 2) aj))
abbrev Qo:FE:=ao aV (ae 5) (ai gr (aa (ae 5) (aa (ae 3) aj)))
abbrev GI:FE:=ao aV (ae 4) (vC (.int 1))
def om:FS:=(ap (aJ 3 Jx) (ap (aJ 4 (ae 0)) (ap (b5 (aX (ao bG (ao aV (ae 4) (vC (.int 0))) (vC (.str "branch")))) (ap (aJ 5 GI) (aJ 4 (ao aV Qo (vC (.int 1))))) 1000) (aB (ao yG (ae 3) GI)))))
def j0:=rD om 3 6
def jy:FS:=(aB (fh PZ (fh (wg NX) (fh (ao B5 (ae 0) (vC (.int 1))) (ao DH (ae 0) (vC io))))))
def gc:=rD jy 1 1
def oM:FS:=(aB (fh (ao B5 (ae 0) (vC (.str "a"))) (ao DH (ae 0) (vC (.str "z")))))
def xq:=rD oM 1 1
def kH:FS:=(ap (bN (se (fW (dC CZ)) (se (aX (ao bG (ae 0) (vC (.str "")))) (aX (ao x5 vU (vC gN))))) (aB (vC (.bl η))) aF) (aB (fh (ai pq (aa (bo [ξ] (cY (ae 0)) (.one 0) fS (ai xq (aa (ae 0) aj))) aj)) (ao nQ (ae 0) (vC jt)))))
def kC:=rD kH 1 1
theorem CI (g:D):kC [g]=fin (kH [θ g]):=rfl
def iK:FS:=(aB (fh CZ (ao L5 (ae 0) (vC kg))))
def iI:=rD iK 1 1
abbrev OF:FE:=ai lO (aa (ae 0) (aa (vC (.ty "tuple")) aj))
def ug:FS:=(aB (fh OF (ao bG vU (vC (.int 2)))))
def De:=rD ug 1 1
abbrev LJ:FE:=ai De (aa (ae 0) aj)
def oH:FS:=(aB (fh LJ (fh (ai kC (aa nX aj)) (ai iI (aa kX aj)))))
def xo:=rD oH 1 1
def fO:FS:=(ap (bN (se (fW (dC OF)) (se (aX (ao vB vU (vC (.int 1)))) (aX (ao x5 vU (vC jX))))) (aB (vC (.bl η))) aF) (ap (bN (fW (dC (ai pq (aa (bo [ξ] (cY (ae 0)) (.one 0) fS (ai xo (aa (ae 0) aj))) aj)))) (aB (vC (.bl η))) aF) (ap (aJ 1 (bo [ξ] (cY (ae 0)) (.one 0) fS nX)) (aB (ao bG (ai i8 (aa (ae 1) aj)) rf)))))
def iz:=rD fO 1 2
theorem sE (g:D):iz [g]=fin (fO [θ g,ξ]):=rfl
def qj:FS:=(aB (fh LJ (fh (ai kC (aa nX aj)) (ai iz (aa kX aj)))))
def rH:=rD qj 1 1
def jP:FS:=(ap (fY (cq (aa kX aj)) (.tup [2,3]) (bN (aX (ao bG sx (ae 1))) (aB (ae 2)) aF)) (aB (vC .non)))
def eF:=rD jP 2 4
def oA:FS:=(aB (Im vo (fh (ai rS (aa (ae 0) aj)) (ao bG HP (ae 1)))))
def kc:=rD oA 2 2
abbrev Ut:FT:=se (fW (dC (ai lO (aa (ae 1) (aa (vC (.ty "tuple")) aj))))) (aX (ao kA rf (ai ce (aa (ae 2) aj))))
def DQ:FS:=(ap (aJ 2 kX) (ap (bN Ut (aB (vC (.bl η))) aF) (aB (ai pq (aa (bo [ξ,ξ] (DX (aa (ae 1) (aa (ae 2) aj))) (.tup [0,1]) fS (ai kc (aa (ae 0) (aa uR aj)))) aj)))))
def E2:=rD DQ 2 3
abbrev Mi:FE:=ai gG (aa (ae 1) aj)
def wf:FS:=(ap (aJ 1 (ae 0)) (ap (b5 (aX (ao x5 rf (vC (.int 1)))) (aJ 1 (ai ci (aa (vC (.str "branch")) (aa Mi aj)))) 1000) (aB zV)))
def p5:=rD wf 1 2
abbrev Uu:FT:=dC (ai bA (aa (ae 1) (aa (ae 0) aj)))
abbrev SV:FT:=dC (ai bA (aa (ae 0) (aa (ae 1) aj)))
def eS (jl:ad8->R D):FS:=(ap (bN MW (ap (aJ 2 (bo [ξ,θ 1] (cY kX) (.one 0) SV (ae 0))) (ap (aJ 3 (bo [ξ,θ 1] (cY kX) (.one 0) Uu (ae 0))) (aB (ai ci (aa (vC (.str "leaf")) (aa (ao bm (ao bm (ae 2) (bP (aa (ae 1) aj))) (ae 3)) aj)))))) aF) (ap (aJ 4 (ai zf (aa kX aj))) (ap (aJ 5 (ai gr (aa (ae 4) (aa (ae 1) aj)))) (ap (aJ 6 (ai jl (aa (ao aV (ao aV (ae 4) (ae 5)) (vC (.int 1))) (aa (ae 1) aj)))) (aB (ai ci (aa (vC (.str "branch")) (aa (ao bm (ao bm (oJ jH (ae 4) eG (bS (ae 5))) (ai gG (aa (ae 6) aj))) (oJ jH (ae 4) (bS (ao bm (ae 5) (vC (.int 1)))) eG)) aj))))))))
def c6:Nat->(ad8->R D)
 | 0=>(fun _=>.no)
 | n+1=>rD (eS ((c6 n))) 2 7
def jl:ad8->R D:=(c6 40)
theorem mM (n:Nat) (g r:D):(c6 (n+1)) [g,r]=fin (eS ((c6 n)) [θ g,θ r,ξ,ξ,ξ,ξ,ξ]):=rfl
abbrev RN:FT:=dC (ai j0 (aa (ae 0) (aa (ae 1) (aa (ae 2) aj))))
def mv:FS:=(ap (bN RN (aB (ae 0)) aF) (aB (ai p5 (aa (ai jl (aa (ae 0) (aa Jx aj))) aj))))
def jf:=rD mv 3 3
abbrev np:FE:=ao aV (ae 0) (vC (.int 2))
abbrev Hr:FE:=bP (aa (ae 0) aj)
def fc (bf:ad8->R D):FS:=(ap Oy (ap (bN (aX (ao bG nX (vC (.str "and")))) (aB (ao bm (ai bf (aa kX aj)) (ai bf (aa np aj)))) aF) (aB Hr)))
def bz:Nat->(ad8->R D)
 | 0=>(fun _=>.no)
 | n+1=>rD (fc ((bz n))) 1 1
def bf:ad8->R D:=(bz 100)
abbrev xP:FE:=ao aV (ae 2) (vC (.int 1))
abbrev BX:FE:=ao aV (ae 2) (vC (.int 0))
abbrev Rl:FE:=ao ia (oJ jH (ae 0) eG (bS (ae 3))) (ai gG (aa (ae 5) aj))
def mr:FS:=(ap (bN Lk (ap (aJ 3 (vC (.int 0))) (aJ 4 (ao ia xP (ao aV (ao aV kX (vC (.int 1))) (vC (.int 1)))))) (ap (aJ 3 (ao lJ (ae 1) (vC (.int 1)))) (aJ 4 (ao ia (ao aV (ao aV (ao aV (ae 0) (ae 3)) (vC (.int 1))) (vC (.int 1))) xP)))) (ap (aJ 5 (ai ci (aa BX (aa (ae 4) aj)))) (aB (bt (aa (vC (.str "branch")) (aa (ai gQ (aa (ao ia Rl (oJ jH (ae 0) (bS (ao ia (ae 3) (vC (.int 2)))) eG)) aj)) aj))))))
def qQ:=rD mr 3 6
theorem Hj (g u r:D):qQ [g,u,r]=fin (mr [θ g,θ u,θ r,ξ,ξ,ξ]):=rfl
abbrev UI:FS:=aJ 3 (ai gr (aa (ae 2) (aa (ae 1) aj)))
abbrev Gd:FT:=aX (ao kA (ae 0) (ae 1))
def cL (eI:ad8->R D):FS:=(ap (bN MW (aB (bt (aa (vC (.str "leaf")) (aa (ai gQ (aa (bo [ξ,θ 1] (cY kX) (.one 0) Gd (ae 0)) aj)) aj)))) aF) (ap (aJ 2 (ai zf (aa kX aj))) (ap UI (ap (aJ 4 (ai eI (aa (ao aV (ao aV (ae 2) (ae 3)) (vC (.int 1))) (aa (ae 1) aj)))) (ap (bN (aX (ao B5 (ai ce (aa GI aj)) (vC qP))) (aB (bt (aa (vC (.str "branch")) (aa (ai gQ (aa (ao bm (ao bm (oJ jH (ae 2) eG (bS (ae 3))) (ai gG (aa (bP (aa (ae 4) aj)) aj))) (oJ jH (ae 2) (bS (ao bm (ae 3) (vC (.int 1)))) eG)) aj)) aj)))) aF) (aB (ai qQ (aa (ae 2) (aa (ae 3) (aa (ae 4) aj))))))))))
def bR:Nat->(ad8->R D)
 | 0=>(fun _=>.no)
 | n+1=>rD (cL ((bR n))) 2 5
def eI:ad8->R D:=(bR 40)
theorem jN (n:Nat) (g r:D):(bR (n+1)) [g,r]=fin (cL ((bR n)) [θ g,θ r,ξ,ξ,ξ]):=rfl
def dz:FS:=(ap (bN (fW RN) (aB (ae 0)) aF) (ap (aJ 3 (ai eI (aa (ae 0) (aa Jx aj)))) (ap (bN (jJ (aX (ao bG sx (vC (.str "branch")))) (aX (ao bG (ai ce (aa pj aj)) (vC (.int 1))))) (aB (ao aV (ao aV pj (vC (.int 0))) (vC (.int 1)))) aF) (aB (ae 3)))))
def du:=rD dz 3 4
theorem oY (g u r:D):du [g,u,r]=fin (dz [θ g,θ u,θ r,ξ]):=rfl
def oQ:FS:=(aB (bt (aa (ai oy (aa nX aj)) (aa kX aj))))
def dR:=rD oQ 1 1
abbrev B1:FE:=ao bG (ae 1) (bP aj)
def gp:FS:=(ap (f6 1 (bP aj)) (ap (fY (cY (ai (ox dR) (aa (ae 0) aj))) (.one 2) (bN (se (aX B1) (aX (ao kA (ao aV (ae 1) A9) (ae 2)))) (bK 1 (ae 2)) aF)) (ap (bN (aX B1) (aB (ai iA aj)) aF) (aB (ai p5 (aa (ai ci (aa (vC (.str "leaf")) (aa (ae 1) aj))) aj))))))
def i6:=rD gp 1 3
theorem vj (g:D):i6 [g]=fin (gp [θ g,ξ,ξ]):=rfl
def oC:FS:=(aB (Qa "Table" ["shape","rows","indexes"] (aa (ae 0) (aa (Gx (vC (.dct []))) (aa (Gx (vC (.dct []))) aj)))))
def wG:=rD oC 1 1
abbrev yw:FE:=oX "Table" "rows" (ae 0)
abbrev Em:FE:=oX "Table" "shape" (ae 0)
abbrev Kj:FE:=oX "Table" "indexes" (ae 0)
abbrev LC:FE:=ai eF (aa Em (aa (ae 1) aj))
def jD:FS:=(ap (aJ 3 (ao lZ Kj (ae 1))) (ap (bN (aX (ao ik (ae 2) yw)) (aB (ae 3)) aF) (aB (ai du (aa (ae 3) (aa (ao aV (ao lZ yw (ae 2)) LC) (aa (ae 2) aj)))))))
def gf:=rD jD 3 4
abbrev Rg:FS:=ap (aJ 6 (ai gf (aa (ae 0) (aa (ae 5) (aa (ae 1) aj))))) (lf 4 (ae 5) (ai jf (aa (ae 6) (aa (ao aV (ae 2) (ai eF (aa Em (aa (ae 5) aj)))) (aa (ae 1) aj)))))
def qS:FS:=(ap (f6 3 (ai C3 (aa yw aj))) (ap (lf 3 (ae 1) (ae 2)) (ap (f6 4 (vC (.dct []))) (ap (fY (rN Kj) (.one 5) Rg) (DG 4 (DG 3 (aB (Qa "Table" ["shape","rows","indexes"] (aa Em (aa (ae 3) (aa (ae 4) aj)))))))))))
def lX:=rD qS 3 7
abbrev Sn:FS:=lf 3 (ae 4) (ai gf (aa (ae 0) (aa (ae 4) (aa (ae 1) aj))))
def kT:FS:=(ap (f6 2 (ai C3 (aa yw aj))) (ap (rM 2 (ae 1)) (ap (f6 3 (vC (.dct []))) (ap (fY (rN Kj) (.one 4) Sn) (DG 3 (DG 2 (aB (Qa "Table" ["shape","rows","indexes"] (aa Em (aa (ae 2) (aa (ae 3) aj)))))))))))
def iE:=rD kT 2 5
def mE:FS:=(ap (aJ 2 LC) (aB (bo [ξ,ξ,θ 2] (pY yw) (.tup [0,1]) fS (bt (aa (ao aV (ae 1) (ae 2)) (aa (ae 0) aj))))))
def m7:=rD mE 2 3
def mw:FS:=(ap (f6 2 (ai C3 (aa Kj aj))) (ap (lf 2 (ae 1) (ai i6 (aa (ai m7 (aa (ae 0) (aa (ae 1) aj))) aj))) (DG 2 (aB (Qa "Table" ["shape","rows","indexes"] (aa Em (aa yw (aa (ae 2) aj))))))))
def jj:=rD mw 2 3
def sS:FS:=(ap (bN (se (fW (dC OF)) (se (aX (ao bG vU (vC (.int 0)))) (fW (dC (ai lO (aa nX (aa (vC (.ty "str")) aj))))))) D9 aF) (ap (bN (se (aX (ao (K5 (iw.map (·.1)) "FORMS") nX (vC (.cls "FORMS")))) (aX (ao kA vU (LQ (U8 iw) nX)))) D9 aF) (aB nX)))
def CV:=rD sS 1 1
def mB:FS:=(ap (f6 3 (ai C3 (aa (ae 0) aj))) (ap (lf 3 (ae 1) (ae 2)) (DG 3 (aB (ae 3)))))
def eO:=rD mB 3 4
def gH:FS:=(ap (bN (fW (dC (ai rH (aa (ae 1) aj)))) D9 aF) (ap (bN (aX (ao Cm zV (ae 0))) D9 aF) (aB (ai eO (aa (ae 0) (aa zV (aa (ai wG (aa (ae 1) aj)) aj)))))))
def dE:=rD gH 2 2
abbrev L0:FT:=dC (ai lO (aa (ae 1) (aa (vC (.ty "str")) aj)))
def pU:FS:=(ap (bN (se (fW L0) (aX (ao ik (ae 1) (ae 0)))) D9 aF) (aB (ao lZ (ae 0) (ae 1))))
def qH:=rD pU 2 2
abbrev Ny:FE:=ai qH (aa (ae 0) (aa (ae 1) aj))
def ck:FS:=(ap (aJ 3 Ny) (ap (bN (se (fW (dC (ai lO (aa (ae 2) (aa (vC (.ty "str")) aj))))) (aX (ao isD (ai eF (aa (oX "Table" "shape" (ae 3)) (aa (ae 2) aj))) (vC .non)))) D9 aF) (ap (bN (aX (ao Cm (ae 2) (oX "Table" "indexes" (ae 3)))) D9 aF) (aB (ai eO (aa (ae 0) (aa (ae 1) (aa (ai jj (aa (ae 3) (aa (ae 2) aj))) aj))))))))
def cf:=rD ck 3 4
theorem lm (g u r:D):cf [g,u,r]=fin (ck [θ g,θ u,θ r,ξ]):=rfl
def c7:FS:=(ap (aJ 4 Ny) (ap (bN (fW (dC (ai gc (aa (ae 2) aj)))) D9 aF) (ap (bN (fW (dC (ai E2 (aa (oX "Table" "shape" (ae 4)) (aa (ae 3) aj))))) D9 aF) (aB (ai eO (aa (ae 0) (aa (ae 1) (aa (ai lX (aa (ae 4) (aa (ae 2) (aa (ae 3) aj)))) aj))))))))
def cZ:=rD c7 4 5
theorem nS (g v r u:D):cZ [g,v,r,u]=fin (c7 [θ g,θ v,θ r,θ u,ξ]):=rfl
abbrev Sq:FT:=se (fW (dC (ai gc (aa (ae 1) aj)))) (aX (ao ik (ae 1) yw))
def dw:FS:=(bN Sq D9 aF)
def ga:=rD dw 2 2
theorem ph (g r:D):ga [g,r]=fin (dw [θ g,θ r]):=rfl
def gk:FS:=(ap (aJ 3 Ny) (ap (wC (ai ga (aa (ae 3) (aa (ae 2) aj)))) (aB (ai eO (aa (ae 0) (aa (ae 1) (aa (ai iE (aa (ae 3) (aa (ae 2) aj))) aj)))))))
def dg:=rD gk 3 4
abbrev HU:FE:=ao aV (ae 1) (vC (.int 2))
def sM:FS:=(ap (aJ 2 (ai CV (aa (ae 1) aj))) (ap (bN (aX (ao bG (ae 2) (vC (.str "table")))) (aB (ai dE (aa (ae 0) (aa uR aj)))) aF) (ap (bN (aX (ao bG (ae 2) (vC (.str "index")))) (aB (ai cf (aa (ae 0) (aa uR (aa HU aj))))) aF) (ap (bN (aX (ao bG (ae 2) (vC (.str "put")))) (aB (ai cZ (aa (ae 0) (aa uR (aa HU (aa (ao aV (ae 1) (vC (.int 3))) aj)))))) aF) (aB (ai dg (aa (ae 0) (aa uR (aa HU aj)))))))))
def gx:=rD sM 2 3
abbrev LV:FE:=ai gx (aa (ae 2) (aa (ae 3) aj))
def kR:FS:=(ap (aJ 2 (ae 0)) (ap (fY (cY (ae 1)) (.one 3) (aJ 2 LV)) (aB (ae 2))))
def kQ:=rD kR 2 4
def oq:FS:=(ap (bN (aX (ao vB (ae 1) vU)) (aB (ao aV (ae 0) (ae 1))) aF) (aB (vC (.int 0))))
def cR:=rD oq 2 2
abbrev Qs:FS:=ap (aJ 3 (ao bc (ao bm (ao bm (ao jI (ae 3) (vC (.int 48271))) (vC (.int 11))) (ae 4)) (vC (.int 2147483647)))) (bK 2 (ae 3))
def jq:FS:=(ap (f6 2 (bP aj)) (ap (aJ 3 (ao bc (ae 0) (vC (.int 2147483647)))) (ap (fY (fE (aa (ae 1) aj)) (.one 4) Qs) (aB (ae 2)))))
def cV:=rD jq 2 5
theorem ze (g r:D):cV [g,r]=fin (jq [θ g,θ r,ξ,ξ,ξ]):=rfl
def wO:FS:=(aB (ao aV (bP (aa (bt (aa (vC (.int 5)) (aa (vC (.int 3)) aj))) (aa (bt (aa (vC (.int 4)) (aa (vC (.int 3)) aj))) (aa (bt (aa (vC (.int 12)) (aa (vC (.int 2)) aj))) (aa (bt (aa (vC (.int 30)) (aa (vC (.int 1)) aj))) (aa (bt (aa (vC (.int 3)) (aa (vC (.int 2)) aj))) aj)))))) (ao bc (ae 0) (vC (.int 5)))))
def wy:=rD wO 1 1
abbrev Ck:FE:=ao bc (ae 0) (vC (.int 6))
abbrev F2:FE:=ao jI (ae 0) (ae 0)
abbrev Uz:FE:=bo [ξ,θ 2,θ 0] (fE (aa (ao bm (vC (.int 1)) Ck) aj)) (.one 0) fS (ao aV (ae 1) (ao bc (ao bm (ao cp (ae 2) (vC (.int 7))) (ao jI F2 (vC (.int 5)))) (vC (.int 26))))
abbrev Ls:FE:=ao bm (ai ce (aa (ae 3) aj)) (vC (.int 1))
def md:FS:=(ap (aJ 2 (vC (.str "abcdefghijklmnopqrstuvwxyz"))) (ap (aJ 3 (Qd mf (vC (.str "")) (aa Uz aj))) (ap (aJ 4 (ao bc (ao cp (ae 0) (vC (.int 11))) Ls)) (aB (ao bm (ao bm (ao bm (oJ jH (ae 3) eG (bS (ae 4))) (vC (.str "q"))) (oJ jH (ae 3) (bS (ae 4)) eG)) (ao aV (ae 2) (ao bc (ao bm (ao cp (ae 0) (vC (.int 13))) (ae 1)) (vC (.int 26)))))))))
def mj:=rD md 2 5
theorem Fw (g r:D):mj [g,r]=fin (md [θ g,θ r,ξ,ξ,ξ]):=rfl
abbrev SU:FE:=ao lJ (ao bc (ao jI F2 (vC (.int 48271))) (ao lJ (ao jI (vC (.int 2)) CD) (vC (.int 1)))) (ao lJ CD (vC (.int 1)))
abbrev Hh:FE:=ao cp (ae 0) (vC (.int 6))
abbrev IU:FE:=ao bG (ae 1) (vC (.str "text"))
def kE:FS:=(ap (aJ 2 (vC (.str " !\"#$&'()*+,-./09:;<=>?@AZ[\\]^_`abyz{|}~"))) (ap (bN (aX (ao bG Ck (vC (.int 0)))) (aB (vC .non)) aF) (ap (bN (jJ (aX IU) (aX (ao bG Ck (vC (.int 5))))) (aB (Qd mf (vC (.str "")) (aa (bo [ξ,θ 2,θ 0] (fE (aa (ao bc Hh (vC (.int 41))) aj)) (.one 0) fS (ao aV (ae 1) (ao bc (ao bm (ao cp (ae 2) (vC (.int 7))) (ao jI F2 (vC (.int 13)))) (vC (.int 40))))) aj))) aF) (ap (bN (aX IU) (aB (ao aV (bP (aa (vC (.str "")) (aa (vC (.str "a")) (aa (vC (.str "ab")) (aa (vC (.str "b")) (aa (vC (.str "B")) (aa (vC (.str "a~")) aj))))))) (ao bc Hh (vC (.int 6))))) aF) (ap (bN (aX (ao bG Ck (vC (.int 5)))) (ap (aJ 3 SU) (aB (ao aV (bP (aa (ao lJ CD (vC (.int 1))) (aa (ao lJ (vC (.int 1)) CD) (aa (ao lJ CD (vC (.int 2))) (aa (ae 3) aj))))) (ao bc Hh (vC (.int 4)))))) aF) (aB (ao lJ (ao bc Hh (vC (.int 4))) (vC (.int 1)))))))))
def dU:=rD kE 2 4
theorem CK (g r:D):dU [g,r]=fin (kE [θ g,θ r,ξ,ξ]):=rfl
abbrev Rq:FS:=bK 2 (bt (aa (ai mj (aa kX (aa (ae 3) aj))) (aa (ao aV (bP (aa (vC (.str "number")) (aa (vC (.str "number")) (aa (vC (.str "text")) aj)))) (ao bc (ao aV (ae 0) (ao bm (vC (.int 3)) (ae 3))) (vC (.int 3)))) aj)))
abbrev Tc:FE:=bP (aa (vC (.int 3)) (aa (vC (.int 3)) (aa (vC (.int 3)) (aa (vC (.int 8)) aj))))
def tW:FS:=(ap (f6 2 (bP aj)) (ap (fY (fE (aa (ao bm (vC (.int 1)) (ao bc np (ao aV Tc (ao bc (ao cp np (vC (.int 24))) (vC (.int 4)))))) aj)) (.one 3) Rq) (aB (bt (aa (ai mj (aa nX (aa (ae 1) aj))) (aa (ai gQ (aa (ae 2) aj)) aj))))))
def tX:=rD tW 2 4
abbrev Ff:FE:=ao aV (ae 1) (ae 0)
def pH:FS:=(ap (aJ 2 (ai cV (aa (ae 0) (aa (ai ce (aa uR aj)) aj)))) (aB (ai gQ (aa (bo [ξ,θ 2,θ 1] (fE (aa (ai ce (aa uR aj)) aj)) (.one 0) fS (ai dU (aa Ff (aa (ao aV (ao aV xP (ae 0)) (vC (.int 1))) aj)))) aj))))
def pD:=rD pH 2 3
theorem JD (g r:D):pD [g,r]=fin (pH [θ g,θ r,ξ]):=rfl
abbrev zg:ad1:=["_law_shape_here","_law_xs","_law_k","_law_most_here","_law_early","_law_late","_law_puts","_law_j","_law_x","_law_number"]
abbrev Q1:FS:=ap (aJ 9 (ao bm (ao bm (ao bm (vC (.int 1)) (ae 2)) (ao jI (vC (.int 3)) (ao bc (ao jI (ao bm (ae 7) (ao aV (ae 1) (vC (.int 8)))) (vC (.int 7))) (vC (.int 50))))) (ao jI (ao lJ (ao zO (vC (.int 10)) (vC (.int 9))) (vC (.int 200))) (ai Ey (aa (ao bG (ao bc (ao aV (ae 1) (vC (.int 13))) (vC (.int 4))) (vC (.int 0))) aj))))) (bK 6 (bt (aa (vC (.str "put")) (aa nX (aa (ae 9) (aa (ai pD (aa (ae 8) (aa (ae 0) aj))) aj))))))
abbrev UM:FS:=bK 6 (bt (aa (vC (.str "put")) (aa nX (aa (ao aV (ao aV (ae 6) (ao bc (ao aV (ae 1) (vC (.int 11))) (ai ce (aa (ae 6) aj)))) (vC (.int 2))) (aa (ai pD (aa (ao aV (ae 1) (vC (.int 12))) (aa (ae 0) aj))) aj)))))
abbrev M9:FE:=ao bc (ao aV (ae 1) (vC (.int 10))) (vC (.int 3))
abbrev T5:FE:=bP (aa (bt (aa (vC (.str "index")) (aa nX (aa (ao aV (ao aV kX (ao bc (ao aV (ae 1) (vC (.int 6))) (ai ce (aa kX aj)))) (vC (.int 0))) aj)))) aj)
abbrev NQ:FE:=ao bG (ao bc (ao aV (ae 1) (vC (.int 5))) (vC (.int 2))) (vC (.int 0))
abbrev SL:FS:=bN (aX (ao bG (ao bc (ao aV (ae 1) (vC (.int 14))) (vC (.int 3))) (vC (.int 0)))) (aJ 4 (ao UU (ae 4) A9)) aF
abbrev Je:FE:=ao aV (ae 3) (vC (.int 4))
abbrev SF:FS:=bK 6 (bt (aa (vC (.str "drop")) (aa nX (aa (ao aV (ao aV (ae 6) (vC (.int 0))) (vC (.int 2))) aj))))
abbrev TY:FE:=ao x5 (ai ce (aa (ae 6) aj)) (vC (.int 2))
abbrev QR:FT:=aX (ao bG (ao bc (ao cp Je (ao bm (ae 0) (vC (.int 1)))) (vC (.int 3))) (vC (.int 0)))
abbrev RE:FT:=jJ (aX (ao kA (ae 6) (bP aj))) (aX (ao x5 M9 (vC (.int 0))))
abbrev Mj:FE:=bt (aa (vC (.str "index")) (aa BX (aa zV aj)))
abbrev Gp:FE:=ao bG (ae 4) (bP aj)
abbrev Ln:FT:=jJ (aX TY) (aX (ao bG M9 (vC (.int 1))))
def iZ:FS:=(ap (aJ 4 (bo [ξ,ξ,θ 0,θ 1] (cq (aa kX aj)) (.tup [0,1]) QR Mj)) (ap SL (ap (aJ 5 (bP aj)) (ap (bN (jJ (aX NQ) (aX Gp)) (aJ 5 T5) aF) (ap (f6 6 (bP aj)) (ap (fY (cq (aa (ai cV (aa (ao aV (ae 1) (vC (.int 9))) (aa (ao bc (ao aV (ae 1) (vC (.int 7))) (ao bm (ae 3) (vC (.int 1)))) aj))) aj)) (.tup [7,8]) Q1) (ap (bN RE UM aF) (ap (bN Ln SF aF) (aB (ao bm (ao bm (ae 4) (ae 6)) (ae 5)))))))))))
def lM:=rD iZ 4 10
theorem yK (g v r u:D):lM [g,v,r,u]=fin (iZ [θ g,θ v,θ r,θ u,ξ,ξ,ξ,ξ,ξ,ξ]):=rfl
abbrev Ri:FE:=bP (aa (ao bm (ao cp (ae 0) (vC (.int 5))) (ao bc (ao aV (ae 5) (vC (.int 0))) (vC (.int 2)))) aj)
abbrev QF:FE:=ao bm (ao cp (ae 0) (vC (.int 3))) (ao jI (vC (.int 11)) (ae 4))
abbrev Lw:FE:=oJ jH (ae 5) (bS (vC (.int 1))) eG
abbrev XR:FS:=ap (aJ 5 (ai cV (aa QF (aa (vC (.int 16)) aj)))) (ap (bK 3 (ai tX (aa (ao bm Ri Lw) (aa (ae 4) aj)))) (aJ 2 (ao bm (ao bm (ae 2) (bP (aa (bt (aa (vC (.str "table")) (aa (ao aV (ae 3) (ae 4)) aj))) aj))) (ai lM (aa (ao aV (ae 3) (ae 4)) (aa (ae 5) (aa (ae 4) (aa (ae 1) aj))))))))
def oE:FS:=(ap (aJ 2 (bP aj)) (ap (f6 3 (bP aj)) (ap (fY (fE (aa (ao bm (vC (.int 1)) (ao bc (ae 0) (vC (.int 3)))) aj)) (.one 4) XR) (aB (bt (aa (ae 3) (aa (ae 2) aj)))))))
def ot:=rD oE 2 6
abbrev nP:ad1:=["_law_changes_here","_law_stock_here","_law_change"]
abbrev nR:ad1:=["_law_changes_here"]
abbrev KI:FE:=ao aV (ae 2) (vC (.int 2))
def tM:FS:=(ap (zj 1 2 (cY (ae 0)) (tU (aX (ao bG BX (vC (.str "table")))) (ao aV xP (vC (.int 0))) (aX (ao bG BX (vC (.str "put")))) xP KI (ao aV (ae 2) (vC (.int 3))) (aX (ao bG BX (vC (.str "drop")))) xP KI)) (aB (ae 1)))
def iS:ad8->R D:=uC tM nP nR
abbrev LF:FE:=ai ce (aa (ao aV (ae 1) (ae 2)) aj)
def xi:FS:=(ap (aJ 2 (ao bc (ae 0) rf)) (aB (bt (aa (vC (.str "cell")) (aa (ae 2) (aa (ao bc (ao cp (ae 0) (vC (.int 8))) LF) aj))))))
def fV:=rD xi 2 3
abbrev UP:FE:=bP (aa (vC (.str "number")) (aa (vC (.str "text")) aj))
abbrev Rp:FS:=bN (aX (ao bG (ao bc (ae 0) (vC (.int 17))) (vC (.int 0)))) (aJ 2 (bt (aa (vC (.str "value")) (aa (ai dU (aa (ao cp (ae 0) (vC (.int 41))) (aa (ao aV UP (ao bc (ao cp (ae 0) (vC (.int 17))) (vC (.int 2)))) aj))) aj)))) aF
abbrev QQ:FS:=bN (aX (ao bG (ao bc (ae 0) (vC (.int 13))) (vC (.int 0)))) (aJ 4 (bt (aa (vC (.str "value")) (aa (ai dU (aa (ao cp (ae 0) (vC (.int 97))) (aa (ao aV UP (ao bc (ao cp (ae 0) (vC (.int 13))) (vC (.int 2)))) aj))) aj)))) aF
abbrev SC:FS:=aJ 3 (ao aV (bP (aa (vC (.str "=")) (aa (vC (.str "<>")) (aa (vC (.str "<")) (aa (vC (.str "<=")) (aa (vC (.str ">")) (aa (vC (.str ">=")) (aa (vC (.str "=")) (aa (vC (.str "=")) aj))))))))) (ao bc (ao cp (ae 0) (vC (.int 3))) (vC (.int 8))))
abbrev RQ:FS:=aJ 4 (bt (aa (vC (.str "value")) (aa (ai dU (aa (ao cp (ae 0) (vC (.int 97))) (aa (ao aV (ao aV (ae 1) xP) KI) aj))) aj)))
abbrev SQ:FS:=bN (aX (ao bG (ao bc (ae 0) (vC (.int 3))) (vC (.int 0)))) (aJ 4 (ai fV (aa (ao cp (ae 0) (vC (.int 101))) (aa (ae 1) aj)))) aF
abbrev Ms:FS:=aJ 2 (ai fV (aa Hh (aa (ae 1) aj)))
def mQ:FS:=(ap Ms (ap SC (ap RQ (ap SQ (ap QQ (ap Rp (ap (bN (aX (ao bG (ao bc (ao cp (ae 0) (vC (.int 5))) (vC (.int 3))) (vC (.int 0)))) (aB (bt (aa (vC (.str "test")) (aa (ae 3) (aa (ae 4) (aa (ae 2) aj)))))) aF) (aB (bt (aa (vC (.str "test")) (aa (ae 3) (aa (ae 2) (aa (ae 4) aj)))))))))))))
def rC:=rD mQ 2 5
theorem Ep (g r:D):rC [g,r]=fin (mQ [θ g,θ r,ξ,ξ,ξ]):=rfl
abbrev N1:FE:=ao bc (ao cp (ae 3) (vC (.int 11))) (vC (.int 5))
abbrev X9:FS:=bN (aX (ao isD (ae 2) (vC .non))) (aJ 2 (ae 4)) (bN (aX (ao bG N1 (vC (.int 0)))) (aJ 2 (bt (aa (vC (.str "or")) (aa (ae 2) (aa (ae 4) aj))))) (bN (aX (ao bG N1 (vC (.int 1)))) (aJ 2 (bt (aa (vC (.str "and")) (aa (ae 4) (aa (ae 2) aj))))) (bN (aX (ao bG N1 (vC (.int 2)))) (aJ 2 (bt (aa (vC (.str "or")) (aa (ae 4) (aa (ae 2) aj))))) (aJ 2 (bt (aa (vC (.str "and")) (aa (ae 2) (aa (ae 4) aj))))))))
abbrev Qm:FS:=bN (aX (ao bG (ao bc (ao cp (ae 3) (vC (.int 7))) (vC (.int 6))) (vC (.int 0)))) (aJ 4 (bt (aa (vC (.str "not")) (aa (ae 4) aj)))) aF
abbrev Mh:FS:=aJ 4 (ai rC (aa (ae 3) (aa (ae 1) aj)))
abbrev Ur:FS:=ap Mh (ap Qm (ap X9 (bN (aX (ao bG (ao bc (ao cp (ae 3) (vC (.int 17))) (vC (.int 7))) (vC (.int 0)))) (aJ 2 (bt (aa (vC (.str "not")) (aa (ae 2) aj)))) aF)))
def kP:FS:=(ap (aJ 2 (vC .non)) (ap (fY (cY (ae 0)) (.one 3) Ur) (aB (ae 2))))
def fK:=rD kP 2 5
abbrev Sz:FT:=jJ (aX (ao x5 vU (vC (.int 3)))) (aX (ao bG (ao bc nX (vC (.int 3))) (vC (.int 0))))
abbrev V2:FS:=ap (aJ 2 (ao cp vU (vC (.int 2)))) (ap (bN Sz (ap (aJ 3 (ao aV (bP (aa (vC (.str "and")) (aa (vC (.str "or")) aj))) (ao bc (ao cp nX (vC (.int 3))) (vC (.int 2))))) (aB (bt (aa (ae 3) (aa (ai fK (aa (oJ jH (ae 0) eG (bS (ae 2))) (aa (ae 1) aj))) (aa (ai fK (aa (oJ jH (ae 0) (bS (ae 2)) eG) (aa (ae 1) aj))) aj)))))) aF) (aB (ai fK (aa (ae 0) (aa (ae 1) aj)))))
def je:FS:=V2
def lI:=rD je 2 4
theorem yN (g r:D):lI [g,r]=fin (je [θ g,θ r,ξ,ξ]):=rfl
abbrev Mm:FE:=ai fV (aa (ae 0) (aa (ae 1) aj))
abbrev WZ:FS:=aJ 10 (ai gQ (aa (bo [ξ,θ 5] (cY (oJ jH (ae 3) (bS (vC (.int 14))) (bS (ao bm (vC (.int 15)) (ao bc (ao aV (ae 3) (vC (.int 13))) (ao aV Tc (ao bc (ao cp (ao aV (ae 3) (vC (.int 13))) (vC (.int 24))) (vC (.int 4))))))))) (.one 0) fS Mm) aj))
abbrev FM:FE:=ao aV (ae 5) (vC (.int 1))
abbrev Yv:FE:=bt (aa (vC (.str "test")) (aa (vC (.str "=")) (aa (bt (aa (vC (.str "cell")) (aa (vC (.int 1)) (aa (ao bc (ao aV (ae 3) (vC (.int 21))) (ai ce (aa FM aj))) aj)))) (aa (bt (aa (vC (.str "cell")) (aa (vC (.int 0)) (aa (ao bc (ao aV (ae 3) (vC (.int 22))) (ai ce (aa (ao aV (ae 5) (vC (.int 0))) aj))) aj)))) aj))))
abbrev Ui:FT:=jJ (aX (ao bG (ae 2) (vC (.int 1)))) (aX (ao bG (ao bc Je (vC (.int 2))) (vC (.int 0))))
abbrev V4:FS:=bN Ui (aJ 6 (ai cV (aa (ao bm (ae 0) (vC (.int 7))) (aa (ao bc (ao cp Je (vC (.int 2))) (vC (.int 20))) aj)))) aF
abbrev XF:FS:=aJ 9 (ai gQ (aa (bo [ξ,θ 5] (cY (oJ jH (ae 3) (bS (vC (.int 11))) (bS (ao bm (vC (.int 11)) (ao bc (ao aV (ae 3) (vC (.int 10))) (ao aV (bP (aa (vC (.int 3)) (aa (vC (.int 3)) (aa (vC (.int 3)) (aa (vC (.int 9)) aj))))) (ao bc (ao cp (ao aV (ae 3) (vC (.int 10))) (vC (.int 9))) (vC (.int 4))))))))) (.one 0) fS (bt (aa Mm (aa (ao bG (ao bc (ao cp (ae 0) (vC (.int 64))) (vC (.int 2))) (vC (.int 1))) aj)))) aj))
abbrev Kb:FS:=aJ 6 (oJ jH (ae 3) (bS (vC (.int 5))) (bS (ao bm (vC (.int 5)) (ao bc Je (vC (.int 5))))))
abbrev GQ:FE:=ai ce (aa (ae 4) aj)
abbrev TQ:FT:=jJ (aX (ao x5 GQ (vC (.int 1)))) (aX (ao bG (ao bc (ao aV (ae 3) (vC (.int 20))) (vC (.int 2))) (vC (.int 0))))
abbrev SR:FS:=bN TQ (ap (aJ 8 Yv) (aJ 7 (ao aV (bP (aa (bt (aa (vC (.str "and")) (aa (ae 8) (aa (ae 7) aj)))) (aa (ae 8) aj))) (ai Ey (aa (ao isD (ae 7) (vC .non)) aj))))) aF
abbrev QK:FS:=aJ 12 (ai gQ (aa (bo [ξ,θ 4] (fE (aa GQ aj)) (.one 0) fS (bt (aa (ao aV Ff (vC (.int 0))) (aa (ao bm (oJ jH (ao aV Ff (vC (.int 0))) eG (bS (vC (.int 1)))) (ao aV (vC (.str "abc")) (ae 0))) aj)))) aj))
abbrev Ud:FS:=aJ 11 (ao aV (bP (aa (vC .non) (aa (vC .non) (aa (ao bc (ao aV (ae 3) (vC (.int 19))) (vC (.int 4))) (aa (ao bc (ao aV (ae 3) (vC (.int 19))) (vC (.int 40))) aj))))) (ao bc (ao aV (ae 3) (vC (.int 18))) (vC (.int 4))))
abbrev Qk:FS:=aJ 4 (bo [ξ,θ 1] (cY (oJ jH (ae 3) (bS (vC (.int 1))) (bS (ao bm (vC (.int 2)) (ao bc sx (ae 2)))))) (.one 0) fS (ao aV (ae 1) (ao bc (ao cp (ae 0) (vC (.int 7))) rf)))
abbrev QC:FS:=aJ 5 (bo [ξ] (cY (ae 4)) (.one 0) fS (bo [ξ] (cY kX) (.one 0) fS kX))
def mC:FS:=(ap (aJ 3 (ai cV (aa (ae 0) (aa (vC (.int 24)) aj)))) (ap Qk (ap QC (ap Kb (ap V4 (ap (aJ 7 (ai lI (aa (ae 6) (aa (ae 5) aj)))) (ap SR (ap XF (ap WZ (ap Ud (ap QK (aB (bt (aa (vC (.str "ask")) (aa (ae 12) (aa (ae 7) (aa (ae 9) (aa (ae 10) (aa (ae 11) aj)))))))))))))))))))
def mT:=rD mC 3 13
theorem DR (g u r:D):mT [g,u,r]=fin (mC [θ g,θ u,θ r,ξ,ξ,ξ,ξ,ξ,ξ,ξ,ξ,ξ,ξ]):=rfl
def wI:FS:=(ap (bN (aX vo) (aB (bt (aa (vC (.int 0)) (aa (vC (.int 0)) (aa (vC (.str "")) aj))))) aF) (ap (bN (dC CZ) (aB (bt (aa (vC (.int 2)) (aa (vC (.int 0)) (aa (ae 0) aj))))) aF) (aB (bt (aa (vC (.int 1)) (aa (ae 0) (aa (vC (.str "")) aj)))))))
def qW:=rD wI 1 1
def xX:FS:=(ap (bN (aX (ao bG nX (vC (.str "value")))) (aB (ai qW (aa kX aj))) aF) (aB (ai qW (aa (ao aV (ao aV (ae 1) kX) np) aj))))
def pW:=rD xX 2 2
def fG (dJ:ad8->R D):FS:=(ap (bN (aX vo) (aB (vC (.bl ζ))) aF) (ap (bN (aX (ao bG nX (vC (.str "not")))) (aB (wg (ai dJ (aa kX (aa (ae 1) aj))))) aF) (ap (bN (aX (ao bG nX (vC (.str "and")))) (aB (fh (ai dJ (aa kX (aa (ae 1) aj))) (ai dJ (aa np (aa (ae 1) aj))))) aF) (ap (bN (aX (ao bG nX (vC (.str "or")))) (aB (Im (ai dJ (aa kX (aa (ae 1) aj))) (ai dJ (aa np (aa (ae 1) aj))))) aF) (ap (aJ 2 (ai pW (aa np (aa (ae 1) aj)))) (ap (aJ 3 (ai pW (aa (ao aV (ae 0) (vC (.int 3))) (aa (ae 1) aj)))) (ap (aJ 4 (Gx (ue [("=",(ao bG (ae 2) (ae 3))),("<>",(ao kA (ae 2) (ae 3))),("<",(ao (DL .lt) (ae 2) (ae 3))),("<=",(ao (DL .le) (ae 2) (ae 3))),(">",(ao (DL .gt) (ae 2) (ae 3)))]))) (aB (sQ (ae 4) kX (ao (DL .ge) (ae 2) (ae 3)))))))))))
def fm:Nat->(ad8->R D)
 | 0=>(fun _=>.no)
 | n+1=>rD (fG ((fm n))) 2 5
def dJ:ad8->R D:=(fm 100)
theorem lY (n:Nat) (g r:D):(fm (n+1)) [g,r]=fin (fG ((fm n)) [θ g,θ r,ξ,ξ,ξ]):=rfl
abbrev JC:FE:=ai Hn (aa (ao lZ (ae 1) (ae 3)) aj)
abbrev LY:FS:=bK 5 (ao ia (ae 6) (bt (aa (ae 7) aj)))
def Ag:FS:=(ap (aJ 2 (bP (aa (bt aj) aj))) (ap (fY (cY kX) (.tup [3,4]) (ap (f6 5 (bP aj)) (ap (fY (cY (ae 2)) (.one 6) (fY (cY (ai oO (aa JC aj))) (.one 7) LY)) (aJ 2 (ae 5))))) (aB (ae 2))))
def Bx:=rD Ag 2 8
def jw:FS:=(aB (bo [ξ,θ 2,θ 1,θ 0] (fE (aa (ai ce (aa (ae 2) aj)) aj)) (.one 0) fS (tG (ao lZ (ae 2) (ao aV (ao aV pj (ae 0)) (vC (.int 0)))) Ff)))
def jr:=rD jw 3 3
theorem z6 (g u r:D):jr [g,u,r]=fin (jw [θ g,θ u,θ r]):=rfl
def gS:FS:=(ap (bN (se (aX (ao isD (ae 1) (vC .non))) L0) (aB (fh G7 (Im vo CZ))) aF) (aB (fh PZ (fh (wg NX) G7))))
def gz:=rD gS 2 2
theorem qk (g r:D):gz [g,r]=fin (gS [θ g,θ r]):=rfl
abbrev Lr:FS:=aJ 1 (oJ jH (ae 1) (bS (vC (.int 1))) eG)
abbrev TM:FS:=ap (aJ 3 zV) (ap Lr (bN (aX (ao bG sx (vC (.str "and")))) (aJ 1 (ao bm (bP (aa pj (aa Dz aj))) (ae 1))) (bK 2 (ae 3))))
abbrev Pw:FT:=aX (ao kA (ae 1) (bP aj))
def tf:FS:=(ap Oy (ap (aJ 1 Hr) (ap (f6 2 (bP aj)) (ap (b5 Pw TM 1000) (aB (ae 2))))))
def sP:=rD tf 1 4
abbrev R9:FS:=bN (aX (ao bG sx (vC (.str "cell")))) (bK 2 pj) (bN (aX (ao bG sx (vC (.str "test")))) (gv 1 (bP (aa Dz (aa (ao aV (ae 3) (vC (.int 3))) aj)))) (bN (aX (ao kA sx (vC (.str "value")))) (gv 1 (ai zf (aa (oJ jH (ae 3) (bS (vC (.int 1))) eG) aj))) aF))
def qb:FS:=(ap (f6 1 Hr) (ap (f6 2 (bP aj)) (ap (b5 Pw (ap (jc 1 (cO (.one 3))) R9) 1000) (aB (ai ir (aa (ae 2) aj))))))
def rT:=rD qb 1 4
abbrev UE:FE:=ao kA (ai cQ (aa (ae 0) (aa (ae 1) (aa (ae 3) (aa (bt (aa (vC (.str "value")) (aa (vC (.int 7)) aj))) aj))))) (vC (.int 7))
abbrev GY:FE:=ao aV (ae 5) (vC (.int 2))
def kB:FS:=(ap (aJ 4 (ai jr (aa (ae 0) (aa (ae 2) (aa (ae 3) aj))))) (ap (aJ 5 (ao aV (ao aV (ae 0) (vC (.int 4))) (vC (.int 0)))) (ap (bN (fW (dC (ai gz (aa (ai cQ (aa (ae 0) (aa (ae 1) (aa (ae 3) (aa (ae 5) aj))))) (aa (ao aV (ao aV (ae 4) FM) GY) aj))))) (aB (vC (.bl η))) aF) (ap (bN (se (aX UE) (aX (ao isD np (vC .non)))) (aB (ao isD np (vC .non))) aF) (ap (aJ 6 (ai i7 (aa (ae 0) (aa (ae 1) (aa (ae 3) (aa np aj)))))) (aB (fh (ai lO (aa (ae 6) (aa (vC (.ty "bool")) aj))) (ao bG (ae 6) (ai dJ (aa np (aa (ae 4) aj)))))))))))
def nY:=rD kB 4 7
theorem Ds (g v r u:D):nY [g,v,r,u]=fin (kB [θ g,θ v,θ r,θ u,ξ,ξ,ξ]):=rfl
abbrev Me:FE:=ai cR (aa (ae 0) (aa (vC (.int 1)) aj))
abbrev JK:FE:=ai mT (aa Me (aa (ae 3) (aa (ae 2) aj)))
abbrev Tj:FS:=bN (fW (dC (ai nY (aa (ae 5) (aa (ae 6) (aa (ae 7) (aa (ao aV (ae 10) (ae 11)) aj))))))) (aB (vC (.bl η))) aF
abbrev So:FS:=bN (aX (ao DD (oX "Table" "rows" (ao lZ (ae 6) (ae 12))) (ao lZ (ae 7) (ae 12)))) (aB (vC (.bl η))) aF
abbrev SJ:FS:=bN (aX (ao kA (ai ou (aa (ae 9) aj)) (ai rT (aa (ae 9) aj)))) (aB (vC (.bl η))) aF
abbrev Pt:FE:=ai ce (aa (ae 10) aj)
def xu:FS:=(ap (Dw (cO (.tup [1,2])) (ai wy (aa (ai cR (aa (ae 0) (aa (vC (.int 4)) aj))) aj))) (ap (Dw (cO (.tup [3,4])) (ai ot (aa (ao bc (ai cR (aa (ae 0) (aa (vC (.int 0)) aj))) (ao zO (vC (.int 10)) (vC (.int 12)))) (aa (ae 1) aj)))) (ap (aJ 5 JK) (ap (aJ 6 (ai kQ (aa (Gx (vC (.dct []))) (aa (ae 4) aj)))) (ap (aJ 7 (ai iS (aa (ae 4) aj))) (ap (aJ 8 (ai bf (aa GY aj))) (ap (bN (se (fW (dC (ai lO (aa (ae 8) (aa (vC (.ty "list")) aj))))) (aX (ao kA (ae 8) (ai sP (aa GY aj))))) (aB (vC (.bl η))) aF) (ap (fY (cY (ae 8)) (.one 9) SJ) (ap (aJ 10 (ai Bx (aa (ae 5) (aa (ae 7) aj)))) (ap (bN (aX (ao bG (ae 10) (bP aj))) (aB (ao bG (ae 5) JK)) aF) (ap (fY (cY (bP (aa (vC (.int 0)) (aa (ao bc (ai cR (aa (ae 0) (aa (vC (.int 2)) aj))) Pt) (aa (ao bc (ai cR (aa (ae 0) (aa (vC (.int 3)) aj))) Pt) (aa (vC (.int 0)) aj)))))) (.one 11) Tj) (ap (fY (rN (ae 7)) (.one 12) So) (aB (fh (ao bG (ae 5) JK) (ao bG (ai bf (aa GY aj)) (ae 8))))))))))))))))
def xx:=rD xu 1 13
theorem TR (g:D):xx [g]=fin (xu [θ g,ξ,ξ,ξ,ξ,ξ,ξ,ξ,ξ,ξ,ξ,ξ,ξ]):=rfl
abbrev iU:aa0:=match dQ 72 with
 | .ClassDef _ _ _ (st::_) _ _ _ _ _ _ _=>st
 | st=>st
theorem BW:FnScope ["self","shape","rows","indexes"] ["self","shape","rows","indexes"] (aY iU):=⟨rfl,rfl,rfl,by trivial,rfl,by trivial,by trivial⟩
def df (i p d:Nat):Df:=⟨Qf (dQ i),[Qf (dQ i)],i,nN i,p,d,[],[],[],[],1000⟩
def cT:List (Str×D):=[("AHEAD_SIGNS",bC),("BEHIND_SIGNS",br),("COLUMN_KINDS",kg),("FEWEST",qP),("KINDS",kG),("MOST",p0),("MOST_COLUMNS",jX),("MOST_LETTERS",gN),("MOST_ROW_NUMBER",io),("MOST_SIGNS",mm),("NO_NAMES",jt),("SAME_SIGNS",bL)]
noncomputable def zT:ad1:=["isinstance","str","all","len","bool","int","abs","range","tuple","sorted","set","enumerate","zip","list","dict"]
structure Txt (w:Zv) (K:aT) (mg:ad4) (a_FORMS:YS) (es_FORMS:Array DictEntry) (n_FORMS:Nat) (a_Table fi_Table:YS) (di_Table:aaS):Prop where
 co:∀ q∈cT,N8 K mg q
 z:∀ x∈zT,mg x=ξ
 BS:mg "FORMS"=θ (.ref a_FORMS)
 BU:K.lookup a_FORMS=θ ⟨.type "dict",ξ,.dict es_FORMS n_FORMS,#[]⟩
 BV:abr w.params es_FORMS.toList
 pT:∀ y d,iw.lookup y=θ d->∃ v u,Y1 K a_FORMS y=θ (θ u)/\aQ v u/\∀ H,cr K H d v
 xZ:RX K "FORMS" a_FORMS
 vQ:es_FORMS.toList.map (fun e=>Kq e.key)=(iw.map (·.1)).map θ
 vR:(a_FORMS==Z6)=η
 vS:mg "Table"=θ (.ref a_Table)
 iV:RX K "Table" a_Table
 f9:IsC K a_Table
 rV:Mk K a_Table fi_Table
 nh:Fun K "__init__" "Table.__init__" iU fi_Table di_Table
 rX:gi K di_Table ["self","shape","rows","indexes"] []
 eY:eN K a_Table "shape"
 fR:eN K a_Table "rows"
 c8:eN K a_Table "indexes"
def dN:ad1:=["rows","indexes","state","behind","_law_state","_law_stock_here","_law_stock_here[]"]
section
variable (T:Txt w K mg a_FORMS es_FORMS n_FORMS a_Table fi_Table di_Table)
include T
theorem G8:FnOk P w K mg base l8 1 fi_Table di_Table ["self","shape","rows","indexes"] (yL a_Table ["shape","rows","indexes"]):=by
 refine T.nh.ok (k:=0) BW (fun vs H Q E h=>?_) fun v A r s H vs Q E hr h=>?_
 .obtain ⟨x,g,us,rfl,h1,h2,u⟩:=h;exact adZ (·+1) h1
 .refine ⟨_,(qq (zh (pv 0) (pv 1) rfl) (qq (zh (pv 0) (pv 2) rfl) (AK (zh (pv 0) (pv 3) rfl)))),?_⟩;obtain ⟨x,g,us,rfl,h1,h2,u⟩:=h
  match us,h1 with
  | [u0,u1,u2],_ =>
   refine ⟨_,rfl,_,rfl,x,_,g,_,rfl,h2,T.f9.cl,T.eY,(by show (0:Nat) < 1000;decide),_,rfl,_,rfl,x,_,g,_,rfl,aE,T.f9.cl,T.fR,(by show (1:Nat) < 1000;decide),_,rfl,_,rfl,x,_,g,_,rfl,aE,T.f9.cl,T.c8,(by show (2:Nat) < 1000;decide),?_⟩;rw [ux,ux];exact u
omit T in
theorem bO {α:Type} {p:α->Prop} {a:α} {l:List α} (h:p a) (r:∀ x∈l,p x):∀ x∈a::l,p x:=aav.mpr ⟨h,r⟩
def yT:List (Str×D):=[("str",.ty "str"),("int",.ty "int"),("tuple",.ty "tuple"),("list",.ty "list"),("dict",.ty "dict"),("bool",.ty "bool")]
def tB:Tb:=⟨[RH,Uo "len" ce,Uo "tuple" gQ,uz .Add bm,uz .Sub lJ,uz .Mult jI,uz .FloorDiv cp,uz .Mod bc,uz .Pow zO,dj .NotEq DD (xV dN),dj .Eq bG gE,dj .NotEq kA gE,dj .Lt vB gE,dj .LtE DH gE,dj .Gt x5 gE,dj .GtE B5 gE,dj .Is isD gE,dj .In Cm (xV dN),dj .In yG Mw,dj .In L5 gE,dj .NotIn ik (xV dN),dj .NotIn nQ gE,Yr "FORMS" iw,Xj lZ (xV dN),Xj aV gE,U3 jH,QJ,Tp,KK,Fg "Table" "shape",Fg "Table" "rows",Fg "Table" "indexes",U2 "len" "set" i8,U2 "sorted" "set" ir,Lo,fB "len" ce,fB "isinstance" lO,fB "abs" Oc,fB "all" pq,fB "tuple" gQ,fB "int" Ey,fB "list" zf,Vv .USub D4,XO,X7 "join" 1 mf,P5 "get" 1 fun l=>tG (g0 l) (g1 l),P5 "get" 2 fun l=>sQ (g0 l) (g1 l) (g2 l),PQ "KINDS" kG,WB Ac,WB Mn],[KK,Ac,fB "dict" C3],[OB .Eq fun k=>k,OB .NotEq fun k=>!k,VJ "FORMS" (iw.map (·.1)),fQ (dj .NotEq DD (xV dN)),fQ (dj .Eq bG gE),fQ (dj .NotEq kA gE),fQ (dj .Lt vB gE),fQ (dj .LtE DH gE),fQ (dj .Gt x5 gE),fQ (dj .GtE B5 gE),fQ (dj .Is isD gE),fQ (dj .In Cm (xV dN)),fQ (dj .In yG Mw),fQ (dj .In L5 gE),fQ (dj .NotIn ik (xV dN)),fQ (dj .NotIn nQ gE)],[fI "range" 1 η fE,fI "enumerate" 1 ζ cq,fI "zip" 2 ζ DX,FV,LL dN],[UL "append" bK,UL "extend" gv,UL "pop" rM,W0,UQ,Wj,BM,To],yT++cT,dN,[],[],1000⟩
def tE:List Fm:=[U3 yJ,uz .Add ia,fB "list" Hn,dj .Lt (DL .lt) gE,dj .LtE (DL .le) gE,dj .Gt (DL .gt) gE,dj .GtE (DL .ge) gE]
omit T in
theorem dbg:∀ q∈cT,(q.1==("__debug__":Str))=η:=by trivial
theorem hTb (y:FY Y P w K mg base k):TbOk Y ⟨K,mg,E0⟩ tB/\∀ f∈tE,fg Y ⟨K,mg,E0⟩ f:=by
 obtain ⟨e1,e2,e3,e4,e5,hr,cm⟩:=y;subst e1 e2 e3 e4 e5;have y:FY Y Y.prog Y.w Y.K Y.mg Y.base k:=⟨rfl,rfl,rfl,rfl,rfl,hr,cm⟩;have hy:∀ q∈yT,Bj Y ⟨Y.K,Y.mg,E0⟩ q.1 q.2:=(bO (cy (T.z _ (by decide)) (by trivial)) (bO (cy (T.z _ (by decide)) Gk) (bO (cy (T.z _ (by decide)) qI) (bO (cy (T.z _ (by decide)) vD) (bO (cy (T.z _ (by decide)) BL) (bO (cy (T.z _ (by decide)) (by trivial)) (fun _ h=>nomatch h)))))))
 exact ⟨⟨(bO (JF rfl) (bO (Et (T.z _ (by decide)) rfl) (bO (En (T.z _ (by decide)) rfl) (bO (ju (LM _) (QP _)) (bO (ju (WG) ((by
   intro as H x y a b Q hn M db h;unfold lJ at h;split at h
   .cases M;cases db;exact aK h rfl
   .exact h.elim))) (bO (ju (((Nb.or zx).imp fun x y H Q q=>by
   unfold Li at q;split at q
   .exact .inl ⟨_,_,rfl,rfl,q.1,q.2⟩
   .simp_all
   .exact q.elim)) (VO)) (bO (ju (W6) ((by
   intro as H x y a b Q hn M db h;unfold cp at h;split at h
   .cases M;cases db;split at h
    .rename_i I;exact ⟨I,aK h rfl⟩
    .exact h.elim
   .exact h.elim))) (bO (ju (Vm) ((by
   intro as H x y a b Q hn M db h;unfold bc at h;split at h
   .cases M;cases db;split at h
    .rename_i I;exact ⟨I,aK h rfl⟩
    .exact h.elim
   .exact h.elim))) (bO (ju (W2) ((by
   intro as H x y a b Q hn M db h;unfold zO at h;split at h
   .cases M;cases db;split at h
    .rename_i I;exact ⟨I,aK h rfl⟩
    .exact h.elim
   .exact h.elim))) (bO ((aZ (F1 _ y.hr.units) (Rk _)).1) (bO ((aZ (Dk _ y.hr.units) (Q3 _)).1) (bO ((aZ (Pg _ y.hr.units) (XN _)).1) (bO ((aZ Yg Ye).1) (bO ((aZ Yw Yp).1) (bO ((aZ XQ Yt).1) (bO ((aZ Ym Yl).1) (bO ((aZ Ya XW).1) (bO ((aZ (F0 y.hr.units) Tw).1) (bO ((aZ (Qu _ y.hr.units) (Qz _)).1) (bO ((aZ (QH _) (XU _)).1) (bO ((aZ (sZ y.hr.units) Br).1) (bO ((aZ (An _) (GM _)).1) (bO (M5 T.BS T.BU T.BV T.pT) (bO ((HG fun O a b pos φ ψ hs h1 h2=>Tf y.hr.units h1 h2 (MA hs))) (bO ((fun hr hd=>HG fun O a b pos φ ψ hs h1 h2=>qR hr hd h1 h2 (xw hs)) (DF _) (F3 _)) (bO (FJ (oSl _) (V7 _)) (bO ((fun O e es b C h r=>by
   unfold QJ at h;split at h
   .cases h;obtain ⟨φ,ψ,rfl,h1,h2⟩:=E6 r;exact Qx rfl h1 h2
   .cases h)) (bO ((fun O e es b C h r=>by
   unfold Tp at h;split at h
   .split at h
    .rename_i hq;cases h;exact Sk (uP r hq)
    .cases h
   .cases h)) (bO (AR.m) (bO (vH T.iV T.f9.cl T.eY rfl) (bO (vH T.iV T.f9.cl T.fR rfl) (bO (vH T.iV T.f9.cl T.c8 rfl) (bO ((fun h1 h2 hK hc =>  Ex fun O a p1 p2 q1 q2 α g1 g2 hn ha=>Fu h1 h2 ha hK hc g1 g2 hn) (T.z _ (by decide)) (T.z _ (by decide)) rfl y.cm) (bO ((xK (T.z _ (by decide)) (T.z _ (by decide)) rfl y.cm).m) (bO ((Gm (T.z _ (by decide)) rfl y.cm).m) (bO (uM (Tt _) (V9 _) (T.z _ (by decide)) yd) (bO (uM (Ta _) (VD _) (T.z _ (by decide)) (by trivial)) (bO (uM Xq (by
   intro as H xs ds Q hn dv h;unfold Oc at h;split at h
   .obtain ⟨v,rfl,L⟩:=dZ dv;cases L;exact aK h rfl
   .exact h.elim) (T.z _ (by decide)) (by trivial)) (bO (uM (GJ _ y.cm) (Wc _) (T.z _ (by decide)) (by trivial)) (bO (EN (G3 _) (WP _) (T.z _ (by decide)) qI) (bO (EN WE (by
   intro as H xs ds Q hn dv h;unfold Ey at h;split at h
   .obtain ⟨v,rfl,L⟩:=dZ dv;cases L;exact aK h rfl
   .obtain ⟨v,rfl,L⟩:=dZ dv;cases L;exact aK h rfl
   .exact h.elim) (T.z _ (by decide)) Gk) (bO ((yp (N3 _) (VQ _) (T.z _ (by decide)) vD).m) (bO (ND Wh (by
   intro as H x a Q M h;unfold D4 at h;split at h
   .cases M;exact aK h rfl
   .exact h.elim)) (bO ((fun O e es b C h r=>by
   unfold XO at h;split at h
   .cases h;obtain ⟨φ,rfl,h1⟩:=xN r;exact Sv h1
   .cases h;obtain ⟨φ,rfl,h1⟩:=xN r;exact TV h1
   .cases h;obtain ⟨φ,ψ,rfl,h1,h2⟩:=E6 r;exact T9 h1 h2
   .cases h;obtain ⟨φ,ψ,rfl,h1,h2⟩:=E6 r;exact VY h1 h2
   .cases h)) (bO (OI PySem.F.slot_str_join PySem.F.type_str_join (Jd _) (TB _)) (bO (Gi y.hr.units) (bO (Ii y.hr.units) (bO (Ei (T.co _ (YO (i:=4) rfl)) rfl rfl) (bO (Hi wn) (bO (Hi (fun O e es b C h r=>by
   unfold Mn at h;split at h
   .let ⟨xs,h1,h⟩:=dO.mp h
    split at h
    .rename_i hq;cases h;obtain ⟨a,b,c,d⟩:=FD h1 hq.1 r;exact PH a b c (fun e=>by grind) (by rw [c];exact hq.2.2) (by grind)
    .cases h
   .cases h)) (fun _ h=>nomatch h))))))))))))))))))))))))))))))))))))))))))))))))))),(bO (AR) (bO (wn) (bO (yp uW (by
   intro as H xs ds Q hn dv h;unfold C3 at h;split at h
   .obtain ⟨v,rfl,L⟩:=dZ dv;split at h
    .rename_i kvs e;obtain ⟨p,vs,rfl,q1,q2⟩:=fJ L e;exact ⟨p,vs,rfl,(ar _ _).rd q1,fun l I=>h l _ _ (aI I _) I aE ⟨vs,rfl,q2.mono (f8 I (aI I _))⟩⟩
    .exact h.elim
   .exact h.elim) (T.z _ (by decide)) BL) (fun _ h=>nomatch h)))),(bO (BB (Dk _ y.hr.units) rfl) (bO (BB (Pg _ y.hr.units) rfl) (bO ((fun O e es b C h r=>by
   replace h:=dO.mp h
   obtain ⟨⟨u,o,v⟩,h1,h⟩:=h;obtain ⟨pos,rfl,h2⟩:=EL h1;split at h
   .rename_i hq;cases h;let ⟨J,h4,Z⟩:=hq
    obtain ⟨_,rfl⟩:=wA J;obtain ⟨φ,rfl,h6⟩:=xN r;rw [h4];exact qw (Np T.BU T.BV T.vQ T.vR) (W4 T.xZ) h6 (RO T.BS T.xZ (cK Z).1 (cK Z).2) (by rfl)
   .cases h)) (bO ((aZ (F1 _ y.hr.units) (Rk _)).2) (bO ((aZ (Dk _ y.hr.units) (Q3 _)).2) (bO ((aZ (Pg _ y.hr.units) (XN _)).2) (bO ((aZ Yg Ye).2) (bO ((aZ Yw Yp).2) (bO ((aZ XQ Yt).2) (bO ((aZ Ym Yl).2) (bO ((aZ Ya XW).2) (bO ((aZ (F0 y.hr.units) Tw).2) (bO ((aZ (Qu _ y.hr.units) (Qz _)).2) (bO ((aZ (QH _) (XU _)).2) (bO ((aZ (sZ y.hr.units) Br).2) (bO ((aZ (An _) (GM _)).2) (fun _ h=>nomatch h))))))))))))))))),(bO ((fun hm=>El fun O g es p pos α hn hg hs _ ha=>by
   match es,hn with
   | [a],_=>exact CP hm ha hg (by simpa using hs)) (T.z _ (by decide))) (bO (HV (T.z _ (by decide)) rfl) (bO (JJ (T.z _ (by decide)) rfl) (bO (Ct) (bO ((fun O g e es b C h r=>by
   unfold LL at h;split at h
   .cases h;obtain ⟨φ,rfl,h1⟩:=xN r;exact KF h1
   .cases h)) (fun _ h=>nomatch h)))))),(bO ((y9 fun Ob O i x e p1 apos cpos pos φ h1 h2 J h4 Z h6 h7 h8=>Dg h2 h8 h1 h6 h7 J h4 Z rfl rfl rfl)) (bO ((y9 fun Ob O i x e p1 apos cpos pos φ h1 h2 J h4 Z h6 h7 h8=>Da h2 h8 h1 h6 h7 J h4 Z rfl rfl rfl)) (bO (Jr) (bO ((fun Ob O s es b C h r=>by
   replace h:=dO.mp h
   obtain ⟨⟨t,e⟩,h0,h⟩:=h;obtain ⟨_,rfl⟩:=FO h0
   replace h:=dO.mp h
   obtain ⟨⟨u,v⟩,h1,h⟩:=h;let ⟨_,e1,h2⟩:=Ae h1
   subst e1;split at h
   .cases h
   .rename_i hc
    replace h:=iF.mp h
    let ⟨i,J,h⟩:=h
    cases h;obtain ⟨x,p,rfl,a1,a2,a3,a4,a5⟩:=uc J;obtain ⟨φ,ψ,rfl,h4,Z⟩:=E6 r;exact Jy y.hr.units a2 Z h4 a1 a3 a4 a5 (tq (abz.mpr hc) _ _ _) rfl rfl (PD h2 _))) (bO ((fun Ob O s es b C h r=>by
   unfold UQ at h;split at h
   .let ⟨i,h1,h⟩:=dO.mp h
    split at h
    .rename_i hq;cases h;obtain ⟨φ,rfl,h2⟩:=xN r;exact Ci hq.1 hq.2.1 (.inl hq.2.2) h2 (j4 h1) (.inr hq.2.2)
    .cases h
   .cases h)) (bO ((fun Ob O s es b C h r=>by
   replace h:=dO.mp h
   obtain ⟨⟨t,e⟩,h0,h⟩:=h;obtain ⟨_,rfl⟩:=FO h0;split at h
   .rename_i hq
    replace h:=iF.mp h
    let ⟨g,h1,h⟩:=h
    cases h;obtain ⟨φ,rfl,h2⟩:=xN r;let ⟨_,_,_,e1⟩:=pI hq.2.1
    subst e1;have J:DA e=η:=by have:=hq.1;cases e <;> first|rfl|cases this
    exact N9 h2 (Eg (pO rfl y.cm hq.2.2 (nq h1))) (tq J _ _ _) (by have:=hq.1;cases e <;> first|rfl|cases this) rfl
   .cases h)) (bO (yY rfl y.cm) (bO ((fun Ob O s es b C h r=>by
   replace h:=dO.mp h
   obtain ⟨e,h0,h⟩:=h;obtain ⟨_,rfl⟩:=Mx h0;split at h
   .cases h
   .rename_i hc;cases h;obtain ⟨φ,rfl,h2⟩:=xN r;exact IH h2 (pQ (abz.mpr hc) _ _ _))) (fun _ h=>nomatch h))))))))),fun q h=>(xb.mp h).elim (hy q) (fun h=>let ⟨v,u,h1,h2,J,_⟩:=T.co q h;cg h1 h2 J (dbg q h))⟩,(bO (FJ (Wr _) (XB _)) (bO (ju (P3 _) (RA _)) (bO ((yp (zi y.cm) (by
   intro as H xs ds Q hn dv h;unfold Hn at h;split at h
   .obtain ⟨v,rfl,L⟩:=dZ dv;obtain ⟨a,o,kvs,rfl,h1,h2⟩:=L;exact ⟨a,o,kvs,rfl,ar _ _ _ _ h1,fun l I=>h l _ _ (aI I _) I aE ⟨_,rfl,(nA h2).mono (f8 I (aI I _))⟩⟩
   .exact h.elim) (T.z _ (by decide)) vD).m) (bO ((aZ (UZ (o:=.lt) _ hr.units) (UY _)).1) (bO ((aZ (UZ (o:=.le) _ hr.units) (UY _)).1) (bO ((aZ (UZ (o:=.gt) _ hr.units) (UY _)).1) (bO ((aZ (UZ (o:=.ge) _ hr.units) (UY _)).1) (fun _ h=>nomatch h))))))))⟩
def aC:List (Nat×Fm):=[(2,XV "Table" ["shape","rows","indexes"])]
theorem hA:∀ a∈aC,oI P w K mg base a:=(bO (Pu T.iV T.vS T.rV (G8 T) T.rX) (fun _ h=>nomatch h))
def xF:Xf:=[(1,Ao)]
theorem hX:∀ h∈xF,MZ dQ P w K mg base h:=(bO (F8 (T.z _ (by decide))) (fun _ h=>nomatch h))
end
def G:List (Df×Mr):=[
 (df 14 1 0,.pl tm),
 (df 13 1 1,.pl qy),
 (df 15 1 0,.pl sK),
 (df 16 2 1,.pl kJ),
 (df 17 1 1,.pl oF),
 ({ df 61 2 0 with g:=["cells_of","cells_of_balance"],m:=["cells"],e:=[0] },.pl jp),
 ({ df 21 2 1 with m:=["sides"],k:=[(⟨53,15,53,66⟩,["side","word"])] },.rc dH cW 100),
 (df 41 1 0,.pl rg),
 ({ df 63 1 1 with g:=["parts_of","parts_of_balance"] },.pl qA),
 ({ df 19 1 101 with g:=["cells_of_showing"] },.pl gB),
 (df 28 1 102,.pl oW),
 (df 29 3 0,.pl jb),
 (df 30 4 1,.pl iY),
 (df 32 2 0,.pl mq),
 (df 31 4 3,.rc kl kF 100),
 (df 37 2 2,.pl lc),
 (df 38 0 0,.pl fL),
 (df 40 2 3,.pl mR),
 (df 39 3 4,.pl om),
 (df 42 1 0,.pl jy),
 (df 49 1 0,.pl oM),
 (df 48 1 1,.pl kH),
 (df 54 1 0,.pl iK),
 (df 51 1 0,.pl ug),
 (df 53 1 2,.pl oH),
 (df 52 1 3,.pl fO),
 (df 50 1 4,.pl qj),
 (df 55 2 0,.pl jP),
 (df 57 2 2,.pl oA),
 (df 56 2 3,.pl DQ),
 (df 65 1 2,.pl wf),
 ({ df 60 2 5 with k:=[(⟨164,16,164,73⟩,["other","entry"]),(⟨165,17,165,74⟩,["other","entry"])] },.rc eS c6 40),
 (df 59 3 45,.pl mv),
 ({ df 26 1 1 with g:=["parts_of_conditions"] },.rc fc bz 100),
 ({ df 68 3 2 with e:=[1] },.pl mr),
 ({ df 67 2 5 with k:=[(⟨197,30,197,76⟩,["other","entry"])] },.rc cL bR 40),
 (df 66 3 45,.pl dz),
 ({ df 70 1 2 with h:=[0] },.pl oQ),
 ({ df 69 1 4 with m:=["once"] },.pl gp),
 (df 73 1 2,.pl oC),
 (df 76 3 46,.pl jD),
 ({ df 74 3 47 with m:=["indexes","rows"] },.pl qS),
 ({ df 75 2 47 with m:=["indexes","rows"] },.pl kT),
 ({ df 78 2 1 with k:=[(⟨258,11,258,71⟩,["number","row","place"])] },.pl mE),
 ({ df 77 2 5 with m:=["indexes"] },.pl mw),
 (df 83 1 0,.pl sS),
 ({ df 90 3 0 with m:=["behind"] },.pl mB),
 (df 84 2 5,.pl gH),
 (df 88 2 0,.pl pU),
 (df 85 3 6,.pl ck),
 (df 86 4 48,.pl c7),
 (df 89 2 1,.pl dw),
 (df 87 3 48,.pl gk),
 (df 81 2 49,.pl sM),
 (df 82 2 50,.pl kR),
 (df 92 2 0,.pl oq),
 ({ df 93 2 0 with m:=["_law_found"] },.pl jq),
 (df 94 1 0,.pl wO),
 ({ df 95 2 0 with k:=[(⟨332,24,332,116⟩,["_law_j","_law_letters","_law_x"])] },.pl md),
 ({ df 96 2 0 with k:=[(⟨340,23,340,115⟩,["_law_j","_law_some","_law_x"])] },.pl kE),
 ({ df 97 2 1 with m:=["_law_columns"] },.pl tW),
 ({ df 98 2 1 with k:=[(⟨354,17,354,122⟩,["_law_c","_law_xs","_law_shape_here"])] },.pl pH),
 ({ df 99 4 2 with N:=zg,m:=["_law_puts"],k:=[(⟨356,17,356,160⟩,["_law_j","_law_column","_law_shape_here","_law_xs"])] },.pl iZ),
 ({ df 100 2 3 with m:=["_law_shapes"] },.pl oE),
 ({ df 101 1 0 with N:=nP },.ex iS),
 (df 102 2 0,.pl xi),
 (df 103 2 1,.pl mQ),
 (df 104 2 2,.pl kP),
 (df 105 2 3,.pl je),
 ({ df 106 3 4 with k:=[(⟨432,19,432,121⟩,["_law_x","_law_shapes"]),(⟨441,24,441,159⟩,["_law_x","_law_wide"]),(⟨442,22,442,133⟩,["_law_x","_law_wide"]),(⟨444,23,444,134⟩,["_law_k","_law_sources"])] },.pl mC),
 (df 107 1 0,.pl wI),
 (df 108 2 1,.pl xX),
 ({ df 109 2 3 with e:=[3,4,5,6] },.rc fG fm 100),
 ({ df 110 2 0 with m:=["_law_longer"],e:=[1,2] },.pl Ag),
 ({ df 111 3 0 with k:=[(⟨479,11,479,123⟩,["_law_k","_law_numbers","_law_stock_here","_law_tree_here"])] },.pl jw),
 (df 112 2 0,.pl gS),
 ({ df 113 1 0 with m:=["_law_found"] },.pl tf),
 ({ df 114 1 0 with m:=["_law_found","_law_line"] },.pl qb),
 (df 115 4 103,.pl kB),
 (df 116 1 104,.pl xu)]
theorem yy (F:Fun K "_law_stock" "_law_stock" (dQ 101) f fd) (S:FnScope nP nR (aY (dQ 101))):FnOk P w K mg base l8 1 f fd nR (vV K mg iS) :=
 F.okD (φ:=tM) (O':=[]) S (fun r A g s H E hr=>(Hk (i:=1) (a:=2) K adN hr.units S.nd (aal rfl) (aal rfl) (Ew K (jB 0)) (qw (Dk K hr.units) (Q3 K) (qR (DF K) (F3 K) (jB 2) jW) wN (x8 _)) (qR (DF K) (F3 K) (qR (DF K) (F3 K) (jB 2) jW) jW) (qw (Dk K hr.units) (Q3 K) (qR (DF K) (F3 K) (jB 2) jW) wN (x8 _)) (qR (DF K) (F3 K) (jB 2) jW) (qR (DF K) (F3 K) (jB 2) jW) (qR (DF K) (F3 K) (jB 2) jW) (qw (Dk K hr.units) (Q3 K) (qR (DF K) (F3 K) (jB 2) jW) wN (x8 _)) (qR (DF K) (F3 K) (jB 2) jW) (qR (DF K) (F3 K) (jB 2) jW) (zd (GE (jB 1)))))
def chk:Oi dQ tB tE xF G aC:=by
 unfold G;repeat (first|refine Nx (by kernel_rfl) (by kernel_rfl) ?_|refine O7 (fun F=>by kernel_rfl) (by kernel_rfl) ?_|refine ⟨fun _ _ _ _ _ _ _ F _ S=>yy F S,by kernel_rfl,?_⟩)
 exact Y6
open TS (K4 DE)
abbrev uI (i:Nat) (n:Int):FE:=ao aV (ae i) (vC (.int n))
abbrev Yf:FE:=vC (.int 0)
abbrev DK:FE:=vC (.int 1)
abbrev iC2:FE:=vC (.int 2)
abbrev VP:FE:=vC (.int 10)
abbrev m8:FE:=vC (.str "leaf")
abbrev kh:FE:=vC (.str "branch")
abbrev lQ:FT:=(jJ (aX (ao vB (ao bm (ae 2) DK) vU)) (fW (dC (ai bA (aa (ae 1) (aa (ao aV (ao aV (ae 0) (ao bm (ae 2) DK)) Yf) aj))))))
abbrev hQ:FT:=(aX (ao bG (uI 4 0) kh))
abbrev hB:FS:=(ap (aJ 5 (uI 4 1)) (aJ 4 (ao aV Qo DK)))
abbrev cpB:FS:=(bN (aX (ao bG (uI 3 0) (ae 1))) (aB (ae 2)) aF)
abbrev cB:FS:=(ap Lm (ap (aJ 6 (ao cp (ao jI (ao bm (ae 4) DK) rf) (ae 2))) RM))
abbrev rB:FS:=(aJ 1 (ai ci (aa kh (aa Mi aj))))
abbrev nB:FS:=(bN (se (aX B1) (aX (ao kA (ao aV (ae 1) (LQ D4 DK)) (ae 2)))) (bK 1 (ae 2)) aF)
abbrev X4:FS:=Rg
abbrev Yo:FS:=aJ 2 LV
theorem aN (h:τ U=.ok ζ):bN τ S T U=S U:=by rw [Rs,h,az,Ua,adU rfl]
theorem b9 (h:τ U=.ok η):bN τ S T U=T U:=by rw [Rs,h,az,Ua,adV By]
theorem am (h:S U=.ok (.nx δ')):ap S T U=T δ':=by rw [Ly,h,az,Op]
theorem a8 (h:S U=.ok (.rt d)):ap S T U=.ok (.rt d):=by rw [Ly,h];rfl
theorem av (h:φ U=.ok d):aB φ U=.ok (.rt d):=by rw [Q8,h];rfl
theorem au (h:φ U=.ok d):aJ k φ U=.ok (.nx (U.set k (θ d))):=by rw [Qw,h];rfl
theorem nL (h:φ U=.ok d) (g:k < U.length:=by simp):f6 k φ U=.ok (.nx (U.set k (θ d))):=by rw [T8,h,az,Rj,adU g]
theorem aq (h:r=.ok (.rt d)):fin r=.ok d:=by rw [h];rfl
theorem skip (h:τ U=.ok η):ap (bN τ S aF) T U=T U:=am ((b9 h).trans rfl)
theorem ac (h:φ U=.ok d) (h2:α U=.ok ds):aa φ α U=.ok (d::ds):=by unfold aa;rw [h,h2];rfl
theorem ba (h:α U=.ok ds) (g:ds.length<=100:=by simp):bt α U=.ok (.tup ds):=by rw [Rr,h,az,Pi,adU (by lia)]
theorem bg (h:α U=.ok ds) (g:ds.length<=100:=by simp):bP α U=.ok (.lst ds):=by rw [S0,h,az,OW,adU (by lia)]
theorem ag (h1:φ U=.ok a) (h2:ψ U=.ok b) (h:f a b=.ok c):ao f φ ψ U=.ok c:=by rw [Vo,h1,az,VX,h2,az,h]
theorem aO (h:φ U=.ok (.bl b)):aX φ U=.ok b:=by rw [WW,h];rfl
theorem ak (h:α U=.ok ds) (g:F ds=r):ai F α U=r:=by rw [MM,h,az,g]
theorem bU (h:B (U.set i (θ x))=.ok (.nx δ')):cG (.one i) B (x::r) U=cG (.one i) B r δ':=by
 rw [wS];have e:cO (.one i) x U=.ok (U.set i (x)):=rfl;rw [e,az,F4,h,az,Bv]
theorem eR (h:ι U=.ok xs) (r:cG g B xs U=.ok (.nx δ')):fY ι g B U=.ok (.nx δ'):=by rw [Lz,h,az,Mf,r]
theorem nI {τ:FT} {B:FS} {n:Nat} {U δ':Sd} (h:τ U=.ok ζ) (hb:B U=.ok (.nx δ')):b5 τ B (n+1) U=b5 τ B n δ':=by
 rw [b5,h,hb];rfl
theorem wW (h:τ U=.ok η):b5 τ B (n+1) U=.ok (.nx U):=by
 rw [b5,h,az,adV By]
theorem fw (h:φ U=.ok d) (ht:NI d=.ok b):dC φ U=.ok b:=by rw [Uj,h,az,ht]
theorem GV (h:τ U=.ok b):fW τ U=.ok (!b):=by rw [Rf,h];rfl
theorem oU (h:τ U=.ok ζ):fW τ U=.ok η:=GV h
theorem sk (h:τ U=.ok η) (h2:υ U=.ok b):se τ υ U=.ok b:=by rw [UH,h,az,R3,adV By,h2]
theorem gm (h:τ U=.ok ζ) (h2:υ U=.ok b):jJ τ υ U=.ok b:=by rw [Lh,h,az,PJ,adU rfl,h2]
theorem kU (h:τ U=.ok η):jJ τ υ U=.ok η:=by rw [Lh,h];rfl
theorem cF (h:φ U=.ok (.bl ζ)) (h2:ψ U=.ok d):fh φ ψ U=.ok d:=by rw [v_and,h,az,Rn,adU rfl,h2]
theorem LO (h:φ U=.ok (.bl η)) (h2:ψ U=.ok d):Im φ ψ U=.ok d:=by rw [v_or,h,az,VU,adV By,h2]
theorem BR (h:φ U=.ok (.bl b)):wg φ U=.ok (.bl (!b)):=by rw [v_not,h];rfl
theorem iC (h:U[i]?=θ (θ (.lst xs))) (g:ε U=.ok d) (r:xs.length < 1000):bK i ε U=.ok (.nx (U.set i (θ (.lst (xs++[d]))))):=by
 unfold bK;rw [h];dsimp only;rw [g,az,adU (by lia)]
theorem uS (h:U[i]?=θ (θ (.lst xs))) (u:ε U=.ok d) (g:Bn d=θ ys) (r:xs.length+ys.length<=1000000):gv i ε U=.ok (.nx (U.set i (θ (.lst (xs++ys))))):=by
 unfold gv;rw [h];dsimp only;rw [u,az,g];dsimp only;rw [adU r]
theorem de (h:φ U=.ok a) (h1:l U=.ok lo) (h2:u U=.ok hi) (g:jH a lo hi=.ok d):oJ jH φ l u U=.ok d:=by
 rw [XD,h,az,QB,h1,az,QN,h2,az,SH,g]
theorem bh (h:φ U=.ok (.int i)):bS φ U=.ok (θ i):=by rw [Oq,h];rfl
theorem eX (h:φ U=.ok d) (g:fH d=.ok xs):cY φ U=.ok xs:=by rw [Uw,h,az,g]
theorem jk {n:Nat} (h:φ U=.ok (.int (n:Int))) (hn:n<=1000000):fE (aa φ aj) U=.ok (dI 0 n):=by
 rw [OT,ac h rfl,az,SA (by lia),YZ]
theorem bF (h:ι U=.ok xs) (g:cc t τ ε (d5 ix U) xs=.ok d):bo ix ι t τ ε U=.ok d:=by rw [Px,h,az,g]
theorem eU {β:Type} {rest:Sd} (u f:β->D) (xs:List β) (h:∀ x∈xs,ε (θ (u x)::rest)=.ok (f x)) (g:xs.length<=1000):cc (.one 0) fS ε (ξ::rest) (xs.map u)=.ok (.lst (xs.map f)) :=
 zS u f rfl (by lia) h
theorem pw {β:Type} {rest:Sd} (u f:β->D) (p:β->Bool) (xs:List β) (h:∀ x∈xs,τ (θ (u x)::rest)=.ok (p x)) (h2:∀ x∈xs,p x=ζ->ε (θ (u x)::rest)=.ok (f x)) (C:xs.length<=1000):cc (.one 0) τ ε (ξ::rest) (xs.map u)=.ok (.lst ((xs.filter p).map f)):=by
 refine pR rfl (by rw [iN];lia) ?_;clear C;induction xs with
 | nil=>rfl
 | cons x r v =>
  have h1:=h x (by simp);have z:=h2 x (by simp);have g:=v (fun y hy=>h y (lT _ hy)) fun y hy=>h2 y (lT _ hy);show (τ ((u x)::rest)).bind _=_;rw [h1,az];cases e:p x with
  | true =>
   rw [List.filter_cons_of_pos e];show (ε ((u x)::rest)).bind _=_;rw [z e,g];rfl
  | false=>simp_all
theorem cz (h:φ U=.ok a) (g:ce [a]=.ok d):ai ce (aa φ aj) U=.ok d:=ak (ac h rfl) g
theorem lF {β:Type} (f:β->D) (xs:List β) {i:Nat} {x:β} (h:xs[i]?=θ x):aV (.lst (xs.map f)) (.int (i:Int))=.ok (f x):=vd (bM (by simp_all))
theorem C7 {β:Type} (f:β->D) (xs:List β) {i:Nat} {x:β} (h:xs[i]?=θ x):aV (.tup (xs.map f)) (.int (i:Int))=.ok (f x):=uA (bM (by simp_all))
theorem jz {β:Type} (f:β->D) (xs:List β):ce [.lst (xs.map f)]=.ok (.int (xs.length:Int)):=by rw [Ah,iN]
theorem nG {β:Type} (f:β->D) (xs:List β):ce [.tup (xs.map f)]=.ok (.int (xs.length:Int)):=by rw [wz,iN]
theorem gP (h1:φ U=.ok (.int i)) (h2:ψ U=.ok (.int j)) (h:-(2 ^ 64) < j/\j < 2 ^ 64:=by decide):ao jI φ ψ U=.ok (.int (i*j)):=ag h1 h2 ((adU (.inr h)))
theorem ay (h1:φ U=.ok (.int i)) (h2:ψ U=.ok (.int j)) (h:0 < j:=by decide):ao bc φ ψ U=.ok (.int (i % j)):=ag h1 h2 ((adU h))
theorem aW (h1:φ U=.ok (.int i)) (h2:ψ U=.ok (.int j)) (h:0 < j/\j < 1073741824:=by decide):ao cp φ ψ U=.ok (.int (i/j)):=ag h1 h2 ((adU h))
theorem bE (h1:φ U=.ok (.int i)) (h2:ψ U=.ok (.int j)):ao bm φ ψ U=.ok (.int (i+j)):=ag h1 h2 rfl
theorem j5 (h1:φ U=.ok (.int i)) (h2:ψ U=.ok (.int j)):ao lJ φ ψ U=.ok (.int (i - j)):=ag h1 h2 rfl
theorem qf (h1:φ U=.ok (.int i)) (h2:ψ U=.ok (.int j)):aX (ao bG φ ψ) U=.ok (decide (i=j)):=aO (ag h1 h2 kW)
theorem xY (h:τ U=.ok ζ) (h2:φ U=.ok d):Ir τ φ ψ U=.ok d:=by rw [Lb,h,az,LG,adU rfl,h2]
theorem AV (h:τ U=.ok η) (h2:ψ U=.ok d):Ir τ φ ψ U=.ok d:=by rw [Lb,h,az,LG,adV By,h2]
theorem Er (h:φ U=.ok (.bl a)) (h2:ψ U=.ok (.bl b)):Im φ ψ U=.ok (.bl (a||b)):=by
 cases a with
 | true=>exact (by rw [v_or,h];rfl)
 | false=>exact LO h h2
theorem zY (h:φ U=.ok (.bl a)) (h2:ψ U=.ok (.bl b)):fh φ ψ U=.ok (.bl (a&&b)):=by
 cases a with
 | true=>exact cF h h2
 | false=>exact (by rw [v_and,h];rfl)
theorem LH (h:φ U=.ok d) (g:lO [d,.ty C]=.ok (.bl b)):ai lO (aa φ (aa (vC (.ty C)) aj)) U=.ok (.bl b):=ak (ac h rfl) g
def cell (ns:List Int) (k:Int):Int:=ns.getD k.toNat 0
abbrev Xg:Str:=DO " !\"#$&'()*+,-./0123456789:;<=>?@ABCDEFGHIJKLMNOPQRSTUVWXYZ[\\]^_`"
abbrev Wv:Str:=Xg++DO "abcdefghijklmnopqrstuvwxyz{|}~"
def tab:ad0:=Wv.cps.toList
def Vl (n:Nat):D->Prop
 | .non=>True
 | .int _=>True
 | .str z=>z.length<=n/\∀ c∈z.cps.toList,c∈tab
 | _=>False
theorem Vl.mono (h:Vl n d) (hm:n<=m):Vl m d:=by
 cases d with
 | str z=>exact ⟨Le h.1 hm,h.2⟩
 | non=>exact Y6
 | int _=>exact Y6
 | _=>exact h.elim
def zn (a b:Int):Int:=if a=b then 0 else if a < b then -1 else 1
noncomputable def yj (a b:ad0):Int:=if a=b then 0 else if a < b then -1 else 1
def EC:D->D->Int
 | .non,.non=>0
 | .non,_=>-1
 | _,.non=>1
 | .int a,.int b=>zn a b
 | .int _,_=>-1
 | _,.int _=>1
 | .str a,.str b=>yj a.cps.toList b.cps.toList
 | _,_=>0
def kx:D->Int
 | .non=>0
 | .int _=>1
 | _=>2
def kw (i:Int):Str:=if i=0 then "none" else if i=1 then "number" else "text"
theorem kind (h:Vl 100 d):nV [d]=.ok (.str (kw (kx d))):=by
 cases d with
 | non=>rfl
 | int i=>rfl
 | str z=>rfl
 | _=>exact h.elim
theorem Bm (d:D):kx d=0\/kx d=1\/kx d=2:=by
 unfold kx;split
 .exact .inl rfl
 .grind
 .simp_all
theorem Rz (i:Int) (h:i=0\/i=1\/i=2):E4 kG [.str (kw i)]=.ok (.int i):=by
 rcases h with rfl|rfl|rfl <;> with_unfolding_all rfl
theorem QO (h:i=0\/i=1\/i=2) (g:j=0\/j=1\/j=2):decide (kw i=kw j)=decide (i=j):=by
 rcases h with rfl|rfl|rfl <;> rcases g with rfl|rfl|rfl <;> decide +kernel
theorem pS {a b:Str} (h:a.cps.toList=b.cps.toList):a=b:=by
 cases a;simp_all
theorem DP (h:φ U=.ok d) (hr:E4 k [d]=.ok r):yo k (aa φ aj) U=.ok r:=by rw [TL,ac h rfl,az,hr]
theorem Oz (r:Vl 100 d) (g:Vl 100 e) (h:¬ kx d=kx e):EC d e=if kx d < kx e then -1 else 1:=by
 cases d with
 | non=>cases e with
  | non=>grind
  | int j=>rfl
  | str z=>rfl
  | _=>exact g.elim
 | int i=>cases e with
  | non=>rfl
  | int j=>exact absurd rfl h
  | str z=>rfl
  | _=>exact g.elim
 | str x=>cases e with
  | non=>rfl
  | int j=>rfl
  | str z=>exact absurd rfl h
  | _=>exact g.elim
 | _=>exact r.elim
theorem Bz (d e:D) (r:Vl 100 d) (g:Vl 100 e):kI [d,e]=.ok (.int (EC d e)):=by
 rw [Cp,kJ];have hq:aX (ao kA HP OO) [θ d,θ e]=.ok (!decide (kx d=kx e)):=aO (ag (ak (ac rfl rfl) (kind r)) (ak (ac rfl rfl) (kind g)) (Uk.trans (by rw [QO (Bm d) (Bm e)])));by_cases h:kx d=kx e
 .rw [adX h] at hq;refine aq ((skip hq).trans ?_);cases d with
  | non=>cases e with
   | non=>exact a8 ((aN (aO (ag rfl rfl (by rfl)))).trans (av rfl))
   | int j=>cases h
   | str z=>cases h
   | _=>exact g.elim
  | int i=>cases e with
   | non=>cases h
   | int j =>
    show _=R.ok (Fl.rt (.int (zn i j)));unfold zn;by_cases q:i=j
    .rw [adU q];exact a8 ((aN (aO (ag rfl rfl (kW.trans (by rw [adX q]))))).trans (av rfl))
    .rw [adV q];refine (skip (aO (ag rfl rfl (kW.trans (by rw [adW q]))))).trans (av ?_);by_cases q2:i < j
     .rw [adU q2];exact xY (aO (ag rfl rfl (C9.trans (by rw [adX q2])))) rfl
     .rw [adV q2];exact AV (aO (ag rfl rfl (C9.trans (by rw [adW q2])))) rfl
   | str z=>cases h
   | _=>exact g.elim
  | str x=>cases e with
   | non=>cases h
   | int j=>cases h
   | str z =>
    show _=R.ok (Fl.rt (.int (yj x.cps.toList z.cps.toList)));unfold yj;by_cases q:x=z
    .rw [adU (by rw [q])];exact a8 ((aN (aO (ag rfl rfl (ib.trans (by rw [adX q]))))).trans (av rfl))
    .rw [adV fun w=>q (pS w)];refine (skip (aO (ag rfl rfl (ib.trans (by rw [adW q]))))).trans (av ?_);by_cases q2:x.cps.toList < z.cps.toList
     .rw [adU q2];exact xY (aO (ag rfl rfl (UK.trans (by rw [adX q2])))) rfl
     .rw [adV q2];exact AV (aO (ag rfl rfl (UK.trans (by rw [adW q2])))) rfl
   | _=>exact g.elim
  | _=>exact r.elim
 .rw [adW h] at hq;refine aq (a8 ((aN hq).trans (av ?_)));rw [Oz r g h];have u:aX Uf [d,e]=.ok ((kx d < kx e)):=aO (ag (DP ((kind r)) (Rz _ (Bm d))) (DP ((kind g)) (Rz _ (Bm e))) C9);by_cases q:kx d < kx e
  .rw [adX q] at u;rw [adU q];exact xY u rfl
  .rw [adW q] at u;rw [adV q];exact AV u rfl
theorem w4:ao zO VP (vC (.int 18)) U=.ok (.int 1000000000000000000):=rfl
def ahead (d:D) (n:Int) (e:D) (m:Int):Bool:=decide (EC d e < 0)||(decide (EC d e=0)&&decide (n < m))
theorem wu (d e:D) (n m:Int) (g:Vl 40 d) (r:Vl 40 e):bA [.tup [d,.int n],.tup [e,.int m]]=.ok (.bl (ahead d n e m)):=by
 exact aq ((am (au (ak rfl (Bz d e (g.mono (by decide)) (r.mono (by decide)))))).trans (av (Er rfl (zY (kW) rfl))))
theorem Xc (x:Str) (h:∀ c∈x.cps.toList,c∈tab):PyData.strOk x=ζ:=by
 have hr:∀ c∈tab,32<=c/\c<=126:=by trivial
 show x.cps.all (· < 0x110000)=ζ;rw [<- Array.all_toList,Zy];intro c g
 grind
def gO (k:K4):D:=if k.1=0 then .non else if k.1=1 then .int k.2.1 else .str ⟨k.2.2.1.toArray⟩
theorem un (k:K4):ax k=.tup [gO k,.int k.2.2.2]:=by
 unfold ax gO;split
 .rfl
 .split <;> rfl
structure Ok (k:K4):Prop where
 v:Vl 40 (gO k)
 e:yB (ax k)=θ k
theorem Ok.of {v:D} (h:yB (.tup [v,.int n])=θ k) (hv:Vl 40 v):Ok k:=by
 have e:=ED h;have g:=e;rw [un] at g
 have:gO k=v:=by simp_all
 exact ⟨this ▸ hv,e ▸ h⟩
noncomputable def Lj:D->ZO
 | .int i=>.int i
 | .str z=>.str z
 | _=>.none
theorem zb (h:Vl 40 v):cI v=θ (Lj v):=by
 cases v with
 | non=>rfl
 | int i=>rfl
 | str z=>rfl
 | _=>exact h.elim
theorem Aj (h:Vl 40 v):(Lj v).canLay0=ζ/\(Lj v).depth=0:=by
 cases v with
 | non=>exact ⟨rfl,rfl⟩
 | int i=>exact ⟨rfl,rfl⟩
 | str z=>exact ⟨Xc z h.2,rfl⟩
 | _=>exact h.elim
def sC (k:K4):ZO:=.tuple [Lj (gO k),.int k.2.2.2]
theorem Ok.py {k:K4} (h:Ok k):cI (ax k)=θ (sC k):=by
 rw [un,cI,dm,zb h.v];rfl
theorem Ok.lay (h:Ok k):(sC k).canLay0=ζ/\(sC k).depth=1:=by
 let ⟨h1,h2⟩:=Aj h.v
 unfold sC;rw [abD,Y0,h1,aaV,Z1,h2];exact ⟨rfl,rfl⟩
def Ok.shaped (h:Ok k):YM (sC k)=ζ:=by
 unfold YM;rw [h.lay.1,adX (by rw [h.lay.2];lia)];rfl
theorem Ok.deep (h:Ok k) (g:Ok l):j1 (ax k) (ax l)=θ (Z4 (sC k) (sC l)):=by
 have e:j1 (ax k) (ax l)=eu (ax k) (ax l):=by rw [un];rfl
 rw [e,eu,h.py,g.py];dsimp only;rw [adU ⟨h.shaped,g.shaped⟩]
theorem Ok.ne (h:Ok k) (g:Ok l):kA (ax k) (ax l)=.ok (.bl (!PyData.eqv (sC k) (sC l))):=by
 unfold kA;rw [h.deep g];rfl
theorem Vr:∀ {ls:List K4},(∀ k∈ls,Ok k)->dm (ls.map ax)=θ (ls.map sC)
 | [],_=>rfl
 | k::r,h=>by
  rw [YB,dm,(h k (by simp)).py,Vr fun x g=>h x (lT _ g)];rfl
theorem Lp {p:ZO}:∀ {ls:List K4},(∀ k∈ls,Ok k)->∃ b,il p (ls.map sC)=θ b
 | [],_=>⟨_,rfl⟩
 | l::r,g=>by
  have u:=g l (by simp);obtain ⟨b,e⟩:=Lp fun x v=>g x (lT _ v);exact ⟨_,by rw [YB,il,adU ⟨u.shaped,by rw [u.lay.2];lia⟩,e];rfl⟩
theorem Ok.mem {k:K4} (h:Ok k) {ls:List K4} (g:∀ k∈ls,Ok k):∃ b,yG (ax k) (.tup (ls.map ax))=.ok (.bl b):=by
 obtain ⟨b,r⟩:=Lp g;have e:MD (ax k) (.tup (ls.map ax))=b:=by
  show nJ _ _=_;rw [nJ,h.py,Vr g];dsimp only;rw [adU h.shaped,r]
 exact ⟨b,by unfold yG;rw [e];rfl⟩
theorem Eu:∀ {ls:List K4},(∀ k∈ls,Ok k)->Y0 (ls.map sC)=ζ/\Z1 (ls.map sC)<=1
 | [],_=>⟨rfl,YJ _⟩
 | k::r,h=>by
  have u:=(h k (by simp)).lay;let ⟨h1,h2⟩:=Eu fun x g=>h x (lT _ g)
  rw [YB,Y0,Z1];simp_all
theorem FU (h:∀ k∈ls,Ok k):j1 (.lst (ls.map ax)) (.lst [])=θ (decide (ls=[])):=by
 have e:j1 (.lst (ls.map ax)) (.lst [])=eu (.lst (ls.map ax)) (.lst []):=rfl;have u:cI (.lst (ls.map ax))=θ (.list (ls.map sC)):=by rw [cI,Vr h];rfl
 have g:cI (.lst [])=θ (.list []):=rfl;let ⟨h1,h2⟩:=Eu h
 have hs:YM (.list (ls.map sC))=ζ:=by
  unfold YM;rw [abD,h1,aaV,adX (by lia)];rfl
 rw [e,eu,u,g];dsimp only;rw [adU ⟨hs,by decide⟩];cases ls with
 | nil=>rfl
 | cons k r=>rfl
theorem eq_nil (h:∀ k∈ls,Ok k):bG (.lst (ls.map ax)) (.lst [])=.ok (.bl (decide (ls=[]))):=by
 unfold bG;rw [FU h];rfl
theorem u0 (k:K4):aV (ax k) (.int 0)=.ok (gO k):=by rw [un];exact bW
theorem u1 (k:K4):aV (ax k) (.int 1)=.ok (.int k.2.2.2):=by rw [un];exact bJ
def ah (k l:K4):Bool:=match bA [ax k,ax l] with
 | .ok (.bl b)=>b
 | _=>η
theorem Ok.ahead (h:Ok k) (g:Ok l):bA [ax k,ax l]=.ok (.bl (ah k l)):=by
 obtain ⟨b,e⟩:∃ b,bA [.tup [gO k,.int k.2.2.2],.tup [gO l,.int l.2.2.2]]=.ok (.bl b):=⟨_,wu (gO k) (gO l) k.2.2.2 l.2.2.2 h.v g.v⟩;rw [<- un,<- un] at e;unfold ah;rw [e]
theorem Gs (h:φ U=.ok (.bl b)):fW (dC φ) U=.ok (!b):=GV (fw h rfl)
theorem mG (n:Nat):dI 0 n=(YV n).map fun (k:Nat)=>D.int (k:Int):=by
 unfold dI;simp_all
theorem wv (h:0<=i):gT xs ξ (θ i)=xs.take i.toNat:=by
 obtain ⟨n,rfl⟩:∃ n:Nat,i=n:=⟨i.toNat,by lia⟩;unfold gT;rw [HT.j9,HT.gu,YZ,acZ,List.take_eq_take_iff];lia
theorem EE (h:0<=i):gT xs (θ i) ξ=xs.drop i.toNat:=by
 obtain ⟨n,rfl⟩:∃ n:Nat,i=n:=⟨i.toNat,by lia⟩;unfold gT;rw [HT.j9,HT.gu,YZ];by_cases q:n<=xs.length
 .rw [aaA q,ZD (by simp_all)]
 .rw [Nat.min_eq_right (by lia),acD (oR _),acD (by lia),List.take_nil]
def bX:Nat->D
 | 0=>.str "leaf"
 | _+1=>.str "branch"
def mn:Nat->Nat
 | 0=>1
 | _+1=>2
def rt:Nat->Nat
 | 0=>0
 | _+1=>2
def Tg:Nat->D->Prop
 | 0,x=>∃ k,Ok k/\x=ax k
 | h+1,x=>∃ k xs,Ok k/\x=.tup [ax k,.tup [bX h,.tup xs]]/\mn h<=xs.length/\xs.length<=8/\∀ y∈xs,Tg h y
def WN (h lo:Nat) (d:D):Prop:=∃ xs,d=.tup [bX h,.tup xs]/\lo<=xs.length/\xs.length<=8/\∀ x∈xs,Tg h x
theorem JQ (h:Nat):1<=mn h:=by cases h <;> unfold mn <;> lia
theorem SX (h:Nat):mn h<=2:=by cases h <;> unfold mn <;> lia
def Hv (h:Nat):rt h<=mn h:=by cases h <;> unfold mn rt <;> lia
theorem WN.mono (g:WN h lo d) (r:lo'<=lo):WN h lo' d:=let ⟨xs,a,b,c⟩:=g;⟨xs,a,Le r b,c⟩
theorem Yn:decide (("leaf":Str)="branch")=η:=by trivial
theorem Ys:decide (("branch":Str)="leaf")=η:=by trivial
theorem G9 {xs:ad8} (I:Ok k) (C:∀ x∈xs,Tg (h+1) x) (z:ce [c]=.ok (.int (xs.length:Int))) (v:∀ (i:Nat) x,xs[i]?=θ x->aV c (.int (i:Int))=.ok x):∀ (n j:Nat),j < xs.length->xs.length<=j+n ->
  ∃ i:Nat,b5 lQ (mW 2 DK) n [θ c,θ (ax k),θ (.int (j:Int))]=.ok (.nx [θ c,θ (ax k),θ (.int (i:Int))])/\i < xs.length
 | 0,j,h1,h2=>absurd h1 (by lia)
 | n+1,j,h1,h2=>by
  have Y:(j:Int)+1=((j+1:Nat):Int):=by lia
  have g:aX (ao vB (ao bm (ae 2) DK) vU) [θ c,θ (ax k),θ (.int (j:Int))]=.ok (decide ((j:Int)+1 < (xs.length:Int))):=aO (ag (bE rfl rfl) (cz rfl z) C9);by_cases u:j+1 < xs.length
  .rw [adX (by lia)] at g;have J:=lE u;obtain ⟨l,ys,L,e,_⟩:=C _ (YG u);rw [e] at J;have r:fW (dC (ai bA (aa (ae 1) (aa (ao aV (ao aV (ae 0) (ao bm (ae 2) DK)) Yf) aj)))) [θ c,θ (ax k),θ (.int (j:Int))]=.ok (!ah k l) :=
    Gs (ak (ac rfl (ac (ag (ag rfl (bE rfl rfl) (by rw [Y];exact v _ _ J)) rfl bW) rfl)) (I.ahead L))
   cases hb:ah k l with
   | true=>rw [hb] at r;exact ⟨j,wW (gm g r),h1⟩
   | false =>
    rw [hb] at r;obtain ⟨i,e,M⟩:=G9 I C z v n (j+1) u (by lia);exact ⟨i,(nI (gm g r) rfl).trans e,M⟩
  .rw [adW (by lia)] at g;exact ⟨j,wW (kU g),h1⟩
theorem lR {xs:ad8} (r:Ok k) (u:∀ x∈xs,Tg (h+1) x) (z:ce [c]=.ok (.int (xs.length:Int))) (g:∀ (i:Nat) x,xs[i]?=θ x->aV c (.int (i:Int))=.ok x) (hn:1<=xs.length) (C:xs.length<=1000):∃ i:Nat,gr [c,ax k]=.ok (.int (i:Int))/\i < xs.length:=by
 obtain ⟨i,e,v⟩:=G9 r u z g 1000 0 hn (by lia);refine ⟨i,?_,v⟩;exact aq (((am e).trans rfl))
theorem U4:∀ {xs:ad8},(∀ x∈xs,Tg 0 x)->∃ ks:List K4,xs=ks.map ax/\∀ k∈ks,Ok k
 | [],_=>⟨[],rfl,fun k g=>nomatch g⟩
 | x::r,h=>by
  obtain ⟨k,g,e⟩:=h x (by simp);obtain ⟨ks,u,h2⟩:=U4 fun y hy=>h y (lT _ hy);refine ⟨k::ks,by rw [e,u];rfl,fun l v=>?_⟩
  grind
theorem Ev (u:Ok k):∀ (h n lo:Nat) (d:D) (o:Option D),h < n->WN h lo d->(h=0\/1<=lo) ->
  ∃ (ks:List K4) (g:Option D),b5 hQ hB n [θ a,θ b,θ c,θ (ax k),θ d,o]=.ok (.nx [θ a,θ b,θ c,θ (ax k),θ (.tup [.str "leaf",.tup (ks.map ax)]),g])/\∀ l∈ks,Ok l
 | _,0,_,_,_,hn,_,_=>absurd hn (aaU _)
 | 0,n+1,lo,d,o,hn,⟨xs,e,_,_,hx⟩,_=>by
  subst e;obtain ⟨ks,rfl,z⟩:=U4 hx;exact ⟨ks,o,wW (aO (ag (ag rfl rfl bW) rfl (ib.trans (by rw [Yn])))),z⟩
 | h+1,n+1,lo,d,o,hn,⟨xs,e,h1,h2,hx⟩,hlo=>by
  subst e;obtain ⟨i,I,r⟩:=lR (c:=.tup xs) u hx wz (fun i x h=>uA (bM h)) (by lia) (by lia);have v:=lE r;obtain ⟨l,ys,Y,e,C,L,M⟩:=hx _ (YG r);rw [e] at v;obtain ⟨ks,g,J,q2⟩:=Ev u h n (mn h) (.tup [bX h,.tup ys]) (θ (.tup xs)) (by lia) ⟨ys,rfl,C,L,M⟩ (.inr (JQ h));refine ⟨ks,g,(nI rfl ?_).trans J,q2⟩;exact (au (ag (ag rfl (I) (uA (bM v))) rfl bJ))
theorem uk (g:Ok k) (ht:WN h (rt h) d) (u:h<=700):∃ b,j0 [d,gO k,.int k.2.2.2]=.ok (.bl b):=by
 obtain ⟨ks,r,e,q2⟩:=Ev g h 1000 (rt h) d ξ (by lia) ht ((by
   cases h with
   | zero=>exact .inl rfl
   | succ h=>exact .inr (by show 1<=2;lia)))
 rw [un] at e;obtain ⟨b,hm⟩:=g.mem q2;rw [un] at hm;exact ⟨b,aq ((((am e).trans (av (hm)))))⟩
theorem BQ (g:0<=i) (h1:i<=j) (h2:j<=(xs.length:Int)):gT xs (θ i) (θ j)=(xs.drop i.toNat).take (j.toNat - i.toNat):=by
 obtain ⟨n,rfl⟩:∃ n:Nat,i=n:=⟨i.toNat,by lia⟩;obtain ⟨m,rfl⟩:∃ n:Nat,j=n:=⟨j.toNat,by lia⟩;unfold gT;rw [HT.gu,HT.gu,YZ,YZ,aaA (by lia),aaA (by lia)]
structure Rw (c:D) (xs:ad8):Prop where
 l:ce [c]=.ok (.int (xs.length:Int))
 s:∀ lo hi,∃ y,yJ c lo hi=.ok y/\gQ [y]=.ok (.tup (gT xs lo hi))
def Iz (xs:ad8):Rw (.lst xs) xs:=⟨Ah,fun lo g=>⟨_,we,on⟩⟩
theorem Ov (g:Rw c xs) (v:xs.length<=1000) (hz:zs.length < 100) (hm:0 < m/\m < 100) :
  cB [θ w,θ c,θ (.int m),θ (.lst zs),θ (.int p),o5,o6]=.ok (.nx [θ w,θ c,θ (.int m),θ (.lst (zs++[.tup [w,.tup (gT xs (θ (p*(xs.length:Int)/m)) (θ ((p+1)*(xs.length:Int)/m)))]])),θ (.int p),θ (.int (p*(xs.length:Int)/m)),θ (.int ((p+1)*(xs.length:Int)/m))]):=by
 obtain ⟨y,u,r⟩:=g.s ((p*(xs.length:Int)/m)) (((p+1)*(xs.length:Int)/m));exact (am (au (aW (gP rfl (g.l) (by lia)) rfl (by lia)))).trans ((am (au (aW (gP rfl (g.l) (by lia)) rfl (by lia)))).trans (iC rfl (ba (ac rfl (ac (ak (ac (u) rfl) r) rfl))) (by lia)))
theorem V5 (hm:0 < m) (r:n<=8*m):p*n/m<=(p+1)*n/m/\(p+1)*n/m<=p*n/m+8/\(4*m<=n->p*n/m+4<=(p+1)*n/m):=by
 have e  := adB p n;rw [e];refine ⟨abT (aa9 _ _),?_,fun g=>?_⟩
 .rw [<- acP _ _ hm];exact abT (by lia)
 .rw [<- acP _ _ hm];exact abT (by lia)
theorem Lf (hc:Rw c xs) (hl:xs.length<=700) (hm:0 < m) (M:m<=90) (h8:xs.length<=8*m) (h4:m=1\/4*m<=xs.length):∀ (k p:Nat) (g:List (ad8)) (o4 o5 o6:Option D),p+k=m->g.length=p->(∀ r∈g,r.length<=8/\(m=1->r=xs)/\(m≠1->4<=r.length)/\∀ x∈r,x∈xs) ->
  ∃ (u:List (ad8)) (J L I:Option D),cG (.one 4) cB ((List.range' p k).map fun (k:Nat)=>D.int (k:Int)) [θ w,θ c,θ (.int (m:Int)),θ (.lst (g.map fun r=>D.tup [w,.tup r])),o4,o5,o6]=.ok (.nx [θ w,θ c,θ (.int (m:Int)),θ (.lst (u.map fun r=>D.tup [w,.tup r])),J,L,I])/\u.length=m/\∀ r∈u,r.length<=8/\(m=1->r=xs)/\(m≠1->4<=r.length)/\∀ x∈r,x∈xs
 | 0,p,g,o4,o5,o6,hp,hr,hb=>⟨g,o4,o5,o6,rfl,by lia,hb⟩
 | k+1,p,g,o4,o5,o6,hp,hr,hb=>by
  obtain ⟨c1,c2,c3⟩:=V5 (n:=xs.length) (p:=p) hm h8;have c4:(p+1)*xs.length/m<=xs.length:=by
   refine Nat.div_le_of_le_mul ?_;exact Nat.mul_le_mul_right _ (by lia)
  have t:=Ov (w:=w) (zs:=g.map fun r=>D.tup [w,.tup r]) (m:=(m:Int)) (p:=(p:Int)) (o5:=o5) (o6:=o6) hc (by lia) (by rw [iN];lia) (by lia);have z1:((p:Int)*(xs.length:Int)/(m:Int))=((p*xs.length/m:Nat):Int):=by rw [<- Int.natCast_mul];rfl
  have z2:(((p:Int)+1)*(xs.length:Int)/(m:Int))=(((p+1)*xs.length/m:Nat):Int):=by
   rw [show (p:Int)+1=((p+1:Nat):Int) by lia,<- Int.natCast_mul];rfl
  rw [z1,z2,BQ (by lia) (by lia) (by lia),YZ,YZ] at t;have Y:((xs.drop (p*xs.length/m)).take ((p+1)*xs.length/m - p*xs.length/m)).length=(p+1)*xs.length/m - p*xs.length/m:=by
   rw [Zx,aaK];lia
  have v:m=1->(xs.drop (p*xs.length/m)).take ((p+1)*xs.length/m - p*xs.length/m)=xs:=fun h1=>by
   have:p=0:=by lia
   subst this;rw [h1];simp
  have C:∀ x∈(xs.drop (p*xs.length/m)).take ((p+1)*xs.length/m - p*xs.length/m),x∈xs:=fun x hx=>aaw (ZU hx);generalize (xs.drop (p*xs.length/m)).take ((p+1)*xs.length/m - p*xs.length/m)=r0 at t Y v C;rw [show (g.map fun r=>D.tup [w,.tup r])++[.tup [w,.tup r0]]=(g++[r0]).map fun r=>D.tup [w,.tup r] by simp] at t;obtain ⟨u,J,L,I,g1,g2,g3⟩:=Lf hc hl hm M h8 h4 k (p+1) (g++[r0]) (θ (.int (p:Int))) (θ (.int ((p*xs.length/m:Nat):Int))) (θ (.int (((p+1)*xs.length/m:Nat):Int))) (by lia) (by rw [YE,hr];rfl) (fun r Z=>by
    rcases xb.mp Z with z|z
    .exact hb r z
    .rw [OR.mp z];exact ⟨by lia,v,fun q=>by have:=c3 (h4.resolve_left q);lia,C⟩)
  refine ⟨u,J,L,I,?_,g2,g3⟩;rw [List.range'_succ,YB];have t'  := t;rw [bU t'];exact g1
structure Fr (h:Nat) (qs:ad8) (m:Nat):Prop where
 n:∀ q∈qs,WN h (mn h) q
 l:qs.length=(m+7)/8
theorem fresh (z:Rw c xs) (C:∀ x∈xs,Tg h x) (J:mn h<=xs.length) (h1:xs.length<=700):∃ qs:ad8,ci [bX h,c]=.ok (.lst qs)/\Fr h qs xs.length:=by
 have L:=JQ h;have M:=SX h;have hq:((xs.length:Int)+8 - 1)/8=(((xs.length+7)/8:Nat):Int):=by lia
 have hm:ao cp (ao lJ (ao bm rf (vC p0)) DK) (vC p0) [θ (bX h),θ c,ξ,ξ,ξ,ξ,ξ]=.ok (.int (((xs.length+7)/8:Nat):Int)) :=
  (aW (j5 (bE (cz rfl z.l) rfl) rfl) rfl (by decide)).trans (by rw [hq])
 obtain ⟨g,o4,o5,o6,g1,g2,I⟩:=Lf (w:=bX h) (m:=(xs.length+7)/8) z h1 (by lia) (by lia) (by lia) (by lia) ((xs.length+7)/8) 0 [] ξ ξ ξ (by lia) rfl (fun r hr=>by cases hr);refine ⟨g.map fun r=>D.tup [bX h,.tup r],?_,fun q u=>?_,by rw [iN,g2]⟩
 .rw [zk,jp];refine aq ((am (au hm)).trans ((am (nL (bg rfl))).trans ((am (eR (δ':=[θ (bX h),θ c,θ (.int (((xs.length+7)/8:Nat):Int)),θ (.lst (g.map fun r=>D.tup [bX h,.tup r])),o4,o5,o6]) (jk (n:=(xs.length+7)/8) rfl (by lia)) ?_)).trans rfl)));rw [mG,List.range_eq_range'];exact g1
 .obtain ⟨r,hr,rfl⟩:=Do.mp u;obtain ⟨a,b,e,f⟩:=I r hr;refine ⟨r,rfl,?_,a,fun x v=>C x (f x v)⟩
  grind
theorem EU (ht:WN h lo d) (v:1<=lo):∃ k,lu [d]=.ok (ax k)/\Ok k:=by
 obtain ⟨xs,rfl,h1,h2,u⟩:=ht;cases xs with
 | nil=>simp at h1;lia
 | cons x r =>
  cases h with
  | zero =>
   obtain ⟨k,g,rfl⟩:=u x (by simp);exact ⟨k,aq (av (xY rfl (bW))),g⟩
  | succ h =>
   obtain ⟨k,ys,g,rfl,_⟩:=u x (by simp);exact ⟨k,aq (av ((ag (bW) rfl bW))),g⟩
theorem um:∀ {qs:ad8},(∀ q∈qs,WN h (mn h) q)->∃ ps:List (K4×D),qs=ps.map Prod.snd/\∀ p∈ps,lu [p.2]=.ok (ax p.1)/\Ok p.1
 | [],_=>⟨[],rfl,fun p g=>nomatch g⟩
 | q::r,hq=>by
  obtain ⟨k,e,C⟩:=EU (hq q (by simp)) (JQ h);obtain ⟨ps,v,h2⟩:=um fun x u=>hq x (lT _ u);refine ⟨(k,q)::ps,by rw [v];rfl,fun p g=>?_⟩;rcases mK.mp g with z|z
  .simp_all
  .exact h2 p z
theorem ng (hq:∀ q∈qs,WN h (mn h) q) (I:qs.length<=100):∃ xs,gG [.lst qs]=.ok (.lst xs)/\xs.length=qs.length/\∀ x∈xs,Tg (h+1) x:=by
 obtain ⟨ps,rfl,r⟩:=um hq;refine ⟨ps.map fun p=>.tup [ax p.1,p.2],?_,by simp_all,fun x u=>?_⟩
 .exact aq (av ((eU _ _ _ (fun p g=>ba (ac ((r p g).1) rfl)) (by grind))))
 .obtain ⟨p,g,rfl⟩:=Do.mp u;obtain ⟨ys,e,z,v,C⟩:=hq p.2 (Do.mpr ⟨p,g,rfl⟩);exact ⟨p.1,ys,(r p g).2,by rw [e],z,v,C⟩
theorem Ra (g:xs.length+ys.length<=1000):ia (.tup xs) (.tup ys)=.ok (.tup (xs++ys)):=by
 cases xs with
 | nil=>rfl
 | cons x r=>exact adU ⟨rfl,by lia⟩
theorem zc (g:xs.length+ys.length<=1000):bm (.lst xs) (.lst ys)=.ok (.lst (xs++ys)):=(adU (by lia))
theorem Tn (g:xs.length+ys.length<=1000):ia (.lst xs) (.lst ys)=.ok (.lst (xs++ys)):=zc g
theorem WC (xs:ad8) (j:Nat):jH (.lst xs) ξ (θ (j:Int))=.ok (.lst (xs.take j)):=by rw [we,wv (by lia),YZ]
theorem Wn (xs:ad8) {j:Nat} (h:i=(j:Int)):jH (.lst xs) (θ i) ξ=.ok (.lst (xs.drop j)):=by rw [h,we,EE (by lia),YZ]
theorem AQ {xs ps:ad8} (u:∀ x∈xs,Tg (h+1) x) (r:∀ x∈ps,Tg (h+1) x) (hs:s<=t) (ht:t<=xs.length) (hn:lo<=s+ps.length+(xs.length - t)) (hm:s+ps.length+(xs.length - t)<=8) :
  WN (h+1) lo (.tup [.str "branch",.tup (xs.take s++ps++xs.drop t)]):=by
 refine ⟨_,rfl,?_,?_,fun x g=>?_⟩
 .grind
 .grind
 grind
theorem MR {h j:Nat} {xs zs:ad8} (I:∀ x∈xs,Tg (h+1) x) (h2:2<=xs.length) (h8:xs.length<=8) (hj:j < xs.length) (hz:zs.length<=8) (hq:∀ z∈zs,Tg h z) :
  ∃ d',qQ [.lst xs,.int (j:Int),.tup [bX h,.tup zs]]=.ok d'/\WN (h+1) (xs.length - 1) d':=by
 have m1:=JQ h;rw [Hj,mr];have g:∀ (s:Nat) (ts:ad8),s+2<=xs.length->(∀ y∈ts,Tg h y)->mn h<=ts.length->ts.length<=16->∃ d',(ap (aJ 5 (ai ci (aa (uI 2 0) (aa (ae 4) aj)))) (aB (bt (aa kh (aa (ai gQ (aa (ao ia Rl (oJ jH (ae 0) (bS (ao ia (ae 3) iC2)) eG)) aj)) aj))))) [θ (.lst xs),θ (.int (j:Int)),θ (.tup [bX h,.tup zs]),θ (.int (s:Int)),θ (.tup ts),ξ]=.ok (.rt d')/\WN (h+1) (xs.length - 1) d':=fun s ts hs ht t1 t2=>by
  obtain ⟨qs,Y,L⟩:=fresh ((⟨wz,fun lo hi=>⟨_,SK,SZ⟩⟩)) ht t1 (by lia);have hl:=L.l;obtain ⟨ps,ep,lp,C⟩:=ng L.n (by lia);refine ⟨_,(am (au (ak (ac (ag rfl rfl bW) (ac rfl rfl)) Y))).trans (av (ba (ac rfl (ac (ak (ac (ag (ag (de rfl rfl (bh rfl) (WC xs s)) (ak (ac rfl rfl) ep) (Tn (by rw [Zx];lia))) (de rfl (bh (ag (c:=.int ((s:Int)+2)) rfl rfl rfl)) rfl (Wn xs (j:=s+2) (by lia))) (Tn (by rw [YE,Zx,aaK];lia))) rfl) on) rfl)))),AQ I C (by lia) (by lia) (by lia) (by lia)⟩
 cases j with
 | zero =>
  have r:=lE (show 1 < xs.length by lia);obtain ⟨l,ys,_,e,M,y2,J⟩:=I _ (YG (show 1 < xs.length by lia));rw [e] at r;obtain ⟨d',u,v⟩:=g 0 (zs++ys) (by lia) (fun y hy=>(xb.mp hy).elim (hq y) (J y)) (by rw [YE];lia) (by rw [YE];lia);exact ⟨d',aq ((am ((aN (aO (ag rfl rfl (kW.trans rfl)))).trans ((am (au rfl)).trans (au (ag (ag rfl rfl bJ) (ag (ag (ag rfl rfl (vd (bM r))) rfl bJ) rfl bJ) (Ra (by lia))))))).trans u),v⟩
 | succ j =>
  have r:=lE (show j < xs.length by lia);obtain ⟨l,ys,_,e,M,y2,J⟩:=I _ (YG (show j < xs.length by lia));rw [e] at r;have Z:((j+1:Nat):Int) - 1=(j:Int):=by lia
  obtain ⟨d',u,v⟩:=g j (ys++zs) (by lia) (fun y hy=>(xb.mp hy).elim (J y) (hq y)) (by rw [YE];lia) (by rw [YE];lia);exact ⟨d',aq ((am ((b9 (aO (ag rfl rfl (kW.trans (by rw [adW (by lia)]))))).trans ((am (au (ag rfl rfl (Sl.trans (by rw [Z]))))).trans (au (ag (ag (ag ((vd (bM r))) rfl bJ) rfl bJ) rfl (Ra (by lia))))))).trans u),v⟩
theorem XS (h1:h=0\/2<=lo):h=0\/2<=mn h:=by
 cases h with
 | zero=>exact .inl rfl
 | succ h=>exact .inr (oR _)
theorem qc (C:Ok k):∀ (h n lo:Nat) (d:D),h < n->WN h lo d->(h=0\/2<=lo)->∃ qs:ad8,c6 n [d,ax k]=.ok (.lst qs)/\(∀ q∈qs,WN h (mn h) q)/\1<=qs.length/\qs.length<=3
 | _,0,_,_,hn,_,_=>absurd hn (aaU _)
 | 0,n+1,lo,d,hn,⟨xs,e,h1,h2,r⟩,z=>by
  subst e;obtain ⟨ks,rfl,I⟩:=U4 r;rw [iN] at h1 h2;have tA1:=ZZ (fun l=>ah l k) ks;have tB1:=ZZ (fun l=>ah k l) ks;have ea:cc (.one 0) SV (ae 0) [ξ,θ (ax k)] (ks.map ax)=.ok (.lst ((ks.filter fun l=>ah l k).map ax)) :=
   pw ax ax _ ks (fun l v=>fw (ak (ac rfl (ac rfl rfl)) ((I l v).ahead C)) rfl) (fun _ _ _=>rfl) (by lia)
  have Z:cc (.one 0) Uu (ae 0) [ξ,θ (ax k)] (ks.map ax)=.ok (.lst ((ks.filter fun l=>ah k l).map ax)) :=
   pw ax ax _ ks (fun l v=>fw (ak (ac rfl (ac rfl rfl)) (C.ahead (I l v))) rfl) (fun _ _ _=>rfl) (by lia)
  have lA:((ks.filter fun l=>ah l k).map ax).length=(ks.filter fun l=>ah l k).length:=iN _;have lB:((ks.filter fun l=>ah k l).map ax).length=(ks.filter fun l=>ah k l).length:=iN _;have M:∀ x∈(ks.filter fun l=>ah l k).map ax++[ax k]++(ks.filter fun l=>ah k l).map ax,Tg 0 x:=fun x r=>by
   rcases xb.mp r with r|r
   .rcases xb.mp r with r|r
    .obtain ⟨l,v,rfl⟩:=Do.mp r;exact ⟨l,I l (Zi.mp v).1,rfl⟩
    .exact ⟨k,C,OR.mp r⟩
   .obtain ⟨l,v,rfl⟩:=Do.mp r;exact ⟨l,I l (Zi.mp v).1,rfl⟩
  generalize (ks.filter fun l=>ah l k).map ax=A at ea lA M;generalize (ks.filter fun l=>ah k l).map ax=B at Z lB M;have lL:(A++[ax k]++B).length=A.length+1+B.length:=by rw [YE,YE];rfl
  obtain ⟨qs,e,f⟩:=fresh (h:=0) (Iz (A++[ax k]++B)) M (by show 1<=_;lia) (by lia);have fl:=f.l;refine ⟨qs,?_,f.n,by lia,by lia⟩;rw [mM,eS];have u:aX (ao bG (uI 0 0) m8) [θ (.tup [bX 0,.tup (ks.map ax)]),θ (ax k),ξ,ξ,ξ,ξ,ξ]=.ok ζ:=aO (ag (ag rfl rfl bW) rfl (ib.trans (by rw [adX rfl])));exact aq (a8 ((aN u).trans ((am (au (bF (eX (ag rfl rfl bJ) rfl) ea))).trans ((am (au (bF (eX (ag rfl rfl bJ) rfl) Z))).trans (av (ak (ac rfl (ac (ag (ag rfl (bg (ac rfl rfl)) (zc (by simp;lia))) rfl (zc (by rw [YE];simp;lia))) rfl)) e))))))
 | h+1,n+1,lo,d,hn,⟨xs,e,h1,h2,r⟩,z=>by
  subst e;have z:2<=lo:=by lia
  obtain ⟨j,ej,hj⟩:=lR (c:=.lst xs) C r Ah (fun i x h=>vd (bM h)) (by lia) (by lia);have eg:=lE hj;obtain ⟨l,ys,_,e,y1,y2,y3⟩:=r _ (YG hj);rw [e] at eg;obtain ⟨qs,e1,f1,a1,b1⟩:=qc C h n (mn h) (.tup [bX h,.tup ys]) (by lia) ⟨ys,rfl,y1,y2,y3⟩ (XS (lo:=2) (.inr (oR _)));obtain ⟨ps,ep,lp,L⟩:=ng f1 (by lia);have J:(xs.take j).length=j:=by rw [Zx];lia
  have Y:(xs.drop (j+1)).length=xs.length - (j+1):=aaK;have lL:(xs.take j++ps++xs.drop (j+1)).length=xs.length - 1+ps.length:=by rw [YE,YE,J,Y];lia
  obtain ⟨rs,e,f⟩:=fresh (h:=h+1) (Iz (xs.take j++ps++xs.drop (j+1))) (fun x g=>by
   rcases xb.mp g with g|g
   .rcases xb.mp g with g|g
    .exact r x (ZU g)
    .exact L x g
   .exact r x (aaw g)) (by show 2<=_;lia) (by lia)
  have fl:=f.l;refine ⟨rs,?_,f.n,by lia,by lia⟩;rw [mM,eS];have u:aX (ao bG (uI 0 0) m8) [θ (.tup [bX (h+1),.tup xs]),θ (ax k),ξ,ξ,ξ,ξ,ξ]=.ok η:=aO (ag (ag rfl rfl bW) rfl (ib.trans (by rw [Ys])));exact aq ((skip u).trans (((am (au (ak (ac rfl (ac rfl rfl)) ej))).trans ((am (au (ak (ac (ag (ag rfl rfl (vd (bM eg))) rfl bJ) (ac rfl rfl)) e1))).trans (av (ak (ac rfl (ac (ag (ag (de rfl rfl (bh rfl) (WC xs j)) (ak (ac rfl rfl) ep) (zc (by lia))) (de rfl (bh (bE rfl rfl)) rfl (Wn xs (j:=j+1) (by lia))) (zc (by grind))) rfl)) e))))))
theorem mz (I:Ok k):∀ (h n lo:Nat) (d:D),h < n->WN h lo d->(h=0\/2<=lo)->∃ d',bR n [d,ax k]=.ok d'/\WN h (mn h - 1) d'
 | _,0,_,_,hn,_,_=>absurd hn (aaU _)
 | 0,n+1,lo,d,hn,⟨xs,e,h1,h2,hx⟩,r=>by
  subst e;obtain ⟨ks,rfl,J⟩:=U4 hx;rw [iN] at h1 h2;have la:=ZZ (fun l=>!PyData.eqv (sC l) (sC k)) ks;refine ⟨.tup [.str "leaf",.tup ((ks.filter fun l=>!PyData.eqv (sC l) (sC k)).map ax)],?_,_,rfl,YJ _,by rw [iN];lia,fun x C=>?_⟩
  .rw [jN,cL];have ea:cc (.one 0) Gd (ae 0) [ξ,θ (ax k)] (ks.map ax)=.ok (.lst ((ks.filter fun l=>!PyData.eqv (sC l) (sC k)).map ax)) :=
    pw ax ax _ ks (fun l v=>aO (ag rfl rfl ((J l v).ne I))) (fun _ _ _=>rfl) (by lia)
   have g:aX (ao bG (uI 0 0) m8) [θ (.tup [bX 0,.tup (ks.map ax)]),θ (ax k),ξ,ξ,ξ]=.ok ζ:=aO (ag (ag rfl rfl bW) rfl (ib.trans (by rw [adX rfl])));exact aq (a8 ((aN g).trans (av (ba (ac rfl (ac (ak (ac (bF (eX (ag rfl rfl bJ) rfl) ea) rfl) on) rfl))))))
  .obtain ⟨l,v,rfl⟩:=Do.mp C;exact ⟨l,J l (Zi.mp v).1,rfl⟩
 | h+1,n+1,lo,d,hn,⟨xs,e,h1,h2,hx⟩,r=>by
  subst e;have r:2<=lo:=by lia
  obtain ⟨j,ej,z⟩:=lR (c:=.lst xs) I hx Ah (fun i x h=>vd (bM h)) (by lia) (by lia);have Z:=lE z;obtain ⟨l,ys,_,e,y1,y2,y3⟩:=hx _ (YG z);rw [e] at Z;obtain ⟨d1,e1,zs,rfl,z1,L,Y⟩:=mz I h n (mn h) (.tup [bX h,.tup ys]) (by lia) ⟨ys,rfl,y1,y2,y3⟩ (XS (lo:=2) (.inr (oR _)));rw [jN,cL];have g:aX (ao bG (uI 0 0) m8) [θ (.tup [bX (h+1),.tup xs]),θ (ax k),ξ,ξ,ξ]=.ok η:=aO (ag (ag rfl rfl bW) rfl (ib.trans (by rw [Ys])));have hq:aX (ao B5 (ai ce (aa (uI 4 1) aj)) (vC qP)) [θ (.tup [bX (h+1),.tup xs]),θ (ax k),θ (.lst xs),θ (.int (j:Int)),θ (.tup [bX h,.tup zs])]=.ok (decide ((4:Int)<=(zs.length:Int))):=aO (ag (cz (ag rfl rfl bJ) wz) rfl UG);have start:=fun T:FS=>(skip (S:=aB (bt (aa m8 (aa (ai gQ (aa (bo [ξ,θ 1] (cY (uI 0 1)) (.one 0) Gd (ae 0)) aj)) aj)))) (T:=ap (aJ 2 (ai zf (aa (uI 0 1) aj))) (ap UI (ap (aJ 4 (ai (bR n) (aa (ao aV (ao aV (ae 2) (ae 3)) DK) (aa (ae 1) aj)))) T))) g).trans
   ((am (au (ak (ac (ag rfl rfl bJ) rfl) (rfl)))).trans ((am (au (ak (ac rfl (ac rfl rfl)) ej))).trans (am (au (ak (ac (ag (ag rfl rfl (vd (bM Z))) rfl bJ) (ac rfl rfl)) e1)))))
  by_cases h4:4<=zs.length
  .rw [adX (by lia)] at hq;have m2:=SX h;obtain ⟨ps,ep,M,u⟩:=ng (h:=h) (qs:=[.tup [bX h,.tup zs]]) (fun q hq=>by rw [OR.mp hq];exact ⟨zs,rfl,by lia,L,Y⟩) (by simp);have M:ps.length=1:=M;exact ⟨_,aq ((start _).trans (a8 ((aN hq).trans (av (ba (ac rfl (ac (ak (ac (ag (ag (de rfl rfl (bh rfl) (WC xs j)) (ak (ac (bg (ac rfl rfl)) rfl) ep) (zc (by rw [Zx];lia))) (de rfl (bh (bE rfl rfl)) rfl (Wn xs (j:=j+1) (by lia))) (zc (by rw [YE,Zx,aaK];lia))) rfl) on) rfl))))))),AQ hx u (by lia) (by lia) (by show 1<=_;lia) (by lia)⟩
  .rw [adW (by lia)] at hq;obtain ⟨d',e2,n2⟩:=MR hx (by lia) h2 z L Y;exact ⟨d',aq ((start _).trans ((skip hq).trans (av (e2)))),n2.mono (by show 1<=_;lia)⟩
theorem FB (hq:∀ q∈qs,WN h (mn h) q) (h1:1<=qs.length) (C:qs.length<=8):∃ h' d,h'<=h+1/\p5 [.lst qs]=.ok d/\WN h' (rt h') d:=by
 by_cases o:qs.length=1
 .obtain ⟨q,rfl⟩:=aaP.mp o;exact ⟨h,q,by lia,rfl,(hq q (by simp)).mono (Hv h)⟩
 .obtain ⟨ps,u,z,g⟩:=ng hq (by lia);obtain ⟨v,e,f⟩:=fresh (Iz ps) g (by show 2<=_;lia) (by lia);have I:=f.l;obtain ⟨r,rfl⟩:=aaP.mp (show v.length=1 by lia);exact ⟨h+1,r,oR _,aq (((am ((nI (aO ((yM.trans (by rw [adX (by lia)])))) (au (ak (ac rfl (ac (u) rfl)) e))).trans rfl)).trans rfl)),(f.n r (by simp)).mono (Hv (h+1))⟩
theorem Yi (h:Nat):h=0\/2<=rt h:=by
 cases h with
 | zero=>exact .inl rfl
 | succ h=>exact .inr (oR _)
theorem zr (r:Ok k) (ht:WN h (rt h) d) (z:h < 40):∃ h' d',h'<=h+1/\jf [d,gO k,.int k.2.2.2]=.ok d'/\WN h' (rt h') d':=by
 obtain ⟨b,g⟩:=uk r ht (by lia);obtain ⟨qs,e,f,u,C⟩:=qc r h 40 (rt h) d z ht (Yi h);obtain ⟨h',d',hb,v,n2⟩:=FB f u (by lia);rw [un] at e;cases b with
 | true=>exact ⟨h,d,by lia,aq (a8 ((aN (fw (g) rfl)).trans rfl)),ht⟩
 | false=>exact ⟨h',d',hb,aq ((skip (fw (g) rfl)).trans (av (ak (ac (e) rfl) v))),n2⟩
theorem su (z:Ok k) (ht:WN h (rt h) d) (I:h < 40):∃ h' d',h'<=h/\du [d,gO k,.int k.2.2.2]=.ok d'/\WN h' (rt h') d':=by
 obtain ⟨b,u⟩:=uk z ht (by lia);obtain ⟨q,e,xs,rfl,r,v,g⟩:=mz z h 40 (rt h) d I ht (Yi h);rw [un] at e;rw [oY,dz];cases b with
 | false=>exact ⟨h,d,oR _,aq (a8 ((aN (Gs (b:=η) (ak (ac rfl (ac rfl (ac rfl rfl))) u))).trans (av rfl))),ht⟩
 | true =>
  have start:=fun T:FS=>(skip (S:=aB (ae 0)) (T:=ap (aJ 3 (ai eI (aa (ae 0) (aa Jx aj)))) T) (U:=[θ d,θ (gO k),θ (.int k.2.2.2),ξ]) (Gs (φ:=ai j0 (aa (ae 0) (aa (ae 1) (aa (ae 2) aj)))) (b:=ζ) (ak (ac rfl (ac rfl (ac rfl rfl))) u))).trans (am (au (ak (ac rfl (ac (ba (ac rfl (ac rfl rfl))) rfl)) e)));cases h with
  | zero=>exact ⟨0,_,oR _,aq ((start _).trans ((skip (kU (aO (ag (ag rfl rfl bW) rfl (ib.trans (by rw [Yn])))))).trans (av rfl))),xs,rfl,YJ _,v,g⟩
  | succ h =>
   have r:1<=xs.length:=r;have q1:aX (ao bG (uI 3 0) kh) [θ d,θ (gO k),θ (.int k.2.2.2),θ (.tup [bX (h+1),.tup xs])]=.ok ζ:=aO (ag (ag rfl rfl bW) rfl (ib.trans (by rw [adX rfl])));have q2:aX (ao bG (ai ce (aa (uI 3 1) aj)) DK) [θ d,θ (gO k),θ (.int k.2.2.2),θ (.tup [bX (h+1),.tup xs])]=.ok (decide ((xs.length:Int)=1)):=qf (cz (ag rfl rfl bJ) wz) rfl;by_cases h1:xs.length=1
   .rw [adX (by lia)] at q2;obtain ⟨x,rfl⟩:=aaP.mp h1;obtain ⟨l,ys,_,rfl,C,J,L⟩:=g x (by simp);exact ⟨h,_,by lia,aq ((start _).trans rfl),ys,rfl,Le (Hv h) C,J,L⟩
   .rw [adW (by lia)] at q2;exact ⟨h+1,_,oR _,aq ((start _).trans ((skip (q2)).trans rfl)),xs,rfl,by show 2<=_;lia,v,g⟩
def Py (k:Nat) (d:D):Prop:=∃ p,cI d=θ p/\p.canLay0=ζ/\p.depth<=k
theorem Py.list:∀ {ds:ad8},(∀ d∈ds,Py k d)->∃ ps,dm ds=θ ps/\Y0 ps=ζ/\Z1 ps<=k/\ps.length=ds.length
 | [],_=>⟨[],rfl,rfl,YJ _,rfl⟩
 | d::r,h=>by
  obtain ⟨p,h1,h2,v⟩:=h d (by simp);obtain ⟨ps,z,u,C,I⟩:=Py.list fun x g=>h x (lT _ g);refine ⟨p::ps,?_,?_,?_,by simp [I]⟩
  .rw [dm,h1,z];rfl
  .rw [Y0,h2,u];rfl
  .exact Nat.max_le.mpr ⟨v,C⟩
theorem Py.tup (h:∀ d∈ds,Py k d):Py (k+1) (.tup ds):=by
 obtain ⟨ps,r,g,u,v⟩:=Py.list h;exact ⟨.tuple ps,by rw [cI,r];rfl,g,by rw [aaV];lia⟩
theorem Py.lst (h:∀ d∈ds,Py k d):Py (k+1) (.lst ds):=by
 obtain ⟨ps,r,g,u,v⟩:=Py.list h;exact ⟨.list ps,by rw [cI,r];rfl,g,by rw [aaV];lia⟩
theorem Py.mono (h:Py k d) (g:k<=l):Py l d:=let ⟨p,a,b,c⟩:=h;⟨p,a,b,Le c g⟩
theorem Py.two (r:Py k a) (hb:Py k b):Py (k+1) (.tup [a,b]):=Py.tup fun d g=>by
 rcases mK.mp g with z|z
 .rw [z];exact r
 grind
def Py.int (i:Int):Py 0 (.int i):=⟨.int i,rfl,rfl,oR _⟩
theorem Py.shaped (h1:p.canLay0=ζ) (h2:p.depth<=k) (g:k<=60):YM p=ζ:=by
 unfold YM
 grind
theorem Py.self (h:Py k d) (v:k<=60) (hs:eT d=ξ):j1 d d=θ ζ:=by
 obtain ⟨p,r,g,u⟩:=h;have e:j1 d d=eu d d:=by unfold j1;rw [hs]
 have s:=Py.shaped g u v;rw [e,eu,r];dsimp only;rw [adU ⟨s,s⟩,SeqAt.eqv_refl _ g]
theorem Py.ne (h:Py k d) (g:k<=60) (hs:eT d=ξ):kA d d=.ok (.bl η):=by
 unfold kA;rw [h.self g hs];rfl
theorem Py.eq (h:Py k d) (g:k<=60) (hs:eT d=ξ):bG d d=.ok (.bl ζ):=by
 unfold bG;rw [h.self g hs];rfl
theorem Py.nil (h:∀ d∈ds,Py k d) (M:k<=50):kA (.lst ds) (.lst [])=.ok (.bl (decide (0 < ds.length))):=by
 obtain ⟨ps,C,u,L,J⟩:=Py.list h;have v:cI (.lst ds)=θ (.list ps):=by rw [cI,C];rfl
 have z:cI (.lst [])=θ (.list []):=rfl;have I:eu (.lst ds) (.lst [])=(Z4 (.list ps) (.list [])):=by
  unfold eu;rw [v,z];simp only;rw [adU ⟨Py.shaped (k:=k+1) u (by rw [aaV];lia) (by lia),by decide⟩]
 have g:j1 (.lst ds) (.lst [])=eu (.lst ds) (.lst []):=rfl;unfold kA;rw [g,I];cases ps with
 | nil =>
  have:ds.length=0:=by grind
  rw [this];rfl
 | cons p r =>
  have:0 < ds.length:=by rw [<- J];simp
  rw [adX this];rfl
theorem vm (h:B ((U.set i (θ a)).set j (θ b))=.ok (.nx δ')):cG (.tup [i,j]) B (.tup [a,b]::r) U=cG (.tup [i,j]) B r δ':=by
 rw [wS,Cv,az,F4,h,az,Bv]
def ov:D->D
 | .non=>.int 0
 | d=>d
theorem Ca (h:Vl 40 d):oy [d]=.ok (.tup [.int (kx d),ov d]):=by
 cases d with
 | non=>rfl
 | int i=>rfl
 | str z=>rfl
 | _=>exact h.elim
def kp (k:K4):ZO:=.tuple [.tuple [.int (T70.kx (gO k)),Lj (ov (gO k))],.int k.2.2.2]
theorem Ok.key (h:Ok k):dR [ax k]=.ok (.tup [.tup [.int (T70.kx (gO k)),ov (gO k)],.int k.2.2.2]):=by
 exact aq (av (ba (ac (ak (ac ((u0 k)) rfl) (Ca h.v)) (ac ((u1 k)) rfl))))
theorem Te (h:Vl 40 d):Vl 40 (ov d):=by
 cases d with
 | non=>exact Y6
 | int i=>exact Y6
 | str z=>exact h
 | _=>exact h.elim
theorem Ok.kp (h:Ok k):cI (.tup [.tup [.int (T70.kx (gO k)),ov (gO k)],.int k.2.2.2])=θ (kp k)/\KS.isK (T70.kp k)=ζ/\YM (T70.kp k)=ζ:=by
 have v:=Te h.v;obtain ⟨l1,l2⟩:=Aj v;refine ⟨?_,rfl,?_⟩
 .rw [cI,dm,cI,dm,dm,zb v];rfl
 .unfold YM T70.kp;rw [abD,Y0,abD,Y0,Y0,l1,aaV,Z1,aaV,Z1,Z1,l2];rfl
theorem Qn:∀ {l:List K4},(∀ k∈l,Ok k)->yu dR (l.map ax)=θ (l.map kp)
 | [],_=>rfl
 | k::r,h=>by
  have g:=h k (by simp);obtain ⟨h1,h2,v⟩:=g.kp;rw [YB,yu,g.key];dsimp only;rw [h1];show (if KS.isK (kp k)=ζ/\YM (kp k)=ζ then (yu dR (r.map ax)).map (kp k::·) else ξ)=_;rw [adU ⟨h2,v⟩,Qn fun x u=>h x (lT _ u)];rfl
theorem T6 {u v:D} (g:Vl 40 u) (hv:Vl 40 v) (e:T70.kx u=T70.kx v):∃ r,LU.cpP .lt (Lj (ov u)) (Lj (ov v))=θ r:=by
 cases u with
 | non=>cases v with
  | non=>exact ⟨_,rfl⟩
  | int j=>exact absurd (show (0:Int)=1 from e) (by decide)
  | str z=>exact absurd (show (0:Int)=2 from e) (by decide)
  | _=>exact hv.elim
 | int i=>cases v with
  | non=>exact absurd (show (1:Int)=0 from e) (by decide)
  | int j=>exact ⟨_,show LU.cpP .lt (.int i) (.int j)=_ by rw [LU.cpP]⟩
  | str z=>exact absurd (show (1:Int)=2 from e) (by decide)
  | _=>exact hv.elim
 | str x=>cases v with
  | non=>exact absurd (show (2:Int)=0 from e) (by decide)
  | int j=>exact absurd (show (2:Int)=1 from e) (by decide)
  | str z=>exact ⟨_,show LU.cpP .lt (.str x) (.str z)=_ by rw [LU.cpP]⟩
  | _=>exact hv.elim
 | _=>exact g.elim
theorem Us {a b:K4} (u:Ok a) (hb:Ok b):∃ r,LU.cpP .lt (kp a) (kp b)=θ r:=by
 have g:=u.v;have z:=hb.v;have i2:∀ i j , ∃ r,LU.cpPs .lt [.int i] [.int j]=θ r:=fun i j=>by
  rw [LU.cpPs];split
  .exact ⟨_,by rw [LU.cpPs]⟩
  .exact ⟨_,by rw [LU.cpP]⟩
 unfold kp;rw [LU.cpP,LU.cpPs];split
 .exact i2 _ _
 .rw [LU.cpP,LU.cpPs];split
  .rename_i h0 h1;have e  := by simpa [Z4] using h1
   rw [LU.cpPs];split
   .exact ⟨_,by rw [LU.cpPs]⟩
   .exact T6 g z e
  .exact ⟨_,by rw [LU.cpP]⟩
theorem FP (f:α->β) {a:α} {b:β} {l:List α} (h:∀ i∈p,i < l.length):KS.pkL b p (l.map f)=(KS.pkL a p l).map f:=by
 unfold KS.pkL;simp_all
theorem As {a:α} {l:List α} (h:p.Perm (YV l.length)):(KS.pkL a p l).Perm l:=by
 have:=h.map fun i=>l.getD i a
 rw [show (YV l.length).map (fun i=>l.getD i a)=l from KS.yI a l] at this;exact this
theorem Kg (h:∀ k∈l,Ok k) (z:l.length<=63):∃ ss:List K4,ox dR [.lst (l.map ax)]=.ok (.lst (ss.map ax))/\ss.Perm l:=by
 obtain ⟨p,e⟩:=KS.xS fun a r b hb=>by
  obtain ⟨x,u,rfl⟩:=Do.mp r;obtain ⟨y,hy,rfl⟩:=Do.mp hb;exact Us (h x u) (h y hy)
 have g:=KS.dt e;rw [iN] at g;refine ⟨KS.pkL (0,0,[],0) p l,?_,As g⟩;unfold ox;dsimp only;rw [adU (by simp_all),Qn h,abQ,e];dsimp only;rw [FP ax fun i v=>Y8.mp (g.mem_iff.mp v)]
theorem Kh {xs:ad8}:atI (xs++[x]) (-1)=θ x:=by
 have e:Ka (xs++[x]).length (-1)=xs.length:=by
  unfold Ka;rw [adV (by decide),YE,aaW,adU (by lia)];congr 1;lia
 unfold atI;simp_all
theorem yU:∀ (rest acc:List K4) (o:Option D),(∀ k∈acc,Ok k)->(∀ k∈rest,Ok k)->acc.length+rest.length<=900 ->
  ∃ (g:List K4) (I:Option D),cG (.one 2) nB (rest.map ax) [θ a,θ (.lst (acc.map ax)),o]=.ok (.nx [θ a,θ (.lst (g.map ax)),I])/\(∀ k∈g,Ok k)/\g.length<=acc.length+rest.length
 | [],acc,o,oa,_,_=>⟨acc,o,rfl,oa,by simp⟩
 | k::rest,acc,o,oa,orr,hl=>by
  have ok:=orr k (by simp);rw [YU] at hl;have u:aX B1 [θ a,θ (.lst (acc.map ax)),θ (ax k)]=.ok (decide (acc=[])):=aO (ag rfl (bg rfl) (eq_nil oa));obtain ⟨b,hq⟩:∃ b,se (aX B1) (aX (ao kA (ao aV (ae 1) (LQ D4 DK)) (ae 2))) [θ a,θ (.lst (acc.map ax)),θ (ax k)]=.ok b:=by
   by_cases v:acc=[]
   .rw [adX v] at u;exact ⟨_,(by rw [UH,u];rfl)⟩
   .rw [adW v] at u;obtain ⟨r,l,M⟩:∃ r l,acc=r++[l]:=by
     cases hacc:acc.reverse with
     | nil=>exact absurd (List.reverse_eq_nil_iff.mp hacc) v
     | cons l r=>exact ⟨r.reverse,l,by rw [<- List.reverse_reverse acc,hacc,aaY]⟩
    have L:aV (.lst (acc.map ax)) (.int (-1))=.ok (ax l):=vd (by rw [M,YK];exact Kh);exact ⟨_,sk u (aO (ag (ag rfl rfl L) rfl ((oa l (by rw [M];simp)).ne ok)))⟩
  have C:∀ x∈rest,Ok x:=fun x J=>orr x (lT _ J);cases b with
  | true =>
   obtain ⟨g,I,e,p2,p3⟩:=yU (a:=a) rest (acc++[k]) (θ (ax k)) (fun x J=>by
    rcases xb.mp J with z|z
    .exact oa x z
    .rw [OR.mp z];exact ok) C (by rw [YE,aaW];lia)
   refine ⟨g,I,?_,p2,by rw [YE,aaW] at p3;rw [YU];lia⟩;have t:nB (acx [θ a,θ (.lst (acc.map ax)),o] 2 (θ (ax k)))=.ok (.nx [θ a,θ (.lst ((acc++[k]).map ax)),θ (ax k)]):=by
    rw [YK];exact (aN hq).trans (iC rfl rfl (by rw [iN];lia))
   rw [YB,bU t];exact e
  | false =>
   obtain ⟨g,I,e,p2,p3⟩:=yU rest acc ((ax k)) oa C (by lia);refine ⟨g,I,?_,p2,by grind⟩;have t:nB (acx [a,θ (.lst (acc.map ax)),o] 2 ((ax k)))=.ok (.nx [a,θ (.lst (acc.map ax)),(ax k)]):=(b9 hq).trans rfl;rw [YB,bU t];exact e
theorem z7 {xs:List K4} (J:∀ k∈xs,Ok k) (hl:xs.length<=63):∃ h d,h<=1/\i6 [.lst (xs.map ax)]=.ok d/\WN h (rt h) d:=by
 obtain ⟨C,Y,L⟩:=Kg J hl;have z:∀ k∈C,Ok k:=fun k I=>J k (L.mem_iff.mp I);have v:C.length=xs.length:=L.length_eq;obtain ⟨ks,o,e,p2,p3⟩:=yU (a:=.lst (xs.map ax)) C [] ξ (fun x g=>by cases g) z (by simp;lia);have Z:ks.length<=xs.length:=by simpa [v] using p3
 rw [vj,gp];have start:∀ T:FS,(ap (f6 1 (bP aj)) (ap (fY (cY (ai (ox dR) (aa (ae 0) aj))) (.one 2) nB) T)) [θ (.lst (xs.map ax)),ξ,ξ]=T [θ (.lst (xs.map ax)),θ (.lst (ks.map ax)),o]:=fun T =>
  (am (nL (bg rfl))).trans (am (eR (eX (ak (ac rfl rfl) Y) rfl) e))
 have hq:aX B1 [θ (.lst (xs.map ax)),θ (.lst (ks.map ax)),o]=.ok (decide (ks=[])):=aO (ag rfl (bg rfl) (eq_nil p2));by_cases r:ks=[]
 .rw [adX r] at hq;have M:iA []=.ok (.tup [.str "leaf",.tup []]):=by
   rw [sw,fL];exact aq (av (ba (ac rfl (ac (ba rfl) rfl))))
  exact ⟨0,_,by lia,aq ((start _).trans (a8 ((aN hq).trans (av (ak rfl M))))),[],rfl,YJ _,YJ _,fun x g=>nomatch g⟩
 .rw [adW r] at hq;have u:1<=ks.length:=List.length_pos_iff.mpr r;obtain ⟨qs,ec,f⟩:=fresh (h:=0) (Iz (ks.map ax)) (fun x g=>by
   obtain ⟨k,I,rfl⟩:=Do.mp g;exact ⟨k,p2 k I,rfl⟩) (by rw [iN];exact u) (by grind)
  have fl:=f.l;rw [iN] at fl;obtain ⟨h,d,hb,er,nr⟩:=FB f.n (by lia) (by lia);exact ⟨h,d,hb,aq ((start _).trans ((skip hq).trans (av (ak (ac (ec) rfl) er)))),nr⟩
noncomputable def e8 (c:Str×Str):D:=.tup [.str c.1,.str c.2]
def z9 (nm:Str) (cs:List (Str×Str)):D:=.tup [.str nm,.tup (cs.map e8)]
def ml (c:Str):List (Str×Str)->Nat
 | []=>0
 | q::r=>if q.1=c then 0 else ml c r+1
theorem gZ:∀ {cs:List (Str×Str)},c∈cs.map YD->ml c cs < cs.length
 | [],h=>by simp at h
 | q::r,h=>by
  unfold ml;split
  .simp
  .rcases mK.mp h with z|z
   .grind
   .have:=gZ z;simp;lia
theorem Hw (h:B ((U.set i (θ a)).set j (θ b))=.ok (.rt d)):cG (.tup [i,j]) B (.tup [a,b]::r) U=.ok (.rt d):=by
 show ((B ((U.set i (a)).set j (b))).bind _)=_;rw [h];rfl
theorem J5 (h:ι U=.ok xs) (r:cG g B xs U=.ok (.rt d)):fY ι g B U=.ok (.rt d):=by rw [Lz,h,az,Mf,r]
theorem AS:∀ (cs:List (Str×Str)) (j:Nat) (g o3:Option D),c∈cs.map YD ->
  cG (.tup [2,3]) cpB (bq j (cs.map e8)) [θ a,θ (.str c),g,o3]=.ok (.rt (.int ((j+ml c cs:Nat):Int)))
 | [],_,_,_,h=>by simp at h
 | q::r,j,g,o3,h=>by
  have t:aX (ao bG (uI 3 0) (ae 1)) [a,θ (.str c),θ (.int j),(e8 q)]=.ok ((q.1=c)):=aO (ib);by_cases e:q.1=c
  .rw [adX e] at t
   have:ml c (q::r)=0:=by unfold ml;rw [adU e]
   rw [this];exact Hw ((aN t).trans rfl)
  .rw [adW e] at t;have v:ml c (q::r)=ml c r+1:=adV e;rw [v];have h':c∈r.map YD:=by
    grind
   have z:=AS (a:=a) r (j+1) (θ (.int j)) ((e8 q)) h';have u:((j+(ml c r+1)))=((j+1+ml c r:Nat)):=by lia
   rw [u,<- z];exact vm ((b9 t).trans rfl)
theorem gw (h:c∈cs.map YD):eF [z9 nm cs,.str c]=.ok (.int (ml c cs:Int)):=by
 have e:=AS (a:=z9 nm cs) cs 0 ξ ξ h;rw [abH] at e;refine aq (a8 (J5 ?_ e));rfl
abbrev vY:=Int×ad8
noncomputable def bn (g:List vY):List (Key×D):=g.map fun q=>(Key.inl q.1,D.tup q.2)
def si (ids:List (Str×D)):List (Key×D):=ids.map fun q=>(Key.inr q.1,q.2)
def nj (nm:Str) (cs:List (Str×Str)) (g:List vY) (ids:List (Str×D)):D:=.obj "Table" [("shape",z9 nm cs),("rows",.dcf (bn g)),("indexes",.dcf (si ids))]
theorem Ml:He "Table" "rows" (nj nm cs rs ids)=.ok (.dcf (bn rs)):=by
 rfl
theorem zH (h:φ U=.ok d) (g:He n f d=.ok e):oX n f φ U=.ok e:=by unfold oX;rw [h,az,g]
theorem Tx (h:φ U=.ok (.dct ds)):Gx φ U=.ok (.dcf ds):=by unfold Gx;rw [h];rfl
noncomputable def bI (g:List vY) (n:Int):Option (ad8):=(g.find? fun q=>decide (q.1=n)).map (·.2)
def my (g:List vY) (n:Int) (r:ad8):List vY:=if (bI g n).isSome=ζ then g.map fun q=>if q.1=n then (q.1,r) else q else g++[(n,r)]
def gY (g:List vY) (n:Int):List vY:=g.filter fun q=>decide (q.1≠n)
theorem f7 (n:Int):∀ rs:List vY,bv (bn rs) (.inl n)=(bI rs n).map D.tup
 | []=>rfl
 | q::r=>by
  by_cases e:q.1=n
  .simp [bn,bv,bI,Zg,e]
  .have:=f7 n r
   simp [bn,bv,bI,Zg,e] at this ⊢;exact this
theorem wR (n:Int) (x:ad8) (g:List vY):cx (bn g) (.inl n) (.tup x)=bn (my g n x):=by
 unfold cx my;rw [f7]
 have:((bI g n).map D.tup).isSome=(bI g n).isSome:=by grind
 rw [this];split
 .unfold bn;rw [Y5,Y5];apply ZV
  intro q _;by_cases e:q.1=n
  .simp [e]
  .simp [e]
 .unfold bn;rw [YK];rfl
theorem sO (n:Int) (g:List vY):cX (bn g) (.inl n)=bn (gY g n):=by
 unfold cX gY bn;rw [List.filter_map];congr 1;apply List.filter_congr
 simp
theorem uL (h:bI rs n=θ x):(n,x)∈rs:=by
 unfold bI at h;cases e:rs.find? fun q=>(q.1=n) with
 | none=>rw [e] at h;cases h
 | some q =>
  grind
theorem tV (h:bI rs n=ξ):∀ q∈rs,q.1≠n:=fun q hq e=>by
 have:=ab5.mp (acE.mp h) q hq
 exact this (adX e)
theorem ud (hn:(rs.map YD).Nodup) (h:q∈rs):bI rs q.1=θ q.2:=by
 cases e:bI rs q.1 with
 | none=>exact absurd rfl (tV e q h)
 | some x =>
  have h2:=uL e
  have:∀ {l:List vY} {a b:vY},(l.map YD).Nodup->a∈l->b∈l->a.1=b.1->a=b:=fun {l}=>by
   induction l with
   | nil=>intro a b _ h;cases h
   | cons c r z =>
    intro a b u g hb v;rw [YB,YW] at u;rcases mK.mp g with ea|g <;> rcases mK.mp hb with eb|hb
    .rw [ea,eb]
    .simp_all
    .exact absurd (Do.mpr ⟨a,g,by rw [v,eb]⟩) u.1
    .exact z u.2 g hb v
  have:=this hn h h2 rfl
  rw [this]
def O8 (v:D) (n:Int):K4:=match v with
 | .int i=>(1,i,[],n)
 | .str z=>(2,0,z.cps.toList,n)
 | _=>(0,0,[],n)
theorem Mv (v:D) (n:Int):(O8 v n).2.2.2=n:=by unfold O8;split <;> rfl
theorem u4 (h:Vl 40 v):Ok (O8 v n)/\ax (O8 v n)=.tup [v,.int n]/\gO (O8 v n)=v:=by
 cases v with
 | non=>exact ⟨Ok.of rfl h,rfl,rfl⟩
 | int i=>exact ⟨Ok.of rfl h,rfl,rfl⟩
 | str z=>exact ⟨Ok.of rfl h,rfl,by rfl⟩
 | _=>exact h.elim
structure RowOk (m:Nat) (r:ad8):Prop where
 len:r.length=m
 v:∀ v∈r,Vl 40 v
def eK (p:Nat) (q:vY):K4:=O8 (q.2.getD p .non) q.1
theorem RowOk.at_ (h:RowOk m r) (u:p < m):Vl 40 (r.getD p .non)/\r[p]?=θ (r.getD p .non):=by
 have g:p < r.length:=by rw [h.len];exact u
 have e  := lE g
 have:r.getD p .non=r[p]:=by simp_all
 rw [this];exact ⟨h.v _ (YG g),e⟩
structure RsOk (m:Nat) (rs:List vY):Prop where
 nd:(rs.map YD).Nodup
 r:∀ q∈rs,RowOk m q.2
def qF (B:Nat) (d:D):Prop:=∃ h,h<=B/\WN h (rt h) d
theorem ul (h:RsOk m rs) (n:Int) (x:ad8):(my rs n x).Perm ((n,x)::gY rs n):=by
 unfold my;cases e:bI rs n with
 | none =>
  have L:gY rs n=rs:=ac9.mpr fun q hq=>adX (tV e q hq);simp_all
 | some v =>
  rw [adU (show (θ v).isSome=ζ from rfl)];have u:=uL e;have nd:=h.nd;clear h e;unfold gY;induction rs with
  | nil=>cases u
  | cons q r C =>
   rw [YB,YW] at nd;by_cases eq:q.1=n
   .have hr:∀ z∈r,z.1≠n:=fun z hz I=>nd.1 (Do.mpr ⟨z,hz,by rw [I,eq]⟩);have J:(r.map fun q=>if q.1=n then (q.1,x) else q)=r:=by
     conv=>rhs;rw [<- List.map_id r]
     apply ZV
     intro z hz;rw [adV (hr z hz)];rfl
    have e2  := ac9.mpr fun z hz=>adX (hr z hz);rw [YB,adU eq,J,Z8,adV (by simp [eq]),e2,eq]
   .rw [YB,adV eq,Z8,adU (by simp [eq])];have g:(n,v)∈r:=by
     grind
    exact ((C g nd.2).cons q).trans (List.Perm.swap _ _ _)
theorem rl (h:RsOk m rs) (n:Int):RsOk m (gY rs n) :=
 ⟨h.nd.sublist (abX.map _),fun q hq=>h.r q (Zi.mp hq).1⟩
theorem EY (g:List vY) (n:Int):∀ q∈gY g n,q.1≠n:=fun q hq=>adY (Zi.mp hq).2
theorem FQ (h:RsOk m rs) (n:Int) (x:ad8):(my rs n x).length<=rs.length+1:=by
 rw [(ul h n x).length_eq,YU]
 have:(gY rs n).length<=rs.length:=ZZ _ _
 lia
theorem TD (h:RsOk m rs) (u:p < m):∀ k∈rs.map (eK p),Ok k:=fun k g=>by
 obtain ⟨q,hq,rfl⟩:=Do.mp g;exact (u4 ((h.r q hq).at_ u).1).1
theorem NU (u:RowOk m x) (I:p < m) (hB:B < 40) (v:qF B d):∃ d',jf [d,x.getD p .non,.int n]=.ok d'/\qF (B+1) d':=by
 obtain ⟨h,hb,r⟩:=v;obtain ⟨o,_,z⟩:=u4 (u.at_ I).1;obtain ⟨h',d',C,e,g⟩:=zr o r (by lia);rw [z,Mv] at e;exact ⟨d',e,h',by lia,g⟩
theorem IB (u:RowOk m x) (I:p < m) (hB:B < 40) (v:qF B d):∃ d',du [d,x.getD p .non,.int n]=.ok d'/\qF B d':=by
 obtain ⟨h,hb,r⟩:=v;obtain ⟨o,_,z⟩:=u4 (u.at_ I).1;obtain ⟨h',d',C,e,g⟩:=su o r (by lia);rw [z,Mv] at e;exact ⟨d',e,h',by lia,g⟩
def jE (ids:List (Str×D)) (c:Str):Option D:=(ids.find? fun q=>decide (q.1=c)).map (·.2)
theorem pF (c:Str):∀ ids:List (Str×D),bv (si ids) (.inr c)=jE ids c
 | []=>rfl
 | q::r=>by
  have g:=pF c r;by_cases e:q.1=c
  .simp [si,bv,jE,Zg,e]
  .simp [si,bv,jE,Zg,e] at g ⊢;exact g
theorem qh (h:c∉ids.map YD):jE ids c=ξ:=by
 unfold jE;rw [ab5.mpr fun q hq z=>h (Do.mpr ⟨q,hq,adY z⟩)];rfl
theorem xk (hn:(ids.map YD).Nodup):∀ {q:Str×D},q∈ids->jE ids q.1=θ q.2:=by
 induction ids with
 | nil=>grind
 | cons a r g =>
  intro q h;rw [YB,YW] at hn;rcases mK.mp h with rfl|h
  .simp [jE,Zg]
  .have:a.1≠q.1:=fun e=>hn.1 (Do.mpr ⟨q,h,e.symm⟩)
   have g:=g hn.2 h;simp [jE,Zg,this] at g ⊢;exact g
theorem uO (h:c∉ids.map YD):cx (si ids) (.inr c) d=si (ids++[(c,d)]):=by
 unfold cx;rw [pF,qh h];unfold si;rw [YK];rfl
theorem Ng (h:jE ids c=θ d):lZ (.dcf (si ids)) (.str c)=.ok d:=by
 show (match bv (si ids) (.inr c) with|some d=>R.ok d|none=>.no)=_
 rw [pF,h]
theorem Bg (h:bI rs n=θ x):lZ (.dcf (bn rs)) (.int n)=.ok (.tup x):=by
 show (match bv (bn rs) (.inl n) with|some d=>R.ok d|none=>.no)=_
 rw [f7,h];rfl
theorem rR:ik (.int n) (.dcf (bn rs))=.ok (.bl (!(bI rs n).isSome)):=by
 show dD ((bv (bn rs) (.inl n)).isSome) _=_;rw [f7];cases bI rs n <;> rfl
structure TbOk (B:Nat) (cs:List (Str×Str)) (rs:List vY) (ids:List (Str×D)):Prop where
 r:RsOk cs.length rs
 nd:(ids.map YD).Nodup
 i:∀ q∈ids,q.1∈cs.map YD/\qF B q.2
theorem nC (h:RowOk m x) (g:p < m):aV (.tup x) (.int (p:Int))=.ok (x.getD p .non):=uA (bM (h.at_ g).2)
theorem kZ (h:RsOk cs.length rs) (hB:B < 40) (g:c∈cs.map YD) (v:jE ids c=θ d) (u:qF B d) :
  ∃ d',gf [nj nm cs rs ids,.str c,.int n]=.ok d'/\qF B d':=by
 have s1  := (Ng v);cases e:bI rs n with
 | none =>
  refine ⟨d,?_,u⟩;exact aq ((am (au s1)).trans (a8 ((aN (aO ((rR.trans (by rw [e];rfl))))).trans rfl)))
 | some C =>
  have hx0  := h.r _ (uL e);obtain ⟨d',z,h1⟩:=IB hx0 (gZ g) hB u;refine ⟨d',?_,h1⟩;exact aq ((am (au s1)).trans ((skip (aO ((rR.trans (by rw [e];rfl))))).trans (av (ak (ac rfl (ac (ag ((Bg e)) ((gw g)) (nC hx0 (gZ g))) rfl)) z))))
theorem mY (h:U[i]?=θ (θ (.dct kvs))) (r:ε U=.ok d) (u:ψ U=.ok k) (g:cb k=θ kk) (v:kvs.length < 1000):lf i ψ ε U=.ok (.nx (U.set i (θ (.dct (cx kvs kk d))))):=by
 unfold lf;rw [h];show ((ε U).bind _)=_;rw [r,az];rw [u,az,g]
 grind
theorem KC (h:U[i]?=θ (θ (.dct kvs))) (g:ψ U=.ok k) (r:cb k=θ kk) (u:(bv kvs kk).isSome=ζ):rM i ψ U=.ok (.nx (U.set i (θ (.dct (cX kvs kk))))):=by
 unfold rM;rw [h];show ((ψ U).bind _)=_;rw [g,az,r];dsimp only;rw [adU u]
theorem AA (h:RsOk cs.length rs) (I:RowOk cs.length x) (hB:B < 40) :
  ∀ (g acc:List (Str×D)) (o5 o6:Option D),(∀ q∈g,jE ids q.1=θ q.2/\q.1∈cs.map YD/\qF B q.2)->((acc++g).map YD).Nodup->acc.length+g.length < 1000 ->
   ∃ (out:List (Str×D)) (v u:Option D),cG (.one 5) X4 (g.map fun q=>D.str q.1) [θ (nj nm cs rs ids),θ (.int n),θ (.tup x),θ rd,θ (.dct (si acc)),o5,o6]=.ok (.nx [θ (nj nm cs rs ids),θ (.int n),θ (.tup x),θ rd,θ (.dct (si (acc++out))),v,u])/\out.map YD=g.map YD/\∀ q∈out,qF (B+1) q.2
 | [],acc,o5,o6,_,_,_=>⟨[],o5,o6,by rw [Y9];rfl,rfl,fun q hq=>nomatch hq⟩
 | q::r,acc,o5,o6,hq,nd,hln=>by
  obtain ⟨q1,q2,q3⟩:=hq q (by simp);obtain ⟨L,M,i1⟩:=kZ (nm:=nm) (n:=n) h hB q2 q1 q3;obtain ⟨C,Z,i2⟩:=NU (n:=n) I (gZ q2) hB i1;have J:q.1∉acc.map YD:=fun z=>by
   rw [YK,YB,aaZ] at nd;exact nd.2.2 _ z _ Zc rfl
  obtain ⟨out,v,u,e,Y,hi⟩:=AA (nm:=nm) (ids:=ids) (n:=n) (rd:=rd) h I hB r (acc++[(q.1,C)]) (θ (.str q.1)) (θ L) (fun z hz=>hq z (lT _ hz)) (by simpa using nd) (by simp at hln ⊢;lia);refine ⟨(q.1,C)::out,v,u,?_,by rw [YB,YB,Y],fun z hz=>?_⟩
  .have t:X4 (acx [θ (nj nm cs rs ids),θ (.int n),θ (.tup x),θ rd,θ (.dct (si acc)),o5,o6] 5 (θ (.str q.1)))=.ok (.nx [θ (nj nm cs rs ids),θ (.int n),θ (.tup x),θ rd,θ (.dct (si (acc++[(q.1,C)]))),θ (.str q.1),θ L]):=by
    rw [<- uO J];exact (am (au (ak (ac rfl (ac rfl (ac rfl rfl))) M))).trans (mY rfl (ak (ac rfl (ac (ag rfl (ak (ac (zH rfl (by
      rfl)) (ac rfl rfl)) (gw q2)) (nC I (gZ q2))) (ac rfl rfl))) Z) rfl rfl (by unfold si;rw [iN];lia))
   rw [YB,bU t,e,ZM];rfl
  grind
theorem vG (h:φ U=.ok (.dcf kvs)):rN φ U=.ok (kvs.map fun q=>j6 q.1):=by unfold rN;rw [h];rfl
theorem xU (ids:List (Str×D)):(si ids).map (fun q=>j6 q.1)=ids.map fun q=>D.str q.1:=by unfold si;rw [Y5];rfl
theorem GF (h:TbOk B cs rs ids) (v:RowOk cs.length x) (J:rs.length<=600) (L:ids.length<=100) (hB:B < 40) :
  ∃ ids',lX [nj nm cs rs ids,.int n,.tup x]=.ok (nj nm cs (my rs n x) ids')/\ids'.map YD=ids.map YD/\TbOk (B+1) cs (my rs n x) ids':=by
 obtain ⟨out,o5,o6,e,u,g⟩:=AA (nm:=nm) (ids:=ids) (n:=n) (x:=x) h.r v hB ids [] ξ ξ (fun q hq=>⟨xk h.nd hq,h.i q hq⟩) (by simpa using h.nd) (by simp;lia);refine ⟨out,?_,u,(by
   have C:=ul h.r n x;refine ⟨?_,fun q hq=>?_⟩
   .refine (C.map YD).nodup_iff.mpr ?_;rw [YB,YW];refine ⟨fun z=>?_,(rl h.r n).nd⟩;obtain ⟨q,hq,e⟩:=Do.mp z;exact EY rs n q hq e
   .rcases mK.mp (C.mem_iff.mp hq) with rfl|z
    .exact v
    .exact (rl h.r n).r q z),by rw [u];exact h.nd,fun q hq=>⟨?_,g q hq⟩⟩
 .refine aq (((am (mY rfl rfl rfl rfl (by unfold bn;rw [iN];lia))).trans ?_));rw [wR];refine ((am (eR ((vG rfl).trans (by rw [xU])) e)).trans ?_);rfl
 .have:q.1∈ids.map YD:=by grind
  obtain ⟨z,hz,I⟩:=Do.mp this;rw [<- I];exact (h.i z hz).1
theorem map_two {β:Type} {rest:Sd} (u v f:β->D) (xs:List β) (h:∀ x∈xs,ε (θ (u x)::θ (v x)::rest)=.ok (f x)) (C:xs.length<=1000):cc (.tup [0,1]) fS ε (ξ::ξ::rest) (xs.map fun x=>D.tup [u x,v x])=.ok (.lst (xs.map f)):=by
 refine pR rfl (by grind) ?_;clear C;induction xs with
 | nil=>rfl
 | cons x r z =>
  have h1:=h x (by simp);have g:=z (fun y hy=>h y (lT _ hy));show (ε ((u x)::(v x)::rest)).bind _=_;rw [h1,g];rfl
theorem HE (h:φ U=.ok (.dcf kvs)):pY φ U=.ok (kvs.map fun q=>D.tup [j6 q.1,q.2]):=by unfold pY;rw [h];rfl
theorem zF (g:List vY):(bn g).map (fun q=>D.tup [j6 q.1,q.2])=g.map fun q=>D.tup [.int q.1,.tup q.2]:=by unfold bn;rw [Y5];rfl
theorem zC (h:RsOk cs.length rs) (v:rs.length<=600) (g:c∈cs.map YD):m7 [nj nm cs rs ids,.str c]=.ok (.lst ((rs.map (eK (ml c cs))).map ax)):=by
 rw [Y5];refine aq ((am (au ((gw g)))).trans (av (bF ((HE rfl).trans (by rw [zF])) (map_two (fun q  => D.int q.1) (fun q=>D.tup q.2) _ rs (fun q hq=>?_) (by lia)))));have u:=(h.r q hq).at_ (gZ g)
 have:=(u4 (n:=q.1) u.1).2.1
 show _=R.ok (ax (O8 (q.2.getD (ml c cs) .non) q.1));rw [this];exact ba (ac ((nC (h.r q hq) (gZ g))) rfl)
theorem zy (h:TbOk B cs rs ids) (hB:1<=B) (C:rs.length<=63) (L:ids.length<=100) (g:c∈cs.map YD) (hn:c∉ids.map YD) :
  ∃ d,jj [nj nm cs rs ids,.str c]=.ok (nj nm cs rs (ids++[(c,d)]))/\TbOk B cs rs (ids++[(c,d)]):=by
 obtain ⟨v,d,hb,e,u⟩:=z7 (xs:=rs.map (eK (ml c cs))) (TD h.r (gZ g)) (by simp_all);refine ⟨d,?_,h.r,?_,fun q hq=>?_⟩
 .refine aq (((am (mY rfl (ak (ac ((zC h.r (Le C (by decide)) g)) rfl) e) rfl rfl (by unfold si;rw [iN];lia))).trans ?_));rw [uO hn];rfl
 .rw [YK,aaZ];refine ⟨h.nd,by simp,fun a J b hb I=>?_⟩;simp_all
 .rcases xb.mp hq with z|z
  .exact h.i q z
  .obtain rfl:q=(c,d):=by simpa using z
   exact ⟨g,v,Le hb hB,u⟩
def DN (z:Str):Prop:=∀ c∈z.cps.toList,c∈tab
theorem Py.str (h:DN z):Py 0 (.str z):=⟨.str z,rfl,Xc z h,oR _⟩
theorem Lc (h:Vl 40 v):Py 0 v:=⟨Lj v,zb h,(Aj h).1,by rw [(Aj h).2];exact oR _⟩
theorem Ec (h:RowOk m r):Py 1 (.tup r):=Py.tup fun d g=>Lc (h.v d g)
theorem Dj (h:Py k d) (v:k<=30):qM d d=θ ζ:=by
 obtain ⟨p,u,g,r⟩:=h;have s:=Py.shaped g r (by lia);unfold qM;rw [u];dsimp only;rw [adU ⟨s,by lia,s⟩,SeqAt.eqv_refl _ g]
theorem uj:∀ {g:List (Key×D)},(∀ q∈g,bv kb q.1=θ q.2/\qM q.2 q.2=θ ζ)->ow kb g=θ ζ
 | [],_=>rfl
 | (k,d)::r,h=>by
  obtain ⟨h1,h2⟩:=h (k,d) (by simp);unfold ow;rw [h1];dsimp only;rw [h2,uj fun q hq=>h q (lT _ hq)];rfl
theorem Jc (h:RsOk m rs):DD (.dcf (bn rs)) (.dcf (bn rs))=.ok (.bl η):=by
 have:HJ (.dcf (bn rs)) (.dcf (bn rs))=ζ:=by
  show JH (bn rs) (bn rs)=ζ;unfold JH;rw [adU rfl];refine uj fun q hq=>?_;obtain ⟨z,hz,rfl⟩:=Do.mp hq;exact ⟨by rw [f7,ud h.nd hz];rfl,Dj (Ec (h.r z hz)) (by decide)⟩
 unfold DD;rw [this];rfl
theorem wX:∀ ns:List Int,l7 (ns.map D.int)=θ (ns.map acm)
 | []=>rfl
 | i::r=>by
  show (l7 (r.map D.int)).map (acm i::·)=_;rw [wX r];rfl
theorem Ef (v:ns.length<=63):∃ L:List Int,wP (ns.map D.int)=.ok (.lst (L.map D.int))/\L.Perm ns:=by
 obtain ⟨p,e⟩:=KS.xS (ks:=ns.map acm) fun a r b hb=>by
  obtain ⟨x,_,rfl⟩:=Do.mp r;obtain ⟨y,_,rfl⟩:=Do.mp hb;exact ⟨_,by rw [LU.cpP]⟩
 have g:=KS.dt e;rw [iN] at g;refine ⟨KS.pkL 0 p ns,?_,As g⟩;unfold wP;rw [adU (by simp_all),wX,abQ,e];dsimp only;rw [FP D.int fun i u=>Y8.mp (g.mem_iff.mp u)]
theorem Mu {β:Type} (p:β->Bool) (xs:List β):pq [.lst (xs.map fun x=>D.bl (p x))]=.ok (.bl (xs.all p)):=by
 rw [RB (BH p xs),List.all_map];rfl
theorem PC {β:Type} {U rest:Sd} (u:β->D) (p:β->Bool) {xs:List β} (g:ι U=.ok (xs.map u)) (h:∀ x∈xs,ε (θ (u x)::rest)=.ok (.bl (p x))) (r:xs.length<=1000) (v:d5 ix U=ξ::rest:=by rfl):ai pq (aa (bo ix ι (.one 0) fS ε) aj) U=.ok (.bl (xs.all p)) :=
 ak (ac (bF g (by rw [v];exact eU u (fun x=>D.bl (p x)) xs h r)) rfl) (Mu p xs)
theorem Wu {β:Type} {U rest:Sd} (u v:β->D) (p:β->Bool) {xs:List β} (g:ι U=.ok (xs.map fun x=>D.tup [u x,v x])) (h:∀ x∈xs,ε (θ (u x)::θ (v x)::rest)=.ok (.bl (p x))) (r:xs.length<=1000) (z:d5 ix U=ξ::ξ::rest:=by rfl):ai pq (aa (bo ix ι (.tup [0,1]) fS ε) aj) U=.ok (.bl (xs.all p)) :=
 ak (ac (bF g (by rw [z];exact map_two u v (fun x=>D.bl (p x)) xs h r)) rfl) (Mu p xs)
theorem EM {r:R D} (h:r=.ok (.bl a)) (e:a=b):r=.ok (.bl b):=by rw [h,e]
abbrev X3:Str:=DO "abcdefghijklmnopqrstuvwxyz"
noncomputable def al:ad0:=X3.cps.toList
def Os:al.length=26:=by trivial
def Jo (i:Int):Nat:=al.getD (i % 26).toNat 0
theorem Lg (i:Int):al[(i % 26).toNat]?=θ (Jo i):=by
 have g:(i % 26).toNat < al.length:=by rw [Os];lia
 unfold Jo;simp_all
theorem Mq (i:Int):atI X3.cps.toList (i % 26)=θ (Jo i):=by
 have h:=bM (Lg i);rw [show (((i % 26).toNat))=i % 26 by lia] at h;exact h
def ws:ad1:=["and","by","down","from","none","not","or","order","show","take"]
def Yy:List (ad0):=(ws++([("where":Str)]:ad1)).map fun z=>z.cps.toList
def Ss (z:Str):Bool:=!decide (z="where")&&!Hl (.str z) (ws.map V.str)
theorem N0 (h:Ss z=η):z.cps.toList∈Yy:=by
 unfold Ss at h;by_cases e:z="where"
 .rw [e];decide +kernel
 .rw [adW e] at h;have h  := by simpa using h
  unfold Hl at h;rw [List.any_map,List.any_eq_true] at h;obtain ⟨y,hy,e⟩:=h;have e:(y==z)=ζ:=e;rw [beq_iff_eq] at e;rw [<- e];exact Do.mpr ⟨y,YY _ hy,rfl⟩
theorem gJ (a b:Str):(a++b).cps.toList=a.cps.toList++b.cps.toList:=by
 show (a.cps++b.cps).toList=_;simp
theorem u8 (a b:Str):(a++b).length=a.length+b.length:=by
 rw [str_len,str_len,str_len,gJ,YE]
theorem Ld (h:α U=.ok ds) (u:g z ds=r):Qd g (vC (.str z)) α U=r:=by
 show (XT g _ _ (.str z))=_;rw [VM,h,az,u]
theorem HY (f:Nat->Nat) (n:Nat) (hn:n<=1000):∃ z:Str,mf "" [.lst ((YV n).map fun (k:Nat)=>D.str ⟨#[f k]⟩)]=.ok (.str z)/\z.cps.toList=(YV n).map f:=by
 have g:((YV n).map fun k=>(⟨#[f k]⟩:Str))=(((YV n).map f).map fun c=>⟨#[c]⟩):=by simp_all
 have r:(DO "").length=0:=by trivial
 refine ⟨_,Pp (strs_map (fun k=>(⟨#[f k]⟩)) (YV n)) (by rw [g,CF,iN,Y7];lia),?_⟩;rw [g,y6]
theorem QS (z:Str) (p:Nat):(mF z ξ (θ (p:Int))).cps.toList=z.cps.toList.take p:=by
 unfold mF;rw [HT.gu,HT.j9];rw [str_len];simp_all
theorem Ux (z:Str) (p:Nat):(mF z (θ (p:Int)) ξ).cps.toList=z.cps.toList.drop p:=by
 unfold mF;rw [HT.gu,HT.j9];rw [str_len];rcases Nat.le_total p z.cps.toList.length with h|h
 .rw [aaA h,ZD (by simp)]
 simp_all
structure NmOk (y:Str):Prop where
 l0:1<=y.length
 l1:y.length<=8
 al:∀ c∈y.cps.toList,c∈al
 ok:Ss y=ζ
theorem uv (a b:Nat):(([a]:ad0) < [b]) ↔ a < b:=by
 constructor
 .intro h;cases h with
  | rel h=>exact h
  | cons h=>cases h
 .exact fun h=>List.Lex.rel h
theorem S5:∀ c∈al,97<=c/\c<=122:=by trivial
theorem TK (c:Nat) (h:97<=c):B5 (.str ⟨#[c]⟩) (.str "a")=.ok (.bl ζ):=by
 have g:(DO "a").cps.toList=[97]:=by trivial
 rw [SS,g];simp only [uv];simp [h]
theorem Se (c:Nat) (h:c<=122):DH (.str ⟨#[c]⟩) (.str "z")=.ok (.bl ζ):=by
 have g:(DO "z").cps.toList=[122]:=by trivial
 rw [QY,g];simp only [uv];simp [h]
theorem Bf (h:NmOk y):kC [.str y]=.ok (.bl ζ):=by
 rw [CI,kH];have v:=h.l1;have l0:=h.l0;have ne:¬ y="":=fun e=>by
  rw [e] at l0;exact absurd l0 (by trivial)
 have q1:aX (ao bG (ae 0) (vC (.str ""))) [θ (.str y)]=.ok η:=aO (ag rfl rfl (ib.trans (by rw [adW ne])));have q2:aX (ao x5 vU (vC gN)) [θ (.str y)]=.ok η:=aO (ag (cz rfl (LK.trans (adU (by lia)))) rfl (yM.trans (by rw [adW (by lia)])));have r:nQ (.str y) jt=.ok (.bl ζ):=by
  have:nQ (.str y) jt=.ok (.bl (!Hl (.str y) ((ws++[("where":Str)]).map V.str))):=rfl
  rw [this];have g:=h.ok;unfold Ss at g;rw [YR] at g;obtain ⟨k1,k2⟩:=g;unfold Hl at k2 ⊢;rw [YK,List.any_append];have k1:¬ y="where":=by simpa using k1
  have k2:((ws.map V.str).any fun z=>L2.eqV z (.str y))=η:=by simpa using k2
  rw [k2]
  have:([("where":Str)].map V.str).any (fun z=>L2.eqV z (.str y))=η:=by
   show (("where"==y)||false)=η
   grind
  rw [this];rfl
 exact aq ((skip ((sk q1 q2))).trans (av (cF (EM (PC (fun c  => D.str ⟨#[c]⟩) (fun _=>ζ) rfl (fun c u=>((fun h=>by
   obtain ⟨h1,h2⟩:=S5 c h;exact aq (av (cF ((TK c h1)) ((Se c h2))))) (h.al c u))) (by rw [<- str_len];lia)) (by simp)) (r))))
def Kd (z:Str):Prop:=z="number"\/z="text"
structure Sh (nm:Str) (cs:List (Str×Str)):Prop where
 n:NmOk nm
 l0:1<=cs.length
 l1:cs.length<=8
 nd:(cs.map YD).Nodup
 c:∀ q∈cs,NmOk q.1/\Kd q.2
theorem KR {ks:ad1} (h:ks.Nodup):jm ks=ks:=by
 have key:∀ n,jm (ks.take n)=ks.take n:=by
  intro n;induction n with
  | zero=>rfl
  | succ n g =>
   rcases abI n ks.length with hn|hn
   .rw [Zb hn,kq,g,adV fun z=>?_]
    have:=(adp (n+1) ks)
    rw [Zb hn] at this
    grind
   .rw [ZD (by lia)] at g ⊢;exact g
 have:=key ks.length
 rwa [abP] at this
theorem Kf {zs:ad1} (h:zs.length<=100) (g:zs.Nodup):i8 [.lst (zs.map D.str)]=.ok (.int (zs.length:Int)):=by
 have:i8 [.lst (zs.map D.str)]=.ok (.int ((jm zs).length)):=by
  unfold i8;dsimp only;rw [((strs_map (fun z=>z) zs).trans (by rw [List.map_id']))]
  grind
 rw [this,KR g]
section
theorem Sh.cols (h:Sh nm cs):iz [.tup (cs.map e8)]=.ok (.bl ζ):=by
 rw [sE,fO];have l0:=h.l0;have l1:=h.l1;have g:∀ {U:Sd},ai ce (aa (ae 0) aj) (θ (.tup (cs.map e8))::U)=.ok (.int (cs.length:Int)):=cz rfl (nG _ _);have r:bo [ξ] (cY (ae 0)) (.one 0) fS (uI 0 0) [θ (.tup (cs.map e8)),ξ]=.ok (.lst ((cs.map YD).map D.str)):=by
  rw [Y5];exact (eU e8 _ cs (fun q hq=>ag rfl rfl bW) (by lia))
 refine aq ((skip (sk rfl (sk (aO (ag g rfl (C9.trans (by rw [adW (by lia)])))) (aO (ag g rfl (yM.trans (by grind))))))).trans ((skip (oU (fw (EM (PC e8 (fun _=>ζ) rfl (fun q hq=>((fun h=>by
   have u:iI [.str q.2]=.ok (.bl ζ):=by
    rcases h.2 with e|e <;> rw [e] <;> kernel_rfl
   exact aq (av (cF rfl (cF ((Bf h.1)) (u))))) (h.c q hq))) (by lia)) (by simp)) rfl))).trans ((am (au r)).trans (av ?_))))
 exact ag ((Kf (by grind) h.nd)) rfl (kW.trans (by simp_all))
theorem Sh.ok (h:Sh nm cs):rH [z9 nm cs]=.ok (.bl ζ):=by
 exact aq (av (cF rfl (cF ((Bf h.n)) (h.cols))))
end
structure Gv (kd:Str) (x:D):Prop where
 v:Vl 40 x
 f:kc [x,.str kd]=.ok (.bl ζ)
theorem V1 (e:a.cps.toList=[n]) (h:n<=c):B5 (.str ⟨#[c]⟩) (.str a)=.ok (.bl ζ):=by
 rw [SS,e];simp only [uv];simp [h]
theorem Vy (e:a.cps.toList=[n]) (h:c<=n):DH (.str ⟨#[c]⟩) (.str a)=.ok (.bl ζ):=by
 rw [QY,e];simp only [uv];simp [h]
theorem Pn:∀ c∈tab,32<=c/\c<=126:=by trivial
theorem fk (hn:isD v .non=.ok (.bl η)) (g:Vl 100 v) (hv:rS [v]=.ok (.bl ζ)) (hb:decide (kw (kx v)=kd)=b):kc [v,.str kd]=.ok (.bl b):=by
 exact aq (av (LO (hn) (cF (hv) (ag ((kind g)) rfl (ib.trans (by rw [hb]))))))
theorem qY (lo:Int) (n:Nat):dI lo (n+1)=.int lo::dI (lo+1) n:=by
 unfold dI;rw [List.range_succ_eq_map,YB,Y5];refine congr ((by simp)) (ZV fun k _=>?_);show D.int (lo+((k+1)))=_;lia
theorem F6 (h:-1000000000000000000 < a/\a < 1000000000000000000):Gv "number" (.int a) :=
 have hv  := EM (by
   rfl) ((by split <;> lia))
 ⟨Y6,fk rfl Y6 hv rfl⟩
theorem Gr (h:Vl 40 (.str z)):Gv "text" (.str z) :=
 ⟨h,fk rfl (h.mono (by decide)) ((by
   have r:=h.1;refine aq (a8 ((av (cF (ag (((adU (by lia)))) rfl (S6.trans (by grind))) (EM (PC (fun c  => D.str ⟨#[c]⟩) (fun _=>ζ) rfl (fun c g=>?_) (by rw [<- str_len];lia)) (by simp))))));obtain ⟨h1,h2⟩:=Pn c (h.2 c g);exact aq (av (cF ((V1 rfl h1)) ((Vy rfl h2)))))) rfl⟩
structure RowG (cs:List (Str×Str)) (r:ad8):Prop where
 len:r.length=cs.length
 v:∀ p∈r.zip cs,Gv p.2.2 p.1
theorem RowG.ok (h:RowG cs r):RowOk cs.length r:=⟨h.len,fun v hv=>by
 obtain ⟨i,g,e⟩:=abU.mp hv;have u:i < cs.length:=by rw [<- h.len];exact g
 rw [<- e];exact (h.v (r[i],cs[i]) (abU.mpr ⟨i,by grind,by simp_all⟩)).v⟩
section
theorem wL:∀ (r:ad8) (cs:List (Str×Str)),iB r (cs.map e8)=(r.zip cs).map fun q=>D.tup [q.1,e8 q.2]
 | [],_=>by simp [iB]
 | _::_,[]=>by simp [iB]
 | a::r,c::cs=>by
  have:=wL r cs
  unfold iB at this ⊢;simp [this]
theorem RowG.fits (h:RowG cs r) (g:cs.length<=100):E2 [z9 nm cs,.tup r]=.ok (.bl ζ):=by
 have q:Ut [(z9 nm cs),θ (.tup r),θ (.tup (cs.map e8))]=.ok η :=
  sk rfl (aO (ag rfl ((nG _ _)) (Rt.trans (by rw [h.len,adX rfl];rfl))))
 refine aq (((skip q).trans (av (EM (Wu (fun q:D×Str×Str=>q.1) (fun q=>e8 q.2) (fun _=>ζ) ?_ (fun q hq=>(h.v q hq).f) (by grind)) (by simp)))));rw [Sb,(ac rfl rfl),az,RL rfl rfl,wL]
end
abbrev SB:FS:=Qs
def zm:Nat->Int->Int->List Int
 | 0,_,_=>[]
 | n+1,x,k=>((x*48271+11+k) % 2147483647)::zm n ((x*48271+11+k) % 2147483647) (k+1)
theorem gL:∀ (n:Nat) (x k:Int),(zm n x k).length=n
 | 0,_,_=>rfl
 | n+1,x,k=>by rw [zm,YU,gL n]
theorem pB:∀ (n:Nat) (x k:Int),∀ y∈zm n x k,0<=y/\y < 2147483647
 | 0,_,_,y,h=>nomatch h
 | n+1,x,k,y,h=>by
  rcases mK.mp h with rfl|h
  .exact ⟨ZQ _ (by decide),aao _ (by decide)⟩
  .exact pB n _ _ y h
theorem BC:∀ (n:Nat) (x k:Int) (acc:List Int) (o4:Option D),acc.length+n < 1000->∃ r g,cG (.one 4) SB (dI k n) [θ a,θ b,θ (.lst (acc.map D.int)),θ (.int x),o4]=.ok (.nx [θ a,θ b,θ (.lst ((acc++zm n x k).map D.int)),r,g])
 | 0,x,k,acc,o4,_=>⟨_,o4,by rw [zm,Y9];rfl⟩
 | n+1,x,k,acc,o4,h=>by
  obtain ⟨r,g,e⟩:=BC n ((x*48271+11+k) % 2147483647) (k+1) (acc++[(x*48271+11+k) % 2147483647]) (θ (.int k)) (by simp;lia);refine ⟨r,g,?_⟩;have t:SB (acx [a,b,θ (.lst (acc.map D.int)),θ (.int x),o4] 4 (θ (.int k)))=.ok (.nx [a,b,θ (.lst ((acc++[(x*48271+11+k) % 2147483647]).map D.int)),θ (.int ((x*48271+11+k) % 2147483647)),θ (.int k)]):=by
   rw [YK];exact (am (au (ay (bE (bE (gP rfl rfl) rfl) rfl) rfl))).trans (iC rfl rfl (by grind))
  rw [qY,bU t,e,ZM];rfl
def pc (c:Int) (n:Nat):List Int:=zm n (c % 2147483647) 0
theorem j3 (c:Int) (n:Nat) (hn:n < 900):cV [.int c,.int (n:Int)]=.ok (.lst ((pc c n).map D.int)):=by
 obtain ⟨g,o4,e⟩:=BC (a:=.int c) (b:=.int (n:Int)) n (c % 2147483647) 0 [] ξ (by simp;lia);rw [ze,jq];exact aq ((am (nL (bg rfl))).trans ((am (au (ay rfl rfl))).trans ((am (eR (jk rfl (by lia)) e)).trans rfl)))
theorem P0 (c:Int) (h:i < n):∃ y,(pc c n)[i]?=θ y/\0<=y/\y < 2147483647:=by
 have g:i < (pc c n).length:=by unfold pc;rw [gL];exact h
 exact ⟨_,lE g,pB _ _ _ _ (YG g)⟩
def Mg (x:Int):ad0:=(YV (1+x % 6).toNat).map fun (j:Nat)=>Jo (x/7+(0+(j:Int))*(0+(j:Int))*5)
def U5 (x:Int):Nat:=(x/11 % (((Mg x).length:Int)+1)).toNat
def Qe (x k:Int):ad0:=(Mg x).take (U5 x)++113::(Mg x).drop (U5 x)++[Jo (x/13+k)]
def rZ (x k:Int):Str:=⟨(Qe x k).toArray⟩
theorem DY (x:Int):((Mg x).length:Int)=1+x % 6:=by unfold Mg;grind
theorem yf (x k:Int):((Qe x k).length:Int)=3+x % 6:=by
 have:=DY x
 unfold Qe;simp;lia
theorem D5 (x k:Int):mj [.int x,.int k]=.ok (.str (rZ x k)):=by
 rw [Fw,md];obtain ⟨n,en,hn⟩:∃ n:Nat,1+x % 6=(n:Int)/\n<=6:=⟨(1+x % 6).toNat,by lia,by lia⟩;obtain ⟨z,C,r⟩:=HY (fun j=>Jo (x/7+(0+(j:Int))*(0+(j:Int))*5)) n (by lia);have g:z.cps.toList=Mg x:=by rw [r];unfold Mg;rw [en];rfl
 have M:z.length=n:=by rw [str_len,r,iN,Y7]
 have J:Qd mf (vC (.str "")) (aa Uz aj) [θ (.int x),θ (.int k),θ (.str "abcdefghijklmnopqrstuvwxyz"),ξ,ξ]=.ok (.str z):=by
  refine Ld (ac (bF (jk (n:=n) ((bE rfl (ay rfl rfl)).trans (by rw [en])) (by lia)) (eU _ _ _ (fun j u=>?_) (by rw [Y7];lia))) rfl) C;have u:=Y8.mp u;exact ag rfl (ay (bE (aW rfl rfl) (gP (gP rfl rfl (by lia)) rfl)) rfl) (Ju (by trivial) (Mq _))
 obtain ⟨p,v⟩:∃ p:Nat,x/11 % ((n:Int)+1)=(p:Int):=⟨(x/11 % ((n:Int)+1)).toNat,by have:=ZQ (x/11) (show ((n:Int)+1)≠0 by lia);lia⟩;have L:ao bc (ao cp (ae 0) (vC (.int 11))) Ls [θ (.int x),θ (.int k),θ (.str "abcdefghijklmnopqrstuvwxyz"),θ (.str z),ξ]=.ok (.int (p:Int)) :=
  (ay (aW rfl rfl) (bE (cz rfl (LK.trans (adU (by lia)))) rfl) (by lia)).trans (by rw [M,v])
 have l1:=pK z ξ (θ (p:Int));have l2:=pK z (θ (p:Int)) ξ;have Y:(DO "q").length=1:=by trivial
 have l3:(⟨#[Jo (x/13+k)]⟩:Str).length=1:=rfl;refine aq ((am (au rfl)).trans ((am (au J)).trans ((am (au L)).trans (av ((ag (ag (ag (de rfl rfl (bh rfl) (UF.trans (adU (by lia)))) rfl (GT.trans (adU (by lia)))) (de rfl (bh rfl) rfl (UF.trans (adU (by lia)))) (GT.trans (adU (by rw [u8];lia)))) (ag rfl (ay (bE (aW rfl rfl) rfl) rfl) (Ju (by trivial) (Mq _))) (GT.trans (adU (by rw [u8,u8];lia)))).trans ?_)))));congr 2;apply pS
 have hq:(DO "q").cps.toList=[113]:=by trivial
 have I:U5 x=p:=by unfold U5;rw [DY,en,v];rfl
 rw [gJ,gJ,gJ,QS,Ux,hq,g];unfold rZ Qe;rw [I];simp
def EV (i:Int):Jo i∈al:=YO (Lg i)
theorem Ai (x k:Int):(rZ x k).cps.toList=Qe x k:=by simp [rZ]
def L3 (x k:Int):NmOk (rZ x k):=by
 have r:=yf x k;refine ⟨by rw [str_len,Ai];lia,by rw [str_len,Ai];lia,fun c g=>(fun h=>by
   have hb:∀ c∈Mg x,c∈al:=fun c g=>by
    obtain ⟨j,_,rfl⟩:=Do.mp g;exact EV _
   rcases xb.mp h with h|h
   .rcases xb.mp h with h|h
    .exact hb c (ZU h)
    .rcases mK.mp h with h|h
     .rw [h];decide +kernel
     grind
   .rw [OR.mp h];exact EV _) (by assumption),?_⟩
 cases e:Ss (rZ x k) with
 | true=>rfl
 | false =>
  have h:=N0 e;rw [Ai] at h
  have:∀ w∈Yy,113∉w:=by trivial
  exact absurd (by unfold Qe;simp) (this _ h)
theorem PL:∀ a < 26,∀ d < 26,0 < d->al.getD ((a+d) % 26) 0≠al.getD a 0:=by trivial
theorem Eo {i j:Nat} (h:i < j) (g:j < 26):rZ x i≠rZ x j:=fun e=>by
 have e:=adZ (fun y  => y.cps.toList) e;have e:=(List.append_inj' e rfl).2;have k:=PL ((x/13+i) % 26).toNat (by lia) (j - i) (by lia) (by lia);unfold Jo at e
 grind
theorem GB:rZ x k≠rZ (x+1) l:=fun e=>by
 have e:=adZ (fun y  => y.cps.toList.length) e;simp only [Ai] at e;have h1:=yf x k;have h2:=yf (x+1) l;lia
abbrev Mz:Str:=DO " !\"#$&'()*+,-./09:;<=>?@AZ[\\]^_`abyz{|}~"
def so:ad0:=Mz.cps.toList
def NY:so.length=40:=by trivial
def T4 (i:Int):Nat:=so.getD (i % 40).toNat 0
theorem Mt (i:Int):so[(i % 40).toNat]?=θ (T4 i):=by
 have g:(i % 40).toNat < so.length:=by rw [NY];lia
 unfold T4;simp_all
theorem Tv (i:Int):atI Mz.cps.toList (i % 40)=θ (T4 i):=by
 have h:=bM (Mt i);rw [show (((i % 40).toNat))=i % 40 by lia] at h;exact h
def RC (i:Int):T4 i∈tab:=by
 have:∀ c∈so,c∈tab:=by trivial
 exact this _ (YO (Mt i))
theorem Wz (g:0<=i) (h1:i < 6):∃ z:Str,aV (.lst [.str "",.str "a",.str "ab",.str "b",.str "B",.str "a~"]) (.int i)=.ok (.str z)/\Vl 40 (.str z):=by
 have:i=0\/i=1\/i=2\/i=3\/i=4\/i=5:=by lia
 rcases this with rfl|rfl|rfl|rfl|rfl|rfl <;> exact ⟨_,rfl,by trivial,by trivial⟩
theorem WI (g:0<=i) (h1:i < 4):∃ j:Int,aV (.lst [.int a,.int b,.int c,.int d]) (.int i)=.ok (.int j)/\(j=a\/j=b\/j=c\/j=d):=by
 have:i=0\/i=1\/i=2\/i=3:=by lia
 rcases this with rfl|rfl|rfl|rfl
 .exact ⟨_,rfl,.inl rfl⟩
 .exact ⟨_,rfl,.inr (.inl rfl)⟩
 .exact ⟨_,rfl,.inr (.inr (.inl rfl))⟩
 .exact ⟨_,rfl,.inr (.inr (.inr rfl))⟩
theorem qE (h1:φ U=.ok (.str a)) (h2:ψ U=.ok (.str b)):aX (ao bG φ ψ) U=.ok (decide (a=b)):=aO (ag h1 h2 ib)
theorem dM (h1:φ U=.ok (.int i)) (h2:ψ U=.ok (.int j)) (h:i=j):aX (ao bG φ ψ) U=.ok ζ:=(qf h1 h2).trans (by simp_all)
theorem cP (h1:φ U=.ok (.int i)) (h2:ψ U=.ok (.int j)) (h:¬ i=j):aX (ao bG φ ψ) U=.ok η:=(qf h1 h2).trans (by simp_all)
theorem qg (h1:φ U=.ok (.str i)) (h2:ψ U=.ok (.str j)) (h:i=j):aX (ao bG φ ψ) U=.ok ζ:=(qE h1 h2).trans (by simp_all)
theorem hV (h1:φ U=.ok (.str i)) (h2:ψ U=.ok (.str j)) (h:¬ i=j):aX (ao bG φ ψ) U=.ok η:=(qE h1 h2).trans (by simp_all)
theorem zE (h0:0<=x) (h1:x < 2147483647) (hk:Kd kd):∃ v,dU [.int x,.str kd]=.ok v/\Gv kd v:=by
 rw [CK,kE];have u:∀ T:FS,ap (aJ 2 (vC (.str Mz))) T [θ (.int x),θ (.str kd),ξ,ξ]=T [θ (.int x),θ (.str kd),θ (.str Mz),ξ]:=fun T=>am (au rfl);have m6:∀ {j:Int},Ck [θ (.int x),θ (.str kd),θ (.str Mz),ξ]=.ok (.int (x % 6)):=ay rfl rfl;by_cases L:x % 6=0
 .exact ⟨.non,aq ((u _).trans (a8 ((aN (dM (ay rfl rfl) rfl L)).trans (av rfl)))),(⟨Y6,by
    rfl⟩)⟩
 have C:∀ {A T:FS},ap (bN (aX (ao bG Ck (vC (.int 0)))) A aF) T [θ (.int x),θ (.str kd),θ (.str Mz),ξ]=T [θ (.int x),θ (.str kd),θ (.str Mz),ξ]:=skip (cP (ay rfl rfl) rfl L);rcases hk with rfl|rfl
 .have nt:∀ {U:Sd},aX IU (θ (.int x)::θ (.str "number")::U)=.ok η:=hV rfl rfl (by trivial);by_cases g:x % 6=5
  .obtain ⟨j,ej,r⟩:=WI (a:=1000000000000000000 - 1) (b:=1 - 1000000000000000000) (c:=1000000000000000000 - 2) (d:=x*x*48271 % (2*1000000000000000000 - 1) - (1000000000000000000 - 1)) (show 0<=x/6 % 4 by lia) (by lia);have ef:SU [θ (.int x),θ (.str "number"),θ (.str Mz),ξ]=.ok (.int (x*x*48271 % (2*1000000000000000000 - 1) - (1000000000000000000 - 1))) :=
    j5 (ay (gP (gP rfl rfl ⟨by lia,by lia⟩) rfl) (j5 (gP rfl w4) rfl)) (j5 w4 rfl)
   refine ⟨.int j,aq ((u _).trans (C.trans ((skip (kU nt)).trans ((skip nt).trans (a8 ((aN (dM (ay rfl rfl) rfl g)).trans ((am (au ef)).trans (av (ag (bg (ac (j5 w4 rfl) (ac (j5 rfl w4) (ac (j5 w4 rfl) (ac rfl rfl))))) (ay (aW rfl rfl) rfl) ej))))))))),F6 ?_⟩;have Y:0<=x*x*48271 % (2*1000000000000000000 - 1):=ZQ _ (by decide);have Z:x*x*48271 % (2*1000000000000000000 - 1) < 2*1000000000000000000 - 1:=aao _ (by decide);generalize x*x*48271 % (2*1000000000000000000 - 1)=t at Y Z r;rcases r with rfl|rfl|rfl|rfl <;> constructor <;> lia
  .exact ⟨.int (x/6 % 4 - 1),aq ((u _).trans (C.trans ((skip (kU nt)).trans ((skip nt).trans ((skip (cP (ay rfl rfl) rfl g)).trans (av (j5 (ay (aW rfl rfl) rfl) rfl))))))),F6 ⟨by lia,by lia⟩⟩
 .have nt:∀ {U:Sd},aX IU (θ (.int x)::θ (.str "text")::U)=.ok ζ:=qg rfl rfl rfl;by_cases g:x % 6=5
  .obtain ⟨n,en,hn⟩:∃ n:Nat,x/6 % 41=(n:Int)/\n<=40:=⟨(x/6 % 41).toNat,by lia,by lia⟩;obtain ⟨z,I,M⟩:=HY (fun j=>T4 (x/7+(0+(j:Int))*(0+(j:Int))*13)) n (by lia);refine ⟨.str z,aq ((u _).trans (C.trans (a8 ((aN (gm nt (dM (ay rfl rfl) rfl g))).trans (av (Ld (ac (bF (jk (n:=n) ((ay (aW rfl rfl) rfl).trans (by rw [en])) (by lia)) (eU _ _ _ (fun j r=>?_) (by rw [Y7];lia))) rfl) I)))))),Gr ⟨by rw [str_len,M,iN,Y7];exact hn,fun c J=>?_⟩⟩
   .have r:=Y8.mp r;exact ag rfl (ay (bE (aW rfl rfl) (gP (gP rfl rfl (by lia)) rfl)) rfl) (Ju (by trivial) (Tv _))
   .rw [M] at J;obtain ⟨j,_,rfl⟩:=Do.mp J;exact RC _
  .obtain ⟨z,I,hz⟩:=Wz (show 0<=x/6 % 6 by lia) (by lia);exact ⟨.str z,aq ((C.trans ((skip (gm nt (cP rfl rfl g))).trans (a8 ((av (I))))))),Gr hz⟩
def lv (x:Int) (kd:Str):D:=match dU [.int x,.str kd] with
 | .ok v=>v
 | _=>.non
theorem mi (r:0<=x) (h1:x < 2147483647) (u:Kd kd):dU [.int x,.str kd]=.ok (lv x kd)/\Gv kd (lv x kd):=by
 obtain ⟨v,e,g⟩:=zE r h1 u
 have:lv x kd=v:=by unfold lv;rw [e]
 rw [this];exact ⟨e,g⟩
def kf (ys:List Int) (j:Nat):Str:=if ys.getD (3+j) 0 % 3=2 then "text" else "number"
def TH (ys:List Int) (j:Nat):Kd (kf ys j):=by unfold kf;split;exact .inr rfl;exact .inl rfl
def v3 (ys:List Int) (n:Nat):List (Str×Str):=(YV n).map fun (j:Nat)=>(rZ (ys.getD 1 0) (j:Int),kf ys j)
def Bh (ys:List Int):Nat:=(1+ys.getD 2 0 % (if ys.getD 2 0/24 % 4=3 then 8 else 3)).toNat
theorem FF (ys:List Int):1<=Bh ys/\Bh ys<=8:=by
 unfold Bh;split <;> constructor <;> lia
theorem vP (ys:List Int) (n:Nat):(v3 ys n).length=n:=by unfold v3;simp_all
theorem MU (x k:Int):Sh (rZ x k) (v3 ys (Bh ys)):=by
 have h:=FF ys;refine ⟨L3 _ _,by rw [vP];exact h.1,by rw [vP];exact h.2,?_,fun q hq=>?_⟩
 .unfold v3;rw [Y5,List.nodup_iff_pairwise_ne,List.pairwise_map];refine List.pairwise_lt_range.imp_of_mem fun {a b} ha hb hab=>?_;have hb:=Y8.mp hb;exact Eo hab (by lia)
 .obtain ⟨j,_,rfl⟩:=Do.mp hq;exact ⟨L3 _ _,TH _ _⟩
theorem cH {ys:List Int} (h:i < ys.length):aV (.lst (ys.map D.int)) (.int (i:Int))=.ok (.int (ys.getD i 0)):=by
 have e  := lE h;rw [Ze,e];exact lF _ _ e
abbrev Yh:FS:=Rq
theorem WV:aV (.lst [.str "number",.str "number",.str "text"]) (.int (i % 3))=.ok (.str (if i % 3=2 then "text" else "number")):=by
 have:i % 3=0\/i % 3=1\/i % 3=2:=by lia
 rcases this with e|e|e <;> rw [e] <;> rfl
theorem Bc (hy:ys.length=16):∀ (n j:Nat) (o3:Option D),j+n<=8->∃ g,cG (.one 3) Yh (dI (j:Int) n) [θ (.lst (ys.map D.int)),θ kk,θ (.lst ((v3 ys j).map e8)),o3]=.ok (.nx [θ (.lst (ys.map D.int)),θ kk,θ (.lst ((v3 ys (j+n)).map e8)),g])
 | 0,j,o3,_=>⟨o3,rfl⟩
 | n+1,j,o3,h=>by
  obtain ⟨g,e⟩:=Bc hy n (j+1) (θ (.int (j:Int))) (by lia);refine ⟨g,?_⟩;have r:v3 ys (j+1)=v3 ys j++[(rZ (ys.getD 1 0) (j:Int),kf ys j)]:=by unfold v3;rw [List.range_succ,YK];rfl
  have t:Yh (acx [θ (.lst (ys.map D.int)),kk,θ (.lst ((v3 ys j).map e8)),o3] 3 (θ (.int j)))=.ok (.nx [θ (.lst (ys.map D.int)),kk,θ (.lst ((v3 ys (j+1)).map e8)),θ (.int j)]):=by
   rw [r,YK];refine iC rfl (ba (ac (ak (ac ((cH (by lia))) rfl) (D5 _ _)) (ac (ag rfl (ay (ag rfl rfl (by exact cH (by lia))) rfl) WV) rfl))) (by rw [iN,vP];lia)
  rw [qY,bU t]
  have:(j:Int)+1=((j+1:Nat)):=by rfl
  rw [this,e,Nat.add_assoc,Nat.add_comm 1 n]
theorem Xp:aV (.lst [.int 3,.int 3,.int 3,.int 8]) (.int (i % 4))=.ok (.int (if i % 4=3 then 8 else 3)):=by
 have:i % 4=0\/i % 4=1\/i % 4=2\/i % 4=3:=by lia
 rcases this with e|e|e|e <;> rw [e] <;> rfl
theorem Ki (hy:ys.length=16) (k:Int):tX [.lst (ys.map D.int),.int k]=.ok (z9 (rZ (ys.getD 0 0) k) (v3 ys (Bh ys))):=by
 obtain ⟨o3,e⟩:=Bc hy (Bh ys) 0 ξ (by have:=(FF ys).2;lia);rw [abH] at e;have hn:1+ys.getD 2 0 % (if ys.getD 2 0/24 % 4=3 then 8 else 3)=(Bh ys):=by unfold Bh;split <;> lia
 refine aq (((am (eR (jk ?_ (by grind)) e)).trans (av (ba (ac (ak (ac ((cH (by lia))) rfl) (D5 _ _)) rfl)))));rw [<- hn];exact bE rfl (ay ((cH (by lia))) (ag rfl (ay (aW ((cH (by lia))) rfl) rfl) Xp) (by split <;> decide))
def DJ (x:Int) (cs:List (Str×Str)):ad8:=(YV cs.length).map fun c=>lv ((pc x cs.length).getD c 0) (cs.getD c ("","")).2
theorem Bs {nm:Str} {cs:List (Str×Str)} (h:Sh nm cs) (x:Int):pD [.int x,z9 nm cs]=.ok (.tup (DJ x cs))/\RowG cs (DJ x cs):=by
 have l1:=h.l1;have key:∀ c < cs.length,Kd (cs.getD c ("","")).2/\0<=(pc x cs.length).getD c 0/\(pc x cs.length).getD c 0 < 2147483647/\cs[c]?=θ (cs.getD c ("","")):=fun c g=>by
  obtain ⟨y,e,v,u⟩:=P0 x (n:=cs.length) g;have C:cs[c]?=θ cs[c]:=lE g;rw [Ze,C,Ze,e];exact ⟨(h.c _ (YG g)).2,v,u,rfl⟩
 have M:(pc x cs.length).length=cs.length:=gL _ _ _;refine ⟨?_,?_,fun p L=>?_⟩
 .rw [JD,pH];have J:ai ce (aa uR aj) [θ (.int x),θ (z9 nm cs),ξ]=.ok (.int (cs.length:Int)):=cz (ag rfl rfl bJ) (nG _ _);refine aq ((am (au (ak (ac rfl (ac J rfl)) (j3 _ _ (by lia))))).trans (av (ak (ac (bF (jk (n:=cs.length) (cz (ag rfl rfl bJ) (nG _ _)) (by lia)) ?_) rfl) on)));rw [mG];refine eU _ _ _ (fun c g=>?_) (by rw [Y7];lia);have g:=Y8.mp g;obtain ⟨k1,k2,k3,k4⟩:=key c g;exact ak (ac (ag rfl rfl (cH (by rw [M];exact g))) (ac (ag (ag (ag rfl rfl bJ) rfl (C7 _ _ k4)) rfl bJ) rfl)) (mi k2 k3 k1).1
 .unfold DJ;rw [iN,Y7]
 .obtain ⟨c,g,e⟩:=abU.mp L;have r:c < cs.length:=by rw [acO] at g;lia
  obtain ⟨k1,k2,k3,k4⟩:=key c r;rw [List.getElem_zip] at e;have I:cs[c]=cs.getD c ("",""):=by rw [lE r] at k4;exact ZY k4
  have hr:c < (DJ x cs).length:=by unfold DJ;rw [iN,Y7];exact r
  have z:(DJ x cs)[c]=lv ((pc x cs.length).getD c 0) (cs.getD c ("","")).2:=by
   have q:(DJ x cs)[c]?=θ (lv ((pc x cs.length).getD c 0) (cs.getD c ("","")).2):=by unfold DJ;rw [Zk,ada r];rfl
   grind
  rw [<- e,I,z];exact (mi k2 k3 k1).2
abbrev Yu:FS:=Sn
theorem BI (h:RsOk cs.length rs) (hB:B < 40) :
  ∀ (g acc:List (Str×D)) (o4:Option D),(∀ q∈g,jE ids q.1=θ q.2/\q.1∈cs.map YD/\qF B q.2)->((acc++g).map YD).Nodup->acc.length+g.length < 1000 ->
   ∃ (out:List (Str×D)) (u:Option D),cG (.one 4) Yu (g.map fun q=>D.str q.1) [θ (nj nm cs rs ids),θ (.int n),θ rd,θ (.dct (si acc)),o4]=.ok (.nx [θ (nj nm cs rs ids),θ (.int n),θ rd,θ (.dct (si (acc++out))),u])/\out.map YD=g.map YD/\∀ q∈out,qF B q.2
 | [],acc,o4,_,_,_=>⟨[],o4,by rw [Y9];rfl,rfl,fun q hq=>nomatch hq⟩
 | q::r,acc,o4,hq,nd,hln=>by
  obtain ⟨q1,q2,q3⟩:=hq q (by simp);obtain ⟨v,I,i1⟩:=kZ (nm:=nm) (n:=n) h hB q2 q1 q3;have C:q.1∉acc.map YD:=fun z=>by
   rw [YK,YB,aaZ] at nd;exact nd.2.2 _ z _ Zc rfl
  obtain ⟨out,u,e,J,L⟩:=BI (nm:=nm) (ids:=ids) (n:=n) (rd:=rd) h hB r (acc++[(q.1,v)]) (θ (.str q.1)) (fun z hz=>hq z (lT _ hz)) (by simpa using nd) (by simp at hln ⊢;lia);refine ⟨(q.1,v)::out,u,?_,by rw [YB,YB,J],fun z hz=>?_⟩
  .have t:Yu (acx [θ (nj nm cs rs ids),θ (.int n),θ rd,θ (.dct (si acc)),o4] 4 (θ (.str q.1)))=.ok (.nx [θ (nj nm cs rs ids),θ (.int n),rd,θ (.dct (si (acc++[(q.1,v)]))),θ (.str q.1)]):=by
    rw [<- uO C];exact mY rfl (I) rfl rfl (by unfold si;rw [iN];lia)
   rw [YB,bU t,e,ZM];rfl
  grind
theorem wo (h:TbOk B cs rs ids) (hn:(bI rs n).isSome=ζ) (C:rs.length<=600) (I:ids.length<=100) (hB:B < 40) :
  ∃ ids',iE [nj nm cs rs ids,.int n]=.ok (nj nm cs (gY rs n) ids')/\ids'.map YD=ids.map YD/\TbOk B cs (gY rs n) ids':=by
 obtain ⟨out,o4,e,u,g⟩:=BI h.r hB ids [] ξ (fun q hq=>⟨xk h.nd hq,h.i q hq⟩) (by simpa using h.nd) (by simp;lia);refine ⟨out,?_,u,rl h.r n,by rw [u];exact h.nd,fun q hq=>⟨?_,g q hq⟩⟩
 .refine aq (((am (KC rfl rfl rfl (by rw [f7];grind))).trans ?_));rw [sO];refine ((am (eR ((vG rfl).trans (by rw [xU])) e)).trans ?_);rfl
 .have:q.1∈ids.map YD:=by grind
  obtain ⟨z,hz,v⟩:=Do.mp this;rw [<- v];exact (h.i z hz).1
theorem K8 (h:φ U=.ok d):wC φ U=.ok (.nx U):=by unfold wC;rw [h];rfl
section
theorem i0 (g:kvs.length < 1000):eO [.dcf kvs,.str n,d]=.ok (.dcf (cx kvs (.inr n) d)):=by
 exact aq (((am (mY rfl rfl rfl rfl g)).trans rfl))
theorem nW (h:bv kvs (.inr n)=θ d):lZ (.dcf kvs) (.str n)=.ok d:=by
 show (match bv kvs (.inr n) with|some d=>R.ok d|none=>.no)=_
 rw [h]
theorem O9:ik (.str n) (.dcf kvs)=.ok (.bl (!(bv kvs (.inr n)).isSome)):=rfl
theorem L6:Cm (.str n) (.dcf kvs)=.ok (.bl (bv kvs (.inr n)).isSome):=rfl
theorem qV (h:bv kvs (.inr n)=θ d):qH [.dcf kvs,.str n]=.ok d:=by
 exact aq ((skip (sk rfl (aO ((O9.trans (by rw [h];rfl)))))).trans (av ((nW h))))
theorem yz (h:Sh nm cs) (hn:bv kvs (.inr nm)=ξ) (g:kvs.length < 1000):dE [.dcf kvs,z9 nm cs]=.ok (.dcf (cx kvs (.inr nm) (nj nm cs [] []))):=by
 exact aq ((skip (oU (fw (h.ok) rfl))).trans ((skip (aO ((L6.trans (by rw [hn];rfl))))).trans (av ((i0 g)))))
theorem qt (h:1<=m/\m<=1000000000):gc [.int m]=.ok (.bl ζ):=by
 exact aq (av (cF rfl (cF rfl (cF ((UG.trans (by simp_all))) ((S6.trans (by simp_all)))))))
theorem Hd {m:Int} {x:ad8} {t:D} (hs:Sh nm cs) (hv:bv kvs (.inr nm)=θ (nj nm cs rs ids)) (r:kvs.length < 1000) (hm:1<=m/\m<=1000000000) (g:RowG cs x) (e:lX [nj nm cs rs ids,.int m,.tup x]=.ok t):cZ [.dcf kvs,.str nm,.int m,.tup x]=.ok (.dcf (cx kvs (.inr nm) t)):=by
 rw [nS,c7];exact aq ((am (au (ak (ac rfl (ac rfl rfl)) (qV hv)))).trans ((skip (oU (fw (ak (ac rfl rfl) (qt hm)) rfl))).trans ((skip (oU (fw ((g.fits (by have:=hs.l1;lia))) rfl))).trans (av (ak (ac rfl (ac rfl (ac (e) rfl))) (i0 r))))))
theorem J3 {c:Str} {t:D} (hv:bv kvs (.inr nm)=θ (nj nm cs rs ids)) (g:kvs.length < 1000) (r:c∈cs.map YD) (hn:c∉ids.map YD) (e:jj [nj nm cs rs ids,.str c]=.ok t):cf [.dcf kvs,.str nm,.str c]=.ok (.dcf (cx kvs (.inr nm) t)):=by
 rw [lm,ck];exact aq ((am (au (ak (ac rfl (ac rfl rfl)) (qV hv)))).trans ((skip ((aO (ag ((gw r)) rfl rfl)))).trans ((skip (aO ((L6.trans (by rw [pF,qh hn];rfl))))).trans (av (ak (ac rfl (ac rfl (ac (e) rfl))) (i0 g))))))
theorem Dv {m:Int} {t:D} (hv:bv kvs (.inr nm)=θ (nj nm cs rs ids)) (hn:(bI rs m).isSome=ζ) (g:kvs.length < 1000) (hm:1<=m/\m<=1000000000) (e:iE [nj nm cs rs ids,.int m]=.ok t):dg [.dcf kvs,.str nm,.int m]=.ok (.dcf (cx kvs (.inr nm) t)):=by
 have r:ga [nj nm cs rs ids,.int m]=.ok .non:=by
  rw [ph,dw];have q:Sq [θ (nj nm cs rs ids),θ (.int m)]=.ok η:=sk (oU (fw ((qt hm)) rfl)) (aO ((rR.trans (by rw [hn];rfl))));rw [b9 q];rfl
 exact aq ((am (au ((qV hv)))).trans ((am (K8 (r))).trans (av (ak (ac rfl (ac rfl (ac (e) rfl))) (i0 g)))))
end
theorem EO (h:dE [st,sh]=.ok d):gx [st,.tup [.str "table",sh]]=.ok d:=by
 exact aq ((am (au rfl)).trans (a8 ((aN rfl).trans (av (h)))))
theorem G2 (h:cf [st,a,b]=.ok d):gx [st,.tup [.str "index",a,b]]=.ok d:=by
 exact aq ((am (au rfl)).trans ((skip rfl).trans (a8 ((aN rfl).trans (av (h))))))
theorem ML (h:cZ [st,a,b,c]=.ok d):gx [st,.tup [.str "put",a,b,c]]=.ok d:=by
 exact aq ((am (au rfl)).trans ((skip rfl).trans ((skip rfl).trans (a8 ((aN rfl).trans (av (h)))))))
theorem KL (h:dg [st,a,b]=.ok d):gx [st,.tup [.str "drop",a,b]]=.ok d:=by
 exact aq ((am (au rfl)).trans ((skip rfl).trans ((skip rfl).trans ((skip rfl).trans (av (h))))))
structure Tq where
 nm:Str
 cs:List (Str×Str)
 rs:List vY
 ids:List (Str×D)
def Tq.d (q:Tq):D:=nj q.nm q.cs q.rs q.ids
def iX (s:List Tq):List (Key×D):=s.map fun q=>(Key.inr q.nm,q.d)
def vW (s:List Tq):List KD:=s.map fun q=>(Key.inr q.nm,bn q.rs)
def Nw (s:List Tq) (nm:Str):Prop:=∀ q∈s,q.nm≠nm
section
variable {q:Tq}
theorem vJ (h:Nw s nm):bv (iX s) (.inr nm)=ξ:=by
 unfold bv iX;rw [ab5.mpr fun x g=>?_]
 .rfl
 .obtain ⟨z,hz,rfl⟩:=Do.mp g;simpa using h z hz
theorem pL (s t:List Tq):iX (s++t)=iX s++iX t:=YK
theorem val_last (h:Nw s q.nm):bv (iX (s++[q])) (.inr q.nm)=θ q.d:=by
 have hn:=vJ h;unfold bv at hn ⊢;rw [pL,List.find?_append,acE.mp hn];simp [iX]
theorem Kp (h:Nw s q.nm):cx (iX s) (.inr q.nm) q.d=iX (s++[q]):=by
 unfold cx;rw [vJ h,pL];rfl
theorem rP (h:Nw s q.nm) (e:q'.nm=q.nm):cx (iX (s++[q])) (.inr q.nm) q'.d=iX (s++[q']):=by
 unfold cx;rw [val_last h,adU (show (θ q.d).isSome=ζ from rfl),pL,pL,YK];congr 1
 .conv=>rhs;rw [<- List.map_id (iX s)]
  apply ZV
  intro x g;obtain ⟨z,hz,rfl⟩:=Do.mp g;rw [adV (by simpa using h z hz)];rfl
 .simp [iX,e]
theorem Ed (h:Nw s nm):c9 (.inr nm) (vW s)=ξ:=by
 induction s with
 | nil=>rfl
 | cons a r g =>
  show (if (Key.inr a.nm)=.inr nm then _ else c9 _ (vW r))=ξ;rw [adV (by simpa using h a (by simp)),g fun q hq=>h q (lT _ hq)]
theorem sN (h:Nw s q.nm):c9 (.inr q.nm) (vW (s++[q]))=θ (bn q.rs):=by
 induction s with
 | nil=>exact adU rfl
 | cons a r g =>
  show (if (Key.inr a.nm)=.inr q.nm then _ else c9 _ (vW (r++[q])))=_;rw [adV (by simpa using h a (by simp)),g fun z hz=>h z (lT _ hz)]
theorem A5 (h:Nw s q.nm) (e:q'.nm=q.nm):fe (.inr q.nm) (bn q'.rs) (vW (s++[q]))=vW (s++[q']):=by
 induction s with
 | nil =>
  show (if (Key.inr q.nm)=.inr q.nm then _ else _)=_;simp [vW,e]
 | cons a r g =>
  show (if (Key.inr a.nm)=.inr q.nm then _ else _::fe _ _ (vW (r++[q])))=_;rw [adV (by simpa using h a (by simp)),g fun z hz=>h z (lT _ hz)];rfl
end
theorem uy (s:List Tq):(iX s).length=s.length:=iN _
abbrev Vj:FE:=BX
abbrev Xd:FE:=xP
abbrev Yj:FE:=KI
abbrev Vb:List KD->Sd->R (List KD):=tU (aX (ao bG Vj (vC (.str "table")))) (ao aV Xd (vC (.int 0))) (aX (ao bG Vj (vC (.str "put")))) Xd Yj (ao aV (ae 2) (vC (.int 3))) (aX (ao bG Vj (vC (.str "drop")))) Xd Yj
section
theorem pJ (h1:qB τ1 ε1 dd U=.ok d1) (h2:qN τ2 ε2 ε3 ε4 d1 U=.ok d2) (g:m4 τ3 ε5 ε6 d2 U=.ok d3):tU τ1 ε1 τ2 ε2 ε3 ε4 τ3 ε5 ε6 dd U=.ok d3:=by
 unfold tU;rw [h1,az,h2,az,g]
theorem MQ (h:τ U=.ok η):m4 τ ε2 ε3 dd U=.ok dd:=by unfold m4;rw [h];rfl
theorem XA (h:τ U=.ok ζ) (u:ε U=.ok k) (g:cb k=θ kk) (r:c9 kk dd=ξ) (v:dd.length < 1000000):qB τ ε dd U=.ok (dd++[(kk,[])]):=by
 unfold qB;rw [h,az,adU rfl,u,az,g];exact adU ⟨r,v⟩
theorem VZ (h:τ U=.ok ζ) (u:ε4 U=.ok d) (v:ε2 U=.ok k) (g:cb k=θ kk) (r:c9 kk dd=θ ds) (hn:ε3 U=.ok n) (hy:cb n=θ nn) (z:ds.length < 1000000):qN τ ε2 ε3 ε4 dd U=.ok (fe kk (cx ds nn d) dd):=by
 unfold qN;rw [h,az,u,az,v,az,g];dsimp only;rw [r];dsimp only;rw [hn,az,hy];exact adU z
theorem V6 (h:τ U=.ok ζ) (u:ε2 U=.ok k) (g:cb k=θ kk) (r:c9 kk dd=θ ds) (hn:ε3 U=.ok n) (hy:cb n=θ nn) (v:(bv ds nn).isSome=ζ):m4 τ ε2 ε3 dd U=.ok (fe kk (cX ds nn) dd):=by
 unfold m4;rw [h,az,u,az,g];dsimp only;rw [r];dsimp only;rw [hn,az,hy];exact adU v
end
section
theorem MY:aX (ao bG Vj (vC (.str w))) [a,o,θ (.tup (.str w::r))]=.ok ζ:=qg (bW) rfl rfl
end
theorem n1:¬ (DO "table")="put":=by trivial
theorem n2:¬ (DO "table")="drop":=by trivial
def n3:¬ (DO "index")="table":=by trivial
def VE (q:Tq):D:=.tup [.str "table",z9 q.nm q.cs]
def n8 (nm c:Str):D:=.tup [.str "index",.str nm,.str c]
def iO (nm:Str) (p:Int×ad8):D:=.tup [.str "put",.str nm,.int p.1,.tup p.2]
def Sf (nm:Str) (n:Int):D:=.tup [.str "drop",.str nm,.int n]
structure St1 (s:List Tq) (x:D) (s':List Tq):Prop where
 c:gx [.dcf (iX s),x]=.ok (.dcf (iX s'))
 k:∀ a o,Vb (vW s) [a,o,θ x]=.ok (vW s')
inductive Go:List Tq->ad8->List Tq->Prop where
 | nil (s:List Tq):Go s [] s
 | cons {s s1 s2:List Tq} {x:D} {xs:ad8}:St1 s x s1->Go s1 xs s2->Go s (x::xs) s2
theorem Go.app (h:Go s xs s1) (g:Go s1 ys s2):Go s (xs++ys) s2:=by
 induction h with
 | nil=>exact g
 | cons e _ r=>exact .cons e (r g)
theorem K6 (h:Go s xs s'):∀ o3:Option D,∃ g,cG (.one 3) Yo xs [θ a,θ b,θ (.dcf (iX s)),o3]=.ok (.nx [θ a,θ b,θ (.dcf (iX s')),g]):=by
 induction h with
 | nil s=>exact fun o3=>⟨o3,rfl⟩
 | cons e _ v =>
  rename_i s u z x xs _;intro o3;obtain ⟨o,r⟩:=v (x);refine ⟨o,?_⟩;have t:Yo (acx [a,b,θ (.dcf (iX s)),o3] 3 (x))=.ok (.nx [a,b,θ (.dcf (iX u)),x]):=au (e.c);rw [bU t];exact r
theorem xM (h:Go s xs s'):kQ [.dcf (iX s),.lst xs]=.ok (.dcf (iX s')):=by
 obtain ⟨o,e⟩:=K6 h ξ;exact aq (((am (e)).trans rfl))
theorem JL (h:Go s xs s'):∀ g:Option D,∃ r,LP 2 Vb xs [θ a,ξ,g] (vW s)=.ok ([θ a,ξ,r],vW s'):=by
 induction h with
 | nil s=>exact fun g=>⟨g,rfl⟩
 | cons e _ v =>
  rename_i s C z x xs _;intro g;obtain ⟨o,u⟩:=v (x);refine ⟨o,?_⟩;show (Vb (vW s) [a,ξ,x]).bind _=_;rw [e.k];exact u
theorem J9 (h:Go [] xs s):iS [.lst xs]=.ok (.dcf (s.map fun q=>(Key.inr q.nm,D.dcf (bn q.rs)))):=by
 obtain ⟨o,e⟩:=JL h ξ;refine aq ((am (δ':=[θ (.lst xs),θ (.dcf (s.map fun q=>(Key.inr q.nm,D.dcf (bn q.rs)))),o]) ?_).trans rfl);show (LP 2 Vb xs [θ (.lst xs),ξ,ξ] (vW [])).bind _=_;rw [e,az];unfold N7 vW;rw [Y5];rfl
structure TOk (B:Nat) (q:Tq):Prop where
 sh:Sh q.nm q.cs
 t:TbOk B q.cs q.rs q.ids
 lr:q.rs.length<=40
 li:q.ids.length<=20
theorem NS (hs:Sh q.nm q.cs) (hr:q.rs=[]) (g:q.ids=[]) (hn:Nw s q.nm) (u:s.length < 500):St1 s (VE q) (s++[q]):=by
 have r:q.d=nj q.nm q.cs [] []:=by unfold Tq.d;rw [hr,g]
 refine ⟨(EO (yz hs (vJ hn) (by rw [uy];lia))).trans (by rw [<- r,Kp hn]),fun a o=>?_⟩;refine pJ (XA MY rfl rfl (Ed hn) (by unfold vW;rw [iN];lia)) rfl ((MQ rfl).trans ?_);simp [vW,hr,bn]
abbrev S1 (q:Tq) (x:D) (q':Tq):Prop:=∀ s,Nw s q.nm->s.length < 500->St1 (s++[q]) x (s++[q'])
theorem R6 (h:TOk B q) (hB:1<=B) (g:c∈q.cs.map YD) (hn:c∉q.ids.map YD) (v:q.ids.length < 20):∃ d,TOk B { q with ids:=q.ids++[(c,d)] }/\S1 q (n8 q.nm c) { q with ids:=q.ids++[(c,d)] }:=by
 obtain ⟨d,e,r⟩:=zy h.t hB (by have:=h.lr;lia) (by lia) g hn;refine ⟨d,⟨h.sh,r,h.lr,by simp;lia⟩,fun s hs u=>⟨?_,fun a o=>?_⟩⟩
 .refine (G2 (J3 (val_last hs) (by rw [uy];simp;lia) g hn e)).trans ?_;rw [<- rP (q':={ q with ids:=q.ids++[(c,d)] }) hs rfl];rfl
 .refine pJ rfl rfl ((MQ rfl).trans ?_);simp [vW]
theorem Ou (h:TOk B q) (hB:B < 40) (hm:1<=m/\m<=1000000000) (u:RowG q.cs x) (hr:(my q.rs m x).length<=40):∃ g,g.map YD=q.ids.map YD/\TOk (B+1) { q with rs:=my q.rs m x,ids:=g }/\S1 q (iO q.nm (m,x)) { q with rs:=my q.rs m x,ids:=g }:=by
 obtain ⟨g,e,v,z⟩:=GF h.t u.ok (by have:=h.lr;lia) (by have:=h.li;lia) hB;have r:g.length=q.ids.length:=by rw [<- iN,v,iN]
 refine ⟨g,v,⟨h.sh,z,hr,by rw [r];exact h.li⟩,fun s hs C=>⟨?_,fun a o=>?_⟩⟩
 .refine (ML (Hd h.sh (val_last hs) (by rw [uy];simp;lia) hm u e)).trans ?_;rw [<- rP (q':={ q with rs:=my q.rs m x,ids:=g }) hs rfl];rfl
 .refine pJ rfl (VZ MY rfl rfl rfl (sN hs) rfl rfl (by unfold bn;rw [iN];have:=h.lr;lia)) ((MQ rfl).trans ?_);rw [wR,<- A5 (q':={ q with rs:=my q.rs m x,ids:=g }) hs rfl]
theorem IV (h:TOk B q) (hB:B < 40) (hm:1<=m/\m<=1000000000) (hn:(bI q.rs m).isSome=ζ):∃ g,g.map YD=q.ids.map YD/\TOk B { q with rs:=gY q.rs m,ids:=g }/\S1 q (Sf q.nm m) { q with rs:=gY q.rs m,ids:=g }:=by
 obtain ⟨g,e,u,v⟩:=wo h.t hn (by have:=h.lr;lia) (by have:=h.li;lia) hB;have r:g.length=q.ids.length:=by rw [<- iN,u,iN]
 refine ⟨g,u,⟨h.sh,v,Le (ZZ _ _) h.lr,by rw [r];exact h.li⟩,fun s hs z=>⟨?_,fun a o=>?_⟩⟩
 .refine (KL (Dv (val_last hs) hn (by rw [uy];simp;lia) hm e)).trans ?_;rw [<- rP (q':={ q with rs:=gY q.rs m,ids:=g }) hs rfl];rfl
 .refine pJ rfl rfl ((V6 MY rfl rfl (sN hs) rfl rfl (by rw [f7];grind)).trans ?_);rw [sO,<- A5 (q':={ q with rs:=gY q.rs m,ids:=g }) hs rfl]
abbrev SG (q:Tq) (xs:ad8) (q':Tq):Prop:=q'.nm=q.nm/\q'.cs=q.cs/\∀ s,Nw s q.nm->s.length < 500->Go (s++[q]) xs (s++[q'])
def SG.nil (q:Tq):SG q [] q:=⟨rfl,rfl,fun s _ _=>.nil _⟩
theorem SG.one (h:S1 q x q') (r:q'.nm=q.nm) (g:q'.cs=q.cs):SG q [x] q':=⟨r,g,fun s hs u=>.cons (h s hs u) (.nil _)⟩
theorem SG.app (h:SG q xs q1) (g:SG q1 ys q2):SG q (xs++ys) q2:=⟨g.1.trans h.1,g.2.1.trans h.2.1,fun s hs r=>(h.2.2 s hs r).app (g.2.2 s (by rw [h.1];exact hs) r)⟩
theorem zW (hB:1<=B):∀ (ys:ad1) {q:Tq},TOk B q->(∀ c∈ys,c∈q.cs.map YD/\c∉q.ids.map YD)->ys.Nodup->q.ids.length+ys.length<=20->∃ q',TOk B q'/\SG q (ys.map (n8 q.nm)) q'/\q'.rs=q.rs/\q'.ids.map YD=q.ids.map YD++ys
 | [],q,h,_,_,_=>⟨q,h,.nil q,rfl,by grind⟩
 | c::r,q,h,hc,nd,hl=>by
  obtain ⟨d,h1,g1⟩:=R6 h hB (hc c (by simp)).1 (hc c (by simp)).2 (by simp at hl;lia);rw [YW] at nd;obtain ⟨q',h2,g2,u,g⟩:=zW hB r h1 (fun z hz=>⟨(hc z (lT _ hz)).1,fun w=>by
   grind⟩) nd.2 (by grind)
  refine ⟨q',h2,?_,u,by rw [g];simp⟩;exact (SG.one g1 rfl rfl).app g2
theorem sW (h:(bI rs m).isSome=ζ\/m=n):(bI (my rs n x) m).isSome=ζ:=by
 have key:∀ l , (bI l m).isSome=ζ ↔ ∃ q∈l,q.1=m:=fun l=>by
  unfold bI;simp_all
 rw [key] at h ⊢;unfold my;split
 .rename_i hs;have hs:∃ q∈rs,q.1=n:=by
   unfold bI at hs;simp_all
  obtain ⟨q,hq,e⟩:∃ q∈rs,q.1=m:=by
   rcases h with h|h
   .exact h
   .rw [h];exact hs
  refine ⟨_,Do.mpr ⟨q,hq,rfl⟩,?_⟩;split <;> exact e
 .rcases h with ⟨q,hq,e⟩|e
  .exact ⟨q,YY _ hq,e⟩
  simp_all
theorem BG:∀ (ps:List (Int×ad8)) {q:Tq} {B:Nat},TOk B q->B+ps.length<=40->(∀ p∈ps,(1<=p.1/\p.1<=1000000000)/\RowG q.cs p.2)->q.rs.length+ps.length<=40->∃ q',TOk (B+ps.length) q'/\SG q (ps.map (iO q.nm)) q'/\q'.ids.map YD=q.ids.map YD/\q'.rs.length<=q.rs.length+ps.length/\∀ m,((bI q.rs m).isSome=ζ\/∃ p∈ps,p.1=m)->(bI q'.rs m).isSome=ζ
 | [],q,B,h,_,_,_=>⟨q,h,.nil q,rfl,oR _,fun m hm=>hm.elim id fun ⟨_,g,_⟩=>nomatch g⟩
 | p::r,q,B,h,hB,g,hl=>by
  have I:=FQ h.t.r p.1 p.2;obtain ⟨v,C,h1,g1⟩:=Ou h (by simp at hB;lia) (g p (by simp)).1 (g p (by simp)).2 (by simp at hl;lia);obtain ⟨q',h2,g2,J,u,hs⟩:=BG r h1 (by simp at hB;lia) (fun z hz=>g z (lT _ hz)) (by simp at hl ⊢;lia);refine ⟨q',?_,?_,J.trans C,by simp at u ⊢;lia,fun m hm=>hs m ?_⟩
  .rw [YU,show B+(r.length+1)=B+1+r.length by lia];exact h2
  .rw [YB];exact (SG.one g1 rfl rfl).app g2
  .rcases hm with hm|⟨z,hz,e⟩
   .exact .inl (sW (.inl hm))
   .rcases mK.mp hz with rfl|hz
    .exact .inl (sW (.inr e.symm))
    .grind
theorem wZ (h:kA a b=.ok (.bl k)):bG a b=.ok (.bl (!k)):=by
 have h:dD (j1 a b) (fun k=>!k)=.ok (.bl k):=h;show dD (j1 a b) (fun k=>k)=_;cases e:j1 a b with
 | none=>rw [e] at h;cases h
 | some c =>
  rw [e] at h;cases h;cases c <;> rfl
def xR (h:NmOk y):DN y:=fun c g=>by
 have:∀ c∈al,c∈tab:=by trivial
 exact this c (h.al c g)
theorem Vd (h1:Py k a) (h2:Py k b) (r:Py k c):Py (k+1) (.tup [a,b,c]):=Py.tup fun d g=>by
 simp at g;rcases g with rfl|rfl|rfl <;> assumption
theorem XE (h1:Py k a) (h2:Py k b) (u:Py k c) (r:Py k e):Py (k+1) (.tup [a,b,c,e]):=Py.tup fun d g=>by
 simp at g;rcases g with rfl|rfl|rfl|rfl <;> assumption
theorem EX (h:(z.cps.toList.all fun c=>tab.contains c)=ζ):DN z:=fun c g=>by
 have:=Zy.mp h c g
 simpa using this
section
variable {nm:Str} {cs:List (Str×Str)} {ys:List Int} (hs:Sh nm cs) (hy:ys.length=16)
theorem TZ (hn:NmOk nm) (g:NmOk c):Py 1 (n8 nm c):=Vd (Py.str (EX rfl)) (Py.str (xR hn)) (Py.str (xR g))
abbrev L9:FT:=QR
abbrev Lu:FE:=Mj
include hy in
theorem AN:∀ (l:List (Str×Str)) (j:Nat),j+l.length < 1000->∃ L:List (Str×Str),L.Sublist l/\dY (.tup [0,1]) L9 Lu [ξ,ξ,θ (.tup [.str nm,P]),θ (.lst (ys.map D.int))] (bq j (l.map e8))=.ok (L.map fun c=>n8 nm c.1)
 | [],_,_=>⟨[],.slnil,rfl⟩
 | c::r,j,hj=>by
  obtain ⟨L,h1,h2⟩:=AN r (j+1) (by simp at hj;lia);have q:L9 [θ (.int (j:Int)),θ (e8 c),θ (.tup [.str nm,P]),θ (.lst (ys.map D.int))]=.ok (decide (ys.getD 4 0/((j:Int)+1) % 3=0)):=qf (ay (aW (ag rfl rfl (cH (i:=4) (by lia))) (bE rfl rfl) ⟨by lia,by simp at hj;lia⟩) rfl) rfl;have z:Lu [θ (.int (j:Int)),θ (e8 c),θ (.tup [.str nm,P]),θ (.lst (ys.map D.int))]=.ok (n8 nm c.1):=ba (ac rfl (ac (ag rfl rfl bW) (ac (ag rfl rfl bW) rfl)));have e:dY (.tup [0,1]) L9 Lu [ξ,ξ,θ (.tup [.str nm,P]),θ (.lst (ys.map D.int))] (bq j ((c::r).map e8))=(L9 [θ (.int (j:Int)),θ (e8 c),θ (.tup [.str nm,P]),θ (.lst (ys.map D.int))]).bind fun b=>if b=ζ then (Lu [θ (.int (j:Int)),θ (e8 c),θ (.tup [.str nm,P]),θ (.lst (ys.map D.int))]).bind fun y=>(dY (.tup [0,1]) L9 Lu [ξ,ξ,θ (.tup [.str nm,P]),θ (.lst (ys.map D.int))] (bq (j+1) (r.map e8))).bind fun ys=>.ok (y::ys) else dY (.tup [0,1]) L9 Lu [ξ,ξ,θ (.tup [.str nm,P]),θ (.lst (ys.map D.int))] (bq (j+1) (r.map e8)):=rfl;rw [e,q,az];by_cases g:ys.getD 4 0/((j:Int)+1) % 3=0
  .rw [adX g,adU rfl,z,az,h2,az];exact ⟨c::L,h1.cons_cons c,rfl⟩
  grind
abbrev pf (nm:Str) (cs:List (Str×Str)) (ys:List Int) (k most:Int) (o4 o5 o6 o7 o8 o9:Option D):Sd:=[θ (z9 nm cs),θ (.lst (ys.map D.int)),θ (.int k),θ (.int most),o4,o5,o6,o7,o8,o9]
structure Cl (cs:List (Str×Str)) (E:ad1):Prop where
 nd:E.Nodup
 m:∀ c∈E,c∈cs.map YD
 l:E.length<=8
include hs hy in
theorem IW:∃ E:ad1,Cl cs E/\∀ T:FS,ap (aJ 4 (bo [ξ,ξ,θ 0,θ 1] (cq (aa kX aj)) (.tup [0,1]) L9 Lu)) (ap SL T) (pf nm cs ys k most ξ ξ ξ ξ ξ ξ)=T (pf nm cs ys k most (θ (.lst (E.map (n8 nm)))) ξ ξ ξ ξ ξ):=by
 have l1:=hs.l1;obtain ⟨L,h1,h2⟩:=AN (nm:=nm) (P:=.tup (cs.map e8)) hy cs 0 (by lia);have r:bo [ξ,ξ,θ 0,θ 1] (cq (aa kX aj)) (.tup [0,1]) L9 Lu (pf nm cs ys k most ξ ξ ξ ξ ξ ξ)=.ok (.lst (L.map fun c=>n8 nm c.1)):=by
  refine bF (xs:=bq 0 (cs.map e8)) ?_ (pR rfl (by rw [jn,iN];lia) h2);rw [HN,ac (ag rfl rfl bJ) rfl,az];rfl
 have nd:(L.map YD).Nodup:=hs.nd.sublist (h1.map _);have hm:∀ c∈L.map YD,c∈cs.map YD:=fun c g=>(h1.map _).subset g;have u:(L.map YD).length<=8:=by rw [iN];exact Le h1.length_le l1
 have v:L.map (fun c=>n8 nm c.1)=(L.map YD).map (n8 nm):=by rw [Y5];rfl
 rw [v] at r;by_cases g:ys.getD 14 0 % 3=0
 .refine ⟨(L.map YD).reverse,⟨(List.reverse_perm _).nodup_iff.mpr nd,fun c h=>hm c (List.mem_reverse.mp h),by rw [ac7];exact u⟩,fun T=>?_⟩;refine (am (au r)).trans (am ((aN (dM (ay (ag rfl rfl (cH (i:=14) (by lia))) rfl) rfl g)).trans (au ?_)));rw [List.map_reverse];rfl
 .exact ⟨L.map YD,⟨nd,hm,u⟩,fun T=>(am (au r)).trans (skip (cP (ay ((cH (i:=14) (by lia))) rfl) rfl g))⟩
abbrev Wt:FT:=(jJ (aX NQ) (aX Gp))
abbrev XG:FE:=T5
include hs hy in
theorem OQ (I:Cl cs E):∃ F:ad1,Cl cs F/\(∀ c∈F,c∉E)/\∀ T:FS,ap (aJ 5 (bP aj)) (ap (bN Wt (aJ 5 XG) aF) T) (pf nm cs ys k most (θ (.lst (E.map (n8 nm)))) ξ ξ ξ ξ ξ)=T (pf nm cs ys k most (θ (.lst (E.map (n8 nm)))) (θ (.lst (F.map (n8 nm)))) ξ ξ ξ ξ):=by
 have l0:=hs.l0;have q5:∀ {o:Option D},aX NQ (pf nm cs ys k most (θ (.lst (E.map (n8 nm)))) o ξ ξ ξ ξ)=.ok (decide (ys.getD 5 0 % 2=0)):=qf (ay (ag rfl rfl (cH (i:=5) (by lia))) rfl) rfl;have q4:∀ {o:Option D},aX Gp (pf nm cs ys k most (θ (.lst (E.map (n8 nm)))) o ξ ξ ξ ξ)=.ok (!decide (0 < (E.map (n8 nm)).length)):=aO (ag rfl (bg rfl) (wZ (Py.nil ((fun d C=>by
   obtain ⟨c,g,rfl⟩:=Do.mp C;obtain ⟨q,hq,rfl⟩:=Do.mp (I.m c g);exact TZ hs.n (hs.c q hq).1)) (by decide))))
 have z:∀ T:FS,Wt (pf nm cs ys k most (θ (.lst (E.map (n8 nm)))) (θ (.lst [])) ξ ξ ξ ξ)=.ok η->∃ F:ad1,Cl cs F/\(∀ c∈F,c∉E)/\∀ T:FS,ap (aJ 5 (bP aj)) (ap (bN Wt (aJ 5 XG) aF) T) (pf nm cs ys k most (θ (.lst (E.map (n8 nm)))) ξ ξ ξ ξ ξ)=T (pf nm cs ys k most (θ (.lst (E.map (n8 nm)))) (θ (.lst (F.map (n8 nm)))) ξ ξ ξ ξ):=fun _ h =>
  ⟨[],⟨ZF,(fun c h=>nomatch h),by decide⟩,(fun c h=>nomatch h),fun T=>(am (au (bg rfl))).trans (skip h)⟩
 by_cases v:ys.getD 5 0 % 2=0
 .cases E with
  | cons a r=>exact z aF (gm (q5.trans (by rw [adX v])) (q4.trans (by rw [adX (by simp)];rfl)))
  | nil =>
   obtain ⟨p,J,u⟩:∃ p:Nat,ys.getD 6 0 % (cs.length:Int)=(p:Int)/\p < cs.length:=⟨(ys.getD 6 0 % (cs.length:Int)).toNat,by have:=ZQ (ys.getD 6 0) (show (cs.length:Int)≠0 by lia);lia,by have:=aao (ys.getD 6 0) (show (0:Int) < cs.length by lia);have:=ZQ (ys.getD 6 0) (show (cs.length:Int)≠0 by lia);lia⟩;refine ⟨[cs[p].1],⟨by simp,fun c g=>?_,by simp⟩,(fun c _ h=>nomatch h),fun T=>?_⟩
   .rw [OR.mp g];exact Do.mpr ⟨_,YG u,rfl⟩
   .refine (am (au (bg rfl))).trans (am ((aN (gm (q5.trans (by rw [adX v])) (q4.trans rfl))).trans (au ?_)));refine bg (ac (ba (ac rfl (ac rfl (ac (ag (ag rfl (ay ((cH (i:=6) (by lia))) ((nG _ _)) (by lia)) (by rw [J];exact C7 _ _ (lE u))) rfl bW) rfl)))) rfl)
 .exact z aF (kU (q5.trans (by simp_all)))
noncomputable def zM (ys:List Int) (k:Int) (j:Nat):Int:=1+k+3*(((j:Int)+ys.getD 8 0)*7 % 50)+999999800*(if decide (ys.getD 13 0 % 4=0)=ζ then 1 else 0)
abbrev PB:FS:=Q1
def NH (ys:List Int) (k:Int) (cs:List (Str×Str)):Nat->List Int->List (Int×ad8)
 | _,[]=>[]
 | j,z::r=>(zM ys k j,DJ z cs)::NH ys k cs (j+1) r
theorem Aq {k:Int}:∀ (j:Nat) (zs:List Int),(NH ys k cs j zs).length=zs.length
 | _,[]=>rfl
 | j,z::r=>by rw [NH,YU,Aq,YU]
include hs in
theorem FI (h:0<=k/\k<=2):∀ (j:Nat) (zs:List Int),∀ p∈NH ys k cs j zs,(1<=p.1/\p.1<=1000000000)/\RowG cs p.2
 | _,[],p,hp=>nomatch hp
 | j,z::r,p,hp=>by
  rcases mK.mp hp with rfl|hp
  .exact ⟨(by
     unfold zM;lia),(Bs hs z).2⟩
  .exact FI h (j+1) r p hp
include hs hy in
theorem D3:∀ (zs:List Int) (j:Nat) (acc:List (Int×ad8)) (o7 o8 o9:Option D),acc.length+zs.length < 900->∃ u g v,cG (.tup [7,8]) PB (bq j (zs.map D.int)) (pf nm cs ys k most o4 o5 (θ (.lst (acc.map (iO nm)))) o7 o8 o9)=.ok (.nx (pf nm cs ys k most o4 o5 (θ (.lst ((acc++NH ys k cs j zs).map (iO nm)))) u g v))
 | [],j,acc,o7,o8,o9,_=>⟨o7,o8,o9,by rw [NH,Y9];rfl⟩
 | z::r,j,acc,o7,o8,o9,h=>by
  obtain ⟨u,g,v,e⟩:=D3 r (j+1) (acc++[(zM ys k j,DJ z cs)]) (θ (.int (j:Int))) (θ (.int z)) (θ (.int (zM ys k j))) (by simp at h ⊢;lia);refine ⟨u,g,v,?_⟩;have t:PB (pf nm cs ys k most o4 o5 (θ (.lst (acc.map (iO nm)))) (θ (.int (j:Int))) (θ (.int z)) o9)=.ok (.nx (pf nm cs ys k most o4 o5 (θ (.lst ((acc++[(zM ys k j,DJ z cs)]).map (iO nm)))) (θ (.int (j:Int))) (θ (.int z)) (θ (.int (zM ys k j))))):=by
   rw [YK];refine (am (au (d:=.int (zM ys k j)) ?_)).trans (iC rfl (ba (ac rfl (ac (ag rfl rfl bW) (ac rfl (ac (ak (ac rfl (ac rfl rfl)) (Bs hs z).1) rfl))))) (by grind));exact bE (bE rfl (ag rfl (ay (gP (bE rfl ((cH (i:=8) (by lia)))) rfl) rfl) rfl)) (ag rfl (ak (ac (ag (ay ((cH (i:=13) (by lia))) rfl) rfl kW) rfl) GU) rfl)
  have t2:=vm (i:=7) (j:=8) (r:=bq (j+1) (r.map D.int)) (U:=pf nm cs ys k most o4 o5 (θ (.lst (acc.map (iO nm)))) o7 o8 o9) t;rw [YB,bq,t2,e,ZM];rfl
end
section
variable {ys:List Int} (hs:Sh nm cs) (hy:ys.length=16)
abbrev xA:FT:=RE
abbrev xB:FS:=UM
abbrev xC:FT:=Ln
abbrev xD:FS:=SF
abbrev Yk (cs:List (Str×Str)) (p:Int×ad8):Prop:=(1<=p.1/\p.1<=1000000000)/\RowG cs p.2
include hs hy in
theorem Od {ps:List (Int×ad8)} (g:∀ p∈ps,Yk cs p) (z:ps.length<=31):∃ ps':List (Int×ad8),(∀ p∈ps',Yk cs p)/\ps'.length<=ps.length+1/\∀ T:FS,ap (bN xA xB aF) T (pf nm cs ys k most o4 o5 (θ (.lst (ps.map (iO nm)))) o7 o8 o9)=T (pf nm cs ys k most o4 o5 (θ (.lst (ps'.map (iO nm)))) o7 o8 o9):=by
 have q1:aX (ao kA (ae 6) (bP aj)) (pf nm cs ys k most o4 o5 (θ (.lst (ps.map (iO nm)))) o7 o8 o9)=.ok (decide (0 < (ps.map (iO nm)).length)):=aO (ag rfl (bg rfl) (Py.nil (k:=2) (fun d u=>by obtain ⟨p,h,rfl⟩:=Do.mp u;exact (fun hn h =>  XE ((Py.str (EX rfl)).mono (by decide)) ((Py.str (xR hn)).mono (by decide)) ((Py.int _).mono (by decide)) (Ec h.ok)) hs.n (g p h).2) (by decide)));have q2:aX (ao x5 M9 (vC (.int 0))) (pf nm cs ys k most o4 o5 (θ (.lst (ps.map (iO nm)))) o7 o8 o9)=.ok (decide (0 < ys.getD 10 0 % 3)):=aO (ag (ay (ag rfl rfl (cH (i:=10) (by lia))) rfl) rfl yM);by_cases h1:0 < ps.length
 .have q1:=q1.trans (by rw [adX (by rw [iN];exact h1)]);by_cases h2:0 < ys.getD 10 0 % 3
  .have q2:=q2.trans (by rw [adX h2]);obtain ⟨i,v,r⟩:∃ i:Nat,ys.getD 11 0 % (ps.length:Int)=(i:Int)/\i < ps.length:=⟨(ys.getD 11 0 % (ps.length:Int)).toNat,by have:=ZQ (ys.getD 11 0) (show (ps.length:Int)≠0 by lia);lia,by have:=aao (ys.getD 11 0) (show (0:Int) < ps.length by lia);have:=ZQ (ys.getD 11 0) (show (ps.length:Int)≠0 by lia);lia⟩;have hg:=g ps[i] (YG r);refine ⟨ps++[(ps[i].1,DJ (ys.getD 12 0) cs)],fun p h=>?_,by simp,fun T=>am ((aN (gm q1 q2)).trans ?_)⟩
   .rcases xb.mp h with h|h
    .exact g p h
    .rw [OR.mp h];exact ⟨hg.1,(Bs hs _).2⟩
   .rw [YK];exact iC rfl (ba (ac rfl (ac (ag rfl rfl bW) (ac (ag (ag (c:=iO nm ps[i]) rfl (ay (ag rfl rfl (cH (i:=11) (by lia))) (cz rfl (jz _ _)) (by lia)) (by rw [v];exact lF _ _ (lE r))) rfl iQ) (ac (ak (ac (ag rfl rfl (cH (i:=12) (by lia))) (ac rfl rfl)) (Bs hs _).1) rfl))))) (by grind)
  .exact ⟨ps,g,by lia,fun T=>skip (gm q1 (q2.trans (by simp_all)))⟩
 .exact ⟨ps,g,by lia,fun T=>skip (kU (q1.trans (by simp_all)))⟩
include hy in
theorem Nu {ps:List (Int×ad8)} (u:ps.length<=40):∃ dr:List Int,dr.length<=1/\(∀ n∈dr,∃ p∈ps,p.1=n)/\∀ T:FS,ap (bN xC xD aF) T (pf nm cs ys k most o4 o5 (θ (.lst (ps.map (iO nm)))) o7 o8 o9)=T (pf nm cs ys k most o4 o5 (θ (.lst (ps.map (iO nm)++dr.map (Sf nm)))) o7 o8 o9):=by
 have g:xC (pf nm cs ys k most o4 o5 (θ (.lst (ps.map (iO nm)))) o7 o8 o9)=.ok η->∃ dr:List Int,dr.length<=1/\(∀ n∈dr,∃ p∈ps,p.1=n)/\∀ T:FS,ap (bN xC xD aF) T (pf nm cs ys k most o4 o5 (θ (.lst (ps.map (iO nm)))) o7 o8 o9)=T (pf nm cs ys k most o4 o5 (θ (.lst (ps.map (iO nm)++dr.map (Sf nm)))) o7 o8 o9):=fun h=>⟨[],by decide,(fun n hn=>nomatch hn),fun T=>by rw [acJ,Y9];exact skip h⟩
 have q1:aX TY (pf nm cs ys k most o4 o5 (θ (.lst (ps.map (iO nm)))) o7 o8 o9)=.ok (((2:Int) < ps.length)):=aO (ag ((jz _ _)) rfl yM);by_cases h1:(2:Int) < ps.length
 .have q1:=q1.trans (by rw [adX h1]);by_cases h2:ys.getD 10 0 % 3=1
  .cases ps with
   | nil=>simp at h1
   | cons p r =>
    refine ⟨[p.1],by simp,fun n hn=>⟨p,by simp,(OR.mp hn).symm⟩,fun T=>am ((aN (gm q1 (dM (ay ((cH (i:=10) (by lia))) rfl) rfl h2))).trans ?_)⟩;exact iC rfl (ba (ac rfl (ac rfl (ac (ag ((vd (bM rfl))) rfl iQ) rfl)))) (by grind)
  .exact g (gm q1 (cP (ay ((cH (i:=10) (by lia))) rfl) rfl h2))
 .exact g (kU (q1.trans (by simp_all)))
structure QOk (q:Tq):Prop where
 sh:Sh q.nm q.cs
 r:RsOk q.cs.length q.rs
 l:q.rs.length<=40
include hs hy in
theorem EA {k most:Nat} (hk:k<=2) (hm:most<=30):∃ ch q,lM [z9 nm cs,.lst (ys.map D.int),.int (k:Int),.int (most:Int)]=.ok (.lst ch)/\ch.length<=60/\SG ⟨nm,cs,[],[]⟩ ch q/\QOk q:=by
 obtain ⟨E,g,e1⟩:=IW hs hy (k:=(k:Int)) (most:=(most:Int));obtain ⟨F,hF,hEF,e2⟩:=OQ hs hy (k:=(k:Int)) (most:=(most:Int)) g;obtain ⟨m,em,hm'⟩:∃ m:Nat,ys.getD 7 0 % ((most:Int)+1)=(m:Int)/\m<=most:=⟨(ys.getD 7 0 % ((most:Int)+1)).toNat,by have:=ZQ (ys.getD 7 0) (show ((most:Int)+1)≠0 by lia);lia,by have:=aao (ys.getD 7 0) (show (0:Int) < (most:Int)+1 by lia);have:=ZQ (ys.getD 7 0) (show ((most:Int)+1)≠0 by lia);lia⟩;have z:(pc (ys.getD 9 0) m).length=m:=gL _ _ _;obtain ⟨o7,o8,o9,e3⟩:=D3 hs hy (k:=(k:Int)) (most:=(most:Int)) (o4:=θ (.lst (E.map (n8 nm)))) (o5:=θ (.lst (F.map (n8 nm)))) (pc (ys.getD 9 0) m) 0 [] ξ ξ ξ (by rw [z];simp;lia);rw [abt] at e3;have Y:=FI (ys:=ys) hs (k:=(k:Int)) ⟨by lia,by lia⟩ 0 (pc (ys.getD 9 0) m);have hpl:(NH ys (k:Int) cs 0 (pc (ys.getD 9 0) m)).length=m:=by rw [Aq,z]
 obtain ⟨ps,v,hl2,e4⟩:=Od hs hy (k:=(k:Int)) (most:=(most:Int)) (o4:=θ (.lst (E.map (n8 nm)))) (o5:=θ (.lst (F.map (n8 nm)))) (o7:=o7) (o8:=o8) (o9:=o9) Y (by lia);obtain ⟨M,hd,u,e5⟩:=Nu (nm:=nm) (cs:=cs) hy (k:=(k:Int)) (most:=(most:Int)) (o4:=θ (.lst (E.map (n8 nm)))) (o5:=θ (.lst (F.map (n8 nm)))) (o7:=o7) (o8:=o8) (o9:=o9) (ps:=ps) (by lia);have t0:TOk 1 ⟨nm,cs,[],[]⟩:=⟨hs,⟨⟨ZF,(fun q hq=>nomatch hq)⟩,ZF,(fun q hq=>nomatch hq)⟩,YJ _,YJ _⟩
 obtain ⟨q1,t1,g1,r1,i1⟩:=zW (by decide) E t0 (fun c C=>⟨g.m c C,(fun h=>nomatch h)⟩) g.nd (by have:=g.l;simp;lia)
 obtain ⟨q2,t2,g2,i2,l2,s2⟩:=BG ps t1 (by lia) (fun p J=>by rw [g1.2.1];exact v p J) (by rw [r1];simp;lia);have gd:∃ q3,TOk (1+ps.length) q3/\SG q2 (M.map (Sf q2.nm)) q3/\q3.ids.map YD=q2.ids.map YD:=by
  match M,hd,u with
  | [],_,_=>exact ⟨q2,t2,.nil q2,rfl⟩
  | [n],_,u =>
   obtain ⟨p,J,rfl⟩:=u n (by simp);obtain ⟨ids',a,b,c⟩:=IV t2 (by lia) (v p J).1 (s2 p.1 (.inr ⟨p,J,rfl⟩));exact ⟨_,b,SG.one c rfl rfl,a⟩
 obtain ⟨q3,t3,I,i3⟩:=gd;have en:q2.nm=nm:=g2.1.trans g1.1;have L:q3.nm=nm:=I.1.trans en;have Z:q3.cs=cs:=I.2.1.trans (g2.2.1.trans g1.2.1);have ii:q3.ids.map YD=E:=by rw [i3,i2,i1];rfl
 obtain ⟨q4,t4,g4,r4,i4⟩:=zW (by lia) F t3 (fun c C=>⟨by rw [Z];exact hF.m c C,by rw [ii];exact hEF c C⟩) hF.nd (by have:=adZ List.length ii;rw [iN] at this;have:=g.l;have:=hF.l;lia);refine ⟨E.map (n8 nm)++(ps.map (iO nm)++M.map (Sf nm))++F.map (n8 nm),q4,?_,?_,?_,t4.sh,t4.t.r,t4.lr⟩
 .rw [yK,iZ];refine aq ((e1 _).trans ((e2 _).trans ((am (nL (bg rfl))).trans ((am (eR (xs:=bq 0 ((pc (ys.getD 9 0) m).map D.int)) ?_ e3)).trans ((e4 _).trans ((e5 _).trans (av (ag (ag rfl rfl (add_l.trans (adU (by have:=g.l;simp;lia)))) rfl (add_l.trans (adU (by have:=g.l;have:=hF.l;simp;lia)))))))))));rw [HN,ac (ak (ac (ag rfl rfl (cH (i:=9) (by lia))) (ac ((ay (ag rfl rfl (cH (i:=7) (by lia))) (bE rfl rfl) (by lia)).trans (by rw [em])) rfl)) (j3 _ m (by lia))) rfl,az];rfl
 .have:=g.l
  have:=hF.l
  simp;lia
 .rw [<- ZM];rw [g1.1] at g2;rw [en] at I;rw [L] at g4;exact ((g1.app g2).app I).app g4
end
theorem ui (xs:ad8) (k:Nat):gT xs (θ (k:Int)) ξ=xs.drop k:=by
 unfold gT;rw [HT.gu,HT.j9];rcases Nat.le_total k xs.length with h|h
 .rw [aaA h,ZD (by simp)]
 simp_all
def jQ (q:Tq):D:=z9 q.nm q.cs
abbrev LB:FS:=XR
structure Ts (c:Int) (k:Nat) (qs:List Tq):Prop where
 l:qs.length=k
 o:∀ q∈qs,QOk q
 n:∀ q∈qs,∃ (i:Nat) (a:Int),i < k/\(a=0\/a=1)/\q.nm=rZ (c/5+a) i
 nd:(qs.map Tq.nm).Nodup
theorem Ts.nw (h:Ts c k qs) (u:k<=20) (r:a=0\/a=1):Nw qs (rZ (c/5+a) k):=fun q hq e=>by
 obtain ⟨i,b,g,hb,en⟩:=h.n q hq;rw [en] at e;rcases r with rfl|rfl <;> rcases hb with rfl|rfl
 .exact Eo g (by lia) e
 .rw [Int.add_zero] at e;exact GB e.symm
 .rw [Int.add_zero] at e;exact GB e
 .exact Eo g (by lia) e
theorem BP {most:Nat} (hm:most<=30):∀ (n k:Nat) (qs:List Tq) (ch:ad8) (o4 o5:Option D),k+n<=3->Ts c k qs->Go [] ch qs->ch.length<=61*k ->
  ∃ r u I J,cG (.one 4) LB (dI (k:Int) n) [θ (.int c),θ (.int (most:Int)),θ (.lst ch),θ (.lst (qs.map jQ)),o4,o5]=.ok (.nx [θ (.int c),θ (.int (most:Int)),θ (.lst u),θ (.lst (r.map jQ)),I,J])/\Ts c (k+n) r/\Go [] u r
 | 0,k,qs,ch,o4,o5,_,h,g,_=>⟨qs,ch,o4,o5,rfl,h,g⟩
 | n+1,k,qs,ch,o4,o5,hk,h,g,hl=>by
  have hz:(pc (c/3+11*(k:Int)) 16).length=16:=gL _ _ _;generalize ez:pc (c/3+11*(k:Int)) 16=zs at hz;obtain ⟨a,ea,ha⟩:∃ a:Int,zs.getD 0 0 % 2=a/\(a=0\/a=1):=⟨_,rfl,by lia⟩;have hw:(((c/5+a)::zs.drop 1):List Int).length=16:=by simp;lia
  generalize ew:(((c/5+a)::zs.drop 1):List Int)=ws at hw;have w0:ws.getD 0 0=c/5+a:=by rw [<- ew];rfl
  have hs:Sh (rZ (c/5+a) (k:Int)) (v3 ws (Bh ws)):=MU _ _;have v:=Ki hw (k:Int);rw [w0] at v;obtain ⟨fl,q,M,hfl,Y,qo⟩:=EA hs hz (k:=k) (most:=most) (by lia) hm;have nw:=h.nw (by lia) ha;have en:q.nm=rZ (c/5+a) (k:Int):=Y.1;have ec:q.cs=v3 ws (Bh ws):=Y.2.1;have C:jQ q=z9 (rZ (c/5+a) (k:Int)) (v3 ws (Bh ws)):=by unfold jQ;rw [en,ec]
  have h':Ts c (k+1) (qs++[q]):=by
   refine ⟨by simp [h.l],fun z hz=>?_,fun z hz=>?_,?_⟩
   .rcases xb.mp hz with hz|hz
    .exact h.o z hz
    .rw [OR.mp hz];exact qo
   .rcases xb.mp hz with hz|hz
    .obtain ⟨i,b,hi,hb⟩:=h.n z hz;exact ⟨i,b,by lia,hb⟩
    .rw [OR.mp hz];exact ⟨k,a,by lia,ha,en⟩
   .rw [YK,aaZ];refine ⟨h.nd,by simp,fun x hx y hy L=>?_⟩;obtain ⟨z,hz,rfl⟩:=Do.mp hx;simp at hy;rw [hy,en] at L;exact nw z hz L
  have g':Go [] (ch++[VE ⟨rZ (c/5+a) (k:Int),v3 ws (Bh ws),[],[]⟩]++fl) (qs++[q]):=by
   have hq:qs.length < 500:=by rw [h.l];lia
   exact (g.app (.cons (NS (q:=⟨rZ (c/5+a) (k:Int),v3 ws (Bh ws),[],[]⟩) hs rfl rfl nw hq) (.nil _))).app (Y.2.2 qs nw hq)
  obtain ⟨r,u,I,J,e,h2,g2⟩:=BP hm n (k+1) (qs++[q]) _ (θ (.int (k:Int))) (θ (.lst (zs.map D.int))) (by lia) h' g' (by simp;lia);refine ⟨r,u,I,J,?_,by rw [show k+(n+1)=k+1+n by lia];exact h2,g2⟩;have t:LB (acx [θ (.int c),θ (.int (most:Int)),θ (.lst ch),θ (.lst (qs.map jQ)),o4,o5] 4 (θ (.int (k:Int))))=.ok (.nx [θ (.int c),θ (.int (most:Int)),θ (.lst (ch++[VE ⟨rZ (c/5+a) (k:Int),v3 ws (Bh ws),[],[]⟩]++fl)),θ (.lst ((qs++[q]).map jQ)),θ (.int (k:Int)),θ (.lst (zs.map D.int))]):=by
   have e5:ai cV (aa QF (aa (vC (.int 16)) aj)) [θ (.int c),θ (.int (most:Int)),θ (.lst ch),θ (.lst (qs.map jQ)),θ (.int (k:Int)),o5]=.ok (.lst (zs.map D.int)):=by
    rw [<- ez];exact ak (ac (bE (aW rfl rfl) (ag rfl rfl (R7 (by decide)))) (ac rfl rfl)) (j3 _ 16 (by decide))
   have el:ao bm Ri Lw [θ (.int c),θ (.int (most:Int)),θ (.lst ch),θ (.lst (qs.map jQ)),θ (.int (k:Int)),θ (.lst (zs.map D.int))]=.ok (.lst (ws.map D.int)):=by
    rw [<- ew,YB,adl,<- ui,<- ea];exact ag (bg (ac (bE (aW rfl rfl) (ay (ag rfl rfl (cH (i:=0) (by lia))) rfl)) rfl)) (de rfl (bh rfl) rfl we) (add_l.trans (adU (by rw [show ((1:Int))=((1:Nat):Int) from rfl,ui];simp;lia)))
   have Z:aV (.lst ((qs++[q]).map jQ)) (.int (k:Int))=.ok (jQ q):=lF _ _ (by rw [<- h.l];simp);rw [YK] at Z ⊢;refine (am (au e5)).trans ((am (iC rfl (ak (ac el (ac rfl rfl)) (v.trans (by rw [<- C]))) (by rw [iN,h.l];lia))).trans (au ?_));refine ag (ag rfl (bg (ac (ba (ac rfl (ac (ag rfl rfl Z) rfl))) rfl)) (add_l.trans (adU (by simp;lia)))) (ak (ac (ag rfl rfl Z) (ac rfl (ac rfl (ac rfl rfl)))) (by rw [C];exact M)) ((add_l.trans (adU (by simp;lia))).trans ?_);rw [C];rfl
  rw [qY,bU t]
  grind
theorem B6 (c:Int) {most:Nat} (hm:most<=30):∃ qs ch n,ot [.int c,.int (most:Int)]=.ok (.tup [.lst (qs.map jQ),.lst ch])/\Ts c n qs/\Go [] ch qs/\1<=n/\n<=3:=by
 obtain ⟨n,en,hn⟩:∃ n:Nat,1+c % 3=n/\1<=n/\n<=3:=⟨(1+c % 3).toNat,by lia,by lia,by lia⟩;obtain ⟨qs,ch,o4,o5,e,h,g⟩:=BP hm n 0 [] [] ξ ξ (by lia) ⟨rfl,(fun q hq=>nomatch hq),(fun q hq=>nomatch hq),ZF⟩ (.nil _) (by simp)
 rw [abH] at h;refine ⟨qs,ch,n,?_,h,g,hn⟩;exact aq (rfl.trans (((am (eR (jk ((bE rfl rfl).trans (by rw [en])) (by lia)) e)).trans rfl)))
inductive Sid where
 | val (v:D)
 | cel (k c:Nat)
noncomputable def Sid.d:Sid->D
 | .val v=>.tup [.str "value",v]
 | .cel k c=>.tup [.str "cell",.int (k:Int),.int (c:Int)]
inductive Cn where
 | test (sg:Str) (a b:Sid)
 | neg (c:Cn)
 | and (a b:Cn)
 | or (a b:Cn)
def Cn.d:Cn->D
 | .test sg a b=>.tup [.str "test",.str sg,a.d,b.d]
 | .neg c=>.tup [.str "not",c.d]
 | .and a b=>.tup [.str "and",a.d,b.d]
 | .or a b=>.tup [.str "or",a.d,b.d]
def Cn.h:Cn->Nat
 | .test _ _ _=>2
 | .neg c=>c.h+1
 | .and a b=>max a.h b.h+1
 | .or a b=>max a.h b.h+1
noncomputable def Cn.n:Cn->Nat
 | .test _ _ _=>3
 | .neg c=>c.n+1
 | .and a b=>a.n+b.n+1
 | .or a b=>a.n+b.n+1
def pe:Option Cn->D
 | none=>.non
 | some c=>c.d
abbrev Wl:Type:=List (ad1)
def wD (W:Wl):D:=.lst (W.map fun r=>.lst (r.map D.str))
structure WOk (W:Wl):Prop where
 l0:1<=W.length
 l1:W.length<=3
 r:∀ r∈W,1<=r.length/\r.length<=8/\∀ z∈r,Kd z
def gg (W:Wl):Sid->Prop
 | .val v=>Vl 40 v
 | .cel k c=>∃ r,W[k]?=θ r/\c < r.length
def Sg (z:Str):Prop:=z="="\/z="<>"\/z="<"\/z="<="\/z=">"\/z=">="
def iy (W:Wl):Cn->Prop
 | .test sg a b=>Sg sg/\gg W a/\gg W b
 | .neg c=>iy W c
 | .and a b=>iy W a/\iy W b
 | .or a b=>iy W a/\iy W b
theorem im (a:Int) {n:Nat} (h:0 < n):∃ p:Nat,a % (n:Int)=(p:Int)/\p < n:=by
 have h1:=ZQ a (show (n:Int)≠0 by lia);have h2:=aao a (show (0:Int) < n by lia);exact ⟨(a % n).toNat,by lia,by lia⟩
section
variable (hW:WOk W)
include hW
theorem ym (x:Int):∃ k c r,fV [.int x,wD W]=.ok (Sid.cel k c).d/\k < W.length/\W[k]?=θ r/\c < r.length:=by
 obtain ⟨k,C,g⟩:=im x (n:=W.length) (by have:=hW.l0;lia);have hr:=hW.r _ (YG g);obtain ⟨c,u,I⟩:=im (x/8) (n:=W[k].length) (by lia);refine ⟨k,c,W[k],?_,g,lE g,I⟩;have z:ao bc (ae 0) rf [θ (.int x),(wD W),ξ]=.ok (.int k):=(ay rfl ((jz _ _)) (by lia)).trans (by rw [C]);have v:ao bc (ao cp (ae 0) (vC (.int 8))) LF [θ (.int x),(wD W),θ (.int k)]=.ok (.int c):=(ay rfl (cz ((lF _ _ (lE g))) (jz _ _)) (by lia)).trans (by rw [u]);exact aq ((am (au z)).trans (av (ba (ac rfl (ac rfl (ac v rfl))))))
omit hW in
theorem sg8 (g:0<=i) (h1:i < 8):∃ z:Str,aV (.lst [.str "=",.str "<>",.str "<",.str "<=",.str ">",.str ">=",.str "=",.str "="]) (.int i)=.ok (.str z)/\Sg z:=by
 have:i=0\/i=1\/i=2\/i=3\/i=4\/i=5\/i=6\/i=7:=by lia
 rcases this with rfl|rfl|rfl|rfl|rfl|rfl|rfl|rfl
 .exact ⟨_,rfl,.inl rfl⟩
 .exact ⟨_,rfl,.inr (.inl rfl)⟩
 .exact ⟨_,rfl,.inr (.inr (.inl rfl))⟩
 .exact ⟨_,rfl,.inr (.inr (.inr (.inl rfl)))⟩
 .exact ⟨_,rfl,.inr (.inr (.inr (.inr (.inl rfl))))⟩
 .exact ⟨_,rfl,.inr (.inr (.inr (.inr (.inr rfl))))⟩
 .exact ⟨_,rfl,.inl rfl⟩
 .exact ⟨_,rfl,.inl rfl⟩
omit hW in
theorem Xm:∃ z:Str,aV (.lst [.str "number",.str "text"]) (.int (i % 2))=.ok (.str z)/\Kd z:=by
 have:i % 2=0\/i % 2=1:=by lia
 rcases this with e|e <;> rw [e]
 .exact ⟨_,rfl,.inl rfl⟩
 .exact ⟨_,rfl,.inr rfl⟩
abbrev GH (x:Int) (W:Wl) (a:Sid) (z:Str) (b:Sid):Sd:=[θ (.int x),θ (wD W),θ a.d,θ (.str z),θ b.d]
theorem Oj (h0:0<=x) (h1:x < 2147483647):∃ z a b,rC [.int x,wD W]=.ok (Cn.test z a b).d/\iy W (.test z a b):=by
 obtain ⟨k,c,r,M,hk,C,u⟩:=ym hW (x/6);obtain ⟨z,ez,hz⟩:=sg8 (i:=x/3 % 8) (by lia) (by lia);have hr:=hW.r r (YO C);obtain ⟨e3,g3⟩:=mi (x:=x/97) (kd:=r[c]) (by lia) (by lia) (hr.2.2 _ (YG u));have s3:∀ T:FS,ap Ms (ap SC (ap RQ T)) [θ (.int x),θ (wD W),ξ,ξ,ξ]=T (GH x W (.cel k c) z (.val (lv (x/97) r[c]))):=fun T =>
  (am (au (ak (ac (aW rfl rfl) (ac rfl rfl)) M))).trans ((am (au (ag (bg (ac rfl (ac rfl (ac rfl (ac rfl (ac rfl (ac rfl (ac rfl (ac rfl rfl))))))))) (ay (aW rfl rfl) rfl) ez))).trans (am (au (ba (ac rfl (ac (ak (ac (aW rfl rfl) (ac (ag (ag rfl (ag rfl rfl bJ) (lF _ _ C)) (ag rfl rfl iQ) (lF _ _ (lE u))) rfl)) e3) rfl))))))
 have s4:∀ {a:Sid} {b:Sid},gg W b->∃ I,gg W I/\∀ T:FS,ap SQ T (GH x W a z b)=T (GH x W a z I):=fun {a b} hb=>by
  by_cases q:x % 3=0
  .obtain ⟨k,c,r,M,hk,C,u⟩:=ym hW (x/101);exact ⟨.cel k c,⟨r,C,u⟩,fun T=>am ((aN (dM (ay rfl rfl) rfl q)).trans (au (ak (ac (aW rfl rfl) (ac rfl rfl)) M)))⟩
  .exact ⟨b,hb,fun T=>skip (cP (ay rfl rfl) rfl q)⟩
 have s5:∀ {a:Sid} {b:Sid},gg W b->∃ I,gg W I/\∀ T:FS,ap QQ T (GH x W a z b)=T (GH x W a z I):=fun {a b} hb=>by
  by_cases q:x % 13=0
  .obtain ⟨y,ey,hy⟩:=Xm (i:=x/13);obtain ⟨e,g⟩:=mi (x:=x/97) (by lia) (by lia) hy;exact ⟨.val _,g.v,fun T=>am ((aN (dM (ay rfl rfl) rfl q)).trans (au (ba (ac rfl (ac (ak (ac (aW rfl rfl) (ac (ag (bg (ac rfl (ac rfl rfl))) (ay (aW rfl rfl) rfl) ey) rfl)) e) rfl)))))⟩
  .exact ⟨b,hb,fun T=>skip (cP (ay rfl rfl) rfl q)⟩
 have s6:∀ {a:Sid} {b:Sid},gg W a->∃ a',gg W a'/\∀ T:FS,ap Rp T (GH x W a z b)=T (GH x W a' z b):=fun {a b} L=>by
  by_cases q:x % 17=0
  .obtain ⟨y,ey,hy⟩:=Xm (i:=x/17);obtain ⟨e,g⟩:=mi (x:=x/41) (by lia) (by lia) hy;exact ⟨.val _,g.v,fun T=>am ((aN (dM (ay rfl rfl) rfl q)).trans (au (ba (ac rfl (ac (ak (ac (aW rfl rfl) (ac (ag (bg (ac rfl (ac rfl rfl))) (ay (aW rfl rfl) rfl) ey) rfl)) e) rfl)))))⟩
  .exact ⟨a,L,fun T=>skip (cP (ay rfl rfl) rfl q)⟩
 obtain ⟨b1,Y,t4⟩:=s4 (a:=.cel k c) (b:=.val (lv (x/97) r[c])) g3.v;obtain ⟨Z,J,t5⟩:=s5 (a:=.cel k c) Y;obtain ⟨a,L,t6⟩:=s6 (a:=.cel k c) (b:=Z) ⟨r,C,u⟩;rw [Ep,mQ];by_cases q:x/5 % 3=0
 .exact ⟨z,Z,a,aq ((s3 _).trans ((t4 _).trans ((t5 _).trans ((t6 _).trans (a8 ((aN (dM (ay (aW rfl rfl) rfl) rfl q)).trans (av (ba (ac rfl (ac rfl (ac rfl (ac rfl rfl)))))))))))),hz,J,L⟩
 .exact ⟨z,a,Z,aq ((s3 _).trans ((t4 _).trans ((t5 _).trans ((t6 _).trans ((skip (cP rfl rfl q)).trans rfl))))),hz,L,J⟩
omit hW in
theorem wF (f:Option Cn):isD (pe f) .non=.ok (.bl f.isNone):=by
 cases f with
 | none=>rfl
 | some c=>cases c <;> rfl
abbrev CB:FS:=Ur
abbrev Bu (xs:D) (W:Wl) (f:D) (o3 o4:Option D):Sd:=[θ xs,θ (wD W),θ f,o3,o4]
def hF:Option Cn->Nat
 | none=>2
 | some c=>c.h
def nF:Option Cn->Nat
 | none=>0
 | some c=>c.n
def Cd (W:Wl):Option Cn->Prop
 | none=>True
 | some c=>iy W c/\2<=c.h
theorem Kt (Z:0<=x) (h1:x < 2147483647) (f:Option Cn) (g:Cd W f) (o4:Option D):∃ c J,CB (Bu xs W (pe f) (θ (.int x)) o4)=.ok (.nx (Bu xs W (Cn.d c) (θ (.int x)) J))/\Cd W (θ c)/\c.h<=max (hF f) 3+2/\c.n<=nF f+6:=by
 obtain ⟨z,a,b,L,ht⟩:=Oj hW Z h1;have s1:∃ u,(iy W u/\2<=u.h/\u.h<=3/\u.n<=4)/\∀ T:FS,ap Mh (ap Qm T) (Bu xs W (pe f) (θ (.int x)) o4)=T (Bu xs W (pe f) (θ (.int x)) (θ (Cn.d u))):=by
  by_cases q:x/7 % 6=0
  .exact ⟨.neg (.test z a b),⟨ht,by show 2<=3;decide,by show 3<=3;decide,by show 4<=4;decide⟩,fun T=>(am (au (ak (ac rfl (ac rfl rfl)) L))).trans (am ((aN (dM (ay (aW rfl rfl) rfl) rfl q)).trans (au (ba (ac rfl (ac rfl rfl))))))⟩
  .exact ⟨.test z a b,⟨ht,by show 2<=2;decide,by show 2<=3;decide,by show 3<=4;decide⟩,fun T=>(am (au (ak (ac rfl (ac rfl rfl)) L))).trans (skip (cP (ay (aW rfl rfl) rfl) rfl q))⟩
 obtain ⟨u,⟨r,I,hu3,hu4⟩,t1⟩:=s1;have M:∃ v,(iy W v/\2<=v.h/\v.h<=max (hF f) 3+1/\v.n<=nF f+5)/\∀ T:FS,ap X9 T (Bu xs W (pe f) (θ (.int x)) (θ (Cn.d u)))=T (Bu xs W (Cn.d v) (θ (.int x)) (θ (Cn.d u))):=by
  cases f with
  | none=>exact ⟨u,⟨r,I,by lia,by lia⟩,fun T=>am ((aN (aO (ag rfl rfl rfl))).trans (au rfl))⟩
  | some c =>
   have q0:aX (ao isD (ae 2) (vC .non)) (Bu xs W (Cn.d c) (θ (.int x)) (θ (Cn.d u)))=.ok η:=aO (ag rfl rfl (wF (θ c)));have hc:2<=c.h:=g.2;by_cases q1:x/11 % 5=0
   .exact ⟨.or c u,⟨⟨g.1,r⟩,by show 2<=max c.h u.h+1;lia,by show max c.h u.h+1<=max c.h 3+1;lia,by show c.n+u.n+1<=c.n+5;lia⟩,fun T=>am ((b9 q0).trans ((aN (dM (ay (aW rfl rfl) rfl) rfl q1)).trans (au (ba (ac rfl (ac rfl (ac rfl rfl)))))))⟩
   .by_cases q2:x/11 % 5=1
    .exact ⟨.and u c,⟨⟨r,g.1⟩,by show 2<=max u.h c.h+1;lia,by show max u.h c.h+1<=max c.h 3+1;lia,by show u.n+c.n+1<=c.n+5;lia⟩,fun T=>am ((b9 q0).trans ((b9 (cP (ay (aW rfl rfl) rfl) rfl q1)).trans ((aN (dM (ay (aW rfl rfl) rfl) rfl q2)).trans (au (ba (ac rfl (ac rfl (ac rfl rfl))))))))⟩
    .by_cases q3:x/11 % 5=2
     .exact ⟨.or u c,⟨⟨r,g.1⟩,by show 2<=max u.h c.h+1;lia,by show max u.h c.h+1<=max c.h 3+1;lia,by show u.n+c.n+1<=c.n+5;lia⟩,fun T=>am ((b9 q0).trans ((b9 (cP (ay (aW rfl rfl) rfl) rfl q1)).trans ((b9 (cP (ay (aW rfl rfl) rfl) rfl q2)).trans ((aN (dM (ay (aW rfl rfl) rfl) rfl q3)).trans (au (ba (ac rfl (ac rfl (ac rfl rfl)))))))))⟩
     .exact ⟨.and c u,⟨⟨g.1,r⟩,by show 2<=max c.h u.h+1;lia,by show max c.h u.h+1<=max c.h 3+1;lia,by show c.n+u.n+1<=c.n+5;lia⟩,fun T=>am ((b9 q0).trans ((b9 (cP (ay (aW rfl rfl) rfl) rfl q1)).trans ((b9 (cP (ay (aW rfl rfl) rfl) rfl q2)).trans ((b9 (cP (ay (aW rfl rfl) rfl) rfl q3)).trans (au (ba (ac rfl (ac rfl (ac rfl rfl)))))))))⟩
 obtain ⟨v,⟨hv,C,hv3,Y⟩,t2⟩:=M;by_cases q:x/17 % 7=0
 .exact ⟨.neg v,θ u.d,(t1 _).trans ((t2 _).trans ((aN (dM (ay (aW rfl rfl) rfl) rfl q)).trans rfl)),⟨hv,by show 2<=v.h+1;lia⟩,by show v.h+1<=_;lia,by show v.n+1<=_;lia⟩
 .exact ⟨v,u.d,(t1 _).trans ((t2 _).trans ((b9 (cP rfl rfl q)).trans rfl)),⟨hv,C⟩,by lia,by lia⟩
end
def M4 (x:Int):Prop:=0<=x/\x < 2147483647
section
variable (hW:WOk W)
include hW
theorem Ba:∀ (l:List Int) (f:Option Cn) (o3 o4:Option D),(∀ x∈l,M4 x)->Cd W f->∃ u v g,cG (.one 3) CB (l.map D.int) (Bu xs W (pe f) o3 o4)=.ok (.nx (Bu xs W (pe u) v g))/\Cd W u/\(max (hF u) 3<=max (hF f) 3+2*l.length/\nF u<=nF f+6*l.length)/\((f.isSome=ζ\/l≠[])->u.isSome=ζ)
 | [],f,o3,o4,_,hf=>⟨f,o3,o4,rfl,hf,⟨by simp,by simp⟩,fun h=>h.elim id fun h=>absurd rfl h⟩
 | x::r,f,o3,o4,hx,hf=>by
  obtain ⟨c,g,t,C,L,M⟩:=Kt hW (hx x (by simp)).1 (hx x (by simp)).2 f hf o4;obtain ⟨u,p3,I,e,h1,⟨h2,J⟩,z⟩:=Ba r (c) (θ (.int x)) g (fun y hy=>hx y (lT _ hy)) C;refine ⟨u,p3,I,?_,h1,?_,fun _=>z (.inl rfl)⟩
  .have t2  := t;rw [YB,bU t2];exact e
  .have:hF (c)=c.h:=rfl
   have n:nF (c)=c.n:=rfl
   grind
theorem jT (r:∀ x∈l,M4 x) (hn:l.length<=100):∃ f,fK [.lst (l.map D.int),wD W]=.ok (pe f)/\Cd W f/\(hF f<=3+2*l.length/\nF f<=6*l.length)/\(l≠[]->f.isSome=ζ):=by
 obtain ⟨f,o3,o4,e,h1,h2,g⟩:=Ba hW l ξ ξ ξ r Y6;refine ⟨f,?_,h1,by have:hF ξ=2:=rfl;have n:nF ξ=0:=rfl;lia,fun h=>g (.inr h)⟩;exact aq (((am (e)).trans rfl))
theorem Hx {l:List Int} (z:∀ x∈l,M4 x) (hn:l.length<=20):∃ f,lI [.lst (l.map D.int),wD W]=.ok (pe f)/\Cd W f/\hF f<=45/\nF f<=121:=by
 rw [yN,je];have J:∀ {v o3:Option D},vU [θ (.lst (l.map D.int)),θ (wD W),v,o3]=.ok (.int (l.length:Int)):=cz rfl (jz _ _);have e2:(l.length:Int)/2=((l.length/2:Nat):Int):=by lia
 have C:∀ T:FS,ap (aJ 2 (ao cp vU (vC (.int 2)))) T [θ (.lst (l.map D.int)),θ (wD W),ξ,ξ]=T [θ (.lst (l.map D.int)),θ (wD W),θ (.int ((l.length/2:Nat):Int)),ξ]:=fun T=>am (au ((aW J rfl).trans (by rw [e2])));have L:Sz [θ (.lst (l.map D.int)),θ (wD W),θ (.int ((l.length/2:Nat):Int)),ξ]=.ok η->∃ f,fin (V2 [θ (.lst (l.map D.int)),θ (wD W),ξ,ξ])=.ok (pe f)/\Cd W f/\hF f<=45/\nF f<=121:=fun q=>by
  obtain ⟨f,e,h1,h2,_⟩:=jT hW z (by lia);exact ⟨f,aq ((C _).trans ((skip q).trans (av (ak (ac rfl (ac rfl rfl)) e)))),h1,by lia,by lia⟩
 have q1:aX (ao x5 vU (vC (.int 3))) [θ (.lst (l.map D.int)),θ (wD W),θ (.int ((l.length/2:Nat):Int)),ξ]=.ok (decide ((3:Int) < (l.length:Int))):=aO (ag J rfl yM);by_cases Z:(3:Int) < (l.length:Int)
 .have q1:=q1.trans (by rw [adX Z]);by_cases M:l.getD 0 0 % 3=0
  .obtain ⟨f1,u,g1,k1,n1⟩:=jT hW (l:=l.take (l.length/2)) (fun x g=>z x (ZU g)) (by simp;lia);obtain ⟨f2,r,g2,k2,n2⟩:=jT hW (l:=l.drop (l.length/2)) (fun x g=>z x (aaw g)) (by simp;lia);have l1:(l.take (l.length/2)).length=l.length/2:=by simp;lia
   have l2:(l.drop (l.length/2)).length=l.length - l.length/2:=by simp
   have n1:=n1 (fun h=>by rw [h] at l1;simp at l1;lia);have n2:=n2 (fun h=>by rw [h] at l2;simp at l2;lia);rw [l1] at k1;rw [l2] at k2
   match f1,n1,u,g1,k1,f2,n2,r,g2,k2 with
   | some a,_,u,g1,k1,θ b,_,r,g2,k2 =>
    have k3:a.n<=6*(l.length/2):=k1.2;have k4:b.n<=6*(l.length - l.length/2):=k2.2;have k1:a.h<=3+2*(l.length/2):=k1.1;have k2:b.h<=3+2*(l.length - l.length/2):=k2.1;have Y:gT (l.map D.int) ξ (θ ((l.length/2:Nat):Int))=(l.take (l.length/2)).map D.int:=by rw [wv (by lia),YZ,List.map_take]
    have dk:gT (l.map D.int) (θ ((l.length/2:Nat):Int)) ξ=(l.drop (l.length/2)).map D.int:=by rw [ui,adl]
    have two:∀ (w:Str) (c:Cn),Cn.d c=.tup [.str w,a.d,b.d]->(aV (.lst [.str "and",.str "or"]) (.int (l.getD 0 0/3 % 2))=.ok (.str w))->fin (V2 [θ (.lst (l.map D.int)),θ (wD W),ξ,ξ])=.ok (Cn.d c):=fun w c ec ew=>by
     rw [ec];have I:∀ {v o3:Option D},nX [θ (.lst (l.map D.int)),θ (wD W),v,o3]=.ok (.int (l.getD 0 0)):=ag rfl rfl (cH (i:=0) (by lia));exact aq ((C _).trans (a8 ((aN (gm q1 (dM (ay I rfl) rfl M))).trans ((am (au (ag (bg (ac rfl (ac rfl rfl))) (ay (aW I rfl) rfl) ew))).trans (av (ba (ac rfl (ac (ak (ac (de rfl rfl (bh rfl) (we.trans (by rw [Y]))) (ac rfl rfl)) u) (ac (ak (ac (de rfl (bh rfl) rfl (we.trans (by rw [dk]))) (ac rfl rfl)) r) rfl)))))))))
    have:l.getD 0 0/3 % 2=0\/l.getD 0 0/3 % 2=1:=by lia
    rcases this with e|e
    .exact ⟨θ (.and a b),two "and" (.and a b) rfl (by rw [e];rfl),⟨⟨g1.1,g2.1⟩,by have:=g1.2;show 2<=max a.h b.h+1;lia⟩,by show max a.h b.h+1<=45;lia,by show a.n+b.n+1<=121;lia⟩
    .exact ⟨θ (.or a b),two "or" (.or a b) rfl (by rw [e];rfl),⟨⟨g1.1,g2.1⟩,by have:=g1.2;show 2<=max a.h b.h+1;lia⟩,by show max a.h b.h+1<=45;lia,by show a.n+b.n+1<=121;lia⟩
  .exact L (gm q1 (cP (ay ((cH (i:=0) (by lia))) rfl) rfl M))
 .exact L (kU (q1.trans (by simp_all)))
end
theorem ur {zs:List Int} (h1:a<=b) (h2:b<=zs.length):jH (.lst (zs.map D.int)) (θ (a:Int)) (θ (b:Int))=.ok (.lst (((zs.drop a).take (b - a)).map D.int)):=by
 rw [we,BQ (by lia) (by lia) (by simp_all),YZ,YZ,List.map_take,adl]
def oz (q:Tq):ad1:=q.cs.map Prod.snd
theorem VI {g:List Tq} (v:1<=g.length) (h1:g.length<=3) (h:∀ q∈g,QOk q):WOk (g.map oz):=⟨by simp_all,by simp_all,fun r hr=>by
 obtain ⟨q,hq,rfl⟩:=Do.mp hr;have s:=(h q hq).sh;refine ⟨by unfold oz;rw [iN];exact s.l0,by unfold oz;rw [iN];exact s.l1,fun z hz=>?_⟩;obtain ⟨c,u,rfl⟩:=Do.mp hz;exact (s.c c u).2⟩
def CH (qs:List Tq) (q0:Tq) (x:Int):Tq:=qs.getD (x/7 % (qs.length:Int)).toNat q0
theorem Bb (h:0 < qs.length) (x:Int):qs[(x/7 % (qs.length:Int)).toNat]?=θ (CH qs q0 x)/\CH qs q0 x∈qs:=by
 obtain ⟨p,e,r⟩:=im (x/7) h;have g:qs[(x/7 % qs.length).toNat]?=(CH qs q0 x):=by
  unfold CH;simp_all
 exact ⟨g,YO g⟩
abbrev nH (c:Int) (qs:List Tq) (mo:Int) (zs:List Int) (o4 o5 o6 o7 o8 o9 o10 o11 C1:Option D):Sd:=[θ (.int c),θ (.lst (qs.map jQ)),θ (.int mo),θ (.lst (zs.map D.int)),o4,o5,o6,o7,o8,o9,o10,o11,C1]
section
variable {zs:List Int} (hz:zs.length=24) (hr:∀ x∈zs,M4 x)
include hz
theorem kN {i:Nat} (h:i < 24):ao aV (ae 3) (vC (.int (i:Int))) (nH c qs mo zs o4 o5 o6 o7 o8 o9 o10 o11 C1)=.ok (.int (zs.getD i 0)):=(cH (by lia))
theorem RF (h1:1<=m) (v:m<=3) (g:zs.getD 0 0 % mo=((m - 1:Nat):Int)) (hm:0 < mo) (hq:0 < qs.length) (T:FS):ap Qk T (nH c qs mo zs ξ ξ ξ ξ ξ ξ ξ ξ ξ)=T (nH c qs mo zs (θ (.lst ((((zs.drop 1).take m).map (CH qs q0)).map jQ))) ξ ξ ξ ξ ξ ξ ξ ξ):=by
 refine am (au ?_);rw [Y5];have r:(2:Int)+((m - 1:Nat))=((m+1:Nat)):=by lia
 refine bF (eX (de rfl rfl (bh ((bE rfl (ay (kN hz (by decide)) rfl hm)).trans (by rw [g,r]))) (ur (a:=1) (by lia) (by lia))) rfl) ?_;refine eU D.int _ _ (fun x u=>?_) (by simp;lia);obtain ⟨p,e,z⟩:=im (x/7) hq;have pk:=(Bb (q0:=q0) hq x).1;rw [e] at pk;exact ag rfl (ay rfl ((jz _ _)) (by lia)) (by rw [e];exact lF _ _ pk)
omit hz in
theorem OX {g:List Tq} (hs:∀ q∈g,QOk q) (r:g.length<=3) (T:FS):ap QC T (nH c qs mo zs (θ (.lst (g.map jQ))) ξ ξ ξ ξ ξ ξ ξ ξ)=T (nH c qs mo zs (θ (.lst (g.map jQ))) (θ (wD (g.map oz))) ξ ξ ξ ξ ξ ξ ξ):=by
 refine am (au ?_);unfold wD;rw [Y5];refine (eU jQ _ g (fun q hq=>?_) (by lia))
 have:=(hs q hq).sh.l1
 show _=R.ok (D.lst ((oz q).map D.str));unfold oz;rw [Y5];exact (eU e8 _ q.cs (fun c u=>rfl) (by lia))
include hr in
theorem IG:∃ l:List Int,(∀ x∈l,M4 x)/\l.length<=20/\∀ T:FS,ap Kb (ap V4 T) (nH c qs mo zs o4 o5 ξ ξ ξ ξ ξ ξ ξ)=T (nH c qs mo zs o4 o5 (θ (.lst (l.map D.int))) ξ ξ ξ ξ ξ ξ):=by
 obtain ⟨t,C,ht⟩:∃ t:Nat,zs.getD 4 0 % 5=(t:Int)/\t < 5:=⟨(zs.getD 4 0 % 5).toNat,by lia,by lia⟩;have z:(5:Int)+(t:Int)=((5+t:Nat):Int):=by lia
 have u:∀ T:FS,ap Kb T (nH c qs mo zs o4 o5 ξ ξ ξ ξ ξ ξ ξ)=T (nH c qs mo zs o4 o5 (θ (.lst (((zs.drop 5).take (5+t - 5)).map D.int))) ξ ξ ξ ξ ξ ξ):=fun T =>
  am (au (de rfl (bh rfl) (bh ((bE rfl (ay (kN hz (i:=4) (by decide)) rfl)).trans (by rw [C,z]))) (ur (a:=5) (b:=5+t) (by lia) (by lia))))
 have v:Ui (nH c qs mo zs o4 o5 (θ (.lst (((zs.drop 5).take (5+t - 5)).map D.int))) ξ ξ ξ ξ ξ ξ)=.ok η->∃ l:List Int,(∀ x∈l,M4 x)/\l.length<=20/\∀ T:FS,ap Kb (ap V4 T) (nH c qs mo zs o4 o5 ξ ξ ξ ξ ξ ξ ξ)=T (nH c qs mo zs o4 o5 (θ (.lst (l.map D.int))) ξ ξ ξ ξ ξ ξ):=fun q =>
  ⟨(zs.drop 5).take (5+t - 5),fun x r=>hr x (aaw (ZU r)),by simp;lia,fun T=>(u _).trans (skip q)⟩
 by_cases g:mo=1
 .by_cases c2:zs.getD 4 0 % 2=0
  .obtain ⟨n,en,hn⟩:∃ n:Nat,zs.getD 4 0/2 % 20=(n:Int)/\n < 20:=⟨(zs.getD 4 0/2 % 20).toNat,by lia,by lia⟩;refine ⟨pc (c+7) n,fun x r=>pB _ _ _ x r,by unfold pc;rw [gL];lia,fun T=>(u _).trans (am ((aN (gm (dM rfl rfl g) (dM (ay (kN hz (i:=4) (by decide)) rfl) rfl c2))).trans (au (ak (ac (bE rfl rfl) (ac ((ay (aW (kN hz (i:=4) (by decide)) rfl) rfl).trans (by rw [en])) rfl)) (j3 _ n (by lia))))))⟩
  .exact v (gm (dM rfl rfl g) (cP (ay (kN hz (by decide)) rfl) rfl c2))
 .exact v (kU (cP rfl rfl g))
theorem Nc {g:List Tq} (hW:WOk (g.map oz)) (L:Cd (g.map oz) f) (C:hF f<=45/\nF f<=121):∃ I o8,Cd (g.map oz) I/\(hF I<=46/\nF I<=130)/\∀ T:FS,ap SR T (nH c qs mo zs (θ (.lst (g.map jQ))) (θ (wD (g.map oz))) o6 (θ (pe f)) ξ ξ ξ ξ ξ)=T (nH c qs mo zs (θ (.lst (g.map jQ))) (θ (wD (g.map oz))) o6 (θ (pe I)) o8 ξ ξ ξ ξ):=by
 have q1:aX (ao x5 GQ (vC (.int 1))) (nH c qs mo zs (θ (.lst (g.map jQ))) (θ (wD (g.map oz))) o6 (θ (pe f)) ξ ξ ξ ξ ξ)=.ok (decide ((1:Int) < (g.length:Int))):=aO (ag (cz rfl (jz _ _)) rfl yM);by_cases c1:(1:Int) < (g.length:Int)
 .have q1:=q1.trans (by rw [adX c1]);by_cases Y:zs.getD 20 0 % 2=0
  .have w1:1 < (g.map oz).length:=by rw [iN];lia
   have J:0 < (g.map oz).length:=by lia
   have r1:=hW.r _ (YG w1);have r0:=hW.r _ (YG J);obtain ⟨v,e1,h1⟩:=im (zs.getD 21 0) (n:=(g.map oz)[1].length) (by lia);obtain ⟨u,e0,Z⟩:=im (zs.getD 22 0) (n:=(g.map oz)[0].length) (by lia);have k1:iy (g.map oz) (.test "=" (.cel 1 v) (.cel 0 u)):=⟨.inl rfl,⟨_,lE w1,h1⟩,⟨_,lE J,Z⟩⟩;have M:Yv (nH c qs mo zs (θ (.lst (g.map jQ))) (θ (wD (g.map oz))) o6 (θ (pe f)) ξ ξ ξ ξ ξ)=.ok (Cn.d (.test "=" (.cel 1 v) (.cel 0 u))) :=
    ba (ac rfl (ac rfl (ac (ba (ac rfl (ac rfl (ac ((ay (kN hz (i:=21) (by decide)) (cz (ag rfl rfl (lF (i:=1) _ _ (lE w1))) (jz _ _)) (by lia)).trans (by rw [e1])) rfl)))) (ac (ba (ac rfl (ac rfl (ac ((ay (kN hz (i:=22) (by decide)) (cz (ag rfl rfl (lF (i:=0) _ _ (lE J))) (jz _ _)) (by lia)).trans (by rw [e0])) rfl)))) rfl))))
   have z:TQ (nH c qs mo zs (θ (.lst (g.map jQ))) (θ (wD (g.map oz))) o6 (θ (pe f)) ξ ξ ξ ξ ξ)=.ok ζ:=gm q1 (dM (ay (kN hz (i:=20) (by decide)) rfl) rfl Y);cases f with
   | none=>exact ⟨θ (.test "=" (.cel 1 v) (.cel 0 u)),θ (Cn.d (.test "=" (.cel 1 v) (.cel 0 u))),⟨k1,oR _⟩,⟨by show 2<=46;decide,by show 3<=130;decide⟩,fun T=>am ((aN z).trans ((am (au M)).trans (au (ag (bg (ac (ba (ac rfl (ac rfl (ac rfl rfl)))) (ac rfl rfl))) (ak (ac (ag rfl rfl rfl) rfl) GU) rfl))))⟩
   | some d =>
    refine ⟨θ (.and (.test "=" (.cel 1 v) (.cel 0 u)) d),θ (Cn.d (.test "=" (.cel 1 v) (.cel 0 u))),⟨⟨k1,L.1⟩,by show 2<=max 2 d.h+1;lia⟩,⟨by have C:d.h<=45:=C.1;show max 2 d.h+1<=46;lia,by have C:d.n<=121:=C.2;show 3+d.n+1<=130;lia⟩,fun T=>am ((aN z).trans ((am (au M)).trans (au ?_)))⟩;exact ag rfl (ak (ac ((wF (d))) rfl) GU) rfl
  .exact ⟨f,ξ,L,⟨by lia,by lia⟩,fun T=>skip (gm q1 (cP (ay (kN hz (by decide)) rfl) rfl Y))⟩
 .exact ⟨f,ξ,L,⟨by lia,by lia⟩,fun T=>skip (kU (q1.trans (by grind)))⟩
end
def uo (W:Wl) (p:Nat×Nat):Prop:=∃ r,W[p.1]?=θ r/\p.2 < r.length
def ji (p:Nat×Nat):D:=(Sid.cel p.1 p.2).d
theorem OZ (hW:WOk W):∃ g:Int->Nat×Nat,∀ x,fV [.int x,wD W]=.ok (ji (g x))/\uo W (g x) :=
 Classical.skolem (p:=fun x q=>fV [.int x,wD W]=.ok (ji q)/\uo W q) |>.mp fun x=>by
  obtain ⟨k,c,r,e,_,v,u⟩:=ym hW x;exact ⟨(k,c),e,r,v,u⟩
def Py.bl (b:Bool):Py 0 (.bl b):=⟨.bool b,rfl,rfl,oR _⟩
def Py.non:Py 0 .non:=⟨.none,rfl,rfl,oR _⟩
theorem Py.w (h:(z.cps.toList.all fun c=>tab.contains c)=ζ):Py 0 (.str z):=Py.str (EX h)
theorem uK (p:Nat×Nat):Py 1 (ji p):=Vd (Py.w rfl) (Py.int _) (Py.int _)
theorem zq:∀ {s:Sid},gg W s->Py 1 s.d
 | .val v,h=>Py.two (Py.w rfl) (Lc h)
 | .cel k c,h=>uK (k,c)
theorem Q9 (h:Sg z):Py 0 (.str z):=by
 rcases h with rfl|rfl|rfl|rfl|rfl|rfl <;> exact Py.w rfl
theorem mh:∀ {c:Cn},iy W c->Py c.h c.d
 | .test z a b,h=>XE (Py.w (by trivial) |>.mono (YJ _)) ((Q9 h.1).mono (YJ _)) (zq h.2.1) (zq h.2.2)
 | .neg c,h=>Py.two ((Py.w (by trivial)).mono (YJ _)) (mh h)
 | .and a b,h=>Vd ((Py.w rfl).mono (YJ _)) ((mh h.1).mono (Nat.le_max_left _ _)) ((mh h.2).mono (Nat.le_max_right _ _))
 | .or a b,h=>Vd ((Py.w rfl).mono (YJ _)) ((mh h.1).mono (Nat.le_max_left _ _)) ((mh h.2).mono (Nat.le_max_right _ _))
theorem V3:∀ {f:Option Cn},Cd W f->Py (hF f) (pe f)
 | none,_=>Py.non.mono (YJ _)
 | some c,h=>mh h.1
structure Tre where
 ps:List (Tq×Str)
 f:Option Cn
 os:ad8
 c:Nat×Nat
 ts:ad8
 tk:D
noncomputable def Ru (p:Tq×Str):D:=.tup [.str p.1.nm,.str p.2]
def Tre.W (t:Tre):Wl:=t.ps.map fun p=>oz p.1
def Tre.d (t:Tre):D:=.tup [.str "ask",.tup (t.ps.map Ru),pe t.f,.tup t.os,.tup (ji t.c::t.ts),t.tk]
structure TrOk (qs:List Tq) (t:Tre):Prop where
 l0:1<=t.ps.length
 l1:t.ps.length<=3
 q:∀ p∈t.ps,p.1∈qs
 f:Cd t.W t.f
 h:hF t.f<=46
 n:nF t.f<=130
 c:uo t.W t.c
 p:Py 47 t.d
theorem JR:aV (.lst [.int a,.int a,.int a,.int b]) (.int (i % 4))=.ok (.int (if i % 4=3 then b else a)):=by
 have:i % 4=0\/i % 4=1\/i % 4=2\/i % 4=3:=by lia
 rcases this with e|e|e|e <;> rw [e] <;> rfl
def abc:Str:=DO "abc"
theorem O0 {k:Nat} (h:k < 3):atI abc.cps.toList (k:Int)=θ (97+k):=by
 have:k=0\/k=1\/k=2:=by lia
 rcases this with rfl|rfl|rfl <;> decide +kernel
def qX (q:Tq) (k:Nat):Str:=mF q.nm ξ (θ 1)++⟨#[97+k]⟩
theorem FL (h:NmOk q.nm) (r:k < 3):DN (qX q k):=fun c g=>by
 unfold qX at g;rw [gJ,xb] at g;rcases g with g|g
 .exact xR h c ((by
    unfold mF at g;exact aaw (ZU (by simpa using g))))
 .have:k=0\/k=1\/k=2:=by lia
  have e  := by simpa using g
  rw [e];rcases this with rfl|rfl|rfl <;> decide +kernel
section
variable {zs:List Int} (hz:zs.length=24)
include hz
theorem Gf {g:Int->Nat×Nat} (hg:∀ x,fV [.int x,wD W]=.ok (ji (g x))/\uo W (g x)):∃ os:ad8,(∀ d∈os,Py 2 d)/\∀ T:FS,ap XF T (nH c qs mo zs o4 (θ (wD W)) o6 o7 o8 ξ ξ ξ ξ)=T (nH c qs mo zs o4 (θ (wD W)) o6 o7 o8 (θ (.tup os)) ξ ξ ξ):=by
 obtain ⟨t,v,ht⟩:∃ t:Nat,zs.getD 10 0 % (if zs.getD 10 0/9 % 4=3 then 9 else 3)=(t:Int)/\t < 9:=by
  split
  .exact ⟨(zs.getD 10 0 % 9).toNat,by lia,by lia⟩
  .exact ⟨(zs.getD 10 0 % 3).toNat,by lia,by lia⟩
 have u:(11:Int)+(t:Int)=((11+t:Nat):Int):=by lia
 refine ⟨((zs.drop 11).take (11+t - 11)).map fun x=>.tup [ji (g x),.bl (decide (x/64 % 2=1))],fun d r=>?_,fun T=>am (au (ak (ac (bF (eX (de rfl (bh rfl) (bh ((bE rfl (ay (kN hz (i:=10) (by decide)) (ag rfl (ay (aW (kN hz (by decide)) rfl) rfl) JR) (by split <;> lia))).trans (by rw [v,u]))) (ur (a:=11) (by lia) (by lia))) rfl) (eU D.int _ _ (fun x _=>ba (ac ((hg x).1) (ac (kW) rfl))) (by simp;lia))) rfl) on))⟩;obtain ⟨x,_,rfl⟩:=Do.mp r;exact Py.two (uK _) ((Py.bl _).mono (YJ _))
theorem MX {g:Int->Nat×Nat} (hg:∀ x,fV [.int x,wD W]=.ok (ji (g x))/\uo W (g x)):∃ (p:Nat×Nat) (ts:ad8),uo W p/\(∀ d∈ts,Py 1 d)/\∀ T:FS,ap WZ T (nH c qs mo zs o4 (θ (wD W)) o6 o7 o8 o9 ξ ξ ξ)=T (nH c qs mo zs o4 (θ (wD W)) o6 o7 o8 o9 (θ (.tup (ji p::ts))) ξ ξ):=by
 obtain ⟨t,C,ht⟩:∃ t:Nat,zs.getD 13 0 % (if zs.getD 13 0/24 % 4=3 then 8 else 3)=(t:Int)/\t < 8:=by
  split
  .exact ⟨(zs.getD 13 0 % 8).toNat,by lia,by lia⟩
  .exact ⟨(zs.getD 13 0 % 3).toNat,by lia,by lia⟩
 have z:(15:Int)+(t:Int)=((15+t:Nat):Int):=by lia
 have u:∀ T:FS,ap WZ T (nH c qs mo zs o4 (θ (wD W)) o6 o7 o8 o9 ξ ξ ξ)=T (nH c qs mo zs o4 (θ (wD W)) o6 o7 o8 o9 (θ (.tup (((zs.drop 14).take (15+t - 14)).map fun x=>ji (g x)))) ξ ξ):=fun T=>am (au (ak (ac (bF (eX (de rfl (bh rfl) (bh ((bE rfl (ay (kN hz (i:=13) (by decide)) (ag (bg (ac rfl (ac rfl (ac rfl (ac rfl rfl))))) (ay (aW (kN hz (i:=13) (by decide)) rfl) rfl) JR) (by split <;> lia))).trans (by rw [C,z]))) (ur (a:=14) (by lia) (by lia))) rfl) (eU D.int _ _ (fun x _=>(hg x).1) (by simp;lia))) rfl) on));have I:((zs.drop 14).take (15+t - 14)).length=t+1:=by simp;lia
 match e:(zs.drop 14).take (15+t - 14),I with
 | x::r,_ =>
  rw [e] at u;refine ⟨g x,r.map fun x=>ji (g x),(hg x).2,fun d v=>?_,u⟩;obtain ⟨y,_,rfl⟩:=Do.mp v;exact uK _
theorem N4:∃ tk:D,Py 0 tk/\∀ T:FS,ap Ud T (nH c qs mo zs o4 o5 o6 o7 o8 o9 o10 ξ ξ)=T (nH c qs mo zs o4 o5 o6 o7 o8 o9 o10 (θ tk) ξ):=by
 have key:∃ tk:D,Py 0 tk/\aV (.lst [.non,.non,.int (zs.getD 19 0 % 4),.int (zs.getD 19 0 % 40)]) (.int (zs.getD 18 0 % 4))=.ok tk:=by
  have:zs.getD 18 0 % 4=0\/zs.getD 18 0 % 4=1\/zs.getD 18 0 % 4=2\/zs.getD 18 0 % 4=3:=by lia
  rcases this with e|e|e|e <;> rw [e]
  .exact ⟨_,Py.non,rfl⟩
  .exact ⟨_,Py.non,rfl⟩
  .exact ⟨_,Py.int _,rfl⟩
  .exact ⟨_,Py.int _,rfl⟩
 obtain ⟨tk,h,e⟩:=key;exact ⟨tk,h,fun T=>am (au (ag (bg (ac rfl (ac rfl (ac (ay (kN hz (by decide)) rfl) (ac (ay (kN hz (by decide)) rfl) rfl))))) (ay (kN hz (by decide)) rfl) e))⟩
omit hz in
theorem Ks {g:List Tq} (hs:∀ q∈g,QOk q) (v:g.length<=3) (T:FS):ap QK T (nH c qs mo zs (θ (.lst (g.map jQ))) o5 o6 o7 o8 o9 o10 o11 ξ)=T (nH c qs mo zs (θ (.lst (g.map jQ))) o5 o6 o7 o8 o9 o10 o11 (θ (.tup (((YV g.length).map fun k=>(g.getD k q0,qX (g.getD k q0) k)).map Ru)))):=by
 refine am (au (ak (ac (bF (jk (n:=g.length) (cz rfl (jz _ _)) (by lia)) ?_) rfl) on));rw [mG,Y5];refine eU _ _ _ (fun k u=>?_) (by grind);have u:=Y8.mp u;have e:g[k]?=(g.getD k q0):=by grind
 have n:=(hs _ (YO e)).sh.n.l1;have l1:=pK (g.getD k q0).nm ξ (θ 1);have nm:∀ (r:Sd),ao aV Ff (vC (.int 0)) (θ (.int k)::θ (.lst (g.map jQ))::r)=.ok (.str (g.getD k q0).nm):=fun r=>ag ((lF _ _ e)) rfl bW;exact ba (ac (nm _) (ac (ag (de (nm _) rfl rfl ((adU (by lia)))) ((Ju (by trivial) (O0 (by lia)))) ((adU (by have:(⟨#[97+k]⟩:Str).length=1:=rfl;lia)))) rfl))
end
theorem Pq (c:Int) (hq:∀ q∈qs,QOk q) (Y:0 < qs.length) {mo:Nat} (hm:1<=mo/\mo<=3):∃ t:Tre,mT [.int c,.lst (qs.map jQ),.int (mo:Int)]=.ok t.d/\TrOk qs t:=by
 have hz:(pc c 24).length=24:=gL _ _ _;have hr:∀ x∈pc c 24,M4 x:=fun x hx=>pB _ _ _ x hx;obtain ⟨m,em,hm1⟩:=im ((pc c 24).getD 0 0) (n:=mo) (by lia);obtain ⟨q0,hq0⟩:∃ q0,q0∈qs:=⟨_,YG Y⟩;have t4:=fun T=>RF (mo:=(mo:Int)) (c:=c) (qs:=qs) hz (q0:=q0) (m:=m+1) (by lia) (by lia) (by rw [em,Nat.add_sub_cancel]) (by lia) Y T;generalize es:((pc c 24).drop 1 |>.take (m+1)).map (CH qs q0)=src at t4
 have hs:∀ q∈src,q∈qs:=fun q h=>by
  rw [<- es] at h;obtain ⟨x,_,rfl⟩:=Do.mp h;exact (Bb Y x).2
 have hsl:src.length=m+1:=by rw [<- es,iN,Zx,aaK,hz];lia
 have C:∀ q∈src,QOk q:=fun q h=>hq q (hs q h);have hW:=VI (by lia) (by lia) C;have t5:=fun T=>OX (c:=c) (mo:=(mo:Int)) (qs:=qs) (zs:=pc c 24) C (by lia) T;obtain ⟨l,hl1,hl2,t6⟩:=IG (c:=c) (mo:=(mo:Int)) (qs:=qs) hz hr (o4:=θ (.lst (src.map jQ))) (o5:=θ (wD (src.map oz)));obtain ⟨f,ef,hf,hh⟩:=Hx hW hl1 hl2;obtain ⟨L,o8,u,v,t7⟩:=Nc (c:=c) (mo:=(mo:Int)) (qs:=qs) hz (o6:=θ (.lst (l.map D.int))) hW hf hh;obtain ⟨g,hg⟩:=OZ hW;obtain ⟨os,ho2,t9⟩:=Gf (c:=c) (mo:=(mo:Int)) (qs:=qs) hz hg (o4:=θ (.lst (src.map jQ))) (o6:=θ (.lst (l.map D.int))) (o7:=θ (pe L)) (o8:=o8);obtain ⟨p,ts,z,Z,t10⟩:=MX (c:=c) (mo:=(mo:Int)) (qs:=qs) hz hg (o4:=θ (.lst (src.map jQ))) (o6:=θ (.lst (l.map D.int))) (o7:=θ (pe L)) (o8:=o8) (o9:=θ (.tup os));obtain ⟨tk,htk,t11⟩:=N4 (c:=c) (mo:=(mo:Int)) (qs:=qs) hz (o4:=θ (.lst (src.map jQ))) (o5:=θ (wD (src.map oz))) (o6:=θ (.lst (l.map D.int))) (o7:=θ (pe L)) (o8:=o8) (o9:=θ (.tup os)) (o10:=θ (.tup (ji p::ts)));have J:=fun T=>Ks (c:=c) (mo:=(mo:Int)) (qs:=qs) (zs:=pc c 24) (q0:=q0) C (by lia) (o5:=θ (wD (src.map oz))) (o6:=θ (.lst (l.map D.int))) (o7:=θ (pe L)) (o8:=o8) (o9:=θ (.tup os)) (o10:=θ (.tup (ji p::ts))) (o11:=θ tk) T;have fst:((YV src.length).map fun k=>(src.getD k q0,qX (src.getD k q0) k)).map YD=src:=by rw [Y5];exact (by
   refine adw fun k=>?_;rcases abI k src.length with h|h
   .simp_all
   simp_all)
 have snd:∀ p∈(YV src.length).map fun k=>(src.getD k q0,qX (src.getD k q0) k),p.1∈src/\DN p.2:=fun p z=>by
  obtain ⟨k,M,rfl⟩:=Do.mp z;have M:=Y8.mp M;have e:src.getD k q0∈src:=by rw [Ze,lE M];exact YG M
  exact ⟨e,FL (C _ e).sh.n (by lia)⟩
 have I:((YV src.length).map fun k=>(src.getD k q0,qX (src.getD k q0) k)).length=src.length:=by rw [iN,Y7]
 generalize ((YV src.length).map fun k=>(src.getD k q0,qX (src.getD k q0) k))=ps at fst snd J I;have eW:src.map oz=ps.map fun p=>oz p.1:=by rw [<- fst,Y5];rfl
 rw [eW] at z u;refine ⟨⟨ps,L,os,p,ts,tk⟩,?_,(by lia:1<=ps.length),(by lia:ps.length<=3),fun p h=>hs _ (snd p h).1,u,v.1,v.2,z,?_⟩
 .rw [DR,mC];exact aq ((am (au (ak (ac rfl (ac rfl rfl)) (j3 c 24 (by decide))))).trans ((t4 _).trans ((t5 _).trans ((t6 _).trans ((am (au (ak (ac rfl (ac rfl rfl)) ef))).trans ((t7 _).trans ((t9 _).trans ((t10 _).trans ((t11 _).trans ((J _).trans (av (ba (ac rfl (ac rfl (ac rfl (ac rfl (ac rfl (ac rfl rfl))))))))))))))))))
 .refine Py.tup fun d r=>?_;simp at r;rcases r with rfl|rfl|rfl|rfl|rfl|rfl
  .exact (Py.w (by trivial)).mono (by lia)
  .refine (Py.tup (k:=1) fun d r=>?_).mono (by lia);obtain ⟨p,z,rfl⟩:=Do.mp r;exact Py.two (Py.str (xR (C _ (snd p z).1).sh.n)) (Py.str (snd p z).2)
  .exact (V3 u).mono v.1
  .exact (Py.tup ho2).mono (by lia)
  .refine (Py.tup (k:=1) fun d r=>?_).mono (by lia);rcases mK.mp r with rfl|r
   .exact uK p
   .exact Z d r
  .exact htk.mono (by lia)
def Cn.w:Cn->Str
 | .test _ _ _=>"test"
 | .neg _=>"not"
 | .and _ _=>"and"
 | .or _ _=>"or"
theorem nu (c:Cn):aV c.d (.int 0)=.ok (.str c.w):=by cases c <;> exact bW
theorem D0 (c:Cn):1<=c.n:=by cases c <;> simp [Cn.n]
theorem gn (c:Cn):1<=c.h:=by cases c <;> simp [Cn.h]
theorem vp (c:Cn) {r:Sd}:aX vo (θ c.d::r)=.ok η:=aO ((wF (c)))
theorem Fn (c:Cn) {r:Sd}:aX (ao bG nX (vC (.str z))) (θ c.d::r)=.ok (decide (c.w=z)):=qE ((nu c)) rfl
def Cn.parts:Cn->List Cn
 | .and a b=>a.parts++b.parts
 | c=>[c]
theorem ky:∀ c:Cn,c.parts.length<=c.n
 | .test _ _ _=>by show 1<=3;decide
 | .neg c=>by show 1<=c.n+1;lia
 | .and a b=>by
  have:=ky a
  have:=ky b
  show (a.parts++b.parts).length<=a.n+b.n+1
  grind
 | .or a b=>by show 1<=a.n+b.n+1;lia
theorem wt (h:n<=m) (h1:1<=n):∃ k,m=k+1:=⟨m - 1,by lia⟩
theorem Tl {c:Cn} (hw:¬ c.w="and") (g:c.parts=[c]):bz (n+1) [c.d]=.ok (.lst (c.parts.map Cn.d)):=by
 rw [g];exact aq ((skip (vp c)).trans ((skip ((Fn c).trans (by simp_all))).trans rfl))
theorem uJ:∀ (c:Cn) (n:Nat),c.h<=n->c.n<=1000->bz n [c.d]=.ok (.lst (c.parts.map Cn.d))
 | .test z a b,n,h,_=>by
  obtain ⟨m,rfl⟩:=wt h (gn _);exact Tl (by show ¬ (DO "test")="and";decide +kernel) rfl
 | .neg c,n,h,_=>by
  obtain ⟨m,rfl⟩:=wt h (gn _);rfl
 | .or a b,n,h,_=>by
  obtain ⟨m,rfl⟩:=wt h (gn _);rfl
 | .and a b,n,h,hn=>by
  obtain ⟨m,rfl⟩:=wt h (gn _);have h:max a.h b.h+1<=m+1:=h;have hn:a.n+b.n+1<=1000:=hn;have g:=uJ a m (by lia) (by lia);have r:=uJ b m (by lia) (by lia);have u:=ky a;have v:=ky b;exact aq ((skip rfl).trans (a8 ((av (ag (g) (r) (((adU (by grind)).trans (by rw [<- YK];rfl))))))))
def fP:Option Cn->List Cn
 | none=>[]
 | some c=>c.parts
theorem Jh (h:hF f<=46) (hn:nF f<=130):bf [pe f]=.ok (.lst ((fP f).map Cn.d)):=by
 cases f with
 | none =>
  rfl
 | some c=>exact uJ c 100 (by have h:c.h<=46:=h;lia) (by have hn:c.n<=130:=hn;lia)
abbrev PT:FT:=Pw
abbrev Yx:FS:=TM
def Gh:List Cn->Nat
 | []=>0
 | c::r=>c.n+Gh r
theorem HB:∀ l:List Cn,l.length<=Gh l
 | []=>oR _
 | c::r=>by
  have:=HB r
  have:=D0 c
  show r.length+1<=c.n+Gh r;lia
def Iq:List Cn->List Cn
 | []=>[]
 | c::r=>c.parts++Iq r
section
theorem vz {a:Option D}:∀ (m:Nat) (l fo:List Cn) (o3:Option D),Gh l < m->fo.length+Gh l < 1000->(∀ c∈l,iy W c/\c.h<=46)->∃ g,b5 PT Yx m [a,θ (.lst (l.map Cn.d)),θ (.lst (fo.map Cn.d)),o3]=.ok (.nx [a,θ (.lst []),θ (.lst ((fo++Iq l).map Cn.d)),g])
 | 0,l,fo,o3,h,_,_=>absurd h (aaU _)
 | m+1,[],fo,o3,_,_,_=>⟨o3,by rw [wW (aO (ag rfl (bg rfl) rfl))];simp [Iq]⟩
 | m+1,c::r,fo,o3,h,v,hc=>by
  have q:∀ {o3:Option D},PT [a,θ (.lst ((c::r).map Cn.d)),θ (.lst (fo.map Cn.d)),o3]=.ok ζ:=fun {o3}=>aO (ag rfl (bg rfl) ((Py.nil (k:=46) (fun d M=>by
   obtain ⟨e,u,rfl⟩:=Do.mp M;exact (mh (hc e u).1).mono (hc e u).2) (by lia)).trans (by rw [adX (by rw [iN];simp)])))
  have h:c.n+Gh r < m+1:=h;have v:fo.length+(c.n+Gh r) < 1000:=v;have c1:=D0 c;have Z:∀ {L J:Option D} {z:Str},aX (ao bG sx (vC (.str z))) [a,L,J,θ c.d]=.ok (decide (c.w=z)):=fun {L J z}=>qE (ag rfl rfl (nu c)) rfl;have I:∀ T:FS,(ap (aJ 3 zV) (ap Lr T)) [a,θ (.lst ((c::r).map Cn.d)),θ (.lst (fo.map Cn.d)),o3]=T [a,θ (.lst (r.map Cn.d)),θ (.lst (fo.map Cn.d)),θ c.d]:=fun T =>
   (am (au (ag rfl rfl (lF (i:=0) Cn.d (c::r) rfl)))).trans (am (au (de rfl (bh rfl) rfl (by
     rw [we,show (1:Int)=((1:Nat)) from rfl,ui];rfl))))
  have one:¬ c.w="and"->c.parts=[c]->∃ g,b5 PT Yx (m+1) [a,θ (.lst ((c::r).map Cn.d)),θ (.lst (fo.map Cn.d)),o3]=.ok (.nx [a,θ (.lst []),θ (.lst ((fo++Iq (c::r)).map Cn.d)),g]):=fun hw Y=>by
   obtain ⟨g,e⟩:=vz (a:=a) m r (fo++[c]) (θ c.d) (by lia) (by rw [YE];simp;lia) fun e u=>hc e (lT _ u);refine ⟨g,?_⟩;refine (nI q ((I _).trans ((b9 (Z.trans (by rw [adW hw]))).trans (iC rfl rfl (by rw [iN];lia))))).trans ?_
   have:Iq (c::r)=[c]++Iq r:=by show c.parts++_=_;rw [Y]
   rw [this,<- ZM,<- e,YK];rfl
  cases c with
  | test z x y=>exact one (by show ¬ (DO "test")="and";decide +kernel) rfl
  | neg x=>exact one (by show ¬ (DO "not")="and";decide +kernel) rfl
  | or x y=>exact one (by show ¬ (DO "or")="and";decide +kernel) rfl
  | and x y =>
   have h:x.n+y.n+1+Gh r < m+1:=h;have v:fo.length+(x.n+y.n+1+Gh r) < 1000:=v;have C:=hc (.and x y) (by simp);have hh:max x.h y.h+1<=46:=C.2;have lr:=HB r;obtain ⟨g,e⟩:=vz (a:=a) m (x::y::r) fo (θ (Cn.d (.and x y))) (by show x.n+(y.n+Gh r) < m;lia) (by show fo.length+(x.n+(y.n+Gh r)) < 1000;lia) fun e u=>by
    rcases mK.mp u with rfl|u
    .exact ⟨C.1.1,by lia⟩
    .rcases mK.mp u with rfl|u
     .exact ⟨C.1.2,by lia⟩
     .exact hc e (lT _ u)
   refine ⟨g,?_⟩;refine (nI q ((I _).trans ((aN rfl).trans (au (((adU (by grind)))))))).trans ?_
   have:Iq (.and x y::r)=Iq (x::y::r):=by show (x.parts++y.parts)++Iq r=x.parts++(y.parts++Iq r);rw [ZM]
   rw [this,<- e];rfl
theorem Kw (g:Cd W f) (h:hF f<=46) (hn:nF f<=130):sP [pe f]=.ok (.lst ((fP f).map Cn.d)):=by
 cases f with
 | none=>rfl
 | some c =>
  have hn:c.n<=130:=hn;obtain ⟨o3,e⟩:=vz 1000 [c] [] ξ (by show c.n+0 < 1000;lia) (by show 0+(c.n+0) < 1000;lia) fun e r=>by
   rw [OR.mp r];exact ⟨g.1,h⟩
  refine aq ((skip (vp c)).trans (rfl.trans (((am e).trans (av ?_)))));show R.ok (D.lst ((c.parts++[]).map Cn.d))=_;rw [Y9];rfl
end
noncomputable def Sid.cl:Sid->List (Nat×Nat)
 | .val _=>[]
 | .cel k c=>[(k,c)]
def Cn.cl:Cn->List (Nat×Nat)
 | .test _ a b=>a.cl++b.cl
 | .neg c=>c.cl
 | .and a b=>a.cl++b.cl
 | .or a b=>a.cl++b.cl
theorem AU (s:Sid):s.cl.length<=1:=by cases s <;> simp [Sid.cl]
theorem gM:∀ c:Cn,c.cl.length<=c.n
 | .test _ a b=>by
  have:=AU a
  have:=AU b
  show (a.cl++b.cl).length<=3
  grind
 | .neg c=>by have:=gM c;show c.cl.length<=c.n+1;lia
 | .and a b=>by
  have:=gM a
  have:=gM b
  show (a.cl++b.cl).length<=a.n+b.n+1
  grind
 | .or a b=>by
  have:=gM a
  have:=gM b
  show (a.cl++b.cl).length<=a.n+b.n+1
  grind
theorem Af:jH (.tup (d::r)) (θ 1) ξ=.ok (.tup r):=by
 have:jH (.tup (d::r)) ((1:Int)) ξ=.ok (.tup (gT (d::r) (((1:Nat):Int)) ξ)):=rfl
 rw [ui] at this;exact this
theorem Sa:jH (.tup (d::e::r)) (θ 2) ξ=.ok (.tup r):=by
 have:jH (.tup (d::e::r)) ((2:Int)) ξ=.ok (.tup (gT (d::e::r) (((2:Nat):Int)) ξ)):=rfl
 rw [ui] at this;exact this
def Sid.w:Sid->Str
 | .val _=>"value"
 | .cel _ _=>"cell"
theorem Sy (a b:Sid):(([a,b].filter fun (s:Sid)=>decide (s.w="cell")).map Sid.d)=(a.cl++b.cl).map ji:=by
 cases a <;> cases b <;> rfl
abbrev SBd (n:Nat):FS:=(gv 2 (ai (cW n) (aa (ae 3) (aa (ae 1) aj))))
theorem xc {o3:Option D} (h:cW n [e,.str "cell"]=.ok (.lst ys)) (g:xs.length+ys.length<=1000000):SBd n [θ a,θ (.str "cell"),θ (.lst xs),θ e]=.ok (.nx [θ a,θ (.str "cell"),θ (.lst (xs++ys)),θ e]) :=
 uS rfl (h) rfl g
theorem pX {c:Cn} {r:Sd} (h:¬ c.w=z):aX (ao bG nX (vC (.str z))) (θ c.d::r)=.ok η:=(Fn c).trans (by simp_all)
theorem kD:∀ (c:Cn) (n:Nat),c.h<=n->c.n<=1000->cW n [c.d,.str "cell"]=.ok (.lst (c.cl.map ji))
 | .test z a b,n,h,_=>by
  obtain ⟨m,rfl⟩:=wt h (gn _);rw [jg,dH];refine aq ((skip (vp _)).trans (a8 ((aN ((Fn (.test z a b)).trans rfl)).trans (av (bF (eX (de rfl (bh rfl) rfl Sa) rfl) ?_)))));refine (pw Sid.d Sid.d (fun (s:Sid)=>decide (s.w="cell")) [a,b] (fun s _=>qE (ag rfl rfl ((by cases s <;> exact bW))) rfl) (fun s _ _=>rfl) (by simp)).trans ?_;rw [Sy];rfl
 | .neg c,n,h,hn=>by
  obtain ⟨m,rfl⟩:=wt h (gn _);have h:c.h+1<=m+1:=h;have hn:c.n+1<=1000:=hn;have e:=kD c m (by lia) (by lia);have l:=gM c;rw [jg,dH];exact aq ((skip (vp _)).trans ((skip (pX (c:=.neg c) (show ¬ (DO "not")="test" by trivial))).trans ((am (nL (bg rfl))).trans ((am (eR (eX (de rfl (bh rfl) rfl Af) rfl) ((bU (xc (o3:=ξ) e (by rw [iN];simp;lia))).trans rfl))).trans (av rfl)))))
 | .and a b,n,h,hn=>by
  obtain ⟨m,rfl⟩:=wt h (gn _);have h:max a.h b.h+1<=m+1:=h;have hn:a.n+b.n+1<=1000:=hn;have r:=kD a m (by lia) (by lia);have g:=kD b m (by lia) (by lia);have l1:=gM a;have l2:=gM b;rw [jg,dH];exact aq ((skip (vp _)).trans ((skip (pX (c:=.and a b) (show ¬ (DO "and")="test" by trivial))).trans ((am (nL (bg rfl))).trans ((am (eR (eX (de rfl (bh rfl) rfl Af) rfl) ((bU (xc (o3:=ξ) r (by rw [iN];simp;lia))).trans ((bU (xc (o3:=ξ) g (by rw [iN];simp;lia))).trans rfl)))).trans (av (by show R.ok (D.lst (([]++a.cl.map ji)++b.cl.map ji))=_;rw [abt,<- YK];rfl))))))
 | .or a b,n,h,hn=>by
  obtain ⟨m,rfl⟩:=wt h (gn _);have h:max a.h b.h+1<=m+1:=h;have hn:a.n+b.n+1<=1000:=hn;have r:=kD a m (by lia) (by lia);have g:=kD b m (by lia) (by lia);have l1:=gM a;have l2:=gM b;rw [jg,dH];exact aq ((skip (vp _)).trans ((skip (pX (c:=.or a b) (show ¬ (DO "or")="test" by trivial))).trans (((am (((bU (xc (o3:=ξ) r (by rw [iN];simp;lia))).trans ((bU (xc (o3:=ξ) g (by rw [iN];simp;lia))).trans rfl)))).trans (av (by rw [abt,<- YK];rfl))))))
theorem Bq:∀ {ks:ad0},(∀ k∈ks,k < 3)->tY (ks.map fun (k:Nat)=>D.int (k:Int))=θ ks
 | [],_=>rfl
 | k::r,h=>by
  have u:=h k (by simp);show (if 0<=(k:Int)/\(k:Int) < 3 then (tY (r.map fun (k:Nat)=>D.int k)).map ((k:Int).toNat::·) else ξ)=_;rw [adU ⟨by lia,by lia⟩,Bq fun x g=>h x (lT _ g)];rfl
theorem Ij (h:∀ k∈ks,k < 3):ir [.lst (ks.map fun (k:Nat)=>D.int (k:Int))]=.ok (.lst ((nZ ks).map fun (k:Nat)=>D.int (k:Int))):=by
 unfold ir;dsimp only;rw [Bq h]
theorem Jf:k∈me S i ↔ k∈S\/k=i:=by
 unfold me;by_cases h:i∈S
 .simp_all
 .rw [adV h,xb,mK,Zi,Zi];constructor
  .rintro (⟨h,_⟩|e|⟨h,_⟩)
   .exact .inl h
   .exact .inr e
   .exact .inl h
  .rintro (z|e)
   .have:k≠i:=fun e=>h (e ▸ z)
    rcases Nat.lt_or_gt_of_ne this with q|q
    .simp_all
    .simp_all
   .exact .inr (.inl e)
theorem qC:∀ {ks S:ad0} {k:Nat},k∈ks.foldl me S ↔ k∈S\/k∈ks
 | [],S,k=>by simp
 | i::r,S,k=>by
  rw [List.foldl_cons,qC,Jf,mK,or_assoc]
theorem KG:∀ A∈d9,∀ B∈d9,(∀ k < 3,k∈A ↔ k∈B)->A=B:=by trivial
theorem NO (g:∀ k∈a,k < 3) (hb:∀ k∈b,k < 3) (h:∀ k,k∈a ↔ k∈b):nZ a=nZ b :=
 KG _ (jL a [] (by decide) g) _ (jL b [] (by decide) hb) fun k _=>by
  unfold nZ;rw [qC,qC,h k]
def Cn.ks (c:Cn):ad0:=c.cl.map YD
section
variable {W:Wl} (hW:W.length<=3)
include hW
theorem EJ:∀ {s:Sid},gg W s->∀ k∈s.cl.map YD,k < 3
 | .val v,_,k,hk=>nomatch hk
 | .cel i c,h,k,hk=>by
  obtain ⟨r,e,_⟩:=h;have  := by simpa [Sid.cl] using hk
  grind
theorem qu:∀ {c:Cn},iy W c->∀ k∈c.ks,k < 3
 | .test z a b,h,k,g=>by
  have g:k∈(a.cl++b.cl).map YD:=g;rw [YK,xb] at g;exact g.elim (EJ hW h.2.1 k) (EJ hW h.2.2 k)
 | .neg c,h,k,g=>qu (c:=c) h k g
 | .and a b,h,k,g=>by
  have g:k∈(a.cl++b.cl).map YD:=g;rw [YK,xb] at g;exact g.elim (qu h.1 k) (qu h.2 k)
 | .or a b,h,k,g=>by
  have g:k∈(a.cl++b.cl).map YD:=g;rw [YK,xb] at g;exact g.elim (qu h.1 k) (qu h.2 k)
theorem NL (g:iy W c) (h:c.h<=46) (hn:c.n<=130):ou [c.d]=.ok (.lst ((nZ c.ks).map fun (k:Nat)=>D.int (k:Int))):=by
 have e:gC [c.d]=.ok (.lst (c.cl.map ji)):=by
  exact aq (av ((kD c 100 (by lia) (by lia))))
 have l:=gM c;refine aq (av (ak (ac (bF (eX (e) rfl) (eU ji (fun p=>D.int p.1) c.cl (fun p _=>rfl) (by lia))) rfl) ?_));rw [<- Ij (qu hW g)];unfold Cn.ks;rw [Y5];rfl
end
inductive Itm where
 | c (x:Cn)
 | s (x:Sid)
def Itm.d:Itm->D
 | .c x=>x.d
 | .s x=>x.d
def Itm.n:Itm->Nat
 | .c x=>x.n
 | .s _=>1
def Itm.ks:Itm->ad0
 | .c x=>x.ks
 | .s x=>x.cl.map YD
def Itm.Ok (W:Wl):Itm->Prop
 | .c x=>iy W x/\x.h<=46
 | .s x=>gg W x
theorem Nj {i:Itm} (h:i.Ok W):Py 46 i.d:=by
 cases i with
 | c x=>exact (mh h.1).mono h.2
 | s x=>exact (zq h).mono (by lia)
theorem Ox (i:Itm):1<=i.n:=by
 cases i with
 | c x=>exact D0 x
 | s x=>exact oR _
def v5:List Itm->Nat
 | []=>0
 | c::r=>c.n+v5 r
theorem pz:∀ a b:List Itm,v5 (a++b)=v5 a+v5 b
 | [],b=>by show v5 b=0+v5 b;lia
 | c::r,b=>by
  have:=pz r b
  show c.n+v5 (r++b)=c.n+v5 r+v5 b;lia
theorem Ab:∀ l:List Itm,l.length<=v5 l
 | []=>oR _
 | c::r=>by
  have:=Ab r
  have:=Ox c
  show r.length+1<=c.n+v5 r;lia
abbrev WA:FS:=R9
abbrev QBd:FS:=(ap (jc 1 (cO (.one 3))) WA)
theorem NB:jc 1 (cO (.one 3)) [a,θ (.lst (xs++[d])),b,o3]=.ok (.nx [a,θ (.lst xs),b,θ d]):=by
 have e:(xs++[d])[(xs++[d]).length - 1]?=d:=by simp
 unfold jc;dsimp only [acu,abq];rw [e];rw [List.dropLast_concat];rfl
abbrev Jz (a:Option D) (l:List Itm) (fo:ad0) (o3:Option D):Sd:=[a,θ (.lst (l.map Itm.d)),θ (.lst (fo.map fun (k:Nat)=>D.int (k:Int))),o3]
theorem BJ:Jz a (r++l) fo o3=[a,θ (.lst (r.map Itm.d++l.map Itm.d)),θ (.lst (fo.map fun (k:Nat)=>D.int (k:Int))),o3]:=by simp_all
theorem Um:Jz a l (fo++[i]) o3=[a,θ (.lst (l.map Itm.d)),θ (.lst (fo.map (fun (k:Nat)=>D.int (k:Int))++[.int (i:Int)])),o3]:=by simp_all
theorem yD (h1:φ U=.ok (.str a)) (h2:ψ U=.ok (.str b)):aX (ao kA φ ψ) U=.ok (!decide (a=b)):=aO (ag h1 h2 (by
 have h:kA (.str a) (.str b)=.ok (.bl (!(a=b))):=by simp [kA,j1,eT,u6,dD]
 exact h))
section
theorem Ph {a:Option D} {r:List Itm} {x:Itm} {fo:ad0} (C:x.Ok W) (hl:fo.length+v5 r < 900):∃ (J:List Itm) (I:ad0),WA (Jz a r fo (θ x.d))=.ok (.nx (Jz a (r++J) I (θ x.d)))/\v5 J < x.n/\(∀ i∈J,i.Ok W)/\I.length+v5 J<=fo.length+x.n/\∀ k,(k∈I\/k∈J.flatMap Itm.ks) ↔ (k∈fo\/k∈x.ks):=by
 have Z:=Ab r;have Y:(r.map Itm.d).length<=900:=by rw [iN];lia
 cases x with
 | s x =>
  cases x with
  | val v =>
   refine ⟨[],fo,?_,Nat.zero_lt_one,(fun i g=>nomatch g),by show fo.length+0<=fo.length+1;lia,fun k=>?_⟩
   .rw [Y9];have w:aV (Itm.s (.val v)).d (.int 0)=.ok (.str "value"):=bW;exact (b9 (hV (ag rfl rfl w) rfl (by trivial))).trans ((b9 (hV (ag rfl rfl w) rfl (by trivial))).trans ((b9 ((yD (ag rfl rfl w) rfl).trans (by rw [adX rfl];rfl))).trans rfl))
   .simp [Itm.ks,Sid.cl]
  | cel i c =>
   refine ⟨[],fo++[i],?_,Nat.zero_lt_one,(fun i g=>nomatch g),by rw [YE];show fo.length+1+0<=fo.length+1;lia,fun k=>?_⟩
   .rw [Y9];have w:aV (Itm.s (.cel i c)).d (.int 0)=.ok (.str "cell"):=bW;refine (aN (qg (ag rfl rfl w) rfl rfl)).trans ((iC rfl (ag rfl rfl bJ) (by rw [iN];lia)).trans ?_);rw [Um];rfl
   .simp [Itm.ks,Sid.cl]
 | c x =>
  have two:∀ (u v:Cn),x.w≠"cell"->x.w≠"test"->x.w≠"value"->x.d=.tup [.str x.w,u.d,v.d]->WA (Jz a r fo (θ x.d))=.ok (.nx (Jz a (r++[.c u,.c v]) fo (θ x.d))):=fun u v h1 h2 L e=>by
   refine (b9 (hV (ag rfl rfl (nu x)) rfl h1)).trans ((b9 (hV (ag rfl rfl (nu x)) rfl h2)).trans ((aN ((yD (ag rfl rfl (nu x)) rfl).trans (by rw [adW L];rfl))).trans ((uS (ys:=[u.d,v.d]) rfl (ak (ac (de rfl (bh rfl) rfl (by rw [e];exact Af)) rfl) rfl) rfl (by simp;lia)).trans ?_)));rw [BJ];rfl
  cases x with
  | test z p q =>
   refine ⟨[.s p,.s q],fo,?_,by show 1+(1+0) < 3;lia,fun i g=>?_,by show fo.length+(1+(1+0))<=fo.length+3;lia,fun k=>?_⟩
   .refine (b9 (hV (ag rfl rfl (nu _)) rfl (by show ¬ (DO "test")="cell";decide +kernel))).trans ((aN (qg (ag rfl rfl (nu _)) rfl rfl)).trans ((uS (ys:=[p.d,q.d]) rfl (bg (ac (ag rfl rfl iQ) (ac (ag rfl rfl ER) rfl))) rfl (by simp;lia)).trans ?_));rw [BJ];rfl
   .rcases mK.mp g with rfl|g
    .exact C.1.2.1
    .rw [OR.mp g];exact C.1.2.2
   .simp [Itm.ks,Cn.ks,Cn.cl]
  | neg u =>
   refine ⟨[.c u],fo,?_,by show u.n+0 < u.n+1;lia,fun i g=>?_,by show fo.length+(u.n+0)<=fo.length+(u.n+1);lia,fun k=>?_⟩
   .refine (b9 (hV (ag rfl rfl (nu _)) rfl (by show ¬ (DO "not")="cell";decide +kernel))).trans ((b9 (hV (ag rfl rfl (nu _)) rfl (by show ¬ (DO "not")="test";decide +kernel))).trans ((aN ((yD (ag rfl rfl (nu _)) rfl).trans (by rw [adW (by show ¬ (DO "not")="value";decide +kernel)];rfl))).trans ((uS (ys:=[u.d]) rfl (ak (ac (de rfl (bh rfl) rfl Af) rfl) rfl) rfl (by simp;lia)).trans ?_)));rw [BJ];rfl
   .rw [OR.mp g];exact ⟨C.1,Le (abw _) C.2⟩
   .simp [Itm.ks,Cn.ks,Cn.cl]
  | and u v =>
   have M:max u.h v.h+1<=46:=C.2;refine ⟨[.c u,.c v],fo,two u v (by show ¬ (DO "and")="cell";decide +kernel) (by show ¬ (DO "and")="test";decide +kernel) (by show ¬ (DO "and")="value";decide +kernel) rfl,by show u.n+(v.n+0) < u.n+v.n+1;lia,fun i g=>?_,by show fo.length+(u.n+(v.n+0))<=fo.length+(u.n+v.n+1);lia,fun k=>?_⟩
   .rcases mK.mp g with rfl|g
    .exact ⟨C.1.1,by lia⟩
    .rw [OR.mp g];exact ⟨C.1.2,by lia⟩
   .simp [Itm.ks,Cn.ks,Cn.cl]
  | or u v =>
   have M:max u.h v.h+1<=46:=C.2;refine ⟨[.c u,.c v],fo,two u v (by show ¬ (DO "or")="cell";decide +kernel) (by show ¬ (DO "or")="test";decide +kernel) (by show ¬ (DO "or")="value";decide +kernel) rfl,by show u.n+(v.n+0) < u.n+v.n+1;lia,fun i g=>?_,by show fo.length+(u.n+(v.n+0))<=fo.length+(u.n+v.n+1);lia,fun k=>?_⟩
   .rcases mK.mp g with rfl|g
    .exact ⟨C.1.1,by lia⟩
    .rw [OR.mp g];exact ⟨C.1.2,by lia⟩
   .simp [Itm.ks,Cn.ks,Cn.cl]
theorem FW:∀ (m:Nat) (l:List Itm) (fo:ad0) (o3:Option D),v5 l < m->fo.length+v5 l < 900->(∀ i∈l,i.Ok W)->∃ g u,b5 PT QBd m (Jz a l fo o3)=.ok (.nx (Jz a [] g u))/\∀ k,k∈g ↔ (k∈fo\/k∈l.flatMap Itm.ks)
 | 0,l,fo,o3,h,_,_=>absurd h (aaU _)
 | m+1,l,fo,o3,h,hl,hc=>by
  rcases List.eq_nil_or_concat l with rfl|⟨r,x,rfl⟩
  .exact ⟨fo,o3,wW (aO (ag rfl (bg rfl) rfl)),fun k=>by simp⟩
  .rw [List.concat_eq_append] at h hl hc ⊢;have q:PT (Jz a (r++[x]) fo o3)=.ok ζ:=aO (((Py.nil (k:=46) (fun d J=>by
    obtain ⟨e,C,rfl⟩:=Do.mp J;exact Nj (hc e C)) (by lia)).trans (by simp_all)))
   rw [pz] at h hl;have Y:v5 [x]=x.n:=rfl;obtain ⟨I,g,t,h1,h2,L,M⟩:=Ph (r:=r) (fo:=fo) (hc x (by simp)) (by lia);obtain ⟨z,u,e,Z⟩:=FW m (r++I) g (x.d) (by rw [pz];lia) (by rw [pz];lia) fun i v=>by
    rcases xb.mp v with v|v
    .exact hc i (YY _ v)
    .exact h2 i v
   refine ⟨z,u,(nI q ((am ?_).trans t)).trans e,fun k=>?_⟩
   .rw [BJ];exact NB
   grind
theorem G5 (hW:W.length<=3) (u:iy W c) (h:c.h<=46) (hn:c.n<=130):rT [c.d]=.ok (.lst ((nZ c.ks).map fun (k:Nat)=>D.int (k:Int))):=by
 obtain ⟨fo,o3,e,g⟩:=FW 1000 [.c c] [] ξ (by show c.n+0 < 1000;lia) (by show 0+(c.n+0) < 900;lia) fun i v=>by
  rw [OR.mp v];exact ⟨u,h⟩
 have g:∀ k,k∈fo ↔ k∈c.ks:=fun k=>by
  rw [g k];simp [Itm.ks]
 have r:=qu hW u;refine aq ((((am e).trans (av (((Ij fun k z=>r k ((g k).mp z)).trans ?_))))));rw [NO (fun k z=>r k ((g k).mp z)) r g]
end
noncomputable def rk:D->D
 | .non=>.tup [.int 0,.int 0,.str ""]
 | .int a=>.tup [.int 1,.int a,.str ""]
 | .str z=>.tup [.int 2,.int 0,.str z]
 | _=>.non
noncomputable def rp:D->ZO
 | .int a=>.tuple [.int 1,.int a,.str ""]
 | .str z=>.tuple [.int 2,.int 0,.str z]
 | _=>.tuple [.int 0,.int 0,.str ""]
theorem Pz (h:Vl 40 v):qW [v]=.ok (rk v):=by
 cases v with
 | non=>rfl
 | int i=>rfl
 | str z=>rfl
 | _=>exact h.elim
theorem L4:∀ c∈(DO "").cps.toList,c∈tab:=by trivial
theorem oG (h:Vl 40 v):cI (rk v)=θ (rp v)/\YM (rp v)=ζ:=by
 have key:∀ z , (∀ c∈z.cps.toList,c∈tab)->∀ i j , YM (.tuple [.int i,.int j,.str z])=ζ:=fun z hz i j=>by
  have h1:(PyData.tuple [.int i,.int j,.str z]).canLay0=ζ:=by
   rw [abD,Y0,Y0,Y0,show (PyData.str z).canLay0=ζ from Xc z hz];rfl
  unfold YM;rw [h1];rfl
 cases v with
 | non=>exact ⟨rfl,key "" L4 0 0⟩
 | int i=>exact ⟨rfl,key "" L4 1 i⟩
 | str z=>exact ⟨rfl,key z h.2 2 0⟩
 | _=>exact h.elim
theorem RY {x y:ad0} (h:¬ x=y):x < y\/y < x:=by
 grind
def ob:LU.Or->Int->Bool
 | .lt,c=>decide (c < 0)
 | .le,c=>decide (c<=0)
 | .gt,c=>decide (0 < c)
 | .ge,c=>decide (0<=c)
theorem QZ (g:Vl 40 a) (hb:Vl 40 b):Z4 (rp a) (rp b)=decide (EC a b=0):=by
 cases a with
 | non=>cases b with
  | non=>decide +kernel
  | int j=>rfl
  | str z=>rfl
  | _=>exact hb.elim
 | int i=>cases b with
  | non=>rfl
  | int j =>
   show (1==1&&(i==j&&((""=="")&&ζ)))=decide (zn i j=0);unfold zn;by_cases h:i=j
   .subst h;simp
   .rw [adV h]
    have:(i==j)=η:=by simpa using h
    rw [this];split <;> simp
  | str z=>rfl
  | _=>exact hb.elim
 | str x=>cases b with
  | non=>rfl
  | int j=>rfl
  | str y =>
   show (2==2&&(0==0&&((x==y)&&ζ)))=decide (yj x.cps.toList y.cps.toList=0);unfold yj;by_cases h:x=y
   .subst h;simp
   .have h2  := fun e=>h (pS e)
    grind
  | _=>exact hb.elim
 | _=>exact g.elim
theorem QV (o:LU.Or) (u:Vl 40 a) (hb:Vl 40 b):LU.cpP o (rp a) (rp b)=θ (ob o (EC a b)):=by
 have r:∀ i:Int,Z4 (.int i) (.int i)=ζ:=fun i=>by show (i==i)=ζ;simp
 have es:Z4 (.str "") (.str "")=ζ:=by trivial
 cases a with
 | non=>cases b with
  | non =>
   unfold rp;dsimp only;rw [LU.cpP,LU.cpPs,adU (r 0),LU.cpPs,adU (r 0),LU.cpPs,adU es,LU.cpPs];cases o <;> rfl
  | int j =>
   show LU.cpP o (.tuple [.int 0,.int 0,.str ""]) (.tuple [.int 1,.int j,.str ""])=θ (ob o (-1));rw [LU.cpP,LU.cpPs,adV (by show ¬ ((0:Int)==1)=ζ;decide),LU.cpP];cases o <;> rfl
  | str z =>
   show LU.cpP o (.tuple [.int 0,.int 0,.str ""]) (.tuple [.int 2,.int 0,.str z])=θ (ob o (-1));rw [LU.cpP,LU.cpPs,adV (by show ¬ ((0:Int)==2)=ζ;decide),LU.cpP];cases o <;> rfl
  | _=>exact hb.elim
 | int i=>cases b with
  | non =>
   show LU.cpP o (.tuple [.int 1,.int i,.str ""]) (.tuple [.int 0,.int 0,.str ""])=θ (ob o 1);rw [LU.cpP,LU.cpPs,adV (by show ¬ ((1:Int)==0)=ζ;decide),LU.cpP];cases o <;> rfl
  | int j =>
   show LU.cpP o (.tuple [.int 1,.int i,.str ""]) (.tuple [.int 1,.int j,.str ""])=θ (ob o (zn i j));rw [LU.cpP,LU.cpPs,adU (r 1),LU.cpPs];unfold zn;by_cases h:i=j
   .subst h;rw [adU (r i),LU.cpPs,adU es,LU.cpPs,adU rfl];cases o <;> rfl
   .rw [adV (by show ¬ (i==j)=ζ;simpa using h),LU.cpP,adV h];congr 1;by_cases g:i < j
    .rw [adU g];cases o <;> (unfold LU.Or.i ob;dsimp only;exact decide_eq_decide.mpr (by lia))
    .rw [adV g];cases o <;> (unfold LU.Or.i ob;dsimp only;exact decide_eq_decide.mpr (by lia))
  | str z =>
   show LU.cpP o (.tuple [.int 1,.int i,.str ""]) (.tuple [.int 2,.int 0,.str z])=θ (ob o (-1));rw [LU.cpP,LU.cpPs,adV (by show ¬ ((1:Int)==2)=ζ;decide),LU.cpP];cases o <;> rfl
  | _=>exact hb.elim
 | str x=>cases b with
  | non =>
   show LU.cpP o (.tuple [.int 2,.int 0,.str x]) (.tuple [.int 0,.int 0,.str ""])=θ (ob o 1);rw [LU.cpP,LU.cpPs,adV (by show ¬ ((2:Int)==0)=ζ;decide),LU.cpP];cases o <;> rfl
  | int j =>
   show LU.cpP o (.tuple [.int 2,.int 0,.str x]) (.tuple [.int 1,.int j,.str ""])=θ (ob o 1);rw [LU.cpP,LU.cpPs,adV (by show ¬ ((2:Int)==1)=ζ;decide),LU.cpP];cases o <;> rfl
  | str y =>
   show LU.cpP o (.tuple [.int 2,.int 0,.str x]) (.tuple [.int 2,.int 0,.str y])=θ (ob o (yj x.cps.toList y.cps.toList));rw [LU.cpP,LU.cpPs,adU (r 2),LU.cpPs,adU (r 0),LU.cpPs];unfold yj;by_cases h:x=y
   .subst h;rw [adU (by show (x==x)=ζ;simp),LU.cpPs,adU rfl];cases o <;> rfl
   .have h2:¬ x.cps.toList=y.cps.toList:=fun e=>h (pS e);rw [adV (by show ¬ (x==y)=ζ;rw [beq_iff_eq];exact h),LU.cpP,adV h2];congr 1;by_cases g:x.cps.toList < y.cps.toList
    .have g2:=(List.lt_asymm g);cases o <;> (unfold LU.Or.s ob;simp [g,g2])
    .have g2:=(RY h2).resolve_left g;cases o <;> (unfold LU.Or.s ob;simp [g,g2])
  | _=>exact hb.elim
 | _=>exact u.elim
theorem Xl (h:Vl 40 v):eT (rk v)=ξ:=by
 cases v with
 | non=>rfl
 | int i=>rfl
 | str z=>rfl
 | _=>exact h.elim
theorem Hz (g:Vl 40 a) (hb:Vl 40 b):j1 (rk a) (rk b)=θ (decide (EC a b=0)):=by
 have e:j1 (rk a) (rk b)=eu (rk a) (rk b):=by unfold j1;rw [Xl g]
 rw [e,eu,(oG g).1,(oG hb).1];dsimp only;rw [adU ⟨(oG g).2,(oG hb).2⟩,QZ g hb]
theorem AH (o:LU.Or) (g:Vl 40 a) (hb:Vl 40 b):DL o (rk a) (rk b)=.ok (.bl (ob o (EC a b))):=by
 unfold DL SN;rw [(oG g).1,(oG hb).1];dsimp only;rw [adU ⟨(oG g).2,(oG hb).2⟩,QV o g hb];rfl
def sy (z:Str) (k:D):Bool:=match L5 (.str z) k with
 | .ok (.bl b)=>b
 | _=>η
def Uq (z:Str) (c:Int):Bool:=if c=0 then sy z bL else if c < 0 then sy z bC else sy z br
theorem yA (h:Sg z) (c:Int):mS [.str z,.int c]=.ok (.bl (Uq z c)):=by
 unfold Uq;by_cases g:c=0
 .rw [adU g];exact aq (a8 ((aN (dM rfl rfl g)).trans rfl))
 .rw [adV g];have q:aX (ao vB (ae 1) (vC (.int 0))) [θ (.str z),θ (.int c)]=.ok ((c < 0)):=rfl;by_cases r:c < 0
  .rw [adU r];exact aq ((skip (cP rfl rfl g)).trans (av (xY (q.trans (by grind)) rfl)))
  .rw [adV r];exact aq ((skip (cP rfl rfl g)).trans (av (AV (q.trans (by simp_all)) rfl)))
theorem KQ:(sy "=" bL,sy "=" bC,sy "=" br)=(ζ,η,η)/\(sy "<>" bL,sy "<>" bC,sy "<>" br)=(η,ζ,ζ)/\(sy "<" bL,sy "<" bC,sy "<" br)=(η,ζ,η)/\(sy "<=" bL,sy "<=" bC,sy "<=" br)=(ζ,ζ,η)/\(sy ">" bL,sy ">" bC,sy ">" br)=(η,η,ζ)/\(sy ">=" bL,sy ">=" bC,sy ">=" br)=(ζ,η,ζ):=by
 refine ⟨?_,?_,?_,?_,?_,?_⟩ <;> kernel_rfl
def Pb (e n l m g:Bool):List (Key×D):=DM [("=",e),("<>",n),("<",l),("<=",m),(">",g)]
theorem Oo {z:Str} (h:Sg z) (c:Int):(bv (Pb (decide (c=0)) (!decide (c=0)) (ob .lt c) (ob .le c) (ob .gt c)) (.inr z)).getD (.bl (ob .ge c))=.bl (Uq z c):=by
 have key:∀ e n l m g:Bool,bv (Pb e n l m g) (.inr "=")=θ (.bl e)/\bv (Pb e n l m g) (.inr "<>")=θ (.bl n)/\bv (Pb e n l m g) (.inr "<")=θ (.bl l)/\bv (Pb e n l m g) (.inr "<=")=θ (.bl m)/\bv (Pb e n l m g) (.inr ">")=θ (.bl g)/\bv (Pb e n l m g) (.inr ">=")=ξ:=fun e n l m g=>by
  refine ⟨?_,?_,?_,?_,?_,?_⟩ <;> kernel_rfl
 obtain ⟨k1,k2,k3,k4,k5,k6⟩:=key (decide (c=0)) (!decide (c=0)) (ob .lt c) (ob .le c) (ob .gt c);obtain ⟨t1,t2,t3,t4,t5,u⟩:=KQ;simp only [Prod.mk.injEq] at t1 t2 t3 t4 t5 u;unfold Uq;rcases h with rfl|rfl|rfl|rfl|rfl|rfl
 .rw [k1,t1.1,t1.2.1,t1.2.2];by_cases r:c=0 <;> by_cases h1:c < 0 <;> simp [r,h1]
 .rw [k2,t2.1,t2.2.1,t2.2.2];by_cases r:c=0 <;> by_cases h1:c < 0 <;> simp [r,h1]
 .rw [k3,t3.1,t3.2.1,t3.2.2];by_cases r:c=0 <;> by_cases h1:c < 0 <;> simp [r,h1,ob]
 .rw [k4,t4.1,t4.2.1,t4.2.2]
  have:decide (c<=0)=if c=0 then ζ else if c < 0 then ζ else η:=by
   by_cases r:c=0 <;> by_cases h1:c < 0 <;> simp [r,h1] <;> lia
  show D.bl (decide (c<=0))=_;rw [this]
 .rw [k5,t5.1,t5.2.1,t5.2.2]
  have:decide (0 < c)=if c=0 then η else if c < 0 then η else ζ:=by
   by_cases r:c=0 <;> by_cases h1:c < 0 <;> simp [r,h1] <;> lia
  show D.bl (decide (0 < c))=_;rw [this]
 .rw [k6,u.1,u.2.1,u.2.2]
  have:decide (0<=c)=if c=0 then ζ else if c < 0 then η else ζ:=by
   by_cases r:c=0 <;> by_cases h1:c < 0 <;> simp [r,h1] <;> lia
  show D.bl (decide (0<=c))=_;rw [this]
def sv (P:List (ad8)):Sid->D
 | .val v=>v
 | .cel k c=>(P.getD k []).getD c .non
def jd (P:List (ad8)):Cn->Bool
 | .test z a b=>Uq z (EC (sv P a) (sv P b))
 | .neg c=>!jd P c
 | .and a b=>jd P a&&jd P b
 | .or a b=>jd P a||jd P b
def MH (W:Wl) (P:List (ad8)):Prop:=∀ (k:Nat) r,W[k]?=θ r->P[k]?=θ (P.getD k [])/\RowOk r.length (P.getD k [])
section
variable (hP:MH W P)
include hP
theorem sX (h:gg W s):Vl 40 (sv P s):=by
 cases s with
 | val v=>exact h
 | cel k c =>
  obtain ⟨r,e,g⟩:=h;exact ((hP k r e).2.at_ g).1
theorem Fp (h:gg W s):pW [s.d,.lst (P.map D.tup)]=.ok (rk (sv P s)):=by
 have hv:=Pz (sX hP h);cases s with
 | val v=>exact aq (a8 ((av (hv))))
 | cel k c =>
  obtain ⟨r,e,g⟩:=h;obtain ⟨h1,h2⟩:=hP k r e;exact aq ((av (ak (ac (ag ((lF _ _ h1)) rfl (nC h2 g)) rfl) hv)))
end
theorem wM (h:φ U=.ok (.bl b)) (hr:Iu r U=.ok l):Iu ((x,φ)::r) U=.ok ((x,b)::l):=by
 unfold Iu;rw [h,az];dsimp only;rw [hr,az]
theorem Kc (h1:φ U=.ok (.dcf kvs)) (h2:ψ U=.ok (.str z)) (g:χ U=.ok d):sQ φ ψ χ U=.ok ((bv kvs (.inr z)).getD d):=by
 unfold sQ;rw [h1];rw [h2,g];rfl
theorem IS (h:Iu ps U=.ok l):Gx (ue ps) U=.ok (.dcf (DM l)):=by
 unfold Gx ue;rw [h];rfl
section
variable (hP:MH W P)
include hP
theorem iM:∀ (c:Cn) (n:Nat),c.h<=n->iy W c->fm n [c.d,.lst (P.map D.tup)]=.ok (.bl (jd P c))
 | .test z a b,n,h,hc=>by
  obtain ⟨m,rfl⟩:=wt h (gn _);obtain ⟨hz,h1,h2⟩:=hc;have g:=sX hP h1;have r:=sX hP h2;rw [lY,fG];refine aq ((skip (vp _)).trans ((skip (pX (c:=.test z a b) (show ¬ (DO "test")="not" by trivial))).trans ((skip (pX (c:=.test z a b) (show ¬ (DO "test")="and" by trivial))).trans ((skip (pX (c:=.test z a b) (show ¬ (DO "test")="or" by trivial))).trans ((am (au (ak (ac (ag rfl rfl iQ) (ac rfl rfl)) (Fp hP h1)))).trans ((am (au (ak (ac (ag rfl rfl ER) (ac rfl rfl)) (Fp hP h2)))).trans ((am (au (IS (wM (ag rfl rfl ((by unfold bG;rw [Hz g r];rfl))) (wM (ag rfl rfl ((by unfold kA;rw [Hz g r];rfl))) (wM (ag rfl rfl (AH .lt g r)) (wM (ag rfl rfl (AH .le g r)) (wM (ag rfl rfl (AH .gt g r)) rfl)))))))).trans (av ((Kc rfl (ag rfl rfl bJ) (ag rfl rfl (AH .ge g r))).trans ?_)))))))));exact adZ R.ok (Oo hz _)
 | .neg c,n,h,hc=>by
  obtain ⟨m,rfl⟩:=wt h (gn _);have h:c.h+1<=m+1:=h;have e:=iM c m (by lia) hc;rw [lY,fG];exact aq ((skip (vp _)).trans (a8 ((aN ((Fn (.neg c)).trans rfl)).trans (av (BR (ak (ac (ag rfl rfl bJ) (ac rfl rfl)) e))))))
 | .and a b,n,h,hc=>by
  obtain ⟨m,rfl⟩:=wt h (gn _);have h:max a.h b.h+1<=m+1:=h;have v:=iM a m (by lia) hc.1;have u:=iM b m (by lia) hc.2;rw [lY,fG];exact aq ((skip (vp _)).trans ((skip (pX (c:=.and a b) (show ¬ (DO "and")="not" by trivial))).trans (a8 ((aN ((Fn (.and a b)).trans rfl)).trans (av (zY (ak (ac (ag rfl rfl bJ) (ac rfl rfl)) v) (ak (ac (ag rfl rfl iQ) (ac rfl rfl)) u)))))))
 | .or a b,n,h,hc=>by
  obtain ⟨m,rfl⟩:=wt h (gn _);have h:max a.h b.h+1<=m+1:=h;have v:=iM a m (by lia) hc.1;have u:=iM b m (by lia) hc.2;exact aq ((skip rfl).trans ((skip rfl).trans ((skip rfl).trans (a8 ((av (Er (v) (u))))))))
variable (hv:∀ s,gg W s->cQ [T,S,N,s.d]=.ok (sv P s))
include hv
theorem kr:∀ (c:Cn) (n:Nat),c.h<=n->iy W c->kF n [T,S,N,c.d]=.ok (.bl (jd P c))
 | .test z a b,n,h,hc=>by
  obtain ⟨m,rfl⟩:=wt h (gn _);obtain ⟨hz,h1,h2⟩:=hc;have v:=(sX hP h1).mono (m:=100) (by lia);have u:=(sX hP h2).mono (m:=100) (by lia);rw [uH,kl];have q:aX Gw [θ T,θ S,θ N,θ (Cn.test z a b).d,ξ,ξ,ξ]=.ok η:=aO (ag rfl rfl (wF (θ (.test z a b))));exact aq ((skip q).trans ((am (au (ag rfl rfl (nu _)))).trans ((skip (hV rfl rfl (show ¬ (DO "test")="and" by trivial))).trans ((skip (hV rfl rfl (show ¬ (DO "test")="or" by trivial))).trans ((skip (hV rfl rfl (show ¬ (DO "test")="not" by trivial))).trans ((am (au (ak (ac rfl (ac rfl (ac rfl (ac (ag rfl rfl iQ) rfl)))) (hv a h1)))).trans ((am (au (ak (ac rfl (ac rfl (ac rfl (ac (ag rfl rfl ER) rfl)))) (hv b h2)))).trans (av (ak (ac (ag rfl rfl bJ) (ac (ak (ac rfl (ac rfl rfl)) (Bz _ _ v u)) rfl)) (yA hz _))))))))))
 | .neg c,n,h,hc=>by
  obtain ⟨m,rfl⟩:=wt h (gn _);have h:c.h+1<=m+1:=h;have e:=kr c m (by lia) hc;rw [uH,kl];have q:aX Gw [θ T,θ S,θ N,θ (Cn.neg c).d,ξ,ξ,ξ]=.ok η:=aO (ag rfl rfl (wF (θ (.neg c))));exact aq ((skip q).trans ((am (au (ag rfl rfl (nu _)))).trans ((skip (hV rfl rfl (show ¬ (DO "not")="and" by trivial))).trans ((skip (hV rfl rfl (show ¬ (DO "not")="or" by trivial))).trans (a8 ((aN (qg rfl rfl rfl)).trans (av (BR (ak (ac rfl (ac rfl (ac rfl (ac (ag rfl rfl bJ) rfl)))) e)))))))))
 | .and a b,n,h,hc=>by
  obtain ⟨m,rfl⟩:=wt h (gn _);have h:max a.h b.h+1<=m+1:=h;have r:=kr a m (by lia) hc.1;have g:=kr b m (by lia) hc.2;rw [uH,kl];have q:aX Gw [θ T,θ S,θ N,θ (Cn.and a b).d,ξ,ξ,ξ]=.ok η:=aO (ag rfl rfl (wF (θ (.and a b))));exact aq ((skip q).trans ((am (au (ag rfl rfl (nu _)))).trans (a8 ((aN (qg rfl rfl rfl)).trans (av (zY (ak (ac rfl (ac rfl (ac rfl (ac (ag rfl rfl bJ) rfl)))) r) (ak (ac rfl (ac rfl (ac rfl (ac (ag rfl rfl iQ) rfl)))) g)))))))
 | .or a b,n,h,hc=>by
  obtain ⟨m,rfl⟩:=wt h (gn _);have h:max a.h b.h+1<=m+1:=h;have r:=kr a m (by lia) hc.1;have g:=kr b m (by lia) hc.2;have q:aX Gw [T,S,N,(Cn.or a b).d,ξ,ξ,ξ]=.ok η:=rfl;exact aq ((skip q).trans ((am (au rfl)).trans ((skip rfl).trans (a8 ((aN rfl).trans (av (Er (r) (g))))))))
end
theorem qG (f:Tq->D) {qs:List Tq} (hn:(qs.map Tq.nm).Nodup) (h:q∈qs):bv (qs.map fun q=>(Key.inr q.nm,f q)) (.inr q.nm)=θ (f q):=by
 induction qs with
 | nil=>exact nomatch h
 | cons a r g =>
  rw [YB,YW] at hn;unfold bv;by_cases e:a.nm=q.nm
  .have:q=a:=by
    rcases mK.mp h with rfl|h
    .rfl
    .exact absurd (e ▸ Do.mpr ⟨q,h,rfl⟩) hn.1
   subst this;simp
  .have h2:q∈r:=by
    grind
   have:=g hn.2 h2
   unfold bv at this;simp_all
theorem GS (h:bI rs n=θ x):(n,x)∈rs:=by
 obtain ⟨q,hq,rfl⟩:=iF.mp h;have h1:=List.mem_of_find?_eq_some hq;have h2:=List.find?_some hq
 grind
def vg (qs:List Tq):D:=.dcf (qs.map fun q=>(Key.inr q.nm,D.dcf (bn q.rs)))
structure NnOk (t:Tre) (ns:List Int):Prop where
 l:ns.length=t.ps.length
 r:∀ (k:Nat) p,t.ps[k]?=θ p->(bI p.1.rs (ns.getD k 0)).isSome=ζ
def OG (t:Tre) (ns:List Int) (k:Nat):ad8:=(t.ps[k]?).elim [] fun p=>(bI p.1.rs (ns.getD k 0)).getD []
def pk (t:Tre) (ns:List Int):List (ad8):=(YV ns.length).map (OG t ns)
section
variable (hn:(qs.map Tq.nm).Nodup) (hq:∀ q∈qs,QOk q) (ht:TrOk qs t) (hs:NnOk t ns)
include hs in
theorem G4 (e:t.ps[k]?=θ p):k < ns.length/\(pk t ns)[k]?=θ ((pk t ns).getD k [])/\(pk t ns).getD k []=OG t ns k/\bI p.1.rs (ns.getD k 0)=θ (OG t ns k):=by
 have g  := (K2.mp e).1;have g:k < ns.length:=by rw [hs.l];exact g
 have v:(pk t ns)[k]?=(OG t ns k):=by
  unfold pk;rw [Zk,ada g];rfl
 have u:(pk t ns).getD k []=OG t ns k:=by simp_all
 refine ⟨g,by rw [v,u],u,?_⟩
 have:=hs.r k p e
 unfold OG;rw [e];cases z:bI p.1.rs (ns.getD k 0) with
 | none=>simp_all
 | some x=>simp_all
include hq ht hs in
theorem LD:MH t.W (pk t ns):=fun k r e=>by
 unfold Tre.W at e;rw [Zk] at e;obtain ⟨p,g,rfl⟩:=iF.mp e;obtain ⟨h1,h2,v,u⟩:=G4 hs g;refine ⟨h2,?_⟩;rw [v]
 have:=(hq _ (ht.q p (YO g))).r.r _ (GS u)
 unfold oz;rw [iN];exact this
theorem Ke (h1:φ U=.ok (.dcf kvs)) (h2:ψ U=.ok (.int n)):tG φ ψ U=.ok ((bv kvs (.inl n)).getD .non):=by
 unfold tG;rw [h1];rw [h2];rfl
include hn hq ht hs in
theorem HI:jr [t.d,vg qs,.tup (ns.map D.int)]=.ok (.lst ((pk t ns).map D.tup)):=by
 rw [z6,jw];have l1:=ht.l1;have z:=hs.l;refine aq (av (bF (jk (n:=ns.length) (cz rfl (nG _ _)) (by lia)) ?_));unfold pk;rw [mG,Y5];refine eU _ _ _ (fun k g=>?_) (by rw [Y7];lia);have g:=Y8.mp g;have r:t.ps[k]?=t.ps[k]:=lE (by lia);obtain ⟨h1,h2,v,u⟩:=G4 hs r;have en:ns[k]?=(ns.getD k 0):=by rw [Ze,lE g];rfl
 refine (Ke (ag rfl (ag ((C7 Ru t.ps r)) rfl bW) (nW (qG (fun q=>D.dcf (bn q.rs)) hn (ht.q _ (YO r))))) ((C7 D.int ns en))).trans ?_;rw [f7,u];rfl
include hn hq ht hs in
theorem qK (h:gg t.W s):cQ [t.d,.dcf (iX qs),.tup (ns.map D.int),s.d]=.ok (sv (pk t ns) s):=by
 rw [yV,iY];cases s with
 | val v=>exact aq (a8 ((aN (qg (ag rfl rfl bW) rfl rfl)).trans (av (ag rfl rfl bJ))))
 | cel k c =>
  have I:=LD hq ht hs;obtain ⟨r,e,C⟩:=h;obtain ⟨g1,g2⟩:=I k r e;unfold Tre.W at e;rw [Zk] at e;obtain ⟨p,g,rfl⟩:=iF.mp e;obtain ⟨h1,h2,u,z⟩:=G4 hs g;have en:ns[k]?=θ (ns.getD k 0):=by rw [Ze,lE h1];rfl
  have tb:lW [t.d,.dcf (iX qs),.int (k:Int)]=.ok p.1.d:=by
   rw [yC,jb];exact aq (av (ag rfl (ag (ag (ag rfl rfl bJ) rfl (C7 Ru t.ps g)) rfl bW) (nW (qG Tq.d hn (ht.q _ (YO g))))))
  rw [u] at g2;refine aq ((skip (hV (ag rfl rfl bW) rfl (by trivial))).trans (av (ag (ag (zH (ak (ac rfl (ac rfl (ac (ag rfl rfl bJ) rfl))) tb) Ml) (ag rfl (ag rfl rfl bJ) (C7 D.int ns en)) (Bg z)) (ag rfl rfl iQ) ((nC g2 C).trans ?_))));show R.ok ((OG t ns k).getD c .non)=R.ok (((pk t ns).getD k []).getD c .non);rw [u]
theorem zX (h:Vl 40 v):gz [v,v]=.ok (.bl ζ):=by
 rw [qk];cases v with
 | non=>rfl
 | int i=>exact aq ((skip rfl).trans (av (cF rfl (cF rfl ((kW.trans (by grind)))))))
 | str z=>exact aq (a8 ((av (cF ((ib.trans (by simp_all))) rfl))))
 | _=>exact h.elim
include hn hq ht hs in
theorem KJ:nY [t.d,.dcf (iX qs),vg qs,.tup (ns.map D.int)]=.ok (.bl ζ):=by
 have g:=LD hq ht hs;have z:gg t.W (.cel t.c.1 t.c.2):=ht.c;have v1:=qK hn hq ht hs z;have vv:=zX (sX g z);have v7:cQ [t.d,.dcf (iX qs),.tup (ns.map D.int),.tup [.str "value",.int 7]]=.ok (.int 7):=qK hn hq ht hs (s:=.val (.int 7)) Y6;have C:∀ {r:Sd} {o6:Option D},ao aV (ao aV (ae 4) FM) GY [θ t.d,θ (.dcf (iX qs)),θ (vg qs),θ (.tup (ns.map D.int)),θ (.lst ((pk t ns).map D.tup)),θ (ji t.c),o6]=.ok (sv (pk t ns) (.cel t.c.1 t.c.2)):=fun {r o6}=>by
  obtain ⟨r,e,h⟩:=z;obtain ⟨g1,g2⟩:=g _ r e;exact ag (ag rfl (ag rfl rfl bJ) (lF _ _ g1)) (ag rfl rfl iQ) (nC g2 h)
 rw [Ds,kB];have M:∀ T:FS,_:=fun T=>(am (T:=T) (au (k:=4) (ak (F:=jr) (α:=aa (ae 0) (aa (ae 2) (aa (ae 3) aj))) (U:=[θ t.d,θ (.dcf (iX qs)),θ (vg qs),θ (.tup (ns.map D.int)),ξ,ξ,ξ]) (ac rfl (ac rfl (ac rfl rfl))) (HI hn hq ht hs))));refine aq ((M _).trans ((am (au (ag (ag rfl rfl (uA (bM rfl))) rfl bW))).trans ((skip (oU (fw (ak (ac (ak (ac rfl (ac rfl (ac rfl (ac rfl rfl)))) v1) (ac (C (r:=[])) rfl)) vv) rfl))).trans ?_)));have J:∀ {o4 o5 o6:Option D},aX UE [θ t.d,θ (.dcf (iX qs)),θ (vg qs),θ (.tup (ns.map D.int)),o4,o5,o6]=.ok η:=fun {o4 o5 o6}=>aO (ag (ak (ac rfl (ac rfl (ac rfl (ac (ba (ac rfl (ac rfl rfl))) rfl)))) v7) rfl rfl);cases ef:t.f with
 | none =>
  have L:∀ {o4 o5 o6:Option D},ao isD np (vC .non) [θ t.d,θ (.dcf (iX qs)),θ (vg qs),θ (.tup (ns.map D.int)),o4,o5,o6]=.ok (.bl ζ):=fun {o4 o5 o6}=>ag (ag rfl rfl iQ) rfl (by rw [ef];rfl);exact a8 ((aN (sk J (aO L))).trans (av L))
 | some c =>
  have u:=ht.f;have v:=ht.h;rw [ef] at u v;have v:c.h<=46:=v;have Y:pe t.f=c.d:=by rw [ef];rfl
  have I:∀ {o4 o5 o6:Option D},np [θ t.d,θ (.dcf (iX qs)),θ (vg qs),θ (.tup (ns.map D.int)),o4,o5,o6]=.ok c.d:=fun {o4 o5 o6}=>(ag rfl rfl iQ).trans (by rw [Y]);have hH:=kr g (fun s h=>qK hn hq ht hs h) c 100 (by lia) u.1;have Z:=iM g c 100 (by lia) u.1;exact (skip (sk J (aO (ag I rfl (wF (θ c)))))).trans ((am (au (ak (ac rfl (ac rfl (ac rfl (ac I rfl)))) hH))).trans (av (cF (LH rfl (by kernel_rfl)) (ag rfl (ak (ac I rfl) Z) (Q6.trans (by simp_all))))))
end
theorem II (h:U[i]?=θ (θ (.lst xs))) (r:ε U=.ok d) (g:xs.length < 1000000):bK i ε U=.ok (.nx (U.set i (θ (.lst (xs++[d]))))):=by
 unfold bK;rw [h];dsimp only;rw [r,az,adU g]
theorem Kr (h:xs.length<=100):ia (.tup xs) (.tup [y])=.ok (.tup (xs++[y])):=by
 cases xs with
 | nil=>exact (rfl)
 | cons x r =>
  show (if (x::r).isEmpty=η/\(x::r).length+[y].length<=1000000 then R.ok (D.tup (x::r++[y])) else .no)=_;rw [adU ⟨rfl,by grind⟩]
def tI (ns:List Int):D:=.tup (ns.map D.int)
def Aw (ns S:List Int):List (List Int):=S.map fun n=>ns++[n]
abbrev AB:FS:=LY
abbrev AI:FS:=(fY (cY (ai oO (aa JC aj))) (.one 7) AB)
abbrev AO:FS:=(ap (f6 5 (bP aj)) (ap (fY (cY (ae 2)) (.one 6) AI) (aJ 2 (ae 5))))
section
variable {a b f al:Option D}
theorem SY (hn:ns.length<=50):∀ (S:List Int) (acc:List (List Int)) (o7:Option D),acc.length+S.length<=900000->∃ g,cG (.one 7) AB (S.map D.int) [a,b,f,n,al,θ (.lst (acc.map tI)),θ (tI ns),o7]=.ok (.nx [a,b,f,n,al,θ (.lst ((acc++Aw ns S).map tI)),θ (tI ns),g])
 | [],acc,o7,_=>⟨o7,by unfold Aw;rw [acJ,acJ,Y9];rfl⟩
 | x::r,acc,o7,hl=>by
  obtain ⟨g,e⟩:=SY hn r (acc++[ns++[x]]) (θ (.int x)) (by grind);refine ⟨g,?_⟩;refine (bU (II rfl ((Kr (by grind))) (by grind))).trans ?_;have v:acc++Aw ns (x::r)=acc++[ns++[x]]++Aw ns r:=by unfold Aw;simp_all
  have u:(acc++[ns++[x]]).map tI=acc.map tI++[.tup (ns.map D.int++[.int x])]:=by unfold tI;grind
  rw [v,<- e,u];rfl
end
section
variable {a al:Option D} {qs:List Tq} (hn:(qs.map Tq.nm).Nodup) (hq:QOk q) (hm:q∈qs)
include hn hq hm
theorem Sw:∃ S:List Int,S.Perm (q.rs.map YD)/\∀ o5 o6 o7:Option D,ai oO (aa JC aj) [a,θ (vg qs),f,θ (.str q.nm),al,o5,o6,o7]=.ok (.lst (S.map D.int)):=by
 have r:=hq.l;obtain ⟨S,e,g⟩:=Ef (ns:=q.rs.map YD) (by grind);refine ⟨S,g,fun o5 o6 o7=>ak (ac (ak (ac ((nW (qG (fun q=>D.dcf (bn q.rs)) hn hm))) rfl) rfl) rfl) ?_⟩
 have:(bn q.rs).map (fun z=>j6 z.1)=(q.rs.map YD).map D.int:=by unfold bn;rw [Y5,Y5];rfl
 show wP ((bn q.rs).map fun z=>j6 z.1)=_;rw [this,e]
omit hn hq hm in
theorem Mo (v:∀ o5 o6 o7:Option D,ai oO (aa JC aj) [a,θ (vg qs),f,θ (.str q.nm),al,o5,o6,o7]=.ok (.lst (S.map D.int))):∀ (L acc:List (List Int)) (o6 o7:Option D),(∀ ns∈L,ns.length<=50)->acc.length+L.length*S.length<=900000->∃ g u,cG (.one 6) AI (L.map tI) [a,θ (vg qs),f,θ (.str q.nm),al,θ (.lst (acc.map tI)),o6,o7]=.ok (.nx [a,θ (vg qs),f,θ (.str q.nm),al,θ (.lst ((acc++L.flatMap fun ns=>Aw ns S).map tI)),g,u])
 | [],acc,o6,o7,_,_=>⟨o6,o7,by rw [List.flatMap_nil,Y9];rfl⟩
 | ns::r,acc,o6,o7,hl,hb=>by
  have hb:acc.length+(r.length+1)*S.length<=900000:=hb;rw [adB] at hb;obtain ⟨C,e⟩:=SY (hl ns (by simp)) S acc o7 (by lia);obtain ⟨g,u,I⟩:=Mo v r (acc++Aw ns S) ((tI ns)) C (fun x z=>hl x (lT _ z)) (by rw [YE];unfold Aw;rw [iN];lia);refine ⟨g,u,?_⟩;refine (bU (eR (eX (v _ _ _) rfl) e)).trans ?_
  grind
end
theorem Fa (S:List Int):∀ L:List (List Int),(L.flatMap fun ns=>Aw ns S).length=L.length*S.length
 | []=>by grind
 | z::r=>by rw [List.flatMap_cons,YE,Fa S r,YU,adB];unfold Aw;rw [iN];lia
def QW (ps:List (Tq×Str)) (ns:List Int):Prop:=ns.length=ps.length/\∀ (k:Nat) p,ps[k]?=θ p->(bI p.1.rs (ns.getD k 0)).isSome=ζ
theorem KY (h:QW ps ns) (hm:(bI p.1.rs m).isSome=ζ):QW (ps++[p]) (ns++[m]):=by
 obtain ⟨h1,h2⟩:=h;refine ⟨by simp_all,fun k q e=>?_⟩;rcases abI k ps.length with hk|hk
 .rw [aaq hk] at e
  grind
 .rw [aaj hk] at e;have  := by
   have:=(K2.mp e).1
   simp at this;omega
  rw [this] at e;cases e
  have:(ns++[m]).getD k 0=m:=by
   rw [Ze,aaj (by lia),h1,this];rfl
  rw [this];exact hm
section
variable {qs:List Tq} (hn:(qs.map Tq.nm).Nodup) (hq:∀ q∈qs,QOk q)
include hn hq
theorem LS:∀ (r d:List (Tq×Str)) (L:List (List Int)) (o3 o4 o5 o6 o7:Option D),(∀ p∈r,p.1∈qs)->d.length+r.length<=3->(∀ ns∈L,QW d ns)->L.length<=40 ^ d.length->∃ (M:List (List Int)) (v C I z u:Option D),cG (.tup [3,4]) AO (r.map Ru) [a,θ (vg qs),θ (.lst (L.map tI)),o3,o4,o5,o6,o7]=.ok (.nx [a,θ (vg qs),θ (.lst (M.map tI)),v,C,I,z,u])/\∀ ns∈M,QW (d++r) ns
 | [],d,L,o3,o4,o5,o6,o7,_,_,h,_=>⟨L,o3,o4,o5,o6,o7,rfl,by rw [Y9];exact h⟩
 | p::r,d,L,o3,o4,o5,o6,o7,hp,hl,h,hL=>by
  have hm:=hp p (by simp);have hQ:=hq _ hm;have hd:d.length<=2:=by rw [YU] at hl;lia
  obtain ⟨S,Z,es⟩:=Sw (a:=a) (f:=θ (.lst (L.map tI))) (al:=θ (.str p.2)) hn hQ hm;have sl:S.length<=40:=by rw [Z.length_eq,iN];exact hQ.l
  have big:L.length*S.length<=40 ^ (d.length+1):=by rw [Nat.pow_succ];exact Nat.mul_le_mul hL sl
  have b3:40 ^ (d.length+1)<=40 ^ 3:=Nat.pow_le_pow_right (by decide) (by lia);obtain ⟨p6,p7,e⟩:=Mo es L [] o6 o7 (fun ns g=>by have:=(h ns g).1;lia) (by rw [abo];have:40 ^ 3=64000:=rfl;lia);rw [abt] at e;have Y:∀ ns∈L.flatMap fun ns=>Aw ns S,QW (d++[p]) ns:=fun ns g=>by
   obtain ⟨ms,h1,h2⟩:=aaM.mp g;obtain ⟨m,h3,rfl⟩:=Do.mp h2;obtain ⟨q,q1,q2⟩:=Do.mp (Z.mem_iff.mp h3);refine KY (h ms h1) ?_;rw [<- q2,ud hQ.r.nd q1];rfl
  have J:(L.flatMap fun ns=>Aw ns S).length<=40 ^ (d++[p]).length:=by
   have e1:=Fa S L;rw [e1,YE];exact big
  obtain ⟨M,v,C,I,z,u,e2,h2⟩:=LS r (d++[p]) (L.flatMap fun ns=>Aw ns S) (θ (.str p.1.nm)) (θ (.str p.2)) (θ (.lst ((L.flatMap fun ns=>Aw ns S).map tI))) p6 p7 (fun x Y=>hp x (lT _ Y)) (by grind) Y J;refine ⟨M,v,C,I,z,u,?_,by grind⟩;exact (vm (((am (e)).trans rfl))).trans e2
theorem RG (ht:TrOk qs t):∃ L:List (List Int),Bx [t.d,vg qs]=.ok (.lst (L.map tI))/\∀ ns∈L,NnOk t ns:=by
 obtain ⟨L,o3,o4,o5,o6,o7,e,h⟩:=LS hn hq t.ps [] [[]] ξ ξ ξ ξ ξ ht.q (by have:=ht.l1;simp;lia) (fun ns g=>by rw [OR.mp g];exact ⟨rfl,fun k p e=>nomatch e⟩) (by simp)
 refine ⟨L,?_,fun ns g=>let ⟨h1,h2⟩:=h ns g;⟨h1,h2⟩⟩;exact aq (((am (e)).trans rfl))
end
theorem NG (c:Int):∃ m s:Nat,wy [.int c]=.ok (.tup [.int (m:Int),.int (s:Int)])/\m<=30/\1<=s/\s<=3:=by
 have key:∃ m s:Nat,aV (.lst [.tup [.int 5,.int 3],.tup [.int 4,.int 3],.tup [.int 12,.int 2],.tup [.int 30,.int 1],.tup [.int 3,.int 2]]) (.int (c % 5))=.ok (.tup [.int m,.int s])/\m<=30/\1<=s/\s<=3:=by
  have:c % 5=0\/c % 5=1\/c % 5=2\/c % 5=3\/c % 5=4:=by lia
  rcases this with e|e|e|e|e <;> rw [e]
  .exact ⟨5,3,rfl,by decide,by decide,by decide⟩
  .exact ⟨4,3,rfl,by decide,by decide,by decide⟩
  .exact ⟨12,2,rfl,by decide,by decide,by decide⟩
  .exact ⟨30,1,rfl,by decide,by decide,by decide⟩
  .exact ⟨3,2,rfl,by decide,by decide,by decide⟩
 obtain ⟨m,s,e,h⟩:=key;refine ⟨m,s,?_,h⟩;exact aq (av (e))
theorem rJ {W:Wl}:∀ {c:Cn},iy W c->∀ p∈c.parts,iy W p/\p.h<=c.h/\p.n<=c.n
 | .test z a b,h,p,hp=>by rw [OR.mp hp];grind
 | .neg c,h,p,hp=>by rw [OR.mp hp];grind
 | .or a b,h,p,hp=>by rw [OR.mp hp];grind
 | .and a b,h,p,hp=>by
  rcases xb.mp hp with hp|hp
  .obtain ⟨h1,h2,g⟩:=rJ h.1 p hp;exact ⟨h1,by show p.h<=max a.h b.h+1;lia,by show p.n<=a.n+b.n+1;lia⟩
  .obtain ⟨h1,h2,g⟩:=rJ h.2 p hp;exact ⟨h1,by show p.h<=max a.h b.h+1;lia,by show p.n<=a.n+b.n+1;lia⟩
theorem R0 {W:Wl} {f:Option Cn} (u:Cd W f) (r:hF f<=46) (hn:nF f<=130):∀ p∈fP f,iy W p/\p.h<=46/\p.n<=130:=fun p g=>by
 cases f with
 | none=>exact nomatch g
 | some c =>
  obtain ⟨h1,h2,v⟩:=rJ u.1 p g;exact ⟨h1,Le h2 r,Le v hn⟩
theorem mP {i:Nat} {B:FS} {st:Option D->Sd} (u:∀ o x,(st o).set i (θ x)=st (θ x)):∀ (xs:ad8),(∀ x∈xs,B (st (θ x))=.ok (.nx (st (θ x))))->∀ o,∃ g,cG (.one i) B xs (st o)=.ok (.nx (st g))
 | [],_,o=>⟨o,rfl⟩
 | x::r,h,o=>by
  obtain ⟨g,e⟩:=mP u r (fun y hy=>h y (lT _ hy)) (x);exact ⟨g,(bU (by grind)).trans e⟩
theorem law_true (ns:List Int) (hl:ns.length<=63):xx [.lst (ns.map D.int)]=.ok (.bl ζ):=by
 obtain ⟨m,s,em,hm,hs1,hs3⟩:=NG (cell ns 4);obtain ⟨qs,ch,n,ec,v,hG,hn1,hn3⟩:=B6 (cell ns 0 % 1000000000000) hm;obtain ⟨t,et,g⟩:=Pq (cell ns 1) v.o (by rw [v.l];lia) ⟨hs1,hs3⟩;have hW:t.W.length<=3:=by unfold Tre.W;rw [iN];exact g.l1
 have ea:=xM hG;have ek:iS [.lst ch]=.ok (vg qs):=J9 hG;have ep:=Jh g.h g.n;have el:=Kw g.f g.h g.n;have hP:=R0 g.f g.h g.n;obtain ⟨L,eL,hL⟩:=RG v.nd v.o g;have pP:Py 47 (.lst ((fP t.f).map Cn.d)):=Py.lst fun d J=>by
  obtain ⟨p,Z,rfl⟩:=Do.mp J;exact (mh (hP p Z).1).mono (hP p Z).2.1
 have ca:∀ (k:Int) (h:0<=k) {r:Sd},ai cR (aa (ae 0) (aa (vC (.int k)) aj)) (θ (.lst (ns.map D.int))::r)=.ok (.int (cell ns k)):=fun k h r=>ak (ac rfl (ac rfl rfl)) ((by
   obtain ⟨n,rfl⟩:∃ n:Nat,k=n:=⟨k.toNat,by lia⟩;have hq:aX (ao vB (ae 1) vU) [θ (.lst (ns.map D.int)),θ (.int n)]=.ok (((n:Int) < ns.length)):=aO (ag rfl ((jz _ _)) C9);unfold cell;rw [YZ,Ze];by_cases h:n < ns.length
   .rw [adX (by lia)] at hq;rw [lE h];exact aq (a8 ((aN hq).trans (av ((lF _ _ (lE h))))))
   .rw [adW (by lia)] at hq;rw [abJ (by lia)];exact aq ((skip hq).trans rfl)))
 have f2:∀ {a0 C a2 a3 z:Option D} {r:Sd},ao aV (ae 5) (vC (.int 2)) (a0::C::a2::a3::z::θ t.d::r)=.ok (pe t.f):=fun {a0 C a2 a3 z r}=>ag rfl rfl iQ;have tr:∀ {C z:Option D} {r:Sd},ai mT (aa Me (aa (ae 3) (aa (ae 2) aj))) (θ (.lst (ns.map D.int))::C::θ (.int (s:Int))::θ (.lst (qs.map jQ))::z::r)=.ok t.d:=fun {C z r}=>ak (ac (ca 1 (by decide)) (ac rfl (ac rfl rfl))) et;have Y:∀ {C z:Option D} {r:Sd},ao bG (ae 5) JK (θ (.lst (ns.map D.int))::C::θ (.int (s:Int))::θ (.lst (qs.map jQ))::z::θ t.d::r)=.ok (.bl ζ):=fun {C z r}=>ag rfl tr (g.p.eq (by decide) rfl);rw [TR,xu];refine aq ((am (F5 (ak (ac (ca 4 (by decide)) rfl) em) rfl)).trans ((am (F5 (ak (ac (ay (ca 0 (by decide)) (ag rfl rfl ((Td (by decide)).trans rfl))) (ac rfl rfl)) ec) rfl)).trans ((am (au tr)).trans ((am (au (ak (ac (Tx rfl) (ac rfl rfl)) ea))).trans ((am (au (ak (ac rfl rfl) ek))).trans ((am (au (ak (ac f2 rfl) ep))).trans ((skip (sk (oU (fw (LH rfl (by kernel_rfl)) rfl)) (aO (ag rfl (ak (ac f2 rfl) el) (pP.ne (by decide) rfl))))).trans ?_)))))));obtain ⟨o9,e9⟩:=mP (i:=9) (B:=SJ) (st:=fun o=>[θ (.lst (ns.map D.int)),θ (.int (m:Int)),θ (.int (s:Int)),θ (.lst (qs.map jQ)),θ (.lst ch),θ t.d,θ (.dcf (iX qs)),θ (vg qs),θ (.lst ((fP t.f).map Cn.d)),o,ξ,ξ,ξ]) (fun o x=>rfl) ((fP t.f).map Cn.d) (fun x I=>by
  obtain ⟨p,Z,rfl⟩:=Do.mp I;obtain ⟨h1,h2,h3⟩:=hP p Z;exact (b9 (aO (ag (ak (ac rfl rfl) (NL hW h1 h2 h3)) (ak (ac rfl rfl) (G5 hW h1 h2 h3)) (((fun ks=>Py.lst fun d J=>by
    obtain ⟨k,_,rfl⟩:=Do.mp J;exact Py.int _) _).ne (by decide) rfl)))).trans rfl) ξ
 refine (am (eR (eX rfl rfl) e9)).trans ((am (au (ak (ac rfl (ac rfl rfl)) eL))).trans ?_);have u:=wZ (Py.nil (ds:=L.map tI) (k:=1) (fun d J=>by
  obtain ⟨x,_,rfl⟩:=Do.mp J;exact (Py.tup fun d J=>by
    obtain ⟨i,_,rfl⟩:=Do.mp J;exact Py.int _)) (by decide))
 rw [iN] at u;by_cases M:0 < L.length
 .rw [adX M] at u;refine (skip (aO (ag rfl (bg rfl) u))).trans ?_;have li:∀ i:Int,∃ k:Nat,i % (L.length:Int)=(k:Int)/\k < L.length:=fun i=>im i M;obtain ⟨k2,ek2,hk2⟩:=li (cell ns 2);obtain ⟨k3,ek3,hk3⟩:=li (cell ns 3);obtain ⟨o11,e11⟩:=mP (i:=11) (B:=Tj) (st:=fun o=>[θ (.lst (ns.map D.int)),θ (.int (m:Int)),θ (.int (s:Int)),θ (.lst (qs.map jQ)),θ (.lst ch),θ t.d,θ (.dcf (iX qs)),θ (vg qs),θ (.lst ((fP t.f).map Cn.d)),o9,θ (.lst (L.map tI)),o,ξ]) (fun o x=>rfl) [.int ((0:Nat):Int),.int (k2:Int),.int (k3:Int),.int ((0:Nat):Int)] (fun x I=>by
   have:∃ k:Nat,k < L.length/\x=.int (k:Int):=by
    simp at I;rcases I with rfl|rfl|rfl|rfl
    .exact ⟨0,M,rfl⟩
    .exact ⟨k2,hk2,rfl⟩
    .exact ⟨k3,hk3,rfl⟩
    .exact ⟨0,M,rfl⟩
   obtain ⟨k,hk,rfl⟩:=this;exact (b9 (oU (fw (ak (ac rfl (ac rfl (ac rfl (ac (ag rfl rfl (lF tI L (lE hk))) rfl)))) (KJ v.nd v.o g (hL _ (YG hk)))) rfl))).trans rfl) ξ
  have lx:∀ (k:Int) (h:0<=k) (j:Nat),cell ns k % (L.length:Int)=(j:Int)->∀ {o11 C1:Option D},ao bc (ai cR (aa (ae 0) (aa (vC (.int k)) aj))) Pt [θ (.lst (ns.map D.int)),θ (.int (m:Int)),θ (.int (s:Int)),θ (.lst (qs.map jQ)),θ (.lst ch),θ t.d,θ (.dcf (iX qs)),θ (vg qs),θ (.lst ((fP t.f).map Cn.d)),o9,θ (.lst (L.map tI)),o11,C1]=.ok (.int (j:Int)):=fun k h j e o11 C1=>(ay (ca k h) (cz rfl (jz _ _)) (by lia)).trans (by rw [e]);refine (am (eR (eX (bg (ac rfl (ac (lx 2 (by decide) k2 ek2) (ac (lx 3 (by decide) k3 ek3) (ac rfl rfl))))) rfl) e11)).trans ?_;obtain ⟨C1,e12⟩:=mP (i:=12) (B:=So) (st:=fun o=>[θ (.lst (ns.map D.int)),θ (.int (m:Int)),θ (.int (s:Int)),θ (.lst (qs.map jQ)),θ (.lst ch),θ t.d,θ (.dcf (iX qs)),θ (vg qs),θ (.lst ((fP t.f).map Cn.d)),o9,θ (.lst (L.map tI)),o11,o]) (fun o x=>rfl) ((qs.map fun q=>(Key.inr q.nm,D.dcf (bn q.rs))).map fun q=>j6 q.1) (fun x I=>by
   rw [Y5] at I;obtain ⟨q,hq,rfl⟩:=Do.mp I;exact (b9 (aO (ag (zH (ag rfl rfl (nW (qG Tq.d v.nd hq))) Ml) (ag rfl rfl (nW (qG (fun q=>D.dcf (bn q.rs)) v.nd hq))) (Jc (v.o q hq).r)))).trans rfl) ξ
  exact (am (eR (vG rfl) e12)).trans (av (cF Y (ag (ak (ac f2 rfl) ep) rfl (pP.eq (by decide) rfl))))
 .rw [adW M] at u;exact a8 ((aN (aO (ag rfl (bg rfl) u))).trans (av Y))
end T70
namespace T70
open PySem L2
def pl (m:rW) (q:Nat×Nat×Nat):Nat×Nat×Nat×rW:=(q.1,q.2.1+(HD.gb q.1).1 - 1,q.2.1+(HD.gb q.1).1 - 2,m)
def LA:Pl:=HD.r0.map (pl HD.m335)++HD.r1.map (pl HD.m378)++HD.r2.map (pl HD.m378)++HD.r3.map (pl HD.m394)++HD.r4.map (pl HD.m394)++HD.r5.map (pl HD.m462)++HD.r6.map (pl HD.m520)++HD.r7.map (pl HD.m612)++HD.r8.map (pl HD.m612)++HD.r9.map (pl HD.m612)++HD.r10.map (pl HD.m612)++HD.r11.map (pl HD.m702)++HD.r12.map (pl HD.m793)++HD.r13.map (pl HD.m899)
theorem l0:(G.map fun q=>Qf (dQ q.1.i))=G.map fun q=>q.1.x:=by kernel_rfl
theorem l1 (w:Zv):(G.map fun q=>q.1.g.map (Y1 (HD.K w.params) YQ))=G.map fun q=>q.1.g.map fun _=>θ (θ (.ref (fA LA q.1.i))):=by kernel_rfl
theorem l2 (w:Zv):(G.map fun q=>(HD.K w.params).lookup (fA LA q.1.i))=G.map fun q=>θ ⟨.type "function",ξ,.func (fD dQ LA q.1.i),#[]⟩:=by kernel_rfl
theorem l3 (w:Zv):(G.map fun q=>(abC (HD.K w.params) (.ref (cA LA q.1.i)) q.1.x,aa5 (HD.K w.params) (.ref (fA LA q.1.i))))=G.map fun _=>(ζ,ζ):=by kernel_rfl
theorem l4:G.map (XH dQ)=G.map YA:=by kernel_rfl
theorem l5 (w:Zv):(cT.map fun q=>(Y1 (HD.K w.params) YQ q.1).bind fun o=>o.bind (US (HD.K w.params)))=cT.map fun q=>θ q.2:=by kernel_rfl
theorem l6 (w:Zv):zT.map (Y1 (HD.K w.params) YQ)=zT.map fun _=>θ ξ:=by kernel_rfl
theorem all_mk {l:acK} {w:Zv} {h:abh} {mg:ad4} {Z:YS} (X:(HD.K w.params).In h) (N:h.Ns YQ mg) (L:mg "law"=θ (.ref Z)) :
  ∃ fd:aaS,(∀ (s:IF) (v:rW),BindsTo s fd ⟨[v],[]⟩ [("_law_script",v)])/\∀ base:abh,(HD.K w.params).In base->base.Ns YQ mg->FnOk l.prog w (HD.K w.params) mg base l8 105 Z fd ((nN 116).take 1) (vV (HD.K w.params) mg xx):=by
 have M:=Ot X N l0 (l1 w) (l2 w) (l3 w) l4 (by kernel_rfl);have pT:Y1 (HD.K w.params) YQ "FORMS"=θ (θ (.ref 446)):=by kernel_rfl
 have J:(HD.K w.params).lookup 446=θ ⟨.type "dict",ξ,.dict #[HD.ke w.params "table" 795 (.int 2 796),HD.ke w.params "index" 797 (.int 3 798),HD.ke w.params "put" 799 (.int 4 800),HD.ke w.params "drop" 801 (.int 3 802)] 4,#[]⟩:=by kernel_rfl
 have I:abr w.params #[HD.ke w.params "table" 795 (.int 2 796),HD.ke w.params "index" 797 (.int 3 798),HD.ke w.params "put" 799 (.int 4 800),HD.ke w.params "drop" 801 (.int 3 802)].toList:=⟨⟨_,_,rfl,rfl⟩,⟨⟨_,_,rfl,rfl⟩,⟨⟨_,_,rfl,rfl⟩,⟨⟨_,_,rfl,rfl⟩,Y6⟩⟩⟩⟩;have vQ:#[HD.ke w.params "table" 795 (.int 2 796),HD.ke w.params "index" 797 (.int 3 798),HD.ke w.params "put" 799 (.int 4 800),HD.ke w.params "drop" 801 (.int 3 802)].toList.map (fun e=>Kq e.key)=(iw.map (·.1)).map θ:=by kernel_rfl
 have vR:(446==Z6)=η:=by kernel_rfl
 have g:Y1 (HD.K w.params) 446 "drop"=θ (θ (.int 3 802)):=by kernel_rfl
 have z:Y1 (HD.K w.params) 446 "put"=θ (θ (.int 4 800)):=by kernel_rfl
 have C:Y1 (HD.K w.params) 446 "index"=θ (θ (.int 3 798)):=by kernel_rfl
 have r:Y1 (HD.K w.params) 446 "table"=θ (θ (.int 2 796)):=by kernel_rfl
 have vS:mg "Table"=θ (.ref 401):=acw X N (by kernel_rfl);have iV:RX (HD.K w.params) "Table" 401:=(by kernel_rfl:Y1 (HD.K w.params) YQ "Table"=θ (θ (.ref 401)));have f9:IsC (HD.K w.params) 401:=⟨⟨by kernel_rfl,by kernel_rfl,by kernel_rfl,by kernel_rfl⟩,by kernel_rfl,by kernel_rfl,by kernel_rfl,by kernel_rfl,by kernel_rfl,by kernel_rfl,by kernel_rfl,by kernel_rfl⟩;have rV:Mk (HD.K w.params) 401 398:=⟨by kernel_rfl,by kernel_rfl,by kernel_rfl,by kernel_rfl⟩;have nh:Fun (HD.K w.params) "__init__" "Table.__init__" iU 398 (aaD "__init__" "Table.__init__" (i5 iU) (eJ iU) (aY iU) .none .none .none HD.m702 ξ (.ref 397) .none):=EK (oc:=.type "function") (od:=ξ) (osl:=#[]) (by kernel_rfl) (by kernel_rfl) (by kernel_rfl);have rX:=nh.binds (ps:=["self","shape","rows","indexes"]) fun _ _ _ _ _ _=>ln4 (fun _ _ _ _=>rfl);have eY:eN (HD.K w.params) 401 "shape":=(by kernel_rfl:ZW (HD.K w.params) (.ref 401) "shape"=θ ξ);have fR:eN (HD.K w.params) 401 "rows":=(by kernel_rfl:ZW (HD.K w.params) (.ref 401) "rows"=θ ξ);have c8:eN (HD.K w.params) 401 "indexes":=(by kernel_rfl:ZW (HD.K w.params) (.ref 401) "indexes"=θ ξ);have hq:(df 116 1 104,Mr.pl xu)∈G:=YO (i:=79) rfl;have e:=L.symm.trans ((M _ hq).m "law" Zc);cases e;refine ⟨fD dQ LA 116,fun s v=>.of_eq (by rfl),fun base _ _=>?_⟩;have T:Txt w (HD.K w.params) mg _ _ _ _ _ _:=⟨MS X N (l5 w),Ul X N (l6 w),acw X N pT,J,I,fun y d e=>tab_of (tab:=iw) (P:=fun y d=>∃ v u,Y1 (HD.K w.params) 446 y=θ (θ u)/\aQ v u/\∀ H,cr (HD.K w.params) H d v) (aav.mpr ⟨⟨.int 2,.int 2 796,r,⟨_,rfl⟩,fun H=>rfl⟩,(aav.mpr ⟨⟨.int 3,.int 3 798,C,⟨_,rfl⟩,fun H=>rfl⟩,(aav.mpr ⟨⟨.int 4,.int 4 800,z,⟨_,rfl⟩,fun H=>rfl⟩,(aav.mpr ⟨⟨.int 3,.int 3 802,g,⟨_,rfl⟩,fun H=>rfl⟩,(fun _ h=>nomatch h)⟩)⟩)⟩)⟩) e,pT,vQ,vR,vS,iV,f9,rV,nh,rX,eY,fR,c8⟩
 exact D8 (fun Y k y=>hTb T y) (hX T) G aC (hA T) M chk _ hq
theorem walk {l:acK} {q:Z9} {loose:ad1} {XP:(ad4)->abh->Prop} {v:Zv->abh->Prop} {d:DefRec} {K:acn->aT} (hn:l.most=θ 63) (r:d.params.defaults=[])
  (J:∀ (w:Zv) (h:abh),v w h->(K w.params).In h)
  (F:∀ (w:Zv) (mg:ad4) (g:YS) (h:abh),(K w.params).In h->h.Ns YQ mg->mg d.name=θ (.ref g) ->
   ∃ fd:aaS,(∀ (s:IF) (u:rW),BindsTo s fd ⟨[u],[]⟩ [("_law_script",u)])/\∀ base:abh,(K w.params).In base->base.Ns YQ mg->FnOk l.prog w (K w.params) mg base l8 105 g fd ((nN 116).take 1) (vV (K w.params) mg xx)) :
  PySem.W.WalkO q loose XP v l.row.toRowW d [] (fun f vs=>ads f vs) :=
 L2.Jj (n:=63) (k:=105) (x:="_law_script") (CX:=fun _=>l8) (sp:=fun w=>Fb (K w.params) xx) hn (by decide) r ⟨rfl,by decide,by decide⟩ J (fun w mg g h h1 h2 C=>Jp (F w mg g h h1 h2 C)) (fun _ _ a ns I _ L=>Iw L (law_true ns I) fun _=>rfl) fun _ _ _ _ _ z=>z
end T70
open PySem PySem.W PyProof.Rows
set_option maxRecDepth 100000 in
set_option maxHeartbeats 0 in
theorem PySem.Challenge.cw_tablestore_k70_conditions_judged_holds : PySem.Challenge.rw_tablestore_k70_conditions_judged.Holds := by
 refine HD.hold (L2.walkX (fun _=>by kernel_rfl) ?_);exact T70.walk (l:=PySem.Challenge.rw_tablestore_k70_conditions_judged) (K:=HD.K) rfl (by kernel_rfl) (fun w h Y=>Y) fun w mg fa h KX G hmg=>T70.all_mk KX G hmg
