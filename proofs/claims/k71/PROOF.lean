import PyProof.Rows.All
import Wide.All
import OpenK.AllK
import Wide.FinOn
import Lean
import PyProof.EqAt
import PyProof.EqKinds
import PyProof.TupleCall
import PyProof.ZipIter
import PyProof.Draws
import PyProof.EnumMake
import PyProof.Rows.SetFrom
import KE.KIntText
import KE.IntTextLaws
import KE.KSortTup
import PyProof.StrLawsChain
import PyProof.StrCalls6
import PyProof.ExcAttrAll.ValueError
import PySem.Challenge.RW_tablestore_k71_bounds_and_ways
set_option maxHeartbeats 4000000
set_option genSizeOf false
set_option bootstrap.genMatcherCode false
set_option maxRecDepth 100000
set_option linter.all false
set_option compiler.extract_closed false
open Array renaming toList_append->adS,perm_iff_toList_perm->ad1,toList_map->aet,getElem?_toList->aeG,length_toList->aeW,mk->afc,toList_inj->afw
open Bool renaming false_ne_true->GT,and_eq_true->Pi,eq_iff_iff->aca,and_eq_true_iff->ac8,not_eq_true'->adC,eq_false_iff->adD,false_eq_true->afa
open False renaming elim->abZ
open ForInStep renaming yield->adR
open Int renaming toNat_natCast->abf,emod_nonneg->abM,emod_lt_of_pos->acd
open List renaming mem_cons_of_mem->iN,length_map->lE,getElem?_eq_getElem->lT,mem_cons->mK,mem_append->By,mem_map->BY,map_cons->GE,mem_append_right->aaM,mem_singleton->aaS,length_append->aaT,length_cons->aaU,getElem?_eq_some_iff->aaW,getElem_mem->aaX,size_toArray->aaY,mem_of_getElem?->aaZ,nodup_cons->aa4,map_append->aa5,range->aa7,mem_cons_self->aa8,mem_filter->aba,of_mem_zip->abb,map_map->abd,mem_append_left->abh,forall_mem_cons->abi,not_mem_nil->abj,append_nil->abk,find?_cons->abl,take_succ_eq_append_getElem->abo,append_assoc->abr,length_range->abt,length_filter_le->abv,map_congr_left->abB,mem_range->abD,length_take->abE,all_eq_true->abF,nodup_nil->abG,map_inj_left->abH,take_of_length_le->abJ,all_cons->abO,getD_eq_getElem?_getD->ab2,filter_cons->ace,mem_of_mem_take->acg,length_drop->acu,lookup_cons->acv,mem_filterMap->acx,lookup->acz,mem_of_mem_drop->acD,getElem?_map->acF,mem_map_of_mem->acN,length_eq_one_iff->acS,zip_cons_cons->acU,length_singleton->acZ,foldl_cons->ac0,reverse_cons->ac4,set->ac5,replicate->adb,getElem?_append_left->ade,length_nil->adp,nodup_append->adE,mem_flatMap->adO,mem_iff_getElem->adQ,filter_sublist->adT,getElem?_append_right->adZ,find?_eq_none->ad4,drop_eq_getElem_cons->ad8,ext_getElem?->aei,flatMap_cons->aej,getElem?_replicate->ael,getElem?_cons_zero->aeo,filter_cons_of_pos->aep,take_length->aes,getElem?_set_self->aeu,drop_eq_nil_of_le->aey,flatMap_singleton->aeA,getElem?_eq_none->aeF,getElem?_set_ne->aeO,filterMap_cons->aeV,length_reverse->aeZ,filter_eq_self->ae0,any_cons->ae7,map_drop->afb,take_sublist->afh,length->afA
open Nat renaming le_refl->nE,le_trans->Le,lt_of_lt_of_le->OR,zero_le->aaQ,ne_of_lt->aa0,min_eq_left->acI,lt_irrefl->acM,lt_succ_self->adg,le_add_right->adh,le_succ_of_le->adz,le_succ->adB,ne_of_gt->adI,zero_add->adL,div_le_div_right->adP,not_lt_zero->adU,lt_or_ge->ad3,lt_succ_of_lt->aeh,add_mul_div_right->aeH,le_of_lt->afq,le_of_eq->afr
open Ne renaming symm->acR
open Option renaming bind_eq_some_iff->bY,map_eq_some_iff->iF,bind_some->acf,isSome_map->acG,isSome_iff_exists->aef,map_eq_none_iff->aez,getD_none->aft,map_some->afC
open Option.some renaming inj->ab9,injEq->afm
open Or renaming inr->abS,inl->acH
open Prod renaming fst->LX
open PyProof.Rows renaming slot_tuple_getitem->abq,seqObj->abC,callWith_type1->abU,callWith_builtin1->adJ,listUpdate_at->aeq,envOfC->aeK,IsTup->afo
open PyProof.Rows.SortSt renaming mk'->afG
open PySem renaming wpAny_bind->dO,Value->oR,wpAny_pure->rW,Shared->DO,bootBuiltins->MK,sizeLine->RW,wpAny->aaN,mainGlobals->aaR,model->aaV,compareOp->aa1,starEach->aa2,Addr->aa3,attributeBase->abg,wpAny_Call_Name_kw->abm,wpAny_mono->abn,Expr->abu,assignEach->abz,World->abA,foldedSetIterable->abI,Program->abN,sizeLine_eq->abR,wpAny_holding->abW,wpAny_field->abX,wpAny_callSpecial?_slot->abY,sysModules->ab0,wpAny_call_entry->ab1,binaryOp->ab3,PyData->ab7,wpAny_isNot_plain->ab8,wpAny_truthy_bool->aci,wpAny_newObj_type->acj,mem_of_lookup->ack,swapsWith->acq,Around->acy,wpAny_is_plain->acB,FuncData->acE,wpAny_passesOwn->acJ,backTo->acL,behindInMarks->acO,OsState->acP,Heap->acV,tupleKind_room_in1->acW,codeAny_mono->ac1,Stmt->ac2,keywordEach->adj,codeAny->adt,cLine->adu,Keyword->adv,Params->ady,sliceBounds->adF,NameKind->adH,PassesOwn->adM,wpAny_execs_nil->adV,wpAny_loadPart'->adW,treeTable->adX,getItem->aea,letOwnedTupleGo->aeI,rawInt->aeJ,wpAny_rule->aeM,evalArgs_none->aeX,standAt->ae1,wpAny_of_eq->ae2,wpAny_attempt->afd,call->afj,Within->afp
open PySem.Around renaming under_plainId->acC
open PySem.Builtin.Builtins renaming bindParams->aco
open PySem.Builtin.Slice renaming slicePlaces->acA,sliceAdjust->ad6
open PySem.Builtin.SmallTypes renaming nextOf->abL,ownedTupleIsFree->abQ,ownedTupleHandOut->adf
open PySem.Builtin.Str renaming strSliceIndices->acm,occurrences->adn
open PySem.Builtin.Tuple renaming tupleExact->adl,tupleItemsOf->ad0
open PySem.Calls renaming callWith_builtin->ab4,spliced_cons->acT,evalArgs_plain->ac7,spliced_nil->adA,Name_function_global->adY
open PySem.F renaming called_set->abV,slot_NoneType_hash->acr,args_tuple_add_2->adk,entry_tuple_add->ado,plainAttrs_dict->adq,slot_tuple_add->adx,slot_dict_get->adK,slot_dict_getitem->ad7,slot_tuple_index->aeg,args_dict_get_3->aem,plainAttrs_list->aen,entry_dict_get->aev,plain_max_loop->aew,plain_min_loop->aex,slot_dict_pop->aeC,plain_set_new->aeE
open PySem.Heap renaming get?_push_of_some->eQ,get?_push_size->Do,lt_size->ID,SameBut->aby,size_push->abK,get?_update_other->ab5,get?_none_of_le->aeN,get?_push_ne->afn,ExtBut->afB
open PySem.Heap.IsSliceOf renaming new->ae6
open PySem.Heap.SameBut renaming update->adi
open PySem.IsL renaming update->afv
open PySem.NameKind renaming free->abP,cell->afH
open PySem.Obj renaming mapSeq->abe,data_mapFields->ae9
open PySem.Paired renaming length->aek
open PySem.PassesOwn renaming never->afE
open PySem.PyData renaming canLayAll0->aa6,eqv->abw,depthAll->acb,depth->acY,tuple->adm,canLay0->adG
open PySem.SeqAt renaming shaped->aaP,canLay_of_shaped->ab6,notIn_listAt->ae8,EqAt->afi,in_tupleAt->afu
open PySem.SeqAt.EqAt renaming int_none->aeR,str_none->aeS,none_int->aeT,none_str->aeU,int_str->ae3,str_int->ae4,same->afx
open PySem.Str renaming ofString->IF
open PySem.Txt renaming join->aeL
open PySem.Value renaming ref->acw,isStrOf->ac3,type->aeb,isInt->aeQ,none->afe,bool->afF
open PySem.W renaming Frag->aT,nsIn->aaO,kia_one->abp,findIn->abT,emptyDict->ach,KeysLit->acn,codeHdIn->acs,fnOf->acK,tabObj->acQ,instObj->acX,looks_pair->ac6,kitOne->ac9,keepIn->ada,mg_of->ads,cellsFrom_some->adw,boot_heap->adN,callWith_K->ad2,codeIn->ad5,kla_fn->ad9,hasDictIn->aec,kitx_list->aed,kitx_dict->aee,plainGet->aer,takerIn->aeB,OpenLaw->aeD,lookIn->aeP,codeHd_of_K->aeY,kitx_tuple->ae5,plainOver->aff,specialIn->afg,handedIn->afs,makesIn->afy,takesIn->afz,mapOf_K->afD
open PySem.W.Fast renaming te14364793385576792824->abx,te10110043849684766642->acp
open PySem.Walks renaming list->afk
open PySem.WalksT renaming enumerateD->afl
open True renaming intro->aa9
open Option renaming some->θ,none->ξ
open Bool renaming true->ζ,false->η
def afI:=@if_pos
def afJ:=@if_neg
def afK:=@decide_eq_false
def afL:=@decide_eq_true
def afM:=@of_decide_eq_true
def afN:=@congrArg
abbrev afO:=List Nat
abbrev afP:=List PySem.Str
abbrev afQ:=List (PySem.Addr×PySem.Obj)
abbrev afR:=PySem.Value->PySem.Shared->Prop
abbrev afS:=PySem.Str->Option PySem.Value
abbrev afT:=List PySem.Addr
abbrev afU:=List PySem.Value
abbrev afX (x:PySem.Str):Prop:=(x==("__debug__":PySem.Str))=η
local macro_rules|`(tactic|walk_at "v")=>`(tactic|first|exact Or.inl rfl|exact Or.inr (Or.inl rfl)|exact Or.inr (Or.inr rfl))
local macro_rules|`(tactic|walk_at "u")=>`(tactic|first|exact Or.inl rfl|exact Or.inr rfl|assumption)
local macro_rules|`(tactic|trivial)=>`(tactic|decide +kernel)
namespace L2
def cP {α β g ε:Type} {p q:α->β->g->ε->Prop} {r:Prop} (h:∃ a b c d,p a b c d/\q a b c d) (k:∀ a b c d,p a b c d->q a b c d->r):r:=by
 obtain ⟨a,b,c,d,x,y⟩:=h;exact k a b c d x y
def ji {α β:Type} {p q r:α->β->Prop} {z:Prop} (h:∃ a b,p a b/\q a b/\r a b) (k:∀ a b,p a b->q a b->r a b->z):z:=by
 obtain ⟨a,b,x,y,w⟩:=h;exact k a b x y w
end L2
set_option Elab.async false
noncomputable section
namespace HD
open PySem PySem.W PySem.Calls PyProof.Rows
abbrev p:abN:=PySem.Challenge.pw_tablestore_k71_bounds_and_ways
def bd:List ac2:=behindTheImports p
def S (i:Nat):ac2:=match p.main.body[i]? with|some s=>s|none=>.Pass default
def Sc (i j:Nat):ac2:=match S i with
 | .ClassDef _ _ _ b _ _ _ _ _ _ _=>(match b[j]? with|some s=>s|none=>.Pass default)
 | s=>s
def dA (s:ac2):Arguments:=match s with
 | .FunctionDef _ a _ _ _ _ _ _ _ _=>a
 | _=>⟨[],[],ξ,[],[],ξ,[]⟩
def dB (s:ac2):List ac2:=match s with
 | .FunctionDef _ _ b _ _ _ _ _ _ _=>b
 | _=>[]
noncomputable def dS (s:ac2):Scope:=match s with
 | .FunctionDef _ _ _ _ _ _ sc _ _ _=>sc
 | _=>{ kind:=.function,names:=[],isGenerator:=η,isCoroutine:=η }
def fn (s:ac2) (n z:Str) (g:aa3) (u:List (Str×aa3)) (d kd r C:oR) (v:Option aa3) (J I:oR) (bl:aa3):acE:=⟨n,z,dA s,.stmts (dB s),dS s,g,u,d,kd,r,C,v,J,I,bl⟩
def dN (s:ac2):Str:=match s with
 | .FunctionDef n _ _ _ _ _ _ _ _ _=>n
 | _=>""
def tu (l:afU):Obj:=⟨.type "tuple",ξ,.seq l.toArray 0,#[]⟩
def tn (t:Nat):afP->afU
 | []=>[]
 | x::r=>.str x t::tn (t+1) r
def tr (k:Int):List (Int×Nat)->afU
 | []=>[]
 | x::r=>.int x.1 0::.int k 0::.ref x.2::tr k r
def fi (l:afU):Obj:=⟨.none,ξ,.fields l.toArray,#[]⟩
def fu (s:ac2) (m:oR) (c:Nat):Obj:=⟨.type "function",ξ,.func (fn s (dN s) (dN s) 3 [] .none .none .none m ξ (.ref c) .none 0),#[]⟩
def pr (s:ac2):Obj:=⟨.none,ξ,.func (fn s (dN s) (dN s) 0 [] .none .none .none .none ξ .none .none 0),#[]⟩
noncomputable def co (n q:Str) (t:Nat) (l a b c d:Int) (v:Nat) (o:Bool) (u:Nat) (x y z:oR) (k:Nat):Obj:=⟨.type "code",ξ,.fields #[.str n t,.str q (t+1),.str "/claim/cut.py" (t+2),.int l 0,.int a 0,.int b 0,.int c 0,.int d 0,.ref v,.bool o,.int 181 0,.ref u,.none,x,y,z,.int k 0,.int l 0,.str "/claim/cut.py" (k+1)],#[]⟩
def tO (l:List Obj) (n:Nat):Nat->Nat->Nat->BT
 | 0,_,_=>.nil
 | f+1,a,b=>if b < n then .node (l.getD b ⟨.none,ξ,.plain,#[]⟩) (tO l n f (2*a) (a+b)) (tO l n f (2*a) (2*a+b)) else .nil
noncomputable def ke (P:ady) (x:Str) (t:Nat) (v:oR):DictEntry:=⟨PyData.keyHash P x,.str x t,v⟩
def en:Env:={ scope:=p.main.scope,locals:=mainNs,globals:=mainNs,cells:=[],code:=(.ref 13),frame:=θ 14 }
def cE:Code:=.body bd en
abbrev fq:Pos:=⟨0,0,0,0⟩
def o11:Obj:=tu []
def KK:Obj:=fi []
def WL (g:Nat) (v:Nat) (u:Str) (r:Nat):Obj:=⟨(.type "frame"),ξ,.plain,#[(θ (.ref g)),(θ (.ref 3)),(θ (.ref v)),ξ,(θ (.str u r)),ξ,(θ (.ref 0))]⟩
def ZY (P:ady):List Obj:=[boot_o_0 P,boot_o_1 P,boot_o_2 P,boot_o_3 P,boot_o_4 P,boot_o_5 P,boot_o_6 P,boot_o_7 P,boot_o_8 P,boot_o_9 P,boot_o_10 P,o11,KK,co "<module>" "<module>" 182 1 0 0 0 0 11 η 12 .none .none .none 185,WL 13 3 "__main__" 164]
def T0 (P:ady):BT:=tO (ZY P) 15 12 1 0
def rA (w:abA) (os:acP):topGo adX p w 11 (θ (.ref 6)) 12 ⟨adN w.params,afc [],boot_drawn,boot_toks,os⟩ (topStub p)=θ ((⟨T0 w.params,15,{},#[],{},187,os⟩:SharedT).abs,⟨denote adX cE,cE,⟨0,0,0,0⟩,[topFrame fq]⟩):=by
 rw [PySem.W.Fast.te15667345088766844465,abx,PySem.W.Fast.te11892475500146522536];kernel_rfl
def rB (w:abA) (os:acP):segRunT adX p w 11 (θ (.ref 6)) 1 1 (⟨T0 w.params,15,{},#[],{},187,os⟩:SharedT) (blockOf bd en cE ⟨0,0,0,0⟩ [topFrame fq])=θ (.next,(⟨T0 w.params,15,{},#[],{},187,os⟩:SharedT),cE,⟨0,0,0,0⟩):=by
 rw [acp,abx];kernel_rfl
def Zw:Obj:=⟨(.type "builtin_function_or_method"),ξ,(.fields #[(.builtin "type.__prepare__"),(.type "type")]),#[]⟩
def aai (P:ady) (g:Nat) (v:Str) (u:Int) (r:Nat):Obj:=⟨(.type "dict"),ξ,(.dict #[ke P "__module__" g (.str "tablestore.errors" 187),ke P "__qualname__" (g+2) (.str v (g+1)),ke P "__firstlineno__" (g+4) (.int u (g+3)),ke P "__static_attributes__" (g+5) (.ref r)] 4),#[]⟩
def Yq (g:Nat):Obj:=⟨(.type "super"),ξ,(.fields #[(.ref g),(.ref g),(.ref g)]),#[]⟩
def XH (g:Nat):Obj:=⟨(.type "builtin_function_or_method"),ξ,(.fields #[(.builtin "object.__init_subclass__"),(.ref g)]),#[]⟩
def o28:Obj:=tu [.ref 24]
def tq4 (P:ady) (g:Nat) (u:Int) (r:Nat):Obj:=⟨(.type "dict"),ξ,(.dict #[ke P "__module__" g (.str "tablestore.errors" 187),ke P "__firstlineno__" (g+4) (.int u (g+3)),ke P "__static_attributes__" (g+5) (.ref r),ke P "__doc__" (g+6) .none] 2),#[]⟩
def tq5 (g:Str) (z:Nat) (v:Nat) (u:Nat) (r:Nat):Obj:=⟨(.type "type"),ξ,(.cls { name:=g,bases:=[(.ref 24)],mro:=[(.ref z),(.ref 24),(.type "ValueError"),(.type "Exception"),(.type "BaseException"),(.type "object")],ns:=v,qualname:=g,hasDict:=ζ,slotNames:=[],subclasses:=[],abstract:=η,collection:=ξ,hasDel:=η }),#[(θ (.ref u)),ξ,(θ (.str g r)),(θ (.str g (r+8))),(θ (.builtin "ValueError.__new__")),(θ (.bool ζ))]⟩
def m335:oR:=.str "tablestore.values" 335
def m378:oR:=.str "tablestore.conditions" 378
def m397:oR:=.str "tablestore.plans" 397
def m473:oR:=.str "tablestore.ordered" 473
def m531:oR:=.str "tablestore.shapes" 531
def m623:oR:=.str "tablestore.balance" 623
def m712:oR:=.str "tablestore.tables" 712
def m803:oR:=.str "tablestore.states" 803
noncomputable def m909:oR:=.str "law_tablestore_k71_bounds_and_ways" 909
def g0:List ac2:=(bd.drop 0).take 111
def lN (i:Nat):Option (List Str×afP):=localNames (dA (S i)) (dS (S i)) (.stmts (dB (S i)))
def dL (i:Nat):Nat:=match S i with
 | .FunctionDef _ _ _ _ _ _ _ _ _ x=>x.line
 | _=>0
def gA (m:oR) (q:Nat×Nat×Nat):List Obj:=let s:=S q.1;let a:=q.2.1;let t:=q.2.2;match lN q.1 with
 | some l=>[o11,KK,tu (tn (t+3) l.1),o11,pr s,co (dN s) (dN s) t (dL q.1) (dA s).args.length 0 0 3 a ζ (a+1) (.ref (a+2)) (.ref (a+3)) (.ref (a+4)) (t+3+l.1.length),fu s m (a+5)]
 | none=>[o11,KK,pr s,co (dN s) (dN s) t (dL q.1) (dA s).args.length 0 0 3 a ζ (a+1) .none .none (.ref (a+2)) (t+3),fu s m (a+3)]
def gb (i:Nat):Nat×Nat:=match lN i with
 | some l=>(7,6+l.1.length)
 | none=>(5,6)
def ru:Nat->Nat->Nat->Nat->List (Nat×Nat×Nat)
 | 0,_,_,_=>[]
 | n+1,i,a,t=>(i,a,t)::ru n (i+1) (a+(gb i).1) (t+(gb i).2)
def gK (P:ady) (q:Nat×Nat×Nat):DictEntry:=ke P (dN (S q.1)) (q.2.2+(gb q.1).2 - 1) (.ref (q.2.1+(gb q.1).1 - 1))
def gR (q:Nat×Nat×Nat):Int×Nat:=(dL q.1,q.2.1+(gb q.1).1 - 2)
def gX (P:ady) (n:Str) (l:Int) (a t:Nat):List Obj:=[o28,Zw,aai P (t+7) n l (a+7),o11,KK,co n n (t+2) l 0 0 0 0 (a+3) η (a+4) .none .none .none (t+5),WL (a+5) (a+2) "tablestore.errors" 187,o11,tq4 P (t+7) l (a+7),tq5 n (a+9) (a+8) a t,Yq (a+9),XH (a+9)]
def r0:=ru 5 13 125 343
def r1:=ru 1 19 158 380
def r2:=ru 1 21 165 388
def r3:=ru 4 26 175 426
def r4:=ru 6 34 203 481
def r5:=ru 10 45 247 552
def r6:=ru 3 56 311 625
def r7:=ru 1 59 330 653
def r8:=ru 6 61 335 660
def r9:=ru 6 69 396 747
def Yb:=ru 10 77 437 818
def Yj:=ru 23 88 507 911
def aaD (P:ady):List Obj:=((ZY P).set 3 (⟨(.type "dict"),ξ,(.dict ([ke P "__name__" 165 (.str "law_tablestore_k71_bounds_and_ways" 909),ke P "__doc__" 166 .none,ke P "__package__" 167 .none,ke P "__loader__" 168 (.builtin "__main__.__loader__#opaque"),ke P "__spec__" 169 .none,ke P "__annotations__" 170 (.ref 6),ke P "__builtins__" 171 (.ref 4),ke P "__file__" 173 (.str "/claim/cut.py" 172),ke P "__cached__" 174 .none,ke P "TableError" 206 (.ref 24),ke P "BadShape" 222 (.ref 37),ke P "BadChange" 238 (.ref 49),ke P "BadRow" 254 (.ref 61),ke P "NoTable" 270 (.ref 73),ke P "TableThere" 286 (.ref 85),ke P "NoColumn" 302 (.ref 97),ke P "IndexThere" 318 (.ref 109),ke P "NoRow" 334 (.ref 121),ke P "KINDS" 340 (.ref 124),ke P "MOST_SIGNS" 342 (.int 40 341)]++r0.map (gK P)++[ke P "parts_of" 386 (.ref 334),ke P "parts_of_conditions" 387 (.ref 164)]++r2.map (gK P)++[ke P "TURNED" 417 (.ref 172),ke P "LOW_SIGNS" 421 (.ref 173),ke P "HIGH_SIGNS" 425 (.ref 174)]++r3.map (gK P)++[ke P "FEWEST" 476 (.int 4 475),ke P "MOST" 478 (.int 8 477),ke P "MOST_ROW_NUMBER" 480 (.int 1000000000 479)]++r4.map (gK P)++[ke P "NO_NAMES" 544 (.ref 245),ke P "COLUMN_KINDS" 547 (.ref 246),ke P "MOST_LETTERS" 549 (.int 8 548),ke P "MOST_COLUMNS" 551 (.int 8 550)]++r5.map (gK P)++r6.map (gK P)++[ke P "parts_of_balance" 659 (.ref 334)]++r8.map (gK P)++[ke P "Table" 746 (.ref 391)]++r9.map (gK P)++[ke P "FORMS" 817 (.ref 436)]++Yb.map (gK P)++Yj.map (gK P)).toArray 109),#[]⟩)).set 12 (fi (tr 0 ([(2,20),(4,33),(6,45),(8,57),(10,69),(12,81),(14,93),(16,105),(18,117)]++r0.map gR++[(46,163)]++r2.map gR++r3.map gR++r4.map gR++r5.map gR++r6.map gR++[(174,333)]++r8.map gR++[(218,380)]++r9.map gR++Yb.map gR++Yj.map gR)))++([tu [.type "ValueError"],Zw,aai P 196 "TableError" 2 22,o11,KK,co "TableError" "TableError" 191 2 0 0 0 0 18 η 19 .none .none .none 194,WL 20 17 "tablestore.errors" 187,o11,⟨(.type "dict"),ξ,(.dict #[ke P "__module__" 196 (.str "tablestore.errors" 187),ke P "__firstlineno__" 200 (.int 2 199),ke P "__static_attributes__" 201 (.ref 22),ke P "__weakref__" 203 (.ref 25),ke P "__doc__" 204 .none] 3),#[]⟩,⟨(.type "type"),ξ,(.cls { name:="TableError",bases:=[(.type "ValueError")],mro:=[(.ref 24),(.type "ValueError"),(.type "Exception"),(.type "BaseException"),(.type "object")],ns:=23,qualname:="TableError",hasDict:=ζ,slotNames:=[],subclasses:=[(.ref 37),(.ref 49),(.ref 61),(.ref 73),(.ref 85),(.ref 97),(.ref 109),(.ref 121)],abstract:=η,collection:=ξ,hasDel:=η }),#[(θ (.ref 15)),ξ,(θ (.str "TableError" 189)),(θ (.str "TableError" 197)),(θ (.builtin "ValueError.__new__")),(θ (.bool ζ))]⟩,⟨(.type "getset_descriptor"),ξ,(.fields #[(.str "__weakref__" 202),(.ref 24),(.builtin "ExceptionGroup.__weakref__"),.none]),#[]⟩,Yq 24,XH 24]++(gX P "BadShape" 4 28 207++(gX P "BadChange" 6 40 223++(gX P "BadRow" 8 52 239++(gX P "NoTable" 10 64 255++(gX P "TableThere" 12 76 271++(gX P "NoColumn" 14 88 287++(gX P "IndexThere" 16 100 303++(gX P "NoRow" 18 112 319++([tu (tn 337 ["none","number","text"])]++(r0.flatMap (gA m335)++(r1.flatMap (gA m378)++(r2.flatMap (gA m378)++([⟨(.type "dict"),ξ,(.dict #[ke P "=" 399 (.str "=" 400),ke P "<>" 401 (.str "<>" 402),ke P "<" 403 (.str ">" 404),ke P "<=" 405 (.str ">=" 406),ke P ">" 407 (.str "<" 408),ke P ">=" 409 (.str "<=" 410)] 6),#[]⟩,tu (tn 418 ["=",">",">="]),tu (tn 422 ["=","<","<="])]++(r3.flatMap (gA m397)++(r4.flatMap (gA m473)++([tu (tn 533 ["and","by","down","from","none","not","or","order","show","take","where"]),tu (tn 545 ["number","text"])]++(r5.flatMap (gA m531)++(r6.flatMap (gA m623)++(r7.flatMap (gA m623)++(r8.flatMap (gA m623)++([o11,Zw,⟨(.type "dict"),ξ,(.dict #[ke P "__module__" 721 (.str "tablestore.tables" 712),ke P "__qualname__" 723 (.str "Table" 722),ke P "__firstlineno__" 725 (.int 218 724),ke P "__init__" 735 (.ref 388),ke P "__static_attributes__" 739 (.ref 389)] 5),#[]⟩,o11,fi (tr 4 [(220,387)]),co "Table" "Table" 716 218 0 0 0 0 378 η 379 .none .none .none 719,WL 380 377 "tablestore.tables" 712,o11,KK,tu (tn 729 ["self","shape","rows","indexes"]),o11,⟨.none,ξ,(.func (fn (Sc 68 0) "__init__" "Table.__init__" 0 [] .none .none .none .none ξ .none .none 0)),#[]⟩,co "__init__" "Table.__init__" 726 220 4 0 0 3 382 ζ 383 (.ref 384) (.ref 385) (.ref 386) 733,⟨(.type "function"),ξ,(.func (fn (Sc 68 0) "__init__" "Table.__init__" 3 [] .none .none .none (.str "tablestore.tables" 712) ξ (.ref 387) .none 0)),#[]⟩,tu (tn 736 ["indexes","rows","shape"]),⟨(.type "dict"),ξ,(.dict #[ke P "__module__" 721 (.str "tablestore.tables" 712),ke P "__firstlineno__" 725 (.int 218 724),ke P "__init__" 735 (.ref 388),ke P "__static_attributes__" 739 (.ref 389),ke P "__dict__" 741 (.ref 392),ke P "__weakref__" 743 (.ref 393),ke P "__doc__" 744 .none] 4),#[]⟩,⟨(.type "type"),ξ,(.cls { name:="Table",bases:=[(.type "object")],mro:=[(.ref 391),(.type "object")],ns:=390,qualname:="Table",hasDict:=ζ,slotNames:=[],subclasses:=[],abstract:=η,collection:=ξ,hasDel:=η }),#[ξ,ξ,(θ (.str "Table" 714)),(θ (.str "Table" 722)),(θ (.builtin "object.__new__")),(θ (.bool ζ))]⟩,⟨(.type "getset_descriptor"),ξ,(.fields #[(.str "__dict__" 740),(.ref 391),(.builtin "function.__dict__"),(.builtin "function.__dict__#set")]),#[]⟩,⟨(.type "getset_descriptor"),ξ,(.fields #[(.str "__weakref__" 742),(.ref 391),(.builtin "ExceptionGroup.__weakref__"),.none]),#[]⟩,Yq 391,XH 391]++(r9.flatMap (gA m712)++([⟨(.type "dict"),ξ,(.dict #[ke P "table" 805 (.int 2 806),ke P "index" 807 (.int 3 808),ke P "put" 809 (.int 4 810),ke P "drop" 811 (.int 3 812)] 4),#[]⟩]++(Yb.flatMap (gA m803)++(Yj.flatMap (gA m909)))))))))))))))))))))))))))
def T1 (P:ady):BT:=tO (aaD P) 648 12 1 0
def M4 (w:abA) (os:acP):Prop:=segRunT adX p w 11 (θ (.ref 6)) 1 4805 (⟨T0 w.params,15,{},#[],{},187,os⟩:SharedT) (piecesOf g0 en cE ⟨0,0,0,0⟩ [topFrame fq])=θ (.next,(⟨T1 w.params,648,{},#[],{},1105,os⟩:SharedT),cE,⟨515,0,530,75⟩)
def rf0 (w:abA) (os:acP):M4 (w.withFollow "special-get-raises" η) os:=by
 unfold M4;rw [acp,abx];kernel_rfl
def rt0 (w:abA) (os:acP):M4 (w.withFollow "special-get-raises" ζ) os:=by
 unfold M4;rw [acp,abx];kernel_rfl
def rG0 (w:abA) (os:acP):segRunT adX p w 11 (θ (.ref 6)) 1 4805 (⟨T0 w.params,15,{},#[],{},187,os⟩:SharedT) (piecesOf g0 en cE ⟨0,0,0,0⟩ [topFrame fq])=θ (.next,(⟨T1 w.params,648,{},#[],{},1105,os⟩:SharedT),cE,⟨515,0,530,75⟩):=byRow2 "special-get-raises" (P:=fun w=>M4 w os) (fun w=>rf0 w os) (fun w=>rt0 w os) w
abbrev L1 (P:ady):List Obj:=aaD P
def H1 (P:ady):acV:=⟨afc (L1 P),{}⟩
abbrev sf (w:abA) (os:acP):DO:=⟨H1 w.params,#[],{},1105,os⟩
def rF (w:abA) (os:acP):topRun adX p w 11 (θ (.ref 6)) 2 (⟨T1 w.params,648,{},#[],{},1105,os⟩:SharedT).abs ⟨doneF .next,cE,⟨515,0,530,75⟩,[topFrame fq]⟩=θ (sf w os):=by
 rw [PySem.W.Fast.te14082659384304107361,abx];kernel_rfl
def V6:bd=g0++([]):=by kernel_rfl
def run (w:abA) (os:acP):topRun adX p w 11 (θ (.ref 6)) (12+(1+(4805+2))) ⟨adN w.params,afc [],boot_drawn,boot_toks,os⟩ (topStub p)=θ (sf w os) :=
 go_top (n:=12) (rA w os) (piece_block (n:=1) (segRun_of (rB w os)) (V6 ▸ piece_app (n:=4805) (l:=g0) (segRun_of (rG0 w os)) (piece_nil (rF w os))))
noncomputable def q:abN:=view p [1,2,3,4,5,6,7,8,9,11,12,13,14,15,16,17,20,21,23,24,25,26,27,28,29,31,32,33,34,35,36,37,38,39,41,42,43,44,45,46,47,48,49,50,51,52,53,54,56,57,58,59,60,61,62,63,64,65,66,68,69,70,71,72,73,74,76,77,78,79,80,81,82,83,84,85,86,88,89,90,91,92,93,94,95,96,97,98,99,100,101,102,103,104,105,106,107,108,109,110]
def TC (w:abA):(fencedOpening adX p w 9734).map (fun s=>(s.heap,s.gens,s.drawn,s.toks))=θ (adN w.params,afc [],boot_drawn,boot_toks) :=
 boot_open (by kernel_rfl) (by decide) (fun s=>by kernel_rfl) w
def size (w:abA):((adN w.params).isNs aaR&&(afc []:Array GenState).size==0,(adN w.params).objs.size,(adN w.params).nsMap aaR "__annotations__")=(ζ,11,(θ (.ref 6))):=by
 kernel_rfl
def k0 (w:abA) (os:acP):(staticsOk (importedModules p.main.body) (adN w.params) (H1 w.params)&&namesBound p (H1 w.params)&&gensDone (sf w os)&&laidKept (adN w.params) (H1 w.params))=ζ:=by kernel_rfl
def k1 (w:abA) (os:acP):seen ((recsOf q).map (·.name)) (ownsOf q) [] { (sf w os) with gens:=#[] }=expectedOf q:=by
 kernel_rfl
def k2 (w:abA) (os:acP):(sf w os).heap.bltView=bltViewBooted:=by
 kernel_rfl
def k3 (w:abA) (os:acP):((sf w os).heap.keysOk (looseW q ["parts_of_conditions","TURNED","parts_of_balance","FORMS"]) ((recsOf q).map (·.name)) ((litsOf q).map (·.1)) ((clssOf q (looseW q ["parts_of_conditions","TURNED","parts_of_balance","FORMS"])).map (·.name))&&(sf w os).heap.accountedOkI (importedModules p.main.body)&&(sf w os).heap.isNs aaR&&(sf w os).heap.isNs builtinsNs&&tablesOk q (sf w os).heap&&(xlAt q [] (sf w os)&&recOk [] (sf w os))&&(if ζ then (sf w os).gens.size==0 else !leftWithCleanup (sf w os).gens))=ζ:=by
 kernel_rfl
def k4 (w:abA) (os:acP):tabsOk q (sf w os)=ζ:=by
 kernel_rfl
def k5 (w:abA) (os:acP):pinSeenD q (drecsOf q) (sf w os)=pinGoodD (drecsOf q):=by
 kernel_rfl
def k6 (w:abA) (os:acP):plainSeenE q (looseW q ["parts_of_conditions","TURNED","parts_of_balance","FORMS"]) (sf w os)=plainGoodE q (looseW q ["parts_of_conditions","TURNED","parts_of_balance","FORMS"]):=by
 kernel_rfl
def k7 (w:abA) (os:acP):plainSeenD q ["parts_of_conditions","TURNED","parts_of_balance","FORMS"] (sf w os)=plainGoodD q ["parts_of_conditions","TURNED","parts_of_balance","FORMS"]:=by
 kernel_rfl
def k8 (w:abA) (os:acP):wideSeen q (sf w os)=wideGood q:=by
 kernel_rfl
def k9 (w:abA) (os:acP):clsSeenW q ["parts_of_conditions","TURNED","parts_of_balance","FORMS"] (sf w os)=clsGoodW q ["parts_of_conditions","TURNED","parts_of_balance","FORMS"]:=by
 kernel_rfl
def ad:afT:=aa7 648
def K (P:ady):Frag:=ad.zip (L1 P)
def kY (w:abA) (os:acP):X.obsZ ad (sf w os)=X.valZ K 648 1105 w:=by kernel_rfl
def left:LeftO p q ["parts_of_conditions","TURNED","parts_of_balance","FORMS"] (fun s=>xlAt q [] s&&recOk [] s) (X.obsZ ad) (X.valZ K 648 1105) 9734 :=
 LeftO.of_pieces (H₀:=adN) (H₁:=H1) (gs₀:=afc []) (gs₁:=#[]) (d₀:=boot_drawn) (d₁:={}) (k₀:=boot_toks) (k₁:=1105) (m₀:=11) (ann:=(θ (.ref 6))) (M:=(12+(1+(4805+2)))) TC size run (by decide) fun w=>funext fun os=>ac6 (k0 w os) (ac6 (ac6 (k1 w os) (ac6 (k2 w os) (ac6 (k3 w os) (ac6 (k4 w os) (ac6 (k5 w os) (ac6 (k6 w os) (ac6 (k7 w os) (ac6 (k8 w os) (k9 w os))))))))) (kY w os))
def dP (s:ac2):Pos:=match s with
 | .FunctionDef _ _ _ _ _ _ _ _ _ x=>x
 | _=>default
def d:DefRec:=⟨"law",dA (S 110),dB (S 110),dS (S 110),dP (S 110)⟩
def wa:namesResolve p=ζ:=by kernel_rfl
def wb:namesMeet p p.main.body (fun _ n=>attrL n)=ζ:=by kernel_rfl
def lo:looksOpen p=ζ:=by
 unfold looksOpen;rw [wa,wb,Bool.and_true];kernel_rfl
def wd:PySem.Challenge.rw_tablestore_k71_bounds_and_ways.row.partSaid=ζ:=by
 unfold OpenRow.partSaid;rw [show looksOpen PySem.Challenge.rw_tablestore_k71_bounds_and_ways.row.toRowW.prog=ζ from lo];kernel_rfl
def ws:PySem.Challenge.rw_tablestore_k71_bounds_and_ways.wellSaid=ζ:=by
 unfold OpenLaw.wellSaid OpenRow.wellSaid;rw [wd];kernel_rfl
theorem hold (r:WalkX q ["parts_of_conditions","TURNED","parts_of_balance","FORMS"] (XL q []) (X.obsZ ad) (X.valZ K 648 1105) PySem.Challenge.rw_tablestore_k71_bounds_and_ways.row.toRowW d [] fun f vs=>afj f vs):PySem.Challenge.rw_tablestore_k71_bounds_and_ways.Holds:=by
 refine holds_law ws fun g=>?_;refine holds_openX (q:=q) (loose:=["parts_of_conditions","TURNED","parts_of_balance","FORMS"]) (Xt:=fun s=>xlAt q [] s&&recOk [] s) (XP:=XL q []) (N:=9734) left (fun s e=>xl_of s (ac8.mp e).1) XL.keeps (d:=d) (kwd:=[]) (by kernel_rfl) (by kernel_rfl) (by kernel_rfl) (fun s e=>recFacts_of (ac8.mp e).2) (by rfl) g (by trivial) ⟨rfl,rfl,rfl,rfl,rfl,by trivial⟩ ?hw r
 case hw=>w_witness2
end HD
end
noncomputable section
namespace L2
open PySem Sem
theorem j5 (h:Runs M Γ p t fs s e s'):s.toks<=s'.toks:=by
 induction h <;> first
  | rfl
  | assumption
  | (rename_i u;exact Nat.le_of_succ_le u)
  | (rename_i g r;exact Le g r)
  | grind
theorem ym (h:Wakes M Γ p g r s res s'):s.toks<=s'.toks:=by
 unfold Wakes at h;split at h
 .exact h.elim
 .split at h
  .obtain ⟨v,u,h1,_,_,rfl⟩:=h;have q:=j5 h1;exact q
  .simp_all
  .rw [h.2];exact nE _
 .obtain ⟨v,u,h1,_,_,rfl⟩:=h;have q:=j5 h1;exact q
 .simp_all
 grind
theorem wp_toks {C:X->Pos->DO->Prop} (M:Model) (I:Ctx) (z:Sem X) (pos:Pos) (sh:DO) (hn:n<=sh.toks)
  (nH:wp M I z (fun x p s=>n<=s.toks->C x p s) (fun x p s=>n<=s.toks->exc x p s) pos sh):wp M I z C exc pos sh:=by
 revert nH hn
 induction z generalizing pos sh with
 | pure x=>simp_all
 | raise v=>simp_all
 | unsupported|finish|yield|fork|await|register=>exact fun _ h=>h
 | rule _ k u|«at» _ k u|alloc _ k u|loadIfAlive _ k u|point _ k u|ask k u|os _ _ k u|handled _ k u|newGen _ k u|stack k u|thread k u=>simp_all
 | fresh k u=>exact fun hn h=>u _ _ _ (adz hn) h
 | load a _ k u|genState a k u=>exact fun hn ⟨o,ho,h⟩=>⟨o,ho,u _ _ _ hn h⟩
 | update a _ f k u|choose _ _ k u=>exact fun hn ⟨ha,h⟩=>⟨ha,u _ _ _ hn h⟩
 | call c h g l k u=>exact fun hn ⟨r,s',hr,hk⟩=>⟨r,s',hr,u r pos s' (Le hn (j5 hr)) hk⟩
 | resume g r l k u=>exact fun hn ⟨res,s',hw,h⟩=>⟨res,s',hw,u _ _ _ (Le hn (ym hw)) h⟩
def aW {t:Sem α} {Q:α->DO->Prop} (hn:n<=s.toks)
  (h:aaN M A t (fun v g=>n<=g.toks->Q v g) (fun e g=>n<=g.toks->E e g) s):aaN M A t Q E s:=fun u p r=>wp_toks M u t p s hn (h u p r)
def dq (hn:n<=s.toks) (h:adt M A c (fun r g=>n<=g.toks->R r g) s):adt M A c R s:=fun v p e u =>
 let ⟨r,g,hr,hR⟩:=h v p e u
 ⟨r,g,hr,hR (Le hn (j5 hr))⟩
end L2
namespace L2
open PySem PySem.Spec PyProof.Rows
inductive Key where
 | inl (i:Int)|inr (x:Str)|nn
 deriving DecidableEq
def nM:Key->oR->Bool
 | .inl k,v=>aeQ k v
 | .inr x,v=>ac3 x v
 | .nn,v=>match v with
  | .none=>ζ
  | _=>η
def Xs (w:abA):Key->Int
 | .inl k=>hashInt k
 | .inr x=>hashStr w x
 | .nn=>4238894112
theorem b5:∀ {k:Key} {v:oR},nM k v=ζ->(∃ i t,k=Key.inl i/\v=Value.int i t)\/(∃ x t,k=Key.inr x/\v=Value.str x t)\/(k=Key.nn/\v=afe)
 | .inl i,v,h=>by
  let ⟨t,e⟩:=Value.isInt_shape h
  exact .inl ⟨i,t,rfl,e⟩
 | .inr x,v,h=>by
  let ⟨t,e⟩:=Value.isStrOf_shape h
  exact .inr (.inl ⟨x,t,rfl,e⟩)
 | .nn,v,h=>by
  cases v with
  | none=>grind
  | _=>exact nomatch h
def Bn (i:Int) (t:Tok):nM (.inl i) (.int i t)=ζ:=by simp [nM,aeQ]
def AX (x:Str) (t:Tok):nM (.inr x) (.str x t)=ζ:=by simp [nM,ac3]
theorem NJ (a b:Int):decide ((Key.inl a:Key)=Key.inl b)=(a==b):=by
 grind
def Oh (a b:Str):decide ((Key.inr a:Key)=Key.inr b)=decide (a=b):=by
 simp_all
def Pe (a:Int) (b:Str):decide ((Key.inl a:Key)=Key.inr b)=η:=afK (fun q=>nomatch q)
def N8 (a:Str) (b:Int):decide ((Key.inr a:Key)=Key.inl b)=η:=afK (fun q=>nomatch q)
def F5 (h:Q 4238894112 { s with toks:=s.toks+1 }):aaN (aaV prog w) A (PySem.pyHash .none) Q E s:=by
 refine dO ?_;refine rW ?_;have g:s.TypeIs .none "NoneType":=rfl;refine dO (wpAny_specialOf g acr.lookup ?_);refine dO (wpAny_specialOf g acr.lookup ?_);refine dO (wpAny_callSpecialIfBoundUnlessNone?_slot g acr
  (ab1 acr g PySem.F.entry_NoneType_hash
   ((wpAny_ret_mkInt ?_)) (PySem.F.args_NoneType_hash_1 _)))
 exact rW h
def bA (prog:abN) (w:abA):PySem.KeyKind prog w Key where
 is:=nM
 hash:=Xs w
 inj:=fun v a b z hb=>by
  rcases b5 z with ⟨i,t,rfl,rfl⟩|⟨x,t,rfl,rfl⟩|⟨rfl,rfl⟩ <;> rcases b5 hb with ⟨j,u,rfl,e⟩|⟨y,u,rfl,e⟩|⟨rfl,e⟩ <;> first|rfl|(cases e;rfl)|cases e
 byValue:=fun k v h=>by
  rcases b5 h with ⟨i,t,rfl,rfl⟩|⟨x,t,rfl,rfl⟩|⟨rfl,rfl⟩ <;> rfl
 pyHash:=fun g h=>by
  rcases b5 g with ⟨i,t,rfl,rfl⟩|⟨x,t,rfl,rfl⟩|⟨rfl,rfl⟩
  .exact wpAny_pyHash_int h
  .exact wpAny_pyHash_str h
  .exact F5 h
 eqBool:=fun r g h=>by
  rcases b5 r with ⟨i,t,rfl,rfl⟩|⟨x,t,rfl,rfl⟩|⟨rfl,rfl⟩
  .rcases b5 g with ⟨j,u,rfl,rfl⟩|⟨y,u,rfl,rfl⟩|⟨rfl,rfl⟩
   .rw [NJ] at h;exact wpAny_eqBool_int h
   .rw [Pe] at h;exact ae3 i t y u _ _ _ _ h
   .exact aeR i t _ _ _ _ h
  .rcases b5 g with ⟨j,u,rfl,rfl⟩|⟨y,u,rfl,rfl⟩|⟨rfl,rfl⟩
   .rw [N8] at h;exact ae4 x t j u _ _ _ _ h
   .rw [Oh] at h;exact wpAny_eqBool_str h
   .exact aeS x t _ _ _ _ h
  .rcases b5 g with ⟨j,u,rfl,rfl⟩|⟨y,u,rfl,rfl⟩|⟨rfl,rfl⟩
   .exact aeT j u _ _ _ _ h
   .exact aeU y u _ _ _ _ h
   .exact afx _ _ _ _ _ h
 «strs»:=fun k x t v h=>by
  rcases b5 h with ⟨i,u,rfl,e⟩|⟨y,u,rfl,e⟩|⟨rfl,e⟩
  .exact nomatch e
  .injection e with e1 _
   subst e1;cases v <;> rfl
  .exact nomatch e
def u7 (prog:abN) (w:abA) (i:Int) (t:Tok):(bA prog w).is (.inl i) (.int i t)=ζ:=Bn i t
def u8 (prog:abN) (w:abA) (x:Str) (t:Tok):(bA prog w).is (.inr x) (.str x t)=ζ:=AX x t
inductive V where
 | non|bl (b:Bool)|int (i:Int)|str (x:Str)|byt (b:Array UInt8)|flt (b:UInt64)|ref (a:aa3)|ty (n:String)
 deriving DecidableEq
abbrev afV:=List V
def aX:V->oR->Prop
 | .non,u=>u=afe
 | .bl b,u=>u=afF b
 | .int i,u=>∃ t,u=Value.int i t
 | .str x,u=>∃ t,u=Value.str x t
 | .byt b,u=>∃ t,u=Value.bytes b t
 | .flt b,u=>∃ t,u=Value.float b t
 | .ref a,u=>u=acw a
 | .ty n,u=>u=aeb n
abbrev ba:afV->afU->Prop:=Paired aX
theorem ba.length (r:ba xs us):xs.length=us.length:=aek r
theorem ba.get:∀ {xs:afV} {us:afU} {i:Nat} {x:V},ba xs us->xs[i]?=θ x->∃ u,us[i]?=θ u/\aX x u
 | _,_,_,_,.nil,e=>by simp at e
 | _,_,0,_,.cons r _,e=>by grind
 | _,_,i+1,x,.cons _ t,e=>by
  obtain ⟨u,h1,h2⟩:=ba.get t (by simpa using e);simp_all
theorem ba.append:∀ {xs ys:afV} {us ws:afU},ba xs us->ba ys ws->ba (xs++ys) (us++ws)
 | _,_,_,_,.nil,s=>s
 | _,_,_,_,.cons r t,s=>.cons r (ba.append t s)
theorem ba.take:∀ {xs:afV} {us:afU} (n:Nat),ba xs us->ba (xs.take n) (us.take n)
 | _,_,0,_=>.nil
 | _,_,_+1,.nil=>.nil
 | _,_,n+1,.cons r t=>.cons r (ba.take n t)
theorem ba.drop:∀ {xs:afV} {us:afU} (n:Nat),ba xs us->ba (xs.drop n) (us.drop n)
 | _,_,0,r=>r
 | _,_,_+1,.nil=>.nil
 | _,_,n+1,.cons _ t=>ba.drop n t
def kM:Option V->Option oR->Prop
 | some v,θ u=>aX v u
 | none,ξ=>True
 | _,_=>False
def KV {κ:Type}:List (κ×V)->List (κ×oR)->Prop:=Paired fun (p:κ×V) (q:κ×oR)=>p.1=q.1/\aX p.2 q.2
def kV:Key->V
 | .inl i=>.int i
 | .inr x=>.str x
 | .nn=>.non
inductive HO where
 /-- a list -/
 | lst (xs:afV)
 /-- a tuple (never changes) -/
 | tup (xs:afV)
 /-- a dict whose keys are ints and texts;one whose keys are tuples of ints and texts (the empty one is both) -/
 | dK (kvs:List (Key×V))|dT (kvs:List (List Key×V))
 /-- a set of ints: its members,its size -/
 | set (S:Int->Bool) (n:Nat)
 /-- an instance of the class at C,its dict at dx,its attributes -/
 | ins (C dx:aa3) (fs:List (Str×V))
 /-- the dict of the instance at x -/
 | own (x:aa3)
 /-- the dict of an exception -/
 | xd (fs:List (Str×V))
 /-- a bound method,f of x -/
 | met (f x:aa3)
 /-- a range object lo,lo+1,.. below hi -/
 | rng (lo hi:Int)
 /-- a thing that is nH to the object (the script;a dict while a loop walks it): read,never written while it is so -/
 | frz (o:Obj) (u:HO)
 /-- a code object's table -/
 | tbl (q:Str)
 /-- any other thing,by what is ζ of its one object (a def of one's own: SetO a S n:=HO.ext fun h=>..) -/
 | ext (φ:acV->Prop)
abbrev Hp:=aa3->Option HO
def upd (H:Hp) (a:aa3) (o:HO):Hp:=fun b=>if b=a then θ o else H b
def aK:upd H a o a=θ o:=by unfold upd;rw [afI rfl]
def aF (h:b≠a):upd H a o b=H b:=by unfold upd;rw [afJ h]
def ub:upd (upd H a o) a u=upd H a u:=by
 funext b;unfold upd;split <;> rfl
def Wo {H:Hp} (h:H a=θ o) (h':H b=θ u) (d:o≠u):a≠b:=by
 intro e;simp_all
theorem bf {H:Hp} (h:H a=θ o) (h':H b=ξ):a≠b:=by
 grind
section
variable (P:abN) (w:abA)
def c7 (H:Hp) (h:acV) (a:aa3):HO->Prop
 | .lst xs=>xs.length<=RW/\∃ (its:afU) (n:Nat),ba xs its/\h.get? a=θ { cls:=.type "list",data:=.seq its.toArray n }
 | .tup xs=>xs.length<=RW/\∃ its:afU,ba xs its/\afo h a its.toArray
 | .dK kvs=>kvs.length<=RW/\(a==ab0)=η/\∃ vs,KV kvs vs/\h.DictOf (bA P w) a vs
 | .dT kvs=>kvs.length<=RW/\(a==ab0)=η/\∃ xs:List (List Key×aa3×oR),
   Paired (fun (p:List Key×V) (q:List Key×aa3×oR)=>p.1=q.1/\H q.2.1=θ (.tup (p.1.map kV))/\aX p.2 q.2.2) kvs xs /\
   ∃ o es r,h.get? a=θ o/\o.ExactDict/\o.data=.dict es r/\es.toList=xs.map (entryOfKey (tupleKind (bA P w)))/\(xs.map (·.1)).Nodup
 | .set S n=>h.SetOf (intKind P w) a S n
 | .ins C dx fs=>H dx=θ (.own a)/\fs.length<=1000/\dx≠a/\h.get? a=θ (acX C dx) /\
   ∃ mA,h.Ns1 dx mA/\(∀ f,kM (fs.lookup f) (mA f))/\afp mA (fs.map (·.1))
 | .own _=>∃ o,h.get? a=θ o
 | .xd fs=>∃ mA,h.Ns1 a mA/\∀ f,kM (fs.lookup f) (mA f)
 | .rng lo hi=>∃ t u v,h.get? a=θ { cls:=.type "range",data:=.fields #[.int lo t,.int hi u,.int 1 v] }
 | .frz o u=>h.get? a=θ o/\c7 H h a u
 | .tbl q=>∃ ps,h.get? a=θ (acQ ps)/\TriplesOk ps.toList/\∀ pos g,codeAmong pos ps.toList=θ g->∃ c oc vs t,g=.ref c/\H c=θ (.frz oc (.own a))/\oc.data=.fields vs/\vs[1]?=θ (.str q t)
 | .met f x=>h.get? a=θ (PySem.W.methodObj (.ref f) (.ref x))
 | .ext φ=>φ h/\(∃ o,h.get? a=θ o)/\∀ h1 h2:acV,φ h1->(∀ o,h1.get? a=θ o->h2.get? a=θ o)->φ h2
def lg (H:Hp) (h:acV):Prop:=∀ a o,H a=θ o->c7 P w H h a o
end
section
variable {a:aa3}
theorem c7.lt (x:c7 P w H h a o):a < h.objs.size:=by
 cases o with
 | lst xs=>obtain ⟨_,_,_,_,e⟩:=x;exact ID e
 | tup xs=>let ⟨_,_,_,p⟩:=x;exact p.lt
 | dK g=>obtain ⟨_,_,_,_,o,_,_,e,_⟩:=x;exact ID e
 | dT g=>obtain ⟨_,_,_,_,o,_,_,e,_⟩:=x;exact ID e
 | set S n=>obtain ⟨o,_,_,_,e,_⟩:=x;exact ID e
 | ins C v fs=>obtain ⟨_,_,_,e,_⟩:=x;exact ID e
 | own y=>let ⟨_,e⟩:=x;exact ID e
 | xd fs=>obtain ⟨_,⟨_,_,_,e,_⟩,_⟩:=x;exact ID e
 | rng lo r=>obtain ⟨_,_,_,e⟩:=x;exact ID e
 | frz ob u=>let ⟨e,_⟩:=x;exact ID e
 | tbl q=>let ⟨_,e,_⟩:=x;exact ID e
 | met f y=>exact ID ((x))
 | ext φ=>let ⟨_,⟨_,e⟩,_⟩:=x;exact ID e
theorem Paired.mapP {F G:α->β->Prop}:∀ {g:List α} {u:List β},Paired F g u->(∀ a b,F a b->G a b)->Paired G g u
 | _,_,.nil,_=>.nil
 | _,_,.cons r t,f=>.cons (f _ _ r) (Paired.mapP t f)
def GP (H:Hp) (b:aa3) (u:HO):Prop:=H b=θ u/\match u with
 | .tup _=>True
 | .frz _ _=>True
 | _=>False
theorem c7.stay (x:c7 P w H h a o) (k:∀ b u,(b=a\/H b=θ (.own a))->h.get? b=θ u->h'.get? b=θ u)
  (M:∀ b,H b=θ (.own a)->H' b=θ (.own a)) (L:∀ b u,GP H b u->GP H' b u):c7 P w H' h' a o:=by
 induction o with
 | lst xs=>obtain ⟨z,its,n,r,e⟩:=x;exact ⟨z,its,n,r,k _ _ (.inl rfl) e⟩
 | tup xs=>let ⟨z,its,r,ob,e,c⟩:=x;exact ⟨z,its,r,ob,k _ _ (.inl rfl) e,c⟩
 | dK J=>obtain ⟨z,y,vs,r,ob,es,g,e,c⟩:=x;exact ⟨z,y,vs,r,ob,es,g,k _ _ (.inl rfl) e,c⟩
 | dT J =>
  obtain ⟨z,y,xs,r,ob,es,g,e,c⟩:=x;exact ⟨z,y,xs,Paired.mapP r fun p q z=>⟨z.1,(L _ _ ⟨z.2.1,trivial⟩).1,z.2.2⟩,ob,es,g,k _ _ (.inl rfl) e,c⟩
 | set S n=>obtain ⟨ob,es,g,t,e,c⟩:=x;exact ⟨ob,es,g,t,k _ _ (.inl rfl) e,c⟩
 | ins C dx fs =>
  obtain ⟨d,z,ne,e,mA,⟨od,es,g,I,c⟩,r⟩:=x;exact ⟨M _ d,z,ne,k _ _ (.inl rfl) e,mA,⟨od,es,g,k _ _ (.inr d) I,c⟩,r⟩
 | own y=>let ⟨ob,e⟩:=x;exact ⟨ob,k _ _ (.inl rfl) e⟩
 | xd fs=>obtain ⟨mA,⟨od,es,g,e,c⟩,r⟩:=x;exact ⟨mA,⟨od,es,g,k _ _ (.inl rfl) e,c⟩,r⟩
 | rng lo hi=>let ⟨t,u,v,e⟩:=x;exact ⟨t,u,v,k _ _ (.inl rfl) e⟩
 | frz ob u Y=>let ⟨e,q⟩:=x;exact ⟨k _ _ (.inl rfl) e,Y q⟩
 | tbl q =>
  obtain ⟨ps,e,tr,r⟩:=x;refine ⟨ps,k a _ (.inl rfl) e,tr,fun pos cv hc=>?_⟩;obtain ⟨c,oc,vs,Z,e1,I,e3⟩:=r pos cv hc;exact ⟨c,oc,vs,Z,e1,(L _ _ ⟨I,trivial⟩).1,e3⟩
 | met f y =>
  have e  := x;exact k a _ (.inl rfl) e
 | ext φ=>let ⟨p,⟨o,e⟩,st⟩:=x;exact ⟨st _ _ p fun o q=>k _ _ (.inl rfl) q,⟨o,k _ _ (.inl rfl) e⟩,st⟩
def lg.lt (x:lg P w H h) (e:H a=θ o):a < h.objs.size:=(x a o e).lt
def lg.fresh (x:lg P w H h) (e:h.objs.size<=a):H a=ξ:=by
 cases q:H a with
 | none=>rfl
 | some u=>exact absurd (OR (x.lt q) e) (acM _)
def lg.kept (x:lg P w H h) (k:∀ b u,h.get? b=θ u->h'.get? b=θ u):lg P w H h':=fun a o e =>
 (x a o e).stay (fun b u _ q=>k b u q) (fun _ q=>q) fun _ _ q=>q
def lg.laid (x:lg P w H h) (k:∀ b u,h.get? b=θ u->h'.get? b=θ u) (g:h.objs.size<=a) (new:c7 P w (upd H a o) h' a o):lg P w (upd H a o) h':=fun b u e=>by
 have hn:=x.fresh g;by_cases hb:b=a
 .subst hb;rw [aK] at e;cases e;exact new
 .rw [aF hb] at e;exact (x b u e).stay (fun c v _ q=>k c v q) (fun c q=>by rw [aF (bf q hn)];exact q) fun c xs q=>⟨by rw [aF (bf q.1 hn)];exact q.1,q.2⟩
end
def Rd (H:Hp) (a:aa3) (u:HO):Prop:=H a=θ u\/∃ o,H a=θ (.frz o u)
theorem Rd.ok (r:Rd H a u) (x:lg P w H h):c7 P w H h a u:=by
 rcases r with r|⟨o,r⟩
 .exact x a u r
 .obtain ⟨_,q⟩:=x a _ r;exact q
def UX:Option HO->Prop
 | some (.lst _)=>True
 | some (.dK _)=>True
 | some (.dT _)=>True
 | some (.set _ _)=>True
 | some (.ins _ _ _)=>True
 | some (.ext _)=>True
 | _=>False
section
theorem lg.write (ok:lg P w H h) (I:UX (H x)) (M:e=x\/H e=θ (.own x)) (k:∀ b u,b≠e->h.get? b=θ u->h'.get? b=θ u) (J:∃ u,h'.get? e=θ u)
  (new:c7 P w (upd H x o') h' x o'):lg P w (upd H x o') h':=fun b u q=>by
 have g:∀ c y,H c=θ (.own y)->c≠x:=fun c y r z=>by subst z;rw [r] at I;exact I
 have C:∀ c u,GP H c u->c≠x:=fun c u r z=>by subst z;rw [r.1] at I;have:=r.2;cases u <;> first|exact I|exact this
 by_cases hb:b=x
 .subst hb;rw [aK] at q;cases q;exact new
 .rw [aF hb] at q;by_cases L:b=e
  .have q':H b=θ (.own x):=by
    simp_all
   rw [q] at q';cases q';let ⟨v,hv⟩:=J
   exact ⟨v,by grind⟩
  .refine (ok b u q).stay (fun c v Y r=>k c v ?_ r) (fun c r=>by rw [aF (g c b r)];exact r) fun c xs r=>⟨by rw [aF (C c xs r)];exact r.1,r.2⟩
   grind
end
structure Un (fs ex:afT) (H H':Hp) (h h':acV):Prop where
 keep:∀ b o,h.get? b=θ o->H b=ξ->b∉fs->b∉ex->h'.get? b=θ o
 slot:∀ b o,h.get? b=θ o->H b=ξ->b∈fs->b∉ex->∃ sl,h'.get? b=θ { o with slots:=sl }
 free:∀ b o,h.get? b=θ o->H b=ξ->b∉ex->H' b=ξ
 there:∀ b o,h.get? b=θ o->b∉ex->∃ o',h'.get? b=θ o'
 tups:∀ b xs,H b=θ (.tup xs)->H' b=θ (.tup xs)
 frzs:∀ b o u,H b=θ (.frz o u)->H' b=θ (.frz o u)
 tbls:∀ b q,H b=θ (.tbl q)->H' b=θ (.tbl q)
section
variable {h h1 h2:acV} {a x:aa3}
def Un.any (u:Un fs ex H H1 h h1) (q:h.get? b=θ ob) (n:H b=ξ) (g:b∉ex):∃ r,h1.get? b=θ { ob with slots:=r }:=by
 by_cases hb:b∈fs
 .exact u.slot b ob q n hb g
 .exact ⟨ob.slots,u.keep b ob q n hb g⟩
def Un.kept (k:∀ b u,h.get? b=θ u->h'.get? b=θ u):Un fs ex H H h h' :=
 ⟨fun b ob q _ _ _=>k b ob q,fun b ob q _ _ _=>⟨ob.slots,k b ob q⟩,fun _ _ _ n _=>n,fun b ob q _=>⟨ob,k b ob q⟩,fun _ _ q=>q,fun _ _ _ q=>q,fun _ _ q=>q⟩
def Un.refl:Un fs ex H H h h:=Un.kept fun _ _ q=>q
def Un.laid (k:∀ b u,h.get? b=θ u->h'.get? b=θ u) (g:h.objs.size<=a) (hn:H a=ξ):Un fs ex H (upd H a o) h h' where
 keep:=fun b u q _ _ _=>k b u q
 slot:=fun b u q _ _ _=>⟨u.slots,k b u q⟩
 free:=fun b u q n _=>by rw [aF (aa0 (OR (ID q) g))];exact n
 there:=fun b u q _=>⟨u,k b u q⟩
 tups:=fun b xs q=>by rw [aF (bf q hn)];exact q
 frzs:=fun b u xs q=>by rw [aF (bf q hn)];exact q
 tbls:=fun b ps q=>by rw [aF (bf q hn)];exact q
theorem Un.write (r:UX (H x)) (I:e=x\/H e=θ (.own x)) (k:∀ b u,b≠e->h.get? b=θ u->h'.get? b=θ u) (v:∃ u,h'.get? e=θ u):Un fs ex H (upd H x o) h h':=by
 have C:∀ b,H b=ξ->b≠x:=fun b n z=>by subst z;rw [n] at r;exact r
 have hb:∀ b,H b=ξ->b≠e:=fun b n z=>by
  simp_all
 have g:∀ b u,H b=θ u->¬ UX (θ u)->b≠x:=fun b u q nm z=>by grind
 refine ⟨fun b u q n _ _=>k b u (hb b n) q,fun b u q n _ _=>⟨u.slots,k b u (hb b n) q⟩,fun b u q n _=>by rw [aF (C b n)];exact n,fun b u q _=>?_,
  fun b xs q=>by rw [aF (g b _ q fun z=>z)];exact q,fun b u xs q=>by rw [aF (g b _ q fun z=>z)];exact q,fun b ps q=>by rw [aF (g b _ q fun z=>z)];exact q⟩
 grind
end
def W6 (h:acV) (H:Hp):afT:=(aa7 h.objs.size).filter fun a=>(H a).isSome
def tU (h:acV) (H:Hp):acV:=PySem.W.hideAll h (W6 h H)
def Br (h:acV) (H:Hp):(tU h H).objs.size=h.objs.size:=PySem.W.hideAll_size _ _
def FD (e:h.get? b=θ o) (n:H b=ξ):(tU h H).get? b=θ o :=
 PySem.W.hideAll_get _ e fun g=>by
  have q:(H b).isSome=ζ:=(aba.mp g).2;rw [n] at q;simp at q
def KG (e:(tU h H).get? b=θ o):h.get? b=θ o/\H b=ξ:=by
 have g:h.get? b=θ o:=PySem.W.of_hideAll (W6 h H) e;refine ⟨g,?_⟩;cases q:H b with
 | none=>rfl
 | some x =>
  have r:b∈W6 h H:=aba.mpr ⟨abD.mpr (ID g),by simp [q]⟩;have z:(tU h H).get? b=ξ:=PySem.W.hideAll_none (W6 h H) r;rw [z] at e;cases e
structure Mod (K:aT) (mg:afS) (base:acV):Prop where
 kin:K.In base
 glob:base.Ns aaR mg
 blt:∃ mb,base.Ns builtinsNs mb/\∀ x:Str,x≠"__name__"->mb x=MK x
 nolimit:base.NoLimit
structure Cx where
 prog:abN
 w:abA
 K:aT
 mg:Str->Option oR
 base:acV
 A:acy
 N:afP
 s₀:DO
 H₀:Hp
 env:Env
 outer:List Env
 stack:List Env
 ex:afT
 fn:Str->Bool
 calm:Bool
 tn:Nat:=0
 pn:afQ
 xe:oR->DO->Prop
def qu (l:List Env):afT:=l.filterMap (·.frame)
abbrev Cx.fs (X:Cx):afT:=qu X.outer
def oy (sc:Scope) (x:Str):Prop:=sc.names.lookup x=θ .local\/sc.names.lookup x=θ .cell\/sc.names.lookup x=θ .free
def wE (sc:Scope) (x:Str):Prop:=sc.names.lookup x=θ .local\/sc.names.lookup x=θ .cell
def Xz (env:Env) (h:acV) (m:afS) (x:Str) (u:oR):Prop :=
 (env.kindOf x=θ .local/\m x=θ u)\/((env.kindOf x=θ .cell\/env.kindOf x=θ .free)/\∃ c,env.cells.lookup x=θ c/\h.IsCell c (θ u))
noncomputable def gy (K:aT) (p:aa3×Obj):Option (aa3×Str):=match p.2.data with
 | .fields vs=>match (vs[1]?:Option oR),(vs[11]?:Option oR) with
  | some (.str q _),θ (.ref P)=>if (K.lookup P).isNone&&acs K p.1 P then θ (P,q++".<locals>."++"<lambda>") else ξ
  | _,_=>ξ
 | _=>ξ
def JC (K:aT) (H:Hp):Prop:=∀ p∈K,∀ x,gy K p=θ x->H x.1=θ (.tbl x.2)
structure Cx.Ok (X:Cx):Prop where
 mod:Mod X.K X.mg X.base
 kind:X.env.scope.kind=.function
 glob:X.env.globals=aaR
 blt:X.env.builtins=builtinsNs
 above:X.s₀.heap.objs.size<=X.env.locals
 inj:∀ x y c,X.env.cells.lookup x=θ c->X.env.cells.lookup y=θ c->x=y
 has:∀ x,(X.env.kindOf x=θ .cell\/X.env.kindOf x=θ .free)->∃ c,X.env.cells.lookup x=θ c
 cab:∀ x c,X.fn x=ζ->X.env.cells.lookup x=θ c->X.s₀.heap.objs.size<=c
 hd:X.calm=ζ->X.A.handled=ξ
 frames:X.A.frames=θ X.stack
 stk:X.stack=X.outer\/(X.stack=X.env::X.outer/\X.env.frame=θ X.env.locals)
 exf:∀ b∈X.ex,b≠X.env.locals/\∀ x c,X.env.cells.lookup x=θ c->c≠b
 bs:∀ b o,X.base.get? b=θ o->X.s₀.heap.get? b=θ o/\X.H₀ b=ξ
 bsz:X.base.objs.size<=X.s₀.heap.objs.size
 noex:∀ b o,X.base.get? b=θ o->b∉X.ex
 exfs:∀ b∈X.ex,b∉X.fs
 funs:X.s₀.heap.FunFrames X.base X.outer
 frf:(∀ b∈X.fs,X.H₀ b=ξ)/\JC X.K X.H₀
structure Inv (X:Cx) (af:afQ) (σ:List (Option V)) (H:Hp) (s:DO):Prop where
 ok:X.Ok
 os:s.os=X.s₀.os
 bare:AllBare s.gens
 base:Un X.fs X.ex X.H₀ H X.s₀.heap s.heap
 loc:∃ m,s.heap.Ns X.env.locals m/\∀ (i:Nat) (x:Str) (v:V),X.N[i]?=θ x->σ[i]?=θ (θ v)->oy X.env.scope x->∃ u,aX v u/\Xz X.env s.heap m x u
 cell:∀ x c,X.env.cells.lookup x=θ c->∃ v,s.heap.IsCell c v
 free:H X.env.locals=ξ
 freeC:∀ x c,X.env.cells.lookup x=θ c->H c=ξ
 pin:∀ p∈X.pn++af,s.heap.get? p.1=θ p.2/\H p.1=ξ/\p.1≠X.env.locals/\p.1∉X.fs/\∀ v,p.2.data≠.cell v
 hok:lg X.prog X.w H s.heap
 len:σ.length=X.N.length
 tk:X.tn<=s.toks
end L2
local macro_rules | `(tactic| walk_at "tok") => `(tactic| first | assumption | exact L2.Inv.tk (by assumption) | exact Nat.le_succ_of_le (L2.Inv.tk (by assumption)) | exact Nat.le_succ_of_le (Nat.le_succ_of_le (L2.Inv.tk (by assumption))) | (have hI := L2.Inv.tk (by assumption); lia) | exact Nat.zero_le _)
namespace L2
open PySem PySem.Spec PyProof.Rows
section
variable {X:Cx}
def Cx.Ok.nofr (ok:X.Ok) (e:X.base.get? b=θ o):b∉X.fs:=fun hb=>by
 have:=(ok.funs.mem hb).1
 rw [e] at this;cases this
def Inv.bs (I:Inv X af σ H s):∀ b o,X.base.get? b=θ o->s.heap.get? b=θ o/\H b=ξ:=fun b o e =>
 ⟨I.base.keep b o (I.ok.bs b o e).1 (I.ok.bs b o e).2 (I.ok.nofr e) (I.ok.noex b o e),I.base.free b o (I.ok.bs b o e).1 (I.ok.bs b o e).2 (I.ok.noex b o e)⟩
def Inv.bk (I:Inv X af σ H s):∀ b o,X.base.get? b=θ o->s.heap.get? b=θ o:=fun b o e=>(I.bs b o e).1
def Inv.mod (I:Inv X af σ H s):Mod X.K X.mg X.base:=I.ok.mod
def Inv.tb (I:Inv X af σ H s):JC X.K H:=fun p g x e=>I.base.tbls _ _ (I.ok.frf.2 p g x e)
def Inv.kIn (I:Inv X af σ H s):X.K.In s.heap:=I.ok.mod.kin.keeps I.bk
def Inv.fr (I:Inv X af σ H s):∃ m,Fr X.base X.env.locals s.heap m :=
 let ⟨m,hn,_⟩:=I.loc
 ⟨m,hn,I.bk,Le I.ok.bsz I.ok.above⟩
def Inv.lt (I:Inv X af σ H s):X.env.locals < s.heap.objs.size:=let ⟨_,hn,_⟩:=I.loc;hn.lt
def Inv.sz (I:Inv X af σ H s):X.s₀.heap.objs.size<=s.heap.objs.size:=Le I.ok.above (afq I.lt)
def Inv.nofs (I:Inv X af σ H s) {a:aa3} (h:s.heap.objs.size<=a):a∉X.fs:=fun hb=>by
 obtain ⟨_,o,g,_⟩:=I.ok.funs.mem hb;exact absurd (OR (ID g) (Le I.sz h)) (acM _)
theorem Inv.cne (I:Inv X af σ H s):∀ x c,X.env.cells.lookup x=θ c->c≠X.env.locals:=fun x c e z=>by
 let ⟨v,o,ho,hd⟩:=I.cell x c e
 obtain ⟨m,⟨C,es,u,g,r,_⟩,_⟩:=I.loc
 grind
def Inv.funs (I:Inv X af σ H s):s.heap.FunFrames X.base X.outer:=by
 have all:∀ (l:List Env),(∀ b∈qu l,b∈X.fs)->X.s₀.heap.FunFrames X.base l->s.heap.FunFrames X.base l:=by
  intro l;induction l with
  | nil=>intro _ _;trivial
  | cons env r v =>
   intro hs hl;obtain ⟨J,⟨L,o,g,hn,u,C⟩,hr⟩:=hl;have hL  := hs L (by unfold qu;simp_all);let ⟨sl,e⟩:=I.base.slot L o u (I.ok.frf.1 L hL) hL fun z=>I.ok.exfs L z hL
   exact ⟨J,⟨L,_,g,hn,e,C⟩,v (fun b hb=>hs b (by unfold qu;rw [aeV,g];exact iN _ hb)) hr⟩
 exact all X.outer (fun _ hb=>hb) I.ok.funs
def Inv.stack (I:Inv X af σ H s):s.heap.FunFrames X.base X.stack:=by
 rcases I.ok.stk with e|⟨e,hf⟩
 .rw [e];exact I.funs
 .rw [e];let ⟨m,hn,_⟩:=I.loc
  refine .cons (by rw [I.ok.kind];decide) hf hn ?_ I.funs;exact aeN (Le I.ok.bsz I.ok.above)
def Inv.stkSub (I:Inv X af σ H s):∀ b∈qu X.stack,b∈X.env.locals::X.fs:=fun b hb=>by
 rcases I.ok.stk with e|⟨e,hf⟩
 .simp_all
 .rw [e] at hb;unfold qu at hb;rw [aeV,hf] at hb;exact hb
def Inv.stkFree (I:Inv X af σ H s):∀ b∈qu X.stack,H b=ξ:=fun b hb=>by
 rcases mK.mp (I.stkSub b hb) with e|hb
 .rw [e];exact I.free
 .obtain ⟨_,o,g,_⟩:=I.ok.funs.mem hb;exact I.base.free b o g (I.ok.frf.1 b hb) fun z=>I.ok.exfs b z hb
theorem Inv.step {ch:afT} (I:Inv X af σ H s)
  (C:∀ b∈ch,(b∈X.ex\/X.s₀.heap.objs.size<=b)/\b≠X.env.locals/\(∀ x c,X.env.cells.lookup x=θ c->c≠b)/\∀ p∈X.pn++af,p.1≠b)
  (keep:∀ b o,b≠X.env.locals->b∉X.fs->b∉ch->s.heap.get? b=θ o->H b=ξ->h'.get? b=θ o)
  (slot:∀ b o,b≠X.env.locals->b∈X.fs->b∉ch->s.heap.get? b=θ o->H b=ξ->∃ sl,h'.get? b=θ { o with slots:=sl }) (free:∀ b o,b∉ch->s.heap.get? b=θ o->H b=ξ->H' b=ξ)
  (there:∀ b o,b∉ch->s.heap.get? b=θ o->∃ o',h'.get? b=θ o')
  (tups:∀ b xs,H b=θ (.tup xs)->H' b=θ (.tup xs)) (frzs:∀ b o u,H b=θ (.frz o u)->H' b=θ (.frz o u)) (tbls:∀ b q,H b=θ (.tbl q)->H' b=θ (.tbl q))
  (ns:∀ m,s.heap.Ns X.env.locals m->h'.Ns X.env.locals m) (hok:lg X.prog X.w H' h') (hg:AllBare g') (ht:X.tn<=t':=by walk_at "tok") :
  Inv X af σ H' { s with heap:=h',gens:=g',drawn:=d',toks:=t' }:=by
 have neL:∀ b o,X.s₀.heap.get? b=θ o->b≠X.env.locals:=fun b o e=>aa0 (OR (ID e) I.ok.above);have L:∀ b o,X.s₀.heap.get? b=θ o->b∉X.ex->b∉ch:=fun b o e g hb=>by
  rcases (C b hb).1 with z|z
  .exact g z
  .exact absurd (OR (ID e) z) (acM _)
 have J:∀ x c,X.env.cells.lookup x=θ c->∀ v,s.heap.IsCell c v->h'.IsCell c v:=fun x c e v ⟨o,Z,hd⟩=>by
  have M:c∉ch:=fun z=>(C c z).2.2.1 x c e rfl;by_cases hc:c∈X.fs
  .obtain ⟨sl,q⟩:=slot c o (I.cne x c e) hc M Z (I.freeC x c e);exact ⟨_,q,hd⟩
  .exact ⟨o,keep c o (I.cne x c e) hc M Z (I.freeC x c e),hd⟩
 refine ⟨I.ok,I.os,hg,⟨fun b o e n hb g=>?_,fun b o e n hb g=>?_,fun b o e n g=>?_,fun b o e g=>?_,fun b xs e=>tups b xs (I.base.tups b xs e),fun b o xs e=>frzs b o xs (I.base.frzs b o xs e),fun b ps e=>?_⟩,?_,fun x c e=>?_,?_,fun x c e=>?_,fun p hp=>?_,hok,I.len,ht⟩
 .exact keep b o (neL b o e) hb (L b o e g) (I.base.keep b o e n hb g) (I.base.free b o e n g)
 .let ⟨sl,Y⟩:=I.base.slot b o e n hb g
  obtain ⟨sl',e2⟩:=slot b _ (neL b o e) hb (L b o e g) Y (I.base.free b o e n g);exact ⟨sl',e2⟩
 .let ⟨o',Y⟩:=I.base.there b o e g
  exact free b o' (L b o e g) Y (I.base.free b o e n g)
 .let ⟨o',Y⟩:=I.base.there b o e g
  exact there b o' (L b o e g) Y
 .exact tbls b ps (I.base.tbls b ps e)
 .let ⟨m,hn,hl⟩:=I.loc
  refine ⟨m,ns m hn,fun i x v Y e2 e3=>?_⟩;let ⟨u,r,l⟩:=hl i x v Y e2 e3
  refine ⟨u,r,?_⟩;rcases l with l|⟨k,c,e,z⟩
  .exact .inl l
  .exact .inr ⟨k,c,e,J x c e _ z⟩
 .let ⟨v,z⟩:=I.cell x c e
  exact ⟨v,J x c e v z⟩
 .obtain ⟨m,⟨o,_,_,Z,_⟩,_⟩:=I.loc;exact free _ o (fun z=>(C _ z).2.1 rfl) Z I.free
 .let ⟨v,o,Z,hd⟩:=I.cell x c e
  exact free c o (fun z=>(C c z).2.2.1 x c e rfl) Z (I.freeC x c e)
 .let ⟨e,n,ne,nf,d⟩:=I.pin p hp
  have M:p.1∉ch:=fun z=>(C p.1 z).2.2.2 p hp rfl;simp_all
def Inv.un (I:Inv X af σ H s) (u:Un X.fs [] H H' s.heap h') (g:lg X.prog X.w H' h') (Y:X.tn<=t':=by walk_at "tok"):Inv X af σ H' { s with heap:=h',toks:=t' }:=by
 obtain ⟨m,⟨o,es,L,v,r⟩,_⟩:=id I.loc;obtain ⟨M,C⟩:=u.any v I.free (by simp);exact I.step (ch:=[]) (fun _ z=>nomatch z) (fun b o _ hb _ e n=>u.keep b o e n hb (by simp)) (fun b o _ hb _ e n=>u.slot b o e n hb (by simp)) (fun b o _ e n=>u.free b o e n (by simp)) (fun b o _ e=>u.there b o e (by simp)) u.tups u.frzs u.tbls (fun Z J=>by
  let ⟨o',es',ep',ho',r'⟩:=J
  rw [v] at ho';cases ho';exact ⟨_,es',ep',C,r'⟩) g I.bare
theorem Inv.call (I:Inv X af σ H s) (u:Un (qu X.stack) ch H H' s.heap h') (M:lg X.prog X.w H' h') (hg:AllBare g')
  (v:∀ b∈ch,(b∈X.ex\/X.s₀.heap.objs.size<=b)/\b≠X.env.locals/\(∀ x c,X.env.cells.lookup x=θ c->c≠b)/\∀ p∈X.pn++af,p.1≠b) (ht:X.tn<=t':=by walk_at "tok") :
  Inv X af σ H' { s with heap:=h',gens:=g',drawn:=d',toks:=t' }:=by
 obtain ⟨m,⟨o,es,ep,Z,r⟩,_⟩:=id I.loc;let ⟨sl,J⟩:=u.any Z I.free fun z=>(v _ z).2.1 rfl
 exact I.step v (fun b o J hb g e n=>u.keep b o e n (fun z=>(mK.mp (I.stkSub b z)).elim J hb) g) (fun b o _ _ g e n=>u.any e n g) (fun b o g e n=>u.free b o e n g) (fun b o g e=>u.there b o e g) u.tups u.frzs u.tbls (fun m' hm=>by
  obtain ⟨o',L,Y,C,r'⟩:=hm;rw [Z] at C;cases C;exact ⟨_,L,Y,J,r'⟩) M hg
theorem Inv.turned (I:Inv X af σ H s) (k:∀ b o,b≠it->s.heap.get? b=θ o->h'.get? b=θ o) (hn:H it=ξ) (C:it≠X.env.locals)
  (h1:it∈X.ex\/X.s₀.heap.objs.size<=it) (h2:∀ x c,X.env.cells.lookup x=θ c->c≠it) (L:∀ p∈X.pn++af,p.1≠it) (M:X.tn<=t':=by walk_at "tok"):Inv X af σ H { s with heap:=h',toks:=t' }:=by
 refine I.step (ch:=[it]) (fun b hb=>?_) (fun b o _ _ g e _=>k b o (fun z=>g (by simp [z])) e) (fun b o _ _ g e _=>⟨o.slots,k b o (fun z=>g (by simp [z])) e⟩) (fun _ _ _ _ n=>n)
  (fun b o g e=>⟨o,k b o (fun z=>g (by simp [z])) e⟩) (fun _ _ e=>e) (fun _ _ _ e=>e) (fun _ _ e=>e) (fun m J=>?_) (fun b u e=>?_) I.bare
 .have e  := by simpa using hb
  subst e;exact ⟨h1,C,h2,L⟩
 .let ⟨o,es,ep,ho,r⟩:=J
  exact ⟨o,es,ep,k _ o (acR C) ho,r⟩
 .refine (I.hok b u e).stay (fun c v g q=>k c v ?_ q) (fun _ q=>q) fun _ _ q=>q
  grind
def Inv.tok (I:Inv X af σ H s) (t:Nat) (g:X.tn<=t:=by walk_at "tok"):Inv X af σ H { s with toks:=t }:=I.un Un.refl I.hok
def Inv.kept (I:Inv X af σ H s) (k:∀ b u,s.heap.get? b=θ u->h'.get? b=θ u) (g:X.tn<=t':=by walk_at "tok"):Inv X af σ H { s with heap:=h',toks:=t' }:=I.un (Un.kept k) (I.hok.kept k)
def Inv.laid {a:aa3} (I:Inv X af σ H s) (k:∀ b u,s.heap.get? b=θ u->h'.get? b=θ u) (g:s.heap.objs.size<=a) (new:c7 X.prog X.w (upd H a o) h' a o) (r:X.tn<=t':=by walk_at "tok") :
  Inv X af σ (upd H a o) { s with heap:=h',toks:=t' }:=I.un (Un.laid k g (I.hok.fresh g)) (I.hok.laid k g new)
def Inv.write (I:Inv X af σ H s) (r:UX (H x)) (v:e=x\/H e=θ (.own x)) (k:∀ b u,b≠e->s.heap.get? b=θ u->h'.get? b=θ u) (g:∃ u,h'.get? e=θ u)
  (new:c7 X.prog X.w (upd H x o) h' x o) (z:X.tn<=t':=by walk_at "tok"):Inv X af σ (upd H x o) { s with heap:=h',toks:=t' }:=I.un (Un.write r v k g) (I.hok.write r v k g new)
def Inv.pins_of (I:Inv X af σ H s) (h:∀ p∈pins',s.heap.get? p.1=θ p.2/\H p.1=ξ/\p.1≠X.env.locals/\p.1∉X.fs/\∀ v,p.2.data≠.cell v):Inv X pins' σ H s :=
 ⟨I.ok,I.os,I.bare,I.base,I.loc,I.cell,I.free,I.freeC,fun p g=>(By.mp g).elim (fun z=>I.pin p (abh _ z)) (h p),I.hok,I.len,I.tk⟩
def vo {N:afP} (g:N.Nodup) {i j:Nat} (a:N[i]?=θ x) (b:N[j]?=θ x):i=j:=by
 let ⟨h1,e1⟩:=aaW.mp a
 let ⟨h2,e2⟩:=aaW.mp b
 exact (List.getElem_inj g).mp (e1.trans e2.symm)
theorem Bf (I:Inv X af σ H s) (hN:X.N.Nodup) (hi:X.N[i]?=θ x) (L:wE X.env.scope x) (r:aX v u)
  (h:∀ s',Inv X af (σ.set i (θ v)) H s'->(∃ a,aby a s.heap s'.heap/\(a=X.env.locals\/X.env.cells.lookup x=θ a))->Q () s') (hf:X.fn x=ζ\/X.env.scope.names.lookup x=θ .local:=by walk_at"u"):aaN M A (storeName X.env x u) Q E s:=by
 let ⟨m,hn,hl⟩:=id I.loc
 have hcls:(X.env.scope.kind==.class||(X.env.scope.kind==.module&&X.env.locals != X.env.globals))=η:=by rw [I.ok.kind];rfl
 have Z:i < σ.length:=by rw [I.len];exact (aaW.mp hi).1
 have cne:=I.cne;have g:∀ {a:aa3} {h':acV},(∃ o,s.heap.get? a=θ o/\H a=ξ)->aby a s.heap h'->lg X.prog X.w H h':=fun {a h'} ha hs b ob e=>by
  let ⟨_,_,hfree⟩:=ha
  refine (I.hok b ob e).stay (fun c w' J q=>(hs.2 c ?_).trans q) (fun _ q=>q) fun _ _ q=>q;rintro rfl;rcases J with rfl|J
  .rw [hfree] at e;cases e
  .rw [hfree] at J;cases J
 rcases L with hk|hk
 .refine wpAny_storeName_local hk hn (fun h' hn' hs=>?_) hcls;let ⟨oL,_,_,hoL,_⟩:=id hn
  refine h _ ⟨I.ok,I.os,I.bare,⟨fun b o e n hb L=>?_,fun b o e n hb L=>?_,I.base.free,fun b o e L=>?_,I.base.tups,I.base.frzs,I.base.tbls⟩,⟨_,hn',fun j y v' C Y e3=>?_⟩,fun y c e=>?_,I.free,I.freeC,fun p hp=>?_,g ⟨oL,hoL,I.free⟩ hs,by simpa using I.len,by walk_at "tok"⟩ ⟨_,hs,.inl rfl⟩
  .exact (hs.2 b (aa0 (OR (ID e) I.ok.above))).trans (I.base.keep b o e n hb L)
  .let ⟨sl,C⟩:=I.base.slot b o e n hb L
   exact ⟨sl,(hs.2 b (aa0 (OR (ID e) I.ok.above))).trans C⟩
  .let ⟨o',C⟩:=I.base.there b o e L
   exact ⟨o',(hs.2 b (aa0 (OR (ID e) I.ok.above))).trans C⟩
  .by_cases hj:j=i
   .subst hj;rw [hi] at C;cases C;rw [aeu Z] at Y;cases Y;exact ⟨u,r,.inl ⟨hk,by simp⟩⟩
   .rw [aeO (acR hj)] at Y;let ⟨u',r',q⟩:=hl j y v' C Y e3
    refine ⟨u',r',?_⟩;rcases q with ⟨k,e⟩|⟨k,c,e,z⟩
    .refine .inl ⟨k,?_⟩
     have:y≠x:=fun e=>hj (vo hN C (e ▸ hi))
     simp [this,e]
    .exact .inr ⟨k,c,e,z.sameBut hs (cne y c e)⟩
  .let ⟨w',z⟩:=I.cell y c e
   exact ⟨w',z.sameBut hs (cne y c e)⟩
  .let ⟨e,n,ne,nf,d⟩:=I.pin p hp
   exact ⟨(hs.2 p.1 ne).trans e,n,ne,nf,d⟩
 .have hfn:X.fn x=ζ:=by
   rcases hf with z|z
   .exact z
   .rw [z] at hk;cases hk
  let ⟨c,J⟩:=I.ok.has x (.inl hk)
  let ⟨w',z⟩:=I.cell x c J
  refine wpAny_storeName_cell I.ok.kind hk J z (fun h' hc' hs=>?_);let ⟨oc,hoc,hocd⟩:=id z
  refine h { s with heap:=h' } ⟨I.ok,I.os,I.bare,⟨fun b o e n hb L=>?_,fun b o e n hb L=>?_,I.base.free,fun b o e L=>?_,I.base.tups,I.base.frzs,I.base.tbls⟩,⟨m,hn.sameBut hs (acR (cne x c J)),fun j y v' C Y e3=>?_⟩,fun y c' e=>?_,I.free,I.freeC,fun p hp=>?_,g ⟨oc,hoc,I.freeC x c J⟩ hs,by simpa using I.len,I.tk⟩ ⟨c,hs,.inr J⟩
  .exact (hs.2 b (aa0 (OR (ID e) (I.ok.cab x c hfn J)))).trans (I.base.keep b o e n hb L)
  .let ⟨sl,C⟩:=I.base.slot b o e n hb L
   exact ⟨sl,(hs.2 b (aa0 (OR (ID e) (I.ok.cab x c hfn J)))).trans C⟩
  .let ⟨o',C⟩:=I.base.there b o e L
   exact ⟨o',(hs.2 b (aa0 (OR (ID e) (I.ok.cab x c hfn J)))).trans C⟩
  .by_cases hj:j=i
   .subst hj;rw [hi] at C;cases C;rw [aeu Z] at Y;cases Y;exact ⟨u,r,.inr ⟨.inl hk,c,J,hc'⟩⟩
   .rw [aeO (acR hj)] at Y;let ⟨u',r',q⟩:=hl j y v' C Y e3
    refine ⟨u',r',?_⟩;rcases q with q|⟨k,c',e,z'⟩
    .exact .inl q
    .refine .inr ⟨k,c',e,z'.sameBut hs ?_⟩;rintro rfl;exact hj (vo hN C (I.ok.inj _ _ _ e J ▸ hi))
  .by_cases hcc:c'=c
   .subst hcc;exact ⟨_,hc'⟩
   .let ⟨w2,z2⟩:=I.cell y c' e
    exact ⟨w2,z2.sameBut hs hcc⟩
  .let ⟨e,n,ne,nf,d⟩:=I.pin p hp
   refine ⟨(hs.2 p.1 ?_).trans e,n,ne,nf,d⟩
   grind
def pV (I:Inv X af σ H s) (J:X.N.Nodup) (z:X.N[i]?=θ x) (Y:wE X.env.scope x) (r:aX v u)
  (h:∀ g,Inv X af (σ.set i (θ v)) H g->Q () g) (C:X.fn x=ζ\/X.env.scope.names.lookup x=θ .local:=by walk_at"u"):aaN M A (storeName X.env x u) Q E s :=
 Bf I J z Y r (fun g L _=>h g L) C
def Inv.call' (I:Inv X af σ H s) (v:s'.os=s.os) (u:Un (qu X.stack) ch H H' s.heap s'.heap) (r:lg X.prog X.w H' s'.heap) (hg:AllBare s'.gens)
  (g:∀ b∈ch,(b∈X.ex\/X.s₀.heap.objs.size<=b)/\b≠X.env.locals/\(∀ x c,X.env.cells.lookup x=θ c->c≠b)/\∀ p∈X.pn++af,p.1≠b) (z:X.tn<=s'.toks:=by walk_at "tok"):Inv X af σ H' s':=by
 obtain ⟨h',g',d',t',C⟩:=s';have e  := v;subst e;exact I.call u r hg g
end
abbrev XK:=oR->Option aa3->Hp->Prop
abbrev St:=List (Option V)
abbrev VK:=V->Hp->Prop
abbrev TE:=St->Hp->VK->Prop
abbrev TT:=St->Hp->(Bool->Hp->Prop)->Prop
abbrev TA:=St->Hp->(afV->Hp->Prop)->Prop
structure Ends where
 nx:St->Hp->Prop
 rt:VK
 bk:St->Hp->Prop:=fun _ _=>False
 ct:St->Hp->Prop:=fun _ _=>False
abbrev TS:=Ends->St->Hp->Prop
def EP (X:Cx) (r:afQ) (σ:St) (Q:VK) (u:oR) (g:DO):Prop:=∃ v H',Inv X r σ H' g/\aX v u/\Q v H'
def TP (X:Cx) (r:afQ) (σ:St) (Q:Bool->Hp->Prop) (b:Bool) (g:DO):Prop:=∃ H',Inv X r σ H' g/\Q b H'
def AP (X:Cx) (r:afQ) (σ:St) (Q:afV->Hp->Prop) (us:afU) (g:DO):Prop:=∃ vs H',Inv X r σ H' g/\ba vs us/\Q vs H'
def SP (X:Cx) (z:afQ) (D:Ends) (f:Flow) (r:DO):Prop :=
 match f with
 | .next=>∃ g H',Inv X z g H' r/\D.nx g H'
 | .brk=>∃ g H',Inv X z g H' r/\D.bk g H'
 | .cont=>∃ g H',Inv X z g H' r/\D.ct g H'
 | .ret u=>∃ v g H',Inv X z g H' r/\aX v u/\D.rt v H'
def PE (X:Cx) (e:abu) (t:TE):Prop :=
 ∀ (g:afQ) (s:DO) (σ:St) (H:Hp) (Q:VK),Inv X g σ H s->t σ H Q->aaN (aaV X.prog X.w) X.A (eval e X.env) (EP X g σ Q) X.xe s
def PT (X:Cx) (e:abu) (t:TT):Prop :=
 ∀ (g:afQ) (s:DO) (σ:St) (H:Hp) (Q:Bool->Hp->Prop),Inv X g σ H s->t σ H Q->aaN (aaV X.prog X.w) X.A (isTrue e X.env (eval e X.env)) (TP X g σ Q) X.xe s
def PW (X:Cx) (e:abu) (t:TT):Prop :=
 ∀ (g:Sem oR) (r:afQ) (s:DO) (σ:St) (H:Hp) (Q:Bool->Hp->Prop),Inv X r σ H s->t σ H Q->aaN (aaV X.prog X.w) X.A (isTrue e X.env g) (TP X r σ Q) X.xe s
def PW.pt (h:PW X e t):PT X e t:=h _
def PA (X:Cx) (es:List abu) (t:TA):Prop :=
 ∀ (pos:Pos) (g:afQ) (s:DO) (σ:St) (H:Hp) (Q:afV->Hp->Prop),Inv X g σ H s->t σ H Q->aaN (aaV X.prog X.w) X.A (spliced (acL pos (aa2 es X.env))) (AP X g σ Q) X.xe s
def PS (X:Cx) (st:ac2) (t:TS):Prop :=
 ∀ (g:afQ) (s:DO) (σ:St) (H:Hp) (D:Ends),Inv X g σ H s->t D σ H->aaN (aaV X.prog X.w) X.A (exec st X.env) (SP X g D) X.xe s
def zI (X:Cx) (st:List ac2) (t:TS):Prop :=
 ∀ (g:afQ) (s:DO) (σ:St) (H:Hp) (D:Ends),Inv X g σ H s->t D σ H->aaN (aaV X.prog X.w) X.A (execs st X.env) (SP X g D) X.xe s
def bT {t:Sem α} {Q g:α->DO->Prop} (h:aaN M A t Q E s) (hQ:∀ a s,Q a s->g a s):aaN M A t g E s:=abn h hQ fun _ _ x=>x
section
variable {X:Cx}
def Oi (i:Nat):TE:=fun σ H Q=>∃ v,σ[i]?=θ (θ v)/\Q v H
def tC (v:V):TE:=fun _ H Q=>Q v H
def w9 {pos:Pos} (M:X.N[i]?=θ x) (hv:oy X.env.scope x) (J:afX x:=by decide) (C:(x==("__classdict__":Str))=η:=by decide):PE X (.Name x pos) (Oi i):=by
 intro Z s σ H Q I h;let ⟨v,e,h⟩:=h
 obtain ⟨m,hn,hl⟩:=I.loc;let ⟨u,r,l⟩:=hl i x v M e hv
 have fin:EP X Z σ Q u s:=⟨v,H,I,r,h⟩;rcases l with ⟨z,Y⟩|⟨z,c,L,g⟩
 .exact wpAny_Name (wpAny_loadName_local I.ok.kind z hn Y fin) J
 .rcases z with z|z
  .exact wpAny_Name (wpAny_loadName_cell I.ok.kind z L g fin) J
  .exact wpAny_Name (wpAny_loadName_free I.ok.kind z L g fin C) J
def Pf:PE X (.Constant (.int i) j pos) (tC (.int i)):=fun _ _ _ H _ I h=>wpAny_Constant_int ⟨.int i,H,I.tok _,⟨_,rfl⟩,h⟩
def Uo:PE X (.Constant (.bool b) j pos) (tC (.bl b)):=fun _ _ _ H _ I h=>Constant_bool ⟨.bl b,H,I,rfl,h⟩
def Ou:PE X (.Constant .none j pos) (tC .non):=fun _ _ _ H _ I h=>Constant_none ⟨.non,H,I,rfl,h⟩
def Og:PE X (.Constant (.str x) j pos) (tC (.str x)):=fun _ _ _ H _ I h=>Calls.Constant_str ⟨.str x,H,I.tok _,⟨_,rfl⟩,h⟩
def Gl (X:Cx) (x:Str):Prop:=X.env.kindOf x=θ .globalImplicit
def i9 {σ:St} (I:Inv X af σ H s) (hg:Gl X x) (r:X.mg x=θ u) (h:Q u s)
  (g:afX x:=by decide):aaN (aaV X.prog X.w) X.A (eval (.Name x pos) X.env) Q E s :=
 adY I.ok.kind hg (Calls.loadGlobal_global (by rw [I.ok.glob];exact I.mod.glob.keeps I.bk) r h) g
def g8 {E:afR} {σ:St} {pos:Pos} (I:Inv X af σ H s) (hg:Gl X x) (v:X.mg x=ξ) (r:MK x=θ u) (h:Q u s)
  (hn:x≠"__name__":=by decide) (g:afX x:=by decide):aaN (aaV X.prog X.w) X.A (eval (.Name x pos) X.env) Q E s:=by
 let ⟨mb,h1,h2⟩:=I.mod.blt
 exact adY I.ok.kind hg (Calls.loadGlobal_builtin (by rw [I.ok.glob];exact I.mod.glob.keeps I.bk) v (by rw [I.ok.blt];exact h1.keeps I.bk) ((h2 x hn).trans r) h) g
def y9 (hg:Gl X x) (z:X.mg x=θ u) (r:aX v u) (g:afX x:=by decide):PE X (.Name x pos) (tC v) :=
 fun _ _ _ H _ I h=>i9 I hg z ⟨v,H,I,r,h⟩ g
def J5 {pos:Pos} (hg:Gl X x) (C:X.mg x=ξ) (z:MK x=θ u) (r:aX v u) (hn:x≠"__name__":=by decide) (g:afX x:=by decide):PE X (.Name x pos) (tC v) :=
 fun _ _ _ H _ I h=>g8 I hg C z ⟨v,H,I,r,h⟩ hn g
def tB (t:TE):TT:=fun σ H Q=>t σ H fun x H1=>∃ c,x=.bl c/\Q c H1
variable {rest:List abu}
def WB (t u:TT):TT:=fun σ H Q=>t σ H fun c H1=>if c=ζ then u σ H1 Q else Q η H1
def aah (t u:TT):TT:=fun σ H Q=>t σ H fun c H1=>if c=ζ then Q ζ H1 else u σ H1 Q
def SE (t:TT):TT:=fun σ H Q=>t σ H fun c H1=>Q (!c) H1
def Jp (g:PT X a tA):PW X (.BoolOp .And [a] pos) tA:=by
 intro u r s σ H Q I h;refine isTrue_and (bT (g r s σ H Q I h) fun c v e=>?_);cases c with
 | true=>exact isTrue_and_nil e
 | false=>exact e
def Oo (g:PT X a tA):PW X (.BoolOp .Or [a] pos) tA:=by
 intro u r s σ H Q I h;refine isTrue_or (bT (g r s σ H Q I h) fun c v e=>?_);cases c with
 | false=>exact isTrue_or_nil e
 | true=>exact e
def MV (u:PT X a tA) (hb:PW X (.BoolOp .And (b::rest) pos) tB'):PW X (.BoolOp .And (a::b::rest) pos) (WB tA tB'):=by
 intro r g s σ H Q I h;refine isTrue_and (bT (u g s σ H _ I h) fun c s1 ⟨H1,I1,q1⟩=>?_);cases c with
 | true=>exact hb r g s1 σ H1 Q I1 q1
 | false=>exact ⟨H1,I1,q1⟩
def R4 (u:PT X a tA) (hb:PW X (.BoolOp .Or (b::rest) pos) tB'):PW X (.BoolOp .Or (a::b::rest) pos) (aah tA tB'):=by
 intro r g s σ H Q I h;refine isTrue_or (bT (u g s σ H _ I h) fun c s1 ⟨H1,I1,q1⟩=>?_);cases c with
 | true=>exact ⟨H1,I1,q1⟩
 | false=>exact hb r g s1 σ H1 Q I1 q1
def Ql (g:PT X a tA):PT X (.UnaryOp .Not a pos) (SE tA):=by
 intro r s σ H Q I h;exact isTrue_not (g r s σ H (fun c H1=>Q (!c) H1) I h)
def QT (h:PE X a t):PE X (.BoolOp op [a] pos) t:=fun g s σ H Q I hw=>BoolOp_one (h g s σ H Q I hw)
def aay (t:TT) (ta tb:TE):TE:=fun σ H Q=>t σ H fun c H1=>if c=ζ then ta σ H1 Q else tb σ H1 Q
def Et (r:PT X c tA) (u:PE X a ta) (hb:PE X b tb):PE X (.IfExp c a b pos) (aay tA ta tb):=by
 intro g s σ H Q I h;refine wpAny_IfExp (bT (r g s σ H _ I h) fun d s1 ⟨H1,I1,q1⟩=>?_);cases d with
 | true=>exact u g s1 σ H1 Q I1 q1
 | false=>exact hb g s1 σ H1 Q I1 q1
end
def e8 (K:aT) (H:Hp) (a:aa3) (xs:afV):Prop :=
 Rd H a (.lst xs) \/
  ∃ (o:Obj) (its:Array oR) (n:Nat),K.lookup a=θ o/\o.cls=.type "list"/\o.dict=ξ/\o.data=.seq its n/\its.size<=RW/\ba xs its.toList
def g6 (K:aT) (H:Hp) (a:aa3) (xs:afV):Prop :=
 Rd H a (.tup xs) \/
  ∃ (o:Obj) (its:Array oR) (n:Nat),K.lookup a=θ o/\o.cls=.type "tuple"/\o.data=.seq its n/\its.size<=RW/\ba xs its.toList
noncomputable def Yd:oR->Option V
 | .none=>θ .non
 | .bool b=>θ (.bl b)
 | .int i _=>θ (.int i)
 | .str x _=>θ (.str x)
 | .bytes b _=>θ (.byt b)
 | .float b _=>θ (.flt b)
 | .ref a=>θ (.ref a)
 | .type n=>θ (.ty n)
 | _=>ξ
def aX.abs (r:aX x u):Yd u=θ x:=by
 cases x with
 | non=>cases r;rfl
 | bl _=>cases r;rfl
 | int _=>obtain ⟨t,rfl⟩:=r;rfl
 | str _=>obtain ⟨t,rfl⟩:=r;rfl
 | byt _=>obtain ⟨t,rfl⟩:=r;rfl
 | flt _=>obtain ⟨t,rfl⟩:=r;rfl
 | ref _=>cases r;rfl
 | ty _=>cases r;rfl
def aX.inj (r:aX x u) (q:aX y u):x=y:=ab9 (r.abs.symm.trans q.abs)
theorem ba.inj:∀ {xs ys:afV} {us:afU},ba xs us->ba ys us->xs=ys
 | _,_,_,.nil,.nil=>rfl
 | _,_,_,.cons r t,.cons r' t'=>by rw [r.inj r',ba.inj t t']
section
variable {σ:St}
def e8.of {K:aT} (h:H a=θ (.lst xs)):e8 K H a xs:=.inl (.inl h)
def Inv.list (I:Inv X af σ H s) (h:e8 X.K H a xs):∃ its:afU,ba xs its/\PlainL s.heap a its.toArray/\xs.length<=RW:=by
 rcases h with h|⟨o,its,n,hk,hc,hd,hs,hz,r⟩
 .obtain ⟨z,its,n,r,e⟩:=h.ok I.hok;exact ⟨its,r,⟨_,n,e,rfl,rfl,rfl⟩,z⟩
 .refine ⟨its.toList,r,⟨o,n,I.kIn a o hk,hc,hd,by simpa using hs⟩,?_⟩;have e:=r.length;simp_all
def Inv.tuple (I:Inv X af σ H s) (h:g6 X.K H a xs):∃ its:afU,ba xs its/\afo s.heap a its.toArray/\xs.length<=RW:=by
 rcases h with h|⟨o,its,n,hk,hc,hs,hz,r⟩
 .let ⟨z,its,r,p⟩:=h.ok I.hok
  exact ⟨its,r,p,z⟩
 .refine ⟨its.toList,r,⟨o,I.kIn a o hk,hc,n,by simpa using hs⟩,?_⟩;have e:=r.length;simp_all
def Inv.list_inj (I:Inv X af σ H s) (h:e8 X.K H a xs) (h':e8 X.K H a ys):xs=ys:=by
 obtain ⟨its,r,⟨o,n,e,_,_,d⟩,_⟩:=I.list h;obtain ⟨its',g,⟨u,v,z,_,_,d'⟩,_⟩:=I.list h'
 have:its=its':=by simp_all
 subst this;exact r.inj g
def Inv.tuple_inj (I:Inv X af σ H s) (h:g6 X.K H a xs) (h':g6 X.K H a ys):xs=ys:=by
 obtain ⟨its,r,⟨o,e,_,n,d⟩,_⟩:=I.tuple h;obtain ⟨its',g,⟨u,z,_,v,d'⟩,_⟩:=I.tuple h'
 have:its=its':=by simp_all
 subst this;exact r.inj g
end
abbrev Cx.wish (X:Cx) (E:afR):Cx:={ X with xe:=E }
abbrev Cx.nox (X:Cx):Cx:=X.wish fun _ _=>False
def Cx.Ok.wish {X:Cx} (ok:X.Ok) (E:afR):(X.wish E).Ok :=
 ⟨ok.mod,ok.kind,ok.glob,ok.blt,ok.above,ok.inj,ok.has,ok.cab,ok.hd,ok.frames,ok.stk,ok.exf,ok.bs,ok.bsz,ok.noex,ok.exfs,ok.funs,ok.frf⟩
def Cx.Ok.unwish {X:Cx} (ok:(X.wish E).Ok):X.Ok :=
 ⟨ok.mod,ok.kind,ok.glob,ok.blt,ok.above,ok.inj,ok.has,ok.cab,ok.hd,ok.frames,ok.stk,ok.exf,ok.bs,ok.bsz,ok.noex,ok.exfs,ok.funs,ok.frf⟩
section
variable {σ:St}
def Inv.wish (I:Inv X af σ H s) (E:afR):Inv (X.wish E) af σ H s:=⟨I.ok.wish E,I.os,I.bare,I.base,I.loc,I.cell,I.free,I.freeC,I.pin,I.hok,I.len,I.tk⟩
def Inv.unwish (I:Inv (X.wish E) af σ H s):Inv X af σ H s:=⟨I.ok.unwish,I.os,I.bare,I.base,I.loc,I.cell,I.free,I.freeC,I.pin,I.hok,I.len,I.tk⟩
def SP.unwish (h:SP (X.wish E) af D f s'):SP X af D f s':=by
 cases f with
 | next=>obtain ⟨g,H',I,q⟩:=h;exact ⟨g,H',I.unwish,q⟩
 | brk=>obtain ⟨g,H',I,q⟩:=h;exact ⟨g,H',I.unwish,q⟩
 | cont=>obtain ⟨g,H',I,q⟩:=h;exact ⟨g,H',I.unwish,q⟩
 | ret u=>obtain ⟨v,g,H',I,r,q⟩:=h;exact ⟨v,g,H',I.unwish,r,q⟩
def zI.nox {st:List ac2} (h:zI X.nox st t):zI X st t:=fun g s σ H D I hw =>
 abn (h g s σ H D (I.wish _) hw) (fun _ _ q=>q.unwish) fun _ _ z=>abZ z
end
section
variable {st:ac2} {rest:List ac2}
def LO:TS:=fun D σ H=>D.nx σ H
def RU (t u:TS):TS:=fun D σ H=>t { D with nx:=u D } σ H
def Lo:zI X [] LO:=fun _ _ σ H _ I h=>adV ⟨σ,H,I,h⟩
def pe (h1:PS X st t) (h2:zI X rest u):zI X (st::rest) (RU t u):=by
 intro r s σ H D I h;refine wpAny_execs_cons (bT (h1 r s σ H { D with nx:=u D } I h) fun f C q=>?_);cases f with
 | next =>
  obtain ⟨g,H',z,q⟩:=q;exact h2 r C g H' D z q
 | ret v=>exact q
 | brk=>exact q
 | cont=>exact q
def zk (h1:PS X st t):zI X [st] t:=by
 intro g s σ H D I h;refine wpAny_execs_cons (bT (h1 g s σ H D I h) fun f r q=>?_);cases f with
 | next=>exact adV q
 | ret v=>exact q
 | brk=>exact q
 | cont=>exact q
def Inv.quiet {g:afQ} {σ:St} {H:Hp} {s:DO} (I:Inv X g σ H s):interactive X.env=η:=by simp [interactive,I.ok.kind]
def yV (te:TE):TS:=fun D σ H=>te σ H fun _ H1=>D.nx σ H1
def HZ (z:PE X e te) (hs:acq e ξ pos.line X.env=pure η:=by rfl):PS X (.Expr e pos) (yV te):=by
 intro C s σ H D I h;exact wpAny_Expr_any (bT (z C s σ H _ I h) fun v J u=>ji u fun x H1 g r1 r=>⟨σ,H1,g,r⟩) I.quiet hs
def UE (te:TE):TS:=fun D σ H=>te σ H D.rt
def QO (z:PE X e te):PS X (.Return (θ e) pos) (UE te):=by
 intro C s σ H D I h;exact wpAny_Return_some (bT (z C s σ H _ I h) fun v J u=>ji u fun x H1 g r1 r=>⟨x,σ,H1,g,r1,r⟩)
def Vn (c:TT) (t u:TS):TS:=fun D σ H=>c σ H fun b H1=>if b=ζ then t D σ H1 else u D σ H1
def We (v:PT X c tc) (r:zI X a t) (hb:zI X b u):PS X (.If c a b pos) (Vn tc t u):=by
 intro g s σ H D I h;refine wpAny_If (bT (v g s σ H _ I h) fun d s1 ⟨H1,I1,q1⟩=>?_);cases d with
 | true=>exact r g s1 σ H1 D I1 q1
 | false=>exact hb g s1 σ H1 D I1 q1
end
abbrev TG:=V->St->Hp->(St->Hp->Prop)->Prop
abbrev IY:=afV->St->Hp->(St->Hp->Prop)->Prop
def PG (X:Cx) (g:abu) (t:TG):Prop :=
 ∀ (z:afQ) (s:DO) (σ:St) (H:Hp) (v:V) (u:oR) (Q:St->Hp->Prop),Inv X z σ H s->aX v u->t v σ H Q ->
  aaN (aaV X.prog X.w) X.A (assign g X.env u) (fun _ C=>∃ r H',Inv X z r H' C/\Q r H') X.xe s
def UT (X:Cx) (ts:List abu) (t:IY):Prop :=
 ∀ (r:afQ) (s:DO) (σ:St) (H:Hp) (vs:afV) (us:afU) (Q:St->Hp->Prop),Inv X r σ H s->ba vs us->t vs σ H Q ->
  aaN (aaV X.prog X.w) X.A (assignInOrder ((abz ts X.env).map (·.2)) us) (fun _ u=>∃ g H',Inv X r g H' u/\Q g H') X.xe s
abbrev OO:=V->V->V->Hp->(Hp->Prop)->Prop
def PD (X:Cx) (t:OO):Prop :=
 ∀ (r:afQ) (s:DO) (σ:St) (H:Hp) (o i v:V) (ov g u:oR) (Q:Hp->Prop),Inv X r σ H s->aX o ov->aX i g->aX v u->t o i v H Q ->
  aaN (aaV X.prog X.w) X.A (setItem ov g u) (fun _ z=>∃ H',Inv X r σ H' z/\Q H') X.xe s
abbrev ZF:=V->V->Hp->VK->Prop
def PIp (X:Cx) (op:Operator) (t:ZF):Prop :=
 ∀ (g:afQ) (s:DO) (σ:St) (H:Hp) (x y:V) (v u:oR) (Q:VK),Inv X g σ H s->aX x v->aX y u->t x y H Q ->
  aaN (aaV X.prog X.w) X.A (inplaceOp op v u) (EP X g σ Q) X.xe s
section
variable {pos:Pos}
def ku (i:Nat):TG:=fun v σ H Q=>Q (σ.set i (θ v)) H
def zc (J:X.N.Nodup) (g:X.N[i]?=θ x) (z:wE X.env.scope x) (C:X.fn x=ζ\/X.env.scope.names.lookup x=θ .local:=by walk_at"u"):PG X (.Name x pos) (ku i):=by
 intro Y s σ H v u Q I r h;exact wpAny_assign_Name (pV I J g z r (fun M L=>⟨_,H,L,h⟩) C)
def VF:IY:=fun vs σ H Q=>vs=[]/\Q σ H
def MF (t:TG) (u:IY):IY:=fun vs σ H Q=>∃ v r,vs=v::r/\t v σ H fun g H'=>u r g H' Q
def Lq:UT X [] VF:=by
 intro g s σ H vs us Q I r h;let ⟨e,h⟩:=h
 exact assignInOrder_nil ⟨σ,H,I,h⟩
def Ec (h1:PG X e t) (h2:UT X es u)
  (hs:(abz (e::es) X.env).map (·.2)=assign e X.env::(abz es X.env).map (·.2):=by rfl):UT X (e::es) (MF t u):=by
 intro g s σ H vs us Q I r h;obtain ⟨v,J,C,h⟩:=h;subst C;cases r with
 | cons r z =>
  rw [hs];refine assignInOrder_cons (bT (h1 g s σ H _ _ _ I r h) fun _ s1 ⟨σ1,H1,I1,q1⟩=>?_);exact h2 g s1 σ1 H1 _ _ Q I1 z q1
def Vc (K:aT) (n:Nat) (t:IY):TG:=fun v σ H Q=>∃ a xs,v=.ref a/\g6 K H a xs/\xs.length=n/\t xs σ H Q
def Ol {k:Nat} (L:X.calm=ζ) (h:UT X es t)
  (hn:(abz es X.env).length=n:=by rfl) (g:(abz es X.env).findIdx? (·.1)=ξ:=by rfl):PG X (.Tuple es k pos) (Vc X.K n t):=by
 intro J s σ H v u Q I r hw;obtain ⟨a,xs,M,C,hl,hw⟩:=hw;subst M;cases r;let ⟨its,rv,ht,hz⟩:=I.tuple C
 refine assign_Tuple_tuple (I.ok.hd L) ht (by simp [hn,<- hl,rv.length]) g fun h' z=>?_;have I1  := I.kept fun b o e=>z b o (aa0 (ID e)) e;exact h J _ σ H xs _ Q I1 (by simpa using rv) hw
def MY (u r:TE) (t:OO):TG:=fun v σ H Q=>u σ H fun o H1=>r σ H1 fun i z=>t o i v z fun g=>Q σ g
def Q1 (J:PE X o to) (M:PE X i ti) (hs:PD X t)
  (ha:∀ v,assign (.Subscript o i pos) X.env v=(do
   let ov <- holding [v] (eval o X.env)
   let g <- holding [v,ov] (eval i X.env)
   ae1 pos
   holding [v,ov,g] (setItem ov g v)
   release [v,ov,g] []):=by intro _;rfl):PG X (.Subscript o i pos) (MY to ti t):=by
 intro C s σ H v u Q I r h;refine dO (abW (bT (J C s σ H _ I h) fun ov s1 z=>ji z fun x H1 Y r1 L=>?_));refine dO (abW (bT (M C s1 σ H1 _ Y L) fun g s2 z=>ji z fun y H2 I2 r2 Z=>?_));refine dO (wpAny_standAt (dO (abW (bT (hs C s2 σ H2 x y v ov g u _ I2 r1 r2 r Z) fun _ s3 ⟨H3,I3,q3⟩=>?_))));exact wpAny_release ⟨σ,H3,I3,q3⟩
def uw (te:TE) (g:TG):TS:=fun D σ H=>te σ H fun x H1=>g x σ H1 D.nx
def PL (L:PE X e te) (hg:PG X tg g) (hs:swapsWithSole [tg] e pos.line X.env=pure η:=by rfl) (hw:swappedStores [tg] e X.env=pure ξ:=by rfl)
  (h1:(abz [tg] X.env).map (·.2)=[assign tg X.env]:=by rfl):PS X (.Assign [tg] e pos) (uw te g):=by
 intro r s σ H D I h;refine wpAny_Assign_stores (bT (L r s σ H _ I h) fun v J C=>ji C fun x H1 z r1 u=>?_) hs hw;rw [h1];exact bT (hg r J σ H1 x v _ z r1 u) fun _ M q=>q
def Qo (z:X.N.Nodup) (r:X.N[i]?=θ x) (C:wE X.env.scope x) (Y:PE X e te) (hs:acq e (θ (.Name x pos')) pos.line X.env=pure η:=by rfl) (Z:X.fn x=ζ\/X.env.scope.names.lookup x=θ .local:=by walk_at"u") :
  PS X (.Assign [.Name x pos'] e pos) (uw te (ku i)):=by
 intro af s σ H D I h;refine wpAny_Assign_Name (bT (Y af s σ H _ I h) fun v s1 L=>ji L fun y H1 J r1 g=>?_) hs;exact pV J z r C r1 (fun s2 M=>⟨_,H1,M,g⟩) Z
def Zf (i:Nat) (te:TE) (g:ZF):TS:=fun D σ H=>∃ x,σ[i]?=θ (θ x)/\te σ H fun y H1=>g x y H1 fun z r=>D.nx (σ.set i (θ z)) r
theorem NL (hN:X.N.Nodup) (hi:X.N[i]?=θ x) (Y:wE X.env.scope x) (he:PE X e te) (ho:PIp X op ti) (hf:X.fn x=ζ\/X.env.scope.names.lookup x=θ .local:=by walk_at"u") :
  PS X (.AugAssign (.Name x pos') op e pos) (Zf i te ti):=by
 intro af s σ H D I h;let ⟨v,e1,h⟩:=h
 let ⟨m,hn,hl⟩:=I.loc
 have M:oy X.env.scope x:=by rcases Y with k|k;exact .inl k;exact .inr (.inl k)
 let ⟨u,r,l⟩:=hl i x v hi e1 M
 refine wpAny_AugAssign_Name ?_;have go:aaN (aaV X.prog X.w) X.A (eval e X.env) (fun w J=>aaN (aaV X.prog X.w) X.A (inplaceOp op u w) (fun r L=>aaN (aaV X.prog X.w) X.A (storeName X.env x r) (fun _=>SP X af D .next) X.xe L) X.xe J) X.xe s:=by
  refine bT (he af s σ H _ I h) fun w s1 Z=>ji Z fun y H1 I1 r1 q1=>?_;refine bT (ho af s1 σ H1 v y u w _ I1 r r1 q1) fun z s2 Z=>ji Z fun zv H2 I2 r2 q2=>?_;exact pV I2 hN hi Y r2 (fun s3 I3=>⟨_,H2,I3,q2⟩) hf
 rcases l with ⟨g,hm⟩|⟨g,c,hc,C⟩
 .exact wpAny_loadName_local I.ok.kind g hn hm go
 .rcases g with g|g
  .exact wpAny_loadName_cell I.ok.kind g hc C go
  .rcases Y with k|k
   .have:X.env.scope.names.lookup x=θ .free:=g
    rw [k] at this;cases this
   .have:X.env.scope.names.lookup x=θ .free:=g
    rw [k] at this;cases this
end
section
def EU (c:TT) (tb:TS):TS:=fun D σ H=>∃ W:Nat->St->Hp->Prop,(∃ m,W m σ H)/\∀ m σ H,W m σ H ->
 c σ H fun b H1=>if b=ζ then ∃ N:St->Hp->Prop,(∀ g H',N g H'->∃ r,r < m/\W r g H')/\tb { D with nx:=N,ct:=N,bk:=D.nx } σ H1 else D.nx σ H1
theorem FC (z:adM (aaV X.prog X.w) X.A X.env X.xe) (M:PT X c tc) (hb:zI X body tb):PS X (.While c body [] pos) (EU tc tb):=by
 intro u s σ H D I h;obtain ⟨W,⟨J,L⟩,iy⟩:=h;refine wpAny_While (codeAny_whileLoop (fun n C=>∃ g H',Inv X u g H' C/\W n g H') ?_ J ⟨σ,H,I,L⟩);rintro n s1 ⟨σ1,H1,I1,w1⟩;refine acJ z (bT (M u s1 σ1 H1 _ I1 (iy n σ1 H1 w1)) fun b s2 ⟨H2,I2,q2⟩=>?_);cases b with
 | true =>
  let ⟨N,hN,q2⟩:=q2
  refine acJ z (bT (hb u s2 σ1 H2 _ I2 q2) fun f Y r=>?_);cases f with
  | next =>
   let ⟨σ3,H3,I3,n3⟩:=r
   let ⟨m',hm,w3⟩:=hN σ3 H3 n3
   exact ⟨m',hm,σ3,H3,I3,w3⟩
  | cont =>
   let ⟨σ3,H3,I3,n3⟩:=r
   let ⟨m',hm,w3⟩:=hN σ3 H3 n3
   exact ⟨m',hm,σ3,H3,I3,w3⟩
  | brk=>exact r
  | ret v=>exact r
 | false =>
  exact adV ⟨σ1,H2,I2,q2⟩
end
structure It where
 go:Nat->Hp->Prop
 yld:Nat->Hp->V->Hp->Prop
 stop:Nat->Hp->Prop
def eS (X:Cx) (g:afQ) (H:Hp) (b:aa3):Prop :=
 H b=ξ/\b≠X.env.locals/\b∉X.fs/\(b∈X.ex\/X.s₀.heap.objs.size<=b)/\(∀ x c,X.env.cells.lookup x=θ c->c≠b)/\∀ p∈X.pn++g,p.1≠b
def Inv.fpOk {σ:St} {b:aa3} (I:Inv X af σ H s) (hb:s.heap.objs.size<=b) (hn:H' b=ξ):eS X af H' b:=by
 refine ⟨hn,adI (OR I.lt hb),I.nofs hb,.inr (Le I.sz hb),fun x c e z=>?_,fun p g z=>?_⟩
 .let ⟨v,q⟩:=I.cell x c e
  exact absurd (OR q.lt (by rw [z];exact hb)) (acM _)
 .exact absurd (OR (ID (I.pin p g).1) (by rw [z];exact hb)) (acM _)
structure Turn (P:abN) (w:abA) (K:aT) (tg:abu) (J:It) (fp:afT) (it:aa3) (tn:Nat->acV->Prop):Prop where
 mem:it∈fp
 obj:∀ i h,tn i h->∀ b∈fp,∃ o,h.get? b=θ o/\∀ v,o.data≠.cell v
 keep:∀ i h h',tn i h->(∀ b∈fp,∀ o,h.get? b=θ o->h'.get? b=θ o)->tn i h'
 item:∀ (X:Cx),X.prog=P->X.w=w->X.K=K->X.calm=ζ->∀ (i:Nat) (af:afQ) (s:DO) (σ:St) (H:Hp) (E:afR),Inv X af σ H s->(∀ b∈fp,eS X af H b)->tn i s.heap->J.go i H ->
  aaN (aaV P w) X.A (pyNext (.ref it)) (fun r s1=>∃ u,r=θ u /\
   aaN (aaV P w) X.A (aeI tg (.ref it) u) (fun _ s2=>∃ x H',Inv X af σ H' s2/\aX x u/\J.yld i H x H'/\tn (i+1) s2.heap/\∀ b∈fp,H' b=ξ) E s1) E s
 done:∀ (X:Cx),X.prog=P->X.w=w->X.K=K->X.calm=ζ->∀ (i:Nat) (af:afQ) (s:DO) (σ:St) (H:Hp) (E:afR),Inv X af σ H s->(∀ b∈fp,eS X af H b)->tn i s.heap->J.stop i H ->
  aaN (aaV P w) X.A (pyNext (.ref it)) (fun r s1=>r=ξ/\Inv X af σ H s1) E s
 self:∀ (A:acy) (i:Nat) (s:DO) (Q:afR) (E:afR),tn i s.heap->Q (.ref it) s->aaN (aaV P w) A (pyIter (.ref it)) Q E s
abbrev TI:=St->Hp->(It->Hp->Prop)->Prop
def aad (X:Cx) (v:afQ) (σ:St) (tg:abu) (R:It->Hp->Prop) (g:oR) (u:DO):Prop :=
 ∃ (it:aa3) (r:afT) (tn:Nat->acV->Prop) (J:It) (H':Hp),g=.ref it/\Inv X v σ H' u/\Turn X.prog X.w X.K tg J r it tn/\tn 0 u.heap/\(∀ b∈r,eS X v H' b)/\R J H'
def PI (X:Cx) (tg iter:abu) (r:TI):Prop :=
 ∀ (g:afQ) (s:DO) (σ:St) (H:Hp) (R:It->Hp->Prop),Inv X g σ H s->r σ H R ->
  aaN (aaV X.prog X.w) X.A (eval iter X.env) (fun v u=>aaN (aaV X.prog X.w) X.A (pyIter v) (aad X g σ tg R) X.xe u) X.xe s
theorem we (g:s.heap.get? it=θ o) (v:o.cls=.type n) (r:o.data=.fields vs)
    (hn:["enumerate","zip","dict_itemiterator","dict_reverseitemiterator","odict_iterator","itertools.zip_longest","itertools.pairwise"].contains n=η) (hQ:Q () s):aaN M A (aeI tg (.ref it) u) Q E s:=by
  cases tg <;> first
    | exact rW hQ
    | (cases u <;> first
        | exact rW hQ
        | (refine dO (wpAny_load g ?_)
           rw [v,r];show aaN M A (if (["enumerate","zip","dict_itemiterator","dict_reverseitemiterator","odict_iterator","itertools.zip_longest","itertools.pairwise"].contains n&&vs[0]?==θ (aeJ _))=ζ then _ else _) Q E s;rw [afJ (by grind)];exact rW hQ))
def X7 (K:aT) (a:aa3):It :=
 ⟨fun i H=>∃ xs x,e8 K H a xs/\xs[i]?=θ x,fun i H x H'=>H'=H/\∀ xs,e8 K H a xs->xs[i]?=θ x,fun i H=>∃ xs,e8 K H a xs/\xs.length<=i⟩
def Zg (K:aT) (a:aa3):It :=
 ⟨fun i H=>∃ xs x,g6 K H a xs/\xs[i]?=θ x,fun i H x H'=>H'=H/\∀ xs,g6 K H a xs->xs[i]?=θ x,fun i H=>∃ xs,g6 K H a xs/\xs.length<=i⟩
def Xa (lo:Int) (n:Nat):It:=⟨fun i _=>i < n,fun i H x H'=>H'=H/\x=.int (lo+i),fun i _=>n<=i⟩
theorem Ch {K:aT} (a it:aa3):Turn P w K tg (X7 K a) [it] it (fun i h=>h.IsListIter it a i) where
 mem:=by simp
 obj:=fun i h st b hb=>by
  let ⟨o,e,c,d⟩:=st
  simp_all
 keep:=fun i h h' st k=>st.at fun o e=>k it (by simp) o e
 item:=by
  intro X z hw v C i M s σ H E I r st hg;subst z hw v;let ⟨xs,x,hq,hx⟩:=hg
  let ⟨its,rv,p,hz⟩:=I.list hq
  let ⟨u,hu,ru⟩:=rv.get hx
  let ⟨f0,f1,f2,f3,f4,f5⟩:=r it (by simp)
  refine wpAny_pyNext_list_item st p.isList (by simpa using hu) fun h' g J=>?_;have I1  := I.turned (fun b o hb e=>(J.2 b hb).trans e) f0 f1 f3 f4 f5;let ⟨o,e,c,d⟩:=id g
  exact ⟨u,rfl,we e c d (by decide) ⟨x,H,I1,ru,⟨rfl,fun ys hy=>by rw [I.list_inj hy hq];exact hx⟩,g,fun b hb=>(r b hb).1⟩⟩
 done:=by
  intro X z hw v C i M s σ H E I r st hg;subst z hw v;let ⟨xs,hq,hx⟩:=hg
  let ⟨its,rv,p,hz⟩:=I.list hq
  let ⟨f0,f1,f2,f3,f4,f5⟩:=r it (by simp)
  have hl:=rv.length;exact wpAny_pyNext_list_end (I.ok.hd C) st p.isList (by simp;lia) fun h' L=>⟨rfl,I.turned (fun b o hb e=>L b o hb e) f0 f1 f3 f4 f5⟩
 self:=fun _ _ _ _ _ st h=>wpAny_pyIter_listiter st h
theorem yf {K:aT} (a it:aa3):Turn P w K tg (Zg K a) [it] it (fun i h=>h.IsTupleIter it a i) where
 mem:=by simp
 obj:=fun i h st b hb=>by
  have e:b=it:=by simpa using hb
  subst e;let ⟨o,e,c,d⟩:=st
  simp_all
 keep:=fun i h h' st k=>st.at fun o e=>k it (by simp) o e
 item:=by
  intro X z hw v C i M s σ H E I r st hg;subst z hw v;let ⟨xs,x,hq,hx⟩:=hg
  let ⟨its,rv,p,hz⟩:=I.tuple hq
  let ⟨u,hu,ru⟩:=rv.get hx
  let ⟨f0,f1,f2,f3,f4,f5⟩:=r it (by simp)
  refine wpAny_pyNext_tuple_item st ((p)) (by simpa using hu) fun h' g J=>?_;have I1  := I.turned (fun b o hb e=>(J.2 b hb).trans e) f0 f1 f3 f4 f5;let ⟨o,e,c,d⟩:=id g
  exact ⟨u,rfl,we e c d (by decide) ⟨x,H,I1,ru,⟨rfl,fun ys hy=>by rw [I.tuple_inj hy hq];exact hx⟩,g,fun b hb=>(r b hb).1⟩⟩
 done:=by
  intro X z hw v C i M s σ H E I r st hg;subst z hw v;let ⟨xs,hq,hx⟩:=hg
  let ⟨its,rv,p,hz⟩:=I.tuple hq
  let ⟨f0,f1,f2,f3,f4,f5⟩:=r it (by simp)
  have hl:=rv.length;exact wpAny_pyNext_tuple_end (I.ok.hd C) st ((p)) (by simp;lia) fun h' L=>⟨rfl,I.turned (fun b o hb e=>L b o hb e) f0 f1 f3 f4 f5⟩
 self:=fun _ _ _ _ _ st h=>wpAny_pyIter_tupleiter st h
theorem xw {K:aT} (it:aa3) (lo:Int) (n:Nat):Turn P w K tg (Xa lo n) [it] it (fun i h=>IsRangeIter h it (lo+(i:Nat)*1) ((n:Int) - (i:Nat)) 1) where
 mem:=by simp
 obj:=fun i h st b hb=>by
  simp_all
 keep:=fun i h h' st k=>k it (by simp) _ st
 item:=by
  intro X C hw z u i Y s σ H E I r st hg;subst C hw z;let ⟨f0,f1,f2,f3,f4,f5⟩:=r it (by simp)
  have W:=Walks.range (prog:=X.prog) (w:=X.w) (I.ok.hd u) it lo 1 n;refine aW I.tk (W.item i s _ _ hg st fun v h' tk Z g M J=>?_);obtain ⟨t,rfl⟩:=Z;have I1  := I.turned (fun b o hb e=>M b o (by simpa using hb) e) f0 f1 f3 f4 f5;refine ⟨_,rfl,we g rfl rfl (by decide) ⟨.int (lo+i),H,I1,⟨t,?_⟩,⟨rfl,rfl⟩,g,fun b hb=>(r b hb).1⟩⟩;rw [Int.mul_one]
 done:=by
  intro X C hw z u i Y s σ H E I r st hg;let ⟨f0,f1,f2,f3,f4,f5⟩:=r it (by simp)
  exact wpAny_pyNext_range_end (I.ok.hd u) st (by have:n<=i:=hg;lia) fun h' L=>⟨rfl,I.turned (fun b o hb e=>L b o hb e) f0 f1 f3 f4 f5⟩
 self:=fun _ _ _ _ _ st h=>wpAny_pyIter_rangeiter st h
section
variable {tg:abu}
theorem EJ {σ:St} {lo g:Int} (I:Inv X af σ H s) (h1:-(2 ^ 62)<=lo) (h2:lo < 2 ^ 62) (z:-(2 ^ 62)<=g) (C:g < 2 ^ 62)
  (q:R (Xa lo (g - lo).toNat) H) (L:X.tn<=tk:=by walk_at "tok"):aaN (aaV X.prog X.w) X.A (pyIter (.ref s.heap.objs.size)) (aad X af σ tg R) E { s with heap:=s.heap.push { cls:=.type "range",data:=.fields #[.int lo t,.int g u,.int 1 v] },toks:=tk }:=by
 refine wpAny_pyIter_range (IsRange.new ..) (small_one h1 h2 z C) ?_;have r:Inv X af σ H { s with heap:=s.heap.push { cls:=.type "range",data:=.fields #[.int lo t,.int g u,.int 1 v] },toks:=tk }:=I.kept fun b o e=>eQ _ e;refine ⟨(s.heap.push { cls:=.type "range",data:=.fields #[.int lo t,.int g u,.int 1 v] }).objs.size,[(s.heap.push { cls:=.type "range",data:=.fields #[.int lo t,.int g u,.int 1 v] }).objs.size],_,_,H,rfl,
  r.kept fun b o e=>eQ _ e,xw _ lo (g - lo).toNat,?_,fun b hb=>?_,q⟩
 .have e1:lo+((0:Nat))*1=lo:=by simp
  have J:(((g - lo).toNat)) - ((0:Nat))=Builtin.Range.rangeSize lo g 1:=by rw [rangeSize_one];split <;> lia
  rw [e1,J];exact Do _ rfl
 .have e:b=(s.heap.push { cls:=.type "range",data:=.fields #[.int lo t,.int g u,.int 1 v] }).objs.size:=by simpa using hb
  subst e;exact r.fpOk (nE _) (r.hok.fresh (nE _))
def Sj (z:TI) (g:TG) (tb:TS):TS:=fun D σ H=>z σ H fun J H1=>∃ W:Nat->Nat->St->Hp->Prop,(∃ m,W 0 m σ H1)/\∀ i m σ H,W i m σ H ->
 (J.stop i H/\D.nx σ H)\/(J.go i H/\∃ N:St->Hp->Prop,(∀ r H',N r H'->∃ v,v < m/\W (i+1) v r H')/\∀ x H',J.yld i H x H'->g x σ H' fun u C=>tb { D with nx:=N,ct:=N,bk:=D.nx } u C)
def lc (g:afT) (h:acV):afQ:=g.filterMap fun b=>(h.get? b).map fun o=>(b,o)
def fe (hb:b∈fp) (e:h.get? b=θ o):(b,o)∈lc fp h:=acx.mpr ⟨b,hb,by rw [e];rfl⟩
theorem Cb (g:p∈lc fp h):p.1∈fp/\h.get? p.1=θ p.2:=by
 let ⟨b,hb,e⟩:=acx.mp g
 cases q:h.get? b with
 | none=>grind
 | some o =>
  rw [q] at e;have e'  := ab9 e;subst e';exact ⟨hb,q⟩
theorem Inv.pinned {σ:St} (I:Inv X af σ H s) (u:∀ b∈fp,eS X af H b) (g:∀ b∈fp,∃ o,s.heap.get? b=θ o/\∀ v,o.data≠.cell v):Inv X (af++lc fp s.heap) σ H s :=
 I.pins_of fun p r=>(By.mp r).elim (fun z=>I.pin p (aaM _ z)) fun z=>by
  obtain ⟨hb,e⟩:=Cb z;let ⟨f0,f1,f2,_⟩:=u p.1 hb
  let ⟨o,e',d⟩:=g p.1 hb
  grind
def Inv.unpinned {σ:St} (I:Inv X (af++pl) σ H s):Inv X af σ H s:=I.pins_of fun p g=>I.pin p (aaM _ (abh _ g))
theorem NH (hp:adM (aaV X.prog X.w) X.A X.env X.xe) (hc:X.calm=ζ) (hi:PI X tg iter wi) (hg:PG X tg g) (hb:zI X body tb)
  (hs:∀ x,abI iter X.env x=pure x:=by intro _;rfl):PS X (.For tg iter body [] pos) (Sj wi g tb):=by
 intro Z s σ H D I h;refine wpAny_For (bT (hi Z s σ H _ I h) fun v s1 h1=>bT h1 fun itv s2 h2=>?_) hs;obtain ⟨it,fp,tn,J,H2,e,I2,T,st2,f2,W,⟨m0,w0⟩,iy⟩:=h2;subst e
 have M:∀ {H':Hp},(∀ b∈fp,H' b=ξ)->∀ b∈fp,eS X Z H' b:=fun hn b hb=>⟨hn b hb,(f2 b hb).2⟩;refine codeAny_forLoop_any (fun n s'=>∃ i L H',Inv X Z L H' s'/\tn i s'.heap/\(∀ b∈fp,H' b=ξ)/\W i n L H') ?_ m0 ⟨0,σ,H2,I2,st2,fun b hb=>(f2 b hb).1,w0⟩;rintro n s3 ⟨i,σ3,H3,I3,st3,fr3,w3⟩;rcases iy i n σ3 H3 w3 with ⟨stop,qn⟩|⟨go,N,hN,step⟩
 .refine acJ hp (bT (T.done X rfl rfl rfl hc i Z s3 σ3 H3 X.xe I3 (M fr3) st3 stop) fun r s4 ⟨hr,I4⟩=>?_);subst hr;exact adV ⟨σ3,H3,I4,qn⟩
 .refine acJ hp (bT (T.item X rfl rfl rfl hc i Z s3 σ3 H3 X.xe I3 (M fr3) st3 go) fun r s4 ⟨u,hr,h4⟩=>?_);subst hr;refine acJ hp (bT h4 fun _ s5 ⟨x,H5,I5,r5,y5,st5,fr5⟩=>?_);have I5':=I5.pinned (M fr5) (T.obj _ _ st5);refine acJ hp (bT (hg _ s5 σ3 H5 x u _ I5' r5 (step x H5 y5)) fun _ s6 ⟨σ6,H6,I6,q6⟩=>?_);refine acJ hp (bT (hb _ s6 σ6 H6 _ I6 q6) fun f s7 Y=>?_);have again:∀ {z:St} {C:Hp},Inv X (Z++lc fp s5.heap) z C s7->N z C->∃ m,m < n/\∃ i L H',Inv X Z L H' s7/\tn i s7.heap/\(∀ b∈fp,H' b=ξ)/\W i m L H':=fun {z C} I7 n7=>by
   let ⟨m',hm,w7⟩:=hN z C n7
   refine ⟨m',hm,i+1,z,C,I7.unpinned,T.keep _ _ _ st5 fun b hb o e=>(I7.pin (b,o) (aaM _ (aaM _ (fe hb e)))).1,fun b hb=>?_,w7⟩;let ⟨o,e,d⟩:=T.obj _ _ st5 b hb
   exact (I7.pin (b,o) (aaM _ (aaM _ (fe hb e)))).2.1
  cases f with
  | next=>let ⟨z,C,I7,n7⟩:=Y;exact again I7 n7
  | cont=>let ⟨z,C,I7,n7⟩:=Y;exact again I7 n7
  | brk=>let ⟨z,C,I7,Y⟩:=Y;exact ⟨z,C,I7.unpinned,Y⟩
  | ret v=>let ⟨x7,z,C,I7,r7,Y⟩:=Y;exact ⟨x7,z,C,I7.unpinned,r7,Y⟩
end
abbrev R2:=V->V->Hp->VK->Prop
def cD (X:Cx) (f:oR->oR->Sem oR) (r:R2):Prop :=
 ∀ (g:afQ) (s:DO) (σ:St) (H:Hp) (x y:V) (v u:oR) (Q:VK),Inv X g σ H s->aX x v->aX y u->r x y H Q ->
  aaN (aaV X.prog X.w) X.A (f v u) (EP X g σ Q) X.xe s
def HE (X:Cx) (f:oR->Sem oR) (r:V->Hp->VK->Prop):Prop :=
 ∀ (g:afQ) (s:DO) (σ:St) (H:Hp) (x:V) (v:oR) (Q:VK),Inv X g σ H s->aX x v->r x H Q ->
  aaN (aaV X.prog X.w) X.A (f v) (EP X g σ Q) X.xe s
def bG (X:Cx) (f:oR) (r:afV->Hp->VK->Prop):Prop :=
 ∀ (g:afQ) (s:DO) (σ:St) (H:Hp) (xs:afV) (us:afU) (Q:VK),Inv X g σ H s->ba xs us->r xs H Q ->
  aaN (aaV X.prog X.w) X.A (call f us) (EP X g σ Q) X.xe s
def Ye (X:Cx) (r:V->Hp->(Bool->Hp->Prop)->Prop):Prop :=
 ∀ (g:afQ) (s:DO) (σ:St) (H:Hp) (x:V) (v:oR) (Q:Bool->Hp->Prop),Inv X g σ H s->aX x v->r x H Q ->
  aaN (aaV X.prog X.w) X.A (truthy v) (TP X g σ Q) X.xe s
def Cu (r:R2) (ta tb:TE):TE:=fun σ H Q=>ta σ H fun x H1=>tb σ H1 fun y g=>r x y g Q
def ZJ (r:V->Hp->VK->Prop) (ta:TE):TE:=fun σ H Q=>ta σ H fun x H1=>r x H1 Q
def rI (C:Int->Int->Prop) (g:Int->Int->V):R2:=fun x y H Q=>∃ i j,x=.int i/\y=.int j/\C i j/\Q (g i j) H
def HS (g:Int->Int->V):R2:=fun x y H Q=>∃ i j,x=.int i/\y=.int j/\Q (g i j) H
def rU (g:Int->V):V->Hp->VK->Prop:=fun x H Q=>∃ i,x=.int i/\Q (g i) H
section
def OM (ha:PE X a ta) (hb:PE X b tb) {σ:St} {R:V->V->Hp->Prop} (I:Inv X af σ H s)
  (h:ta σ H fun x H1=>tb σ H1 fun y g=>R x y g) {f:oR->oR->Sem oR}
  (hf:∀ v u C x y g,Inv X af σ g C->aX x v->aX y u->R x y g->aaN (aaV X.prog X.w) X.A (f v u) Q X.xe C) :
  aaN (aaV X.prog X.w) X.A (eval a X.env) (fun v z=>aaN (aaV X.prog X.w) X.A (eval b X.env) (fun u r=>aaN (aaV X.prog X.w) X.A (f v u) Q X.xe r) X.xe z) X.xe s:=by
 refine bT (ha af s σ H _ I h) fun v Z J=>ji J fun x H1 M r1 L=>?_;refine bT (hb af Z σ H1 _ M L) fun u C J=>ji J fun y g I2 r2 Y=>?_;exact hf v u C x y g I2 r1 r2 Y
def S6 (g:cD X (ab3 op) r) (M:PE X a ta) (hb:PE X b tb):PE X (.BinOp a op b pos) (Cu r ta tb):=by
 intro Y s σ H Q I h;exact wpAny_BinOp (OM M hb I h fun v u z x y C J L Z q=>g Y z σ C x y v u Q J L Z q)
def Uk (z:HE X (unaryOp op) r) (M:PE X a ta):PE X (.UnaryOp op a pos) (ZJ r ta):=by
 intro g s σ H Q I h;exact UnaryOp_ (bT (M g s σ H _ I h) fun v L J=>ji J fun x H1 u r1 C=>z g L σ H1 x v Q u r1 C)
def WQ {g:Int->Int->Int}
  (rule:∀ (i j:Int) (t u:Tok) (s:DO) (Q:afR) (E:afR),C i j->Q (.int (g i j) s.toks) { s with toks:=s.toks+1 }->aaN (aaV X.prog X.w) X.A (f (.int i t) (.int j u)) Q E s) :
  cD X f (rI C fun i j=>.int (g i j)):=by
 intro L s σ H x y v u Q I r z h;obtain ⟨i,j,rfl,rfl,J,q⟩:=h;obtain ⟨t,rfl⟩:=r;obtain ⟨t',rfl⟩:=z;exact rule i j t t' s _ _ J ⟨.int (g i j),H,I.tok _,⟨_,rfl⟩,q⟩
def OX {g:Int->Int->Int}
  (rule:∀ (i j:Int) (t u:Tok) (s:DO) (Q:afR) (E:afR),Q (.int (g i j) s.toks) { s with toks:=s.toks+1 }->aaN (aaV X.prog X.w) X.A (f (.int i t) (.int j u)) Q E s) :
  cD X f (HS fun i j=>.int (g i j)):=by
 intro C s σ H x y v u Q I r z h;obtain ⟨i,j,rfl,rfl,q⟩:=h;obtain ⟨t,rfl⟩:=r;obtain ⟨t',rfl⟩:=z;exact rule i j t t' s _ _ ⟨.int (g i j),H,I.tok _,⟨_,rfl⟩,q⟩
def Lj {g:Int->Int->Bool}
  (rule:∀ (i j:Int) (t u:Tok) (s:DO) (Q:afR) (E:afR),Q (.bool (g i j)) s->aaN (aaV X.prog X.w) X.A (f (.int i t) (.int j u)) Q E s) :
  cD X f (HS fun i j=>.bl (g i j)):=by
 intro C s σ H x y v u Q I r z h;obtain ⟨i,j,rfl,rfl,q⟩:=h;obtain ⟨t,rfl⟩:=r;obtain ⟨t',rfl⟩:=z;exact rule i j t t' s _ _ ⟨.bl (g i j),H,I,rfl,q⟩
def D3 (i j:Int):Prop:=0 < j/\j < 1073741824
def Fv (i j:Int):Prop:=0<=j/\j<=1000000/\i.natAbs < 2 ^ 64
def xj (i j:Int):Prop:=(-(2 ^ 64) < i/\i < 2 ^ 64)\/(-(2 ^ 64) < j/\j < 2 ^ 64)
theorem xj.ok (h:xj i j):IntMulOk i j:=by
 rcases h with ⟨h1,h2⟩|⟨h1,h2⟩
 .exact .of_left (intBits_le_64 h1 h2)
 .exact .of_right (intBits_le_64 h1 h2)
def Nn:cD X (ab3 .Add) (HS fun i j=>.int (i+j)):=OX fun _ _ _ _ _ _ _ q=>add_int q
def OU:cD X (ab3 .Sub) (HS fun i j=>.int (i - j)):=OX fun _ _ _ _ _ _ _ q=>sub_int q
def Os:cD X (ab3 .Mult) (rI xj fun i j=>.int (i*j)):=WQ fun _ _ _ _ _ _ _ g q=>mul_int q g.ok
theorem Ku:cD X (ab3 .FloorDiv) (rI D3 fun i j=>.int (i/j)):=WQ fun i j _ _ _ _ _ g q=>by
 have h1  := g.1;have h2  := g.2;exact floordiv_int (by lia) (by grind) (.inl (PyProof.noPylong_small (by lia)))
theorem Nk:cD X (ab3 .Mod) (rI (fun _ j=>0 < j) fun i j=>.int (i % j)):=WQ fun i j _ _ _ _ _ g q=>by
 exact mod_int' (by lia) (by rw [Int.fmod_eq_emod_of_nonneg i (by lia)];exact q)
def Pq:cD X (ab3 .Pow) (rI Fv fun i j=>.int (i ^ j.toNat)):=WQ fun _ _ _ _ _ _ _ g q=>pow_int_small g.1 g.2.1 g.2.2 q
def Jh:cD X (inplaceOp .Add) (HS fun i j=>.int (i+j)):=OX fun _ _ _ _ _ _ _ q=>iadd_int q
def unI {g:Int->Int}
  (rule:∀ (i:Int) (t:Tok) (s:DO) (Q:afR) (E:afR),Q (.int (g i) s.toks) { s with toks:=s.toks+1 }->aaN (aaV X.prog X.w) X.A (f (.int i t)) Q E s) :
  HE X f (rU fun i=>.int (g i)):=by
 intro u s σ H x v Q I r h;obtain ⟨i,rfl,q⟩:=h;obtain ⟨t,rfl⟩:=r;exact rule i t s _ _ ⟨.int (g i),H,I.tok _,⟨_,rfl⟩,q⟩
def NG:HE X (unaryOp .USub) (rU fun i=>.int (-i)):=unI fun _ _ _ _ _ q=>neg_int q
end
def yB:V->V->Bool
 | .non,.non=>ζ|.non,.int _=>ζ|.int _,.non=>ζ|.non,.bl _=>ζ|.bl _,.non=>ζ|.non,.str _=>ζ|.str _,.non=>ζ
 | .int _,.int _=>ζ|.bl _,.bl _=>ζ|.str _,.str _=>ζ|.byt _,.byt _=>ζ
 | .int _,.str _=>ζ|.str _,.int _=>ζ|.bl _,.str _=>ζ|.str _,.bl _=>ζ
 | _,_=>η
def rEq:R2:=fun x y H Q=>yB x y=ζ/\Q (.bl (decide (x=y))) H
def rNe:R2:=fun x y H Q=>yB x y=ζ/\Q (.bl (!decide (x=y))) H
def zW:decide (V.int i=V.int j)=(i==j):=by
 rw [aca];simp
def Dn:decide (V.bl i=V.bl j)=(i==j):=by
 rw [aca];simp
def zY:decide (V.str i=V.str j)=(i==j):=by
 rw [aca];simp
def AQ:decide (V.byt i=V.byt j)=(i.toList==j.toList):=by
 rw [aca];cases i;cases j;simp
section
variable {X:Cx} {a b c:abu} {ta tb tc:TE} {pos:Pos}
def aU {σ:St} (I:Inv X af σ H s) (q:Q (.bl k) H) (e:k=k'):EP X af σ Q (.bool k') s:=by
 subst e;exact ⟨.bl k,H,I,rfl,q⟩
theorem T4:cD X (aa1 .Eq) rEq:=by
 intro z s σ H x y v u Q I r g h;let ⟨hs,q⟩:=h
 cases x with
 | non =>
  cases r;cases y with
  | non=>cases g;exact PySem.EqNone.eq_none_none (aU I q (by simp))
  | bl j=>cases g;exact PySem.EqNone.eq_none_bool (aU I q (by simp))
  | int j=>obtain ⟨t',rfl⟩:=g;exact PySem.EqNone.eq_none_int (aU I q (by simp))
  | str j=>obtain ⟨t',rfl⟩:=g;exact PySem.EqNone.eq_none_str (aU I q (by simp))
  | _=>exact absurd (show η=ζ from hs) GT
 | bl i =>
  cases r;cases y with
  | non=>cases g;exact PySem.EqNone.eq_bool_none (aU I q (by simp))
  | bl j=>cases g;exact eq_bool (aU I q Dn)
  | str j=>obtain ⟨t',rfl⟩:=g;exact PySem.EqMixed.eq_bool_str (aU I q (by simp))
  | _=>exact absurd (show η=ζ from hs) GT
 | int i =>
  obtain ⟨t,rfl⟩:=r;cases y with
  | non=>cases g;exact PySem.EqNone.eq_int_none (aU I q (by simp))
  | int j=>obtain ⟨t',rfl⟩:=g;exact eq_int (aU I q zW)
  | str j=>obtain ⟨t',rfl⟩:=g;exact PySem.EqMixed.eq_int_str (aU I q (by simp))
  | _=>exact absurd (show η=ζ from hs) GT
 | str i =>
  obtain ⟨t,rfl⟩:=r;cases y with
  | non=>cases g;exact PySem.EqNone.eq_str_none (aU I q (by simp))
  | bl j=>cases g;exact PySem.EqMixed.eq_str_bool (aU I q (by simp))
  | int j=>obtain ⟨t',rfl⟩:=g;exact PySem.EqMixed.eq_str_int (aU I q (by simp))
  | str j=>obtain ⟨t',rfl⟩:=g;exact eq_str (aU I q zY)
  | _=>exact absurd ((hs)) GT
 | byt i =>
  obtain ⟨t,rfl⟩:=r;cases y with
  | byt j=>obtain ⟨t',rfl⟩:=g;exact PySem.W.eq_bytes (aU I q AQ)
  | _=>exact absurd ((hs)) GT
 | _=>cases y <;> exact absurd ((hs)) GT
theorem Wp:cD X (aa1 .NotEq) rNe:=by
 intro z s σ H x y v u Q I r g h;let ⟨hs,q⟩:=h
 cases x with
 | non =>
  cases r;cases y with
  | non=>cases g;exact PySem.EqNone.ne_none_none (aU I q (by simp))
  | bl j=>cases g;exact PySem.EqNone.ne_none_bool (aU I q (by simp))
  | int j=>obtain ⟨t',rfl⟩:=g;exact PySem.EqNone.ne_none_int (aU I q (by simp))
  | str j=>obtain ⟨t',rfl⟩:=g;exact PySem.EqNone.ne_none_str (aU I q (by simp))
  | _=>exact absurd (show η=ζ from hs) GT
 | bl i =>
  cases r;cases y with
  | non=>cases g;exact PySem.EqNone.ne_bool_none (aU I q (by simp))
  | bl j=>cases g;exact ne_bool (aU I q (afN not Dn))
  | str j=>obtain ⟨t',rfl⟩:=g;exact PySem.EqMixed.ne_bool_str (aU I q (by simp))
  | _=>exact absurd (show η=ζ from hs) GT
 | int i =>
  obtain ⟨t,rfl⟩:=r;cases y with
  | non=>cases g;exact PySem.EqNone.ne_int_none (aU I q (by simp))
  | int j=>obtain ⟨t',rfl⟩:=g;exact ne_int (aU I q (afN not zW))
  | str j=>obtain ⟨t',rfl⟩:=g;exact PySem.EqMixed.ne_int_str (aU I q (by simp))
  | _=>exact absurd (show η=ζ from hs) GT
 | str i =>
  obtain ⟨t,rfl⟩:=r;cases y with
  | non=>cases g;exact PySem.EqNone.ne_str_none (aU I q (by simp))
  | bl j=>cases g;exact PySem.EqMixed.ne_str_bool (aU I q (by simp))
  | int j=>obtain ⟨t',rfl⟩:=g;exact PySem.EqMixed.ne_str_int (aU I q (by simp))
  | str j=>obtain ⟨t',rfl⟩:=g;exact ne_str (aU I q (afN not zY))
  | _=>exact absurd ((hs)) GT
 | byt i =>
  obtain ⟨t,rfl⟩:=r;cases y with
  | byt j=>obtain ⟨t',rfl⟩:=g;exact PySem.W.ne_bytes (aU I q (afN not AQ))
  | _=>exact absurd ((hs)) GT
 | _=>cases y <;> exact absurd ((hs)) GT
def VH:cD X (aa1 .Lt) (HS fun i j=>.bl (decide (i < j))):=Lj fun _ _ _ _ _ _ _ q=>lt_int q
def Vq:cD X (aa1 .LtE) (HS fun i j=>.bl (decide (i<=j))):=Lj fun _ _ _ _ _ _ _ q=>le_int q
def Ss:cD X (aa1 .Gt) (HS fun i j=>.bl (decide (j < i))):=Lj fun _ _ _ _ _ _ _ q=>gt_int q
def TB:cD X (aa1 .GtE) (HS fun i j=>.bl (decide (j<=i))):=Lj fun _ _ _ _ _ _ _ q=>ge_int q
def Bc:cD X (aa1 .Lt) (fun x y H Q=>∃ i j,x=.str i/\y=.str j/\Q (.bl (decide (i.cps.toList < j.cps.toList))) H):=by
 intro z s σ H x y v u Q I g r h;obtain ⟨i,j,rfl,rfl,q⟩:=h;obtain ⟨t,rfl⟩:=g;obtain ⟨t',rfl⟩:=r;exact lt_str (aU I q rfl)
def Ci:cD X (aa1 .In) (fun x y H Q=>∃ i j,x=.str i/\y=.str j/\Q (.bl (!(adn j i 0 j.length 1).isEmpty)) H):=by
 intro z s σ H x y v u Q I g r h;obtain ⟨i,j,rfl,rfl,q⟩:=h;obtain ⟨t,rfl⟩:=g;obtain ⟨t',rfl⟩:=r;exact in_str (aU I q rfl)
def Qn:cD X (aa1 .Is) (fun x y H Q=>y=.non/\Q (.bl (decide (x=.non))) H):=by
 intro z s σ H x y v u Q I g r h;obtain ⟨rfl,q⟩:=h;cases r;refine is_none_gen (aU I q ?_);cases x <;> first
  | (rfl)
  | (obtain ⟨t,rfl⟩:=g;rfl)
def IG:cD X (aa1 .IsNot) (fun x y H Q=>y=.non/\Q (.bl (!decide (x=.non))) H):=by
 intro z s σ H x y v u Q I g r h;obtain ⟨rfl,q⟩:=h;cases r;refine isnot_none_gen (aU I q ?_);cases x <;> first
  | (cases g;rfl)
  | (obtain ⟨t,rfl⟩:=g;rfl)
def uz:cD X (aa1 .NotIn) (fun x y H Q=>∃ i j,x=.str i/\y=.str j/\Q (.bl (!(!(adn j i 0 j.length 1).isEmpty))) H):=by
 intro z s σ H x y v u Q I g r h;obtain ⟨i,j,rfl,rfl,q⟩:=h;obtain ⟨t,rfl⟩:=g;obtain ⟨t',rfl⟩:=r;exact notIn_str (aU I q rfl)
def cD.or (h:cD X f r) (h':cD X f r'):cD X f (fun x y H Q=>r x y H Q\/r' x y H Q):=by
 intro C s σ H x y v u Q I g z q;rcases q with q|q
 .exact h C s σ H x y v u Q I g z q
 .exact h' C s σ H x y v u Q I g z q
def IL (g:cD X (aa1 op) r) (Y:PE X a ta) (hb:PE X b tb) (z:acO op b=η):PE X (.Compare a [op] [b] pos) (Cu r ta tb):=by
 intro Z s σ H Q I h;exact wpAny_Compare1 (OM Y hb I h fun v u C x y J L M ry q=>g Z C σ J x y v u Q L M ry q) z
def Zj (K:aT) (x:V) (H:Hp) (k:Bool):Prop :=
 match x with
 | .non=>k=η
 | .bl b=>k=b
 | .int i=>k=(i != 0)
 | .str y=>y.length<=RW/\k=((y.length:Int) != 0)
 | .byt y=>y.size<=RW/\k=((y.size:Int) != 0)
 | .ref p=>(∃ xs,e8 K H p xs/\k=!xs.isEmpty)\/(∃ xs,g6 K H p xs/\k=!xs.isEmpty)\/∃ g,H p=θ (.dK g)/\k=!g.isEmpty
 | _=>False
def x8 {g:List (κ×V)} {vs:List (κ×oR)} (r:KV g vs):(!vs.isEmpty)=!g.isEmpty:=by
 cases r <;> rfl
def qj (r:ba xs its):(!its.toArray.isEmpty)=!xs.isEmpty:=by
 cases r <;> simp
def mP:(RW:Nat) < 2 ^ 63:=by rw [abR];decide
theorem Q3:Ye X (fun x H Q=>∃ k,Zj X.K x H k/\Q k H):=by
 intro L s σ H x v Q I C h;let ⟨k,e,q⟩:=h
 have hl:=mP;have hs:RW=16777216:=abR;cases x with
 | non =>
  cases C;have g:k=η:=e;subst g;exact truthy_none ⟨H,I,q⟩
 | bl b =>
  cases C;have g:k=b:=e;subst g;exact aci ⟨H,I,q⟩
 | int i =>
  obtain ⟨t,rfl⟩:=C;have g:k=(i != 0):=e;subst g;exact PySem.P.truthy_int ⟨H,I,q⟩
 | str y =>
  obtain ⟨t,rfl⟩:=C;let ⟨hy,g⟩:y.length<=RW/\k=((y.length:Int) != 0):=e
  subst g;exact PySem.P.truthy_str (by lia) ⟨H,I.tok _,q⟩
 | byt y =>
  obtain ⟨t,rfl⟩:=C;let ⟨hy,g⟩:y.size<=RW/\k=((y.size:Int) != 0):=e
  subst g;exact PySem.W.truthy_bytes (by lia) ⟨H,I.tok _,q⟩
 | ref p =>
  cases C;have g:(∃ xs,e8 X.K H p xs/\k=!xs.isEmpty)\/(∃ xs,g6 X.K H p xs/\k=!xs.isEmpty)\/∃ u,H p=θ (.dK u)/\k=!u.isEmpty:=e;rcases g with ⟨xs,J,g⟩|⟨xs,J,g⟩|⟨u,J,g⟩
  .subst g;let ⟨its,r,pl,hz⟩:=I.list J
   have z:=r.length;exact wpAny_truthy_list pl.isList (by simp only [aaY];lia) ⟨H,I.tok _,by rw [qj r];exact q⟩
  .subst g;let ⟨its,r,pl,hz⟩:=I.tuple J
   have z:=r.length;exact truthy_tuple pl (by simp only [aaY];lia) ⟨H,I.tok _,by rw [qj r];exact q⟩
  .subst g;let ⟨hz,hS,vs,r,m⟩:u.length<=RW/\(p==ab0)=η/\∃ vs,KV u vs/\s.heap.DictOf (bA X.prog X.w) p vs:=I.hok p _ J
   have z  := aek r;exact wpAny_truthy_dict hS m (by lia) ⟨H,I.tok _,by rw [x8 r];exact q⟩
 | _=>exact ((e)).elim
def xK:cD X (ab3 .Add) (fun x y H Q=>∃ i j,x=.str i/\y=.str j/\i.length+j.length<=RW/\Q (.str (i++j)) H):=by
 intro C s σ H x y v u Q I r z h;obtain ⟨i,j,rfl,rfl,hz,q⟩:=h;obtain ⟨t,rfl⟩:=r;obtain ⟨t',rfl⟩:=z;exact aW I.tk (add_str (fun t' tk g=>⟨.str (i++j),H,I.tok _,⟨_,rfl⟩,q⟩) hz)
def gG (r:ba [x] us):∃ u,us=[u]/\aX x u:=by
 cases r with
 | cons r1 r2=>cases r2;exact ⟨_,rfl,r1⟩
def My (r:ba [x,y] us):∃ u w',us=[u,w']/\aX x u/\aX y w':=by
 cases r with
 | cons r1 r2 =>
  cases r2 with
  | cons r3 r4=>cases r4;exact ⟨_,_,rfl,r1,r3⟩
def Hd:bG X (.builtin "abs") (fun xs H Q=>∃ i,xs=[.int i]/\Q (.int (if i < 0 then -i else i)) H):=by
 intro v s σ H xs us Q I r h;obtain ⟨i,rfl,q⟩:=h;obtain ⟨u,rfl,t,rfl⟩:=gG r;exact aW I.tk (call_abs_int fun u tk g=>⟨.int (if i < 0 then -i else i),H,I.tok _,⟨_,rfl⟩,q⟩)
def Bz:bG X (.type "int") (fun xs H Q=>(∃ i,xs=[.int i]/\Q (.int i) H)\/∃ k,xs=[.bl k]/\Q (.int (if k then 1 else 0)) H):=by
 intro g s σ H xs us Q I r h;rcases h with ⟨i,rfl,q⟩|⟨k,rfl,q⟩
 .obtain ⟨u,rfl,t,rfl⟩:=gG r;exact call_int_int ⟨.int i,H,I,⟨_,rfl⟩,q⟩
 .obtain ⟨u,rfl,r1⟩:=gG r;cases r1;exact call_int_bool ⟨.int (if k then 1 else 0),H,I.tok _,⟨_,rfl⟩,q⟩
end
structure ObjM (h:acV) (x dx C:aa3) (mA:afS):Prop where
 obj:h.get? x=θ (acX C dx)
 ns:h.Ns1 dx mA
 ne:dx≠x
theorem B3 {h:acV} (n:h.Ns1 dx mA):∃ od,h.get? dx=θ od/\∀ name,aeP name od=θ (mA name):=by
 obtain ⟨o,es,C,g,u,r,_,v⟩:=n;refine ⟨o,g,fun name=>?_⟩;have e:=v name;unfold nsFind findBy at e;unfold aeP;rw [u];dsimp only;split
 .simp_all
 .have a:es.toList.any (·.refKey)=η:=by
   rw [List.any_eq_false];intro y hy;let ⟨z,t,hkey⟩:=r y (Array.mem_toList_iff.mp hy)
   simp [DictEntry.refKey,hkey]
  grind
def ObjM.look (I:ObjM h x dx C mA):∃ od,PySem.W.InstAt h x (acX C dx) C (θ od)/\∀ name,aeP name od=θ (mA name) :=
 let ⟨od,ho,hl⟩:=B3 I.ns
 ⟨od,⟨I.obj,rfl,rfl,ho⟩,hl⟩
section
variable {s:DO} {K:aT}
def get_map (X:K.In s.heap) (I:ObjM s.heap x dx C mA) (hg:aer K C name=ζ) (r:aec K C=ζ)
  (z:abT K (.ref C) name=θ ξ) (u:mA name=θ v) (g:afs v=ζ) (h:Q v { s with toks:=s.toks+1 }) :
  aaN (aaV prog w) A (getAttr (.ref x) name expr) Q E s:=by
 obtain ⟨od,J,hl⟩:=I.look;exact PySem.W.get_value X J (PySem.W.plainGet_of hg).1 (PySem.W.findObj_own r z rfl (by rw [hl,u])) g h
theorem Kl (X:K.In s.heap) (I:ObjM s.heap x dx C mA)
  (hs:abT K (.ref C) "__setattr__"=θ (θ (.builtin "object.__setattr__"))) (z:aff K C=ζ) (u:aeB K C name=θ ξ) (L:aec K C=ζ)
  (hw:afp mA ns) (hsz:ns.length<=RW)
  (h:∀ h',ObjM h' x dx C (fun y=>if y=name then θ v else mA y)->aby dx s.heap h'->Q () { s with heap:=h',toks:=s.toks+2 }) :
  aaN (aaV prog w) A (setAttr (.ref x) name v) Q E s:=by
 let ⟨od,J,hl⟩:=I.look
 refine PySem.W.set_plain X J hs (PySem.W.osa_open X J z u fun b=>?_);let ⟨cd,hc,hd'⟩:=PySem.W.any_some L
 have hx  := I.obj;refine dO (rW (dO (dO (wpAny_loadPart hx (dO (PySem.W.Looks.here (PySem.W.looks_clsIn X hc) ?_))))));rw [hd'];refine rW (dO (rW (dO ?_)));refine wpAny_nsSet1 I.ns fun h' r g=>?_;let ⟨oD,esD,epD,hoD,hdD,hcD⟩:=r.count (PySem.Within.cons name v hw)
 refine dO (wpAny_lookBehind hoD (by rw [hdD];exact pastItsLine_dict (Le hcD (by simp_all))) ?_);exact rW (h _ ⟨(g.2 _ (acR I.ne)).trans I.obj,r,I.ne⟩ g)
def DK (X:K.In s.heap) (u:afy K C=ζ)
  (g:abT K (.ref C) "__init__"=θ (θ (.ref f))) (r:PySem.W.typeIn K (.ref f)=θ (.type "function"))
  (h:adt (aaV prog w) (A.under (.builtin "type.__call__" ⟨.ref C::vs,kw⟩)) (.call (.ref f) ⟨.ref (s.heap.objs.size+1)::vs,kw⟩) (PySem.W.InitBack (s.heap.objs.size+1) R)
   { s with heap:=(s.heap.push ach).push (acX C s.heap.objs.size) }) :
  adt (aaV prog w) A (.call (.ref C) ⟨vs,kw⟩) R s:=by
 exact PySem.W.make_core (PySem.W.makes_of X u) (PySem.W.looks_findIn X g) (fun self=>PySem.W.bind_fn X self r) (.inl rfl) h
end
def kP (f:Str) (v:V):List (Str×V)->List (Str×V)
 | []=>[(f,v)]
 | (g,x)::r=>if g=f then (g,v)::r else (g,x)::kP f v r
theorem oh (f g:Str) (v:V):∀ fs:List (Str×V),(kP f v fs).lookup g=if g=f then θ v else fs.lookup g
 | []=>by
  show acz g [(f,v)]=_;by_cases h:g=f
  .simp_all
  simp_all
 | (k,x)::r=>by
  have z:=oh f g v r;rw [show kP f v ((k,x)::r)=(if k=f then (k,v)::r else (k,x)::kP f v r) from rfl];by_cases u:k=f
  .rw [afI u];by_cases h:g=k
   .simp_all
   .have hb  := beq_eq_false_iff_ne.mpr h;simp only [acz,hb,afJ (fun e:g=f=>h (e.trans u.symm))]
  .rw [afJ u];by_cases h:g=k
   .simp_all
   .have hb  := beq_eq_false_iff_ne.mpr h;simp only [acz,hb];exact z
theorem nj (f:Str) (v:V):∀ fs:List (Str×V),f∈(kP f v fs).map (·.1)/\∀ g,g∈fs.map (·.1)->g∈(kP f v fs).map (·.1)
 | []=>⟨by simp [kP],fun g h=>by simp at h⟩
 | (k,x)::r=>by
  let ⟨i1,i2⟩:=nj f v r
  rw [show kP f v ((k,x)::r)=(if k=f then (k,v)::r else (k,x)::kP f v r) from rfl]
  grind
theorem om (f:Str) (v:V):∀ fs:List (Str×V),(kP f v fs).length<=fs.length+1
 | []=>by simp [kP]
 | (k,x)::r=>by
  have g:=om f v r;rw [show kP f v ((k,x)::r)=(if k=f then (k,v)::r else (k,x)::kP f v r) from rfl]
  grind
def kM.some_of (r:kM (θ v) o):∃ u,o=θ u/\aX v u:=by
 cases o with
 | none=>exact ((r)).elim
 | some u=>exact ⟨u,rfl,r⟩
def Ck (r:aX v u):afs u=ζ:=by
 cases v with
 | non=>cases ((r));rfl
 | bl b=>cases ((r));rfl
 | int i=>obtain ⟨t,e⟩:=((r));cases e;rfl
 | str x=>let ⟨t,e⟩:=((r));cases e;rfl
 | byt b=>let ⟨t,e⟩:=((r));cases e;rfl
 | flt b=>let ⟨t,e⟩:=((r));cases e;rfl
 | ref a=>cases ((r));rfl
 | ty n=>cases ((r));rfl
section
def ul (g:lg P w H h) (e:H a=θ (.ins C dx fs)):∃ mA,ObjM h a dx C mA/\(∀ f,kM (fs.lookup f) (mA f))/\afp mA (fs.map (·.1))/\fs.length<=1000/\H dx=θ (.own a):=by
 obtain ⟨d,z,ne,ob,mA,n,r,q⟩:=((g a _ e));exact ⟨mA,⟨ob,n,ne⟩,r,q,z,d⟩
end
structure Cls (K:aT) (C:aa3):Prop where
 pg:aer K C Str.empty=ζ
 hd:aec K C=ζ
 po:aff K C=ζ
 sa:abT K (.ref C) "__setattr__"=θ (θ (.builtin "object.__setattr__"))
def Cls.get {K:aT} (c:Cls K C) (f:Str):aer K C f=ζ:=c.pg
def eF (K:aT) (C:aa3) (f:Str):Prop:=abT K (.ref C) f=θ ξ
def eF.taker {K:aT} (n:eF K C f):aeB K C f=θ ξ:=by
 unfold aeB;rw [(n)];rfl
section
variable {σ:St}
theorem xZ (I:Inv X af σ H s) (e:H a=θ (.ins C dx fs)) (c:Cls X.K C) (n:eF X.K C f) (l:fs.lookup f=θ v)
  (h:∀ u g,Inv X af σ H g->aX v u->Q u g):aaN (aaV X.prog X.w) A (getAttr (.ref a) f b) Q E s:=by
 obtain ⟨mA,O,r,_,_,_⟩:=ul I.hok e;let ⟨u,hu,ru⟩:=kM.some_of (v:=v) (o:=mA f) (by grind)
 exact get_map I.kIn O (c.get f) c.hd n hu (Ck ru) (h u _ (I.tok _) ru)
theorem w6 (I:Inv X af σ H s) (e:H a=θ (.ins C dx fs)) (c:Cls X.K C) (n:eF X.K C f) (hl:fs.length < 1000) (L:aX y u)
  (h:∀ v,Inv X af σ (upd H a (.ins C dx (kP f y fs))) v->Q () v):aaN (aaV X.prog X.w) A (setAttr (.ref a) f u) Q E s:=by
 let ⟨mA,O,r,wi,_,ho⟩:=ul I.hok e
 have hz:(fs.map (·.1)).length<=RW:=by rw [lE,abR];lia
 refine Kl I.kIn O c.sa c.po n.taker c.hd wi hz fun h' O' J=>h _ ?_;have hd:∃ o,h'.get? dx=θ o:=let ⟨o,_,_,e',_⟩:=O'.ns;⟨o,e'⟩;refine I.write (by rw [e];exact aa9) (.inr ho) (fun b q hb z=>(J.2 b hb).trans z) hd ?_;refine ⟨by rw [aF O.ne];exact ho,?_,O.ne,O'.obj,_,O'.ns,fun g=>?_,fun g hg=>?_⟩
 .have:=om f y fs;lia
 .rw [oh];by_cases q:g=f
  .rw [afI q,afI q];exact L
  grind
 .by_cases q:g=f
  .rw [q];exact (nj f y fs).1
  .refine (nj f y fs).2 g (wi g fun z=>hg ?_);simp_all
def Inv.made (I:Inv X af σ H s):Inv X af σ (upd (upd H s.heap.objs.size (.own (s.heap.objs.size+1))) (s.heap.objs.size+1) (.ins C s.heap.objs.size []))
  { s with heap:=(s.heap.push ach).push (acX C s.heap.objs.size) }:=by
 have g:(s.heap.push ach).get? s.heap.objs.size=θ ach:=Do s.heap rfl;have e2  := by
  have:=Do (s.heap.push ach) (o:=acX C s.heap.objs.size) rfl
  rwa [abK] at this
 have r:(s.heap.push ach).Ns s.heap.objs.size (fun _=>ξ):=⟨ach,#[],_,g,rfl,(fun e v=>absurd v (by simp)),fun _=>rfl⟩;have z:=I.laid (o:=.own (s.heap.objs.size+1)) (fun b u q=>eQ _ q) (nE _) ⟨_,g⟩;refine z.laid (fun b u q=>eQ _ q) (afr (abK _ _)) ?_;have ne:s.heap.objs.size≠s.heap.objs.size+1:=aa0 (adg _);refine ⟨by rw [aF ne,aK],aaQ _,ne,e2,fun _=>ξ,(Heap.Ns1.of_empty r).at fun o q=>eQ _ q,fun _=>aa9,fun y hy=>absurd rfl hy⟩
def JH (hb:abg e f env (eval e env)=eval e env)
  (h:aaN (aaV prog w) A (eval e env) (fun o g=>aaN (aaV prog w) A (getAttr o f ζ) Q E g) E s):aaN (aaV prog w) A (eval (.Attribute e f pos) env) Q E s :=
 Attribute_any_ h (by rw [arm_eval_Attribute,hb])
end
def Yz (K:aT) (ta:TE) (f:Str):TE:=fun σ H Q=>ta σ H fun x H1=>∃ a C g fs v,x=.ref a/\H1 a=θ (.ins C g fs)/\Cls K C/\eF K C f/\fs.lookup f=θ v/\Q v H1
def Y3 (K:aT) (ta tv:TE) (f:Str):TS:=fun D σ H=>tv σ H fun y H1=>ta σ H1 fun x r=>∃ a C g fs,x=.ref a/\r a=θ (.ins C g fs)/\Cls K C/\eF K C f/\fs.length < 1000 /\
 D.nx σ (upd r a (.ins C g (kP f y fs)))
section
variable {X:Cx} {o e value:abu} {f:Str} {pos pos' tpos:Pos} {ta tv:TE}
def NO (r:PE X e ta) (hb:abg e f X.env (eval e X.env)=eval e X.env):PE X (.Attribute e f pos) (Yz X.K ta f):=by
 intro z s σ H Q I h;refine JH hb (bT (r z s σ H _ I h) fun u s1 ⟨x,H1,I1,rx,a,C,dx,fs,v,ex,ea,c,n,l,q⟩=>?_);subst ex;obtain rfl:u=acw a:=rx;exact xZ I1 ea c n l fun J L g ru=>⟨v,H1,g,ru,q⟩
def yE (z:PE X o ta) (r:PE X value tv) (hs:acq value (θ (.Attribute o f pos')) pos.line X.env=pure η):PS X (.Assign [.Attribute o f pos'] value pos) (Y3 X.K ta tv f):=by
 intro g s σ H D I h;refine plainObj_wpAny_Assign_Attribute (bT (r g s σ H _ I h) fun u s1 ⟨y,H1,I1,ry,q⟩=>bT (z g s1 σ H1 _ I1 q) fun ov s2 ⟨x,H2,I2,rx,a,C,dx,fs,ex,ea,c,n,l,q2⟩=>?_) hs;subst ex;obtain rfl:ov=acw a:=rx;exact w6 I2 ea c n l ry fun J v=>⟨σ,_,v,q2⟩
end
section
variable {σ:St}
inductive TyOf (K:aT) (H:Hp):V->oR->Prop where
 | non:TyOf K H .non (.type "NoneType")
 | bl (x:Bool):TyOf K H (.bl x) (.type "bool")
 | int (i:Int):TyOf K H (.int i) (.type "int")
 | str (x:Str):TyOf K H (.str x) (.type "str")
 | flt (x:UInt64):TyOf K H (.flt x) (.type "float")
 | lst {a:aa3} {xs:afV} (e:H a=θ (.lst xs)):TyOf K H (.ref a) (.type "list")
 | frz {a:aa3} {o:Obj} {xs:afV} (e:H a=θ (.frz o (.lst xs))):TyOf K H (.ref a) (.type "list")
 | tup {a:aa3} {xs:afV} (e:H a=θ (.tup xs)):TyOf K H (.ref a) (.type "tuple")
 | dK {a:aa3} {kvs:List (Key×V)} (e:H a=θ (.dK kvs)):TyOf K H (.ref a) (.type "dict")
 | dT {a:aa3} {kvs:List (List Key×V)} (e:H a=θ (.dT kvs)):TyOf K H (.ref a) (.type "dict")
 | ins {a C dx:aa3} {fs:List (Str×V)} (e:H a=θ (.ins C dx fs)) (cl:Cls K C) (ha:abT K (.ref C) "__class__"=θ (θ (.builtin "object.__class__")))
   (hn:afg K (.builtin "object.__class__") "__get__"=θ (θ (.builtin "getset_descriptor.__get__"))) (htk:afz K (.builtin "object.__class__")=θ ζ)
   (hm:PySem.W.mroIn K C (.type "object")=θ ζ):TyOf K H (.ref a) (.ref C)
theorem iq (I:Inv X af σ H s) (g:aX x u) (r:TyOf X.K H x t) (e:ac9 X.K t c=θ b) (h:∀ v,Q (.bool b) { s with toks:=v }) :
  aaN (aaV X.prog X.w) A (call (.builtin "isinstance") [u,c]) Q E s:=by
 cases r with
 | non=>cases (show u=afe from g);exact abp PySem.W.kitx_none I.kIn aa9 e (fun z=>nomatch z) h
 | bl y=>cases ((g));exact abp PySem.W.kitx_bool I.kIn aa9 e (fun z=>nomatch z) h
 | int i=>obtain ⟨t,q⟩:=((g));cases q;exact abp PySem.W.kitx_int I.kIn aa9 e (fun z=>nomatch z) h
 | str y=>let ⟨t,q⟩:=((g));cases q;exact abp PySem.W.kitx_str I.kIn aa9 e (fun z=>nomatch z) h
 | flt y=>let ⟨t,q⟩:=((g));cases q;exact abp PySem.W.kitx_float I.kIn aa9 e (fun z=>nomatch z) h
 | @lst a xs ea =>
  cases ((g));obtain ⟨_,_,n,_,h1⟩:=((I.hok a _ ea));exact abp aed I.kIn ⟨_,h1,rfl⟩ e (fun z=>nomatch z) h
 | @frz a ob xs ea =>
  cases ((g));obtain ⟨_,_,_,n,_,h1⟩:=((I.hok a _ ea));exact abp aed I.kIn ⟨_,h1,rfl⟩ e (fun z=>nomatch z) h
 | @tup a xs ea =>
  cases ((g));obtain ⟨_,_,_,p⟩:=((I.hok a _ ea));let ⟨o,h1,h2,_⟩:=p
  exact abp ae5 I.kIn ⟨o,h1,h2⟩ e (fun z=>nomatch z) h
 | @dK a kvs ea =>
  cases ((g));let ⟨_,_,vs,_,p⟩:=((I.hok a _ ea))
  obtain ⟨o,es,L,h1,h2,_⟩:=p;exact abp aee I.kIn ⟨o,h1,h2.1⟩ e (fun z=>nomatch z) h
 | @dT a kvs ea =>
  cases ((g));obtain ⟨_,_,xs,_,o,es,L,h1,h2,_⟩:=((I.hok a _ ea));exact abp aee I.kIn ⟨o,h1,h2.1⟩ e (fun z=>nomatch z) h
 | @ins a C dx fs ea cl ha hn htk hm =>
  cases ((g));let ⟨mA,O,_⟩:=ul I.hok ea
  let ⟨od,J,_⟩:=O.look
  exact abp (PySem.W.kitx_own (cl.get _) cl.hd ha hn htk hm) I.kIn J e (fun z=>nomatch z) h
end
structure Room (k:Nat) (A:acy):Prop where
 hd:A.handled=ξ
 dp:A.depth+3*k+5 < recursionLimit
 un:A.units+16*k+200 < adu
theorem Room.mono (r:Room k A) (h:j<=k):Room j A:=⟨r.hd,by have:=r.dp;lia,by have:=r.un;lia⟩
theorem Room.deeper (r:Room (k+1) A) (env:Env):Room k (A.deeper env) :=
 ⟨r.hd,by have:=r.dp;show A.depth+1+3*k+5 < _;lia,by have:=r.un;show A.units+3+16*k+200 < _;lia⟩
def x5 {A:acy}:(A.under (.builtin "type.__call__" ⟨.ref C::us,kw⟩)).depth=A.depth+1:=by
 rfl
def x6 {A:acy}:(A.under (.builtin "type.__call__" ⟨.ref C::us,kw⟩)).units=A.units+1:=by
 rfl
theorem Room.make (r:Room (k+1) A) (C:aa3) (us:afU) (kw:List (Str×oR)):Room k (A.under (.builtin "type.__call__" ⟨.ref C::us,kw⟩)) :=
 ⟨r.hd,by have:=r.dp;rw [x5];lia,by have:=r.un;rw [x6];lia⟩
theorem Room.depth (r:Room k A):A.depth < recursionLimit:=by have:=r.dp;lia
theorem Room.units (r:Room k A):A.units+64 < adu:=by have:=r.un;lia
def xi:TA:=fun _ H Q=>Q [] H
def qI (ta:TE) (tr:TA):TA:=fun σ H Q=>ta σ H fun x H1=>tr σ H1 fun xs g=>Q (x::xs) g
section
def FF:PA X [] xi:=fun _ _ _ _ H Q I h=>adA ⟨[],H,I,.nil,h⟩
def K3 (Y:PE X e te) (hr:PA X es t) (hs:aa2 (e::es) X.env=(η,eval e X.env)::aa2 es X.env:=by rfl):PA X (e::es) (qI te t):=by
 intro pos r s σ H Q I h;rw [hs];refine acT (bT (Y r s σ H _ I h) fun u J g=>ji g fun x H1 z r1 v=>?_);exact bT (hr pos r J σ H1 _ z v) fun us Z g=>ji g fun xs L M r2 C=>⟨x::xs,L,M,.cons r1 r2,C⟩
def RQ (t:TA):TE:=fun σ H Q=>t σ H fun xs H1=>xs.length<=RW/\∀ p,H1 p=ξ->Q (.ref p) (upd H1 p (.tup xs))
def UB (t:TA):TE:=fun σ H Q=>t σ H fun xs H1=>xs.length<=RW/\∀ p,H1 p=ξ->Q (.ref p) (upd H1 p (.lst xs))
def Ng (h:PA X es t):PE X (.Tuple es x1 pos) (RQ t):=by
 intro g s σ H Q I v;refine wpAny_Tuple_spliced (bT (h pos g s σ H _ I v) fun us s1 ⟨xs,H1,I1,r,z,q⟩=>⟨by rw [<- r.length];exact z,?_⟩);have hf  := I1.hok.fresh (nE _);refine ⟨.ref s1.heap.objs.size,upd H1 s1.heap.objs.size (.tup xs),I1.laid (fun b u e=>eQ _ e) (nE _) ?_,rfl,q _ hf⟩;exact ⟨z,us,r,⟨_,Do _ rfl,rfl,_,rfl⟩⟩
def PF (h:PA X es t):PE X (.List es pos) (UB t):=by
 intro g s σ H Q I v;refine wpAny_List_spliced (bT (h pos g s σ H _ I v) fun us s1 ⟨xs,H1,I1,r,z,q⟩=>⟨by rw [<- r.length];exact z,?_⟩);have hf  := I1.hok.fresh (nE _);refine ⟨.ref s1.heap.objs.size,upd H1 s1.heap.objs.size (.lst xs),I1.laid (fun b u e=>eQ _ e) (nE _) ?_,rfl,q _ hf⟩;exact ⟨z,us,0,r,Do _ rfl⟩
end
abbrev Sp:=afV->Hp->VK->XK->Prop
abbrev Ri:=List Env->Hp->DO->XK->oR->DO->Prop
structure Env0 (P:abN) (w:abA) (K:aT) (mg:afS) (base:acV) (A:acy) (outer:List Env) (s:DO) (H:Hp):Prop where
 frames:A.frames=θ outer
 mod:Mod K mg base
 bs:∀ b o,base.get? b=θ o->s.heap.get? b=θ o/\H b=ξ
 bsz:base.objs.size<=s.heap.objs.size
 funs:s.heap.FunFrames base outer
 frf:(∀ b∈qu outer,H b=ξ)/\JC K H
 hok:lg P w H s.heap
 bare:AllBare s.gens
def CE (g:List Env) (P:abN) (w:abA) (H:Hp) (s:DO) (Q:VK) (u:oR) (r:DO):Prop :=
 ∃ v H',r.os=s.os/\AllBare r.gens/\Un (qu g) [] H H' s.heap r.heap/\lg P w H' r.heap/\aX v u/\Q v H'
def CR (CX:Ri) (g:List Env) (P:abN) (w:abA) (H:Hp) (s:DO) (Q:VK) (E:XK) (r:Result) (v:DO):Prop :=
 match r with
 | .ok (.ret u)=>CE g P w H s Q u v
 | .ok _=>False
 | .error e=>CX g H s E e v
structure FnOk (P:abN) (w:abA) (K:aT) (mg:afS) (base:acV) (CX:Ri) (k:Nat) (f:aa3) (fd:acE) (ps:afP) (sp:Sp):Prop where
 len:∀ vs H Q E,sp vs H Q E->vs.length=ps.length
 run:∀ (A:acy) (outer:List Env) (s:DO) (H:Hp) (args:Args) (us:afU) (vs:afV) (Q:VK) (E:XK),Room k A->Env0 P w K mg base A outer s H->BindsTo s fd args (ps.zip us)->ba vs us->sp vs H Q E ->
  adt (aaV P w) A (.call (.ref f) args) (CR CX outer P w H s Q E) s
def FnOk.imp {K:aT} (F:FnOk P w K mg base CX k f fd ps sp)
  (h:∀ vs H Q E,sp' vs H Q E->sp vs H Q E):FnOk P w K mg base CX k f fd ps sp' :=
 ⟨fun vs H Q E q=>F.len vs H Q E (h _ _ _ _ q),fun A g s H r us vs Q E hr u hb v hs=>F.run A g s H r us vs Q E hr u hb v (h _ _ _ _ hs)⟩
def Env0.make {K:aT} (e:Env0 P w K mg base A outer s H) (C:aa3) (us:afU) (kw:List (Str×oR)) :
  Env0 P w K mg base (A.under (.builtin "type.__call__" ⟨.ref C::us,kw⟩)) outer s H:=⟨by first|exact e.frames|assumption,e.mod,e.bs,e.bsz,e.funs,e.frf,e.hok,e.bare⟩
def Env0.in1 {K:aT} (e:Env0 P w K mg base A outer s H) :
  Env0 P w K mg base A.in1 outer s H:=⟨e.frames,e.mod,e.bs,e.bsz,e.funs,e.frf,e.hok,e.bare⟩
section
variable {σ:St}
def Inv.env0 (I:Inv X af σ H s):Env0 X.prog X.w X.K X.mg X.base X.A X.stack s H :=
 ⟨I.ok.frames,I.ok.mod,I.bs,Le I.ok.bsz I.sz,I.stack,⟨I.stkFree,I.tb⟩,I.hok,I.bare⟩
def Inv.after (I:Inv X af σ H s) (h:CE X.stack X.prog X.w H s Q u s') (M:X.tn<=s'.toks:=by walk_at "tok"):EP X af σ Q u s':=by
 obtain ⟨v,H',os,C,un,J,r,q⟩:=h;obtain ⟨Y,g,d,t,L⟩:=s';obtain rfl:L=s.os:=os;exact ⟨v,H',I.call un J C (fun b z=>absurd z (by simp)),r,q⟩
end
def SC (sp:Sp) (dvs:afV) (E:XK) (t:TA):TE:=fun σ H Q=>t σ H fun vs H1=>sp (vs++dvs) H1 Q E
def Um (C:aa3) (sp:Sp) (dvs:afV) (E:XK) (t:TA):TE:=fun σ H Q=>t σ H fun vs H1=>∀ x g,H1 x=ξ->H1 g=ξ->g≠x ->
 sp (.ref x::(vs++dvs)) (upd (upd H1 g (.own x)) x (.ins C g [])) (fun v r=>v=.non/\Q (.ref x) r) E
def f8 (K:aT) (g:acE) (ps:afP) (ds:afU):Prop :=
 ∀ (s:DO) (us:afU),K.In s.heap->(us++ds).length=ps.length->BindsTo s g ⟨us,[]⟩ (ps.zip (us++ds))
def f8.all {K:aT} (h:∀ us:afU,us.length=ps.length->bindArgs fd ⟨us,[]⟩=pure (ps.zip us)):f8 K fd ps []:=fun s us _ hl=>by
 rw [abk] at hl ⊢;exact .of_eq (h us hl)
def qM (CX:Ri) (X:Cx) (E:XK):Prop:=∀ (r:afQ) (σ:St) (H:Hp) (s:DO) (e:oR) (g:DO),Inv X r σ H s->CX X.stack H s E e g->X.xe e g
section
variable {p pos apos:Pos}
def xQ {σ:St} (F:FnOk X.prog X.w X.K X.mg X.base CX k f fd ps sp) (hr:Room k X.A) (hb:f8 X.K fd ps ds) (z:ba dvs ds) (J:qM CX X E)
  (I:Inv X af σ H s) (r:ba vs us) (h:sp (vs++dvs) H Q E):aaN (aaV X.prog X.w) X.A (call (.ref f) us) (EP X af σ Q) X.xe s:=by
 have r2  := r.append z;have hl:(us++ds).length=ps.length:=by rw [<- r2.length];exact F.len _ _ _ _ h
 refine wpAny_call (dq I.tk (ac1 (F.run X.A X.stack s H ⟨us,[]⟩ (us++ds) (vs++dvs) Q E hr I.env0 (hb s us I.kIn hl) r2 h) fun r v g L=>?_));cases r with
 | error e=>exact J af σ H s e v I g
 | ok C =>
  cases C with
  | ret u=>exact I.after g
  | next=>exact abZ g
  | brk=>exact abZ g
  | cont=>exact abZ g
def vd (F:FnOk X.prog X.w X.K X.mg X.base CX k f fd ps sp) (hr:Room k X.A) (hg:Gl X x) (z:X.mg x=θ (.ref f)) (u:ada X.K (.ref f)=ζ) (hb:f8 X.K fd ps ds) (v:ba dvs ds) (r:qM CX X E)
  (g:afX x:=by decide):PE X (.Call (.Name x p) [] [] pos) (SC sp dvs E xi):=by
 intro C s σ H Q I h;refine abm (i9 I hg z ?_ g);exact PySem.W.callWith_K0 I.kIn u (xQ F hr hb v r I .nil h)
structure Mk (K:aT) (C f:aa3):Prop where
 makes:afy K C=ζ
 init:abT K (.ref C) "__init__"=θ (θ (.ref f))
 fn:PySem.W.isFn K (.ref f)=ζ
 kp:ada K (.ref C)=ζ
theorem EW {σ:St} (M:Mk X.K C f) (F:FnOk X.prog X.w X.K X.mg X.base CX k f fd ps sp) (hr:Room (k+1) X.A) (hb:f8 X.K fd ps ds) (hd:ba dvs ds)
  (Z:qM CX X E) (I:Inv X af σ H s) (r:ba vs us)
  (h:∀ x J,H x=ξ->H J=ξ->J≠x->sp (.ref x::(vs++dvs)) (upd (upd H J (.own x)) x (.ins C J [])) (fun v H2=>v=.non/\Q (.ref x) H2) E) :
  aaN (aaV X.prog X.w) X.A (call (.ref C) us) (EP X af σ Q) X.xe s:=by
 have L:=h (s.heap.objs.size+1) s.heap.objs.size (I.hok.fresh (adB _)) (I.hok.fresh (nE _)) (aa0 (adg _));have z:=Inv.made (C:=C) I;have r2:ba (V.ref (s.heap.objs.size+1)::(vs++dvs)) (acw (s.heap.objs.size+1)::(us++ds)):=.cons rfl (r.append hd);have hl  := by
  have e:=r2.length;rw [F.len _ _ _ _ L] at e;exact e.symm
 refine wpAny_call (DK I.kIn M.makes M.init (beq_iff_eq.mp M.fn) (dq z.tk (ac1 (F.run _ X.stack _ _ ⟨acw (s.heap.objs.size+1)::us,[]⟩ (acw (s.heap.objs.size+1)::(us++ds)) _ _ E (hr.make C us [])
  (z.env0.make C us []) (hb _ (acw (s.heap.objs.size+1)::us) z.kIn hl) r2 L) fun r Y g htk=>?_)))
 cases r with
 | error e=>exact Z af σ _ _ e Y z g
 | ok fl =>
  cases fl with
  | ret u =>
   let ⟨v,H',I3,rv,ev,q3⟩:=z.after g
   subst ev;exact ⟨rv,⟨V.ref (s.heap.objs.size+1),H',I3,rfl,q3⟩⟩
  | next=>exact abZ g
  | brk=>exact abZ g
  | cont=>exact abZ g
def Ip (M:Mk X.K C f) (F:FnOk X.prog X.w X.K X.mg X.base CX k f fd ps sp) (hr:Room (k+1) X.A) (hg:Gl X x) (J:X.mg x=θ (.ref C)) (hb:f8 X.K fd ps ds) (Y:ba dvs ds) (z:qM CX X E)
  (ha:PA X (e::es) t) (u:afX x:=by decide) (Z:aa2 (e::es) X.env=(η,eval e X.env)::aa2 es X.env:=by rfl) (g:(acL pos (aa2 es X.env)).any (·.1)=η:=by rfl) :
  PE X (.Call (.Name x p) (e::es) [] pos) (Um C sp dvs E t):=by
 intro af s σ H Q I h;refine abm (i9 I hg J ?_ u);refine ad2 I.ok.mod.kin M.kp (bT (ha pos af s σ H _ I h) fun us s1 L=>ji L fun vs H1 v r q=>⟨v.kIn,?_⟩) Z g;exact EW M F hr hb Y z v r q
end
def PK (X:Cx) (g:List adv) (t:TA):Prop :=
 ∀ (pos:Pos) (r:afQ) (s:DO) (σ:St) (H:Hp) (Q:afV->Hp->Prop),Inv X r σ H s->t σ H Q->aaN (aaV X.prog X.w) X.A (evalAll ((backToKw pos (adj g X.env)).map (·.2))) (AP X r σ Q) X.xe s
section
variable {p pos apos:Pos}
def F8:PK X [] xi:=fun _ _ _ _ H Q I h=>wpAny_evalAll_nil ⟨[],H,I,.nil,h⟩
def yU (Y:PE X e te) (hr:PK X kws t):PK X (⟨nm,e,kpos⟩::kws) (qI te t):=by
 intro pos r s σ H Q I h;refine wpAny_evalAll_cons (dO (bT (Y r s σ H _ I h) fun u J g=>ji g fun x H1 z r1 v=>dO (wpAny_standAt (rW ?_))));exact bT (hr pos r J σ H1 _ z v) fun us Z g=>ji g fun xs L M r2 C=>⟨x::xs,L,M,.cons r1 r2,C⟩
end
structure FnScope (N P:afP) (sc:Scope):Prop where
 kind:sc.kind=.function
 co:sc.isCoroutine=η
 gen:sc.isGenerator=η
 nd:N.Nodup
 pre:N.take P.length=P
 par:∀ x∈P,sc.names.lookup x=θ .local\/sc.names.lookup x=θ .cell
 nofree:∀ y∈sc.names,y.2≠.free
theorem sR {g:Str->Option adH}:∀ {binds:List (Str×oR)} {m:afS},(∀ v,(x,v)∉binds)->bindL g binds m x=m x
 | [],_,_=>rfl
 | (n,v)::r,m,h=>by
  unfold bindL;rw [sR fun w hw=>h w (iN _ hw)];split
  .grind
  .rfl
theorem sO {g:Str->Option adH}:∀ {binds:List (Str×oR)} {m:afS},(∀ v,(x,v)∉binds)->bindC g binds m x=m x
 | [],_,_=>rfl
 | (n,v)::r,m,h=>by
  unfold bindC;rw [sO fun w hw=>h w (iN _ hw)];split
  .rfl
  grind
theorem sw {g:Str->Option adH}:∀ {P:afP} {vs:afU} {i:Nat} {m:afS},P.Nodup->P[i]?=θ x->vs[i]?=θ v->g x=θ .local ->
  bindL g (P.zip vs) m x=θ v
 | [],_,_,_,_,h,_,_=>by simp at h
 | _::_,[],_,_,_,_,h,_=>by simp at h
 | p::P,w::vs,0,m,nd,h1,h2,hk=>by
  simp at h1 h2;subst h1;subst h2;show bindL g ((p,w)::P.zip vs) m p=_;unfold bindL;rw [sR fun v r=>(aa4.mp nd).1 (abb r).1,afI hk];simp
 | p::P,w::vs,i+1,m,nd,h1,h2,hk=>by
  show bindL g ((p,w)::P.zip vs) m x=_;exact sw (aa4.mp nd).2 (by simpa using h1) (by simpa using h2) hk
theorem sY {g:Str->Option adH}:∀ {P:afP} {vs:afU} {i:Nat} {m:afS},P.Nodup->P[i]?=θ x->vs[i]?=θ v->g x≠θ .local ->
  bindC g (P.zip vs) m x=θ v
 | [],_,_,_,_,h,_,_=>by simp at h
 | _::_,[],_,_,_,_,h,_=>by simp at h
 | p::P,w::vs,0,m,nd,h1,h2,hk=>by
  simp at h1 h2;subst h1;subst h2;show bindC g ((p,w)::P.zip vs) m p=_;unfold bindC;rw [sO fun v r=>(aa4.mp nd).1 (abb r).1,afJ hk];simp
 | p::P,w::vs,i+1,m,nd,h1,h2,hk=>by
  show bindC g ((p,w)::P.zip vs) m x=_;exact sY (aa4.mp nd).2 (by simpa using h1) (by simpa using h2) hk
def start (N:afP) (vs:afV):St:=vs.map θ++adb (N.length - vs.length) ξ
def oB (CX:Ri) (P:abN) (w:abA) (K:aT) (mg:afS) (base:acV) (N:afP) (g:Str) (scope:Scope) (f:aa3) (u:oR) (A:acy) (outer:List Env) (s:DO) (H:Hp) (E:XK):Cx where
 prog:=P
 w:=w
 K:=K
 mg:=mg
 base:=base
 A:=A.deeper (aeK g scope s.heap.objs.size f u)
 N:=N
 s₀:=s
 H₀:=H
 env:=aeK g scope s.heap.objs.size f u
 outer:=outer
 stack:=aeK g scope s.heap.objs.size f u::outer
 ex:=[]
 calm:=ζ
 fn:=fun _=>ζ
 pn:=[]
 xe:=fun e v=>aaN (aaV P w) (A.deeper (aeK g scope s.heap.objs.size f u)) (leaving (aeK g scope s.heap.objs.size f u) e) (fun _ r=>CX outer H s E e r) (fun z r=>CX outer H s E z r) v
def wj {sc:Scope} (h:sc.names.lookup x=θ .cell):∃ c,(cellsFrom n sc.names []).lookup x=θ c:=by
 have q:=adw sc.names n [] (.inl h);exact aef.mp q
theorem si {K:aT}
  (S:FnScope N ps scope) (Y:A.handled=ξ) (g:Env0 P w K mg base A outer s H) (hl:vs.length=ps.length) (r:ba vs us)
  (x:InCallC s s.heap.objs.size (bindL (aeK qual scope s.heap.objs.size f cd).kindOf (ps.zip us) fun _=>ξ) (cellsFrom (s.heap.objs.size+1) scope.names []) (bindC (aeK qual scope s.heap.objs.size f cd).kindOf (ps.zip us) fun _=>ξ) s1) :
  Inv (oB CX P w K mg base N qual scope f cd A outer s H E) [] (start N vs) H s1:=by
 have Z:ps.length<=N.length:=by have:=afN afA S.pre;rw [abE] at this;lia
 obtain ⟨h1,tk,rfl,M⟩:=x.done;have C:∀ b:aa3,b∉(oB CX P w K mg base N qual scope f cd A outer s H E).ex:=fun b z=>absurd (show b∈([]:afT) from z) (by simp);refine ⟨⟨g.mod,S.kind,rfl,rfl,nE _,fun y z c h1 h2=>?_,fun y hy=>?_,fun y c _ h=>?_,fun _=>Y,Around.frames_deeper g.frames,.inr ⟨rfl,rfl⟩,fun b z=>absurd z (C b),g.bs,g.bsz,fun b _ _=>C b,fun b z=>absurd z (C b),g.funs,g.frf⟩,
  rfl,g.bare,Un.kept M,⟨_,x.toInCall.ns,fun i y v h1 h2 h3=>?_⟩,fun y c h=>⟨_,x.cell y c h⟩,g.hok.fresh (nE _),fun y c h=>?_,fun p J=>absurd (show p∈([]:afQ) from J) (by simp),g.hok.kept M,?_,aaQ _⟩
 .exact name_of_addr x.apart (ack h1) (ack h2)
 .have hy:scope.names.lookup y=θ .cell\/scope.names.lookup y=θ .free:=hy;rcases hy with hy|hy
  .exact wj hy
  .exact absurd rfl (S.nofree _ (ack hy))
 .exact afq (x.above y c (ack h))
 .have L:i < vs.length:=by
   unfold start at h2;by_cases L:i < vs.length
   .exact L
   .rw [adZ (by simpa using L)] at h2;rw [ael] at h2;split at h2 <;> cases h2
  have ha:vs[i]?=θ v:=by
   unfold start at h2;rw [ade (by simpa using L),acF] at h2;cases e:vs[i]? with
   | none=>rw [e] at h2;cases h2
   | some a=>rw [e] at h2;cases h2;rfl
  let ⟨u,hu,rv⟩:=r.get ha
  have J:ps[i]?=θ y:=by
   rw [<- S.pre,List.getElem?_take_of_lt (by lia)];exact h1
  have I:ps.Nodup:=by rw [<- S.pre];exact S.nd.sublist (afh _ _)
  refine ⟨u,rv,?_⟩;rcases S.par y (aaZ J) with k|k
  .exact .inl ⟨k,sw I J hu k⟩
  .obtain ⟨c,e⟩:=wj k;refine .inr ⟨.inl k,c,e,?_⟩;have q:=x.cell y c e;rw [sY I J hu (by show scope.names.lookup y≠_;rw [k];decide)] at q;exact q
 .exact g.hok.fresh (afq (x.above y c (ack h)))
 .unfold start;show _=N.length;simp_all
theorem R7 {K:aT} {dV kV Y pm z ct oc:oR}
  (lk:K.lookup f=θ ⟨oc,od,.func (acK name qual params body scope dV kV Y pm an z ct),osl⟩) (hcd:ad5 K z qual=ζ) (S:FnScope N ps scope)
  (len:∀ vs H Q E,sp vs H Q E->vs.length=ps.length)
  (M:∀ (A:acy) (g:List Env) (s:DO) (H:Hp) (vs:afV) (Q:VK) (E:XK),Room k (A.deeper (aeK qual scope s.heap.objs.size f z))->sp vs H Q E ->
   ∃ t,zI (oB CX P w K mg base N qual scope f z A g s H E) body t/\t { nx:=fun _ H'=>Q .non H',rt:=Q } (start N vs) H) :
  FnOk P w K mg base CX (k+1) f (acK name qual params body scope dV kV Y pm an z ct) ps sp:=by
 refine ⟨len,fun A g s H args us vs Q E hr e0 hb r Z=>?_⟩;have hl:=len _ _ _ _ Z;have KX  := e0.mod.kin.keeps fun b o e=>(e0.bs b o e).1;have lim  := e0.mod.nolimit.keeps fun b o e=>(e0.bs b o e).1;have L:∀ y∈ps.zip us,scope.names.lookup y.1=θ .local\/(scope.names.lookup y.1=θ .cell/\((cellsFrom (s.heap.objs.size+1) scope.names []).lookup y.1).isSome=ζ):=fun ⟨n,v⟩ hy=>by
  rcases S.par n (abb hy).1 with q|q
  .exact .inl q
  .exact .inr ⟨q,adw _ _ _ (.inl q)⟩
 refine codeAny_call_function hr.depth (KX _ _ lk) rfl S.co S.gen rfl (PySem.W.codeRec_of KX hcd) (hb _ _ _ _ ?_);refine wpAny_newFunctionEnv_cells S.kind L fun env he s1 x=>?_;subst he;refine ⟨lim.keeps x.toInCall.keep,codeAny_func ?_⟩;obtain ⟨t,ht,hq⟩:=M A g s H vs Q E (hr.deeper _) Z;have I:Inv (oB CX P w K mg base N qual scope f z A g s H E) [] (start N vs) H s1:=si S hr.hd e0 hl r x;refine abn (ht [] s1 (start N vs) H _ I hq) (fun fl s' hs=>?_) fun e s' hs=>hs;have fin:∀ {C:St} {H':Hp} {v:V} {u:oR},Inv (oB CX P w K mg base N qual scope f z A g s H E) [] C H' s'->aX v u->Q v H'->CE g P w H s Q u s' :=
  fun {C H' v u} J rv q=>⟨v,H',J.os,J.bare,J.base,J.hok,rv,q⟩
 cases fl with
 | ret u =>
  obtain ⟨v,C,H',J,rv,q⟩:=hs;exact fin J rv q
 | next =>
  obtain ⟨C,H',J,q⟩:=hs;exact fin (v:=V.non) J rfl q
 | brk =>
  obtain ⟨_,_,_,q⟩:=hs;exact abZ q
 | cont =>
  let ⟨_,_,_,q⟩:=hs
  exact abZ q
section
variable {p pos:Pos} {id:String}
def Rk (r:afV->Hp->VK->Prop) (t:TA):TE:=fun σ H Q=>t σ H fun vs H1=>r vs H1 Q
def GG (hc:bG X (.builtin id) r) (hg:Gl X x) (C:X.mg x=ξ) (hv:MK x=θ (.builtin id)) (Z:PA X (e::es) t) (hn:x≠"__name__":=by decide) (u:afX x:=by decide)
  (Y:aa2 (e::es) X.env=(η,eval e X.env)::aa2 es X.env:=by rfl) (g:(acL pos (aa2 es X.env)).any (·.1)=η:=by rfl):PE X (.Call (.Name x p) (e::es) [] pos) (Rk r t):=by
 intro v s σ H Q I h;refine abm (g8 I hg C hv ?_ hn u);exact adJ (bT (Z pos v s σ H _ I h) fun us M L=>ji L fun vs H1 J r1 z=>hc v M σ H1 vs us Q J r1 z) Y g
def Bg (hc:bG X (.type T) r) (hg:Gl X x) (C:X.mg x=ξ) (hv:MK x=θ (.type T)) (Z:PA X (e::es) t) (hn:x≠"__name__":=by decide) (u:afX x:=by decide)
  (Y:aa2 (e::es) X.env=(η,eval e X.env)::aa2 es X.env:=by rfl) (g:(acL pos (aa2 es X.env)).any (·.1)=η:=by rfl):PE X (.Call (.Name x p) (e::es) [] pos) (Rk r t):=by
 intro v s σ H Q I h;refine abm (g8 I hg C hv ?_ hn u);exact abU (bT (Z pos v s σ H _ I h) fun us M L=>ji L fun vs H1 J r1 z=>hc v M σ H1 vs us Q J r1 z) Y g
end
end L2
namespace HT
open PySem PyProof.Rows
section
variable {prog:abN} {w:abA} {A:acy} {E:afR} {s:DO}
def IX (r:afo s.heap t vs.toArray) (hb:afo s.heap b ws.toArray) (g:vs≠[])
  (h1:ws=[]->Q (.ref t) s) (h2:ws≠[]->Q (.ref s.heap.objs.size) { s with heap:=s.heap.push { cls:=.type "tuple",data:=.seq (vs++ws).toArray } })
  (hsz:vs.length+ws.length<=RW):aaN (aaV prog w) A (ab3 .Add (.ref t) (.ref b)) Q E s:=by
 let ⟨⟨cls,dd,data,sl⟩,ho,hc,n,hd⟩:=id r
 let ⟨⟨cls2,dd2,data2,sl2⟩,ho2,hc2,n2,hd2⟩:=id hb
 subst hc hd hc2 hd2;have e:vs.toArray++ws.toArray=(vs++ws).toArray:=by simp
 by_cases hw:ws=[]
 .exact concat_meets ⟨_,ho,rfl⟩ ⟨_,ho2,rfl⟩ noFill_tuple_add seq_tuple_add adx ado (adk _ _)
   (tuple_addW1 t b vs.toArray ws.toArray n n2 dd dd2 sl sl2 (by simpa using g) (by simp [hw])) ⟨ho,ho2,h1 hw⟩
 .refine concat_meets ⟨_,ho,rfl⟩ ⟨_,ho2,rfl⟩ noFill_tuple_add seq_tuple_add adx ado (adk _ _)
   (tuple_addW2 t b vs.toArray ws.toArray n n2 dd dd2 sl sl2 (by simpa using g) (by simpa using hw) (by assumption)) ⟨ho,ho2,?_⟩
  rw [e];exact h2 hw
noncomputable def sIx (n d:Nat):Option Int->Nat
 | none=>d
 | some v=>if v < 0 then (v+(n:Int)).toNat else min v.toNat n
def jB (n d:Nat):sIx n d ξ=d:=rfl
def gh (n d k:Nat):sIx n d (θ (k:Int))=min k n:=by
 rfl
theorem xt (n d:Nat) (g:d<=n) (o:Option Int):sIx n d o<=n:=by
 cases o with
 | none=>exact g
 | some v =>
  show (if v < 0 then (v+n).toNat else min v.toNat n)<=n
  grind
theorem yM (v:Int) (n d:Nat):(if v < 0 then max (v+(n:Int)) 0 else min v (n:Int))=((sIx n d (θ v):Nat):Int):=by
 show (if v < 0 then max (v+n) 0 else min v n)=(((if v < 0 then (v+n).toNat else min v.toNat n)))
 grind
def w4 (lo g:Option Int) (n:Nat):ad6 lo g 1 (n:Int)=(((sIx n 0 lo:Nat):Int),((sIx n n g:Nat):Int)):=by
 refine Prod.ext ?_ ?_
 .cases lo with
  | none=>rfl
  | some v=>exact yM v n 0
 .cases g with
  | none=>rfl
  | some v=>exact yM v n n
theorem xT (i j:Nat):acA (i:Int) (j:Int) 1=j - i:=by
 unfold acA
 grind
def p8 (p:IsPart v o) (h:Q o s):aaN (aaV prog w) A (Builtin.Slice.slicePartIndex v) Q E s:=by
 cases p with
 | none=>exact slicePart_none h
 | int i t=>exact slicePart_int h
def iw {lo g:Option Int} {n:Nat} (hs:s.heap.IsSliceOf sl vl vu .none) (r:IsPart vl lo) (u:IsPart vu g)
  (h:Q (((sIx n 0 lo:Nat):Int),1,sIx n n g - sIx n 0 lo) s):aaN (aaV prog w) A (Builtin.Slice.sliceApplied (.ref sl) (pure (n:Int))) Q E s:=by
 let ⟨os,hos,hcs,hds⟩:=id hs
 refine dO (dO (abX hos hds rfl (dO (abX hos hds rfl (dO (abX hos hds rfl (rW ?_)))))));refine dO (slicePart_none ?_);refine dO (p8 r (dO (p8 u (dO (rW ?_)))));show aaN _ _ (match ad6 lo g 1 n with|(lo,g)=>pure (lo,(1:Int),acA lo g 1)) _ _ s
 rw [w4 lo g n];show aaN _ _ (pure (((sIx n 0 lo):Int),1,acA ((sIx n 0 lo)) ((sIx n n g)) 1)) _ _ s;rw [xT];exact rW h
theorem DB (xs:Array oR) (i k:Nat):((aa7 k).filterMap fun (m:Nat)=>xs[((i:Int)+(m:Int)*1).toNat]?).toArray=((xs.toList.drop i).take k).toArray:=by
 have e:(fun (m:Nat)=>xs[((i:Int)+m*1).toNat]?)=fun m=>xs[i+m]?:=by
  grind
 rw [e]
 have:=pick_run xs i k
 rw [List.filterMap_map] at this;have g:((fun x=>xs[x]?) ∘ fun x=>i+x)=fun m=>xs[i+m]?:=rfl;rw [g] at this;rw [this]
theorem lz {lo r:Option Int} (u:afo s.heap t items) (hs:s.heap.IsSliceOf sl vl vu .none) (C:IsPart vl lo) (I:IsPart vu r)
  (hw:¬ (sIx items.size 0 lo=0/\sIx items.size items.size r=items.size))
  (h:Q (.ref s.heap.objs.size) { s with heap:=s.heap.push { cls:=.type "tuple",data:=.seq ((items.toList.drop (sIx items.size 0 lo)).take (sIx items.size items.size r - sIx items.size 0 lo)).toArray } })
  (hsz:items.size<=RW):aaN (aaV prog w) A (aea (.ref t) (.ref sl)) Q E s:=by
 have g:sizeOk (.seq ((items.toList.drop (sIx items.size 0 lo)).take (sIx items.size items.size r - sIx items.size 0 lo)).toArray):=by
  show ((items.toList.drop (sIx items.size 0 lo)).take (sIx items.size items.size r - sIx items.size 0 lo)).toArray.size<=RW;rw [aaY,abE,acu,aeW];lia
 have M:sIx items.size items.size r<=items.size:=xt _ _ (nE _) r;let ⟨os,hos,hcs,hds⟩:=id hs
 have z:s.TypeIs (.ref sl) "slice":=⟨os,hos,hcs⟩;unfold aea;try with_reducible refine abW ?_
 first|refine dO (rW ?_)|skip
 refine dO (wpAny_sequenceKey u.typeIs (by decide) ?_);refine dO (abY (name:=IF "__getitem__") u.typeIs abq
  (ab1 abq u.typeIs entry_tuple_getitem ?_ (args_tuple_getitem _ _)))
 show aaN _ _ (ad0 (.ref t) >>= _) _ _ s;refine dO (tupleItemsOf_ u ?_);refine dO (wpAny_typeOf z ?_);rw [afI (by decide)];refine dO (iw hs C I ?_);have v:¬ ((((sIx items.size 0 lo:Nat):Int)==0&&(1:Int)==1&&(sIx items.size items.size r - sIx items.size 0 lo)==items.size)=ζ):=by
  intro q;rw [Pi,Pi] at q;have L:((sIx items.size 0 lo:Nat):Int)=0:=eq_of_beq q.1.1;have J:sIx items.size items.size r - sIx items.size 0 lo=items.size:=eq_of_beq q.2;exact hw ⟨by lia,by lia⟩
 show aaN _ _ (if (((sIx items.size 0 lo:Nat):Int)==0&&(1:Int)==1&&(sIx items.size items.size r - sIx items.size 0 lo)==items.size)=ζ then _ else _) _ _ s;rw [afJ v,DB]
 first
  | exact dO (m:=adl _) (acj (rW ⟨_,rfl,rW h⟩) g)
  | exact dO (m:=adl _) (acj (dO (rW (rW ⟨_,rfl,rW h⟩))) g)
  | exact dO (dO (m:=adl _) (acj (rW (rW ⟨_,rfl,rW h⟩)) g))
  | grind
end
end HT
namespace L2
open PySem PySem.Spec PyProof.Rows
abbrev TO:=St->Hp->(Option Int->Hp->Prop)->Prop
def PO (X:Cx) (e:Option abu) (t:TO):Prop :=
 ∀ (g:afQ) (s:DO) (σ:St) (H:Hp) (Q:Option Int->Hp->Prop),Inv X g σ H s->t σ H Q ->
  aaN (aaV X.prog X.w) X.A (evalPart e X.env) (fun u r=>∃ o H',Inv X g σ H' r/\IsPart u o/\Q o H') X.xe s
def zE:TO:=fun _ H Q=>Q ξ H
section
variable {lo:Option abu}
def Kg:PO X ξ zE:=by
 intro g s σ H Q I h;exact rW ⟨ξ,H,I,.none,h⟩
def uW (X:Cx) (r:V->Option Int->Option Int->Hp->VK->Prop):Prop :=
 ∀ (I:afQ) (s:DO) (σ:St) (H:Hp) (x:V) (v u z:oR) (lo g:Option Int) (C:aa3) (Q:VK),Inv X I σ H s->aX x v->s.heap.IsSliceOf C u z .none->IsPart u lo->IsPart z g->r x lo g H Q ->
  ∃ T id,typeLookup (.type T) "__getitem__"=pure (θ (.builtin id))/\s.TypeIs v T/\aaN (aaV X.prog X.w) X.A (aea v (.ref C)) (EP X I σ Q) X.xe s
def uW.or (h:uW X r) (h':uW X r'):uW X (fun x lo g H Q=>r x lo g H Q\/r' x lo g H Q):=by
 intro Y s σ H x v C J lo g M Q I L hs u z q;rcases q with q|q
 .exact h Y s σ H x v C J lo g M Q I L hs u z q
 .exact h' Y s σ H x v C J lo g M Q I L hs u z q
def aaz (r:V->Option Int->Option Int->Hp->VK->Prop) (te:TE) (v g:TO):TE:=fun σ H Q=>te σ H fun x H1=>v σ H1 fun l C=>g σ C fun u z=>r x l u z Q
def GQ (hr:uW X r) (Z:PE X e te) (hl:PO X lo tl) (J:PO X hi th):PE X (.Subscript e (.Slice lo hi ξ p2) pos) (aaz r te tl th):=by
 intro g s σ H Q I h;refine Subscript_ (bT (Z g s σ H _ I h) fun v M L=>ji L fun x H1 C r1 z=>?_);refine wpAny_Slice (bT (hl g M σ H1 _ C z) fun vl s2 ⟨l,H2,I2,pl,q2⟩=>bT (J g s2 σ H2 _ I2 q2) fun vu s3 ⟨u,H3,I3,pu,q3⟩=>?_);refine rW ?_;have Y:Inv X g σ H3 { s3 with heap:=s3.heap.push { cls:=.type "slice",data:=.fields #[vl,vu,.none] } }:=I3.kept fun b ob q=>eQ _ q;let ⟨T,id,hT,ht,hg⟩:=hr g { s3 with heap:=s3.heap.push { cls:=.type "slice",data:=.fields #[vl,vu,.none] } } σ H3 x v vl vu l u s3.heap.objs.size Q Y r1 (ae6 ..) pl pu q3
 exact tail_any ht hT hg (by rfl)
def u6 (xs:afV) (lo g:Option Int):afV:=(xs.drop (HT.sIx xs.length 0 lo)).take (HT.sIx xs.length xs.length g - HT.sIx xs.length 0 lo)
theorem nW (xs:afV) (lo g:Option Int):(u6 xs lo g).length<=xs.length:=by
 unfold u6
 grind
def XJ (K:aT):V->Option Int->Option Int->Hp->VK->Prop:=fun x lo g H Q=>∃ a xs,x=.ref a/\g6 K H a xs /\
 ¬ (HT.sIx xs.length 0 lo=0/\HT.sIx xs.length xs.length g=xs.length)/\∀ p,H p=ξ->Q (.ref p) (upd H p (.tup (u6 xs lo g)))
theorem PY:uW X (XJ X.K):=by
 intro af s σ H x v M Y lo u Z Q I L hs z J h;obtain ⟨a,xs,rfl,C,hw,q⟩:=h;cases L;let ⟨its,r,ht,hz⟩:=I.tuple C
 have g:its.toArray.size=xs.length:=by exact r.length.symm
 refine ⟨"tuple",_,abq.lookup,ht.typeIs,?_⟩;refine HT.lz ht hs z J (by rw [g];exact hw) ?_ (by grind);rw [g];refine ⟨.ref s.heap.objs.size,_,I.laid (fun b ob q=>eQ _ q) (nE _) ?_,rfl,q _ (I.hok.fresh (nE _))⟩;exact ⟨Le (nW xs lo u) hz,_,(r.drop (HT.sIx xs.length 0 lo)).take (HT.sIx xs.length xs.length u - HT.sIx xs.length 0 lo),IsTup.new _ _⟩
def Vs (K:aT):R2:=fun x y H Q=>∃ a b xs ys,x=.ref a/\y=.ref b/\g6 K H a xs/\g6 K H b ys/\xs≠[]/\xs.length+ys.length<=RW /\
 (ys=[]->Q (.ref a) H)/\(ys≠[]->∀ p,H p=ξ->Q (.ref p) (upd H p (.tup (xs++ys))))
def ba.nil_iff (r:ba xs us):us=[] ↔ xs=[]:=by
 cases r with
 | nil=>simp
 | cons _ _=>simp
theorem KN:cD X (ab3 .Add) (Vs X.K):=by
 intro Y s σ H x y v u Q I J M h;obtain ⟨a,b,xs,ys,rfl,rfl,L,hb,r,hz,g,C⟩:=h;cases J;cases M;let ⟨its,r1,p1,_⟩:=I.tuple L
 let ⟨its2,r2,p2,_⟩:=I.tuple hb
 refine HT.IX p1 p2 (fun z=>r (r1.nil_iff.mp z)) (fun z=>⟨.ref a,H,I,rfl,g (r2.nil_iff.mp z)⟩) (fun z=>?_) (by rw [<- r1.length,<- r2.length];exact hz);refine ⟨.ref s.heap.objs.size,_,I.laid (fun b ob q=>eQ _ q) (nE _) ?_,rfl,C (fun w=>z (r2.nil_iff.mpr w)) _ (I.hok.fresh (nE _))⟩;exact ⟨by simp_all,_,r1.append r2,IsTup.new _ _⟩
end
noncomputable def IP (n:Nat) (i:Int):Option Nat:=if 0<=i then (if i < n then θ i.toNat else ξ) else if -(n:Int)<=i then θ (i+n).toNat else ξ
def atI {α:Type} (xs:List α) (i:Int):Option α:=(IP xs.length i).bind fun j=>xs[j]?
theorem Kn (h:IP n i=θ j):seqIndex? i n=θ j/\j < n/\-(n:Int)<=i/\i < n:=by
 unfold IP at h;by_cases g:0<=i
 .rw [afI g] at h;by_cases h1:i < n
  .rw [afI h1] at h;have e  := ab9 h;exact ⟨by rw [seqIndex_of g h1,e],by lia,by lia,h1⟩
  grind
 .rw [afJ g] at h;by_cases h1:-n<=i
  .rw [afI h1] at h;have e  := ab9 h;exact ⟨by rw [seqIndex_neg (by lia) h1,e],by lia,h1,by lia⟩
  grind
def uq {xs:List α} {v:α} (h:atI xs i=θ v):∃ j,seqIndex? i xs.length=θ j/\xs[j]?=θ v/\j < xs.length/\-(xs.length:Int)<=i/\i < xs.length:=by
 unfold atI at h;cases e:IP xs.length i with
 | none=>rw [e] at h;cases h
 | some j =>
  rw [e] at h;let ⟨h1,h2,h3,h4⟩:=Kn e
  exact ⟨j,h1,h,h2,h3,h4⟩
def b4 {xs:List α} {j:Nat} {v:α} (h:xs[j]?=θ v):atI xs (j:Int)=θ v:=by
 have hj  := (aaW.mp h).1;have e:IP xs.length j=θ j:=by
  unfold IP;simp_all
 unfold atI;rw [e];exact h
def me (b:abu):Prop:=∀ o i,subscripted b η o i=operate [o,i] (aea o i)
def v6 (X:Cx) (r:R2):Prop :=
 ∀ (value g:abu) (z:afQ) (s:DO) (σ:St) (H:Hp) (x y:V) (v u:oR) (Q:VK),Inv X z σ H s->aX x v->aX y u->r x y H Q ->
  subscripted g η v u=operate [v,u] (aea v u)->aaN (aaV X.prog X.w) X.A (subscriptTail value g v u) (EP X z σ Q) X.xe s
def UL (X:Cx) (id:String) (r:V->afV->Hp->VK->Prop):Prop :=
 ∀ (g:afQ) (s:DO) (σ:St) (H:Hp) (x:V) (xs:afV) (v:oR) (us:afU) (Q:VK),Inv X g σ H s->aX x v->ba xs us->r x xs H Q ->
  aaN (aaV X.prog X.w) X.A (call (.builtin id) (v::us)) (EP X g σ Q) X.xe s
section
variable {X:Cx} {a b:abu} {ta tb:TE} {pos:Pos}
def v6.or (h:v6 X r) (h':v6 X r'):v6 X (fun x y H Q=>r x y H Q\/r' x y H Q):=by
 intro value g J s σ H x y v u Q I z C q hs;rcases q with q|q
 .exact h value g J s σ H x y v u Q I z C q hs
 .exact h' value g J s σ H x y v u Q I z C q hs
def UM (hr:v6 X r) (L:PE X a ta) (hb:PE X b tb) (hs:me b):PE X (.Subscript a b pos) (Cu r ta tb):=by
 intro M s σ H Q I h;exact Subscript_ (OM L hb I h fun v u g x y z C J Y q=>hr a b M g σ z x y v u Q C J Y q (hs _ _))
def Wf (K:aT):R2:=fun x y H Q=>∃ p xs i v,x=.ref p/\y=.int i/\e8 K H p xs/\atI xs i=θ v/\Q v H
def VU (K:aT):R2:=fun x y H Q=>∃ p xs i v,x=.ref p/\y=.int i/\g6 K H p xs/\atI xs i=θ v/\Q v H
def SM:R2:=fun x y H Q=>∃ z i c,x=.str z/\y=.int i/\z.length<=RW/\atI z.cps.toList i=θ c/\Q (.str ⟨#[c]⟩) H
theorem Ih:v6 X (Wf X.K):=by
 intro value g Y s σ H x y v u Q I L Z h hs;obtain ⟨p,xs,i,z,rfl,rfl,J,M,q⟩:=h;cases L;obtain ⟨t,rfl⟩:=Z;let ⟨its,r,pl,hz⟩:=I.list J
 let ⟨j,h1,h2,h3,h4,h5⟩:=uq M
 let ⟨w,ew,rw'⟩:=r.get h2
 have hl:=r.length;have hn:=mP;have fin:EP X Y σ Q w s:=⟨z,H,I,rw',q⟩;by_cases C:0<=i
 .have hj  := by
   rw [seqIndex_of C h5] at h1;exact ab9 h1
  exact item_listR pl.isList C (by lia) (by grind) fin hs
 .have hj:(i+its.toArray.size).toNat=j:=by
   rw [seqIndex_neg (by lia) h4] at h1
   grind
  exact subscriptTail_builtinR pl.isList.typeIs slot_list_getitem.lookup
   (wpAny_getItem_list_neg pl.isList (by lia) (by simp_all) (by lia) (by grind) ⟨rfl,fin⟩) hs
theorem O7:v6 X (VU X.K):=by
 intro value g M s σ H x y v u Q I J Y h hs;obtain ⟨p,xs,i,z,rfl,rfl,C,L,q⟩:=h;cases J;obtain ⟨t,rfl⟩:=Y;let ⟨its,r,pl,hz⟩:=I.tuple C
 let ⟨j,h1,h2,h3,h4,h5⟩:=uq L
 let ⟨w,ew,rw'⟩:=r.get h2
 have hl:=r.length;have hn:=mP;have fin:EP X M σ Q w s:=⟨z,H,I,rw',q⟩;exact subscriptTail_builtinR pl.typeIs slot_tuple_getitem.lookup
  (getItem_tuple (j:=j) pl (by lia) (by lia) (by grind) (by simpa using ew) ⟨rfl,fin⟩) hs
theorem O3:v6 X SM:=by
 intro value g L s σ H x y v u Q I r J h hs;obtain ⟨z,i,c,rfl,rfl,hz,C,q⟩:=h;obtain ⟨t,rfl⟩:=r;obtain ⟨t',rfl⟩:=J;let ⟨j,h1,h2,h3,h4,h5⟩:=uq C
 have hl:z.cps.toList.length=z.length:=by rfl
 have hn:=mP;exact tail_any (typeIs_str s z t) slot_str_getitem.lookup (getItem_str (by
  grind) (by grind) ⟨.str ⟨#[c]⟩,H,I.tok _,⟨_,rfl⟩,q⟩) hs
def rIx (K:aT):R2:=fun x y H Q=>Wf K x y H Q\/VU K x y H Q\/SM x y H Q
def O9:v6 X (rIx X.K):=Ih.or (O7.or O3)
theorem tI (lo g:Option Int) (n:Nat):(adF lo g ξ n).1=((HT.sIx n 0 lo:Nat):Int)/\(adF lo g ξ n).2.1=((HT.sIx n n g:Nat):Int)/\(adF lo g ξ n).2.2=1:=by
 refine ⟨?_,?_,rfl⟩
 .cases lo with
  | none=>rfl
  | some i =>
   simp only [adF,HT.sIx,aft,show 1 > 0 by decide,if_true]
   grind
 .cases g with
  | none=>rfl
  | some i =>
   simp only [adF,HT.sIx,aft,show (1:Int) > 0 by decide,if_true];by_cases h:i < 0
   .simp only [h,if_true] <;> lia
   grind
def rq (its:afU) (lo g:Option Int):slicePick its.toArray lo g ξ=((its.drop (HT.sIx its.length 0 lo)).take (HT.sIx its.length its.length g - HT.sIx its.length 0 lo)).toArray:=by
 obtain ⟨h1,h2,r⟩:=tI lo g its.toArray.size;unfold slicePick;rw [h1,h2,r];simp only [sliceRange_one,pick_run,aaY] <;> rfl
def XM (K:aT):V->Option Int->Option Int->Hp->VK->Prop:=fun x lo g H Q=>∃ a xs,x=.ref a/\e8 K H a xs/\∀ p,H p=ξ->Q (.ref p) (upd H p (.lst (u6 xs lo g)))
def Kp:uW X (XM X.K):=by
 intro af s σ H x v M Y lo u Z Q I L hs z J h;obtain ⟨a,xs,rfl,C,q⟩:=h;cases L;let ⟨its,r,ht,hz⟩:=I.list C
 have g:=r.length;refine ⟨"list",_,slot_list_getitem.lookup,ht.isList.typeIs,?_⟩;refine wpAny_getItem_list_slice ht.isList hs z J .none (by simp) ?_ (by simp_all);rw [rq,<- g];refine ⟨.ref s.heap.objs.size,_,I.laid (fun b ob q=>eQ _ q) (nE _) ?_,rfl,q _ (I.hok.fresh (nE _))⟩;exact ⟨Le (nW xs lo u) hz,_,0,(r.drop (HT.sIx xs.length 0 lo)).take (HT.sIx xs.length xs.length u - HT.sIx xs.length 0 lo),Do _ rfl⟩
def fJ:V->Bool
 | .non=>ζ
 | .bl _=>ζ
 | .int _=>ζ
 | .str _=>ζ
 | _=>η
noncomputable def eqV:V->V->Bool
 | .non,.non=>ζ
 | .bl a,.bl b=>a==b
 | .bl a,.int b=>(if a then 1 else 0)==b
 | .int a,.bl b=>a==(if b then 1 else 0)
 | .int a,.int b=>a==b
 | .str a,.str b=>a==b
 | _,_=>η
theorem Qs (z:aX y u) (g:aX x v) (C:fJ y=ζ) (r:fJ x=ζ):afi A s u v (eqV y x):=by
 cases y with
 | non =>
  cases z;cases x with
  | non=>cases g;exact afx _
  | bl b=>cases g;exact SeqAt.EqAt.none_bool b
  | int b=>obtain ⟨t,rfl⟩:=g;exact aeT b t
  | str b=>obtain ⟨t,rfl⟩:=g;exact aeU b t
  | _=>exact absurd (show η=ζ from r) GT
 | bl a =>
  cases z;cases x with
  | non=>cases g;exact SeqAt.EqAt.bool_none a
  | bl b=>cases g;exact SeqAt.EqAt.bool_bool a b
  | int b=>obtain ⟨t,rfl⟩:=g;exact SeqAt.EqAt.bool_int a b t
  | str b=>obtain ⟨t,rfl⟩:=g;exact SeqAt.EqAt.bool_str a b t
  | _=>exact absurd (show η=ζ from r) GT
 | int a =>
  obtain ⟨t',rfl⟩:=z;cases x with
  | non=>cases g;exact aeR a t'
  | bl b=>cases g;exact SeqAt.EqAt.int_bool a t' b
  | int b=>obtain ⟨t,rfl⟩:=g;exact SeqAt.EqAt.int_int a t' b t
  | str b=>obtain ⟨t,rfl⟩:=g;exact ae3 a t' b t
  | _=>exact absurd (show η=ζ from r) GT
 | str a =>
  obtain ⟨t',rfl⟩:=z;cases x with
  | non=>cases g;exact aeS a t'
  | bl b=>cases g;exact SeqAt.EqAt.str_bool a t' b
  | int b=>obtain ⟨t,rfl⟩:=g;exact ae4 a t' b t
  | str b=>obtain ⟨t,rfl⟩:=g;exact SeqAt.EqAt.str_str a t' b t
  | _=>exact absurd ((r)) GT
 | _=>exact absurd ((C)) GT
def uV (x:V) (u:oR):Bool:=match u with
 | .none=>eqV .non x
 | .bool b=>eqV (.bl b) x
 | .int i _=>eqV (.int i) x
 | .str z _=>eqV (.str z) x
 | _=>η
def tL (r:aX y u) (f:fJ y=ζ):uV x u=eqV y x:=by
 cases y with
 | non=>cases r;rfl
 | bl b=>cases r;rfl
 | int i=>obtain ⟨t,rfl⟩:=r;rfl
 | str z=>obtain ⟨t,rfl⟩:=r;rfl
 | _=>exact absurd ((f)) GT
theorem lu:∀ {xs:afV} {us:afU},ba xs us->xs.all fJ=ζ->us.any (uV x)=xs.any fun y=>eqV y x
 | _,_,.nil,_=>rfl
 | y::xs,u::us,.cons r t,f=>by
  rw [abO,Pi] at f;rw [ae7,ae7,tL r f.1,lu t f.2]
theorem iG (C:aX x v) (z:fJ x=ζ):∀ {xs:afV} {us:afU},ba xs us->xs.all fJ=ζ->∀ u∈us,afi A s u v (uV x u)
 | _,_,.nil,_=>fun u g=>by cases g
 | y::xs,u::us,.cons r t,f=>fun I g=>by
  rw [abO,Pi] at f;rcases mK.mp g with rfl|g
  .rw [tL r f.1];exact Qs r C f.1 z
  .exact iG C z t f.2 I g
def C9 (x:V) (xs:afV):Bool:=xs.any fun y=>eqV y x
def Z3 (K:aT) (g:Bool):R2:=fun x y H Q=>∃ p xs,y=.ref p/\(e8 K H p xs\/g6 K H p xs)/\fJ x=ζ/\xs.all fJ=ζ/\Q (.bl (if g then !C9 x xs else C9 x xs)) H
def BJ:cD X (aa1 .In) (Z3 X.K η):=by
 intro M s σ H x y v u Q I C L h;obtain ⟨p,xs,rfl,g,J,fs,q⟩:=h;cases L;rcases g with g|g
 .let ⟨its,r,z,hz⟩:=I.list g
  refine SeqAt.in_listAt (uV x) z.isList (fun w hw=>iG C J r fs w (by simpa using hw)) ⟨.bl _,H,I,rfl,?_⟩;rw [show its.toArray.any (uV x)=its.any (uV x) by simp,lu r fs];exact q
 .obtain ⟨its,r,z,hz⟩:=I.tuple g;refine afu (uV x) z (fun w hw=>iG C J r fs w (by simpa using hw)) ⟨.bl _,H,I,rfl,?_⟩;rw [show its.toArray.any (uV x)=its.any (uV x) by simp,lu r fs];exact q
def uj:cD X (aa1 .NotIn) (Z3 X.K ζ):=by
 intro M s σ H x y v u Q I C L h;obtain ⟨p,xs,rfl,g,J,fs,q⟩:=h;cases L;rcases g with g|g
 .let ⟨its,r,z,hz⟩:=I.list g
  refine ae8 (uV x) z.isList (fun w hw=>iG C J r fs w (by simpa using hw)) ⟨.bl _,H,I,rfl,?_⟩;rw [show its.toArray.any (uV x)=its.any (uV x) by simp,lu r fs];exact q
 .obtain ⟨its,r,z,hz⟩:=I.tuple g;refine SeqAt.notIn_tupleAt (uV x) z (fun w hw=>iG C J r fs w (by simpa using hw)) ⟨.bl _,H,I,rfl,?_⟩;rw [show its.toArray.any (uV x)=its.any (uV x) by simp,lu r fs];exact q
theorem uJ:bG X (.builtin "len") (fun xs H Q=>∃ p ys,xs=[.ref p]/\(e8 X.K H p ys\/g6 X.K H p ys)/\Q (.int ys.length) H):=by
 intro C s σ H xs us Q I r h;obtain ⟨p,ys,rfl,g,q⟩:=h;obtain ⟨u,rfl,z⟩:=gG r;cases z;have hn:=mP;rcases g with g|g
 .let ⟨its,r',pl,hz⟩:=I.list g
  have v:=r'.length;exact Calls.call_len_list pl.isList (by simp only [aaY] <;> lia) ⟨.int ys.length,H,I.tok _,⟨s.toks+1,by simp_all⟩,q⟩
 .let ⟨its,r',pl,hz⟩:=I.tuple g
  have v:=r'.length;exact len_tuple pl (by simp only [aaY] <;> lia) ⟨.int ys.length,H,I.tok _,⟨s.toks+1,by grind⟩,q⟩
theorem um:bG X (.builtin "len") (fun xs H Q=>∃ z,xs=[.str z]/\z.length<=RW/\Q (.int z.length) H):=by
 intro g s σ H xs us Q I r h;obtain ⟨z,rfl,hz,q⟩:=h;obtain ⟨u,rfl,t,rfl⟩:=gG r;have hn:=mP;exact len_str (by lia) ⟨.int z.length,H,I.tok _,⟨_,rfl⟩,q⟩
def bG.or (h:bG X f r) (h':bG X f r'):bG X f (fun xs H Q=>r xs H Q\/r' xs H Q):=by
 intro u s σ H xs us Q I g q;rcases q with q|q
 .exact h u s σ H xs us Q I g q
 .exact h' u s σ H xs us Q I g q
theorem uF:bG X (.type "list") (fun xs H Q=>∃ p ys,xs=[.ref p]/\(e8 X.K H p ys\/g6 X.K H p ys)/\∀ l,H l=ξ->Q (.ref l) (upd H l (.lst ys))):=by
 intro af s σ H xs us Q I r h;obtain ⟨p,ys,rfl,z,q⟩:=h;obtain ⟨u,rfl,Z⟩:=gG r;cases Z;have fin:∀ (its:afU),ba ys its->ys.length<=RW->∀ (h':acV) (g:Nat),(∀ b Y,s.heap.get? b=θ Y->h'.get? b=θ Y) ->
   h'.get? s.heap.objs.size=θ { cls:=.type "list",dict:=ξ,data:=.seq its.toArray g,slots:=#[] }->EP X af σ Q (.ref s.heap.objs.size) { s with heap:=h' }:=fun its v hz h' g kp e =>
  ⟨.ref s.heap.objs.size,_,I.laid kp (nE _) (show c7 X.prog X.w _ h' _ (.lst ys) from ⟨hz,its,g,v,e⟩),rfl,q _ (I.hok.fresh (nE _))⟩
 rcases z with z|z
 .let ⟨its,v,pl,hz⟩:=I.list z
  have C:=v.length;obtain ⟨o,J,M,n,L⟩:=pl.isList;exact call_list_seq p (.inl rfl) J M L (fun h' g kp e=>fin its v hz h' g kp e) (by grind)
 .let ⟨its,v,pl,hz⟩:=I.tuple z
  have C:=v.length;let ⟨o,J,M,n,L⟩:=pl
  exact call_list_seq p (.inr rfl) J M L (fun h' g kp e=>fin its v hz h' g kp e) (by simp_all)
def rO:bG X (.type "tuple") (fun xs H Q=>∃ p ys,xs=[.ref p]/\((e8 X.K H p ys/\∀ l,H l=ξ->Q (.ref l) (upd H l (.tup ys)))\/(g6 X.K H p ys/\Q (.ref p) H))):=by
 intro J s σ H xs us Q I r h;obtain ⟨p,ys,rfl,h⟩:=h;obtain ⟨u,rfl,C⟩:=gG r;cases C;rcases h with ⟨g,q⟩|⟨g,q⟩
 .let ⟨its,r',pl,hz⟩:=I.list g
  have v:=r'.length;refine call_tuple_list pl.isList (fun h' kp=>?_) (by simp_all);have I1  := I.kept kp;have z:Inv X J σ (upd H h'.objs.size (.tup ys)) { s with heap:=h'.push { cls:=.type "tuple",data:=.seq its.toArray } } :=
   I1.laid (fun b o e=>eQ _ e) (nE _) ((⟨hz,its,r',IsTup.new _ _⟩))
  exact ⟨.ref h'.objs.size,_,z,rfl,q _ (I1.hok.fresh (nE _))⟩
 .let ⟨its,r',pl,hz⟩:=I.tuple g
  exact call_tuple_same pl ⟨.ref p,H,I,rfl,q⟩
def UI (K:aT) (T:String) (x:V) (H:Hp):Prop:=match x with
 | .str _=>T="str"
 | .int _=>T="int"
 | .ref p=>(T="list"/\∃ xs,e8 K H p xs)\/(T="tuple"/\∃ o,K.lookup p=θ o/\o.cls=.type "tuple"/\o.dict=ξ) \/
   (T="dict"/\((∃ g,H p=θ (.dK g))\/∃ g,H p=θ (.dT g)))\/(T="set"/\∃ S n,H p=θ (.set S n))
 | _=>False
theorem Hg {σ:St} (I:Inv X af σ H s) (r:aX x v) (C:UI X.K T x H) :
  s.TypeIs v T/\∀ a,v=.ref a->∃ ob,s.heap.get? a=θ ob/\ob.dict=ξ:=by
 cases x with
 | str z =>
  obtain ⟨t,rfl⟩:=r;cases ((C));exact ⟨typeIs_str s z t,fun _ e=>nomatch e⟩
 | int i =>
  obtain ⟨t,rfl⟩:=r;cases ((C));exact ⟨typeIs_int s i t,fun _ e=>nomatch e⟩
 | ref p =>
  cases r;rcases C with ⟨rfl,xs,Y⟩|⟨rfl,o,g,Z,L⟩|⟨rfl,g⟩|⟨rfl,S,n,g⟩
  .let ⟨its,_,pl,_⟩:=I.list Y
   refine ⟨pl.isList.typeIs,fun a e=>?_⟩;cases e;let ⟨o,n,e,c,L,_⟩:=pl
   exact ⟨o,e,L⟩
  .refine ⟨⟨o,I.kIn p o g,Z⟩,fun a e=>?_⟩;cases e;exact ⟨o,I.kIn _ o g,L⟩
  .have z:∃ o,s.heap.get? p=θ o/\o.ExactDict:=by
    rcases g with ⟨M,g⟩|⟨M,g⟩
    .obtain ⟨_,_,_,_,o,_,_,e,u,_⟩:=I.hok p _ g;exact ⟨o,e,u⟩
    .obtain ⟨_,_,_,_,o,_,_,e,u,_⟩:=I.hok p _ g;exact ⟨o,e,u⟩
   let ⟨o,e,u⟩:=z
   refine ⟨⟨o,e,u.1⟩,fun a J=>?_⟩;cases J;exact ⟨o,e,u.2.1⟩
  .obtain ⟨o,_,_,_,e,u,_⟩:=I.hok p _ g;refine ⟨⟨o,e,u.1⟩,fun a J=>?_⟩;cases J;exact ⟨o,e,u.2.1⟩
 | _=>exact abZ C
def SD (K:aT) (T:String) (r:V->afV->Hp->VK->Prop) (g:TE):TE:=fun σ H Q=>g σ H fun x H1=>UI K T x H1/\r x [] H1 Q
def XE (K:aT) (T:String) (r:V->afV->Hp->VK->Prop) (g:TE) (t:TA):TE:=fun σ H Q=>g σ H fun x H1=>UI K T x H1/\t σ H1 fun xs u=>r x xs u Q
variable {apos cpos:Pos} {id:String}
def M3 (M:PlainAttrs T) (z:Slot T name id) (C:typeOf (.builtin id)=pure (.type "method_descriptor")) (Y:UL X id r) (L:PE X o to)
  (g:abg o name X.env (eval o X.env)=eval o X.env:=by rfl) (u:(apos.endLine==cpos.line)=ζ:=by rfl):PE X (.Call (.Attribute o name apos) [] [] cpos) (SD X.K T r to):=by
 intro J s σ H Q I h;refine wpAny_Call_method0_late g u (bT (L J s σ H _ I h) fun v s1 ⟨x,H1,I1,r1,ty,q1⟩=>?_);let ⟨h1,h2⟩:=Hg I1 r1 ty
 exact ⟨T,id,M,z,C,h1,h2,ab4 rfl (aeX (Y J s1 σ H1 x [] v [] Q I1 r1 .nil q1))⟩
theorem Ry (Z:PlainAttrs T) (C:Slot T name id) (L:typeOf (.builtin id)=pure (.type "method_descriptor")) (hm:UL X id r) (Y:PE X o to) (ha:PA X (e::es) t)
  (g:abg o name X.env (eval o X.env)=eval o X.env:=by rfl)
  (z:((acL cpos (aa2 (e::es) X.env)).all (fun x=>!x.1)&&(backToKw cpos (adj [] X.env)).all (fun x=>x.1.isSome)
   && decide ((e::es).length+([]:List adv).length+(if ([]:List adv).isEmpty then 0 else 1) < 30))=ζ:=by rfl)
  (u:(apos.endLine==cpos.line)=ζ:=by rfl) (hs:aa2 (e::es) X.env=(η,eval e X.env)::aa2 es X.env:=by rfl) (J:(acL cpos (aa2 es X.env)).any (·.1)=η:=by rfl) :
  PE X (.Call (.Attribute o name apos) (e::es) [] cpos) (XE X.K T r to t):=by
 intro M s σ H Q I h;refine wpAny_Call_method_late g z u rfl (bT (Y M s σ H _ I h) fun v s1 ⟨x,H1,I1,r1,ty,q1⟩=>?_);let ⟨h1,h2⟩:=Hg I1 r1 ty
 refine ⟨T,id,Z,C,L,h1,h2,?_⟩;have hA:=ha cpos M s1 σ H1 _ I1 q1;rw [hs] at hA ⊢;refine ab4 (by grind) (ac7 ?_);exact bT hA fun us s2 hh=>ji hh fun vs H2 I2 r2 q2=>hm M s2 σ H2 x vs v us Q I2 r1 r2 q2
end
def ZN (X:Cx) (id:String) (r:V->afV->Hp->VK->Prop):Prop :=
 ∀ (g:afQ) (s:DO) (σ:St) (H:Hp) (x:V) (xs:afV) (v:oR) (us:afU) (Q:VK),Inv X g σ H s->aX x v->ba xs us->r x xs H Q ->
  aaN (aaV X.prog X.w) X.A (call (.builtin id) (v::us)) (EP X g σ Q) X.xe s
def ba.one:∀ {x:V} {us:afU},ba [x] us->∃ u,us=[u]/\aX x u
 | _,_,.cons r .nil=>⟨_,rfl,r⟩
def ba.zero:∀ {us:afU},ba [] us->us=[]
 | _,.nil=>rfl
def ba.reverse (h:ba xs us):ba xs.reverse us.reverse:=by
 induction h with
 | nil=>exact .nil
 | cons r t g=>rw [ac4,ac4];exact ba.append g (.cons r .nil)
section
variable {σ:St}
def Inv.lset {its its':afU} (I:Inv X af σ H s) (v:H l=θ (.lst xs))
  (e:s.heap.get? l=θ { cls:=.type "list",data:=.seq its.toArray n }) (z:f its.toArray=its'.toArray) (r:ba ys its') (hz:ys.length<=RW) (C:X.tn<=t':=by walk_at "tok") :
  Inv X af σ (upd H l (.lst ys)) { s with heap:=s.heap.update l (abe f),toks:=t' }:=by
 have q:=afv e f;rw [z] at q;refine I.write (by rw [v];exact trivial) (.inl rfl) (fun J u hb g=>(ab5 s.heap (abe f) (acR hb)).trans g) ⟨_,q⟩ ?_;exact ⟨hz,its',_,r,q⟩
def Inv.lnew (I:Inv X af σ H s) (g:ba ys its) (hz:ys.length<=RW) (r:X.tn<=t':=by walk_at "tok") :
  Inv X af σ (upd H s.heap.objs.size (.lst ys)) { s with heap:=s.heap.push { cls:=.type "list",data:=.seq its.toArray },toks:=t' } :=
 I.laid (fun _ _ q=>eQ _ q) (nE _) ⟨hz,its,0,g,Do _ rfl⟩
def Inv.fresh (I:Inv X af σ H s):H s.heap.objs.size=ξ:=I.hok.fresh (nE _)
def Inv.lstM (I:Inv X af σ H s) (g:H l=θ (.lst xs)):xs.length<=RW/\∃ (its:afU) (n:Nat),ba xs its/\xs.length=its.length/\s.heap.get? l=θ { cls:=.type "list",data:=.seq its.toArray n }:=by
 obtain ⟨z,its,n,r,e⟩:=I.hok l _ g;exact ⟨z,its,n,r,r.length,e⟩
end
section
def tT:V->afV->Hp->VK->Prop:=fun x vs H Q=>∃ l xs y,x=.ref l/\vs=[y]/\H l=θ (.lst xs)/\xs.length < RW/\Q .non (upd H l (.lst (xs++[y])))
theorem sr:ZN X "list.append" tT:=by
 intro L s σ H x vs v us Q I C J h;obtain ⟨l,xs,y,rfl,rfl,g,hz,q⟩:=h;cases C;obtain ⟨u,rfl,ru⟩:=J.one;let ⟨z,its,n,r,hl,e⟩:=I.lstM g
 refine call_meets F.slot_list_append ⟨_,e,rfl⟩ F.entry_list_append (F.args_list_append_2 _ _) (PySem.list_append l its.toArray n u (by grind)) ⟨e,?_⟩;refine ⟨.non,_,I.lset g e (by simp) (r.append (.cons ru .nil)) ?_,rfl,q⟩
 grind
def Fe:V->afV->Hp->VK->Prop:=fun x vs H Q=>∃ l xs,x=.ref l/\vs=[]/\H l=θ (.lst xs)/\Q .non (upd H l (.lst []))
theorem DU:ZN X "list.clear" Fe:=by
 intro L s σ H x vs v us Q I C J h;obtain ⟨l,xs,rfl,rfl,u,q⟩:=h;cases C;have g:=J.zero;subst g;obtain ⟨z,its,n,r,hl,e⟩:=I.lstM u;refine call_meets F.slot_list_clear ⟨_,e,rfl⟩ F.entry_list_clear (F.args_list_clear_1 _) (AutoSeq1.list_clear_list_0 l its.toArray n (by rw [aaY];lia)) ⟨e,?_⟩;exact ⟨.non,_,I.lset (its':=[]) (ys:=[]) u e rfl .nil (aaQ _),rfl,q⟩
end
section
set_option maxRecDepth 100000 in
end
section
variable {κ:Type} [DecidableEq κ]
def iu (g:List (κ×V)) (k:κ):Option V:=(g.find? fun r=>decide (r.1=k)).map (·.2)
noncomputable def jj (g:List (κ×V)) (k:κ) (v:V):List (κ×V) :=
 if (g.any fun r=>decide (r.1=k))=ζ then g.map (fun r=>if r.1=k then (r.1,v) else r) else g++[(k,v)]
def iA (g:List (κ×V)) (k:κ):List (κ×V):=g.filter fun r=>decide (r.1≠k)
theorem mC {p:κ×V} {r:List (κ×V)} {k:κ} (e:p.1=k):iu (p::r) k=θ p.2:=by simp [iu,abl,e]
def mB {p:κ×V} (e:¬ p.1=k):iu (p::r) k=iu r k:=by simp [iu,abl,e]
theorem pS (k:κ):∀ kvs:List (κ×V),(kvs.any fun g=>decide (g.1=k))=(iu kvs k).isSome
 | []=>rfl
 | p::r=>by
  rw [ae7];by_cases e:p.1=k
  .simp only [mC e,afL e,Bool.true_or,Option.isSome_some]
  .rw [mB e,afK e];exact pS k r
theorem jA (g:List (κ×V)) (k:κ) (v:V):(jj g k v).length<=g.length+1:=by
 unfold jj
 grind
def kM.isSome_eq (r:kM o u):o.isSome=u.isSome:=by
 cases o with
 | none=>cases u with
  | none=>rfl
  | some _=>exact ((r)).elim
 | some _=>cases u with
  | none=>exact ((r)).elim
  | some _=>rfl
def kM.getD (r:kM o u) (rd:aX d d'):aX (o.getD d) (u.getD d'):=by
 cases o with
 | none=>cases u with
  | none=>exact rd
  | some _=>exact ((r)).elim
 | some _=>cases u with
  | none=>exact ((r)).elim
  | some _=>exact r
def KV.val (r:KV kvs vs) (k:κ):kM (iu kvs k) (valueAt vs k):=by
 induction r with
 | nil=>exact aa9
 | @cons p q ps qs h t ih =>
  let ⟨h1,h2⟩:=h
  by_cases e:p.1=k
  .have e'  := h1.symm.trans e;have b:valueAt (q::qs) k=θ q.2:=by simp [valueAt,abl,e']
   rw [mC e,b];exact h2
  .have e':¬ q.1=k:=fun z=>e (h1.trans z);have b:valueAt (q::qs) k=valueAt qs k:=by simp [valueAt,abl,e']
   rw [mB e,b];exact ih
def KV.any (r:KV kvs vs) (k:κ):(kvs.any fun g=>decide (g.1=k))=vs.any fun g=>decide (g.1=k):=by
 induction r with
 | nil=>rfl
 | cons h t u=>simp_all
def KV.repl (r:KV kvs vs) (k:κ) (v:aX y u) :
  KV (kvs.map fun g=>if g.1=k then (g.1,y) else g) (vs.map fun g=>if g.1=k then (g.1,u) else g):=by
 induction r with
 | nil=>exact .nil
 | @cons p q ps qs h t ih =>
  refine .cons ?_ ih;by_cases e:p.1=k
  .simp_all
  simp_all
def KV.put (r:KV kvs vs) (k:κ) (g:aX y u):KV (jj kvs k y) (stored vs k u):=by
 unfold jj stored;rw [r.any k];by_cases e:(vs.any fun v=>decide (v.1=k))=ζ
 .rw [afI e,afI e];exact r.repl k g
 .rw [afJ e,afJ e];exact Paired.snoc r ⟨rfl,g⟩
def KV.drop (r:KV kvs vs) (k:κ):KV (iA kvs k) (without vs k):=by
 unfold iA without;induction r with
 | nil=>exact .nil
 | @cons p q ps qs h t ih =>
  let ⟨h1,h2⟩:=h
  rw [ace,ace];by_cases e:p.1=k
  .simp_all
  .have e':¬ q.1=k:=fun z=>e (h1.trans z);have a:decide (p.1≠k)=ζ:=by simp [e]
   have b:decide (q.1≠k)=ζ:=by simp [e']
   rw [afI a,afI b];exact .cons ⟨h1,h2⟩ ih
theorem KV.length {g:List (κ×V)} (r:KV g vs):g.length=vs.length:=aek r
def Fy (g:List (κ×V)) (k:κ):(iA g k).length<=g.length:=abv _ _
end
def nU (r:aX (kV k) u):(bA P w).is k u=ζ:=by
 cases k with
 | inl i=>obtain ⟨t,e⟩:=((r));subst e;exact u7 P w i t
 | inr x=>let ⟨t,e⟩:=((r));subst e;exact u8 P w x t
 | nn=>have e  := r;subst e;rfl
theorem sk:∀ {ks:List Key} {us:afU},ba (ks.map kV) us->ItemsAre (bA P w) ks us
 | [],_,r=>by cases r;exact .nil
 | k::ks,_,r=>by
  cases r with
  | cons h t=>exact .cons (nU h) (sk t)
abbrev KT (H:Hp):List (List Key×V)->List (List Key×aa3×oR)->Prop:=Paired fun p q=>p.1=q.1/\H q.2.1=θ (.tup (p.1.map kV))/\aX p.2 q.2.2
def KT.val (r:KT H kvs xs) (k:List Key):kM (iu kvs k) ((atKey xs k).map (·.2)):=by
 induction r with
 | nil=>exact aa9
 | @cons p q ps qs h t ih =>
  let ⟨h1,_,h2⟩:=h
  by_cases e:p.1=k
  .have e'  := h1.symm.trans e;have b:atKey (q::qs) k=θ q.2:=by simp [atKey,abl,e']
   rw [mC e,b];exact h2
  .have e':¬ q.1=k:=fun z=>e (h1.trans z);have b:atKey (q::qs) k=atKey qs k:=by simp [atKey,abl,e']
   rw [mB e,b];exact ih
def KT.repl (r:KT H kvs xs) (k:List Key) (v:aX y u) :
  KT H (kvs.map fun g=>if g.1=k then (g.1,y) else g) (xs.map (putAt k u)):=by
 induction r with
 | nil=>exact .nil
 | @cons p q ps qs h t ih =>
  refine .cons ?_ ih;unfold putAt;by_cases e:p.1=k
  .simp_all
  simp_all
def KT.put (r:KT H kvs xs) (k:List Key) (hb:H b=θ (.tup (k.map kV))) (g:aX y u) :
  KT H (jj kvs k y) (storedH xs k b u):=by
 have e:(kvs.any fun v=>decide (v.1=k))=(atKey xs k).isSome:=by
  rw [pS,(r.val k).isSome_eq,acG]
 unfold jj storedH;rw [e];by_cases q:(atKey xs k).isSome=ζ
 .rw [afI q,afI q];exact r.repl k g
 .rw [afJ q,afJ q];exact Paired.snoc r ⟨rfl,hb,g⟩
def KT.keeps (r:KT H kvs xs) (g:∀ b ys,H b=θ (.tup ys)->H' b=θ (.tup ys)):KT H' kvs xs :=
 Paired.mapP r fun _ _ z=>⟨z.1,g _ _ z.2.1,z.2.2⟩
section
def MQ (ok:lg P w H h) (e:Rd H a u):c7 P w H h a u:=e.ok ok
def n5 (ok:lg P w H h) (e:Rd H a (.dK kvs)):kvs.length<=RW/\(a==ab0)=η/\∃ vs,KV kvs vs/\h.DictOf (bA P w) a vs :=
 (MQ ok e)
def GZ (ok:lg P w H h) (e:H a=θ (.dK kvs)):kvs.length<=RW/\(a==ab0)=η/\∃ vs,KV kvs vs/\h.DictOf (bA P w) a vs:=n5 ok (.inl e)
def nu (ok:lg P w H h) (e:H a=θ (.tup (ks.map kV))):(tupleKind (bA P w)).is h ks a:=by
 obtain ⟨_,its,r,o,h1,h2,n,g⟩:=((ok a _ e));exact ⟨o,its.toArray,n,h1,h2,g,by simpa using sk r⟩
theorem qJ (ok:lg P w H h) (e:Rd H a (.dT kvs)):kvs.length<=RW/\(a==ab0)=η /\
  ∃ xs,KT H kvs xs/\h.DictOfH (tupleKind (bA P w)) a xs:=by
 obtain ⟨z,y,xs,r,o,es,v,h1,h2,I,C,u⟩:=((MQ ok e));refine ⟨z,y,xs,r,o,es,v,h1,h2,I,C,fun x g=>?_,u⟩;have all:∀ {l:List (List Key×V)} {m:List (List Key×aa3×oR)},KT H l m->∀ x∈m,(tupleKind (bA P w)).is h x.1 x.2.1:=by
  intro l m q;induction q with
  | nil=>grind
  | @cons p q ps qs hq t ih =>
   intro x g;rcases mK.mp g with e|g
   .exact nu ok (by simp_all)
   .exact ih x g
 exact all r x g
def RL (ok:lg P w H h) (e:H a=θ (.dT kvs)):kvs.length<=RW/\(a==ab0)=η /\
  ∃ xs,KT H kvs xs/\h.DictOfH (tupleKind (bA P w)) a xs:=qJ ok (.inl e)
end
def mf (H:Hp) (a:aa3) (y:V) (r:Option V):Prop :=
 (∃ g k,Rd H a (.dK g)/\y=kV k/\r=iu g k)\/∃ g k b,Rd H a (.dT g)/\y=.ref b/\H b=θ (.tup (k.map kV))/\r=iu g k
def Ln (H:Hp) (a:aa3) (y v:V) (H':Hp):Prop :=
 (∃ g k,H a=θ (.dK g)/\y=kV k/\g.length < RW/\H'=upd H a (.dK (jj g k v))) \/
 ∃ g k b,H a=θ (.dT g)/\y=.ref b/\H b=θ (.tup (k.map kV))/\g.length < RW/\H'=upd H a (.dT (jj g k v))
def Ln.k {k:Key} (e:H a=θ (.dK kvs)) (hl:kvs.length < RW):Ln H a (kV k) v (upd H a (.dK (jj kvs k v))):=.inl ⟨kvs,k,e,rfl,hl,rfl⟩
section
variable {σ:St}
def Inv.big (I:Inv X af σ H s):ab0 < s.heap.objs.size:=by
 have h  := (I.mod.glob.keeps I.bk).lt;exact Nat.lt_trans (by decide) h
theorem BU (Z:A.units+1 < adu) (I:Inv X af σ H s) (g:mf H a y (θ v)) (Y:aX y u) (h:∀ C M,Inv X af σ H M->aX v C->Q C M) :
  aaN (aaV X.prog X.w) A (aea (.ref a) u) Q E s:=by
 rcases g with ⟨J,k,e,L,l⟩|⟨J,k,b,e,L,eb,l⟩
 .subst L;let ⟨z,hd,vs,rel,dd⟩:=n5 I.hok e
  obtain ⟨C,hw,r⟩:=kM.some_of (by rw [l];exact rel.val k);exact wpAny_getItem_of (nU Y) dd.mapOf hw (h C _ (I.tok _) r)
 .subst L;cases ((Y));let ⟨z,hd,xs,rel,dd⟩:=qJ I.hok e
  obtain ⟨C,hw,r⟩:=kM.some_of (by rw [l];exact rel.val k);let ⟨p,hp,hp2⟩:=iF.mp hw
  refine wpAny_getItem_heap (acW Z) (nu I.hok eb) dd hp ?_;rw [hp2];exact h C _ (I.tok _) r
def Xu (L:A.units+1 < adu) (I:Inv X af σ H s) (g:mf H a y o) (J:aX y u) (h:∀ C,Inv X af σ H C->Q (.bool o.isSome) C) :
  aaN (aaV X.prog X.w) A (aa1 .In u (.ref a)) Q E s:=by
 rcases g with ⟨r,k,e,v,l⟩|⟨r,k,b,e,v,M,l⟩
 .subst v;let ⟨z,hd,vs,rel,dd⟩:=n5 I.hok e
  refine wpAny_in_of (nU J) hd dd.mapOf ?_;rw [<- (rel.val k).isSome_eq,<- l];exact h _ (I.tok _)
 .subst v;cases ((J));let ⟨z,hd,xs,rel,dd⟩:=qJ I.hok e
  refine wpAny_in_heap (acW L) (nu I.hok M) hd dd ?_;have q:=(rel.val k).isSome_eq;rw [acG] at q;rw [<- q,<- l];exact h _ (I.tok _)
def KP (L:A.units+1 < adu) (I:Inv X af σ H s) (g:mf H a y o) (J:aX y u) (h:∀ C,Inv X af σ H C->Q (.bool (!o.isSome)) C) :
  aaN (aaV X.prog X.w) A (aa1 .NotIn u (.ref a)) Q E s:=by
 rcases g with ⟨r,k,e,v,l⟩|⟨r,k,b,e,v,M,l⟩
 .subst v;let ⟨z,hd,vs,rel,dd⟩:=n5 I.hok e
  refine wpAny_notIn_of (nU J) hd dd.mapOf ?_;rw [<- (rel.val k).isSome_eq,<- l];exact h _ (I.tok _)
 .subst v;cases ((J));let ⟨z,hd,xs,rel,dd⟩:=qJ I.hok e
  refine wpAny_notIn_heap (acW L) (nu I.hok M) hd dd ?_;have q:=(rel.val k).isSome_eq;rw [acG] at q;rw [<- q,<- l];exact h _ (I.tok _)
def oO (I:Inv X af σ H s) (g:UX (H a)) (hs:aby a s.heap h') (r:∃ q,h'.get? a=θ q) (new:c7 X.prog X.w (upd H a ob) h' a ob) (u:X.tn<=t':=by walk_at "tok") :
  Inv X af σ (upd H a ob) { s with heap:=h',toks:=t' } :=
 I.write g (.inl rfl) (fun b q hb z=>(hs.2 b hb).trans z) r new
def tG (z:kvs.length<=RW) (u:(a==ab0)=η) (g:KV kvs vs) (r:h'.DictOf (bA P w) a vs) :
  c7 P w H' h' a (.dK kvs):=⟨z,u,vs,g,r⟩
theorem A6 (hu:A.units+1 < adu) (I:Inv X af σ H s) (g:Ln H a y v H') (ry:aX y u) (rv:aX v r) (h:∀ Y,Inv X af σ H' Y->Q () Y) :
  aaN (aaV X.prog X.w) A (setItem (.ref a) u r) Q E s:=by
 rcases g with ⟨C,k,e,L,l,M⟩|⟨C,k,b,e,L,eb,l,M⟩
 .subst L M;let ⟨z,hd,vs,rel,dd⟩:=GZ I.hok e
  have hz:vs.length<=RW:=by rw [<- rel.length];exact z
  have hl:(jj C k v).length<=RW:=by have:=jA C k v;lia
  refine wpAny_setItem_pairs (hsz:=hz) (nU ry) dd fun h' J hs=>h _ ?_;have he:∃ q,h'.get? a=θ q:=let ⟨q,_,_,hq,_⟩:=J;⟨q,hq⟩;exact oO I (by rw [e];exact aa9) hs he (tG hl hd (rel.put k rv) J)
 .subst L M;cases (show u=acw b from ry);let ⟨z,hd,xs,rel,dd⟩:=RL I.hok e
  have hz:xs.length<=RW:=by rw [<- aek rel];exact z
  have hl:(jj C k v).length<=RW:=by have:=jA C k v;lia
  refine wpAny_setItem_heap (acW hu) (nu I.hok eb) dd fun h' J hs=>h _ ?_;let ⟨q,es,ep,hq,h2,h3,h4,_,h5⟩:=J
  refine oO I (by rw [e];exact aa9) hs ⟨q,hq⟩ ⟨hl,hd,_,(rel.put k eb rv).keeps fun c ys Z=>?_,q,es,ep,hq,h2,h3,h4,h5⟩;rw [aF (Wo Z e (fun z=>nomatch z))]
  exact Z
end
section
variable {σ:St}
def V3 (I:Inv X af σ H s) (e:H a=θ (.dK kvs)) (C:aX (kV k) u) (l:iu kvs k=θ v) (L:more=[]\/∃ x,more=[x])
  (h:∀ r J,Inv X af σ (upd H a (.dK (iA kvs k))) J->aX v r->Q r J):aaN (aaV X.prog X.w) A (call (.builtin "dict.pop") (.ref a::u::more)) Q E s:=by
 let ⟨z,hd,vs,rel,dd⟩:=GZ I.hok e
 let ⟨r,hw,rw'⟩:=kM.some_of (v:=v) (o:=valueAt vs k) (by rw [<- l];exact rel.val k)
 have M:(keyPart u).isSome=ζ:=by
  cases k with
  | inl i=>let ⟨t,q⟩:=(show ∃ t,u=Value.int i t from C);subst q;rfl
  | inr x=>let ⟨t,q⟩:=(show ∃ t,u=Value.str x t from C);subst q;rfl
  | nn=>have q:u=.none:=C;subst q;rfl
 have Z:argsOk "dict.pop" ⟨.ref a::u::more,[]⟩:=by
  rcases L with q|⟨x,q⟩
  .subst q;exact PySem.F.args_dict_pop_2 _ _
  .subst q;exact PySem.F.args_dict_pop_3 _ _ _
 refine call_meetsIn aeC dd.typeIs PySem.F.entry_dict_pop Z (meets_dict_pop_there (bA X.prog X.w) a (nU C) more L M)
  ⟨vs,r,dd,by rw [<- rel.length];exact z,hw,fun h' g hs=>h r _ ?_ rw'⟩
 have Y:∃ q,h'.get? a=θ q:=let ⟨q,_,_,hq,_⟩:=g;⟨q,hq⟩;exact oO I (by rw [e];exact aa9) hs Y (tG (Le (Fy kvs k) z) hd (rel.drop k) g)
end
def EF (i:abu):Prop:=∀ ov g,subscripted i η ov g=operate [ov,g] (aea ov g)
def zS {T id:String}
  (hl:typeLookup (.type T) "__getitem__"=pure (θ (.builtin id))) (hs:EF slice)
  (h:aaN (aaV prog w) A (eval value env) (fun o v=>aaN (aaV prog w) A (eval slice env) (fun i s₂=>s₂.TypeIs o T/\aaN (aaV prog w) A (aea o i) Q E s₂) E v) E s) :
  aaN (aaV prog w) A (eval (.Subscript value slice pos) env) Q E s:=by
 refine Subscript_ (abn h (fun o v C=>abn C (fun i s₂ g=>?_) fun _ _ x=>x) fun _ _ x=>x);let ⟨hT,g⟩:=g
 refine dO ?_;refine dO (wpAny_specialOf hT hl ?_);have fin:aaN (aaV prog w) A (subscripted slice η o i) (fun r u=>aaN (aaV prog w) A (letTemporaryGo value o r >>= fun _=>pure r) Q E u) E s₂:=by
  rw [hs o i];exact wpAny_operating (abn g (fun r u z=>dO (wpAny_letTemporaryGo (rW z))) fun _ _ x=>x)
 first
  | exact rW (dO fin)
  | lia
  | lia
def vS {σ:St} (I:Inv X af σ H s) (g:mf H a y o):s.TypeIs (.ref a) "dict":=by
 rcases g with ⟨r,k,e,_,_⟩|⟨r,k,b,e,_,_,_⟩
 .let ⟨_,_,vs,_,dd⟩:=n5 I.hok e
  exact dd.typeIs
 .let ⟨_,_,xs,_,dd⟩:=qJ I.hok e
  exact dd.typeIs
def VO (u r:TE):TE:=fun σ H Q=>u σ H fun x H1=>r σ H1 fun y g=>∃ a v,x=.ref a/\mf g a y (θ v)/\Q v g
section
def HW (L:X.A.units+1 < adu) (C:PE X o td) (J:PE X i ty) (hs:EF i):PE X (.Subscript o i pos) (VO td ty):=by
 intro z s σ H Q I h;refine zS ad7.lookup hs (bT (C z s σ H _ I h) fun u s1 ⟨x,H1,I1,rx,q1⟩=>bT (J z s1 σ H1 _ I1 q1) fun iv s2 ⟨y,H2,I2,ry,a,v,ex,g,q2⟩=>?_);subst ex;obtain rfl:u=acw a:=rx;exact ⟨vS I2 g,BU L I2 g ry fun Z Y M r=>⟨v,H2,M,r,q2⟩⟩
end
def wf (h:acV) (hb:ab0 < h.objs.size):c7 P w H (h.push { cls:=.type "dict",data:=.dict #[] }) h.objs.size (.dK []) :=
 ⟨aaQ _,beq_eq_false_iff_ne.mpr (acR (aa0 hb)),[],.nil,Heap.DictOf.new h⟩
def E6:TE:=fun _ H Q=>∀ p,H p=ξ->Q (.ref p) (upd H p (.dK []))
section
def C8:PE X (.Dict [] [] pos) E6:=fun g s σ H Q I h =>
 wpAny_Dict_empty ⟨.ref s.heap.objs.size,_,I.laid (fun _ _ q=>eQ _ q) (nE _) (wf s.heap I.big),rfl,h _ (I.hok.fresh (nE _))⟩
end
def ue:List (TE×TE)->St->Hp->(List (V×V)->Hp->Prop)->Prop
 | [],_,H,Q=>Q [] H
 | (tk,tv)::r,σ,H,Q=>tk σ H fun x H1=>tv σ H1 fun y u=>ue r σ u fun ps g=>Q ((x,y)::ps) g
abbrev VV:List (V×V)->List (oR×oR)->Prop:=Paired fun p q=>aX p.1 q.1/\aX p.2 q.2
def SK (X:Cx) (pos:Pos) (r:List (Option abu)) (g:List abu) (xM:List (TE×TE)):Prop :=
 ∀ (u:afQ) (s:DO) (σ:St) (H:Hp) (Q:List (V×V)->Hp->Prop),Inv X u σ H s->ue xM σ H Q ->
  aaN (aaV X.prog X.w) X.A (evalPairs (pairTrees r g X.env pos)) (fun vs v=>∃ ps H',Inv X u σ H' v/\VV ps vs/\Q ps H') X.xe s
def IA:SK X pos [] [] []:=fun g s σ H Q I h=>pairTrees_nil_walk ⟨[],H,I,.nil,h⟩
def EY (r:PE X k tk) (z:PE X v tv) (hr:SK X pos ks vs xM) :
  SK X pos (θ k::ks) (v::vs) ((tk,tv)::xM):=fun g s σ H Q I h =>
 pairTrees_cons_walk (bT (r g s σ H _ I h) fun u s1 ⟨x,H1,I1,rx,q1⟩=>bT (z g s1 σ H1 _ I1 q1) fun w2 s2 ⟨y,H2,I2,ry,q2⟩ =>
  bT (hr g s2 σ H2 _ I2 q2) fun ws s3 ⟨ps,H3,I3,rel,q3⟩=>⟨(x,y)::ps,H3,I3,.cons ⟨rx,ry⟩ rel,q3⟩)
def m8 (r g:List (Key×V)):List (Key×V):=g.foldl (fun u v=>jj u v.1 v.2) r
def KV.merge:∀ {u:List (Key×V)} {v:List (Key×oR)} {g:List (Key×V)} {vs:List (Key×oR)},KV u v->KV g vs->KV (m8 g u) (merged vs v):=by
 intro u v g vs r;induction r generalizing g vs with
 | nil=>intro q;exact q
 | @cons p q ps qs h t ih =>
  intro r0;have e:KV (jj g p.1 p.2) (stored vs q.1 q.2):=by
   have:=r0.put p.1 h.2
   rw [<- h.1];exact this
  exact ih e
theorem kC:∀ (u g:List (Key×V)),(m8 g u).length<=g.length+u.length
 | [],g=>by show g.length<=g.length+0;lia
 | p::r,g=>by
  have h1:=kC r (jj g p.1 p.2);have h2:=jA g p.1 p.2;show (m8 (jj g p.1 p.2) r).length<=_;rw [aaU];lia
theorem pK:∀ {g:List (Key×V)} {ws:List (oR×oR)},VV (g.map fun v=>(kV v.1,v.2)) ws->∃ u,Carries (bA P w) ws u/\KV g u
 | [],_,r=>by cases r;exact ⟨[],aa9,.nil⟩
 | p::g,_,r=>by
  cases r with
  | @cons a b as bs h t =>
   obtain ⟨u,c,q⟩:=pK t;obtain ⟨C,z⟩:=b;exact ⟨(p.1,z)::u,⟨nU h.1,rfl,c⟩,.cons ⟨rfl,h.2⟩ q⟩
def Ww (xM:List (TE×TE)):TE:=fun σ H Q=>∀ p,H p=ξ->ue xM σ (upd H p (.dK [])) fun ps r=>r p=θ (.dK [])/\∃ kvs:List (Key×V),ps=kvs.map (fun g=>(kV g.1,g.2))/\kvs.length<=15/\Q (.ref p) (upd r p (.dK (m8 [] kvs)))
theorem IZ (h:SK X pos keys values xM) (r:keys.all (·.isSome)=ζ) (hl:keys.length=values.length) (C:keys≠[])
  (u:keys.length<=15):PE X (.Dict keys values pos) (Ww xM):=by
 intro L s σ H Q I q;have hn:=I.hok.fresh (nE s.heap.objs.size);have v:=I.laid (fun _ _ q=>eQ _ q) (nE _) (wf s.heap I.big);refine wpAny_Dict_walk (knd:=bA X.prog X.w) r hl C u (bT (h L _ σ _ _ v (q _ hn)) fun ws s2 ⟨ps,H2,I2,rel,e,kvs,ep,lk,q2⟩=>?_);subst ep;obtain ⟨M,c,rk⟩:=pK rel;let ⟨z,hd,vs0,r0,dd⟩:=GZ I2.hok e
 cases r0;refine ⟨M,c,dd,fun h' g hs=>⟨.ref s.heap.objs.size,_,?_,rfl,q2⟩⟩;have hz:(m8 [] kvs).length<=RW:=by
  have h1:=kC kvs [];rw [adp] at h1;rw [abR];lia
 have J:∃ q,h'.get? s.heap.objs.size=θ q:=let ⟨q,_,_,hq,_⟩:=g;⟨q,hq⟩;exact oO I2 (by rw [e];exact aa9) hs J (tG hz hd (rk.merge .nil) g)
structure M1 (X:Cx) (o:abu) (m:Str) (apos:Pos) (e:abu) (cpos:Pos):Prop where
 base:abg o m X.env (eval o X.env)=eval o X.env
 few:((acL cpos (aa2 [e] X.env)).all (fun x=>!x.1)&&(backToKw cpos (adj [] X.env)).all (fun x=>x.1.isSome)
  && decide (([e]:List abu).length+([]:List adv).length+(if ([]:List adv).isEmpty then 0 else 1) < 30))=ζ
 line:(apos.endLine==cpos.line)=ζ
 trees:acL cpos (aa2 [e] X.env)=[(η,eval e X.env)]
structure M2 (X:Cx) (o:abu) (m:Str) (apos:Pos) (e f:abu) (cpos:Pos):Prop where
 base:abg o m X.env (eval o X.env)=eval o X.env
 few:((acL cpos (aa2 [e,f] X.env)).all (fun x=>!x.1)&&(backToKw cpos (adj [] X.env)).all (fun x=>x.1.isSome)
  && decide (([e,f]:List abu).length+([]:List adv).length+(if ([]:List adv).isEmpty then 0 else 1) < 30))=ζ
 line:(apos.endLine==cpos.line)=ζ
 trees:acL cpos (aa2 [e,f] X.env)=[(η,eval e X.env),(η,eval f X.env)]
def WU (H:Hp) (a:aa3):Prop:=(∃ g,Rd H a (.dK g))\/∃ g,Rd H a (.dT g)
def xu {σ:St} (I:Inv X af σ H s) (d:WU H a) :
  s.TypeIs (.ref a) "dict"/\(∀ b,acw a=.ref b->∃ ob,s.heap.get? b=θ ob/\ob.dict=ξ)/\(a==ab0)=η:=by
 rcases d with ⟨g,e⟩|⟨g,e⟩
 .let ⟨_,hd,vs,_,dd⟩:=n5 I.hok e
  refine ⟨dd.typeIs,fun b q=>?_,hd⟩;cases q;obtain ⟨ob,_,_,h1,h2,_⟩:=dd;exact ⟨ob,h1,h2.2.1⟩
 .let ⟨_,hd,xs,_,dd⟩:=qJ I.hok e
  refine ⟨dd.typeIs,fun b q=>?_,hd⟩;cases q;obtain ⟨ob,_,_,h1,h2,_⟩:=dd;exact ⟨ob,h1,h2.2.1⟩
section
variable {σ:St}
theorem N3 (Y:A.units+1 < adu) (I:Inv X af σ H s) (g:mf H a y o) (M:aX y u) (rd:aX d r) (h:∀ L J,Inv X af σ H J->aX (o.getD d) L->Q L J) :
  aaN (aaV X.prog X.w) A (call (.builtin "dict.get") [.ref a,u,r]) Q E s:=by
 rcases g with ⟨v,k,e,C,l⟩|⟨v,k,b,e,C,Z,l⟩
 .subst C;let ⟨z,hd,vs,rel,dd⟩:=n5 I.hok e
  refine call_meetsIn adK dd.typeIs aev (aem _ _ _) (meets_dict_get_default (bA X.prog X.w) a (nU M) hd r) ⟨_,dd.mapOf,h _ _ (I.tok _) ?_⟩;rw [l];exact (rel.val k).getD rd
 .subst C;cases ((M));let ⟨z,hd,xs,rel,dd⟩:=qJ I.hok e
  refine call_meetsIn adK dd.typeIs aev (aem _ _ _) (meetsH_dict_get_default (tupleKind (bA X.prog X.w)) a b hd r) ⟨acW Y,k,xs,nu I.hok Z,dd,h _ _ (I.tok _) ?_⟩;rw [l];exact (rel.val k).getD rd
end
def Qc (v r u:TE):TE:=fun σ H Q=>v σ H fun x H1=>∃ a,x=.ref a/\WU H1 a/\r σ H1 fun y C=>u σ C fun z g=>∃ o,mf g a y o/\Q (o.getD z) g
def E3 (z u:TE):TE:=fun σ H Q=>z σ H fun x H1=>∃ a,x=.ref a/\WU H1 a/\u σ H1 fun y r=>∃ g k v,r a=θ (.dK g)/\y=kV k/\iu g k=θ v/\Q v (upd r a (.dK (iA g k)))
section
theorem EB (L:X.A.units+1 < adu) (J:PE X o td) (Y:PE X e ty) (M:PE X f tx) (m:M2 X o "get" apos e f cpos):PE X (.Call (.Attribute o "get" apos) [e,f] [] cpos) (Qc td ty tx):=by
 intro v s σ H Q I h;refine wpAny_Call_method m.base m.few m.line adq adK PySem.F.type_dict_get (bT (J v s σ H _ I h) fun u s1 ⟨x,H1,I1,rx,a,ex,d,q1⟩=>?_);subst ex;obtain rfl:u=acw a:=rx;let ⟨t1,t2,_⟩:=xu I1 d
 refine ⟨t1,t2,?_⟩;rw [m.trees];refine ab4 rfl (ac7 (acT (bT (Y v s1 σ H1 _ I1 q1) fun iv s2 ⟨y,H2,I2,ry,q2⟩ =>
  acT (bT (M v s2 σ H2 _ I2 q2) fun fv s3 ⟨z,H3,I3,rz,ov,g,q3⟩=>adA ?_))))
 exact N3 L I3 g ry rz fun w' Z C r=>⟨_,H3,C,r,q3⟩
def Fn (z:PE X o td) (C:PE X e ty) (m:M1 X o "pop" apos e cpos):PE X (.Call (.Attribute o "pop" apos) [e] [] cpos) (E3 td ty):=by
 intro r s σ H Q I h;refine wpAny_Call_method m.base m.few m.line adq aeC PySem.F.type_dict_pop (bT (z r s σ H _ I h) fun u s1 ⟨x,H1,I1,rx,a,ex,d,q1⟩=>?_);subst ex;obtain rfl:u=acw a:=rx;let ⟨t1,t2,_⟩:=xu I1 d
 refine ⟨t1,t2,?_⟩;rw [m.trees];refine ab4 rfl (ac7 (acT (bT (C r s1 σ H1 _ I1 q1) fun iv s2 ⟨y,H2,I2,ry,kvs,k,v,ea,ey,l,q2⟩=>adA ?_)));subst ey;exact V3 I2 ea ry l (.inl rfl) fun M L J g=>⟨v,_,J,g,q2⟩
end
section
variable {σ:St}
def Gr (I:Inv X af σ H s) (e:Rd H a (.dK kvs)) (h:∀ p r,H p=ξ->Inv X af σ (upd H p (.dK kvs)) r->Q (.ref p) r):aaN (aaV X.prog X.w) A (call (.type "dict") [.ref a]) Q E s:=by
 let ⟨z,hd,vs,rel,dd⟩:=n5 I.hok e
 refine kt_call_dict hd dd (by rw [<- rel.length];exact z) fun h' g hs=>?_;refine h _ _ (I.hok.fresh (nE _)) (I.laid (fun b q u=>?_) (nE _) (tG z (beq_eq_false_iff_ne.mpr (acR (aa0 I.big))) rel g));exact (hs.2 b (aa0 (ID u))).trans (eQ _ u)
end
end L2
namespace Att
open PySem PySem.W PySem.Calls PyProof.Rows
theorem oz:∀ (ns:List Int) (vs:afU),WellAll P h vs (ns.map WData.int)->IntsAre vs ns:=by
 intro ns;induction ns with
 | nil =>
  intro vs w;rw [List.map_nil] at w;cases w;exact .nil
 | cons n ns g =>
  intro vs w;rw [GE] at w;cases w with
  | cons a b =>
   cases a;exact .cons _ _ (g _ b)
theorem Cf {l:OpenLaw} (hn:l.most=θ n)
  (u:l.row.toRowW.claim.pre args=ζ) (J:WellAll P h vals args) :
  ∃ a vs g,vals=[acw a]/\args=[WData.list (g.map WData.int)]/\h.get? a=θ { cls:=.type "list",data:=.seq vs.toArray }/\IntsAre vs g/\g.length<=n:=by
 have L:WShape.hasAll [] args [.list .int]=ζ:=(pre_splitW u).1;have M:l.pre.holds [] { args:=args }=ζ:=(pre_splitW u).2;obtain ⟨d,r,rfl,h1,h2⟩:=hasAllW_cons L;obtain rfl:=hasAllW_nil h2;obtain ⟨xs,rfl,h3⟩:=hasW_list h1;obtain ⟨g,rfl⟩:=items_int h3;have z:g.length<=n:=by
  unfold OpenLaw.pre at M;have I:(WTm.not (.lt (.lit (.int (n:Int))) (.len (.arg 0)))).holds [] { args:=[.list (g.map .int)] }=ζ:=by
   have I:=(holds_andW M).1;rw [hn] at I;exact I
  have C:=condW_of I (w_not (w_lt w_lit (w_len_list (w_arg rfl))));rw [lE] at C;refine Nat.le_of_not_lt fun q=>?_;have q':(n:Int) < ((g.length:Nat):Int):=by lia
  first
   | (rw [afL q'] at C;exact absurd C (by decide))
   | (simp at C;lia)
 cases J with
 | cons Z w2 =>
  cases w2;cases Z with
  | list Y v=>exact ⟨_,_,g,rfl,rfl,Y,oz g _ v,z⟩
def A9 (l:OpenLaw) (args:List WData):l.row.toRowW.claim.post args (.bool ζ) args=ζ :=
 postW_of (r:=l.row.toRowW) (X:=(ζ==ζ))
  (show WShape.has [] (.bool ζ) .bool=ζ by first|rfl|decide|simp [WShape.has,WShape.arms,WShape.armsAll])
  (show (WTm.eq .res (.lit (.bool ζ))).value [] { args:=args,res:=θ (.bool ζ),after:=args }=θ (.bool (ζ==ζ)) from w_eq_bool (w_res rfl) w_lit) rfl
theorem vK {l:OpenLaw}
  (hn:l.most=θ n) (hdf:d.params.defaults=[])
  (call:∀ (w:abA) (u g:DO) (mg mb:afS) (J:aa3) (o:Obj) (pm cd z:oR) (a:aa3) (vs:afU) (Z:List Int),
   Ground q loose [] XP w u mg mb g.heap->YP w g.heap ->
   g.heap.get? J=θ o->o.data=.func (docDef d.name d.params d.body d.scope pm cd z)->g.heap.CodeRec cd d.name->mg d.name=θ (.ref J) ->
   g.heap.get? a=θ { cls:=.type "list",data:=.seq vs.toArray }->IntsAre vs Z->Z.length<=n->g.gens=#[] ->
   adt (aaV l.prog w) callerA (.call (.ref J) ⟨[.ref a],[]⟩) (fun r M=>r=.ok (.ret (.bool ζ))/\OldK g.heap M.heap/\M.os=g.os/\AllBare M.gens) g) :
  WalkO q loose XP YP l.row.toRowW d [] (fun f vs=>afj f vs):=by
 intro w u g mg mb G Y J o pm cd z dV kV ho hd hcd hD hmg hg args vals as C hlay hrd hwl hlo;obtain rfl:dV=.none:=Dflts.none hD hdf;obtain rfl:kV=.none:=Dflts.noKw hD;obtain ⟨a,vs,Z,rfl,rfl,I,v,L⟩:=Cf hn C hwl;refine enter_call (ac1 (call w u g mg mb J o pm cd z a vs Z G Y ho (fd_plain hd) hcd hmg I v L hg) fun r M hq=>?_);obtain ⟨rfl,h2,h3,h4⟩:=hq;exact ⟨.inl ⟨.bool ζ,.bool ζ,[],rfl,fun _=>rfl,.bool ζ,A9 l _,fun _=>⟨List.Pairwise.nil,fun _ hm=>(nomatch hm)⟩⟩,h2,h3,h4⟩
end Att
namespace L2
open PySem PySem.Spec PyProof.Rows
theorem rY:∀ {vs:afU} {g:List Int},IntsAre vs g->ba (g.map V.int) vs
 | _,_,.nil=>.nil
 | _,_,.cons n t h=>.cons ⟨t,rfl⟩ (rY h)
def M7 {l:List (aa3×Str)} (hn:(l.map (·.1)).Nodup) (h:x∈l):l.lookup x.1=θ x.2:=by
 induction l with
 | nil=>cases h
 | cons y r g =>
  rw [GE,aa4] at hn;rcases mK.mp h with rfl|h
  .simp [acz]
  .have n:x.1≠y.1:=fun z=>hn.1 (z ▸ acN h);rw [acz,show (x.1==y.1)=η from by simpa using n];exact g hn.2 h
def yb {l:List (aa3×β)} {b:aa3} {q:β} (h:l.lookup b=θ q):(b,q)∈l:=by
 induction l with
 | nil=>cases h
 | cons y r g =>
  rw [acz] at h;split at h
  .rename_i e;cases h;rw [show b=y.1 from by simpa using e];exact aa8
  .exact iN _ (g h)
theorem Eh {K:aT} (h:gy K p=θ x):K.lookup x.1=ξ/\acs K p.1 x.1=ζ:=by
 unfold gy at h;split at h
 .split at h
  .split at h
   .rename_i e;cases h;rw [Pi] at e;exact ⟨by simpa using e.1,e.2⟩
   .cases h
  .cases h
 .cases h
theorem ER {K:aT}
  (KX:K.In s₁.heap) (hns:s₁.heap.Ns aaR mg) (hb:s₁.heap.Ns builtinsNs mb) (hbb:∀ x:Str,x≠"__name__"->mb x=MK x) (hlim:s₁.heap.NoLimit) (hg:s₁.gens=#[])
  (hT:((K.filterMap (gy K)).map (·.1)).Nodup/\∀ x∈K.filterMap (gy K),s₁.heap.get? x.1=θ (acQ #[]))
  (M:s₁.heap.get? a=θ { cls:=.type "list",data:=.seq vs.toArray }) (hi:IntsAre vs ns) (hl:ns.length<=RW) (hr:Room k callerA)
  (F:∀ base:acV,K.In base->base.Ns aaR mg->FnOk P w K mg base CX k fa fd [x] sp) (L:∀ (s:DO) (u:oR),BindsTo s fd ⟨[u],[]⟩ [(x,u)])
  (hsp:∀ H:Hp,e8 K H a (ns.map V.int)->sp [.ref a] H (fun v _=>v=.bl ζ) fun _ _ _=>False)
  (hCX:∀ H e C,CX [] H s₁ (fun _ _ _=>False) e C->False) :
  adt (aaV P w) callerA (.call (.ref fa) ⟨[.ref a],[]⟩) (fun r C=>r=.ok (.ret (.bool ζ))/\OldK s₁.heap C.heap/\C.os=s₁.os/\AllBare C.gens) s₁:=by
 have rv:=rY hi;have lenV:=hi.length;let l:=K.filterMap (gy K)
 have tab:∀ b q,l.lookup b=θ q->K.lookup b=ξ/\s₁.heap.get? b=θ (acQ #[])/\isCodeTable s₁.heap b:=fun b q e=>by
  have hm:=yb e;obtain ⟨p,hp,J⟩:=acx.mp hm
  have:=Eh J
  have e3:=hT.2 _ hm;exact ⟨this.1,e3,((aeY KX this.2).tab e3).isCodeTable⟩
 let H:Hp:=fun b=>match l.lookup b with
  | some q=>θ (.tbl q)
  | none=>if b=a/\K.lookup a=ξ then θ (.frz { cls:=.type "list",data:=.seq vs.toArray } (.lst (ns.map V.int))) else ξ
 have hH:∀ b u,H b=θ u->(∃ q,u=.tbl q/\l.lookup b=θ q)\/(b=a/\K.lookup a=ξ/\u=.frz { cls:=.type "list",data:=.seq vs.toArray } (.lst (ns.map V.int))):=fun b u e=>by
  have e':(match l.lookup b with
   | some q=>θ (.tbl q)
   | none=>if b=a/\K.lookup a=ξ then θ (HO.frz { cls:=.type "list",data:=.seq vs.toArray } (.lst (ns.map V.int))) else ξ)=θ u:=e
  split at e'
  .cases e';exact .inl ⟨_,rfl,by assumption⟩
  .split at e'
   .rename_i h;cases e';exact .inr ⟨h.1,h.2,rfl⟩
   .cases e'
 have nk:∀ b u,H b=θ u->K.lookup b=ξ:=fun b u e=>by
  rcases hH b u e with ⟨q,_,Y⟩|⟨rfl,Y,_⟩
  .exact (tab b q Y).1
  .exact Y
 have nl:l.lookup a=ξ:=by
  cases e:l.lookup a with
  | none=>rfl
  | some q=>have:=(tab a q e).2.1;rw [M] at this;cases this
 have hok:lg P w H s₁.heap:=fun b u e=>by
  rcases hH b u e with ⟨q,rfl,Y⟩|⟨rfl,_,rfl⟩
  .exact ⟨#[],(tab b q Y).2.1,trivial,fun pos cv z=>nomatch z⟩
  .exact ⟨M,by rw [lE];exact hl,vs,_,rv,M⟩
 have hS:e8 K H a (ns.map V.int):=by
  cases hk:K.lookup a with
  | some o =>
   have e:=KX a o hk;rw [M] at e;cases e;exact .inr ⟨_,vs.toArray,_,hk,rfl,rfl,rfl,by rw [aaY,lenV];exact hl,by simpa using rv⟩
  | none=>exact .inl (.inr ⟨{ cls:=.type "list",data:=.seq vs.toArray },by show (match l.lookup a with|some q=>_|none=>_)=_;rw [nl];exact afI ⟨rfl,hk⟩⟩)
 have g:∀ {b:aa3} {o:Obj},s₁.heap.get? b=θ o->H b=ξ->(tU s₁.heap H).get? b=θ o:=fun e n=>FD e n;have noA:∀ {b:aa3} {o:Obj} {es:Array DictEntry} {ep:Nat},s₁.heap.get? b=θ o->o.data=.dict es ep->H b=ξ:=fun {b o es ep} e d=>by
  cases q:H b with
  | none=>rfl
  | some u =>
   rcases hH b u q with ⟨q1,_,z⟩|⟨rfl,_,_⟩
   .rw [(tab b q1 z).2.1] at e;cases e;cases d
   .rw [M] at e;cases e;cases d
 have I:∀ {b:aa3} {m:afS},s₁.heap.Ns b m->(tU s₁.heap H).Ns b m:=fun {b m} ⟨o,es,ep,e,d,r⟩=>⟨o,es,ep,g e (noA e d),d,r⟩;have Z:K.In (tU s₁.heap H):=fun b o e=>g (KX b o e) (by
  cases q:H b with
  | none=>rfl
  | some u=>rw [nk b u q] at e;cases e)
 have hM:Mod K mg (tU s₁.heap H):=⟨Z,I hns,⟨mb,I hb,hbb⟩,let ⟨mc,h1,h2⟩:=hlim;⟨mc,I h1,h2⟩⟩;have Zz:JC K H:=fun p hp x e=>by
  have:=M7 hT.1 (acx.mpr ⟨p,hp,e⟩)
  show (match l.lookup x.1 with|some q=>_|none=>_)=_
  rw [this]
 have e0:Env0 P w K mg (tU s₁.heap H) callerA [] s₁ H:=⟨rfl,hM,fun b o e=>KG e,afr (Br _ _),trivial,⟨fun b hb=>absurd (show b∈([]:afT) from hb) (by simp),Zz⟩,hok,.of_eq hg⟩;refine ac1 ((F _ Z (I hns)).run callerA [] s₁ H ⟨[.ref a],[]⟩ [.ref a] [.ref a] _ _ hr e0 (L s₁ (.ref a)) (.cons rfl .nil) (hsp H hS)) fun r C h=>?_;cases r with
 | error e=>exact (hCX H e C h).elim
 | ok fl =>
  cases fl with
  | next=>exact abZ h
  | brk=>exact abZ h
  | cont=>exact abZ h
  | ret u =>
   let ⟨v,H',os,bare,un,hok',r',q⟩:=h
   have q':v=.bl ζ:=q;subst q';obtain rfl:u=afF ζ:=r';have key:∀ b o,s₁.heap.get? b=θ o->asItWas s₁.heap C.heap b o/\∃ o',C.heap.get? b=θ o':=fun b o e=>by
    cases q:H b with
    | none =>
     have:=un.keep b o e q (by intro z;exact absurd (show b∈([]:afT) from z) (by simp)) (by simp)
     exact ⟨.inl this,_,this⟩
    | some u =>
     rcases hH b u q with ⟨z,rfl,Y⟩|⟨rfl,_,rfl⟩
     .obtain ⟨ps,J,_⟩:=hok' b _ (un.tbls b _ q);obtain ⟨_,e3,e4⟩:=tab b _ Y;rw [e] at e3;cases e3;exact ⟨.inr (.inl ⟨e4,rfl,#[],ps,rfl,by rw [J];simp⟩),_,J⟩
     .obtain ⟨J,_⟩:=hok' b _ (un.frzs b _ _ q);rw [e] at M;cases M;exact ⟨.inl J,_,J⟩
   exact ⟨rfl,⟨fun b o e=>(key b o e).1,fun b o e=>(key b o e).2⟩,os,bare⟩
def Jq {l:aeD} {K:ady->aT} {CX:abA->Ri} {sp:abA->Sp}
  (hn:l.most=θ n) (hn2:n<=RW) (hdf:d.params.defaults=[]) (hr:Room k callerA)
  (hY:∀ (w:abA) (h:acV),YP w h->(K w.params).In h)
  (F:∀ (w:abA) (mg:afS) (J:aa3) (h:acV),(K w.params).In h->h.Ns aaR mg->mg d.name=θ (.ref J) ->
   ∃ fd:acE,(∀ (s:DO) (u:oR),BindsTo s fd ⟨[u],[]⟩ [(x,u)]) /\
    ∀ base:acV,(K w.params).In base->base.Ns aaR mg->FnOk l.prog w (K w.params) mg base (CX w) k J fd [x] (sp w))
  (hT:∀ (w:abA) (h:acV),YP w h->(((K w.params).filterMap (gy (K w.params))).map (·.1)).Nodup/\∀ x∈(K w.params).filterMap (gy (K w.params)),h.get? x.1=θ (acQ #[]))
  (hsp:∀ (w:abA) (H:Hp) (a:aa3) (L:List Int),L.length<=n->e8 (K w.params) H a (L.map V.int)->sp w [.ref a] H (fun v _=>v=.bl ζ) fun _ _ _=>False)
  (hCX:∀ (w:abA) (H:Hp) (s:DO) (e:oR) (Z:DO),CX w [] H s (fun _ _ _=>False) e Z->False) :
  PySem.W.WalkO q loose XP YP l.row.toRowW d [] (fun f vs=>afj f vs):=by
 refine Att.vK hn hdf fun w s₀ I mg mb J o pm cd doc a vs L G Y ho hd hcd M C z r hg=>?_;have KX:=hY w _ Y;obtain ⟨fd,hb,hF⟩:=F w mg J _ KX G.T.g M;exact ER KX G.T.g G.T.b G.T.builtins G.T.nolimit hg (hT w _ Y) C z (Le r hn2) hr hF hb (fun H hS=>hsp w H a L r hS) fun H e Z=>hCX w H I e Z
def iV (s:ac2):Arguments:=match s with
 | .FunctionDef _ a _ _ _ _ _ _ _ _=>a
 | _=>{ posonlyargs:=[],args:=[],vararg:=ξ,kwonlyargs:=[],kw_defaults:=[],kwarg:=ξ,defaults:=[] }
def dC (s:ac2):List ac2:=match s with
 | .FunctionDef _ _ b _ _ _ _ _ _ _=>b
 | _=>[]
def aY (s:ac2):Scope:=match s with
 | .FunctionDef _ _ _ _ _ _ sc _ _ _=>sc
 | _=>{ kind:=.function,names:=[],isGenerator:=η,isCoroutine:=η }
abbrev gN:Ri:=fun _ _ _ _ _ _=>False
abbrev E0:XK:=fun _ _ _=>False
def uX:qM gN X E0:=fun _ _ _ _ _ _ _ h=>h.elim
def Hy (K:aT) (g:oR) (q:Str):Bool:=ad5 K g q&&(match g with
 | .ref c=>(match K.lookup c with
  | some o=>(gy K (c,o)).isSome
  | none=>η)
 | _=>η)
def N2 {K:aT} (h:Hy K cdv q=ζ):ad5 K cdv q=ζ:=(ac8.mp h).1
theorem Ex {K:aT} (h:Hy K cdv q=ζ):∃ c P,cdv=.ref c/\acs K c P=ζ/\∀ H,JC K H->H P=θ (.tbl (q++".<locals>."++"<lambda>")):=by
 obtain ⟨h1,h2⟩:=ac8.mp h;split at h2
 .rename_i c;split at h2
  .rename_i o e;obtain ⟨x,g⟩:=aef.mp h2
   have:=Eh g
   refine ⟨c,x.1,rfl,this.2,fun H t=>?_⟩;rw [t _ (yb e) x g];unfold gy at g;split at g
   .rename_i vs hd;split at g
    .rename_i q' tk P e1 e2;split at g
     .cases g;unfold ad5 at h1;dsimp only at h1;rw [e] at h1;split at h1
      .rename_i vs' _ ho;cases ho;cases hd;split at h1
       .rename_i n _ _ hl;have r:vs.toList[1]?=θ (.str q' tk):=by rw [<- e1];simp
        rw [hl] at r;cases r;rw [show q'=q from by simpa using h1]
       .cases h1
      .cases h1
     .cases g
    .cases g
   .cases g
  .cases h2
 .cases h2
structure Fun (K:aT) (x qual:Str) (st:ac2) (f:aa3) (fd:acE):Prop where
 ex:∃ (oc:oR) (od:Option aa3) (kV doc pm:oR) (an:Option aa3) (cdv ct:oR) (osl:Array (Option oR)),
  fd=acK x qual (iV st) (dC st) (aY st) .none kV doc pm an cdv ct/\K.lookup f=θ ⟨oc,od,.func fd,osl⟩/\Hy K cdv qual=ζ
 kp:ada K (.ref f)=ζ
section
variable {K:aT}
theorem Fun.ok {st:ac2} (F:Fun K x qual st f fd) (S:FnScope N ps (aY st)) (len:∀ vs H Q E,sp vs H Q E->vs.length=ps.length)
  (u:∀ (r:oR) (_:Hy K r qual=ζ) (A:acy) (g:List Env) (s:DO) (H:Hp) (vs:afV) (Q:VK) (E:XK),Room k (A.deeper (aeK qual (aY st) s.heap.objs.size f r))->sp vs H Q E ->
   ∃ t,zI (oB gN P w K mg base N qual (aY st) f r A g s H E).nox (dC st) t/\t { nx:=fun _ H'=>Q .non H',rt:=Q } (start N vs) H):FnOk P w K mg base gN (k+1) f fd ps sp:=by
 obtain ⟨oc,od,kV,C,L,J,r,I,osl,rfl,lk,v⟩:=F.ex;refine R7 lk (N2 v) S len fun A g s H vs Q E hr z=>?_;obtain ⟨t,h,q⟩:=u r v A g s H vs Q E hr z;exact ⟨t,h.nox,q⟩
def Fun.binds {st:ac2} (F:Fun K x qual st f fd)
  (h:∀ (kV g z:oR) (v:Option aa3) (r u:oR) (us:afU),us.length=ps.length->bindArgs (acK x qual (iV st) (dC st) (aY st) .none kV g z v r u) ⟨us,[]⟩=pure (ps.zip us)):f8 K fd ps []:=by
 obtain ⟨oc,od,kV,g,z,v,r,u,osl,rfl,lk,C⟩:=F.ex;exact .all (h kV g z v r u)
def CJ {st:ac2} {kV r u g v:oR} (l:K.lookup f=θ ⟨oc,od,.func (acK x qual (iV st) (dC st) (aY st) .none kV r u an g v),osl⟩)
  (c:Hy K g qual=ζ) (k:ada K (.ref f)=ζ):Fun K x qual st f (acK x qual (iV st) (dC st) (aY st) .none kV r u an g v):=⟨⟨oc,od,kV,r,u,an,g,v,osl,rfl,l,c⟩,k⟩
end
section
variable {X:Cx}
def pv (i:Nat) {pos:Pos} (r:X.N[i]?=θ x:=by rfl) (z:oy X.env.scope x:=by walk_at"v") (u:afX x:=by decide)
  (g:(x==("__classdict__":Str))=η:=by decide):PE X (.Name x pos) (Oi i):=w9 r z u g
end
def aw (H H':Hp):Prop:=∀ b o,H b=θ o->H' b=θ o
def aw.refl (H:Hp):aw H H:=fun _ _ h=>h
theorem aw.trans (a:aw H H1) (b:aw H1 H2):aw H H2:=fun c o h=>b c o (a c o h)
def aw.free (e:aw H H') (h:H' l=Option.none):H l=Option.none:=by
 cases q:H l with
 | none=>rfl
 | some o =>
  rw [e l o q] at h;cases h
def aw.seq {K:aT} (e:aw H H') (h:e8 K H a xs):e8 K H' a xs:=by
 rcases h with (h|⟨o,h⟩)|h
 .exact .inl (.inl (e _ _ h))
 .exact .inl (.inr ⟨o,e _ _ h⟩)
 .exact .inr h
section
variable {κ:Type} [DecidableEq κ]
theorem Cg {p:κ×V} (e:p.1=k):iA (p::r) k=iA r k:=by
 unfold iA
 grind
theorem BP {p:κ×V} (e:¬ p.1=k):iA (p::r) k=p::iA r k:=by
 unfold iA
 grind
end
end L2
namespace L2
open PySem PySem.W PySem.W.X PySem.W.ZRun
def walkX {run:oR->afU->Sem oR}
  (e:∀ P,as=(K P).map (·.1)) (h:WalkO q loose XP (fun w h=>(K w.params).In h) r d kwd run):WalkX q loose XP (obsZ as) (valZ K n t) r d kwd run :=
 fun w g u mg Z G y a o Y cd C dV kV h1 h2 h3 M J I v z as L hp hl hr hw hs =>
  h w g u mg Z G (InK.keeps w g.heap u.heap (z_facts e y).2.1 L.keeps) a o Y cd C dV kV h1 h2 h3 M J I v z as hp hl hr hw hs
def ln1 {α:Type} {P:List α->Prop} (h:∀ a,P [a]):∀ us:List α,us.length=1->P us:=fun us e=>by
 obtain ⟨a,rfl⟩:=acS.mp e;exact h a
def YQ {α:Type} {P:List α->Prop} (h:∀ a us,us.length=n->P (a::us)):∀ us:List α,us.length=n+1->P us:=fun us e=>by
 cases us with
 | nil=>cases e
 | cons a us=>simp_all
def ln2 {α:Type} {P:List α->Prop} (h:∀ a b,P [a,b]):∀ us:List α,us.length=2->P us:=YQ fun a=>ln1 fun b=>h a b
def ln3 {α:Type} {P:List α->Prop} (h:∀ a b c,P [a,b,c]):∀ us:List α,us.length=3->P us:=YQ fun a=>ln2 fun b c=>h a b c
def ln4 {α:Type} {P:List α->Prop} (h:∀ a b c d,P [a,b,c,d]):∀ us:List α,us.length=4->P us:=YQ fun a=>ln3 fun b c d=>h a b c d
end L2
namespace L2
open PySem PySem.Spec PyProof.Rows
def fL (cells:List (Str×aa3)):List (Str×adH)->List (Str×aa3)->List (Str×aa3)
 | [],acc=>acc
 | (n,k)::r,acc=>if k=.free then fL cells r ((n,(cells.lookup n).getD 0)::acc) else fL cells r acc
theorem fX (h:∀ y∈scope.names,y.2=.free->∃ c,env.cells.lookup y.1=θ c):closureFor scope env=pure (fL env.cells scope.names []):=by
 simp only [closureFor];generalize ([]:List (Str×aa3))=acc;revert h
 generalize scope.names=names;intro h;induction names generalizing acc with
 | nil=>rfl
 | cons y r v =>
  let ⟨n,k⟩:=y
  by_cases g:k=.free
  .subst g;let ⟨c,hc⟩:=h (n,.free) aa8 rfl
   have z:cellOf env n=pure c:=by unfold cellOf;rw [hc]
   have u:fL env.cells ((n,.free)::r) acc=fL env.cells r ((n,c)::acc):=by
    show (if abP=.free then _ else _)=_;rw [hc];rfl
   simp_all
  .have u:fL env.cells ((n,k)::r) acc=fL env.cells r acc:=by
    show (if k=.free then _ else _)=_;rw [afJ g]
   simp_all
theorem tP:∀ (g:List (Str×adH)) (acc:List (Str×aa3)),(∀ y∈g,y.2=.free->∃ c,cells.lookup y.1=θ c) ->
  (fL cells g acc).lookup x=θ c->cells.lookup x=θ c\/acc.lookup x=θ c
 | [],acc,_,e=>.inr e
 | (n,k)::r,acc,h,e=>by
  have hr  := fun y hy=>h y (iN _ hy);by_cases u:k=.free
  .subst u;rcases tP r _ hr e with z|z
   .exact .inl z
   .rw [acv] at z;cases hx:x==n with
    | true =>
     rw [hx] at z;let ⟨c',hc⟩:=h (n,.free) aa8 rfl
     grind
    | false =>
     simp_all
  .have e2:fL cells ((n,k)::r) acc=fL cells r acc:=by
    show (if k=.free then _ else _)=_;rw [afJ u]
   rw [e2] at e;exact tP r acc hr e
theorem mr {cells:List (Str×aa3)} {x:Str}:∀ (g:List (Str×adH)) (acc:List (Str×aa3)),((x,abP)∈g\/∃ c,acc.lookup x=θ c)->∃ c,(fL cells g acc).lookup x=θ c
 | [],acc,h=>by
  rcases h with h|h
  .cases h
  .exact h
 | (n,k)::r,acc,h=>by
  by_cases u:k=.free
  .subst u;refine mr r _ ?_;rcases h with h|⟨c,h⟩
   .rcases mK.mp h with h|h
    .simp_all
    .exact .inl h
   .right
    grind
  .have e2:fL cells ((n,k)::r) acc=fL cells r acc:=by
    show (if k=.free then _ else _)=_;rw [afJ u]
   rw [e2];refine mr r acc ?_
   grind
structure Bk where
 cl:List (Str×aa3)
 C:aa3
 s:DO
 H:Hp
 fp:afT
 af:afQ
def iJ (X:Cx) (N:afP) (scope:Scope) (b:Bk):Cx :=
 { X with tn:=0,N:=N,s₀:=b.s,H₀:=b.H,env:=compEnvC scope b.cl b.C X.env,outer:=X.stack,stack:=X.stack,ex:=b.fp,fn:=fun _=>η,pn:=X.pn++b.af,xe:=fun _ _=>False }
noncomputable def pD (ON:afP) (g:List (Str×adH)):List (Option Nat)->afP->Bool
 | [],[]=>ζ
 | none::r,_::n=>pD ON g r n
 | some j::r,x::n=>decide (ON[j]?=θ x)&&decide ((x,abP)∈g)&&pD ON g r n
 | _,_=>η
def wy (osc:Scope) (ON N:afP) (ix:List (Option Nat)) (scope:Scope):Bool :=
 decide (scope.kind=.function)&&(scope.names.all fun y=>decide (y.2≠.cell))&&(scope.names.all fun y=>decide (y.2=.local->scope.names.lookup y.1=θ .local)) &&
 (scope.names.all fun y=>decide (y.2=.free->osc.names.lookup y.1=θ .cell\/osc.names.lookup y.1=θ .free))&&(scope.names.all fun y=>decide (y.2=.local->(y.1,abP)∉scope.names))&&pD ON scope.names ix N
structure CScope (osc:Scope) (ON N:afP) (ix:List (Option Nat)) (scope:Scope):Prop where
 kind:scope.kind=.function
 nocell:∀ y∈scope.names,y.2≠.cell
 names:∀ y∈scope.names,y.2=.local->scope.names.lookup y.1=θ .local
 outs:∀ y∈scope.names,y.2=.free->osc.names.lookup y.1=θ .cell\/osc.names.lookup y.1=θ .free
 nolf:∀ x,(x,NameKind.local)∈scope.names->(x,abP)∈scope.names->False
 len:ix.length=N.length
 cap:∀ (i j:Nat) (x:Str),ix[i]?=θ (θ j)->N[i]?=θ x->ON[j]?=θ x/\(x,abP)∈scope.names
theorem m9:∀ {ix:List (Option Nat)} {N:afP},pD ON names ix N=ζ->ix.length=N.length
 | [],[],_=>rfl
 | none::r,_::n,h=>afN Nat.succ (m9 h)
 | some j::r,x::n,h=>by
  have h':(decide (ON[j]?=θ x)&&decide ((x,abP)∈names)&&pD ON names r n)=ζ:=h;rw [Pi] at h';exact afN Nat.succ (m9 h'.2)
 | [],_::_,h=>by cases h
 | none::_,[],h=>by cases h
 | some _::_,[],h=>by cases h
theorem mZ:∀ {ix:List (Option Nat)} {N:afP},pD ON names ix N=ζ->∀ (i j:Nat) (x:Str),ix[i]?=θ (θ j)->N[i]?=θ x->ON[j]?=θ x/\(x,abP)∈names
 | [],_,_,i,j,x,h1,_=>by simp at h1
 | none::r,y::n,h,0,j,x,h1,_=>by simp at h1
 | none::r,y::n,h,i+1,j,x,h1,h2=>mZ (ix:=r) h i j x (by simpa using h1) (by simpa using h2)
 | some k::r,y::n,h,i,j,x,h1,h2=>by
  have h':(decide (ON[k]?=θ y)&&decide ((y,abP)∈names)&&pD ON names r n)=ζ:=h;rw [Pi] at h';cases i with
  | zero =>
   simp_all
  | succ i=>exact mZ h'.2 i j x (by simpa using h1) (by simpa using h2)
 | none::_,[],h,_,_,_,_,_=>by cases h
 | some _::_,[],h,_,_,_,_,_=>by cases h
def ML (h:wy osc ON N ix scope=ζ):CScope osc ON N ix scope:=by
 unfold wy at h;simp only [Pi] at h;obtain ⟨⟨⟨⟨⟨h1,h2⟩,r⟩,u⟩,C⟩,g⟩:=h;exact ⟨afM h1,fun y hy=>afM (abF.mp h2 y hy),fun y hy=>afM (abF.mp r y hy),fun y hy=>afM (abF.mp u y hy),
  fun x v z=>afM (abF.mp C (x,.local) v) rfl z,m9 g,mZ g⟩
def ka (ix:List (Option Nat)) (σ:St):St:=ix.map fun o=>o.bind fun j=>(σ[j]?).getD ξ
theorem eO {env:Env}:∀ {g:List (Str×adH)} {x:Str} {k:adH},(g.map fun (n,k)=>if (k==abP&&env.scope.kind==.function&&env.kindOf n==θ .cell) then (n,afH) else (n,k)).lookup x=θ k ->
  g.lookup x=θ k\/(k=.cell/\g.lookup x=θ .free/\env.kindOf x=θ .cell)
 | [],_,_,h=>by cases h
 | (n,k')::r,x,k,h=>by
  have v:=@eO env r x k;have h:acz x ((if (k'==abP&&env.scope.kind==.function&&env.kindOf n==θ .cell)=ζ then (n,afH) else (n,k'))::_)=θ k:=h;by_cases u:(k'==abP&&env.scope.kind==.function&&env.kindOf n==θ .cell)=ζ
  .rw [afI u] at h;rw [acv] at h;rw [acv];cases hx:x==n with
   | true =>
    grind
   | false =>
    simp_all
  .rw [acv] at h;rw [acv];cases hx:x==n with
   | true =>
    simp_all
   | false =>
    simp_all
def mem_of_lookupK:∀ {g:List (Str×adH)},g.lookup x=θ k->(x,k)∈g:=fun h=>ack h
theorem J4 {σ:St} (I:Inv X af σ H s) (hE:X.env.scope=osc) (hO:X.N=ON) (S:CScope osc ON N ix scope)
  (M:∀ b∈fp,eS X af H b) (hfo:∀ b∈fp,∃ o,s.heap.get? b=θ o) (hn:h'.Ns s.heap.objs.size m) (hk:∀ b o,s.heap.get? b=θ o->h'.get? b=θ o) (he:s'={ s with heap:=h',toks:=s'.toks }) :
  Inv (iJ X N scope ⟨fL X.env.cells scope.names [],s.heap.objs.size,s,H,fp,af⟩) [] (ka ix σ) H s':=by
 subst hE hO;have Y:∀ y∈scope.names,y.2=.free->∃ c,X.env.cells.lookup y.1=θ c:=fun y hy e=>I.ok.has y.1 (S.outs y hy e);have g:∀ x c,(fL X.env.cells scope.names []).lookup x=θ c->X.env.cells.lookup x=θ c:=fun x c e=>by
  rcases tP scope.names [] Y e with z|z
  .exact z
  .cases z
 have old:∀ b o,s.heap.get? b=θ o->b≠s.heap.objs.size:=fun b o e=>aa0 (ID e);have Z:∀ x,(compEnvC scope (fL X.env.cells scope.names []) s.heap.objs.size X.env).kindOf x=θ .cell\/(compEnvC scope (fL X.env.cells scope.names []) s.heap.objs.size X.env).kindOf x=θ .free->(x,abP)∈scope.names:=fun x L=>by
  rcases L with L|L
  .rcases eO (env:=X.env) L with z|⟨_,z,_⟩
   .exact absurd rfl (S.nocell _ (mem_of_lookupK z))
   .exact mem_of_lookupK z
  .rcases eO (env:=X.env) L with z|⟨z,_⟩
   .exact mem_of_lookupK z
   .cases z
 have J:∀ x c,X.env.cells.lookup x=θ c->∀ v,s.heap.IsCell c v->h'.IsCell c v:=fun x c e v ⟨o,ho,hd⟩=>⟨o,hk c o ho,hd⟩;rw [he];refine ⟨⟨I.ok.mod,S.kind,I.ok.glob,I.ok.blt,nE _,fun x y c h1 h2=>I.ok.inj x y c (g x c h1) (g y c h2),fun x L=>mr _ _ (.inl (Z x L)),fun x c z _=>(nomatch z),I.ok.hd,I.ok.frames,.inl rfl,
  fun b hb=>?_,fun b o e=>I.bs b o e,Le I.ok.bsz I.sz,fun b o e hb=>?_,fun b hb L=>?_,I.stack,⟨fun b hb=>I.stkFree b hb,I.tb⟩⟩,
  rfl,I.bare,Un.kept hk,⟨m,hn,fun i x v h1 h2 h3=>?_⟩,fun x c e=>?_,I.hok.fresh (nE _),fun x c e=>I.freeC x c (g x c e),fun p hp=>?_,I.hok.kept hk,?_,aaQ _⟩
 .let ⟨o,ho⟩:=hfo b hb
  exact ⟨old b o ho,fun x c e=>(M b hb).2.2.2.2.1 x c (g x c e)⟩
 .rcases (M b hb).2.2.2.1 with z|z
  .exact I.ok.noex b o e z
  .exact absurd (OR (ID e) (Le I.ok.bsz z)) (acM _)
 .rcases mK.mp (I.stkSub b L) with z|z
  .exact (M b hb).2.1 z
  .exact (M b hb).2.2.1 z
 .-- a captured name
  have r:(ka ix σ)[i]?=θ (θ v):=h2;unfold ka at r;rw [acF] at r;cases e:ix[i]? with
  | none=>rw [e] at r;cases r
  | some o =>
   rw [e] at r;cases o with
   | none=>cases r
   | some j =>
    let ⟨c1,c2⟩:=S.cap i j x e h1
    have C:(σ[j]?).getD ξ=θ v:=ab9 r;have ej:σ[j]?=θ (θ v):=by
     cases q:σ[j]? with
     | none=>rw [q] at C;cases C
     | some w'=>rw [q] at C;rw [<- C];rfl
    have ko:=S.outs _ c2 rfl;let ⟨mX,hnX,hl⟩:=I.loc
    have vis:oy X.env.scope x:=by
     rcases ko with k|k
     .exact .inr (.inl k)
     .exact .inr (.inr k)
    let ⟨u,ru,lk⟩:=hl j x v c1 ej vis
    refine ⟨u,ru,.inr ?_⟩;have hcel:∃ c,X.env.cells.lookup x=θ c/\s.heap.IsCell c (θ u):=by
     rcases lk with ⟨k,_⟩|⟨_,c,e1,e2⟩
     .rcases ko with k'|k'
      .have:X.env.kindOf x=θ .cell:=k'
       rw [k] at this;cases this
      .have:X.env.kindOf x=θ .free:=k'
       rw [k] at this;cases this
     .exact ⟨c,e1,e2⟩
    let ⟨c,e1,e2⟩:=hcel
    let ⟨c',e3⟩:=mr (cells:=X.env.cells) scope.names [] (.inl c2)
    have e4:=g x c' e3;rw [e1] at e4;cases e4;refine ⟨?_,c,e3,J x c e1 _ e2⟩;rcases h3 with k|k|k
    .rcases eO (env:=X.env) k with z|⟨z,_⟩
     .exact (S.nolf x (mem_of_lookupK z) c2).elim
     .cases z
    .exact .inl k
    .exact .inr k
 .let ⟨v,z⟩:=I.cell x c (g x c e)
  exact ⟨v,J x c (g x c e) v z⟩
 .have hp':p∈X.pn++af:=by
   rcases By.mp hp with z|z
   .exact z
   .cases z
  let ⟨e,n,ne,nf,d⟩:=I.pin p hp'
  refine ⟨hk _ _ e,n,old _ _ e,fun z=>?_,d⟩;rcases mK.mp (I.stkSub _ z) with q|q
  .exact ne q
  .exact nf q
 .unfold ka;rw [lE];exact S.len
section
variable {prog:abN} {w:abA} {A:acy} {R:Result->DO->Prop} {s:DO}
theorem uo (I:Nat->DO->Prop)
  (iy:∀ n s,I n s->aaN (aaV prog w) A (pyNext it) (fun r z=>match r with
   | none=>R (.ok .next) z
   | some v=>aaN (aaV prog w) A (aeI target it v) (fun _ u=>aaN (aaV prog w) A (assign target env v) (fun _ L =>
     aaN (aaV prog w) A (forIn ifs ζ fun c r=>if r=ζ then do let ok <- isTrue c env (eval c env);pure (adR ok) else pure (adR r)) (fun ok C =>
      if ok=ζ then aaN (aaV prog w) A (eval elt env) (fun x J =>
       aaN (aaV prog w) A (call (.builtin "list.append") [acc,x]) (fun _ M=>∃ m,m < n/\I m M) (notedBy (aaV prog w) A env fun e g=>R (.error e) g) J) (notedBy (aaV prog w) A env fun e g=>R (.error e) g) C
      else ∃ m,m < n/\I m C) (notedBy (aaV prog w) A env fun e g=>R (.error e) g) L) (notedBy (aaV prog w) A env fun e g=>R (.error e) g) u) (notedBy (aaV prog w) A env fun e g=>R (.error e) g) z) (notedBy (aaV prog w) A env fun e g=>R (.error e) g) s)
  (n:Nat) (h:I n s) :
  adt (aaV prog w) A (.compLoop (.ListComp elt [⟨target,iter,ifs,0⟩] scope pos) 0 it acc env) R s:=by
 refine codeAny_loop rfl I (fun n s hI=>?_) n h;refine wpAny_noted ?_;refine dO (wpAny_standAt (dO (abn (iy n s hI) (fun r z Y=>?_) fun _ _ h'=>h')));cases r with
 | none=>exact rW Y
 | some v =>
  refine dO (abn Y (fun _ u h₁'=>?_) fun _ _ h'=>h');refine dO (abn h₁' (fun _ L h₂=>dO (abn h₂ (fun ok C Z=>?_) fun _ _ h'=>h')) fun _ _ h'=>h');cases ok with
  | false=>exact rW ⟨rfl,Z⟩
  | true =>
   exact dO (dO (abn Z (fun x J h₄=>dO (abn h₄ (fun _ M h₅=>rW (rW ⟨rfl,h₅⟩)) fun _ _ h'=>h')) fun _ _ h'=>h'))
end
def QJ (X:Cx) (ifs:List abu) (t:TT):Prop :=
 ∀ (g:afQ) (s:DO) (σ:St) (H:Hp) (Q:Bool->Hp->Prop),Inv X g σ H s->t σ H Q ->
  aaN (aaV X.prog X.w) X.A (forIn ifs ζ fun c r=>if r=ζ then do let ok <- isTrue c X.env (eval c X.env);pure (adR ok) else pure (adR r)) (TP X g σ Q) X.xe s
def T2:TT:=fun _ H Q=>Q ζ H
def Kt:QJ X [] T2:=fun _ _ _ H _ I h=>wpAny_tests_nil ⟨H,I,h⟩
def Kh (h:PT X c t):QJ X [c] t:=fun g s σ H Q I q=>wpAny_tests_one (h g s σ H Q I q)
def uu (g:TG) (tt:TT) (te:TE) (J:It) (L:St) (H1:Hp) (Q:VK):Prop:=∀ r,H1 r=ξ->∃ W:Nat->Nat->St->Hp->Prop,
 (∃ m,W 0 m L (upd H1 r (.lst [])))/\∀ i m C H',W i m C H' ->
  (J.stop i H'/\Q (.ref r) H')\/(J.go i H'/\∃ M:St->Hp->Prop,(∀ z I,M z I->∃ m',m' < m/\W (i+1) m' z I)/\∀ x I,J.yld i H' x I->g x C I fun u H3=>tt u H3 fun b Y =>
   if b=ζ then te u Y fun v Z=>∃ xs,Z r=θ (.lst xs)/\xs.length < RW/\M u (upd Z r (.lst (xs++[v]))) else M u Y)
def Ao (ix:List (Option Nat)) (r:TI) (g:TG) (u:TT) (te:TE):TE:=fun σ H Q=>r σ H fun J H1=>uu g u te J (ka ix σ) H1 Q
section
def Fj {σ r:St} (I:Inv X af σ H s) (g:∀ b∈fp,eS X af H b) (J:Inv (iJ X N scope ⟨cl,s.heap.objs.size,s,H,fp,af⟩) [] r H' s') (v:X.tn<=s'.toks) :
  Inv X af σ H' s'/\(∃ m,s'.heap.Ns s.heap.objs.size m)/\H' s.heap.objs.size=ξ/\eS X af H' s.heap.objs.size:=by
 have u  := J.base;have I1  := I.call' J.os u J.hok J.bare fun b hb=>⟨(g b hb).2.2.2.1,(g b hb).2.1,(g b hb).2.2.2.2.1,(g b hb).2.2.2.2.2⟩;obtain ⟨m,hn,_⟩:=J.loc;exact ⟨I1,⟨m,hn⟩,J.free,I.fpOk (nE _) J.free⟩
theorem sx {σ:St} {RR:oR->aa3->Result->DO->Prop}
  (S:CScope osc ON N ix scope) (hE:X.env.scope=osc) (hO:X.N=ON) (hc:X.calm=ζ) (hg:∀ b,PG (iJ X N scope b) tg g) (ht:∀ b,QJ (iJ X N scope b) ifs tt)
  (he:∀ (s0:DO) (H0:Hp) (pl:afQ) (Z:DO) (L:St) (H':Hp) (Q':VK) (acc:aa3),Inv X af σ H0 s0->(∀ b∈fp,eS X af H0 b)->(∀ b∈fp,∃ o,(b,o)∈pl)->Inv (iJ X N scope ⟨fL X.env.cells scope.names [],s0.heap.objs.size,s0,H0,fp,af⟩) ([]++pl) L H' Z->te L H' Q' ->
   aaN (aaV X.prog X.w) X.A (eval elt (compEnvC scope (fL X.env.cells scope.names []) s0.heap.objs.size X.env)) (EP (iJ X N scope ⟨fL X.env.cells scope.names [],s0.heap.objs.size,s0,H0,fp,af⟩) ([]++pl) L Q') (notedBy (aaV X.prog X.w) X.A (compEnvC scope (fL X.env.cells scope.names []) s0.heap.objs.size X.env) fun e s''=>X.tn<=s''.toks->RR (.ref acc) s0.heap.objs.size (.error e) s'') Z)
  (I:Inv X af σ H s) (T:Turn X.prog X.w X.K tg J fp it tn) (st:tn 0 s.heap) (hfp:∀ b∈fp,eS X af H b) (q:uu g tt te J (ka ix σ) H Q)
  (hRR:∀ (acc C:aa3) (H':Hp) (Z:DO),Inv X af σ H' Z->(∃ m,Z.heap.Ns C m)->H' C=ξ->eS X af H' C->Q (.ref acc) H'->RR (.ref acc) C (.ok .next) Z) :
  aaN (aaV X.prog X.w) X.A (newList []) (fun acc s₃=>aaN (aaV X.prog X.w) X.A (newFunctionEnv scope X.env.globals (fL X.env.cells scope.names []) [] X.env.qual ξ .none (θ X.env)) (fun cenv s₄ =>
   adt (aaV X.prog X.w) X.A (.compStart (.ListComp elt [⟨tg,iter,ifs,0⟩] scope pos) 0 (.ref it) acc { cenv with scope:=relabel scope X.env }) (RR acc cenv.locals) s₄) E s₃) E s:=by
 refine acj (wpAny_newFunctionEnv S.nocell (by intro y hy;simp at hy) (fun h₁ hns₁ hsb₁=>?_) S.kind);dsimp only at hns₁ hsb₁ ⊢
 have I3:Inv X af σ (upd H s.heap.objs.size (.lst [])) { s with heap:=s.heap.push { cls:=.type "list",dict:=ξ,data:=.seq ([]:afU).toArray } } :=
  I.laid (t':=s.toks) (fun b o e=>eQ _ e) (nE _) (show c7 X.prog X.w _ _ _ (.lst []) from ⟨aaQ _,[],_,.nil,Do _ rfl⟩)
 have hacc:H s.heap.objs.size=ξ:=I.hok.fresh (nE _);have hfo:∀ b∈fp,∃ o,s.heap.get? b=θ o:=fun b hb=>let ⟨o,e,_⟩:=T.obj 0 _ st b hb;⟨o,e⟩;have fne:∀ b∈fp,b≠s.heap.objs.size:=fun b hb=>let ⟨o,e⟩:=hfo b hb;aa0 (ID e);have hfp3:∀ b∈fp,eS X af (upd H s.heap.objs.size (.lst [])) b:=fun b hb=>⟨by rw [aF (fne b hb)];exact (hfp b hb).1,(hfp b hb).2⟩;let ⟨W,⟨m0,w0⟩,iy⟩:=q s.heap.objs.size hacc
 generalize hH2:s.heap.push { cls:=.type "list",dict:=ξ,data:=.seq ([]:afU).toArray }=h2 at *;have hk1:∀ b o,h2.get? b=θ o->h₁.get? b=θ o:=fun b o e=>hsb₁.extBut b o (aa0 (ID e)) (eQ _ e);have old:∀ b o,s.heap.get? b=θ o->h2.get? b=θ o:=fun b o e=>by rw [<- hH2];exact eQ _ e
 have fin:∀ s₄:DO,s₄={ s with heap:=h₁,toks:=s₄.toks }->X.tn<=s₄.toks->adt (aaV X.prog X.w) X.A (.compLoop (.ListComp elt [⟨tg,iter,ifs,0⟩] scope pos) 0 (.ref it) (.ref s.heap.objs.size) (compEnvC scope (fL X.env.cells scope.names []) h2.objs.size X.env))
   (RR (.ref s.heap.objs.size) h2.objs.size) s₄:=by
  intro s₄ e4 ht4;refine dq ht4 ?_;have J0:Inv (iJ X N scope ⟨fL X.env.cells scope.names [],h2.objs.size,{ s with heap:=h2 },upd H s.heap.objs.size (.lst []),fp,af⟩) [] (ka ix σ) (upd H s.heap.objs.size (.lst [])) s₄ :=
   J4 (s:={ s with heap:=h2 }) I3 hE hO S hfp3 (fun b hb=>let ⟨o,e⟩:=hfo b hb;⟨o,old b o e⟩) hns₁ hk1 e4
  generalize hX:iJ X N scope ⟨fL X.env.cells scope.names [],h2.objs.size,{ s with heap:=h2 },upd H s.heap.objs.size (.lst []),fp,af⟩=Y at J0;have eE:compEnvC scope (fL X.env.cells scope.names []) h2.objs.size X.env=Y.env:=by rw [<- hX];rfl
  have eP:X.prog=Y.prog:=by rw [<- hX];rfl
  have eW:X.w=Y.w:=by rw [<- hX];rfl
  have eA:X.A=Y.A:=by rw [<- hX];rfl
  have eK:X.K=Y.K:=by rw [<- hX];rfl
  have eC:Y.calm=ζ:=by rw [<- hX];exact hc
  have T':Turn Y.prog Y.w Y.K tg J fp it tn:=by rw [<- eP,<- eW,<- eK];exact T
  have M4:tn 0 s₄.heap:=T.keep _ _ _ st fun b hb o e=>by rw [e4];exact hk1 b o (old b o e)
  have fpY:∀ {H':Hp},(∀ b∈fp,H' b=ξ)->∀ b∈fp,eS Y [] H' b:=fun {H'} hn b hb=>by
   rw [<- hX];have f:=hfp b hb;refine ⟨hn b hb,?_,?_,.inl hb,?_,?_⟩
   .have:=J0.ok.exf b (by rw [<- hX];exact hb)
    rw [<- hX] at this;exact this.1
   .have:=J0.ok.exfs b (by rw [<- hX];exact hb)
    rw [<- hX] at this;exact this
   .have:=J0.ok.exf b (by rw [<- hX];exact hb)
    rw [<- hX] at this;exact this.2
   .intro p hp;have hp':p∈X.pn++af:=by
     rcases By.mp hp with z|z
     .exact z
     .cases z
    exact f.2.2.2.2.2 p hp'
  have accne:s.heap.objs.size∉fp:=fun z=>fne _ z rfl;have never:∀ e Z,Y.xe e Z->False:=by rw [<- hX];exact fun _ _ z=>z
  have hgY:PG Y tg g:=by rw [<- hX];exact hg _
  have htY:QJ Y ifs tt:=by rw [<- hX];exact ht _
  rw [eE,eP,eW,eA];refine uo (fun n Z=>∃ i L H',Inv Y [] L H' Z/\tn i Z.heap/\(∀ b∈fp,H' b=ξ)/\W i n L H') ?_ m0 ⟨0,ka ix σ,_,J0,M4,fun b hb=>(hfp3 b hb).1,w0⟩;rintro n s5 ⟨i,σ5,H5,I5,st5,fr5,w5⟩;rcases iy i n σ5 H5 w5 with ⟨stop,qn⟩|⟨go,M,hM,step⟩
  .refine bT (T'.done Y rfl rfl rfl eC i [] s5 σ5 H5 _ I5 (fpY fr5) st5 stop) fun r s6 ⟨hr,I6⟩=>?_;subst hr;have I6':=I6;rw [<- hX] at I6';intro htk;let ⟨a1,a2,a3,a4⟩:=Fj (s:={ s with heap:=h2 }) I3 hfp3 I6' htk
   exact hRR _ _ H5 s6 a1 a2 a3 a4 qn
  .refine bT (T'.item Y rfl rfl rfl eC i [] s5 σ5 H5 _ I5 (fpY fr5) st5 go) fun r s6 ⟨u,hr,h6⟩=>?_;subst hr;refine bT h6 fun _ s7 ⟨x,H7,I7,r7,y7,st7,fr7⟩=>?_;have I7':=I7.pinned (fpY fr7) (T.obj _ _ st7);refine abn (hgY _ s7 σ5 H7 x u _ I7' r7 (step x H7 y7)) (fun _ s8 ⟨σ8,H8,I8,q8⟩=>?_) fun e Z z=>(never e Z z).elim;refine abn (htY _ s8 σ8 H8 _ I8 q8) (fun ok s9 ⟨H9,I9,q9⟩=>?_) fun e Z z=>(never e Z z).elim;have again:∀ {σa:St} {Ha:Hp} {sa:DO},Inv Y ([]++lc fp s7.heap) σa Ha sa->M σa Ha->∃ m,m < n/\∃ i L H',Inv Y [] L H' sa/\tn i sa.heap/\(∀ b∈fp,H' b=ξ)/\W i m L H':=fun {σa Ha sa} Ia na=>by
    let ⟨m',hm,wa⟩:=hM σa Ha na
    refine ⟨m',hm,i+1,σa,Ha,Ia.unpinned,T.keep _ _ _ st7 fun b hb o e=>(Ia.pin (b,o) (aaM _ (aaM _ (fe hb e)))).1,fun b hb=>?_,wa⟩;let ⟨o,e,d⟩:=T.obj _ _ st7 b hb
    exact (Ia.pin (b,o) (aaM _ (aaM _ (fe hb e)))).2.1
   cases ok with
   | false =>
    rw [afJ GT] at q9 ⊢;exact again I9 q9
   | true =>
    rw [afI rfl] at q9 ⊢;have I9':=I9;rw [<- hX] at I9';rw [<- eP,<- eW,<- eA,<- eE];refine abn (he { s with heap:=h2 } _ _ s9 σ8 H9 _ _ I3 hfp3 (fun b hb=>let ⟨o,e,d⟩:=T.obj _ _ st7 b hb;⟨o,fe hb e⟩) I9' q9) (fun y sb ⟨vb,Hb,Ib',rb,xs,hx,hz,nb⟩=>?_) fun _ _ z=>z;have Ib:Inv Y ([]++lc fp s7.heap) σ8 Hb sb:=by rw [<- hX];exact Ib'
    rw [eP,eW,eA];refine abn (sr (X:=Y) _ sb σ8 Hb (.ref s.heap.objs.size) [vb] (.ref s.heap.objs.size) [y] (fun v H'=>M σ8 H') Ib rfl (.cons rb .nil) ⟨s.heap.objs.size,xs,vb,rfl,rfl,hx,hz,nb⟩) (fun _ sc ⟨vc,Hc,Ic,rc,nc⟩=>?_) fun e Z z=>(never e Z z).elim;exact again Ic nc
 exact codeAny_compStart_list (fin _ rfl (by walk_at "tok")) (T.self _ 0 _ _ _ (T.keep _ _ _ st fun b hb o e=>hk1 b o (old b o e)) (fin _ rfl (by walk_at "tok")))
theorem Dj (S:CScope osc ON N ix scope) (hE:X.env.scope=osc) (hO:X.N=ON) (hc:X.calm=ζ) (hi:PI X tg iter wi) (hg:∀ b,PG (iJ X N scope b) tg g) (ht:∀ b,QJ (iJ X N scope b) ifs tt) (he:∀ b,PE (iJ X N scope b) elt te)
  (hs:∀ x,abI iter X.env x=pure x:=by intro _;rfl):PE X (.ListComp elt [⟨tg,iter,ifs,0⟩] scope pos) (Ao ix wi g tt te):=by
 intro af s σ H Q I h;have r:∀ y∈scope.names,y.2=.free->∃ c,X.env.cells.lookup y.1=θ c:=fun y hy e=>I.ok.has y.1 (by subst hE;exact S.outs y hy e);refine wpAny_comprehension_free rfl hs (fX r) S.kind S.names (bT (hi af s σ H _ I h) fun v s1 h1=>bT h1 fun itv s2 h2=>?_);obtain ⟨it,fp,tn,J,H2,e,I2,T,Y,f2,q⟩:=h2;subst e;refine sx S hE hO hc hg ht (fun s0 H0 pl Z L H' Q' u _ _ _ M q'=>abn (he _ _ Z L H' Q' M q') (fun _ _ z=>z) fun _ _ z=>z.elim) I2 T Y f2 q fun u C H' Z M hn hC fC q'=>?_;let ⟨m,hn⟩:=hn
 refine ⟨m,hn,fun h' sb=>⟨.ref u,H',?_,rfl,q'⟩⟩;let ⟨f0,f1,f2',f3,f4,f5⟩:=fC
 exact M.turned (fun b o hb e=>(sb.2 b hb).trans e) f0 f1 f3 f4 f5
theorem yA {spos pos':Pos} (hN:X.N.Nodup) (hx:X.N[i]?=θ x) (hl:wE X.env.scope x) (S:CScope osc ON N ix scope) (hE:X.env.scope=osc) (hO:X.N=ON) (hc:X.calm=ζ) (hi:PI X tg iter wi) (hg:∀ b,PG (iJ X N scope b) tg g) (ht:∀ b,QJ (iJ X N scope b) ifs tt) (he:∀ b,PE (iJ X N scope b) elt te)
  (hsw:acq (.ListComp elt [⟨tg,iter,ifs,0⟩] scope pos) (θ (.Name x pos')) spos.line X.env=pure ζ:=by rfl)
  (hf:X.fn x=ζ\/X.env.scope.names.lookup x=θ .local:=by walk_at"u")
  (hs:∀ x,abI iter X.env x=pure x:=by intro _;rfl):PS X (.Assign [.Name x pos'] (.ListComp elt [⟨tg,iter,ifs,0⟩] scope pos) spos) (uw (Ao ix wi g tt te) (ku i)):=by
 intro af s σ H D I h;rw [exec_Assign_Name_used _ _ _ _ hsw];refine dO (wpAny_standAt (dO ?_));have r:∀ y∈scope.names,y.2=.free->∃ c,X.env.cells.lookup y.1=θ c:=fun y hy e=>I.ok.has y.1 (by subst hE;exact S.outs y hy e);refine dO (abn (wpAny_comprehension_free rfl hs (fX r) S.kind S.names
  (bT (hi af s σ H _ I h) fun v s1 h1=>bT h1 fun itv s2 h2=>?_)) (fun _ M hq=>rW (rW hq)) fun _ _ e=>e)
 obtain ⟨it,fp,tn,J,H2,e,I2,T,st2,f2,q⟩:=h2;subst e;refine sx S hE hO hc hg ht (fun s0 H0 pl M Z H' Q' L _ _ _ I' q'=>abn (he _ _ M Z H' Q' I' q') (fun _ _ z=>z) fun _ _ z=>z.elim) I2 T st2 f2 q fun L C H' M I' hn hC fC q'=>?_;let ⟨m,hn⟩:=hn
 have Y:∃ o,M.heap.get? C=θ o/\∀ v,o.data≠.cell v:=by
  let ⟨o,es,ep,ho,hd,_⟩:=hn
  grind
 have only:∀ b∈[C],b=C:=fun b hb=>by simpa using hb
 have I1:=I'.pinned (fun b hb=>(only b hb) ▸ fC) (fun b hb=>(only b hb) ▸ Y);refine abn (zc hN hx hl hf (af++lc [C] M.heap) M σ H' (.ref L) (.ref L) D.nx I1 rfl q') (fun _ s'' ⟨σ2,H2,I2',q2⟩=>?_) fun _ _ z=>z;let ⟨o,ho,hd⟩:=Y
 have pn:=I2'.pin (C,o) (aaM _ (aaM _ (fe (by simp) ho)));refine ⟨m,hn.at' fun o' e=>by simp_all,fun h' sb=>⟨σ2,H2,?_,q2⟩⟩;let ⟨f0,f1,f2',f3,f4,f5⟩:=fC
 exact I2'.unpinned.turned (fun b o hb e=>(sb.2 b hb).trans e) pn.2.1 f1 f3 f4 f5
end
theorem pG {K:aT} {St:Nat->acV->Prop} (W:∀ A:acy,A.handled=ξ->Walks P w A it [it] [it] n Pv St)
  (ob:∀ i h,St i h->∃ (o:Obj) (nm:String) (vs:Array oR),h.get? it=θ o/\o.cls=.type nm/\o.data=.fields vs/\["enumerate","zip","dict_itemiterator","dict_reverseitemiterator","odict_iterator","itertools.zip_longest","itertools.pairwise"].contains nm=η)
  (go:∀ i H,J.go i H->i < n) (M:∀ i H u,J.go i H->Pv i u->∃ x,aX x u/\J.yld i H x H) (dn:∀ i h H,J.stop i H->St i h->St n h)
  (self:∀ (A:acy) (i:Nat) (s:DO) (Q:afR) (E:afR),St i s.heap->Q (.ref it) s->aaN (aaV P w) A (pyIter (.ref it)) Q E s):Turn P w K tg J [it] it St where
 mem:=by simp
 obj:=fun i h st b hb=>by
  grind
 keep:=fun i h h' st k=>(W {} rfl).frame i h h' st fun b hb o e=>k b hb o e
 item:=by
  intro X Z hw Y L i af s σ H E I r st hg;let ⟨f0,f1,f2,f3,f4,f5⟩:=r it (by simp)
  refine aW I.tk ((W X.A (I.ok.hd L)).item i s _ _ (go i H hg) st fun v h' tk hv g C z=>?_);have I1  := I.turned (fun b o hb e=>C b o (by simpa using hb) e) f0 f1 f3 f4 f5;let ⟨x,rx,yx⟩:=M i H v hg hv
  let ⟨o,nm,vs,h1,h2,h3,h4⟩:=ob (i+1) h' g
  exact ⟨v,rfl,we h1 h2 h3 h4 ⟨x,H,I1,rx,yx,g,fun b hb=>(r b hb).1⟩⟩
 done:=by
  intro X Z hw Y L i af s σ H E I r st hg;let ⟨f0,f1,f2,f3,f4,f5⟩:=r it (by simp)
  exact aW I.tk ((W X.A (I.ok.hd L)).done s _ _ (dn i s.heap H hg st) fun h' tk C z=>⟨rfl,I.turned (fun b o hb e=>C b o (by simpa using hb) e) f0 f1 f3 f4 f5⟩)
 self:=self
def Rj (z:Str):It:=⟨fun i _=>i < z.length,fun i H x H'=>H'=H/\∃ c,z.cps[i]?=θ c/\x=.str ⟨#[c]⟩,fun i _=>i=z.length⟩
def Ek (h:SignAt z i u):∃ x,aX x u/\(Rj z).yld i H x H:=by
 obtain ⟨c,t,g,rfl⟩:=h;exact ⟨.str ⟨#[c]⟩,⟨t,rfl⟩,rfl,c,g,rfl⟩
def wP {K:aT} (it:aa3) (z:Str) (t:Tok):Turn P w K tg (Rj z) [it] it (fun i h=>h.IsStrIter it "str_ascii_iterator" z t i) :=
 pG (fun A hA=>Walks.strAscii hA it z t) (fun i h ⟨o,e,c,d⟩=>⟨o,_,_,e,c,d,by decide⟩) (fun i H h=>h) (fun i H u _ h=>Ek h) (fun i h H e st=>by
  have g:i=z.cps.size:=e;rw [<- g];exact st) fun A i s Q E st h=>wpAny_pyIter_striter_ascii st h
def A5 {K:aT} (it:aa3) (z:Str) (t:Tok):Turn P w K tg (Rj z) [it] it (fun i h=>h.IsStrIter it "str_iterator" z t i) :=
 pG (fun A hA=>Walks.strWide hA it z t) (fun i h ⟨o,e,c,d⟩=>⟨o,_,_,e,c,d,by decide⟩) (fun i H h=>h) (fun i H u _ h=>Ek h) (fun i h H e st=>by
  have g:i=z.cps.size:=e;rw [<- g];exact st) fun A i s Q E st h=>wpAny_pyIter_striter_wide st h
def JZ (bs:List Bool):(aa7 bs.length).all (fun i=>(bs[i]?).getD ζ)=bs.all id:=by
 rw [aca,abF,abF];constructor
 .intro h b hb;let ⟨i,hi,e⟩:=List.getElem_of_mem hb
  simp_all
 .intro h i hi;have g:=abD.mp hi;rw [lT g];exact h _ (aaX g)
section
variable {X:Cx}
def PM (K:aT) (xs:afV) (H:Hp) (Q:VK):Prop:=match xs with
 | [.ref p]=>∃ bs:List Bool,e8 K H p (bs.map V.bl)/\Q (.bl (bs.all id)) H
 | _=>False
theorem Ho (K:aT) (hc:X.calm=ζ) (Y:X.K=K:=by rfl):bG X (.builtin "all") (PM K):=by
 subst Y;intro Z s σ H xs us Q I r h;unfold PM at h;split at h
 case h_2=>exact h.elim
 rename_i p;let ⟨bs,hq,q⟩:=h
 obtain ⟨u,rfl,M⟩:=gG r;cases M;let ⟨its,rv,pl,hz⟩:=I.list hq
 have L:X.A.in1.handled=ξ:=I.ok.hd hc;refine aW I.tk (call_all_walk (wpAny_pyIter_list pl.isList ?_));have g:p≠s.heap.objs.size:=by
  let ⟨o,ho,_⟩:=pl.isList
  exact aa0 (ID ho)
 refine ⟨s.heap.objs.size,[s.heap.objs.size,p],[s.heap.objs.size],its.toArray.size,_,_,fun i=>(bs[i]?).getD ζ,rfl,afk L _ p g its.toArray,⟨⟨_,Do _ rfl,rfl,rfl⟩,Heap.IsList.push pl.isList _⟩,?_,?_⟩
 .intro i v s' Q' E' hv hQ';have hv'  := by simpa using hv
  have hi  := (aaW.mp hv').1;have hl:=rv.length;rw [lE] at hl;have hb:(bs.map V.bl)[i]?=θ (V.bl bs[i]):=by
   grind
  let ⟨u,hu,ru⟩:=rv.get hb
  rw [hv'] at hu;cases hu;cases ru;have z:Q' bs[i] s':=by
   simp_all
  exact aci z
 .intro h' tk hk;have J:Inv X Z σ H { s with heap:=s.heap.push { cls:=.type "list_iterator",data:=.fields #[.ref p,.int 0 0] } }:=I.kept fun b o e=>eQ _ e;have e1:(aa7 its.toArray.size).all (fun i=>(bs[i]?).getD ζ)=bs.all id:=by
   have hl:=rv.length;rw [lE] at hl;rw [aaY,<- hl];exact JZ bs
  rw [e1];let ⟨f0,f1,f2,f3,f4,f5⟩:=I.fpOk (nE _) (I.hok.fresh (nE _))
  exact fun C=>⟨.bl (bs.all id),H,J.turned (fun b o hb e=>hk b o (by simpa using hb) e) f0 f1 f3 f4 f5,rfl,q⟩
end
def PE.imp (h:PE X e t) (i:∀ σ H Q,t' σ H Q->t σ H Q):PE X e t':=fun g s σ H Q I q=>h g s σ H Q I (i σ H Q q)
def cD.imp (h:cD X f r) (i:∀ x y H Q,r' x y H Q->r x y H Q):cD X f r':=fun g s σ H x y v u Q I a b q=>h g s σ H x y v u Q I a b (i x y H Q q)
def HE.imp (h:HE X f r) (i:∀ x H Q,r' x H Q->r x H Q):HE X f r':=fun g s σ H x v Q I a q=>h g s σ H x v Q I a (i x H Q q)
def bG.imp (h:bG X f r) (i:∀ xs H Q,r' xs H Q->r xs H Q):bG X f r':=fun g s σ H xs us Q I a q=>h g s σ H xs us Q I a (i xs H Q q)
def v6.imp (h:v6 X r) (i:∀ x y H Q,r' x y H Q->r x y H Q):v6 X r':=fun value g J s σ H x y v u Q I z C q hs=>h value g J s σ H x y v u Q I z C (i x y H Q q) hs
def uW.imp (h:uW X r) (i:∀ x l u H Q,r' x l u H Q->r x l u H Q):uW X r':=fun Z s σ H x v J L lo g Y Q I M hs z C q=>h Z s σ H x v J L lo g Y Q I M hs z C (i x lo g H Q q)
section
variable {X:Cx} {a b:abu} {ta tb:TE} {pos:Pos} {rest:List abu}
def mW (o:Option (Option V)) (H:Hp) (Q:VK):Prop:=match o with
 | some (θ v)=>Q v H
 | _=>False
def tm (i:Nat):TE:=fun σ H Q=>mW σ[i]? H Q
def qv (i:Nat) (r:X.N[i]?=θ x:=by rfl) (z:oy X.env.scope x:=by walk_at"v") (u:afX x:=by decide)
  (g:(x==("__classdict__":Str))=η:=by decide):PE X (.Name x pos) (tm i):=(w9 r z u g).imp fun σ H Q q=>by
 unfold tm mW at q;split at q
 .rename_i v e;exact ⟨v,e,q⟩
 .exact q.elim
def X2 (tb:TE) (σ:St) (Q:VK):VK:=fun x H1=>match x with
 | .bl c=>if c=ζ then tb σ H1 Q else Q (.bl η) H1
 | _=>False
def WF (ta tb:TE):TE:=fun σ H Q=>ta σ H (X2 tb σ Q)
def kOr (tb:TE) (σ:St) (Q:VK):VK:=fun x H1=>match x with
 | .bl c=>if c=ζ then Q (.bl ζ) H1 else tb σ H1 Q
 | _=>False
def aar (ta tb:TE):TE:=fun σ H Q=>ta σ H (kOr tb σ Q)
def Zx (Q:VK):VK:=fun x H1=>match x with
 | .bl c=>Q (.bl (!c)) H1
 | _=>False
def U8 (ta:TE):TE:=fun σ H Q=>ta σ H (Zx Q)
def Nb (J:PE X a ta) (hb:PE X (.BoolOp .And (b::rest) pos) tb):PE X (.BoolOp .And (a::b::rest) pos) (WF ta tb):=by
 intro u s σ H Q I h;refine BoolOp_and (bT (J u s σ H _ I h) fun v C z=>ji z fun x H1 r r1 g=>?_);cases x with
 | bl c =>
  cases r1;refine aci ?_;cases c with
  | true=>exact hb u C σ H1 Q r g
  | false=>exact ⟨.bl η,H1,r,rfl,g⟩
 | _=>exact g.elim
def TY (J:PE X a ta) (hb:PE X (.BoolOp .Or (b::rest) pos) tb):PE X (.BoolOp .Or (a::b::rest) pos) (aar ta tb):=by
 intro u s σ H Q I h;refine BoolOp_or (bT (J u s σ H _ I h) fun v C z=>ji z fun x H1 r r1 g=>?_);cases x with
 | bl c =>
  cases r1;refine aci ?_;cases c with
  | false=>exact hb u C σ H1 Q r g
  | true=>exact ⟨.bl ζ,H1,r,rfl,g⟩
 | _=>exact g.elim
def M0 (z:PE X a ta):PE X (.UnaryOp .Not a pos) (U8 ta):=by
 intro C s σ H Q I h;refine UnaryOp_ (bT (z C s σ H _ I h) fun v J u=>ji u fun x H1 r r1 g=>?_);cases x with
 | bl c =>
  cases r1;exact not_of (aci ⟨.bl (!c),H1,r,rfl,g⟩)
 | _=>exact g.elim
def TZ (Q:Bool->Hp->Prop):VK:=fun x H'=>match x with
 | .bl k=>Q k H'
 | _=>False
def MP (t:TE):TT:=fun σ H Q=>t σ H (TZ Q)
def Lb (L:cD X (aa1 op) r) (ha:PE X a ta) (hb:PE X b tb) (Y:acO op b=η):PT X (.Compare a [op] [b] pos) (MP (Cu r ta tb)):=by
 intro C s σ H Q I h;refine wpAny_isTrue_Compare1 (bT (ha C s σ H _ I h) fun v s1 g=>ji g fun x H1 Z r1 M=>bT (hb C s1 σ H1 _ Z M) fun u s2 g=>ji g fun y H2 I2 r2 q2 =>
  bT (L C s2 σ H2 x y v u _ I2 r1 r2 q2) fun c s3 g=>ji g fun z H3 I3 r3 J=>?_) Y
 cases z with
 | bl k =>
  cases r3;exact aci ⟨H3,I3,J⟩
 | _=>exact J.elim
def XA (K:aT) (Q:Bool->Hp->Prop):VK:=fun x H=>match x with
 | .non=>Q η H
 | .bl b=>Q b H
 | .int i=>Q (i != 0) H
 | .str y=>y.length<=RW/\Q ((y.length:Int) != 0) H
 | .ref p=>((∃ xs,e8 K H p xs/\Q (!xs.isEmpty) H)\/(∃ xs,g6 K H p xs/\Q (!xs.isEmpty) H))\/∃ g,H p=θ (.dK g)/\Q (!g.isEmpty) H
 | _=>False
def Fh (K:aT) (ta:TE):TT:=fun σ H Q=>ta σ H (XA K Q)
def D8 (K:aT) (Y:PE X a ta) (M:∀ g,isTrue a X.env g=(do let v <- g;ae1 a.pos;holding [v] (truthy v))) (L:X.K=K:=by rfl) :
  PT X a (Fh K ta):=by
 subst L;intro u s σ H Q I h;refine isTrue_plain (bT (Y u s σ H _ I h) fun v J C=>ji C fun x H1 z r1 r=>Q3 u J σ H1 x v Q z r1 ?_) (M _);cases x with
 | non=>exact ⟨_,rfl,r⟩
 | bl b=>exact ⟨_,rfl,r⟩
 | int i=>exact ⟨_,rfl,r⟩
 | str y=>exact ⟨_,⟨r.1,rfl⟩,r.2⟩
 | ref p =>
  rcases r with (⟨xs,h1,h2⟩|⟨xs,h1,h2⟩)|⟨xs,h1,h2⟩
  .exact ⟨_,.inl ⟨xs,h1,rfl⟩,h2⟩
  .exact ⟨_,.inr (.inl ⟨xs,h1,rfl⟩),h2⟩
  .exact ⟨_,.inr (.inr ⟨xs,h1,rfl⟩),h2⟩
 | _=>exact r.elim
def OT:R2:=fun x y H Q=>match x,y with
 | .int i,.int j=>Q (.int (i - j)) H
 | _,_=>False
def Xd:cD X (ab3 .Sub) OT:=OU.imp fun x y H Q q=>by
 unfold OT at q;split at q
 .exact ⟨_,_,rfl,rfl,q⟩
 .exact q.elim
def No:R2:=fun x y H Q=>match x,y with
 | .int i,.int j=>D3 i j/\Q (.int (i/j)) H
 | _,_=>False
def YR:cD X (ab3 .FloorDiv) No:=Ku.imp fun x y H Q q=>by
 unfold No at q;split at q
 .exact ⟨_,_,rfl,rfl,q.1,q.2⟩
 .exact q.elim
def OK:R2:=fun x y H Q=>match x,y with
 | .int i,.int j=>0 < j/\Q (.int (i % j)) H
 | _,_=>False
def Xj:cD X (ab3 .Mod) OK:=Nk.imp fun x y H Q q=>by
 unfold OK at q;split at q
 .exact ⟨_,_,rfl,rfl,q.1,q.2⟩
 .exact q.elim
def OL:R2:=fun x y H Q=>match x,y with
 | .int i,.int j=>Fv i j/\Q (.int (i ^ j.toNat)) H
 | _,_=>False
def Ys:cD X (ab3 .Pow) OL:=Pq.imp fun x y H Q q=>by
 unfold OL at q;split at q
 .exact ⟨_,_,rfl,rfl,q.1,q.2⟩
 .exact q.elim
def Oa (x:V) (H:Hp) (Q:VK):Prop:=match x with
 | .int i=>Q (.int (-i)) H
 | _=>False
def Yy:HE X (unaryOp .USub) Oa:=NG.imp fun x H Q q=>by
 unfold Oa at q;split at q
 .exact ⟨_,rfl,q⟩
 .exact q.elim
def A4:cD X (aa1 .LtE) (fun x y H Q=>∃ i j,x=.str i/\y=.str j/\Q (.bl (!decide (j.cps.toList < i.cps.toList))) H):=by
 intro z s σ H x y v u Q I g r h;obtain ⟨i,j,rfl,rfl,q⟩:=h;obtain ⟨t,rfl⟩:=g;obtain ⟨t',rfl⟩:=r;exact P.le_str (aU I q rfl)
def BB:cD X (aa1 .GtE) (fun x y H Q=>∃ i j,x=.str i/\y=.str j/\Q (.bl (!decide (i.cps.toList < j.cps.toList))) H):=by
 intro z s σ H x y v u Q I g r h;obtain ⟨i,j,rfl,rfl,q⟩:=h;obtain ⟨t,rfl⟩:=g;obtain ⟨t',rfl⟩:=r;exact P.ge_str (aU I q rfl)
def BL:cD X (aa1 .Gt) (fun x y H Q=>∃ i j,x=.str i/\y=.str j/\Q (.bl (decide (j.cps.toList < i.cps.toList))) H):=by
 intro z s σ H x y v u Q I g r h;obtain ⟨i,j,rfl,rfl,q⟩:=h;obtain ⟨t,rfl⟩:=g;obtain ⟨t',rfl⟩:=r;exact P.gt_str (aU I q rfl)
def XT:R2:=fun x y H Q=>match x,y with
 | .int i,.int j=>Q (.bl (decide (i < j))) H
 | .str i,.str j=>Q (.bl (decide (i.cps.toList < j.cps.toList))) H
 | _,_=>False
def YX:R2:=fun x y H Q=>match x,y with
 | .int i,.int j=>Q (.bl (decide (i<=j))) H
 | .str i,.str j=>Q (.bl (!decide (j.cps.toList < i.cps.toList))) H
 | _,_=>False
def XG:R2:=fun x y H Q=>match x,y with
 | .int i,.int j=>Q (.bl (decide (j < i))) H
 | .str i,.str j=>Q (.bl (decide (j.cps.toList < i.cps.toList))) H
 | _,_=>False
def Xg:R2:=fun x y H Q=>match x,y with
 | .int i,.int j=>Q (.bl (decide (j<=i))) H
 | .str i,.str j=>Q (.bl (!decide (i.cps.toList < j.cps.toList))) H
 | _,_=>False
def aaq:cD X (aa1 .Lt) XT:=(VH.or Bc).imp fun x y H Q q=>by
 unfold XT at q;split at q
 .exact .inl ⟨_,_,rfl,rfl,q⟩
 .simp_all
 .exact q.elim
def aaf:cD X (aa1 .LtE) YX:=(Vq.or A4).imp fun x y H Q q=>by
 unfold YX at q;split at q
 .exact .inl ⟨_,_,rfl,rfl,q⟩
 .simp_all
 .exact q.elim
def Z7:cD X (aa1 .Gt) XG:=(Ss.or BL).imp fun x y H Q q=>by
 unfold XG at q;split at q
 .exact .inl ⟨_,_,rfl,rfl,q⟩
 .simp_all
 .exact q.elim
def Z6:cD X (aa1 .GtE) Xg:=(TB.or BB).imp fun x y H Q q=>by
 unfold Xg at q;split at q
 .exact .inl ⟨_,_,rfl,rfl,q⟩
 .simp_all
 .exact q.elim
theorem GA:cD X (aa1 .Is) (fun x y H Q=>∃ j,y=.bl j/\Q (.bl (decide (x=.bl j))) H):=by
 intro z s σ H x y v u Q I g r h;obtain ⟨j,rfl,q⟩:=h;cases r;cases x with
 | bl i=>cases g;exact acB rfl (aU I q (by grind))
 | non=>cases g;exact acB rfl (aU I q (by simp))
 | int i=>obtain ⟨t,rfl⟩:=g;exact acB rfl (aU I q (by simp))
 | str i=>obtain ⟨t,rfl⟩:=g;exact acB rfl (aU I q (by simp))
 | byt i=>obtain ⟨t,rfl⟩:=g;exact acB rfl (aU I q (by simp))
 | flt i=>obtain ⟨t,rfl⟩:=g;exact acB rfl (aU I q (by simp))
 | ref i=>cases g;exact acB rfl (aU I q (by simp))
 | ty i=>cases g;exact acB rfl (aU I q (by simp))
theorem vn:cD X (aa1 .IsNot) (fun x y H Q=>∃ j,y=.bl j/\Q (.bl (!decide (x=.bl j))) H):=by
 intro z s σ H x y v u Q I g r h;obtain ⟨j,rfl,q⟩:=h;cases r;cases x with
 | bl i=>cases g;exact ab8 rfl (aU I q (by cases i <;> cases j <;> rfl))
 | non=>cases g;exact ab8 rfl (aU I q (by simp))
 | int i=>obtain ⟨t,rfl⟩:=g;exact ab8 rfl (aU I q (by simp))
 | str i=>obtain ⟨t,rfl⟩:=g;exact ab8 rfl (aU I q (by simp))
 | byt i=>obtain ⟨t,rfl⟩:=g;exact ab8 rfl (aU I q (by simp))
 | flt i=>obtain ⟨t,rfl⟩:=g;exact ab8 rfl (aU I q (by simp))
 | ref i=>cases g;exact ab8 rfl (aU I q (by simp))
 | ty i=>cases g;exact ab8 rfl (aU I q (by simp))
def y4:V->V->Bool
 | .non,.non=>ζ
 | .bl i,.bl j=>i==j
 | _,_=>η
def YN:R2:=fun x y H Q=>match y with
 | .non=>Q (.bl (y4 x .non)) H
 | .bl j=>Q (.bl (y4 x (.bl j))) H
 | _=>False
def wK:R2:=fun x y H Q=>match y with
 | .non=>Q (.bl (!y4 x .non)) H
 | .bl j=>Q (.bl (!y4 x (.bl j))) H
 | _=>False
def zm (x:V):decide (x=.non)=y4 x .non:=by cases x <;> simp [y4]
def DR (x:V) (j:Bool):decide (x=.bl j)=y4 x (.bl j):=by
 cases x with
 | bl i=>cases i <;> cases j <;> rfl
 | _=>simp [y4]
def aaL:cD X (aa1 .Is) YN:=(Qn.or GA).imp fun x y H Q q=>by
 unfold YN at q;split at q
 .exact .inl ⟨rfl,by rw [zm];exact q⟩
 .exact .inr ⟨_,rfl,by rw [DR];exact q⟩
 .exact q.elim
def DE:cD X (aa1 .IsNot) wK:=(IG.or vn).imp fun x y H Q q=>by
 unfold wK at q;split at q
 .exact .inl ⟨rfl,by rw [zm];exact q⟩
 .exact .inr ⟨_,rfl,by rw [DR];exact q⟩
 .exact q.elim
def Ra (K:aT):R2:=fun x y H Q=>match x,y with
 | .str z,.int i=>∃ c,z.length<=RW/\atI z.cps.toList i=θ c/\Q (.str ⟨#[c]⟩) H
 | .ref p,.int i=>∃ xs v,(e8 K H p xs\/g6 K H p xs)/\atI xs i=θ v/\Q v H
 | _,_=>False
def YL:v6 X (Ra X.K):=O9.imp fun x y H Q q=>by
 unfold Ra at q;split at q
 .let ⟨c,h1,h2,g⟩:=q
  exact .inr (.inr ⟨_,_,c,rfl,rfl,h1,h2,g⟩)
 .obtain ⟨xs,v,h1|h1,h2,g⟩:=q
  .exact .inl ⟨_,xs,_,v,rfl,rfl,h1,h2,g⟩
  .exact .inr (.inl ⟨_,xs,_,v,rfl,rfl,h1,h2,g⟩)
 .exact q.elim
def aag (K:aT) (g:X.K=K:=by rfl):v6 X (Ra K):=by
 subst g;exact YL
def JD (K:aT) (xs:afV) (H:Hp) (Q:VK):Prop:=match xs with
 | [.str y]=>y.length<=RW/\Q (.int y.length) H
 | [.ref p]=>∃ ys,(e8 K H p ys\/g6 K H p ys)/\Q (.int ys.length) H
 | _=>False
def Ui:bG X (.builtin "len") (JD X.K):=(um.or uJ).imp fun xs H Q q=>by
 unfold JD at q;split at q
 .simp_all
 .simp_all
 .exact q.elim
def V1 (K:aT) (g:X.K=K:=by rfl):bG X (.builtin "len") (JD K):=by
 subst g;exact Ui
def OD (xs:afV) (H:Hp) (Q:VK):Prop:=match xs with
 | [.int i]=>Q (.int (if i < 0 then -i else i)) H
 | _=>False
def Xv:bG X (.builtin "abs") OD:=Hd.imp fun xs H Q q=>by
 unfold OD at q;split at q
 .simp_all
 .exact q.elim
def QA (xs:afV) (H:Hp) (Q:VK):Prop:=match xs with
 | [.int i]=>Q (.int i) H
 | [.bl k]=>Q (.int (if k=ζ then 1 else 0)) H
 | _=>False
def Zq:bG X (.type "int") QA:=Bz.imp fun xs H Q q=>by
 unfold QA at q;split at q
 .simp_all
 .simp_all
 .exact q.elim
end
noncomputable def aI:abu->Bool
 | .Starred ..=>η
 | _=>ζ
def bH (h:aI e=ζ):aa2 (e::es) env=(η,eval e env)::aa2 es env:=by
 cases e <;> first|rfl|cases h
theorem cK:∀ {es:List abu},es.all aI=ζ->(acL pos (aa2 es env)).any (·.1)=η
 | [],_=>rfl
 | e::es,h=>by
  rw [abO,Pi] at h;rw [bH h.1];have g:=cK (env:=env) (pos:=pos) h.2;assumption
def Ab (g:PE X e te) (hr:PA X es t) (hn:aI e=ζ:=by rfl):PA X (e::es) (qI te t):=K3 g hr (bH hn)
section
variable {p pos:Pos} {id:String}
def Y8 (C:bG X (.builtin id) r) (v:X.mg x=ξ) (u:MK x=θ (.builtin id)) (z:PA X (e::es) t) (hg:Gl X x:=by rfl) (h1:aI e=ζ:=by rfl) (h2:es.all aI=ζ:=by rfl) (hn:x≠"__name__":=by decide) (g:afX x:=by decide) :
  PE X (.Call (.Name x p) (e::es) [] pos) (Rk r t):=GG C hg v u z hn g (bH h1) (cK h2)
def Yo (C:bG X (.type T) r) (v:X.mg x=ξ) (u:MK x=θ (.type T)) (z:PA X (e::es) t) (hg:Gl X x:=by rfl) (h1:aI e=ζ:=by rfl) (h2:es.all aI=ζ:=by rfl) (hn:x≠"__name__":=by decide) (g:afX x:=by decide) :
  PE X (.Call (.Name x p) (e::es) [] pos) (Rk r t):=Bg C hg v u z hn g (bH h1) (cK h2)
end
theorem wQ:MK "len"=θ (.builtin "len"):=by trivial
theorem Qw:MK "all"=θ (.builtin "all"):=by trivial
theorem P6:MK "abs"=θ (.builtin "abs"):=by trivial
theorem kD:MK "isinstance"=θ (.builtin "isinstance"):=by trivial
theorem P9:MK "min"=θ (.builtin "min"):=by trivial
theorem NB:MK "max"=θ (.builtin "max"):=by trivial
theorem Qm:MK "str"=θ (.type "str"):=by trivial
theorem Ee:MK "int"=θ (.type "int"):=by trivial
theorem K7:MK "bool"=θ (.type "bool"):=by trivial
theorem oS:MK "list"=θ (.type "list"):=by trivial
theorem qQ:MK "tuple"=θ (.type "tuple"):=by trivial
theorem zJ:MK "dict"=θ (.type "dict"):=by trivial
theorem Pb:MK "zip"=θ (.type "zip"):=by trivial
theorem uK:MK "enumerate"=θ (.type "enumerate"):=by trivial
theorem Om:MK "set"=θ (.type "set"):=by trivial
def UU {pos:Pos} (u:X.mg x=ξ) (r:MK x=θ (.type n)) (hg:Gl X x:=by rfl) (hn:x≠"__name__":=by decide) (g:afX x:=by decide):PE X (.Name x pos) (tC (.ty n)) :=
 J5 hg u r rfl hn g
def jK (T C:String):Bool:=T==C||(T=="bool"&&C=="int")
noncomputable def nH (C:String):Bool:=C=="str"||C=="int"||C=="bool"||C=="list"||C=="tuple"||C=="dict"
theorem gZ {K:aT} (r:T="NoneType"\/T="bool"\/T="int"\/T="str"\/T="list"\/T="tuple"\/T="dict") (u:nH C=ζ):ac9 K (.type T) (.type C)=θ (jK T C):=by
 have g:C="str"\/C="int"\/C="bool"\/C="list"\/C="tuple"\/C="dict":=by
  unfold nH at u
  grind
 rcases r with h|h|h|h|h|h|h <;> subst h <;> rcases g with h|h|h|h|h|h <;> subst h <;> first|rfl|decide +kernel
section
variable {X:Cx}
def U0 (Q:Option Int->Hp->Prop):VK:=fun x H1=>match x with
 | .int i=>Q (θ i) H1
 | _=>False
def Mn (t:TE):TO:=fun σ H Q=>t σ H (U0 Q)
def JL (h:PE X e te):PO X (θ e) (Mn te):=by
 intro z s σ H Q I hw;refine bT (h z s σ H _ I hw) fun u C v=>ji v fun x H1 r r1 g=>?_;cases x with
 | int i =>
  obtain ⟨t,rfl⟩:=r1;exact ⟨θ i,H1,r,.int i t,g⟩
 | _=>exact g.elim
def kG (z:Str) (lo g:Option Int):Str:=⟨((z.cps.toList.drop (HT.sIx z.length 0 lo)).take (HT.sIx z.length z.length g - HT.sIx z.length 0 lo)).toArray⟩
theorem L5 (v:Int) (n d:Nat):max 0 (min (if v < 0 then v+(n:Int) else v) (n:Int))=((HT.sIx n d (θ v):Nat):Int):=by
 show _=(((if v < 0 then (v+n).toNat else min v.toNat n):Nat):Int)
 grind
def loS (lo:Option Int) (n:Nat):(match lo with|none=>(0:Int)|some i=>max 0 (min (if i < 0 then i+(n:Int) else i) (n:Int)))=((HT.sIx n 0 lo:Nat):Int):=by
 cases lo with
 | none=>rfl
 | some v=>exact L5 v n 0
def hiS (g:Option Int) (n:Nat):(match g with|none=>(n:Int)|some i=>max 0 (min (if i < 0 then i+(n:Int) else i) (n:Int)))=((HT.sIx n n g:Nat):Int):=by
 cases g with
 | none=>rfl
 | some v=>exact L5 v n n
def VI (lo g:Option Int) (n:Nat):acm lo g 1 n=sliceRange ((HT.sIx n 0 lo:Nat):Int) ((HT.sIx n n g:Nat):Int) 1:=by
 rw [<- loS,<- hiS];rfl
def Yl (a b n:Nat) (g:a<=n) (hb:b<=n):acm (θ (a:Int)) (θ (b:Int)) 1 n=sliceRange (a:Int) (b:Int) 1:=by
 rw [VI,HT.gh,HT.gh,acI g,acI hb]
theorem yC (z:Str) (lo hi:Option Int):Txt.slice z lo hi=kG z lo hi:=by
 have r:=HT.xt z.length 0 (aaQ _) lo;have hb:=HT.xt z.length z.length (nE _) hi;unfold Txt.slice;rw [VI,<- Yl _ _ _ r hb];unfold kG;generalize HT.sIx z.length 0 lo=a at r ⊢;generalize HT.sIx z.length z.length hi=b at hb ⊢;by_cases g:a<=b
 .exact StrLaws.sliceText_nat z g hb
 .have e:acm (θ a) (θ b) 1 z.length=[]:=by
   have h1:((1:Int) > 0)=True:=by simp
   have n1:¬ ((a:Int) < 0):=by lia
   have u:¬ ((b:Int) < 0):=by omega
   have C:max 0 (min a z.length)=a:=by omega
   have e2  := by omega
   simp only [acm,sliceRange,h1,if_true,afJ n1,afJ u,C,e2];rw [afJ (by omega)];rfl
  have v:b - a=0:=by lia
  rw [e,v];split
  .rename_i h;have hz  := by
    have h'  := by simpa using h
    exact h'.symm
   apply Str.ext'
   exact Array.eq_empty_of_size_eq_zero hz
  .rfl
theorem oY (z:Str) (lo g:Option Int):(kG z lo g).length<=z.length:=by
 unfold kG;simp [Str.length];lia
theorem Nd:uW X (fun x lo r H Q=>∃ z,x=.str z/\z.length<=RW/\Q (.str (kG z lo r)) H):=by
 intro af s σ H x v vl vu lo r M Q I rx hs Z J h;obtain ⟨z,rfl,hz,q⟩:=h;obtain ⟨t,rfl⟩:=rx;have fin:∀ (l u:Option (Int×Tok)),l.map (·.1)=lo->u.map (·.1)=r->s.heap.IsSlice M l u ξ->aaN (aaV X.prog X.w) X.A (aea (.str z t) (.ref M)) (EP X af σ Q) X.xe s:=fun l u e1 Y C=>by
  refine aW I.tk (wpAny_getItem_str_slice C rfl ?_);subst e1 Y;refine post_val_or_str ?_;have e:(if (((ξ:Option (Int×Tok)).map (·.1)).getD 1==1&&(slicePicked z l u ξ).length==z.length)=ζ then z else ⟨((slicePicked z l u ξ).filterMap (z.cps[·]?)).toArray⟩)=Txt.slice z (l.map (·.1)) (u.map (·.1)):=rfl;rw [e,yC];exact ⟨Le (oY _ _ _) hz,fun t' k htk=>⟨.str _,H,I.tok _,⟨t',rfl⟩,q⟩⟩
 refine ⟨"str",_,F.slot_str_getitem.lookup,typeIs_str s z t,?_⟩;cases Z with
 | none =>
  cases J with
  | none=>exact fin ξ ξ rfl rfl hs
  | int j g=>exact fin ξ (θ (j,g)) rfl rfl hs
 | int i L =>
  cases J with
  | none=>exact fin (θ (i,L)) ξ rfl rfl hs
  | int j g=>exact fin (θ (i,L)) (θ (j,g)) rfl rfl hs
def Va (K:aT) (x:V) (lo g:Option Int) (H:Hp) (Q:VK):Prop:=match x with
 | .str z=>z.length<=RW/\Q (.str (kG z lo g)) H
 | .ref a=>(∃ xs,e8 K H a xs/\∀ p,H p=ξ->Q (.ref p) (upd H p (.lst (u6 xs lo g)))) \/
  ∃ xs,g6 K H a xs/\¬ (HT.sIx xs.length 0 lo=0/\HT.sIx xs.length xs.length g=xs.length)/\∀ p,H p=ξ->Q (.ref p) (upd H p (.tup (u6 xs lo g)))
 | _=>False
def U3:uW X (Va X.K):=(Nd.or (Kp.or PY)).imp fun x lo r H Q q=>by
 unfold Va at q;split at q
 .exact .inl ⟨_,rfl,q.1,q.2⟩
 .rcases q with ⟨xs,h1,h2⟩|⟨xs,h1,h2,g⟩
  .exact .inr (.inl ⟨_,xs,rfl,h1,h2⟩)
  .exact .inr (.inr ⟨_,xs,rfl,h1,h2,g⟩)
 .exact q.elim
def oSl (K:aT) (g:X.K=K:=by rfl):uW X (Va K):=by
 subst g;exact U3
variable {tg:abu}
def kIt (K:aT) (R:It->Hp->Prop):VK:=fun x H1=>match x with
 | .str z=>R (Rj z) H1
 | .ref a=>((∃ xs,e8 K H1 a xs)/\R (X7 K a) H1)\/((∃ xs,g6 K H1 a xs)/\R (Zg K a) H1)
 | _=>False
def aaA (K:aT) (g:TE):TI:=fun σ H R=>g σ H (kIt K R)
theorem NI (K:aT) (hl:PE X l tl) (Y:X.K=K:=by rfl):PI X tg l (aaA K tl):=by
 subst Y;intro L s σ H R I h;refine bT (hl L s σ H _ I h) fun v u M=>ji M fun x H1 r r1 C=>?_;cases x with
 | str z =>
  obtain ⟨t,rfl⟩:=r1;have g:∀ b∈[u.heap.objs.size],eS X L H1 b:=fun b hb=>by
   have e  := by simpa using hb
   subst e;exact r.fpOk (nE _) (r.hok.fresh (nE _))
  cases ha:z.cps.all (· < 128)
  .refine wpAny_pyIter_wide ha ?_;exact ⟨u.heap.objs.size,[u.heap.objs.size],_,_,H1,rfl,r.kept fun b o e=>eQ _ e,A5 _ z t,⟨_,Do _ rfl,rfl,rfl⟩,g,C⟩
  .refine wpAny_pyIter_ascii ha ?_;exact ⟨u.heap.objs.size,[u.heap.objs.size],_,_,H1,rfl,r.kept fun b o e=>eQ _ e,wP _ z t,⟨_,Do _ rfl,rfl,rfl⟩,g,C⟩
 | ref a =>
  cases r1;have g:∀ b∈[u.heap.objs.size],eS X L H1 b:=fun b hb=>by
   have e  := by simpa using hb
   subst e;exact r.fpOk (nE _) (r.hok.fresh (nE _))
  rcases C with ⟨⟨xs,J⟩,q⟩|⟨⟨xs,J⟩,q⟩
  .let ⟨its,rv,p,hz⟩:=r.list J
   refine wpAny_pyIter_list p.isList ?_;exact ⟨u.heap.objs.size,[u.heap.objs.size],_,_,H1,rfl,r.kept fun b o e=>eQ _ e,Ch a _,⟨_,Do _ rfl,rfl,rfl⟩,g,q⟩
  .let ⟨its,rv,p,hz⟩:=r.tuple J
   refine wpAny_pyIter_tuple ((p)) ?_;exact ⟨u.heap.objs.size,[u.heap.objs.size],_,_,H1,rfl,r.kept fun b o e=>eQ _ e,yf a _,⟨_,Do _ rfl,rfl,rfl⟩,g,q⟩
 | _=>exact C.elim
def LC (R:It->Hp->Prop):afV->Hp->Prop:=fun vs H1=>match vs with
 | [.int j]=>(-(2 ^ 62)<=j/\j < 2 ^ 62)/\R (Xa 0 j.toNat) H1
 | _=>False
def MS (ta:TA):TI:=fun σ H R=>ta σ H (LC R)
theorem BC (hg:Gl X "range") (v:X.mg "range"=ξ) (J:PA X [a] ta) (hs:aa2 [a] X.env=[(η,eval a X.env)]:=by rfl):PI X tg (.Call (.Name "range" p) [a] [] pos) (MS ta):=by
 intro L s σ H R I h;refine Call_ (g8 I hg v boot_range (abU (bT (J pos L s σ H _ I h) fun us M C=>ji C fun vs H1 z r1 g=>?_) hs rfl));unfold LC at g;split at g
 .let ⟨⟨q2,q3⟩,q⟩:=g
  cases r1 with
  | cons r u =>
   cases u;obtain ⟨t,rfl⟩:=r;exact call_range_1 (EJ z (by lia) (by lia) q2 q3 (by simpa using q))
 .exact g.elim
def Xy (r:Str->afV->Hp->VK->Prop) (z:Str) (Q:VK):afV->Hp->Prop:=fun xs g=>r z xs g Q
def kSM (r:Str->afV->Hp->VK->Prop) (t:TA) (σ:St) (Q:VK):VK:=fun x H1=>match x with
 | .str z=>t σ H1 (Xy r z Q)
 | _=>False
def aaC (r:Str->afV->Hp->VK->Prop) (g:TE) (t:TA):TE:=fun σ H Q=>g σ H (kSM r t σ Q)
def Vm (X:Cx) (id:String) (r:Str->afV->Hp->VK->Prop):Prop :=
 ∀ (g:afQ) (s:DO) (σ:St) (H:Hp) (z:Str) (t:Tok) (xs:afV) (us:afU) (Q:VK),Inv X g σ H s->ba xs us->r z xs H Q ->
  aaN (aaV X.prog X.w) X.A (call (.builtin id) (.str z t::us)) (EP X g σ Q) X.xe s
theorem WA {apos cpos:Pos} {id:String} (L:Slot "str" name id) (M:typeOf (.builtin id)=pure (.type "method_descriptor")) (hm:Vm X id r) (ho:PE X o to) (ha:PA X (e::es) t)
  (u:abg o name X.env (eval o X.env)=eval o X.env:=by rfl)
  (J:((acL cpos (aa2 (e::es) X.env)).all (fun x=>!x.1)&&(backToKw cpos (adj [] X.env)).all (fun x=>x.1.isSome)
   && decide ((e::es).length+([]:List adv).length+(if ([]:List adv).isEmpty then 0 else 1) < 30))=ζ:=by rfl)
  (C:(apos.endLine==cpos.line)=ζ:=by rfl) (hs:aa2 (e::es) X.env=(η,eval e X.env)::aa2 es X.env:=by rfl) (g:(acL cpos (aa2 es X.env)).any (·.1)=η:=by rfl) :
  PE X (.Call (.Attribute o name apos) (e::es) [] cpos) (aaC r to t):=by
 intro Z s σ H Q I h;refine wpAny_Call_method_late u J C rfl (bT (ho Z s σ H _ I h) fun v s1 Y=>ji Y fun x H1 I1 r1 q1=>?_);cases x with
 | str z =>
  obtain ⟨tk,rfl⟩:=r1;refine ⟨"str",id,PySem.F.plainAttrs_str,L,M,typeIs_str s1 z tk,(fun _ e=>nomatch e),?_⟩
  have hA:=ha cpos Z s1 σ H1 _ I1 q1;rw [hs] at hA ⊢;refine ab4 (by show (η||(acL cpos (aa2 es X.env)).any (·.1))=η;rw [g] <;> rfl) (ac7 ?_);exact bT hA fun us s2 Y=>ji Y fun vs H2 I2 r2 q2=>hm Z s2 σ H2 z tk vs us Q I2 r2 q2
 | _=>exact q1.elim
def CD (K:aT) (z:Str) (xs:afV) (H:Hp) (Q:VK):Prop:=match xs with
 | [.ref p]=>∃ ys:afP,e8 K H p (ys.map V.str)/\(ys.map (·.length)).sum+ys.length*z.length<=16777216/\Q (.str (aeL z ys)) H
 | _=>False
theorem qH:∀ {ys:afP} {us:afU},ba (ys.map V.str) us->StrsAre us ys
 | [],us,r=>by cases r;exact .nil
 | y::ys,us,r=>by
  cases r with
  | cons r g =>
   obtain ⟨t,rfl⟩:=r;exact .cons y t (qH g)
def JP (K:aT) (C:X.K=K:=by rfl):Vm X "str.join" (CD K):=by
 subst C;intro J s σ H z t xs us Q I r h;unfold CD at h;split at h
 .let ⟨ys,hq,hz,q⟩:=h
  obtain ⟨u,rfl,v⟩:=gG r;cases v;let ⟨its,rv,p,hz'⟩:=I.list hq
  exact aW I.tk (join_list p.isList (by simpa using qH rv) hz fun t' k g=>⟨.str (aeL z ys),H,I.tok _,⟨t',rfl⟩,q⟩)
 .exact h.elim
end
structure Def (K:aT) (mg:afS) (x:Str) (st:ac2) (ps:afP) (f:aa3) (fd:acE):Prop where
 F:Fun K x x st f fd
 b:f8 K fd ps []
 m:mg x=θ (.ref f)
section
variable {st:ac2} {p pos:Pos}
def D0 (sp:Sp) (t:TA):TE:=fun σ H Q=>t σ H fun vs H1=>sp vs H1 Q E0
def pc (D:Def X.K X.mg x st ps f fd) (G:FnOk X.prog X.w X.K X.mg X.base gN j f fd ps sp) (hr:Room k X.A) (L:PA X (e::es) t) (J:j<=k:=by decide) (hg:Gl X x:=by rfl) (u:afX x:=by decide)
  (h1:aI e=ζ:=by rfl) (h2:es.all aI=ζ:=by rfl):PE X (.Call (.Name x p) (e::es) [] pos) (D0 sp t):=by
 have C:aa2 (e::es) X.env=(η,eval e X.env)::aa2 es X.env:=bH h1;have g:(acL pos (aa2 es X.env)).any (·.1)=η:=cK h2;intro M s σ H Q I h;refine abm (i9 I hg D.m ?_ u);refine ad2 (h₀:=X.base) I.ok.mod.kin D.F.kp (bT (L pos M s σ H _ I h) fun us Y z=>ji z fun vs H1 v r q=>⟨v.kIn,?_⟩) C g;exact xQ (dvs:=[]) G (hr.mono J) D.b .nil uX v r (by rw [abk];exact q)
end
def aR (h:H p=ξ) (o:HO):aw H (upd H p o):=fun b u q=>by rw [aF (bf q h)];exact q
def aw.seqT {K:aT} (e:aw H H') (h:g6 K H a xs):g6 K H' a xs:=by
 rcases h with (h|⟨o,h⟩)|h
 .exact .inl (.inl (e _ _ h))
 .exact .inl (.inr ⟨o,e _ _ h⟩)
 .exact .inr h
abbrev kH (z:Str):afV:=z.cps.toList.map fun c=>V.str ⟨#[c]⟩
def zD (a b:Str):(a++b).cps.toList=a.cps.toList++b.cps.toList:=by
 exact adS
def str_len (a:Str):a.length=a.cps.toList.length:=by rfl
theorem Ms:∀ (sep:Str) (ys:afP),(Str.join sep ys).cps.toList=((ys.map (fun y:Str=>y.cps.toList)).intersperse sep.cps.toList).flatten
 | _,[]=>rfl
 | _,[x]=>by simp [Str.join]
 | sep,x::y::r=>by
  have g:=Ms sep (y::r);show ((x++sep)++Str.join sep (y::r)).cps.toList=_;rw [zD,zD,g];simp [abr]
def BN (g:Str) (ys:afP):(aeL g ys).cps.toList=((ys.map (fun y:Str=>y.cps.toList)).intersperse g.cps.toList).flatten:=by
 show (Builtin.Str.glued g ys).cps.toList=_;rw [StrLaws.glued_eq_join,Ms]
theorem sn {α:Type}:∀ (xs:List (List α)),(xs.intersperse []).flatten=xs.flatten
 | []=>rfl
 | [x]=>rfl
 | x::y::r=>by
  have g:=sn (y::r);simp_all
theorem xS (ys:afP):(aeL (IF "") ys).cps.toList=(ys.map (fun y:Str=>y.cps.toList)).flatten:=by
 rw [BN];have e:(IF "").cps.toList=[]:=by trivial
 rw [e,sn]
def xa (cs:afO):(aeL (IF "") (cs.map fun c=>(⟨#[c]⟩:Str))).cps.toList=cs:=by
 rw [xS];induction cs with
 | nil=>rfl
 | cons c r g =>
  simp_all
theorem Cc (cs:afO):((cs.map fun c=>(⟨#[c]⟩:Str)).map (·.length)).sum=cs.length:=by
 induction cs with
 | nil=>rfl
 | cons c r g =>
  rw [GE,GE,List.sum_cons,g];show 1+r.length=r.length+1;lia
section
variable {K:aT}
def Zu (r:R2) (x:V) (Q:VK):VK:=fun y g=>r x y g Q
def RB (r:R2) (tb:TE) (σ:St) (Q:VK):VK:=fun x H1=>tb σ H1 (Zu r x Q)
end
structure JE (X:Cx) (e:abu) (t:TE):Prop where
 out:PE X e t
structure JT (X:Cx) (e:abu) (t:TT):Prop where
 out:PT X e t
structure JW (X:Cx) (e:abu) (t:TT):Prop where
 out:PW X e t
structure JA (X:Cx) (es:List abu) (t:TA):Prop where
 out:PA X es t
structure JS (X:Cx) (st:ac2) (t:TS):Prop where
 out:PS X st t
structure JB (X:Cx) (st:List ac2) (t:TS):Prop where
 out:zI X st t
structure JG (X:Cx) (e:abu) (t:TG):Prop where
 out:PG X e t
structure JGs (X:Cx) (es:List abu) (t:IY):Prop where
 out:UT X es t
structure JI (X:Cx) (tg e:abu) (t:TI):Prop where
 out:PI X tg e t
structure JO (X:Cx) (e:Option abu) (t:TO):Prop where
 out:PO X e t
structure JTs (X:Cx) (es:List abu) (t:TT):Prop where
 out:QJ X es t
section
variable {X:Cx} {pos:Pos} {rest:List abu}
def jv (i:Nat) (r:X.N[i]?=θ x:=by rfl) (z:oy X.env.scope x:=by walk_at"v") (u:afX x:=by decide)
  (g:(x==("__classdict__":Str))=η:=by decide):JE X (.Name x pos) (tm i):=⟨qv i r z u g⟩
def Wt:JE X (.Constant (.int i) j pos) (tC (.int i)):=⟨Pf⟩
def Yu {b j pos}:JE X (.Constant (.bool b) j pos) (tC (.bl b)):=⟨Uo⟩
def T5:JE X (.Constant .none j pos) (tC .non):=⟨Ou⟩
def R8:JE X (.Constant (.str x) j pos) (tC (.str x)):=⟨Og⟩
def DJ (g:X.mg x=θ u) (r:aX v u) (hg:Gl X x:=by rfl) (z:afX x:=by decide):JE X (.Name x pos) (tC v):=⟨y9 hg g r z⟩
def XU (u:X.mg x=ξ) (r:MK x=θ (.type n)) (hg:Gl X x:=by rfl) (hn:x≠"__name__":=by decide) (g:afX x:=by decide):JE X (.Name x pos) (tC (.ty n)):=⟨UU u r hg hn g⟩
def X3 (g:cD X (ab3 op) r) (u:JE X a ta) (hb:JE X b tb):JE X (.BinOp a op b pos) (Cu r ta tb):=⟨S6 g u.out hb.out⟩
def XF (g:HE X (unaryOp op) r) (u:JE X a ta):JE X (.UnaryOp op a pos) (ZJ r ta):=⟨Uk g u.out⟩
def WG (g:JE X a ta):JE X (.UnaryOp .Not a pos) (U8 ta):=⟨M0 g.out⟩
def Tc (h:JE X a ta):JE X (.BoolOp op [a] pos) ta:=⟨QT h.out⟩
def UC (g:JE X a ta) (hb:JE X (.BoolOp .And (b::rest) pos) tb):JE X (.BoolOp .And (a::b::rest) pos) (WF ta tb):=⟨Nb g.out hb.out⟩
def Yt (g:JE X a ta) (hb:JE X (.BoolOp .Or (b::rest) pos) tb):JE X (.BoolOp .Or (a::b::rest) pos) (aar ta tb):=⟨TY g.out hb.out⟩
def Uw (g:cD X (aa1 op) r) (u:JE X a ta) (hb:JE X b tb) (v:acO op b=η):JE X (.Compare a [op] [b] pos) (Cu r ta tb):=⟨IL g u.out hb.out v⟩
def DV (g:cD X (aa1 op) r) (u:JE X a ta) (hb:JE X b tb) (v:acO op b=η):JT X (.Compare a [op] [b] pos) (MP (Cu r ta tb)):=⟨Lb g u.out hb.out v⟩
def RJ (r:JT X c tA) (g:JE X a ta) (hb:JE X b tb):JE X (.IfExp c a b pos) (aay tA ta tb):=⟨Et r.out g.out hb.out⟩
def Ko (h:JW X a tA):JT X a tA:=⟨h.out.pt⟩
def Kf (g:JT X a tA):JW X (.BoolOp .And [a] pos) tA:=⟨Jp g.out⟩
def Qa (g:JT X a tA):JW X (.BoolOp .Or [a] pos) tA:=⟨Oo g.out⟩
def Qq (g:JT X a tA) (hb:JW X (.BoolOp .And (b::rest) pos) tB'):JW X (.BoolOp .And (a::b::rest) pos) (WB tA tB'):=⟨MV g.out hb.out⟩
def TK (g:JT X a tA) (hb:JW X (.BoolOp .Or (b::rest) pos) tB'):JW X (.BoolOp .Or (a::b::rest) pos) (aah tA tB'):=⟨R4 g.out hb.out⟩
def Qv (g:JT X a tA):JT X (.UnaryOp .Not a pos) (SE tA):=⟨Ql g.out⟩
def FH (K:aT) (z:JE X a ta) (u:∀ g,isTrue a X.env g=(do let v <- g;ae1 a.pos;holding [v] (truthy v)):=by exact fun _=>rfl) (r:X.K=K:=by rfl):JT X a (Fh K ta):=⟨D8 K z.out u r⟩
def qD:JA X [] xi:=⟨FF⟩
def jV (g:JE X e te) (hr:JA X es t) (hn:aI e=ζ:=by rfl):JA X (e::es) (qI te t):=⟨Ab g.out hr.out hn⟩
def VC (h:JA X es t):JE X (.List es pos) (UB t):=⟨PF h.out⟩
def U2 (h:JA X es t):JE X (.Tuple es x1 pos) (RQ t):=⟨Ng h.out⟩
def IK:JE X (.Dict [] [] pos) E6:=⟨C8⟩
def VT (hr:v6 X r) (g:JE X a ta) (hb:JE X b tb) (hs:me b:=by exact fun _ _=>rfl):JE X (.Subscript a b pos) (Cu r ta tb):=⟨UM hr g.out hb.out hs⟩
def IT:JO X ξ zE:=⟨Kg⟩
def IB (h:JE X e te):JO X (θ e) (Mn te):=⟨JL h.out⟩
def IV {lo g:Option abu} (hr:uW X r) (v:JE X e te) (hl:JO X lo tl) (u:JO X g th):JE X (.Subscript e (.Slice lo g ξ p2) pos) (aaz r te tl th):=⟨GQ hr v.out hl.out u.out⟩
end
section
variable {st:ac2} {p pos:Pos} {id:String}
def Nv (D:Def X.K X.mg x st ps f fd) (G:FnOk X.prog X.w X.K X.mg X.base gN j f fd ps sp) (hr:Room k X.A) (u:JA X (e::es) t) (r:j<=k:=by decide) (hg:Gl X x:=by rfl) (g:afX x:=by decide)
  (h1:aI e=ζ:=by rfl) (h2:es.all aI=ζ:=by rfl):JE X (.Call (.Name x p) (e::es) [] pos) (D0 sp t):=⟨pc D G hr u.out r hg g h1 h2⟩
def ui (C:bG X (.builtin id) r) (v:X.mg x=ξ) (u:MK x=θ (.builtin id)) (z:JA X (e::es) t) (hg:Gl X x:=by rfl) (h1:aI e=ζ:=by rfl) (h2:es.all aI=ζ:=by rfl) (hn:x≠"__name__":=by decide) (g:afX x:=by decide) :
  JE X (.Call (.Name x p) (e::es) [] pos) (Rk r t):=⟨Y8 C v u z.out hg h1 h2 hn g⟩
def tF (C:bG X (.type T) r) (v:X.mg x=ξ) (u:MK x=θ (.type T)) (z:JA X (e::es) t) (hg:Gl X x:=by rfl) (h1:aI e=ζ:=by rfl) (h2:es.all aI=ζ:=by rfl) (hn:x≠"__name__":=by decide) (g:afX x:=by decide) :
  JE X (.Call (.Name x p) (e::es) [] pos) (Rk r t):=⟨Yo C v u z.out hg h1 h2 hn g⟩
end
section
variable {apos cpos:Pos} {id:String}
theorem wk (h:es.all aI=ζ) (hl:es.length < 29):((acL pos (aa2 es env)).all (fun x=>!x.1)&&(backToKw pos (adj [] env)).all (fun x=>x.1.isSome)
   && decide (es.length+([]:List adv).length+(if ([]:List adv).isEmpty then 0 else 1) < 30))=ζ:=by
 have h1:(acL pos (aa2 es env)).all (fun x=>!x.1)=ζ:=by
  have:=cK (env:=env) (pos:=pos) h
  grind
 rw [h1];show (ζ&&ζ&&decide (es.length+0+0 < 30))=ζ
 grind
def Xm (z:Slot "str" name id) (C:typeOf (.builtin id)=pure (.type "method_descriptor")) (L:Vm X id r) (I:JE X o to) (J:JA X (e::es) t)
  (g:abg o name X.env (eval o X.env)=eval o X.env:=by rfl) (v:(apos.endLine==cpos.line)=ζ:=by rfl) (h1:(e::es).all aI=ζ:=by rfl) (hl:(e::es).length < 29:=by decide) :
  JE X (.Call (.Attribute o name apos) (e::es) [] cpos) (aaC r to t):=by
 have u:=h1;rw [abO,Pi] at u;exact ⟨WA z C L I.out J.out g (wk h1 hl) v (bH u.1) (cK u.2)⟩
end
section
variable {tg elt:abu} {pos:Pos}
def IC:JTs X [] T2:=⟨Kt⟩
def Lu (h:JT X c tt):JTs X [c] tt:=⟨Kh h.out⟩
def NK (r:wy osc ON N ix scope=ζ) (z:JI X tg iter wi) (hg:∀ b,JG (iJ X N scope b) tg g) (u:∀ b,JTs (iJ X N scope b) ifs tt) (C:∀ b,JE (iJ X N scope b) elt te)
  (v:X.env.scope=osc:=by rfl) (I:X.N=ON:=by rfl) (J:X.calm=ζ:=by rfl) (hs:∀ x,abI iter X.env x=pure x:=by intro _;rfl):JE X (.ListComp elt [⟨tg,iter,ifs,0⟩] scope pos) (Ao ix wi g tt te) :=
 ⟨Dj (ML r) v I J z.out (fun b=>(hg b).out) (fun b=>(u b).out) (fun b=>(C b).out) hs⟩
def xW {spos pos':Pos} (C:X.N.Nodup) (hl:wE X.env.scope x) (r:wy osc ON N ix scope=ζ) (z:JI X tg iter wi) (hg:∀ b,JG (iJ X N scope b) tg g) (Z:∀ b,JTs (iJ X N scope b) ifs tt) (M:∀ b,JE (iJ X N scope b) elt te)
  (I:X.N[i]?=θ x:=by rfl) (L:X.env.scope=osc:=by rfl) (J:X.N=ON:=by rfl) (hc:X.calm=ζ:=by rfl)
  (v:acq (.ListComp elt [⟨tg,iter,ifs,0⟩] scope pos) (θ (.Name x pos')) spos.line X.env=pure ζ:=by rfl)
  (Y:X.fn x=ζ\/X.env.scope.names.lookup x=θ .local:=by walk_at"u")
  (hs:∀ x,abI iter X.env x=pure x:=by intro _;rfl):JS X (.Assign [.Name x pos'] (.ListComp elt [⟨tg,iter,ifs,0⟩] scope pos) spos) (uw (Ao ix wi g tt te) (ku i)) :=
 ⟨yA C I hl (ML r) L J hc z.out (fun b=>(hg b).out) (fun b=>(Z b).out) (fun b=>(M b).out) v Y hs⟩
def OS (K:aT) (hl:JE X l tl) (g:X.K=K:=by rfl):JI X tg l (aaA K tl):=⟨NI K hl.out g⟩
def BQ {p pos:Pos} (r:X.mg "range"=ξ) (g:JA X [a] ta) (hg:Gl X "range":=by rfl) (hn:aI a=ζ:=by rfl):JI X tg (.Call (.Name "range" p) [a] [] pos) (MS ta):=⟨BC hg r g.out (bH hn)⟩
end
section
variable {pos:Pos} {st:ac2} {rest:List ac2}
def IS (r:X.N.Nodup) (v:X.N[i]?=θ x) (z:wE X.env.scope x) (g:X.fn x=ζ\/X.env.scope.names.lookup x=θ .local:=by walk_at"u"):JG X (.Name x pos) (ku i):=⟨zc r v z g⟩
def J1:JGs X [] VF:=⟨Lq⟩
def ED {t:TG} {u:IY} (h1:JG X e t) (h2:JGs X es u)
  (hs:(abz (e::es) X.env).map (·.2)=assign e X.env::(abz es X.env).map (·.2):=by rfl):JGs X (e::es) (MF t u):=⟨Ec h1.out h2.out hs⟩
def O8 (K:aT) {k:Nat} {t:IY} {n:Nat} (h:JGs X es t) (u:X.calm=ζ:=by rfl)
  (hn:(abz es X.env).length=n:=by rfl) (g:(abz es X.env).findIdx? (·.1)=ξ:=by rfl) (r:X.K=K:=by rfl):JG X (.Tuple es k pos) (Vc K n t):=by
 subst r;exact ⟨Ol u h.out hn g⟩
def QU:JB X [] LO:=⟨Lo⟩
def Jf (h1:JS X st t) (h2:JB X rest u):JB X (st::rest) (RU t u):=⟨pe h1.out h2.out⟩
def Ow (h1:JS X st t):JB X [st] t:=⟨zk h1.out⟩
def oH (g:JE X e te) (hs:acq e ξ pos.line X.env=pure η:=by rfl):JS X (.Expr e pos) (yV te):=⟨HZ g.out hs⟩
def F9 (g:JE X e te):JS X (.Return (θ e) pos) (UE te):=⟨QO g.out⟩
def TH (r:JT X c tc) (g:JB X a t) (hb:JB X b u):JS X (.If c a b pos) (Vn tc t u):=⟨We r.out g.out hb.out⟩
def G6 {pos':Pos} (v:X.N.Nodup) (C:wE X.env.scope x) (z:JE X e te) (g:X.N[i]?=θ x:=by rfl) (hs:acq e (θ (.Name x pos')) pos.line X.env=pure η:=by rfl) (r:X.fn x=ζ\/X.env.scope.names.lookup x=θ .local:=by walk_at"u") :
  JS X (.Assign [.Name x pos'] e pos) (uw te (ku i)):=⟨Qo v g C z.out hs r⟩
def CK (r:JE X e te) (hg:JG X tg g) (hs:swapsWithSole [tg] e pos.line X.env=pure η:=by rfl) (hw:swappedStores [tg] e X.env=pure ξ:=by rfl)
  (h1:(abz [tg] X.env).map (·.2)=[assign tg X.env]:=by rfl):JS X (.Assign [tg] e pos) (uw te g):=⟨PL r.out hg.out hs hw h1⟩
def P8 {t:OO} (g:JE X o to) (r:JE X i ti) (hs:PD X t)
  (u:∀ v,assign (.Subscript o i pos) X.env v=(do
   let ov <- holding [v] (eval o X.env)
   let iv <- holding [v,ov] (eval i X.env)
   ae1 pos
   holding [v,ov,iv] (setItem ov iv v)
   release [v,ov,iv] []):=by intro _;rfl):JG X (.Subscript o i pos) (MY to ti t):=⟨Q1 g.out r.out hs u⟩
def OC (u:adM (aaV X.prog X.w) X.A X.env X.xe) (r:JI X tg iter wi) (hg:JG X tg g) (hb:JB X body tb) (v:X.calm=ζ:=by rfl)
  (hs:∀ x,abI iter X.env x=pure x:=by intro _;rfl):JS X (.For tg iter body [] pos) (Sj wi g tb):=⟨NH u v r.out hg.out hb.out hs⟩
def D4 (r:adM (aaV X.prog X.w) X.A X.env X.xe) (g:JT X c tc) (hb:JB X body tb):JS X (.While c body [] pos) (EU tc tb):=⟨FC r g.out hb.out⟩
end
section
variable {K:aT}
def Fun.okJ {st:ac2} (F:Fun K x qual st f fd) (S:FnScope N ps (aY st)) (len:∀ vs H Q E,sp vs H Q E->vs.length=ps.length)
  (u:∀ (r:oR) (_:Hy K r qual=ζ) (A:acy) (g:List Env) (s:DO) (H:Hp) (vs:afV) (Q:VK) (E:XK),Room k (A.deeper (aeK qual (aY st) s.heap.objs.size f r))->sp vs H Q E ->
   ∃ t,JB (oB gN P w K mg base N qual (aY st) f r A g s H E).nox (dC st) t/\t { nx:=fun _ H'=>Q .non H',rt:=Q } (start N vs) H):FnOk P w K mg base gN (k+1) f fd ps sp :=
 F.ok S len fun r v A g s H vs Q E hr h=>let ⟨t,h1,h2⟩:=u r v A g s H vs Q E hr h;⟨t,h1.out,h2⟩
end
def JE.imp (h:JE X e t) (i:∀ σ H Q,t' σ H Q->t σ H Q):JE X e t':=⟨h.out.imp i⟩
def JT.imp (h:JT X e t) (i:∀ σ H Q,t' σ H Q->t σ H Q):JT X e t':=⟨fun g s σ H Q I q=>h.out g s σ H Q I (i σ H Q q)⟩
def JW.imp (h:JW X e t) (i:∀ σ H Q,t' σ H Q->t σ H Q):JW X e t':=⟨fun w g s σ H Q I q=>h.out w g s σ H Q I (i σ H Q q)⟩
def JA.imp (h:JA X es t) (i:∀ σ H Q,t' σ H Q->t σ H Q):JA X es t':=⟨fun pos g s σ H Q I q=>h.out pos g s σ H Q I (i σ H Q q)⟩
def JS.imp {st:ac2} (h:JS X st t) (i:∀ D σ H,t' D σ H->t D σ H):JS X st t':=⟨fun g s σ H D I q=>h.out g s σ H D I (i D σ H q)⟩
def JB.imp {st:List ac2} (h:JB X st t) (i:∀ D σ H,t' D σ H->t D σ H):JB X st t':=⟨fun g s σ H D I q=>h.out g s σ H D I (i D σ H q)⟩
def JG.imp (h:JG X e t) (i:∀ v σ H Q,t' v σ H Q->t v σ H Q):JG X e t':=⟨fun g s σ H v u Q I r q=>h.out g s σ H v u Q I r (i v σ H Q q)⟩
def JGs.imp (h:JGs X es t) (i:∀ v σ H Q,t' v σ H Q->t v σ H Q):JGs X es t':=⟨fun g s σ H v u Q I r q=>h.out g s σ H v u Q I r (i v σ H Q q)⟩
def JI.imp (h:JI X tg e t) (i:∀ σ H R,t' σ H R->t σ H R):JI X tg e t':=⟨fun g s σ H R I q=>h.out g s σ H R I (i σ H R q)⟩
def JO.imp (h:JO X e t) (i:∀ σ H Q,t' σ H Q->t σ H Q):JO X e t':=⟨fun g s σ H Q I q=>h.out g s σ H Q I (i σ H Q q)⟩
def JTs.imp (h:JTs X es t) (i:∀ σ H Q,t' σ H Q->t σ H Q):JTs X es t':=⟨fun g s σ H Q I q=>h.out g s σ H Q I (i σ H Q q)⟩
inductive D where
 | non|bl (b:Bool)|int (i:Int)|str (x:Str)|ty (n:String)
 | lst (xs:List D)|tup (xs:List D)|dct (kvs:List (Key×D))|obj (x:Str) (fs:List (Str×D))
 /-- an exception that was caught,by its class's name;a class of the text -/
 | exn (x:Str)|cls (x:Str)
 /-- a list of which it is nH that it was laid anew (it may be changed) -/
 | lsm (xs:List D)
 /-- a dict that is not changed any more -/
 | dcf (kvs:List (Key×D))
abbrev afW:=List D
def ZC (a C:aa3):HO:=.ext fun h=>∃ o vs,h.get? a=θ o/\o.cls=.ref C/\o.dict=ξ/\o.data=.fields vs
section
variable (K:aT) (H:Hp)
mutual
def b9:D->V->Prop
 | .non,v=>v=.non
 | .bl b,v=>v=.bl b
 | .int i,v=>v=.int i
 | .str x,v=>v=.str x
 | .ty n,v=>v=.ty n
 | .lst ds,v=>∃ a xs,v=.ref a/\e8 K H a xs/\aN ds xs
 | .tup ds,v=>∃ a xs,v=.ref a/\g6 K H a xs/\aN ds xs
 | .dct ds,v=>∃ a xs,v=.ref a/\H a=θ (.dK xs)/\b8 ds xs
 | .obj x fs,v=>∃ a C g xs,v=.ref a/\aaO K aaR x=θ (θ (.ref C))/\H a=θ (.ins C g xs)/\kO fs xs
 | .exn x,v=>∃ a C,v=.ref a/\aaO K aaR x=θ (θ (.ref C))/\H a=θ (ZC a C)
 | .cls x,v=>∃ C,v=.ref C/\aaO K aaR x=θ (θ (.ref C))
 | .lsm ds,v=>∃ a xs,v=.ref a/\H a=θ (.lst xs)/\aN ds xs
 | .dcf ds,v=>∃ a o xs,v=.ref a/\H a=θ (.frz o (.dK xs))/\b8 ds xs
def aN:afW->afV->Prop
 | [],xs=>xs=[]
 | d::ds,xs=>∃ v vs,xs=v::vs/\b9 d v/\aN ds vs
def b8:List (Key×D)->List (Key×V)->Prop
 | [],xs=>xs=[]
 | (k,d)::ds,xs=>∃ v vs,xs=(k,v)::vs/\b9 d v/\b8 ds vs
def kO:List (Str×D)->List (Str×V)->Prop
 | [],xs=>xs=[]
 | (k,d)::ds,xs=>∃ v vs,xs=(k,v)::vs/\b9 d v/\kO ds vs
end
end
def aw.rd (s:aw H H') (h:Rd H a u):Rd H' a u:=by
 rcases h with h|⟨o,h⟩
 .exact .inl (s _ _ h)
 .exact .inr ⟨o,s _ _ h⟩
section
variable {K:aT} {H H':Hp}
mutual
theorem b9.mono (s:aw H H'):∀ {d:D} {v:V},b9 K H d v->b9 K H' d v
 | .non,_,h=>h
 | .bl _,_,h=>h
 | .int _,_,h=>h
 | .str _,_,h=>h
 | .ty _,_,h=>h
 | .lst ds,_,⟨a,xs,e,h1,h2⟩=>⟨a,xs,e,s.seq h1,aN.mono s h2⟩
 | .tup ds,_,⟨a,xs,e,h1,h2⟩=>⟨a,xs,e,s.seqT h1,aN.mono s h2⟩
 | .dct ds,_,⟨a,xs,e,h1,h2⟩=>⟨a,xs,e,s _ _ h1,b8.mono s h2⟩
 | .obj x ds,_,⟨a,C,dx,xs,e,h0,h1,h2⟩=>⟨a,C,dx,xs,e,h0,s _ _ h1,kO.mono s h2⟩
 | .exn _,_,⟨a,C,e,h1,h2⟩=>⟨a,C,e,h1,s _ _ h2⟩
 | .cls _,_,h=>h
 | .lsm ds,_,⟨a,xs,e,h1,h2⟩=>⟨a,xs,e,s _ _ h1,aN.mono s h2⟩
 | .dcf ds,_,⟨a,o,xs,e,h1,h2⟩=>⟨a,o,xs,e,s _ _ h1,b8.mono s h2⟩
theorem aN.mono (s:aw H H'):∀ {d:afW} {v:afV},aN K H d v->aN K H' d v
 | [],_,h=>h
 | d::ds,_,⟨v,vs,e,h1,h2⟩=>⟨v,vs,e,b9.mono s h1,aN.mono s h2⟩
theorem b8.mono (s:aw H H'):∀ {d:List (Key×D)} {v:List (Key×V)},b8 K H d v->b8 K H' d v
 | [],_,h=>h
 | (k,d)::ds,_,⟨v,vs,e,h1,h2⟩=>⟨v,vs,e,b9.mono s h1,b8.mono s h2⟩
theorem kO.mono (s:aw H H'):∀ {d:List (Str×D)} {v:List (Str×V)},kO K H d v->kO K H' d v
 | [],_,h=>h
 | (k,d)::ds,_,⟨v,vs,e,h1,h2⟩=>⟨v,vs,e,b9.mono s h1,kO.mono s h2⟩
end
theorem aN.len:∀ {ds:afW} {xs:afV},aN K H ds xs->ds.length=xs.length
 | [],_,h=>by cases h;rfl
 | d::ds,_,⟨v,vs,e,h1,h2⟩=>by subst e;simp [aN.len h2]
theorem aN.get:∀ {ds:afW} {xs:afV} {i:Nat} {d:D},aN K H ds xs->ds[i]?=θ d->∃ v,xs[i]?=θ v/\b9 K H d v
 | [],_,_,_,_,e=>by simp at e
 | d::ds,_,0,_,⟨v,vs,e,h1,h2⟩,q=>by
  grind
 | d::ds,_,i+1,_,⟨v,vs,e,h1,h2⟩,q=>by
  obtain ⟨u,g,r⟩:=aN.get h2 (by simpa using q);simp_all
theorem aN.got:∀ {ds:afW} {xs:afV} {i:Nat} {v:V},aN K H ds xs->xs[i]?=θ v->∃ d,ds[i]?=θ d/\b9 K H d v
 | [],_,_,_,h,e=>by cases h;simp at e
 | d::ds,_,0,_,⟨v,vs,e,h1,h2⟩,q=>by
  simp_all
 | d::ds,_,i+1,_,⟨v,vs,e,h1,h2⟩,q=>by
  subst e;obtain ⟨u,g,r⟩:=aN.got h2 (by simpa using q);simp_all
def aN.nil:aN K H [] []:=rfl
def aN.cons (h:b9 K H d v) (t:aN K H ds xs):aN K H (d::ds) (v::xs):=⟨v,xs,rfl,h,t⟩
theorem aN.append:∀ {ds es:afW} {xs ys:afV},aN K H ds xs->aN K H es ys->aN K H (ds++es) (xs++ys)
 | [],_,_,_,h,t=>by cases h;exact t
 | d::ds,_,_,_,⟨v,vs,e,h1,h2⟩,t=>by subst e;exact ⟨v,_,rfl,h1,aN.append h2 t⟩
theorem aN.take:∀ {ds:afW} {xs:afV} (n:Nat),aN K H ds xs->aN K H (ds.take n) (xs.take n)
 | _,_,0,_=>by rfl
 | [],_,n+1,h=>by cases h;exact rfl
 | d::ds,_,n+1,⟨v,vs,e,h1,h2⟩=>by subst e;exact ⟨v,_,rfl,h1,aN.take n h2⟩
theorem aN.drop:∀ {ds:afW} {xs:afV} (n:Nat),aN K H ds xs->aN K H (ds.drop n) (xs.drop n)
 | _,_,0,h=>h
 | [],_,n+1,h=>by cases h;exact rfl
 | d::ds,_,n+1,⟨v,vs,e,h1,h2⟩=>by subst e;exact aN.drop n h2
end
def aD (as:afT) (H:Hp):Hp:=fun b=>if b∈as then ξ else H b
def cY (h:b∈as):aD as H b=ξ:=afI h
def aV (h:b∉as):aD as H b=H b:=afJ h
def vG:aD [] H=H:=by funext b;exact afJ (by simp)
def ar (as:afT) (H:Hp):aw (aD as H) H:=fun b o e=>by
 unfold aD at e;simp_all
def aJ (s:aw H H'):aw (aD as H) (aD as H'):=fun b o e=>by
 unfold aD at e ⊢;split at e
 .cases e
 .rename_i h;rw [afJ h];exact s b o e
theorem iH (as bs:afT) (H:Hp):aD (as++bs) H=aD bs (aD as H):=by
 funext b
 unfold aD
 grind
def iz (h:∀ a∈bs,a∈as):aw (aD as H) (aD bs H):=fun b o e=>by
 by_cases hb:b∈as
 .rw [cY hb] at e;cases e
 .rw [aV hb] at e;rw [aV fun z=>hb (h b z)];exact e
theorem Bi (s:aw B H) (h:∀ a∈as,B a=ξ):aw B (aD as H):=fun b o e=>by
 have hb:b∉as:=fun z=>by grind
 rw [aV hb];exact s b o e
inductive R (α:Type) where
 | ok (a:α)
 | er (x:Str)
 | no
noncomputable def R.bind {α β:Type} (r:R α) (f:α->R β):R β:=match r with
 | .ok a=>f a
 | .er x=>.er x
 | .no=>.no
theorem aG {a:α} {f:α->R β}:(R.ok a).bind f=f a:=rfl
def bind_assoc (r:R α) (f:α->R β) (g:β->R γ):(r.bind f).bind g=r.bind fun a=>(f a).bind g:=by cases r <;> rfl
structure Wd where
 K:aT
 mg:Str->Option oR
 E:XK
abbrev Sd:=List (Option D)
def cq (W:Wd) (as:afT) (H:Hp) (r:R D) (Q:VK):Prop:=match r with
 | .ok d=>∀ v H',aw H H'->b9 W.K (aD as H') d v->Q v H'
 | .er x=>∀ e C H',aw H H'->W.mg x=θ (.ref C)->W.E e (θ C) H'
 | .no=>False
def gr (W:Wd) (as:afT) (H:Hp) (r:R (afW)) (Q:afV->Hp->Prop):Prop:=match r with
 | .ok d=>∀ v H',aw H H'->aN W.K (aD as H') d v->Q v H'
 | .er x=>∀ e C H',aw H H'->W.mg x=θ (.ref C)->W.E e (θ C) H'
 | .no=>False
def fH {α:Type} (W:Wd) (H:Hp) (r:R α) (Q:α->Hp->Prop):Prop:=match r with
 | .ok b=>∀ H',aw H H'->Q b H'
 | .er x=>∀ e C H',aw H H'->W.mg x=θ (.ref C)->W.E e (θ C) H'
 | .no=>False
def i8 (K:aT) (H:Hp) (o:HO):D->Prop
 | .lst ds=>∃ xs,o=.lst xs/\aN K H ds xs
 | .dct ds=>∃ xs,o=.dK xs/\b8 K H ds xs
 | .obj x ds=>∃ C g xs,o=.ins C g xs/\aaO K aaR x=θ (θ (.ref C))/\kO K H ds xs
 | _=>False
def fG (W:Wd) (as:afT) (H:Hp) (r:R D) (Q:VK):Prop:=match r with
 | .ok d=>∀ p o H',aw H H'->H p=ξ->H' p=θ o->i8 W.K (aD (p::as) H') o d->Q (.ref p) H'
 | .er x=>∀ e C H',aw H H'->W.mg x=θ (.ref C)->W.E e (θ C) H'
 | .no=>False
def cq.mono (h:cq W as H r Q) (s:aw H H'):cq W as H' r Q:=by
 cases r with
 | ok d=>exact fun v g u=>h v g (s.trans u)
 | er x=>exact fun e C g u=>h e C g (s.trans u)
 | no=>exact h
def fG.mono (h:fG W as H r Q) (s:aw H H'):fG W as H' r Q:=by
 cases r with
 | ok d=>exact fun p o u g v=>h p o u (s.trans g) (s.free v)
 | er x=>exact fun e C u g=>h e C u (s.trans g)
 | no=>exact h
def gr.mono (h:gr W as H r Q) (s:aw H H'):gr W as H' r Q:=by
 cases r with
 | ok d=>exact fun v g u=>h v g (s.trans u)
 | er x=>exact fun e C g u=>h e C g (s.trans u)
 | no=>exact h
def fH.mono {r:R α} {Q:α->Hp->Prop} (h:fH W H r Q) (s:aw H H'):fH W H' r Q:=by
 cases r with
 | ok d=>exact fun g u=>h g (s.trans u)
 | er x=>exact fun e C g u=>h e C g (s.trans u)
 | no=>exact h
def i8.den {K:aT} (r:p∉as) (e:H p=θ o) (h:i8 K (aD (p::as) H) o d):b9 K (aD as H) d (.ref p):=by
 have s:aw (aD (p::as) H) (aD as H):=iz fun a z=>iN _ z;have g:aD as H p=θ o:=by rw [aV r];exact e
 cases d with
 | lst ds=>obtain ⟨xs,rfl,h⟩:=h;exact ⟨p,xs,rfl,.inl (.inl g),h.mono s⟩
 | dct ds=>obtain ⟨xs,rfl,h⟩:=h;exact ⟨p,xs,rfl,g,h.mono s⟩
 | obj x ds=>obtain ⟨C,v,xs,rfl,u,h⟩:=h;exact ⟨p,C,v,xs,rfl,u,g,h.mono s⟩
 | _=>exact h.elim
structure DI (K:aT) (as0:afT) (B:Hp) (O:afO) (own:afT) (σ:St) (U:Sd) (H:Hp):Prop where
 len:U.length=σ.length
 olen:own.length=O.length
 nd:own.Nodup
 ond:O.Nodup
 fresh:∀ a∈own,B a=ξ
 ex0:∀ a∈as0,B a≠ξ
 same:aw B H
 var:∀ i d,i∉O->U[i]?=θ (θ d)->∃ v,σ[i]?=θ (θ v)/\b9 K (aD (own++as0) H) d v
 owns:∀ i a,(i,a)∈O.zip own->∃ d o,U[i]?=θ (θ d)/\σ[i]?=θ (θ (.ref a))/\H a=θ o/\i8 K (aD (own++as0) H) o d
section
variable {K:aT}
def i8.mono (s:aw H H') (h:i8 K H o d):i8 K H' o d:=by
 cases d with
 | lst ds=>obtain ⟨xs,rfl,h⟩:=h;exact ⟨xs,rfl,h.mono s⟩
 | dct ds=>obtain ⟨xs,rfl,h⟩:=h;exact ⟨xs,rfl,h.mono s⟩
 | obj x ds=>obtain ⟨C,r,xs,rfl,g,h⟩:=h;exact ⟨C,r,xs,rfl,g,h.mono s⟩
 | _=>exact h.elim
theorem sA:∀ {O:afO} {own:afT} {a:aa3},own.length=O.length->a∈own->∃ i,(i,a)∈O.zip own
 | [],[],_,_,h=>by cases h
 | i::O,b::own,a,l,h=>by
  rcases mK.mp h with rfl|h
  .simp_all
  .obtain ⟨j,g⟩:=sA (by simpa using l) h;exact ⟨j,iN _ g⟩
 | [],_::_,_,l,_=>by simp at l
 | _::_,[],_,_,h=>by cases h
def DI.exi (I:DI K as0 B O own σ U H):∀ a∈own++as0,H a≠ξ:=fun a g=>by
 rcases By.mp g with h|h
 .let ⟨i,hi⟩:=sA I.olen h
  obtain ⟨d,o,_,_,e,_⟩:=I.owns i a hi;rw [e];simp
 .cases e:B a with
  | none=>exact absurd e (I.ex0 a h)
  | some o=>rw [I.same a o e];simp
def DI.new (I:DI K as0 B O own σ U H) (h:H p=ξ):p∉own++as0:=fun z=>I.exi p z h
def DI.mono (I:DI K as0 B O own σ U H) (s:aw H H'):DI K as0 B O own σ U H' :=
 ⟨I.len,I.olen,I.nd,I.ond,I.fresh,I.ex0,I.same.trans s,fun i d g e=>let ⟨v,h1,h2⟩:=I.var i d g e;⟨v,h1,h2.mono (aJ s)⟩,
  fun i a g=>let ⟨d,o,h1,h2,h3,h4⟩:=I.owns i a g;⟨d,o,h1,h2,s a o h3,h4.mono (aJ s)⟩⟩
def DI.base (I:DI K as0 B' O own σ U H) (s:aw B B') (h:∀ a∈as0,B a≠ξ):DI K as0 B O own σ U H :=
 ⟨I.len,I.olen,I.nd,I.ond,fun a g=>s.free (I.fresh a g),h,s.trans I.same,I.var,I.owns⟩
def DI.rebase (I:DI K as0 B O own σ U H) (r:∀ a∈own,a∉as0):DI K as0 (aD own H) O own σ U H :=
 ⟨I.len,I.olen,I.nd,I.ond,fun a g=>cY g,fun a g=>(by
  rw [aV fun z=>r a z g];cases e:B a with
  | none=>exact absurd e (I.ex0 a g)
  | some o=>rw [I.same a o e];simp),ar _ _,I.var,I.owns⟩
def DI.apart (I:DI K as0 B O own σ U H):∀ a∈own,a∉as0:=fun a g z=>I.ex0 a z (I.fresh a g)
def DI.baseIn (I:DI K as0 B O own σ U H):aw B (aD own H):=Bi I.same I.fresh
end
abbrev FE:=Sd->R D
abbrev FT:=Sd->R Bool
abbrev FA:=Sd->R (afW)
def tD (W:Wd) (O:afO) (φ:FE):TE:=fun σ H Q=>∃ as0 B own U,DI W.K as0 B O own σ U H/\cq W (own++as0) H (φ U) Q
def tN (W:Wd) (O:afO) (φ:FE):TE:=fun σ H Q=>∃ as0 B own U,DI W.K as0 B O own σ U H/\fG W (own++as0) H (φ U) Q
def iM (W:Wd) (O:afO) (φ:FT):TT:=fun σ H Q=>∃ as0 B own U,DI W.K as0 B O own σ U H/\fH W H (φ U) Q
def qZ (W:Wd) (O:afO) (φ:FA):TA:=fun σ H Q=>∃ as0 B own U,DI W.K as0 B O own σ U H/\gr W (own++as0) H (φ U) Q
def WX (W:Wd) (O:afO) (φ:Sd->R (Option Int)):TO:=fun σ H Q=>∃ as0 B own U,DI W.K as0 B O own σ U H/\fH W H (φ U) Q
section
def bp (h:cq W as H (r.bind f) Q) (q:∀ d v H',aw H H'->b9 W.K (aD as H') d v->cq W as H' (f d) Q->Q' v H'):cq W as H r Q':=by
 cases r with
 | ok d=>exact fun v H' s g=>q d v H' s g (cq.mono h s)
 | er x=>exact h
 | no=>exact h
def dH (h:cq W as H (r.bind f) Q) (q:∀ d v H',aw H H'->aN W.K (aD as H') d v->cq W as H' (f d) Q->Q' v H'):gr W as H r Q':=by
 cases r with
 | ok d=>exact fun v H' s g=>q d v H' s g (cq.mono h s)
 | er x=>exact h
 | no=>exact h
def gQ (h:fG W as H (r.bind f) Q) (q:∀ d v H',aw H H'->aN W.K (aD as H') d v->fG W as H' (f d) Q->Q' v H'):gr W as H r Q':=by
 cases r with
 | ok d=>exact fun v H' s g=>q d v H' s g (fG.mono h s)
 | er x=>exact h
 | no=>exact h
def kZ {r:R α} {f:α->R D} {Q':α->Hp->Prop} (h:cq W as H (r.bind f) Q) (q:∀ d H',aw H H'->cq W as H' (f d) Q->Q' d H'):fH W H r Q':=by
 cases r with
 | ok d=>exact fun H' s=>q d H' s (cq.mono h s)
 | er x=>exact h
 | no=>exact h
def fj {f:D->R α} {Q:α->Hp->Prop} (h:fH W H (r.bind f) Q) (q:∀ d v H',aw H H'->b9 W.K (aD as H') d v->fH W H' (f d) Q->Q' v H'):cq W as H r Q':=by
 cases r with
 | ok d=>exact fun v H' s g=>q d v H' s g (fH.mono h s)
 | er x=>exact h
 | no=>exact h
def jo {r:R α} {f:α->R β} {Q:β->Hp->Prop} {Q':α->Hp->Prop} (h:fH W H (r.bind f) Q) (q:∀ d H',aw H H'->fH W H' (f d) Q->Q' d H'):fH W H r Q':=by
 cases r with
 | ok d=>exact fun H' s=>q d H' s (fH.mono h s)
 | er x=>exact h
 | no=>exact h
def yk {Q:afV->Hp->Prop} (h:gr W as H (r.bind f) Q) (q:∀ d v H',aw H H'->b9 W.K (aD as H') d v->gr W as H' (f d) Q->Q' v H'):cq W as H r Q':=by
 cases r with
 | ok d=>exact fun v H' s g=>q d v H' s g (gr.mono h s)
 | er x=>exact h
 | no=>exact h
def vN {Q Q':afV->Hp->Prop} (h:gr W as H (r.bind f) Q) (q:∀ d v H',aw H H'->aN W.K (aD as H') d v->gr W as H' (f d) Q->Q' v H'):gr W as H r Q':=by
 cases r with
 | ok d=>exact fun v H' s g=>q d v H' s g (gr.mono h s)
 | er x=>exact h
 | no=>exact h
end
section
variable {X:Cx} {W:Wd} {O:afO} {a b c e:abu} {φ ψ χ:FE} {pos:Pos} {rest es:List abu} {α:FA}
def ae (i:Nat):FE:=fun U=>match U[i]? with
 | some (θ d)=>.ok d
 | _=>.no
def vC (d:D):FE:=fun _=>.ok d
def Mj (i:Nat) (J:i∉O:=by decide) (u:X.N[i]?=θ x:=by rfl) (C:oy X.env.scope x:=by walk_at"v") (z:afX x:=by decide)
  (g:(x==("__classdict__":Str))=η:=by decide):JE X (.Name x pos) (tD W O (ae i)):=(jv i u C z g).imp fun σ H Q r=>cP r fun as0 B own U I h=>by
 unfold ae at h;split at h
 .rename_i d e;let ⟨v,h1,h2⟩:=I.var i d J e
  show mW σ[i]? H Q;rw [h1];exact h v H (aw.refl H) h2
 .exact h.elim
def Mu:JE X (.Constant (.int i) j pos) (tD W O (vC (.int i))):=Wt.imp fun σ H Q g=>cP g fun as0 B own U I h=>h _ H (aw.refl H) rfl
def Xq {b j}:JE X (.Constant (.bool b) j pos) (tD W O (vC (.bl b))):=Yu.imp fun σ H Q g=>cP g fun as0 B own U I h=>h _ H (aw.refl H) rfl
def Tm:JE X (.Constant .none j pos) (tD W O (vC .non)):=T5.imp fun σ H Q g=>cP g fun as0 B own U I h=>h _ H (aw.refl H) rfl
def Mf:JE X (.Constant (.str x) j pos) (tD W O (vC (.str x))):=R8.imp fun σ H Q g=>cP g fun as0 B own U I h=>h _ H (aw.refl H) rfl
def O4 (J:X.mg x=θ u) (r:aX v u) (C:∀ H,b9 W.K H d v) (hg:Gl X x:=by rfl) (g:afX x:=by decide):JE X (.Name x pos) (tD W O (vC d)) :=
 (DJ J r hg g).imp fun σ H Q z=>cP z fun as0 B own U I h=>h _ H (aw.refl H) (C _)
def Te (v:X.mg x=ξ) (u:MK x=θ (.type n)) (hg:Gl X x:=by rfl) (hn:x≠"__name__":=by decide) (r:afX x:=by decide):JE X (.Name x pos) (tD W O (vC (.ty n))) :=
 (XU v u hg hn r).imp fun σ H Q g=>cP g fun as0 B own U I h=>h _ H (aw.refl H) rfl
def jm (W:Wd) (r:R2) (op:D->D->R D):Prop:=∀ (as:afT) (H:Hp) (x y:V) (a b:D) (Q:VK),(∀ p,H p=ξ->p∉as)->b9 W.K (aD as H) a x->b9 W.K (aD as H) b y->cq W as H (op a b) Q->r x y H Q
def ak (op:D->D->R D) (φ ψ:FE):FE:=fun U=>(φ U).bind fun x=>(ψ U).bind fun y=>op x y
def Gs (ht:∀ {ta tb:TE},JE X a ta->JE X b tb->JE X e (t ta tb)) (J:t=Cu r) (C:jm W r op) (Z:JE X a (tD W O φ)) (hb:JE X b (tD W O ψ)):JE X e (tD W O (ak op φ ψ)):=by
 subst J;refine (ht Z hb).imp fun σ H Q L=>cP L fun as0 B own U I h=>⟨as0,B,own,U,I,bp h fun x v H1 g d1 h1=>⟨as0,B,own,U,I.mono g,bp h1 fun y u Y z M h2=>?_⟩⟩;exact C (own++as0) Y v u x y Q (fun p hp=>((I.mono g).mono z).new hp) (d1.mono (aJ z)) M h2
def Xp (u:cD X (ab3 op) r) (v:jm W r g) (z:JE X a (tD W O φ)) (hb:JE X b (tD W O ψ)):JE X (.BinOp a op b pos) (tD W O (ak g φ ψ)) :=
 Gs (fun h1 h2=>X3 u h1 h2) rfl v z hb
def TJ (u:cD X (aa1 op) r) (v:jm W r g) (z:JE X a (tD W O φ)) (hb:JE X b (tD W O ψ)) (C:acO op b=η):JE X (.Compare a [op] [b] pos) (tD W O (ak g φ ψ)) :=
 Gs (fun h1 h2=>Uw u h1 h2 C) rfl v z hb
def YZ (hr:v6 X r) (u:jm W r g) (v:JE X a (tD W O φ)) (hb:JE X b (tD W O ψ)) (hs:me b:=by exact fun _ _=>rfl):JE X (.Subscript a b pos) (tD W O (ak g φ ψ)) :=
 Gs (fun h1 h2=>VT hr h1 h2 hs) rfl u v hb
def YH (W:Wd) (r:V->Hp->VK->Prop) (op:D->R D):Prop:=∀ (as:afT) (H:Hp) (x:V) (a:D) (Q:VK),b9 W.K (aD as H) a x->cq W as H (op a) Q->r x H Q
def xG (op:D->R D) (φ:FE):FE:=fun U=>(φ U).bind op
def XV (u:HE X (unaryOp op) r) (C:YH W r g) (J:JE X a (tD W O φ)):JE X (.UnaryOp op a pos) (tD W O (xG g φ)) :=
 (XF u J).imp fun σ H Q z=>cP z fun as0 B own U I h=>⟨as0,B,own,U,I,bp h fun x v H1 M L h1=>C (own++as0) H1 v x Q L h1⟩
def HF {α:Type} (d:D) (f:Bool->R α):R α:=match d with
 | .bl b=>f b
 | _=>.no
def Ca (φ:FE):FE:=fun U=>(φ U).bind fun x=>HF x fun b=>.ok (.bl (!b))
def ga (φ ψ:FE):FE:=fun U=>(φ U).bind fun x=>HF x fun b=>if b=ζ then ψ U else .ok (.bl η)
def CM (φ ψ:FE):FE:=fun U=>(φ U).bind fun x=>HF x fun b=>if b=ζ then .ok (.bl ζ) else ψ U
def Wa (u:JE X a (tD W O φ)):JE X (.UnaryOp .Not a pos) (tD W O (Ca φ)) :=
 (WG u).imp fun σ H Q r=>cP r fun as0 B own U I h=>⟨as0,B,own,U,I,bp h fun x v H1 z g h1=>by
  cases x with
  | bl b=>cases g;exact h1 _ H1 (aw.refl _) rfl
  | _=>exact h1.elim⟩
def V7 (h:JE X a (tD W O φ)):JE X (.BoolOp op [a] pos) (tD W O φ):=Tc h
def WE (u:JE X a (tD W O φ)) (hb:JE X (.BoolOp .And (b::rest) pos) (tD W O ψ)):JE X (.BoolOp .And (a::b::rest) pos) (tD W O (ga φ ψ)) :=
 (UC u hb).imp fun σ H Q g=>cP g fun as0 B own U I h=>⟨as0,B,own,U,I,bp h fun x v H1 r z h1=>by
  cases x with
  | bl b =>
   cases z;cases b with
   | true=>exact ⟨as0,B,own,U,I.mono r,h1⟩
   | false=>exact h1 _ H1 (aw.refl _) rfl
  | _=>exact h1.elim⟩
def Yp (u:JE X a (tD W O φ)) (hb:JE X (.BoolOp .Or (b::rest) pos) (tD W O ψ)):JE X (.BoolOp .Or (a::b::rest) pos) (tD W O (CM φ ψ)) :=
 (Yt u hb).imp fun σ H Q g=>cP g fun as0 B own U I h=>⟨as0,B,own,U,I,bp h fun x v H1 r z h1=>by
  cases x with
  | bl b =>
   cases z;cases b with
   | false=>exact ⟨as0,B,own,U,I.mono r,h1⟩
   | true=>exact h1 _ H1 (aw.refl _) rfl
  | _=>exact h1.elim⟩
variable {τ υ:FT}
def aZ (φ:FE):FT:=fun U=>(φ U).bind fun x=>HF x .ok
theorem Fo (Y:cD X (aa1 op) r) (hd:jm W r g) (ha:JE X a (tD W O φ)) (hb:JE X b (tD W O ψ)) (hm:acO op b=η):JT X (.Compare a [op] [b] pos) (iM W O (aZ (ak g φ ψ))):=by
 refine (DV Y ha hb hm).imp fun σ H Q hh=>cP hh fun as0 B own U I h=>?_;have h'  := by
  have e:aZ (ak g φ ψ) U=(φ U).bind fun x=>((ψ U).bind fun y=>g x y).bind fun x=>HF x .ok:=by
   unfold aZ ak;rw [bind_assoc]
  rw [e] at h;exact h
 refine ⟨as0,B,own,U,I,fj h' fun x v H1 J d1 h1=>?_⟩;have C:fH W H1 ((ψ U).bind fun y=>(g x y).bind fun x=>HF x .ok) Q:=by rw [<- bind_assoc];exact h1
 refine ⟨as0,B,own,U,I.mono J,fj C fun y u H2 L d2 h2=>?_⟩;refine hd (own++as0) H2 v u x y _ (fun p hp=>((I.mono J).mono L).new hp) (d1.mono (aJ L)) d2 (fj h2 fun z w H3 s3 Z M=>?_);cases z with
 | bl k=>cases Z;exact M H3 (aw.refl _)
 | _=>exact M.elim
noncomputable def M8:D->R Bool
 | .non=>.ok η
 | .bl b=>.ok b
 | .int i=>.ok (i != 0)
 | .str y=>if y.length<=1000000 then .ok (y.length != 0) else .no
 | .lst xs=>.ok (!xs.isEmpty)
 | .tup xs=>.ok (!xs.isEmpty)
 | .dct kvs=>.ok (!kvs.isEmpty)
 | _=>.no
def aN.empty {K:aT} (h:aN K H ds xs):xs.isEmpty=ds.isEmpty:=by
 cases ds with
 | nil=>cases h;rfl
 | cons d r=>obtain ⟨v,vs,rfl,_⟩:=h;rfl
def b8.empty {K:aT} (h:b8 K H ds xs):xs.isEmpty=ds.isEmpty:=by
 cases ds with
 | nil=>cases h;rfl
 | cons d r=>obtain ⟨v,vs,rfl,_⟩:=h;rfl
def du:(1000000:Nat)<=RW:=by rw [abR];decide
def cx (φ:FE):FT:=fun U=>(φ U).bind M8
theorem DL (K:aT) (M:JE X a (tD W O φ)) (L:∀ g,isTrue a X.env g=(do let v <- g;ae1 a.pos;holding [v] (truthy v)):=by exact fun _=>rfl) (J:X.K=K:=by rfl) (hW:W.K=K:=by rfl):JT X a (iM W O (cx φ)) :=
 (FH K M L J).imp fun σ H Q C=>cP C fun as0 B own U I h=>⟨as0,B,own,U,I,fj h fun x v H1 Y r h1=>by
  subst hW;cases x with
  | non=>cases r;exact h1 H1 (aw.refl _)
  | bl b=>cases r;exact h1 H1 (aw.refl _)
  | int i=>cases r;exact h1 H1 (aw.refl _)
  | str y =>
   cases r;have h2:fH W H1 (if y.length<=1000000 then R.ok (y.length != 0) else R.no) Q:=h1;split at h2
   .rename_i hl;refine ⟨Le hl du,?_⟩;have e:((y.length:Int) != 0)=(y.length != 0):=by
     grind
    rw [e];exact h2 H1 (aw.refl _)
   .exact h2.elim
  | lst ds =>
   obtain ⟨p,xs,rfl,u,z⟩:=r;refine .inl (.inl ⟨xs,(ar _ _).seq u,?_⟩);rw [z.empty];exact h1 H1 (aw.refl _)
  | tup ds =>
   obtain ⟨p,xs,rfl,u,z⟩:=r;refine .inl (.inr ⟨xs,(ar _ _).seqT u,?_⟩);rw [z.empty];exact h1 H1 (aw.refl _)
  | dct ds =>
   obtain ⟨p,xs,rfl,u,z⟩:=r;refine .inr ⟨xs,ar _ _ _ _ u,?_⟩;rw [z.empty];exact h1 H1 (aw.refl _)
  | _=>exact h1.elim⟩
def dc (τ υ:FT):FT:=fun U=>(τ U).bind fun b=>if b=ζ then υ U else .ok η
def kQ (τ υ:FT):FT:=fun U=>(τ U).bind fun b=>if b=ζ then .ok ζ else υ U
def d6 (τ:FT):FT:=fun U=>(τ U).bind fun b=>.ok (!b)
def AC (h:JW X a (iM W O τ)):JT X a (iM W O τ):=Ko h
def Ks (g:JT X a (iM W O τ)):JW X (.BoolOp .And [a] pos) (iM W O τ):=Kf g
def QN (g:JT X a (iM W O τ)):JW X (.BoolOp .Or [a] pos) (iM W O τ):=Qa g
def Oc (u:JT X a (iM W O τ)) (hb:JW X (.BoolOp .And (b::rest) pos) (iM W O υ)):JW X (.BoolOp .And (a::b::rest) pos) (iM W O (dc τ υ)) :=
 (Qq u hb).imp fun σ H Q g=>cP g fun as0 B own U I h=>⟨as0,B,own,U,I,jo h fun c H1 r h1=>by
  cases c with
  | true=>exact ⟨as0,B,own,U,I.mono r,h1⟩
  | false=>exact h1 H1 (aw.refl _)⟩
def Wy (u:JT X a (iM W O τ)) (hb:JW X (.BoolOp .Or (b::rest) pos) (iM W O υ)):JW X (.BoolOp .Or (a::b::rest) pos) (iM W O (kQ τ υ)) :=
 (TK u hb).imp fun σ H Q g=>cP g fun as0 B own U I h=>⟨as0,B,own,U,I,jo h fun c H1 r h1=>by
  cases c with
  | false=>exact ⟨as0,B,own,U,I.mono r,h1⟩
  | true=>exact h1 H1 (aw.refl _)⟩
def Nc (r:JT X a (iM W O τ)):JT X (.UnaryOp .Not a pos) (iM W O (d6 τ)) :=
 (Qv r).imp fun σ H Q g=>cP g fun as0 B own U I h=>⟨as0,B,own,U,I,jo h fun c H1 u h1=>h1 H1 (aw.refl _)⟩
def Je (τ:FT) (φ ψ:FE):FE:=fun U=>(τ U).bind fun b=>if b=ζ then φ U else ψ U
def Wu (u:JT X c (iM W O τ)) (v:JE X a (tD W O φ)) (hb:JE X b (tD W O ψ)):JE X (.IfExp c a b pos) (tD W O (Je τ φ ψ)) :=
 (RJ u v hb).imp fun σ H Q r=>cP r fun as0 B own U I h=>⟨as0,B,own,U,I,kZ h fun c H1 g h1=>by
  cases c with
  | true=>exact ⟨as0,B,own,U,I.mono g,h1⟩
  | false=>exact ⟨as0,B,own,U,I.mono g,h1⟩⟩
def ag:FA:=fun _=>.ok []
def aa (φ:FE) (α:FA):FA:=fun U=>(φ U).bind fun d=>(α U).bind fun ds=>.ok (d::ds)
def G4:JA X [] (qZ W O ag):=qD.imp fun σ H Q g=>cP g fun as0 B own U I h=>h [] H (aw.refl _) rfl
def zQ (J:JE X e (tD W O φ)) (hr:JA X es (qZ W O α)) (hn:aI e=ζ:=by rfl):JA X (e::es) (qZ W O (aa φ α)) :=
 (jV J hr hn).imp fun σ H Q g=>cP g fun as0 B own U I h=>⟨as0,B,own,U,I,yk h fun d v H1 u L h1=>⟨as0,B,own,U,I.mono u,vN h1 fun ds vs C z r h2 =>
  h2 (v::vs) C (aw.refl _) ⟨v,vs,rfl,L.mono (aJ z),r⟩⟩⟩
def vy (ds:afW):R D:=if ds.length<=1000000 then .ok (.lst ds) else .no
def zw (ds:afW):R D:=if ds.length<=1000000 then .ok (.tup ds) else .no
def bE (α:FA):FE:=fun U=>(α U).bind vy
def aO (α:FA):FE:=fun U=>(α U).bind zw
def A7 (h:fG W as H (vy ds) Q) (u:aN W.K (aD as H) ds xs):xs.length<=RW/\∀ p,H p=ξ->Q (.ref p) (upd H p (.lst xs)):=by
 unfold vy at h;split at h
 .rename_i hl;refine ⟨by rw [<- u.len];exact Le hl du,fun p g=>?_⟩;refine h p (.lst xs) (upd H p (.lst xs)) (aR g _) g aK ⟨xs,rfl,u.mono ?_⟩;intro b o e;have hb:b≠p:=fun z=>by
   subst z
   have:=ar _ _ _ _ e
   rw [g] at this;cases this
  by_cases r:b∈as
  .rw [cY r] at e;cases e
  .rw [aV r] at e;rw [aV (by simp [hb,r]),aF hb];exact e
 .exact h.elim
def Uu (h:JA X es (qZ W O α)):JE X (.List es pos) (tN W O (bE α)) :=
 (VC h).imp fun σ H Q r=>cP r fun as0 B own U I h=>⟨as0,B,own,U,I,gQ h fun ds xs H1 u g h1=>A7 h1 g⟩
def vj (h:JE X e (tN W O φ)):JE X e (tD W O φ):=h.imp fun σ H Q g=>cP g fun as0 B own U I q=>by
 refine ⟨as0,B,own,U,I,?_⟩;cases hr:φ U with
 | ok d =>
  rw [hr] at q;exact fun p o H' s r e od=>q (.ref p) H' s (od.den (I.new r) e)
 | er x=>rw [hr] at q;exact q
 | no=>rw [hr] at q;exact q
def Ug (h:JA X es (qZ W O α)):JE X (.Tuple es x1 pos) (tD W O (aO α)) :=
 (U2 h).imp fun σ H Q u=>cP u fun as0 B own U I h=>⟨as0,B,own,U,I,dH h fun ds xs H1 v r h1=>by
  unfold zw at h1;split at h1
  .rename_i hl;refine ⟨by rw [<- r.len];exact Le hl du,fun p g=>?_⟩;have hn:=(I.mono v).new g;refine h1 (.ref p) (upd H1 p (.tup xs)) (aR g _) ⟨p,xs,rfl,.inl (.inl ?_),r.mono (aJ (aR g _))⟩;rw [aV hn];exact aK
  .exact h1.elim⟩
def kl (W:Wd) (r:afV->Hp->VK->Prop) (g:afW->R D):Prop:=∀ (as:afT) (H:Hp) (xs:afV) (ds:afW) (Q:VK),(∀ a∈as,H a≠ξ)->aN W.K (aD as H) ds xs->cq W as H (g ds) Q->r xs H Q
def vO (W:Wd) (r:afV->Hp->VK->Prop) (g:afW->R D):Prop:=∀ (as:afT) (H:Hp) (xs:afV) (ds:afW) (Q:VK),(∀ a∈as,H a≠ξ)->aN W.K (aD as H) ds xs->fG W as H (g ds) Q->r xs H Q
def aj (g:afW->R D) (α:FA):FE:=fun U=>(α U).bind g
section
variable {p:Pos} {id:String}
def Km (Z:bG X (.builtin id) r) (C:kl W r g) (v:X.mg x=ξ) (Y:MK x=θ (.builtin id)) (L:JA X (e::es) (qZ W O α)) (hg:Gl X x:=by rfl) (h1:aI e=ζ:=by rfl) (h2:es.all aI=ζ:=by rfl) (hn:x≠"__name__":=by decide) (u:afX x:=by decide) :
  JE X (.Call (.Name x p) (e::es) [] pos) (tD W O (aj g α)) :=
 (ui Z v Y L hg h1 h2 hn u).imp fun σ H Q z=>cP z fun as0 B own U I h=>⟨as0,B,own,U,I,dH h fun ds xs H1 J M h1=>C (own++as0) H1 xs ds Q (I.mono J).exi M h1⟩
def Jo (Z:bG X (.type T) r) (C:kl W r g) (v:X.mg x=ξ) (Y:MK x=θ (.type T)) (L:JA X (e::es) (qZ W O α)) (hg:Gl X x:=by rfl) (h1:aI e=ζ:=by rfl) (h2:es.all aI=ζ:=by rfl) (hn:x≠"__name__":=by decide) (u:afX x:=by decide) :
  JE X (.Call (.Name x p) (e::es) [] pos) (tD W O (aj g α)) :=
 (tF Z v Y L hg h1 h2 hn u).imp fun σ H Q z=>cP z fun as0 B own U I h=>⟨as0,B,own,U,I,dH h fun ds xs H1 J M h1=>C (own++as0) H1 xs ds Q (I.mono J).exi M h1⟩
def KH (Z:bG X (.type T) r) (C:vO W r g) (v:X.mg x=ξ) (Y:MK x=θ (.type T)) (L:JA X (e::es) (qZ W O α)) (hg:Gl X x:=by rfl) (h1:aI e=ζ:=by rfl) (h2:es.all aI=ζ:=by rfl) (hn:x≠"__name__":=by decide) (u:afX x:=by decide) :
  JE X (.Call (.Name x p) (e::es) [] pos) (tN W O (aj g α)) :=
 (tF Z v Y L hg h1 h2 hn u).imp fun σ H Q z=>cP z fun as0 B own U I h=>⟨as0,B,own,U,I,gQ h fun ds xs H1 J M h1=>C (own++as0) H1 xs ds Q (I.mono J).exi M h1⟩
end
def cO:Sd->R (Option Int):=fun _=>.ok ξ
def bI (φ:FE):Sd->R (Option Int):=fun U=>(φ U).bind fun d=>match d with
 | .int i=>.ok (θ i)
 | _=>.no
def lJ:JO X ξ (WX W O cO):=IT.imp fun σ H Q g=>cP g fun as0 B own U I h=>h H (aw.refl _)
def lM (h:JE X e (tD W O φ)):JO X (θ e) (WX W O (bI φ)):=(IB h).imp fun σ H Q r=>cP r fun as0 B own U I h=>⟨as0,B,own,U,I,fj h fun d v H1 u g h1=>by
  cases d with
  | int i=>cases g;exact h1 H1 (aw.refl _)
  | _=>exact h1.elim⟩
def W7 (W:Wd) (r:V->Option Int->Option Int->Hp->VK->Prop) (g:D->Option Int->Option Int->R D):Prop :=
 ∀ (as:afT) (H:Hp) (x:V) (lo u:Option Int) (a:D) (Q:VK),(∀ p,H p=ξ->p∉as)->b9 W.K (aD as H) a x->cq W as H (g a lo u) Q->r x lo u H Q
def lh (g:D->Option Int->Option Int->R D) (φ:FE) (l u:Sd->R (Option Int)):FE:=fun U=>(φ U).bind fun x=>(l U).bind fun lo=>(u U).bind fun r=>g x lo r
def mj {lo z:Option abu} (hr:uW X r) (Z:W7 W r g) (he:JE X e (tD W O φ)) (hl:JO X lo (WX W O l)) (M:JO X z (WX W O u)) :
  JE X (.Subscript e (.Slice lo z ξ p2) pos) (tD W O (lh g φ l u)) :=
 (IV hr he hl M).imp fun σ H Q Y=>cP Y fun as0 B own U I h=>⟨as0,B,own,U,I,bp h fun x v H1 C d1 h1=>⟨as0,B,own,U,I.mono C,kZ h1 fun lo H2 J h2=>⟨as0,B,own,U,(I.mono C).mono J,kZ h2 fun z H3 L h3 =>
  Z (own++as0) H3 v lo z x Q (fun p hp=>(((I.mono C).mono J).mono L).new hp) (d1.mono (aJ (J.trans L))) h3⟩⟩⟩
def Yc (W:Wd) (r:Str->afV->Hp->VK->Prop) (g:Str->afW->R D):Prop :=
 ∀ (as:afT) (H:Hp) (z:Str) (xs:afV) (ds:afW) (Q:VK),(∀ p,H p=ξ->p∉as)->aN W.K (aD as H) ds xs->cq W as H (g z ds) Q->r z xs H Q
def Rc (g:Str->afW->R D) (φ:FE) (α:FA):FE:=fun U=>(φ U).bind fun x=>match x with
 | .str z=>(α U).bind fun ds=>g z ds
 | _=>.no
theorem YS {apos cpos:Pos} {id:String} (J:Slot "str" name id) (L:typeOf (.builtin id)=pure (.type "method_descriptor")) (Z:Vm X id r) (hd:Yc W r g) (Y:JE X o (tD W O φ)) (ha:JA X (e::es) (qZ W O α))
  (u:abg o name X.env (eval o X.env)=eval o X.env:=by rfl) (C:(apos.endLine==cpos.line)=ζ:=by rfl) (h1:(e::es).all aI=ζ:=by rfl) (hl:(e::es).length < 29:=by decide) :
  JE X (.Call (.Attribute o name apos) (e::es) [] cpos) (tD W O (Rc g φ α)) :=
 (Xm J L Z Y ha u C h1 hl).imp fun σ H Q hh=>cP hh fun as0 B own U I h=>⟨as0,B,own,U,I,bp h fun x v H1 M d1 h1=>by
  cases x with
  | str z =>
   cases d1;exact ⟨as0,B,own,U,I.mono M,dH h1 fun ds xs H2 s2 d2 h2=>hd (own++as0) H2 z xs ds Q (fun p hp=>((I.mono M).mono s2).new hp) d2 h2⟩
  | _=>exact h1.elim⟩
end
inductive Fl where
 | nx (U:Sd)|rt (d:D)|bk (U:Sd)|ct (U:Sd)
 /-- a return of what is laid anew,and nobody else's -/
 | rn (d:D)
abbrev FS:=Sd->R Fl
def dZ (W:Wd) (as0:afT) (B:Hp) (Ob O':afO) (r:R Fl) (D:Ends):Prop:=match r with
 | .ok (.nx U)=>∀ own σ H,DI W.K as0 B O' own σ U H->D.nx σ H
 | .ok (.bk U)=>∀ own σ H,DI W.K as0 B Ob own σ U H->D.bk σ H
 | .ok (.ct U)=>∀ own σ H,DI W.K as0 B Ob own σ U H->D.ct σ H
 | .ok (.rt d)=>∀ v H,aw B H->b9 W.K (aD as0 H) d v->D.rt v H
 | .ok (.rn d)=>∀ p o H,aw B H->B p=ξ->H p=θ o->i8 W.K (aD (p::as0) H) o d->D.rt (.ref p) H
 | .er x=>∀ e C H,aw B H->W.mg x=θ (.ref C)->W.E e (θ C) H
 | .no=>False
def sD (W:Wd) (Ob O O':afO) (φ:FS):TS:=fun D σ H=>∃ as0 B own U,DI W.K as0 B O own σ U H/\dZ W as0 B Ob O' (φ U) D
section
variable {W:Wd} {as0 own:afT} {B H:Hp} {Ob O O':afO} {σ:St} {U:Sd} {D':Ends}
def cw (I:DI W.K as0 B O own σ U H) (h:dZ W as0 B Ob O' (r.bind f) D') (q:∀ d v H',aw H H'->b9 W.K (aD (own++as0) H') d v->dZ W as0 B Ob O' (f d) D'->Q v H'):cq W (own++as0) H r Q:=by
 cases r with
 | ok d=>exact fun v H' s g=>q d v H' s g h
 | er x=>exact fun e C H' s=>h e C H' (I.same.trans s)
 | no=>exact h
def jC (I:DI W.K as0 B O own σ U H) (h:dZ W as0 B Ob O' (r.bind f) D') (q:∀ d p o H',aw H H'->H p=ξ->H' p=θ o->i8 W.K (aD (p::(own++as0)) H') o d->dZ W as0 B Ob O' (f d) D'->Q (.ref p) H'):fG W (own++as0) H r Q:=by
 cases r with
 | ok d=>exact fun p o H' s h1 h2 g=>q d p o H' s h1 h2 g h
 | er x=>exact fun e C H' s=>h e C H' (I.same.trans s)
 | no=>exact h
def nL {r:R α} {f:α->R Fl} {Q:α->Hp->Prop} (I:DI W.K as0 B O own σ U H) (h:dZ W as0 B Ob O' (r.bind f) D') (q:∀ d H',aw H H'->dZ W as0 B Ob O' (f d) D'->Q d H'):fH W H r Q:=by
 cases r with
 | ok d=>exact fun H' s=>q d H' s h
 | er x=>exact fun e C H' s=>h e C H' (I.same.trans s)
 | no=>exact h
def dZ.base (h:dZ W as0 B Ob O' r D') (s:aw B B') (u:∀ a∈as0,B a≠ξ):dZ W as0 B' Ob O' r D':=by
 cases r with
 | ok f =>
  cases f with
  | nx U=>exact fun own σ H I=>h own σ H (I.base s u)
  | bk U=>exact fun own σ H I=>h own σ H (I.base s u)
  | ct U=>exact fun own σ H I=>h own σ H (I.base s u)
  | rt d=>exact fun v H g=>h v H (s.trans g)
  | rn d=>exact fun p o H g z=>h p o H (s.trans g) (s.free z)
 | er x=>exact fun e C H g=>h e C H (s.trans g)
 | no=>exact h
def getElem?_set' {α:Type} {l:List α} {x:α}:(l.set i x)[j]?=if i=j then (if i < l.length then θ x else ξ) else l[j]?:=List.getElem?_set
theorem DI.set (I:DI W.K as0 B O own σ U H) (r:i∉O) (h:b9 W.K (aD (own++as0) H) d v):DI W.K as0 B O own (σ.set i (θ v)) (U.set i (θ d)) H:=by
 refine ⟨by simp [I.len],I.olen,I.nd,I.ond,I.fresh,I.ex0,I.same,fun j e g q=>?_,fun j a g=>?_⟩
 .rw [getElem?_set'] at q ⊢;split at q
  .rename_i hij;rw [afI hij];split at q
   .rename_i hl;rw [afI (by rw [<- I.len];exact hl)]
    grind
   .cases q
  .rename_i hij;rw [afJ hij];exact I.var j e g q
 .have hji:i≠j:=fun z=>r (by rw [z];exact (abb g).1);let ⟨d',o,h1,h2,h3,h4⟩:=I.owns j a g
  simp_all
theorem zip_inj:∀ {O:afO} {own:afT} {i j:Nat} {a:aa3},own.Nodup->(i,a)∈O.zip own->(j,a)∈O.zip own->i=j
 | [],_,_,_,_,_,h,_=>by simp at h
 | _::_,[],_,_,_,_,h,_=>by simp at h
 | k::O,b::own,i,j,a,nd,h1,h2=>by
  rw [aa4] at nd;rcases mK.mp h1 with e1|h1 <;> rcases mK.mp h2 with e2|h2
  .grind
  .cases e1;exact absurd (abb h2).2 nd.1
  .cases e2;exact absurd (abb h1).2 nd.1
  .exact zip_inj nd.2 h1 h2
theorem b6:∀ {O:afO} {own:afT} {i:Nat},own.length=O.length->i∈O->∃ a,(i,a)∈O.zip own
 | [],_,_,_,h=>by cases h
 | k::O,[],_,l,_=>by simp at l
 | k::O,b::own,i,l,h=>by
  rcases mK.mp h with rfl|h
  .simp_all
  .obtain ⟨a,g⟩:=b6 (by simpa using l) h;exact ⟨a,iN _ g⟩
def bt (p:Nat->Bool):afO->afT->afT
 | i::O,a::own=>if p i=ζ then a::bt p O own else bt p O own
 | _,_=>[]
theorem gO {p:Nat->Bool}:∀ {O:afO} {own:afT},(bt p O own).Sublist own
 | [],own=>by simp [bt]
 | _::_,[]=>by simp [bt]
 | i::O,a::own=>by
  unfold bt;split
  .exact (gO).cons_cons a
  .exact (gO).cons a
theorem jJ:∀ {O:afO} {own:afT},own.length=O.length->(bt p O own).length=(O.filter p).length
 | [],[],_=>rfl
 | i::O,a::own,l=>by
  have g:=jJ (p:=p) (by simpa using l);unfold bt;rw [ace];split
  .simp [g]
  .exact g
 | [],_::_,l=>by simp at l
 | _::_,[],l=>by simp at l
theorem dY:∀ {O:afO} {own:afT} {i:Nat} {a:aa3},(i,a)∈(O.filter p).zip (bt p O own)->(i,a)∈O.zip own/\p i=ζ
 | [],_,_,_,h=>by simp at h
 | _::_,[],_,_,h=>by simp [bt] at h
 | k::O,b::own,i,a,h=>by
  unfold bt at h;rw [ace] at h;by_cases g:p k=ζ
  .rw [afI g,afI g] at h;rcases mK.mp h with e|h
   .simp_all
   .exact ⟨iN _ (dY h).1,(dY h).2⟩
  .rw [afJ g,afJ g] at h;exact ⟨iN _ (dY h).1,(dY h).2⟩
theorem gP:∀ {O:afO} {own:afT} {a:aa3},a∈bt p O own->∃ i,(i,a)∈O.zip own/\p i=ζ
 | [],_,_,h=>by simp [bt] at h
 | _::_,[],_,h=>by simp [bt] at h
 | k::O,b::own,a,h=>by
  unfold bt at h;split at h
  .rcases mK.mp h with e|h
   .simp_all
   .let ⟨i,h1,h2⟩:=gP h;exact ⟨i,iN _ h1,h2⟩
  .let ⟨i,h1,h2⟩:=gP h;exact ⟨i,iN _ h1,h2⟩
theorem DI.freeze (I:DI W.K as0 B O own σ U H) (C:O.filter (fun i=>decide (i∈O2))=O2):∃ r,DI W.K as0 B O2 r σ U H:=by
 generalize L:(fun i=>decide (i∈O2))=p at C;have M:∀ i,p i=decide (i∈O2):=fun i=>by rw [<- L]
 have u:(bt p O own).Sublist own:=gO;have mem:∀ a∈bt p O own,a∈own:=fun a g=>u.mem g;have s:aw (aD (own++as0) H) (aD (bt p O own++as0) H):=iz fun a g=>by
  grind
 refine ⟨bt p O own,I.len,by rw [jJ I.olen,C],I.nd.sublist u,by rw [<- C];exact I.ond.sublist adT,fun a g=>I.fresh a (mem a g),I.ex0,I.same,fun i d J q=>?_,fun i a J=>?_⟩
 .by_cases h:i∈O
  .let ⟨a,g⟩:=b6 I.olen h
   let ⟨d',o,h1,h2,h3,h4⟩:=I.owns i a g
   rw [q] at h1;cases h1;refine ⟨.ref a,h2,i8.den ?_ h3 (h4.mono (iz fun b hb=>?_))⟩
   .intro z;rcases By.mp z with z|z
    .let ⟨j,h5,h6⟩:=gP z
     have:=zip_inj I.nd g h5
     simp_all
    .exact I.apart a (abb g).2 z
   .rcases mK.mp hb with rfl|hb
    .exact abh _ (abb g).2
    .rcases By.mp hb with h|h
     .simp_all
     simp_all
  .let ⟨v,h1,h2⟩:=I.var i d h q
   exact ⟨v,h1,h2.mono s⟩
 .rw [<- C] at J;let ⟨d,o,h1,h2,h3,h4⟩:=I.owns i a (dY J).1
  exact ⟨d,o,h1,h2,h3,h4.mono s⟩
theorem DI.own1 (I:DI W.K as0 B O own σ U H) (u:i∉O) (J:B p=ξ) (hn:p∉own++as0) (e:H p=θ o) (h:i8 W.K (aD (p::(own++as0)) H) o d) (C:i < U.length)
  (fr:∀ j d',j∉O->U[j]?=θ (θ d')->∃ v,σ[j]?=θ (θ v)/\b9 W.K (aD (p::(own++as0)) H) d' v)
  (L:∀ j a,(j,a)∈O.zip own->∃ d o,U[j]?=θ (θ d)/\σ[j]?=θ (θ (.ref a))/\H a=θ o/\i8 W.K (aD (p::(own++as0)) H) o d) :
  DI W.K as0 B (i::O) (p::own) (σ.set i (θ (.ref p))) (U.set i (θ d)) H:=by
 refine ⟨by simp [I.len],by simp [I.olen],aa4.mpr ⟨fun z=>hn (abh _ z),I.nd⟩,aa4.mpr ⟨u,I.ond⟩,fun a r=>?_,I.ex0,I.same,fun j e g q=>?_,fun j a g=>?_⟩
 .rcases mK.mp r with rfl|r
  .exact J
  .exact I.fresh a r
 .have hji:i≠j:=fun z=>g (by grind);simp_all
 .rw [acU] at g;rcases mK.mp g with z|g
  .cases z;refine ⟨d,o,?_,?_,e,h⟩
   .simp_all
   .rw [getElem?_set',afI rfl,afI (by rw [<- I.len];exact C)]
  .have hji:i≠j:=fun z=>u (by rw [z];exact (abb g).1);simp_all
end
section
variable {X:Cx} {W:Wd} {Ob O O' O1 O2:afO} {e c:abu} {φ ψ:FS} {ε:FE} {τ:FT} {pos:Pos} {st:ac2} {sts rest:List ac2}
def ay:FS:=fun U=>.ok (.nx U)
def ao (φ ψ:FS):FS:=fun U=>(φ U).bind fun f=>match f with
 | .nx δ'=>ψ δ'
 | f=>.ok f
def Nl:JB X [] (sD W Ob O O ay):=QU.imp fun D σ H g=>cP g fun as0 B own U I h=>h own σ H I
def yY (h1:JS X st (sD W Ob O O1 φ)) (h2:JB X rest (sD W Ob O1 O2 ψ)):JB X (st::rest) (sD W Ob O O2 (ao φ ψ)):=(Jf h1 h2).imp fun D σ H u=>cP u fun as0 B own U I h=>by
 refine ⟨as0,B,own,U,I,?_⟩;unfold ao at h;cases hr:φ U with
 | ok f =>
  rw [hr] at h;cases f with
  | nx δ'=>exact fun g r H' v=>⟨as0,B,g,δ',v,h⟩
  | rt d=>exact h
  | rn d=>exact h
  | bk d=>exact h
  | ct d=>exact h
 | er x=>rw [hr] at h;exact h
 | no=>rw [hr] at h;exact h
def Ef (h1:JS X st (sD W Ob O O1 φ)):JB X [st] (sD W Ob O O1 φ):=Ow h1
def ND (h:JB X sts (sD W Ob O2 O' φ)) (r:O.filter (fun i=>decide (i∈O2))=O2:=by decide):JB X sts (sD W Ob O O' φ):=h.imp fun D σ H g=>cP g fun as0 B own U I h =>
 let ⟨own2,I2⟩:=I.freeze r;⟨as0,B,own2,U,I2,h⟩
def HI (h:JB X sts (sD W Ob O O1 φ)) (v:O1.filter (fun i=>decide (i∈O2))=O2:=by decide):JB X sts (sD W Ob O O2 φ):=h.imp fun D σ H u=>cP u fun as0 B own U I h=>by
 refine ⟨as0,B,own,U,I,?_⟩;cases hr:φ U with
 | ok f =>
  rw [hr] at h;cases f with
  | nx δ'=>exact fun r g H' z=>let ⟨own2,I2⟩:=z.freeze v;h own2 g H' I2
  | rt d=>exact h
  | rn d=>exact h
  | bk d=>exact h
  | ct d=>exact h
 | er x=>rw [hr] at h;exact h
 | no=>rw [hr] at h;exact h
def aM (ε:FE):FS:=fun U=>(ε U).bind fun d=>.ok (.rt d)
def NZ (h:JE X e (tD W O ε)):JS X (.Return (θ e) pos) (sD W Ob O O' (aM ε)):=(F9 h).imp fun D σ H r=>cP r fun as0 B own U I h =>
 ⟨as0,B,own,U,I,cw I h fun d v H' s g h'=>h' v H' (I.same.trans s) (g.mono (iz fun a u=>aaM _ u))⟩
def ql (ε:FE):FS:=fun U=>(ε U).bind fun d=>.ok (.rn d)
def JK {i:Nat} {x:Str} {p1:Pos} (z:i∈O) (C:X.N[i]?=θ x:=by rfl) (Z:oy X.env.scope x:=by walk_at"v") (L:afX x:=by decide)
  (r:(x==("__classdict__":Str))=η:=by decide):JS X (.Return (θ (.Name x p1)) pos) (sD W Ob O O' (ql (ae i))):=(F9 (jv i C Z L r)).imp fun D σ H J=>cP J fun as0 B own U I h=>by
 obtain ⟨a,u⟩:=b6 I.olen z;obtain ⟨d,o,h1,h2,Y,M⟩:=I.owns i a u;have e:ql (ae i) U=.ok (.rn d):=by unfold ql ae;rw [h1];rfl
 rw [e] at h;show mW σ[i]? H _;rw [h2];have g:a∈own:=(abb u).2;exact h a o H I.same (I.fresh a g) Y (M.mono (iz fun b hb=>by
  rcases mK.mp hb with rfl|hb
  .exact abh _ g
  .exact aaM _ hb))
def vF (ε:FE):FS:=fun U=>(ε U).bind fun _=>.ok (.nx U)
def HM (h:JE X e (tD W O ε)) (hs:acq e ξ pos.line X.env=pure η:=by rfl):JS X (.Expr e pos) (sD W Ob O O (vF ε)):=(oH h hs).imp fun D σ H g=>cP g fun as0 B own U I h =>
 ⟨as0,B,own,U,I,cw I h fun d v H' s r h'=>h' own σ H' (I.mono s)⟩
def bz (τ:FT) (φ ψ:FS):FS:=fun U=>(τ U).bind fun b=>if b=ζ then φ U else ψ U
def S3 (r:JT X c (iM W O τ)) (u:JB X a (sD W Ob O O' φ)) (hb:JB X b (sD W Ob O O' ψ)):JS X (.If c a b pos) (sD W Ob O O' (bz τ φ ψ)):=(TH r u hb).imp fun D σ H g=>cP g fun as0 B own U I h =>
 ⟨as0,B,own,U,I,nL I h fun b H' s h'=>by
  cases b with
  | true=>exact ⟨as0,B,own,U,I.mono s,h'⟩
  | false=>exact ⟨as0,B,own,U,I.mono s,h'⟩⟩
def az (i:Nat) (ε:FE):FS:=fun U=>(ε U).bind fun d=>.ok (.nx (U.set i (θ d)))
def FL {pos':Pos} (L:i∉O) (r:X.N.Nodup) (z:wE X.env.scope x) (M:JE X e (tD W O ε)) (g:X.N[i]?=θ x:=by rfl) (hs:acq e (θ (.Name x pos')) pos.line X.env=pure η:=by rfl) (Y:X.fn x=ζ\/X.env.scope.names.lookup x=θ .local:=by walk_at"u") :
  JS X (.Assign [.Name x pos'] e pos) (sD W Ob O O (az i ε)):=(G6 r z M g hs Y).imp fun D σ H J=>cP J fun as0 B own U I h =>
 ⟨as0,B,own,U,I,cw I h fun d v H' s C h'=>h' own _ H' ((I.mono s).set L C)⟩
def ff (i:Nat) (ε:FE):FS:=fun U=>(ε U).bind fun d=>if i < U.length then .ok (.nx (U.set i (θ d))) else .no
def gk (r:H p=ξ) (s:aw H H'):aw (aD as H) (aD (p::as) H'):=fun b o e=>by
 by_cases hb:b∈as
 .rw [cY hb] at e;cases e
 .rw [aV hb] at e;have g:b≠p:=fun z=>by simp_all
  rw [aV (by simp [hb,g])];exact s b o e
def vq {K:aT} (I:DI K as0 B O own σ U H) (C:i∉O) (s:aw H H') (g:H p=ξ) (e:H' p=θ o) (h:i8 K (aD (p::(own++as0)) H') o d) (z:i < U.length) :
  DI K as0 B (i::O) (p::own) (σ.set i (θ (.ref p))) (U.set i (θ d)) H':=by
 refine DI.own1 (W:=⟨K,fun _=>ξ,E0⟩) (I.mono s) C (I.same.free g) (I.new g) e h z (fun j d' r q=>?_) fun j a r=>?_
 .let ⟨v,h1,h2⟩:=I.var j d' r q
  exact ⟨v,h1,h2.mono (gk g s)⟩
 .obtain ⟨d',u,h1,h2,L,J⟩:=I.owns j a r;exact ⟨d',u,h1,h2,s a u L,J.mono (gk g s)⟩
def DZ {pos':Pos} (C:i∉O) (r:X.N.Nodup) (v:wE X.env.scope x) (J:JE X e (tN W O ε)) (g:X.N[i]?=θ x:=by rfl) (hs:acq e (θ (.Name x pos')) pos.line X.env=pure η:=by rfl) (L:X.fn x=ζ\/X.env.scope.names.lookup x=θ .local:=by walk_at"u") :
  JS X (.Assign [.Name x pos'] e pos) (sD W Ob O (i::O) (ff i ε)):=(G6 r v J g hs L).imp fun D σ H z=>cP z fun as0 B own U I h =>
 ⟨as0,B,own,U,I,jC I h fun d p o H' s M e od h'=>by
  split at h'
  .rename_i hl;exact h' _ _ H' (vq I C s M e od hl)
  .exact h'.elim⟩
inductive TgD where
 | one (i:Nat)|tup (is:afO)
noncomputable def kE:afO->afW->Sd->Sd
 | i::is,d::ds,U=>kE is ds (U.set i (θ d))
 | _,_,U=>U
def dJ:TgD->D->Sd->R Sd
 | .one i,d,U=>.ok (U.set i (θ d))
 | .tup is,.tup ds,U=>if ds.length=is.length then .ok (kE is ds U) else .no
 | _,_,_=>.no
def gD (W:Wd) (O:afO) (tg:TgD):TG:=fun v σ H Q=>∃ as0 B own U d,DI W.K as0 B O own σ U H/\b9 W.K (aD (own++as0) H) d v/\match dJ tg d U with
 | .ok δ'=>∀ g,DI W.K as0 B O own g δ' H->Q g H
 | _=>False
def Tf (W:Wd) (O:afO) (is:afO):IY:=fun vs σ H Q=>∃ as0 B own U ds,DI W.K as0 B O own σ U H/\aN W.K (aD (own++as0) H) ds vs/\ds.length=is.length/\∀ g,DI W.K as0 B O own g (kE is ds U) H->Q g H
def Pt (C:i∉O) (z:X.N.Nodup) (g:X.N[i]?=θ x) (r:wE X.env.scope x) (J:X.fn x=ζ\/X.env.scope.names.lookup x=θ .local:=by walk_at"u"):JG X (.Name x pos) (gD W O (.one i)) :=
 (IS z g r J).imp fun v σ H Q ⟨as0,B,own,U,d,I,dv,h⟩=>h _ (I.set C dv)
def HH:JGs X [] (Tf W O []):=J1.imp fun vs σ H Q ⟨as0,B,own,U,ds,I,dv,hl,h⟩=>by
 cases ds with
 | nil=>cases dv;exact ⟨rfl,h σ I⟩
 | cons _ _=>simp at hl
theorem EX (h1:JG X e (gD W O (.one i))) (h2:JGs X es (Tf W O is))
  (hs:(abz (e::es) X.env).map (·.2)=assign e X.env::(abz es X.env).map (·.2):=by rfl):JGs X (e::es) (Tf W O (i::is)):=(ED h1 h2 hs).imp fun vs σ H Q ⟨as0,B,own,U,ds,I,dv,hl,h⟩=>by
 cases ds with
 | nil=>simp at hl
 | cons d ds =>
  obtain ⟨v,r,rfl,g,z⟩:=dv;exact ⟨v,r,rfl,as0,B,own,U,d,I,g,fun C u=>⟨as0,B,own,_,ds,u,z,by simpa using hl,h⟩⟩
theorem OI (K:aT) {k:Nat} (h:JGs X es (Tf W O is)) (hl:is.length=n:=by rfl) (L:X.calm=ζ:=by rfl)
  (hn:(abz es X.env).length=n:=by rfl) (r:(abz es X.env).findIdx? (·.1)=ξ:=by rfl) (J:X.K=K:=by rfl) (hW:W.K=K:=by rfl):JG X (.Tuple es k pos) (gD W O (.tup is)):=by
 refine (O8 K h L hn r J).imp fun v σ H Q ⟨as0,B,own,U,d,I,dv,h⟩=>?_;cases d with
 | tup ds =>
  obtain ⟨a,xs,rfl,C,z⟩:=dv;have h':(match (if ds.length=is.length then R.ok (kE is ds U) else .no) with|.ok δ'=>∀ g,DI W.K as0 B O own g δ' H->Q g H|_=>False):=h
  by_cases u:ds.length=is.length
  .rw [afI u] at h';subst hW;exact ⟨a,xs,rfl,(ar _ _).seqT C,by rw [<- z.len,u,hl],as0,B,own,U,ds,I,z,u,h'⟩
  simp_all
 | _=>exact h.elim
structure GivesD (K:aT) (as0:afT) (B:Hp) (J:It) (xs:afW):Prop where
 go:∀ i H,aw (aD as0 B) H->i < xs.length->J.go i H
 yl:∀ i H v H2 M,aw (aD as0 B) H->(∀ a∈M,H a≠ξ)->(∀ a∈M,a∈as0\/B a=ξ)->i < xs.length->J.yld i H v H2->aw H H2/\∃ d,xs[i]?=θ d/\b9 K (aD M H2) d v
 stop:∀ H,aw (aD as0 B) H->J.stop xs.length H
def fZ (W:Wd) (as0 own:afT) (H:Hp) (r:R (afW)) (Q:It->Hp->Prop):Prop:=match r with
 | .ok xs=>∀ J H',aw H H'->GivesD W.K as0 (aD own H') J xs->Q J H'
 | .er x=>∀ e C H',aw H H'->W.mg x=θ (.ref C)->W.E e (θ C) H'
 | .no=>False
def iD (W:Wd) (O:afO) (ι:FA):TI:=fun σ H Q=>∃ as0 B own U,DI W.K as0 B O own σ U H/\fZ W as0 own H (ι U) Q
theorem gH (s:aw (aD as0 B) H) (h:∀ a∈M,a∈as0\/B a=ξ):aw (aD as0 B) (aD M H):=fun b o e=>by
 have r:=e;by_cases hb:b∈as0
 .rw [cY hb] at e;cases e
 .rw [aV hb] at e;have g:b∉M:=fun z=>by
   grind
  rw [aV g];exact s b o r
def Bb {K:aT} (h1:e8 K (aD as0 B) a xs) (h2:aN K (aD as0 B) ds xs):GivesD K as0 B (X7 K a) ds where
 go:=fun i H s r=>by
  have g:i < xs.length:=by rw [<- h2.len];exact r
  exact ⟨xs,xs[i],s.seq h1,by simp [g]⟩
 yl:=fun i H v H2 M s _ hM r ⟨e,y⟩=>by
  subst e;let ⟨d,q1,q2⟩:=h2.got (y xs (s.seq h1))
  exact ⟨aw.refl _,d,q1,q2.mono (gH s hM)⟩
 stop:=fun H s=>⟨xs,s.seq h1,by rw [h2.len];exact nE _⟩
def B2 {K:aT} (h1:g6 K (aD as0 B) a xs) (h2:aN K (aD as0 B) ds xs):GivesD K as0 B (Zg K a) ds where
 go:=fun i H s r=>by
  have g:i < xs.length:=by rw [<- h2.len];exact r
  exact ⟨xs,xs[i],s.seqT h1,by simp [g]⟩
 yl:=fun i H v H2 M s _ hM r ⟨e,y⟩=>by
  subst e;let ⟨d,q1,q2⟩:=h2.got (y xs (s.seqT h1))
  exact ⟨aw.refl _,d,q1,q2.mono (gH s hM)⟩
 stop:=fun H s=>⟨xs,s.seqT h1,by rw [h2.len];exact nE _⟩
abbrev CO (z:Str):afW:=z.cps.toList.map fun c=>D.str ⟨#[c]⟩
def yd {K:aT} (z:Str):GivesD K as0 B (Rj z) (CO z) where
 go:=fun i H _ g=>by
  simpa [Rj,Str.length] using g
 yl:=fun i H v H2 M _ _ _ g ⟨e,c,h1,h2⟩=>by
  subst e;refine ⟨aw.refl _,.str ⟨#[c]⟩,?_,h2⟩;simp_all
 stop:=fun H _=>by
  show _=z.length;simp [Str.length]
def cb (lo:Int) (n:Nat):afW:=(aa7 n).map fun (k:Nat)=>D.int (lo+(k:Int))
def tf {K:aT} (lo:Int) (n:Nat):GivesD K as0 B (Xa lo n) (cb lo n) where
 go:=fun i H _ g=>by
  unfold cb at g;rw [lE,abt] at g;exact g
 yl:=fun i H v H2 M _ _ _ g ⟨e,h⟩=>by
  subst e;unfold cb at g ⊢;refine ⟨aw.refl _,.int (lo+i),?_,h⟩;simp_all
 stop:=fun H _=>by
  unfold cb;show n<=_;simp_all
def fg:D->R (afW)
 | .lst xs=>.ok xs
 | .tup xs=>.ok xs
 | .str z=>.ok (CO z)
 | _=>.no
def cU (ε:FE):FA:=fun U=>(ε U).bind fg
variable {tg:abu}
def fZ.mono (h:fZ W as0 own H r Q) (s:aw H H'):fZ W as0 own H' r Q:=by
 cases r with
 | ok d=>exact fun J g u=>h J g (s.trans u)
 | er x=>exact fun e C g u=>h e C g (s.trans u)
 | no=>exact h
def kR (h:fZ W as0 own H (r.bind f) Q) (q:∀ d v H',aw H H'->b9 W.K (aD (own++as0) H') d v->fZ W as0 own H' (f d) Q->Q' v H'):cq W (own++as0) H r Q':=by
 cases r with
 | ok d=>exact fun v H' s g=>q d v H' s g (fZ.mono h s)
 | er x=>exact h
 | no=>exact h
def jN (h:fZ W as0 own H (r.bind f) Q) (q:∀ d v H',aw H H'->aN W.K (aD (own++as0) H') d v->fZ W as0 own H' (f d) Q->Q' v H'):gr W (own++as0) H r Q':=by
 cases r with
 | ok d=>exact fun v H' s g=>q d v H' s g (fZ.mono h s)
 | er x=>exact h
 | no=>exact h
def PU (K:aT) (h:JE X l (tD W O ε)) (J:X.K=K:=by rfl) (hW:W.K=K:=by rfl):JI X tg l (iD W O (cU ε)):=(OS K h J).imp fun σ H Q C=>cP C fun as0 B own U I h =>
 ⟨as0,B,own,U,I,kR h fun d v H' s u h'=>by
  subst hW;cases d with
  | lst ds =>
   obtain ⟨a,xs,rfl,g,r⟩:=u;refine .inl ⟨⟨xs,(ar _ _).seq g⟩,h' _ H' (aw.refl _) ?_⟩;rw [iH] at g r;exact Bb g r
  | tup ds =>
   obtain ⟨a,xs,rfl,g,r⟩:=u;refine .inr ⟨⟨xs,(ar _ _).seqT g⟩,h' _ H' (aw.refl _) ?_⟩;rw [iH] at g r;exact B2 g r
  | str z=>cases u;exact h' _ H' (aw.refl _) (yd z)
  | _=>exact h'.elim⟩
def Ju:afW->R (afW)
 | [.int j]=>if -(2 ^ 62)<=j/\j < 2 ^ 62 then .ok (cb 0 j.toNat) else .no
 | _=>.no
def cL (α:FA):FA:=fun U=>(α U).bind Ju
def BZ {p pos:Pos} (g:X.mg "range"=ξ) (J:JA X [a] (qZ W O α)) (hg:Gl X "range":=by rfl) (hn:aI a=ζ:=by rfl):JI X tg (.Call (.Name "range" p) [a] [] pos) (iD W O (cL α)):=(BQ g J hg hn).imp fun σ H Q z=>cP z fun as0 B own U I h =>
 ⟨as0,B,own,U,I,jN h fun ds vs H' s u h'=>by
  unfold Ju at h';split at h'
  .obtain ⟨v,r,rfl,L,C⟩:=u;cases L;cases C;split at h'
   .rename_i hj;exact ⟨hj,h' _ H' (aw.refl _) (tf 0 _)⟩
   .exact h'.elim
  .exact h'.elim⟩
def cc (tg:TgD) (body:FS):afW->Sd->R Fl
 | [],U=>.ok (.nx U)
 | x::r,U=>(dJ tg x U).bind fun g=>(body g).bind fun f=>match f with
  | .nx δ2=>cc tg body r δ2
  | .ct δ2=>cc tg body r δ2
  | .bk δ2=>.ok (.nx δ2)
  | .rt d=>.ok (.rt d)
  | .rn d=>.ok (.rn d)
def fK (ι:FA) (t:TgD) (body:FS):FS:=fun U=>(ι U).bind fun xs=>cc t body xs U
def v7 (I:DI W.K as0 B O own σ U H) (h:dZ W as0 B Ob O' (r.bind f) D')
  (q:∀ d J H',aw H H'->GivesD W.K as0 (aD own H') J d->dZ W as0 B Ob O' (f d) D'->Q J H'):fZ W as0 own H r Q:=by
 cases r with
 | ok d=>exact fun J H' s g=>q d J H' s g h
 | er x=>exact fun e C H' s=>h e C H' (I.same.trans s)
 | no=>exact h
theorem Qu {iter:abu} {body:List ac2} {ι:FA} {t:TgD} (hp:adM (aaV X.prog X.w) X.A X.env X.xe) (hi:JI X tg iter (iD W O ι)) (hg:JG X tg (gD W O t)) (hb:JB X body (sD W O O O φ)) (hc:X.calm=ζ:=by rfl)
  (hs:∀ x,abI iter X.env x=pure x:=by intro _;rfl):JS X (.For tg iter body [] pos) (sD W Ob O O (fK ι t φ)):=(OC hp hi hg hb hc hs).imp fun D' σ H hh=>cP hh fun as0 B own U I h=>by
 refine ⟨as0,B,own,U,I,v7 I h fun xs J H1 s1 G h1=>?_⟩;have I1:=I.mono s1;have I2:=I1.rebase I1.apart;have sB:aw B (aD own H1):=I1.baseIn;have h2:=h1.base sB I.ex0;generalize hB':aD own H1=B' at I2 sB h2 G;have ex':∀ a∈as0,B' a≠ξ:=I2.ex0;refine ⟨fun i m σ H=>m=xs.length - i/\i<=xs.length/\∃ own U,DI W.K as0 B' O own σ U H/\dZ W as0 B' Ob O (cc t φ (xs.drop i) U) D',⟨xs.length,by simp,aaQ _,own,U,I2,by simpa using h2⟩,?_⟩;rintro i m σ3 H3 ⟨rfl,hi,own3,δ3,I3,h3⟩;by_cases C:i < xs.length
 .refine .inr ⟨G.go i H3 ((ar _ _).trans I3.same) C,fun L H'=>∃ own U,DI W.K as0 B' O own L U H'/\dZ W as0 B' Ob O (cc t φ (xs.drop (i+1)) U) D',fun L H' ⟨u,δ',Z,h'⟩=>⟨xs.length - (i+1),by lia,rfl,C,u,δ',Z,h'⟩,fun v H4 y=>?_⟩;let ⟨s4,d,hd,dv⟩:=G.yl i H3 v H4 (own3++as0) ((ar _ _).trans I3.same) I3.exi (fun a ha=>by
   rcases By.mp ha with z|z
   .exact .inr (I3.fresh a z)
   .exact .inl z) C y
  have ed:xs.drop i=d::xs.drop (i+1):=by
   rw [ad8 C];rw [lT C] at hd;cases hd;rfl
  rw [ed] at h3;refine ⟨as0,B',own3,δ3,d,I3.mono s4,dv,?_⟩;have Y:dZ W as0 B' Ob O ((dJ t d δ3).bind fun M=>(φ M).bind fun f=>match f with
   | .nx g=>cc t φ (xs.drop (i+1)) g
   | .ct g=>cc t φ (xs.drop (i+1)) g
   | .bk g=>.ok (.nx g)
   | .rt d=>.ok (.rt d)
   | .rn d=>.ok (.rn d)) D':=h3
  cases hb1:dJ t d δ3 with
  | ok M =>
   rw [hb1] at Y;refine fun L Z=>⟨as0,B',own3,M,Z,?_⟩;have r:dZ W as0 B' Ob O ((φ M).bind fun f=>match f with
    | .nx g=>cc t φ (xs.drop (i+1)) g
    | .ct g=>cc t φ (xs.drop (i+1)) g
    | .bk g=>.ok (.nx g)
    | .rt d=>.ok (.rt d)
    | .rn d=>.ok (.rn d)) D':=Y
   cases hr:φ M with
   | ok f =>
    rw [hr] at r;cases f with
    | nx g=>exact fun u L H' Z=>⟨u,g,Z,r⟩
    | ct g=>exact fun u L H' Z=>⟨u,g,Z,r⟩
    | bk g=>exact r
    | rt d=>exact r
    | rn d=>exact r
   | er x=>rw [hr] at r;exact r
   | no=>rw [hr] at r;exact r
  | er x=>unfold dJ at hb1;grind
  | no=>rw [hb1] at Y;exact Y.elim
 .have e:i=xs.length:=by lia
  subst e;rw [List.drop_length] at h3;exact .inl ⟨G.stop H3 ((ar _ _).trans I3.same),h3 own3 σ3 H3 I3⟩
def di (τ:FT) (body:FS):Nat->Sd->R Fl
 | 0,_=>.no
 | n+1,U=>(τ U).bind fun b=>if b=ζ then (body U).bind fun f=>match f with
  | .nx δ2=>di τ body n δ2
  | .ct δ2=>di τ body n δ2
  | .bk δ2=>.ok (.nx δ2)
  | .rt d=>.ok (.rt d)
  | .rn d=>.ok (.rn d)
  else .ok (.nx U)
theorem FW (n:Nat) (M:adM (aaV X.prog X.w) X.A X.env X.xe) (Y:JT X c (iM W O τ)) (hb:JB X body (sD W O O O φ)):JS X (.While c body [] pos) (sD W Ob O O (di τ φ n)):=(D4 M Y hb).imp fun D' σ H L=>cP L fun as0 B own U I h=>by
 refine ⟨fun m σ H=>∃ own U,DI W.K as0 B O own σ U H/\dZ W as0 B Ob O (di τ φ m U) D',⟨n,own,U,I,h⟩,?_⟩;rintro m σ3 H3 ⟨own3,δ3,I3,h3⟩;cases m with
 | zero=>exact h3.elim
 | succ m =>
  refine ⟨as0,B,own3,δ3,I3,nL I3 h3 fun b J z C=>?_⟩;cases b with
  | false=>exact C own3 σ3 J (I3.mono z)
  | true =>
   refine ⟨fun r H'=>∃ own U,DI W.K as0 B O own r U H'/\dZ W as0 B Ob O (di τ φ m U) D',fun r H' q=>⟨m,adg m,q⟩,as0,B,own3,δ3,I3.mono z,?_⟩;have h4'  := C;cases hr:φ δ3 with
   | ok f =>
    rw [hr] at h4';cases f with
    | nx u=>exact fun g r H' v=>⟨g,u,v,h4'⟩
    | ct u=>exact fun g r H' v=>⟨g,u,v,h4'⟩
    | bk u=>exact h4'
    | rt d=>exact h4'
    | rn d=>exact h4'
   | er x=>rw [hr] at h4';exact h4'
   | no=>rw [hr] at h4';exact h4'
end
def R.calm {α:Type}:R α->R α
 | .ok a=>.ok a
 | _=>.no
def dt (ix:List (Option Nat)) (U:Sd):Sd:=ix.map fun o=>o.bind fun j=>(U[j]?).getD ξ
def pT:TgD->Sd->Bool
 | .one i,U=>match U[i]? with
  | some ξ=>ζ
  | _=>η
 | .tup is,U=>is.all fun i=>match U[i]? with
  | some ξ=>ζ
  | _=>η
def dI (tg:TgD) (τ:FT) (ε:FE) (g:Sd):afW->R (afW)
 | []=>.ok []
 | x::r=>(dJ tg x g).bind fun u=>(τ u).bind fun b=>if b=ζ then (ε u).bind fun y=>(dI tg τ ε g r).bind fun ys=>.ok (y::ys) else dI tg τ ε g r
def cf (tg:TgD) (τ:FT) (ε:FE) (g:Sd) (xs:afW):R D:=if pT tg g=ζ/\xs.length<=1000000 then (dI tg τ ε g xs).calm.bind fun ys=>.ok (.lst ys) else .no
def br (ix:List (Option Nat)) (ι:FA) (tg:TgD) (τ:FT) (ε:FE):FE:=fun U=>(ι U).bind fun xs=>cf tg τ ε (dt ix U) xs
def gc:FT:=fun _=>.ok ζ
theorem qR:∀ (is:afO) (ds:afW) (g U:Sd),(∀ (i:Nat),i∈is->g[i]?=θ ξ)->(∀ (i:Nat) (d:D),g[i]?=θ (θ d)->U[i]?=θ (θ d))->∀ (i:Nat) (d:D),g[i]?=θ (θ d)->(kE is ds U)[i]?=θ (θ d)
 | [],_,_,_,_,h=>by assumption
 | _::_,[],_,_,_,h=>by assumption
 | j::is,x::ds,g,U,hn,h=>by
  intro i d e;refine qR is ds g _ (fun i r=>hn i (iN _ r)) (fun i d e=>?_) i d e;have u:j≠i:=fun z=>by
   simp_all
  simp_all
theorem A3 {tg:TgD} {x:D} {g δ1:Sd} (u:pT tg g=ζ) (h:dJ tg x g=.ok δ1):∀ (i:Nat) (d:D),g[i]?=θ (θ d)->δ1[i]?=θ (θ d):=by
 cases tg with
 | one j =>
  cases h;intro i d e;have C:j≠i:=fun z=>by
   subst z;have r:(match g[j]? with|some ξ=>ζ|_=>η)=ζ:=u
   rw [e] at r;cases r
  simp_all
 | tup is =>
  cases x with
  | tup ds =>
   have h':(if ds.length=is.length then R.ok (kE is ds g) else .no)=.ok δ1:=h;split at h'
   .cases h';refine qR is ds g g (fun i v=>?_) fun i d e=>e;have r  := u
    have:=abF.mp r i v
    grind
   .cases h'
  | _=>cases h
theorem rZ:∀ (is:afO) (ds:afW) (U:Sd),(kE is ds U).length=U.length
 | [],_,_=>by rfl
 | _::_,[],_=>by rfl
 | j::is,x::ds,U=>by unfold kE;rw [rZ is ds];simp
def DD (h:dJ tg x δ0=.ok δ1):δ1.length=δ0.length:=by
 cases tg with
 | one j=>cases h;simp
 | tup is =>
  cases x with
  | tup ds =>
   have h':(if ds.length=is.length then R.ok (kE is ds δ0) else .no)=.ok δ1:=h;split at h'
   .cases h';exact rZ _ _ _
   .cases h'
  | _=>cases h
def DI.plain {K:aT} (hl:U.length=σ.length) (r:∀ a∈M,H a≠ξ) (g:∀ (i:Nat) (d:D),U[i]?=θ (θ d)->∃ v,σ[i]?=θ (θ v)/\b9 K (aD M H) d v):DI K M H [] [] σ U H :=
 ⟨hl,rfl,abG,abG,fun a u=>(nomatch u),r,aw.refl _,fun i d _ e=>g i d e,fun i a h=>(by simp at h)⟩
section
variable {X:Cx} {W Wb:Wd} {O:afO} {osc:Scope} {ON N:afP} {ix:List (Option Nat)} {scope:Scope} {tg elt iter:abu} {ifs:List abu} {pos:Pos} {ι:FA} {t:TgD} {τ:FT} {ε:FE}
def Ie:JTs X [] (iM W O gc):=IC.imp fun σ H Q g=>cP g fun as0 B own U I h=>h H (aw.refl _)
def Jm (h:JT X c (iM W O τ)):JTs X [c] (iM W O τ):=Lu h
theorem Il {K:aT} (I:DI K as0 B O own σ U H) (r:∀ j∈ix,∀ k,j=θ k->k∉O):∀ (i:Nat) (d:D),(dt ix U)[i]?=θ (θ d)->∃ v,(ka ix σ)[i]?=θ (θ v)/\b9 K (aD (own++as0) H) d v:=by
 intro i d e;unfold dt at e;unfold ka;rw [acF] at e ⊢;cases h:ix[i]? with
 | none=>grind
 | some o =>
  rw [h] at e;cases o with
  | none=>cases e
  | some j =>
   have g:U[j]?=θ (θ d):=by
    cases q:U[j]? with
    | none=>simp_all
    | some w=>simp_all
   let ⟨v,h1,h2⟩:=I.var j d (r _ (aaZ h) j rfl) g
   simp_all
structure GivesC (K:aT) (M:afT) (H:Hp) (J:It) (xs:afW):Prop where
 go:∀ i H1,aw H H1->i < xs.length->J.go i H1
 yl:∀ i H1 v H2 acc,aw H H1->H acc=ξ->(∀ a∈acc::M,H1 a≠ξ)->i < xs.length->J.yld i H1 v H2->aw H1 H2/\∃ d,xs[i]?=θ d/\b9 K (aD (acc::M) H2) d v
 stop:∀ H1,aw H H1->J.stop xs.length H1
def GivesD.comp {K:aT} (G:GivesD K as0 (aD own H) J xs):GivesC K (own++as0) H J xs where
 go:=fun i H1 s r=>G.go i H1 ((ar _ _).trans ((ar _ _).trans s)) r
 yl:=fun i H1 v M C s g L r y=>G.yl i H1 v M (C::(own++as0)) ((ar _ _).trans ((ar _ _).trans s)) L (fun a I=>by
  rcases mK.mp I with rfl|I
  .right
   cases z:aD own H a with
   | none=>rfl
   | some u=>have:=ar _ _ _ _ z;rw [g] at this;cases this
  .rcases By.mp I with z|z
   .exact .inr (cY z)
   .exact .inl z) r y
 stop:=fun H1 s=>G.stop H1 ((ar _ _).trans ((ar _ _).trans s))
def tK (tg:TgD) (τ:FT) (ε:FE) (g:Sd) (xs:afW):R D:=if pT tg g=ζ/\xs.length<=1000000 then (dI tg τ ε g xs).bind fun ys=>.ok (.lst ys) else .no
def B6 {tg:TgD} (h:dJ tg d U=.er x):False:=by
 cases tg with
 | one i=>cases h
 | tup is =>
  cases d with
  | tup ds =>
   have h':(if ds.length=is.length then R.ok (kE is ds U) else .no)=.er x:=h;split at h' <;> cases h'
  | _=>cases h
theorem Es {K:aT} {as0 own:afT} {B H:Hp} {σ:St} {U:Sd} {xs:afW} {J:It} {Q:VK} (hWb:Wb.K=K) (I:DI K as0 B O own σ U H) (hO:∀ j∈ix,∀ k,j=θ k->k∉O) (G:GivesC K (own++as0) H J xs)
  (hq:match tK t τ ε (dt ix U) xs with
   | .ok d=>∀ p o H',aw H H'->H p=ξ->H' p=θ o->i8 K (aD (p::(own++as0)) H') o d->Q (.ref p) H'
   | .er x=>∀ e C H',aw H H'->Wb.mg x=θ (.ref C)->Wb.E e (θ C) H'
   | .no=>False):uu (gD Wb [] t) (iM Wb [] τ) (tD Wb [] ε) J (ka ix σ) H Q:=by
 intro g Y;unfold tK at hq;by_cases hc:pT t (dt ix U)=ζ/\xs.length<=1000000
 .rw [afI hc] at hq;let ⟨hf,hlen⟩:=hc
  generalize hall:dI t τ ε (dt ix U) xs=ra at hq;have hq':∀ (es:afW) (r:R (afW)),ra=(r.bind fun rest=>.ok (es++rest))->match r with
    | .ok rest=>∀ p o H',aw H H'->H p=ξ->H' p=θ o->i8 K (aD (p::(own++as0)) H') o (.lst (es++rest))->Q (.ref p) H'
    | .er x=>∀ e C H',aw H H'->Wb.mg x=θ (.ref C)->Wb.E e (θ C) H'
    | .no=>False:=fun es r e=>by
   subst e;cases r with
   | ok rest=>exact hq
   | er x=>exact hq
   | no=>exact hq
  clear hq;generalize hδ0:dt ix U=δ0 at hf hall;have cl:δ0.length=(ka ix σ).length:=by rw [<- hδ0];unfold dt ka;simp
  have cv:∀ (i:Nat) (d:D),δ0[i]?=θ (θ d)->∃ v,(ka ix σ)[i]?=θ (θ v)/\b9 K (aD (own++as0) H) d v:=by rw [<- hδ0];exact Il I hO
  generalize ka ix σ=σ0 at cl cv;have exM0:=I.exi;generalize hM:own++as0=M at cv hq' G exM0;have exM:∀ a∈M,H a≠ξ:=exM0;have naM:g∉M:=fun z=>exM g z Y
  have exA:∀ {H':Hp},aw H H'->(∃ o,H' g=θ o)->∀ a∈g::M,H' a≠ξ:=fun {H'} s ⟨o,e⟩ a ha=>by
   rcases mK.mp ha with rfl|ha
   .rw [e];simp
   .cases q:H a with
    | none=>exact absurd q (exM a ha)
    | some u=>rw [s a u q];simp
  have s0:aw H (upd H g (.lst [])):=aR Y _;have start:ra=((dI t τ ε δ0 (xs.drop 0)).bind fun rest=>.ok ([]++rest)):=by
   rw [<- hall,List.drop_zero];cases dI t τ ε δ0 xs <;> rfl
  refine ⟨fun i m σ' H'=>m=xs.length - i/\i<=xs.length/\∃ ys es,H' g=θ (.lst ys)/\ys.length<=i/\aw H H'/\aN K (aD (g::M) H') es ys/\ra=((dI t τ ε δ0 (xs.drop i)).bind fun rest=>.ok (es++rest))/\DI K (g::M) H' [] [] σ' δ0 H',
   ⟨xs.length,by simp,aaQ _,[],[],aK,aaQ _,s0,rfl,start,DI.plain cl (exA s0 ⟨_,aK⟩) fun i d e=>let ⟨v,h1,h2⟩:=cv i d e;⟨v,h1,h2.mono (gk Y s0)⟩⟩,?_⟩
  rintro i m σ1 H1 ⟨rfl,hi,ys,es,e1,hl1,s1,d1,L,I1⟩;have sB:aw H H1:=s1;by_cases hlt:i < xs.length
  .refine .inr ⟨G.go i H1 sB hlt,fun σ' H'=>∃ ys es,H' g=θ (.lst ys)/\ys.length<=i+1/\aw H H'/\aN K (aD (g::M) H') es ys/\ra=((dI t τ ε δ0 (xs.drop (i+1))).bind fun rest=>.ok (es++rest))/\DI K (g::M) H' [] [] σ' δ0 H',
    fun σ' H' ⟨ys,es,q⟩=>⟨xs.length - (i+1),by lia,rfl,hlt,ys,es,q⟩,fun v H2 y=>?_⟩
   let ⟨s2,d,hd,dv⟩:=G.yl i H1 v H2 g sB Y (exA s1 ⟨_,e1⟩) hlt y
   have ed:xs.drop i=d::xs.drop (i+1):=by
    rw [ad8 hlt];rw [lT hlt] at hd;cases hd;rfl
   rw [ed] at L;have L:ra=(((dJ t d δ0).bind fun Z=>(τ Z).bind fun b=>if b=ζ then (ε Z).bind fun y=>(dI t τ ε δ0 (xs.drop (i+1))).bind fun ys=>.ok (y::ys) else dI t τ ε δ0 (xs.drop (i+1))).bind fun rest=>.ok (es++rest)):=L;cases b1:dJ t d δ0 with
   | er x=>exact (B6 b1).elim
   | no=>rw [b1] at L;exact (hq' es .no L).elim
   | ok Z =>
    rw [b1,aG] at L;have I2:DI K (g::M) H2 [] [] σ1 δ0 H2:=DI.plain I1.len (exA (s1.trans s2) ⟨_,s2 _ _ e1⟩) fun i d e=>let ⟨v,h1,h2⟩:=I1.var i d (by simp) e;⟨v,h1,h2.mono (aJ s2)⟩;have again:∀ {σ3:St} {H3 H4:Hp},DI K (g::M) H2 [] [] σ3 Z H3->aw (aD (g::M) H3) (aD (g::M) H4)->(∀ a∈g::M,H4 a≠ξ)->DI K (g::M) H4 [] [] σ3 δ0 H4:=fun {σ3 H3 H4} I3 s34 ex4 =>
     DI.plain (by rw [<- DD b1];exact I3.len) ex4 fun i d e=>let ⟨v,h1,h2⟩:=I3.var i d (by simp) (A3 hf b1 i d e);⟨v,h1,h2.mono s34⟩
    refine ⟨g::M,H2,[],δ0,d,by rw [hWb];exact I2,by rw [hWb];exact dv,?_⟩;rw [b1];refine fun σ3 I3=>⟨g::M,H2,[],Z,I3,?_⟩;rw [hWb] at I3;cases b2:τ Z with
    | er x=>rw [b2] at L;exact fun e C H' s' hm=>hq' es (.er x) L e C H' ((s1.trans s2).trans (I3.same.trans s')) hm
    | no=>rw [b2] at L;exact (hq' es .no L).elim
    | ok b =>
     rw [b2,aG] at L;refine fun H3 s3=>?_;have I3':=I3.mono s3;have s13:aw H1 H3:=s2.trans (I3.same.trans s3);cases b with
     | false =>
      rw [afJ GT] at L;exact ⟨ys,es,s13 _ _ e1,by lia,s1.trans s13,d1.mono (aJ s13),L,again I3' (aw.refl _) (exA (s1.trans s13) ⟨_,s13 _ _ e1⟩)⟩
     | true =>
      rw [afI rfl] at L;refine ⟨g::M,H2,[],Z,by rw [hWb];exact I3',?_⟩;cases b3:ε Z with
      | er x=>rw [b3] at L;exact fun e C H' s' hm=>hq' es (.er x) L e C H' ((s1.trans s13).trans s') hm
      | no=>rw [b3] at L;exact (hq' es .no L).elim
      | ok y' =>
       rw [b3,aG] at L;refine fun v4 H4 s4 d4=>?_;rw [hWb] at d4;have s14:aw H1 H4:=s13.trans s4;have e4:=s14 _ _ e1;have hm:=du;have same5:aw (aD (g::M) H4) (aD (g::M) (upd H4 g (.lst (ys++[v4])))):=fun b o e=>by
        by_cases hb:b∈g::M
        .rw [cY hb] at e;cases e
        .rw [aV hb] at e ⊢;rw [aF (fun z=>hb (by rw [z];exact aa8))];exact e
       have s5:aw H (upd H4 g (.lst (ys++[v4]))):=fun b o e=>by
        rw [aF (bf e Y)];exact (s1.trans s14) b o e
       refine ⟨ys,e4,by lia,ys++[v4],es++[y'],aK,by simp;lia,s5,?_,?_,again I3' ((aJ s4).trans same5) (exA s5 ⟨_,aK⟩)⟩
       .exact (aN.append (d1.mono (aJ s14)) (aN.cons d4 aN.nil)).mono same5
       .rw [L];cases dI t τ ε δ0 (xs.drop (i+1)) with
        | ok r=>show R.ok _=R.ok _;simp
        | er x=>rfl
        | no=>rfl
  .have e':i=xs.length:=by lia
   subst e';rw [List.drop_length] at L;have this:∀ (p:aa3) (o:HO) (H':Hp),aw H H'->H p=ξ->H' p=θ o->i8 K (aD (p::M) H') o (D.lst (es++[]))->Q (V.ref p) H':=hq' es (.ok []) L;rw [abk] at this;exact .inl ⟨G.stop H1 sB,this g _ H1 s1 Y e1 ⟨ys,rfl,d1⟩⟩
 grind
def bM {K:aT} (r:Wb.K=K) (I:DI K as0 B O own σ U H) (u:∀ j∈ix,∀ k,j=θ k->k∉O) (G:GivesC K (own++as0) H J xs)
  (g:match cf t τ ε (dt ix U) xs with
   | .ok d=>∀ p o H',aw H H'->H p=ξ->H' p=θ o->i8 K (aD (p::(own++as0)) H') o d->Q (.ref p) H'
   | _=>False):uu (gD Wb [] t) (iM Wb [] τ) (tD Wb [] ε) J (ka ix σ) H Q:=by
 refine Es r I u G ?_;unfold cf at g;unfold tK;by_cases v:pT t (dt ix U)=ζ/\xs.length<=1000000
 .rw [afI v] at g ⊢;cases hall:dI t τ ε (dt ix U) xs with
  | ok ys=>rw [hall] at g;exact g
  | er x=>rw [hall] at g;exact g.elim
  | no=>rw [hall] at g;exact g.elim
 simp_all
theorem QS (u:wy osc ON N ix scope=ζ) (C:JI X tg iter (iD W O ι)) (hg:∀ b,JG (iJ X N scope b) tg (gD Wb [] t)) (ht:∀ b,JTs (iJ X N scope b) ifs (iM Wb [] τ)) (Z:∀ b,JE (iJ X N scope b) elt (tD Wb [] ε)) (M:∀ j∈ix,∀ k,j=θ k->k∉O)
  (g:Wb.K=W.K:=by rfl) (Y:X.env.scope=osc:=by rfl) (r:X.N=ON:=by rfl) (z:X.calm=ζ:=by rfl) (hs:∀ x,abI iter X.env x=pure x:=by intro _;rfl):JE X (.ListComp elt [⟨tg,iter,ifs,0⟩] scope pos) (tN W O (br ix ι t τ ε)) :=
 (NK u C hg ht Z Y r z hs).imp fun σ H Q L=>cP L fun as0 B own U I h=>⟨as0,B,own,U,I,by
  unfold br at h;cases hr:ι U with
  | no=>rw [hr] at h;exact h.elim
  | er x=>rw [hr] at h;exact h
  | ok xs =>
   rw [hr] at h;refine fun J H1 v G=>bM g (I.mono v) M G.comp ?_;have h':fG W (own++as0) H (cf t τ ε (dt ix U) xs) Q:=h;cases hq:cf t τ ε (dt ix U) xs with
   | ok d=>rw [hq] at h';exact fun p o H' s hp=>h' p o H' (v.trans s) (v.free hp)
   | er x =>
    unfold cf at hq;split at hq
    .cases z:dI t τ ε (dt ix U) xs <;> rw [z] at hq <;> cases hq
    .cases hq
   | no=>rw [hq] at h';exact h'.elim⟩
theorem IR {i:Nat} {spos pos':Pos} (Y:X.N.Nodup) (hl:wE X.env.scope x) (v:wy osc ON N ix scope=ζ) (M:JI X tg iter (iD W O ι)) (hg:∀ b,JG (iJ X N scope b) tg (gD Wb [] t)) (ht:∀ b,JTs (iJ X N scope b) ifs (iM Wb [] τ)) (he:∀ b,JE (iJ X N scope b) elt (tD Wb [] ε)) (hO:∀ j∈ix,∀ k,j=θ k->k∉O)
  (g:Wb.K=W.K:=by rfl) (Z:X.N[i]?=θ x:=by rfl) (hE:X.env.scope=osc:=by rfl) (r:X.N=ON:=by rfl) (L:X.calm=ζ:=by rfl)
  (C:acq (.ListComp elt [⟨tg,iter,ifs,0⟩] scope pos) (θ (.Name x pos')) spos.line X.env=pure ζ:=by rfl)
  (hf:X.fn x=ζ\/X.env.scope.names.lookup x=θ .local:=by walk_at"u")
  (hs:∀ x,abI iter X.env x=pure x:=by intro _;rfl):JS X (.Assign [.Name x pos'] (.ListComp elt [⟨tg,iter,ifs,0⟩] scope pos) spos) (uw (tN W O (br ix ι t τ ε)) (ku i)) :=
 (xW Y hl v M hg ht he Z hE r L C hf hs).imp fun D σ H hh=>cP hh fun as0 B own U I h=>⟨as0,B,own,U,I,by
  unfold br at h;cases hr:ι U with
  | no=>rw [hr] at h;exact h.elim
  | er x=>rw [hr] at h;exact h
  | ok xs =>
   rw [hr] at h;refine fun J H1 z G=>bM g (I.mono z) hO G.comp ?_;have h':fG W (own++as0) H (cf t τ ε (dt ix U) xs) (fun x H1=>ku i x σ H1 D.nx):=h;cases hq:cf t τ ε (dt ix U) xs with
   | ok d=>rw [hq] at h';exact fun p o H' s hp=>h' p o H' (z.trans s) (z.free hp)
   | er x =>
    unfold cf at hq;split at hq
    .cases L:dI t τ ε (dt ix U) xs <;> rw [L] at hq <;> cases hq
    .cases hq
   | no=>rw [hq] at h';exact h'.elim⟩
def IQ {st:ac2} (r:i∉O) (h:JS X st (uw (tN W O ε) (ku i))):JS X st (sD W Ob O (i::O) (ff i ε)):=h.imp fun D σ H g=>cP g fun as0 B own U I h =>
 ⟨as0,B,own,U,I,jC I h fun d p o H' s u e od h'=>by
  split at h'
  .rename_i hl;exact h' _ _ H' (vq I r s u e od hl)
  .exact h'.elim⟩
def JY {st:ac2} (r:i∉O) (h:JS X st (uw (tN W O ε) (ku i))):JS X st (sD W Ob O O (az i ε)):=h.imp fun D σ H g=>cP g fun as0 B own U I h =>
 ⟨as0,B,own,U,I,jC I h fun d p o H' s u e od h'=>h' own _ H' ((I.mono s).set r (od.den (I.new u) e))⟩
end
def jc (N:afP) (ds:afW):Sd:=ds.map θ++adb (N.length - ds.length) ξ
def vt (φ:FS) (N P:afP) (ds:afW):R D:=if ds.length=P.length then (φ (jc N ds)).bind fun f=>match f with
 | .rt d=>.ok d
 | .rn d=>.ok d
 | .nx _=>.ok .non
 | _=>.no
 else .no
def rS (K:aT) (mg:afS) (F:afW->R D):Sp:=fun vs H Q _=>∃ as ds,(∀ a∈as,H a≠ξ)/\aN K (aD as H) ds vs/\cq ⟨K,mg,E0⟩ as H (F ds) Q
section
variable {P:abN} {w:abA} {K:aT} {mg:afS} {base:acV}
theorem qt:∀ {ds:afW} {vs:afV} {i:Nat} {d:D},aN K H ds vs->∀ {n:Nat},(ds.map θ++adb n ξ)[i]?=θ (θ d)->∃ v,(vs.map θ++adb n ξ)[i]?=θ (θ v)/\b9 K H d v:=by
 intro ds vs i d h n e;have hl:=h.len;by_cases g:i < ds.length
 .rw [ade (by simpa using g)] at e;rw [ade (by simp_all)];cases q:ds[i]? with
  | none=>grind
  | some d' =>
   let ⟨v,h1,h2⟩:=h.get q
   simp_all
 .rw [adZ (by simpa using g),ael] at e;split at e <;> cases e
theorem Fun.okD {st:ac2} (F:Fun K x qual st f fd) (S:FnScope N ps (aY st))
  (u:∀ (r:oR) (_:Hy K r qual=ζ) (A:acy) (g:List Env) (s:DO) (H:Hp) (E:XK),Room k (A.deeper (aeK qual (aY st) s.heap.objs.size f r)) ->
   JB (oB gN P w K mg base N qual (aY st) f r A g s H E).nox (dC st) (sD ⟨K,mg,E0⟩ [] [] O' φ)):FnOk P w K mg base gN (k+1) f fd ps (rS K mg (vt φ N ps)):=by
 refine F.okJ S (fun vs H Q E h=>?_) fun r L A g s H vs Q E hr h=>?_
 .obtain ⟨as,ds,J,v,h⟩:=h;unfold vt at h;split at h
  .rename_i hl;rw [<- v.len];exact hl
  .exact h.elim
 .let ⟨as,ds,J,v,h⟩:=h
  unfold vt at h;split at h
  .refine ⟨_,u r L A g s H E hr,as,H,[],jc N ds,⟨?_,rfl,abG,abG,fun a Y=>(nomatch Y),J,aw.refl _,fun i d _ e=>?_,fun i a h=>(by simp at h)⟩,?_⟩
   .unfold jc start;simp [v.len]
   .unfold start;rw [<- v.len];exact qt v e
   .cases hr:φ (jc N ds) with
    | ok M =>
     rw [hr] at h;cases M with
     | rt d=>assumption
     | rn d=>exact fun p o H' s Z e od=>h (.ref p) H' s (od.den (fun z=>J p z Z) e)
     | nx U=>exact fun own σ H' I=>h .non H' I.same rfl
     | bk U=>exact h.elim
     | ct U=>exact h.elim
    | er x=>rw [hr] at h;exact fun e C H' s=>h e C H' s
    | no=>rw [hr] at h;exact h.elim
  .exact h.elim
def wx (φ:FS) (N P:afP) (ds:afW):R D:=if ds.length=P.length then (φ (jc N ds)).bind fun f=>match f with
 | .rn d=>.ok d
 | _=>.no
 else .no
def Q7 (K:aT) (mg:afS) (F:afW->R D):Sp:=fun vs H Q _=>∃ as ds,(∀ a∈as,H a≠ξ)/\aN K (aD as H) ds vs/\fG ⟨K,mg,E0⟩ as H (F ds) Q
theorem Fun.okN {P:abN} {w:abA} {K:aT} {mg:afS} {base:acV} {x r:Str} {st:ac2} {f:aa3} {L:acE} {N ps:afP} {k:Nat} {φ:FS} {O':afO} (F:Fun K x r st f L) (S:FnScope N ps (aY st))
  (v:∀ (u:oR) (_:Hy K u r=ζ) (A:acy) (g:List Env) (s:DO) (H:Hp) (E:XK),Room k (A.deeper (aeK r (aY st) s.heap.objs.size f u)) ->
   JB (oB gN P w K mg base N r (aY st) f u A g s H E).nox (dC st) (sD ⟨K,mg,E0⟩ [] [] O' φ)):FnOk P w K mg base gN (k+1) f L ps (Q7 K mg (wx φ N ps)):=by
 refine F.okJ S (fun vs H Q E h=>?_) fun u I A g s H vs Q E hr h=>?_
 .obtain ⟨as,ds,J,z,h⟩:=h;unfold wx at h;split at h
  .rename_i hl;rw [<- z.len];exact hl
  .exact h.elim
 .obtain ⟨as,ds,J,z,h⟩:=h;unfold wx at h;split at h
  .rename_i hl;refine ⟨_,v u I A g s H E hr,as,H,[],jc N ds,⟨?_,rfl,abG,abG,fun a Y=>(nomatch Y),J,aw.refl _,fun i d _ e=>?_,fun i a h=>(by simp at h)⟩,?_⟩
   .unfold jc start;simp [z.len]
   .unfold jc at e;unfold start;rw [<- z.len];exact qt z e
   .cases hr:φ (jc N ds) with
    | ok M =>
     rw [hr] at h;cases M with
     | rn d=>exact fun p o H' s Z e od=>h p o H' s Z e od
     | rt d=>exact h.elim
     | nx U=>exact h.elim
     | bk U=>exact h.elim
     | ct U=>exact h.elim
    | er x=>rw [hr] at h;exact fun e C H' s=>h e C H' s
    | no=>rw [hr] at h;exact h.elim
  .exact h.elim
section
variable {st:ac2} {p pos:Pos}
def nY (h:fG W as H (r.bind g) Q) (q:∀ d v H',aw H H'->aN W.K (aD as H') d v->fG W as H' (g d) Q->Q' v H'):gr W as H r Q':=gQ h q
def Im (D:Def X.K X.mg x st ps f fd) (G:FnOk X.prog X.w X.K X.mg X.base gN j f fd ps (Q7 K mg F)) (hr:Room k X.A) (z:JA X (e::es) (qZ ⟨K,mg,E0⟩ O α)) (v:j<=k:=by decide) (hg:Gl X x:=by rfl) (g:afX x:=by decide)
  (h1:aI e=ζ:=by rfl) (h2:es.all aI=ζ:=by rfl):JE X (.Call (.Name x p) (e::es) [] pos) (tN ⟨K,mg,E0⟩ O (aj F α)) :=
 (Nv D G hr z v hg g h1 h2).imp fun σ H Q r=>cP r fun as0 B own U I h=>⟨as0,B,own,U,I,nY h fun ds vs H1 u C h1=>⟨own++as0,ds,(I.mono u).exi,C,h1⟩⟩
end
def Q2 {g:List Int} (u:e8 K H a (g.map V.int)) (h:F [.lst (g.map D.int)]=.ok (.bl ζ)) (q:∀ H',Q (.bl ζ) H'):rS K mg F [.ref a] H Q E:=by
 refine ⟨[],[.lst (g.map D.int)],fun a I=>(nomatch I),⟨.ref a,[],rfl,⟨a,g.map V.int,rfl,by rw [vG];exact u,?_⟩,rfl⟩,?_⟩
 .clear h u;induction g with
  | nil=>exact rfl
  | cons n r C=>exact ⟨_,_,rfl,rfl,C⟩
 .rw [h];intro v H' s z;cases z;exact q H'
end
section
variable {W:Wd} {X:Cx}
def aH (h:cq W as H (.ok d) Q) (g:b9 W.K (aD as H) d v):Q v H:=h v H (aw.refl _) g
theorem Lr:cD X (ab3 .Add) (fun x y H Q=>∃ l b xs zs,x=.ref l/\y=.ref b/\e8 X.K H l xs/\e8 X.K H b zs/\xs.length+zs.length<=RW/\∀ p,H p=ξ->Q (.ref p) (upd H p (.lst (xs++zs)))):=by
 intro J s σ H x y v u Q I g z h;obtain ⟨l,b,xs,zs,rfl,rfl,C,hB,hz,q⟩:=h;cases g;cases z;let ⟨its,r,pl,hl⟩:=I.list C
 let ⟨its2,r2,pl2,hl2⟩:=I.list hB
 let ⟨⟨cls,dd,data,sl⟩,ho,hc,n,hd⟩:=pl.isList
 let ⟨⟨cls2,dd2,data2,sl2⟩,ho2,hc2,n2,hd2⟩:=pl2.isList
 subst hc hd hc2 hd2;have e:its.toArray++its2.toArray=(its++its2).toArray:=by simp
 refine concat_meets ⟨_,ho,rfl⟩ ⟨_,ho2,rfl⟩ noFill_list_add seq_list_add PySem.F.slot_list_add PySem.F.entry_list_add (PySem.F.args_list_add_2 _ _) (list_addW l b its.toArray its2.toArray n n2 dd dd2 sl sl2 (by rw [aaY,aaY,<- r.length,<- r2.length];exact hz)) ⟨ho,ho2,?_⟩;rw [e];exact ⟨.ref _,_,I.lnew (r.append r2) (by grind),rfl,q _ I.fresh⟩
def AJ (K:aT):R2:=fun x y H Q=>match x,y with
 | .int i,.int j=>Q (.int (i+j)) H
 | .str i,.str j=>i.length+j.length<=RW/\Q (.str (i++j)) H
 | .ref l,.ref b=>(∃ xs zs,e8 K H l xs/\e8 K H b zs/\xs.length+zs.length<=RW/\∀ p,H p=ξ->Q (.ref p) (upd H p (.lst (xs++zs)))) \/
   ∃ xs zs,g6 K H l xs/\g6 K H b zs/\xs≠[]/\xs.length+zs.length<=RW/\(zs=[]->Q (.ref l) H)/\(zs≠[]->∀ p,H p=ξ->Q (.ref p) (upd H p (.tup (xs++zs))))
 | _,_=>False
theorem LL (K:aT) (u:X.K=K:=by rfl):cD X (ab3 .Add) (AJ K):=by
 subst u;refine ((Nn.or xK).or (Lr.or KN)).imp fun x y H Q q=>?_;unfold AJ at q;split at q
 .exact .inl (.inl ⟨_,_,rfl,rfl,q⟩)
 .simp_all
 .rcases q with ⟨xs,zs,h1,h2,g,r⟩|⟨xs,zs,h1,h2,g,r,z,v⟩
  .exact .inr (.inl ⟨_,_,xs,zs,rfl,rfl,h1,h2,g,r⟩)
  .exact .inr (.inr ⟨_,_,xs,zs,rfl,rfl,h1,h2,g,r,z,v⟩)
 .exact q.elim
noncomputable def bq (a b:D):R D:=match a,b with
 | .int i,.int j=>.ok (.int (i+j))
 | .str x,.str y=>if x.length+y.length<=1000000 then .ok (.str (x++y)) else .no
 | .lst xs,.lst ys=>if xs.length+ys.length<=1000000 then .ok (.lst (xs++ys)) else .no
 | .tup xs,.tup ys=>if xs.isEmpty=η/\xs.length+ys.length<=1000000 then .ok (.tup (xs++ys)) else .no
 | _,_=>.no
theorem Rr (K:aT) (hW:W.K=K:=by rfl):jm W (AJ K) bq:=by
 subst hW;intro as H x y a b Q hn J I h;unfold bq at h;split at h
 .cases J;cases I;exact aH h rfl
 .cases J;cases I;split at h
  .rename_i hl;exact ⟨Le hl du,aH h rfl⟩
  .exact h.elim
 .obtain ⟨p,vs,rfl,C,g⟩:=J;obtain ⟨p2,ws,rfl,M,v⟩:=I;split at h
  .rename_i hl;rw [g.len,v.len] at hl;refine .inl ⟨vs,ws,(ar _ _).seq C,(ar _ _).seq M,Le hl du,fun p u=>?_⟩;refine h _ _ (aR u _) ⟨p,vs++ws,rfl,.inl (.inl (by rw [aV (hn p u)];exact aK)),(g.append v).mono (aJ (aR u _))⟩
  .exact h.elim
 .rename_i xs ys;obtain ⟨p,vs,rfl,C,g⟩:=J;obtain ⟨p2,ws,rfl,M,v⟩:=I;split at h
  .rename_i hl;let ⟨he,hl⟩:=hl
   have L:vs≠[]:=fun z=>by
    have:=g.empty
    rw [he,z] at this;cases this
   rw [g.len,v.len] at hl;refine .inr ⟨vs,ws,(ar _ _).seqT C,(ar _ _).seqT M,L,Le hl du,fun z=>?_,fun z p u=>?_⟩
   .have:ys=[]:=by
     cases ys with
     | nil=>rfl
     | cons d r=>let ⟨_,_,e,_⟩:=v;rw [z] at e;cases e
    subst this;rw [abk] at h;exact aH h ⟨p,vs,rfl,C,g⟩
   .exact h _ _ (aR u _) ⟨p,vs++ws,rfl,.inl (.inl (by rw [aV (hn p u)];exact aK)),(g.append v).mono (aJ (aR u _))⟩
  .exact h.elim
 .exact h.elim
def kh (a b:D):R D:=match a,b with
 | .int i,.int j=>.ok (.int (i - j))
 | _,_=>.no
def XR:jm W OT kh:=by
 intro as H x y a b Q hn r g h;unfold kh at h;split at h
 .cases r;cases g;exact aH h rfl
 .exact h.elim
def xP:cD X (ab3 .Mult) (fun x y H Q=>∃ i n,x=.str i/\y=.int n/\MulOk i n/\Q (.str (Txt.mul i n)) H):=by
 intro J s σ H x y v u Q I z C h;obtain ⟨i,n,rfl,rfl,r,q⟩:=h;obtain ⟨t,rfl⟩:=z;obtain ⟨t',rfl⟩:=C;exact aW I.tk (SB.mul r fun t' k g=>⟨.str _,H,I.tok _,⟨t',rfl⟩,q⟩)
def Eg:R2:=fun x y H Q=>match x,y with
 | .int i,.int j=>xj i j/\Q (.int (i*j)) H
 | .str i,.int j=>MulOk i j/\Q (.str (Txt.mul i j)) H
 | _,_=>False
def TW:cD X (ab3 .Mult) Eg:=(Os.or xP).imp fun x y H Q q=>by
 unfold Eg at q;split at q
 .exact .inl ⟨_,_,rfl,rfl,q.1,q.2⟩
 .simp_all
 .exact q.elim
instance (i j:Int):Decidable (xj i j):=by unfold xj;infer_instance
instance (i j:Int):Decidable (D3 i j):=by unfold D3;infer_instance
instance (i j:Int):Decidable (Fv i j):=by unfold Fv;infer_instance
noncomputable def gE (a b:D):R D:=match a,b with
 | .int i,.int j=>if xj i j then .ok (.int (i*j)) else .no
 | .str x,.int n=>if x.length<=1000/\-1000<=n/\n<=1000 then .ok (.str (Txt.mul x n)) else .no
 | _,_=>.no
theorem X5:jm W Eg gE:=by
 intro as H x y a b Q hn r g h;unfold gE at h;split at h
 .cases r;cases g;split at h
  .rename_i hl;exact ⟨hl,aH h rfl⟩
  .exact h.elim
 .cases r;cases g;split at h
  .rename_i hl;exact ⟨mulOk_of 1000 1000 hl.1 (by lia) (by lia) (by decide) (by decide),aH h rfl⟩
  .exact h.elim
 .exact h.elim
def bX (a b:D):R D:=match a,b with
 | .int i,.int j=>if D3 i j then .ok (.int (i/j)) else .no
 | _,_=>.no
def YB:jm W No bX:=by
 intro as H x y a b Q hn r g h;unfold bX at h;split at h
 .cases r;cases g;split at h
  .rename_i hl;exact ⟨hl,aH h rfl⟩
  .exact h.elim
 .exact h.elim
def bg (a b:D):R D:=match a,b with
 | .int i,.int j=>if 0 < j then .ok (.int (i % j)) else .no
 | _,_=>.no
def XB:jm W OK bg:=by
 intro as H x y a b Q hn r g h;unfold bg at h;split at h
 .cases r;cases g;split at h
  .rename_i hl;exact ⟨hl,aH h rfl⟩
  .exact h.elim
 .exact h.elim
def vV (a b:D):R D:=match a,b with
 | .int i,.int j=>if Fv i j then .ok (.int (i ^ j.toNat)) else .no
 | _,_=>.no
def YK:jm W OL vV:=by
 intro as H x y a b Q hn r g h;unfold vV at h;split at h
 .cases r;cases g;split at h
  .rename_i hl;exact ⟨hl,aH h rfl⟩
  .exact h.elim
 .exact h.elim
def ut (a:D):R D:=match a with
 | .int i=>.ok (.int (-i))
 | _=>.no
def YG:YH W Oa ut:=by
 intro as H x a Q g h;unfold ut at h;split at h
 .cases g;exact aH h rfl
 .exact h.elim
def vE (a b:D):R D:=match a,b with
 | .int i,.int j=>.ok (.bl (decide (i < j)))
 | .str i,.str j=>.ok (.bl (decide (i.cps.toList < j.cps.toList)))
 | _,_=>.no
def Cs (a b:D):R D:=match a,b with
 | .int i,.int j=>.ok (.bl (decide (i<=j)))
 | .str i,.str j=>.ok (.bl (!decide (j.cps.toList < i.cps.toList)))
 | _,_=>.no
def uT (a b:D):R D:=match a,b with
 | .int i,.int j=>.ok (.bl (decide (j < i)))
 | .str i,.str j=>.ok (.bl (decide (j.cps.toList < i.cps.toList)))
 | _,_=>.no
def BX (a b:D):R D:=match a,b with
 | .int i,.int j=>.ok (.bl (decide (j<=i)))
 | .str i,.str j=>.ok (.bl (!decide (i.cps.toList < j.cps.toList)))
 | _,_=>.no
def Z1:jm W XT vE:=by
 intro as H x y a b Q hn r g h;unfold vE at h;split at h
 .cases r;cases g;exact aH h rfl
 .cases r;cases g;exact aH h rfl
 .exact h.elim
def Z8:jm W YX Cs:=by
 intro as H x y a b Q hn r g h;unfold Cs at h;split at h
 .cases r;cases g;exact aH h rfl
 .cases r;cases g;exact aH h rfl
 .exact h.elim
def ZZ:jm W XG uT:=by
 intro as H x y a b Q hn r g h;unfold uT at h;split at h
 .cases r;cases g;exact aH h rfl
 .cases r;cases g;exact aH h rfl
 .exact h.elim
def aaj:jm W Xg BX:=by
 intro as H x y a b Q hn r g h;unfold BX at h;split at h
 .cases r;cases g;exact aH h rfl
 .cases r;cases g;exact aH h rfl
 .exact h.elim
def W9:D->Bool
 | .non=>ζ
 | _=>η
def Zi (j:Bool):D->Bool
 | .bl i=>i==j
 | _=>η
def AW (x:D) (y:D):R D:=match y with
 | .non=>.ok (.bl (W9 x))
 | .bl j=>.ok (.bl (Zi j x))
 | _=>.no
def pq (x:D) (y:D):R D:=match y with
 | .non=>.ok (.bl (!W9 x))
 | .bl j=>.ok (.bl (!Zi j x))
 | _=>.no
theorem sj {K:aT} (h:b9 K H a x):y4 x .non=W9 a:=by
 cases a with
 | lst _=>obtain ⟨_,_,rfl,_⟩:=h;rfl
 | tup _=>obtain ⟨_,_,rfl,_⟩:=h;rfl
 | dct _=>obtain ⟨_,_,rfl,_⟩:=h;rfl
 | obj _ _=>obtain ⟨_,_,_,_,rfl,_⟩:=h;rfl
 | exn _=>obtain ⟨_,_,rfl,_⟩:=h;rfl
 | cls _=>obtain ⟨_,rfl,_⟩:=h;rfl
 | lsm _=>obtain ⟨_,_,rfl,_⟩:=h;rfl
 | dcf _=>obtain ⟨_,_,_,rfl,_⟩:=h;rfl
 | _=>cases h;rfl
theorem sv {K:aT} (h:b9 K H a x):y4 x (.bl j)=Zi j a:=by
 cases a with
 | lst _=>obtain ⟨_,_,rfl,_⟩:=h;rfl
 | tup _=>obtain ⟨_,_,rfl,_⟩:=h;rfl
 | dct _=>obtain ⟨_,_,rfl,_⟩:=h;rfl
 | obj _ _=>obtain ⟨_,_,_,_,rfl,_⟩:=h;rfl
 | exn _=>obtain ⟨_,_,rfl,_⟩:=h;rfl
 | cls _=>obtain ⟨_,rfl,_⟩:=h;rfl
 | lsm _=>obtain ⟨_,_,rfl,_⟩:=h;rfl
 | dcf _=>obtain ⟨_,_,_,rfl,_⟩:=h;rfl
 | _=>cases h;rfl
def ZQ:jm W YN AW:=by
 intro as H x y a b Q hn r g h;unfold AW at h;split at h
 .cases g;show Q (.bl (y4 x .non)) H;rw [sj r];exact aH h rfl
 .cases g;show Q (.bl (y4 x (.bl _))) H;rw [sv r];exact aH h rfl
 .exact h.elim
def Fw:jm W wK pq:=by
 intro as H x y a b Q hn r g h;unfold pq at h;split at h
 .cases g;show Q (.bl (!y4 x .non)) H;rw [sj r];exact aH h rfl
 .cases g;show Q (.bl (!y4 x (.bl _))) H;rw [sv r];exact aH h rfl
 .exact h.elim
mutual
noncomputable def bx:D->Option ab7
 | .non=>θ .none
 | .bl b=>θ (.bool b)
 | .int i=>θ (.int i)
 | .str x=>θ (.str x)
 | .lst xs=>(bU xs).map .list
 | .tup xs=>(bU xs).map .tuple
 | _=>ξ
noncomputable def bU:afW->Option (List ab7)
 | []=>θ []
 | d::ds=>(bx d).bind fun p=>(bU ds).map (p::·)
end
mutual
theorem cR {g:afQ} {σ:St} {H:Hp} {s:DO} (I:Inv X g σ H s):∀ {d:D} {v:V} {u:oR} {p:ab7},b9 X.K H d v->aX v u->bx d=θ p->∃ as,Reads s.heap u p as
 | .non,_,_,_,h,r,e=>by cases h;cases r;cases e;exact ⟨_,.none⟩
 | .bl b,_,_,_,h,r,e=>by cases h;cases r;cases e;exact ⟨_,.bool b⟩
 | .int i,_,_,_,h,r,e=>by cases h;obtain ⟨t,rfl⟩:=r;cases e;exact ⟨_,.int i t⟩
 | .str x,_,_,_,h,r,e=>by cases h;obtain ⟨t,rfl⟩:=r;cases e;exact ⟨_,.str x t⟩
 | .lst ds,_,_,_,⟨a,xs,h0,h1,h2⟩,r,e=>by
  subst h0;cases r;unfold bx at e;cases q:bU ds with
  | none=>rw [q] at e;cases e
  | some ps =>
   rw [q] at e;cases e;let ⟨its,rv,pl,hz⟩:=I.list h1
   let ⟨o,ho,hc,n,hd⟩:=pl.isList
   let ⟨as,ha⟩:=jP I h2 rv q
   exact ⟨_,.list ho hc hd (by simpa using ha)⟩
 | .tup ds,_,_,_,⟨a,xs,h0,h1,h2⟩,r,e=>by
  subst h0;cases r;unfold bx at e;cases q:bU ds with
  | none=>grind
  | some ps =>
   rw [q] at e;cases e;let ⟨its,rv,pl,hz⟩:=I.tuple h1
   let ⟨o,ho,hc,n,hd⟩:=pl
   let ⟨as,ha⟩:=jP I h2 rv q
   exact ⟨_,.tuple ho hc hd (by simpa using ha)⟩
 | .dct _,_,_,_,_,_,e=>by cases e
 | .obj _ _,_,_,_,_,_,e=>by cases e
 | .ty _,_,_,_,_,_,e=>by cases e
 | .exn _,_,_,_,_,_,e=>by cases e
 | .cls _,_,_,_,_,_,e=>by cases e
 | .lsm _,_,_,_,_,_,e=>by cases e
 | .dcf _,_,_,_,_,_,e=>by cases e
theorem jP {g:afQ} {σ:St} {H:Hp} {s:DO} (I:Inv X g σ H s):∀ {ds:afW} {vs:afV} {us:afU} {ps:List ab7},aN X.K H ds vs->ba vs us->bU ds=θ ps->∃ as,ReadsAll s.heap us ps as
 | [],_,_,_,h,r,e=>by cases h;cases r;cases e;exact ⟨_,.nil⟩
 | d::ds,_,_,_,⟨v,vs,h0,h1,h2⟩,r,e=>by
  subst h0;unfold bU at e;cases q:bx d with
  | none=>grind
  | some p =>
   rw [q] at e;cases q2:bU ds with
   | none=>simp_all
   | some ps =>
    rw [q2] at e;cases e;cases r with
    | cons r1 r2 =>
     let ⟨as,ha⟩:=cR I h1 r1 q
     let ⟨bs,hb⟩:=jP I h2 r2 q2
     exact ⟨_,.cons ha hb⟩
end
noncomputable def c8:D->Option V
 | .non=>θ .non
 | .bl b=>θ (.bl b)
 | .int i=>θ (.int i)
 | .str x=>θ (.str x)
 | _=>ξ
def dW {K:aT} (h:b9 K H d v) (e:c8 d=θ x):v=x:=by
 cases d with
 | non=>cases e;exact h
 | bl b=>cases e;exact h
 | int b=>cases e;exact h
 | str b=>cases e;exact h
 | _=>cases e
def eL (a b:D):Option Bool:=match bx a,bx b with
 | some p,θ q=>if aaP p=ζ/\aaP q=ζ then θ (abw p q) else ξ
 | _,_=>ξ
def jl (a b:D):Option Bool:=match c8 a,c8 b with
 | some x,θ y=>if yB x y=ζ then θ (decide (x=y)) else ξ
 | _,_=>eL a b
def rG (K:aT) (f:Bool->Bool):R2:=fun x y H Q=>∃ a b k,b9 K H a x/\b9 K H b y/\jl a b=θ k/\Q (.bl (f k)) H
def u5 (h:eL a b=θ k):∃ p q,bx a=θ p/\bx b=θ q/\aaP p=ζ/\aaP q=ζ/\k=abw p q:=by
 unfold eL at h;split at h
 .simp_all
 .cases h
theorem Nu (K:aT) (z:X.A.units+64 < adu) (J:X.K=K:=by rfl):cD X (aa1 .Eq) (rG K fun k=>k):=by
 subst J;intro L s σ H x y v u Q I g r h;let ⟨a,b,k,da,db,e,q⟩:=h
 unfold jl at e;split at e
 .rename_i x' y' e1 e2;split at e
  .rename_i hs;cases e
   have:=dW da e1;subst this
   have:=dW db e2;subst this
   exact T4 L s σ H _ _ v u Q I g r ⟨hs,q⟩
  .cases e
 .obtain ⟨p,Y,h1,h2,M,C,rfl⟩:=u5 e;let ⟨as,ra⟩:=cR I da g h1
  let ⟨bs,rb⟩:=cR I db r h2
  exact eq_dataH ra rb M C z ⟨.bl _,H,I,rfl,q⟩
theorem Qg (K:aT) (z:X.A.units+64 < adu) (J:X.K=K:=by rfl):cD X (aa1 .NotEq) (rG K fun k=>!k):=by
 subst J;intro L s σ H x y v u Q I g r h;let ⟨a,b,k,da,db,e,q⟩:=h
 unfold jl at e;split at e
 .rename_i x' y' e1 e2;split at e
  .rename_i hs;cases e
   have:=dW da e1;subst this
   have:=dW db e2;subst this
   exact Wp L s σ H _ _ v u Q I g r ⟨hs,q⟩
  .cases e
 .obtain ⟨p,Y,h1,h2,M,C,rfl⟩:=u5 e;let ⟨as,ra⟩:=cR I da g h1
  let ⟨bs,rb⟩:=cR I db r h2
  exact ne_dataH ra rb M C z ⟨.bl _,H,I,rfl,q⟩
def d7 (o:Option Bool) (f:Bool->Bool):R D:=match o with
 | some k=>.ok (.bl (f k))
 | none=>.no
def bD (a b:D):R D:=d7 (jl a b) fun k=>k
def fh (a b:D):R D:=d7 (jl a b) fun k=>!k
def UZ (K:aT) (f:Bool->Bool) (hW:W.K=K:=by rfl):jm W (rG K f) (fun a b=>d7 (jl a b) f):=by
 subst hW;intro as H x y a b Q hn r g h;have h:cq W as H (d7 (jl a b) f) Q:=h;cases e:jl a b with
 | none=>rw [e] at h;exact h.elim
 | some k =>
  rw [e] at h;exact ⟨a,b,k,r.mono (ar _ _),g.mono (ar _ _),e,aH h rfl⟩
def aaH (K:aT) (hW:W.K=K:=by rfl):jm W (rG K fun k=>k) bD:=UZ K _ hW
def aaF (K:aT) (hW:W.K=K:=by rfl):jm W (rG K fun k=>!k) fh:=UZ K _ hW
def kW:afW->Option (afV)
 | []=>θ []
 | d::ds=>(c8 d).bind fun v=>(kW ds).map (v::·)
theorem lf {K:aT} {H:Hp}:∀ {ds:afW} {vs xs:afV},aN K H ds vs->kW ds=θ xs->vs=xs/\xs.all fJ=ζ
 | [],_,_,h,e=>by cases h;cases e;exact ⟨rfl,rfl⟩
 | d::ds,_,_,⟨v,vs,h0,h1,h2⟩,e=>by
  subst h0;unfold kW at e;cases q:c8 d with
  | none=>grind
  | some x =>
   rw [q] at e;cases q2:kW ds with
   | none=>grind
   | some xs =>
    rw [q2] at e;cases e;let ⟨h3,h4⟩:=lf h2 q2
    refine ⟨by rw [dW h1 q,h3],?_⟩;rw [abO,h4];cases d <;> cases q <;> rfl
def p7 (e:c8 d=θ x):fJ x=ζ:=by cases d <;> cases e <;> rfl
def PV (j i:Str):Bool:=!(adn j i 0 j.length 1).isEmpty
def vH (K:aT) (g:Bool):R2:=fun x y H Q=>match x,y with
 | .str i,.str j=>Q (.bl (if g=ζ then !PV j i else PV j i)) H
 | x,.ref p=>∃ xs,(e8 K H p xs\/g6 K H p xs)/\fJ x=ζ/\xs.all fJ=ζ/\Q (.bl (if g=ζ then !C9 x xs else C9 x xs)) H
 | _,_=>False
def U5 (K:aT) (g:X.K=K:=by rfl):cD X (aa1 .In) (vH K η):=by
 subst g;refine (Ci.or BJ).imp fun x y H Q q=>?_;unfold vH at q;split at q
 .exact .inl ⟨_,_,rfl,rfl,q⟩
 .let ⟨xs,h1,h2,h3,h4⟩:=q
  exact .inr ⟨_,xs,rfl,h1,h2,h3,h4⟩
 .exact q.elim
def z0 (K:aT) (u:X.K=K:=by rfl):cD X (aa1 .NotIn) (vH K ζ):=by
 subst u;refine (uz.or uj).imp fun x y H Q q=>?_;unfold vH at q;split at q
 .exact .inl ⟨_,_,rfl,rfl,q⟩
 .obtain ⟨xs,h1,h2,g,r⟩:=q;exact .inr ⟨_,xs,rfl,h1,h2,g,r⟩
 .exact q.elim
def zb (x:D) (xs:afW):Option Bool:=match c8 x,kW xs with
 | some v,θ vs=>θ (C9 v vs)
 | _,_=>ξ
def Xr (x y:D):Option Bool:=match y with
 | .str j=>match x with
  | .str i=>θ (PV j i)
  | _=>ξ
 | .lst xs=>zb x xs
 | .tup xs=>zb x xs
 | _=>ξ
def rg (x y:D):R D:=d7 (Xr x y) fun k=>if η=ζ then !k else k
def nh (x y:D):R D:=d7 (Xr x y) fun k=>if ζ=ζ then !k else k
theorem T7 (K:aT) (g:Bool) (hW:W.K=K:=by rfl):jm W (vH K g) (fun a b=>d7 (Xr a b) fun k=>if g=ζ then !k else k):=by
 subst hW;intro as H x y a b Q hn C z h;have key:∀ (p:aa3) (ds:afW) (vs:afV),y=.ref p->(e8 W.K H p vs\/g6 W.K H p vs)->aN W.K (aD as H) ds vs->cq W as H (d7 (zb a ds) fun k=>if g=ζ then !k else k) Q->vH W.K g x y H Q:=by
  intro p ds vs hy J I h;subst hy;unfold zb at h;cases e1:c8 a with
  | none=>rw [e1] at h;exact h.elim
  | some v =>
   rw [e1] at h;cases e2:kW ds with
   | none=>rw [e2] at h;exact h.elim
   | some ws =>
    rw [e2] at h
    have:=dW C e1
    subst this;let ⟨h3,h4⟩:=lf I e2
    subst h3;have fin:∃ xs,(e8 W.K H p xs\/g6 W.K H p xs)/\fJ x=ζ/\xs.all fJ=ζ/\Q (.bl (if g=ζ then !C9 x xs else C9 x xs)) H:=⟨vs,J,p7 e1,h4,aH h rfl⟩;cases x <;> exact fin
 cases b with
 | str j =>
  cases a with
  | str i=>cases C;cases z;exact aH h rfl
  | _=>exact h.elim
 | lst ds=>obtain ⟨p,vs,rfl,r,u⟩:=z;exact key p ds vs rfl (.inl ((ar _ _).seq r)) u h
 | tup ds=>obtain ⟨p,vs,rfl,r,u⟩:=z;exact key p ds vs rfl (.inr ((ar _ _).seqT r)) u h
 | _=>exact h.elim
def Z5 (K:aT) (hW:W.K=K:=by rfl):jm W (vH K η) rg:=T7 K η hW
def Fb (K:aT) (hW:W.K=K:=by rfl):jm W (vH K ζ) nh:=T7 K ζ hW
def aE (a b:D):R D:=match a,b with
 | .str z,.int i=>if z.length<=1000000 then (match atI z.cps.toList i with
  | some c=>.ok (.str ⟨#[c]⟩)
  | none=>.no) else .no
 | .lst xs,.int i=>match atI xs i with
  | some d=>.ok d
  | none=>.no
 | .tup xs,.int i=>match atI xs i with
  | some d=>.ok d
  | none=>.no
 | _,_=>.no
theorem aN.atI {K:aT} (h:aN K H ds xs) (e:atI ds i=θ d):∃ v,L2.atI xs i=θ v/\b9 K H d v:=by
 unfold L2.atI at e ⊢;rw [h.len] at e;cases q:IP xs.length i with
 | none=>grind
 | some j =>
  rw [q] at e;exact h.get e
theorem pIx (K:aT) (hW:W.K=K:=by rfl):jm W (Ra K) aE:=by
 subst hW;intro as H x y a b Q hn z r h;unfold aE at h;split at h
 .cases z;cases r;split at h
  .rename_i hl;split at h
   .rename_i c e;exact ⟨c,Le hl du,e,aH h rfl⟩
   .exact h.elim
  .exact h.elim
 .obtain ⟨p,vs,rfl,u,g⟩:=z;cases r;split at h
  .rename_i d e;let ⟨v,h1,h2⟩:=g.atI e
   exact ⟨vs,v,.inl ((ar _ _).seq u),h1,aH h h2⟩
  .exact h.elim
 .obtain ⟨p,vs,rfl,u,g⟩:=z;cases r;split at h
  .rename_i d e;let ⟨v,h1,h2⟩:=g.atI e
   exact ⟨vs,v,.inr ((ar _ _).seqT u),h1,aH h h2⟩
  .exact h.elim
 .exact h.elim
def ib (xs:afW) (lo g:Option Int):afW:=(xs.drop (HT.sIx xs.length 0 lo)).take (HT.sIx xs.length xs.length g - HT.sIx xs.length 0 lo)
def aN.cut {K:aT} (h:aN K H ds xs) (lo g:Option Int):aN K H (ib ds lo g) (u6 xs lo g):=by
 unfold ib u6;rw [h.len];exact (h.drop _).take _
def jn (a:D) (lo g:Option Int):R D:=match a with
 | .str z=>if z.length<=1000000 then .ok (.str (kG z lo g)) else .no
 | .lst xs=>.ok (.lst (ib xs lo g))
 | .tup xs=>if HT.sIx xs.length 0 lo=0/\HT.sIx xs.length xs.length g=xs.length then .no else .ok (.tup (ib xs lo g))
 | _=>.no
theorem XN (K:aT) (hW:W.K=K:=by rfl):W7 W (Va K) jn:=by
 subst hW;intro as H x lo z a Q hn v h;unfold jn at h;split at h
 .cases v;split at h
  .rename_i hl;exact ⟨Le hl du,aH h rfl⟩
  .exact h.elim
 .obtain ⟨p,vs,rfl,u,r⟩:=v;refine .inl ⟨vs,(ar _ _).seq u,fun p g=>h _ _ (aR g _) ⟨p,_,rfl,.inl (.inl (by rw [aV (hn p g)];exact aK)),(r.cut lo z).mono (aJ (aR g _))⟩⟩
 .obtain ⟨p,vs,rfl,u,r⟩:=v;split at h
  .exact h.elim
  .rename_i hc;rw [r.len] at hc;exact .inr ⟨vs,(ar _ _).seqT u,hc,fun p g=>h _ _ (aR g _) ⟨p,_,rfl,.inl (.inl (by rw [aV (hn p g)];exact aK)),(r.cut lo z).mono (aJ (aR g _))⟩⟩
 .exact h.elim
def bP (ds:afW):R D:=match ds with
 | [.str z]=>if z.length<=1000000 then .ok (.int z.length) else .no
 | [.lst xs]=>.ok (.int xs.length)
 | [.tup xs]=>.ok (.int xs.length)
 | _=>.no
def eU {K:aT} (h:aN K H [d] xs):∃ v,xs=[v]/\b9 K H d v:=by
 obtain ⟨v,vs,rfl,h1,h2⟩:=h;cases h2;exact ⟨v,rfl,h1⟩
def MR {K:aT} (h:aN K H [d,e] xs):∃ v u,xs=[v,u]/\b9 K H d v/\b9 K H e u:=by
 obtain ⟨v,vs,rfl,h1,h2⟩:=h;obtain ⟨u,rfl,g⟩:=eU h2;exact ⟨v,u,rfl,h1,g⟩
def Y6 (K:aT) (hW:W.K=K:=by rfl):kl W (JD K) bP:=by
 subst hW;intro as H xs ds Q hn u h;unfold bP at h;split at h
 .obtain ⟨v,rfl,g⟩:=eU u;cases g;split at h
  .rename_i hl;exact ⟨Le hl du,aH h rfl⟩
  .exact h.elim
 .obtain ⟨v,rfl,g⟩:=eU u;obtain ⟨p,vs,rfl,z,r⟩:=g;refine ⟨vs,.inl ((ar _ _).seq z),?_⟩;rw [<- r.len];exact aH h rfl
 .obtain ⟨v,rfl,g⟩:=eU u;obtain ⟨p,vs,rfl,z,r⟩:=g;refine ⟨vs,.inr ((ar _ _).seqT z),?_⟩;rw [<- r.len];exact aH h rfl
 .exact h.elim
def Lc (ds:afW):R D:=match ds with
 | [.int i]=>.ok (.int (if i < 0 then -i else i))
 | _=>.no
def Zy:kl W OD Lc:=by
 intro as H xs ds Q hn g h;unfold Lc at h;split at h
 .obtain ⟨v,rfl,r⟩:=eU g;cases r;exact aH h rfl
 .exact h.elim
def qB (ds:afW):R D:=match ds with
 | [.int i]=>.ok (.int i)
 | [.bl k]=>.ok (.int (if k=ζ then 1 else 0))
 | _=>.no
def Zn:kl W QA qB:=by
 intro as H xs ds Q hn r h;unfold qB at h;split at h
 .obtain ⟨v,rfl,g⟩:=eU r;cases g;exact aH h rfl
 .obtain ⟨v,rfl,g⟩:=eU r;cases g;exact aH h rfl
 .exact h.elim
noncomputable def vp:afW->Option (List Bool)
 | []=>θ []
 | .bl b::ds=>(vp ds).map (b::·)
 | _=>ξ
theorem wu {K:aT}:∀ {ds:afW} {vs:afV} {bs:List Bool},aN K H ds vs->vp ds=θ bs->vs=bs.map V.bl
 | [],_,_,h,e=>by cases h;cases e;rfl
 | d::ds,_,_,⟨v,vs,h0,h1,h2⟩,e=>by
  subst h0;cases d with
  | bl b =>
   have e:(vp ds).map (b::·)=θ _:=e;cases q2:vp ds with
   | none=>simp_all
   | some xs =>
    rw [q2] at e;cases e;cases h1;rw [wu h2 q2];rfl
  | _=>cases e
def ou (ds:afW):R D:=match ds with
 | [.lst xs]=>match vp xs with
  | some bs=>.ok (.bl (bs.all id))
  | none=>.no
 | _=>.no
def YU (K:aT) (hW:W.K=K:=by rfl):kl W (PM K) ou:=by
 subst hW;intro as H xs ds Q hn r h;unfold ou at h;split at h
 .obtain ⟨v,rfl,z⟩:=eU r;obtain ⟨p,vs,rfl,u,g⟩:=z;split at h
  .rename_i bs e;refine ⟨bs,?_,aH h rfl⟩;rw [<- wu g e];exact (ar _ _).seq u
  .exact h.elim
 .exact h.elim
def Ai (K:aT) (xs:afV) (H:Hp) (Q:VK):Prop:=match xs with
 | [x,.ty C]=>nH C=ζ/\(match x with
  | .non=>Q (.bl (jK "NoneType" C)) H
  | .bl _=>Q (.bl (jK "bool" C)) H
  | .int _=>Q (.bl (jK "int" C)) H
  | .str _=>Q (.bl (jK "str" C)) H
  | .ref a=>(∃ xs,e8 K H a xs/\Q (.bl (jK "list" C)) H)\/(∃ xs,g6 K H a xs/\Q (.bl (jK "tuple" C)) H)\/(∃ g,H a=θ (.dK g)/\Q (.bl (jK "dict" C)) H)\/∃ o g,H a=θ (.frz o (.dK g))/\Q (.bl (jK "dict" C)) H
  | _=>False)
 | _=>False
theorem Mq (K:aT) (hK:X.K=K:=by rfl):bG X (.builtin "isinstance") (Ai K):=by
 subst hK;intro af s σ H xs us Q I r h;unfold Ai at h;split at h
 .rename_i x C;obtain ⟨g,h⟩:=h;obtain ⟨u,c,rfl,J,rc⟩:=My r;cases rc;have fin:∀ (b:Bool),Q (.bl b) H->∀ tk,X.tn<=tk->EP X af σ Q (.bool b) { s with toks:=tk }:=fun b q tk htk=>⟨.bl b,H,I.tok tk,rfl,q⟩;refine aW I.tk ?_;cases x with
  | non=>exact iq I J .non (gZ (.inl rfl) g) (fin _ h)
  | bl b=>exact iq I J (.bl b) (gZ (.inr (.inl rfl)) g) (fin _ h)
  | int b=>exact iq I J (.int b) (gZ (.inr (.inr (.inl rfl))) g) (fin _ h)
  | str b=>exact iq I J (.str b) (gZ (.inr (.inr (.inr (.inl rfl)))) g) (fin _ h)
  | ref a =>
   cases J;rcases h with ⟨xs,v,q⟩|⟨xs,v,q⟩|⟨Z,v,q⟩|⟨ob,Z,v,q⟩
   .obtain ⟨its,rv,M,hz⟩:=I.list v;obtain ⟨o,L,Y,n,hd⟩:=M.isList;exact abp aed I.kIn ⟨o,L,Y⟩ (gZ (.inr (.inr (.inr (.inr (.inl rfl))))) g) (fun z=>nomatch z) (fin _ q)
   .let ⟨its,rv,M,hz⟩:=I.tuple v
    let ⟨o,L,Y,n,hd⟩:=M
    exact abp ae5 I.kIn ⟨o,L,Y⟩ (gZ (.inr (.inr (.inr (.inr (.inr (.inl rfl)))))) g) (fun z=>nomatch z) (fin _ q)
   .exact iq (x:=.ref a) I rfl (.dK v) (gZ (.inr (.inr (.inr (.inr (.inr (.inr rfl)))))) g) (fin _ q)
   .let ⟨_,_,_,vs,_,o,es,ep,h1,h2,_⟩:=((I.hok a _ v))
    exact abp aee I.kIn ⟨o,h1,h2.1⟩ (gZ (.inr (.inr (.inr (.inr (.inr (.inr rfl)))))) g) (fun z=>nomatch z) (fin _ q)
  | _=>exact h.elim
 .exact h.elim
def fR (ds:afW):R D:=match ds with
 | [x,.ty C]=>if nH C=ζ then (match x with
  | .non=>.ok (.bl (jK "NoneType" C))
  | .bl _=>.ok (.bl (jK "bool" C))
  | .int _=>.ok (.bl (jK "int" C))
  | .str _=>.ok (.bl (jK "str" C))
  | .lst _=>.ok (.bl (jK "list" C))
  | .tup _=>.ok (.bl (jK "tuple" C))
  | .dct _=>.ok (.bl (jK "dict" C))
  | .dcf _=>.ok (.bl (jK "dict" C))
  | _=>.no) else .no
 | _=>.no
theorem XO (K:aT) (hW:W.K=K:=by rfl):kl W (Ai K) fR:=by
 subst hW;intro as H xs ds Q hn C h;unfold fR at h;split at h
 .obtain ⟨v,u,rfl,g,I⟩:=MR C;cases I;split at h
  .rename_i hC;split at h
   .cases g;exact ⟨hC,aH h rfl⟩
   .cases g;exact ⟨hC,aH h rfl⟩
   .cases g;exact ⟨hC,aH h rfl⟩
   .cases g;exact ⟨hC,aH h rfl⟩
   .obtain ⟨p,vs,rfl,r,z⟩:=g;exact ⟨hC,.inl ⟨vs,(ar _ _).seq r,aH h rfl⟩⟩
   .obtain ⟨p,vs,rfl,r,z⟩:=g;exact ⟨hC,.inr (.inl ⟨vs,(ar _ _).seqT r,aH h rfl⟩)⟩
   .obtain ⟨p,vs,rfl,r,z⟩:=g;exact ⟨hC,.inr (.inr (.inl ⟨vs,ar _ _ _ _ r,aH h rfl⟩))⟩
   .obtain ⟨p,o,vs,rfl,r,z⟩:=g;exact ⟨hC,.inr (.inr (.inr ⟨o,vs,ar _ _ _ _ r,aH h rfl⟩))⟩
   .exact h.elim
  .exact h.elim
 .exact h.elim
def tJ (K:aT) (xs:afV) (H:Hp) (Q:VK):Prop:=match xs with
 | [.ref p]=>(∃ ys,e8 K H p ys/\∀ l,H l=ξ->Q (.ref l) (upd H l (.tup ys)))\/∃ ys,g6 K H p ys/\Q (.ref p) H
 | _=>False
def Fu (K:aT) (g:X.K=K:=by rfl):bG X (.type "tuple") (tJ K):=by
 subst g;refine rO.imp fun xs H Q q=>?_;unfold tJ at q;split at q
 .rcases q with ⟨ys,h1,h2⟩|⟨ys,h1,h2⟩
  .exact ⟨_,ys,rfl,.inl ⟨h1,h2⟩⟩
  .exact ⟨_,ys,rfl,.inr ⟨h1,h2⟩⟩
 .exact q.elim
def gp (ds:afW):R D:=match ds with
 | [.lst xs]=>.ok (.tup xs)
 | [.tup xs]=>.ok (.tup xs)
 | _=>.no
def OW {as:afT} {H:Hp} (hn:∀ a∈as,H a≠ξ):∀ p,H p=ξ->p∉as:=fun p g z=>hn p z g
def XI (K:aT) (hW:W.K=K:=by rfl):kl W (tJ K) gp:=by
 subst hW;intro as H xs ds Q hn z h;unfold gp at h;split at h
 .obtain ⟨v,rfl,u⟩:=eU z;obtain ⟨p,vs,rfl,g,r⟩:=u;exact .inl ⟨vs,(ar _ _).seq g,fun l hl=>h _ _ (aR hl _) ⟨l,vs,rfl,.inl (.inl (by rw [aV (OW hn l hl)];exact aK)),r.mono (aJ (aR hl _))⟩⟩
 .obtain ⟨v,rfl,u⟩:=eU z;obtain ⟨p,vs,rfl,g,r⟩:=u;exact .inr ⟨vs,(ar _ _).seqT g,aH h ⟨p,vs,rfl,g,r⟩⟩
 .exact h.elim
def yp (K:aT) (xs:afV) (H:Hp) (Q:VK):Prop:=match xs with
 | [.ref p]=>∃ ys,(e8 K H p ys\/g6 K H p ys)/\∀ l,H l=ξ->Q (.ref l) (upd H l (.lst ys))
 | _=>False
def QZ (K:aT) (g:X.K=K:=by rfl):bG X (.type "list") (yp K):=by
 refine uF.imp fun xs H Q q=>?_;unfold yp at q;split at q
 .simp_all
 .exact q.elim
def yG (ds:afW):R D:=match ds with
 | [.lst xs]=>.ok (.lst xs)
 | [.tup xs]=>.ok (.lst xs)
 | _=>.no
def XW (K:aT) (hW:W.K=K:=by rfl):vO W (yp K) yG:=by
 subst hW;intro as H xs ds Q hn z h;unfold yG at h;split at h
 .obtain ⟨v,rfl,u⟩:=eU z;obtain ⟨p,vs,rfl,g,r⟩:=u;exact ⟨vs,.inl ((ar _ _).seq g),fun l hl=>h l _ _ (aR hl _) hl aK ⟨vs,rfl,r.mono (gk hl (aR hl _))⟩⟩
 .obtain ⟨v,rfl,u⟩:=eU z;obtain ⟨p,vs,rfl,g,r⟩:=u;exact ⟨vs,.inr ((ar _ _).seqT g),fun l hl=>h l _ _ (aR hl _) hl aK ⟨vs,rfl,r.mono (gk hl (aR hl _))⟩⟩
 .exact h.elim
def La:JE X (.Dict [] [] pos) (tN W O (vC (.dct []))):=IK.imp fun σ H Q ⟨as0,B,own,U,I,h⟩ p hp=>h p _ _ (aR hp _) hp aK ⟨[],rfl,rfl⟩
noncomputable def lx:afW->Option (afP)
 | []=>θ []
 | .str b::ds=>(lx ds).map (b::·)
 | _=>ξ
theorem m7 {K:aT}:∀ {ds:afW} {vs:afV} {bs:afP},aN K H ds vs->lx ds=θ bs->vs=bs.map V.str
 | [],_,_,h,e=>by cases h;cases e;rfl
 | d::ds,_,_,⟨v,vs,h0,h1,h2⟩,e=>by
  subst h0;cases d with
  | str b =>
   have e:(lx ds).map (b::·)=θ _:=e;cases q2:lx ds with
   | none=>simp_all
   | some xs =>
    rw [q2] at e;cases e;cases h1;rw [m7 h2 q2];rfl
  | _=>cases e
def lF (z:Str) (ds:afW):R D:=match ds with
 | [.lst xs]=>match lx xs with
  | some ys=>if (ys.map (·.length)).sum+ys.length*z.length<=1000000 then .ok (.str (aeL z ys)) else .no
  | none=>.no
 | _=>.no
def SI (K:aT) (hW:W.K=K:=by rfl):Yc W (CD K) lF:=by
 subst hW;intro as H z xs ds Q hn r h;unfold lF at h;split at h
 .obtain ⟨v,rfl,C⟩:=eU r;obtain ⟨p,vs,rfl,u,g⟩:=C;split at h
  .rename_i ys e;split at h
   .rename_i hl;refine ⟨ys,?_,Le hl (by decide),aH h rfl⟩;rw [<- m7 g e];exact (ar _ _).seq u
   .exact h.elim
  .exact h.elim
 .exact h.elim
end
section
variable {apos cpos:Pos} {id:String}
def Vx (J:PlainAttrs T) (z:Slot T name id) (C:typeOf (.builtin id)=pure (.type "method_descriptor")) (M:UL X id r) (I:JE X o to) (L:JA X (e::es) t)
  (g:abg o name X.env (eval o X.env)=eval o X.env:=by rfl) (v:(apos.endLine==cpos.line)=ζ:=by rfl) (h1:(e::es).all aI=ζ:=by rfl) (hl:(e::es).length < 29:=by decide) :
  JE X (.Call (.Attribute o name apos) (e::es) [] cpos) (XE X.K T r to t):=by
 have u:=h1;rw [abO,Pi] at u;exact ⟨Ry J z C M I.out L.out g (wk h1 hl) v (bH u.1) (cK u.2)⟩
def Sy (I:PlainAttrs T) (v:Slot T name id) (z:typeOf (.builtin id)=pure (.type "method_descriptor")) (J:UL X id r) (C:JE X o to)
  (g:abg o name X.env (eval o X.env)=eval o X.env:=by rfl) (u:(apos.endLine==cpos.line)=ζ:=by rfl) :
  JE X (.Call (.Attribute o name apos) [] [] cpos) (SD X.K T r to):=⟨M3 I v z J C.out g u⟩
end
theorem zj:∀ {O:afO} {own:afT} {i:Nat} {a b:aa3},O.Nodup->(i,a)∈O.zip own->(i,b)∈O.zip own->a=b
 | [],_,_,_,_,_,h,_=>by simp at h
 | _::_,[],_,_,_,_,h,_=>by simp at h
 | k::O,c::own,i,a,b,nd,h1,h2=>by
  rw [aa4] at nd;rcases mK.mp h1 with e1|h1 <;> rcases mK.mp h2 with e2|h2
  .grind
  .cases e1;exact absurd (abb h2).1 nd.1
  .cases e2;exact absurd (abb h1).1 nd.1
  .exact zj nd.2 h1 h2
def vi (h:a∈as):aD as (upd H a o)=aD as H:=by
 funext b
 unfold aD;split
 .rfl
 .rename_i hb;exact aF fun z=>hb (by rw [z];exact h)
theorem DI.mutate {K:aT} (I:DI K as0 B O own σ U H) (v:(i,a)∈O.zip own) (h:i8 K (aD (own++as0) H) o' d') :
  DI K as0 B O own σ (U.set i (θ d')) (upd H a o'):=by
 have J:a∈own++as0:=abh _ (abb v).2;obtain ⟨L,o0,h1,h2,Y,M⟩:=I.owns i a v;have hil  := (aaW.mp h1).1;refine ⟨by simp [I.len],I.olen,I.nd,I.ond,I.fresh,I.ex0,fun b u e=>?_,fun j e r q=>?_,fun j b r=>?_⟩
 .have hb:b≠a:=fun z=>by
   have:=I.fresh a (abb v).2
   rw [z,this] at e;cases e
  rw [aF hb];exact I.same b u e
 .have g:i≠j:=fun z=>r (by rw [<- z];exact (abb v).1);rw [getElem?_set',afJ g] at q;rw [vi J];exact I.var j e r q
 .rw [vi J];by_cases g:i=j
  .subst g
   have:=zj I.ond v r
   subst this;exact ⟨d',o',by simp_all,h2,aK,h⟩
  .let ⟨d,u,q1,q2,q3,q4⟩:=I.owns j b r
   have C:b≠a:=fun z=>g (by rw [z] at r;exact zip_inj I.nd v r);exact ⟨d,u,by simp_all,q2,by rw [aF C];exact q3,q4⟩
section
variable {X:Cx} {W:Wd} {Ob O O':afO} {e:abu} {ε ψ:FE} {pos p1 p2 apos cpos:Pos} {x:Str}
theorem Sf (K:aT) (L:i∈O) (hb:JE X e (tD W O ψ)) (M:X.N[i]?=θ x:=by rfl) (hs:me e:=by exact fun _ _=>rfl) (C:oy X.env.scope x:=by walk_at"v") (Z:afX x:=by decide)
  (z:(x==("__classdict__":Str))=η:=by decide) (hK:X.K=K:=by rfl) (hW:W.K=K:=by rfl):JE X (.Subscript (.Name x p1) e pos) (tD W O (ak aE (ae i) ψ)) :=
 (VT (aag K hK) (jv i M C Z z) hb hs).imp fun σ H Q Y=>cP Y fun as0 B own U I h=>by
  let ⟨a,ha⟩:=b6 I.olen L
  let ⟨d,o,h1,h2,h3,h4⟩:=I.owns i a ha
  have e0:Cu (Ra K) (tm i) (tD W O ψ) σ H Q=mW σ[i]? H (RB (Ra K) (tD W O ψ) σ Q):=rfl;rw [e0,h2];have C:ae i U=.ok d:=by unfold ae;rw [h1]
  have h':cq W (own++as0) H ((ψ U).bind fun y=>aE d y) Q:=by
   have e:ak aE (ae i) ψ U=(ψ U).bind fun y=>aE d y:=by unfold ak;rw [C];rfl
   rw [<- e];exact h
  refine ⟨as0,B,own,U,I,bp h' fun y u H2 J d2 r=>?_⟩;cases d with
  | lst ds =>
   obtain ⟨xs,rfl,q⟩:=h4;cases y with
   | int k =>
    cases d2;have g:cq W (own++as0) H2 (match atI ds k with|some d=>.ok d|none=>.no) Q:=r
    cases q3:atI ds k with
    | none=>rw [q3] at g;exact g.elim
    | some d' =>
     rw [q3] at g;let ⟨v,e1,e2⟩:=q.atI q3
     exact ⟨xs,v,.inl (e8.of (J _ _ h3)),e1,aH g (e2.mono (aJ J))⟩
   | _=>exact r.elim
  | _=>first|exact h4.elim|(cases y <;> exact r.elim)
theorem QG (K:aT) (u:i∈O) (C:X.mg "len"=ξ) (z:X.N[i]?=θ x:=by rfl) (hg:Gl X "len":=by rfl) (r:oy X.env.scope x:=by walk_at"v") (L:afX x:=by decide)
  (g:(x==("__classdict__":Str))=η:=by decide) (M:X.K=K:=by rfl) (hW:W.K=K:=by rfl):JE X (.Call (.Name "len" p2) [.Name x p1] [] pos) (tD W O (aj bP (aa (ae i) ag))) :=
 (ui (V1 K M) C wQ (jV (jv i z r L g) qD) hg).imp fun σ H Q J=>cP J fun as0 B own U I h=>by
  let ⟨a,ha⟩:=b6 I.olen u
  let ⟨d,o,h1,h2,h3,h4⟩:=I.owns i a ha
  show mW σ[i]? H _;rw [h2];have r:ae i U=.ok d:=by unfold ae;rw [h1]
  have h':cq W (own++as0) H (bP [d]) Q:=by
   have e:aj bP (aa (ae i) ag) U=bP [d]:=by unfold aj aa ag;rw [r];rfl
   rw [<- e];exact h
  cases d with
  | lst ds =>
   obtain ⟨xs,rfl,q⟩:=h4;refine ⟨xs,.inl (e8.of h3),?_⟩;rw [<- q.len];exact aH h' rfl
  | _=>first|exact h4.elim|exact h'.elim
def bj (i:Nat) (ε:FE):FS:=fun U=>match U[i]? with
 | some (θ (.lst xs))=>(ε U).bind fun d=>if xs.length < 1000000 then .ok (.nx (U.set i (θ (.lst (xs++[d]))))) else .no
 | _=>.no
theorem B1 (L:i∈O) (he:JE X e (tD W O ε)) (M:X.N[i]?=θ x:=by rfl) (hn:aI e=ζ:=by rfl) (r:(apos.endLine==cpos.line)=ζ:=by rfl) (hv:oy X.env.scope x:=by walk_at"v") (Z:afX x:=by decide)
  (u:(x==("__classdict__":Str))=η:=by decide) (g:abg (.Name x p1) "append" X.env (eval (.Name x p1) X.env)=eval (.Name x p1) X.env:=by rfl)
  (hs:acq (.Call (.Attribute (.Name x p1) "append" apos) [e] [] cpos) ξ pos.line X.env=pure η:=by rfl) (hW:W.K=X.K:=by rfl) :
  JS X (.Expr (.Call (.Attribute (.Name x p1) "append" apos) [e] [] cpos) pos) (sD W Ob O O (bj i ε)) :=
 (oH (Vx aen PySem.F.slot_list_append PySem.F.type_list_append sr (jv i M hv Z u) (jV he qD hn) g r (by simp_all) (by grind)) hs).imp fun D σ H Y=>cP Y fun as0 B own U I h=>by
  let ⟨a,ha⟩:=b6 I.olen L
  let ⟨d,o,h1,h2,h3,h4⟩:=I.owns i a ha
  have e0:yV (XE X.K "list" tT (tm i) (qI (tD W O ε) xi)) D σ H=mW σ[i]? H (fun x H1=>UI X.K "list" x H1/\qI (tD W O ε) xi σ H1 fun vs J=>tT x vs J (fun _ H3=>D.nx σ H3)):=rfl;rw [e0,h2];unfold bj at h;rw [h1] at h;cases d with
  | lst ds =>
   obtain ⟨xs,rfl,q⟩:=h4;refine ⟨.inl ⟨rfl,xs,e8.of h3⟩,as0,B,own,U,I,cw I h fun y v J z d2 C=>?_⟩;split at C
   .refine ⟨a,xs,v,rfl,rfl,z _ _ h3,?_,?_⟩
    .have:=du;rw [<- q.len];lia
    .exact C own σ _ ((I.mono z).mutate ha ⟨xs++[v],rfl,(q.mono (aJ z)).append (aN.cons d2 aN.nil)⟩)
   .exact C.elim
  | _=>exact h.elim
end
end L2
namespace L2
open PySem PySem.Builtin
section
theorem mJ (g:s.heap.IsTupleIter it l i)
  (hl:s.heap.IsTuple l items) (z:items[i]?=θ x)
  (hQ:∀ h',h'.IsTupleIter it l (i+1)->aby it s.heap h'->Q x { s with heap:=h' }) :
  aaN (aaV prog w) A (abL (.ref it)) Q E s:=by
 obtain ⟨o,u,v,r⟩:=id g;let ⟨ol,hol,_,nl,hdl⟩:=hl
 refine dO (abY g.typeIs F.slot_tuple_iterator_next
  (ab1 F.slot_tuple_iterator_next g.typeIs F.entry_tuple_iterator_next ?_ (F.args_tuple_iterator_next_1 _)))
 show aaN _ _ (field (.ref it) 0 >>= _) _ _ s;refine dO (abX u r rfl ?_);refine dO (abX u r rfl ?_);refine dO (wpAny_seqItems hol hdl ?_);simp only [abf,z];refine dO (wpAny_setField u r (by simp) (rW ⟨x,rfl,rW (hQ _ ?_ (adi ..))⟩));exact ⟨_,Heap.get?_update_self _ u (Obj.isFreed_of_fields (ae9 r _)),(Obj.cls_mapFields ..).trans v,by
  rw [ae9 r];simp [aeJ]⟩
theorem mS (u:A.handled=ξ)
  (g:s.heap.IsTupleIter it l i) (hl:s.heap.IsTuple l items) (v:items[i]?=ξ)
  (r:∀ h' e,afB it s.heap h'->(∃ o,h'.get? e=θ o/\o.cls=.type "StopIteration")->E (.ref e) { s with heap:=h' }) :
  aaN (aaV prog w) A (abL (.ref it)) Q E s:=by
 let ⟨o,ho,hc,hd⟩:=id g
 let ⟨ol,hol,_,nl,hdl⟩:=hl
 refine dO (abY g.typeIs F.slot_tuple_iterator_next
  (ab1 F.slot_tuple_iterator_next g.typeIs F.entry_tuple_iterator_next ?_ (F.args_tuple_iterator_next_1 _)))
 show aaN _ _ (field (.ref it) 0 >>= _) _ _ s;refine dO (abX ho hd rfl ?_);refine dO (abX ho hd rfl ?_);refine dO (wpAny_seqItems hol hdl ?_);simp only [abf,v];refine dO (aeM (dO (wpAny_setField ho hd (by simp) ?_)));refine dO ?_;refine dO (acj ?_ (by size_fits));refine dO (ae2 (by rfl) ?_);refine acj ?_ (by size_fits);refine dO (wpAny_handled ?_)
 first|assumption|rw [u]
 refine dO (rW (wpAny_throw ?_));exact r _ _ (((adi ..).extBut.push _).push _) ⟨_,Do _ rfl,rfl⟩
end
def wv (L:A.handled=ξ) (it l:aa3) (C:l≠it) (g:Array oR) :
  Draws prog w A it [it,l] g.size (fun i v=>g[i]?=θ v) (fun i h=>h.IsTupleIter it l i/\h.IsTuple l g) where
 live:=fun _ _ st=>let ⟨o,ho,_⟩:=st.1;⟨o,ho⟩
 frame:=fun _ _ _ st J=>⟨(let ⟨o,e,r⟩:=st.1;⟨o,J it (by simp) o e,r⟩),by
  let ⟨o,e,r⟩:=st.2
  exact ⟨o,J l (by simp) o e,r⟩⟩
 item:=fun i s Q E I st hQ=>by
  refine mJ st.1 st.2 (x:=g[i]) (by simp [I]) fun h' u z=>?_;refine hQ _ h' s.toks (by simp [I]) ⟨u,?_⟩ z;let ⟨o,e,r⟩:=st.2
  exact ⟨o,z.extBut l o C e,r⟩
 done:=fun s Q E st M=>mS L st.1 st.2 (by simp) M
structure ZA (z Xi Xo i1 i2:aa3) (fp1 fp2:afT):Prop where
 TIz:Xi≠z
 TOz:Xo≠z
 TITO:Xi≠Xo
 TIi1:Xi≠i1
 TIi2:Xi≠i2
 TOi1:Xo≠i1
 TOi2:Xo≠i2
 i1z:i1≠z
 i2z:i2≠z
 i12:i1≠i2
 z1:z∉fp1
 z2:z∉fp2
 TO1:Xo∉fp1
 TO2:Xo∉fp2
 i1f:i1∉fp2
 i2f:i2∉fp1
section
def bS (D:Draws prog w A it fp n P Sr) (st:Sr k h) (g:aby c h h') (r:c∉fp):Sr k h' :=
 D.frame _ _ _ st fun b hb o e=>g.extBut b o (fun q=>r (q ▸ hb)) e
theorem Cj {Q:afR} (D1:Draws prog w A i1 fp1 n1 P1 St1) (D2:Draws prog w A i2 fp2 n2 P2 St2) (D:ZA z Xi Xo i1 i2 fp1 fp2)
  (hz:IsZip s.heap z Xi Xo .none) (hTI:IsPair s.heap Xi (.ref i1) (.ref i2)) (hTO:IsPair s.heap Xo a b) (h1:St1 k s.heap) (h2:St2 k s.heap) (l1:k < n1) (l2:k < n2)
  (hQ:∀ x y h' tk,P1 k x->P2 k y->IsZip h' z Xi Xo (aeJ s.heap.objs.size)->IsPair h' Xo x y->St1 (k+1) h'->St2 (k+1) h'->IsPair h' s.heap.objs.size x y->h'.objs.size=s.heap.objs.size+1 ->
   (∀ c o,c≠z->c≠Xo->c≠i1->c≠i2->s.heap.get? c=θ o->h'.get? c=θ o)->Q (.ref s.heap.objs.size) { s with heap:=h',toks:=tk }) :
  aaN (aaV prog w) A (Builtin.«zip.__next__» ⟨[.ref z],[]⟩) (fun fin s'=>∃ v,fin=.done (.ret v)/\Q v s') E s:=by
 let ⟨hp,g,d,tk0,os⟩:=s
 show aaN _ _ (field (.ref z) 2 >>= _) _ _ _;refine dO (abX hz rfl (x:=.bool η) rfl ?_);show aaN _ _ (field (.ref z) 3 >>= _) _ _ _;refine dO (abX hz rfl (x:=.ref Xi) rfl ?_);refine dO (wpAny_seqItems hTI rfl ?_);show aaN _ _ (abQ (.ref z) >>= _) _ _ _;refine dO ?_;unfold abQ;refine dO (abX hz rfl (x:=.none) rfl (rW ?_));simp only [if_true];refine dO (aeM ?_);refine dO (abX hz rfl (x:=.ref Xo) rfl ?_);refine dO (wpAny_setField_rec hz (by simp) fun h₁ hz₁ I=>?_)
 replace hz₁:IsZip h₁ z Xi Xo .ellipsis:=hz₁
 replace I:aby z hp h₁:=I
 refine dO ?_;simp only [List.zipIdx_cons,List.zipIdx_nil,List.forIn_cons,List.forIn_nil];refine dO (dO (wpAny_onRaise ?_));show aaN _ _ (abL (.ref i1) >>= _) _ _ _;refine dO (D1.item k ⟨h₁,g,d,tk0,os⟩ _ _ l1 (bS D1 h1 I D.z1) fun x h₂ tk2 px h1₂ r=>rW ?_)
 replace r:aby i1 h₁ h₂:=r
 have hTO₂:IsPair h₂ Xo a b:=r.extBut _ _ D.TOi1 (I.extBut _ _ D.TOz hTO);show aaN _ _ _ _ _ ⟨h₂,g,d,tk2,os⟩;refine dO (wpAny_seqItems hTO₂ rfl ?_);refine dO (wpAny_updateSeq_pair hTO₂ fun h₃ hTO₃ J=>?_)
 replace hTO₃:IsPair h₃ Xo x b:=hTO₃
 replace J:aby Xo h₂ h₃:=J
 refine dO (wpAny_letGo (rW ?_));refine dO (dO (wpAny_onRaise ?_));show aaN _ _ (abL (.ref i2) >>= _) _ _ _;refine dO (D2.item k ⟨h₃,g,d,tk2,os⟩ _ _ l2 (bS D2 (bS D2 (bS D2 h2 I D.z2) r D.i1f) J D.TO2) fun y h₄ tk4 py h2₄ u=>rW ?_)
 replace u:aby i2 h₃ h₄:=u
 have hTO₄:IsPair h₄ Xo x b:=u.extBut _ _ D.TOi2 hTO₃;show aaN _ _ _ _ _ ⟨h₄,g,d,tk4,os⟩;refine dO (wpAny_seqItems hTO₄ rfl ?_);refine dO (wpAny_updateSeq_pair hTO₄ fun h₅ L C=>?_)
 replace L:IsPair h₅ Xo x y:=L
 replace C:aby Xo h₄ h₅:=C
 refine dO (wpAny_letGo (rW (rW ?_)));refine dO (wpAny_seqItems L rfl ?_);refine dO (wpAny_newTuple ?_);have hsz:h₅.objs.size=hp.objs.size:=by rw [C.1,u.1,J.1,r.1,I.1]
 have hz₅:IsZip h₅ z Xi Xo .ellipsis:=C.extBut _ _ D.TOz.symm (u.extBut _ _ D.i2z.symm (J.extBut _ _ D.TOz.symm (r.extBut _ _ D.i1z.symm hz₁)));have hk₅:∀ c o,c≠z->c≠Xo->c≠i1->c≠i2->hp.get? c=θ o->h₅.get? c=θ o:=fun c o c1 c2 c3 c4 e =>
  C.extBut _ _ c2 (u.extBut _ _ c4 (J.extBut _ _ c2 (r.extBut _ _ c3 (I.extBut _ _ c1 e))))
 have h1₅:St1 (k+1) h₅:=bS D1 (bS D1 (bS D1 h1₂ J D.TO1) u D.i2f) C D.TO1;have h2₅:St2 (k+1) h₅:=bS D2 h2₄ C D.TO2;have hzlt:z < h₅.objs.size:=ID hz₅;show aaN _ _ (adf (.ref z) (.ref h₅.objs.size) >>= _) _ _ _;refine dO ?_;unfold adf;have hz₆:IsZip (h₅.push { cls:=.type "tuple",data:=.seq #[x,y] }) z Xi Xo .ellipsis:=eQ _ hz₅;refine dO (wpAny_setField_rec hz₆ (by simp) fun h₇ hz₇ M=>?_)
 replace hz₇:IsZip h₇ z Xi Xo (aeJ h₅.objs.size):=hz₇
 replace M:aby z (h₅.push { cls:=.type "tuple",data:=.seq #[x,y] }) h₇:=M
 refine wpAny_setField_rec hz₇ (by simp) fun h₈ Z Y=>?_
 replace Z:IsZip h₈ z Xi Xo (aeJ h₅.objs.size):=Z
 replace Y:aby z h₇ h₈:=Y
 have up:∀ c o,c≠z->h₅.get? c=θ o->h₈.get? c=θ o:=fun c o c1 e=>Y.extBut _ _ c1 (M.extBut _ _ c1 (eQ _ e));have hT₈:IsPair h₈ h₅.objs.size x y:=Y.extBut _ _ (adI hzlt) (M.extBut _ _ (adI hzlt) (Do _ rfl));have hz8:h₈.objs.size=h₅.objs.size+1:=by rw [Y.1,M.1,abK]
 rw [hsz] at Z hT₈ hz8;refine rW ⟨_,rfl,?_⟩;show Q (.ref h₅.objs.size) ⟨h₈,g,d,tk4,os⟩;rw [hsz];exact hQ x y h₈ tk4 px py Z (up _ _ D.TOz L) (D1.frame _ _ _ h1₅ fun b hb o e=>up b o (fun q=>D.z1 (q ▸ hb)) e) (D2.frame _ _ _ h2₅ fun b hb o e=>up b o (fun q=>D.z2 (q ▸ hb)) e) hT₈ hz8
  fun c o c1 c2 c3 c4 e=>up c o c1 (hk₅ c o c1 c2 c3 c4 e)
theorem Hk (D1:Draws prog w A i1 fp1 n1 P1 St1) (D2:Draws prog w A i2 fp2 n2 P2 St2) (D:ZA z Xi Xo i1 i2 fp1 fp2)
  (hz:IsZip s.heap z Xi Xo .none) (hTI:IsPair s.heap Xi (.ref i1) (.ref i2)) (hTO:IsPair s.heap Xo a b) (h1:St1 k s.heap) (h2:St2 k s.heap) (hend:k=n1\/(k < n1/\k=n2))
  (hE:∀ h' tk e,(∀ c o,c≠z->c≠Xo->c≠i1->c≠i2->s.heap.get? c=θ o->h'.get? c=θ o)->(∃ o,h'.get? e=θ o/\o.cls=.type "StopIteration")->E (.ref e) { s with heap:=h',toks:=tk }) :
  aaN (aaV prog w) A (Builtin.«zip.__next__» ⟨[.ref z],[]⟩) Q E s:=by
 let ⟨hp,g,d,tk0,os⟩:=s
 show aaN _ _ (field (.ref z) 2 >>= _) _ _ _;refine dO (abX hz rfl (x:=.bool η) rfl ?_);show aaN _ _ (field (.ref z) 3 >>= _) _ _ _;refine dO (abX hz rfl (x:=.ref Xi) rfl ?_);refine dO (wpAny_seqItems hTI rfl ?_);show aaN _ _ (abQ (.ref z) >>= _) _ _ _;refine dO ?_;unfold abQ;refine dO (abX hz rfl (x:=.none) rfl (rW ?_));simp only [if_true];refine dO (aeM ?_);refine dO (abX hz rfl (x:=.ref Xo) rfl ?_);refine dO (wpAny_setField_rec hz (by simp) fun h₁ I u=>?_)
 replace I:IsZip h₁ z Xi Xo .ellipsis:=I
 replace u:aby z hp h₁:=u
 refine dO ?_;simp only [List.zipIdx_cons,List.zipIdx_nil,List.forIn_cons,List.forIn_nil];refine dO (dO (wpAny_onRaise ?_));show aaN _ _ (abL (.ref i1) >>= _) _ _ _;rcases hend with rfl|⟨l1,rfl⟩
 .refine dO (D1.done ⟨h₁,g,d,tk0,os⟩ _ _ (bS D1 h1 u D.z1) fun h₂ e r he=>?_)
  replace r:afB i1 h₁ h₂:=r
  let ⟨oe,hoe,hce⟩:=he
  have Y:IsZip h₂ z Xi Xo .ellipsis:=r _ _ D.i1z.symm I;have Z:e≠z:=fun x=>by subst x;rw [Y] at hoe;cases hoe;simp at hce
  refine wpAny_setField_rec Y (by simp) fun h₃ _ v=>hE h₃ tk0 e (fun c o c1 _ c3 _ x=>v.extBut _ _ c1 (r _ _ c3 (u.extBut _ _ c1 x))) ⟨oe,v.extBut _ _ Z hoe,hce⟩
 .refine dO (D1.item k ⟨h₁,g,d,tk0,os⟩ _ _ l1 (bS D1 h1 u D.z1) fun x h₂ tk2 px h1₂ r=>rW ?_)
  replace r:aby i1 h₁ h₂:=r
  have J:IsPair h₂ Xo a b:=r.extBut _ _ D.TOi1 (u.extBut _ _ D.TOz hTO);show aaN _ _ _ _ _ ⟨h₂,g,d,tk2,os⟩;refine dO (wpAny_seqItems J rfl ?_);refine dO (wpAny_updateSeq_pair J fun h₃ hTO₃ v=>?_)
  replace v:aby Xo h₂ h₃:=v
  refine dO (wpAny_letGo (rW ?_));refine dO (dO (wpAny_onRaise ?_));show aaN _ _ (abL (.ref i2) >>= _) _ _ _;refine dO (D2.done ⟨h₃,g,d,tk2,os⟩ _ _ (bS D2 (bS D2 (bS D2 h2 u D.z2) r D.i1f) v D.TO2) fun h₄ e C he=>?_)
  replace C:afB i2 h₃ h₄:=C
  let ⟨oe,hoe,hce⟩:=he
  have M:IsZip h₄ z Xi Xo .ellipsis:=C _ _ D.i2z.symm (v.extBut _ _ D.TOz.symm (r.extBut _ _ D.i1z.symm I));have Z:e≠z:=fun x=>by subst x;rw [M] at hoe;cases hoe;simp at hce
  refine wpAny_setField_rec M (by simp) fun h₅ _ L=>hE h₅ tk2 e (fun c o c1 c2 c3 c4 x=>L.extBut _ _ c1 (C _ _ c4 (v.extBut _ _ c2 (r.extBut _ _ c3 (u.extBut _ _ c1 x))))) ⟨oe,L.extBut _ _ Z hoe,hce⟩
end
theorem WalksT.zipD
  (J:Draws prog w A.in1 i1 fp1 n1 P1 St1) (L:Draws prog w A.in1 i2 fp2 n2 P2 St2) (D:ZA z Xi Xo i1 i2 fp1 fp2) (m1:i1∈fp1) (m2:i2∈fp2) :
  WalksT prog w A z (z::Xi::Xo::(fp1++fp2)) [z,Xo,i1,i2] (min n1 n2)
   (fun i M=>∃ x y,P1 i x/\P2 i y/\M=#[x,y])
   (fun i h=>IsZip h z Xi Xo .none/\IsPair h Xi (.ref i1) (.ref i2)/\(∃ a b,IsPair h Xo a b)/\St1 i h/\St2 i h)
   (fun i T h=>IsZip h z Xi Xo (aeJ T)/\IsPair h Xi (.ref i1) (.ref i2)/\(∃ a b,IsPair h Xo a b)/\St1 (i+1) h/\St2 (i+1) h/\T≠z/\T≠Xo/\T≠i1/\T≠i2) where
 sub:=fun c g=>by simp at g ⊢;rcases g with rfl|rfl|rfl|rfl <;> simp [m1,m2]
 frame:=fun i h h' r v=>by
  let ⟨hz,hTI,⟨a,b,hTO⟩,h1,h2⟩:=r
  exact ⟨v z (by simp) _ hz,v Xi (by simp) _ hTI,⟨a,b,v Xo (by simp) _ hTO⟩,J.frame _ _ _ h1 fun b hb o e=>v b (by simp [hb]) o e,L.frame _ _ _ h2 fun b hb o e=>v b (by simp [hb]) o e⟩
 item:=fun i s Q E hi r hQ=>by
  let ⟨hz,hTI,⟨a,b,hTO⟩,h1,h2⟩:=r
  have Y:i < n1:=OR hi (Nat.min_le_left ..);have hiy:i < n2:=OR hi (Nat.min_le_right ..);have C:s.TypeIs (.ref z) "zip":=⟨_,hz,rfl⟩;unfold pyNext;refine dO (afd (abY (name:=IF "__next__") C F.slot_zip_next
   (ab1 F.slot_zip_next C F.entry_zip_next (Cj J L D hz hTI hTO h1 h2 Y hiy fun x y h' Z px py a1 a2 a3 a4 a5 a6 v=>rW ?_) (F.args_zip_next_1 _))))
  have lt:∀ {c o},s.heap.get? c=θ o->s.heap.objs.size≠c:=fun e=>adI (ID e);exact hQ s.heap.objs.size #[x,y] h' Z ⟨_,_,px,py,rfl⟩ (nE _) ⟨_,a5,rfl,_,rfl⟩
   ⟨a1,v _ _ D.TIz D.TITO D.TIi1 D.TIi2 hTI,⟨_,_,a2⟩,a3,a4,lt hz,lt hTO,(by let ⟨_,e⟩:=J.live _ _ h1;exact lt e),(by let ⟨_,e⟩:=L.live _ _ h2;exact lt e)⟩
   fun c o g e=>v c o (fun x=>g (by simp [x])) (fun x=>g (by simp [x])) (fun x=>g (by simp [x])) (fun x=>g (by simp [x])) e
 go:=fun elts k pos i T s Q E hm hQ=>by
  let ⟨hz,hTI,⟨a,b,hTO⟩,h1,h2,_⟩:=hm
  refine wpAny_letOwnedTupleGo_zip hz fun h' hz' u=>hQ h' ⟨hz',u.extBut _ _ D.TIz hTI,⟨a,b,u.extBut _ _ D.TOz hTO⟩,bS J h1 u D.z1,bS L h2 u D.z2⟩ fun c o g e=>u.extBut _ _ (fun x=>g (by simp [x])) e
 apart:=fun i T h hm C=>by
  simp_all
 done:=fun s Q E r hQ=>by
  let ⟨hz,hTI,⟨a,b,hTO⟩,h1,h2⟩:=r
  have I:min n1 n2=n1\/(min n1 n2 < n1/\min n1 n2=n2):=by lia
  have C:s.TypeIs (.ref z) "zip":=⟨_,hz,rfl⟩;refine dO (afd (abY C F.slot_zip_next
   (ab1 F.slot_zip_next C F.entry_zip_next (Hk J L D hz hTI hTO h1 h2 I fun h' Z e v he=>?_) (F.args_zip_next_1 _))))
  let ⟨o,ho,g⟩:=he
  refine dO (wpAny_isInstance ⟨o,ho,g⟩ isSubtype_stop ?_);exact rW (hQ h' Z fun c o g e=>v c o (fun x=>g (by simp [x])) (fun x=>g (by simp [x])) (fun x=>g (by simp [x])) (fun x=>g (by simp [x])) e)
 self:=fun i s Q E r hQ=>wpAny_pyIter_zip r.1 hQ
def pR (a:oR) (o:Obj) (h:acV):Prop:=∀ (prog:abN) (w:abA) (A:acy) (s:DO) (Q:afR) (E:afR),(∀ b u,h.get? b=θ u->s.heap.get? b=θ u)->Q (.ref s.heap.objs.size) { s with heap:=s.heap.push o }->aaN (aaV prog w) A (pyIter a) Q E s
abbrev WO (h:acV) (g r:Obj):acV:=((h.push g).push r).push { cls:=.type "tuple",data:=.seq #[.ref h.objs.size,.ref (h.push g).objs.size] }
abbrev WV (h:acV) (r g:Obj):acV:=(WO h r g).push { cls:=.type "tuple",data:=.seq #[.none,.none] }
abbrev Pa (h:acV) (r g:Obj):acV:=(WV h r g).push { cls:=.type "zip",data:=.fields #[.none,.bool η,.bool η,.ref ((h.push r).push g).objs.size,.ref (WO h r g).objs.size] }
theorem x9 (a b:oR) (r z:Obj) :
  Meets (Builtin.«zip.__new__» ⟨[.type "zip",a,b],[]⟩) (fun _ R s=>pR a r s.heap/\pR b z s.heap/\R (.ok (.ret (.ref (WV s.heap r z).objs.size))) { s with heap:=Pa s.heap r z }) :=
 .of_wp fun prog w A R s h=>by
  obtain ⟨J,g,d,I,os⟩:=s;obtain ⟨v,u,h⟩:=h;have C:=sub_zip;have p1  := fun {A Q E} q=>v prog w A ⟨J,g,d,I,os⟩ Q E (fun _ _ e=>e) q;have p2  := fun {A Q E} q=>u prog w A ⟨J.push r,g,d,I,os⟩ Q E (fun _ _ e=>eQ _ e) q
  wp_walk using p1,p2
  exact ⟨_,rfl,h⟩
section
variable {s:DO}
theorem BR (Z:pR a o1 s.heap) (L:pR b o2 s.heap) (M:o1.isFreed=η) (f2:o2.isFreed=η)
  (h:∀ h',IsZip h' (s.heap.objs.size+4) (s.heap.objs.size+2) (s.heap.objs.size+3) .none->IsPair h' (s.heap.objs.size+2) (.ref s.heap.objs.size) (.ref (s.heap.objs.size+1)) ->
   IsPair h' (s.heap.objs.size+3) .none .none->h'.get? s.heap.objs.size=θ o1->h'.get? (s.heap.objs.size+1)=θ o2->h'.objs.size=s.heap.objs.size+5 ->
   (∀ c o,s.heap.get? c=θ o->h'.get? c=θ o)->Q (.ref (s.heap.objs.size+4)) { s with heap:=h' }) :
  aaN (aaV prog w) A (call (.type "zip") [a,b]) Q E s:=by
 refine callType_new F.called_zip (by decide) (F.typeCall_zip_2 _ _) (F.newCall_zip_2 _ _) (fun v=>F.args_object_init_3 v _ _) F.entry_zip_new
  (x9 a b o1 o2) ⟨Z,L,?_⟩
 have C:(s.heap.push o1).objs.size=s.heap.objs.size+1:=abK ..;have r:((s.heap.push o1).push o2).objs.size=s.heap.objs.size+2:=by rw [abK,C]
 have z:(WO s.heap o1 o2).objs.size=s.heap.objs.size+3:=by rw [abK,r]
 have g:(WV s.heap o1 o2).objs.size=s.heap.objs.size+4:=by rw [abK,z]
 have Y:(Pa s.heap o1 o2).objs.size=s.heap.objs.size+5:=by rw [abK,g]
 have u:(Pa s.heap o1 o2).get? (WV s.heap o1 o2).objs.size=θ _:=Do _ rfl;have J:(Pa s.heap o1 o2).get? (WO s.heap o1 o2).objs.size=θ _:=eQ _ (Do _ rfl);have I:(Pa s.heap o1 o2).get? ((s.heap.push o1).push o2).objs.size=θ _:=eQ _ (eQ _ (Do _ rfl));have g2:(Pa s.heap o1 o2).get? (s.heap.push o1).objs.size=θ o2:=eQ _ (eQ _ (eQ _ (Do _ f2)));have g1:(Pa s.heap o1 o2).get? s.heap.objs.size=θ o1:=eQ _ (eQ _ (eQ _ (eQ _ (Do _ M))));show _/\_;rw [r,z,g] at u;rw [C,r] at I;rw [z] at J;rw [C] at g2;rw [g];exact ⟨⟨_,u,rfl⟩,h _ u I J g1 g2 Y fun c o x =>
  eQ _ (eQ _ (eQ _ (eQ _ (eQ _ x))))⟩
end
theorem vZ (a:oR) (r:Obj) :
  Meets (Builtin.«enumerate.__new__» ⟨[.type "enumerate",a],[]⟩) (fun _ R s=>pR a r s.heap /\
   R (.ok (.ret (.ref (s.heap.push r).objs.size))) { s with heap:=(s.heap.push r).push { cls:=.type "enumerate",data:=.fields #[.none,.bool η,.ref s.heap.objs.size,aeJ 0,.none,.none] } }) :=
 .of_wp fun prog w A R s h=>by
  obtain ⟨z,g,d,C,os⟩:=s;obtain ⟨u,h⟩:=h;have v:=sub_enumerate;have p1  := fun {A Q E} q=>u prog w A ⟨z,g,d,C,os⟩ Q E (fun _ _ e=>e) q
  wp_walk
  refine wpAny_stack_any fun st=>rW ?_;split
  .rename_i c _ _ _ _ _;cases (c==aeb "enumerate")
   .wp_walk using p1
    exact ⟨_,rfl,h⟩
   .wp_walk using p1
    exact ⟨_,rfl,h⟩
  .wp_walk using p1
   exact ⟨_,rfl,h⟩
section
variable {s:DO}
def xp (r:pR a o1 s.heap) (u:o1.isFreed=η)
  (h:∀ h',IsEnum h' (s.heap.objs.size+1) s.heap.objs.size 0 .none->h'.get? s.heap.objs.size=θ o1->h'.objs.size=s.heap.objs.size+2 ->
   (∀ b o,s.heap.get? b=θ o->h'.get? b=θ o)->Q (.ref (s.heap.objs.size+1)) { s with heap:=h' }) :
  aaN (aaV prog w) A (call (.type "enumerate") [a]) Q E s:=by
 refine callType_new F.called_enumerate (by decide) (F.typeCall_enumerate_1 _) (F.newCall_enumerate_1 _) (fun g=>F.args_object_init_2 g _) F.entry_enumerate_new
  (vZ a o1) ⟨r,?_⟩
 have hz:(s.heap.push o1).objs.size=s.heap.objs.size+1:=abK ..;rw [hz];have he  := by
  have:=Do (s.heap.push o1)
   (o:={ cls:=.type "enumerate",data:=.fields #[.none,.bool η,.ref s.heap.objs.size,aeJ 0,.none,.none] }) rfl
  rw [hz] at this;exact this
 refine ⟨⟨_,he,rfl⟩,h _ he (eQ _ (Do _ u)) (by simp_all) fun b o x=>eQ _ (eQ _ x)⟩
end
end L2
namespace L2
open PySem PySem.Spec PyProof.Rows
def Ds {ix:List (Option Nat)} {O:afO} (h:(ix.all fun o=>match o with|some k=>decide (k∉O)|none=>ζ)=ζ):∀ j∈ix,∀ k,j=θ k->k∉O:=fun j g k e=>by
 have:=abF.mp h j g
 simp_all
def zP {σ:St} (I:Inv X af σ H s) (h:H a≠ξ\/∃ o,X.K.lookup a=θ o):¬ eS X af H a:=fun f=>by
 rcases h with h|⟨o,h⟩
 .exact h f.1
 .have e:=I.ok.mod.kin a o h;rcases f.2.2.2.1 with z|z
  .exact I.ok.noex a o e z
  .exact absurd (OR (ID e) (Le I.ok.bsz z)) (acM _)
def yJ (h:Rd H a u):H a≠ξ:=by
 rcases h with h|⟨o,h⟩ <;> rw [h] <;> simp
def yO {K:aT} (h:e8 K H a xs):H a≠ξ\/∃ o,K.lookup a=θ o:=by
 rcases h with h|⟨o,_,_,h,_⟩
 .exact .inl (yJ h)
 .simp_all
def AA {K:aT} (h:g6 K H a xs):H a≠ξ\/∃ o,K.lookup a=θ o:=by
 rcases h with h|⟨o,_,_,h,_⟩
 .exact .inl (yJ h)
 .simp_all
structure Src (K:aT) (B:Hp) (xs:afV) (it:aa3) (S:Nat->acV->Prop):Prop where
 obj:∀ i h,S i h->∃ o,h.get? it=θ o/\∀ v,o.data≠.cell v
 keep:∀ i h h',S i h->(∀ o,h.get? it=θ o->h'.get? it=θ o)->S i h'
 draw:∀ (X:Cx) (af:afQ) (s:DO) (σ:St) (H:Hp),Inv X af σ H s->X.K=K->aw B H->eS X af H it->∀ A:acy,A.handled=ξ->∀ i,S i s.heap ->
  ∃ fp Pv St,Draws X.prog X.w A it fp xs.length Pv St/\St i s.heap/\it∈fp/\(∀ b∈fp,b=it\/¬ eS X af H b)/\(∀ j u,Pv j u->∃ x,xs[j]?=θ x/\aX x u)/\∀ j h,St j h->S j h
theorem src_list {K:aT} (J:e8 K B a xs):Src K B xs it (fun i h=>h.IsListIter it a i) where
 obj:=fun i h ⟨o,e,c,d⟩=>⟨o,e,fun v z=>by grind⟩
 keep:=fun i h h' ⟨o,e,r⟩ k=>⟨o,k o e,r⟩
 draw:=fun X af s σ H I Y C f A hA i st=>by
  subst Y;let ⟨its,rv,pl,hz⟩:=I.list (C.seq J)
  have g:a≠it:=fun z=>zP I (yO (C.seq J)) (z ▸ f);have Z:xs.length=its.toArray.size:=by exact rv.length
  refine ⟨_,_,_,Z ▸ Draws.list hA it a g its.toArray,⟨st,pl.isList⟩,by simp,fun b hb=>?_,fun j u M=>?_,fun j h st=>st.1⟩
  .rcases mK.mp hb with e|hb
   .exact .inl e
   .rw [aaS.mp hb];exact .inr (zP I (yO (C.seq J)))
  .have hu'  := by simpa using M
   have hj  := (aaW.mp hu').1;have L:xs[j]?=θ (xs[j]'(by simp_all)):=by simp_all
   let ⟨u',h1,h2⟩:=rv.get L
   simp_all
theorem src_tuple {K:aT} (J:g6 K B a xs):Src K B xs it (fun i h=>h.IsTupleIter it a i) where
 obj:=fun i h ⟨o,e,c,d⟩=>⟨o,e,fun v z=>by grind⟩
 keep:=fun i h h' ⟨o,e,r⟩ k=>⟨o,k o e,r⟩
 draw:=fun X af s σ H I Y C f A hA i st=>by
  subst Y;let ⟨its,rv,pl,hz⟩:=I.tuple (C.seqT J)
  have g:a≠it:=fun z=>zP I (AA (C.seqT J)) (z ▸ f);have Z:xs.length=its.toArray.size:=by exact rv.length
  refine ⟨_,_,_,Z ▸ wv hA it a g its.toArray,⟨st,pl⟩,by simp,fun b hb=>?_,fun j u M=>?_,fun j h st=>st.1⟩
  .rcases mK.mp hb with e|hb
   .exact .inl e
   .rw [aaS.mp hb];exact .inr (zP I (AA (C.seqT J)))
  .have hu'  := by simpa using M
   have hj  := (aaW.mp hu').1;have L:xs[j]?=θ (xs[j]'(by simp_all)):=by simp_all
   let ⟨u',h1,h2⟩:=rv.get L
   simp_all
def signs_get {j:Nat} (h:∃ c t,z.cps[j]?=θ c/\u=.str ⟨#[c]⟩ t):∃ x,(kH z)[j]?=θ x/\aX x u:=by
 obtain ⟨c,t,h1,rfl⟩:=h;refine ⟨.str ⟨#[c]⟩,?_,⟨t,rfl⟩⟩;simp_all
theorem A8 {K:aT}:Src K B (kH z) it (fun i h=>h.IsStrIter it "str_ascii_iterator" z t i) where
 obj:=fun i h ⟨o,e,c,d⟩=>⟨o,e,fun v z=>by grind⟩
 keep:=fun i h h' ⟨o,e,r⟩ k=>⟨o,k o e,r⟩
 draw:=fun X M s σ H I L J f A hA i st=>by
  have C:(kH z).length=z.cps.size:=by simp
  exact ⟨_,_,_,C ▸ Draws.strAscii hA it z t,st,by simp,fun b hb=>.inl (by simpa using hb),fun j u g=>signs_get g,fun j h st=>st⟩
def E7 {K:aT}:Src K B (kH z) it (fun i h=>h.IsStrIter it "str_iterator" z t i) where
 obj:=fun i h ⟨o,e,c,d⟩=>⟨o,e,fun v z=>by grind⟩
 keep:=fun i h h' ⟨o,e,r⟩ k=>⟨o,k o e,r⟩
 draw:=fun X M s σ H I L J f A hA i st=>by
  have C:(kH z).length=z.cps.size:=by simp
  exact ⟨_,_,_,C ▸ Draws.strWide hA it z t,st,by simp,fun b hb=>.inl (by simpa using hb),fun j u g=>signs_get g,fun j h st=>st⟩
def Tp (K:aT) (H:Hp) (x:V) (xs:afV):Prop:=(∃ z,x=.str z/\xs=kH z)\/(∃ a,x=.ref a/\e8 K H a xs)\/∃ a,x=.ref a/\g6 K H a xs
theorem yn {σ:St} (I:Inv X af σ H s) (r:aX x u) (C:aw B H) (h:Tp X.K B x xs) :
  ∃ (o:Obj) (S:aa3->Nat->acV->Prop),pR u o s.heap/\o.isFreed=η/\(∀ it h,h.get? it=θ o->S it 0 h)/\∀ it,Src X.K B xs it (S it):=by
 rcases h with ⟨z,rfl,rfl⟩|⟨a,rfl,g⟩|⟨a,rfl,g⟩
 .obtain ⟨t,rfl⟩:=r;cases ha:z.cps.all (· < 128)
  .exact ⟨{ cls:=.type "str_iterator",data:=.fields #[.str z t,.int 0 0] },fun it i h=>h.IsStrIter it "str_iterator" z t i,fun prog w A s Q E _ q=>wpAny_pyIter_wide ha q,rfl,fun it h e=>⟨_,e,rfl,rfl⟩,fun it=>E7⟩
  .exact ⟨{ cls:=.type "str_ascii_iterator",data:=.fields #[.str z t,.int 0 0] },fun it i h=>h.IsStrIter it "str_ascii_iterator" z t i,fun prog w A s Q E _ q=>wpAny_pyIter_ascii ha q,rfl,fun it h e=>⟨_,e,rfl,rfl⟩,fun it=>A8⟩
 .cases r;obtain ⟨its,J,v,hz⟩:=I.list (C.seq g);exact ⟨{ cls:=.type "list_iterator",data:=.fields #[.ref a,.int 0 0] },fun it i h=>h.IsListIter it a i,fun prog w A s Q E k q=>wpAny_pyIter_list (v.keeps k).isList q,rfl,fun it h e=>⟨_,e,rfl,rfl⟩,fun it=>src_list g⟩
 .cases r;let ⟨its,J,v,hz⟩:=I.tuple (C.seqT g)
  refine ⟨{ cls:=.type "tuple_iterator",data:=.fields #[.ref a,.int 0 0] },fun it i h=>h.IsTupleIter it a i,fun prog w A s Q E k q=>?_,rfl,fun it h e=>⟨_,e,rfl,rfl⟩,fun it=>src_tuple g⟩;let ⟨o,e,r⟩:=v
  exact wpAny_pyIter_tuple ⟨o,k _ _ e,r⟩ q
theorem Inv.turnedT {σ:St} {ch:afT} {T:aa3} (I:Inv X af σ H s) (g:∀ b∈ch,eS X af H b) (k:∀ b o,b∉ch->s.heap.get? b=θ o->h'.get? b=θ o) (L:s.heap.objs.size<=T)
  (hl:ys.length<=RW) (Z:ba ys us) (J:afo h' T us.toArray) (ht:X.tn<=t':=by walk_at "tok"):Inv X af σ (upd H T (.tup ys)) { s with heap:=h',toks:=t' }:=by
 have hn  := I.hok.fresh L;have Y:∀ b u,H b=θ u->b∉ch:=fun b u e z=>by rw [(g b z).1] at e;cases e
 refine I.step (fun b hb=>⟨(g b hb).2.2.2.1,(g b hb).2.1,(g b hb).2.2.2.2.1,(g b hb).2.2.2.2.2⟩) (fun b o _ _ C e _=>k b o C e) (fun b o _ _ C e _=>⟨o.slots,k b o C e⟩) (fun b o _ e n=>?_)
  (fun b o C e=>⟨o,k b o C e⟩) (fun b xs e=>?_) (fun b o u e=>?_) (fun b ps e=>?_) (fun m M=>?_) (fun b u e=>?_) I.bare
 .rw [aF (aa0 (OR (ID e) L))];exact n
 .rw [aF (bf e hn)];exact e
 .rw [aF (bf e hn)];exact e
 .rw [aF (bf e hn)];exact e
 .let ⟨o,es,ep,ho,r⟩:=M
  exact ⟨o,es,ep,k _ o (fun z=>(g _ z).2.1 rfl) ho,r⟩
 .by_cases hb:b=T
  .subst hb;rw [aK] at e;cases e;exact ⟨hl,us,Z,J⟩
  .rw [aF hb] at e;refine (I.hok b u e).stay (fun c v C q=>k c v ?_ q) (fun c q=>by rw [aF (bf q hn)];exact q) fun c xs q=>⟨by rw [aF (bf q.1 hn)];exact q.1,q.2⟩
   grind
def Gf (B:Hp) (n:Nat) (g:Nat->V->V->Prop):It :=
 ⟨fun i H=>aw B H/\i < n,fun i H v H'=>∃ p x y,H p=ξ/\H'=upd H p (.tup [x,y])/\v=.ref p/\g i x y,fun i H=>aw B H/\i=n⟩
theorem GV {K:aT} {z TI TO J C:aa3} (s1:Src K B xs J S1) (s2:Src K B ys C S2) (nd:[z,TI,TO,J,C].Nodup) :
    Turn P w K (.Tuple elts k pos) (Gf B (min xs.length ys.length) fun i x y=>xs[i]?=θ x/\ys[i]?=θ y) [z,TI,TO,J,C] z
      (fun i h=>IsZip h z TI TO .none/\IsPair h TI (.ref J) (.ref C)/\(∃ a b,IsPair h TO a b)/\S1 i h/\S2 i h):=by
  simp only [aa4,mK,abj,or_false,not_or,abG,and_true,not_false_eq_true] at nd;obtain ⟨⟨zTI,zTO,zi1,zi2⟩,⟨TITO,TIi1,TIi2⟩,⟨TOi1,TOi2⟩,i12⟩:=nd;have za:∀ {X:Cx} {Y:afQ} {H:Hp} {M fp2:afT},(∀ b∈[z,TI,TO,J,C],eS X Y H b)->(∀ b∈M,b=J\/¬ eS X Y H b)->(∀ b∈fp2,b=C\/¬ eS X Y H b)->ZA z TI TO J C M fp2:=fun {X Y H M fp2} g h1 h2 =>
    { TIz:=acR zTI,TOz:=acR zTO,TITO:=TITO,TIi1:=TIi1,TIi2:=TIi2,TOi1:=TOi1,TOi2:=TOi2,i1z:=acR zi1,i2z:=acR zi2,i12:=i12,
      z1:=fun m=>(h1 z m).elim zi1 fun q=>q (g z (by simp)),z2:=fun m=>(h2 z m).elim zi2 fun q=>q (g z (by simp)),TO1:=fun m=>(h1 TO m).elim TOi1 fun q=>q (g TO (by simp)),TO2:=fun m=>(h2 TO m).elim TOi2 fun q=>q (g TO (by simp)),
      i1f:=fun m=>(h2 J m).elim i12 fun q=>q (g J (by simp)),i2f:=fun m=>(h1 C m).elim (acR i12) fun q=>q (g C (by simp)) }
  refine ⟨by simp,fun i h st b hb=>?_,fun i h h' st L=>?_,?_,?_,fun A i s Q E st q=>wpAny_pyIter_zip st.1 q⟩
  . let ⟨hz,hTI,⟨a,b',hTO⟩,h1,h2⟩:=st
    simp only [mK,abj,or_false] at hb;rcases hb with rfl|rfl|rfl|rfl|rfl
    . exact ⟨_,hz,fun v q=>by cases q⟩
    . exact ⟨_,hTI,fun v q=>by cases q⟩
    . exact ⟨_,hTO,fun v q=>by cases q⟩
    . exact s1.obj i h h1
    . exact s2.obj i h h2
  . let ⟨hz,hTI,⟨a,b',hTO⟩,h1,h2⟩:=st
    exact ⟨L z (by simp) _ hz,L TI (by simp) _ hTI,⟨a,b',L TO (by simp) _ hTO⟩,s1.keep i h h' h1 fun o e=>L J (by simp) o e,s2.keep i h h' h2 fun o e=>L C (by simp) o e⟩
  . intro X hP hw hK Z i Y s σ H E I g st hg;subst hP hw;let ⟨hz,hTI,hTO,h1,h2⟩:=st
    let ⟨sB,hi⟩:=hg
    have hh:X.A.in1.handled=ξ:=I.ok.hd Z;let ⟨M,P1,St1,D1,st1,m1,n1,p1,b1⟩:=s1.draw X Y s σ H I hK sB (g J (by simp)) X.A.in1 hh i h1
    let ⟨fp2,P2,St2,D2,st2,m2,n2,p2,b2⟩:=s2.draw X Y s σ H I hK sB (g C (by simp)) X.A.in1 hh i h2
    have W:=WalksT.zipD D1 D2 (za g n1 n2) m1 m2;refine aW I.tk (W.item i s _ _ hi ⟨hz,hTI,hTO,st1,st2⟩ fun T vals h' tk pt hT isT mid k1 htk=>⟨.ref T,rfl,W.go elts k pos i T { s with heap:=h',toks:=tk } _ _ mid fun h'' st'' k2=>?_⟩);obtain ⟨u1,u2,q1,q2,rfl⟩:=pt;let ⟨x,hx,rx⟩:=p1 i u1 q1
    let ⟨y,hy,ry⟩:=p2 i u2 q2
    let ⟨hz',hTI',hTO',st1',st2'⟩:=st''
    have L:∀ b o,b∉[z,TO,J,C]->s.heap.get? b=θ o->h''.get? b=θ o:=fun b o hb e=>k2 b o hb (k1 b o hb e);have hTn:H T=ξ:=I.hok.fresh hT;have lt:∀ {b o},s.heap.get? b=θ o->b≠T:=fun e=>aa0 (OR (ID e) hT);have isT':afo h'' T [u1,u2].toArray:=by
      let ⟨o,e,r⟩:=isT
      exact ⟨o,k2 T o (W.apart i T _ mid) e,r⟩
    refine ⟨.ref T,upd H T (.tup [x,y]),I.turnedT (t':=tk) (ch:=[z,TO,J,C]) (fun b hb=>g b (by simp only [mK,abj,or_false] at hb ⊢;rcases hb with h|h|h|h <;> simp [h])) L hT (by show 2<=RW;decide) (.cons rx (.cons ry .nil)) isT',rfl,⟨T,x,y,hTn,rfl,rfl,hx,hy⟩,
      ⟨hz',hTI',hTO',b1 _ _ st1',b2 _ _ st2'⟩,fun b hb=>?_⟩
    have hbT:b≠T:=by
      simp only [mK,abj,or_false] at hb;rcases hb with rfl|rfl|rfl|rfl|rfl
      . exact lt hz
      . exact lt hTI
      . let ⟨_,_,e⟩:=hTO;exact lt e
      . let ⟨_,e,_⟩:=s1.obj _ _ h1;exact lt e
      . let ⟨_,e,_⟩:=s2.obj _ _ h2;exact lt e
    rw [aF hbT];exact (g b hb).1
  . intro X hP hw hK Z i Y s σ H E I g st hg;subst hP hw;let ⟨hz,hTI,hTO,h1,h2⟩:=st
    let ⟨sB,hi⟩:=hg
    have hh:X.A.in1.handled=ξ:=I.ok.hd Z;let ⟨M,P1,St1,D1,st1,m1,n1,p1,b1⟩:=s1.draw X Y s σ H I hK sB (g J (by simp)) X.A.in1 hh i h1
    let ⟨fp2,P2,St2,D2,st2,m2,n2,p2,b2⟩:=s2.draw X Y s σ H I hK sB (g C (by simp)) X.A.in1 hh i h2
    have W:=WalksT.zipD D1 D2 (za g n1 n2) m1 m2;subst hi;refine aW I.tk (W.done s _ _ ⟨hz,hTI,hTO,st1,st2⟩ fun h' tk L htk=>⟨rfl,?_⟩)
    have nch:∀ b u,H b=θ u->b∉[z,TO,J,C]:=fun b u e q=>by
      have:=(g b (by simp only [mK,abj,or_false] at q ⊢;rcases q with h|h|h|h <;> simp [h])).1
      rw [this] at e;cases e
    refine I.step (g':=s.gens) (d':=s.drawn) (ch:=[z,TO,J,C]) (fun b hb=>?_) (fun b o _ _ Z e _=>L b o Z e) (fun b o _ _ Z e _=>⟨o.slots,L b o Z e⟩) (fun _ _ _ _ n=>n)
      (fun b o Z e=>⟨o,L b o Z e⟩) (fun _ _ e=>e) (fun _ _ _ e=>e) (fun _ _ e=>e) (fun m hm=>?_) (fun b u e=>?_) I.bare
    . have f:=g b (by simp only [mK,abj,or_false] at hb ⊢;rcases hb with h|h|h|h <;> simp [h]);exact ⟨f.2.2.2.1,f.2.1,f.2.2.2.2.1,f.2.2.2.2.2⟩
    . let ⟨o,es,ep,ho,r⟩:=hm
      refine ⟨o,es,ep,L _ o (fun q=>?_) ho,r⟩;exact (g _ (by simp only [mK,abj,or_false] at q ⊢;rcases q with h|h|h|h <;> simp [h])).2.1 rfl
    . refine (I.hok b u e).stay (fun c v Z q=>L c v ?_ q) (fun _ q=>q) fun _ _ q=>q
      grind
theorem Bm {K:aT} (s1:Src K B xs it S) (ne:e≠it) :
  Turn P w K (.Tuple elts k pos) (Gf B xs.length fun i x y=>x=.int (i:Int)/\xs[i]?=θ y) [e,it] e (fun i h=>(∃ C,IsEnum h e it (i:Int) C)/\S i h):=by
 have nof:∀ {X:Cx} {Y:afQ} {H:Hp} {fp:afT},(∀ b∈[e,it],eS X Y H b)->(∀ b∈fp,b=it\/¬ eS X Y H b)->e∉fp:=fun g h1 m=>(h1 e m).elim ne fun q=>q (g e (by simp));refine ⟨by simp,fun i h st b hb=>?_,fun i h h' st J=>?_,?_,?_,fun A i s Q E st q=>let ⟨⟨C,he⟩,_⟩:=st;wpAny_pyIter_enum he q⟩
 .let ⟨⟨C,he⟩,h1⟩:=st
  simp only [mK,abj,or_false] at hb;rcases hb with rfl|rfl
  .exact ⟨_,he,fun v q=>by cases q⟩
  .exact s1.obj i h h1
 .let ⟨⟨C,he⟩,h1⟩:=st
  exact ⟨⟨C,J e (by simp) _ he⟩,s1.keep i h h' h1 fun o q=>J it (by simp) o q⟩
 .intro X hP hw hK L i Y s σ H E I g st hg;subst hP hw;let ⟨he,h1⟩:=st
  let ⟨sB,hi⟩:=hg
  have hh:X.A.in1.handled=ξ:=I.ok.hd L;obtain ⟨fp1,P1,St1,D1,M,m1,n1,p1,b1⟩:=s1.draw X Y s σ H I hK sB (g it (by simp)) X.A.in1 hh i h1;have W:=afl D1 e ne (nof g n1) m1;refine aW I.tk (W.item i s _ _ hi ⟨he,M⟩ fun T vals h' tk pt hT isT mid k1 htk=>⟨.ref T,rfl,W.go elts k pos i T { s with heap:=h',toks:=tk } _ _ mid fun h'' st'' k2=>?_⟩);obtain ⟨t,u2,q2,rfl⟩:=pt;let ⟨y,hy,ry⟩:=p1 i u2 q2
  let ⟨he',st1'⟩:=st''
  have J:∀ b o,b∉[e,it]->s.heap.get? b=θ o->h''.get? b=θ o:=fun b o hb q=>k2 b o hb (k1 b o hb q);have hTn:H T=ξ:=I.hok.fresh hT;have lt:∀ {b o},s.heap.get? b=θ o->b≠T:=fun q=>aa0 (OR (ID q) hT);have Z:afo h'' T [.int i t,u2].toArray:=by
   let ⟨o,q,r⟩:=isT
   exact ⟨o,k2 T o (W.apart i T _ mid) q,r⟩
  refine ⟨.ref T,upd H T (.tup [.int (i:Int),y]),I.turnedT (t':=tk) (ch:=[e,it]) g J hT (by show 2<=RW;decide) (.cons ⟨t,rfl⟩ (.cons ry .nil)) Z,rfl,⟨T,_,y,hTn,rfl,rfl,rfl,hy⟩,⟨he',b1 _ _ st1'⟩,fun b hb=>?_⟩;have hbT:b≠T:=by
   simp only [mK,abj,or_false] at hb;rcases hb with rfl|rfl
   .let ⟨_,q⟩:=he;exact lt q
   .let ⟨_,q,_⟩:=s1.obj _ _ h1;exact lt q
  rw [aF hbT];exact (g b hb).1
 .intro X hP hw hK L i Y s σ H E I g st hg;subst hP hw;let ⟨he,h1⟩:=st
  let ⟨sB,hi⟩:=hg
  have hh:X.A.in1.handled=ξ:=I.ok.hd L;obtain ⟨fp1,P1,St1,D1,M,m1,n1,p1,b1⟩:=s1.draw X Y s σ H I hK sB (g it (by simp)) X.A.in1 hh i h1;have W:=afl D1 e ne (nof g n1) m1;subst hi;refine aW I.tk (W.done s _ _ ⟨he,M⟩ fun h' tk J htk=>⟨rfl,?_⟩);have nch:∀ b u,H b=θ u->b∉[e,it]:=fun b u q m=>by
   have:=(g b m).1
   rw [this] at q;cases q
  refine I.step (g':=s.gens) (d':=s.drawn) (ch:=[e,it]) (fun b hb=>?_) (fun b o _ _ L q _=>J b o L q) (fun b o _ _ L q _=>⟨o.slots,J b o L q⟩) (fun _ _ _ _ n=>n)
   (fun b o L q=>⟨o,J b o L q⟩) (fun _ _ q=>q) (fun _ _ _ q=>q) (fun _ _ e=>e) (fun m hm=>?_) (fun b u q=>?_) I.bare
  .have f:=g b hb;exact ⟨f.2.2.2.1,f.2.1,f.2.2.2.2.1,f.2.2.2.2.2⟩
  .let ⟨o,es,ep,ho,r⟩:=hm
   exact ⟨o,es,ep,J _ o (fun q=>(g _ q).2.1 rfl) ho,r⟩
  .refine (I.hok b u q).stay (fun c v L z=>J c v ?_ z) (fun _ z=>z) fun _ _ z=>z
   grind
def qk {K:aT} (hn:n=zs.length) (h:∀ i x y,i < n->Pv i x y->∃ u r,zs[i]?=θ (.tup [u,r])/\b9 K (aD as0 B) u x/\b9 K (aD as0 B) r y):GivesD K as0 B (Gf (aD as0 B) n Pv) zs where
 go:=fun i H s g=>⟨s,by rw [hn];exact g⟩
 yl:=fun i H v H2 M s hM hM2 g ⟨p,x,y,hp,e,ev,hv⟩=>by
  subst e ev;let ⟨u,r,e1,d1,d2⟩:=h i x y (by rw [hn];exact g) hv
  have hpM  := fun z=>hM p z hp;have C:aw (aD as0 B) (aD M (upd H p (.tup [x,y]))):=(gH s hM2).trans (aJ (aR hp _));exact ⟨aR hp _,_,e1,p,[x,y],rfl,.inl (.inl (by rw [aV hpM];exact aK)),aN.cons (d1.mono C) (aN.cons (d2.mono C) aN.nil)⟩
 stop:=fun H s=>⟨s,hn.symm⟩
theorem tW {K:aT} (h:b9 K H d v) (e:fg d=.ok xs):∃ vs,Tp K H v vs/\aN K H xs vs:=by
 cases d with
 | lst ds=>cases e;obtain ⟨a,vs,rfl,u,g⟩:=h;exact ⟨vs,.inr (.inl ⟨a,rfl,u⟩),g⟩
 | tup ds=>cases e;obtain ⟨a,vs,rfl,u,g⟩:=h;exact ⟨vs,.inr (.inr ⟨a,rfl,u⟩),g⟩
 | str z =>
  cases e;cases h;refine ⟨kH z,.inl ⟨z,rfl,rfl⟩,?_⟩;show aN K H (z.cps.toList.map fun c=>D.str ⟨#[c]⟩) (z.cps.toList.map fun c=>V.str ⟨#[c]⟩);generalize z.cps.toList=cs;induction cs with
  | nil=>exact rfl
  | cons c r C=>exact ⟨_,_,rfl,rfl,C⟩
 | _=>cases e
def g7 (xs ys:afW):afW:=List.zipWith (fun x y=>D.tup [x,y]) xs ys
def B8 (ds:afW):R (afW):=match ds with
 | [a,b]=>(fg a).bind fun xs=>(fg b).bind fun ys=>.ok (g7 xs ys)
 | _=>.no
def DS (α:FA):FA:=fun U=>(α U).bind B8
def bn:Nat->afW->afW
 | _,[]=>[]
 | n,x::r=>.tup [.int (n:Int),x]::bn (n+1) r
theorem i0:∀ (n:Nat) (xs:afW),(bn n xs).length=xs.length
 | _,[]=>rfl
 | n,x::r=>by unfold bn;simp [i0 (n+1) r]
theorem mh:∀ (n:Nat) (xs:afW) (i:Nat),(bn n xs)[i]?=xs[i]?.map fun x=>.tup [.int ((n+i:Nat):Int),x]
 | _,[],i=>by simp [bn]
 | n,x::r,0=>by simp [bn]
 | n,x::r,i+1=>by
  unfold bn;rw [List.getElem?_cons_succ,mh (n+1) r i]
  grind
def wl (ds:afW):R (afW):=match ds with
 | [a]=>(fg a).bind fun xs=>.ok (bn 0 xs)
 | _=>.no
def bL (α:FA):FA:=fun U=>(α U).bind wl
section
variable {elts:List abu} {k:Nat} {p pos tpos:Pos}
theorem QR (hm:X.mg "zip"=ξ) (ha:JA X [a,b] (qZ W O α)) (hg:Gl X "zip":=by rfl) (h1:aI a=ζ:=by rfl) (h2:aI b=ζ:=by rfl) (hW:W.K=X.K:=by rfl) :
  JI X (.Tuple elts k tpos) (.Call (.Name "zip" p) [a,b] [] pos) (iD W O (DS α)):=⟨fun af s σ H R I ⟨as0,B,own,U,DIh,h⟩=>by
 refine abm (g8 I hg hm Pb ?_ (by decide) (by decide));refine abU (bT (ha.out pos af s σ H (fun vs H1=>aw H H1/\∃ ds,aN W.K (aD (own++as0) H1) ds vs/\fZ W as0 own H1 (B8 ds) R) I ⟨as0,B,own,U,DIh,jN h fun ds vs H1 r d1 g=>⟨r,ds,d1,g⟩⟩) fun us r hh=>ji hh fun vs H1 C r1 L=>?_) (bH h1) (cK (by rw [abO,h2];rfl));let ⟨sH,ds,dv,g⟩:=L
 unfold B8 at g;split at g
 .rename_i da db;obtain ⟨va,vb,rfl,v,u⟩:=MR dv;cases e1:fg da with
  | no=>rw [e1] at g;exact g.elim
  | er x=>cases da <;> cases e1
  | ok xs =>
   rw [e1] at g;have g:fZ W as0 own H1 ((fg db).bind fun ys=>.ok (g7 xs ys)) R:=g;cases e2:fg db with
   | no=>rw [e2] at g;exact g.elim
   | er x=>cases db <;> cases e2
   | ok ys =>
    rw [e2] at g;have g:∀ J H',aw H1 H'->GivesD W.K as0 (aD own H') J (g7 xs ys)->R J H':=g;obtain ⟨u1,u2,rfl,ru1,M⟩:=My r1;rw [iH] at v u;let ⟨xv,sv1,dn1⟩:=tW v e1
    let ⟨yv,sv2,dn2⟩:=tW u e2
    rw [hW] at sv1 sv2 dn1 dn2;have sB:aw (aD as0 (aD own H1)) H1:=(ar _ _).trans (ar _ _);let ⟨o1,S1,it1,fr1,st1,src1⟩:=yn C ru1 sB sv1
    let ⟨o2,S2,it2,fr2,st2,src2⟩:=yn C M sB sv2
    refine BR it1 it2 fr1 fr2 fun h' hz Z Y g1 g2 hsz kp=>?_;refine wpAny_pyIter_zip hz ?_;have nw:∀ j,j < 5->H1 (r.heap.objs.size+j)=ξ:=fun j _=>C.hok.fresh (adh _ _);refine ⟨r.heap.objs.size+4,_,_,_,H1,rfl,C.kept (t':=r.toks) kp,GV (P:=X.prog) (w:=X.w) (src1 r.heap.objs.size) (src2 (r.heap.objs.size+1)) (z:=r.heap.objs.size+4) (TI:=r.heap.objs.size+2) (TO:=r.heap.objs.size+3) ?_,⟨hz,Z,⟨_,_,Y⟩,st1 _ _ g1,st2 _ _ g2⟩,fun b hb=>?_,g _ H1 (aw.refl _) ?_⟩
    .simp only [aa4,mK,abj,or_false,not_or,abG,and_true,not_false_eq_true];refine ⟨⟨?_,?_,?_,?_⟩,⟨?_,?_,?_⟩,⟨?_,?_⟩,?_⟩ <;> (intro q;have q':(_:Nat)=_:=q;lia)
    .have hb':r.heap.objs.size<=b:=by
      simp only [mK,abj,or_false] at hb;rcases hb with rfl|rfl|rfl|rfl|rfl <;> first|exact adh _ _|exact nE _
     exact C.fpOk hb' (C.hok.fresh hb')
    .rw [hW];refine qk ?_ fun i x y hi hv=>?_
     .unfold g7;rw [List.length_zipWith,dn1.len,dn2.len]
     .let ⟨dx,L,q2⟩:=dn1.got hv.1
      let ⟨dy,q3,q4⟩:=dn2.got hv.2
      refine ⟨dx,dy,?_,q2,q4⟩;unfold g7;rw [List.getElem?_zipWith,L,q3]
 .exact g.elim⟩
theorem uA (Y:X.mg "enumerate"=ξ) (ha:JA X [a] (qZ W O α)) (hg:Gl X "enumerate":=by rfl) (h1:aI a=ζ:=by rfl) (hW:W.K=X.K:=by rfl) :
  JI X (.Tuple elts k tpos) (.Call (.Name "enumerate" p) [a] [] pos) (iD W O (bL α)):=⟨fun af s σ H R I ⟨as0,B,own,U,DIh,h⟩=>by
 refine abm (g8 I hg Y uK ?_ (by decide) (by decide));refine abU (bT (ha.out pos af s σ H (fun vs H1=>aw H H1/\∃ ds,aN W.K (aD (own++as0) H1) ds vs/\fZ W as0 own H1 (wl ds) R) I ⟨as0,B,own,U,DIh,jN h fun ds vs H1 u d1 g=>⟨u,ds,d1,g⟩⟩) fun us u Z=>ji Z fun vs H1 v r1 M=>?_) (bH h1) rfl;let ⟨sH,ds,dv,g⟩:=M
 unfold wl at g;split at g
 .rename_i da;obtain ⟨va,rfl,r⟩:=eU dv;cases e1:fg da with
  | no=>rw [e1] at g;exact g.elim
  | er x=>cases da <;> cases e1
  | ok xs =>
   rw [e1] at g;have g:∀ J H',aw H1 H'->GivesD W.K as0 (aD own H') J (bn 0 xs)->R J H':=g;obtain ⟨u1,rfl,z⟩:=gG r1;rw [iH] at r;let ⟨xv,sv1,dn1⟩:=tW r e1
   rw [hW] at sv1 dn1;have sB:aw (aD as0 (aD own H1)) H1:=(ar _ _).trans (ar _ _);let ⟨o1,S1,it1,fr1,st1,src1⟩:=yn v z sB sv1
   refine xp it1 fr1 fun h' L g1 hsz kp=>?_;refine wpAny_pyIter_enum L ?_;refine ⟨u.heap.objs.size+1,_,_,_,H1,rfl,v.kept (t':=u.toks) kp,Bm (P:=X.prog) (w:=X.w) (src1 u.heap.objs.size) (e:=u.heap.objs.size+1) (Nat.succ_ne_self _),⟨⟨_,L⟩,st1 _ _ g1⟩,fun b hb=>?_,g _ H1 (aw.refl _) ?_⟩
   .have hb':u.heap.objs.size<=b:=by
     simp only [mK,abj,or_false] at hb;rcases hb with rfl|rfl <;> first|exact adh _ _|exact nE _
    exact v.fpOk hb' (v.hok.fresh hb')
   .rw [hW];refine qk ?_ fun i x y hi C=>?_
    .rw [i0,dn1.len]
    .obtain ⟨rfl,C⟩:=C;let ⟨dy,q3,q4⟩:=dn1.got C
     refine ⟨.int i,dy,?_,rfl,q4⟩;rw [mh,q3,adL];rfl
 .exact g.elim⟩
end
def CH (K:aT) (F:afW->R D):Sp:=fun vs H Q E=>∀ mg,rS K mg F vs H Q E
def KU {K:aT} {C:acE->Prop}
  (h:∃ g:acE,C g/\∀ base:acV,K.In base->base.Ns aaR mg->FnOk P w K mg base gN k fa g ps (rS K mg F)) :
  ∃ g:acE,C g/\∀ base:acV,K.In base->base.Ns aaR mg->FnOk P w K mg base gN k fa g ps (CH K F):=by
 obtain ⟨g,h1,h2⟩:=h;exact ⟨g,h1,fun base r u=>(h2 base r u).imp fun vs H Q E q=>q mg⟩
def J8 {K:aT} {g:List Int} (r:e8 K H a (g.map V.int)) (h:F [.lst (g.map D.int)]=.ok (.bl ζ)) (q:∀ H',Q (.bl ζ) H'):CH K F [.ref a] H Q E :=
 fun mg=>Q2 r h q
def fin (r:R Fl):R D:=r.bind fun f=>match f with
 | .rt d=>.ok d
 | .rn d=>.ok d
 | .nx _=>.ok .non
 | _=>.no
section
variable {U:Sd} {d e:D} {x y:Str} {i j:Int} {b c:Bool} {φ ψ:FE} {τ υ:FT} {α:FA} {S T:FS}
def Tu (T:FS) (f:Fl):R Fl:=match f with
 | .nx δ'=>T δ'
 | f=>.ok f
def L4:ao S T U=(S U).bind (Tu T):=by
 rfl
def N9:Tu T (.nx U)=T U:=rfl
def Zs (d:D):R Fl:=.ok (.rt d)
def Wk:aM φ U=(φ U).bind Zs:=rfl
def aab (S T:FS) (U:Sd) (b:Bool):R Fl:=if b=ζ then S U else T U
def WI:bz τ S T U=(τ U).bind (aab S T U):=rfl
def TL:aab S T U b=if b=ζ then S U else T U:=rfl
def Zk (k:Nat) (U:Sd) (d:D):R Fl:=.ok (.nx (U.set k (θ d)))
def VQ:az k φ U=(φ U).bind (Zk k U):=rfl
def Uf (k:Nat) (U:Sd) (d:D):R Fl:=if k < U.length then .ok (.nx (U.set k (θ d))) else .no
def SN:ff k φ U=(φ U).bind (Uf k U):=rfl
def R9:Uf k U d=if k < U.length then .ok (.nx (U.set k (θ d))) else .no:=rfl
def S9 (t:TgD) (S:FS) (U:Sd) (xs:afW):R Fl:=cc t S xs U
def LQ:fK α t S U=(α U).bind (S9 t S U):=rfl
def Mi:S9 t S U xs=cc t S xs U:=rfl
def D5 (t:TgD) (S:FS) (r:afW) (f:Fl):R Fl:=match f with
 | .nx δ2=>cc t S r δ2
 | .ct δ2=>cc t S r δ2
 | .bk δ2=>.ok (.nx δ2)
 | .rt d=>.ok (.rt d)
 | .rn d=>.ok (.rn d)
def LZ (t:TgD) (S:FS) (r:afW) (g:Sd):R Fl:=(S g).bind (D5 t S r)
def wq:cc t S (d::r) U=(dJ t d U).bind (LZ t S r):=by
 rfl
def Fg:LZ t S r U=(S U).bind (D5 t S r):=rfl
def zR:D5 t S r (.nx U)=cc t S r U:=rfl
def Sx (r:R Fl):R D:=r.bind fun f=>match f with
 | .rn d=>.ok d
 | _=>.no
def R5 (d:D):R Fl:=.ok (.rn d)
def Nm:ql φ U=(φ U).bind R5:=rfl
def Cd:dJ (.tup [k,l]) (.tup [d,e]) U=.ok ((U.set k (θ d)).set l (θ e)):=rfl
def ZE (op:D->D->R D) (ψ:FE) (U:Sd) (x:D):R D:=(ψ U).bind (op x)
def Xb:ak op φ ψ U=(φ U).bind (ZE op ψ U):=rfl
def Ze:ZE op ψ U d=(ψ U).bind (op d):=rfl
def YY (d:D):R D:=HF d fun b=>.ok (.bl (!b))
def v_not:Ca φ U=(φ U).bind YY:=rfl
def SV (ψ:FE) (U:Sd) (d:D):R D:=HF d fun b=>if b=ζ then ψ U else .ok (.bl η)
def v_and:ga φ ψ U=(φ U).bind (SV ψ U):=rfl
def UH:SV ψ U (.bl b)=if b=ζ then ψ U else .ok (.bl η):=rfl
def aac (ψ:FE) (U:Sd) (d:D):R D:=HF d fun b=>if b=ζ then .ok (.bl ζ) else ψ U
def v_or:CM φ ψ U=(φ U).bind (aac ψ U):=rfl
def XD:aac ψ U (.bl b)=if b=ζ then .ok (.bl ζ) else ψ U:=rfl
def blK (d:D):R Bool:=HF d .ok
def YI:aZ φ U=(φ U).bind blK:=rfl
def TD:cx φ U=(φ U).bind M8:=rfl
def ME (υ:FT) (U:Sd) (b:Bool):R Bool:=if b=ζ then υ U else .ok η
def Mc:dc τ υ U=(τ U).bind (ME υ U):=rfl
def N4:ME υ U b=if b=ζ then υ U else .ok η:=rfl
def Uy (υ:FT) (U:Sd) (b:Bool):R Bool:=if b=ζ then .ok ζ else υ U
def Nz:kQ τ υ U=(τ U).bind (Uy υ U):=rfl
def RA:Uy υ U b=if b=ζ then .ok ζ else υ U:=rfl
def Ub (b:Bool):R Bool:=.ok (!b)
def Vr:d6 τ U=(τ U).bind Ub:=rfl
def VB (φ ψ:FE) (U:Sd) (b:Bool):R D:=if b=ζ then φ U else ψ U
def L0:Je τ φ ψ U=(τ U).bind (VB φ ψ U):=rfl
def MG:VB φ ψ U b=if b=ζ then φ U else ψ U:=rfl
def SS:bE α U=(α U).bind vy:=rfl
def UN:aO α U=(α U).bind zw:=rfl
def Qh:vy ds=if ds.length<=1000000 then .ok (.lst ds) else .no:=rfl
def QX:zw ds=if ds.length<=1000000 then .ok (.tup ds) else .no:=rfl
def Qj:aj g α U=(α U).bind g:=rfl
def oK (d:D):R (Option Int):=match d with
 | .int i=>.ok (θ i)
 | _=>.no
def Nr:bI φ U=(φ U).bind oK:=rfl
def NP (g:D->Option Int->Option Int->R D) (d:D) (lo r:Option Int):R D:=g d lo r
def QQ (g:D->Option Int->Option Int->R D) (u:Sd->R (Option Int)) (U:Sd) (d:D) (lo:Option Int):R D:=(u U).bind (NP g d lo)
def UA (g:D->Option Int->Option Int->R D) (l u:Sd->R (Option Int)) (U:Sd) (d:D):R D:=(l U).bind (QQ g u U d)
def Yf:lh g φ l u U=(φ U).bind (UA g l u U):=rfl
def UQ:UA g l u U d=(l U).bind (QQ g u U d):=rfl
def SU {lo:Option Int}:QQ g u U d lo=(u U).bind (NP g d lo):=rfl
def T9 {lo hi:Option Int}:NP g d lo hi=g d lo hi:=rfl
def aaJ (g:Str->afW->R D) (α:FA) (U:Sd) (d:D):R D:=match d with
 | .str z=>(α U).bind fun ds=>g z ds
 | _=>.no
def Xx:aaJ g α U (.str x)=(α U).bind (g x):=rfl
def Qp:br ix α t τ φ U=(α U).bind (cf t τ φ (dt ix U)):=rfl
def UR:cU φ U=(φ U).bind fg:=rfl
def PN:cL α U=(α U).bind Ju:=rfl
def Th (h:-(2 ^ 62)<=i/\i < 2 ^ 62):Ju [.int i]=.ok (cb 0 i.toNat):=afI h
def R6:DS α U=(α U).bind B8:=rfl
def T3 (h1:fg d=.ok xs) (h2:fg e=.ok ys):B8 [d,e]=.ok (g7 xs ys):=by
 unfold B8;simp only [h1,h2,aG]
def GM:bL α U=(α U).bind wl:=rfl
def E1:bq (.str x) (.str y)=if x.length+y.length<=1000000 then .ok (.str (x++y)) else .no:=rfl
def add_l:bq (.lst xs) (.lst ys)=if xs.length+ys.length<=1000000 then .ok (.lst (xs++ys)) else .no:=rfl
def RC:kh (.int i) (.int j)=.ok (.int (i - j)):=rfl
def mul_r (h:-(2 ^ 64) < j/\j < 2 ^ 64):gE (.int i) (.int j)=.ok (.int (i*j)):=afI (.inr h)
def U7 (h:-(2 ^ 64) < i/\i < 2 ^ 64):gE (.int i) (.int j)=.ok (.int (i*j)):=afI (.inl h)
def UO (h:0 < j/\j < 1073741824):bX (.int i) (.int j)=.ok (.int (i/j)):=afI h
def RK (h:0 < j):bg (.int i) (.int j)=.ok (.int (i % j)):=afI h
theorem Tn (h:0<=j/\j<=1000000/\-(2 ^ 64) < i/\i < 2 ^ 64):vV (.int i) (.int j)=.ok (.int (i ^ j.toNat)):=afI ⟨h.1,h.2.1,by lia⟩
def BS:vE (.int i) (.int j)=.ok (.bl (decide (i < j))):=rfl
def Ty:Cs (.int i) (.int j)=.ok (.bl (decide (i<=j))):=rfl
def uG:uT (.int i) (.int j)=.ok (.bl (decide (j < i))):=rfl
def Wc:BX (.int i) (.int j)=.ok (.bl (decide (j<=i))):=rfl
def Tw:vE (.str x) (.str y)=.ok (.bl (decide (x.cps.toList < y.cps.toList))):=rfl
def Ti:Cs (.str x) (.str y)=.ok (.bl (!decide (y.cps.toList < x.cps.toList))):=rfl
def Ur:BX (.str x) (.str y)=.ok (.bl (!decide (x.cps.toList < y.cps.toList))):=rfl
def IE:AW d .non=.ok (.bl (W9 d)):=rfl
def jw:bD (.int i) (.int j)=.ok (.bl (decide (i=j))):=by simp [bD,jl,c8,yB,d7]
def gL:bD (.str x) (.str y)=.ok (.bl (decide (x=y))):=by simp [bD,jl,c8,yB,d7]
def UF:bD .non .non=.ok (.bl ζ):=by rfl
def Uj:fh (.int i) (.int j)=.ok (.bl (!decide (i=j))):=by simp [fh,jl,c8,yB,d7]
def Ru:fh (.str x) (.str y)=.ok (.bl (!decide (x=y))):=by simp [fh,jl,c8,yB,d7]
def JJ (h:x.length<=1000000) {k:Nat} (g:atI x.cps.toList i=θ k):aE (.str x) (.int i)=.ok (.str ⟨#[k]⟩):=by simp only [aE,afI h,g]
def uv (g:atI xs i=θ d):aE (.lst xs) (.int i)=.ok d:=by simp only [aE,g]
def ya (g:atI xs i=θ d):aE (.tup xs) (.int i)=.ok d:=by simp only [aE,g]
def bw:aE (.tup (d::r)) (.int 0)=.ok d:=ya (b4 rfl)
def bQ:aE (.tup (a::d::r)) (.int 1)=.ok d:=ya (b4 rfl)
def lw {a b:D}:aE (.tup (a::b::d::r)) (.int 2)=.ok d:=ya (b4 rfl)
def Sl:aE (.lst (d::r)) (.int 0)=.ok d:=uv (b4 rfl)
def Vj {lo g:Option Int}:jn (.str x) lo g=if x.length<=1000000 then .ok (.str (kG x lo g)) else .no:=rfl
def wW {lo g:Option Int}:jn (.lst xs) lo g=.ok (.lst (ib xs lo g)):=rfl
def LN:bP [.str x]=if x.length<=1000000 then .ok (.int x.length) else .no:=rfl
def zy:bP [.lst xs]=.ok (.int xs.length):=rfl
def vP:bP [.tup xs]=.ok (.int xs.length):=rfl
def Dh:qB [.bl b]=.ok (.int (if b=ζ then 1 else 0)):=rfl
def nC:gp [.lst xs]=.ok (.tup xs):=rfl
def Vb:gp [.tup xs]=.ok (.tup xs):=rfl
def Rs:yG [.tup xs]=.ok (.lst xs):=rfl
def Vw {xs:afW} {bs:List Bool} (h:vp xs=θ bs):ou [.lst xs]=.ok (.bl (bs.all id)):=by simp only [ou,h]
theorem zn {β:Type} (f:β->Bool):∀ xs:List β,vp (xs.map fun a=>D.bl (f a))=θ (xs.map f)
 | []=>rfl
 | a::r=>by simp only [GE,vp,zn f r,afC]
theorem strs_map {β:Type} (f:β->Str):∀ xs:List β,lx (xs.map fun a=>D.str (f a))=θ (xs.map f)
 | []=>rfl
 | a::r=>by simp only [GE,lx,strs_map f r,afC]
def MZ (h:lx xs=θ ys) (hl:(ys.map (·.length)).sum+ys.length*z.length<=1000000):lF z [.lst xs]=.ok (.str (aeL z ys)):=by simp only [lF,h,afI hl]
def oV (g:pT t δ0=ζ) (hl:xs.length<=1000000) (h:dI t τ ε δ0 xs=.ok ys):cf t τ ε δ0 xs=.ok (.lst ys):=by
 unfold cf;rw [afI ⟨g,hl⟩,h];rfl
def yt {β:Type} {as:List β} (u:β->D) (f:β->D) (v:pT (.one k) δ0=ζ) (hl:as.length<=1000000) (h:∀ a∈as,ε (δ0.set k (θ (u a)))=.ok (f a)):cf (.one k) gc ε δ0 (as.map u)=.ok (.lst (as.map f)):=by
 refine oV v (by simp_all) ?_;clear hl;induction as with
 | nil=>rfl
 | cons a r g =>
  have h1:=h a aa8;have g:=g fun b hb=>h b (iN _ hb);show (ε (δ0.set k (θ (u a)))).bind _=_;rw [h1];rw [g];rfl
end
theorem vW {β:Type} {M:Model} {A:acy} {E:afR} {s:DO} {b:Nat} (f:Nat->β->Sem (ForInStep β)) (I:Nat->β->DO->Prop) (Q:β->DO->Prop)
  (iy:∀ i c s,i < b->I i c s->aaN M A (f i c) (fun r g=>match r with|.yield b'=>I (i+1) b' g|.done b'=>Q b' g) E s)
  (fin:∀ c s,I b c s->Q c s) (c:β) (h:I 0 c s):aaN M A (forIn [0:b] c f) Q E s:=by
 rw [Std.Legacy.Range.forIn_eq_forIn_range'];have hsz:[0:b].size=b:=by simp_all
 rw [hsz];refine wpAny_forIn_list f (fun l c st=>∃ i,i<=b/\l=List.range' i (b - i) 1/\I i c st) Q ?_ ?_ _ c ⟨0,aaQ _,rfl,h⟩
 .rintro x rest c st ⟨i,hib,hl,hI⟩;have u:i < b:=by
   rcases ad3 i b with h'|h'
   .exact h'
   simp_all
  let ⟨n,hn⟩:∃ n,b - i=n+1:=⟨b - i - 1,by lia⟩
  rw [hn] at hl;obtain ⟨rfl,rfl⟩:=List.cons.inj hl;refine abn (iy x c st (by lia) hI) (fun r v h'=>?_) fun _ _ z=>z
  grind
 grind
theorem rH (l:aa3) (r:afU) (n:Nat) (I:Option aa3) (J:Array (Option oR)) (x:oR) (e:oR->Bool) (k:Nat) :
  Meets (Builtin.«tuple.index» ⟨[.ref l,x],[]⟩)
   (fun A R s=>s.heap.get? l=θ { cls:=.type "tuple",dict:=I,data:=.seq r.toArray n,slots:=J }/\(∀ y,y∈r->afi A.in1 s y x (e y))/\(k < r.length/\(∀ y,r[k]?=θ y->e y=ζ)/\∀ j y,j < k->r[j]?=θ y->e y=η)/\R (.ok (.ret (.int (k:Nat) s.toks))) { s with toks:=s.toks+1 }) :=
 .of_wp fun prog w A R s h=>by
  obtain ⟨L,g,d,C,os⟩:=s;let ⟨hl,he,⟨hk0,hk1,hk2⟩,h⟩:=h
  wp_walk using adW hl,vW _ (fun i b z=>b.1=ξ/\z=⟨L,g,d,C,os⟩/\i<=k) _
  case iy =>
   rintro i b z hi ⟨hb,rfl,hik⟩;have u:i < r.length:=by lia
   have M:r.toArray[i]?=θ r[i]:=by simp [u]
   simp only [M];refine dO (he _ (aaX u) prog w _ _ ?_);by_cases v:i=k
   .subst v;rw [hk1 _ (lT u)]
    wp_walk
    exact ⟨_,rfl,h⟩
   .rw [hk2 i _ (by lia) (lT u)]
    wp_walk
    exact ⟨rfl,rfl,by lia⟩
  case fin =>
   grind
  grind
section
variable {X:Cx} {W:Wd} {O:afO}
def BD (x:V):afV->Option Nat
 | []=>ξ
 | y::ys=>if eqV y x=ζ then θ 0 else (BD x ys).map (·+1)
theorem sJ {x:V}:∀ {xs:afV} {us:afU} {k:Nat},ba xs us->xs.all fJ=ζ->BD x xs=θ k->k < us.length/\(∀ y,us[k]?=θ y->uV x y=ζ)/\∀ j y,j < k->us[j]?=θ y->uV x y=η
 | _,_,_,.nil,_,h=>by cases h
 | y::xs,u::us,k,.cons r t,f,h=>by
  rw [abO,Pi] at f;unfold BD at h;split at h
  .rename_i e;cases h;refine ⟨by simp,fun g h'=>?_,fun j _ v _=>absurd v (adU _)⟩;simp only [aeo,afm] at h';subst h';rw [tL r f.1];exact e
  .rename_i e;cases q:BD x xs with
   | none=>rw [q] at h;cases h
   | some z =>
    rw [q] at h;cases h;let ⟨h1,h2,h3⟩:=sJ t f.2 q
    refine ⟨by simpa using h1,fun g h'=>h2 g (by simpa using h'),fun j g v h'=>?_⟩;cases j with
    | zero =>
     simp only [aeo,afm] at h';subst h';rw [tL r f.1];simpa using e
    | succ j=>grind
def Xe (K:aT) (x:V) (xs:afV) (H:Hp) (Q:VK):Prop:=∃ p vs y k,x=.ref p/\xs=[y]/\g6 K H p vs/\fJ y=ζ/\vs.all fJ=ζ/\BD y vs=θ k/\Q (.int (k:Nat)) H
theorem BG:UL X "tuple.index" (Xe X.K):=by
 intro M s σ H x xs v us Q I J r h;obtain ⟨p,vs,y,k,rfl,rfl,C,g,fs,e,q⟩:=h;cases J;obtain ⟨u,rfl,L⟩:=gG r;let ⟨its,rv,pl,hz⟩:=I.tuple C
 let ⟨⟨cls,dd,data,sl⟩,ho,hc,n,hd⟩:=id pl
 subst hc hd;exact call_meets aeg ⟨_,ho,rfl⟩ PySem.F.entry_tuple_index (PySem.F.args_tuple_index_2 _ _) (rH p its n dd sl u (uV y) k) ⟨ho,fun z hz=>iG L g rv fs z hz,sJ rv fs e,⟨.int _,H,I.tok _,⟨_,rfl⟩,q⟩⟩
def E5 (k:D) (ds:afW):R D:=match k,ds with
 | .tup xs,[d]=>match c8 d,kW xs with
  | some v,θ vs=>match BD v vs with
   | some k=>.ok (.int (k:Nat))
   | none=>.no
  | _,_=>.no
 | _,_=>.no
def wT (k:D) (α:FA):FE:=fun U=>(α U).bind fun ds=>E5 k ds
def Su:wT k α U=(α U).bind (E5 k):=rfl
theorem Eb {apos cpos pos:Pos} (J:X.mg x=θ (.ref p)) (Y:∀ H,b9 W.K H d (.ref p)) (hl:∃ ob,W.K.lookup p=θ ob/\ob.cls=.type "tuple"/\ob.dict=ξ) (ha:JA X [e] (qZ W O α)) (C:X.K=W.K:=by rfl) (hg:Gl X x:=by rfl) (z:afX x:=by decide)
  (g:abg (.Name x pos) "index" X.env (eval (.Name x pos) X.env)=eval (.Name x pos) X.env:=by rfl) (r:(apos.endLine==cpos.line)=ζ:=by rfl) (h1:[e].all aI=ζ:=by rfl) (u:[e].length < 29:=by decide) :
  JE X (.Call (.Attribute (.Name x pos) "index" apos) [e] [] cpos) (tD W O (wT d α)) :=
 (Vx PySem.F.plainAttrs_tuple aeg PySem.F.type_tuple_index BG (DJ (v:=.ref p) J rfl hg z) ha g r h1 u).imp fun σ H Q M=>cP M fun as0 B own U I h=>by
  let ⟨ob,hl,hc,hdn⟩:=hl
  refine ⟨.inr (.inl ⟨rfl,ob,by rw [C];exact hl,hc,hdn⟩),as0,B,own,U,I,dH h fun ds xs H2 s2 Z h2=>?_⟩;have dp:=Y (aD (own++as0) H2);unfold E5 at h2;split at h2
  .obtain ⟨v,rfl,L⟩:=eU Z;let ⟨p',vs,e0,q1,q2⟩:=dp
   cases e0;split at h2
   .rename_i w ws e1 e2;split at h2
    .rename_i k e3
     have:=dW L e1
     subst this;let ⟨h3,h4⟩:=lf q2 e2
     subst h3;exact ⟨p,vs,v,k,rfl,rfl,by rw [C];exact (ar _ _).seqT q1,p7 e1,h4,e3,aH h2 rfl⟩
    .exact h2.elim
   .exact h2.elim
  .exact h2.elim
end
def iL {α:Type} [DecidableEq α] (ks:List α):List α:=ks.foldl (fun g k=>if k∈g then g else g++[k]) []
section
variable {α:Type} [DecidableEq α]
def jQ (ks:List α) (k:α):iL (ks++[k])=if k∈iL ks then iL ks else iL ks++[k]:=by unfold iL;rw [List.foldl_append];rfl
theorem Ka (ks:List α):(iL ks).length<=ks.length:=by
 have key:∀ n,(iL (ks.take n)).length<=n:=by
  intro n;induction n with
  | zero=>simp [iL]
  | succ n g =>
   rcases ad3 n ks.length with h|h
   .rw [abo h,jQ]
    grind
   .rw [abJ (by lia)] at g ⊢;lia
 have:=key ks.length
 rwa [aes] at this
end
abbrev pO (g:Bool):Obj:={ cls:=.type "set",dict:=ξ,data:=.set #[] 0 (.fresh 0 0 g) }
abbrev jI (w:abA):Bool:=!w.params.followText "set-order"
structure SetI (prog:abN) (w:abA) (S:aa3) (n:Nat) (P:Nat->oR->Prop) (J:Nat->acV->Prop):Prop where
 keep:∀ i (h h':acV),J i h->(∀ o,h.get? S=θ o->h'.get? S=θ o)->J i h'
 add:∀ A E i v (s:DO) (Q:Bool->DO->Prop),i < n->P i v->J i s.heap->(∀ b h' tk,s.toks<=tk->aby S s.heap h'->J (i+1) h'->Q b { s with heap:=h',toks:=tk })->aaN (aaV prog w) A (setAdd S v) Q E s
section
variable {prog:abN} {w:abA} {A:acy}
theorem GR {R:Result->DO->Prop} {St:Nat->DO->Prop} (W:WalksS prog w A.in1 I fp wr G n P St) (C:SetI prog w S n P J) (hSf:S∉fp) :
  ∀ (m i:Nat) (s:DO),n - i=m->i<=n->St i s->J i s.heap->(∀ r,Moved (S::wr) G s r->J n r.heap->R (.ok (.ret .none)) r) ->
   adt (aaV prog w) A (.builtin "set.update.loop" ⟨[.ref S,.ref I],[]⟩) R s:=by
 have Y:=fun h=>hSf (W.sub S h);have g:=fun b (hb:b∈wr)=>iN S hb;intro m;induction m with
 | zero =>
  intro i s hk hi z hJ hR;obtain rfl:i=n:=by lia
  refine codeAny_builtin F.entry_set_update_loop ?_;rw [acC F.plain_set_update_loop _];exact dO (m:=pyNext (.ref I)) (W.done s _ _ z fun r Z=>rW (hR r (Z.mono g) (C.keep _ _ _ hJ fun o=>Z.heap S o Y)))
 | succ m ih =>
  intro i s hk hi z hJ hR;have u:i < n:=by lia
  refine codeAny_builtin F.entry_set_update_loop ?_;rw [acC F.plain_set_update_loop _];refine dO (m:=pyNext (.ref I)) (W.item i s _ _ u z fun v r hP hst' Z=>?_);refine dO (m:=holding [v] (setAdd S v)) (abW (C.add _ _ i v r _ u hP (C.keep _ _ _ hJ fun o=>Z.heap S o Y) fun b h' tk M hsb hJ'=>?_));refine rW ⟨plainId_quiet F.plain_set_update_loop _,ih (i+1) _ (by lia) u (W.frame _ r _ _ hst' M fun b hb o e=>?_) hJ' fun s'' L hS''=>?_⟩
  .rw [hsb.2 b (fun h=>hSf (h ▸ hb))];exact e
  .refine hR s'' (Moved.trans W.gtrans ((Z.mono g).then_heap M fun b o hb e=>?_) L) hS'';rw [hsb.2 b (fun h=>hb (h ▸ aa8))];exact e
variable {E:afR} {s:DO} {Q:afR}
theorem Gn (a:oR) (h:Q (.ref s.heap.objs.size) { s with heap:=s.heap.push (pO (jI w)) }):adt (aaV prog w) A (.call (.builtin "set.__new__") ⟨[.type "set",a],[]⟩) (wants Q E) s:=by
 refine codeAny_of_tree (show aaN _ A.in1 (checkBuiltinCall "set.__new__" _ >>= fun _=>again (.builtin "set.__new__" _)) _ _ s from ?_);refine dO (ae2 (PySem.F.newCall_set_1 a) (rW ⟨plainId_quiet aeE _,codeAny_builtin PySem.F.entry_set_new ?_⟩));rw [acC aeE _];have r:=sub_set_self;obtain ⟨u,g,d,v,os⟩:=s;unfold Builtin.«set.__new__» Builtin.Frozenset.newClass;dsimp only;wp_walk;refine wpAny_askSetting (rW ?_);dsimp only;simp only [newObj];exact dO (wpAny_alloc (rW (rW h)))
theorem G7 (hh:A.handled=ξ) (hl:s.heap.IsList l items) (C:SetI prog w s.heap.objs.size items.size (fun i v=>items[i]?=θ v) J) (h0:∀ h:acV,h.get? s.heap.objs.size=θ (pO (jI w))->J 0 h)
  (h:∀ (h':acV) (tk:Nat),J items.size h'->(∀ b o,b < s.heap.objs.size->s.heap.get? b=θ o->h'.get? b=θ o)->Q (.ref s.heap.objs.size) { s with heap:=h',toks:=tk }) :
  aaN (aaV prog w) A (call (.type "set") [.ref l]) Q E s:=by
 obtain ⟨c,tl,hmro⟩:=abV.mro;have hmade:=abV.made;have hsub:=abV.sub;refine wpAny_call (codeAny_of_tree (show aaN _ _ (callAny (.type "set") _) _ _ _ from ?_));refine rW ⟨Code.quiet_builtin _ (by trivial),codeAny_builtin PySem.F.entry_type_call ?_⟩;rw [Around.under_plain (weight_type_call_type "set" [.ref l] []) rfl];have h1:=abV.notType;have h2:=abV.canCreate;have hct:=PySem.F.typeCall_set_1 (.ref l);repeat (any_goals (first|assumption|wp_step))
 refine ac1 (Gn (.ref l) (E:=E) (Q:=fun obj I=>obj=.ref s.heap.objs.size/\I={ s with heap:=s.heap.push (pO (jI w)) }) ⟨rfl,rfl⟩) fun r I hr=>?_;cases r with
 | error e=>exact hr
 | ok fl =>
  cases fl with
  | ret obj =>
   obtain ⟨rfl,rfl⟩:=hr;have hS:(s.heap.push (pO (jI w))).get? s.heap.objs.size=θ (pO (jI w)):=Do _ rfl;have hT:Shared.TypeIs { s with heap:=s.heap.push (pO (jI w)) } (.ref s.heap.objs.size) "set":=⟨_,hS,rfl⟩;have hli:=abV.init.lookup;have hbi:=abV.init.bind (.ref s.heap.objs.size);repeat (any_goals (first|assumption|wp_step))
   refine ac1 (codeAny_call_builtin (R:=wants (fun r z=>r=.none/\∃ h' tk,z={ s with heap:=h',toks:=tk }/\J items.size h' /\
     (∀ b o,b < s.heap.objs.size->s.heap.get? b=θ o->h'.get? b=θ o)) E) abV.init.plain PySem.F.entry_set_init (check_set_init_1 hT ?_)) fun Z z g=>?_
   .obtain ⟨ol,hol,hcl,nl,hdl⟩:=hl;obtain ⟨ocls,L,odata,u⟩:=ol;simp only at hcl hdl;subst hcl hdl;have hol':(s.heap.push (pO (jI w))).get? l=θ ⟨.type "list",L,.seq items nl,u⟩:=eQ _ hol;have hsls:=PySem.F.sub_list_set;have hslf:=PySem.F.sub_list_frozenset;have hne:(aeb "list"==aeb "dict")=η:=by decide
    have hl1:(s.heap.push (pO (jI w))).IsList l items:=⟨_,hol',rfl,nl,rfl⟩;unfold Builtin.«set.__init__» noKeywords Builtin.Frozenset.updateFrom;generalize hPI:pyIter=PI
    wp_walk
    subst hPI;refine wpAny_pyIter_list hl1 (dO (wpAny_runValue ?_));have hlS:=ID hol;have hneI:l≠(s.heap.push (pO (jI w))).objs.size:=by rw [abK];exact aa0 (aeh hlS)
    have hSf:s.heap.objs.size∉[(s.heap.push (pO (jI w))).objs.size,l]:=by
     rw [abK];simp only [mK,abj,or_false,not_or];exact ⟨aa0 (adg _),adI hlS⟩
    refine GR ((afk (A:=A.in1.in1.in1) (by simp [hh]) _ l hneI items).toS) C hSf (items.size - 0) 0 _ (by lia) (aaQ _) ⟨⟨_,Do _ rfl,rfl,rfl⟩,(hl1.push _)⟩ (h0 _ (eQ _ hS)) ?_;intro s' hm Y;obtain ⟨h',g',d',tk',os'⟩:=s';obtain rfl:g'=s.gens:=hm.gens;obtain rfl:d'=s.drawn:=hm.drawn;obtain rfl:os'=s.os:=hm.os;refine rW (rW ⟨rfl,h',tk',rfl,Y,fun b o hb e=>?_⟩);have hb2:b≠(s.heap.push (pO (jI w))).objs.size:=by rw [abK];exact aa0 (aeh hb)
    exact hm.heap b o (by simp only [mK,abj,or_false,not_or];exact ⟨aa0 hb,hb2⟩) (eQ _ (eQ _ e))
   .cases Z with
    | error e=>exact g
    | ok M =>
     cases M with
     | ret r =>
      obtain ⟨rfl,h',tk,rfl,Y,hk'⟩:=g;repeat (any_goals (first|assumption|wp_step))
      exact h _ _ Y hk'
     | _=>exact g.elim
  | _=>exact hr.elim
theorem qA {α:Type} [DecidableEq α] {knd:KeyKind prog w α} {l:aa3} {g:Array oR} {ks:List α}
  (hh:A.handled=ξ) (hl:s.heap.IsList l g) (z:ks.length=g.size) (Z:∀ (i:Nat) v,g[i]?=θ v->∀ k,ks[i]?=θ k->knd.is k v=ζ/\v.scannable=ζ) (hb:g.size+1 < scanBound)
  (h:∀ (h':acV) (I:Nat),h'.SetOf knd s.heap.objs.size (fun Y=>decide (Y∈iL ks)) (iL ks).length ->
   (∀ b o,b < s.heap.objs.size->s.heap.get? b=θ o->h'.get? b=θ o)->Q (.ref s.heap.objs.size) { s with heap:=h',toks:=I }) :
  aaN (aaV prog w) A (call (.type "set") [.ref l]) Q E s:=by
 refine G7 (J:=fun i h=>∃ (S:α->Bool) (n:Nat),(∀ k,S k=decide (k∈iL (ks.take i)))/\n=(iL (ks.take i)).length/\h.SetOf knd s.heap.objs.size S n) hh hl ⟨fun i h h' ⟨S,n,e1,e2,o,es,ep,t,ho,rest⟩ k=>⟨S,n,e1,e2,o,es,ep,t,k o ho,rest⟩,fun A E i v s' Q hlt hP ⟨S,n,e1,e2,hS⟩ q=>?_⟩ (fun h e=>⟨_,_,fun k=>?_,?_,(setObjOf_fresh (knd:=knd) _).setOf e (by unfold scanBound;lia)⟩) fun h' I ⟨S,n,e1,e2,hS⟩=>?_
 .have hik:i < ks.length:=by lia
  obtain ⟨u,M⟩:=Z i v hP ks[i] (lT hik);unfold setAdd;refine abW (dO (knd.pyHash u ?_));have r:n+1 < scanBound:=by
   have:=Ka (ks.take i)
   rw [abE] at this;lia
  refine wpAny_setAddHashed_of (knd:=knd) (s:={ s' with toks:=s'.toks+1 }) u M hS r fun h' L C=>q _ _ _ (adB _) L ⟨_,_,fun Y=>?_,?_,C⟩
  .rw [abo hik,jQ]
   grind
  .rw [abo hik,jQ]
   grind
 .simp [iL]
 .simp [iL]
 .rw [<- z,aes] at e1 e2;obtain rfl:S=_:=funext e1;subst e2;exact h h' I hS
end
section
variable {X:Cx} {W:Wd} {O:afO}
def K1 (K:aT) (t:TA):TE:=fun σ H Q=>t σ H fun vs H1=>∃ a ys,vs=[.ref a]/\e8 K H1 a (ys.map V.str)/\ys.length<=1000/\Q (.int ((iL ys).length:Nat)) H1
theorem Bo {p1 p2 g pos:Pos} (hc:X.calm=ζ) (hm1:X.mg "len"=ξ) (hm2:X.mg "set"=ξ) (ha:PA X [e] t) (hg1:Gl X "len":=by rfl) (Y:Gl X "set":=by rfl)
  (he:aa2 [e] X.env=(η,eval e X.env)::aa2 [] X.env:=by rfl) (M:(acL g (aa2 [] X.env)).any (·.1)=η:=by rfl)
  (z:aa2 [.Call (.Name "set" p2) [e] [] g] X.env=(η,eval (.Call (.Name "set" p2) [e] [] g) X.env)::aa2 [] X.env:=by rfl) (C:(acL pos (aa2 [] X.env)).any (·.1)=η:=by rfl) :
  PE X (.Call (.Name "len" p1) [.Call (.Name "set" p2) [e] [] g] [] pos) (K1 X.K t):=by
 intro af s σ H Q I h;refine abm (g8 I hg1 hm1 wQ ?_ (by decide) (by decide));refine adJ ?_ z C;rw [z];show aaN _ _ (spliced ((η,eval (.Call (.Name "set" p2) [e] [] g) X.env)::acL pos (aa2 [] X.env))) _ _ s;refine acT ?_;refine abm (g8 I Y hm2 Om ?_ (by decide) (by decide));refine abU (bT (ha g af s σ H _ I h) fun us s1 hh=>ji hh fun vs H1 L r1 q1=>?_) he M;obtain ⟨a,ys,rfl,hq,hl,q⟩:=q1;obtain ⟨u,rfl,ru⟩:=gG r1;cases ru;let ⟨its,rv,pl,hz⟩:=L.list hq
 have J:its.length=ys.length:=by rw [<- rv.length,lE]
 have Z:scanBound=4096:=rfl;refine aW L.tk (qA (knd:=strKind X.prog X.w) (ks:=ys) (L.ok.hd hc) pl.isList (by simp [J]) (fun i v hv k hk=>?_) (by rw [Z];simp;lia) fun h' tk hS r htk=>?_)
 .have hv'  := by simpa using hv
  obtain ⟨u,hu,ru⟩:=rv.get ((by rw [acF,hk];rfl));rw [hv'] at hu;cases hu;obtain ⟨t',rfl⟩:=ru;exact ⟨strKind_is _ _ _ _,rfl⟩
 .refine adA ?_;obtain ⟨o,es,ep,t',ho,hex,hd,hel,hmem,hb',hf,hn⟩:=hS;have I2  := L.kept fun b u e=>r b u (ID e) e;refine call_len_set ho hex hd hf (by lia) ⟨.int _,H1,I2.tok _,⟨_,rfl⟩,?_⟩;rw [hn];exact q
def gT (ds:afW):R D:=match ds with
 | [.lst xs]=>match lx xs with
  | some ys=>if ys.length<=1000 then .ok (.int ((iL ys).length:Nat)) else .no
  | none=>.no
 | _=>.no
theorem Hh {p1 p2 g pos:Pos} (z:X.mg "len"=ξ) (u:X.mg "set"=ξ) (ha:JA X [e] (qZ W O α)) (Z:X.K=W.K:=by rfl) (hc:X.calm=ζ:=by rfl) (C:Gl X "len":=by rfl) (r:Gl X "set":=by rfl) (h1:aI e=ζ:=by rfl) :
  JE X (.Call (.Name "len" p1) [.Call (.Name "set" p2) [e] [] g] [] pos) (tD W O (aj gT α)) :=
 (JE.mk (Bo hc z u ha.out C r (bH h1) rfl rfl rfl)).imp fun σ H Q M=>cP M fun as0 B own U I h=>⟨as0,B,own,U,I,dH h fun ds xs H2 s2 Y h2=>by
  unfold gT at h2;split at h2
  .obtain ⟨v,rfl,d1⟩:=eU Y;obtain ⟨p,vs,rfl,J,L⟩:=d1;split at h2
   .rename_i ys e;split at h2
    .rename_i hl;refine ⟨p,ys,rfl,?_,hl,aH h2 rfl⟩;rw [<- m7 L e,Z];exact (ar _ _).seq J
    .exact h2.elim
   .exact h2.elim
  .exact h2.elim⟩
end
section
variable {p1 pos:Pos}
theorem BW (K:aT) (f:Bool->Bool) (v:i∈O) (hW:W.K=K) (I:DI W.K as0 B O own σ U H) (h:cq W (own++as0) H (ak (fun a b=>d7 (jl a b) f) (ae i) ψ U) Q):Cu (rG K f) (tm i) (tD W O ψ) σ H Q:=by
 let ⟨a,ha⟩:=b6 I.olen v
 obtain ⟨d,o,h1,h2,M,J⟩:=I.owns i a ha;have Y:ae i U=.ok d:=by unfold ae;rw [h1]
 have h':cq W (own++as0) H ((ψ U).bind fun y=>d7 (jl d y) f) Q:=by
  have e:ak (fun a b=>d7 (jl a b) f) (ae i) ψ U=(ψ U).bind fun y=>d7 (jl d y) f:=by unfold ak;rw [Y];rfl
  rw [<- e];exact h
 have L:Cu (rG K f) (tm i) (tD W O ψ) σ H Q=mW σ[i]? H (RB (rG K f) (tD W O ψ) σ Q):=rfl;rw [L,h2];subst hW;refine ⟨as0,B,own,U,I,bp h' fun y u C r z g=>?_⟩;have hao  := (abb ha).2;have od:i8 W.K (aD [a] C) o d:=J.mono ((iz fun b hb=>by
  simp_all).trans (aJ r))
 have dd  := by
  have:=od.den (by simp) (r _ _ M)
  rwa [vG] at this
 cases e:jl d y with
 | none=>rw [e] at g;exact g.elim
 | some k =>
  rw [e] at g;exact ⟨d,y,k,dd,z.mono (ar _ _),e,aH g rfl⟩
def KC (K:aT) (f:Bool->Bool) (C:i∈O) (u:cD X (aa1 op) (rG K f)) (hb:JE X b (tD W O ψ)) (M:acO op b=η) (J:X.N[i]?=θ x:=by rfl) (hv:oy X.env.scope x:=by walk_at"v") (Z:afX x:=by decide)
  (g:(x==("__classdict__":Str))=η:=by decide) (hW:W.K=K:=by rfl):JT X (.Compare (.Name x p1) [op] [b] pos) (iM W O (aZ (ak (fun a b=>d7 (jl a b) f) (ae i) ψ))) :=
 (DV u (jv i J hv Z g) hb M).imp fun σ H Q Y=>cP Y fun as0 B own U I h=>BW K f C hW I (fj h fun z w H3 s3 L r=>by
  cases z with
  | bl k=>cases L;exact r H3 (aw.refl _)
  | _=>exact r.elim)
end
def Qr (tab:List (Str×D)) (d:D):R D:=match d with
 | .str x=>(match tab.lookup x with
  | some d=>.ok d
  | none=>.no)
 | _=>.no
section
variable {X:Cx} {W:Wd} {O Ob:afO} {e:abu} {φ:FE} {pos p1:Pos}
theorem HY (tab:List (Str×D)) (C:X.mg x=θ (.ref a)) (hl:X.K.lookup a=θ ⟨.type "dict",ξ,.dict es n,#[]⟩) (z:acn X.w.params es.toList)
  (Y:∀ y d,tab.lookup y=θ d->∃ v u,aaO X.K a y=θ (θ u)/\aX v u/\∀ H,b9 W.K H d v) (M:JE X e (tD W O φ)) (hg:Gl X x:=by rfl) (r:afX x:=by decide) (hs:EF e:=by exact fun _ _=>rfl) :
  JE X (.Subscript (.Name x p1) e pos) (tD W O (xG (Qr tab) φ)):=⟨by
 intro af s σ H Q I0 ⟨as0,B,own,U,I,h⟩;refine zS ad7.lookup hs (i9 I0 hg C (bT (M.out af s σ H (fun v H1=>∃ y d,v=.str y/\tab.lookup y=θ d/\cq W (own++as0) H1 (.ok d) Q) I0 ⟨as0,B,own,U,I,bp h fun y v g L J h2=>?_⟩) fun iv L ⟨yv,g,I2,ry,y,d,ey,q1,q2⟩=>?_) r)
 .unfold Qr at h2;cases y with
  | str x =>
   cases J;simp only at h2;cases q:tab.lookup x with
   | none=>rw [q] at h2;exact h2.elim
   | some d=>simp_all
  | _=>exact h2.elim
 .subst ey;obtain ⟨t,rfl⟩:=ry;let ⟨v,u,h1,h2,h3⟩:=Y y d q1
  let ⟨m,F⟩:=I2.fr
  refine ⟨(afD (prog:=X.prog) I2.kIn hl z).typeIs,PySem.W.topGetDict_K F I2.mod.kin hl z h1 ⟨v,g,I2.tok _,h2,q2 v g (aw.refl _) (h3 _)⟩⟩⟩
end
theorem tab_of {P:Str->D->Prop}:∀ {tab:List (Str×D)},(∀ p∈tab,P p.1 p.2)->∀ {y:Str} {d:D},tab.lookup y=θ d->P y d
 | [],_,_,_,e=>by cases e
 | p::r,h,y,d,e=>by
  rw [acv] at e;cases hb:y==p.1 with
  | true =>
   rw [hb] at e;have e:θ p.2=θ d:=e;cases e
   have:y=p.1:=eq_of_beq hb
   rw [this];exact h p aa8
  | false=>rw [hb] at e;exact tab_of (fun q g=>h q (iN _ g)) e
def FnOk.void {K:aT}:FnOk P w K mg base gN k f fd ps (rS K mg fun _=>.no) :=
 ⟨fun vs H Q E ⟨_,_,_,_,h⟩=>h.elim,fun A outer s H args us vs Q E hr e0 hb r ⟨_,_,_,_,h⟩=>h.elim⟩
section
variable {X:Cx} {W:Wd} {Ob O:afO} {e f:abu} {ε φ ψ:FE} {pos p1 p2 apos cpos:Pos} {x:Str}
theorem PZ (K:aT) {i:Nat} {C:String} (Y:i∈O) (hm:X.mg "isinstance"=ξ) (he:JE X e (tD W O (vC (.ty C)))) (Z:X.N[i]?=θ x:=by rfl) (hg:Gl X "isinstance":=by rfl) (J:oy X.env.scope x:=by walk_at"v") (hd:afX x:=by decide)
  (r:(x==("__classdict__":Str))=η:=by decide) (hn:aI e=ζ:=by rfl) (hK:X.K=K:=by rfl) (hW:W.K=K:=by rfl):JE X (.Call (.Name "isinstance" p2) [.Name x p1,e] [] pos) (tD W O (aj fR (aa (ae i) (aa (vC (.ty C)) ag)))) :=
 (ui (Mq K hK) hm kD (jV (jv i Z J hd r) (jV he qD hn)) hg rfl (by rw [abO,hn];rfl)).imp fun σ H Q hh=>cP hh fun as0 B own U I h=>by
  obtain ⟨a,ha⟩:=b6 I.olen Y;obtain ⟨d,o,h1,h2,M,z⟩:=I.owns i a ha;show mW σ[i]? H (fun v H1=>tD W O (vC (.ty C)) σ H1 fun u L=>Ai K [v,u] L Q);rw [h2];have J:ae i U=.ok d:=by unfold ae;rw [h1]
  have h':cq W (own++as0) H (fR [d,.ty C]) Q:=by
   have e:aj fR (aa (ae i) (aa (vC (.ty C)) ag)) U=fR [d,.ty C]:=by unfold aj aa ag vC;rw [J];rfl
   rw [<- e];exact h
  refine ⟨as0,B,own,U,I,fun u L g d2=>?_⟩;cases d2;cases d with
  | lst ds =>
   obtain ⟨xs,rfl,q⟩:=z;unfold fR at h';simp only at h';split at h'
   .rename_i hC;exact ⟨hC,.inl ⟨xs,e8.of (g _ _ M),aH (h'.mono g) rfl⟩⟩
   .exact h'.elim
  | dct ds =>
   obtain ⟨xs,rfl,q⟩:=z;unfold fR at h';simp only at h';split at h'
   .rename_i hC;exact ⟨hC,.inr (.inr (.inl ⟨xs,g _ _ M,aH (h'.mono g) rfl⟩))⟩
   .exact h'.elim
  | obj C' ds =>
   unfold fR at h';simp only at h';split at h' <;> exact h'.elim
  | _=>exact z.elim
theorem Ni (K:aT) (u:i∈O) (C:X.mg "tuple"=ξ) (z:X.N[i]?=θ x:=by rfl) (hg:Gl X "tuple":=by rfl) (r:oy X.env.scope x:=by walk_at"v") (L:afX x:=by decide)
  (g:(x==("__classdict__":Str))=η:=by decide) (M:X.K=K:=by rfl) (hW:W.K=K:=by rfl):JE X (.Call (.Name "tuple" p2) [.Name x p1] [] pos) (tD W O (aj gp (aa (ae i) ag))) :=
 (tF (Fu K M) C qQ (jV (jv i z r L g) qD) hg).imp fun σ H Q J=>cP J fun as0 B own U I h=>by
  let ⟨a,ha⟩:=b6 I.olen u
  let ⟨d,o,h1,h2,h3,h4⟩:=I.owns i a ha
  show mW σ[i]? H (fun v H1=>tJ K [v] H1 Q);rw [h2];have r:ae i U=.ok d:=by unfold ae;rw [h1]
  have h':cq W (own++as0) H (gp [d]) Q:=by
   have e:aj gp (aa (ae i) ag) U=gp [d]:=by unfold aj aa ag;rw [r];rfl
   rw [<- e];exact h
  cases d with
  | lst ds =>
   obtain ⟨xs,rfl,q⟩:=h4;refine .inl ⟨xs,e8.of h3,fun l hl=>?_⟩;have hn:=I.new hl;exact h' _ _ (aR hl _) ⟨l,xs,rfl,.inl (.inl (by rw [aV hn];exact aK)),q.mono (aJ (aR hl _))⟩
  | _=>first|exact h4.elim|exact h'.elim
end
structure Nw (X:Cx) (af:afQ) (b:aa3):Prop where
 base:X.s₀.heap.get? b=ξ
 loc:b≠X.env.locals
 fs:b∉X.fs
 cell:∀ x c,X.env.cells.lookup x=θ c->c≠b
 pin:∀ p∈X.pn++af,p.1≠b
section
variable {σ:St} {s:DO}
theorem Inv.track (I:Inv X af σ H s) (n:Nw X af y) (hy:H y=ξ) (new:c7 X.prog X.w (upd H y o) s.heap y o):Inv X af σ (upd H y o) s:=by
 have hs  := aR hy o;refine ⟨I.ok,I.os,I.bare,⟨I.base.keep,I.base.slot,fun b ob e C r=>?_,I.base.there,fun b xs e=>hs _ _ (I.base.tups b xs e),fun b ob u e=>hs _ _ (I.base.frzs b ob u e),fun b ps e=>?_⟩,I.loc,I.cell,?_,fun x c e=>?_,fun p g=>?_,fun a u e=>?_,I.len,I.tk⟩
 .have:b≠y:=fun z=>by rw [z,n.base] at e;cases e
  rw [aF this];exact I.base.free b ob e C r
 .exact hs _ _ (I.base.tbls b ps e)
 .rw [aF (acR n.loc)];exact I.free
 .rw [aF (n.cell x c e)];exact I.freeC x c e
 .let ⟨h1,h2,h3⟩:=I.pin p g
  exact ⟨h1,by rw [aF (n.pin p g)];exact h2,h3⟩
 .by_cases ha:a=y
  .subst ha;have v:u=o:=by unfold upd at e;grind
   rw [v];exact new
  .rw [aF ha] at e;exact (I.hok a u e).stay (fun _ _ _ q=>q) (fun b q=>hs _ _ q) fun b xs q=>⟨hs _ _ q.1,q.2⟩
end
abbrev Q9 (K:aT) (x:Str) (C:aa3):Prop:=aaO K aaR x=θ (θ (.ref C))
section
variable {W:Wd}
def Ro {O:afO} {p:Pos} (r:X.mg x=θ (.ref C)) (hn:Q9 W.K x C) (hg:Gl X x:=by rfl) (g:afX x:=by decide):JE X (.Name x p) (tD W O (vC (.cls x))) :=
 ⟨fun af s σ H Q I ⟨as0,B,own,U,_,h⟩=>i9 I hg r ⟨.ref C,H,I,rfl,h _ H (aw.refl _) ⟨C,rfl,hn⟩⟩ g⟩
end
section
variable {X:Cx} {W:Wd} {Ob O:afO} {e:abu} {ε:FE} {pos:Pos}
def UV (i:Nat) (U:Sd) (a:Int) (d:D):R Fl:=match d with
 | .int b=>.ok (.nx (U.set i (θ (.int (a+b)))))
 | _=>.no
def lO (i:Nat) (ε:FE):FS:=fun U=>match U[i]? with
 | some (θ (.int a))=>(ε U).bind (UV i U a)
 | _=>.no
theorem Bx {pos':Pos} (r:i∉O) (C:X.N.Nodup) (J:wE X.env.scope x) (M:JE X e (tD W O ε)) (z:X.N[i]?=θ x:=by rfl) (Y:X.fn x=ζ\/X.env.scope.names.lookup x=θ .local:=by walk_at"u") :
  JS X (.AugAssign (.Name x pos') .Add e pos) (sD W Ob O O (lO i ε)) :=
 (JS.mk (NL C z J M.out Jh Y)).imp fun D' σ H L=>cP L fun as0 B own U I h=>by
  unfold lO at h;split at h
  .rename_i a ha;let ⟨v,hv,dv⟩:=I.var i _ r ha
   cases dv;refine ⟨.int a,hv,as0,B,own,U,I,cw I h fun d v H' s g h'=>?_⟩;unfold UV at h';split at h'
   .cases g;exact ⟨_,_,rfl,rfl,h' own _ H' ((I.mono s).set r rfl)⟩
   .exact h'.elim
  .exact h.elim
end
end L2
namespace TS
open PySem PyProof.Rows
structure TO {α:Type} (lt:α->α->Prop):Prop where
 irr:∀ a,¬ lt a a
 tr:∀ a b c,lt a b->lt b c->lt a c
 tri:∀ a b,lt a b\/a=b\/lt b a
abbrev K4:Type:=Int×Int×List Nat×Int
def Cv (x y:K4):Prop:=x.1 < y.1\/(x.1=y.1/\(x.2.1 < y.2.1\/(x.2.1=y.2.1/\(x.2.2.1 < y.2.2.1\/(x.2.2.1=y.2.2.1/\x.2.2.2 < y.2.2.2)))))
instance (x y:K4):Decidable (Cv x y):=by unfold Cv;infer_instance
section
def l1 {a a':Int} {k l:Int×List Nat×Int} (h:a≠a'):Cv (a,k) (a',l) ↔ a < a':=by simp [Cv,h]
def l2 {a b b':Int} {k l:List Nat×Int} (h:b≠b'):Cv (a,b,k) (a,b',l) ↔ b < b':=by simp [Cv,h]
def l3 {a b c g:Int} {m n:afO} (h:m≠n):Cv (a,b,m,c) (a,b,n,g) ↔ m < n:=by simp [Cv,h]
def l4 {a b c c':Int} {m:afO}:Cv (a,b,m,c) (a,b,m,c') ↔ c < c':=by simp [Cv,List.lt_irrefl]
end
end TS
namespace L2
open PySem PySem.Spec PyProof.Rows
open TS (K4 Cv)
def Cp {α:Type} {a:α} {P:Prop} (h:(ξ:Option α)=θ a):P:=by cases h
def ZV:D->Option Int
 | .int n=>θ n
 | _=>ξ
def Kk (h:ZV d=θ n):d=.int n:=by
 cases d with
 | int i=>exact afN D.int (ab9 h)
 | _=>exact Cp h
noncomputable def Xk (v:D) (n:Int):Option K4:=match v with
 | .non=>θ (0,0,[],n)
 | .int i=>θ (1,i,[],n)
 | .str z=>θ (2,0,z.cps.toList,n)
 | _=>ξ
def ZB (xs:afW):Option K4:=match xs with
 | [v,w]=>(ZV w).bind (Xk v)
 | _=>ξ
def yg (d:D):Option K4:=match d with
 | .tup xs=>ZB xs
 | _=>ξ
noncomputable def ax (k:K4):D:=if k.1=0 then .tup [.non,.int k.2.2.2] else if k.1=1 then .tup [.int k.2.1,.int k.2.2.2] else .tup [.str ⟨k.2.2.1.toArray⟩,.int k.2.2.2]
theorem Da (h:yg d=θ k):ax k=d:=by
 cases d with
 | tup xs =>
  match xs,h with
  | [],h=>exact Cp h
  | [v],h=>exact Cp h
  | [v,w],h =>
   let ⟨n,e1,e2⟩:=bY.mp h
   rw [Kk e1];cases v with
   | non=>cases e2;rfl
   | int i=>cases e2;rfl
   | str z=>cases e2;rfl
   | _=>exact Cp e2
  | v::w::u::r,h=>exact Cp h
 | _=>exact Cp h
end L2
namespace L2
open PySem PySem.Spec PyProof.Rows
section
variable {X:Cx} {W:Wd} {Ob O O2:afO} {e:abu} {φ:FE} {pos p1 apos cpos:Pos} {x:Str}
noncomputable def qd (i:Nat):FS:=fun U=>match U[i]? with
 | some (θ (.lst xs))=>.ok (.nx (U.set i (θ (.lst []))))
 | _=>.no
theorem Hq {i:Nat} (J:i∈O) (L:X.N[i]?=θ x:=by rfl) (r:(apos.endLine==cpos.line)=ζ:=by rfl) (hv:oy X.env.scope x:=by walk_at"v") (Y:afX x:=by decide)
  (u:(x==("__classdict__":Str))=η:=by decide) (g:abg (.Name x p1) "clear" X.env (eval (.Name x p1) X.env)=eval (.Name x p1) X.env:=by rfl)
  (hs:acq (.Call (.Attribute (.Name x p1) "clear" apos) [] [] cpos) ξ pos.line X.env=pure η:=by rfl) (hW:W.K=X.K:=by rfl) :
  JS X (.Expr (.Call (.Attribute (.Name x p1) "clear" apos) [] [] cpos) pos) (sD W Ob O O (qd i)) :=
 (oH (Sy aen PySem.F.slot_list_clear PySem.F.type_list_clear DU (jv i L hv Y u) g r) hs).imp fun D σ H M=>cP M fun as0 B own U I h=>by
  obtain ⟨a,z⟩:=b6 I.olen J;obtain ⟨d,o,h1,h2,C,Z⟩:=I.owns i a z;show mW σ[i]? H (fun x H1=>UI X.K "list" x H1/\Fe x [] H1 (fun _ H3=>D.nx σ H3));rw [h2];unfold qd at h;rw [h1] at h;cases d with
  | lst ds =>
   obtain ⟨xs,rfl,q⟩:=Z;refine ⟨.inl ⟨rfl,xs,e8.of C⟩,a,xs,rfl,rfl,C,?_⟩;exact h own σ _ (I.mutate z ⟨[],rfl,aN.nil⟩)
  | _=>exact h.elim
end
section
variable {W:Wd} {X:Cx}
def dE (p:ab7):List ab7->Option Bool
 | []=>θ η
 | q::r=>if aaP q=ζ/\q.depth<=32 then (dE p r).map fun b=>abw q p||b else ξ
def hZ (x:D) (xs:afW):Option Bool:=match bx x,bU xs with
 | some p,θ ps=>if aaP p=ζ then dE p ps else ξ
 | _,_=>ξ
def TU (K:aT):R2:=fun x y H Q=>∃ p a ds xs k,y=.ref p/\g6 K H p xs/\b9 K H a x/\aN K H ds xs/\hZ a ds=θ k/\Q (.bl k) H
open Classical in
noncomputable def ln (s:DO) (p:ab7) (u:oR):Bool:=decide (∃ q bs,Reads s.heap u q bs/\q.canLay0=ζ/\abw q p=ζ)
theorem FB (r:Reads s.heap u q bs) (v:q.canLay0=ζ):ln s p u=abw q p:=by
 classical
 cases e:abw q p with
 | true=>exact @afL _ (_) ⟨q,bs,r,v,e⟩
 | false =>
  refine @afK _ (_) fun ⟨q',g,z,_,C⟩=>?_
  have:=SeqAt.Reads.unique q q' u bs g v r z
  grind
theorem pj {Z:afQ} {σ:St} {H:Hp} {s:DO} (I:Inv X Z σ H s) (Y:X.A.units+64 < adu) {v:oR} {p:ab7} {as:afT} (L:Reads s.heap v p as) (J:aaP p=ζ):∀ {ds:afW} {vs:afV} {us:afU} {ps:List ab7} {k:Bool},aN X.K H ds vs->ba vs us->bU ds=θ ps->dE p ps=θ k ->
  (∀ u∈us,afi X.A.in1 s u v (ln s p u))/\us.any (ln s p)=k
 | [],_,_,_,_,h,r,e,q=>by
  cases h;cases r;cases e;cases q
  grind
 | d::ds,_,_,_,k,⟨w1,ws,h0,h1,h2⟩,r,e,q=>by
  subst h0;unfold bU at e;cases q1:bx d with
  | none=>simp_all
  | some x =>
   rw [q1] at e;cases q2:bU ds with
   | none=>grind
   | some xs =>
    rw [q2] at e;cases e;unfold dE at q;split at q
    .rename_i hs;cases q3:dE p xs with
     | none=>grind
     | some k2 =>
      cases r with
      | @cons _ u _ us r1 r2 =>
       let ⟨bs,hb⟩:=cR I h1 r1 q1
       let ⟨i1,i2⟩:=pj I Y L J h2 r2 q2 q3
       have C:=ab6 hs.1;have ef:=FB (p:=p) hb C;refine ⟨fun M g=>?_,by grind⟩;rcases mK.mp g with z|z
       .subst z;rw [ef];refine SeqAt.eqAt_reads x p X.A.in1 s _ v bs as hb L C (ab6 J) ?_
        grind
       .exact i1 M z
    .cases q
def GI (h:hZ x xs=θ k):∃ p ps,bx x=θ p/\bU xs=θ ps/\aaP p=ζ/\dE p ps=θ k:=by
 unfold hZ at h;split at h
 .simp_all
 .cases h
theorem Tj (K:aT) (z:X.A.units+64 < adu) (L:X.K=K:=by rfl):cD X (aa1 .In) (TU K):=by
 subst L;intro af s σ H x y v u Q I C Y h;obtain ⟨p,a,ds,xs,k,rfl,hl,da,M,e,q⟩:=h;cases Y;obtain ⟨g,ps,h1,h2,Z,J⟩:=GI e;let ⟨as,ra⟩:=cR I da C h1
 let ⟨its,r,pl,hz⟩:=I.tuple hl
 let ⟨i1,i2⟩:=pj I z ra Z M r h2 J
 refine afu (ln s g) pl (fun y hy=>i1 y (by simpa using hy)) ⟨.bl k,H,I,?_,q⟩;rw [show (its.toArray.any (ln s g))=its.any (ln s g) by simp,i2];rfl
def Lg (x y:D):Option Bool:=match y with
 | .tup ds=>hZ x ds
 | _=>ξ
def qE (x y:D):R D:=d7 (Lg x y) fun k=>k
theorem Rt (K:aT) (hW:W.K=K:=by rfl):jm W (TU K) qE:=by
 subst hW;intro as H x y a b Q hn r g h;unfold qE at h;cases e:Lg a b with
 | none=>rw [e] at h;exact h.elim
 | some k =>
  rw [e] at h;have fin:=aH h ((rfl));cases b with
  | tup ds =>
   obtain ⟨p,xs,rfl,h1,h2⟩:=g;exact ⟨p,a,_,xs,k,rfl,(ar _ _).seqT h1,r.mono (ar _ _),h2.mono (ar _ _),e,fin⟩
  | _=>cases e
end
end L2
namespace HT
open PySem PySem.Spec PyProof.Rows L2
section
theorem kc {lo u:Option Int} (g:afo s.heap t items) (hs:s.heap.IsSliceOf sl vl vu .none) (z:IsPart vl lo) (C:IsPart vu u)
  (hw:sIx items.size 0 lo=0/\sIx items.size items.size u=items.size) (h:Q (.ref t) s):aaN (aaV prog w) A (aea (.ref t) (.ref sl)) Q E s:=by
 let ⟨os,hos,hcs,hds⟩:=id hs
 have v:s.TypeIs (.ref sl) "slice":=⟨os,hos,hcs⟩;unfold aea;try with_reducible refine abW ?_
 refine dO (wpAny_sequenceKey g.typeIs (by decide) ?_);refine dO (abY g.typeIs abq
  (ab1 abq g.typeIs entry_tuple_getitem ?_ (args_tuple_getitem _ _)))
 show aaN _ _ (ad0 (.ref t) >>= _) _ _ s;refine dO (tupleItemsOf_ g ?_);refine dO (wpAny_typeOf v ?_);refine dO (iw hs z C ?_);have r:(((sIx items.size 0 lo):Int)==0&&(1:Int)==1&&(sIx items.size items.size u - sIx items.size 0 lo)==items.size)=ζ:=by
  simp_all
 show aaN _ _ (if (((sIx items.size 0 lo):Int)==0&&1==1&&(sIx items.size items.size u - sIx items.size 0 lo)==items.size)=ζ then _ else _) _ _ s;rw [afI r];refine dO ?_;refine dO (wpAny_typeOf g.typeIs (rW ?_))
 first
  | assumption
  | lia
  | lia
  | exact dO (aeM (rW ⟨_,rfl,rW h⟩))
end
end HT
namespace L2
open PySem PySem.Spec PyProof.Rows
section
variable {X:Cx} {W:Wd}
def UG (K:aT):V->Option Int->Option Int->Hp->VK->Prop:=fun x lo g H Q=>∃ a xs,x=.ref a/\g6 K H a xs/\(HT.sIx xs.length 0 lo=0/\HT.sIx xs.length xs.length g=xs.length)/\Q (.ref a) H
theorem Dm:uW X (UG X.K):=by
 intro Z s σ H x v L M lo J Y Q I C hs g z h;obtain ⟨a,xs,rfl,u,hw,q⟩:=h;cases C;let ⟨its,r,ht,hz⟩:=I.tuple u
 have hlen  := by exact r.length.symm
 refine ⟨"tuple",_,abq.lookup,ht.typeIs,?_⟩;exact HT.kc ht hs g z (by grind) ⟨.ref a,H,I,rfl,q⟩
def Wz (K:aT) (x:V) (lo g:Option Int) (H:Hp) (Q:VK):Prop:=Va K x lo g H Q\/UG K x lo g H Q
def V8 (K:aT) (g:X.K=K:=by rfl):uW X (Wz K):=by
 subst g;exact U3.or Dm
def rl (a:D) (lo g:Option Int):R D:=match a with
 | .tup xs=>if HT.sIx xs.length 0 lo=0/\HT.sIx xs.length xs.length g=xs.length then .ok (.tup xs) else .ok (.tup (ib xs lo g))
 | d=>jn d lo g
theorem Uq (K:aT) (hW:W.K=K:=by rfl):W7 W (Wz K) rl:=by
 subst hW;intro as H x lo r a Q hn g h;unfold rl at h;split at h
 .split at h
  .rename_i hc;have z:=g;obtain ⟨p,vs,rfl,v,u⟩:=g;rw [u.len] at hc;exact .inr ⟨p,vs,rfl,(ar _ _).seqT v,hc,aH h z⟩
  .refine .inl (XN W.K rfl as H x lo r _ Q hn g ?_);unfold jn
   grind
 .exact .inl (XN W.K rfl as H x lo r _ Q hn g h)
theorem SQ {lo g:Option Int}:rl (.tup xs) lo g=.ok (.tup (ib xs lo g)):=by
 unfold rl;dsimp only;split
 .unfold ib
  grind
 .rfl
end
section
variable {X:Cx} {W:Wd} {Ob O O2:afO} {e ie:abu} {φ ε:FE} {pos p1 spos:Pos} {x:Str}
abbrev FG:Type:=D->Sd->R Sd
def gF (W:Wd) (O:afO) (f:FG):TG:=fun v σ H Q=>∃ as0 B own U d,DI W.K as0 B O own σ U H/\b9 W.K (aD (own++as0) H) d v/\match f d U with
 | .ok δ'=>∀ g H',aw (aD (own++as0) H) (aD (own++as0) H')->DI W.K as0 B O own g δ' H'->Q g H'
 | _=>False
def QI (h:JG X t (gD W O tg)):JG X t (gF W O (dJ tg)):=h.imp fun v σ H Q ⟨as0,B,own,U,d,I,dv,h⟩=>by
 refine ⟨as0,B,own,U,d,I,dv,?_⟩;cases q:dJ tg d U with
 | ok δ'=>rw [q] at h;exact fun g r=>h g H (fun _ _ e=>e) r
 | er y=>rw [q] at h;exact h
 | no=>rw [q] at h;exact h
def xR (f:FG) (ε:FE):FS:=fun U=>(ε U).bind fun d=>match f d U with
 | .ok δ'=>.ok (.nx δ')
 | _=>.no
def OZ (J:JE X e (tD W O ε)) (hg:JG X t (gF W O f)) (hs:swapsWithSole [t] e pos.line X.env=pure η:=by rfl) (hw:swappedStores [t] e X.env=pure ξ:=by rfl)
  (h1:(abz [t] X.env).map (·.2)=[assign t X.env]:=by rfl):JS X (.Assign [t] e pos) (sD W Ob O O (xR f ε)):=(CK J hg hs hw h1).imp fun D σ H u=>cP u fun as0 B own U I h =>
 ⟨as0,B,own,U,I,cw I h fun d v H' s r h'=>by
  refine ⟨as0,B,own,U,d,I.mono s,r,?_⟩;cases e1:f d U with
  | ok δ'=>rw [e1] at h';exact fun g z _ C=>h' own g z C
  | er y=>rw [e1] at h';exact h'
  | no=>rw [e1] at h';exact h'⟩
def Hr (h:ε U=.ok d) (g:f d U=.ok δ'):xR f ε U=.ok (.nx δ'):=by
 unfold xR;rw [h];show (match f d U with|.ok δ'=>R.ok (Fl.nx δ')|_=>.no)=_;rw [g]
end
section
variable {X:Cx} {W:Wd} {O:afO} {tg:abu}
def D7 {ws:afU} (ht:afo s.heap t #[]) (hb:afo s.heap b ws.toArray) (h:Q (.ref b) s):aaN (aaV prog w) A (ab3 .Add (.ref t) (.ref b)) Q E s:=by
 obtain ⟨⟨L,Z,J,sl⟩,C,hc,n,Y⟩:=id ht;obtain ⟨⟨I,r,data2,z⟩,g,u,M,v⟩:=id hb;subst hc Y u v;exact concat_meets ⟨_,C,rfl⟩ ⟨_,g,rfl⟩ noFill_tuple_add seq_tuple_add adx ado (adk _ _) (tuple_addW0 t b #[] ws.toArray n M Z r sl z rfl) ⟨C,g,h⟩
def Ej (K:aT):R2:=fun x y H Q=>AJ K x y H Q\/∃ l b zs,x=.ref l/\y=.ref b/\g6 K H l []/\g6 K H b zs/\Q (.ref b) H
def Np (K:aT) (r:X.K=K:=by rfl):cD X (ab3 .Add) (Ej K):=by
 subst r;refine (LL X.K).or ?_;intro C s σ H x y v u Q I g z h;obtain ⟨l,b,zs,rfl,rfl,h1,h2,q⟩:=h;cases g;cases z;let ⟨its,r1,p1,_⟩:=I.tuple h1
 let ⟨its2,r2,p2,_⟩:=I.tuple h2
 cases r1;exact D7 p1 p2 ⟨.ref b,H,I,rfl,q⟩
def jg (a b:D):R D:=match a with
 | .tup []=>(match b with
  | .tup ys=>.ok (.tup ys)
  | _=>.no)
 | a=>bq a b
def SX (K:aT) (hW:W.K=K:=by rfl):jm W (Ej K) jg:=by
 intro as H x y a b Q hn u g h;unfold jg at h;split at h
 .split at h
  .obtain ⟨p,vs,rfl,v,z⟩:=u;cases z;obtain ⟨p2,ws,rfl,r,C⟩:=g;subst hW;exact .inr ⟨p,p2,ws,rfl,rfl,(ar _ _).seqT v,(ar _ _).seqT r,aH h ⟨p2,ws,rfl,r,C⟩⟩
  .exact h.elim
 .exact .inl (Rr K hW as H x y a b Q hn u g h)
variable {apos cpos:Pos}
end
section
variable {σ:St}
theorem Inv.frzD (I:Inv X af σ H s) (e:H a=θ (.dK kvs)):∃ o,Inv X af σ (upd H a (.frz o (.dK kvs))) s:=by
 have ok  := I.hok a _ e;obtain ⟨z,y,vs,r,ob,es,C,g,c⟩:=id ok;refine ⟨ob,?_⟩;have ne:∀ b u,H b=θ u->u≠.dK kvs->b≠a:=fun b u q n z=>by simp_all
 refine I.step (ch:=[]) (fun _ z=>nomatch z) (fun b o _ _ _ q _=>q) (fun b o _ _ _ q _=>⟨o.slots,q⟩)
  (fun b o _ _ n=>by rw [aF (fun z=>by grind)];exact n) (fun b o _ q=>⟨o,q⟩)
  (fun b xs q=>by rw [aF (ne b _ q (fun z=>nomatch z))];exact q) (fun b o u q=>by rw [aF (ne b _ q (fun z=>nomatch z))];exact q) (fun b ps q=>by rw [aF (ne b _ q (fun z=>nomatch z))];exact q) (fun m h=>h) ?_ I.bare
 intro b u q;have st:∀ {b:aa3} {u:HO},c7 X.prog X.w H s.heap b u->c7 X.prog X.w (upd H a (.frz ob (.dK kvs))) s.heap b u:=fun {b u} x =>
  x.stay (fun c v _ q=>q) (fun c q=>by rw [aF (ne c _ q (fun z=>nomatch z))];exact q) fun c xs q=>⟨by rw [aF (ne c _ q.1 (fun z=>by have:=q.2;subst z;exact this))];exact q.1,q.2⟩
 by_cases hb:b=a
 .subst hb;rw [aK] at q;cases q;exact ⟨g,st ok⟩
 .rw [aF hb] at q;exact st (I.hok b u q)
end
def fzD:D->R D
 | .dct ds=>.ok (.dcf ds)
 | _=>.no
def HG (φ:FE):FE:=fun U=>(φ U).bind fzD
section
variable {X:Cx} {W:Wd} {Ob O O2 O':afO} {e:abu} {φ:FE} {ψ:FS} {st:ac2} {sts:List ac2}
theorem M9 (h:JE X e (tN W O φ)):JE X e (tD W O (HG φ)):=by
 refine ⟨fun L s σ H Q I q=>?_⟩;let ⟨as0,B,own,U,DIh,q⟩:=q
 have q':fG W (own++as0) H (φ U) fun v H1=>∃ p g,v=.ref p/\H1 p=θ (.dK g)/\∀ o,Q v (upd H1 p (.frz o (.dK g))):=by
  unfold HG at q;cases hr:φ U with
  | er x=>rw [hr] at q;exact q
  | no=>rw [hr] at q;exact q
  | ok d =>
   rw [hr] at q;cases d with
   | dct ds =>
    intro p o H' r C J od;obtain ⟨xs,rfl,od⟩:=od;refine ⟨p,xs,rfl,J,fun ob=>?_⟩;have hn:=DIh.new C;refine q (.ref p) _ (fun b u z=>?_) ⟨p,ob,xs,rfl,?_,od.mono fun b u z=>?_⟩
    .rw [aF (bf z C)];exact r b u z
    .rw [aV hn];exact aK
    .by_cases hb:b∈p::(own++as0)
     .rw [cY hb] at z;cases z
     .rw [aV hb] at z;have h1:=fun w=>hb (mK.mpr (.inl w));have h2:=fun w=>hb (mK.mpr (.inr w));rw [aV h2,aF h1];exact z
   | _=>exact q.elim
 refine abn (h.out L s σ H _ I ⟨as0,B,own,U,DIh,q'⟩) (fun u r ⟨x,H1,I1,rx,p,g,e1,e2,hq⟩=>by
  let ⟨o,I2⟩:=I1.frzD e2
  exact ⟨x,_,I2,rx,hq o⟩) fun _ _ h=>h
theorem DI.frzO {K:aT} (I:DI K as0 B O own σ U H) (L:(i,a)∈O.zip own) (h1:U[i]?=θ (θ (.dct ds))) (h2:σ[i]?=θ (θ (.ref a)))
  (h4:b8 K (aD (own++as0) H) ds xs) (ob:Obj):∃ r,DI K as0 B (O.filter fun k=>decide (k≠i)) r σ (U.set i (θ (.dcf ds))) (upd H a (.frz ob (.dK xs))):=by
 generalize hp:(fun k:Nat=>decide (k≠i))=p;have pi:∀ k,p k=decide (k≠i):=fun k=>by rw [<- hp]
 have C:(bt p O own).Sublist own:=gO;have mem:∀ a∈bt p O own,a∈own:=fun a g=>C.mem g;have g:a∈own:=(abb L).2;have hil:i < U.length:=(aaW.mp h1).1;have J:a∉bt p O own:=fun z=>by
  obtain ⟨j,h5,h6⟩:=gP z
  have:=zip_inj I.nd L h5
  subst this;rw [pi] at h6;exact afM h6 rfl
 have s:aw (aD (own++as0) H) (aD (bt p O own++as0) (upd H a (.frz ob (.dK xs)))):=fun b u z=>by
  by_cases hb:b∈own++as0
  .rw [cY hb] at z;cases z
  .rw [aV hb] at z;rw [aV fun w=>hb ?_,aF fun w=>hb ?_]
   .exact z
   .rw [w];exact abh _ g
   .rcases By.mp w with w|w
    .exact abh _ (mem b w)
    .exact aaM _ w
 refine ⟨bt p O own,by simp [I.len],jJ I.olen,I.nd.sublist C,I.ond.sublist adT,fun a g=>I.fresh a (mem a g),I.ex0,fun b u z=>?_,fun j d M q=>?_,fun j b M=>?_⟩
 .rw [aF (fun w=>by rw [w,I.fresh a g] at z;cases z)];exact I.same b u z
 .rw [getElem?_set'] at q;split at q
  .rename_i hij;subst hij;cases q;refine ⟨.ref a,h2,a,ob,xs,rfl,?_,h4.mono s⟩;rw [aV fun w=>?_]
   .exact aK
   .rcases By.mp w with w|w
    .exact J w
    .exact I.apart a g w
  .have hO  := fun w=>M (aba.mpr ⟨w,by grind⟩);let ⟨v,q1,q2⟩:=I.var j d hO q
   exact ⟨v,q1,q2.mono s⟩
 .let ⟨hz,hpj⟩:=dY M
  let ⟨d,o,q1,q2,q3,q4⟩:=I.owns j b hz
  have Y:i≠j:=fun z=>by simp_all
  have Z:b≠a:=fun z=>Y (zip_inj I.nd L (z ▸ hz));exact ⟨d,o,by simp_all,q2,by rw [aF Z];exact q3,q4.mono s⟩
noncomputable def Cy (i:Nat) (ψ:FS):FS:=fun U=>match U[i]? with
 | some (θ (.dct ds))=>ψ (U.set i (θ (.dcf ds)))
 | _=>.no
theorem N5 {σ:St} {D:Ends} (u:i∈O) (I:Inv X af σ H s) (q:sD W Ob O O' (Cy i ψ) D σ H):∃ H',Inv X af σ H' s/\sD W Ob (O.filter fun k=>decide (k≠i)) O' ψ D σ H':=by
 obtain ⟨as0,B,own,U,g,q⟩:=q;let ⟨a,ha⟩:=b6 g.olen u
 obtain ⟨d,o,h1,h2,v,r⟩:=g.owns i a ha;unfold Cy at q;rw [h1] at q;cases d with
 | dct ds =>
  obtain ⟨xs,rfl,r⟩:=r;let ⟨ob,I'⟩:=I.frzD v
  let ⟨own2,D2⟩:=g.frzO ha h1 h2 r ob
  exact ⟨_,I',as0,B,own2,_,D2,q⟩
 | _=>exact q.elim
def Vg (h:JB X sts (sD W Ob O2 O' ψ)) (g:i∈O:=by decide) (u:O.filter (fun k=>decide (k≠i))=O2:=by decide):JB X sts (sD W Ob O O' (Cy i ψ)):=by
 subst u;refine ⟨fun v s σ H D I q=>?_⟩;obtain ⟨H',r,q'⟩:=N5 g I q;exact h.out v s σ H' D r q'
end
def m4:D->Option Key
 | .int i=>θ (.inl i)
 | .str x=>θ (.inr x)
 | .non=>θ .nn
 | _=>ξ
noncomputable def nv:Key->D
 | .inl i=>.int i
 | .inr x=>.str x
 | .nn=>.non
def ju {K:aT} (h:b9 K H d v) (e:m4 d=θ k):v=kV k:=by
 cases d with
 | int i=>cases e;exact h
 | str x=>cases e;exact h
 | non=>cases e;exact h
 | _=>cases e
def pI {K:aT}:∀ k:Key,b9 K H (nv k) (kV k)
 | .inl i=>rfl
 | .inr x=>rfl
 | .nn=>rfl
noncomputable def bV (g:List (Key×D)) (k:Key):Option D:=(g.find? fun r=>decide (r.1=k)).map (·.2)
def c9 (g:List (Key×D)) (k:Key) (d:D):List (Key×D) :=
 if (bV g k).isSome=ζ then g.map fun q=>if q.1=k then (q.1,d) else q else g++[(k,d)]
section
variable {K:aT}
theorem b8.val:∀ {ds:List (Key×D)} {xs:List (Key×V)} (k:Key),b8 K H ds xs->(bV ds k=ξ/\iu xs k=ξ)\/∃ d v,bV ds k=θ d/\iu xs k=θ v/\b9 K H d v
 | [],_,k,h=>by cases h;exact .inl ⟨rfl,rfl⟩
 | (k',d)::r,_,k,⟨v,vs,e,h1,h⟩=>by
  subst e;by_cases q:k'=k
  .exact .inr ⟨d,v,by simp [bV,abl,q],mC q,h1⟩
  .rw [mB q,show bV ((k',d)::r) k=bV r k by simp [bV,abl,q]];exact b8.val k h
theorem b8.len:∀ {ds:List (Key×D)} {xs:List (Key×V)},b8 K H ds xs->ds.length=xs.length
 | [],_,h=>by cases h;rfl
 | (k',d)::r,_,⟨v,vs,e,_,h⟩=>by subst e;simp [b8.len h]
theorem b8.snoc:∀ {ds:List (Key×D)} {xs:List (Key×V)} {k:Key} {d:D} {v:V},b8 K H ds xs->b9 K H d v->b8 K H (ds++[(k,d)]) (xs++[(k,v)])
 | [],_,k,d,v,h,hd=>by cases h;exact ⟨v,[],rfl,hd,rfl⟩
 | (k',d')::r,_,k,d,v,⟨v',vs,e,h1,h⟩,hd=>by subst e;exact ⟨v',_,rfl,h1,b8.snoc h hd⟩
theorem b8.repl:∀ {ds:List (Key×D)} {xs:List (Key×V)} (k:Key) {d:D} {v:V},b8 K H ds xs->b9 K H d v ->
  b8 K H (ds.map fun q=>if q.1=k then (q.1,d) else q) (xs.map fun q=>if q.1=k then (q.1,v) else q)
 | [],_,k,d,v,h,hd=>by cases h;exact rfl
 | (k',d')::r,_,k,d,v,⟨v',vs,e,h1,h⟩,hd=>by
  subst e;rw [GE,GE];have g:=b8.repl k h hd;by_cases q:k'=k
  .rw [afI q,afI q];exact ⟨v,_,rfl,hd,g⟩
  .rw [afJ q,afJ q];exact ⟨v',_,rfl,h1,g⟩
def b8.put (h:b8 K H ds xs) (g:b9 K H d v):b8 K H (c9 ds k d) (jj xs k v):=by
 have e:(bV ds k).isSome=(iu xs k).isSome:=by
  rcases h.val k with ⟨a,b⟩|⟨a,b,r,u,_⟩
  .rw [a,b];rfl
  .rw [r,u];rfl
 unfold c9 jj;rw [pS,e];split
 .exact h.repl k g
 .exact h.snoc g
end
section
variable {X:Cx} {W:Wd} {Ob O O':afO} {a b e:abu} {φ ψ χ ε:FE} {pos p1 p2 apos cpos:Pos} {x:Str}
def CV:V->V->V->Hp->(Hp->Prop)->Prop:=fun o i v H Q=>∃ p g k,o=.ref p/\i=kV k/\H p=θ (.dK g)/\g.length < RW/\Q (upd H p (.dK (jj g k v)))
def BM (r:X.A.units+1 < adu):PD X CV:=by
 intro af s σ H o i v ov Z u Q I g z M h;obtain ⟨p,J,k,rfl,rfl,C,hl,q⟩:=h;cases g;exact A6 r I (Ln.k C hl) z M fun Y L=>⟨_,L,q⟩
def km (i:Nat) (ψ ε:FE):FS:=fun U=>match U[i]? with
 | some (θ (.dct kvs))=>(ε U).bind fun d=>(ψ U).bind fun k=>match m4 k with
  | some k=>if kvs.length < 1000000 then .ok (.nx (U.set i (θ (.dct (c9 kvs k d))))) else .no
  | none=>.no
 | _=>.no
theorem KR {spos:Pos} (M:X.A.units+64 < adu) (Z:i∈O) (he:JE X e (tD W O ε)) (J:JE X ie (tD W O ψ)) (hN:X.N[i]?=θ x:=by rfl) (hv:oy X.env.scope x:=by walk_at"v") (hd:afX x:=by decide)
  (L:(x==("__classdict__":Str))=η:=by decide) (hs:swapsWithSole [.Subscript (.Name x p1) ie spos] e pos.line X.env=pure η:=by rfl) (hw:swappedStores [.Subscript (.Name x p1) ie spos] e X.env=pure ξ:=by rfl)
  (h1:(abz [.Subscript (.Name x p1) ie spos] X.env).map (·.2)=[assign (.Subscript (.Name x p1) ie spos) X.env]:=by rfl)
  (ha:∀ v,assign (.Subscript (.Name x p1) ie spos) X.env v=(do
   let ov <- holding [v] (eval (.Name x p1) X.env)
   let iv <- holding [v,ov] (eval ie X.env)
   ae1 spos
   holding [v,ov,iv] (setItem ov iv v)
   release [v,ov,iv] []):=by intro _;rfl) :
  JS X (.Assign [.Subscript (.Name x p1) ie spos] e pos) (sD W Ob O O (km i ψ ε)) :=
 (CK he (P8 (jv i hN hv hd L) J (BM (by lia)) ha) hs hw h1).imp fun D σ H hh=>cP hh fun as0 B own U I h=>by
  let ⟨a,hza⟩:=b6 I.olen Z
  let ⟨d,o,h1,h2,h3,h4⟩:=I.owns i a hza
  unfold km at h;rw [h1] at h;cases d with
  | dct ds =>
   obtain ⟨xs,rfl,q⟩:=h4;refine ⟨as0,B,own,U,I,cw I h fun y v z r d2 hq=>?_⟩;have e0:MY (tm i) (tD W O ψ) CV v σ z D.nx=mW σ[i]? z (fun o H1=>tD W O ψ σ H1 fun i z=>CV o i v z fun Y=>D.nx σ Y):=rfl;rw [e0,h2];refine ⟨as0,B,own,U,I.mono r,cw (I.mono r) hq fun k u Y C d3 g=>?_⟩;cases e:m4 k with
   | none=>rw [e] at g;exact g.elim
   | some ks =>
    rw [e] at g;have g:dZ W as0 B Ob O (if ds.length < 1000000 then .ok (.nx (U.set i (θ (.dct (c9 ds ks y))))) else .no) D:=g;split at g
    .have M:=ju d3 e;subst M;have hm:=du;refine ⟨a,xs,ks,rfl,rfl,(r.trans C) _ _ h3,by rw [<- q.len];lia,?_⟩;exact g own σ _ (((I.mono r).mono C).mutate hza ⟨_,rfl,(q.mono (aJ (r.trans C))).put (d2.mono (aJ C))⟩)
    .exact g.elim
  | _=>exact h.elim
def fW (g:List (Key×D)) (k:Key):List (Key×D):=g.filter fun r=>decide (r.1≠k)
theorem b8.drop {K:aT}:∀ {ds:List (Key×D)} {xs:List (Key×V)} (k:Key),b8 K H ds xs->b8 K H (fW ds k) (iA xs k)
 | [],_,k,h=>by cases h;exact rfl
 | (k',d')::r,_,k,⟨v',vs,e,h1,h⟩=>by
  subst e;have g:=b8.drop k h;by_cases q:k'=k
  .rw [(Cg q),show fW ((k',d')::r) k=fW r k by simp [fW,ace,q]];exact g
  .rw [(BP q),show fW ((k',d')::r) k=(k',d')::fW r k by simp [fW,ace,q]];exact ⟨v',_,rfl,h1,g⟩
def pY (i:Nat) (ψ:FE):FS:=fun U=>match U[i]? with
 | some (θ (.dct kvs))=>(ψ U).bind fun k=>match m4 k with
  | some k=>if (bV kvs k).isSome=ζ then .ok (.nx (U.set i (θ (.dct (fW kvs k))))) else .no
  | none=>.no
 | _=>.no
theorem IW (hi:i∈O) (he:JE X e (tD W O ε)) (hN:X.N[i]?=θ x:=by rfl) (hn:aI e=ζ:=by rfl) (z:(apos.endLine==cpos.line)=ζ:=by rfl) (hv:oy X.env.scope x:=by walk_at"v") (hd:afX x:=by decide)
  (J:(x==("__classdict__":Str))=η:=by decide) (r:abg (.Name x p1) "pop" X.env (eval (.Name x p1) X.env)=eval (.Name x p1) X.env:=by rfl)
  (hs:acq (.Call (.Attribute (.Name x p1) "pop" apos) [e] [] cpos) ξ pos.line X.env=pure η:=by rfl)
  (C:((acL cpos (aa2 [e] X.env)).all (fun x=>!x.1)&&(backToKw cpos (adj [] X.env)).all (fun x=>x.1.isSome)&&decide (([e]:List abu).length+([]:List adv).length+(if ([]:List adv).isEmpty then 0 else 1) < 30))=ζ:=by rfl)
  (Z:acL cpos (aa2 [e] X.env)=[(η,eval e X.env)]:=by rfl) :
  JS X (.Expr (.Call (.Attribute (.Name x p1) "pop" apos) [e] [] cpos) pos) (sD W Ob O O (pY i ε)) :=
 (oH ⟨Fn (jv i hN hv hd J).out he.out ⟨r,C,z,Z⟩⟩ hs).imp fun D σ H hh=>cP hh fun as0 B own U I h=>by
  let ⟨a,ha⟩:=b6 I.olen hi
  let ⟨d,o,h1,h2,h3,h4⟩:=I.owns i a ha
  have e0:yV (E3 (tm i) (tD W O ε)) D σ H=mW σ[i]? H (fun x H1=>∃ a,x=.ref a/\WU H1 a/\tD W O ε σ H1 fun y M=>∃ u k v,M a=θ (.dK u)/\y=kV k/\iu u k=θ v/\D.nx σ (upd M a (.dK (iA u k)))):=rfl;rw [e0,h2];unfold pY at h;rw [h1] at h;cases d with
  | dct ds =>
   obtain ⟨xs,rfl,q⟩:=h4;refine ⟨a,rfl,.inl ⟨xs,.inl h3⟩,as0,B,own,U,I,cw I h fun y v M L d2 g=>?_⟩;cases e:m4 y with
   | none=>rw [e] at g;exact g.elim
   | some k =>
    rw [e] at g;have g:dZ W as0 B Ob O (if (bV ds k).isSome=ζ then .ok (.nx (U.set i (θ (.dct (fW ds k))))) else .no) D:=g;have hy:=ju d2 e;subst hy;rcases q.val k with ⟨Y,c2⟩|⟨d',v',Y,c2,_⟩
    .rw [Y] at g;exact g.elim
    .rw [Y] at g;exact ⟨xs,k,v',L _ _ h3,rfl,c2,g own σ _ ((I.mono L).mutate ha ⟨_,rfl,(q.mono (aJ L)).drop k⟩)⟩
  | _=>exact h.elim
def nz:D->Option (List (Key×D))
 | .dct k=>θ k
 | .dcf k=>θ k
 | _=>ξ
theorem j6 {K:aT} (h:b9 K H d v) (e:nz d=θ ds):∃ p xs,v=.ref p/\Rd H p (.dK xs)/\b8 K H ds xs:=by
 cases d with
 | dct k=>cases e;obtain ⟨p,xs,rfl,h1,h2⟩:=h;exact ⟨p,xs,rfl,.inl h1,h2⟩
 | dcf k=>cases e;obtain ⟨p,o,xs,rfl,h1,h2⟩:=h;exact ⟨p,xs,rfl,.inr ⟨o,h1⟩,h2⟩
 | _=>cases e
def mf.rd {k:Key} (h:Rd H p (.dK xs)):mf H p (kV k) (iu xs k):=.inl ⟨xs,k,h,rfl,rfl⟩
def CZ (r:Bool):R2:=fun x y H Q=>∃ p g k,x=kV k/\y=.ref p/\Rd H p (.dK g)/\Q (.bl (if r=ζ then !(iu g k).isSome else (iu g k).isSome)) H
def Ev (M:X.A.units+64 < adu):cD X (aa1 .In) (CZ η):=by
 intro Y s σ H x y v u Q I g r h;obtain ⟨p,C,k,rfl,rfl,z,q⟩:=h;cases r;exact Xu (by lia) I (mf.rd z) g fun L J=>⟨.bl _,H,J,rfl,q⟩
def sX (M:X.A.units+64 < adu):cD X (aa1 .NotIn) (CZ ζ):=by
 intro Y s σ H x y v u Q I g r h;obtain ⟨p,C,k,rfl,rfl,z,q⟩:=h;cases r;exact KP (by lia) I (mf.rd z) g fun L J=>⟨.bl _,H,J,rfl,q⟩
def Gd (a b:D):Option Bool:=(nz b).bind fun g=>(m4 a).map fun k=>(bV g k).isSome
def vg (a b:D):R D:=d7 (Gd a b) fun k=>k
def gU (a b:D):R D:=d7 (Gd a b) fun k=>!k
def Co {K:aT} (h:b8 K H ds xs) (k:Key):(bV ds k).isSome=(iu xs k).isSome:=by
 rcases h.val k with ⟨a,b⟩|⟨a,b,g,r,_⟩
 .rw [a,b];rfl
 .rw [g,r];rfl
def Me (g:Bool):jm W (CZ g) (fun a b=>d7 (Gd a b) fun k=>if g=ζ then !k else k):=by
 intro as H x y a b Q hn z u h;have h:cq W as H (d7 (Gd a b) fun k=>if g=ζ then !k else k) Q:=h;unfold Gd at h;cases e:nz b with
 | none=>rw [e] at h;exact h.elim
 | some v =>
  cases e2:m4 a with
  | none=>rw [e,e2] at h;exact h.elim
  | some k =>
   rw [e,e2] at h;obtain ⟨p,xs,rfl,h1,h2⟩:=j6 u e;have r:=ju z e2;subst r;refine ⟨p,xs,k,rfl,rfl,(ar _ _).rd h1,?_⟩;rw [<- Co h2 k];exact aH h rfl
def Uc:jm W (CZ η) vg:=Me η
def yN:jm W (CZ ζ) gU:=Me ζ
def pM (a b:D):R D:=match nz a with
 | some g=>(match m4 b with
  | some k=>(match bV g k with
   | some d=>.ok d
   | none=>.no)
  | none=>.no)
 | none=>.no
theorem VG (hu:X.A.units+64 < adu) (ha:JE X a (tD W O φ)) (hb:JE X b (tD W O ψ)) (hs:EF b:=by exact fun _ _=>rfl):JE X (.Subscript a b pos) (tD W O (ak pM φ ψ)) :=
 JE.imp ⟨HW (by lia) ha.out hb.out hs⟩ fun σ H Q M=>cP M fun as0 B own U I h=>⟨as0,B,own,U,I,bp h fun x v H1 Z d1 h1=>⟨as0,B,own,U,I.mono Z,bp h1 fun y u H2 r Y h2=>by
  unfold pM at h2;cases e0:nz x with
  | none=>rw [e0] at h2;exact h2.elim
  | some kvs =>
   rw [e0] at h2;obtain ⟨p,xs,rfl,C,L⟩:=j6 d1 e0;cases e:m4 y with
   | none=>rw [e] at h2;exact h2.elim
   | some k =>
    rw [e] at h2;dsimp only at h2;have hy:=ju Y e;subst hy;rcases (L.mono (aJ r)).val k with ⟨g,z⟩|⟨d,v,g,z,J⟩
    .rw [g] at h2;exact h2.elim
    .rw [g] at h2;exact ⟨p,v,rfl,z ▸ mf.rd (r.rd ((ar _ _).rd C)),aH h2 J⟩⟩⟩
def Db (xs:afV) (H:Hp) (Q:VK):Prop:=∃ p g,xs=[.ref p]/\Rd H p (.dK g)/\∀ l,H l=ξ->Q (.ref l) (upd H l (.dK g))
def uk:bG X (.type "dict") Db:=by
 intro L s σ H xs us Q I r h;obtain ⟨p,z,rfl,v,q⟩:=h;obtain ⟨u,rfl,g⟩:=gG r;cases g;exact Gr I v fun l J hl C=>⟨.ref l,_,C,rfl,q l hl⟩
def xX (ds:afW):R D:=match ds with
 | [d]=>(match nz d with
  | some g=>.ok (.dct g)
  | none=>.no)
 | _=>.no
def Yg:vO W Db xX:=by
 intro as H xs ds Q hn u h;unfold xX at h;split at h
 .obtain ⟨v,rfl,z⟩:=eU u;split at h
  .rename_i kvs e;obtain ⟨p,vs,rfl,r,g⟩:=j6 z e;exact ⟨p,vs,rfl,(ar _ _).rd r,fun l hl=>h l _ _ (aR hl _) hl aK ⟨vs,rfl,g.mono (gk hl (aR hl _))⟩⟩
  .exact h.elim
 .exact h.elim
end
def mQ (h:nM k u=ζ):aX (kV k) u:=by
 cases k with
 | inl i =>
  have h:aeQ i u=ζ:=h;unfold aeQ at h;split at h
  .have e:=eq_of_beq h;subst e;exact ⟨_,rfl⟩
  .cases h
 | nn =>
  cases u with
  | none=>rfl
  | _=>exact nomatch h
 | inr x =>
  have h:ac3 x u=ζ:=h;unfold ac3 at h;split at h
  .have e:=eq_of_beq h;subst e;exact ⟨_,rfl⟩
  .cases h
structure FzAt (X:Cx) (H:Hp) (h:acV) (a:aa3) (ep:Nat) (xs:List (Key×V)) (vs:List (Key×oR)):Prop where
 at_:Heap.DictAt (bA X.prog X.w) h a vs ep
 rel:KV xs vs
def Pg (o:Obj):Nat:=match o.data with
 | .dict _ ep=>ep
 | _=>0
theorem n4 {σ:St} (I:Inv X af σ H s) (e:H a=θ (.frz o (.dK xs))) :
  xs.length<=RW/\(a==ab0)=η/\∃ vs,FzAt X H s.heap a (Pg o) xs vs:=by
 obtain ⟨u,z,J,vs,r,ob,es,v,h1,h2,g,C⟩:=((I.hok a _ e));rw [u] at h1;cases h1
 have:Pg o=v:=by unfold Pg;rw [g]
 rw [this];exact ⟨z,J,vs,⟨o,es,u,h2,g,C⟩,r⟩
def EM:entryFor table "dict_itemiterator.__iter__"=θ Builtin.«dict_keyiterator.__iter__»:=entryFor_alias (id':="dict_keyiterator.__iter__") (by kernel_rfl) (by kernel_rfl) (by kernel_rfl) (by kernel_rfl)
def jk (st:IsItemIter s.heap it d i n ep ok ov) (hQ:Q (.ref it) s):aaN (aaV prog w) A (pyIter (.ref it)) Q E s:=by
 have g:s.TypeIs (.ref it) "dict_itemiterator":=⟨_,st,rfl⟩;refine wpAny_pyIter_slot g F.slot_dict_itemiterator_iter (ab1 F.slot_dict_itemiterator_iter g EM ?_ (F.args_dict_itemiterator_iter_1 _));exact rW ⟨_,rfl,"dict_itemiterator",_,g,F.slot_dict_itemiterator_next.lookup,hQ⟩
def Hl {xs:List (Key×V)} (r:KV xs vs) {i:Nat} (h:vs[i]?=θ (k,u)):∃ v,xs[i]?=θ (k,v)/\aX v u:=by
 induction r generalizing i with
 | nil=>simp at h
 | @cons p q ps qs hq t ih =>
  cases i with
  | zero=>simp at h;subst h;exact ⟨p.2,by let ⟨p1,p2⟩:=p;simp at hq ⊢;exact hq.1,hq.2⟩
  | succ i=>simp_all
def ItK (a:aa3) (o:Obj) (xs:List (Key×V)):It :=
 ⟨fun i H=>H a=θ (.frz o (.dK xs))/\i < xs.length,fun i H v H'=>H'=H/\∃ k x,xs[i]?=θ (k,x)/\v=kV k,fun i H=>H a=θ (.frz o (.dK xs))/\i=xs.length⟩
theorem Bj {K:aT} (it a:aa3) (o:Obj) (xs:List (Key×V)):Turn P w K tg (ItK a o xs) [it] it (fun i h=>h.IsKeyIter it a i xs.length (Pg o)) where
 mem:=by simp
 obj:=fun i h st b hb=>by
  have e:b=it:=by simpa using hb
  subst e;let ⟨o,e,c,d⟩:=st
  exact ⟨o,e,fun v z=>by rw [d] at z;cases z⟩
 keep:=fun i h h' st k=>by let ⟨o,e,c,d⟩:=st;exact ⟨o,k it (by simp) o e,c,d⟩
 item:=by
  intro X Y hw hK Z i af s σ H E I C st hg;subst Y hw;let ⟨u,hi⟩:=hg
  let ⟨z,hd,vs,F⟩:=n4 I u
  let ⟨f0,f1,f2,f3,f4,f5⟩:=C it (by simp)
  have hl:=F.rel.length;have g:a≠it:=fun z=>by rw [z,f0] at u;cases u
  have W:=Walks.dictKeys (knd:=bA X.prog X.w) (I.ok.hd Z) it a g vs (Pg o);rw [hl] at st;refine aW I.tk (W.item i s _ _ (by simp_all) ⟨st,F.at_⟩ fun v h' tk hv J M L=>?_);obtain ⟨k,x,h1,h2⟩:=hv;obtain ⟨y,h3,_⟩:=Hl F.rel h1;have I1  := I.turned (fun b o hb e=>M b o (by simpa using hb) e) f0 f1 f3 f4 f5;have r:=J.1;obtain ⟨o2,e,c,d⟩:=id r;rw [<- hl] at r;exact ⟨v,rfl,we e c d (by decide) ⟨kV k,H,I1,mQ h2,⟨rfl,k,y,h3,rfl⟩,r,fun b hb=>(C b hb).1⟩⟩
 done:=by
  intro X Y hw hK Z i af s σ H E I C st hg;subst Y hw;obtain ⟨u,hi⟩:=hg;let ⟨z,hd,vs,F⟩:=n4 I u
  let ⟨f0,f1,f2,f3,f4,f5⟩:=C it (by simp)
  have hl:=F.rel.length;have g:a≠it:=fun z=>by simp_all
  have W:=Walks.dictKeys (knd:=bA X.prog X.w) (I.ok.hd Z) it a g vs (Pg o);rw [hi,hl] at st;exact aW I.tk (W.done s _ _ ⟨st,F.at_⟩ fun h' tk M L=>⟨rfl,I.turned (fun b o hb e=>M b o (by simpa using hb) e) f0 f1 f3 f4 f5⟩)
 self:=fun _ _ _ _ _ st h=>wpAny_pyIter_keyiter st h
def ItP (a:aa3) (o:Obj) (xs:List (Key×V)):It :=
 ⟨fun i H=>H a=θ (.frz o (.dK xs))/\i < xs.length,fun i H v H'=>∃ p k x,xs[i]?=θ (k,x)/\H p=ξ/\H'=upd H p (.tup [kV k,x])/\v=.ref p,fun i H=>H a=θ (.frz o (.dK xs))/\i=xs.length⟩
theorem yH {K:aT} (it a:aa3) (o:Obj) (xs:List (Key×V)) :
  Turn P w K (.Tuple elts k pos) (ItP a o xs) [it] it (fun i h=>∃ ok ov,IsItemIter h it a i xs.length (Pg o) ok ov) where
 mem:=by simp
 obj:=fun i h st b hb=>by
  have e:b=it:=by simpa using hb
  subst e;let ⟨ok,ov,e⟩:=st
  exact ⟨_,e,fun v z=>by cases z⟩
 keep:=fun i h h' st k=>by let ⟨ok,ov,e⟩:=st;exact ⟨ok,ov,k it (by simp) _ e⟩
 item:=by
  intro X L hw hK hc i af s σ H E I C st hg;subst L hw;let ⟨hq,hi⟩:=hg
  let ⟨ok,ov,st⟩:=st
  let ⟨z,hd,vs,F⟩:=n4 I hq
  let ⟨f0,f1,f2,f3,f4,f5⟩:=C it (by simp)
  have hl:=F.rel.length;rw [hl] at st;have Y:i < vs.length:=by rw [<- hl];exact hi
  let ⟨⟨kk,u⟩,hv⟩:∃ q,vs[i]?=θ q:=⟨vs[i],lT Y⟩
  refine wpAny_pyNext_items_item st F.at_ hv fun key h' hk so ht hsz kp=>?_;let ⟨y,h3,ry⟩:=Hl F.rel hv
  refine ⟨_,rfl,wpAny_letOwnedTupleGo_items so fun M Z sb=>?_⟩;have J:H s.heap.objs.size=ξ:=I.hok.fresh (nE _);have r:s.heap.objs.size≠it:=fun z=>absurd (ID (show s.heap.get? it=θ _ from st)) (by rw [z];exact acM _);have g:afo M s.heap.objs.size [key,u].toArray:=⟨_,(sb.2 _ r).trans ht,rfl,_,rfl⟩;refine ⟨.ref s.heap.objs.size,upd H s.heap.objs.size (.tup [kV kk,y]),I.turnedT (t':=s.toks) (ch:=[it]) (fun b hb=>by rw [aaS.mp hb];exact C it (by simp)) (fun b o hb e=>(sb.2 b (by simpa using hb)).trans (kp b o (by simpa using hb) e)) (nE _) (by show 2<=RW;decide) (.cons (mQ hk) (.cons ry .nil)) g,rfl,
   ⟨s.heap.objs.size,kk,y,h3,J,rfl,rfl⟩,⟨key,u,by grind⟩,fun b hb=>?_⟩
  have e  := by simpa using hb
  rw [e,aF r.symm];exact f0
 done:=by
  intro X L hw hK hc i af s σ H E I C st hg;subst L hw;let ⟨hq,hi⟩:=hg
  let ⟨ok,ov,st⟩:=st
  let ⟨z,hd,vs,F⟩:=n4 I hq
  let ⟨f0,f1,f2,f3,f4,f5⟩:=C it (by simp)
  have hl:=F.rel.length;rw [hl] at st;exact wpAny_pyNext_items_end (I.ok.hd hc) st F.at_ (aeF (by lia)) fun h' eb=>⟨rfl,I.turned (fun b o hb e=>eb b o hb e) f0 f1 f3 f4 f5⟩
 self:=fun _ _ _ _ _ st h=>let ⟨_,_,st⟩:=st;jk st h
theorem b8.get {K:aT}:∀ {ds:List (Key×D)} {xs:List (Key×V)} {i:Nat} {k:Key} {v:V},b8 K H ds xs->xs[i]?=θ (k,v)->∃ d,ds[i]?=θ (k,d)/\b9 K H d v
 | [],_,i,k,v,h,e=>by cases h;simp at e
 | (k',d)::r,_,0,k,v,⟨v',vs,e,h1,h⟩,q=>by simp_all
 | (k',d)::r,_,i+1,k,v,⟨v',vs,e,h1,h⟩,q=>by
  subst e;obtain ⟨d',u,g⟩:=b8.get h (by simpa using q);simp_all
section
variable {X:Cx} {W:Wd} {O:afO} {l:abu} {tg:abu} {ε:FE} {apos cpos:Pos} {elts:List abu} {k:Nat} {tpos:Pos}
def Ma (d:D):R (afW):=match d with
 | .dcf kvs=>.ok (kvs.map fun q=>nv q.1)
 | _=>.no
def sP (ε:FE):FA:=fun U=>(ε U).bind Ma
theorem KA (h:JE X l (tD W O ε)):JI X tg l (iD W O (sP ε)):=⟨fun af s σ H R I ⟨as0,B,own,U,DIh,q⟩=>by
 refine bT (h.out af s σ H (fun v H1=>∃ d,b9 W.K (aD (own++as0) H1) d v/\fZ W as0 own H1 (Ma d) R) I ⟨as0,B,own,U,DIh,kR q fun d v H1 g d1 C=>⟨d,d1,C⟩⟩) fun u g ⟨x,H1,I1,rx,d,dv,C⟩=>?_;cases d with
 | dcf ds =>
  obtain ⟨a,o,xs,rfl,h1,h2⟩:=dv;cases rx;have J:=ar _ _ _ _ h1;let ⟨z,hd,vs,F⟩:=n4 I1 J
  have hl:=F.rel.length;refine wpAny_pyIter_dict hd F.at_ ?_;refine ⟨g.heap.objs.size,[g.heap.objs.size],_,_,H1,rfl,I1.kept fun b o e=>eQ _ e,Bj g.heap.objs.size a o xs,⟨_,Do _ rfl,rfl,by rw [hl];rfl⟩,fun b hb=>?_,C _ H1 (aw.refl _) ?_⟩
  .have e  := by simpa using hb
   subst e;exact I1.fpOk (nE _) (I1.hok.fresh (nE _))
  .rw [iH] at h1 h2;have Z:(ds.map fun q=>nv q.1).length=xs.length:=by rw [lE];exact h2.len
   refine ⟨fun i L r Y=>⟨r _ _ h1,by simp_all⟩,fun i L v H3 M r _ hM Y hy=>?_,fun L r=>⟨r _ _ h1,Z⟩⟩;obtain ⟨rfl,k,y,e1,rfl⟩:=hy;let ⟨d,e2,_⟩:=h2.get e1
   exact ⟨aw.refl _,nv k,by simp_all,pI k⟩
 | _=>exact C.elim⟩
theorem xq (g:s.TypeIs (.ref d) "dict") (r:(d==ab0)=η)
  (hQ:Q (.ref s.heap.objs.size) { s with heap:=s.heap.push { cls:=.type "dict_items",data:=.fields #[.ref d] } }):aaN (aaV prog w) A (call (.builtin "dict.items") [.ref d]) Q E s:=by
 refine ab1 F.slot_dict_items g F.entry_dict_items ?_ (F.args_dict_items_1 _);refine dO ?_;refine dO (wpAny_notOrdered_dict g ?_);refine rW ?_;unfold Builtin.Dict.showsAll;rw [afJ (by grind)];refine dO (rW ?_);refine dO (acj ?_);exact rW ⟨_,rfl,hQ⟩
def DM (d:D):R (afW):=match d with
 | .dcf kvs=>.ok (kvs.map fun q=>D.tup [nv q.1,q.2])
 | _=>.no
def qb (ε:FE):FA:=fun U=>(ε U).bind DM
theorem DA (h:JE X l (tD W O ε)) (r:abg l "items" X.env (eval l X.env)=eval l X.env:=by rfl) (C:(apos.endLine==cpos.line)=ζ:=by rfl) :
  JI X (.Tuple elts k tpos) (.Call (.Attribute l "items" apos) [] [] cpos) (iD W O (qb ε)):=⟨fun af s σ H R I ⟨as0,B,own,U,DIh,q⟩=>by
 refine wpAny_Call_method0_late r C (bT (h.out af s σ H (fun v H1=>∃ d,b9 W.K (aD (own++as0) H1) d v/\fZ W as0 own H1 (DM d) R) I ⟨as0,B,own,U,DIh,kR q fun d v H1 s1 d1 L=>⟨d,d1,L⟩⟩) fun u s1 ⟨x,H1,I1,rx,d,dv,L⟩=>?_);cases d with
 | dcf ds =>
  obtain ⟨a,o,xs,rfl,h1,h2⟩:=dv;cases rx;have g:=ar _ _ _ _ h1;let ⟨z,hd,vs,F⟩:=n4 I1 g
  let ⟨t1,t2,_⟩:=xu I1 (.inl ⟨xs,.inr ⟨o,g⟩⟩)
  refine ⟨"dict","dict.items",adq,PySem.F.slot_dict_items,PySem.F.type_dict_items,t1,t2,ab4 rfl (aeX (xq t1 hd ?_))⟩;have Y:=I1.kept (h':=s1.heap.push { cls:=.type "dict_items",data:=.fields #[.ref a] }) fun b o e=>eQ _ e;let ⟨z,hd,vs,F⟩:=n4 Y g
  have hl:=F.rel.length;refine wpAny_pyIter_items ⟨_,Do _ rfl,rfl,rfl⟩ F.at_ ?_;have Z:∀ {b:aa3},b=(s1.heap.push { cls:=.type "dict_items",data:=.fields #[.ref a] }).objs.size->eS X af H1 b:=fun {b} e=>by
   subst e;exact Y.fpOk (nE _) (Y.hok.fresh (nE _))
  refine ⟨_,[_],_,_,H1,rfl,Y.kept fun b o e=>eQ _ e,yH _ a o xs,⟨.none,.none,by rw [hl];exact Do _ rfl⟩,fun b hb=>Z (by simpa using hb),L _ H1 (aw.refl _) ?_⟩;rw [iH] at h1 h2;have ll:(ds.map fun q=>D.tup [nv q.1,q.2]).length=xs.length:=by rw [lE];exact h2.len
  refine ⟨fun i H2 J hi=>⟨J _ _ h1,by simp_all⟩,fun i H2 v H3 M J hM1 hM hi hy=>?_,fun H2 J=>⟨J _ _ h1,ll⟩⟩;obtain ⟨p,k,y,e1,hp,rfl,rfl⟩:=hy;let ⟨d,e2,dd⟩:=h2.get e1
  have hpM  := fun z=>hM1 p z hp;refine ⟨aR hp _,.tup [nv k,d],by grind,p,[kV k,y],rfl,.inl (.inl (by rw [aV hpM];exact aK)),aN.cons (pI k) (aN.cons (dd.mono ((gH J hM).trans (aJ (aR hp _)))) aN.nil)⟩
 | _=>exact L.elim⟩
end
theorem kO.look {K:aT}:∀ {fs:List (Str×D)} {xs:List (Str×V)} {d:D},kO K H fs xs->fs.lookup f=θ d->∃ v,xs.lookup f=θ v/\b9 K H d v
 | [],_,_,h,e=>by cases e
 | (g,d')::r,_,d,⟨v,vs,e0,h1,h⟩,e=>by
  subst e0;rw [acv] at e ⊢;cases q:f==g with
  | true=>grind
  | false=>rw [q] at e;exact kO.look h e
def G2 (n f:Str) (d:D):R D:=match d with
 | .obj m fs=>if m=n then (match fs.lookup f with
  | some d=>.ok d
  | none=>.no) else .no
 | _=>.no
def np (n f:Str) (φ:FE):FE:=fun U=>(φ U).bind (G2 n f)
section
variable {pos p:Pos}
theorem Sw (K:aT) (hn:aaO K aaR n=θ (θ (.ref C))) (Z:Cls K C) (M:eF K C f) (J:JE X e (tD W O φ)) (hb:abg e f X.env (eval e X.env)=eval e X.env:=by rfl) (z:X.K=K:=by rfl) (hW:W.K=K:=by rfl) :
  JE X (.Attribute e f pos) (tD W O (np n f φ)) :=
 JE.imp ⟨NO J.out hb⟩ fun σ H Q r=>cP r fun as0 B own U I h=>⟨as0,B,own,U,I,bp h fun x v H1 s1 g h1=>by
  subst z;cases x with
  | obj m fs =>
   by_cases e:m=n
   .subst e;unfold G2 at h1;dsimp only at h1;rw [afI rfl] at h1;rw [hW] at g;obtain ⟨a,C',L,xs,rfl,h2,Y,u⟩:=g;rw [hn] at h2;cases h2;cases e2:fs.lookup f with
    | none=>rw [e2] at h1;exact h1.elim
    | some d =>
     rw [e2] at h1;let ⟨v,q1,q2⟩:=u.look e2
     exact ⟨a,C,L,xs,v,rfl,ar _ _ _ _ Y,Z,M,q1,aH h1 (by rw [hW];exact q2)⟩
   .unfold G2 at h1;dsimp only at h1;rw [afJ e] at h1;exact h1.elim
  | _=>exact h1.elim⟩
def yz (C:aa3) (r:afP):Sp:=fun vs H Q _=>∃ x g us,vs=.ref x::us/\us.length=r.length/\H x=θ (.ins C g [])/\Q .non (upd H x (.ins C g (r.zip us)))
def L3 (n:Str) (g:afP) (ds:afW):R D:=if ds.length=g.length then .ok (.obj n (g.zip ds)) else .no
def Rn (n:Str) (g:afP) (α:FA):FE:=fun U=>(α U).bind (L3 n g)
theorem kO.zip {K:aT}:∀ {g:afP} {ds:afW} {vs:afV},aN K H ds vs->kO K H (g.zip ds) (g.zip vs)
 | [],_,_,h=>rfl
 | f::r,[],_,h=>by cases h;exact rfl
 | f::r,d::ds,_,⟨v,vs,e,h1,h2⟩=>by subst e;exact ⟨v,_,rfl,h1,kO.zip h2⟩
theorem Oj {K:aT} (hn:aaO K aaR n=θ (θ (.ref C))) (hm:X.mg n=θ (.ref C)) (M:Mk K C g) (G:FnOk X.prog X.w X.K X.mg X.base gN j g fd ps (yz C ns)) (b:f8 K fd ps []) (hr:Room k X.A)
  (ha:JA X (e::es) (qZ ⟨K,mg,E0⟩ O α)) (hj:j+1<=k:=by decide) (hg:Gl X n:=by rfl) (v:(n==("__debug__":Str))=η:=by decide) (h1:aI e=ζ:=by rfl) (h2:es.all aI=ζ:=by rfl) (hK:X.K=K:=by rfl) :
  JE X (.Call (.Name n p) (e::es) [] pos) (tN ⟨K,mg,E0⟩ O (Rn n ns α)):=by
 subst hK;refine JE.imp ⟨Ip M G (hr.mono hj) hg hm b .nil uX ha.out v (bH h1) (cK h2)⟩ fun σ H Q hh=>cP hh fun as0 B own U I h=>?_;refine ⟨as0,B,own,U,I,gQ h fun ds vs H1 s1 Y h1 x r L u Z=>?_⟩;unfold L3 at h1;split at h1
 .rename_i hl;rw [abk];have J:aw H1 (upd (upd H1 r (.own x)) x (.ins C r (ns.zip vs))):=fun c o e=>by
   rw [aF (bf e L),aF (bf e u)];exact e
  refine ⟨x,r,vs,rfl,by rw [<- Y.len];exact hl,aK,rfl,?_⟩;rw [ub];refine h1 x _ _ J L aK ⟨C,r,_,rfl,hn,kO.zip (Y.mono fun c o e=>?_)⟩;by_cases hb:c∈own++as0
  .rw [cY hb] at e;cases e
  .rw [aV hb] at e;have n1:c≠x:=fun z=>by simp_all
   rw [aV (fun z=>(mK.mp z).elim n1 hb)];exact J c o e
 .exact h1.elim
end
section
variable {X:Cx} {W:Wd} {O:afO} {e:abu} {es:List abu} {φ:FE} {α:FA} {pos p p1 p2:Pos} {x:Str}
def VA (g:List (Key×V)):afV:=g.map fun q=>kV q.1
def Cq {P:abN} {w:abA} (r:KV xs vs) (hl:acc.length=vs.length) (h:∀ (j:Nat) (v:oR),acc[j]?=θ v->∃ (k:Key) (x:oR),vs[j]?=θ (k,x)/\nM k v=ζ):ba (VA xs) acc:=by
 induction r generalizing acc with
 | nil=>cases acc with
  | nil=>exact .nil
  | cons _ _=>simp at hl
 | @cons p q ps qs hq t ih =>
  cases acc with
  | nil=>simp at hl
  | cons v acc =>
   obtain ⟨k,x,g,z⟩:=h 0 v rfl;simp at g;subst g;refine .cons (show aX (kV p.1) v by rw [hq.1];exact mQ z) (ih (by simpa using hl) fun j u C=>?_);let ⟨k',x',e3,e4⟩:=h (j+1) u (by simpa using C)
   simp_all
theorem se {K:aT}:∀ {ds:List (Key×D)} {g:List (Key×V)},b8 K H ds g->aN K H (ds.map fun q=>nv q.1) (VA g)
 | [],_,h=>by cases h;exact rfl
 | (k,d)::r,_,⟨v,vs,e,_,h⟩=>by subst e;exact ⟨kV k,_,rfl,pI k,se h⟩
def LD (xs:afV) (H:Hp) (Q:VK):Prop:=∃ a o g,xs=[.ref a]/\H a=θ (.frz o (.dK g))/\∀ l,H l=ξ->Q (.ref l) (upd H l (.lst (VA g)))
theorem xz (Y:X.calm=ζ):bG X (.type "list") LD:=by
 intro af s σ H xs us Q I r h;obtain ⟨a,o,L,rfl,Z,hok⟩:=h;obtain ⟨u,rfl,ru⟩:=gG r;cases ru;let ⟨z,hd,vs,F⟩:=n4 I Z
 have M:=F.rel.length;refine aW I.tk (PySem.W.kdl_call (PySem.W.kdl_dict hd) (I.ok.hd Y) F.at_ (by simp_all) fun h' tk C c kp hg g J=>?_);have rv:=Cq (P:=X.prog) (w:=X.w) F.rel (by exact g.1) fun j v hj=>g.2 j v (by simp_all);exact ⟨.ref s.heap.objs.size,_,I.laid kp (nE _) (show c7 X.prog X.w _ h' _ (.lst (VA L)) from ⟨by unfold VA;rw [lE];exact z,C.toList,c,rv,by simpa using hg⟩) J,rfl,hok _ (I.hok.fresh (nE _))⟩
def G1 (ds:afW):R D:=match ds with
 | [.dcf kvs]=>.ok (.lst (kvs.map fun q=>nv q.1))
 | _=>.no
def U9:vO W LD G1:=by
 intro as H xs ds Q hn r h;unfold G1 at h;split at h
 .obtain ⟨v,rfl,u⟩:=eU r;obtain ⟨a,o,g,rfl,h1,h2⟩:=u;exact ⟨a,o,g,rfl,ar _ _ _ _ h1,fun l hl=>h l _ _ (aR hl _) hl aK ⟨_,rfl,(se h2).mono (gk hl (aR hl _))⟩⟩
 .exact h.elim
structure IsC (K:aT) (C:aa3):Prop where
 cl:Cls K C
 ha:abT K (.ref C) "__class__"=θ (θ (.builtin "object.__class__"))
 hn:afg K (.builtin "object.__class__") "__get__"=θ (θ (.builtin "getset_descriptor.__get__"))
 htk:afz K (.builtin "object.__class__")=θ ζ
 hm:PySem.W.mroIn K C (.type "object")=θ ζ
 k:ac9 K (.ref C) (.ref C)=θ ζ
 kn:ac9 K (.type "NoneType") (.ref C)=θ η
 ki:ac9 K (.type "int") (.ref C)=θ η
 kt:ac9 K (.type "tuple") (.ref C)=θ η
end
def Du:oR->Option Str
 | .str x _=>θ x
 | _=>ξ
theorem sC (k:Str):∀ (es:List DictEntry) (ks:afP),es.map (fun e=>Du e.key)=ks.map θ->(es.find? fun e=>ac3 k e.key).isSome=ks.contains k
 | [],[],_=>rfl
 | [],_::_,h=>by cases h
 | _::_,[],h=>by cases h
 | e::es,x::ks,h=>by
  rw [GE,GE,List.cons.injEq] at h;let ⟨h1,h2⟩:=h
  have r:=sC k es ks h2;have g:ac3 k e.key=(k==x):=by
   cases q:e.key with
   | str y t =>
    rw [q] at h1;rw [<- ab9 h1];exact Bool.beq_comm
   | _=>rw [q] at h1;cases h1
  rw [abl,g,List.contains_cons];cases (k==x) with
  | true=>rfl
  | false=>exact r
def SO (a:aa3) (ks:afP):R2:=fun x y H Q=>∃ k,x=.str k/\y=.ref a/\Q (.bl (!ks.contains k)) H
def Ki (ks:afP) (x:Str) (a b:D):R D:=match a,b with
 | .str k,.cls y=>if y=x then .ok (.bl (!ks.contains k)) else .no
 | _,_=>.no
section
def PX (hl:X.K.lookup a=θ ⟨.type "dict",ξ,.dict es n,#[]⟩) (r:acn X.w.params es.toList) (z:es.toList.map (fun e=>Du e.key)=ks.map θ) (hs:(a==ab0)=η) :
  cD X (aa1 .NotIn) (SO a ks):=by
 intro J s σ H x y v u Q I g C h;obtain ⟨k,rfl,rfl,q⟩:=h;cases C;obtain ⟨t,rfl⟩:=g;refine wpAny_notIn_of ((beq_self_eq_true k)) hs (afD I.kIn hl r) ?_;have e:(findBy ac3 es k).isSome=ks.contains k:=by
  unfold findBy;rw [acG,<- Array.find?_toList];exact sC k es.toList ks z
 rw [e];exact ⟨.bl _,H,I.tok _,rfl,q⟩
def Y1 (hn:Q9 W.K x a):jm W (SO a ks) (Ki ks x):=by
 intro as H v u d b Q I z r h;unfold Ki at h;split at h
 .split at h
  .rename_i e;subst e;cases z;obtain ⟨C,rfl,g⟩:=r;rw [(hn)] at g;cases g;exact ⟨_,rfl,rfl,aH h rfl⟩
  .exact h.elim
 .exact h.elim
end
section
variable {st:ac2}
def Cr:FS:=fun _=>.no
def Td:JS X st (sD W Ob O O' Cr):=⟨fun g s σ H D I q=>let ⟨_,_,_,_,_,h⟩:=q;h.elim⟩
end
section
variable {X:Cx} {W:Wd} {O:afO} {a b c:abu} {φ ψ χ:FE} {x:Str} {p1 pos apos cpos:Pos}
def Rl:List (Str×FE)->Sd->R (List (Str×D×V))
 | [],_=>.ok []
 | (x,φ)::r,U=>(φ U).bind fun d=>match c8 d with
  | some v=>(Rl r U).bind fun l=>.ok ((x,d,v)::l)
  | none=>.no
def RF (l:List (Str×D×V)):List (Key×D):=l.foldl (fun g q=>c9 g (.inr q.1) q.2.1) []
def wg (ps:List (Str×FE)):FE:=fun U=>(Rl ps U).bind fun l=>.ok (.dct (RF l))
def PB (X:Cx) (W:Wd) (O:afO) (pos:Pos) (r:List (Option abu)) (g:List abu) (ps:List (Str×FE)):Prop:=SK X pos r g (ps.map fun q=>(tD W O (vC (.str q.1)),tD W O q.2))
def QB:PB X W O pos [] [] []:=IA
def Kw (g:JE X a (tD W O (vC (.str x)))) (r:JE X b (tD W O φ)) (hr:PB X W O pos ks vs ps):PB X W O pos (θ a::ks) (b::vs) ((x,φ)::ps):=EY g.out r.out hr
theorem rR:∀ (ps:List (Str×FE)) {H:Hp} {Q:List (V×V)->Hp->Prop},DI W.K as0 B O own σ U H->fH W H (Rl ps U) (fun l H'=>l.length=ps.length/\(∀ q∈l,c8 q.2.1=θ q.2.2)->Q (l.map fun q=>(V.str q.1,q.2.2)) H')->ue (ps.map fun q=>(tD W O (vC (.str q.1)),tD W O q.2)) σ H Q
 | [],H,Q,I,h=>h H (aw.refl _) ⟨rfl,fun _ z=>nomatch z⟩
 | (x,φ)::r,H,Q,I,h=>⟨as0,B,own,U,I,fun v H1 g L=>⟨as0,B,own,U,I.mono g,by
   subst L;unfold Rl at h;show cq W (own++as0) H1 (φ U) _;cases e:φ U with
   | er z=>rw [e] at h;exact fun e C H' s=>h e C H' (g.trans s)
   | no=>rw [e] at h;exact h
   | ok d =>
    rw [e,aG] at h;intro y Y u M;cases e1:c8 d with
    | none=>rw [e1] at h;exact h.elim
    | some w =>
     rw [e1] at h
     have:=dW M e1
     subst this;refine rR r ((I.mono g).mono u) ?_;cases e2:Rl r U with
     | er z=>rw [e2] at h;exact fun e C H' s=>h e C H' ((g.trans u).trans s)
     | no=>rw [e2] at h;exact h
     | ok l =>
      rw [e2] at h;exact fun H' s hl=>h H' ((g.trans u).trans s) ⟨by rw [aaU,aaU,hl.1],fun q J=>by
       rcases mK.mp J with rfl|J
       .exact e1
       .exact hl.2 q J⟩⟩⟩
def FJ {K:aT} (h:c8 d=θ v):b9 K H d v:=by
 cases d <;> cases h <;> rfl
theorem wo {K:aT}:∀ (l:List (Str×D×V)) {ds:List (Key×D)} {xs:List (Key×V)},(∀ q∈l,c8 q.2.1=θ q.2.2)->b8 K H ds xs->b8 K H (l.foldl (fun g q=>c9 g (.inr q.1) q.2.1) ds) (m8 xs (l.map fun q=>(.inr q.1,q.2.2)))
 | [],_,_,_,h=>h
 | q::l,_,_,hq,h=>wo l (fun z hz=>hq z (iN _ hz)) (h.put (FJ (hq q aa8)))
def OH (h:PB X W O pos keys values ps) (g:keys.all (·.isSome)=ζ:=by rfl) (hl:keys.length=values.length:=by rfl) (J:keys≠[]:=by simp) (u:keys.length<=15:=by decide) (L:ps.length<=15:=by decide) :
  JE X (.Dict keys values pos) (tN W O (wg ps)) :=
 JE.imp ⟨IZ h g hl J u⟩ fun σ H Q ⟨as0,B,own,U,I,h⟩ p hpH=>by
  refine rR ps (I.mono (aR hpH (.dK []))) ?_;unfold wg at h;cases e:Rl ps U with
  | er z=>rw [e] at h;exact fun e C H' s=>h e C H' ((aR hpH _).trans s)
  | no=>rw [e] at h;exact h
  | ok l =>
   rw [e] at h;intro H' s r;refine ⟨s p _ aK,l.map fun q=>(.inr q.1,q.2.2),by rw [abd];rfl,by simp_all,?_⟩;exact h p _ _ (fun b o v=>by rw [aF (bf v hpH)];exact s b o (by rw [aF (bf v hpH)];exact v)) hpH aK ⟨_,rfl,wo l r.2 rfl⟩
end
section
variable {X:Cx} {K:aT} {st:ac2} {p pos:Pos}
def pcA (D:Def X.K mg0 y st ps f fd) (m:X.mg x=θ (.ref f)) (G:FnOk X.prog X.w X.K X.mg X.base gN j f fd ps sp) (hr:Room k X.A) (L:PA X (e::es) t) (J:j<=k:=by decide) (hg:Gl X x:=by rfl) (u:afX x:=by decide)
  (h1:aI e=ζ:=by rfl) (h2:es.all aI=ζ:=by rfl):PE X (.Call (.Name x p) (e::es) [] pos) (D0 sp t):=by
 have C:aa2 (e::es) X.env=(η,eval e X.env)::aa2 es X.env:=bH h1;have g:(acL pos (aa2 es X.env)).any (·.1)=η:=cK h2;intro M s σ H Q I h;refine abm (i9 I hg m ?_ u);refine ad2 I.ok.mod.kin D.F.kp (bT (L pos M s σ H _ I h) fun us Y z=>ji z fun vs H1 v r q=>⟨v.kIn,?_⟩) C g;exact xQ G (hr.mono J) D.b .nil uX v r (by simp_all)
def J9 (D:Def X.K mg0 y st ps f fd) (m:X.mg x=θ (.ref f)) (G:FnOk X.prog X.w X.K X.mg X.base gN j f fd ps (rS K mg F)) (hr:Room k X.A) (z:JA X (e::es) (qZ ⟨K,mg,E0⟩ O α)) (v:j<=k:=by decide) (hg:Gl X x:=by rfl) (g:afX x:=by decide)
  (h1:aI e=ζ:=by rfl) (h2:es.all aI=ζ:=by rfl):JE X (.Call (.Name x p) (e::es) [] pos) (tD ⟨K,mg,E0⟩ O (aj F α)) :=
 JE.imp ⟨pcA D m G hr z.out v hg g h1 h2⟩ fun σ H Q r=>cP r fun as0 B own U I h=>⟨as0,B,own,U,I,dH h fun ds vs H1 u C h1=>⟨own++as0,ds,(I.mono u).exi,C,h1⟩⟩
end
section
variable {X:Cx} {W:Wd} {O:afO} {a b c:abu} {φ ψ χ:FE} {apos cpos:Pos}
def vv (φ ψ χ:FE):FE:=fun U=>(φ U).bind fun x=>match nz x with
 | some g=>(ψ U).bind fun y=>(χ U).bind fun z=>match m4 y with
  | some k=>.ok ((bV g k).getD z)
  | none=>.no
 | none=>.no
theorem Iv (hu:X.A.units+64 < adu) (ha:JE X a (tD W O φ)) (hb:JE X b (tD W O ψ)) (hc:JE X c (tD W O χ)) (r:abg a "get" X.env (eval a X.env)=eval a X.env:=by rfl)
  (J:((acL cpos (aa2 [b,c] X.env)).all (fun x=>!x.1)&&(backToKw cpos (adj [] X.env)).all (fun x=>x.1.isSome)&&decide (([b,c]:List abu).length+([]:List adv).length+(if ([]:List adv).isEmpty then 0 else 1) < 30))=ζ:=by rfl)
  (C:(apos.endLine==cpos.line)=ζ:=by rfl) (htr:acL cpos (aa2 [b,c] X.env)=[(η,eval b X.env),(η,eval c X.env)]:=by rfl):JE X (.Call (.Attribute a "get" apos) [b,c] [] cpos) (tD W O (vv φ ψ χ)) :=
 JE.imp ⟨EB (by lia) ha.out hb.out hc.out ⟨r,J,C,htr⟩⟩ fun σ H Q hh=>cP hh fun as0 B own U I h=>⟨as0,B,own,U,I,bp h fun x v H1 s1 d1 h1=>by
  cases e0:nz x with
  | none=>rw [e0] at h1;exact h1.elim
  | some kvs =>
   rw [e0] at h1;obtain ⟨p,xs,rfl,M,q2⟩:=j6 d1 e0;refine ⟨p,rfl,.inl ⟨xs,(ar _ _).rd M⟩,as0,B,own,U,I.mono s1,bp h1 fun y u H2 L d2 h2=>⟨as0,B,own,U,(I.mono s1).mono L,bp h2 fun z u3 H3 Z d3 g=>?_⟩⟩;cases e:m4 y with
   | none=>rw [e] at g;exact g.elim
   | some k =>
    rw [e] at g;dsimp only at g;have hy:=ju d2 e;subst hy;rcases (q2.mono (aJ (L.trans Z))).val k with ⟨Y,c2⟩|⟨d,v,Y,c2,c3⟩
    .rw [Y] at g;exact ⟨ξ,c2 ▸ mf.rd (Z.rd (L.rd ((ar _ _).rd M))),aH g d3⟩
    .rw [Y] at g;exact ⟨θ v,c2 ▸ mf.rd (Z.rd (L.rd ((ar _ _).rd M))),aH g c3⟩⟩
end
def O6 (sc:Scope) (x:Str):Bool:=match sc.names.lookup x with
 | some .local=>ζ
 | some .cell=>ζ
 | some .free=>ζ
 | _=>η
def Ik (h:O6 sc x=ζ):oy sc x:=by
 unfold O6 at h;split at h
 .rename_i e;exact .inl e
 .rename_i e;exact .inr (.inl e)
 .rename_i e;exact .inr (.inr e)
 .cases h
def Tx (sc:Scope) (x:Str):Bool:=O6 sc x&&!(x==("__debug__":Str))&&!(x==("__classdict__":Str))
def yF (h:Tx sc x=ζ):oy sc x/\afX x/\(x==("__classdict__":Str))=η:=by
 unfold Tx at h;rw [Pi,Pi,adC,adC] at h;exact ⟨Ik h.1.1,h.1.2,h.2⟩
abbrev Fm:=Scope->afP->afO->abu->Option (List abu×(List FE->FE))
abbrev Fq:=Scope->afP->afO->abu->Option (List abu×(List FE->FT))
abbrev Fi:=Scope->afP->afO->abu->abu->Option (List abu×(List FE->FA))
abbrev Fs:=Scope->afP->afO->ac2->Option (List abu×(List FE->FS))
structure Tb where
 x:List Fm
 n:List Fm
 q:List Fq
 i:List Fi
 s:List Fs
 c:List (Str×D)
 d:afP
 m:afP
 k:List (Pos×afP)
 w:Nat
def Js (X:Cx) (W:Wd) (O:afO):List abu->List FE->Prop
 | [],[]=>True
 | e::es,φ::φs=>JE X e (tD W O φ)/\Js X W O es φs
 | _,_=>False
def cQ (X:Cx) (W:Wd) (f:Fm):Prop:=∀ O e es b g,f X.env.scope X.N O e=θ (es,b)->Js X W O es g->JE X e (tD W O (b g))
def uh (X:Cx) (W:Wd) (f:Fm):Prop:=∀ O e es b g,f X.env.scope X.N O e=θ (es,b)->Js X W O es g->JE X e (tN W O (b g))
def JX (X:Cx) (W:Wd) (f:Fq):Prop:=∀ O e es b g,f X.env.scope X.N O e=θ (es,b)->Js X W O es g->JT X e (iM W O (b g))
def yj (X:Cx) (W:Wd) (f:Fi):Prop:=∀ O g e es b r,f X.env.scope X.N O g e=θ (es,b)->Js X W O es r->JI X g e (iD W O (b r))
def qw (X:Cx) (W:Wd) (f:Fs):Prop:=∀ Ob O s es b g,f X.env.scope X.N O s=θ (es,b)->Js X W O es g->JS X s (sD W Ob O O (b g))
def yK (X:Cx) (W:Wd) (x:Str) (d:D):Prop:=∀ (O:afO) (p:Pos),Gl X x->JE X (.Name x p) (tD W O (vC d))
structure TbOk (X:Cx) (W:Wd) (t:Tb):Prop where
 x:∀ f∈t.x,cQ X W f
 n:∀ f∈t.n,uh X W f
 q:∀ f∈t.q,JX X W f
 i:∀ f∈t.i,yj X W f
 s:∀ f∈t.s,qw X W f
 c:∀ q∈t.c,yK X W q.1 q.2
def lk {β:Type} (x:Str):List (Str×β)->Option β
 | []=>ξ
 | q::r=>if q.1=x then θ q.2 else lk x r
theorem Ey:∀ {l:List (Str×β)} {b:β},lk x l=θ b->(x,b)∈l
 | [],_,h=>by cases h
 | q::r,b,h=>by
  unfold lk at h;split at h
  .grind
  .exact iN _ (Ey h)
def xM (f:abu->Option FE):List abu->Option (List FE)
 | []=>θ []
 | e::es=>(f e).bind fun φ=>(xM f es).map (φ::·)
def fst {α β:Type} (l:List α) (f:α->Option β):Option β:=match l with
 | []=>ξ
 | a::r=>match f a with
  | some b=>θ b
  | none=>fst r f
theorem jU {α β:Type} {f:α->Option β} {b:β}:∀ {l:List α},fst l f=θ b->∃ a∈l,f a=θ b
 | [],h=>by cases h
 | a::r,h=>by
  unfold fst at h;split at h
  .simp_all
  .let ⟨c,h1,h2⟩:=jU h;grind
def NN (N:afP) (x:Str):Option Nat:=N.findIdx? fun y=>decide (y=x)
def iK (h:NN N x=θ i):N[i]?=θ x:=by
 obtain ⟨hl,g,_⟩:=List.findIdx?_eq_some_iff_getElem.mp h;simp_all
noncomputable def wn:abu->Bool
 | .Set ..=>ζ
 | _=>η
def ug (h:wn e=η) (env:Env):∀ x,abI e env x=pure x:=by
 cases e <;> first|exact fun _=>rfl|cases h
def WP (t:Tb) (sc:Scope) (N:afP) (O:afO) (r:abu->Option FE) (g it:abu):Option FA:=match fst t.i fun f=>f sc N O g it with
 | some q=>(xM r q.1).map q.2
 | none=>(r it).map cU
def Oz (scope sc:Scope):Scope:={ scope with names:=scope.names.map fun (n,k)=>if (k==.free&&sc.kind==.function&&sc.names.lookup n==θ .cell) then (n,.cell) else (n,k) }
noncomputable def tZ:abu->Option Str
 | .Name x _=>θ x
 | _=>ξ
def Rg (sc:Scope) (fn:Str->Bool) (x:Str):Bool:=decide (sc.names.lookup x=θ .local)||(decide (sc.names.lookup x=θ .cell)&&fn x)
def wY {X:Cx} (h:Rg X.env.scope X.fn x=ζ):wE X.env.scope x/\(X.fn x=ζ\/X.env.scope.names.lookup x=θ .local):=by
 unfold Rg at h;rw [Bool.or_eq_true,Pi,decide_eq_true_eq,decide_eq_true_eq] at h;rcases h with h|h
 .exact ⟨.inl h,.inr h⟩
 .exact ⟨.inr h.1,.inl h.2⟩
def Oy (N:afP) (O:afO) (sc:Scope) (fn:Str->Bool) (e:abu):Option Nat:=(tZ e).bind fun x=>(NN N x).bind fun i=>if i∉O/\Rg sc fn x=ζ then θ i else ξ
def Ba (N:afP) (O:afO) (sc:Scope) (fn:Str->Bool):List abu->Option (afO)
 | []=>θ []
 | e::r=>(Oy N O sc fn e).bind fun i=>(Ba N O sc fn r).map (i::·)
def vJ (N:afP) (O:afO) (sc:Scope) (fn:Str->Bool):abu->Option TgD
 | .Name x p=>(Oy N O sc fn (.Name x p)).map .one
 | .Tuple es _ _=>(Ba N O sc fn es).map .tup
 | _=>ξ
def YT:abu->afP
 | .Name x _=>[x]
 | .Tuple es _ _=>es.filterMap tZ
 | _=>[]
def Ae (t:Tb) (sc:Scope) (N:afP) (O:afO) (v:abu->Option FE) (u:Scope->afP->(abu->Option FE)×(abu->Option FT)) (elt tg it:abu) (ifs:List abu) (scope:Scope) (pos:Pos):Option FE :=
 let g:=((t.k.find? fun q=>decide (q.1=pos)).map (·.2)).getD (YT tg)
  let ix:=g.map fun y=>if (YT tg).contains y=ζ then ξ else NN N y
  if wy sc N g ix scope=ζ/\g.Nodup/\wn it=η/\(ix.all fun o=>match o with|some k=>decide (k∉O)|none=>ζ)=ζ then
   (vJ g [] (Oz scope sc) (fun _=>η) tg).bind fun r=>(WP t sc N O v tg it).bind fun ι=>(match ifs with
    | []=>θ gc
    | [c]=>(u (Oz scope sc) g).2 c
    | _=>ξ).bind fun τ=>((u (Oz scope sc) g).1 elt).map fun ε=>br ix ι r τ ε
  else ξ
def YM (t:Tb) (sc:Scope) (N:afP) (O:afO) (g:abu->Option FE) (u:abu->Option FT) (r:Scope->afP->(abu->Option FE)×(abu->Option FT)) (e:abu):Option FE:=match e with
  | .Constant (.int i) _ _=>θ (vC (.int i))
  | .Constant (.str x) _ _=>θ (vC (.str x))
  | .Constant (.bool b) _ _=>θ (vC (.bl b))
  | .Constant .none _ _=>θ (vC .non)
  | .Name x _=>match NN N x with
   | some i=>if i∉O/\Tx sc x=ζ then θ (ae i) else ξ
   | none=>if sc.names.lookup x=θ .globalImplicit then (lk x t.c).map vC else ξ
  | .ListComp elt [⟨tg,it,ifs,0⟩] scope pos=>Ae t sc N O g r elt tg it ifs scope pos
  | .IfExp c a b _=>(u c).bind fun τ=>(g a).bind fun φ=>(g b).map fun ψ=>Je τ φ ψ
  | _=>(fst t.x fun f=>f sc N O e).bind fun q=>(xM g q.1).map q.2
def TQ:abu->Bool
 | .Name ..=>ζ
 | .Call ..=>ζ
 | .Subscript ..=>ζ
 | .Attribute ..=>ζ
 | _=>η
def Ls (h:TQ e=ζ) (env:Env):∀ g,isTrue e env g=(do let v <- g;ae1 e.pos;holding [v] (truthy v)):=by
 cases e <;> first|exact fun _=>rfl|cases h
def Wj (f:abu->Option FT) (q:FT->FT->FT):List abu->Option FT
 | []=>ξ
 | [a]=>f a
 | a::b::r=>(f a).bind fun τ=>(Wj f q (b::r)).map (q τ)
def EE (t:Tb) (sc:Scope) (N:afP) (O:afO) (r:abu->Option FE) (g:abu->Option FT) (e:abu):Option FT:=match e with
 | .UnaryOp .Not a _=>(g a).map d6
 | .BoolOp .And l _=>Wj g dc l
 | .BoolOp .Or l _=>Wj g kQ l
 | _=>match fst t.q fun f=>f sc N O e with
  | some q=>(xM r q.1).map q.2
  | none=>if TQ e=ζ then (r e).map cx else ξ
def kg (t:Tb):Nat->Scope->afP->afO->(abu->Option FE)×(abu->Option FT)
 | 0,_,_,_=>(fun _=>ξ,fun _=>ξ)
 | n+1,sc,N,O=>(YM t sc N O (kg t n sc N O).1 (kg t n sc N O).2 fun g r=>kg t n g r [],EE t sc N O (kg t n sc N O).1 (kg t n sc N O).2)
section
variable {X:Cx} {W:Wd} {O:afO} {t:Tb}
theorem mV (g:∀ e φ,f e=θ φ->JE X e (tD W O φ)):∀ (es:List abu) (l:List FE),xM f es=θ l->Js X W O es l
 | [],_,h=>by cases h;exact aa9
 | e::es,_,h=>by
  let ⟨φ,h1,h⟩:=bY.mp h
  obtain ⟨l,h2,rfl⟩:=iF.mp h;exact ⟨g e φ h1,mV g es l h2⟩
def FM (u:W.K=X.K) (v:TbOk X W t) (g:∀ e φ,fx e=θ φ->JE X e (tD W O φ)) (h:WP t X.env.scope X.N O fx tg it=θ ι):JI X tg it (iD W O ι):=by
 unfold WP at h;split at h
 .rename_i q e;let ⟨f,h1,h2⟩:=jU e
  obtain ⟨l,r,rfl⟩:=iF.mp h;exact v.i f h1 O tg it _ _ l h2 (mV g _ _ r)
 .obtain ⟨ε,h1,rfl⟩:=iF.mp h;exact PU X.K (g _ _ h1) rfl u
def GO (g:X.N.Nodup) (h:Oy X.N O X.env.scope X.fn e=θ i):JG X e (gD W O (.one i))/\∃ x p,e=.Name x p:=by
 let ⟨x,h0,h⟩:=bY.mp h
 let ⟨i,h1,h⟩:=bY.mp h
 split at h
 .rename_i hl;cases h;unfold tZ at h0;split at h0
  .cases h0;exact ⟨Pt hl.1 g (iK h1) (wY hl.2).1 (wY hl.2).2,_,_,rfl⟩
  .cases h0
 .cases h
theorem AM (u:X.N.Nodup):∀ {es:List abu} {is:afO},Ba X.N O X.env.scope X.fn es=θ is->JGs X es (Tf W O is)/\(abz es X.env).length=es.length/\es.length=is.length/\(abz es X.env).findIdx? (·.1)=ξ
 | [],_,h=>by cases h;exact ⟨HH,rfl,rfl,rfl⟩
 | e::r,_,h=>by
  let ⟨i,h1,h⟩:=bY.mp h
  obtain ⟨v,h2,rfl⟩:=iF.mp h;let ⟨z,a,b,c⟩:=AM u h2
  obtain ⟨g,x,p,rfl⟩:=GO u h1;refine ⟨EX g z rfl,by show (abz r X.env).length+1=_;rw [a];rfl,by rw [aaU,aaU,b],?_⟩;show List.findIdx? (·.1) ((η,_)::abz r X.env)=ξ;rw [List.findIdx?_cons,c];rfl
def tV (r:W.K=X.K) (u:X.calm=ζ) (g:X.N.Nodup) (h:vJ X.N O X.env.scope X.fn tg=θ q):JG X tg (gD W O q):=by
 unfold vJ at h;split at h
 .obtain ⟨i,h1,rfl⟩:=iF.mp h;exact (GO g h1).1
 .obtain ⟨is,h1,rfl⟩:=iF.mp h;obtain ⟨z,a,b,c⟩:=AM g h1;exact OI X.K z rfl u (a.trans b) c rfl r
 .cases h
def Ep (h:Rg sc (fun _=>η) x=ζ):Rg sc fn x=ζ:=by
 unfold Rg at h ⊢;rw [Bool.and_false,Bool.or_false] at h;rw [h];rfl
def vf (h:Oy N O sc (fun _=>η) e=θ i):Oy N O sc fn e=θ i:=by
 unfold Oy at h ⊢;obtain ⟨x,g,h⟩:=bY.mp h;obtain ⟨j,h1,h⟩:=bY.mp h;rw [g,acf,h1,acf];split at h
 .rename_i hq;rw [afI ⟨hq.1,Ep hq.2⟩];exact h
 .cases h
def sV {N:afP} {sc:Scope} {fn:Str->Bool} {e:abu} {q:TgD} (h:vJ N O sc (fun _=>η) e=θ q):vJ N O sc fn e=θ q:=by
 have hs:∀ {es:List abu} {is:afO},Ba N O sc (fun _=>η) es=θ is->Ba N O sc fn es=θ is:=fun {es}=>by
  induction es with
  | nil=>exact fun h=>h
  | cons e r g =>
   intro is h;let ⟨i,h1,h⟩:=bY.mp h
   obtain ⟨u,h2,rfl⟩:=iF.mp h;unfold Ba;rw [vf h1,g h2];rfl
 unfold vJ at h ⊢;split at h
 .obtain ⟨i,h1,rfl⟩:=iF.mp h;rw [vf h1];rfl
 .obtain ⟨is,h1,rfl⟩:=iF.mp h;rw [hs h1];rfl
 .cases h
structure CompOk (X:Cx) (W:Wd) (O:afO) (elt tg it:abu) (ifs:List abu) (scope:Scope) (N':afP) (ix:List (Option Nat)) (ι:FA) (g:TgD) (τ:FT) (ε:FE):Prop where
 cs:wy X.env.scope X.N N' ix scope=ζ
 i:JI X tg it (iD W O ι)
 g:∀ b,JG (iJ X N' scope b) tg (gD W [] g)
 t:∀ b,JTs (iJ X N' scope b) ifs (iM W [] τ)
 e:∀ b,JE (iJ X N' scope b) elt (tD W [] ε)
 o:∀ j∈ix,∀ k,j=θ k->k∉O
 s:wn it=η
theorem C2 (z:W.K=X.K) (M:X.calm=ζ) (L:TbOk X W t) (C:∀ e φ,fx e=θ φ->JE X e (tD W O φ))
  (v:∀ N scope b,(∀ e φ,(fy (iJ X N scope b).env.scope N).1 e=θ φ->JE (iJ X N scope b) e (tD W [] φ))/\(∀ e τ,(fy (iJ X N scope b).env.scope N).2 e=θ τ->JT (iJ X N scope b) e (iM W [] τ)))
  (h:Ae t X.env.scope X.N O fx fy elt tg it ifs scope pos=θ φ):∃ u ix ι g τ ε,φ=br ix ι g τ ε/\CompOk X W O elt tg it ifs scope u ix ι g τ ε:=by
 unfold Ae at h;dsimp only at h;generalize ((t.k.find? fun q=>decide (q.1=pos)).map (·.2)).getD (YT tg)=u at h;split at h
 .rename_i hq;obtain ⟨I,h1,h⟩:=bY.mp h;let ⟨ι,h2,h⟩:=bY.mp h
  let ⟨τ,h3,h⟩:=bY.mp h
  obtain ⟨ε,J,rfl⟩:=iF.mp h;refine ⟨_,_,_,_,_,_,rfl,hq.1,FM z L C h2,fun b=>tV z M hq.2.1 (sV h1),fun b=>?_,fun b=>(v u scope b).1 _ _ J,Ds hq.2.2.2,hq.2.2.1⟩;cases ifs with
  | nil=>cases h3;exact Ie
  | cons c r =>
   cases r with
   | nil=>exact Jm ((v u scope b).2 _ _ h3)
   | cons _ _=>cases h3
 .cases h
theorem CompOk.n (r:X.calm=ζ) {g:TgD} (C:CompOk X W O elt tg it ifs scope N' ix ι g τ ε):JE X (.ListComp elt [⟨tg,it,ifs,0⟩] scope pos) (tN W O (br ix ι g τ ε)) :=
 QS C.cs C.i C.g C.t C.e C.o rfl rfl rfl r (ug C.s _)
theorem NV (z:W.K=X.K) (g:X.calm=ζ) (u:TbOk X W t) (r:∀ e φ,fx e=θ φ->JE X e (tD W O φ)) (I:∀ e τ,ft e=θ τ->JT X e (iM W O τ))
  (v:∀ N scope b,(∀ e φ,(fy (iJ X N scope b).env.scope N).1 e=θ φ->JE (iJ X N scope b) e (tD W [] φ))/\(∀ e τ,(fy (iJ X N scope b).env.scope N).2 e=θ τ->JT (iJ X N scope b) e (iM W [] τ)))
  (e:abu) (φ:FE) (h:YM t X.env.scope X.N O fx ft fy e=θ φ):JE X e (tD W O φ):=by
  unfold YM at h;split at h
  .cases h;exact Mu
  .cases h;exact Mf
  .cases h;exact Xq
  .cases h;exact Tm
  .split at h
   .rename_i i h1;split at h
    .rename_i hc;cases h;let ⟨a,b,c⟩:=yF hc.2
     exact Mj i hc.1 (iK h1) a b c
    .cases h
   .split at h
    .rename_i hg;obtain ⟨d,h1,rfl⟩:=iF.mp h;exact u.c _ (Ey h1) O _ hg
    .cases h
  .obtain ⟨_,_,_,_,_,_,rfl,C⟩:=C2 z g u r v h;exact vj (C.n g)
  .let ⟨τ,h0,h⟩:=bY.mp h
   let ⟨φ1,h1,h⟩:=bY.mp h
   obtain ⟨ψ,h2,rfl⟩:=iF.mp h;exact Wu (I _ _ h0) (r _ _ h1) (r _ _ h2)
  .let ⟨q,h0,h⟩:=bY.mp h
   obtain ⟨l,h1,rfl⟩:=iF.mp h;let ⟨f,h2,h3⟩:=jU h0
   exact u.x f h2 O e _ _ l h3 (mV r _ _ h1)
theorem zo (g:∀ e τ,f e=θ τ->JT X e (iM W O τ)):∀ (l:List abu) (τ:FT),Wj f dc l=θ τ->JW X (.BoolOp .And l pos) (iM W O τ)
 | [],_,h=>by cases h
 | [a],τ,h=>Ks (g a τ h)
 | a::b::r,_,h=>by
  let ⟨τ,h1,h⟩:=bY.mp h
  obtain ⟨υ,h2,rfl⟩:=iF.mp h;exact Oc (g _ _ h1) (zo g (b::r) υ h2)
theorem Dr (g:∀ e τ,f e=θ τ->JT X e (iM W O τ)):∀ (l:List abu) (τ:FT),Wj f kQ l=θ τ->JW X (.BoolOp .Or l pos) (iM W O τ)
 | [],_,h=>by cases h
 | [a],τ,h=>QN (g a τ h)
 | a::b::r,_,h=>by
  let ⟨τ,h1,h⟩:=bY.mp h
  obtain ⟨υ,h2,rfl⟩:=iF.mp h;exact Wy (g _ _ h1) (Dr g (b::r) υ h2)
theorem QE (u:W.K=X.K) (v:TbOk X W t) (r:∀ e φ,fx e=θ φ->JE X e (tD W O φ)) (g:∀ e τ,ft e=θ τ->JT X e (iM W O τ)) (e:abu) (τ:FT) (h:EE t X.env.scope X.N O fx ft e=θ τ):JT X e (iM W O τ):=by
 unfold EE at h;split at h
 .obtain ⟨υ,h1,rfl⟩:=iF.mp h;exact Nc (g _ _ h1)
 .exact AC (zo g _ _ h)
 .exact AC (Dr g _ _ h)
 .split at h
  .rename_i q e1;let ⟨f,h2,h3⟩:=jU e1
   obtain ⟨l,h1,rfl⟩:=iF.mp h;exact v.q f h2 O e _ _ l h3 (mV r _ _ h1)
  .split at h
   .rename_i hb;obtain ⟨φ,h1,rfl⟩:=iF.mp h;exact DL X.K (r _ _ h1) (Ls hb _) rfl u
   .cases h
inductive Fam (X:Cx):Cx->Prop
 | re:Fam X X
 | bk {Y:Cx} (h:Fam X Y) (N:afP) (scope:Scope) (b:Bk):Fam X (iJ Y N scope b)
def Fam.eqs (h:Fam X Y):Y.K=X.K/\Y.mg=X.mg/\Y.prog=X.prog/\Y.w=X.w/\Y.base=X.base/\Y.A=X.A/\Y.calm=X.calm/\Y.env.code=X.env.code/\Y.env.qual=X.env.qual:=by
 induction h with
 | re=>exact ⟨rfl,rfl,rfl,rfl,rfl,rfl,rfl,rfl,rfl⟩
 | bk _ N sc b g=>exact g
theorem mM (u:W.K=X.K) (v:X.calm=ζ) (hF:∀ Y,Fam X Y->TbOk Y W t):∀ (n:Nat) (Y:Cx) (g:Fam X Y) (O:afO),(∀ e φ,(kg t n Y.env.scope Y.N O).1 e=θ φ->JE Y e (tD W O φ))/\(∀ e τ,(kg t n Y.env.scope Y.N O).2 e=θ τ->JT Y e (iM W O τ))
 | 0,_,_,_=>⟨fun _ _ h=>(by cases h),fun _ _ h=>(by cases h)⟩
 | n+1,Y,g,O=>by
  let ⟨a,b⟩:=mM u v hF n Y g O
  let ⟨e1,_,_,_,_,e6,e7,_⟩:=g.eqs
  have r:W.K=Y.K:=by rw [e1];exact u
  exact ⟨NV r (by rw [e7];exact v) (hF Y g) a b fun N scope z=>mM u v hF n (iJ Y N scope z) (.bk g N scope z) [],QE r (hF Y g) a b⟩
end
def Bp:abu->Bool
 | .ListComp ..=>ζ
 | .SetComp ..=>ζ
 | .DictComp ..=>ζ
 | _=>η
def oE (h:Bp e=η) (tg:Option abu) (l:Nat) (env:Env):acq e tg l env=pure η:=by
 cases e <;> first|rfl|cases h
def aas (sc:Scope) (x:Str) (p pos:Pos) (scope:Scope):Bool:=(if sc.kind.isAnnotationScope then ScopeKind.function else sc.kind)==.function&&sc.names.lookup x==θ .local&&p.line==pos.line&&!(scope.names.any fun (n,k)=>n==x&&(k==.local||k==.cell))
def yr:acq (.ListComp elt gs scope pos) (θ (.Name x p)) l env=pure (aas env.scope x p pos scope):=rfl
def dB:Nat:=30
def gB (t:Tb) (sc:Scope) (fn:Str->Bool) (N:afP) (r:afO->List ac2->Option (FS×afO)) (O:afO) (s:ac2):Option (FS×afO):=match s with
 | .Assign [.Name x p] e _=>(Oy N O sc fn (.Name x p)).bind fun i=>match e with
  | .ListComp elt [⟨tg,it,ifs,0⟩] scope pos=>(Ae t sc N O (kg t dB sc N O).1 (fun u v=>kg t dB u v []) elt tg it ifs scope pos).map fun φ=>if t.m.contains x=ζ then (ff i φ,i::O) else (az i φ,O)
  | e=>if Bp e=ζ then ξ else match (if t.m.contains x=ζ then fst t.n fun f=>f sc N O e else ξ) with
   | some q=>(xM (kg t dB sc N O).1 q.1).map fun l=>(ff i (q.2 l),i::O)
   | none=>((kg t dB sc N O).1 e).map fun ε=>(az i ε,O)
 | .Return (θ e) _=>((kg t dB sc N O).1 e).map fun ε=>(aM ε,O)
 | .If c a b _=>((kg t dB sc N O).2 c).bind fun τ=>(r O a).bind fun p=>(r O b).bind fun q=>if p.2=O/\q.2=O then θ (bz τ p.1 q.1,O) else ξ
 | .While c body [] _=>((kg t dB sc N O).2 c).bind fun τ=>(r O body).bind fun p=>if p.2=O then θ (di τ p.1 t.w,O) else ξ
 | .Raise ..=>θ (Cr,O)
 | .For tg it body [] _=>(vJ N O sc fn tg).bind fun g=>if wn it=ζ then ξ else
   (WP t sc N O (kg t dB sc N O).1 tg it).bind fun ι=>(r O body).bind fun p=>if p.2.filter (fun i=>decide (i∈O))=O then θ (fK ι g p.1,O) else ξ
 | _=>ξ
def Zo (t:Tb) (sc:Scope) (fn:Str->Bool) (N:afP) (g:afO->List ac2->Option (FS×afO)) (O:afO) (s:ac2):Option (FS×afO):=match gB t sc fn N g O s with
 | some q=>θ q
 | none=>(fst t.s fun f=>f sc N O s).bind fun q=>(xM (kg t dB sc N O).1 q.1).map fun l=>(q.2 l,O)
def WZ (t:Tb) (N:afP) (O:afO):afO:=O.filter fun i=>match N[i]? with
 | some x=>t.d.contains x
 | none=>η
def Rm (t:Tb) (N:afP) (f:afO->ac2->Option (FS×afO)):afO->List ac2->Option (FS×afO)
 | O,[]=>θ (ay,O)
 | O,[s]=>match f O s with
  | some p=>θ p
  | none=>if (WZ t N O).Nodup then (f [] s).map fun p=>((WZ t N O).foldr Cy p.1,p.2) else ξ
 | O,s::a::r=>match f O s with
  | some p=>(Rm t N f p.2 (a::r)).map fun q=>(ao p.1 q.1,q.2)
  | none=>if (WZ t N O).Nodup then (f [] s).bind fun p=>(Rm t N f p.2 (a::r)).map fun q=>((WZ t N O).foldr Cy (ao p.1 q.1),q.2) else ξ
def Y5 (t:Tb) (sc:Scope) (fn:Str->Bool) (N:afP):Nat->afO->List ac2->Option (FS×afO)
 | 0=>fun _ _=>ξ
 | n+1=>Rm t N (Zo t sc fn N (Y5 t sc fn N n))
section
def zB (v:X.N.Nodup) (hl:wE X.env.scope x) (z:X.fn x=ζ\/X.env.scope.names.lookup x=θ .local) (I:X.calm=ζ) (u:X.N[i]?=θ x) (r:i∉O) (C:CompOk X W O elt tg it ifs scope N' ix ι g τ ε) :
  JS X (.Assign [.Name x p] (.ListComp elt [⟨tg,it,ifs,0⟩] scope pos) spos) (sD W Ob O (i::O) (ff i (br ix ι g τ ε)))/\JS X (.Assign [.Name x p] (.ListComp elt [⟨tg,it,ifs,0⟩] scope pos) spos) (sD W Ob O O (az i (br ix ι g τ ε))):=by
 cases hsw:aas X.env.scope x p pos scope with
 | true =>
  have j:=IR (spos:=spos) v hl C.cs C.i C.g C.t C.e C.o rfl u rfl rfl I (yr.trans (by rw [hsw])) z (ug C.s _);exact ⟨IQ r j,JY r j⟩
 | false=>exact ⟨DZ r v hl (C.n I) u (yr.trans (by rw [hsw])) z,FL r v hl (vj (C.n I)) u (yr.trans (by rw [hsw])) z⟩
theorem Qk (J:W.K=X.K) (hF:∀ Y,Fam X Y->TbOk Y W t) (I:X.N.Nodup) (hp:adM (aaV X.prog X.w) X.A X.env X.xe) (z:X.calm=ζ)
  (L:∀ O sts q,fb O sts=θ q->∀ Ob,JB X sts (sD W Ob O q.2 q.1)) (O:afO) (s:ac2) (q:FS×afO) (h:gB t X.env.scope X.fn X.N fb O s=θ q) (Ob:afO):JS X s (sD W Ob O q.2 q.1):=by
 have v:=mM J z hF dB X .re O;have ty:=fun N scope b=>mM J z hF dB (iJ X N scope b) (.bk .re N scope b) [];have Z:=hF X .re;unfold gB at h;split at h
 .let ⟨i,h1,h⟩:=bY.mp h
  let ⟨x,h0,h1⟩:=bY.mp h1
  cases h0;let ⟨i,h2,h1⟩:=bY.mp h1
  split at h1
  .rename_i hq;cases h1;let ⟨hl,hf⟩:=wY hq.2
   split at h
   .let ⟨φ,h3,h⟩:=iF.mp h
    obtain ⟨_,_,_,_,_,_,rfl,C⟩:=C2 J z Z v.1 ty h3;split at h
    .cases h;exact (zB I hl hf z (iK h2) hq.1 C).1
    .cases h;exact (zB I hl hf z (iK h2) hq.1 C).2
   .split at h
    .cases h
    .rename_i u;have u:=adD.mpr u;split at h
     .rename_i r e;split at e
      .let ⟨f,M,h5⟩:=jU e
       obtain ⟨l,h6,rfl⟩:=iF.mp h;exact DZ hq.1 I hl (Z.n f M O _ _ _ l h5 (mV v.1 _ _ h6)) (iK h2) (oE u _ _ _) hf
      .cases e
     .obtain ⟨ε,M,rfl⟩:=iF.mp h;exact FL hq.1 I hl (v.1 _ _ M) (iK h2) (oE u _ _ _) hf
  .cases h1
 .obtain ⟨ε,h2,rfl⟩:=iF.mp h;exact NZ (v.1 _ _ h2)
 .let ⟨τ,h1,h⟩:=bY.mp h
  let ⟨p,h2,h⟩:=bY.mp h
  let ⟨r,h3,h⟩:=bY.mp h
  split at h
  .rename_i hq;cases h;have a:=L _ _ _ h2 Ob;have b:=L _ _ _ h3 Ob;rw [hq.1] at a;rw [hq.2] at b;exact S3 (v.2 _ _ h1) a b
  .cases h
 .let ⟨τ,h1,h⟩:=bY.mp h
  let ⟨p,h2,h⟩:=bY.mp h
  split at h
  .rename_i hq;cases h;have b:=L _ _ _ h2 O;rw [hq] at b;exact FW t.w hp (v.2 _ _ h1) b
  .cases h
 .cases h;exact Td
 .let ⟨g,h1,h⟩:=bY.mp h
  split at h
  .cases h
  .rename_i hs;let ⟨ι,h2,h⟩:=bY.mp h
   let ⟨p,h3,h⟩:=bY.mp h
   split at h
   .rename_i hp2;cases h;have b:=HI (L _ _ _ h3 O) hp2;exact Qu hp (FM J Z v.1 h2) (tV J z I h1) b z (ug (adD.mpr hs) _)
   .cases h
 .cases h
def QY (g:W.K=X.K) (hF:∀ Y,Fam X Y->TbOk Y W t) (z:X.N.Nodup) (v:adM (aaV X.prog X.w) X.A X.env X.xe) (u:X.calm=ζ)
  (C:∀ O sts q,fb O sts=θ q->∀ Ob,JB X sts (sD W Ob O q.2 q.1)) (O:afO) (s:ac2) (q:FS×afO) (h:Zo t X.env.scope X.fn X.N fb O s=θ q) (Ob:afO):JS X s (sD W Ob O q.2 q.1):=by
 unfold Zo at h;split at h
 .rename_i e;cases h;exact Qk g hF z v u C O s _ e Ob
 .obtain ⟨r,h1,h⟩:=bY.mp h;obtain ⟨l,h2,rfl⟩:=iF.mp h;let ⟨f,h3,h4⟩:=jU h1
  exact (hF X .re).s f h3 Ob O s _ _ l h4 (mV (mM g u hF dB X .re O).1 _ _ h2)
theorem yi (h:JB X sts (sD W Ob [] O' φ)):∀ (ds O:afO),ds.Nodup->(∀ i∈ds,i∈O)->JB X sts (sD W Ob O O' (ds.foldr Cy φ))
 | [],O,_,_=>ND h (by simp)
 | i::r,O,nd,hm=>by
  rw [aa4] at nd;exact Vg (yi h r (O.filter fun k=>decide (k≠i)) nd.2 fun j g=>aba.mpr ⟨hm j (iN _ g),afL ((fun e=>nd.1 (e ▸ g)))⟩) (hm i aa8) rfl
theorem xy (g:∀ O s q,f O s=θ q->∀ Ob,JS X s (sD W Ob O q.2 q.1)):∀ (sts:List ac2) (O:afO) (q:FS×afO),Rm t X.N f O sts=θ q->∀ Ob,JB X sts (sD W Ob O q.2 q.1)
 | [],O,q,h,Ob=>by cases h;exact Nl
 | [s],O,q,h,Ob=>by
  unfold Rm at h;split at h
  .rename_i e;cases h;exact Ef (g O s _ e Ob)
  .split at h
   .rename_i nd;obtain ⟨p,h1,rfl⟩:=iF.mp h;exact yi (Ef (g [] s p h1 Ob)) _ O nd fun i v=>(aba.mp v).1
   .cases h
 | s::a::r,O,q,h,Ob=>by
  unfold Rm at h;split at h
  .rename_i p e;obtain ⟨u,h2,rfl⟩:=iF.mp h;exact yY (g O s p e Ob) (xy g (a::r) p.2 u h2 Ob)
  .split at h
   .rename_i nd;let ⟨p,h1,h⟩:=bY.mp h
    obtain ⟨u,h2,rfl⟩:=iF.mp h;exact yi (yY (g [] s p h1 Ob) (xy g (a::r) p.2 u h2 Ob)) _ O nd fun i v=>(aba.mp v).1
   .cases h
theorem wH (g:W.K=X.K) (hF:∀ Y,Fam X Y->TbOk Y W t) (u:X.N.Nodup) (r:adM (aaV X.prog X.w) X.A X.env X.xe) (v:X.calm=ζ):∀ (n:Nat) (O:afO) (sts:List ac2) (q:FS×afO),Y5 t X.env.scope X.fn X.N n O sts=θ q->∀ Ob,JB X sts (sD W Ob O q.2 q.1)
 | 0,_,_,_,h,_=>by cases h
 | n+1,O,sts,q,h,Ob=>xy (fun O s q h Ob=>QY g hF u r v (wH g hF u r v n) O s q h Ob) sts O q h Ob
end
structure FY (Y:Cx) (P:abN) (w:abA) (K:aT) (mg:afS) (base:acV) (k:Nat):Prop where
 eK:Y.K=K
 eM:Y.mg=mg
 eP:Y.prog=P
 eW:Y.w=w
 eB:Y.base=base
 hr:Room k Y.A
 cm:Y.calm=ζ/\∃ c P q,Y.env.code=.ref c/\Y.env.qual=q++".<locals>."/\acs K c P=ζ/\∀ H,JC K H->H P=θ (.tbl (q++".<locals>."++"<lambda>"))
def wC (sc:Scope) (x:Str):Bool:=decide (sc.names.lookup x=θ .globalImplicit)&&!(x==("__debug__":Str))
def b7 (h:wC X.env.scope x=ζ):Gl X x/\afX x:=by
 unfold wC at h;rw [Pi,adC,decide_eq_true_eq] at h;exact h
def aL:List FE->FA
 | []=>ag
 | φ::l=>aa φ (aL l)
theorem rE:∀ {es:List abu} {l:List FE},Js X W O es l->es.all aI=ζ->JA X es (qZ W O (aL l))
 | [],[],_,_=>G4
 | e::es,φ::l,h,hn=>by
  rw [abO,Pi] at hn;exact zQ h.1 (rE h.2 hn.2) hn.1
 | [],_::_,h,_=>h.elim
 | _::_,[],h,_=>h.elim
def cN:abu->Option (Str×List abu)
 | .Call (.Name x _) es [] _=>θ (x,es)
 | _=>ξ
def sF (h:cN e=θ q):∃ p pos,e=.Call (.Name q.1 p) q.2 [] pos:=by
 unfold cN at h;split at h
 .cases h;exact ⟨_,_,rfl⟩
 .cases h
def fN (x:Str) (n:Nat->Bool) (c:List FE->FE):Fm:=fun sc _ _ e=>(cN e).bind fun q=>if q.1=x/\wC sc x=ζ/\q.2.all aI=ζ/\n q.2.length=ζ then θ (q.2,c) else ξ
theorem He (h:fN x n c sc N O e=θ (es,b)):∃ p pos,e=.Call (.Name x p) es [] pos/\wC sc x=ζ/\es.all aI=ζ/\n es.length=ζ/\b=c:=by
 let ⟨q,h1,h⟩:=bY.mp h
 split at h
 .cases h;obtain ⟨p,pos,rfl⟩:=sF h1;simp_all
 .cases h
def rT (x:Str) (F:afW->R D):Fm:=fN x (fun _=>ζ) fun l=>aj F (aL l)
structure Df where
 x:Str
 g:afP
 i:Nat
 N:afP
 p:Nat
 d:Nat
 m:afP:=[]
 k:List (Pos×afP):=[]
 e:afO:=[]
 h:afO:=[]
 w:Nat:=1000
noncomputable def Df.ps (q:Df):afP:=q.N.take q.p
inductive Mr where
 | pl (φ:FS)
 | rc (φ:(afW->R D)->FS) (Z:Nat->afW->R D) (n:Nat)
 | ex (F:afW->R D)
 | nw (φ:FS)
def Mr.F (q:Df):Mr->(afW->R D)
 | .pl φ=>vt φ q.N q.ps
 | .rc _ Z n=>Z n
 | .ex F=>F
 | .nw φ=>wx φ q.N q.ps
def Mr.dp (q:Df):Mr->Nat
 | .rc _ _ n=>q.d+n
 | _=>q.d+1
def Rb (N ps:afP) (sc:Scope):Bool:=decide (sc.kind=.function)&&!sc.isCoroutine&&!sc.isGenerator&&decide N.Nodup&&decide (N.take ps.length=ps)&&ps.all (fun x=>decide (sc.names.lookup x=θ .local)||decide (sc.names.lookup x=θ .cell))&&sc.names.all (fun y=>decide (y.2≠.free))
def Gq (h:Rb N ps sc=ζ):FnScope N ps sc:=by
 unfold Rb at h;simp only [Pi,adC,decide_eq_true_eq,abF,Bool.or_eq_true] at h;obtain ⟨⟨⟨⟨⟨⟨a,b⟩,c⟩,d⟩,e⟩,f⟩,g⟩:=h;exact ⟨a,b,c,d,e,f,g⟩
def vw:Fs:=fun sc N O s=>match s with
 | .Return (θ (.Name x _)) _=>(NN N x).bind fun i=>if i∈O/\Tx sc x=ζ then θ ([],fun _=>ql (ae i)) else ξ
 | _=>ξ
def Fa:qw X W vw:=fun Ob O s es b g h r=>by
 unfold vw at h;split at h
 .obtain ⟨i,h1,h⟩:=bY.mp h;split at h
  .rename_i hq;cases h;obtain ⟨a,b,c⟩:=yF hq.2;exact JK hq.1 (iK h1) a b c
  .cases h
 .cases h
section
abbrev Xf:=List (Nat×(Str->(afW->R D)->Fm))
variable (cH:Nat->ac2) (B:Tb) (ext:List Fm) (xf:Xf)
def tbl (g r:List (Nat×Fm)) (q:Df) (self:List Fm) (sf:List Fs):Tb:={ B with x:=q.e.filterMap (fun i=>ext[i]?)++(self++(B.x++(g.filter fun a=>decide (a.1<=q.d)).map (·.2))),n:=B.n++(r.filter fun a=>decide (a.1<=q.d)).map (·.2),s:=sf++B.s,m:=q.m,k:=q.k,w:=q.w }
def jx (t:Tb) (q:Df):Option FS:=(Y5 t (aY (cH q.i)) (fun _=>ζ) q.N 12 [] (dC (cH q.i))).map (·.1)
def HQ (q:Df) (m:Mr) (r:List (Nat×Fm)):List (Nat×Fm):=(if q.x∈q.g then (q.h.filterMap fun i=>xf[i]?).map fun h=>(m.dp q+h.1,h.2 q.x (m.F q)) else [])++(q.g.map (fun x=>(m.dp q,rT x (m.F q)))++r)
def wc (q:Df) (m:Mr) (r:List (Nat×Fm)):List (Nat×Fm):=match m with
 | .nw φ=>if q.x∈q.g then (q.d+1,rT q.x (wx φ q.N q.ps))::r else r
 | _=>r
def GK (P:abN) (w:abA) (K:aT) (mg:afS) (base:acV) (a:Nat×Fm):Prop:=∀ Y k,FY Y P w K mg base k->a.1<=k->uh Y ⟨K,mg,E0⟩ a.2
def mI (P:abN) (w:abA) (K:aT) (mg:afS) (base:acV) (a:Nat×Fm):Prop:=∀ Y k,FY Y P w K mg base k->a.1<=k->cQ Y ⟨K,mg,E0⟩ a.2
def Qb (q:Df) (r u:List (Nat×Fm)):Mr->Prop
 | .pl φ=>jx cH (tbl B ext r u q [] []) q=θ φ
 | .nw φ=>jx cH (tbl B ext r u q [] [vw]) q=θ φ
 | .rc φ Z n=>(∀ F,jx cH (tbl B ext r u q (q.g.map fun x=>rT x F) []) q=θ (φ F))/\(∀ ds,Z 0 ds=.no)/\∀ m,Z (m+1)=vt (φ (Z m)) q.N q.ps
 | .ex F=>∀ P w K mg base f v,Fun K q.x q.x (cH q.i) f v->(∀ a∈r,mI P w K mg base a)->FnScope q.N q.ps (aY (cH q.i))->FnOk P w K mg base gN (q.d+1) f v q.ps (rS K mg F)
def HX:List (Df×Mr)->List (Nat×Fm)->List (Nat×Fm)->Prop
 | [],_,_=>True
 | q::r,acc,an=>Qb cH B ext q.1 acc an q.2/\Rb q.1.N q.1.ps (aY (cH q.1.i))=ζ/\HX r (HQ xf q.1 q.2 acc) (wc q.1 q.2 an)
end
section
variable {K:aT}
structure DfOk (cH:Nat->ac2) (K:aT) (mg:afS) (q:Df) (f:aa3) (fd:acE):Prop where
 F:Fun K q.x q.x (cH q.i) f fd
 b:f8 K fd q.ps []
 m:∀ x∈q.g,mg x=θ (.ref f)
theorem zL (Q:DfOk cH K mg q f fd) (G:FnOk P w K mg base gN j f fd q.ps (rS K mg F)) (v:x∈q.g):mI P w K mg base (j,rT x F):=fun Y k ⟨e1,e2,e3,e4,e5,hr,_⟩ hj O e es b φs h hJ=>by
 subst e1 e2 e3 e4 e5;obtain ⟨p,pos,rfl,h1,h2,_,rfl⟩:=He (n:=fun _=>ζ) (N:=Y.N) (O:=O) h;let ⟨hg,hd⟩:=b7 h1
 have C:Def Y.K (fun _=>θ (.ref f)) q.x (cH q.i) q.ps f fd:=⟨Q.F,Q.b,rfl⟩;cases es with
 | nil =>
  cases φs with
  | nil =>
   refine (JE.mk (vd G (hr.mono hj) hg (Q.m x v) Q.F.kp Q.b .nil uX hd)).imp fun σ H Q z=>cP z fun as0 B own U I h=>⟨own++as0,[],I.exi,aN.nil,h⟩
  | cons _ _=>exact hJ.elim
 | cons a r =>
  have u:=h2;rw [abO,Pi] at u;exact J9 C (Q.m x v) G hr (rE hJ h2) hj hg hd u.1 u.2
theorem Dg (Q:DfOk cH K mg q f fd) (G:FnOk P w K mg base gN j f fd q.ps (Q7 K mg F)) (v:q.x∈q.g):GK P w K mg base (j,rT q.x F):=fun Y k ⟨e1,e2,e3,e4,e5,hr,_⟩ hj O e es b φs h hJ=>by
 subst e1 e2 e3 e4 e5;obtain ⟨p,pos,rfl,h1,h2,_,rfl⟩:=He (n:=fun _=>ζ) (N:=Y.N) (O:=O) h;let ⟨hg,hd⟩:=b7 h1
 cases es with
 | nil =>
  cases φs with
  | nil =>
   refine (JE.mk (vd G (hr.mono hj) hg (Q.m _ v) Q.F.kp Q.b .nil uX hd)).imp fun σ H Q z=>cP z fun as0 B own U I h=>⟨own++as0,[],I.exi,aN.nil,h⟩
  | cons _ _=>exact hJ.elim
 | cons a r =>
  have u:=h2;rw [abO,Pi] at u;exact Im (p:=p) ⟨Q.F,Q.b,Q.m _ v⟩ G hr (rE hJ h2) hj hg hd u.1 u.2
def FnOk.held (G:FnOk P w K mg base gN j f fd ps (Q7 K mg F)):FnOk P w K mg base gN j f fd ps (rS K mg F):=G.imp fun vs H Q E ⟨as,ds,ex,dv,h⟩=>⟨as,ds,ex,dv,by
 cases e:F ds with
 | ok d=>rw [e] at h;exact fun p o H' s r g od=>h _ H' s (od.den (fun z=>ex p z r) g)
 | er x=>rw [e] at h;exact h
 | no=>rw [e] at h;exact h⟩
def w8 (hB:∀ Y k,FY Y P w K mg base k->TbOk Y ⟨K,mg,E0⟩ B/\∀ f∈ext,cQ Y ⟨K,mg,E0⟩ f) (u:∀ a∈acc,mI P w K mg base a) (hn:∀ a∈an,GK P w K mg base a) (r:q.d<=k) (y:FY Y P w K mg base k) (hs:∀ f∈self,cQ Y ⟨K,mg,E0⟩ f) (g:∀ f∈sf,qw Y ⟨K,mg,E0⟩ f):TbOk Y ⟨K,mg,E0⟩ (tbl B ext acc an q self sf):=by
 obtain ⟨b,e⟩:=hB Y k y;refine ⟨fun f g=>?_,fun f g=>?_,b.q,b.i,fun f h=>(By.mp h).elim (g f) (b.s f),b.c⟩
 .rcases By.mp g with h|h
  .obtain ⟨i,_,h2⟩:=acx.mp h;exact e f (aaZ h2)
  .rcases By.mp h with h|h
   .exact hs f h
   .rcases By.mp h with h|h
    .exact b.x f h
    .obtain ⟨a,h1,rfl⟩:=BY.mp h;let ⟨h1,h2⟩:=aba.mp h1
     exact u a h1 Y k y (Le (afM h2) r)
 .rcases By.mp g with h|h
  .exact b.n f h
  .obtain ⟨a,h1,rfl⟩:=BY.mp h;let ⟨h1,h2⟩:=aba.mp h1
   exact hn a h1 Y k y (Le (afM h2) r)
theorem Ad (F:Fun K q.x q.x (cH q.i) f fd) (S:FnScope q.N q.ps (aY (cH q.i))) (hF:∀ Y,FY Y P w K mg base k->TbOk Y ⟨K,mg,E0⟩ t) (h:jx cH t q=θ φ):FnOk P w K mg base gN (k+1) f fd q.ps (rS K mg (vt φ q.N q.ps)):=by
 obtain ⟨r,h',rfl⟩:=iF.mp h;refine F.okD (O':=r.2) S fun J v A z s H E hr=>?_;obtain ⟨L,I,rfl,u⟩:=Ex v;refine wH rfl (fun Y C=>?_) S.nd afE rfl 12 [] _ r h' [];obtain ⟨a,b,c,d,e,g,i,Z,M⟩:=C.eqs;exact hF Y ⟨a,b,c,d,e,g ▸ hr,i,L,I,_,Z,M,u⟩
theorem GB (F:Fun K q.x q.x (cH q.i) f fd) (S:FnScope q.N q.ps (aY (cH q.i))) (hF:∀ Y,FY Y P w K mg base k->TbOk Y ⟨K,mg,E0⟩ t) (h:jx cH t q=θ φ):FnOk P w K mg base gN (k+1) f fd q.ps (Q7 K mg (wx φ q.N q.ps)):=by
 obtain ⟨r,h',rfl⟩:=iF.mp h;refine F.okN (O':=r.2) S fun J v A z s H E hr=>?_;obtain ⟨L,I,rfl,u⟩:=Ex v;refine wH rfl (fun Y C=>?_) S.nd afE rfl 12 [] _ r h' [];obtain ⟨a,b,c,d,e,g,i,Z,M⟩:=C.eqs;exact hF Y ⟨a,b,c,d,e,g ▸ hr,i,L,I,_,Z,M,u⟩
def Mo (hB:∀ Y k,FY Y P w K mg base k->TbOk Y ⟨K,mg,E0⟩ B/\∀ f∈ext,cQ Y ⟨K,mg,E0⟩ f) (r:∀ a∈acc,mI P w K mg base a) (hn:∀ a∈an,GK P w K mg base a) (Q:DfOk cH K mg q f fd) (S:FnScope q.N q.ps (aY (cH q.i))) (h:Qb cH B ext q acc an (.nw φ)) :
  FnOk P w K mg base gN (q.d+1) f fd q.ps (Q7 K mg (wx φ q.N q.ps)) :=
 GB Q.F S (fun Y y=>w8 (self:=[]) (sf:=[vw]) hB r hn (nE _) y (fun f g=>nomatch g) fun f g=>by rw [aaS.mp g];exact Fa) h
def Ig (hB:∀ Y k,FY Y P w K mg base k->TbOk Y ⟨K,mg,E0⟩ B/\∀ f∈ext,cQ Y ⟨K,mg,E0⟩ f) (u:∀ a∈acc,mI P w K mg base a) (hn:∀ a∈an,GK P w K mg base a) (Q:DfOk cH K mg q f fd) (S:FnScope q.N q.ps (aY (cH q.i))) (h:Qb cH B ext q acc an m) :
  FnOk P w K mg base gN (m.dp q) f fd q.ps (rS K mg (m.F q)):=by
 cases m with
 | pl φ=>exact Ad Q.F S (fun Y y=>w8 (self:=[]) (sf:=[]) hB u hn (nE _) y (fun f r=>nomatch r) fun f r=>nomatch r) h
 | nw φ=>exact (Mo hB u hn Q S h).held
 | ex F=>exact h P w K mg base f fd Q.F u S
 | rc φ Z n =>
  obtain ⟨h1,h2,C⟩:=h;show FnOk P w K mg base gN (q.d+n) f fd q.ps (rS K mg (Z n));induction n with
  | zero =>
   have  := funext h2;rw [this];exact FnOk.void
  | succ n z =>
   rw [C n];refine Ad Q.F S (fun Y y=>w8 (sf:=[]) hB u hn (adh _ _) y (fun g hg=>?_) fun f r=>nomatch r) (h1 (Z n))
   obtain ⟨x,v,rfl⟩:=BY.mp hg;exact zL Q z v Y _ y (nE _)
def N1 (cH:Nat->ac2) (P:abN) (w:abA) (K:aT) (mg:afS) (base:acV) (h:Nat×(Str->(afW->R D)->Fm)):Prop:=∀ (q:Df) f fd j F,DfOk cH K mg q f fd->q.x∈q.g->FnOk P w K mg base gN j f fd q.ps (rS K mg F)->mI P w K mg base (j+h.1,h.2 q.x F)
theorem FN (hB:∀ Y k,FY Y P w K mg base k->TbOk Y ⟨K,mg,E0⟩ B/\∀ f∈ext,cQ Y ⟨K,mg,E0⟩ f) (hX:∀ h∈xf,N1 cH P w K mg base h) {I:Nat->aa3} {C:Nat->acE}:∀ (l:List (Df×Mr)) (g v:List (Nat×Fm)),(∀ a∈g,mI P w K mg base a)->(∀ a∈v,GK P w K mg base a)->(∀ q∈l,DfOk cH K mg q.1 (I q.1.i) (C q.1.i))->HX cH B ext xf l g v ->
  ∀ q∈l,FnOk P w K mg base gN (q.2.dp q.1) (I q.1.i) (C q.1.i) q.1.ps (rS K mg (q.2.F q.1))
 | [],_,_,_,_,_,_,_,h=>nomatch h
 | q::r,g,v,ha,hn,hl,⟨h1,h2,h3⟩,z,hz=>by
  have Q:=hl q aa8;have G:=Ig hB ha hn Q (Gq h2) h1;rcases mK.mp hz with rfl|hz
  .exact G
  .refine FN hB hX r _ _ (fun a h=>?_) (fun a h=>?_) (fun q J=>hl q (iN _ J)) h3 z hz
   .rcases By.mp h with h|h
    .split at h
     .rename_i u;obtain ⟨y,hy,rfl⟩:=BY.mp h;let ⟨i,_,hi⟩:=acx.mp hy
      exact hX y (aaZ hi) q.1 _ _ _ _ Q u G
     .exact nomatch h
    .rcases By.mp h with h|h
     .obtain ⟨x,u,rfl⟩:=BY.mp h;exact zL Q G u
     .exact ha a h
   .unfold wc at h;split at h
    .rename_i φ e;split at h
     .rename_i u;rcases mK.mp h with rfl|h
      .exact Dg Q (Mo hB ha hn Q (Gq h2) (e ▸ h1)) u
      .exact hn a h
     .exact hn a h
    .exact hn a h
end
def vX:FE:=fun _=>.no
def g0 (l:List FE):FE:=l.headD vX
def g1 (l:List FE):FE:=(l.drop 1).headD vX
def g2 (l:List FE):FE:=(l.drop 2).headD vX
def BE:abu->Bool
 | .Slice ..=>ζ
 | _=>η
def uZ (h:BE b=η):me b:=by
 cases b <;> first|exact fun _ _=>rfl|cases h
def Ml (h:BE b=η):EF b:=by
 cases b <;> first|exact fun _ _=>rfl|cases h
def tH (h:wn b=η) (op:CmpOp):acO op b=η:=by
 cases b <;> first|rfl|cases h
def Ed:abu->Bool
 | .Name ..=>ζ
 | .Subscript ..=>ζ
 | .Attribute ..=>ζ
 | .Constant ..=>ζ
 | .Call _ (_::_) _ _=>ζ
 | .Dict ..=>ζ
 | _=>η
def KJ (f:Str) (env:Env) (m:Sem oR):abg (.Call g (a::es) kw pos) f env m=m:=by
 cases g <;> rfl
def yR (h:Ed e=ζ) (f:Str) (env:Env):abg e f env (eval e env)=eval e env:=by
 cases e <;> first|rfl|skip;all_goals (rename_i g r kw pos;cases r <;> first|exact KJ _ _ _|cases h)
def rJ (d:afP):abu->Bool
 | .Name x _=>d.contains x
 | .Attribute _ f _=>d.contains f
 | .Subscript (.Name x _) _ _=>d.contains (x++IF "[]")
 | _=>η
def ia:abu->Bool:=fun _=>ζ
def y6 (h:tZ e=θ x):∃ p,e=.Name x p:=by
 unfold tZ at h;split at h
 .simp_all
 .cases h
def cM:abu->Option (abu×Str×List abu)
 | .Call (.Attribute a f apos) es [] cpos=>if (apos.endLine==cpos.line)=ζ then θ (a,f,es) else ξ
 | _=>ξ
theorem vL (h:cM e=θ q):∃ apos cpos,e=.Call (.Attribute q.1 q.2.1 apos) q.2.2 [] cpos/\(apos.endLine==cpos.line)=ζ:=by
 unfold cM at h;split at h
 .grind
 .cases h
def cS:abu->Option (abu×abu)
 | .Subscript a b _=>if BE b=ζ then ξ else θ (a,b)
 | _=>ξ
def Aa (h:cS e=θ q):∃ pos,e=.Subscript q.1 q.2 pos/\BE q.2=η:=by
 unfold cS at h;split at h
 .split at h
  .cases h
  .cases h;simp_all
 .cases h
def cC:abu->Option (abu×CmpOp×abu)
 | .Compare a [o] [b] _=>if wn b=ζ then ξ else θ (a,o,b)
 | _=>ξ
def DT (h:cC e=θ q):∃ pos,e=.Compare q.1 [q.2.1] [q.2.2] pos/\wn q.2.2=η:=by
 unfold cC at h;split at h
 .split at h
  .cases h
  .cases h;simp_all
 .cases h
def xE:ac2->Option abu
 | .Expr e _=>θ e
 | _=>ξ
def Fk (h:xE s=θ e):∃ pos,s=.Expr e pos:=by
 unfold xE at h;split at h
 .simp_all
 .cases h
def aS:ac2->Option (abu×abu)
 | .Assign [t] e _=>θ (t,e)
 | _=>ξ
def Mg (h:aS s=θ q):∃ pos,s=.Assign [q.1] q.2 pos:=by
 unfold aS at h;split at h
 .cases h;exact ⟨_,rfl⟩
 .cases h
def sQ (h:Bp e=η) (t:abu) (l:Nat) (env:Env):swapsWithSole [t] e l env=pure η:=by
 exact oE h _ _ _
def P3 (h:BE ie=η) (env:Env) (v:oR):assign (.Subscript (.Name x p1) ie spos) env v=(do
   let ov <- holding [v] (eval (.Name x p1) env)
   let iv <- holding [v,ov] (eval ie env)
   ae1 spos
   holding [v,ov,iv] (setItem ov iv v)
   release [v,ov,iv] []):=by
 cases ie <;> first|rfl|cases h
section
def wA (h:Js X W O [a] l):∃ φ,l=[φ]/\JE X a (tD W O φ):=by
 match l,h with
 | [φ],h=>exact ⟨φ,rfl,h.1⟩
def HA (h:Js X W O [a,b] l):∃ φ ψ,l=[φ,ψ]/\JE X a (tD W O φ)/\JE X b (tD W O ψ):=by
 match l,h with
 | [φ,ψ],h=>exact ⟨φ,ψ,rfl,h.1,h.2.1⟩
def aak (h:Js X W O [a,b,c] l):∃ φ ψ χ,l=[φ,ψ,χ]/\JE X a (tD W O φ)/\JE X b (tD W O ψ)/\JE X c (tD W O χ):=by
 match l,h with
 | [φ,ψ,χ],h=>exact ⟨φ,ψ,χ,rfl,h.1,h.2.1,h.2.2.1⟩
def uh.m (h:uh X W f):cQ X W f:=fun O e es b g h1 h2=>vj (h O e es b g h1 h2)
end
section
variable {X:Cx} {W:Wd}
def t8 (op:Operator) (g:D->D->R D):Fm:=fun _ _ _ e=>match e with
 | .BinOp a o b _=>if o=op then θ ([a,b],fun l=>ak g (g0 l) (g1 l)) else ξ
 | _=>ξ
def iW (v:cD X (ab3 op) r) (C:jm W r g):cQ X W (t8 op g):=fun O e es b u h z=>by
 unfold t8 at h;split at h
 .split at h
  .rename_i hq;subst hq;cases h;obtain ⟨φ,ψ,rfl,h1,h2⟩:=HA z;exact Xp v C h1 h2
  .cases h
 .cases h
def dg (op:CmpOp) (g:D->D->R D) (p:abu->Bool):Fm:=fun _ _ _ e=>(cC e).bind fun q=>if q.2.1=op/\p q.2.2=ζ then θ ([q.1,q.2.2],fun l=>ak g (g0 l) (g1 l)) else ξ
def fQ (f:Fm):Fq:=fun sc N O e=>(f sc N O e).map fun q=>(q.1,fun l=>aZ (q.2 l))
theorem zK (h:dg op g p sc N O e=θ (es,b)):∃ x y pos,e=.Compare x [op] [y] pos/\es=[x,y]/\b=(fun l=>ak g (g0 l) (g1 l))/\wn y=η:=by
 replace h:=bY.mp h
 obtain ⟨q,h1,h⟩:=h;split at h
 .rename_i hq;cases h;obtain ⟨pos,rfl,h2⟩:=DT h1;exact ⟨_,_,_,by rw [hq.1],rfl,rfl,h2⟩
 .cases h
theorem bc (z:cD X (aa1 op) r) (C:jm W r g):cQ X W (dg op g p)/\JX X W (fQ (dg op g p)):=by
 refine ⟨fun O e es b v h u=>?_,fun O e es b v h u=>?_⟩
 .obtain ⟨x,y,pos,rfl,rfl,rfl,hs⟩:=zK h;obtain ⟨φ,ψ,rfl,h1,h2⟩:=HA u;exact TJ z C h1 h2 (tH hs _)
 .let ⟨q,h,hq⟩:=iF.mp h
  obtain ⟨x,y,pos,rfl,J,I,hs⟩:=zK h;cases hq;rw [J] at u;obtain ⟨φ,ψ,rfl,h1,h2⟩:=HA u;rw [I];exact Fo z C h1 h2 (tH hs _)
def RP (g:D->D->R D) (p:abu->Bool):Fm:=fun _ _ _ e=>(cS e).bind fun q=>if p q.1=ζ then θ ([q.1,q.2],fun l=>ak g (g0 l) (g1 l)) else ξ
def EL (k:∀ O a b pos φ ψ,BE b=η->JE X a (tD W O φ)->JE X b (tD W O ψ)->JE X (.Subscript a b pos) (tD W O (ak g φ ψ))):cQ X W (RP g p):=fun O e es b r h z=>by
 replace h:=bY.mp h
 obtain ⟨q,h1,h⟩:=h;split at h
 .cases h;obtain ⟨pos,rfl,h2⟩:=Aa h1;obtain ⟨φ,ψ,rfl,u,v⟩:=HA z;exact k _ _ _ _ _ _ h2 u v
 .cases h
def QL (hr:v6 X r) (u:jm W r g):cQ X W (RP g p):=EL fun O a b pos φ ψ hs h1 h2=>YZ hr u h1 h2 (uZ hs)
def Ja (g:X.A.units+64 < adu):cQ X W (RP pM p):=EL fun O a b pos φ ψ hs h1 h2=>VG g h1 h2 (Ml hs)
def oP (o:Option abu) (φ:FE):Sd->R (Option Int):=match o with
 | none=>cO
 | some _=>bI φ
def W1 (g:D->Option Int->Option Int->R D):Fm:=fun _ _ _ e=>match e with
 | .Subscript a (.Slice lo hi ξ _) _=>θ (a::(lo.toList++hi.toList),fun l=>lh g (g0 l) (oP lo (g1 l)) (oP hi (if lo.isSome=ζ then g2 l else g1 l)))
 | _=>ξ
theorem DW (hr:uW X r) (C:W7 W r g):cQ X W (W1 g):=fun O e es b I h z=>by
 unfold W1 at h;split at h
 .rename_i a lo hi _ _;cases h;cases lo with
  | none=>cases hi with
   | none=>obtain ⟨φ,rfl,h1⟩:=wA z;exact mj hr C h1 lJ lJ
   | some u=>obtain ⟨φ,ψ,rfl,h1,h2⟩:=HA z;exact mj hr C h1 lJ (lM h2)
  | some v=>cases hi with
   | none=>obtain ⟨φ,ψ,rfl,h1,h2⟩:=HA z;exact mj hr C h1 (lM h2) lJ
   | some u=>obtain ⟨φ,ψ,χ,rfl,h1,h2,J⟩:=aak z;exact mj hr C h1 (lM h2) (lM J)
 .cases h
def QK:Fm:=fun _ _ _ e=>match e with
 | .Tuple es _ _=>if es.all aI=ζ then θ (es,fun l=>aO (aL l)) else ξ
 | _=>ξ
def K8:cQ X W QK:=fun O e es b g h r=>by
 unfold QK at h;split at h
 .split at h
  .rename_i hq;cases h;exact Ug (rE r hq)
  .cases h
 .cases h
def KO:Fm:=fun _ _ _ e=>match e with
 | .List es _=>if es.all aI=ζ then θ (es,fun l=>bE (aL l)) else ξ
 | _=>ξ
def zu:uh X W KO:=fun O e es b g h r=>by
 unfold KO at h;split at h
 .split at h
  .rename_i hq;cases h;exact Uu (rE r hq)
  .cases h
 .cases h
def GC (c f:Str):Fm:=fun _ _ _ e=>match e with
 | .Attribute a g _=>if g=f/\Ed a=ζ then θ ([a],fun l=>np c f (g0 l)) else ξ
 | _=>ξ
def uy (hn:aaO X.K aaR c=θ (θ (.ref C))) (u:Cls X.K C) (v:eF X.K C f) (hW:W.K=X.K):cQ X W (GC c f):=fun O e es b g h r=>by
 unfold GC at h;split at h
 .split at h
  .rename_i hq;cases h;obtain ⟨φ,rfl,h1⟩:=wA r;rw [hq.1];exact Sw X.K hn u v h1 (yR hq.2 f _) rfl hW
  .cases h
 .cases h
def fB (x:Str) (F:afW->R D):Fm:=fN x (fun n=>decide (0 < n)) fun l=>aj F (aL l)
theorem zt {c:FA->FE} {t:afO->FE->TE} (k:∀ O a es p pos α,Gl X x->afX x->aI a=ζ->es.all aI=ζ->JA X (a::es) (qZ W O α)->JE X (.Call (.Name x p) (a::es) [] pos) (t O (c α))) :
  ∀ O e es b g,fN x (fun n=>decide (0 < n)) (fun l=>c (aL l)) X.env.scope X.N O e=θ (es,b)->Js X W O es g->JE X e (t O (b g)):=fun O e es b g h v=>by
 obtain ⟨p,pos,rfl,h1,h2,z,rfl⟩:=He h;cases es with
 | nil=>grind
 | cons a r =>
  have u:=h2;rw [abO,Pi] at u;exact k _ _ _ _ _ _ (b7 h1).1 (b7 h1).2 u.1 u.2 (rE v h2)
def tR {id:String} (J:bG X (.builtin id) r) (z:kl W r F) (I:X.mg x=ξ) (C:MK x=θ (.builtin id)) (hn:x≠"__name__":=by decide):cQ X W (fB x F) :=
 zt fun O a es p pos α h1 h2 g u v=>Km J z I C v h1 g u hn h2
def Di (J:bG X (.type T) r) (z:kl W r F) (I:X.mg x=ξ) (C:MK x=θ (.type T)) (hn:x≠"__name__":=by decide):cQ X W (fB x F) :=
 zt fun O a es p pos α h1 h2 g u v=>Jo J z I C v h1 g u hn h2
def xh (J:bG X (.type T) r) (z:vO W r F) (I:X.mg x=ξ) (C:MK x=θ (.type T)) (hn:x≠"__name__":=by decide):uh X W (fB x F) :=
 zt fun O a es p pos α h1 h2 g u v=>KH J z I C v h1 g u hn h2
def cy (u:X.mg x=ξ) (r:MK x=θ (.type n)) (hn:x≠"__name__":=by decide) (g:afX x:=by decide):yK X W x (.ty n):=fun O p hg=>Te u r hg hn g
def cg (C:X.mg x=θ u) (r:aX v u) (z:∀ H,b9 W.K H d v) (g:afX x:=by decide):yK X W x d:=fun O p hg=>O4 C r z hg g
def Xw (op:UnaryOp) (g:D->R D):Fm:=fun _ _ _ e=>match e with
 | .UnaryOp o a _=>if o=op then θ ([a],fun l=>xG g (g0 l)) else ξ
 | _=>ξ
def Qi (v:HE X (unaryOp op) r) (C:YH W r g):cQ X W (Xw op g):=fun O e es b u h z=>by
 unfold Xw at h;split at h
 .split at h
  .rename_i hq;subst hq;cases h;obtain ⟨φ,rfl,h1⟩:=wA z;exact XV v C h1
  .cases h
 .cases h
def YE:Fm:=fun _ _ _ e=>match e with
 | .UnaryOp .Not a _=>θ ([a],fun l=>Ca (g0 l))
 | .BoolOp _ [a] _=>θ ([a],g0)
 | .BoolOp .And (a::b::r) pos=>θ ([a,.BoolOp .And (b::r) pos],fun l=>ga (g0 l) (g1 l))
 | .BoolOp .Or (a::b::r) pos=>θ ([a,.BoolOp .Or (b::r) pos],fun l=>CM (g0 l) (g1 l))
 | _=>ξ
theorem Nq:cQ X W YE:=fun O e es b r h g=>by
 unfold YE at h;split at h
 .cases h;obtain ⟨φ,rfl,h1⟩:=wA g;exact Wa h1
 .cases h;obtain ⟨φ,rfl,h1⟩:=wA g;exact V7 h1
 .cases h;obtain ⟨φ,ψ,rfl,h1,h2⟩:=HA g;exact WE h1 h2
 .cases h;obtain ⟨φ,ψ,rfl,h1,h2⟩:=HA g;exact Yp h1 h2
 .cases h
def W4 (m:Str) (n:Nat) (c:List FE->FE):Fm:=fun _ _ _ e=>(cM e).bind fun q=>if q.2.1=m/\q.2.2.length=n/\Ed q.1=ζ/\q.2.2.all aI=ζ then θ (q.1::q.2.2,c) else ξ
theorem Em (h:W4 m n c sc N O e=θ (es,b)):∃ a r apos cpos,e=.Call (.Attribute a m apos) r [] cpos/\es=a::r/\b=c/\r.length=n/\Ed a=ζ/\r.all aI=ζ/\(apos.endLine==cpos.line)=ζ:=by
 replace h:=bY.mp h
 obtain ⟨q,h1,h⟩:=h;split at h
 .rename_i hq;cases h;obtain ⟨apos,cpos,rfl,h2⟩:=vL h1;exact ⟨_,_,_,_,by rw [hq.1],rfl,rfl,hq.2.1,hq.2.2.1,hq.2.2.2,h2⟩
 .cases h
def ZX (m:Str) (n:Nat) (g:Str->afW->R D):Fm:=W4 m n fun l=>Rc g (g0 l) (aL (l.drop 1))
theorem NQ {id:String} (u:Slot "str" m id) (v:typeOf (.builtin id)=pure (.type "method_descriptor")) (I:Vm X id r) (J:Yc W r g) (M:0 < n:=by decide) (L:n < 29:=by decide):cQ X W (ZX m n g):=fun O e es b z h C=>by
 obtain ⟨a,r,apos,cpos,rfl,rfl,rfl,hn,hb,hs,hl⟩:=Em h;cases r with
 | nil=>simp_all
 | cons c r =>
  cases z with
  | nil=>exact C.elim
  | cons φ l=>exact YS u v I J C.1 (rE C.2 hs) (yR hb _ _) hl hs (by rw [hn];exact L)
theorem GY (v:X.A.units+64 < adu):cQ X W (W4 "get" 2 fun l=>vv (g0 l) (g1 l) (g2 l)):=fun O e es b u h z=>by
 obtain ⟨a,r,apos,cpos,rfl,rfl,rfl,hn,hb,hs,hl⟩:=Em h
 match r,hn with
 | [c,d],_ =>
  obtain ⟨φ,ψ,χ,rfl,h1,h2,C⟩:=aak z;have hs  := by simpa using hs
  have g:aa2 [c,d] X.env=[(η,eval c X.env),(η,eval d X.env)]:=(bH hs.1).trans (afN _ (bH hs.2));exact Iv v h1 h2 C (yR hb _ _) (by rw [g];rfl) hl (by rw [g];rfl)
def Q5 (x:Str) (d:D):Fm:=fun sc _ _ e=>(cM e).bind fun q=>match q.2.2 with
 | [a]=>if tZ q.1=θ x/\q.2.1="index"/\wC sc x=ζ/\aI a=ζ then θ ([a],fun l=>wT d (aL l)) else ξ
 | _=>ξ
theorem Li (g:X.mg x=θ (.ref p)) (v:∀ H,b9 W.K H d (.ref p)) (hl:∃ ob,W.K.lookup p=θ ob/\ob.cls=.type "tuple"/\ob.dict=ξ) (I:X.K=W.K):cQ X W (Q5 x d):=fun O e es b u h C=>by
 replace h:=bY.mp h
 obtain ⟨⟨o,m,r⟩,h1,h⟩:=h;obtain ⟨apos,cpos,rfl,z⟩:=vL h1;dsimp only at h;split at h
 .split at h
  .rename_i hq;cases h;let ⟨h2,h3,h4,h5⟩:=hq
   obtain ⟨_,rfl⟩:=y6 h2;rw [h3];exact Eb g v hl (rE C (by grind)) I (b7 h4).1 (b7 h4).2 rfl z (by grind) (Nat.le_add_left 2 27)
  .cases h
 .cases h
def X1 (x y:Str) (F:afW->R D):Fm:=fun sc _ _ e=>(cN e).bind fun q=>match q.2 with
 | [d]=>(cN d).bind fun r=>match r.2 with
  | [a]=>if q.1=x/\r.1=y/\wC sc x=ζ/\wC sc y=ζ/\aI a=ζ then θ ([a],fun l=>aj F (aL l)) else ξ
  | _=>ξ
 | _=>ξ
theorem NC {t:afO->FE->TE} (k:∀ O a p1 p2 v z α,Gl X x->Gl X y->aI a=ζ->JA X [a] (qZ W O α)->JE X (.Call (.Name x p1) [.Call (.Name y p2) [a] [] v] [] z) (t O (aj F α))) :
  ∀ O e es b g,X1 x y F X.env.scope X.N O e=θ (es,b)->Js X W O es g->JE X e (t O (b g)):=fun O e es b g h C=>by
 replace h:=bY.mp h
 obtain ⟨⟨f,r⟩,h1,h⟩:=h;obtain ⟨p,pos,rfl⟩:=sF h1;dsimp only at h;split at h
 .let ⟨⟨f2,r2⟩,h2,h⟩:=bY.mp h
  obtain ⟨p2,u,rfl⟩:=sF h2;dsimp only at h;split at h
  .split at h
   .rename_i hq;cases h;let ⟨h1,h2,h3,h4,h5⟩:=hq
    rw [h1,h2];exact k _ _ _ _ _ _ _ (b7 h3).1 (b7 h4).1 h5 (rE C (by grind))
   .cases h
  .cases h
 .cases h
def xr (h1:X.mg "len"=ξ) (h2:X.mg "set"=ξ) (g:X.K=W.K) (u:X.calm=ζ):cQ X W (X1 "len" "set" gT) :=
 NC fun O a p1 p2 z v α g1 g2 hn r=>Hh h1 h2 r g u g1 g2 hn
def aam (n:Str) (g:afP):Fm:=fN n (fun n=>decide (0 < n)) fun l=>Rn n g (aL l)
def Q0 {K:aT} (hn:aaO K aaR n=θ (θ (.ref C))) (I:mg n=θ (.ref C)) (M:Mk K C g) (G:FnOk P w K mg base gN j g fd ps (yz C ns)) (z:f8 K fd ps []):mI P w K mg base (j+1,aam n ns):=fun Y k ⟨e1,e2,e3,e4,e5,hr,_⟩ hj=>by
 subst e1 e2 e3 e4 e5;exact zt fun O a es p pos α h1 h2 r u v=>vj (Oj hn I M G z hr v hj h1 h2 r u rfl)
def Ak:Fm:=fun _ _ _ e=>match e with
 | .Dict [] [] _=>θ ([],fun _=>vC (.dct []))
 | _=>ξ
def ve:uh X W Ak:=fun O e es b g h r=>by
 unfold Ak at h;split at h
 .cases h;exact La
 .cases h
def X0 (f:Fm):Fm:=fun sc N O e=>(f sc N O e).map fun q=>(q.1,fun l=>HG (q.2 l))
def Ga (u:uh X W f):cQ X W (X0 f):=fun O e es b g h r=>by
 obtain ⟨q,h1,h2⟩:=iF.mp h;cases h2;exact M9 (u O e q.1 q.2 g h1 r)
def WW:List (Option abu)->Option (afP)
 | []=>θ []
 | some (.Constant (.str x) _ _)::r=>(WW r).map (x::·)
 | _=>ξ
def CF:Fm:=fun _ _ _ e=>match e with
 | .Dict ks vs _=>(WW ks).bind fun xs=>if xs.length=vs.length/\0 < vs.length/\vs.length<=15 then θ (vs,fun l=>wg (xs.zip l)) else ξ
 | _=>ξ
theorem Ht {pos:Pos} {O:afO}:∀ {ks:List (Option abu)} {xs:afP} {vs:List abu} {l:List FE},WW ks=θ xs->xs.length=vs.length->Js X W O vs l->PB X W O pos ks vs (xs.zip l)/\ks.all (·.isSome)=ζ/\ks.length=vs.length/\(xs.zip l).length=vs.length
 | [],xs,vs,l,h,hl,hJ=>by
  cases h
  match vs,hl,l,hJ with
  | [],_,[],_=>exact ⟨QB,rfl,rfl,rfl⟩
 | k::r,xs,vs,l,h,hl,hJ=>by
  unfold WW at h;split at h
  .simp_all
  .rename_i y _ _ r' e;cases e;obtain ⟨ys,h1,rfl⟩:=iF.mp h
   match vs,hl,l,hJ with
   | v::vs,hl,φ::l,hJ =>
    obtain ⟨a,b,c,d⟩:=Ht h1 (by simpa using hl) hJ.2;exact ⟨Kw Mf hJ.1 a,by grind,by grind,by grind⟩
  .cases h
theorem DF:uh X W CF:=fun O e es b g h r=>by
 unfold CF at h;split at h
 .let ⟨xs,h1,h⟩:=bY.mp h
  split at h
  .rename_i hq;cases h;obtain ⟨a,b,c,d⟩:=Ht h1 hq.1 r;exact OH a b c (fun e=>by grind) (by rw [c];exact hq.2.2) (by grind)
  .cases h
 .cases h
def XC (x:Str) (tab:List (Str×D)):Fm:=fun sc _ _ e=>(cS e).bind fun q=>if tZ q.1=θ x/\wC sc x=ζ then θ ([q.2],fun l=>xG (Qr tab) (g0 l)) else ξ
theorem GF (g:X.mg x=θ (.ref a)) (hl:X.K.lookup a=θ ⟨.type "dict",ξ,.dict es n,#[]⟩) (C:acn X.w.params es.toList)
  (J:∀ y d,tab.lookup y=θ d->∃ v u,aaO X.K a y=θ (θ u)/\aX v u/\∀ H,b9 W.K H d v):cQ X W (XC x tab):=fun O e es b r h z=>by
 replace h:=bY.mp h
 obtain ⟨⟨o,i⟩,h1,h⟩:=h;obtain ⟨pos,rfl,h2⟩:=Aa h1;split at h
 .rename_i hq;cases h;obtain ⟨_,rfl⟩:=y6 hq.1;obtain ⟨φ,rfl,I⟩:=wA z;exact HY tab g hl C J I (b7 hq.2).1 (b7 hq.2).2 (Ml h2)
 .cases h
def V0 (x:Str) (ks:afP):Fq:=fun sc _ _ e=>(cC e).bind fun q=>if tZ q.2.2=θ x/\q.2.1=.NotIn/\wC sc x=ζ then θ ([q.1],fun l=>aZ (ak (Ki ks x) (g0 l) (vC (.cls x)))) else ξ
theorem IU (g:X.mg x=θ (.ref a)) (hl:X.K.lookup a=θ ⟨.type "dict",ξ,.dict es n,#[]⟩) (I:acn X.w.params es.toList) (J:es.toList.map (fun e=>Du e.key)=ks.map θ) (hs:(a==ab0)=η) (hn:Q9 W.K x a):JX X W (V0 x ks):=fun O e es b r h C=>by
 replace h:=bY.mp h
 obtain ⟨⟨u,o,v⟩,h1,h⟩:=h;obtain ⟨pos,rfl,h2⟩:=DT h1;split at h
 .rename_i hq;cases h;let ⟨h3,h4,h5⟩:=hq
  obtain ⟨_,rfl⟩:=y6 h3;obtain ⟨φ,rfl,z⟩:=wA C;rw [h4];exact Fo (PX hl I J hs) (Y1 hn) z (Ro g hn (b7 h5).1 (b7 h5).2) (by rfl)
 .cases h
def Na (K:aT) (mg:afS) (q:Str×D):Prop:=∃ v u,mg q.1=θ u/\aX v u/\(∀ H,b9 K H q.2 v)/\∀ p,u=.ref p->∃ ob,K.lookup p=θ ob/\ob.cls=.type "tuple"/\ob.dict=ξ
def FU (h:Na X.K X.mg (x,d)) (e:d=.tup ds) (z:W.K=X.K):cQ X W (Q5 x d):=by
 obtain ⟨v,u,h1,h2,g,r⟩:=h;rw [<- z] at g r;obtain ⟨a,xs,rfl,_⟩:∃ a xs,v=.ref a/\g6 W.K (fun _=>ξ) a xs:=by
  have:=g fun _=>ξ
  rw [e] at this;let ⟨a,xs,e1,e2,_⟩:=this
  exact ⟨a,xs,e1,e2⟩
 subst h2;exact Li h1 g (r a rfl) z.symm
def W0 (sc:Scope) (N:afP) (O:afO) (x:Str):Option Nat:=(NN N x).bind fun i=>if i∈O/\Tx sc x=ζ then θ i else ξ
def wI (h:W0 sc N O x=θ i):N[i]?=θ x/\i∈O/\oy sc x/\afX x/\(x==("__classdict__":Str))=η:=by
 replace h:=bY.mp h
 obtain ⟨j,h1,h⟩:=h;split at h
 .rename_i hq;cases h;exact ⟨iK h1,hq.1,yF hq.2⟩
 .cases h
def oN (sc:Scope) (N:afP) (O:afO) (e:abu):Option Nat:=(tZ e).bind (W0 sc N O)
def rQ (h:oN sc N O e=θ i):∃ x p,e=.Name x p/\N[i]?=θ x/\i∈O/\oy sc x/\afX x/\(x==("__classdict__":Str))=η:=by
 replace h:=bY.mp h
 obtain ⟨x,h1,h⟩:=h;obtain ⟨p,rfl⟩:=y6 h1;exact ⟨x,p,rfl,wI h⟩
def Tt:Fm:=fun sc N O e=>(cS e).bind fun q=>(oN sc N O q.1).map fun i=>([q.2],fun l=>ak aE (ae i) (g0 l))
theorem Lh (I:W.K=X.K):cQ X W Tt:=fun O e es b r h C=>by
 replace h:=bY.mp h
 obtain ⟨⟨u,v⟩,h1,h⟩:=h;obtain ⟨pos,rfl,h2⟩:=Aa h1
 replace h:=iF.mp h
 let ⟨i,h3,h⟩:=h
 cases h;obtain ⟨x,p,rfl,a1,a2,a3,g,J⟩:=rQ h3;obtain ⟨φ,rfl,z⟩:=wA C;exact Sf X.K a2 z a1 (uZ h2) a3 g J rfl I
def Vo (f:Str) (F:afW->R D):Fm:=fun sc N O e=>(cN e).bind fun q=>match q.2 with
 | [a]=>if q.1=f/\wC sc f=ζ then (oN sc N O a).map fun i=>([],fun l=>aj F (aa (ae i) ag)) else ξ
 | _=>ξ
theorem CS (k:∀ O i x p1 p2 pos,Gl X f->X.N[i]?=θ x->i∈O->oy X.env.scope x->afX x->(x==("__classdict__":Str))=η->JE X (.Call (.Name f p2) [.Name x p1] [] pos) (tD W O (aj F (aa (ae i) ag)))):cQ X W (Vo f F):=fun O e es b v h C=>by
 replace h:=bY.mp h
 obtain ⟨⟨g,r⟩,h1,h⟩:=h;obtain ⟨p,pos,rfl⟩:=sF h1;dsimp only at h;split at h
 .split at h
  .rename_i hq
   replace h:=iF.mp h
   let ⟨i,h3,h⟩:=h
   cases h;obtain ⟨x,p,rfl,a1,a2,a3,u,z⟩:=rQ h3;rw [hq.1];exact k _ _ _ _ _ _ (b7 hq.2).1 a1 a2 a3 u z
  .cases h
 .cases h
def Fz (v:X.mg "len"=ξ) (u:W.K=X.K):cQ X W (Vo "len" bP):=CS fun O i x p1 p2 pos hg h1 h2 g r z=>QG X.K h2 v h1 hg g r z rfl u
def Gz (v:X.mg "tuple"=ξ) (u:W.K=X.K):cQ X W (Vo "tuple" gp):=CS fun O i x p1 p2 pos hg h1 h2 g r z=>Ni X.K h2 v h1 hg g r z rfl u
def QV (op:CmpOp) (f:Bool->Bool):Fq:=fun sc N O e=>(cC e).bind fun q=>if q.2.1=op then (oN sc N O q.1).map fun i=>([q.2.2],fun l=>aZ (ak (fun a b=>d7 (jl a b) f) (ae i) (g0 l))) else ξ
theorem zG (g:cD X (aa1 op) (rG X.K f)) (J:W.K=X.K):JX X W (QV op f):=fun O e es b z h I=>by
 replace h:=bY.mp h
 obtain ⟨⟨u,o,v⟩,h1,h⟩:=h;obtain ⟨pos,rfl,h2⟩:=DT h1;split at h
 .rename_i hq
  replace h:=iF.mp h
  let ⟨i,h3,h⟩:=h
  cases h;obtain ⟨x,p,rfl,a1,a2,a3,r,L⟩:=rQ h3;obtain ⟨φ,rfl,C⟩:=wA I;rw [hq];exact KC X.K f a2 g C (tH h2 _) a1 a3 r L J
 .cases h
def G0:abu->Bool
 | .Tuple ..=>ζ
 | _=>η
theorem oG (h:G0 g=ζ):∃ es k p,g=.Tuple es k p:=by
 cases g <;> first|grind|cases h
def fI (x:Str) (n:Nat) (t:Bool) (c:FA->FA):Fi:=fun sc _ _ g e=>(cN e).bind fun q=>if q.1=x/\q.2.length=n/\wC sc x=ζ/\q.2.all aI=ζ/\(t=ζ->G0 g=ζ) then θ (q.2,fun l=>c (aL l)) else ξ
theorem DH (k:∀ O g es p pos α,es.length=n->Gl X x->es.all aI=ζ->(t=ζ->G0 g=ζ)->JA X es (qZ W O α)->JI X g (.Call (.Name x p) es [] pos) (iD W O (c α))):yj X W (fI x n t c):=fun O g e es b r h u=>by
 replace h:=bY.mp h
 obtain ⟨q,v,h⟩:=h;obtain ⟨p,pos,rfl⟩:=sF v;split at h
 .rename_i hq;cases h;let ⟨h1,h2,h3,h4,h5⟩:=hq
  rw [h1];exact k _ _ _ _ _ _ h2 (b7 h3).1 h4 h5 (rE u h4)
 .cases h
def Jt (u:X.mg "range"=ξ):yj X W (fI "range" 1 η cL):=DH fun O g es p pos α hn hg hs _ r=>by
 match es,hn with
 | [a],_=>exact BZ u r hg (by simpa using hs)
def Ew (z:X.mg "enumerate"=ξ) (u:W.K=X.K):yj X W (fI "enumerate" 1 ζ bL):=DH fun O g es p pos α hn hg hs r v=>by
 obtain ⟨_,_,_,rfl⟩:=oG (r rfl)
 match es,hn with
 | [a],_=>exact uA z v hg (by simpa using hs) u
def K9 (z:X.mg "zip"=ξ) (u:W.K=X.K):yj X W (fI "zip" 2 ζ DS):=DH fun O g es p pos α hn hg hs r v=>by
 obtain ⟨_,_,_,rfl⟩:=oG (r rfl)
 match es,hn with
 | [a,b],_ =>
  have hs  := by simpa using hs
  exact QR z v hg hs.1 hs.2 u
def Fc (d:afP):Fi:=fun _ _ _ _ e=>if rJ d e=ζ then θ ([e],fun l=>sP (g0 l)) else ξ
def DX:yj X W (Fc d):=fun O g e es b r h u=>by
 unfold Fc at h;split at h
 .cases h;obtain ⟨φ,rfl,h1⟩:=wA u;exact KA h1
 .cases h
def Gp:Fi:=fun _ _ _ g e=>(cM e).bind fun q=>if q.2.1="items"/\q.2.2.isEmpty=ζ/\Ed q.1=ζ/\G0 g=ζ then θ ([q.1],fun l=>qb (g0 l)) else ξ
theorem A0:yj X W Gp:=fun O g e es b u h C=>by
 replace h:=bY.mp h
 obtain ⟨⟨o,m,r⟩,h1,h⟩:=h;obtain ⟨apos,cpos,rfl,v⟩:=vL h1;split at h
 .rename_i hq;cases h;let ⟨h2,h3,h4,h5⟩:=hq
  obtain ⟨_,_,_,rfl⟩:=oG h5;obtain ⟨φ,rfl,z⟩:=wA C;cases r with
  | cons _ _=>cases h3
  | nil =>
   rw [h2];exact DA z (yR h4 _ _) v
 .cases h
def Wn (m:Str) (c:Nat->FE->FS):Fs:=fun sc N O s=>(xE s).bind fun e=>(cM e).bind fun q=>match q.2.2 with
 | [a]=>if q.2.1=m/\aI a=ζ then (oN sc N O q.1).map fun i=>([a],fun l=>c i (g0 l)) else ξ
 | _=>ξ
theorem EV (k:∀ Ob O i x e p1 apos cpos pos φ,X.N[i]?=θ x->i∈O->oy X.env.scope x->afX x->(x==("__classdict__":Str))=η->aI e=ζ->(apos.endLine==cpos.line)=ζ->JE X e (tD W O φ)->JS X (.Expr (.Call (.Attribute (.Name x p1) m apos) [e] [] cpos) pos) (sD W Ob O O (c i φ))):qw X W (Wn m c):=fun Ob O s es b u h C=>by
 replace h:=bY.mp h
 obtain ⟨e,v,h⟩:=h;obtain ⟨_,rfl⟩:=Fk v
 replace h:=bY.mp h
 obtain ⟨⟨o,f,r⟩,h1,h⟩:=h;obtain ⟨apos,cpos,rfl,h2⟩:=vL h1;dsimp only at h;split at h
 .split at h
  .rename_i hq
   replace h:=iF.mp h
   let ⟨i,h3,h⟩:=h
   cases h;obtain ⟨x,p,rfl,a1,a2,a3,g,I⟩:=rQ h3;obtain ⟨φ,rfl,z⟩:=wA C;rw [hq.1];exact k _ _ _ _ _ _ _ _ _ _ a1 a2 a3 g I hq.2 h2 z
  .cases h
 .cases h
def Iu (z:W.K=X.K):qw X W (Wn "append" bj):=EV fun Ob O i x e p1 apos cpos pos φ h1 h2 C v u r I g=>B1 h2 g h1 r I C v u rfl rfl z
def KQ:qw X W (Wn "pop" pY):=EV fun Ob O i x e p1 apos cpos pos φ h1 h2 C z v g I u=>by
 have r:aa2 [e] X.env=[(η,eval e X.env)]:=bH g;exact IW h2 u h1 g I C z v rfl rfl (by rw [r];rfl) (by rw [r];rfl)
def Vu:Fs:=fun sc N O s=>(aS s).bind fun q=>(cS q.1).bind fun r=>if Bp q.2=ζ then ξ else (oN sc N O r.1).map fun i=>([r.2,q.2],fun l=>km i (g0 l) (g1 l))
theorem IJ (z:X.A.units+64 < adu):qw X W Vu:=fun Ob O s es b r h L=>by
 replace h:=bY.mp h
 obtain ⟨⟨t,e⟩,C,h⟩:=h;obtain ⟨_,rfl⟩:=Mg C
 replace h:=bY.mp h
 obtain ⟨⟨u,v⟩,h1,h⟩:=h;let ⟨_,e1,h2⟩:=Aa h1
 subst e1;split at h
 .cases h
 .rename_i hc
  replace h:=iF.mp h
  let ⟨i,h3,h⟩:=h
  cases h;obtain ⟨x,p,rfl,a1,a2,a3,g,M⟩:=rQ h3;obtain ⟨φ,ψ,rfl,J,I⟩:=HA L;exact KR z a2 I J a1 a3 g M (sQ (adD.mpr hc) _ _ _) rfl rfl (P3 h2 _)
def Ps:Fs:=fun sc N O s=>match s with
 | .AugAssign (.Name x _) .Add e _=>(NN N x).bind fun i=>if i∉O/\N.Nodup/\sc.names.lookup x=θ .local then θ ([e],fun l=>lO i (g0 l)) else ξ
 | _=>ξ
theorem Kq:qw X W Ps:=fun Ob O s es b g h r=>by
 unfold Ps at h;split at h
 .let ⟨i,h1,h⟩:=bY.mp h
  split at h
  .rename_i hq;cases h;obtain ⟨φ,rfl,h2⟩:=wA r;exact Bx hq.1 hq.2.1 (.inl hq.2.2) h2 (iK h1) (.inr hq.2.2)
  .cases h
 .cases h
def Ym:abu->Bool
 | .Call ..=>ζ
 | _=>η
def Ud:Fs:=fun sc N O s=>(aS s).bind fun q=>if Ym q.2=ζ/\G0 q.1=ζ/\N.Nodup then (vJ N O sc (fun _=>η) q.1).map fun g=>([q.2],fun l=>xR (dJ g) (g0 l)) else ξ
theorem HK (z:W.K=X.K) (I:X.calm=ζ):qw X W Ud:=fun Ob O s es b r h v=>by
 replace h:=bY.mp h
 obtain ⟨⟨t,e⟩,C,h⟩:=h;obtain ⟨_,rfl⟩:=Mg C;split at h
 .rename_i hq
  replace h:=iF.mp h
  let ⟨g,h1,h⟩:=h
  cases h;obtain ⟨φ,rfl,h2⟩:=wA v;let ⟨_,_,_,e1⟩:=oG hq.2.1
  subst e1;have u:Bp e=η:=by have:=hq.1;cases e <;> first|rfl|cases this
  exact OZ h2 (QI (tV z I hq.2.2 (sV h1))) (sQ u _ _ _) (by have:=hq.1;cases e <;> first|rfl|cases this) rfl
 .cases h
def MI:Fs:=fun _ _ _ s=>(xE s).bind fun e=>if Bp e=ζ then ξ else θ ([e],fun l=>vF (g0 l))
def C4:qw X W MI:=fun Ob O s es b g h r=>by
 replace h:=bY.mp h
 obtain ⟨e,u,h⟩:=h;obtain ⟨_,rfl⟩:=Fk u;split at h
 .cases h
 .rename_i hc;cases h;obtain ⟨φ,rfl,h2⟩:=wA r;exact HM h2 (oE (adD.mpr hc) _ _ _)
end
theorem GH (its:afU):slicePick its.toArray ξ ξ (θ (-1))=its.reverse.toArray:=by
 unfold slicePick;have hb:adF ξ ξ (θ (-1)) its.toArray.size=((its.length:Int) - 1,-1,-1):=by simp [adF]
 rw [hb];congr 1;have hr:sliceRange ((its.length:Int) - 1) (-1) (-1)=(aa7 its.length).map fun k=>its.length - 1 - k:=by
  unfold sliceRange;have u:(if (-1:Int) > 0 then (if (its.length:Int) - 1 < -1 then (-1 - ((its.length:Int) - 1)+-1 - 1)/(-1) else 0) else (if (its.length:Int) - 1 > -1 then ((its.length:Int) - 1 - -1 - -1 - 1)/(- -1) else 0)).toNat=its.length:=by
   rw [afJ (by decide),show (- -1:Int)=1 from rfl,Int.ediv_one];split <;> lia
  simp only [u];apply abB
  intro k g
  have:=abD.mp g
  lia
 rw [hr];have key:∀ n,n<=its.length->((aa7 n).map fun k=>its.length - 1 - k).filterMap (its.toArray[·]?)=its.reverse.take n:=by
  intro n;induction n with
  | zero=>intro _;rfl
  | succ n r =>
   intro hn;have hl:n < its.reverse.length:=by rw [aeZ];lia
   rw [List.range_succ,aa5,List.filterMap_append,r (by lia),abo hl];congr 1
   have:its[its.length - 1 - n]?=θ its.reverse[n]:=by
    rw [List.getElem_reverse];exact lT (by lia)
   simp [this]
 rw [key its.length (nE _),abJ (by simp)]
section
variable {X:Cx} {W:Wd} {O:afO} {e st:abu} {p2 pos:Pos} {te ts:TE} {φ ψ:FE}
def ZD (K:aT) (te ts:TE):TE:=fun σ H Q=>te σ H fun x H1=>ts σ H1 fun y g=>∃ a xs,x=.ref a/\e8 K g a xs/\y=.int (-1)/\∀ p,g p=ξ->Q (.ref p) (upd g p (.lst xs.reverse))
theorem QC (he:PE X e te) (hs:PE X st ts):PE X (.Subscript e (.Slice ξ ξ (θ st) p2) pos) (ZD X.K te ts):=by
 intro u s σ H Q I h;refine Subscript_ (bT (he u s σ H _ I h) fun v Z Y=>ji Y fun x H1 M r1 J=>?_);refine wpAny_Slice ?_;refine rW ?_;refine rW ?_;refine bT (hs u Z σ H1 _ M J) fun y s2 ⟨y',H2,I2,r2,q2⟩=>?_;obtain ⟨a,xs,rfl,L,rfl,q⟩:=q2;cases r1;obtain ⟨z,rfl⟩:=r2;have g:Inv X u σ H2 { s2 with heap:=s2.heap.push { cls:=.type "slice",data:=.fields #[.none,.none,.int (-1) z] } }:=I2.kept fun b ob q=>eQ _ q;let ⟨its,r,ht,hz⟩:=g.list L
 have C:=r.length;refine tail_any ht.isList.typeIs slot_list_getitem.lookup ?_ (by rfl);refine wpAny_getItem_list_slice ht.isList (ae6 ..) .none .none (.int (-1) z) (by simp) ?_ (by simp_all);rw [GH];exact ⟨.ref _,_,g.laid (o:=.lst xs.reverse) (fun b ob q=>eQ _ q) (nE _) ⟨by simp_all,_,0,r.reverse,Do _ rfl⟩,rfl,q _ (g.hok.fresh (nE _))⟩
def WR (a b:D):R D:=match a,b with
 | .lst xs,.int k=>if k=-1 then .ok (.lst xs.reverse) else .no
 | _,_=>.no
def aN.rev {K:aT} (h:aN K H ds xs):aN K H ds.reverse xs.reverse:=by
 induction ds generalizing xs with
 | nil=>cases h;exact rfl
 | cons d ds g =>
  obtain ⟨v,vs,rfl,h1,h2⟩:=h;rw [ac4,ac4];exact (g h2).append ⟨v,[],rfl,h1,rfl⟩
theorem RV (Y:W.K=X.K) (Z:JE X e (tD W O φ)) (hs:JE X st (tD W O ψ)):JE X (.Subscript e (.Slice ξ ξ (θ st) p2) pos) (tD W O (ak WR φ ψ)) :=
 (JE.mk (QC Z.out hs.out)).imp fun σ H Q L=>cP L fun as0 B own U I h=>⟨as0,B,own,U,I,bp h fun x v H1 r d1 h1=>⟨as0,B,own,U,I.mono r,bp h1 fun y u H2 z M h2=>by
  unfold WR at h2;split at h2
  .split at h2
   .rename_i hk;cases M;obtain ⟨p,vs,rfl,C,J⟩:=d1.mono (aJ z);refine ⟨p,vs,rfl,Y ▸ (ar _ _).seq C,by rw [hk],fun p g=>h2 _ _ (aR g _) ⟨p,_,rfl,.inl (.inl (by rw [aV (((I.mono r).mono z).new g)];exact aK)),J.rev.mono (aJ (aR g _))⟩⟩
   .exact h2.elim
  .exact h2.elim⟩⟩
end
def Od:Fm:=fun _ _ _ e=>match e with
 | .Subscript a (.Slice ξ ξ (θ st) _) _=>θ ([a,st],fun l=>ak WR (g0 l) (g1 l))
 | _=>ξ
def Jz (u:W.K=X.K):cQ X W Od:=fun O e es b g h r=>by
 unfold Od at h;split at h
 .cases h;obtain ⟨φ,ψ,rfl,h1,h2⟩:=HA r;exact RV u h1 h2
 .cases h
end L2
namespace LU
open PySem PyProof.Rows PySem.SeqAt
open PySem.AutoSeq1 (wpAny_loadPart')
open PySem.MeetsSeq PySem.MeetsSeq2 PySem.MeetsSeq3
inductive Or where
 | lt|le|gt|ge
def Or.op:Or->CmpOp
 | .lt=>.Lt
 | .le=>.LtE
 | .gt=>.Gt
 | .ge=>.GtE
def Or.bu:Or->Builtin
 | .lt=>Builtin.«tuple.__lt__»
 | .le=>Builtin.«tuple.__le__»
 | .gt=>Builtin.«tuple.__gt__»
 | .ge=>Builtin.«tuple.__ge__»
def Or.sz:Or->Nat->Nat->Bool
 | .lt,m,n=>decide (m < n)
 | .le,m,n=>decide (m<=n)
 | .gt,m,n=>decide (n < m)
 | .ge,m,n=>decide (n<=m)
def Or.i:Or->Int->Int->Bool
 | .lt,m,n=>decide (m < n)
 | .le,m,n=>decide (m<=n)
 | .gt,m,n=>decide (n < m)
 | .ge,m,n=>decide (n<=m)
noncomputable def Or.s:Or->afO->afO->Bool
 | .lt,x,y=>decide (x < y)
 | .le,x,y=>!decide (y < x)
 | .gt,x,y=>decide (y < x)
 | .ge,x,y=>!decide (x < y)
def CpAt (o:Or) (A:acy) (s:DO) (y x:oR) (b:Bool):Prop :=
 ∀ (prog:abN) (w:abA) (E:afR) (Q:afR),Q (.bool b) s->aaN (aaV prog w) A (richCompare o.op y x) Q E s
inductive Lx (o:Or) (A:acy) (s:DO):afU->afU->Bool->Prop
 | nn:Lx o A s [] [] (o.sz 0 0)
 | nc {y:oR} {ys:afU}:Lx o A s [] (y::ys) (o.sz 0 1)
 | cn {x:oR} {xs:afU}:Lx o A s (x::xs) [] (o.sz 1 0)
 | eq {x y:oR} {xs ys:afU} {b:Bool} (h:EqAt A s x y ζ) (t:Lx o A s xs ys b):Lx o A s (x::xs) (y::ys) b
 | ne {x y:oR} {xs ys:afU} {b:Bool} (h:EqAt A s x y η) (t:CpAt o A s x y b):Lx o A s (x::xs) (y::ys) b
theorem Or.sz_of (o:Or) (h1:m < n ↔ a < b) (h2:n < m ↔ b < a):o.sz a b=o.sz m n:=by
 cases o <;> (unfold Or.sz;grind)
theorem C1 (o:Or) (l b:aa3) (v u:Array oR) (n n2:Nat) (dd dd2:Option aa3) (sl sl2:Array (Option oR)) (r:Bool) :
  Meets (o.bu ⟨[.ref l,.ref b],[]⟩)
   (fun A R s=>s.heap.get? l=θ { cls:=.type "tuple",dict:=dd,data:=.seq v n,slots:=sl }/\s.heap.get? b=θ { cls:=.type "tuple",dict:=dd2,data:=.seq u n2,slots:=sl2 } /\
    Lx o A.in1 s v.toList u.toList r/\R (.ok (.ret (.bool r))) s):=by
 refine .of_wp fun prog w A R s h=>?_;obtain ⟨hp,g,d,Z,os⟩:=s;obtain ⟨hl,hb,I,h⟩:=h;have f2:=AutoSeq1.sub_tuple_tuple;have key:∀ (vs ws:afU),([]:List (oR×oR))=vs.zip ws->Lx o A.in1 ⟨hp,g,d,Z,os⟩ vs ws r->vs.length+u.size=ws.length+v.size->r=o.sz v.size u.size:=fun vs ws hz I z=>by
  cases I with
  | nn=>simp only [adp] at z;exact o.sz_of (by lia) (by lia)
  | nc=>simp only [adp,aaU] at z;exact o.sz_of (by lia) (by lia)
  | cn=>simp only [adp,aaU] at z;exact o.sz_of (by lia) (by lia)
  | eq M Y=>rw [acU] at hz;cases hz
  | ne M Y=>rw [acU] at hz;cases hz
 obtain ⟨P,L,C⟩:∃ P:afU->afU->Prop,(∀ vs ws,Lx o A.in1 ⟨hp,g,d,Z,os⟩ vs ws r->P vs ws)/\∀ vs ws,P vs ws->Lx o A.in1 ⟨hp,g,d,Z,os⟩ vs ws r:=⟨_,fun _ _ h=>h,fun _ _ h=>h⟩;cases o
 all_goals
  unfold Or.bu;dsimp only
  wp_walk using adW hl,adW hb,wpAny_forIn_list _ (fun rest b s'=>b.1=ξ/\s'=⟨hp,g,d,Z,os⟩/\∃ (vs ws:afU) , rest=vs.zip ws /\
   P vs ws/\vs.length+u.size=ws.length+v.size) _
  case turn =>
   rintro ⟨y,x⟩ rest b s' ⟨hb',rfl,vs,ws,hz,I,z⟩;cases C _ _ I with
   | nn=>cases hz
   | nc=>cases hz
   | cn=>rw [List.zip_nil_right] at hz;cases hz
   | eq M Y =>
    rw [acU] at hz;injection hz with hyx hrest
    injection hyx with hy hx2
    subst hy hx2;simp only [aaU] at z;refine dO (M prog w _ _ ?_)
    wp_walk
    exact ⟨rfl,rfl,_,_,hrest,L _ _ Y,by lia⟩
   | ne M Y =>
    rw [acU] at hz;injection hz with hyx hrest
    injection hyx with hy hx2
    subst hy hx2;refine dO (M prog w _ _ ?_);have J:=Y prog w;unfold Or.op at J;dsimp only at J
    wp_walk using J
    exact ⟨_,rfl,by simpa using h⟩
  case fin =>
   rintro ⟨b1,b2⟩ s' ⟨hb',rfl,vs,ws,hz,I,z⟩;simp only at hb';subst hb';have hv:=key vs ws hz (C _ _ I) z;unfold Or.sz at hv;dsimp only at hv;rw [hv] at h
   wp_walk
   exact ⟨_,rfl,by simpa [Builtin.Tuple.tupleCompareSizes] using h⟩
  case h =>
   exact ⟨rfl,rfl,v.toList,u.toList,rfl,L _ _ I,by simp;lia⟩
def CpAt.tup (hl:afo s.heap l items) (hb:afo s.heap b items2) (v:Lx o A.in1 s items.toList items2.toList r) (C:A.units < adu):CpAt o A s (.ref l) (.ref b) r:=fun prog w E Q h=>by
 obtain ⟨⟨cls,dd,Z,sl⟩,u,hc,n,hd⟩:=id hl;obtain ⟨⟨Y,I,data2,M⟩,g,J,n2,L⟩:=id hb;subst hc hd J L;have m:=C1 o l b items items2 n n2 dd I sl M r;have z:afF r≠Value.notImplemented/\Q (.bool r) s:=⟨(fun x=>nomatch x),h⟩
 cases o with
 | lt=>exact richCompare_meets_room ⟨_,u,rfl⟩ ⟨_,g,rfl⟩ PySem.F.slot_tuple_lt PySem.F.entry_tuple_lt (PySem.F.args_tuple_lt_2 _ _) m ⟨u,g,v,z⟩ C
 | le=>exact richCompare_meets_room ⟨_,u,rfl⟩ ⟨_,g,rfl⟩ PySem.F.slot_tuple_le PySem.F.entry_tuple_le (PySem.F.args_tuple_le_2 _ _) m ⟨u,g,v,z⟩ C
 | gt=>exact richCompare_meets_room ⟨_,u,rfl⟩ ⟨_,g,rfl⟩ PySem.F.slot_tuple_gt PySem.F.entry_tuple_gt (PySem.F.args_tuple_gt_2 _ _) m ⟨u,g,v,z⟩ C
 | ge=>exact richCompare_meets_room ⟨_,u,rfl⟩ ⟨_,g,rfl⟩ PySem.F.slot_tuple_ge PySem.F.entry_tuple_ge (PySem.F.args_tuple_ge_2 _ _) m ⟨u,g,v,z⟩ C
def CpAt.int (a:Int) (t:Tok) (c:Int) (u:Tok):CpAt o A s (.int a t) (.int c u) (o.i a c):=fun prog w E Q h=>by
 cases o with
 | lt=>exact (PyProof.Rows.lt_int h)
 | le=>exact (PyProof.Rows.le_int h)
 | gt=>exact (PyProof.Rows.gt_int h)
 | ge=>exact (PyProof.Rows.ge_int h)
def CpAt.str (a:Str) (t:Tok) (c:Str) (u:Tok):CpAt o A s (.str a t) (.str c u) (o.s a.cps.toList c.cps.toList):=fun prog w E Q h=>by
 cases o with
 | lt=>exact (PyProof.Rows.lt_str h)
 | le=>exact (PySem.P.le_str h)
 | gt=>exact (PySem.P.gt_str h)
 | ge=>exact (PySem.P.ge_str h)
mutual
def cpP (o:Or):ab7->ab7->Option Bool
 | .int i,.int j=>θ (o.i i j)
 | .str x,.str y=>θ (o.s x.cps.toList y.cps.toList)
 | .tuple xs,.tuple ys=>cpPs o xs ys
 | _,_=>ξ
def cpPs (o:Or):List ab7->List ab7->Option Bool
 | [],[]=>θ (o.sz 0 0)
 | [],_::_=>θ (o.sz 0 1)
 | _::_,[]=>θ (o.sz 1 0)
 | x::xs,y::ys=>if abw x y=ζ then cpPs o xs ys else cpP o x y
end
mutual
theorem qz (o:Or):∀ (p q:ab7) (A:acy) (s:DO) (a b:oR) (as bs:afT) (k:Bool),Reads s.heap a p as->Reads s.heap b q bs->p.canLay0=ζ->q.canLay0=ζ->cpP o p q=θ k->A.units+min p.depth q.depth < adu->CpAt o A s a b k
 | .int i,q,A,s,_,_,_,_,k,ra,rb,ha,hb,e,hu=>by
  cases ra with
  | int x t =>
   cases rb with
   | int y u=>unfold cpP at e;cases e;exact CpAt.int _ _ _ _
   | _=>unfold cpP at e;cases e
 | .str i,q,A,s,_,_,_,_,k,ra,rb,ha,hb,e,hu=>by
  cases ra with
  | str x t =>
   cases rb with
   | str y u=>unfold cpP at e;cases e;exact CpAt.str _ _ _ _
   | _=>unfold cpP at e;cases e
 | .tuple xs,q,A,s,_,_,_,_,k,ra,rb,ha,hb,e,hu=>by
  cases ra with
  | @tuple l o vs n _ as₁ h1 h2 h3 h4 =>
   cases rb with
   | @tuple l' o' vs' n' ys bs₁ k1 k2 k3 k4 =>
    unfold cpP at e;exact CpAt.tup ⟨_,h1,h2,_,h3⟩ ⟨_,k1,k2,_,k3⟩ (qK _ xs ys A.in1 s _ _ _ _ k h4 k4 ha hb e (room_in hu)) (room_here hu)
   | _=>unfold cpP at e;cases e
 | .none,q,_,_,_,_,_,_,_,_,_,_,_,e,_=>by unfold cpP at e;cases e
 | .bool _,q,_,_,_,_,_,_,_,_,_,_,_,e,_=>by unfold cpP at e;cases e
 | .list _,q,_,_,_,_,_,_,_,_,_,_,_,e,_=>by unfold cpP at e;cases e
 | .dict _,q,_,_,_,_,_,_,_,_,_,_,_,e,_=>by unfold cpP at e;cases e
theorem qK (o:Or):∀ (xs ys:List ab7) (A:acy) (s:DO) (vs ws:afU) (as bs:afT) (k:Bool),ReadsAll s.heap vs xs as->ReadsAll s.heap ws ys bs->aa6 xs=ζ->aa6 ys=ζ->cpPs o xs ys=θ k->A.units+min (acb xs) (acb ys) < adu->Lx o A s vs ws k
 | [],ys,A,s,_,_,_,_,k,ra,rb,ha,hb,e,hu=>by
  cases ra;cases rb with
  | nil=>unfold cpPs at e;cases e;exact .nn
  | cons r v=>unfold cpPs at e;cases e;exact .nc
 | x::xs,[],A,s,_,_,_,_,k,ra,rb,ha,hb,e,hu=>by
  cases ra with
  | cons r v =>
   cases rb;unfold cpPs at e;cases e;exact .cn
 | x::xs,y::ys,A,s,_,_,_,_,k,ra,rb,ha,hb,e,hu=>by
  cases ra with
  | cons r v =>
   cases rb with
   | cons C z =>
    have u:x.canLay0=ζ/\aa6 xs=ζ:=by simpa [aa6] using ha
    have g:y.canLay0=ζ/\aa6 ys=ζ:=by simpa [aa6] using hb
    unfold cpPs at e;have q:=eqAt_reads x y A s _ _ _ _ r C u.1 g.1 (room_head hu);split at e
    .rename_i h;rw [h] at q;exact .eq q (qK o xs ys A s _ _ _ _ k v z u.2 g.2 e (room_tail hu))
    .rename_i h;rw [Bool.not_eq_true] at h;rw [h] at q;exact .ne q (qz o x y A s _ _ _ _ k r C u.1 g.1 e (room_head hu))
end
end LU
namespace KS
open PySem PySem.W PyProof.Rows
section
variable {α β:Type}
def yc (f:Nat->Nat->Option Bool):KasT α->Option α
 | .ret a=>θ a
 | .ask i j k=>(f i j).bind fun b=>yc f (k b)
theorem Dt (g:∀ i j b,f i j=θ b->∀ C:Bool->DO->Prop,C b s->uC i j C s):∀ (t:KasT α) (a:α),yc f t=θ a->Q a s->t.kasWp uC Q s
 | .ret a,_,h,q=>by cases h;exact q
 | .ask i j k,a,h,q=>by
  let ⟨b,e,h⟩:=bY.mp h
  exact g i j b e _ (Dt g (k b) a h q)
def Al (n:Nat) (P:α->Prop):KasT α->Prop
 | .ret a=>P a
 | .ask i j k=>(i < n/\j < n)/\∀ b,Al n P (k b)
theorem Ff:∀ {t:KasT α},Al n P t->yc f t=θ a->P a
 | .ret _,h,e=>by cases e;exact h
 | .ask i j k,h,e=>by
  let ⟨b,_,e⟩:=bY.mp e
  exact Ff (h.2 b) e
theorem zC {n:Nat} {P:α->Prop} {f:Nat->Nat->Option Bool} (g:∀ i j,i < n->j < n->∃ b,f i j=θ b):∀ {t:KasT α},Al n P t->∃ a,yc f t=θ a
 | .ret a,_=>⟨a,rfl⟩
 | .ask i j k,h=>by
  let ⟨b,e⟩:=g i j h.1.1 h.1.2
  let ⟨a,e2⟩:=zC g (h.2 b)
  exact ⟨a,by unfold yc;rw [e];exact e2⟩
theorem jR {Q:β->Prop} (hg:∀ a,P a->Al n Q (g a)):∀ {t:KasT α},Al n P t->Al n Q (t.bind g)
 | .ret a,h=>hg a h
 | .ask i j k,h=>⟨h.1,fun b=>jR hg (h.2 b)⟩
def kN {n:Nat} {P:α->Prop} {c:Prop} [Decidable c] {t u:KasT α} (h:Al n P t) (g:Al n P u):Al n P (if c then t else u):=by
 split
 .exact h
 .exact g
end
section
variable {R:Array Nat->Prop} (hg:∀ p i,R p->p.getD i 0 < m) (hr:∀ p i j,R p->R (kas_rev p i j)) (hb:∀ p k d,R p->R (bubble p k d))
include hg
theorem yy (h:R p):∀ f n,Al m (fun _=>True) (kas_asc p f n)
 | 0,_=>aa9
 | f+1,n=>⟨⟨hg _ _ h,hg _ _ h⟩,fun b=>kN aa9 (yy h f (n+1))⟩
include hr in
theorem oM:∀ f p n q,R p->Al m (fun r=>R r.1) (kas_desc f p n q)
 | 0,p,n,q,h=>h
 | f+1,p,n,q,h=>⟨⟨hg _ _ h,hg _ _ h⟩,fun b=>kN (kN (oM f _ _ _ (hr _ _ _ h)) (oM f _ _ _ h)) ⟨⟨hg _ _ h,hg _ _ h⟩,fun d=>kN h (oM f _ _ _ h)⟩⟩
include hr in
theorem zf (n k:Nat) (h:R p):Al m (fun r=>R r.2) (kas_tail3 n k p):=by
 refine jR (fun _ _=>?_) (yy hg (hr _ _ _ h) _ _);exact hr p 0 n h
include hr in
theorem MM (n k:Nat) (h:R p):Al m (fun r=>R r.2) (kas_descPart n k p):=by
 exact jR (fun r z=>kN (zf hg hr _ _ (hr _ _ _ z)) (zf hg hr _ _ z)) (oM hg hr _ p _ _ h)
include hr in
theorem G9 (k:Nat) (h:R p):Al m (fun r=>R r.2) (kas_count k p):=by
 refine jR (fun n _=>?_) (yy hg h _ _);split
 .exact h
 .split
  .refine ⟨⟨hg _ _ h,hg _ _ h⟩,fun b=>?_⟩;dsimp only;split
   .exact h
   .exact MM hg hr _ _ (hr _ _ _ h)
  .exact MM hg hr _ _ h
theorem qf (h:R p) (k:Nat):∀ f l r,Al m (fun _=>True) (kas_place p k f l r)
 | 0,_,_=>aa9
 | f+1,l,r=>kN aa9 ⟨⟨hg _ _ h,hg _ _ h⟩,fun _=>kN (qf h k f _ _) (qf h k f _ _)⟩
include hb in
theorem Gk:∀ f p k,R p->Al m R (kas_bin f p k)
 | 0,p,k,h=>h
 | f+1,p,k,h=>jR (fun l _=>Gk f _ _ (hb _ _ _ h)) (qf hg h _ _ _ _)
include hr hb in
theorem Jj (h:R (List.toArray (aa7 n))):Al m R (kas_sort n):=by
 exact jR (fun r z=>by split;exact Gk hg hb _ _ _ z;exact z) (G9 hg hr _ h)
end
def Gc (g:0 < n):Al n (fun p:Array Nat=>p.toList.Perm (aa7 n)) (kas_sort n):=Jj
 (fun p i h=>by
  rw [Array.getD_eq_getD_getElem?,<- aeG];cases e:p.toList[i]? with
  | none=>exact g
  | some x=>exact abD.mp (h.mem_iff.mp (aaZ e)))
 (fun p i j h=>(ad1.mp (mirror_perm _ _ _ _)).trans h) (fun p k d h=>(ad1.mp (bubble_perm _ _ _)).trans h) (by simp)
section
def Ea (h2:2<=it.size) (z:it.size < 64) (I:∀ i j b,f i j=θ b->∀ C:Bool->DO->Prop,C b s->kas_cmp prog w A κ it i j C s) (v:yc f (kas_sort it.size)=θ p)
  (h:∀ g,arrOf g=p.map (kas_item it)->failedOf g=ξ->p.size=it.size->Q () g s):kasC (aaV prog w) A E sortRuns' Q (afG κ it #[] 7 ξ) s:=by
 have e:kas_st κ it (List.toArray (aa7 it.size))=afG κ it #[] 7 ξ:=by unfold kas_st;rw [kas_range]
 rw [<- e];exact kas_runs (G:=fun r u=>r=p/\u=s) h2 z (fun r g u h1 h3 h4 ⟨e1,e2⟩=>by simp_all) (Dt I _ _ v ⟨rfl,rfl⟩)
end
end KS
namespace KS
open PySem PySem.W PyProof.Rows PySem.SeqAt
def Ky (ks:List ab7) (i j:Nat):Option Bool:=(ks[i]?).bind fun a=>(ks[j]?).bind fun b=>LU.cpP .lt a b
def qN (ks:List ab7):Option (afO):=if ks.length < 2 then θ (aa7 ks.length) else (yc (Ky ks) (kas_sort ks.length)).map Array.toList
theorem mw (h:qN ks=θ p):p.Perm (aa7 ks.length):=by
 unfold qN at h;split at h
 .grind
 .obtain ⟨q,e,rfl⟩:=iF.mp h;exact Ff (P:=fun p  => p.toList.Perm (aa7 ks.length)) (Gc (by lia)) e
theorem GJ (h:∀ a∈ks,∀ b∈ks,∃ r,LU.cpP .lt a b=θ r):∃ p,qN ks=θ p:=by
 unfold qN;split
 .grind
 .obtain ⟨p,e⟩:=zC (f:=Ky ks) (fun i j g u=>by
   let ⟨r,e⟩:=h _ (aaX g) _ (aaX u)
   exact ⟨r,by unfold Ky;simp_all⟩) (Gc (by lia))
  exact ⟨_,by rw [e];rfl⟩
def pkL {α:Type} (d:α) (p:afO) (l:List α):List α:=p.map fun i=>l.getD i d
def Ez (d:α) (l:List α):pkL d (aa7 l.length) l=l:=by
 refine aei fun k=>?_;unfold pkL;rcases ad3 k l.length with h|h
 .simp_all
 simp_all
section
variable {prog:abN} {w:abA} {A:acy} {E:afR} {s:DO}
theorem OF (h:LU.Lx .lt A s vs ws r):vs.length=ws.length->Q r s->∀ i,KatLex prog w A η η Q (vs.zip ws) i s:=by
 induction h with
 | nn=>exact fun _ q i=>kat_nil q
 | nc=>grind
 | cn=>simp_all
 | eq g _ u=>exact fun z q i=>kat_cons (g prog w _ _ (kat_yes (u (Nat.succ.inj z) q (i+1))))
 | ne g t=>exact fun z q i=>kat_cons (g prog w _ _ (kat_no (kat_one _ _ (t prog w _ _ ((q))))))
def isK:ab7->Bool
 | .tuple [.tuple _,_]=>ζ
 | _=>η
theorem uc (h:isK p=ζ):∃ x y,p=.tuple [.tuple x,y]:=by
 unfold isK at h;split at h
 .grind
 .cases h
theorem xJ:∀ {xs:List ab7} {vs:afU} {as:afT},ReadsAll h vs xs as->vs.length=xs.length
 | [],_,_,r=>by cases r;rfl
 | x::xs,_,_,r=>by
  cases r with
  | cons _ g=>rw [aaU,aaU,xJ g]
theorem Kv (ru:Reads s.heap u p as) (M:Reads s.heap v q bs) (J:isK p=ζ) (C:isK q=ζ) (g:aaP p=ζ) (I:aaP q=ζ) (Y:A.units+64 < adu) (e:LU.cpP .lt p q=θ r) (h:Q r s):aaN (aaV prog w) A (keyLt' (tuples' η) u v) Q (fun _ _=>False) s:=by
 obtain ⟨x,y,rfl⟩:=uc J;obtain ⟨Z,y',rfl⟩:=uc C;cases ru with
 | @tuple l o vs n _ as₁ h1 h2 h3 h4 =>
  cases M with
  | @tuple l' o' vs' n' _ bs₁ k1 k2 k3 k4 =>
   have l1:=xJ h4;have l2:=xJ k4;have L:(adm [.tuple x,y]).depth<=64:=by
    unfold aaP at g;simp_all
   have z:=OF (prog:=prog) (w:=w) (LU.qK .lt _ _ A s _ _ _ _ r h4 k4 (ab6 g) (ab6 I) e (by
    have  := by
     rw [acY] at L;omega
    omega)) (by rw [l1,l2];rfl) h 0
   refine kat_lt h1 h3 k1 k3 ?_
   grind
end
section
variable {prog:abN} {w:abA} {A:acy} {E:afR} {s:DO} {a kS:aa3} {ks vs:afU}
def wM (h:acV) (kS a:aa3) (out:afU):acV:=(h.update kS (abe fun _=>(#[]:Array oR))).update a (abe fun _=>out.toArray)
theorem zr {st:SortSt} (C:s.heap.get? a=θ (abC "list" #[] e1)) (u:s.heap.get? kS=θ (abC "list" ks.toArray e)) (r:a≠kS)
  (g:(arrOf st).map (·.2)=out.toArray) (hz:out.length<=1000000) (v:ks.length<=1000000) (z:failedOf st=ξ) (h:P (.done (.ret .none)) { s with heap:=wM s.heap kS a out }):aaN (aaV prog w) A (ksk_tail a η e1 (.ref kS) st) P E s:=by
 have na'  := ((adi s.heap kS (abe fun _=>#[])).2 a r).trans C;unfold ksk_tail;rw [g];refine dO (aeq u rfl ?_ (by rw [aaY,abR];lia) (aaQ _));refine dO (wpAny_letGo ?_);refine dO (seqEpoch_at na' rfl ?_);refine dO (aeq na' rfl ?_ (aaQ _) (by simp only [afa,if_false,aaY,abR];lia));rw [z];simp only [bne_self_eq_false,afa,if_false];exact rW h
inductive RdK (h:acV):afU->List ab7->Prop
 | nil:RdK h [] []
 | cons {u:oR} {p:ab7} {as:afT} {us:afU} {ps:List ab7} (r:Reads h u p as) (k:isK p=ζ) (l:aaP p=ζ) (t:RdK h us ps):RdK h (u::us) (p::ps)
theorem RdK.len (r:RdK h us ps):us.length=ps.length:=by
 induction r with
 | nil=>rfl
 | cons _ _ _ _ g=>simp_all
def RdK.at (r:RdK h us ps):∀ {i:Nat} {p:ab7},ps[i]?=θ p->∃ as,Reads h (us.getD i .none) p as/\isK p=ζ/\aaP p=ζ:=by
 induction r with
 | nil=>simp_all
 | @cons u q as us ps r k l t ih =>
  intro i p e;cases i with
  | zero=>cases e;exact ⟨as,r,k,l⟩
  | succ i=>exact ih e
theorem RdK.firsts (r:RdK h us ps):∃ fs,KatTups h us fs/\fs.length=us.length/\∀ v∈fs,∃ q o,v=acw q/\h.get? q=θ o/\o.cls=.type "tuple":=by
 induction r with
 | nil=>exact ⟨[],KatTups.nil,rfl,fun v g=>nomatch g⟩
 | @cons u p as us ps r k l t ih =>
  let ⟨fs,f1,f2,f3⟩:=ih
  obtain ⟨x,y,rfl⟩:=uc k;cases r with
  | @tuple l o vs n _ as₁ h1 h2 h3 h4 =>
   match e:vs.toList,h4 with
   | _,.cons r0 _ =>
    cases r0 with
    | @tuple l' o' vs' n' _ bs₁ k1 k2 k3 k4 =>
     refine ⟨.ref l'::fs,KatTups.cons h1 h2 h3 (by rw [<- aeG,e];rfl) f1,by simp [f2],fun v g=>?_⟩
     grind
def item_at (hl:ks.length=vs.length) (g:i < vs.length):kas_item (ks.toArray.zip vs.toArray) i=(ks.getD i .none,vs.getD i .none):=by
 unfold kas_item;simp_all
theorem N6 (hu:A.units+64 < adu) (hl:ks.length=vs.length) (hz:vs.length<=63) (Z:s.heap.get? a=θ (abC "list" #[] e1)) (M:s.heap.get? kS=θ (abC "list" ks.toArray e)) (r:a≠kS)
  (J:RdK s.heap ks ps) (g:qN ps=θ p) (h:P (.done (.ret .none)) { s with heap:=wM s.heap kS a (pkL .none p vs) }):aaN (aaV prog w) A (ksk_end a η vs.toArray e1 (.ref kS) ks.toArray) P E s:=by
 have I:=J.len;have Y:=mw g;have zl:(ks.toArray.zip vs.toArray).toList=ks.zip vs:=by simp
 have zs:(ks.toArray.zip vs.toArray).size=vs.length:=by rw [<- aeW,zl,List.length_zip];lia
 unfold ksk_end;try dsimp only
 unfold qN at g;by_cases h2:vs.length < 2
 .have hn2:vs.toArray.size < 2:=by rw [aaY];lia
  rw [afI (by lia)] at g;cases g;rw [afJ GT,afI hn2,afI hn2];refine dO (rW ?_);rw [afJ GT];refine dO (rW ?_);rw [<- I,hl,Ez] at h;refine zr (st:=afG general' (ks.toArray.zip vs.toArray) #[] 7 ξ) (out:=vs) Z M r ?_ (by lia) (by lia) rfl h;show (ks.toArray.zip vs.toArray).map (·.2)=_;apply afw.mp
  rw [aet,zl];exact List.map_snd_zip (by lia)
 .have hn2:¬ vs.toArray.size < 2:=by rw [aaY];lia
  rw [afJ (by lia)] at g;obtain ⟨q,eq,rfl⟩:=iF.mp g;let ⟨fs,f1,f2,f3⟩:=J.firsts
  rw [afJ GT,afJ hn2,afJ hn2];refine dO (kat_kind (T:=.type "tuple") f1 (by lia) (fun v hv=>?_) (by trivial) ?_)
  .obtain ⟨x,o,rfl,g1,g2⟩:=f3 v hv;exact g2 ▸ (Looks.ld g1).andThen .now
  rw [afJ GT];have ek:tuples' ((aeb "tuple") != aeb "tuple")=tuples' η:=by rfl
  rw [ek];rw [<- I,hl,<- zs] at eq;refine dO (show aaN _ _ _ _ _ _ from Ea (Q:=fun _ u s'=>aaN (aaV prog w) A (ksk_tail a η e1 (acw kS) u) P E s') (f:=Ky ps) (by lia) (by lia) (fun i j b z C hC=>?_) eq fun u g1 g2 g3=>?_)
  .let ⟨x,ex,z⟩:=bY.mp z
   let ⟨y,ey,z⟩:=bY.mp z
   let ⟨as,r1,k1,l1⟩:=J.at ex
   let ⟨bs,r2,k2,l2⟩:=J.at ey
   have L:i < vs.length:=by have:=(aaW.mp ex).1;lia
   have hj:j < vs.length:=by have:=(aaW.mp ey).1;lia
   unfold kas_cmp;rw [item_at hl L,item_at hl hj];exact Kv r1 r2 k1 k2 l1 l2 hu z hC
  .refine zr (out:=pkL .none q.toList vs) Z M r ?_ (by unfold pkL;rw [lE,Y.length_eq,abt];lia) (by lia) g2 h;rw [g1];apply afw.mp
   rw [aet,aet,abd];refine abB fun i L=>?_
   have:=abD.mp (Y.mem_iff.mp L)
   show (kas_item _ i).2=_;rw [item_at hl (by lia)]
end
end KS
namespace L2
open PySem PySem.Spec PyProof.Rows
open KS (qN pkL)
def gM (F:afW->R D) (d:D):D:=match F [d] with
 | .ok k=>k
 | _=>.non
def xo (F:afW->R D):afW->Option (List ab7)
 | []=>θ []
 | d::r=>match F [d] with
  | .ok k=>(bx k).bind fun p=>if KS.isK p=ζ/\aaP p=ζ then (xo F r).map (p::·) else ξ
  | _=>ξ
def nJ (F:afW->R D) (ds:afW):R D:=match ds with
 | [.lst xs]=>if xs.length<=63 then (match (xo F xs).bind qN with
  | some p=>.ok (.lst (pkL .non p xs))
  | none=>.no) else .no
 | _=>.no
theorem pz {F:afW->R D} {d:D} {r:afW} {l:List ab7} (h:xo F (d::r)=θ l):∃ k p ps,l=p::ps/\F [d]=.ok k/\bx k=θ p/\KS.isK p=ζ/\aaP p=ζ/\xo F r=θ ps:=by
 unfold xo at h;split at h
 .let ⟨p,e2,h⟩:=bY.mp h
  split at h
  .obtain ⟨ps,g,rfl⟩:=iF.mp h
   grind
  .cases h
 .cases h
theorem Ap:∀ {ds:afW} {l:List ab7},xo F ds=θ l->∀ d∈ds,∃ k,F [d]=.ok k
 | [],_,_,d,h=>nomatch h
 | e::r,_,h,d,hd=>by
  obtain ⟨k,p,ps,rfl,h1,_,_,_,h2⟩:=pz h;rcases mK.mp hd with rfl|hd
  .exact ⟨k,h1⟩
  .exact Ap h2 d hd
theorem kys_len:∀ {ds:afW} {l:List ab7},xo F ds=θ l->l.length=ds.length
 | [],_,h=>by cases h;rfl
 | e::r,_,h=>by
  obtain ⟨k,p,ps,rfl,_,_,_,_,h2⟩:=pz h;rw [aaU,aaU,kys_len h2]
theorem ze (r:ba xs us):∀ {p:afO},(∀ i∈p,i < xs.length)->ba (pkL (.int 0) p xs) (pkL .none p us)
 | [],_=>.nil
 | i::t,h=>by
  have e:=lT (h i (by simp));obtain ⟨u,v,ru⟩:=r.get e;refine .cons ?_ (ze r fun j g=>h j (iN _ g));simp_all
theorem zX {K:aT} (r:aN K H ds xs):∀ {p:afO},(∀ i∈p,i < xs.length)->aN K H (pkL .non p ds) (pkL (.int 0) p xs)
 | [],_=>aN.nil
 | i::t,h=>by
  have e:=lT (h i (by simp));obtain ⟨u,v,ru⟩:=r.got e;refine aN.cons ?_ (zX r fun j g=>h j (iN _ g));simp_all
section
variable {σ:St}
def EH (G:FnOk X.prog X.w X.K X.mg X.base gN k f fd ps sp) (hr:Room k X.A.in1.in1) (hb:f8 X.K fd ps [])
  (I:Inv X af σ H s) (r:ba vs us) (h:sp vs H Q E0):aaN (aaV X.prog X.w) X.A.in1.in1 (call (.ref f) us) (EP X af σ Q) E s:=by
 have hl:(us++[]).length=ps.length:=by rw [abk,<- r.length];exact G.len _ _ _ _ h
 have b:=hb s us I.kIn hl;rw [abk] at b;refine wpAny_call (dq I.tk (ac1 (G.run X.A.in1.in1 X.stack s H ⟨us,[]⟩ us vs Q E0 hr I.env0.in1.in1 b r h) fun r C g z=>?_));cases r with
 | error e=>exact abZ g
 | ok v =>
  cases v with
  | ret u=>exact I.after g
  | next=>exact abZ g
  | brk=>exact abZ g
  | cont=>exact abZ g
def ny (kS:aa3) (H H':Hp):Prop:=∀ b o,b≠kS->H b=θ o->H' b=θ o
def ny.masked (h:ny kS H H'):aw (aD (kS::as) H) (aD (kS::as) H'):=fun b o e=>by
 by_cases hb:b∈kS::as
 .rw [cY hb] at e;cases e
 .rw [aV hb] at e ⊢;exact h b o (fun z=>hb (z ▸ aa8)) e
def ny.upd:ny kS H (upd H kS o):=fun b u hb e=>by rw [aF hb];exact e
theorem ny.trans (h:ny kS H H1) (g:ny kS H1 H2):ny kS H H2:=fun b o hb e=>g b o hb (h b o hb e)
def VP (X:Cx) (u:afQ) (σ:St) (kS:aa3) (as:afT) (H:Hp) (ks:afW) (r:DO):Prop :=
 ∃ H' g,Inv X u σ H' r/\ny kS H H'/\H' kS=θ (.lst g)/\aN X.K (aD (kS::as) H') ks g
theorem xU
  (G:FnOk X.prog X.w X.K X.mg X.base gN k f fd ps (rS X.K mg F)) (hr:Room k X.A.in1.in1) (hb:f8 X.K fd ps []) (I:Inv X af σ H s) (hk:H kS=θ (.lst [])) (has:∀ b∈as,H b≠ξ) (hks:kS∉as)
  (r:ba xs us) (dn:aN X.K (aD (kS::as) H) ds xs) (hl:xo F ds=θ l) (hz:ds.length<=63)
  (h:∀ H' g its n C,Inv X af σ H' C->ny kS H H'->H' kS=θ (.lst g)->aN X.K (aD (kS::as) H') (ds.map (gM F)) g->ba g its->C.heap.get? kS=θ (abC "list" its.toArray n) ->
   aaN (aaV X.prog X.w) X.A.in1.in1 (ksk_end a η us.toArray e1 (.ref kS) its.toArray) P E C) :
  aaN (aaV X.prog X.w) X.A.in1.in1 (ksk_rest a (.ref f) η us.toArray e1 (.ref kS)) P E s:=by
 have L:ds.length=us.length:=dn.len.trans r.length;unfold ksk_rest;refine dO (aeM ?_);rw [List.forIn_toArray];refine dO (ksk_fold (fun j C=>VP X af σ kS as H ((ds.map (gM F)).take j) C) us 0 s ⟨H,[],I,fun b o _ e=>e,hk,by rw [List.take_zero];exact aN.nil⟩ (fun j x C hx hI=>?_) fun C M=>?_)
 .let ⟨H1,g,I1,b1,k1,d1⟩:=hI
  rw [adL] at d1 ⊢;have hj:j < us.length:=by
   have:=aaW.mp hx
   exact this.1
  have J:j < xs.length:=by rw [r.length];exact hj
  let ⟨u,hu,ru⟩:=r.get (i:=j) (lT J)
  rw [hx] at hu;cases hu;let ⟨d,M,dd⟩:=dn.got (i:=j) (lT J)
  let ⟨kk',q3⟩:=Ap hl d (aaZ M)
  have ekd:gM F d=kk':=by unfold gM;rw [q3]
  have hkl:g.length<=j:=by rw [<- d1.len,abE];lia
  refine dO (afd (abn (EH (us:=[x]) (vs:=[xs[j]]) (Q:=fun v Y=>aw H1 Y/\b9 X.K (aD (kS::as) Y) (gM F d) v) (E:=fun _ _=>False) G hr hb I1 (.cons ru .nil) ⟨kS::as,[d],fun b hb=>?_,aN.cons (dd.mono b1.masked) aN.nil,?_⟩) (fun u s2 hq=>?_) fun _ _ hF=>hF.elim))
  .rcases mK.mp hb with rfl|hb
   .rw [k1];simp
   .cases e:H b with
    | none=>exact absurd e (has b hb)
    | some o=>rw [b1 b o (fun z=>hks (z ▸ hb)) e];simp
  .rw [q3];exact fun v H' s Z=>⟨s,by rw [ekd];exact Z⟩
  .let ⟨v,Y,I2,rv,s12,Z⟩:=hq
   have k2:=s12 _ _ k1;let ⟨z2,its,n,ri,hil,e2⟩:=I2.lstM k2
   try dsimp only
   refine dO (aeq e2 rfl ?_ (by rw [aaY,<- hil,abR];lia) (Le (afr (Array.size_push ..)) (by rw [aaY,<- hil,abR];lia)));refine rW ⟨rfl,?_⟩;have I3:=I2.lset (its':=its++[u]) (f:=(·.push u)) (t':=s2.toks) k2 e2 (by simp) (ri.append (.cons rv .nil)) (by rw [aaT,acZ,abR];lia) (by walk_at "tok");refine ⟨_,_,I3,(b1.trans fun b o _ e=>s12 b o e).trans ny.upd,aK,?_⟩;have e:(ds.map (gM F)).take (j+1)=(ds.map (gM F)).take j++[gM F d]:=by
    rw [List.take_add_one,acF,M];rfl
   rw [e];refine ((d1.mono (aJ s12)).append (aN.cons Z aN.nil)).mono (ny.upd (kS:=kS) (H:=Y)).masked
 .let ⟨H1,g,I1,b1,k1,d1⟩:=M
  have e:(ds.map (gM F)).take (0+us.length)=ds.map (gM F):=by rw [adL];exact abJ (by rw [lE,L];exact nE _)
  rw [e] at d1;let ⟨z2,its,n,ri,hil,e2⟩:=I1.lstM k1
  refine dO (listItems_at e2 rfl ?_)
  grind
theorem zU (I:Inv X af σ H s) (C:aw Hm H):∀ {ds:afW} {g:afV} {its:afU} {l:List ab7},aN X.K Hm (ds.map (gM F)) g->ba g its->xo F ds=θ l->KS.RdK s.heap its l
 | [],_,_,_,dn,r,h=>by cases dn;cases r;cases h;exact .nil
 | d::ds,_,_,_,⟨v,vs,e,d1,d2⟩,r,h=>by
  subst e;obtain ⟨k,p,ps,rfl,h1,h2,J,L,M⟩:=pz h;cases r with
  | @cons _ u _ us r1 r2 =>
   have z:gM F d=k:=by unfold gM;rw [h1]
   rw [z] at d1;let ⟨as,ra⟩:=cR I (d1.mono C) r1 h2
   exact .cons ra J L (zU I C d2 r2 M)
theorem xH {oa:Obj}
  (I:Inv X (af++[(a,abC "list" #[] e1)]) σ H' s') (fa:eS X af H' a) (h0:aw H0 H) (h0k:H0 kS=ξ) (h0a:H0 a=ξ) (b:ny kS H H') (hk:H' kS=θ (.lst kvs)) (dk:aN X.K (aD (kS::as) H') (ds.map (gM F)) kvs) (rk:ba kvs its)
  (ek:s'.heap.get? kS=θ (abC "list" its.toArray n)) (has:a∉as) (hks:kS∉as) (J:a≠kS)
  (r:ba xs us) (dn:aN X.K (aD (kS::as) H) ds xs) (hl:xo F ds=θ l) (ho:qN l=θ p) (hu:X.A.in1.in1.units+64 < adu) (hz:ds.length<=63) (L:X.s₀.heap.get? a=ξ)
  (h:∀ v M C,Inv X af σ v M->aw H0 v->v a=θ (.lst C)->aN X.K (aD (a::as) v) (pkL .non p ds) C->P (.done (.ret .none)) M) :
  aaN (aaV X.prog X.w) X.A.in1.in1 (ksk_end a η us.toArray e1 (.ref kS) its.toArray) P E s':=by
 have pa:=I.pin (a,abC "list" #[] e1) (by simp);have hlu:ds.length=us.length:=dn.len.trans r.length;have hlk:its.length=us.length:=by rw [<- rk.length,<- dk.len,lE,hlu]
 have pl:∀ i∈p,i < xs.length:=fun i hi=>by
  have:=abD.mp ((KS.mw ho).mem_iff.mp hi)
  rw [kys_len hl] at this;rw [<- dn.len];exact this
 have v1:=ze r pl;have v2:=zX (dn.mono b.masked) pl;refine KS.N6 hu hlk (by lia) pa.1 ek J (zU I (ar _ _) dk rk hl) ho ?_;have hol:(pkL (V.int 0) p xs).length<=RW:=by
  unfold pkL;rw [lE,(KS.mw ho).length_eq,abt,kys_len hl,abR];lia
 have I1:=I.lset (its':=[]) (ys:=[]) (f:=fun _=>(#[]:Array oR)) (t':=s'.toks) hk ek rfl .nil (aaQ _) (by walk_at "tok");have I2:Inv X af σ (upd H' kS (.lst [])) { s' with heap:=s'.heap.update kS (abe fun _=>(#[]:Array oR)) }:=I1.unpinned;let ⟨f0,f1,f2,f3,f4,f5⟩:=fa
 have Y:upd H' kS (.lst []) a=ξ:=by rw [aF J];exact f0
 have na:(s'.heap.update kS (abe fun _=>(#[]:Array oR))).get? a=θ (abC "list" #[] e1):=((adi s'.heap kS (abe fun _=>(#[]:Array oR))).2 a J).trans pa.1;have I3:=I2.turned (t':=s'.toks) (h':=(s'.heap.update kS (abe fun _=>(#[]:Array oR))).update a (abe fun _=>(pkL afe p us).toArray)) (it:=a) (fun g u hb hu=>(ab5 _ _ (acR hb)).trans hu) Y f1 f3 f4 f5 (by walk_at "tok");have I4:=I3.track (y:=a) (o:=.lst (pkL (V.int 0) p xs)) ⟨L,f1,f2,f4,f5⟩ Y ⟨hol,_,_,v1,afv na _⟩;refine h _ _ (pkL (V.int 0) p xs) I4 (fun g o e=>?_) aK (v2.mono fun g o e=>?_)
 .have n1:g≠a:=fun z=>by rw [z,h0a] at e;cases e
  have Z:g≠kS:=fun z=>by rw [z,h0k] at e;cases e
  rw [aF n1,aF Z];exact b g o Z (h0 g o e)
 .by_cases hb:g∈kS::as
  .rw [cY hb] at e;cases e
  .rw [aV hb] at e;have n1:g≠a:=fun z=>by grind
   have Z:g≠kS:=fun z=>hb (z ▸ aa8);rw [aV (fun z=>(mK.mp z).elim n1 fun z=>hb (iN _ z)),aF n1,aF Z];exact e
theorem yo
  (G:FnOk X.prog X.w X.K X.mg X.base gN k f fd ps (rS X.K mg F)) (hr:Room k X.A.in1.in1) (hb:f8 X.K fd ps []) (I:Inv X af σ H s) (fa:eS X af H a) (g:s.heap.get? a=θ (abC "list" us.toArray n)) (has:∀ b∈as,H b≠ξ)
  (r:ba xs us) (dn:aN X.K (aD as H) ds xs) (hl:xo F ds=θ l) (ho:qN l=θ p) (hz:ds.length<=63) (Y:X.s₀.heap.get? a=ξ)
  (h:∀ J s'' L,Inv X af σ J s''->aw H J->J a=θ (.lst L)->aN X.K (aD (a::as) J) (pkL .non p ds) L->P (.done (.ret .none)) s'') :
  aaN (aaV X.prog X.w) X.A.in1.in1 (ksk_tree a (.ref f) η) P E s:=by
 have hlu:ds.length=us.length:=dn.len.trans r.length;have ha:a < s.heap.objs.size:=ID g;let ⟨Z,ho1⟩:∃ Z,(s.heap.update a (abe fun _=>(#[]:Array oR))).get? a=θ (abC "list" #[] Z):=⟨_,get?_update_seq g fun _=>#[]⟩
 let ⟨f0,f1,f2,f3,f4,f5⟩:=id fa
 have I1:=I.turned (t':=s.toks) (h':=s.heap.update a (abe fun _=>(#[]:Array oR))) (it:=a) (fun b' u hb hu=>(ab5 _ _ (acR hb)).trans hu) f0 f1 f3 f4 f5 (by walk_at "tok");have I2:=I1.kept (t':=s.toks) (h':=(s.heap.update a (abe fun _=>(#[]:Array oR))).push (abC "tuple" us.toArray 0)) (fun _ _ q=>eQ _ q) (by walk_at "tok");have I3:=I2.lnew (its:=[]) (ys:=[]) (t':=s.toks) .nil (aaQ _) (by walk_at "tok");have hkS:((s.heap.update a (abe fun _=>(#[]:Array oR))).push (abC "tuple" us.toArray 0)).objs.size=s.heap.objs.size+1:=by rw [size_push',Heap.size_update]
 have C:H ((s.heap.update a (abe fun _=>(#[]:Array oR))).push (abC "tuple" us.toArray 0)).objs.size=ξ:=I2.fresh;have ho3:(((s.heap.update a (abe fun _=>(#[]:Array oR))).push (abC "tuple" us.toArray 0)).push (abC "list" #[] 0)).get? a=θ (abC "list" #[] Z):=eQ _ (eQ _ ho1);unfold ksk_tree;refine dO (listItems_at g rfl ?_);refine dO (aeq g rfl ?_ (by rw [aaY,abR];lia) (aaQ _));refine dO (seqEpoch_at ho1 rfl ?_);refine dO (wpAny_newTuple ?_ (by show us.length<=_;rw [abR];lia));refine dO (wpAny_newList ?_ (aaQ _));refine abW ?_;have hne:a≠((s.heap.update a (abe fun _=>(#[]:Array oR))).push (abC "tuple" us.toArray 0)).objs.size:=by rw [hkS];exact aa0 (aeh ha)
 generalize hq:((s.heap.update a (abe fun _=>(#[]:Array oR))).push (abC "tuple" us.toArray 0)).objs.size=kS at *;have M:kS∉as:=fun z=>has _ z C;have haas:a∉as:=fun z=>has _ z f0;have I4:Inv X (af++[(a,abC "list" #[] Z)]) σ (upd H kS (.lst [])) { s with heap:=((s.heap.update a (abe fun _=>(#[]:Array oR))).push (abC "tuple" us.toArray 0)).push (abC "list" #[] 0) }:=by
  have I3':Inv X af σ (upd H kS (.lst [])) { s with heap:=((s.heap.update a (abe fun _=>(#[]:Array oR))).push (abC "tuple" us.toArray 0)).push (abC "list" #[] 0) }:=I3;refine I3'.pins_of fun p hp=>?_;rcases By.mp hp with hp|hp
  .exact I3'.pin p (aaM _ hp)
  .obtain rfl:p=_:=by simpa using hp
   exact ⟨ho3,by rw [aF hne];exact f0,f1,f2,fun v z=>by cases z⟩
 have up:aw H (upd H kS (.lst [])):=aR C _;have dn':aN X.K (aD (kS::as) (upd H kS (.lst []))) ds xs:=dn.mono fun b o e=>by
  by_cases hb:b∈as
  .rw [cY hb] at e;cases e
  .rw [aV hb] at e;have n1:b≠kS:=fun z=>by rw [z,C] at e;cases e
   rw [aV (fun z=>(mK.mp z).elim n1 hb)];exact up b o e
 refine xU G hr hb I4 aK (fun b hb=>by
  cases e:H b with
  | none=>grind
  | some o=>rw [up b o e];simp) M r dn' hl hz fun H' kvs its n' s' I' b' k' d' r' e'=>?_
 have pa:=I'.pin (a,abC "list" #[] Z) (by simp);exact xH (oa:=abC "list" #[] Z) I' ⟨pa.2.1,f1,f2,f3,f4,f5⟩ up C f0 b' k' d' r' e' haas M hne r dn' hl ho (by have:=hr.un;lia) hz Y h
theorem tY
  (G:FnOk X.prog X.w X.K X.mg X.base gN k f fd ps (rS X.K mg F)) (hr:Room k X.A.in1.in1) (hb:f8 X.K fd ps []) (I:Inv X af σ H s) (hp:s.heap.IsList lA us.toArray) (M:∀ b∈as,H b≠ξ)
  (r:ba xs us) (Z:aN X.K (aD as H) ds xs) (hl:xo F ds=θ l) (ho:qN l=θ p) (hz:ds.length<=63)
  (h:∀ C H' g,aw H H'->H C=ξ->H' C=θ (.lst g)->aN X.K (aD (C::as) H') (pkL .non p ds) g->Q (.ref C) H') :
  aaN (aaV X.prog X.w) X.A (call (.builtin "sorted") [.ref lA] [(IF "key",.ref f)]) (EP X af σ Q) E s:=by
 have hlu:ds.length=us.length:=Z.len.trans r.length;refine call_function_entry_kw kind_sorted plain_sorted entry_sorted (ksk_s1 _ _) ?_;unfold Builtin.«sorted»;refine dO (m:=checkCount "sorted" 1 1 _) (rW ?_);refine dO (collect_list hp ?_ (by rw [abR];lia));refine dO (wpAny_newList ?_ (by rw [abR];lia));have hsz:((s.heap.push (abC "list" #[] 0)).update s.heap.objs.size (abe (·++us.toArray))).objs.size=s.heap.objs.size+1:=by
  simp_all
 have u:(((s.heap.push (abC "list" #[] 0)).update s.heap.objs.size (abe (·++us.toArray))).push (abC "list" us.toArray 0)).get? (s.heap.objs.size+1)=θ (abC "list" us.toArray 0):=by
  rw [<- hsz];exact Do _ rfl
 have z:∀ b o,s.heap.get? b=θ o->(((s.heap.push (abC "list" #[] 0)).update s.heap.objs.size (abe (·++us.toArray))).push (abC "list" us.toArray 0)).get? b=θ o:=fun b o q=>by
  have hlt  := ID q;rw [afn _ _ _ (by grind),Heap.get?_update_ne _ _ _ _ (aa0 hlt),afn _ _ _ (aa0 hlt)];exact q
 have hfr  := I.hok.fresh (adB _);have I1:=I.kept z (by walk_at "tok");rw [hsz];refine dO (abW (wpAny_call_entry_kw slot_list_sort ⟨_,u,rfl⟩ entry_list_sort ?body (ksk_l1 _ _)));refine yo G hr hb I1 (I.fpOk (adB _) hfr) u M r Z hl ho hz (aeN (Le I.sz (adB _))) fun v s'' g J s0 Y L=>⟨_,rfl,?_⟩;exact rW ⟨_,rfl,.ref (s.heap.objs.size+1),v,J,rfl,h _ v g s0 hfr Y L⟩
end
theorem Kc {K:aT} {st:ac2} {p p2 p3 pos:Pos}
  (Df:Def X.K X.mg x st ps f fd) (G:FnOk X.prog X.w X.K X.mg X.base gN j f fd ps (rS K mg F)) (hr:Room k X.A) (hm:X.mg "sorted"=ξ) (ha:JE X e (tD ⟨K,mg,E0⟩ O φ)) (hj:j+1<=k:=by decide) (hg:Gl X "sorted":=by rfl) (z:Gl X x:=by rfl) (Y:afX x:=by decide)
  (h1:aI e=ζ:=by rfl) (hK:X.K=K:=by rfl):JE X (.Call (.Name "sorted" p) [e] [⟨θ "key",.Name x p2,p3⟩] pos) (tN ⟨K,mg,E0⟩ O (aj (nJ F) (aa φ ag))):=by
 subst hK;refine ⟨fun af s σ H Q I h=>?_⟩;let ⟨as0,B,own,U,J,h⟩:=h
 have hA:JA X [e] (qZ ⟨X.K,mg,E0⟩ O (aa φ ag)):=zQ ha G4 (hn:=h1);refine abm (g8 I hg hm (u:=.builtin "sorted") (by with_unfolding_all rfl) ?_ (by decide) (by decide));have he:acL pos (aa2 [e] X.env)=(η,eval e X.env)::acL pos (aa2 [] X.env):=by rw [bH h1];rfl
 refine callWith_kw (bT (hA.out pos af s σ H (fun vs H1=>aw H H1/\∃ ds,aN X.K (aD (own++as0) H1) ds vs/\fG ⟨X.K,mg,E0⟩ (own++as0) H1 (nJ F ds) Q) I ⟨as0,B,own,U,J,nY h fun ds vs H1 C d1 h1=>⟨C,ds,d1,h1⟩⟩) fun us C ⟨vs,H1,I1,r,sm,ds,dn,q⟩ =>
  bT (yU (nm:=θ "key") (kpos:=p3) (y9 (pos:=p2) (v:=.ref f) z Df.m rfl Y) F8 pos af C σ H1 (fun zs L=>zs=[.ref f]/\L=H1) I1 ⟨rfl,rfl⟩) fun ws s2 ⟨zs,L,I2,rz,e1,e2⟩=>?_) he ?_ rfl rfl
 .subst e1 e2;obtain ⟨w0,rfl,rw0⟩:=rz.one;cases rw0;have exi:∀ b∈own++as0,L b≠ξ:=(J.mono sm).exi;unfold nJ at q;split at q
  .rename_i ys;split at q
   .rename_i hz;split at q
    .rename_i pm hl;let ⟨l,hl,ho⟩:=bY.mp hl
     obtain ⟨v0,_,rfl,d0,Z⟩:=dn;cases Z;obtain ⟨lA,xs,rfl,hS,dx⟩:=d0;obtain ⟨u0,rfl,ru⟩:=r.one;cases ru;let ⟨its,ri,hp,_⟩:=I2.list ((ar _ _).seq hS)
     have rm:Room j X.A.in1.in1:=⟨hr.hd,by have:=hr.dp;show X.A.depth+3*j+5 < _;lia,by have:=hr.un;show X.A.units+1+1+16*j+200 < _;lia⟩;refine tY (mg:=mg) (F:=F) (as:=own++as0) G rm Df.b I2 hp.isList exi ri dx hl ho hz fun p H' g s' hn M dd=>?_;exact q p _ H' s' hn M ⟨g,rfl,dd⟩
    .exact q.elim
   .exact q.elim
  .exact q.elim
 .exact cK (by grind)
end L2
namespace L2
open PySem
def CA:D->Option ab7
 | .tup (a::b::_)=>(bx (.tup [a,b])).bind fun k=>if aaP k=ζ then θ k else ξ
 | _=>ξ
def rC (o:LU.Or):D->ab7->afW->Option D
 | x,_,[]=>θ x
 | x,k,d::r=>(CA d).bind fun j=>(LU.cpP o j k).bind fun b=>if b=ζ then rC o d j r else rC o x k r
def Hz (o:LU.Or) (ds:afW):R D:=match ds with
 | [.lst (d::r)]=>(match (CA d).bind fun k=>rC o d k r with
  | some x=>.ok x
  | none=>.no)
 | _=>.no
def A1 (x y:D):Option Bool:=match y with
 | .lst ds=>hZ x ds
 | _=>ξ
def xL (x y:D):R D:=d7 (A1 x y) fun k=>k
def n9 (x y:D):R D:=d7 (A1 x y) fun k=>!k
end L2
namespace L2
open PySem PySem.Spec PyProof.Rows
section
def Pn (h1:jx cH (tbl B ext acc an q [] []) q=θ φ) (h2:Rb q.N q.ps (aY (cH q.i))=ζ) (g:HX cH B ext xf r (HQ xf q (.pl φ) acc) (wc q (.pl φ) an)):HX cH B ext xf ((q,.pl φ)::r) acc an:=⟨h1,h2,g⟩
def QH (h1:jx cH (tbl B ext acc an q [] [vw]) q=θ φ) (h2:Rb q.N q.ps (aY (cH q.i))=ζ) (g:HX cH B ext xf r (HQ xf q (.nw φ) acc) (wc q (.nw φ) an)):HX cH B ext xf ((q,.nw φ)::r) acc an:=⟨h1,h2,g⟩
def PP (h1:∀ F,jx cH (tbl B ext acc an q (q.g.map fun x=>rT x F) []) q=θ (φ F)) (h2:Rb q.N q.ps (aY (cH q.i))=ζ) (u:HX cH B ext xf r (HQ xf q (.rc φ Z n) acc) (wc q (.rc φ Z n) an)) (v:∀ ds,Z 0 ds=.no:=by exact fun _=>rfl) (z:∀ m,Z (m+1)=vt (φ (Z m)) q.N q.ps:=by exact fun _=>rfl):HX cH B ext xf ((q,.rc φ Z n)::r) acc an:=⟨⟨h1,v,z⟩,h2,u⟩
end
noncomputable def W2:oR->Option (D×V)
 | .int i _=>θ (.int i,.int i)
 | .str x _=>θ (.str x,.str x)
 | .bool b=>θ (.bl b,.bl b)
 | .none=>θ (.non,.non)
 | _=>ξ
def Of:afU->Option (List (D×V))
 | []=>θ []
 | u::r=>(W2 u).bind fun q=>(Of r).map (q::·)
def WY (K:aT) (u:oR):Option D:=match u with
 | .ref a=>(match K.lookup a with
  | some o=>if o.cls=.type "tuple"/\o.dict=ξ then (match o.data with
   | .seq its _=>if its.size<=1000 then (Of its.toList).map fun l=>.tup (l.map (·.1)) else ξ
   | _=>ξ) else ξ
  | none=>ξ)
 | u=>(W2 u).map (·.1)
def CU {K:aT} (h:W2 u=θ q):aX q.2 u/\∀ H,b9 K H q.1 q.2:=by
 unfold W2 at h;split at h <;> cases h
 .exact ⟨⟨_,rfl⟩,fun H=>rfl⟩
 .exact ⟨⟨_,rfl⟩,fun H=>rfl⟩
 .exact ⟨rfl,fun H=>rfl⟩
 .exact ⟨rfl,fun H=>rfl⟩
theorem Ah {K:aT}:∀ {us:afU} {l:List (D×V)},Of us=θ l->ba (l.map (·.2)) us/\∀ H,aN K H (l.map (·.1)) (l.map (·.2))
 | [],_,h=>by cases h;exact ⟨.nil,fun H=>rfl⟩
 | u::r,_,h=>by
  let ⟨q,h1,h⟩:=bY.mp h
  obtain ⟨l,h2,rfl⟩:=iF.mp h;obtain ⟨a,b⟩:=CU h1;obtain ⟨c,d⟩:=Ah h2;exact ⟨.cons a c,fun H=>⟨q.2,_,rfl,b H,d H⟩⟩
theorem N7 {K:aT} (h:WY K u=θ d):∃ v,aX v u/\(∀ H,b9 K H d v)/\∀ p,u=.ref p->∃ ob,K.lookup p=θ ob/\ob.cls=.type "tuple"/\ob.dict=ξ:=by
 unfold WY at h;split at h
 .rename_i a;split at h
  .rename_i o e;split at h
   .rename_i hc;split at h
    .rename_i its n hd;split at h
     .obtain ⟨l,h1,rfl⟩:=iF.mp h;obtain ⟨c,g⟩:=Ah h1;exact ⟨.ref a,rfl,fun H=>⟨a,l.map (·.2),rfl,.inr ⟨o,its,n,e,hc.1,hd,by rw [abR];lia,c⟩,g H⟩,fun p r=>by simp_all⟩
     .cases h
    .cases h
   .cases h
  .cases h
 .obtain ⟨q,h1,rfl⟩:=iF.mp h;let ⟨a,b⟩:=CU (K:=K) h1
  grind
section
variable {K:aT} (X:K.In h) (N:h.Ns aaR mg)
include X N
theorem M5 {l:List (Str×D)} (e:(l.map fun q=>(aaO K aaR q.1).bind fun o=>o.bind (WY K))=l.map fun q=>θ q.2):∀ q∈l,Na K mg q:=fun q C=>by
 have z:=abH.mp e q C;obtain ⟨o,h1,h2⟩:=bY.mp z;obtain ⟨u,g,r⟩:=bY.mp h2;let ⟨v,h5⟩:=N7 r
 exact ⟨v,u,ads X N (by rw [h1,g]),h5⟩
theorem Wx {l:afP} (e:l.map (aaO K aaR)=l.map fun _=>θ ξ):∀ x∈l,mg x=ξ:=fun x g=>PySem.W.mg_none_of X N (abH.mp e x g)
end
abbrev Pl:=List (Nat×Nat×Nat×oR)
def fA (L:Pl) (i:Nat):aa3:=match L.lookup i with
 | some q=>q.1
 | none=>0
def cA (L:Pl) (i:Nat):aa3:=match L.lookup i with
 | some q=>q.2.1
 | none=>0
def mA (L:Pl) (i:Nat):oR:=match L.lookup i with
 | some q=>q.2.2
 | none=>.none
def Rh:ac2->Str
 | .FunctionDef n _ _ _ _ _ _ _ _ _=>n
 | _=>""
def fD (cH:Nat->ac2) (L:Pl) (i:Nat):acE:=acK (Rh (cH i)) (Rh (cH i)) (iV (cH i)) (dC (cH i)) (aY (cH i)) .none .none .none (mA L i) ξ (.ref (cA L i)) .none
def Lp (h:us.length<=5):∃ a b c d e,us=([a,b,c,d,e]:afU).take us.length:=by
 match us,h with
 | [],_=>exact ⟨.none,.none,.none,.none,.none,rfl⟩
 | [a],_=>exact ⟨a,.none,.none,.none,.none,rfl⟩
 | [a,b],_=>simp_all
 | [a,b,c],_=>exact ⟨a,b,c,.none,.none,rfl⟩
 | [a,b,c,d],_=>exact ⟨a,b,c,d,.none,rfl⟩
 | [a,b,c,d,e],_=>simp_all
 | _::_::_::_::_::_::_,h=>simp_all
def ZI (cH:Nat->ac2) (q:Df×Mr) (kV g v:oR) (u:Option aa3) (r z a b c d e:oR):Sem (List (Str×oR)):=bindArgs (acK q.1.x q.1.x (iV (cH q.1.i)) (dC (cH q.1.i)) (aY (cH q.1.i)) .none kV g v u r z) ⟨[a,b,c,d,e].take q.1.ps.length,[]⟩
def aao (q:Df×Mr) (kV g v:oR) (u:Option aa3) (r z a b c d e:oR):Sem (List (Str×oR)):=pure (q.1.ps.zip ([a,b,c,d,e].take q.1.ps.length))
section
variable {K:aT} {G:List (Df×Mr)}
theorem Nt (X:K.In h) (N:h.Ns aaR mg) (e0:(G.map fun q=>Rh (cH q.1.i))=G.map fun q=>q.1.x) (e1:(G.map fun q=>q.1.g.map (aaO K aaR))=G.map fun q=>q.1.g.map fun _=>θ (θ (.ref (fA L q.1.i))))
  (Y:(G.map fun q=>K.lookup (fA L q.1.i))=G.map fun q=>θ ⟨.type "function",ξ,.func (fD cH L q.1.i),#[]⟩) (e3:(G.map fun q=>(Hy K (.ref (cA L q.1.i)) q.1.x,ada K (.ref (fA L q.1.i))))=G.map fun _=>(ζ,ζ))
  (Z:G.map (ZI cH)=G.map aao) (e5:(G.map fun q=>decide (q.1.ps.length<=5))=G.map fun _=>ζ):∀ q∈G,DfOk cH K mg q.1 (fA L q.1.i) (fD cH L q.1.i):=fun q r=>by
 have u  := abH.mp e0 q r;have C:=abH.mp Y q r;have M:=abH.mp e3 q r;have hb  := abH.mp Z q r;have hl:=afM (abH.mp e5 q r);have F:Fun K q.1.x q.1.x (cH q.1.i) (fA L q.1.i) (fD cH L q.1.i):=by
  unfold fD at C ⊢;rw [u] at C ⊢;exact CJ C (Prod.mk.inj M).1 (Prod.mk.inj M).2
 refine ⟨F,F.binds fun kV v pm an z ct us I=>?_,fun x u=>ads X N (abH.mp (abH.mp e1 q r) x u)⟩;obtain ⟨a,b,c,d,e,J⟩:=Lp (by rw [I];exact hl);rw [I] at J;rw [J];exact congrFun (congrFun (congrFun (congrFun (congrFun (congrFun (congrFun (congrFun (congrFun (congrFun (congrFun hb kV) v) pm) an) z) ct) a) b) c) d) e
end
section
variable {X:Cx} {W:Wd}
def AL (x:Str) (F:afW->R D):Fm:=fun sc _ _ e=>match e with
 | .Call (.Name a _) [e] [⟨θ k,.Name f _,_⟩] _=>if a="sorted"/\k="key"/\f=x/\wC sc "sorted"=ζ/\wC sc x=ζ/\aI e=ζ then θ ([e],fun l=>aj (nJ F) (aa (g0 l) ag)) else ξ
 | _=>ξ
theorem FZ {K:aT} (r:mg "sorted"=ξ):N1 cH P w K mg base (1,AL):=fun q f fd j F Q hx G Y k ⟨e1,e2,e3,e4,e5,hr,_⟩ hj O e es b φs h hJ=>by
 subst e1 e2 e3 e4 e5;have h:AL q.x F Y.env.scope Y.N O e=θ (es,b):=h;unfold AL at h;split at h
 .split at h
  .rename_i hq;cases h;let ⟨h1,h2,h3,h4,h5,h6⟩:=hq
   obtain ⟨φ,rfl,g⟩:=wA hJ;rw [h1,h2,h3];exact vj (Kc (Df:=⟨Q.F,Q.b,Q.m _ hx⟩) G hr r g hj (b7 h4).1 (b7 h5).1 (b7 h5).2 h6 rfl)
  .cases h
 .cases h
end
theorem p0 {pos:Pos} {a b:Int} {c cv:oR}:∀ (l:afU),TriplesOk l->codeAmong pos (l++[aeJ a,aeJ b,c])=θ cv->codeAmong pos l=θ cv\/cv=c
 | [],_,h=>by
  have h:(if (a==pos.line&&b==pos.col)=ζ then θ c else codeAmong pos [])=θ cv:=h;split at h
  .cases h;exact .inr rfl
  .cases h
 | .int x _::.int y _::z::r,t,h=>by
  have h:(if (x==pos.line&&y==pos.col)=ζ then θ z else codeAmong pos (r++[aeJ a,aeJ b,c]))=θ cv:=h;show (if (x==pos.line&&y==pos.col)=ζ then θ z else codeAmong pos r)=θ cv\/cv=c;split at h
  .rename_i e;rw [afI e];exact .inl h
  .rename_i e;rw [afJ e];exact p0 r t h
noncomputable def xV (K:aT):Bool:=match aaO K aaR "__builtins__" with
 | some (θ (.ref bm))=>(match K.lookup bm with
  | some ⟨.type "module",θ d,.plain,_⟩=>d==builtinsNs&&bm != builtinsNs&&bm != aaR
  | _=>η)
 | _=>η
def Pu {K:aT} {h:acV} {mg:afS} {P:aa3} (r:K.In h) (G:h.Ns aaR mg) (hb:xV K=ζ) (u:h.get? P=θ (acQ ps)):h.BuiltinsAt mg P:=by
 unfold xV at hb;split at hb
 .rename_i bm e;split at hb
  .rename_i d sl e2;rw [Pi,Pi] at hb;have g:=r _ _ e2;refine ⟨bm,_,ads r G e,by simpa using hb.1.2,by simpa using hb.2,fun z=>?_,g,rfl,by rw [show d=builtinsNs from by simpa using hb.1.1],rfl⟩;rw [z,u] at g;cases g
  .cases hb
 .cases hb
section
variable {σ:St} {s:DO}
structure LamAt (H:Hp) (q:Str) (params:Arguments) (body:abu) (sc:Scope) (c:aa3) (fo:Obj):Prop where
 ob:∃ pm ct,fo=PySem.W.kla_obj "<lambda>" q params body sc [] pm c ct
 co:∃ oc vs t P,H c=θ (.frz oc (.own P))/\oc.data=.fields vs/\vs[1]?=θ (.str q t)
def LamAt.mono (l:LamAt H q params body sc c fo) (s:∀ b o,H b=θ o->H' b=θ o):LamAt H' q params body sc c fo :=
 ⟨l.ob,let ⟨oc,vs,t,P,h1,h2⟩:=l.co;⟨oc,vs,t,P,s _ _ h1,h2⟩⟩
def XQ (q:Str) (params:Arguments) (body:abu) (sc:Scope):TE:=fun σ H Q=>∀ f c g H',(∀ b o,H b=θ o->H' b=θ o)->H' f=θ (.frz g (.own f))->LamAt H' q params body sc c g->Q (.ref f) H'
theorem EI {params:Arguments} {body:abu} {sc:Scope} {pos:Pos} (hc:X.env.code=.ref c) (hC:acs X.K c P=ζ) (Z:∀ H,JC X.K H->H P=θ (.tbl (X.env.qual++"<lambda>"))) (hB:xV X.K=ζ)
  (hcl:closureFor sc X.env=pure []) (hdef:defaultsOf params X.env=([],[])):PE X (.Lambda params body sc pos) (XQ (X.env.qual++"<lambda>") params body sc):=by
 intro af s σ H Q I h;have Z:=Z H I.tb;refine aW I.tk (PySem.W.kla_eval hdef ?_);obtain ⟨ps,e,tr,r⟩:=I.hok P _ Z;have M:=I.mod.glob.keeps I.bk;have C:=aeY I.kIn hC;have hb:=Pu I.kIn M hB e;have hgP:aaR≠P:=fun z=>by
  obtain ⟨o,es,ep,e2,hd,_⟩:=M;rw [z,e] at e2;cases e2;cases hd
 have fin:∀ (H':Hp) (h':acV) (tk:Nat) (L:Obj) (g:aa3),X.tn<=tk->(∀ b o,H b=θ o->H' b=θ o)->LamAt H' (X.env.qual++"<lambda>") params body sc g L->L.isFreed=η ->
   Inv X af σ H' { s with heap:=h',toks:=tk }->EP X af σ Q (.ref h'.objs.size) { s with heap:=h'.push L,toks:=tk }:=fun H' h' tk L g Y s1 l hF J=>by
  have e:=Do h' hF;have f0:H' h'.objs.size=ξ:=J.hok.fresh (nE _);have s2:=aR f0 (.frz L (.own h'.objs.size));exact ⟨.ref _,_,J.laid (a:=h'.objs.size) (o:=.frz L (.own h'.objs.size)) (h':=h'.push L) (t':=tk) (fun b u q=>eQ _ q) (nE _) ⟨e,L,e⟩ Y,rfl,h _ g L _ (fun b o q=>s2 b o (s1 b o q)) aK (l.mono s2)⟩
 cases hq:codeAmong pos ps.toList with
 | some cv =>
  obtain ⟨g,oc,vs,t,rfl,h1,h2,h3⟩:=r pos cv hq;refine PySem.W.kla_makeFunctionHit (mg:=X.mg) hcl I.ok.glob M hc C e tr hq hb fun ctv h' tk hk hsz Y=>?_;exact fin H h' tk _ g Y (fun _ _ q=>q) ⟨⟨_,_,rfl⟩,oc,vs,t,P,h1,h2,h3⟩ rfl (I.kept hk Y)
 | none =>
  refine PySem.W.kla_makeFunction (mg:=X.mg) hcl I.ok.glob M hc C e tr hq hgP hb fun g ctv h' tk hx hge hlt hrec htb Y=>?_;obtain ⟨c2,oc,vs,t,e1,e2,e3,e4⟩:=hrec;cases e1;have hn:H g=ξ:=I.hok.fresh hge;have up:∀ b o,H b=θ o->upd H g (.frz oc (.own P)) b=θ o:=fun b o q=>by rw [aF (bf q hn)];exact q
  have nP:∀ b,H b=ξ->b≠P:=fun b q z=>by rw [z,Z] at q;cases q
  refine fin (upd H g (.frz oc (.own P))) h' tk _ g Y up ⟨⟨_,_,rfl⟩,oc,vs,t,P,aK,e3,e4⟩ rfl ?_;refine I.step (ch:=[]) (fun _ z=>nomatch z) (fun b o _ _ _ q n=>hx b o (nP b n) q) (fun b o _ _ _ q n=>⟨o.slots,hx b o (nP b n) q⟩)
   (fun b o _ q n=>by rw [aF (aa0 (OR (ID q) hge))];exact n) (fun b o _ q=>?_) (fun b xs q=>up _ _ q) (fun b o u q=>up _ _ q) (fun b q z=>up _ _ z) (fun m hm=>?_) (fun a u q=>?_) I.bare Y
  .by_cases z:b=P
   .exact ⟨_,z ▸ htb⟩
   .exact ⟨o,hx b o z q⟩
  .obtain ⟨o,es,ep,q,d⟩:=hm;exact ⟨o,es,ep,hx _ _ (nP _ I.free) q,d⟩
  .by_cases za:a=g
   .subst za;rw [aK] at q;cases q;exact ⟨e2,oc,e2⟩
   .rw [aF za] at q;by_cases zp:a=P
    .subst zp;rw [Z] at q;cases q;refine ⟨_,htb,by rw [adS];exact TriplesOk_snoc _ _ _ _ tr,fun pos' cv hcv=>?_⟩;rw [adS] at hcv;rcases p0 _ tr hcv with z|z
     .obtain ⟨c1,oc1,vs1,t1,z1,z2,z3⟩:=r pos' cv z;exact ⟨c1,oc1,vs1,t1,z1,up _ _ z2,z3⟩
     .exact ⟨g,oc,vs,t,z,aK,e3,e4⟩
    .refine (I.hok a u q).stay (fun b v hb z=>hx b v (fun y=>?_) z) (fun b z=>up _ _ z) fun b v z=>⟨up _ _ z.1,z.2⟩;rcases hb with rfl|hb
     .exact zp y
     .rw [y,Z] at hb;cases hb
end
theorem Dp {P:abN} {w:abA} {K:aT} {mg:afS} {base:acV} {params:Arguments} {body:abu} {sc:Scope} {s:DO} {Y:Obj} {N ps:afP} {t:TE} (S:FnScope N ps sc) (L:Env0 P w K mg base A outer s H) (hr:Room (k+1) A)
  (hf:s.heap.get? f=θ Y) (l:LamAt H q params body sc c Y) (hb:∀ pm cv Z,bindArgs (ad9 "<lambda>" q params body sc [] pm cv Z) ⟨us,[]⟩=pure (ps.zip us)) (r:ba vs us) (hl:vs.length=ps.length)
  (C:PE (oB gN P w K mg base N q sc f (.ref c) A outer s H E0).nox body t) (h:t (start N vs) H Q):adt (aaV P w) A (.call (.ref f) ⟨us,[]⟩) (CR gN outer P w H s Q E0) s:=by
 obtain ⟨pm,Z,rfl⟩:=l.ob;obtain ⟨oc,vz,tz,Pz,h1,h2,h3⟩:=l.co;have M:=L.mod.nolimit.keeps fun b o e=>(L.bs b o e).1;have g:∀ y∈ps.zip us,sc.names.lookup y.1=θ .local\/(sc.names.lookup y.1=θ .cell/\((cellsFrom (s.heap.objs.size+1) sc.names []).lookup y.1).isSome=ζ):=fun ⟨n,v⟩ hy=>by
  rcases S.par n (abb hy).1 with q|q
  .exact .inl q
  .exact .inr ⟨q,adw _ _ _ (.inl q)⟩
 refine PySem.W.kla_callFunE hr.depth hf rfl S.co S.gen rfl ⟨c,oc,vz,tz,rfl,(L.hok c _ h1).1,h2,h3⟩ ?_;rw [hb];refine rW ?_;refine wpAny_newFunctionEnv_cells S.kind g fun env he s1 x=>?_;subst he;refine ⟨M.keeps x.toInCall.keep,PySem.W.kla_codeExpr ?_⟩;have I:Inv (oB gN P w K mg base N q sc f (.ref c) A outer s H E0) [] (start N vs) H s1:=si S hr.hd L hl r x;refine abn (C [] s1 (start N vs) H _ (I.wish _) h) (fun u s' ⟨v,H',J,rv,q⟩=>?_) fun e s' z=>z.elim;have J:=J.unwish;exact ⟨v,H',J.os,J.bare,J.base,J.hok,rv,q⟩
section
variable {σ:St} {s:DO} {params:Arguments} {body:abu} {sc:Scope}
structure LamD (X:Cx) (mg:afS) (q:Str) (params:Arguments) (body:abu) (sc:Scope) (x:Str) (φ:FE):Prop where
 fs:FnScope [x] [x] sc
 bind:∀ (u pm cv ct:oR),bindArgs (ad9 "<lambda>" q params body sc [] pm cv ct) ⟨[u],[]⟩=pure [(x,u)]
 body:∀ (f c:aa3) (A:acy) (outer:List Env) (s:DO) (H:Hp),JE (oB gN X.prog X.w X.K X.mg X.base [x] q sc f (.ref c) A outer s H E0).nox body (tD ⟨X.K,mg,E0⟩ [] φ)
theorem F3 (L:LamD X mg q params body sc x φ) (I:Inv X af σ H s) (hf:s.heap.get? f=θ fo) (l:LamAt H q params body sc c fo) (hr:Room (k+1) X.A.in1) (Z:∀ b∈as,H b≠ξ) (rv:aX v u) (dv:b9 X.K (aD as H) d v) (hφ:φ [θ d]=.ok kd)
  (h:∀ C M H' g,Inv X af σ H' g->aw H H'->aX C M->b9 X.K (aD as H') kd C->P M g):aaN (aaV X.prog X.w) X.A.in1 (call (.ref f) [u]) P E s:=by
 refine wpAny_call (dq I.tk (ac1 (Dp (Q:=fun C H'=>aw H H'/\b9 X.K (aD as H') kd C) L.fs I.env0.in1 hr hf l (fun pm cv ct=>L.bind u pm cv ct) (.cons rv .nil) rfl (L.body _ _ _ _ _ _).out ?_) fun r g J htk=>?_))
 .refine ⟨as,H,[],[θ d],DI.plain rfl Z fun i e Y=>?_,?_⟩
  .match i,Y with
   | 0,Y=>cases Y;exact ⟨v,rfl,dv⟩
  .rw [hφ];exact fun C H' g z=>⟨g,z⟩
 .cases r with
  | error e=>exact J.elim
  | ok fl =>
   cases fl with
   | ret M =>
    obtain ⟨C,H',I',rv',g,z⟩:=I.after J;exact h C M H' _ I' g rv' z
   | next=>exact J.elim
   | brk=>exact J.elim
   | cont=>exact J.elim
abbrev wF (o:LU.Or):String:=match o with
 | .gt=>"max"
 | _=>"min"
abbrev Y2 (o:LU.Or):Builtin:=match o with
 | .gt=>Builtin.«max.loop»
 | _=>Builtin.«min.loop»
def wR (o:LU.Or):Prop:=o=.gt\/o=.lt
def ET (h:wR o):entryFor table (wF o++".loop")=θ (Y2 o)/\plainId (wF o++".loop")=ζ:=by
 rcases h with rfl|rfl
 .exact ⟨PySem.F.entry_max_loop,aew⟩
 .exact ⟨PySem.F.entry_min_loop,aex⟩
theorem K5 {prog:abN} {w:abA} {A:acy} {Q:Fin->DO->Prop} {E:afR} {m:Nat} (C:m<=s.toks) (h:wR o) (u:s.heap.get? S=θ (abC "list" #[vb,kb] n))
  (hn:∀ (Q:Option oR->DO->Prop) (E:afR),(∀ (h':acV) (g:Nat),(∀ b o,b∉[I]->s.heap.get? b=θ o->h'.get? b=θ o)->Q ξ { s with heap:=h',toks:=g })->aaN (aaV prog w) A (pyNext (.ref I)) Q E s) (r:S≠I)
  (q:∀ (h':acV) (g:Nat),m<=g->(∀ b o,b∉[I]->s.heap.get? b=θ o->h'.get? b=θ o)->Q (.done (.ret vb)) { s with heap:=h'.update S (abe fun _=>(#[]:Array oR)),toks:=g }) :
  aaN (aaV prog w) A (Y2 o ⟨[.ref I,.ref f,.ref S],[]⟩) Q E s:=by
 rcases h with rfl|rfl <;>
 .show aaN _ A (seqItems? (.ref S) >>= _) _ _ _;refine dO (wpAny_seqItems u rfl ?_);show aaN _ A (tryCatch (pyNext (.ref I)) _ >>= _) _ _ _;refine dO (wpAny_tryCatch (aW C (hn _ _ fun h' g v z=>?_)));show aaN _ A (updateSeq S (fun _=>#[]) >>= _) _ _ _;refine dO ?_;exact wpAny_updateSeq (v S _ (by simpa using r) u) rfl (dO (wpAny_letGo (rW (q h' g z v))))
theorem Kb {prog:abN} {w:abA} {A:acy} {Q:Fin->DO->Prop} {E:afR} {m:Nat} (ht:m<=s.toks) (h:wR o) (Z:s.heap.get? S=θ (abC "list" old.toArray n))
  (hn:∀ (Q:Option oR->DO->Prop) (E:afR),(∀ (h':acV) (C:Nat),(∀ b o,b∉[I]->s.heap.get? b=θ o->h'.get? b=θ o)->h'.IsListIter I l (j+1)->Q (θ u) { s with heap:=h',toks:=C })->aaN (aaV prog w) A (pyNext (.ref I)) Q E s)
  (q:∀ (h':acV) (C:Nat),m<=C->(∀ b o,b∉[I]->s.heap.get? b=θ o->h'.get? b=θ o)->h'.IsListIter I l (j+1)->∀ (E:afR),aaN (aaV prog w) A (call (.ref f) [u]) (fun k r =>
   match old with
   | [L,J]=>∃ b v,LU.CpAt o A r k J b/\r.heap.get? S=θ (abC "list" old.toArray v)/\(if b=ζ then Q (.again (.builtin (wF o++".loop") ⟨[.ref I,.ref f,.ref S],[]⟩)) { r with heap:=r.heap.update S (abe fun _=>#[u,k]) } else Q (.again (.builtin (wF o++".loop") ⟨[.ref I,.ref f,.ref S],[]⟩)) r)
   | _=>∃ v,r.heap.get? S=θ (abC "list" old.toArray v)/\Q (.again (.builtin (wF o++".loop") ⟨[.ref I,.ref f,.ref S],[]⟩)) { r with heap:=r.heap.update S (abe fun _=>#[u,k]) }) E { s with heap:=h',toks:=C }) (M:old=[]\/∃ L J,old=[L,J]) :
  aaN (aaV prog w) A (Y2 o ⟨[.ref I,.ref f,.ref S],[]⟩) Q E s:=by
 rcases M with rfl|⟨L,J,rfl⟩ <;> rcases h with rfl|rfl
 all_goals
  show aaN _ A (seqItems? (.ref S) >>= _) _ _ _;refine dO (wpAny_seqItems Z rfl ?_);show aaN _ A (tryCatch (pyNext (.ref I)) _ >>= _) _ _ _;refine dO (wpAny_tryCatch (aW ht (hn _ _ fun h' C hk Y z=>?_)));show aaN _ A (tryCatch (holding [u] (call (.ref f) [u])) _ >>= _) _ _ _;refine dO (wpAny_tryCatch (abW (abn (q h' C z hk Y _) (fun k r g=>?_) fun _ _ z=>z)))
 .obtain ⟨v,h2,g⟩:=g;exact dO (wpAny_updateSeq h2 rfl (rW g))
 .obtain ⟨v,h2,g⟩:=g;exact dO (wpAny_updateSeq h2 rfl (rW g))
 all_goals
  obtain ⟨b,v,hc,h2,g⟩:=g;show aaN _ A (tryCatch (holding [u,k] (richCompare _ k J >>= _)) _ >>= _) _ _ _;refine dO (wpAny_tryCatch (abW (dO (hc _ _ _ _ ?_))));refine dO (abW (aci ?_));refine dO (wpAny_letGo (rW ?_));cases b with
  | true=>exact dO (wpAny_updateSeq h2 rfl (dO (wpAny_letGo (rW g))))
  | false=>exact dO (wpAny_letGo (rW g))
end
section
variable {σ:St} {s:DO} {params:Arguments} {body:abu} {sc:Scope}
def E8 (K:aT) (H:Hp):afU->Option (D×ab7)->Prop
 | [],ξ=>True
 | [vb,kb],θ (d,k)=>∃ g r u,aX g vb/\b9 K H d g/\aX r kb/\b9 K H u r/\bx u=θ k/\aaP k=ζ
 | _,_=>False
def WS (o:LU.Or):Option (D×ab7)->afW->Option D
 | none,[]=>ξ
 | none,d::r=>(CA d).bind fun k=>rC o d k r
 | some (d,k),r=>rC o d k r
def E9 (X:Cx) (g:afQ) (b:aa3):Prop:=b≠X.env.locals/\b∉X.fs/\(b∈X.ex\/X.s₀.heap.objs.size<=b)/\(∀ x c,X.env.cells.lookup x=θ c->c≠b)/\∀ p∈X.pn++g,p.1≠b
def Inv.turn1 {b:aa3} {ob g:Obj} {u:afQ} (I:Inv X (af++(b,ob)::u) σ H s) (R:E9 X af b) (hb:∀ p∈u,p.1≠b) (k:∀ c o,c≠b->s.heap.get? c=θ o->h'.get? c=θ o) (e:h'.get? b=θ g) (J:∀ v,g.data≠.cell v) (M:X.tn<=t') :
  Inv X (af++(b,g)::u) σ H { s with heap:=h',toks:=t' }:=by
 have hn:=(I.pin (b,ob) (by simp)).2.1;have L:Inv X (af++u) σ H s:=I.pins_of fun p r=>I.pin p (by
  rcases By.mp r with z|z
  .simp [z]
  .simp [z])
 have C:=L.turned (t':=t') (h':=h') (it:=b) k hn R.1 R.2.2.1 R.2.2.2.1 (fun p r=>by
  rcases By.mp r with z|z
  .exact R.2.2.2.2 p (abh _ z)
  .rcases By.mp z with z|z
   .exact R.2.2.2.2 p (aaM _ z)
   .exact hb p z) M
 refine C.pins_of fun p r=>?_;rcases By.mp r with z|z
 .exact C.pin p (by simp [z])
 .rcases mK.mp z with rfl|z
  .exact ⟨e,hn,R.1,R.2.1,J⟩
  .exact C.pin p (by simp [z])
def Inv.swap2 {p q:aa3×Obj} (I:Inv X (af++[p,q]) σ H s):Inv X (af++[q,p]) σ H s:=I.pins_of fun z hz=>I.pin z (by
 rcases By.mp hz with y|y
 .simp [y]
 .simp at y;rcases y with rfl|rfl <;> simp)
theorem HL {mg:afS} {q x:Str} {φ:FE} {f c l it S:aa3} {fo:Obj} {as:afT} {Z:Hp} {xs:afV} {ds:afW} {dres:D} {R:Result->DO->Prop} (ho:wR o) (L:LamD X mg q params body sc x φ) (hφ:∀ d∈ds,∀ k,CA d=θ k->∃ kd,φ [θ d]=.ok kd/\bx kd=θ k/\aaP k=ζ)
  (hr:Room (k+1) X.A.in1) (hf:Z f=θ (.frz fo (.own f))) (la:LamAt Z q params body sc c fo) (hl:Z l=θ (.lst xs)) (dn:aN X.K (aD as Z) ds xs) (has:∀ b∈as,Z b≠ξ)
  (hh:X.A.handled=ξ) (RS:E9 X af S) (RI:E9 X af it) (hSI:S≠it) (hlI:l≠it)
  (hR:∀ v u H' s',Inv X af σ H' s'->aw Z H'->aX v u->b9 X.K (aD as H') dres v->R (.ok (.ret u)) s') :
  ∀ (r:afW) (j:Nat) (H:Hp) (s:DO) (g:afU) (b:Option (D×ab7)) (n:Nat) (io:Obj),ds.drop j=r->j<=ds.length->aw Z H->Inv X (af++[(S,abC "list" g.toArray n),(it,io)]) σ H s->s.heap.IsListIter it l j->E8 X.K (aD as H) g b->WS o b r=θ dres ->
   adt (aaV X.prog X.w) X.A (.builtin (wF o++".loop") ⟨[.ref it,.ref f,.ref S],[]⟩) R s:=by
 intro r;have Eo:=ET ho;have hu2:X.A.in1.units+64 < adu:=Nat.lt_of_le_of_lt (by lia) hr.un;induction r with
 | nil =>
  intro j H s g b n io hd hj sm I hit hb hm;cases b with
  | none=>cases hm
  | some q =>
   obtain ⟨d,k⟩:=q
   match g,hb with
   | [vb,kb],⟨xb,xk,dk,h1,h2,_⟩ =>
    cases hm;have lS:=I.pin (S,abC "list" [vb,kb].toArray n) (by simp);obtain ⟨_,its,n2,ri,hil,el⟩:=I.lstM (sm _ _ hl);have M:j=its.length:=by
     have:=afN afA hd
     rw [acu,adp] at this;rw [<- hil,<- dn.len];lia
    refine codeAny_builtin Eo.1 ?_;rw [acC Eo.2 _];refine K5 (m:=X.tn) I.tk ho lS.1 (fun Q E h=>(afk (prog:=X.prog) (w:=X.w) (A:=X.A.in1) hh it l hlI its.toArray).done s Q E ⟨by rw [aaY,<- M];exact hit,⟨_,el,rfl,_,rfl⟩⟩ fun h' tk hk=>h h' tk hk) hSI fun h' tk ht hk=>?_;have nS:=lS.2.1;have nI:=(I.pin (it,io) (by simp)).2.1;have I1:=I.unpinned.turned (t':=tk) (h':=h') (it:=it) (fun b o hb e=>hk b o (by simpa using hb) e) nI RI.1 RI.2.2.1 RI.2.2.2.1 RI.2.2.2.2 ht;have I2:=I1.turned (t':=tk) (h':=h'.update S (abe fun _=>(#[]:Array oR))) (it:=S) (fun b o hb e=>(ab5 _ _ (acR hb)).trans e) nS RS.1 RS.2.2.1 RS.2.2.2.1 RS.2.2.2.2 ht;exact hR xb vb H _ I2 sm h1 h2
 | cons d r ih =>
  intro j H s g b n io hd hj sm I hit hb hm;have lS:=I.pin (S,abC "list" g.toArray n) (by simp);have lI:=I.pin (it,io) (by simp);obtain ⟨_,its,n2,ri,hil,el⟩:=I.lstM (sm _ _ hl);have hjd:ds[j]?=θ d:=by
   have:=afN (fun l=>l[0]?) hd
   simpa using this
  have hd':ds.drop (j+1)=r:=by rw [<- List.drop_drop,hd];rfl
  have M:j < ds.length:=(aaW.mp hjd).1;obtain ⟨v,hv,dv⟩:=dn.get hjd;obtain ⟨u,hu,ru⟩:=ri.get hv;have smk:aw (aD as Z) (aD as H):=aJ sm;have Y:∃ k,CA d=θ k:=by
   cases b with
   | none=>obtain ⟨k,e,_⟩:=bY.mp hm;exact ⟨k,e⟩
   | some q=>obtain ⟨k,e,_⟩:=bY.mp (show ((CA d).bind fun j=>_)=θ dres from hm);exact ⟨k,e⟩
  obtain ⟨ky,Y⟩:=Y;obtain ⟨kd,hkd,hpy,hsh⟩:=hφ d (aaZ hjd) ky Y;have hold:g=[]\/∃ vb kb,g=[vb,kb]:=by
   unfold E8 at hb;split at hb
   .exact .inl rfl
   .exact .inr ⟨_,_,rfl⟩
   .exact hb.elim
  have nx:∀ (Q:Option oR->DO->Prop) (E:afR),(∀ (h':acV) (tk:Nat),(∀ b o,b∉[it]->s.heap.get? b=θ o->h'.get? b=θ o)->h'.IsListIter it l (j+1)->Q (θ u) { s with heap:=h',toks:=tk })->aaN (aaV X.prog X.w) X.A.in1 (pyNext (.ref it)) Q E s:=fun Q E h =>
   (afk (prog:=X.prog) (w:=X.w) (A:=X.A.in1) hh it l hlI its.toArray).item j s Q E (by rw [aaY,<- hil,<- dn.len];exact M) ⟨hit,⟨_,el,rfl,_,rfl⟩⟩ fun v' h' tk hP hst hk=>by
    have hP:its.toArray[j]?=θ v':=hP;rw [List.getElem?_toArray,hu] at hP;cases hP;exact h h' tk hk hst.1
  refine codeAny_builtin Eo.1 ?_;rw [acC Eo.2 _];refine Kb (m:=X.tn) I.tk ho lS.1 nx (fun h' tk ht hk hi E=>?_) hold;obtain ⟨J,e1,e2,e3⟩:=id hi;have I1:Inv X (af++[(it,J),(S,abC "list" g.toArray n)]) σ H { s with heap:=h',toks:=tk }:=I.swap2.turn1 RI (by simpa using hSI) (fun b o hb e=>hk b o (by simpa using hb) e) e1 (fun v z=>by rw [e3] at z;cases z) ht;refine F3 L I1 (I1.hok f _ (sm _ _ hf)).1 (la.mono sm) hr (fun b hb=>?_) ru (dv.mono smk) hkd fun v' k H2 s2 I2 s12 rk dk=>?_
  .cases e:Z b with
   | none=>exact absurd e (has b hb)
   | some o=>rw [sm b o e];simp
  have sm2:=sm.trans s12;have lS2:=I2.pin (S,abC "list" g.toArray n) (by simp);have lI2:=I2.pin (it,J) (by simp);have hit2:s2.heap.IsListIter it l (j+1):=⟨J,lI2.1,e2,e3⟩;have quiet:Code.quiet (.builtin (wF o++".loop") ⟨[.ref it,.ref f,.ref S],[]⟩)=ζ:=plainId_quiet Eo.2 _
  have new:∀ (C:rC o d ky r=θ dres),adt (aaV X.prog X.w) X.A (.builtin (wF o++".loop") ⟨[.ref it,.ref f,.ref S],[]⟩) R { s2 with heap:=s2.heap.update S (abe fun _=>#[u,k]) }:=fun C=>by
   obtain ⟨c2,hc2⟩:∃ c2,(s2.heap.update S (abe fun _=>#[u,k])).get? S=θ (abC "list" #[u,k] c2):=⟨_,get?_update_seq lS2.1 fun _=>#[u,k]⟩;have I3:Inv X (af++[(S,abC "list" [u,k].toArray c2),(it,J)]) σ H2 { s2 with heap:=s2.heap.update S (abe fun _=>#[u,k]) }:=I2.swap2.turn1 (t':=s2.toks) RS (by simpa using acR hSI) (fun b o hb e=>(ab5 _ _ (acR hb)).trans e) hc2 (fun v z=>by cases z) I2.tk;exact ih (j+1) H2 _ [u,k] (θ (d,ky)) c2 J hd' M sm2 I3 ⟨J,(ab5 _ _ hSI).trans lI2.1,e2,e3⟩ ⟨v,v',kd,ru,dv.mono (aJ sm2),rk,dk,hpy,hsh⟩ C
  rcases hold with rfl|⟨vb,vk,rfl⟩
  .cases b with
   | none =>
    obtain ⟨k',e,C⟩:=bY.mp hm;rw [Y] at e;cases e;exact ⟨n,lS2.1,quiet,new C⟩
   | some q=>exact hb.elim
  .cases b with
   | none=>exact hb.elim
   | some q =>
    obtain ⟨db,kb⟩:=q;obtain ⟨xb,xk,dkb,h1,h2,h3,h4,h5,h6⟩:=hb;have hm2:rC o db kb (d::r)=θ dres:=hm;rw [rC,Y,acf] at hm2;obtain ⟨bb,e,C⟩:=bY.mp hm2;obtain ⟨as1,ra⟩:=cR I2 (dk.mono (ar _ _)) rk hpy;obtain ⟨as2,rb⟩:=cR I2 (h4.mono ((ar _ _).trans s12)) h3 h5;have cp:=LU.qz o ky kb X.A.in1 s2 k vk as1 as2 bb ra rb (ab6 hsh) (ab6 h6) e (SeqAt.room_of_shaped hsh hu2);cases bb with
    | true=>exact ⟨ζ,n,cp,lS2.1,quiet,new C⟩
    | false=>exact ⟨η,n,cp,lS2.1,quiet,ih (j+1) H2 s2 [vb,vk] (θ (db,kb)) n J hd' M sm2 I2.swap2 hit2 ⟨xb,xk,dkb,h1,h2.mono (aJ s12),h3,h4.mono (aJ s12),h5,h6⟩ C⟩
end
section
variable {σ:St} {s:DO} {params:Arguments} {body:abu} {sc:Scope}
theorem Jr {mg:afS} {q x:Str} {φ:FE} {f c l:aa3} {fo:Obj} {as:afT} {H:Hp} {xs:afV} {M:D} {ds:afW} {g:D} {Q:VK} {E:afR} (ho:wR o) (L:LamD X mg q params body sc x φ) (hφ:∀ d∈M::ds,∀ k,CA d=θ k->∃ kd,φ [θ d]=.ok kd/\bx kd=θ k/\aaP k=ζ)
  (hr:Room (k+1) X.A.in1) (I:Inv X af σ H s) (hf:H f=θ (.frz fo (.own f))) (la:LamAt H q params body sc c fo) (hl:H l=θ (.lst xs)) (dn:aN X.K (aD as H) (M::ds) xs) (has:∀ b∈as,H b≠ξ)
  (hh:X.A.handled=ξ) (hm:WS o ξ (M::ds)=θ g) (h:∀ v H',aw H H'->b9 X.K (aD as H') g v->Q v H') :
  aaN (aaV X.prog X.w) X.A (call (.builtin (wF o)) [.ref l] [(IF "key",.ref f)]) (EP X af σ Q) E s:=by
 obtain ⟨_,its,n,ri,hil,el⟩:=I.lstM hl;have J:s.heap.IsList l its.toArray:=⟨_,el,rfl,_,rfl⟩;have Z:=ID el;have hlI:l≠s.heap.objs.size:=aa0 Z;have hS:(s.heap.push { cls:=.type "list_iterator",data:=.fields #[.ref l,.int 0 0] }).objs.size=s.heap.objs.size+1:=size_push' ..;have I1:=I.kept (h':=(s.heap.push { cls:=.type "list_iterator",data:=.fields #[.ref l,.int 0 0] }).push (abC "list" #[] 0)) (t':=s.toks) (fun _ _ e=>eQ _ (eQ _ e)) I.tk;have gI:((s.heap.push { cls:=.type "list_iterator",data:=.fields #[.ref l,.int 0 0] }).push (abC "list" #[] 0)).get? s.heap.objs.size=θ { cls:=.type "list_iterator",data:=.fields #[.ref l,.int 0 0] } :=
  eQ _ (Do _ rfl)
 have gS:((s.heap.push { cls:=.type "list_iterator",data:=.fields #[.ref l,.int 0 0] }).push (abC "list" #[] 0)).get? (s.heap.push { cls:=.type "list_iterator",data:=.fields #[.ref l,.int 0 0] }).objs.size=θ (abC "list" #[] 0):=Do _ rfl;have nI:H s.heap.objs.size=ξ:=I.hok.fresh (nE _);have nS:H (s.heap.push { cls:=.type "list_iterator",data:=.fields #[.ref l,.int 0 0] }).objs.size=ξ:=I.hok.fresh (by rw [hS];exact adB _);have RI:=(I.fpOk (H':=H) (nE _) nI).2;have RS:=(I.fpOk (H':=H) (b:=(s.heap.push { cls:=.type "list_iterator",data:=.fields #[.ref l,.int 0 0] }).objs.size) (by rw [hS];exact adB _) nS).2;have hSI:(s.heap.push { cls:=.type "list_iterator",data:=.fields #[.ref l,.int 0 0] }).objs.size≠s.heap.objs.size:=by rw [hS];exact adI (adg _)
 have I2:Inv X (af++[((s.heap.push { cls:=.type "list_iterator",data:=.fields #[.ref l,.int 0 0] }).objs.size,abC "list" ([]:afU).toArray 0),(s.heap.objs.size,{ cls:=.type "list_iterator",data:=.fields #[.ref l,.int 0 0] })]) σ H _:=I1.pins_of fun p C=>by
  rcases By.mp C with C|C
  .exact I1.pin p (aaM _ C)
  .rcases mK.mp C with rfl|C
   .exact ⟨gS,nS,RS.1,RS.2.1,fun v z=>by cases z⟩
   .obtain rfl:p=_:=by simpa using C
    exact ⟨gI,nI,RI.1,RI.2.1,fun v z=>by cases z⟩
 have lp:=HL (R:=fun r Y=>match r with|.ok (.ret v)=>EP X af σ Q v Y|.ok _=>False|.error e=>E e Y) ho L hφ hr hf la hl dn has hh RS RI hSI hlI (fun v u H' Y I' sm rv dv=>⟨v,H',I',rv,h v H' sm dv⟩) (M::ds) 0 H _ [] ξ 0 _ rfl (aaQ _) (aw.refl _) I2 ⟨_,gI,rfl,rfl⟩ trivial hm
 rcases ho with rfl|rfl
 .refine kmk_tree PySem.F.kind_max PySem.F.plain_max PySem.F.entry_max (kmk_max_key _ _) ?_;show aaN _ X.A.in1 (aco "max" ["key","default"] 0 ⟨[],[(IF "key",.ref f)]⟩ >>= _) _ _ s;refine dO (ae2 (show aco "max" ["key","default"] 0 ⟨[],[(IF "key",.ref f)]⟩=pure [θ (.ref f),ξ] from rfl) ?_);refine dO (rW (dO (wpAny_pyIter_list J (dO (wpAny_newList ?_ (aaQ _))))));exact rW ⟨plainId_quiet aew _,lp⟩
 .refine kmk_tree PySem.F.kind_min PySem.F.plain_min PySem.F.entry_min (kmk_min_key _ _) ?_;show aaN _ X.A.in1 (aco "min" ["key","default"] 0 ⟨[],[(IF "key",.ref f)]⟩ >>= _) _ _ s;refine dO (ae2 (show aco "min" ["key","default"] 0 ⟨[],[(IF "key",.ref f)]⟩=pure [θ (.ref f),ξ] from rfl) ?_);refine dO (rW (dO (wpAny_pyIter_list J (dO (wpAny_newList ?_ (aaQ _))))));exact rW ⟨plainId_quiet aex _,lp⟩
end
theorem Zv {K:aT} {params:Arguments} {body:abu} {sc:Scope} {p p1 p3 lp pos:Pos} (Y:wR o) (hi:i∈O) (L:LamD X mg (X.env.qual++"<lambda>") params body sc x φ) (hφ:∀ d k,CA d=θ k->∃ kd,φ [θ d]=.ok kd/\bx kd=θ k/\aaP k=ζ)
  (hc:X.env.code=.ref c) (hC:acs X.K c P=ζ) (hP:∀ H,JC X.K H->H P=θ (.tbl (X.env.qual++"<lambda>"))) (hB:xV X.K=ζ) (hcl:closureFor sc X.env=pure []) (M:defaultsOf params X.env=([],[]))
  (hr:Room k X.A) (hk:2<=k) (hm:X.mg (IF (wF o))=ξ) (hg:Gl X (IF (wF o))) (hN:X.N[i]?=θ y) (hv:oy X.env.scope y) (hd:(y==("__debug__":Str))=η) (hcd:(y==("__classdict__":Str))=η) (hK:X.K=K:=by rfl) :
  JE X (.Call (.Name (IF (wF o)) p) [.Name y p1] [⟨θ "key",.Lambda params body sc lp,p3⟩] pos) (tD ⟨K,mg,E0⟩ O (aj (Hz o) (aa (ae i) ag))):=by
 subst hK;refine ⟨fun af s σ H Q I h=>?_⟩;obtain ⟨as0,B,own,U,J,h⟩:=h;obtain ⟨a,ha⟩:=b6 J.olen hi;obtain ⟨d,ob,h1,h2,h3,h4⟩:=J.owns i a ha;have hv':ae i U=.ok d:=by unfold ae;rw [h1]
 have h':cq ⟨X.K,mg,E0⟩ (own++as0) H (Hz o [d]) Q:=by
  have e:aj (Hz o) (aa (ae i) ag) U=Hz o [d]:=by unfold aj aa ag;rw [hv'];rfl
  rw [<- e];exact h
 have hbv:MK (IF (wF o))=θ (.builtin (wF o)):=by
  rcases Y with rfl|rfl
  .exact NB
  .exact P9
 refine abm (g8 I hg hm hbv ?_ (by rcases Y with rfl|rfl <;> decide) (by rcases Y with rfl|rfl <;> decide));have hA:PA X [.Name y p1] (qI (Oi i) xi):=Ab (w9 hN hv hd hcd) FF;refine callWith_kw (bT (hA pos af s σ H (fun vs H1=>vs=[.ref a]/\H1=H) I ⟨_,h2,rfl,rfl⟩) fun us s1 ⟨vs,H1,I1,r,e1,e2⟩ =>
  bT (yU (nm:=θ "key") (kpos:=p3) (EI (pos:=lp) hc hC hP hB hcl M) F8 pos af s1 σ H1 (fun zs g=>∃ f c z,zs=[.ref f]/\aw H1 g/\g f=θ (.frz z (.own f))/\LamAt g (X.env.qual++"<lambda>") params body sc c z) I1 fun f c z g u hf Z=>⟨f,c,z,rfl,u,hf,Z⟩) fun ws s2 ⟨zs,g,I2,rz,f,c',z,e3,u,hf,Z⟩=>?_) (by rfl) ?_ rfl rfl
 .subst e1 e2 e3;obtain ⟨w0,rfl,rw0⟩:=rz.one;cases rw0;obtain ⟨u0,rfl,ru⟩:=r.one;cases ru;cases d with
  | lst l =>
   cases l with
   | nil=>exact h'.elim
   | cons d0 C =>
    obtain ⟨xs,rfl,dn⟩:=h4;have h2:cq ⟨X.K,mg,E0⟩ (own++as0) H1 (match WS o ξ (d0::C) with|some x=>.ok x|none=>.no) Q:=h'
    cases hx:WS o ξ (d0::C) with
    | none=>rw [hx] at h2;exact h2.elim
    | some x =>
     rw [hx] at h2;have exi:∀ b∈own++as0,g b≠ξ:=(J.mono u).exi;exact Jr (k:=0) Y L (fun d _ k e=>hφ d k e) ⟨hr.hd,by have:=hr.dp;show X.A.depth+3*(0+1)+5 < _;lia,by have:=hr.un;show X.A.units+1+16*(0+1)+200 < _;lia⟩ I2 hf Z (u _ _ h3) (dn.mono (aJ u)) exi hr.hd hx fun v H' s' dv=>h2 v H' (u.trans s') dv
  | _=>first|exact h4.elim|exact h'.elim
 .rfl
def Ji (K:aT) (n:Bool):R2:=fun x y H Q=>∃ p a ds xs k,y=.ref p/\e8 K H p xs/\b9 K H a x/\aN K H ds xs/\hZ a ds=θ k/\Q (.bl (if n=ζ then !k else k)) H
section
variable {X:Cx} {W:Wd}
theorem Lf (K:aT) (C:X.A.units+64 < adu) (M:X.K=K:=by rfl):cD X (aa1 (if n=ζ then .NotIn else .In)) (Ji K n):=by
 subst M;intro af s σ H x y v u Q I J Z h;obtain ⟨p,a,ds,xs,k,rfl,hl,da,Y,e,q⟩:=h;cases Z;obtain ⟨g,ps,h1,h2,h3,L⟩:=GI e;let ⟨as,ra⟩:=cR I da J h1
 let ⟨its,r,pl,hz⟩:=I.list hl
 let ⟨i1,i2⟩:=pj I C ra h3 Y r h2 L
 have z:its.toArray.any (ln s g)=k:=by rw [<- i2];simp
 cases n with
 | true=>exact ae8 (ln s g) pl.isList (fun y hy=>i1 y (by simpa using hy)) ⟨.bl (!k),H,I,by rw [z];rfl,q⟩
 | false=>exact SeqAt.in_listAt (ln s g) pl.isList (fun y hy=>i1 y (by simpa using hy)) ⟨.bl k,H,I,by rw [z];rfl,q⟩
theorem SR (K:aT) (hW:W.K=K:=by rfl):jm W (Ji K n) (fun x y=>d7 (A1 x y) fun k=>if n=ζ then !k else k):=by
 subst hW;intro as H x y a b Q hn r g h;dsimp only at h;cases e:A1 a b with
 | none=>rw [e] at h;exact h.elim
 | some k =>
  rw [e] at h;have fin:=aH h rfl;cases b with
  | lst ds =>
   obtain ⟨p,xs,rfl,h1,h2⟩:=g;exact ⟨p,a,_,xs,k,rfl,(ar _ _).seq h1,r.mono (ar _ _),h2.mono (ar _ _),e,fin⟩
  | _=>cases e
def MU (K:aT) (hW:W.K=K:=by rfl):jm W (Ji K η) xL:=SR (n:=η) K hW
def MB (K:aT) (hW:W.K=K:=by rfl):jm W (Ji K ζ) n9:=SR (n:=ζ) K hW
end
def Mv (l:afP):abu->Bool
 | .Subscript (.Name x _) _ _=>!l.contains x
 | .Subscript ..=>ζ
 | _=>η
def uN:afT->Bool
 | []=>ζ
 | a::r=>!r.contains a&&uN r
theorem uY:∀ {l:afT},uN l=ζ->l.Nodup
 | [],_=>abG
 | a::r,h=>by
  unfold uN at h;rw [Pi] at h;exact aa4.mpr ⟨by simpa using h.1,uY h.2⟩
def Kx {β:Type} {x:aa3×β} {l:List (aa3×β)} (hn:(l.map (·.1)).Nodup) (h:x∈l):l.lookup x.1=θ x.2:=by
 induction l with
 | nil=>cases h
 | cons y r g =>
  rw [GE,aa4] at hn;rcases mK.mp h with rfl|h
  .simp [acz]
  .have n:x.1≠y.1:=fun z=>hn.1 (z ▸ acN h);rw [acz,show (x.1==y.1)=η from by simpa using n];exact g hn.2 h
def LV (C:String):Fm:=fun sc N O e=>(cN e).bind fun q=>match q.2 with
 | [.Name x _,.Name y _]=>if q.1="isinstance"/\y=IF C/\wC sc "isinstance"=ζ/\wC sc (IF C)=ζ then (W0 sc N O x).map fun i=>([],fun _=>aj fR (aa (ae i) (aa (vC (.ty C)) ag))) else ξ
 | _=>ξ
theorem DC {C:String} (v:X.mg "isinstance"=ξ) (L:X.mg (IF C)=ξ) (J:MK (IF C)=θ (.type C)) (g:(IF C)≠"__name__") (hW:W.K=X.K):cQ X W (LV C):=fun O e es b z h M=>by
 replace h:=bY.mp h
 obtain ⟨q,h1,h⟩:=h;obtain ⟨p,pos,rfl⟩:=sF h1;split at h
 .rename_i x p1 y p2 e1;split at h
  .rename_i hq;obtain ⟨h2,rfl,I,r⟩:=hq;obtain ⟨i,u,h⟩:=iF.mp h;cases h;obtain ⟨a,b,c,d,f⟩:=wI u;rw [h2,e1];exact PZ X.K b v (Te L J (b7 r).1 g (b7 r).2) a (b7 I).1 c d f rfl rfl hW
  .cases h
 .cases h
def U4:Fs:=fun sc N O s=>(xE s).bind fun e=>(cM e).bind fun q=>if q.2.1="clear"/\q.2.2.isEmpty=ζ then (oN sc N O q.1).map fun i=>([],fun _=>qd i) else ξ
theorem IM (hW:W.K=X.K):qw X W U4:=fun Ob O s es b g h M=>by
 replace h:=bY.mp h
 obtain ⟨e,v,h⟩:=h;obtain ⟨_,rfl⟩:=Fk v
 replace h:=bY.mp h
 obtain ⟨⟨o,f,r⟩,h1,h⟩:=h;obtain ⟨apos,cpos,rfl,h2⟩:=vL h1;split at h
 .rename_i hq;obtain ⟨i,J,h⟩:=iF.mp h;cases h;obtain ⟨x,p,rfl,I,C,z,L,u⟩:=rQ J;obtain ⟨rfl,hr⟩:=hq;have hr:r=[]:=by simpa using hr
  subst hr;exact Hq C I h2 z L u rfl rfl hW
 .cases h
noncomputable def aaK:abu->Option Str
 | .Lambda pr bd sc _=>match pr,bd with
  | ⟨[],[a],ξ,[],[],ξ,[]⟩,.Subscript (.Name y _) (.Slice ξ (θ (.Constant (.int 2) _ _)) ξ _) _=>if a.1=y/\sc.names=[(y,.local)]/\sc.kind=.function/\sc.isCoroutine=η/\sc.isGenerator=η/\(y==("__debug__":Str))=η/\(y==("__classdict__":Str))=η then θ y else ξ
  | _,_=>ξ
 | _=>ξ
def Z4:FE:=lh rl (ae 0) cO (bI (vC (.int 2)))
theorem Nx (h:CA d=θ k):∃ kd,Z4 [θ d]=.ok kd/\bx kd=θ k/\aaP k=ζ:=by
 unfold CA at h;split at h
 .rename_i a b r;obtain ⟨p,h1,h2⟩:=bY.mp h;split at h2
  .rename_i hs;cases h2;refine ⟨.tup [a,b],?_,h1,hs⟩;show rl (.tup (a::b::r)) ξ (θ 2)=_;unfold rl ib HT.sIx;simp
  .cases h2
 .cases h
theorem SH (a:Arg) (q:Str) (bd:abu) (sc:Scope) (r g v u:oR):bindArgs (ad9 "<lambda>" q ⟨[],[a],ξ,[],[],ξ,[]⟩ bd sc [] r g v) ⟨[u],[]⟩=pure [(a.arg,u)]:=by
 unfold bindArgs;simp [ad9,acz,seqItems?];rfl
def WM (o:LU.Or):Fm:=fun sc N O e=>match e with
 | .Call (.Name f _) [.Name y _] [⟨θ k,l,_⟩] _=>if f=IF (wF o)/\k="key"/\wC sc f=ζ/\(aaK l).isSome=ζ then (W0 sc N O y).map fun i=>([],fun _=>aj (Hz o) (aa (ae i) ag)) else ξ
 | _=>ξ
theorem EN {mg:afS} (Y:wR o) (hm:X.mg (IF (wF o))=ξ) (hB:xV X.K=ζ) (hr:Room k X.A) (hk:2<=k) (hc:∃ (c P:aa3) (q:Str),X.env.code=.ref c/\X.env.qual=q++".<locals>."/\acs X.K c P=ζ/\∀ H,JC X.K H->H P=θ (.tbl (q++".<locals>."++"<lambda>"))):cQ X ⟨X.K,mg,E0⟩ (WM o):=fun O e es b φs h hJ=>by
 obtain ⟨c,P,q,v,I,J,C⟩:=hc;unfold WM at h;split at h
 .rename_i f p y p1 kk l p3 pos;split at h
  .rename_i hq;obtain ⟨rfl,rfl,hg,hl⟩:=hq;obtain ⟨i,hi,h⟩:=iF.mp h;cases h;obtain ⟨h1,h2,h3,h4,h5⟩:=wI hi;unfold aaK at hl;split at hl
   .rename_i pr bd sc lp;split at hl
    .rename_i a y' p4 _ _ p5 p6;split at hl
     .rename_i hz;obtain ⟨rfl,r,z3,Z,z5,z6,z7⟩:=hz;have g:sc.names.lookup a.1=θ .local:=by rw [r];simp [acz]
      have M:closureFor sc X.env=pure []:=by
       rw [fX fun y hy e=>?_,r]
       .rfl
       .rw [r] at hy;obtain rfl:y=_:=by simpa using hy
        cases e
      refine Zv (φ:=Z4) (x:=a.1) (k:=k) Y h2 ⟨⟨z3,Z,z5,by simp,rfl,fun x hx=>?_,fun y hy=>?_⟩,fun u pm cv ct=>SH a _ _ _ pm cv ct u,fun f c A L s H=>?_⟩ (fun d k e=>Nx e) v J (by rw [I];exact C) hB M rfl hr hk hm (b7 hg).1 h1 h3 h4 h5
      .obtain rfl:x=a.1:=by simpa using hx
       exact .inl g
      .rw [r] at hy;obtain rfl:y=_:=by simpa using hy
       exact fun z=>by cases z
      .exact mj (V8 _) (Uq _) (Mj 0 (by simp) rfl (.inl g) z6 z7) lJ (lM Mu)
     .cases hl
    .cases hl
   .cases hl
  .cases h
 .cases h
end L2
namespace T71
open PySem L2
def cH (i:Nat):ac2:=PySem.Challenge.pw_tablestore_k71_bounds_and_ways.main.body.getD i (.Pass ⟨0,0,0,0⟩)
def nN (i:Nat):afP:=((aY (cH i)).names.filter fun q=>q.2==.local||q.2==.cell).map (·.1)
def rD (φ:FS) (p n:Nat):afW->R D:=vt φ (adb n "") (adb p "")
def j3:D:=(.tup [(.str "none"),(.str "number"),(.str "text")])
def lX:D:=(.int 40)
def ip:List (Str×D):=[("=",(.str "=")),("<>",(.str "<>")),("<",(.str ">")),("<=",(.str ">=")),(">",(.str "<")),(">=",(.str "<="))]
def dM:D:=(.tup [(.str "="),(.str ">"),(.str ">=")])
def eD:D:=(.tup [(.str "="),(.str "<"),(.str "<=")])
def pB:D:=(.int 4)
def p9:D:=(.int 8)
def gW:D:=(.int 1000000000)
noncomputable def i6:D:=(.tup [(.str "and"),(.str "by"),(.str "down"),(.str "from"),(.str "none"),(.str "not"),(.str "or"),(.str "order"),(.str "show"),(.str "take"),(.str "where")])
def jt:D:=(.tup [(.str "number"),(.str "text")])
def gn:D:=(.int 8)
def jG:D:=(.int 8)
def gY:List (Str×D):=[("table",(.int 2)),("index",(.int 3)),("put",(.int 4)),("drop",(.int 3))]
abbrev uS:FE:=aj bP (aa (ae 0) ag)
abbrev CT:FE:=aj fR (aa (ae 0) (aa (vC (.ty "str")) ag))
abbrev BO:FE:=ak vV (vC (.int 10)) (vC (.int 18))
abbrev yD:FE:=ak AW (ae 0) (vC .non)
abbrev RO:FE:=aj fR (aa (ae 0) (aa (vC (.ty "bool")) ag))
abbrev Vf:FE:=aj fR (aa (ae 0) (aa (vC (.ty "int")) ag))
abbrev yP:FE:=xG ut (vC (.int 1))
abbrev VZ:FE:=ak bD (ae 0) (ae 1)
abbrev pX:FE:=aj bP (aa (ae 1) ag)
abbrev Uh:FS:=bj 3 (aO (aa (ae 0) (aa (aj gp (aa (lh rl (ae 1) (bI (ae 5)) (bI (ae 6))) ag)) ag)))
abbrev LS:FS:=az 5 (ak bX (ak gE (ae 4) pX) (ae 2))
abbrev sG:FE:=ak aE (ae 0) (vC (.int 0))
abbrev Yh:FS:=bz (aZ yD) (aM (bE ag)) ay
abbrev oI:FE:=ak aE (ae 0) (vC (.int 1))
abbrev O5:FT:=aZ (ak bD sG (vC (.str "leaf")))
abbrev Sq:FE:=ak aE (ae 3) (vC (.int 1))
abbrev Ny:FE:=ak aE (ae 3) (vC (.int 0))
abbrev R3:FT:=aZ (ak bD (ae 1) (vC (.int 0)))
abbrev uM:FE:=ak aE (ae 1) (vC (.int 1))
abbrev Hi:FE:=ak aE (ae 1) (vC (.int 0))
abbrev Iq:FE:=aO (aa (ae 1) (aa (ae 2) ag))
abbrev Gw:FE:=ak aE (ae 4) (vC (.int 1))
abbrev Op:FE:=aj fR (aa (ae 0) (aa (vC (.ty "tuple")) ag))
abbrev Ut:FT:=kQ (d6 (cx (aj fR (aa (ae 1) (aa (vC (.ty "tuple")) ag))))) (aZ (ak fh pX (aj bP (aa (ae 2) ag))))
abbrev PJ:FE:=ak aE (ae 0) (vC (.int 2))
abbrev Wr:FE:=bE (aa (ae 0) ag)
abbrev Lm:FE:=ak aE (ae 2) (vC (.int 1))
abbrev Rz:FE:=ak aE (ae 2) (vC (.int 0))
abbrev Ft:FT:=aZ (ak fh (ae 0) (ae 1))
abbrev BI:FE:=ak bD (ae 1) (bE ag)
abbrev xY:FE:=np "Table" "rows" (ae 0)
abbrev E2:FE:=np "Table" "shape" (ae 0)
abbrev HR:FE:=np "Table" "indexes" (ae 0)
abbrev Tk:FT:=cx (aj fR (aa (ae 1) (aa (vC (.ty "str")) ag)))
abbrev FX:FE:=ak aE (ae 1) (vC (.int 2))
abbrev RT:FS:=ao (az 3 (ak bg (ak bq (ak bq (ak gE (ae 3) (vC (.int 48271))) (vC (.int 11))) (ae 4)) (vC (.int 2147483647)))) (bj 2 (ae 3))
abbrev A2:FE:=ak bg (ae 0) (vC (.int 6))
abbrev C6:FE:=ak gE (ae 0) (ae 0)
abbrev Wv:FE:=br [ξ,θ 2,θ 0] (cL (aa (ak bq (vC (.int 1)) A2) ag)) (.one 0) gc (ak aE (ae 1) (ak bg (ak bq (ak bX (ae 2) (vC (.int 7))) (ak gE C6 (vC (.int 5)))) (vC (.int 26))))
abbrev LF:FE:=ak bq (aj bP (aa (ae 3) ag)) (vC (.int 1))
abbrev Sn:FE:=ak kh (ak bg (ak gE C6 (vC (.int 48271))) (ak kh (ak gE (vC (.int 2)) BO) (vC (.int 1)))) (ak kh BO (vC (.int 1)))
abbrev El:FE:=ak bX (ae 0) (vC (.int 6))
abbrev Io:FE:=ak bD (ae 1) (vC (.str "text"))
abbrev T6:FE:=bE (aa (vC (.int 3)) (aa (vC (.int 3)) (aa (vC (.int 3)) (aa (vC (.int 8)) ag))))
abbrev Ii:FE:=ak aE (ae 1) (ae 0)
abbrev OE:FE:=ak bg (ak aE (ae 1) (vC (.int 10))) (vC (.int 3))
abbrev Vy:FE:=bE (aa (aO (aa (vC (.str "index")) (aa sG (aa (ak aE (ak aE oI (ak bg (ak aE (ae 1) (vC (.int 6))) (aj bP (aa oI ag)))) (vC (.int 0))) ag)))) ag)
abbrev NR:FE:=ak bD (ak bg (ak aE (ae 1) (vC (.int 5))) (vC (.int 2))) (vC (.int 0))
abbrev V9:FS:=bz (aZ (ak bD (ak bg (ak aE (ae 1) (vC (.int 14))) (vC (.int 3))) (vC (.int 0)))) (az 4 (ak WR (ae 4) yP)) ay
abbrev HP:FE:=ak aE (ae 3) (vC (.int 4))
abbrev RM:FS:=bj 6 (aO (aa (vC (.str "drop")) (aa sG (aa (ak aE (ak aE (ae 6) (vC (.int 0))) (vC (.int 2))) ag))))
abbrev S4:FE:=ak uT (aj bP (aa (ae 6) ag)) (vC (.int 2))
abbrev SZ:FT:=aZ (ak bD (ak bg (ak bX HP (ak bq (ae 0) (vC (.int 1)))) (vC (.int 3))) (vC (.int 0)))
abbrev RN:FT:=dc (aZ (ak fh (ae 6) (bE ag))) (aZ (ak uT OE (vC (.int 0))))
abbrev LJ:FE:=aO (aa (vC (.str "index")) (aa Rz (aa Hi ag)))
abbrev Ge:FE:=ak bD (ae 4) (bE ag)
abbrev Mt:FT:=dc (aZ S4) (aZ (ak bD OE (vC (.int 1))))
abbrev So:FE:=bE (aa (ak bq (ak bX (ae 0) (vC (.int 5))) (ak bg (ak aE (ae 5) (vC (.int 0))) (vC (.int 2)))) ag)
abbrev U1:FE:=ak bq (ak bX (ae 0) (vC (.int 3))) (ak gE (vC (.int 11)) (ae 4))
abbrev Lv:FE:=lh jn (ae 5) (bI (vC (.int 1))) cO
abbrev XY:FE:=ak aE (ae 2) (vC (.int 2))
abbrev Ly:FE:=aj bP (aa (ak aE (ae 1) (ae 2)) ag)
abbrev WJ:FE:=bE (aa (vC (.str "number")) (aa (vC (.str "text")) ag))
abbrev UW:FS:=az 3 (ak aE (bE (aa (vC (.str "=")) (aa (vC (.str "<>")) (aa (vC (.str "<")) (aa (vC (.str "<=")) (aa (vC (.str ">")) (aa (vC (.str ">=")) (aa (vC (.str "=")) (aa (vC (.str "=")) ag))))))))) (ak bg (ak bX (ae 0) (vC (.int 3))) (vC (.int 8))))
abbrev NS:FE:=ak bg (ak bX (ae 3) (vC (.int 11))) (vC (.int 5))
abbrev aaI:FS:=bz (aZ (ak AW (ae 2) (vC .non))) (az 2 (ae 4)) (bz (aZ (ak bD NS (vC (.int 0)))) (az 2 (aO (aa (vC (.str "or")) (aa (ae 2) (aa (ae 4) ag))))) (bz (aZ (ak bD NS (vC (.int 1)))) (az 2 (aO (aa (vC (.str "and")) (aa (ae 4) (aa (ae 2) ag))))) (bz (aZ (ak bD NS (vC (.int 2)))) (az 2 (aO (aa (vC (.str "or")) (aa (ae 4) (aa (ae 2) ag))))) (az 2 (aO (aa (vC (.str "and")) (aa (ae 2) (aa (ae 4) ag))))))))
abbrev Rp:FS:=bz (aZ (ak bD (ak bg (ak bX (ae 3) (vC (.int 7))) (vC (.int 6))) (vC (.int 0)))) (az 4 (aO (aa (vC (.str "not")) (aa (ae 4) ag)))) ay
abbrev UP:FT:=dc (aZ (ak uT uS (vC (.int 3)))) (aZ (ak bD (ak bg sG (vC (.int 3))) (vC (.int 0))))
abbrev R0:FE:=ak aE (ae 5) (vC (.int 1))
abbrev aaw:FE:=aO (aa (vC (.str "test")) (aa (vC (.str "=")) (aa (aO (aa (vC (.str "cell")) (aa (vC (.int 1)) (aa (ak bg (ak aE (ae 3) (vC (.int 21))) (aj bP (aa R0 ag))) ag)))) (aa (aO (aa (vC (.str "cell")) (aa (vC (.int 0)) (aa (ak bg (ak aE (ae 3) (vC (.int 22))) (aj bP (aa (ak aE (ae 5) (vC (.int 0))) ag))) ag)))) ag))))
abbrev VD:FT:=dc (aZ (ak bD (ae 2) (vC (.int 1)))) (aZ (ak bD (ak bg HP (vC (.int 2))) (vC (.int 0))))
abbrev Jd:FS:=az 6 (lh jn (ae 3) (bI (vC (.int 5))) (bI (ak bq (vC (.int 5)) (ak bg HP (vC (.int 5))))))
abbrev ES:FE:=aj bP (aa (ae 4) ag)
abbrev Se:FT:=dc (aZ (ak uT ES (vC (.int 1)))) (aZ (ak bD (ak bg (ak aE (ae 3) (vC (.int 20))) (vC (.int 2))) (vC (.int 0))))
abbrev Tv:FS:=bz Se (ao (az 8 aaw) (az 7 (ak aE (bE (aa (aO (aa (vC (.str "and")) (aa (ae 8) (aa (ae 7) ag)))) (aa (ae 8) ag))) (aj qB (aa (ak AW (ae 7) (vC .non)) ag))))) ay
abbrev Us:FS:=az 12 (aj gp (aa (br [ξ,θ 4] (cL (aa ES ag)) (.one 0) gc (aO (aa (ak aE Ii (vC (.int 0))) (aa (ak bq (lh jn (ak aE Ii (vC (.int 0))) cO (bI (vC (.int 1)))) (ak aE (vC (.str "abc")) (ae 0))) ag)))) ag))
abbrev Sz:FS:=az 11 (ak aE (bE (aa (vC .non) (aa (vC .non) (aa (ak bg (ak aE (ae 3) (vC (.int 19))) (vC (.int 4))) (aa (ak bg (ak aE (ae 3) (vC (.int 19))) (vC (.int 40))) ag))))) (ak bg (ak aE (ae 3) (vC (.int 18))) (vC (.int 4))))
abbrev RD:FS:=az 4 (br [ξ,θ 1] (cU (lh jn (ae 3) (bI (vC (.int 1))) (bI (ak bq (vC (.int 2)) (ak bg Ny (ae 2)))))) (.one 0) gc (ak aE (ae 1) (ak bg (ak bX (ae 0) (vC (.int 7))) pX)))
abbrev UD:FS:=az 5 (br [ξ] (cU (ae 4)) (.one 0) gc (br [ξ] (cU oI) (.one 0) gc oI))
def su:FS:=(aM (ga (ak BX (ae 0) (vC (.str " "))) (ak Cs (ae 0) (vC (.str "~")))))
def Bs:=rD su 1 1
def qa:FS:=(ao (bz (cx CT) (aM (ga (ak Cs uS (vC lX)) (aj ou (aa (br [ξ] (cU (ae 0)) (.one 0) gc (aj Bs (aa (ae 0) ag))) ag)))) ay) (ao (bz (dc (cx Vf) (d6 (cx RO))) (aM (ak vE (aj Lc (aa (ae 0) ag)) BO)) ay) (aM yD)))
def iR:=rD qa 1 1
def sS:FS:=(ao (bz (aZ yD) (aM (vC (.str "none"))) ay) (aM (Je (cx CT) (vC (.str "text")) (vC (.str "number")))))
def mR:=rD sS 1 1
abbrev CY:FE:=aj mR (aa (ae 0) ag)
abbrev OA:FE:=aj mR (aa (ae 1) ag)
abbrev Ux:FE:=ak vE (wT j3 (aa CY ag)) (wT j3 (aa OA ag))
def jT:FS:=(ao (bz (aZ (ak fh CY OA)) (aM (Je (aZ Ux) yP (vC (.int 1)))) ay) (ao (bz (aZ VZ) (aM (vC (.int 0))) ay) (aM (Je (aZ (ak vE (ae 0) (ae 1))) yP (vC (.int 1))))))
def j4:=rD jT 2 2
def BV (a0 a1:D):j4 [a0,a1]=fin (jT [θ a0,θ a1]):=rfl
def nG:FS:=(ao (bz (aZ yD) (aM (aO (aa (vC (.int 0)) (aa (vC (.int 0)) ag)))) ay) (aM (aO (aa (wT j3 (aa CY ag)) (aa (ae 0) ag)))))
def nZ:=rD nG 1 1
def qh:FS:=(aM (Je O5 (ak aE oI (vC (.int 0))) (ak aE (ak aE oI (vC (.int 0))) (vC (.int 0)))))
def kJ:=rD qh 1 1
def qG:FS:=(aM (br [ξ] (cU (ae 0)) (.one 0) gc (aO (aa (aj kJ (aa (ae 0) ag)) (aa (ae 0) ag)))))
def gq:=rD qG 1 1
abbrev Mh:FE:=aj gq (aa (ae 1) ag)
abbrev VL:FE:=ak jg (lh jn (ae 0) cO (bI (ae 3))) (aj gq (aa (ae 5) ag))
def qx:FS:=(aM (ak pM (ae 1) (ak aE (ak aE oI (ae 2)) (vC (.int 0)))))
def qU:=rD qx 3 3
def cZ:FS:=(ao (ff 2 (bE ag)) (ao (fK (cU (ae 0)) (.one 3) (bz (aZ (ak bD (ak aE (ae 3) (vC (.int 0))) (vC (.str "test")))) (ao (bz (dc (aZ (ak bD (ak aE (ae 3) (vC (.int 2))) (ae 1))) (aZ (ak bD (ak aE (ak aE (ae 3) (vC (.int 3))) (vC (.int 0))) (vC (.str "value"))))) (bj 2 (aO (aa (ak aE (ae 3) (vC (.int 1))) (aa (ak aE (ak aE (ae 3) (vC (.int 3))) (vC (.int 1))) ag)))) ay) (bz (dc (aZ (ak bD (ak aE (ae 3) (vC (.int 3))) (ae 1))) (aZ (ak bD (ak aE (ak aE (ae 3) (vC (.int 2))) (vC (.int 0))) (vC (.str "value"))))) (bj 2 (aO (aa (xG (Qr ip) (ak aE (ae 3) (vC (.int 1)))) (aa (ak aE (ak aE (ae 3) (vC (.int 2))) (vC (.int 1))) ag)))) ay)) ay)) (aM (ae 2))))
def eZ:=rD cZ 2 4
def m5 (a0 a1:D):eZ [a0,a1]=fin (cZ [θ a0,θ a1,ξ,ξ]):=rfl
def cz (bC:afW->R D):FS:=(ao Yh (ao (bz (aZ (ak bD sG (vC (.str "and")))) (aM (ak bq (aj bC (aa oI ag)) (aj bC (aa PJ ag)))) ay) (aM Wr)))
def bh:Nat->(afW->R D)
 | 0=>(fun _=>.no)
 | n+1=>rD (cz ((bh n))) 1 1
def bC:afW->R D:=(bh 100)
def fw:FS:=(ao (az 3 (aj j4 (aa (ak aE (ae 0) (vC (.int 0))) (aa (ak aE (ae 1) (vC (.int 0))) ag)))) (aM (CM (ak bD (ae 3) (ae 2)) (ga (ak bD (ae 3) (vC (.int 0))) (Ca (ak aE (ae 0) (vC (.int 1))))))))
def dl:=rD fw 3 4
def rM (a0 a1 a2:D):dl [a0,a1,a2]=fin (fw [θ a0,θ a1,θ a2,ξ]):=rfl
def gJ:FS:=(ao (az 3 (aO ag)) (ao (az 4 (aO ag)) (ao (fK (cU (aj eZ (aa (aj bC (aa (ak aE (ae 0) (vC (.int 2))) ag)) (aa (aO (aa (vC (.str "cell")) (aa (ae 1) (aa (ae 2) ag)))) ag)))) (.one 5) (ao (az 6 (aO (aa (ak aE (ae 5) (vC (.int 1))) (aa (ak rg (vC (.str "=")) (ak aE (ae 5) (vC (.int 0)))) ag)))) (ao (bz (dc (aZ (ak rg (ak aE (ae 5) (vC (.int 0))) (vC dM))) (kQ (aZ (ak bD (ae 3) (aO ag))) (cx (aj dl (aa (ae 6) (aa (ae 3) (aa (vC (.int 1)) ag))))))) (az 3 (ae 6)) ay) (bz (dc (aZ (ak rg (ak aE (ae 5) (vC (.int 0))) (vC eD))) (kQ (aZ (ak bD (ae 4) (aO ag))) (cx (aj dl (aa (ae 6) (aa (ae 4) (aa (xG ut (vC (.int 1))) ag))))))) (az 4 (ae 6)) ay)))) (aM (aO (aa (ae 3) (aa (ae 4) ag)))))))
def dQ:=rD gJ 3 7
def vD (a0 a1 a2:D):dQ [a0,a1,a2]=fin (gJ [θ a0,θ a1,θ a2,ξ,ξ,ξ,ξ]):=rfl
abbrev C5:afP:=["tree","state","k","table","found","place","column","bounds"]
abbrev Pm:afP:=["tree","state","k"]
def uD:FS:=(ao (az 3 (aj qU (aa (ae 0) (aa (ae 1) (aa (ae 2) ag))))) (ao (ff 4 (bE (aa (aO (aa (vC (.str "walk")) (aa (ae 2) ag))) ag))) (ao (fK (bL (aa (ak aE (np "Table" "shape" (ae 3)) (vC (.int 1))) ag)) (.tup [5,6]) (ao (az 7 (aj dQ (aa (ae 0) (aa (ae 2) (aa (ae 5) ag))))) (bz (dc (aZ (ak vg (ak aE (ae 6) (vC (.int 0))) (np "Table" "indexes" (ae 3)))) (aZ (ak fh (ae 7) (aO (aa (aO ag) (aa (aO ag) ag)))))) (bj 4 (aO (aa (vC (.str "seek")) (aa (ae 2) (aa (ae 5) (aa (ak aE (ae 7) (vC (.int 0))) (aa (ak aE (ae 7) (vC (.int 1))) ag))))))) ay))) (ql (ae 4)))))
def uL:afW->R D:=wx uD C5 Pm
def QM (a0 a1 a2:D):uL [a0,a1,a2]=Sx (uD [θ a0,θ a1,θ a2,ξ,ξ,ξ,ξ,ξ]):=rfl
def kA:FS:=(ao (az 2 (aj j4 (aa sG (aa Hi ag)))) (aM (CM (ak vE (ae 2) (vC (.int 0))) (ga (ak bD (ae 2) (vC (.int 0))) (ak vE oI uM)))))
def bF:=rD kA 2 3
abbrev VW:FT:=cx (aj bF (aa (ae 1) (aa (ae 0) ag)))
abbrev Wg:FT:=cx (aj bF (aa (ae 0) (aa (ae 1) ag)))
def fz:FS:=(aM (aO (aa (vC (.str "leaf")) (aa (aO ag) ag))))
def g9:=rD fz 0 0
def rK:g9 []=fin (fz []):=rfl
def ml:FS:=(ao (az 2 (vC (.int 0))) (ao (di (dc (aZ (ak vE (ak bq (ae 2) (vC (.int 1))) uS)) (d6 (cx (aj bF (aa (ae 1) (aa (ak aE (ak aE (ae 0) (ak bq (ae 2) (vC (.int 1)))) (vC (.int 0))) ag)))))) (lO 2 (vC (.int 1))) 1000) (aM (ae 2))))
def gf:=rD ml 2 3
abbrev TN:FE:=ak aE (ae 5) (aj gf (aa (ae 5) (aa (ae 3) ag)))
abbrev Vp:FS:=az 3 (aj gf (aa (ae 2) (aa (ae 1) ag)))
def nT:FS:=(ao (az 3 Iq) (ao (az 4 (ae 0)) (ao (di (aZ (ak bD (ak aE (ae 4) (vC (.int 0))) (vC (.str "branch")))) (ao (az 5 Gw) (az 4 (ak aE TN (vC (.int 1))))) 1000) (aM (ak qE (ae 3) Gw)))))
def jz:=rD nT 3 6
abbrev Wi:FT:=cx (aj jz (aa (ae 0) (aa (ae 1) (aa (ae 2) ag))))
def jd:FS:=(aM (ga Vf (ga (Ca RO) (ga (ak BX (ae 0) (vC (.int 1))) (ak Cs (ae 0) (vC gW))))))
def fU:=rD jd 1 1
abbrev Tl:FT:=kQ (d6 (cx (aj fU (aa (ae 1) ag)))) (aZ (ak gU (ae 1) xY))
def nR:FS:=(aM (ga (ak BX (ae 0) (vC (.str "a"))) (ak Cs (ae 0) (vC (.str "z")))))
def oi:=rD nR 1 1
def jY:FS:=(ao (bz (kQ (d6 (cx CT)) (kQ (aZ (ak bD (ae 0) (vC (.str "")))) (aZ (ak uT uS (vC gn))))) (aM (vC (.bl η))) ay) (aM (ga (aj ou (aa (br [ξ] (cU (ae 0)) (.one 0) gc (aj oi (aa (ae 0) ag))) ag)) (ak nh (ae 0) (vC i6)))))
def jW:=rD jY 1 1
def Cm (a0:D):jW [a0]=fin (jY [θ a0]):=rfl
def il:FS:=(aM (ga CT (ak rg (ae 0) (vC jt))))
def iB:=rD il 1 1
def sM:FS:=(aM (ga Op (ak bD uS (vC (.int 2)))))
def B7:=rD sM 1 1
abbrev MT:FE:=aj B7 (aa (ae 0) ag)
def oj:FS:=(aM (ga MT (ga (aj jW (aa sG ag)) (aj iB (aa oI ag)))))
def nD:=rD oj 1 1
def fE:FS:=(ao (bz (kQ (d6 (cx Op)) (kQ (aZ (ak vE uS (vC (.int 1)))) (aZ (ak uT uS (vC jG))))) (aM (vC (.bl η))) ay) (ao (bz (d6 (cx (aj ou (aa (br [ξ] (cU (ae 0)) (.one 0) gc (aj nD (aa (ae 0) ag))) ag)))) (aM (vC (.bl η))) ay) (ao (az 1 (br [ξ] (cU (ae 0)) (.one 0) gc sG)) (aM (ak bD (aj gT (aa (ae 1) ag)) pX)))))
def hV:=rD fE 1 2
def rh (a0:D):hV [a0]=fin (fE [θ a0,ξ]):=rfl
def qm:FS:=(aM (ga MT (ga (aj jW (aa sG ag)) (aj hV (aa oI ag)))))
def qp:=rD qm 1 1
def jE:FS:=(ao (fK (bL (aa oI ag)) (.tup [2,3]) (bz (aZ (ak bD Ny (ae 1))) (aM (ae 2)) ay)) (aM (vC .non)))
def eN:=rD jE 2 4
abbrev L9:FE:=aj eN (aa E2 (aa (ae 1) ag))
def nX:FS:=(aM (CM yD (ga (aj iR (aa (ae 0) ag)) (ak bD CY (ae 1)))))
def jM:=rD nX 2 2
def GD:FS:=(ao (az 2 oI) (ao (bz Ut (aM (vC (.bl η))) ay) (aM (aj ou (aa (br [ξ,ξ] (DS (aa (ae 1) (aa (ae 2) ag))) (.tup [0,1]) gc (aj jM (aa (ae 0) (aa uM ag)))) ag)))))
def CL:=rD GD 2 3
def iY:FS:=(ao (az 2 (ak bX (ak kh (ak bq pX (vC p9)) (vC (.int 1))) (vC p9))) (ao (ff 3 (bE ag)) (ao (fK (cL (aa (ae 2) ag)) (.one 4) (ao LS (ao (az 6 (ak bX (ak gE (ak bq (ae 4) (vC (.int 1))) pX) (ae 2))) Uh))) (aM (ae 3)))))
def cr:=rD iY 2 7
def wN (a0 a1:D):cr [a0,a1]=fin (iY [θ a0,θ a1,ξ,ξ,ξ,ξ,ξ]):=rfl
def vB:FS:=(ao (az 1 (ae 0)) (ao (di (aZ (ak uT pX (vC (.int 1)))) (az 1 (aj cr (aa (vC (.str "branch")) (aa Mh ag)))) 1000) (aM Hi)))
def pA:=rD vB 1 2
def eh (ja:afW->R D):FS:=(ao (bz O5 (ao (az 2 (br [ξ,θ 1] (cU oI) (.one 0) Wg (ae 0))) (ao (az 3 (br [ξ,θ 1] (cU oI) (.one 0) VW (ae 0))) (aM (aj cr (aa (vC (.str "leaf")) (aa (ak bq (ak bq (ae 2) (bE (aa (ae 1) ag))) (ae 3)) ag)))))) ay) (ao (az 4 (aj yG (aa oI ag))) (ao (az 5 (aj gf (aa (ae 4) (aa (ae 1) ag)))) (ao (az 6 (aj ja (aa (ak aE (ak aE (ae 4) (ae 5)) (vC (.int 1))) (aa (ae 1) ag)))) (aM (aj cr (aa (vC (.str "branch")) (aa (ak bq (ak bq (lh jn (ae 4) cO (bI (ae 5))) (aj gq (aa (ae 6) ag))) (lh jn (ae 4) (bI (ak bq (ae 5) (vC (.int 1)))) cO)) ag))))))))
def cW:Nat->(afW->R D)
 | 0=>(fun _=>.no)
 | n+1=>rD (eh ((cW n))) 2 7
def ja:afW->R D:=(cW 40)
def ma (n:Nat) (a0 a1:D):(cW (n+1)) [a0,a1]=fin (eh ((cW n)) [θ a0,θ a1,ξ,ξ,ξ,ξ,ξ]):=rfl
def lW:FS:=(ao (bz Wi (aM (ae 0)) ay) (aM (aj pA (aa (aj ja (aa (ae 0) (aa Iq ag))) ag))))
def iS:=rD lW 3 3
def mz:FS:=(ao (bz R3 (ao (az 3 (vC (.int 0))) (az 4 (ak jg Lm (ak aE (ak aE oI (vC (.int 1))) (vC (.int 1)))))) (ao (az 3 (ak kh (ae 1) (vC (.int 1)))) (az 4 (ak jg (ak aE (ak aE (ak aE (ae 0) (ae 3)) (vC (.int 1))) (vC (.int 1))) Lm)))) (ao (az 5 (aj cr (aa Rz (aa (ae 4) ag)))) (aM (aO (aa (vC (.str "branch")) (aa (aj gp (aa (ak jg VL (lh jn (ae 0) (bI (ak jg (ae 3) (vC (.int 2)))) cO)) ag)) ag))))))
def qS:=rD mz 3 6
def Gm (a0 a1 a2:D):qS [a0,a1,a2]=fin (mz [θ a0,θ a1,θ a2,ξ,ξ,ξ]):=rfl
def cJ (eG:afW->R D):FS:=(ao (bz O5 (aM (aO (aa (vC (.str "leaf")) (aa (aj gp (aa (br [ξ,θ 1] (cU oI) (.one 0) Ft (ae 0)) ag)) ag)))) ay) (ao (az 2 (aj yG (aa oI ag))) (ao Vp (ao (az 4 (aj eG (aa (ak aE (ak aE (ae 2) (ae 3)) (vC (.int 1))) (aa (ae 1) ag)))) (ao (bz (aZ (ak BX (aj bP (aa Gw ag)) (vC pB))) (aM (aO (aa (vC (.str "branch")) (aa (aj gp (aa (ak bq (ak bq (lh jn (ae 2) cO (bI (ae 3))) (aj gq (aa (bE (aa (ae 4) ag)) ag))) (lh jn (ae 2) (bI (ak bq (ae 3) (vC (.int 1)))) cO)) ag)) ag)))) ay) (aM (aj qS (aa (ae 2) (aa (ae 3) (aa (ae 4) ag))))))))))
def bR:Nat->(afW->R D)
 | 0=>(fun _=>.no)
 | n+1=>rD (cJ ((bR n))) 2 5
def eG:afW->R D:=(bR 40)
def jp (n:Nat) (a0 a1:D):(bR (n+1)) [a0,a1]=fin (cJ ((bR n)) [θ a0,θ a1,ξ,ξ,ξ]):=rfl
def dz:FS:=(ao (bz (d6 Wi) (aM (ae 0)) ay) (ao (az 3 (aj eG (aa (ae 0) (aa Iq ag)))) (ao (bz (dc (aZ (ak bD Ny (vC (.str "branch")))) (aZ (ak bD (aj bP (aa Sq ag)) (vC (.int 1))))) (aM (ak aE (ak aE Sq (vC (.int 0))) (vC (.int 1)))) ay) (aM (ae 3)))))
def dw:=rD dz 3 4
def oq (a0 a1 a2:D):dw [a0,a1,a2]=fin (dz [θ a0,θ a1,θ a2,ξ]):=rfl
def on:FS:=(aM (aO (aa (aj nZ (aa sG ag)) (aa oI ag))))
def dX:=rD on 1 1
def gg:FS:=(ao (ff 1 (bE ag)) (ao (fK (cU (aj (nJ dX) (aa (ae 0) ag))) (.one 2) (bz (kQ (aZ BI) (aZ (ak fh (ak aE (ae 1) yP) (ae 2)))) (bj 1 (ae 2)) ay)) (ao (bz (aZ BI) (aM (aj g9 ag)) ay) (aM (aj pA (aa (aj cr (aa (vC (.str "leaf")) (aa (ae 1) ag))) ag))))))
def iO:=rD gg 1 3
def tS (a0:D):iO [a0]=fin (gg [θ a0,ξ,ξ]):=rfl
def nQ:FS:=(aM (Rn "Table" ["shape","rows","indexes"] (aa (ae 0) (aa (HG (vC (.dct []))) (aa (HG (vC (.dct []))) ag)))))
def vI:=rD nQ 1 1
def jf:FS:=(ao (az 3 (ak pM HR (ae 1))) (ao (bz (aZ (ak gU (ae 2) xY)) (aM (ae 3)) ay) (aM (aj dw (aa (ae 3) (aa (ak aE (ak pM xY (ae 2)) L9) (aa (ae 2) ag)))))))
def fT:=rD jf 3 4
abbrev Rv:FS:=ao (az 6 (aj fT (aa (ae 0) (aa (ae 5) (aa (ae 1) ag))))) (km 4 (ae 5) (aj iS (aa (ae 6) (aa (ak aE (ae 2) (aj eN (aa E2 (aa (ae 5) ag)))) (aa (ae 1) ag)))))
abbrev SF:FS:=km 3 (ae 4) (aj fT (aa (ae 0) (aa (ae 4) (aa (ae 1) ag))))
def pU:FS:=(ao (ff 3 (aj xX (aa xY ag))) (ao (km 3 (ae 1) (ae 2)) (ao (ff 4 (vC (.dct []))) (ao (fK (sP HR) (.one 5) Rv) (Cy 4 (Cy 3 (aM (Rn "Table" ["shape","rows","indexes"] (aa E2 (aa (ae 3) (aa (ae 4) ag)))))))))))
def kU:=rD pU 3 7
def kq:FS:=(ao (ff 2 (aj xX (aa xY ag))) (ao (pY 2 (ae 1)) (ao (ff 3 (vC (.dct []))) (ao (fK (sP HR) (.one 4) SF) (Cy 3 (Cy 2 (aM (Rn "Table" ["shape","rows","indexes"] (aa E2 (aa (ae 2) (aa (ae 3) ag)))))))))))
def ic:=rD kq 2 5
def lU:FS:=(ao (az 2 L9) (aM (br [ξ,ξ,θ 2] (qb xY) (.tup [0,1]) gc (aO (aa (ak aE (ae 1) (ae 2)) (aa (ae 0) ag))))))
def mH:=rD lU 2 3
def lD:FS:=(ao (ff 2 (aj xX (aa HR ag))) (ao (km 2 (ae 1) (aj iO (aa (aj mH (aa (ae 0) (aa (ae 1) ag))) ag))) (Cy 2 (aM (Rn "Table" ["shape","rows","indexes"] (aa E2 (aa xY (aa (ae 2) ag))))))))
def i5:=rD lD 2 3
def sZ:FS:=(ao (bz (kQ (d6 (cx Op)) (kQ (aZ (ak bD uS (vC (.int 0)))) (d6 (cx (aj fR (aa sG (aa (vC (.ty "str")) ag))))))) Cr ay) (ao (bz (kQ (aZ (ak (Ki (gY.map (·.1)) "FORMS") sG (vC (.cls "FORMS")))) (aZ (ak fh uS (xG (Qr gY) sG)))) Cr ay) (aM sG)))
def Be:=rD sZ 1 1
def lY:FS:=(ao (ff 3 (aj xX (aa (ae 0) ag))) (ao (km 3 (ae 1) (ae 2)) (Cy 3 (aM (ae 3)))))
def eJ:=rD lY 3 4
def gv:FS:=(ao (bz (d6 (cx (aj qp (aa (ae 1) ag)))) Cr ay) (ao (bz (aZ (ak vg Hi (ae 0))) Cr ay) (aM (aj eJ (aa (ae 0) (aa Hi (aa (aj vI (aa (ae 1) ag)) ag)))))))
def dG:=rD gv 2 2
def qq:FS:=(ao (bz (kQ (d6 Tk) (aZ (ak gU (ae 1) (ae 0)))) Cr ay) (aM (ak pM (ae 0) (ae 1))))
def pL:=rD qq 2 2
abbrev Po:FE:=aj pL (aa (ae 0) (aa (ae 1) ag))
def cj:FS:=(ao (az 3 Po) (ao (bz (kQ (d6 (cx (aj fR (aa (ae 2) (aa (vC (.ty "str")) ag))))) (aZ (ak AW (aj eN (aa (np "Table" "shape" (ae 3)) (aa (ae 2) ag))) (vC .non)))) Cr ay) (ao (bz (aZ (ak vg (ae 2) (np "Table" "indexes" (ae 3)))) Cr ay) (aM (aj eJ (aa (ae 0) (aa (ae 1) (aa (aj i5 (aa (ae 3) (aa (ae 2) ag))) ag))))))))
def cu:=rD cj 3 4
def kL (a0 a1 a2:D):cu [a0,a1,a2]=fin (cj [θ a0,θ a1,θ a2,ξ]):=rfl
def cX:FS:=(ao (az 4 Po) (ao (bz (d6 (cx (aj fU (aa (ae 2) ag)))) Cr ay) (ao (bz (d6 (cx (aj CL (aa (np "Table" "shape" (ae 4)) (aa (ae 3) ag))))) Cr ay) (aM (aj eJ (aa (ae 0) (aa (ae 1) (aa (aj kU (aa (ae 4) (aa (ae 2) (aa (ae 3) ag)))) ag))))))))
def cV:=rD cX 4 5
def ng (a0 a1 a2 a3:D):cV [a0,a1,a2,a3]=fin (cX [θ a0,θ a1,θ a2,θ a3,ξ]):=rfl
def dD:FS:=(bz Tl Cr ay)
def fS:=rD dD 2 2
def ow (a0 a1:D):fS [a0,a1]=fin (dD [θ a0,θ a1]):=rfl
def f6:FS:=(ao (az 3 Po) (ao (vF (aj fS (aa (ae 3) (aa (ae 2) ag)))) (aM (aj eJ (aa (ae 0) (aa (ae 1) (aa (aj ic (aa (ae 3) (aa (ae 2) ag))) ag)))))))
def de:=rD f6 3 4
def sN:FS:=(ao (az 2 (aj Be (aa (ae 1) ag))) (ao (bz (aZ (ak bD (ae 2) (vC (.str "table")))) (aM (aj dG (aa (ae 0) (aa uM ag)))) ay) (ao (bz (aZ (ak bD (ae 2) (vC (.str "index")))) (aM (aj cu (aa (ae 0) (aa uM (aa FX ag))))) ay) (ao (bz (aZ (ak bD (ae 2) (vC (.str "put")))) (aM (aj cV (aa (ae 0) (aa uM (aa FX (aa (ak aE (ae 1) (vC (.int 3))) ag)))))) ay) (aM (aj de (aa (ae 0) (aa uM (aa FX ag)))))))))
def dU:=rD sN 2 3
abbrev LG:FE:=aj dU (aa (ae 2) (aa (ae 3) ag))
def kr:FS:=(ao (az 2 (ae 0)) (ao (fK (cU (ae 1)) (.one 3) (az 2 LG)) (aM (ae 2))))
def kz:=rD kr 2 4
def og:FS:=(ao (bz (aZ (ak vE (ae 1) uS)) (aM (ak aE (ae 0) (ae 1))) ay) (aM (vC (.int 0))))
def bN:=rD og 2 2
def jb:FS:=(ao (ff 2 (bE ag)) (ao (az 3 (ak bg (ae 0) (vC (.int 2147483647)))) (ao (fK (cL (aa (ae 1) ag)) (.one 4) RT) (aM (ae 2)))))
def cI:=rD jb 2 5
def yw (a0 a1:D):cI [a0,a1]=fin (jb [θ a0,θ a1,ξ,ξ,ξ]):=rfl
abbrev X9:FS:=bz VD (az 6 (aj cI (aa (ak bq (ae 0) (vC (.int 7))) (aa (ak bg (ak bX HP (vC (.int 2))) (vC (.int 20))) ag)))) ay
def lm:FS:=(ao (az 2 (vC (.str "abcdefghijklmnopqrstuvwxyz"))) (ao (az 3 (Rc lF (vC (.str "")) (aa Wv ag))) (ao (az 4 (ak bg (ak bX (ae 0) (vC (.int 11))) LF)) (aM (ak bq (ak bq (ak bq (lh jn (ae 3) cO (bI (ae 4))) (vC (.str "q"))) (lh jn (ae 3) (bI (ae 4)) cO)) (ak aE (ae 2) (ak bg (ak bq (ak bX (ae 0) (vC (.int 13))) (ae 1)) (vC (.int 26)))))))))
def mG:=rD lm 2 5
def FP (a0 a1:D):mG [a0,a1]=fin (lm [θ a0,θ a1,ξ,ξ,ξ]):=rfl
abbrev TF:FS:=bj 2 (aO (aa (aj mG (aa oI (aa (ae 3) ag))) (aa (ak aE (bE (aa (vC (.str "number")) (aa (vC (.str "number")) (aa (vC (.str "text")) ag)))) (ak bg (ak aE (ae 0) (ak bq (vC (.int 3)) (ae 3))) (vC (.int 3)))) ag)))
def jZ:FS:=(ao (az 2 (vC (.str " !\"#$&'()*+,-./09:;<=>?@AZ[\\]^_`abyz{|}~"))) (ao (bz (aZ (ak bD A2 (vC (.int 0)))) (aM (vC .non)) ay) (ao (bz (dc (aZ Io) (aZ (ak bD A2 (vC (.int 5))))) (aM (Rc lF (vC (.str "")) (aa (br [ξ,θ 2,θ 0] (cL (aa (ak bg El (vC (.int 41))) ag)) (.one 0) gc (ak aE (ae 1) (ak bg (ak bq (ak bX (ae 2) (vC (.int 7))) (ak gE C6 (vC (.int 13)))) (vC (.int 40))))) ag))) ay) (ao (bz (aZ Io) (aM (ak aE (bE (aa (vC (.str "")) (aa (vC (.str "a")) (aa (vC (.str "ab")) (aa (vC (.str "b")) (aa (vC (.str "B")) (aa (vC (.str "a~")) ag))))))) (ak bg El (vC (.int 6))))) ay) (ao (bz (aZ (ak bD A2 (vC (.int 5)))) (ao (az 3 Sn) (aM (ak aE (bE (aa (ak kh BO (vC (.int 1))) (aa (ak kh (vC (.int 1)) BO) (aa (ak kh BO (vC (.int 2))) (aa (ae 3) ag))))) (ak bg El (vC (.int 4)))))) ay) (aM (ak kh (ak bg El (vC (.int 4))) (vC (.int 1)))))))))
def d5:=rD jZ 2 4
def B9 (a0 a1:D):d5 [a0,a1]=fin (jZ [θ a0,θ a1,ξ,ξ]):=rfl
abbrev Wm:FS:=bz (aZ (ak bD (ak bg (ae 0) (vC (.int 17))) (vC (.int 0)))) (az 2 (aO (aa (vC (.str "value")) (aa (aj d5 (aa (ak bX (ae 0) (vC (.int 41))) (aa (ak aE WJ (ak bg (ak bX (ae 0) (vC (.int 17))) (vC (.int 2)))) ag))) ag)))) ay
abbrev U6:FS:=bz (aZ (ak bD (ak bg (ae 0) (vC (.int 13))) (vC (.int 0)))) (az 4 (aO (aa (vC (.str "value")) (aa (aj d5 (aa (ak bX (ae 0) (vC (.int 97))) (aa (ak aE WJ (ak bg (ak bX (ae 0) (vC (.int 13))) (vC (.int 2)))) ag))) ag)))) ay
abbrev V4:FS:=az 4 (aO (aa (vC (.str "value")) (aa (aj d5 (aa (ak bX (ae 0) (vC (.int 97))) (aa (ak aE (ak aE (ae 1) Lm) XY) ag))) ag)))
def sy:FS:=(ao (ff 2 (bE ag)) (ao (fK (cL (aa (ak bq (vC (.int 1)) (ak bg PJ (ak aE T6 (ak bg (ak bX PJ (vC (.int 24))) (vC (.int 4)))))) ag)) (.one 3) TF) (aM (aO (aa (aj mG (aa sG (aa (ae 1) ag))) (aa (aj gp (aa (ae 2) ag)) ag))))))
def sE:=rD sy 2 4
def oZ:FS:=(ao (az 2 (aj cI (aa (ae 0) (aa (aj bP (aa uM ag)) ag)))) (aM (aj gp (aa (br [ξ,θ 2,θ 1] (cL (aa (aj bP (aa uM ag)) ag)) (.one 0) gc (aj d5 (aa Ii (aa (ak aE (ak aE Lm (ae 0)) (vC (.int 1))) ag)))) ag))))
def oW:=rD oZ 2 3
def JF (a0 a1:D):oW [a0,a1]=fin (oZ [θ a0,θ a1,ξ]):=rfl
abbrev xI:afP:=["_law_shape_here","_law_xs","_law_k","_law_most","_law_early","_law_late","_law_puts","_law_j","_law_x","_law_number"]
abbrev T8:FS:=ao (az 9 (ak bq (ak bq (ak bq (vC (.int 1)) (ae 2)) (ak gE (vC (.int 3)) (ak bg (ak gE (ak bq (ae 7) (ak aE (ae 1) (vC (.int 8)))) (vC (.int 7))) (vC (.int 50))))) (ak gE (ak kh (ak vV (vC (.int 10)) (vC (.int 9))) (vC (.int 200))) (aj qB (aa (ak bD (ak bg (ak aE (ae 1) (vC (.int 13))) (vC (.int 4))) (vC (.int 0))) ag))))) (bj 6 (aO (aa (vC (.str "put")) (aa sG (aa (ae 9) (aa (aj oW (aa (ae 8) (aa (ae 0) ag))) ag))))))
abbrev RH:FS:=bj 6 (aO (aa (vC (.str "put")) (aa sG (aa (ak aE (ak aE (ae 6) (ak bg (ak aE (ae 1) (vC (.int 11))) (aj bP (aa (ae 6) ag)))) (vC (.int 2))) (aa (aj oW (aa (ak aE (ae 1) (vC (.int 12))) (aa (ae 0) ag))) ag)))))
def iX:FS:=(ao (az 4 (br [ξ,ξ,θ 0,θ 1] (bL (aa oI ag)) (.tup [0,1]) SZ LJ)) (ao V9 (ao (az 5 (bE ag)) (ao (bz (dc (aZ NR) (aZ Ge)) (az 5 Vy) ay) (ao (ff 6 (bE ag)) (ao (fK (bL (aa (aj cI (aa (ak aE (ae 1) (vC (.int 9))) (aa (ak bg (ak aE (ae 1) (vC (.int 7))) (ak bq (ae 3) (vC (.int 1)))) ag))) ag)) (.tup [7,8]) T8) (ao (bz RN RH ay) (ao (bz Mt RM ay) (aM (ak bq (ak bq (ae 4) (ae 6)) (ae 5)))))))))))
def kI:=rD iX 4 10
def xO (a0 a1 a2 a3:D):kI [a0,a1,a2,a3]=fin (iX [θ a0,θ a1,θ a2,θ a3,ξ,ξ,ξ,ξ,ξ,ξ]):=rfl
abbrev ZT:FS:=ao (az 5 (aj cI (aa U1 (aa (vC (.int 16)) ag)))) (ao (bj 3 (aj sE (aa (ak bq So Lv) (aa (ae 4) ag)))) (az 2 (ak bq (ak bq (ae 2) (bE (aa (aO (aa (vC (.str "table")) (aa (ak aE (ae 3) (ae 4)) ag))) ag))) (aj kI (aa (ak aE (ae 3) (ae 4)) (aa (ae 5) (aa (ae 4) (aa (ae 1) ag))))))))
def nK:FS:=(ao (az 2 (bE ag)) (ao (ff 3 (bE ag)) (ao (fK (cL (aa (ak bq (vC (.int 1)) (ak bg (ae 0) (vC (.int 3)))) ag)) (.one 4) ZT) (aM (aO (aa (ae 3) (aa (ae 2) ag)))))))
def nV:=rD nK 2 6
def vQ:FS:=(ao (az 2 (ak bg (ae 0) pX)) (aM (aO (aa (vC (.str "cell")) (aa (ae 2) (aa (ak bg (ak bX (ae 0) (vC (.int 8))) Ly) ag))))))
def fM:=rD vQ 2 3
abbrev VE:FS:=bz (aZ (ak bD (ak bg (ae 0) (vC (.int 3))) (vC (.int 0)))) (az 4 (aj fM (aa (ak bX (ae 0) (vC (.int 101))) (aa (ae 1) ag)))) ay
abbrev LM:FS:=az 2 (aj fM (aa El (aa (ae 1) ag)))
abbrev LW:FE:=aj fM (aa (ae 0) (aa (ae 1) ag))
abbrev Yx:FS:=az 10 (aj gp (aa (br [ξ,θ 5] (cU (lh jn (ae 3) (bI (vC (.int 14))) (bI (ak bq (vC (.int 15)) (ak bg (ak aE (ae 3) (vC (.int 13))) (ak aE T6 (ak bg (ak bX (ak aE (ae 3) (vC (.int 13))) (vC (.int 24))) (vC (.int 4))))))))) (.one 0) gc LW) ag))
abbrev aaB:FS:=az 9 (aj gp (aa (br [ξ,θ 5] (cU (lh jn (ae 3) (bI (vC (.int 11))) (bI (ak bq (vC (.int 11)) (ak bg (ak aE (ae 3) (vC (.int 10))) (ak aE (bE (aa (vC (.int 3)) (aa (vC (.int 3)) (aa (vC (.int 3)) (aa (vC (.int 9)) ag))))) (ak bg (ak bX (ak aE (ae 3) (vC (.int 10))) (vC (.int 9))) (vC (.int 4))))))))) (.one 0) gc (aO (aa LW (aa (ak bD (ak bg (ak bX (ae 0) (vC (.int 64))) (vC (.int 2))) (vC (.int 1))) ag)))) ag))
def lK:FS:=(ao LM (ao UW (ao V4 (ao VE (ao U6 (ao Wm (ao (bz (aZ (ak bD (ak bg (ak bX (ae 0) (vC (.int 5))) (vC (.int 3))) (vC (.int 0)))) (aM (aO (aa (vC (.str "test")) (aa (ae 3) (aa (ae 4) (aa (ae 2) ag)))))) ay) (aM (aO (aa (vC (.str "test")) (aa (ae 3) (aa (ae 2) (aa (ae 4) ag)))))))))))))
def qT:=rD lK 2 5
def G8 (a0 a1:D):qT [a0,a1]=fin (lK [θ a0,θ a1,ξ,ξ,ξ]):=rfl
abbrev L8:FS:=az 4 (aj qT (aa (ae 3) (aa (ae 1) ag)))
abbrev TX:FS:=ao L8 (ao Rp (ao aaI (bz (aZ (ak bD (ak bg (ak bX (ae 3) (vC (.int 17))) (vC (.int 7))) (vC (.int 0)))) (az 2 (aO (aa (vC (.str "not")) (aa (ae 2) ag)))) ay)))
def kF:FS:=(ao (az 2 (vC .non)) (ao (fK (cU (ae 0)) (.one 3) TX) (aM (ae 2))))
def fm:=rD kF 2 5
abbrev Y9:FS:=ao (az 2 (ak bX uS (vC (.int 2)))) (ao (bz UP (ao (az 3 (ak aE (bE (aa (vC (.str "and")) (aa (vC (.str "or")) ag))) (ak bg (ak bX sG (vC (.int 3))) (vC (.int 2))))) (aM (aO (aa (ae 3) (aa (aj fm (aa (lh jn (ae 0) cO (bI (ae 2))) (aa (ae 1) ag))) (aa (aj fm (aa (lh jn (ae 0) (bI (ae 2)) cO) (aa (ae 1) ag))) ag)))))) ay) (aM (aj fm (aa (ae 0) (aa (ae 1) ag)))))
def iQ:FS:=Y9
def kK:=rD iQ 2 4
def xx (a0 a1:D):kK [a0,a1]=fin (iQ [θ a0,θ a1,ξ,ξ]):=rfl
def mx:FS:=(ao (az 3 (aj cI (aa (ae 0) (aa (vC (.int 24)) ag)))) (ao RD (ao UD (ao Jd (ao X9 (ao (az 7 (aj kK (aa (ae 6) (aa (ae 5) ag)))) (ao Tv (ao aaB (ao Yx (ao Sz (ao Us (aM (aO (aa (vC (.str "ask")) (aa (ae 12) (aa (ae 7) (aa (ae 9) (aa (ae 10) (aa (ae 11) ag)))))))))))))))))))
def mm:=rD mx 3 13
def GU (a0 a1 a2:D):mm [a0,a1,a2]=fin (mx [θ a0,θ a1,θ a2,ξ,ξ,ξ,ξ,ξ,ξ,ξ,ξ,ξ,ξ]):=rfl
def nq (ik:afW->R D):FS:=(ao (bz (aZ (ak AW (ae 0) (vC .non))) (aM (bE ag)) ay) (ao (bz (aZ (ak bD (ak aE (ae 0) (vC (.int 0))) (vC (.str "and")))) (aM (ak bq (aj ik (aa (ak aE (ae 0) (vC (.int 1))) ag)) (aj ik (aa (ak aE (ae 0) (vC (.int 2))) ag)))) ay) (aM (bE (aa (ae 0) ag)))))
def gi:Nat->(afW->R D)
 | 0=>(fun _=>.no)
 | n+1=>rD (nq ((gi n))) 1 1
def ik:afW->R D:=(gi 100)
def vm:FS:=(ao (bz (aZ yD) (aM (aO (aa (vC (.int 0)) (aa (vC (.int 0)) (aa (vC (.str "")) ag))))) ay) (ao (bz (cx CT) (aM (aO (aa (vC (.int 2)) (aa (vC (.int 0)) (aa (ae 0) ag))))) ay) (aM (aO (aa (vC (.int 1)) (aa (ae 0) (aa (vC (.str "")) ag)))))))
def my:=rD vm 1 1
def j7:FS:=(ao (ff 2 (bE ag)) (ao (ff 3 (bE ag)) (ao (fK (cU (aj ik (aa (ak aE (ae 0) (vC (.int 2))) ag))) (.one 4) (bz (dc (aZ (ak bD (ak aE (ae 4) (vC (.int 0))) (vC (.str "test")))) (dc (aZ (ak qE (ae 1) (lh jn (ae 4) (bI (vC (.int 2))) cO))) (aZ (ak rg (vC (.str "value")) (aO (aa (ak aE (ak aE (ae 4) (vC (.int 2))) (vC (.int 0))) (aa (ak aE (ak aE (ae 4) (vC (.int 3))) (vC (.int 0))) ag))))))) (ao (az 5 (ak aE (ae 4) (vC (.int 1)))) (ao (az 6 (ak aE (ak aE (ae 4) (vC (.int 3))) (vC (.int 1)))) (ao (bz (aZ (ak bD (ak aE (ae 4) (vC (.int 3))) (ae 1))) (ao (az 5 (vv (HG (wg [("<",(vC (.str ">"))),("<=",(vC (.str ">="))),(">",(vC (.str "<"))),(">=",(vC (.str "<=")))])) (ae 5) (ae 5))) (az 6 (ak aE (ak aE (ae 4) (vC (.int 2))) (vC (.int 1))))) ay) (ao (bz (aZ (ak rg (ae 5) (aO (aa (vC (.str "=")) (aa (vC (.str ">")) (aa (vC (.str ">=")) ag)))))) (bj 2 (aO (aa (aj my (aa (ae 6) ag)) (aa (aj qB (aa (ak bD (ae 5) (vC (.str ">"))) ag)) (aa (aO (aa (ae 6) (aa (ak fh (ae 5) (vC (.str ">"))) ag))) ag))))) ay) (bz (aZ (ak rg (ae 5) (aO (aa (vC (.str "=")) (aa (vC (.str "<")) (aa (vC (.str "<=")) ag)))))) (bj 3 (aO (aa (aj my (aa (ae 6) ag)) (aa (aj qB (aa (ak fh (ae 5) (vC (.str "<"))) ag)) (aa (aO (aa (ae 6) (aa (ak fh (ae 5) (vC (.str "<"))) ag))) ag))))) ay))))) ay)) (ao (az 7 (aO ag)) (ao (az 8 (aO ag)) (ao (bz (aZ (ak fh (ae 2) (bE ag))) (az 7 (ak aE (aj (Hz .gt) (aa (ae 2) ag)) (vC (.int 2)))) ay) (ao (bz (aZ (ak fh (ae 3) (bE ag))) (az 8 (ak aE (aj (Hz .lt) (aa (ae 3) ag)) (vC (.int 2)))) ay) (aM (aO (aa (ae 7) (aa (ae 8) ag)))))))))))
def gj:=rD j7 2 9
def BA (a0 a1:D):gj [a0,a1]=fin (j7 [θ a0,θ a1,ξ,ξ,ξ,ξ,ξ,ξ,ξ]):=rfl
def lV:FS:=(ao (az 4 (ak aE (br [ξ,θ 3,θ 0] (cU (ae 1)) (.one 0) (aZ (ak bD (ak aE (ae 0) (vC (.int 0))) (ak aE (ak aE (ak aE (ae 2) (vC (.int 1))) (ae 1)) (vC (.int 0))))) (ae 0)) (vC (.int 0)))) (ao (ff 5 (bE (aa (aO (aa (vC (.str "walk")) (aa (ae 3) ag))) ag))) (ao (fK (cL (aa (aj bP (aa (ak aE (ae 4) (vC (.int 1))) ag)) ag)) (.one 6) (ao (xR (dJ (.tup [7,8])) (aj gj (aa (ae 0) (aa (aO (aa (vC (.str "cell")) (aa (ae 3) (aa (ae 6) ag)))) ag)))) (bz (dc (aZ (ak xL (aO (aa (ak aE (ae 4) (vC (.int 0))) (aa (ak aE (ak aE (ak aE (ae 4) (vC (.int 1))) (ae 6)) (vC (.int 0))) ag))) (ae 2))) (kQ (aZ (ak fh (ae 7) (aO ag))) (aZ (ak fh (ae 8) (aO ag))))) (bj 5 (aO (aa (vC (.str "seek")) (aa (ae 3) (aa (ae 6) (aa (ae 7) (aa (ae 8) ag))))))) ay))) (aM (ae 5)))))
def lZ:=rD lV 4 9
def Gi (a0 a1 a2 a3:D):lZ [a0,a1,a2,a3]=fin (lV [θ a0,θ a1,θ a2,θ a3,ξ,ξ,ξ,ξ,ξ]):=rfl
def mv:FS:=(ao (fK (cL (aa (aj bP (aa (ak aE (ae 0) (vC (.int 1))) ag)) ag)) (.one 4) (ao (az 5 (ak aE (br [ξ,θ 4,θ 0] (cU (ae 2)) (.one 0) (aZ (ak bD (ak aE (ae 0) (vC (.int 0))) (ak aE (ak aE (ak aE (ae 2) (vC (.int 1))) (ae 1)) (vC (.int 0))))) (ae 0)) (vC (.int 0)))) (ao (fK (cL (aa (aj bP (aa (ak aE (ae 5) (vC (.int 1))) ag)) ag)) (.one 6) (ao (az 7 (aj dQ (aa (ae 0) (aa (ae 4) (aa (ae 6) ag))))) (bz (kQ (d6 (cx (aj fR (aa (ae 7) (aa (vC (.ty "tuple")) ag))))) (aZ (ak fh (ae 7) (aj gj (aa (ae 0) (aa (aO (aa (vC (.str "cell")) (aa (ae 4) (aa (ae 6) ag)))) ag)))))) (aM (vC (.bl η))) ay))) (ao (ff 7 (aj uL (aa (ae 0) (aa (ae 1) (aa (ae 4) ag))))) (ao (bz (kQ (d6 (cx (aj fR (aa (ae 7) (aa (vC (.ty "list")) ag))))) (aZ (ak fh (ae 7) (aj lZ (aa (ae 0) (aa (ae 2) (aa (ae 3) (aa (ae 4) ag)))))))) (aM (vC (.bl η))) ay) (qd 7)))))) (aM (vC (.bl ζ))))
def im:=rD mv 4 8
def EZ (a0 a1 a2 a3:D):im [a0,a1,a2,a3]=fin (mv [θ a0,θ a1,θ a2,θ a3,ξ,ξ,ξ,ξ]):=rfl
def j0:FS:=(ao (az 2 (ak aE (ak aE (ae 0) (vC (.int 4))) (vC (.int 0)))) (ao (az 3 (aO (aa (vC (.str "value")) (aa (ak aE (bE (aa (vC (.int 3)) (aa (vC (.str "a")) (aa (vC .non) (aa (ak bg (ae 1) (vC (.int 5))) ag))))) (ak bg (ak bX (ae 1) (vC (.int 5))) (vC (.int 4)))) ag)))) (ao (az 4 (bE (aa (vC (.str "<")) (aa (vC (.str "<=")) (aa (vC (.str ">")) (aa (vC (.str ">=")) (aa (vC (.str "=")) (aa (vC (.str "<>")) ag)))))))) (ao (az 5 (aO (aa (vC (.str "test")) (aa (ak aE (ae 4) (ak bg (ak bX (ae 1) (vC (.int 20))) (vC (.int 6)))) (aa (ae 2) (aa (ae 3) ag)))))) (ao (az 6 (aO (aa (vC (.str "test")) (aa (ak aE (ae 4) (ak bg (ak bX (ae 1) (vC (.int 120))) (vC (.int 6)))) (aa (ae 3) (aa (ae 2) ag)))))) (ao (az 7 (ak aE (bE (aa (aO (aa (vC (.str "and")) (aa (ae 5) (aa (ae 6) ag)))) (aa (aO (aa (vC (.str "and")) (aa (ae 6) (aa (ae 5) ag)))) ag))) (ak bg (ak bX (ae 1) (vC (.int 720))) (vC (.int 2))))) (ao (bz (aZ (ak pq (ak aE (ae 0) (vC (.int 2))) (vC .non))) (az 7 (aO (aa (vC (.str "and")) (aa (ak aE (ae 0) (vC (.int 2))) (aa (ae 7) ag))))) ay) (aM (ak bq (ak bq (lh jn (ae 0) cO (bI (vC (.int 2)))) (aO (aa (ae 7) ag))) (lh jn (ae 0) (bI (vC (.int 3))) cO))))))))))
def jS:=rD j0 2 8
def Ce (a0 a1:D):jS [a0,a1]=fin (j0 [θ a0,θ a1,ξ,ξ,ξ,ξ,ξ,ξ]):=rfl
def lR:FS:=(ao (az 3 (bE ag)) (ao (fK (cU (ae 0)) (.one 4) (az 3 (ak bq (ae 3) (br [ξ,θ 4,θ 1] (cU (ak aE (ae 4) (vC (.int 1)))) (.one 0) (aZ (ak n9 (aO (aa (ak aE (ae 1) (vC (.int 0))) (aa (ak aE (ae 0) (vC (.int 0))) ag))) (ae 2))) (aO (aa (ak aE (ae 1) (vC (.int 0))) (aa (ak aE (ae 0) (vC (.int 0))) ag))))))) (ao (bz (aZ (ak bD (ae 3) (bE ag))) (aM (aO ag)) ay) (aM (ak aE (ae 3) (ak bg (ae 2) (aj bP (aa (ae 3) ag))))))))
def ly:=rD lR 3 5
def C7 (a0 a1 a2:D):ly [a0,a1,a2]=fin (lR [θ a0,θ a1,θ a2,ξ,ξ]):=rfl
def ww:FS:=(ao (xR (dJ (.tup [1,2])) (aj nV (aa (ak bg (aj bN (aa (ae 0) (aa (vC (.int 0)) ag))) (ak vV (vC (.int 10)) (vC (.int 12)))) (aa (vC (.int 3)) ag)))) (ao (az 3 (aj kz (aa (HG (vC (.dct []))) (aa (ae 2) ag)))) (ao (az 4 (br [ξ] (cU (ae 2)) (.one 0) (aZ (ak bD (ak aE (ae 0) (vC (.int 0))) (vC (.str "index")))) (lh jn (ae 0) (bI (vC (.int 1))) cO))) (ao (az 5 (aj mm (aa (aj bN (aa (ae 0) (aa (vC (.int 1)) ag))) (aa (ae 1) (aa (vC (.int 3)) ag))))) (ao (bz (aZ (ak uT (ak bg (aj bN (aa (ae 0) (aa (vC (.int 3)) ag))) (vC (.int 3))) (vC (.int 0)))) (az 5 (aj jS (aa (ae 5) (aa (ak bg (ak gE (aj bN (aa (ae 0) (aa (vC (.int 3)) ag))) (vC (.int 48271))) (vC (.int 1000003))) ag)))) ay) (ao (az 6 (aj mm (aa (aj bN (aa (ae 0) (aa (vC (.int 2)) ag))) (aa (ae 1) (aa (vC (.int 2)) ag))))) (ao (bz (kQ (d6 (cx (aj im (aa (ae 5) (aa (ae 3) (aa (ae 1) (aa (ae 4) ag))))))) (d6 (cx (aj im (aa (ae 6) (aa (ae 3) (aa (ae 1) (aa (ae 4) ag)))))))) (aM (vC (.bl η))) ay) (ao (az 7 (aj ly (aa (ae 1) (aa (ae 4) (aa (aj bN (aa (ae 0) (aa (vC (.int 4)) ag))) ag))))) (ao (bz (aZ (ak fh (ae 7) (aO ag))) (ao (az 8 (aj dU (aa (ae 3) (aa (aO (aa (vC (.str "index")) (aa (ak aE (ae 7) (vC (.int 0))) (aa (ak aE (ae 7) (vC (.int 1))) ag)))) ag)))) (bz (d6 (cx (aj im (aa (ae 5) (aa (ae 8) (aa (ae 1) (aa (ak bq (ae 4) (bE (aa (ae 7) ag))) ag))))))) (aM (vC (.bl η))) ay)) ay) (aM (aj im (aa (ae 5) (aa (ae 3) (aa (ae 1) (aa (ae 4) ag)))))))))))))))
def vY:=rD ww 1 9
def Vi (a0:D):vY [a0]=fin (ww [θ a0,ξ,ξ,ξ,ξ,ξ,ξ,ξ,ξ]):=rfl
abbrev ir:ac2:=match cH 68 with
 | .ClassDef _ _ _ (st::_) _ _ _ _ _ _ _=>st
 | st=>st
theorem BK:FnScope ["self","shape","rows","indexes"] ["self","shape","rows","indexes"] (aY ir):=⟨rfl,rfl,rfl,by trivial,rfl,by trivial,by trivial⟩
def df (i p d:Nat):Df:=⟨Rh (cH i),[Rh (cH i)],i,nN i,p,d,[],[],[],[],1000⟩
def cT:List (Str×D):=[("COLUMN_KINDS",jt),("FEWEST",pB),("HIGH_SIGNS",eD),("KINDS",j3),("LOW_SIGNS",dM),("MOST",p9),("MOST_COLUMNS",jG),("MOST_LETTERS",gn),("MOST_ROW_NUMBER",gW),("MOST_SIGNS",lX),("NO_NAMES",i6)]
def zT:afP:=["isinstance","str","all","len","bool","int","abs","enumerate","tuple","set","zip","list","range","sorted","dict","max","min"]
structure Txt (w:abA) (K:aT) (mg:afS) (a_FORMS:aa3) (es_FORMS:Array DictEntry) (n_FORMS:Nat) (a_TURNED:aa3) (es_TURNED:Array DictEntry) (n_TURNED:Nat) (a_Table fi_Table:aa3) (di_Table:acE):Prop where
 co:∀ q∈cT,Na K mg q
 z:∀ x∈zT,mg x=ξ
 bl:xV K=ζ
 AR:mg "FORMS"=θ (.ref a_FORMS)
 AS:K.lookup a_FORMS=θ ⟨.type "dict",ξ,.dict es_FORMS n_FORMS,#[]⟩
 AU:acn w.params es_FORMS.toList
 pb:∀ y d,gY.lookup y=θ d->∃ v u,aaO K a_FORMS y=θ (θ u)/\aX v u/\∀ H,b9 K H d v
 Hu:Q9 K "FORMS" a_FORMS
 uP:es_FORMS.toList.map (fun e=>Du e.key)=(gY.map (·.1)).map θ
 uQ:(a_FORMS==ab0)=η
 Hv:mg "TURNED"=θ (.ref a_TURNED)
 Hw:K.lookup a_TURNED=θ ⟨.type "dict",ξ,.dict es_TURNED n_TURNED,#[]⟩
 Hx:acn w.params es_TURNED.toList
 qV:∀ y d,ip.lookup y=θ d->∃ v u,aaO K a_TURNED y=θ (θ u)/\aX v u/\∀ H,b9 K H d v
 uR:mg "Table"=θ (.ref a_Table)
 iI:Q9 K "Table" a_Table
 fO:IsC K a_Table
 qW:Mk K a_Table fi_Table
 mN:Fun K "__init__" "Table.__init__" ir fi_Table di_Table
 qX:f8 K di_Table ["self","shape","rows","indexes"] []
 eR:eF K a_Table "shape"
 fF:eF K a_Table "rows"
 c6:eF K a_Table "indexes"
def dN:afP:=["rows","indexes","state","behind","_law_state","_law_newer"]
def lN:afP:=["_law_indexed"]
section
variable {P:abN} {w:abA} {K:aT} {mg:afS} {base:acV} {a_FORMS:aa3} {es_FORMS:Array DictEntry} {n_FORMS:Nat} {a_TURNED:aa3} {es_TURNED:Array DictEntry} {n_TURNED:Nat} {a_Table fi_Table:aa3} {di_Table:acE} (T:Txt w K mg a_FORMS es_FORMS n_FORMS a_TURNED es_TURNED n_TURNED a_Table fi_Table di_Table)
include T
theorem Dc:FnOk P w K mg base gN 1 fi_Table di_Table ["self","shape","rows","indexes"] (yz a_Table ["shape","rows","indexes"]):=by
 refine T.mN.ok (k:=0) BK (fun vs H Q E h=>?_) fun v _ A r s H vs Q E hr h=>?_
 .obtain ⟨x,g,us,rfl,h1,h2,u⟩:=h;exact afN (·+1) h1
 .refine ⟨_,(pe (yE (pv 0) (pv 1) rfl) (pe (yE (pv 0) (pv 2) rfl) (zk (yE (pv 0) (pv 3) rfl)))),?_⟩;obtain ⟨x,g,us,rfl,h1,h2,u⟩:=h
  match us,h1 with
  | [u0,u1,u2],_ =>
   refine ⟨_,rfl,_,rfl,x,_,g,_,rfl,h2,T.fO.cl,T.eR,(by show (0:Nat) < 1000;decide),_,rfl,_,rfl,x,_,g,_,rfl,aK,T.fO.cl,T.fF,(by show (1:Nat) < 1000;decide),_,rfl,_,rfl,x,_,g,_,rfl,aK,T.fO.cl,T.c6,(by show (2:Nat) < 1000;decide),?_⟩;rw [ub,ub];exact u
omit T in
theorem bO {α:Type} {p:α->Prop} {a:α} {l:List α} (h:p a) (r:∀ x∈l,p x):∀ x∈a::l,p x:=abi.mpr ⟨h,r⟩
def yT:List (Str×D):=[("str",.ty "str"),("int",.ty "int"),("tuple",.ty "tuple"),("list",.ty "list"),("dict",.ty "dict"),("bool",.ty "bool")]
def tB:Tb:=⟨[Tt,Vo "len" bP,LV "list",Vo "tuple" gp,t8 .Add bq,t8 .Sub kh,t8 .Mult gE,t8 .FloorDiv bX,t8 .Mod bg,t8 .Pow vV,dg .Eq bD ia,dg .NotEq fh ia,dg .Lt vE ia,dg .LtE Cs ia,dg .Gt uT ia,dg .GtE BX ia,dg .Is AW ia,dg .In vg (rJ dN),dg .IsNot pq ia,dg .In xL (rJ lN),dg .NotIn n9 (rJ lN),dg .In qE (Mv ["told"]),dg .In rg ia,dg .NotIn gU (rJ dN),dg .NotIn nh ia,XC "FORMS" gY,XC "TURNED" ip,RP pM (rJ dN),RP aE ia,W1 jn,Od,QK,KO,GC "Table" "shape",GC "Table" "rows",GC "Table" "indexes",X1 "len" "set" gT,fB "len" bP,fB "isinstance" fR,fB "abs" Lc,fB "all" ou,fB "tuple" gp,fB "int" qB,fB "list" yG,Xw .USub ut,YE,ZX "join" 1 lF,W4 "get" 2 fun l=>vv (g0 l) (g1 l) (g2 l),Q5 "KINDS" j3,X0 Ak,X0 CF],[KO,Ak,fB "dict" xX],[QV .Eq fun k=>k,QV .NotEq fun k=>!k,V0 "FORMS" (gY.map (·.1)),fQ (dg .Eq bD ia),fQ (dg .NotEq fh ia),fQ (dg .Lt vE ia),fQ (dg .LtE Cs ia),fQ (dg .Gt uT ia),fQ (dg .GtE BX ia),fQ (dg .Is AW ia),fQ (dg .In vg (rJ dN)),fQ (dg .IsNot pq ia),fQ (dg .In xL (rJ lN)),fQ (dg .NotIn n9 (rJ lN)),fQ (dg .In qE (Mv ["told"])),fQ (dg .In rg ia),fQ (dg .NotIn gU (rJ dN)),fQ (dg .NotIn nh ia)],[fI "range" 1 η cL,fI "enumerate" 1 ζ bL,fI "zip" 2 ζ DS,Gp,Fc dN],[Wn "append" bj,Wn "pop" pY,Vu,Ps,Ud,U4,MI],yT++cT,dN,[],[],1000⟩
def tE:List Fm:=[W1 rl,t8 .Add jg,fB "list" G1]
omit T in
theorem dbg:∀ q∈cT,(q.1==("__debug__":Str))=η:=by trivial
theorem Zz {Y:Cx} {k:Nat} (y:FY Y P w K mg base k):TbOk Y ⟨K,mg,E0⟩ tB/\∀ f∈tE,cQ Y ⟨K,mg,E0⟩ f:=by
 obtain ⟨I,r,g,C,J,hr,cm⟩:=y;subst I r g C J;have y:FY Y Y.prog Y.w Y.K Y.mg Y.base k:=⟨rfl,rfl,rfl,rfl,rfl,hr,cm⟩;have hy:∀ q∈yT,yK Y ⟨Y.K,Y.mg,E0⟩ q.1 q.2:=(bO (cy (T.z _ (by decide)) Qm) (bO (cy (T.z _ (by decide)) Ee) (bO (cy (T.z _ (by decide)) qQ) (bO (cy (T.z _ (by decide)) oS) (bO (cy (T.z _ (by decide)) zJ) (bO (cy (T.z _ (by decide)) K7) (fun _ h=>nomatch h)))))))
 exact ⟨⟨(bO (Lh rfl) (bO (Fz (T.z _ (by decide)) rfl) (bO (DC (T.z _ (by decide)) (T.z _ (by decide)) oS (by decide) rfl) (bO (Gz (T.z _ (by decide)) rfl) (bO (iW (LL _) (Rr _)) (bO (iW (Xd) (XR)) (bO (iW (TW) (X5)) (bO (iW (YR) (YB)) (bO (iW (Xj) (XB)) (bO (iW (Ys) (YK)) (bO ((bc (Nu _ y.hr.units) (aaH _)).1) (bO ((bc (Qg _ y.hr.units) (aaF _)).1) (bO ((bc aaq Z1).1) (bO ((bc aaf Z8).1) (bO ((bc Z7 ZZ).1) (bO ((bc Z6 aaj).1) (bO ((bc aaL ZQ).1) (bO ((bc (Ev y.hr.units) Uc).1) (bO ((bc DE Fw).1) (bO ((bc (Lf (n:=η) _ y.hr.units) (MU _)).1) (bO ((bc (Lf (n:=ζ) _ y.hr.units) (MB _)).1) (bO ((bc (Tj _ y.hr.units) (Rt _)).1) (bO ((bc (U5 _) (Z5 _)).1) (bO ((bc (sX y.hr.units) yN).1) (bO ((bc (z0 _) (Fb _)).1) (bO (GF T.AR T.AS T.AU T.pb) (bO (GF T.Hv T.Hw T.Hx T.qV) (bO (Ja y.hr.units) (bO (QL (aag _) (pIx _)) (bO (DW (oSl _) (XN _)) (bO (Jz rfl) (bO (K8) (bO (zu.m) (bO (uy T.iI T.fO.cl T.eR rfl) (bO (uy T.iI T.fO.cl T.fF rfl) (bO (uy T.iI T.fO.cl T.c6 rfl) (bO (xr (T.z _ (by decide)) (T.z _ (by decide)) rfl y.cm.1) (bO (tR (V1 _) (Y6 _) (T.z _ (by decide)) wQ) (bO (tR (Mq _) (XO _) (T.z _ (by decide)) kD) (bO (tR Xv Zy (T.z _ (by decide)) P6) (bO (tR (Ho _ y.cm.1) (YU _) (T.z _ (by decide)) Qw) (bO (Di (Fu _) (XI _) (T.z _ (by decide)) qQ) (bO (Di Zq Zn (T.z _ (by decide)) Ee) (bO ((xh (QZ _) (XW _) (T.z _ (by decide)) oS).m) (bO (Qi Yy YG) (bO (Nq) (bO (NQ PySem.F.slot_str_join PySem.F.type_str_join (JP _) (SI _)) (bO (GY y.hr.units) (bO (FU (T.co _ (aaZ (i:=3) rfl)) rfl rfl) (bO (Ga ve) (bO (Ga DF) (fun _ h=>nomatch h)))))))))))))))))))))))))))))))))))))))))))))))))))),(bO (zu) (bO (ve) (bO (xh uk Yg (T.z _ (by decide)) zJ) (fun _ h=>nomatch h)))),(bO (zG (Nu _ y.hr.units) rfl) (bO (zG (Qg _ y.hr.units) rfl) (bO (IU T.AR T.AS T.AU T.uP T.uQ T.Hu) (bO ((bc (Nu _ y.hr.units) (aaH _)).2) (bO ((bc (Qg _ y.hr.units) (aaF _)).2) (bO ((bc aaq Z1).2) (bO ((bc aaf Z8).2) (bO ((bc Z7 ZZ).2) (bO ((bc Z6 aaj).2) (bO ((bc aaL ZQ).2) (bO ((bc (Ev y.hr.units) Uc).2) (bO ((bc DE Fw).2) (bO ((bc (Lf (n:=η) _ y.hr.units) (MU _)).2) (bO ((bc (Lf (n:=ζ) _ y.hr.units) (MB _)).2) (bO ((bc (Tj _ y.hr.units) (Rt _)).2) (bO ((bc (U5 _) (Z5 _)).2) (bO ((bc (sX y.hr.units) yN).2) (bO ((bc (z0 _) (Fb _)).2) (fun _ h=>nomatch h))))))))))))))))))),(bO (Jt (T.z _ (by decide))) (bO (Ew (T.z _ (by decide)) rfl) (bO (K9 (T.z _ (by decide)) rfl) (bO (A0) (bO (DX) (fun _ h=>nomatch h)))))),(bO (Iu rfl) (bO (KQ) (bO (IJ y.hr.units) (bO (Kq) (bO (HK rfl y.cm.1) (bO (IM rfl) (bO (C4) (fun _ h=>nomatch h)))))))),fun q h=>(By.mp h).elim (hy q) (fun h=>let ⟨v,u,h1,h2,h3,_⟩:=T.co q h;cg h1 h2 h3 (dbg q h))⟩,(bO (DW (V8 _) (Uq _)) (bO (iW (Np _) (SX _)) (bO ((xh (xz y.cm.1) U9 (T.z _ (by decide)) oS).m) (fun _ h=>nomatch h))))⟩
def aC:List (Nat×Fm):=[(2,WM .gt),(2,WM .lt),(2,aam "Table" ["shape","rows","indexes"])]
theorem hA:∀ a∈aC,mI P w K mg base a:=(bO (fun Y k ⟨e1,e2,e3,e4,e5,hr,cm⟩ hk=>by subst e1 e2 e3 e4 e5;exact EN (.inl rfl) (T.z _ (by decide)) T.bl hr hk cm.2) (bO (fun Y k ⟨e1,e2,e3,e4,e5,hr,cm⟩ hk=>by subst e1 e2 e3 e4 e5;exact EN (.inr rfl) (T.z _ (by decide)) T.bl hr hk cm.2) (bO (Q0 T.iI T.uR T.qW (Dc T) T.qX) (fun _ h=>nomatch h))))
def xF:Xf:=[(1,AL)]
theorem hX:∀ h∈xF,N1 cH P w K mg base h:=(bO (FZ (T.z _ (by decide))) (fun _ h=>nomatch h))
end
def G:List (Df×Mr):=[
 (df 14 1 0,.pl su),
 (df 13 1 1,.pl qa),
 (df 15 1 0,.pl sS),
 (df 16 2 1,.pl jT),
 (df 17 1 1,.pl nG),
 (df 38 1 0,.pl qh),
 ({ df 59 1 1 with g:=["parts_of","parts_of_balance"] },.pl qG),
 (df 21 3 0,.pl qx),
 ({ df 27 2 0 with m:=["found"] },.pl cZ),
 ({ df 19 1 1 with g:=["parts_of_conditions"] },.rc cz bh 100),
 (df 28 3 2,.pl fw),
 (df 26 3 101,.pl gJ),
 ({ df 29 3 102 with N:=C5,m:=["found"] },.nw uD),
 (df 34 2 2,.pl kA),
 (df 35 0 0,.pl fz),
 (df 37 2 3,.pl ml),
 (df 36 3 4,.pl nT),
 (df 39 1 0,.pl jd),
 (df 46 1 0,.pl nR),
 (df 45 1 1,.pl jY),
 (df 51 1 0,.pl il),
 (df 48 1 0,.pl sM),
 (df 50 1 2,.pl oj),
 (df 49 1 3,.pl fE),
 (df 47 1 4,.pl qm),
 (df 52 2 0,.pl jE),
 (df 54 2 2,.pl nX),
 (df 53 2 3,.pl GD),
 ({ df 58 2 0 with m:=["cells"],e:=[0] },.pl iY),
 (df 61 1 2,.pl vB),
 ({ df 57 2 5 with k:=[(⟨159,16,159,73⟩,["other","entry"]),(⟨160,17,160,74⟩,["other","entry"])] },.rc eh cW 40),
 (df 56 3 45,.pl lW),
 ({ df 64 3 2 with e:=[1] },.pl mz),
 ({ df 63 2 5 with k:=[(⟨191,30,191,76⟩,["other","entry"])] },.rc cJ bR 40),
 (df 62 3 45,.pl dz),
 ({ df 66 1 2 with h:=[0] },.pl on),
 ({ df 65 1 4 with m:=["once"] },.pl gg),
 (df 69 1 2,.pl nQ),
 (df 72 3 46,.pl jf),
 ({ df 70 3 47 with m:=["indexes","rows"] },.pl pU),
 ({ df 71 2 47 with m:=["indexes","rows"] },.pl kq),
 ({ df 74 2 1 with k:=[(⟨252,11,252,71⟩,["number","row","place"])] },.pl lU),
 ({ df 73 2 5 with m:=["indexes"] },.pl lD),
 (df 79 1 0,.pl sZ),
 ({ df 86 3 0 with m:=["behind"] },.pl lY),
 (df 80 2 5,.pl gv),
 (df 84 2 0,.pl qq),
 (df 81 3 6,.pl cj),
 (df 82 4 48,.pl cX),
 (df 85 2 1,.pl dD),
 (df 83 3 48,.pl f6),
 (df 77 2 49,.pl sN),
 (df 78 2 50,.pl kr),
 (df 88 2 0,.pl og),
 ({ df 89 2 0 with m:=["_law_found"] },.pl jb),
 ({ df 90 2 0 with k:=[(⟨324,24,324,116⟩,["_law_j","_law_letters","_law_x"])] },.pl lm),
 ({ df 91 2 0 with k:=[(⟨332,23,332,115⟩,["_law_j","_law_some","_law_x"])] },.pl jZ),
 ({ df 92 2 1 with m:=["_law_columns"] },.pl sy),
 ({ df 93 2 1 with k:=[(⟨346,17,346,122⟩,["_law_c","_law_xs","_law_shape_here"])] },.pl oZ),
 ({ df 94 4 2 with N:=xI,m:=["_law_puts"],k:=[(⟨348,17,348,160⟩,["_law_j","_law_column","_law_shape_here","_law_xs"])] },.pl iX),
 ({ df 95 2 3 with m:=["_law_shapes"] },.pl nK),
 (df 97 2 0,.pl vQ),
 (df 98 2 1,.pl lK),
 (df 99 2 2,.pl kF),
 (df 100 2 3,.pl iQ),
 ({ df 101 3 4 with k:=[(⟨424,19,424,116⟩,["_law_x","_law_shapes"]),(⟨433,24,433,159⟩,["_law_x","_law_wide"]),(⟨434,27,434,138⟩,["_law_x","_law_wide"]),(⟨436,23,436,134⟩,["_law_k","_law_sources"])] },.pl mx),
 (df 102 1 1,.rc nq gi 100),
 (df 104 1 0,.pl vm),
 ({ df 105 2 101 with m:=["_law_high","_law_low"] },.pl j7),
 ({ df 106 4 102 with m:=["_law_found"],k:=[(⟨479,22,479,107⟩,["_law_one","_law_k","_law_tree_here"])] },.pl lV),
 ({ df 107 4 103 with m:=["_law_found"],k:=[(⟨488,26,488,111⟩,["_law_one","_law_k","_law_tree_here"])] },.pl mv),
 (df 108 2 0,.pl j0),
 ({ df 109 3 0 with k:=[(⟨511,34,511,170⟩,["_law_column","_law_shape_here","_law_indexed"])] },.pl lR),
 (df 110 1 104,.pl ww)]
theorem chk:HX cH tB tE xF G aC []:=by
 unfold G;repeat (first|refine Pn (by kernel_rfl) (by kernel_rfl) ?_|refine PP (fun F=>by kernel_rfl) (by kernel_rfl) ?_|refine QH (by kernel_rfl) (by kernel_rfl) ?_)
 exact aa9
open TS (K4 Cv)
abbrev uI (i:Nat) (n:Int):FE:=ak aE (ae i) (vC (.int n))
abbrev ZH:FE:=vC (.int 0)
abbrev Cw:FE:=vC (.int 1)
abbrev iC2:FE:=vC (.int 2)
abbrev Zl:FE:=vC (.int 10)
abbrev lH:FE:=vC (.str "leaf")
abbrev jX:FE:=vC (.str "branch")
abbrev lQ:FT:=(dc (aZ (ak vE (ak bq (ae 2) Cw) uS)) (d6 (cx (aj bF (aa (ae 1) (aa (ak aE (ak aE (ae 0) (ak bq (ae 2) Cw)) ZH) ag))))))
abbrev hQ:FT:=(aZ (ak bD (uI 4 0) jX))
abbrev hB:FS:=(ao (az 5 (uI 4 1)) (az 4 (ak aE TN Cw)))
abbrev cpB:FS:=(bz (aZ (ak bD (uI 3 0) (ae 1))) (aM (ae 2)) ay)
abbrev cB:FS:=(ao LS (ao (az 6 (ak bX (ak gE (ak bq (ae 4) Cw) pX) (ae 2))) Uh))
abbrev rB:FS:=(az 1 (aj cr (aa jX (aa Mh ag))))
abbrev nB:FS:=(bz (kQ (aZ BI) (aZ (ak fh (ak aE (ae 1) (xG ut Cw)) (ae 2)))) (bj 1 (ae 2)) ay)
abbrev ZR:FS:=Rv
abbrev ZO:FS:=az 2 LG
def aQ (h:τ U=.ok ζ):bz τ S T U=S U:=by rw [WI,h,aG,TL,afI rfl]
def bv (h:τ U=.ok η):bz τ S T U=T U:=by rw [WI,h,aG,TL,afJ GT]
def am (h:S U=.ok (.nx δ')):ao S T U=T δ':=by rw [L4,h,aG,N9]
def bK (h:S U=.ok (.rt d)):ao S T U=.ok (.rt d):=by rw [L4,h];rfl
def aB (h:φ U=.ok d):aM φ U=.ok (.rt d):=by rw [Wk,h];rfl
def J6 {φ:FE} {U:Sd} {d:D} (h:φ U=.ok d):ql φ U=.ok (.rn d):=by rw [Nm,h];rfl
def aq (h:φ U=.ok d):az k φ U=.ok (.nx (U.set k (θ d))):=by rw [VQ,h];rfl
def ij (h:φ U=.ok d) (g:k < U.length:=by simp):ff k φ U=.ok (.nx (U.set k (θ d))):=by rw [SN,h,aG,R9,afI g]
def au (h:r=.ok (.rt d)):fin r=.ok d:=by rw [h];rfl
def skip (h:τ U=.ok η):ao (bz τ S ay) T U=T U:=am ((bv h).trans rfl)
def ac (h:φ U=.ok d) (h2:α U=.ok ds):aa φ α U=.ok (d::ds):=by unfold aa;rw [h,h2];rfl
theorem aA (h:α U=.ok ds) (hl:ds.length<=100:=by simp):aO α U=.ok (.tup ds):=by rw [UN,h,aG,QX,afI (by lia)]
def bo (h:α U=.ok ds) (hl:ds.length<=100:=by simp):bE α U=.ok (.lst ds):=by rw [SS,h,aG,Qh,afI (by lia)]
def ai (h1:φ U=.ok a) (h2:ψ U=.ok b) (h:f a b=.ok c):ak f φ ψ U=.ok c:=by rw [Xb,h1,aG,Ze,h2,aG,h]
def aP (h:φ U=.ok (.bl b)):aZ φ U=.ok b:=by rw [YI,h];rfl
def ap (h:α U=.ok ds) (g:F ds=r):aj F α U=r:=by rw [Qj,h,aG,g]
def bZ (h:B (U.set i (θ x))=.ok (.nx δ')):cc (.one i) B (x::r) U=cc (.one i) B r δ':=by
 rw [wq];have e:dJ (.one i) x U=.ok (U.set i (x)):=rfl;rw [e,aG,Fg,h,aG,zR]
def dh (h:ι U=.ok xs) (r:cc g B xs U=.ok (.nx δ')):fK ι g B U=.ok (.nx δ'):=by rw [LQ,h,aG,Mi,r]
def wZ {τ:FT} {B:FS} {n:Nat} {U δ':Sd} (h:τ U=.ok ζ) (hb:B U=.ok (.nx δ')):di τ B (n+1) U=di τ B n δ':=by
 rw [di,h,hb];rfl
def Gb (h:τ U=.ok η):di τ B (n+1) U=.ok (.nx U):=by
 rw [di,h,aG,afJ GT]
def dF (h:φ U=.ok d) (g:M8 d=.ok b):cx φ U=.ok b:=by rw [TD,h,aG,g]
def GW (h:τ U=.ok b):d6 τ U=.ok (!b):=by rw [Vr,h];rfl
def mF (h:τ U=.ok ζ):d6 τ U=.ok η:=GW h
def TM (h:τ U=.ok ζ):kQ τ υ U=.ok ζ:=by rw [Nz,h];rfl
def pH (h:τ U=.ok η) (h2:υ U=.ok b):kQ τ υ U=.ok b:=by rw [Nz,h,aG,RA,afJ GT,h2]
def eX (h:τ U=.ok ζ) (h2:υ U=.ok b):dc τ υ U=.ok b:=by rw [Mc,h,aG,N4,afI rfl,h2]
def jr (h:τ U=.ok η):dc τ υ U=.ok η:=by rw [Mc,h];rfl
def eY (h:φ U=.ok (.bl ζ)) (h2:ψ U=.ok d):ga φ ψ U=.ok d:=by rw [v_and,h,aG,UH,afI rfl,h2]
def NM (h:φ U=.ok (.bl η)):ga φ ψ U=.ok (.bl η):=by rw [v_and,h];rfl
def S7 (h:φ U=.ok (.bl ζ)):CM φ ψ U=.ok (.bl ζ):=by rw [v_or,h];rfl
def Mp (h:φ U=.ok (.bl η)) (h2:ψ U=.ok d):CM φ ψ U=.ok d:=by rw [v_or,h,aG,XD,afJ GT,h2]
def JV (h:φ U=.ok (.bl b)):Ca φ U=.ok (.bl (!b)):=by rw [v_not,h];rfl
theorem e9 (h:U[i]?=θ (θ (.lst xs))) (g:ε U=.ok d) (hl:xs.length < 1000):bj i ε U=.ok (.nx (U.set i (θ (.lst (xs++[d]))))):=by
 unfold bj;rw [h];dsimp only;rw [g,aG,afI (by lia)]
def dR (h:φ U=.ok a) (h1:l U=.ok lo) (h2:u U=.ok hi) (g:jn a lo hi=.ok d):lh jn φ l u U=.ok d:=by
 rw [Yf,h,aG,UQ,h1,aG,SU,h2,aG,T9,g]
def bB (h:φ U=.ok (.int i)):bI φ U=.ok (θ i):=by rw [Nr,h];rfl
def fc (h:φ U=.ok d) (g:fg d=.ok xs):cU φ U=.ok xs:=by rw [UR,h,aG,g]
theorem gm {n:Nat} (h:φ U=.ok (.int (n:Int))) (hn:n<=1000000):cL (aa φ ag) U=.ok (cb 0 n):=by
 rw [PN,ac h rfl,aG,Th (by lia),abf]
def bM (h:ι U=.ok xs) (g:cf t τ ε (dt ix U) xs=.ok d):br ix ι t τ ε U=.ok d:=by rw [Qp,h,aG,g]
theorem fV {β:Type} {rest:Sd} (u f:β->D) (xs:List β) (h:∀ x∈xs,ε (θ (u x)::rest)=.ok (f x)) (hl:xs.length<=1000):cf (.one 0) gc ε (ξ::rest) (xs.map u)=.ok (.lst (xs.map f)) :=
 yt u f rfl (by lia) h
def iU {β:Type} {rest:Sd} (u f:β->D) (p:β->Bool) (xs:List β) (h:∀ x∈xs,τ (θ (u x)::rest)=.ok (p x)) (h2:∀ x∈xs,p x=ζ->ε (θ (u x)::rest)=.ok (f x)) (hl:xs.length<=1000):cf (.one 0) τ ε (ξ::rest) (xs.map u)=.ok (.lst ((xs.filter p).map f)):=by
 refine oV rfl (by rw [lE];lia) ?_;clear hl;induction xs with
 | nil=>rfl
 | cons x r z =>
  have h1:=h x (by simp);have g:=h2 x (by simp);have v:=z (fun y hy=>h y (iN _ hy)) fun y hy=>h2 y (iN _ hy);show (τ ((u x)::rest)).bind _=_;rw [h1,aG];cases e:p x with
  | true =>
   rw [aep e];show (ε ((u x)::rest)).bind _=_;rw [g e,v];rfl
  | false=>simp_all
def ck (h:φ U=.ok a) (hl:bP [a]=.ok d):aj bP (aa φ ag) U=.ok d:=ap (ac h rfl) hl
def oA {β:Type} (f:β->D) (xs:List β) {i:Nat} {x:β} (h:xs[i]?=θ x):aE (.lst (xs.map f)) (.int (i:Int))=.ok (f x):=uv (b4 (by simp_all))
def AY {β:Type} (f:β->D) (xs:List β) {i:Nat} {x:β} (h:xs[i]?=θ x):aE (.tup (xs.map f)) (.int (i:Int))=.ok (f x):=ya (b4 (by simp_all))
def jL {β:Type} (f:β->D) (xs:List β):bP [.lst (xs.map f)]=.ok (.int (xs.length:Int)):=by rw [zy,lE]
def qO {β:Type} (f:β->D) (xs:List β):bP [.tup (xs.map f)]=.ok (.int (xs.length:Int)):=by rw [vP,lE]
def gx (h1:φ U=.ok (.int i)) (h2:ψ U=.ok (.int j)) (h:-(2 ^ 64) < j/\j < 2 ^ 64:=by decide):ak gE φ ψ U=.ok (.int (i*j)):=ai h1 h2 (mul_r h)
def av (h1:φ U=.ok (.int i)) (h2:ψ U=.ok (.int j)) (h:0 < j:=by decide):ak bg φ ψ U=.ok (.int (i % j)):=ai h1 h2 (RK h)
def a9 (h1:φ U=.ok (.int i)) (h2:ψ U=.ok (.int j)) (h:0 < j/\j < 1073741824:=by decide):ak bX φ ψ U=.ok (.int (i/j)):=ai h1 h2 (UO h)
def bJ (h1:φ U=.ok (.int i)) (h2:ψ U=.ok (.int j)):ak bq φ ψ U=.ok (.int (i+j)):=ai h1 h2 rfl
def jy (h1:φ U=.ok (.int i)) (h2:ψ U=.ok (.int j)):ak kh φ ψ U=.ok (.int (i - j)):=ai h1 h2 rfl
def pf (h1:φ U=.ok (.int i)) (h2:ψ U=.ok (.int j)):aZ (ak bD φ ψ) U=.ok (decide (i=j)):=aP (ai h1 h2 jw)
def Ay (h:τ U=.ok ζ) (h2:φ U=.ok d):Je τ φ ψ U=.ok d:=by rw [L0,h,aG,MG,afI rfl,h2]
def DY (h:τ U=.ok η) (h2:ψ U=.ok d):Je τ φ ψ U=.ok d:=by rw [L0,h,aG,MG,afJ GT,h2]
def V5 (h:φ U=.ok (.bl a)) (h2:ψ U=.ok (.bl b)):CM φ ψ U=.ok (.bl (a||b)):=by
 cases a with
 | true=>exact S7 h
 | false=>exact Mp h h2
def MW (h:φ U=.ok (.bl a)) (h2:ψ U=.ok (.bl b)):ga φ ψ U=.ok (.bl (a&&b)):=by
 cases a with
 | true=>exact eY h h2
 | false=>exact NM h
def VM (h:φ U=.ok d) (g:fR [d,.ty C]=.ok (.bl b)):aj fR (aa φ (aa (vC (.ty C)) ag)) U=.ok (.bl b):=ap (ac h rfl) g
def cell (g:List Int) (k:Int):Int:=g.getD k.toNat 0
theorem Ld (g:List Int) (k:Int) (u:0<=k):bN [.lst (g.map D.int),.int k]=.ok (.int (cell g k)):=by
 obtain ⟨n,rfl⟩:∃ n:Nat,k=n:=⟨k.toNat,by lia⟩;have r:aZ (ak vE (ae 1) uS) [θ (.lst (g.map D.int)),θ (.int n)]=.ok (((n:Int) < g.length)):=aP (ai rfl ((jL _ _)) BS);unfold cell;rw [abf,ab2];by_cases h:n < g.length
 .rw [afL (by lia)] at r;rw [lT h];exact au (bK ((aQ r).trans (aB ((oA _ _ (lT h))))))
 .rw [afK (by lia)] at r;rw [aeF (by lia)];exact au ((skip r).trans rfl)
abbrev Zd:Str:=IF " !\"#$&'()*+,-./0123456789:;<=>?@ABCDEFGHIJKLMNOPQRSTUVWXYZ[\\]^_`"
abbrev XX:Str:=Zd++IF "abcdefghijklmnopqrstuvwxyz{|}~"
def tab:afO:=XX.cps.toList
def Vl (n:Nat):D->Prop
 | .non=>True
 | .int _=>True
 | .str z=>z.length<=n/\∀ c∈z.cps.toList,c∈tab
 | _=>False
def Vl.mono (h:Vl n d) (g:n<=m):Vl m d:=by
 cases d with
 | str z=>exact ⟨Le h.1 g,h.2⟩
 | non=>exact aa9
 | int _=>exact aa9
 | _=>exact h.elim
def mY (a b:Int):Int:=if a=b then 0 else if a < b then -1 else 1
noncomputable def mT (a b:afO):Int:=if a=b then 0 else if a < b then -1 else 1
def uC:D->D->Int
 | .non,.non=>0
 | .non,_=>-1
 | _,.non=>1
 | .int a,.int b=>mY a b
 | .int _,_=>-1
 | _,.int _=>1
 | .str a,.str b=>mT a.cps.toList b.cps.toList
 | _,_=>0
def kx:D->Int
 | .non=>0
 | .int _=>1
 | _=>2
def kw (i:Int):Str:=if i=0 then "none" else if i=1 then "number" else "text"
theorem kind (h:Vl 100 d):mR [d]=.ok (.str (kw (kx d))):=by
 cases d with
 | non=>rfl
 | int i=>rfl
 | str z=>rfl
 | _=>exact h.elim
theorem Am (d:D):kx d=0\/kx d=1\/kx d=2:=by
 unfold kx;split
 .exact .inl rfl
 .grind
 .simp_all
def RX (i:Int) (h:i=0\/i=1\/i=2):E5 j3 [.str (kw i)]=.ok (.int i):=by
 rcases h with rfl|rfl|rfl <;> with_unfolding_all rfl
theorem SL (h:i=0\/i=1\/i=2) (g:j=0\/j=1\/j=2):decide (kw i=kw j)=decide (i=j):=by
 rcases h with rfl|rfl|rfl <;> rcases g with rfl|rfl|rfl <;> decide +kernel
def lP {a b:Str} (h:a.cps.toList=b.cps.toList):a=b:=by
 cases a;simp_all
def Er (h:φ U=.ok d) (hr:E5 k [d]=.ok r):wT k (aa φ ag) U=.ok r:=by rw [Su,ac h rfl,aG,hr]
theorem Q6 (r:Vl 100 d) (g:Vl 100 e) (h:¬ kx d=kx e):uC d e=if kx d < kx e then -1 else 1:=by
 cases d with
 | non=>cases e with
  | non=>grind
  | int j=>rfl
  | str z=>rfl
  | _=>exact g.elim
 | int i=>cases e with
  | non=>rfl
  | int j=>exact absurd rfl h
  | str z=>rfl
  | _=>exact g.elim
 | str x=>cases e with
  | non=>rfl
  | int j=>rfl
  | str z=>exact absurd rfl h
  | _=>exact g.elim
 | _=>exact r.elim
theorem y8 (d e:D) (u:Vl 100 d) (r:Vl 100 e):j4 [d,e]=.ok (.int (uC d e)):=by
 rw [BV,jT];have v:aZ (ak fh CY OA) [θ d,θ e]=.ok (!decide (kx d=kx e)):=aP (ai (ap (ac rfl rfl) (kind u)) (ap (ac rfl rfl) (kind r)) (Ru.trans (by rw [SL (Am d) (Am e)])));by_cases h:kx d=kx e
 .rw [afL h] at v;refine au ((skip v).trans ?_);cases d with
  | non=>cases e with
   | non=>exact bK ((aQ (aP (ai rfl rfl UF))).trans (aB rfl))
   | int j=>cases h
   | str z=>cases h
   | _=>exact r.elim
  | int i=>cases e with
   | non=>cases h
   | int j =>
    show _=R.ok (Fl.rt (.int (mY i j)));unfold mY;by_cases q:i=j
    .rw [afI q];exact bK ((aQ (aP (ai rfl rfl (jw.trans (by rw [afL q]))))).trans (aB rfl))
    .rw [afJ q];refine (skip (aP (ai rfl rfl (jw.trans (by rw [afK q]))))).trans (aB ?_);by_cases g:i < j
     .rw [afI g];exact Ay (aP (ai rfl rfl (BS.trans (by rw [afL g])))) rfl
     .rw [afJ g];exact DY (aP (ai rfl rfl (BS.trans (by rw [afK g])))) rfl
   | str z=>cases h
   | _=>exact r.elim
  | str x=>cases e with
   | non=>cases h
   | int j=>cases h
   | str z =>
    show _=R.ok (Fl.rt (.int (mT x.cps.toList z.cps.toList)));unfold mT;by_cases q:x=z
    .rw [afI (by rw [q])];exact bK ((aQ (aP (ai rfl rfl (gL.trans (by rw [afL q]))))).trans (aB rfl))
    .rw [afJ fun w=>q (lP w)];refine (skip (aP (ai rfl rfl (gL.trans (by rw [afK q]))))).trans (aB ?_);by_cases g:x.cps.toList < z.cps.toList
     .rw [afI g];exact Ay (aP (ai rfl rfl (Tw.trans (by rw [afL g])))) rfl
     .rw [afJ g];exact DY (aP (ai rfl rfl (Tw.trans (by rw [afK g])))) rfl
   | _=>exact r.elim
  | _=>exact u.elim
 .rw [afK h] at v;refine au (bK ((aQ v).trans (aB ?_)));rw [Q6 u r h];have hl:aZ Ux [d,e]=.ok ((kx d < kx e)):=aP (ai (Er ((kind u)) (RX _ (Am d))) (Er ((kind r)) (RX _ (Am e))) BS);by_cases q:kx d < kx e
  .rw [afL q] at hl;rw [afI q];exact Ay hl rfl
  .rw [afK q] at hl;rw [afJ q];exact DY hl rfl
def vR:ak vV Zl (vC (.int 18)) U=.ok (.int 1000000000000000000):=rfl
def ahead (d:D) (n:Int) (e:D) (m:Int):Bool:=decide (uC d e < 0)||(decide (uC d e=0)&&decide (n < m))
def u4 (d e:D) (n m:Int) (g:Vl 40 d) (r:Vl 40 e):bF [.tup [d,.int n],.tup [e,.int m]]=.ok (.bl (ahead d n e m)):=by
 exact au ((am (aq (ap rfl (y8 d e (g.mono (by decide)) (r.mono (by decide)))))).trans (aB (V5 rfl (MW (jw) rfl))))
theorem Ya (x:Str) (h:∀ c∈x.cps.toList,c∈tab):PyData.strOk x=ζ:=by
 have hr:∀ c∈tab,32<=c/\c<=126:=by trivial
 show x.cps.all (· < 0x110000)=ζ;rw [<- Array.all_toList,abF];intro c g
 grind
def gu (k:K4):D:=if k.1=0 then .non else if k.1=1 then .int k.2.1 else .str ⟨k.2.2.1.toArray⟩
def un (k:K4):ax k=.tup [gu k,.int k.2.2.2]:=by
 unfold ax gu;split
 .rfl
 .split <;> rfl
structure Ok (k:K4):Prop where
 v:Vl 40 (gu k)
 e:yg (ax k)=θ k
def Ok.of {v:D} (h:yg (.tup [v,.int n])=θ k) (r:Vl 40 v):Ok k:=by
 have e:=Da h;have g:=e;rw [un] at g
 have:gu k=v:=by simp_all
 exact ⟨this ▸ r,e ▸ h⟩
noncomputable def Mm:D->ab7
 | .int i=>.int i
 | .str z=>.str z
 | _=>.none
def wO (h:Vl 40 v):bx v=θ (Mm v):=by
 cases v with
 | non=>rfl
 | int i=>rfl
 | str z=>rfl
 | _=>exact h.elim
def zH (h:Vl 40 v):(Mm v).canLay0=ζ/\(Mm v).depth=0:=by
 cases v with
 | non=>exact ⟨rfl,rfl⟩
 | int i=>exact ⟨rfl,rfl⟩
 | str z=>exact ⟨Ya z h.2,rfl⟩
 | _=>exact h.elim
def rL (k:K4):ab7:=.tuple [Mm (gu k),.int k.2.2.2]
def Ok.py {k:K4} (h:Ok k):bx (ax k)=θ (rL k):=by
 rw [un,bx,bU,wO h.v];rfl
def Ok.lay (h:Ok k):(rL k).canLay0=ζ/\(rL k).depth=1:=by
 let ⟨h1,h2⟩:=zH h.v
 unfold rL;rw [adG,aa6,h1,acY,acb,h2];exact ⟨rfl,rfl⟩
theorem Ok.shaped (h:Ok k):aaP (rL k)=ζ:=by
 unfold aaP;rw [h.lay.1,afL (by rw [h.lay.2];lia)];rfl
def Ok.deep (h:Ok k) (g:Ok l):jl (ax k) (ax l)=θ (abw (rL k) (rL l)):=by
 have e:jl (ax k) (ax l)=eL (ax k) (ax l):=by rw [un];rfl
 rw [e,eL,h.py,g.py];dsimp only;rw [afI ⟨h.shaped,g.shaped⟩]
def Ok.ne (h:Ok k) (g:Ok l):fh (ax k) (ax l)=.ok (.bl (!PyData.eqv (rL k) (rL l))):=by
 unfold fh;rw [h.deep g];rfl
theorem YW:∀ {g:List K4},(∀ k∈g,Ok k)->bU (g.map ax)=θ (g.map rL)
 | [],_=>rfl
 | k::r,h=>by
  rw [GE,bU,(h k (by simp)).py,YW fun x u=>h x (iN _ u)];rfl
theorem Mb {p:ab7}:∀ {u:List K4},(∀ k∈u,Ok k)->∃ b,dE p (u.map rL)=θ b
 | [],_=>⟨_,rfl⟩
 | l::r,g=>by
  have v:=g l (by simp);obtain ⟨b,e⟩:=Mb fun x z=>g x (iN _ z);exact ⟨_,by rw [GE,dE,afI ⟨v.shaped,by rw [v.lay.2];lia⟩,e];rfl⟩
def Ok.mem {k:K4} (h:Ok k) {r:List K4} (g:∀ k∈r,Ok k):∃ b,qE (ax k) (.tup (r.map ax))=.ok (.bl b):=by
 obtain ⟨b,u⟩:=Mb g;have e:Lg (ax k) (.tup (r.map ax))=b:=by
  show hZ _ _=_;rw [hZ,h.py,YW g];dsimp only;rw [afI h.shaped,u]
 exact ⟨b,by unfold qE;rw [e];rfl⟩
theorem C0:∀ {g:List K4},(∀ k∈g,Ok k)->aa6 (g.map rL)=ζ/\acb (g.map rL)<=1
 | [],_=>⟨rfl,aaQ _⟩
 | k::r,h=>by
  have v:=(h k (by simp)).lay;let ⟨h1,h2⟩:=C0 fun x u=>h x (iN _ u)
  rw [GE,aa6,acb];simp_all
theorem FO (h:∀ k∈ls,Ok k):jl (.lst (ls.map ax)) (.lst [])=θ (decide (ls=[])):=by
 have e:jl (.lst (ls.map ax)) (.lst [])=eL (.lst (ls.map ax)) (.lst []):=rfl;have u:bx (.lst (ls.map ax))=θ (.list (ls.map rL)):=by rw [bx,YW h];rfl
 have g:bx (.lst [])=θ (.list []):=rfl;let ⟨h1,h2⟩:=C0 h
 have hs:aaP (.list (ls.map rL))=ζ:=by
  unfold aaP;rw [adG,h1,acY,afL (by lia)];rfl
 rw [e,eL,u,g];dsimp only;rw [afI ⟨hs,by decide⟩];cases ls with
 | nil=>rfl
 | cons k r=>rfl
def eq_nil (h:∀ k∈ls,Ok k):bD (.lst (ls.map ax)) (.lst [])=.ok (.bl (decide (ls=[]))):=by
 unfold bD;rw [FO h];rfl
def u0 (k:K4):aE (ax k) (.int 0)=.ok (gu k):=by rw [un];exact bw
def u1 (k:K4):aE (ax k) (.int 1)=.ok (.int k.2.2.2):=by rw [un];exact bQ
def ah (k l:K4):Bool:=match bF [ax k,ax l] with
 | .ok (.bl b)=>b
 | _=>η
def Ok.ahead (h:Ok k) (g:Ok l):bF [ax k,ax l]=.ok (.bl (ah k l)):=by
 obtain ⟨b,e⟩:∃ b,bF [.tup [gu k,.int k.2.2.2],.tup [gu l,.int l.2.2.2]]=.ok (.bl b):=⟨_,u4 (gu k) (gu l) k.2.2.2 l.2.2.2 h.v g.v⟩;rw [<- un,<- un] at e;unfold ah;rw [e]
def Gu (h:φ U=.ok (.bl b)):d6 (cx φ) U=.ok (!b):=GW (dF h rfl)
def pE (n:Nat):cb 0 n=(aa7 n).map fun (k:Nat)=>D.int (k:Int):=by
 unfold cb;simp_all
theorem vM (h:0<=i):ib xs ξ (θ i)=xs.take i.toNat:=by
 obtain ⟨n,rfl⟩:∃ n:Nat,i=n:=⟨i.toNat,by lia⟩;unfold ib;rw [HT.jB,HT.gh,abf,List.drop_zero,List.take_eq_take_iff];lia
theorem Dw (h:0<=i):ib xs (θ i) ξ=xs.drop i.toNat:=by
 obtain ⟨n,rfl⟩:∃ n:Nat,i=n:=⟨i.toNat,by lia⟩;unfold ib;rw [HT.jB,HT.gh,abf];by_cases q:n<=xs.length
 .rw [acI q,abJ (by simp_all)]
 .rw [Nat.min_eq_right (by lia),aey (nE _),aey (by lia),List.take_nil]
def bW:Nat->D
 | 0=>.str "leaf"
 | _+1=>.str "branch"
def mn:Nat->Nat
 | 0=>1
 | _+1=>2
def rt:Nat->Nat
 | 0=>0
 | _+1=>2
def Tg:Nat->D->Prop
 | 0,x=>∃ k,Ok k/\x=ax k
 | h+1,x=>∃ k xs,Ok k/\x=.tup [ax k,.tup [bW h,.tup xs]]/\mn h<=xs.length/\xs.length<=8/\∀ y∈xs,Tg h y
def WN (h lo:Nat) (d:D):Prop:=∃ xs,d=.tup [bW h,.tup xs]/\lo<=xs.length/\xs.length<=8/\∀ x∈xs,Tg h x
theorem Kj (h:Nat):1<=mn h:=by cases h <;> unfold mn <;> lia
theorem Ue (h:Nat):mn h<=2:=by cases h <;> unfold mn <;> lia
theorem FR (h:Nat):rt h<=mn h:=by cases h <;> unfold mn rt <;> lia
def WN.mono (g:WN h lo d) (hl:lo'<=lo):WN h lo' d:=let ⟨xs,a,b,c⟩:=g;⟨xs,a,Le hl b,c⟩
theorem ZK:decide (("leaf":Str)="branch")=η:=by trivial
theorem aat:decide (("branch":Str)="leaf")=η:=by trivial
theorem CW {xs:afW} (z:Ok k) (I:∀ x∈xs,Tg (h+1) x) (J:bP [c]=.ok (.int (xs.length:Int))) (v:∀ (i:Nat) x,xs[i]?=θ x->aE c (.int (i:Int))=.ok x):∀ (n j:Nat),j < xs.length->xs.length<=j+n ->
  ∃ i:Nat,di lQ (lO 2 Cw) n [θ c,θ (ax k),θ (.int (j:Int))]=.ok (.nx [θ c,θ (ax k),θ (.int (i:Int))])/\i < xs.length
 | 0,j,h1,h2=>absurd h1 (by lia)
 | n+1,j,h1,h2=>by
  have M:(j:Int)+1=((j+1:Nat):Int):=by lia
  have g:aZ (ak vE (ak bq (ae 2) Cw) uS) [θ c,θ (ax k),θ (.int (j:Int))]=.ok (decide ((j:Int)+1 < (xs.length:Int))):=aP (ai (bJ rfl rfl) (ck rfl J) BS);by_cases u:j+1 < xs.length
  .rw [afL (by lia)] at g;have C:=lT u;obtain ⟨l,ys,hl,e,_⟩:=I _ (aaX u);rw [e] at C;have r:d6 (cx (aj bF (aa (ae 1) (aa (ak aE (ak aE (ae 0) (ak bq (ae 2) Cw)) ZH) ag)))) [θ c,θ (ax k),θ (.int (j:Int))]=.ok (!ah k l) :=
    Gu (ap (ac rfl (ac (ai (ai rfl (bJ rfl rfl) (by rw [M];exact v _ _ C)) rfl bw) rfl)) (z.ahead hl))
   cases hb:ah k l with
   | true=>rw [hb] at r;exact ⟨j,Gb (eX g r),h1⟩
   | false =>
    rw [hb] at r;obtain ⟨i,e,L⟩:=CW z I J v n (j+1) u (by lia);exact ⟨i,(wZ (eX g r) rfl).trans e,L⟩
  .rw [afK (by lia)] at g;exact ⟨j,Gb (jr g),h1⟩
theorem kT {xs:afW} (u:Ok k) (r:∀ x∈xs,Tg (h+1) x) (z:bP [c]=.ok (.int (xs.length:Int))) (v:∀ (i:Nat) x,xs[i]?=θ x->aE c (.int (i:Int))=.ok x) (hn:1<=xs.length) (hl:xs.length<=1000):∃ i:Nat,gf [c,ax k]=.ok (.int (i:Int))/\i < xs.length:=by
 obtain ⟨i,e,g⟩:=CW u r z v 1000 0 hn (by lia);refine ⟨i,?_,g⟩;exact au (((am e).trans rfl))
theorem W5:∀ {xs:afW},(∀ x∈xs,Tg 0 x)->∃ ks:List K4,xs=ks.map ax/\∀ k∈ks,Ok k
 | [],_=>⟨[],rfl,fun k g=>nomatch g⟩
 | x::r,h=>by
  obtain ⟨k,g,e⟩:=h x (by simp);obtain ⟨ks,u,h2⟩:=W5 fun y hy=>h y (iN _ hy);refine ⟨k::ks,by rw [e,u];rfl,fun l hl=>?_⟩
  grind
theorem G3 (u:Ok k):∀ (h n lo:Nat) (d:D) (o:Option D),h < n->WN h lo d->(h=0\/1<=lo) ->
  ∃ (ks:List K4) (g:Option D),di hQ hB n [θ a,θ b,θ c,θ (ax k),θ d,o]=.ok (.nx [θ a,θ b,θ c,θ (ax k),θ (.tup [.str "leaf",.tup (ks.map ax)]),g])/\∀ l∈ks,Ok l
 | _,0,_,_,_,hn,_,_=>absurd hn (adU _)
 | 0,n+1,lo,d,o,hn,⟨xs,e,_,_,hx⟩,_=>by
  subst e;obtain ⟨ks,rfl,z⟩:=W5 hx;exact ⟨ks,o,Gb (aP (ai (ai rfl rfl bw) rfl (gL.trans (by rw [ZK])))),z⟩
 | h+1,n+1,lo,d,o,hn,⟨xs,e,h1,h2,hx⟩,hlo=>by
  subst e;obtain ⟨i,Y,r⟩:=kT (c:=.tup xs) u hx vP (fun i x h=>ya (b4 h)) (by lia) (by lia);have v:=lT r;obtain ⟨l,ys,hl,e,L,M,C⟩:=hx _ (aaX r);rw [e] at v;obtain ⟨ks,g,I,J⟩:=G3 u h n (mn h) (.tup [bW h,.tup ys]) (θ (.tup xs)) (by lia) ⟨ys,rfl,L,M,C⟩ (.inr (Kj h));refine ⟨ks,g,(wZ rfl ?_).trans I,J⟩;exact (aq (ai (ai rfl (Y) (ya (b4 v))) rfl bQ))
theorem Sm (h:Nat):h=0\/1<=rt h:=by
 cases h with
 | zero=>exact .inl rfl
 | succ h=>exact .inr (by show 1<=2;lia)
theorem sL (g:Ok k) (v:WN h (rt h) d) (z:h<=700):∃ b,jz [d,gu k,.int k.2.2.2]=.ok (.bl b):=by
 obtain ⟨ks,C,e,u⟩:=G3 g h 1000 (rt h) d ξ (by lia) v (Sm h);rw [un] at e;obtain ⟨b,r⟩:=g.mem u;rw [un] at r;exact ⟨b,au ((((am e).trans (aB (r)))))⟩
theorem yL (g:0<=i) (h1:i<=j) (h2:j<=(xs.length:Int)):ib xs (θ i) (θ j)=(xs.drop i.toNat).take (j.toNat - i.toNat):=by
 obtain ⟨n,rfl⟩:∃ n:Nat,i=n:=⟨i.toNat,by lia⟩;obtain ⟨m,rfl⟩:∃ n:Nat,j=n:=⟨j.toNat,by lia⟩;unfold ib;rw [HT.gh,HT.gh,abf,abf,acI (by lia),acI (by lia)]
structure Rw (c:D) (xs:afW):Prop where
 l:bP [c]=.ok (.int (xs.length:Int))
 s:∀ lo hi,∃ y,rl c lo hi=.ok y/\gp [y]=.ok (.tup (ib xs lo hi))
def HN (xs:afW):Rw (.lst xs) xs:=⟨zy,fun lo g=>⟨_,wW,nC⟩⟩
def XS (xs:afW):Rw (.tup xs) xs:=⟨vP,fun lo g=>⟨_,SQ,Vb⟩⟩
theorem QF (g:Rw c xs) (z:xs.length<=1000) (hz:zs.length < 100) (v:0 < m/\m < 100) :
  cB [θ w,θ c,θ (.int m),θ (.lst zs),θ (.int p),o5,o6]=.ok (.nx [θ w,θ c,θ (.int m),θ (.lst (zs++[.tup [w,.tup (ib xs (θ (p*(xs.length:Int)/m)) (θ ((p+1)*(xs.length:Int)/m)))]])),θ (.int p),θ (.int (p*(xs.length:Int)/m)),θ (.int ((p+1)*(xs.length:Int)/m))]):=by
 obtain ⟨y,u,r⟩:=g.s ((p*(xs.length:Int)/m)) (((p+1)*(xs.length:Int)/m));exact (am (aq (a9 (gx rfl (g.l) (by lia)) rfl (by lia)))).trans ((am (aq (a9 (gx rfl (g.l) (by lia)) rfl (by lia)))).trans (e9 rfl (aA (ac rfl (ac (ap (ac (u) rfl) r) rfl))) (by lia)))
theorem Zp (g:0 < m) (r:n<=8*m):p*n/m<=(p+1)*n/m/\(p+1)*n/m<=p*n/m+8/\(4*m<=n->p*n/m+4<=(p+1)*n/m):=by
 have e  := Nat.succ_mul p n;rw [e];refine ⟨adP (adh _ _),?_,fun u=>?_⟩
 .rw [<- aeH _ _ g];exact adP (by lia)
 .rw [<- aeH _ _ g];exact adP (by lia)
theorem Lz (hc:Rw c xs) (hl:xs.length<=700) (hm:0 < m) (Z:m<=90) (h8:xs.length<=8*m) (h4:m=1\/4*m<=xs.length):∀ (k p:Nat) (g:List (afW)) (o4 o5 o6:Option D),p+k=m->g.length=p->(∀ r∈g,r.length<=8/\(m=1->r=xs)/\(m≠1->4<=r.length)/\∀ x∈r,x∈xs) ->
  ∃ (u:List (afW)) (L I J:Option D),cc (.one 4) cB ((List.range' p k).map fun (k:Nat)=>D.int (k:Int)) [θ w,θ c,θ (.int (m:Int)),θ (.lst (g.map fun r=>D.tup [w,.tup r])),o4,o5,o6]=.ok (.nx [θ w,θ c,θ (.int (m:Int)),θ (.lst (u.map fun r=>D.tup [w,.tup r])),L,I,J])/\u.length=m/\∀ r∈u,r.length<=8/\(m=1->r=xs)/\(m≠1->4<=r.length)/\∀ x∈r,x∈xs
 | 0,p,g,o4,o5,o6,hp,hr,hb=>⟨g,o4,o5,o6,rfl,by lia,hb⟩
 | k+1,p,g,o4,o5,o6,hp,hr,hb=>by
  obtain ⟨c1,c2,c3⟩:=Zp (n:=xs.length) (p:=p) hm h8;have c4:(p+1)*xs.length/m<=xs.length:=by
   refine Nat.div_le_of_le_mul ?_;exact Nat.mul_le_mul_right _ (by lia)
  have t:=QF (w:=w) (zs:=g.map fun r=>D.tup [w,.tup r]) (m:=(m:Int)) (p:=(p:Int)) (o5:=o5) (o6:=o6) hc (by lia) (by rw [lE];lia) (by lia);have z1:((p:Int)*(xs.length:Int)/(m:Int))=((p*xs.length/m:Nat):Int):=by rw [<- Int.natCast_mul];rfl
  have z2:(((p:Int)+1)*(xs.length:Int)/(m:Int))=(((p+1)*xs.length/m:Nat):Int):=by
   rw [show (p:Int)+1=((p+1:Nat):Int) by lia,<- Int.natCast_mul];rfl
  rw [z1,z2,yL (by lia) (by lia) (by lia),abf,abf] at t;have M:((xs.drop (p*xs.length/m)).take ((p+1)*xs.length/m - p*xs.length/m)).length=(p+1)*xs.length/m - p*xs.length/m:=by
   rw [abE,acu];lia
  have C:m=1->(xs.drop (p*xs.length/m)).take ((p+1)*xs.length/m - p*xs.length/m)=xs:=fun h1=>by
   have:p=0:=by lia
   subst this;rw [h1];simp
  have v:∀ x∈(xs.drop (p*xs.length/m)).take ((p+1)*xs.length/m - p*xs.length/m),x∈xs:=fun x hx=>acD (acg hx);generalize (xs.drop (p*xs.length/m)).take ((p+1)*xs.length/m - p*xs.length/m)=r0 at t M C v;rw [show (g.map fun r=>D.tup [w,.tup r])++[.tup [w,.tup r0]]=(g++[r0]).map fun r=>D.tup [w,.tup r] by simp] at t;obtain ⟨u,L,I,J,g1,g2,g3⟩:=Lz hc hl hm Z h8 h4 k (p+1) (g++[r0]) (θ (.int (p:Int))) (θ (.int ((p*xs.length/m:Nat):Int))) (θ (.int (((p+1)*xs.length/m:Nat):Int))) (by lia) (by rw [aaT,hr];rfl) (fun r Y=>by
    rcases By.mp Y with z|z
    .exact hb r z
    .rw [aaS.mp z];exact ⟨by lia,C,fun q=>by have:=c3 (h4.resolve_left q);lia,v⟩)
  refine ⟨u,L,I,J,?_,g2,g3⟩;rw [List.range'_succ,GE];have t'  := t;rw [bZ t'];exact g1
structure Fr (h:Nat) (qs:afW) (m:Nat):Prop where
 n:∀ q∈qs,WN h (mn h) q
 l:qs.length=(m+7)/8
theorem fresh (z:Rw c xs) (C:∀ x∈xs,Tg h x) (Y:mn h<=xs.length) (h1:xs.length<=700):∃ qs:afW,cr [bW h,c]=.ok (.lst qs)/\Fr h qs xs.length:=by
 have Z:=Kj h;have M:=Ue h;have J:((xs.length:Int)+8 - 1)/8=(((xs.length+7)/8:Nat):Int):=by lia
 have I:ak bX (ak kh (ak bq pX (vC p9)) Cw) (vC p9) [θ (bW h),θ c,ξ,ξ,ξ,ξ,ξ]=.ok (.int (((xs.length+7)/8:Nat):Int)) :=
  (a9 (jy (bJ (ck rfl z.l) rfl) rfl) rfl (by decide)).trans (by rw [J])
 obtain ⟨g,o4,o5,o6,g1,g2,L⟩:=Lz (w:=bW h) (m:=(xs.length+7)/8) z h1 (by lia) (by lia) (by lia) (by lia) ((xs.length+7)/8) 0 [] ξ ξ ξ (by lia) rfl (fun r hr=>by cases hr);refine ⟨g.map fun r=>D.tup [bW h,.tup r],?_,fun q u=>?_,by rw [lE,g2]⟩
 .rw [wN,iY];refine au ((am (aq I)).trans ((am (ij (bo rfl))).trans ((am (dh (δ':=[θ (bW h),θ c,θ (.int (((xs.length+7)/8:Nat):Int)),θ (.lst (g.map fun r=>D.tup [bW h,.tup r])),o4,o5,o6]) (gm (n:=(xs.length+7)/8) rfl (by lia)) ?_)).trans rfl)));rw [pE,List.range_eq_range'];exact g1
 .obtain ⟨r,hr,rfl⟩:=BY.mp u;obtain ⟨a,b,e,f⟩:=L r hr;refine ⟨r,rfl,?_,a,fun x v=>C x (f x v)⟩
  grind
theorem GL (v:WN h lo d) (hl:1<=lo):∃ k,kJ [d]=.ok (ax k)/\Ok k:=by
 obtain ⟨xs,rfl,h1,h2,u⟩:=v;cases xs with
 | nil=>simp at h1;lia
 | cons x r =>
  cases h with
  | zero =>
   obtain ⟨k,g,rfl⟩:=u x (by simp);exact ⟨k,au (aB (Ay rfl (bw))),g⟩
  | succ h =>
   obtain ⟨k,ys,g,rfl,_⟩:=u x (by simp);exact ⟨k,au (aB ((ai (bw) rfl bw))),g⟩
theorem rP:∀ {qs:afW},(∀ q∈qs,WN h (mn h) q)->∃ ps:List (K4×D),qs=ps.map Prod.snd/\∀ p∈ps,kJ [p.2]=.ok (ax p.1)/\Ok p.1
 | [],_=>⟨[],rfl,fun p g=>nomatch g⟩
 | q::r,hq=>by
  obtain ⟨k,e,C⟩:=GL (hq q (by simp)) (Kj h);obtain ⟨ps,u,h2⟩:=rP fun x v=>hq x (iN _ v);refine ⟨(k,q)::ps,by rw [u];rfl,fun p g=>?_⟩;rcases mK.mp g with z|z
  .simp_all
  .exact h2 p z
theorem md (u:∀ q∈qs,WN h (mn h) q) (hl:qs.length<=100):∃ xs,gq [.lst qs]=.ok (.lst xs)/\xs.length=qs.length/\∀ x∈xs,Tg (h+1) x:=by
 obtain ⟨ps,rfl,r⟩:=rP u;refine ⟨ps.map fun p=>.tup [ax p.1,p.2],?_,by simp_all,fun x I=>?_⟩
 .exact au (aB ((fV _ _ _ (fun p g=>aA (ac ((r p g).1) rfl)) (by grind))))
 .obtain ⟨p,g,rfl⟩:=BY.mp I;obtain ⟨ys,e,v,C,z⟩:=u p.2 (BY.mpr ⟨p,g,rfl⟩);exact ⟨p.1,ys,(r p g).2,by rw [e],v,C,z⟩
theorem Ua (hl:xs.length+ys.length<=1000):jg (.tup xs) (.tup ys)=.ok (.tup (xs++ys)):=by
 cases xs with
 | nil=>rfl
 | cons x r=>exact afI ⟨rfl,by lia⟩
theorem uE (hl:xs.length+ys.length<=1000):bq (.lst xs) (.lst ys)=.ok (.lst (xs++ys)):=(afI (by lia))
def Wh (hl:xs.length+ys.length<=1000):jg (.lst xs) (.lst ys)=.ok (.lst (xs++ys)):=uE hl
theorem YC (xs:afW) (j:Nat):jn (.lst xs) ξ (θ (j:Int))=.ok (.lst (xs.take j)):=by rw [wW,vM (by lia),abf]
def Yk (xs:afW) {j:Nat} (h:i=(j:Int)):jn (.lst xs) (θ i) ξ=.ok (.lst (xs.drop j)):=by rw [h,wW,Dw (by lia),abf]
theorem AD {xs ps:afW} (r:∀ x∈xs,Tg (h+1) x) (u:∀ x∈ps,Tg (h+1) x) (hs:s<=t) (g:t<=xs.length) (hn:lo<=s+ps.length+(xs.length - t)) (z:s+ps.length+(xs.length - t)<=8) :
  WN (h+1) lo (.tup [.str "branch",.tup (xs.take s++ps++xs.drop t)]):=by
 refine ⟨_,rfl,?_,?_,fun x v=>?_⟩
 .grind
 .grind
 grind
theorem Oe {h j:Nat} {xs zs:afW} (J:∀ x∈xs,Tg (h+1) x) (h2:2<=xs.length) (h8:xs.length<=8) (hj:j < xs.length) (hz:zs.length<=8) (L:∀ z∈zs,Tg h z) :
  ∃ d',qS [.lst xs,.int (j:Int),.tup [bW h,.tup zs]]=.ok d'/\WN (h+1) (xs.length - 1) d':=by
 have m1:=Kj h;rw [Gm,mz];have g:∀ (s:Nat) (ts:afW),s+2<=xs.length->(∀ y∈ts,Tg h y)->mn h<=ts.length->ts.length<=16->∃ d',(ao (az 5 (aj cr (aa (uI 2 0) (aa (ae 4) ag)))) (aM (aO (aa jX (aa (aj gp (aa (ak jg VL (lh jn (ae 0) (bI (ak jg (ae 3) iC2)) cO)) ag)) ag))))) [θ (.lst xs),θ (.int (j:Int)),θ (.tup [bW h,.tup zs]),θ (.int (s:Int)),θ (.tup ts),ξ]=.ok (.rt d')/\WN (h+1) (xs.length - 1) d':=fun s ts hs ht t1 t2=>by
  obtain ⟨qs,Y,M⟩:=fresh (XS ts) ht t1 (by lia);have hl:=M.l;obtain ⟨ps,ep,lp,I⟩:=md M.n (by lia);refine ⟨_,(am (aq (ap (ac (ai rfl rfl bw) (ac rfl rfl)) Y))).trans (aB (aA (ac rfl (ac (ap (ac (ai (ai (dR rfl rfl (bB rfl) (YC xs s)) (ap (ac rfl rfl) ep) (Wh (by rw [abE];lia))) (dR rfl (bB (ai (c:=.int ((s:Int)+2)) rfl rfl rfl)) rfl (Yk xs (j:=s+2) (by lia))) (Wh (by rw [aaT,abE,acu];lia))) rfl) nC) rfl)))),AD J I (by lia) (by lia) (by lia) (by lia)⟩
 cases j with
 | zero =>
  have r:=lT (show 1 < xs.length by lia);obtain ⟨l,ys,_,e,Z,y2,u⟩:=J _ (aaX (show 1 < xs.length by lia));rw [e] at r;obtain ⟨d',C,v⟩:=g 0 (zs++ys) (by lia) (fun y hy=>(By.mp hy).elim (L y) (u y)) (by rw [aaT];lia) (by rw [aaT];lia);exact ⟨d',au ((am ((aQ (aP (ai rfl rfl (jw.trans rfl)))).trans ((am (aq rfl)).trans (aq (ai (ai rfl rfl bQ) (ai (ai (ai rfl rfl (uv (b4 r))) rfl bQ) rfl bQ) (Ua (by lia))))))).trans C),v⟩
 | succ j =>
  have r:=lT (show j < xs.length by lia);obtain ⟨l,ys,_,e,Z,y2,u⟩:=J _ (aaX (show j < xs.length by lia));rw [e] at r;have ej:((j+1:Nat):Int) - 1=(j:Int):=by lia
  obtain ⟨d',C,v⟩:=g j (ys++zs) (by lia) (fun y hy=>(By.mp hy).elim (u y) (L y)) (by rw [aaT];lia) (by rw [aaT];lia);exact ⟨d',au ((am ((bv (aP (ai rfl rfl (jw.trans (by rw [afK (by lia)]))))).trans ((am (aq (ai rfl rfl (RC.trans (by rw [ej]))))).trans (aq (ai (ai (ai ((uv (b4 r))) rfl bQ) rfl bQ) rfl (Ua (by lia))))))).trans C),v⟩
def Z2 (h1:h=0\/2<=lo):h=0\/2<=mn h:=by
 cases h with
 | zero=>exact .inl rfl
 | succ h=>exact .inr (nE _)
theorem ph (z:Ok k):∀ (h n lo:Nat) (d:D),h < n->WN h lo d->(h=0\/2<=lo)->∃ qs:afW,cW n [d,ax k]=.ok (.lst qs)/\(∀ q∈qs,WN h (mn h) q)/\1<=qs.length/\qs.length<=3
 | _,0,_,_,hn,_,_=>absurd hn (adU _)
 | 0,n+1,lo,d,hn,⟨xs,e,h1,h2,r⟩,v=>by
  subst e;obtain ⟨ks,rfl,C⟩:=W5 r;rw [lE] at h1 h2;have tA1:=abv (fun l=>ah l k) ks;have tB1:=abv (fun l=>ah k l) ks;have ea:cf (.one 0) Wg (ae 0) [ξ,θ (ax k)] (ks.map ax)=.ok (.lst ((ks.filter fun l=>ah l k).map ax)) :=
   iU ax ax _ ks (fun l hl=>dF (ap (ac rfl (ac rfl rfl)) ((C l hl).ahead z)) rfl) (fun _ _ _=>rfl) (by lia)
  have Y:cf (.one 0) VW (ae 0) [ξ,θ (ax k)] (ks.map ax)=.ok (.lst ((ks.filter fun l=>ah k l).map ax)) :=
   iU ax ax _ ks (fun l hl=>dF (ap (ac rfl (ac rfl rfl)) (z.ahead (C l hl))) rfl) (fun _ _ _=>rfl) (by lia)
  have lA:((ks.filter fun l=>ah l k).map ax).length=(ks.filter fun l=>ah l k).length:=lE _;have lB:((ks.filter fun l=>ah k l).map ax).length=(ks.filter fun l=>ah k l).length:=lE _;have L:∀ x∈(ks.filter fun l=>ah l k).map ax++[ax k]++(ks.filter fun l=>ah k l).map ax,Tg 0 x:=fun x r=>by
   rcases By.mp r with r|r
   .rcases By.mp r with r|r
    .obtain ⟨l,hl,rfl⟩:=BY.mp r;exact ⟨l,C l (aba.mp hl).1,rfl⟩
    .exact ⟨k,z,aaS.mp r⟩
   .obtain ⟨l,hl,rfl⟩:=BY.mp r;exact ⟨l,C l (aba.mp hl).1,rfl⟩
  generalize (ks.filter fun l=>ah l k).map ax=A at ea lA L;generalize (ks.filter fun l=>ah k l).map ax=B at Y lB L;have lL:(A++[ax k]++B).length=A.length+1+B.length:=by rw [aaT,aaT];rfl
  obtain ⟨qs,e,f⟩:=fresh (h:=0) (HN (A++[ax k]++B)) L (by show 1<=_;lia) (by lia);have fl:=f.l;refine ⟨qs,?_,f.n,by lia,by lia⟩;rw [ma,eh];have u:aZ (ak bD (uI 0 0) lH) [θ (.tup [bW 0,.tup (ks.map ax)]),θ (ax k),ξ,ξ,ξ,ξ,ξ]=.ok ζ:=aP (ai (ai rfl rfl bw) rfl (gL.trans (by rw [afL rfl])));exact au (bK ((aQ u).trans ((am (aq (bM (fc (ai rfl rfl bQ) rfl) ea))).trans ((am (aq (bM (fc (ai rfl rfl bQ) rfl) Y))).trans (aB (ap (ac rfl (ac (ai (ai rfl (bo (ac rfl rfl)) (uE (by simp;lia))) rfl (uE (by rw [aaT];simp;lia))) rfl)) e))))))
 | h+1,n+1,lo,d,hn,⟨xs,e,h1,h2,r⟩,v=>by
  subst e;have v:2<=lo:=by lia
  obtain ⟨j,ej,hj⟩:=kT (c:=.lst xs) z r zy (fun i x h=>uv (b4 h)) (by lia) (by lia);have Z:=lT hj;obtain ⟨l,ys,_,e,y1,y2,y3⟩:=r _ (aaX hj);rw [e] at Z;obtain ⟨qs,e1,f1,a1,b1⟩:=ph z h n (mn h) (.tup [bW h,.tup ys]) (by lia) ⟨ys,rfl,y1,y2,y3⟩ (Z2 (lo:=2) (.inr (nE _)));obtain ⟨ps,ep,lp,M⟩:=md f1 (by lia);have J:(xs.take j).length=j:=by rw [abE];lia
  have I:(xs.drop (j+1)).length=xs.length - (j+1):=acu;have lL:(xs.take j++ps++xs.drop (j+1)).length=xs.length - 1+ps.length:=by rw [aaT,aaT,J,I];lia
  obtain ⟨rs,e,f⟩:=fresh (h:=h+1) (HN (xs.take j++ps++xs.drop (j+1))) (fun x g=>by
   rcases By.mp g with g|g
   .rcases By.mp g with g|g
    .exact r x (acg g)
    .exact M x g
   .exact r x (acD g)) (by show 2<=_;lia) (by lia)
  have fl:=f.l;refine ⟨rs,?_,f.n,by lia,by lia⟩;rw [ma,eh];have u:aZ (ak bD (uI 0 0) lH) [θ (.tup [bW (h+1),.tup xs]),θ (ax k),ξ,ξ,ξ,ξ,ξ]=.ok η:=aP (ai (ai rfl rfl bw) rfl (gL.trans (by rw [aat])));exact au ((skip u).trans (((am (aq (ap (ac rfl (ac rfl rfl)) ej))).trans ((am (aq (ap (ac (ai (ai rfl rfl (uv (b4 Z))) rfl bQ) (ac rfl rfl)) e1))).trans (aB (ap (ac rfl (ac (ai (ai (dR rfl rfl (bB rfl) (YC xs j)) (ap (ac rfl rfl) ep) (uE (by lia))) (dR rfl (bB (bJ rfl rfl)) rfl (Yk xs (j:=j+1) (by lia))) (uE (by grind))) rfl)) e))))))
theorem mD (v:Ok k):∀ (h n lo:Nat) (d:D),h < n->WN h lo d->(h=0\/2<=lo)->∃ d',bR n [d,ax k]=.ok d'/\WN h (mn h - 1) d'
 | _,0,_,_,hn,_,_=>absurd hn (adU _)
 | 0,n+1,lo,d,hn,⟨xs,e,h1,h2,hx⟩,u=>by
  subst e;obtain ⟨ks,rfl,J⟩:=W5 hx;rw [lE] at h1 h2;have la:=abv (fun l=>!PyData.eqv (rL l) (rL k)) ks;refine ⟨.tup [.str "leaf",.tup ((ks.filter fun l=>!PyData.eqv (rL l) (rL k)).map ax)],?_,_,rfl,aaQ _,by rw [lE];lia,fun x I=>?_⟩
  .rw [jp,cJ];have ea:cf (.one 0) Ft (ae 0) [ξ,θ (ax k)] (ks.map ax)=.ok (.lst ((ks.filter fun l=>!PyData.eqv (rL l) (rL k)).map ax)) :=
    iU ax ax _ ks (fun l hl=>aP (ai rfl rfl ((J l hl).ne v))) (fun _ _ _=>rfl) (by lia)
   have g:aZ (ak bD (uI 0 0) lH) [θ (.tup [bW 0,.tup (ks.map ax)]),θ (ax k),ξ,ξ,ξ]=.ok ζ:=aP (ai (ai rfl rfl bw) rfl (gL.trans (by rw [afL rfl])));exact au (bK ((aQ g).trans (aB (aA (ac rfl (ac (ap (ac (bM (fc (ai rfl rfl bQ) rfl) ea) rfl) nC) rfl))))))
  .obtain ⟨l,hl,rfl⟩:=BY.mp I;exact ⟨l,J l (aba.mp hl).1,rfl⟩
 | h+1,n+1,lo,d,hn,⟨xs,e,h1,h2,hx⟩,u=>by
  subst e;have u:2<=lo:=by lia
  obtain ⟨j,ej,C⟩:=kT (c:=.lst xs) v hx zy (fun i x h=>uv (b4 h)) (by lia) (by lia);have Y:=lT C;obtain ⟨l,ys,_,e,y1,y2,y3⟩:=hx _ (aaX C);rw [e] at Y;obtain ⟨d1,e1,zs,rfl,z1,L,Z⟩:=mD v h n (mn h) (.tup [bW h,.tup ys]) (by lia) ⟨ys,rfl,y1,y2,y3⟩ (Z2 (lo:=2) (.inr (nE _)));rw [jp,cJ];have g:aZ (ak bD (uI 0 0) lH) [θ (.tup [bW (h+1),.tup xs]),θ (ax k),ξ,ξ,ξ]=.ok η:=aP (ai (ai rfl rfl bw) rfl (gL.trans (by rw [aat])));have r:aZ (ak BX (aj bP (aa (uI 4 1) ag)) (vC pB)) [θ (.tup [bW (h+1),.tup xs]),θ (ax k),θ (.lst xs),θ (.int (j:Int)),θ (.tup [bW h,.tup zs])]=.ok (decide ((4:Int)<=(zs.length:Int))):=aP (ai (ck (ai rfl rfl bQ) vP) rfl Wc);have start:=fun T:FS=>(skip (S:=aM (aO (aa lH (aa (aj gp (aa (br [ξ,θ 1] (cU (uI 0 1)) (.one 0) Ft (ae 0)) ag)) ag)))) (T:=ao (az 2 (aj yG (aa (uI 0 1) ag))) (ao Vp (ao (az 4 (aj (bR n) (aa (ak aE (ak aE (ae 2) (ae 3)) Cw) (aa (ae 1) ag)))) T))) g).trans
   ((am (aq (ap (ac (ai rfl rfl bQ) rfl) Rs))).trans ((am (aq (ap (ac rfl (ac rfl rfl)) ej))).trans (am (aq (ap (ac (ai (ai rfl rfl (uv (b4 Y))) rfl bQ) (ac rfl rfl)) e1)))))
  by_cases h4:4<=zs.length
  .rw [afL (by lia)] at r;have m2:=Ue h;obtain ⟨ps,ep,M,z⟩:=md (h:=h) (qs:=[.tup [bW h,.tup zs]]) (fun q r=>by rw [aaS.mp r];exact ⟨zs,rfl,by lia,L,Z⟩) (by simp);have M:ps.length=1:=M;exact ⟨_,au ((start _).trans (bK ((aQ r).trans (aB (aA (ac rfl (ac (ap (ac (ai (ai (dR rfl rfl (bB rfl) (YC xs j)) (ap (ac (bo (ac rfl rfl)) rfl) ep) (uE (by rw [abE];lia))) (dR rfl (bB (bJ rfl rfl)) rfl (Yk xs (j:=j+1) (by lia))) (uE (by rw [aaT,abE,acu];lia))) rfl) nC) rfl))))))),AD hx z (by lia) (by lia) (by show 1<=_;lia) (by lia)⟩
  .rw [afK (by lia)] at r;obtain ⟨d',e2,n2⟩:=Oe hx (by lia) h2 C L Z;exact ⟨d',au ((start _).trans ((skip r).trans (aB (e2)))),n2.mono (by show 1<=_;lia)⟩
theorem EG (u:∀ q∈qs,WN h (mn h) q) (h1:1<=qs.length) (C:qs.length<=8):∃ h' d,h'<=h+1/\pA [.lst qs]=.ok d/\WN h' (rt h') d:=by
 by_cases o:qs.length=1
 .obtain ⟨q,rfl⟩:=acS.mp o;exact ⟨h,q,by lia,rfl,(u q (by simp)).mono (FR h)⟩
 .obtain ⟨ps,v,I,g⟩:=md u (by lia);obtain ⟨z,e,f⟩:=fresh (HN ps) g (by show 2<=_;lia) (by lia);have J:=f.l;obtain ⟨r,rfl⟩:=acS.mp (show z.length=1 by lia);exact ⟨h+1,r,nE _,au (((am ((wZ (aP ((uG.trans (by rw [afL (by lia)])))) (aq (ap (ac rfl (ac (v) rfl)) e))).trans rfl)).trans rfl)),(f.n r (by simp)).mono (FR (h+1))⟩
def aav (h:Nat):h=0\/2<=rt h:=by
 cases h with
 | zero=>exact .inl rfl
 | succ h=>exact .inr (nE _)
theorem ye (r:Ok k) (g:WN h (rt h) d) (hl:h < 40):∃ h' d',h'<=h+1/\iS [d,gu k,.int k.2.2.2]=.ok d'/\WN h' (rt h') d':=by
 obtain ⟨b,u⟩:=sL r g (by lia);obtain ⟨qs,e,f,a1,C⟩:=ph r h 40 (rt h) d hl g (aav h);obtain ⟨h',d',hb,z,v⟩:=EG f a1 (by lia);rw [un] at e;cases b with
 | true=>exact ⟨h,d,by lia,au (bK ((aQ (dF (u) rfl)).trans rfl)),g⟩
 | false=>exact ⟨h',d',hb,au ((skip (dF (u) rfl)).trans (aB (ap (ac (e) rfl) z))),v⟩
theorem rj (C:Ok k) (r:WN h (rt h) d) (hl:h < 40):∃ h' d',h'<=h/\dw [d,gu k,.int k.2.2.2]=.ok d'/\WN h' (rt h') d':=by
 obtain ⟨b,z⟩:=sL C r (by lia);obtain ⟨q,e,xs,rfl,I,v,u⟩:=mD C h 40 (rt h) d hl r (aav h);rw [un] at e;rw [oq,dz];cases b with
 | false=>exact ⟨h,d,nE _,au (bK ((aQ (Gu (b:=η) (ap (ac rfl (ac rfl (ac rfl rfl))) z))).trans (aB rfl))),r⟩
 | true =>
  have start:=fun T:FS=>(skip (S:=aM (ae 0)) (T:=ao (az 3 (aj eG (aa (ae 0) (aa Iq ag)))) T) (U:=[θ d,θ (gu k),θ (.int k.2.2.2),ξ]) (Gu (φ:=aj jz (aa (ae 0) (aa (ae 1) (aa (ae 2) ag)))) (b:=ζ) (ap (ac rfl (ac rfl (ac rfl rfl))) z))).trans (am (aq (ap (ac rfl (ac (aA (ac rfl (ac rfl rfl))) rfl)) e)));cases h with
  | zero=>exact ⟨0,_,nE _,au ((start _).trans ((skip (jr (aP (ai (ai rfl rfl bw) rfl (gL.trans (by rw [ZK])))))).trans (aB rfl))),xs,rfl,aaQ _,v,u⟩
  | succ h =>
   have I:1<=xs.length:=I;have Y:aZ (ak bD (uI 3 0) jX) [θ d,θ (gu k),θ (.int k.2.2.2),θ (.tup [bW (h+1),.tup xs])]=.ok ζ:=aP (ai (ai rfl rfl bw) rfl (gL.trans (by rw [afL rfl])));have g:aZ (ak bD (aj bP (aa (uI 3 1) ag)) Cw) [θ d,θ (gu k),θ (.int k.2.2.2),θ (.tup [bW (h+1),.tup xs])]=.ok (decide ((xs.length:Int)=1)):=pf (ck (ai rfl rfl bQ) vP) rfl;by_cases h1:xs.length=1
   .rw [afL (by lia)] at g;obtain ⟨x,rfl⟩:=acS.mp h1;obtain ⟨l,ys,_,rfl,L,M,J⟩:=u x (by simp);exact ⟨h,_,by lia,au ((start _).trans rfl),ys,rfl,Le (FR h) L,M,J⟩
   .rw [afK (by lia)] at g;exact ⟨h+1,_,nE _,au ((start _).trans ((skip (g)).trans rfl)),xs,rfl,by show 2<=_;lia,v,u⟩
def Py (k:Nat) (d:D):Prop:=∃ p,bx d=θ p/\p.canLay0=ζ/\p.depth<=k
theorem Py.list:∀ {ds:afW},(∀ d∈ds,Py k d)->∃ ps,bU ds=θ ps/\aa6 ps=ζ/\acb ps<=k/\ps.length=ds.length
 | [],_=>⟨[],rfl,rfl,aaQ _,rfl⟩
 | d::r,h=>by
  obtain ⟨p,h1,h2,g⟩:=h d (by simp);obtain ⟨ps,I,v,u,z⟩:=Py.list fun x C=>h x (iN _ C);refine ⟨p::ps,?_,?_,?_,by simp [z]⟩
  .rw [bU,h1,I];rfl
  .rw [aa6,h2,v];rfl
  .exact Nat.max_le.mpr ⟨g,u⟩
theorem Py.tup (h:∀ d∈ds,Py k d):Py (k+1) (.tup ds):=by
 obtain ⟨ps,r,g,u,v⟩:=Py.list h;exact ⟨.tuple ps,by rw [bx,r];rfl,g,by rw [acY];lia⟩
def Py.lst (h:∀ d∈ds,Py k d):Py (k+1) (.lst ds):=by
 obtain ⟨ps,r,g,u,v⟩:=Py.list h;exact ⟨.list ps,by rw [bx,r];rfl,g,by rw [acY];lia⟩
def Py.mono (h:Py k d) (g:k<=l):Py l d:=let ⟨p,a,b,c⟩:=h;⟨p,a,b,Le c g⟩
theorem Py.two (g:Py k a) (hb:Py k b):Py (k+1) (.tup [a,b]):=Py.tup fun d r=>by
 rcases mK.mp r with z|z
 .rw [z];exact g
 grind
def Py.int (i:Int):Py 0 (.int i):=⟨.int i,rfl,rfl,nE _⟩
theorem Py.shaped (h1:p.canLay0=ζ) (h2:p.depth<=k) (g:k<=60):aaP p=ζ:=by
 unfold aaP
 grind
def Py.self (h:Py k d) (u:k<=60) (hs:c8 d=ξ):jl d d=θ ζ:=by
 obtain ⟨p,v,g,r⟩:=h;have e:jl d d=eL d d:=by unfold jl;rw [hs]
 have s:=Py.shaped g r u;rw [e,eL,v];dsimp only;rw [afI ⟨s,s⟩,SeqAt.eqv_refl _ g]
def Py.ne (h:Py k d) (g:k<=60) (hs:c8 d=ξ):fh d d=.ok (.bl η):=by
 unfold fh;rw [h.self g hs];rfl
theorem Py.nil (h:∀ d∈ds,Py k d) (M:k<=50):fh (.lst ds) (.lst [])=.ok (.bl (decide (0 < ds.length))):=by
 obtain ⟨ps,J,g,L,u⟩:=Py.list h;have v:bx (.lst ds)=θ (.list ps):=by rw [bx,J];rfl
 have C:bx (.lst [])=θ (.list []):=rfl;have I:eL (.lst ds) (.lst [])=(abw (.list ps) (.list [])):=by
  unfold eL;rw [v,C];simp only;rw [afI ⟨Py.shaped (k:=k+1) g (by rw [acY];lia) (by lia),by decide⟩]
 have z:jl (.lst ds) (.lst [])=eL (.lst ds) (.lst []):=rfl;unfold fh;rw [z,I];cases ps with
 | nil =>
  have:ds.length=0:=by grind
  rw [this];rfl
 | cons p r =>
  have:0 < ds.length:=by rw [<- u];simp
  rw [afL this];rfl
def uO (h:B ((U.set i (θ a)).set j (θ b))=.ok (.nx δ')):cc (.tup [i,j]) B (.tup [a,b]::r) U=cc (.tup [i,j]) B r δ':=by
 rw [wq,Cd,aG,Fg,h,aG,zR]
def ov:D->D
 | .non=>.int 0
 | d=>d
def BH (h:Vl 40 d):nZ [d]=.ok (.tup [.int (kx d),ov d]):=by
 cases d with
 | non=>rfl
 | int i=>rfl
 | str z=>rfl
 | _=>exact h.elim
def kp (k:K4):ab7:=.tuple [.tuple [.int (T71.kx (gu k)),Mm (ov (gu k))],.int k.2.2.2]
def Ok.key (h:Ok k):dX [ax k]=.ok (.tup [.tup [.int (T71.kx (gu k)),ov (gu k)],.int k.2.2.2]):=by
 exact au (aB (aA (ac (ap (ac ((u0 k)) rfl) (BH h.v)) (ac ((u1 k)) rfl))))
def Uv (h:Vl 40 d):Vl 40 (ov d):=by
 cases d with
 | non=>exact aa9
 | int i=>exact aa9
 | str z=>exact h
 | _=>exact h.elim
def Ok.kp (h:Ok k):bx (.tup [.tup [.int (T71.kx (gu k)),ov (gu k)],.int k.2.2.2])=θ (kp k)/\KS.isK (T71.kp k)=ζ/\aaP (T71.kp k)=ζ:=by
 have v:=Uv h.v;obtain ⟨l1,l2⟩:=zH v;refine ⟨?_,rfl,?_⟩
 .rw [bx,bU,bx,bU,bU,wO v];rfl
 .unfold aaP T71.kp;rw [adG,aa6,adG,aa6,aa6,l1,acY,acb,acY,acb,acb,l2];rfl
theorem VN:∀ {l:List K4},(∀ k∈l,Ok k)->xo dX (l.map ax)=θ (l.map kp)
 | [],_=>rfl
 | k::r,h=>by
  have g:=h k (by simp);obtain ⟨h1,h2,u⟩:=g.kp;rw [GE,xo,g.key];dsimp only;rw [h1];show (if KS.isK (kp k)=ζ/\aaP (kp k)=ζ then (xo dX (r.map ax)).map (kp k::·) else ξ)=_;rw [afI ⟨h2,u⟩,VN fun x v=>h x (iN _ v)];rfl
theorem Sb {u v:D} (C:Vl 40 u) (g:Vl 40 v) (e:T71.kx u=T71.kx v):∃ r,LU.cpP .lt (Mm (ov u)) (Mm (ov v))=θ r:=by
 cases u with
 | non=>cases v with
  | non=>exact ⟨_,rfl⟩
  | int j=>exact absurd (show (0:Int)=1 from e) (by decide)
  | str z=>exact absurd (show (0:Int)=2 from e) (by decide)
  | _=>exact g.elim
 | int i=>cases v with
  | non=>exact absurd (show (1:Int)=0 from e) (by decide)
  | int j=>exact ⟨_,show LU.cpP .lt (.int i) (.int j)=_ by rw [LU.cpP]⟩
  | str z=>exact absurd (show (1:Int)=2 from e) (by decide)
  | _=>exact g.elim
 | str x=>cases v with
  | non=>exact absurd (show (2:Int)=0 from e) (by decide)
  | int j=>exact absurd (show (2:Int)=1 from e) (by decide)
  | str z=>exact ⟨_,show LU.cpP .lt (.str x) (.str z)=_ by rw [LU.cpP]⟩
  | _=>exact g.elim
 | _=>exact C.elim
def S0 {a b:K4} (u:Ok a) (hb:Ok b):∃ r,LU.cpP .lt (kp a) (kp b)=θ r:=by
 have g:=u.v;have z:=hb.v;have C:∀ i j , ∃ r,LU.cpPs .lt [.int i] [.int j]=θ r:=fun i j=>by
  rw [LU.cpPs];split
  .exact ⟨_,by rw [LU.cpPs]⟩
  .exact ⟨_,by rw [LU.cpP]⟩
 unfold kp;rw [LU.cpP,LU.cpPs];split
 .exact C _ _
 .rw [LU.cpP,LU.cpPs];split
  .rename_i h0 h1;have e  := by simpa [abw] using h1
   rw [LU.cpPs];split
   .exact ⟨_,by rw [LU.cpPs]⟩
   .exact Sb g z e
  .exact ⟨_,by rw [LU.cpP]⟩
def Pk (f:α->β) {a:α} {b:β} {l:List α} (h:∀ i∈p,i < l.length):KS.pkL b p (l.map f)=(KS.pkL a p l).map f:=by
 unfold KS.pkL;simp_all
def J7 {a:α} {l:List α} (h:p.Perm (aa7 l.length)):(KS.pkL a p l).Perm l:=by
 have:=h.map fun i=>l.getD i a
 rw [show (aa7 l.length).map (fun i=>l.getD i a)=l from KS.Ez a l] at this;exact this
def K6 (h:∀ k∈l,Ok k) (hl:l.length<=63):∃ ss:List K4,nJ dX [.lst (l.map ax)]=.ok (.lst (ss.map ax))/\ss.Perm l:=by
 obtain ⟨p,e⟩:=KS.GJ fun a v b hb=>by
  obtain ⟨x,u,rfl⟩:=BY.mp v;obtain ⟨y,hy,rfl⟩:=BY.mp hb;exact S0 (h x u) (h y hy)
 have g:=KS.mw e;rw [lE] at g;refine ⟨KS.pkL (0,0,[],0) p l,?_,J7 g⟩;unfold nJ;dsimp only;rw [afI (by simp_all),VN h,acf,e];dsimp only;rw [Pk ax fun i r=>abD.mp (g.mem_iff.mp r)]
theorem HJ {xs:afW}:atI (xs++[x]) (-1)=θ x:=by
 have e:IP (xs++[x]).length (-1)=xs.length:=by
  unfold IP;rw [afJ (by decide),aaT,acZ,afI (by lia)];congr 1;lia
 unfold atI;simp_all
theorem wU:∀ (rest g:List K4) (o:Option D),(∀ k∈g,Ok k)->(∀ k∈rest,Ok k)->g.length+rest.length<=900 ->
  ∃ (u:List K4) (J:Option D),cc (.one 2) nB (rest.map ax) [θ a,θ (.lst (g.map ax)),o]=.ok (.nx [θ a,θ (.lst (u.map ax)),J])/\(∀ k∈u,Ok k)/\u.length<=g.length+rest.length
 | [],g,o,oa,_,_=>⟨g,o,rfl,oa,by simp⟩
 | k::rest,g,o,oa,orr,hl=>by
  have ok:=orr k (by simp);rw [aaU] at hl;have v:aZ BI [θ a,θ (.lst (g.map ax)),θ (ax k)]=.ok (decide (g=[])):=aP (ai rfl (bo rfl) (eq_nil oa));obtain ⟨b,Y⟩:∃ b,kQ (aZ BI) (aZ (ak fh (ak aE (ae 1) (xG ut Cw)) (ae 2))) [θ a,θ (.lst (g.map ax)),θ (ax k)]=.ok b:=by
   by_cases C:g=[]
   .rw [afL C] at v;exact ⟨_,TM v⟩
   .rw [afK C] at v;obtain ⟨r,l,ea⟩:∃ r l,g=r++[l]:=by
     cases hacc:g.reverse with
     | nil=>exact absurd (List.reverse_eq_nil_iff.mp hacc) C
     | cons l r=>exact ⟨r.reverse,l,by rw [<- List.reverse_reverse g,hacc,ac4]⟩
    have M:aE (.lst (g.map ax)) (.int (-1))=.ok (ax l):=uv (by rw [ea,aa5];exact HJ);exact ⟨_,pH v (aP (ai (ai rfl rfl M) rfl ((oa l (by rw [ea];simp)).ne ok)))⟩
  have I:∀ x∈rest,Ok x:=fun x L=>orr x (iN _ L);cases b with
  | true =>
   obtain ⟨u,J,e,p2,Z⟩:=wU (a:=a) rest (g++[k]) (θ (ax k)) (fun x L=>by
    rcases By.mp L with z|z
    .exact oa x z
    .rw [aaS.mp z];exact ok) I (by rw [aaT,acZ];lia)
   refine ⟨u,J,?_,p2,by rw [aaT,acZ] at Z;rw [aaU];lia⟩;have t:nB (ac5 [θ a,θ (.lst (g.map ax)),o] 2 (θ (ax k)))=.ok (.nx [θ a,θ (.lst ((g++[k]).map ax)),θ (ax k)]):=by
    rw [aa5];exact (aQ Y).trans (e9 rfl rfl (by rw [lE];lia))
   rw [GE,bZ t];exact e
  | false =>
   obtain ⟨u,J,e,p2,Z⟩:=wU rest g ((ax k)) oa I (by lia);refine ⟨u,J,?_,p2,by grind⟩;have t:nB (ac5 [a,θ (.lst (g.map ax)),o] 2 ((ax k)))=.ok (.nx [a,θ (.lst (g.map ax)),(ax k)]):=(bv Y).trans rfl;rw [GE,bZ t];exact e
theorem wS {xs:List K4} (L:∀ k∈xs,Ok k) (hl:xs.length<=63):∃ h d,h<=1/\iO [.lst (xs.map ax)]=.ok d/\WN h (rt h) d:=by
 obtain ⟨u,e1,M⟩:=K6 L hl;have I:∀ k∈u,Ok k:=fun k C=>L k (M.mem_iff.mp C);have z:u.length=xs.length:=M.length_eq;obtain ⟨ks,o,e,p2,p3⟩:=wU (a:=.lst (xs.map ax)) u [] ξ (fun x g=>by cases g) I (by simp;lia);have Z:ks.length<=xs.length:=by simpa [z] using p3
 rw [tS,gg];have start:∀ T:FS,(ao (ff 1 (bE ag)) (ao (fK (cU (aj (nJ dX) (aa (ae 0) ag))) (.one 2) nB) T)) [θ (.lst (xs.map ax)),ξ,ξ]=T [θ (.lst (xs.map ax)),θ (.lst (ks.map ax)),o]:=fun T =>
  (am (ij (bo rfl))).trans (am (dh (fc (ap (ac rfl rfl) e1) rfl) e))
 have r:aZ BI [θ (.lst (xs.map ax)),θ (.lst (ks.map ax)),o]=.ok (decide (ks=[])):=aP (ai rfl (bo rfl) (eq_nil p2));by_cases v:ks=[]
 .rw [afL v] at r;have ee:g9 []=.ok (.tup [.str "leaf",.tup []]):=by
   rw [rK,fz];exact au (aB (aA (ac rfl (ac (aA rfl) rfl))))
  exact ⟨0,_,by lia,au ((start _).trans (bK ((aQ r).trans (aB (ap rfl ee))))),[],rfl,aaQ _,aaQ _,fun x g=>nomatch g⟩
 .rw [afK v] at r;have J:1<=ks.length:=List.length_pos_iff.mpr v;obtain ⟨qs,Y,f⟩:=fresh (h:=0) (HN (ks.map ax)) (fun x g=>by
   obtain ⟨k,C,rfl⟩:=BY.mp g;exact ⟨k,p2 k C,rfl⟩) (by rw [lE];exact J) (by grind)
  have fl:=f.l;rw [lE] at fl;obtain ⟨h,d,hb,er,nr⟩:=EG f.n (by lia) (by lia);exact ⟨h,d,hb,au ((start _).trans ((skip r).trans (aB (ap (ac (Y) rfl) er)))),nr⟩
noncomputable def ce (c:Str×Str):D:=.tup [.str c.1,.str c.2]
def wG (nm:Str) (cs:List (Str×Str)):D:=.tup [.str nm,.tup (cs.map ce)]
def mq (c:Str):List (Str×Str)->Nat
 | []=>0
 | q::r=>if q.1=c then 0 else mq c r+1
theorem gV:∀ {cs:List (Str×Str)},c∈cs.map LX->mq c cs < cs.length
 | [],h=>by simp at h
 | q::r,h=>by
  unfold mq;split
  .simp
  .rcases mK.mp h with z|z
   .grind
   .have:=gV z;simp;lia
def FK (h:B ((U.set i (θ a)).set j (θ b))=.ok (.rt d)):cc (.tup [i,j]) B (.tup [a,b]::r) U=.ok (.rt d):=by
 show ((B ((U.set i (a)).set j (b))).bind _)=_;rw [h];rfl
def Ix (h:ι U=.ok xs) (r:cc g B xs U=.ok (.rt d)):fK ι g B U=.ok (.rt d):=by rw [LQ,h,aG,Mi,r]
theorem Az:∀ (cs:List (Str×Str)) (j:Nat) (u g:Option D),c∈cs.map LX ->
  cc (.tup [2,3]) cpB (bn j (cs.map ce)) [θ a,θ (.str c),u,g]=.ok (.rt (.int ((j+mq c cs:Nat):Int)))
 | [],_,_,_,h=>by simp at h
 | q::r,j,u,g,h=>by
  have t:aZ (ak bD (uI 3 0) (ae 1)) [a,θ (.str c),θ (.int j),(ce q)]=.ok ((q.1=c)):=aP (gL);by_cases e:q.1=c
  .rw [afL e] at t
   have:mq c (q::r)=0:=by unfold mq;rw [afI e]
   rw [this];exact FK ((aQ t).trans rfl)
  .rw [afK e] at t;have z:mq c (q::r)=mq c r+1:=afJ e;rw [z];have h':c∈r.map LX:=by
    grind
   have C:=Az (a:=a) r (j+1) (θ (.int j)) ((ce q)) h';have v:((j+(mq c r+1)))=((j+1+mq c r:Nat)):=by lia
   rw [v,<- C];exact uO ((bv t).trans rfl)
def f9 (h:c∈cs.map LX):eN [wG nm cs,.str c]=.ok (.int (mq c cs:Int)):=by
 have e:=Az (a:=wG nm cs) cs 0 ξ ξ h;rw [adL] at e;refine au (bK (Ix ?_ e));rfl
abbrev v9:=Int×afW
def eV (g:List v9):List (Key×D):=g.map fun q=>(Key.inl q.1,D.tup q.2)
def oQ (ids:List (Str×D)):List (Key×D):=ids.map fun q=>(Key.inr q.1,q.2)
def mO (nm:Str) (cs:List (Str×Str)) (g:List v9) (ids:List (Str×D)):D:=.obj "Table" [("shape",wG nm cs),("rows",.dcf (eV g)),("indexes",.dcf (oQ ids))]
def Vh:G2 "Table" "shape" (mO nm cs rs ids)=.ok (wG nm cs):=by
 rfl
def xn (h:φ U=.ok d) (g:G2 n f d=.ok e):np n f φ U=.ok e:=by unfold np;rw [h,aG,g]
def Uz (h:φ U=.ok (.dct ds)):HG φ U=.ok (.dcf ds):=by unfold HG;rw [h];rfl
def cF (g:List v9) (n:Int):Option (afW):=(g.find? fun q=>decide (q.1=n)).map (·.2)
def ms (g:List v9) (n:Int) (r:afW):List v9:=if (cF g n).isSome=ζ then g.map fun q=>if q.1=n then (q.1,r) else q else g++[(n,r)]
def iC (g:List v9) (n:Int):List v9:=g.filter fun q=>decide (q.1≠n)
theorem jO (n:Int):∀ rs:List v9,bV (eV rs) (.inl n)=(cF rs n).map D.tup
 | []=>rfl
 | q::r=>by
  by_cases e:q.1=n
  .simp [eV,bV,cF,abl,e]
  .have:=jO n r
   simp [eV,bV,cF,abl,e] at this ⊢;exact this
theorem Dz (n:Int) (x:afW) (g:List v9):c9 (eV g) (.inl n) (.tup x)=eV (ms g n x):=by
 unfold c9 ms;rw [jO]
 have:((cF g n).map D.tup).isSome=(cF g n).isSome:=by grind
 rw [this];split
 .unfold eV;rw [abd,abd];apply abB
  intro q _;by_cases e:q.1=n
  .simp [e]
  .simp [e]
 .unfold eV;rw [aa5];rfl
def Bl (n:Int) (g:List v9):fW (eV g) (.inl n)=eV (iC g n):=by
 unfold fW iC eV;rw [List.filter_map];congr 1;apply List.filter_congr
 simp
theorem z9 (h:cF rs n=θ x):(n,x)∈rs:=by
 unfold cF at h;cases e:rs.find? fun q=>(q.1=n) with
 | none=>rw [e] at h;cases h
 | some q =>
  grind
def B5 (h:cF rs n=ξ):∀ q∈rs,q.1≠n:=fun q g e=>by
 have:=ad4.mp (aez.mp h) q g
 exact this (afL e)
def N0 (v:D) (n:Int):K4:=match v with
 | .int i=>(1,i,[],n)
 | .str z=>(2,0,z.cps.toList,n)
 | _=>(0,0,[],n)
def LR (v:D) (n:Int):(N0 v n).2.2.2=n:=by unfold N0;split <;> rfl
def tp (h:Vl 40 v):Ok (N0 v n)/\ax (N0 v n)=.tup [v,.int n]/\gu (N0 v n)=v:=by
 cases v with
 | non=>exact ⟨Ok.of rfl h,rfl,rfl⟩
 | int i=>exact ⟨Ok.of rfl h,rfl,rfl⟩
 | str z=>exact ⟨Ok.of rfl h,rfl,by rfl⟩
 | _=>exact h.elim
structure RowOk (m:Nat) (r:afW):Prop where
 len:r.length=m
 v:∀ v∈r,Vl 40 v
def eK (p:Nat) (q:v9):K4:=N0 (q.2.getD p .non) q.1
def RowOk.at_ (h:RowOk m r) (u:p < m):Vl 40 (r.getD p .non)/\r[p]?=θ (r.getD p .non):=by
 have g:p < r.length:=by rw [h.len];exact u
 have e  := lT g
 have:r.getD p .non=r[p]:=by simp_all
 rw [this];exact ⟨h.v _ (aaX g),e⟩
structure RsOk (m:Nat) (rs:List v9):Prop where
 nd:(rs.map LX).Nodup
 r:∀ q∈rs,RowOk m q.2
def qi (B:Nat) (d:D):Prop:=∃ h,h<=B/\WN h (rt h) d
theorem sK (h:RsOk m rs) (n:Int) (x:afW):(ms rs n x).Perm ((n,x)::iC rs n):=by
 unfold ms;cases e:cF rs n with
 | none =>
  have Y:iC rs n=rs:=ae0.mpr fun q M=>afL (B5 e q M);simp_all
 | some C =>
  rw [afI (show (θ C).isSome=ζ from rfl)];have v:=z9 e;have nd:=h.nd;clear h e;unfold iC;induction rs with
  | nil=>cases v
  | cons q r I =>
   rw [GE,aa4] at nd;by_cases g:q.1=n
   .have hr:∀ z∈r,z.1≠n:=fun z hz J=>nd.1 (BY.mpr ⟨z,hz,by rw [J,g]⟩);have L:(r.map fun q=>if q.1=n then (q.1,x) else q)=r:=by
     conv=>rhs;rw [<- List.map_id r]
     apply abB
     intro z hz;rw [afJ (hr z hz)];rfl
    have e2  := ae0.mpr fun z hz=>afL (hr z hz);rw [GE,afI g,L,ace,afJ (by simp [g]),e2,g]
   .rw [GE,afJ g,ace,afI (by simp [g])];have u:(n,C)∈r:=by
     grind
    exact ((I u nd.2).cons q).trans (List.Perm.swap _ _ _)
def qy (h:RsOk m rs) (n:Int):RsOk m (iC rs n) :=
 ⟨h.nd.sublist (adT.map _),fun q g=>h.r q (aba.mp g).1⟩
def Dd (g:List v9) (n:Int):∀ q∈iC g n,q.1≠n:=fun q r=>afM (aba.mp r).2
def Ke (h:RsOk m rs) (v:RowOk m x):RsOk m (ms rs n x):=by
 have u:=sK h n x;refine ⟨?_,fun q g=>?_⟩
 .refine (u.map LX).nodup_iff.mpr ?_;rw [GE,aa4];refine ⟨fun z=>?_,(qy h n).nd⟩;obtain ⟨q,g,e⟩:=BY.mp z;exact Dd rs n q g e
 .rcases mK.mp (u.mem_iff.mp g) with rfl|z
  .exact v
  .exact (qy h n).r q z
theorem EA (h:RsOk m rs) (n:Int) (x:afW):(ms rs n x).length<=rs.length+1:=by
 rw [(sK h n x).length_eq,aaU]
 have:(iC rs n).length<=rs.length:=abv _ _
 lia
def Ws (h:RsOk m rs) (g:p < m):∀ k∈rs.map (eK p),Ok k:=fun k u=>by
 obtain ⟨q,v,rfl⟩:=BY.mp u;exact (tp ((h.r q v).at_ g).1).1
theorem Pd (I:RowOk m x) (r:p < m) (hB:B < 40) (v:qi B d):∃ d',iS [d,x.getD p .non,.int n]=.ok d'/\qi (B+1) d':=by
 obtain ⟨h,hb,u⟩:=v;obtain ⟨o,_,C⟩:=tp (I.at_ r).1;obtain ⟨h',d',z,e,g⟩:=ye o u (by lia);rw [C,LR] at e;exact ⟨d',e,h',by lia,g⟩
theorem K2 (I:RowOk m x) (r:p < m) (hB:B < 40) (v:qi B d):∃ d',dw [d,x.getD p .non,.int n]=.ok d'/\qi B d':=by
 obtain ⟨h,hb,u⟩:=v;obtain ⟨o,_,C⟩:=tp (I.at_ r).1;obtain ⟨h',d',z,e,g⟩:=rj o u (by lia);rw [C,LR] at e;exact ⟨d',e,h',by lia,g⟩
def je (ids:List (Str×D)) (c:Str):Option D:=(ids.find? fun q=>decide (q.1=c)).map (·.2)
theorem oX (c:Str):∀ ids:List (Str×D),bV (oQ ids) (.inr c)=je ids c
 | []=>rfl
 | q::r=>by
  have g:=oX c r;by_cases e:q.1=c
  .simp [oQ,bV,je,abl,e]
  .simp [oQ,bV,je,abl,e] at g ⊢;exact g
def pJ (h:c∉ids.map LX):je ids c=ξ:=by
 unfold je;rw [ad4.mpr fun q g z=>h (BY.mpr ⟨q,g,afM z⟩)];rfl
theorem vU (hn:(ids.map LX).Nodup):∀ {q:Str×D},q∈ids->je ids q.1=θ q.2:=by
 induction ids with
 | nil=>grind
 | cons a r g =>
  intro q h;rw [GE,aa4] at hn;rcases mK.mp h with rfl|h
  .simp [je,abl]
  .have:a.1≠q.1:=fun e=>hn.1 (BY.mpr ⟨q,h,e.symm⟩)
   have g:=g hn.2 h;simp [je,abl,this] at g ⊢;exact g
def ua (h:c∉ids.map LX):c9 (oQ ids) (.inr c) d=oQ (ids++[(c,d)]):=by
 unfold c9;rw [oX,pJ h];unfold oQ;rw [aa5];rfl
def Nj (h:je ids c=θ d):pM (.dcf (oQ ids)) (.str c)=.ok d:=by
 show (match bV (oQ ids) (.inr c) with|some d=>R.ok d|none=>.no)=_
 rw [oX,h]
def Jc (h:cF rs n=θ x):pM (.dcf (eV rs)) (.int n)=.ok (.tup x):=by
 show (match bV (eV rs) (.inl n) with|some d=>R.ok d|none=>.no)=_
 rw [jO,h];rfl
def qr:gU (.int n) (.dcf (eV rs))=.ok (.bl (!(cF rs n).isSome)):=by
 show d7 ((bV (eV rs) (.inl n)).isSome) _=_;rw [jO];cases cF rs n <;> rfl
structure TbOk (B:Nat) (cs:List (Str×Str)) (rs:List v9) (ids:List (Str×D)):Prop where
 r:RsOk cs.length rs
 nd:(ids.map LX).Nodup
 i:∀ q∈ids,q.1∈cs.map LX/\qi B q.2
def xm (h:RowOk m x) (g:p < m):aE (.tup x) (.int (p:Int))=.ok (x.getD p .non):=ya (b4 (h.at_ g).2)
def kB (h:RsOk cs.length rs) (hB:B < 40) (g:c∈cs.map LX) (v:je ids c=θ d) (u:qi B d) :
  ∃ d',fT [mO nm cs rs ids,.str c,.int n]=.ok d'/\qi B d':=by
 have s1  := (Nj v);cases e:cF rs n with
 | none =>
  refine ⟨d,?_,u⟩;exact au ((am (aq s1)).trans (bK ((aQ (aP ((qr.trans (by rw [e];rfl))))).trans rfl)))
 | some C =>
  have hx0  := h.r _ (z9 e);obtain ⟨d',z,h1⟩:=K2 hx0 (gV g) hB u;refine ⟨d',?_,h1⟩;exact au ((am (aq s1)).trans ((skip (aP ((qr.trans (by rw [e];rfl))))).trans (aB (ap (ac rfl (ac (ai ((Jc e)) ((f9 g)) (xm hx0 (gV g))) rfl)) z))))
theorem mL (h:U[i]?=θ (θ (.dct kvs))) (r:ε U=.ok d) (g:ψ U=.ok k) (u:m4 k=θ kk) (hl:kvs.length < 1000):km i ψ ε U=.ok (.nx (U.set i (θ (.dct (c9 kvs kk d))))):=by
 unfold km;rw [h];show ((ε U).bind _)=_;rw [r,aG];rw [g,aG,u]
 grind
def Jl (h:U[i]?=θ (θ (.dct kvs))) (r:ψ U=.ok k) (g:m4 k=θ kk) (hl:(bV kvs kk).isSome=ζ):pY i ψ U=.ok (.nx (U.set i (θ (.dct (fW kvs kk))))):=by
 unfold pY;rw [h];show ((ψ U).bind _)=_;rw [r,aG,g];dsimp only;rw [afI hl]
theorem zA (h:RsOk cs.length rs) (L:RowOk cs.length x) (hB:B < 40) :
  ∀ (u g:List (Str×D)) (o5 o6:Option D),(∀ q∈u,je ids q.1=θ q.2/\q.1∈cs.map LX/\qi B q.2)->((g++u).map LX).Nodup->g.length+u.length < 1000 ->
   ∃ (out:List (Str×D)) (v C:Option D),cc (.one 5) ZR (u.map fun q=>D.str q.1) [θ (mO nm cs rs ids),θ (.int n),θ (.tup x),θ rd,θ (.dct (oQ g)),o5,o6]=.ok (.nx [θ (mO nm cs rs ids),θ (.int n),θ (.tup x),θ rd,θ (.dct (oQ (g++out))),v,C])/\out.map LX=u.map LX/\∀ q∈out,qi (B+1) q.2
 | [],g,o5,o6,_,_,_=>⟨[],o5,o6,by rw [abk];rfl,rfl,fun q J=>nomatch J⟩
 | q::r,g,o5,o6,J,nd,hln=>by
  obtain ⟨q1,I,q3⟩:=J q (by simp);obtain ⟨Z,e1,i1⟩:=kB (nm:=nm) (n:=n) h hB I q1 q3;obtain ⟨M,e2,i2⟩:=Pd (n:=n) L (gV I) hB i1;have Y:q.1∉g.map LX:=fun z=>by
   rw [aa5,GE,adE] at nd;exact nd.2.2 _ z _ aa8 rfl
  obtain ⟨out,v,C,e,eo,hi⟩:=zA (nm:=nm) (ids:=ids) (n:=n) (rd:=rd) h L hB r (g++[(q.1,M)]) (θ (.str q.1)) (θ Z) (fun z hz=>J z (iN _ hz)) (by simpa using nd) (by simp at hln ⊢;lia);refine ⟨(q.1,M)::out,v,C,?_,by rw [GE,GE,eo],fun z hz=>?_⟩
  .have t:ZR (ac5 [θ (mO nm cs rs ids),θ (.int n),θ (.tup x),θ rd,θ (.dct (oQ g)),o5,o6] 5 (θ (.str q.1)))=.ok (.nx [θ (mO nm cs rs ids),θ (.int n),θ (.tup x),θ rd,θ (.dct (oQ (g++[(q.1,M)]))),θ (.str q.1),θ Z]):=by
    rw [<- ua Y];exact (am (aq (ap (ac rfl (ac rfl (ac rfl rfl))) e1))).trans (mL rfl (ap (ac rfl (ac (ai rfl (ap (ac (xn rfl Vh) (ac rfl rfl)) (f9 I)) (xm L (gV I))) (ac rfl rfl))) e2) rfl rfl (by unfold oQ;rw [lE];lia))
   rw [GE,bZ t,e,abr];rfl
  grind
def AF (h:φ U=.ok (.dcf kvs)):sP φ U=.ok (kvs.map fun q=>nv q.1):=by unfold sP;rw [h];rfl
def vh (ids:List (Str×D)):(oQ ids).map (fun q=>nv q.1)=ids.map fun q=>D.str q.1:=by unfold oQ;rw [abd];rfl
theorem Fp (h:TbOk B cs rs ids) (C:RowOk cs.length x) (hl:rs.length<=600) (J:ids.length<=100) (hB:B < 40) :
  ∃ ids',kU [mO nm cs rs ids,.int n,.tup x]=.ok (mO nm cs (ms rs n x) ids')/\ids'.map LX=ids.map LX/\TbOk (B+1) cs (ms rs n x) ids':=by
 obtain ⟨out,o5,o6,e,v,u⟩:=zA (nm:=nm) (ids:=ids) (n:=n) (x:=x) h.r C hB ids [] ξ ξ (fun q g=>⟨vU h.nd g,h.i q g⟩) (by simpa using h.nd) (by simp;lia);refine ⟨out,?_,v,Ke h.r C,by rw [v];exact h.nd,fun q g=>⟨?_,u q g⟩⟩
 .refine au (((am (mL rfl rfl rfl rfl (by unfold eV;rw [lE];lia))).trans ?_));rw [Dz];refine ((am (dh ((AF rfl).trans (by rw [vh])) e)).trans ?_);rfl
 .have:q.1∈ids.map LX:=by grind
  obtain ⟨z,hz,I⟩:=BY.mp this;rw [<- I];exact (h.i z hz).1
theorem map_two {β:Type} {rest:Sd} (u v f:β->D) (xs:List β) (h:∀ x∈xs,ε (θ (u x)::θ (v x)::rest)=.ok (f x)) (hl:xs.length<=1000):cf (.tup [0,1]) gc ε (ξ::ξ::rest) (xs.map fun x=>D.tup [u x,v x])=.ok (.lst (xs.map f)):=by
 refine oV rfl (by grind) ?_;clear hl;induction xs with
 | nil=>rfl
 | cons x r z =>
  have h1:=h x (by simp);have g:=z (fun y hy=>h y (iN _ hy));show (ε ((u x)::(v x)::rest)).bind _=_;rw [h1,g];rfl
def F2 (h:φ U=.ok (.dcf kvs)):qb φ U=.ok (kvs.map fun q=>D.tup [nv q.1,q.2]):=by unfold qb;rw [h];rfl
def yu (g:List v9):(eV g).map (fun q=>D.tup [nv q.1,q.2])=g.map fun q=>D.tup [.int q.1,.tup q.2]:=by unfold eV;rw [abd];rfl
theorem wX (h:RsOk cs.length rs) (hl:rs.length<=600) (g:c∈cs.map LX):mH [mO nm cs rs ids,.str c]=.ok (.lst ((rs.map (eK (mq c cs))).map ax)):=by
 rw [abd];refine au ((am (aq ((f9 g)))).trans (aB (bM ((F2 rfl).trans (by rw [yu])) (map_two (fun q  => D.int q.1) (fun q=>D.tup q.2) _ rs (fun q u=>?_) (by lia)))));have v:=(h.r q u).at_ (gV g)
 have:=(tp (n:=q.1) v.1).2.1
 show _=R.ok (ax (N0 (q.2.getD (mq c cs) .non) q.1));rw [this];exact aA (ac ((xm (h.r q u) (gV g))) rfl)
theorem qP (h:TbOk B cs rs ids) (hB:1<=B) (hl:rs.length<=63) (J:ids.length<=100) (g:c∈cs.map LX) (hn:c∉ids.map LX) :
  ∃ d,i5 [mO nm cs rs ids,.str c]=.ok (mO nm cs rs (ids++[(c,d)]))/\TbOk B cs rs (ids++[(c,d)]):=by
 obtain ⟨u,d,hb,e,v⟩:=wS (xs:=rs.map (eK (mq c cs))) (Ws h.r (gV g)) (by simp_all);refine ⟨d,?_,h.r,?_,fun q I=>?_⟩
 .refine au (((am (mL rfl (ap (ac ((wX h.r (Le hl (by decide)) g)) rfl) e) rfl rfl (by unfold oQ;rw [lE];lia))).trans ?_));rw [ua hn];rfl
 .rw [aa5,adE];refine ⟨h.nd,by simp,fun a L b hb C=>?_⟩;simp_all
 .rcases By.mp I with z|z
  .exact h.i q z
  .obtain rfl:q=(c,d):=by simpa using z
   exact ⟨g,u,Le hb hB,v⟩
def EC (z:Str):Prop:=∀ c∈z.cps.toList,c∈tab
def Py.str (h:EC z):Py 0 (.str z):=⟨.str z,rfl,Ya z h,nE _⟩
def Gy (h:Vl 40 v):Py 0 v:=⟨Mm v,wO h,(zH h).1,by rw [(zH h).2];exact nE _⟩
def Pr (h:RowOk m r):Py 1 (.tup r):=Py.tup fun d g=>Gy (h.v d g)
def L7 {β:Type} (p:β->Bool) (xs:List β):ou [.lst (xs.map fun x=>D.bl (p x))]=.ok (.bl (xs.all p)):=by
 rw [Vw (zn p xs),List.all_map];rfl
def Ot {β:Type} {U rest:Sd} (u:β->D) (p:β->Bool) {xs:List β} (g:ι U=.ok (xs.map u)) (h:∀ x∈xs,ε (θ (u x)::rest)=.ok (.bl (p x))) (hl:xs.length<=1000) (r:dt ix U=ξ::rest:=by rfl):aj ou (aa (br ix ι (.one 0) gc ε) ag) U=.ok (.bl (xs.all p)) :=
 ap (ac (bM g (by rw [r];exact fV u (fun x=>D.bl (p x)) xs h hl)) rfl) (L7 p xs)
def XZ {β:Type} {U rest:Sd} (u v:β->D) (p:β->Bool) {xs:List β} (g:ι U=.ok (xs.map fun x=>D.tup [u x,v x])) (h:∀ x∈xs,ε (θ (u x)::θ (v x)::rest)=.ok (.bl (p x))) (hl:xs.length<=1000) (r:dt ix U=ξ::ξ::rest:=by rfl):aj ou (aa (br ix ι (.tup [0,1]) gc ε) ag) U=.ok (.bl (xs.all p)) :=
 ap (ac (bM g (by rw [r];exact map_two u v (fun x=>D.bl (p x)) xs h hl)) rfl) (L7 p xs)
def F1 {r:R D} (h:r=.ok (.bl a)) (e:a=b):r=.ok (.bl b):=by rw [h,e]
abbrev aaG:Str:=IF "abcdefghijklmnopqrstuvwxyz"
noncomputable def al:afO:=aaG.cps.toList
theorem Oq:al.length=26:=by trivial
def KD (i:Int):Nat:=al.getD (i % 26).toNat 0
theorem MH (i:Int):al[(i % 26).toNat]?=θ (KD i):=by
 have g:(i % 26).toNat < al.length:=by rw [Oq];lia
 unfold KD;simp_all
theorem MJ (i:Int):atI aaG.cps.toList (i % 26)=θ (KD i):=by
 have h:=b4 (MH i);rw [show (((i % 26).toNat))=i % 26 by lia] at h;exact h
def ws:afP:=["and","by","down","from","none","not","or","order","show","take"]
def ZP:List (afO):=(ws++([("where":Str)]:afP)).map fun z=>z.cps.toList
def okN (z:Str):Bool:=!decide (z="where")&&!C9 (.str z) (ws.map V.str)
theorem OB (h:okN z=η):z.cps.toList∈ZP:=by
 unfold okN at h;by_cases e:z="where"
 .rw [e];decide +kernel
 .rw [afK e] at h;have h  := by simpa using h
  unfold C9 at h;rw [List.any_map,List.any_eq_true] at h;obtain ⟨y,hy,e⟩:=h;have e:(y==z)=ζ:=e;rw [beq_iff_eq] at e;rw [<- e];exact BY.mpr ⟨y,abh _ hy,rfl⟩
def gw (a b:Str):(a++b).cps.toList=a.cps.toList++b.cps.toList:=by
 show (a.cps++b.cps).toList=_;simp
def uH (a b:Str):(a++b).length=a.length+b.length:=by
 rw [str_len,str_len,str_len,gw,aaT]
def II (h:c∈(kG z lo hi).cps.toList):c∈z.cps.toList:=by
 unfold kG at h;exact acD (acg (by simpa using h))
def MC (h:α U=.ok ds) (u:g z ds=r):Rc g (vC (.str z)) α U=r:=by
 show (aaJ g _ _ (.str z))=_;rw [Xx,h,aG,u]
theorem Hn (f:Nat->Nat) (n:Nat) (hn:n<=1000):∃ z:Str,lF "" [.lst ((aa7 n).map fun (k:Nat)=>D.str ⟨#[f k]⟩)]=.ok (.str z)/\z.cps.toList=(aa7 n).map f:=by
 have g:((aa7 n).map fun k=>(⟨#[f k]⟩:Str))=(((aa7 n).map f).map fun c=>⟨#[c]⟩):=by simp_all
 have r:(IF "").length=0:=by trivial
 refine ⟨_,MZ (strs_map (fun k=>(⟨#[f k]⟩)) (aa7 n)) (by rw [g,Cc,lE,abt];lia),?_⟩;rw [g,xa]
def VR (z:Str) (p:Nat):(kG z ξ (θ (p:Int))).cps.toList=z.cps.toList.take p:=by
 unfold kG;rw [HT.gh,HT.jB];rw [str_len];simp_all
def WD (z:Str) (p:Nat):(kG z (θ (p:Int)) ξ).cps.toList=z.cps.toList.drop p:=by
 unfold kG;rw [HT.gh,HT.jB];rw [str_len];rcases Nat.le_total p z.cps.toList.length with h|h
 .rw [acI h,abJ (by simp)]
 simp_all
structure NmOk (y:Str):Prop where
 l0:1<=y.length
 l1:y.length<=8
 al:∀ c∈y.cps.toList,c∈al
 ok:okN y=ζ
theorem uB (a b:Nat):(([a]:afO) < [b]) ↔ a < b:=by
 constructor
 .intro h;cases h with
  | rel h=>exact h
  | cons h=>cases h
 .exact fun h=>List.Lex.rel h
theorem Vv:∀ c∈al,97<=c/\c<=122:=by trivial
theorem V2 (c:Nat) (h:97<=c):BX (.str ⟨#[c]⟩) (.str "a")=.ok (.bl ζ):=by
 have g:(IF "a").cps.toList=[97]:=by trivial
 rw [Ur,g];simp only [uB];simp [h]
theorem UJ (c:Nat) (h:c<=122):Cs (.str ⟨#[c]⟩) (.str "z")=.ok (.bl ζ):=by
 have g:(IF "z").cps.toList=[122]:=by trivial
 rw [Ti,g];simp only [uB];simp [h]
def Bt (h:c∈al):oi [.str ⟨#[c]⟩]=.ok (.bl ζ):=by
 obtain ⟨h1,h2⟩:=Vv c h;exact au (aB (eY ((V2 c h1)) ((UJ c h2))))
theorem AN (h:NmOk y):jW [.str y]=.ok (.bl ζ):=by
 rw [Cm,jY];have hl:=h.l1;have l0:=h.l0;have ne:¬ y="":=fun e=>by
  rw [e] at l0;exact absurd l0 (by trivial)
 have u:aZ (ak bD (ae 0) (vC (.str ""))) [θ (.str y)]=.ok η:=aP (ai rfl rfl (gL.trans (by rw [afK ne])));have r:aZ (ak uT uS (vC gn)) [θ (.str y)]=.ok η:=aP (ai (ck rfl (LN.trans (afI (by lia)))) rfl (uG.trans (by rw [afK (by lia)])));have v:nh (.str y) i6=.ok (.bl ζ):=by
  have:nh (.str y) i6=.ok (.bl (!C9 (.str y) ((ws++[("where":Str)]).map V.str))):=rfl
  rw [this];have g:=h.ok;unfold okN at g;rw [Pi] at g;obtain ⟨k1,k2⟩:=g;unfold C9 at k2 ⊢;rw [aa5,List.any_append];have k1:¬ y="where":=by simpa using k1
  have k2:((ws.map V.str).any fun z=>L2.eqV z (.str y))=η:=by simpa using k2
  rw [k2]
  have:([("where":Str)].map V.str).any (fun z=>L2.eqV z (.str y))=η:=by
   show (("where"==y)||false)=η
   grind
  rw [this];rfl
 exact au ((skip ((pH u r))).trans (aB (eY (F1 (Ot (fun c  => D.str ⟨#[c]⟩) (fun _=>ζ) rfl (fun c C=>(Bt (h.al c C))) (by rw [<- str_len];lia)) (by simp)) (v))))
def Kd (z:Str):Prop:=z="number"\/z="text"
structure Sh (nm:Str) (cs:List (Str×Str)):Prop where
 n:NmOk nm
 l0:1<=cs.length
 l1:cs.length<=8
 nd:(cs.map LX).Nodup
 c:∀ q∈cs,NmOk q.1/\Kd q.2
theorem J2 {ks:afP} (h:ks.Nodup):iL ks=ks:=by
 have key:∀ n,iL (ks.take n)=ks.take n:=by
  intro n;induction n with
  | zero=>rfl
  | succ n g =>
   rcases ad3 n ks.length with hn|hn
   .rw [abo hn,jQ,g,afJ fun z=>?_]
    have:=(afh (n+1) ks)
    rw [abo hn] at this
    grind
   .rw [abJ (by lia)] at g ⊢;exact g
 have:=key ks.length
 rwa [aes] at this
theorem Jg {zs:afP} (h:zs.length<=100) (g:zs.Nodup):gT [.lst (zs.map D.str)]=.ok (.int (zs.length:Int)):=by
 have:gT [.lst (zs.map D.str)]=.ok (.int ((iL zs).length)):=by
  unfold gT;dsimp only;rw [((strs_map (fun z=>z) zs).trans (by rw [List.map_id']))]
  grind
 rw [this,J2 g]
def Bh (h:NmOk q.1/\Kd q.2):nD [ce q]=.ok (.bl ζ):=by
 have g:iB [.str q.2]=.ok (.bl ζ):=by
  rcases h.2 with e|e <;> rw [e] <;> kernel_rfl
 exact au (aB (eY rfl (eY ((AN h.1)) (g))))
section
theorem Sh.cols (h:Sh nm cs):hV [.tup (cs.map ce)]=.ok (.bl ζ):=by
 rw [rh,fE];have l0:=h.l0;have l1:=h.l1;have hl:∀ {U:Sd},aj bP (aa (ae 0) ag) (θ (.tup (cs.map ce))::U)=.ok (.int (cs.length:Int)):=ck rfl (qO _ _);have r:br [ξ] (cU (ae 0)) (.one 0) gc (uI 0 0) [θ (.tup (cs.map ce)),ξ]=.ok (.lst ((cs.map LX).map D.str)):=by
  rw [abd];exact (fV ce _ cs (fun q g=>ai rfl rfl bw) (by lia))
 refine au ((skip (pH rfl (pH (aP (ai hl rfl (BS.trans (by rw [afK (by lia)])))) (aP (ai hl rfl (uG.trans (by grind))))))).trans ((skip (mF (dF (F1 (Ot ce (fun _=>ζ) rfl (fun q g=>(Bh (h.c q g))) (by lia)) (by simp)) rfl))).trans ((am (aq r)).trans (aB ?_))));exact ai ((Jg (by grind) h.nd)) rfl (jw.trans (by simp_all))
theorem Sh.ok (h:Sh nm cs):qp [wG nm cs]=.ok (.bl ζ):=by
 exact au (aB (eY rfl (eY ((AN h.n)) (h.cols))))
end
structure Gv (kd:Str) (x:D):Prop where
 v:Vl 40 x
 f:jM [x,.str kd]=.ok (.bl ζ)
def Y0 (e:a.cps.toList=[n]) (h:n<=c):BX (.str ⟨#[c]⟩) (.str a)=.ok (.bl ζ):=by
 rw [Ur,e];simp only [uB];simp [h]
def Y7 (e:a.cps.toList=[n]) (h:c<=n):Cs (.str ⟨#[c]⟩) (.str a)=.ok (.bl ζ):=by
 rw [Ti,e];simp only [uB];simp [h]
def PQ:∀ c∈tab,32<=c/\c<=126:=by trivial
theorem Bu (h:Vl 40 (.str z)):iR [.str z]=.ok (.bl ζ):=by
 have hl:=h.1;refine au (bK ((aB (eY (ai (((afI (by lia)))) rfl (Ty.trans (by grind))) (F1 (Ot (fun c  => D.str ⟨#[c]⟩) (fun _=>ζ) rfl (fun c g=>?_) (by rw [<- str_len];lia)) (by simp))))));obtain ⟨h1,h2⟩:=PQ c (h.2 c g);exact au (aB (eY ((Y0 rfl h1)) ((Y7 rfl h2))))
def Jv:iR [.int a]=.ok (.bl (decide ((if a < 0 then -a else a) < 1000000000000000000))):=by
 rfl
def fk (hn:AW v .non=.ok (.bl η)) (hl:Vl 100 v) (g:iR [v]=.ok (.bl ζ)) (hb:decide (kw (kx v)=kd)=b):jM [v,.str kd]=.ok (.bl b):=by
 exact au (aB (Mp (hn) (eY (g) (ai ((kind hl)) rfl (gL.trans (by rw [hb]))))))
theorem lG (lo:Int) (n:Nat):cb lo (n+1)=.int lo::cb (lo+1) n:=by
 unfold cb;rw [List.range_succ_eq_map,GE,abd];refine congr ((by simp)) (abB fun k _=>?_);show D.int (lo+((k+1)))=_;lia
def PH:Gv kd .non:=⟨aa9,by
 rfl⟩
theorem F0 (h:-1000000000000000000 < a/\a < 1000000000000000000):Gv "number" (.int a) :=
 have hv  := F1 Jv ((by split <;> lia))
 ⟨aa9,fk rfl aa9 hv rfl⟩
def CN (h:Vl 40 (.str z)):Gv "text" (.str z) :=
 ⟨h,fk rfl (h.mono (by decide)) (Bu h) rfl⟩
structure RowG (cs:List (Str×Str)) (r:afW):Prop where
 len:r.length=cs.length
 v:∀ p∈r.zip cs,Gv p.2.2 p.1
theorem RowG.ok (h:RowG cs r):RowOk cs.length r:=⟨h.len,fun v u=>by
 obtain ⟨i,g,e⟩:=adQ.mp u;have z:i < cs.length:=by rw [<- h.len];exact g
 rw [<- e];exact (h.v (r[i],cs[i]) (adQ.mpr ⟨i,by grind,by simp_all⟩)).v⟩
section
theorem u9:∀ (r:afW) (cs:List (Str×Str)),g7 r (cs.map ce)=(r.zip cs).map fun q=>D.tup [q.1,ce q.2]
 | [],_=>by simp [g7]
 | _::_,[]=>by simp [g7]
 | a::r,c::cs=>by
  have:=u9 r cs
  unfold g7 at this ⊢;simp [this]
theorem RowG.fits (h:RowG cs r) (u:cs.length<=100):CL [wG nm cs,.tup r]=.ok (.bl ζ):=by
 have q:Ut [(wG nm cs),θ (.tup r),θ (.tup (cs.map ce))]=.ok η :=
  pH rfl (aP (ai rfl ((qO _ _)) (Uj.trans (by rw [h.len,afL rfl];rfl))))
 refine au (((skip q).trans (aB (F1 (XZ (fun q:D×Str×Str=>q.1) (fun q=>ce q.2) (fun _=>ζ) ?_ (fun q g=>(h.v q g).f) (by grind)) (by simp)))));rw [R6,(ac rfl rfl),aG,T3 rfl rfl,u9]
end
abbrev SB:FS:=RT
def wJ:Nat->Int->Int->List Int
 | 0,_,_=>[]
 | n+1,x,k=>((x*48271+11+k) % 2147483647)::wJ n ((x*48271+11+k) % 2147483647) (k+1)
theorem gz:∀ (n:Nat) (x k:Int),(wJ n x k).length=n
 | 0,_,_=>rfl
 | n+1,x,k=>by rw [wJ,aaU,gz n]
theorem oJ:∀ (n:Nat) (x k:Int),∀ y∈wJ n x k,0<=y/\y < 2147483647
 | 0,_,_,y,h=>nomatch h
 | n+1,x,k,y,h=>by
  rcases mK.mp h with rfl|h
  .exact ⟨abM _ (by decide),acd _ (by decide)⟩
  .exact oJ n _ _ y h
theorem As:∀ (n:Nat) (x k:Int) (g:List Int) (o4:Option D),g.length+n < 1000->∃ u r,cc (.one 4) SB (cb k n) [θ a,θ b,θ (.lst (g.map D.int)),θ (.int x),o4]=.ok (.nx [θ a,θ b,θ (.lst ((g++wJ n x k).map D.int)),u,r])
 | 0,x,k,g,o4,_=>⟨_,o4,by rw [wJ,abk];rfl⟩
 | n+1,x,k,g,o4,h=>by
  obtain ⟨u,r,e⟩:=As n ((x*48271+11+k) % 2147483647) (k+1) (g++[(x*48271+11+k) % 2147483647]) (θ (.int k)) (by simp;lia);refine ⟨u,r,?_⟩;have t:SB (ac5 [a,b,θ (.lst (g.map D.int)),θ (.int x),o4] 4 (θ (.int k)))=.ok (.nx [a,b,θ (.lst ((g++[(x*48271+11+k) % 2147483647]).map D.int)),θ (.int ((x*48271+11+k) % 2147483647)),θ (.int k)]):=by
   rw [aa5];exact (am (aq (av (bJ (bJ (gx rfl rfl) rfl) rfl) rfl))).trans (e9 rfl rfl (by grind))
  rw [lG,bZ t,e,abr];rfl
def ot (c:Int) (n:Nat):List Int:=wJ n (c % 2147483647) 0
theorem jD (c:Int) (n:Nat) (hn:n < 900):cI [.int c,.int (n:Int)]=.ok (.lst ((ot c n).map D.int)):=by
 obtain ⟨g,o4,e⟩:=As (a:=.int c) (b:=.int (n:Int)) n (c % 2147483647) 0 [] ξ (by simp;lia);rw [yw,jb];exact au ((am (ij (bo rfl))).trans ((am (aq (av rfl rfl))).trans ((am (dh (gm rfl (by lia)) e)).trans rfl)))
def OV (c:Int) (h:i < n):∃ y,(ot c n)[i]?=θ y/\0<=y/\y < 2147483647:=by
 have hl:i < (ot c n).length:=by unfold ot;rw [gz];exact h
 exact ⟨_,lT hl,oJ _ _ _ _ (aaX hl)⟩
def Md (x:Int):afO:=(aa7 (1+x % 6).toNat).map fun (j:Nat)=>KD (x/7+(0+(j:Int))*(0+(j:Int))*5)
def W3 (x:Int):Nat:=(x/11 % (((Md x).length:Int)+1)).toNat
def Qt (x k:Int):afO:=(Md x).take (W3 x)++113::(Md x).drop (W3 x)++[KD (x/13+k)]
def qY (x k:Int):Str:=⟨(Qt x k).toArray⟩
theorem E4 (x:Int):((Md x).length:Int)=1+x % 6:=by unfold Md;grind
theorem yq (x k:Int):((Qt x k).length:Int)=3+x % 6:=by
 have:=E4 x
 unfold Qt;simp;lia
theorem CP (x k:Int):mG [.int x,.int k]=.ok (.str (qY x k)):=by
 rw [FP,lm];obtain ⟨n,en,hn⟩:∃ n:Nat,1+x % 6=(n:Int)/\n<=6:=⟨(1+x % 6).toNat,by lia,by lia⟩;obtain ⟨z,I,r⟩:=Hn (fun j=>KD (x/7+(0+(j:Int))*(0+(j:Int))*5)) n (by lia);have g:z.cps.toList=Md x:=by rw [r];unfold Md;rw [en];rfl
 have M:z.length=n:=by rw [str_len,r,lE,abt]
 have L:Rc lF (vC (.str "")) (aa Wv ag) [θ (.int x),θ (.int k),θ (.str "abcdefghijklmnopqrstuvwxyz"),ξ,ξ]=.ok (.str z):=by
  refine MC (ac (bM (gm (n:=n) ((bJ rfl (av rfl rfl)).trans (by rw [en])) (by lia)) (fV _ _ _ (fun j v=>?_) (by rw [abt];lia))) rfl) I;have v:=abD.mp v;exact ai rfl (av (bJ (a9 rfl rfl) (gx (gx rfl rfl (by lia)) rfl)) rfl) (JJ (by trivial) (MJ _))
 obtain ⟨p,u⟩:∃ p:Nat,x/11 % ((n:Int)+1)=(p:Int):=⟨(x/11 % ((n:Int)+1)).toNat,by have:=abM (x/11) (show ((n:Int)+1)≠0 by lia);lia⟩;have C:ak bg (ak bX (ae 0) (vC (.int 11))) LF [θ (.int x),θ (.int k),θ (.str "abcdefghijklmnopqrstuvwxyz"),θ (.str z),ξ]=.ok (.int (p:Int)) :=
  (av (a9 rfl rfl) (bJ (ck rfl (LN.trans (afI (by lia)))) rfl) (by lia)).trans (by rw [M,u])
 have l1:=oY z ξ (θ (p:Int));have l2:=oY z (θ (p:Int)) ξ;have Z:(IF "q").length=1:=by trivial
 have l3:(⟨#[KD (x/13+k)]⟩:Str).length=1:=rfl;refine au ((am (aq rfl)).trans ((am (aq L)).trans ((am (aq C)).trans (aB ((ai (ai (ai (dR rfl rfl (bB rfl) (Vj.trans (afI (by lia)))) rfl (E1.trans (afI (by lia)))) (dR rfl (bB rfl) rfl (Vj.trans (afI (by lia)))) (E1.trans (afI (by rw [uH];lia)))) (ai rfl (av (bJ (a9 rfl rfl) rfl) rfl) (JJ (by trivial) (MJ _))) (E1.trans (afI (by rw [uH,uH];lia)))).trans ?_)))));congr 2;apply lP
 have J:(IF "q").cps.toList=[113]:=by trivial
 have Y:W3 x=p:=by unfold W3;rw [E4,en,u];rfl
 rw [gw,gw,gw,VR,WD,J,g];unfold qY Qt;rw [Y];simp
def Dv (i:Int):KD i∈al:=aaZ (MH i)
theorem NW (h:c∈Qt x k):c∈al:=by
 have hb:∀ c∈Md x,c∈al:=fun c g=>by
  obtain ⟨j,_,rfl⟩:=BY.mp g;exact Dv _
 rcases By.mp h with h|h
 .rcases By.mp h with h|h
  .exact hb c (acg h)
  .rcases mK.mp h with h|h
   .rw [h];decide +kernel
   grind
 .rw [aaS.mp h];exact Dv _
theorem Av (x k:Int):(qY x k).cps.toList=Qt x k:=by simp [qY]
theorem Mz (x k:Int):NmOk (qY x k):=by
 have hl:=yq x k;refine ⟨by rw [str_len,Av];lia,by rw [str_len,Av];lia,fun c g=>NW (by assumption),?_⟩;cases e:okN (qY x k) with
 | true=>rfl
 | false =>
  have h:=OB e;rw [Av] at h
  have:∀ w∈ZP,113∉w:=by trivial
  exact absurd (by unfold Qt;simp) (this _ h)
theorem P4:∀ a < 26,∀ d < 26,0 < d->al.getD ((a+d) % 26) 0≠al.getD a 0:=by trivial
theorem GN {i j:Nat} (h:i < j) (g:j < 26):qY x i≠qY x j:=fun e=>by
 have e:=afN (fun y  => y.cps.toList) e;have e:=(List.append_inj' e rfl).2;have k:=P4 ((x/13+i) % 26).toNat (by lia) (j - i) (by lia) (by lia);unfold KD at e
 grind
theorem GX:qY x k≠qY (x+1) l:=fun e=>by
 have e:=afN (fun y  => y.cps.toList.length) e;simp only [Av] at e;have h1:=yq x k;have h2:=yq (x+1) l;lia
abbrev LK:Str:=IF " !\"#$&'()*+,-./09:;<=>?@AZ[\\]^_`abyz{|}~"
def so:afO:=LK.cps.toList
theorem NT:so.length=40:=by trivial
def SA (i:Int):Nat:=so.getD (i % 40).toNat 0
theorem MD (i:Int):so[(i % 40).toNat]?=θ (SA i):=by
 have g:(i % 40).toNat < so.length:=by rw [NT];lia
 unfold SA;simp_all
theorem VS (i:Int):atI LK.cps.toList (i % 40)=θ (SA i):=by
 have h:=b4 (MD i);rw [show (((i % 40).toNat))=i % 40 by lia] at h;exact h
theorem To (i:Int):SA i∈tab:=by
 have:∀ c∈so,c∈tab:=by trivial
 exact this _ (aaZ (MD i))
theorem Yv (g:0<=i) (h1:i < 6):∃ z:Str,aE (.lst [.str "",.str "a",.str "ab",.str "b",.str "B",.str "a~"]) (.int i)=.ok (.str z)/\Vl 40 (.str z):=by
 have:i=0\/i=1\/i=2\/i=3\/i=4\/i=5:=by lia
 rcases this with rfl|rfl|rfl|rfl|rfl|rfl <;> exact ⟨_,rfl,by trivial,by trivial⟩
theorem YA (g:0<=i) (h1:i < 4):∃ j:Int,aE (.lst [.int a,.int b,.int c,.int d]) (.int i)=.ok (.int j)/\(j=a\/j=b\/j=c\/j=d):=by
 have:i=0\/i=1\/i=2\/i=3:=by lia
 rcases this with rfl|rfl|rfl|rfl
 .exact ⟨_,rfl,.inl rfl⟩
 .exact ⟨_,rfl,.inr (.inl rfl)⟩
 .exact ⟨_,rfl,.inr (.inr (.inl rfl))⟩
 .exact ⟨_,rfl,.inr (.inr (.inr rfl))⟩
def iZ (h1:φ U=.ok (.str a)) (h2:ψ U=.ok (.str b)):aZ (ak bD φ ψ) U=.ok (decide (a=b)):=aP (ai h1 h2 gL)
def d9 (h1:φ U=.ok (.int i)) (h2:ψ U=.ok (.int j)) (h:i=j):aZ (ak bD φ ψ) U=.ok ζ:=(pf h1 h2).trans (by simp_all)
def dm (h1:φ U=.ok (.int i)) (h2:ψ U=.ok (.int j)) (h:¬ i=j):aZ (ak bD φ ψ) U=.ok η:=(pf h1 h2).trans (by simp_all)
def Rq (h1:φ U=.ok (.str i)) (h2:ψ U=.ok (.str j)) (h:i=j):aZ (ak bD φ ψ) U=.ok ζ:=(iZ h1 h2).trans (by simp_all)
def Tz (h1:φ U=.ok (.str i)) (h2:ψ U=.ok (.str j)) (h:¬ i=j):aZ (ak bD φ ψ) U=.ok η:=(iZ h1 h2).trans (by simp_all)
theorem wL (h0:0<=x) (h1:x < 2147483647) (hk:Kd kd):∃ v,d5 [.int x,.str kd]=.ok v/\Gv kd v:=by
 rw [B9,jZ];have C:∀ T:FS,ao (az 2 (vC (.str LK))) T [θ (.int x),θ (.str kd),ξ,ξ]=T [θ (.int x),θ (.str kd),θ (.str LK),ξ]:=fun T=>am (aq rfl);have m6:∀ {j:Int},A2 [θ (.int x),θ (.str kd),θ (.str LK),ξ]=.ok (.int (x % 6)):=av rfl rfl;by_cases L:x % 6=0
 .exact ⟨.non,au ((C _).trans (bK ((aQ (d9 (av rfl rfl) rfl L)).trans (aB rfl)))),PH⟩
 have u:∀ {A T:FS},ao (bz (aZ (ak bD A2 (vC (.int 0)))) A ay) T [θ (.int x),θ (.str kd),θ (.str LK),ξ]=T [θ (.int x),θ (.str kd),θ (.str LK),ξ]:=skip (dm (av rfl rfl) rfl L);rcases hk with rfl|rfl
 .have nt:∀ {U:Sd},aZ Io (θ (.int x)::θ (.str "number")::U)=.ok η:=Tz rfl rfl (by trivial);by_cases g:x % 6=5
  .obtain ⟨j,ej,r⟩:=YA (a:=1000000000000000000 - 1) (b:=1 - 1000000000000000000) (c:=1000000000000000000 - 2) (d:=x*x*48271 % (2*1000000000000000000 - 1) - (1000000000000000000 - 1)) (show 0<=x/6 % 4 by lia) (by lia);have ef:Sn [θ (.int x),θ (.str "number"),θ (.str LK),ξ]=.ok (.int (x*x*48271 % (2*1000000000000000000 - 1) - (1000000000000000000 - 1))) :=
    jy (av (gx (gx rfl rfl ⟨by lia,by lia⟩) rfl) (jy (gx rfl vR) rfl)) (jy vR rfl)
   refine ⟨.int j,au ((C _).trans (u.trans ((skip (jr nt)).trans ((skip nt).trans (bK ((aQ (d9 (av rfl rfl) rfl g)).trans ((am (aq ef)).trans (aB (ai (bo (ac (jy vR rfl) (ac (jy rfl vR) (ac (jy vR rfl) (ac rfl rfl))))) (av (a9 rfl rfl) rfl) ej))))))))),F0 ?_⟩;have Z:0<=x*x*48271 % (2*1000000000000000000 - 1):=abM _ (by decide);have Y:x*x*48271 % (2*1000000000000000000 - 1) < 2*1000000000000000000 - 1:=acd _ (by decide);generalize x*x*48271 % (2*1000000000000000000 - 1)=t at Z Y r;rcases r with rfl|rfl|rfl|rfl <;> constructor <;> lia
  .exact ⟨.int (x/6 % 4 - 1),au ((C _).trans (u.trans ((skip (jr nt)).trans ((skip nt).trans ((skip (dm (av rfl rfl) rfl g)).trans (aB (jy (av (a9 rfl rfl) rfl) rfl))))))),F0 ⟨by lia,by lia⟩⟩
 .have nt:∀ {U:Sd},aZ Io (θ (.int x)::θ (.str "text")::U)=.ok ζ:=Rq rfl rfl rfl;by_cases g:x % 6=5
  .obtain ⟨n,en,hn⟩:∃ n:Nat,x/6 % 41=(n:Int)/\n<=40:=⟨(x/6 % 41).toNat,by lia,by lia⟩;obtain ⟨z,I,J⟩:=Hn (fun j=>SA (x/7+(0+(j:Int))*(0+(j:Int))*13)) n (by lia);refine ⟨.str z,au ((C _).trans (u.trans (bK ((aQ (eX nt (d9 (av rfl rfl) rfl g))).trans (aB (MC (ac (bM (gm (n:=n) ((av (a9 rfl rfl) rfl).trans (by rw [en])) (by lia)) (fV _ _ _ (fun j r=>?_) (by rw [abt];lia))) rfl) I)))))),CN ⟨by rw [str_len,J,lE,abt];exact hn,fun c M=>?_⟩⟩
   .have r:=abD.mp r;exact ai rfl (av (bJ (a9 rfl rfl) (gx (gx rfl rfl (by lia)) rfl)) rfl) (JJ (by trivial) (VS _))
   .rw [J] at M;obtain ⟨j,_,rfl⟩:=BY.mp M;exact To _
  .obtain ⟨z,I,hz⟩:=Yv (show 0<=x/6 % 6 by lia) (by lia);exact ⟨.str z,au ((u.trans ((skip (eX nt (dm rfl rfl g))).trans (bK ((aB (I))))))),CN hz⟩
def lv (x:Int) (kd:Str):D:=match d5 [.int x,.str kd] with
 | .ok v=>v
 | _=>.non
def mE (u:0<=x) (h1:x < 2147483647) (r:Kd kd):d5 [.int x,.str kd]=.ok (lv x kd)/\Gv kd (lv x kd):=by
 obtain ⟨v,e,g⟩:=wL u h1 r
 have:lv x kd=v:=by unfold lv;rw [e]
 rw [this];exact ⟨e,g⟩
def kf (ys:List Int) (j:Nat):Str:=if ys.getD (3+j) 0 % 3=2 then "text" else "number"
def SJ (ys:List Int) (j:Nat):Kd (kf ys j):=by unfold kf;split;exact .inr rfl;exact .inl rfl
def uU (ys:List Int) (n:Nat):List (Str×Str):=(aa7 n).map fun (j:Nat)=>(qY (ys.getD 1 0) (j:Int),kf ys j)
def zF (ys:List Int):Nat:=(1+ys.getD 2 0 % (if ys.getD 2 0/24 % 4=3 then 8 else 3)).toNat
theorem C3 (ys:List Int):1<=zF ys/\zF ys<=8:=by
 unfold zF;split <;> constructor <;> lia
def tq (ys:List Int) (n:Nat):(uU ys n).length=n:=by unfold uU;simp_all
theorem QW (x k:Int):Sh (qY x k) (uU ys (zF ys)):=by
 have h:=C3 ys;refine ⟨Mz _ _,by rw [tq];exact h.1,by rw [tq];exact h.2,?_,fun q g=>?_⟩
 .unfold uU;rw [abd,List.nodup_iff_pairwise_ne,List.pairwise_map];refine List.pairwise_lt_range.imp_of_mem fun {a b} ha hb hab=>?_;have hb:=abD.mp hb;exact GN hab (by lia)
 .obtain ⟨j,_,rfl⟩:=BY.mp g;exact ⟨Mz _ _,SJ _ _⟩
def cG {ys:List Int} (h:i < ys.length):aE (.lst (ys.map D.int)) (.int (i:Int))=.ok (.int (ys.getD i 0)):=by
 have e  := lT h;rw [ab2,e];exact oA _ _ e
abbrev ZW:FS:=TF
theorem Xc:aE (.lst [.str "number",.str "number",.str "text"]) (.int (i % 3))=.ok (.str (if i % 3=2 then "text" else "number")):=by
 have:i % 3=0\/i % 3=1\/i % 3=2:=by lia
 rcases this with e|e|e <;> rw [e] <;> rfl
theorem Aq (hy:ys.length=16):∀ (n j:Nat) (r:Option D),j+n<=8->∃ g,cc (.one 3) ZW (cb (j:Int) n) [θ (.lst (ys.map D.int)),θ kk,θ (.lst ((uU ys j).map ce)),r]=.ok (.nx [θ (.lst (ys.map D.int)),θ kk,θ (.lst ((uU ys (j+n)).map ce)),g])
 | 0,j,r,_=>⟨r,rfl⟩
 | n+1,j,r,h=>by
  obtain ⟨g,e⟩:=Aq hy n (j+1) (θ (.int (j:Int))) (by lia);refine ⟨g,?_⟩;have u:uU ys (j+1)=uU ys j++[(qY (ys.getD 1 0) (j:Int),kf ys j)]:=by unfold uU;rw [List.range_succ,aa5];rfl
  have t:ZW (ac5 [θ (.lst (ys.map D.int)),kk,θ (.lst ((uU ys j).map ce)),r] 3 (θ (.int j)))=.ok (.nx [θ (.lst (ys.map D.int)),kk,θ (.lst ((uU ys (j+1)).map ce)),θ (.int j)]):=by
   rw [u,aa5];refine e9 rfl (aA (ac (ap (ac ((cG (by lia))) rfl) (CP _ _)) (ac (ai rfl (av (ai rfl rfl (by exact cG (by lia))) rfl) Xc) rfl))) (by rw [lE,tq];lia)
  rw [lG,bZ t]
  have:(j:Int)+1=((j+1:Nat)):=by rfl
  rw [this,e,Nat.add_assoc,Nat.add_comm 1 n]
theorem Zb:aE (.lst [.int 3,.int 3,.int 3,.int 8]) (.int (i % 4))=.ok (.int (if i % 4=3 then 8 else 3)):=by
 have:i % 4=0\/i % 4=1\/i % 4=2\/i % 4=3:=by lia
 rcases this with e|e|e|e <;> rw [e] <;> rfl
theorem Ll (hy:ys.length=16) (k:Int):sE [.lst (ys.map D.int),.int k]=.ok (wG (qY (ys.getD 0 0) k) (uU ys (zF ys))):=by
 obtain ⟨g,e⟩:=Aq hy (zF ys) 0 ξ (by have:=(C3 ys).2;lia);rw [adL] at e;have hn:1+ys.getD 2 0 % (if ys.getD 2 0/24 % 4=3 then 8 else 3)=(zF ys):=by unfold zF;split <;> lia
 refine au (((am (dh (gm ?_ (by grind)) e)).trans (aB (aA (ac (ap (ac ((cG (by lia))) rfl) (CP _ _)) rfl)))));rw [<- hn];exact bJ rfl (av ((cG (by lia))) (ai rfl (av (a9 ((cG (by lia))) rfl) rfl) Zb) (by split <;> decide))
def Cz (x:Int) (cs:List (Str×Str)):afW:=(aa7 cs.length).map fun c=>lv ((ot x cs.length).getD c 0) (cs.getD c ("","")).2
theorem zi {nm:Str} {cs:List (Str×Str)} (h:Sh nm cs) (x:Int):oW [.int x,wG nm cs]=.ok (.tup (Cz x cs))/\RowG cs (Cz x cs):=by
 have l1:=h.l1;have key:∀ c < cs.length,Kd (cs.getD c ("","")).2/\0<=(ot x cs.length).getD c 0/\(ot x cs.length).getD c 0 < 2147483647/\cs[c]?=θ (cs.getD c ("","")):=fun c g=>by
  obtain ⟨y,e,v,z⟩:=OV x (n:=cs.length) g;have L:cs[c]?=θ cs[c]:=lT g;rw [ab2,L,ab2,e];exact ⟨(h.c _ (aaX g)).2,v,z,rfl⟩
 have hl:(ot x cs.length).length=cs.length:=gz _ _ _;refine ⟨?_,?_,fun p J=>?_⟩
 .rw [JF,oZ];have I:aj bP (aa uM ag) [θ (.int x),θ (wG nm cs),ξ]=.ok (.int (cs.length:Int)):=ck (ai rfl rfl bQ) (qO _ _);refine au ((am (aq (ap (ac rfl (ac I rfl)) (jD _ _ (by lia))))).trans (aB (ap (ac (bM (gm (n:=cs.length) (ck (ai rfl rfl bQ) (qO _ _)) (by lia)) ?_) rfl) nC)));rw [pE];refine fV _ _ _ (fun c g=>?_) (by rw [abt];lia);have g:=abD.mp g;obtain ⟨k1,k2,k3,k4⟩:=key c g;exact ap (ac (ai rfl rfl (cG (by rw [hl];exact g))) (ac (ai (ai (ai rfl rfl bQ) rfl (AY _ _ k4)) rfl bQ) rfl)) (mE k2 k3 k1).1
 .unfold Cz;rw [lE,abt]
 .obtain ⟨c,g,e⟩:=adQ.mp J;have r:c < cs.length:=by rw [List.length_zip] at g;lia
  obtain ⟨k1,k2,k3,k4⟩:=key c r;rw [List.getElem_zip] at e;have u:cs[c]=cs.getD c ("",""):=by rw [lT r] at k4;exact ab9 k4
  have hr:c < (Cz x cs).length:=by unfold Cz;rw [lE,abt];exact r
  have C:(Cz x cs)[c]=lv ((ot x cs.length).getD c 0) (cs.getD c ("","")).2:=by
   have q:(Cz x cs)[c]?=θ (lv ((ot x cs.length).getD c 0) (cs.getD c ("","")).2):=by unfold Cz;rw [acF,List.getElem?_range r];rfl
   grind
  rw [<- e,u,C];exact (mE k2 k3 k1).2
abbrev aan:FS:=SF
theorem AG (h:RsOk cs.length rs) (hB:B < 40) :
  ∀ (u g:List (Str×D)) (o4:Option D),(∀ q∈u,je ids q.1=θ q.2/\q.1∈cs.map LX/\qi B q.2)->((g++u).map LX).Nodup->g.length+u.length < 1000 ->
   ∃ (out:List (Str×D)) (v:Option D),cc (.one 4) aan (u.map fun q=>D.str q.1) [θ (mO nm cs rs ids),θ (.int n),θ rd,θ (.dct (oQ g)),o4]=.ok (.nx [θ (mO nm cs rs ids),θ (.int n),θ rd,θ (.dct (oQ (g++out))),v])/\out.map LX=u.map LX/\∀ q∈out,qi B q.2
 | [],g,o4,_,_,_=>⟨[],o4,by rw [abk];rfl,rfl,fun q C=>nomatch C⟩
 | q::r,g,o4,C,nd,hln=>by
  obtain ⟨L,M,Z⟩:=C q (by simp);obtain ⟨J,e1,i1⟩:=kB (nm:=nm) (n:=n) h hB M L Z;have I:q.1∉g.map LX:=fun z=>by
   rw [aa5,GE,adE] at nd;exact nd.2.2 _ z _ aa8 rfl
  obtain ⟨out,v,e,Y,hi⟩:=AG (nm:=nm) (ids:=ids) (n:=n) (rd:=rd) h hB r (g++[(q.1,J)]) (θ (.str q.1)) (fun z hz=>C z (iN _ hz)) (by simpa using nd) (by simp at hln ⊢;lia);refine ⟨(q.1,J)::out,v,?_,by rw [GE,GE,Y],fun z hz=>?_⟩
  .have t:aan (ac5 [θ (mO nm cs rs ids),θ (.int n),θ rd,θ (.dct (oQ g)),o4] 4 (θ (.str q.1)))=.ok (.nx [θ (mO nm cs rs ids),θ (.int n),rd,θ (.dct (oQ (g++[(q.1,J)]))),θ (.str q.1)]):=by
    rw [<- ua I];exact mL rfl (e1) rfl rfl (by unfold oQ;rw [lE];lia)
   rw [GE,bZ t,e,abr];rfl
  grind
theorem wz (h:TbOk B cs rs ids) (hn:(cF rs n).isSome=ζ) (hl:rs.length<=600) (I:ids.length<=100) (hB:B < 40) :
  ∃ ids',ic [mO nm cs rs ids,.int n]=.ok (mO nm cs (iC rs n) ids')/\ids'.map LX=ids.map LX/\TbOk B cs (iC rs n) ids':=by
 obtain ⟨out,o4,e,v,u⟩:=AG h.r hB ids [] ξ (fun q g=>⟨vU h.nd g,h.i q g⟩) (by simpa using h.nd) (by simp;lia);refine ⟨out,?_,v,qy h.r n,by rw [v];exact h.nd,fun q g=>⟨?_,u q g⟩⟩
 .refine au (((am (Jl rfl rfl rfl (by rw [jO];grind))).trans ?_));rw [Bl];refine ((am (dh ((AF rfl).trans (by rw [vh])) e)).trans ?_);rfl
 .have:q.1∈ids.map LX:=by grind
  obtain ⟨z,hz,C⟩:=BY.mp this;rw [<- C];exact (h.i z hz).1
def KY (h:φ U=.ok d):vF φ U=.ok (.nx U):=by unfold vF;rw [h];rfl
section
def i7 (hl:kvs.length < 1000):eJ [.dcf kvs,.str n,d]=.ok (.dcf (c9 kvs (.inr n) d)):=by
 exact au (((am (mL rfl rfl rfl rfl hl)).trans rfl))
def Hf (h:bV kvs (.inr n)=θ d):pM (.dcf kvs) (.str n)=.ok d:=by
 show (match bV kvs (.inr n) with|some d=>R.ok d|none=>.no)=_
 rw [h]
def QD:gU (.str n) (.dcf kvs)=.ok (.bl (!(bV kvs (.inr n)).isSome)):=rfl
def CI:vg (.str n) (.dcf kvs)=.ok (.bl (bV kvs (.inr n)).isSome):=rfl
def pd (h:bV kvs (.inr n)=θ d):pL [.dcf kvs,.str n]=.ok d:=by
 exact au ((skip (pH rfl (aP ((QD.trans (by rw [h];rfl)))))).trans (aB ((Hf h))))
def xN (h:Sh nm cs) (hn:bV kvs (.inr nm)=ξ) (hl:kvs.length < 1000):dG [.dcf kvs,wG nm cs]=.ok (.dcf (c9 kvs (.inr nm) (mO nm cs [] []))):=by
 exact au ((skip (mF (dF (h.ok) rfl))).trans ((skip (aP ((CI.trans (by rw [hn];rfl))))).trans (aB ((i7 hl)))))
def qF (h:1<=m/\m<=1000000000):fU [.int m]=.ok (.bl ζ):=by
 exact au (aB (eY rfl (eY rfl (eY ((Wc.trans (by simp_all))) ((Ty.trans (by simp_all)))))))
theorem F7 {m:Int} {x:afW} {t:D} (hs:Sh nm cs) (g:bV kvs (.inr nm)=θ (mO nm cs rs ids)) (hl:kvs.length < 1000) (r:1<=m/\m<=1000000000) (u:RowG cs x) (e:kU [mO nm cs rs ids,.int m,.tup x]=.ok t):cV [.dcf kvs,.str nm,.int m,.tup x]=.ok (.dcf (c9 kvs (.inr nm) t)):=by
 rw [ng,cX];exact au ((am (aq (ap (ac rfl (ac rfl rfl)) (pd g)))).trans ((skip (mF (dF (ap (ac rfl rfl) (qF r)) rfl))).trans ((skip (mF (dF ((u.fits (by have:=hs.l1;lia))) rfl))).trans (aB (ap (ac rfl (ac rfl (ac (e) rfl))) (i7 hl))))))
def AH {c:Str} {t:D} (g:bV kvs (.inr nm)=θ (mO nm cs rs ids)) (hl:kvs.length < 1000) (r:c∈cs.map LX) (hn:c∉ids.map LX) (e:i5 [mO nm cs rs ids,.str c]=.ok t):cu [.dcf kvs,.str nm,.str c]=.ok (.dcf (c9 kvs (.inr nm) t)):=by
 rw [kL,cj];exact au ((am (aq (ap (ac rfl (ac rfl rfl)) (pd g)))).trans ((skip ((aP (ai ((f9 r)) rfl rfl)))).trans ((skip (aP ((CI.trans (by rw [oX,pJ hn];rfl))))).trans (aB (ap (ac rfl (ac rfl (ac (e) rfl))) (i7 hl))))))
def B4 {m:Int} {t:D} (g:bV kvs (.inr nm)=θ (mO nm cs rs ids)) (hn:(cF rs m).isSome=ζ) (hl:kvs.length < 1000) (r:1<=m/\m<=1000000000) (e:ic [mO nm cs rs ids,.int m]=.ok t):de [.dcf kvs,.str nm,.int m]=.ok (.dcf (c9 kvs (.inr nm) t)):=by
 have u:fS [mO nm cs rs ids,.int m]=.ok .non:=by
  rw [ow,dD];have q:Tl [θ (mO nm cs rs ids),θ (.int m)]=.ok η:=pH (mF (dF ((qF r)) rfl)) (aP ((qr.trans (by rw [hn];rfl))));rw [bv q];rfl
 exact au ((am (aq ((pd g)))).trans ((am (KY (u))).trans (aB (ap (ac rfl (ac rfl (ac (e) rfl))) (i7 hl)))))
end
def DG (h:dG [st,sh]=.ok d):dU [st,.tup [.str "table",sh]]=.ok d:=by
 exact au ((am (aq rfl)).trans (bK ((aQ rfl).trans (aB (h)))))
def v5 (h:cu [st,a,b]=.ok d):dU [st,.tup [.str "index",a,b]]=.ok d:=by
 exact au ((am (aq rfl)).trans ((skip rfl).trans (bK ((aQ rfl).trans (aB (h))))))
def OY (h:cV [st,a,b,c]=.ok d):dU [st,.tup [.str "put",a,b,c]]=.ok d:=by
 exact au ((am (aq rfl)).trans ((skip rfl).trans ((skip rfl).trans (bK ((aQ rfl).trans (aB (h)))))))
def Kz (h:de [st,a,b]=.ok d):dU [st,.tup [.str "drop",a,b]]=.ok d:=by
 exact au ((am (aq rfl)).trans ((skip rfl).trans ((skip rfl).trans ((skip rfl).trans (aB (h))))))
structure Tq where
 nm:Str
 cs:List (Str×Str)
 rs:List v9
 ids:List (Str×D)
def Tq.d (q:Tq):D:=mO q.nm q.cs q.rs q.ids
def gB (s:List Tq):List (Key×D):=s.map fun q=>(Key.inr q.nm,q.d)
def Nw (s:List Tq) (nm:Str):Prop:=∀ q∈s,q.nm≠nm
section
variable {q:Tq}
def ux (h:Nw s nm):bV (gB s) (.inr nm)=ξ:=by
 unfold bV gB;rw [ad4.mpr fun x g=>?_]
 .rfl
 .obtain ⟨z,hz,rfl⟩:=BY.mp g;simpa using h z hz
def oF (s t:List Tq):gB (s++t)=gB s++gB t:=aa5
def val_last (h:Nw s q.nm):bV (gB (s++[q])) (.inr q.nm)=θ q.d:=by
 have hn:=ux h;unfold bV at hn ⊢;rw [oF,List.find?_append,aez.mp hn];simp [gB]
def Iw (h:Nw s q.nm):c9 (gB s) (.inr q.nm) q.d=gB (s++[q]):=by
 unfold c9;rw [ux h,oF];rfl
def pQ (h:Nw s q.nm) (e:q'.nm=q.nm):c9 (gB (s++[q])) (.inr q.nm) q'.d=gB (s++[q']):=by
 unfold c9;rw [val_last h,afI (show (θ q.d).isSome=ζ from rfl),oF,oF,aa5];congr 1
 .conv=>rhs;rw [<- List.map_id (gB s)]
  apply abB
  intro x g;obtain ⟨z,hz,rfl⟩:=BY.mp g;rw [afJ (by simpa using h z hz)];rfl
 .simp [gB,e]
end
def pW (s:List Tq):(gB s).length=s.length:=lE _
def W8 (q:Tq):D:=.tup [.str "table",wG q.nm q.cs]
def lj (nm c:Str):D:=.tup [.str "index",.str nm,.str c]
def ig (nm:Str) (p:Int×afW):D:=.tup [.str "put",.str nm,.int p.1,.tup p.2]
def US (nm:Str) (n:Int):D:=.tup [.str "drop",.str nm,.int n]
def qc (s:List Tq):List (Str×Str):=s.flatMap fun q=>q.ids.map fun p=>(q.nm,p.1)
def lC (s t:List Tq):qc (s++t)=qc s++qc t:=List.flatMap_append
noncomputable def Bv:D->List (Str×Str)
 | .tup [.str w,.str n,.str c]=>if w="index" then [(n,c)] else []
 | _=>[]
def X6 (x:D):Prop:=∃ w r,x=.tup (.str w::r)/\((w="index"/\∃ n c,r=[.str n,.str c])\/(¬ w="index"/\Bv x=[]))
structure St1 (s:List Tq) (x:D) (s':List Tq):Prop where
 c:dU [.dcf (gB s),x]=.ok (.dcf (gB s'))
 k:qc s'=qc s++Bv x
 w:X6 x
theorem n1:¬ (IF "table")="index":=by trivial
theorem n6:¬ (IF "put")="index":=by trivial
theorem n8:¬ (IF "drop")="index":=by trivial
inductive Go:List Tq->afW->List Tq->Prop where
 | nil (s:List Tq):Go s [] s
 | cons {s s1 s2:List Tq} {x:D} {xs:afW}:St1 s x s1->Go s1 xs s2->Go s (x::xs) s2
def Go.app (h:Go s xs s1) (g:Go s1 ys s2):Go s (xs++ys) s2:=by
 induction h with
 | nil=>exact g
 | cons e _ r=>exact .cons e (r g)
def JU (h:Go s xs s'):∀ g:Option D,∃ r,cc (.one 3) ZO xs [θ a,θ b,θ (.dcf (gB s)),g]=.ok (.nx [θ a,θ b,θ (.dcf (gB s')),r]):=by
 induction h with
 | nil s=>exact fun g=>⟨g,rfl⟩
 | cons e _ z =>
  rename_i s v C x xs _;intro g;obtain ⟨o,u⟩:=z (x);refine ⟨o,?_⟩;have t:ZO (ac5 [a,b,θ (.dcf (gB s)),g] 3 (x))=.ok (.nx [a,b,θ (.dcf (gB v)),x]):=aq (e.c);rw [bZ t];exact u
def vx (h:Go s xs s'):kz [.dcf (gB s),.lst xs]=.ok (.dcf (gB s')):=by
 obtain ⟨o,e⟩:=JU h ξ;exact au (((am (e)).trans rfl))
def JN (h:Go s xs s'):qc s'=qc s++xs.flatMap Bv:=by
 induction h with
 | nil=>simp
 | cons e _ g=>rw [g,e.k];simp
def Zr (h:Go s xs s'):∀ x∈xs,X6 x:=by
 induction h with
 | nil=>simp
 | cons e _ r=>intro x g;rcases mK.mp g with rfl|g;exact e.w;exact r x g
structure TOk (B:Nat) (q:Tq):Prop where
 sh:Sh q.nm q.cs
 t:TbOk B q.cs q.rs q.ids
 lr:q.rs.length<=40
 li:q.ids.length<=20
theorem Pc (hs:Sh q.nm q.cs) (hr:q.rs=[]) (g:q.ids=[]) (hn:Nw s q.nm) (hl:s.length < 500):St1 s (W8 q) (s++[q]):=by
 have r:q.d=mO q.nm q.cs [] []:=by unfold Tq.d;rw [hr,g]
 refine ⟨(DG (xN hs (ux hn) (by rw [pW];lia))).trans (by rw [<- r,Iw hn]),?_,_,_,rfl,.inr ⟨n1,rfl⟩⟩;rw [lC];simp [qc,g,W8,Bv]
abbrev S1 (q:Tq) (x:D) (q':Tq):Prop:=∀ s,Nw s q.nm->s.length < 500->St1 (s++[q]) x (s++[q'])
theorem S8 (h:TOk B q) (hB:1<=B) (g:c∈q.cs.map LX) (hn:c∉q.ids.map LX) (u:q.ids.length < 20):∃ d,TOk B { q with ids:=q.ids++[(c,d)] }/\S1 q (lj q.nm c) { q with ids:=q.ids++[(c,d)] }:=by
 obtain ⟨d,e,r⟩:=qP h.t hB (by have:=h.lr;lia) (by lia) g hn;refine ⟨d,⟨h.sh,r,h.lr,by simp;lia⟩,fun s hs hl=>⟨?_,?_,_,_,rfl,.inl ⟨rfl,_,_,rfl⟩⟩⟩
 .refine (v5 (AH (val_last hs) (by rw [pW];simp;lia) g hn e)).trans ?_;rw [<- pQ (q':={ q with ids:=q.ids++[(c,d)] }) hs rfl];rfl
 .rw [lC,lC];simp [qc,lj,Bv]
def vA {s:List Tq} {q:Tq} {r:List v9} {g:List (Str×D)} (e:g.map LX=q.ids.map LX):qc (s++[{ q with rs:=r,ids:=g }])=qc (s++[q])++[]:=by
 rw [lC,lC,abk];congr 1;have h:=afN (List.map fun c=>(q.nm,c)) e;rw [abd,abd] at h;unfold qc;rw [aeA,aeA];exact h
theorem MX (h:TOk B q) (hB:B < 40) (C:1<=m/\m<=1000000000) (v:RowG q.cs x) (hr:(ms q.rs m x).length<=40):∃ g,g.map LX=q.ids.map LX/\TOk (B+1) { q with rs:=ms q.rs m x,ids:=g }/\S1 q (ig q.nm (m,x)) { q with rs:=ms q.rs m x,ids:=g }:=by
 obtain ⟨g,e,u,z⟩:=Fp h.t v.ok (by have:=h.lr;lia) (by have:=h.li;lia) hB;have r:g.length=q.ids.length:=by rw [<- lE,u,lE]
 refine ⟨g,u,⟨h.sh,z,hr,by rw [r];exact h.li⟩,fun s hs hl=>⟨?_,?_,_,_,rfl,.inr ⟨n6,rfl⟩⟩⟩
 .refine (OY (F7 h.sh (val_last hs) (by rw [pW];simp;lia) C v e)).trans ?_;rw [<- pQ (q':={ q with rs:=ms q.rs m x,ids:=g }) hs rfl];rfl
 .exact vA u
theorem J3 (h:TOk B q) (hB:B < 40) (z:1<=m/\m<=1000000000) (hn:(cF q.rs m).isSome=ζ):∃ g,g.map LX=q.ids.map LX/\TOk B { q with rs:=iC q.rs m,ids:=g }/\S1 q (US q.nm m) { q with rs:=iC q.rs m,ids:=g }:=by
 obtain ⟨g,e,u,v⟩:=wz h.t hn (by have:=h.lr;lia) (by have:=h.li;lia) hB;have r:g.length=q.ids.length:=by rw [<- lE,u,lE]
 refine ⟨g,u,⟨h.sh,v,Le (abv _ _) h.lr,by rw [r];exact h.li⟩,fun s hs hl=>⟨?_,?_,_,_,rfl,.inr ⟨n8,rfl⟩⟩⟩
 .refine (Kz (B4 (val_last hs) hn (by rw [pW];simp;lia) z e)).trans ?_;rw [<- pQ (q':={ q with rs:=iC q.rs m,ids:=g }) hs rfl];rfl
 .exact vA u
abbrev SG (q:Tq) (xs:afW) (q':Tq):Prop:=q'.nm=q.nm/\q'.cs=q.cs/\∀ s,Nw s q.nm->s.length < 500->Go (s++[q]) xs (s++[q'])
def SG.nil (q:Tq):SG q [] q:=⟨rfl,rfl,fun s _ _=>.nil _⟩
def SG.one (h:S1 q x q') (r:q'.nm=q.nm) (g:q'.cs=q.cs):SG q [x] q':=⟨r,g,fun s hs hl=>.cons (h s hs hl) (.nil _)⟩
def SG.app (h:SG q xs q1) (g:SG q1 ys q2):SG q (xs++ys) q2:=⟨g.1.trans h.1,g.2.1.trans h.2.1,fun s hs hl=>(h.2.2 s hs hl).app (g.2.2 s (by rw [h.1];exact hs) hl)⟩
theorem yI (hB:1<=B):∀ (ys:afP) {q:Tq},TOk B q->(∀ c∈ys,c∈q.cs.map LX/\c∉q.ids.map LX)->ys.Nodup->q.ids.length+ys.length<=20->∃ q',TOk B q'/\SG q (ys.map (lj q.nm)) q'/\q'.rs=q.rs/\q'.ids.map LX=q.ids.map LX++ys
 | [],q,h,_,_,_=>⟨q,h,.nil q,rfl,by grind⟩
 | c::r,q,h,hc,nd,hl=>by
  obtain ⟨d,h1,g1⟩:=S8 h hB (hc c (by simp)).1 (hc c (by simp)).2 (by simp at hl;lia);rw [aa4] at nd;obtain ⟨q',h2,g2,u,g⟩:=yI hB r h1 (fun z hz=>⟨(hc z (iN _ hz)).1,fun w=>by
   grind⟩) nd.2 (by grind)
  refine ⟨q',h2,?_,u,by rw [g];simp⟩;exact (SG.one g1 rfl rfl).app g2
def rX (h:(cF rs m).isSome=ζ\/m=n):(cF (ms rs n x) m).isSome=ζ:=by
 have key:∀ l , (cF l m).isSome=ζ ↔ ∃ q∈l,q.1=m:=fun l=>by
  unfold cF;simp_all
 rw [key] at h ⊢;unfold ms;split
 .rename_i hs;have hs:∃ q∈rs,q.1=n:=by
   unfold cF at hs;simp_all
  obtain ⟨q,g,e⟩:∃ q∈rs,q.1=m:=by
   rcases h with h|h
   .exact h
   .rw [h];exact hs
  refine ⟨_,BY.mpr ⟨q,g,rfl⟩,?_⟩;split <;> exact e
 .rcases h with ⟨q,g,e⟩|e
  .exact ⟨q,abh _ g,e⟩
  simp_all
theorem Af:∀ (ps:List (Int×afW)) {q:Tq} {B:Nat},TOk B q->B+ps.length<=40->(∀ p∈ps,(1<=p.1/\p.1<=1000000000)/\RowG q.cs p.2)->q.rs.length+ps.length<=40->∃ q',TOk (B+ps.length) q'/\SG q (ps.map (ig q.nm)) q'/\q'.ids.map LX=q.ids.map LX/\q'.rs.length<=q.rs.length+ps.length/\∀ m,((cF q.rs m).isSome=ζ\/∃ p∈ps,p.1=m)->(cF q'.rs m).isSome=ζ
 | [],q,B,h,_,_,_=>⟨q,h,.nil q,rfl,nE _,fun m g=>g.elim id fun ⟨_,u,_⟩=>nomatch u⟩
 | p::r,q,B,h,hB,u,hl=>by
  have J:=EA h.t.r p.1 p.2;obtain ⟨C,L,h1,g1⟩:=MX h (by simp at hB;lia) (u p (by simp)).1 (u p (by simp)).2 (by simp at hl;lia);obtain ⟨q',h2,g2,I,v,hs⟩:=Af r h1 (by simp at hB;lia) (fun z hz=>u z (iN _ hz)) (by simp at hl ⊢;lia);refine ⟨q',?_,?_,I.trans L,by simp at v ⊢;lia,fun m g=>hs m ?_⟩
  .rw [aaU,show B+(r.length+1)=B+1+r.length by lia];exact h2
  .rw [GE];exact (SG.one g1 rfl rfl).app g2
  .rcases g with g|⟨z,hz,e⟩
   .exact .inl (rX (.inl g))
   .rcases mK.mp hz with rfl|hz
    .exact .inl (rX (.inr e.symm))
    .grind
def GS (h:fh a b=.ok (.bl k)):bD a b=.ok (.bl (!k)):=by
 have h:d7 (jl a b) (fun k=>!k)=.ok (.bl k):=h;show d7 (jl a b) (fun k=>k)=_;cases e:jl a b with
 | none=>rw [e] at h;cases h
 | some c =>
  rw [e] at h;cases h;cases c <;> rfl
theorem jF (h:NmOk y):EC y:=fun c g=>by
 have:∀ c∈al,c∈tab:=by trivial
 exact this c (h.al c g)
def LH (h1:Py k a) (h2:Py k b) (r:Py k c):Py (k+1) (.tup [a,b,c]):=Py.tup fun d g=>by
 simp at g;rcases g with rfl|rfl|rfl <;> assumption
def aal (h1:Py k a) (h2:Py k b) (r:Py k c) (u:Py k e):Py (k+1) (.tup [a,b,c,e]):=Py.tup fun d g=>by
 simp at g;rcases g with rfl|rfl|rfl|rfl <;> assumption
def Gg (h:(z.cps.toList.all fun c=>tab.contains c)=ζ):EC z:=fun c g=>by
 have:=abF.mp h c g
 simpa using this
section
variable {nm:Str} {cs:List (Str×Str)} {ys:List Int} (hs:Sh nm cs) (hy:ys.length=16)
def R1 (hn:NmOk nm) (g:NmOk c):Py 1 (lj nm c):=LH (Py.str (Gg rfl)) (Py.str (jF hn)) (Py.str (jF g))
abbrev LP:FT:=SZ
abbrev Mx:FE:=LJ
include hy in
theorem Au:∀ (l:List (Str×Str)) (j:Nat),j+l.length < 1000->∃ L:List (Str×Str),L.Sublist l/\dI (.tup [0,1]) LP Mx [ξ,ξ,θ (.tup [.str nm,P]),θ (.lst (ys.map D.int))] (bn j (l.map ce))=.ok (L.map fun c=>lj nm c.1)
 | [],_,_=>⟨[],.slnil,rfl⟩
 | c::r,j,hj=>by
  obtain ⟨L,h1,h2⟩:=Au r (j+1) (by simp at hj;lia);have q:LP [θ (.int (j:Int)),θ (ce c),θ (.tup [.str nm,P]),θ (.lst (ys.map D.int))]=.ok (decide (ys.getD 4 0/((j:Int)+1) % 3=0)):=pf (av (a9 (ai rfl rfl (cG (i:=4) (by lia))) (bJ rfl rfl) ⟨by lia,by simp at hj;lia⟩) rfl) rfl;have z:Mx [θ (.int (j:Int)),θ (ce c),θ (.tup [.str nm,P]),θ (.lst (ys.map D.int))]=.ok (lj nm c.1):=aA (ac rfl (ac (ai rfl rfl bw) (ac (ai rfl rfl bw) rfl)));have e:dI (.tup [0,1]) LP Mx [ξ,ξ,θ (.tup [.str nm,P]),θ (.lst (ys.map D.int))] (bn j ((c::r).map ce))=(LP [θ (.int (j:Int)),θ (ce c),θ (.tup [.str nm,P]),θ (.lst (ys.map D.int))]).bind fun b=>if b=ζ then (Mx [θ (.int (j:Int)),θ (ce c),θ (.tup [.str nm,P]),θ (.lst (ys.map D.int))]).bind fun y=>(dI (.tup [0,1]) LP Mx [ξ,ξ,θ (.tup [.str nm,P]),θ (.lst (ys.map D.int))] (bn (j+1) (r.map ce))).bind fun ys=>.ok (y::ys) else dI (.tup [0,1]) LP Mx [ξ,ξ,θ (.tup [.str nm,P]),θ (.lst (ys.map D.int))] (bn (j+1) (r.map ce)):=rfl;rw [e,q,aG];by_cases g:ys.getD 4 0/((j:Int)+1) % 3=0
  .rw [afL g,afI rfl,z,aG,h2,aG];exact ⟨c::L,h1.cons_cons c,rfl⟩
  grind
abbrev oo (nm:Str) (cs:List (Str×Str)) (ys:List Int) (k most:Int) (o4 o5 o6 o7 o8 o9:Option D):Sd:=[θ (wG nm cs),θ (.lst (ys.map D.int)),θ (.int k),θ (.int most),o4,o5,o6,o7,o8,o9]
structure Cl (cs:List (Str×Str)) (E:afP):Prop where
 nd:E.Nodup
 m:∀ c∈E,c∈cs.map LX
 l:E.length<=8
include hs hy in
theorem KB:∃ E:afP,Cl cs E/\∀ T:FS,ao (az 4 (br [ξ,ξ,θ 0,θ 1] (bL (aa oI ag)) (.tup [0,1]) LP Mx)) (ao V9 T) (oo nm cs ys k most ξ ξ ξ ξ ξ ξ)=T (oo nm cs ys k most (θ (.lst (E.map (lj nm)))) ξ ξ ξ ξ ξ):=by
 have l1:=hs.l1;obtain ⟨L,h1,h2⟩:=Au (nm:=nm) (P:=.tup (cs.map ce)) hy cs 0 (by lia);have r:br [ξ,ξ,θ 0,θ 1] (bL (aa oI ag)) (.tup [0,1]) LP Mx (oo nm cs ys k most ξ ξ ξ ξ ξ ξ)=.ok (.lst (L.map fun c=>lj nm c.1)):=by
  refine bM (xs:=bn 0 (cs.map ce)) ?_ (oV rfl (by rw [i0,lE];lia) h2);rw [GM,ac (ai rfl rfl bQ) rfl,aG];rfl
 have nd:(L.map LX).Nodup:=hs.nd.sublist (h1.map _);have u:∀ c∈L.map LX,c∈cs.map LX:=fun c g=>(h1.map _).subset g;have hl:(L.map LX).length<=8:=by rw [lE];exact Le h1.length_le l1
 have v:L.map (fun c=>lj nm c.1)=(L.map LX).map (lj nm):=by rw [abd];rfl
 rw [v] at r;by_cases g:ys.getD 14 0 % 3=0
 .refine ⟨(L.map LX).reverse,⟨(List.reverse_perm _).nodup_iff.mpr nd,fun c h=>u c (List.mem_reverse.mp h),by rw [aeZ];exact hl⟩,fun T=>?_⟩;refine (am (aq r)).trans (am ((aQ (d9 (av (ai rfl rfl (cG (i:=14) (by lia))) rfl) rfl g)).trans (aq ?_)));rw [List.map_reverse];rfl
 .exact ⟨L.map LX,⟨nd,u,hl⟩,fun T=>(am (aq r)).trans (skip (dm (av ((cG (i:=14) (by lia))) rfl) rfl g))⟩
include hs in
theorem Ve (h:Cl cs E):∀ d∈E.map (lj nm),Py 1 d:=fun d g=>by
 obtain ⟨c,u,rfl⟩:=BY.mp g;obtain ⟨q,r,rfl⟩:=BY.mp (h.m c u);exact R1 hs.n (hs.c q r).1
abbrev Yr:FT:=(dc (aZ NR) (aZ Ge))
abbrev aaa:FE:=Vy
include hs hy in
theorem NF (I:Cl cs E):∃ F:afP,Cl cs F/\(∀ c∈F,c∉E)/\∀ T:FS,ao (az 5 (bE ag)) (ao (bz Yr (az 5 aaa) ay) T) (oo nm cs ys k most (θ (.lst (E.map (lj nm)))) ξ ξ ξ ξ ξ)=T (oo nm cs ys k most (θ (.lst (E.map (lj nm)))) (θ (.lst (F.map (lj nm)))) ξ ξ ξ ξ):=by
 have l0:=hs.l0;have g:∀ {o:Option D},aZ NR (oo nm cs ys k most (θ (.lst (E.map (lj nm)))) o ξ ξ ξ ξ)=.ok (decide (ys.getD 5 0 % 2=0)):=pf (av (ai rfl rfl (cG (i:=5) (by lia))) rfl) rfl;have v:∀ {o:Option D},aZ Ge (oo nm cs ys k most (θ (.lst (E.map (lj nm)))) o ξ ξ ξ ξ)=.ok (!decide (0 < (E.map (lj nm)).length)):=aP (ai rfl (bo rfl) (GS (Py.nil (Ve hs I) (by decide))));have z:∀ T:FS,Yr (oo nm cs ys k most (θ (.lst (E.map (lj nm)))) (θ (.lst [])) ξ ξ ξ ξ)=.ok η->∃ F:afP,Cl cs F/\(∀ c∈F,c∉E)/\∀ T:FS,ao (az 5 (bE ag)) (ao (bz Yr (az 5 aaa) ay) T) (oo nm cs ys k most (θ (.lst (E.map (lj nm)))) ξ ξ ξ ξ ξ)=T (oo nm cs ys k most (θ (.lst (E.map (lj nm)))) (θ (.lst (F.map (lj nm)))) ξ ξ ξ ξ):=fun _ h =>
  ⟨[],⟨abG,(fun c h=>nomatch h),by decide⟩,(fun c h=>nomatch h),fun T=>(am (aq (bo rfl))).trans (skip h)⟩
 by_cases u:ys.getD 5 0 % 2=0
 .cases E with
  | cons a r=>exact z ay (eX (g.trans (by rw [afL u])) (v.trans (by rw [afL (by simp)];rfl)))
  | nil =>
   obtain ⟨p,J,C⟩:∃ p:Nat,ys.getD 6 0 % (cs.length:Int)=(p:Int)/\p < cs.length:=⟨(ys.getD 6 0 % (cs.length:Int)).toNat,by have:=abM (ys.getD 6 0) (show (cs.length:Int)≠0 by lia);lia,by have:=acd (ys.getD 6 0) (show (0:Int) < cs.length by lia);have:=abM (ys.getD 6 0) (show (cs.length:Int)≠0 by lia);lia⟩;refine ⟨[cs[p].1],⟨by simp,fun c L=>?_,by simp⟩,(fun c _ h=>nomatch h),fun T=>?_⟩
   .rw [aaS.mp L];exact BY.mpr ⟨_,aaX C,rfl⟩
   .refine (am (aq (bo rfl))).trans (am ((aQ (eX (g.trans (by rw [afL u])) (v.trans rfl))).trans (aq ?_)));refine bo (ac (aA (ac rfl (ac rfl (ac (ai (ai rfl (av ((cG (i:=6) (by lia))) ((qO _ _)) (by lia)) (by rw [J];exact AY _ _ (lT C))) rfl bw) rfl)))) rfl)
 .exact z ay (jr (g.trans (by simp_all)))
def ur (ys:List Int) (k:Int) (j:Nat):Int:=1+k+3*(((j:Int)+ys.getD 8 0)*7 % 50)+999999800*(if decide (ys.getD 13 0 % 4=0)=ζ then 1 else 0)
theorem Px (h:0<=k/\k<=2) (j:Nat):1<=ur ys k j/\ur ys k j<=1000000000:=by
 unfold ur;lia
abbrev PB:FS:=T8
def Pw (ys:List Int) (k:Int) (cs:List (Str×Str)):Nat->List Int->List (Int×afW)
 | _,[]=>[]
 | j,z::r=>(ur ys k j,Cz z cs)::Pw ys k cs (j+1) r
theorem zh {k:Int}:∀ (j:Nat) (zs:List Int),(Pw ys k cs j zs).length=zs.length
 | _,[]=>rfl
 | j,z::r=>by rw [Pw,aaU,zh,aaU]
include hs in
theorem Gx (h:0<=k/\k<=2):∀ (j:Nat) (zs:List Int),∀ p∈Pw ys k cs j zs,(1<=p.1/\p.1<=1000000000)/\RowG cs p.2
 | _,[],p,hp=>nomatch hp
 | j,z::r,p,hp=>by
  rcases mK.mp hp with rfl|hp
  .exact ⟨Px h j,(zi hs z).2⟩
  .exact Gx h (j+1) r p hp
include hs hy in
theorem Dy:∀ (zs:List Int) (j:Nat) (g:List (Int×afW)) (o7 o8 o9:Option D),g.length+zs.length < 900->∃ u v C,cc (.tup [7,8]) PB (bn j (zs.map D.int)) (oo nm cs ys k most o4 o5 (θ (.lst (g.map (ig nm)))) o7 o8 o9)=.ok (.nx (oo nm cs ys k most o4 o5 (θ (.lst ((g++Pw ys k cs j zs).map (ig nm)))) u v C))
 | [],j,g,o7,o8,o9,_=>⟨o7,o8,o9,by rw [Pw,abk];rfl⟩
 | z::r,j,g,o7,o8,o9,h=>by
  obtain ⟨u,v,C,e⟩:=Dy r (j+1) (g++[(ur ys k j,Cz z cs)]) (θ (.int (j:Int))) (θ (.int z)) (θ (.int (ur ys k j))) (by simp at h ⊢;lia);refine ⟨u,v,C,?_⟩;have t:PB (oo nm cs ys k most o4 o5 (θ (.lst (g.map (ig nm)))) (θ (.int (j:Int))) (θ (.int z)) o9)=.ok (.nx (oo nm cs ys k most o4 o5 (θ (.lst ((g++[(ur ys k j,Cz z cs)]).map (ig nm)))) (θ (.int (j:Int))) (θ (.int z)) (θ (.int (ur ys k j))))):=by
   rw [aa5];refine (am (aq (d:=.int (ur ys k j)) ?_)).trans (e9 rfl (aA (ac rfl (ac (ai rfl rfl bw) (ac rfl (ac (ap (ac rfl (ac rfl rfl)) (zi hs z).1) rfl))))) (by grind));exact bJ (bJ rfl (ai rfl (av (gx (bJ rfl ((cG (i:=8) (by lia)))) rfl) rfl) rfl)) (ai rfl (ap (ac (ai (av ((cG (i:=13) (by lia))) rfl) rfl jw) rfl) Dh) rfl)
  have I:=uO (i:=7) (j:=8) (r:=bn (j+1) (r.map D.int)) (U:=oo nm cs ys k most o4 o5 (θ (.lst (g.map (ig nm)))) o7 o8 o9) t;rw [GE,bn,I,e,abr];rfl
end
section
variable {ys:List Int} (hs:Sh nm cs) (hy:ys.length=16)
def Nh (hn:NmOk nm) (h:RowG cs p.2):Py 2 (ig nm p) :=
 aal ((Py.str (Gg rfl)).mono (by decide)) ((Py.str (jF hn)).mono (by decide)) ((Py.int _).mono (by decide)) (Pr h.ok)
abbrev xA:FT:=RN
abbrev xB:FS:=RH
abbrev xC:FT:=Mt
abbrev xD:FS:=RM
abbrev aap (cs:List (Str×Str)) (p:Int×afW):Prop:=(1<=p.1/\p.1<=1000000000)/\RowG cs p.2
include hs hy in
theorem PC {ps:List (Int×afW)} (r:∀ p∈ps,aap cs p) (hl:ps.length<=31):∃ ps':List (Int×afW),(∀ p∈ps',aap cs p)/\ps'.length<=ps.length+1/\∀ T:FS,ao (bz xA xB ay) T (oo nm cs ys k most o4 o5 (θ (.lst (ps.map (ig nm)))) o7 o8 o9)=T (oo nm cs ys k most o4 o5 (θ (.lst (ps'.map (ig nm)))) o7 o8 o9):=by
 have g:aZ (ak fh (ae 6) (bE ag)) (oo nm cs ys k most o4 o5 (θ (.lst (ps.map (ig nm)))) o7 o8 o9)=.ok (decide (0 < (ps.map (ig nm)).length)):=aP (ai rfl (bo rfl) (Py.nil (k:=2) (fun d z=>by obtain ⟨p,h,rfl⟩:=BY.mp z;exact Nh hs.n (r p h).2) (by decide)));have u:aZ (ak uT OE (vC (.int 0))) (oo nm cs ys k most o4 o5 (θ (.lst (ps.map (ig nm)))) o7 o8 o9)=.ok (decide (0 < ys.getD 10 0 % 3)):=aP (ai (av (ai rfl rfl (cG (i:=10) (by lia))) rfl) rfl uG);by_cases h1:0 < ps.length
 .have g:=g.trans (by rw [afL (by rw [lE];exact h1)]);by_cases h2:0 < ys.getD 10 0 % 3
  .have u:=u.trans (by rw [afL h2]);obtain ⟨i,C,v⟩:∃ i:Nat,ys.getD 11 0 % (ps.length:Int)=(i:Int)/\i < ps.length:=⟨(ys.getD 11 0 % (ps.length:Int)).toNat,by have:=abM (ys.getD 11 0) (show (ps.length:Int)≠0 by lia);lia,by have:=acd (ys.getD 11 0) (show (0:Int) < ps.length by lia);have:=abM (ys.getD 11 0) (show (ps.length:Int)≠0 by lia);lia⟩;have hg:=r ps[i] (aaX v);refine ⟨ps++[(ps[i].1,Cz (ys.getD 12 0) cs)],fun p h=>?_,by simp,fun T=>am ((aQ (eX g u)).trans ?_)⟩
   .rcases By.mp h with h|h
    .exact r p h
    .rw [aaS.mp h];exact ⟨hg.1,(zi hs _).2⟩
   .rw [aa5];exact e9 rfl (aA (ac rfl (ac (ai rfl rfl bw) (ac (ai (ai (c:=ig nm ps[i]) rfl (av (ai rfl rfl (cG (i:=11) (by lia))) (ck rfl (jL _ _)) (by lia)) (by rw [C];exact oA _ _ (lT v))) rfl lw) (ac (ap (ac (ai rfl rfl (cG (i:=12) (by lia))) (ac rfl rfl)) (zi hs _).1) rfl))))) (by grind)
  .exact ⟨ps,r,by lia,fun T=>skip (eX g (u.trans (by simp_all)))⟩
 .exact ⟨ps,r,by lia,fun T=>skip (jr (g.trans (by simp_all)))⟩
include hy in
theorem OQ {ps:List (Int×afW)} (hl:ps.length<=40):∃ dr:List Int,dr.length<=1/\(∀ n∈dr,∃ p∈ps,p.1=n)/\∀ T:FS,ao (bz xC xD ay) T (oo nm cs ys k most o4 o5 (θ (.lst (ps.map (ig nm)))) o7 o8 o9)=T (oo nm cs ys k most o4 o5 (θ (.lst (ps.map (ig nm)++dr.map (US nm)))) o7 o8 o9):=by
 have u:xC (oo nm cs ys k most o4 o5 (θ (.lst (ps.map (ig nm)))) o7 o8 o9)=.ok η->∃ dr:List Int,dr.length<=1/\(∀ n∈dr,∃ p∈ps,p.1=n)/\∀ T:FS,ao (bz xC xD ay) T (oo nm cs ys k most o4 o5 (θ (.lst (ps.map (ig nm)))) o7 o8 o9)=T (oo nm cs ys k most o4 o5 (θ (.lst (ps.map (ig nm)++dr.map (US nm)))) o7 o8 o9):=fun h=>⟨[],by decide,(fun n hn=>nomatch hn),fun T=>by rw [List.map_nil,abk];exact skip h⟩
 have g:aZ S4 (oo nm cs ys k most o4 o5 (θ (.lst (ps.map (ig nm)))) o7 o8 o9)=.ok (((2:Int) < ps.length)):=aP (ai ((jL _ _)) rfl uG);by_cases h1:(2:Int) < ps.length
 .have g:=g.trans (by rw [afL h1]);by_cases h2:ys.getD 10 0 % 3=1
  .cases ps with
   | nil=>simp at h1
   | cons p r =>
    refine ⟨[p.1],by simp,fun n hn=>⟨p,by simp,(aaS.mp hn).symm⟩,fun T=>am ((aQ (eX g (d9 (av ((cG (i:=10) (by lia))) rfl) rfl h2))).trans ?_)⟩;exact e9 rfl (aA (ac rfl (ac rfl (ac (ai (Sl) rfl lw) rfl)))) (by grind)
  .exact u (eX g (dm (av ((cG (i:=10) (by lia))) rfl) rfl h2))
 .exact u (jr (g.trans (by simp_all)))
structure QOk (q:Tq):Prop where
 sh:Sh q.nm q.cs
 r:RsOk q.cs.length q.rs
 l:q.rs.length<=40
 k:∃ B,1<=B/\TOk B q
include hs hy in
theorem FI {k most:Nat} (hk:k<=2) (hm:most<=30):∃ ch q,kI [wG nm cs,.lst (ys.map D.int),.int (k:Int),.int (most:Int)]=.ok (.lst ch)/\ch.length<=60/\SG ⟨nm,cs,[],[]⟩ ch q/\QOk q:=by
 obtain ⟨E,g,e1⟩:=KB hs hy (k:=(k:Int)) (most:=(most:Int));obtain ⟨F,hF,hEF,e2⟩:=NF hs hy (k:=(k:Int)) (most:=(most:Int)) g;obtain ⟨m,em,hm'⟩:∃ m:Nat,ys.getD 7 0 % ((most:Int)+1)=(m:Int)/\m<=most:=⟨(ys.getD 7 0 % ((most:Int)+1)).toNat,by have:=abM (ys.getD 7 0) (show ((most:Int)+1)≠0 by lia);lia,by have:=acd (ys.getD 7 0) (show (0:Int) < (most:Int)+1 by lia);have:=abM (ys.getD 7 0) (show ((most:Int)+1)≠0 by lia);lia⟩;have I:(ot (ys.getD 9 0) m).length=m:=gz _ _ _;obtain ⟨o7,o8,o9,e3⟩:=Dy hs hy (k:=(k:Int)) (most:=(most:Int)) (o4:=θ (.lst (E.map (lj nm)))) (o5:=θ (.lst (F.map (lj nm)))) (ot (ys.getD 9 0) m) 0 [] ξ ξ ξ (by rw [I];simp;lia);rw [List.nil_append] at e3;have hps:=Gx (ys:=ys) hs (k:=(k:Int)) ⟨by lia,by lia⟩ 0 (ot (ys.getD 9 0) m);have hpl:(Pw ys (k:Int) cs 0 (ot (ys.getD 9 0) m)).length=m:=by rw [zh,I]
 obtain ⟨ps,C,hl2,e4⟩:=PC hs hy (k:=(k:Int)) (most:=(most:Int)) (o4:=θ (.lst (E.map (lj nm)))) (o5:=θ (.lst (F.map (lj nm)))) (o7:=o7) (o8:=o8) (o9:=o9) hps (by lia);obtain ⟨dr,hd,u,e5⟩:=OQ (nm:=nm) (cs:=cs) hy (k:=(k:Int)) (most:=(most:Int)) (o4:=θ (.lst (E.map (lj nm)))) (o5:=θ (.lst (F.map (lj nm)))) (o7:=o7) (o8:=o8) (o9:=o9) (ps:=ps) (by lia);have t0:TOk 1 ⟨nm,cs,[],[]⟩:=⟨hs,⟨⟨abG,(fun q hq=>nomatch hq)⟩,abG,(fun q hq=>nomatch hq)⟩,aaQ _,aaQ _⟩
 obtain ⟨q1,t1,g1,r1,i1⟩:=yI (by decide) E t0 (fun c Y=>⟨g.m c Y,(fun h=>nomatch h)⟩) g.nd (by have:=g.l;simp;lia)
 obtain ⟨z,t2,g2,i2,l2,s2⟩:=Af ps t1 (by lia) (fun p M=>by rw [g1.2.1];exact C p M) (by rw [r1];simp;lia);have gd:∃ v,TOk (1+ps.length) v/\SG z (dr.map (US z.nm)) v/\v.ids.map LX=z.ids.map LX:=by
  match dr,hd,u with
  | [],_,_=>exact ⟨z,t2,.nil z,rfl⟩
  | [n],_,u =>
   obtain ⟨p,M,rfl⟩:=u n (by simp);obtain ⟨ids',a,b,c⟩:=J3 t2 (by lia) (C p M).1 (s2 p.1 (.inr ⟨p,M,rfl⟩));exact ⟨_,b,SG.one c rfl rfl,a⟩
 obtain ⟨v,t3,L,i3⟩:=gd;have en:z.nm=nm:=g2.1.trans g1.1;have en3:v.nm=nm:=L.1.trans en;have Z:v.cs=cs:=L.2.1.trans (g2.2.1.trans g1.2.1);have ii:v.ids.map LX=E:=by rw [i3,i2,i1];rfl
 obtain ⟨q4,J,g4,r4,i4⟩:=yI (by lia) F t3 (fun c Y=>⟨by rw [Z];exact hF.m c Y,by rw [ii];exact hEF c Y⟩) hF.nd (by have:=afN afA ii;rw [lE] at this;have:=g.l;have:=hF.l;lia);refine ⟨E.map (lj nm)++(ps.map (ig nm)++dr.map (US nm))++F.map (lj nm),q4,?_,?_,?_,J.sh,J.t.r,J.lr,_,by lia,J⟩
 .rw [xO,iX];refine au ((e1 _).trans ((e2 _).trans ((am (ij (bo rfl))).trans ((am (dh (xs:=bn 0 ((ot (ys.getD 9 0) m).map D.int)) ?_ e3)).trans ((e4 _).trans ((e5 _).trans (aB (ai (ai rfl rfl (add_l.trans (afI (by have:=g.l;simp;lia)))) rfl (add_l.trans (afI (by have:=g.l;have:=hF.l;simp;lia)))))))))));rw [GM,ac (ap (ac (ai rfl rfl (cG (i:=9) (by lia))) (ac ((av (ai rfl rfl (cG (i:=7) (by lia))) (bJ rfl rfl) (by lia)).trans (by rw [em])) rfl)) (jD _ m (by lia))) rfl,aG];rfl
 .have:=g.l
  have:=hF.l
  simp;lia
 .rw [<- abr];rw [g1.1] at g2;rw [en] at L;rw [en3] at g4;exact ((g1.app g2).app L).app g4
end
def Gh (xs:afW) (k:Nat):ib xs (θ (k:Int)) ξ=xs.drop k:=by
 unfold ib;rw [HT.gh,HT.jB];rcases Nat.le_total k xs.length with h|h
 .rw [acI h,abJ (by simp)]
 simp_all
def dj (q:Tq):D:=wG q.nm q.cs
abbrev LB:FS:=ZT
structure Ts (c:Int) (k:Nat) (qs:List Tq):Prop where
 l:qs.length=k
 o:∀ q∈qs,QOk q
 n:∀ q∈qs,∃ (i:Nat) (a:Int),i < k/\(a=0\/a=1)/\q.nm=qY (c/5+a) i
 nd:(qs.map Tq.nm).Nodup
theorem Ts.nw (h:Ts c k qs) (v:k<=20) (u:a=0\/a=1):Nw qs (qY (c/5+a) k):=fun q r e=>by
 obtain ⟨i,b,g,hb,en⟩:=h.n q r;rw [en] at e;rcases u with rfl|rfl <;> rcases hb with rfl|rfl
 .exact GN g (by lia) e
 .rw [Int.add_zero] at e;exact GX e.symm
 .rw [Int.add_zero] at e;exact GX e
 .exact GN g (by lia) e
theorem zM {most:Nat} (hm:most<=30):∀ (n k:Nat) (qs:List Tq) (ch:afW) (o4 o5:Option D),k+n<=3->Ts c k qs->Go [] ch qs->ch.length<=61*k ->
  ∃ u r J C,cc (.one 4) LB (cb (k:Int) n) [θ (.int c),θ (.int (most:Int)),θ (.lst ch),θ (.lst (qs.map dj)),o4,o5]=.ok (.nx [θ (.int c),θ (.int (most:Int)),θ (.lst r),θ (.lst (u.map dj)),J,C])/\Ts c (k+n) u/\Go [] r u/\r.length<=61*(k+n)
 | 0,k,qs,ch,o4,o5,_,h,g,hl=>⟨qs,ch,o4,o5,rfl,h,g,hl⟩
 | n+1,k,qs,ch,o4,o5,hk,h,g,hl=>by
  have hz:(ot (c/3+11*(k:Int)) 16).length=16:=gz _ _ _;generalize ez:ot (c/3+11*(k:Int)) 16=zs at hz;obtain ⟨a,ea,ha⟩:∃ a:Int,zs.getD 0 0 % 2=a/\(a=0\/a=1):=⟨_,rfl,by lia⟩;have hw:(((c/5+a)::zs.drop 1):List Int).length=16:=by simp;lia
  generalize ew:(((c/5+a)::zs.drop 1):List Int)=ws at hw;have w0:ws.getD 0 0=c/5+a:=by rw [<- ew];rfl
  have hs:Sh (qY (c/5+a) (k:Int)) (uU ws (zF ws)):=QW _ _;have v:=Ll hw (k:Int);rw [w0] at v;obtain ⟨fl,q,M,hfl,Z,qo⟩:=FI hs hz (k:=k) (most:=most) (by lia) hm;have nw:=h.nw (by lia) ha;have en:q.nm=qY (c/5+a) (k:Int):=Z.1;have ec:q.cs=uU ws (zF ws):=Z.2.1;have I:dj q=wG (qY (c/5+a) (k:Int)) (uU ws (zF ws)):=by unfold dj;rw [en,ec]
  have h':Ts c (k+1) (qs++[q]):=by
   refine ⟨by simp [h.l],fun z hz=>?_,fun z hz=>?_,?_⟩
   .rcases By.mp hz with hz|hz
    .exact h.o z hz
    .rw [aaS.mp hz];exact qo
   .rcases By.mp hz with hz|hz
    .obtain ⟨i,b,hi,hb⟩:=h.n z hz;exact ⟨i,b,by lia,hb⟩
    .rw [aaS.mp hz];exact ⟨k,a,by lia,ha,en⟩
   .rw [aa5,adE];refine ⟨h.nd,by simp,fun x hx y hy L=>?_⟩;obtain ⟨z,hz,rfl⟩:=BY.mp hx;simp at hy;rw [hy,en] at L;exact nw z hz L
  have g':Go [] (ch++[W8 ⟨qY (c/5+a) (k:Int),uU ws (zF ws),[],[]⟩]++fl) (qs++[q]):=by
   have hq:qs.length < 500:=by rw [h.l];lia
   exact (g.app (.cons (Pc (q:=⟨qY (c/5+a) (k:Int),uU ws (zF ws),[],[]⟩) hs rfl rfl nw hq) (.nil _))).app (Z.2.2 qs nw hq)
  obtain ⟨u,r,J,C,e,h2,g2,g3⟩:=zM hm n (k+1) (qs++[q]) _ (θ (.int (k:Int))) (θ (.lst (zs.map D.int))) (by lia) h' g' (by simp;lia);refine ⟨u,r,J,C,?_,by rw [show k+(n+1)=k+1+n by lia];exact h2,g2,by lia⟩;have t:LB (ac5 [θ (.int c),θ (.int (most:Int)),θ (.lst ch),θ (.lst (qs.map dj)),o4,o5] 4 (θ (.int (k:Int))))=.ok (.nx [θ (.int c),θ (.int (most:Int)),θ (.lst (ch++[W8 ⟨qY (c/5+a) (k:Int),uU ws (zF ws),[],[]⟩]++fl)),θ (.lst ((qs++[q]).map dj)),θ (.int (k:Int)),θ (.lst (zs.map D.int))]):=by
   have e5:aj cI (aa U1 (aa (vC (.int 16)) ag)) [θ (.int c),θ (.int (most:Int)),θ (.lst ch),θ (.lst (qs.map dj)),θ (.int (k:Int)),o5]=.ok (.lst (zs.map D.int)):=by
    rw [<- ez];exact ap (ac (bJ (a9 rfl rfl) (ai rfl rfl (U7 (by decide)))) (ac rfl rfl)) (jD _ 16 (by decide))
   have el:ak bq So Lv [θ (.int c),θ (.int (most:Int)),θ (.lst ch),θ (.lst (qs.map dj)),θ (.int (k:Int)),θ (.lst (zs.map D.int))]=.ok (.lst (ws.map D.int)):=by
    rw [<- ew,GE,afb,<- Gh,<- ea];exact ai (bo (ac (bJ (a9 rfl rfl) (av (ai rfl rfl (cG (i:=0) (by lia))) rfl)) rfl)) (dR rfl (bB rfl) rfl wW) (add_l.trans (afI (by rw [show ((1:Int))=((1:Nat):Int) from rfl,Gh];simp;lia)))
   have Y:aE (.lst ((qs++[q]).map dj)) (.int (k:Int))=.ok (dj q):=oA _ _ (by rw [<- h.l];simp);rw [aa5] at Y ⊢;refine (am (aq e5)).trans ((am (e9 rfl (ap (ac el (ac rfl rfl)) (v.trans (by rw [<- I]))) (by rw [lE,h.l];lia))).trans (aq ?_));refine ai (ai rfl (bo (ac (aA (ac rfl (ac (ai rfl rfl Y) rfl))) rfl)) (add_l.trans (afI (by simp;lia)))) (ap (ac (ai rfl rfl Y) (ac rfl (ac rfl (ac rfl rfl)))) (by rw [I];exact M)) ((add_l.trans (afI (by simp;lia))).trans ?_);rw [I];rfl
  rw [lG,bZ t]
  grind
theorem Bw (c:Int) {most:Nat} (u:most<=30):∃ qs ch n,nV [.int c,.int (most:Int)]=.ok (.tup [.lst (qs.map dj),.lst ch])/\Ts c n qs/\Go [] ch qs/\(1<=n/\n<=3)/\ch.length<=183:=by
 obtain ⟨n,en,hn⟩:∃ n:Nat,1+c % 3=n/\1<=n/\n<=3:=⟨(1+c % 3).toNat,by lia,by lia,by lia⟩;obtain ⟨qs,ch,o4,o5,e,h,g,v⟩:=zM u n 0 [] [] ξ ξ (by lia) ⟨rfl,(fun q r=>nomatch r),(fun q r=>nomatch r),abG⟩ (.nil _) (by simp)
 rw [adL] at h;refine ⟨qs,ch,n,?_,h,g,hn,by lia⟩;exact au (rfl.trans (((am (dh (gm ((bJ rfl rfl).trans (by rw [en])) (by lia)) e)).trans rfl)))
inductive Sid where
 | val (v:D)
 | cel (k c:Nat)
noncomputable def Sid.d:Sid->D
 | .val v=>.tup [.str "value",v]
 | .cel k c=>.tup [.str "cell",.int (k:Int),.int (c:Int)]
inductive Cn where
 | test (sg:Str) (a b:Sid)
 | neg (c:Cn)
 | and (a b:Cn)
 | or (a b:Cn)
def Cn.d:Cn->D
 | .test sg a b=>.tup [.str "test",.str sg,a.d,b.d]
 | .neg c=>.tup [.str "not",c.d]
 | .and a b=>.tup [.str "and",a.d,b.d]
 | .or a b=>.tup [.str "or",a.d,b.d]
def Cn.h:Cn->Nat
 | .test _ _ _=>2
 | .neg c=>c.h+1
 | .and a b=>max a.h b.h+1
 | .or a b=>max a.h b.h+1
def Cn.n:Cn->Nat
 | .test _ _ _=>3
 | .neg c=>c.n+1
 | .and a b=>a.n+b.n+1
 | .or a b=>a.n+b.n+1
def nO:Option Cn->D
 | none=>.non
 | some c=>c.d
abbrev Wl:Type:=List (afP)
def wD (W:Wl):D:=.lst (W.map fun r=>.lst (r.map D.str))
structure WOk (W:Wl):Prop where
 l0:1<=W.length
 l1:W.length<=3
 r:∀ r∈W,1<=r.length/\r.length<=8/\∀ z∈r,Kd z
def d8 (W:Wl):Sid->Prop
 | .val v=>Vl 40 v
 | .cel k c=>∃ r,W[k]?=θ r/\c < r.length
def Sg (z:Str):Prop:=z="="\/z="<>"\/z="<"\/z="<="\/z=">"\/z=">="
def gC (W:Wl):Cn->Prop
 | .test sg a b=>Sg sg/\d8 W a/\d8 W b
 | .neg c=>gC W c
 | .and a b=>gC W a/\gC W b
 | .or a b=>gC W a/\gC W b
theorem iT (a:Int) {n:Nat} (h:0 < n):∃ p:Nat,a % (n:Int)=(p:Int)/\p < n:=by
 have h1:=abM a (show (n:Int)≠0 by lia);have h2:=acd a (show (0:Int) < n by lia);exact ⟨(a % n).toNat,by lia,by lia⟩
section
variable (hW:WOk W)
include hW
theorem xl (x:Int):∃ k c r,fM [.int x,wD W]=.ok (Sid.cel k c).d/\k < W.length/\W[k]?=θ r/\c < r.length:=by
 obtain ⟨k,u,g⟩:=iT x (n:=W.length) (by have:=hW.l0;lia);have hr:=hW.r _ (aaX g);obtain ⟨c,z,C⟩:=iT (x/8) (n:=W[k].length) (by lia);refine ⟨k,c,W[k],?_,g,lT g,C⟩;have I:ak bg (ae 0) pX [θ (.int x),(wD W),ξ]=.ok (.int k):=(av rfl ((jL _ _)) (by lia)).trans (by rw [u]);have v:ak bg (ak bX (ae 0) (vC (.int 8))) Ly [θ (.int x),(wD W),θ (.int k)]=.ok (.int c):=(av rfl (ck ((oA _ _ (lT g))) (jL _ _)) (by lia)).trans (by rw [z]);exact au ((am (aq I)).trans (aB (aA (ac rfl (ac rfl (ac v rfl))))))
omit hW in
theorem sg8 (g:0<=i) (h1:i < 8):∃ z:Str,aE (.lst [.str "=",.str "<>",.str "<",.str "<=",.str ">",.str ">=",.str "=",.str "="]) (.int i)=.ok (.str z)/\Sg z:=by
 have:i=0\/i=1\/i=2\/i=3\/i=4\/i=5\/i=6\/i=7:=by lia
 rcases this with rfl|rfl|rfl|rfl|rfl|rfl|rfl|rfl
 .exact ⟨_,rfl,.inl rfl⟩
 .exact ⟨_,rfl,.inr (.inl rfl)⟩
 .exact ⟨_,rfl,.inr (.inr (.inl rfl))⟩
 .exact ⟨_,rfl,.inr (.inr (.inr (.inl rfl)))⟩
 .exact ⟨_,rfl,.inr (.inr (.inr (.inr (.inl rfl))))⟩
 .exact ⟨_,rfl,.inr (.inr (.inr (.inr (.inr rfl))))⟩
 .exact ⟨_,rfl,.inl rfl⟩
 .exact ⟨_,rfl,.inl rfl⟩
omit hW in
theorem aax:∃ z:Str,aE (.lst [.str "number",.str "text"]) (.int (i % 2))=.ok (.str z)/\Kd z:=by
 have:i % 2=0\/i % 2=1:=by lia
 rcases this with e|e <;> rw [e]
 .exact ⟨_,rfl,.inl rfl⟩
 .exact ⟨_,rfl,.inr rfl⟩
abbrev EE (x:Int) (W:Wl) (a:Sid) (z:Str) (b:Sid):Sd:=[θ (.int x),θ (wD W),θ a.d,θ (.str z),θ b.d]
theorem Qz (h0:0<=x) (h1:x < 2147483647):∃ z a b,qT [.int x,wD W]=.ok (Cn.test z a b).d/\gC W (.test z a b):=by
 obtain ⟨k,c,r,e1,hk,u,J⟩:=xl hW (x/6);obtain ⟨z,ez,hz⟩:=sg8 (i:=x/3 % 8) (by lia) (by lia);have hr:=hW.r r (aaZ u);obtain ⟨e3,g3⟩:=mE (x:=x/97) (kd:=r[c]) (by lia) (by lia) (hr.2.2 _ (aaX J));have s3:∀ T:FS,ao LM (ao UW (ao V4 T)) [θ (.int x),θ (wD W),ξ,ξ,ξ]=T (EE x W (.cel k c) z (.val (lv (x/97) r[c]))):=fun T =>
  (am (aq (ap (ac (a9 rfl rfl) (ac rfl rfl)) e1))).trans ((am (aq (ai (bo (ac rfl (ac rfl (ac rfl (ac rfl (ac rfl (ac rfl (ac rfl (ac rfl rfl))))))))) (av (a9 rfl rfl) rfl) ez))).trans (am (aq (aA (ac rfl (ac (ap (ac (a9 rfl rfl) (ac (ai (ai rfl (ai rfl rfl bQ) (oA _ _ u)) (ai rfl rfl lw) (oA _ _ (lT J))) rfl)) e3) rfl))))))
 have s4:∀ {a:Sid} {b:Sid},d8 W b->∃ C,d8 W C/\∀ T:FS,ao VE T (EE x W a z b)=T (EE x W a z C):=fun {a b} hb=>by
  by_cases q:x % 3=0
  .obtain ⟨k,c,r,e1,hk,u,J⟩:=xl hW (x/101);exact ⟨.cel k c,⟨r,u,J⟩,fun T=>am ((aQ (d9 (av rfl rfl) rfl q)).trans (aq (ap (ac (a9 rfl rfl) (ac rfl rfl)) e1)))⟩
  .exact ⟨b,hb,fun T=>skip (dm (av rfl rfl) rfl q)⟩
 have s5:∀ {a:Sid} {b:Sid},d8 W b->∃ C,d8 W C/\∀ T:FS,ao U6 T (EE x W a z b)=T (EE x W a z C):=fun {a b} hb=>by
  by_cases q:x % 13=0
  .obtain ⟨y,M,hy⟩:=aax (i:=x/13);obtain ⟨e,g⟩:=mE (x:=x/97) (by lia) (by lia) hy;exact ⟨.val _,g.v,fun T=>am ((aQ (d9 (av rfl rfl) rfl q)).trans (aq (aA (ac rfl (ac (ap (ac (a9 rfl rfl) (ac (ai (bo (ac rfl (ac rfl rfl))) (av (a9 rfl rfl) rfl) M) rfl)) e) rfl)))))⟩
  .exact ⟨b,hb,fun T=>skip (dm (av rfl rfl) rfl q)⟩
 have s6:∀ {a:Sid} {b:Sid},d8 W a->∃ a',d8 W a'/\∀ T:FS,ao Wm T (EE x W a z b)=T (EE x W a' z b):=fun {a b} L=>by
  by_cases q:x % 17=0
  .obtain ⟨y,M,hy⟩:=aax (i:=x/17);obtain ⟨e,g⟩:=mE (x:=x/41) (by lia) (by lia) hy;exact ⟨.val _,g.v,fun T=>am ((aQ (d9 (av rfl rfl) rfl q)).trans (aq (aA (ac rfl (ac (ap (ac (a9 rfl rfl) (ac (ai (bo (ac rfl (ac rfl rfl))) (av (a9 rfl rfl) rfl) M) rfl)) e) rfl)))))⟩
  .exact ⟨a,L,fun T=>skip (dm (av rfl rfl) rfl q)⟩
 obtain ⟨b1,Z,t4⟩:=s4 (a:=.cel k c) (b:=.val (lv (x/97) r[c])) g3.v;obtain ⟨Y,I,t5⟩:=s5 (a:=.cel k c) Z;obtain ⟨a,L,t6⟩:=s6 (a:=.cel k c) (b:=Y) ⟨r,u,J⟩;rw [G8,lK];by_cases q:x/5 % 3=0
 .exact ⟨z,Y,a,au ((s3 _).trans ((t4 _).trans ((t5 _).trans ((t6 _).trans (bK ((aQ (d9 (av (a9 rfl rfl) rfl) rfl q)).trans (aB (aA (ac rfl (ac rfl (ac rfl (ac rfl rfl)))))))))))),hz,I,L⟩
 .exact ⟨z,a,Y,au ((s3 _).trans ((t4 _).trans ((t5 _).trans ((t6 _).trans ((skip (dm rfl rfl q)).trans rfl))))),hz,L,I⟩
omit hW in
theorem IE (f:Option Cn):AW (nO f) .non=.ok (.bl f.isNone):=by
 cases f with
 | none=>rfl
 | some c=>cases c <;> rfl
abbrev CB:FS:=TX
abbrev Ae (xs:D) (W:Wl) (f:D) (g o4:Option D):Sd:=[θ xs,θ (wD W),θ f,g,o4]
def hF:Option Cn->Nat
 | none=>2
 | some c=>c.h
def nF:Option Cn->Nat
 | none=>0
 | some c=>c.n
def rN (W:Wl):Option Cn->Prop
 | none=>True
 | some c=>gC W c/\2<=c.h
theorem IH (h0:0<=x) (h1:x < 2147483647) (f:Option Cn) (r:rN W f) (o4:Option D):∃ c L,CB (Ae xs W (nO f) (θ (.int x)) o4)=.ok (.nx (Ae xs W (Cn.d c) (θ (.int x)) L))/\rN W (θ c)/\c.h<=max (hF f) 3+2/\c.n<=nF f+6:=by
 obtain ⟨z,a,b,M,Z⟩:=Qz hW h0 h1;have s1:∃ u,(gC W u/\2<=u.h/\u.h<=3/\u.n<=4)/\∀ T:FS,ao L8 (ao Rp T) (Ae xs W (nO f) (θ (.int x)) o4)=T (Ae xs W (nO f) (θ (.int x)) (θ (Cn.d u))):=by
  by_cases q:x/7 % 6=0
  .exact ⟨.neg (.test z a b),⟨Z,by show 2<=3;decide,by show 3<=3;decide,by show 4<=4;decide⟩,fun T=>(am (aq (ap (ac rfl (ac rfl rfl)) M))).trans (am ((aQ (d9 (av (a9 rfl rfl) rfl) rfl q)).trans (aq (aA (ac rfl (ac rfl rfl))))))⟩
  .exact ⟨.test z a b,⟨Z,by show 2<=2;decide,by show 2<=3;decide,by show 3<=4;decide⟩,fun T=>(am (aq (ap (ac rfl (ac rfl rfl)) M))).trans (skip (dm (av (a9 rfl rfl) rfl) rfl q))⟩
 obtain ⟨u,⟨g,I,hu3,hu4⟩,Y⟩:=s1;have s2:∃ v,(gC W v/\2<=v.h/\v.h<=max (hF f) 3+1/\v.n<=nF f+5)/\∀ T:FS,ao aaI T (Ae xs W (nO f) (θ (.int x)) (θ (Cn.d u)))=T (Ae xs W (Cn.d v) (θ (.int x)) (θ (Cn.d u))):=by
  cases f with
  | none=>exact ⟨u,⟨g,I,by lia,by lia⟩,fun T=>am ((aQ (aP (ai rfl rfl rfl))).trans (aq rfl))⟩
  | some c =>
   have q0:aZ (ak AW (ae 2) (vC .non)) (Ae xs W (Cn.d c) (θ (.int x)) (θ (Cn.d u)))=.ok η:=aP (ai rfl rfl (IE (θ c)));have hc:2<=c.h:=r.2;by_cases C:x/11 % 5=0
   .exact ⟨.or c u,⟨⟨r.1,g⟩,by show 2<=max c.h u.h+1;lia,by show max c.h u.h+1<=max c.h 3+1;lia,by show c.n+u.n+1<=c.n+5;lia⟩,fun T=>am ((bv q0).trans ((aQ (d9 (av (a9 rfl rfl) rfl) rfl C)).trans (aq (aA (ac rfl (ac rfl (ac rfl rfl)))))))⟩
   .by_cases q2:x/11 % 5=1
    .exact ⟨.and u c,⟨⟨g,r.1⟩,by show 2<=max u.h c.h+1;lia,by show max u.h c.h+1<=max c.h 3+1;lia,by show u.n+c.n+1<=c.n+5;lia⟩,fun T=>am ((bv q0).trans ((bv (dm (av (a9 rfl rfl) rfl) rfl C)).trans ((aQ (d9 (av (a9 rfl rfl) rfl) rfl q2)).trans (aq (aA (ac rfl (ac rfl (ac rfl rfl))))))))⟩
    .by_cases q3:x/11 % 5=2
     .exact ⟨.or u c,⟨⟨g,r.1⟩,by show 2<=max u.h c.h+1;lia,by show max u.h c.h+1<=max c.h 3+1;lia,by show u.n+c.n+1<=c.n+5;lia⟩,fun T=>am ((bv q0).trans ((bv (dm (av (a9 rfl rfl) rfl) rfl C)).trans ((bv (dm (av (a9 rfl rfl) rfl) rfl q2)).trans ((aQ (d9 (av (a9 rfl rfl) rfl) rfl q3)).trans (aq (aA (ac rfl (ac rfl (ac rfl rfl)))))))))⟩
     .exact ⟨.and c u,⟨⟨r.1,g⟩,by show 2<=max c.h u.h+1;lia,by show max c.h u.h+1<=max c.h 3+1;lia,by show c.n+u.n+1<=c.n+5;lia⟩,fun T=>am ((bv q0).trans ((bv (dm (av (a9 rfl rfl) rfl) rfl C)).trans ((bv (dm (av (a9 rfl rfl) rfl) rfl q2)).trans ((bv (dm (av (a9 rfl rfl) rfl) rfl q3)).trans (aq (aA (ac rfl (ac rfl (ac rfl rfl)))))))))⟩
 obtain ⟨v,⟨hv,J,hv3,hv4⟩,t2⟩:=s2;by_cases q:x/17 % 7=0
 .exact ⟨.neg v,θ u.d,(Y _).trans ((t2 _).trans ((aQ (d9 (av (a9 rfl rfl) rfl) rfl q)).trans rfl)),⟨hv,by show 2<=v.h+1;lia⟩,by show v.h+1<=_;lia,by show v.n+1<=_;lia⟩
 .exact ⟨v,u.d,(Y _).trans ((t2 _).trans ((bv (dm rfl rfl q)).trans rfl)),⟨hv,J⟩,by lia,by lia⟩
end
def O0 (x:Int):Prop:=0<=x/\x < 2147483647
section
variable (hW:WOk W)
include hW
theorem zN:∀ (l:List Int) (f:Option Cn) (v o4:Option D),(∀ x∈l,O0 x)->rN W f->∃ g z u,cc (.one 3) CB (l.map D.int) (Ae xs W (nO f) v o4)=.ok (.nx (Ae xs W (nO g) z u))/\rN W g/\(max (hF g) 3<=max (hF f) 3+2*l.length/\nF g<=nF f+6*l.length)/\((f.isSome=ζ\/l≠[])->g.isSome=ζ)
 | [],f,v,o4,_,hf=>⟨f,v,o4,rfl,hf,⟨by simp,by simp⟩,fun h=>h.elim id fun h=>absurd rfl h⟩
 | x::r,f,v,o4,hx,hf=>by
  obtain ⟨c,u,t,L,M,Z⟩:=IH hW (hx x (by simp)).1 (hx x (by simp)).2 f hf o4;obtain ⟨g,I,C,e,h1,⟨h2,Y⟩,J⟩:=zN r (c) (θ (.int x)) u (fun y hy=>hx y (iN _ hy)) L;refine ⟨g,I,C,?_,h1,?_,fun _=>J (.inl rfl)⟩
  .have t2  := t;rw [GE,bZ t2];exact e
  .have:hF (c)=c.h:=rfl
   have n:nF (c)=c.n:=rfl
   grind
theorem jH (hl:∀ x∈l,O0 x) (hn:l.length<=100):∃ f,fm [.lst (l.map D.int),wD W]=.ok (nO f)/\rN W f/\(hF f<=3+2*l.length/\nF f<=6*l.length)/\(l≠[]->f.isSome=ζ):=by
 obtain ⟨f,r,o4,e,h1,h2,g⟩:=zN hW l ξ ξ ξ hl aa9;refine ⟨f,?_,h1,by have:hF ξ=2:=rfl;have n:nF ξ=0:=rfl;lia,fun h=>g (.inr h)⟩;exact au (((am (e)).trans rfl))
theorem D9 {l:List Int} (hl:∀ x∈l,O0 x) (hn:l.length<=20):∃ f,kK [.lst (l.map D.int),wD W]=.ok (nO f)/\rN W f/\hF f<=45/\nF f<=121:=by
 rw [xx,iQ];have Y:∀ {C r:Option D},uS [θ (.lst (l.map D.int)),θ (wD W),C,r]=.ok (.int (l.length:Int)):=ck rfl (jL _ _);have e2:(l.length:Int)/2=((l.length/2:Nat):Int):=by lia
 have L:∀ T:FS,ao (az 2 (ak bX uS (vC (.int 2)))) T [θ (.lst (l.map D.int)),θ (wD W),ξ,ξ]=T [θ (.lst (l.map D.int)),θ (wD W),θ (.int ((l.length/2:Nat):Int)),ξ]:=fun T=>am (aq ((a9 Y rfl).trans (by rw [e2])));have J:UP [θ (.lst (l.map D.int)),θ (wD W),θ (.int ((l.length/2:Nat):Int)),ξ]=.ok η->∃ f,fin (Y9 [θ (.lst (l.map D.int)),θ (wD W),ξ,ξ])=.ok (nO f)/\rN W f/\hF f<=45/\nF f<=121:=fun q=>by
  obtain ⟨f,e,h1,h2,_⟩:=jH hW hl (by lia);exact ⟨f,au ((L _).trans ((skip q).trans (aB (ap (ac rfl (ac rfl rfl)) e)))),h1,by lia,by lia⟩
 have g:aZ (ak uT uS (vC (.int 3))) [θ (.lst (l.map D.int)),θ (wD W),θ (.int ((l.length/2:Nat):Int)),ξ]=.ok (decide ((3:Int) < (l.length:Int))):=aP (ai Y rfl uG);by_cases c1:(3:Int) < (l.length:Int)
 .have g:=g.trans (by rw [afL c1]);by_cases Z:l.getD 0 0 % 3=0
  .obtain ⟨f1,I,g1,k1,n1⟩:=jH hW (l:=l.take (l.length/2)) (fun x u=>hl x (acg u)) (by simp;lia);obtain ⟨f2,z,g2,k2,v⟩:=jH hW (l:=l.drop (l.length/2)) (fun x u=>hl x (acD u)) (by simp;lia);have l1:(l.take (l.length/2)).length=l.length/2:=by simp;lia
   have l2:(l.drop (l.length/2)).length=l.length - l.length/2:=by simp
   have n1:=n1 (fun h=>by rw [h] at l1;simp at l1;lia);have v:=v (fun h=>by rw [h] at l2;simp at l2;lia);rw [l1] at k1;rw [l2] at k2
   match f1,n1,I,g1,k1,f2,v,z,g2,k2 with
   | some a,_,I,g1,k1,θ b,_,z,g2,k2 =>
    have k3:a.n<=6*(l.length/2):=k1.2;have k4:b.n<=6*(l.length - l.length/2):=k2.2;have k1:a.h<=3+2*(l.length/2):=k1.1;have k2:b.h<=3+2*(l.length - l.length/2):=k2.1;have tk:ib (l.map D.int) ξ (θ ((l.length/2:Nat):Int))=(l.take (l.length/2)).map D.int:=by rw [vM (by lia),abf,List.map_take]
    have dk:ib (l.map D.int) (θ ((l.length/2:Nat):Int)) ξ=(l.drop (l.length/2)).map D.int:=by rw [Gh,afb]
    have two:∀ (w:Str) (c:Cn),Cn.d c=.tup [.str w,a.d,b.d]->(aE (.lst [.str "and",.str "or"]) (.int (l.getD 0 0/3 % 2))=.ok (.str w))->fin (Y9 [θ (.lst (l.map D.int)),θ (wD W),ξ,ξ])=.ok (Cn.d c):=fun w c ec ew=>by
     rw [ec];have M:∀ {C r:Option D},sG [θ (.lst (l.map D.int)),θ (wD W),C,r]=.ok (.int (l.getD 0 0)):=ai rfl rfl (cG (i:=0) (by lia));exact au ((L _).trans (bK ((aQ (eX g (d9 (av M rfl) rfl Z))).trans ((am (aq (ai (bo (ac rfl (ac rfl rfl))) (av (a9 M rfl) rfl) ew))).trans (aB (aA (ac rfl (ac (ap (ac (dR rfl rfl (bB rfl) (wW.trans (by rw [tk]))) (ac rfl rfl)) I) (ac (ap (ac (dR rfl (bB rfl) rfl (wW.trans (by rw [dk]))) (ac rfl rfl)) z) rfl)))))))))
    have:l.getD 0 0/3 % 2=0\/l.getD 0 0/3 % 2=1:=by lia
    rcases this with e|e
    .exact ⟨θ (.and a b),two "and" (.and a b) rfl (by rw [e];rfl),⟨⟨g1.1,g2.1⟩,by have:=g1.2;show 2<=max a.h b.h+1;lia⟩,by show max a.h b.h+1<=45;lia,by show a.n+b.n+1<=121;lia⟩
    .exact ⟨θ (.or a b),two "or" (.or a b) rfl (by rw [e];rfl),⟨⟨g1.1,g2.1⟩,by have:=g1.2;show 2<=max a.h b.h+1;lia⟩,by show max a.h b.h+1<=45;lia,by show a.n+b.n+1<=121;lia⟩
  .exact J (eX g (dm (av ((cG (i:=0) (by lia))) rfl) rfl Z))
 .exact J (jr (g.trans (by simp_all)))
end
theorem tQ {zs:List Int} (h1:a<=b) (h2:b<=zs.length):jn (.lst (zs.map D.int)) (θ (a:Int)) (θ (b:Int))=.ok (.lst (((zs.drop a).take (b - a)).map D.int)):=by
 rw [wW,yL (by lia) (by lia) (by simp_all),abf,abf,List.map_take,afb]
def oC (q:Tq):afP:=q.cs.map Prod.snd
def Xn {g:List Tq} (C:1<=g.length) (h1:g.length<=3) (h:∀ q∈g,QOk q):WOk (g.map oC):=⟨by simp_all,by simp_all,fun r hr=>by
 obtain ⟨q,u,rfl⟩:=BY.mp hr;have s:=(h q u).sh;refine ⟨by unfold oC;rw [lE];exact s.l0,by unfold oC;rw [lE];exact s.l1,fun z hz=>?_⟩;obtain ⟨c,v,rfl⟩:=BY.mp hz;exact (s.c c v).2⟩
def Bq (qs:List Tq) (q0:Tq) (x:Int):Tq:=qs.getD (x/7 % (qs.length:Int)).toNat q0
def Aj (h:0 < qs.length) (x:Int):qs[(x/7 % (qs.length:Int)).toNat]?=θ (Bq qs q0 x)/\Bq qs q0 x∈qs:=by
 obtain ⟨p,e,r⟩:=iT (x/7) h;have g:qs[(x/7 % qs.length).toNat]?=(Bq qs q0 x):=by
  unfold Bq;simp_all
 exact ⟨g,aaZ g⟩
abbrev mU (c:Int) (qs:List Tq) (mo:Int) (zs:List Int) (o4 o5 o6 o7 o8 o9 o10 o11 KK:Option D):Sd:=[θ (.int c),θ (.lst (qs.map dj)),θ (.int mo),θ (.lst (zs.map D.int)),o4,o5,o6,o7,o8,o9,o10,o11,KK]
section
variable {zs:List Int} (hz:zs.length=24) (hr:∀ x∈zs,O0 x)
include hz
theorem j9 {i:Nat} (h:i < 24):ak aE (ae 3) (vC (.int (i:Int))) (mU c qs mo zs o4 o5 o6 o7 o8 o9 o10 o11 KK)=.ok (.int (zs.getD i 0)):=(cG (by lia))
theorem Sk (h1:1<=m) (C:m<=3) (v:zs.getD 0 0 % mo=((m - 1:Nat):Int)) (z:0 < mo) (r:0 < qs.length) (T:FS):ao RD T (mU c qs mo zs ξ ξ ξ ξ ξ ξ ξ ξ ξ)=T (mU c qs mo zs (θ (.lst ((((zs.drop 1).take m).map (Bq qs q0)).map dj))) ξ ξ ξ ξ ξ ξ ξ ξ):=by
 refine am (aq ?_);rw [abd];have u:(2:Int)+((m - 1:Nat))=((m+1:Nat)):=by lia
 refine bM (fc (dR rfl rfl (bB ((bJ rfl (av (j9 hz (by decide)) rfl z)).trans (by rw [v,u]))) (tQ (a:=1) (by lia) (by lia))) rfl) ?_;refine fV D.int _ _ (fun x J=>?_) (by simp;lia);obtain ⟨p,e,I⟩:=iT (x/7) r;have g:=(Aj (q0:=q0) r x).1;rw [e] at g;exact ai rfl (av rfl ((jL _ _)) (by lia)) (by rw [e];exact oA _ _ g)
omit hz in
theorem PR {g:List Tq} (hs:∀ q∈g,QOk q) (hl:g.length<=3) (T:FS):ao UD T (mU c qs mo zs (θ (.lst (g.map dj))) ξ ξ ξ ξ ξ ξ ξ ξ)=T (mU c qs mo zs (θ (.lst (g.map dj))) (θ (wD (g.map oC))) ξ ξ ξ ξ ξ ξ ξ):=by
 refine am (aq ?_);unfold wD;rw [abd];refine (fV dj _ g (fun q r=>?_) (by lia))
 have:=(hs q r).sh.l1
 show _=R.ok (D.lst ((oC q).map D.str));unfold oC;rw [abd];exact (fV ce _ q.cs (fun c u=>rfl) (by lia))
include hr in
theorem KM:∃ l:List Int,(∀ x∈l,O0 x)/\l.length<=20/\∀ T:FS,ao Jd (ao X9 T) (mU c qs mo zs o4 o5 ξ ξ ξ ξ ξ ξ ξ)=T (mU c qs mo zs o4 o5 (θ (.lst (l.map D.int))) ξ ξ ξ ξ ξ ξ):=by
 obtain ⟨t,C,I⟩:∃ t:Nat,zs.getD 4 0 % 5=(t:Int)/\t < 5:=⟨(zs.getD 4 0 % 5).toNat,by lia,by lia⟩;have z:(5:Int)+(t:Int)=((5+t:Nat):Int):=by lia
 have u:∀ T:FS,ao Jd T (mU c qs mo zs o4 o5 ξ ξ ξ ξ ξ ξ ξ)=T (mU c qs mo zs o4 o5 (θ (.lst (((zs.drop 5).take (5+t - 5)).map D.int))) ξ ξ ξ ξ ξ ξ):=fun T =>
  am (aq (dR rfl (bB rfl) (bB ((bJ rfl (av (j9 hz (i:=4) (by decide)) rfl)).trans (by rw [C,z]))) (tQ (a:=5) (b:=5+t) (by lia) (by lia))))
 have v:VD (mU c qs mo zs o4 o5 (θ (.lst (((zs.drop 5).take (5+t - 5)).map D.int))) ξ ξ ξ ξ ξ ξ)=.ok η->∃ l:List Int,(∀ x∈l,O0 x)/\l.length<=20/\∀ T:FS,ao Jd (ao X9 T) (mU c qs mo zs o4 o5 ξ ξ ξ ξ ξ ξ ξ)=T (mU c qs mo zs o4 o5 (θ (.lst (l.map D.int))) ξ ξ ξ ξ ξ ξ):=fun q =>
  ⟨(zs.drop 5).take (5+t - 5),fun x r=>hr x (acD (acg r)),by simp;lia,fun T=>(u _).trans (skip q)⟩
 by_cases g:mo=1
 .by_cases c2:zs.getD 4 0 % 2=0
  .obtain ⟨n,en,hn⟩:∃ n:Nat,zs.getD 4 0/2 % 20=(n:Int)/\n < 20:=⟨(zs.getD 4 0/2 % 20).toNat,by lia,by lia⟩;refine ⟨ot (c+7) n,fun x r=>oJ _ _ _ x r,by unfold ot;rw [gz];lia,fun T=>(u _).trans (am ((aQ (eX (d9 rfl rfl g) (d9 (av (j9 hz (i:=4) (by decide)) rfl) rfl c2))).trans (aq (ap (ac (bJ rfl rfl) (ac ((av (a9 (j9 hz (i:=4) (by decide)) rfl) rfl).trans (by rw [en])) rfl)) (jD _ n (by lia))))))⟩
  .exact v (eX (d9 rfl rfl g) (dm (av (j9 hz (by decide)) rfl) rfl c2))
 .exact v (jr (dm rfl rfl g))
theorem Qe {g:List Tq} (hW:WOk (g.map oC)) (M:rN (g.map oC) f) (I:hF f<=45/\nF f<=121):∃ J o8,rN (g.map oC) J/\(hF J<=46/\nF J<=130)/\∀ T:FS,ao Tv T (mU c qs mo zs (θ (.lst (g.map dj))) (θ (wD (g.map oC))) o6 (θ (nO f)) ξ ξ ξ ξ ξ)=T (mU c qs mo zs (θ (.lst (g.map dj))) (θ (wD (g.map oC))) o6 (θ (nO J)) o8 ξ ξ ξ ξ):=by
 have z:aZ (ak uT ES (vC (.int 1))) (mU c qs mo zs (θ (.lst (g.map dj))) (θ (wD (g.map oC))) o6 (θ (nO f)) ξ ξ ξ ξ ξ)=.ok (decide ((1:Int) < (g.length:Int))):=aP (ai (ck rfl (jL _ _)) rfl uG);by_cases c1:(1:Int) < (g.length:Int)
 .have z:=z.trans (by rw [afL c1]);by_cases Z:zs.getD 20 0 % 2=0
  .have w1:1 < (g.map oC).length:=by rw [lE];lia
   have L:0 < (g.map oC).length:=by lia
   have r1:=hW.r _ (aaX w1);have r0:=hW.r _ (aaX L);obtain ⟨u,e1,h1⟩:=iT (zs.getD 21 0) (n:=(g.map oC)[1].length) (by lia);obtain ⟨v,e0,h0⟩:=iT (zs.getD 22 0) (n:=(g.map oC)[0].length) (by lia);have k1:gC (g.map oC) (.test "=" (.cel 1 u) (.cel 0 v)):=⟨.inl rfl,⟨_,lT w1,h1⟩,⟨_,lT L,h0⟩⟩;have Y:aaw (mU c qs mo zs (θ (.lst (g.map dj))) (θ (wD (g.map oC))) o6 (θ (nO f)) ξ ξ ξ ξ ξ)=.ok (Cn.d (.test "=" (.cel 1 u) (.cel 0 v))) :=
    aA (ac rfl (ac rfl (ac (aA (ac rfl (ac rfl (ac ((av (j9 hz (i:=21) (by decide)) (ck (ai rfl rfl (oA (i:=1) _ _ (lT w1))) (jL _ _)) (by lia)).trans (by rw [e1])) rfl)))) (ac (aA (ac rfl (ac rfl (ac ((av (j9 hz (i:=22) (by decide)) (ck (ai rfl rfl (oA (i:=0) _ _ (lT L))) (jL _ _)) (by lia)).trans (by rw [e0])) rfl)))) rfl))))
   have C:Se (mU c qs mo zs (θ (.lst (g.map dj))) (θ (wD (g.map oC))) o6 (θ (nO f)) ξ ξ ξ ξ ξ)=.ok ζ:=eX z (d9 (av (j9 hz (i:=20) (by decide)) rfl) rfl Z);cases f with
   | none=>exact ⟨θ (.test "=" (.cel 1 u) (.cel 0 v)),θ (Cn.d (.test "=" (.cel 1 u) (.cel 0 v))),⟨k1,nE _⟩,⟨by show 2<=46;decide,by show 3<=130;decide⟩,fun T=>am ((aQ C).trans ((am (aq Y)).trans (aq (ai (bo (ac (aA (ac rfl (ac rfl (ac rfl rfl)))) (ac rfl rfl))) (ap (ac (ai rfl rfl rfl) rfl) Dh) rfl))))⟩
   | some d =>
    refine ⟨θ (.and (.test "=" (.cel 1 u) (.cel 0 v)) d),θ (Cn.d (.test "=" (.cel 1 u) (.cel 0 v))),⟨⟨k1,M.1⟩,by show 2<=max 2 d.h+1;lia⟩,⟨by have I:d.h<=45:=I.1;show max 2 d.h+1<=46;lia,by have I:d.n<=121:=I.2;show 3+d.n+1<=130;lia⟩,fun T=>am ((aQ C).trans ((am (aq Y)).trans (aq ?_)))⟩;exact ai rfl (ap (ac ((IE (d))) rfl) Dh) rfl
  .exact ⟨f,ξ,M,⟨by lia,by lia⟩,fun T=>skip (eX z (dm (av (j9 hz (by decide)) rfl) rfl Z))⟩
 .exact ⟨f,ξ,M,⟨by lia,by lia⟩,fun T=>skip (jr (z.trans (by grind)))⟩
end
def sW (W:Wl) (p:Nat×Nat):Prop:=∃ r,W[p.1]?=θ r/\p.2 < r.length
def ox (p:Nat×Nat):D:=(Sid.cel p.1 p.2).d
def OJ (hW:WOk W):∃ g:Int->Nat×Nat,∀ x,fM [.int x,wD W]=.ok (ox (g x))/\sW W (g x) :=
 Classical.skolem (p:=fun x q=>fM [.int x,wD W]=.ok (ox q)/\sW W q) |>.mp fun x=>by
  obtain ⟨k,c,r,e,_,v,u⟩:=xl hW x;exact ⟨(k,c),e,r,v,u⟩
def Py.bl (b:Bool):Py 0 (.bl b):=⟨.bool b,rfl,rfl,nE _⟩
def Py.non:Py 0 .non:=⟨.none,rfl,rfl,nE _⟩
theorem Py.w (h:(z.cps.toList.all fun c=>tab.contains c)=ζ):Py 0 (.str z):=Py.str (Gg h)
def kX (p:Nat×Nat):Py 1 (ox p):=LH (Py.w rfl) (Py.int _) (Py.int _)
def qL:∀ {s:Sid},d8 W s->Py 1 s.d
 | .val v,h=>Py.two (Py.w rfl) (Gy h)
 | .cel k c,h=>kX (k,c)
def Vt (h:Sg z):Py 0 (.str z):=by
 rcases h with rfl|rfl|rfl|rfl|rfl|rfl <;> exact Py.w rfl
theorem rV:∀ {c:Cn},gC W c->Py c.h c.d
 | .test z a b,h=>aal (Py.w (by trivial) |>.mono (aaQ _)) ((Vt h.1).mono (aaQ _)) (qL h.2.1) (qL h.2.2)
 | .neg c,h=>Py.two ((Py.w (by trivial)).mono (aaQ _)) (rV h)
 | .and a b,h=>LH ((Py.w rfl).mono (aaQ _)) ((rV h.1).mono (Nat.le_max_left _ _)) ((rV h.2).mono (Nat.le_max_right _ _))
 | .or a b,h=>LH ((Py.w rfl).mono (aaQ _)) ((rV h.1).mono (Nat.le_max_left _ _)) ((rV h.2).mono (Nat.le_max_right _ _))
def Yn:∀ {f:Option Cn},rN W f->Py (hF f) (nO f)
 | none,_=>Py.non.mono (aaQ _)
 | some c,h=>rV h.1
structure Tre where
 ps:List (Tq×Str)
 f:Option Cn
 os:afW
 c:Nat×Nat
 ts:afW
 tk:D
def MN (p:Tq×Str):D:=.tup [.str p.1.nm,.str p.2]
def Tre.W (t:Tre):Wl:=t.ps.map fun p=>oC p.1
def Tre.d (t:Tre):D:=.tup [.str "ask",.tup (t.ps.map MN),nO t.f,.tup t.os,.tup (ox t.c::t.ts),t.tk]
structure TrOk (qs:List Tq) (t:Tre):Prop where
 l0:1<=t.ps.length
 l1:t.ps.length<=3
 q:∀ p∈t.ps,p.1∈qs
 f:rN t.W t.f
 h:hF t.f<=46
 n:nF t.f<=130
 c:sW t.W t.c
 p:Py 47 t.d
def Lp:aE (.lst [.int a,.int a,.int a,.int b]) (.int (i % 4))=.ok (.int (if i % 4=3 then b else a)):=by
 have:i % 4=0\/i % 4=1\/i % 4=2\/i % 4=3:=by lia
 rcases this with e|e|e|e <;> rw [e] <;> rfl
def abc:Str:=IF "abc"
theorem NA {k:Nat} (h:k < 3):atI abc.cps.toList (k:Int)=θ (97+k):=by
 have:k=0\/k=1\/k=2:=by lia
 rcases this with rfl|rfl|rfl <;> decide +kernel
def qg (q:Tq) (k:Nat):Str:=kG q.nm ξ (θ 1)++⟨#[97+k]⟩
theorem FV (h:NmOk q.nm) (r:k < 3):EC (qg q k):=fun c g=>by
 unfold qg at g;rw [gw,By] at g;rcases g with g|g
 .exact jF h c (II g)
 .have:k=0\/k=1\/k=2:=by lia
  have e  := by simpa using g
  rw [e];rcases this with rfl|rfl|rfl <;> decide +kernel
def map_range {β:Type} (xs:List β) (d:β):(aa7 xs.length).map (fun k=>xs.getD k d)=xs:=by
 refine aei fun k=>?_;rcases ad3 k xs.length with h|h
 .simp_all
 simp_all
section
variable {zs:List Int} (hz:zs.length=24)
include hz
theorem FQ {g:Int->Nat×Nat} (hg:∀ x,fM [.int x,wD W]=.ok (ox (g x))/\sW W (g x)):∃ os:afW,(∀ d∈os,Py 2 d)/\∀ T:FS,ao aaB T (mU c qs mo zs o4 (θ (wD W)) o6 o7 o8 ξ ξ ξ ξ)=T (mU c qs mo zs o4 (θ (wD W)) o6 o7 o8 (θ (.tup os)) ξ ξ ξ):=by
 obtain ⟨t,v,z⟩:∃ t:Nat,zs.getD 10 0 % (if zs.getD 10 0/9 % 4=3 then 9 else 3)=(t:Int)/\t < 9:=by
  split
  .exact ⟨(zs.getD 10 0 % 9).toNat,by lia,by lia⟩
  .exact ⟨(zs.getD 10 0 % 3).toNat,by lia,by lia⟩
 have u:(11:Int)+(t:Int)=((11+t:Nat):Int):=by lia
 refine ⟨((zs.drop 11).take (11+t - 11)).map fun x=>.tup [ox (g x),.bl (decide (x/64 % 2=1))],fun d r=>?_,fun T=>am (aq (ap (ac (bM (fc (dR rfl (bB rfl) (bB ((bJ rfl (av (j9 hz (i:=10) (by decide)) (ai rfl (av (a9 (j9 hz (by decide)) rfl) rfl) Lp) (by split <;> lia))).trans (by rw [v,u]))) (tQ (a:=11) (by lia) (by lia))) rfl) (fV D.int _ _ (fun x _=>aA (ac ((hg x).1) (ac (jw) rfl))) (by simp;lia))) rfl) nC))⟩;obtain ⟨x,_,rfl⟩:=BY.mp r;exact Py.two (kX _) ((Py.bl _).mono (aaQ _))
theorem M6 {g:Int->Nat×Nat} (hg:∀ x,fM [.int x,wD W]=.ok (ox (g x))/\sW W (g x)):∃ (p:Nat×Nat) (ts:afW),sW W p/\(∀ d∈ts,Py 1 d)/\∀ T:FS,ao Yx T (mU c qs mo zs o4 (θ (wD W)) o6 o7 o8 o9 ξ ξ ξ)=T (mU c qs mo zs o4 (θ (wD W)) o6 o7 o8 o9 (θ (.tup (ox p::ts))) ξ ξ):=by
 obtain ⟨t,C,I⟩:∃ t:Nat,zs.getD 13 0 % (if zs.getD 13 0/24 % 4=3 then 8 else 3)=(t:Int)/\t < 8:=by
  split
  .exact ⟨(zs.getD 13 0 % 8).toNat,by lia,by lia⟩
  .exact ⟨(zs.getD 13 0 % 3).toNat,by lia,by lia⟩
 have z:(15:Int)+(t:Int)=((15+t:Nat):Int):=by lia
 have u:∀ T:FS,ao Yx T (mU c qs mo zs o4 (θ (wD W)) o6 o7 o8 o9 ξ ξ ξ)=T (mU c qs mo zs o4 (θ (wD W)) o6 o7 o8 o9 (θ (.tup (((zs.drop 14).take (15+t - 14)).map fun x=>ox (g x)))) ξ ξ):=fun T=>am (aq (ap (ac (bM (fc (dR rfl (bB rfl) (bB ((bJ rfl (av (j9 hz (i:=13) (by decide)) (ai (bo (ac rfl (ac rfl (ac rfl (ac rfl rfl))))) (av (a9 (j9 hz (i:=13) (by decide)) rfl) rfl) Lp) (by split <;> lia))).trans (by rw [C,z]))) (tQ (a:=14) (by lia) (by lia))) rfl) (fV D.int _ _ (fun x _=>(hg x).1) (by simp;lia))) rfl) nC));have hl:((zs.drop 14).take (15+t - 14)).length=t+1:=by simp;lia
 match e:(zs.drop 14).take (15+t - 14),hl with
 | x::r,_ =>
  rw [e] at u;refine ⟨g x,r.map fun x=>ox (g x),(hg x).2,fun d v=>?_,u⟩;obtain ⟨y,_,rfl⟩:=BY.mp v;exact kX _
theorem Q4:∃ tk:D,Py 0 tk/\∀ T:FS,ao Sz T (mU c qs mo zs o4 o5 o6 o7 o8 o9 o10 ξ ξ)=T (mU c qs mo zs o4 o5 o6 o7 o8 o9 o10 (θ tk) ξ):=by
 have key:∃ tk:D,Py 0 tk/\aE (.lst [.non,.non,.int (zs.getD 19 0 % 4),.int (zs.getD 19 0 % 40)]) (.int (zs.getD 18 0 % 4))=.ok tk:=by
  have:zs.getD 18 0 % 4=0\/zs.getD 18 0 % 4=1\/zs.getD 18 0 % 4=2\/zs.getD 18 0 % 4=3:=by lia
  rcases this with e|e|e|e <;> rw [e]
  .exact ⟨_,Py.non,rfl⟩
  .exact ⟨_,Py.non,rfl⟩
  .exact ⟨_,Py.int _,rfl⟩
  .exact ⟨_,Py.int _,rfl⟩
 obtain ⟨tk,h,e⟩:=key;exact ⟨tk,h,fun T=>am (aq (ai (bo (ac rfl (ac rfl (ac (av (j9 hz (by decide)) rfl) (ac (av (j9 hz (by decide)) rfl) rfl))))) (av (j9 hz (by decide)) rfl) e))⟩
omit hz in
theorem Jb {g:List Tq} (hs:∀ q∈g,QOk q) (hl:g.length<=3) (T:FS):ao Us T (mU c qs mo zs (θ (.lst (g.map dj))) o5 o6 o7 o8 o9 o10 o11 ξ)=T (mU c qs mo zs (θ (.lst (g.map dj))) o5 o6 o7 o8 o9 o10 o11 (θ (.tup (((aa7 g.length).map fun k=>(g.getD k q0,qg (g.getD k q0) k)).map MN)))):=by
 refine am (aq (ap (ac (bM (gm (n:=g.length) (ck rfl (jL _ _)) (by lia)) ?_) rfl) nC));rw [pE,abd];refine fV _ _ _ (fun k u=>?_) (by grind);have u:=abD.mp u;have e:g[k]?=(g.getD k q0):=by grind
 have n:=(hs _ (aaZ e)).sh.n.l1;have l1:=oY (g.getD k q0).nm ξ (θ 1);have nm:∀ (r:Sd),ak aE Ii (vC (.int 0)) (θ (.int k)::θ (.lst (g.map dj))::r)=.ok (.str (g.getD k q0).nm):=fun r=>ai ((oA _ _ e)) rfl bw;exact aA (ac (nm _) (ac (ai (dR (nm _) rfl rfl ((afI (by lia)))) ((JJ (by trivial) (NA (by lia)))) ((afI (by have:(⟨#[97+k]⟩:Str).length=1:=rfl;lia)))) rfl))
end
theorem Hj (c:Int) (hq:∀ q∈qs,QOk q) (h0:0 < qs.length) {mo:Nat} (hm:1<=mo/\mo<=3):∃ t:Tre,mm [.int c,.lst (qs.map dj),.int (mo:Int)]=.ok t.d/\TrOk qs t:=by
 have hz:(ot c 24).length=24:=gz _ _ _;have hr:∀ x∈ot c 24,O0 x:=fun x hx=>oJ _ _ _ x hx;obtain ⟨m,em,hm1⟩:=iT ((ot c 24).getD 0 0) (n:=mo) (by lia);obtain ⟨q0,hq0⟩:∃ q0,q0∈qs:=⟨_,aaX h0⟩;have t4:=fun T=>Sk (mo:=(mo:Int)) (c:=c) (qs:=qs) hz (q0:=q0) (m:=m+1) (by lia) (by lia) (by rw [em,Nat.add_sub_cancel]) (by lia) h0 T;generalize es:((ot c 24).drop 1 |>.take (m+1)).map (Bq qs q0)=src at t4
 have hs:∀ q∈src,q∈qs:=fun q h=>by
  rw [<- es] at h;obtain ⟨x,_,rfl⟩:=BY.mp h;exact (Aj h0 x).2
 have hsl:src.length=m+1:=by rw [<- es,lE,abE,acu,hz];lia
 have C:∀ q∈src,QOk q:=fun q h=>hq q (hs q h);have hW:=Xn (by lia) (by lia) C;have t5:=fun T=>PR (c:=c) (mo:=(mo:Int)) (qs:=qs) (zs:=ot c 24) C (by lia) T;obtain ⟨l,hl1,Y,t6⟩:=KM (c:=c) (mo:=(mo:Int)) (qs:=qs) hz hr (o4:=θ (.lst (src.map dj))) (o5:=θ (wD (src.map oC)));obtain ⟨f,ef,hf,hh⟩:=D9 hW hl1 Y;obtain ⟨J,o8,u,v,t7⟩:=Qe (c:=c) (mo:=(mo:Int)) (qs:=qs) hz (o6:=θ (.lst (l.map D.int))) hW hf hh;obtain ⟨g,hg⟩:=OJ hW;obtain ⟨os,ho2,t9⟩:=FQ (c:=c) (mo:=(mo:Int)) (qs:=qs) hz hg (o4:=θ (.lst (src.map dj))) (o6:=θ (.lst (l.map D.int))) (o7:=θ (nO J)) (o8:=o8);obtain ⟨p,ts,z,hts,t10⟩:=M6 (c:=c) (mo:=(mo:Int)) (qs:=qs) hz hg (o4:=θ (.lst (src.map dj))) (o6:=θ (.lst (l.map D.int))) (o7:=θ (nO J)) (o8:=o8) (o9:=θ (.tup os));obtain ⟨tk,Z,t11⟩:=Q4 (c:=c) (mo:=(mo:Int)) (qs:=qs) hz (o4:=θ (.lst (src.map dj))) (o5:=θ (wD (src.map oC))) (o6:=θ (.lst (l.map D.int))) (o7:=θ (nO J)) (o8:=o8) (o9:=θ (.tup os)) (o10:=θ (.tup (ox p::ts)));have I:=fun T=>Jb (c:=c) (mo:=(mo:Int)) (qs:=qs) (zs:=ot c 24) (q0:=q0) C (by lia) (o5:=θ (wD (src.map oC))) (o6:=θ (.lst (l.map D.int))) (o7:=θ (nO J)) (o8:=o8) (o9:=θ (.tup os)) (o10:=θ (.tup (ox p::ts))) (o11:=θ tk) T;have fst:((aa7 src.length).map fun k=>(src.getD k q0,qg (src.getD k q0) k)).map LX=src:=by rw [abd];exact map_range src q0
 have snd:∀ p∈(aa7 src.length).map fun k=>(src.getD k q0,qg (src.getD k q0) k),p.1∈src/\EC p.2:=fun p z=>by
  obtain ⟨k,M,rfl⟩:=BY.mp z;have M:=abD.mp M;have e:src.getD k q0∈src:=by rw [ab2,lT M];exact aaX M
  exact ⟨e,FV (C _ e).sh.n (by lia)⟩
 have L:((aa7 src.length).map fun k=>(src.getD k q0,qg (src.getD k q0) k)).length=src.length:=by rw [lE,abt]
 generalize ((aa7 src.length).map fun k=>(src.getD k q0,qg (src.getD k q0) k))=ps at fst snd I L;have eW:src.map oC=ps.map fun p=>oC p.1:=by rw [<- fst,abd];rfl
 rw [eW] at z u;refine ⟨⟨ps,J,os,p,ts,tk⟩,?_,(by lia:1<=ps.length),(by lia:ps.length<=3),fun p h=>hs _ (snd p h).1,u,v.1,v.2,z,?_⟩
 .rw [GU,mx];exact au ((am (aq (ap (ac rfl (ac rfl rfl)) (jD c 24 (by decide))))).trans ((t4 _).trans ((t5 _).trans ((t6 _).trans ((am (aq (ap (ac rfl (ac rfl rfl)) ef))).trans ((t7 _).trans ((t9 _).trans ((t10 _).trans ((t11 _).trans ((I _).trans (aB (aA (ac rfl (ac rfl (ac rfl (ac rfl (ac rfl (ac rfl rfl))))))))))))))))))
 .refine Py.tup fun d r=>?_;simp at r;rcases r with rfl|rfl|rfl|rfl|rfl|rfl
  .exact (Py.w (by trivial)).mono (by lia)
  .refine (Py.tup (k:=1) fun d r=>?_).mono (by lia);obtain ⟨p,z,rfl⟩:=BY.mp r;exact Py.two (Py.str (jF (C _ (snd p z).1).sh.n)) (Py.str (snd p z).2)
  .exact (Yn u).mono v.1
  .exact (Py.tup ho2).mono (by lia)
  .refine (Py.tup (k:=1) fun d r=>?_).mono (by lia);rcases mK.mp r with rfl|r
   .exact kX p
   .exact hts d r
  .exact Z.mono (by lia)
def Cn.w:Cn->Str
 | .test _ _ _=>"test"
 | .neg _=>"not"
 | .and _ _=>"and"
 | .or _ _=>"or"
def Qy (c:Cn):aE c.d (.int 0)=.ok (.str c.w):=by cases c <;> exact bw
def AE (c:Cn):1<=c.h:=by cases c <;> simp [Cn.h]
def YV (c:Cn) {r:Sd}:aZ yD (θ c.d::r)=.ok η:=aP ((IE (c)))
def Zm (c:Cn) {r:Sd}:aZ (ak bD sG (vC (.str z))) (θ c.d::r)=.ok (decide (c.w=z)):=iZ ((Qy c)) rfl
def Cn.parts:Cn->List Cn
 | .and a b=>a.parts++b.parts
 | c=>[c]
theorem iE:∀ c:Cn,c.parts.length<=c.n
 | .test _ _ _=>by show 1<=3;decide
 | .neg c=>by show 1<=c.n+1;lia
 | .and a b=>by
  have:=iE a
  have:=iE b
  show (a.parts++b.parts).length<=a.n+b.n+1
  grind
 | .or a b=>by show 1<=a.n+b.n+1;lia
theorem wt (h:n<=m) (h1:1<=n):∃ k,m=k+1:=⟨m - 1,by lia⟩
def Up {c:Cn} (hw:¬ c.w="and") (g:c.parts=[c]):bh (n+1) [c.d]=.ok (.lst (c.parts.map Cn.d)):=by
 rw [g];exact au ((skip (YV c)).trans ((skip ((Zm c).trans (by simp_all))).trans rfl))
theorem uf:∀ (c:Cn) (n:Nat),c.h<=n->c.n<=1000->bh n [c.d]=.ok (.lst (c.parts.map Cn.d))
 | .test z a b,n,h,_=>by
  obtain ⟨m,rfl⟩:=wt h (AE _);exact Up (by show ¬ (IF "test")="and";decide +kernel) rfl
 | .neg c,n,h,_=>by
  obtain ⟨m,rfl⟩:=wt h (AE _);rfl
 | .or a b,n,h,_=>by
  obtain ⟨m,rfl⟩:=wt h (AE _);rfl
 | .and a b,n,h,hn=>by
  obtain ⟨m,rfl⟩:=wt h (AE _);have h:max a.h b.h+1<=m+1:=h;have hn:a.n+b.n+1<=1000:=hn;have g:=uf a m (by lia) (by lia);have r:=uf b m (by lia) (by lia);have v:=iE a;have u:=iE b;exact au ((skip rfl).trans (bK ((aB (ai (g) (r) (((afI (by grind)).trans (by rw [<- aa5];rfl))))))))
def fP:Option Cn->List Cn
 | none=>[]
 | some c=>c.parts
theorem zd (h:hF f<=90) (hn:nF f<=300):bC [nO f]=.ok (.lst ((fP f).map Cn.d)):=by
 cases f with
 | none =>
  rfl
 | some c=>exact uf c 100 (by have h:c.h<=90:=h;lia) (by have hn:c.n<=300:=hn;lia)
theorem zp:∀ n,gi n=bh n
 | 0=>rfl
 | n+1=>by
  show rD (nq (gi n)) 1 1=rD (cz (bh n)) 1 1;rw [zp n];rfl
def JQ (h:hF f<=90) (hn:nF f<=300):ik [nO f]=.ok (.lst ((fP f).map Cn.d)):=by
 show gi 100 _=_;rw [zp];exact zd h hn
def rk:D->D
 | .non=>.tup [.int 0,.int 0,.str ""]
 | .int a=>.tup [.int 1,.int a,.str ""]
 | .str z=>.tup [.int 2,.int 0,.str z]
 | _=>.non
def rp:D->ab7
 | .int a=>.tuple [.int 1,.int a,.str ""]
 | .str z=>.tuple [.int 2,.int 0,.str z]
 | _=>.tuple [.int 0,.int 0,.str ""]
def Ph (h:Vl 40 v):my [v]=.ok (rk v):=by
 cases v with
 | non=>rfl
 | int i=>rfl
 | str z=>rfl
 | _=>exact h.elim
def MO:∀ c∈(IF "").cps.toList,c∈tab:=by trivial
def Vd (h:Vl 40 v):bx (rk v)=θ (rp v)/\aaP (rp v)=ζ:=by
 have key:∀ z , (∀ c∈z.cps.toList,c∈tab)->∀ i j , aaP (.tuple [.int i,.int j,.str z])=ζ:=fun z hz i j=>by
  have h1:(adm [.int i,.int j,.str z]).canLay0=ζ:=by
   rw [adG,aa6,aa6,aa6,show (PyData.str z).canLay0=ζ from Ya z hz];rfl
  unfold aaP;rw [h1];rfl
 cases v with
 | non=>exact ⟨rfl,key "" MO 0 0⟩
 | int i=>exact ⟨rfl,key "" MO 1 i⟩
 | str z=>exact ⟨rfl,key z h.2 2 0⟩
 | _=>exact h.elim
theorem Vz {x y:afO} (h:¬ x=y):x < y\/y < x:=by
 grind
def RY {x y:afO} (h:x < y):¬ y < x:=List.lt_asymm h
def ob:LU.Or->Int->Bool
 | .lt,c=>decide (c < 0)
 | .le,c=>decide (c<=0)
 | .gt,c=>decide (0 < c)
 | .ge,c=>decide (0<=c)
theorem VY (g:Vl 40 a) (hb:Vl 40 b):abw (rp a) (rp b)=decide (uC a b=0):=by
 cases a with
 | non=>cases b with
  | non=>decide +kernel
  | int j=>rfl
  | str z=>rfl
  | _=>exact hb.elim
 | int i=>cases b with
  | non=>rfl
  | int j =>
   show (1==1&&(i==j&&((""=="")&&ζ)))=decide (mY i j=0);unfold mY;by_cases h:i=j
   .subst h;simp
   .rw [afJ h]
    have:(i==j)=η:=by simpa using h
    rw [this];split <;> simp
  | str z=>rfl
  | _=>exact hb.elim
 | str x=>cases b with
  | non=>rfl
  | int j=>rfl
  | str y =>
   show (2==2&&(0==0&&((x==y)&&ζ)))=decide (mT x.cps.toList y.cps.toList=0);unfold mT;by_cases h:x=y
   .subst h;simp
   .have h2  := fun e=>h (lP e)
    grind
  | _=>exact hb.elim
 | _=>exact g.elim
theorem Tr (o:LU.Or) (u:Vl 40 a) (hb:Vl 40 b):LU.cpP o (rp a) (rp b)=θ (ob o (uC a b)):=by
 have r:∀ i:Int,abw (.int i) (.int i)=ζ:=fun i=>by show (i==i)=ζ;simp
 have es:abw (.str "") (.str "")=ζ:=by trivial
 cases a with
 | non=>cases b with
  | non =>
   unfold rp;dsimp only;rw [LU.cpP,LU.cpPs,afI (r 0),LU.cpPs,afI (r 0),LU.cpPs,afI es,LU.cpPs];cases o <;> rfl
  | int j =>
   show LU.cpP o (.tuple [.int 0,.int 0,.str ""]) (.tuple [.int 1,.int j,.str ""])=θ (ob o (-1));rw [LU.cpP,LU.cpPs,afJ (by show ¬ ((0:Int)==1)=ζ;decide),LU.cpP];cases o <;> rfl
  | str z =>
   show LU.cpP o (.tuple [.int 0,.int 0,.str ""]) (.tuple [.int 2,.int 0,.str z])=θ (ob o (-1));rw [LU.cpP,LU.cpPs,afJ (by show ¬ ((0:Int)==2)=ζ;decide),LU.cpP];cases o <;> rfl
  | _=>exact hb.elim
 | int i=>cases b with
  | non =>
   show LU.cpP o (.tuple [.int 1,.int i,.str ""]) (.tuple [.int 0,.int 0,.str ""])=θ (ob o 1);rw [LU.cpP,LU.cpPs,afJ (by show ¬ ((1:Int)==0)=ζ;decide),LU.cpP];cases o <;> rfl
  | int j =>
   show LU.cpP o (.tuple [.int 1,.int i,.str ""]) (.tuple [.int 1,.int j,.str ""])=θ (ob o (mY i j));rw [LU.cpP,LU.cpPs,afI (r 1),LU.cpPs];unfold mY;by_cases h:i=j
   .subst h;rw [afI (r i),LU.cpPs,afI es,LU.cpPs,afI rfl];cases o <;> rfl
   .rw [afJ (by show ¬ (i==j)=ζ;simpa using h),LU.cpP,afJ h];congr 1;by_cases g:i < j
    .rw [afI g];cases o <;> (unfold LU.Or.i ob;dsimp only;exact decide_eq_decide.mpr (by lia))
    .rw [afJ g];cases o <;> (unfold LU.Or.i ob;dsimp only;exact decide_eq_decide.mpr (by lia))
  | str z =>
   show LU.cpP o (.tuple [.int 1,.int i,.str ""]) (.tuple [.int 2,.int 0,.str z])=θ (ob o (-1));rw [LU.cpP,LU.cpPs,afJ (by show ¬ ((1:Int)==2)=ζ;decide),LU.cpP];cases o <;> rfl
  | _=>exact hb.elim
 | str x=>cases b with
  | non =>
   show LU.cpP o (.tuple [.int 2,.int 0,.str x]) (.tuple [.int 0,.int 0,.str ""])=θ (ob o 1);rw [LU.cpP,LU.cpPs,afJ (by show ¬ ((2:Int)==0)=ζ;decide),LU.cpP];cases o <;> rfl
  | int j =>
   show LU.cpP o (.tuple [.int 2,.int 0,.str x]) (.tuple [.int 1,.int j,.str ""])=θ (ob o 1);rw [LU.cpP,LU.cpPs,afJ (by show ¬ ((2:Int)==1)=ζ;decide),LU.cpP];cases o <;> rfl
  | str y =>
   show LU.cpP o (.tuple [.int 2,.int 0,.str x]) (.tuple [.int 2,.int 0,.str y])=θ (ob o (mT x.cps.toList y.cps.toList));rw [LU.cpP,LU.cpPs,afI (r 2),LU.cpPs,afI (r 0),LU.cpPs];unfold mT;by_cases h:x=y
   .subst h;rw [afI (by show (x==x)=ζ;simp),LU.cpPs,afI rfl];cases o <;> rfl
   .have h2:¬ x.cps.toList=y.cps.toList:=fun e=>h (lP e);rw [afJ (by show ¬ (x==y)=ζ;rw [beq_iff_eq];exact h),LU.cpP,afJ h2];congr 1;by_cases g:x.cps.toList < y.cps.toList
    .have g2:=RY g;cases o <;> (unfold LU.Or.s ob;simp [g,g2])
    .have g2:=(Vz h2).resolve_left g;cases o <;> (unfold LU.Or.s ob;simp [g,g2])
  | _=>exact hb.elim
 | _=>exact u.elim
def rf (k p:Nat):Sid->Bool
 | .cel a b=>decide (a=k)&&decide (b=p)
 | _=>η
def iP {a b:D} {k l:Nat} (h1:Py k a) (h2:Py l b) (v:k<=60) (hl:l<=60) (hs:c8 a=ξ):∃ p q,bx a=θ p/\bx b=θ q/\jl a b=θ (abw p q):=by
 obtain ⟨p,r,u,z⟩:=h1;obtain ⟨q,g,C,I⟩:=h2;refine ⟨p,q,r,g,?_⟩;unfold jl;rw [hs]
 have:eL a b=θ (abw p q):=by
  unfold eL;rw [r,g];dsimp only;rw [afI ⟨Py.shaped u z v,Py.shaped C I hl⟩]
 cases c8 b <;> exact this
theorem oT {s:Sid} (h:d8 W s) (k p:Nat):bD s.d (Sid.cel k p).d=.ok (.bl (rf k p s)):=by
 obtain ⟨x,y,g,r,e⟩:=iP (qL h) (kX (k,p)) (by decide) (by decide) (by cases s <;> rfl);have e:jl s.d (Sid.cel k p).d=θ (abw x y):=e;unfold bD;rw [e];cases r;cases s with
 | val v =>
  have g:((bx v).bind fun q=>θ (adm [.str "value",q]))=θ x:=by
   cases hv:bx v with
   | none=>simp [Sid.d,bx,bU,hv] at g
   | some q=>simpa [Sid.d,bx,bU,hv] using g
  obtain ⟨q,u,g⟩:=bY.mp g;cases g;rfl
 | cel a b =>
  cases g;show R.ok (D.bl (abw (.tuple [.str "cell",.int (a:Int),.int (b:Int)]) (.tuple [.str "cell",.int (k:Int),.int (p:Int)])))=_
  have:abw (.tuple [.str "cell",.int (a:Int),.int (b:Int)]) (.tuple [.str "cell",.int (k:Int),.int (p:Int)])=rf k p (.cel a b):=by
   show (((IF "cell")==(IF "cell"))&&(((a:Int)==(k:Int))&&(((b:Int)==(p:Int))&&ζ)))=_;rw [aca];simp [rf,Int.ofNat_inj]
  rw [this]
def sq (q:Str×D):D:=.tup [.str q.1,q.2]
noncomputable def iy (z:Str):Str:=if z="<" then ">" else if z="<=" then ">=" else if z=">" then "<" else if z=">=" then "<=" else z
def Jw {z:Str} (h:Sg z):Qr ip (.str z)=.ok (.str (iy z)):=by
 rcases h with rfl|rfl|rfl|rfl|rfl|rfl <;> kernel_rfl
def kj (k p:Nat) (z:Str) (a:Sid):Sid->List (Str×D)
 | .val v=>if rf k p a=ζ then [(z,v)] else []
 | _=>[]
def mi (k p:Nat):Cn->List (Str×D)
 | .test z a b=>kj k p z a b++kj k p (iy z) b a
 | _=>[]
def Sid.w:Sid->Str
 | .val _=>"value"
 | .cel _ _=>"cell"
def EO (s:Sid):aE s.d (.int 0)=.ok (.str s.w):=by cases s <;> exact bw
def pN {τ υ:FT} {U:Sd} {x y:Bool} (h:τ U=.ok x) (h2:υ U=.ok y):dc τ υ U=.ok (x&&y):=by
 cases x with
 | true=>exact eX h h2
 | false=>exact jr h
abbrev WT (i j:Int):FT:=dc (aZ (ak bD (ak aE (ae 3) (vC (.int i))) (ae 1))) (aZ (ak bD (ak aE (ak aE (ae 3) (vC (.int j))) (vC (.int 0))) (vC (.str "value"))))
theorem WC:¬ (IF "cell")="value":=by trivial
theorem An {o0:Option D} {x:D} {a b:Sid} {z:Str} {i j:Int} {ε:FE} {l:List (Str×D)} {k p:Nat} (u:d8 W a) (h1:aE x (.int i)=.ok a.d) (h2:aE x (.int j)=.ok b.d) (hl:l.length < 1000)
  (r:∀ v,b=.val v->ε [o0,θ (Sid.cel k p).d,θ (.lst (l.map sq)),θ x]=.ok (sq (z,v))) :
  bz (WT i j) (bj 2 ε) ay [o0,θ (Sid.cel k p).d,θ (.lst (l.map sq)),θ x]=.ok (.nx [o0,θ (Sid.cel k p).d,θ (.lst ((l++kj k p z a b).map sq)),θ x]):=by
 have g:WT i j [o0,θ (Sid.cel k p).d,θ (.lst (l.map sq)),θ x]=.ok (rf k p a&&decide (b.w="value")):=pN (aP (ai (ai rfl rfl h1) rfl (oT u k p))) (iZ (ai (ai rfl rfl h2) rfl (EO b)) rfl);cases b with
 | val v =>
  have e:(rf k p a&&decide ((Sid.val v).w="value"))=rf k p a:=by simp [Sid.w]
  rw [e] at g;cases hc:rf k p a with
  | true =>
   rw [hc] at g;refine (aQ g).trans ((e9 rfl (r v rfl) (by rw [lE];exact hl)).trans ?_);simp [kj,hc]
  | false =>
   rw [hc] at g;refine (bv g).trans ?_;simp [kj,hc];rfl
 | cel c d =>
  have e:(rf k p a&&decide ((Sid.cel c d).w="value"))=η:=by
   rw [show decide ((Sid.cel c d).w="value")=η from afK WC,Bool.and_false]
  rw [e] at g;refine (bv g).trans ?_;simp [kj];rfl
abbrev aae (φ:FE) (j:Int):FE:=aO (aa φ (aa (ak aE (ak aE (ae 3) (vC (.int j))) (vC (.int 1))) ag))
abbrev YO:FS:=bz (aZ (ak bD (ak aE (ae 3) (vC (.int 0))) (vC (.str "test")))) (ao (bz (WT 2 3) (bj 2 (aae (ak aE (ae 3) (vC (.int 1))) 3)) ay) (bz (WT 3 2) (bj 2 (aae (xG (Qr ip) (ak aE (ae 3) (vC (.int 1)))) 2)) ay)) ay
def HV {c:Cn} {o0 r g:Option D}:aZ (ak bD (ak aE (ae 3) (vC (.int 0))) (vC (.str "test"))) [o0,r,g,θ c.d]=.ok (decide (c.w="test")):=iZ (ai rfl rfl (Qy c)) rfl
theorem NU:¬ (IF "not")="test"/\¬ (IF "and")="test"/\¬ (IF "or")="test":=by trivial
def pC (k p:Nat) (z:Str) (a b:Sid):(kj k p z a b).length<=1:=by
 unfold kj;split
 .split <;> simp
 .simp
def RE {f:D->R D} {φ:FE} {U:Sd} {a b:D} (h:φ U=.ok a) (h2:f a=.ok b):xG f φ U=.ok b:=by unfold xG;rw [h,aG,h2]
theorem KI {c:Cn} (r:gC W c) {o0:Option D} {l:List (Str×D)} {k p:Nat} (hl:l.length < 999) :
  YO [o0,θ (Sid.cel k p).d,θ (.lst (l.map sq)),θ c.d]=.ok (.nx [o0,θ (Sid.cel k p).d,θ (.lst ((l++mi k p c).map sq)),θ c.d]):=by
 cases c with
 | test z a b =>
  obtain ⟨hz,g,hb⟩:=r;refine (aQ HV).trans ((am (An (z:=z) g rfl rfl (by lia) fun v e=>?_)).trans ((An (z:=iy z) hb rfl rfl (by
   have:=pC k p z a b
   rw [aaT];lia) fun v e=>?_).trans ?_))
  .subst e;exact aA (ac rfl (ac rfl rfl))
  .subst e;exact aA (ac (RE rfl (Jw hz)) (ac rfl rfl))
  .rw [abr];rfl
 | neg c=>exact (bv (HV.trans (by rw [show (Cn.neg c).w="not" from rfl,afK NU.1]))).trans (by simp [mi];rfl)
 | and a b=>exact (bv (HV.trans (by rw [show (Cn.and a b).w="and" from rfl,afK NU.2.1]))).trans (by simp [mi];rfl)
 | or a b=>exact (bv (HV.trans (by rw [show (Cn.or a b).w="or" from rfl,afK NU.2.2]))).trans (by simp [mi];rfl)
theorem Ax (k p:Nat) (c:Cn):(mi k p c).length<=2:=by
 cases c with
 | test z a b =>
  have h1:=pC k p z a b;have h2:=pC k p (iy z) b a;unfold mi;rw [aaT];lia
 | _=>simp [mi]
theorem yZ {o0:Option D} {k p:Nat}:∀ (cs:List Cn) (l:List (Str×D)) (g:Option D),(∀ c∈cs,gC W c)->l.length+2*cs.length < 999->∃ u,cc (.one 3) YO (cs.map Cn.d) [o0,θ (Sid.cel k p).d,θ (.lst (l.map sq)),g]=.ok (.nx [o0,θ (Sid.cel k p).d,θ (.lst ((l++cs.flatMap (mi k p)).map sq)),u])
 | [],l,g,_,_=>⟨g,by simp;rfl⟩
 | c::r,l,g,hc,hl=>by
  have h2:=Ax k p c;obtain ⟨o,v⟩:=yZ r (l++mi k p c) (θ c.d) (fun x z=>hc x (iN _ z)) (by simp at hl ⊢;lia);refine ⟨o,?_⟩;have t:YO (ac5 [o0,θ (Sid.cel k p).d,θ (.lst (l.map sq)),g] 3 (θ c.d))=_:=KI (hc c (by simp)) (by simp at hl;lia);rw [GE,bZ t,v,abr];rfl
theorem pF {cs:List Cn} {k p:Nat} (g:∀ c∈cs,gC W c) (hl:cs.length < 400):eZ [.lst (cs.map Cn.d),(Sid.cel k p).d]=.ok (.lst ((cs.flatMap (mi k p)).map sq)):=by
 obtain ⟨o,e⟩:=yZ (o0:=θ (.lst (cs.map Cn.d))) (k:=k) (p:=p) cs [] ξ g (by simp;lia);rw [m5,cZ];refine au ((am (ij (bo rfl))).trans ((am (dh (fc rfl rfl) e)).trans (aB rfl)))
abbrev Bd:=D×Bool
def wV (b:Bd):D:=.tup [b.1,.bl b.2]
def f7:Option Bd->D
 | none=>.tup []
 | some b=>wV b
def Ul (s:Int) (b o:Bd):Bool:=decide (uC b.1 o.1=s)||(decide (uC b.1 o.1=0)&&!b.2)
def up (s:Int) (o:Option Bd) (b:Bd):Option Bd:=match o with
 | none=>θ b
 | some x=>if Ul s b x=ζ then θ b else θ x
noncomputable def xc (z:Str):Bool:=decide (z="=")||(decide (z="<=")||decide (z=">="))
def vT (z:Str):Bool:=decide (z="=")||(decide (z=">")||decide (z=">="))
def wm (z:Str):Bool:=decide (z="=")||(decide (z="<")||decide (z="<="))
def Si {z:Str} (h:Sg z):rg (.str "=") (.str z)=.ok (.bl (xc z)):=by
 rcases h with rfl|rfl|rfl|rfl|rfl|rfl <;> kernel_rfl
def LI {z:Str} (h:Sg z):rg (.str z) dM=.ok (.bl (vT z)):=by
 rcases h with rfl|rfl|rfl|rfl|rfl|rfl <;> kernel_rfl
def L6 {z:Str} (h:Sg z):rg (.str z) eD=.ok (.bl (wm z)):=by
 rcases h with rfl|rfl|rfl|rfl|rfl|rfl <;> kernel_rfl
def EK {b:Bd} (h:Vl 40 b.1):Py 1 (wV b):=Py.two (Gy h) (Py.bl _)
def qC (o:Option Bd):Prop:=∀ b,o=θ b->Vl 40 b.1
def jq:Py 1 (.tup []):=Py.tup fun d h=>nomatch h
def xg {o:Option Bd} (h:qC o):bD (f7 o) (.tup [])=.ok (.bl o.isNone):=by
 unfold bD;cases o with
 | none=>rw [show f7 ξ=.tup [] from rfl,jq.self (by decide) rfl];rfl
 | some b =>
  obtain ⟨p,q,g,r,e⟩:=iP (EK (h b rfl)) jq (by decide) (by decide) rfl;rw [show f7 (θ b)=wV b from rfl,e];cases r;have g:((bx b.1).bind fun q=>θ (adm [q,.bool b.2]))=θ p:=by
   cases hv:bx b.1 with
   | none=>simp [wV,bx,bU,hv] at g
   | some q=>simpa [wV,bx,bU,hv] using g
  obtain ⟨q,u,g⟩:=bY.mp g;cases g;rfl
def Pj {φ ψ:FE} {U:Sd} {x y:Bool} (h:φ U=.ok (.bl x)) (h2:ψ U=.ok (.bl y)):CM φ ψ U=.ok (.bl (x||y)):=by
 unfold CM;rw [h,aG];cases x
 .exact h2
 .rfl
def HU {φ ψ:FE} {U:Sd} {x y:Bool} (h:φ U=.ok (.bl x)) (h2:ψ U=.ok (.bl y)):ga φ ψ U=.ok (.bl (x&&y)):=by
 unfold ga;rw [h,aG];cases x
 .rfl
 .exact h2
def v8 {b o:Bd} {s:Int} (hb:Vl 40 b.1) (g:Vl 40 o.1):dl [wV b,wV o,.int s]=.ok (.bl (Ul s b o)):=by
 rw [rM,fw];exact au ((am (aq (ap (ac (ai rfl rfl bw) (ac (ai rfl rfl bw) rfl)) (y8 _ _ (hb.mono (by decide)) (g.mono (by decide)))))).trans (aB (Pj (ai rfl rfl jw) (HU (ai rfl rfl jw) (JV (ai rfl rfl bQ))))))
def wB (q:Str×D):Bd:=(q.2,xc q.1)
def AV (o:Option Bd) (q:Str×D):Option Bd:=if vT q.1=ζ then up 1 o (wB q) else o
def Ei (o:Option Bd) (q:Str×D):Option Bd:=if wm q.1=ζ then up (-1) o (wB q) else o
abbrev Re (i:Nat) (k:D) (ε:FE):FT:=dc (aZ (ak rg (ak aE (ae 5) (vC (.int 0))) (vC k))) (kQ (aZ (ak bD (ae i) (aO ag))) (cx (aj dl (aa (ae 6) (aa (ae i) (aa ε ag))))))
abbrev Yi:FS:=ao (az 6 (aO (aa (ak aE (ae 5) (vC (.int 1))) (aa (ak rg (vC (.str "=")) (ak aE (ae 5) (vC (.int 0)))) ag)))) (ao (bz (Re 3 dM (vC (.int 1))) (az 3 (ae 6)) ay) (bz (Re 4 eD (xG ut (vC (.int 1)))) (az 4 (ae 6)) ay))
def yQ {s:Int} {o:Option Bd} {b:Bd} (h:qC o) (hb:Vl 40 b.1):qC (up s o b):=by
 intro x g;unfold up at g;split at g
 .cases g;exact hb
 .split at g
  .cases g;exact hb
  .cases g;exact h _ rfl
def Rf (s:Int) (o:Option Bd) (b:Bd):Bool:=match o with
 | none=>ζ
 | some x=>Ul s b x
def Ta {s:Int} {o:Option Bd} {b:Bd}:up s o b=if Rf s o b=ζ then θ b else o:=by
 cases o with
 | none=>rfl
 | some x=>rfl
def AI {i:Nat} {kd:D} {ε:FE} {U:Sd} {s:Int} {o:Option Bd} {b:Bd} {q:Str×D} {c:Bool} (g:qC o) (hb:Vl 40 b.1) (C:ak aE (ae 5) (vC (.int 0)) U=.ok (.str q.1)) (u:rg (.str q.1) kd=.ok (.bl c))
  (r:ae i U=.ok (f7 o)) (z:ae 6 U=.ok (wV b)) (v:ε U=.ok (.int s)):Re i kd ε U=.ok (c&&Rf s o b):=by
 refine pN (aP (ai C rfl u)) ?_;have e:aZ (ak bD (ae i) (aO ag)) U=.ok o.isNone:=aP (ai r (aA rfl) (xg g));cases o with
 | none=>exact TM e
 | some x=>exact pH e (dF (ap (ac z (ac r (ac v rfl))) (v8 hb (g x rfl))) rfl)
theorem Iy {a0 a1 a2 o6:Option D} {l h:Option Bd} {q:Str×D} (hl:qC l) (r:qC h) (hz:Sg q.1) (g:Vl 40 q.2) :
  Yi [a0,a1,a2,θ (f7 l),θ (f7 h),θ (sq q),o6]=.ok (.nx [a0,a1,a2,θ (f7 (AV l q)),θ (f7 (Ei h q)),θ (sq q),θ (wV (wB q))]):=by
 refine (am (aq (aA (ac (ai rfl rfl bQ) (ac (ai rfl (ai rfl rfl bw) (Si hz)) rfl))))).trans ?_;have h1:Re 3 dM (vC (.int 1)) [a0,a1,a2,θ (f7 l),θ (f7 h),θ (sq q),θ (wV (wB q))]=.ok (vT q.1&&Rf 1 l (wB q)):=AI (q:=q) hl g (ai rfl rfl bw) (LI hz) rfl rfl rfl;have u:bz (Re 3 dM (vC (.int 1))) (az 3 (ae 6)) ay [a0,a1,a2,θ (f7 l),θ (f7 h),θ (sq q),θ (wV (wB q))]=.ok (.nx [a0,a1,a2,θ (f7 (AV l q)),θ (f7 h),θ (sq q),θ (wV (wB q))]):=by
  unfold AV;rw [Ta];cases e1:vT q.1 <;> cases e2:Rf 1 l (wB q) <;> rw [e1,e2] at h1
  .exact bv h1
  .exact bv h1
  .exact bv h1
  .exact (aQ h1).trans (aq rfl)
 refine (am u).trans ?_;have h2:Re 4 eD (xG ut (vC (.int 1))) [a0,a1,a2,θ (f7 (AV l q)),θ (f7 h),θ (sq q),θ (wV (wB q))]=.ok (wm q.1&&Rf (-1) h (wB q)):=AI (q:=q) r g (ai rfl rfl bw) (L6 hz) rfl rfl rfl;unfold Ei;rw [Ta];cases e1:wm q.1 <;> cases e2:Rf (-1) h (wB q) <;> rw [e1,e2] at h2
 .exact bv h2
 .exact bv h2
 .exact bv h2
 .exact (aQ h2).trans (aq rfl)
theorem yS {a0 a1 a2:Option D}:∀ (ts:List (Str×D)) (l h:Option Bd) (o5 o6:Option D),qC l->qC h->(∀ q∈ts,Sg q.1/\Vl 40 q.2)->∃ g u,cc (.one 5) Yi (ts.map sq) [a0,a1,a2,θ (f7 l),θ (f7 h),o5,o6]=.ok (.nx [a0,a1,a2,θ (f7 (ts.foldl AV l)),θ (f7 (ts.foldl Ei h)),g,u])
 | [],l,h,o5,o6,_,_,_=>⟨o5,o6,rfl⟩
 | q::r,l,h,o5,o6,hl,hh,hq=>by
  obtain ⟨hz,v⟩:=hq q (by simp);have g1:qC (AV l q):=by unfold AV;split;exact yQ hl v;exact hl
  have g2:qC (Ei h q):=by unfold Ei;split;exact yQ hh v;exact hh
  obtain ⟨a,b,e⟩:=yS r (AV l q) (Ei h q) (θ (sq q)) (θ (wV (wB q))) g1 g2 fun x z=>hq x (iN _ z);refine ⟨a,b,?_⟩;have t:Yi (ac5 [a0,a1,a2,θ (f7 l),θ (f7 h),o5,o6] 5 (θ (sq q)))=_:=Iy hl hh hz v;rw [GE,bZ t];exact e
theorem AO {z:Str} (h:Sg z):Sg (iy z):=by
 rcases h with rfl|rfl|rfl|rfl|rfl|rfl <;> (unfold Sg;decide +kernel)
def zg {k p:Nat} {z:Str} {a b:Sid} (hz:Sg z) (hb:d8 W b):∀ q∈kj k p z a b,Sg q.1/\Vl 40 q.2:=by
 intro q g;unfold kj at g;split at g
 .split at g
  .rw [aaS.mp g];exact ⟨hz,hb⟩
  .cases g
 .cases g
def Ov {k p:Nat} {c:Cn} (h:gC W c):∀ q∈mi k p c,Sg q.1/\Vl 40 q.2:=by
 cases c with
 | test z a b =>
  intro q g;rcases By.mp g with g|g
  .exact zg h.1 h.2.2 q g
  .exact zg (AO h.1) h.2.1 q g
 | _=>intro q g;cases g
def pZ (k p:Nat) (f:Option Cn):List (Str×D):=(fP f).flatMap (mi k p)
theorem pP {W:Wl}:∀ {c:Cn},gC W c->∀ x∈c.parts,gC W x
 | .and a b,h,x,hx=>by
  rcases By.mp hx with hx|hx
  .exact pP h.1 x hx
  .exact pP h.2 x hx
 | .test z a b,h,x,hx=>by rw [aaS.mp hx];exact h
 | .neg c,h,x,hx=>by rw [aaS.mp hx];exact h
 | .or a b,h,x,hx=>by rw [aaS.mp hx];exact h
def DP {W:Wl} {f:Option Cn} (h:rN W f):∀ x∈fP f,gC W x:=by
 cases f with
 | none=>intro x g;cases g
 | some c=>exact pP h.1
def Dl {f:Option Cn} (h:nF f<=300):(fP f).length<=300:=by
 cases f with
 | none=>exact aaQ _
 | some c=>exact Le (iE c) h
def HC (k p:Nat) (f:Option Cn):Option Bd:=(pZ k p f).foldl AV ξ
def HB (k p:Nat) (f:Option Cn):Option Bd:=(pZ k p f).foldl Ei ξ
def DQ (k p:Nat) (f:Option Cn):D:=.tup [f7 (HC k p f),f7 (HB k p f)]
def tX {W:Wl} {f:Option Cn} (h:rN W f) (k p:Nat):∀ q∈pZ k p f,Sg q.1/\Vl 40 q.2:=fun q g=>by
 obtain ⟨c,r,g⟩:=adO.mp g;exact Ov (DP h c r) q g
theorem sT {W:Wl} {tr:D} {f:Option Cn} (r:aE tr (.int 2)=.ok (nO f)) (g:rN W f) (u:hF f<=90) (hn:nF f<=300) (k p:Nat):dQ [tr,.int (k:Int),.int (p:Int)]=.ok (DQ k p f):=by
 obtain ⟨o5,o6,e⟩:=yS (a0:=θ tr) (a1:=θ (.int (k:Int))) (a2:=θ (.int (p:Int))) (pZ k p f) ξ ξ ξ ξ (fun b h=>nomatch h) (fun b h=>nomatch h) (tX g k p)
 rw [vD,gJ];refine au ((am (aq (aA rfl))).trans ((am (aq (aA rfl))).trans ((am (dh (fc (ap (ac (ap (ac (ai rfl rfl r) rfl) (zd u hn)) (ac (aA (ac rfl (ac rfl (ac rfl rfl)))) rfl)) (pF (k:=k) (p:=p) (DP g) (by have:=Dl hn;lia))) rfl) e)).trans (aB (aA (ac rfl (ac rfl rfl)))))))
theorem Lw {v:D} (h:Vl 40 v):Py 1 (rk v):=by
 cases v with
 | non=>exact LH (Py.int _) (Py.int _) (Py.w (by trivial))
 | int i=>exact LH (Py.int _) (Py.int _) (Py.w (by trivial))
 | str z=>exact LH (Py.int _) (Py.int _) (Py.str h.2)
 | _=>exact h.elim
def sI (up:Bool) (b:Bool):Int:=if b=up then 0 else 1
def en (u:Bool) (b:Bd):D:=.tup [rk b.1,.int (sI u b.2),wV b]
def LY {u:Bool} {b:Bd} (h:Vl 40 b.1):CA (en u b)=θ (.tuple [rp b.1,.int (sI u b.2)]):=by
 obtain ⟨p,e,c,d⟩:=Py.two (Lw h) ((Py.int (sI u b.2)).mono (by decide:0<=1));have g:bx (.tup [rk b.1,.int (sI u b.2)])=θ (.tuple [rp b.1,.int (sI u b.2)]):=by
  show ((bU [rk b.1,.int (sI u b.2)]).map adm)=_;show (((bx (rk b.1)).bind fun p=>θ (p::[PyData.int (sI u b.2)])).map adm)=_;rw [(Vd h).1];rfl
 unfold CA en;dsimp only;rw [g,acf];rw [g] at e;cases e;rw [afI (Py.shaped c d (by decide))]
theorem On {a b:D}:uC a b=-1\/uC a b=0\/uC a b=1:=by
 have h1:∀ i j:Int,mY i j=-1\/mY i j=0\/mY i j=1:=fun i j=>by
  unfold mY;split
  .exact .inr (.inl rfl)
  .split
   .exact .inl rfl
   .exact .inr (.inr rfl)
 have h2:∀ i j:afO,mT i j=-1\/mT i j=0\/mT i j=1:=fun i j=>by
  unfold mT;split
  .exact .inr (.inl rfl)
  .split
   .exact .inl rfl
   .exact .inr (.inr rfl)
 unfold uC;split <;> first|exact h1 _ _|exact h2 _ _|exact .inl rfl|exact .inr (.inl rfl)|exact .inr (.inr rfl)
theorem Vk {a b:D} (g:Vl 40 a) (hb:Vl 40 b) (h:uC a b=0):a=b:=by
 cases a with
 | non=>cases b with
  | non=>rfl
  | int j=>cases h
  | str z=>cases h
  | _=>exact hb.elim
 | int i=>cases b with
  | non=>cases h
  | int j =>
   have h:mY i j=0:=h;unfold mY at h;split at h
   .rename_i e;rw [e]
   .split at h <;> cases h
  | str z=>cases h
  | _=>exact hb.elim
 | str x=>cases b with
  | non=>cases h
  | int j=>cases h
  | str z =>
   have h:mT x.cps.toList z.cps.toList=0:=h;unfold mT at h;split at h
   .rename_i e;rw [lP e]
   .split at h <;> cases h
  | _=>exact hb.elim
 | _=>exact g.elim
def oU:Bool->LU.Or
 | true=>.gt
 | false=>.lt
def sU:Bool->Int
 | true=>1
 | false=>-1
def SW (u:Bool) (d x:Bd):Bool:=if uC d.1 x.1=0 then !d.2&&x.2 else decide (uC d.1 x.1=sU u)
theorem TV {u:Bool} {d x:Bd} (g:Vl 40 d.1) (r:Vl 40 x.1):LU.cpP (oU u) (.tuple [rp d.1,.int (sI u d.2)]) (.tuple [rp x.1,.int (sI u x.2)])=θ (SW u d x):=by
 rw [LU.cpP,LU.cpPs,VY g r,Tr _ g r];unfold SW;by_cases h:uC d.1 x.1=0
 .rw [afL h,afI rfl,afI h];cases u <;> cases h1:d.2 <;> cases h2:x.2 <;> decide +kernel
 .rw [afK h,afJ GT,afJ h]
  have:=On (a:=d.1) (b:=x.1)
  congr 1;cases u <;> simp only [oU,ob,sU] <;> exact decide_eq_decide.mpr (by lia)
def Q8 (u:Bool) (x d:Bd):Bd:=if Ul (sU u) d x=ζ then d else x
def Kr {u:Bool} {d x:Bd} (r:Vl 40 d.1) (I:Vl 40 x.1):(if SW u d x=ζ then d else x)=Q8 u x d:=by
 unfold Q8 SW Ul;by_cases h:uC d.1 x.1=0
 .have e:=Vk r I h;rw [afI h,h];obtain ⟨g,v⟩:=d;obtain ⟨C,z⟩:=x;have e:g=C:=e;subst e;cases u <;> cases v <;> cases z <;> rfl
 .rw [afJ h,afK h,Bool.false_and,Bool.or_false]
theorem De {u:Bool}:∀ (l:List Bd) (x:Bd),Vl 40 x.1->(∀ b∈l,Vl 40 b.1)->rC (oU u) (en u x) (.tuple [rp x.1,.int (sI u x.2)]) (l.map (en u))=θ (en u (l.foldl (Q8 u) x))
 | [],x,_,_=>rfl
 | d::r,x,hx,h=>by
  have g:=h d (by simp);rw [GE,rC,LY g,acf,TV g hx,acf,ac0,<- Kr g hx];cases SW u d x
  .exact De r x hx fun b hb=>h b (iN _ hb)
  .exact De r d g fun b hb=>h b (iN _ hb)
def Zt {u:Bool} {x:Bd} {l:List Bd} (g:Vl 40 x.1) (h:∀ b∈l,Vl 40 b.1):Hz (oU u) [.lst (((x::l)).map (en u))]=.ok (en u (l.foldl (Q8 u) x)):=by
 unfold Hz;rw [GE];dsimp only;rw [LY g,acf,De l x g h]
theorem Ac {s:Sid} (h:d8 W s) (k p:Nat):∃ x,bx s.d=θ x/\aaP x=ζ/\x.depth<=32/\abw x (.tuple [.str "cell",.int (k:Int),.int (p:Int)])=rf k p s:=by
 obtain ⟨x,r,c,d⟩:=qL h;refine ⟨x,r,Py.shaped c d (by decide),by lia,?_⟩;have e:=oT h k p;obtain ⟨u,y,g,f2,f⟩:=iP (qL h) (kX (k,p)) (by decide) (by decide) (by cases s <;> rfl);rw [r] at g;cases g;cases f2;unfold bD at e;rw [show jl s.d (Sid.cel k p).d=_ from f] at e;injection e with e
 injection e
theorem OP {a b:Sid} (M:d8 W a) (hb:d8 W b) (k p:Nat):qE (Sid.cel k p).d (.tup [a.d,b.d])=.ok (.bl (rf k p a||rf k p b)):=by
 obtain ⟨x,Z,J,Y,u⟩:=Ac M k p;obtain ⟨y,v,L,I,C⟩:=Ac hb k p;obtain ⟨z,r,c,d⟩:=kX (k,p);have g:z=.tuple [.str "cell",.int k,.int p]:=by cases r;rfl
 subst g;unfold qE Lg hZ;dsimp only;rw [show bx (Sid.cel k p).d=_ from r,show bU [a.d,b.d]=[x,y] by
  show ((bx a.d).bind fun p=>((bx b.d).bind fun q=>[q]).map (p::·))=_;rw [Z,v];rfl]
 dsimp only;rw [(Py.shaped c d (by decide))];simp [dE,J,L,Y,I,u,C,d7]
def NX (a b:Sid):rg (.str "value") (.tup [.str a.w,.str b.w])=.ok (.bl (decide (a.w="value")||decide (b.w="value"))):=by
 cases a <;> cases b <;> kernel_rfl
abbrev YD:FT:=dc (aZ (ak bD (ak aE (ae 4) (vC (.int 0))) (vC (.str "test")))) (dc (aZ (ak qE (ae 1) (lh jn (ae 4) (bI (vC (.int 2))) cO))) (aZ (ak rg (vC (.str "value")) (aO (aa (ak aE (ak aE (ae 4) (vC (.int 2))) (vC (.int 0))) (aa (ak aE (ak aE (ae 4) (vC (.int 3))) (vC (.int 0))) ag))))))
abbrev ZU:FE:=vv (HG (wg [("<",(vC (.str ">"))),("<=",(vC (.str ">="))),(">",(vC (.str "<"))),(">=",(vC (.str "<=")))])) (ae 5) (ae 5)
abbrev edI:FS:=bz (aZ (ak bD (ak aE (ae 4) (vC (.int 3))) (ae 1))) (ao (az 5 ZU) (az 6 (ak aE (ak aE (ae 4) (vC (.int 2))) (vC (.int 1))))) ay
abbrev ZM (ε g:FE):FE:=aO (aa (aj my (aa (ae 6) ag)) (aa (aj qB (aa ε ag)) (aa (aO (aa (ae 6) (aa g ag))) ag)))
abbrev Y4:FS:=bz (aZ (ak rg (ae 5) (aO (aa (vC (.str "=")) (aa (vC (.str ">")) (aa (vC (.str ">=")) ag)))))) (bj 2 (ZM (ak bD (ae 5) (vC (.str ">"))) (ak fh (ae 5) (vC (.str ">"))))) ay
abbrev aaE:FS:=bz (aZ (ak rg (ae 5) (aO (aa (vC (.str "=")) (aa (vC (.str "<")) (aa (vC (.str "<=")) ag)))))) (bj 3 (ZM (ak fh (ae 5) (vC (.str "<"))) (ak fh (ae 5) (vC (.str "<"))))) ay
abbrev Yw:FS:=bz YD (ao (az 5 (ak aE (ae 4) (vC (.int 1)))) (ao (az 6 (ak aE (ak aE (ae 4) (vC (.int 3))) (vC (.int 1)))) (ao edI (ao Y4 aaE)))) ay
abbrev En (a0:Option D) (k p:Nat) (L H:List Bd) (o4 o5 o6:Option D):Sd:=[a0,θ (Sid.cel k p).d,θ (.lst (L.map (en ζ))),θ (.lst (H.map (en η))),o4,o5,o6,ξ,ξ]
def eI (ts:List (Str×D)):List Bd:=(ts.filter fun q=>vT q.1).map wB
def ci (ts:List (Str×D)):List Bd:=(ts.filter fun q=>wm q.1).map wB
theorem YJ {z:Str} (hz:Sg z) (h:vT z=ζ):fh (.str z) (.str ">")=.ok (.bl (xc z))/\qB [.bl (decide (z=">"))]=.ok (.int (sI ζ (xc z))):=by
 rcases hz with rfl|rfl|rfl|rfl|rfl|rfl <;> first|exact absurd h (by trivial)|exact ⟨by kernel_rfl,by kernel_rfl⟩
theorem X8 {z:Str} (hz:Sg z) (h:wm z=ζ):fh (.str z) (.str "<")=.ok (.bl (xc z))/\qB [.bl (xc z)]=.ok (.int (sI η (xc z))):=by
 rcases hz with rfl|rfl|rfl|rfl|rfl|rfl <;> first|exact absurd h (by trivial)|exact ⟨by kernel_rfl,by kernel_rfl⟩
theorem zx {a0 o4:Option D} {k p:Nat} {L H:List Bd} {q:Str×D} (hz:Sg q.1) (I:Vl 40 q.2) (hl:L.length < 1000) (J:H.length < 1000) :
  ao Y4 aaE (En a0 k p L H o4 (θ (.str q.1)) (θ q.2))=.ok (.nx (En a0 k p (L++eI [q]) (H++ci [q]) o4 (θ (.str q.1)) (θ q.2))):=by
 obtain ⟨z,v⟩:=q;have hr:=Ph I;have u:aZ (ak rg (ae 5) (aO (aa (vC (.str "=")) (aa (vC (.str ">")) (aa (vC (.str ">=")) ag))))) (En a0 k p L H o4 (θ (.str z)) (θ v))=.ok (vT z):=aP (ai rfl (aA (ac rfl (ac rfl (ac rfl rfl)))) (LI hz));have C:Y4 (En a0 k p L H o4 (θ (.str z)) (θ v))=.ok (.nx (En a0 k p (L++eI [(z,v)]) H o4 (θ (.str z)) (θ v))):=by
  cases h:vT z with
  | false =>
   rw [h] at u;refine (bv u).trans ?_;simp [eI,h];rfl
  | true =>
   rw [h] at u;obtain ⟨r,f2⟩:=YJ hz h;refine (aQ u).trans ((e9 (d:=en ζ (wB (z,v))) rfl (aA (ac (ap (ac rfl rfl) hr) (ac (ap (ac (ai rfl rfl gL) rfl) f2) (ac (aA (ac rfl (ac (ai rfl rfl r) rfl))) rfl)))) (by rw [lE];exact hl)).trans ?_);simp [eI,h]
 have g:aZ (ak rg (ae 5) (aO (aa (vC (.str "=")) (aa (vC (.str "<")) (aa (vC (.str "<=")) ag))))) (En a0 k p (L++eI [(z,v)]) H o4 (θ (.str z)) (v))=.ok (wm z):=aP ((L6 hz));refine (am C).trans ?_;cases h:wm z with
 | false =>
  rw [h] at g;refine (bv g).trans ?_;simp [ci,h];rfl
 | true =>
  rw [h] at g;obtain ⟨r,f2⟩:=X8 hz h;refine (aQ g).trans ((e9 (d:=en η (wB (z,v))) rfl (aA (ac (hr) (ac (ap (ac (r) rfl) f2) (ac (aA (ac rfl (ac (r) rfl))) rfl)))) (by simp_all)).trans ?_);simp [ci,h]
def Ox {z:Str} (hz:Sg z) {a0 a1 a2 a3 v r u g:Option D}:ZU [a0,a1,a2,a3,v,θ (.str z),r,u,g]=.ok (.str (iy z)):=by
 rcases hz with rfl|rfl|rfl|rfl|rfl|rfl <;> kernel_rfl
def YF {c:Cn} {a0 a1 a2 a3 u g r v:Option D}:aZ (ak bD (ak aE (ae 4) (vC (.int 0))) (vC (.str "test"))) [a0,a1,a2,a3,θ c.d,u,g,r,v]=.ok (decide (c.w="test")):=iZ ((Qy c)) rfl
def Za {a0 o5 o6:Option D} {k p:Nat} {L H:List Bd} {z:Str} {a b:Sid} (g:d8 W a) (hb:d8 W b) :
  YD (En a0 k p L H (θ (Cn.test z a b).d) o5 o6)=.ok ((rf k p a||rf k p b)&&(decide (a.w="value")||decide (b.w="value"))) :=
 eX YF (pN (aP ((OP g hb k p))) (aP (ai rfl (aA (ac ((EO a)) (ac ((EO b)) rfl))) (NX a b))))
theorem JM {c:Cn} (Y:gC W c) {a0 o5 o6:Option D} {k p:Nat} {L H:List Bd} (hl:L.length < 1000) (J:H.length < 1000) :
  ∃ C I,Yw (En a0 k p L H (θ c.d) o5 o6)=.ok (.nx (En a0 k p (L++eI (mi k p c)) (H++ci (mi k p c)) (θ c.d) C I)):=by
 have g:∀ {U:Sd},YD U=.ok η->Yw U=.ok (.nx U):=fun h=>bv h;cases c with
 | test z a b =>
  obtain ⟨hz,M,hb⟩:=Y;have r:=Za (a0:=a0) (o5:=o5) (o6:=o6) (k:=k) (p:=p) (L:=L) (H:=H) (z:=z) M hb;cases a with
  | val v=>cases b with
   | val u =>
    refine ⟨o5,o6,(g (r.trans (by simp [rf]))).trans ?_⟩;simp [mi,kj,rf,eI,ci]
   | cel c d =>
    cases h:rf k p (.cel c d) with
    | false =>
     refine ⟨o5,o6,(g (r.trans (by rw [h];simp [rf]))).trans ?_⟩;simp [mi,kj,h,eI,ci]
    | true =>
     have e:=zx (a0:=a0) (o4:=θ (Cn.test z (.val v) (.cel c d)).d) (k:=k) (p:=p) (q:=(iy z,v)) (AO hz) M hl J;refine ⟨θ (.str (iy z)),θ v,(aQ (r.trans (by rw [h];simp [rf,Sid.w]))).trans ((am (aq (ai rfl rfl rfl))).trans ((am (aq (ai (ai rfl rfl rfl) rfl rfl))).trans ((am ((aQ (aP (ai (ai rfl rfl rfl) rfl ((oT hb k p).trans (by rw [h]))))).trans ((am (aq (Ox hz))).trans (aq (ai (ai rfl rfl rfl) rfl rfl))))).trans (e.trans ?_))))⟩;simp [mi,kj,h]
  | cel c d=>cases b with
   | val v =>
    cases h:rf k p (.cel c d) with
    | false =>
     refine ⟨o5,o6,(g (r.trans (by rw [h];simp [rf]))).trans ?_⟩;simp [mi,kj,h,eI,ci]
    | true =>
     have e:=zx (a0:=a0) (o4:=θ (Cn.test z (.cel c d) (.val v)).d) (k:=k) (p:=p) (q:=(z,v)) hz hb hl J;refine ⟨θ (.str z),θ v,(aQ (r.trans (by rw [h];simp [rf,Sid.w]))).trans ((am (aq (ai rfl rfl rfl))).trans ((am (aq (ai (ai rfl rfl rfl) rfl rfl))).trans ((am (bv (aP (ai (ai rfl rfl rfl) rfl (oT hb k p))))).trans (e.trans ?_))))⟩;simp [mi,kj,h]
   | cel Z d' =>
    refine ⟨o5,o6,(g (r.trans (by rw [show decide ((Sid.cel c d).w="value")=η from rfl,show decide ((Sid.cel Z d').w="value")=η from rfl];simp))).trans ?_⟩;simp [mi,kj,eI,ci]
 | neg c=>exact ⟨o5,o6,(g rfl).trans (by simp [mi,eI,ci])⟩
 | and a b=>exact ⟨o5,o6,(g rfl).trans (by simp [mi,eI,ci])⟩
 | or a b=>exact ⟨o5,o6,(g rfl).trans (by simp [mi,eI,ci])⟩
def G5 (a b:List (Str×D)):eI (a++b)=eI a++eI b:=by unfold eI;simp_all
def B0 (a b:List (Str×D)):ci (a++b)=ci a++ci b:=by unfold ci;simp_all
def F4 (a:List (Str×D)):(eI a).length<=a.length:=by unfold eI;rw [lE];exact abv _ _
def BF (a:List (Str×D)):(ci a).length<=a.length:=by unfold ci;rw [lE];exact abv _ _
theorem zZ {a0:Option D} {k p:Nat}:∀ (cs:List Cn) (L H:List Bd) (o4 o5 o6:Option D),(∀ c∈cs,gC W c)->L.length+2*cs.length < 999->H.length+2*cs.length < 999 ->
  ∃ I g C,cc (.one 4) Yw (cs.map Cn.d) (En a0 k p L H o4 o5 o6)=.ok (.nx (En a0 k p (L++eI (cs.flatMap (mi k p))) (H++ci (cs.flatMap (mi k p))) I g C))
 | [],L,H,o4,o5,o6,_,_,_=>⟨o4,o5,o6,by simp [eI,ci];rfl⟩
 | c::r,L,H,o4,o5,o6,hc,hl,hh=>by
  have h2:=Ax k p c;have Y:=F4 (mi k p c);have M:=BF (mi k p c);obtain ⟨u,v,t⟩:=JM (L:=L) (H:=H) (hc c (by simp)) (by lia) (by lia);obtain ⟨x,y,z,e⟩:=zZ r (L++eI (mi k p c)) (H++ci (mi k p c)) (c.d) u v (fun q J=>hc q (iN _ J)) (by grind) (by grind);refine ⟨x,y,z,?_⟩;rw [GE,bZ t];refine e.trans ?_;rw [aej,G5,B0,abr,abr]
theorem Ar:∀ (ts:List (Str×D)) (o:Option Bd),ts.foldl AV o=(eI ts).foldl (up 1) o
 | [],o=>rfl
 | q::r,o=>by
  rw [ac0,Ar r];unfold AV eI
  grind
theorem Aw:∀ (ts:List (Str×D)) (o:Option Bd),ts.foldl Ei o=(ci ts).foldl (up (-1)) o
 | [],o=>rfl
 | q::r,o=>by
  rw [ac0,Aw r];unfold Ei ci
  grind
theorem yW {u:Bool}:∀ (l:List Bd) (x:Bd),l.foldl (up (sU u)) (θ x)=θ (l.foldl (Q8 u) x)
 | [],x=>rfl
 | d::r,x=>by
  rw [ac0,ac0,<- yW r];unfold up Q8;dsimp only;split <;> rfl
def Rx {u:Bool} {b:Bd} (h:Vl 40 b.1):Py 2 (en u b):=LH (Lw h) ((Py.int _).mono (by decide)) (EK h)
def D6 {u:Bool} {i j:Nat} {U:Sd} {L:List Bd} (g:∀ b∈L,Vl 40 b.1) (v:ae i U=.ok (.lst (L.map (en u)))) (I:U[j]?=θ (θ (.tup []))) :
  bz (aZ (ak fh (ae i) (bE ag))) (az j (ak aE (aj (Hz (oU u)) (aa (ae i) ag)) (vC (.int 2)))) ay U=.ok (.nx (U.set j (θ (f7 (L.foldl (up (sU u)) ξ))))):=by
 have z:aZ (ak fh (ae i) (bE ag)) U=.ok ((0 < (L.map (en u)).length)):=aP (ai v rfl (Py.nil (fun d C=>by
  obtain ⟨b,hb,rfl⟩:=BY.mp C;exact Rx (g b hb)) (by decide)))
 cases L with
 | nil =>
  refine (bv z).trans ?_
  have:U.set j ((f7 ξ))=U:=by
   apply aei
   intro n;by_cases e:j=n
   .subst e;rw [List.getElem?_set_self' ];rw [I];rfl
   .simp_all
  show R.ok (Fl.nx U)=R.ok (Fl.nx (U.set j ((f7 ξ))));rw [this]
 | cons x r =>
  refine (aQ z).trans ((aq (ai (ap (ac v rfl) (Zt (g x (by simp)) fun b hb=>g b (iN _ hb))) rfl lw)).trans ?_);rw [ac0,show up (sU u) ξ x=x from rfl,yW];rfl
def Jn {ts:List (Str×D)} (h:∀ q∈ts,Sg q.1/\Vl 40 q.2):∀ b∈eI ts,Vl 40 b.1:=fun b hb=>by
 obtain ⟨q,g,rfl⟩:=BY.mp hb;exact (h q (aba.mp g).1).2
def Gj {ts:List (Str×D)} (h:∀ q∈ts,Sg q.1/\Vl 40 q.2):∀ b∈ci ts,Vl 40 b.1:=fun b hb=>by
 obtain ⟨q,g,rfl⟩:=BY.mp hb;exact (h q (aba.mp g).1).2
theorem Ag {W:Wl} {tr:D} {f:Option Cn} (r:aE tr (.int 2)=.ok (nO f)) (g:rN W f) (z:hF f<=90) (hn:nF f<=300) (k p:Nat):gj [tr,(Sid.cel k p).d]=.ok (DQ k p f):=by
 have hl:=Dl hn;obtain ⟨o4,o5,o6,e⟩:=zZ (a0:=θ tr) (k:=k) (p:=p) (fP f) [] [] ξ ξ ξ (DP g) (by simp;lia) (by simp;lia);have ok:=tX g k p;have I:=D6 (u:=ζ) (i:=2) (j:=7) (U:=[θ tr,θ (Sid.cel k p).d,θ (.lst ((eI (pZ k p f)).map (en ζ))),θ (.lst ((ci (pZ k p f)).map (en η))),o4,o5,o6,θ (.tup []),θ (.tup [])]) (Jn ok) rfl rfl;have v:=D6 (u:=η) (i:=3) (j:=8) (U:=[θ tr,θ (Sid.cel k p).d,θ (.lst ((eI (pZ k p f)).map (en ζ))),θ (.lst ((ci (pZ k p f)).map (en η))),o4,o5,o6,θ (f7 ((eI (pZ k p f)).foldl (up (sU ζ)) ξ)),θ (.tup [])]) (Gj ok) rfl rfl;have C:DQ k p f=.tup [f7 ((eI (pZ k p f)).foldl (up (sU ζ)) ξ),f7 ((ci (pZ k p f)).foldl (up (sU η)) ξ)]:=by
  unfold DQ HC HB;rw [Ar,Aw];rfl
 rw [BA,j7,C];exact au ((am (ij (bo rfl))).trans ((am (ij (bo rfl))).trans ((am (dh (fc (ap (ac (ai rfl rfl r) rfl) (JQ z hn)) rfl) e)).trans ((am (aq (aA rfl))).trans ((am (aq (aA rfl))).trans ((am I).trans ((am v).trans (aB (aA (ac rfl (ac rfl rfl)))))))))))
theorem P5 (f:Tq->D) {qs:List Tq} (hn:(qs.map Tq.nm).Nodup) (h:q∈qs):bV (qs.map fun q=>(Key.inr q.nm,f q)) (.inr q.nm)=θ (f q):=by
 induction qs with
 | nil=>exact nomatch h
 | cons a r g =>
  rw [GE,aa4] at hn;unfold bV;by_cases e:a.nm=q.nm
  .have:q=a:=by
    grind
   subst this;simp
  .have h2:q∈r:=by
    grind
   have:=g hn.2 h2
   unfold bV at this;simp_all
structure TrK (tr:D) (ps:List (Tq×Str)) (W:Wl) (f:Option Cn):Prop where
 s:aE tr (.int 1)=.ok (.tup (ps.map MN))
 c:aE tr (.int 2)=.ok (nO f)
 g:rN W f
 h:hF f<=90
 n:nF f<=300
def CQ {tr:D} {ps:List (Tq×Str)} {W:Wl} {f:Option Cn} {qs:List Tq} {k:Nat} {p:Tq×Str} {q:Tq} (r:TrK tr ps W f) (hn:(qs.map Tq.nm).Nodup) (g:ps[k]?=θ p) (u:q∈qs) (e:q.nm=p.1.nm):qU [tr,.dcf (gB qs),.int (k:Int)]=.ok q.d:=by
 exact au (aB (ai rfl (ai (ai (r.s) rfl (AY MN ps g)) rfl bw) (e ▸ Hf (P5 Tq.d hn u))))
def KZ (k:Nat):D:=.tup [.str "walk",.int (k:Int)]
def ZS (k p:Nat) (f:Option Cn):D:=.tup [.str "seek",.int (k:Int),.int (p:Int),f7 (HC k p f),f7 (HB k p f)]
def CC (q:Tq) (f:Option Cn) (k p:Nat) (c:Str×Str):afW:=if (decide (c.1∈q.ids.map LX)&&((HC k p f).isSome||(HB k p f).isSome))=ζ then [ZS k p f] else []
def Ct (q:Tq) (f:Option Cn) (k:Nat):Nat->List (Str×Str)->afW
 | _,[]=>[]
 | p,c::r=>CC q f k p c++Ct q f k (p+1) r
def v3 {W:Wl} {f:Option Cn} (I:rN W f) (k p:Nat):qC (HC k p f)/\qC (HB k p f):=by
 have h:=tX I k p;have key:∀ (ts:List (Str×D)),(∀ q∈ts,Sg q.1/\Vl 40 q.2)->∀ l g , qC l->qC g->qC (ts.foldl AV l)/\qC (ts.foldl Ei g):=by
  intro ts;induction ts with
  | nil=>simp_all
  | cons q r C =>
   intro u l g hl hg;obtain ⟨hz,v⟩:=u q (by simp);exact C (fun x z=>u x (iN _ z)) _ _ (by unfold AV;split;exact yQ hl v;exact hl) (by unfold Ei;split;exact yQ hg v;exact hg)
 exact key _ h ξ ξ (fun b h=>nomatch h) (fun b h=>nomatch h)
def pw {o:Option Bd} (h:qC o):Py 1 (f7 o):=by
 cases o with
 | none=>exact jq
 | some b=>exact EK (h b rfl)
def Hs {o:Option Bd} (h:qC o):∃ a,bx (f7 o)=θ a/\abw a (.tuple [])=o.isNone:=by
 obtain ⟨p,q,r,g,e⟩:=iP (pw h) jq (by decide) (by decide) (by cases o <;> rfl);refine ⟨p,r,?_⟩;cases g
 have:=xg h
 unfold bD at this;rw [e] at this;injection this with this
 injection this
def UY:D:=.tup [.tup [],.tup []]
theorem Wq {a b:Option Bd} (r:qC a) (hb:qC b):fh (.tup [f7 a,f7 b]) UY=.ok (.bl (a.isSome||b.isSome)):=by
 obtain ⟨x,C,u⟩:=Hs r;obtain ⟨y,v,z⟩:=Hs hb;obtain ⟨p,q,g,f2,f⟩:=iP (Py.two (pw r) (pw hb)) (Py.two jq jq) (by decide) (by decide) rfl;have g1:bx (.tup [f7 a,f7 b])=θ (.tuple [x,y]):=by
  show (((bx (f7 a)).bind fun p=>((bx (f7 b)).bind fun q=>θ [q]).map (p::·)).map adm)=_;rw [C,v];rfl
 rw [g1] at g;cases g;cases f2;unfold fh;rw [show jl (.tup [f7 a,f7 b]) UY=_ from f];show R.ok (D.bl (!(abw x (.tuple [])&&(abw y (.tuple [])&&ζ))))=_;rw [u,z];cases a <;> cases b <;> rfl
def Pp {ids:List (Str×D)} {c:Str}:(bV (oQ ids) (.inr c)).isSome=decide (c∈ids.map LX):=by
 unfold bV oQ;rw [acG,List.find?_map,acG];rw [aca];simp
abbrev ZG:FT:=dc (aZ (ak vg (ak aE (ae 6) (vC (.int 0))) (np "Table" "indexes" (ae 3)))) (aZ (ak fh (ae 7) (aO (aa (aO ag) (aa (aO ag) ag)))))
abbrev ZL:FS:=ao (az 7 (aj dQ (aa (ae 0) (aa (ae 2) (aa (ae 5) ag))))) (bz ZG (bj 4 (aO (aa (vC (.str "seek")) (aa (ae 2) (aa (ae 5) (aa (ak aE (ae 7) (vC (.int 0))) (aa (ak aE (ae 7) (vC (.int 1))) ag))))))) ay)
theorem KF {tr sd:D} {ps:List (Tq×Str)} {W:Wl} {f:Option Cn} {q:Tq} {k p:Nat} {c:Str×Str} {l:afW} {o7:Option D} (r:TrK tr ps W f) (hl:l.length < 1000) :
  ZL [θ tr,θ sd,θ (.int (k:Int)),θ q.d,θ (.lst l),θ (.int (p:Int)),θ (ce c),o7]=.ok (.nx [θ tr,θ sd,θ (.int (k:Int)),θ q.d,θ (.lst (l++CC q f k p c)),θ (.int (p:Int)),θ (ce c),θ (DQ k p f)]):=by
 obtain ⟨v,z⟩:=v3 r.g k p;refine (am (aq (ap (ac rfl (ac rfl (ac rfl rfl))) (sT r.c r.g r.h r.n k p)))).trans ?_;have u:ZG [θ tr,θ sd,θ (.int (k:Int)),θ q.d,θ (.lst l),θ (.int (p:Int)),θ (ce c),θ (DQ k p f)]=.ok (decide (c.1∈q.ids.map LX)&&((HC k p f).isSome||(HB k p f).isSome)) :=
  pN (aP (ai (ai rfl rfl bw) (xn rfl rfl) (CI.trans (by rw [Pp])))) (aP (ai rfl (aA (ac (aA rfl) (ac (aA rfl) rfl))) (Wq v z)))
 unfold CC;cases h:(decide (c.1∈q.ids.map LX)&&((HC k p f).isSome||(HB k p f).isSome)) with
 | false =>
  rw [h] at u;refine (bv u).trans ?_;simp;rfl
 | true =>
  rw [h] at u;exact (aQ u).trans (e9 rfl (aA (ac rfl (ac rfl (ac rfl (ac (ai rfl rfl bw) (ac (ai rfl rfl bQ) rfl)))))) hl)
theorem zV {tr sd:D} {ps:List (Tq×Str)} {W:Wl} {f:Option Cn} {q:Tq} {k:Nat} (C:TrK tr ps W f):∀ (cs:List (Str×Str)) (p:Nat) (l:afW) (o5 o6 o7:Option D),l.length+cs.length < 1000 ->
  ∃ u v g,cc (.tup [5,6]) ZL (bn p (cs.map ce)) [θ tr,θ sd,θ (.int (k:Int)),θ q.d,θ (.lst l),o5,o6,o7]=.ok (.nx [θ tr,θ sd,θ (.int (k:Int)),θ q.d,θ (.lst (l++Ct q f k p cs)),u,v,g])
 | [],p,l,o5,o6,o7,_=>⟨o5,o6,o7,by rw [Ct,abk];rfl⟩
 | c::r,p,l,o5,o6,o7,h=>by
  have h1:(CC q f k p c).length<=1:=by unfold CC;split <;> simp
  obtain ⟨x,y,z,e⟩:=zV C r (p+1) (l++CC q f k p c) (θ (.int (p:Int))) (θ (ce c)) (θ (DQ k p f)) (by simp at h ⊢;lia);refine ⟨x,y,z,?_⟩;have I:=uO (i:=5) (j:=6) (r:=bn (p+1) (r.map ce)) (U:=[θ tr,θ sd,θ (.int (k:Int)),θ q.d,θ (.lst l),o5,o6,o7]) (KF (sd:=sd) (q:=q) (k:=k) (p:=p) (c:=c) (o7:=o7) C (by simp at h;lia));rw [GE,bn,I,e,Ct,abr]
def Zh {r:R Fl} {d:D} (h:r=.ok (.rn d)):Sx r=.ok d:=by rw [h];rfl
def Qf {φ:FE} {U:Sd} {xs:afW} (h:φ U=.ok (.tup xs)) (hl:xs.length<=1000):bL (aa φ ag) U=.ok (bn 0 xs):=by
 unfold bL;rw [ac h rfl,aG];unfold wl
 first|rfl|exact afI (by lia)|(simp;lia)
theorem Xl {tr:D} {ps:List (Tq×Str)} {W:Wl} {f:Option Cn} {qs:List Tq} {k:Nat} {p:Tq×Str} {q:Tq} (r:TrK tr ps W f) (hn:(qs.map Tq.nm).Nodup) (C:ps[k]?=θ p) (v:q∈qs) (e:q.nm=p.1.nm) (I:q.cs.length<=8) :
  uL [tr,.dcf (gB qs),.int (k:Int)]=.ok (.lst (KZ k::Ct q f k 0 q.cs)):=by
 obtain ⟨x,y,z,g⟩:=zV (sd:=.dcf (gB qs)) (q:=q) (k:=k) r q.cs 0 [KZ k] ξ ξ ξ (by simp;lia);have u:bE (aa (aO (aa (vC (.str "walk")) (aa (ae 2) ag))) ag) [θ tr,θ (.dcf (gB qs)),θ (.int (k:Int)),θ q.d,ξ,ξ,ξ,ξ]=.ok (.lst [KZ k]):=bo (ac (aA (ac rfl (ac rfl rfl))) rfl);rw [QM,uD];refine Zh ?_;refine (am (aq (ap (ac rfl (ac rfl (ac rfl rfl))) (CQ r hn C v e)))).trans ?_;exact ((am (ij (k:=4) u)).trans ((am (dh (Qf (ai (xn rfl rfl) rfl bQ) (by rw [lE];lia)) g)).trans (J6 rfl)))
def fY (q:Str×Str):D:=.tup [.str q.1,.str q.2]
def ud {qs:List Tq} {q:Tq} (hn:(qs.map Tq.nm).Nodup) (g:q∈qs):(qs.filter fun x=>decide (x.nm=q.nm))=[q]:=by
 induction qs with
 | nil=>exact nomatch g
 | cons a r u =>
  rw [GE,aa4] at hn;by_cases e:a.nm=q.nm
  .have:q=a:=by
    rcases mK.mp g with rfl|h
    .rfl
    .exact absurd (e ▸ BY.mpr ⟨q,h,rfl⟩) hn.1
   subst this;rw [aep (by simp),List.filter_eq_nil_iff.mpr fun x v=>?_];intro h;exact hn.1 (by rw [<- afM h];exact BY.mpr ⟨x,v,rfl⟩)
  .have h2:q∈r:=by
    rcases mK.mp g with rfl|h
    .exact absurd rfl e
    .exact h
   rw [List.filter_cons_of_neg (by simpa using e)];exact u hn.2 h2
theorem Fd {q:Str×Str} (h1:NmOk q.1) (h2:NmOk q.2):∃ x,bx (fY q)=θ x/\aaP x=ζ/\x.depth<=32/\x=.tuple [.str q.1,.str q.2]:=by
 obtain ⟨x,e,c,d⟩:=Py.two (Py.str (jF h1)) (Py.str (jF h2));refine ⟨x,e,Py.shaped c d (by decide),by lia,?_⟩;cases e;rfl
def OG (a b:Str×Str):abw (.tuple [.str a.1,.str a.2]) (.tuple [.str b.1,.str b.2])=decide (a=b):=by
 show ((a.1==b.1)&&((a.2==b.2)&&ζ))=_;rw [aca];simp [Prod.ext_iff]
theorem Fx {q:Str×Str} (h1:NmOk q.1) (h2:NmOk q.2):∀ {l:List (Str×Str)},(∀ x∈l,NmOk x.1/\NmOk x.2)->A1 (fY q) (.lst (l.map fY))=θ (decide (q∈l)):=by
 intro l hl;obtain ⟨x,e,s,d,rfl⟩:=Fd h1 h2;have key:∀ l:List (Str×Str),(∀ x∈l,NmOk x.1/\NmOk x.2)->∃ ps,bU (l.map fY)=θ ps/\dE (.tuple [.str q.1,.str q.2]) ps=θ (decide (q∈l)):=by
  intro l;induction l with
  | nil=>exact fun _=>⟨[],rfl,by simp [dE]⟩
  | cons a r C =>
   intro h;obtain ⟨ps,u,g⟩:=C fun x v=>h x (iN _ v);obtain ⟨y,f,J,I,rfl⟩:=Fd (h a (by simp)).1 (h a (by simp)).2;refine ⟨.tuple [.str a.1,.str a.2]::ps,?_,?_⟩
   .show ((bx (fY a)).bind fun p=>(bU (r.map fY)).map (p::·))=_;rw [f,u];rfl
   .rw [dE,afI ⟨J,I⟩,g,OG];show θ (decide (a=q)||decide (q∈r))=_;congr 1;rw [aca];simp;constructor
    .rintro (z|z)
     .exact .inl z.symm
     .exact .inr z
    .rintro (z|z)
     .exact .inl z.symm
     .exact .inr z
 obtain ⟨ps,u,g⟩:=key l hl;unfold A1 hZ;dsimp only;rw [e,u];dsimp only;rw [afI s,g]
structure IxK (q:Tq) (J:List (Str×Str)):Prop where
 n:NmOk q.nm
 c:∀ c∈q.cs,NmOk c.1
 j:∀ x∈J,NmOk x.1/\NmOk x.2
 m:∀ c,(q.nm,c)∈J ↔ c∈q.ids.map LX
abbrev Z0:FT:=dc (aZ (ak xL (aO (aa (ak aE (ae 4) (vC (.int 0))) (aa (ak aE (ak aE (ak aE (ae 4) (vC (.int 1))) (ae 6)) (vC (.int 0))) ag))) (ae 2))) (kQ (aZ (ak fh (ae 7) (aO ag))) (aZ (ak fh (ae 8) (aO ag))))
def Mw {a:Option Bd} (h:qC a):fh (f7 a) (.tup [])=.ok (.bl a.isSome):=by
 have:=xg h
 unfold bD at this;unfold fh;cases e:jl (f7 a) (.tup []) with
 | none=>rw [e] at this;cases this
 | some b =>
  rw [e] at this;injection this with this
  injection this with this
  show R.ok (D.bl (!b))=_;rw [show b=a.isNone from this];cases a <;> rfl
def SY {τ υ:FT} {U:Sd} {x y:Bool} (h:τ U=.ok x) (h2:υ U=.ok y):kQ τ υ U=.ok (x||y):=by
 cases x with
 | true=>rw [Nz,h];rfl
 | false=>exact pH h h2
def Xh {tr sd:D} {k p:Nat} {l:afW} {q:Tq} {J:List (Str×Str)} {c:Str×Str} {a b:Option Bd} (g:IxK q J) (r:q.cs[p]?=θ c) (h1:qC a) (h2:qC b) :
  Z0 [θ tr,θ sd,θ (.lst (J.map fY)),θ (.int (k:Int)),θ (dj q),θ (.lst l),θ (.int (p:Int)),θ (f7 a),θ (f7 b)]=.ok (decide (c.1∈q.ids.map LX)&&(a.isSome||b.isSome)):=by
 refine pN (aP (ai (aA (ac (ai rfl rfl bw) (ac (ai (ai (ai rfl rfl bQ) rfl (AY ce q.cs r)) rfl bw) rfl))) rfl ?_)) (SY (aP (ai rfl (aA rfl) (Mw h1))) (aP (ai rfl (aA rfl) (Mw h2))));show xL (fY (q.nm,c.1)) _=_;unfold xL;rw [Fx (q:=(q.nm,c.1)) g.n (g.c c (aaZ r)) g.j];show R.ok (D.bl _)=_;rw [decide_eq_decide.mpr (g.m c.1)]
abbrev Zc:FS:=ao (xR (dJ (.tup [7,8])) (aj gj (aa (ae 0) (aa (aO (aa (vC (.str "cell")) (aa (ae 3) (aa (ae 6) ag)))) ag)))) (bz Z0 (bj 5 (aO (aa (vC (.str "seek")) (aa (ae 3) (aa (ae 6) (aa (ae 7) (aa (ae 8) ag))))))) ay)
def Jk {tr sd:D} {ps:List (Tq×Str)} {W:Wl} {f:Option Cn} {q:Tq} {J:List (Str×Str)} {k p:Nat} {c:Str×Str} {l:afW} {o7 o8:Option D} (r:TrK tr ps W f) (C:IxK q J) (I:q.cs[p]?=θ c) (hl:l.length < 1000) :
  Zc [θ tr,θ sd,θ (.lst (J.map fY)),θ (.int (k:Int)),θ (dj q),θ (.lst l),θ (.int (p:Int)),o7,o8]=.ok (.nx [θ tr,θ sd,θ (.lst (J.map fY)),θ (.int (k:Int)),θ (dj q),θ (.lst (l++CC q f k p c)),θ (.int (p:Int)),θ (f7 (HC k p f)),θ (f7 (HB k p f))]):=by
 obtain ⟨z,v⟩:=v3 r.g k p;refine (am (Hr ((Ag r.c r.g r.h r.n k p)) rfl)).trans ?_;have u:=Xh (tr:=tr) (sd:=sd) (k:=k) (l:=l) C I z v;unfold CC;cases h:((c.1∈q.ids.map LX)&&((HC k p f).isSome||(HB k p f).isSome)) with
 | false =>
  rw [h] at u;refine (bv u).trans ?_;simp;rfl
 | true =>
  rw [h] at u;exact (aQ u).trans (e9 rfl rfl hl)
def tM (p n:Nat):cb (p:Int) (n+1)=.int (p:Int)::cb ((p+1:Nat):Int) n:=lG p n
theorem zq {tr sd:D} {ps:List (Tq×Str)} {W:Wl} {f:Option Cn} {q:Tq} {J:List (Str×Str)} {k:Nat} (L:TrK tr ps W f) (I:IxK q J):∀ (cs:List (Str×Str)) (p:Nat) (l:afW) (o6 o7 o8:Option D),q.cs.drop p=cs->l.length+cs.length < 1000 ->
  ∃ C u v,cc (.one 6) Zc (cb (p:Int) cs.length) [θ tr,θ sd,θ (.lst (J.map fY)),θ (.int (k:Int)),θ (dj q),θ (.lst l),o6,o7,o8]=.ok (.nx [θ tr,θ sd,θ (.lst (J.map fY)),θ (.int (k:Int)),θ (dj q),θ (.lst (l++Ct q f k p cs)),C,u,v])
 | [],p,l,o6,o7,o8,_,_=>⟨o6,o7,o8,by rw [Ct,abk];rfl⟩
 | c::r,p,l,o6,o7,o8,e,h=>by
  have h1:(CC q f k p c).length<=1:=by unfold CC;split <;> simp
  have Y:q.cs[p]?=θ c:=by
   have:=afN (fun l=>l[0]?) e
   simpa using this
  have M:q.cs.drop (p+1)=r:=by rw [<- List.drop_drop,e];rfl
  obtain ⟨x,y,z,g⟩:=zq L I r (p+1) (l++CC q f k p c) (θ (.int (p:Int))) (θ (f7 (HC k p f))) (θ (f7 (HB k p f))) M (by simp at h ⊢;lia);refine ⟨x,y,z,?_⟩;have t:Zc (ac5 [θ tr,θ sd,θ (.lst (J.map fY)),θ (.int (k:Int)),θ (dj q),θ (.lst l),o6,o7,o8] 6 (θ (.int p)))=_:=Jk L I Y (by lia);rw [aaU,tM,bZ t,g,Ct,abr]
theorem Qd {tr:D} {ps:List (Tq×Str)} {W:Wl} {f:Option Cn} {qs:List Tq} {J:List (Str×Str)} {k:Nat} {p:Tq×Str} {q:Tq} (r:TrK tr ps W f) (hn:(qs.map Tq.nm).Nodup) (C:ps[k]?=θ p) (v:q∈qs) (e:q.nm=p.1.nm) (I:IxK q J) (M:q.cs.length<=8) (hl:qs.length<=1000) :
  lZ [tr,.lst (qs.map dj),.lst (J.map fY),.int (k:Int)]=.ok (.lst (KZ k::Ct q f k 0 q.cs)):=by
 obtain ⟨x,y,z,g⟩:=zq (sd:=.lst (qs.map dj)) (k:=k) r I q.cs 0 [KZ k] ξ ξ ξ rfl (by simp;lia);have u:bE (aa (aO (aa (vC (.str "walk")) (aa (ae 3) ag))) ag) [θ tr,θ (.lst (qs.map dj)),θ (.lst (J.map fY)),θ (.int (k:Int)),θ (dj q),ξ,ξ,ξ,ξ]=.ok (.lst [KZ k]):=bo (ac (aA (ac rfl (ac rfl rfl))) rfl);have sc:=iU (τ:=aZ (ak bD (ak aE (ae 0) (vC (.int 0))) (ak aE (ak aE (ak aE (ae 2) (vC (.int 1))) (ae 1)) (vC (.int 0))))) (ε:=ae 0) (rest:=[θ (.int (k:Int)),θ tr]) dj dj (fun x=>decide (x.nm=q.nm)) qs (fun x L=>iZ (ai rfl rfl bw) (e ▸ ai (ai (ai rfl rfl r.s) rfl (AY MN ps C)) rfl bw)) (fun _ _ _=>rfl) hl;rw [ud hn v] at sc;rw [Gi,lV];refine au ?_;refine (am (aq (ai (bM (fc rfl rfl) sc) rfl rfl))).trans ?_;refine (am (ij (k:=5) u)).trans ?_;exact (am (dh (gm (ck (ai rfl rfl bQ) (show bP [.tup (q.cs.map ce)]=.ok (.int (q.cs.length:Int)) by rw [<- lE (f:=ce)];rfl)) (by lia)) g)).trans rfl
def S5 {W:Wl} {f:Option Cn} (r:rN W f) (k p:Nat):Py 2 (ZS k p f):=by
 obtain ⟨h1,h2⟩:=v3 r k p;refine Py.tup fun d g=>?_;simp at g;rcases g with rfl|rfl|rfl|rfl|rfl
 .exact (Py.w rfl).mono (by decide)
 .exact (Py.int _).mono (by decide)
 .exact (Py.int _).mono (by decide)
 .exact pw h1
 .exact pw h2
def RZ (k:Nat):Py 2 (KZ k):=(Py.two (Py.w rfl) (Py.int _)).mono (by decide)
theorem Dk {W:Wl} {f:Option Cn} (g:rN W f) {q:Tq} {k:Nat}:∀ (cs:List (Str×Str)) (p:Nat),∀ d∈Ct q f k p cs,Py 2 d
 | [],_,d,h=>nomatch h
 | c::r,p,d,h=>by
  rcases By.mp h with h|h
  .unfold CC at h;split at h
   .rw [aaS.mp h];exact S5 g k p
   .cases h
  .exact Dk g r (p+1) d h
def RG {W:Wl} {f:Option Cn} (r:rN W f) {q:Tq} {k:Nat}:fh (.lst (KZ k::Ct q f k 0 q.cs)) (.lst (KZ k::Ct q f k 0 q.cs))=.ok (.bl η):=(Py.lst fun d g=>by
 rcases mK.mp g with rfl|g
 .exact RZ k
 .exact Dk r _ _ d g).ne (by decide) rfl
def Iz {W:Wl} {f:Option Cn} (g:rN W f) (k p:Nat):fh (DQ k p f) (DQ k p f)=.ok (.bl η):=(Py.two (pw (v3 g k p).1) (pw (v3 g k p).2)).ne (by decide) rfl
abbrev WK:FS:=ao (az 7 (aj dQ (aa (ae 0) (aa (ae 4) (aa (ae 6) ag))))) (bz (kQ (d6 (cx (aj fR (aa (ae 7) (aa (vC (.ty "tuple")) ag))))) (aZ (ak fh (ae 7) (aj gj (aa (ae 0) (aa (aO (aa (vC (.str "cell")) (aa (ae 4) (aa (ae 6) ag)))) ag)))))) (aM (vC (.bl η))) ay)
def Lk {tr a1 a2 a3 sh:D} {ps:List (Tq×Str)} {W:Wl} {f:Option Cn} {k p:Nat} {o7:Option D} (r:TrK tr ps W f) :
  WK [θ tr,θ a1,θ a2,θ a3,θ (.int (k:Int)),θ sh,θ (.int (p:Int)),o7]=.ok (.nx [θ tr,θ a1,θ a2,θ a3,θ (.int (k:Int)),θ sh,θ (.int (p:Int)),θ (DQ k p f)]) :=
 (am (aq ((sT r.c r.g r.h r.n k p)))).trans (bv ((aP (ai rfl ((Ag r.c r.g r.h r.n k p)) (Iz r.g k p)))))
theorem zz {tr a1 a2 a3 sh:D} {ps:List (Tq×Str)} {W:Wl} {f:Option Cn} {k:Nat} (v:TrK tr ps W f):∀ (n p:Nat) (o6 o7:Option D),∃ u r,cc (.one 6) WK (cb (p:Int) n) [θ tr,θ a1,θ a2,θ a3,θ (.int (k:Int)),θ sh,o6,o7]=.ok (.nx [θ tr,θ a1,θ a2,θ a3,θ (.int (k:Int)),θ sh,u,r])
 | 0,p,o6,o7=>⟨o6,o7,rfl⟩
 | n+1,p,o6,o7=>by
  obtain ⟨x,y,g⟩:=zz (a1:=a1) (a2:=a2) (a3:=a3) (sh:=sh) (k:=k) v n (p+1) (θ (.int (p:Int))) (θ (DQ k p f));refine ⟨x,y,?_⟩;have t:WK (ac5 [θ tr,θ a1,θ a2,θ a3,θ (.int (k:Int)),sh,o6,o7] 6 (θ (.int p)))=_:=Lk v;rw [tM,bZ t,g]
structure TdOk (tr:D) (ps:List (Tq×Str)) (W:Wl) (f:Option Cn) (qs:List Tq) (J:List (Str×Str)):Prop where
 t:TrK tr ps W f
 n:(qs.map Tq.nm).Nodup
 p:∀ p∈ps,∃ q∈qs,q.nm=p.1.nm
 i:∀ q∈qs,IxK q J/\q.cs.length<=8
 l:qs.length<=1000
 m:ps.length<=1000
abbrev shC:FE:=ak aE (br [ξ,θ 4,θ 0] (cU (ae 2)) (.one 0) (aZ (ak bD (ak aE (ae 0) (vC (.int 0))) (ak aE (ak aE (ak aE (ae 2) (vC (.int 1))) (ae 1)) (vC (.int 0))))) (ae 0)) (vC (.int 0))
abbrev toT:FT:=kQ (d6 (cx (aj fR (aa (ae 7) (aa (vC (.ty "list")) ag))))) (aZ (ak fh (ae 7) (aj lZ (aa (ae 0) (aa (ae 2) (aa (ae 3) (aa (ae 4) ag)))))))
abbrev toS:FS:=ao (az 5 shC) (ao (fK (cL (aa (aj bP (aa (ak aE (ae 5) (vC (.int 1))) ag)) ag)) (.one 6) WK) (ao (ff 7 (aj uL (aa (ae 0) (aa (ae 1) (aa (ae 4) ag))))) (ao (bz toT (aM (vC (.bl η))) ay) (qd 7))))
theorem Ir {tr:D} {ps:List (Tq×Str)} {W:Wl} {f:Option Cn} {qs:List Tq} {J:List (Str×Str)} (h:TdOk tr ps W f qs J) {k:Nat} {p:Tq×Str} (u:ps[k]?=θ p) (o5 o6 o7:Option D) :
  ∃ v z,toS [θ tr,θ (.dcf (gB qs)),θ (.lst (qs.map dj)),θ (.lst (J.map fY)),θ (.int (k:Int)),o5,o6,o7]=.ok (.nx [θ tr,θ (.dcf (gB qs)),θ (.lst (qs.map dj)),θ (.lst (J.map fY)),θ (.int (k:Int)),v,z,θ (.lst [])]):=by
 obtain ⟨q,r,e⟩:=h.p p (aaZ u);obtain ⟨I,C⟩:=h.i q r;have sc:=iU (τ:=aZ (ak bD (ak aE (ae 0) (vC (.int 0))) (ak aE (ak aE (ak aE (ae 2) (vC (.int 1))) (ae 1)) (vC (.int 0))))) (ε:=ae 0) (rest:=[θ (.int (k:Int)),θ tr]) dj dj (fun x=>decide (x.nm=q.nm)) qs (fun x L=>iZ (ai rfl rfl bw) (e ▸ ai (ai (ai rfl rfl h.t.s) rfl (AY MN ps u)) rfl bw)) (fun _ _ _=>rfl) h.l;rw [ud h.n r] at sc;obtain ⟨x,y,g⟩:=zz (a1:=.dcf (gB qs)) (a2:=.lst (qs.map dj)) (a3:=.lst (J.map fY)) (sh:=dj q) (k:=k) h.t q.cs.length 0 o6 o7;refine ⟨θ (dj q),x,?_⟩;refine (am (aq (ai (bM (fc rfl rfl) sc) rfl rfl))).trans ?_;refine (am (dh (gm (ck (ai rfl rfl bQ) (show bP [.tup (q.cs.map ce)]=.ok (.int (q.cs.length:Int)) by rw [<- lE (f:=ce)];rfl)) (by lia)) g)).trans ?_;refine (am (ij (k:=7) (ap (ac rfl (ac rfl (ac rfl rfl))) (Xl h.t h.n u r e C)))).trans ?_;refine (am (bv (pH (mF (dF (VM rfl rfl) rfl)) (aP (ai rfl (ap (ac rfl (ac rfl (ac rfl (ac rfl rfl)))) (Qd h.t h.n u r e I C h.l)) (RG h.t.g)))))).trans ?_;rfl
theorem yX {tr:D} {ps:List (Tq×Str)} {W:Wl} {f:Option Cn} {qs:List Tq} {J:List (Str×Str)} (h:TdOk tr ps W f qs J):∀ (n k:Nat) (o4 o5 o6 o7:Option D),k+n=ps.length ->
  ∃ z u v r,cc (.one 4) toS (cb (k:Int) n) [θ tr,θ (.dcf (gB qs)),θ (.lst (qs.map dj)),θ (.lst (J.map fY)),o4,o5,o6,o7]=.ok (.nx [θ tr,θ (.dcf (gB qs)),θ (.lst (qs.map dj)),θ (.lst (J.map fY)),z,u,v,r])
 | 0,k,o4,o5,o6,o7,_=>⟨o4,o5,o6,o7,rfl⟩
 | n+1,k,o4,o5,o6,o7,e=>by
  have C:k < ps.length:=by lia
  obtain ⟨x,y,t⟩:=Ir h (lT C) o5 o6 o7;obtain ⟨a,b,c,d,g⟩:=yX h n (k+1) (θ (.int (k:Int))) x y (θ (.lst [])) (by lia);refine ⟨a,b,c,d,?_⟩;have t:toS (ac5 [θ tr,θ (.dcf (gB qs)),θ (.lst (qs.map dj)),θ (.lst (J.map fY)),o4,o5,o6,o7] 4 (θ (.int (k:Int))))=_:=t;rw [tM,bZ t,g]
theorem qe {tr:D} {ps:List (Tq×Str)} {W:Wl} {f:Option Cn} {qs:List Tq} {J:List (Str×Str)} (h:TdOk tr ps W f qs J):im [tr,.dcf (gB qs),.lst (qs.map dj),.lst (J.map fY)]=.ok (.bl ζ):=by
 obtain ⟨a,b,c,d,g⟩:=yX h ps.length 0 ξ ξ ξ ξ (by lia);rw [EZ,mv];refine au ?_;refine (am (dh (gm (ck (ai rfl rfl h.t.s) (show bP [.tup (ps.map MN)]=.ok (.int (ps.length:Int)) by rw [<- lE (f:=MN)];rfl)) (by have:=h.m;lia)) g)).trans (aB rfl)
def Tre.f2 (t:Tre) (f:Option Cn):Tre:={ t with f:=f }
theorem WH {qs:List Tq} {t:Tre} (h:TrOk qs t):TrK t.d t.ps t.W t.f:=⟨bQ,lw,h.f,by have:=h.h;lia,by have:=h.n;lia⟩
def j8 (x:Int):D:=if x/5 % 4=0 then .int 3 else if x/5 % 4=1 then .str "a" else if x/5 % 4=2 then .non else .int (x % 5)
def JR (x:Int):Vl 40 (j8 x):=by
 unfold j8;split
 .exact aa9
 .split
  .exact ⟨by trivial,by trivial⟩
  .split <;> exact aa9
theorem Jx (x:Int):aE (.lst [.int 3,.str "a",.non,.int (x % 5)]) (.int (x/5 % 4))=.ok (j8 x):=by
 have h:x/5 % 4=0\/x/5 % 4=1\/x/5 % 4=2\/x/5 % 4=3:=by lia
 unfold j8;rcases h with h|h|h|h <;> rw [h] <;> rfl
def Z9:afP:=["<","<=",">",">=","=","<>"]
theorem DN (y:Int):∃ z,Sg z/\aE (.lst (Z9.map D.str)) (.int (y % 6))=.ok (.str z):=by
 have h:y % 6=0\/y % 6=1\/y % 6=2\/y % 6=3\/y % 6=4\/y % 6=5:=by lia
 rcases h with h|h|h|h|h|h <;> rw [h]
 .exact ⟨"<",by unfold Sg;simp,rfl⟩
 .exact ⟨"<=",by unfold Sg;simp,rfl⟩
 .exact ⟨">",by unfold Sg;simp,rfl⟩
 .exact ⟨">=",by unfold Sg;simp,rfl⟩
 .exact ⟨"=",by unfold Sg;simp,rfl⟩
 .exact ⟨"<>",by unfold Sg;simp,rfl⟩
def P7 {a b:D} (y:Int):aE (.lst [a,b]) (.int (y % 2))=.ok (if y % 2=0 then a else b):=by
 have h:y % 2=0\/y % 2=1:=by lia
 rcases h with h|h <;> rw [h] <;> rfl
def TR (t:Tre) (r:Cn):Option Cn:=match t.f with
 | none=>θ r
 | some g=>θ (.and g r)
theorem KL {qs:List Tq} {t:Tre} (h:TrOk qs t) (x:Int):∃ f,jS [t.d,.int x]=.ok (t.f2 f).d/\TrK (t.f2 f).d t.ps t.W f:=by
 obtain ⟨v,g1,L⟩:=DN (x/20);obtain ⟨r,g2,I⟩:=DN (x/120);have z:d8 t.W (.cel t.c.1 t.c.2):=h.c;have C:d8 t.W (.val (j8 x)):=JR x;obtain ⟨A,B,hA,hB,u,nB,J⟩:∃ A B:Cn,gC t.W A/\gC t.W B/\(A.n=3/\A.h=2)/\(B.n=3/\B.h=2)/\(if x/720 % 2=0 then (Cn.and (.test v (.cel t.c.1 t.c.2) (.val (j8 x))) (.test r (.val (j8 x)) (.cel t.c.1 t.c.2))).d else (Cn.and (.test r (.val (j8 x)) (.cel t.c.1 t.c.2)) (.test v (.cel t.c.1 t.c.2) (.val (j8 x)))).d)=(Cn.and A B).d:=by
  split
  .exact ⟨.test v (.cel t.c.1 t.c.2) (.val (j8 x)),.test r (.val (j8 x)) (.cel t.c.1 t.c.2),⟨g1,z,C⟩,⟨g2,C,z⟩,⟨rfl,rfl⟩,⟨rfl,rfl⟩,rfl⟩
  .exact ⟨.test r (.val (j8 x)) (.cel t.c.1 t.c.2),.test v (.cel t.c.1 t.c.2) (.val (j8 x)),⟨g2,C,z⟩,⟨g1,z,C⟩,⟨rfl,rfl⟩,⟨rfl,rfl⟩,rfl⟩
 refine ⟨TR t (.and A B),?_,bQ,lw,?_,?_,?_⟩
 .rw [Ce,j0];refine au ?_;refine (am (aq (ai (ai rfl rfl rfl) rfl bw))).trans ?_;refine (am (aq (d:=(Sid.val (j8 x)).d) (aA (ac rfl (ac (ai (bo (ac rfl (ac rfl (ac rfl (ac (av rfl rfl) rfl))))) (av (a9 rfl rfl) rfl) (Jx x)) rfl))))).trans ?_;refine (am (aq (d:=.lst (Z9.map D.str)) (bo (hl:=by decide) (ac rfl (ac rfl (ac rfl (ac rfl (ac rfl (ac rfl rfl))))))))).trans ?_;refine (am (aq (d:=(Cn.test v (.cel t.c.1 t.c.2) (.val (j8 x))).d) (aA (ac rfl (ac (ai rfl (av (a9 rfl rfl) rfl) L) (ac rfl (ac rfl rfl))))))).trans ?_;refine (am (aq (d:=(Cn.test r (.val (j8 x)) (.cel t.c.1 t.c.2)).d) (aA (ac rfl (ac (ai rfl (av (a9 rfl rfl) rfl) I) (ac rfl (ac rfl rfl))))))).trans ?_;refine (am (aq (d:=(Cn.and A B).d) (ai (bo (ac (aA (ac rfl (ac rfl (ac rfl rfl)))) (ac (aA (ac rfl (ac rfl (ac rfl rfl)))) rfl))) (av (a9 rfl rfl) rfl) ((P7 (x/720)).trans (afN R.ok J))))).trans ?_;unfold TR;cases hf:t.f with
  | none =>
   refine (am (bv (aP (ai (ai rfl rfl lw) rfl ?_)))).trans (aB (ai (ai (dR rfl rfl (bB rfl) rfl) (aA (ac rfl rfl)) rfl) (dR rfl (bB rfl) rfl rfl) rfl));rw [hf];rfl
  | some g =>
   refine (am ((aQ (aP (ai (ai rfl rfl lw) rfl ?_))).trans (aq (d:=(Cn.and g (.and A B)).d) (aA (ac rfl (ac (ai rfl rfl (lw.trans (by rw [hf];rfl))) (ac rfl rfl))))))).trans (aB (ai (ai (dR rfl rfl (bB rfl) rfl) (aA (ac rfl rfl)) rfl) (dR rfl (bB rfl) rfl rfl) rfl));rw [hf];cases g <;> rfl
 .have:=h.f
  unfold TR;cases hf:t.f with
  | none=>exact ⟨⟨hA,hB⟩,by simp [Cn.h,u.2,nB.2]⟩
  | some g=>rw [hf] at this;exact ⟨⟨this.1,hA,hB⟩,by have:=this.2;simp [Cn.h];lia⟩
 .have:=h.h
  unfold TR;cases hf:t.f with
  | none=>simp [hF,Cn.h,u.2,nB.2]
  | some g=>rw [hf] at this;have:g.h<=46:=this;simp [hF,Cn.h,u.2,nB.2];lia
 .have:=h.n
  unfold TR;cases hf:t.f with
  | none=>simp [nF,Cn.n,u.1,nB.1]
  | some g=>rw [hf] at this;have:g.n<=130:=this;simp [nF,Cn.n,u.1,nB.1];lia
def qu (J:List (Str×Str)) (q:Tq):List (Str×Str):=(q.cs.filter fun c=>!decide ((q.nm,c.1)∈J)).map fun c=>(q.nm,c.1)
abbrev X4:FE:=br [ξ,θ 4,θ 1] (cU (ak aE (ae 4) (vC (.int 1)))) (.one 0) (aZ (ak n9 (aO (aa (ak aE (ae 1) (vC (.int 0))) (aa (ak aE (ae 0) (vC (.int 0))) ag))) (ae 2))) (aO (aa (ak aE (ae 1) (vC (.int 0))) (aa (ak aE (ae 0) (vC (.int 0))) ag)))
def AB {J:List (Str×Str)} {q:Tq} (h:q.cs.length<=8):(qu J q).length<=8:=by
 unfold qu;rw [lE];exact Le (abv _ _) h
def Jy {q:Tq} {J:List (Str×Str)} {a0 x:D} {u:Option D} (h:IxK q J) (v:q.cs.length<=8):X4 [θ a0,θ (.lst (J.map fY)),θ x,u,θ (dj q)]=.ok (.lst ((qu J q).map fY)):=by
 have g:=iU (τ:=aZ (ak n9 (aO (aa (ak aE (ae 1) (vC (.int 0))) (aa (ak aE (ae 0) (vC (.int 0))) ag))) (ae 2))) (ε:=aO (aa (ak aE (ae 1) (vC (.int 0))) (aa (ak aE (ae 0) (vC (.int 0))) ag))) (rest:=[(dj q),θ (.lst (J.map fY))]) ce (fun c=>fY (q.nm,c.1)) (fun c=>!((q.nm,c.1)∈J)) q.cs
  (fun c r=>by
   have e:n9 (fY (q.nm,c.1)) (.lst (J.map fY))=.ok (.bl (!((q.nm,c.1)∈J))):=by
    unfold n9;rw [Fx h.n (h.c c r) h.j];rfl
   exact aP (e))
  (fun c _ _=>rfl) (by lia)
 refine (g).trans ?_;unfold qu;rw [abd];rfl
theorem AK {J:List (Str×Str)} {a0 x:D}:∀ (qs:List Tq) (l:List (Str×Str)) (o4:Option D),(∀ q∈qs,IxK q J/\q.cs.length<=8)->l.length+8*qs.length<=1000 ->
  ∃ u,cc (.one 4) (az 3 (ak bq (ae 3) X4)) (qs.map dj) [θ a0,θ (.lst (J.map fY)),θ x,θ (.lst (l.map fY)),o4]=.ok (.nx [θ a0,θ (.lst (J.map fY)),θ x,θ (.lst ((l++qs.flatMap (qu J)).map fY)),u])
 | [],l,o4,_,_=>⟨o4,by simp;rfl⟩
 | q::r,l,o4,h,hl=>by
  obtain ⟨z,v⟩:=h q (by simp);have C:=AB (J:=J) v;obtain ⟨o,g⟩:=AK r (l++qu J q) ((dj q)) (fun y hy=>h y (by simp [hy])) (by grind);have t:az 3 (ak bq (ae 3) X4) (ac5 [a0,θ (.lst (J.map fY)),x,θ (.lst (l.map fY)),o4] 4 ((dj q)))=.ok (.nx [a0,θ (.lst (J.map fY)),x,θ (.lst ((l++qu J q).map fY)),(dj q)]) :=
   aq (ai rfl (Jy z v) ((uE (by grind)).trans (by grind)))
  rw [GE,bZ t,g];simp
def Dq {d:D} {r:afW} (h:∀ x∈d::r,Py 1 x):bD (.lst (d::r)) (.lst [])=.ok (.bl η):=by
 obtain ⟨p,q,g,u,e⟩:=iP (Py.lst h) (Py.lst (k:=1) (ds:=[]) fun _ h=>nomatch h) (by decide) (by decide) rfl
 obtain ⟨ps,f,_,_,l⟩:=Py.list h;unfold bD;rw [e];have g:(bU (d::r)).map PyData.list=p:=g;rw [f] at g;cases g;cases u;cases ps with
 | nil=>cases l
 | cons a b=>rfl
def VX (qs:List Tq) (J:List (Str×Str)) (n c:Str):Prop:=∃ q∈qs,q.nm=n/\c∈q.cs.map LX/\(n,c)∉J
theorem Nf {qs:List Tq} {J:List (Str×Str)} (h:∀ q∈qs,IxK q J/\q.cs.length<=8) (hl:qs.length<=100) (x:Int):ly [.lst (qs.map dj),.lst (J.map fY),.int x]=.ok (.tup [])\/∃ n c,ly [.lst (qs.map dj),.lst (J.map fY),.int x]=.ok (fY (n,c))/\VX qs J n c:=by
 obtain ⟨o,g⟩:=AK (a0:=.lst (qs.map dj)) (x:=.int x) qs [] ξ h (by simp;lia);have v:∀ p∈qs.flatMap (qu J),VX qs J p.1 p.2:=by
  intro p C;obtain ⟨q,z,C⟩:=adO.mp C;unfold qu at C;obtain ⟨c,u,rfl⟩:=BY.mp C;obtain ⟨u,hn⟩:=aba.mp u;exact ⟨q,z,rfl,acN u,by simpa using hn⟩
 have hn:(qs.flatMap (qu J)).length<=8*qs.length:=by
  clear g v hl;induction qs with
  | nil=>simp
  | cons q r ih =>
   have:=AB (J:=J) (h q (by simp)).2
   have:=ih (fun y hy=>h y (by simp [hy]))
   rw [aej,aaT,aaU];lia
 rw [List.nil_append] at g;rw [C7,lR];generalize qs.flatMap (qu J)=L at g v hn;cases L with
 | nil =>
  refine .inl (au ?_);refine (am (aq (bo rfl))).trans ?_;refine (am (dh (fc rfl rfl) g)).trans ?_;exact (bK ((aQ (aP (ai rfl (bo rfl) rfl))).trans (aB (aA rfl))))
 | cons p r =>
  have h1:=abM x (b:=((p::r).length:Int)) (by simp only [aaU];lia);have h2:=acd x (b:=((p::r).length:Int)) (by simp only [aaU];lia);have hP:∀ x∈(p::r).map fY,Py 1 x:=by
   intro x Z;obtain ⟨y,hy,rfl⟩:=BY.mp Z;obtain ⟨q,z,e,u,_⟩:=v y hy;obtain ⟨k,hk,Y⟩:=BY.mp u
   have:=(h q z).1.n
   have:=(h q z).1.c k hk
   exact Py.two (Py.str (jF (by rw [<- e];assumption))) (Py.str (jF (by rw [<- Y];assumption)))
  obtain ⟨i,M⟩:=Int.eq_ofNat_of_zero_le h1;have I:i < (p::r).length:=by rw [M] at h2;lia
  refine .inr ⟨((p::r)[i]).1,((p::r)[i]).2,au ?_,v _ (aaX I)⟩;refine (am (g)).trans ?_;refine (am (bv (aP ((Dq hP))))).trans ?_;refine aB (ai rfl (av rfl ((show bP [.lst ((p::r).map fY)]=.ok (.int ((p::r).length)) by rw [<- lE];rfl)) (h:=by grind)) ?_);rw [M];exact oA fY (p::r) (lT I)
def aau:D->D
 | .tup (_::r)=>.tup r
 | d=>d
def NY:D->Bool
 | .tup (.str w::_)=>decide (w="index")
 | _=>η
theorem F6:∀ {ch:afW},(∀ x∈ch,X6 x)->(ch.filter NY).map aau=(ch.flatMap Bv).map fY
 | [],_=>rfl
 | x::r,h=>by
  have v:=F6 fun y hy=>h y (iN _ hy);obtain ⟨w,t,e,g⟩:=h x (by simp);rw [aej,aa5,<- v];rcases g with ⟨hw,n,c,u⟩|⟨hw,z⟩
  .rw [e,u];rw [hw];rfl
  .have e1:¬ NY x=ζ:=by rw [e];exact fun k=>hw (afM k)
   grind
abbrev ixE:FE:=br [ξ] (cU (ae 2)) (.one 0) (aZ (ak bD (ak aE (ae 0) (vC (.int 0))) (vC (.str "index")))) (lh jn (ae 0) (bI (vC (.int 1))) cO)
theorem Sa {ch:afW} {qs:List Tq} {a0 a1:Option D} {r:Sd} (h:Go [] ch qs) (hl:ch.length<=183):ixE (a0::a1::θ (.lst ch)::r)=.ok (.lst ((qc qs).map fY)):=by
 have hw:=Zr h;have g:=iU (τ:=aZ (ak bD (ak aE (ae 0) (vC (.int 0))) (vC (.str "index")))) (ε:=lh jn (ae 0) (bI (vC (.int 1))) cO) (rest:=[]) (fun d  => d) aau NY ch
  (fun x u=>by
   obtain ⟨w,t,e,g⟩:=hw x u;rw [e];exact iZ (bw) rfl)
  (fun x u v=>by
   obtain ⟨w,t,e,g⟩:=hw x u;rcases g with ⟨hw,n,c,z⟩|⟨hw,_⟩
   .rw [e,z];rfl
   .rw [e] at v;exact absurd (afM v) hw)
  (by lia)
 rw [List.map_id'] at g;rw [F6 hw] at g;have e:=JN h;rw [e];exact g
def Eu {qs:List Tq} {q r:Tq} (hn:(qs.map Tq.nm).Nodup) (g:q∈qs) (hr:r∈qs) (e:r.nm=q.nm):r=q:=by
 have h:=ud hn g
 have:r∈qs.filter fun x=>(x.nm=q.nm):=aba.mpr ⟨hr,afL e⟩
 simp_all
def zO {qs:List Tq} {q:Tq} (hn:(qs.map Tq.nm).Nodup) (u:q∈qs) (c:Str):(q.nm,c)∈qc qs ↔ c∈q.ids.map LX:=by
 unfold qc;rw [adO];constructor
 .rintro ⟨r,hr,h⟩;obtain ⟨p,g,e⟩:=BY.mp h;injection e with e1 e2
  rw [<- Eu hn u hr e1,<- e2];exact acN g
 .intro h;obtain ⟨p,g,e⟩:=BY.mp h;exact ⟨q,u,BY.mpr ⟨p,g,by rw [e]⟩⟩
def Qx {qs:List Tq} (h:∀ q∈qs,QOk q):∀ x∈qc qs,NmOk x.1/\NmOk x.2:=by
 intro x r;obtain ⟨q,g,r⟩:=adO.mp r;obtain ⟨p,u,rfl⟩:=BY.mp r;obtain ⟨B,_,t⟩:=(h q g).k;obtain ⟨c,v,e⟩:=BY.mp (t.t.i p u).1;exact ⟨(h q g).sh.n,by rw [<- e];exact ((h q g).sh.c c v).1⟩
def UK {qs:List Tq} (hn:(qs.map Tq.nm).Nodup) (h:∀ q∈qs,QOk q):∀ q∈qs,IxK q (qc qs)/\q.cs.length<=8:=fun q g =>
 ⟨⟨(h q g).sh.n,fun c r=>((h q g).sh.c c r).1,Qx h,zO hn g⟩,(h q g).sh.l1⟩
def upd (qs:List Tq) (q':Tq):List Tq:=qs.map fun r=>if r.nm=q'.nm then q' else r
theorem CG {qs:List Tq} {q:Tq} (hn:(qs.map Tq.nm).Nodup) (g:q∈qs):bV (gB qs) (.inr q.nm)=θ q.d:=by
 induction qs with
 | nil=>exact nomatch g
 | cons a r u =>
  rw [GE,aa4] at hn;unfold bV gB;by_cases e:a.nm=q.nm
  .have:q=a:=by
    rcases mK.mp g with rfl|h
    .rfl
    .exact absurd (e ▸ BY.mpr ⟨q,h,rfl⟩) hn.1
   subst this;simp
  .have h2:q∈r:=by
    rcases mK.mp g with rfl|h
    .exact absurd rfl e
    .exact h
   have:=u hn.2 h2
   unfold bV gB at this
   grind
def QP {qs:List Tq} {q q':Tq} (hn:(qs.map Tq.nm).Nodup) (g:q∈qs) (e:q'.nm=q.nm):c9 (gB qs) (.inr q.nm) q'.d=gB (upd qs q'):=by
 unfold c9;rw [CG hn g];unfold gB upd;rw [abd,abd];apply abB
 intro r hr;by_cases h:r.nm=q.nm
 .simp [h,e]
 .simp [h,e]
theorem Ij {qs:List Tq} {q:Tq} {c:Str} (hn:(qs.map Tq.nm).Nodup) (u:q∈qs) (h:QOk q) (hl:qs.length<=100) (r:c∈q.cs.map LX) (g:c∉q.ids.map LX):∃ d,dU [.dcf (gB qs),lj q.nm c]=.ok (.dcf (gB (upd qs { q with ids:=q.ids++[(c,d)] }))):=by
 obtain ⟨B,hB,t⟩:=h.k;obtain ⟨d,e,v⟩:=qP t.t hB (by have:=t.lr;lia) (by have:=t.li;lia) r g;refine ⟨d,(v5 (AH (CG hn u) (by rw [pW];lia) r g e)).trans ?_⟩;rw [<- QP (q':={ q with ids:=q.ids++[(c,d)] }) hn u rfl];rfl
theorem KW {tr:D} {ps:List (Tq×Str)} {W:Wl} {f:Option Cn} {qs:List Tq} {J:List (Str×Str)} {q:Tq} {c:Str} {d:D} (h:TdOk tr ps W f qs J) (v:q∈qs) (Y:c∈q.cs.map LX):TdOk tr ps W f (upd qs { q with ids:=q.ids++[(c,d)] }) (J++[(q.nm,c)])/\(upd qs { q with ids:=q.ids++[(c,d)] }).map dj=qs.map dj:=by
 have en:(upd qs { q with ids:=q.ids++[(c,d)] }).map Tq.nm=qs.map Tq.nm:=by
  unfold upd;rw [abd];apply abB
  intro r hr;by_cases e:r.nm=q.nm
  .simp [e]
  .simp [e]
 have I:∀ x∈J++[(q.nm,c)],NmOk x.1/\NmOk x.2:=by
  intro x u;rcases By.mp u with u|u
  .exact (h.i q v).1.j x u
  .rw [aaS.mp u];obtain ⟨k,g,L⟩:=BY.mp Y;exact ⟨(h.i q v).1.n,by rw [<- L];exact (h.i q v).1.c k g⟩
 refine ⟨⟨h.t,by rw [en];exact h.n,?_,?_,by unfold upd;rw [lE];exact h.l,h.m⟩,?_⟩
 .intro p hp;obtain ⟨r,hr,e⟩:=h.p p hp
  have:r.nm∈(upd qs { q with ids:=q.ids++[(c,d)] }).map Tq.nm:=by rw [en];exact acN hr
  obtain ⟨z,hz,M⟩:=BY.mp this;exact ⟨z,hz,M.trans e⟩
 .intro z hz;obtain ⟨r,hr,rfl⟩:=BY.mp hz;obtain ⟨g,C⟩:=h.i r hr;by_cases e:r.nm=q.nm
  .have:=Eu h.n v hr e
   subst this;rw [afI rfl];refine ⟨⟨g.n,g.c,I,fun x=>?_⟩,C⟩
   have:=g.m x
   simp [this]
  .rw [afJ e];refine ⟨⟨g.n,g.c,I,fun x=>?_⟩,C⟩
   have:=g.m x
   simp [this,e]
 .unfold upd;rw [abd];apply abB
  intro r hr;by_cases e:r.nm=q.nm
  .have:=Eu h.n v hr e
   subst this;show dj (if r.nm=r.nm then _ else r)=_;rw [afI rfl];rfl
  simp_all
def VJ {n c:Str} (h1:NmOk n) (h2:NmOk c):fh (fY (n,c)) (.tup [])=.ok (.bl ζ):=by
 obtain ⟨p,q,r,g,e⟩:=iP (Py.two (Py.str (jF h1)) (Py.str (jF h2))) jq (by decide) (by decide) rfl;unfold fh;rw [show jl (fY (n,c)) (.tup [])=_ from e];cases r;cases g;rfl
def mul_r {i:Int}:gE (.int i) (.int 48271)=.ok (.int (i*48271)):=afI (.inr (by decide))
theorem MA {c:Int} {n:Nat} {qs:List Tq} {t:Tre} {d:D} {f:Option Cn} (g:Ts c n qs) (hn:n<=3) (r:TrOk qs t) (v:TrK d t.ps t.W f):TdOk d t.ps t.W f qs (qc qs) :=
 ⟨v,g.nd,fun p u=>⟨p.1,r.q p u,rfl⟩,UK g.nd g.o,by rw [g.l];lia,by have:=r.l1;lia⟩
theorem z8:∀ {qs:List Tq},(∀ q∈qs,QOk q)->(qc qs).length<=20*qs.length
 | [],_=>aaQ _
 | q::r,h=>by
  have g:=z8 fun z hz=>h z (iN _ hz);obtain ⟨B,_,t⟩:=(h q (by simp)).k
  have:=t.li
  unfold qc at g ⊢
  grind
theorem law_true (v:List Int):vY [.lst (v.map D.int)]=.ok (.bl ζ):=by
 obtain ⟨qs,ch,n,ec,g,hG,⟨hn1,C⟩,hl⟩:=Bw (cell v 0 % 1000000000000) (most:=3) (by decide);obtain ⟨t,et,L⟩:=Hj (cell v 1) g.o (by rw [g.l];lia) (mo:=3) (by decide);obtain ⟨u,eu,Z⟩:=Hj (cell v 2) g.o (by rw [g.l];lia) (mo:=2) (by decide);have ea:=vx hG;have z:∀ (k:Int) (h:0<=k) {r:Sd},aj bN (aa (ae 0) (aa (vC (.int k)) ag)) (θ (.lst (v.map D.int))::r)=.ok (.int (cell v k)):=fun k h r=>ap (ac rfl (ac rfl rfl)) (Ld v k h);have hJ:=UK g.nd g.o;have Y:qs.length<=100:=by rw [g.l];lia
 rw [Vi,ww];refine au ?_;refine (am (Hr (ap (ac (av (z 0 (by decide)) (ai rfl rfl ((Tn (by decide)).trans rfl))) (ac rfl rfl)) ec) rfl)).trans ?_;refine (am (aq (ap (ac (Uz rfl) (ac rfl rfl)) ea))).trans ?_;refine (am (aq (Sa hG hl))).trans ?_;refine (am (aq (ap (ac (z 1 (by decide)) (ac rfl (ac rfl rfl))) et))).trans ?_;obtain ⟨d,f,M,e5⟩:∃ d f,TrK d t.ps t.W f/\bz (aZ (ak uT (ak bg (aj bN (aa (ae 0) (aa (vC (.int 3)) ag))) (vC (.int 3))) (vC (.int 0)))) (az 5 (aj jS (aa (ae 5) (aa (ak bg (ak gE (aj bN (aa (ae 0) (aa (vC (.int 3)) ag))) (vC (.int 48271))) (vC (.int 1000003))) ag)))) ay [θ (.lst (v.map D.int)),θ (.lst (qs.map dj)),θ (.lst ch),θ (.dcf (gB qs)),θ (.lst ((qc qs).map fY)),θ t.d,ξ,ξ,ξ]=.ok (.nx [θ (.lst (v.map D.int)),θ (.lst (qs.map dj)),θ (.lst ch),θ (.dcf (gB qs)),θ (.lst ((qc qs).map fY)),θ d,ξ,ξ,ξ]):=by
  by_cases h:0 < cell v 3 % 3
  .obtain ⟨f,e,M⟩:=KL L (cell v 3*48271 % 1000003);exact ⟨_,f,M,(aQ (aP (ai (av (z 3 (by decide)) rfl) rfl (uG.trans (by rw [afL h]))))).trans (aq (ap (ac rfl (ac (av (ai (z 3 (by decide)) rfl mul_r) rfl) rfl)) e))⟩
  .exact ⟨t.d,t.f,WH L,(bv (aP (ai (av (z 3 (by decide)) rfl) rfl (uG.trans (by rw [afK h]))))).trans rfl⟩
 refine (am e5).trans ?_;refine (am (aq (ap (ac (z 2 (by decide)) (ac rfl (ac rfl rfl))) eu))).trans ?_;have J:=MA g C L M;have tu:=MA g C Z (WH Z);refine (skip (pH (mF (dF (ap (ac rfl (ac rfl (ac rfl (ac rfl rfl)))) (qe J)) rfl)) (mF (dF (ap (ac rfl (ac rfl (ac rfl (ac rfl rfl)))) (qe tu)) rfl)))).trans ?_;rcases Nf hJ Y (cell v 4) with ef|⟨m,c,ef,q,hq,rfl,hc,hi⟩
 .refine (am (aq (ap (ac rfl (ac rfl (ac (z 4 (by decide)) rfl))) ef))).trans ?_;refine (skip (aP (ai rfl (aA rfl) (jq.ne (by decide) rfl)))).trans ?_;exact aB (ap (ac rfl (ac rfl (ac rfl (ac rfl rfl)))) (qe J))
 .have hi:c∉q.ids.map LX:=fun h=>hi ((zO g.nd hq c).mpr h);obtain ⟨x,ex⟩:=Ij g.nd hq (g.o q hq) Y hc hi;obtain ⟨tn,es⟩:=KW (d:=x) J hq hc;have el:=qe tn;rw [es,aa5] at el;obtain ⟨k,hk,ek⟩:=BY.mp hc;refine (am (aq (ap (ac rfl (ac rfl (ac (z 4 (by decide)) rfl))) ef))).trans ?_;have I:((qc qs).map fY).length+[fY (q.nm,c)].length<=1000:=by
   have:=z8 g.o
   rw [g.l] at this;rw [lE];show _+1<=1000;lia
  refine (am ((aQ (aP (ai rfl (aA rfl) (VJ (g.o q hq).sh.n (by rw [<- ek];exact ((g.o q hq).sh.c k hk).1))))).trans ((am (aq (ap (ac rfl (ac (aA (ac rfl (ac (ai rfl rfl bw) (ac (ai rfl rfl bQ) rfl)))) rfl)) ex))).trans ((bv (mF (dF (ap (ac rfl (ac rfl (ac rfl (ac (ai rfl (bo (ac rfl rfl)) (uE I)) rfl)))) el) rfl))).trans rfl)))).trans ?_;exact aB (ap (ac rfl (ac rfl (ac rfl (ac rfl rfl)))) (qe J))
end T71
namespace T71
open PySem L2
def eT (o:Obj):Bool:=match o with
 | ⟨.none,ξ,.fields vs,_⟩=>vs.size==0
 | _=>η
noncomputable def K0 (P:ady):aT:=(HD.K P).filter fun p=>!eT p.2
def Sv {P:ady} {h:acV} (X:(HD.K P).In h):(K0 P).In h:=fun b o e=>X b o (Kx (by rw [show (HD.K P).map (·.1)=aa7 648 from by kernel_rfl];exact List.nodup_range) (aba.mp (yb e)).1)
def l7 (P:ady):uN (((K0 P).filterMap (gy (K0 P))).map (·.1))=ζ:=by kernel_rfl
def l8 (P:ady):(((K0 P).filterMap (gy (K0 P))).map fun x=>(HD.K P).lookup x.1)=((K0 P).filterMap (gy (K0 P))).map fun _=>θ (acQ #[]):=by kernel_rfl
def l9 (P:ady):xV (K0 P)=ζ:=by kernel_rfl
def LA:Pl:=[(14,136,135,HD.m335),(13,129,128,HD.m335),(15,143,142,HD.m335),(16,150,149,HD.m335),(17,157,156,HD.m335),(38,237,236,HD.m473),(59,334,333,HD.m623),(21,171,170,HD.m378),(27,188,187,HD.m397),(19,164,163,HD.m378),(28,195,194,HD.m397),(26,181,180,HD.m397),(29,202,201,HD.m397),(34,209,208,HD.m473),(35,216,215,HD.m473),(37,230,229,HD.m473),(36,223,222,HD.m473),(39,244,243,HD.m473),(46,258,257,HD.m531),(45,251,250,HD.m531),(51,291,290,HD.m531),(48,272,271,HD.m531),(50,284,283,HD.m531),(49,277,276,HD.m531),(47,265,264,HD.m531),(52,298,297,HD.m531),(54,310,309,HD.m531),(53,303,302,HD.m531),(58,329,328,HD.m623),(61,341,340,HD.m623),(57,322,321,HD.m623),(56,317,316,HD.m623),(64,360,359,HD.m623),(63,353,352,HD.m623),(62,348,347,HD.m623),(66,374,373,HD.m623),(65,367,366,HD.m623),(69,402,401,HD.m712),(72,423,422,HD.m712),(70,409,408,HD.m712),(71,416,415,HD.m712),(74,435,434,HD.m712),(73,430,429,HD.m712),(79,457,456,HD.m803),(86,506,505,HD.m803),(80,464,463,HD.m803),(84,492,491,HD.m803),(81,471,470,HD.m803),(82,478,477,HD.m803),(85,499,498,HD.m803),(83,485,484,HD.m803),(77,443,442,HD.m803),(78,450,449,HD.m803),(88,513,512,HD.m909),(89,520,519,HD.m909),(90,525,524,HD.m909),(91,530,529,HD.m909),(92,537,536,HD.m909),(93,542,541,HD.m909),(94,547,546,HD.m909),(95,554,553,HD.m909),(97,568,567,HD.m909),(98,575,574,HD.m909),(99,582,581,HD.m909),(100,589,588,HD.m909),(101,594,593,HD.m909),(102,601,600,HD.m909),(104,613,612,HD.m909),(105,620,619,HD.m909),(106,625,624,HD.m909),(107,630,629,HD.m909),(108,637,636,HD.m909),(109,642,641,HD.m909),(110,647,646,HD.m909)]
def l0:(G.map fun q=>Rh (cH q.1.i))=G.map fun q=>q.1.x:=by kernel_rfl
def l1 (w:abA):(G.map fun q=>q.1.g.map (aaO (K0 w.params) aaR))=G.map fun q=>q.1.g.map fun _=>θ (θ (.ref (fA LA q.1.i))):=by kernel_rfl
def l2 (w:abA):(G.map fun q=>(K0 w.params).lookup (fA LA q.1.i))=G.map fun q=>θ ⟨.type "function",ξ,.func (fD cH LA q.1.i),#[]⟩:=by kernel_rfl
def l3 (w:abA):(G.map fun q=>(Hy (K0 w.params) (.ref (cA LA q.1.i)) q.1.x,ada (K0 w.params) (.ref (fA LA q.1.i))))=G.map fun _=>(ζ,ζ):=by kernel_rfl
def l4:G.map (ZI cH)=G.map aao:=by kernel_rfl
def l5 (w:abA):(cT.map fun q=>(aaO (K0 w.params) aaR q.1).bind fun o=>o.bind (WY (K0 w.params)))=cT.map fun q=>θ q.2:=by kernel_rfl
def l6 (w:abA):zT.map (aaO (K0 w.params) aaR)=zT.map fun _=>θ ξ:=by kernel_rfl
theorem all_mk {l:aeD} {w:abA} {h:acV} {mg:afS} {fa:aa3} (X:(K0 w.params).In h) (N:h.Ns aaR mg) (hfa:mg "law"=θ (.ref fa)) :
  ∃ fd:acE,(∀ (s:DO) (v:oR),BindsTo s fd ⟨[v],[]⟩ [("_law_script",v)])/\∀ base:acV,(K0 w.params).In base->base.Ns aaR mg->FnOk l.prog w (K0 w.params) mg base gN 105 fa fd ((nN 110).take 1) (rS (K0 w.params) mg vY):=by
 have hD:=Nt X N l0 (l1 w) (l2 w) (l3 w) l4 (by kernel_rfl);have pb:aaO (K0 w.params) aaR "FORMS"=θ (θ (.ref 436)):=by kernel_rfl
 have w_FORMS:(K0 w.params).lookup 436=θ ⟨.type "dict",ξ,.dict #[HD.ke w.params "table" 805 (.int 2 806),HD.ke w.params "index" 807 (.int 3 808),HD.ke w.params "put" 809 (.int 4 810),HD.ke w.params "drop" 811 (.int 3 812)] 4,#[]⟩:=by kernel_rfl
 have kk_FORMS:acn w.params #[HD.ke w.params "table" 805 (.int 2 806),HD.ke w.params "index" 807 (.int 3 808),HD.ke w.params "put" 809 (.int 4 810),HD.ke w.params "drop" 811 (.int 3 812)].toList:=⟨⟨_,_,rfl,rfl⟩,⟨⟨_,_,rfl,rfl⟩,⟨⟨_,_,rfl,rfl⟩,⟨⟨_,_,rfl,rfl⟩,aa9⟩⟩⟩⟩;have uP:#[HD.ke w.params "table" 805 (.int 2 806),HD.ke w.params "index" 807 (.int 3 808),HD.ke w.params "put" 809 (.int 4 810),HD.ke w.params "drop" 811 (.int 3 812)].toList.map (fun e=>Du e.key)=(gY.map (·.1)).map θ:=by kernel_rfl
 have uQ:(436==ab0)=η:=by kernel_rfl
 have M:aaO (K0 w.params) 436 "drop"=θ (θ (.int 3 812)):=by kernel_rfl
 have i_FORMS_2:aaO (K0 w.params) 436 "put"=θ (θ (.int 4 810)):=by kernel_rfl
 have i_FORMS_1:aaO (K0 w.params) 436 "index"=θ (θ (.int 3 808)):=by kernel_rfl
 have i_FORMS_0:aaO (K0 w.params) 436 "table"=θ (θ (.int 2 806)):=by kernel_rfl
 have qV:aaO (K0 w.params) aaR "TURNED"=θ (θ (.ref 172)):=by kernel_rfl
 have w_TURNED:(K0 w.params).lookup 172=θ ⟨.type "dict",ξ,.dict #[HD.ke w.params "=" 399 (.str "=" 400),HD.ke w.params "<>" 401 (.str "<>" 402),HD.ke w.params "<" 403 (.str ">" 404),HD.ke w.params "<=" 405 (.str ">=" 406),HD.ke w.params ">" 407 (.str "<" 408),HD.ke w.params ">=" 409 (.str "<=" 410)] 6,#[]⟩:=by kernel_rfl
 have Z:acn w.params #[HD.ke w.params "=" 399 (.str "=" 400),HD.ke w.params "<>" 401 (.str "<>" 402),HD.ke w.params "<" 403 (.str ">" 404),HD.ke w.params "<=" 405 (.str ">=" 406),HD.ke w.params ">" 407 (.str "<" 408),HD.ke w.params ">=" 409 (.str "<=" 410)].toList:=⟨⟨_,_,rfl,rfl⟩,⟨⟨_,_,rfl,rfl⟩,⟨⟨_,_,rfl,rfl⟩,⟨⟨_,_,rfl,rfl⟩,⟨⟨_,_,rfl,rfl⟩,⟨⟨_,_,rfl,rfl⟩,aa9⟩⟩⟩⟩⟩⟩;have J:aaO (K0 w.params) 172 ">="=θ (θ (.str "<=" 410)):=by kernel_rfl
 have r:aaO (K0 w.params) 172 ">"=θ (θ (.str "<" 408)):=by kernel_rfl
 have I:aaO (K0 w.params) 172 "<="=θ (θ (.str ">=" 406)):=by kernel_rfl
 have C:aaO (K0 w.params) 172 "<"=θ (θ (.str ">" 404)):=by kernel_rfl
 have g:aaO (K0 w.params) 172 "<>"=θ (θ (.str "<>" 402)):=by kernel_rfl
 have L:aaO (K0 w.params) 172 "="=θ (θ (.str "=" 400)):=by kernel_rfl
 have uR:mg "Table"=θ (.ref 391):=ads X N (by kernel_rfl);have iI:Q9 (K0 w.params) "Table" 391:=(by kernel_rfl:aaO (K0 w.params) aaR "Table"=θ (θ (.ref 391)));have fO:IsC (K0 w.params) 391:=⟨⟨by kernel_rfl,by kernel_rfl,by kernel_rfl,by kernel_rfl⟩,by kernel_rfl,by kernel_rfl,by kernel_rfl,by kernel_rfl,by kernel_rfl,by kernel_rfl,by kernel_rfl,by kernel_rfl⟩;have qW:Mk (K0 w.params) 391 388:=⟨by kernel_rfl,by kernel_rfl,by kernel_rfl,by kernel_rfl⟩;have mN:Fun (K0 w.params) "__init__" "Table.__init__" ir 388 (acK "__init__" "Table.__init__" (iV ir) (dC ir) (aY ir) .none .none .none HD.m712 ξ (.ref 387) .none):=CJ (oc:=.type "function") (od:=ξ) (osl:=#[]) (by kernel_rfl) (by kernel_rfl) (by kernel_rfl);have qX:=mN.binds (ps:=["self","shape","rows","indexes"]) fun _ _ _ _ _ _=>ln4 (fun _ _ _ _=>rfl);have eR:eF (K0 w.params) 391 "shape":=(by kernel_rfl:abT (K0 w.params) (.ref 391) "shape"=θ ξ);have fF:eF (K0 w.params) 391 "rows":=(by kernel_rfl:abT (K0 w.params) (.ref 391) "rows"=θ ξ);have c6:eF (K0 w.params) 391 "indexes":=(by kernel_rfl:abT (K0 w.params) (.ref 391) "indexes"=θ ξ);have hq:(df 110 1 104,Mr.pl ww)∈G:=aaZ (i:=73) rfl;have e:=hfa.symm.trans ((hD _ hq).m "law" aa8);cases e;refine ⟨fD cH LA 110,fun s v=>.of_eq (by rfl),fun base _ _=>?_⟩;have T:Txt w (K0 w.params) mg _ _ _ _ _ _ _ _ _:=⟨M5 X N (l5 w),Wx X N (l6 w),l9 w.params,ads X N pb,w_FORMS,kk_FORMS,fun y d e=>tab_of (tab:=gY) (P:=fun y d=>∃ v u,aaO (K0 w.params) 436 y=θ (θ u)/\aX v u/\∀ H,b9 (K0 w.params) H d v) (abi.mpr ⟨⟨.int 2,.int 2 806,i_FORMS_0,⟨_,rfl⟩,fun H=>rfl⟩,(abi.mpr ⟨⟨.int 3,.int 3 808,i_FORMS_1,⟨_,rfl⟩,fun H=>rfl⟩,(abi.mpr ⟨⟨.int 4,.int 4 810,i_FORMS_2,⟨_,rfl⟩,fun H=>rfl⟩,(abi.mpr ⟨⟨.int 3,.int 3 812,M,⟨_,rfl⟩,fun H=>rfl⟩,(fun _ h=>nomatch h)⟩)⟩)⟩)⟩) e,pb,uP,uQ,ads X N qV,w_TURNED,Z,fun y d e=>tab_of (tab:=ip) (P:=fun y d=>∃ v u,aaO (K0 w.params) 172 y=θ (θ u)/\aX v u/\∀ H,b9 (K0 w.params) H d v) (abi.mpr ⟨⟨.str "=",.str "=" 400,L,⟨_,rfl⟩,fun H=>rfl⟩,(abi.mpr ⟨⟨.str "<>",.str "<>" 402,g,⟨_,rfl⟩,fun H=>rfl⟩,(abi.mpr ⟨⟨.str ">",.str ">" 404,C,⟨_,rfl⟩,fun H=>rfl⟩,(abi.mpr ⟨⟨.str ">=",.str ">=" 406,I,⟨_,rfl⟩,fun H=>rfl⟩,(abi.mpr ⟨⟨.str "<",.str "<" 408,r,⟨_,rfl⟩,fun H=>rfl⟩,(abi.mpr ⟨⟨.str "<=",.str "<=" 410,J,⟨_,rfl⟩,fun H=>rfl⟩,(fun _ h=>nomatch h)⟩)⟩)⟩)⟩)⟩)⟩) e,uR,iI,fO,qW,mN,qX,eR,fF,c6⟩
 exact FN (fun Y k y=>Zz T y) (hX T) G aC [] (hA T) (fun _ z=>nomatch z) hD chk _ hq
def walk {l:aeD} {q:abN} {loose:afP} {XP:(afS)->acV->Prop} {r:abA->acV->Prop} {d:DefRec} {K:ady->aT} (hn:l.most=θ 63) (v:d.params.defaults=[])
  (C:∀ (w:abA) (h:acV),r w h->(K w.params).In h)
  (J:∀ (w:abA) (h:acV),r w h->(((K w.params).filterMap (gy (K w.params))).map (·.1)).Nodup/\∀ x∈(K w.params).filterMap (gy (K w.params)),h.get? x.1=θ (acQ #[]))
  (F:∀ (w:abA) (mg:afS) (g:aa3) (h:acV),(K w.params).In h->h.Ns aaR mg->mg d.name=θ (.ref g) ->
   ∃ fd:acE,(∀ (s:DO) (u:oR),BindsTo s fd ⟨[u],[]⟩ [("_law_script",u)])/\∀ base:acV,(K w.params).In base->base.Ns aaR mg->FnOk l.prog w (K w.params) mg base gN 105 g fd ((nN 110).take 1) (rS (K w.params) mg vY)) :
  PySem.W.WalkO q loose XP r l.row.toRowW d [] (fun f vs=>afj f vs) :=
 L2.Jq (n:=63) (k:=105) (x:="_law_script") (CX:=fun _=>gN) (sp:=fun w=>CH (K w.params) vY) hn (by decide) v ⟨rfl,by decide,by decide⟩ C (fun w mg g h h1 h2 L=>KU (F w mg g h h1 h2 L)) J (fun _ _ a M hl I=>J8 I (law_true M) fun _=>rfl) fun _ _ _ _ _ z=>z
end T71
open PySem PySem.W PyProof.Rows
set_option maxRecDepth 100000 in
set_option maxHeartbeats 0 in
theorem PySem.Challenge.cw_tablestore_k71_bounds_and_ways_holds : PySem.Challenge.rw_tablestore_k71_bounds_and_ways.Holds := by
 refine HD.hold (L2.walkX (fun _=>by kernel_rfl) ?_);exact T71.walk (l:=PySem.Challenge.rw_tablestore_k71_bounds_and_ways) (K:=T71.K0) rfl (by kernel_rfl) (fun w h Y=>T71.Sv Y) (fun w h Y=>⟨L2.uY (T71.l7 w.params),fun x hx=>Y _ _ (abH.mp (T71.l8 w.params) x hx)⟩) fun w mg fa h KX G hmg=>T71.all_mk KX G hmg
