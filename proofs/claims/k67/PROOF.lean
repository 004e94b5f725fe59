import PyProof.Rows.All
import Open.Pieces
import OpenK.ZHead
import KE.KDictOf
import KE.KNestM
import KE.KIsAll
import KE.KTryMore
import PyProof.EqAt
import PyProof.EqKinds
import PyProof.TupleCall
import PyProof.ZipIter
import PyProof.Draws
import PyProof.EnumMake
import PyProof.Rows.SetFrom
import KE.KIntText
import KE.IntTextLaws
import KE.KSortTup
import KE.KDictSum
import KE.KSortedM
import PyProof.ListRange
import PyProof.SumAny
import PyProof.StrLawsChain
import PyProof.StrCalls6
import PyProof.ExcAttrAll.ValueError
import PySem.Challenge.RW_tablestore_k67_whole_faults
set_option linter.all false
set_option maxHeartbeats 4000000
set_option genSizeOf false
set_option bootstrap.genMatcherCode false
set_option maxRecDepth 100000
set_option compiler.extract_closed false
open Array renaming getElem?_eq_some_iff->LN,mk->jy
open Bool renaming and_eq_true->oR,false_ne_true->MK,eq_false_iff->Wc,not_eq_true'->Yl,and_eq_true_iff->lB,eq_iff_iff->iC,or_eq_false_iff->yb,or_eq_true->Km,not_eq_false'->N7
open Char renaming toNat->uT
open False renaming elim->Wf
open ForInStep renaming yield->ud
open Int renaming emod_lt_of_pos->dA,emod_nonneg->dW,le_refl->WV,toNat_natCast->adW
open List renaming mem_cons->eQ,mem_cons_of_mem->ie,getElem?_eq_some_iff->rW,mem_append->BY,mem_of_getElem?->Do,mem_singleton->IF,mem_append_left->Le,length_append->LX,mem_append_right->OR,mem_cons_self->Up,not_mem_nil->Vm,replicate->Ut,getElem?_eq_getElem->WT,append_assoc->Vw,all_eq_true->Ve,getElem?_append_right->nN,append_nil->Wz,nodup_cons->Vx,lookup_cons->We,length_cons->uq,length_map->WH,map_cons->Xp,getElem?_append_left->uy,of_mem_zip->X0,getElem?_map->Xm,all_cons->Vg,drop_eq_getElem_cons->g5,dropLast_concat_getLast->aoa,map_inj_left->Yj,length_drop->vJ,mem_iff_getElem?->dZ,mem_map->d9,nodup_nil->Yv,length_nil->l3,getElem?_set_ne->dP,size_toArray->XC,find?_cons->vD,mem_flatten->dS,length_replicate->Kd,mem_filter->dN,replicate_append_replicate->qH,getElem?_replicate->yg,mem_map_of_mem->yh,getElem?_set_self->tG,mem_filterMap->mP,lookup->wA,map_append->md,length_singleton->K9,drop_drop->sL,length->vP,takeWhile_cons->mE,head?->vx,forIn_cons->yf,findIdx?_eq_some_iff_getElem->Kg,take_of_length_le->p0,flatten_cons->ac8,map_nil->t4,getElem?_eq_none->Ax,mem_of_mem_drop->t6,mem_zipIdx_iff_getElem?->Mn,range->e6,filterMap_cons->AC,intersperse_cons_cons->adF,getD_eq_getElem?_getD->adG,reverse_cons->Al,cons_append->yG,getElem_mem->yL,isEmpty_iff->Lj,dropLast_eq_take->LB,length_dropLast->aow,drop_eq_nil_iff->MJ,dropLast_concat->Qw,mem_range->Qz,drop_zero->B1,map_congr_left->aeA,range'->r6,any_cons->Bp,getElem?_drop->uu,mem_replicate->aeO,ext_getElem?->Oo,headD->OD,set_set->nam,map_map->ae5,map->nq,drop->SR
open List.Pairwise renaming nil->Oe
open Nat renaming le_refl->mK,lt_of_lt_of_le->Rw,le_trans->RW,ne_of_lt->Vd,zero_le->Uh,le_succ_of_le->nJ,le_of_ble_eq_true->lA,lt_irrefl->ei,strongRecOn->sk,lt_succ_self->mY,le_add_right->zQ,ne_of_gt->mS,eq_zero_or_pos->zi,sub_self->LU,reduceAdd->Mf,succ_le_succ->yD,min_eq_left->Lv,toDigits->uY,not_lt_zero->BV,zero_add->Pm,one_ne_zero->aaj,pow_le_pow_right->Pw,add_sub_cancel->NT,le_of_lt->jx
open Ne renaming symm->Vn
open Option renaming bind_eq_some_iff->bY,map_eq_some_iff->dO,isSome_iff_exists->tq,map_some->iM,isNone_iff_eq_none->L1,isSome->Md,bind_some->Nr,none->Eb,any_some->SS
open Option.some renaming inj->zB
open Or renaming inr->kf,inl->qy
open Prod renaming snd->adR
open Prod.mk renaming inj->eh
open PyProof.Rows renaming callWith_type1->tL,envOfC->W7
open PySem renaming wpAny_bind->iF,Value->nE,mainGlobals->By,Shared->ID,Addr->SA,attributeBase->WG,wpAny_pure->U4,sizeLine->Ta,wpAny->SN,model->UA,wpAny_mono->UE,bootBuiltins->Vl,compareOp->UI,Expr->Ry,starEach->Uu,wpAny_Call_Name_kw->Yr,Program->Tc,World->Sl,foldedSetIterable->pg,swapsWith->Uw,wpAny_field->Wo,sizeLine_eq->XB,assignEach->Wh,Around->Tx,wpAny_isNot_plain->yj,FuncData->Wj,Stmt->SU,mem_of_lookup->hG,wpAny_is_plain->yH,wpAny_passesOwn->eN,wpAny_truthy_bool->iT,Heap->T3,binaryOp->Yo,wpAny_callSpecial?_slot->acd,OsState->acq,wpAny_execs_nil->h8,wpAny_call_entry->als,codeAny_mono->eo,sysModules->zL,wpAny_newObj_type->tU,NameKind->Yz,wpAny_setField->mV,behindInMarks->t8,backTo->X3,PassesOwn->zJ,keywordEach->jh,treeTable->adC,rawInt->Xb,Params->adO,recursionLimit->tP,codeAny->qq,letOwnedTupleGo->B3,evalArgs_none->Nk,Keyword->zS,call->uK,getItem->e8,Within->Bf,standAt->jF
open PySem.Builtin.SmallTypes renaming nextOf->aoU,ownedTupleIsFree->btb,ownedTupleHandOut->acQ
open PySem.Builtin.Str renaming strSliceIndices->rL,occurrences->jb,strSub->aeP
open PySem.Calls renaming callWith_builtin->rN,Constant_str->mO,evalArgs_plain->sE,Name_function_global->LK,spliced_cons->zc,spliced_nil->Oh
open PySem.EntryCells renaming newEntry->Q1
open PySem.F renaming plainAttrs_list->oG,slot_list_append->lF,type_list_append->lN,slot_NoneType_hash->rQ,slot_list_pop->aos,type_list_pop->bts,slot_str_startswith->x5,excBase_ValueError->x6,plainAttrs_str->KR,type_str_startswith->MD,slot_dict_getitem->LY,slot_str_join->aea,type_str_join->aeb,slot_str_find->OV
open PySem.Heap renaming get?_push_of_some->iN,lt_size->Tn,get?_push_size->Vh,SameBut->X1,size_push->Ym,get?_update_other->hY,get?_update_self->mR,get?_none_of_le->Pt,ExtBut->abr
open PySem.Heap.SameBut renaming update->isK
open PySem.NameKind renaming free->Xs,cell->Bv
open PySem.NumText renaming digitsVal->Na
open PySem.Obj renaming data_mapFields->yY,mapFields->oK,isFreed_of_fields->k9
open PySem.PassesOwn renaming never->SQ
open PySem.PyData renaming eqv->BK,canLayAll0->OI,depth->ae6
open PySem.SeqAt renaming shaped->jw
open PySem.SeqAt.EqAt renaming int_none->QH,str_none->QI,none_int->QS,none_str->QX,int_str->NA,str_int->NG,same->SE
open PySem.Str renaming ofString->lE,length->ye,empty->qT,ofString_eq_toList->Lr,join->AU
open PySem.StrLaws renaming subAt_one->xA,strSub_toList->aeR
open PySem.Txt renaming startswith->pQ,join->acP,endswith->cg,rstrip->aej,replace->Nu
open PySem.Value renaming ref->WU,none->Yk,int->uh
open PySem.W renaming Frag->aT,nsIn->DO,kia_one->XY,fnOf->Wk,keepIn->Xq,findIn->Yt,callWith_K->yw,codeIn->uz,emptyDict->iJ,cellsFrom_some->tK,excIn->ek,mg_of->en,looks_pair->acH,tabObj->ik,plainGet->mf,instObj->mH,hasDictIn->sA,boot_heap->adk,codeHdIn->t5,plainGet_of->AQ,callWith_K0->Bb,KeysLit->ue,isFn->mT,codeRec_of->zh,lookIn->tO,plainOver->zO,kitx_list->zR,kitx_dict->zX,takerIn->yS,OpenLaw->y4,methodCall_KW->OO,exmOne->Cm,kitx_tuple->NK,makesIn->SO,InstAt->S0,kitOne->S7
open PySem.W.Fast renaming te14364793385576792824->lT,te10110043849684766642->x4
open String renaming toList_ofList->P5,ofList->BD
open True renaming intro->Uy
open Option renaming some->J,none->U
open Bool renaming true->G,false->η
def SI:=@if_pos
def SM:=@if_neg
def TU:=@decide_eq_false
def Th:=@decide_eq_true
def WI:=@of_decide_eq_true
def UN:=@congrArg
abbrev Ru:=List Nat
abbrev SH:=List PySem.Str
abbrev TQ:=List<|PySem.Addr×PySem.Obj
abbrev UB:=PySem.Value->PySem.Shared->Prop
abbrev Sq:=PySem.Str->Option PySem.Value
abbrev Sf:=List PySem.Addr
abbrev TK:=List PySem.Value
abbrev TN(x:PySem.Str):Prop:=(x==("__debug__":PySem.Str))=η
local macro_rules|`(tactic|walk_at "v")=>`(tactic|first|exact Or.inl rfl|exact Or.inr (Or.inl rfl)|exact Or.inr (Or.inr rfl))
local macro_rules|`(tactic|walk_at "u")=>`(tactic|first|exact Or.inl rfl|exact Or.inr rfl|assumption)
local macro_rules|`(tactic|trivial)=>`(tactic|decide +kernel)
namespace L2
theorem dQ{α β e ε:Type}{p q:α->β->e->ε->Prop}{r:Prop}(h:∃a b c d,p a b c d/\q a b c d)(k:∀a b c d,p a b c d->q a b c d->r):r:=by
 obtain⟨a,b,c,d,x,y⟩:=h;exact k a b c d x y
theorem jZ{α β:Type}{p q r:α->β->Prop}{z:Prop}(h:∃a b,p a b/\q a b/\r a b)(k:∀a b,p a b->q a b->r a b->z):z:=by
 obtain⟨a,b,x,y,w⟩:=h;exact k a b x y w
end L2
local macro_rules|`(tactic|ext)=>`(tactic|kernel_rfl)
set_option Elab.async false
noncomputable section
namespace HD
open PySem PySem.W PySem.Calls PyProof.Rows
abbrev p:Tc:=PySem.Challenge.pw_tablestore_k67_whole_faults
def vm:List SU:=behindTheImports p
noncomputable def S(i:Nat):SU:=match p.main.body[i]? with|some s=>s|none=>.Pass default
def Xz(i j:Nat):SU:=match S i with
 |.ClassDef _ _ _ b _ _ _ _ _ _ _=>(match b[j]? with|some s=>s|none=>.Pass default)
 |s=>s
def pb(s:SU):Arguments:=match s with
 |.FunctionDef _ a _ _ _ _ _ _ _ _=>a
 |_=>⟨[],[],U,[],[],U,[]⟩
def dB(s:SU):List SU:=match s with
 |.FunctionDef _ _ b _ _ _ _ _ _ _=>b
 |_=>[]
noncomputable def Fw(s:SU):Scope:=match s with
 |.FunctionDef _ _ _ _ _ _ sc _ _ _=>sc
 |_=>{kind:=.function,names:=[],isGenerator:=η,isCoroutine:=η}
def fn(s:SU)(n qn:Str)(g:SA)(cl:List<|Str×SA)(d kd doc pm:nE)(an:Option SA)(cd ct:nE)(bl:SA):FuncData:=⟨n,qn,pb s,.stmts<|dB s,Fw s,g,cl,d,kd,doc,pm,an,cd,ct,bl⟩
def wx(s:SU):Str:=match s with
 |.FunctionDef n _ _ _ _ _ _ _ _ _=>n
 |_=>""
def W8(l:TK):Obj:=⟨.type "tuple",U,.seq l.toArray 0,#[]⟩
def tn(t:Nat):SH->TK
 |[]=>[]
 |x::r=>.str x t::tn (t+1) r
noncomputable def tr(k:Int):List (Int×Nat)->TK
 |[]=>[]
 |x::r=>.int x.1 0::.int k 0::.ref x.2::tr k r
def fi(l:TK):Obj:=⟨.none,U,.fields l.toArray,#[]⟩
def W6(s:SU)(m:nE)(c:Nat):Obj:=⟨.type "function",U,.func<|fn s (wx s) (wx s) 3 [] .none .none .none m U (.ref c) .none 0,#[]⟩
def pr(s:SU):Obj:=⟨.none,U,.func<|fn s (wx s) (wx s) 0 [] .none .none .none .none U .none .none 0,#[]⟩
noncomputable def co(n q:Str)(t:Nat)(l a b c d:Int)(v:Nat)(o:Bool)(u:Nat)(x y z:nE)(k:Nat):Obj:=⟨.type "code",U,.fields #[.str n t,.str q<|t+1,.str "/claim/cut.py"<|t+2,.int l 0,.int a 0,.int b 0,.int c 0,.int d 0,.ref v,.bool o,.int 181 0,.ref u,.none,x,y,z,.int k 0,.int l 0,.str "/claim/cut.py"<|k+1],#[]⟩
noncomputable def vL(l:List Obj)(n:Nat):Nat->Nat->Nat->BT
 |0,_,_=>.nil
 |f+1,a,b=>if b<n then .node (l.getD b ⟨.none,U,.plain,#[]⟩) (vL l n f (2*a)<|a+b) (vL l n f (2*a)<|2*a+b)else .nil
noncomputable def Sg(P:Params)(x:Str)(t:Nat)(v:nE):DictEntry:=⟨PyData.keyHash P x,.str x t,v⟩
def u7:Env:={scope:=p.main.scope,locals:=mainNs,globals:=mainNs,cells:=[],code:=(.ref 13),frame:=J 14}
def wU:Code:=.body vm u7
abbrev oo:Pos:=⟨0,0,0,0⟩
def Ya:Obj:=W8 []
def B2:Obj:=fi []
noncomputable def iZ(x0:Nat)(x1:Nat)(x2:Str)(x3:Nat):Obj:=⟨(.type "frame"),U,.plain,#[(J<|.ref x0),(J<|.ref 3),(J<|.ref x1),U,(J<|.str x2 x3),U,(J<|.ref 0)]⟩
def GG(P:Params):List Obj:=[boot_o_0 P,boot_o_1 P,boot_o_2 P,boot_o_3 P,boot_o_4 P,boot_o_5 P,boot_o_6 P,boot_o_7 P,boot_o_8 P,boot_o_9 P,boot_o_10 P,Ya,B2,co "<module>" "<module>" 182 1 0 0 0 0 11 η 12 .none .none .none 185,iZ 13 3 "__main__" 164]
def o4(P:Params):BT:=vL (GG P) 15 12 1 0
theorem alr(w:Sl)(os:OsState):topGo treeTable p w 11 (J<|.ref 6) 12 ⟨boot_heap w.params,jy [],boot_drawn,boot_toks,os⟩ (topStub p)=J ((⟨o4 w.params,15,{},#[],{},187,os⟩:SharedT).abs,⟨denote treeTable wU,wU,⟨0,0,0,0⟩,[topFrame oo]⟩):=by
 rw[PySem.W.Fast.te15667345088766844465,lT,PySem.W.Fast.te11892475500146522536];ext
theorem wd(w:Sl)(os:OsState):segRunT treeTable p w 11 (J<|.ref 6) 1 1 (⟨o4 w.params,15,{},#[],{},187,os⟩:SharedT) (blockOf vm u7 wU ⟨0,0,0,0⟩ [topFrame oo])=J (.next,(⟨o4 w.params,15,{},#[],{},187,os⟩:SharedT),wU,⟨0,0,0,0⟩):=by
 rw[x4,lT];ext
def je:Obj:=⟨(.type "builtin_function_or_method"),U,(.fields #[(.builtin "type.__prepare__"),(.type "type")]),#[]⟩
def pe(P:Params)(x0:Nat)(x1:Str)(x2:Int)(x3:Nat):Obj:=⟨(.type "dict"),U,(.dict #[Sg P "__module__" x0<|.str "tablestore.errors" 187,Sg P "__qualname__" (x0+2)<|.str x1<|x0+1,Sg P "__firstlineno__" (x0+4)<|.int x2<|x0+3,Sg P "__static_attributes__" (x0+5)<|.ref x3] 4),#[]⟩
def FC(x0:Nat)(x1:Nat):Obj:=⟨(.type "getset_descriptor"),U,(.fields #[(.str "__weakref__" x0),(.ref x1),(.builtin "ExceptionGroup.__weakref__"),.none]),#[]⟩
def jz(x0:Nat):Obj:=⟨(.type "super"),U,(.fields #[(.ref x0),(.ref x0),(.ref x0)]),#[]⟩
def jI(x0:Nat):Obj:=⟨(.type "builtin_function_or_method"),U,(.fields #[(.builtin "object.__init_subclass__"),(.ref x0)]),#[]⟩
def vi:Obj:=W8 [.ref 24]
def uZ(P:Params)(x0:Nat)(x1:Int)(x2:Nat):Obj:=⟨(.type "dict"),U,(.dict #[Sg P "__module__" x0<|.str "tablestore.errors" 187,Sg P "__firstlineno__" (x0+4)<|.int x1<|x0+3,Sg P "__static_attributes__" (x0+5)<|.ref x2,Sg P "__doc__" (x0+6) .none] 2),#[]⟩
noncomputable def u0(x0:Str)(x1:Nat)(x2:Nat)(x3:Nat)(x4q:Nat):Obj:=⟨(.type "type"),U,(.cls {name:=x0,bases:=[(.ref 24)],mro:=[(.ref x1),(.ref 24),(.type "ValueError"),(.type "Exception"),(.type "BaseException"),(.type "object")],ns:=x2,qualname:=x0,hasDict:=G,slotNames:=[],subclasses:=[],abstract:=η,collection:=U,hasDel:=η}),#[(J<|.ref x3),U,(J<|.str x0 x4q),(J<|.str x0<|x4q+8),(J<|.builtin "ValueError.__new__"),(J<|.bool G)]⟩
def b0(x0:Nat)(x1:Nat)(x2:Str)(x3:Str):Obj:=⟨.none,U,(.func<|fn (Xz x0 x1) x2 x3 0 [] .none .none .none .none U .none .none 0),#[]⟩
def cb(x0:Nat)(x1:Nat)(x2:Str)(x3:Str)(x4q:Str)(x5q:Nat)(x6q:Nat):Obj:=⟨(.type "function"),U,(.func<|fn (Xz x0 x1) x2 x3 3 [] .none .none .none (.str x4q x5q) U (.ref x6q) .none 0),#[]⟩
def UT:nE:=.str "tablestore.values" 371
def U5:nE:=.str "tablestore.shapes" 414
def Va:nE:=.str "tablestore.words" 443
def n6:nE:=.str "tablestore.asking" 520
def Vb:nE:=.str "law_tablestore_k67_whole_faults" 739
def g0:List SU:=(vm.drop 0).take 83
def XD(i:Nat):Option<|List Str×SH:=localNames (pb<|S i) (Fw<|S i)<|.stmts<|dB<|S i
def FI(i:Nat):Nat:=match S i with
 |.FunctionDef _ _ _ _ _ _ _ _ _ x=>x.line
 |_=>0
def oF(m:nE)(q:Nat×Nat×Nat):List Obj:=let s:=S q.1;let a:=q.2.1;let t:=q.2.2;match XD q.1 with
 |some l=>[Ya,B2,W8<|tn (t+3) l.1,Ya,pr s,co (wx s) (wx s) t (FI q.1) (pb s).args.length 0 0 3 a G (a+1) (.ref<|a+2) (.ref<|a+3) (.ref<|a+4)<|t+3+l.1.length,W6 s m<|a+5]
 |none=>[Ya,B2,pr s,co (wx s) (wx s) t (FI q.1) (pb s).args.length 0 0 3 a G (a+1) .none .none (.ref<|a+2)<|t+3,W6 s m<|a+3]
def gb(i:Nat):Nat×Nat:=match XD i with
 |some l=>(7,6+l.1.length)
 |none=>(5,6)
def ru:Nat->Nat->Nat->Nat->List (Nat×Nat×Nat)
 |0,_,_,_=>[]
 |n+1,i,a,t=>(i,a,t)::ru n (i+1) (a+(gb i).1) (t+(gb i).2)
def oS(P:Params)(q:Nat×Nat×Nat):DictEntry:=Sg P (wx<|S q.1) (q.2.2+(gb q.1).2-1)<|.ref<|q.2.1+(gb q.1).1-1
def oU(q:Nat×Nat×Nat):Int×Nat:=(FI q.1,q.2.1+(gb q.1).1-2)
def r0:=ru 5 13 147 379
def r1:=ru 2 21 179 430
def r2:=ru 7 25 192 456
def r3:=ru 18 40 277 587
def r4:=ru 24 59 403 741
def GR(P:Params):List Obj:=((GG P).set 3<|⟨(.type "dict"),U,(.dict ([Sg P "__name__" 165<|.str "law_tablestore_k67_whole_faults" 739,Sg P "__doc__" 166 .none,Sg P "__package__" 167 .none,Sg P "__loader__" 168<|.builtin "__main__.__loader__#opaque",Sg P "__spec__" 169 .none,Sg P "__annotations__" 170<|.ref 6,Sg P "__builtins__" 171<|.ref 4,Sg P "__file__" 173<|.str "/claim/cut.py" 172,Sg P "__cached__" 174 .none,Sg P "TableError" 206<|.ref 24,Sg P "BadValue" 222<|.ref 37,Sg P "NoTable" 238<|.ref 49,Sg P "NoColumn" 254<|.ref 61,Sg P "BadQuestion" 270<|.ref 73,Sg P "BINDING" 285<|.ref 76,Sg P "Piles" 370<|.ref 142,Sg P "FIGURES" 374<|.str "0123456789" 373,Sg P "MOST_SIGNS_values" 376<|.int 40 375,Sg P "MOST_FIGURES" 378<|.int 18 377]++r0.map (oS P)++[Sg P "NO_NAMES" 427<|.ref 178,Sg P "MOST_LETTERS" 429<|.int 8 428]++r1.map (oS P)++[Sg P "SIGNS" 455<|.ref 191]++r2.map (oS P)++[Sg P "MOST_SIGNS_asking" 523<|.int 900 522,Sg P "MOST_SOURCES" 525<|.int 3 524,Sg P "MOST_COLUMNS" 527<|.int 8 526,Sg P "MOST_TESTS" 529<|.int 20 528,Sg P "MOST_NESTED" 531<|.int 20 530,Sg P "TEST_SIGNS" 538<|.ref 241,Sg P "Reader" 586<|.ref 272]++r3.map (oS P)++r4.map (oS P)).toArray 85),#[]⟩).set 12 (fi<|tr 0<|[(2,20),(4,33),(6,45),(8,57),(10,69),(14,82)]++r0.map oU++r1.map oU++r2.map oU++[(149,247)]++r3.map oU++r4.map oU)++([W8 [.type "ValueError"],je,pe P 196 "TableError" 2 22,Ya,B2,co "TableError" "TableError" 191 2 0 0 0 0 18 η 19 .none .none .none 194,iZ 20 17 "tablestore.errors" 187,Ya,⟨(.type "dict"),U,(.dict #[Sg P "__module__" 196<|.str "tablestore.errors" 187,Sg P "__firstlineno__" 200<|.int 2 199,Sg P "__static_attributes__" 201<|.ref 22,Sg P "__weakref__" 203<|.ref 25,Sg P "__doc__" 204 .none] 3),#[]⟩,⟨(.type "type"),U,(.cls {name:="TableError",bases:=[(.type "ValueError")],mro:=[(.ref 24),(.type "ValueError"),(.type "Exception"),(.type "BaseException"),(.type "object")],ns:=23,qualname:="TableError",hasDict:=G,slotNames:=[],subclasses:=[(.ref 37),(.ref 49),(.ref 61),(.ref 73)],abstract:=η,collection:=U,hasDel:=η}),#[(J<|.ref 15),U,(J<|.str "TableError" 189),(J<|.str "TableError" 197),(J<|.builtin "ValueError.__new__"),(J<|.bool G)]⟩,FC 202 24,jz 24,jI 24,vi,je,pe P 214 "BadValue" 4 35,Ya,B2,co "BadValue" "BadValue" 209 4 0 0 0 0 31 η 32 .none .none .none 212,iZ 33 30 "tablestore.errors" 187,Ya,uZ P 214 4 35,u0 "BadValue" 37 36 28 207,jz 37,jI 37,vi,je,pe P 230 "NoTable" 6 47,Ya,B2,co "NoTable" "NoTable" 225 6 0 0 0 0 43 η 44 .none .none .none 228,iZ 45 42 "tablestore.errors" 187,Ya,uZ P 230 6 47,u0 "NoTable" 49 48 40 223,jz 49,jI 49,vi,je,pe P 246 "NoColumn" 8 59,Ya,B2,co "NoColumn" "NoColumn" 241 8 0 0 0 0 55 η 56 .none .none .none 244,iZ 57 54 "tablestore.errors" 187,Ya,uZ P 246 8 59,u0 "NoColumn" 61 60 52 239,jz 61,jI 61,vi,je,pe P 262 "BadQuestion" 10 71,Ya,B2,co "BadQuestion" "BadQuestion" 257 10 0 0 0 0 67 η 68 .none .none .none 260,iZ 69 66 "tablestore.errors" 187,Ya,uZ P 262 10 71,u0 "BadQuestion" 73 72 64 255,jz 73,jI 73,⟨(.type "dict"),U,(.dict #[Sg P "(" 273<|.int 0 274,Sg P "or" 275<|.int 1 276,Sg P "and" 277<|.int 2 278,Sg P "not" 279<|.int 3 280] 4),#[]⟩,Ya,je,⟨(.type "dict"),U,(.dict #[Sg P "__module__" 293<|.str "tablestore.piles" 271,Sg P "__qualname__" 295<|.str "Piles" 294,Sg P "__firstlineno__" 297<|.int 14 296,Sg P "__init__" 304<|.ref 90,Sg P "add_word" 312<|.ref 97,Sg P "add_tree" 320<|.ref 104,Sg P "add_joint" 328<|.ref 111,Sg P "close_bracket" 335<|.ref 118,Sg P "has_bracket" 342<|.ref 125,Sg P "whole" 349<|.ref 132,Sg P "settle" 360<|.ref 139,Sg P "__static_attributes__" 363<|.ref 140] 12),#[]⟩,Ya,fi<|tr 4 [(16,89),(20,96),(23,103),(26,110),(30,117),(34,124),(37,131),(41,138)],co "Piles" "Piles" 288 14 0 0 0 0 80 η 81 .none .none .none 291,iZ 82 79 "tablestore.piles" 271,Ya,B2,W8<|tn 301 ["self"],Ya,b0 8 0 "__init__" "Piles.__init__",co "__init__" "Piles.__init__" 298 16 1 0 0 3 84 G 85 (.ref 86) (.ref 87) (.ref 88) 302,cb 8 0 "__init__" "Piles.__init__" "tablestore.piles" 271 89,Ya,B2,W8<|tn 308 ["self","word"],Ya,b0 8 1 "add_word" "Piles.add_word",co "add_word" "Piles.add_word" 305 20 2 0 0 3 91 G 92 (.ref 93) (.ref 94) (.ref 95) 310,cb 8 1 "add_word" "Piles.add_word" "tablestore.piles" 271 96,Ya,B2,W8<|tn 316 ["self","tree"],Ya,b0 8 2 "add_tree" "Piles.add_tree",co "add_tree" "Piles.add_tree" 313 23 2 0 0 3 98 G 99 (.ref 100) (.ref 101) (.ref 102) 318,cb 8 2 "add_tree" "Piles.add_tree" "tablestore.piles" 271 103,Ya,B2,W8<|tn 324 ["self","word"],Ya,b0 8 3 "add_joint" "Piles.add_joint",co "add_joint" "Piles.add_joint" 321 26 2 0 0 3 105 G 106 (.ref 107) (.ref 108) (.ref 109) 326,cb 8 3 "add_joint" "Piles.add_joint" "tablestore.piles" 271 110,Ya,B2,W8<|tn 332 ["self"],Ya,b0 8 4 "close_bracket" "Piles.close_bracket",co "close_bracket" "Piles.close_bracket" 329 30 1 0 0 3 112 G 113 (.ref 114) (.ref 115) (.ref 116) 333,cb 8 4 "close_bracket" "Piles.close_bracket" "tablestore.piles" 271 117,Ya,B2,W8<|tn 339 ["self"],Ya,b0 8 5 "has_bracket" "Piles.has_bracket",co "has_bracket" "Piles.has_bracket" 336 34 1 0 0 3 119 G 120 (.ref 121) (.ref 122) (.ref 123) 340,cb 8 5 "has_bracket" "Piles.has_bracket" "tablestore.piles" 271 124,Ya,B2,W8<|tn 346 ["self"],Ya,b0 8 6 "whole" "Piles.whole",co "whole" "Piles.whole" 343 37 1 0 0 3 126 G 127 (.ref 128) (.ref 129) (.ref 130) 347,cb 8 6 "whole" "Piles.whole" "tablestore.piles" 271 131,Ya,B2,W8<|tn 353 ["self","binding","word","tree","first"],Ya,b0 8 7 "settle" "Piles.settle",co "settle" "Piles.settle" 350 41 2 0 0 3 133 G 134 (.ref 135) (.ref 136) (.ref 137) 358,cb 8 7 "settle" "Piles.settle" "tablestore.piles" 271 138,W8<|tn 361 ["trees","waiting"],⟨(.type "dict"),U,(.dict #[Sg P "__module__" 293<|.str "tablestore.piles" 271,Sg P "__firstlineno__" 297<|.int 14 296,Sg P "__init__" 304<|.ref 90,Sg P "add_word" 312<|.ref 97,Sg P "add_tree" 320<|.ref 104,Sg P "add_joint" 328<|.ref 111,Sg P "close_bracket" 335<|.ref 118,Sg P "has_bracket" 342<|.ref 125,Sg P "whole" 349<|.ref 132,Sg P "settle" 360<|.ref 139,Sg P "__static_attributes__" 363<|.ref 140,Sg P "__dict__" 365<|.ref 143,Sg P "__weakref__" 367<|.ref 144,Sg P "__doc__" 368 .none] 4),#[]⟩,⟨(.type "type"),U,(.cls {name:="Piles",bases:=[(.type "object")],mro:=[(.ref 142),(.type "object")],ns:=141,qualname:="Piles",hasDict:=G,slotNames:=[],subclasses:=[],abstract:=η,collection:=U,hasDel:=η}),#[U,U,(J<|.str "Piles" 286),(J<|.str "Piles" 294),(J<|.builtin "object.__new__"),(J<|.bool G)]⟩,⟨(.type "getset_descriptor"),U,(.fields #[(.str "__dict__" 364),(.ref 142),(.builtin "function.__dict__"),(.builtin "function.__dict__#set")]),#[]⟩,FC 366 142,jz 142,jI 142]++(r0.flatMap (oF UT)++([W8<|tn 416 ["and","by","down","from","none","not","or","order","show","take","where"]]++(r1.flatMap (oF U5)++([W8<|tn 445 ["<>","<=",">=","<",">","=",",",".","(",")"]]++(r2.flatMap (oF Va)++([W8<|tn 532 ["=","<>","<","<=",">",">="],Ya,je,⟨(.type "dict"),U,(.dict #[Sg P "__module__" 546<|.str "tablestore.asking" 520,Sg P "__qualname__" 548<|.str "Reader" 547,Sg P "__firstlineno__" 550<|.int 149 549,Sg P "__init__" 558<|.ref 255,Sg P "step" 565<|.ref 262,Sg P "stands" 574<|.ref 269,Sg P "__static_attributes__" 579<|.ref 270] 7),#[]⟩,Ya,fi<|tr 4 [(151,254),(157,261),(160,268)],co "Reader" "Reader" 541 149 0 0 0 0 245 η 246 .none .none .none 544,iZ 247 244 "tablestore.asking" 520,Ya,B2,W8<|tn 554 ["self","text"],Ya,b0 39 0 "__init__" "Reader.__init__",co "__init__" "Reader.__init__" 551 151 2 0 0 3 249 G 250 (.ref 251) (.ref 252) (.ref 253) 556,cb 39 0 "__init__" "Reader.__init__" "tablestore.asking" 520 254,Ya,B2,W8<|tn 562 ["self"],Ya,b0 39 1 "step" "Reader.step",co "step" "Reader.step" 559 157 1 0 0 3 256 G 257 (.ref 258) (.ref 259) (.ref 260) 563,cb 39 1 "step" "Reader.step" "tablestore.asking" 520 261,Ya,B2,W8<|tn 569 ["self","kind","value"],Ya,b0 39 2 "stands" "Reader.stands",co "stands" "Reader.stands" 566 160 3 0 0 3 263 G 264 (.ref 265) (.ref 266) (.ref 267) 572,cb 39 2 "stands" "Reader.stands" "tablestore.asking" 520 268,W8<|tn 575 ["nested","tests","text","word"],⟨(.type "dict"),U,(.dict #[Sg P "__module__" 546<|.str "tablestore.asking" 520,Sg P "__firstlineno__" 550<|.int 149 549,Sg P "__init__" 558<|.ref 255,Sg P "step" 565<|.ref 262,Sg P "stands" 574<|.ref 269,Sg P "__static_attributes__" 579<|.ref 270,Sg P "__dict__" 581<|.ref 273,Sg P "__weakref__" 583<|.ref 274,Sg P "__doc__" 584 .none] 4),#[]⟩,⟨(.type "type"),U,(.cls {name:="Reader",bases:=[(.type "object")],mro:=[(.ref 272),(.type "object")],ns:=271,qualname:="Reader",hasDict:=G,slotNames:=[],subclasses:=[],abstract:=η,collection:=U,hasDel:=η}),#[U,U,(J<|.str "Reader" 539),(J<|.str "Reader" 547),(J<|.builtin "object.__new__"),(J<|.bool G)]⟩,⟨(.type "getset_descriptor"),U,(.fields #[(.str "__dict__" 580),(.ref 272),(.builtin "function.__dict__"),(.builtin "function.__dict__#set")]),#[]⟩,FC 582 272,jz 272,jI 272]++(r3.flatMap (oF n6)++(r4.flatMap<|oF Vb)))))))))
def FF(P:Params):BT:=vL (GR P) 571 12 1 0
def kS(w:Sl)(os:OsState):Prop:=segRunT treeTable p w 11 (J<|.ref 6) 1 3750 (⟨o4 w.params,15,{},#[],{},187,os⟩:SharedT) (piecesOf g0 u7 wU ⟨0,0,0,0⟩ [topFrame oo])=J (.next,(⟨FF w.params,571,{},#[],{},956,os⟩:SharedT),wU,⟨499,0,518,93⟩)
theorem akz(w:Sl)(os:OsState):kS (w.withFollow "special-get-raises" η) os:=by
 unfold kS;rw[x4,lT];ext
theorem akA(w:Sl)(os:OsState):kS (w.withFollow "special-get-raises" G) os:=by
 unfold kS;rw[x4,lT];ext
theorem aky(w:Sl)(os:OsState):segRunT treeTable p w 11 (J<|.ref 6) 1 3750 (⟨o4 w.params,15,{},#[],{},187,os⟩:SharedT) (piecesOf g0 u7 wU ⟨0,0,0,0⟩ [topFrame oo])=J (.next,(⟨FF w.params,571,{},#[],{},956,os⟩:SharedT),wU,⟨499,0,518,93⟩):=byRow2 "special-get-raises" (P:=fun w=>kS w os) (fun w=>akz w os) (fun w=>akA w os) w
abbrev Xa(P:Params):List Obj:=GR P
def H1(P:Params):Heap:=⟨jy<|Xa P,{}⟩
abbrev sf(w:Sl)(os:OsState):ID:=⟨H1 w.params,#[],{},956,os⟩
theorem alu(w:Sl)(os:OsState):topRun treeTable p w 11 (J<|.ref 6) 2 (⟨FF w.params,571,{},#[],{},956,os⟩:SharedT).abs ⟨doneF .next,wU,⟨499,0,518,93⟩,[topFrame oo]⟩=J (sf w os):=by
 rw[PySem.W.Fast.te14082659384304107361,lT];ext
theorem aip:vm=g0++([]):=by ext
theorem run(w:Sl)(os:OsState):topRun treeTable p w 11 (J<|.ref 6) (12+(1+(3750+2))) ⟨boot_heap w.params,jy [],boot_drawn,boot_toks,os⟩ (topStub p)=J (sf w os):=
 go_top (n:=12) (alr w os) (piece_block (n:=1) (segRun_of<|wd w os)<|aip▸piece_app (n:=3750) (l:=g0) (segRun_of<|aky w os) (piece_nil<|alu w os))
noncomputable def q:Tc:=view p [1,2,3,4,5,7,8,10,11,12,13,14,15,16,17,19,20,21,22,24,25,26,27,28,29,30,31,33,34,35,36,37,38,39,40,41,42,43,44,45,46,47,48,49,50,51,52,53,54,55,56,57,59,60,61,62,63,64,65,66,67,68,69,70,71,72,73,74,75,76,77,78,79,80,81,82]
theorem aiR(w:Sl):(fencedOpening treeTable p w 7624).map (fun s=>(s.heap,s.gens,s.drawn,s.toks))=J (boot_heap w.params,jy [],boot_drawn,boot_toks):=
 boot_open (by ext) (by decide) (fun s=>by ext) w
theorem size(w:Sl):((boot_heap w.params).isNs mainGlobals&&(jy []:Array GenState).size==0,(boot_heap w.params).objs.size,(boot_heap w.params).nsMap mainGlobals "__annotations__")=(G,11,(J<|.ref 6)):=by
 ext
theorem k0(w:Sl)(os:OsState):(staticsOk (importedModules p.main.body) (boot_heap w.params) (H1 w.params)&&namesBound p (H1 w.params)&&gensDone (sf w os)&&laidKept (boot_heap w.params) (H1 w.params))=G:=by ext
theorem k1(w:Sl)(os:OsState):seen ((recsOf q).map (·.name)) (ownsOf q) [] {(sf w os)with gens:=#[]}=expectedOf q:=by
 ext
theorem k2(w:Sl)(os:OsState):(sf w os).heap.bltView=bltViewBooted:=by
 ext
theorem k3(w:Sl)(os:OsState):((sf w os).heap.keysOk (looseW q ["BINDING"]) ((recsOf q).map (·.name)) ((litsOf q).map (·.1)) ((clssOf q<|looseW q ["BINDING"]).map (·.name))&&(sf w os).heap.accountedOkI (importedModules p.main.body)&&(sf w os).heap.isNs mainGlobals&&(sf w os).heap.isNs builtinsNs&&tablesOk q (sf w os).heap&&(xlAt q [] (sf w os)&&recOk [] (sf w os))&&(if G then(sf w os).gens.size==0 else !leftWithCleanup (sf w os).gens))=G:=by
 ext
theorem k4(w:Sl)(os:OsState):tabsOk q (sf w os)=G:=by
 ext
theorem k5(w:Sl)(os:OsState):pinSeenD q (drecsOf q) (sf w os)=pinGoodD (drecsOf q):=by
 ext
theorem Ez(w:Sl)(os:OsState):plainSeenE q (looseW q ["BINDING"]) (sf w os)=plainGoodE q (looseW q ["BINDING"]):=by
 ext
theorem alc(w:Sl)(os:OsState):plainSeenD q ["BINDING"] (sf w os)=plainGoodD q ["BINDING"]:=by
 ext
theorem ald(w:Sl)(os:OsState):wideSeen q (sf w os)=wideGood q:=by
 ext
theorem ale(w:Sl)(os:OsState):clsSeenW q ["BINDING"] (sf w os)=clsGoodW q ["BINDING"]:=by
 ext
def ad:Sf:=e6 571
def K(P:Params):Frag:=ad.zip<|Xa P
theorem alf(w:Sl)(os:OsState):X.obsZ ad (sf w os)=X.valZ K 571 956 w:=by ext
theorem Os:LeftO p q ["BINDING"] (fun s=>xlAt q [] s&&recOk [] s) (X.obsZ ad) (X.valZ K 571 956) 7624:=
 LeftO.of_pieces (H₀:=boot_heap) (H₁:=H1) (gs₀:=jy []) (gs₁:=#[]) (d₀:=boot_drawn) (d₁:={}) (k₀:=boot_toks) (k₁:=956) (m₀:=11) (ann:=(J<|.ref 6)) (M:=(12+(1+(3750+2)))) aiR size run (by decide) fun w=>funext fun os=>looks_pair (k0 w os)<|looks_pair (looks_pair (k1 w os)<|looks_pair (k2 w os)<|looks_pair (k3 w os)<|looks_pair (k4 w os)<|looks_pair (k5 w os)<|looks_pair (Ez w os)<|looks_pair (alc w os)<|looks_pair (ald w os)<|ale w os)<|alf w os
def akZ(s:SU):Pos:=match s with
 |.FunctionDef _ _ _ _ _ _ _ _ _ x=>x
 |_=>default
def d:DefRec:=⟨"law",pb<|S 82,dB<|S 82,Fw<|S 82,akZ<|S 82⟩
theorem aly:namesResolve p=G:=by ext
theorem alz:namesMeet p p.main.body (fun _ n=>attrL n)=G:=by ext
theorem lo:looksOpen p=G:=by
 unfold looksOpen;rw[aly,alz,Bool.and_true];ext
theorem acu:PySem.Challenge.rw_tablestore_k67_whole_faults.row.partSaid=G:=by
 unfold OpenRow.partSaid;rw[show looksOpen PySem.Challenge.rw_tablestore_k67_whole_faults.row.toRowW.prog=G from lo];ext
theorem ws:PySem.Challenge.rw_tablestore_k67_whole_faults.wellSaid=G:=by
 unfold OpenLaw.wellSaid OpenRow.wellSaid;rw[acu];ext
theorem ajD(hc:WalkX q ["BINDING"] (XL q []) (X.obsZ ad) (X.valZ K 571 956) PySem.Challenge.rw_tablestore_k67_whole_faults.row.toRowW d [] fun f vs=>uK f vs):PySem.Challenge.rw_tablestore_k67_whole_faults.Holds:=by
 refine holds_law ws fun said=>?_;refine holds_openX (q:=q) (loose:=["BINDING"]) (Xt:=fun s=>xlAt q [] s&&recOk [] s) (XP:=XL q []) (N:=7624) Os (fun s e=>xl_of s (lB.mp e).1) XL.keeps (d:=d) (kwd:=[]) (by ext) (by ext) (by ext) (fun s e=>recFacts_of (lB.mp e).2) (by rfl) said (by trivial) ⟨rfl,rfl,rfl,rfl,rfl,by trivial⟩ ?hw hc
 case hw=>w_witness2
end HD
end
noncomputable section
set_option hygiene false
local macro_rules|`(tactic|left)=>`(tactic|refine Classical.byContradiction fun q_=>?_)
local macro_rules|`(tactic|right)=>`(tactic|refine q_ ?_)
local macro_rules|`(tactic|cbv)=>`(tactic|split at h)
local macro_rules|`(tactic|nofun)=>`(tactic|cases h)
local macro_rules|`(tactic|mleft)=>`(tactic|exact h.elim)
local macro_rules|`(tactic|mstop)=>`(tactic|replace h:=bY.mp h)
local macro_rules|`(tactic|mright)=>`(tactic|simp_all)
open scoped Lean.Order
local macro_rules|`(∅)=>`(by simp)
local macro_rules|`(⊥)=>`(by lia)
local macro_rules|`(⊤)=>`(by trivial)
local macro_rules|`(∎)=>`(by decide)
local macro_rules|`(#[0])=>`((UA X.prog X.w))
local macro_rules|`(#[1])=>`((X.fn x=G\/X.env.scope.names.lookup x=J .local))
local macro_rules|`(#[2])=>`((x==("__classdict__":Str)))
local macro_rules|`(#[3])=>`((.Call (.Name x p) (e::es) [] pos))
local macro_rules|`(#[4])=>`((.ListComp elt [⟨tg,iter,ifs,0⟩] scope pos))
local macro_rules|`(#[5])=>`((aj (cl.flatten++as) H))
local macro_rules|`(#[6])=>`((apos.endLine==cpos.line))
local macro_rules|`(#[7])=>`((by walk_at "kq"))
local macro_rules|`($a<|>$b)=>`(autoParam $a $b)
set_option hygiene true
theorem Xl{a b c d:Prop}{r:Prop}(h:a/\b/\c/\d)(k:a->b->c->d->r):r:=by grind
theorem uf{a b c d e:Prop}{r:Prop}(h:a/\b/\c/\d/\e)(k:a->b->c->d->e->r):r:=by grind
theorem n4{a b c d e f:Prop}{r:Prop}(h:a/\b/\c/\d/\e/\f)(k:a->b->c->d->e->f->r):r:=by grind
theorem xT{a b c d e f g i:Prop}{r:Prop}(h:a/\b/\c/\d/\e/\f/\g/\i)(k:a->b->c->d->e->f->g->i->r):r:=by grind
theorem xW{a b c d e f g i j:Prop}{r:Prop}(h:a/\b/\c/\d/\e/\f/\g/\i/\j)(k:a->b->c->d->e->f->g->i->j->r):r:=by grind
theorem srt{α β γ δ}{a b c d e:α->β->γ->δ->Prop}{r:Prop}(h:∃x y z u,a x y z u/\b x y z u/\c x y z u/\d x y z u/\e x y z u)(k:∀x y z u,a x y z u->b x y z u->c x y z u->d x y z u->e x y z u->r):r:=by
 obtain⟨x,y,z,u,A,B,C,D,E⟩:=h;exact k x y z u A B C D E
theorem Hn{a b c d e f g:Prop}{r:Prop}(h:a/\b/\c/\d/\e/\f/\g)(k:a->b->c->d->e->f->g->r):r:=by
 obtain⟨A,B,C,D,E,F,G⟩:=h;exact k A B C D E F G
theorem gL{α}{a b c:α->Prop}{r:Prop}(h:∃x,a x/\b x/\c x)(k:∀x,a x->b x->c x->r):r:=by grind
theorem gR{α}{a b c d:α->Prop}{r:Prop}(h:∃x,a x/\b x/\c x/\d x)(k:∀x,a x->b x->c x->d x->r):r:=by grind
theorem gS{α}{a b c d e:α->Prop}{r:Prop}(h:∃x,a x/\b x/\c x/\d x/\e x)(k:∀x,a x->b x->c x->d x->e x->r):r:=by grind
theorem c6{α}{a b c d e f:α->Prop}{r:Prop}(h:∃x,a x/\b x/\c x/\d x/\e x/\f x)(k:∀x,a x->b x->c x->d x->e x->f x->r):r:=by grind
theorem X7{α β}{a b:α->β->Prop}{r:Prop}(h:∃x y,a x y/\b x y)(k:∀x y,a x y->b x y->r):r:=by grind
theorem Tw{α β}{a b c:α->β->Prop}{r:Prop}(h:∃x y,a x y/\b x y/\c x y)(k:∀x y,a x y->b x y->c x y->r):r:=by grind
theorem US{α β}{a b c d:α->β->Prop}{r:Prop}(h:∃x y,a x y/\b x y/\c x y/\d x y)(k:∀x y,a x y->b x y->c x y->d x y->r):r:=by grind
theorem y2{α β}{a b c d e:α->β->Prop}{r:Prop}(h:∃x y,a x y/\b x y/\c x y/\d x y/\e x y)(k:∀x y,a x y->b x y->c x y->d x y->e x y->r):r:=by grind
theorem XX{α β}{a b c d e f:α->β->Prop}{r:Prop}(h:∃x y,a x y/\b x y/\c x y/\d x y/\e x y/\f x y)(k:∀x y,a x y->b x y->c x y->d x y->e x y->f x y->r):r:=by grind
theorem HU{α β γ}{a:α->β->γ->Prop}{r:Prop}(h:∃x y z,a x y z)(k:∀x y z,a x y z->r):r:=by grind
theorem WM{α β γ}{a b c:α->β->γ->Prop}{r:Prop}(h:∃x y z,a x y z/\b x y z/\c x y z)(k:∀x y z,a x y z->b x y z->c x y z->r):r:=by grind
theorem c7{α β γ}{a b c d:α->β->γ->Prop}{r:Prop}(h:∃x y z,a x y z/\b x y z/\c x y z/\d x y z)(k:∀x y z,a x y z->b x y z->c x y z->d x y z->r):r:=by grind
theorem rm{α β γ}{a b c d e:α->β->γ->Prop}{r:Prop}(h:∃x y z,a x y z/\b x y z/\c x y z/\d x y z/\e x y z)(k:∀x y z,a x y z->b x y z->c x y z->d x y z->e x y z->r):r:=by grind
theorem rA{α β γ}{a b c d e f g:α->β->γ->Prop}{r:Prop}(h:∃x y z,a x y z/\b x y z/\c x y z/\d x y z/\e x y z/\f x y z/\g x y z)(k:∀x y z,a x y z->b x y z->c x y z->d x y z->e x y z->f x y z->g x y z->r):r:=by grind
theorem y8{α β γ δ}{a b:α->β->γ->δ->Prop}{r:Prop}(h:∃x y z u,a x y z u/\b x y z u)(k:∀x y z u,a x y z u->b x y z u->r):r:=by grind
theorem yF{α β γ δ}{a b c d:α->β->γ->δ->Prop}{r:Prop}(h:∃x y z u,a x y z u/\b x y z u/\c x y z u/\d x y z u)(k:∀x y z u,a x y z u->b x y z u->c x y z u->d x y z u->r):r:=by grind
theorem gU{α β γ δ ε}{a b c d:α->β->γ->δ->ε->Prop}{r:Prop}(h:∃x y z u v,a x y z u v/\b x y z u v/\c x y z u v/\d x y z u v)(k:∀x y z u v,a x y z u v->b x y z u v->c x y z u v->d x y z u v->r):r:=by grind
theorem c9{α β γ δ ε}{a b c d e f:α->β->γ->δ->ε->Prop}{r:Prop}(h:∃x y z u v,a x y z u v/\b x y z u v/\c x y z u v/\d x y z u v/\e x y z u v/\f x y z u v)(k:∀x y z u v,a x y z u v->b x y z u v->c x y z u v->d x y z u v->e x y z u v->f x y z u v->r):r:=by grind
theorem UZ{α β γ δ ε ζ}{a b:α->β->γ->δ->ε->ζ->Prop}{r:Prop}(h:∃x y z u v w,a x y z u v w/\b x y z u v w)(k:∀x y z u v w,a x y z u v w->b x y z u v w->r):r:=by grind
theorem Vc{α β γ δ ε ζ}{a b c:α->β->γ->δ->ε->ζ->Prop}{r:Prop}(h:∃x y z u v w,a x y z u v w/\b x y z u v w/\c x y z u v w)(k:∀x y z u v w,a x y z u v w->b x y z u v w->c x y z u v w->r):r:=by grind
theorem TB{α:Type}{P:List α->Prop}(h:P [])(g:∀a l,P l->P (a::l)):∀l,P l:=List.rec h g
theorem X5{P:Nat->Prop}(h:P 0)(g:∀n,P n->P (n+1)):∀n,P n:=Nat.rec h g
theorem Z46{α β γ δ}{a b c d e f:α->β->γ->δ->Prop}{r:Prop}(h:∃x y z u,a x y z u/\b x y z u/\c x y z u/\d x y z u/\e x y z u/\f x y z u)(k:∀x y z u,a x y z u->b x y z u->c x y z u->d x y z u->e x y z u->f x y z u->r):r:=by grind
theorem Z67{α β γ δ ε ζ}{a b c d e f g:α->β->γ->δ->ε->ζ->Prop}{r:Prop}(h:∃x y z u v w,a x y z u v w/\b x y z u v w/\c x y z u v w/\d x y z u v w/\e x y z u v w/\f x y z u v w/\g x y z u v w)(k:∀x y z u v w,a x y z u v w->b x y z u v w->c x y z u v w->d x y z u v w->e x y z u v w->f x y z u v w->g x y z u v w->r):r:=by grind
theorem Xaq(h:True:=by rfl):True:=h
def Rv:Lean.Syntax:=Xaq._auto_1
theorem Xaj(h:True:=by decide):True:=h
def Sm:Lean.Syntax:=Xaj._auto_1
theorem Xbq(h:True:=by walk_at "tok"):True:=h
def XW:Lean.Syntax:=Xbq._auto_1
theorem Xbj(h:True:=by walk_at"u"):True:=h
def XN:Lean.Syntax:=Xbj._auto_1
theorem Xcq(h:True:=by walk_at"v"):True:=h
def uO:Lean.Syntax:=Xcq._auto_1
theorem Xcj(h:True:=by intro _;rfl):True:=h
def uN:Lean.Syntax:=Xcj._auto_1
theorem Xdq(h:True:=by exact fun _=>rfl):True:=h
def gK:Lean.Syntax:=Xdq._auto_1
theorem Xdj(h:True:=by exact fun _ _=>rfl):True:=h
def k7:Lean.Syntax:=Xdj._auto_1
theorem Xeq(h:True:=by simp):True:=h
def xI:Lean.Syntax:=Xeq._auto_1
theorem Xej(h:True:=by exact⟨rfl,rfl⟩):True:=h
def xB:Lean.Syntax:=Xej._auto_1
namespace L2
open PySem Sem
theorem lI(h:Runs M Γ p t fs s e s'):s.toks<=s'.toks:=by
 induction h<;>first
  |rfl
  |assumption
  |(rename_i c;exact Nat.le_of_succ_le c)
  |(rename_i a b;exact RW a b)
  |grind
theorem wp_toks{i:X->Pos->ID->Prop}(M:Model)(j:Ctx)(e:Sem X)(pos:Pos)(sh:ID)(d:n<=sh.toks)
  (qm:wp M j e (fun x p s=>n<=s.toks->i x p s) (fun x p s=>n<=s.toks->exc x p s) pos sh):wp M j e i exc pos sh:=by
 revert qm d
 induction e generalizing pos sh with
 |pure x=>mright
 |raise v=>mright
 |unsupported|finish|yield|fork|await|register=>exact fun _ h=>h
 |rule _ k b|«at» _ k b|alloc _ k b|loadIfAlive _ k b|point _ k b|ask k b|os _ _ k b|handled _ k b|newGen _ k b|stack k b|thread k b=>mright
 |fresh k b=>exact fun d h=>b _ _ _ (nJ d) h
 |load a _ k b|genState a k b=>exact fun d⟨o,ho,h⟩=>⟨o,ho,b _ _ _ d h⟩
 |update a _ f k b|choose _ _ k b=>exact fun d⟨ha,h⟩=>⟨ha,b _ _ _ d h⟩
 |call c h g l k b=>exact fun d t=>X7 t fun r s' w y=>⟨r,s',w,b r pos s' (RW d<|lI w) y⟩
 | resume g r l k b=>exact fun d  t=>X7 t fun u s' hw h=>⟨u,s',hw,b _ _ _ (RW d ((by
   unfold Wakes at hw;split at hw
   .exact hw.elim
   .split at hw
    .obtain⟨e1,m,h1,_,_,rfl⟩:=hw;have q:=lI h1;exact q
    .mright
    .rw[hw.2];exact mK _
   .obtain⟨e1,m,h1,_,_,rfl⟩:=hw;have q:=lI h1;exact q
   .mright
   grind))) h⟩
theorem aO{t:Sem α}{Q:α->ID->Prop}(c:n<=s.toks)
  (h:SN M A t (fun v s'=>n<=s'.toks->Q v s') (fun e s'=>n<=s'.toks->E e s') s):SN M A t Q E s:=fun b p a=>wp_toks M b t p s c<|h b p a
theorem dk(b:n<=s.toks)(h:qq M A c (fun r s'=>n<=s'.toks->R r s') s):qq M A c R s:=fun d p e a=>
 let⟨r,s',hr,hR⟩:=h d p e a
 ⟨r,s',hr,hR<|RW b<|lI hr⟩
end L2
namespace L2
open PySem PySem.Spec PyProof.Rows
inductive Key where
 |inl (i:Int)|inr (x:Str)|nn
 deriving DecidableEq
noncomputable def vn:Key->nE->Bool
 |.inl k,v=>Value.isInt k v
 |.inr x,v=>Value.isStrOf x v
 |.nn,v=>match v with
  |.none=>G
  |_=>η
def abB(w:Sl):Key->Int
 |.inl k=>hashInt k
 |.inr x=>hashStr w x
 |.nn=>4238894112
theorem bS:∀{k:Key}{v:nE},vn k v=G->(∃i t,k=Key.inl i/\v=uh i t)\/(∃x t,k=Key.inr x/\v=Value.str x t)\/(k=Key.nn/\v=Yk)
 |.inl i,v,h=>by
  obtain⟨t,e⟩:=Value.isInt_shape h
  exact .inl ⟨i,t,rfl,e⟩
 |.inr x,v,h=>by
  obtain⟨t,e⟩:=Value.isStrOf_shape h
  exact .inr (.inl ⟨x,t,rfl,e⟩)
 |.nn,v,h=>by
  cases v with
  |none=>grind
  |_=>exact nomatch h
theorem DJ(i:Int)(t:Tok):vn (.inl i) (.int i t)=G:=by simp[vn,Value.isInt]
theorem D5(x:Str)(t:Tok):vn (.inr x) (.str x t)=G:=by simp[vn,Value.isStrOf]
theorem Q8(a b:Int):decide ((Key.inl a:Key)=Key.inl b)=(a==b):=by
 grind
theorem aa1(a b:Str):decide ((Key.inr a:Key)=Key.inr b)=decide (a=b):=by
 mright
theorem aae(a:Int)(b:Str):decide ((Key.inl a:Key)=Key.inr b)=η:=TU (fun q=>nomatch q)
theorem PQ(a:Str)(b:Int):decide ((Key.inr a:Key)=Key.inl b)=η:=TU (fun q=>nomatch q)
theorem II(h:Q 4238894112 {s with toks:=s.toks+1}):SN (UA prog w) A (PySem.pyHash .none) Q E s:=by
 refine iF ?_;refine U4 ?_;have a:s.TypeIs .none "NoneType":=rfl;refine iF<|wpAny_specialOf a rQ.lookup ?_;refine iF<|wpAny_specialOf a rQ.lookup ?_;refine iF (wpAny_callSpecialIfBoundUnlessNone?_slot a rQ
  (als rQ a PySem.F.entry_NoneType_hash
   ((wpAny_ret_mkInt ?_)) (PySem.F.args_NoneType_hash_1 _)))
 exact U4 h
def dE(prog:Tc)(w:Sl):PySem.KeyKind prog w Key where
 is:=vn
 hash:=abB w
 inj:=fun v a b f g=>by
  rcases bS f with⟨i,t,rfl,rfl⟩|⟨x,t,rfl,rfl⟩|⟨rfl,rfl⟩<;>rcases bS g with⟨j,u,rfl,e⟩|⟨y,u,rfl,e⟩|⟨rfl,e⟩<;>first|rfl|(cases e;rfl)|cases e
 byValue:=fun k v h=>by
  rcases bS h with⟨i,t,rfl,rfl⟩|⟨x,t,rfl,rfl⟩|⟨rfl,rfl⟩<;>rfl
 pyHash:=fun c h=>by
  rcases bS c with⟨i,t,rfl,rfl⟩|⟨x,t,rfl,rfl⟩|⟨rfl,rfl⟩
  .exact wpAny_pyHash_int h
  .exact wpAny_pyHash_str h
  .exact II h
 eqBool:=fun d c h=>by
  rcases bS d with⟨i,t,rfl,rfl⟩|⟨x,t,rfl,rfl⟩|⟨rfl,rfl⟩
  .rcases bS c with⟨j,u,rfl,rfl⟩|⟨y,u,rfl,rfl⟩|⟨rfl,rfl⟩
   .rw[Q8]at h;exact wpAny_eqBool_int h
   .rw[aae]at h;exact NA i t y u _ _ _ _ h
   .exact QH i t _ _ _ _ h
  .rcases bS c with⟨j,u,rfl,rfl⟩|⟨y,u,rfl,rfl⟩|⟨rfl,rfl⟩
   .rw[PQ]at h;exact NG x t j u _ _ _ _ h
   .rw[aa1]at h;exact wpAny_eqBool_str h
   .exact QI x t _ _ _ _ h
  .rcases bS c with⟨j,u,rfl,rfl⟩|⟨y,u,rfl,rfl⟩|⟨rfl,rfl⟩
   .exact QS j u _ _ _ _ h
   .exact QX y u _ _ _ _ h
   .exact SE _ _ _ _ _ h
 «strs»:=fun k x t v h=>by
  rcases bS h with⟨i,u,rfl,e⟩|⟨y,u,rfl,e⟩|⟨rfl,e⟩
  .exact nomatch e
  .injection e with e1 _
   subst e1;cases v<;>rfl
  .exact nomatch e
inductive V where
 |S9|bl (b:Bool)|int (i:Int)|str (x:Str)|X4 (b:Array UInt8)|xH (b:UInt64)|ref (a:SA)|ty (n:String)
 deriving DecidableEq
abbrev Se:=List V
def aP:V->nE->Prop
 |.S9,u=>u=Yk
 |.bl b,u=>u=Value.bool b
 |.int i,u=>∃t,u=uh i t
 |.str x,u=>∃t,u=Value.str x t
 |.X4 b,u=>∃t,u=Value.bytes b t
 |.xH b,u=>∃t,u=Value.float b t
 |.ref a,u=>u=WU a
 |.ty n,u=>u=Value.type n
abbrev aU:Se->TK->Prop:=Paired aP
theorem aU.length(r:aU xs us):xs.length=us.length:=Paired.length r
theorem aU.get:∀{xs:Se}{us:TK}{i:Nat}{x:V},aU xs us->xs[i]?=J x->∃u,us[i]?=J u/\aP x u
 |_,_,_,_,.nil,e=>by simp at e
 |_,_,0,_,.cons r _,e=>by grind
 |_,_,i+1,x,.cons _ t,e=>by
  obtain⟨u,h1,h2⟩:=aU.get t (by simpa using e);mright
theorem aU.set{x:V}{u:nE}(r:aP x u):∀{xs:Se}{us:TK}(i:Nat),aU xs us->aU (xs.set i x) (us.set i u)
 |_,_,_,.nil=>.nil
 |_,_,0,.cons _ t=>.cons r t
 |_,_,i+1,.cons q t=>.cons q<|aU.set r i t
theorem aU.append{ys:Se}{ws:TK}(h:aU xs us)(s:aU ys ws):aU (xs++ys) (us++ws):=by
 induction h with
 |nil=>exact s
 |cons r _ i=>exact .cons r i
theorem aU.take:∀{xs:Se}{us:TK}(n:Nat),aU xs us->aU (xs.take n) (us.take n)
 |_,_,0,_=>.nil
 |_,_,_+1,.nil=>.nil
 |_,_,n+1,.cons r t=>.cons r<|aU.take n t
theorem aU.drop:∀{xs:Se}{us:TK}(n:Nat),aU xs us->aU (xs.drop n) (us.drop n)
 |_,_,0,r=>r
 |_,_,_+1,.nil=>.nil
 |_,_,n+1,.cons _ t=>aU.drop n t
def pE:Option V->Option nE->Prop
 |some v,J u=>aP v u
 |none,U=>True
 |_,_=>False
def KV{κ:Type}:List (κ×V)->List (κ×nE)->Prop:=Paired fun(p:κ×V)(q:κ×nE)=>p.1=q.1/\aP p.2 q.2
noncomputable def kV:Key->V
 |.inl i=>.int i
 |.inr x=>.str x
 |.nn=>.S9
inductive HO where
 /-- a list -/
 |lst (xs:Se)
 /-- a tuple (never changes) -/
 |tup (xs:Se)
 /-- a dict whose keys are ints and BF;one whose keys are tuples of ints and BF (the empty one is both) -/
 |dK (kvs:List<|Key×V)|dT (kvs:List<|List Key×V)
 /-- a set of ints: aV members,aV size -/
 |set (S:Int->Bool) (n:Nat)
 /-- an instance of the class at C,aV dict at dx,aV attributes -/
 |ins (C dx:SA) (fs:List<|Str×V)
 /-- the dict of the instance at x -/
 |own (x:SA)
 /-- the dict of an exception -/
 |xd (fs:List<|Str×V)
 /-- a bound method,f of x -/
 |met (f x:SA)
 /-- a range object lo,lo+1,.. below hi -/
 |GX (lo hi:Int)
 /-- a thing that is qm to the object (the script;a dict while a loop walks it): read,never Bt while it is so -/
 |WC (o:Obj) (u:HO)
 /-- a code object's table -/
 |UX (q:Str)
 /-- any other thing,by what is G of aV one object (a def of one's own: SetO a S n:=HO.ext fun h=>..) -/
 |ext (φ:T3->Prop)
abbrev Hp:=SA->Option HO
def br(H:Hp)(a:SA)(o:HO):Hp:=fun b=>if b=a then J o else H b
theorem aE:br H a o a=J o:=by unfold br;rw[SI rfl]
theorem aG(h:b≠a):br H a o b=H b:=by unfold br;rw[SM h]
theorem amc{H:Hp}(h:H a=J o)(h':H b=J u)(d:o≠u):a≠b:=by
 intro e;mright
theorem bc{H:Hp}(h:H a=J o)(h':H b=U):a≠b:=by
 grind
section
variable(P:Tc)(w:Sl)
def fK(H:Hp)(h:T3)(a:SA):HO->Prop
 |.lst xs=>xs.length<=Ta/\∃(aV:TK)(n:Nat),aU xs aV/\h.get? a=J {cls:=.type "list",data:=.seq aV.toArray n}
 |.tup xs=>xs.length<=Ta/\∃aV:TK,aU xs aV/\IsTup h a aV.toArray
 |.dK kvs=>kvs.length<=Ta/\(a==zL)=η/\∃vs,KV kvs vs/\h.DictOf (dE P w) a vs
 | .dT kvs=>kvs.length<=Ta/\(a==zL)=η/\∃ xs:List (List Key×SA×nE),
   Paired (fun(p:List Key×V)(q:List Key×SA×nE)=>p.1=q.1/\H q.2.1=J (.tup<|p.1.map kV)/\aP p.2 q.2.2) kvs xs /\
   ∃o es e,h.get? a=J o/\o.ExactDict/\o.data=.dict es e/\es.toList=xs.map (entryOfKey<|tupleKind<|dE P w)/\(xs.map (·.1)).Nodup
 |.set S n=>h.SetOf (intKind P w) a S n
 | .ins C dx fs=>H dx=J (.own a)/\fs.length<=1000/\dx≠a/\h.get? a=J (mH C dx) /\
   ∃mA,h.Ns1 dx mA/\(∀f,pE (fs.lookup f)<|mA f)/\Bf mA (fs.map (·.1))
 |.own _=>∃o,h.get? a=J o
 |.xd fs=>∃mA,h.Ns1 a mA/\∀f,pE (fs.lookup f)<|mA f
 |.GX lo hi=>∃t u v,h.get? a=J {cls:=.type "range",data:=.fields #[.int lo t,.int hi u,.int 1 v]}
 |.WC o u=>h.get? a=J o/\fK H h a u
 |.UX q=>∃ps,h.get? a=J (ik ps)/\TriplesOk ps.toList/\∀pos b,codeAmong pos ps.toList=J b->∃c d vs t,b=.ref c/\H c=J (.WC d<|.own a)/\d.data=.fields vs/\vs[1]?=J (.str q t)
 |.met f x=>h.get? a=J (PySem.W.methodObj (.ref f)<|.ref x)
 |.ext φ=>φ h/\(∃o,h.get? a=J o)/\∀h1 h2:T3,φ h1->(∀o,h1.get? a=J o->h2.get? a=J o)->φ h2
def nW(H:Hp)(h:T3):Prop:=∀a o,H a=J o->fK P w H h a o
end
section
variable{a:SA}
theorem fK.lt(x:fK P w H h a o):a<h.objs.size:=by
 cases o with
 |lst xs=>obtain⟨_,_,_,_,e⟩:=x;exact Tn e
 |tup xs=>obtain⟨_,_,_,p⟩:=x;exact p.lt
 |dK b=>obtain⟨_,_,_,_,o,_,_,e,_⟩:=x;exact Tn e
 |dT b=>obtain⟨_,_,_,_,o,_,_,e,_⟩:=x;exact Tn e
 |set S n=>refine y8 x fun o _ _ _ e _=>?_;exact Tn e
 |ins C c fs=>refine uf x fun _ _ _ e _=>?_;exact Tn e
 |own y=>obtain⟨_,e⟩:=x;exact Tn e
 |xd fs=>obtain⟨_,⟨_,_,_,e,_⟩,_⟩:=x;exact Tn e
 |GX lo d=>obtain⟨_,_,_,e⟩:=x;exact Tn e
 |WC g u=>obtain⟨e,_⟩:=x;exact Tn e
 |UX q=>obtain⟨_,e,_⟩:=x;exact Tn e
 |met f y=>exact Tn<|(x)
 |ext φ=>obtain⟨_,⟨_,e⟩,_⟩:=x;exact Tn e
theorem Paired.Wi{F SK:α->β->Prop}{d:List α}{c:List β}(h:Paired F d c)(f:∀a b,F a b->SK a b):Paired SK d c:=by
 induction h with
 |nil=>exact .nil
 |cons r _ i=>exact .cons (f _ _ r) i
def Hl(H:Hp)(b:SA)(u:HO):Prop:=H b=J u/\match u with
 |.tup _=>True
 |.WC _ _=>True
 |_=>False
theorem fK.zY(x:fK P w H h a o)(k:∀b u,(b=a\/H b=J (.own a))->h.get? b=J u->h'.get? b=J u)
  (M:∀b,H b=J (.own a)->H' b=J (.own a)) (s:∀b u,Hl H b u->Hl H' b u):fK P w H' h' a o:=by
 induction o with
 |lst xs=>obtain⟨z,aV,n,r,e⟩:=x;exact⟨z,aV,n,r,k _ _ (.inl rfl) e⟩
 |tup xs=>obtain⟨z,aV,r,g,e,c⟩:=x;exact⟨z,aV,r,g,k _ _ (.inl rfl) e,c⟩
 |dK j=>obtain⟨z,y,vs,r,g,es,i,e,c⟩:=x;exact⟨z,y,vs,r,g,es,i,k _ _ (.inl rfl) e,c⟩
 |dT j=>
  obtain⟨z,y,xs,r,g,es,i,e,c⟩:=x;exact⟨z,y,xs,Paired.Wi r fun p q z=>⟨z.1,(s _ _ ⟨z.2.1,trivial⟩).1,z.2.2⟩,g,es,i,k _ _ (.inl rfl) e,c⟩
 |set S n=>refine y8 x fun g es i t e c=>?_;exact⟨g,es,i,t,k _ _ (.inl rfl) e,c⟩
 |ins C N fs=>
  obtain⟨d,z,A,e,mA,⟨l,es,i,m,c⟩,r⟩:=x;exact⟨M _ d,z,A,k _ _ (.inl rfl) e,mA,⟨l,es,i,k _ _ (.inr d) m,c⟩,r⟩
 |own y=>obtain⟨g,e⟩:=x;exact⟨g,k _ _ (.inl rfl) e⟩
 |xd fs=>obtain⟨mA,⟨l,es,i,e,c⟩,r⟩:=x;exact⟨mA,⟨l,es,i,k _ _ (.inl rfl) e,c⟩,r⟩
 |GX lo O=>obtain⟨t,u,v,e⟩:=x;exact⟨t,u,v,k _ _ (.inl rfl) e⟩
 |WC g u I=>obtain⟨e,q⟩:=x;exact⟨k _ _ (.inl rfl) e,I q⟩
 |UX q=>
  refine gL x fun ps e tr r=>?_;refine⟨ps,k a _ (.inl rfl) e,tr,fun pos B F=>?_⟩;obtain⟨c,K,vs,E,e1,m,D⟩:=r pos B F;exact⟨c,K,vs,E,e1,(s _ _ ⟨m,trivial⟩).1,D⟩
 |met f y=>
  have e  := x;exact k a _ (.inl rfl) e
 |ext φ=>obtain⟨p,⟨o,e⟩,st⟩:=x;exact⟨st _ _ p fun o q=>k _ _ (.inl rfl) q,⟨o,k _ _ (.inl rfl) e⟩,st⟩
theorem nW.lt(x:nW P w H h)(e:H a=J o):a<h.objs.size:=(x a o e).lt
theorem nW.fresh(x:nW P w H h)(e:h.objs.size<=a):H a=U:=by
 cases q:H a with
 |none=>rfl
 |some u=>exact absurd (Rw (x.lt q) e)<|ei _
theorem nW.kept(x:nW P w H h)(k:∀b u,h.get? b=J u->h'.get? b=J u):nW P w H h':=fun a o e=>
 (x a o e).zY (fun b u _ q=>k b u q) (fun _ q=>q) fun _ _ q=>q
theorem nW.laid(x:nW P w H h)(k:∀b u,h.get? b=J u->h'.get? b=J u)(g:h.objs.size<=a)(new:fK P w (br H a o) h' a o):nW P w (br H a o) h':=fun b u e=>by
 have d:=x.fresh g;by_cases f:b=a
 .subst f;rw[aE]at e;cases e;exact new
 .rw[aG f]at e;exact(x b u e).zY (fun c v _ q=>k c v q) (fun c q=>by rw[aG<|bc q d];exact q) fun c xs q=>⟨by rw[aG<|bc q.1 d];exact q.1,q.2⟩
end
def Rd(H:Hp)(a:SA)(u:HO):Prop:=H a=J u\/∃o,H a=J (.WC o u)
theorem Rd.ok(r:Rd H a u)(x:nW P w H h):fK P w H h a u:=by
 rcases r with r|⟨o,r⟩
 .exact x a u r
 .obtain⟨_,q⟩:=x a _ r;exact q
def Sk:Option HO->Prop
 |some (.lst _)=>True
 |some (.dK _)=>True
 |some (.dT _)=>True
 |some (.set _ _)=>True
 |some (.ins _ _ _)=>True
 |some (.ext _)=>True
 |_=>False
section
theorem nW.write(ok:nW P w H h)(f:Sk<|H x)(m:e=x\/H e=J (.own x))(k:∀b u,b≠e->h.get? b=J u->h'.get? b=J u)(g:∃u,h'.get? e=J u)
  (new:fK P w (br H x o') h' x o'):nW P w (br H x o') h':=fun b u q=>by
 have d:∀c y,H c=J (.own y)->c≠x:=fun c y r z=>by subst z;rw[r]at f;exact f
 have a:∀c u,Hl H c u->c≠x:=fun c u r z=>by subst z;rw[r.1]at f;have:=r.2;cases u<;>first|exact f|exact this
 by_cases i:b=x
 .subst i;rw[aE]at q;cases q;exact new
 .rw[aG i]at q;by_cases j:b=e
  .have q':H b=J (.own x):=by
    mright
   rw[q]at q';cases q';obtain⟨v,hv⟩:=g
   exact⟨v,⊥⟩
  .refine(ok b u q).zY (fun c v l r=>k c v ?_ r) (fun c r=>by rw[aG<|d c b r];exact r) fun c xs r=>⟨by rw[aG<|a c xs r];exact r.1,r.2⟩
   grind
end
structure Un(fs ex:Sf)(H H':Hp)(h h':T3):Prop where
 keep:∀b o,h.get? b=J o->H b=U->b∉fs->b∉ex->h'.get? b=J o
 slot:∀b o,h.get? b=J o->H b=U->b∈fs->b∉ex->∃sl,h'.get? b=J {o with slots:=sl}
 free:∀b o,h.get? b=J o->H b=U->b∉ex->H' b=U
 there:∀b o,h.get? b=J o->b∉ex->∃o',h'.get? b=J o'
 xV:∀b xs,H b=J (.tup xs)->H' b=J (.tup xs)
 tQ:∀b o u,H b=J (.WC o u)->H' b=J (.WC o u)
 b9:∀b q,H b=J (.UX q)->H' b=J (.UX q)
section
variable{h h1 h2:T3}{a x:SA}
theorem Un.any(u:Un fs ex H H1 h h1)(q:h.get? b=J ob)(n:H b=U)(c:b∉ex):∃d,h1.get? b=J {ob with slots:=d}:=by
 by_cases a:b∈fs
 .exact u.slot b ob q n a c
 .exact⟨ob.slots,u.keep b ob q n a c⟩
theorem Un.kept(k:∀b u,h.get? b=J u->h'.get? b=J u):Un fs ex H H h h':=
 ⟨fun b a q _ _ _=>k b a q,fun b a q _ _ _=>⟨a.slots,k b a q⟩,fun _ _ _ n _=>n,fun b a q _=>⟨a,k b a q⟩,fun _ _ q=>q,fun _ _ _ q=>q,fun _ _ q=>q⟩
section
variable{h h1 h2:Heap}{a x:SA}
theorem Un.refl:Un fs ex H H h h:=Un.kept fun _ _ q=>q
end
theorem Un.laid(k:∀b u,h.get? b=J u->h'.get? b=J u)(d:h.objs.size<=a)(c:H a=U):Un fs ex H (br H a o) h h' where
 keep:=fun b u q _ _ _=>k b u q
 slot:=fun b u q _ _ _=>⟨u.slots,k b u q⟩
 free:=fun b u q n _=>by rw[aG<|Vd<|Rw (Tn q) d];exact n
 there:=fun b u q _=>⟨u,k b u q⟩
 xV:=fun b xs q=>by rw[aG<|bc q c];exact q
 tQ:=fun b u xs q=>by rw[aG<|bc q c];exact q
 b9:=fun b ps q=>by rw[aG<|bc q c];exact q
theorem Un.write(c:Sk<|H x)(i:e=x\/H e=J (.own x))(k:∀b u,b≠e->h.get? b=J u->h'.get? b=J u)(f:∃u,h'.get? e=J u):Un fs ex H (br H x o) h h':=by
 have g:∀b,H b=U->b≠x:=fun b n z=>by subst z;rw[n]at c;exact c
 have d:∀b,H b=U->b≠e:=fun b n z=>by
  mright
 have a:∀b u,H b=J u->¬Sk (J u)->b≠x:=fun b u q nm z=>by mright
 refine⟨fun b u q n _ _=>k b u (d b n) q,fun b u q n _ _=>⟨u.slots,k b u (d b n) q⟩,fun b u q n _=>by rw[aG<|g b n];exact n,fun b u q _=>?_,
  fun b xs q=>by rw[aG (a b _ q fun z=>z)];exact q,fun b u xs q=>by rw[aG (a b _ q fun z=>z)];exact q,fun b ps q=>by rw[aG (a b _ q fun z=>z)];exact q⟩
 grind
end
def VO(h:T3)(H:Hp):Sf:=(e6 h.objs.size).filter fun a=>(H a).isSome
def yU(h:T3)(H:Hp):T3:=PySem.W.hideAll h<|VO h H
theorem F1(e:h.get? b=J o)(n:H b=U):(yU h H).get? b=J o:=
 PySem.W.hideAll_get _ e fun a=>by
  have q:(H b).isSome=G:=(dN.mp a).2;rw[n]at q;mright
theorem JH(e:(yU h H).get? b=J o):h.get? b=J o/\H b=U:=by
 have a:h.get? b=J o:=PySem.W.of_hideAll (VO h H) e;refine⟨a,?_⟩;cases q:H b with
 |none=>rfl
 |some x=>
  have c:b∈VO h H:=dN.mpr ⟨Qz.mpr<|Tn a,by simp[q]⟩;have z:(yU h H).get? b=U:=PySem.W.hideAll_none (VO h H) c;rw[z]at e;cases e
structure Mod(K:aT)(mg:Sq)(base:T3):Prop where
 XM:K.In base
 glob:base.Ns By mg
 blt:∃mb,base.Ns builtinsNs mb/\∀x:Str,x≠"__name__"->mb x=Vl x
 nolimit:base.NoLimit
structure Cx where
 prog:Tc
 w:Sl
 K:aT
 mg:Str->Option nE
 base:T3
 A:Tx
 N:SH
 s₀:ID
 H₀:Hp
 env:Env
 outer:List Env
 stack:List Env
 ex:Sf
 fn:Str->Bool
 calm:Bool
 tn:Nat:=0
 pn:TQ
 xe:nE->ID->Prop
def Ec(l:List Env):Sf:=l.filterMap (·.frame)
abbrev Cx.fs(X:Cx):Sf:=Ec X.outer
def m6(a:Scope)(x:Str):Prop:=a.names.lookup x=J .local\/a.names.lookup x=J .cell\/a.names.lookup x=J .free
def Loc(a:Scope)(x:Str):Prop:=a.names.lookup x=J .local\/a.names.lookup x=J .cell
def Z22(env:Env)(h:T3)(m:Sq)(x:Str)(u:nE):Prop:=
 (env.kindOf x=J .local/\m x=J u)\/((env.kindOf x=J .cell\/env.kindOf x=J .free)/\∃c,env.cells.lookup x=J c/\h.IsCell c (J u))
noncomputable def g6(K:aT)(p:SA×Obj):Option<|SA×Str:=match p.2.data with
 |.fields vs=>match(vs[1]?:Option nE),(vs[11]?:Option nE)with
  |some (.str q _),J (.ref P)=>if(K.lookup P).isNone&&t5 K p.1 P then J (P,q++".<locals>."++"<lambda>")else U
  |_,_=>U
 |_=>U
def RJ(K:aT)(H:Hp):Prop:=∀p∈K,∀x,g6 K p=J x->H x.1=J (.UX x.2)
structure Cx.Ok(X:Cx):Prop where
 mod:Mod X.K X.mg X.base
 kind:X.env.scope.kind=.function
 glob:X.env.globals=By
 blt:X.env.builtins=builtinsNs
 above:X.s₀.heap.objs.size<=X.env.locals
 inj:∀x y c,X.env.cells.lookup x=J c->X.env.cells.lookup y=J c->x=y
 has:∀x,(X.env.kindOf x=J .cell\/X.env.kindOf x=J .free)->∃c,X.env.cells.lookup x=J c
 sY:∀x c,X.fn x=G->X.env.cells.lookup x=J c->X.s₀.heap.objs.size<=c
 hd:X.calm=G->X.A.handled=U
 frames:X.A.frames=J X.stack
 xN:X.stack=X.outer\/(X.stack=X.env::X.outer/\X.env.frame=J X.env.locals)
 x9:∀b∈X.ex,b≠X.env.locals/\∀x c,X.env.cells.lookup x=J c->c≠b
 bs:∀b o,X.base.get? b=J o->X.s₀.heap.get? b=J o/\X.H₀ b=U
 Wq:X.base.objs.size<=X.s₀.heap.objs.size
 Zo:∀b o,X.base.get? b=J o->b∉X.ex
 ZR:∀b∈X.ex,b∉X.fs
 WE:X.s₀.heap.FunFrames X.base X.outer
 XJ:(∀b∈X.fs,X.H₀ b=U)/\RJ X.K X.H₀
structure Inv(X:Cx)(aa:TQ)(Z:List (Option V))(H:Hp)(s:ID):Prop where
 ok:X.Ok
 os:s.os=X.s₀.os
 bare:AllBare s.gens
 base:Un X.fs X.ex X.H₀ H X.s₀.heap s.heap
 loc:∃m,s.heap.Ns X.env.locals m/\∀(i:Nat)(x:Str)(v:V),X.N[i]?=J x->Z[i]?=J (J v)->m6 X.env.scope x->∃u,aP v u/\Z22 X.env s.heap m x u
 cell:∀x c,X.env.cells.lookup x=J c->∃v,s.heap.IsCell c v
 free:H X.env.locals=U
 WZ:∀x c,X.env.cells.lookup x=J c->H c=U
 pin:∀p∈X.pn++aa,s.heap.get? p.1=J p.2/\H p.1=U/\p.1≠X.env.locals/\p.1∉X.fs/\∀v,p.2.data≠.cell v
 Su:nW X.prog X.w H s.heap
 len:Z.length=X.N.length
 tk:X.tn<=s.toks
end L2
local macro_rules | `(tactic| walk_at "tok") => `(tactic| first | assumption | exact L2.Inv.tk (by assumption) | exact Nat.le_succ_of_le (L2.Inv.tk (by assumption)) | exact Nat.le_succ_of_le (Nat.le_succ_of_le (L2.Inv.tk (by assumption))) | (have hI := L2.Inv.tk (by assumption); lia) | exact Nat.zero_le _)
namespace L2
open PySem PySem.Spec PyProof.Rows
section
variable{X:Cx}
theorem Cx.Ok.Z42(ok:X.Ok)(e:X.base.get? b=J o):b∉X.fs:=fun a=>by
 have:=(ok.WE.mem a).1
 rw[e]at this;cases this
theorem Inv.bs(I:Inv X aa Z H s):∀b o,X.base.get? b=J o->s.heap.get? b=J o/\H b=U:=fun b o e=>
 ⟨I.base.keep b o (I.ok.bs b o e).1 (I.ok.bs b o e).2 (I.ok.Z42 e)<|I.ok.Zo b o e,I.base.free b o (I.ok.bs b o e).1 (I.ok.bs b o e).2<|I.ok.Zo b o e⟩
theorem Inv.bk(I:Inv X aa Z H s):∀b o,X.base.get? b=J o->s.heap.get? b=J o:=fun b o e=>(I.bs b o e).1
theorem Inv.mod(I:Inv X aa Z H s):Mod X.K X.mg X.base:=I.ok.mod
theorem Inv.tb(I:Inv X aa Z H s):RJ X.K H:=fun p a x e=>I.base.b9 _ _<|I.ok.XJ.2 p a x e
theorem Inv.U3(I:Inv X aa Z H s):X.K.In s.heap:=I.ok.mod.XM.keeps I.bk
theorem Inv.fr(I:Inv X aa Z H s):∃m,Fr X.base X.env.locals s.heap m:=
 let⟨m,hn,_⟩:=I.loc
 ⟨m,hn,I.bk,RW I.ok.Wq I.ok.above⟩
theorem Inv.lt(I:Inv X aa Z H s):X.env.locals<s.heap.objs.size:=let⟨_,hn,_⟩:=I.loc;hn.lt
theorem Inv.sz(I:Inv X aa Z H s):X.s₀.heap.objs.size<=s.heap.objs.size:=RW I.ok.above<|jx I.lt
theorem Inv.ab6(I:Inv X aa Z H s){a:SA}(h:s.heap.objs.size<=a):a∉X.fs:=fun c=>by
 obtain⟨_,o,b,_⟩:=I.ok.WE.mem c;exact absurd (Rw (Tn b)<|RW I.sz h)<|ei _
theorem Inv.fq(I:Inv X aa Z H s):∀x c,X.env.cells.lookup x=J c->c≠X.env.locals:=fun x c e z=>by
 obtain⟨v,o,ho,hd⟩:=I.cell x c e
 obtain⟨m,⟨o',es,d,a,b,_⟩,_⟩:=I.loc
 mright
theorem Inv.WE(I:Inv X aa Z H s):s.heap.FunFrames X.base X.outer:=by
 have all:∀(l:List Env),(∀b∈Ec l,b∈X.fs)->X.s₀.heap.FunFrames X.base l->s.heap.FunFrames X.base l:=by
  intro l;induction l with
  |nil=>intro _ _;trivial
  |cons env r f=>
   intro hs j;obtain⟨h,⟨Lq0,o,c,g,i,hd⟩,d⟩:=j;have hL  := hs Lq0 (by delta Ec;mright);obtain⟨sl,e⟩:=I.base.slot Lq0 o i (I.ok.XJ.1 Lq0 hL) hL fun z=>I.ok.ZR Lq0 z hL
   exact⟨h,⟨Lq0,_,c,g,e,hd⟩,f (fun b a=>hs b<|by delta Ec;rw[AC,c];exact ie _ a) d⟩
 exact all X.outer (fun _ a=>a) I.ok.WE
theorem Inv.stack(I:Inv X aa Z H s):s.heap.FunFrames X.base X.stack:=by
 rcases I.ok.xN with e|⟨e,hf⟩
 .rw[e];exact I.WE
 .rw[e];obtain⟨m,hn,_⟩:=I.loc
  refine .cons (by rw[I.ok.kind];decide) hf hn ?_ I.WE;exact Pt<|RW I.ok.Wq I.ok.above
theorem Inv.wW(I:Inv X aa Z H s):∀b∈Ec X.stack,b∈X.env.locals::X.fs:=fun b a=>by
 rcases I.ok.xN with e|⟨e,hf⟩
 .mright
 .rw[e]at a;delta Ec at a;rw[AC,hf]at a;exact a
theorem Inv.Y8(I:Inv X aa Z H s):∀b∈Ec X.stack,H b=U:=fun b a=>by
 rcases eQ.mp (I.wW b a)with e|a
 .rw[e];exact I.free
 .obtain⟨_,o,c,_⟩:=I.ok.WE.mem a;exact I.base.free b o c (I.ok.XJ.1 b a) fun z=>I.ok.ZR b z a
theorem Inv.step{ch:Sf}(I:Inv X aa Z H s)
  (f:∀b∈ch,(b∈X.ex\/X.s₀.heap.objs.size<=b)/\b≠X.env.locals/\(∀x c,X.env.cells.lookup x=J c->c≠b)/\∀p∈X.pn++aa,p.1≠b)
  (keep:∀b o,b≠X.env.locals->b∉X.fs->b∉ch->s.heap.get? b=J o->H b=U->h'.get? b=J o)
  (slot:∀b o,b≠X.env.locals->b∈X.fs->b∉ch->s.heap.get? b=J o->H b=U->∃C,h'.get? b=J {o with slots:=C}) (free:∀b o,b∉ch->s.heap.get? b=J o->H b=U->H' b=U)
  (there:∀b o,b∉ch->s.heap.get? b=J o->∃o',h'.get? b=J o')
  (xV:∀b xs,H b=J (.tup xs)->H' b=J (.tup xs)) (tQ:∀b o u,H b=J (.WC o u)->H' b=J (.WC o u)) (b9:∀b q,H b=J (.UX q)->H' b=J (.UX q))
  (N:∀m,s.heap.Ns X.env.locals m->h'.Ns X.env.locals m) (E:nW X.prog X.w H' h') (O:AllBare g') (M:X.tn<=t'<|>XW):
  Inv X aa Z H' {s with heap:=h',gens:=g',drawn:=d',toks:=t'}:=by
 have A:∀b o,X.s₀.heap.get? b=J o->b≠X.env.locals:=fun b o e=>Vd<|Rw (Tn e) I.ok.above;have h:∀b o,X.s₀.heap.get? b=J o->b∉X.ex->b∉ch:=fun b o e a t=>by
  rcases(f b t).1 with z|z
  .exact a z
  .exact absurd (Rw (Tn e) z) (ei _)
 have g:∀x c,X.env.cells.lookup x=J c->∀v,s.heap.IsCell c v->h'.IsCell c v:=fun x c e v⟨o,y,hd⟩=>by
  have j:c∉ch:=fun z=>(f c z).2.2.1 x c e rfl;by_cases K:c∈X.fs
  .obtain⟨C,q⟩:=slot c o (I.fq x c e) K j y<|I.WZ x c e;exact⟨_,q,hd⟩
  .exact⟨o,keep c o (I.fq x c e) K j y<|I.WZ x c e,hd⟩
 refine⟨I.ok,I.os,O,⟨fun b o e n t a=>?_,fun b o e n t a=>?_,fun b o e n a=>?_,fun b o e a=>?_,fun b xs e=>xV b xs<|I.base.xV b xs e,fun b o xs e=>tQ b o xs<|I.base.tQ b o xs e,fun b ps e=>?_⟩,?_,fun x c e=>?_,?_,fun x c e=>?_,fun p F=>?_,E,I.len,M⟩
 .exact keep b o (A b o e) t (h b o e a) (I.base.keep b o e n t a) (I.base.free b o e n a)
 .obtain⟨C,e1⟩:=I.base.slot b o e n t a
  obtain⟨B,D⟩:=slot b _ (A b o e) t (h b o e a) e1<|I.base.free b o e n a;exact⟨B,D⟩
 .obtain⟨o',e1⟩:=I.base.there b o e a
  exact free b o' (h b o e a) e1<|I.base.free b o e n a
 .obtain⟨o',e1⟩:=I.base.there b o e a
  exact there b o' (h b o e a) e1
 .exact b9 b ps (I.base.b9 b ps e)
 .obtain⟨m,hn,hl⟩:=I.loc
  refine⟨m,N m hn,fun i x v e1 D P=>?_⟩;obtain⟨u,r,l⟩:=hl i x v e1 D P
  refine⟨u,r,?_⟩;rcases l with l|⟨k,c,e,z⟩
  .exact .inl l
  .exact .inr ⟨k,c,e,g x c e _ z⟩
 .obtain⟨v,z⟩:=I.cell x c e
  exact⟨v,g x c e v z⟩
 .obtain⟨m,⟨o,_,_,y,_⟩,_⟩:=I.loc;exact free _ o (fun z=>(f _ z).2.1 rfl) y I.free
 .obtain⟨v,o,y,hd⟩:=I.cell x c e
  exact free c o (fun z=>(f c z).2.2.1 x c e rfl) y<|I.WZ x c e
 .refine uf (I.pin p F) fun e n R Q d=>?_
  have j:p.1∉ch:=fun z=>(f p.1 z).2.2.2 p F rfl;mright
theorem Inv.un(I:Inv X aa Z H s)(u:Un X.fs [] H H' s.heap h')(a:nW X.prog X.w H' h')(h:X.tn<=t'<|>XW):Inv X aa Z H' {s with heap:=h',toks:=t'}:=by
 obtain⟨m,⟨o,es,j,d,r⟩,_⟩:=id I.loc;obtain⟨i,g⟩:=u.any d I.free ∅;exact I.step (ch:=[]) (fun _ z=>nomatch z) (fun b o _ c _ e n=>u.keep b o e n c<|∅) (fun b o _ c _ e n=>u.slot b o e n c<|∅) (fun b o _ e n=>u.free b o e n<|∅) (fun b o _ e=>u.there b o e<|∅) u.xV u.tQ u.b9 (fun k f=>by
  obtain⟨o',es',ep',ho',r'⟩:=f
  rw[d]at ho';cases ho';exact⟨_,es',ep',g,r'⟩) a I.bare
theorem Inv.call(I:Inv X aa Z H s)(u:Un (Ec X.stack) ch H H' s.heap h')(j:nW X.prog X.w H' h')(q:AllBare g')
  (f:∀b∈ch,(b∈X.ex\/X.s₀.heap.objs.size<=b)/\b≠X.env.locals/\(∀x c,X.env.cells.lookup x=J c->c≠b)/\∀p∈X.pn++aa,p.1≠b) (y:X.tn<=t'<|>XW):
  Inv X aa Z H' {s with heap:=h',gens:=g',drawn:=d',toks:=t'}:=by
 obtain⟨m,⟨o,es,A,k,r⟩,_⟩:=id I.loc;obtain⟨sl,h⟩:=u.any k I.free fun z=>(f _ z).2.1 rfl
 exact I.step f (fun b o h v a e n=>u.keep b o e n (fun z=>(eQ.mp<|I.wW b z).elim h v) a) (fun b o _ _ a e n=>u.any e n a) (fun b o a e n=>u.free b o e n a) (fun b o a e=>u.there b o e a) u.xV u.tQ u.b9 (fun B l=>by
  obtain⟨o',i,g,d,t⟩:=l;rw[k]at d;cases d;exact⟨_,i,g,h,t⟩) j q
theorem Inv.turned(I:Inv X aa Z H s)(k:∀b o,b≠it->s.heap.get? b=J o->h'.get? b=J o)(j:H it=U)(d:it≠X.env.locals)
  (h1:it∈X.ex\/X.s₀.heap.objs.size<=it) (h2:∀x c,X.env.cells.lookup x=J c->c≠it) (g:∀p∈X.pn++aa,p.1≠it) (i:X.tn<=t'<|>XW):Inv X aa Z H {s with heap:=h',toks:=t'}:=by
 refine I.step (ch:=[it]) (fun b h=>?_) (fun b o _ _ a e _=>k b o (fun z=>a<|by simp[z]) e) (fun b o _ _ a e _=>⟨o.slots,k b o (fun z=>a<|by simp[z]) e⟩) (fun _ _ _ _ n=>n)
  (fun b o a e=>⟨o,k b o (fun z=>a<|by simp[z]) e⟩) (fun _ _ e=>e) (fun _ _ _ e=>e) (fun _ _ e=>e) (fun m f=>?_) (fun b u e=>?_) I.bare
 .have e  := by simpa using h
  subst e;exact⟨h1,d,h2,g⟩
 .obtain⟨o,es,ep,ho,r⟩:=f
  exact⟨o,es,ep,k _ o (Vn d) ho,r⟩
 .refine(I.Su b u e).zY (fun c v a q=>k c v ?_ q) (fun _ q=>q) fun _ _ q=>q
  lia
theorem Inv.tok(I:Inv X aa Z H s)(t:Nat)(a:X.tn<=t<|>XW):Inv X aa Z H {s with toks:=t}:=I.un (Un.kept fun _ _ q=>q) I.Su
theorem Inv.kept(I:Inv X aa Z H s)(k:∀b u,s.heap.get? b=J u->h'.get? b=J u)(a:X.tn<=t'<|>XW):Inv X aa Z H {s with heap:=h',toks:=t'}:=I.un (Un.kept k)<|I.Su.kept k
theorem Inv.laid{a:SA}(I:Inv X aa Z H s)(k:∀b u,s.heap.get? b=J u->h'.get? b=J u)(c:s.heap.objs.size<=a)(new:fK X.prog X.w (br H a o) h' a o)(d:X.tn<=t'<|>XW):
  Inv X aa Z (br H a o) {s with heap:=h',toks:=t'}:=I.un (Un.laid k c<|I.Su.fresh c)<|I.Su.laid k c new
theorem Inv.write(I:Inv X aa Z H s)(d:Sk<|H x)(c:e=x\/H e=J (.own x))(k:∀b u,b≠e->s.heap.get? b=J u->h'.get? b=J u)(a:∃u,h'.get? e=J u)
  (new:fK X.prog X.w (br H x o) h' x o) (f:X.tn<=t'<|>XW):Inv X aa Z (br H x o) {s with heap:=h',toks:=t'}:=I.un (Un.write d c k a)<|I.Su.write d c k a new
theorem Inv.Y7(I:Inv X aa Z H s)(h:∀p∈pins',s.heap.get? p.1=J p.2/\H p.1=U/\p.1≠X.env.locals/\p.1∉X.fs/\∀v,p.2.data≠.cell v):Inv X pins' Z H s:=
 ⟨I.ok,I.os,I.bare,I.base,I.loc,I.cell,I.free,I.WZ,fun p a=>(BY.mp a).elim (fun z=>I.pin p<|Le _ z)<|h p,I.Su,I.len,I.tk⟩
theorem yX{N:SH}(c:N.Nodup){i j:Nat}(a:N[i]?=J x)(b:N[j]?=J x):i=j:=by
 obtain⟨h1,e1⟩:=rW.mp a
 obtain⟨h2,e2⟩:=rW.mp b
 exact(List.getElem_inj c).mp<|e1.trans e2.symm
theorem DL(I:Inv X aa Z H s)(W:X.N.Nodup)(D:X.N[i]?=J x)(l:Loc X.env.scope x)(r:aP v u)
  (h:∀s',Inv X aa (Z.set i<|J v) H s'->(∃a,X1 a s.heap s'.heap/\(a=X.env.locals\/X.env.cells.lookup x=J a))->Q () s') (hf:#[1]<|>XN):SN M A (storeName X.env x u) Q E s:=by
 obtain⟨m,hn,hl⟩:=id I.loc
 have F:(X.env.scope.kind==.class||(X.env.scope.kind==.module&&X.env.locals != X.env.globals))=η:=by rw[I.ok.kind];rfl
 have B:i<Z.length:=by rw[I.len];exact(rW.mp D).1
 have fq:=I.fq;have f:∀{a:SA}{h':T3},(∃o,s.heap.get? a=J o/\H a=U)->X1 a s.heap h'->nW X.prog X.w H h':=fun{a h'}ha hs b ob e=>by
  obtain⟨_,_,hfree⟩:=ha
  refine(I.Su b ob e).zY (fun c T g q=>(hs.2 c ?_).trans q) (fun _ q=>q) fun _ _ q=>q;rintro rfl;rcases g with rfl|g
  .rw[hfree]at e;cases e
  .rw[hfree]at g;cases g
 rcases l with hk|hk
 .refine wpAny_storeName_local hk hn (fun h' P hs=>?_) F;obtain⟨oL,_,_,hoL,_⟩:=id hn
  refine h _ ⟨I.ok,I.os,I.bare,⟨fun b o e n C l=>?_,fun b o e n C l=>?_,I.base.free,fun b o e l=>?_,I.base.xV,I.base.tQ,I.base.b9⟩,⟨_,P,fun j y V e1 t S=>?_⟩,fun y c e=>?_,I.free,I.WZ,fun p R=>?_,f ⟨oL,hoL,I.free⟩ hs,by simpa using I.len,by walk_at "tok"⟩ ⟨_,hs,.inl rfl⟩
  .exact(hs.2 b<|Vd<|Rw (Tn e) I.ok.above).trans (I.base.keep b o e n C l)
  .obtain⟨sl,e1⟩:=I.base.slot b o e n C l
   exact⟨sl,(hs.2 b<|Vd<|Rw (Tn e) I.ok.above).trans e1⟩
  .obtain⟨o',e1⟩:=I.base.there b o e l
   exact⟨o',(hs.2 b<|Vd<|Rw (Tn e) I.ok.above).trans e1⟩
  .by_cases hj:j=i
   .subst hj;rw[D]at e1;cases e1;rw[tG B]at t;cases t;exact⟨u,r,.inl ⟨hk,∅⟩⟩
   .rw[dP<|Vn hj]at t;obtain⟨u',r',q⟩:=hl j y V e1 t S
    refine⟨u',r',?_⟩;rcases q with⟨k,e⟩|⟨k,c,e,z⟩
    .refine .inl ⟨k,?_⟩
     have:y≠x:=fun e=>hj<|yX W e1<|e▸D
     simp[this,e]
    .exact .inr ⟨k,c,e,z.sameBut hs<|fq y c e⟩
  .obtain⟨T,z⟩:=I.cell y c e
   exact⟨T,z.sameBut hs<|fq y c e⟩
  .obtain⟨e,n,ne,nf,d⟩:=I.pin p R
   exact⟨(hs.2 p.1 ne).trans e,n,ne,nf,d⟩
 .have hfn:X.fn x=G:=by
   rcases hf with z|z
   .exact z
   .rw[z]at hk;cases hk
  obtain⟨c,g⟩:=I.ok.has x<|.inl hk
  obtain⟨T,z⟩:=I.cell x c g
  refine wpAny_storeName_cell I.ok.kind hk g z fun h' K hs=>?_;let⟨oc,hoc,hocd⟩:=id z
  refine h {s with heap:=h'} ⟨I.ok,I.os,I.bare,⟨fun b o e n C l=>?_,fun b o e n C l=>?_,I.base.free,fun b o e l=>?_,I.base.xV,I.base.tQ,I.base.b9⟩,⟨m,hn.sameBut hs<|Vn<|fq x c g,fun j y V e1 t S=>?_⟩,fun y O e=>?_,I.free,I.WZ,fun p R=>?_,f ⟨oc,hoc,I.WZ x c g⟩ hs,by simpa using I.len,I.tk⟩ ⟨c,hs,.inr g⟩
  .exact(hs.2 b<|Vd<|Rw (Tn e)<|I.ok.sY x c hfn g).trans (I.base.keep b o e n C l)
  .obtain⟨sl,e1⟩:=I.base.slot b o e n C l
   exact⟨sl,(hs.2 b<|Vd<|Rw (Tn e)<|I.ok.sY x c hfn g).trans e1⟩
  .obtain⟨o',e1⟩:=I.base.there b o e l
   exact⟨o',(hs.2 b<|Vd<|Rw (Tn e)<|I.ok.sY x c hfn g).trans e1⟩
  .by_cases hj:j=i
   .subst hj;rw[D]at e1;cases e1;rw[tG B]at t;cases t;exact⟨u,r,.inr ⟨.inl hk,c,g,K⟩⟩
   .rw[dP<|Vn hj]at t;obtain⟨u',r',q⟩:=hl j y V e1 t S
    refine⟨u',r',?_⟩;rcases q with q|⟨k,O,e,z'⟩
    .exact .inl q
    .refine .inr ⟨k,O,e,z'.sameBut hs ?_⟩;rintro rfl;exact hj<|yX W e1<|I.ok.inj _ _ _ e g▸D
  .by_cases hcc:O=c
   .subst hcc;exact⟨_,K⟩
   .obtain⟨w2,z2⟩:=I.cell y O e
    exact⟨w2,z2.sameBut hs hcc⟩
  .obtain⟨e,n,ne,nf,d⟩:=I.pin p R
   refine⟨(hs.2 p.1 ?_).trans e,n,ne,nf,d⟩
   grind
theorem tZ(I:Inv X aa Z H s)(a:X.N.Nodup)(c:X.N[i]?=J x)(e:Loc X.env.scope x)(r:aP v u)
  (h:∀s',Inv X aa (Z.set i<|J v) H s'->Q () s') (b:#[1]<|>XN):SN M A (storeName X.env x u) Q E s:=
 DL I a c e r (fun s' d _=>h s' d) b
theorem Inv.call'(I:Inv X aa Z H s)(f:s'.os=s.os)(u:Un (Ec X.stack) ch H H' s.heap s'.heap)(d:nW X.prog X.w H' s'.heap)(g:AllBare s'.gens)
  (a:∀b∈ch,(b∈X.ex\/X.s₀.heap.objs.size<=b)/\b≠X.env.locals/\(∀x c,X.env.cells.lookup x=J c->c≠b)/\∀p∈X.pn++aa,p.1≠b) (h:X.tn<=s'.toks<|>XW):Inv X aa Z H' s':=by
 obtain⟨h',g',d',t',o'⟩:=s';have e  := f;subst e;exact I.call u d g a
end
abbrev XK:=nE->Option SA->Hp->Prop
abbrev St:=List<|Option V
abbrev VK:=V->Hp->Prop
abbrev TE:=St->Hp->VK->Prop
abbrev TT:=St->Hp->(Bool->Hp->Prop)->Prop
abbrev TA:=St->Hp->(Se->Hp->Prop)->Prop
structure Ends where
 nx:St->Hp->Prop
 rt:VK
 bk:St->Hp->Prop:=fun _ _=>False
 ct:St->Hp->Prop:=fun _ _=>False
abbrev TS:=Ends->St->Hp->Prop
def EP(X:Cx)(aa:TQ)(Z:St)(Q:VK)(u:nE)(s':ID):Prop:=∃v H',Inv X aa Z H' s'/\aP v u/\Q v H'
def TP(X:Cx)(aa:TQ)(Z:St)(Q:Bool->Hp->Prop)(b:Bool)(s':ID):Prop:=∃H',Inv X aa Z H' s'/\Q b H'
def AP(X:Cx)(aa:TQ)(Z:St)(Q:Se->Hp->Prop)(us:TK)(s':ID):Prop:=∃vs H',Inv X aa Z H' s'/\aU vs us/\Q vs H'
def SP(X:Cx)(aa:TQ)(D:Ends)(f:Flow)(s':ID):Prop:=
 match f with
 |.next=>∃a H',Inv X aa a H' s'/\D.nx a H'
 |.brk=>∃a H',Inv X aa a H' s'/\D.bk a H'
 |.cont=>∃a H',Inv X aa a H' s'/\D.ct a H'
 |.ret u=>∃v a H',Inv X aa a H' s'/\aP v u/\D.rt v H'
def PE(X:Cx)(e:Ry)(t:TE):Prop:=
 ∀(aa:TQ)(s:ID)(Z:St)(H:Hp)(Q:VK),Inv X aa Z H s->t Z H Q->SN #[0] X.A (eval e X.env) (EP X aa Z Q) X.xe s
def PT(X:Cx)(e:Ry)(t:TT):Prop:=
 ∀(aa:TQ)(s:ID)(Z:St)(H:Hp)(Q:Bool->Hp->Prop),Inv X aa Z H s->t Z H Q->SN #[0] X.A (isTrue e X.env<|eval e X.env) (TP X aa Z Q) X.xe s
def PW(X:Cx)(e:Ry)(t:TT):Prop:=
 ∀(a:Sem nE)(aa:TQ)(s:ID)(Z:St)(H:Hp)(Q:Bool->Hp->Prop),Inv X aa Z H s->t Z H Q->SN #[0] X.A (isTrue e X.env a) (TP X aa Z Q) X.xe s
theorem PW.pt(h:PW X e t):PT X e t:=h _
def PA(X:Cx)(es:List Ry)(t:TA):Prop:=
 ∀(pos:Pos)(aa:TQ)(s:ID)(Z:St)(H:Hp)(Q:Se->Hp->Prop),Inv X aa Z H s->t Z H Q->SN #[0] X.A (spliced<|X3 pos<|Uu es X.env) (AP X aa Z Q) X.xe s
def PS(X:Cx)(st:SU)(t:TS):Prop:=
 ∀(aa:TQ)(s:ID)(Z:St)(H:Hp)(D:Ends),Inv X aa Z H s->t D Z H->SN #[0] X.A (exec st X.env) (SP X aa D) X.xe s
def IR(X:Cx)(st:List SU)(t:TS):Prop:=
 ∀(aa:TQ)(s:ID)(Z:St)(H:Hp)(D:Ends),Inv X aa Z H s->t D Z H->SN #[0] X.A (execs st X.env) (SP X aa D) X.xe s
theorem bP{t:Sem α}{Q b:α->ID->Prop}(h:SN M A t Q E s)(c:∀a s,Q a s->b a s):SN M A t b E s:=UE h c fun _ _ x=>x
section
variable{X:Cx}
def abw(i:Nat):TE:=fun Z H Q=>∃v,Z[i]?=J (J v)/\Q v H
def tC(v:V):TE:=fun _ H Q=>Q v H
theorem O9{pos:Pos}(j:X.N[i]?=J x)(o:m6 X.env.scope x)(hd:TN x<|>Sm)(d:#[2]=η<|>Sm):PE X (.Name x pos)<|abw i:=by
 intro aa s Z H Q I h;obtain⟨v,e,h⟩:=h
 obtain⟨m,k,n⟩:=I.loc;obtain⟨u,r,l⟩:=n i x v j e o
 have fin:EP X aa Z Q u s:=⟨v,H,I,r,h⟩;rcases l with⟨b,g⟩|⟨b,c,f,a⟩
 .exact wpAny_Name (wpAny_loadName_local I.ok.kind b k g fin) hd
 .rcases b with b|b
  .exact wpAny_Name (wpAny_loadName_cell I.ok.kind b f a fin) hd
  .exact wpAny_Name (wpAny_loadName_free I.ok.kind b f a fin d) hd
theorem AE:PE X (.Constant (.int i) j pos)<|tC<|.int i:=fun _ _ _ H _ I h=>wpAny_Constant_int ⟨.int i,H,I.tok _,⟨_,rfl⟩,h⟩
theorem Jg:PE X (.Constant (.str x) j pos)<|tC<|.str x:=fun _ _ _ H _ I h=>mO ⟨.str x,H,I.tok _,⟨_,rfl⟩,h⟩
def Gl(X:Cx)(x:Str):Prop:=X.env.kindOf x=J .globalImplicit
theorem dD{Z:St}(I:Inv X aa Z H s)(b:Gl X x)(a:X.mg x=J u)(h:Q u s)
  (hd:TN x<|>Sm):SN #[0] X.A (eval (.Name x pos) X.env) Q E s:=
 LK I.ok.kind b (Calls.loadGlobal_global (by rw[I.ok.glob];exact I.mod.glob.keeps I.bk) a h) hd
theorem tw{E:UB}{Z:St}{pos:Pos}(I:Inv X aa Z H s)(b:Gl X x)(a:X.mg x=U)(c:Vl x=J u)(h:Q u s)
  (d:(x≠"__name__")<|>Sm) (hd:TN x<|>Sm):SN #[0] X.A (eval (.Name x pos) X.env) Q E s:=by
 obtain⟨mb,h1,h2⟩:=I.mod.blt
 exact LK I.ok.kind b (Calls.loadGlobal_builtin (by rw[I.ok.glob];exact I.mod.glob.keeps I.bk) a (by rw[I.ok.blt];exact h1.keeps I.bk) ((h2 x d).trans c) h) hd
theorem JN(b:Gl X x)(a:X.mg x=J u)(r:aP v u)(hd:TN x<|>Sm):PE X (.Name x pos)<|tC v:=
 fun _ _ _ H _ I h=>dD I b a ⟨v,H,I,r,h⟩ hd
theorem Ks{pos:Pos}(b:Gl X x)(a:X.mg x=U)(c:Vl x=J u)(r:aP v u)(d:(x≠"__name__")<|>Sm)(hd:TN x<|>Sm):PE X (.Name x pos)<|tC v:=
 fun _ _ _ H _ I h=>tw I b a c ⟨v,H,I,r,h⟩ d hd
def tB(t:TE):TT:=fun Z H Q=>t Z H fun x H1=>∃c,x=.bl c/\Q c H1
variable{rest:List Ry}
def abx(t u:TT):TT:=fun Z H Q=>t Z H fun c H1=>if c=G then u Z H1 Q else Q η H1
def tOr(t u:TT):TT:=fun Z H Q=>t Z H fun c H1=>if c=G then Q G H1 else u Z H1 Q
def akU(t:TT):TT:=fun Z H Q=>t Z H fun c H1=>Q (!c) H1
theorem O4(h:PE X a t):PE X (.BoolOp op [a] pos) t:=fun aa s Z H Q I hw=>BoolOp_one<|h aa s Z H Q I hw
def tIf(t:TT)(ta tb:TE):TE:=fun Z H Q=>t Z H fun c H1=>if c=G then ta Z H1 Q else tb Z H1 Q
end
def gr(K:aT)(H:Hp)(a:SA)(xs:Se):Prop:=
 Rd H a (.lst xs) \/
  ∃(o:Obj)(aV:Array nE)(n:Nat),K.lookup a=J o/\o.cls=.type "list"/\o.dict=U/\o.data=.seq aV n/\aV.size<=Ta/\aU xs aV.toList
def m7(K:aT)(H:Hp)(a:SA)(xs:Se):Prop:=
 Rd H a (.tup xs) \/
  ∃(o:Obj)(aV:Array nE)(n:Nat),K.lookup a=J o/\o.cls=.type "tuple"/\o.data=.seq aV n/\aV.size<=Ta/\aU xs aV.toList
noncomputable def aaC:nE->Option V
 |.none=>J .S9
 |.bool b=>J<|.bl b
 |.int i _=>J<|.int i
 |.str x _=>J<|.str x
 |.bytes b _=>J<|.X4 b
 |.float b _=>J<|.xH b
 |.ref a=>J<|.ref a
 |.type n=>J<|.ty n
 |_=>U
theorem aP.abs(r:aP x u):aaC u=J x:=by
 cases x with
 |S9=>subst r;rfl
 |bl _=>subst r;rfl
 |int _=>obtain⟨t,rfl⟩:=r;rfl
 |str _=>obtain⟨t,rfl⟩:=r;rfl
 |X4 _=>obtain⟨t,rfl⟩:=r;rfl
 |xH _=>obtain⟨t,rfl⟩:=r;rfl
 |ref _=>subst r;rfl
 |ty _=>subst r;rfl
theorem aP.inj(r:aP x u)(q:aP y u):x=y:=zB<|r.abs.symm.trans q.abs
theorem aU.inj{ys:Se}(h:aU xs us)(g:aU ys us):xs=ys:=by
 induction h generalizing ys with
 |nil=>cases g;rfl
 |cons r t i=>
  cases g;rw[r.inj ‹_›,i ‹_›]
section
variable{Z:St}
theorem gr.of{K:aT}(h:H a=J (.lst xs)):gr K H a xs:=.inl<|.inl h
theorem Inv.list(I:Inv X aa Z H s)(h:gr X.K H a xs):∃aV:TK,aU xs aV/\PlainL s.heap a aV.toArray/\xs.length<=Ta:=by
 rcases h with h|⟨o,aV,n,hk,hc,hd,hs,hz,r⟩
 .obtain⟨z,aV,n,r,e⟩:=h.ok I.Su;exact⟨aV,r,⟨_,n,e,rfl,rfl,rfl⟩,z⟩
 .refine⟨aV.toList,r,⟨o,n,I.U3 a o hk,hc,hd,⊤⟩,?_⟩;have e:=r.length;mright
theorem Inv.tuple(I:Inv X aa Z H s)(h:m7 X.K H a xs):∃aV:TK,aU xs aV/\IsTup s.heap a aV.toArray/\xs.length<=Ta:=by
 rcases h with h|⟨o,aV,n,hk,hc,hs,hz,r⟩
 .obtain⟨z,aV,r,p⟩:=h.ok I.Su
  exact⟨aV,r,p,z⟩
 .refine⟨aV.toList,r,⟨o,I.U3 a o hk,hc,n,⊤⟩,?_⟩;have e:=r.length;mright
theorem Inv.akY(I:Inv X aa Z H s)(h:gr X.K H a xs)(h':gr X.K H a ys):xs=ys:=by
 obtain⟨aV,r,⟨o,n,e,_,_,d⟩,_⟩:=I.list h;obtain⟨its',b,⟨o',c,f,_,_,d'⟩,_⟩:=I.list h'
 have:aV=its':=by mright
 subst this;exact r.inj b
theorem Inv.abZ(I:Inv X aa Z H s)(h:m7 X.K H a xs)(h':m7 X.K H a ys):xs=ys:=by
 obtain⟨aV,r,⟨o,e,_,n,d⟩,_⟩:=I.tuple h;obtain⟨its',b,⟨o',f,_,c,d'⟩,_⟩:=I.tuple h'
 have:aV=its':=by mright
 subst this;exact r.inj b
end
noncomputable abbrev Cx.Td(X:Cx)(E:UB):Cx:={X with xe:=E}
noncomputable abbrev Cx.Xe(X:Cx):Cx:=X.Td fun _ _=>False
theorem Cx.Ok.Td{X:Cx}(ok:X.Ok)(E:UB):(X.Td E).Ok:=
 ⟨ok.mod,ok.kind,ok.glob,ok.blt,ok.above,ok.inj,ok.has,ok.sY,ok.hd,ok.frames,ok.xN,ok.x9,ok.bs,ok.Wq,ok.Zo,ok.ZR,ok.WE,ok.XJ⟩
theorem Cx.Ok.Ul{X:Cx}(ok:(X.Td E).Ok):X.Ok:=
 ⟨ok.mod,ok.kind,ok.glob,ok.blt,ok.above,ok.inj,ok.has,ok.sY,ok.hd,ok.frames,ok.xN,ok.x9,ok.bs,ok.Wq,ok.Zo,ok.ZR,ok.WE,ok.XJ⟩
section
variable{Z:St}
theorem Inv.Td(I:Inv X aa Z H s)(E:UB):Inv (X.Td E) aa Z H s:=⟨I.ok.Td E,I.os,I.bare,I.base,I.loc,I.cell,I.free,I.WZ,I.pin,I.Su,I.len,I.tk⟩
theorem Inv.Ul(I:Inv (X.Td E) aa Z H s):Inv X aa Z H s:=⟨I.ok.Ul,I.os,I.bare,I.base,I.loc,I.cell,I.free,I.WZ,I.pin,I.Su,I.len,I.tk⟩
theorem SP.Ul(h:SP (X.Td E) aa D f s'):SP X aa D f s':=by
 cases f with
 |next=>obtain⟨a,H',I,q⟩:=h;exact⟨a,H',I.Ul,q⟩
 |brk=>obtain⟨a,H',I,q⟩:=h;exact⟨a,H',I.Ul,q⟩
 |cont=>obtain⟨a,H',I,q⟩:=h;exact⟨a,H',I.Ul,q⟩
 |ret u=>obtain⟨v,a,H',I,r,q⟩:=h;exact⟨v,a,H',I.Ul,r,q⟩
theorem IR.Xe{st:List SU}(h:IR X.Xe st t):IR X st t:=fun aa s Z H D I hw=>
 UE (h aa s Z H D (I.Td _) hw) (fun _ _ q=>q.Ul) fun _ _ z=>Wf z
end
section
variable{st:SU}{rest:List SU}
def NV:TS:=fun D Z H=>D.nx Z H
def XH(t u:TS):TS:=fun D Z H=>t {D with nx:=u D} Z H
def Tf:TS:=fun D Z H=>D.bk Z H
theorem aie:PS X (.Break pos) Tf:=fun _ _ Z H _ I h=>wpAny_Break ⟨Z,H,I,h⟩
theorem Inv.quiet{aa:TQ}{Z:St}{H:Hp}{s:ID}(I:Inv X aa Z H s):interactive X.env=η:=by simp[interactive,I.ok.kind]
def GP(a:TE):TS:=fun D Z H=>a Z H fun _ H1=>D.nx Z H1
theorem L9(a:PE X e te)(hs:Uw e U pos.line X.env=pure η<|>Rv):PS X (.Expr e pos)<|GP te:=by
 intro aa s Z H D I h;exact wpAny_Expr_any (bP (a aa s Z H _ I h) fun v d c=>jZ c fun x H1 b r1 q1=>⟨Z,H1,b,q1⟩) I.quiet hs
def Xw(a:TE):TS:=fun D Z H=>a Z H D.rt
def aaA:TS:=fun D _ H=>D.rt .S9 H
def abO(c:TT)(t u:TS):TS:=fun D Z H=>c Z H fun b H1=>if b=G then t D Z H1 else u D Z H1
end
abbrev TG:=V->St->Hp->(St->Hp->Prop)->Prop
abbrev Mg:=Se->St->Hp->(St->Hp->Prop)->Prop
def PG(X:Cx)(a:Ry)(t:TG):Prop:=
 ∀(aa:TQ)(s:ID)(Z:St)(H:Hp)(v:V)(u:nE)(Q:St->Hp->Prop),Inv X aa Z H s->aP v u->t v Z H Q ->
  SN #[0] X.A (assign a X.env u) (fun _ s'=>∃b H',Inv X aa b H' s'/\Q b H') X.xe s
def VP(X:Cx)(b:List Ry)(t:Mg):Prop:=
 ∀(aa:TQ)(s:ID)(Z:St)(H:Hp)(vs:Se)(us:TK)(Q:St->Hp->Prop),Inv X aa Z H s->aU vs us->t vs Z H Q ->
  SN #[0] X.A (assignInOrder ((Wh b X.env).map (·.2)) us) (fun _ s'=>∃a H',Inv X aa a H' s'/\Q a H') X.xe s
abbrev E9:=V->V->V->Hp->(Hp->Prop)->Prop
def E8(X:Cx)(t:E9):Prop:=
 ∀(aa:List<|SA×Obj)(s:ID)(Z:St)(H:Hp)(o i v:V)(b a u:nE)(Q:Hp->Prop),Inv X aa Z H s->aP o b->aP i a->aP v u->t o i v H Q ->
  wpAny (model X.prog X.w) X.A (setItem b a u) (fun _ s'=>∃H',Inv X aa Z H' s'/\Q H') X.xe s
abbrev UL:=V->V->Hp->VK->Prop
def sqT(X:Cx)(a:Operator)(t:UL):Prop:=
 ∀(aa:TQ)(s:ID)(Z:St)(H:Hp)(x y:V)(v u:nE)(Q:VK),Inv X aa Z H s->aP x v->aP y u->t x y H Q ->
  SN #[0] X.A (inplaceOp a v u) (EP X aa Z Q) X.xe s
section
variable{pos:Pos}
def ml(i:Nat):TG:=fun v Z H Q=>Q (Z.set i<|J v) H
theorem B4(a:X.N.Nodup)(e:X.N[i]?=J x)(c:Loc X.env.scope x)(b:#[1]<|>XN):PG X (.Name x pos)<|ml i:=by
 intro aa s Z H v u Q I r h;exact wpAny_assign_Name<|tZ I a e c r (fun s' d=>⟨_,H,d,h⟩) b
def abU:Mg:=fun vs Z H Q=>vs=[]/\Q Z H
def My(t:TG)(u:Mg):Mg:=fun vs Z H Q=>∃v r,vs=v::r/\t v Z H fun a H'=>u r a H' Q
theorem E7(h1:PG X e t)(h2:VP X es u)
  (hs:(Wh (e::es) X.env).map (·.2)=assign e X.env::(Wh es X.env).map (·.2)<|>Rv):VP X (e::es)<|My t u:=by
 intro aa s Z H vs us Q I r h;obtain⟨v,b,e1,h⟩:=h;subst e1;cases r with
 |cons r a=>
  rw[hs];refine assignInOrder_cons<|bP (h1 aa s Z H _ _ _ I r h) ?_;intro _ s1 q0_;refine X7 q0_ fun σ1 H1 I1 q1=>?_;exact h2 aa s1 σ1 H1 _ _ Q I1 a q1
def SF(K:aT)(n:Nat)(t:Mg):TG:=fun v Z H Q=>∃a xs,v=.ref a/\m7 K H a xs/\xs.length=n/\t xs Z H Q
theorem PM{k:Nat}(g:X.calm=G)(h:VP X es t)
  (i:(Wh es X.env).length=n<|>Rv) (c:(Wh es X.env).findIdx? (·.1)=U<|>Rv):PG X (.Tuple es k pos)<|SF X.K n t:=by
 intro aa s Z H v u Q I r hw;obtain⟨a,xs,e1,d,j,hw⟩:=hw;subst e1;subst r;obtain⟨aV,rv,ht,hz⟩:=I.tuple d
 refine assign_Tuple_tuple (I.ok.hd g) ht (by simp[i,<-j,rv.length]) c fun h' f=>?_;have I1  := I.kept fun b o e=>f b o (Vd<|Tn e) e;exact h aa _ Z H xs _ Q I1 ⊥ hw
def VZ(a c:TE)(t:E9):TG:=fun v Z H Q=>a Z H fun o H1=>c Z H1 fun i b=>t o i v b fun d=>Q Z d
section
variable{pos:Pos}
theorem ah0(f:PE X o to)(d:PE X i ti)(hs:E8 X t)
  (j:∀v,assign (.Subscript o i pos) X.env v=(do
   let b <-holding [v] (eval o X.env)
   let c <-holding [v,b] (eval i X.env)
   standAt pos
   holding [v,b,c] (setItem b c v)
   release [v,b,c] []):=by intro _;rfl):PG X (.Subscript o i pos) (VZ to ti t):=by
 intro aa s Z H v u Q I r h;refine wpAny_bind<|wpAny_holding<|bP (f aa s Z H _ I h) fun b g a=>?_;obtain⟨x,H1,I1,r1,q1⟩:=a;refine wpAny_bind<|wpAny_holding<|bP (d aa g Z H1 _ I1 q1) fun c e a=>?_;obtain⟨y,H2,I2,r2,q2⟩:=a;refine wpAny_bind<|wpAny_standAt<|wpAny_bind<|wpAny_holding<|bP (hs aa e Z H2 x y v b c u _ I2 r1 r2 r q2) fun _ k a=>?_;obtain⟨H3,I3,q3⟩:=a;exact wpAny_release ⟨Z,H3,I3,q3⟩
end
def AL(a:TE)(g:TG):TS:=fun D Z H=>a Z H fun x H1=>g x Z H1 D.nx
section
variable{pos:Pos}
theorem ah1(b:PE X e te)(d:PG X tg g)(hs:swapsWithSole [tg] e pos.line X.env=pure η<|>Rv)(hw:swappedStores [tg] e X.env=pure U<|>Rv)
  (h1:(assignEach [tg] X.env).map (·.2)=[assign tg X.env]<|>Rv):PS X (.Assign [tg] e pos)<|AL te g:=by
 intro aa s Z H D I h;refine wpAny_Assign_stores (bP (b aa s Z H _ I h) fun v c a=>?_) hs hw;obtain⟨x,H1,I1,r1,q1⟩:=a;rw[h1];exact bP (d aa c Z H1 x v _ I1 r1 q1) fun _ f q=>q
end
theorem Rc(d:X.N.Nodup)(b:X.N[i]?=J x)(g:Loc X.env.scope x)(j:PE X e te)(hs:Uw e (J<|.Name x pos') pos.line X.env=pure η<|>Rv)(k:#[1]<|>XN):
  PS X (.Assign [.Name x pos'] e pos) (AL te<|ml i):=by
 intro aa s Z H D I h;refine wpAny_Assign_Name (bP (j aa s Z H _ I h) fun v l c=>jZ c fun y H1 a r1 q1=>?_) hs;exact tZ a d b g r1 (fun m f=>⟨_,H1,f,q1⟩) k
def abc(i:Nat)(c:TE)(a:UL):TS:=fun D Z H=>∃x,Z[i]?=J (J x)/\c Z H fun y H1=>a x y H1 fun z b=>D.nx (Z.set i<|J z) b
theorem Og(B:X.N.Nodup)(o:X.N[i]?=J x)(n:Loc X.env.scope x)(O:PE X e te)(Q:sqT X op ti)(P:#[1]<|>XN):
  PS X (.AugAssign (.Name x pos') op e pos) (abc i te ti):=by
 intro aa s Z H D I h;obtain⟨v,e1,h⟩:=h
 obtain⟨m,hn,hl⟩:=I.loc
 have j:m6 X.env.scope x:=by rcases n with k|k;exact .inl k;exact .inr (.inl k)
 obtain⟨u,r,l⟩:=hl i x v o e1 j
 refine wpAny_AugAssign_Name ?_;have p:SN #[0] X.A (eval e X.env) (fun w f=>SN #[0] X.A (inplaceOp op u w) (fun r d=>SN #[0] X.A (storeName X.env x r) (fun _=>SP X aa D .next) X.xe d) X.xe f) X.xe s:=by
  refine bP (O aa s Z H _ I h) fun w C g=>jZ g fun y H1 t r1 q1=>?_;refine bP (Q aa C Z H1 v y u w _ t r r1 q1) fun z T g=>jZ g fun S F E r2 q2=>?_;exact tZ E B o n r2 (fun R K=>⟨_,F,K,q2⟩) P
 rcases l with⟨a,q⟩|⟨a,c,M,b⟩
 .exact wpAny_loadName_local I.ok.kind a hn q p
 .rcases a with a|a
  .exact wpAny_loadName_cell I.ok.kind a M b p
  .rcases n with k|k
   .have:X.env.scope.names.lookup x=J .free:=a
    rw[k]at this;cases this
   .have:X.env.scope.names.lookup x=J .free:=a
    rw[k]at this;cases this
end
section
def Rk(c:TT)(tb:TS):TS:=fun D Z H=>∃W:Nat->St->Hp->Prop,(∃m,W m Z H)/\∀m Z H,W m Z H ->
 c Z H fun b H1=>if b=G then ∃N:St->Hp->Prop,(∀a H',N a H'->∃d,d<m/\W d a H')/\tb {D with nx:=N,ct:=N,bk:=D.nx} Z H1 else D.nx Z H1
end
structure It where
 go:Nat->Hp->Prop
 gF:Nat->Hp->V->Hp->Prop
 stop:Nat->Hp->Prop
def gE(X:Cx)(aa:TQ)(H:Hp)(b:SA):Prop:=
 H b=U/\b≠X.env.locals/\b∉X.fs/\(b∈X.ex\/X.s₀.heap.objs.size<=b)/\(∀x c,X.env.cells.lookup x=J c->c≠b)/\∀p∈X.pn++aa,p.1≠b
theorem Inv.zT{Z:St}{b:SA}(I:Inv X aa Z H s)(a:s.heap.objs.size<=b)(d:H' b=U):gE X aa H' b:=by
 refine⟨d,mS<|Rw I.lt a,I.ab6 a,.inr<|RW I.sz a,fun x c e z=>?_,fun p f z=>?_⟩
 .obtain⟨v,q⟩:=I.cell x c e
  exact absurd (Rw q.lt<|by rw[z];exact a)<|ei _
 .exact absurd (Rw (Tn (I.pin p f).1)<|by rw[z];exact a) (ei _)
structure Turn(P:Tc)(w:Sl)(K:aT)(tg:Ry)(Jq0:It)(fp:Sf)(it:SA)(tn:Nat->T3->Prop):Prop where
 mem:it∈fp
 obj:∀i h,tn i h->∀b∈fp,∃o,h.get? b=J o/\∀v,o.data≠.cell v
 keep:∀i h h',tn i h->(∀b∈fp,∀o,h.get? b=J o->h'.get? b=J o)->tn i h'
 item:∀(X:Cx),X.prog=P->X.w=w->X.K=K->X.calm=G->∀(i:Nat)(aa:TQ)(s:ID)(Z:St)(H:Hp)(E:UB),Inv X aa Z H s->(∀b∈fp,gE X aa H b)->tn i s.heap->Jq0.go i H ->
  SN (UA P w) X.A (pyNext<|.ref it) (fun r s1=>∃u,r=J u /\
   SN (UA P w) X.A (B3 tg (.ref it) u) (fun _ s2=>∃x H',Inv X aa Z H' s2/\aP x u/\Jq0.gF i H x H'/\tn (i+1) s2.heap/\∀b∈fp,H' b=U) E s1) E s
 done:∀(X:Cx),X.prog=P->X.w=w->X.K=K->X.calm=G->∀(i:Nat)(aa:TQ)(s:ID)(Z:St)(H:Hp)(E:UB),Inv X aa Z H s->(∀b∈fp,gE X aa H b)->tn i s.heap->Jq0.stop i H ->
  SN (UA P w) X.A (pyNext<|.ref it) (fun r s1=>r=U/\Inv X aa Z H s1) E s
 self:∀(A:Tx)(i:Nat)(s:ID)(Q:UB)(E:UB),tn i s.heap->Q (.ref it) s->SN (UA P w) A (pyIter<|.ref it) Q E s
abbrev TI:=St->Hp->(It->Hp->Prop)->Prop
def Z4(X:Cx)(aa:TQ)(Z:St)(tg:Ry)(R:It->Hp->Prop)(c:nE)(d:ID):Prop:=
 ∃(it:SA)(e:Sf)(tn:Nat->T3->Prop)(a:It)(H':Hp),c=.ref it/\Inv X aa Z H' d/\Turn X.prog X.w X.K tg a e it tn/\tn 0 d.heap/\(∀b∈e,gE X aa H' b)/\R a H'
def PI(X:Cx)(tg iter:Ry)(b:TI):Prop:=
 ∀(aa:TQ)(s:ID)(Z:St)(H:Hp)(R:It->Hp->Prop),Inv X aa Z H s->b Z H R ->
  SN #[0] X.A (eval iter X.env) (fun v a=>SN #[0] X.A (pyIter v) (Z4 X aa Z tg R) X.xe a) X.xe s
theorem BJ(b:s.heap.get? it=J o)(c:o.cls=.type n)(hd:o.data=.fields vs)
    (d:["enumerate","zip","dict_itemiterator","dict_reverseitemiterator","odict_iterator","itertools.zip_longest","itertools.pairwise"].contains n=η) (a:Q () s):SN M A (B3 tg (.ref it) u) Q E s:=by
  cases tg<;>first
    |exact U4 a
    |(cases u<;>first
        |exact U4 a
        | (refine iF (wpAny_load b ?_)
           rw[c,hd];show SN M A (if(["enumerate","zip","dict_itemiterator","dict_reverseitemiterator","odict_iterator","itertools.zip_longest","itertools.pairwise"].contains n&&vs[0]?==J (Xb _))=G then _ else _) Q E s;rw[SM ⊥];exact U4 a))
def XI(K:aT)(a:SA):It:=
 ⟨fun i H=>∃xs x,gr K H a xs/\xs[i]?=J x,fun i H x H'=>H'=H/\∀xs,gr K H a xs->xs[i]?=J x,fun i H=>∃xs,gr K H a xs/\xs.length<=i⟩
def WQ(K:aT)(a:SA):It:=
 ⟨fun i H=>∃xs x,m7 K H a xs/\xs[i]?=J x,fun i H x H'=>H'=H/\∀xs,m7 K H a xs->xs[i]?=J x,fun i H=>∃xs,m7 K H a xs/\xs.length<=i⟩
def V5(lo:Int)(n:Nat):It:=⟨fun i _=>i<n,fun i H x H'=>H'=H/\x=.int (lo+i),fun i _=>n<=i⟩
theorem D0{K:aT}(a it:SA):Turn P w K tg (XI K a) [it] it (fun i h=>h.IsListIter it a i) where
 mem:=∅
 obj:=fun i h st b f=>by
  obtain⟨o,e,c,d⟩:=st
  mright
 keep:=fun i h h' st k=>st.at fun o e=>k it ∅ o e
 item:=by
  intro X m hw n q i aa s Z H E I j st l;subst m hw n;left;obtain⟨xs,x,hq,hx⟩:=l
  obtain⟨aV,rv,p,hz⟩:=I.list hq
  obtain⟨u,hu,ru⟩:=rv.get hx
  refine n4 (j it ∅) fun z A F D B C=>?_
  right;refine wpAny_pyNext_list_item st p.isList (by simpa using hu) fun h' g t=>?_;have I1  := I.turned (fun b o f e=>(t.2 b f).trans e) z A D B C;let⟨o,e,c,d⟩:=id g
  exact⟨u,rfl,BJ e c d (by rfl) ⟨x,H,I1,ru,⟨rfl,fun ys r=>by rw[I.akY r hq];exact hx⟩,g,fun b f=>(j b f).1⟩⟩
 done:=by
  intro X m hw n q i aa s Z H E I j st l;subst m hw n;obtain⟨xs,hq,hx⟩:=l
  obtain⟨aV,rv,p,hz⟩:=I.list hq
  refine n4 (j it ∅) fun z A F D B C=>?_
  have y:=rv.length;exact wpAny_pyNext_list_end (I.ok.hd q) st p.isList (by simp;mright) fun h' v=>⟨rfl,I.turned (fun b o f e=>v b o f e) z A D B C⟩
 self:=fun _ _ _ _ _ st h=>wpAny_pyIter_listiter st h
theorem AI{K:aT}(a it:SA):Turn P w K tg (WQ K a) [it] it (fun i h=>h.IsTupleIter it a i) where
 mem:=∅
 obj:=fun i h st b f=>by
  have e:b=it:=by simpa using f
  subst e;obtain⟨o,e,c,d⟩:=st
  mright
 keep:=fun i h h' st k=>st.at fun o e=>k it ∅ o e
 item:=by
  intro X m hw n q i aa s Z H E I j st l;subst m hw n;left;obtain⟨xs,x,hq,hx⟩:=l
  obtain⟨aV,rv,p,hz⟩:=I.tuple hq
  obtain⟨u,hu,ru⟩:=rv.get hx
  refine n4 (j it ∅) fun z A F D B C=>?_
  right;refine wpAny_pyNext_tuple_item st ((p)) (by simpa using hu) fun h' g t=>?_;have I1  := I.turned (fun b o f e=>(t.2 b f).trans e) z A D B C;let⟨o,e,c,d⟩:=id g
  exact⟨u,rfl,BJ e c d (by rfl) ⟨x,H,I1,ru,⟨rfl,fun ys r=>by rw[I.abZ r hq];exact hx⟩,g,fun b f=>(j b f).1⟩⟩
 done:=by
  intro X m hw n q i aa s Z H E I j st l;subst m hw n;obtain⟨xs,hq,hx⟩:=l
  obtain⟨aV,rv,p,hz⟩:=I.tuple hq
  refine n4 (j it ∅) fun z A F D B C=>?_
  have y:=rv.length;exact wpAny_pyNext_tuple_end (I.ok.hd q) st ((p)) (by simp;mright) fun h' v=>⟨rfl,I.turned (fun b o f e=>v b o f e) z A D B C⟩
 self:=fun _ _ _ _ _ st h=>wpAny_pyIter_tupleiter st h
theorem Az{K:aT}(it:SA)(lo:Int)(n:Nat):Turn P w K tg (V5 lo n) [it] it (fun i h=>IsRangeIter h it (lo+(i:Nat)*1) ((n:Int)-(i:Nat)) 1) where
 mem:=∅
 obj:=fun i h st b a=>by
  mright
 keep:=fun i h h' st k=>k it ∅ _ st
 item:=by
  intro X j hw l g i aa s Z H E I d st f;subst j hw l;refine n4 (d it ∅) fun u x B A y z=>?_
  have W:=Walks.range (prog:=X.prog) (w:=X.w) (I.ok.hd g) it lo 1 n;refine aO I.tk<|W.item i s _ _ f st fun v h' tk r c q p=>?_;obtain⟨t,rfl⟩:=r;have I1  := I.turned (fun b o a e=>q b o (by simpa using a) e) u x A y z;refine⟨_,rfl,BJ c rfl rfl (by rfl) ⟨.int<|lo+i,H,I1,⟨t,?_⟩,⟨rfl,rfl⟩,c,fun b a=>(d b a).1⟩⟩;rw[Int.mul_one]
 done:=by
  intro X j hw l g i aa s Z H E I d st f;obtain⟨u,x,B,A,y,z⟩:=d it ∅
  exact wpAny_pyNext_range_end (I.ok.hd g) st (by have:n<=i:=f;lia) fun h' m=>⟨rfl,I.turned (fun b o a e=>m b o a e) u x A y z⟩
 self:=fun _ _ _ _ _ st h=>wpAny_pyIter_rangeiter st h
section
variable{tg:Ry}
theorem G8{Z:St}{lo a:Int}(I:Inv X aa Z H s)(h1:-(2^62)<=lo)(h2:lo<2^62)(g:-(2^62)<=a)(f:a<2^62)
  (q:R (V5 lo (a-lo).toNat) H) (i:X.tn<=tk<|>XW):SN #[0] X.A (pyIter<|.ref s.heap.objs.size) (Z4 X aa Z tg R) E {s with heap:=s.heap.push {cls:=.type "range",data:=.fields #[.int lo t,.int a u,.int 1 v]},toks:=tk}:=by
 refine wpAny_pyIter_range (IsRange.new ..) (small_one h1 h2 g f) ?_;have c:Inv X aa Z H {s with heap:=s.heap.push {cls:=.type "range",data:=.fields #[.int lo t,.int a u,.int 1 v]},toks:=tk}:=I.kept fun b o e=>iN _ e;refine⟨(s.heap.push {cls:=.type "range",data:=.fields #[.int lo t,.int a u,.int 1 v]}).objs.size,[(s.heap.push {cls:=.type "range",data:=.fields #[.int lo t,.int a u,.int 1 v]}).objs.size],_,_,H,rfl,
  c.kept fun b o e=>iN _ e,Az _ lo (a-lo).toNat,?_,fun b h=>?_,q⟩
 .have e1:lo+((0:Nat))*1=lo:=∅
  have d:(((a-lo).toNat))-((0:Nat))=Builtin.Range.rangeSize lo a 1:=by rw[rangeSize_one];split<;>grind
  rw[e1,d];exact Vh _ rfl
 .have e:b=(s.heap.push {cls:=.type "range",data:=.fields #[.int lo t,.int a u,.int 1 v]}).objs.size:=by simpa using h
  subst e;exact c.zT (mK _)<|c.Su.fresh<|mK _
def Ud(ta:TA):TI:=fun Z H R=>ta Z H fun vs H1=>∃i j:Int,vs=[.int i,.int j]/\(-(2^62)<=i/\i<2^62/\-(2^62)<=j/\j<2^62)/\R (V5 i (j-i).toNat) H1
section
variable{tg:Ry}
theorem agd{a b:Ry}{ta:TA}{p pos:Pos}(g:Gl X "range")(d:X.mg "range"=U)(f:PA X [a,b] ta)(hs:starEach [a,b] X.env=[(η,eval a X.env),(η,eval b X.env)]<|>Rv)(c:starEach [b] X.env=[(η,eval b X.env)]<|>Rv):
  PI X tg (.Call (.Name "range" p) [a,b] [] pos) (Ud ta):=by
 intro aa s Z H R I h;refine Call_ (tw I g d boot_range<|tL (bP (f pos aa s Z H _ I h) fun us s1 q0_=>Tw q0_ fun vs H1 I1 r1 q1=>?_) (by rw[hs,c])<|by rw[c];rfl);obtain⟨i,j,e,⟨q1,q2,q3,q4⟩,q⟩:=q1;subst e;cases r1 with
 |cons r rr=>
  cases rr with
  |cons r' rr=>
   cases rr;obtain⟨t,rfl⟩:=r;obtain⟨t',rfl⟩:=r';exact call_range_2<|G8 I1 q1 q2 q3 q4 q
end
def Uz(e:TI)(g:TG)(tb:TS):TS:=fun D Z H=>e Z H fun a H1=>∃W:Nat->Nat->St->Hp->Prop,(∃m,W 0 m Z H1)/\∀i m Z H,W i m Z H ->
 (a.stop i H/\D.nx Z H)\/(a.go i H/\∃N:St->Hp->Prop,(∀b H',N b H'->∃d,d<m/\W (i+1) d b H')/\∀x H',a.gF i H x H'->g x Z H' fun c f=>tb {D with nx:=N,ct:=N,bk:=D.nx} c f)
def mL(a:Sf)(h:T3):TQ:=a.filterMap fun b=>(h.get? b).map fun o=>(b,o)
theorem ff(a:b∈fp)(e:h.get? b=J o):(b,o)∈mL fp h:=mP.mpr ⟨b,a,by rw[e];rfl⟩
theorem DR(a:p∈mL fp h):p.1∈fp/\h.get? p.1=J p.2:=by
 obtain⟨b,hb,e⟩:=mP.mp a
 cases q:h.get? b with
 |none=>mright
 |some o=>
  rw[q]at e;have e'  := zB e;subst e';exact⟨hb,q⟩
theorem Inv.pinned{Z:St}(I:Inv X aa Z H s)(c:∀b∈fp,gE X aa H b)(f:∀b∈fp,∃o,s.heap.get? b=J o/\∀v,o.data≠.cell v):Inv X (aa++mL fp s.heap) Z H s:=
 I.Y7 fun p g=>(BY.mp g).elim (fun z=>I.pin p<|OR _ z) fun z=>by
  obtain⟨a,e⟩:=DR z;refine Xl (c p.1 a) fun h j i _=>?_
  obtain⟨o,e',d⟩:=f p.1 a
  mright
theorem Inv.p6{Z:St}(I:Inv X (aa++pl) Z H s):Inv X aa Z H s:=I.Y7 fun p a=>I.pin p<|OR _<|Le _ a
theorem OL(q:zJ #[0] X.A X.env X.xe)(C:X.calm=G)(M:PI X tg iter wi)(K:PG X tg g)(l:IR X body tb)
  (hs:(∀x,pg iter X.env x=pure x)<|>uN):PS X (.For tg iter body [] pos)<|Uz wi g tb:=by
 intro aa s Z H D I h;refine wpAny_For (bP (M aa s Z H _ I h) fun v s1 h1=>bP h1 fun itv s2 h2=>?_) hs;left;obtain⟨it,t,tn,F,R,e,Q,T,z,E,W,⟨S,O⟩,oO⟩:=h2;right;subst e
 have k:∀{H':Hp},(∀b∈t,H' b=U)->∀b∈t,gE X aa H' b:=fun hn b l=>⟨hn b l,(E b l).2⟩;refine codeAny_forLoop_any (fun n s'=>∃i c H',Inv X aa c H' s'/\tn i s'.heap/\(∀b∈t,H' b=U)/\W i n c H') ?_ S ⟨0,Z,R,Q,z,fun b l=>(E b l).1,O⟩;intro n s3 q_;refine c7 q_ fun i σ3 H3 I3 st3 fr3 w3=>?_;left;rcases oO i n σ3 H3 w3 with⟨y,qn⟩|⟨V,N,P,step⟩
 .right;refine eN q (bP (T.done X rfl rfl rfl C i aa s3 σ3 H3 X.xe I3 (k fr3) st3 y) fun r s4⟨hr,I4⟩=>?_);subst hr;exact h8 ⟨σ3,H3,I4,qn⟩
 .right;refine eN q (bP (T.item X rfl rfl rfl C i aa s3 σ3 H3 X.xe I3 (k fr3) st3 V) fun r s4⟨u,hr,h4⟩=>?_);subst hr;refine eN q<|bP h4 ?_;intro _ s5 q_;refine y2 q_ fun x H5 I5 r5 y5 st5 fr5=>?_;have B:=I5.pinned (k fr5)<|T.obj _ _ st5;refine eN q<|bP (K _ s5 σ3 H5 x u _ B r5<|step x H5 y5) ?_;intro _ s6 q0_;refine X7 q0_ fun σ6 H6 I6 q6=>?_;refine eN q<|bP (l _ s6 σ6 H6 _ I6 q6) fun f s7 p=>?_;have again:∀{a:St}{j:Hp},Inv X (aa++mL t s5.heap) a j s7->N a j->∃m,m<n/\∃i c H',Inv X aa c H' s7/\tn i s7.heap/\(∀b∈t,H' b=U)/\W i m c H':=fun{a j}I7 n7=>by
   obtain⟨m',hm,w7⟩:=P a j n7
   refine⟨m',hm,i+1,a,j,I7.p6,T.keep _ _ _ st5 fun b l o e=>(I7.pin (b,o)<|OR _<|OR _<|ff l e).1,fun b l=>?_,w7⟩;obtain⟨o,e,d⟩:=T.obj _ _ st5 b l
   exact(I7.pin (b,o)<|OR _<|OR _<|ff l e).2.1
  cases f with
  |next=>obtain⟨a,j,I7,n7⟩:=p;exact again I7 n7
  |cont=>obtain⟨a,j,I7,n7⟩:=p;exact again I7 n7
  |brk=>obtain⟨a,j,I7,p⟩:=p;exact⟨a,j,I7.p6,p⟩
  |ret v=>left;refine WM p fun x7 a j I7 r7 p=>?_;right;exact⟨x7,a,j,I7.p6,r7,p⟩
abbrev aoi:=V->V->Hp->VK->Prop
end
def eJ(X:Cx)(f:nE->nE->Sem nE)(r:UL):Prop:=
 ∀(aa:TQ)(s:ID)(Z:St)(H:Hp)(x y:V)(v u:nE)(Q:VK),Inv X aa Z H s->aP x v->aP y u->r x y H Q ->
  SN #[0] X.A (f v u) (EP X aa Z Q) X.xe s
def KD(X:Cx)(f:nE->Sem nE)(r:V->Hp->VK->Prop):Prop:=
 ∀(aa:TQ)(s:ID)(Z:St)(H:Hp)(x:V)(v:nE)(Q:VK),Inv X aa Z H s->aP x v->r x H Q ->
  SN #[0] X.A (f v) (EP X aa Z Q) X.xe s
def bI(X:Cx)(f:nE)(r:Se->Hp->VK->Prop):Prop:=
 ∀(aa:TQ)(s:ID)(Z:St)(H:Hp)(xs:Se)(us:TK)(Q:VK),Inv X aa Z H s->aU xs us->r xs H Q ->
  SN #[0] X.A (call f us) (EP X aa Z Q) X.xe s
def aa8(X:Cx)(r:V->Hp->(Bool->Hp->Prop)->Prop):Prop:=
 ∀(aa:TQ)(s:ID)(Z:St)(H:Hp)(x:V)(v:nE)(Q:Bool->Hp->Prop),Inv X aa Z H s->aP x v->r x H Q ->
  SN #[0] X.A (truthy v) (TP X aa Z Q) X.xe s
def NB(r:UL)(ta tb:TE):TE:=fun Z H Q=>ta Z H fun x H1=>tb Z H1 fun y a=>r x y a Q
def tUn(r:V->Hp->VK->Prop)(ta:TE):TE:=fun Z H Q=>ta Z H fun x H1=>r x H1 Q
def rI(C:Int->Int->Prop)(g:Int->Int->V):UL:=fun x y H Q=>∃i j,x=.int i/\y=.int j/\C i j/\Q (g i j) H
def Nm(g:Int->Int->V):UL:=fun x y H Q=>∃i j,x=.int i/\y=.int j/\Q (g i j) H
def rU(g:Int->V):V->Hp->VK->Prop:=fun x H Q=>∃i,x=.int i/\Q (g i) H
section
theorem Ou(n:PE X a ta)(o:PE X b tb){Z:St}{R:V->V->Hp->Prop}(I:Inv X aa Z H s)
  (h:ta Z H fun x H1=>tb Z H1 fun y c=>R x y c) {f:nE->nE->Sem nE}
  (m:∀v u g x y c,Inv X aa Z c g->aP x v->aP y u->R x y c->SN #[0] X.A (f v u) Q X.xe g):
  SN #[0] X.A (eval a X.env) (fun v d=>SN #[0] X.A (eval b X.env) (fun u e=>SN #[0] X.A (f v u) Q X.xe e) X.xe d) X.xe s:=by
 refine bP (n aa s Z H _ I h) fun v k i=>jZ i fun x H1 j r1 q1=>?_;refine bP (o aa k Z H1 _ j q1) fun u g i=>jZ i fun y c l r2 q2=>?_;exact m v u g x y c l r1 r2 q2
theorem VE{g:Int->Int->Int}
  (rule:∀(i j:Int)(t u:Tok)(s:ID)(Q:UB)(E:UB),C i j->Q (.int (g i j) s.toks) {s with toks:=s.toks+1}->SN #[0] X.A (f (.int i t)<|.int j u) Q E s):
  eJ X f (rI C fun i j=>.int<|g i j):=by
 intro aa s Z H x y v u Q I c b h;obtain⟨i,j,rfl,rfl,a,q⟩:=h;obtain⟨t,rfl⟩:=c;obtain⟨t',rfl⟩:=b;exact rule i j t t' s _ _ a ⟨.int<|g i j,H,I.tok _,⟨_,rfl⟩,q⟩
theorem Qx{g:Int->Int->Int}
  (rule:∀(i j:Int)(t u:Tok)(s:ID)(Q:UB)(E:UB),Q (.int (g i j) s.toks) {s with toks:=s.toks+1}->SN #[0] X.A (f (.int i t)<|.int j u) Q E s):
  eJ X f (Nm fun i j=>.int<|g i j):=by
 intro aa s Z H x y v u Q I b a h;obtain⟨i,j,rfl,rfl,q⟩:=h;obtain⟨t,rfl⟩:=b;obtain⟨t',rfl⟩:=a;exact rule i j t t' s _ _ ⟨.int<|g i j,H,I.tok _,⟨_,rfl⟩,q⟩
theorem L6{g:Int->Int->Bool}
  (rule:∀(i j:Int)(t u:Tok)(s:ID)(Q:UB)(E:UB),Q (.bool<|g i j) s->SN #[0] X.A (f (.int i t)<|.int j u) Q E s):
  eJ X f (Nm fun i j=>.bl<|g i j):=by
 intro aa s Z H x y v u Q I b a h;obtain⟨i,j,rfl,rfl,q⟩:=h;obtain⟨t,rfl⟩:=b;obtain⟨t',rfl⟩:=a;exact rule i j t t' s _ _ ⟨.bl<|g i j,H,I,rfl,q⟩
def ET(i j:Int):Prop:=0<j/\j<1073741824
def Iy(i j:Int):Prop:=0<=j/\j<=1000000/\i.natAbs<2^64
def y3(i j:Int):Prop:=(-(2^64)<i/\i<2^64)\/(-(2^64)<j/\j<2^64)
theorem y3.ok(h:y3 i j):IntMulOk i j:=by
 rcases h with⟨h1,h2⟩|⟨h1,h2⟩
 .exact .of_left (intBits_le_64 h1 h2)
 .exact .of_right (intBits_le_64 h1 h2)
theorem OX:eJ X (Yo .Add)<|Nm fun i j=>.int<|i+j:=Qx fun _ _ _ _ _ _ _ q=>add_int q
theorem afq:eJ X (Yo .Sub)<|Nm fun i j=>.int<|i-j:=Qx fun _ _ _ _ _ _ _ q=>sub_int q
theorem Q0:eJ X (Yo .Mult)<|rI y3 fun i j=>.int<|i*j:=VE fun _ _ _ _ _ _ _ a q=>mul_int q a.ok
theorem Mb:eJ X (Yo .FloorDiv)<|rI ET fun i j=>.int<|i/j:=VE fun i j _ _ _ _ _ a q=>by
 have h1  := a.1;have h2  := a.2;exact floordiv_int ⊥ (by grind) (.inl<|PyProof.noPylong_small<|by grind)
theorem Ot:eJ X (Yo .Mod)<|rI (fun _ j=>0<j) fun i j=>.int<|i%j:=VE fun i j _ _ _ _ _ a q=>by
 exact mod_int' ⊥ (by rw[Int.fmod_eq_emod_of_nonneg i<|⊥];exact q)
theorem akw:eJ X (binaryOp .Pow)<|rI Iy fun i j=>.int<|i^j.toNat:=VE fun _ _ _ _ _ _ _ hc q=>pow_int_small hc.1 hc.2.1 hc.2.2 q
theorem unI{g:Int->Int}
  (rule:∀(i:Int)(t:Tok)(s:ID)(Q:UB)(E:UB),Q (.int (g i) s.toks) {s with toks:=s.toks+1}->SN #[0] X.A (f<|.int i t) Q E s):
  KD X f (rU fun i=>.int<|g i):=by
 intro aa s Z H x v Q I a h;obtain⟨i,rfl,q⟩:=h;obtain⟨t,rfl⟩:=a;exact rule i t s _ _ ⟨.int<|g i,H,I.tok _,⟨_,rfl⟩,q⟩
theorem Qs:KD X (unaryOp .USub)<|rU fun i=>.int<|-i:=unI fun _ _ _ _ _ q=>neg_int q
end
noncomputable def wI:V->V->Bool
 |.S9,.S9=>G|.S9,.int _=>G|.int _,.S9=>G|.S9,.bl _=>G|.bl _,.S9=>G|.S9,.str _=>G|.str _,.S9=>G
 |.int _,.int _=>G|.bl _,.bl _=>G|.str _,.str _=>G|.X4 _,.X4 _=>G
 |.int _,.str _=>G|.str _,.int _=>G|.bl _,.str _=>G|.str _,.bl _=>G
 |_,_=>η
def rEq:UL:=fun x y H Q=>wI x y=G/\Q (.bl<|decide (x=y)) H
def rNe:UL:=fun x y H Q=>wI x y=G/\Q (.bl<|!decide (x=y)) H
theorem Ba:decide (V.int i=V.int j)=(i==j):=by
 rw[iC];simp
theorem EC:decide (V.bl i=V.bl j)=(i==j):=by
 rw[iC];simp
theorem BQ:decide (V.str i=V.str j)=(i==j):=by
 rw[iC];simp
theorem Cs:decide (V.X4 i=V.X4 j)=(i.toList==j.toList):=by
 rw[iC];cases i;cases j;simp
section
variable{X:Cx}{a b c:Ry}{ta tb tc:TE}{pos:Pos}
theorem aB{Z:St}(I:Inv X aa Z H s)(q:Q (.bl k) H)(e:k=k'):EP X aa Z Q (.bool k') s:=by
 subst e;exact⟨.bl k,H,I,rfl,q⟩
theorem aaD:eJ X (UI .Eq) rEq:=by
 intro aa s Z H x y v u Q I b a h;obtain⟨hs,q⟩:=h
 cases x with
 |S9=>
  cases b;cases y with
  |S9=>cases a;exact PySem.EqNone.eq_none_none (aB I q<|∅)
  |bl j=>cases a;exact PySem.EqNone.eq_none_bool (aB I q<|∅)
  |int j=>obtain⟨t',rfl⟩:=a;exact PySem.EqNone.eq_none_int (aB I q<|∅)
  |str j=>obtain⟨t',rfl⟩:=a;exact PySem.EqNone.eq_none_str (aB I q<|∅)
  |_=>exact absurd (show η=G from hs) MK
 |bl i=>
  cases b;cases y with
  |S9=>cases a;exact PySem.EqNone.eq_bool_none (aB I q<|∅)
  |bl j=>cases a;exact eq_bool<|aB I q EC
  |str j=>obtain⟨t',rfl⟩:=a;exact PySem.EqMixed.eq_bool_str (aB I q<|∅)
  |_=>exact absurd (show η=G from hs) MK
 |int i=>
  obtain⟨t,rfl⟩:=b;cases y with
  |S9=>cases a;exact PySem.EqNone.eq_int_none (aB I q<|∅)
  |int j=>obtain⟨t',rfl⟩:=a;exact eq_int<|aB I q Ba
  |str j=>obtain⟨t',rfl⟩:=a;exact PySem.EqMixed.eq_int_str (aB I q<|∅)
  |_=>exact absurd (show η=G from hs) MK
 |str i=>
  obtain⟨t,rfl⟩:=b;cases y with
  |S9=>cases a;exact PySem.EqNone.eq_str_none (aB I q<|∅)
  |bl j=>cases a;exact PySem.EqMixed.eq_str_bool (aB I q<|∅)
  |int j=>obtain⟨t',rfl⟩:=a;exact PySem.EqMixed.eq_str_int (aB I q<|∅)
  |str j=>obtain⟨t',rfl⟩:=a;exact eq_str<|aB I q BQ
  |_=>exact absurd ((hs)) MK
 |X4 i=>
  obtain⟨t,rfl⟩:=b;cases y with
  |X4 j=>obtain⟨t',rfl⟩:=a;exact PySem.W.eq_bytes<|aB I q Cs
  |_=>exact absurd ((hs)) MK
 |_=>cases y<;>exact absurd ((hs)) MK
theorem aaY:eJ X (UI .NotEq) rNe:=by
 intro aa s Z H x y v u Q I b a h;obtain⟨hs,q⟩:=h
 cases x with
 |S9=>
  cases b;cases y with
  |S9=>cases a;exact PySem.EqNone.ne_none_none (aB I q<|∅)
  |bl j=>cases a;exact PySem.EqNone.ne_none_bool (aB I q<|∅)
  |int j=>obtain⟨t',rfl⟩:=a;exact PySem.EqNone.ne_none_int (aB I q<|∅)
  |str j=>obtain⟨t',rfl⟩:=a;exact PySem.EqNone.ne_none_str (aB I q<|∅)
  |_=>exact absurd (show η=G from hs) MK
 |bl i=>
  cases b;cases y with
  |S9=>cases a;exact PySem.EqNone.ne_bool_none (aB I q<|∅)
  |bl j=>cases a;exact ne_bool<|aB I q<|UN not EC
  |str j=>obtain⟨t',rfl⟩:=a;exact PySem.EqMixed.ne_bool_str (aB I q<|∅)
  |_=>exact absurd (show η=G from hs) MK
 |int i=>
  obtain⟨t,rfl⟩:=b;cases y with
  |S9=>cases a;exact PySem.EqNone.ne_int_none (aB I q<|∅)
  |int j=>obtain⟨t',rfl⟩:=a;exact ne_int<|aB I q<|UN not Ba
  |str j=>obtain⟨t',rfl⟩:=a;exact PySem.EqMixed.ne_int_str (aB I q<|∅)
  |_=>exact absurd (show η=G from hs) MK
 |str i=>
  obtain⟨t,rfl⟩:=b;cases y with
  |S9=>cases a;exact PySem.EqNone.ne_str_none (aB I q<|∅)
  |bl j=>cases a;exact PySem.EqMixed.ne_str_bool (aB I q<|∅)
  |int j=>obtain⟨t',rfl⟩:=a;exact PySem.EqMixed.ne_str_int (aB I q<|∅)
  |str j=>obtain⟨t',rfl⟩:=a;exact ne_str<|aB I q<|UN not BQ
  |_=>exact absurd ((hs)) MK
 |X4 i=>
  obtain⟨t,rfl⟩:=b;cases y with
  |X4 j=>obtain⟨t',rfl⟩:=a;exact PySem.W.ne_bytes<|aB I q<|UN not Cs
  |_=>exact absurd ((hs)) MK
 |_=>cases y<;>exact absurd ((hs)) MK
theorem TW:eJ X (UI .Lt)<|Nm fun i j=>.bl<|decide (i<j):=L6 fun _ _ _ _ _ _ _ q=>lt_int q
theorem kIn:eJ X (UI .LtE)<|Nm fun i j=>.bl<|decide (i<=j):=L6 fun _ _ _ _ _ _ _ q=>le_int q
theorem hok:eJ X (UI .Gt)<|Nm fun i j=>.bl<|decide (j<i):=L6 fun _ _ _ _ _ _ _ q=>gt_int q
theorem Xv:eJ X (UI .GtE)<|Nm fun i j=>.bl<|decide (j<=i):=L6 fun _ _ _ _ _ _ _ q=>ge_int q
theorem Dt:eJ X (UI .Lt) (fun x y H Q=>∃i j,x=.str i/\y=.str j/\Q (.bl<|decide (i.cps.toList<j.cps.toList)) H):=by
 intro aa s Z H x y v u Q I b a h;obtain⟨i,j,rfl,rfl,q⟩:=h;obtain⟨t,rfl⟩:=b;obtain⟨t',rfl⟩:=a;exact lt_str<|aB I q rfl
theorem Dp:eJ X (UI .In) (fun x y H Q=>∃i j,x=.str i/\y=.str j/\Q (.bl<|!(jb j i 0 j.length 1).isEmpty) H):=by
 intro aa s Z H x y v u Q I b a h;obtain⟨i,j,rfl,rfl,q⟩:=h;obtain⟨t,rfl⟩:=b;obtain⟨t',rfl⟩:=a;exact in_str<|aB I q rfl
theorem Qr:eJ X (UI .Is) (fun x y H Q=>y=.S9/\Q (.bl<|decide (x=.S9)) H):=by
 intro aa s Z H x y v u Q I b a h;obtain⟨rfl,q⟩:=h;subst a;refine is_none_gen<|aB I q ?_;cases x<;>first
  |(rfl)
  |(obtain⟨t,rfl⟩:=b;rfl)
theorem Lc:eJ X (UI .IsNot) (fun x y H Q=>y=.S9/\Q (.bl<|!decide (x=.S9)) H):=by
 intro aa s Z H x y v u Q I a b h;obtain⟨rfl,q⟩:=h;subst b;refine isnot_none_gen<|aB I q ?_;cases x<;>first
  |(subst a;rfl)
  |(obtain⟨t,rfl⟩:=a;rfl)
theorem wS:eJ X (UI .NotIn) (fun x y H Q=>∃i j,x=.str i/\y=.str j/\Q (.bl<|!(!(jb j i 0 j.length 1).isEmpty)) H):=by
 intro aa s Z H x y v u Q I b a h;obtain⟨i,j,rfl,rfl,q⟩:=h;obtain⟨t,rfl⟩:=b;obtain⟨t',rfl⟩:=a;exact notIn_str<|aB I q rfl
theorem eJ.or(h:eJ X f r)(h':eJ X f r'):eJ X f (fun x y H Q=>r x y H Q\/r' x y H Q):=by
 intro aa s Z H x y v u Q I b a q;rcases q with q|q
 .exact h aa s Z H x y v u Q I b a q
 .exact h' aa s Z H x y v u Q I b a q
def dxq(K:aT)(x:V)(H:Hp)(k:Bool):Prop:=
 match x with
 |.S9=>k=η
 |.bl b=>k=b
 |.int i=>k=(i != 0)
 |.str y=>y.length<=Ta/\k=((y.length:Int) != 0)
 |.X4 y=>y.size<=Ta/\k=((y.size:Int) != 0)
 |.ref p=>(∃xs,gr K H p xs/\k=!xs.isEmpty)\/(∃xs,m7 K H p xs/\k=!xs.isEmpty)\/∃a,H p=J (.dK a)/\k=!a.isEmpty
 |_=>False
theorem ach{a:List<|κ×V}{vs:List<|κ×nE}(r:KV a vs):(!vs.isEmpty)=!a.isEmpty:=by
 cases r<;>rfl
theorem sy(r:aU xs aV):(!aV.toArray.isEmpty)=!xs.isEmpty:=by
 cases r<;>rfl
theorem pM:(Ta:Nat)<2^63:=by rw[XB];decide
theorem Qg:aa8 X (fun x H Q=>∃k,dxq X.K x H k/\Q k H):=by
 intro aa s Z H x v Q I f h;obtain⟨k,e,q⟩:=h
 have j:=pM;have hs:Ta=16777216:=XB;cases x with
 |S9=>
  cases f;have a:k=η:=e;subst a;exact truthy_none ⟨H,I,q⟩
 |bl b=>
  cases f;have a:k=b:=e;subst a;exact iT ⟨H,I,q⟩
 |int i=>
  obtain⟨t,rfl⟩:=f;have a:k=(i != 0):=e;subst a;exact PySem.P.truthy_int ⟨H,I,q⟩
 |str y=>
  obtain⟨t,rfl⟩:=f;obtain⟨hy,a⟩:y.length<=Ta/\k=((y.length:Int) != 0):=e
  subst a;exact PySem.P.truthy_str ⊥ ⟨H,I.tok _,q⟩
 |X4 y=>
  obtain⟨t,rfl⟩:=f;obtain⟨hy,a⟩:y.size<=Ta/\k=((y.size:Int) != 0):=e
  subst a;exact PySem.W.truthy_bytes ⊥ ⟨H,I.tok _,q⟩
 |ref p=>
  cases f;have a:(∃xs,gr X.K H p xs/\k=!xs.isEmpty)\/(∃xs,m7 X.K H p xs/\k=!xs.isEmpty)\/∃c,H p=J (.dK c)/\k=!c.isEmpty:=e;rcases a with⟨xs,g,a⟩|⟨xs,g,a⟩|⟨c,g,a⟩
  .subst a;obtain⟨aV,r,pl,hz⟩:=I.list g
   have d:=r.length;exact wpAny_truthy_list pl.isList (by simp only[XC];lia) ⟨H,I.tok _,by rw[sy r];exact q⟩
  .subst a;obtain⟨aV,r,pl,hz⟩:=I.tuple g
   have d:=r.length;exact truthy_tuple pl (by simp only[XC];lia) ⟨H,I.tok _,by rw[sy r];exact q⟩
  .subst a;obtain⟨hz,hS,vs,r,m⟩:c.length<=Ta/\(p==zL)=η/\∃vs,KV c vs/\s.heap.DictOf (dE X.prog X.w) p vs:=I.Su p _ g
   have d  := Paired.length r;exact wpAny_truthy_dict hS m ⊥ ⟨H,I.tok _,by rw[ach r];exact q⟩
 |_=>exact((e)).elim
theorem Ak:eJ X (Yo .Add) (fun x y H Q=>∃i j,x=.str i/\y=.str j/\i.length+j.length<=Ta/\Q (.str<|i++j) H):=by
 intro aa s Z H x y v u Q I c b h;obtain⟨i,j,rfl,rfl,a,q⟩:=h;obtain⟨t,rfl⟩:=c;obtain⟨t',rfl⟩:=b;exact aO I.tk<|add_str (fun t' tk d=>⟨.str<|i++j,H,I.tok _,⟨_,rfl⟩,q⟩) a
theorem jV(r:aU [x] us):∃u,us=[u]/\aP x u:=by
 cases r with
 |cons r1 r2=>cases r2;exact⟨_,rfl,r1⟩
theorem ya(r:aU [x,y] us):∃u w',us=[u,w']/\aP x u/\aP y w':=by
 cases r with
 |cons r1 r2=>
  cases r2 with
  |cons r3 r4=>cases r4;exact⟨_,_,rfl,r1,r3⟩
theorem DM:bI X (.type "int") (fun xs H Q=>(∃i,xs=[.int i]/\Q (.int i) H)\/∃k,xs=[.bl k]/\Q (.int<|if k then 1 else 0) H):=by
 intro aa s Z H xs us Q I r h;rcases h with⟨i,rfl,q⟩|⟨k,rfl,q⟩
 .obtain⟨u,rfl,t,rfl⟩:=jV r;exact call_int_int ⟨.int i,H,I,⟨_,rfl⟩,q⟩
 .obtain⟨u,rfl,r1⟩:=jV r;subst r1;exact call_int_bool ⟨.int<|if k then 1 else 0,H,I.tok _,⟨_,rfl⟩,q⟩
end
structure c5(h:T3)(x dx C:SA)(mA:Sq):Prop where
 obj:h.get? x=J (mH C dx)
 ns:h.Ns1 dx mA
 ne:dx≠x
theorem DW{h:T3}(n:h.Ns1 dx mA):∃b,h.get? dx=J b/\∀name,tO name b=J (mA name):=by
 refine rm n fun o es i d hd c _ f=>?_;refine⟨o,d,fun name=>?_⟩;have e:=f name;unfold nsFind findBy at e;delta tO;rw[hd];dsimp only;split
 .mright
 .have a:es.toList.any (·.refKey)=η:=by
   rw[List.any_eq_false];intro y g;obtain⟨z,t,hkey⟩:=c y<|Array.mem_toList_iff.mp g
   simp[DictEntry.refKey,hkey]
  grind
theorem c5.look(I:c5 h x dx C mA):∃a,S0 h x (mH C dx) C (J a)/\∀name,tO name a=J (mA name):=
 let⟨a,ho,hl⟩:=DW I.ns
 ⟨a,⟨I.obj,rfl,rfl,ho⟩,hl⟩
section
variable{s:ID}{K:aT}
theorem get_map(X:K.In s.heap)(I:c5 s.heap x dx C mA)(d:mf K C name=G)(g:sA K C=G)
  (c:Yt K (.ref C) name=J U) (f:mA name=J v) (b:PySem.W.handedIn v=G) (h:Q v {s with toks:=s.toks+1}):
  SN (UA prog w) A (getAttr (.ref x) name expr) Q E s:=by
 obtain⟨i,a,e⟩:=I.look;exact PySem.W.get_value X a (AQ d).1 (PySem.W.findObj_own g c rfl (by rw[e,f])) b h
theorem EY{pl:Sem Bool}{Q:nE×TK->ID->Prop}(X:K.In s.heap)(I:c5 s.heap x dx C mA)(b:mf K C name=G)
  (c:Yt K (.ref C) name=J (J<|.ref f)) (e:mT K (.ref f)=G) (i:mA name=U) (h:Q (.ref f,[.ref x]) s):
  SN (UA prog w) A (getMethod (.ref x) name pl) Q E s:=by
 obtain⟨d,a,g⟩:=I.look;exact PySem.W.method_fn X a (AQ b).1 (AQ b).2 c (beq_iff_eq.mp e) (by show(tO name d).map (·.isSome)=J η;rw[g,i];rfl) h
theorem JF(X:K.In s.heap)(I:c5 s.heap x dx C mA)
  (hs:Yt K (.ref C) "__setattr__"=J (J<|.builtin "object.__setattr__")) (g:zO K C=G) (d:yS K C name=J U) (f:sA K C=G)
  (hw:Bf mA ns) (e:ns.length<=Ta)
  (h:∀h',c5 h' x dx C (fun y=>if y=name then J v else mA y)->X1 dx s.heap h'->Q () {s with heap:=h',toks:=s.toks+2}):
  SN (UA prog w) A (setAttr (.ref x) name v) Q E s:=by
 obtain⟨od,Jq0,hl⟩:=I.look
 refine PySem.W.set_plain X Jq0 hs<|PySem.W.osa_open X Jq0 g d fun b=>?_;let⟨cd,hc,hd'⟩:=PySem.W.any_some f
 have hx  := I.obj;refine iF<|U4<|iF<|iF<|wpAny_loadPart hx<|iF<|PySem.W.Looks.here (PySem.W.looks_clsIn X hc) ?_;rw[hd'];refine U4<|iF<|U4<|iF ?_;refine wpAny_nsSet1 I.ns fun h' c a=>?_;let⟨oD,esD,epD,hoD,hdD,hcD⟩:=c.count<|PySem.Within.cons name v hw
 refine iF<|wpAny_lookBehind hoD (by rw[hdD];exact pastItsLine_dict<|RW hcD<|by mright) ?_;exact U4<|h _ ⟨(a.2 _<|Vn I.ne).trans I.obj,c,I.ne⟩ a
end
noncomputable def f9(f:Str)(v:V):List (Str×V)->List (Str×V)
 |[]=>[(f,v)]
 |(g,x)::r=>if g=f then(g,v)::r else(g,x)::f9 f v r
theorem Z34(f g:Str)(v:V):∀fs:List<|Str×V,(f9 f v fs).lookup g=if g=f then J v else fs.lookup g:=TB (by
  show wA g [(f,v)]=_;by_cases h:g=f
  .mright
  mright) fun ⟨k,x⟩ r i_=>by
  have b:=i_;rw[show f9 f v ((k,x)::r)=(if k=f then(k,v)::r else(k,x)::f9 f v r)from rfl];by_cases a:k=f
  .rw[SI a];by_cases h:g=k
   .mright
   .have hb  := beq_eq_false_iff_ne.mpr h;simp only[wA,hb,SM fun e:g=f=>h<|e.trans a.symm]
  .rw[SM a];by_cases h:g=k
   .mright
   .have hb  := beq_eq_false_iff_ne.mpr h;simp only[wA,hb];exact b
theorem oJ(f:Str)(v:V):∀fs:List<|Str×V,f∈(f9 f v fs).map (·.1)/\∀g,g∈fs.map (·.1)->g∈(f9 f v fs).map (·.1):=TB (⟨by simp[f9],fun g h=>by mright⟩) fun ⟨k,x⟩ r i_=>by
  obtain⟨i1,i2⟩:=i_
  rw[show f9 f v ((k,x)::r)=(if k=f then(k,v)::r else(k,x)::f9 f v r)from rfl]
  grind
theorem Z16(f:Str)(v:V):∀fs:List<|Str×V,(f9 f v fs).length<=fs.length+1:=TB (by simp[f9]) fun ⟨k,x⟩ r i_=>by
  have a:=i_;rw[show f9 f v ((k,x)::r)=(if k=f then(k,v)::r else(k,x)::f9 f v r)from rfl]
  grind
theorem pE.some_of(r:pE (J v) o):∃u,o=J u/\aP v u:=by
 cases o with
 |none=>exact((r)).elim
 |some u=>exact⟨u,rfl,r⟩
theorem pE.none_of(r:pE U o):o=U:=by
 cases o with
 |none=>rfl
 |some u=>exact((r)).elim
section
theorem rK(b:nW P w H h)(e:H a=J (.ins C dx fs)):∃mA,c5 h a dx C mA/\(∀f,pE (fs.lookup f)<|mA f)/\Bf mA (fs.map (·.1))/\fs.length<=1000/\H dx=J (.own a):=by
 obtain⟨d,z,c,g,mA,n,r,q⟩:=((b a _ e));exact⟨mA,⟨g,n,c⟩,r,q,z,d⟩
end
structure UR(K:aT)(C:SA):Prop where
 aeD:mf K C qT=G
 hd:sA K C=G
 po:zO K C=G
 sa:Yt K (.ref C) "__setattr__"=J (J<|.builtin "object.__setattr__")
theorem UR.get{K:aT}(c:UR K C)(f:Str):mf K C f=G:=c.aeD
def a9(K:aT)(C:SA)(f:Str):Prop:=Yt K (.ref C) f=J U
theorem a9.abC{K:aT}(n:a9 K C f):yS K C f=J U:=by
 delta yS;rw[(n)];rfl
structure kF(K:aT)(C:SA)(m:Str)(f:SA):Prop where
 at_:Yt K (.ref C) m=J (J<|.ref f)
 fn:mT K (.ref f)=G
 kp:Xq K (.ref f)=G
section
variable{Z:St}
theorem tR(I:Inv X aa Z H s)(e:H a=J (.ins C dx fs))(c:UR X.K C)(n:a9 X.K C f)(l:fs.lookup f=J v)
  (h:∀u s',Inv X aa Z H s'->aP v u->Q u s'):SN #[0] A (getAttr (.ref a) f b) Q E s:=by
 refine gS (rK I.Su e) fun mA O r _ _ _=>?_;obtain⟨u,hu,ru⟩:=pE.some_of (v:=v) (o:=mA f) (by grind)
 exact get_map I.U3 O (c.get f) c.hd n hu ((by
   cases v with
   |S9=>cases((ru));rfl
   |bl b=>cases((ru));rfl
   |int i=>obtain⟨t,e⟩:=((ru));subst e;rfl
   |str x=>obtain⟨t,e⟩:=((ru));subst e;rfl
   |X4 b=>obtain⟨t,e⟩:=((ru));subst e;rfl
   |xH b=>obtain⟨t,e⟩:=((ru));subst e;rfl
   |ref a=>cases((ru));rfl
   |ty n=>cases((ru));rfl)) (h u _ (I.tok _) ru)
theorem ua{m:Str}{g:SA}{pl:Sem Bool}{Q:nE×TK->ID->Prop}(I:Inv X aa Z H s)(e:H a=J (.ins C dx fs))(c:UR X.K C)(k:kF X.K C m g)(l:fs.lookup m=U)
  (h:Q (.ref g,[.ref a]) s):SN #[0] A (getMethod (.ref a) m pl) Q E s:=by
 obtain⟨mA,O,r,_,_,_⟩:=rK I.Su e;have b:mA m=U:=pE.none_of (by rw[<-l];exact r m);exact EY I.U3 O (c.get m) k.at_ k.fn b h
theorem si(I:Inv X aa Z H s)(e:H a=J (.ins C dx fs))(c:UR X.K C)(n:a9 X.K C f)(m:fs.length<1000)(k:aP y u)
  (h:∀s',Inv X aa Z (br H a<|.ins C dx<|f9 f y fs) s'->Q () s'):SN #[0] A (setAttr (.ref a) f u) Q E s:=by
 refine gS (rK I.Su e) fun mA O r p _ t=>?_
 have i:(fs.map (·.1)).length<=Ta:=by rw[WH,XB];lia
 refine JF I.U3 O c.sa c.po n.abC c.hd p i fun h' O' j=>h _ ?_;have hd:∃o,h'.get? dx=J o:=let⟨o,_,_,e',_⟩:=O'.ns;⟨o,e'⟩;refine I.write (by rw[e];exact Uy) (.inr t) (fun b q l z=>(j.2 b l).trans z) hd ?_;refine⟨by rw[aG O.ne];exact t,?_,O.ne,O'.obj,_,O'.ns,fun g=>?_,fun g d=>?_⟩
 .have:=Z16 f y fs;lia
 .rw[Z34];by_cases q:g=f
  .rw[SI q,SI q];exact k
  mright
 .by_cases q:g=f
  .rw[q];exact(oJ f y fs).1
  .refine(oJ f y fs).2 g (p g fun z=>d ?_);mright
theorem Inv.made(I:Inv X aa Z H s):Inv X aa Z (br (br H s.heap.objs.size<|.own<|s.heap.objs.size+1) (s.heap.objs.size+1)<|.ins C s.heap.objs.size [])
  {s with heap:=(s.heap.push iJ).push<|mH C s.heap.objs.size}:=by
 have e1:(s.heap.push iJ).get? s.heap.objs.size=J iJ:=Vh s.heap rfl;have e2  := by
  have:=Vh (s.heap.push iJ) (o:=mH C s.heap.objs.size) rfl
  rwa [Ym]at this
 have g:(s.heap.push iJ).Ns s.heap.objs.size (fun _=>U):=⟨iJ,#[],_,e1,rfl,(fun e c=>absurd c<|∅),fun _=>rfl⟩;have d:=I.laid (o:=.own<|s.heap.objs.size+1) (fun b u q=>iN _ q) (mK _) ⟨_,e1⟩;refine d.laid (fun b u q=>iN _ q) (Nat.le_of_eq<|Ym _ _) ?_;have a:s.heap.objs.size≠s.heap.objs.size+1:=Vd<|mY _;refine⟨by rw[aG a,aE],Uh _,a,e2,fun _=>U,(Heap.Ns1.of_empty g).at fun o q=>iN _ q,fun _=>Uy,fun y f=>absurd rfl f⟩
end
def Vz(K:aT)(ta:TE)(f:Str):TE:=fun Z H Q=>ta Z H fun x H1=>∃a C b fs v,x=.ref a/\H1 a=J (.ins C b fs)/\UR K C/\a9 K C f/\fs.lookup f=J v/\Q v H1
def brw(K:aT)(ta tv:TE)(f:Str):TS:=fun D Z H=>tv Z H fun y H1=>ta Z H1 fun x c=>∃a C b fs,x=.ref a/\c a=J (.ins C b fs)/\UR K C/\a9 K C f/\fs.length<1000 /\
 D.nx Z (br c a<|.ins C b<|f9 f y fs)
def SW(X:Cx)(a:Operator)(rd:V->V->Hp->VK->Prop):Prop:=
 ∀(aa:TQ)(s:ID)(Z:St)(H:Hp)(x y:V)(u v:nE)(Q:VK),Inv X aa Z H s->aP x u->aP y v->rd x y H Q->SN #[0] X.A (inplaceOp a u v) (EP X aa Z Q) X.xe s
def Ls(K:aT)(ta tv:TE)(rd:V->V->Hp->VK->Prop)(f:Str):TS:=fun D Z H=>ta Z H fun x H1=>∃a C e fs v,x=.ref a/\H1 a=J (.ins C e fs)/\UR K C/\a9 K C f/\fs.lookup f=J v /\
 tv Z H1 fun y g=>rd v y g fun z d=>∃c b,d a=J (.ins C c b)/\b.length<1000/\D.nx Z (br d a<|.ins C c<|f9 f z b)
section
variable{X:Cx}{o e value:Ry}{f:Str}{pos pos' tpos:Pos}{ta tv:TE}
theorem AO(d:PE X e ta)(b:WG e f X.env (eval e X.env)=eval e X.env):PE X (.Attribute e f pos)<|Vz X.K ta f:=by
 intro aa s Z H Q I h;refine(fun b h =>  Attribute_any_ h<|by rw[arm_eval_Attribute,b]) b<|bP (d aa s Z H _ I h) fun u s1 k=>Tw k fun x H1 I1 rx k=>c9 k fun a C dx fs v ex ea c n l q=>?_;subst ex;obtain rfl:u=WU a:=rx;exact tR I1 ea c n l fun j i g ru=>⟨v,H1,g,ru,q⟩
theorem GB(d:PE X o ta)(e:PE X value tv)(hs:Uw value (J<|.Attribute o f pos') pos.line X.env=pure η):PS X (.Assign [.Attribute o f pos'] value pos)<|brw X.K ta tv f:=by
 intro aa s Z H D I h;refine plainObj_wpAny_Assign_Attribute (bP (e aa s Z H _ I h) fun u j k=>Tw k fun y H1 i m q=>bP (d aa j Z H1 _ i q) fun ov s2 k=>Tw k fun x H2 I2 rx k=>Z46 k fun a C dx fs ex ea c n l q2=>?_) hs;subst ex;obtain rfl:ov=WU a:=rx;exact si I2 ea c n l m fun g b=>⟨Z,_,b,q2⟩
theorem D6{d:Operator}{rd:V->V->Hp->VK->Prop}(i:PE X o ta)(k:PE X value tv)(b:SW X d rd):PS X (.AugAssign (.Attribute o f tpos) d value pos)<|Ls X.K ta tv rd f:=by
 intro aa s Z H D I h;refine wpAny_AugAssign_AttributeAny<|bP (i aa s Z H _ I h) fun ov s1 j=>Tw j fun x H1 I1 rx j=>c9 j fun a C dx fs v ex ea c n l q=>?_;subst ex;obtain rfl:ov=WU a:=rx;exact tR I1 ea c n l fun u g e ru=>bP (k aa g Z H1 _ e q) fun w3 s3 j=>Tw j fun y H2 I3 ry q3=>bP (b aa s3 Z H2 v y u w3 _ I3 ru ry q3) fun w4 s4 j=>Tw j fun z H3 I4 rz j=>Tw j fun dx' fs' ea' l' q4=>si I4 ea' c n l' rz fun m j=>⟨Z,_,j,q4⟩
def abI:V->V->Hp->VK->Prop:=fun x y H Q=>∃i j,x=.int i/\y=.int j/\Q (.int<|i+j) H
theorem OH:SW X .Add abI:=by
 rintro aa s Z H x y u v Q I rx ry ⟨i,j,rfl,rfl,q⟩;obtain⟨t,rfl⟩:=(show ∃t,u=uh i t from rx);obtain⟨t',rfl⟩:=(show ∃t',v=uh j t' from ry);exact PyProof.Rows.iadd_int ⟨.int<|i+j,H,I.tok _,⟨_,rfl⟩,q⟩
end
section
variable{Z:St}
inductive Yc(K:aT)(H:Hp):V->nE->Prop where
 |S9:Yc K H .S9 (.type "NoneType")
 |bl (x:Bool):Yc K H (.bl x) (.type "bool")
 |int (i:Int):Yc K H (.int i) (.type "int")
 |str (x:Str):Yc K H (.str x) (.type "str")
 |xH (x:UInt64):Yc K H (.xH x) (.type "float")
 |lst {a:SA} {xs:Se} (e:H a=J (.lst xs)):Yc K H (.ref a) (.type "list")
 |WC {a:SA} {o:Obj} {xs:Se} (e:H a=J (.WC o<|.lst xs)):Yc K H (.ref a) (.type "list")
 |tup {a:SA} {xs:Se} (e:H a=J (.tup xs)):Yc K H (.ref a) (.type "tuple")
 |dK {a:SA} {kvs:List<|Key×V} (e:H a=J (.dK kvs)):Yc K H (.ref a) (.type "dict")
 |dT {a:SA} {kvs:List<|List Key×V} (e:H a=J (.dT kvs)):Yc K H (.ref a) (.type "dict")
 | ins {a C dx:SA} {fs:List (Str×V)} (e:H a=J (.ins C dx fs)) (cl:UR K C) (ha:Yt K (.ref C) "__class__"=J (J (.builtin "object.__class__")))
   (hn:PySem.W.specialIn K (.builtin "object.__class__") "__get__"=J (J<|.builtin "getset_descriptor.__get__")) (htk:PySem.W.takesIn K (.builtin "object.__class__")=J G)
   (hm:PySem.W.mroIn K C (.type "object")=J G):Yc K H (.ref a)<|.ref C
theorem iP(I:Inv X aa Z H s)(d:aP x u)(f:Yc X.K H x t)(e:S7 X.K t c=J b)(h:∀g,Q (.bool b) {s with toks:=g}):
  SN #[0] A (call (.builtin "isinstance") [u,c]) Q E s:=by
 cases f with
 |S9=>cases(show u=Yk from d);exact XY PySem.W.kitx_none I.U3 Uy e (fun z=>nomatch z) h
 |bl y=>cases((d));exact XY PySem.W.kitx_bool I.U3 Uy e (fun z=>nomatch z) h
 |int i=>obtain⟨t,q⟩:=((d));subst q;exact XY PySem.W.kitx_int I.U3 Uy e (fun z=>nomatch z) h
 |str y=>obtain⟨t,q⟩:=((d));subst q;exact XY PySem.W.kitx_str I.U3 Uy e (fun z=>nomatch z) h
 |xH y=>obtain⟨t,q⟩:=((d));subst q;exact XY PySem.W.kitx_float I.U3 Uy e (fun z=>nomatch z) h
 |@lst a xs ea=>
  cases((d));obtain⟨_,_,n,_,h1⟩:=((I.Su a _ ea));exact XY zR I.U3 ⟨_,h1,rfl⟩ e (fun z=>nomatch z) h
 |@WC a ob xs ea=>
  cases((d));obtain⟨_,_,_,n,_,h1⟩:=((I.Su a _ ea));exact XY zR I.U3 ⟨_,h1,rfl⟩ e (fun z=>nomatch z) h
 |@tup a xs ea=>
  cases((d));obtain⟨_,_,_,p⟩:=((I.Su a _ ea));obtain⟨o,h1,h2,_⟩:=p
  exact XY NK I.U3 ⟨o,h1,h2⟩ e (fun z=>nomatch z) h
 |@dK a kvs ea=>
  cases((d));obtain⟨_,_,vs,_,p⟩:=((I.Su a _ ea))
  obtain⟨o,es,j,h1,h2,_⟩:=p;exact XY zX I.U3 ⟨o,h1,h2.1⟩ e (fun z=>nomatch z) h
 |@dT a kvs ea=>
  cases((d));obtain⟨_,_,xs,_,o,es,j,h1,h2,_⟩:=((I.Su a _ ea));exact XY zX I.U3 ⟨o,h1,h2.1⟩ e (fun z=>nomatch z) h
 |@ins a C dx fs ea cl ha hn htk hm=>
  cases((d));obtain⟨mA,O,_⟩:=rK I.Su ea
  obtain⟨od,Jq0,_⟩:=O.look
  exact XY (PySem.W.kitx_own (cl.get _) cl.hd ha hn htk hm) I.U3 Jq0 e (fun z=>nomatch z) h
end
structure TZ(k:Nat)(A:Tx):Prop where
 hd:A.handled=U
 dp:A.depth+3*k+5<tP
 un:A.units+16*k+200<cLine
theorem TZ.mono(r:TZ k A)(h:j<=k):TZ j A:=⟨r.hd,by have:=r.dp;lia,by have:=r.un;lia⟩
theorem TZ.deeper(r:TZ (k+1) A)(env:Env):TZ k<|A.deeper env:=
 ⟨r.hd,by have:=r.dp;show A.depth+1+3*k+5<_;lia,by have:=r.un;show A.units+3+16*k+200<_;lia⟩
theorem Ag{A:Tx}:(A.under<|.builtin "type.__call__" ⟨.ref C::us,kw⟩).depth=A.depth+1:=by
 rfl
theorem Ar{A:Tx}:(A.under<|.builtin "type.__call__" ⟨.ref C::us,kw⟩).units=A.units+1:=by
 rfl
theorem TZ.make(r:TZ (k+1) A)(C:SA)(us:TK)(a:List<|Str×nE):TZ k<|A.under<|.builtin "type.__call__" ⟨.ref C::us,a⟩:=
 ⟨r.hd,by have:=r.dp;rw[Ag];lia,by have:=r.un;rw[Ar];lia⟩
theorem TZ.depth(r:TZ k A):A.depth<tP:=by have:=r.dp;lia
theorem TZ.units(r:TZ k A):A.units+64<cLine:=by have:=r.un;lia
def DG:TA:=fun _ H Q=>Q [] H
def uM(ta:TE)(tr:TA):TA:=fun Z H Q=>ta Z H fun x H1=>tr Z H1 fun xs a=>Q (x::xs) a
section
theorem Kz(i:PE X e te)(c:PA X es t)(hs:(Uu (e::es) X.env=(η,eval e X.env)::Uu es X.env)<|>Rv):PA X (e::es)<|uM te t:=by
 intro pos aa s Z H Q I h;rw[hs];refine zc<|bP (i aa s Z H _ I h) fun u d a=>jZ a fun x H1 b r1 q1=>?_;exact bP (c pos aa d Z H1 _ b q1) fun us j a=>jZ a fun xs g f r2 q2=>⟨x::xs,g,f,.cons r1 r2,q2⟩
def aaQ(t:TA):TE:=fun Z H Q=>t Z H fun xs H1=>xs.length<=Ta/\∀p,H1 p=U->Q (.ref p) (br H1 p<|.tup xs)
def akP(t:TA):TE:=fun Z H Q=>t Z H fun xs H1=>xs.length<=Ta/\∀p,H1 p=U->Q (.ref p) (br H1 p<|.lst xs)
end
abbrev Sp:=Se->Hp->VK->XK->Prop
abbrev Ee:=List Env->Hp->ID->XK->nE->ID->Prop
structure uG(P:Tc)(w:Sl)(K:aT)(mg:Sq)(base:T3)(A:Tx)(outer:List Env)(s:ID)(H:Hp):Prop where
 frames:A.frames=J outer
 mod:Mod K mg base
 bs:∀b o,base.get? b=J o->s.heap.get? b=J o/\H b=U
 Wq:base.objs.size<=s.heap.objs.size
 WE:s.heap.FunFrames base outer
 XJ:(∀b∈Ec outer,H b=U)/\RJ K H
 Su:nW P w H s.heap
 bare:AllBare s.gens
def CE(a:List Env)(P:Tc)(w:Sl)(H:Hp)(s:ID)(Q:VK)(u:nE)(s':ID):Prop:=
 ∃v H',s'.os=s.os/\AllBare s'.gens/\Un (Ec a) [] H H' s.heap s'.heap/\nW P w H' s'.heap/\aP v u/\Q v H'
def CR(CX:Ee)(a:List Env)(P:Tc)(w:Sl)(H:Hp)(s:ID)(Q:VK)(E:XK)(r:Result)(s':ID):Prop:=
 match r with
 |.ok (.ret u)=>CE a P w H s Q u s'
 |.ok _=>False
 |.error e=>CX a H s E e s'
structure T8(P:Tc)(w:Sl)(K:aT)(mg:Sq)(base:T3)(CX:Ee)(k:Nat)(f:SA)(fd:Wj)(ps:SH)(sp:Sp):Prop where
 len:∀vs H Q E,sp vs H Q E->vs.length=ps.length
 run:∀(A:Tx)(outer:List Env)(s:ID)(H:Hp)(args:Args)(us:TK)(vs:Se)(Q:VK)(E:XK),TZ k A->uG P w K mg base A outer s H->BindsTo s fd args (ps.zip us)->aU vs us->sp vs H Q E ->
  qq (UA P w) A (.call (.ref f) args) (CR CX outer P w H s Q E) s
theorem T8.mono{P:Tc}{w:Sl}{K:aT}{mg:Sq}{base:T3}{CX:Ee}{j k:Nat}{f:SA}{fd:Wj}{ps:SH}{sp:Sp}(F:T8 P w K mg base CX j f fd ps sp)(h:j<=k):
  T8 P w K mg base CX k f fd ps sp:=⟨F.len,fun A a s H b us vs Q E c=>F.run A a s H b us vs Q E<|c.mono h⟩
theorem T8.imp{K:aT}(F:T8 P w K mg base CX k f fd ps sp)
  (h:∀vs H Q E,sp' vs H Q E->sp vs H Q E):T8 P w K mg base CX k f fd ps sp':=
 ⟨fun vs H Q E q=>F.len vs H Q E<|h _ _ _ _ q,fun A a s H b us vs Q E d c g e hs=>F.run A a s H b us vs Q E d c g e<|h _ _ _ _ hs⟩
theorem uG.make{K:aT}(e:uG P w K mg base A outer s H)(C:SA)(us:TK)(a:List<|Str×nE):
  uG P w K mg base (A.under<|.builtin "type.__call__" ⟨.ref C::us,a⟩) outer s H:=⟨by first|exact e.frames|assumption,e.mod,e.bs,e.Wq,e.WE,e.XJ,e.Su,e.bare⟩
section
variable{Z:St}
theorem Inv.v8(I:Inv X aa Z H s):uG X.prog X.w X.K X.mg X.base X.A X.stack s H:=
 ⟨I.ok.frames,I.ok.mod,I.bs,RW I.ok.Wq I.sz,I.stack,⟨I.Y8,I.tb⟩,I.Su,I.bare⟩
theorem Inv.after(I:Inv X aa Z H s)(h:CE X.stack X.prog X.w H s Q u s')(i:X.tn<=s'.toks<|>XW):EP X aa Z Q u s':=by
 refine XX h fun v H' os a un e r q=>?_;obtain⟨f,g,d,t,c⟩:=s';obtain rfl:c=s.os:=os;exact⟨v,H',I.call un e a fun b z=>absurd z<|∅,r,q⟩
end
def alp(sp:Sp)(a:Se)(E:XK)(t:TA):TE:=fun Z H Q=>t Z H fun vs H1=>sp (vs++a) H1 Q E
def Ew(C:SA)(sp:Sp)(b:Se)(E:XK)(t:TA):TE:=fun Z H Q=>t Z H fun vs H1=>∀x a,H1 x=U->H1 a=U->a≠x ->
 sp (.ref x::(vs++b)) (br (br H1 a<|.own x) x<|.ins C a []) (fun v c=>v=.S9/\Q (.ref x) c) E
def cf(K:aT)(fd:Wj)(ps:SH)(ds:TK):Prop:=
 ∀(s:ID)(us:TK),K.In s.heap->(us++ds).length=ps.length->BindsTo s fd ⟨us,[]⟩ (ps.zip<|us++ds)
theorem cf.all{K:aT}(h:∀us:TK,us.length=ps.length->bindArgs fd ⟨us,[]⟩=pure (ps.zip us)):cf K fd ps []:=fun s us _ a=>by
 rw[Wz]at a⊢;exact .of_eq (h us a)
def m5(CX:Ee)(X:Cx)(E:XK):Prop:=∀(aa:TQ)(Z:St)(H:Hp)(s:ID)(e:nE)(s':ID),Inv X aa Z H s->CX X.stack H s E e s'->X.xe e s'
section
variable{p pos apos:Pos}
theorem IV{Z:St}(F:T8 X.prog X.w X.K X.mg X.base CX k f fd ps sp)(c:TZ k X.A)(b:cf X.K fd ps ds)(hd:aU dvs ds)(i:m5 CX X E)
  (I:Inv X aa Z H s) (r:aU vs us) (h:sp (vs++dvs) H Q E):SN #[0] X.A (call (.ref f) us) (EP X aa Z Q) X.xe s:=by
 have r2  := r.append hd;have d:(us++ds).length=ps.length:=by rw[<-r2.length];exact F.len _ _ _ _ h
 refine wpAny_call<|dk I.tk<|eo (F.run X.A X.stack s H ⟨us,[]⟩ (us++ds) (vs++dvs) Q E c I.v8 (b s us I.U3 d) r2 h) fun r s' a g=>?_;cases r with
 |error e=>exact i aa Z H s e s' I a
 |ok fl=>
  cases fl with
  |ret u=>exact I.after a
  |next=>exact Wf a
  |brk=>exact Wf a
  |cont=>exact Wf a
theorem Ei(F:T8 X.prog X.w X.K X.mg X.base CX k f fd ps sp)(e:TZ k X.A)(g:Gl X x)(c:X.mg x=J (.ref f))(b:Xq X.K (.ref f)=G)(i:cf X.K fd ps ds)(hd:aU dvs ds)(d:m5 CX X E)
  (a:TN x<|>Sm):PE X (.Call (.Name x p) [] [] pos)<|alp sp dvs E DG:=by
 intro aa s Z H Q I h;refine Yr<|dD I g c ?_ a;exact Bb I.U3 b<|IV F e i hd d I .nil h
structure Mk(K:aT)(C f:SA):Prop where
 makes:SO K C=G
 init:Yt K (.ref C) "__init__"=J (J<|.ref f)
 fn:mT K (.ref f)=G
 kp:Xq K (.ref C)=G
theorem yQ{Z:St}(M:Mk X.K C f)(F:T8 X.prog X.w X.K X.mg X.base CX k f fd ps sp)(i:TZ (k+1) X.A)(l:cf X.K fd ps ds)(hd:aU dvs ds)
  (n:m5 CX X E) (I:Inv X aa Z H s) (r:aU vs us)
  (h:∀x c,H x=U->H c=U->c≠x->sp (.ref x::(vs++dvs)) (br (br H c<|.own x) x<|.ins C c []) (fun v m=>v=.S9/\Q (.ref x) m) E):
  SN #[0] X.A (call (.ref C) us) (EP X aa Z Q) X.xe s:=by
 have d:=h (s.heap.objs.size+1) s.heap.objs.size (I.Su.fresh<|Nat.le_succ _) (I.Su.fresh<|mK _)<|Vd<|mY _;have b:=Inv.made (C:=C) I;have r2:aU (V.ref (s.heap.objs.size+1)::(vs++dvs))<|WU (s.heap.objs.size+1)::(us++ds):=.cons rfl (r.append hd);have hl  := by
  have e:=r2.length;rw[F.len _ _ _ _ d]at e;exact e.symm
 refine wpAny_call ((fun X g j o h=>by
   exact PySem.W.make_core (PySem.W.makes_of X g) (PySem.W.looks_findIn X j) (fun self=>PySem.W.bind_fn X self o) (.inl rfl) h) I.U3 M.makes M.init (beq_iff_eq.mp M.fn) (dk b.tk (eo (F.run _ X.stack _ _ ⟨WU (s.heap.objs.size+1)::us,[]⟩ (WU (s.heap.objs.size+1)::(us++ds)) _ _ E (i.make C us [])
  (b.v8.make C us []) (l _ (WU (s.heap.objs.size+1)::us) b.U3 hl) r2 d) fun r s' a p=>?_)))
 cases r with
 |error e=>exact n aa Z _ _ e s' b a
 |ok fl=>
  cases fl with
  |ret u=>
   refine US (b.after a) fun v H' t q y z=>?_
   subst y;exact⟨q,⟨V.ref<|s.heap.objs.size+1,H',t,rfl,z⟩⟩
  |next=>exact Wf a
  |brk=>exact Wf a
  |cont=>exact Wf a
theorem Cb(M:Mk X.K C f)(F:T8 X.prog X.w X.K X.mg X.base CX k f fd ps sp)(g:TZ (k+1) X.A)(i:Gl X x)(d:X.mg x=J (.ref C))(o:cf X.K fd ps ds)(hd:aU dvs ds)(l:m5 CX X E)
  (n:PA X (e::es) t) (a:TN x<|>Sm) (m:(Uu (e::es) X.env=(η,eval e X.env)::Uu es X.env)<|>Rv) (b:(X3 pos<|Uu es X.env).any (·.1)=η<|>Rv):
  PE X #[3] (Ew C sp dvs E t):=by
 intro aa s Z H Q I h;refine Yr<|dD I i d ?_ a;refine yw I.ok.mod.XM M.kp (bP (n pos aa s Z H _ I h) fun us u j=>jZ j fun vs H1 c r q=>⟨c.U3,?_⟩) m b;exact yQ M F g o hd l c r q
theorem IB(M:Mk X.K C f)(F:T8 X.prog X.w X.K X.mg X.base CX k f fd ps sp)(e:TZ (k+1) X.A)(g:Gl X x)(c:X.mg x=J (.ref C))(b:cf X.K fd ps ds)(hd:aU dvs ds)(d:m5 CX X E)
  (a:TN x<|>Sm):PE X (.Call (.Name x p) [] [] pos)<|Ew C sp dvs E DG:=by
 intro aa s Z H Q I h;refine Yr<|dD I g c ?_ a;exact Bb I.U3 M.kp<|yQ (us:=[]) M F e b hd d I .nil h
end
structure Vr(N P:SH)(sc:Scope):Prop where
 kind:sc.kind=.function
 co:sc.isCoroutine=η
 gen:sc.isGenerator=η
 nd:N.Nodup
 pre:N.take P.length=P
 par:∀x∈P,sc.names.lookup x=J .local\/sc.names.lookup x=J .cell
 Z44:∀y∈sc.names,y.2≠.free
theorem vB{a:Str->Option Yz}:∀{binds:List<|Str×nE}{m:Sq},(∀v,(x,v)∉binds)->bindL a binds m x=m x
 |[],_,_=>rfl
 |(n,v)::r,m,h=>by
  unfold bindL;rw[vB fun w hw=>h w<|ie _ hw];split
  .grind
  .rfl
theorem vH{a:Str->Option Yz}:∀{binds:List<|Str×nE}{m:Sq},(∀v,(x,v)∉binds)->bindC a binds m x=m x
 |[],_,_=>rfl
 |(n,v)::r,m,h=>by
  unfold bindC;rw[vH fun w hw=>h w<|ie _ hw];split
  .rfl
  grind
theorem vz{a:Str->Option Yz}:∀{P:SH}{vs:TK}{i:Nat}{m:Sq},P.Nodup->P[i]?=J x->vs[i]?=J v->a x=J .local ->
  bindL a (P.zip vs) m x=J v
 |[],_,_,_,_,h,_,_=>by mright
 |_::_,[],_,_,_,_,h,_=>by mright
 |p::P,w::vs,0,m,nd,h1,h2,hk=>by
  simp at h1 h2;subst h1;subst h2;show bindL a ((p,w)::P.zip vs) m p=_;unfold bindL;rw[vB fun v b=>(Vx.mp nd).1 (X0 b).1,SI hk];simp
 |p::P,w::vs,i+1,m,nd,h1,h2,hk=>by
  show bindL a ((p,w)::P.zip vs) m x=_;exact vz (Vx.mp nd).2 ⊤ ⊤ hk
theorem vG{a:Str->Option Yz}:∀{P:SH}{vs:TK}{i:Nat}{m:Sq},P.Nodup->P[i]?=J x->vs[i]?=J v->a x≠J .local ->
  bindC a (P.zip vs) m x=J v
 |[],_,_,_,_,h,_,_=>by mright
 |_::_,[],_,_,_,_,h,_=>by mright
 |p::P,w::vs,0,m,nd,h1,h2,hk=>by
  simp at h1 h2;subst h1;subst h2;show bindC a ((p,w)::P.zip vs) m p=_;unfold bindC;rw[vH fun v b=>(Vx.mp nd).1 (X0 b).1,SM hk];simp
 |p::P,w::vs,i+1,m,nd,h1,h2,hk=>by
  show bindC a ((p,w)::P.zip vs) m x=_;exact vG (Vx.mp nd).2 ⊤ ⊤ hk
noncomputable def start(N:SH)(vs:Se):St:=vs.map J++Ut (N.length-vs.length) U
noncomputable def gw(CX:Ee)(P:Tc)(w:Sl)(K:aT)(mg:Sq)(base:T3)(N:SH)(a:Str)(scope:Scope)(f:SA)(c:nE)(A:Tx)(outer:List Env)(s:ID)(H:Hp)(E:XK):Cx where
 prog:=P
 w:=w
 K:=K
 mg:=mg
 base:=base
 A:=A.deeper<|W7 a scope s.heap.objs.size f c
 N:=N
 s₀:=s
 H₀:=H
 env:=W7 a scope s.heap.objs.size f c
 outer:=outer
 stack:=W7 a scope s.heap.objs.size f c::outer
 ex:=[]
 calm:=G
 fn:=fun _=>G
 pn:=[]
 xe:=fun e s'=>SN (UA P w) (A.deeper<|W7 a scope s.heap.objs.size f c) (leaving (W7 a scope s.heap.objs.size f c) e) (fun _ b=>CX outer H s E e b) (fun d b=>CX outer H s E d b) s'
theorem yd{a:Scope}(h:a.names.lookup x=J .cell):∃c,(cellsFrom n a.names []).lookup x=J c:=by
 have q:=tK a.names n []<|.inl h;exact tq.mp q
theorem oQ{K:aT}
  (S:Vr N ps scope) (hd:A.handled=U) (e0:uG P w K mg base A outer s H) (D:vs.length=ps.length) (r:aU vs us)
  (x:InCallC s s.heap.objs.size (bindL (W7 qual scope s.heap.objs.size f cd).kindOf (ps.zip us) fun _=>U) (cellsFrom (s.heap.objs.size+1) scope.names []) (bindC (W7 qual scope s.heap.objs.size f cd).kindOf (ps.zip us) fun _=>U) s1):
  Inv (gw CX P w K mg base N qual scope f cd A outer s H E) [] (start N vs) H s1:=by
 have t:ps.length<=N.length:=by have:=UN vP S.pre;rw[List.length_take]at this;lia
 obtain⟨h1,B,rfl,n⟩:=x.done;have g:∀b:SA,b∉(gw CX P w K mg base N qual scope f cd A outer s H E).ex:=fun b z=>absurd (show b∈([]:Sf)from z) ∅;refine⟨⟨e0.mod,S.kind,rfl,rfl,mK _,fun y z c h1 h2=>?_,fun y d=>?_,fun y c _ h=>?_,fun _=>hd,Around.frames_deeper e0.frames,.inr ⟨rfl,rfl⟩,fun b z=>absurd z<|g b,e0.bs,e0.Wq,fun b _ _=>g b,fun b z=>absurd z<|g b,e0.WE,e0.XJ⟩,
  rfl,e0.bare,Un.kept n,⟨_,x.toInCall.ns,fun i y v h1 h2 C=>?_⟩,fun y c h=>⟨_,x.cell y c h⟩,e0.Su.fresh (mK _),fun y c h=>?_,fun p j=>absurd (show p∈([]:TQ)from j) ∅,e0.Su.kept n,?_,Uh _⟩
 .exact name_of_addr x.apart (hG h1) (hG h2)
 .have d:scope.names.lookup y=J .cell\/scope.names.lookup y=J .free:=d;rcases d with d|d
  .exact yd d
  .exact absurd rfl (S.Z44 _<|hG d)
 .exact jx (x.above y c<|hG h)
 .have m:i<vs.length:=by
   unfold start at h2;by_cases m:i<vs.length
   .exact m
   .rw[nN<|by simpa using m]at h2;rw[yg]at h2;split at h2<;>cases h2
  have o:vs[i]?=J v:=by
   unfold start at h2;rw[uy<|by simpa using m,Xm]at h2;cases e:vs[i]? with
   |none=>rw[e]at h2;cases h2
   |some a=>rw[e]at h2;cases h2;rfl
  obtain⟨u,hu,rv⟩:=r.get o
  have j:ps[i]?=J y:=by
   rw[<-S.pre,List.getElem?_take_of_lt<|by simp_all];exact h1
  have l:ps.Nodup:=by rw[<-S.pre];exact S.nd.sublist<|List.take_sublist _ _
  refine⟨u,rv,?_⟩;rcases S.par y (Do j)with k|k
  .exact .inl ⟨k,vz l j hu k⟩
  .obtain⟨c,e⟩:=yd k;refine .inr ⟨.inl k,c,e,?_⟩;have q:=x.cell y c e;rw[vG l j hu (by show scope.names.lookup y≠_;rw[k];decide)]at q;exact q
 .exact e0.Su.fresh (jx<|x.above y c<|hG h)
 .delta start;show _=N.length;mright
theorem NP{K:aT}{C kV j F d D R:nE}
  (lk:K.lookup f=J ⟨R,od,.func<|Wk name qual params body scope C kV j F an d D,osl⟩) (p:uz K d qual=G) (S:Vr N ps scope)
  (len:∀vs H Q E,sp vs H Q E->vs.length=ps.length)
  (h:∀(A:Tx)(a:List Env)(s:ID)(H:Hp)(vs:Se)(Q:VK)(E:XK),TZ k (A.deeper<|W7 qual scope s.heap.objs.size f d)->sp vs H Q E ->
   ∃t,IR (gw CX P w K mg base N qual scope f d A a s H E) body t/\t {nx:=fun _ H'=>Q .S9 H',rt:=Q} (start N vs) H):
  T8 P w K mg base CX (k+1) f (Wk name qual params body scope C kV j F an d D) ps sp:=by
 refine⟨len,fun A a s H B us vs Q E m e0 X r l=>?_⟩;have W:=len _ _ _ _ l;have KX  := e0.mod.XM.keeps fun b o e=>(e0.bs b o e).1;have lim  := e0.mod.nolimit.keeps fun b o e=>(e0.bs b o e).1;have i:∀y∈ps.zip us,scope.names.lookup y.1=J .local\/(scope.names.lookup y.1=J .cell/\((cellsFrom (s.heap.objs.size+1) scope.names []).lookup y.1).isSome=G):=fun⟨n,v⟩hy=>by
  rcases S.par n (X0 hy).1 with q|q
  .exact .inl q
  .exact .inr ⟨q,tK _ _ _<|.inl q⟩
 refine codeAny_call_function m.depth (KX _ _ lk) rfl S.co S.gen rfl (zh KX p) (X _ _ _ _ ?_);refine wpAny_newFunctionEnv_cells S.kind i fun env T s1 x=>?_;subst T;refine⟨lim.keeps x.toInCall.keep,codeAny_func ?_⟩;obtain⟨t,M,O⟩:=h A a s H vs Q E (m.deeper _) l;have I:Inv (gw CX P w K mg base N qual scope f d A a s H E) [] (start N vs) H s1:=oQ S m.hd e0 W r x;refine UE (M [] s1 (start N vs) H _ I O) (fun fl s' hs=>?_) fun e s' hs=>hs;have fin:∀{g:St}{H':Hp}{v:V}{u:nE},Inv (gw CX P w K mg base N qual scope f d A a s H E) [] g H' s'->aP v u->Q v H'->CE a P w H s Q u s':=
  fun{g H' v u}c z q=>⟨v,H',c.os,c.bare,c.base,c.Su,z,q⟩
 cases fl with
 |ret u=>
  refine WM hs fun v g H' c z q=>?_;exact fin c z q
 |next=>
  obtain⟨g,H',c,q⟩:=hs;exact fin (v:=V.S9) c rfl q
 |brk=>
  obtain⟨_,_,_,q⟩:=hs;exact Wf q
 |cont=>
  obtain⟨_,_,_,q⟩:=hs
  exact Wf q
section
variable{p pos:Pos}{id:String}
def RD(r:Se->Hp->VK->Prop)(t:TA):TE:=fun Z H Q=>t Z H fun vs H1=>r vs H1 Q
theorem GF(j:bI X (.builtin id) r)(f:Gl X x)(c:X.mg x=U)(n:Vl x=J (.builtin id))(m:PA X (e::es) t)(k:(x≠"__name__")<|>Sm)(a:TN x<|>Sm)
  (l:(Uu (e::es) X.env=(η,eval e X.env)::Uu es X.env)<|>Rv) (b:(X3 pos<|Uu es X.env).any (·.1)=η<|>Rv):PE X #[3]<|RD r t:=by
 intro aa s Z H Q I h;refine Yr<|tw I f c n ?_ k a;exact PyProof.Rows.callWith_builtin1 (bP (m pos aa s Z H _ I h) fun us i g=>jZ g fun vs H1 d r1 q1=>j aa i Z H1 vs us Q d r1 q1) l b
theorem Dw(j:bI X (.type T) r)(f:Gl X x)(c:X.mg x=U)(n:Vl x=J (.type T))(m:PA X (e::es) t)(k:(x≠"__name__")<|>Sm)(a:TN x<|>Sm)
  (l:(Uu (e::es) X.env=(η,eval e X.env)::Uu es X.env)<|>Rv) (b:(X3 pos<|Uu es X.env).any (·.1)=η<|>Rv):PE X #[3]<|RD r t:=by
 intro aa s Z H Q I h;refine Yr<|tw I f c n ?_ k a;exact tL (bP (m pos aa s Z H _ I h) fun us i g=>jZ g fun vs H1 d r1 q1=>j aa i Z H1 vs us Q d r1 q1) l b
end
end L2
namespace HT
open PySem PyProof.Rows
section
variable{prog:Tc}{w:Sl}{A:Tx}{E:UB}{s:ID}
noncomputable def T5(n d:Nat):Option Int->Nat
 |none=>d
 |some v=>if v<0 then(v+(n:Int)).toNat else min v.toNat n
theorem rG(n d k:Nat):T5 n d (J (k:Int))=min k n:=by
 rfl
theorem G6(n d:Nat)(hd:d<=n)(o:Option Int):T5 n d o<=n:=by
 cases o with
 |none=>exact hd
 |some v=>
  show(if v<0 then(v+n).toNat else min v.toNat n)<=n
  lia
theorem So(v:Int)(n d:Nat):(if v<0 then max (v+(n:Int)) 0 else min v (n:Int))=((T5 n d (J v):Nat):Int):=by
 show(if v<0 then max (v+n) 0 else min v n)=(((if v<0 then(v+n).toNat else min v.toNat n)))
 grind
theorem afE(lo a:Option Int)(n:Nat):Builtin.Slice.sliceAdjust lo a 1 (n:Int)=(((T5 n 0 lo:Nat):Int),((T5 n n a:Nat):Int)):=by
 refine Prod.ext ?_ ?_
 .cases lo with
  |none=>rfl
  |some v=>exact So v n 0
 .cases a with
  |none=>rfl
  |some v=>exact So v n n
theorem afN(i j:Nat):Builtin.Slice.slicePlaces (i:Int) (j:Int) 1=j-i:=by
 unfold Builtin.Slice.slicePlaces
 lia
section
variable{prog:Tc}{w:Sl}{A:Around}{E:UB}{s:ID}
theorem v5(p:IsPart v o)(h:Q o s):wpAny (model prog w) A (Builtin.Slice.slicePartIndex v) Q E s:=by
 cases p with
 |none=>exact slicePart_none h
 |int i t=>exact slicePart_int h
end
section
variable{prog:Tc}{w:Sl}{A:Around}{E:UB}{s:ID}
theorem stk{lo a:Option Int}{n:Nat}(hs:s.heap.IsSliceOf sl vl vu .none)(pl:IsPart vl lo)(b:IsPart vu a)
  (h:Q (((T5 n 0 lo:Nat):Int),1,T5 n n a-T5 n 0 lo) s):wpAny (model prog w) A (Builtin.Slice.sliceApplied (.ref sl)<|pure (n:Int)) Q E s:=by
 obtain⟨os,hos,hcs,hds⟩:=id hs;refine wpAny_bind<|wpAny_bind<|wpAny_field hos hds rfl (wpAny_bind<|wpAny_field hos hds rfl (wpAny_bind<|wpAny_field hos hds rfl (wpAny_pure ?_)));refine wpAny_bind<|slicePart_none ?_;refine wpAny_bind<|v5 pl<|wpAny_bind<|v5 b<|wpAny_bind<|wpAny_pure ?_;show wpAny _ _ (match Builtin.Slice.sliceAdjust lo a 1 n with|(lo,a)=>pure (lo,(1:Int),Builtin.Slice.slicePlaces lo a 1)) _ _ s
 rw[afE lo a n];show wpAny _ _ (pure (((T5 n 0 lo):Int),1,Builtin.Slice.slicePlaces ((T5 n 0 lo)) ((T5 n n a)) 1)) _ _ s;rw[afN];exact wpAny_pure h
end
theorem agz(xs:Array nE)(i k:Nat):((e6 k).filterMap fun(m:Nat)=>xs[((i:Int)+(m:Int)*1).toNat]?).toArray=((xs.toList.drop i).take k).toArray:=by
 have e:(fun(m:Nat)=>xs[((i:Int)+m*1).toNat]?)=fun m=>xs[i+m]?:=by
  grind
 rw[e]
 have:=pick_run xs i k
 rw[List.filterMap_map]at this;have e2:((fun x=>xs[x]?)∘fun x=>i+x)=fun m=>xs[i+m]?:=rfl;rw[e2]at this;rw[this]
section
variable{prog:Tc}{w:Sl}{A:Around}{E:UB}{s:ID}
def acx{lo b:Option Int}(c:IsTup s.heap t items)(hs:s.heap.IsSliceOf sl vl vu .none)(pl:IsPart vl lo)(g:IsPart vu b)
  (hw:¬(T5 items.size 0 lo=0/\T5 items.size items.size b=items.size))
  (h:Q (.ref s.heap.objs.size) {s with heap:=s.heap.push {cls:=.type "tuple",data:=.seq ((items.toList.drop<|T5 items.size 0 lo).take<|T5 items.size items.size b-T5 items.size 0 lo).toArray}})
  (f:items.size<=sizeLine):wpAny (model prog w) A (getItem (.ref t)<|.ref sl) Q E s:=by
 have a:sizeOk<|.seq ((items.toList.drop<|T5 items.size 0 lo).take<|T5 items.size items.size b-T5 items.size 0 lo).toArray:=by
  show((items.toList.drop<|T5 items.size 0 lo).take<|T5 items.size items.size b-T5 items.size 0 lo).toArray.size<=sizeLine;rw[XC,List.length_take,vJ,Array.length_toList];omega
 have i:T5 items.size items.size b<=items.size:=G6 _ _ (mK _) b;obtain⟨os,hos,hcs,hds⟩:=id hs;have e:s.TypeIs (.ref sl) "slice":=⟨os,hos,hcs⟩;unfold getItem;try with_reducible refine wpAny_holding ?_
 first|refine wpAny_bind (wpAny_pure ?_)|skip
 refine wpAny_bind<|wpAny_sequenceKey c.typeIs ∎ ?_;refine wpAny_bind (wpAny_callSpecial?_slot (name:=lE "__getitem__") c.typeIs PyProof.Rows.slot_tuple_getitem
  (wpAny_call_entry PyProof.Rows.slot_tuple_getitem c.typeIs entry_tuple_getitem ?_ (args_tuple_getitem _ _)))
 show wpAny _ _ (Builtin.Tuple.tupleItemsOf (.ref t) >>= _) _ _ s;refine wpAny_bind<|tupleItemsOf_ c ?_;refine wpAny_bind<|wpAny_typeOf e ?_;rw[SI<|∎];refine wpAny_bind<|stk hs pl g ?_;have d:¬((((T5 items.size 0 lo:Nat):Int)==0&&(1:Int)==1&&(T5 items.size items.size b-T5 items.size 0 lo)==items.size)=G):=by
  intro q;rw[oR,oR]at q;have q1:((T5 items.size 0 lo:Nat):Int)=0:=eq_of_beq q.1.1;have q2:T5 items.size items.size b-T5 items.size 0 lo=items.size:=eq_of_beq q.2;exact hw ⟨⊥,(by omega)⟩
 show wpAny _ _ (if(((T5 items.size 0 lo:Nat):Int)==0&&(1:Int)==1&&(T5 items.size items.size b-T5 items.size 0 lo)==items.size)=G then _ else _) _ _ s;rw[SM d,agz]
 first
  |exact wpAny_bind (m:=Builtin.Tuple.tupleExact _) (wpAny_newObj_type (wpAny_pure ⟨_,rfl,wpAny_pure h⟩) a)
  |exact wpAny_bind (m:=Builtin.Tuple.tupleExact _) (wpAny_newObj_type (wpAny_bind<|wpAny_pure<|wpAny_pure ⟨_,rfl,wpAny_pure h⟩) a)
  |exact wpAny_bind (wpAny_bind (m:=Builtin.Tuple.tupleExact _)<|wpAny_newObj_type (wpAny_pure<|wpAny_pure ⟨_,rfl,wpAny_pure h⟩) a)
  |grind
end
end
end HT
namespace L2
open PySem PySem.Spec PyProof.Rows
abbrev TO:=St->Hp->(Option Int->Hp->Prop)->Prop
def PO(X:Cx)(e:Option Ry)(t:TO):Prop:=
 ∀(aa:TQ)(s:ID)(Z:St)(H:Hp)(Q:Option Int->Hp->Prop),Inv X aa Z H s->t Z H Q ->
  SN #[0] X.A (evalPart e X.env) (fun u s'=>∃o H',Inv X aa Z H' s'/\IsPart u o/\Q o H') X.xe s
def J2:TO:=fun _ H Q=>Q U H
section
variable{lo:Option Ry}
def V2(X:Cx)(r:V->Option Int->Option Int->Hp->VK->Prop):Prop:=
 ∀(aa:TQ)(s:ID)(Z:St)(H:Hp)(x:V)(v a c:nE)(lo b:Option Int)(d:SA)(Q:VK),Inv X aa Z H s->aP x v->s.heap.IsSliceOf d a c .none->IsPart a lo->IsPart c b->r x lo b H Q ->
  ∃T id,typeLookup (.type T) "__getitem__"=pure (J<|.builtin id)/\s.TypeIs v T/\SN #[0] X.A (e8 v<|.ref d) (EP X aa Z Q) X.xe s
section
variable{lo:Option Ry}
theorem V2.or(h:V2 X r)(h':V2 X r'):V2 X (fun x lo a H Q=>r x lo a H Q\/r' x lo a H Q):=by
 intro aa s Z H x v f b lo a d Q I c hs pl e q;rcases q with q|q
 .exact h aa s Z H x v f b lo a d Q I c hs pl e q
 .exact h' aa s Z H x v f b lo a d Q I c hs pl e q
end
def tSl(r:V->Option Int->Option Int->Hp->VK->Prop)(c:TE)(tl a:TO):TE:=fun Z H Q=>c Z H fun x H1=>tl Z H1 fun l b=>a Z b fun u d=>r x l u d Q
section
variable{lo:Option Ry}
def nT(xs:Se)(lo a:Option Int):Se:=(xs.drop<|HT.T5 xs.length 0 lo).take<|HT.T5 xs.length xs.length a-HT.T5 xs.length 0 lo
end
section
variable{lo:Option Ry}
theorem M1(xs:Se)(lo a:Option Int):(nT xs lo a).length<=xs.length:=by
 unfold nT
 simp;lia
end
section
variable{lo:Option Ry}
def VL(K:aT):V->Option Int->Option Int->Hp->VK->Prop:=fun x lo b H Q=>∃a xs,x=.ref a/\m7 K H a xs /\
 ¬(HT.T5 xs.length 0 lo=0/\HT.T5 xs.length xs.length b=xs.length)/\∀p,H p=U->Q (.ref p) (br H p<|.tup<|nT xs lo b)
end
section
variable{lo:Option Ry}
theorem ah5:V2 X<|VL X.K:=by
 intro aa s Z H x v k g lo d i Q I e hs pl f h;obtain⟨a,xs,rfl,hx,hw,q⟩:=h;cases e;obtain⟨aV,r,ht,hz⟩:=I.tuple hx;have c:aV.toArray.size=xs.length:=by exact r.length.symm
 refine⟨"tuple",_,PyProof.Rows.slot_tuple_getitem.lookup,ht.typeIs,?_⟩;refine HT.acx ht hs pl f (by rw[c];exact hw) ?_ (by grind);rw[c];refine⟨.ref s.heap.objs.size,_,I.laid (fun b j q=>iN _ q) (mK _) ?_,rfl,q _<|I.Su.fresh<|mK _⟩;exact⟨RW (M1 xs lo d) hz,_,(r.drop<|HT.T5 xs.length 0 lo).take<|HT.T5 xs.length xs.length d-HT.T5 xs.length 0 lo,IsTup.new _ _⟩
end
end
noncomputable def C5(n:Nat)(i:Int):Option Nat:=if 0<=i then(if i<n then J i.toNat else U)else if -(n:Int)<=i then J (i+n).toNat else U
def Uq{α:Type}(xs:List α)(i:Int):Option α:=(C5 xs.length i).bind fun j=>xs[j]?
theorem Br(h:C5 n i=J j):seqIndex? i n=J j/\j<n/\-(n:Int)<=i/\i<n:=by
 delta C5 at h;by_cases a:0<=i
 .rw[SI a]at h;by_cases h1:i<n
  .rw[SI h1]at h;have e  := zB h;exact⟨by rw[seqIndex_of a h1,e],⊥,⊥,h1⟩
  mright
 .rw[SM a]at h;by_cases h1:-n<=i
  .rw[SI h1]at h;have e  := zB h;exact⟨by rw[seqIndex_neg (by mright) h1,e],⊥,h1,⊥⟩
  mright
theorem xl{xs:List α}{v:α}(h:Uq xs i=J v):∃j,seqIndex? i xs.length=J j/\xs[j]?=J v/\j<xs.length/\-(xs.length:Int)<=i/\i<xs.length:=by
 delta Uq at h;cases e:C5 xs.length i with
 |none=>rw[e]at h;nofun
 |some j=>
  rw[e]at h;obtain⟨h1,h2,h3,h4⟩:=Br e
  exact⟨j,h1,h,h2,h3,h4⟩
theorem xu{xs:List α}{j:Nat}{v:α}(h:xs[j]?=J v):Uq xs (j:Int)=J v:=by
 have hj  := (rW.mp h).1;have e:C5 xs.length j=J j:=by
  delta C5;mright
 delta Uq;rw[e];exact h
def rh(b:Ry):Prop:=∀o i,subscripted b η o i=operate [o,i] (e8 o i)
def DX(X:Cx)(r:UL):Prop:=
 ∀(value a:Ry)(aa:TQ)(s:ID)(Z:St)(H:Hp)(x y:V)(v u:nE)(Q:VK),Inv X aa Z H s->aP x v->aP y u->r x y H Q ->
  subscripted a η v u=operate [v,u] (e8 v u)->SN #[0] X.A (subscriptTail value a v u) (EP X aa Z Q) X.xe s
def VG(X:Cx)(id:String)(r:V->Se->Hp->VK->Prop):Prop:=
 ∀(aa:TQ)(s:ID)(Z:St)(H:Hp)(x:V)(xs:Se)(v:nE)(us:TK)(Q:VK),Inv X aa Z H s->aP x v->aU xs us->r x xs H Q ->
  SN #[0] X.A (call (.builtin id)<|v::us) (EP X aa Z Q) X.xe s
section
variable{X:Cx}{a b:Ry}{ta tb:TE}{pos:Pos}
theorem DX.or(h:DX X r)(h':DX X r'):DX X (fun x y H Q=>r x y H Q\/r' x y H Q):=by
 intro value a aa s Z H x y v u Q I c b q hs;rcases q with q|q
 .exact h value a aa s Z H x y v u Q I c b q hs
 .exact h' value a aa s Z H x y v u Q I c b q hs
def U6(K:aT):UL:=fun x y H Q=>∃p xs i v,x=.ref p/\y=.int i/\gr K H p xs/\Uq xs i=J v/\Q v H
def U8(K:aT):UL:=fun x y H Q=>∃p xs i v,x=.ref p/\y=.int i/\m7 K H p xs/\Uq xs i=J v/\Q v H
def nox:UL:=fun x y H Q=>∃z i c,x=.str z/\y=.int i/\z.length<=Ta/\Uq z.cps.toList i=J c/\Q (.str ⟨#[c]⟩) H
theorem LM:DX X<|U6 X.K:=by
 intro value a aa s Z H x y v u Q I f e h hs;left;obtain⟨p,xs,i,z,rfl,rfl,c,d,q⟩:=h;subst f;obtain⟨t,rfl⟩:=e;obtain⟨aV,r,pl,hz⟩:=I.list c
 refine gS (xl d) fun j h1 h2 o l n=>?_
 obtain⟨w,ew,rw'⟩:=r.get h2
 have k:=r.length;have g:=pM;have fin:EP X aa Z Q w s:=⟨z,H,I,rw',q⟩;by_cases b:0<=i
 .right;have m  := by
   rw[seqIndex_of b n]at h1;exact zB h1
  exact item_listR pl.isList b ⊥ (by mright) fin hs
 .right;have m:(i+aV.toArray.size).toNat=j:=by
   rw[seqIndex_neg ⊥ l]at h1
   mright
  exact subscriptTail_builtinR pl.isList.typeIs slot_list_getitem.lookup
   (wpAny_getItem_list_neg pl.isList ⊥ (by mright) ⊥ (by mright) ⟨rfl,fin⟩) hs
theorem Qj:DX X<|U8 X.K:=by
 intro value a aa s Z H x y v u Q I e d h hs;left;obtain⟨p,xs,i,z,rfl,rfl,b,c,q⟩:=h;subst e;obtain⟨t,rfl⟩:=d;obtain⟨aV,r,pl,hz⟩:=I.tuple b
 refine gS (xl c) fun j h1 h2 l k m=>?_
 obtain⟨w,ew,rw'⟩:=r.get h2
 right;have g:=r.length;have f:=pM;have fin:EP X aa Z Q w s:=⟨z,H,I,rw',q⟩;exact subscriptTail_builtinR pl.typeIs slot_tuple_getitem.lookup
  (getItem_tuple (j:=j) pl ⊥ ⊥ (by mright) (by simpa using ew) ⟨rfl,fin⟩) hs
def rIx(K:aT):UL:=fun x y H Q=>U6 K x y H Q\/U8 K x y H Q\/nox x y H Q
section
variable{X:Cx}{a b:Ry}{ta tb:TE}{pos:Pos}
theorem Inv.lst{aa:List<|SA×Obj}{Z:St}{H:Hp}{s:ID}{p:SA}{xs:Se}(I:Inv X aa Z H s)(h:H p=J (.lst xs)):
  ∃(aV:TK)(n:Nat),aU xs aV/\s.heap.get? p=J {cls:=.type "list",data:=.seq aV.toArray n}/\xs.length<=sizeLine:=by
 obtain⟨z,aV,n,r,e⟩:=I.Su p _ h;exact⟨aV,n,r,e,z⟩
end
theorem OP:DX X<|rIx X.K:=LM.or (Qj.or (by
  intro value a aa s Z H x y v u Q I e d h hs;left;obtain⟨z,i,c,rfl,rfl,f,b,q⟩:=h;obtain⟨t,rfl⟩:=e;obtain⟨t',rfl⟩:=d;refine gS (xl b) fun j h1 h2 m l n=>?_
  right;have k:z.cps.toList.length=z.length:=by rfl
  have g:=pM;exact tail_any (typeIs_str s z t) slot_str_getitem.lookup (getItem_str (by
   lia) (by mright) ⟨.str ⟨#[c]⟩,H,I.tok _,⟨_,rfl⟩,q⟩) hs))
def ic:V->Bool
 |.S9=>G
 |.bl _=>G
 |.int _=>G
 |.str _=>G
 |_=>η
noncomputable def Mj:V->V->Bool
 |.S9,.S9=>G
 |.bl a,.bl b=>a==b
 |.bl a,.int b=>(if a then 1 else 0)==b
 |.int a,.bl b=>a==(if b then 1 else 0)
 |.int a,.int b=>a==b
 |.str a,.str b=>a==b
 |_,_=>η
theorem QK(d:aP y u)(c:aP x v)(f:ic y=G)(e:ic x=G):SeqAt.EqAt A s u v<|Mj y x:=by
 cases y with
 |S9=>
  cases d;cases x with
  |S9=>subst c;exact SE _
  |bl b=>subst c;exact SeqAt.EqAt.none_bool b
  |int b=>obtain⟨t,rfl⟩:=c;exact QS b t
  |str b=>obtain⟨t,rfl⟩:=c;exact QX b t
  |_=>exact absurd (show η=G from e) MK
 |bl a=>
  subst d;cases x with
  |S9=>subst c;exact SeqAt.EqAt.bool_none a
  |bl b=>subst c;exact SeqAt.EqAt.bool_bool a b
  |int b=>obtain⟨t,rfl⟩:=c;exact SeqAt.EqAt.bool_int a b t
  |str b=>obtain⟨t,rfl⟩:=c;exact SeqAt.EqAt.bool_str a b t
  |_=>exact absurd (show η=G from e) MK
 |int a=>
  obtain⟨t',rfl⟩:=d;cases x with
  |S9=>subst c;exact QH a t'
  |bl b=>subst c;exact SeqAt.EqAt.int_bool a t' b
  |int b=>obtain⟨t,rfl⟩:=c;exact SeqAt.EqAt.int_int a t' b t
  |str b=>obtain⟨t,rfl⟩:=c;exact NA a t' b t
  |_=>exact absurd (show η=G from e) MK
 |str a=>
  obtain⟨t',rfl⟩:=d;cases x with
  |S9=>subst c;exact QI a t'
  |bl b=>subst c;exact SeqAt.EqAt.str_bool a t' b
  |int b=>obtain⟨t,rfl⟩:=c;exact NG a t' b t
  |str b=>obtain⟨t,rfl⟩:=c;exact SeqAt.EqAt.str_str a t' b t
  |_=>exact absurd ((e)) MK
 |_=>exact absurd ((f)) MK
def AJ(x:V)(u:nE):Bool:=match u with
 |.none=>Mj .S9 x
 |.bool b=>Mj (.bl b) x
 |.int i _=>Mj (.int i) x
 |.str z _=>Mj (.str z) x
 |_=>η
theorem Jd(r:aP y u)(f:ic y=G):AJ x u=Mj y x:=by
 cases y with
 |S9=>subst r;rfl
 |bl b=>subst r;rfl
 |int i=>obtain⟨t,rfl⟩:=r;rfl
 |str z=>obtain⟨t,rfl⟩:=r;rfl
 |_=>exact absurd ((f)) MK
theorem nQ:∀{xs:Se}{us:TK},aU xs us->xs.all ic=G->us.any (AJ x)=xs.any fun y=>Mj y x
 |_,_,.nil,_=>rfl
 |y::xs,u::us,.cons r t,f=>by
  rw[Vg,oR]at f;rw[Bp,Bp,Jd r f.1,nQ t f.2]
theorem kt(b:aP x v)(c:ic x=G):∀{xs:Se}{us:TK},aU xs us->xs.all ic=G->∀u∈us,SeqAt.EqAt A s u v (AJ x u)
 |_,_,.nil,_=>fun u a=>by cases a
 |y::xs,u::us,.cons r t,f=>fun d a=>by
  rw[Vg,oR]at f;rcases eQ.mp a with rfl|a
  .rw[Jd r f.1];exact QK r b f.1 c
  .exact kt b c t f.2 d a
def Eh(x:V)(xs:Se):Bool:=xs.any fun y=>Mj y x
def Z3(K:aT)(a:Bool):UL:=fun x y H Q=>∃p xs,y=.ref p/\(gr K H p xs\/m7 K H p xs)/\ic x=G/\xs.all ic=G/\Q (.bl<|if a then !Eh x xs else Eh x xs) H
theorem Dh:eJ X (UI .In)<|Z3 X.K η:=by
 intro aa s Z H x y v u Q I c e h;refine y2 h fun p xs f a b fs q=>?_;subst f;subst e;rcases a with a|a
 .obtain⟨aV,r,pl,d⟩:=I.list a
  refine SeqAt.in_listAt (AJ x) pl.isList (fun w hw=>kt c b r fs w<|by simpa using hw) ⟨.bl _,H,I,rfl,?_⟩;rw[show aV.toArray.any (AJ x)=aV.any (AJ x) by simp,nQ r fs];exact q
 .obtain⟨aV,r,pl,d⟩:=I.tuple a;refine SeqAt.in_tupleAt (AJ x) pl (fun w hw=>kt c b r fs w<|by simpa using hw) ⟨.bl _,H,I,rfl,?_⟩;rw[show aV.toArray.any (AJ x)=aV.any (AJ x) by simp,nQ r fs];exact q
theorem wn:eJ X (UI .NotIn)<|Z3 X.K G:=by
 intro aa s Z H x y v u Q I c e h;refine y2 h fun p xs f a b fs q=>?_;subst f;subst e;rcases a with a|a
 .obtain⟨aV,r,pl,d⟩:=I.list a
  refine SeqAt.notIn_listAt (AJ x) pl.isList (fun w hw=>kt c b r fs w<|by simpa using hw) ⟨.bl _,H,I,rfl,?_⟩;rw[show aV.toArray.any (AJ x)=aV.any (AJ x) by simp,nQ r fs];exact q
 .obtain⟨aV,r,pl,d⟩:=I.tuple a;refine SeqAt.notIn_tupleAt (AJ x) pl (fun w hw=>kt c b r fs w<|by simpa using hw) ⟨.bl _,H,I,rfl,?_⟩;rw[show aV.toArray.any (AJ x)=aV.any (AJ x) by simp,nQ r fs];exact q
theorem abR:bI X (.builtin "len") (fun xs H Q=>∃p ys,xs=[.ref p]/\(gr X.K H p ys\/m7 X.K H p ys)/\Q (.int ys.length) H):=by
 intro aa s Z H xs us Q I r h;obtain⟨p,ys,rfl,b,q⟩:=h;obtain⟨u,rfl,c⟩:=jV r;subst c;have d:=pM;rcases b with b|b
 .obtain⟨aV,r',pl,hz⟩:=I.list b
  have a:=r'.length;exact Calls.call_len_list pl.isList (by simp only[XC]<;>lia) ⟨.int ys.length,H,I.tok _,⟨s.toks+1,by mright⟩,q⟩
 .obtain⟨aV,r',pl,hz⟩:=I.tuple b
  have a:=r'.length;exact len_tuple pl (by simp only[XC]<;>lia) ⟨.int ys.length,H,I.tok _,⟨s.toks+1,by mright⟩,q⟩
theorem Spl:bI X (.builtin "len") (fun xs H Q=>∃z,xs=[.str z]/\z.length<=Ta/\Q (.int z.length) H):=by
 intro aa s Z H xs us Q I r h;obtain⟨z,rfl,a,q⟩:=h;obtain⟨u,rfl,t,rfl⟩:=jV r;have b:=pM;exact len_str ⊥ ⟨.int z.length,H,I.tok _,⟨_,rfl⟩,q⟩
theorem bI.or(h:bI X f r)(h':bI X f r'):bI X f (fun xs H Q=>r xs H Q\/r' xs H Q):=by
 intro aa s Z H xs us Q I rs q;rcases q with q|q
 .exact h aa s Z H xs us Q I rs q
 .exact h' aa s Z H xs us Q I rs q
theorem acV:bI X (.type "tuple") (fun xs H Q=>∃p ys,xs=[.ref p]/\((gr X.K H p ys/\∀l,H l=U->Q (.ref l) (br H l<|.tup ys))\/(m7 X.K H p ys/\Q (.ref p) H))):=by
 intro aa s Z H xs us Q I r h;obtain⟨p,ys,rfl,h⟩:=h;obtain⟨u,rfl,g⟩:=jV r;subst g;rcases h with⟨a,q⟩|⟨a,q⟩
 .obtain⟨aV,r',pl,hz⟩:=I.list a
  have c:=r'.length;refine call_tuple_list pl.isList (fun h' f=>?_) (by mright);have I1  := I.kept f;have d:Inv X aa Z (br H h'.objs.size<|.tup ys) {s with heap:=h'.push {cls:=.type "tuple",data:=.seq aV.toArray}}:=
   I1.laid (fun b o e=>iN _ e) (mK _) ((⟨hz,aV,r',IsTup.new _ _⟩))
  exact⟨.ref h'.objs.size,_,d,rfl,q _<|I1.Su.fresh<|mK _⟩
 .obtain⟨aV,r',pl,hz⟩:=I.tuple a
  exact call_tuple_same pl ⟨.ref p,H,I,rfl,q⟩
def KU(K:aT)(T:String)(x:V)(H:Hp):Prop:=match x with
 |.str _=>T="str"
 |.int _=>T="int"
 | .ref p=>(T="list"/\∃ xs,gr K H p xs)\/(T="tuple"/\∃ o,K.lookup p=J o/\o.cls=.type "tuple"/\o.dict=U) \/
   (T="dict"/\((∃a,H p=J (.dK a))\/∃a,H p=J (.dT a)))\/(T="set"/\∃S n,H p=J (.set S n))
 |_=>False
theorem Fo{Z:St}(I:Inv X aa Z H s)(r:aP x v)(d:KU X.K T x H):
  s.TypeIs v T/\∀a,v=.ref a->∃h,s.heap.get? a=J h/\h.dict=U:=by
 cases x with
 |str z=>
  obtain⟨t,rfl⟩:=r;cases((d));exact⟨typeIs_str s z t,fun _ e=>nomatch e⟩
 |int i=>
  obtain⟨t,rfl⟩:=r;cases((d));exact⟨typeIs_int s i t,fun _ e=>nomatch e⟩
 |ref p=>
  subst r;rcases d with⟨rfl,xs,j⟩|⟨rfl,o,b,k,hd⟩|⟨rfl,b⟩|⟨rfl,S,n,b⟩
  .obtain⟨aV,_,pl,_⟩:=I.list j
   refine⟨pl.isList.typeIs,fun a e=>?_⟩;cases e;refine US pl fun o n e c hd _=>?_
   exact⟨o,e,hd⟩
  .refine⟨⟨o,I.U3 p o b,k⟩,fun a e=>?_⟩;cases e;exact⟨o,I.U3 _ o b,hd⟩
  .have z:∃o,s.heap.get? p=J o/\o.ExactDict:=by
    rcases b with⟨f,b⟩|⟨f,b⟩
    .obtain⟨_,_,_,_,o,_,_,e,ex,_⟩:=I.Su p _ b;exact⟨o,e,ex⟩
    .obtain⟨_,_,_,_,o,_,_,e,ex,_⟩:=I.Su p _ b;exact⟨o,e,ex⟩
   obtain⟨o,e,ex⟩:=z
   refine⟨⟨o,e,ex.1⟩,fun a g=>?_⟩;cases g;exact⟨o,e,ex.2.1⟩
  .obtain⟨o,_,_,_,e,ex,_⟩:=I.Su p _ b;refine⟨⟨o,e,ex.1⟩,fun a g=>?_⟩;cases g;exact⟨o,e,ex.2.1⟩
 |_=>exact Wf d
def T4(K:aT)(T:String)(r:V->Se->Hp->VK->Prop)(a:TE):TE:=fun Z H Q=>a Z H fun x H1=>KU K T x H1/\r x [] H1 Q
def Yd(K:aT)(T:String)(r:V->Se->Hp->VK->Prop)(a:TE)(t:TA):TE:=fun Z H Q=>a Z H fun x H1=>KU K T x H1/\t Z H1 fun xs b=>r x xs b Q
variable{apos cpos:Pos}{id:String}
theorem aoN(e:PlainAttrs T)(c:Slot T name id)(d:typeOf (.builtin id)=pure (.type "method_descriptor"))(g:VG X id r)(f:PE X o to)
  (a:(WG o name X.env (eval o X.env)=eval o X.env)<|>Rv) (b:#[6]=G<|>Rv):PE X (.Call (.Attribute o name apos) [] [] cpos)<|T4 X.K T r to:=by
 intro aa s Z H Q I h;refine wpAny_Call_method0_late a b<|bP (f aa s Z H _ I h) ?_;intro v s1 q0_;refine US q0_ fun x H1 I1 r1 ty q1=>?_;let⟨h1,h2⟩:=Fo I1 r1 ty
 exact⟨T,id,e,c,d,h1,h2,rN rfl (Nk<|g aa s1 Z H1 x [] v [] Q I1 r1 .nil q1)⟩
theorem afw(n:PlainAttrs T)(c:Slot T name id)(g:typeOf (.builtin id)=pure (.type "method_descriptor"))(j:VG X id r)(p:PE X o to)(q:PA X (e::es) t)
  (b:(WG o name X.env (eval o X.env)=eval o X.env)<|>Rv)
  (d:((X3 cpos<|Uu (e::es) X.env).all (fun x=>!x.1)&&(backToKw cpos<|jh [] X.env).all (fun x=>x.1.isSome)
   && decide ((e::es).length+([]:List zS).length+(if([]:List zS).isEmpty then 0 else 1)<30))=G:=by rfl)
  (a:#[6]=G<|>Rv) (hs:(Uu (e::es) X.env=(η,eval e X.env)::Uu es X.env)<|>Rv) (f:(X3 cpos<|Uu es X.env).any (·.1)=η<|>Rv):
  PE X (.Call (.Attribute o name apos) (e::es) [] cpos) (Yd X.K T r to t):=by
 intro aa s Z H Q I h;refine wpAny_Call_method_late b d a rfl (bP (p aa s Z H _ I h) fun v z A=>US A fun x H1 w r1 y q1=>?_);obtain⟨h1,h2⟩:=Fo w r1 y
 refine⟨T,id,n,c,g,h1,h2,?_⟩;have i:=q cpos aa z Z H1 _ w q1;rw[hs]at i⊢;refine rN ⊤<|sE ?_;exact bP i fun us u k=>jZ k fun vs m l r2 q2=>j aa u Z m x vs v us Q l r1 r2 q2
end
theorem aU.one:∀{x:V}{us:TK},aU [x] us->∃u,us=[u]/\aP x u:=fun h=>by
 cases h with
 |cons r t=>cases t;exact⟨_,rfl,r⟩
theorem aU.zero:∀{us:TK},aU [] us->us=[]
 |_,.nil=>rfl
theorem aU.dropLast(h:aU xs us):aU xs.dropLast us.dropLast:=by
 induction h with
 |nil=>exact .nil
 |cons r t a=>
  cases t with
  |nil=>exact .nil
  |cons q t'=>exact .cons r a
theorem aU.eraseIdx:∀{xs:Se}{us:TK}(i:Nat),aU xs us->aU (xs.eraseIdx i) (us.eraseIdx i)
 |_,_,_,.nil=>.nil
 |_,_,0,.cons _ t=>t
 |_,_,i+1,.cons r t=>.cons r<|aU.eraseIdx i t
section
variable{Z:St}
theorem Inv.Gw{aV its':TK}(I:Inv X aa Z H s)(d:H l=J (.lst xs))
  (e:s.heap.get? l=J {cls:=.type "list",data:=.seq aV.toArray n}) (a:f aV.toArray=its'.toArray) (c:aU ys its') (g:ys.length<=Ta) (i:X.tn<=t'<|>XW):
  Inv X aa Z (br H l<|.lst ys) {s with heap:=s.heap.update l<|Obj.mapSeq f,toks:=t'}:=by
 have q:=PySem.IsL.update e f;rw[a]at q;refine I.write (by rw[d];exact trivial) (.inl rfl) (fun j u h b=>(hY s.heap (Obj.mapSeq f)<|Vn h).trans b) ⟨_,q⟩ ?_;exact⟨g,its',_,c,q⟩
section
variable{Z:St}
theorem Inv.ex0(I:Inv X aa Z H s)(a:aU ys aV)(b:ys.length<=sizeLine)(c:X.tn<=t':=by walk_at "tok"):
  Inv X aa Z (br H s.heap.objs.size<|.lst ys) {s with heap:=s.heap.push {cls:=.type "list",data:=.seq aV.toArray},toks:=t'}:=
 I.laid (fun _ _ q=>iN _ q) (mK _) ⟨b,aV,0,a,Vh _ rfl⟩
end
section
variable{Z:St}
theorem Inv.fresh(I:Inv X aa Z H s):H s.heap.objs.size=U:=I.Su.fresh<|mK _
end
theorem Inv.Gx(I:Inv X aa Z H s)(a:H l=J (.lst xs)):xs.length<=Ta/\∃(aV:TK)(n:Nat),aU xs aV/\xs.length=aV.length/\s.heap.get? l=J {cls:=.type "list",data:=.seq aV.toArray n}:=by
 obtain⟨z,aV,n,r,e⟩:=I.Su l _ a;exact⟨z,aV,n,r,r.length,e⟩
end
section
def bsh:V->Se->Hp->VK->Prop:=fun x vs H Q=>∃l xs y,x=.ref l/\vs=[y]/\H l=J (.lst xs)/\xs.length<Ta/\Q .S9 (br H l<|.lst<|xs++[y])
theorem gq:VG X "list.append" bsh:=by
 intro aa s Z H x vs v us Q I c b h;left;obtain⟨l,xs,y,rfl,rfl,a,d,q⟩:=h;subst c;obtain⟨u,rfl,ru⟩:=b.one;obtain⟨z,aV,n,r,hl,e⟩:=I.Gx a
 right;refine call_meets F.slot_list_append ⟨_,e,rfl⟩ F.entry_list_append (F.args_list_append_2 _ _) (PySem.list_append l aV.toArray n u<|by mright) ⟨e,?_⟩;refine⟨.S9,_,I.Gw a e ∅ (r.append<|.cons ru .nil) ?_,rfl,q⟩
 grind
def Pi:V->Se->Hp->VK->Prop:=fun x vs H Q=>∃l xs y,x=.ref l/\vs=[]/\H l=J (.lst xs)/\xs[xs.length-1]?=J y/\Q y (br H l<|.lst xs.dropLast)
def hdO:VG X "list.pop" Pi:=by
 intro aa s Z H x vs v us Q I g f h;left;obtain⟨l,xs,y,rfl,rfl,c,d,q⟩:=h;subst g;have a:=f.zero;subst a;obtain⟨z,aV,n,r,hl,e⟩:=I.Gx c
 obtain⟨u,hu,ru⟩:=r.get d
 right;have b:aV.toArray[aV.toArray.size-1]?=J u:=by
  mright
 refine call_meets F.slot_list_pop ⟨_,e,rfl⟩ F.entry_list_pop (F.args_list_pop_1 _) (MeetsSeq.list_pop_last l aV.toArray n u b<|by mright) ⟨e,?_⟩;refine⟨y,_,I.Gw c e ?_ r.dropLast ?_,ru,q⟩
 .simp
 simp;omega
end
section
set_option maxRecDepth 100000 in
end
section
variable{κ:Type}[DecidableEq κ]
noncomputable def gN(a:List<|κ×V)(k:κ):Option V:=(a.find? fun kv=>decide (kv.1=k)).map (·.2)
noncomputable def tf(a:List<|κ×V)(k:κ)(v:V):List<|κ×V:=
 if(a.any fun kv=>decide (kv.1=k))=G then a.map (fun kv=>if kv.1=k then(kv.1,v)else kv)else a++[(k,v)]
theorem cQ{p:κ×V}{r:List<|κ×V}{k:κ}(e:p.1=k):gN (p::r) k=J p.2:=by simp[gN,vD,e]
theorem cK{p:κ×V}(e:¬p.1=k):gN (p::r) k=gN r k:=by simp[gN,vD,e]
theorem sQ(k:κ):∀kvs:List<|κ×V,(kvs.any fun kv=>decide (kv.1=k))=(gN kvs k).isSome:=TB (rfl) fun p r i_=>by
  rw[Bp];by_cases e:p.1=k
  .rw[cQ e,Th e,Bool.true_or,Option.isSome_some]
  .rw[cK e,TU e];exact i_
theorem E5(a:List<|κ×V)(k:κ)(v:V):(tf a k v).length<=a.length+1:=by
 delta tf
 grind
theorem pE.opd(r:pE o u):o.isSome=u.isSome:=by
 cases o with
 |none=>cases u with
  |none=>rfl
  |some _=>exact((r)).elim
 |some _=>cases u with
  |none=>exact((r)).elim
  |some _=>rfl
theorem KV.val(r:KV kvs vs)(k:κ):pE (gN kvs k)<|valueAt vs k:=by
 induction r with
 |nil=>exact Uy
 |@cons p q ps qs h t ih=>
  obtain⟨h1,h2⟩:=h
  by_cases e:p.1=k
  .have e'  := h1.symm.trans e;have b:valueAt (q::qs) k=J q.2:=by simp[valueAt,vD,e']
   rw[cQ e,b];exact h2
  .have e':¬q.1=k:=fun z=>e<|h1.trans z;have b:valueAt (q::qs) k=valueAt qs k:=by simp[valueAt,vD,e']
   rw[cK e,b];exact ih
theorem KV.any(r:KV kvs vs)(k:κ):(kvs.any fun kv=>decide (kv.1=k))=vs.any fun kv=>decide (kv.1=k):=by
 induction r with
 |nil=>rfl
 |cons h t a=>mright
theorem KV.j8(r:KV kvs vs)(k:κ)(a:aP y u):
  KV (kvs.map fun kv=>if kv.1=k then(kv.1,y)else kv) (vs.map fun kv=>if kv.1=k then(kv.1,u)else kv):=by
 induction r with
 |nil=>exact .nil
 |@cons p q ps qs h t ih=>
  refine .cons ?_ ih;by_cases e:p.1=k
  .mright
  mright
theorem KV.put(r:KV kvs vs)(k:κ)(a:aP y u):KV (tf kvs k y)<|stored vs k u:=by
 delta tf stored;rw[r.any k];by_cases e:(vs.any fun kv=>decide (kv.1=k))=G
 .rw[SI e,SI e];exact r.j8 k a
 .rw[SM e,SM e];exact Paired.snoc r ⟨rfl,a⟩
section
variable{κ:Type}[DecidableEq κ]
theorem KV.length{kvs:List<|κ×V}(r:KV kvs vs):kvs.length=vs.length:=Paired.length r
end
end
theorem HR(r:aP (kV k) u):(dE P w).is k u=G:=by
 cases k with
 |inl i=>obtain⟨t,e⟩:=((r));subst e;exact(DJ i t)
 |inr x=>obtain⟨t,e⟩:=((r));subst e;exact(D5 x t)
 |nn=>have e  := r;subst e;rfl
theorem ae1:∀{a:List Key}{us:TK},aU (a.map kV) us->ItemsAre (dE P w) a us:=@TB _ _ (@fun _ r=>by cases r;exact .nil) fun k a i_=>@fun _ r=>by
  cases r with
  |cons h t=>exact .cons (HR h)<|i_ t
abbrev KT(H:Hp):List (List Key×V)->List (List Key×SA×nE)->Prop:=Paired fun p q=>p.1=q.1/\H q.2.1=J (.tup<|p.1.map kV)/\aP p.2 q.2.2
theorem KT.val(r:KT H kvs xs)(k:List Key):pE (gN kvs k)<|(atKey xs k).map (·.2):=by
 induction r with
 |nil=>exact Uy
 |@cons p q ps qs h t ih=>
  obtain⟨h1,_,h2⟩:=h
  by_cases e:p.1=k
  .have e'  := h1.symm.trans e;have b:atKey (q::qs) k=J q.2:=by simp[atKey,vD,e']
   rw[cQ e,b];exact h2
  .have e':¬q.1=k:=fun z=>e<|h1.trans z;have b:atKey (q::qs) k=atKey qs k:=by simp[atKey,vD,e']
   rw[cK e,b];exact ih
theorem KT.j8(r:KT H kvs xs)(k:List Key)(ry:aP y u):
  KT H (kvs.map fun kv=>if kv.1=k then(kv.1,y)else kv) (xs.map<|putAt k u):=by
 induction r with
 |nil=>exact .nil
 |@cons p q ps qs h t ih=>
  refine .cons ?_ ih;unfold putAt;by_cases e:p.1=k
  .mright
  mright
theorem KT.put(r:KT H kvs xs)(k:List Key)(hb:H b=J (.tup<|k.map kV))(ry:aP y u):
  KT H (tf kvs k y) (storedH xs k b u):=by
 have e:(kvs.any fun kv=>decide (kv.1=k))=(atKey xs k).isSome:=by
  rw[sQ,(r.val k).opd,Option.isSome_map]
 unfold tf storedH;rw[e];by_cases q:(atKey xs k).isSome=G
 .rw[SI q,SI q];exact r.j8 k ry
 .rw[SM q,SM q];exact Paired.snoc r ⟨rfl,hb,ry⟩
theorem KT.keeps(r:KT H kvs xs)(ht:∀b ys,H b=J (.tup ys)->H' b=J (.tup ys)):KT H' kvs xs:=
 Paired.Wi r fun _ _ z=>⟨z.1,ht _ _ z.2.1,z.2.2⟩
section
theorem M5(ok:nW P w H h)(e:Rd H a u):fK P w H h a u:=e.ok ok
theorem G9(ok:nW P w H h)(e:Rd H a<|.dK kvs):kvs.length<=Ta/\(a==zL)=η/\∃vs,KV kvs vs/\h.DictOf (dE P w) a vs:=
 (M5 ok e)
theorem alO(ok:nW P w H h)(e:H a=J (.dK kvs)):kvs.length<=sizeLine/\(a==sysModules)=η/\∃vs,KV kvs vs/\h.DictOf (dE P w) a vs:=G9 ok<|.inl e
theorem Gq(ok:nW P w H h)(e:H a=J (.tup<|ks.map kV)):(tupleKind<|dE P w).is h ks a:=by
 obtain⟨_,aV,r,o,h1,h2,n,b⟩:=((ok a _ e));exact⟨o,aV.toArray,n,h1,h2,b,by simpa using ae1 r⟩
theorem NC(ok:nW P w H h)(e:Rd H a<|.dT kvs):kvs.length<=Ta/\(a==zL)=η /\
  ∃xs,KT H kvs xs/\h.DictOfH (tupleKind<|dE P w) a xs:=by
 left;obtain⟨z,y,xs,r,o,es,f,h1,h2,d,c,g⟩:=((M5 ok e));right;refine⟨z,y,xs,r,o,es,f,h1,h2,d,c,fun x b=>?_,g⟩;have all:∀{l:List<|List Key×V}{m:List<|List Key×SA×nE},KT H l m->∀x∈m,(tupleKind<|dE P w).is h x.1 x.2.1:=by
  intro l m q;induction q with
  |nil=>simp
  |@cons p q ps qs hq t ih=>
   intro x b;rcases eQ.mp b with e|b
   .exact Gq ok (by mright)
   .exact ih x b
 exact all r x b
theorem alP(ok:nW P w H h)(e:H a=J (.dT kvs)):kvs.length<=sizeLine/\(a==sysModules)=η /\
  ∃xs,KT H kvs xs/\h.DictOfH (tupleKind<|dE P w) a xs:=NC ok<|.inl e
end
def Uk(H:Hp)(a:SA)(y:V)(r:Option V):Prop:=
 (∃c k,Rd H a (.dK c)/\y=kV k/\r=gN c k)\/∃c k b,Rd H a (.dT c)/\y=.ref b/\H b=J (.tup<|k.map kV)/\r=gN c k
def um(H:Hp)(a:SA)(y v:V)(H':Hp):Prop:=
 (∃kvs k,H a=J (.dK kvs)/\y=kV k/\kvs.length<sizeLine/\H'=br H a (.dK<|tf kvs k v)) \/
 ∃kvs k b,H a=J (.dT kvs)/\y=.ref b/\H b=J (.tup<|k.map kV)/\kvs.length<sizeLine/\H'=br H a (.dT<|tf kvs k v)
theorem Uk.k{H:Hp}{a:SA}{kvs:List<|Key×V}{k:Key}(e:H a=J (.dK kvs)):Uk H a (kV k)<|gN kvs k:=.inl ⟨kvs,k,.inl e,rfl,rfl⟩
theorem um.k{k:Key}(e:H a=J (.dK kvs))(hl:kvs.length<sizeLine):um H a (kV k) v<|br H a<|.dK<|tf kvs k v:=.inl ⟨kvs,k,e,rfl,hl,rfl⟩
section
variable{Z:St}
theorem Inv.big(I:Inv X aa Z H s):zL<s.heap.objs.size:=by
 have h  := (I.mod.glob.keeps I.bk).lt;exact Nat.lt_trans ∎ h
theorem Dk(m:A.units+1<cLine)(I:Inv X aa Z H s)(g:Uk H a y<|J v)(j:aP y u)(h:∀d s',Inv X aa Z H s'->aP v d->Q d s'):
  SN #[0] A (e8 (.ref a) u) Q E s:=by
 rcases g with⟨i,k,e,f,l⟩|⟨i,k,b,e,f,n,l⟩
 .subst f;obtain⟨z,hd,vs,rel,dd⟩:=G9 I.Su e
  obtain⟨d,hw,c⟩:=pE.some_of (by rw[l];exact rel.val k);exact wpAny_getItem_of (HR j) dd.mapOf hw<|h d _ (I.tok _) c
 .subst f;cases((j));obtain⟨z,hd,xs,rel,dd⟩:=NC I.Su e
  obtain⟨d,hw,c⟩:=pE.some_of (by rw[l];exact rel.val k);obtain⟨p,hp,hp2⟩:=dO.mp hw
  refine wpAny_getItem_heap (tupleKind_room_in1 m) (Gq I.Su n) dd hp ?_;rw[hp2];exact h d _ (I.tok _) c
theorem Kn(I:Inv X aa Z H s)(c:Sk<|H a)(hs:X1 a s.heap h')(d:∃q,h'.get? a=J q)(new:fK X.prog X.w (br H a ob) h' a ob)(f:X.tn<=t'<|>XW):
  Inv X aa Z (br H a ob) {s with heap:=h',toks:=t'}:=
 I.write c (.inl rfl) (fun b q e z=>(hs.2 b e).trans z) d new
theorem RC(z:kvs.length<=Ta)(hd:(a==zL)=η)(b:KV kvs vs)(dd:h'.DictOf (dE P w) a vs):
  fK P w H' h' a (.dK kvs):=⟨z,hd,vs,b,dd⟩
section
variable{Z:St}
theorem agF(hu:A.units+1<cLine)(I:Inv X aa Z H s)(g:um H a y v H')(ry:aP y u)(rv:aP v r)(h:∀s',Inv X aa Z H' s'->Q () s'):
  wpAny (model X.prog X.w) A (setItem (.ref a) u r) Q E s:=by
 rcases g with⟨kvs,k,e,ey,l,eHq⟩|⟨kvs,k,b,e,ey,eb,l,eHq⟩
 .subst ey eHq;obtain⟨z,hd,vs,rel,dd⟩:=alO I.Su e;have hz:vs.length<=sizeLine:=by rw[<-rel.length];exact z
  have hl:(tf kvs k v).length<=sizeLine:=by have:=E5 kvs k v;lia
  refine wpAny_setItem_pairs (hsz:=hz) (HR ry) dd fun h' dd' hs=>h _ ?_;have he:∃q,h'.get? a=J q:=let⟨q,_,_,hq,_⟩:=dd';⟨q,hq⟩;exact Kn I (by rw[e];exact Uy) hs he<|RC hl hd (rel.put k rv) dd'
 .subst ey eHq;cases(show u=WU b from ry);obtain⟨z,hd,xs,rel,dd⟩:=alP I.Su e;have hz:xs.length<=sizeLine:=by rw[<-Paired.length rel];exact z
  have hl:(tf kvs k v).length<=sizeLine:=by have:=E5 kvs k v;lia
  refine wpAny_setItem_heap (tupleKind_room_in1 hu) (Gq I.Su eb) dd fun h' dd' hs=>h _ ?_;obtain⟨q,es,ep,hq,h2,h3,h4,_,h5⟩:=dd';refine Kn I (by rw[e];exact Uy) hs ⟨q,hq⟩ ⟨hl,hd,_,(rel.put k eb rv).keeps fun c ys ec=>?_,q,es,ep,hq,h2,h3,h4,h5⟩;rw[aG<|amc ec e (fun z=>nomatch z)]
  exact ec
end
end
def En(i:Ry):Prop:=∀b a,subscripted i η b a=operate [b,a] (e8 b a)
theorem BU{T id:String}
  (f:typeLookup (.type T) "__getitem__"=pure (J<|.builtin id)) (hs:En slice)
  (h:SN (UA prog w) A (eval value env) (fun o b=>SN (UA prog w) A (eval slice env) (fun i s₂=>s₂.TypeIs o T/\SN (UA prog w) A (e8 o i) Q E s₂) E b) E s):
  SN (UA prog w) A (eval (.Subscript value slice pos) env) Q E s:=by
 refine Subscript_<|UE h (fun o b e=>UE e (fun i s₂ a=>?_) fun _ _ x=>x) fun _ _ x=>x;let⟨hT,a⟩:=a
 refine iF ?_;refine iF<|wpAny_specialOf hT f ?_;have fin:SN (UA prog w) A (subscripted slice η o i) (fun r c=>SN (UA prog w) A (letTemporaryGo value o r >>= fun _=>pure r) Q E c) E s₂:=by
  rw[hs o i];exact wpAny_operating<|UE a (fun r c d=>iF<|wpAny_letTemporaryGo<|U4 d) fun _ _ x=>x
 first
  |exact U4 (iF fin)
  |lia
  |lia
def exi(d c:TE):TE:=fun Z H Q=>d Z H fun x H1=>c Z H1 fun y b=>∃a v,x=.ref a/\Uk b a y (J v)/\Q v b
section
theorem Mh(l:X.A.units+1<cLine)(m:PE X o td)(f:PE X i ty)(hs:En i):PE X (.Subscript o i pos)<|exi td ty:=by
 intro aa s Z H Q I h;refine BU LY.lookup hs<|bP (m aa s Z H _ I h) fun u s1 k=>Tw k fun x H1 I1 rx q1=>bP (f aa s1 Z H1 _ I1 q1) fun iv s2 k=>Tw k fun y H2 I2 ry k=>Tw k fun a v ex g q2=>?_;subst ex;obtain rfl:u=WU a:=rx;exact⟨(by
   rcases g with⟨c,k,e,_,_⟩|⟨c,k,b,e,_,_,_⟩
   .obtain⟨_,_,vs,_,dd⟩:=G9 I2.Su e
    exact dd.typeIs
   .obtain⟨_,_,xs,_,dd⟩:=NC I2.Su e
    exact dd.typeIs),Dk l I2 g ry fun p n j d=>⟨v,H2,j,d,q2⟩⟩
end
theorem F7(h:T3)(a:zL<h.objs.size):fK P w H (h.push {cls:=.type "dict",data:=.dict #[]}) h.objs.size<|.dK []:=
 ⟨Uh _,beq_eq_false_iff_ne.mpr<|Vn<|Vd a,[],.nil,Heap.DictOf.new h⟩
def wK:List (TE×TE)->St->Hp->(List (V×V)->Hp->Prop)->Prop
 |[],_,H,Q=>Q [] H
 |(tk,tv)::r,Z,H,Q=>tk Z H fun x H1=>tv Z H1 fun y a=>wK r Z a fun ps b=>Q ((x,y)::ps) b
abbrev VV:List (V×V)->List (nE×nE)->Prop:=Paired fun p q=>aP p.1 q.1/\aP p.2 q.2
def X9(X:Cx)(pos:Pos)(b:List<|Option Ry)(a:List Ry)(Bj:List<|TE×TE):Prop:=
 ∀(aa:TQ)(s:ID)(Z:St)(H:Hp)(Q:List (V×V)->Hp->Prop),Inv X aa Z H s->wK Bj Z H Q ->
  SN #[0] X.A (evalPairs<|pairTrees b a X.env pos) (fun vs s'=>∃ps H',Inv X aa Z H' s'/\VV ps vs/\Q ps H') X.xe s
theorem ajh:X9 X pos [] [] []:=fun aa s Z H Q I h=>pairTrees_nil_walk ⟨[],H,I,.nil,h⟩
theorem aid(hk:PE X k tk)(hv:PE X v tv)(hr:X9 X pos ks vs Bj):
  X9 X pos (J k::ks) (v::vs) ((tk,tv)::Bj):=fun aa s Z H Q I h=>
 pairTrees_cons_walk (bP (hk aa s Z H _ I h) fun u s1⟨x,H1,I1,rx,q1⟩=>bP (hv aa s1 Z H1 _ I1 q1) fun w2 s2⟨y,H2,I2,ry,q2⟩=>
  bP (hr aa s2 Z H2 _ I2 q2) fun ws s3⟨ps,H3,I3,rel,q3⟩=>⟨(x,y)::ps,H3,I3,.cons ⟨rx,ry⟩ rel,q3⟩)
def jA(b more:List<|Key×V):List<|Key×V:=more.foldl (fun a kv=>tf a kv.1 kv.2) b
theorem KV.merge:∀{more:List<|Key×V}{rs:List<|Key×nE}{a:List<|Key×V}{vs:List<|Key×nE},KV more rs->KV a vs->KV (jA a more) (merged vs rs):=by
 intro more rs a vs r;induction r generalizing a vs with
 |nil=>intro q;exact q
 |@cons p q ps qs h t ih=>
  intro r0;have e:KV (tf a p.1 p.2)<|stored vs q.1 q.2:=by
   have:=r0.put p.1 h.2
   rw[<-h.1];exact this
  exact ih e
theorem akS:∀(more a:List<|Key×V),(jA a more).length<=a.length+more.length:=TB (fun a=>by show a.length<=a.length+0;simp) fun p r i_ a=>by
  have h1:=i_<|tf a p.1 p.2;have h2:=E5 a p.1 p.2;show(jA (tf a p.1 p.2) r).length<=_;rw[uq];lia
theorem aaR:∀{d:List<|Key×V}{ws:List<|nE×nE},VV (d.map fun kv=>(kV kv.1,kv.2)) ws->∃rs,Carries (dE P w) ws rs/\KV d rs:=@TB _ _ (@fun _ r=>by cases r;exact⟨[],Uy,.nil⟩) fun p d i_=>@fun _ r=>by
  cases r with
  |@cons a b as bs h t=>
   obtain⟨rs,c,q⟩:=i_ t;obtain⟨b1,b2⟩:=b;exact⟨(p.1,b2)::rs,⟨HR h.1,rfl,c⟩,.cons ⟨rfl,h.2⟩ q⟩
def Uq0(Bj:List<|TE×TE):TE:=fun Z H Q=>∀p,H p=U->wK Bj Z (br H p<|.dK []) fun ps a=>a p=J (.dK [])/\∃kvs:List<|Key×V,ps=kvs.map (fun kv=>(kV kv.1,kv.2))/\kvs.length<=15/\Q (.ref p) (br a p<|.dK<|jA [] kvs)
theorem JX(h:X9 X pos keys values Bj)(a:keys.all (·.isSome)=G)(l:keys.length=values.length)(m:keys≠[])
  (d:keys.length<=15):PE X (.Dict keys values pos)<|Uq0 Bj:=by
 intro aa s Z H Q I q;have i:=I.Su.fresh<|mK s.heap.objs.size;have f:=I.laid (fun _ _ q=>iN _ q) (mK _)<|F7 s.heap I.big;refine wpAny_Dict_walk (knd:=dE X.prog X.w) a l m d<|bP (h aa _ Z _ _ f<|q _ i) ?_;rintro ws s2⟨ps,H2,I2,rel,e,kvs,ep,lk,q2⟩;subst ep;left;obtain⟨rs,c,j⟩:=aaR rel;let⟨z,hd,vs0,r0,dd⟩:=(G9 I2.Su<|.inl e)
 cases r0;right;refine⟨rs,c,dd,fun h' b hs=>⟨.ref s.heap.objs.size,_,?_,rfl,q2⟩⟩;have g:(jA [] kvs).length<=Ta:=by
  have h1:=akS kvs [];rw[l3]at h1;rw[XB];lia
 have k:∃q,h'.get? s.heap.objs.size=J q:=let⟨q,_,_,hq,_⟩:=b;⟨q,hq⟩;exact Kn I2 (by rw[e];exact Uy) hs k<|RC g hd (j.merge .nil) b
end L2
namespace Att
open PySem PySem.W PySem.Calls PyProof.Rows
theorem Yf:∀(ns:List Int)(vs:TK),WellAll P h vs (ns.map WData.int)->IntsAre vs ns:=by
 intro ns;induction ns with
 |nil=>
  intro vs w;rw[t4]at w;cases w;exact .nil
 |cons n ns c=>
  intro vs w;rw[Xp]at w;cases w with
  |cons a b=>
   cases a;exact .cons _ _ (c _ b)
theorem C6{l:OpenLaw}(t:l.most=J n)
  (c:l.row.toRowW.claim.pre args=G) (k:WellAll P h vals args):
  ∃a vs b,vals=[WU a]/\args=[WData.list<|b.map WData.int]/\h.get? a=J {cls:=.type "list",data:=.seq vs.toArray}/\IntsAre vs b/\b.length<=n:=by
 have j:WShape.hasAll [] args [.list .int]=G:=(pre_splitW c).1;have m:l.pre.holds [] {args:=args}=G:=(pre_splitW c).2;obtain⟨d,r,rfl,h1,h2⟩:=hasAllW_cons j;obtain rfl:=hasAllW_nil h2;obtain⟨xs,rfl,u⟩:=hasW_list h1;obtain⟨b,rfl⟩:=items_int u;have f:b.length<=n:=by
  delta OpenLaw.pre at m;have g:(WTm.not<|.lt (.lit<|.int (n:Int))<|.len<|.arg 0).holds [] {args:=[.list<|b.map .int]}=G:=by
   have g:=(holds_andW m).1;rw[t]at g;exact g
  have i:=condW_of g<|w_not<|w_lt w_lit<|w_len_list<|w_arg rfl;rw[WH]at i;refine Nat.le_of_not_lt fun q=>?_;have s:(n:Int)<((b.length:Nat):Int):=by mright
  first
   |(rw[Th s]at i;exact absurd i<|∎)
   |(cases i;lia)
 cases k with
 |cons p o=>
  cases o;cases p with
  |list v e=>exact⟨_,_,b,rfl,rfl,v,Yf b _ e,f⟩
theorem ace{l:OpenLaw}
  (M:l.most=J n) (x:d.params.defaults=[])
  (call:∀(w:Sl)(s₀ b:ID)(mg y:Sq)(i:SA)(o:Obj)(v m c:nE)(a:SA)(vs:TK)(k:List Int),
   Ground q loose [] XP w s₀ mg y b.heap->YP w b.heap ->
   b.heap.get? i=J o->o.data=.func (docDef d.name d.params d.body d.scope v m c)->b.heap.CodeRec m d.name->mg d.name=J (.ref i) ->
   b.heap.get? a=J {cls:=.type "list",data:=.seq vs.toArray}->IntsAre vs k->k.length<=n->b.gens=#[] ->
   qq (UA l.prog w) callerA (.call (.ref i) ⟨[.ref a],[]⟩) (fun r s'=>r=.ok (.ret (.bool G))/\OldK b.heap s'.heap/\s'.os=b.os/\AllBare s'.gens) b):
  WalkO q loose XP YP l.row.toRowW d [] (fun f vs=>uK f vs):=by
 intro w s₀ b mg y SK p i o v m c K kV O hd s z t F args B as g A H u C;obtain rfl:K=.none:=Dflts.none z x;obtain rfl:kV=.none:=Dflts.noKw z;refine rm (C6 M g u) fun a vs k P Q j e h=>?_;subst P Q;refine enter_call<|eo (call w s₀ b mg y i o v m c a vs k SK p O (fd_plain hd) s t j e h F) fun r s' I=>?_;obtain⟨rfl,h2,N,E⟩:=I;exact⟨.inl ⟨.bool G,.bool G,[],rfl,fun _=>rfl,.bool G,(fun l args =>  postW_of (r:=l.row.toRowW) (X:=(G==G))
   (show WShape.has [] (.bool G) .bool=G by first|rfl|rfl|lia)
   (show(WTm.eq .res (.lit (.bool G))).value [] {args:=args,res:=J (.bool G),after:=args}=J (.bool (G==G))from w_eq_bool (w_res rfl) w_lit) rfl) l _,fun _=>⟨Oe,fun _ D=>(nomatch D)⟩⟩,h2,N,E⟩
end Att
namespace L2
open PySem PySem.Spec PyProof.Rows
theorem u8:∀{vs:TK}{a:List Int},IntsAre vs a->aU (a.map V.int) vs
 |_,_,.nil=>.nil
 |_,_,.cons n t h=>.cons ⟨t,rfl⟩<|u8 h
theorem Pp{l:List<|SA×Str}(a:(l.map (·.1)).Nodup)(h:x∈l):l.lookup x.1=J x.2:=by
 induction l with
 |nil=>nofun
 |cons y r b=>
  rw[Xp,Vx]at a;rcases eQ.mp h with rfl|h
  .simp[wA]
  .have n:x.1≠y.1:=fun z=>a.1<|z▸yh h;rw[wA,show(x.1==y.1)=η from by simpa using n];exact b a.2 h
theorem Ae{l:List<|SA×β}{b:SA}{q:β}(h:l.lookup b=J q):(b,q)∈l:=by
 induction l with
 |nil=>nofun
 |cons y r a=>
  rw[wA]at h;cbv
  .rename_i e;nofun;rw[show b=y.1 from by simpa using e];exact Up
  .exact ie _ (a h)
theorem IX{K:aT}(h:g6 K p=J x):K.lookup x.1=U/\t5 K p.1 x.1=G:=by
 delta g6 at h;cbv
 .cbv
  .cbv
   .rename_i e;nofun;rw[oR]at e;exact⟨by simpa using e.1,e.2⟩
   .nofun
  .nofun
 .nofun
theorem Ie{K:aT}
  (O:K.In s₁.heap) (t:s₁.heap.Ns By mg) (S:s₁.heap.Ns builtinsNs mb) (I:∀x:Str,x≠"__name__"->mb x=Vl x) (C:s₁.heap.NoLimit) (hg:s₁.gens=#[])
  (hT:((K.filterMap<|g6 K).map (·.1)).Nodup/\∀x∈K.filterMap (g6 K),s₁.heap.get? x.1=J (ik #[]))
  (j:s₁.heap.get? a=J {cls:=.type "list",data:=.seq vs.toArray}) (X:IntsAre vs ns) (hl:ns.length<=Ta) (hr:TZ k callerA)
  (F:∀base:T3,K.In base->base.Ns By mg->T8 P w K mg base CX k fa fd [x] sp) (g:∀(s:ID)(u:nE),BindsTo s fd ⟨[u],[]⟩ [(x,u)])
  (Q:∀H:Hp,gr K H a (ns.map V.int)->sp [.ref a] H (fun v _=>v=.bl G) fun _ _ _=>False)
  (M:∀H e s',CX [] H s₁ (fun _ _ _=>False) e s'->False):
  qq (UA P w) callerA (.call (.ref fa) ⟨[.ref a],[]⟩) (fun r s'=>r=.ok (.ret<|.bool G)/\OldK s₁.heap s'.heap/\s'.os=s₁.os/\AllBare s'.gens) s₁:=by
 have rv:=u8 X;have ph:=X.length;let l:=K.filterMap<|g6 K
 have tab:∀b q,l.lookup b=J q->K.lookup b=U/\s₁.heap.get? b=J (ik #[])/\isCodeTable s₁.heap b:=fun b q e=>by
  have T:=Ae e;obtain⟨p,hp,i⟩:=mP.mp T
  have:=IX i
  have B:=hT.2 _ T;exact⟨this.1,B,((PySem.W.codeHd_of_K O this.2).tab B).isCodeTable⟩
 let H:Hp:=fun b=>match l.lookup b with
  |some q=>J<|.UX q
  |none=>if b=a/\K.lookup a=U then J (.WC {cls:=.type "list",data:=.seq vs.toArray} (.lst<|ns.map V.int))else U
 have E:∀b u,H b=J u->(∃q,u=.UX q/\l.lookup b=J q)\/(b=a/\K.lookup a=U/\u=.WC {cls:=.type "list",data:=.seq vs.toArray} (.lst<|ns.map V.int)):=fun b u e=>by
  have y:(match l.lookup b with
   |some q=>J<|.UX q
   |none=>if b=a/\K.lookup a=U then J (HO.WC {cls:=.type "list",data:=.seq vs.toArray} (.lst (ns.map V.int)))else U)=J u:=e
  split at y
  .cases y;exact .inl ⟨_,rfl,by assumption⟩
  .split at y
   .rename_i h;cases y;exact .inr ⟨h.1,h.2,rfl⟩
   .cases y
 have nk:∀b u,H b=J u->K.lookup b=U:=fun b u e=>by
  rcases E b u e with⟨q,_,e1⟩|⟨rfl,e1,_⟩
  .exact(tab b q e1).1
  .exact e1
 have nl:l.lookup a=U:=by
  cases e:l.lookup a with
  |none=>rfl
  |some q=>have:=(tab a q e).2.1;rw[j]at this;cases this
 have R:nW P w H s₁.heap:=fun b u e=>by
  rcases E b u e with⟨q,rfl,e1⟩|⟨rfl,_,rfl⟩
  .exact⟨#[],(tab b q e1).2.1,trivial,fun pos cv z=>nomatch z⟩
  .exact⟨j,by rw[WH];exact hl,vs,_,rv,j⟩
 have hS:gr K H a<|ns.map V.int:=by
  cases hk:K.lookup a with
  |some o=>
   have e:=O a o hk;rw[j]at e;cases e;exact .inr ⟨_,vs.toArray,_,hk,rfl,rfl,rfl,by rw[XC,ph];exact hl,⊤⟩
  |none=>exact .inl<|.inr ⟨{cls:=.type "list",data:=.seq vs.toArray},by show(match l.lookup a with|some q=>_|none=>_)=_;rw[nl];exact SI ⟨rfl,hk⟩⟩
 have c:∀{b:SA}{o:Obj},s₁.heap.get? b=J o->H b=U->(yU s₁.heap H).get? b=J o:=fun e n=>F1 e n;have N:∀{b:SA}{o:Obj}{es:Array DictEntry}{D:Nat},s₁.heap.get? b=J o->o.data=.dict es D->H b=U:=fun{b o es D}e d=>by
  cases q:H b with
  |none=>rfl
  |some u=>
   rcases E b u q with⟨q1,_,z⟩|⟨rfl,_,_⟩
   .rw[(tab b q1 z).2.1]at e;cases e;cases d
   .rw[j]at e;cases e;cases d
 have f:∀{b:SA}{m:Sq},s₁.heap.Ns b m->(yU s₁.heap H).Ns b m:=fun{b m} q_=>WM q_ fun o es D e d r=>⟨o,es,D,c e<|N e d,d,r⟩;have A:K.In<|yU s₁.heap H:=fun b o e=>c (O b o e) (by
  cases q:H b with
  |none=>rfl
  |some u=>rw[nk b u q]at e;cases e)
 have hM:Mod K mg<|yU s₁.heap H:=⟨A,f t,⟨mb,f S,I⟩,let⟨mc,h1,h2⟩:=C;⟨mc,f h1,h2⟩⟩;have Yu:RJ K H:=fun p hp x e=>by
  have:=Pp hT.1<|mP.mpr ⟨p,hp,e⟩
  show(match l.lookup x.1 with|some q=>_|none=>_)=_
  rw[this]
 have e0:uG P w K mg (yU s₁.heap H) callerA [] s₁ H:=⟨rfl,hM,fun b o e=>JH e,Nat.le_of_eq<|(fun h H=>PySem.W.hideAll_size _ _) _ _,trivial,⟨fun b S=>absurd (show b∈([]:Sf)from S)<|∅,Yu⟩,R,.of_eq hg⟩;refine eo ((F _ A<|f t).run callerA [] s₁ H ⟨[.ref a],[]⟩ [.ref a] [.ref a] _ _ hr e0 (g s₁<|.ref a) (.cons rfl .nil)<|Q H hS) fun r s' h=>?_;cases r with
 |error e=>exact(M H e s' h).elim
 |ok fl=>
  cases fl with
  |next=>exact Wf h
  |brk=>exact Wf h
  |cont=>exact Wf h
  |ret u=>
   refine XX h fun v H' os bare un hok' r' q=>?_
   have q':v=.bl G:=q;subst q';obtain rfl:u=Value.bool G:=r';have key:∀b o,s₁.heap.get? b=J o->asItWas s₁.heap s'.heap b o/\∃o',s'.heap.get? b=J o':=fun b o e=>by
    cases q:H b with
    |none=>
     have:=un.keep b o e q (by intro z;exact absurd (show b∈([]:Sf)from z)<|∅) ∅
     exact⟨.inl this,_,this⟩
    |some u=>
     rcases E b u q with⟨z,rfl,e1⟩|⟨rfl,_,rfl⟩
     .obtain⟨ps,i,_⟩:=hok' b _<|un.b9 b _ q;obtain⟨_,B,e4⟩:=tab b _ e1;rw[e]at B;cases B;exact⟨.inr<|.inl ⟨e4,rfl,#[],ps,rfl,by rw[i];simp⟩,_,i⟩
     .obtain⟨i,_⟩:=hok' b _<|un.tQ b _ _ q;rw[e]at j;cases j;exact⟨.inl i,_,i⟩
   exact⟨rfl,⟨fun b o e=>(key b o e).1,fun b o e=>(key b o e).2⟩,os,bare⟩
theorem La{l:y4}{K:adO->aT}{CX:Sl->Ee}{sp:Sl->Sp}
  (Q:l.most=J n) (A:n<=Ta) (B:d.params.defaults=[]) (M:TZ k callerA)
  (X:∀(w:Sl)(h:T3),YP w h->(K w.params).In h)
  (F:∀(w:Sl)(mg:Sq)(t:SA)(h:T3),(K w.params).In h->h.Ns By mg->mg d.name=J (.ref t) ->
   ∃fd:Wj,(∀(s:ID)(u:nE),BindsTo s fd ⟨[u],[]⟩ [(x,u)]) /\
    ∀base:T3,(K w.params).In base->base.Ns By mg->T8 l.prog w (K w.params) mg base (CX w) k t fd [x] (sp w))
  (P:∀(w:Sl)(h:T3),YP w h->(((K w.params).filterMap<|g6<|K w.params).map (·.1)).Nodup/\∀x∈(K w.params).filterMap (g6<|K w.params),h.get? x.1=J (ik #[]))
  (C:∀(w:Sl)(H:Hp)(a:SA)(r:List Int),r.length<=n->gr (K w.params) H a (r.map V.int)->sp w [.ref a] H (fun v _=>v=.bl G) fun _ _ _=>False)
  (y:∀(w:Sl)(H:Hp)(s:ID)(e:nE)(s':ID),CX w [] H s (fun _ _ _=>False) e s'->False):
  PySem.W.WalkO q loose XP YP l.row.toRowW d [] (fun f vs=>uK f vs):=by
 refine Att.ace Q B fun w s₀ p mg mb t o pm cd N a vs r SK j ho hd O z m i c I=>?_;have D:=X w _ j;obtain⟨fd,S,R⟩:=F w mg t _ D SK.T.g z;exact Ie D SK.T.g SK.T.b SK.T.builtins SK.T.nolimit I (P w _ j) m i (RW c A) M R S (fun H E=>C w H a r c E) fun H e s'=>y w H p e s'
def jJ(s:SU):Arguments:=match s with
 |.FunctionDef _ a _ _ _ _ _ _ _ _=>a
 |_=>{posonlyargs:=[],args:=[],vararg:=U,kwonlyargs:=[],kw_defaults:=[],kwarg:=U,defaults:=[]}
def bL(s:SU):List SU:=match s with
 |.FunctionDef _ _ b _ _ _ _ _ _ _=>b
 |_=>[]
noncomputable def ai(s:SU):Scope:=match s with
 |.FunctionDef _ _ _ _ _ _ sc _ _ _=>sc
 |_=>{kind:=.function,names:=[],isGenerator:=η,isCoroutine:=η}
abbrev lD:Ee:=fun _ _ _ _ _ _=>False
abbrev E0:XK:=fun _ _ _=>False
theorem NJ:m5 lD X E0:=fun _ _ _ _ _ _ _ h=>h.elim
def Ea(K:aT)(a:nE)(q:Str):Bool:=uz K a q&&(match a with
 |.ref c=>(match K.lookup c with
  |some o=>(g6 K (c,o)).isSome
  |none=>η)
 |_=>η)
theorem tF{K:aT}(h:Ea K cdv q=G):uz K cdv q=G:=(lB.mp h).1
theorem vO{K:aT}(h:Ea K cdv q=G):∃c P,cdv=.ref c/\t5 K c P=G/\∀H,RJ K H->H P=J (.UX<|q++".<locals>."++"<lambda>"):=by
 obtain⟨h1,h2⟩:=lB.mp h;split at h2
 .rename_i c;split at h2
  .rename_i o e;obtain⟨x,a⟩:=tq.mp h2
   have:=IX a
   refine⟨c,x.1,rfl,this.2,fun H t=>?_⟩;rw[t _ (Ae e) x a];delta g6 at a;split at a
   .rename_i vs hd;split at a
    .rename_i q' tk P e1 e2;split at a
     .cases a;delta uz at h1;dsimp only at h1;rw[e]at h1;split at h1
      .rename_i vs' _ ho;cases ho;cases hd;split at h1
       .rename_i n _ _ hl;have b:vs.toList[1]?=J (.str q' tk):=by rw[<-e1];simp
        rw[hl]at b;cases b;rw[show q'=q from by simpa using h1]
       .cases h1
      .cases h1
     .cases a
    .cases a
   .cases a
  .cases h2
 .cases h2
structure UD(K:aT)(x qual:Str)(st:SU)(f:SA)(fd:Wj):Prop where
 ex:∃(oc:nE)(od:Option SA)(kV doc pm:nE)(an:Option SA)(cdv ct:nE)(osl:Array<|Option nE),
  fd=Wk x qual (jJ st) (bL st) (ai st) .none kV doc pm an cdv ct/\K.lookup f=J ⟨oc,od,.func fd,osl⟩/\Ea K cdv qual=G
 kp:Xq K (.ref f)=G
section
variable{K:aT}
theorem UD.ex'{st:SU}(F:UD K x qual st f fd):∃(k:nE)(i:Option SA)(kV c j:nE)(g:Option SA)(a h:nE)(b:Array<|Option nE),
  fd=Wk x qual (jJ st) (bL st) (ai st) .none kV c j g a h/\K.lookup f=J ⟨k,i,.func fd,b⟩/\uz K a qual=G:=by
 left;obtain⟨k,i,kV,c,j,g,a,h,b,e,lk,d⟩:=F.ex;right;exact⟨k,i,kV,c,j,g,a,h,b,e,lk,tF d⟩
theorem UD.ok{st:SU}(F:UD K x qual st f fd)(S:Vr N ps<|ai st)(len:∀vs H Q E,sp vs H Q E->vs.length=ps.length)
  (c:∀(b:nE)(_:Ea K b qual=G)(A:Tx)(a:List Env)(s:ID)(H:Hp)(vs:Se)(Q:VK)(E:XK),TZ k (A.deeper<|W7 qual (ai st) s.heap.objs.size f b)->sp vs H Q E ->
   ∃t,IR (gw lD P w K mg base N qual (ai st) f b A a s H E).Xe (bL st) t/\t {nx:=fun _ H'=>Q .S9 H',rt:=Q} (start N vs) H):T8 P w K mg base lD (k+1) f fd ps sp:=by
 obtain⟨o,l,kV,i,n,p,b,m,j,rfl,lk,d⟩:=F.ex;refine NP lk (tF d) S len fun A a s H vs Q E g e=>?_;obtain⟨t,h,q⟩:=c b d A a s H vs Q E g e;exact⟨t,h.Xe,q⟩
theorem UD.binds{st:SU}(F:UD K x qual st f fd)
  (h:∀(kV b e:nE)(c:Option SA)(a d:nE)(us:TK),us.length=ps.length->bindArgs (Wk x qual (jJ st) (bL st) (ai st) .none kV b e c a d) ⟨us,[]⟩=pure (ps.zip us)):cf K fd ps []:=by
 obtain⟨k,j,kV,b,e,c,a,d,i,rfl,lk,g⟩:=F.ex;exact .all (h kV b e c a d)
theorem Qe{st:SU}{kV b e a d:nE}(l:K.lookup f=J ⟨oc,od,.func<|Wk x qual (jJ st) (bL st) (ai st) .none kV b e an a d,osl⟩)
  (c:Ea K a qual=G) (k:Xq K (.ref f)=G):UD K x qual st f<|Wk x qual (jJ st) (bL st) (ai st) .none kV b e an a d:=⟨⟨oc,od,kV,b,e,an,a,d,osl,rfl,l,c⟩,k⟩
end
def ah(H H':Hp):Prop:=∀b o,H b=J o->H' b=J o
theorem ah.refl(H:Hp):ah H H:=fun _ _ h=>h
theorem ah.trans(a:ah H H1)(b:ah H1 H2):ah H H2:=fun c o h=>b c o<|a c o h
theorem ah.free(e:ah H H')(h:H' l=Eb):H l=Eb:=by
 cases q:H l with
 |none=>rfl
 |some o=>
  rw[e l o q]at h;nofun
theorem ah.seq{K:aT}(e:ah H H')(h:gr K H a xs):gr K H' a xs:=by
 rcases h with(h|⟨o,h⟩)|h
 .exact .inl (.inl<|e _ _ h)
 .exact .inl (.inr ⟨o,e _ _ h⟩)
 .exact .inr h
end L2
namespace L2
open PySem PySem.W PySem.W.X
theorem sdC{run:nE->TK->Sem nE}
  (e:∀P,as=(K P).map (·.1)) (h:WalkO q loose XP (fun w h=>(K w.params).In h) r d kwd run):WalkX q loose XP (obsZ as) (valZ K n t) r d kwd run:=
 fun w s₀ b mg x SK y a o u p g l kV h1 h2 s i z m c f as Lq0 k v j hw hs=>
  h w s₀ b mg x SK (InK.keeps w s₀.heap b.heap (z_facts e y).2.1 Lq0.keeps) a o u p g l kV h1 h2 s i z m c f as k v j hw hs
end L2
namespace L2
open PySem PySem.Spec PyProof.Rows
noncomputable def fM(cells:List<|Str×SA):List (Str×Yz)->List (Str×SA)->List (Str×SA)
 |[],acc=>acc
 |(n,k)::r,acc=>if k=.free then fM cells r ((n,(cells.lookup n).getD 0)::acc)else fM cells r acc
theorem j5(h:∀y∈scope.names,y.2=.free->∃c,env.cells.lookup y.1=J c):closureFor scope env=pure (fM env.cells scope.names []):=by
 simp only[closureFor];generalize([]:List<|Str×SA)=acc;revert h
 generalize scope.names=names;intro h;induction names generalizing acc with
 |nil=>rfl
 |cons y r d=>
  obtain⟨n,k⟩:=y
  by_cases a:k=.free
  .subst a;obtain⟨c,hc⟩:=h (n,.free) Up rfl
   have e1:cellOf env n=pure c:=by delta cellOf;rw[hc]
   have b:fM env.cells ((n,.free)::r) acc=fM env.cells r ((n,c)::acc):=by
    show(if Xs=.free then _ else _)=_;rw[hc];rfl
   mright
  .have b:fM env.cells ((n,k)::r) acc=fM env.cells r acc:=by
    show(if k=.free then _ else _)=_;rw[SM a]
   mright
theorem akM:∀(a:List<|Str×Yz)(acc:List<|Str×SA),(∀y∈a,y.2=.free->∃c,cells.lookup y.1=J c) ->
  (fM cells a acc).lookup x=J c->cells.lookup x=J c\/acc.lookup x=J c:=TB (fun acc _ e=>.inr e) fun ⟨n,k⟩ r i_ acc h e=>by
  have hr  := fun y d=>h y<|ie _ d;by_cases b:k=.free
  .subst b;rcases i_ _ hr e with z|z
   .exact .inl z
   .rw[We]at z;cases hx:x==n with
    |true=>
     rw[hx]at z;obtain⟨c',hc⟩:=h (n,.free) Up rfl
     mright
    |false=>
     mright
  .have e2:fM cells ((n,k)::r) acc=fM cells r acc:=by
    show(if k=.free then _ else _)=_;rw[SM b]
   rw[e2]at e;exact i_ acc hr e
theorem on{cells:List<|Str×SA}{x:Str}:∀(a:List<|Str×Yz)(acc:List<|Str×SA),((x,Xs)∈a\/∃c,acc.lookup x=J c)->∃c,(fM cells a acc).lookup x=J c:=TB (fun acc h=>by
  rcases h with h|h
  .nofun
  .exact h) fun ⟨n,k⟩ r i_ acc h=>by
  by_cases b:k=.free
  .subst b;refine i_ _ ?_;rcases h with h|⟨c,h⟩
   .rcases eQ.mp h with h|h
    .mright
    .exact .inl h
   .refine .inr ?_
    grind
  .have e2:fM cells ((n,k)::r) acc=fM cells r acc:=by
    show(if k=.free then _ else _)=_;rw[SM b]
   rw[e2];refine i_ acc ?_
   grind
structure Bk where
 cl:List<|Str×SA
 C:SA
 s:ID
 H:Hp
 fp:Sf
 aa:TQ
noncomputable def jm(X:Cx)(N:SH)(scope:Scope)(b:Bk):Cx:=
 {X with N:=N,s₀:=b.s,H₀:=b.H,env:=compEnvC scope b.cl b.C X.env,outer:=X.stack,stack:=X.stack,ex:=b.fp,fn:=fun _=>η,pn:=X.pn++b.aa,xe:=fun _ _=>False}
noncomputable def sR(ON:SH)(a:List<|Str×Yz):List (Option Nat)->SH->Bool
 |[],[]=>G
 |none::r,_::n=>sR ON a r n
 |some j::r,x::n=>decide (ON[j]?=J x)&&decide ((x,Xs)∈a)&&sR ON a r n
 |_,_=>η
def zr(osc:Scope)(ON N:SH)(ix:List<|Option Nat)(scope:Scope):Bool:=
 decide (scope.kind=.function)&&(scope.names.all fun y=>decide (y.2≠.cell))&&(scope.names.all fun y=>decide (y.2=.local->scope.names.lookup y.1=J .local)) &&
 (scope.names.all fun y=>decide (y.2=.free->osc.names.lookup y.1=J .cell\/osc.names.lookup y.1=J .free))&&(scope.names.all fun y=>decide (y.2=.local->(y.1,Xs)∉scope.names))&&sR ON scope.names ix N
structure ko(osc:Scope)(ON N:SH)(ix:List (Option Nat))(scope:Scope):Prop where
 kind:scope.kind=.function
 YS:∀y∈scope.names,y.2≠.cell
 names:∀y∈scope.names,y.2=.local->scope.names.lookup y.1=J .local
 outs:∀y∈scope.names,y.2=.free->osc.names.lookup y.1=J .cell\/osc.names.lookup y.1=J .free
 abA:∀x,(x,NameKind.local)∈scope.names->(x,Xs)∈scope.names->False
 len:ix.length=N.length
 cap:∀(i j:Nat)(x:Str),ix[i]?=J (J j)->N[i]?=J x->ON[j]?=J x/\(x,Xs)∈scope.names
theorem pJ:∀{ix:List<|Option Nat}{N:SH},sR ON names ix N=G->ix.length=N.length
 |[],[],_=>rfl
 |none::r,_::n,h=>UN Nat.succ<|pJ h
 |some j::r,x::n,h=>by
  have h':(decide (ON[j]?=J x)&&decide ((x,Xs)∈names)&&sR ON names r n)=G:=h;rw[oR]at h';exact UN Nat.succ<|pJ h'.2
 |[],_::_,h=>by nofun
 |none::_,[],h=>by nofun
 |some _::_,[],h=>by nofun
theorem pY:∀{ix:List<|Option Nat}{N:SH},sR ON names ix N=G->∀(i j:Nat)(x:Str),ix[i]?=J (J j)->N[i]?=J x->ON[j]?=J x/\(x,Xs)∈names
 |[],_,_,i,j,x,h1,_=>by mright
 |none::r,y::n,h,0,j,x,h1,_=>by mright
 |none::r,y::n,h,i+1,j,x,h1,h2=>pY (ix:=r) h i j x ⊤ ⊤
 |some k::r,y::n,h,i,j,x,h1,h2=>by
  have h':(decide (ON[k]?=J y)&&decide ((y,Xs)∈names)&&sR ON names r n)=G:=h;rw[oR]at h';cases i with
  |zero=>
   mright
  |succ i=>exact pY h'.2 i j x ⊤ (by assumption)
 |none::_,[],h,_,_,_,_,_=>by nofun
 |some _::_,[],h,_,_,_,_,_=>by nofun
theorem N5(h:zr osc ON N ix scope=G):ko osc ON N ix scope:=by
 delta zr at h;simp only[oR]at h;obtain⟨⟨⟨⟨⟨h1,h2⟩,e⟩,d⟩,f⟩,b⟩:=h;exact⟨WI h1,fun y a=>WI<|Ve.mp h2 y a,fun y a=>WI<|Ve.mp e y a,fun y a=>WI<|Ve.mp d y a,
  fun x g c=>WI (Ve.mp f (x,.local) g) rfl c,pJ b,pY b⟩
def mz(ix:List<|Option Nat)(Z:St):St:=ix.map fun o=>o.bind fun j=>(Z[j]?).getD U
theorem eu{env:Env}:∀{a:List<|Str×Yz}{x:Str}{k:Yz},(a.map fun(n,k)=>if(k==Xs&&env.scope.kind==.function&&env.kindOf n==J .cell)then(n,Bv)else(n,k)).lookup x=J k ->
  a.lookup x=J k\/(k=.cell/\a.lookup x=J .free/\env.kindOf x=J .cell)
 |[],_,_,h=>by nofun
 |(n,k')::r,x,k,h=>by
  have c:=@eu env r x k;have h:wA x ((if(k'==Xs&&env.scope.kind==.function&&env.kindOf n==J .cell)=G then(n,Bv)else(n,k'))::_)=J k:=h;by_cases b:(k'==Xs&&env.scope.kind==.function&&env.kindOf n==J .cell)=G
  .rw[SI b]at h;rw[We]at h;rw[We];cases hx:x==n with
   |true=>
    mright
   |false=>
    mright
  .rw[We]at h;rw[We];cases hx:x==n with
   |true=>
    mright
   |false=>
    mright
theorem mem_of_lookupK:∀{a:List<|Str×Yz},a.lookup x=J k->(x,k)∈a:=fun h=>hG h
theorem Li{Z:St}(I:Inv X aa Z H s)(V:X.env.scope=osc)(hO:X.N=ON)(S:ko osc ON N ix scope)
  (w:∀b∈fp,gE X aa H b) (K:∀b∈fp,∃o,s.heap.get? b=J o) (hn:h'.Ns s.heap.objs.size m) (E:∀b o,s.heap.get? b=J o->h'.get? b=J o) (he:s'={s with heap:=h',toks:=s'.toks}) (M:X.tn<=s'.toks):
  Inv (jm X N scope ⟨fM X.env.cells scope.names [],s.heap.objs.size,s,H,fp,aa⟩) [] (mz ix Z) H s':=by
 subst V hO;have r:∀y∈scope.names,y.2=.free->∃c,X.env.cells.lookup y.1=J c:=fun y W e=>I.ok.has y.1<|S.outs y W e;have f:∀x c,(fM X.env.cells scope.names []).lookup x=J c->X.env.cells.lookup x=J c:=fun x c e=>by
  rcases akM scope.names [] r e with z|z
  .exact z
  .cases z
 have D:∀b o,s.heap.get? b=J o->b≠s.heap.objs.size:=fun b o e=>Vd<|Tn e;have B:∀x,(compEnvC scope (fM X.env.cells scope.names []) s.heap.objs.size X.env).kindOf x=J .cell\/(compEnvC scope (fM X.env.cells scope.names []) s.heap.objs.size X.env).kindOf x=J .free->(x,Xs)∈scope.names:=fun x t=>by
  rcases t with t|t
  .rcases eu (env:=X.env) t with z|⟨_,z,_⟩
   .exact absurd rfl (S.YS _<|mem_of_lookupK z)
   .exact mem_of_lookupK z
  .rcases eu (env:=X.env) t with z|⟨z,_⟩
   .exact mem_of_lookupK z
   .cases z
 have l:∀x c,X.env.cells.lookup x=J c->∀v,s.heap.IsCell c v->h'.IsCell c v:=fun x c e v⟨o,ho,hd⟩=>⟨o,E c o ho,hd⟩;rw[he];refine⟨⟨I.ok.mod,S.kind,I.ok.glob,I.ok.blt,mK _,fun x y c h1 h2=>I.ok.inj x y c (f x c h1)<|f y c h2,fun x t=>on _ _<|.inl<|B x t,fun x c z _=>(nomatch z),I.ok.hd,I.ok.frames,.inl rfl,
  fun b A=>?_,fun b o e=>I.bs b o e,RW I.ok.Wq I.sz,fun b o e A=>?_,fun b A t=>?_,I.stack,⟨fun b A=>I.Y8 b A,I.tb⟩⟩,
  rfl,I.bare,Un.kept E,⟨m,hn,fun i x v h1 h2 h3=>?_⟩,fun x c e=>?_,I.Su.fresh (mK _),fun x c e=>I.WZ x c (f x c e),fun p R=>?_,I.Su.kept E,?_,M⟩
 .obtain⟨o,ho⟩:=K b A
  exact⟨D b o ho,fun x c e=>(w b A).2.2.2.2.1 x c<|f x c e⟩
 .rcases(w b A).2.2.2.1 with z|z
  .exact I.ok.Zo b o e z
  .exact absurd (Rw (Tn e)<|RW I.ok.Wq z) (ei _)
 .rcases eQ.mp (I.wW b t)with z|z
  .exact(w b A).2.1 z
  .exact(w b A).2.2.1 z
 .-- a captured name
  have g:(mz ix Z)[i]?=J (J v):=h2;delta mz at g;rw[Xm]at g;cases e:ix[i]? with
  |none=>rw[e]at g;cases g
  |some o=>
   rw[e]at g;cases o with
   |none=>cases g
   |some j=>
    obtain⟨c1,c2⟩:=S.cap i j x e h1
    have h:(Z[j]?).getD U=J v:=zB g;have T:Z[j]?=J (J v):=by
     cases q:Z[j]? with
     |none=>rw[q]at h;nofun
     |some w'=>rw[q]at h;rw[<-h];rfl
    have P:=S.outs _ c2 rfl;obtain⟨mX,hnX,hl⟩:=I.loc
    have F:m6 X.env.scope x:=by
     rcases P with k|k
     .exact .inr (.inl k)
     .exact .inr (.inr k)
    obtain⟨u,ru,lk⟩:=hl j x v c1 T F
    refine⟨u,ru,.inr ?_⟩;have C:∃c,X.env.cells.lookup x=J c/\s.heap.IsCell c (J u):=by
     rcases lk with⟨k,_⟩|⟨_,c,e1,O⟩
     .rcases P with k'|k'
      .have:X.env.kindOf x=J .cell:=k'
       rw[k]at this;cases this
      .have:X.env.kindOf x=J .free:=k'
       rw[k]at this;cases this
     .exact⟨c,e1,O⟩
    left;obtain⟨c,e1,O⟩:=C
    obtain⟨c',e3⟩:=on (cells:=X.env.cells) scope.names []<|.inl c2
    have Q:=f x c' e3;rw[e1]at Q;cases Q;right;refine⟨?_,c,e3,l x c e1 _ O⟩;rcases h3 with k|k|k
    .rcases eu (env:=X.env) k with z|⟨z,_⟩
     .exact(S.abA x (mem_of_lookupK z) c2).elim
     .cases z
    .exact .inl k
    .exact .inr k
 .obtain⟨v,z⟩:=I.cell x c (f x c e)
  exact⟨v,l x c (f x c e) v z⟩
 .have hp':p∈X.pn++aa:=by
   rcases BY.mp R with z|z
   .exact z
   .cases z
  refine uf (I.pin p hp') fun e n ne nf d=>?_
  refine⟨E _ _ e,n,D _ _ e,fun z=>?_,d⟩;rcases eQ.mp (I.wW _ z)with q|q
  .exact ne q
  .exact nf q
 .delta mz;rw[WH];exact S.len
section
variable{prog:Tc}{w:Sl}{A:Tx}{R:Result->ID->Prop}{s:ID}
theorem ond(I:Nat->ID->Prop)
  (u:∀n s,I n s->SN (UA prog w) A (pyNext it) (fun r b=>match r with
   |none=>R (.ok .next) b
   | some v=>SN (UA prog w) A (B3 target it v) (fun _ d=>SN (UA prog w) A (assign target env v) (fun _ j =>
     SN (UA prog w) A (forIn ifs G fun c r=>if r=G then do let ok <-isTrue c env (eval c env);pure (ud ok)else pure (ud r)) (fun ok a=>
      if ok=G then SN (UA prog w) A (eval elt env) (fun x i=>
       SN (UA prog w) A (call (.builtin "list.append") [acc,x]) (fun _ k=>∃m,m<n/\I m k) (notedBy (UA prog w) A env fun e s'=>R (.error e) s') i) (notedBy (UA prog w) A env fun e s'=>R (.error e) s') a
      else ∃m,m<n/\I m a) (notedBy (UA prog w) A env fun e s'=>R (.error e) s') j) (notedBy (UA prog w) A env fun e s'=>R (.error e) s') d) (notedBy (UA prog w) A env fun e s'=>R (.error e) s') b) (notedBy (UA prog w) A env fun e s'=>R (.error e) s') s)
  (n:Nat) (h:I n s):
  qq (UA prog w) A (.compLoop (.ListComp elt [⟨target,iter,ifs,0⟩] scope pos) 0 it acc env) R s:=by
 refine codeAny_loop rfl I (fun n s t=>?_) n h;refine wpAny_noted ?_;refine iF<|wpAny_standAt<|iF<|UE (u n s t) (fun r b g=>?_) fun _ _ h'=>h';cases r with
 |none=>exact U4 g
 |some v=>
  refine iF<|UE g (fun _ d l=>?_) fun _ _ h'=>h';refine iF<|UE l (fun _ j q=>iF<|UE q (fun ok a f=>?_) fun _ _ h'=>h') fun _ _ h'=>h';cases ok with
  |false=>exact U4 ⟨rfl,f⟩
  |true=>
   exact iF<|iF<|UE f (fun x i o=>iF<|UE o (fun _ k p=>U4<|U4 ⟨rfl,p⟩) fun _ _ h'=>h') fun _ _ h'=>h'
end
def RI(X:Cx)(ifs:List Ry)(t:TT):Prop:=
 ∀(aa:TQ)(s:ID)(Z:St)(H:Hp)(Q:Bool->Hp->Prop),Inv X aa Z H s->t Z H Q ->
  SN #[0] X.A (forIn ifs G fun c r=>if r=G then do let ok <-isTrue c X.env (eval c X.env);pure (ud ok)else pure (ud r)) (TP X aa Z Q) X.xe s
def abj:TT:=fun _ H Q=>Q G H
def wQ(g:TG)(q:TT)(o:TE)(d:It)(j:St)(H1:Hp)(Q:VK):Prop:=∀a,H1 a=U->∃W:Nat->Nat->St->Hp->Prop,
 (∃m,W 0 m j<|br H1 a<|.lst [])/\∀i m f H',W i m f H' ->
  (d.stop i H'/\Q (.ref a) H')\/(d.go i H'/\∃M:St->Hp->Prop,(∀e h,M e h->∃n,n<m/\W (i+1) n e h)/\∀x h,d.gF i H' x h->g x f h fun c p=>q c p fun b l=>
   if b=G then o c l fun v k=>∃xs,k a=J (.lst xs)/\xs.length<Ta/\M c (br k a (.lst (xs++[v])))else M c l)
def Bm(ix:List<|Option Nat)(b:TI)(g:TG)(d:TT)(c:TE):TE:=fun Z H Q=>b Z H fun a H1=>wQ g d c a (mz ix Z) H1 Q
section
theorem Fv{Z e:St}(I:Inv X aa Z H s)(c:∀b∈fp,gE X aa H b)(a:Inv (jm X N scope ⟨cl,s.heap.objs.size,s,H,fp,aa⟩) [] e H' s')(g:X.tn<=s'.toks):
  Inv X aa Z H' s'/\(∃m,s'.heap.Ns s.heap.objs.size m)/\H' s.heap.objs.size=U/\gE X aa H' s.heap.objs.size:=by
 have u  := a.base;have I1  := I.call' a.os u a.Su a.bare fun b d=>⟨(c b d).2.2.2.1,(c b d).2.1,(c b d).2.2.2.2.1,(c b d).2.2.2.2.2⟩;obtain⟨m,f,_⟩:=a.loc;exact⟨I1,⟨m,f⟩,a.free,I.zT (mK _) a.free⟩
theorem ve{Z:St}{RR:nE->SA->Result->ID->Prop}
  (S:ko osc ON N ix scope) (hE:X.env.scope=osc) (hO:X.N=ON) (hc:X.calm=G) (hg:∀b,PG (jm X N scope b) tg g) (ht:∀b,RI (jm X N scope b) ifs tt)
  (he:∀(D:ID)(H0:Hp)(pl:TQ)(s':ID)(c:St)(H':Hp)(Q':VK)(j:SA),Inv X aa Z H0 D->(∀b∈fp,gE X aa H0 b)->(∀b∈fp,∃o,(b,o)∈pl)->Inv (jm X N scope ⟨fM X.env.cells scope.names [],D.heap.objs.size,D,H0,fp,aa⟩) ([]++pl) c H' s'->te c H' Q' ->
   SN #[0] X.A (eval elt (compEnvC scope (fM X.env.cells scope.names []) D.heap.objs.size X.env)) (EP (jm X N scope ⟨fM X.env.cells scope.names [],D.heap.objs.size,D,H0,fp,aa⟩) ([]++pl) c Q') (notedBy #[0] X.A (compEnvC scope (fM X.env.cells scope.names []) D.heap.objs.size X.env) fun e s''=>X.tn<=s''.toks->RR (.ref j) D.heap.objs.size (.error e) s'') s')
  (I:Inv X aa Z H s) (T:Turn X.prog X.w X.K tg Jq0 fp it tn) (st:tn 0 s.heap) (hfp:∀b∈fp,gE X aa H b) (q:wQ g tt te Jq0 (mz ix Z) H Q)
  (hRR:∀(j C:SA)(H':Hp)(s':ID),Inv X aa Z H' s'->(∃m,s'.heap.Ns C m)->H' C=U->gE X aa H' C->Q (.ref j) H'->RR (.ref j) C (.ok .next) s'):
  SN #[0] X.A (newList []) (fun j s₃=>SN #[0] X.A (newFunctionEnv scope X.env.globals (fM X.env.cells scope.names []) [] X.env.qual U .none<|J X.env) (fun F s₄=>
   qq #[0] X.A (.compStart #[4] 0 (.ref it) j {F with scope:=relabel scope X.env}) (RR j F.locals) s₄) E s₃) E s:=by
 refine tU<|wpAny_newFunctionEnv S.YS (by intro y hy;mright) (fun O k l=>?_) S.kind;dsimp only at k l⊢
 have I3:Inv X aa Z (br H s.heap.objs.size<|.lst []) {s with heap:=s.heap.push {cls:=.type "list",dict:=U,data:=.seq ([]:TK).toArray}}:=
  I.laid (t':=s.toks) (fun b o e=>iN _ e) (mK _) (show fK X.prog X.w _ _ _ (.lst [])from⟨Uh _,[],_,.nil,Vh _ rfl⟩)
 have hacc:H s.heap.objs.size=U:=I.Su.fresh<|mK _;have hfo:∀b∈fp,∃o,s.heap.get? b=J o:=fun b a=>let⟨o,e,_⟩:=T.obj 0 _ st b a;⟨o,e⟩;have fne:∀b∈fp,b≠s.heap.objs.size:=fun b a=>let⟨o,e⟩:=hfo b a;Vd (Tn e);have t:∀b∈fp,gE X aa (br H s.heap.objs.size<|.lst []) b:=fun b a=>⟨by rw[aG<|fne b a];exact(hfp b a).1,(hfp b a).2⟩;let⟨W,⟨m0,w0⟩,oO⟩:=q s.heap.objs.size hacc
 generalize hH2:s.heap.push {cls:=.type "list",dict:=U,data:=.seq ([]:TK).toArray}=h2 at *;have P:∀b o,h2.get? b=J o->O.get? b=J o:=fun b o e=>l.extBut b o (Vd<|Tn e)<|iN _ e;have V:∀b o,s.heap.get? b=J o->h2.get? b=J o:=fun b o e=>by rw[<-hH2];exact iN _ e
 have fin:∀s₄:ID,s₄={s with heap:=O,toks:=s₄.toks}->X.tn<=s₄.toks->qq #[0] X.A (.compLoop #[4] 0 (.ref it) (.ref s.heap.objs.size)<|compEnvC scope (fM X.env.cells scope.names []) h2.objs.size X.env)
   (RR (.ref s.heap.objs.size) h2.objs.size) s₄:=by
  intro s₄ e4 ht4;refine dk ht4 ?_;have J0:Inv (jm X N scope ⟨fM X.env.cells scope.names [],h2.objs.size,{s with heap:=h2},br H s.heap.objs.size<|.lst [],fp,aa⟩) [] (mz ix Z) (br H s.heap.objs.size<|.lst []) s₄:=
   Li (s:={s with heap:=h2}) I3 hE hO S t (fun b a=>let⟨o,e⟩:=hfo b a;⟨o,V b o e⟩) k P e4 ht4
  generalize hX:jm X N scope ⟨fM X.env.cells scope.names [],h2.objs.size,{s with heap:=h2},br H s.heap.objs.size<|.lst [],fp,aa⟩=Yq0 at J0;have eE:compEnvC scope (fM X.env.cells scope.names []) h2.objs.size X.env=Yq0.env:=by rw[<-hX];rfl
  have eP:X.prog=Yq0.prog:=by rw[<-hX];rfl
  have eW:X.w=Yq0.w:=by rw[<-hX];rfl
  have eA:X.A=Yq0.A:=by rw[<-hX];rfl
  have eK:X.K=Yq0.K:=by rw[<-hX];rfl
  have eC:Yq0.calm=G:=by rw[<-hX];exact hc
  have T':Turn Yq0.prog Yq0.w Yq0.K tg Jq0 fp it tn:=by rw[<-eP,<-eW,<-eK];exact T
  have PR:tn 0 s₄.heap:=T.keep _ _ _ st fun b a o e=>by rw[e4];exact P b o<|V b o e
  have R:∀{H':Hp},(∀b∈fp,H' b=U)->∀b∈fp,gE Yq0 [] H' b:=fun{H'}hn b a=>by
   rw[<-hX];have f:=hfp b a;refine⟨hn b a,?_,?_,.inl a,?_,?_⟩
   .have:=J0.ok.x9 b (by rw[<-hX];exact a)
    rw[<-hX]at this;exact this.1
   .have:=J0.ok.ZR b (by rw[<-hX];exact a)
    rw[<-hX]at this;exact this
   .have:=J0.ok.x9 b (by rw[<-hX];exact a)
    rw[<-hX]at this;exact this.2
   .intro p hp;have hp':p∈X.pn++aa:=by
     rcases BY.mp hp with z|z
     .exact z
     .cases z
    exact f.2.2.2.2.2 p hp'
  have accne:s.heap.objs.size∉fp:=fun z=>fne _ z rfl;have h:∀e s',Yq0.xe e s'->False:=by rw[<-hX];exact fun _ _ z=>z
  have hgY:PG Yq0 tg g:=by rw[<-hX];exact hg _
  have htY:RI Yq0 ifs tt:=by rw[<-hX];exact ht _
  rw[eE,eP,eW,eA];refine ond (fun n s'=>∃i c H',Inv Yq0 [] c H' s'/\tn i s'.heap/\(∀b∈fp,H' b=U)/\W i n c H') ?_ m0 ⟨0,mz ix Z,_,J0,PR,fun b a=>(t b a).1,w0⟩;intro n s5 q_;refine c7 q_ fun i σ5 H5 I5 st5 fr5 w5=>?_;left;rcases oO i n σ5 H5 w5 with⟨stop,qn⟩|⟨go,M,hM,step⟩
  .right;refine bP (T'.done Yq0 rfl rfl rfl eC i [] s5 σ5 H5 _ I5 (R fr5) st5 stop) ?_;rintro r s6⟨hr,I6⟩;subst hr;have I6':=I6;rw[<-hX]at I6';intro htk;let⟨a1,a2,a3,a4⟩:=Fv (s:={s with heap:=h2}) I3 t I6' htk
   exact hRR _ _ H5 s6 a1 a2 a3 a4 qn
  .right;refine bP (T'.item Yq0 rfl rfl rfl eC i [] s5 σ5 H5 _ I5 (R fr5) st5 go) ?_;rintro r s6⟨u,hr,h6⟩;subst hr;refine bP h6 ?_;intro _ s7 q_;refine y2 q_ fun x H7 I7 r7 y7 st7 fr7=>?_;have I7':=I7.pinned (R fr7)<|T.obj _ _ st7;refine UE (hgY _ s7 σ5 H7 x u _ I7' r7<|step x H7 y7) (fun _ s8 q_=>X7 q_ fun σ8 H8 I8 q8=>?_) fun e s' z=>(h e s' z).elim;refine UE (htY _ s8 σ8 H8 _ I8 q8) (fun ok s9⟨H9,I9,q9⟩=>?_) fun e s' z=>(h e s' z).elim;have again:∀{B:St}{Ha:Hp}{sa:ID},Inv Yq0 ([]++mL fp s7.heap) B Ha sa->M B Ha->∃m,m<n/\∃i c H',Inv Yq0 [] c H' sa/\tn i sa.heap/\(∀b∈fp,H' b=U)/\W i m c H':=fun{B Ha sa}Ia na=>by
    obtain⟨m',hm,wa⟩:=hM B Ha na
    refine⟨m',hm,i+1,B,Ha,Ia.p6,T.keep _ _ _ st7 fun b a o e=>(Ia.pin (b,o)<|OR _<|OR _<|ff a e).1,fun b a=>?_,wa⟩;obtain⟨o,e,d⟩:=T.obj _ _ st7 b a
    exact(Ia.pin (b,o)<|OR _<|OR _<|ff a e).2.1
   cases ok with
   |false=>
    rw[SM MK]at q9⊢;exact again I9 q9
   |true=>
    rw[SI rfl]at q9⊢;have I9':=I9;rw[<-hX]at I9';rw[<-eP,<-eW,<-eA,<-eE];refine UE (he {s with heap:=h2} _ _ s9 σ8 H9 _ _ I3 t (fun b a=>let⟨o,e,d⟩:=T.obj _ _ st7 b a;⟨o,ff a e⟩) I9' q9) (fun y sb⟨vb,Hb,Ib',rb,xs,hx,hz,nb⟩=>?_) fun _ _ z=>z;have Ib:Inv Yq0 ([]++mL fp s7.heap) σ8 Hb sb:=by rw[<-hX];exact Ib'
    rw[eP,eW,eA];refine UE (gq (X:=Yq0) _ sb σ8 Hb (.ref s.heap.objs.size) [vb] (.ref s.heap.objs.size) [y] (fun v H'=>M σ8 H') Ib rfl (.cons rb .nil) ⟨s.heap.objs.size,xs,vb,rfl,rfl,hx,hz,nb⟩) (fun _ sc q_=>Tw q_ fun vc Hc Ic rc nc=>?_) fun e s' z=>(h e s' z).elim;exact again Ic nc
 exact codeAny_compStart_list (fin _ rfl (by walk_at "tok"))<|T.self _ 0 _ _ _ (T.keep _ _ _ st fun b a o e=>P b o<|V b o e)<|fin _ rfl (by walk_at "tok")
theorem Ig(S:ko osc ON N ix scope)(n:X.env.scope=osc)(D:X.N=ON)(K:X.calm=G)(u:PI X tg iter wi)(t:∀b,PG (jm X N scope b) tg g)(r:∀b,RI (jm X N scope b) ifs tt)(P:∀b,PE (jm X N scope b) elt te)
  (hs:(∀x,pg iter X.env x=pure x)<|>uN):PE X #[4]<|Bm ix wi g tt te:=by
 intro aa s Z H Q I h;have a:∀y∈scope.names,y.2=.free->∃c,X.env.cells.lookup y.1=J c:=fun y A e=>I.ok.has y.1 (by subst n;exact S.outs y A e);refine wpAny_comprehension_free rfl hs (j5 a) S.kind S.names (bP (u aa s Z H _ I h) fun v s1 h1=>bP h1 fun O s2 h2=>?_);left;refine c9 h2 fun it fp tn p H2 e w T i M q=>?_;right;subst e;refine ve S n D K t r (fun V W pl s' f H' B d _ _ _ l j=>UE (P _ _ s' f H' B l j) (fun _ _ z=>z) fun _ _ z=>z.elim) w T i M q fun d C H' s' l k hC F j=>?_;let⟨m,k⟩:=k
 refine⟨m,k,fun h' E=>⟨.ref d,H',?_,rfl,j⟩⟩;refine n4 F fun f0 f1 f2' f3 f4 f5=>?_
 exact l.turned (fun b o R e=>(E.2 b R).trans e) f0 f1 f3 f4 f5
theorem aeQ{spos pos':Pos}(Q:X.N.Nodup)(hx:X.N[i]?=J x)(hl:Loc X.env.scope x)(S:ko osc ON N ix scope)(w:X.env.scope=osc)(hO:X.N=ON)(hc:X.calm=G)(O:PI X tg iter wi)(M:∀b,PG (jm X N scope b) tg g)(K:∀b,RI (jm X N scope b) ifs tt)(he:∀b,PE (jm X N scope b) elt te)
  (l:Uw #[4] (J<|.Name x pos') spos.line X.env=pure G<|>Rv)
  (hf:#[1]<|>XN)
  (hs:(∀x,pg iter X.env x=pure x)<|>uN):PS X (.Assign [.Name x pos'] #[4] spos)<|AL (Bm ix wi g tt te)<|ml i:=by
 intro aa s Z H D I h;rw[exec_Assign_Name_used _ _ _ _ l];refine iF<|wpAny_standAt<|iF ?_;have a:∀y∈scope.names,y.2=.free->∃c,X.env.cells.lookup y.1=J c:=fun y V e=>I.ok.has y.1 (by subst w;exact S.outs y V e);refine iF (UE (wpAny_comprehension_free rfl hs (j5 a) S.kind S.names
  (bP (O aa s Z H _ I h) fun v s1 h1=>bP h1 fun itv s2 h2=>?_)) (fun _ s' P=>U4 (U4 P)) fun _ _ e=>e)
 left;refine c9 h2 fun it fp tn E A e R T r f2 q=>?_;right;subst e;refine ve S w hO hc M K (fun s0 H0 pl s' n H' W d _ _ _ t p=>UE (he _ _ s' n H' W t p) (fun _ _ z=>z) fun _ _ z=>z.elim) R T r f2 q fun d C H' s' t k hC B p=>?_;let⟨m,k⟩:=k
 have j:∃o,s'.heap.get? C=J o/\∀v,o.data≠.cell v:=by
  refine WM k fun o es ep ho hd _=>?_
  mright
 have only:∀b∈[C],b=C:=fun b f=>by simpa using f
 have F:=t.pinned (fun b f=>(only b f)▸B) fun b f=>(only b f)▸j;refine UE (B4 Q hx hl hf (aa++mL [C] s'.heap) s' Z H' (.ref d) (.ref d) D.nx F rfl p) (fun _ s'' q_=>X7 q_ fun σ2 A u q2=>?_) fun _ _ z=>z;let⟨o,ho,hd⟩:=j
 have pn:=u.pin (C,o)<|OR _<|OR _<|ff ∅ ho;refine⟨m,k.at' fun o' e=>by simp_all,fun h' sb=>⟨σ2,A,?_,q2⟩⟩;refine n4 B fun f0 f1 f2' f3 f4 f5=>?_
 exact u.p6.turned (fun b o f e=>(sb.2 b f).trans e) pn.2.1 f1 f3 f4 f5
end
theorem tJ{K:aT}{St:Nat->T3->Prop}(W:∀A:Tx,A.handled=U->Walks P w A it [it] [it] n Pv St)
  (m:∀i h,St i h->∃(o:Obj)(nm:String)(vs:Array nE),h.get? it=J o/\o.cls=.type nm/\o.data=.fields vs/\["enumerate","zip","dict_itemiterator","dict_reverseitemiterator","odict_iterator","itertools.zip_longest","itertools.pairwise"].contains nm=η)
  (go:∀i H,Jq0.go i H->i<n) (t:∀i H u,Jq0.go i H->Pv i u->∃x,aP x u/\Jq0.gF i H x H) (r:∀i h H,Jq0.stop i H->St i h->St n h)
  (self:∀(A:Tx)(i:Nat)(s:ID)(Q:UB)(E:UB),St i s.heap->Q (.ref it) s->SN (UA P w) A (pyIter<|.ref it) Q E s):Turn P w K tg Jq0 [it] it St where
 mem:=∅
 obj:=fun i h st b a=>by
  grind
 keep:=fun i h h' st k=>(W {} rfl).frame i h h' st fun b a o e=>k b a o e
 item:=by
  intro X p hw q g i aa s Z H E I f st d;refine n4 (f it ∅) fun z B M F C D=>?_
  refine aO I.tk<|(W X.A<|I.ok.hd g).item i s _ _ (go i H d) st fun v h' tk y c l j=>?_;have I1  := I.turned (fun b o a e=>l b o (by simpa using a) e) z B F C D;left;let⟨x,rx,yx⟩:=t i H v d y
  refine c7 (m (i+1) h' c) fun o nm vs h1 h2 O N=>?_
  right;exact⟨v,rfl,BJ h1 h2 O N ⟨x,H,I1,rx,yx,c,fun b a=>(f b a).1⟩⟩
 done:=by
  intro X p hw q g i aa s Z H E I f st d;obtain⟨z,B,M,F,C,D⟩:=f it ∅
  exact aO I.tk<|(W X.A<|I.ok.hd g).done s _ _ (r i s.heap H d st) fun h' tk l j=>⟨rfl,I.turned (fun b o a e=>l b o (by simpa using a) e) z B F C D⟩
 self:=self
def VT(z:Str):It:=⟨fun i _=>i<z.length,fun i H x H'=>H'=H/\∃c,z.cps[i]?=J c/\x=.str ⟨#[c]⟩,fun i _=>i=z.length⟩
theorem Io(h:SignAt z i u):∃x,aP x u/\(VT z).gF i H x H:=by
 obtain⟨c,t,e1,rfl⟩:=h;exact⟨.str ⟨#[c]⟩,⟨t,rfl⟩,rfl,c,e1,rfl⟩
theorem Lk(bs:List Bool):(e6 bs.length).all (fun i=>(bs[i]?).getD G)=bs.all id:=by
 rw[iC,Ve,Ve];constructor
 .intro h b hb;obtain⟨i,hi,e⟩:=List.getElem_of_mem hb
  mright
 .intro h i hi;have a:=Qz.mp hi;rw[WT a];exact h _<|yL a
section
variable{X:Cx}
def Ro(K:aT)(xs:Se)(H:Hp)(Q:VK):Prop:=match xs with
 |[.ref p]=>∃bs:List Bool,gr K H p (bs.map V.bl)/\Q (.bl<|bs.all id) H
 |_=>False
theorem EB(K:aT)(l:X.calm=G)(k:X.K=K<|>Rv):bI X (.builtin "all")<|Ro K:=by
 subst k;intro aa s Z H xs us Q I r h;delta Ro at h;cbv
 case h_2=>mleft
 rename_i p;obtain⟨bs,hq,q⟩:=h
 obtain⟨u,rfl,n⟩:=jV r;subst n;obtain⟨aV,rv,pl,hz⟩:=I.list hq
 have j:X.A.in1.handled=U:=I.ok.hd l;refine aO I.tk<|call_all_walk<|wpAny_pyIter_list pl.isList ?_;have c:p≠s.heap.objs.size:=by
  obtain⟨o,ho,_⟩:=pl.isList
  exact Vd<|Tn ho
 refine⟨s.heap.objs.size,[s.heap.objs.size,p],[s.heap.objs.size],aV.toArray.size,_,_,fun i=>(bs[i]?).getD G,rfl,Walks.list j _ p c aV.toArray,⟨⟨_,Vh _ rfl,rfl,rfl⟩,Heap.IsList.push pl.isList _⟩,?_,?_⟩
 .intro i v s' Q' E' hv hQ';have hv'  := by simpa using hv
  have hi  := (rW.mp hv').1;have a:=rv.length;rw[WH]at a;have f:(bs.map V.bl)[i]?=J (V.bl bs[i]):=by
   simp
  obtain⟨u,hu,ru⟩:=rv.get f
  rw[hv']at hu;cases hu;subst ru;have d:Q' bs[i] s':=by
   mright
  exact iT d
 .intro h' tk hk;have g:Inv X aa Z H {s with heap:=s.heap.push {cls:=.type "list_iterator",data:=.fields #[.ref p,.int 0 0]}}:=I.kept fun b o e=>iN _ e;have e1:(e6 aV.toArray.size).all (fun i=>(bs[i]?).getD G)=bs.all id:=by
   have a:=rv.length;rw[WH]at a;rw[XC,<-a];exact Lk bs
  rw[e1];refine n4 (I.zT (mK _)<|I.Su.fresh<|mK _) fun t w B z x y=>?_
  exact fun m=>⟨.bl<|bs.all id,H,g.turned (fun b o f e=>hk b o (by simpa using f) e) t w z x y,rfl,q⟩
end
theorem PE.imp(h:PE X e t)(i:∀Z H Q,t' Z H Q->t Z H Q):PE X e t':=fun aa s Z H Q I q=>h aa s Z H Q I<|i Z H Q q
theorem eJ.imp(h:eJ X f r)(i:∀x y H Q,r' x y H Q->r x y H Q):eJ X f r':=fun aa s Z H x y v u Q I a b q=>h aa s Z H x y v u Q I a b<|i x y H Q q
theorem KD.imp(h:KD X f r)(i:∀x H Q,r' x H Q->r x H Q):KD X f r':=fun aa s Z H x v Q I a q=>h aa s Z H x v Q I a<|i x H Q q
theorem bI.imp(h:bI X f r)(i:∀xs H Q,r' xs H Q->r xs H Q):bI X f r':=fun aa s Z H xs us Q I a q=>h aa s Z H xs us Q I a<|i xs H Q q
theorem DX.imp(h:DX X r)(i:∀x y H Q,r' x y H Q->r x y H Q):DX X r':=fun value a aa s Z H x y v u Q I c b q hs=>h value a aa s Z H x y v u Q I c b (i x y H Q q) hs
section
variable{X:Cx}{a b:Ry}{ta tb:TE}{pos:Pos}{rest:List Ry}
def m8(o:Option<|Option V)(H:Hp)(Q:VK):Prop:=match o with
 |some (J v)=>Q v H
 |_=>False
def z8(i:Nat):TE:=fun Z H Q=>m8 Z[i]? H Q
theorem qv(i:Nat)(b:X.N[i]?=J x<|>Rv)(c:m6 X.env.scope x<|>uO)(hd:TN x<|>Sm)
  (a:#[2]=η<|>Sm):PE X (.Name x pos)<|z8 i:=(O9 b c hd a).imp fun Z H Q q=>by
 delta z8 m8 at q;split at q
 .rename_i v e;exact⟨v,e,q⟩
 .exact q.elim
def Yp(tb:TE)(Z:St)(Q:VK):VK:=fun x H1=>match x with
 |.bl c=>if c=G then tb Z H1 Q else Q (.bl η) H1
 |_=>False
def dct(ta tb:TE):TE:=fun Z H Q=>ta Z H<|Yp tb Z Q
def kOr(tb:TE)(Z:St)(Q:VK):VK:=fun x H1=>match x with
 |.bl c=>if c=G then Q (.bl G) H1 else tb Z H1 Q
 |_=>False
def uOr(ta tb:TE):TE:=fun Z H Q=>ta Z H<|kOr tb Z Q
def aaW(Q:VK):VK:=fun x H1=>match x with
 |.bl c=>Q (.bl<|!c) H1
 |_=>False
def abE(ta:TE):TE:=fun Z H Q=>ta Z H<|aaW Q
def afv(Q:Bool->Hp->Prop):VK:=fun x H'=>match x with
 |.bl k=>Q k H'
 |_=>False
def akT(t:TE):TT:=fun Z H Q=>t Z H<|afv Q
def Xc(K:aT)(Q:Bool->Hp->Prop):VK:=fun x H=>match x with
 |.S9=>Q η H
 |.bl b=>Q b H
 |.int i=>Q (i != 0) H
 |.str y=>y.length<=Ta/\Q ((y.length:Int) != 0) H
 |.ref p=>((∃xs,gr K H p xs/\Q (!xs.isEmpty) H)\/(∃xs,m7 K H p xs/\Q (!xs.isEmpty) H))\/∃a,H p=J (.dK a)/\Q (!a.isEmpty) H
 |_=>False
def EI(K:aT)(ta:TE):TT:=fun Z H Q=>ta Z H<|Xc K Q
theorem GU(K:aT)(k:PE X a ta)(j:∀c,isTrue a X.env c=(do let v <-c;jF a.pos;holding [v] (truthy v)))(g:X.K=K<|>Rv):
  PT X a (EI K ta):=by
 subst g;intro aa s Z H Q I h;refine isTrue_plain (bP (k aa s Z H _ I h) fun v f e=>jZ e fun x H1 d r1 q1=>Qg aa f Z H1 x v Q d r1 ?_)<|j _;cases x with
 |S9=>exact⟨_,rfl,q1⟩
 |bl b=>exact⟨_,rfl,q1⟩
 |int i=>exact⟨_,rfl,q1⟩
 |str y=>exact⟨_,⟨q1.1,rfl⟩,q1.2⟩
 |ref p=>
  rcases q1 with(⟨xs,h1,h2⟩|⟨xs,h1,h2⟩)|⟨xs,h1,h2⟩
  .exact⟨_,.inl ⟨xs,h1,rfl⟩,h2⟩
  .exact⟨_,.inr<|.inl ⟨xs,h1,rfl⟩,h2⟩
  .exact⟨_,.inr<|.inr ⟨xs,h1,rfl⟩,h2⟩
 |_=>exact q1.elim
def Sb:UL:=fun x y H Q=>match x,y with
 |.int i,.int j=>Q (.int<|i-j) H
 |_,_=>False
theorem aa3:eJ X (Yo .Sub) Sb:=afq.imp fun x y H Q q=>by
 delta Sb at q;split at q
 .exact⟨_,_,rfl,rfl,q⟩
 .exact q.elim
def Um:UL:=fun x y H Q=>match x,y with
 |.int i,.int j=>ET i j/\Q (.int<|i/j) H
 |_,_=>False
theorem aaM:eJ X (Yo .FloorDiv) Um:=Mb.imp fun x y H Q q=>by
 delta Um at q;split at q
 .exact⟨_,_,rfl,rfl,q.1,q.2⟩
 .exact q.elim
def Sz:UL:=fun x y H Q=>match x,y with
 |.int i,.int j=>0<j/\Q (.int<|i%j) H
 |_,_=>False
theorem nrc:eJ X (Yo .Mod) Sz:=Ot.imp fun x y H Q q=>by
 delta Sz at q;split at q
 .exact⟨_,_,rfl,rfl,q.1,q.2⟩
 .exact q.elim
def D2:aoi:=fun x y H Q=>match x,y with
 |.int i,.int j=>Iy i j/\Q (.int<|i^j.toNat) H
 |_,_=>False
section
variable{X:Cx}{a b:Ry}{ta tb:TE}{pos:Pos}{rest:List Ry}
theorem anf:eJ X (binaryOp .Pow) D2:=akw.imp fun x y H Q q=>by
 unfold D2 at q;split at q
 .exact⟨_,_,rfl,rfl,q.1,q.2⟩
 .exact q.elim
end
def UU(x:V)(H:Hp)(Q:VK):Prop:=match x with
 |.int i=>Q (.int<|-i) H
 |_=>False
theorem adz:KD X (unaryOp .USub) UU:=Qs.imp fun x H Q q=>by
 delta UU at q;split at q
 .exact⟨_,rfl,q⟩
 .exact q.elim
theorem Dv:eJ X (UI .LtE) (fun x y H Q=>∃i j,x=.str i/\y=.str j/\Q (.bl<|!decide (j.cps.toList<i.cps.toList)) H):=by
 intro aa s Z H x y v u Q I b a h;obtain⟨i,j,rfl,rfl,q⟩:=h;obtain⟨t,rfl⟩:=b;obtain⟨t',rfl⟩:=a;exact P.le_str<|aB I q rfl
theorem DS:eJ X (UI .GtE) (fun x y H Q=>∃i j,x=.str i/\y=.str j/\Q (.bl<|!decide (i.cps.toList<j.cps.toList)) H):=by
 intro aa s Z H x y v u Q I b a h;obtain⟨i,j,rfl,rfl,q⟩:=h;obtain⟨t,rfl⟩:=b;obtain⟨t',rfl⟩:=a;exact P.ge_str<|aB I q rfl
theorem Db:eJ X (UI .Gt) (fun x y H Q=>∃i j,x=.str i/\y=.str j/\Q (.bl<|decide (j.cps.toList<i.cps.toList)) H):=by
 intro aa s Z H x y v u Q I b a h;obtain⟨i,j,rfl,rfl,q⟩:=h;obtain⟨t,rfl⟩:=b;obtain⟨t',rfl⟩:=a;exact P.gt_str<|aB I q rfl
def Xn:UL:=fun x y H Q=>match x,y with
 |.int i,.int j=>Q (.bl<|decide (i<j)) H
 |.str i,.str j=>Q (.bl<|decide (i.cps.toList<j.cps.toList)) H
 |_,_=>False
def Yy:UL:=fun x y H Q=>match x,y with
 |.int i,.int j=>Q (.bl<|decide (i<=j)) H
 |.str i,.str j=>Q (.bl<|!decide (j.cps.toList<i.cps.toList)) H
 |_,_=>False
def W9:UL:=fun x y H Q=>match x,y with
 |.int i,.int j=>Q (.bl<|decide (j<i)) H
 |.str i,.str j=>Q (.bl<|decide (j.cps.toList<i.cps.toList)) H
 |_,_=>False
def XA:UL:=fun x y H Q=>match x,y with
 |.int i,.int j=>Q (.bl<|decide (j<=i)) H
 |.str i,.str j=>Q (.bl<|!decide (i.cps.toList<j.cps.toList)) H
 |_,_=>False
theorem ZV:eJ X (UI .Lt) Xn:=(TW.or Dt).imp fun x y H Q q=>by
 delta Xn at q;split at q
 .exact .inl ⟨_,_,rfl,rfl,q⟩
 .mright
 .exact q.elim
theorem Zd:eJ X (UI .LtE) Yy:=(kIn.or Dv).imp fun x y H Q q=>by
 delta Yy at q;split at q
 .exact .inl ⟨_,_,rfl,rfl,q⟩
 .mright
 .exact q.elim
theorem YY:eJ X (UI .Gt) W9:=(hok.or Db).imp fun x y H Q q=>by
 delta W9 at q;split at q
 .exact .inl ⟨_,_,rfl,rfl,q⟩
 .mright
 .exact q.elim
theorem Y0:eJ X (UI .GtE) XA:=(Xv.or DS).imp fun x y H Q q=>by
 delta XA at q;split at q
 .exact .inl ⟨_,_,rfl,rfl,q⟩
 .mright
 .exact q.elim
theorem HG:eJ X (UI .Is) (fun x y H Q=>∃j,y=.bl j/\Q (.bl<|decide (x=.bl j)) H):=by
 intro aa s Z H x y v u Q I a b h;obtain⟨j,rfl,q⟩:=h;subst b;cases x with
 |bl i=>subst a;exact yH rfl (aB I q<|⊥)
 |S9=>subst a;exact yH rfl (aB I q<|by rfl)
 |int i=>obtain⟨t,rfl⟩:=a;exact yH rfl (aB I q<|by rfl)
 |str i=>obtain⟨t,rfl⟩:=a;exact yH rfl (aB I q<|by rfl)
 |X4 i=>obtain⟨t,rfl⟩:=a;exact yH rfl (aB I q<|by rfl)
 |xH i=>obtain⟨t,rfl⟩:=a;exact yH rfl (aB I q<|by rfl)
 |ref i=>subst a;exact yH rfl (aB I q<|by rfl)
 |ty i=>subst a;exact yH rfl (aB I q<|by rfl)
theorem aca:eJ X (UI .IsNot) (fun x y H Q=>∃j,y=.bl j/\Q (.bl<|!decide (x=.bl j)) H):=by
 intro aa s Z H x y v u Q I a b h;obtain⟨j,rfl,q⟩:=h;subst b;cases x with
 |bl i=>subst a;exact yj rfl (aB I q<|by cases i<;>cases j<;>rfl)
 |S9=>subst a;exact yj rfl (aB I q<|by rfl)
 |int i=>obtain⟨t,rfl⟩:=a;exact yj rfl (aB I q<|by rfl)
 |str i=>obtain⟨t,rfl⟩:=a;exact yj rfl (aB I q<|by rfl)
 |X4 i=>obtain⟨t,rfl⟩:=a;exact yj rfl (aB I q<|by rfl)
 |xH i=>obtain⟨t,rfl⟩:=a;exact yj rfl (aB I q<|by rfl)
 |ref i=>subst a;exact yj rfl (aB I q<|by rfl)
 |ty i=>subst a;exact yj rfl (aB I q<|by rfl)
noncomputable def BI:V->V->Bool
 |.S9,.S9=>G
 |.bl i,.bl j=>i==j
 |_,_=>η
def Wu:UL:=fun x y H Q=>match y with
 |.S9=>Q (.bl<|BI x .S9) H
 |.bl j=>Q (.bl<|BI x<|.bl j) H
 |_=>False
def z6:UL:=fun x y H Q=>match y with
 |.S9=>Q (.bl<|!BI x .S9) H
 |.bl j=>Q (.bl<|!BI x (.bl j)) H
 |_=>False
theorem BG(x:V):decide (x=.S9)=BI x .S9:=by cases x<;>rfl
theorem Eo(x:V)(j:Bool):decide (x=.bl j)=BI x (.bl j):=by
 cases x with
 |bl i=>cases i<;>cases j<;>rfl
 |_=>trivial
theorem Zi:eJ X (UI .Is) Wu:=(Qr.or HG).imp fun x y H Q q=>by
 delta Wu at q;split at q
 .exact .inl ⟨rfl,by rw[BG];exact q⟩
 .exact .inr ⟨_,rfl,by rw[Eo];exact q⟩
 .exact q.elim
theorem Gu:eJ X (UI .IsNot) z6:=(Lc.or aca).imp fun x y H Q q=>by
 delta z6 at q;split at q
 .exact .inl ⟨rfl,by rw[BG];exact q⟩
 .exact .inr ⟨_,rfl,by rw[Eo];exact q⟩
 .exact q.elim
def TD(K:aT):UL:=fun x y H Q=>match x,y with
 |.str z,.int i=>∃c,z.length<=Ta/\Uq z.cps.toList i=J c/\Q (.str ⟨#[c]⟩) H
 |.ref p,.int i=>∃xs v,(gr K H p xs\/m7 K H p xs)/\Uq xs i=J v/\Q v H
 |_,_=>False
theorem WL(K:aT)(b:X.K=K<|>Rv):DX X<|TD K:=by
 subst b;exact(OP.imp fun x y H Q q=>by
   delta TD at q;split at q
   .obtain⟨c,h1,h2,a⟩:=q
    exact .inr (.inr ⟨_,_,c,rfl,rfl,h1,h2,a⟩)
   .obtain⟨xs,v,h1|h1,h2,a⟩:=q
    .exact .inl ⟨_,xs,_,v,rfl,rfl,h1,h2,a⟩
    .exact .inr (.inl ⟨_,xs,_,v,rfl,rfl,h1,h2,a⟩)
   .exact q.elim)
def PJ(K:aT)(xs:Se)(H:Hp)(Q:VK):Prop:=match xs with
 |[.str y]=>y.length<=Ta/\Q (.int y.length) H
 |[.ref p]=>∃ys,(gr K H p ys\/m7 K H p ys)/\Q (.int ys.length) H
 |_=>False
theorem aoj(K:aT)(a:X.K=K<|>Rv):bI X (.builtin "len")<|PJ K:=by
 subst a;exact((Spl.or abR).imp fun xs H Q q=>by
   delta PJ at q;split at q
   .mright
   .mright
   .exact q.elim)
def Sh(xs:Se)(H:Hp)(Q:VK):Prop:=match xs with
 |[.int i]=>Q (.int i) H
 |[.bl k]=>Q (.int<|if k=G then 1 else 0) H
 |_=>False
theorem Z06:bI X (.type "int") Sh:=DM.imp fun xs H Q q=>by
 delta Sh at q;split at q
 .mright
 .mright
 .exact q.elim
end
noncomputable def al:Ry->Bool
 |.Starred ..=>η
 |_=>G
theorem bC(h:al e=G):Uu (e::es) env=(η,eval e env)::Uu es env:=by
 cases e<;>first|rfl|nofun
theorem bH:∀{es:List Ry},es.all al=G->(X3 pos<|Uu es env).any (·.1)=η:=@TB _ _ (@fun _=>rfl) fun e es i_=>@fun h=>by
  rw[Vg,oR]at h;rw[bC h.1];have a:=i_ h.2;assumption
theorem Jr(b:PE X e te)(c:PA X es t)(a:al e=G<|>Rv):PA X (e::es)<|uM te t:=Kz b c<|bC a
section
variable{p pos:Pos}{id:String}
theorem akI(c:bI X (.builtin id) r)(b:X.mg x=U)(g:Vl x=J (.builtin id))(d:PA X (e::es) t)(f:Gl X x<|>Rv)(h1:al e=G<|>Rv)(h2:es.all al=G<|>Rv)(h:(x≠"__name__")<|>Sm)(a:TN x<|>Sm):
  PE X #[3] (RD r t):=GF c f b g d h a (bC h1)<|bH h2
theorem abp(c:bI X (.type T) r)(b:X.mg x=U)(g:Vl x=J (.type T))(d:PA X (e::es) t)(f:Gl X x<|>Rv)(h1:al e=G<|>Rv)(h2:es.all al=G<|>Rv)(h:(x≠"__name__")<|>Sm)(a:TN x<|>Sm):
  PE X #[3] (RD r t):=Dw c f b g d h a (bC h1)<|bH h2
end
theorem EH:Vl "len"=J (.builtin "len"):=⊤
theorem aj5:bootBuiltins "all"=J (.builtin "all"):=⊤
theorem xn:bootBuiltins "isinstance"=J (.builtin "isinstance"):=⊤
theorem Hw:Vl "str"=J (.type "str"):=⊤
theorem zP:Vl "int"=J (.type "int"):=⊤
theorem aiI:bootBuiltins "bool"=J (.type "bool"):=⊤
theorem sU:Vl "tuple"=J (.type "tuple"):=⊤
theorem Z62{pos:Pos}(a:X.mg x=U)(c:Vl x=J (.type n))(b:Gl X x<|>Rv)(d:(x≠"__name__")<|>Sm)(hd:TN x<|>Sm):PE X (.Name x pos)<|tC<|.ty n:=
 Ks b a c rfl d hd
def kQ(T C:String):Bool:=T==C||(T=="bool"&&C=="int")
noncomputable def qm(C:String):Bool:=C=="str"||C=="int"||C=="bool"||C=="list"||C=="tuple"||C=="dict"
theorem gZ{K:aT}(b:T="NoneType"\/T="bool"\/T="int"\/T="str"\/T="list"\/T="tuple"\/T="dict")(c:qm C=G):S7 K (.type T) (.type C)=J (kQ T C):=by
 have a:C="str"\/C="int"\/C="bool"\/C="list"\/C="tuple"\/C="dict":=by
  delta qm at c
  lia
 rcases b with h|h|h|h|h|h|h<;>subst h<;>rcases a with h|h|h|h|h|h<;>subst h<;>first|rfl|trivial
section
variable{X:Cx}
def abf(Q:Option Int->Hp->Prop):VK:=fun x H1=>match x with
 |.int i=>Q (J i) H1
 |_=>False
def alg(t:TE):TO:=fun Z H Q=>t Z H<|abf Q
def rY(z:Str)(lo a:Option Int):Str:=⟨((z.cps.toList.drop<|HT.T5 z.length 0 lo).take<|HT.T5 z.length z.length a-HT.T5 z.length 0 lo).toArray⟩
theorem Mu(v:Int)(n d:Nat):max 0 (min (if v<0 then v+(n:Int)else v) (n:Int))=((HT.T5 n d (J v):Nat):Int):=by
 show _=(((if v<0 then(v+n).toNat else min v.toNat n):Nat):Int)
 split<;>lia
theorem loS(lo:Option Int)(n:Nat):(match lo with|none=>(0:Int)|some i=>max 0<|min (if i<0 then i+(n:Int)else i) (n:Int))=((HT.T5 n 0 lo:Nat):Int):=by
 cases lo with
 |none=>rfl
 |some v=>exact Mu v n 0
theorem hiS(a:Option Int)(n:Nat):(match a with|none=>(n:Int)|some i=>max 0<|min (if i<0 then i+(n:Int)else i) (n:Int))=((HT.T5 n n a:Nat):Int):=by
 cases a with
 |none=>rfl
 |some v=>exact Mu v n n
theorem Ty(lo a:Option Int)(n:Nat):rL lo a 1 n=sliceRange ((HT.T5 n 0 lo:Nat):Int) ((HT.T5 n n a:Nat):Int) 1:=by
 rw[<-loS,<-hiS];rfl
theorem XZ(a b n:Nat)(c:a<=n)(d:b<=n):rL (J (a:Int)) (J (b:Int)) 1 n=sliceRange (a:Int) (b:Int) 1:=by
 rw[Ty,HT.rG,HT.rG,Lv c,Lv d]
theorem ae3(z:Str)(lo hi:Option Int):Txt.slice z lo hi=rY z lo hi:=by
 have f:=HT.G6 z.length 0 (Uh _) lo;have d:=HT.G6 z.length z.length (mK _) hi;delta Txt.slice;rw[Ty,<-XZ _ _ _ f d];delta rY;generalize HT.T5 z.length 0 lo=a at f⊢;generalize HT.T5 z.length z.length hi=b at d⊢;by_cases c:a<=b
 .exact StrLaws.sliceText_nat z c d
 .have e:rL (J a) (J b) 1 z.length=[]:=by
   have h1:((1:Int) > 0)=True:=∅
   have g:¬((a:Int)<0):=⊥
   have i:¬((b:Int)<0):=⊥
   have e1:max 0 (min a z.length)=a:=by mright
   have e2  := by omega
   simp only[rL,sliceRange,h1,if_true,SM g,SM i,e1,e2];rw[SM<|by grind];rfl
  have e0:b-a=0:=by grind
  rw[e,e0];split
  .rename_i h;have hz  := by
    have h'  := by simpa using h
    exact h'.symm
   apply Str.ext'
   exact Array.eq_empty_of_size_eq_zero hz
  .rfl
theorem Lb(z:Str)(lo a:Option Int):(rY z lo a).length<=z.length:=by
 delta rY;simp[ye];lia
theorem QD:V2 X (fun x lo a H Q=>∃z,x=.str z/\z.length<=Ta/\Q (.str<|rY z lo a) H):=by
 intro aa s Z H x v r y lo a g Q I o hs pl f h;obtain⟨z,rfl,m,q⟩:=h;obtain⟨t,rfl⟩:=o;have fin:∀(l u:Option<|Int×Tok),l.map (·.1)=lo->u.map (·.1)=a->s.heap.IsSlice g l u U->SN #[0] X.A (e8 (.str z t)<|.ref g) (EP X aa Z Q) X.xe s:=fun l u e1 n b=>by
  refine aO I.tk<|wpAny_getItem_str_slice b rfl ?_;subst e1 n;refine post_val_or_str ?_;have e:(if(((U:Option<|Int×Tok).map (·.1)).getD 1==1&&(slicePicked z l u U).length==z.length)=G then z else⟨((slicePicked z l u U).filterMap (z.cps[·]?)).toArray⟩)=Txt.slice z (l.map (·.1)) (u.map (·.1)):=rfl;rw[e,ae3];exact⟨RW (Lb _ _ _) m,fun t' k p=>⟨.str _,H,I.tok _,⟨t',rfl⟩,q⟩⟩
 refine⟨"str",_,F.slot_str_getitem.lookup,typeIs_str s z t,?_⟩;cases pl with
 |none=>
  cases f with
  |none=>exact fin U U rfl rfl hs
  |int j c=>exact fin U (J (j,c)) rfl rfl hs
 |int i d=>
  cases f with
  |none=>exact fin (J (i,d)) U rfl rfl hs
  |int j c=>exact fin (J (i,d)) (J (j,c)) rfl rfl hs
variable{tg:Ry}
def kIt(K:aT)(R:It->Hp->Prop):VK:=fun x H1=>match x with
 |.str z=>R (VT z) H1
 |.ref a=>((∃xs,gr K H1 a xs)/\R (XI K a) H1)\/((∃xs,m7 K H1 a xs)/\R (WQ K a) H1)
 |_=>False
def Zv(K:aT)(tl:TE):TI:=fun Z H R=>tl Z H<|kIt K R
theorem Oc(K:aT)(B:PE X l tl)(y:X.K=K<|>Rv):PI X tg l<|Zv K tl:=by
 subst y;intro aa s Z H R I h;refine bP (B aa s Z H _ I h) fun v j w=>jZ w fun x H1 g r1 q1=>?_;cases x with
 |str z=>
  obtain⟨t,rfl⟩:=r1;have f:∀b∈[j.heap.objs.size],gE X aa H1 b:=fun b r=>by
   have e  := by simpa using r
   subst e;exact g.zT (mK _)<|g.Su.fresh<|mK _
  cases ha:z.cps.all (·<128)
  .refine wpAny_pyIter_wide ha ?_;exact⟨j.heap.objs.size,[j.heap.objs.size],_,_,H1,rfl,g.kept fun b o e=>iN _ e,(fun it z t =>  tJ (fun A n=>Walks.strWide n it z t) (fun i h C=>gL C fun o e c d=>⟨o,_,_,e,c,d,by rfl⟩) (fun i H h=>h) (fun i H u _ h=>Io h) (fun i h H e st=>by
     have k:i=z.cps.size:=e;rw[<-k];exact st) fun A i s Q E st h=>wpAny_pyIter_striter_wide st h) _ z t,⟨_,Vh _ rfl,rfl,rfl⟩,f,q1⟩
  .refine wpAny_pyIter_ascii ha ?_;exact⟨j.heap.objs.size,[j.heap.objs.size],_,_,H1,rfl,g.kept fun b o e=>iN _ e,(fun it z t =>  tJ (fun A n=>Walks.strAscii n it z t) (fun i h C=>gL C fun o e c d=>⟨o,_,_,e,c,d,by rfl⟩) (fun i H h=>h) (fun i H u _ h=>Io h) (fun i h H e st=>by
     have k:i=z.cps.size:=e;rw[<-k];exact st) fun A i s Q E st h=>wpAny_pyIter_striter_ascii st h) _ z t,⟨_,Vh _ rfl,rfl,rfl⟩,f,q1⟩
 |ref a=>
  subst r1;have f:∀b∈[j.heap.objs.size],gE X aa H1 b:=fun b r=>by
   have e  := by simpa using r
   subst e;exact g.zT (mK _)<|g.Su.fresh<|mK _
  rcases q1 with⟨⟨xs,m⟩,q⟩|⟨⟨xs,m⟩,q⟩
  .obtain⟨aV,rv,p,hz⟩:=g.list m
   refine wpAny_pyIter_list p.isList ?_;exact⟨j.heap.objs.size,[j.heap.objs.size],_,_,H1,rfl,g.kept fun b o e=>iN _ e,D0 a _,⟨_,Vh _ rfl,rfl,rfl⟩,f,q⟩
  .obtain⟨aV,rv,p,hz⟩:=g.tuple m
   refine wpAny_pyIter_tuple ((p)) ?_;exact⟨j.heap.objs.size,[j.heap.objs.size],_,_,H1,rfl,g.kept fun b o e=>iN _ e,AI a _,⟨_,Vh _ rfl,rfl,rfl⟩,f,q⟩
 |_=>exact q1.elim
def N4(R:It->Hp->Prop):Se->Hp->Prop:=fun vs H1=>match vs with
 |[.int j]=>(-(2^62)<=j/\j<2^62)/\R (V5 0 j.toNat) H1
 |_=>False
def Mw(ta:TA):TI:=fun Z H R=>ta Z H<|N4 R
theorem Dg(d:Gl X "range")(b:X.mg "range"=U)(g:PA X [a] ta)(hs:Uu [a] X.env=[(η,eval a X.env)]<|>Rv):PI X tg (.Call (.Name "range" p) [a] [] pos)<|Mw ta:=by
 intro aa s Z H R I h;refine Call_<|tw I d b boot_range<|tL (bP (g pos aa s Z H _ I h) fun us i e=>jZ e fun vs H1 c r1 q1=>?_) hs rfl;unfold N4 at q1;split at q1
 .obtain⟨⟨q2,q3⟩,q⟩:=q1
  cases r1 with
  |cons r f=>
   cases f;obtain⟨t,rfl⟩:=r;exact call_range_1 (G8 c ∅ ∅ q2 q3<|by simpa using q)
 .exact q1.elim
def ak9(r:Str->Se->Hp->VK->Prop)(z:Str)(Q:VK):Se->Hp->Prop:=fun xs a=>r z xs a Q
def kSM(r:Str->Se->Hp->VK->Prop)(t:TA)(Z:St)(Q:VK):VK:=fun x H1=>match x with
 |.str z=>t Z H1<|ak9 r z Q
 |_=>False
def Zr(r:Str->Se->Hp->VK->Prop)(a:TE)(t:TA):TE:=fun Z H Q=>a Z H<|kSM r t Z Q
def Oj(X:Cx)(id:String)(r:Str->Se->Hp->VK->Prop):Prop:=
 ∀(aa:TQ)(s:ID)(Z:St)(H:Hp)(z:Str)(t:Tok)(xs:Se)(us:TK)(Q:VK),Inv X aa Z H s->aU xs us->r z xs H Q ->
  SN #[0] X.A (call (.builtin id)<|.str z t::us) (EP X aa Z Q) X.xe s
theorem aaz{apos cpos:Pos}{id:String}(d:Slot "str" name id)(i:typeOf (.builtin id)=pure (.type "method_descriptor"))(m:Oj X id r)(u:PE X o to)(w:PA X (e::es) t)
  (c:(WG o name X.env (eval o X.env)=eval o X.env)<|>Rv)
  (f:((X3 cpos<|Uu (e::es) X.env).all (fun x=>!x.1)&&(backToKw cpos<|jh [] X.env).all (fun x=>x.1.isSome)
   && decide ((e::es).length+([]:List zS).length+(if([]:List zS).isEmpty then 0 else 1)<30))=G:=by rfl)
  (b:#[6]=G<|>Rv) (hs:(Uu (e::es) X.env=(η,eval e X.env)::Uu es X.env)<|>Rv) (a:(X3 cpos<|Uu es X.env).any (·.1)=η<|>Rv):
  PE X (.Call (.Attribute o name apos) (e::es) [] cpos) (Zr r to t):=by
 intro aa s Z H Q I h;refine wpAny_Call_method_late c f b rfl (bP (u aa s Z H _ I h) fun v j g=>jZ g fun x H1 n r1 q1=>?_);cases x with
 |str z=>
  obtain⟨l,rfl⟩:=r1;refine⟨"str",id,KR,d,i,typeIs_str j z l,(fun _ e=>nomatch e),?_⟩
  have k:=w cpos aa j Z H1 _ n q1;rw[hs]at k⊢;refine rN (by show(η||(X3 cpos<|Uu es X.env).any (·.1))=η;rw[a]<;>rfl)<|sE ?_;exact bP k fun us y g=>jZ g fun vs q p r2 q2=>m aa y Z q z l vs us Q p r2 q2
 |_=>exact q1.elim
def VH(f:Str->Str->V)(z:Str)(xs:Se)(H:Hp)(Q:VK):Prop:=match xs with
 |[.str y]=>Q (f z y) H
 |_=>False
theorem ut:Oj X "str.startswith"<|VH fun x y=>.bl<|pQ x y:=by
 intro aa s Z H z t xs us Q I r h;delta VH at h;cbv
 .obtain⟨u,rfl,t',rfl⟩:=jV r;exact SC.startswith ⟨.bl _,H,I,rfl,h⟩
 .mleft
section
variable{X:Cx}
theorem afF:Oj X "str.endswith"<|VH fun x y=>.bl<|cg x y:=by
 intro aa s Z H z t xs us Q I r h;unfold VH at h;cbv
 .obtain⟨u,rfl,t',rfl⟩:=jV r;exact SC.endswith ⟨.bl _,H,I,rfl,h⟩
 .mleft
end
end
structure Def(K:aT)(mg:Sq)(x:Str)(st:SU)(ps:SH)(f:SA)(fd:Wj):Prop where
 F:UD K x x st f fd
 b:cf K fd ps []
 m:mg x=J (.ref f)
section
variable{st:SU}{p pos:Pos}
def R7(sp:Sp)(t:TA):TE:=fun Z H Q=>t Z H fun vs H1=>sp vs H1 Q E0
section
variable{st:SU}{p pos:Pos}
theorem pc(D:Def X.K X.mg x st ps f fd)(SK:T8 X.prog X.w X.K X.mg X.base lD j f fd ps sp)(l:TZ k X.A)(g:PA X (e::es) t)(d:j<=k<|>Sm)(n:Gl X x<|>Rv)(a:(x==("__debug__":Str))=η<|>Sm)
  (h1:al e=G<|>Rv) (h2:es.all al=G<|>Rv):PE X #[3]<|R7 sp t:=by
 have i:starEach (e::es) X.env=(η,eval e X.env)::starEach es X.env:=bC h1;have c:(backTo pos<|starEach es X.env).any (·.1)=η:=bH h2;intro aa s Z H Q I h;refine wpAny_Call_Name_kw<|dD I n D.m ?_ a;refine yw (h₀:=X.base) I.ok.mod.XM D.F.kp (bP (g pos aa s Z H _ I h) fun us s1 q0_=>Tw q0_ fun vs H1 I1 r q=>⟨I1.U3,?_⟩) i c;exact IV (dvs:=[]) SK (l.mono d) D.b .nil NJ I1 r (by rw[Wz];exact q)
end
end
theorem bR(h:H p=U)(o:HO):ah H<|br H p o:=fun b u q=>by rw[aG<|bc q h];exact q
theorem ah.Wt{K:aT}(e:ah H H')(h:m7 K H a xs):m7 K H' a xs:=by
 rcases h with(h|⟨o,h⟩)|h
 .exact .inl (.inl<|e _ _ h)
 .exact .inl (.inr ⟨o,e _ _ h⟩)
 .exact .inr h
structure JE(X:Cx)(e:Ry)(t:TE):Prop where
 out:PE X e t
structure JT(X:Cx)(e:Ry)(t:TT):Prop where
 out:PT X e t
structure JW(X:Cx)(e:Ry)(t:TT):Prop where
 out:PW X e t
structure JA(X:Cx)(es:List Ry)(t:TA):Prop where
 out:PA X es t
structure JS(X:Cx)(st:SU)(t:TS):Prop where
 out:PS X st t
structure JB(X:Cx)(st:List SU)(t:TS):Prop where
 out:IR X st t
structure JG(X:Cx)(e:Ry)(t:TG):Prop where
 out:PG X e t
structure YW(X:Cx)(es:List Ry)(t:Mg):Prop where
 out:VP X es t
structure JI(X:Cx)(tg e:Ry)(t:TI):Prop where
 out:PI X tg e t
structure JO(X:Cx)(e:Option Ry)(t:TO):Prop where
 out:PO X e t
structure Yq(X:Cx)(es:List Ry)(t:TT):Prop where
 out:RI X es t
section
variable{X:Cx}{pos:Pos}{rest:List Ry}
theorem jv(i:Nat)(b:X.N[i]?=J x<|>Rv)(c:m6 X.env.scope x<|>uO)(hd:TN x<|>Sm)
  (a:#[2]=η<|>Sm):JE X (.Name x pos)<|z8 i:=⟨qv i b c hd a⟩
theorem aab:JE X (.Constant (.int i) j pos)<|tC<|.int i:=⟨AE⟩
theorem lsm{b j pos}:JE X (.Constant (.bool b) j pos)<|tC<|.bl b:=⟨(fun _ _ _ H _ I h=>Constant_bool ⟨.bl b,H,I,rfl,h⟩)⟩
theorem akQ:JE X (.Constant .none j pos)<|tC .S9:=⟨(fun _ _ _ H _ I h=>Constant_none ⟨.S9,H,I,rfl,h⟩)⟩
theorem HA:JE X (.Constant (.str x) j pos)<|tC<|.str x:=⟨Jg⟩
theorem OC(b:X.mg x=J u)(r:aP v u)(a:Gl X x<|>Rv)(hd:TN x<|>Sm):JE X (.Name x pos)<|tC v:=⟨JN a b r hd⟩
theorem frf(a:X.mg x=U)(c:Vl x=J (.type n))(b:Gl X x<|>Rv)(d:(x≠"__name__")<|>Sm)(hd:TN x<|>Sm):JE X (.Name x pos)<|tC<|.ty n:=⟨Z62 a c b d hd⟩
theorem Wn(e:eJ X (Yo op) r)(c:JE X a ta)(d:JE X b tb):JE X (.BinOp a op b pos)<|NB r ta tb:=⟨(by
    intro aa s Z H Q I h;exact wpAny_BinOp<|Ou c.out d.out I h fun v u i x y d c j f q=>e aa i Z d x y v u Q c j f q)⟩
theorem Z26(c:KD X (unaryOp op) r)(e:JE X a ta):JE X (.UnaryOp op a pos)<|tUn r ta:=⟨(by
  intro aa s Z H Q I h;exact UnaryOp_ (bP (e.out aa s Z H _ I h) fun v b f=>jZ f fun x H1 d r1 q1=>c aa b Z H1 x v Q d r1 q1))⟩
theorem abh(d:JE X a ta):JE X (.UnaryOp .Not a pos)<|abE ta:=⟨(by
  intro aa s Z H Q I h;refine UnaryOp_<|bP (d.out aa s Z H _ I h) fun v f e=>jZ e fun x H1 b r1 q1=>?_;cases x with
  |bl c=>
   subst r1;exact not_of<|iT ⟨.bl<|!c,H1,b,rfl,q1⟩
  |_=>exact q1.elim)⟩
theorem afx(g:JE X a ta)(i:JE X (.BoolOp .And (b::rest) pos) tb):JE X (.BoolOp .And (a::b::rest) pos)<|dct ta tb:=⟨(by
  intro aa s Z H Q I h;refine BoolOp_and<|bP (g.out aa s Z H _ I h) fun v f e=>jZ e fun x H1 d r1 q1=>?_;cases x with
  |bl c=>
   subst r1;refine iT ?_;cases c with
   |true=>exact i.out aa f Z H1 Q d q1
   |false=>exact⟨.bl η,H1,d,rfl,q1⟩
  |_=>exact q1.elim)⟩
theorem abk(g:JE X a ta)(i:JE X (.BoolOp .Or (b::rest) pos) tb):JE X (.BoolOp .Or (a::b::rest) pos)<|uOr ta tb:=⟨(by
  intro aa s Z H Q I h;refine BoolOp_or<|bP (g.out aa s Z H _ I h) fun v f e=>jZ e fun x H1 d r1 q1=>?_;cases x with
  |bl c=>
   subst r1;refine iT ?_;cases c with
   |false=>exact i.out aa f Z H1 Q d q1
   |true=>exact⟨.bl G,H1,d,rfl,q1⟩
  |_=>exact q1.elim)⟩
theorem lrc(e:eJ X (UI op) r)(c:JE X a ta)(d:JE X b tb)(f:t8 op b=η):JE X (.Compare a [op] [b] pos)<|NB r ta tb:=⟨(fun f i l c => by
    intro aa s Z H Q I h;exact wpAny_Compare1 (Ou i l I h fun v u j x y e d k g q=>f aa j Z e x y v u Q d k g q) c) e c.out d.out f⟩
theorem QJ(o:eJ X (UI op) r)(p:JE X a ta)(t:JE X b tb)(f:t8 op b=η):JT X (.Compare a [op] [b] pos)<|akT<|NB r ta tb:=⟨(by
  intro aa s Z H Q I h;refine wpAny_isTrue_Compare1 (bP (p.out aa s Z H _ I h) fun v j d=>jZ d fun x H1 g r1 q1=>bP (t.out aa j Z H1 _ g q1) fun u q d=>jZ d fun y m l r2 q2=>
   bP (o aa q Z m x y v u _ l r1 r2 q2) fun c w d=>jZ d fun z i n r3 e=>?_) f
  cases z with
  |bl k=>
   subst r3;exact iT ⟨i,n,e⟩
  |_=>exact e.elim)⟩
theorem N9(e:JT X c tA)(f:JE X a ta)(g:JE X b tb):JE X (.IfExp c a b pos)<|tIf tA ta tb:=⟨(by
  intro aa s Z H Q I h;refine wpAny_IfExp<|bP (e.out aa s Z H _ I h) ?_;rintro d s1⟨H1,I1,q1⟩;cases d with
  |true=>exact f.out aa s1 Z H1 Q I1 q1
  |false=>exact g.out aa s1 Z H1 Q I1 q1)⟩
theorem Cc(h:JW X a tA):JT X a tA:=⟨h.out.pt⟩
theorem CW(b:JT X a tA):JW X (.BoolOp .And [a] pos) tA:=⟨(by
  intro f aa s Z H Q I h;refine isTrue_and<|bP (b.out aa s Z H Q I h) fun c d e=>?_;cases c with
  |true=>exact isTrue_and_nil e
  |false=>exact e)⟩
theorem IT(b:JT X a tA):JW X (.BoolOp .Or [a] pos) tA:=⟨(by
  intro f aa s Z H Q I h;refine isTrue_or<|bP (b.out aa s Z H Q I h) fun c d e=>?_;cases c with
  |false=>exact isTrue_or_nil e
  |true=>exact e)⟩
theorem Hq(d:JT X a tA)(f:JW X (.BoolOp .And (b::rest) pos) tB'):JW X (.BoolOp .And (a::b::rest) pos)<|abx tA tB':=⟨(by
  intro e aa s Z H Q I h;refine isTrue_and<|bP (d.out aa s Z H _ I h) ?_;rintro c s1⟨H1,I1,q1⟩;cases c with
  |true=>exact f.out e aa s1 Z H1 Q I1 q1
  |false=>exact⟨H1,I1,q1⟩)⟩
theorem MC(d:JT X a tA)(f:JW X (.BoolOp .Or (b::rest) pos) tB'):JW X (.BoolOp .Or (a::b::rest) pos)<|tOr tA tB':=⟨(by
  intro e aa s Z H Q I h;refine isTrue_or<|bP (d.out aa s Z H _ I h) ?_;rintro c s1⟨H1,I1,q1⟩;cases c with
  |true=>exact⟨H1,I1,q1⟩
  |false=>exact f.out e aa s1 Z H1 Q I1 q1)⟩
theorem GZ(b:JT X a tA):JT X (.UnaryOp .Not a pos)<|akU tA:=⟨(by
  intro aa s Z H Q I h;exact isTrue_not (b.out aa s Z H (fun c H1=>Q (!c) H1) I h))⟩
theorem yR(K:aT)(d:JE X a ta)(c:(∀b,isTrue a X.env b=(do let v <-b;jF a.pos;holding [v] (truthy v)))<|>gK)(e:X.K=K<|>Rv):JT X a<|EI K ta:=⟨GU K d.out c e⟩
theorem eD:JA X [] DG:=⟨(fun _ _ _ _ H Q I h=>Oh ⟨[],H,I,.nil,h⟩)⟩
theorem bU(b:JE X e te)(c:JA X es t)(a:al e=G<|>Rv):JA X (e::es)<|uM te t:=⟨Jr b.out c.out a⟩
theorem Hi(h:JA X es t):JE X (.List es pos)<|akP t:=⟨(by
  intro aa s Z H Q I a;refine wpAny_List_spliced (bP (h.out pos aa s Z H _ I a) fun us d f=>US f fun xs H1 c r z q=>⟨by rw[<-r.length];exact z,?_⟩);have hf  := c.Su.fresh (mK _);refine⟨.ref d.heap.objs.size,br H1 d.heap.objs.size (.lst xs),c.laid (fun b u e=>iN _ e) (mK _) ?_,rfl,q _ hf⟩;exact⟨z,us,0,r,Vh _ rfl⟩)⟩
theorem Ci(h:JA X es t):JE X (.Tuple es x1 pos)<|aaQ t:=⟨(by
  intro aa s Z H Q I a;refine wpAny_Tuple_spliced (bP (h.out pos aa s Z H _ I a) fun us d f=>US f fun xs H1 c r z q=>⟨by rw[<-r.length];exact z,?_⟩);have hf  := c.Su.fresh (mK _);refine⟨.ref d.heap.objs.size,br H1 d.heap.objs.size (.tup xs),c.laid (fun b u e=>iN _ e) (mK _) ?_,rfl,q _ hf⟩;exact⟨z,us,r,⟨_,Vh _ rfl,rfl,_,rfl⟩⟩)⟩
theorem aaa(c:DX X r)(g:JE X a ta)(k:JE X b tb)(hs:rh b<|>k7):JE X (.Subscript a b pos)<|NB r ta tb:=⟨(by
  intro aa s Z H Q I h;exact Subscript_ (Ou g.out k.out I h fun v u i x y e d j f q=>c a b aa i Z e x y v u Q d j f q (hs _ _)))⟩
theorem Kt:JO X U J2:=⟨(by
  intro aa s Z H Q I h;exact U4 ⟨U,H,I,.none,h⟩)⟩
theorem Jx(h:JE X e te):JO X (J e)<|alg te:=⟨(by
  intro aa s Z H Q I hw;refine bP (h.out aa s Z H _ I hw) fun u c b=>jZ b fun x H1 a r1 q1=>?_;cases x with
  |int i=>
   obtain⟨t,rfl⟩:=r1;exact⟨J i,H1,a,.int i t,q1⟩
  |_=>exact q1.elim)⟩
theorem Ml{lo a:Option Ry}(d:V2 X r)(j:JE X e te)(k:JO X lo tl)(i:JO X a th):JE X (.Subscript e (.Slice lo a U p2) pos)<|tSl r te tl th:=⟨(by
  intro aa s Z H Q I h;refine Subscript_<|bP (j.out aa s Z H _ I h) fun v g f=>jZ f fun x H1 c r1 q1=>?_;refine wpAny_Slice<|bP (k.out aa g Z H1 _ c q1) ?_;intro vl s2 q0_;refine Tw q0_ fun l H2 I2 pl q2=>?_;refine bP (i.out aa s2 Z H2 _ I2 q2) ?_;intro vu s3 q1_;refine Tw q1_ fun u H3 I3 pu q3=>?_;refine U4 ?_;have m:Inv X aa Z H3 {s3 with heap:=s3.heap.push {cls:=.type "slice",data:=.fields #[vl,vu,.none]}}:=I3.kept fun b n q=>iN _ q;let⟨T,id,hT,ht,hg⟩:=d aa {s3 with heap:=s3.heap.push {cls:=.type "slice",data:=.fields #[vl,vu,.none]}} Z H3 x v vl vu l u s3.heap.objs.size Q m r1 (Heap.IsSliceOf.new ..) pl pu q3
  exact tail_any ht hT hg (by rfl))⟩
section
variable{st:SU}{p pos:Pos}{id:String}
theorem ahR(D:Def X.K X.mg x st ps f fd)(SK:T8 X.prog X.w X.K X.mg X.base lD j f fd ps sp)(d:TZ k X.A)(c:JA X (e::es) t)(b:j<=k<|>Sm)(g:Gl X x<|>Rv)(a:(x==("__debug__":Str))=η<|>Sm)
  (h1:al e=G<|>Rv) (h2:es.all al=G<|>Rv):JE X #[3]<|R7 sp t:=⟨pc D SK d c.out b g a h1 h2⟩
end
end
section
variable{st:SU}{p pos:Pos}{id:String}
theorem AX(c:bI X (.builtin id) r)(b:X.mg x=U)(g:Vl x=J (.builtin id))(d:JA X (e::es) t)(f:Gl X x<|>Rv)(h1:al e=G<|>Rv)(h2:es.all al=G<|>Rv)(h:(x≠"__name__")<|>Sm)(a:TN x<|>Sm):
  JE X #[3] (RD r t):=⟨akI c b g d.out f h1 h2 h a⟩
theorem BN(c:bI X (.type T) r)(b:X.mg x=U)(g:Vl x=J (.type T))(d:JA X (e::es) t)(f:Gl X x<|>Rv)(h1:al e=G<|>Rv)(h2:es.all al=G<|>Rv)(h:(x≠"__name__")<|>Sm)(a:TN x<|>Sm):
  JE X #[3] (RD r t):=⟨abp c b g d.out f h1 h2 h a⟩
end
section
variable{apos cpos:Pos}{id:String}
theorem tz(h:es.all al=G)(a:es.length<29):((X3 pos<|Uu es env).all (fun x=>!x.1)&&(backToKw pos<|jh [] env).all (fun x=>x.1.isSome)
   && decide (es.length+([]:List zS).length+(if([]:List zS).isEmpty then 0 else 1)<30))=G:=by
 have h1:(X3 pos<|Uu es env).all (fun x=>!x.1)=G:=by
  have:=bH (env:=env) (pos:=pos) h
  mright
 rw[h1];show(G&&G&&decide (es.length+0+0<30))=G
 lia
theorem afp(d:Slot "str" name id)(f:typeOf (.builtin id)=pure (.type "method_descriptor"))(h:Oj X id r)(g:JE X o to)(i:JA X (e::es) t)
  (a:(WG o name X.env (eval o X.env)=eval o X.env)<|>Rv) (c:#[6]=G<|>Rv) (h1:(e::es).all al=G<|>Rv) (j:(e::es).length<29<|>Sm):
  JE X (.Call (.Attribute o name apos) (e::es) [] cpos) (Zr r to t):=by
 have b:=h1;rw[Vg,oR]at b;exact⟨aaz d f h g.out i.out a (tz h1 j) c (bC b.1)<|bH b.2⟩
end
section
variable{tg elt:Ry}{pos:Pos}
theorem Kf:Yq X [] abj:=⟨(fun _ _ _ H _ I h=>wpAny_tests_nil ⟨H,I,h⟩)⟩
theorem J9(h:JT X c tt):Yq X [c] tt:=⟨(fun aa s Z H Q I q=>wpAny_tests_one<|h.out aa s Z H Q I q)⟩
theorem Qa(a:zr osc ON N ix scope=G)(j:JI X tg iter wi)(i:∀b,JG (jm X N scope b) tg g)(h:∀b,Yq (jm X N scope b) ifs tt)(c:∀b,JE (jm X N scope b) elt te)
  (d:X.env.scope=osc<|>Rv) (f:X.N=ON<|>Rv) (e:X.calm=G<|>Rv) (hs:(∀x,pg iter X.env x=pure x)<|>uN):JE X #[4]<|Bm ix wi g tt te:=
 ⟨Ig (N5 a) d f e j.out (fun b=>(i b).out) (fun b=>(h b).out) (fun b=>(c b).out) hs⟩
theorem Ap{spos pos':Pos}(h:X.N.Nodup)(p:Loc X.env.scope x)(c:zr osc ON N ix scope=G)(f:JI X tg iter wi)(e:∀b,JG (jm X N scope b) tg g)(d:∀b,Yq (jm X N scope b) ifs tt)(n:∀b,JE (jm X N scope b) elt te)
  (l:X.N[i]?=J x<|>Rv) (j:X.env.scope=osc<|>Rv) (k:X.N=ON<|>Rv) (m:X.calm=G<|>Rv)
  (a:Uw #[4] (J<|.Name x pos') spos.line X.env=pure G<|>Rv)
  (o:#[1]<|>XN)
  (hs:(∀x,pg iter X.env x=pure x)<|>uN):JS X (.Assign [.Name x pos'] #[4] spos)<|AL (Bm ix wi g tt te)<|ml i:=
 ⟨aeQ h l p (N5 c) j k m f.out (fun b=>(e b).out) (fun b=>(d b).out) (fun b=>(n b).out) a o hs⟩
theorem OQ(K:aT)(a:JE X l tl)(b:X.K=K<|>Rv):JI X tg l<|Zv K tl:=⟨Oc K a.out b⟩
theorem D8{p pos:Pos}(b:X.mg "range"=U)(c:JA X [a] ta)(d:Gl X "range"<|>Rv)(e:al a=G<|>Rv):JI X tg (.Call (.Name "range" p) [a] [] pos)<|Mw ta:=⟨Dg d b c.out<|bC e⟩
end
section
variable{pos:Pos}{st:SU}{rest:List SU}
theorem Jy(a:X.N.Nodup)(b:X.N[i]?=J x)(d:Loc X.env.scope x)(c:#[1]<|>XN):JG X (.Name x pos)<|ml i:=⟨B4 a b d c⟩
theorem JV:YW X [] abU:=⟨(by
  intro aa s Z H vs us Q I r h;obtain⟨e,h⟩:=h
  exact assignInOrder_nil ⟨Z,H,I,h⟩)⟩
theorem Ii{t:TG}{u:Mg}(h1:JG X e t)(h2:YW X es u)
  (hs:(Wh (e::es) X.env).map (·.2)=assign e X.env::(Wh es X.env).map (·.2)<|>Rv):YW X (e::es)<|My t u:=⟨E7 h1.out h2.out hs⟩
theorem afy(K:aT){k:Nat}{t:Mg}{n:Nat}(h:YW X es t)(b:X.calm=G<|>Rv)
  (d:(Wh es X.env).length=n<|>Rv) (a:(Wh es X.env).findIdx? (·.1)=U<|>Rv) (c:X.K=K<|>Rv):JG X (.Tuple es k pos)<|SF K n t:=by
 subst c;exact⟨PM b h.out d a⟩
theorem Hu:JB X [] NV:=⟨(fun _ _ Z H _ I h=>h8 ⟨Z,H,I,h⟩)⟩
theorem C0(h1:JS X st t)(h2:JB X rest u):JB X (st::rest)<|XH t u:=⟨(by
  intro aa s Z H D I h;refine wpAny_execs_cons<|bP (h1.out aa s Z H {D with nx:=u D} I h) fun f b q=>?_;cases f with
  |next=>
   obtain⟨a,H',c,q⟩:=q;exact h2.out aa b a H' D c q
  |ret v=>exact q
  |brk=>exact q
  |cont=>exact q)⟩
theorem GK(h1:JS X st t):JB X [st] t:=⟨(by
  intro aa s Z H D I h;refine wpAny_execs_cons<|bP (h1.out aa s Z H D I h) fun f a q=>?_;cases f with
  |next=>exact h8 q
  |ret v=>exact q
  |brk=>exact q
  |cont=>exact q)⟩
theorem Ki:JS X (.Pass pos) NV:=⟨(fun _ _ Z H _ I h=>wpAny_Pass ⟨Z,H,I,h⟩)⟩
section
variable{pos:Pos}{st:SU}{rest:List SU}
theorem ahJ:JS X (.Break pos) Tf:=⟨aie⟩
end
theorem aot(a:JE X e te)(hs:Uw e U pos.line X.env=pure η<|>Rv):JS X (.Expr e pos)<|GP te:=⟨L9 a.out hs⟩
theorem Fh(a:JE X e te):JS X (.Return (J e) pos)<|Xw te:=⟨(by
  intro aa s Z H D I h;exact wpAny_Return_some (bP (a.out aa s Z H _ I h) fun v d c=>jZ c fun x H1 b r1 q1=>⟨x,Z,H1,b,r1,q1⟩))⟩
theorem Kc:JS X (.Return U pos) aaA:=⟨(fun _ _ Z H _ I h=>wpAny_Return_none ⟨.S9,Z,H,I,rfl,h⟩)⟩
theorem N6(e:JT X c tc)(f:JB X a t)(g:JB X b u):JS X (.If c a b pos)<|abO tc t u:=⟨(by
  intro aa s Z H D I h;refine wpAny_If<|bP (e.out aa s Z H _ I h) ?_;rintro d s1⟨H1,I1,q1⟩;cases d with
  |true=>exact f.out aa s1 Z H1 D I1 q1
  |false=>exact g.out aa s1 Z H1 D I1 q1)⟩
theorem pw{pos':Pos}(a:X.N.Nodup)(f:Loc X.env.scope x)(b:JE X e te)(d:X.N[i]?=J x<|>Rv)(hs:Uw e (J<|.Name x pos') pos.line X.env=pure η<|>Rv)(c:#[1]<|>XN):
  JS X (.Assign [.Name x pos'] e pos) (AL te<|ml i):=⟨Rc a d f b.out hs c⟩
section
variable{pos:Pos}{st:SU}{rest:List SU}
theorem R2(a:JE X e te)(b:JG X tg g)(hs:swapsWithSole [tg] e pos.line X.env=pure η<|>Rv)(hw:swappedStores [tg] e X.env=pure U<|>Rv)
  (h1:(assignEach [tg] X.env).map (·.2)=[assign tg X.env]<|>Rv):JS X (.Assign [tg] e pos)<|AL te g:=⟨ah1 a.out b.out hs hw h1⟩
end
section
variable{pos:Pos}{st:SU}{rest:List SU}
theorem R1{t:E9}(a:JE X o to)(c:JE X i ti)(hs:E8 X t)
  (b:∀v,assign (.Subscript o i pos) X.env v=(do
   let ov <-holding [v] (eval o X.env)
   let iv <-holding [v,ov] (eval i X.env)
   standAt pos
   holding [v,ov,iv] (setItem ov iv v)
   release [v,ov,iv] []):=by intro _;rfl):JG X (.Subscript o i pos) (VZ to ti t):=⟨ah0 a.out c.out hs b⟩
end
theorem QE(d:zJ #[0] X.A X.env X.xe)(c:JI X tg iter wi)(b:JG X tg g)(e:JB X body tb)(a:X.calm=G<|>Rv)
  (hs:(∀x,pg iter X.env x=pure x)<|>uN):JS X (.For tg iter body [] pos)<|Uz wi g tb:=⟨OL d a c.out b.out e.out hs⟩
theorem yn(e:zJ #[0] X.A X.env X.xe)(j:JT X c tc)(k:JB X body tb):JS X (.While c body [] pos)<|Rk tc tb:=⟨(by
  intro aa s Z H D I h;obtain⟨W,⟨i,g⟩,oO⟩:=h;refine wpAny_While<|codeAny_whileLoop (fun n s'=>∃a H',Inv X aa a H' s'/\W n a H') ?_ i ⟨Z,H,I,g⟩;rintro n s1 ⟨σ1,H1,I1,w1⟩;refine eN e<|bP (j.out aa s1 σ1 H1 _ I1<|oO n σ1 H1 w1) ?_;rintro b s2⟨H2,I2,q2⟩;cases b with
  |true=>
   obtain⟨N,hN,q2⟩:=q2
   refine eN e<|bP (k.out aa s2 σ1 H2 _ I2 q2) fun f l d=>?_;cases f with
   |next=>
    obtain⟨σ3,H3,I3,n3⟩:=d
    obtain⟨m',hm,w3⟩:=hN σ3 H3 n3
    exact⟨m',hm,σ3,H3,I3,w3⟩
   |cont=>
    obtain⟨σ3,H3,I3,n3⟩:=d
    obtain⟨m',hm,w3⟩:=hN σ3 H3 n3
    exact⟨m',hm,σ3,H3,I3,w3⟩
   |brk=>exact d
   |ret v=>exact d
  |false=>
   exact h8 ⟨σ1,H2,I2,q2⟩)⟩
end
section
variable{K:aT}
theorem UD.Wx{st:SU}(F:UD K x qual st f fd)(S:Vr N ps<|ai st)(len:∀vs H Q E,sp vs H Q E->vs.length=ps.length)
  (c:∀(b:nE)(_:Ea K b qual=G)(A:Tx)(a:List Env)(s:ID)(H:Hp)(vs:Se)(Q:VK)(E:XK),TZ k (A.deeper<|W7 qual (ai st) s.heap.objs.size f b)->sp vs H Q E ->
   ∃t,JB (gw lD P w K mg base N qual (ai st) f b A a s H E).Xe (bL st) t/\t {nx:=fun _ H'=>Q .S9 H',rt:=Q} (start N vs) H):T8 P w K mg base lD (k+1) f fd ps sp:=
 F.ok S len fun b e A a s H vs Q E d h=>let⟨t,h1,h2⟩:=c b e A a s H vs Q E d h;⟨t,h1.out,h2⟩
end
theorem JE.imp(h:JE X e t)(i:∀Z H Q,t' Z H Q->t Z H Q):JE X e t':=⟨h.out.imp i⟩
theorem JT.imp(h:JT X e t)(i:∀Z H Q,t' Z H Q->t Z H Q):JT X e t':=⟨fun aa s Z H Q I q=>h.out aa s Z H Q I<|i Z H Q q⟩
theorem JW.imp(h:JW X e t)(i:∀Z H Q,t' Z H Q->t Z H Q):JW X e t':=⟨fun w aa s Z H Q I q=>h.out w aa s Z H Q I<|i Z H Q q⟩
theorem JA.imp(h:JA X es t)(i:∀Z H Q,t' Z H Q->t Z H Q):JA X es t':=⟨fun pos aa s Z H Q I q=>h.out pos aa s Z H Q I<|i Z H Q q⟩
theorem JS.imp{st:SU}(h:JS X st t)(i:∀D Z H,t' D Z H->t D Z H):JS X st t':=⟨fun aa s Z H D I q=>h.out aa s Z H D I<|i D Z H q⟩
theorem JB.imp{st:List SU}(h:JB X st t)(i:∀D Z H,t' D Z H->t D Z H):JB X st t':=⟨fun aa s Z H D I q=>h.out aa s Z H D I<|i D Z H q⟩
theorem JG.imp(h:JG X e t)(i:∀v Z H Q,t' v Z H Q->t v Z H Q):JG X e t':=⟨fun aa s Z H v u Q I r q=>h.out aa s Z H v u Q I r<|i v Z H Q q⟩
theorem YW.imp(h:YW X es t)(i:∀v Z H Q,t' v Z H Q->t v Z H Q):YW X es t':=⟨fun aa s Z H v u Q I r q=>h.out aa s Z H v u Q I r<|i v Z H Q q⟩
theorem JI.imp(h:JI X tg e t)(i:∀Z H R,t' Z H R->t Z H R):JI X tg e t':=⟨fun aa s Z H R I q=>h.out aa s Z H R I<|i Z H R q⟩
theorem JO.imp(h:JO X e t)(i:∀Z H Q,t' Z H Q->t Z H Q):JO X e t':=⟨fun aa s Z H Q I q=>h.out aa s Z H Q I<|i Z H Q q⟩
theorem Yq.imp(h:Yq X es t)(i:∀Z H Q,t' Z H Q->t Z H Q):Yq X es t':=⟨fun aa s Z H Q I q=>h.out aa s Z H Q I<|i Z H Q q⟩
inductive D where
 |S9|bl (b:Bool)|int (i:Int)|str (x:Str)|ty (n:String)
 |lst (xs:List D)|tup (xs:List D)|Xx (kvs:List<|Key×D)|obj (x:Str) (fs:List<|Str×D)
 /-- an exception that was caught,by aV class's name;a class of the text -/
 |jT (x:Str)|cls (x:Str)
 /-- a list of which it is qm that it was laid anew (it may be changed) -/
 |WK (xs:List D)
 /-- a dict that is not changed any more -/
 |fu (kvs:List<|Key×D)
abbrev Rx:=List D
def ls(a C:SA):HO:=.ext fun h=>∃o vs,h.get? a=J o/\o.cls=.ref C/\o.dict=U/\o.data=.fields vs
section
variable(K:aT)(H:Hp)
mutual
def bQ:D->V->Prop
 |.S9,v=>v=.S9
 |.bl b,v=>v=.bl b
 |.int i,v=>v=.int i
 |.str x,v=>v=.str x
 |.ty n,v=>v=.ty n
 |.lst ds,v=>∃a xs,v=.ref a/\gr K H a xs/\ay ds xs
 |.tup ds,v=>∃a xs,v=.ref a/\m7 K H a xs/\ay ds xs
 |.Xx ds,v=>∃a xs,v=.ref a/\H a=J (.dK xs)/\pK ds xs
 |.obj x fs,v=>∃a C c xs,v=.ref a/\DO K By x=J (J<|.ref C)/\H a=J (.ins C c xs)/\qS fs xs
 |.jT x,v=>∃a C,v=.ref a/\DO K By x=J (J<|.ref C)/\H a=J (ls a C)
 |.cls x,v=>∃C,v=.ref C/\DO K By x=J (J<|.ref C)
 |.WK ds,v=>∃a xs,v=.ref a/\H a=J (.lst xs)/\ay ds xs
 |.fu ds,v=>∃a o xs,v=.ref a/\H a=J (.WC o<|.dK xs)/\pK ds xs
def ay:Rx->Se->Prop
 |[],xs=>xs=[]
 |d::ds,xs=>∃v vs,xs=v::vs/\bQ d v/\ay ds vs
def pK:List (Key×D)->List (Key×V)->Prop
 |[],xs=>xs=[]
 |(k,d)::ds,xs=>∃v vs,xs=(k,v)::vs/\bQ d v/\pK ds vs
def qS:List (Str×D)->List (Str×V)->Prop
 |[],xs=>xs=[]
 |(k,d)::ds,xs=>∃v vs,xs=(k,v)::vs/\bQ d v/\qS ds vs
end
theorem ah.rd{H H':Hp}(s:ah H H')(h:Rd H a u):Rd H' a u:=by
 rcases h with h|⟨o,h⟩
 .exact .inl (s _ _ h)
 .exact .inr ⟨o,s _ _ h⟩
end
section
variable{K:aT}{H H':Hp}
mutual
theorem bQ.mono(s:ah H H'):∀{d:D}{v:V},bQ K H d v->bQ K H' d v
 |.S9,_,h=>h
 |.bl _,_,h=>h
 |.int _,_,h=>h
 |.str _,_,h=>h
 |.ty _,_,h=>h
 |.lst ds,_,⟨a,xs,e,h1,h2⟩=>⟨a,xs,e,s.seq h1,ay.mono s h2⟩
 |.tup ds,_,⟨a,xs,e,h1,h2⟩=>⟨a,xs,e,s.Wt h1,ay.mono s h2⟩
 |.Xx ds,_,⟨a,xs,e,h1,h2⟩=>⟨a,xs,e,s _ _ h1,pK.mono s h2⟩
 |.obj x ds,_,⟨a,C,dx,xs,e,h0,h1,h2⟩=>⟨a,C,dx,xs,e,h0,s _ _ h1,qS.mono s h2⟩
 |.jT _,_,⟨a,C,e,h1,h2⟩=>⟨a,C,e,h1,s _ _ h2⟩
 |.cls _,_,h=>h
 |.WK ds,_,⟨a,xs,e,h1,h2⟩=>⟨a,xs,e,s _ _ h1,ay.mono s h2⟩
 |.fu ds,_,⟨a,o,xs,e,h1,h2⟩=>⟨a,o,xs,e,s _ _ h1,pK.mono s h2⟩
theorem ay.mono(s:ah H H'):∀{d:Rx}{v:Se},ay K H d v->ay K H' d v
 |[],_,h=>h
 |d::ds,_,⟨v,vs,e,h1,h2⟩=>⟨v,vs,e,bQ.mono s h1,ay.mono s h2⟩
theorem pK.mono(s:ah H H'):∀{d:List<|Key×D}{v:List<|Key×V},pK K H d v->pK K H' d v
 |[],_,h=>h
 |(k,d)::ds,_,⟨v,vs,e,h1,h2⟩=>⟨v,vs,e,bQ.mono s h1,pK.mono s h2⟩
theorem qS.mono(s:ah H H'):∀{d:List<|Str×D}{v:List<|Str×V},qS K H d v->qS K H' d v
 |[],_,h=>h
 |(k,d)::ds,_,⟨v,vs,e,h1,h2⟩=>⟨v,vs,e,bQ.mono s h1,qS.mono s h2⟩
end
theorem ay.len:∀{ds:Rx}{xs:Se},ay K H ds xs->ds.length=xs.length:=@TB _ _ (@fun _ h=>by subst h;rfl) fun d ds i_=>@fun _ q1_=>Tw q1_ fun v vs e h1 h2=>by subst e;simp[i_ h2]
theorem ay.get:∀{ds:Rx}{xs:Se}{i:Nat}{d:D},ay K H ds xs->ds[i]?=J d->∃v,xs[i]?=J v/\bQ K H d v
 |[],_,_,_,_,e=>by mright
 |d::ds,_,0,_,⟨v,vs,e,h1,h2⟩,q=>by
  mright
 |d::ds,_,i+1,_,⟨v,vs,e,h1,h2⟩,q=>by
  obtain⟨u,b,a⟩:=ay.get h2 (by assumption);mright
theorem ay.got:∀{ds:Rx}{xs:Se}{i:Nat}{v:V},ay K H ds xs->xs[i]?=J v->∃d,ds[i]?=J d/\bQ K H d v
 |[],_,_,_,h,e=>by subst h;mright
 |d::ds,_,0,_,⟨v,vs,e,h1,h2⟩,q=>by
  mright
 |d::ds,_,i+1,_,⟨v,vs,e,h1,h2⟩,q=>by
  subst e;obtain⟨u,b,a⟩:=ay.got h2 (by assumption);mright
theorem ay.nil:ay K H [] []:=rfl
theorem ay.cons(h:bQ K H d v)(t:ay K H ds xs):ay K H (d::ds)<|v::xs:=⟨v,xs,rfl,h,t⟩
theorem ay.append:∀{ds es:Rx}{xs ys:Se},ay K H ds xs->ay K H es ys->ay K H (ds++es) (xs++ys):=@TB _ _ (@fun _ _ _ h t=>by subst h;exact t) fun d ds i_=>@fun _ _ _ q3_ t=>Tw q3_ fun v vs e h1 h2=>by subst e;exact⟨v,_,rfl,h1,i_ h2 t⟩
theorem ay.take:∀{ds:Rx}{xs:Se}(n:Nat),ay K H ds xs->ay K H (ds.take n) (xs.take n)
 |_,_,0,_=>by rfl
 |[],_,n+1,h=>by subst h;exact rfl
 |d::ds,_,n+1,⟨v,vs,e,h1,h2⟩=>by subst e;exact⟨v,_,rfl,h1,ay.take n h2⟩
section
variable{K:aT}{H H':Hp}
theorem ay.drop:∀{ds:Rx}{xs:Se}(n:Nat),ay K H ds xs->ay K H (ds.drop n) (xs.drop n)
 |_,_,0,h=>h
 |[],_,n+1,h=>by nofun;exact rfl
 |d::ds,_,n+1,⟨v,vs,e,h1,h2⟩=>by subst e;exact ay.drop n h2
end
section
variable{K:aT}{H H':Hp}
theorem ay.set{d:D}{v:V}(r:bQ K H d v):∀{ds:Rx}{xs:Se}(i:Nat),ay K H ds xs->ay K H (ds.set i d) (xs.set i v)
 |[],_,_,h=>by nofun;exact rfl
 |d'::ds,_,0,⟨v,vs,e,h1,h2⟩=>by subst e;exact⟨_,_,rfl,r,h2⟩
 |d'::ds,_,i+1,⟨v,vs,e,h1,h2⟩=>by subst e;exact⟨_,_,rfl,h1,ay.set r i h2⟩
end
end
def aj(as:Sf)(H:Hp):Hp:=fun b=>if b∈as then U else H b
theorem bT(h:b∈as):aj as H b=U:=SI h
theorem av(h:b∉as):aj as H b=H b:=SM h
theorem Ge:aj [] H=H:=by funext b;exact SM ∅
theorem aD(as:Sf)(H:Hp):ah (aj as H) H:=fun b o e=>by
 delta aj at e;mright
theorem aA(s:ah H H'):ah (aj as H)<|aj as H':=fun b o e=>by
 delta aj at e⊢;split at e
 .cases e
 .rename_i h;rw[SM h];exact s b o e
theorem t7(as bs:Sf)(H:Hp):aj (as++bs) H=aj bs (aj as H):=by
 funext b
 delta aj
 grind
theorem kD(h:∀a∈bs,a∈as):ah (aj as H)<|aj bs H:=fun b o e=>by
 by_cases c:b∈as
 .rw[bT c]at e;cases e
 .rw[av c]at e;rw[av fun z=>c<|h b z];exact e
theorem lH(s:ah B H)(h:∀a∈as,B a=U):ah B<|aj as H:=fun b o e=>by
 have c:b∉as:=fun z=>by mright
 rw[av c];exact s b o e
inductive R(α:Type) where
 |ok (a:α)
 |er (x:Str)
 |no
noncomputable def R.bind{α β:Type}(r:R α)(f:α->R β):R β:=match r with
 |.ok a=>f a
 |.er x=>.er x
 |.no=>.no
theorem am{a:α}{f:α->R β}:(R.ok a).bind f=f a:=rfl
theorem bind_assoc(r:R α)(f:α->R β)(g:β->R γ):(r.bind f).bind g=r.bind fun a=>(f a).bind g:=by cases r<;>rfl
structure Wd where
 K:aT
 mg:Str->Option nE
 E:XK
abbrev Sd:=List<|Option D
def cP(W:Wd)(as:Sf)(H:Hp)(r:R D)(Q:VK):Prop:=match r with
 |.ok d=>∀v H',ah H H'->bQ W.K (aj as H') d v->Q v H'
 |.er x=>∀e C H',ah H H'->W.mg x=J (.ref C)->W.E e (J C) H'
 |.no=>False
def ib(W:Wd)(as:Sf)(H:Hp)(r:R<|Rx)(Q:Se->Hp->Prop):Prop:=match r with
 |.ok d=>∀v H',ah H H'->ay W.K (aj as H') d v->Q v H'
 |.er x=>∀e C H',ah H H'->W.mg x=J (.ref C)->W.E e (J C) H'
 |.no=>False
def gf{α:Type}(W:Wd)(H:Hp)(r:R α)(Q:α->Hp->Prop):Prop:=match r with
 |.ok b=>∀H',ah H H'->Q b H'
 |.er x=>∀e C H',ah H H'->W.mg x=J (.ref C)->W.E e (J C) H'
 |.no=>False
def kL(K:aT)(H:Hp)(o:HO):D->Prop
 |.lst ds=>∃xs,o=.lst xs/\ay K H ds xs
 |.Xx ds=>∃xs,o=.dK xs/\pK K H ds xs
 |.obj x ds=>∃C a xs,o=.ins C a xs/\DO K By x=J (J<|.ref C)/\qS K H ds xs
 |_=>False
def kX(W:Wd)(as:Sf)(H:Hp)(r:R D)(Q:VK):Prop:=match r with
 |.ok d=>∀p o H',ah H H'->H p=U->H' p=J o->kL W.K (aj (p::as) H') o d->Q (.ref p) H'
 |.er x=>∀e C H',ah H H'->W.mg x=J (.ref C)->W.E e (J C) H'
 |.no=>False
theorem cP.mono(h:cP W as H r Q)(s:ah H H'):cP W as H' r Q:=by
 cases r with
 |ok d=>exact fun v b a=>h v b<|s.trans a
 |er x=>exact fun e C b a=>h e C b<|s.trans a
 |no=>exact h
theorem kX.mono(h:kX W as H r Q)(s:ah H H'):kX W as H' r Q:=by
 cases r with
 |ok d=>exact fun p o b a c=>h p o b (s.trans a)<|s.free c
 |er x=>exact fun e C b a=>h e C b<|s.trans a
 |no=>exact h
theorem ib.mono(h:ib W as H r Q)(s:ah H H'):ib W as H' r Q:=by
 cases r with
 |ok d=>exact fun v b a=>h v b<|s.trans a
 |er x=>exact fun e C b a=>h e C b<|s.trans a
 |no=>exact h
theorem gf.mono{r:R α}{Q:α->Hp->Prop}(h:gf W H r Q)(s:ah H H'):gf W H' r Q:=by
 cases r with
 |ok d=>exact fun b a=>h b<|s.trans a
 |er x=>exact fun e C b a=>h e C b<|s.trans a
 |no=>exact h
theorem kL.den{K:aT}(i:p∉as)(e:H p=J o)(h:kL K (aj (p::as) H) o d):bQ K (aj as H) d<|.ref p:=by
 have s:ah (aj (p::as) H)<|aj as H:=kD fun a f=>ie _ f;have b:aj as H p=J o:=by rw[av i];exact e
 cases d with
 |lst ds=>obtain⟨xs,rfl,h⟩:=h;exact⟨p,xs,rfl,.inl<|.inl b,h.mono s⟩
 |Xx ds=>obtain⟨xs,rfl,h⟩:=h;exact⟨p,xs,rfl,b,h.mono s⟩
 |obj x ds=>obtain⟨C,g,xs,rfl,c,h⟩:=h;exact⟨p,C,g,xs,rfl,c,b,h.mono s⟩
 |_=>mleft
structure DI(K:aT)(as0:Sf)(B:Hp)(O:Ru)(own:Sf)(Z:St)(Y:Sd)(H:Hp):Prop where
 len:Y.length=Z.length
 YU:own.length=O.length
 nd:own.Nodup
 gp:O.Nodup
 fresh:∀a∈own,B a=U
 wz:∀a∈as0,B a≠U
 same:ah B H
 var:∀i d,i∉O->Y[i]?=J (J d)->∃v,Z[i]?=J (J v)/\bQ K (aj (own++as0) H) d v
 Xf:∀i a,(i,a)∈O.zip own->∃d o,Y[i]?=J (J d)/\Z[i]?=J (J<|.ref a)/\H a=J o/\kL K (aj (own++as0) H) o d
section
variable{K:aT}
theorem kL.mono(s:ah H H')(h:kL K H o d):kL K H' o d:=by
 cases d with
 |lst ds=>obtain⟨xs,rfl,h⟩:=h;exact⟨xs,rfl,h.mono s⟩
 |Xx ds=>obtain⟨xs,rfl,h⟩:=h;exact⟨xs,rfl,h.mono s⟩
 |obj x ds=>obtain⟨C,a,xs,rfl,b,h⟩:=h;exact⟨C,a,xs,rfl,b,h.mono s⟩
 |_=>mleft
theorem uV:∀{O:Ru}{own:Sf}{a:SA},own.length=O.length->a∈own->∃i,(i,a)∈O.zip own
 |[],[],_,_,h=>by nofun
 |i::O,b::own,a,l,h=>by
  rcases eQ.mp h with rfl|h
  .simp
  .obtain⟨j,c⟩:=uV (by simpa using l) h;exact⟨j,ie _ c⟩
 |[],_::_,_,l,_=>by mright
 |_::_,[],_,_,h=>by nofun
theorem DI.Vq(I:DI K as0 B O own Z Y H):∀a∈own++as0,H a≠U:=fun a b=>by
 rcases BY.mp b with h|h
 .obtain⟨i,hi⟩:=uV I.YU h
  obtain⟨d,o,_,_,e,_⟩:=I.Xf i a hi;rw[e];simp
 .cases e:B a with
  |none=>exact absurd e<|I.wz a h
  |some o=>rw[I.same a o e];simp
theorem DI.new(I:DI K as0 B O own Z Y H)(h:H p=U):p∉own++as0:=fun z=>I.Vq p z h
theorem DI.mono(I:DI K as0 B O own Z Y H)(s:ah H H'):DI K as0 B O own Z Y H':=
 ⟨I.len,I.YU,I.nd,I.gp,I.fresh,I.wz,I.same.trans s,fun i d b e=>let⟨v,h1,h2⟩:=I.var i d b e;⟨v,h1,h2.mono<|aA s⟩,
  fun i a b=>let⟨d,o,h1,h2,h3,h4⟩:=I.Xf i a b;⟨d,o,h1,h2,s a o h3,h4.mono (aA s)⟩⟩
theorem DI.base(I:DI K as0 B' O own Z Y H)(s:ah B B')(h:∀a∈as0,B a≠U):DI K as0 B O own Z Y H:=
 ⟨I.len,I.YU,I.nd,I.gp,fun a b=>s.free<|I.fresh a b,h,s.trans I.same,I.var,I.Xf⟩
theorem DI.rebase(I:DI K as0 B O own Z Y H)(c:∀a∈own,a∉as0):DI K as0 (aj own H) O own Z Y H:=
 ⟨I.len,I.YU,I.nd,I.gp,fun a b=>bT b,fun a b=>(by
  rw[av fun z=>c a z b];cases e:B a with
  |none=>exact absurd e<|I.wz a b
  |some o=>rw[I.same a o e];simp),aD _ _,I.var,I.Xf⟩
theorem DI.apart(I:DI K as0 B O own Z Y H):∀a∈own,a∉as0:=fun a b z=>I.wz a z<|I.fresh a b
theorem DI.wk(I:DI K as0 B O own Z Y H):ah B<|aj own H:=lH I.same I.fresh
end
abbrev FE:=Sd->R D
abbrev FT:=Sd->R Bool
abbrev FA:=Sd->R (Rx)
def tD(W:Wd)(O:Ru)(φ:FE):TE:=fun Z H Q=>∃as0 B own Y,DI W.K as0 B O own Z Y H/\cP W (own++as0) H (φ Y) Q
def tN(W:Wd)(O:Ru)(φ:FE):TE:=fun Z H Q=>∃as0 B own Y,DI W.K as0 B O own Z Y H/\kX W (own++as0) H (φ Y) Q
def lq(W:Wd)(O:Ru)(φ:FT):TT:=fun Z H Q=>∃as0 B own Y,DI W.K as0 B O own Z Y H/\gf W H (φ Y) Q
def zx(W:Wd)(O:Ru)(φ:FA):TA:=fun Z H Q=>∃as0 B own Y,DI W.K as0 B O own Z Y H/\ib W (own++as0) H (φ Y) Q
def VC(W:Wd)(O:Ru)(φ:Sd->R (Option Int)):TO:=fun Z H Q=>∃as0 B own Y,DI W.K as0 B O own Z Y H/\gf W H (φ Y) Q
section
theorem aY(h:cP W as H (r.bind f) Q)(q:∀d v H',ah H H'->bQ W.K (aj as H') d v->cP W as H' (f d) Q->Q' v H'):cP W as H r Q':=by
 cases r with
 |ok d=>exact fun v H' s a=>q d v H' s a<|cP.mono h s
 |er x=>exact h
 |no=>exact h
theorem e9(h:cP W as H (r.bind f) Q)(q:∀d v H',ah H H'->ay W.K (aj as H') d v->cP W as H' (f d) Q->Q' v H'):ib W as H r Q':=by
 cases r with
 |ok d=>exact fun v H' s a=>q d v H' s a<|cP.mono h s
 |er x=>exact h
 |no=>exact h
theorem alo(h:kX W as H (r.bind f) Q)(q:∀d v H',ah H H'->ay W.K (aj as H') d v->kX W as H' (f d) Q->Q' v H'):ib W as H r Q':=by
 cases r with
 |ok d=>exact fun v H' s a=>q d v H' s a<|kX.mono h s
 |er x=>exact h
 |no=>exact h
theorem mM{r:R α}{f:α->R D}{Q':α->Hp->Prop}(h:cP W as H (r.bind f) Q)(q:∀d H',ah H H'->cP W as H' (f d) Q->Q' d H'):gf W H r Q':=by
 cases r with
 |ok d=>exact fun H' s=>q d H' s<|cP.mono h s
 |er x=>exact h
 |no=>exact h
theorem gC{f:D->R α}{Q:α->Hp->Prop}(h:gf W H (r.bind f) Q)(q:∀d v H',ah H H'->bQ W.K (aj as H') d v->gf W H' (f d) Q->Q' v H'):cP W as H r Q':=by
 cases r with
 |ok d=>exact fun v H' s a=>q d v H' s a<|gf.mono h s
 |er x=>exact h
 |no=>exact h
theorem kj{r:R α}{f:α->R β}{Q:β->Hp->Prop}{Q':α->Hp->Prop}(h:gf W H (r.bind f) Q)(q:∀d H',ah H H'->gf W H' (f d) Q->Q' d H'):gf W H r Q':=by
 cases r with
 |ok d=>exact fun H' s=>q d H' s<|gf.mono h s
 |er x=>exact h
 |no=>exact h
theorem afh{Q:Se->Hp->Prop}(h:ib W as H (r.bind f) Q)(q:∀d v H',ah H H'->bQ W.K (aj as H') d v->ib W as H' (f d) Q->Q' v H'):cP W as H r Q':=by
 cases r with
 |ok d=>exact fun v H' s a=>q d v H' s a<|ib.mono h s
 |er x=>exact h
 |no=>exact h
theorem Z54{Q Q':Se->Hp->Prop}(h:ib W as H (r.bind f) Q)(q:∀d v H',ah H H'->ay W.K (aj as H') d v->ib W as H' (f d) Q->Q' v H'):ib W as H r Q':=by
 cases r with
 |ok d=>exact fun v H' s a=>q d v H' s a<|ib.mono h s
 |er x=>exact h
 |no=>exact h
end
section
variable{X:Cx}{W:Wd}{O:Ru}{a b c e:Ry}{φ ψ χ:FE}{pos:Pos}{rest es:List Ry}{α:FA}
noncomputable def ag(i:Nat):FE:=fun Y=>match Y[i]? with
 |some (J d)=>.ok d
 |_=>.no
def vC(d:D):FE:=fun _=>.ok d
theorem Mv(i:Nat)(c:i∉O<|>Sm)(b:X.N[i]?=J x<|>Rv)(f:m6 X.env.scope x<|>uO)(hd:TN x<|>Sm)
  (a:#[2]=η<|>Sm):JE X (.Name x pos)<|tD W O<|ag i:=(jv i b f hd a).imp fun Z H Q g=>dQ g fun as0 B own Y I h=>by
 delta ag at h;cbv
 .rename_i d e;obtain⟨v,h1,h2⟩:=I.var i d c e
  show m8 Z[i]? H Q;rw[h1];exact h v H (ah.refl H) h2
 .mleft
theorem MR:JE X (.Constant (.int i) j pos)<|tD W O<|vC<|.int i:=aab.imp fun Z H Q a=>dQ a fun as0 B own Y I h=>h _ H (ah.refl H) rfl
theorem HB{b j}:JE X (.Constant (.bool b) j pos)<|tD W O<|vC<|.bl b:=lsm.imp fun Z H Q a=>dQ a fun as0 B own Y I h=>h _ H (ah.refl H) rfl
theorem NO:JE X (.Constant .none j pos)<|tD W O<|vC .S9:=akQ.imp fun Z H Q a=>dQ a fun as0 B own Y I h=>h _ H (ah.refl H) rfl
theorem Mt:JE X (.Constant (.str x) j pos)<|tD W O<|vC<|.str x:=HA.imp fun Z H Q a=>dQ a fun as0 B own Y I h=>h _ H (ah.refl H) rfl
theorem Oy(b:X.mg x=J u)(r:aP v u)(hd:∀H,bQ W.K H d v)(c:Gl X x<|>Rv)(a:TN x<|>Sm):JE X (.Name x pos)<|tD W O<|vC d:=
 (OC b r c a).imp fun Z H Q e=>dQ e fun as0 B own Y I h=>h _ H (ah.refl H)<|hd _
theorem Iz(a:X.mg x=U)(c:Vl x=J (.type n))(b:Gl X x<|>Rv)(e:(x≠"__name__")<|>Sm)(hd:TN x<|>Sm):JE X (.Name x pos)<|tD W O<|vC<|.ty n:=
 (frf a c b e hd).imp fun Z H Q d=>dQ d fun as0 B own Y I h=>h _ H (ah.refl H) rfl
def wo(W:Wd)(r:UL)(c:D->D->R D):Prop:=∀(as:Sf)(H:Hp)(x y:V)(a b:D)(Q:VK),(∀p,H p=U->p∉as)->bQ W.K (aj as H) a x->bQ W.K (aj as H) b y->cP W as H (c a b) Q->r x y H Q
def aH(a:D->D->R D)(φ ψ:FE):FE:=fun Y=>(φ Y).bind fun x=>(ψ Y).bind fun y=>a x y
theorem IG(i:∀{ta tb:TE},JE X a ta->JE X b tb->JE X e (t ta tb))(g:t=NB r)(n:wo W r op)(o:JE X a<|tD W O φ)(q:JE X b<|tD W O ψ):JE X e<|tD W O<|aH op φ ψ:=by
 subst g;refine(i o q).imp fun Z H Q j=>dQ j fun as0 B own Y I h=>⟨as0,B,own,Y,I,aY h fun x v H1 c m h1=>⟨as0,B,own,Y,I.mono c,aY h1 fun y u l d f h2=>?_⟩⟩;exact n (own++as0) l v u x y Q (fun p k=>((I.mono c).mono d).new k) (m.mono<|aA d) f h2
theorem Tj(d:DX X r)(hd:wo W r g)(c:JE X a<|tD W O φ)(e:JE X b<|tD W O ψ)(hs:rh b<|>k7):JE X (.Subscript a b pos)<|tD W O<|aH g φ ψ:=
 IG (fun h1 h2=>aaa d h1 h2 hs) rfl hd c e
def YB(W:Wd)(r:V->Hp->VK->Prop)(b:D->R D):Prop:=∀(as:Sf)(H:Hp)(x:V)(a:D)(Q:VK),bQ W.K (aj as H) a x->cP W as H (b a) Q->r x H Q
def zz(a:D->R D)(φ:FE):FE:=fun Y=>(φ Y).bind a
theorem abg(d:KD X (unaryOp op) r)(hd:YB W r g)(e:JE X a<|tD W O φ):JE X (.UnaryOp op a pos)<|tD W O<|zz g φ:=
 (Z26 d e).imp fun Z H Q b=>dQ b fun as0 B own Y I h=>⟨as0,B,own,Y,I,aY h fun x v H1 f c h1=>hd (own++as0) H1 v x Q c h1⟩
noncomputable def Ni{α:Type}(d:D)(f:Bool->R α):R α:=match d with
 |.bl b=>f b
 |_=>.no
def Oz(φ:FE):FE:=fun Y=>(φ Y).bind fun x=>Ni x fun b=>.ok<|.bl<|!b
def GS(φ ψ:FE):FE:=fun Y=>(φ Y).bind fun x=>Ni x fun b=>if b=G then ψ Y else .ok (.bl η)
def Jn(φ ψ:FE):FE:=fun Y=>(φ Y).bind fun x=>Ni x fun b=>if b=G then .ok (.bl G)else ψ Y
theorem Xax(c:JE X a<|tD W O φ):JE X (.UnaryOp .Not a pos)<|tD W O<|Oz φ:=
 (abh c).imp fun Z H Q d=>dQ d fun as0 B own Y I h=>⟨as0,B,own,Y,I,aY h fun x v H1 f e h1=>by
  cases x with
  |bl b=>subst e;exact h1 _ H1 (ah.refl _) rfl
  |_=>exact h1.elim⟩
theorem Ij(h:JE X a<|tD W O φ):JE X (.BoolOp op [a] pos)<|tD W O φ:=(⟨O4 h.out⟩)
theorem Uf(f:JE X a<|tD W O φ)(g:JE X (.BoolOp .And (b::rest) pos)<|tD W O ψ):JE X (.BoolOp .And (a::b::rest) pos)<|tD W O<|GS φ ψ:=
 (afx f g).imp fun Z H Q c=>dQ c fun as0 B own Y I h=>⟨as0,B,own,Y,I,aY h fun x v H1 d e h1=>by
  cases x with
  |bl b=>
   subst e;cases b with
   |true=>exact⟨as0,B,own,Y,I.mono d,h1⟩
   |false=>exact h1 _ H1 (ah.refl _) rfl
  |_=>exact h1.elim⟩
theorem abJ(f:JE X a<|tD W O φ)(g:JE X (.BoolOp .Or (b::rest) pos)<|tD W O ψ):JE X (.BoolOp .Or (a::b::rest) pos)<|tD W O<|Jn φ ψ:=
 (abk f g).imp fun Z H Q c=>dQ c fun as0 B own Y I h=>⟨as0,B,own,Y,I,aY h fun x v H1 d e h1=>by
  cases x with
  |bl b=>
   subst e;cases b with
   |false=>exact⟨as0,B,own,Y,I.mono d,h1⟩
   |true=>exact h1 _ H1 (ah.refl _) rfl
  |_=>exact h1.elim⟩
variable{τ υ:FT}
def dC(φ:FE):FT:=fun Y=>(φ Y).bind fun x=>Ni x .ok
theorem Qi(A:eJ X (UI op) r)(hd:wo W r g)(C:JE X a<|tD W O φ)(D:JE X b<|tD W O ψ)(j:t8 op b=η):JT X (.Compare a [op] [b] pos)<|lq W O<|dC<|aH g φ ψ:=by
 refine(QJ A C D j).imp fun Z H Q m=>dQ m fun as0 B own Y I h=>?_;have h'  := by
  have e:dC (aH g φ ψ) Y=(φ Y).bind fun x=>((ψ Y).bind fun y=>g x y).bind fun x=>Ni x .ok:=by
   delta dC aH;rw[bind_assoc]
  rw[e]at h;exact h
 refine⟨as0,B,own,Y,I,gC h' fun x v H1 d t h1=>?_⟩;have c:gf W H1 ((ψ Y).bind fun y=>(g x y).bind fun x=>Ni x .ok) Q:=by rw[<-bind_assoc];exact h1
 refine⟨as0,B,own,Y,I.mono d,gC c fun y u s i l h2=>?_⟩;refine hd (own++as0) s v u x y _ (fun p n=>((I.mono d).mono i).new n) (t.mono<|aA i) l<|gC h2 fun z w o E q f=>?_;cases z with
 |bl k=>subst q;exact f o<|ah.refl _
 |_=>exact f.elim
noncomputable def L4:D->R Bool
 |.S9=>.ok η
 |.bl b=>.ok b
 |.int i=>.ok<|i != 0
 |.str y=>if y.length<=1000000 then .ok (y.length != 0)else .no
 |.lst xs=>.ok<|!xs.isEmpty
 |.tup xs=>.ok<|!xs.isEmpty
 |.Xx kvs=>.ok<|!kvs.isEmpty
 |_=>.no
theorem ay.empty{K:aT}(h:ay K H ds xs):xs.isEmpty=ds.isEmpty:=by
 cases ds with
 |nil=>subst h;rfl
 |cons d r=>obtain⟨v,vs,rfl,_⟩:=h;rfl
theorem pK.empty{K:aT}(h:pK K H ds xs):xs.isEmpty=ds.isEmpty:=by
 cases ds with
 |nil=>subst h;rfl
 |cons d r=>obtain⟨v,vs,rfl,_⟩:=h;rfl
theorem ck:(1000000:Nat)<=Ta:=by rw[XB];decide
def lP(φ:FE):FT:=fun Y=>(φ Y).bind L4
theorem FH(K:aT)(l:JE X a<|tD W O φ)(k:(∀c,isTrue a X.env c=(do let v <-c;jF a.pos;holding [v] (truthy v)))<|>gK)(j:X.K=K<|>Rv)(f:W.K=K<|>Rv):JT X a<|lq W O<|lP φ:=
 (yR K l k j).imp fun Z H Q g=>dQ g fun as0 B own Y I h=>⟨as0,B,own,Y,I,gC h fun x v H1 m d h1=>by
  subst f;cases x with
  |S9=>subst d;exact h1 H1<|ah.refl _
  |bl b=>subst d;exact h1 H1<|ah.refl _
  |int i=>subst d;exact h1 H1<|ah.refl _
  |str y=>
   subst d;have h2:gf W H1 (if y.length<=1000000 then R.ok (y.length != 0)else R.no) Q:=h1;split at h2
   .rename_i hl;refine⟨RW hl ck,?_⟩;have e:((y.length:Int) != 0)=(y.length != 0):=by
     lia
    rw[e];exact h2 H1<|ah.refl _
   .exact h2.elim
  |lst ds=>
   obtain⟨p,xs,rfl,q1,q2⟩:=d;refine .inl (.inl ⟨xs,(aD _ _).seq q1,?_⟩);rw[q2.empty];exact h1 H1<|ah.refl _
  |tup ds=>
   obtain⟨p,xs,rfl,q1,q2⟩:=d;refine .inl (.inr ⟨xs,(aD _ _).Wt q1,?_⟩);rw[q2.empty];exact h1 H1<|ah.refl _
  |Xx ds=>
   obtain⟨p,xs,rfl,q1,q2⟩:=d;refine .inr ⟨xs,aD _ _ _ _ q1,?_⟩;rw[q2.empty];exact h1 H1<|ah.refl _
  |_=>exact h1.elim⟩
def mQ(τ υ:FT):FT:=fun Y=>(τ Y).bind fun b=>if b=G then υ Y else .ok η
def KF(τ υ:FT):FT:=fun Y=>(τ Y).bind fun b=>if b=G then .ok G else υ Y
def qN(τ:FT):FT:=fun Y=>(τ Y).bind fun b=>.ok<|!b
theorem CN(h:JW X a<|lq W O τ):JT X a<|lq W O τ:=Cc h
theorem Om(e:JT X a<|lq W O τ)(g:JW X (.BoolOp .And (b::rest) pos)<|lq W O υ):JW X (.BoolOp .And (a::b::rest) pos)<|lq W O<|mQ τ υ:=
 (Hq e g).imp fun Z H Q f=>dQ f fun as0 B own Y I h=>⟨as0,B,own,Y,I,kj h fun c H1 d h1=>by
  cases c with
  |true=>exact⟨as0,B,own,Y,I.mono d,h1⟩
  |false=>exact h1 H1 (ah.refl _)⟩
theorem aaT(e:JT X a<|lq W O τ)(g:JW X (.BoolOp .Or (b::rest) pos)<|lq W O υ):JW X (.BoolOp .Or (a::b::rest) pos)<|lq W O<|KF τ υ:=
 (MC e g).imp fun Z H Q f=>dQ f fun as0 B own Y I h=>⟨as0,B,own,Y,I,kj h fun c H1 d h1=>by
  cases c with
  |false=>exact⟨as0,B,own,Y,I.mono d,h1⟩
  |true=>exact h1 H1 (ah.refl _)⟩
theorem Px(b:JT X a<|lq W O τ):JT X (.UnaryOp .Not a pos)<|lq W O<|qN τ:=
 (GZ b).imp fun Z H Q d=>dQ d fun as0 B own Y I h=>⟨as0,B,own,Y,I,kj h fun c H1 e h1=>h1 H1<|ah.refl _⟩
def MU(τ:FT)(φ ψ:FE):FE:=fun Y=>(τ Y).bind fun b=>if b=G then φ Y else ψ Y
theorem aaG(e:JT X c<|lq W O τ)(f:JE X a<|tD W O φ)(i:JE X b<|tD W O ψ):JE X (.IfExp c a b pos)<|tD W O<|MU τ φ ψ:=
 (N9 e f i).imp fun Z H Q g=>dQ g fun as0 B own Y I h=>⟨as0,B,own,Y,I,mM h fun c H1 d h1=>by
  cases c with
  |true=>exact⟨as0,B,own,Y,I.mono d,h1⟩
  |false=>exact⟨as0,B,own,Y,I.mono d,h1⟩⟩
def aQ:FA:=fun _=>.ok []
def ak(φ:FE)(α:FA):FA:=fun Y=>(φ Y).bind fun d=>(α Y).bind fun ds=>.ok<|d::ds
theorem Fn:JA X []<|zx W O aQ:=eD.imp fun Z H Q a=>dQ a fun as0 B own Y I h=>h [] H (ah.refl _) rfl
theorem Bx(k:JE X e<|tD W O φ)(b:JA X es<|zx W O α)(j:al e=G<|>Rv):JA X (e::es)<|zx W O<|ak φ α:=
 (bU k b j).imp fun Z H Q c=>dQ c fun as0 B own Y I h=>⟨as0,B,own,Y,I,afh h fun d v H1 f i h1=>⟨as0,B,own,Y,I.mono f,Z54 h1 fun ds vs g l a h2=>
  h2 (v::vs) g (ah.refl _) ⟨v,vs,rfl,i.mono (aA l),a⟩⟩⟩
def yA(ds:Rx):R D:=if ds.length<=1000000 then .ok (.lst ds)else .no
def Bc(ds:Rx):R D:=if ds.length<=1000000 then .ok (.tup ds)else .no
def uw(α:FA):FE:=fun Y=>(α Y).bind yA
def uD(α:FA):FE:=fun Y=>(α Y).bind Bc
theorem Dz(h:kX W as H (yA ds) Q)(hd:ay W.K (aj as H) ds xs):xs.length<=Ta/\∀p,H p=U->Q (.ref p) (br H p<|.lst xs):=by
 delta yA at h;cbv
 .rename_i hl;refine⟨by rw[<-hd.len];exact RW hl ck,fun p c=>?_⟩;refine h p (.lst xs) (br H p<|.lst xs) (bR c _) c aE ⟨xs,rfl,hd.mono ?_⟩;intro b o e;have d:b≠p:=fun z=>by
   subst z
   have:=aD _ _ _ _ e
   rw[c]at this;cases this
  by_cases a:b∈as
  .rw[bT a]at e;cases e
  .rw[av a]at e;rw[av<|by simp[d,a],aG d];exact e
 .mleft
theorem Uv(h:JA X es<|zx W O α):JE X (.List es pos)<|tN W O<|uw α:=
 (Hi h).imp fun Z H Q a=>dQ a fun as0 B own Y I h=>⟨as0,B,own,Y,I,alo h fun ds xs H1 c b h1=>Dz h1 b⟩
theorem FQ(h:JE X e<|tN W O φ):JE X e<|tD W O φ:=h.imp fun Z H Q a=>dQ a fun as0 B own Y I q=>by
 refine⟨as0,B,own,Y,I,?_⟩;cases hr:φ Y with
 |ok d=>
  rw[hr]at q;exact fun p o H' s b e c=>q (.ref p) H' s<|c.den (I.new b) e
 |er x=>rw[hr]at q;exact q
 |no=>rw[hr]at q;exact q
theorem NQ(h:JA X es<|zx W O α):JE X (.Tuple es x1 pos)<|tD W O<|uD α:=
 (Ci h).imp fun Z H Q c=>dQ c fun as0 B own Y I h=>⟨as0,B,own,Y,I,e9 h fun ds xs H1 d b h1=>by
  delta Bc at h1;split at h1
  .rename_i hl;refine⟨by rw[<-b.len];exact RW hl ck,fun p a=>?_⟩;have e:=(I.mono d).new a;refine h1 (.ref p) (br H1 p<|.tup xs) (bR a _) ⟨p,xs,rfl,.inl<|.inl ?_,b.mono<|aA<|bR a _⟩;rw[av e];exact aE
  .exact h1.elim⟩
section
variable{X:Cx}{W:Wd}{O:Ru}{a b c e:Ry}{φ ψ χ:FE}{pos:Pos}{rest es:List Ry}{α:FA}
def Cw(W:Wd)(r:Se->Hp->VK->Prop)(g:Rx->R D):Prop:=∀(as:Sf)(H:Hp)(xs:Se)(ds:Rx)(Q:VK),(∀a∈as,H a≠U)->ay W.K (aj as H) ds xs->cP W as H (g ds) Q->r xs H Q
end
def nU(W:Wd)(r:Se->Hp->VK->Prop)(g:Rx->R D):Prop:=∀(as:Sf)(H:Hp)(xs:Se)(ds:Rx)(Q:VK),(∀a∈as,H a≠U)->ay W.K (aj as H) ds xs->cP W as H (g ds) Q->r xs H Q
def aI(g:Rx->R D)(α:FA):FE:=fun Y=>(α Y).bind g
section
variable{p:Pos}{id:String}
theorem Kw(j:bI X (.builtin id) r)(hd:nU W r g)(b:X.mg x=U)(m:Vl x=J (.builtin id))(l:JA X (e::es)<|zx W O α)(c:Gl X x<|>Rv)(h1:al e=G<|>Rv)(h2:es.all al=G<|>Rv)(k:(x≠"__name__")<|>Sm)(a:TN x<|>Sm):
  JE X #[3] (tD W O<|aI g α):=
 (AX j b m l c h1 h2 k a).imp fun Z H Q d=>dQ d fun as0 B own Y I h=>⟨as0,B,own,Y,I,e9 h fun ds xs H1 f i h1=>hd (own++as0) H1 xs ds Q (I.mono f).Vq i h1⟩
theorem Ku(j:bI X (.type T) r)(hd:nU W r g)(b:X.mg x=U)(m:Vl x=J (.type T))(l:JA X (e::es)<|zx W O α)(c:Gl X x<|>Rv)(h1:al e=G<|>Rv)(h2:es.all al=G<|>Rv)(k:(x≠"__name__")<|>Sm)(a:TN x<|>Sm):
  JE X #[3] (tD W O<|aI g α):=
 (BN j b m l c h1 h2 k a).imp fun Z H Q d=>dQ d fun as0 B own Y I h=>⟨as0,B,own,Y,I,e9 h fun ds xs H1 f i h1=>hd (own++as0) H1 xs ds Q (I.mono f).Vq i h1⟩
end
def Hh:Sd->R (Option Int):=fun _=>.ok U
def gI(φ:FE):Sd->R (Option Int):=fun Y=>(φ Y).bind fun d=>match d with
 |.int i=>.ok<|J i
 |_=>.no
theorem rl:JO X U<|VC W O Hh:=Kt.imp fun Z H Q a=>dQ a fun as0 B own Y I h=>h H<|ah.refl _
theorem ro(h:JE X e<|tD W O φ):JO X (J e)<|VC W O<|gI φ:=(Jx h).imp fun Z H Q a=>dQ a fun as0 B own Y I h=>⟨as0,B,own,Y,I,gC h fun d v H1 c b h1=>by
  cases d with
  |int i=>subst b;exact h1 H1<|ah.refl _
  |_=>exact h1.elim⟩
def ZQ(W:Wd)(r:V->Option Int->Option Int->Hp->VK->Prop)(g:D->Option Int->Option Int->R D):Prop:=
 ∀(as:Sf)(H:Hp)(x:V)(lo b:Option Int)(a:D)(Q:VK),(∀p,H p=U->p∉as)->bQ W.K (aj as H) a x->cP W as H (g a lo b) Q->r x lo b H Q
def Jm(g:D->Option Int->Option Int->R D)(φ:FE)(l u:Sd->R (Option Int)):FE:=fun Y=>(φ Y).bind fun x=>(l Y).bind fun lo=>(u Y).bind fun a=>g x lo a
theorem rJ{lo a:Option Ry}(f:V2 X r)(hd:ZQ W r g)(q:JE X e<|tD W O φ)(s:JO X lo<|VC W O l)(n:JO X a<|VC W O u):
  JE X (.Subscript e (.Slice lo a U p2) pos) (tD W O<|Jm g φ l u):=
 (Ml f q s n).imp fun Z H Q i=>dQ i fun as0 B own Y I h=>⟨as0,B,own,Y,I,aY h fun x v H1 b m h1=>⟨as0,B,own,Y,I.mono b,mM h1 fun lo t c h2=>⟨as0,B,own,Y,(I.mono b).mono c,mM h2 fun a k d o=>
  hd (own++as0) k v lo a x Q (fun p j=>(((I.mono b).mono c).mono d).new j) (m.mono (aA (c.trans d))) o⟩⟩⟩
def V7(W:Wd)(r:Str->Se->Hp->VK->Prop)(g:Str->Rx->R D):Prop:=
 ∀(as:Sf)(H:Hp)(z:Str)(xs:Se)(ds:Rx)(Q:VK),(∀p,H p=U->p∉as)->ay W.K (aj as H) ds xs->cP W as H (g z ds) Q->r z xs H Q
def DN(g:Str->Rx->R D)(φ:FE)(α:FA):FE:=fun Y=>(φ Y).bind fun x=>match x with
 |.str z=>(α Y).bind fun ds=>g z ds
 |_=>.no
theorem akK{apos cpos:Pos}{id:String}(c:Slot "str" name id)(d:typeOf (.builtin id)=pure (.type "method_descriptor"))(i:Oj X id r)(hd:V7 W r g)(q:JE X o<|tD W O φ)(s:JA X (e::es)<|zx W O α)
  (b:(WG o name X.env (eval o X.env)=eval o X.env)<|>Rv) (a:#[6]=G<|>Rv) (h1:(e::es).all al=G<|>Rv) (u:(e::es).length<29<|>Sm):
  JE X (.Call (.Attribute o name apos) (e::es) [] cpos) (tD W O<|DN g φ α):=
 (afp c d i q s b a h1 u).imp fun Z H Q k=>dQ k fun as0 B own Y I h=>⟨as0,B,own,Y,I,aY h fun x v H1 f n h1=>by
  cases x with
  |str z=>
   subst n;exact⟨as0,B,own,Y,I.mono f,e9 h1 fun ds xs m t j h2=>hd (own++as0) m z xs ds Q (fun p l=>((I.mono f).mono t).new l) j h2⟩
  |_=>exact h1.elim⟩
end
inductive Fl where
 |nx (Y:Sd)|rt (d:D)|bk (Y:Sd)|ct (Y:Sd)
 /-- a return of what is laid anew,and nobody else's -/
 |rn (d:D)
abbrev FS:=Sd->R Fl
def c8(W:Wd)(as0:Sf)(B:Hp)(Ob O':Ru)(r:R Fl)(D:Ends):Prop:=match r with
 |.ok (.nx Y)=>∀own Z H,DI W.K as0 B O' own Z Y H->D.nx Z H
 |.ok (.bk Y)=>∀own Z H,DI W.K as0 B Ob own Z Y H->D.bk Z H
 |.ok (.ct Y)=>∀own Z H,DI W.K as0 B Ob own Z Y H->D.ct Z H
 |.ok (.rt d)=>∀v H,ah B H->bQ W.K (aj as0 H) d v->D.rt v H
 |.ok (.rn d)=>∀p o H,ah B H->B p=U->H p=J o->kL W.K (aj (p::as0) H) o d->D.rt (.ref p) H
 |.er x=>∀e C H,ah B H->W.mg x=J (.ref C)->W.E e (J C) H
 |.no=>False
def sD(W:Wd)(Ob O O':Ru)(φ:FS):TS:=fun D Z H=>∃as0 B own Y,DI W.K as0 B O own Z Y H/\c8 W as0 B Ob O' (φ Y) D
section
variable{W:Wd}{as0 own:Sf}{B H:Hp}{Ob O O':Ru}{Z:St}{Y:Sd}{D':Ends}
theorem cO(I:DI W.K as0 B O own Z Y H)(h:c8 W as0 B Ob O' (r.bind f) D')(q:∀d v H',ah H H'->bQ W.K (aj (own++as0) H') d v->c8 W as0 B Ob O' (f d) D'->Q v H'):cP W (own++as0) H r Q:=by
 cases r with
 |ok d=>exact fun v H' s a=>q d v H' s a h
 |er x=>exact fun e C H' s=>h e C H'<|I.same.trans s
 |no=>exact h
theorem kg(I:DI W.K as0 B O own Z Y H)(h:c8 W as0 B Ob O' (r.bind f) D')(q:∀d p o H',ah H H'->H p=U->H' p=J o->kL W.K (aj (p::(own++as0)) H') o d->c8 W as0 B Ob O' (f d) D'->Q (.ref p) H'):kX W (own++as0) H r Q:=by
 cases r with
 |ok d=>exact fun p o H' s h1 h2 a=>q d p o H' s h1 h2 a h
 |er x=>exact fun e C H' s=>h e C H'<|I.same.trans s
 |no=>exact h
theorem qb{r:R α}{f:α->R Fl}{Q:α->Hp->Prop}(I:DI W.K as0 B O own Z Y H)(h:c8 W as0 B Ob O' (r.bind f) D')(q:∀d H',ah H H'->c8 W as0 B Ob O' (f d) D'->Q d H'):gf W H r Q:=by
 cases r with
 |ok d=>exact fun H' s=>q d H' s h
 |er x=>exact fun e C H' s=>h e C H'<|I.same.trans s
 |no=>exact h
theorem c8.base(h:c8 W as0 B Ob O' r D')(s:ah B B')(b:∀a∈as0,B a≠U):c8 W as0 B' Ob O' r D':=by
 cases r with
 |ok f=>
  cases f with
  |nx Y=>exact fun own Z H I=>h own Z H<|I.base s b
  |bk Y=>exact fun own Z H I=>h own Z H<|I.base s b
  |ct Y=>exact fun own Z H I=>h own Z H<|I.base s b
  |rt d=>exact fun v H s'=>h v H<|s.trans s'
  |rn d=>exact fun p o H s' c=>h p o H (s.trans s')<|s.free c
 |er x=>exact fun e C H s'=>h e C H<|s.trans s'
 |no=>exact h
theorem getElem?_set'{α:Type}{l:List α}{x:α}:(l.set i x)[j]?=if i=j then(if i<l.length then J x else U)else l[j]?:=List.getElem?_set
theorem DI.set(I:DI W.K as0 B O own Z Y H)(c:i∉O)(h:bQ W.K (aj (own++as0) H) d v):DI W.K as0 B O own (Z.set i<|J v) (Y.set i<|J d) H:=by
 refine⟨by simp[I.len],I.YU,I.nd,I.gp,I.fresh,I.wz,I.same,fun j e b q=>?_,fun j a b=>?_⟩
 .rw[getElem?_set']at q⊢;split at q
  .rename_i hij;rw[SI hij];split at q
   .rename_i hl;rw[SI<|by rw[<-I.len];exact hl]
    mright
   .cases q
  .rename_i hij;rw[SM hij];exact I.var j e b q
 .have hji:i≠j:=fun z=>c (by rw[z];exact(X0 b).1);let⟨d',o,h1,h2,h3,h4⟩:=I.Xf j a b
  mright
theorem zip_inj:∀{O:Ru}{own:Sf}{i j:Nat}{a:SA},own.Nodup->(i,a)∈O.zip own->(j,a)∈O.zip own->i=j
 |[],_,_,_,_,_,h,_=>by mright
 |_::_,[],_,_,_,_,h,_=>by mright
 |k::O,b::own,i,j,a,nd,h1,h2=>by
  rw[Vx]at nd;rcases eQ.mp h1 with e1|h1<;>rcases eQ.mp h2 with e2|h2
  .lia
  .cases e1;exact absurd (X0 h2).2 nd.1
  .cases e2;exact absurd (X0 h1).2 nd.1
  .exact zip_inj nd.2 h1 h2
theorem fT:∀{O:Ru}{own:Sf}{i:Nat},own.length=O.length->i∈O->∃a,(i,a)∈O.zip own
 |[],_,_,_,h=>by nofun
 |k::O,[],_,l,_=>by mright
 |k::O,b::own,i,l,h=>by
  rcases eQ.mp h with rfl|h
  .simp
  .obtain⟨a,c⟩:=fT (by simpa using l) h;exact⟨a,ie _ c⟩
theorem DI.ada(I:DI W.K as0 B O own Z Y H)(f:i∉O)(k:B p=U)(l:p∉own++as0)(e:H p=J o)(h:kL W.K (aj (p::(own++as0)) H) o d)(g:i<Y.length)
  (fr:∀j d',j∉O->Y[j]?=J (J d')->∃v,Z[j]?=J (J v)/\bQ W.K (aj (p::(own++as0)) H) d' v)
  (m:∀j a,(j,a)∈O.zip own->∃d o,Y[j]?=J (J d)/\Z[j]?=J (J<|.ref a)/\H a=J o/\kL W.K (aj (p::(own++as0)) H) o d):
  DI W.K as0 B (i::O) (p::own) (Z.set i<|J<|.ref p) (Y.set i<|J d) H:=by
 refine⟨by simp[I.len],by simp[I.YU],Vx.mpr ⟨fun z=>l<|Le _ z,I.nd⟩,Vx.mpr ⟨f,I.gp⟩,fun a c=>?_,I.wz,I.same,fun j e b q=>?_,fun j a b=>?_⟩
 .rcases eQ.mp c with rfl|c
  .exact k
  .exact I.fresh a c
 .have hji:i≠j:=fun z=>b (by mright);mright
 .rw[List.zip_cons_cons]at b;rcases eQ.mp b with z|b
  .cases z;refine⟨d,o,?_,?_,e,h⟩
   .mright
   .rw[getElem?_set',SI rfl,SI<|by rw[<-I.len];exact g]
  .have hji:i≠j:=fun z=>f (by rw[z];exact(X0 b).1);mright
end
section
variable{X:Cx}{W:Wd}{Ob O O' O1 O2:Ru}{e c:Ry}{φ ψ:FS}{ε:FE}{τ:FT}{pos:Pos}{st:SU}{sts rest:List SU}
def ld:FS:=fun Y=>.ok<|.nx Y
def nh(φ ψ:FS):FS:=fun Y=>(φ Y).bind fun f=>match f with
 |.nx δ'=>ψ δ'
 |f=>.ok f
theorem QR:JB X []<|sD W Ob O O ld:=Hu.imp fun D Z H a=>dQ a fun as0 B own Y I h=>h own Z H I
theorem KS(h1:JS X st<|sD W Ob O O1 φ)(h2:JB X rest<|sD W Ob O1 O2 ψ):JB X (st::rest)<|sD W Ob O O2<|nh φ ψ:=(C0 h1 h2).imp fun D Z H b=>dQ b fun as0 B own Y I h=>by
 refine⟨as0,B,own,Y,I,?_⟩;delta nh at h;cases hr:φ Y with
 |ok f=>
  rw[hr]at h;cases f with
  |nx δ'=>exact fun a c H' e=>⟨as0,B,a,δ',e,h⟩
  |rt d=>exact h
  |rn d=>exact h
  |bk d=>exact h
  |ct d=>exact h
 |er x=>rw[hr]at h;exact h
 |no=>rw[hr]at h;exact h
theorem Et(h1:JS X st<|sD W Ob O O1 φ):JB X [st]<|sD W Ob O O1 φ:=GK h1
def pX(ε:FE):FS:=fun Y=>(ε Y).bind fun d=>.ok<|.rt d
theorem FR(h:JE X e<|tD W O ε):JS X (.Return (J e) pos)<|sD W Ob O O'<|pX ε:=(Fh h).imp fun D Z H f=>dQ f fun as0 B own Y I h=>
 ⟨as0,B,own,Y,I,cO I h fun d v H' s b h'=>h' v H' (I.same.trans s)<|b.mono<|kD fun a c=>OR _ c⟩
section
variable{X:Cx}{W:Wd}{Ob O O' O1 O2:Ru}{e c:Ry}{φ ψ:FS}{ε:FE}{τ:FT}{pos:Pos}{st:SU}{sts rest:List SU}
def uk(ε:FE):FS:=fun Y=>(ε Y).bind fun d=>.ok<|.rn d
end
section
variable{X:Cx}{W:Wd}{Ob O O' O1 O2:Ru}{e c:Ry}{φ ψ:FS}{ε:FE}{τ:FT}{pos:Pos}{st:SU}{sts rest:List SU}
theorem aiK{i:Nat}{x:Str}{p1:Pos}(hi:i∈O)(hN:X.N[i]?=J x:=by rfl)(hv:m6 X.env.scope x:=by first|exact qy rfl|exact kf (qy rfl)|exact kf (kf rfl))(hd:(x==("__debug__":Str))=η:=by decide)
  (hcd:(x==("__classdict__":Str))=η:=by decide):JS X (.Return (J<|.Name x p1) pos)<|sD W Ob O O'<|uk<|ag i:=(Fh<|jv i hN hv hd hcd).imp fun D Z H⟨as0,B,own,Y,I,h⟩=>by
 obtain⟨a,ha⟩:=fT I.YU hi;obtain⟨d,o,h1,h2,h3,h4⟩:=I.Xf i a ha;have e:uk (ag i) Y=.ok (.rn d):=by unfold uk ag;rw[h1];rfl
 rw[e]at h;show m8 Z[i]? H _;rw[h2];have hao:a∈own:=(X0 ha).2;exact h a o H I.same (I.fresh a hao) h3 (h4.mono (kD fun b hb=>by
  rcases eQ.mp hb with rfl|hb
  .exact Le _ hao
  .exact OR _ hb))
end
def DA(τ:FT)(φ ψ:FS):FS:=fun Y=>(τ Y).bind fun b=>if b=G then φ Y else ψ Y
theorem Hx(d:JT X c<|lq W O τ)(e:JB X a<|sD W Ob O O' φ)(g:JB X b<|sD W Ob O O' ψ):JS X (.If c a b pos)<|sD W Ob O O'<|DA τ φ ψ:=(N6 d e g).imp fun D Z H f=>dQ f fun as0 B own Y I h=>
 ⟨as0,B,own,Y,I,qb I h fun b H' s h'=>by
  cases b with
  |true=>exact⟨as0,B,own,Y,I.mono s,h'⟩
  |false=>exact⟨as0,B,own,Y,I.mono s,h'⟩⟩
def rZ(i:Nat)(ε:FE):FS:=fun Y=>(ε Y).bind fun d=>.ok<|.nx<|Y.set i<|J d
theorem Iu{pos':Pos}(f:i∉O)(c:X.N.Nodup)(g:Loc X.env.scope x)(k:JE X e<|tD W O ε)(a:X.N[i]?=J x<|>Rv)(hs:Uw e (J<|.Name x pos') pos.line X.env=pure η<|>Rv)(l:#[1]<|>XN):
  JS X (.Assign [.Name x pos'] e pos) (sD W Ob O O<|rZ i ε):=(pw c g k a hs l).imp fun D Z H b=>dQ b fun as0 B own Y I h=>
 ⟨as0,B,own,Y,I,cO I h fun d v H' s j h'=>h' own _ H'<|(I.mono s).set f j⟩
def Av(i:Nat)(ε:FE):FS:=fun Y=>(ε Y).bind fun d=>if i<Y.length then .ok (.nx<|Y.set i<|J d)else .no
theorem tH(d:H p=U)(s:ah H H'):ah (aj as H)<|aj (p::as) H':=fun b o e=>by
 by_cases c:b∈as
 .rw[bT c]at e;cases e
 .rw[av c]at e;have a:b≠p:=fun z=>by mright
  rw[av<|by simp[c,a]];exact s b o e
theorem ze{K:aT}(I:DI K as0 B O own Z Y H)(k:i∉O)(s:ah H H')(b:H p=U)(e:H' p=J o)(h:kL K (aj (p::(own++as0)) H') o d)(g:i<Y.length):
  DI K as0 B (i::O) (p::own) (Z.set i<|J<|.ref p) (Y.set i<|J d) H':=by
 refine DI.ada (W:=⟨K,fun _=>U,E0⟩) (I.mono s) k (I.same.free b) (I.new b) e h g (fun j d' c q=>?_) fun j a c=>?_
 .obtain⟨v,h1,h2⟩:=I.var j d' c q
  exact⟨v,h1,h2.mono<|tH b s⟩
 .refine US (I.Xf j a c) fun d' o' h1 h2 l f=>?_;exact⟨d',o',h1,h2,s a o' l,f.mono<|tH b s⟩
theorem Iv{pos':Pos}(g:i∉O)(f:X.N.Nodup)(j:Loc X.env.scope x)(k:JE X e<|tN W O ε)(a:X.N[i]?=J x<|>Rv)(hs:Uw e (J<|.Name x pos') pos.line X.env=pure η<|>Rv)(l:#[1]<|>XN):
  JS X (.Assign [.Name x pos'] e pos) (sD W Ob O (i::O)<|Av i ε):=(pw f j k a hs l).imp fun D Z H b=>dQ b fun as0 B own Y I h=>
 ⟨as0,B,own,Y,I,kg I h fun d p o H' s c e m h'=>by
  split at h'
  .rename_i hl;exact h' _ _ H'<|ze I g s c e m hl
  .exact h'.elim⟩
inductive VA where
 |one (i:Nat)|tup (is:Ru)
noncomputable def l7:Ru->Rx->Sd->Sd
 |i::is,d::ds,Y=>l7 is ds<|Y.set i<|J d
 |_,_,Y=>Y
def iY:VA->D->Sd->R Sd
 |.one i,d,Y=>.ok<|Y.set i<|J d
 |.tup is,.tup ds,Y=>if ds.length=is.length then .ok (l7 is ds Y)else .no
 |_,_,_=>.no
def gD(W:Wd)(O:Ru)(tg:VA):TG:=fun v Z H Q=>∃as0 B own Y d,DI W.K as0 B O own Z Y H/\bQ W.K (aj (own++as0) H) d v/\match iY tg d Y with
 |.ok δ'=>∀a,DI W.K as0 B O own a δ' H->Q a H
 |_=>False
def U7(W:Wd)(O:Ru)(is:Ru):Mg:=fun vs Z H Q=>∃as0 B own Y ds,DI W.K as0 B O own Z Y H/\ay W.K (aj (own++as0) H) ds vs/\ds.length=is.length/\∀a,DI W.K as0 B O own a (l7 is ds Y) H->Q a H
theorem aop(c:i∉O)(a:X.N.Nodup)(e:X.N[i]?=J x)(f:Loc X.env.scope x)(b:#[1]<|>XN):JG X (.Name x pos)<|gD W O<|.one i:=
 (Jy a e f b).imp (by rintro v Z H Q⟨as0,B,own,Y,d,I,dv,h⟩;exact h _<|I.set c dv)
theorem L0:YW X []<|U7 W O []:=JV.imp fun vs Z H Q c=>gU c fun as0 B own Y ds I a b h=>by
 cases ds with
 |nil=>subst a;exact⟨rfl,h Z I⟩
 |cons _ _=>cases b
theorem EV(h1:JG X e<|gD W O<|.one i)(h2:YW X es<|U7 W O is)
  (hs:(Wh (e::es) X.env).map (·.2)=assign e X.env::(Wh es X.env).map (·.2)<|>Rv):YW X (e::es)<|U7 W O<|i::is:=(Ii h1 h2 hs).imp fun vs Z H Q j=>gU j fun as0 B own Y ds I k g h=>by
 cases ds with
 |nil=>cases g
 |cons d ds=>
  obtain⟨v,r,rfl,b,c⟩:=k;exact⟨v,r,rfl,as0,B,own,Y,d,I,b,fun a f=>⟨as0,B,own,_,ds,f,c,by simpa using g,h⟩⟩
theorem O5(K:aT){k:Nat}(h:YW X es<|U7 W O is)(g:is.length=n<|>Rv)(e:X.calm=G<|>Rv)
  (j:(Wh es X.env).length=n<|>Rv) (c:(Wh es X.env).findIdx? (·.1)=U<|>Rv) (i:X.K=K<|>Rv) (f:W.K=K<|>Rv):JG X (.Tuple es k pos)<|gD W O<|.tup is:=by
 refine(afy K h e j c i).imp ?_;rintro v Z H Q⟨as0,B,own,Y,d,I,dv,h⟩;cases d with
 |tup ds=>
  obtain⟨a,xs,rfl,q1,q2⟩:=dv;have h':(match(if ds.length=is.length then R.ok (l7 is ds Y)else .no)with|.ok δ'=>∀b,DI W.K as0 B O own b δ' H->Q b H|_=>False):=h
  by_cases hd:ds.length=is.length
  .rw[SI hd]at h';subst f;exact⟨a,xs,rfl,(aD _ _).Wt q1,by rw[<-q2.len,hd,g],as0,B,own,Y,ds,I,q2,hd,h'⟩
  mright
 |_=>mleft
structure eM(K:aT)(as0:Sf)(B:Hp)(Jq0:It)(xs:Rx):Prop where
 go:∀i H,ah (aj as0 B) H->i<xs.length->Jq0.go i H
 yl:∀i H v H2 M,ah (aj as0 B) H->(∀a∈M,H a≠U)->(∀a∈M,a∈as0\/B a=U)->i<xs.length->Jq0.gF i H v H2->ah H H2/\∃d,xs[i]?=J d/\bQ K (aj M H2) d v
 stop:∀H,ah (aj as0 B) H->Jq0.stop xs.length H
def j3(W:Wd)(as0 own:Sf)(H:Hp)(r:R<|Rx)(Q:It->Hp->Prop):Prop:=match r with
 |.ok xs=>∀a H',ah H H'->eM W.K as0 (aj own H') a xs->Q a H'
 |.er x=>∀e C H',ah H H'->W.mg x=J (.ref C)->W.E e (J C) H'
 |.no=>False
def iD(W:Wd)(O:Ru)(ι:FA):TI:=fun Z H Q=>∃as0 B own Y,DI W.K as0 B O own Z Y H/\j3 W as0 own H (ι Y) Q
theorem km(s:ah (aj as0 B) H)(h:∀a∈M,a∈as0\/B a=U):ah (aj as0 B)<|aj M H:=fun b o e=>by
 have f:=e;by_cases c:b∈as0
 .rw[bT c]at e;cases e
 .rw[av c]at e;have d:b∉M:=fun z=>by
   grind
  rw[av d];exact s b o f
theorem DC{K:aT}(h1:gr K (aj as0 B) a xs)(h2:ay K (aj as0 B) ds xs):eM K as0 B (XI K a) ds where
 go:=fun i H s c=>by
  have b:i<xs.length:=by rw[<-h2.len];exact c
  exact⟨xs,xs[i],s.seq h1,∅⟩
 yl:=fun i H v H2 M s _ hM c⟨e,y⟩=>by
  subst e;obtain⟨d,q1,q2⟩:=h2.got<|y xs<|s.seq h1
  exact⟨ah.refl _,d,q1,q2.mono<|km s hM⟩
 stop:=fun H s=>⟨xs,s.seq h1,by rw[h2.len];exact mK _⟩
theorem Dj{K:aT}(h1:m7 K (aj as0 B) a xs)(h2:ay K (aj as0 B) ds xs):eM K as0 B (WQ K a) ds where
 go:=fun i H s c=>by
  have b:i<xs.length:=by rw[<-h2.len];exact c
  exact⟨xs,xs[i],s.Wt h1,∅⟩
 yl:=fun i H v H2 M s _ hM c⟨e,y⟩=>by
  subst e;obtain⟨d,q1,q2⟩:=h2.got<|y xs<|s.Wt h1
  exact⟨ah.refl _,d,q1,q2.mono<|km s hM⟩
 stop:=fun H s=>⟨xs,s.Wt h1,by rw[h2.len];exact mK _⟩
abbrev FV(z:Str):Rx:=z.cps.toList.map fun c=>D.str ⟨#[c]⟩
theorem AV{K:aT}(z:Str):eM K as0 B (VT z) (FV z) where
 go:=fun i H _ a=>by
  simpa[VT,ye]using a
 yl:=fun i H v H2 M _ _ _ a⟨e,c,h1,h2⟩=>by
  subst e;refine⟨ah.refl _,.str ⟨#[c]⟩,?_,h2⟩;mright
 stop:=fun H _=>by
  show _=z.length;simp[ye]
noncomputable def aW(lo:Int)(n:Nat):Rx:=(e6 n).map fun(k:Nat)=>D.int<|lo+(k:Int)
theorem wV{K:aT}(lo:Int)(n:Nat):eM K as0 B (V5 lo n) (aW lo n) where
 go:=fun i H _ a=>by
  delta aW at a;rw[WH,List.length_range]at a;exact a
 yl:=fun i H v H2 M _ _ _ a⟨e,h⟩=>by
  subst e;delta aW at a⊢;refine⟨ah.refl _,.int<|lo+i,?_,h⟩;mright
 stop:=fun H _=>by
  delta aW;show n<=_;simp
noncomputable def Aw:D->R (Rx)
 |.lst xs=>.ok xs
 |.tup xs=>.ok xs
 |.str z=>.ok<|FV z
 |_=>.no
def EX(ε:FE):FA:=fun Y=>(ε Y).bind Aw
variable{tg:Ry}
theorem j3.mono(h:j3 W as0 own H r Q)(s:ah H H'):j3 W as0 own H' r Q:=by
 cases r with
 |ok d=>exact fun a c b=>h a c<|s.trans b
 |er x=>exact fun e C c b=>h e C c<|s.trans b
 |no=>exact h
theorem AK(h:j3 W as0 own H (r.bind f) Q)(q:∀d v H',ah H H'->bQ W.K (aj (own++as0) H') d v->j3 W as0 own H' (f d) Q->Q' v H'):cP W (own++as0) H r Q':=by
 cases r with
 |ok d=>exact fun v H' s a=>q d v H' s a<|j3.mono h s
 |er x=>exact h
 |no=>exact h
theorem qo(h:j3 W as0 own H (r.bind f) Q)(q:∀d v H',ah H H'->ay W.K (aj (own++as0) H') d v->j3 W as0 own H' (f d) Q->Q' v H'):ib W (own++as0) H r Q':=by
 cases r with
 |ok d=>exact fun v H' s a=>q d v H' s a<|j3.mono h s
 |er x=>exact h
 |no=>exact h
theorem On(K:aT)(h:JE X l<|tD W O ε)(f:X.K=K<|>Rv)(c:W.K=K<|>Rv):JI X tg l<|iD W O<|EX ε:=(OQ K h f).imp fun Z H Q e=>dQ e fun as0 B own Y I h=>
 ⟨as0,B,own,Y,I,AK h fun d v H' s b h'=>by
  subst c;cases d with
  |lst ds=>
   obtain⟨a,xs,rfl,q1,q2⟩:=b;refine .inl ⟨⟨xs,(aD _ _).seq q1⟩,h' _ H' (ah.refl _) ?_⟩;rw[t7]at q1 q2;exact DC q1 q2
  |tup ds=>
   obtain⟨a,xs,rfl,q1,q2⟩:=b;refine .inr ⟨⟨xs,(aD _ _).Wt q1⟩,h' _ H' (ah.refl _) ?_⟩;rw[t7]at q1 q2;exact Dj q1 q2
  |str z=>subst b;exact h' _ H' (ah.refl _)<|AV z
  |_=>exact h'.elim⟩
def KN:Rx->R (Rx)
 |[.int j]=>if -(2^62)<=j/\j<2^62 then .ok (aW 0 j.toNat)else .no
 |_=>.no
def p9(α:FA):FA:=fun Y=>(α Y).bind KN
theorem DF{p pos:Pos}(b:X.mg "range"=U)(j:JA X [a]<|zx W O α)(d:Gl X "range"<|>Rv)(i:al a=G<|>Rv):JI X tg (.Call (.Name "range" p) [a] [] pos)<|iD W O<|p9 α:=(D8 b j d i).imp fun Z H Q e=>dQ e fun as0 B own Y I h=>
 ⟨as0,B,own,Y,I,qo h fun ds vs H' s g h'=>by
  delta KN at h';split at h'
  .obtain⟨v,r,rfl,f,c⟩:=g;subst f;subst c;split at h'
   .rename_i hj;exact⟨hj,h' _ H' (ah.refl _)<|wV 0 _⟩
   .exact h'.elim
  .exact h'.elim⟩
def cZ(tg:VA)(a:FS):Rx->Sd->R Fl
 |[],Y=>.ok<|.nx Y
 |x::r,Y=>(iY tg x Y).bind fun b=>(a b).bind fun f=>match f with
  |.nx δ2=>cZ tg a r δ2
  |.ct δ2=>cZ tg a r δ2
  |.bk δ2=>.ok<|.nx δ2
  |.rt d=>.ok<|.rt d
  |.rn d=>.ok<|.rn d
def Hy(ι:FA)(t:VA)(a:FS):FS:=fun Y=>(ι Y).bind fun xs=>cZ t a xs Y
theorem xL(I:DI W.K as0 B O own Z Y H)(h:c8 W as0 B Ob O' (r.bind f) D')
  (q:∀d a H',ah H H'->eM W.K as0 (aj own H') a d->c8 W as0 B Ob O' (f d) D'->Q a H'):j3 W as0 own H r Q:=by
 cases r with
 |ok d=>exact fun a H' s g=>q d a H' s g h
 |er x=>exact fun e C H' s=>h e C H'<|I.same.trans s
 |no=>exact h
theorem Pa{iter:Ry}{o:List SU}{ι:FA}{t:VA}(E:zJ #[0] X.A X.env X.xe)(s:JI X tg iter<|iD W O ι)(C:JG X tg<|gD W O t)(S:JB X o<|sD W O O O φ)(N:X.calm=G<|>Rv)
  (hs:(∀x,pg iter X.env x=pure x)<|>uN):JS X (.For tg iter o [] pos)<|sD W Ob O O<|Hy ι t φ:=(QE E s C S N hs).imp fun D' Z H D=>dQ D fun as0 B own Y I h=>by
 refine⟨as0,B,own,Y,I,xL I h fun xs u H1 F SK h1=>?_⟩;have q:=I.mono F;have r:=q.rebase q.apart;have sB:ah B<|aj own H1:=q.wk;have h2:=h1.base sB I.wz;generalize M:aj own H1=B' at r sB h2 SK;have ex':∀a∈as0,B' a≠U:=r.wz;refine⟨fun i m Z H=>m=xs.length-i/\i<=xs.length/\∃own Y,DI W.K as0 B' O own Z Y H/\c8 W as0 B' Ob O (cZ t φ (xs.drop i) Y) D',⟨xs.length,by rfl,Uh _,own,Y,r,⊤⟩,?_⟩;rintro i m σ3 H3 ⟨rfl,s,own3,δ3,I3,h3⟩;by_cases l:i<xs.length
 .refine .inr ⟨SK.go i H3 ((aD _ _).trans I3.same) l,fun k H'=>∃own Y,DI W.K as0 B' O own k Y H'/\c8 W as0 B' Ob O (cZ t φ (xs.drop<|i+1) Y) D',by rintro k H'⟨g,δ',p,h'⟩;exact ⟨xs.length-(i+1),by grind,rfl,l,g,δ',p,h'⟩,fun v Q y=>?_⟩;obtain⟨s4,d,hd,dv⟩:=SK.yl i H3 v Q (own3++as0) ((aD _ _).trans I3.same) I3.Vq (fun a R=>by
   rcases BY.mp R with z|z
   .exact .inr (I3.fresh a z)
   .exact .inl z) l y
  have P:xs.drop i=d::xs.drop (i+1):=by
   rw[g5 l];rw[WT l]at hd;cases hd;rfl
  rw[P]at h3;refine⟨as0,B',own3,δ3,d,I3.mono s4,dv,?_⟩;have n:c8 W as0 B' Ob O ((iY t d δ3).bind fun j=>(φ j).bind fun f=>match f with
   |.nx b=>cZ t φ (xs.drop<|i+1) b
   |.ct b=>cZ t φ (xs.drop<|i+1) b
   |.bk b=>.ok<|.nx b
   |.rt d=>.ok<|.rt d
   |.rn d=>.ok (.rn d)) D':=h3
  cases hb1:iY t d δ3 with
  |ok j=>
   rw[hb1]at n;refine fun k p=>⟨as0,B',own3,j,p,?_⟩;have c:c8 W as0 B' Ob O ((φ j).bind fun f=>match f with
    |.nx b=>cZ t φ (xs.drop<|i+1) b
    |.ct b=>cZ t φ (xs.drop<|i+1) b
    |.bk b=>.ok<|.nx b
    |.rt d=>.ok<|.rt d
    |.rn d=>.ok (.rn d)) D':=n
   cases hr:φ j with
   |ok f=>
    rw[hr]at c;cases f with
    |nx b=>exact fun g k H' p=>⟨g,b,p,c⟩
    |ct b=>exact fun g k H' p=>⟨g,b,p,c⟩
    |bk b=>exact c
    |rt d=>exact c
    |rn d=>exact c
   |er x=>rw[hr]at c;exact c
   |no=>rw[hr]at c;exact c
  |er x=>delta iY at hb1;lia
  |no=>rw[hb1]at n;exact n.elim
 .have e:i=xs.length:=⊥
  subst e;rw[List.drop_length]at h3;exact .inl ⟨SK.stop H3<|(aD _ _).trans I3.same,h3 own3 σ3 H3 I3⟩
def cq(τ:FT)(a:FS):Nat->Sd->R Fl
 |0,_=>.no
 |n+1,Y=>(τ Y).bind fun b=>if b=G then(a Y).bind fun f=>match f with
  |.nx δ2=>cq τ a n δ2
  |.ct δ2=>cq τ a n δ2
  |.bk δ2=>.ok<|.nx δ2
  |.rt d=>.ok<|.rt d
  |.rn d=>.ok<|.rn d
  else .ok (.nx Y)
theorem Ej(n:Nat)(o:zJ #[0] X.A X.env X.xe)(p:JT X c<|lq W O τ)(s:JB X body<|sD W O O O φ):JS X (.While c body [] pos)<|sD W Ob O O<|cq τ φ n:=(yn o p s).imp fun D' Z H l=>dQ l fun as0 B own Y I h=>by
 refine⟨fun m Z H=>∃own Y,DI W.K as0 B O own Z Y H/\c8 W as0 B Ob O (cq τ φ m Y) D',⟨n,own,Y,I,h⟩,?_⟩;intro m σ3 H3 q0_;refine X7 q0_ fun own3 δ3 I3 h3=>?_;cases m with
 |zero=>exact h3.elim
 |succ m=>
  refine⟨as0,B,own3,δ3,I3,qb I3 h3 fun b r j k=>?_⟩;cases b with
  |false=>exact k own3 σ3 r<|I3.mono j
  |true=>
   refine⟨fun e H'=>∃own Y,DI W.K as0 B O own e Y H'/\c8 W as0 B Ob O (cq τ φ m Y) D',fun e H' q=>⟨m,mY m,q⟩,as0,B,own3,δ3,I3.mono j,?_⟩;have h4'  := k;cases hr:φ δ3 with
   |ok f=>
    rw[hr]at h4';cases f with
    |nx g=>exact fun a e H' i=>⟨a,g,i,h4'⟩
    |ct g=>exact fun a e H' i=>⟨a,g,i,h4'⟩
    |bk g=>exact h4'
    |rt d=>exact h4'
    |rn d=>exact h4'
   |er x=>rw[hr]at h4';exact h4'
   |no=>rw[hr]at h4';exact h4'
end
def R.calm{α:Type}:R α->R α
 |.ok a=>.ok a
 |_=>.no
def dY(ix:List<|Option Nat)(Y:Sd):Sd:=ix.map fun o=>o.bind fun j=>(Y[j]?).getD U
noncomputable def tX:VA->Sd->Bool
 |.one i,Y=>match Y[i]? with
  |some U=>G
  |_=>η
 |.tup is,Y=>is.all fun i=>match Y[i]? with
  |some U=>G
  |_=>η
def fV(tg:VA)(τ:FT)(ε:FE)(a:Sd):Rx->R (Rx)
 |[]=>.ok []
 |x::r=>(iY tg x a).bind fun c=>(τ c).bind fun b=>if b=G then(ε c).bind fun y=>(fV tg τ ε a r).bind fun ys=>.ok (y::ys)else fV tg τ ε a r
def cF(tg:VA)(τ:FT)(ε:FE)(a:Sd)(xs:Rx):R D:=if tX tg a=G/\xs.length<=1000000 then(fV tg τ ε a xs).calm.bind fun ys=>.ok (.lst ys)else .no
def jX(ix:List<|Option Nat)(ι:FA)(tg:VA)(τ:FT)(ε:FE):FE:=fun Y=>(ι Y).bind fun xs=>cF tg τ ε (dY ix Y) xs
def xa:FT:=fun _=>.ok G
theorem rR:∀(is:Ru)(ds:Rx)(a Y:Sd),(∀(i:Nat),i∈is->a[i]?=J U)->(∀(i:Nat)(d:D),a[i]?=J (J d)->Y[i]?=J (J d))->∀(i:Nat)(d:D),a[i]?=J (J d)->(l7 is ds Y)[i]?=J (J d)
 |[],_,_,_,_,h=>by assumption
 |_::_,[],_,_,_,h=>by assumption
 |j::is,x::ds,a,Y,hn,h=>by
  intro i d e;refine rR is ds a _ (fun i c=>hn i<|ie _ c) (fun i d e=>?_) i d e;have b:j≠i:=fun z=>by
   mright
  mright
theorem D4{tg:VA}{x:D}{a δ1:Sd}(c:tX tg a=G)(h:iY tg x a=.ok δ1):∀(i:Nat)(d:D),a[i]?=J (J d)->δ1[i]?=J (J d):=by
 cases tg with
 |one j=>
  nofun;intro i d e;have f:j≠i:=fun z=>by
   subst z;have b:(match a[j]? with|some U=>G|_=>η)=G:=c
   rw[e]at b;cases b
  mright
 |tup is=>
  cases x with
  |tup ds=>
   have h':(if ds.length=is.length then R.ok (l7 is ds a)else .no)=.ok δ1:=h;split at h'
   .cases h';refine rR is ds a a (fun i g=>?_) fun i d e=>e;have b  := c
    have:=Ve.mp b i g
    grind
   .cases h'
  |_=>nofun
theorem uQ:∀(is:Ru)(ds:Rx)(Y:Sd),(l7 is ds Y).length=Y.length
 |[],_,_=>by rfl
 |_::_,[],_=>by rfl
 |j::is,x::ds,Y=>by unfold l7;rw[uQ is ds];simp
theorem IY(h:iY tg x δ0=.ok δ1):δ1.length=δ0.length:=by
 cases tg with
 |one j=>nofun;simp
 |tup is=>
  cases x with
  |tup ds=>
   have h':(if ds.length=is.length then R.ok (l7 is ds δ0)else .no)=.ok δ1:=h;split at h'
   .cases h';exact uQ _ _ _
   .cases h'
  |_=>nofun
theorem DI.plain{K:aT}(c:Y.length=Z.length)(ex:∀a∈M,H a≠U)(var:∀(i:Nat)(d:D),Y[i]?=J (J d)->∃v,Z[i]?=J (J v)/\bQ K (aj M H) d v):DI K M H [] [] Z Y H:=
 ⟨c,rfl,Yv,Yv,fun a b=>(nomatch b),ex,ah.refl _,fun i d _ e=>var i d e,fun i a h=>(by mright)⟩
section
variable{X:Cx}{W Wb:Wd}{O:Ru}{osc:Scope}{ON N:SH}{ix:List (Option Nat)}{scope:Scope}{tg elt iter:Ry}{ifs:List Ry}{pos:Pos}{ι:FA}{t:VA}{τ:FT}{ε:FE}
theorem Jw:Yq X []<|lq W O xa:=Kf.imp fun Z H Q a=>dQ a fun as0 B own Y I h=>h H<|ah.refl _
structure w8(K:aT)(M:Sf)(H:Hp)(Jq0:It)(xs:Rx):Prop where
 go:∀i H1,ah H H1->i<xs.length->Jq0.go i H1
 yl:∀i H1 v H2 acc,ah H H1->H acc=U->(∀a∈acc::M,H1 a≠U)->i<xs.length->Jq0.gF i H1 v H2->ah H1 H2/\∃d,xs[i]?=J d/\bQ K (aj (acc::M) H2) d v
 stop:∀H1,ah H H1->Jq0.stop xs.length H1
theorem eM.comp{K:aT}(SK:eM K as0 (aj own H) Jq0 xs):w8 K (own++as0) H Jq0 xs where
 go:=fun i H1 s e=>SK.go i H1 ((aD _ _).trans<|(aD _ _).trans s) e
 yl:=fun i H1 v g c s b f e y=>SK.yl i H1 v g (c::(own++as0)) ((aD _ _).trans<|(aD _ _).trans s) f (fun a d=>by
  rcases eQ.mp d with rfl|d
  .refine .inr ?_
   cases z:aj own H a with
   |none=>rfl
   |some u=>have:=aD _ _ _ _ z;rw[b]at this;cases this
  .rcases BY.mp d with z|z
   .exact .inr (bT z)
   .exact .inl z) e y
 stop:=fun H1 s=>SK.stop H1<|(aD _ _).trans<|(aD _ _).trans s
def w9(tg:VA)(τ:FT)(ε:FE)(a:Sd)(xs:Rx):R D:=if tX tg a=G/\xs.length<=1000000 then(fV tg τ ε a xs).bind fun ys=>.ok (.lst ys)else .no
theorem Du{tg:VA}(h:iY tg d Y=.er x):False:=by
 cases tg with
 |one i=>nofun
 |tup is=>
  cases d with
  |tup ds=>
   have h':(if ds.length=is.length then R.ok (l7 is ds Y)else .no)=.er x:=h;split at h'<;>cases h'
  |_=>nofun
def GA{K:aT}{as0 own:Sf}{B H:Hp}{Z:St}{Y:Sd}{xs:Rx}{Jq0:It}{Q:VK}(P:Wb.K=K)(I:DI K as0 B O own Z Y H)(hO:∀j∈ix,∀k,j=J k->k∉O)(SK:w8 K (own++as0) H Jq0 xs)
  (hq:match w9 t τ ε (dY ix Y) xs with
   |.ok d=>∀p o H',ah H H'->H p=U->H' p=J o->kL K (aj (p::(own++as0)) H') o d->Q (.ref p) H'
   |.er x=>∀e C H',ah H H'->Wb.mg x=J (.ref C)->Wb.E e (J C) H'
   |.no=>False):wQ (gD Wb [] t) (lq Wb [] τ) (tD Wb [] ε) Jq0 (mz ix Z) H Q:=by
 intro c f;unfold w9 at hq;by_cases hc:tX t (dY ix Y)=G/\xs.length<=1000000
 .rw[SI hc]at hq;obtain⟨hf,hlen⟩:=hc
  generalize W:fV t τ ε (dY ix Y) xs=ra at hq;have l:∀(es:Rx)(r:R<|Rx),ra=(r.bind fun rest=>.ok<|es++rest)->match r with
    |.ok rest=>∀p o H',ah H H'->H p=U->H' p=J o->kL K (aj (p::(own++as0)) H') o (.lst<|es++rest)->Q (.ref p) H'
    |.er x=>∀e C H',ah H H'->Wb.mg x=J (.ref C)->Wb.E e (J C) H'
    |.no=>False:=fun es r e=>by
   subst e;cases r with
   |ok rest=>exact hq
   |er x=>exact hq
   |no=>exact hq
  clear hq;generalize X:dY ix Y=δ0 at hf W;have cl:δ0.length=(mz ix Z).length:=by rw[<-X];unfold dY mz;simp
  have cv:∀(i:Nat)(d:D),δ0[i]?=J (J d)->∃v,(mz ix Z)[i]?=J (J v)/\bQ K (aj (own++as0) H) d v:=by rw[<-X];exact(by
    intro i d e;unfold dY at e;unfold mz;rw[Xm]at e⊢;cases h:ix[i]? with
    |none=>grind
    |some o=>
     rw[h]at e;cases o with
     |none=>cases e
     |some j=>
      have ej:Y[j]?=J (J d):=by
       cases q:Y[j]? with
       |none=>mright
       |some w=>mright
      obtain⟨v,h1,h2⟩:=I.var j d (hO _ (Do h) j rfl) ej
      mright)
  generalize mz ix Z=σ0 at cl cv;have exM0:=I.Vq;generalize hM:own++as0=M at cv l SK exM0;have exM:∀a∈M,H a≠U:=exM0;have naM:c∉M:=fun z=>exM c z f
  have F:∀{H':Hp},ah H H'->(∃o,H' c=J o)->∀a∈c::M,H' a≠U:=fun{H'}s⟨o,e⟩a ha=>by
   rcases eQ.mp ha with rfl|ha
   .rw[e];simp
   .cases q:H a with
    |none=>exact absurd q<|exM a ha
    |some u=>rw[s a u q];simp
  have s0:ah H<|br H c<|.lst []:=bR f _;have start:ra=((fV t τ ε δ0<|xs.drop 0).bind fun rest=>.ok<|[]++rest):=by
   rw[<-W,B1];cases fV t τ ε δ0 xs<;>rfl
  refine⟨fun i m T H'=>m=xs.length-i/\i<=xs.length/\∃ys es,H' c=J (.lst ys)/\ys.length<=i/\ah H H'/\ay K (aj (c::M) H') es ys/\ra=((fV t τ ε δ0<|xs.drop i).bind fun rest=>.ok<|es++rest)/\DI K (c::M) H' [] [] T δ0 H',
   ⟨xs.length,∅,Uh _,[],[],aE,Uh _,s0,rfl,start,DI.plain cl (F s0 ⟨_,aE⟩) fun i d e=>let⟨v,h1,h2⟩:=cv i d e;⟨v,h1,h2.mono (tH f s0)⟩⟩,?_⟩
  rintro i m σ1 H1 ⟨rfl,hi,ys,es,e1,hl1,s1,d1,c1,I1⟩;have sB:ah H H1:=s1;by_cases A:i<xs.length
  .refine .inr ⟨SK.go i H1 sB A,fun T H'=>∃ys es,H' c=J (.lst ys)/\ys.length<=i+1/\ah H H'/\ay K (aj (c::M) H') es ys/\ra=((fV t τ ε δ0<|xs.drop<|i+1).bind fun rest=>.ok<|es++rest)/\DI K (c::M) H' [] [] T δ0 H',
    by rintro T H'⟨ys,es,q⟩;exact ⟨xs.length-(i+1),⊥,rfl,A,ys,es,q⟩,fun v H2 y=>?_⟩
   left;obtain⟨s2,d,hd,dv⟩:=SK.yl i H1 v H2 c sB f (F s1 ⟨_,e1⟩) A y
   have ed:xs.drop i=d::xs.drop (i+1):=by
    rw[g5 A];rw[WT A]at hd;cases hd;rfl
   rw[ed]at c1;have c1:ra=(((iY t d δ0).bind fun g=>(τ g).bind fun b=>if b=G then(ε g).bind fun y=>(fV t τ ε δ0<|xs.drop<|i+1).bind fun ys=>.ok (y::ys)else fV t τ ε δ0 (xs.drop<|i+1)).bind fun rest=>.ok<|es++rest):=c1;cases b1:iY t d δ0 with
   |er x=>right;exact(Du b1).elim
   |no=>right;rw[b1]at c1;exact(l es .no c1).elim
   |ok g=>
    right;rw[b1,am]at c1;have I2:DI K (c::M) H2 [] [] σ1 δ0 H2:=DI.plain I1.len (F (s1.trans s2) ⟨_,s2 _ _ e1⟩) fun i d e=>let⟨v,h1,h2⟩:=I1.var i d ∅ e;⟨v,h1,h2.mono<|aA s2⟩;have again:∀{S:St}{H3 H4:Hp},DI K (c::M) H2 [] [] S g H3->ah (aj (c::M) H3) (aj (c::M) H4)->(∀a∈c::M,H4 a≠U)->DI K (c::M) H4 [] [] S δ0 H4:=fun{S H3 H4}I3 s34 ex4=>
     DI.plain (by rw[<-IY b1];exact I3.len) ex4 fun i d e=>let⟨v,h1,h2⟩:=I3.var i d ∅<|D4 hf b1 i d e;⟨v,h1,h2.mono s34⟩
    refine⟨c::M,H2,[],δ0,d,by rw[P];exact I2,by rw[P];exact dv,?_⟩;rw[b1];refine fun S I3=>⟨c::M,H2,[],g,I3,?_⟩;rw[P]at I3;cases b2:τ g with
    |er x=>rw[b2]at c1;exact fun e C H' s' hm=>l es (.er x) c1 e C H' ((s1.trans s2).trans<|I3.same.trans s') hm
    |no=>rw[b2]at c1;exact(l es .no c1).elim
    |ok b=>
     rw[b2,am]at c1;refine fun H3 s3=>?_;have I3':=I3.mono s3;have n:ah H1 H3:=s2.trans<|I3.same.trans s3;cases b with
     |false=>
      rw[SM MK]at c1;exact⟨ys,es,n _ _ e1,⊥,s1.trans n,d1.mono<|aA n,c1,again I3' (ah.refl _)<|F (s1.trans n) ⟨_,n _ _ e1⟩⟩
     |true=>
      rw[SI rfl]at c1;refine⟨c::M,H2,[],g,by rw[P];exact I3',?_⟩;cases b3:ε g with
      |er x=>rw[b3]at c1;exact fun e C H' s' hm=>l es (.er x) c1 e C H' ((s1.trans n).trans s') hm
      |no=>rw[b3]at c1;exact(l es .no c1).elim
      |ok y'=>
       rw[b3,am]at c1;refine fun v4 H4 s4 d4=>?_;rw[P]at d4;have s14:ah H1 H4:=n.trans s4;have e4:=s14 _ _ e1;have hm:=ck;have N:ah (aj (c::M) H4)<|aj (c::M)<|br H4 c<|.lst<|ys++[v4]:=fun b o e=>by
        by_cases hb:b∈c::M
        .rw[bT hb]at e;cases e
        .rw[av hb]at e⊢;rw[aG fun z=>hb<|by rw[z];exact Up];exact e
       have s5:ah H<|br H4 c<|.lst<|ys++[v4]:=fun b o e=>by
        rw[aG<|bc e f];exact(s1.trans s14) b o e
       refine⟨ys,e4,⊥,ys++[v4],es++[y'],aE,by simp;omega,s5,?_,?_,again I3' ((aA s4).trans N)<|F s5 ⟨_,aE⟩⟩
       .exact(ay.append (d1.mono<|aA s14)<|ay.cons d4 ay.nil).mono N
       .rw[c1];cases fV t τ ε δ0 (xs.drop<|i+1)with
        |ok r=>show R.ok _=R.ok _;simp
        |er x=>rfl
        |no=>rfl
  .have e':i=xs.length:=⊥
   subst e';rw[List.drop_length]at c1;have this:∀(p:SA)(o:HO)(H':Hp),ah H H'->H p=U->H' p=J o->kL K (aj (p::M) H') o (D.lst<|es++[])->Q (V.ref p) H':=l es (.ok []) c1;rw[Wz]at this;exact .inl ⟨SK.stop H1 sB,this c _ H1 s1 f e1 ⟨ys,rfl,d1⟩⟩
 mright
theorem oy{K:aT}(b:Wb.K=K)(I:DI K as0 B O own Z Y H)(e:∀j∈ix,∀k,j=J k->k∉O)(SK:w8 K (own++as0) H Jq0 xs)
  (a:match cF t τ ε (dY ix Y) xs with
   |.ok d=>∀p o H',ah H H'->H p=U->H' p=J o->kL K (aj (p::(own++as0)) H') o d->Q (.ref p) H'
   |_=>False):wQ (gD Wb [] t) (lq Wb [] τ) (tD Wb [] ε) Jq0 (mz ix Z) H Q:=by
 refine GA b I e SK ?_;delta cF at a;delta w9;by_cases c:tX t (dY ix Y)=G/\xs.length<=1000000
 .rw[SI c]at a⊢;cases hall:fV t τ ε (dY ix Y) xs with
  |ok ys=>rw[hall]at a;exact a
  |er x=>rw[hall]at a;exact a.elim
  |no=>rw[hall]at a;exact a.elim
 mright
theorem Qy(g:zr osc ON N ix scope=G)(n:JI X tg iter<|iD W O ι)(m:∀b,JG (jm X N scope b) tg<|gD Wb [] t)(l:∀b,Yq (jm X N scope b) ifs<|lq Wb [] τ)(w:∀b,JE (jm X N scope b) elt<|tD Wb [] ε)(v:∀j∈ix,∀k,j=J k->k∉O)
  (a:Wb.K=W.K<|>Rv) (u:X.env.scope=osc<|>Rv) (f:X.N=ON<|>Rv) (e:X.calm=G<|>Rv) (hs:(∀x,pg iter X.env x=pure x)<|>uN):JE X #[4]<|tN W O<|jX ix ι t τ ε:=
 (Qa g n m l w u f e hs).imp fun Z H Q q=>dQ q fun as0 B own Y I h=>⟨as0,B,own,Y,I,by
  delta jX at h;cases hr:ι Y with
  |no=>rw[hr]at h;mleft
  |er x=>rw[hr]at h;exact h
  |ok xs=>
   rw[hr]at h;refine fun i H1 c SK=>oy a (I.mono c) v SK.comp ?_;have h':kX W (own++as0) H (cF t τ ε (dY ix Y) xs) Q:=h;cases hq:cF t τ ε (dY ix Y) xs with
   |ok d=>rw[hq]at h';exact fun p o H' s r=>h' p o H' (c.trans s)<|c.free r
   |er x=>
    delta cF at hq;split at hq
    .cases e:fV t τ ε (dY ix Y) xs<;>rw[e]at hq<;>cases hq
    .cases hq
   |no=>rw[hq]at h';exact h'.elim⟩
theorem LO{i:Nat}{spos pos':Pos}(y:X.N.Nodup)(M:Loc X.env.scope x)(l:zr osc ON N ix scope=G)(r:JI X tg iter<|iD W O ι)(q:∀b,JG (jm X N scope b) tg<|gD Wb [] t)(n:∀b,Yq (jm X N scope b) ifs<|lq Wb [] τ)(E:∀b,JE (jm X N scope b) elt<|tD Wb [] ε)(A:∀j∈ix,∀k,j=J k->k∉O)
  (c:Wb.K=W.K<|>Rv) (C:X.N[i]?=J x<|>Rv) (z:X.env.scope=osc<|>Rv) (g:X.N=ON<|>Rv) (f:X.calm=G<|>Rv)
  (a:Uw #[4] (J<|.Name x pos') spos.line X.env=pure G<|>Rv)
  (F:#[1]<|>XN)
  (hs:(∀x,pg iter X.env x=pure x)<|>uN):JS X (.Assign [.Name x pos'] #[4] spos)<|AL (tN W O<|jX ix ι t τ ε)<|ml i:=
 (Ap y M l r q n E C z g f a F hs).imp fun D Z H v=>dQ v fun as0 B own Y I h=>⟨as0,B,own,Y,I,by
  delta jX at h;cases hr:ι Y with
  |no=>rw[hr]at h;mleft
  |er x=>rw[hr]at h;exact h
  |ok xs=>
   rw[hr]at h;refine fun m H1 e SK=>oy c (I.mono e) A SK.comp ?_;have h':kX W (own++as0) H (cF t τ ε (dY ix Y) xs) (fun x H1=>ml i x Z H1 D.nx):=h;cases hq:cF t τ ε (dY ix Y) xs with
   |ok d=>rw[hq]at h';exact fun p o H' s w=>h' p o H' (e.trans s)<|e.free w
   |er x=>
    delta cF at hq;split at hq
    .cases f:fV t τ ε (dY ix Y) xs<;>rw[f]at hq<;>cases hq
    .cases hq
   |no=>rw[hq]at h';exact h'.elim⟩
theorem L7{st:SU}(c:i∉O)(h:JS X st<|AL (tN W O ε)<|ml i):JS X st<|sD W Ob O (i::O)<|Av i ε:=h.imp fun D Z H a=>dQ a fun as0 B own Y I h=>
 ⟨as0,B,own,Y,I,kg I h fun d p o H' s b e f h'=>by
  split at h'
  .rename_i hl;exact h' _ _ H'<|ze I c s b e f hl
  .exact h'.elim⟩
theorem KC{st:SU}(c:i∉O)(h:JS X st<|AL (tN W O ε)<|ml i):JS X st<|sD W Ob O O<|rZ i ε:=h.imp fun D Z H a=>dQ a fun as0 B own Y I h=>
 ⟨as0,B,own,Y,I,kg I h fun d p o H' s b e f h'=>h' own _ H'<|(I.mono s).set c<|f.den (I.new b) e⟩
end
def gd(N:SH)(ds:Rx):Sd:=ds.map J++Ut (N.length-ds.length) U
def gx(φ:FS)(N P:SH)(ds:Rx):R D:=if ds.length=P.length then(φ<|gd N ds).bind fun f=>match f with
 |.rt d=>.ok d
 |.rn d=>.ok d
 |.nx _=>.ok .S9
 |_=>.no
 else .no
def rj(K:aT)(mg:Sq)(F:Rx->R D):Sp:=fun vs H Q _=>∃as ds,(∀a∈as,H a≠U)/\ay K (aj as H) ds vs/\cP ⟨K,mg,E0⟩ as H (F ds) Q
section
variable{P:Tc}{w:Sl}{K:aT}{mg:Sq}{base:T3}
theorem mZ:∀{ds:Rx}{vs:Se}{i:Nat}{d:D},ay K H ds vs->∀{n:Nat},(ds.map J++Ut n U)[i]?=J (J d)->∃v,(vs.map J++Ut n U)[i]?=J (J v)/\bQ K H d v:=by
 intro ds vs i d h n e;have b:=h.len;by_cases a:i<ds.length
 .rw[uy<|by simpa using a]at e;rw[uy<|by simp_all];cases q:ds[i]? with
  |none=>mright
  |some d'=>
   obtain⟨v,h1,h2⟩:=h.get q
   mright
 .rw[nN<|by simpa using a,yg]at e;split at e<;>cases e
theorem UD.okD{st:SU}(F:UD K x qual st f fd)(S:Vr N ps<|ai st)
  (g:∀(c:nE)(_:Ea K c qual=G)(A:Tx)(b:List Env)(s:ID)(H:Hp)(E:XK),TZ k (A.deeper<|W7 qual (ai st) s.heap.objs.size f c) ->
   JB (gw lD P w K mg base N qual (ai st) f c A b s H E).Xe (bL st) (sD ⟨K,mg,E0⟩ [] [] O' φ)):T8 P w K mg base lD (k+1) f fd ps (rj K mg (gx φ N ps)):=by
 refine F.Wx S (fun vs H Q E h=>?_) fun c m A b s H vs Q E j h=>?_
 .obtain⟨as,ds,ex,l,h⟩:=h;delta gx at h;cbv
  .rename_i hl;rw[<-l.len];exact hl
  .mleft
 .obtain⟨as,ds,ex,l,h⟩:=h
  delta gx at h;cbv
  .refine⟨_,g c m A b s H E j,as,H,[],gd N ds,⟨?_,rfl,Yv,Yv,fun a q=>(nomatch q),ex,ah.refl _,fun i d _ e=>?_,fun i a h=>(by simp at h)⟩,?_⟩
   .delta gd start;simp[l.len]
   .delta start;rw[<-l.len];exact mZ l e
   .cases j:φ (gd N ds)with
    |ok fl=>
     rw[j]at h;cases fl with
     |rt d=>assumption
     |rn d=>exact fun p o H' s n e r=>h (.ref p) H' s<|r.den (fun z=>ex p z n) e
     |nx Y=>exact fun own Z H' I=>h .S9 H' I.same rfl
     |bk Y=>mleft
     |ct Y=>mleft
    |er x=>rw[j]at h;exact fun e C H' s=>h e C H' s
    |no=>rw[j]at h;mleft
  .mleft
section
variable{P:Tc}{w:Sl}{K:aT}{mg:Sq}{base:Heap}
def gA(φ:FS)(N P:SH)(ds:Rx):R D:=if ds.length=P.length then(φ<|gd N ds).bind fun f=>match f with
 |.rn d=>.ok d
 |_=>.no
 else .no
end
section
variable{P:Tc}{w:Sl}{K:aT}{mg:Sq}{base:Heap}
def l4(K:aT)(mg:Sq)(F:Rx->R D):Sp:=fun vs H Q _=>∃as ds,(∀a∈as,H a≠U)/\ay K (aj as H) ds vs/\kX ⟨K,mg,E0⟩ as H (F ds) Q
end
section
variable{P:Tc}{w:Sl}{K:aT}{mg:Sq}{base:Heap}
theorem UD.okN{P:Tc}{w:Sl}{K:aT}{mg:Sq}{base:Heap}{x qual:Str}{st:SU}{f:SA}{fd:FuncData}{N ps:SH}{k:Nat}{φ:FS}{O':Ru}(F:UD K x qual st f fd)(S:Vr N ps<|ai st)
  (hbody:∀(cdv:nE)(_:Ea K cdv qual=G)(A:Around)(outer:List Env)(s:ID)(H:Hp)(E:XK),TZ k (A.deeper<|envOfC qual (ai st) s.heap.objs.size f cdv) ->
   JB (gw lD P w K mg base N qual (ai st) f cdv A outer s H E).Xe (bL st) (sD ⟨K,mg,E0⟩ [] [] O' φ)):T8 P w K mg base lD (k+1) f fd ps (l4 K mg (gA φ N ps)):=by
 refine F.Wx S (fun vs H Q E h=>?_) fun cdv hcd A outer s H vs Q E hr h=>?_
 .obtain⟨as,ds,ex,dv,h⟩:=h;unfold gA at h;cbv
  .rename_i hl;rw[<-dv.len];exact hl
  .mleft
 .obtain⟨as,ds,ex,dv,h⟩:=h;unfold gA at h;cbv
  .rename_i hl;refine⟨_,hbody cdv hcd A outer s H E hr,as,H,[],gd N ds,⟨?_,rfl,Yv,Yv,fun a ha=>(nomatch ha),ex,ah.refl _,fun i d _ e=>?_,fun i a h=>(by simp at h)⟩,?_⟩
   .unfold gd start;simp[dv.len]
   .unfold gd at e;unfold start;rw[<-dv.len];exact mZ dv e
   .cases hr:φ (gd N ds)with
    |ok fl=>
     rw[hr]at h;cases fl with
     |rn d=>exact fun p o H' s hp e od=>h p o H' s hp e od
     |rt d=>mleft
     |nx Y=>mleft
     |bk Y=>mleft
     |ct Y=>mleft
    |er x=>rw[hr]at h;exact fun e C H' s=>h e C H' s
    |no=>rw[hr]at h;mleft
  .mleft
end
end
section
variable{W:Wd}{X:Cx}
theorem ax(h:cP W as H (.ok d) Q)(hd:bQ W.K (aj as H) d v):Q v H:=h v H (ah.refl _) hd
section
variable{W:Wd}{X:Cx}
theorem ag4:eJ X (binaryOp .Add) (fun x y H Q=>∃l b xs zs,x=.ref l/\y=.ref b/\gr X.K H l xs/\gr X.K H b zs/\xs.length+zs.length<=sizeLine/\∀p,H p=U->Q (.ref p) (br H p<|.lst<|xs++zs)):=by
 intro aa s Z H x y v u Q I c a h;obtain⟨l,b,xs,zs,rfl,rfl,hH,hB,hz,q⟩:=h;cases c;cases a;obtain⟨aV,r,pl,hl⟩:=I.list hH;obtain⟨its2,r2,pl2,hl2⟩:=I.list hB;obtain⟨⟨cls,dd,data,sl⟩,ho,hc,n,hd⟩:=pl.isList;obtain⟨⟨cls2,dd2,data2,sl2⟩,ho2,hc2,n2,hd2⟩:=pl2.isList;subst hc hd hc2 hd2;have e:aV.toArray++its2.toArray=(aV++its2).toArray:=∅
 refine concat_meets ⟨_,ho,rfl⟩ ⟨_,ho2,rfl⟩ noFill_list_add seq_list_add PySem.F.slot_list_add PySem.F.entry_list_add (PySem.F.args_list_add_2 _ _) (list_addW l b aV.toArray its2.toArray n n2 dd dd2 sl sl2<|by rw[XC,XC,<-r.length,<-r2.length];exact hz) ⟨ho,ho2,?_⟩;rw[e];exact⟨.ref _,_,I.ex0 (r.append r2)<|by grind,rfl,q _ I.fresh⟩
end
noncomputable def zI(a b:D):R D:=match a,b with
 |.int i,.int j=>.ok<|.int<|i-j
 |_,_=>.no
section
variable{W:Wd}{X:Cx}
theorem anr:wo W Sb zI:=by
 intro as H x y a b Q hn da db h;unfold zI at h;cbv
 .cases da;cases db;exact ax h rfl
 .mleft
end
theorem AN:eJ X (Yo .Mult) (fun x y H Q=>∃i n,x=.str i/\y=.int n/\MulOk i n/\Q (.str<|Txt.mul i n) H):=by
 intro aa s Z H x y v u Q I c b h;obtain⟨i,n,rfl,rfl,a,q⟩:=h;obtain⟨t,rfl⟩:=c;obtain⟨t',rfl⟩:=b;exact aO I.tk<|SB.mul a fun t' k d=>⟨.str _,H,I.tok _,⟨t',rfl⟩,q⟩
def MF:UL:=fun x y H Q=>match x,y with
 |.int i,.int j=>y3 i j/\Q (.int<|i*j) H
 |.str i,.int j=>MulOk i j/\Q (.str<|Txt.mul i j) H
 |_,_=>False
section
variable{W:Wd}{X:Cx}
theorem ame:eJ X (binaryOp .Mult) MF:=(Q0.or AN).imp fun x y H Q q=>by
 unfold MF at q;split at q
 .exact .inl ⟨_,_,rfl,rfl,q.1,q.2⟩
 .mright
 .exact q.elim
end
instance (i j:Int):Decidable<|y3 i j:=by unfold y3;infer_instance
instance (i j:Int):Decidable<|ET i j:=by unfold ET;infer_instance
instance (i j:Int):Decidable<|Iy i j:=by unfold Iy;infer_instance
noncomputable def qX(a b:D):R D:=match a,b with
 |.int i,.int j=>if y3 i j then .ok (.int<|i*j)else .no
 |.str x,.int n=>if x.length<=1000/\-1000<=n/\n<=1000 then .ok (.str<|Txt.mul x n)else .no
 |_,_=>.no
theorem byt:wo W MF qX:=by
 intro as H x y a b Q e c d h;delta qX at h;cbv
 .subst c;subst d;cbv
  .rename_i hl;exact⟨hl,ax h rfl⟩
  .mleft
 .subst c;subst d;cbv
  .rename_i hl;exact⟨mulOk_of 1000 1000 hl.1 (by mright) ⊥ ∅<|∅,ax h rfl⟩
  .mleft
 .mleft
noncomputable def lO(a b:D):R D:=match a,b with
 |.int i,.int j=>if ET i j then .ok (.int<|i/j)else .no
 |_,_=>.no
section
variable{W:Wd}{X:Cx}
theorem anj:wo W Um lO:=by
 intro as H x y a b Q hn da db h;unfold lO at h;cbv
 .cases da;cases db;cbv
  .rename_i hl;exact⟨hl,ax h rfl⟩
  .mleft
 .mleft
end
noncomputable def gk(a b:D):R D:=match a,b with
 |.int i,.int j=>if 0<j then .ok (.int<|i%j)else .no
 |_,_=>.no
section
variable{W:Wd}{X:Cx}
theorem anm:wo W Sz gk:=by
 intro as H x y a b Q hn da db h;unfold gk at h;cbv
 .cases da;cases db;cbv
  .rename_i hl;exact⟨hl,ax h rfl⟩
  .mleft
 .mleft
end
noncomputable def oq(a b:D):R D:=match a,b with
 |.int i,.int j=>if Iy i j then .ok (.int<|i^j.toNat)else .no
 |_,_=>.no
section
variable{W:Wd}{X:Cx}
theorem anp:wo W D2 oq:=by
 intro as H x y a b Q hn da db h;unfold oq at h;cbv
 .cases da;cases db;cbv
  .rename_i hl;exact⟨hl,ax h rfl⟩
  .mleft
 .mleft
end
noncomputable def QN(a:D):R D:=match a with
 |.int i=>.ok<|.int<|-i
 |_=>.no
section
variable{W:Wd}{X:Cx}
theorem ano:YB W UU QN:=by
 intro as H x a Q da h;unfold QN at h;cbv
 .cases da;exact ax h rfl
 .mleft
end
noncomputable def zF(a b:D):R D:=match a,b with
 |.int i,.int j=>.ok<|.bl<|decide (i<j)
 |.str i,.str j=>.ok<|.bl<|decide (i.cps.toList<j.cps.toList)
 |_,_=>.no
noncomputable def Mp(a b:D):R D:=match a,b with
 |.int i,.int j=>.ok<|.bl<|decide (i<=j)
 |.str i,.str j=>.ok<|.bl<|!decide (j.cps.toList<i.cps.toList)
 |_,_=>.no
noncomputable def Ed(a b:D):R D:=match a,b with
 |.int i,.int j=>.ok<|.bl<|decide (j<i)
 |.str i,.str j=>.ok<|.bl<|decide (j.cps.toList<i.cps.toList)
 |_,_=>.no
noncomputable def C9(a b:D):R D:=match a,b with
 |.int i,.int j=>.ok<|.bl<|decide (j<=i)
 |.str i,.str j=>.ok<|.bl<|!decide (i.cps.toList<j.cps.toList)
 |_,_=>.no
theorem Z5:wo W Xn zF:=by
 intro as H x y a b Q e c d h;delta zF at h;cbv
 .subst c;subst d;exact ax h rfl
 .subst c;subst d;exact ax h rfl
 .mleft
theorem ZC:wo W Yy Mp:=by
 intro as H x y a b Q e c d h;delta Mp at h;cbv
 .subst c;subst d;exact ax h rfl
 .subst c;subst d;exact ax h rfl
 .mleft
theorem ZG:wo W W9 Ed:=by
 intro as H x y a b Q e c d h;delta Ed at h;cbv
 .subst c;subst d;exact ax h rfl
 .subst c;subst d;exact ax h rfl
 .mleft
theorem YO:wo W XA C9:=by
 intro as H x y a b Q e c d h;delta C9 at h;cbv
 .subst c;subst d;exact ax h rfl
 .subst c;subst d;exact ax h rfl
 .mleft
def WS:D->Bool
 |.S9=>G
 |_=>η
noncomputable def WO(j:Bool):D->Bool
 |.bl i=>i==j
 |_=>η
def OU(x:D)(y:D):R D:=match y with
 |.S9=>.ok<|.bl<|WS x
 |.bl j=>.ok<|.bl<|WO j x
 |_=>.no
def rX(x:D)(y:D):R D:=match y with
 |.S9=>.ok<|.bl<|!WS x
 |.bl j=>.ok<|.bl<|!WO j x
 |_=>.no
theorem vj{K:aT}(h:bQ K H a x):BI x .S9=WS a:=by
 cases a with
 |lst _=>obtain⟨_,_,rfl,_⟩:=h;rfl
 |tup _=>obtain⟨_,_,rfl,_⟩:=h;rfl
 |Xx _=>obtain⟨_,_,rfl,_⟩:=h;rfl
 |obj _ _=>obtain⟨_,_,_,_,rfl,_⟩:=h;rfl
 |jT _=>obtain⟨_,_,rfl,_⟩:=h;rfl
 |cls _=>obtain⟨_,rfl,_⟩:=h;rfl
 |WK _=>obtain⟨_,_,rfl,_⟩:=h;rfl
 |fu _=>obtain⟨_,_,_,rfl,_⟩:=h;rfl
 |_=>subst h;rfl
theorem uS{K:aT}(h:bQ K H a x):BI x (.bl j)=WO j a:=by
 cases a with
 |lst _=>obtain⟨_,_,rfl,_⟩:=h;rfl
 |tup _=>obtain⟨_,_,rfl,_⟩:=h;rfl
 |Xx _=>obtain⟨_,_,rfl,_⟩:=h;rfl
 |obj _ _=>obtain⟨_,_,_,_,rfl,_⟩:=h;rfl
 |jT _=>obtain⟨_,_,rfl,_⟩:=h;rfl
 |cls _=>obtain⟨_,rfl,_⟩:=h;rfl
 |WK _=>obtain⟨_,_,rfl,_⟩:=h;rfl
 |fu _=>obtain⟨_,_,_,rfl,_⟩:=h;rfl
 |_=>subst h;rfl
theorem YX:wo W Wu OU:=by
 intro as H x y a b Q e c d h;delta OU at h;cbv
 .subst d;show Q (.bl<|BI x .S9) H;rw[vj c];exact ax h rfl
 .subst d;show Q (.bl<|BI x<|.bl _) H;rw[uS c];exact ax h rfl
 .mleft
theorem Fj:wo W z6 rX:=by
 intro as H x y a b Q e c d h;delta rX at h;cbv
 .subst d;show Q (.bl<|!BI x .S9) H;rw[vj c];exact ax h rfl
 .subst d;show Q (.bl<|!BI x (.bl _)) H;rw[uS c];exact ax h rfl
 .mleft
mutual
def kZ:D->Option PyData
 |.S9=>J .none
 |.bl b=>J<|.bool b
 |.int i=>J<|.int i
 |.str x=>J<|.str x
 |.lst xs=>(ma xs).map .list
 |.tup xs=>(ma xs).map .tuple
 |_=>U
def ma:Rx->Option (List PyData)
 |[]=>J []
 |d::ds=>(kZ d).bind fun p=>(ma ds).map (p::·)
end
mutual
theorem kz{aa:TQ}{Z:St}{H:Hp}{s:ID}(I:Inv X aa Z H s):∀{d:D}{v:V}{u:nE}{p:PyData},bQ X.K H d v->aP v u->kZ d=J p->∃as,Reads s.heap u p as
 |.S9,_,_,_,h,r,e=>by subst h;subst r;cases e;exact⟨_,.none⟩
 |.bl b,_,_,_,h,r,e=>by subst h;subst r;cases e;exact⟨_,.bool b⟩
 |.int i,_,_,_,h,r,e=>by subst h;obtain⟨t,rfl⟩:=r;cases e;exact⟨_,.int i t⟩
 |.str x,_,_,_,h,r,e=>by subst h;obtain⟨t,rfl⟩:=r;cases e;exact⟨_,.str x t⟩
 |.lst ds,_,_,_,⟨a,xs,h0,h1,h2⟩,r,e=>by
  subst h0;subst r;unfold kZ at e;cases q:ma ds with
  |none=>rw[q]at e;cases e
  |some ps=>
   rw[q]at e;cases e;obtain⟨aV,rv,pl,hz⟩:=I.list h1
   obtain⟨o,ho,hc,n,hd⟩:=pl.isList
   obtain⟨as,ha⟩:=kI I h2 rv q
   exact⟨_,.list ho hc hd<|by assumption⟩
 |.tup ds,_,_,_,⟨a,xs,h0,h1,h2⟩,r,e=>by
  subst h0;subst r;unfold kZ at e;cases q:ma ds with
  |none=>mright
  |some ps=>
   rw[q]at e;cases e;obtain⟨aV,rv,pl,hz⟩:=I.tuple h1
   obtain⟨o,ho,hc,n,hd⟩:=pl
   obtain⟨as,ha⟩:=kI I h2 rv q
   exact⟨_,.tuple ho hc hd<|⊤⟩
 |.Xx _,_,_,_,_,_,e=>by cases e
 |.obj _ _,_,_,_,_,_,e=>by cases e
 |.ty _,_,_,_,_,_,e=>by cases e
 |.jT _,_,_,_,_,_,e=>by cases e
 |.cls _,_,_,_,_,_,e=>by cases e
 |.WK _,_,_,_,_,_,e=>by cases e
 |.fu _,_,_,_,_,_,e=>by cases e
theorem kI{aa:TQ}{Z:St}{H:Hp}{s:ID}(I:Inv X aa Z H s):∀{ds:Rx}{vs:Se}{us:TK}{ps:List PyData},ay X.K H ds vs->aU vs us->ma ds=J ps->∃as,ReadsAll s.heap us ps as
 |[],_,_,_,h,r,e=>by subst h;cases r;cases e;exact⟨_,.nil⟩
 |d::ds,_,_,_,⟨v,vs,h0,h1,h2⟩,r,e=>by
  subst h0;unfold ma at e;cases q:kZ d with
  |none=>mright
  |some p=>
   rw[q]at e;cases q2:ma ds with
   |none=>mright
   |some ps=>
    rw[q2]at e;cases e;cases r with
    |cons r1 r2=>
     obtain⟨as,ha⟩:=kz I h1 r1 q
     obtain⟨bs,hb⟩:=kI I h2 r2 q2
     exact⟨_,.cons ha hb⟩
end
noncomputable def g7:D->Option V
 |.S9=>J .S9
 |.bl b=>J<|.bl b
 |.int i=>J<|.int i
 |.str x=>J<|.str x
 |_=>U
theorem gn{K:aT}(h:bQ K H d v)(e:g7 d=J x):v=x:=by
 cases d with
 |S9=>cases e;exact h
 |bl b=>cases e;exact h
 |int b=>cases e;exact h
 |str b=>cases e;exact h
 |_=>cases e
def jt(a b:D):Option Bool:=match kZ a,kZ b with
 |some p,J q=>if jw p=G/\jw q=G then J (BK p q)else U
 |_,_=>U
def zy(a b:D):Option Bool:=match g7 a,g7 b with
 |some x,J y=>if wI x y=G then J (decide (x=y))else U
 |_,_=>jt a b
def GE(K:aT)(f:Bool->Bool):UL:=fun x y H Q=>∃a b k,bQ K H a x/\bQ K H b y/\zy a b=J k/\Q (.bl<|f k) H
theorem yJ(h:jt a b=J k):∃p q,kZ a=J p/\kZ b=J q/\jw p=G/\jw q=G/\k=BK p q:=by
 delta jt at h;cbv
 .mright
 .nofun
theorem UJ(K:aT)(i:X.A.units+64<cLine)(g:X.K=K<|>Rv):eJ X (UI .Eq)<|GE K fun k=>k:=by
 subst g;intro aa s Z H x y v u Q I d c h;left;obtain⟨a,b,k,da,db,e,q⟩:=h
 delta zy at e;split at e
 .right;rename_i m n e1 e2;split at e
  .rename_i hs;cases e
   have:=gn da e1;subst this
   have:=gn db e2;subst this
   exact aaD aa s Z H _ _ v u Q I d c ⟨hs,q⟩
  .cases e
 .obtain⟨p,l,h1,h2,j,f,rfl⟩:=yJ e;obtain⟨as,ra⟩:=kz I da d h1
  obtain⟨bs,rb⟩:=kz I db c h2
  right;exact eq_dataH ra rb j f i ⟨.bl _,H,I,rfl,q⟩
theorem TR(K:aT)(i:X.A.units+64<cLine)(g:X.K=K<|>Rv):eJ X (UI .NotEq)<|GE K fun k=>!k:=by
 subst g;intro aa s Z H x y v u Q I d c h;left;obtain⟨a,b,k,da,db,e,q⟩:=h
 delta zy at e;split at e
 .right;rename_i m n e1 e2;split at e
  .rename_i hs;cases e
   have:=gn da e1;subst this
   have:=gn db e2;subst this
   exact aaY aa s Z H _ _ v u Q I d c ⟨hs,q⟩
  .cases e
 .obtain⟨p,l,h1,h2,j,f,rfl⟩:=yJ e;obtain⟨as,ra⟩:=kz I da d h1
  obtain⟨bs,rb⟩:=kz I db c h2
  right;exact ne_dataH ra rb j f i ⟨.bl _,H,I,rfl,q⟩
noncomputable def lU(o:Option Bool)(f:Bool->Bool):R D:=match o with
 |some k=>.ok<|.bl<|f k
 |none=>.no
def jp(a b:D):R D:=lU (zy a b) fun k=>k
def xF(a b:D):R D:=lU (zy a b) fun k=>!k
theorem S6(K:aT)(f:Bool->Bool)(d:W.K=K<|>Rv):wo W (GE K f) (fun a b=>lU (zy a b) f):=by
 subst d;intro as H x y a b Q i c g h;have h:cP W as H (lU (zy a b) f) Q:=h;cases e:zy a b with
 |none=>rw[e]at h;mleft
 |some k=>
  rw[e]at h;exact⟨a,b,k,c.mono<|aD _ _,g.mono<|aD _ _,e,ax h rfl⟩
theorem IJ(K:aT)(a:W.K=K<|>Rv):wo W (GE K fun k=>k) jp:=S6 K _ a
theorem Z0(K:aT)(a:W.K=K<|>Rv):wo W (GE K fun k=>!k) xF:=S6 K _ a
def kA:Rx->Option (Se)
 |[]=>J []
 |d::ds=>(g7 d).bind fun v=>(kA ds).map (v::·)
theorem ab9{K:aT}{H:Hp}:∀{ds:Rx}{vs xs:Se},ay K H ds vs->kA ds=J xs->vs=xs/\xs.all ic=G:=@TB _ _ (@fun _ _ h e=>by subst h;cases e;exact⟨rfl,rfl⟩) fun d ds i_=>@fun _ _ q2_ e=>Tw q2_ fun v vs h0 h1 h2=>by
  subst h0;unfold kA at e;cases q:g7 d with
  |none=>mright
  |some x=>
   rw[q]at e;cases q2:kA ds with
   |none=>mright
   |some xs=>
    rw[q2]at e;cases e;obtain⟨h3,h4⟩:=i_ h2 q2
    refine⟨by rw[gn h1 q,h3],?_⟩;rw[Vg,h4];cases d<;>cases q<;>rfl
theorem Ay(e:g7 d=J x):ic x=G:=by cases d<;>cases e<;>rfl
def Jo(j i:Str):Bool:=!(jb j i 0 j.length 1).isEmpty
def xR(K:aT)(a:Bool):UL:=fun x y H Q=>match x,y with
 |.str i,.str j=>Q (.bl<|if a=G then !Jo j i else Jo j i) H
 |x,.ref p=>∃xs,(gr K H p xs\/m7 K H p xs)/\ic x=G/\xs.all ic=G/\Q (.bl<|if a=G then !Eh x xs else Eh x xs) H
 |_,_=>False
theorem TC(K:aT)(a:X.K=K<|>Rv):eJ X (UI .In)<|xR K η:=by
 subst a;refine(Dp.or Dh).imp fun x y H Q q=>?_;unfold xR at q;split at q
 .exact .inl ⟨_,_,rfl,rfl,q⟩
 .refine gR q fun xs h1 h2 c b=>?_
  exact .inr ⟨_,xs,rfl,h1,h2,c,b⟩
 .exact q.elim
theorem Ca(K:aT)(b:X.K=K<|>Rv):eJ X (UI .NotIn)<|xR K G:=by
 subst b;refine(wS.or wn).imp fun x y H Q q=>?_;unfold xR at q;split at q
 .exact .inl ⟨_,_,rfl,rfl,q⟩
 .refine gR q fun xs h1 h2 c a=>?_;exact .inr ⟨_,xs,rfl,h1,h2,c,a⟩
 .exact q.elim
def vo(x:D)(xs:Rx):Option Bool:=match g7 x,kA xs with
 |some v,J vs=>J<|Eh v vs
 |_,_=>U
def Ue(x y:D):Option Bool:=match y with
 |.str j=>match x with
  |.str i=>J<|Jo j i
  |_=>U
 |.lst xs=>vo x xs
 |.tup xs=>vo x xs
 |_=>U
def rE(x y:D):R D:=lU (Ue x y) fun k=>if η=G then !k else k
def mI(x y:D):R D:=lU (Ue x y) fun k=>if G=G then !k else k
theorem R8(K:aT)(c:Bool)(f:W.K=K<|>Rv):wo W (xR K c) (fun a b=>lU (Ue a b) fun k=>if c=G then !k else k):=by
 subst f;intro as H x y a b Q m e d h;have key:∀(p:SA)(ds:Rx)(vs:Se),y=.ref p->(gr W.K H p vs\/m7 W.K H p vs)->ay W.K (aj as H) ds vs->cP W as H (lU (vo a ds) fun k=>if c=G then !k else k) Q->xR W.K c x y H Q:=by
  intro p ds vs l g hd h;subst l;delta vo at h;cases e1:g7 a with
  |none=>rw[e1]at h;mleft
  |some v=>
   rw[e1]at h;cases e2:kA ds with
   |none=>rw[e2]at h;mleft
   |some ws=>
    rw[e2]at h
    have:=gn e e1
    subst this;obtain⟨h3,h4⟩:=ab9 hd e2
    subst h3;have fin:∃xs,(gr W.K H p xs\/m7 W.K H p xs)/\ic x=G/\xs.all ic=G/\Q (.bl<|if c=G then !Eh x xs else Eh x xs) H:=⟨vs,g,Ay e1,h4,ax h rfl⟩;cases x<;>exact fin
 cases b with
 |str j=>
  cases a with
  |str i=>subst e;subst d;exact ax h rfl
  |_=>mleft
 |lst ds=>obtain⟨p,vs,rfl,q1,q2⟩:=d;exact key p ds vs rfl (.inl<|(aD _ _).seq q1) q2 h
 |tup ds=>obtain⟨p,vs,rfl,q1,q2⟩:=d;exact key p ds vs rfl (.inr<|(aD _ _).Wt q1) q2 h
 |_=>mleft
theorem Zj(K:aT)(a:W.K=K<|>Rv):wo W (xR K η) rE:=R8 K η a
theorem Ht(K:aT)(a:W.K=K<|>Rv):wo W (xR K G) mI:=R8 K G a
def cR(a b:D):R D:=match a,b with
 |.str z,.int i=>if z.length<=1000000 then(match Uq z.cps.toList i with
  |some c=>.ok<|.str ⟨#[c]⟩
  |none=>.no)else .no
 |.lst xs,.int i=>match Uq xs i with
  |some d=>.ok d
  |none=>.no
 |.tup xs,.int i=>match Uq xs i with
  |some d=>.ok d
  |none=>.no
 |_,_=>.no
theorem ay.Uq{K:aT}(h:ay K H ds xs)(e:Uq ds i=J d):∃v,L2.Uq xs i=J v/\bQ K H d v:=by
 delta L2.Uq at e⊢;rw[h.len]at e;cases q:C5 xs.length i with
 |none=>mright
 |some j=>
  rw[q]at e;exact h.get e
theorem YZ(K:aT)(i:W.K=K<|>Rv):wo W (TD K) cR:=by
 subst i;intro as H x y a b Q j f g h;delta cR at h;cbv
 .subst f;subst g;cbv
  .rename_i hl;cbv
   .rename_i c e;exact⟨c,RW hl ck,e,ax h rfl⟩
   .mleft
  .mleft
 .obtain⟨p,vs,rfl,q1,q2⟩:=f;cases g;cbv
  .rename_i d e;obtain⟨v,h1,h2⟩:=q2.Uq e
   exact⟨vs,v,.inl<|(aD _ _).seq q1,h1,ax h h2⟩
  .mleft
 .obtain⟨p,vs,rfl,q1,q2⟩:=f;cases g;cbv
  .rename_i d e;obtain⟨v,h1,h2⟩:=q2.Uq e
   exact⟨vs,v,.inr<|(aD _ _).Wt q1,h1,ax h h2⟩
  .mleft
 .mleft
def EL(xs:Rx)(lo a:Option Int):Rx:=(xs.drop<|HT.T5 xs.length 0 lo).take<|HT.T5 xs.length xs.length a-HT.T5 xs.length 0 lo
theorem ay.cut{K:aT}(h:ay K H ds xs)(lo hi:Option Int):ay K H (EL ds lo hi)<|nT xs lo hi:=by
 unfold EL nT;rw[h.len];exact(h.drop _).take _
noncomputable def cr(ds:Rx):R D:=match ds with
 |[.str z]=>if z.length<=1000000 then .ok (.int z.length)else .no
 |[.lst xs]=>.ok<|.int xs.length
 |[.tup xs]=>.ok<|.int xs.length
 |_=>.no
theorem gy{K:aT}(h:ay K H [d] xs):∃v,xs=[v]/\bQ K H d v:=by
 obtain⟨v,vs,rfl,h1,h2⟩:=h;subst h2;exact⟨v,rfl,h1⟩
theorem BB{K:aT}(h:ay K H [d,e] xs):∃v u,xs=[v,u]/\bQ K H d v/\bQ K H e u:=by
 obtain⟨v,vs,rfl,h1,h2⟩:=h;obtain⟨u,rfl,a⟩:=gy h2;exact⟨v,u,rfl,h1,a⟩
theorem abl(K:aT)(c:W.K=K<|>Rv):nU W (PJ K) cr:=by
 subst c;intro as H xs ds Q d b h;delta cr at h;cbv
 .obtain⟨v,rfl,a⟩:=gy b;subst a;cbv
  .rename_i hl;exact⟨RW hl ck,ax h rfl⟩
  .mleft
 .obtain⟨v,rfl,a⟩:=gy b;obtain⟨p,vs,rfl,q1,q2⟩:=a;refine⟨vs,.inl<|(aD _ _).seq q1,?_⟩;rw[<-q2.len];exact ax h rfl
 .obtain⟨v,rfl,a⟩:=gy b;obtain⟨p,vs,rfl,q1,q2⟩:=a;refine⟨vs,.inr<|(aD _ _).Wt q1,?_⟩;rw[<-q2.len];exact ax h rfl
 .mleft
noncomputable def J8(ds:Rx):R D:=match ds with
 |[.int i]=>.ok<|.int i
 |[.bl k]=>.ok<|.int<|if k=G then 1 else 0
 |_=>.no
section
variable{W:Wd}{X:Cx}
theorem ank:Cw W Sh J8:=by
 intro as H xs ds Q hn dv h;unfold J8 at h;cbv
 .obtain⟨v,rfl,d1⟩:=gy dv;cases d1;exact ax h rfl
 .obtain⟨v,rfl,d1⟩:=gy dv;cases d1;exact ax h rfl
 .mleft
end
noncomputable def yK:Rx->Option (List Bool)
 |[]=>J []
 |.bl b::ds=>(yK ds).map (b::·)
 |_=>U
theorem lpB{K:aT}:∀{ds:Rx}{vs:Se}{bs:List Bool},ay K H ds vs->yK ds=J bs->vs=bs.map V.bl:=@TB _ _ (@fun _ _ h e=>by subst h;cases e;rfl) fun d ds i_=>@fun _ _ q2_ e=>Tw q2_ fun v vs h0 h1 h2=>by
  subst h0;cases d with
  |bl b=>
   have e:(yK ds).map (b::·)=J _:=e;cases q2:yK ds with
   |none=>mright
   |some xs=>
    rw[q2]at e;cases e;subst h1;rw[i_ h2 q2];rfl
  |_=>cases e
def Dd(ds:Rx):R D:=match ds with
 |[.lst xs]=>match yK xs with
  |some bs=>.ok<|.bl<|bs.all id
  |none=>.no
 |_=>.no
theorem WF(K:aT)(b:W.K=K<|>Rv):nU W (Ro K) Dd:=by
 subst b;intro as H xs ds Q d a h;delta Dd at h;cbv
 .obtain⟨v,rfl,c⟩:=gy a;obtain⟨p,vs,rfl,q1,q2⟩:=c;cbv
  .rename_i bs e;refine⟨bs,?_,ax h rfl⟩;rw[<-lpB q2 e];exact(aD _ _).seq q1
  .mleft
 .mleft
def Hk(K:aT)(xs:Se)(H:Hp)(Q:VK):Prop:=match xs with
 |[x,.ty C]=>qm C=G/\(match x with
  |.S9=>Q (.bl<|kQ "NoneType" C) H
  |.bl _=>Q (.bl<|kQ "bool" C) H
  |.int _=>Q (.bl<|kQ "int" C) H
  |.str _=>Q (.bl<|kQ "str" C) H
  |.ref a=>(∃xs,gr K H a xs/\Q (.bl<|kQ "list" C) H)\/(∃xs,m7 K H a xs/\Q (.bl<|kQ "tuple" C) H)\/(∃b,H a=J (.dK b)/\Q (.bl<|kQ "dict" C) H)\/∃o b,H a=J (.WC o<|.dK b)/\Q (.bl<|kQ "dict" C) H
  |_=>False)
 |_=>False
theorem Wp(K:aT)(m:X.K=K<|>Rv):bI X (.builtin "isinstance")<|Hk K:=by
 subst m;intro aa s Z H xs us Q I r h;delta Hk at h;cbv
 .rename_i x C;obtain⟨d,h⟩:=h;obtain⟨u,c,rfl,f,rc⟩:=ya r;subst rc;have fin:∀(b:Bool),Q (.bl b) H->∀tk,X.tn<=tk->EP X aa Z Q (.bool b) {s with toks:=tk}:=fun b q tk p=>⟨.bl b,H,I.tok tk,rfl,q⟩;refine aO I.tk ?_;left;cases x with
  |S9=>right;exact iP I f .S9 (gZ (.inl rfl) d)<|fin _ h
  |bl b=>right;exact iP I f (.bl b) (gZ (.inr<|.inl rfl) d)<|fin _ h
  |int b=>right;exact iP I f (.int b) (gZ (.inr<|.inr<|.inl rfl) d)<|fin _ h
  |str b=>right;exact iP I f (.str b) (gZ (.inr<|.inr<|.inr<|.inl rfl) d)<|fin _ h
  |ref a=>
   subst f;rcases h with⟨xs,e,q⟩|⟨xs,e,q⟩|⟨g,e,q⟩|⟨t,g,e,q⟩
   .obtain⟨aV,l,pl,k⟩:=I.list e;obtain⟨o,j,i,n,hd⟩:=pl.isList;right;exact XY zR I.U3 ⟨o,j,i⟩ (gZ (.inr<|.inr<|.inr<|.inr<|.inl rfl) d) (fun z=>nomatch z)<|fin _ q
   .obtain⟨aV,l,pl,k⟩:=I.tuple e
    obtain⟨o,j,i,n,hd⟩:=pl
    right;exact XY NK I.U3 ⟨o,j,i⟩ (gZ (.inr<|.inr<|.inr<|.inr<|.inr<|.inl rfl) d) (fun z=>nomatch z)<|fin _ q
   .right;exact iP (x:=.ref a) I rfl (.dK e) (gZ (.inr<|.inr<|.inr<|.inr<|.inr<|.inr rfl) d) (fin _ q)
   .obtain⟨_,_,_,vs,_,o,es,ep,h1,h2,_⟩:=((I.Su a _ e))
    right;exact XY zX I.U3 ⟨o,h1,h2.1⟩ (gZ (.inr<|.inr<|.inr<|.inr<|.inr<|.inr rfl) d) (fun z=>nomatch z)<|fin _ q
  |_=>right;mleft
 .mleft
def LP(ds:Rx):R D:=match ds with
 |[x,.ty C]=>if qm C=G then(match x with
  |.S9=>.ok<|.bl<|kQ "NoneType" C
  |.bl _=>.ok<|.bl<|kQ "bool" C
  |.int _=>.ok<|.bl<|kQ "int" C
  |.str _=>.ok<|.bl<|kQ "str" C
  |.lst _=>.ok<|.bl<|kQ "list" C
  |.tup _=>.ok<|.bl<|kQ "tuple" C
  |.Xx _=>.ok<|.bl<|kQ "dict" C
  |.fu _=>.ok<|.bl<|kQ "dict" C
  |_=>.no)else .no
 |_=>.no
theorem HP(K:aT)(b:W.K=K<|>Rv):nU W (Hk K) LP:=by
 subst b;intro as H xs ds Q e d h;delta LP at h;cbv
 .obtain⟨v,u,rfl,a,c⟩:=BB d;subst c;cbv
  .rename_i hC;cbv
   .cases a;exact⟨hC,ax h rfl⟩
   .cases a;exact⟨hC,ax h rfl⟩
   .cases a;exact⟨hC,ax h rfl⟩
   .cases a;exact⟨hC,ax h rfl⟩
   .obtain⟨p,vs,rfl,q1,q2⟩:=a;exact⟨hC,.inl ⟨vs,(aD _ _).seq q1,ax h rfl⟩⟩
   .obtain⟨p,vs,rfl,q1,q2⟩:=a;exact⟨hC,.inr<|.inl ⟨vs,(aD _ _).Wt q1,ax h rfl⟩⟩
   .obtain⟨p,vs,rfl,q1,q2⟩:=a;exact⟨hC,.inr<|.inr<|.inl ⟨vs,aD _ _ _ _ q1,ax h rfl⟩⟩
   .obtain⟨p,o,vs,rfl,q1,q2⟩:=a;exact⟨hC,.inr<|.inr<|.inr ⟨o,vs,aD _ _ _ _ q1,ax h rfl⟩⟩
   .mleft
  .mleft
 .mleft
def xC(K:aT)(xs:Se)(H:Hp)(Q:VK):Prop:=match xs with
 |[.ref p]=>(∃ys,gr K H p ys/\∀l,H l=U->Q (.ref l) (br H l<|.tup ys))\/∃ys,m7 K H p ys/\Q (.ref p) H
 |_=>False
theorem HC(K:aT)(a:X.K=K<|>Rv):bI X (.type "tuple")<|xC K:=by
 subst a;refine acV.imp fun xs H Q q=>?_;unfold xC at q;split at q
 .rcases q with⟨ys,h1,h2⟩|⟨ys,h1,h2⟩
  .exact⟨_,ys,rfl,.inl ⟨h1,h2⟩⟩
  .exact⟨_,ys,rfl,.inr ⟨h1,h2⟩⟩
 .exact q.elim
noncomputable def wf(ds:Rx):R D:=match ds with
 |[.lst xs]=>.ok<|.tup xs
 |[.tup xs]=>.ok<|.tup xs
 |_=>.no
theorem PL{as:Sf}{H:Hp}(b:∀a∈as,H a≠U):∀p,H p=U->p∉as:=fun p c z=>b p z c
theorem abD(K:aT)(d:W.K=K<|>Rv):nU W (xC K) wf:=by
 subst d;intro as H xs ds Q e c h;delta wf at h;cbv
 .obtain⟨v,rfl,a⟩:=gy c;obtain⟨p,vs,rfl,q1,q2⟩:=a;exact .inl ⟨vs,(aD _ _).seq q1,fun l b=>h _ _ (bR b _) ⟨l,vs,rfl,.inl<|.inl<|by rw[av<|PL e l b];exact aE,q2.mono<|aA<|bR b _⟩⟩
 .obtain⟨v,rfl,a⟩:=gy c;obtain⟨p,vs,rfl,q1,q2⟩:=a;exact .inr ⟨vs,(aD _ _).Wt q1,ax h ⟨p,vs,rfl,q1,q2⟩⟩
 .mleft
noncomputable def Ly(f:Str->Str->D)(z:Str)(ds:Rx):R D:=match ds with
 |[.str y]=>.ok<|f z y
 |_=>.no
section
variable{W:Wd}{X:Cx}
theorem ajg:V7 W (VH fun x y=>.bl<|pQ x y)<|Ly fun x y=>.bl<|pQ x y:=by
 intro as H z xs ds Q hn dv h;unfold Ly at h;cbv
 .obtain⟨v,rfl,d1⟩:=gy dv;cases d1;exact ax h rfl
 .mleft
end
section
variable{W:Wd}{X:Cx}
theorem ami:V7 W (VH fun x y=>.bl<|cg x y)<|Ly fun x y=>.bl<|cg x y:=by
 intro as H z xs ds Q hn dv h;unfold Ly at h;cbv
 .obtain⟨v,rfl,d1⟩:=gy dv;cases d1;exact ax h rfl
 .mleft
end
end
section
variable{apos cpos:Pos}{id:String}
theorem DK(g:PlainAttrs T)(d:Slot T name id)(f:typeOf (.builtin id)=pure (.type "method_descriptor"))(i:VG X id r)(h:JE X o to)(j:JA X (e::es) t)
  (a:(WG o name X.env (eval o X.env)=eval o X.env)<|>Rv) (c:#[6]=G<|>Rv) (h1:(e::es).all al=G<|>Rv) (k:(e::es).length<29<|>Sm):
  JE X (.Call (.Attribute o name apos) (e::es) [] cpos) (Yd X.K T r to t):=by
 have b:=h1;rw[Vg,oR]at b;exact⟨afw g d f i h.out j.out a (tz h1 k) c (bC b.1)<|bH b.2⟩
theorem Cg(e:PlainAttrs T)(c:Slot T name id)(d:typeOf (.builtin id)=pure (.type "method_descriptor"))(g:VG X id r)(f:JE X o to)
  (a:(WG o name X.env (eval o X.env)=eval o X.env)<|>Rv) (b:#[6]=G<|>Rv):
  JE X (.Call (.Attribute o name apos) [] [] cpos) (T4 X.K T r to):=⟨aoN e c d g f.out a b⟩
end
theorem Cq:∀{O:Ru}{own:Sf}{i:Nat}{a b:SA},O.Nodup->(i,a)∈O.zip own->(i,b)∈O.zip own->a=b
 |[],_,_,_,_,_,h,_=>by mright
 |_::_,[],_,_,_,_,h,_=>by mright
 |k::O,c::own,i,a,b,nd,h1,h2=>by
  rw[Vx]at nd;rcases eQ.mp h1 with e1|h1<;>rcases eQ.mp h2 with e2|h2
  .lia
  .cases e1;exact absurd (X0 h2).1 nd.1
  .cases e2;exact absurd (X0 h1).1 nd.1
  .exact Cq nd.2 h1 h2
theorem iR(h:a∈as):aj as (br H a o)=aj as H:=by
 funext b
 delta aj;split
 .rfl
 .rename_i hb;exact aG fun z=>hb (by rw[z];exact h)
theorem DI.or_{K:aT}(I:DI K as0 B O own Z Y H)(g:(i,a)∈O.zip own)(h:kL K (aj (own++as0) H) o' d'):
  DI K as0 B O own Z (Y.set i<|J d') (br H a o'):=by
 have l:a∈own++as0:=Le _ (X0 g).2;refine US (I.Xf i a g) fun m o h1 h2 p n=>?_;have hil  := (rW.mp h1).1;refine⟨by simp[I.len],I.YU,I.nd,I.gp,I.fresh,I.wz,fun b u e=>?_,fun j e f q=>?_,fun j b f=>?_⟩
 .have hb:b≠a:=fun z=>by
   have:=I.fresh a (X0 g).2
   rw[z,this]at e;cases e
  rw[aG hb];exact I.same b u e
 .have c:i≠j:=fun z=>f (by rw[<-z];exact(X0 g).1);rw[getElem?_set',SM c]at q;rw[iR l];exact I.var j e f q
 .rw[iR l];by_cases c:i=j
  .subst c
   have:=Cq I.gp g f
   subst this;exact⟨d',o',by simp_all,h2,aE,h⟩
  .refine US (I.Xf j b f) fun d u q1 q2 s r=>?_
   have k:b≠a:=fun z=>c (by rw[z]at f;exact zip_inj I.nd g f);exact⟨d,u,by simp_all,q2,by rw[aG k];exact s,r⟩
end L2
namespace L2
open PySem PySem.Builtin
structure adp(z Xi Xo i1 i2:SA)(fp1 fp2:Sf):Prop where
 TIz:Xi≠z
 TOz:Xo≠z
 TITO:Xi≠Xo
 TIi1:Xi≠i1
 TIi2:Xi≠i2
 TOi1:Xo≠i1
 TOi2:Xo≠i2
 i1z:i1≠z
 i2z:i2≠z
 i12:i1≠i2
 z1:z∉fp1
 z2:z∉fp2
 TO1:Xo∉fp1
 TO2:Xo∉fp2
 i1f:i1∉fp2
 i2f:i2∉fp1
end L2
namespace L2
open PySem PySem.Spec PyProof.Rows
structure Src(K:aT)(B:Hp)(xs:Se)(it:SA)(S:Nat->T3->Prop):Prop where
 obj:∀i h,S i h->∃o,h.get? it=J o/\∀v,o.data≠.cell v
 keep:∀i h h',S i h->(∀o,h.get? it=J o->h'.get? it=J o)->S i h'
 draw:∀(X:Cx)(aa:TQ)(s:ID)(Z:St)(H:Hp),Inv X aa Z H s->X.K=K->ah B H->gE X aa H it->∀A:Tx,A.handled=U->∀i,S i s.heap ->
  ∃fp Pv St,Draws X.prog X.w A it fp xs.length Pv St/\St i s.heap/\it∈fp/\(∀b∈fp,b=it\/¬gE X aa H b)/\(∀j u,Pv j u->∃x,xs[j]?=J x/\aP x u)/\∀j h,St j h->S j h
def Nl(K:aT)(F:Rx->R D):Sp:=fun vs H Q E=>∀mg,rj K mg F vs H Q E
theorem aiZ{K:aT}{C:FuncData->Prop}
  (h:∃fd:FuncData,C fd/\∀base:Heap,K.In base->base.Ns mainGlobals mg->T8 P w K mg base lD k fa fd ps (rj K mg F)):
  ∃fd:FuncData,C fd/\∀base:Heap,K.In base->base.Ns mainGlobals mg->T8 P w K mg base lD k fa fd ps (Nl K F):=by
 obtain⟨fd,h1,h2⟩:=h;exact⟨fd,h1,fun base h3 h4=>(h2 base h3 h4).imp fun vs H Q E q=>q mg⟩
theorem LQ{K:aT}{b:List Int}(c:gr K H a<|b.map V.int)(h:F [.lst<|b.map D.int]=.ok (.bl G))(q:∀H',Q (.bl G) H'):Nl K F [.ref a] H Q E:=
 fun mg=>(by
   refine⟨[],[.lst<|b.map D.int],fun a e=>(nomatch e),⟨.ref a,[],rfl,⟨a,b.map V.int,rfl,by rw[Ge];exact c,?_⟩,rfl⟩,?_⟩
   .clear h c;induction b with
    |nil=>exact rfl
    |cons n r f=>exact⟨_,_,rfl,rfl,f⟩
   .rw[h];intro v H' s d;subst d;exact q H')
def fin(r:R Fl):R D:=r.bind fun f=>match f with
 |.rt d=>.ok d
 |.rn d=>.ok d
 |.nx _=>.ok .S9
 |_=>.no
section
variable{Y:Sd}{d e:D}{x y:Str}{i j:Int}{b c:Bool}{φ ψ:FE}{τ υ:FT}{α:FA}{S T:FS}
def TH(T:FS)(f:Fl):R Fl:=match f with
 |.nx δ'=>T δ'
 |f=>.ok f
theorem M8:nh S T Y=(S Y).bind (TH T):=by
 rfl
theorem QA:TH T (.nx Y)=T Y:=rfl
theorem Ov:ld Y=.ok (.nx Y):=rfl
def kin(d:D):R Fl:=.ok<|.rt d
theorem RT:pX φ Y=(φ Y).bind kin:=rfl
def JY(S T:FS)(Y:Sd)(b:Bool):R Fl:=if b=G then S Y else T Y
theorem Tz:DA τ S T Y=(τ Y).bind (JY S T Y):=rfl
theorem UQ:JY S T Y b=if b=G then S Y else T Y:=rfl
def aaJ(k:Nat)(Y:Sd)(d:D):R Fl:=.ok<|.nx<|Y.set k<|J d
theorem alA:rZ k φ Y=(φ Y).bind (aaJ k Y):=rfl
def TX(t:VA)(S:FS)(Y:Sd)(xs:Rx):R Fl:=cZ t S xs Y
theorem aor:Hy α t S Y=(α Y).bind (TX t S Y):=rfl
theorem aoc:TX t S Y xs=cZ t S xs Y:=rfl
def Hj(t:VA)(S:FS)(r:Rx)(f:Fl):R Fl:=match f with
 |.nx δ2=>cZ t S r δ2
 |.ct δ2=>cZ t S r δ2
 |.bk δ2=>.ok<|.nx δ2
 |.rt d=>.ok<|.rt d
 |.rn d=>.ok<|.rn d
def MQ(t:VA)(S:FS)(r:Rx)(a:Sd):R Fl:=(S a).bind<|Hj t S r
theorem sS:cZ t S (d::r) Y=(iY t d Y).bind (MQ t S r):=by
 rfl
theorem Ja:MQ t S r Y=(S Y).bind (Hj t S r):=rfl
theorem v9:Hj t S r (.nx Y)=cZ t S r Y:=rfl
theorem Za:vC d Y=.ok d:=rfl
def JK(a:D->D->R D)(ψ:FE)(Y:Sd)(x:D):R D:=(ψ Y).bind<|a x
theorem JU:aH op φ ψ Y=(φ Y).bind (JK op ψ Y):=rfl
theorem sN:JK op ψ Y d=(ψ Y).bind (op d):=rfl
def Ti(ψ:FE)(Y:Sd)(d:D):R D:=Ni d fun b=>if b=G then ψ Y else .ok (.bl η)
theorem v_and:GS φ ψ Y=(φ Y).bind (Ti ψ Y):=rfl
theorem aci:Ti ψ Y (.bl b)=if b=G then ψ Y else .ok (.bl η):=rfl
section
variable{Y:Sd}{d e:D}{x y:Str}{i j:Int}{b c:Bool}{φ ψ:FE}{τ υ:FT}{α:FA}{S T:FS}
def WA(ψ:FE)(Y:Sd)(d:D):R D:=Ni d fun b=>if b=G then .ok (.bl G)else ψ Y
end
section
variable{Y:Sd}{d e:D}{x y:Str}{i j:Int}{b c:Bool}{φ ψ:FE}{τ υ:FT}{α:FA}{S T:FS}
theorem v_or:Jn φ ψ Y=(φ Y).bind (WA ψ Y):=rfl
end
section
variable{Y:Sd}{d e:D}{x y:Str}{i j:Int}{b c:Bool}{φ ψ:FE}{τ υ:FT}{α:FA}{S T:FS}
theorem anh:WA ψ Y (.bl b)=if b=G then .ok (.bl G)else ψ Y:=rfl
end
def Xk(d:D):R Bool:=Ni d .ok
theorem DP:dC φ Y=(φ Y).bind Xk:=rfl
theorem Gf:Xk (.bl b)=.ok b:=rfl
theorem ac4:lP φ Y=(φ Y).bind L4:=rfl
def MZ(υ:FT)(Y:Sd)(b:Bool):R Bool:=if b=G then υ Y else .ok η
theorem yr:mQ τ υ Y=(τ Y).bind (MZ υ Y):=rfl
theorem xh:MZ υ Y b=if b=G then υ Y else .ok η:=rfl
def R6(υ:FT)(Y:Sd)(b:Bool):R Bool:=if b=G then .ok G else υ Y
theorem Ss:KF τ υ Y=(τ Y).bind (R6 υ Y):=rfl
theorem abF:R6 υ Y b=if b=G then .ok G else υ Y:=rfl
def aad(b:Bool):R Bool:=.ok<|!b
theorem Tm:qN τ Y=(τ Y).bind aad:=rfl
def TV(φ ψ:FE)(Y:Sd)(b:Bool):R D:=if b=G then φ Y else ψ Y
theorem NN:MU τ φ ψ Y=(τ Y).bind (TV φ ψ Y):=rfl
theorem MH:TV φ ψ Y b=if b=G then φ Y else ψ Y:=rfl
theorem SY:aQ Y=.ok []:=rfl
def zU(d:D)(ds:Rx):R<|Rx:=.ok<|d::ds
def MP(α:FA)(Y:Sd)(d:D):R<|Rx:=(α Y).bind<|zU d
theorem Qf:MP α Y d=(α Y).bind (zU d):=rfl
theorem J1{ds:Rx}:zU d ds=.ok (d::ds):=rfl
theorem R9:uw α Y=(α Y).bind yA:=rfl
theorem TgD:uD α Y=(α Y).bind Bc:=rfl
theorem Qb:yA ds=if ds.length<=1000000 then .ok (.lst ds)else .no:=rfl
theorem hdW:Bc ds=if ds.length<=1000000 then .ok (.tup ds)else .no:=rfl
theorem PH:aI g α Y=(α Y).bind g:=rfl
noncomputable def abK(d:D):R<|Option Int:=match d with
 |.int i=>.ok<|J i
 |_=>.no
theorem QB:gI φ Y=(φ Y).bind abK:=rfl
def QV(g:D->Option Int->Option Int->R D)(d:D)(lo a:Option Int):R D:=g d lo a
def RB(g:D->Option Int->Option Int->R D)(u:Sd->R (Option Int))(Y:Sd)(d:D)(lo:Option Int):R D:=(u Y).bind<|QV g d lo
def Tt(g:D->Option Int->Option Int->R D)(l u:Sd->R (Option Int))(Y:Sd)(d:D):R D:=(l Y).bind<|RB g u Y d
theorem SmL:Jm g φ l u Y=(φ Y).bind (Tt g l u Y):=rfl
theorem aaP:Tt g l u Y d=(l Y).bind (RB g u Y d):=rfl
theorem Xy{lo:Option Int}:RB g u Y d lo=(u Y).bind (QV g d lo):=rfl
theorem aa5{lo hi:Option Int}:QV g d lo hi=g d lo hi:=rfl
def ZT(g:Str->Rx->R D)(α:FA)(Y:Sd)(d:D):R D:=match d with
 |.str z=>(α Y).bind fun ds=>g z ds
 |_=>.no
theorem aa9{g:Str->Rx->R D}:DN g φ α Y=(φ Y).bind (ZT g α Y):=rfl
theorem abG:ZT g α Y (.str x)=(α Y).bind (g x):=rfl
theorem O8:jX ix α t τ φ Y=(α Y).bind (cF t τ φ<|dY ix Y):=rfl
theorem IQ:p9 α Y=(α Y).bind KN:=rfl
theorem MX(h:-(2^62)<=i/\i<2^62):KN [.int i]=.ok (aW 0 i.toNat):=SI h
section
variable{Y:Sd}{d e:D}{x y:Str}{i j:Int}{b c:Bool}{φ ψ:FE}{τ υ:FT}{α:FA}{S T:FS}
theorem ama:qX (.str x) (.int j)=if x.length<=1000/\-1000<=j/\j<=1000 then .ok (.str<|Txt.mul x j)else .no:=rfl
end
theorem wR:zF (.int i) (.int j)=.ok (.bl<|decide (i<j)):=rfl
section
variable{Y:Sd}{d e:D}{x y:Str}{i j:Int}{b c:Bool}{φ ψ:FE}{τ υ:FT}{α:FA}{S T:FS}
theorem aoS:Mp (.int i) (.int j)=.ok (.bl<|decide (i<=j)):=rfl
end
theorem vQ:Ed (.int i) (.int j)=.ok (.bl<|decide (j<i)):=rfl
theorem GM:C9 (.int i) (.int j)=.ok (.bl<|decide (j<=i)):=rfl
theorem aaV:Mp (.str x) (.str y)=.ok (.bl<|!decide (y.cps.toList<x.cps.toList)):=rfl
theorem alw:C9 (.str x) (.str y)=.ok (.bl<|!decide (x.cps.toList<y.cps.toList)):=rfl
theorem st0:wI (.int i) (.int j)=G:=rfl
theorem Zm:wI (.str x) (.str y)=G:=rfl
section
variable{Y:Sd}{d e:D}{x y:Str}{i j:Int}{b c:Bool}{φ ψ:FE}{τ υ:FT}{α:FA}{S T:FS}
theorem amb:xF (.int i) (.int j)=.ok (.bl<|!decide (i=j)):=by have h:wI (.int i) (.int j)=G:=rfl;simp[xF,zy,g7,h,lU]
end
section
variable{Y:Sd}{d e:D}{x y:Str}{i j:Int}{b c:Bool}{φ ψ:FE}{τ υ:FT}{α:FA}{S T:FS}
theorem CU:xF (.str x) (.str y)=.ok (.bl<|!decide (x=y)):=by have h:wI (.str x) (.str y)=G:=rfl;simp[xF,zy,g7,h,lU]
end
theorem zf:jp (.int i) (.int j)=.ok (.bl<|decide (i=j)):=by simp[jp,zy,g7,st0,lU]
theorem jg:jp (.str x) (.str y)=.ok (.bl<|decide (x=y)):=by simp[jp,zy,g7,Zm,lU]
theorem vE:xF (.str x) (.str y)=.ok (.bl<|!decide (x=y)):=by simp[xF,zy,g7,Zm,lU]
theorem U0(h:x.length<=1000000){k:Nat}(a:Uq x.cps.toList i=J k):cR (.str x) (.int i)=.ok (.str ⟨#[k]⟩):=by rw[cR,SI h,a]
section
variable{Y:Sd}{d e:D}{x y:Str}{i j:Int}{b c:Bool}{φ ψ:FE}{τ υ:FT}{α:FA}{S T:FS}
theorem am7(hk:Uq xs i=J d):cR (.lst xs) (.int i)=.ok d:=by simp only[cR,hk]
end
theorem tst(a:Uq xs i=J d):cR (.lst xs) (.int i)=.ok d:=by simp only[cR,a]
theorem HY:cr [.str x]=if x.length<=1000000 then .ok (.int x.length)else .no:=rfl
theorem al3:cr [.lst xs]=.ok (.int xs.length):=rfl
theorem abt{xs:Rx}{bs:List Bool}(h:yK xs=J bs):Dd [.lst xs]=.ok (.bl<|bs.all id):=by simp only[Dd,h]
theorem BP{β:Type}(f:β->Bool):∀xs:List β,yK (xs.map fun a=>D.bl<|f a)=J (xs.map f):=TB (rfl) fun a r i_=>by simp only[Xp,yK,i_,iM]
theorem BE(b:tX t δ0=G)(a:xs.length<=1000000)(h:fV t τ ε δ0 xs=.ok ys):cF t τ ε δ0 xs=.ok (.lst ys):=by
 delta cF;rw[SI ⟨b,a⟩,h];rfl
theorem jr{β:Type}{as:List β}(u:β->D)(f:β->D)(d:tX (.one k) δ0=G)(e:as.length<=1000000)(h:∀a∈as,ε (δ0.set k<|J<|u a)=.ok (f a)):cF (.one k) xa ε δ0 (as.map u)=.ok (.lst<|as.map f):=by
 refine BE d (by mright) ?_;clear e;induction as with
 |nil=>rfl
 |cons a r c=>
  have h1:=h a Up;have c:=c fun b g=>h b<|ie _ g;show(ε<|δ0.set k<|J<|u a).bind _=_;rw[h1];rw[c];rfl
end
section
variable{X:Cx}{W:Wd}{O O' Ob:Ru}
def ML(xs:Se)(H:Hp)(Q:VK):Prop:=match xs with
 |[.int i]=>i.natAbs<10^30/\Q (.str<|lE<|toString i) H
 |_=>False
theorem afz:bI X (.type "str") ML:=by
 intro aa s Z H xs us Q I r h;delta ML at h;cbv
 .rename_i i;obtain⟨u,rfl,t,rfl⟩:=jV r;refine PySem.P.str_of_int ?_ ⟨.str _,H,I.tok _,⟨_,rfl⟩,h.2⟩;rcases zi i.natAbs with e|e
  .rw[e];decide
  .rw[Nat.log2_lt<|by simp_all];exact Rw h.1 (RW (by decide:10^30<=2^100)<|Pw ∎<|∅)
 .mleft
noncomputable def CO(ds:Rx):R D:=match ds with
 |[.int i]=>if i.natAbs<10^30 then .ok (.str<|lE<|toString i)else .no
 |_=>.no
section
variable{X:Cx}{W:Wd}{O O' Ob:Ru}
theorem amj:Cw W ML CO:=by
 intro as H xs ds Q hn dv h;unfold CO at h;cbv
 .obtain⟨v,rfl,d1⟩:=gy dv;cases d1;cbv
  .rename_i hl;exact⟨hl,ax h rfl⟩
  .mleft
 .mleft
end
def MY(xs:Se)(H:Hp)(Q:VK):Prop:=match xs with
 |[.str z]=>∃n,intText? z=J n/\z.length<=640/\Q (.int n) H
 |_=>False
section
variable{X:Cx}{W:Wd}{O O' Ob:Ru}
theorem amo:bI X (.type "int") MY:=by
 intro aa s Z H xs us Q I r h;unfold MY at h;cbv
 .obtain⟨u,rfl,t,rfl⟩:=jV r;obtain⟨n,h1,h2,h3⟩:=h;exact PySem.W.KIN.call_text h1 h2 ⟨.int _,H,I.tok _,⟨_,rfl⟩,h3⟩
 .mleft
end
noncomputable def xK(ds:Rx):R D:=match ds with
 |[.str z]=>match intText? z with
  |some n=>if z.length<=640 then .ok (.int n)else .no
  |none=>.no
 |_=>.no
theorem atI:nU W MY xK:=by
 intro as H xs ds Q c a h;delta xK at h;cbv
 .obtain⟨v,rfl,b⟩:=gy a;subst b;cbv
  .rename_i n e;cbv
   .rename_i hl;exact⟨n,e,hl,ax h rfl⟩
   .mleft
  .mleft
 .mleft
end
section
variable{M:Model}{A:Tx}{E:UB}{s₀ s:ID}{m cm:Sq}{env:Env}
theorem Jf{n:Str}{v:nE}{Q:Unit->ID->Prop}(x:InCallC s₀ env.locals m env.cells cm s)(i:env.scope.kind=.function)(j:env.kindOf n=J .local)
  (h:∀s',InCallC s₀ env.locals (fun y=>if y=n then J v else m y) env.cells cm s'->1<=s'.toks->Q () s'):SN M A (storeName env n v) Q E s:=by
 refine wpAny_storeName_local j x.toInCall.ns (fun h' d a=>h _ ⟨⟨?_,d,fun b o e=>?_,x.toInCall.fresh⟩,fun k c g=>?_,x.apart,x.above⟩<|yD<|Uh _) (by rw[i];rfl)
 .obtain⟨f,l,rfl⟩:=x.toInCall.same;exact⟨h',_,rfl⟩
 .exact a.extBut b o (Vd<|Rw (Tn e) x.toInCall.fresh) (x.toInCall.keep b o e)
 .exact(x.cell k c g).sameBut a (mS<|x.above k c<|mem_of_lookup g)
theorem acF(f:Str×nE->PUnit->Sem (ForInStep PUnit))(e:∀n v u,f (n,v) u=(do storeName env n v;pure (.yield ⟨⟩)))(g:env.scope.kind=.function){n:Str}{v:nE}{r:List<|Str×nE}{Q:PUnit->ID->Prop}
  (x:InCallC s₀ env.locals m env.cells cm s) (b:env.kindOf n=J .local) (i:∀x∈r,env.kindOf x.1=J .local\/(env.kindOf x.1=J .cell/\(env.cells.lookup x.1).isSome=G))
  (h:∀s',InCallC s₀ env.locals (bindL env.kindOf ((n,v)::r) m) env.cells (bindC env.kindOf ((n,v)::r) cm) s'->1<=s'.toks->Q ⟨⟩ s'):SN M A (forIn ((n,v)::r) ⟨⟩ f) Q E s:=by
 rw[yf,e];refine iF<|iF<|Jf x g b fun s' k j=>U4<|aO j<|wpAny_bindParams f e g r _ _ s' _ k i fun d a c=>h d ?_ c;unfold bindL bindC;rw[SI b,SI b];exact a
theorem Ai{scope:Scope}{d:SA}{n:Str}{v:nE}{r:List<|Str×nE}{g:Str}{f:Option SA}{code:nE}{a:SA}{Q:Env->ID->Prop}
  (p:scope.kind=.function) (q:scope.names.lookup n=J .local)
  (h:∀x∈r,scope.names.lookup x.1=J .local\/(scope.names.lookup x.1=J .cell/\((cellsFrom (s.heap.objs.size+1) scope.names []).lookup x.1).isSome=G))
  (k:∀env,env=newEnv scope s.heap.objs.size d (cellsFrom (s.heap.objs.size+1) scope.names []) g f code U a ->
   ∀s',InCallC s env.locals (bindL env.kindOf ((n,v)::r) fun _=>U) env.cells (bindC env.kindOf ((n,v)::r) fun _=>U) s'->1<=s'.toks->Q env s'):
  SN M A (newFunctionEnv scope d [] ((n,v)::r) g f code U a) Q E s:=by
 simp only[newFunctionEnv,Option.isSome_none,Bool.false_eq_true,if_false];refine iF<|wpAny_alloc ?_;refine iF<|wpAny_layCells _ (fun name kind cells=>by cases hkc:kind==Bv<;>trivial) _ _ _ _ ?_;have ok:=cellsFrom_ok scope.names (s.heap.push {cls:=.type "frame",data:=.dict #[]}) (s.heap.objs.size+1) [] ⟨fun _ _ i=>(nomatch i),Oe⟩ (by rw[Ym];exact mK _)
 rw[Ym]at ok;rw[show({s with heap:=s.heap.push {cls:=.type "frame",data:=.dict #[]}}:ID).heap.objs.size=s.heap.objs.size+1 from Ym ..];refine iF (acF (s₀:=s) (env:=newEnv scope s.heap.objs.size d (cellsFrom (s.heap.objs.size+1) scope.names []) g f code U a)
  _ (fun _ _ _=>rfl) p (m:=fun _=>U) (cm:=fun _=>U)
  ⟨⟨⟨_,_,rfl⟩,(Heap.Ns.new s.heap<|.type "frame").keeps<|pushCells_keeps _ _,fun b o e=>pushCells_keeps _ _ b o<|iN _ e,mK _⟩,
   fun n c l=>(ok.empty n c (mem_of_lookup l)).1,ok.apart,fun n c i=>(ok.empty n c i).2⟩
  q h fun s' x j=>U4 (k _ rfl s' x j))
end
noncomputable abbrev Cx.up(X:Cx)(n:Nat):Cx:={X with tn:=n}
theorem Cx.Ok.up{X:Cx}{n:Nat}(ok:X.Ok):(X.up n).Ok:=
 ⟨ok.mod,ok.kind,ok.glob,ok.blt,ok.above,ok.inj,ok.has,ok.sY,ok.hd,ok.frames,ok.xN,ok.x9,ok.bs,ok.Wq,ok.Zo,ok.ZR,ok.WE,ok.XJ⟩
theorem Inv.up{X:Cx}{aa:TQ}{Z:St}{H:Hp}{s:ID}{n:Nat}(I:Inv X aa Z H s)(h:n<=s.toks):Inv (X.up n) aa Z H s:=⟨I.ok.up,I.os,I.bare,I.base,I.loc,I.cell,I.free,I.WZ,I.pin,I.Su,I.len,h⟩
theorem HH{CX:Ee}{P:Tc}{w:Sl}{K:aT}{mg:Sq}{base:T3}{k:Nat}{f:SA}{name c:Str}{h:Arguments}{i:List SU}{scope:Scope}{dV kV B pm g ct oc:nE}{an od:Option SA}
  {X:Array<|Option nE} {N ps:SH} {sp:Sp} (lk:K.lookup f=J ⟨oc,od,.func<|Wk name c h i scope dV kV B pm an g ct,X⟩) (M:uz K g c=G) (S:Vr N ps scope)
  {z:Str} {pr:SH} (hp:ps=z::pr) (W:scope.names.lookup z=J .local)
  (len:∀vs H Q E,sp vs H Q E->vs.length=ps.length)
  (l:∀(A:Tx)(a:List Env)(s:ID)(H:Hp)(vs:Se)(Q:VK)(E:XK),TZ k (A.deeper<|W7 c scope s.heap.objs.size f g)->sp vs H Q E ->
   ∃t,IR ((gw CX P w K mg base N c scope f g A a s H E).up 1) i t/\t {nx:=fun _ H'=>Q .S9 H',rt:=Q} (start N vs) H):
  T8 P w K mg base CX (k+1) f (Wk name c h i scope dV kV B pm an g ct) ps sp:=by
 subst hp;refine⟨len,fun A a s H args us vs Q E hr e0 hb r D=>?_⟩;have hl:=len _ _ _ _ D;have KX:K.In s.heap:=e0.mod.XM.keeps fun b o e=>(e0.bs b o e).1;have T:s.heap.NoLimit:=e0.mod.nolimit.keeps fun b o e=>(e0.bs b o e).1;have m:∀y∈(z::pr).zip us,scope.names.lookup y.1=J .local\/(scope.names.lookup y.1=J .cell/\((cellsFrom (s.heap.objs.size+1) scope.names []).lookup y.1).isSome=G):=fun⟨n,v⟩O=>by
  rcases S.par n (X0 O).1 with q|q
  .exact .inl q
  .exact .inr ⟨q,tK _ _ _<|.inl q⟩
 have F:us.length=(z::pr).length:=by rw[<-r.length];exact hl
 obtain⟨p,C,rfl⟩:∃p C,us=p::C:=by
  cases us with
  |nil=>cases F
  |cons p C=>exact⟨p,C,rfl⟩
 refine codeAny_call_function hr.depth (KX _ _ lk) rfl S.co S.gen rfl (zh KX M) (hb _ _ _ _ ?_);refine Ai (n:=z) (v:=p) (r:=pr.zip C) S.kind W (fun y O=>m y<|ie _ O) fun env he s1 x ht=>?_;subst he;refine⟨T.keeps x.toInCall.keep,codeAny_func ?_⟩;obtain⟨t,ht',hq⟩:=l A a s H vs Q E (hr.deeper _) D;have I:Inv ((gw CX P w K mg base N c scope f g A a s H E).up 1) [] (start N vs) H s1:=(oQ S hr.hd e0 hl r x).up ht;refine UE (ht' [] s1 (start N vs) H _ I hq) (fun fl s' hs=>?_) fun e s' hs=>hs;have fin:∀{j:St}{H':Hp}{v:V}{u:nE},Inv ((gw CX P w K mg base N c scope f g A a s H E).up 1) [] j H' s'->aP v u->Q v H'->CE a P w H s Q u s':=
  fun{j H' v u}d R q=>⟨v,H',d.os,d.bare,d.base,d.Su,R,q⟩
 cases fl with
 |ret u=>
  refine WM hs fun v j H' d R q=>?_;exact fin d R q
 |next=>
  obtain⟨j,H',d,q⟩:=hs;exact fin (v:=V.S9) (u:=Yk) d rfl q
 |brk=>
  obtain⟨_,_,_,q⟩:=hs;exact Wf q
 |cont=>
  obtain⟨_,_,_,q⟩:=hs;exact Wf q
section
variable{P:Tc}{w:Sl}{K:aT}{mg:Sq}{base:T3}
theorem UD.acw{x b:Str}{st:SU}{f:SA}{fd:Wj}{N ps:SH}{k:Nat}{sp:Sp}(F:UD K x b st f fd)(S:Vr N ps<|ai st){j:Str}{pr:SH}(n:ps=j::pr)(g:(ai st).names.lookup j=J .local)(len:∀vs H Q E,sp vs H Q E->vs.length=ps.length)
  (d:∀(c:nE)(_:Ea K c b=G)(A:Tx)(a:List Env)(s:ID)(H:Hp)(vs:Se)(Q:VK)(E:XK),TZ k (A.deeper<|W7 b (ai st) s.heap.objs.size f c)->sp vs H Q E ->
   ∃t,JB ((gw lD P w K mg base N b (ai st) f c A a s H E).up 1).Xe (bL st) t/\t {nx:=fun _ H'=>Q .S9 H',rt:=Q} (start N vs) H):T8 P w K mg base lD (k+1) f fd ps sp:=by
 obtain⟨v,p,kV,m,u,y,c,r,o,rfl,lk,e⟩:=F.ex;refine HH lk (tF e) S n g len fun A a s H vs Q E l i=>?_;obtain⟨t,h,q⟩:=d c e A a s H vs Q E l i;exact⟨t,h.out.Xe,q⟩
theorem UD.abd{x c:Str}{st:SU}{f:SA}{fd:Wj}{N ps:SH}{k:Nat}{φ:FS}{O':Ru}(F:UD K x c st f fd)(S:Vr N ps<|ai st){u:Str}{pr:SH}(n:ps=u::pr)(r:(ai st).names.lookup u=J .local)
  (j:∀(g:nE)(_:Ea K g c=G)(A:Tx)(b:List Env)(s:ID)(H:Hp)(E:XK),TZ k (A.deeper<|W7 c (ai st) s.heap.objs.size f g) ->
   JB ((gw lD P w K mg base N c (ai st) f g A b s H E).up 1).Xe (bL st) (sD ⟨K,mg,E0⟩ [] [] O' φ)):T8 P w K mg base lD (k+1) f fd ps (rj K mg (gx φ N ps)):=by
 refine F.acw S n r (fun vs H Q E h=>?_) fun g q A b s H vs Q E l h=>?_
 .obtain⟨as,ds,ex,m,h⟩:=h;delta gx at h;cbv
  .rename_i hl;rw[<-m.len];exact hl
  .mleft
 .obtain⟨as,ds,ex,m,h⟩:=h;delta gx at h;cbv
  .rename_i hl;refine⟨_,j g q A b s H E l,as,H,[],gd N ds,⟨?_,rfl,Yv,Yv,fun a y=>(nomatch y),ex,ah.refl _,fun i d _ e=>?_,fun i a h=>(by simp at h)⟩,?_⟩
   .delta gd start;simp[m.len]
   .unfold gd at e;delta start;rw[<-m.len];exact mZ m e
   .cases l:φ (gd N ds)with
    |ok fl=>
     rw[l]at h;cases fl with
     |rt d=>exact fun v H' s t=>h v H' s t
     |rn d=>exact fun p o H' s n e B=>h (.ref p) H' s<|B.den (fun z=>ex p z n) e
     |nx Y=>exact fun own Z H' I=>h .S9 H' I.same rfl
     |bk Y=>mleft
     |ct Y=>mleft
    |er x=>rw[l]at h;exact fun e C H' s=>h e C H' s
    |no=>rw[l]at h;mleft
  .mleft
end
noncomputable def Xd(tab:List<|Str×D)(d:D):R D:=match d with
 |.str x=>(match tab.lookup x with
  |some d=>.ok d
  |none=>.no)
 |_=>.no
section
variable{X:Cx}{W:Wd}{O Ob:Ru}{e:Ry}{φ:FE}{pos p1:Pos}
theorem KP(tab:List<|Str×D)(i:X.mg x=J (.ref a))(g:X.K.lookup a=J ⟨.type "dict",U,.dict es n,#[]⟩)(f:ue X.w.params es.toList)
  (p:∀y d,tab.lookup y=J d->∃v u,DO X.K a y=J (J u)/\aP v u/\∀H,bQ W.K H d v) (l:JE X e<|tD W O φ) (k:Gl X x<|>Rv) (b:TN x<|>Sm) (hs:En e<|>k7):
  JE X (.Subscript (.Name x p1) e pos) (tD W O<|zz (Xd tab) φ):=⟨by
 intro aa s Z H Q I0 ⟨as0,B,own,Y,I,h⟩;refine BU LY.lookup hs<|dD I0 k i (bP (l.out aa s Z H (fun v H1=>∃y d,v=.str y/\tab.lookup y=J d/\cP W (own++as0) H1 (.ok d) Q) I0 ⟨as0,B,own,Y,I,aY h fun y v c o j h2=>?_⟩) fun iv o k=>Tw k fun yv c I2 ry k=>Tw k fun y d ey q1 q2=>?_) b
 .unfold Xd at h2;cases y with
  |str x=>
   subst j;mright;cases q:tab.lookup x with
   |none=>rw[q]at h2;exact h2.elim
   |some d=>mright
  |_=>exact h2.elim
 .subst ey;obtain⟨t,rfl⟩:=ry;refine Tw (p y d q1) fun v u h1 h2 r=>?_
  obtain⟨m,F⟩:=I2.fr
  refine⟨(PySem.W.mapOf_K (prog:=X.prog) I2.U3 g f).typeIs,PySem.W.topGetDict_K F I2.mod.XM g f h1 ⟨v,c,I2.tok _,h2,q2 v c (ah.refl _) (r _)⟩⟩⟩
end
section
variable{X:Cx}{W:Wd}{Ob O:Ru}{e f:Ry}{ε ψ:FE}{pos p1 p2 p3 apos cpos apos2 cpos2 apos3 cpos3 tpos:Pos}{x:Str}{tx:Nat}
theorem ay.dropLast{K:aT}(h:ay K H ds xs):ay K H ds.dropLast xs.dropLast:=by
 rw[LB,LB,<-h.len];exact h.take _
end
theorem tab_of{P:Str->D->Prop}:∀{tab:List<|Str×D},(∀p∈tab,P p.1 p.2)->∀{y:Str}{d:D},tab.lookup y=J d->P y d:=@TB _ _ (@fun _ _ _ e=>by cases e) fun p r i_=>@fun h y d e=>by
  rw[We]at e;cases hb:y==p.1 with
  |true=>
   rw[hb]at e;have e:J p.2=J d:=e;cases e
   have:y=p.1:=eq_of_beq hb
   rw[this];exact h p Up
  |false=>rw[hb]at e;exact i_ (fun q a=>h q<|ie _ a) e
theorem T8.void{K:aT}:T8 P w K mg base lD k f fd ps<|rj K mg fun _=>.no:=
 ⟨by intro vs H Q E q0_;refine Tw q0_ fun _ _ _ _ h=>?_;exact h.elim,by intro A outer s H args us vs Q E hr e0 hb r q1_;refine Tw q1_ fun _ _ _ _ h=>?_;mleft⟩
end L2
namespace L2
open PySem PySem.Spec PyProof.Rows
end L2
namespace L2
open PySem PySem.Spec PyProof.Rows
end L2
namespace L2
open PySem PySem.Spec PyProof.Rows
end L2
namespace L2
open PySem PySem.Spec PyProof.Rows
structure Nw(X:Cx)(aa:TQ)(b:SA):Prop where
 base:X.s₀.heap.get? b=U
 loc:b≠X.env.locals
 fs:b∉X.fs
 cell:∀x c,X.env.cells.lookup x=J c->c≠b
 pin:∀p∈X.pn++aa,p.1≠b
section
variable{Z:St}
theorem Nw.new(I:Inv X aa Z H s){b:SA}(a:s.heap.objs.size<=b):Nw X aa b:=by
 obtain⟨_,e,d,_,f,c⟩:=I.zT a<|I.Su.fresh a;exact⟨(fun k=>Pt k)<|RW I.sz a,e,d,f,c⟩
def qQ(X:Cx):Prop:=∀b∈X.ex,∃o,(b,o)∈X.pn
theorem Nw.gone(I:Inv X aa Z H s)(h:qQ X){b:SA}(d:s.heap.get? b=U):Nw X aa b:=by
 have f:b∉X.ex:=fun z=>by
  obtain⟨o,a⟩:=h b z
  have:=(I.pin (b,o)<|Le _ a).1
  rw[d]at this;cases this
 refine⟨?_,?_,fun z=>?_,fun x c e z=>?_,fun p g z=>?_⟩
 .cases q:X.s₀.heap.get? b with
  |none=>rfl
  |some o=>
   obtain⟨o',e⟩:=I.base.there b o q f;rw[d]at e;cases e
 .intro z;obtain⟨m,⟨o,_,_,a,_⟩,_⟩:=I.loc;rw[<-z,d]at a;cases a
 .obtain⟨_,o,a,_⟩:=I.ok.WE.mem z;obtain⟨o',e⟩:=I.base.there b o a f;rw[d]at e;cases e
 .obtain⟨v,o,a,_⟩:=I.cell x c e;rw[z,d]at a;cases a
 .have:=(I.pin p g).1
  rw[z,d]at this;cases this
theorem qQ.nil(h:X.ex=[]):qQ X:=fun b z=>by rw[h]at z;cases z
theorem Nw.less{b:SA}(n:Nw X aa b):Nw X [] b:=⟨n.base,n.loc,n.fs,n.cell,fun p a=>n.pin p (by
 rcases BY.mp a with z|z
 .exact Le _ z
 .cases z)⟩
theorem Inv.less(I:Inv X aa Z H s):Inv X [] Z H s:=⟨I.ok,I.os,I.bare,I.base,I.loc,I.cell,I.free,I.WZ,fun p a=>I.pin p (by
 rcases BY.mp a with z|z
 .exact Le _ z
 .cases z),I.Su,I.len,I.tk⟩
theorem Inv.GQ{h':T3}{ch:Sf}(I:Inv X aa Z H s)(f:∀b∈ch,Nw X aa b/\H b=U)
  (k:∀b o,b≠X.env.locals->b∉X.fs->b∉ch->s.heap.get? b=J o->h'.get? b=J o)
  (A:∀b o,b∉ch->s.heap.get? b=J o->∃l,h'.get? b=J {o with slots:=l}):Inv X aa Z H {s with heap:=h'}:=by
 have Q:X.env.locals∉ch:=fun z=>(f _ z).1.loc rfl;have M:∀x c,X.env.cells.lookup x=J c->c∉ch:=fun x c e z=>(f c z).1.cell x c e rfl;have nB:∀b o,X.s₀.heap.get? b=J o->b∉ch:=fun b o e z=>by rw[(f b z).1.base]at e;cases e
 have B:∀b o,X.s₀.heap.get? b=J o->b≠X.env.locals:=fun b o e=>Vd<|Rw (Tn e) I.ok.above;have C:∀b∈X.fs,H b=U:=fun b j=>by
  obtain⟨_,o,y,_⟩:=I.ok.WE.mem j;exact I.base.free b o y (I.ok.XJ.1 b j) fun z=>I.ok.ZR b z j
 have g:∀b u o,H b=J u->s.heap.get? b=J o->h'.get? b=J o:=fun b u o e q=>by
  refine k b o (fun z=>?_) (fun z=>?_) (fun z=>?_) q
  .rw[z,I.free]at e;cases e
  .rw[C b z]at e;cases e
  .rw[(f b z).2]at e;cases e
 have h:∀x c,X.env.cells.lookup x=J c->∀v,s.heap.IsCell c v->h'.IsCell c v:=fun x c e v⟨o,y,hd⟩=>by
  obtain⟨l,q⟩:=A c o (M x c e) y;exact⟨_,q,hd⟩
 refine⟨I.ok,I.os,I.bare,⟨fun b o e n j t=>?_,fun b o e n j t=>?_,I.base.free,fun b o e t=>?_,I.base.xV,I.base.tQ,I.base.b9⟩,?_,fun x c e=>?_,I.free,I.WZ,fun p E=>?_,fun a u e=>?_,I.len,I.tk⟩
 .exact k b o (B b o e) j (nB b o e) (I.base.keep b o e n j t)
 .obtain⟨l,e1⟩:=I.base.slot b o e n j t;obtain⟨D,w⟩:=A b _ (nB b o e) e1;exact⟨D,w⟩
 .obtain⟨o',e1⟩:=I.base.there b o e t;obtain⟨D,w⟩:=A b _ (nB b o e) e1;exact⟨_,w⟩
 .left;obtain⟨m,⟨o,es,O,y,hd,r⟩,P⟩:=I.loc;obtain⟨l,q⟩:=A _ o Q y;right;refine⟨m,⟨_,es,O,q,hd,r⟩,fun i x v e1 w N=>?_⟩;obtain⟨u,r,z⟩:=P i x v e1 w N;refine⟨u,r,?_⟩;rcases z with z|⟨k',c,e,z⟩
  .exact .inl z
  .exact .inr ⟨k',c,e,h x c e _ z⟩
 .obtain⟨v,z⟩:=I.cell x c e;exact⟨v,h x c e v z⟩
 .refine uf (I.pin p E) fun e n F K d=>?_;exact⟨k p.1 p.2 F K (fun z=>(f p.1 z).1.pin p E rfl) e,n,F,K,d⟩
 .refine(I.Su a u e).zY (fun b v j q=>?_) (fun _ z=>z) fun _ _ z=>z;rcases j with z|z
  .rw[z]at q⊢;exact g a u v e q
  .exact g b _ v z q
theorem C7(f:Array nE->Array nE)(o:Obj):(oK f o).dict=o.dict:=by
 delta oK;split<;>rfl
def Ms:Str:="BadLog"
structure ExcAt(X:Cx)(aa:TQ)(H:Hp)(h:T3)(x C:SA)(fl:Option nE):Prop where
 nx:Nw X aa x
 hx:H x=U
 ob:∃oe vs,h.get? x=J oe/\(oe.cls=.ref C/\oe.dict=U)/\oe.data=.fields vs/\(1<vs.size/\(X.mg Ms≠J (.ref C)->vs[2]?=J .none))/\(fl=U->vs[1]?=J .none) /\
  ∀v,fl=J v->∃T oT ts,vs[1]?=J (.ref T)/\Nw X aa T/\H T=U/\T≠x/\h.get? T=J oT/\oT.data=.fields ts/\ts[3]?=J v
theorem ExcAt.less{h:T3}{x C:SA}{fl:Option nE}(e:ExcAt X aa H h x C fl):ExcAt X [] H h x C fl:=by
 refine XX e.ob fun i vs h1 h2 j g d f=>?_;exact⟨e.nx.less,e.hx,i,vs,h1,h2,j,g,d,fun v z=>let⟨T,oT,ts,a,b,c⟩:=f v z;⟨T,oT,ts,a,b.less,c⟩⟩
theorem jL{A:Tx}{E:UB}{Q:Unit->ID->Prop}{x C:SA}{v:nE}(I:Inv X aa Z H s)(e:ExcAt X aa H s.heap x C<|J v)(f:Option SA)
  (q:∀h',Inv X aa Z H {s with heap:=h'}->ExcAt X aa H h' x C (J<|f.elim .none fun a=>Xb a)->Q () {s with heap:=h'}):SN #[0] A (setFlight (.ref x) f) Q E s:=by
 left;refine XX e.ob fun p vs h1 h2 n t _ u=>?_;refine rA (u v rfl) fun T oT F l k j r m g D=>?_;right;have i:3<F.size:=(LN.mp D).1;delta setFlight;refine iF<|Wo h1 n l ?_;have h:(WU T != Yk)=G:=by rfl
 rw[SI h];refine mV m g i ?_;generalize M:(f.elim Yk fun a=>Xb a)=nv at q;have B:=mR (oK (·.setIfInBounds 3 nv)) m<|k9<|yY g _;have c:∀b o,b≠T->s.heap.get? b=J o->(s.heap.update T<|oK (·.setIfInBounds 3 nv)).get? b=J o:=fun b o d z=>by
  rw[hY _ _<|Vn d];exact z
 refine q _ (I.GQ (ch:=[T]) (fun b d=>?_) (fun b o _ _ d z=>c b o (fun y=>d<|by simp[y]) z) fun b o d z=>⟨o.slots,c b o (fun y=>d<|by simp[y]) z⟩) ⟨e.nx,e.hx,p,vs,c x p (Vn r) h1,h2,n,t,fun z=>(by cases z),fun K z=>?_⟩
 .rw[IF.mp d];exact⟨k,j⟩
 .cases z;exact⟨T,_,_,l,k,j,r,B,yY g _,by simp[i]⟩
theorem DD{M:Model}{A:Tx}{E:UB}{s:ID}{d:T3}{e1 a:Env}{os:List Env}{Lq0:SA}{Q:UB}(k1:A.frames=J (e1::os))(k2:s.heap.FunFrames d<|e1::os)(k3:e1.frame=J Lq0)(k4:a.frame=J Lq0)
  (k5:∀g,Heap.SlotsOnly ((e1::os).filterMap (·.frame)) s.heap g->Q (.ref Lq0) {s with heap:=g}):SN M A (PySem.frameOf a) Q E s:=by
 have c:((e1::os).dropWhile fun y=>y.frame != a.frame)=e1::os:=by simp[List.dropWhile,k3,k4]
 delta PySem.frameOf;refine iF<|wpAny_frameEnvs k1 ?_;rw[c];delta frameObject;refine iF<|iF<|wpAny_readyFrames_fun k2 fun g b=>U4 ?_;rw[k3];exact U4<|k5 g b
theorem uF{A:Tx}{E:UB}{Q:Unit->ID->Prop}{x C:SA}{fl:Option nE}{hd:nE}{hn:Bool}{N:Env}(n:N.frame=J X.env.locals)(m:A.frames=J (X.env::X.outer))(p:X.stack=X.env::X.outer)(S:X.env.frame=J X.env.locals)
  (I:Inv X aa Z H s) (e:ExcAt X aa H s.heap x C fl)
  (q:∀h',Inv X aa Z H {s with heap:=h'}->ExcAt X aa H h' x C (J<|Xb X.env.locals)->Q () {s with heap:=h'}):
  SN #[0] A (do let a <-frameOf N;let pl <-entryPlaceOf X.env.locals hn;let b <-Q1 hd a .none (Xb X.env.locals) .none pl;setField (.ref x) 1 b) Q E s:=by
 left;refine XX e.ob fun oe vs h1 h2 t j _ _=>?_;right;have F:s.heap.FunFrames X.base<|X.env::X.outer:=by rw[<-p];exact I.stack
 have d:∀b,b∈(X.env::X.outer).filterMap (·.frame)->b=X.env.locals\/b∈X.fs:=fun b c=>by
  rw[AC,S]at c;rcases eQ.mp c with z|z
  .exact .inl z
  .exact .inr z
 have M:x∉(X.env::X.outer).filterMap (·.frame):=fun z=>(d x z).elim e.nx.loc e.nx.fs;refine iF<|DD m F S n fun g T=>?_;obtain⟨g1,g2,g3⟩:=T;refine iF<|wpAny_entryPlaceOf fun pl B=>?_;delta Q1 newFields;refine iF<|tU ?_<|B.sizeOk5 _ _ _ _ _;generalize k:([hd,.ref X.env.locals,.none,Xb X.env.locals,.none]++(if pl.isEmpty then Ut 6 Yk else pl))=ts;have t3:ts[3]?=J (Xb X.env.locals):=by rw[<-k];rfl
 have P:g.get? x=J oe:=(g2 x M).trans h1;generalize D:({cls:=.type "traceback",dict:=U,data:=.fields ts.toArray}:Obj)=tob;have i:tob.data=.fields ts.toArray:=by rw[<-D]
 have u:tob.isFreed=η:=k9 i;have R:=iN (h:=g) tob P;refine mV R t j.1 ?_;have sz:g.objs.size=s.heap.objs.size:=g1;have O:x≠g.objs.size:=Vd<|Tn P;have V:=mR (oK (·.setIfInBounds 1 (WU g.objs.size))) R<|k9<|yY t _;have tg:((g.push tob).update x<|oK (·.setIfInBounds 1 (WU g.objs.size))).get? g.objs.size=J tob:=by
  rw[hY _ _ O];exact Vh _ u
 have f:∀b o,b≠x->g.get? b=J o->((g.push tob).update x<|oK (·.setIfInBounds 1 (WU g.objs.size))).get? b=J o:=fun b o c z=>by
  rw[hY _ _<|Vn c];exact iN _ z
 have W:=I.GQ (ch:=[x]) (h':=(g.push tob).update x<|oK (·.setIfInBounds 1 (WU g.objs.size))) (fun b c=>by rw[IF.mp c];exact⟨e.nx,e.hx⟩)
  (fun b o c K r z=>f b o (fun y=>r<|by simp[y])<|(g2 b fun y=>(d b y).elim c K).trans z)
  (fun b o r z=>by
   obtain⟨l,y⟩:=g3 b o z;exact⟨l,f b _ (fun y=>r (by simp[y])) y⟩)
 have nt:Nw X aa g.objs.size:=Nw.new I (by rw[sz];exact mK _);exact q _ W ⟨e.nx,e.hx,_,_,V,⟨(Obj.cls_mapFields _ _).trans h2.1,(C7 _ _).trans h2.2⟩,yY t _,⟨by simp;exact j.1,fun z=>by simp;exact j.2 z⟩,fun z=>(by cases z),fun v z=>by
  cases z;exact⟨g.objs.size,tob,ts.toArray,by simp[j.1],nt,I.Su.fresh (by rw[sz];exact mK _),Vn O,tg,i,by simpa using t3⟩⟩
theorem rV{A:Tx}{E:UB}{Q:Unit->ID->Prop}{x C:SA}{fl:Option nE}{p:Env}(a:p.frame=J X.env.locals)(f:A.frames=J (X.env::X.outer))(g:X.stack=X.env::X.outer)(B:X.env.frame=J X.env.locals)
  (I:Inv X aa Z H s) (e:ExcAt X aa H s.heap x C fl)
  (q:∀h',Inv X aa Z H {s with heap:=h'}->ExcAt X aa H h' x C (J<|Xb X.env.locals)->Q () {s with heap:=h'}):SN #[0] A (noteFrame (.ref x) p) Q E s:=by
 refine XX e.ob fun D vs h1 h2 j M P N=>?_;cases fl with
 |none=>
  delta noteFrame;rw[a];refine iF<|Wo h1 j (P rfl) ?_;rw[SM<|∎];exact uF a f g B I e q
 |some v=>
  refine rA (N _ rfl) fun T oT R n u t F i h m=>?_;by_cases K:v=Xb X.env.locals
  .subst K;exact wpAny_noteFrame_inFlight a h1 j n i h m<|q s.heap I e
  .delta noteFrame;rw[a];refine iF<|Wo h1 j n ?_;have k:(WU T != Yk)=G:=by rfl
   rw[SI k];refine iF<|Wo i h m ?_;have l:¬((v==Xb X.env.locals)=G):=fun z=>K<|beq_iff_eq.mp z;rw[SM l];have r:3<R.size:=(LN.mp m).1;refine iF<|mV i h r ?_;have O:=mR (oK (·.setIfInBounds 3 Yk)) i<|k9<|yY h _;have c:∀b o,b≠T->s.heap.get? b=J o->(s.heap.update T<|oK (·.setIfInBounds 3 Yk)).get? b=J o:=fun b o d z=>by
    rw[hY _ _<|Vn d];exact z
   refine uF (fl:=J .none) a f g B (I.GQ (ch:=[T]) (fun b d=>?_) (fun b o _ _ d z=>c b o (fun y=>d<|by simp[y]) z) fun b o d z=>⟨o.slots,c b o (fun y=>d<|by simp[y]) z⟩) ⟨e.nx,e.hx,D,vs,c x D (Vn F) h1,h2,j,M,fun z=>(by cases z),fun S z=>?_⟩ q
   .rw[IF.mp d];exact⟨u,t⟩
   .cases z;exact⟨T,_,_,n,u,t,F,O,yY h _,by simp[r]⟩
end
def XE(X:Cx)(E:XK)(e:nE)(s':ID):Prop:=∃Z H x C fl,e=.ref x/\Inv X [] Z H s'/\ExcAt X [] H s'.heap x C fl/\E (.ref x) (J C) H
def aoo(mg:Sq)(c h:T3)(H:Hp)(x C:SA):Prop:=c.get? x=U/\H x=U/\∃a vs,h.get? x=J a/\(a.cls=.ref C/\a.dict=U)/\a.data=.fields vs/\(1<vs.size/\(mg Ms≠J (.ref C)->vs[2]?=J .none)) /\
 ∃T oT b,vs[1]?=J (.ref T)/\c.get? T=U/\H T=U/\T≠x/\h.get? T=J oT/\oT.data=.fields b/\b[3]?=J Yk
def oI(P:Tc)(w:Sl)(mg:Sq):Ee:=fun a H s E e s'=>∃x C H',e=.ref x/\s'.os=s.os/\AllBare s'.gens/\Un (Ec a) [] H H' s.heap s'.heap/\nW P w H' s'.heap/\aoo mg s.heap s'.heap H' x C/\E (.ref x) (J C) H'
section
variable{P:Tc}{w:Sl}{K:aT}{mg:Sq}{base:T3}
theorem tm{X:Cx}{E:XK}{e:nE}{s':ID}(b:X.stack=X.env::X.outer)(g:X.env.frame=J X.env.locals)(hx:X.ex=[])(h:XE X E e s'):
  SN #[0] X.A (leaving X.env e) (fun _ a=>oI X.prog X.w X.mg X.outer X.H₀ X.s₀ E e a) (fun k a=>oI X.prog X.w X.mg X.outer X.H₀ X.s₀ E k a) s':=by
 left;refine gU h fun Z H' x C fl v I i m=>?_;subst v;right;have d:X.A.frames=J (X.env::X.outer):=by rw[<-b];exact I.ok.frames
 delta leaving;refine iF<|rV g d b g I i fun h1 j e1=>?_;refine jL j e1 U fun h2 c f=>?_;left;refine XX f.ob fun s vs q p o t _ l=>?_;refine c7 (l _ rfl) fun T oT u b1 b2 n r=>?_;right;have un:=c.base;rw[hx]at un;exact⟨x,C,H',rfl,c.os,c.bare,un,c.Su,⟨f.nx.base,f.hx,s,vs,q,p,o,t,T,oT,u,b1,b2.base,n,r⟩,m⟩
noncomputable abbrev Cx.may(X:Cx)(E:XK):Cx:=X.Td<|XE X E
theorem Qu{k:Nat}{f:SA}{name a:Str}{c:Arguments}{g:List SU}{scope:Scope}{n kV i p d o y:nE}{r x:Option SA}
  {l:Array<|Option nE} {N ps:SH} {sp:Sp} (lk:K.lookup f=J ⟨y,x,.func<|Wk name a c g scope n kV i p r d o,l⟩) (j:uz K d a=G) (S:Vr N ps scope)
  (len:∀vs H Q E,sp vs H Q E->vs.length=ps.length)
  (h:∀(A:Tx)(b:List Env)(s:ID)(H:Hp)(vs:Se)(Q:VK)(E:XK),TZ k (A.deeper<|W7 a scope s.heap.objs.size f d)->sp vs H Q E ->
   ∃t,IR ((gw (oI P w mg) P w K mg base N a scope f d A b s H E).may E) g t/\t {nx:=fun _ H'=>Q .S9 H',rt:=Q} (start N vs) H):
  T8 P w K mg base (oI P w mg) (k+1) f (Wk name a c g scope n kV i p r d o) ps sp:=by
 refine NP lk j S len fun A b s H vs Q E u m=>?_;obtain⟨t,h1,h2⟩:=h A b s H vs Q E u m;exact⟨t,fun aa v Z H1 D I hw=>UE (h1 aa v Z H1 D (I.Td _) hw) (fun _ _ q=>q.Ul) fun e B z=>tm (X:=gw (oI P w mg) P w K mg base N a scope f d A b s H E) rfl rfl rfl z,h2⟩
theorem Ln{k:Nat}{f:SA}{name a:Str}{c:Arguments}{g:List SU}{scope:Scope}{p kV i u d r F:nE}{v C:Option SA}
  {m:Array<|Option nE} {N ps:SH} {sp:Sp} (lk:K.lookup f=J ⟨F,C,.func<|Wk name a c g scope p kV i u v d r,m⟩) (j:uz K d a=G) (S:Vr N ps scope)
  {o:Str} {pr:SH} (y:ps=o::pr) (l:scope.names.lookup o=J .local) (len:∀vs H Q E,sp vs H Q E->vs.length=ps.length)
  (h:∀(A:Tx)(b:List Env)(s:ID)(H:Hp)(vs:Se)(Q:VK)(E:XK),TZ k (A.deeper<|W7 a scope s.heap.objs.size f d)->sp vs H Q E ->
   ∃t,IR (((gw (oI P w mg) P w K mg base N a scope f d A b s H E).up 1).may E) g t/\t {nx:=fun _ H'=>Q .S9 H',rt:=Q} (start N vs) H):
  T8 P w K mg base (oI P w mg) (k+1) f (Wk name a c g scope p kV i u v d r) ps sp:=by
 refine HH lk j S y l len fun A b s H vs Q E x n=>?_;obtain⟨t,h1,h2⟩:=h A b s H vs Q E x n;exact⟨t,fun aa B Z H1 D I hw=>UE (h1 aa B Z H1 D (I.Td _) hw) (fun _ _ q=>q.Ul) fun e M z=>tm (X:=(gw (oI P w mg) P w K mg base N a scope f d A b s H E).up 1) rfl rfl rfl z,h2⟩
end
section
variable{X:Cx}{aa:TQ}{Z:St}{H:Hp}{s s':ID}{E:XK}{e:nE}
theorem KL{k:Nat}{f:SA}{fd:Wj}{ps:SH}{sp:Sp}{Q:VK}{us:TK}{vs:Se}(F:T8 X.prog X.w X.K X.mg X.base (oI X.prog X.w X.mg) k f fd ps sp)(g:TZ k X.A)(l:cf X.K fd ps [])
  {d:UB} (i:∀e s',X.tn<=s'.toks->oI X.prog X.w X.mg X.stack H s E e s'->d e s') (I:Inv X aa Z H s) (r:aU vs us) (h:sp vs H Q E):SN #[0] X.A (call (.ref f) us) (EP X aa Z Q) d s:=by
 have j:(us++[]).length=ps.length:=by rw[Wz,<-r.length];exact F.len _ _ _ _ h
 have b:=l s us I.U3 j;rw[Wz]at b;refine wpAny_call<|dk I.tk<|eo (F.run X.A X.stack s H ⟨us,[]⟩ us vs Q E g I.v8 b r h) fun r s' a c=>?_;cases r with
 |error e=>exact i e s' c a
 |ok fl=>
  cases fl with
  |ret u=>exact I.after a
  |next=>exact a.elim
  |brk=>exact a.elim
  |cont=>exact a.elim
end
section
variable{X:Cx}{E:XK}
theorem Lm{K:aT}{h:T3}{C:SA}{d:TK}{a:String}(f:K.In h)(q:ek K C d a=G):
  ∃bm N nm qn bs hdct sn sub ab col dd k0 k1 k2 k3 k5 mN,h.get? C=J (excClassObj nm qn C N bs bm hdct sn sub ab col dd k0 k1 k2 k3 k5 a)/\h.Ns N mN/\mN "__init__"=U/\OwnTail h d bm:=by
 delta ek at q;split at q
 .rename_i dd cd sl ho;split at q
  .rename_i C' bm k0 k1 k2 k3 n k5 hm hs;simp only[oR,beq_iff_eq,Yl]at q;left;obtain⟨⟨⟨⟨⟨e1,j⟩,b⟩,i⟩,c⟩,e⟩:=q;subst e1 j;cases cd;right;dsimp only at hm b c e;subst hm b;have g:sl=⟨[k0,k1,k2,k3,J<|.builtin n,k5]⟩:=by rw[<-hs]
   subst g;exact⟨bm,_,_,_,_,_,_,_,_,_,dd,k0,k1,k2,k3,k5,_,f _ _ ho,.of_isNs<|PySem.W.isNs_of_in f c,PySem.W.nsMap_none_of_in f c e,PySem.W.tail_of_in f i⟩
  .cases q
 .cases q
abbrev Gj:TK:=[.type "ValueError",.type "Exception",.type "BaseException",.type "object"]
def ZB(C:SA)(E:XK)(t:TA):TS:=fun _ Z H=>t Z H fun vs H1=>vs.length<=10/\∀x,E (.ref x) (J C) H1
theorem DH{j:Str}{C:SA}{S cpos pos:Pos}{a:Ry}{as:List Ry}{t:TA}(A:X.mg j=J (.ref C))(M:ek X.K C Gj "ValueError.__new__"=G)(R:X.calm=G)(Q:qQ X)(T:PA (X.may E) (a::as) t)
  (F:Gl X j) (n:(j==("__debug__":Str))=η) (h1:(a::as).all al=G):PS (X.may E) (.Raise (J<|.Call (.Name j S) (a::as) [] cpos) U pos)<|ZB C E t:=by
 intro aa s Z H D I h;have V:al a=G:=by simp only[Vg,oR]at h1;exact h1.1
 have W:as.all al=G:=by simp only[Vg,oR]at h1;exact h1.2
 left;obtain⟨bm,N,nm,qn,bs,hdct,sn,sub,ab,col,dd,k0,k1,k2,k3,k5,mN,O,P,m,w⟩:=Lm I.ok.mod.XM M;right;have p:∀{i:ID}{l:St}{g:Hp},Inv (X.may E) aa l g i->∀b o,X.base.get? b=J o->i.heap.get? b=J o:=fun d b o e=>(d.bs b o e).1;refine wpAny_Raise_call_subU (C:=C) (nm:=nm) (q:=qn) (N:=N) (bs:=bs) (bm:=bm) (hdct:=hdct) (sn:=sn) (sub:=sub) (ab:=ab) (col:=col) (dd:=dd) (k0:=k0) (k1:=k1) (k2:=k2) (k3:=k3) (k5:=k5) (mN:=mN)
  x6 ⊤ x6 (w.hasType x6.hasBase) (I.ok.hd R) (bH h1) m (dD I F A ⟨rfl,?_⟩ n)
 have hs:=T cpos aa s Z H _ I h;rw[bC V]at hs⊢;refine sE<|UE hs (fun us i q_=>US q_ fun vs g I2 r2 hl hE=>?_) fun _ _ z=>z;refine⟨rfl,?_,p I2 _ _ O,P.keeps<|p I2,w.keeps<|p I2,fun h' x k=>?_⟩
 .show us.length<=Ta;rw[<-r2.length,XB];exact RW hl ∅
 .have d:=I2.Ul;have y:Inv X aa Z g {i with heap:=h'}:=d.kept (t':=i.toks) fun b o e=>k.keeps b o e;refine gL k.there fun tp B _ _=>?_;have f:g x=U:=by
   cases q:g x with
   |none=>rfl
   |some u=>
    have c:=d.Su x u q;obtain⟨o,r⟩:∃o,i.heap.get? x=J o:=by
     cases u<;>first
      |(obtain⟨_,_,_,_,e⟩:=c;exact⟨_,e⟩)
      |(obtain⟨_,_,_,o,e,_⟩:=c;exact⟨o,e⟩)
      |(obtain⟨_,_,_,_,o,_,_,e,_⟩:=c;exact⟨o,e⟩)
      |(refine y8 c fun o _ _ _ e _=>?_;exact⟨o,e⟩)
      |(refine uf c fun _ _ _ e _=>?_;exact⟨_,e⟩)
      |(obtain⟨o,e⟩:=c;exact⟨o,e⟩)
      |(obtain⟨_,⟨o,_,_,e,_⟩,_⟩:=c;exact⟨o,e⟩)
      |(obtain⟨_,_,_,e⟩:=c;exact⟨_,e⟩)
      |(obtain⟨e,_⟩:=c;exact⟨_,e⟩)
      |exact⟨_,c⟩
      |(obtain⟨_,e,_⟩:=c;exact⟨_,e⟩)
      |(obtain⟨_,⟨o,e⟩,_⟩:=c;exact⟨o,e⟩)
    rw[k.new]at r;cases r
  exact⟨Z,g,x,C,U,rfl,y.less,⟨(Nw.gone d Q k.new).less,f,_,_,B,⟨rfl,rfl⟩,rfl,⟨∅,fun _=>rfl⟩,fun _=>rfl,fun v z=>(by cases z)⟩,hE x⟩
end
def spX(K:aT)(mg:Sq)(F:Rx->R D):Sp:=fun vs H Q E=>∃as ds,(∀a∈as,H a≠U)/\ay K (aj as H) ds vs/\cP ⟨K,mg,E⟩ as H (F ds) Q
section
variable{P:Tc}{w:Sl}{K:aT}{mg:Sq}{base:T3}
theorem Kh{φ:FS}{N ps:SH}{O':Ru}{vs:Se}{H:Hp}{Q:VK}{E:XK}(h:spX K mg (gx φ N ps) vs H Q E):sD ⟨K,mg,E⟩ [] [] O' φ {nx:=fun _ H'=>Q .S9 H',rt:=Q} (start N vs) H:=by
 obtain⟨as,ds,ex,b,h⟩:=h;delta gx at h;cbv
 .rename_i hl;refine⟨as,H,[],gd N ds,⟨?_,rfl,Yv,Yv,fun a g=>(nomatch g),ex,ah.refl _,fun i d _ e=>?_,fun i a h=>(by simp at h)⟩,?_⟩
  .delta gd start;simp[b.len]
  .unfold gd at e;delta start;rw[<-b.len];exact mZ b e
  .cases hr:φ (gd N ds)with
   |ok fl=>
    rw[hr]at h;cases fl with
    |rt d=>exact fun v H' s c=>h v H' s c
    |rn d=>exact fun p o H' s f e j=>h (.ref p) H' s<|j.den (fun z=>ex p z f) e
    |nx Y=>exact fun own Z H' I=>h .S9 H' I.same rfl
    |bk Y=>mleft
    |ct Y=>mleft
   |er x=>rw[hr]at h;exact fun e C H' s=>h e C H' s
   |no=>rw[hr]at h;mleft
 .mleft
end
section
variable{X:Cx}{W:Wd}{O:Ru}{φ:FE}
def tFs(c:Str)(ta:TE):TE:=fun Z H Q=>ta Z H fun v H1=>∃z,v=.str z/\c.length+10*z.length+2<=1000000/\(∀k∈z.cps.toList,k<16^8)/\Q (.str<|c++reprText z) H1
theorem empty_app(c:Str):qT++c=c:=by
 obtain⟨a⟩:=c;show(⟨#[]++a⟩:Str)=⟨a⟩;simp
theorem J7{c:Str}{j:Nat}{p1 p2 pos:Pos}{a:Ry}{ta:TE}(r:PE X a ta)(i:c.length<=1000):PE X (.JoinedStr [.Constant (.str c) j p1,.FormattedValue a 114 U p2] pos)<|tFs c ta:=by
 intro aa s Z H Q I h;refine wpAny_JoinedStr ?_;refine mO (k:=j) (pos:=p1) ⟨c,s.toks,rfl,?_,?_⟩
 .rw[empty_app,XB];exact RW i ∅
 have m:Inv X aa Z H {s with toks:=s.toks+1}:=I.tok<|s.toks+1;refine wpAny_FormattedValue_repr<|bP (r aa _ Z H _ m h) fun v d o=>jZ o fun x H1 f r1 q1=>?_;obtain⟨z,rfl,w,p,q⟩:=q1;obtain⟨tk,rfl⟩:=r1;have u:=StrLaws.reprText_len z p;refine wpAny_pyReprObj_str ?_ (by rw[XB];lia);have fin:∀(b:Nat)(g:Tok),X.tn<=b->∃y t,Value.str (reprText z) g=.str y t/\(qT++c++y).length<=Ta/\(qT++c++y).length<=Ta/\EP X aa Z Q (.str (qT++c++y) b) {d with toks:=b+1}:=fun b g n=>by
  have e:qT++c++reprText z=c++reprText z:=by rw[empty_app]
  have l:(qT++c++reprText z).length<=Ta:=by
   rw[e,strLen_append,XB];lia
  exact⟨_,g,rfl,l,l,.str<|c++reprText z,H1,f.tok (b+1)<|nJ n,⟨b,by rw[e]⟩,q⟩
 refine wpAny_formatField_str ?_ ?_ (by rw[XB];lia)
 .exact fin (d.toks+1) d.toks (nJ f.tk)
 .exact fin (d.toks+1+1) (d.toks+1) (nJ<|nJ f.tk)
def rF(c:Str)(φ:FE):FE:=fun Y=>(φ Y).bind fun d=>match d with
 |.str z=>if c.length+10*z.length+2<=1000000/\(∀k∈z.cps.toList,k<16^8)then .ok (.str<|c++reprText z)else .no
 |_=>.no
theorem Rb{c:Str}{j:Nat}{p1 p2 pos:Pos}{a:Ry}(f:JE X a<|tD W O φ)(b:c.length<=1000:=by trivial):JE X (.JoinedStr [.Constant (.str c) j p1,.FormattedValue a 114 U p2] pos)<|tD W O<|rF c φ:=
 (JE.mk<|J7 (c:=c) (j:=j) (p1:=p1) (p2:=p2) (pos:=pos) f.out b).imp fun Z H Q d=>dQ d fun as0 B own Y I h=>⟨as0,B,own,Y,I,aY h fun x v H1 g e h1=>by
  split at h1
  .subst e;split at h1
   .rename_i hl;exact⟨_,rfl,hl.1,hl.2,ax h1 rfl⟩
   .exact h1.elim
  .exact h1.elim⟩
end
noncomputable abbrev Cx.hand(X:Cx)(e:nE):Cx:={X with A:=X.A.mark<|J e,calm:=η}
section
variable{X:Cx}{aa:TQ}{Z:St}{H:Hp}{s:ID}{e:nE}
theorem Inv.hand(I:Inv X aa Z H s)(e:nE):Inv (X.hand e) aa Z H s:=
 ⟨⟨I.ok.mod,I.ok.kind,I.ok.glob,I.ok.blt,I.ok.above,I.ok.inj,I.ok.has,I.ok.sY,(fun z=>nomatch z),I.ok.frames,I.ok.xN,I.ok.x9,I.ok.bs,I.ok.Wq,I.ok.Zo,I.ok.ZR,I.ok.WE,I.ok.XJ⟩,I.os,I.bare,I.base,I.loc,I.cell,I.free,I.WZ,I.pin,I.Su,I.len,I.tk⟩
theorem Inv.kn(ok:X.Ok)(I:Inv (X.hand e) aa Z H s):Inv X aa Z H s:=⟨ok,I.os,I.bare,I.base,I.loc,I.cell,I.free,I.WZ,I.pin,I.Su,I.len,I.tk⟩
theorem SP.kn(ok:X.Ok){D:Ends}{f:Flow}{s':ID}(h:SP (X.hand e) aa D f s'):SP X aa D f s':=by
 cases f with
 |next=>obtain⟨a,H',I,q⟩:=h;exact⟨a,H',I.kn ok,q⟩
 |brk=>obtain⟨a,H',I,q⟩:=h;exact⟨a,H',I.kn ok,q⟩
 |cont=>obtain⟨a,H',I,q⟩:=h;exact⟨a,H',I.kn ok,q⟩
 |ret u=>obtain⟨v,a,H',I,r,q⟩:=h;exact⟨v,a,H',I.kn ok,r,q⟩
end
section
variable{Z:St}{s:ID}
section
variable{Z:St}{s:ID}
theorem Inv.aoM(I:Inv X aa Z H s)(n:Nw X aa y)(hy:H y=U)(new:fK X.prog X.w (br H y o) s.heap y o):Inv X aa Z (br H y o) s:=by
 have hs  := bR hy o;refine⟨I.ok,I.os,I.bare,⟨I.base.keep,I.base.slot,fun b ob e n0 hx=>?_,I.base.there,fun b xs e=>hs _ _<|I.base.xV b xs e,fun b ob u e=>hs _ _<|I.base.tQ b ob u e,fun b ps e=>?_⟩,I.loc,I.cell,?_,fun x c e=>?_,fun p hp=>?_,fun a u e=>?_,I.len,I.tk⟩
 .have:b≠y:=fun z=>by rw[z,n.base]at e;cases e
  rw[aG this];exact I.base.free b ob e n0 hx
 .exact hs _ _ (I.base.b9 b ps e)
 .rw[aG<|Vn n.loc];exact I.free
 .rw[aG<|n.cell x c e];exact I.WZ x c e
 .obtain⟨h1,h2,h3⟩:=I.pin p hp;exact⟨h1,by rw[aG<|n.pin p hp];exact h2,h3⟩
 .by_cases ha:a=y
  .subst ha;have e':u=o:=by unfold br at e;grind
   rw[e'];exact new
  .rw[aG ha]at e;exact(I.Su a u e).zY (fun _ _ _ q=>q) (fun b q=>hs _ _ q) fun b xs q=>⟨hs _ _ q.1,q.2⟩
end
section
variable{Z:St}{s:ID}
theorem Inv.aaw{h':Heap}{m':Sq}(I:Inv X aa Z H s)(hn':h'.Ns X.env.locals m')(hs:X1 X.env.locals s.heap h'):Inv X aa (Z.map fun _=>U) H {s with heap:=h',toks:=s.toks+1}:=by
 obtain⟨m,hn,hl⟩:=id I.loc;have fq:=I.fq;obtain⟨oL,_,_,hoL,_⟩:=id hn;have tracked:nW X.prog X.w H h':=fun b ob e=>by
  refine(I.Su b ob e).zY (fun c w' hc q=>(hs.2 c ?_).trans q) (fun _ q=>q) fun _ _ q=>q;rintro rfl;rcases hc with hc|hc
  .rw[<-hc,I.free]at e;cases e
  .rw[I.free]at hc;cases hc
 refine⟨I.ok,I.os,I.bare,⟨fun b o e n hb hx=>?_,fun b o e n hb hx=>?_,I.base.free,fun b o e hx=>?_,I.base.xV,I.base.tQ,I.base.b9⟩,⟨_,hn',fun j y v' e1 Rt Ua=>?_⟩,fun y c e=>?_,I.free,I.WZ,fun p hp=>?_,tracked,by simpa using I.len,by walk_at "tok"⟩
 .exact(hs.2 b<|Vd<|Rw (Tn e) I.ok.above).trans (I.base.keep b o e n hb hx)
 .obtain⟨sl,e1⟩:=I.base.slot b o e n hb hx;exact⟨sl,(hs.2 b<|Vd<|Rw (Tn e) I.ok.above).trans e1⟩
 .obtain⟨o',e1⟩:=I.base.there b o e hx;exact⟨o',(hs.2 b<|Vd<|Rw (Tn e) I.ok.above).trans e1⟩
 .rw[Xm]at Rt;cases q:Z[j]?<;>rw[q]at Rt<;>cases Rt
 .obtain⟨w',z⟩:=I.cell y c e;exact⟨w',z.sameBut hs<|fq y c e⟩
 .obtain⟨e,n,ne,nf,d⟩:=I.pin p hp;exact⟨(hs.2 p.1 ne).trans e,n,ne,nf,d⟩
end
theorem ExcAt.inst{h:T3}{y C:SA}{fl:Option nE}(e:ExcAt X aa H h y C fl):∃c,S0 h y c C U:=by
 obtain⟨b,vs,h1,⟨h2,a⟩,d,_⟩:=e.ob;exact⟨b,h1,h2,by delta PySem.W.notCls;rw[d],by rw[a];trivial⟩
section
variable{Z:St}{s:ID}
theorem ExcAt.obj{y C:SA}{fl:Option nE}(e:ExcAt X aa H s.heap y C fl):fK X.prog X.w (br H y<|ls y C) s.heap y<|ls y C:=by
 obtain⟨oe,vs,h1,⟨h2,h2'⟩,h3,_⟩:=e.ob;exact⟨⟨oe,vs,h1,h2,h2',h3⟩,⟨_,h1⟩,fun a b⟨o,us,q1,q⟩k=>⟨o,us,k _ q1,q⟩⟩
end
end
section
variable{Z:St}
theorem Cz{E:UB}{fl:Option nE}(c:X.stack=X.env::X.outer)(k:X.env.frame=J X.env.locals)(m:X.mg T=J (.ref CT))(p:Cm X.K (.ref C) (.ref CT)=J G)(o:Gl X T)(i:(T==("__debug__":Str))=η)
  (I:Inv X aa Z H s) (e:ExcAt X aa H s.heap y C fl)
  (a:∀h' t',Inv X aa Z H {s with heap:=h',toks:=t'}->ExcAt X aa H h' y C (J .none)->SN #[0] (X.A.mark<|J<|.ref y) (execs (b₀::bs) X.env) Q (fun _ _=>False) {s with heap:=h',toks:=t'}):
  SN #[0] X.A (noteFrame (.ref y) X.env) (fun _ d=>SN #[0] X.A (setFlight (.ref y) U) (fun _ b=>SN #[0] X.A (handleBy (.ref y) X.env [.ExceptHandler (J<|.Name T tp) U (b₀::bs) hpos]) Q E b) E d) E s:=by
 have g:X.A.frames=J (X.env::X.outer):=by rw[<-c];exact I.ok.frames
 refine rV k g c k I e fun h1 n e1=>?_;refine jL n e1 U fun h2 h l=>?_;have j:=h.hand<|.ref y;refine wpAny_handleBy_cons (codeAny_handlers_test<|dD j o m ?_ i) (by intro q;cases q);obtain⟨x,v⟩:=l.inst;refine(PySem.W.exm_one (M:=UA X.prog X.w) h.U3 v.type p).at ?_;show qq _ _ _ _ _;refine codeAny_handlers_suite ?_;refine jL (A:=X.A.mark<|J<|.ref y) h l U fun u t r=>?_;exact UE (a u _ t r) (fun f B z=>z) fun _ _ z=>z.elim
section
variable{Z:St}
theorem aiW{E:UB}{fl:Option nE}{n:Str}{i:Nat}(hst:X.stack=X.env::X.outer)(hf:X.env.frame=J X.env.locals)(hm:X.mg T=J (.ref CT))(hq:Cm X.K (.ref C) (.ref CT)=J G)(hg:Gl X T)(hdb:(T==("__debug__":Str))=η)
  (hN:X.N.Nodup) (hi:X.N[i]?=J n) (hl:X.env.scope.names.lookup n=J .local) {D:Ends}
  (I:Inv X aa Z H s) (e:ExcAt X aa H s.heap y C fl)
  (hsuite:∀s',Inv X aa (Z.set i<|J<|.ref y) (br H y<|ls y C) s'->wpAny (model X.prog X.w) (X.A.mark<|J<|.ref y) (execs (b₀::bs) X.env) (fun f s2=>∃u v σ' H',f=.ret u/\Inv X aa σ' H' s2/\aP v u/\D.rt v H') (fun _ _=>False) s'):
  wpAny (model X.prog X.w) X.A (noteFrame (.ref y) X.env) (fun _ s₂=>wpAny (model X.prog X.w) X.A (setFlight (.ref y) U) (fun _ s₃=>wpAny (model X.prog X.w) X.A (handleBy (.ref y) X.env [.ExceptHandler (J<|.Name T tp) (J n) (b₀::bs) hpos]) (SP X aa D) E s₃) E s₂) E s:=by
 have hfr:X.A.frames=J (X.env::X.outer):=by rw[<-hst];exact I.ok.frames
 refine rV hf hfr hst hf I e fun h1 I1 e1=>?_;refine jL I1 e1 U fun h2 I2 Rt=>?_;have I2h:=I2.hand<|.ref y;refine wpAny_handleBy_cons (codeAny_handlers_test<|dD I2h hg hm ?_ hdb) (by intro q;cases q);obtain⟨oxq,IAq⟩:=Rt.inst;refine(PySem.W.exm_one (M:=model X.prog X.w) I2.U3 IAq.type hq).at ?_;show codeAny _ _ _ _ _;refine codeAny_handlers_suite_as ?_;refine jL (A:=X.A.mark<|J<|.ref y) I2 Rt U fun h3 I3 Ua=>?_;have I4:=I3.aoM Ua.nx Ua.hx Ua.obj;refine tZ (v:=.ref y) I4 hN hi (.inl hl) rfl (fun s5 I5=>?_) (.inr hl);refine wpAny_mono (hsuite s5 I5) (fun f s6 hh0=>?_) fun _ _ z=>z.elim;obtain⟨u,v,σ',H',hu,I6,rv,hD⟩:=hh0;subst hu;obtain⟨m,hn,_⟩:=id I6.loc;have hcls:(X.env.scope.kind==.class||(X.env.scope.kind==.module&&X.env.locals != X.env.globals))=η:=by rw[I.ok.kind];rfl
 refine wpAny_nameGoes hl hn hcls fun h' m' hn' hs=>?_;exact⟨v,_,H',I6.aaw hn' hs,rv,hD⟩
end
end
section
variable{X:Cx}{K:aT}{mg:Sq}{E1:XK}{Ob O O':Ru}{fn:Str}{st:SU}{ps:SH}{f:SA}{fd:Wj}{j k i n:Nat}{F:Rx->R D}{p pos apos xp tp hpos tpos:Pos}{e:Ry}{es:List Ry}{α:FA}{x T nm:Str}{CT:SA}{mt:Str->Bool}
 {b₀:SU} {bs:List SU} {ψ:FS}
def LL(K:aT)(mg:Sq)(mt:Str->Bool)(CT:SA):Prop:=∀x C,mt x=G->mg x=J (.ref C)->DO K By x=J (J<|.ref C)/\Cm K (.ref C) (.ref CT)=J G
end
end L2
namespace L2
open PySem PySem.Spec PySem.W PyProof.Rows
structure z9(K:Frag)(C:SA):Prop where
 ga:findIn K (.ref C) "__getattribute__"=J (J<|.builtin "BaseException.__getattribute__")
 gh:findIn K (.ref C) "__getattr__"=J U
 cl:findIn K (.ref C) "__class__"=J (J<|.builtin "object.__class__")
 sp:specialIn K (.builtin "object.__class__") "__get__"=J (J<|.builtin "getset_descriptor.__get__")
 tk:takesIn K (.builtin "object.__class__")=J G
 ob:mroIn K C (.type "object")=J G
 be:mroIn K C (.type "BaseException")=J G
section
variable{prog:Tc}{w:Sl}{A:Around}{E:UB}{s:ID}{K:Frag}{x C:SA}{oxq:Obj}
theorem z9.cls(c:z9 K C):∃cd,clsIn K C=J cd:=by
 obtain⟨cd,h,_⟩:=bY.mp c.ob;exact⟨cd,h⟩
theorem z9.found(c:z9 K C):findObj K C U "__class__"=J (.bind (.builtin "getset_descriptor.__get__")<|.builtin "object.__class__"):=by
 obtain⟨cd,hc⟩:=c.cls;unfold findObj;rw[hc,Nr,c.cl,Nr];simp[c.sp,c.tk]
theorem S2{tk:Tok}{Q:Fin->ID->Prop}(c:z9 K C)(X:K.In s.heap)(I:InstAt s.heap x oxq C U)(h:Q (.done<|.ret<|.ref C) s):
  wpAny (model prog w) A (Builtin.«object.__getattribute__» ⟨[.ref x,.str "__class__" tk],[]⟩) Q E s:=by
 obtain⟨hh,ggq,d,t,os⟩:=s;have L0q:=I.type (M:=model prog w);have Xa:=looks_find (M:=model prog w) X I c.found;unfold Builtin.«object.__getattribute__»;refine wpAny_bind<|wpAny_pure<|wpAny_bind<|wpAny_pure<|wpAny_bind<|L0q.at<|wpAny_bind<|Xa.at ?_;show wpAny _ _ (holding [nE.builtin "object.__class__"] (call (.builtin "getset_descriptor.__get__") [.builtin "object.__class__",.ref x,.ref C]) >>= ret) _ _ _;refine wpAny_bind<|wpAny_holding<|wpAny_call<|class_get (ox:=oxq) (od:=U) X I c.ob ?_;exact wpAny_pure h
theorem ahx{tk:Tok}{R:Result->ID->Prop}(c:z9 K C)(X:K.In s.heap)(I:InstAt s.heap x oxq C U)(h:R (.ok<|.ret<|.ref C) s):
  codeAny (model prog w) A (.call (.builtin "BaseException.__getattribute__") ⟨[.ref x,.str "__class__" tk],[]⟩) R s:=by
 have L0q:=I.type (M:=model prog w);have Xa:=looks_mroIn (M:=model prog w) X c.be;refine codeAny_call_builtin F.attr_ValueError.ga.plain F.entry_bexc_ga ?_;have hk:builtinKind "BaseException.__getattribute__"=J .slot:=⊤
 have hsplit:splitId "BaseException.__getattribute__"=J ("BaseException","__getattribute__"):=⊤
 have ha:=F.args_bexc_ga (.ref x)<|.str "__class__" tk;simp only[checkBuiltinCall,hk,hsplit];refine wpAny_bind ?_;unfold isInstance;refine wpAny_bind<|L0q.at<|Xa.at ?_;simp only[Bool.not_true,Bool.false_eq_true,if_false];unfold argsOk at ha;generalize Manifest.signature? "BaseException.__getattribute__"=sg at ha⊢;cases sg with
 |none=>exact wpAny_pure<|S2 c X I h
 |some sig=>
  dsimp only at ha⊢;rw[ha];exact wpAny_pure<|S2 c X I h
theorem agM{Q:Option nE->ID->Prop}(c:z9 K C)(X:K.In s.heap)(I:InstAt s.heap x oxq C U)(h:Q (J<|.ref C) {s with toks:=s.toks+1}):
  wpAny (model prog w) A (getAttr? (.ref x) "__class__") Q E s:=by
 obtain⟨hh,g,d,t,os⟩:=s;have L0q:=I.type (M:=model prog w);have Xa:=looks_findIn (M:=model prog w) X c.ga;have L2:=looks_findIn (M:=model prog w) X c.gh;unfold getAttr? getAttrBy? getAttrBy;refine wpAny_bind<|wpAny_mkText<|wpAny_bind<|wpAny_attempt<|wpAny_holding<|wpAny_bind<|L0q.at<|wpAny_bind<|Xa.at ?_;have hne:(nE.builtin "BaseException.__getattribute__"==nE.builtin "object.__getattribute__")=η:=⊤
 simp only[hne,Bool.and_false,Bool.false_eq_true,if_false];unfold getAttrByItsOwn hookBefore;have hth:onTheHeap (.ref C)=G:=rfl;simp only[hth,if_true];refine wpAny_bind<|L2.at<|wpAny_bind<|wpAny_attempt<|wpAny_holding ?_;unfold callGetattribute;simp only[Bool.false_and,Bool.false_eq_true,if_false];unfold boundAndCalled;rw[F.attr_ValueError.ga.bind];refine wpAny_bind<|wpAny_pure<|wpAny_call<|ahx c X I ?_;exact handed_on rfl (wpAny_pure h)
theorem aj8{M:Model}{h:Heap}(c:z9 K C)(X:K.In h):Looks M h (isType<|.ref C) G:=by
 obtain⟨cd,hcD⟩:=c.cls;unfold clsIn at hcD;split at hcD
 .rename_i c' d' cd' sl' ho;intro A' Q' E' s' k q;unfold isType loadHead;exact wpAny_bind<|wpAny_loadPart (k _ _<|X _ _ ho)<|wpAny_pure q
 .cases hcD
theorem NX(c:z9 K C):KitX K (.ref x) (.ref C) (fun h=>∃o,InstAt h x o C U) where
 ty:=fun M h _⟨o,I⟩=>I.type
 it:=fun M h X _=>aj8 c X
 ne:=fun h tp dd aV n sl X e=>by
  refine Wc.mpr fun q=>?_
  have:C=tp:=by have:=beq_iff_eq.mp q;cases this;rfl
  subst this;obtain⟨cd,hcD⟩:=c.cls;unfold clsIn at hcD;split at hcD
  .rename_i c' d' cd' sl' ho;rw[X _ _ ho]at e;cases e
  .cases hcD
 ca:=fun X⟨o,I⟩h=>agM c X I h
end
end L2
namespace L2
open PySem PySem.Spec PyProof.Rows
abbrev cp:=List<|Str×Str×Bool
noncomputable def o8(l:cp)(x c:Str):Option Bool:=(l.find? fun p=>decide (p.1=x)&&decide (p.2.1=c)).map (·.2.2)
def oi(l:cp)(x:Str):Rx->Option Bool
 |[]=>J η
 |.cls c::r=>match o8 l x c with
  |some G=>J G
  |some η=>oi l x r
  |none=>U
 |_::_=>U
def VB:Option Bool->R D
 |some b=>.ok<|.bl b
 |none=>.no
def Ey(l:cp)(ve:SH)(ds:Rx):R D:=match ds with
 |[.jT x,.cls c]=>VB<|o8 l x c
 |[.jT x,.ty C]=>if C="ValueError"/\x∈ve then .ok (.bl G)else .no
 |[.jT x,.tup cs]=>if x∈ve then VB (oi l x cs)else .no
 |_=>.no
abbrev fo(K:aT)(x:Str)(C:SA):Prop:=DO K By x=J (J<|.ref C)
structure tj(K:aT)(l:cp)(ve:SH):Prop where
 cl:∀p∈l,∀C C2q,fo K p.1 C->fo K p.2.1 C2q->S7 K (.ref C) (.ref C2q)=J p.2.2
 ec:∀p∈l,∀C,fo K p.1 C->z9 K C
 ve:∀x∈ve,∀C,fo K x C->z9 K C/\S7 K (.ref C) (.type "ValueError")=J G
def VR(K:aT)(xs:Se)(H:Hp)(Q:VK):Prop:=∃a C v2 b,xs=[.ref a,v2]/\H a=J (ls a C)/\z9 K C/\Q (.bl b) H /\
 ((∃u:nE,(∀w,aP v2 w->w=u)/\S7 K (.ref C) u=J b)\/∃tp vs,v2=.ref tp/\m7 K H tp vs/\∀us,aU vs us->PySem.W.kitAny K (.ref C) us=J b)
theorem rO{l:cp}{x c:Str}{b:Bool}(h:o8 l x c=J b):(x,c,b)∈l:=by
 unfold o8 at h;obtain⟨p,e,rfl⟩:=dO.mp h;have h1:=List.find?_some e;simp only[oR,decide_eq_true_eq]at h1;obtain⟨rfl,rfl⟩:=h1;exact List.mem_of_find?_eq_some e
theorem anD(K:aT)(hK:X.K=K:=by rfl):bI X (.builtin "isinstance")<|VR K:=by
 subst hK;intro aa s Z H xs us Q I r ⟨a,C,v2,b,hxs,ha,hC,hQ,h⟩;subst hxs;obtain⟨u1,u2,rfl,r1,r2⟩:=ya r;cases r1;obtain⟨⟨o,vs,h1,h2,h3,h4⟩,_,_⟩:=I.Su a _ ha;have hI:∃o,S0 s.heap a o C U:=⟨o,h1,h2,by unfold PySem.W.notCls;rw[h4],by rw[h3];trivial⟩;refine aO I.tk ?_;rcases h with⟨u,hu,hk⟩|⟨tp,ws,rfl,hs,hk⟩
 .rw[hu u2 r2];exact XY (NX hC) I.U3 hI hk (fun z=>nomatch z) fun tk htk=>⟨.bl b,H,I.tok tk,rfl,hQ⟩
 .cases r2;obtain⟨aV,rv,⟨o2,g1,g2,n,g3⟩,_⟩:=I.tuple hs;obtain⟨oc,od,odt,osl⟩:=o2;dsimp only at g2 g3;subst g2 g3;exact PySem.W.kia_tup (NX hC) I.U3 hI g1 (hk aV rv) (fun z=>nomatch z) fun tk htk=>⟨.bl b,H,I.tok tk,rfl,hQ⟩
theorem ND{K:aT}{l:cp}{ve:SH}(T:tj K l ve){x:Str}{C:SA}(hx:fo K x C){H:Hp}:∀{cs:Rx}{vs:Se}{us:TK}{b:Bool},ay K H cs vs->aU vs us->oi l x cs=J b->PySem.W.kitAny K (.ref C) us=J b
 |[],_,_,_,d,r,e=>by cases d;cases r;exact e
 |c::cs,_,_,b,⟨v,vs,rfl,d1,d2⟩,.cons r1 r2,e=>by
  unfold oi at e;split at e
  .rename_i h;nofun
  .rename_i c' r' h;nofun;obtain⟨C2q,rfl,hc⟩:=d1;cases r1;unfold PySem.W.kitAny;split at e
   .rename_i q;rw[T.cl _ (rO q) C C2q hx hc];exact e
   .rename_i q;rw[T.cl _ (rO q) C C2q hx hc];exact ND T hx d2 r2 e
   .cases e
  .cases e
section
variable{W:Wd}
theorem anl{K:aT}{l:cp}{ve:SH}(T:tj K l ve)(hW:W.K=K:=by rfl):Cw W (VR K)<|Ey l ve:=by
 subst hW;intro as H xs ds Q hn dv h;unfold Ey at h;cbv
 .rename_i x c;obtain⟨v,u,rfl,d1,d2⟩:=BB dv;obtain⟨a,C,rfl,h1,h2⟩:=d1;obtain⟨C2q,rfl,h3⟩:=d2;cases hl:o8 l x c with
  |none=>rw[hl]at h;mleft
  |some b=>
   rw[hl]at h;exact⟨a,C,_,b,rfl,aD _ _ _ _ h2,T.ec _ (rO hl) C h1,ax h rfl,.inl ⟨.ref C2q,fun w r=>r,T.cl _ (rO hl) C C2q h1 h3⟩⟩
 .rename_i x C0q;obtain⟨v,u,rfl,d1,d2⟩:=BB dv;obtain⟨a,C,rfl,h1,h2⟩:=d1;cases d2;cbv
  .rename_i hc;obtain⟨rfl,hv⟩:=hc;obtain⟨q1,q2⟩:=T.ve _ hv C h1;exact⟨a,C,_,G,rfl,aD _ _ _ _ h2,q1,ax h rfl,.inl ⟨.type "ValueError",fun w r=>r,q2⟩⟩
  .mleft
 .rename_i x cs;obtain⟨v,u,rfl,d1,d2⟩:=BB dv;obtain⟨a,C,rfl,h1,h2⟩:=d1;obtain⟨tp,vs,rfl,q1,q2⟩:=d2;cbv
  .rename_i hv;cases hl:oi l x cs with
   |none=>rw[hl]at h;mleft
   |some b=>
    rw[hl]at h;exact⟨a,C,_,b,rfl,aD _ _ _ _ h2,(T.ve _ hv C h1).1,ax h rfl,.inr ⟨tp,vs,rfl,(aD _ _).Wt q1,fun us r=>ND T h1 q2 r hl⟩⟩
  .mleft
 .mleft
end
section
variable{W:Wd}
theorem IA{O:Ru}{p:Pos}(b:X.mg x=J (.ref C))(d:fo W.K x C)(c:Gl X x<|>Rv)(a:TN x<|>Sm):JE X (.Name x p)<|tD W O<|vC<|.cls x:=
 ⟨by intro aa s Z H Q I q0_;refine y8 q0_ fun as0 B own Y _ h=>?_;exact dD I c b ⟨.ref C,H,I,rfl,h _ H (ah.refl _) ⟨C,rfl,d⟩⟩ a⟩
end
def JD(l:SH):Str->Bool:=fun x=>decide (x∈l)
theorem aeg:bootBuiltins "ValueError"=J (.type "ValueError"):=⊤
structure X6(k:Nat)(A:Tx):Prop where
 dp:A.depth+3*k+5<tP
 un:A.units+16*k+200<cLine
theorem X6.mono{j k:Nat}{A:Tx}(r:X6 k A)(h:j<=k):X6 j A:=⟨by have:=r.dp;lia,by have:=r.un;lia⟩
theorem X6.deeper{k:Nat}{A:Tx}(r:X6 (k+1) A)(env:Env):X6 k<|A.deeper env:=
 ⟨by have:=r.dp;show A.depth+1+3*k+5<_;lia,by have:=r.un;show A.units+3+16*k+200<_;lia⟩
theorem X6.depth{k:Nat}{A:Tx}(r:X6 k A):A.depth<tP:=by have:=r.dp;lia
theorem TZ.u{k:Nat}{A:Tx}(r:TZ k A)(e:nE):X6 k<|A.mark<|J e:=⟨r.dp,r.un⟩
structure zl(P:Tc)(w:Sl)(K:aT)(mg:Sq)(base:T3)(CX:Ee)(k:Nat)(f:SA)(fd:Wj)(ps:SH)(sp:Sp):Prop where
 len:∀vs H Q E,sp vs H Q E->vs.length=ps.length
 run:∀(A:Tx)(outer:List Env)(s:ID)(H:Hp)(args:Args)(us:TK)(vs:Se)(Q:VK)(E:XK),X6 k A->uG P w K mg base A outer s H->BindsTo s fd args (ps.zip us)->aU vs us->sp vs H Q E ->
  qq (UA P w) A (.call (.ref f) args) (CR CX outer P w H s Q E) s
abbrev VU(CX:Ee)(P:Tc)(w:Sl)(K:aT)(mg:Sq)(base:T3)(N:SH)(b:Str)(scope:Scope)(f:SA)(c:nE)(A:Tx)(a:List Env)(s:ID)(H:Hp)(E:XK):Cx:=
 {gw CX P w K mg base N b scope f c A a s H E with calm:=η}
section
variable{P:Tc}{w:Sl}{K:aT}{mg:Sq}{base:T3}
theorem OG{CX:Ee}{k:Nat}{f:SA}{name d:Str}{i:Arguments}{j:List SU}{scope:Scope}{W kV B pm h X oc:nE}{an od:Option SA}
  {O:Array<|Option nE} {N ps:SH} {sp:Sp} (lk:K.lookup f=J ⟨oc,od,.func<|Wk name d i j scope W kV B pm an h X,O⟩) (D:uz K h d=G) (S:Vr N ps scope)
  (len:∀vs H Q E,sp vs H Q E->vs.length=ps.length)
  (m:∀(A:Tx)(a:List Env)(s:ID)(H:Hp)(vs:Se)(Q:VK)(E:XK),X6 k (A.deeper<|W7 d scope s.heap.objs.size f h)->sp vs H Q E ->
   ∃t,IR (VU CX P w K mg base N d scope f h A a s H E) j t/\t {nx:=fun _ H'=>Q .S9 H',rt:=Q} (start N vs) H):
  zl P w K mg base CX (k+1) f (Wk name d i j scope W kV B pm an h X) ps sp:=by
 refine⟨len,fun A a s H T us vs Q E R e0 hb r C=>?_⟩;have hl:=len _ _ _ _ C;have KX:K.In s.heap:=e0.mod.XM.keeps fun b o e=>(e0.bs b o e).1;have M:s.heap.NoLimit:=e0.mod.nolimit.keeps fun b o e=>(e0.bs b o e).1;have p:∀y∈ps.zip us,scope.names.lookup y.1=J .local\/(scope.names.lookup y.1=J .cell/\((cellsFrom (s.heap.objs.size+1) scope.names []).lookup y.1).isSome=G):=fun⟨n,v⟩hy=>by
  rcases S.par n (X0 hy).1 with q|q
  .exact .inl q
  .exact .inr ⟨q,tK _ _ _<|.inl q⟩
 refine codeAny_call_function R.depth (KX _ _ lk) rfl S.co S.gen rfl (zh KX D) (hb _ _ _ _ ?_);refine wpAny_newFunctionEnv_cells S.kind p fun env he s1 x=>?_;subst he;refine⟨M.keeps x.toInCall.keep,codeAny_func ?_⟩;obtain⟨t,ht,hq⟩:=m A a s H vs Q E (R.deeper _) C;have e1:uG P w K mg base {A with handled:=U} a s H:=⟨e0.frames,e0.mod,e0.bs,e0.Wq,e0.WE,e0.XJ,e0.Su,e0.bare⟩;have c:Inv (gw CX P w K mg base N d scope f h {A with handled:=U} a s H E) [] (start N vs) H s1:=oQ S rfl e1 hl r x;have I:Inv (VU CX P w K mg base N d scope f h A a s H E) [] (start N vs) H s1:=
  ⟨⟨c.ok.mod,c.ok.kind,c.ok.glob,c.ok.blt,c.ok.above,c.ok.inj,c.ok.has,c.ok.sY,(fun z=>nomatch z),c.ok.frames,c.ok.xN,c.ok.x9,c.ok.bs,c.ok.Wq,c.ok.Zo,c.ok.ZR,c.ok.WE,c.ok.XJ⟩,c.os,c.bare,c.base,c.loc,c.cell,c.free,c.WZ,c.pin,c.Su,c.len,c.tk⟩
 refine UE (ht [] s1 (start N vs) H _ I hq) (fun fl s' hs=>?_) fun e s' hs=>hs;have fin:∀{l:St}{H':Hp}{v:V}{u:nE},Inv (VU CX P w K mg base N d scope f h A a s H E) [] l H' s'->aP v u->Q v H'->CE a P w H s Q u s':=
  fun{l H' v u}g F q=>⟨v,H',g.os,g.bare,g.base,g.Su,F,q⟩
 cases fl with
 |ret u=>
  refine WM hs fun v l H' g F q=>?_;exact fin g F q
 |next=>
  obtain⟨l,H',g,q⟩:=hs;exact fin (v:=V.S9) (u:=Yk) g rfl q
 |brk=>
  obtain⟨_,_,_,q⟩:=hs;exact Wf q
 |cont=>
  obtain⟨_,_,_,q⟩:=hs;exact Wf q
theorem UD.okU{x b:Str}{st:SU}{f:SA}{fd:Wj}{N ps:SH}{k:Nat}{φ:FS}{O':Ru}(F:UD K x b st f fd)(S:Vr N ps<|ai st)
  (d:∀(c:nE)(A:Tx)(a:List Env)(s:ID)(H:Hp)(E:XK),X6 k (A.deeper<|W7 b (ai st) s.heap.objs.size f c) ->
   JB (VU lD P w K mg base N b (ai st) f c A a s H E).Xe (bL st) (sD ⟨K,mg,E0⟩ [] [] O' φ)):zl P w K mg base lD (k+1) f fd ps (rj K mg (gx φ N ps)):=by
 left;obtain⟨t,y,kV,l,r,u,c,p,o,rfl,lk,g⟩:=F.ex';right;refine OG lk g S (fun vs H Q E h=>(fun vs H Q E h=>by
   obtain⟨as,ds,ex,n,h⟩:=h;delta gx at h;cbv
   .rename_i hl;rw[<-n.len];exact hl
   .mleft) vs H Q E0 h) fun A a s H vs Q E j i=>⟨_,fun aa m Z H1 D I hw=>?_,Kh (E:=E0) (O':=O') i⟩
 exact UE ((d c A a s H E j).out aa m Z H1 D (I.Td _) hw) (fun _ _ q=>q.Ul) fun e v z=>z.elim
end
section
variable{X:Cx}{K:aT}{mg:Sq}{O:Ru}{x:Str}{st:SU}{ps:SH}{f:SA}{fd:Wj}{j k:Nat}{F:Rx->R D}{p pos:Pos}{e:Ry}{es:List Ry}{α:FA}
theorem LZ{aa:TQ}{Z:St}{H:Hp}{s:ID}{sp:Sp}{Q:VK}{us:TK}{vs:Se}(F:zl X.prog X.w X.K X.mg X.base lD k f fd ps sp)(c:X6 k X.A)(i:cf X.K fd ps [])
  (I:Inv X aa Z H s) (r:aU vs us) (h:sp vs H Q E0):SN #[0] X.A (call (.ref f) us) (EP X aa Z Q) X.xe s:=by
 have g:(us++[]).length=ps.length:=by rw[Wz,<-r.length];exact F.len _ _ _ _ h
 have b:=i s us I.U3 g;rw[Wz]at b;refine wpAny_call<|dk I.tk<|eo (F.run X.A X.stack s H ⟨us,[]⟩ us vs Q E0 c I.v8 b r h) fun r s' a d=>?_;cases r with
 |error e=>exact a.elim
 |ok fl=>
  cases fl with
  |ret u=>exact I.after a
  |next=>exact a.elim
  |brk=>exact a.elim
  |cont=>exact a.elim
theorem KH(D:Def X.K X.mg x st ps f fd)(SK:zl X.prog X.w X.K X.mg X.base lD j f fd ps<|rj K mg F)(i:X6 k X.A)(t:JA X (e::es)<|zx ⟨K,mg,E0⟩ O α)(u:j<=k<|>Sm)(l:Gl X x<|>Rv)(a:TN x<|>Sm)
  (h1:al e=G<|>Rv) (h2:es.all al=G<|>Rv):JE X #[3]<|tD ⟨K,mg,E0⟩ O<|aI F α:=by
 refine⟨fun aa s Z H Q I y=>y8 y fun as0 B own Y v h=>?_⟩;refine Yr<|dD I l D.m ?_ a;have c:zx ⟨K,mg,E0⟩ O α Z H fun vs H1=>rj K mg F vs H1 Q E0:=⟨as0,B,own,Y,v,e9 h fun ds vs H1 g o h1=>⟨own++as0,ds,(v.mono g).Vq,o,h1⟩⟩;refine yw (h₀:=X.base) I.ok.mod.XM D.F.kp (bP (t.out pos aa s Z H _ I c) fun us g n=>jZ n fun vs H1 d r q=>⟨d.U3,?_⟩) (bC h1)<|bH h2;exact LZ SK (i.mono u) D.b d r q
end
section
variable{X:Cx}{W:Wd}
def Ww(f:Str->Str->Int->V)(z:Str)(xs:Se)(H:Hp)(Q:VK):Prop:=match xs with
 |[.str y,.int i]=>Q (f z y i) H
 |_=>False
noncomputable def QL(f:Str->Str->Int->D)(z:Str)(ds:Rx):R D:=match ds with
 |[.str y,.int i]=>.ok<|f z y i
 |_=>.no
def bt(z y:Str)(i:Int):Int:=match jb z y (fromIndex z.length i) z.length 1 with
 |k::_=>(k:Int)
 |[]=>-1
def HV(z y:Str)(i:Int):Bool:=fromIndex z.length i+y.length<=z.length&&Builtin.Str.subAt z y (fromIndex z.length i)
section
variable{X:Cx}{W:Wd}
theorem aik:Oj X "str.find"<|Ww fun x y i=>.int<|bt x y i:=by
 intro aa s Z H z t xs us Q I r h;unfold Ww at h;cbv
 .obtain⟨u,w,rfl,⟨t1,rfl⟩,⟨t2,rfl⟩⟩:=ya r;exact call_gives OV (typeIs_str _ _ _) PySem.F.entry_str_find (PySem.F.args_str_find_3 _ _ _) (gives_str_find_from z _ _ t t1 t2) ⟨.int _,H,I.tok _,⟨_,rfl⟩,h⟩
 .mleft
end
section
variable{X:Cx}{W:Wd}
theorem afQ:Oj X "str.startswith"<|Ww fun x y i=>.bl<|HV x y i:=by
 intro aa s Z H z t xs us Q I r h;unfold Ww at h;cbv
 .obtain⟨u,w,rfl,⟨t1,rfl⟩,⟨t2,rfl⟩⟩:=ya r;exact call_gives x5 (typeIs_str _ _ _) PySem.F.entry_str_startswith (PySem.F.args_str_startswith_3 _ _ _) (gives_str_startswith_from z _ _ t t1 t2) ⟨.bl _,H,I,rfl,h⟩
 .mleft
end
theorem WN{f:Str->Str->Int->V}{g:Str->Str->Int->D}(a:∀x y i K H,bQ K H (g x y i)<|f x y i):V7 W (Ww f)<|QL g:=by
 intro as H z xs ds Q e d h;delta QL at h;cbv
 .obtain⟨v,u,rfl,c,b⟩:=BB d;subst c;subst b;exact ax h<|a _ _ _ _ _
 .mleft
section
variable{X:Cx}{W:Wd}
theorem akB:V7 W (Ww fun x y i=>.int<|bt x y i)<|QL fun x y i=>.int<|bt x y i:=WN fun _ _ _ _ _=>rfl
end
section
variable{X:Cx}{W:Wd}
theorem ah7:V7 W (Ww fun x y i=>.bl<|HV x y i)<|QL fun x y i=>.bl<|HV x y i:=WN fun _ _ _ _ _=>rfl
end
end
section
variable{X:Cx}{W:Wd}{Ob O:Ru}{e:Ry}{ε:FE}{pos:Pos}
noncomputable def UG(i:Nat)(Y:Sd)(a:Int)(d:D):R Fl:=match d with
 |.int b=>.ok<|.nx<|Y.set i<|J<|.int<|a+b
 |_=>.no
def lz(i:Nat)(ε:FE):FS:=fun Y=>match Y[i]? with
 |some (J<|.int a)=>(ε Y).bind<|UG i Y a
 |_=>.no
theorem DZ{pos':Pos}(c:i∉O)(j:X.N.Nodup)(k:Loc X.env.scope x)(l:JE X e<|tD W O ε)(f:X.N[i]?=J x<|>Rv)(m:#[1]<|>XN):
  JS X (.AugAssign (.Name x pos') .Add e pos) (sD W Ob O O<|lz i ε):=
 (JS.mk<|Og j f k l.out (Qx fun _ _ _ _ _ _ _ q=>iadd_int q) m).imp fun D' Z H g=>dQ g fun as0 B own Y I h=>by
  delta lz at h;cbv
  .rename_i a ha;obtain⟨v,hv,dv⟩:=I.var i _ c ha
   subst dv;refine⟨.int a,hv,as0,B,own,Y,I,cO I h fun d v H' s b h'=>?_⟩;unfold UG at h';split at h'
   .subst b;exact⟨_,_,rfl,rfl,h' own _ H'<|(I.mono s).set c rfl⟩
   .exact h'.elim
  .mleft
end
mutual
def Sj:D->Bool
 |.S9=>G
 |.bl _=>G
 |.int _=>G
 |.str _=>G
 |.ty _=>G
 |.tup xs=>JZ xs
 |_=>η
def JZ:Rx->Bool
 |[]=>G
 |d::r=>Sj d&&JZ r
end
def CJ(o:Option HO):Prop:=∀xs,o≠J (.tup xs)/\∀u,o≠J (.WC u<|.tup xs)
section
variable{K:aT}{H:Hp}{as as2:Sf}
mutual
theorem bQ.lend(h:∀b∈as,b∈as2\/CJ (H b)):∀{d:D}{v:V},Sj d=G->bQ K (aj as2 H) d v->bQ K (aj as H) d v
 |.S9,_,_,g=>g
 |.bl _,_,_,g=>g
 |.int _,_,_,g=>g
 |.str _,_,_,g=>g
 |.ty _,_,_,g=>g
 | .tup ds,v,e,⟨a,xs,e1,h1,h2⟩=>⟨a,xs,e1,by
   rcases h1 with h1|h1
   .refine .inl ?_;have c:a∉as2:=fun z=>by rcases h1 with h1|⟨o,h1⟩<;>(rw[bT z]at h1;cases h1)
    have f:a∉as:=fun z=>by
     rcases h a z with q|q
     .exact c q
     .rcases h1 with h1|⟨o,h1⟩
      .rw[av c]at h1;exact(q xs).1 h1
      .rw[av c]at h1;exact(q xs).2 o h1
    rcases h1 with h1|⟨o,h1⟩
    .rw[av c]at h1;exact .inl (by rw[av f];exact h1)
    .rw[av c]at h1;exact .inr ⟨o,by rw[av f];exact h1⟩
   .exact .inr h1,ay.lend h e h2⟩
 |.lst _,_,e,_=>by cases e
 |.Xx _,_,e,_=>by cases e
 |.obj _ _,_,e,_=>by cases e
 |.jT _,_,e,_=>by cases e
 |.cls _,_,e,_=>by cases e
 |.WK _,_,e,_=>by cases e
 |.fu _,_,e,_=>by cases e
theorem ay.lend(h:∀b∈as,b∈as2\/CJ (H b)):∀{ds:Rx}{vs:Se},JZ ds=G->ay K (aj as2 H) ds vs->ay K (aj as H) ds vs
 |[],_,_,g=>g
 |d::ds,_,e,⟨v,vs,e1,h1,h2⟩=>by
  have a:=lB.mp e;exact⟨v,vs,e1,bQ.lend h a.1 h1,ay.lend h a.2 h2⟩
end
end
end L2
namespace L2
open PySem PySem.Spec PyProof.Rows PySem.Builtin PySem.Builtin.Str
end L2
namespace L2
open PySem PySem.Spec PyProof.Rows
end L2
namespace L2
open PySem PySem.Spec PyProof.Rows
section
variable{X:Cx}{W:Wd}{O:Ru}{tg:Ry}
def Eg:Rx->R (Rx)
 |[.int i,.int j]=>if -(2^62)<=i/\i<2^62/\-(2^62)<=j/\j<2^62 then .ok (aW i (j-i).toNat)else .no
 |_=>.no
def nO(α:FA):FA:=fun Y=>(α Y).bind Eg
theorem agH{p pos:Pos}(hm:X.mg "range"=U)(ha:JA X [a,b]<|zx W O α)(hg:Gl X "range":=by rfl)(hs:starEach [a,b] X.env=[(η,eval a X.env),(η,eval b X.env)]:=by rfl)(hs2:starEach [b] X.env=[(η,eval b X.env)]:=by rfl):JI X tg (.Call (.Name "range" p) [a,b] [] pos)<|iD W O<|nO α:=
 (⟨agd hg hm ha.out hs hs2⟩:JI X tg (.Call (.Name "range" p) [a,b] [] pos)<|Ud<|zx W O α).imp fun Z H Q⟨as0,B,own,Y,I,h⟩=>
 ⟨as0,B,own,Y,I,qo h fun ds vs H' s dv h'=>by
  unfold Eg at h';split at h'
  .obtain⟨v,r,rfl,d1,v2,r2,rfl,d2,d3⟩:=dv;cases d1;cases d2;cases d3;split at h'
   .rename_i hj;exact⟨_,_,rfl,hj,h' _ H' (ah.refl _)<|wV _ _⟩
   .exact h'.elim
  .exact h'.elim⟩
variable{apos cpos:Pos}
end
end L2
namespace L2
open PySem PySem.Spec PyProof.Rows
end L2
namespace L2
open PySem PySem.Spec PyProof.Rows
def oZ(K:aT)(x:Str)(f:SA->Bool):Bool:=match DO K mainGlobals x with
 |some (J<|.ref C)=>f C
 |_=>η
theorem sd{K:aT}{x:Str}{f:SA->Bool}{C:SA}(h:oZ K x f=G)(e:fo K x C):f C=G:=by
 unfold oZ at h;unfold fo at e;rw[e]at h;exact h
noncomputable def uL(K:aT)(C:SA):Bool:=
 (Yt K (.ref C) "__getattribute__"==J (J<|.builtin "BaseException.__getattribute__"))&&((Yt K (.ref C) "__getattr__"==J U)&&((Yt K (.ref C) "__class__"==J (J<|.builtin "object.__class__")) &&
 ((PySem.W.specialIn K (.builtin "object.__class__") "__get__"==J (J (.builtin "getset_descriptor.__get__")))&&((PySem.W.takesIn K (.builtin "object.__class__")==J G)&&((PySem.W.mroIn K C (.type "object")==J G)&&(PySem.W.mroIn K C (.type "BaseException")==J G))))))
theorem NW{K:aT}{C:SA}(h:uL K C=G):z9 K C:=by
 unfold uL at h;simp only[oR,beq_iff_eq]at h;exact⟨h.1,h.2.1,h.2.2.1,h.2.2.2.1,h.2.2.2.2.1,h.2.2.2.2.2.1,h.2.2.2.2.2.2⟩
def VD(K:aT)(l:cp)(ve:SH):Bool:=
 (l.all fun p=>oZ K p.1 fun C=>uL K C&&oZ K p.2.1 fun C2q=>S7 K (.ref C) (.ref C2q)==J p.2.2)&&ve.all fun x=>oZ K x fun C=>uL K C&&(S7 K (.ref C) (.type "ValueError")==J G)
theorem ajt{K:aT}{l:cp}{ve:SH}(h:VD K l ve=G):tj K l ve:=by
 unfold VD at h;rw[oR,Ve,Ve]at h;refine⟨fun p hp C C2q e Rt=>?_,fun p hp C e=>?_,fun x hx C e=>?_⟩
 .have:=sd (h.1 p hp) e
  rw[oR]at this;exact beq_iff_eq.mp<|sd this.2 Rt
 .have:=sd (h.1 p hp) e
  rw[oR]at this;exact NW this.1
 .have:=sd (h.2 x hx) e
  rw[oR,beq_iff_eq]at this;exact⟨NW this.1,this.2⟩
end L2
namespace L2
open PySem PySem.Spec PyProof.Rows
end L2
namespace L2
open PySem PySem.Spec PyProof.Rows
noncomputable def i8:D->Option Key
 |.int i=>J<|.inl i
 |.str x=>J<|.inr x
 |.S9=>J .nn
 |_=>U
theorem z4{K:aT}(h:bQ K H d v)(e:i8 d=J k):v=kV k:=by
 cases d with
 |int i=>cases e;exact h
 |str x=>cases e;exact h
 |S9=>cases e;exact h
 |_=>cases e
noncomputable def cy(kvs:List<|Key×D)(k:Key):Option D:=(kvs.find? fun kv=>decide (kv.1=k)).map (·.2)
def i7(kvs:List<|Key×D)(k:Key)(d:D):List<|Key×D:=
 if(cy kvs k).isSome=G then kvs.map fun q=>if q.1=k then(q.1,d)else q else kvs++[(k,d)]
section
variable{K:aT}
theorem pK.val:∀{ds:List<|Key×D}{xs:List<|Key×V}(k:Key),pK K H ds xs->(cy ds k=U/\gN xs k=U)\/∃d v,cy ds k=J d/\gN xs k=J v/\bQ K H d v
 |[],_,k,h=>by nofun;exact .inl ⟨rfl,rfl⟩
 |(k',d)::r,_,k,⟨v,vs,e,h1,h⟩=>by
  subst e;by_cases q:k'=k
  .exact .inr ⟨d,v,by simp[cy,vD,q],cQ q,h1⟩
  .rw[cK q,show cy ((k',d)::r) k=cy r k by simp[cy,vD,q]];exact pK.val k h
theorem pK.len:∀{ds:List<|Key×D}{xs:List<|Key×V},pK K H ds xs->ds.length=xs.length
 |[],_,h=>by nofun;rfl
 |(k',d)::r,_,⟨v,vs,e,_,h⟩=>by subst e;simp[pK.len h]
theorem pK.snoc:∀{ds:List<|Key×D}{xs:List<|Key×V}{k:Key}{d:D}{v:V},pK K H ds xs->bQ K H d v->pK K H (ds++[(k,d)]) (xs++[(k,v)])
 |[],_,k,d,v,h,hd=>by nofun;exact⟨v,[],rfl,hd,rfl⟩
 |(k',d')::r,_,k,d,v,⟨v',vs,e,h1,h⟩,hd=>by subst e;exact⟨v',_,rfl,h1,pK.snoc h hd⟩
theorem pK.j8:∀{ds:List<|Key×D}{xs:List<|Key×V}(k:Key){d:D}{v:V},pK K H ds xs->bQ K H d v ->
  pK K H (ds.map fun q=>if q.1=k then(q.1,d)else q) (xs.map fun q=>if q.1=k then(q.1,v)else q)
 |[],_,k,d,v,h,hd=>by nofun;exact rfl
 |(k',d')::r,_,k,d,v,⟨v',vs,e,h1,h⟩,hd=>by
  subst e;rw[Xp,Xp];have ih:=pK.j8 k h hd;by_cases q:k'=k
  .rw[SI q,SI q];exact⟨v,_,rfl,hd,ih⟩
  .rw[SM q,SM q];exact⟨v',_,rfl,h1,ih⟩
theorem pK.put(h:pK K H ds xs)(hd:bQ K H d v):pK K H (i7 ds k d)<|tf xs k v:=by
 have e:(cy ds k).isSome=(gN xs k).isSome:=by
  rcases h.val k with⟨a,b⟩|⟨a,b,c1,c2,_⟩
  .rw[a,b];rfl
  .rw[c1,c2];rfl
 unfold i7 tf;rw[sQ,e];split
 .exact h.j8 k hd
 .exact h.snoc hd
end
section
variable{X:Cx}{W:Wd}{Ob O O':Ru}{a b e:Ry}{φ ψ χ ε:FE}{pos p1 p2 apos cpos:Pos}{x:Str}
def Dx:V->V->V->Hp->(Hp->Prop)->Prop:=fun o i v H Q=>∃p kvs k,o=.ref p/\i=kV k/\H p=J (.dK kvs)/\kvs.length<sizeLine/\Q (br H p<|.dK<|tf kvs k v)
theorem M6(hu:X.A.units+1<cLine):E8 X Dx:=by
 intro aa s Z H o i v ov iv u Q I roq riq rv h;obtain⟨p,kvs,k,rfl,rfl,hp,hl,q⟩:=h;cases roq;exact agF hu I (um.k hp hl) riq rv fun s' I'=>⟨_,I',q⟩
def DT(i:Nat)(ψ ε:FE):FS:=fun Y=>match Y[i]? with
 |some (J<|.Xx kvs)=>(ε Y).bind fun d=>(ψ Y).bind fun k=>match i8 k with
  |some k=>if kvs.length<1000000 then .ok (.nx<|Y.set i<|J<|.Xx<|i7 kvs k d)else .no
  |none=>.no
 |_=>.no
theorem aiJ{spos:Pos}(hu:X.A.units+64<cLine)(hi:i∈O)(he:JE X e<|tD W O ε)(hie:JE X ieq<|tD W O ψ)(hN:X.N[i]?=J x:=by rfl)(hv:m6 X.env.scope x:=by first|exact qy rfl|exact kf (qy rfl)|exact kf (kf rfl))(hd:(x==("__debug__":Str))=η:=by decide)
  (hcd:(x==("__classdict__":Str))=η:=by decide) (hs:swapsWithSole [.Subscript (.Name x p1) ieq spos] e pos.line X.env=pure η:=by rfl) (hw:swappedStores [.Subscript (.Name x p1) ieq spos] e X.env=pure U:=by rfl)
  (h1:(assignEach [.Subscript (.Name x p1) ieq spos] X.env).map (·.2)=[assign (.Subscript (.Name x p1) ieq spos) X.env]:=by rfl)
  (ha:∀v,assign (.Subscript (.Name x p1) ieq spos) X.env v=(do
   let ov <-holding [v] (eval (.Name x p1) X.env)
   let iv <-holding [v,ov] (eval ieq X.env)
   standAt spos
   holding [v,ov,iv] (setItem ov iv v)
   release [v,ov,iv] []):=by intro _;rfl):
  JS X (.Assign [.Subscript (.Name x p1) ieq spos] e pos) (sD W Ob O O<|DT i ψ ε):=
 (R2 he (R1 (jv i hN hv hd hcd) hie (M6<|⊥) ha) hs hw h1).imp fun D Z H⟨as0,B,own,Y,I,h⟩=>by
  let⟨a,hza⟩:=fT I.YU hi
  let⟨d,o,h1,h2,h3,h4⟩:=I.Xf i a hza
  unfold DT at h;rw[h1]at h;cases d with
  |Xx ds=>
   obtain⟨xs,rfl,q⟩:=h4;refine⟨as0,B,own,Y,I,cO I h fun y v H2 s2 d2 hq=>?_⟩;have e0:VZ (z8 i) (tD W O ψ) Dx v Z H2 D.nx=m8 Z[i]? H2 (fun o H1=>tD W O ψ Z H1 fun i H2=>Dx o i v H2 fun H3=>D.nx Z H3):=rfl;rw[e0,h2];refine⟨as0,B,own,Y,I.mono s2,cO (I.mono s2) hq fun k u H3 s3 d3 hq3=>?_⟩;cases e:i8 k with
   |none=>rw[e]at hq3;exact hq3.elim
   |some ks=>
    rw[e]at hq3;have hq3:c8 W as0 B Ob O (if ds.length<1000000 then .ok (.nx<|Y.set i<|J<|.Xx<|i7 ds ks y)else .no) D:=hq3;split at hq3
    .have hu:=z4 d3 e;subst hu;have hm:=ck;refine⟨a,xs,ks,rfl,rfl,(s2.trans s3) _ _ h3,by rw[<-q.len];lia,?_⟩;exact hq3 own Z _<|((I.mono s2).mono s3).or_ hza ⟨_,rfl,(q.mono<|aA<|s2.trans s3).put<|d2.mono<|aA s3⟩
    .exact hq3.elim
  |_=>mleft
noncomputable def C2:D->Option (List<|Key×D)
 |.Xx k=>J k
 |.fu k=>J k
 |_=>U
theorem agL{K:aT}(h:bQ K H d v)(e:C2 d=J ds):∃p xs,v=.ref p/\Rd H p (.dK xs)/\pK K H ds xs:=by
 cases d with
 |Xx k=>cases e;obtain⟨p,xs,rfl,h1,h2⟩:=h;exact⟨p,xs,rfl,.inl h1,h2⟩
 |fu k=>cases e;obtain⟨p,o,xs,rfl,h1,h2⟩:=h;exact⟨p,xs,rfl,.inr ⟨o,h1⟩,h2⟩
 |_=>cases e
theorem Uk.rd{k:Key}(h:Rd H p<|.dK xs):Uk H p (kV k)<|gN xs k:=.inl ⟨xs,k,h,rfl,rfl⟩
def wN(a b:D):R D:=match C2 a with
 |some kvs=>(match i8 b with
  |some k=>(match cy kvs k with
   |some d=>.ok d
   |none=>.no)
  |none=>.no)
 |none=>.no
theorem alM(hu:X.A.units+64<cLine)(ha:JE X a<|tD W O φ)(hb:JE X b<|tD W O ψ)(hs:En b:=by exact fun _ _=>rfl):JE X (.Subscript a b pos)<|tD W O<|aH wN φ ψ:=
 JE.imp ⟨Mh ⊥ ha.out hb.out hs⟩ fun Z H Q⟨as0,B,own,Y,I,h⟩=>⟨as0,B,own,Y,I,aY h fun x v H1 s1 d1 h1=>⟨as0,B,own,Y,I.mono s1,aY h1 fun y u H2 s2 d2 h2=>by
  unfold wN at h2;cases e0:C2 x with
  |none=>rw[e0]at h2;exact h2.elim
  |some kvs=>
   rw[e0]at h2;obtain⟨p,xs,rfl,q1,q2⟩:=agL d1 e0;cases e:i8 y with
   |none=>rw[e]at h2;exact h2.elim
   |some k=>
    rw[e]at h2;dsimp only at h2;have hy:=z4 d2 e;subst hy;rcases(q2.mono<|aA s2).val k with⟨c1,c2⟩|⟨d,v,c1,c2,c3⟩
    .rw[c1]at h2;exact h2.elim
    .rw[c1]at h2;exact⟨p,v,rfl,c2▸Uk.rd (s2.rd ((aD _ _).rd q1)),ax h2 c3⟩⟩⟩
end
end L2
namespace L2
open PySem PySem.Spec PyProof.Rows
theorem qS.look{K:aT}:∀{fs:List<|Str×D}{xs:List<|Str×V}{d:D},qS K H fs xs->fs.lookup f=J d->∃v,xs.lookup f=J v/\bQ K H d v
 |[],_,_,h,e=>by cases e
 |(g,d')::r,_,d,⟨v,vs,e0,h1,h⟩,e=>by
  subst e0;rw[We]at e⊢;cases q:f==g with
  |true=>mright
  |false=>rw[q]at e;exact qS.look h e
noncomputable def Fb(n f:Str)(d:D):R D:=match d with
 |.obj m fs=>if m=n then(match fs.lookup f with
  |some d=>.ok d
  |none=>.no)else .no
 |_=>.no
def iw(n f:Str)(φ:FE):FE:=fun Y=>(φ Y).bind<|Fb n f
section
variable{pos p:Pos}
theorem Nn(K:aT)(o:DO K By n=J (J<|.ref C))(l:UR K C)(q:a9 K C f)(r:JE X e<|tD W O φ)(s:WG e f X.env (eval e X.env)=eval e X.env<|>Rv)(k:X.K=K<|>Rv)(b:W.K=K<|>Rv):
  JE X (.Attribute e f pos) (tD W O<|iw n f φ):=
 JE.imp ⟨AO r.out s⟩ fun Z H Q j=>dQ j fun as0 B own Y I h=>⟨as0,B,own,Y,I,aY h fun x v H1 t c h1=>by
  subst k;left;cases x with
  |obj m fs=>
   by_cases e:m=n
   .subst e;delta Fb at h1;dsimp only at h1;rw[SI rfl]at h1;rw[b]at c;obtain⟨a,u,i,xs,rfl,h2,p,g⟩:=c;rw[o]at h2;cases h2;right;cases e2:fs.lookup f with
    |none=>rw[e2]at h1;exact h1.elim
    |some d=>
     rw[e2]at h1;obtain⟨v,q1,q2⟩:=g.look e2
     exact⟨a,C,i,xs,v,rfl,aD _ _ _ _ p,l,q,q1,ax h1<|by rw[b];exact q2⟩
   .right;delta Fb at h1;dsimp only at h1;rw[SM e]at h1;exact h1.elim
  |_=>right;exact h1.elim⟩
end
noncomputable def xO:D->Option (Rx)
 |.WK ds=>J ds
 |_=>U
section
variable(K:aT)(Hm H:Hp)
def iW(d:D)(v:V)(bs c:Sf):Prop:=match xO d with
 |some ds=>∃b ys,bs=b::c/\v=.ref b/\H b=J (.lst ys)/\ay K Hm ds ys
 |none=>bs=c/\bQ K Hm d v
def dR:List (Str×D)->List (Str×V)->Sf->Prop
 |[],xs,bs=>xs=[]/\bs=[]
 |(k,d)::fs,xs,bs=>∃v r c,xs=(k,v)::r/\iW K Hm H d v bs c/\dR fs r c
def vq:D->Sf->Prop
 |.obj x fs,a::bs=>∃C b xs,DO K By x=J (J<|.ref C)/\H a=J (.ins C b xs)/\dR K Hm H fs xs bs
 |.lst ds,[a]=>∃xs,H a=J (.lst xs)/\ay K Hm ds xs
 |.Xx kvs,[a]=>∃xs,H a=J (.dK xs)/\pK K Hm kvs xs
 |_,_=>False
end
section
variable{K:aT}{Hm Hm' H:Hp}
theorem iW.mono(s:ah Hm Hm')(h:∀b∈bs,∀o,H b=J o->H' b=J o)(f:iW K Hm H d v bs c):iW K Hm' H' d v bs c:=by
 delta iW at f⊢;split at f
 .obtain⟨b,ys,e,rfl,h1,h2⟩:=f;exact⟨b,ys,e,rfl,h b (by simp[e]) _ h1,h2.mono s⟩
 .exact⟨f.1,f.2.mono s⟩
theorem iW.sub(f:iW K Hm H d v bs c):∀b∈c,b∈bs:=by
 delta iW at f;split at f
 .obtain⟨b,ys,e,_⟩:=f;intro x a;mright
 mright
theorem dR.mono(s:ah Hm Hm'):∀{fs:List<|Str×D}{xs:List<|Str×V}{bs:Sf},(∀b∈bs,∀o,H b=J o->H' b=J o)->dR K Hm H fs xs bs->dR K Hm' H' fs xs bs
 |[],_,_,_,f=>f
 |(k,d)::fs,_,_,h,⟨v,r,c,e,f1,f2⟩=>⟨v,r,c,e,f1.mono s h,dR.mono s (fun b a=>h b<|f1.sub b a) f2⟩
theorem vq.mono(s:ah Hm Hm')(h:∀b∈c,∀o,H b=J o->H' b=J o)(f:vq K Hm H d c):vq K Hm' H' d c:=by
 delta vq at f;split at f
 .refine WM f fun C a xs e h1 h2=>?_;exact⟨C,a,xs,e,h _ ∅ _ h1,h2.mono s fun b g=>h b<|ie _ g⟩
 .obtain⟨xs,h1,h2⟩:=f;exact⟨xs,h _ ∅ _ h1,h2.mono s⟩
 .obtain⟨xs,h1,h2⟩:=f;exact⟨xs,h _ ∅ _ h1,h2.mono s⟩
 .exact f.elim
theorem dR.ex:∀{fs:List<|Str×D}{xs:List<|Str×V}{bs:Sf},dR K Hm H fs xs bs->∀b∈bs,∃ys,H b=J (.lst ys)
 |[],_,_,⟨_,e⟩,b,hb=>by subst e;cases hb
 |(k,d)::fs,_,bs,⟨v,r,c,e,f1,f2⟩,b,hb=>by
  delta iW at f1;split at f1
  .obtain⟨f,ys,a,rfl,h1,h2⟩:=f1;rw[a]at hb;rcases eQ.mp hb with rfl|hb
   .exact⟨_,h1⟩
   .exact dR.ex f2 b hb
  .obtain⟨rfl,_⟩:=f1;exact dR.ex f2 b hb
theorem nM(h:H b=J o)(h1:∀xs,o≠.tup xs)(h2:∀u xs,o≠.WC u (.tup xs)):CJ<|H b:=fun xs=>by
 mright
theorem vq.at(f:vq K Hm H d c):∀b∈c,H b≠U/\CJ (H b):=by
 delta vq at f;split at f
 .refine WM f fun C g xs h h1 h2=>?_;intro b a;rcases eQ.mp a with rfl|a
  .exact⟨by rw[h1];simp,nM h1 (fun _ e=>nomatch e) fun _ _ e=>nomatch e⟩
  .obtain⟨ys,e⟩:=h2.ex b a;exact⟨by rw[e];simp,nM e (fun _ e=>nomatch e) fun _ _ e=>nomatch e⟩
 .obtain⟨xs,h1,h2⟩:=f;intro b a;rw[IF.mp a];exact⟨by rw[h1];simp,nM h1 (fun _ e=>nomatch e) fun _ _ e=>nomatch e⟩
 .obtain⟨xs,h1,h2⟩:=f;intro b a;rw[IF.mp a];exact⟨by rw[h1];simp,nM h1 (fun _ e=>nomatch e) fun _ _ e=>nomatch e⟩
 .exact f.elim
end
def WJ(d:D):D:=match xO d with
 |some ds=>.lst ds
 |none=>d
def vw:D->D
 |.obj x fs=>.obj x<|fs.map fun p=>(p.1,WJ p.2)
 |d=>d
section
variable{K:aT}
theorem dR.den(s:ah Hm H):∀{fs:List<|Str×D}{xs:List<|Str×V}{bs:Sf},dR K Hm H fs xs bs->qS K H (fs.map fun p=>(p.1,WJ p.2)) xs
 |[],_,_,⟨e,_⟩=>e
 |(k,d)::fs,_,_,⟨v,r,c,e,f1,f2⟩=>⟨v,r,e,by
  delta iW at f1;delta WJ;dsimp only;split at f1
  .obtain⟨b,ys,e,rfl,h1,h2⟩:=f1;exact⟨b,ys,rfl,.inl<|.inl h1,h2.mono s⟩
  .exact f1.2.mono s,dR.den s f2⟩
theorem vq.den(s:ah Hm H)(f:vq K Hm H d<|a::bs):bQ K H (vw d)<|.ref a:=by
 delta vq at f;split at f
 .obtain⟨C,b,xs,c,h1,h2⟩:=f;rename_i e;cases e;exact⟨_,C,b,xs,rfl,c,h1,h2.den s⟩
 .obtain⟨xs,h1,h2⟩:=f;rename_i e;cases e;exact⟨_,xs,rfl,.inl<|.inl h1,h2.mono s⟩
 .obtain⟨xs,h1,h2⟩:=f;rename_i e;cases e;exact⟨_,xs,rfl,h1,h2.mono s⟩
 .exact f.elim
end
structure MI(K:aT)(as:Sf)(B:Hp)(hs:Sf)(P:Ru)(cl:List (Sf))(Z:St)(Y:Sd)(L:Rx)(H:Hp):Prop where
 len:Y.length=Z.length
 ex:∀a∈as,B a≠U
 sb:ah B H
 fb:∀c∈cl,∀a∈c,B a=U
 nd:∀c∈cl,c.Nodup
 dj:∀(i j:Nat)(c c':Sf)(a:SA),cl[i]?=J c->cl[j]?=J c'->a∈c->a∈c'->i=j
 var:∀(i:Nat)(d:D),Y[i]?=J (J d)->∃v,Z[i]?=J (J v)/\bQ K #[5] d v
 lp:P.length=cl.length
 lm:L.length=cl.length
 ob:∀(k i:Nat)(c:Sf)(d:D),P[k]?=J i->cl[k]?=J c->L[k]?=J d->(∃a r,c=a::r/\Z[i]?=J (J<|.ref a))/\vq K #[5] H d c
 hl:hs.length<=cl.length
 hd:(cl.map vx).drop (cl.length-hs.length)=hs.map J
abbrev Step(as:Sf)(cl:List<|Sf)(H:Hp)(a:List<|Sf)(H':Hp):Prop:=ah #[5]<|aj (a.flatten++as) H'
section
variable{K:aT}{as:Sf}{B:Hp}{hs:Sf}{P:Ru}{cl:List (Sf)}{Z:St}{Y:Sd}{L:Rx}{H H':Hp}
theorem cH:a∈cl.flatten↔∃(k:Nat)(c:Sf),cl[k]?=J c/\a∈c:=by
 rw[dS];constructor
 .rintro⟨c,h1,h2⟩;obtain⟨k,b⟩:=dZ.mp h1;exact⟨k,c,b,h2⟩
 .rintro⟨k,c,h1,h2⟩;exact⟨c,Do h1,h2⟩
theorem MI.get{k:Nat}(I:MI K as B hs P cl Z Y L H)(b:cl[k]?=J c):∃i d,P[k]?=J i/\L[k]?=J d/\(∃a r,c=a::r/\Z[i]?=J (J<|.ref a))/\vq K #[5] H d c:=by
 have h1  := (rW.mp b).1;have h2:k<P.length:=by rw[I.lp];exact h1
 have g:k<L.length:=by rw[I.lm];exact h1
 have e:=WT h2;have f:=WT g;exact⟨_,_,e,f,I.ob k _ c _ e b f⟩
theorem MI.at{k i:Nat}(I:MI K as B hs P cl Z Y L H)(e:P[k]?=J i):∃c d,cl[k]?=J c/\L[k]?=J d/\(∃a r,c=a::r/\Z[i]?=J (J<|.ref a))/\vq K #[5] H d c:=by
 have h1  := (rW.mp e).1;have h2:k<cl.length:=by rw[<-I.lp];exact h1
 have g:k<L.length:=by rw[I.lm];exact h2
 have b:=WT h2;have f:=WT g;exact⟨_,_,b,f,I.ob k i _ _ e b f⟩
theorem MI.Vq(I:MI K as B hs P cl Z Y L H):∀a∈cl.flatten++as,H a≠U:=fun a f=>by
 rcases BY.mp f with h|h
 .obtain⟨k,c,b,d⟩:=cH.mp h;obtain⟨_,_,_,_,_,q⟩:=I.get b;exact(q.at a d).1
 .cases e:B a with
  |none=>exact absurd e<|I.ex a h
  |some o=>rw[I.sb a o e];simp
theorem MI.mono(I:MI K as B hs P cl Z Y L H)(s:ah H H'):MI K as B hs P cl Z Y L H' where
 len:=I.len
 ex:=I.ex
 sb:=I.sb.trans s
 fb:=I.fb
 nd:=I.nd
 dj:=I.dj
 var:=fun i d e=>let⟨v,h1,h2⟩:=I.var i d e;⟨v,h1,h2.mono<|aA s⟩
 lp:=I.lp
 lm:=I.lm
 ob:=fun k i c d h1 h2 a=>let⟨q1,q2⟩:=I.ob k i c d h1 h2 a;⟨q1,q2.mono (aA s) fun b _ o e=>s b o e⟩
 hl:=I.hl
 hd:=I.hd
theorem MI.di(I:MI K as B hs P cl Z Y L H):DI K (cl.flatten++as) H [] [] Z Y H:=DI.plain I.len I.Vq I.var
def fill:Ru->Rx->Sd->Sd
 |i::P,d::L,Y=>(fill P L Y).set i<|J<|vw d
 |_,_,Y=>Y
theorem yu:∀(P:Ru)(L:Rx)(Y:Sd),(fill P L Y).length=Y.length
 |[],_,_=>by rfl
 |_::_,[],_=>by rfl
 |i::P,d::L,Y=>by unfold fill;rw[List.length_set];exact yu P L Y
theorem yI:∀{P:Ru}{L:Rx}{Y:Sd}{i:Nat}{d:D},(fill P L Y)[i]?=J (J d)->Y[i]?=J (J d)\/∃(k:Nat)(d':D),P[k]?=J i/\L[k]?=J d'/\d=vw d'
 |[],_,_,_,_,h=>by exact .inl h
 |_::_,[],_,_,_,h=>by exact .inl h
 |j::P,d'::L,Y,i,d,h=>by
  unfold fill at h;rw[getElem?_set']at h;cbv
  .rename_i e;subst e;cbv
   .nofun;exact .inr ⟨0,d',rfl,rfl,rfl⟩
   .nofun
  .left;rcases yI h with h|⟨k,d2,h1,h2,h3⟩
   .right;exact .inl h
   .right;exact .inr ⟨k+1,d2,h1,h2,h3⟩
theorem MI.vZ(I:MI K as B hs P cl Z Y L H):DI K as H [] [] Z (fill P L Y) H:=by
 refine DI.plain (by rw[yu];exact I.len) (fun a f=>I.Vq a<|OR _ f) fun i d e=>?_;have s:ah #[5]<|aj as H:=kD fun a f=>OR _ f;rcases yI e with h|⟨k,d',h1,h2,rfl⟩
 .obtain⟨v,q1,q2⟩:=I.var i d h;exact⟨v,q1,q2.mono s⟩
 .obtain⟨c,l,e1,g,⟨a,r,rfl,q1⟩,q2⟩:=I.at h1;rw[h2]at g;cases g;refine⟨_,q1,vq.den s<|q2.mono (ah.refl _) fun b j o e=>?_⟩;have  := fun z=>by
   have:=I.fb _ (Do e1) b j
   exact I.ex b z this
  rw[av this];exact e
theorem MI.flat(I:MI K as B hs P cl Z Y L H)(f:Sj d=G)(h:bQ K (aj as H) d v):bQ K #[5] d v:=
 bQ.lend (fun b g=>by
  rcases BY.mp g with h|h
  .obtain⟨k,c,a,e⟩:=cH.mp h;obtain⟨_,_,_,_,_,q⟩:=I.get a;exact .inr (q.at b e).2
  .exact .inl h) f h
end
inductive RM(α:Type) where
 |ok (a:α) (L:Rx)|er (x:Str) (L:Rx)|no
noncomputable def RM.bind{α β:Type}(r:RM α)(f:α->Rx->RM β):RM β:=match r with
 |.ok a L=>f a L
 |.er x L=>.er x L
 |.no=>.no
abbrev FM:=Sd->Rx->RM D
abbrev lM:=Sd->Rx->RM Bool
inductive AD where
 |pl (d:D)|ob (k:Nat)
abbrev qg:=Sd->Rx->RM (List AD)
abbrev RQ:=SA->SA->St->Hp->Prop
def XS(X:Cx)(E:RQ)(e:nE)(s':ID):Prop:=∃Z H x C fl,e=.ref x/\Inv X [] Z H s'/\ExcAt X [] H s'.heap x C fl/\E x C Z H
noncomputable abbrev Cx.ws(X:Cx)(E:RQ):Cx:=X.Td<|XS X E
structure Ct where
 K:aT
 mg:Str->Option nE
 E:RQ
section
variable(W:Ct)(as:Sf)(B:Hp)(hs:Sf)(P:Ru)
def qU{α β:Type}(Z:St)(Y:Sd)(cl:List<|Sf)(H:Hp)(AS:Hp->α->β->Prop)(r:RM α)(Q:β->Hp->Prop):Prop:=match r with
 |.ok a μ'=>∀b c H',MI W.K as B hs P c Z Y μ' H'->Step as cl H c H'->AS (aj (c.flatten++as) H') a b->Q b H'
 |.er x μ'=>∀y C c H',MI W.K as B hs P c Z Y μ' H'->W.mg x=J (.ref C)->W.E y C Z H'
 |.no=>False
end
section
theorem qU.step{AS:Hp->α->β->Prop}(h:qU W as B hs P Z Y cl H AS r Q)(st:Step as cl H cl1 H1):qU W as B hs P Z Y cl1 H1 AS r Q:=by
 cases r with
 |ok a L=>exact fun b c H' I d=>h b c H' I<|st.trans d
 |er x L=>exact h
 |no=>exact h
theorem bx{AS:Hp->α->β->Prop}{d:Hp->γ->ι->Prop}(h:qU W as B hs P Z Y cl H d (r.bind f) Q)
  (q:∀a b μ1 c H1,MI W.K as B hs P c Z Y μ1 H1->Step as cl H c H1->AS (aj (c.flatten++as) H1) a b->qU W as B hs P Z Y c H1 d (f a μ1) Q->Q' b H1):qU W as B hs P Z Y cl H AS r Q':=by
 cases r with
 |ok a L=>exact fun b e H' I st g=>q a b L e H' I st g<|qU.step h st
 |er x L=>exact h
 |no=>exact h
end
def tM(W:Ct)(P:Ru)(φ:FM):TE:=fun Z H Q=>∃as B hs cl Y L,MI W.K as B hs P cl Z Y L H/\qU W as B hs P Z Y cl H (bQ W.K) (φ Y L) Q
def ZD(W:Ct)(P:Ru)(φ:lM):TT:=fun Z H Q=>∃as B hs cl Y L,MI W.K as B hs P cl Z Y L H/\qU W as B hs P Z Y cl H (fun _ a b=>a=b) (φ Y L) Q
def Args(K:aT)(P:Ru)(Z:St)(Hm:Hp):List AD->Se->Prop
 |[],vs=>vs=[]
 |.pl d::l,vs=>∃v r,vs=v::r/\bQ K Hm d v/\Args K P Z Hm l r
 |.ob k::l,vs=>∃v r i,vs=v::r/\P[k]?=J i/\Z[i]?=J (J v)/\Args K P Z Hm l r
def RH(W:Ct)(P:Ru)(φ:qg):TA:=fun Z H Q=>∃as B hs cl Y L,MI W.K as B hs P cl Z Y L H/\qU W as B hs P Z Y cl H (Args W.K P Z) (φ Y L) Q
def ME(X:Cx)(K:aT)(mg:Sq)(P:Ru)(e:Ry)(φ:FM):Prop:=∀E,JE (X.ws E) e<|tM ⟨K,mg,E⟩ P φ
def MT(X:Cx)(K:aT)(mg:Sq)(P:Ru)(e:Ry)(φ:lM):Prop:=∀E,JT (X.ws E) e<|ZD ⟨K,mg,E⟩ P φ
def MW(X:Cx)(K:aT)(mg:Sq)(P:Ru)(e:Ry)(φ:lM):Prop:=∀E,JW (X.ws E) e<|ZD ⟨K,mg,E⟩ P φ
def MA(X:Cx)(K:aT)(mg:Sq)(P:Ru)(es:List Ry)(φ:qg):Prop:=∀E,JA (X.ws E) es<|RH ⟨K,mg,E⟩ P φ
def Z2(φ:FE):FM:=fun Y L=>match φ Y with
 |.ok d=>.ok d L
 |_=>.no
def Wl(P:Ru)(φ:FE):FM:=fun Y L=>match φ (fill P L Y)with
 |.ok d=>if Sj d=G then .ok d L else .no
 |_=>.no
def uv(P:Ru)(φ:FT):lM:=fun Y L=>match φ (fill P L Y)with
 |.ok b=>.ok b L
 |_=>.no
section
variable{X:Cx}{K:aT}{mg:Sq}{P:Ru}{pos:Pos}{rest es:List Ry}{e a b c:Ry}{φ ψ:FM}{τ υ:lM}{α:qg}
theorem Ll{φ:FE}(h:∀b,JE (X.Td b) e<|tD ⟨K,mg,E0⟩ [] φ):ME X K mg P e<|Z2 φ:=fun E=>(h _).imp fun Z H Q c=>UZ c fun as B hs cl Y L I f=>by
 refine⟨cl.flatten++as,H,[],Y,I.di,?_⟩;delta Z2 at f;cases hr:φ Y with
 |ok d=>rw[hr]at f;exact fun v H' s a=>f v cl H' (I.mono s) (aA s) a
 |er x=>rw[hr]at f;exact f.elim
 |no=>rw[hr]at f;exact f.elim
theorem Lp{φ:FE}(h:∀b,JE (X.Td b) e<|tD ⟨K,mg,E0⟩ [] φ):ME X K mg P e<|Wl P φ:=fun E=>(h _).imp fun Z H Q c=>UZ c fun as B hs cl Y L I f=>by
 refine⟨as,H,[],fill P L Y,I.vZ,?_⟩;delta Wl at f;cases hr:φ (fill P L Y)with
 |ok d=>
  rw[hr]at f;intro v H' s a;dsimp only at f;split at f
  .rename_i hn;exact f v cl H' (I.mono s) (aA s)<|(I.mono s).flat hn a
  .exact f.elim
 |er x=>rw[hr]at f;exact f.elim
 |no=>rw[hr]at f;exact f.elim
theorem Ko{φ:FT}(h:∀a,JT (X.Td a) e<|lq ⟨K,mg,E0⟩ [] φ):MT X K mg P e<|uv P φ:=fun E=>(h _).imp fun Z H Q b=>UZ b fun as B hs cl Y L I f=>by
 refine⟨as,H,[],fill P L Y,I.vZ,?_⟩;delta uv at f;cases hr:φ (fill P L Y)with
 |ok d=>rw[hr]at f;exact fun H' s=>f d cl H' (I.mono s) (aA s) rfl
 |er x=>rw[hr]at f;exact f.elim
 |no=>rw[hr]at f;exact f.elim
def Nf(τ:lM)(φ ψ:FM):FM:=fun Y L=>(τ Y L).bind fun b L=>if b=G then φ Y L else ψ Y L
theorem aay(g:MT X K mg P c τ)(i:ME X K mg P a φ)(j:ME X K mg P b ψ):ME X K mg P (.IfExp c a b pos)<|Nf τ φ ψ:=fun E=>(N9 (g E) (i E)<|j E).imp (by intro Z H Q l;refine UZ l fun as B hs cl Y L I h=>?_;exact ⟨as,B,hs,cl,Y,L,I,bx h fun c k μ1 d H1 f st e h1=>by
  subst e;cases c with
  |true=>exact⟨as,B,hs,d,Y,μ1,f,h1⟩
  |false=>exact⟨as,B,hs,d,Y,μ1,f,h1⟩⟩)
def xg(τ υ:lM):lM:=fun Y L=>(τ Y L).bind fun b L=>if b=G then υ Y L else .ok η L
def J6(τ υ:lM):lM:=fun Y L=>(τ Y L).bind fun b L=>if b=G then .ok G L else υ Y L
def Dc(τ:lM):lM:=fun Y L=>(τ Y L).bind fun b L=>.ok (!b) L
theorem BC(h:MW X K mg P a τ):MT X K mg P a τ:=fun E=>Cc<|h E
theorem KO(b:MT X K mg P a τ):MW X K mg P (.BoolOp .And [a] pos) τ:=fun E=>CW<|b E
theorem PN(b:MT X K mg P a τ):MW X K mg P (.BoolOp .Or [a] pos) τ:=fun E=>IT<|b E
theorem OZ(g:MT X K mg P a τ)(i:MW X K mg P (.BoolOp .And (b::rest) pos) υ):MW X K mg P (.BoolOp .And (a::b::rest) pos)<|xg τ υ:=fun E=>(Hq (g E)<|i E).imp (by intro Z H Q k;refine UZ k fun as B hs cl Y L I h=>?_;exact ⟨as,B,hs,cl,Y,L,I,bx h fun c j μ1 d H1 f st e h1=>by
  subst e;cases c with
  |true=>exact⟨as,B,hs,d,Y,μ1,f,h1⟩
  |false=>exact h1 η d H1 f (ah.refl _) rfl⟩)
theorem aft(g:MT X K mg P a τ)(i:MW X K mg P (.BoolOp .Or (b::rest) pos) υ):MW X K mg P (.BoolOp .Or (a::b::rest) pos)<|J6 τ υ:=fun E=>(MC (g E)<|i E).imp (by intro Z H Q k;refine UZ k fun as B hs cl Y L I h=>?_;exact ⟨as,B,hs,cl,Y,L,I,bx h fun c j μ1 d H1 f st e h1=>by
  subst e;cases c with
  |false=>exact⟨as,B,hs,d,Y,μ1,f,h1⟩
  |true=>exact h1 G d H1 f (ah.refl _) rfl⟩)
theorem RA(d:MT X K mg P a τ):MT X K mg P (.UnaryOp .Not a pos)<|Dc τ:=fun E=>(GZ<|d E).imp (by intro Z H Q i;refine UZ i fun as B hs cl Y L I h=>?_;exact ⟨as,B,hs,cl,Y,L,I,bx h fun c g μ1 b H1 f st e h1=>by subst e;exact h1 _ b H1 f (ah.refl _) rfl⟩)
def qL(φ:FM):lM:=fun Y L=>(φ Y L).bind fun d L=>match d with
 |.bl b=>.ok b L
 |_=>.no
theorem Iq(i:ME X K mg P a φ)(g:(∀c,isTrue a X.env c=(do let v <-c;jF a.pos;holding [v] (truthy v)))<|>gK)(k:X.K=K<|>Rv):MT X K mg P a<|qL φ:=fun E=>
 (yR K (i E) g k).imp (by intro Z H Q l;refine UZ l fun as B hs cl Y L I h=>?_;exact ⟨as,B,hs,cl,Y,L,I,bx h fun d v μ1 e H1 j st f h1=>by
  cases d with
  |bl b=>subst f;exact h1 b e H1 j (ah.refl _) rfl
  |_=>exact h1.elim⟩)
def bj:qg:=fun _ L=>.ok [] L
def aK(φ:FM)(α:qg):qg:=fun Y L=>(φ Y L).bind fun d L=>(α Y L).bind fun l L=>.ok (.pl d::l) L
def mw(k:Nat)(α:qg):qg:=fun Y L=>(α Y L).bind fun l L=>.ok (.ob k::l) L
theorem LF(o:ME X K mg P e φ)(i:MA X K mg P es α)(n:al e=G):MA X K mg P (e::es)<|aK φ α:=fun E=>(bU (o E) (i E) n).imp (by intro Z H Q p;refine UZ p fun as B hs cl Y L I h=>?_;exact ⟨as,B,hs,cl,Y,L,I,bx h fun d v μ1 b H1 g st m h1=>⟨as,B,hs,b,Y,μ1,g,bx h1 fun l vs μ2 c k j a f h2=>
  h2 (v::vs) c k j (ah.refl _) ⟨v,vs,rfl,m.mono a,f⟩⟩⟩)
theorem fj(h:Z[i]?=J (J v))(q:Q v H):z8 i Z H Q:=by
 show m8 Z[i]? H Q;rw[h];exact q
theorem Tk(g:P[k]?=J i)(j:MA X K mg P es α)(m:X.N[i]?=J x)(q:m6 X.env.scope x)(hd:TN x)(b:#[2]=η):MA X K mg P (.Name x pos::es)<|mw k α:=fun E=>
 (bU (jv (X:=X.ws E) i m q hd b) (j E) rfl).imp fun Z H Q t=>UZ t fun as B hs cl Y L I h=>by
  obtain⟨c,d,e1,s,⟨a,r,rfl,q1⟩,q2⟩:=I.at g;exact fj q1 ⟨as,B,hs,cl,Y,L,I,bx h fun l vs μ2 e p n o f h2=>h2 (.ref a::vs) e p n (ah.refl _) ⟨_,vs,i,rfl,g,q1,f⟩⟩
noncomputable def f8:List AD->Option (Rx)
 |[]=>J []
 |.pl d::l=>(f8 l).map (d::·)
 |_=>U
theorem Args.plain{l:List AD}:∀{vs:Se}{ds:Rx},Args K P Z Hm l vs->f8 l=J ds->ay K Hm ds vs:=by
 induction l with
 |nil=>intro _ _ h e;cases e;exact h
 |cons d l i=>
  intro _ _ h q;cases d with
  |pl d=>obtain⟨ds,q1,rfl⟩:=dO.mp q;exact Tw h fun v r e h1 h2=>⟨v,r,e,h1,i h2 q1⟩
  |_=>cases q
def vN(α:qg):FM:=fun Y L=>(α Y L).bind fun l L=>match f8 l with
 |some ds=>if ds.length<=1000000 then .ok (.tup ds) L else .no
 |none=>.no
theorem PX(h:MA X K mg P es α):ME X K mg P (.Tuple es x1 pos)<|vN α:=fun E=>(Ci<|h E).imp (by intro Z H Q f;refine UZ f fun as B hs cl Y L I h=>?_;exact ⟨as,B,hs,cl,Y,L,I,bx h fun l vs μ1 b H1 e st c h1=>by
  cases a:f8 l with
  |none=>rw[a]at h1;exact h1.elim
  |some ds=>
   rw[a]at h1;dsimp only at h1;split at h1
   .rename_i hl;have d:=c.plain a;refine⟨by rw[<-d.len];exact RW hl ck,fun p a=>?_⟩;have s:=bR a<|.tup vs;have hn  := fun z=>e.Vq p z a;refine h1 (.ref p) b _ (e.mono s) (aA s) ⟨p,vs,rfl,.inl<|.inl ?_,d.mono<|aA s⟩;rw[av hn];exact aE
   .exact h1.elim⟩)
end
structure MO(K:aT)(as:Sf)(B:Hp)(hs:Sf)(cl:List (Sf))(L:Rx)(H:Hp):Prop where
 sb:ah B H
 fb:∀c∈cl,∀a∈c,B a=U
 nd:∀c∈cl,c.Nodup
 dj:∀(i j:Nat)(c c':Sf)(a:SA),cl[i]?=J c->cl[j]?=J c'->a∈c->a∈c'->i=j
 lm:L.length=cl.length
 ob:∀(k:Nat)(c:Sf)(d:D),cl[k]?=J c->L[k]?=J d->vq K #[5] H d c
 hd:cl.map vx=hs.map J
section
variable{K:aT}
theorem rM(n:Nat)(cl:List<|Sf)(as:Sf)(H:Hp):ah #[5]<|aj ((cl.drop n).flatten++as) H:=kD fun a b=>by
 rcases BY.mp b with h|h
 .exact Le _ ((fun n cl=>fun a b=>by
    obtain⟨c,h1,h2⟩:=dS.mp b;exact dS.mpr ⟨c,t6 h1,h2⟩) n cl a h)
 mright
theorem MI.mo(I:MI K as B hs P cl Z Y L H):MO K as B hs (cl.drop<|cl.length-hs.length) (L.drop<|L.length-hs.length) H where
 sb:=I.sb
 fb:=fun c f=>I.fb c<|t6 f
 nd:=fun c f=>I.nd c<|t6 f
 dj:=fun i j c l a h1 h2 h g=>by
  rw[uu]at h1 h2
  have:=I.dj _ _ c l a h1 h2 h g
  mright
 lm:=by rw[vJ,vJ,I.lm]
 ob:=fun k c d h1 h2=>by
  rw[uu]at h1 h2;rw[I.lm]at h2;refine US (I.get h1) fun _ d' _ e _ q=>?_;rw[h2]at e;cases e;exact q.mono (rM _ _ _ _) fun b _ o e=>e
 hd:=by rw[List.map_drop];exact I.hd
end
noncomputable def putAt{α:Type}:Ru->List α->List α->List α
 |k::ks,c::cs,l=>putAt ks cs<|l.set k c
 |_,_,l=>l
theorem p7{α:Type}:∀(a:Ru)(b l:List α),(putAt a b l).length=l.length
 |[],_,_=>by rfl
 |_::_,[],_=>by rfl
 |k::a,c::b,l=>by unfold putAt;rw[p7 a b];simp
theorem iL:∀{a:Ru}{b l:List α},k∉a->(putAt a b l)[k]?=l[k]?
 |[],_,_,_=>by rfl
 |_::_,[],_,_=>by rfl
 |j::a,c::b,l,h=>by
  unfold putAt;rw[iL fun z=>h<|ie _ z,dP fun z=>h<|by simp[z]]
theorem oE{c:α}:∀{a:Ru}{b l:List α}{m:Nat},a.Nodup->a[m]?=J k->b[m]?=J c->k<l.length->(putAt a b l)[k]?=J c
 |[],_,_,_,_,h,_,_=>by mright
 |_::_,[],_,_,_,_,h,_=>by mright
 |j::a,d::b,l,0,nd,h1,h2,hl=>by
  simp at h1 h2;subst h1 h2;unfold putAt;rw[iL (Vx.mp nd).1];simp[hl]
 |j::a,d::b,l,m+1,nd,h1,h2,hl=>by
  unfold putAt;exact oE (Vx.mp nd).2 (by assumption) ⊤ (by simpa using hl)
def iE(cl:List<|Sf)(a:Ru):List<|Sf:=a.map fun k=>(cl[k]?).getD []
def Kx(cl:List<|Sf)(a:Ru):List<|Sf:=(cl.zipIdx.filter fun p=>decide (p.2∉a)).map (·.1)
theorem NM:c∈Kx cl ks↔∃k:Nat,cl[k]?=J c/\k∉ks:=by
 delta Kx;rw[d9];constructor
 .rintro⟨p,h,rfl⟩;obtain⟨h1,h2⟩:=dN.mp h;exact⟨p.2,Mn.mp h1,WI h2⟩
 .rintro⟨k,h1,h2⟩;exact⟨(c,k),dN.mpr ⟨Mn.mpr h1,Th h2⟩,rfl⟩
theorem nu(h:∀a,a∈l↔a∈l')(H:Hp):aj l H=aj l' H:=by
 funext b
 by_cases c:b∈l
 .rw[bT c,bT<|(h b).mp c]
 .rw[av c,av fun z=>c<|(h b).mpr z]
section
variable{K:aT}
theorem iU{m:Nat}(a:∀k∈ks,k<cl.length)(h:(iE cl ks)[m]?=J c):∃k,ks[m]?=J k/\cl[k]?=J c:=by
 delta iE at h;rw[Xm]at h;obtain⟨k,h1,h2⟩:=dO.mp h
 have:=(Do h1)
 mright
theorem wc{m k:Nat}(h1:ks[m]?=J k)(h2:cl[k]?=J c):(iE cl ks)[m]?=J c:=by
 delta iE;mright
theorem jO(d:∀k∈ks,k<cl.length):a∈(iE cl ks).flatten↔∃(k:Nat)(c:Sf),k∈ks/\cl[k]?=J c/\a∈c:=by
 rw[cH];constructor
 .rintro⟨m,c,h1,h2⟩;obtain⟨k,b,f⟩:=iU d h1;exact⟨k,c,Do b,f,h2⟩
 .rintro⟨k,c,h1,h2,b⟩;obtain⟨m,e⟩:=dZ.mp h1;exact⟨m,c,wc e h2,b⟩
theorem Ao:a∈(Kx cl ks).flatten↔∃(k:Nat)(c:Sf),k∉ks/\cl[k]?=J c/\a∈c:=by
 rw[dS];constructor
 .rintro⟨c,h1,h2⟩;obtain⟨k,b,d⟩:=NM.mp h1;exact⟨k,c,d,b,h2⟩
 .rintro⟨k,c,h1,h2,b⟩;exact⟨c,NM.mpr ⟨k,h2,h1⟩,b⟩
theorem ui(b:∀k∈ks,k<cl.length)(a:SA):a∈cl.flatten++as↔a∈(iE cl ks).flatten++((Kx cl ks).flatten++as):=by
 rw[BY,BY,BY,jO b,Ao,cH];constructor
 .rintro(⟨k,c,h1,h2⟩|h)
  .by_cases z:k∈ks
   .exact .inl ⟨k,c,z,h1,h2⟩
   .exact .inr (.inl ⟨k,c,z,h1,h2⟩)
  .exact .inr (.inr h)
 .rintro(⟨k,c,_,h1,h2⟩|⟨k,c,_,h1,h2⟩|h)
  .exact .inl ⟨k,c,h1,h2⟩
  .exact .inl ⟨k,c,h1,h2⟩
  .exact .inr h
theorem MI.apart(I:MI K as B hs P cl Z Y L H)(d:∀k∈ks,k<cl.length)(e:a∈(Kx cl ks).flatten++as):a∉(iE cl ks).flatten:=fun z=>by
 obtain⟨k,c,h1,h2,b⟩:=(jO d).mp z;rcases BY.mp e with h|h
 .obtain⟨j,g,q1,q2,f⟩:=Ao.mp h
  have:=I.dj _ _ _ _ a h2 q2 b f
  exact q1<|this▸h1
 .exact I.ex a h (I.fb c (Do h2) a b)
theorem Dn{c:α}{b l:List α}(j:ks.Nodup)(i:b.length=ks.length)(g:∀k∈ks,k<l.length)(h:(putAt ks b l)[k]?=J c):(k∉ks/\l[k]?=J c)\/∃m:Nat,ks[m]?=J k/\b[m]?=J c:=by
 by_cases a:k∈ks
 .obtain⟨m,e⟩:=dZ.mp a;have d:m<b.length:=by rw[i];exact(rW.mp e).1
  have f:=WT d;rw[oE j e f<|g k a]at h;exact .inr ⟨m,e,by rw[f];exact h⟩
 .rw[iL a]at h;exact .inl ⟨a,h⟩
theorem MI.back(I:MI K as B hs P cl Z Y L H)(T:ks.Nodup)(t:∀k∈ks,k<cl.length)(f:MO K ((Kx cl ks).flatten++as) (aj (iE cl ks).flatten H) hs' cl2 μ2 H2)(N:hs'.map J=(iE cl ks).map vx):
  MI K as B hs P (putAt ks cl2 cl) Z Y (putAt ks μ2 L) H2/\Step as cl H (putAt ks cl2 cl) H2/\∀a,a∈cl2.flatten++((Kx cl ks).flatten++as)↔a∈(putAt ks cl2 cl).flatten++as:=by
 have hl:cl2.length=ks.length:=by
  have:=UN vP f.hd
  rw[N,WH,WH]at this;rw[this];delta iE;simp
 have w:∀b o,b∉(iE cl ks).flatten->H b=J o->H2 b=J o:=fun b o n e=>f.sb b o (by rw[av n];exact e);have new:∀c∈cl2,∀a∈c,a∈(iE cl ks).flatten\/H a=U:=fun c x a l=>by
  by_cases z:a∈(iE cl ks).flatten
  .exact .inl z
  .have:=f.fb c x a l;rw[av z]at this;exact .inr this
 have sub:∀a∈(iE cl ks).flatten,a∈cl.flatten:=fun a l=>by
  obtain⟨k,c,_,h2,g⟩:=(jO t).mp l;exact cH.mpr ⟨k,c,h2,g⟩
 have g2:∀{k:Nat}{c:Sf},(putAt ks cl2 cl)[k]?=J c->(k∉ks/\cl[k]?=J c)\/∃m:Nat,ks[m]?=J k/\cl2[m]?=J c:=fun h=>Dn T hl t h;have u:∀a,a∈cl2.flatten++((Kx cl ks).flatten++as)↔a∈(putAt ks cl2 cl).flatten++as:=fun a=>by
  rw[BY,BY,BY,Ao];constructor
  .rintro(h|⟨k,c,h1,h2,g⟩|h)
   .obtain⟨m,c,h1,h2⟩:=cH.mp h;have D:m<ks.length:=by rw[<-hl];exact(rW.mp h1).1
    have e:=WT D;exact .inl (cH.mpr ⟨_,c,oE T e h1<|t _<|yL D,h2⟩)
   .exact .inl (cH.mpr ⟨k,c,by rw[iL h1];exact h2,g⟩)
   .exact .inr h
  .rintro(h|h)
   .obtain⟨k,c,h1,h2⟩:=cH.mp h;rcases g2 h1 with⟨q1,q2⟩|⟨m,q1,q2⟩
    .exact .inr (.inl ⟨k,c,q1,q2,h2⟩)
    .exact .inl (cH.mpr ⟨m,c,q2,h2⟩)
   .exact .inr (.inr h)
 have st:Step as cl H (putAt ks cl2 cl) H2:=fun b o e=>by
  have n:b∉cl.flatten++as:=fun z=>by rw[bT z]at e;cases e
  rw[av n]at e;have O:b∉(putAt ks cl2 cl).flatten++as:=fun z=>by
   rcases BY.mp z with z|z
   .obtain⟨k,c,h1,h2⟩:=cH.mp z;rcases g2 h1 with⟨q1,q2⟩|⟨m,q1,q2⟩
    .exact n (Le _<|cH.mpr ⟨k,c,q2,h2⟩)
    .rcases new c (Do q2) b h2 with q|q
     .exact n (Le _<|sub b q)
     .rw[q]at e;cases e
   .exact n (OR _ z)
  rw[av O];exact w b o (fun z=>n<|Le _<|sub b z) e
 have pl:(putAt ks cl2 cl).length=cl.length:=p7 _ _ _;have l2:μ2.length=ks.length:=f.lm.trans hl;have V:∀k∈ks,k<L.length:=fun k h=>by rw[I.lm];exact t k h
 have M:(putAt ks cl2 cl).map vx=cl.map vx:=by
  refine Oo fun k=>?_;rw[Xm,Xm];by_cases p:k<cl.length
  .have e:=WT (show k<(putAt ks cl2 cl).length by rw[pl];exact p);rcases g2 e with⟨q1,q2⟩|⟨m,q1,q2⟩
   .rw[e,q2]
   .have C:=WT p;have s:=UN (·[m]?)<|f.hd.trans N;simp only[Xm]at s;rw[q2,wc q1 C]at s;rw[e,C];exact s
  .rw[Ax<|by rw[pl];lia,Ax<|⊥]
 refine⟨⟨I.len,I.ex,(lH I.sb fun a l=>?_).trans f.sb,fun c x a l=>?_,fun c x=>?_,fun i j c A a h1 h2 g E=>?_,fun i d e=>?_,?_,?_,fun k i c d h1 h2 g=>?_,?_,?_⟩,st,u⟩
 .obtain⟨k,c,_,h2,g⟩:=(jO t).mp l;exact I.fb c (Do h2) a g
 .obtain⟨k,e⟩:=dZ.mp x;rcases g2 e with⟨q1,q2⟩|⟨m,q1,q2⟩
  .exact I.fb c (Do q2) a l
  .rcases new c (Do q2) a l with q|q
   .obtain⟨k,c,_,h2,g⟩:=(jO t).mp q;exact I.fb c (Do h2) a g
   .exact I.sb.free q
 .obtain⟨k,e⟩:=dZ.mp x;rcases g2 e with⟨q1,q2⟩|⟨m,q1,q2⟩
  .exact I.nd c (Do q2)
  .exact f.nd c (Do q2)
 .have cross:∀{i j:Nat}{m:Nat}{c A:Sf},i∉ks->cl[i]?=J c->cl2[m]?=J A->a∈c->a∈A->False:=fun{i j m c A}q1 q2 q3 l n=>by
   rcases new A (Do q3) a n with q|q
   .obtain⟨k,c3,R,Q,z3⟩:=(jO t).mp q;exact q1<|I.dj _ _ _ _ a q2 Q l z3▸R
   .exact I.Vq a (Le _<|cH.mpr ⟨i,c,q2,l⟩) q
  rcases g2 h1 with⟨q1,q2⟩|⟨m,q1,q2⟩<;>rcases g2 h2 with⟨p1,p2⟩|⟨m',p1,p2⟩
  .exact I.dj _ _ _ _ a q2 p2 g E
  .exact(cross (j:=0) q1 q2 p2 g E).elim
  .exact(cross (j:=0) p1 p2 q2 E g).elim
  .have:=f.dj _ _ _ _ a q2 p2 g E
   subst this;rw[q1]at p1;cases p1;rfl
 .obtain⟨v,h1,h2⟩:=I.var i d e;exact⟨v,h1,h2.mono st⟩
 .rw[pl];exact I.lp
 .rw[p7,pl];exact I.lm
 .rcases g2 h2 with⟨q1,q2⟩|⟨m,q1,q2⟩
  .rw[iL q1]at g;obtain⟨R,Q⟩:=I.ob k i c d h1 q2 g;exact⟨R,Q.mono st fun b n o e=>w b o (fun z=>by
    obtain⟨k2,c2,F,W,S⟩:=(jO t).mp z;exact q1 (I.dj _ _ _ _ b q2 W n S▸F)) e⟩
  .have D:m<μ2.length:=by rw[l2];exact(rW.mp q1).1
   have C:=WT D;rw[oE T q1 C<|V k<|Do q1]at g;have y:=f.ob m c d q2<|C.trans g;rw[nu u]at y;refine⟨?_,y⟩;have p:=t k<|Do q1;have X:=WT p;obtain⟨i',d',F,W,⟨a,r,S,w4⟩,w5⟩:=I.get X;rw[h1]at F;cases F;have s:=UN (·[m]?)<|f.hd.trans N;simp only[Xm]at s;rw[q2,wc q1 X,S]at s;cases c with
   |nil=>mright
   |cons b r'=>simp at s;subst s;exact⟨b,r',rfl,w4⟩
 .rw[pl];exact I.hl
 .rw[M,pl];exact I.hd
end
noncomputable def j4:List AD->Ru
 |[]=>[]
 |.pl _::l=>j4 l
 |.ob k::l=>k::j4 l
noncomputable def zw:Nat->List AD->Ru
 |_,[]=>[]
 |o,.pl _::l=>zw (o+1) l
 |o,.ob _::l=>o::zw (o+1) l
noncomputable def uB:List AD->Sd
 |[]=>[]
 |.pl d::l=>J d::uB l
 |.ob _::l=>U::uB l
theorem wj:∀(l:List AD)(o:Nat),(zw o l).length=(j4 l).length
 |[],_=>rfl
 |.pl _::l,o=>wj l<|o+1
 |.ob _::l,o=>UN (·+1)<|wj l<|o+1
section
variable{K:aT}
theorem Args.len:∀{l:List AD}{vs:Se},Args K P Z Hm l vs->(uB l).length=vs.length
 |[],_,h=>by subst h;rfl
 |.pl d::l,_,⟨v,r,e,h1,h2⟩=>by subst e;exact UN (·+1) h2.len
 |.ob k::l,_,⟨v,r,i,e,h1,h2,h3⟩=>by subst e;exact UN (·+1) h3.len
theorem Args.var:∀{l:List AD}{vs:Se}{i:Nat}{d:D},Args K P Z Hm l vs->(uB l)[i]?=J (J d)->∃v,vs[i]?=J v/\bQ K Hm d v
 |[],_,_,_,h,e=>by contradiction
 |.pl d::l,_,0,_,⟨v,r,e,h1,h2⟩,q=>by simp[uB]at q;mright
 |.pl d::l,_,i+1,_,⟨v,r,e,h1,h2⟩,q=>by subst e;exact h2.var ⊤
 |.ob k::l,_,0,_,⟨v,r,_,e,h1,_,h3⟩,q=>by simp[uB]at q
 |.ob k::l,_,i+1,_,⟨v,r,_,e,h1,_,h3⟩,q=>by subst e;exact h3.var ⊤
theorem Args.obs:∀{l:List AD}{vs:Se}{o m i:Nat},Args K P Z Hm l vs->(zw o l)[m]?=J i->∃k v j a,(j4 l)[m]?=J k/\i=o+j/\vs[j]?=J v/\P[k]?=J a/\Z[a]?=J (J v)
 |[],_,_,_,_,h,e=>by contradiction
 |.pl d::l,_,o,m,_,⟨v,r,e,h1,h2⟩,q=>by
  subst e;left;refine yF (h2.obs q) fun k b j a g p c f=>?_;right;exact⟨k,b,j+1,a,g,⊥,by assumption,f⟩
 |.ob k::l,_,o,0,_,⟨v,r,a,e,h1,h2,h3⟩,q=>by
  subst e;simp[zw]at q;exact⟨k,v,0,a,rfl,by simp_all,rfl,h1,h2⟩
 |.ob k::l,_,o,m+1,_,⟨v,r,a,e,h1,h2,h3⟩,q=>by
  subst e;left;refine yF (h3.obs ⊤) fun n b j a g p c f=>?_;right;exact⟨n,b,j+1,a,⊤,⊥,⊤,f⟩
theorem Args.F9:∀{l:List AD}{vs:Se}{k:Nat},Args K P Z Hm l vs->k∈j4 l->k<P.length
 |[],_,_,_,h=>by nofun
 |.pl d::l,_,k,⟨v,r,e,h1,h2⟩,h=>h2.F9 h
 |.ob j::l,_,k,⟨v,r,i',e,h1,h2,h3⟩,h=>by
  rcases eQ.mp h with rfl|h
  .grind
  .exact h3.F9 h
end
section
variable{K:aT}{mg:Sq}{as:Sf}{B:Hp}{hs:Sf}{P:Ru}{cl:List (Sf)}{Z:St}{Y:Sd}{L:Rx}{H:Hp}{l:List AD}{vs:Se}
theorem MI.lend(I:MI K as B hs P cl Z Y L H)(A:Args K P Z #[5] l vs)(C:(j4 l).Nodup):(∀k∈j4 l,k<cl.length)/\∃f,f.map J=(iE cl<|j4 l).map vx /\
  MI K ((Kx cl<|j4 l).flatten++as) (aj (iE cl<|j4 l).flatten H) f (zw 0 l) (iE cl<|j4 l) (vs.map J) (uB l) ((j4 l).map fun k=>(L[k]?).getD .S9) H:=by
 have b:∀k∈j4 l,k<cl.length:=fun k h=>by rw[<-I.lp];exact A.F9 h
 have D:(iE cl<|j4 l).length=(j4 l).length:=by delta iE;simp
 have w:((iE cl<|j4 l).map fun c=>(c.head?).getD 0).map J=(iE cl<|j4 l).map vx:=by
  rw[ae5];refine aeA fun c g=>?_;obtain⟨m,e⟩:=dZ.mp g;obtain⟨k,_,o⟩:=iU b e;obtain⟨_,_,_,_,⟨a,r,rfl,_⟩,_⟩:=I.get o;rfl
 refine⟨b,_,w,⟨by rw[WH];exact A.len,fun a p=>?_,aD _ _,fun c g a p=>bT<|dS.mpr ⟨c,g,p⟩,fun c g=>?_,fun i j c S a h1 h2 n t=>?_,fun i d e=>?_,?_,?_,fun k i c d h1 h2 n=>?_,?_,?_⟩⟩
 .rw[av<|I.apart b p];exact I.Vq a<|(ui b a).mpr<|OR _ p
 .obtain⟨m,e⟩:=dZ.mp g;obtain⟨k,_,o⟩:=iU b e;exact I.nd c<|Do o
 .obtain⟨k,e1,q1⟩:=iU b h1;obtain⟨y,o,q2⟩:=iU b h2
  have:=I.dj _ _ _ _ a q1 q2 n t
  subst this;exact(List.getElem?_inj (rW.mp e1).1 C).mp<|e1.trans o.symm
 .obtain⟨v,h1,h2⟩:=A.var e;refine⟨v,by rw[Xm,h1];rfl,?_⟩;rw[<-nu (ui b)];exact h2
 .rw[D,wj]
 .mright
 .left;obtain⟨y,v,j,T,q,M,Q,R,N⟩:=A.obs h1;obtain⟨k2,s,z⟩:=iU b h2;rw[q]at s;cases s;obtain⟨V,E,F,u,⟨a,r,rfl,O⟩,x⟩:=I.get z;right;rw[Xm,q]at n;simp only[iM,u,Option.getD_some,Option.some.injEq]at n;subst n;refine⟨⟨a,r,rfl,by mright⟩,?_⟩;rw[<-nu (ui b)];exact x
 .simp
 mright
section
variable{K:aT}{mg:Sq}{as:Sf}{B:Hp}{hs:Sf}{P:Ru}{cl:List (Sf)}{Z:St}{Y:Sd}{L:Rx}{H:Hp}{l:List AD}{vs:Se}
abbrev UV:=Sd->Rx->RM D
end
def adN(K:aT)(mg:Sq)(as:Sf)(B:Hp)(hs:Sf)(r:RM D)(Q:VK)(E:XK):Prop:=match r with
 |.ok d μ'=>∀v a H',MO K as B hs a μ' H'->bQ K (aj (a.flatten++as) H') d v->Q v H'
 |.er x μ'=>∀y C a H',MO K as B hs a μ' H'->mg x=J (.ref C)->E (.ref y) (J C) H'
 |.no=>False
def sJ(K:aT)(mg:Sq)(Pf:Ru)(F:FM):Sp:=fun vs H Q E=>∃as B hs cl Y L,hs.length=cl.length/\MI K as B hs Pf cl (vs.map J) Y L H/\adN K mg as B hs (F Y L) Q E
def fU(Pf:Ru)(F:FM)(l:List AD)(L:Rx):RM D:=if(j4 l).Nodup/\zw 0 l=Pf then(match F (uB l) ((j4 l).map fun k=>(L[k]?).getD .S9)with
 |.ok d μ2=>.ok d<|putAt (j4 l) μ2 L
 |.er x μ2=>.er x<|putAt (j4 l) μ2 L
 |.no=>.no)else .no
abbrev AR(E:RQ)(Z:St):XK:=fun y C H'=>∃a b,y=.ref a/\C=J b/\E a b Z H'
theorem lC{Q:VK}(I:MI K as B hs P cl Z Y L H)(A:Args K P Z #[5] l vs)(h:qU ⟨K,mg,E⟩ as B hs P Z Y cl H (bQ K) (fU Pf F l L) Q):sJ K mg Pf F vs H Q<|AR E Z:=by
 delta fU at h;cbv
 .rename_i hc;obtain⟨g,rfl⟩:=hc;obtain⟨i,f,c,a⟩:=I.lend A g;refine⟨_,_,f,_,_,_,by have:=UN vP c;simpa using this,a,?_⟩;cases hr:F (uB l) ((j4 l).map fun k=>(L[k]?).getD .S9)with
  |ok d μ2=>
   rw[hr]at h;intro v b H' O n;obtain⟨m,st,e⟩:=I.back g i O c;exact h v _ H' m st (by rw[<-nu e];exact n)
  |er x μ2=>
   rw[hr]at h;intro y C b H' O j;exact⟨y,C,rfl,rfl,h y C _ H' (I.back g i O c).1 j⟩
  |no=>rw[hr]at h;mleft
 .mleft
end
section
variable{X:Cx}{K:aT}{mg:Sq}{P Pf:Ru}{F:FM}{aa:TQ}{Z:St}{H:Hp}{s:ID}{E:RQ}{p pos apos:Pos}
theorem rS(SK:T8 X.prog X.w X.K X.mg X.base (oI X.prog X.w X.mg) k f fd ps sp)(i:TZ k X.A)(N:cf X.K fd ps [])(g:qQ X)
  (I:Inv X aa Z H s) (r:aU vs us) (h:sp vs H Q<|AR E Z):SN #[0] X.A (call (.ref f) us) (EP X aa Z Q) (XS X E) s:=
 KL SK i N (fun e s' j l=>by
  obtain⟨y,C,H',rfl,os,a,un,d,⟨M,p,B,c,t,o,n,D,T,oT,F,b1,b2,m,u⟩,O,P,e1,x,q⟩:=l;cases e1;cases x;have I3  := I.call' os un d a (fun b z=>nomatch z) j
  exact⟨Z,H',y,C,J .none,rfl,I3.less,ExcAt.less ⟨Nw.gone I g M,p,B,c,t,o,n,D,fun z=>(by cases z),fun v z=>(by cases z;exact⟨T,oT,F,b1,Nw.gone I g b2,m,u⟩)⟩,q⟩) I r h
theorem EP.ws(h:EP X aa Z Q u s'):EP (X.Td E') aa Z Q u s':=let⟨v,H',I,r,q⟩:=h;⟨v,H',I.Td _,r,q⟩
def dm(Pf:Ru)(F:FM)(α:qg):FM:=fun Y L=>(α Y L).bind<|fU Pf F
theorem Lx{st:SU}(D:Def X.K X.mg x st ps f fd)(SK:T8 X.prog X.w X.K X.mg X.base (oI X.prog X.w X.mg) j f fd ps<|sJ K mg Pf F)(d:TZ k X.A)(u:MA X K mg P (e::es) α)
  (v:j<=k) (n:qQ X) (g:Gl X x) (c:TN x) (h1:al e=G) (h2:es.all al=G):ME X K mg P #[3]<|dm Pf F α:=fun E=>⟨fun aa s Z H Q I z=>UZ z fun as B hs cl Y L M h=>by
 refine Yr (dD I g D.m ?_ c);have t:RH ⟨K,mg,E⟩ P α Z H fun vs H1=>sJ K mg Pf F vs H1 Q (AR E Z):=⟨as,B,hs,cl,Y,L,M,bx h fun l vs μ1 o H1 a st A h1=>lC a A h1⟩;refine yw I.ok.mod.XM D.F.kp (bP ((u E).out pos aa s Z H _ I t) fun us y i=>jZ i fun vs H1 a r q=>⟨a.U3,?_⟩) (bC h1) (bH h2);exact bP (rS SK (d.mono v) D.b n a.Ul r q) fun _ _ q=>q.ws⟩
def fY(i:Nat)(T:List<|Str×FM)(Pf:Ru)(α:qg):FM:=fun Y L=>match Y[i]? with
 |some (J<|.cls g)=>(match T.lookup g with
  |some F=>(α Y L).bind<|fU Pf F
  |none=>.no)
 |_=>.no
theorem F3(t:X.N[i]?=J x)(W:m6 X.env.scope x)(hd:TN x)(b:#[2]=η)
  (z:∀g F,T.lookup g=J F->∃f fd ps,DO K By g=J (J<|.ref f)/\Xq X.K (.ref f)=G/\cf X.K fd ps []/\T8 X.prog X.w X.K X.mg X.base (oI X.prog X.w X.mg) j f fd ps (sJ K mg Pf F))
  (m:TZ k X.A) (S:MA X K mg P (e::es) α) (hj:j<=k) (D:qQ X) (h1:al e=G) (h2:es.all al=G):ME X K mg P #[3]<|fY i T Pf α:=fun E=>⟨fun aa s Z H Q I q_=>UZ q_ fun as B hs cl Y L M h=>by
 delta fY at h;left;cbv
 .rename_i g eg;cbv
  .rename_i F eF;refine c7 (z g F eF) fun f fd ps V C d SK=>?_;obtain⟨v,o,y⟩:=M.var i _ eg;obtain⟨f',rfl,c⟩:=y;rw[V]at c;cases c;right;refine Yr<|bP (qv (X:=X.ws E) i t W hd b aa s Z H (fun v H'=>v=.ref f/\H'=H) I<|fj o ⟨rfl,rfl⟩) ?_;intro u s0 q0_;refine US q0_ fun v H0 I0 rv e1 e2=>?_;subst e1 e2;obtain rfl:u=.ref f:=rv;have R:RH ⟨K,mg,E⟩ P α Z H0 fun vs H1=>sJ K mg Pf F vs H1 Q<|AR E Z:=⟨as,B,hs,cl,Y,L,M,bx h fun l vs μ1 O H1 a st A h1=>lC a A h1⟩;refine yw I0.ok.mod.XM C (bP ((S E).out pos aa s0 Z H0 _ I0 R) fun us s1 n=>jZ n fun vs H1 a r q=>⟨a.U3,?_⟩) (bC h1)<|bH h2;exact bP (rS SK (m.mono hj) d D a.Ul r q) fun _ _ q=>q.ws
  .right;mleft
 .right;mleft⟩
theorem dR.none:∀{fs:List<|Str×D}{xs:List<|Str×V}{bs:Sf},dR K Hm H fs xs bs->fs.lookup m=U->xs.lookup m=U
 |[],_,_,⟨e,_⟩,_=>by subst e;rfl
 |(k,d)::fs,_,_,⟨v,r,c,e,f1,f2⟩,h=>by
  subst e;unfold wA at h⊢;cases q:m==k with
  |true=>mright
  |false=>rw[q]at h;exact f2.none h
noncomputable def zW(n m:Str)(d:Option D):Bool:=match d with
 |some (.obj x fs)=>decide (x=n)&&(fs.lookup m).isNone
 |_=>η
theorem vq.zW(c:vq K Hm H d<|a::r)(h:zW n m (J d)=G)(g:DO K By n=J (J<|.ref C)):∃b xs,H a=J (.ins C b xs)/\xs.lookup m=U:=by
 delta L2.zW at h;cbv
 .rename_i x fs e;left;cases e;rw[oR,decide_eq_true_eq,L1]at h;obtain⟨rfl,h⟩:=h;refine WM c fun i b xs f h1 h2=>?_;rw[g]at f;cases f;right;exact⟨b,xs,h1,h2.none h⟩
 .nofun
def dM(k:Nat)(n m:Str)(Pf:Ru)(F:FM)(α:qg):FM:=fun Y L=>if zW n m L[k]?=G then(α Y L).bind fun l L=>fU Pf F (.ob k::l) L else .no
abbrev Ep(env:Env)(o:Ry)(m:Str)(es:List Ry)(apos pos:Pos):Prop:=∃pl:Sem Bool,eval (.Call (.Attribute o m apos) es [] pos) env=(do
   let ov <-eval o env
   jF apos.atName
   let(f,first) <-holding [ov] (getMethod ov m pl)
   callWith pos f first (X3 pos (Uu es env)) (backToKw pos (jh [] env)))
theorem KJ(D:P[k0]?=J i)(V:X.N[i]?=J x)(hv:m6 X.env.scope x)(hd:TN x)(o:#[2]=η)
  (hn:DO K By n=J (J<|.ref C)) (c:UR X.K C) (t:kF X.K C m f) (SK:T8 X.prog X.w X.K X.mg X.base (oI X.prog X.w X.mg) j f fd ps<|sJ K mg Pf F) (hb:cf X.K fd ps []) (O:TZ k X.A) (ha:MA X K mg P (e::es) α)
  (hj:j<=k) (W:qQ X) (h1:al e=G) (h2:es.all al=G) (g:Ep X.env (.Name x p) m (e::es) apos pos):ME X K mg P (.Call (.Attribute (.Name x p) m apos) (e::es) [] pos)<|dM k0 n m Pf F α:=fun E=>⟨fun aa s Z H Q I q_=>UZ q_ fun as B hs cl Y L M h=>by
 left;obtain⟨pl,g⟩:=g;delta dM at h;cbv
 .rename_i hob;obtain⟨cc,d,e1,e2,⟨a,r,rfl,q1⟩,q2⟩:=M.at D;rw[e2]at hob;obtain⟨dx,xs,T,R⟩:=q2.zW hob hn;right;have ho:=fj (Q:=fun v H'=>v=.ref a/\H'=H) q1 ⟨rfl,rfl⟩;refine OO (bP (qv (X:=X.ws E) i V hv hd o aa s Z H _ I ho) fun u s1 q_=>US q_ fun v H1 b rv z1 z2=>?_) g;subst z1 z2;obtain rfl:u=WU a:=rv;refine ua b T c t R ?_;have hA:RH ⟨K,mg,E⟩ P α Z H1 fun vs z=>sJ K mg Pf F (.ref a::vs) z Q<|AR E Z:=⟨as,B,hs,cl,Y,L,M,bx h fun l vs μ1 cl1 H1 b st A h1=>lC (l:=.ob k0::l) b ⟨.ref a,vs,i,rfl,D,q1,A⟩ h1⟩;refine yw I.ok.mod.XM t.kp (bP ((ha E).out pos aa s1 Z H1 _ b hA) fun us s2 S=>jZ S fun vs z y r q=>⟨y.U3,?_⟩) (bC h1)<|bH h2;exact bP (rS (vs:=.ref a::vs) SK (O.mono hj) hb W y.Ul (.cons rfl r) q) fun _ _ q=>q.ws
 .right;mleft⟩
theorem HE(o:P[k0]?=J i)(D:X.N[i]?=J x)(V:m6 X.env.scope x)(hd:TN x)(e:#[2]=η)
  (R:DO K By n=J (J<|.ref C)) (c:UR X.K C) (g:kF X.K C m f) (SK:T8 X.prog X.w X.K X.mg X.base (oI X.prog X.w X.mg) j f fd ps<|sJ K mg Pf F) (W:cf X.K fd ps []) (t:TZ k X.A)
  (hj:j<=k) (O:qQ X) (b:Ep X.env (.Name x p) m [] apos pos):ME X K mg P (.Call (.Attribute (.Name x p) m apos) [] [] pos)<|dM k0 n m Pf F bj:=fun E=>⟨fun aa s Z H Q I q_=>UZ q_ fun as B hs cl Y L M h=>by
 left;obtain⟨pl,b⟩:=b;delta dM at h;cbv
 .rename_i hob;obtain⟨cc,d,e1,S,⟨a,r,rfl,q1⟩,q2⟩:=M.at o;rw[S]at hob;obtain⟨dx,xs,z,y⟩:=q2.zW hob R;right;have T:=fj (Q:=fun v H'=>v=.ref a/\H'=H) q1 ⟨rfl,rfl⟩;refine OO (bP (qv (X:=X.ws E) i D V hd e aa s Z H _ I T) fun u s1 q_=>US q_ fun v H1 I1 rv z1 z2=>?_) b;subst z1 z2;obtain rfl:u=WU a:=rv;refine ua I1 z c g y ?_;refine Bb I1.U3 g.kp<|bP (rS (vs:=[.ref a]) SK (t.mono hj) W O I1.Ul (.cons rfl .nil)<|lC (l:=[.ob k0]) M ⟨.ref a,[],i,rfl,o,q1,rfl⟩ h) fun _ _ q=>q.ws
 .right;mleft⟩
end
inductive RS where
 |nx (Y:Sd) (L:Rx)|bk (Y:Sd) (L:Rx)|ct (Y:Sd) (L:Rx)|rt (d:D) (L:Rx)|er (x:Str) (L:Rx)|no
abbrev gi:=Sd->Rx->RS
noncomputable def lst(nl:Nat)(L:Rx):Rx:=L.drop<|L.length-nl
def RM.bs{α:Type}(nl:Nat)(r:RM α)(f:α->Rx->RS):RS:=match r with
 |.ok a L=>f a L
 |.er x L=>.er x<|lst nl L
 |.no=>.no
def yz(W:Ct)(as:Sf)(B:Hp)(hs:Sf)(Pb P':Ru)(r:RS)(D:Ends):Prop:=match r with
 |.nx Y L=>∀cl Z H,MI W.K as B hs P' cl Z Y L H->D.nx Z H
 |.bk Y L=>∀cl Z H,MI W.K as B hs Pb cl Z Y L H->D.bk Z H
 |.ct Y L=>∀cl Z H,MI W.K as B hs Pb cl Z Y L H->D.ct Z H
 |.rt d L=>∀v cl H,MO W.K as B hs cl L H->bQ W.K #[5] d v->D.rt v H
 |.er x L=>∀y C Z cl H,MO W.K as B hs cl L H->W.mg x=J (.ref C)->W.E y C Z H
 |.no=>False
def sM(W:Ct)(nl:Nat)(Pb P P':Ru)(φ:gi):TS:=fun D Z H=>∃as B hs cl Y L,hs.length=nl/\MI W.K as B hs P cl Z Y L H/\yz W as B hs Pb P' (φ Y L) D
def MS(X:Cx)(K:aT)(mg:Sq)(nl:Nat)(Pb P P':Ru)(s:SU)(φ:gi):Prop:=∀E,JS (X.ws E) s<|sM ⟨K,mg,E⟩ nl Pb P P' φ
def MB(X:Cx)(K:aT)(mg:Sq)(nl:Nat)(Pb P P':Ru)(s:List SU)(φ:gi):Prop:=∀E,JB (X.ws E) s<|sM ⟨K,mg,E⟩ nl Pb P P' φ
section
theorem cW{AS:Hp->α->β->Prop}(i:hs.length=nl)(h:yz W as B hs Pb P' (r.bs nl f) D')
  (q:∀a b μ1 c H1,MI W.K as B hs P c Z Y μ1 H1->Step as cl H c H1->AS (aj (c.flatten++as) H1) a b->yz W as B hs Pb P' (f a μ1) D'->Q b H1):qU W as B hs P Z Y cl H AS r Q:=by
 cases r with
 |ok a L=>exact fun b d H' I st e=>q a b L d H' I st e h
 |er x L=>exact fun y C d H' I g=>h y C Z _ H' (i▸I.mo) g
 |no=>exact h
theorem MI.set{K:aT}(I:MI K as B hs P cl Z Y L H)(b:i∉P)(g:bQ K #[5] d v):MI K as B hs P cl (Z.set i<|J v) (Y.set i<|J d) L H where
 len:=by simp[I.len]
 ex:=I.ex
 sb:=I.sb
 fb:=I.fb
 nd:=I.nd
 dj:=I.dj
 var:=fun j e q=>by
  rw[getElem?_set']at q⊢;split at q
  .rename_i hij;rw[SI hij];split at q
   .rename_i hl;rw[SI<|by rw[<-I.len];exact hl];mright
   .cases q
  .rename_i hij;rw[SM hij];exact I.var j e q
 lp:=I.lp
 lm:=I.lm
 ob:=fun k j c d h1 h2 f=>by
  have a:i≠j:=fun z=>b<|z▸Do h1;rw[dP a];exact I.ob k j c d h1 h2 f
 hl:=I.hl
 hd:=I.hd
section
variable{X:Cx}{K:aT}{mg:Sq}{nl:Nat}{P Pb P' P'':Ru}{pos:Pos}{e c:Ry}{φ:FM}{τ:lM}{α:qg}{ψ χ:gi}{st:SU}{sts:List SU}
theorem Q7(hst:X.stack=X.env::X.outer)(hf:X.env.frame=J X.env.locals):PassesOwn (model (X.ws E).prog (X.ws E).w) (X.ws E).A (X.ws E).env (X.ws E).xe:=by
 rintro e s' ⟨Z,H,x,C,fl,rfl,I,ea,hE⟩;have hfr:X.A.frames=(X.env::X.outer):=by rw[<-hst];exact I.ok.frames
 show notedBy (model X.prog X.w) X.A X.env (cameBackBy (model X.prog X.w) X.A X.env<|XS X E) (.ref x) s';refine rV hf hfr hst hf I ea fun h1 I1 e1=>?_;obtain⟨oe,vs,b1,b2,b3,b4,b5,b6⟩:=e1.ob;obtain⟨T',oT,ts,c1,c2,c3,c4,c5q,c6q,c7q⟩:=b6 _ rfl;refine wpAny_bind<|wpAny_field b1 b3 c1 ?_;exact jL I1 e1 X.env.frame fun h4 I4 vA=>⟨Z,H,x,C,_,rfl,I4,vA,hE⟩
end
end
section
variable{X:Cx}{K:aT}{mg:Sq}{nl:Nat}{P Pb P' P'':Ru}{pos:Pos}{e c:Ry}{φ:FM}{τ:lM}{α:qg}{ψ χ:gi}{st:SU}{sts:List SU}
def qM(nl i:Nat)(φ:FM):gi:=fun Y L=>(φ Y L).bs nl fun d L=>.nx (Y.set i<|J d) L
theorem Ow(j:i∉P)(b:X.N.Nodup)(m:Loc X.env.scope x)(f:ME X K mg P e φ)(l:X.N[i]?=J x)(hs:Uw e (J<|.Name x pos') pos.line X.env=pure η)(g:X.fn x=G\/X.env.scope.names.lookup x=J .local):
  MS X K mg nl Pb P P (.Assign [.Name x pos'] e pos) (qM nl i φ):=fun E=>(pw (X:=X.ws E) b m (f E) l hs g).imp (by intro D Z H n;refine Vc n fun as B o cl Y L p I h=>?_;exact ⟨as,B,o,cl,Y,L,I,cW p h fun d v μ1 a H1 k st c h1=>h1 a _ H1<|k.set j c⟩)
def sr(nl:Nat)(φ:FM):gi:=fun Y L=>(φ Y L).bs nl fun _ L=>.nx Y L
theorem KK(b:ME X K mg P e φ)(hs:Uw e U pos.line X.env=pure η):MS X K mg nl Pb P P (.Expr e pos)<|sr nl φ:=fun E=>(aot (b E) hs).imp (by intro D Z H g;refine Vc g fun as B i cl Y L j I h=>?_;exact ⟨as,B,i,cl,Y,L,I,cW j h fun d v μ1 a H1 c st f h1=>h1 a _ H1 c⟩)
def xz(nl:Nat)(φ:FM):gi:=fun Y L=>(φ Y L).bs nl fun d L=>.rt d<|lst nl L
theorem QM(b:ME X K mg P e φ):MS X K mg nl Pb P P' (.Return (J e) pos)<|xz nl φ:=fun E=>(Fh<|b E).imp (by intro D Z H i;refine Vc i fun as B j cl Y L g I h=>?_;exact ⟨as,B,j,cl,Y,L,I,cW g h fun d v μ1 c H1 f st a h1=>h1 v _ H1 (g▸f.mo)<|a.mono<|g▸rM _ _ _ _⟩)
def UF(nl:Nat):gi:=fun _ L=>.rt .S9<|lst nl L
section
variable{X:Cx}{K:aT}{mg:Sq}{nl:Nat}{P Pb P' P'':Ru}{pos:Pos}{e c:Ry}{φ:FM}{τ:lM}{α:qg}{ψ χ:gi}{st:SU}{sts:List SU}
theorem ajb:MS X K mg nl Pb P P' (.Return U pos)<|UF nl:=fun E=>(Kc).imp fun D Z H⟨as,B,h0,cl,Y,L,hl,I,h⟩=>h .S9 _ H (hl▸I.mo) rfl
end
def pf(nl:Nat)(τ:lM)(ψ χ:gi):gi:=fun Y L=>(τ Y L).bs nl fun b L=>if b=G then ψ Y L else χ Y L
theorem akE(g:MT X K mg P c τ)(i:MB X K mg nl Pb P P' a ψ)(j:MB X K mg nl Pb P P' b χ):MS X K mg nl Pb P P' (.If c a b pos)<|pf nl τ ψ χ:=fun E=>(N6 (g E) (i E)<|j E).imp (by intro D Z H n;refine Vc n fun as B l cl Y L m I h=>?_;exact ⟨as,B,l,cl,Y,L,I,cW m h fun c k μ1 d H1 f st e h1=>by
  subst e;cases c with
  |true=>exact⟨as,B,l,d,Y,μ1,m,f,h1⟩
  |false=>exact⟨as,B,l,d,Y,μ1,m,f,h1⟩⟩)
def qG:gi:=fun Y L=>.nx Y L
noncomputable def bZ(ψ χ:gi):gi:=fun Y L=>match ψ Y L with
 |.nx Y L=>χ Y L
 |r=>r
section
variable{X:Cx}{K:aT}{mg:Sq}{nl:Nat}{P Pb P' P'':Ru}{pos:Pos}{e c:Ry}{φ:FM}{τ:lM}{α:qg}{ψ χ:gi}{st:SU}{sts:List SU}
theorem akn:MB X K mg nl Pb P P [] qG:=fun E=>Hu.imp fun D Z H⟨as,B,h0,cl,Y,L,hl,I,h⟩=>h cl Z H I
end
section
variable{X:Cx}{K:aT}{mg:Sq}{nl:Nat}{P Pb P' P'':Ru}{pos:Pos}{e c:Ry}{φ:FM}{τ:lM}{α:qg}{ψ χ:gi}{st:SU}{sts:List SU}
theorem aja:MS X K mg nl Pb P P (.Pass pos) qG:=fun E=>Ki.imp fun D Z H⟨as,B,h0,cl,Y,L,hl,I,h⟩=>h cl Z H I
end
theorem Q2(h:MS X K mg nl Pb P P' st ψ):MB X K mg nl Pb P P' [st] ψ:=fun E=>GK<|h E
theorem Kk(h1:MS X K mg nl Pb P P' st ψ)(h2:MB X K mg nl Pb P' P'' sts χ):MB X K mg nl Pb P P'' (st::sts)<|bZ ψ χ:=fun E=>(C0 (h1 E)<|h2 E).imp fun D Z H d=>Vc d fun as B b cl Y L c I h=>by
 refine⟨as,B,b,cl,Y,L,c,I,?_⟩;delta bZ at h;cases hr:ψ Y L with
 |nx a μ1=>rw[hr]at h;exact fun cl Z H I=>⟨as,B,b,cl,a,μ1,c,I,h⟩
 |_=>rw[hr]at h;exact h
def bV(nl:Nat)(τ:lM)(ψ:gi):Nat->gi
 |0,_,_=>.no
 |n+1,Y,L=>(τ Y L).bs nl fun b L=>if b=G then(match ψ Y L with
  |.nx Y L=>bV nl τ ψ n Y L
  |.ct Y L=>bV nl τ ψ n Y L
  |.bk Y L=>.nx Y L
  |r=>r)else .nx Y L
theorem EO(n:Nat)(g:X.stack=X.env::X.outer)(p:X.env.frame=J X.env.locals)(u:MT X K mg P c τ)(z:MB X K mg nl P P P sts ψ):MS X K mg nl Pb P P (.While c sts [] pos)<|bV nl τ ψ n:=fun E=>(yn ((by
  intro e s' q0_;refine gU q0_ fun Z H x C fl r0_ I ea hE=>?_;subst r0_;have o:X.A.frames=(X.env::X.outer):=by rw[<-g];exact I.ok.frames
  show notedBy #[0] X.A X.env (cameBackBy #[0] X.A X.env (XS X E)) (.ref x) s';refine rV p o g p I ea fun h1 r e1=>?_;left;refine XX e1.ob fun W vs b1 b2 t V N s=>?_;refine rA (s _ rfl) fun F oT ts c1 c2 Q O T R M=>?_;right;refine iF (Wo b1 t c1 ?_);exact jL r e1 X.env.frame fun a l v=>⟨Z,H,x,C,_,rfl,l,v,hE⟩)) (u E) (z E)).imp fun D' Z H q_=>Vc q_ fun as B h0 cl Y L hl I h=>by
 refine⟨fun m Z H=>∃cl Y L,MI K as B h0 P cl Z Y L H/\yz ⟨K,mg,E⟩ as B h0 Pb P (bV nl τ ψ m Y L) D',⟨n,cl,Y,L,I,h⟩,?_⟩;rintro m σ3 H3 ⟨cl3,δ3,μ3,I3,h3⟩;cases m with
 |zero=>exact h3.elim
 |succ m=>
  refine⟨as,B,h0,cl3,δ3,μ3,I3,cW hl h3 fun b S j k y l D e a=>?_⟩;subst e;cases b with
  |false=>exact a k σ3 y l
  |true=>
   refine⟨fun i H'=>∃cl Y L,MI K as B h0 P cl i Y L H'/\yz ⟨K,mg,E⟩ as B h0 Pb P (bV nl τ ψ m Y L) D',fun i H' q=>⟨m,mY m,q⟩,as,B,h0,k,δ3,j,hl,l,?_⟩;cases hr:ψ δ3 j with
   |nx f μ2=>rw[hr]at a;exact fun cl Z H I=>⟨cl,f,μ2,I,a⟩
   |ct f μ2=>rw[hr]at a;exact fun cl Z H I=>⟨cl,f,μ2,I,a⟩
   |bk f μ2=>rw[hr]at a;exact a
   |rt d μ2=>rw[hr]at a;exact a
   |er x μ2=>rw[hr]at a;exact a
   |no=>rw[hr]at a;exact a
theorem JS.xe(h:JS (X.Td E1) st t)(i:∀e s,E1 e s->E2 e s):JS (X.Td E2) st t:=⟨fun aa s Z H D I q=>UE (h.out aa s Z H D (I.Ul.Td _) q) (fun f s' z=>by
 cases f with
 |next=>obtain⟨a,H',b,q⟩:=z;exact⟨a,H',b.Ul.Td _,q⟩
 |brk=>obtain⟨a,H',b,q⟩:=z;exact⟨a,H',b.Ul.Td _,q⟩
 |cont=>obtain⟨a,H',b,q⟩:=z;exact⟨a,H',b.Ul.Td _,q⟩
 |ret u=>obtain⟨v,a,H',b,r,q⟩:=z;exact⟨v,a,H',b.Ul.Td _,r,q⟩) i⟩
def RL(nl:Nat)(a:Str)(α:qg):gi:=fun Y L=>(α Y L).bs nl fun l L=>if l.length<=10 then .er a (lst nl L)else .no
theorem Args.ph:∀{l:List AD}{vs:Se},Args K P Z Hm l vs->l.length=vs.length
 |[],_,h=>by subst h;rfl
 |.pl d::l,_,⟨v,r,e,h1,h2⟩=>by subst e;exact UN (·+1) h2.ph
 |.ob k::l,_,⟨v,r,i,e,h1,h2,h3⟩=>by subst e;exact UN (·+1) h3.ph
theorem FB(a:X.mg cn=J (.ref C))(k:mg=X.mg)(i:ek X.K C Gj "ValueError.__new__"=G)(r:MA X K mg P (e::es) α)(o:X.calm=G)(m:qQ X)(g:Gl X cn)(c:(cn==("__debug__":Str))=η)
  (h1:(e::es).all al=G):MS X K mg nl Pb P P' (.Raise (J<|.Call (.Name cn np) (e::es) [] cpos) U pos)<|RL nl cn α:=fun E=>by
 let E1:XK:=fun y C H=>∃b d,y=.ref b/\C=J d/\∀Z,E b d Z H
 have j:JS (X.may E1) (.Raise (J<|.Call (.Name cn np) (e::es) [] cpos) U pos)<|ZB C E1<|RH ⟨K,mg,fun x C Z H=>E1 (.ref x) (C) H⟩ P α:=⟨DH a i o m (r fun x C Z H=>E1 (.ref x) (C) H).out g c h1⟩;refine(JS.xe (E2:=XS X E) j fun e s k=>gU k fun Z H x C fl e1 I ea k=>Tw k fun b d e2 e3 q=>?_).imp fun D Z H v=>Vc v fun as B t cl Y L u I h=>⟨as,B,t,cl,Y,L,I,?_⟩
 .cases e2;cases e3;exact⟨Z,H,x,C,fl,e1,I,ea,q Z⟩
 .have h':yz ⟨K,mg,fun x C Z H=>E1 (.ref x) (C) H⟩ as B t Pb P' (RL nl cn α Y L) D:=by
   cases hr:RL nl cn α Y L with
   |er x p=>rw[hr]at h;exact fun y C Z cl H O a=>⟨y,C,rfl,rfl,fun Z=>h y C Z cl H O a⟩
   |_=>rw[hr]at h;exact h
  refine cW u h' fun l vs μ1 n H1 f st A h1=>?_;split at h1
  .rename_i hl2;exact⟨by rw[<-A.ph];exact hl2,fun x=>h1 x C Z _ H1 (u▸f.mo)<|by rw[k];exact a⟩
  .exact h1.elim
end
section
variable{P:Tc}{w:Sl}{K:aT}{mg:Sq}{base:T3}{Pf P':Ru}{N ps:SH}{nl:Nat}{ψ:gi}
def aZ(n:Nat)(Y:Sd):Sd:=Y++Ut (n-Y.length) U
def bF(nl:Nat)(ψ:gi)(n k:Nat):FM:=fun Y L=>if Y.length=k/\L.length=nl then(match ψ (aZ n Y) L with
 |.nx _ L=>.ok .S9<|lst nl L
 |.rt d L=>.ok d L
 |.er x L=>.er x L
 |_=>.no)else .no
theorem MI.start(I:MI K as B hs Pf cl (vs.map J) Y L H):MI K as B hs Pf cl (start N vs) (aZ N.length Y) L H where
 len:=by have:=I.len;delta aZ L2.start;simp at this⊢;mright
 ex:=I.ex
 sb:=I.sb
 fb:=I.fb
 nd:=I.nd
 dj:=I.dj
 var:=fun i d e=>by
  have hl:=I.len;delta aZ at e;delta L2.start;by_cases b:i<Y.length
  .rw[uy b]at e;rw[uy<|by simp_all];exact I.var i d e
  .rw[nN<|by simp_all]at e
   grind
 lp:=I.lp
 lm:=I.lm
 ob:=fun k i c d h1 h2 f=>by
  obtain⟨⟨a,r,e,z⟩,q⟩:=I.ob k i c d h1 h2 f;refine⟨⟨a,r,e,?_⟩,q⟩;delta L2.start;rw[uy (rW.mp z).1];exact z
 hl:=I.hl
 hd:=I.hd
theorem BL(h:sJ K mg Pf (bF nl ψ N.length ps.length) vs H Q E):sM ⟨K,mg,fun y C Z H=>E (.ref y) (J C) H⟩ nl [] Pf P' ψ {nx:=fun _ H'=>Q .S9 H',rt:=Q} (start N vs) H:=by
 left;obtain⟨as,B,hs,cl,Y,L,i,I,h⟩:=h;right;delta bF at h;cbv
 .rename_i hc;have a:hs.length=nl:=by rw[i,<-I.lm];exact hc.2
  refine⟨as,B,hs,cl,_,L,a,I.start,?_⟩;cases hr:ψ (aZ N.length Y) L with
  |nx f μ1=>rw[hr]at h;exact fun b g H1 e=>h .S9 _ H1 (a▸e.mo) rfl
  |rt d μ1=>rw[hr]at h;assumption
  |er x μ1=>rw[hr]at h;exact fun y C Z b H1 O c=>h y C b H1 O c
  |bk _ _=>rw[hr]at h;mleft
  |ct _ _=>rw[hr]at h;mleft
  |no=>rw[hr]at h;mleft
 .mleft
theorem BW:∀vs H Q E,sJ K mg Pf (bF nl ψ N.length ps.length) vs H Q E->vs.length=ps.length:=fun vs H Q E h=>by
 obtain⟨as,B,hs,cl,Y,L,a,I,h⟩:=h;delta bF at h;cbv
 .rename_i hc
  have:=I.len
  rw[WH,hc.1]at this;exact this.symm
 .mleft
theorem UD.Y6{st:SU}(F:UD K x qual st f fd)(S:Vr N ps<|ai st)
  (c:∀(b:nE)(_:Ea K b qual=G)(A:Tx)(a:List Env)(s:ID)(H:Hp)(E:XK),TZ k (A.deeper<|W7 qual (ai st) s.heap.objs.size f b) ->
   MB (gw (oI P w mg) P w K mg base N qual (ai st) f b A a s H E) K mg nl [] Pf P' (bL st) ψ):T8 P w K mg base (oI P w mg) (k+1) f fd ps (sJ K mg Pf (bF nl ψ N.length ps.length)):=by
 obtain⟨l,o,kV,h,m,n,b,j,i,rfl,lk,d⟩:=F.ex;exact Qu lk (tF d) S BW fun A a s H vs Q E g e=>⟨_,((c b d A a s H E g) fun y C Z H=>E (.ref y) (C) H).out,BL e⟩
def Wr(F:FM):Rx->R D:=fun ds=>match F (ds.map J) []with
 |.ok d _=>.ok d
 |_=>.no
theorem PC(h:ay K H ds vs){i:Nat}(e:(ds.map J)[i]?=J (J d)):∃v,(vs.map J)[i]?=J (J v)/\bQ K H d v:=by
 rw[Xm]at e;obtain⟨d',e1,a⟩:=dO.mp e;obtain⟨v,h1,h2⟩:=h.get e1;mright
theorem T8.Wr(SK:T8 P w K mg base (oI P w mg) k f fd ps<|sJ K mg [] F):T8 P w K mg base lD k f fd ps<|rj K mg<|Wr F:=by
 have p:∀vs H Q E,rj K mg (L2.Wr F) vs H Q E->sJ K mg [] F vs H Q (fun _ _ _=>False):=fun vs H Q E C=>Tw C fun as ds ex B h=>by
  refine⟨as,H,[],[],ds.map J,[],rfl,⟨by rw[WH,WH];exact B.len,ex,ah.refl _,fun c m=>(nomatch m),fun c m=>(nomatch m),fun i j c y a h1=>(by cases h1),fun i d e=>PC B e,rfl,rfl,fun k i c d h1=>(by mright),mK _,rfl⟩,?_⟩
  delta L2.Wr at h;cases g:F (ds.map J) []with
  |ok d L=>
   rw[g]at h;intro v cl H' O n;have  := by have:=O.hd;simpa using this
   subst this;exact h v H' O.sb n
  |er x L=>rw[g]at h;mleft
  |no=>rw[g]at h;mleft
 refine⟨fun vs H Q E h=>SK.len vs H Q _<|p _ _ _ _ h,fun A b s H l us vs Q E g q u t hs=>eo (SK.run A b s H l us vs Q _ g q u t<|p _ _ _ _ hs) fun r s' o=>?_⟩;cases r with
 |error e=>refine rA o fun _ _ _ _ _ _ _ _ _ z=>?_;exact z.elim
 |ok fl=>cases fl<;>exact o
end
section
variable{K:aT}
theorem MI.Gz(I:MI K as B hs P cl Z Y L H)(a:cl[k]?=J c)(l:b∈c)(h:vq K #[5] (br H b o) d' c):
  MI K as B hs P cl Z Y (L.set k d') (br H b o)/\Step as cl H cl (br H b o):=by
 have f:b∈cl.flatten++as:=Le _<|cH.mpr ⟨k,c,a,l⟩;have g:=iR (o:=o) (H:=H) f;refine⟨⟨I.len,I.ex,fun x u e=>?_,I.fb,I.nd,I.dj,fun i d e=>by rw[g];exact I.var i d e,I.lp,by rw[List.length_set];exact I.lm,fun j i s d h1 h2 m=>?_,I.hl,I.hd⟩,by show ah _ _;rw[g];exact ah.refl _⟩
 .have:x≠b:=fun z=>by rw[z,I.fb c (Do a) b l]at e;cases e
  rw[aG this];exact I.sb x u e
 .rw[g];by_cases n:k=j
  .have hl:k<L.length:=by rw[I.lm];grind
   refine US (I.get a) fun C t w v y A=>?_;mright
  .rw[dP n]at m;obtain⟨q,p⟩:=I.ob j i s d h1 h2 m;exact⟨q,p.mono (ah.refl _) fun x r u e=>by
    have:x≠b:=fun z=>n<|I.dj _ _ _ _ x a h2 (z▸l) r
    rw[aG this];exact e⟩
end
noncomputable def xU(f:Str)(d:D):List (Str×D)->List (Str×D)
 |[]=>[(f,d)]
 |(g,x)::r=>if g=f then(g,d)::r else(g,x)::xU f d r
def wt(d:D):Bool:=(xO d).isSome
section
variable{K:aT}
theorem iW.pl(h:wt d=η):iW K Hm H d v bs c↔bs=c/\bQ K Hm d v:=by
 delta wt at h;delta iW;mright
theorem dR.put(hd:wt d=η)(a:bQ K Hm d v):∀{fs:List<|Str×D}{xs:List<|Str×V}{bs:Sf},dR K Hm H fs xs bs->(∀x,fs.lookup f=J x->wt x=η)->dR K Hm H (xU f d fs) (f9 f v xs) bs
 |[],_,_,⟨e1,e2⟩,_=>by subst e1 e2;exact⟨v,[],[],rfl,(iW.pl hd).mpr ⟨rfl,a⟩,rfl,rfl⟩
 |(g,x)::fs,_,bs,⟨u,r,c,e,f1,f2⟩,h=>by
  subst e;unfold xU f9;by_cases q:g=f
  .rw[SI q,SI q];have hx  := h x (by mright)
   have:=(iW.pl hx).mp f1
   exact⟨v,r,c,rfl,(iW.pl hd).mpr ⟨this.1,a⟩,f2⟩
  .rw[SM q,SM q];refine⟨u,_,c,rfl,f1,f2.put hd a fun y b=>?_⟩
   grind
theorem dR.Gk:∀{fs:List<|Str×D}{xs:List<|Str×V}{bs:Sf},dR K Hm H fs xs bs->fs.length=xs.length
 |[],_,_,⟨e1,e2⟩=>by subst e1;rfl
 |(g,x)::fs,_,bs,⟨u,r,c,e,f1,f2⟩=>by subst e;exact UN (·+1) f2.Gk
theorem dR.WK:∀{fs:List<|Str×D}{xs:List<|Str×V}{bs:Sf},dR K Hm H fs xs bs->fs.lookup f=J (.WK ds)->bs.Nodup->∃b ys,xs.lookup f=J (.ref b)/\b∈bs/\H b=J (.lst ys)/\ay K Hm ds ys /\
  ∀d a,ay K Hm d a->dR K Hm (br H b<|.lst a) (xU f (.WK d) fs) xs bs
 |[],_,_,_,h,_=>by nofun
 |(g,x)::fs,_,bs,⟨u,r,c,e,f1,f2⟩,h,nd=>by
  subst e;by_cases q:g=f
  .subst q;rw[We,beq_self_eq_true]at h;nofun;obtain⟨b,ys,rfl,rfl,h1,h2⟩:=f1;rw[Vx]at nd;refine⟨b,ys,by rw[We,beq_self_eq_true],Up,h1,h2,fun d a k=>?_⟩;unfold xU;rw[SI rfl];exact⟨.ref b,r,c,rfl,⟨b,a,rfl,rfl,aE,k⟩,f2.mono (ah.refl _) fun i l o e=>by
    rw[aG (by rintro rfl;exact nd.1 l)];exact e⟩
  .have qf:(f==g)=η:=⊥
   rw[We,qf]at h;have j:c.Nodup/\∀b∈c,∀i ys,xO x=ys->bs=i::c->b≠i:=by
    delta iW at f1
    grind
   left;refine y2 (f2.WK h j.1) fun b ys B m v w p=>?_;right;refine⟨b,ys,by grind,f1.sub b m,v,w,fun d a k=>?_⟩;unfold xU;rw[SM q];refine⟨u,r,c,rfl,?_,p d a k⟩;delta iW at f1⊢;cases el:xO x with
   |none=>mright
   |some dl=>
    rw[el]at f1;refine US f1 fun i t n s y A=>?_;exact⟨i,t,n,s,by rw[aG fun z=>j.2 b m i dl el n z.symm];exact y,A⟩
end
section
variable{X:Cx}{K:aT}{mg:Sq}{nl:Nat}{P Pb:Ru}{pos apos cpos p1 fpos:Pos}{e:Ry}{φ:FM}
noncomputable def xm(L:Rx)(k:Nat):Option<|Rx:=match L[k]? with
 |some (.lst ds)=>J ds
 |_=>U
theorem MI.lst(I:MI K as B hs P cl Z Y L H)(j:P[k]?=J i)(h:xm L k=J ds):
  ∃a xs,Z[i]?=J (J<|.ref a)/\H a=J (.lst xs)/\ay K #[5] ds xs/\∀e b,ay K #[5] e b->MI K as B hs P cl Z Y (L.set k<|.lst e) (br H a<|.lst b)/\Step as cl H cl (br H a<|.lst b):=by
 left;obtain⟨c,d,e1,l,⟨a,r,rfl,q1⟩,q2⟩:=I.at j;right;delta xm at h;rw[l]at h;cases d with
 |lst f=>
  nofun;cases r with
  |nil=>
   obtain⟨xs,h1,h2⟩:=q2;exact⟨a,xs,q1,h1,h2,fun e b g=>I.Gz e1 Up ⟨b,aE,g⟩⟩
  |cons _ _=>exact q2.elim
 |_=>nofun
def L3(k:Nat)(α:qg):FM:=fun Y L=>(α Y L).bind fun l L=>match f8 l,xm L k with
 |some [d],J ds=>if ds.length<1000000 then .ok .S9 (L.set k<|.lst<|ds++[d])else .no
 |_,_=>.no
theorem Ql(p:P[k]?=J i)(F:MA X K mg P [e] α)(y:X.N[i]?=J x)(R:al e=G)(b:#[6]=G)(M:m6 X.env.scope x)(hd:TN x)(g:#[2]=η)
  (c:WG (.Name x p1) "append" X.env (eval (.Name x p1) X.env)=eval (.Name x p1) X.env):
  ME X K mg P (.Call (.Attribute (.Name x p1) "append" apos) [e] [] cpos) (fun Y L=>if(xm L k).isSome=G then L3 k α Y L else .no):=fun E=>
 (DK (X:=X.ws E) oG lF lN gq (jv i y M hd g) (F E) c b (by mright) (show 1<29 by simp)).imp fun Z H Q T=>UZ T fun as B hs cl Y L I h=>by
  dsimp only at h;cbv
  .rename_i hs1;obtain⟨q,u⟩:=tq.mp hs1;refine US (I.lst p u) fun a xs q1 q2 S _=>?_;refine fj q1 ?_;refine⟨.inl ⟨rfl,xs,gr.of q2⟩,as,B,hs,cl,Y,L,I,bx h fun l vs μ1 m H1 s st A h1=>?_⟩;split at h1
   .rename_i d ds hp hg1;obtain⟨v,r,rfl,C,t⟩:=A.plain hp;subst t;split at h1
    .refine US (s.lst p hg1) fun O f n w o D=>?_;rw[q1]at n;cases n;obtain⟨z,j⟩:=D (ds++[d]) (f++[v])<|o.append<|ay.cons C ay.nil;exact⟨a,f,v,rfl,rfl,w,by have:=ck;rw[<-o.len];lia,h1 _ m _ z j rfl⟩
    .exact h1.elim
   .exact h1.elim
  .mleft
noncomputable def yE(L:Rx)(k:Nat)(n f:Str):Option<|Rx:=match L[k]? with
 |some (.obj x fs)=>if x=n then(match fs.lookup f with
  |some (.WK ds)=>J ds
  |_=>U)else U
 |_=>U
def L5(L:Rx)(k:Nat)(f:Str)(ds:Rx):Rx:=match L[k]? with
 |some (.obj x fs)=>L.set k<|.obj x<|xU f (.WK ds) fs
 |_=>L
theorem MI.fld(I:MI K as B hs P cl Z Y L H)(w:P[k]?=J i)(l:DO K By n=J (J<|.ref C))(h:yE L k n f=J ds):
  ∃a j fs b xs,Z[i]?=J (J<|.ref a)/\H a=J (.ins C j fs)/\fs.lookup f=J (.ref b)/\H b=J (.lst xs)/\ay K #[5] ds xs/\∀g e,ay K #[5] g e->MI K as B hs P cl Z Y (L5 L k f g) (br H b<|.lst e)/\Step as cl H cl (br H b<|.lst e):=by
 left;obtain⟨c,d,e1,m,⟨a,r,rfl,q1⟩,q2⟩:=I.at w;right;delta yE at h;rw[m]at h;cases d with
 |obj x fs=>
  dsimp only at h;cbv
  .rename_i ex;subst ex;cbv
   .rename_i ds0 el;left;nofun;refine WM q2 fun y j xs o h1 h2=>?_;rw[l]at o;cases o;have nd:=I.nd _<|Do e1;rw[Vx]at nd;refine y2 (h2.WK el nd.2) fun b ys q p t v s=>?_;right;refine⟨a,j,xs,b,ys,q1,h1,q,t,v,fun g e u=>?_⟩;delta L5;rw[m];exact I.Gz e1 (ie _ p) ⟨C,j,xs,l,by rw[aG<|⊥];exact h1,s g e u⟩
   .nofun
  .nofun
 |_=>nofun
theorem FG{a b C c:SA}(h1:Z[i]?=J (J<|.ref a))(h2:H a=J (.ins C c fs))(e:UR K C)(d:a9 K C f)(g:fs.lookup f=J v)(q:Q v H):Vz K (z8 i) f Z H Q:=
 fj h1 ⟨a,C,c,fs,v,rfl,h2,e,d,g,q⟩
def nr(k:Nat)(n f:Str)(φ:FE):FM:=fun Y L=>match yE L k n f,φ Y with
 |some ds,.ok d=>if ds.length<1000000 then .ok .S9 (L5 L k f<|ds++[d])else .no
 |_,_=>.no
theorem LV{φ:FE}(y:P[k]?=J i)(w:DO K By n=J (J<|.ref C))(S:UR K C)(hf:a9 K C f)(he:∀A,JE (X.Td A) e<|tD ⟨K,mg,E0⟩ [] φ)(F:X.N[i]?=J x)(l:al e=G)(c:#[6]=G)(hv:m6 X.env.scope x)(hd:TN x)(o:#[2]=η)
  (j:WG (.Name x p1) f X.env (eval (.Name x p1) X.env)=eval (.Name x p1) X.env) (m:WG (.Attribute (.Name x p1) f fpos) "append" X.env (eval (.Attribute (.Name x p1) f fpos) X.env)=eval (.Attribute (.Name x p1) f fpos) X.env) (O:X.K=K):
  ME X K mg P (.Call (.Attribute (.Attribute (.Name x p1) f fpos) "append" apos) [e] [] cpos) (nr k n f φ):=fun E=>
 (DK (X:=X.ws E) oG lF lN gq ⟨AO (qv i F hv hd o) j⟩ (bU (he _) eD l) m c (by mright) (show 1<29 by simp)).imp fun Z H Q q_=>UZ q_ fun as B hs cl Y L I h=>by
  subst O;delta nr at h;left;cbv
  .rename_i ds d hg hφ;refine c9 (I.fld y w hg) fun a dx fs b xs q1 q2 z D q5 q6=>?_;right;refine FG (b:=b) q1 q2 S hf z ?_;refine⟨.inl ⟨rfl,xs,gr.of D⟩,cl.flatten++as,H,[],Y,I.di,?_⟩;rw[hφ];intro v H' s R;left;cbv
   .have I':=I.mono s;refine c9 (I'.fld y w hg) fun a' T V b' g r q u W t w6=>?_;rw[q1]at r;cases r;rw[s _ _ q2]at q;cases q;rw[z]at u;cases u;obtain⟨M,p⟩:=w6 (ds++[d]) (g++[v])<|t.append<|ay.cons R ay.nil;right;exact⟨b,g,v,rfl,rfl,W,by have:=ck;rw[<-t.len];lia,h _ cl _ M ((aA s).trans p) rfl⟩
   .right;mleft
  .right;mleft
def mh(k:Nat)(n f:Str):FM:=fun _ L=>match yE L k n f with
 |some ds=>(match ds[ds.length-1]? with
  |some d=>.ok d<|L5 L k f ds.dropLast
  |none=>.no)
 |none=>.no
theorem KA(z:P[k]?=J i)(y:DO K By n=J (J<|.ref C))(w:UR K C)(A:a9 K C f)(q:X.N[i]?=J x)(c:#[6]=G)(D:m6 X.env.scope x)(hd:TN x)(l:#[2]=η)
  (g:WG (.Name x p1) f X.env (eval (.Name x p1) X.env)=eval (.Name x p1) X.env) (j:WG (.Attribute (.Name x p1) f fpos) "pop" X.env (eval (.Attribute (.Name x p1) f fpos) X.env)=eval (.Attribute (.Name x p1) f fpos) X.env) (u:X.K=K):
  ME X K mg P (.Call (.Attribute (.Attribute (.Name x p1) f fpos) "pop" apos) [] [] cpos) (mh k n f):=fun E=>
 (Cg (X:=X.ws E) oG aos bts hdO ⟨AO (qv i q D hd l) g⟩ j c).imp fun Z H Q O=>UZ O fun as B hs cl Y L I h=>by
  subst u;delta mh at h;cbv
  .rename_i ds hg;cbv
   .rename_i d ed;left;refine c9 (I.fld z y hg) fun a M fs b xs q1 q2 F o m p=>?_;obtain⟨v,r,s⟩:=m.get ed;obtain⟨t,e⟩:=p ds.dropLast xs.dropLast m.dropLast;right;refine FG (b:=b) q1 q2 w A F ?_;exact⟨.inl ⟨rfl,xs,gr.of o⟩,b,xs,v,rfl,rfl,o,by rw[<-m.len];exact r,h v cl _ t e<|s.mono e⟩
   .mleft
  .mleft
def Jk(f:Str)(fs:List<|Str×D):Bool:=match fs.lookup f with
 |some y=>wt y
 |none=>η
def Xj(n f:Str)(d:D)(x:Str)(fs:List<|Str×D):Bool:=decide (x=n)&&!wt d&&decide (fs.length<1000)&&!Jk f fs
theorem Re(h:Xj n f d x fs=G):x=n/\wt d=η/\fs.length<1000/\∀y,fs.lookup f=J y->wt y=η:=by
 delta Xj at h;simp only[oR,simp,Yl]at h;obtain⟨⟨⟨a,b⟩,c⟩,d⟩:=h;refine⟨a,b,c,fun y e=>?_⟩;delta Jk at d;rw[e]at d;exact d
def xM(n f:Str)(d:D)(o:Option D):Option D:=match o with
 |some (.obj x fs)=>if Xj n f d x fs=G then J (.obj x<|xU f d fs)else U
 |_=>U
theorem MI.xM(I:MI K as B hs P cl Z Y L H)(q:P[k]?=J i)(j:DO K By n=J (J<|.ref C))(h:L2.xM n f d L[k]?=J d')(p:bQ K #[5] d v):
  ∃a g fs,Z[i]?=J (J<|.ref a)/\H a=J (.ins C g fs)/\fs.length<1000/\MI K as B hs P cl Z Y (L.set k d') (br H a<|.ins C g<|f9 f v fs)/\Step as cl H cl (br H a<|.ins C g<|f9 f v fs):=by
 left;obtain⟨c,m,e1,t,⟨a,r,rfl,q1⟩,q2⟩:=I.at q;right;delta L2.xM at h;rw[t]at h;cases m with
 |obj x fs=>
  dsimp only at h;cbv
  .rename_i hc;left;obtain⟨rfl,hd,u,s⟩:=Re hc;nofun;refine WM q2 fun w g xs l h1 h2=>?_;rw[j]at l;cases l;right;have nd:=I.nd _<|Do e1;rw[Vx]at nd;refine⟨a,g,xs,q1,h1,by rw[<-h2.Gk];exact u,I.Gz e1 Up ⟨C,g,_,j,aE,?_⟩⟩;refine(h2.mono (ah.refl _) fun b y o e=>by rw[aG<|⊥];exact e).put hd p s
  .nofun
 |_=>nofun
def Bs(nl k:Nat)(n f:Str)(φ:FM):gi:=fun Y L=>(φ Y L).bs nl fun d L=>match xM n f d L[k]? with
 |some d'=>.nx Y<|L.set k d'
 |none=>.no
theorem K7(s:P[k]?=J i)(r:DO K By n=J (J<|.ref C))(q:UR K C)(t:a9 K C f)(u:ME X K mg P e φ)(l:X.N[i]?=J x)(w:m6 X.env.scope x)(hd:TN x)(b:#[2]=η)
  (hs:Uw e (J<|.Attribute (.Name x p1) f pos') pos.line X.env=pure η) (o:X.K=K):MS X K mg nl Pb P P (.Assign [.Attribute (.Name x p1) f pos'] e pos)<|Bs nl k n f φ:=fun E=>
 JS.imp ⟨GB (qv i l w hd b) (u E).out hs⟩ fun D Z H z=>Vc z fun as B A cl Y L F I h=>by
  subst o;refine⟨as,B,A,cl,Y,L,I,cW F h fun d v μ1 c H1 g st p h1=>?_⟩;left;split at h1
  .rename_i d' hs;refine rm (g.xM s r hs p) fun a j fs q1 q2 y m _=>?_;right;refine fj q1 ?_;exact⟨a,C,j,fs,rfl,q2,q,t,y,h1 c Z _ m⟩
  .right;exact h1.elim
def uE(k:Nat)(n f:Str)(j:Int):gi:=fun Y L=>match L[k]? with
 |some (.obj x fs)=>(match fs.lookup f with
  |some (.int i)=>(match xM n f (.int<|i+j) L[k]? with
   |some d'=>.nx Y<|L.set k d'
   |none=>.no)
  |_=>.no)
 |_=>.no
theorem dR.look:∀{fs:List<|Str×D}{xs:List<|Str×V}{bs:Sf},dR K Hm H fs xs bs->fs.lookup f=J d->wt d=η->∃v,xs.lookup f=J v/\bQ K Hm d v
 |[],_,_,_,h,_=>by nofun
 |(g,x)::fs,_,bs,⟨u,r,c,e,f1,f2⟩,h,hd=>by
  subst e;rw[We]at h⊢;cases q:f==g with
  |true=>rw[q]at h;nofun;exact⟨u,rfl,((iW.pl hd).mp f1).2⟩
  |false=>rw[q]at h;exact f2.look h hd
theorem K8(m:P[k]?=J i)(M:DO K By n=J (J<|.ref C))(A:UR K C)(O:a9 K C f)(q:X.N[i]?=J x)(S:m6 X.env.scope x)(hd:TN x)(d:#[2]=η)
  (z:X.K=K):MS X K mg nl Pb P P (.AugAssign (.Attribute (.Name x p1) f tpos) .Add (.Constant (.int j) jj vpos) pos)<|uE k n f j:=fun E=>
 JS.imp ⟨D6 (qv i q S hd d) AE OH⟩ fun D Z H q_=>Vc q_ fun as B h0 cl Y L hl I h=>by
  subst z;obtain⟨c,p,e1,o,⟨a,r,rfl,q1⟩,q2⟩:=I.at m;delta uE at h;rw[o]at h;cases p with
  |obj y fs=>
   dsimp only at h;left;cbv
   .rename_i i0 el;cbv
    .rename_i d' hs;rw[<-o]at hs;refine rm (I.xM m M hs rfl) fun V e xs g b w u _=>?_;rw[q1]at g;cases g;refine WM q2 fun T F Q W l s=>?_;rw[b]at l;cases l;obtain⟨v,R,t⟩:=s.look el rfl;right;subst t;refine fj q1 ?_;exact⟨a,C,e,xs,.int i0,rfl,b,A,O,R,i0,j,rfl,rfl,e,xs,b,w,h cl Z _ u⟩
    .right;mleft
   .right;mleft
  |_=>mleft
end
section
variable{K:aT}
theorem n5(d:ah H H2)(new:∀a∈c,H a=U):ah #[5]<|aj ((c::cl).flatten++as) H2:=fun b o e=>by
 have g:b∉cl.flatten++as:=fun z=>by rw[bT z]at e;cases e
 rw[av g]at e;have f:b∉(c::cl).flatten++as:=fun z=>by
  rw[ac8,Vw]at z
  grind
 rw[av f];exact d b o e
theorem MI.grow(I:MI K as B hs P cl Z Y L H)(w:i∉P)(hl:i<Z.length)(g:ah H H2)(new:∀a∈c,H a=U)(D:c=x::r)(nd:c.Nodup)(C:vq K (aj ((c::cl).flatten++as) H2) H2 d c):
  MI K as B hs (i::P) (c::cl) (Z.set i<|J<|.ref x) (Y.set i U) (d::L) H2 where
 len:=by simp[I.len]
 ex:=I.ex
 sb:=I.sb.trans g
 fb:=fun f h a u=>by
  rcases eQ.mp h with rfl|h
  .exact I.sb.free (new a u)
  .exact I.fb f h a u
 nd:=fun f h=>by
  rcases eQ.mp h with rfl|h
  .exact nd
  .exact I.nd f h
 dj:=fun m n c1 c2 a h1 h2 l p=>by
  have t:∀{j:Nat}{f:Sf},cl[j]?=J f->a∈f->a∈c->False:=fun{j f}q1 q2 q3=>I.Vq a (Le _<|cH.mpr ⟨j,f,q1,q2⟩)<|new a q3;cases m with
  |zero=>
   cases n with
   |zero=>rfl
   |succ n=>simp at h1 h2;subst h1;exact(t h2 p l).elim
  |succ m=>
   cases n with
   |zero=>simp at h1 h2;subst h2;exact(t h1 l p).elim
   |succ n=>simp at h1 h2;exact UN (·+1)<|I.dj m n c1 c2 a h1 h2 l p
 var:=fun j e q=>by
  rw[getElem?_set']at q;split at q
  .mright
  .obtain⟨v,h1,h2⟩:=I.var j e q;exact⟨v,by simp_all,h2.mono<|n5 g new⟩
 lp:=by simp[I.lp]
 lm:=by simp[I.lm]
 ob:=fun k j f d' h1 h2 l=>by
  cases k with
  |zero=>
   simp at h1 h2 l;mright
  |succ k=>
   have s:i≠j:=fun z=>w<|z▸Do h1;rw[dP s];obtain⟨A,y⟩:=I.ob k j f d' h1 h2 l;exact⟨A,y.mono (n5 g new) fun b _ o e=>g b o e⟩
 hl:=by have:=I.hl;simp;lia
 hd:=by
  have h1:=I.hl;have h2:=I.hd;rw[uq,Nat.succ_sub h1];exact h2
end
section
variable{X:Cx}{K:aT}{mg:Sq}{nl:Nat}{P Pb Pf:Ru}{pos p cpos:Pos}{e:Ry}{es:List Ry}{φ:FM}{α:qg}{F F0:FM}
def P3(nl i:Nat)(α:qg):gi:=fun Y L=>(α Y L).bs nl fun l L=>match f8 l with
 |some ds=>if ds.length<=1000000/\i<Y.length then .nx (Y.set i U) (.lst ds::L)else .no
 |none=>.no
theorem PD(k:i∉P)(j:X.N.Nodup)(m:Loc X.env.scope x)(f:MA X K mg P es α)(g:X.N[i]?=J x)(hs:Uw (.List es cpos) (J<|.Name x pos') pos.line X.env=pure η)(o:X.fn x=G\/X.env.scope.names.lookup x=J .local):
  MS X K mg nl Pb P (i::P) (.Assign [.Name x pos'] (.List es cpos) pos) (P3 nl i α):=fun E=>(pw (X:=X.ws E) j m (Hi<|f E) g hs o).imp (by intro D Z H q;refine Vc q fun as B r cl Y L t I h=>?_;exact ⟨as,B,r,cl,Y,L,I,cW t h fun l vs μ1 n H1 c st A h1=>by
  cases b:f8 l with
  |none=>rw[b]at h1;exact h1.elim
  |some ds=>
   rw[b]at h1;dsimp only at h1;split at h1
   .rename_i hc;have e:=A.plain b;refine⟨by rw[<-e.len];exact RW hc.1 ck,fun p b=>?_⟩;have s:=bR b<|.lst vs;have d:∀a∈[p],H1 a=U:=fun a f=>by mright
    exact h1 _ _ _<|c.grow k (by rw[<-c.len];exact hc.2) s d rfl ∅ ⟨vs,aE,e.mono<|n5 s d⟩
   .exact h1.elim⟩)
theorem IP:m5 (oI X.prog X.w X.mg) (X.ws E) (fun _ _ _=>False):=fun aa Z H s e s' I h=>by
 obtain⟨_,_,_,_,_,_,_,_,_,z⟩:=h;exact z.elim
def M9(n:Str)(F0:FM)(l:List AD):Option D:=match f8 l with
 |some _=>(match F0 (U::uB l) [.obj n []]with
  |.ok .S9 [d]=>J d
  |_=>U)
 |none=>U
theorem xf{Q:VK}(I:MI K as B hs P cl Z Y L H)(A:Args K P Z #[5] l vs)(T:DO K By n=J (J<|.ref C))(h:M9 n F0 l=J d)
  (q:∀x r m,ah H m->(∀a∈x::r,H a=U)->(x::r).Nodup->vq K (aj (((x::r)::cl).flatten++as) m) m d (x::r)->Q (.ref x) m):
  ∀x f,H x=U->H f=U->f≠x->sJ K mg [0] F0 (.ref x::(vs++[])) (br (br H f<|.own x) x<|.ins C f []) (fun v m=>v=.S9/\Q (.ref x) m) (fun _ _ _=>False):=fun x f p u R=>by
 rw[Wz];unfold M9 at h;cbv
 .rename_i ds hp;have t:ah H<|br (br H f<|.own x) x<|.ins C f []:=fun b o e=>by rw[aG<|bc e p,aG<|bc e u];exact e
  have M:∀a∈cl.flatten++as,a∉[x]:=fun a g z=>by rw[IF.mp z]at g;exact I.Vq x g p
  have D:ah H<|aj [x]<|br (br H f<|.own x) x<|.ins C f []:=lH t fun a g=>by rw[IF.mp g];exact p
  have N:ah #[5]<|aj ([[x]].flatten++(cl.flatten++as))<|br (br H f<|.own x) x<|.ins C f []:=fun b o e=>by
   have F:b∉cl.flatten++as:=fun z=>by rw[bT z]at e;cases e
   rw[av F]at e;rw[av fun z=>?_]
   .exact t b o e
   .rcases BY.mp z with z|z
    .rw[show b=x by simpa using z,p]at e;cases e
    .exact F z
  refine⟨cl.flatten++as,aj [x]<|br (br H f<|.own x) x<|.ins C f [],[x],[[x]],U::uB l,[.obj n []],rfl,⟨?_,fun a g=>?_,aD _ _,fun c w a g=>?_,fun c w=>?_,fun i j c W a h1 h2 _ _=>?_,fun i d' e=>?_,rfl,rfl,fun k i c d' h1 h2 E=>?_,mK _,rfl⟩,?_⟩
  .show(uB l).length+1=_;rw[A.len];simp
  .rw[av<|M a g];cases e:H a with
   |none=>exact absurd e<|I.Vq a g
   |some o=>rw[t a o e];simp
  .rw[IF.mp w]at g;exact bT g
  .rw[IF.mp w];simp
  .have:=(rW.mp h1).1;have:=(rW.mp h2).1;simp at *;lia
  .cases i with
   |zero=>mright
   |succ i=>
    obtain⟨v,h1,h2⟩:=A.var (by assumption);exact⟨v,by simp[h1],h2.mono N⟩
  .cases k with
   |zero=>
    simp at h1 h2 E;subst h1 h2 E;exact⟨⟨x,[],rfl,rfl⟩,C,f,[],T,aE,rfl,rfl⟩
   |succ k=>contradiction
  .cbv
   .rename_i d0 hF;nofun;rw[hF];intro v s H' O S;have V:v=.S9:=S;refine⟨V,?_⟩;have hd:=O.hd;cases s with
    |nil=>mright
    |cons c r=>
     cases r with
     |cons _ _=>mright
     |nil=>
      simp at hd;cases c with
      |nil=>mright
      |cons y r=>
       simp at hd;subst hd;refine q y r H' (D.trans O.sb) (fun a g=>?_) (O.nd _<|∅) ?_
       .have:=O.fb (y::r) ∅ a g
        cases e:H a with
        |none=>rfl
        |some o=>rw[D a o e]at this;cases this
       .have:=O.ob 0 (y::r) d rfl rfl
        simpa using this
   .nofun
 .nofun
def vf(nl i:Nat)(n:Str)(F0:FM)(α:qg):gi:=fun Y L=>(α Y L).bs nl fun l L=>match M9 n F0 l with
 |some d=>if i<Y.length then .nx (Y.set i U) (d::L)else .no
 |none=>.no
theorem LI(z:i∉P)(y:X.N.Nodup)(O:Loc X.env.scope x)(u:X.N[i]?=J x)(hs:Uw (.Call (.Name n p) (e::es) [] cpos) (J<|.Name x pos') pos.line X.env=pure η)(T:X.fn x=G\/X.env.scope.names.lookup x=J .local)
  (S:DO K By n=J (J<|.ref C)) (a:X.mg n=J (.ref C)) (M:Mk X.K C g) (SK:T8 X.prog X.w X.K X.mg X.base (oI X.prog X.w X.mg) j g fd ps<|sJ K mg [0] F0) (b:cf X.K fd ps []) (s:TZ k X.A) (V:MA X K mg P (e::es) α)
  (hj:j+1<=k) (t:Gl X n) (m:(n==("__debug__":Str))=η) (h1:al e=G) (h2:es.all al=G):MS X K mg nl Pb P (i::P) (.Assign [.Name x pos'] (.Call (.Name n p) (e::es) [] cpos) pos)<|vf nl i n F0 α:=fun E=>
 (pw (X:=X.ws E) y O ⟨Cb M SK (s.mono hj) t a b .nil IP (V E).out m (bC h1)<|bH h2⟩ u hs T).imp fun D Z H h=>(by
   refine Vc h fun as B h0 cl Y L W I h=>?_;refine⟨as,B,h0,cl,Y,L,I,cW W h fun l vs μ1 R H1 c st A h1=>?_⟩;split at h1
   .rename_i d a;split at h1
    .rename_i hlt;exact xf (Q:=fun v q=>D.nx (Z.set i<|v) q) c A S a fun x r q f new F o=>h1 _ _ _<|c.grow z (by rw[<-c.len];exact hlt) f new rfl F o
    .exact h1.elim
   .exact h1.elim)
theorem Fp(u:i∉P)(t:X.N.Nodup)(z:Loc X.env.scope x)(s:X.N[i]?=J x)(hs:Uw (.Call (.Name n p) [] [] cpos) (J<|.Name x pos') pos.line X.env=pure η)(O:X.fn x=G\/X.env.scope.names.lookup x=J .local)
  (F:DO K By n=J (J<|.ref C)) (a:X.mg n=J (.ref C)) (M:Mk X.K C g) (SK:T8 X.prog X.w X.K X.mg X.base (oI X.prog X.w X.mg) j g fd ps<|sJ K mg [0] F0) (b:cf X.K fd ps []) (o:TZ k X.A)
  (S:j+1<=k) (q:Gl X n) (e:(n==("__debug__":Str))=η):MS X K mg nl Pb P (i::P) (.Assign [.Name x pos'] (.Call (.Name n p) [] [] cpos) pos)<|vf nl i n F0 bj:=fun E=>
 (pw (X:=X.ws E) t z ⟨IB M SK (o.mono S) q a b .nil IP e⟩ s hs O).imp fun D Z H h=>by
  refine Vc h fun as B R cl Y L T I h=>?_;have h1:yz ⟨K,mg,E⟩ as B R Pb (i::P) (match M9 n F0 []with|some d=>if i<Y.length then .nx (Y.set i U) (d::L)else .no|none=>.no) D:=h
  split at h1
  .rename_i d a;split at h1
   .rename_i hlt;exact xf (Q:=fun v m=>D.nx (Z.set i<|v) m) I (l:=[]) rfl F a fun x r m c new y f=>h1 _ _ _<|I.grow u (by rw[<-I.len];exact hlt) c new rfl y f
   .exact h1.elim
  .exact h1.elim
def xw(n:Str)(F0 F:FM)(α:qg):FM:=fun Y L=>(α Y L).bind fun l L=>match M9 n F0 l with
 |some d=>(match F [U] [d]with
  |.ok r _=>.ok r L
  |.er x _=>.er x L
  |.no=>.no)
 |none=>.no
theorem Ds{st:SU}(hn:DO K By n=J (J<|.ref C))(V:X.mg n=J (.ref C))(M:Mk X.K C g)(SK:T8 X.prog X.w X.K X.mg X.base (oI X.prog X.w X.mg) j g fd ps<|sJ K mg [0] F0)(b:cf X.K fd ps [])(hr:TZ k X.A)(I:MA X K mg P (e::es) α)
  (hj:j+1<=k) (hg:Gl X n) (hdb:(n==("__debug__":Str))=η) (h1:al e=G) (h2:es.all al=G)
  (D:Def X.K X.mg f st ps2 fa fd2) (G2:T8 X.prog X.w X.K X.mg X.base (oI X.prog X.w X.mg) j2 fa fd2 ps2<|sJ K mg [0] F) (hj2:j2<=k) (hx:qQ X) (hg2:Gl X f) (S:(f==("__debug__":Str))=η):
  ME X K mg P (.Call (.Name f p2) [.Call (.Name n p) (e::es) [] cpos] [] pos2) (xw n F0 F α):=fun E=>⟨fun aa s Z H Q I0 q_=>UZ q_ fun as B hs cl Y L M0 h=>by
 refine Yr<|dD I0 hg2 D.m ?_ S;have ja:=bU (X:=X.ws E) ⟨Cb (X:=X.ws E) (p:=p) (pos:=cpos) (E:=fun _ _ _=>False) M SK (hr.mono hj) hg V b .nil IP (I E).out hdb (bC h1)<|bH h2⟩ eD rfl;have hA:uM (Ew C (sJ K mg [0] F0) [] (fun _ _ _=>False)<|RH ⟨K,mg,E⟩ P α) DG Z H fun vs H1=>sJ K mg [0] F vs H1 Q<|AR E Z:=⟨as,B,hs,cl,Y,L,M0,bx h fun l vs μ1 t H1 R st A h1=>by
  split at h1
  .rename_i d hmk;refine xf (K:=K) (mg:=mg) (Q:=fun v N=>sJ K mg [0] F [v] N Q<|AR E Z) R A hn hmk fun x r N T new nd clu=>?_;have sm:ah H1<|aj (x::r) N:=lH T new;have sall:ah (aj (t.flatten++as) H1)<|aj (((x::r)::t).flatten++as) N:=n5 T new;have W:∀a∈t.flatten++as,aj (x::r) N a≠U:=fun a I=>by
    cases e:H1 a with
    |none=>exact absurd e<|R.Vq a I
    |some o=>rw[sm a o e];simp
   refine⟨t.flatten++as,aj (x::r) N,[x],[x::r],[U],[d],rfl,⟨rfl,W,aD _ _,fun c hc a I=>?_,fun c hc=>?_,fun i j c c' a h1 h2 _ _=>?_,fun i d' e=>?_,rfl,rfl,fun k i c d' h1 h2 h3=>?_,mK _,rfl⟩,?_⟩
   .rw[IF.mp hc]at I;exact bT I
   .rw[IF.mp hc];exact nd
   .have:=(rW.mp h1).1;have:=(rW.mp h2).1;simp at *;mright
   .cases i with
    |zero=>mright
    |succ i=>cases e
   .cases k with
    |zero=>
     simp at h1 h2 h3;subst h1 h2 h3;exact⟨⟨x,r,rfl,rfl⟩,by simpa using clu⟩
    |succ k=>contradiction
   .have back:∀u z H',MO K (t.flatten++as) (aj (x::r) N) [x] u z H'->MI K as B hs P t Z Y μ1 H'/\Step as t H1 t H':=fun u z H' O=>⟨R.mono<|sm.trans O.sb,aA<|sm.trans O.sb⟩;cases hF:F [U] [d]with
    |ok rr z=>
     rw[hF]at h1;intro v u H' O dv;obtain⟨I2,st2⟩:=back u z H' O;exact h1 v t H' I2 st2<|dv.mono<|kD fun a I=>OR _ I
    |er x' z=>
     rw[hF]at h1;intro y C u H' O V;exact⟨y,C,rfl,rfl,h1 y C t H' (back u z H' O).1 V⟩
    |no=>rw[hF]at h1;exact h1.elim
  .exact h1.elim⟩
 refine yw I0.ok.mod.XM D.F.kp (bP (ja.out pos2 aa s Z H _ I0 hA) fun us s1 hh=>jZ hh fun vs H1 R r q=>⟨R.U3,?_⟩) rfl rfl;exact bP (rS G2 (hr.mono hj2) D.b hx R.Ul r q) fun _ _ q=>q.ws⟩
end
noncomputable abbrev Cx.pin(X:Cx)(pl:TQ):Cx:={X with pn:=X.pn++pl}
section
variable{X:Cx}{Z:St}
theorem we{p:SA×Obj}:p∈(a++b)++[]↔p∈a++b:=by rw[Wz]
theorem Cx.Ok.pin(ok:X.Ok):(X.pin pl).Ok:=⟨ok.mod,ok.kind,ok.glob,ok.blt,ok.above,ok.inj,ok.has,ok.sY,ok.hd,ok.frames,ok.xN,ok.x9,ok.bs,ok.Wq,ok.Zo,ok.ZR,ok.WE,ok.XJ⟩
theorem Cx.Ok.acG(ok:(X.pin pl).Ok):X.Ok:=⟨ok.mod,ok.kind,ok.glob,ok.blt,ok.above,ok.inj,ok.has,ok.sY,ok.hd,ok.frames,ok.xN,ok.x9,ok.bs,ok.Wq,ok.Zo,ok.ZR,ok.WE,ok.XJ⟩
theorem Inv.W5(I:Inv X pl Z H s):Inv (X.pin pl) [] Z H s:=⟨I.ok.pin,I.os,I.bare,I.base,I.loc,I.cell,I.free,I.WZ,fun p a=>I.pin p<|we.mp a,I.Su,I.len,I.tk⟩
theorem Inv.gz(I:Inv (X.pin pl) [] Z H s):Inv X pl Z H s:=⟨I.ok.acG,I.os,I.bare,I.base,I.loc,I.cell,I.free,I.WZ,fun p a=>I.pin p<|we.mpr a,I.Su,I.len,I.tk⟩
theorem Nw.gz(n:Nw (X.pin pl) [] b):Nw X pl b:=⟨n.base,n.loc,n.fs,n.cell,fun p a=>n.pin p<|we.mpr a⟩
theorem ExcAt.gz(e:ExcAt (X.pin pl) [] H h x C fl):ExcAt X pl H h x C fl:=by
 refine XX e.ob fun g vs h1 h2 i f j d=>?_;exact⟨e.nx.gz,e.hx,g,vs,h1,h2,i,f,j,fun v z=>let⟨T,oT,ts,a,b,c⟩:=d v z;⟨T,oT,ts,a,b.gz,c⟩⟩
theorem ExcAt.ws{X:Cx}{aa:List<|SA×Obj}{H:Hp}{E':UB}{h:Heap}{x C:SA}{fl:Option nE}(e:ExcAt X aa H h x C fl):ExcAt (X.Td E') aa H h x C fl:=by
 refine XX e.ob fun oe vs h1 h2 h3 h4 h5 h6=>?_;have nw:∀{b:SA},Nw X aa b->Nw (X.Td E') aa b:=fun n=>⟨n.base,n.loc,n.fs,n.cell,n.pin⟩;exact⟨nw e.nx,e.hx,oe,vs,h1,h2,h3,h4,h5,fun v z=>let⟨T,oT,ts,a,b,c⟩:=h6 v z;⟨T,oT,ts,a,nw b,c⟩⟩
end
section
variable{X:Cx}{K:aT}{mg:Sq}{nl:Nat}{P Pb P':Ru}{tp hpos tpos rpos:Pos}{T:Str}{CT:SA}{mt:Str->Bool}{b₀:SU}{bs:List SU}{φ:FM}{ψ:FS}{e:Ry}
def TM(nl:Nat)(P:Ru)(ψ:FS)(Y:Sd)(L:Rx):RS:=match ψ (fill P L Y)with
 |.ok (.rt d)=>if Sj d=G then .rt d (lst nl L)else .no
 |_=>.no
theorem Ih{Z:St}(l:∀pl,ME (X.pin pl) K mg P e φ)(I:Inv X aa Z H s)(M:MI K as B hs P cl Z Y L H)
  (i:∀d a v u b H' s',φ Y L=.ok d a->Inv X aa Z H' s'->MI K as B hs P b Z Y a H'->aP v u->bQ K (aj (b.flatten++as) H') d v->Q u s')
  (h:∀x a y C fl b H' s',φ Y L=.er x a->mg x=J (.ref C)->Inv X aa Z H' s'->MI K as B hs P b Z Y a H'->ExcAt X aa H' s'.heap y C fl->E' (.ref y) s') (g:φ Y L≠.no):SN #[0] X.A (eval e X.env) Q E' s:=by
 let E2:RQ:=fun y C f H'=>f=Z/\∃x a b,φ Y L=.er x a/\mg x=J (.ref C)/\MI K as B hs P b Z Y a H'
 have t:tM ⟨K,mg,E2⟩ P φ Z H fun v H'=>∃d a b,φ Y L=.ok d a/\MI K as B hs P b Z Y a H'/\bQ K (aj (b.flatten++as) H') d v:=⟨as,B,hs,cl,Y,L,M,by
  cases hr:φ Y L with
  |ok d a=>exact fun v b H' c _ k=>⟨d,a,b,rfl,c,k⟩
  |er x a=>exact fun y C b H' c j=>⟨rfl,x,a,b,hr,j,c⟩
  |no=>exact g hr⟩
 refine UE ((l aa E2).out [] s Z H _ (I.W5.Td _) t) (fun u s' k=>Tw k fun v H' c r k=>WM k fun d a b h1 h2 h3=>i d a v u b H' s' h1 c.Ul.gz h2 r h3) fun z s' k=>gU k fun f H' y C fl e1 c ea k=>WM k.2 fun x a b h1 h2 h3=>?_;have e2:=k.1;subst e1 e2;exact h x a y C fl b H' s' h1 h2 c.gz h3 ea.gz
theorem C3{Z a:St}(l:hs.length=nl)(i:JB ((X.hand y).Xe) (b₀::bs)<|sD ⟨K,mg,fun _ _ _=>False⟩ [] [] [] ψ)(I:Inv X aa a H' s)
  (M:MI K as B hs P cl Z Y L H) (t:DI K as H' [] [] a δ2 H') (m:ah H H')
  (h:yz ⟨K,mg,E⟩ as B hs Pb P' (match ψ δ2 with|.ok (.rt d)=>if Sj d=G then .rt d (lst nl L)else .no|_=>.no) D'):
  SN #[0] (X.A.mark<|J y) (execs (b₀::bs) X.env) (fun f j=>∃u v a H',f=.ret u/\Inv X aa a H' j/\aP v u/\D'.rt v H') (fun _ _=>False) s:=by
 have b:c8 ⟨K,mg,fun _ _ _=>False⟩ as H' [] [] (ψ δ2) {nx:=fun _ _=>False,rt:=D'.rt}:=by
  cbv
  .rename_i d hd;rw[hd];intro v g j p;cbv
   .rename_i hn;have k:=M.mono<|m.trans j;exact h v _ g (l▸k.mo)<|(k.flat hn p).mono<|l▸rM _ _ _ _
   .mleft
  .mleft
 have e:=i.out aa _ a H' {nx:=fun _ _=>False,rt:=D'.rt} ((I.hand y).Td _) ⟨as,H',[],δ2,t,b⟩;refine UE e (fun f x q=>?_) fun _ _ z=>z;have q2:=q.Ul.kn I.ok;cases f with
 |ret u=>refine WM q2 fun v c g o r n=>?_;exact⟨u,v,c,g,rfl,o,r,n⟩
 |next=>obtain⟨_,_,_,z⟩:=q2;exact z.elim
 |brk=>obtain⟨_,_,_,z⟩:=q2;exact z.elim
 |cont=>obtain⟨_,_,_,z⟩:=q2;exact z.elim
def sO(nl:Nat)(P:Ru)(φ:FM)(mt:Str->Bool)(ψ:FS):gi:=fun Y L=>match φ Y L with
 |.ok d L=>.rt d<|lst nl L
 |.er x L=>if mt x=G then TM nl P ψ Y L else .no
 |.no=>.no
theorem KI(t:∀pl,ME (X.pin pl) K mg P e φ)(A:mg=X.mg)(o:X.mg T=J (.ref CT))(m:LL X.K X.mg mt CT)(hs:∀y,JB ((X.hand y).Xe) (b₀::bs)<|sD ⟨K,mg,fun _ _ _=>False⟩ [] [] [] ψ)
  (j:X.stack=X.env::X.outer) (g:X.env.frame=J X.env.locals) (i:Gl X T) (k:(T==("__debug__":Str))=η):
  MS X K mg nl Pb P P' (.Try [.Return (J e) rpos] [.ExceptHandler (J<|.Name T tp) U (b₀::bs) hpos] [] [] tpos) (sO nl P φ mt ψ):=fun E=>by
 refine⟨fun aa s Z H D' I q=>Vc q fun as B h0 cl Y L hl M h=>?_⟩;unfold sO at h;refine wpAny_Try_except<|wpAny_execs_cons<|wpAny_Return_some<|Ih (X:=X) t I.Ul M (fun d l v u b H' s' e1 c a r q=>?_) (fun x l y C fl b H' s' e1 w c a n=>?_) ?_
 .rw[e1]at h;exact⟨v,Z,H',c.Td _,r,h v _ H' (hl▸a.mo)<|q.mono<|hl▸rM _ _ _ _⟩
 .rw[e1]at h;dsimp only at h;cbv
  .rename_i hy;refine Cz (X:=X) j g o (m x C hy<|by mright).2 i k c n fun h' t' p D=>?_;exact UE (C3 hl (hs<|.ref y) p a a.vZ (ah.refl _) h) (by rintro f s3⟨u,v,σ',H',e3,I3,r,hD⟩;exact by subst e3;exact⟨v,σ',H',I3.Td _,r,hD⟩) fun _ _ z=>z
  .mleft
 .intro e1;rw[e1]at h;exact h
def yW(nl:Nat)(P:Ru)(φ:FM)(mt:Str->Bool)(ψ:FS):gi:=fun Y L=>match φ Y L with
 |.ok _ L=>.nx Y L
 |.er x L=>if mt x=G then TM nl P ψ Y L else .no
 |.no=>.no
theorem JC(t:∀pl,ME (X.pin pl) K mg P e φ)(A:mg=X.mg)(p:X.mg T=J (.ref CT))(n:LL X.K X.mg mt CT)(hs:∀y,JB ((X.hand y).Xe) (b₀::bs)<|sD ⟨K,mg,fun _ _ _=>False⟩ [] [] [] ψ)
  (b:Uw e U rpos.line X.env=pure η) (k:X.stack=X.env::X.outer) (i:X.env.frame=J X.env.locals) (j:Gl X T) (l:(T==("__debug__":Str))=η):
  MS X K mg nl Pb P P (.Try [.Expr e rpos] [.ExceptHandler (J<|.Name T tp) U (b₀::bs) hpos] [] [] tpos) (yW nl P φ mt ψ):=fun E=>by
 refine⟨fun aa s Z H D' I q=>Vc q fun as B h0 cl Y L hl M h=>?_⟩;unfold yW at h;refine wpAny_Try_except<|wpAny_execs_cons<|wpAny_Expr_any (Ih (X:=X) t I.Ul M (fun d m v u c H' s' e1 g a r D=>?_) (fun x m y C fl c H' s' e1 w g a o=>?_) ?_) I.quiet b
 .rw[e1]at h;dsimp only;refine h8 ?_;refine h8 ?_;exact⟨Z,H',g.Td _,h _ Z H' a⟩
 .rw[e1]at h;dsimp only at h;cbv
  .rename_i hy;refine Cz (X:=X) k i p (n x C hy<|by mright).2 j l g o fun h' t' q F=>?_;exact UE (C3 hl (hs<|.ref y) q a a.vZ (ah.refl _) h) (by rintro f s3⟨u,v,σ',H',e3,I3,r,hD⟩;exact by subst e3;exact⟨v,σ',H',I3.Td _,r,hD⟩) fun _ _ z=>z
  .mleft
 .intro e1;rw[e1]at h;exact h
section
variable{X:Cx}{K:aT}{mg:Sq}{nl:Nat}{P Pb P':Ru}{tp hpos tpos rpos:Pos}{T:Str}{CT:SA}{mt:Str->Bool}{b₀:SU}{bs:List SU}{φ:FM}{ψ:FS}{e:Ry}
def uj(nl:Nat)(P:Ru)(φ:FM)(mt:Str->Bool)(n:Nat)(ψ:FS):gi:=fun Y L=>match φ Y L with
 |.ok _ L=>.nx Y L
 |.er x L=>if mt x=G then(match ψ ((fill P L Y).set n<|J<|.jT x)with
  |.ok (.rt d)=>if Sj d=G then .rt d (lst nl L)else .no
  |_=>.no)else .no
 |.no=>.no
end
section
variable{X:Cx}{K:aT}{mg:Sq}{nl:Nat}{P Pb P':Ru}{tp hpos tpos rpos:Pos}{T:Str}{CT:SA}{mt:Str->Bool}{b₀:SU}{bs:List SU}{φ:FM}{ψ:FS}{e:Ry}
theorem ajd{n:Nat}{nm:Str}(he:∀pl,ME (X.pin pl) K mg P e φ)(hM:mg=X.mg)(hK:X.K=K)(hm:X.mg T=J (.ref CT))(hmt:LL X.K X.mg mt CT)(hs:∀y,JB ((X.hand y).Xe) (b₀::bs)<|sD ⟨K,mg,fun _ _ _=>False⟩ [] [] [] ψ)
  (hsw:swapsWith e U rpos.line X.env=pure η) (hst:X.stack=X.env::X.outer) (hfr:X.env.frame=J X.env.locals) (hgT:Gl X T) (hdT:(T==("__debug__":Str))=η) (hN:X.N.Nodup) (hin:X.N[n]?=J nm) (hln:X.env.scope.names.lookup nm=J .local):
  MS X K mg nl Pb P P (.Try [.Expr e rpos] [.ExceptHandler (J<|.Name T tp) (J nm) (b₀::bs) hpos] [] [] tpos) (uj nl P φ mt n ψ):=fun E=>by
 subst hK;refine⟨fun aa s Z H D' I hh0=>?_⟩;refine Vc hh0 fun as B h0 cl Y L hl M h=>?_;unfold uj at h;refine wpAny_Try_except<|wpAny_execs_cons<|wpAny_Expr_any (Ih (X:=X) he I.Ul M (fun d μ' v u cl' H' s' e1 I1 M1q r dv=>?_) (fun x μ' y C fl cl' H' s' e1 hC I1 M1q ea=>?_) ?_) I.quiet hsw
 .rw[e1]at h;dsimp only;refine wpAny_execs_nil ?_;dsimp only;refine wpAny_execs_nil ?_;exact⟨Z,H',I1.Td _,h _ Z H' M1q⟩
 .rw[e1]at h;dsimp only at h;by_cases hy:mt x=G
  case neg=>rw[SM hy]at h;mleft
  rw[SI hy]at h;obtain⟨hns,hex1⟩:=hmt x C hy (by rw[<-hM];exact hC);refine aiW (X:=X.ws E) (D:=D') hst hfr hm hex1 hgT hdT hN hin hln (I1.Td _) ea.ws fun s2 I2=>?_;have suq:ah H'<|br H' y<|ls y C:=bR ea.hx _;have M2q:=M1q.mono suq;have dIq:=(M2q.vZ).set (W:=⟨X.K,mg,fun _ _ _=>False⟩) (i:=n) (d:=.jT x) (v:=.ref y) ∅ ⟨y,C,rfl,hns,by
   rw[List.nil_append,av fun q=>M1q.Vq y (OR _ q) ea.hx];unfold br;rw[SI rfl]⟩
  exact wpAny_mono (C3 (X:=X) (P':=P) hl (hs<|.ref y) I2.Ul M1q dIq suq h) (fun f s3⟨u,v,σ',H',Ua,I3,r,hD⟩=>⟨u,v,σ',H',Ua,I3.Td _,r,hD⟩) fun _ _ z=>z
 .intro e1;rw[e1]at h;exact h
end
end
section
variable{st:SU}
def GY:FS:=fun _=>.no
section
variable{st:SU}
theorem aiy:JS X st<|sD W Ob O O' GY:=⟨fun aa s Z H D I q=>let⟨_,_,_,_,_,h⟩:=q;h.elim⟩
end
end
end L2
namespace L2
open PySem PySem.Spec PyProof.Rows
section
variable{K:aT}{as:Sf}{B B':Hp}{hs:Sf}{P:Ru}{cl:List (Sf)}{Z:St}{Y:Sd}{L:Rx}{H:Hp}
theorem MI.base(I:MI K as B' hs P cl Z Y L H)(s:ah B B')(ex:∀a∈as,B a≠U):MI K as B hs P cl Z Y L H:=⟨I.len,ex,s.trans I.sb,fun c hc a ha=>s.free<|I.fb c hc a ha,I.nd,I.dj,I.var,I.lp,I.lm,I.ob,I.hl,I.hd⟩
theorem MO.base(I:MO K as B' hs cl L H)(s:ah B B'):MO K as B hs cl L H:=⟨s.trans I.sb,fun c hc a ha=>s.free<|I.fb c hc a ha,I.nd,I.dj,I.lm,I.ob,I.hd⟩
theorem MI.rebase(I:MI K as B hs P cl Z Y L H):MI K as (aj cl.flatten H) hs P cl Z Y L H:=⟨I.len,fun a ha=>by
 rw[av fun z=>?_]
 .exact I.Vq a (OR _ ha)
 .obtain⟨k,c,h1,h2⟩:=cH.mp z;exact I.ex a ha (I.fb c (Do h1) a h2),aD _ _,fun c hc a ha=>bT (dS.mpr ⟨c,hc,ha⟩),I.nd,I.dj,I.var,I.lp,I.lm,I.ob,I.hl,I.hd⟩
theorem MI.wk(I:MI K as B hs P cl Z Y L H):ah B<|aj cl.flatten H:=lH I.sb fun a ha=>by
 obtain⟨c,h1,h2⟩:=dS.mp ha;exact I.fb c h1 a h2
theorem yz.base{W:Ct}{Pb P':Ru}{r:RS}{D':Ends}(h:yz W as B hs Pb P' r D')(s:ah B B')(ex:∀a∈as,B a≠U):yz W as B' hs Pb P' r D':=by
 cases r with
 |nx Y L=>exact fun cl Z H I=>h cl Z H<|I.base s ex
 |bk Y L=>exact fun cl Z H I=>h cl Z H<|I.base s ex
 |ct Y L=>exact fun cl Z H I=>h cl Z H<|I.base s ex
 |rt d L=>exact fun v cl H O=>h v cl H<|O.base s
 |er x L=>exact fun y C Z cl H O=>h y C Z cl H<|O.base s
 |no=>exact h
end
def alU(Jq:It)(g:TG)(tb:TS)(D:Ends)(Z:St)(H1:Hp):Prop:=∃W:Nat->Nat->St->Hp->Prop,(∃m,W 0 m Z H1)/\∀i m Z H,W i m Z H ->
 (Jq.stop i H/\D.nx Z H)\/(Jq.go i H/\∃N:St->Hp->Prop,(∀σ' H',N σ' H'->∃m',m'<m/\W (i+1) m' σ' H')/\∀x H',Jq.gF i H x H'->g x Z H' fun σ2 H2=>tb {D with nx:=N,ct:=N,bk:=D.nx} σ2 H2)
noncomputable def PF(i:Nat)(ψ:gi):Rx->gi
 |[],Y,L=>.nx Y L
 |x::r,Y,L=>match ψ (Y.set i<|J x) L with
  |.nx Y L=>PF i ψ r Y L
  |.ct Y L=>PF i ψ r Y L
  |.bk Y L=>.nx Y L
  |r=>r
section
variable{X:Cx}{K:aT}{mg:Sq}{nl:Nat}{P Pb:Ru}{pos pos':Pos}{iter:Ry}{body:List SU}{ψ:gi}{i:Nat}{x:Str}{E:RQ}
def qr{W:Ct}{as:Sf}{B:Hp}{hs:Sf}{cl:List<|Sf}{Z:St}{Y:Sd}{L:Rx}{H:Hp}{Jq:It}{xs:Rx}{D':Ends}(hP:i∉P)(hl:hs.length=nl)(I:MI W.K as B hs P cl Z Y L H)(SK:eM W.K (cl.flatten++as) (aj [] H) Jq xs)(h:yz W as B hs Pb P (PF i ψ xs Y L) D'):
  alU Jq (ml i) (sM W nl P P P ψ) D' Z H:=by
 have I2:=I.rebase;have h2:=h.base I.wk I.ex;generalize hB:aj cl.flatten H=B' at I2 h2;have sB:∀{H3:Hp},ah B' H3->ah (aj (cl.flatten++as)<|aj [] H) H3:=fun{H3}s b o e=>by
  have hb:b∉cl.flatten++as:=fun z=>by rw[bT z]at e;cases e
  rw[av hb,Ge]at e;refine s b o ?_;rw[<-hB,av fun z=>hb<|Le _ z];exact e
 refine⟨fun k m Z H=>m=xs.length-k/\k<=xs.length/\∃cl Y L,MI W.K as B' hs P cl Z Y L H/\yz W as B' hs Pb P (PF i ψ (xs.drop k) Y L) D',⟨xs.length,∅,Uh _,cl,Y,L,I2,by simpa using h2⟩,?_⟩;rintro k m σ3 H3 ⟨rfl,hk,cl3,δ3,μ3,I3,h3⟩;by_cases hlt:k<xs.length
 .refine .inr ⟨SK.go k H3 (sB I3.sb) hlt,fun σ' H'=>∃cl Y L,MI W.K as B' hs P cl σ' Y L H'/\yz W as B' hs Pb P (PF i ψ (xs.drop<|k+1) Y L) D',fun σ' H'⟨cl',δ',μ',I',h'⟩=>⟨xs.length-(k+1),(by omega),rfl,hlt,cl',δ',μ',I',h'⟩,fun v H4 y=>?_⟩;obtain⟨s4,d,hd,dv⟩:=SK.yl k H3 v H4 (cl3.flatten++as) (sB I3.sb) I3.Vq (fun a ha=>by
   rcases BY.mp ha with z|z
   .obtain⟨c,h1,h2⟩:=dS.mp z
    have:=I3.fb c h1 a h2
    rw[<-hB]at this;by_cases hc:a∈cl.flatten
    .exact .inl (Le _ hc)
    .rw[av hc]at this;exact .inr (by rw[Ge];exact this)
   .exact .inl (OR _ z)) hlt y
  have ed:xs.drop k=d::xs.drop (k+1):=by
   rw[g5 hlt];rw[WT hlt]at hd;cases hd;rfl
  rw[ed]at h3;have I4:=(I3.mono s4).set hP dv;refine⟨as,B',hs,cl3,_,μ3,hl,I4,?_⟩;unfold PF at h3;cases hr:ψ (δ3.set i<|J d) μ3 with
  |nx δ2 μ2=>rw[hr]at h3;exact fun cl' σ' H' I'=>⟨cl',δ2,μ2,I',h3⟩
  |ct δ2 μ2=>rw[hr]at h3;exact fun cl' σ' H' I'=>⟨cl',δ2,μ2,I',h3⟩
  |bk δ2 μ2=>rw[hr]at h3;exact h3
  |rt d2 μ2=>rw[hr]at h3;exact h3
  |er x2 μ2=>rw[hr]at h3;exact h3
  |no=>rw[hr]at h3;exact h3
 .have e:k=xs.length:=⊥
  subst e;rw[List.drop_length]at h3;exact .inl ⟨SK.stop H3<|sB I3.sb,h3 cl3 σ3 H3 I3⟩
def CC(nl i:Nat)(φ:FM)(ψ:gi):gi:=fun Y L=>(φ Y L).bs nl fun d L=>match Aw d with
 |.ok xs=>PF i ψ xs Y L
 |_=>.no
theorem ai6{φ:FM}(hP:i∉P)(hst:X.stack=X.env::X.outer)(hf:X.env.frame=J X.env.locals)(he:ME X K mg P iter φ)(hb:MB X K mg nl P P P body ψ)(hN:X.N.Nodup)(hi:X.N[i]?=J x)(hx:Loc X.env.scope x)(hfn:X.fn x=G\/X.env.scope.names.lookup x=J .local)(hc:X.calm=G)
  (hs:∀y,foldedSetIterable iter X.env y=pure y) (hK:X.K=K):MS X K mg nl Pb P P (.For (.Name x pos') iter body [] pos)<|CC nl i φ ψ:=fun E=>
 (QE (X:=X.ws E) (Q7 hst hf) (OQ K (he E) hK) (Jy hN hi hx hfn) (hb E) hc hs).imp fun D Z H⟨as,B,h0,cl,Y,L,hl,I,h⟩=>by
  refine⟨as,B,h0,cl,Y,L,I,cW hl h fun d v μ1 cl1 H1 I1 st dv h1=>?_⟩;cases d with
  |lst ds=>
   obtain⟨a,xs,rfl,q1,q2⟩:=dv;exact .inl ⟨⟨xs,(aD _ _).seq q1⟩,qr hP hl I1 (DC (by rw[Ge];exact q1)<|by rw[Ge];exact q2) h1⟩
  |tup ds=>
   obtain⟨a,xs,rfl,q1,q2⟩:=dv;exact .inr ⟨⟨xs,(aD _ _).Wt q1⟩,qr hP hl I1 (Dj (by rw[Ge];exact q1)<|by rw[Ge];exact q2) h1⟩
  |str z=>cases dv;exact qr hP hl I1 (AV z) h1
  |_=>exact h1.elim
def kE(P:Ru)(i:Nat)(ι:FA)(ψ:gi):gi:=fun Y L=>match ι Y with
 |.ok xs=>PF i ψ xs Y L
 |_=>.no
theorem ai4{ι:FA}(hP:i∉P)(hst:X.stack=X.env::X.outer)(hf:X.env.frame=J X.env.locals)(he:∀E',JI (X.Td E') (.Name x pos') iter<|iD ⟨K,mg,E0⟩ [] ι)(hb:MB X K mg nl P P P body ψ)(hN:X.N.Nodup)(hi:X.N[i]?=J x)(hx:Loc X.env.scope x)(hfn:X.fn x=G\/X.env.scope.names.lookup x=J .local)(hc:X.calm=G)
  (hs:∀y,foldedSetIterable iter X.env y=pure y):MS X K mg nl Pb P P (.For (.Name x pos') iter body [] pos)<|kE P i ι ψ:=fun E=>
 (QE (X:=X.ws E) (Q7 hst hf) (he _) (Jy hN hi hx hfn) (hb E) hc hs).imp fun D Z H⟨as,B,h0,cl,Y,L,hl,I,h⟩=>by
  unfold kE at h;refine⟨cl.flatten++as,H,[],Y,I.di,?_⟩;cases hr:ι Y with
  |ok xs=>
   rw[hr]at h;exact fun Jq H' s SK=>qr hP hl (I.mono s) SK h
  |er x=>rw[hr]at h;mleft
  |no=>rw[hr]at h;mleft
end
end L2
namespace L2
open PySem PySem.Spec PyProof.Rows
noncomputable def Ub(a:Scope)(x:Str):Bool:=match a.names.lookup x with
 |some .local=>G
 |some .cell=>G
 |some .free=>G
 |_=>η
def OK(a:Scope)(x:Str):Bool:=Ub a x&&!(x==("__debug__":Str))&&!(x==("__classdict__":Str))
theorem tV(h:OK sc x=G):m6 sc x/\TN x/\#[2]=η:=by
 delta OK at h;rw[oR,oR,Yl,Yl]at h;exact⟨(fun h=>by
   delta Ub at h;cbv
   .rename_i e;exact .inl e
   .rename_i e;exact .inr (.inl e)
   .rename_i e;exact .inr (.inr e)
   .nofun) h.1.1,h.1.2,h.2⟩
abbrev Fm:=Scope->SH->Ru->Ry->Option (List Ry×(List FE->FE))
abbrev Fq:=Scope->SH->Ru->Ry->Option (List Ry×(List FE->FT))
abbrev Fi:=Scope->SH->Ru->Ry->Ry->Option (List Ry×(List FE->FA))
abbrev Fs:=Scope->SH->Ru->SU->Option (List Ry×(List FE->FS))
structure Tb where
 x:List Fm
 n:List Fm
 q:List Fq
 i:List Fi
 s:List Fs
 c:List<|Str×D
 d:SH
 m:SH
 k:List<|Pos×SH
 w:Nat
def Js(X:Cx)(W:Wd)(O:Ru):List Ry->List FE->Prop
 |[],[]=>True
 |e::es,φ::φs=>JE X e (tD W O φ)/\Js X W O es φs
 |_,_=>False
def dr(X:Cx)(W:Wd)(f:Fm):Prop:=∀O e es b a,f X.env.scope X.N O e=J (es,b)->Js X W O es a->JE X e (tD W O<|b a)
def KM(X:Cx)(W:Wd)(f:Fm):Prop:=∀O e es b a,f X.env.scope X.N O e=J (es,b)->Js X W O es a->JE X e (tN W O<|b a)
def Sn(X:Cx)(W:Wd)(f:Fq):Prop:=∀O e es b a,f X.env.scope X.N O e=J (es,b)->Js X W O es a->JT X e (lq W O<|b a)
def PZ(X:Cx)(W:Wd)(f:Fi):Prop:=∀O g e es b a,f X.env.scope X.N O g e=J (es,b)->Js X W O es a->JI X g e (iD W O<|b a)
def IK(X:Cx)(W:Wd)(f:Fs):Prop:=∀Ob O s es b a,f X.env.scope X.N O s=J (es,b)->Js X W O es a->JS X s (sD W Ob O O<|b a)
def yy(X:Cx)(W:Wd)(x:Str)(d:D):Prop:=∀(O:Ru)(p:Pos),Gl X x->JE X (.Name x p) (tD W O<|vC d)
structure Vu(X:Cx)(W:Wd)(t:Tb):Prop where
 x:∀f∈t.x,dr X W f
 n:∀f∈t.n,KM X W f
 q:∀f∈t.q,Sn X W f
 i:∀f∈t.i,PZ X W f
 s:∀f∈t.s,IK X W f
 c:∀q∈t.c,yy X W q.1 q.2
noncomputable def lk{β:Type}(x:Str):List (Str×β)->Option β
 |[]=>U
 |q::r=>if q.1=x then J q.2 else lk x r
theorem As:∀{l:List<|Str×β}{b:β},lk x l=J b->(x,b)∈l:=@TB _ _ (@fun _ h=>by nofun) fun q r i_=>@fun b h=>by
  unfold lk at h;cbv
  .grind
  .exact ie _ (i_ h)
noncomputable def Bj(f:Ry->Option FE):List Ry->Option (List FE)
 |[]=>J []
 |e::es=>(f e).bind fun φ=>(Bj f es).map (φ::·)
noncomputable def fst{α β:Type}(l:List α)(f:α->Option β):Option β:=match l with
 |[]=>U
 |a::r=>match f a with
  |some b=>J b
  |none=>fst r f
theorem fE{α β:Type}{f:α->Option β}{b:β}:∀{l:List α},fst l f=J b->∃a∈l,f a=J b:=@TB _ _ (@fun h=>by nofun) fun a r i_=>@fun h=>by
  unfold fst at h;cbv
  .mright
  .obtain⟨c,h1,h2⟩:=i_ h;grind
noncomputable def Mm(N:SH)(x:Str):Option Nat:=N.findIdx? fun y=>decide (y=x)
theorem gc(h:Mm N x=J i):N[i]?=J x:=by
 obtain⟨a,b,_⟩:=Kg.mp h;mright
noncomputable def xJ:Ry->Bool
 |.Set ..=>G
 |_=>η
theorem wG(h:xJ e=η)(env:Env):∀x,pg e env x=pure x:=by
 cases e<;>first|exact fun _=>rfl|nofun
def VS(t:Tb)(b:Scope)(N:SH)(O:Ru)(a:Ry->Option FE)(g it:Ry):Option FA:=match fst t.i fun f=>f b N O g it with
 |some q=>(Bj a q.1).map q.2
 |none=>(a it).map EX
noncomputable def Pg(scope a:Scope):Scope:={scope with names:=scope.names.map fun(n,k)=>if(k==.free&&a.kind==.function&&a.names.lookup n==J .cell)then(n,.cell)else(n,k)}
noncomputable def ug:Ry->Option Str
 |.Name x _=>J x
 |_=>U
theorem AY(h:ug e=J x):∃p,e=.Name x p:=by
 delta ug at h;cbv
 .mright
 .nofun
def rB:SU->Option (Str×Ry×Ry)
 |.Assign l e _=>match l with|[a]=>(ug a).map fun x=>(x,a,e)|_=>U
 |_=>U
theorem IH(h:rB s=J (x,a,e)):∃p q,a=.Name x p/\s=.Assign [a] e q:=by
 delta rB at h;cbv
 .cbv
  .obtain⟨x,hx,h⟩:=dO.mp h;nofun;obtain⟨p,rfl⟩:=AY hx;exact⟨_,_,rfl,rfl⟩
  .nofun
 .nofun
noncomputable def ke:Ry->Option Str
 |.Constant v _ _=>match v with|.str x=>J x|_=>U
 |_=>U
theorem wL(h:ke e=J x):∃k p,e=.Constant (.str x) k p:=by
 delta ke at h;cbv
 .cbv<;>nofun;exact⟨_,_,rfl⟩
 .nofun
noncomputable def wg:Ry->Option Int
 |.Constant v _ _=>match v with|.int x=>J x|_=>U
 |_=>U
theorem Agr(h:wg e=J x):∃k p,e=.Constant (.int x) k p:=by
 delta wg at h;cbv
 .cbv<;>nofun;exact⟨_,_,rfl⟩
 .nofun
noncomputable def wh:Ry->Option D
 |.Constant v _ _=>match v with|.none=>J .S9|.bool b=>J<|.bl b|.str x=>J<|.str x|.int i=>J<|.int i|_=>U
 |_=>U
theorem Yn(h:wh e=J d):JE X e<|tD W O<|vC d:=by
 delta wh at h;cbv
 .cbv<;>nofun
  .exact NO
  .exact HB
  .exact Mt
  .exact MR
 .nofun
noncomputable def Qp(a:Scope)(fn:Str->Bool)(x:Str):Bool:=decide (a.names.lookup x=J .local)||(decide (a.names.lookup x=J .cell)&&fn x)
theorem pk{X:Cx}(h:Qp X.env.scope X.fn x=G):Loc X.env.scope x/\#[1]:=by
 delta Qp at h;rw[Km,oR,decide_eq_true_eq,decide_eq_true_eq]at h;rcases h with h|h
 .exact⟨.inl h,.inr h⟩
 .exact⟨.inr h.1,.inl h.2⟩
def Hs(N:SH)(O:Ru)(a:Scope)(fn:Str->Bool)(e:Ry):Option Nat:=(ug e).bind fun x=>(Mm N x).bind fun i=>if i∉O/\Qp a fn x=G then J i else U
def DQ(N:SH)(O:Ru)(a:Scope)(fn:Str->Bool):List Ry->Option (Ru)
 |[]=>J []
 |e::r=>(Hs N O a fn e).bind fun i=>(DQ N O a fn r).map (i::·)
def Aj(N:SH)(O:Ru)(a:Scope)(fn:Str->Bool):Ry->Option VA
 |.Name x p=>(Hs N O a fn<|.Name x p).map .one
 |.Tuple es _ _=>(DQ N O a fn es).map .tup
 |_=>U
def Yb:Ry->SH
 |.Name x _=>[x]
 |.Tuple es _ _=>es.filterMap ug
 |_=>[]
def V3(t:Tb)(b:Scope)(N:SH)(O:Ru)(f:Ry->Option FE)(e:Scope->SH->(Ry->Option FE)×(Ry->Option FT))(elt tg it:Ry)(ifs:List Ry)(scope:Scope)(pos:Pos):Option FE:=
 let a:=((t.k.find? fun q=>decide (q.1=pos)).map (·.2)).getD (Yb tg)
  let ix:=a.map fun y=>if(Yb tg).contains y=G then U else Mm N y
  if zr b N a ix scope=G/\a.Nodup/\xJ it=η/\(ix.all fun o=>match o with|some k=>decide (k∉O)|none=>G)=G then
   (Aj a [] (Pg scope b) (fun _=>η) tg).bind fun d=>(VS t b N O f tg it).bind fun ι=>(match ifs with
    |[]=>J xa
    |[c]=>(e (Pg scope b) a).2 c
    |_=>U).bind fun τ=>((e (Pg scope b) a).1 elt).map fun ε=>jX ix ι d τ ε
  else U
def Wy(t:Tb)(d:Scope)(N:SH)(O:Ru)(g:Ry->Option FE)(j:Ry->Option FT)(h:Scope->SH->(Ry->Option FE)×(Ry->Option FT))(e:Ry):Option FE:=match wh e with
 |some d=>J<|vC d
 |none=>match e with
  |.Name x _=>match Mm N x with
   |some i=>if i∉O/\OK d x=G then J (ag i)else U
   |none=>if d.names.lookup x=J .globalImplicit then(lk x t.c).map vC else U
  |.ListComp elt c scope pos=>match c with|[⟨tg,it,ifs,0⟩]=>V3 t d N O g h elt tg it ifs scope pos|_=>U
  |.IfExp c a b _=>(j c).bind fun τ=>(g a).bind fun φ=>(g b).map fun ψ=>MU τ φ ψ
  |_=>(fst t.x fun f=>f d N O e).bind fun q=>(Bj g q.1).map q.2
def P8:Ry->Bool
 |.Name ..=>G
 |.Call ..=>G
 |.Subscript ..=>G
 |.Attribute ..=>G
 |_=>η
theorem B6(h:P8 e=G)(env:Env):∀a,isTrue e env a=(do let v <-a;jF e.pos;holding [v] (truthy v)):=by
 cases e<;>first|exact fun _=>rfl|nofun
noncomputable def RU(f:Ry->Option FT)(q:FT->FT->FT):List Ry->Option FT
 |[]=>U
 |[a]=>f a
 |a::b::r=>(f a).bind fun τ=>(RU f q<|b::r).map<|q τ
def XV(t:Tb)(d:Scope)(N:SH)(O:Ru)(c:Ry->Option FE)(b:Ry->Option FT)(e:Ry):Option FT:=match e with
 |.UnaryOp .Not a _=>(b a).map qN
 |.BoolOp .And l _=>RU b mQ l
 |.BoolOp .Or l _=>RU b KF l
 |_=>match fst t.q fun f=>f d N O e with
  |some q=>(Bj c q.1).map q.2
  |none=>if P8 e=G then(c e).map lP else U
def ip(t:Tb):Nat->Scope->SH->Ru->(Ry->Option FE)×(Ry->Option FT)
 |0,_,_,_=>(fun _=>U,fun _=>U)
 |n+1,sc,N,O=>(Wy t sc N O (ip t n sc N O).1 (ip t n sc N O).2 fun a b=>ip t n a b [],XV t sc N O (ip t n sc N O).1 (ip t n sc N O).2)
section
variable{X:Cx}{W:Wd}{O:Ru}{t:Tb}
theorem mJ(a:∀e φ,f e=J φ->JE X e (tD W O φ)):∀(es:List Ry)(l:List FE),Bj f es=J l->Js X W O es l:=TB (fun _ h=>by nofun;exact Uy) fun e es i_ _ h=>by
  obtain⟨φ,h1,h⟩:=bY.mp h
  obtain⟨l,h2,rfl⟩:=dO.mp h;exact⟨a e φ h1,i_ l h2⟩
theorem FN(b:W.K=X.K)(d:Vu X W t)(a:∀e φ,fx e=J φ->JE X e (tD W O φ))(h:VS t X.env.scope X.N O fx tg it=J ι):JI X tg it<|iD W O ι:=by
 delta VS at h;cbv
 .rename_i q e;obtain⟨f,h1,h2⟩:=fE e
  obtain⟨l,c,rfl⟩:=dO.mp h;exact d.i f h1 O tg it _ _ l h2<|mJ a _ _ c
 .obtain⟨ε,h1,rfl⟩:=dO.mp h;exact On X.K (a _ _ h1) rfl b
theorem FW(a:X.N.Nodup)(h:Hs X.N O X.env.scope X.fn e=J i):JG X e (gD W O<|.one i)/\∃x p,e=.Name x p:=by
 obtain⟨x,h0,h⟩:=bY.mp h
 obtain⟨i,h1,h⟩:=bY.mp h
 cbv
 .rename_i hl;nofun;delta ug at h0;split at h0
  .cases h0;exact⟨aop hl.1 a (gc h1) (pk hl.2).1 (pk hl.2).2,_,_,rfl⟩
  .cases h0
 .nofun
theorem Cr(d:X.N.Nodup):∀{es:List Ry}{is:Ru},DQ X.N O X.env.scope X.fn es=J is->YW X es (U7 W O is)/\(Wh es X.env).length=es.length/\es.length=is.length/\(Wh es X.env).findIdx? (·.1)=U:=@TB _ _ (@fun _ h=>by nofun;exact⟨L0,rfl,rfl,rfl⟩) fun e r i_=>@fun _ h=>by
  left;obtain⟨i,h1,h⟩:=bY.mp h
  obtain⟨f,h2,rfl⟩:=dO.mp h;obtain⟨z,a,b,c⟩:=i_ h2
  obtain⟨g,x,p,rfl⟩:=FW d h1;right;refine⟨EV g z rfl,by show(Wh r X.env).length+1=_;rw[a];rfl,by rw[uq,uq,b],?_⟩;show List.findIdx? (·.1) ((η,_)::Wh r X.env)=U;rw[List.findIdx?_cons,c];rfl
theorem Cf(f:W.K=X.K)(e:X.calm=G)(d:X.N.Nodup)(h:Aj X.N O X.env.scope X.fn tg=J q):JG X tg<|gD W O q:=by
 delta Aj at h;cbv
 .obtain⟨i,h1,rfl⟩:=dO.mp h;exact(FW d h1).1
 .obtain⟨is,h1,rfl⟩:=dO.mp h;obtain⟨z,a,b,c⟩:=Cr d h1;exact O5 X.K z rfl e (a.trans b) c rfl f
 .nofun
theorem G0(h:Qp sc (fun _=>η) x=G):Qp sc fn x=G:=by
 delta Qp at h⊢;rw[Bool.and_false,Bool.or_false]at h;rw[h];rfl
theorem yM(h:Hs N O sc (fun _=>η) e=J i):Hs N O sc fn e=J i:=by
 delta Hs at h⊢;obtain⟨x,a,h⟩:=bY.mp h;obtain⟨j,h1,h⟩:=bY.mp h;rw[a,Nr,h1,Nr];cbv
 .rename_i hq;rw[SI ⟨hq.1,G0 hq.2⟩];exact h
 .nofun
theorem D7{N:SH}{a:Scope}{fn:Str->Bool}{e:Ry}{q:VA}(h:Aj N O a (fun _=>η) e=J q):Aj N O a fn e=J q:=by
 have hs:∀{es:List Ry}{is:Ru},DQ N O a (fun _=>η) es=J is->DQ N O a fn es=J is:=fun{es}=>by
  induction es with
  |nil=>exact fun h=>h
  |cons e r b=>
   intro is h;obtain⟨i,h1,h⟩:=bY.mp h
   obtain⟨c,h2,rfl⟩:=dO.mp h;unfold DQ;rw[yM h1,b h2];rfl
 delta Aj at h⊢;cbv
 .obtain⟨i,h1,rfl⟩:=dO.mp h;rw[yM h1];rfl
 .obtain⟨is,h1,rfl⟩:=dO.mp h;rw[hs h1];rfl
 .nofun
structure qc(X:Cx)(W:Wd)(O:Ru)(elt tg it:Ry)(ifs:List Ry)(scope:Scope)(N':SH)(ix:List (Option Nat))(ι:FA)(g:VA)(τ:FT)(ε:FE):Prop where
 cs:zr X.env.scope X.N N' ix scope=G
 i:JI X tg it<|iD W O ι
 g:∀b,JG (jm X N' scope b) tg<|gD W [] g
 t:∀b,Yq (jm X N' scope b) ifs<|lq W [] τ
 e:∀b,JE (jm X N' scope b) elt<|tD W [] ε
 o:∀j∈ix,∀k,j=J k->k∉O
 s:xJ it=η
theorem Gi(f:W.K=X.K)(n:X.calm=G)(l:Vu X W t)(o:∀e φ,fx e=J φ->JE X e (tD W O φ))
  (d:∀N scope b,(∀e φ,(fy (jm X N scope b).env.scope N).1 e=J φ->JE (jm X N scope b) e (tD W [] φ))/\(∀e τ,(fy (jm X N scope b).env.scope N).2 e=J τ->JT (jm X N scope b) e (lq W [] τ)))
  (h:V3 t X.env.scope X.N O fx fy elt tg it ifs scope pos=J φ):∃a ix ι g τ ε,φ=jX ix ι g τ ε/\qc X W O elt tg it ifs scope a ix ι g τ ε:=by
 delta V3 at h;dsimp only at h;generalize((t.k.find? fun q=>decide (q.1=pos)).map (·.2)).getD (Yb tg)=a at h;cbv
 .rename_i hq;obtain⟨m,h1,h⟩:=bY.mp h;obtain⟨ι,h2,h⟩:=bY.mp h
  obtain⟨τ,h3,h⟩:=bY.mp h
  obtain⟨ε,i,rfl⟩:=dO.mp h;refine⟨_,_,_,_,_,_,rfl,hq.1,FN f l o h2,fun b=>Cf f n hq.2.1<|D7 h1,fun b=>?_,fun b=>(d a scope b).1 _ _ i,(fun j p k e=>by
    have:=Ve.mp hq.2.2.2 j p
    mright),hq.2.2.1⟩
  cases ifs with
  |nil=>cases h3;exact Jw
  |cons c r=>
   cases r with
   |nil=>exact(fun h=>J9 h)<|(d a scope b).2 _ _ h3
   |cons _ _=>cases h3
 .nofun
theorem qc.n(a:X.calm=G){g:VA}(C:qc X W O elt tg it ifs scope N' ix ι g τ ε):JE X (.ListComp elt [⟨tg,it,ifs,0⟩] scope pos)<|tN W O<|jX ix ι g τ ε:=
 Qy C.cs C.i C.g C.t C.e C.o rfl rfl rfl a (wG C.s _)
theorem QF(p:W.K=X.K)(g:X.calm=G)(k:Vu X W t)(j:∀e φ,fx e=J φ->JE X e (tD W O φ))(m:∀e τ,ft e=J τ->JT X e (lq W O τ))
  (o:∀N scope b,(∀e φ,(fy (jm X N scope b).env.scope N).1 e=J φ->JE (jm X N scope b) e (tD W [] φ))/\(∀e τ,(fy (jm X N scope b).env.scope N).2 e=J τ->JT (jm X N scope b) e (lq W [] τ)))
  (e:Ry) (φ:FE) (h:Wy t X.env.scope X.N O fx ft fy e=J φ):JE X e<|tD W O φ:=by
  delta Wy at h;cbv
  .rename_i z;nofun;exact Yn z
  cbv
  .cbv
   .rename_i i h1;cbv
    .rename_i hc;nofun;obtain⟨a,b,c⟩:=tV hc.2
     exact Mv i hc.1 (gc h1) a b c
    .nofun
   .cbv
    .rename_i hg;obtain⟨d,h1,rfl⟩:=dO.mp h;exact k.c _ (As h1) O _ hg
    .nofun
  .cbv
   .refine UZ (Gi p g k j o h) fun _ _ _ _ _ _ r C=>?_;subst r;exact FQ<|C.n g
   .nofun
  .obtain⟨τ,h0,h⟩:=bY.mp h
   obtain⟨φ1,h1,h⟩:=bY.mp h
   obtain⟨ψ,h2,rfl⟩:=dO.mp h;exact aaG (m _ _ h0) (j _ _ h1)<|j _ _ h2
  .obtain⟨q,h0,h⟩:=bY.mp h
   obtain⟨l,h1,rfl⟩:=dO.mp h;obtain⟨f,h2,h3⟩:=fE h0
   exact k.x f h2 O e _ _ l h3<|mJ j _ _ h1
theorem BH(c:∀e τ,f e=J τ->JT X e (lq W O τ)):∀(l:List Ry)(τ:FT),RU f mQ l=J τ->JW X (.BoolOp .And l pos) (lq W O τ)
 |[],_,h=>by nofun
 |[a],τ,h=>(fun d=>CW d)<|c a τ h
 |a::b::r,_,h=>by
  obtain⟨τ,h1,h⟩:=bY.mp h
  obtain⟨υ,h2,rfl⟩:=dO.mp h;exact Om (c _ _ h1)<|BH c (b::r) υ h2
theorem IC(c:∀e τ,f e=J τ->JT X e (lq W O τ)):∀(l:List Ry)(τ:FT),RU f KF l=J τ->JW X (.BoolOp .Or l pos) (lq W O τ)
 |[],_,h=>by nofun
 |[a],τ,h=>(fun d=>IT d)<|c a τ h
 |a::b::r,_,h=>by
  obtain⟨τ,h1,h⟩:=bY.mp h
  obtain⟨υ,h2,rfl⟩:=dO.mp h;exact aaT (c _ _ h1)<|IC c (b::r) υ h2
theorem OJ(c:W.K=X.K)(d:Vu X W t)(b:∀e φ,fx e=J φ->JE X e (tD W O φ))(a:∀e τ,ft e=J τ->JT X e (lq W O τ))(e:Ry)(τ:FT)(h:XV t X.env.scope X.N O fx ft e=J τ):JT X e<|lq W O τ:=by
 delta XV at h;cbv
 .obtain⟨υ,h1,rfl⟩:=dO.mp h;exact Px<|a _ _ h1
 .exact CN (BH a _ _ h)
 .exact CN (IC a _ _ h)
 .cbv
  .rename_i q e1;obtain⟨f,h2,h3⟩:=fE e1
   obtain⟨l,h1,rfl⟩:=dO.mp h;exact d.q f h2 O e _ _ l h3<|mJ b _ _ h1
  .cbv
   .rename_i hb;obtain⟨φ,h1,rfl⟩:=dO.mp h;exact FH X.K (b _ _ h1) (B6 hb _) rfl c
   .nofun
inductive Xg(X:Cx):Cx->Prop
 |re:Xg X X
 |bk {Yq0:Cx} (h:Xg X Yq0) (N:SH) (scope:Scope) (b:Bk):Xg X (jm Yq0 N scope b)
theorem Xg.wb(h:Xg X Yq0):Yq0.K=X.K/\Yq0.mg=X.mg/\Yq0.prog=X.prog/\Yq0.w=X.w/\Yq0.base=X.base/\Yq0.A=X.A/\Yq0.calm=X.calm/\Yq0.env.code=X.env.code/\Yq0.env.qual=X.env.qual:=by
 induction h with
 |re=>exact⟨rfl,rfl,rfl,rfl,rfl,rfl,rfl,rfl,rfl⟩
 |bk _ N c b a=>exact a
theorem jG(j:W.K=X.K)(i:X.calm=G)(g:∀c,Xg X c->Vu c W t):∀(n:Nat)(c:Cx)(d:Xg X c)(O:Ru),(∀e φ,(ip t n c.env.scope c.N O).1 e=J φ->JE c e (tD W O φ))/\(∀e τ,(ip t n c.env.scope c.N O).2 e=J τ->JT c e (lq W O τ)):=X5 (fun _ _ _=>⟨fun _ _ h=>(by nofun),fun _ _ h=>(by nofun)⟩) fun n i_ c d O=>by
  left;obtain⟨a,b⟩:=i_ c d O
  refine xT d.wb fun e1 _ _ _ _ m l _=>?_
  right;have f:W.K=c.K:=by rw[e1];exact j
  exact⟨QF f (by rw[l];exact i) (g c d) a b fun N scope k=>i_ (jm c N scope k) (.bk d N scope k) [],OJ f (g c d) a b⟩
end
section
variable{X:Cx}{K:aT}{st:SU}{p pos:Pos}
theorem pcA(D:Def X.K mg0 y st ps f fd)(m:X.mg x=J (.ref f))(SK:T8 X.prog X.w X.K X.mg X.base lD j f fd ps sp)(g:TZ k X.A)(o:PA X (e::es) t)(u:j<=k<|>Sm)(i:Gl X x<|>Rv)(a:TN x<|>Sm)
  (h1:al e=G<|>Rv) (h2:es.all al=G<|>Rv):PE X #[3]<|R7 sp t:=by
 have n:Uu (e::es) X.env=(η,eval e X.env)::Uu es X.env:=bC h1;have c:(X3 pos<|Uu es X.env).any (·.1)=η:=bH h2;intro aa s Z H Q I h;refine Yr<|dD I i m ?_ a;refine yw I.ok.mod.XM D.F.kp (bP (o pos aa s Z H _ I h) fun us v l=>jZ l fun vs H1 d r q=>⟨d.U3,?_⟩) n c;exact IV SK (g.mono u) D.b .nil NJ d r (by mright)
theorem Kj(D:Def X.K mg0 y st ps f fd)(m:X.mg x=J (.ref f))(SK:T8 X.prog X.w X.K X.mg X.base lD j f fd ps<|rj K mg F)(b:TZ k X.A)(l:JA X (e::es)<|zx ⟨K,mg,E0⟩ O α)(n:j<=k<|>Sm)(c:Gl X x<|>Rv)(a:TN x<|>Sm)
  (h1:al e=G<|>Rv) (h2:es.all al=G<|>Rv):JE X #[3]<|tD ⟨K,mg,E0⟩ O<|aI F α:=
 JE.imp ⟨pcA D m SK b l.out n c a h1 h2⟩ fun Z H Q d=>dQ d fun as0 B own Y I h=>⟨as0,B,own,Y,I,e9 h fun ds vs H1 g i h1=>⟨own++as0,ds,(I.mono g).Vq,i,h1⟩⟩
end
noncomputable def zd:Ry->Bool
 |.ListComp ..=>G
 |.SetComp ..=>G
 |.DictComp ..=>G
 |_=>η
theorem jH(h:zd e=η)(tg:Option Ry)(l:Nat)(env:Env):Uw e tg l env=pure η:=by
 cases e<;>first|rfl|nofun
noncomputable def IM(a:Scope)(x:Str)(p pos:Pos)(scope:Scope):Bool:=(if a.kind.isAnnotationScope then ScopeKind.function else a.kind)==.function&&a.names.lookup x==J .local&&p.line==pos.line&&!(scope.names.any fun(n,k)=>n==x&&(k==.local||k==.cell))
theorem AB:Uw (.ListComp elt gs scope pos) (J<|.Name x p) l env=pure (IM env.scope x p pos scope):=rfl
def dB:Nat:=30
def owB(a:Scope)(N:SH)(O:Ru)(x:Str):Option Nat:=(Mm N x).bind fun i=>if i∈O/\OK a x=G then J i else U
def Wv(t:Tb)(d:Scope)(fn:Str->Bool)(N:SH)(h:Ru->List SU->Option (FS×Ru))(O:Ru)(s:SU):Option<|FS×Ru:=match rB s with
 |some (x,a,e)=>(Hs N O d fn a).bind fun i=>match e with
  |.ListComp elt c scope pos=>match c with|[⟨tg,it,ifs,0⟩]=>(V3 t d N O (ip t dB d N O).1 (fun j k=>ip t dB j k []) elt tg it ifs scope pos).map fun φ=>if t.m.contains x=G then(Av i φ,i::O)else(rZ i φ,O)|_=>U
  |e=>if zd e=G then U else match(if t.m.contains x=G then fst t.n fun f=>f d N O e else U)with
   |some q=>(Bj (ip t dB d N O).1 q.1).map fun l=>(Av i<|q.2 l,i::O)
   |none=>((ip t dB d N O).1 e).map fun ε=>(rZ i ε,O)
 |none=>match s with
 |.Return r _=>match r with|some e=>((ip t dB d N O).1 e).map fun ε=>(pX ε,O)|_=>U
 |.If c a b _=>((ip t dB d N O).2 c).bind fun τ=>(h O a).bind fun p=>(h O b).bind fun q=>if p.2=O/\q.2=O then J (DA τ p.1 q.1,O)else U
 |.While c body r _=>match r with|[]=>((ip t dB d N O).2 c).bind fun τ=>(h O body).bind fun p=>if p.2=O then J (cq τ p.1 t.w,O)else U|_=>U
 |.Raise ..=>J (GY,O)
 | .For tg it body r _=>match r with|[]=>(Aj N O d fn tg).bind fun g=>if xJ it=G then U else
   (VS t d N O (ip t dB d N O).1 tg it).bind fun ι=>(h O body).bind fun p=>if p.2=O then J (Hy ι g p.1,O)else U|_=>U
 |_=>U
def XR(t:Tb)(a:Scope)(fn:Str->Bool)(N:SH)(b:Ru->List SU->Option (FS×Ru))(O:Ru)(s:SU):Option<|FS×Ru:=match Wv t a fn N b O s with
 |some q=>J q
 |none=>(fst t.s fun f=>f a N O s).bind fun q=>(Bj (ip t dB a N O).1 q.1).map fun l=>(q.2 l,O)
def WR(f:Ru->SU->Option (FS×Ru)):Ru->List SU->Option (FS×Ru)
 |O,[]=>J (ld,O)
 |O,[s]=>f O s
 |O,s::a::r=>(f O s).bind fun p=>(WR f p.2<|a::r).map fun q=>(nh p.1 q.1,q.2)
def WP(t:Tb)(a:Scope)(fn:Str->Bool)(N:SH):Nat->Ru->List SU->Option (FS×Ru)
 |0=>fun _ _=>U
 |n+1=>WR<|XR t a fn N<|WP t a fn N n
section
theorem CG(b:X.N.Nodup)(f:Loc X.env.scope x)(c:X.fn x=G\/X.env.scope.names.lookup x=J .local)(d:X.calm=G)(h:X.N[i]?=J x)(a:i∉O)(C:qc X W O elt tg it ifs scope N' ix ι g τ ε):
  JS X (.Assign [.Name x p] (.ListComp elt [⟨tg,it,ifs,0⟩] scope pos) spos) (sD W Ob O (i::O)<|Av i<|jX ix ι g τ ε)/\JS X (.Assign [.Name x p] (.ListComp elt [⟨tg,it,ifs,0⟩] scope pos) spos) (sD W Ob O O<|rZ i<|jX ix ι g τ ε):=by
 cases hsw:IM X.env.scope x p pos scope with
 |true=>
  have j:=LO (spos:=spos) b f C.cs C.i C.g C.t C.e C.o rfl h rfl rfl d (AB.trans<|by rw[hsw]) c (wG C.s _);exact⟨L7 a j,KC a j⟩
 |false=>exact⟨Iv a b f (C.n d) h (AB.trans<|by rw[hsw]) c,Iu a b f (FQ<|C.n d) h (AB.trans<|by rw[hsw]) c⟩
theorem Rj(m:W.K=X.K)(y:∀j,Xg X j->Vu j W t)(k:X.N.Nodup)(z:zJ #[0] X.A X.env X.xe)(d:X.calm=G)
  (o:∀O sts q,fb O sts=J q->∀Ob,JB X sts<|sD W Ob O q.2 q.1) (O:Ru) (s:SU) (q:FS×Ru) (h:Wv t X.env.scope X.fn X.N fb O s=J q) (Ob:Ru):JS X s<|sD W Ob O q.2 q.1:=by
 have tx:=jG m d y dB X .re O;have B:=fun N scope b=>jG m d y dB (jm X N scope b) (.bk .re N scope b) [];have v:=y X .re;delta Wv at h;cbv
 .rename_i hx;obtain⟨p,b,rfl,rfl⟩:=IH hx;clear hx;obtain⟨i,h1,h⟩:=bY.mp h
  obtain⟨x,h0,h1⟩:=bY.mp h1
  cases h0;obtain⟨i,h2,h1⟩:=bY.mp h1
  split at h1
  .rename_i hq;cases h1;obtain⟨hl,hf⟩:=pk hq.2
   cbv
   .cbv
    .obtain⟨φ,h3,h⟩:=dO.mp h
     refine UZ (Gi m d v tx.1 B h3) fun _ _ _ _ _ _ F C=>?_;subst F;cbv
     .nofun;exact(CG k hl hf d (gc h2) hq.1 C).1
     .nofun;exact(CG k hl hf d (gc h2) hq.1 C).2
    .nofun
   .cbv
    .nofun
    .rename_i c;have c:=Wc.mpr c;cbv
     .rename_i r e;split at e
      .obtain⟨f,u,h5⟩:=fE e
       obtain⟨l,E,rfl⟩:=dO.mp h;exact Iv hq.1 k hl (v.n f u O _ _ _ l h5<|mJ tx.1 _ _ E) (gc h2) (jH c _ _ _) hf
      .cases e
     .obtain⟨ε,u,rfl⟩:=dO.mp h;exact Iu hq.1 k hl (tx.1 _ _ u) (gc h2) (jH c _ _ _) hf
  .cases h1
 cbv
 .cbv
  .obtain⟨ε,h2,rfl⟩:=dO.mp h;exact FR<|tx.1 _ _ h2
  .nofun
 .obtain⟨τ,h1,h⟩:=bY.mp h
  obtain⟨p,h2,h⟩:=bY.mp h
  obtain⟨r,h3,h⟩:=bY.mp h
  cbv
  .rename_i hq;nofun;have a:=o _ _ _ h2 Ob;have b:=o _ _ _ h3 Ob;rw[hq.1]at a;rw[hq.2]at b;exact Hx (tx.2 _ _ h1) a b
  .nofun
 .cbv
  .obtain⟨τ,h1,h⟩:=bY.mp h
   obtain⟨p,h2,h⟩:=bY.mp h
   cbv
   .rename_i hq;nofun;have b:=o _ _ _ h2 O;rw[hq]at b;exact Ej t.w z (tx.2 _ _ h1) b
   .nofun
  .nofun
 .nofun;exact(⟨fun aa s Z H D I q=>let⟨_,_,_,_,_,h⟩:=q;h.elim⟩)
 .cbv
  .obtain⟨g,h1,h⟩:=bY.mp h
   cbv
   .nofun
   .rename_i hs;obtain⟨ι,h2,h⟩:=bY.mp h
    obtain⟨p,h3,h⟩:=bY.mp h
    cbv
    .rename_i hp2;nofun;have b:=o _ _ _ h3 O;rw[hp2]at b;exact Pa z (FN m v tx.1 h2) (Cf m d k h1) b d<|wG (Wc.mpr hs) _
    .nofun
  .nofun
 .nofun
theorem QQ(d:W.K=X.K)(b:∀a,Xg X a->Vu a W t)(g:X.N.Nodup)(j:zJ #[0] X.A X.env X.xe)(c:X.calm=G)
  (i:∀O sts q,fb O sts=J q->∀Ob,JB X sts<|sD W Ob O q.2 q.1) (O:Ru) (s:SU) (q:FS×Ru) (h:XR t X.env.scope X.fn X.N fb O s=J q) (Ob:Ru):JS X s<|sD W Ob O q.2 q.1:=by
 delta XR at h;cbv
 .rename_i e;nofun;exact Rj d b g j c i O s _ e Ob
 .obtain⟨r,h1,h⟩:=bY.mp h;obtain⟨l,h2,rfl⟩:=dO.mp h;obtain⟨f,h3,h4⟩:=fE h1
  exact(b X .re).s f h3 Ob O s _ _ l h4<|mJ (jG d c b dB X .re O).1 _ _ h2
theorem IL(b:∀O s q,f O s=J q->∀Ob,JS X s<|sD W Ob O q.2 q.1):∀(sts:List SU)(O:Ru)(q:FS×Ru),WR f O sts=J q->∀Ob,JB X sts (sD W Ob O q.2 q.1)
 |[],O,q,h,Ob=>by nofun;exact QR
 |[s],O,q,h,Ob=>Et<|b O s _ h Ob
 |s::a::r,O,q,h,Ob=>by
  obtain⟨p,e,h⟩:=bY.mp h;obtain⟨u,h2,rfl⟩:=dO.mp h;exact KS (b O s p e Ob)<|IL b (a::r) p.2 u h2 Ob
theorem Ab(e:W.K=X.K)(b:∀a,Xg X a->Vu a W t)(c:X.N.Nodup)(f:zJ #[0] X.A X.env X.xe)(d:X.calm=G):∀(n:Nat)(O:Ru)(sts:List SU)(q:FS×Ru),WP t X.env.scope X.fn X.N n O sts=J q->∀Ob,JB X sts (sD W Ob O q.2 q.1):=X5 (fun _ _ _ h _=>by nofun) fun n i_ O sts q h Ob=>IL (fun O s q h Ob=>QQ e b c f d (i_) O s q h Ob) sts O q h Ob
end
structure FY(Yq0:Cx)(P:Tc)(w:Sl)(K:aT)(mg:Sq)(base:T3)(k:Nat):Prop where
 eK:Yq0.K=K
 acR:Yq0.mg=mg
 eP:Yq0.prog=P
 eW:Yq0.w=w
 mm:Yq0.base=base
 hr:TZ k Yq0.A
 cm:Yq0.calm=G/\∃c P q,Yq0.env.code=.ref c/\Yq0.env.qual=q++".<locals>."/\t5 K c P=G/\∀H,RJ K H->H P=J (.UX<|q++".<locals>."++"<lambda>")
noncomputable def CA(a:Scope)(x:Str):Bool:=decide (a.names.lookup x=J .globalImplicit)&&!(x==("__debug__":Str))
theorem eI(h:CA X.env.scope x=G):Gl X x/\TN x:=by
 delta CA at h;rw[oR,Yl,decide_eq_true_eq]at h;exact h
def aL:List FE->FA
 |[]=>aQ
 |φ::l=>ak φ<|aL l
theorem xS:∀{es:List Ry}{l:List FE},Js X W O es l->es.all al=G->JA X es (zx W O<|aL l)
 |[],[],_,_=>Fn
 |e::es,φ::l,h,hn=>by
  rw[Vg,oR]at hn;exact Bx h.1 (xS h.2 hn.2) hn.1
 |[],_::_,h,_=>h.elim
 |_::_,[],h,_=>h.elim
noncomputable def cN:Ry->Option (Str×List Ry)
 |.Call (.Name x _) es [] _=>J (x,es)
 |_=>U
theorem nD(h:cN e=J q):∃p pos,e=.Call (.Name q.1 p) q.2 [] pos:=by
 delta cN at h;cbv
 .nofun;exact⟨_,_,rfl⟩
 .nofun
def fN(x:Str)(n:Nat->Bool)(c:List FE->FE):Fm:=fun a _ _ e=>(cN e).bind fun q=>if q.1=x/\CA a x=G/\q.2.all al=G/\n q.2.length=G then J (q.2,c)else U
theorem Nj(h:fN x n c sc N O e=J (es,b)):∃p pos,e=.Call (.Name x p) es [] pos/\CA sc x=G/\es.all al=G/\n es.length=G/\b=c:=by
 obtain⟨q,h1,h⟩:=bY.mp h
 cbv
 .obtain⟨p,pos,rfl⟩:=nD h1;grind
 .nofun
def bX(x:Str)(F:Rx->R D):Fm:=fN x (fun _=>G) fun l=>aI F<|aL l
structure Df where
 x:Str
 g:SH
 i:Nat
 N:SH
 p:Nat
 d:Nat
 m:SH:=[]
 k:List<|Pos×SH:=[]
 e:Ru:=[]
 h:Ru:=[]
 w:Nat:=1000
noncomputable def Df.ps(q:Df):SH:=q.N.take q.p
inductive Mr where
 |pl (φ:FS)
 |rc (φ:(Rx->R D)->FS) (Zq0:Nat->Rx->R D) (n:Nat)
def Mr.F(q:Df):Mr->(Rx->R D)
 |.pl φ=>gx φ q.N q.ps
 |.rc _ Zq0 n=>Zq0 n
def Mr.dp(q:Df):Mr->Nat
 |.rc _ _ n=>q.d+n
 |_=>q.d+1
noncomputable def J5(N ps:SH)(a:Scope):Bool:=decide (a.kind=.function)&&!a.isCoroutine&&!a.isGenerator&&decide N.Nodup&&decide (N.take ps.length=ps)&&ps.all (fun x=>decide (a.names.lookup x=J .local)||decide (a.names.lookup x=J .cell))&&a.names.all (fun y=>decide (y.2≠.free))
theorem pG(h:J5 N ps sc=G):Vr N ps sc:=by
 delta J5 at h;simp only[oR,Yl,decide_eq_true_eq,Ve,Km]at h;obtain⟨⟨⟨⟨⟨⟨a,b⟩,c⟩,d⟩,e⟩,f⟩,g⟩:=h;exact⟨a,b,c,d,e,f,g⟩
section
variable(bD:Nat->SU)(B:Tb)(ext:List Fm)
noncomputable def UX(b:List<|Nat×Fm)(q:Df)(self:List Fm):Tb:={B with x:=q.e.filterMap (fun i=>ext[i]?)++(self++(B.x++(b.filter fun a=>decide (a.1<=q.d)).map (·.2))),m:=q.m,k:=q.k,w:=q.w}
def dF(t:Tb)(q:Df):Option FS:=(WP t (ai<|bD q.i) (fun _=>G) q.N 12 []<|bL<|bD q.i).map (·.1)
def aa4(q:Df)(m:Mr)(a:List<|Nat×Fm):List<|Nat×Fm:=q.g.map (fun x=>(m.dp q,bX x<|m.F q))++a
def Bw(P:Tc)(w:Sl)(K:aT)(mg:Sq)(base:T3)(a:Nat×Fm):Prop:=∀b k,FY b P w K mg base k->a.1<=k->dr b ⟨K,mg,E0⟩ a.2
def RV(q:Df)(a:List<|Nat×Fm):Mr->Prop
 |.pl φ=>dF bD (UX B ext a q []) q=J φ
 |.rc φ Zq0 n=>(∀F,dF bD (UX B ext a q (q.g.map fun x=>bX x F)) q=J (φ F))/\(∀ds,Zq0 0 ds=.no)/\∀m,Zq0 (m+1)=gx (φ<|Zq0 m) q.N q.ps
end
section
variable{K:aT}
structure eB(bD:Nat->SU)(K:aT)(mg:Sq)(q:Df)(f:SA)(fd:Wj):Prop where
 F:UD K q.x q.x (bD q.i) f fd
 b:cf K fd q.ps []
 m:∀x∈q.g,mg x=J (.ref f)
theorem gP(Q:eB bD K mg q f fd)(SK:T8 P w K mg base lD j f fd q.ps<|rj K mg F)(d:x∈q.g):Bw P w K mg base (j,bX x F):=fun Yq0 k⟨e1,e2,e3,e4,e5,hr,_⟩hj O e es b φs h hJ=>by
 subst e1 e2 e3 e4 e5;obtain⟨p,pos,rfl,h1,h2,_,rfl⟩:=Nj (n:=fun _=>G) (N:=Yq0.N) (O:=O) h;obtain⟨hg,hd⟩:=eI h1
 have o:Def Yq0.K (fun _=>J<|.ref f) q.x (bD q.i) q.ps f fd:=⟨Q.F,Q.b,rfl⟩;cases es with
 |nil=>
  cases φs with
  |nil=>
   refine(JE.mk<|Ei SK (hr.mono hj) hg (Q.m x d) Q.F.kp Q.b .nil NJ hd).imp fun Z H Q l=>dQ l fun as0 B own Y I h=>⟨own++as0,[],I.Vq,ay.nil,h⟩
  |cons _ _=>exact hJ.elim
 |cons a r=>
  have c:=h2;rw[Vg,oR]at c;exact Kj o (Q.m x d) SK hr (xS hJ h2) hj hg hd c.1 c.2
theorem pA(o:∀g k,FY g P w K mg base k->Vu g ⟨K,mg,E0⟩ B/\∀f∈ext,dr g ⟨K,mg,E0⟩ f)(m:∀a∈acc,Bw P w K mg base a)(j:q.d<=k)(y:FY g P w K mg base k)(hs:∀f∈self,dr g ⟨K,mg,E0⟩ f):Vu g ⟨K,mg,E0⟩<|UX B ext acc q self:=by
 obtain⟨b,e⟩:=o g k y;refine⟨fun f l=>?_,b.n,b.q,b.i,b.s,b.c⟩;rcases BY.mp l with h|h
 .obtain⟨i,_,h2⟩:=mP.mp h;exact e f<|Do h2
 .rcases BY.mp h with h|h
  .exact hs f h
  .rcases BY.mp h with h|h
   .exact b.x f h
   .obtain⟨a,h1,rfl⟩:=d9.mp h;obtain⟨h1,h2⟩:=dN.mp h1
    exact m a h1 g k y<|RW (WI h2) j
theorem rq(F:UD K q.x q.x (bD q.i) f fd)(S:Vr q.N q.ps<|ai<|bD q.i)(y:∀j,FY j P w K mg base k->Vu j ⟨K,mg,E0⟩ t)(h:dF bD t q=J φ):T8 P w K mg base lD (k+1) f fd q.ps<|rj K mg<|gx φ q.N q.ps:=by
 obtain⟨r,h',rfl⟩:=dO.mp h;refine F.okD (O':=r.2) S fun u m A n s H E o=>?_;obtain⟨v,p,rfl,l⟩:=vO m;refine Ab rfl (fun j z=>?_) S.nd SQ rfl 12 [] _ r h' [];refine xW z.wb fun a b c d e g i j1 j2=>?_;exact y j ⟨a,b,c,d,e,g▸o,i,v,p,_,j1,j2,l⟩
theorem L8(e:∀b k,FY b P w K mg base k->Vu b ⟨K,mg,E0⟩ B/\∀f∈ext,dr b ⟨K,mg,E0⟩ f)(j:∀a∈acc,Bw P w K mg base a)(Q:eB bD K mg q f fd)(S:Vr q.N q.ps<|ai<|bD q.i)(h:RV bD B ext q acc m):
  T8 P w K mg base lD (m.dp q) f fd q.ps (rj K mg<|m.F q):=by
 cases m with
 |pl φ=>exact rq Q.F S (fun b y=>pA (self:=[]) e j (mK _) y fun f s=>nomatch s) h
 |rc φ c n=>
  obtain⟨h1,h2,r⟩:=h;show T8 P w K mg base lD (q.d+n) f fd q.ps<|rj K mg<|c n;induction n with
  |zero=>
   have  := funext h2;rw[this];exact T8.void
  |succ n p=>
   rw[r n];refine rq Q.F S (fun b y=>pA e j (zQ _ _) y fun g l=>?_)<|h1<|c n;obtain⟨x,o,rfl⟩:=d9.mp l;exact gP Q p o b _ y<|mK _
end
end L2
namespace L2
open PySem PySem.Spec PyProof.Rows
section
variable{W:Wd}{X:Cx}
def Tl(K:aT):UL:=fun x y H Q=>match x,y with
 |.int i,.int j=>Q (.int<|i+j) H
 |.str i,.str j=>i.length+j.length<=sizeLine/\Q (.str<|i++j) H
 |.ref l,.ref b=>∃xs zs,gr K H l xs/\gr K H b zs/\xs.length+zs.length<=sizeLine/\∀p,H p=U->Q (.ref p) (br H p<|.lst<|xs++zs)
 |_,_=>False
theorem Xr:eJ X (binaryOp .Add)<|Tl X.K:=((OX.or Ak).or ag4).imp fun x y H Q q=>by
 unfold Tl at q;split at q
 .exact .inl (.inl ⟨_,_,rfl,rfl,q⟩)
 .mright
 .refine US q fun xs zs h1 h2 h3 h4=>?_;exact .inr ⟨_,_,xs,zs,rfl,rfl,h1,h2,h3,h4⟩
 .exact q.elim
noncomputable def eZ(a b:D):R D:=match a,b with
 |.int i,.int j=>.ok<|.int<|i+j
 |.str x,.str y=>if x.length+y.length<=1000000 then .ok (.str<|x++y)else .no
 |.lst xs,.lst ys=>if xs.length+ys.length<=1000000 then .ok (.lst<|xs++ys)else .no
 |_,_=>.no
theorem Z8:eZ (.int i) (.int j)=.ok (.int<|i+j):=rfl
theorem Nd:eZ (.str x) (.str y)=if x.length+y.length<=1000000 then .ok (.str<|x++y)else .no:=rfl
theorem ab2:eZ (.lst xs) (.lst ys)=if xs.length+ys.length<=1000000 then .ok (.lst<|xs++ys)else .no:=rfl
theorem U2:wo W (Tl W.K) eZ:=by
 intro as H x y a b Q f e d h;unfold eZ at h;cbv
 .cases e;cases d;exact ax h rfl
 .cases e;cases d;cbv
  .rename_i hl;exact⟨RW hl ck,ax h rfl⟩
  .mleft
 .obtain⟨p,vs,rfl,q1,q2⟩:=e;obtain⟨p2,ws,rfl,q3,q4⟩:=d;cbv
  .rename_i hl;rw[q2.len,q4.len]at hl;refine⟨vs,ws,(aD _ _).seq q1,(aD _ _).seq q3,RW hl ck,fun p c=>?_⟩;exact h _ _ (bR c _) ⟨p,vs++ws,rfl,.inl<|.inl<|by rw[av<|f p c];exact aE,(q2.append q4).mono<|aA<|bR c _⟩
  .mleft
 .mleft
end
section
variable{X:Cx}{K:aT}{mg:Sq}{P:Ru}{a b:Ry}{φ ψ:FM}{pos:Pos}
def nC(φ ψ:FM):FM:=fun Y L=>(φ Y L).bind fun x L=>(ψ Y L).bind fun y L=>match eZ x y with
 |.ok d=>.ok d L
 |_=>.no
theorem agW(o:ME X K mg P a φ)(m:ME X K mg P b ψ)(q:X.K=K):ME X K mg P (.BinOp a .Add b pos)<|nC φ ψ:=fun E=>by
 subst q;refine(Wn (X:=X.ws E) Xr (o E)<|m E).imp fun Z H Q q=>UZ q fun as B hs cl Y L I h=>⟨as,B,hs,cl,Y,L,I,bx h fun d v μ1 e H1 n st g h1=>⟨as,B,hs,e,Y,μ1,n,bx h1 fun j l μ2 c t k i f h2=>?_⟩⟩;refine U2 (W:=⟨X.K,mg,E0⟩) (c.flatten++as) t v l d j Q (fun p r z=>k.Vq p z r) (bQ.mono i g) f ?_;cases hr:eZ d j with
 |ok d3=>
  rw[hr]at h2;exact fun v H' s g=>h2 v c H' (k.mono s) (aA s) g
 |er x=>rw[hr]at h2;exact h2.elim
 |no=>rw[hr]at h2;exact h2.elim
end
end L2
namespace L2
open PySem PySem.Spec PyProof.Rows
def ji(P:Ru)(φ:FE):FM:=fun Y L=>match φ (fill P L Y)with
 |.ok d=>if Sj d=G then .ok d L else(match φ Y with
  |.ok d=>.ok d L
  |_=>.no)
 |_=>.no
theorem Ka{K:aT}(h:∀a,JE (X.Td a) e<|tD ⟨K,mg,E0⟩ [] φ):ME X K mg P e<|ji P φ:=fun E=>by
 refine⟨fun aa s Z H Q I q=>UZ q fun as B hs cl Y L M f=>?_⟩;unfold ji at f;cases hr:φ (fill P L Y)with
 |ok d=>
  rw[hr]at f;dsimp only at f;by_cases b:Sj d=G
  .refine(Lp h E).out aa s Z H Q I ⟨as,B,hs,cl,Y,L,M,?_⟩;delta Wl;mright
  .rw[SM b]at f;exact(Ll h E).out aa s Z H Q I ⟨as,B,hs,cl,Y,L,M,f⟩
 |er x=>rw[hr]at f;exact f.elim
 |no=>rw[hr]at f;exact f.elim
abbrev FK:=Scope->SH->Ru->Ry->Option (List Ry×(qg->FM))
abbrev V0:=Scope->SH->Ru->Ry->Option (Ry×(FE->FM))
abbrev LH:=Nat->Scope->(Str->Bool)->SH->Ru->SU->Option (List Ry×(qg->gi)×Ru)
structure xq where
 t:Tb
 f:List FK
 g:List V0
 s:List LH
 h:List<|Nat->Scope->SH->Ru->SU->Option (Ry×(FM->gi))
 w:Nat
structure l8(X:Cx)(K:aT)(mg:Sq)(u:xq):Prop where
 t:∀E' Yq0,Xg (X.Td E') Yq0->Vu Yq0 ⟨K,mg,E0⟩ u.t
 f:∀f∈u.f,∀P e es b α,f X.env.scope X.N P e=J (es,b)->MA X K mg P es α->ME X K mg P e (b α)
 g:∀f∈u.g,∀P e a b φ,f X.env.scope X.N P e=J (a,b)->(∀E',JE (X.Td E') a<|tD ⟨K,mg,E0⟩ [] φ)->ME X K mg P e (b φ)
 s:∀f∈u.s,∀nl Pb P s es b P' α,f nl X.env.scope X.fn X.N P s=J (es,b,P')->MA X K mg P es α->MS X K mg nl Pb P P' s (b α)
 h:∀f∈u.h,∀nl Pb P s e b φ,f nl X.env.scope X.N P s=J (e,b)->ME X K mg P e φ->(∀pl,ME (X.pin pl) K mg P e φ)->MS X K mg nl Pb P P s (b φ)
 c:X.calm=G
 k:K=X.K
 n:X.N.Nodup
 st:X.stack=X.env::X.outer
 fr:X.env.frame=J X.env.locals
def EN(a:Scope)(N:SH)(P:Ru)(e:Ry):Option<|Nat×Nat×Str:=(ug e).bind fun x=>(Mm N x).bind fun i=>(P.findIdx? fun j=>decide (j=i)).bind fun k=>if OK a x=G then J (k,i,x)else U
theorem ii(h:EN sc N P e=J (k,i,x)):∃p,e=.Name x p/\P[k]?=J i/\N[i]?=J x/\m6 sc x/\TN x/\#[2]=η:=by
 obtain⟨d,a,h⟩:=bY.mp h;obtain⟨b,h1,h⟩:=bY.mp h;obtain⟨f,h2,h⟩:=bY.mp h;cbv
 .rename_i hr;nofun;delta ug at a;split at a
  .cases a;obtain⟨c,g,_⟩:=Kg.mp h2;refine⟨_,rfl,?_,gc h1,tV hr⟩
   mright
  .cases a
 .nofun
def Au(a:Scope)(N:SH)(P:Ru)(b:Ry->Option FM):List Ry->Option qg
 |[]=>J bj
 |e::es=>if al e=G then(match EN a N P e with
  |some (k,_,_)=>(Au a N P b es).map<|mw k
  |none=>(b e).bind fun φ=>(Au a N P b es).map (aK φ))else U
def Pd(t:xq)(d:Scope)(N:SH)(P:Ru)(h:Ry->Option FM)(i:Ry->Option lM)(e:Ry):Option FM:=match(ip t.t dB d N []).1 e with
 |some φ=>J<|ji P φ
 |none=>match e with
  |.IfExp c a b _=>(i c).bind fun τ=>(h a).bind fun φ=>(h b).map fun ψ=>Nf τ φ ψ
  |.Tuple es _ _=>(Au d N P h es).map vN
  |.BinOp a .Add b _=>(h a).bind fun φ=>(h b).map fun ψ=>nC φ ψ
  |e=>match fst t.f fun f=>f d N P e with
   |some q=>(Au d N P h q.1).map q.2
   |none=>(fst t.g fun f=>f d N P e).bind fun q=>((ip t.t dB d N []).1 q.1).map q.2
noncomputable def F8(f:Ry->Option lM)(q:lM->lM->lM):List Ry->Option lM
 |[]=>U
 |[a]=>f a
 |a::b::r=>(f a).bind fun τ=>(F8 f q<|b::r).map<|q τ
def Qv(t:xq)(c:Scope)(N:SH)(P:Ru)(d:Ry->Option FM)(b:Ry->Option lM)(e:Ry):Option lM:=match(ip t.t dB c N []).2 e with
 |some τ=>J<|uv P τ
 |none=>match e with
  |.UnaryOp .Not a _=>(b a).map Dc
  |.BoolOp .And l _=>F8 b xg l
  |.BoolOp .Or l _=>F8 b J6 l
  |e=>if P8 e=G then(d e).map qL else U
def o9(t:xq)(a:Scope)(N:SH)(P:Ru):Nat->(Ry->Option FM)×(Ry->Option lM)
 |0=>(fun _=>U,fun _=>U)
 |n+1=>(Pd t a N P (o9 t a N P n).1 (o9 t a N P n).2,Qv t a N P (o9 t a N P n).1 (o9 t a N P n).2)
section
variable{K:aT}
theorem nX(g:∀e φ,fx e=J φ->ME X K mg P e φ):∀(es:List Ry)(α:qg),Au X.env.scope X.N P fx es=J α->MA X K mg P es α:=TB (fun _ h=>by nofun;exact(fun E=>eD.imp (by intro Z H Q l;refine UZ l fun as B hs cl Y L I h=>?_;exact h [] cl H I (ah.refl _) rfl))) fun e es i_ α h=>by
  unfold Au at h;cbv
  .rename_i hn;cbv
   .rename_i k i x ho;obtain⟨β,h1,rfl⟩:=dO.mp h;refine c6 (ii ho) fun p j a b c d f=>?_;subst j;exact Tk a (i_ β h1) b c d f
   .obtain⟨φ,h1,h⟩:=bY.mp h;obtain⟨β,h2,rfl⟩:=dO.mp h;exact LF (g e φ h1) (i_ β h2) hn
  .nofun
theorem MV(T:l8 X K mg t)(h:(ip t.t dB X.env.scope X.N []).1 e=J φ):∀a,JE (X.Td a) e<|tD ⟨K,mg,E0⟩ [] φ:=fun a=>(jG (X:=X.Td a) T.k T.c (T.t a) dB (X.Td a) .re []).1 e φ h
theorem abN(T:l8 X K mg t)(h:(ip t.t dB X.env.scope X.N []).2 e=J τ):∀a,JT (X.Td a) e<|lq ⟨K,mg,E0⟩ [] τ:=fun a=>(jG (X:=X.Td a) T.k T.c (T.t a) dB (X.Td a) .re []).2 e τ h
theorem JQ(T:l8 X K mg t)(a:∀e φ,fx e=J φ->ME X K mg P e φ)(b:∀e τ,ft e=J τ->MT X K mg P e τ)(e:Ry)(φ:FM)(h:Pd t X.env.scope X.N P fx ft e=J φ):ME X K mg P e φ:=by
 unfold Pd at h;cbv
 .rename_i φ0 h0;nofun;exact Ka<|MV T h0
 .cbv
  .obtain⟨τ,h0,h⟩:=bY.mp h;obtain⟨φ1,h1,h⟩:=bY.mp h;obtain⟨ψ,h2,rfl⟩:=dO.mp h;exact aay (b _ _ h0) (a _ _ h1)<|a _ _ h2
  .obtain⟨α,h1,rfl⟩:=dO.mp h;exact PX<|nX a _ _ h1
  .obtain⟨φ1,h1,h⟩:=bY.mp h;obtain⟨ψ,h2,rfl⟩:=dO.mp h;exact agW (a _ _ h1) (a _ _ h2) T.k.symm
  .cbv
   .rename_i q e1;obtain⟨f,h2,h3⟩:=fE e1;obtain⟨α,h1,rfl⟩:=dO.mp h;exact T.f f h2 P _ _ _ α h3<|nX a _ _ h1
   .obtain⟨q,h0,h⟩:=bY.mp h;obtain⟨φ0,h1,rfl⟩:=dO.mp h;obtain⟨f,h2,h3⟩:=fE h0;exact T.g f h2 P _ _ _ φ0 h3<|MV T h1
theorem yi(c:∀e τ,f e=J τ->MT X K mg P e τ):∀(l:List Ry)(τ:lM),F8 f xg l=J τ->MW X K mg P (.BoolOp .And l pos) τ
 |[],_,h=>by nofun
 |[a],τ,h=>KO<|c a τ h
 |a::b::r,_,h=>by
  obtain⟨τ,h1,h⟩:=bY.mp h;obtain⟨υ,h2,rfl⟩:=dO.mp h;exact OZ (c _ _ h1)<|yi c (b::r) υ h2
theorem Cd(c:∀e τ,f e=J τ->MT X K mg P e τ):∀(l:List Ry)(τ:lM),F8 f J6 l=J τ->MW X K mg P (.BoolOp .Or l pos) τ
 |[],_,h=>by nofun
 |[a],τ,h=>PN<|c a τ h
 |a::b::r,_,h=>by
  obtain⟨τ,h1,h⟩:=bY.mp h;obtain⟨υ,h2,rfl⟩:=dO.mp h;exact aft (c _ _ h1)<|Cd c (b::r) υ h2
theorem Kr(T:l8 X K mg t)(b:∀e φ,fx e=J φ->ME X K mg P e φ)(a:∀e τ,ft e=J τ->MT X K mg P e τ)(e:Ry)(τ:lM)(h:Qv t X.env.scope X.N P fx ft e=J τ):MT X K mg P e τ:=by
 delta Qv at h;cbv
 .rename_i τ0 h0;nofun;exact Ko<|abN T h0
 .cbv
  .obtain⟨υ,h1,rfl⟩:=dO.mp h;exact RA<|a _ _ h1
  .exact BC (yi a _ _ h)
  .exact BC (Cd a _ _ h)
  .cbv
   .rename_i hb;obtain⟨φ,h1,rfl⟩:=dO.mp h;exact Iq (b _ _ h1) (B6 hb _) T.k.symm
   .nofun
theorem ly(T:l8 X K mg t):∀(n:Nat),(∀e φ,(o9 t X.env.scope X.N P n).1 e=J φ->ME X K mg P e φ)/\∀e τ,(o9 t X.env.scope X.N P n).2 e=J τ->MT X K mg P e τ:=X5 (⟨fun _ _ h=>(by nofun),fun _ _ h=>(by nofun)⟩) fun n i_=>⟨JQ T (i_).1 (i_).2,Kr T (i_).1 (i_).2⟩
theorem R3(h:ug e=J x):∃p,e=.Name x p:=by
 unfold ug at h;cbv
 .nofun;exact⟨_,rfl⟩
 .nofun
end
def mB:Nat:=12
def Vf:gi:=fun Y L=>.bk Y L
def Pz(t:xq)(nl:Nat)(sc:Scope)(fn:Str->Bool)(N:SH)(fb:Ru->Ru->List SU->Option (gi×Ru))(Pb P:Ru)(s:SU):Option<|gi×Ru:=match fst t.s fun f=>f nl sc fn N P s with
 |some q=>(Au sc N P (o9 t sc N P mB).1 q.1).map fun α=>(q.2.1 α,q.2.2)
 |none=>match s with
  |.Assign [.Name x p] e _=>(Hs N P sc fn<|.Name x p).bind fun i=>if zd e=G then U else((o9 t sc N P mB).1 e).map fun φ=>(qM nl i φ,P)
  |.Return (J e) _=>((o9 t sc N P mB).1 e).map fun φ=>(xz nl φ,P)
  |.Return U _=>J (UF nl,P)
  |.Expr e _=>if zd e=G then U else((o9 t sc N P mB).1 e).map fun φ=>(sr nl φ,P)
  |.Pass _=>J (qG,P)
  |.Break _=>if Pb=P then J (Vf,P)else U
  |.If c a b _=>((o9 t sc N P mB).2 c).bind fun τ=>(fb Pb P a).bind fun p=>(fb Pb P b).bind fun q=>if p.2=P/\q.2=P then J (pf nl τ p.1 q.1,P)else U
  |.While c body [] _=>((o9 t sc N P mB).2 c).bind fun τ=>(fb P P body).bind fun p=>if p.2=P then J (bV nl τ p.1 t.w,P)else U
  |.For tg it body [] _=>(ug tg).bind fun _=>(Hs N P sc fn tg).bind fun i=>if xJ it=G then U else(fb P P body).bind fun p=>if p.2=P then(match(o9 t sc N P mB).1 it with
   |some φ=>J (CC nl i φ p.1,P)
   |none=>(VS t.t sc N [] (ip t.t dB sc N []).1 tg it).map fun ι=>(kE P i ι p.1,P))else U
  |s=>(fst t.h fun f=>f nl sc N P s).bind fun q=>((o9 t sc N P mB).1 q.1).map fun φ=>(q.2 φ,P)
def Qh(f:Ru->SU->Option (gi×Ru)):Ru->List SU->Option (gi×Ru)
 |P,[]=>J (qG,P)
 |P,[s]=>f P s
 |P,s::a::r=>(f P s).bind fun p=>(Qh f p.2<|a::r).map fun q=>(bZ p.1 q.1,q.2)
def Qc(t:xq)(nl:Nat)(sc:Scope)(fn:Str->Bool)(N:SH):Nat->Ru->Ru->List SU->Option (gi×Ru)
 |0=>fun _ _ _=>U
 |n+1=>fun Pb=>Qh<|Pz t nl sc fn N (Qc t nl sc fn N n) Pb
section
variable{K:aT}
theorem ako:MS X K mg nl P P P (.Break pos) Vf:=fun E=>ahJ.imp fun D Z H⟨as,B,h0,cl,Y,L,hl,I,h⟩=>h cl Z H I
end
section
variable{K:aT}
theorem vY(h:Hs N P sc fn (.Name x p)=J i):i∉P/\N[i]?=J x/\Qp sc fn x=G:=by
 obtain⟨c,a,h⟩:=bY.mp h;cases a;obtain⟨b,h1,h⟩:=bY.mp h;cbv
 .rename_i hq;nofun;exact⟨hq.1,gc h1,hq.2⟩
 .nofun
theorem LG(T:l8 X K mg t)(T':∀pl,l8 (X.pin pl) K mg t)(ih:∀Pb P sts q,fb Pb P sts=J q->MB X K mg nl Pb P q.2 sts q.1)(Pb P:Ru)(s:SU)(q:gi×Ru)(h:Pz t nl X.env.scope X.fn X.N fb Pb P s=J q):MS X K mg nl Pb P q.2 s q.1:=by
 have tx:=ly (P:=P) T mB;unfold Pz at h;cbv
 .rename_i r e1;obtain⟨f,h2,h3⟩:=fE e1;obtain⟨α,h1,rfl⟩:=dO.mp h;exact T.s f h2 nl Pb P s _ _ _ α h3<|nX tx.1 _ _ h1
 .cbv
  .obtain⟨i,h1,h⟩:=bY.mp h;cbv
   .nofun
   .rename_i hcp;obtain⟨φ,h2,rfl⟩:=dO.mp h;obtain⟨a,b,c⟩:=vY h1;obtain⟨hl,hf⟩:=pk c;exact Ow a T.n hl (tx.1 _ _ h2) b (jH (Wc.mpr hcp) _ _ _) hf
  .obtain⟨φ,h2,rfl⟩:=dO.mp h;exact QM<|tx.1 _ _ h2
  .nofun;exact ajb
  .cbv
   .nofun
   .rename_i hcp;obtain⟨φ,h2,rfl⟩:=dO.mp h;exact KK (tx.1 _ _ h2)<|jH (Wc.mpr hcp) _ _ _
  .nofun;exact aja
  .cbv
   .rename_i e;nofun;subst e;exact ako
   .nofun
  .obtain⟨τ,h1,h⟩:=bY.mp h;obtain⟨p,h2,h⟩:=bY.mp h;obtain⟨r,h3,h⟩:=bY.mp h;cbv
   .rename_i hq;nofun;have a:=ih _ _ _ _ h2;have b:=ih _ _ _ _ h3;rw[hq.1]at a;rw[hq.2]at b;exact akE (tx.2 _ _ h1) a b
   .nofun
  .obtain⟨τ,h1,h⟩:=bY.mp h;obtain⟨p,h2,h⟩:=bY.mp h;cbv
   .rename_i hq;nofun;have b:=ih _ _ _ _ h2;rw[hq]at b;exact EO t.w T.st T.fr (tx.2 _ _ h1) b
   .nofun
  .obtain⟨x',h5,h⟩:=bY.mp h;obtain⟨p',rfl⟩:=R3 h5;obtain⟨i,h1,h⟩:=bY.mp h;cbv
   .nofun
   .rename_i hst;obtain⟨p,h2,h⟩:=bY.mp h;cbv
    .rename_i hq;obtain⟨a,b,c⟩:=vY h1;obtain⟨hl,hf⟩:=pk c;have bbq:=ih _ _ _ _ h2;rw[hq]at bbq;cbv
     .rename_i φ h3;nofun;exact ai6 a T.st T.fr (tx.1 _ _ h3) bbq T.n b hl hf T.c (wG (Wc.mpr hst) _) T.k.symm
     .obtain⟨ι,h3,rfl⟩:=dO.mp h;exact ai4 a T.st T.fr (fun E'=>FN (X:=X.Td E') (W:=⟨K,mg,E0⟩) T.k (T.t E' _ .re) (fun e φ h=>MV T h E') h3) bbq T.n b hl hf T.c<|wG (Wc.mpr hst) _
    .nofun
  .obtain⟨r,h0,h⟩:=bY.mp h;obtain⟨φ,h1,rfl⟩:=dO.mp h;obtain⟨f,h2,h3⟩:=fE h0;exact T.h f h2 nl Pb P _ _ _ φ h3 (tx.1 _ _ h1) fun pl=>(ly (T' pl) mB).1 _ _ h1
theorem B8(ih:∀P s q,f P s=J q->MS X K mg nl Pb P q.2 s q.1):∀(sts:List SU)(P:Ru)(q:gi×Ru),Qh f P sts=J q->MB X K mg nl Pb P q.2 sts q.1
 |[],P,q,h=>by nofun;exact akn
 |[s],P,q,h=>Q2<|ih P s q h
 |s::a::r,P,q,h=>by
  obtain⟨p,h1,h⟩:=bY.mp h;obtain⟨u,h2,rfl⟩:=dO.mp h;exact Kk (ih P s p h1)<|B8 ih (a::r) p.2 u h2
theorem wC(T:l8 X K mg t)(T':∀pl,l8 (X.pin pl) K mg t):∀(n:Nat)(Pb P:Ru)(sts:List SU)(q:gi×Ru),Qc t nl X.env.scope X.fn X.N n Pb P sts=J q->MB X K mg nl Pb P q.2 sts q.1:=X5 (fun _ _ _ _ h=>by nofun) fun n i_ Pb P sts q h=>B8 (fun P s q h=>LG T T' (i_) Pb P s q h) sts P q h
end
def vX:FE:=fun _=>.no
def g0(l:List FE):FE:=l.headD vX
def g1(l:List FE):FE:=(l.drop 1).headD vX
def g2(l:List FE):FE:=(l.drop 2).headD vX
noncomputable def Ip:Ry->Bool
 |.Slice ..=>G
 |_=>η
theorem shx(h:Ip b=η):rh b:=by
 cases b<;>first|exact fun _ _=>rfl|nofun
theorem Np(h:Ip b=η):En b:=by
 cases b<;>first|exact fun _ _=>rfl|nofun
theorem BA(h:xJ b=η)(a:CmpOp):t8 a b=η:=by
 cases b<;>first|assumption|rfl|nofun
noncomputable def Aa:Ry->Bool
 |.Name ..=>G
 |.Subscript ..=>G
 |.Attribute ..=>G
 |.Constant ..=>G
 |.Call _ (_::_) _ _=>G
 |.Dict ..=>G
 |_=>η
theorem Lz(f:Str)(env:Env)(m:Sem nE):WG (.Call g (a::es) kw pos) f env m=m:=by
 cases g<;>rfl
theorem zq(h:Aa e=G)(f:Str)(env:Env):WG e f env (eval e env)=eval e env:=by
 cases e<;>first|rfl|skip;all_goals (rename_i g a b pos;cases a<;>first|exact Lz _ _ _|nofun)
noncomputable def Ux(d:SH):Ry->Bool
 |.Name x _=>d.contains x
 |.Attribute _ f _=>d.contains f
 |.Subscript (.Name x _) _ _=>d.contains<|x++lE "[]"
 |_=>η
def iK:Ry->Bool:=fun _=>G
noncomputable def cM:Ry->Option (Ry×Str×List Ry)
 |.Call (.Attribute a f apos) es [] cpos=>if#[6]=G then J (a,f,es)else U
 |_=>U
theorem kr(h:cM e=J q):∃apos cpos,e=.Call (.Attribute q.1 q.2.1 apos) q.2.2 [] cpos/\#[6]=G:=by
 delta cM at h;cbv
 .grind
 .nofun
def cS:Ry->Option (Ry×Ry)
 |.Subscript a b _=>if Ip b=G then U else J (a,b)
 |_=>U
theorem BX(h:cS e=J q):∃pos,e=.Subscript q.1 q.2 pos/\Ip q.2=η:=by
 delta cS at h;cbv
 .cbv
  .nofun
  .nofun;mright
 .nofun
def cC:Ry->Option (Ry×CmpOp×Ry)
 |.Compare a [o] [b] _=>if xJ b=G then U else J (a,o,b)
 |_=>U
theorem alx(h:cC e=J q):∃pos,e=.Compare q.1 [q.2.1] [q.2.2] pos/\xJ q.2.2=η:=by
 delta cC at h;cbv
 .cbv
  .nofun
  .nofun;mright
 .nofun
def xE:SU->Option Ry
 |.Expr e _=>J e
 |_=>U
theorem NR(h:xE s=J e):∃pos,s=.Expr e pos:=by
 delta xE at h;cbv
 .mright
 .nofun
noncomputable def oM:SU->Option (Ry×Ry)
 |.Assign [t] e _=>J (t,e)
 |_=>U
theorem alh(h:oM s=J q):∃pos,s=.Assign [q.1] q.2 pos:=by
 unfold oM at h;cbv
 .nofun;exact⟨_,rfl⟩
 .nofun
theorem agT(h:zd e=η)(t:Ry)(l:Nat)(env:Env):swapsWithSole [t] e l env=pure η:=by
 exact jH h _ _ _
theorem akF(h:Ip ieq=η)(env:Env)(v:nE):assign (.Subscript (.Name x p1) ieq spos) env v=(do
   let ov <-holding [v] (eval (.Name x p1) env)
   let iv <-holding [v,ov] (eval ieq env)
   standAt spos
   holding [v,ov,iv] (setItem ov iv v)
   release [v,ov,iv] []):=by
 cases ieq<;>first|rfl|nofun
section
theorem yN(h:Js X W O [a] l):∃φ,l=[φ]/\JE X a (tD W O φ):=by
 match l,h with
 |[φ],h=>exact⟨φ,rfl,h.1⟩
theorem Kp(h:Js X W O [a,b] l):∃φ ψ,l=[φ,ψ]/\JE X a (tD W O φ)/\JE X b (tD W O ψ):=by
 match l,h with
 |[φ,ψ],h=>exact⟨φ,ψ,rfl,h.1,h.2.1⟩
theorem js3(h:Js X W O [a,b,c] l):∃φ ψ χ,l=[φ,ψ,χ]/\JE X a (tD W O φ)/\JE X b (tD W O ψ)/\JE X c (tD W O χ):=by
 match l,h with
 |[φ,ψ,χ],h=>exact⟨φ,ψ,χ,rfl,h.1,h.2.1,h.2.2.1⟩
theorem KM.m(h:KM X W f):dr X W f:=fun O e es b a h1 h2=>FQ<|h O e es b a h1 h2
end
section
variable{X:Cx}{W:Wd}
def yc(c:Operator)(g:D->D->R D):Fm:=fun _ _ _ e=>match e with
 |.BinOp a o b _=>if o=c then J ([a,b],fun l=>aH g (g0 l)<|g1 l)else U
 |_=>U
theorem lr(c:eJ X (Yo op) r)(hd:wo W r g):dr X W<|yc op g:=fun O e es b d h a=>by
 delta yc at h;cbv
 .cbv
  .rename_i hq;subst hq;nofun;obtain⟨φ,ψ,rfl,h1,h2⟩:=Kp a;exact( IG (fun h1 h2=>Wn c h1 h2) rfl hd h1 h2)
  .nofun
 .nofun
def gH(a:CmpOp)(g:D->D->R D)(p:Ry->Bool):Fm:=fun _ _ _ e=>(cC e).bind fun q=>if q.2.1=a/\p q.2.2=G then J ([q.1,q.2.2],fun l=>aH g (g0 l)<|g1 l)else U
def fQ(f:Fm):Fq:=fun a N O e=>(f a N O e).map fun q=>(q.1,fun l=>dC<|q.2 l)
theorem CZ(h:gH op g p sc N O e=J (es,b)):∃x y pos,e=.Compare x [op] [y] pos/\es=[x,y]/\b=(fun l=>aH g (g0 l)<|g1 l)/\xJ y=η:=by
 mstop
 obtain⟨q,h1,h⟩:=h;cbv
 .rename_i hq;nofun;obtain⟨pos,rfl,h2⟩:=alx h1;exact⟨_,_,_,by rw[hq.1],rfl,rfl,h2⟩
 .nofun
theorem bz(c:eJ X (UI op) r)(hd:wo W r g):dr X W (gH op g p)/\Sn X W (fQ<|gH op g p):=by
 refine⟨fun O e es b d h a=>?_,fun O e es b d h a=>?_⟩
 .obtain⟨x,y,pos,rfl,rfl,rfl,hs⟩:=CZ h;obtain⟨φ,ψ,rfl,h1,h2⟩:=Kp a;exact(fun c hd k l f =>  IG (fun h1 h2=>lrc c h1 h2 f) rfl hd k l) c hd h1 h2<|BA hs _
 .obtain⟨q,h,hq⟩:=dO.mp h
  obtain⟨x,y,pos,rfl,j,i,hs⟩:=CZ h;cases hq;rw[j]at a;obtain⟨φ,ψ,rfl,h1,h2⟩:=Kp a;rw[i];exact Qi c hd h1 h2<|BA hs _
def Zs(g:D->D->R D)(p:Ry->Bool):Fm:=fun _ _ _ e=>(cS e).bind fun q=>if p q.1=G then J ([q.1,q.2],fun l=>aH g (g0 l)<|g1 l)else U
theorem P6(k:∀O a b pos φ ψ,Ip b=η->JE X a (tD W O φ)->JE X b (tD W O ψ)->JE X (.Subscript a b pos) (tD W O<|aH g φ ψ)):dr X W<|Zs g p:=fun O e es b i h c=>by
 mstop
 obtain⟨q,h1,h⟩:=h;cbv
 .nofun;obtain⟨pos,rfl,h2⟩:=BX h1;obtain⟨φ,ψ,rfl,f,d⟩:=Kp c;exact k _ _ _ _ _ _ h2 f d
 .nofun
section
variable{X:Cx}{W:Wd}
theorem akb(hr:DX X r)(hd:wo W r g):dr X W<|Zs g p:=P6 fun O a b pos φ ψ hs h1 h2=>Tj hr hd h1 h2<|shx hs
end
section
variable{X:Cx}{W:Wd}
theorem Qn(hu:X.A.units+64<cLine):dr X W<|Zs wN p:=P6 fun O a b pos φ ψ hs h1 h2=>alM hu h1 h2<|Np hs
end
def oP(o:Option Ry)(φ:FE):Sd->R (Option Int):=match o with
 |none=>Hh
 |some _=>gI φ
def X8(g:D->Option Int->Option Int->R D):Fm:=fun _ _ _ e=>match e with
 |.Subscript a (.Slice lo hi U _) _=>J (a::(lo.toList++hi.toList),fun l=>Jm g (g0 l) (oP lo<|g1 l)<|oP hi<|if lo.isSome=G then g2 l else g1 l)
 |_=>U
theorem QZ(d:V2 X r)(hd:ZQ W r g):dr X W<|X8 g:=fun O e es b i h c=>by
 delta X8 at h;cbv
 .rename_i a lo hi _ _;nofun;cases lo with
  |none=>cases hi with
   |none=>obtain⟨φ,rfl,h1⟩:=yN c;exact rJ d hd h1 rl rl
   |some u=>obtain⟨φ,ψ,rfl,h1,h2⟩:=Kp c;exact rJ d hd h1 rl<|ro h2
  |some v=>cases hi with
   |none=>obtain⟨φ,ψ,rfl,h1,h2⟩:=Kp c;exact rJ d hd h1 (ro h2) rl
   |some u=>obtain⟨φ,ψ,χ,rfl,h1,h2,f⟩:=js3 c;exact rJ d hd h1 (ro h2)<|ro f
 .nofun
def SJ:Fm:=fun _ _ _ e=>match e with
 |.Tuple es _ _=>if es.all al=G then J (es,fun l=>uD<|aL l)else U
 |_=>U
section
variable{X:Cx}{W:Wd}
theorem aiU:dr X W SJ:=fun O e es b φs h hJ=>by
 unfold SJ at h;cbv
 .cbv
  .rename_i hq;nofun;exact NQ<|xS hJ hq
  .nofun
 .nofun
end
def LC:Fm:=fun _ _ _ e=>match e with
 |.List es _=>if es.all al=G then J (es,fun l=>uw<|aL l)else U
 |_=>U
theorem Bq:KM X W LC:=fun O e es b c h a=>by
 delta LC at h;cbv
 .cbv
  .rename_i hq;nofun;exact Uv<|xS a hq
  .nofun
 .nofun
def uo(c f:Str):Fm:=fun _ _ _ e=>match e with
 |.Attribute a g _=>if g=f/\Aa a=G then J ([a],fun l=>iw c f<|g0 l)else U
 |_=>U
theorem Co(j:DO X.K By c=J (J<|.ref C))(g:UR X.K C)(a:a9 X.K C f)(i:W.K=X.K):dr X W<|uo c f:=fun O e es b k h d=>by
 delta uo at h;cbv
 .cbv
  .rename_i hq;nofun;obtain⟨φ,rfl,h1⟩:=yN d;rw[hq.1];exact Nn X.K j g a h1 (zq hq.2 f _) rfl i
  .nofun
 .nofun
def fB(x:Str)(F:Rx->R D):Fm:=fN x (fun n=>decide (0<n)) fun l=>aI F<|aL l
theorem No{c:FA->FE}{t:Ru->FE->TE}(k:∀O a es p pos α,Gl X x->TN x->al a=G->es.all al=G->JA X (a::es) (zx W O α)->JE X (.Call (.Name x p) (a::es) [] pos) (t O<|c α)):
  ∀O e es b d,fN x (fun n=>decide (0<n)) (fun l=>c<|aL l) X.env.scope X.N O e=J (es,b)->Js X W O es d->JE X e (t O<|b d):=fun O e es b d h g=>by
 obtain⟨p,pos,rfl,h1,h2,i,rfl⟩:=Nj h;cases es with
 |nil=>trivial
 |cons a r=>
  have f:=h2;rw[Vg,oR]at f;exact k _ _ _ _ _ _ (eI h1).1 (eI h1).2 f.1 f.2<|xS g h2
theorem sW{id:String}(b:bI X (.builtin id) r)(hd:nU W r F)(c:X.mg x=U)(g:Vl x=J (.builtin id))(h:(x≠"__name__")<|>Sm):dr X W<|fB x F:=
 No fun O a es p pos α h1 h2 f d e=>Kw b hd c g e h1 f d h h2
theorem wH(b:bI X (.type T) r)(hd:nU W r F)(c:X.mg x=U)(g:Vl x=J (.type T))(h:(x≠"__name__")<|>Sm):dr X W<|fB x F:=
 No fun O a es p pos α h1 h2 f d e=>Ku b hd c g e h1 f d h h2
section
variable{X:Cx}{W:Wd}
theorem vt(d:X.mg x=U)(c:bootBuiltins x=J (.type n))(b:(x≠"__name__")<|>Sm)(a:(x==("__debug__":Str))=η<|>Sm):yy X W x<|.ty n:=fun O p e=>Iz d c e b a
end
theorem i3(b:X.mg x=J u)(r:aP v u)(hd:∀H,bQ W.K H d v)(a:TN x<|>Sm):yy X W x d:=fun O p c=>Oy b r hd c a
def WW(b:UnaryOp)(g:D->R D):Fm:=fun _ _ _ e=>match e with
 |.UnaryOp o a _=>if o=b then J ([a],fun l=>zz g<|g0 l)else U
 |_=>U
theorem QU(c:KD X (unaryOp op) r)(hd:YB W r g):dr X W<|WW op g:=fun O e es b d h a=>by
 delta WW at h;cbv
 .cbv
  .rename_i hq;subst hq;nofun;obtain⟨φ,rfl,h1⟩:=yN a;exact abg c hd h1
  .nofun
 .nofun
def Jh:Fm:=fun _ _ _ e=>match e with
 |.UnaryOp .Not a _=>J ([a],fun l=>Oz<|g0 l)
 |.BoolOp _ [a] _=>J ([a],g0)
 |.BoolOp .And (a::b::r) pos=>J ([a,.BoolOp .And (b::r) pos],fun l=>GS (g0 l)<|g1 l)
 |.BoolOp .Or (a::b::r) pos=>J ([a,.BoolOp .Or (b::r) pos],fun l=>Jn (g0 l)<|g1 l)
 |_=>U
section
variable{X:Cx}{W:Wd}
theorem aj9:dr X W Jh:=fun O e es b φs h hJ=>by
 unfold Jh at h;cbv
 .nofun;obtain⟨φ,rfl,h1⟩:=yN hJ;exact Xax h1
 .nofun;obtain⟨φ,rfl,h1⟩:=yN hJ;exact Ij h1
 .nofun;obtain⟨φ,ψ,rfl,h1,h2⟩:=Kp hJ;exact Uf h1 h2
 .nofun;obtain⟨φ,ψ,rfl,h1,h2⟩:=Kp hJ;exact abJ h1 h2
 .nofun
end
def Zl(m:Str)(n:Nat)(c:List FE->FE):Fm:=fun _ _ _ e=>(cM e).bind fun q=>if q.2.1=m/\q.2.2.length=n/\Aa q.1=G/\q.2.2.all al=G then J (q.1::q.2.2,c)else U
theorem O7(h:Zl m n c sc N O e=J (es,b)):∃a r apos cpos,e=.Call (.Attribute a m apos) r [] cpos/\es=a::r/\b=c/\r.length=n/\Aa a=G/\r.all al=G/\#[6]=G:=by
 mstop
 obtain⟨q,h1,h⟩:=h;cbv
 .rename_i hq;nofun;obtain⟨apos,cpos,rfl,h2⟩:=kr h1;exact⟨_,_,_,_,by rw[hq.1],rfl,rfl,hq.2.1,hq.2.2.1,hq.2.2.2,h2⟩
 .nofun
def S5(m:Str)(n:Nat)(g:Str->Rx->R D):Fm:=Zl m n fun l=>DN g (g0 l)<|aL<|l.drop 1
theorem uc{id:String}(d:Slot "str" m id)(j:typeOf (.builtin id)=pure (.type "method_descriptor"))(k:Oj X id r)(hd:V7 W r g)(t:0<n<|>Sm)(o:n<29<|>Sm):dr X W<|S5 m n g:=fun O e es b i h f=>by
 obtain⟨a,r,apos,cpos,rfl,rfl,rfl,p,s,hs,q⟩:=O7 h;cases r with
 |nil=>mright
 |cons c r=>
  cases i with
  |nil=>exact f.elim
  |cons φ l=>exact akK d j k hd f.1 (xS f.2 hs) (zq s _ _) q hs (by rw[p];exact o)
def XG(x:Str)(tab:List<|Str×D):Fm:=fun a _ _ e=>(cS e).bind fun q=>if ug q.1=J x/\CA a x=G then J ([q.2],fun l=>zz (Xd tab)<|g0 l)else U
theorem Ir(c:X.mg x=J (.ref a))(l:X.K.lookup a=J ⟨.type "dict",U,.dict es n,#[]⟩)(k:ue X.w.params es.toList)
  (m:∀y d,tab.lookup y=J d->∃v u,DO X.K a y=J (J u)/\aP v u/\∀H,bQ W.K H d v):dr X W<|XG x tab:=fun O e es b f h g=>by
 mstop
 obtain⟨⟨o,i⟩,h1,h⟩:=h;obtain⟨pos,rfl,h2⟩:=BX h1;cbv
 .rename_i hq;nofun;obtain⟨_,rfl⟩:=AY hq.1;obtain⟨φ,rfl,j⟩:=yN g;exact KP tab c l k m j (eI hq.2).1 (eI hq.2).2<|Np h2
 .nofun
def UO(K:aT)(mg:Sq)(q:Str×D):Prop:=∃v u,mg q.1=J u/\aP v u/\(∀H,bQ K H q.2 v)/\∀p,u=.ref p->∃a,K.lookup p=J a/\a.cls=.type "tuple"/\a.dict=U
def oN(a:Scope)(N:SH)(O:Ru)(e:Ry):Option Nat:=(ug e).bind<|owB a N O
theorem afj(h:oN sc N O e=J i):∃x p,e=.Name x p/\N[i]?=J x/\i∈O/\m6 sc x/\TN x/\#[2]=η:=by
 mstop
 obtain⟨x,h1,h⟩:=h;obtain⟨p,rfl⟩:=AY h1;exact⟨x,p,rfl,(by
   mstop
   obtain⟨j,h1,h⟩:=h;cbv
   .rename_i hq;nofun;exact⟨gc h1,hq.1,tV hq.2⟩
   .nofun)⟩
def Q3:Ry->Bool
 |.Tuple ..=>G
 |_=>η
theorem Lq(h:Q3 g=G):∃es k p,g=.Tuple es k p:=by
 cases g<;>first|lia|nofun
def fI(x:Str)(n:Nat)(t:Bool)(c:FA->FA):Fi:=fun a _ _ g e=>(cN e).bind fun q=>if q.1=x/\q.2.length=n/\CA a x=G/\q.2.all al=G/\(t=G->Q3 g=G)then J (q.2,fun l=>c<|aL l)else U
theorem Ng(k:∀O g es p pos α,es.length=n->Gl X x->es.all al=G->(t=G->Q3 g=G)->JA X es (zx W O α)->JI X g (.Call (.Name x p) es [] pos) (iD W O<|c α)):PZ X W<|fI x n t c:=fun O g e es b f h a=>by
 mstop
 obtain⟨q,d,h⟩:=h;obtain⟨p,pos,rfl⟩:=nD d;cbv
 .rename_i hq;nofun;refine uf hq fun h1 h2 j i l=>?_
  rw[h1];exact k _ _ _ _ _ _ h2 (eI j).1 i l<|xS a i
 .nofun
section
variable{X:Cx}{W:Wd}
theorem aiS(hm:X.mg "range"=U):PZ X W<|fI "range" 1 η p9:=Ng fun O g es p pos α hn hg hs _ ha=>by
 match es,hn with
 |[a],_=>exact DF hm ha hg (by simpa using hs)
end
section
variable{X:Cx}{W:Wd}
theorem ahC(hm:X.mg "range"=U):PZ X W<|fI "range" 2 η nO:=Ng fun O g es p pos α hn hg hs _ ha=>by
 match es,hn with
 |[a,b],_=>
  have hs  := by simpa using hs
  exact agH hm ha hg (by rw[bC hs.1,bC hs.2];rfl) (by rw[bC hs.2];rfl)
end
def Vp:Fs:=fun sc N O s=>(oM s).bind fun q=>(cS q.1).bind fun r=>if zd q.2=G then U else(oN sc N O r.1).map fun i=>([r.2,q.2],fun l=>DT i (g0 l)<|g1 l)
section
variable{X:Cx}{W:Wd}
theorem aiP(hu:X.A.units+64<cLine):IK X W Vp:=fun Ob O s es b φs h hJ=>by
 mstop
 obtain⟨⟨t,e⟩,h0,h⟩:=h;obtain⟨_,rfl⟩:=alh h0
 mstop
 obtain⟨⟨u,v⟩,h1,h⟩:=h;obtain⟨_,e1,h2⟩:=BX h1;subst e1;cbv
 .nofun
 .rename_i hc
  replace h:=dO.mp h
  obtain⟨i,h3,h⟩:=h;nofun;refine XX (afj h3) fun x p r0_ a1 a2 a3 a4 a5=>?_;subst r0_;obtain⟨φ,ψ,rfl,h4,h5⟩:=Kp hJ;exact aiJ hu a2 h5 h4 a1 a3 a4 a5 (agT (Wc.mpr hc) _ _ _) rfl rfl (akF h2 _)
end
def P4:Fs:=fun a N O s=>match s with
 |.AugAssign (.Name x _) .Add e _=>(Mm N x).bind fun i=>if i∉O/\N.Nodup/\a.names.lookup x=J .local then J ([e],fun l=>lz i<|g0 l)else U
 |_=>U
theorem J4:IK X W P4:=fun Ob O s es b c h a=>by
 delta P4 at h;cbv
 .obtain⟨i,h1,h⟩:=bY.mp h
  cbv
  .rename_i hq;nofun;obtain⟨φ,rfl,h2⟩:=yN a;exact DZ hq.1 hq.2.1 (.inl hq.2.2) h2 (gc h1)<|.inr hq.2.2
  .nofun
 .nofun
end
structure FZ(Yq0:Cx)(P:Tc)(w:Sl)(K:aT)(mg:Sq)(base:T3)(k:Nat):Prop where
 y:FY Yq0 P w K mg base k
 x:qQ Yq0
 st:Yq0.stack=Yq0.env::Yq0.outer
 fr:Yq0.env.frame=J Yq0.env.locals
section
variable{P:Tc}{w:Sl}{K:aT}{mg:Sq}{base:T3}
theorem FY.pin(y:FY Yq0 P w K mg base k)(pl:TQ):FY (Yq0.pin pl) P w K mg base k:=⟨y.eK,y.acR,y.eP,y.eW,y.mm,y.hr,y.cm⟩
theorem FZ.pin(y:FZ Yq0 P w K mg base k)(pl:TQ):FZ (Yq0.pin pl) P w K mg base k:=⟨y.y.pin pl,fun b a=>let⟨o,ho⟩:=y.x b a;⟨o,Le _ ho⟩,y.st,y.fr⟩
abbrev FO(P:Tc)(w:Sl)(K:aT)(mg:Sq)(base:T3)(j:Nat)(f:SA)(fd:Wj)(ps:SH)(Pf:Ru)(F:FM):Prop:=T8 P w K mg base (oI P w mg) j f fd ps<|sJ K mg Pf F
def wE(P:Tc)(w:Sl)(K:aT)(mg:Sq)(base:T3)(j:Nat)(f:FK):Prop:=∀a k,FZ a P w K mg base k->j<=k->∀c e es b α,f a.env.scope a.N c e=J (es,b)->MA a K mg c es α->ME a K mg c e (b α)
def TJ(P:Tc)(w:Sl)(K:aT)(mg:Sq)(base:T3)(j:Nat)(f:V0):Prop:=∀c k,FZ c P w K mg base k->j<=k->∀d e a b φ,f c.env.scope c.N d e=J (a,b)->(∀g,JE (c.Td g) a<|tD ⟨K,mg,E0⟩ [] φ)->ME c K mg d e (b φ)
def zZ(P:Tc)(w:Sl)(K:aT)(mg:Sq)(base:T3)(j:Nat)(f:LH):Prop:=∀a k,FZ a P w K mg base k->j<=k->a.N.Nodup->∀nl Pb c s es b P' α,f nl a.env.scope a.fn a.N c s=J (es,b,P')->MA a K mg c es α->MS a K mg nl Pb c P' s (b α)
abbrev V6:=Nat->Scope->SH->Ru->SU->Option (Ry×(FM->gi))
def Qm(P:Tc)(w:Sl)(K:aT)(mg:Sq)(base:T3)(j:Nat)(f:V6):Prop:=∀a k,FZ a P w K mg base k->j<=k->a.N.Nodup->∀nl Pb c s e b φ,f nl a.env.scope a.N c s=J (e,b)->ME a K mg c e φ->(∀pl,ME (a.pin pl) K mg c e φ)->MS a K mg nl Pb c c s (b φ)
def Zy(x:Str)(Pf:Ru)(F:FM):FK:=fun b _ _ e=>(cN e).bind fun q=>match q.2 with
 |a::es=>if q.1=x/\CA b x=G/\(a::es).all al=G then J (a::es,dm Pf F)else U
 |[]=>U
theorem Pj{st:SU}(D:Def K mg x st ps f fd)(SK:FO P w K mg base j f fd ps Pf F):wE P w K mg base j<|Zy x Pf F:=fun Yq0 k⟨⟨e1,e2,e3,e4,e5,hr,_⟩,hx,_,_⟩hj Pn e es b α h ha=>by
 subst e1 e2 e3 e4 e5;obtain⟨⟨y,l⟩,c,a⟩:=bY.mp h;clear h;obtain⟨_,_,rfl⟩:=nD c;have h:=a;dsimp only at h⊢;cbv
 .cbv
  .rename_i hq;obtain⟨rfl,h1,h2⟩:=hq;nofun;obtain⟨g1,g2⟩:=eI h1;rw[Vg,oR]at h2;exact Lx D SK hr ha hj hx g1 g2 h2.1 h2.2
  .nofun
 .nofun
def Zw(T:List<|Str×FM)(Pf:Ru):FK:=fun b N c e=>(cN e).bind fun q=>match q.2 with
 |a::es=>(Mm N q.1).bind fun i=>if OK b q.1=G/\(a::es).all al=G then J (a::es,fY i T Pf)else U
 |[]=>U
theorem Pk(p:∀g F,T.lookup g=J F->∃f fd ps,DO K By g=J (J<|.ref f)/\Xq K (.ref f)=G/\cf K fd ps []/\FO P w K mg base j f fd ps Pf F):wE P w K mg base j<|Zw T Pf:=fun Yq0 k⟨⟨e1,e2,e3,e4,e5,hr,_⟩,hx,_,_⟩hj Pn e es b α h ha=>by
 subst e1 e2 e3 e4 e5;obtain⟨⟨y,l⟩,o,m⟩:=bY.mp h;clear h;obtain⟨_,_,rfl⟩:=nD o;have h:=m;dsimp only at h⊢;cbv
 .obtain⟨i,d,h⟩:=bY.mp h;cbv
  .rename_i hq;nofun;obtain⟨c,n,a⟩:=tV hq.1;have h2:=hq.2;rw[Vg,oR]at h2;exact F3 (gc d) c n a p hr ha hj hx h2.1 h2.2
  .nofun
 .nofun
def YN(n m:Str)(Pf:Ru)(F:FM):FK:=fun b N c e=>(cM e).bind fun u=>match u.2.2 with
 |[]=>(EN b N c u.1).bind fun q=>if u.2.1=m then J ([],fun _=>dM q.1 n m Pf F bj)else U
 |a::es=>(EN b N c u.1).bind fun q=>if u.2.1=m/\(a::es).all al=G/\(a::es).length<29 then J (a::es,dM q.1 n m Pf F)else U
theorem BR(h1:es.all al=G)(c:es.length<29)(a:(apos.endLine==pos.line)=G):Ep env (.Name x p) m es apos pos:=by
 have b:methodCallForm (es.length+[].length) (X3 pos<|Uu es env) (backToKw pos<|jh [] env)=G:=tz h1 c;refine⟨(do let r <-importBound (.Name x p) env;pure (r.getD G)),?_⟩;rw[arm_eval_Call];delta methodCall;rw[b];have d:methodCallPos G (.Name x p) env apos pos=pure pos:=by
  delta methodCallPos;rw[a];rfl
 rw[d];rfl
theorem Rg(x:DO K By n=J (J<|.ref C))(c:UR K C)(v:kF K C m f)(z:cf K fd ps [])(SK:FO P w K mg base j f fd ps Pf F):wE P w K mg base j<|YN n m Pf F:=fun Yq0 k⟨⟨e1,e2,e3,e4,e5,hr,_⟩,hx,_,_⟩hj Pn e es b α h ha=>by
 subst e1 e2 e3 e4 e5;obtain⟨⟨o,y,l⟩,D,A⟩:=bY.mp h;clear h;obtain⟨H,E,rfl,d⟩:=kr D;have h:=A;dsimp only at h d⊢;cbv
 .mstop
  obtain⟨q,t,h⟩:=h;cbv
  .rename_i hq;subst hq;obtain⟨p,rfl,r,i,g,u,s⟩:=ii t;nofun;exact HE r i g u s x c v SK z hr hj hx<|BR rfl ∅ d
  .nofun
 .mstop
  obtain⟨q,t,h⟩:=h;cbv
  .rename_i hq;obtain⟨rfl,h2,B⟩:=hq;refine c6 (ii t) fun p I r i g u s=>?_;subst I;nofun;have a:=h2;rw[Vg,oR]at a;exact KJ r i g u s x c v SK z hr ha hj hx a.1 a.2<|BR h2 B d
  .nofun
def YI:FK:=fun b N c e=>(cM e).bind fun u=>match u.2.2 with
 |[a]=>(EN b N c u.1).bind fun q=>if u.2.1="append"/\al a=G then J ([a],fun α Y L=>if(xm L q.1).isSome=G then L3 q.1 α Y L else .no)else U
 |_=>U
theorem Pu:wE P w K mg base 0 YI:=fun Yq0 k⟨⟨e1,e2,e3,e4,e5,hr,_⟩,hx,_,_⟩hj Pn e es b α h ha=>by
 obtain⟨⟨o,y,l⟩,n,i⟩:=bY.mp h;clear h;obtain⟨s,r,rfl,a⟩:=kr n;have h:=i;dsimp only at h a⊢;cbv
 .mstop
  obtain⟨q,j,h⟩:=h;cbv
  .rename_i hq;left;obtain⟨rfl,h2⟩:=hq;nofun;obtain⟨p,rfl,f,d,c,m,g⟩:=ii j;right;exact Ql f ha d h2 a c m g rfl
  .nofun
 .nofun
def VM:Ry->Option (Ry×Str)
 |.Attribute o g _=>J (o,g)
 |_=>U
theorem Hg(h:VM e=J q):∃p,e=.Attribute q.1 q.2 p:=by
 delta VM at h;cbv
 .nofun;exact⟨_,rfl⟩
 .nofun
def Wm(n f:Str):V0:=fun b N c e=>(cM e).bind fun u=>(VM u.1).bind fun v=>match u.2.2 with
 |[a]=>(EN b N c v.1).bind fun q=>if v.2=f/\u.2.1="append"/\al a=G then J (a,nr q.1 n f)else U
 |_=>U
theorem El(t:DO K By n=J (J<|.ref C))(r:UR K C)(x:a9 K C f):TJ P w K mg base 0<|Wm n f:=fun Yq0 k⟨⟨e1,e2,e3,e4,e5,hr,_⟩,hx,_,_⟩hj Pn e a b φ h ha=>by
 subst e1 e2 e3 e4 e5;obtain⟨⟨o,y,l⟩,B,v⟩:=bY.mp h;clear h;obtain⟨E,D,rfl,c⟩:=kr B;obtain⟨⟨o',g⟩,m,h⟩:=bY.mp v;obtain⟨_,d⟩:=Hg m;dsimp only at h c d⊢;subst d;cbv
 .mstop
  obtain⟨q,z,h⟩:=h;cbv
  .rename_i hq;obtain⟨rfl,rfl,h2⟩:=hq;nofun;refine c6 (ii z) fun p F s j i A u=>?_;subst F;exact LV s t r x ha j h2 c i A u rfl rfl rfl
  .nofun
 .nofun
def WX(n f:Str):FK:=fun a N b e=>(cM e).bind fun u=>(VM u.1).bind fun v=>match u.2.2 with
 |[]=>(EN a N b v.1).bind fun q=>if v.2=f/\u.2.1="pop"then J ([],fun _=>mh q.1 n f)else U
 |_=>U
theorem EW(s:DO K By n=J (J<|.ref C))(m:UR K C)(v:a9 K C f):wE P w K mg base 0<|WX n f:=fun Yq0 k⟨⟨e1,e2,e3,e4,e5,hr,_⟩,hx,_,_⟩hj Pn e es b α h ha=>by
 subst e1 e2 e3 e4 e5;obtain⟨⟨o,y,l⟩,A,u⟩:=bY.mp h;clear h;obtain⟨D,B,rfl,a⟩:=kr A;obtain⟨⟨o',g⟩,j,h⟩:=bY.mp u;obtain⟨_,c⟩:=Hg j;dsimp only at h a c⊢;subst c;cbv
 .mstop
  obtain⟨q,x,h⟩:=h;cbv
  .rename_i hq;left;obtain⟨rfl,rfl⟩:=hq;nofun;obtain⟨p,rfl,r,i,d,z,t⟩:=ii x;right;exact KA r s m v i a d z t rfl rfl rfl
  .nofun
 .nofun
def Xh(xs:SH):LH:=fun nl b fn N a s=>match s with
 |.Assign [.Name x p] (.List es _) _=>(Hs N a b fn<|.Name x p).bind fun i=>if xs.contains x=G then J (es,P3 nl i,i::a)else U
 |_=>U
theorem Q6:zZ P w K mg base 0<|Xh xs:=fun d k _ m e nl Pb l s es b P' α h g=>by
 delta Xh at h;cbv
 .obtain⟨i,h1,h⟩:=bY.mp h;cbv
  .nofun;obtain⟨a,b,c⟩:=vY h1;obtain⟨j,f⟩:=pk c;exact PD a e j g b rfl f
  .nofun
 .nofun
def XQ(n:Str)(F0:FM):LH:=fun nl d fn N b s=>match s with
 |.Assign [t] c _=>(ug t).bind fun _=>(cN c).bind fun u=>(Hs N b d fn t).bind fun i=>if u.1=n/\CA d n=G then(match u.2 with
  |[]=>J ([],fun _=>vf nl i n F0 bj,i::b)
  |a::es=>if(a::es).all al=G then J (a::es,vf nl i n F0,i::b)else U)else U
 |_=>U
theorem Q4(m:DO K By n=J (J<|.ref C))(a:mg n=J (.ref C))(M:Mk K C g)(c:cf K fd ps [])(SK:FO P w K mg base j g fd ps [0] F0):zZ P w K mg base (j+1)<|XQ n F0:=fun Yq0 k⟨⟨e1,e2,e3,e4,e5,hr,_⟩,hx,_,_⟩hj hN nl Pb Pn s es b P' α h ha=>by
 subst e1 e2 e3 e4 e5;delta XQ at h;cbv
 .obtain⟨x,z,e⟩:=bY.mp h;clear h;obtain⟨p,rfl⟩:=AY z;obtain⟨⟨y,l⟩,v,u⟩:=bY.mp e;clear e;obtain⟨_,_,rfl⟩:=nD v;obtain⟨i,h1,h⟩:=bY.mp u;obtain⟨f,d,t⟩:=vY h1;obtain⟨q,o⟩:=pk t;dsimp only at h⊢;cbv
  .rename_i hq;obtain⟨rfl,r⟩:=hq;obtain⟨g1,g2⟩:=eI r;cbv
   .left;nofun;right;exact Fp f hN q d rfl o m a M SK c hr hj g1 g2
   .cbv
    .rename_i h2;nofun;rw[Vg,oR]at h2;exact LI f hN q d rfl o m a M SK c hr ha hj g1 g2 h2.1 h2.2
    .nofun
  .nofun
 .nofun
def Z9(x n:Str)(F0 F:FM):FK:=fun b N d e=>(cN e).bind fun u=>match u.2 with
 |[c]=>(cN c).bind fun v=>(match v.2 with
  |a::es=>if u.1=x/\v.1=n/\CA b x=G/\CA b n=G/\(a::es).all al=G then J (a::es,xw n F0 F)else U
  |[]=>U)
 |_=>U
theorem Of{st:SU}(o:DO K By n=J (J<|.ref C))(d:mg n=J (.ref C))(M:Mk K C g)(s:cf K fd ps [])(SK:FO P w K mg base j g fd ps [0] F0)
  (D:Def K mg x st ps2 f fd2) (m:FO P w K mg base j2 f fd2 ps2 [0] F) (a:j+1<=j2):wE P w K mg base j2<|Z9 x n F0 F:=fun Yq0 k⟨⟨e1,e2,e3,e4,e5,hr,_⟩,hx,_,_⟩hj Pn e es b α h ha=>by
 subst e1 e2 e3 e4 e5;obtain⟨⟨y,l⟩,r,p⟩:=bY.mp h;clear h;obtain⟨_,_,rfl⟩:=nD r;have h:=p;dsimp only at h⊢;cbv
 .obtain⟨⟨z,l⟩,q,i⟩:=bY.mp h;clear h;obtain⟨_,_,rfl⟩:=nD q;have h:=i;dsimp only at h⊢;cbv
  .cbv
   .rename_i hq;obtain⟨rfl,rfl,h1,h2,c⟩:=hq;nofun;obtain⟨g1,g2⟩:=eI h1;obtain⟨g3,g4⟩:=eI h2;rw[Vg,oR]at c;exact Ds o d M SK s hr ha (RW a hj) g3 g4 c.1 c.2 D m hj hx g1 g2
   .nofun
  .nofun
 .nofun
def VI(n f:Str):LH:=fun nl b fn N a s=>match s with
 |.AugAssign (.Attribute o g _) .Add (.Constant (.int j) _ _) _=>(EN b N a o).bind fun q=>if g=f then J ([],fun _=>uE q.1 n f j,a)else U
 |_=>U
theorem Ev(m:DO K By n=J (J<|.ref C))(d:UR K C)(a:a9 K C f):zZ P w K mg base 0<|VI n f:=fun Yq0 k⟨⟨e1,e2,e3,e4,e5,hr,_⟩,hx,_,_⟩hj hN nl Pb Pn s es b P' α h ha=>by
 subst e1 e2 e3 e4 e5;delta VI at h;cbv
 .mstop
  obtain⟨q,c,h⟩:=h;cbv
  .rename_i hq;subst hq;nofun;refine c6 (ii c) fun p o g j e i l=>?_;subst o;exact K8 g m d a j e i l rfl
  .nofun
 .nofun
def VQ(b:Str):LH:=fun nl d fn N e s=>match s with
 |.Raise (J c) U _=>(cN c).bind fun u=>(match u.2 with
  |a::es=>if u.1=b/\CA d b=G/\(a::es).all al=G then J (a::es,RL nl b,e)else U
  |[]=>U)
 |_=>U
theorem IE(a:mg cn=J (.ref C))(e:ek K C Gj "ValueError.__new__"=G):zZ P w K mg base 0<|VQ cn:=fun Yq0 k⟨⟨e1,e2,e3,e4,e5,hr,cm⟩,hx,_,_⟩hj hN nl Pb Pn s es b P' α h ha=>by
 subst e1 e2 e3 e4 e5;delta VQ at h;cbv
 .obtain⟨⟨y,l⟩,d,c⟩:=bY.mp h;clear h;obtain⟨_,_,rfl⟩:=nD d;have h:=c;dsimp only at h⊢;cbv
  .cbv
   .rename_i hc;obtain⟨rfl,h1,h2⟩:=hc;nofun;obtain⟨g1,g2⟩:=eI h1;exact FB a rfl e ha cm.1 hx g1 g2 h2
   .nofun
  .nofun
 .nofun
def RK(n f:Str):V6:=fun nl a N b s=>match s with
 |.Assign [.Attribute o g _] e _=>(EN a N b o).bind fun q=>if g=f/\zd e=η then J (e,Bs nl q.1 n f)else U
 |_=>U
theorem vR(o:DO K By n=J (J<|.ref C))(d:UR K C)(a:a9 K C f):Qm P w K mg base 0<|RK n f:=fun Yq0 k⟨⟨e1,e2,e3,e4,e5,hr,_⟩,hx,_,_⟩hj hN nl Pb Pn s e b φ h ha _=>by
 subst e1 e2 e3 e4 e5;delta RK at h;cbv
 .mstop
  obtain⟨q,c,h⟩:=h;cbv
  .rename_i hq;left;obtain⟨rfl,h2⟩:=hq;nofun;obtain⟨p,rfl,i,l,g,j,m⟩:=ii c;right;exact K7 i o d a ha l g j m (jH h2 _ _ _) rfl
  .nofun
 .nofun
end
section
variable{X:Cx}{W:Wd}{O:Ru}{φ:FE}
def tFi(c:Str)(ta:TE):TE:=fun Z H Q=>ta Z H fun v H1=>∃i,v=.int i/\i.natAbs<10^30/\(lE<|toString i).length<=1000/\Q (.str<|c++lE (toString i)) H1
theorem R5(n:PE X a ta)(b:c.length<=1000):PE X (.JoinedStr [.Constant (.str c) j p1,.FormattedValue a (-1) U p2] pos)<|tFi c ta:=by
 intro aa s Z H Q I h;refine wpAny_JoinedStr ?_;refine mO (k:=j) (pos:=p1) ⟨c,s.toks,rfl,?_,?_⟩
 .rw[empty_app,XB];exact RW b ∎
 have g:Inv X aa Z H {s with toks:=s.toks+1}:=I.tok<|s.toks+1;refine wpAny_FormattedValue_plain<|bP (n aa _ Z H _ g h) fun v o m=>jZ m fun x H1 f r1 q1=>?_;left;obtain⟨i,rfl,l,p,q⟩:=q1;obtain⟨tk,rfl⟩:=r1;right;refine wpAny_formatField_int ?_ ?_
 .rcases zi i.natAbs with e|e
  .rw[e];decide
  .rw[Nat.log2_lt<|by simp_all];exact Rw l (RW (by decide:10^30<=2^100)<|Pw ∎<|∅)
 .have e:qT++c++(toString i)=c++(toString i):=by rw[empty_app]
  have d:(qT++c++(toString i)).length<=Ta:=by
   rw[e,strLen_append,XB];lia
  exact⟨_,_,rfl,d,d,.str<|c++(toString i),H1,f.tok _<|nJ<|nJ<|nJ f.tk,⟨_,by rw[e]⟩,q⟩
def VJ(c:Str)(φ:FE):FE:=fun Y=>(φ Y).bind fun d=>match d with
 |.int i=>if i.natAbs<10^30/\(lE<|toString i).length<=1000 then .ok (.str<|c++lE (toString i))else .no
 |_=>.no
theorem aco(d:JE X a<|tD W O φ)(b:c.length<=1000):JE X (.JoinedStr [.Constant (.str c) j p1,.FormattedValue a (-1) U p2] pos)<|tD W O<|VJ c φ:=
 (JE.mk<|R5 d.out b).imp fun Z H Q e=>dQ e fun as0 B own Y I h=>⟨as0,B,own,Y,I,aY h fun x v H1 g f h1=>by
  split at h1
  .subst f;split at h1
   .rename_i hl;exact⟨_,rfl,hl.1,hl.2,ax h1 rfl⟩
   .exact h1.elim
  .exact h1.elim⟩
def Yh:Fm:=fun _ _ _ e=>match e with
 |.JoinedStr l _=>match l with
  |[s,v]=>(ke s).bind fun c=>match v with
   |.FormattedValue a i w _=>match w with|none=>if c.length<=1000 then(if i=-1 then J ([a],fun l=>VJ c<|g0 l)else if i=114 then J ([a],fun l=>rF c<|g0 l)else U)else U|_=>U
   |_=>U
  |_=>U
 |_=>U
theorem Oi:dr X W Yh:=fun O e es b c h a=>by
 delta Yh at h;cbv
 .cbv
  .mstop;obtain⟨k,hk,h⟩:=h;obtain⟨_,_,rfl⟩:=wL hk;cbv
   .cbv
    .cbv
     .rename_i hl;cbv
      .rename_i hi;subst hi;nofun;obtain⟨φ,rfl,h1⟩:=yN a;exact aco h1 hl
      .cbv
       .rename_i hi;subst hi;nofun;obtain⟨φ,rfl,h1⟩:=yN a;exact Rb h1 hl
       .nofun
     .nofun
    .nofun
   .nofun
  .nofun
 .nofun
end
structure rg where
 fl:List<|Str×Str
 us:List<|Str×(Rx->R D)
structure xb(X:Cx)(K:aT)(mg:Sq)(t:rg):Prop where
 fl:∀q∈t.fl,∃C,DO K By q.1=J (J<|.ref C)/\UR K C/\a9 K C q.2
 us:∀q∈t.us,∃st ps f fd j,Def X.K X.mg q.1 st ps f fd/\X6 j X.A/\zl X.prog X.w X.K X.mg X.base lD j f fd ps (rj K mg q.2)
 k:K=X.K
def hX(t:rg)(c:Scope)(N:SH):Nat->Ry->Option FE
 |0,_=>U
 |n+1,e=>match wh e with
 |some d=>J<|vC d
 |none=>match e with
  |.Tuple es _ _=>if es.all al=G then(Bj (hX t c N n) es).map fun l=>uD (aL l)else U
  |.Name x _=>(Mm N x).bind fun i=>if OK c x=G then J (ag i)else U
  |.Attribute a f _=>(ug a).bind fun _=>(t.fl.find? fun q=>decide (q.2=f)).bind fun q=>(hX t c N n a).map<|iw q.1 f
  |.Subscript a b _=>(wg b).bind fun i=>(hX t c N n a).map fun φ=>aH cR φ<|vC<|.int i
  |_=>(cN e).bind fun q=>match q.2 with
   |[a]=>(ug a).bind fun _=>if CA c q.1=G then(lk q.1 t.us).bind fun F=>(hX t c N n a).map fun φ=>aI F (ak φ aQ)else U
   |_=>U
theorem abo{K:aT}(T:xb X K mg t):∀(n:Nat)(e:Ry)(φ:FE),hX t X.env.scope X.N n e=J φ->JE X e (tD ⟨K,mg,E0⟩ [] φ):=X5 (fun _ _ h=>by nofun) fun n i_ e φ h=>by
  unfold hX at h;cbv
  .rename_i z;nofun;exact Yn z
  cbv
  .cbv
   .rename_i hq;obtain⟨l,h1,rfl⟩:=dO.mp h;exact NQ<|xS (mJ (fun e φ h=>i_ e φ h) _ l h1) hq
   .nofun
  .obtain⟨i,h1,h⟩:=bY.mp h;cbv
   .rename_i d;nofun;obtain⟨a,b,c⟩:=tV d;exact Mv i ∅ (gc h1) a b c
   .nofun
  .mstop;obtain⟨x,hx,h⟩:=h;obtain⟨_,rfl⟩:=AY hx;obtain⟨q,h1,h⟩:=bY.mp h;obtain⟨ψ,h2,rfl⟩:=dO.mp h;refine gL (T.fl q<|List.mem_of_find?_eq_some h1) fun C m g p=>?_;have s:=List.find?_some h1;have o:=WI s;subst o;exact Nn K m g p (i_ _ ψ h2) rfl T.k.symm rfl
  .mstop;obtain⟨i,hi,h⟩:=h;obtain⟨_,_,rfl⟩:=Agr hi;obtain⟨ψ,h2,rfl⟩:=dO.mp h;have r:=T.k;subst r;exact Tj (WL X.K) (YZ X.K) (i_ _ ψ h2) MR fun _ _=>rfl
  .mstop;obtain⟨⟨y,l⟩,hq,h⟩:=h;obtain⟨_,_,rfl⟩:=nD hq;clear hq;cbv
   .rename_i z;cases z;mstop;obtain⟨x,hx,h⟩:=h;obtain⟨_,rfl⟩:=AY hx;cbv
    .rename_i hg;left;obtain⟨F,h1,h⟩:=bY.mp h;obtain⟨ψ,h2,rfl⟩:=dO.mp h;obtain⟨st,ps,f,fd,j,D,d,SK⟩:=T.us _<|As h1;obtain⟨g1,g2⟩:=eI hg;right;exact KH D SK d (Bx (i_ _ ψ h2) Fn rfl) (mK _) g1 g2 rfl rfl
    .nofun
   .nofun
section
variable{P:Tc}{w:Sl}{K:aT}{mg:Sq}{base:T3}
theorem GO(T:xb X K mg t)(h:hX t X.env.scope X.N 9 r=J ρ):JB X [.Return (J r) rp]<|sD ⟨K,mg,fun _ _ _=>False⟩ [] [] []<|pX ρ:=Et<|FR<|abo T 9 r ρ h
structure xc(P:Tc)(w:Sl)(K:aT)(mg:Sq)(base:T3)(j:Nat)(t:rg):Prop where
 fl:∀q∈t.fl,∃C,DO K By q.1=J (J<|.ref C)/\UR K C/\a9 K C q.2
 us:∀q∈t.us,∃st ps f fd,Def K mg q.1 st ps f fd/\zl P w K mg base lD j f fd ps (rj K mg q.2)
theorem xc.at(h:xc P w K mg base j t)(y:FZ Yq0 P w K mg base k)(i:j<=k)(z:nE):xb ((Yq0.hand z).Xe) K mg t:=by
 obtain⟨⟨e1,a,g,d,b,c,_⟩,l,_,_⟩:=y;subst e1 a g d b;exact⟨h.fl,fun q e=>let⟨st,ps,f,fd,D,SK⟩:=h.us q e;⟨st,ps,f,fd,j,D,(c.mono i).u z,SK⟩,rfl⟩
noncomputable def Tr:List SU->Option Ry
 |[.Return (J r) _]=>J r
 |_=>U
def Ys(T:Str)(h:ExceptHandler):Option Ry:=match h with
 |.ExceptHandler (J t) U b _=>if ug t=J T then Tr b else U
 |_=>U
theorem Qd{h:ExceptHandler}(e:Ys T h=J r):∃p q u,h=.ExceptHandler (J<|.Name T p) U [.Return (J r) q] u:=by
 delta Ys at e;split at e
 .split at e
  .rename_i hq;obtain⟨p,rfl⟩:=AY hq;delta Tr at e;split at e
   .cases e;exact⟨_,_,_,rfl⟩
   .cases e
  .cases e
 .cases e
def Xu{α:Type}(b:SU)(x y:α):Option<|Ry×α:=match b with
 |.Return (J e) _=>J (e,x)
 |.Expr e _=>if zd e=η then J (e,y)else U
 |_=>U
theorem OW{α:Type}{b:SU}{x y:α}{q:Ry×α}(h:Xu b x y=J q):(∃p,b=.Return (J q.1) p/\q.2=x)\/∃p,b=.Expr q.1 p/\zd q.1=η/\q.2=y:=by
 delta Xu at h;cbv
 .nofun;exact .inl ⟨_,rfl,rfl⟩
 .cbv
  .rename_i hc;nofun;exact .inr ⟨_,rfl,hc,rfl⟩
  .nofun
 .nofun
def VF(T:Str)(mt:Str->Bool)(e:rg):V6:=fun nl a N c s=>match s with
 |.Try [b] [h] [] [] _=>(Ys T h).bind fun r=>(hX e a N 9 r).bind fun d=>if CA a T=G then Xu b (fun φ=>sO nl c φ mt<|pX d) (fun φ=>yW nl c φ mt<|pX d)else U
 |_=>U
theorem Ex{mt:Str->Bool}(d:mg T=J (.ref CT))(a:LL K mg mt CT)(H:xc P w K mg base j ht):Qm P w K mg base j<|VF T mt ht:=fun i k y v B nl Pb x s e b φ h E f=>by
 have g:=H.at y v;obtain⟨⟨e1,c,l,o,n,A,_⟩,D,st,fr⟩:=y;subst e1 c l o n;delta VF at h;cbv
 .obtain⟨r,t,h2⟩:=bY.mp h;clear h;obtain⟨p,q,u,rfl⟩:=Qd t;obtain⟨C,h1,h⟩:=bY.mp h2;cbv
  .rename_i hg;obtain⟨g1,g2⟩:=eI hg;rcases OW h with⟨_,rfl,c⟩|⟨_,rfl,m,c⟩<;>subst c
   .exact KI f rfl d a (fun z=>GO (g z) h1) st fr g1 g2
   .exact JC f rfl d a (fun z=>GO (g z) h1) (jH m _ _ _) st fr g1 g2
  .nofun
 .nofun
end
section
variable{K:aT}
theorem dR.more(b:H p=J (.lst ys))(a:ay K Hm ds ys):∀{fs:List<|Str×D}{xs:List<|Str×V}{bs:Sf},dR K Hm H fs xs bs->fs.lookup f=Eb->dR K Hm H (fs++[(f,.WK ds)]) (f9 f (.ref p) xs) (bs++[p])
 |[],_,_,⟨e1,e2⟩,_=>by subst e1 e2;exact⟨.ref p,[],[],rfl,⟨p,ys,rfl,rfl,b,a⟩,rfl,rfl⟩
 |(g,d)::fs,_,bs,⟨v,r,c,e,f1,f2⟩,h=>by
  subst e;rw[We]at h;cases q:f==g with
  |true=>rw[q]at h;nofun
  |false=>
   rw[q]at h;refine⟨v,f9 f (.ref p) r,c++[p],?_,?_,dR.more b a f2 h⟩
   .have:¬g=f:=fun z=>⊥
    simp[f9,this]
   .delta iW at f1⊢;split at f1
    .grind
    mright
end
section
variable{K:aT}
theorem MI.Xcz(I:MI K as B hs P cl Z Y L H)(hk:P[k]?=J i)(hn:DO K By n=J (J<|.ref C))(hm:L[k]?=J (.obj n fs))(hf:fs.lookup f=U)(hp:H p=U):
  ∃a T xs g,Z[i]?=J (J<|.ref a)/\H a=J (.ins C T xs)/\fs.length=xs.length/\MI K as B hs P g Z Y (L.set k<|.obj n<|fs++[(f,.WK [])]) (br (br H p<|.lst []) a<|.ins C T<|f9 f (.ref p) xs):=by
 left;obtain⟨c,d0,e1,e2,⟨a,r,rfl,q1⟩,q2⟩:=I.at hk;rw[hm]at e2;cases e2;refine WM q2 fun C' T xs h0 h1 h2=>?_;rw[hn]at h0;cases h0;right;have u:k<cl.length:=(rW.mp e1).1;have s:∀b∈a::r,b∈cl.flatten:=fun b l=>cH.mpr ⟨k,_,e1,l⟩;have t:p∉cl.flatten++as:=fun z=>I.Vq p z hp;have pa:p≠a:=fun z=>t<|Le _<|s p<|z▸Up;have nd:=I.nd _<|Do e1;have nda:=(Vx.mp nd).1;let g:=cl.set k<|a::r++[p]
 let H':=br (br H p<|.lst []) a<|.ins C T<|f9 f (.ref p) xs
 have fl:∀b,b∈g.flatten↔b∈cl.flatten\/b=p:=fun b=>by
  constructor
  .intro l;obtain⟨j,A,M,X⟩:=cH.mp l;rw[getElem?_set']at M;split at M
   .cases M;rcases BY.mp X with h|h
    .exact .inl (s b h)
    .exact .inr (IF.mp h)
   .exact .inl (cH.mpr ⟨j,A,M,X⟩)
  .rintro(l|rfl)
   .obtain⟨j,A,M,X⟩:=cH.mp l;by_cases z:k=j
    .subst z;rw[e1]at M;cases M;exact cH.mpr ⟨k,_,tG u,Le _ X⟩
    .exact cH.mpr ⟨j,A,by rw[dP z];exact M,X⟩
   .exact cH.mpr ⟨k,_,tG u,∅⟩
 have same:∀b,b≠p->b≠a->H' b=H b:=fun b h1 h2=>by show br _ a _ b=_;rw[aG h2,aG h1]
 have st:ah #[5]<|aj (g.flatten++as) H':=fun b o e=>by
  have l:b∉cl.flatten++as:=fun z=>by rw[bT z]at e;cases e
  rw[av l]at e;have F:b≠p:=fun z=>by rw[z,hp]at e;cases e
  have R:b≠a:=fun z=>l<|Le _<|z▸s a Up;have hb2:b∉g.flatten++as:=fun z=>by
   rcases BY.mp z with z|z
   .rcases(fl b).mp z with z|z
    .exact l (Le _ z)
    .exact F z
   .exact l (OR _ z)
  rw[av hb2,same b F R];exact e
 refine⟨a,T,xs,g,q1,h1,h2.Gk,?_⟩;show MI K as B hs P g Z Y _ H';refine⟨I.len,I.ex,fun b o e=>?_,fun A S b l=>?_,fun A S=>?_,fun m m' c1 c2 b N q O w4=>?_,fun j d e=>?_,by simp[g,I.lp],by simp[g,I.lm],fun m j A d N q O=>?_,by simp[g,I.hl],?_⟩
 .have F:b≠p:=fun z=>by rw[z,I.sb.free hp]at e;cases e
  have R:b≠a:=fun z=>by rw[z,I.fb _ (Do e1) a Up]at e;cases e
  rw[same b F R];exact I.sb b o e
 .have hb':b∈g.flatten:=dS.mpr ⟨A,S,l⟩;rcases(fl b).mp hb' with z|rfl
  .obtain⟨c2,W,V⟩:=dS.mp z;exact I.fb c2 W b V
  .exact I.sb.free hp
 .rcases List.mem_or_eq_of_mem_set S with z|rfl
  .exact I.nd A z
  .rw[List.nodup_append];exact⟨nd,∅,fun x hx y hy z=>by rw[IF.mp hy]at z;exact t<|Le _<|s p<|z▸hx⟩
 .have key:∀{m:Nat}{c1:Sf},g[m]?=J c1->b∈c1->(b=p/\m=k)\/∃Q,cl[m]?=J Q/\b∈Q:=fun{m c1}w w'=>by
   rw[getElem?_set']at w;split at w
   .rename_i z;cases w;rcases BY.mp w' with h|h
    .exact .inr ⟨_,z▸e1,h⟩
    .exact .inl ⟨IF.mp h,z.symm⟩
   .exact .inr ⟨_,w,w'⟩
  have np:∀{m:Nat}{Q:Sf},cl[m]?=J Q->b∈Q->b≠p:=fun w w' z=>t<|Le _<|cH.mpr ⟨_,_,w,z▸w'⟩;rcases key N O with⟨W,V⟩|⟨Q,W,V⟩
  .rcases key q w4 with⟨E,D⟩|⟨c0',E,D⟩
   .rw[V,D]
   .exact(np E D W).elim
  .rcases key q w4 with⟨E,D⟩|⟨c0',E,D⟩
   .exact(np W V E).elim
   .exact I.dj m m' Q c0' b W E V D
 .obtain⟨v,N,q⟩:=I.var j d e;exact⟨v,N,q.mono st⟩
 .rw[getElem?_set']at q O;by_cases z:k=m
  .subst z;rw[SI rfl,SI u]at q;rw[SI rfl,SI<|by rw[I.lm];exact u]at O;cases q;cases O;rw[hk]at N;cases N;refine⟨⟨a,r++[p],rfl,q1⟩,C,T,_,hn,aE,?_⟩;refine dR.more (ys:=[]) (show H' p=_ by show br _ a _ p=_;rw[aG pa];exact aE) ay.nil (h2.mono st fun b l o e=>?_) hf;have R:b≠a:=fun z=>nda<|z▸l;have F:b≠p:=fun z=>t<|Le _<|s p<|ie _<|z▸l;rw[same b F R];exact e
  .rw[SM z]at q O;obtain⟨E,D⟩:=I.ob m j A d N q O;refine⟨E,D.mono st fun b l o e=>?_⟩;have R:b≠a:=fun y=>z<|I.dj k m _ _ a e1 q Up<|y▸l;have F:b≠p:=fun y=>t<|Le _<|cH.mpr ⟨m,_,q,y▸l⟩;rw[same b F R];exact e
 .have hh:=I.hd
  have:g.map vx=cl.map vx:=by
   apply Oo
   intro m;rw[Xm,Xm,getElem?_set'];by_cases z:k=m
   .subst z;rw[SI rfl,SI u,e1];rfl
   .rw[SM z]
  grind
end
section
variable{X:Cx}{K:aT}{mg:Sq}{nl:Nat}{P Pb:Ru}{pos p1 cpos pos':Pos}
noncomputable def FP(k:Nat)(n f:Str):gi:=fun Y L=>match L[k]? with
 |some (.obj x fs)=>if x=n/\fs.length<1000/\(fs.lookup f).isNone=G then .nx Y (L.set k<|.obj n<|fs++[(f,.WK [])])else .no
 |_=>.no
theorem Ke(r:P[k]?=J i)(q:DO K By n=J (J<|.ref C))(o:UR K C)(s:a9 K C f)(j:X.N[i]?=J x)(v:m6 X.env.scope x)(hd:TN x)(c:#[2]=η)
  (m:X.K=K):MS X K mg nl Pb P P (.Assign [.Attribute (.Name x p1) f pos'] (.List [] cpos) pos)<|FP k n f:=fun E=>
 JS.imp ⟨GB (qv i j v hd c) (Hi eD).out rfl⟩ fun D Z H q0_=>Vc q0_ fun as B h0 cl Y L u I h=>by
  subst m;refine⟨Uh _,fun p g=>?_⟩;delta FP at h;left;cbv
  .rename_i y fs hm;cbv
   .rename_i hq;obtain⟨rfl,u,d⟩:=hq;refine yF (I.Xcz r q hm (L1.mp d) g) fun a e xs b q1 q2 w l=>?_;right;refine fj q1 ?_;have t:a≠p:=fun z=>by mright
    exact⟨a,C,e,xs,rfl,by rw[aG t];exact q2,o,s,by simp_all,h b Z _ l⟩
   .right;mleft
  .right;mleft
end
end L2
namespace L2
open PySem PySem.Spec PyProof.Rows
section
variable{X:Cx}{K:aT}{mg:Sq}{nl:Nat}{P Pb:Ru}{pos p1 p2 spos ep:Pos}{a b:Ry}{op:Operator}{φ:FM}
def zv(nl k:Nat)(j:Int)(φ:FM):gi:=fun Y L=>(φ Y L).bs nl fun d L=>match xm L k with
 |some ds=>(match C5 ds.length j with
  |some m=>.nx Y<|L.set k<|.lst<|ds.set m d
  |none=>.no)
 |none=>.no
end
section
variable{P:Tc}{w:Sl}{K:aT}{mg:Sq}{base:Heap}
def Ho(K:aT)(mg:Sq)(F:FM):Sp:=fun vs H Q _=>∃as ds cs p ws us,vs=us++[.ref p]/\us.length=2/\(∀a∈as,H a≠U/\a≠p)/\H p=J (.lst ws)/\ay K (aj (p::as) H) ds us/\ay K (aj (p::as) H) cs ws/\match F (ds.map J++[U]) [.lst cs]with
 |.ok d _=>∀v H',ah (aj [p] H) H'->bQ K (aj as H') d v->Q v H'
 |_=>False
theorem T8.abP(SK:FO P w K mg base k f fd ps [2] F):T8 P w K mg base lD k f fd ps<|Ho K mg F:=by
 have B:∀vs H Q E,Ho K mg F vs H Q E->sJ K mg [2] F vs H Q (fun _ _ _=>False):=fun vs H Q E g=>Z67 g fun as ds cs p ws us e hl ex hp dv dw h=>by
  subst e;have b:ds.length=2:=dv.len.trans hl;refine⟨as,aj [p] H,[p],[[p]],ds.map J++[U],[.lst cs],rfl,⟨by simp[hl,b],fun a g=>?_,aD _ _,fun c q a g=>?_,fun c q=>?_,fun i j c M a h1 h2 _ _=>?_,fun i d e=>?_,rfl,rfl,fun k i c d h1 h2 y=>?_,mK _,rfl⟩,?_⟩
  .rw[av<|by simpa using(ex a g).2];exact(ex a g).1
  .rw[IF.mp q]at g;exact bT g
  .rw[IF.mp q];simp
  .have:=(rW.mp h1).1;have:=(rW.mp h2).1;simp at *;lia
  .have hi:i<2:=by
    rcases Nat.lt_or_ge i 2 with h|h
    .exact h
    .rw[nN<|by simpa[b]using h]at e;simp only[WH,b]at e;cases hh:i-2 with
     |zero=>rw[hh]at e;cases e
     |succ n=>rw[hh]at e;cases e
   rw[uy<|by simpa[b]using hi]at e;obtain⟨v,h1,h2⟩:=PC dv e;refine⟨v,?_,h2⟩;rw[md,uy<|by simpa[hl]using hi];exact h1
  .cases k with
   |zero=>
    simp at h1 h2 y;subst h1 h2 y;refine⟨⟨p,[],rfl,?_⟩,ws,hp,dw⟩;rw[md,nN<|by simp[hl]];simp[hl]
   |succ k=>simp at h1
  .cases o:F (ds.map J++[U]) [.lst cs]with
   |ok d L=>
    rw[o]at h;exact fun v cl H' O t=>h v H' O.sb<|t.mono<|kD fun a g=>OR _ g
   |er x L=>rw[o]at h;mleft
   |no=>rw[o]at h;mleft
 refine⟨fun vs H Q E h=>SK.len vs H Q _<|B _ _ _ _ h,fun A l s H m us vs Q E o I D C hs=>codeAny_mono (SK.run A l s H m us vs Q _ o I D C<|B _ _ _ _ hs) fun r s' u=>?_⟩;cases r with
 |error e=>refine rA u fun _ _ _ _ _ _ _ _ _ z=>?_;exact z.elim
 |ok fl=>cases fl<;>exact u
def DB(F:FM)(φ ψ χ:FE):FE:=fun Y=>(φ Y).bind fun a=>(ψ Y).bind fun b=>(χ Y).bind fun c=>match F [J a,J b,U] [.lst [c]]with
 |.ok d _=>.ok d
 |_=>.no
theorem agP{X:Cx}{O:Ru}{p lp pos:Pos}{st:SU}(D:Def X.K X.mg x st ps f fd)(SK:FO X.prog X.w X.K X.mg X.base j f fd ps [2] F)(hr:TZ k X.A)(h1:JE X a<|tD ⟨X.K,X.mg,E0⟩ O φ)(h2:JE X b<|tD ⟨X.K,X.mg,E0⟩ O ψ)(h3:JE X c<|tD ⟨X.K,X.mg,E0⟩ O χ)(hj:j<=k)(hg:Gl X x)(M:(x==("__debug__":Str))=η)
  (R:al a=G) (n2:al b=G) (n3:al c=G):JE X (.Call (.Name x p) [a,b,.List [c] lp] [] pos)<|tD ⟨X.K,X.mg,E0⟩ O<|DB F φ ψ χ:=
 (ahR D SK.abP hr (bU h1 (bU h2 (bU (Hi<|bU h3 eD n3) eD rfl) n2) R) hj hg M R<|by rw[Vg,n2];rfl).imp fun Z H Q q0_=>y8 q0_ fun as0 B own Y I h=>⟨as0,B,own,Y,I,aY h fun r N H1 E d1 h=>⟨as0,B,own,Y,I.mono E,aY h fun n vb H2 C d2 h=>⟨as0,B,own,Y,(I.mono E).mono C,aY h fun i P V S d3 h=>by
  refine⟨show 1<=sizeLine by decide,fun q t=>?_⟩;have Jq:=((I.mono E).mono C).mono S;have T:∀a∈own++as0,a≠q:=fun a l z=>by
   subst z;exact Jq.new t l
  have u:ah (aj (own++as0) V)<|aj (q::(own++as0))<|br V q<|.lst [P]:=fun z o e=>by
   have W:z∉own++as0:=fun y=>by rw[bT y]at e;cases e
   rw[av W]at e;have g:z≠q:=fun y=>by rw[y,t]at e;cases e
   rw[av<|by simp only[eQ,not_or];exact⟨g,W⟩,aG g];exact e
  have m:=aA (as:=own++as0) S;show Ho X.K X.mg F [N,vb,.ref q] _ Q E0;refine⟨own++as0,[r,n],[i],q,[P],[N,vb],rfl,rfl,fun a l=>⟨?_,T a l⟩,aE,?_,?_,?_⟩
  .rw[aG<|T a l];exact Jq.Vq a l
  .exact ay.cons (((d1.mono<|aA C).mono m).mono u) (ay.cons ((d2.mono m).mono u) ay.nil)
  .exact ay.cons (d3.mono u) ay.nil
  .rw[show([r,n].map J++[U]:Sd)=[J r,J n,U]from rfl];cases hF:F [J r,J n,U] [.lst [i]]with
   |ok d L=>
    rw[hF]at h;intro v H' s dv;refine h v H' (fun z o e=>s z o ?_) dv;have g:z≠q:=fun y=>by rw[y,t]at e;cases e
    rw[av<|by simpa using g,aG g];exact e
   |er x L=>rw[hF]at h;mleft
   |no=>rw[hF]at h;mleft⟩⟩⟩
noncomputable def Gv:Ry->Option Ry
 |.List l _=>(match l with
  |[c]=>J c
  |_=>U)
 |_=>U
theorem ahV(h:Gv e=J c):∃p,e=.List [c] p:=by
 unfold Gv at h;cbv
 .cbv
  .nofun;exact⟨_,rfl⟩
  .nofun
 .nofun
def z5(x:Str)(F:FM):Fm:=fun d _ _ e=>(cN e).bind fun q=>match q.2 with
 |[a,b,l]=>(Gv l).bind fun c=>if q.1=x/\CA d x=G/\[a,b,c].all al=G then J ([a,b,c],fun l=>DB F (g0 l) (g1 l)<|g2 l)else U
 |_=>U
theorem agc{st:SU}(D:Def K mg x st ps f fd)(SK:FO P w K mg base j f fd ps [2] F):Bw P w K mg base (j,z5 x F):=fun Y k⟨e1,e2,e3,e4,e5,hr,_⟩hj O e es b φs h hJ=>by
 subst e1 e2 e3 e4 e5;unfold z5 at h;obtain⟨⟨y,l⟩,h0,h3⟩:=bY.mp h;clear h;obtain⟨_,_,rfl⟩:=nD h0;have a:=h3;clear h3;dsimp only at a⊢;split at a
 .obtain⟨c,hc,h3⟩:=bY.mp a;clear a;split at h3
  .rename_i hq;obtain⟨rfl,h1,h2⟩:=hq;cases h3;obtain⟨_,rfl⟩:=ahV hc;obtain⟨g1,g2⟩:=eI h1;simp only[Vg,List.all_nil,Bool.and_true,oR]at h2;obtain⟨z1,z2,z3⟩:=h2
   match φs,hJ with
   |[φ,ψ,χ],⟨j1,j2,j3q,_⟩=>exact agP D SK hr j1 j2 j3q hj g1 g2 z1 z2 z3
  .cases h3
 .cases a
end
end L2
namespace L2
open PySem PySem.Spec PyProof.Rows
end L2
namespace L2
open PySem PySem.Spec PyProof.Rows
section
variable{X:Cx}{K:aT}{mg:Sq}{nl:Nat}{P Pb:Ru}{pos p1 p2 spos ep:Pos}{e ieq:Ry}{φ:FM}{ψ:FE}
noncomputable def ll(L:Rx)(k:Nat):Option<|List<|Key×D:=match L[k]? with
 |some (.Xx kvs)=>J kvs
 |_=>U
theorem MI.Xx(I:MI K as B hs P cl Z Y L H)(hk:P[k]?=J i)(h:ll L k=J ds):
  ∃a xs,Z[i]?=J (J<|.ref a)/\H a=J (.dK xs)/\pK K (aj (cl.flatten++as) H) ds xs/\∀ds' xs',pK K (aj (cl.flatten++as) H) ds' xs'->MI K as B hs P cl Z Y (L.set k<|.Xx ds') (br H a<|.dK xs')/\Step as cl H cl (br H a<|.dK xs'):=by
 obtain⟨c,d,e1,Rt,⟨a,r,rfl,q1⟩,q2⟩:=I.at hk;unfold ll at h;rw[Rt]at h;cases d with
 |Xx ds0=>
  nofun;cases r with
  |nil=>
   obtain⟨xs,h1,h2⟩:=q2;exact⟨a,xs,q1,h1,h2,fun ds' xs' dv=>I.Gz e1 Up ⟨xs',aE,dv⟩⟩
  |cons _ _=>exact q2.elim
 |_=>nofun
def kG(nl k:Nat)(key:Str)(φ:FM):gi:=fun Y L=>(φ Y L).bs nl fun d L=>match ll L k with
 |some ds=>if ds.length<1000000 then .nx Y (L.set k<|.Xx<|i7 ds (.inr key) d)else .no
 |none=>.no
theorem ajc(hu:X.A.units+1<cLine)(hk:P[k]?=J i)(he:ME X K mg P e φ)(hN:X.N[i]?=J x)(hv:m6 X.env.scope x)(hd:(x==("__debug__":Str))=η)(hcd:(x==("__classdict__":Str))=η)
  (hs:swapsWithSole [.Subscript (.Name x p1) (.Constant (.str key) kk p2) spos] e pos.line X.env=pure η) (hw:swappedStores [.Subscript (.Name x p1) (.Constant (.str key) kk p2) spos] e X.env=pure U):
  MS X K mg nl Pb P P (.Assign [.Subscript (.Name x p1) (.Constant (.str key) kk p2) spos] e pos) (kG nl k key φ):=fun E=>
 (R2 (X:=X.ws E) (he E) (R1 (jv i hN hv hd hcd) HA<|M6 (X:=X.ws E) hu) hs hw).imp fun D Z H⟨as,B,h0,cl,Y,L,hl,I,h⟩=>⟨as,B,h0,cl,Y,L,I,cW hl h fun d v μ1 cl1 H1 I1 st dv h1=>by
  cases hg:ll μ1 k with
  |none=>rw[hg]at h1;exact h1.elim
  |some ds=>
   rw[hg]at h1;dsimp only at h1;refine US (I1.Xx hk hg) fun p xs q1 q2 q3 q4=>?_;split at h1
   .rename_i hlt;refine fj q1 ?_;exact⟨p,xs,.inr key,rfl,rfl,q2,by have:=ck;rw[<-q3.len];lia,h1 cl1 Z _ (q4 _ _<|q3.put dv).1⟩
   .exact h1.elim⟩
end
end L2
namespace L2
open PySem PySem.Spec PyProof.Rows
end L2
namespace L2
open PySem PySem.Spec PyProof.Rows
section
variable{X:Cx}{K:aT}{mg:Sq}{nl:Nat}{P Pb:Ru}{pos pos':Pos}{e:Ry}{φ:FE}
noncomputable def nS(i:Nat)(φ:FE):gi:=fun Y L=>match φ Y with
 |.ok (.Xx kvs)=>if i<Y.length then .nx (Y.set i U) (.Xx kvs::L)else .no
 |_=>.no
theorem QG(hP:i∉P)(hN:X.N.Nodup)(hx:Loc X.env.scope x)(he:∀E',JE (X.Td E') e<|tN ⟨K,mg,E0⟩ [] φ)(hi:X.N[i]?=J x)(hs:swapsWith e (J<|.Name x pos') pos.line X.env=pure η)(hf:X.fn x=G\/X.env.scope.names.lookup x=J .local):
  MS X K mg nl Pb P (i::P) (.Assign [.Name x pos'] e pos) (nS i φ):=fun E=>(pw (X:=X.ws E) hN hx (he _) hi hs hf).imp fun D Z H⟨as,B,h0,cl,Y,L,hl,I,h⟩=>by
 refine⟨cl.flatten++as,H,[],Y,I.di,?_⟩;unfold nS at h;cases hr:φ Y with
 |ok d=>
  rw[hr]at h;cases d with
  |Xx kvs=>
   dsimp only at h;cbv
   .rename_i hc;intro p o H' s hp ho dv;obtain⟨xs,rfl,dkq⟩:=dv;exact h _ _ _<|I.grow hP (by rw[<-I.len];exact hc) s (fun a ha=>by rw[IF.mp ha];exact hp) (r:=[]) rfl ∅ ⟨xs,ho,dkq⟩
   .mleft
  |_=>mleft
 |er x=>rw[hr]at h;mleft
 |no=>rw[hr]at h;mleft
end
end L2
namespace L2
open PySem PySem.Spec PyProof.Rows
end L2
namespace L2
open PySem PySem.Spec PyProof.Rows
section
variable{P:Tc}{w:Sl}{K:aT}{mg:Sq}{base:Heap}
def F5:Ry->Option Str
 |.Constant v _ _=>(match v with
  |.str x=>J x
  |_=>U)
 |_=>U
theorem ak0(h:F5 e=J x):∃k p,e=.Constant (.str x) k p:=by
 unfold F5 at h;cbv
 .cbv
  .nofun;exact⟨_,_,rfl⟩
  .nofun
 .nofun
def Fy:V6:=fun nl sc N Pn s=>match s with
 |.Assign [t] e _=>(match t with
  |.Subscript o i _=>(EN sc N Pn o).bind fun q=>(F5 i).bind fun k=>J (e,kG nl q.1 k)
  |_=>U)
 |_=>U
theorem akO:Qm P w K mg base 0 Fy:=fun Y k y hj hN nl Pb Pn s e b φ h ha _=>by
 unfold Fy at h;cbv
 .cbv
  .obtain⟨q,h1,h⟩:=bY.mp h;obtain⟨j,h2,h⟩:=bY.mp h;nofun;refine c6 (ii h1) fun p r0_ a1 a2 a3 a4 a5=>?_;subst r0_;obtain⟨_,_,rfl⟩:=ak0 h2;refine ajc (by have:=y.y.hr.un;lia) a1 ha a2 a3 a4 a5 ?_ rfl;cases e<;>rfl
  .nofun
 .nofun
end
end L2
namespace L2
open PySem PySem.Spec PyProof.Rows
end L2
namespace L2
open PySem PySem.Spec PyProof.Rows
section
variable{K:aT}{as:Sf}{B:Hp}{P:Ru}{cl:List (Sf)}{Z:St}{Y:Sd}{L:Rx}{H H2:Hp}
theorem i4{α:Type}{l:List α}{x c:α}(h:(l.set k x)[j]?=J c):(k=j/\c=x)\/(k≠j/\l[j]?=J c):=by
 rw[getElem?_set']at h;cbv
 .rename_i e;cbv
  .nofun;exact .inl ⟨e,rfl⟩
  .nofun
 .rename_i e;exact .inr ⟨e,h⟩
theorem R0{cl:List<|Sf}{a:SA}(h:a∈(cl.set k [p]).flatten):a=p\/a∈cl.flatten:=by
 obtain⟨j,c,h1,h2⟩:=cH.mp h;rcases i4 h1 with⟨_,rfl⟩|⟨_,h1⟩
 .exact .inl (IF.mp h2)
 .exact .inr (cH.mpr ⟨j,c,h1,h2⟩)
theorem Nq(vis:ah H H2)(new:H p=U):ah (aj (cl.flatten++as) H)<|aj ((cl.set k [p]).flatten++as) H2:=fun b o e=>by
 have hb:b∉cl.flatten++as:=fun z=>by rw[bT z]at e;cases e
 rw[av hb]at e;have hb2:b∉(cl.set k [p]).flatten++as:=fun z=>by
  rcases BY.mp z with z|z
  .rcases R0 z with rfl|z
   .rw[new]at e;cases e
   .exact hb (Le _ z)
  .exact hb (OR _ z)
 rw[av hb2];exact vis b o e
theorem MI.swap(I:MI K as B [] P cl Z Y L H)(hk:P[k]?=J i)(hu:∀j,P[j]?=J i->j=k)(hl:i<Z.length)(vis:ah H H2)(new:H p=U)(clu:vq K (aj ((cl.set k [p]).flatten++as) H2) H2 d [p]):
  MI K as B [] P (cl.set k [p]) (Z.set i<|J<|.ref p) (Y.set i U) (L.set k d) H2 where
 len:=by simp[I.len]
 ex:=I.ex
 sb:=I.sb.trans vis
 fb:=fun c h a ha=>by
  rcases List.mem_or_eq_of_mem_set h with h|rfl
  .exact I.fb c h a ha
  .rw[IF.mp ha];exact I.sb.free new
 nd:=fun c h=>by
  rcases List.mem_or_eq_of_mem_set h with h|rfl
  .exact I.nd c h
  .simp
 dj:=fun m n c1 c2 a h1 h2 h3 h4=>by
  have ne:∀{j:Nat}{c':Sf},cl[j]?=J c'->a∈c'->a≠p:=fun{j c'}q1 q2 z=>I.Vq a (Le _<|cH.mpr ⟨j,c',q1,q2⟩)<|z▸new;rcases i4 h1 with⟨e1,rfl⟩|⟨e1,h1⟩
  .rcases i4 h2 with⟨Rt,rfl⟩|⟨Rt,h2⟩
   .rw[<-e1,<-Rt]
   .exact absurd (IF.mp h3) (ne h2 h4)
  .rcases i4 h2 with⟨Rt,rfl⟩|⟨Rt,h2⟩
   .exact absurd (IF.mp h4) (ne h1 h3)
   .exact I.dj m n c1 c2 a h1 h2 h3 h4
 var:=fun j e q=>by
  rw[getElem?_set']at q;split at q
  .grind
  .obtain⟨v,h1,h2⟩:=I.var j e q;exact⟨v,by simp_all,h2.mono<|Nq vis new⟩
 lp:=by simp[I.lp]
 lm:=by simp[I.lm]
 ob:=fun m j c' d' h1 h2 h3=>by
  rcases i4 h2 with⟨Rt,rfl⟩|⟨Rt,h2⟩
  .subst Rt;have e:j=i:=by rw[hk]at h1;cases h1;rfl
   subst e;rcases i4 h3 with⟨_,rfl⟩|⟨Ua,_⟩
   .exact⟨⟨p,[],rfl,by mright⟩,clu⟩
   .exact absurd rfl Ua
  .rcases i4 h3 with⟨Ua,_⟩|⟨_,h3⟩
   .exact absurd Ua Rt
   have hji:i≠j:=fun z=>Rt (hu m<|z▸h1).symm;rw[dP hji];obtain⟨z1,z2⟩:=I.ob m j c' d' h1 h2 h3;exact⟨z1,z2.mono (Nq vis new) fun b _ o e=>vis b o e⟩
 hl:=Uh _
 hd:=∅
end
section
variable{X:Cx}{K:aT}{mg:Sq}{P Pb:Ru}{pos pos':Pos}{e:Ry}{φ:FE}
noncomputable def Di(k i:Nat)(φ:FE):gi:=fun Y L=>match φ Y with
 |.ok (.Xx kvs)=>if i<Y.length then .nx (Y.set i U) (L.set k<|.Xx kvs)else .no
 |_=>.no
theorem akp(hk:P[k]?=J i)(hu:∀j,P[j]?=J i->j=k)(hN:X.N.Nodup)(hx:Loc X.env.scope x)(he:∀E',JE (X.Td E') e<|tN ⟨K,mg,E0⟩ [] φ)(hi:X.N[i]?=J x)(hs:swapsWith e (J<|.Name x pos') pos.line X.env=pure η)(hf:X.fn x=G\/X.env.scope.names.lookup x=J .local):
  MS X K mg 0 Pb P P (.Assign [.Name x pos'] e pos) (Di k i φ):=fun E=>(pw (X:=X.ws E) hN hx (he _) hi hs hf).imp fun D Z H⟨as,B,h0,cl,Y,L,hl,I,h⟩=>by
 obtain rfl:h0=[]:=List.length_eq_zero_iff.mp hl;refine⟨cl.flatten++as,H,[],Y,I.di,?_⟩;unfold Di at h;cases hr:φ Y with
 |ok d=>
  rw[hr]at h;cases d with
  |Xx kvs=>
   dsimp only at h;cbv
   .rename_i hc;intro p o H' s hp ho dv;obtain⟨xs,rfl,dkq⟩:=dv;have hn:p∉cl.flatten++as:=fun z=>I.Vq p z hp;have sm:ah (aj (p::(cl.flatten++as)) H')<|aj ((cl.set k [p]).flatten++as) H':=fun b o e=>by
     have hb:b∉p::(cl.flatten++as):=fun z=>by rw[bT z]at e;cases e
     rw[av hb]at e;rw[av fun z=>?_]
     .exact e
     .rcases BY.mp z with z|z
      .rcases R0 z with rfl|z
       .exact hb Up
       .exact hb (ie _<|Le _ z)
      .exact hb (ie _<|OR _ z)
    exact h _ _ _<|I.swap hk hu (by rw[<-I.len];exact hc) s hp ⟨xs,ho,pK.mono sm dkq⟩
   .mleft
  |_=>mleft
 |er x=>rw[hr]at h;mleft
 |no=>rw[hr]at h;mleft
end
end L2
namespace L2
open PySem PySem.Spec PyProof.Rows
end L2
namespace L2
open PySem PySem.Spec PyProof.Rows
section
variable{X:Cx}{W:Wd}
def C8:Fs:=fun sc N O s=>match s with
 |.Return (J<|.Name x _) _=>(Mm N x).bind fun i=>if i∈O/\OK sc x=G then J ([],fun _=>uk<|ag i)else U
 |_=>U
theorem ahB:IK X W C8:=fun Ob O s es b φs h hJ=>by
 unfold C8 at h;cbv
 .obtain⟨i,h1,h⟩:=bY.mp h;cbv
  .rename_i hq;nofun;obtain⟨a,b,c⟩:=tV hq.2;exact aiK hq.1 (gc h1) a b c
  .nofun
 .nofun
end
section
variable(bD:Nat->SU)(B:Tb)(ext:List Fm)
def uW(ba:List<|Nat×Fm)(q:Df):Tb:={UX B ext ba q []with s:=C8::B.s}
end
section
variable{K:aT}{bD:Nat->SU}{B:Tb}{ext:List Fm}{P:Tc}{w:Sl}{mg:Sq}{base:Heap}
theorem aho(F:UD K q.x q.x (bD q.i) f fd)(S:Vr q.N q.ps<|ai<|bD q.i)(hF:∀Y,FY Y P w K mg base k->Vu Y ⟨K,mg,E0⟩ t)(h:dF bD t q=J φ):T8 P w K mg base lD (k+1) f fd q.ps<|l4 K mg<|gA φ q.N q.ps:=by
 obtain⟨r,h',rfl⟩:=dO.mp h;refine F.okN (O':=r.2) S fun cdv hcd A outer s H E hr=>?_;obtain⟨c0,P0,rfl,hcd2⟩:=vO hcd;refine Ab rfl (fun Y hYq=>?_) S.nd SQ rfl 12 [] _ r h' [];obtain⟨a,b,c,d,e,g,i,j1,j2⟩:=hYq.wb;exact hF Y ⟨a,b,c,d,e,g▸hr,i,c0,P0,_,j1,j2,hcd2⟩
theorem amd(hB:∀Y k,FY Y P w K mg base k->Vu Y ⟨K,mg,E0⟩ B/\∀f∈ext,dr Y ⟨K,mg,E0⟩ f)(ha:∀a∈ba,Bw P w K mg base a)(Q:eB bD K mg q f fd)(S:Vr q.N q.ps<|ai<|bD q.i)(h:dF bD (uW B ext ba q) q=J φ):
  T8 P w K mg base lD (q.d+1) f fd q.ps (l4 K mg<|gA φ q.N q.ps):=
 aho Q.F S (fun Y y=>by
  have b:=pA (self:=[]) hB ha (mK _) y (fun f hf=>nomatch hf)
  refine⟨b.x,b.n,b.q,b.i,fun f hf=>?_,b.c⟩;rcases eQ.mp hf with rfl|hf
  .exact ahB
  .exact b.s f hf) h
end
end L2
namespace L2
open PySem PySem.Spec PyProof.Rows
end L2
namespace L2
open PySem PySem.Spec PyProof.Rows
section
variable{P:Tc}{w:Sl}{K:aT}{mg:Sq}{base:Heap}{st:SU}
def u9(f:Str)(F:Rx->R D):LH:=fun nl sc fn N Pn s=>match s with
 |.Assign [t] c _=>(ug t).bind fun _=>(cN c).bind fun u=>(Hs N Pn sc fn t).bind fun i=>if u.1=f/\CA sc f=G then(match u.2 with
  |[]=>J ([],fun _=>nS i<|aI F aQ,i::Pn)
  |_=>U)else U
 |_=>U
def vr(f:Str)(F:Rx->R D):LH:=fun nl sc fn N Pn s=>match s with
 |.Assign [t] c _=>(ug t).bind fun _=>(cN c).bind fun u=>(Hs N [] sc fn t).bind fun i=>(Pn.findIdx? fun j=>decide (j=i)).bind fun k=>if u.1=f/\CA sc f=G/\nl=0/\Pn.Nodup then(match u.2 with
  |[]=>J ([],fun _=>Di k i<|aI F aQ,Pn)
  |_=>U)else U
 |_=>U
theorem TY{Yq:Cx}(SK:T8 Yq.prog Yq.w Yq.K Yq.mg Yq.base lD j g fd ps<|l4 Yq.K Yq.mg F)(hr:TZ k Yq.A)(hj:j<=k)(hg:Gl Yq x)(hd:(x==("__debug__":Str))=η)(D:UD Yq.K q q' st g fd)(hm:Yq.mg x=J (.ref g))(hb:cf Yq.K fd ps []):
  ∀E',JE (Yq.Td E') (.Call (.Name x p) [] [] pos)<|tN ⟨Yq.K,Yq.mg,E0⟩ []<|aI F aQ:=fun E'=>
 (JE.mk<|Ei (X:=Yq.Td E') (dvs:=[]) SK (hr.mono hj) hg hm D.kp hb .nil NJ hd).imp fun Z H Q⟨as0,B,own,Y,I,h⟩=>⟨own++as0,[],I.Vq,ay.nil,h⟩
theorem aj3(D:UD K q q' st g fd)(hm:mg x=J (.ref g))(hb:cf K fd ps [])(SK:T8 P w K mg base lD j g fd ps<|l4 K mg F):zZ P w K mg base j<|u9 x F:=fun Yq k⟨⟨e1,Rt,Ua,vA,xt,hr,_⟩,hx,_,_⟩hj hN nl Pb Pn s es b P' α h ha=>by
 subst e1 Rt Ua vA xt;unfold u9 at h;cbv
 .obtain⟨x',h5,h6⟩:=bY.mp h;clear h;obtain⟨p,rfl⟩:=AY h5;obtain⟨⟨y,l⟩,h0,h7⟩:=bY.mp h6;clear h6;obtain⟨_,_,rfl⟩:=nD h0;obtain⟨i,h1,h⟩:=bY.mp h7;obtain⟨a1,a2,a3⟩:=vY h1;obtain⟨hl,hf⟩:=pk a3;dsimp only at h⊢;cbv
  .rename_i hq;obtain⟨rfl,hg⟩:=hq;obtain⟨g1,g2⟩:=eI hg;cbv
   .nofun;exact QG a1 hN hl (TY SK hr hj g1 g2 D hm hb) a2 rfl hf
   .nofun
  .nofun
 .nofun
theorem akH(D:UD K q q' st g fd)(hm:mg x=J (.ref g))(hb:cf K fd ps [])(SK:T8 P w K mg base lD j g fd ps<|l4 K mg F):zZ P w K mg base j<|vr x F:=fun Yq k⟨⟨e1,Rt,Ua,vA,xt,hr,_⟩,hx,_,_⟩hj hN nl Pb Pn s es b P' α h ha=>by
 subst e1 Rt Ua vA xt;unfold vr at h;cbv
 .obtain⟨x',h5,h6⟩:=bY.mp h;clear h;obtain⟨p,rfl⟩:=AY h5;obtain⟨⟨y,l⟩,h0,h7⟩:=bY.mp h6;clear h6;obtain⟨_,_,rfl⟩:=nD h0;obtain⟨i,h1,h8q⟩:=bY.mp h7;obtain⟨m,h9,h⟩:=bY.mp h8q;obtain⟨a1,a2,a3⟩:=vY h1;obtain⟨hl,hf⟩:=pk a3;obtain⟨b1,b2,b3⟩:=Kg.mp h9;have b4:=WI b2;dsimp only at h⊢;cbv
  .rename_i hq;obtain⟨rfl,hg,rfl,nd⟩:=hq;obtain⟨g1,g2⟩:=eI hg;cbv
   .nofun;refine akp (k:=m) (by rw[WT b1,b4]) (fun j hj=>?_) hN hl (TY SK hr hj g1 g2 D hm hb) a2 rfl hf;obtain⟨c1,c2⟩:=rW.mp hj;exact(List.getElem?_inj c1 nd).mp (by rw[hj,WT b1,b4])
   .nofun
  .nofun
 .nofun
end
end L2
namespace L2
open PySem PySem.Spec PyProof.Rows
end L2
namespace L2
open PySem PySem.Builtin PySem.Builtin.Str PySem.StrLaws
noncomputable def kb(y:Ru):Nat->Nat->Ru->Ru
 |_,_,[]=>[]
 |k+1,i,_::r=>kb y k (i+1) r
 |0,i,c::r=>if(c::r).take y.length=y then i::kb y (y.length-1) (i+1) r else kb y 0 (i+1) r
noncomputable def rep(y z:Ru):Nat->Ru->Ru
 |_,[]=>[]
 |k+1,_::r=>rep y z k r
 |0,c::r=>if(c::r).take y.length=y then z++rep y z (y.length-1) r else c::rep y z 0 r
theorem Qo(y:Ru):∀(k i:Nat)(R:Ru),kb y k i R=kb y 0 (i+k) (R.drop k)
 |0,i,R=>rfl
 |k+1,i,[]=>by simp[kb]
 |k+1,i,_::r=>by
  show kb y k (i+1) r=kb y 0 (i+(k+1)) (r.drop k);rw[Qo y k (i+1) r];congr 1;lia
theorem Oa(y z:Ru):∀(k:Nat)(R:Ru),rep y z k R=rep y z 0 (R.drop k)
 |0,R=>rfl
 |k+1,[]=>by simp[rep]
 |k+1,_::r=>by
  show rep y z k r=rep y z 0 (r.drop k);exact Oa y z k r
theorem sH(x y:Str)(limit:Nat)(hy:0<y.length):∀(m i:Nat)(found:Array Nat)(free:Nat),m=x.length-i->i<=x.length->found.size+m<limit ->
  (forIn (r6 i<|x.length+1-i) (found,free)<|occBody x y x.length limit).run.fst.toList=found.toList++kb y.cps.toList (free-i) i (x.cps.toList.drop i):=X5 (fun i found free hm hi hl=>by
  have e:x.length+1-i=1:=⊥
  have hn:x.cps.toList.drop i=[]:=by
   rw[MJ]
   have:x.cps.toList.length=x.length:=by simp[ye]
   lia
  rw[e,hn,List.range'_one,yf];unfold occBody;rw[SM (fun z=>by have:=z.1.2;lia)];simp[kb]) fun m i_ i found free hm hi hl=>by
  have hlen:x.cps.toList.length=x.length:=by simp[ye]
  have hylen:y.cps.toList.length=y.length:=by simp[ye]
  have e:x.length+1-i=(x.length+1-(i+1))+1:=⊥
  have hil:i<x.cps.toList.length:=⊥
  rw[e,List.range'_succ,yf,g5 hil];have hsub:subAt x y i=G↔(x.cps.toList[i]::x.cps.toList.drop (i+1)).take y.cps.toList.length=y.cps.toList:=by
   rw[subAt_eq,beq_iff_eq,g5 hil,hylen]
  have hfit:subAt x y i=G->i+y.length<=x.length:=fun h=>by
   have h2:=UN vP<|hsub.mp h;rw[List.length_take,<-g5 hil,vJ,hylen]at h2;lia
  unfold occBody;by_cases hf:free<=i
  .have ekq:free-i=0:=⊥
   rw[ekq];by_cases hs:subAt x y i=G
   .rw[SI ⟨⟨⟨by show found.size<limit;lia,hf⟩,hfit hs⟩,hs⟩];have ih:=i_ (i+1) (found.push i) (i+y.length) ⊥ ⊥ (by rw[Array.size_push];lia);show(forIn (r6 (i+1)<|x.length+1-(i+1)) (found.push i,i+y.length)<|occBody x y x.length limit).run.fst.toList=_;rw[ih,Array.toList_push];have eg:kb y.cps.toList 0 i (x.cps.toList[i]::x.cps.toList.drop (i+1))=i::kb y.cps.toList (y.cps.toList.length-1) (i+1) (x.cps.toList.drop<|i+1):=by
     rw[kb,SI<|hsub.mp hs]
    rw[eg,hylen,show i+y.length-(i+1)=y.length-1 by lia,Vw];rfl
   .rw[SM fun z=>hs z.2];have ih:=i_ (i+1) found free ⊥ ⊥ ⊥;show(forIn (r6 (i+1)<|x.length+1-(i+1)) (found,free)<|occBody x y x.length limit).run.fst.toList=_;have eg:kb y.cps.toList 0 i (x.cps.toList[i]::x.cps.toList.drop (i+1))=kb y.cps.toList 0 (i+1) (x.cps.toList.drop<|i+1):=by
     rw[kb,SM fun z=>hs<|hsub.mpr z]
    rw[ih,eg,show free-(i+1)=0 by lia]
  .obtain⟨k,hk⟩:∃k,free-i=k+1:=⟨free-i-1,⊥⟩;rw[hk,SM fun z=>hf z.1.1.2];have ih:=i_ (i+1) found free ⊥ ⊥ ⊥;show(forIn (r6 (i+1)<|x.length+1-(i+1)) (found,free)<|occBody x y x.length limit).run.fst.toList=_;rw[ih,show free-(i+1)=k by lia];rfl
theorem Ol(a b:Str):(a++b).cps.toList=a.cps.toList++b.cps.toList:=by
 show(a.cps++b.cps).toList=_;simp
theorem afO(x y z:Str)(hy:0<y.length):∀(m i a:Nat),m=x.length-i->a<=i ->
  (AU z<|partsFrom x y.length a<|kb y.cps.toList 0 i<|x.cps.toList.drop i).cps.toList=(x.cps.toList.drop a).take (i-a)++rep y.cps.toList z.cps.toList 0 (x.cps.toList.drop i):=by
 intro m;induction m using sk with
 |ind m IHq=>
  intro i a hm ha;have hlen:x.cps.toList.length=x.length:=by simp[ye]
  have hylen:y.cps.toList.length=y.length:=by simp[ye]
  rcases Nat.lt_or_ge i x.cps.toList.length with hil|hil
  .have ed:=g5 hil;by_cases hs:(x.cps.toList[i]::x.cps.toList.drop (i+1)).take y.cps.toList.length=y.cps.toList
   .have eg:kb y.cps.toList 0 i (x.cps.toList[i]::x.cps.toList.drop (i+1))=i::kb y.cps.toList 0 (i+y.length) (x.cps.toList.drop<|i+y.length):=by
     rw[kb,SI hs,Qo,sL,hylen,show i+1+(y.length-1)=i+y.length by lia]
    have er:rep y.cps.toList z.cps.toList 0 (x.cps.toList[i]::x.cps.toList.drop (i+1))=z.cps.toList++rep y.cps.toList z.cps.toList 0 (x.cps.toList.drop<|i+y.length):=by
     rw[rep,SI hs,Oa,sL,hylen,show i+1+(y.length-1)=i+y.length by lia]
    have ih:=IHq (x.length-(i+y.length)) ⊥ (i+y.length) (i+y.length) rfl (mK _);rw[LU,List.take_zero,List.nil_append]at ih;rw[ed,eg,er];obtain⟨p,r,hp⟩:=partsFrom_ne x y.length (i+y.length)<|kb y.cps.toList 0 (i+y.length)<|x.cps.toList.drop<|i+y.length;have ej:AU z (partsFrom x y.length a<|i::kb y.cps.toList 0 (i+y.length) (x.cps.toList.drop<|i+y.length))=strSub x a i++z++AU z (partsFrom x y.length (i+y.length)<|kb y.cps.toList 0 (i+y.length)<|x.cps.toList.drop<|i+y.length):=by
     rw[partsFrom,hp];rfl
    rw[ej,Ol,Ol,ih,strSub_toList,Vw]
   .have eg:kb y.cps.toList 0 i (x.cps.toList[i]::x.cps.toList.drop (i+1))=kb y.cps.toList 0 (i+1) (x.cps.toList.drop<|i+1):=by rw[kb,SM hs]
    have er:rep y.cps.toList z.cps.toList 0 (x.cps.toList[i]::x.cps.toList.drop (i+1))=x.cps.toList[i]::rep y.cps.toList z.cps.toList 0 (x.cps.toList.drop<|i+1):=by rw[rep,SM hs]
    have ih:=IHq (x.length-(i+1)) ⊥ (i+1) a rfl ⊥;rw[ed,eg,er,ih];have et:(x.cps.toList.drop a).take (i+1-a)=(x.cps.toList.drop a).take (i-a)++[x.cps.toList[i]]:=by
     rw[show i+1-a=(i-a)+1 by lia,List.take_succ_eq_append_getElem<|by rw[vJ];lia];congr 2;rw[List.getElem_drop];congr 1;lia
    rw[et,Vw];rfl
  .have hn:x.cps.toList.drop i=[]:=MJ.mpr hil;rw[hn];show(strSub x a x.length).cps.toList=_;rw[strSub_toList];show _=(x.cps.toList.drop a).take (i-a)++[];rw[Wz,p0<|by rw[vJ];lia,p0<|by rw[vJ];lia]
theorem wF(x y z:Str)(hy:0<y.length):(Nu x y z).cps.toList=rep y.cps.toList z.cps.toList 0 x.cps.toList:=by
 have ho:occurrences x y 0 x.length (x.length+1)=kb y.cps.toList 0 0 x.cps.toList:=by
  rw[occ_eq]
  have:=sH x y (x.length+1) hy x.length 0 #[] 0 ⊥ ⊥ ∅
  simpa using this
 have hj:=afO x y z hy x.length 0 0 ⊥<|mK _;rw[LU,List.take_zero,List.nil_append,B1,<-ho]at hj;unfold Nu;have hy0:(y.length==0)=η:=by simp;lia
 rw[hy0,Bool.false_and,Bool.or_false];by_cases he:(occurrences x y 0 x.length<|x.length+1).isEmpty=G
 .rw[SI he,<-hj,Lj.mp he];show _=(strSub x 0 x.length).cps.toList;rw[strSub_toList,B1,p0<|by simp[ye]]
 .rw[SM he,glued_eq_join,partsBetween_eq];exact hj
end L2
namespace L2
open PySem PySem.Spec PyProof.Rows
noncomputable def VN:nE->Option (D×V)
 |.int i _=>J (.int i,.int i)
 |.str x _=>J (.str x,.str x)
 |.bool b=>J (.bl b,.bl b)
 |.none=>J (.S9,.S9)
 |_=>U
def QT:TK->Option (List<|D×V)
 |[]=>J []
 |u::r=>(VN u).bind fun q=>(QT r).map (q::·)
def wJ(K:aT)(u:nE):Option D:=match u with
 |.ref a=>(match K.lookup a with
  |some o=>if o.cls=.type "tuple"/\o.dict=U then(match o.data with
   |.seq aV _=>if aV.size<=1000 then(QT aV.toList).map fun l=>.tup (l.map (·.1))else U
   |_=>U)else U
  |none=>U)
 |u=>(VN u).map (·.1)
theorem HM{K:aT}(h:VN u=J q):aP q.2 u/\∀H,bQ K H q.1 q.2:=by
 delta VN at h;cbv<;>nofun
 .exact⟨⟨_,rfl⟩,fun H=>rfl⟩
 .exact⟨⟨_,rfl⟩,fun H=>rfl⟩
 .exact⟨rfl,fun H=>rfl⟩
 .exact⟨rfl,fun H=>rfl⟩
theorem CM{K:aT}:∀{us:TK}{l:List<|D×V},QT us=J l->aU (l.map (·.2)) us/\∀H,ay K H (l.map (·.1)) (l.map (·.2)):=@TB _ _ (@fun _ h=>by nofun;exact⟨.nil,fun H=>rfl⟩) fun u r i_=>@fun _ h=>by
  obtain⟨q,h1,h⟩:=bY.mp h
  obtain⟨l,h2,rfl⟩:=dO.mp h;obtain⟨a,b⟩:=HM h1;obtain⟨c,d⟩:=i_ h2;exact⟨.cons a c,fun H=>⟨q.2,_,rfl,b H,d H⟩⟩
theorem HN{K:aT}(h:wJ K u=J d):∃v,aP v u/\(∀H,bQ K H d v)/\∀p,u=.ref p->∃f,K.lookup p=J f/\f.cls=.type "tuple"/\f.dict=U:=by
 delta wJ at h;cbv
 .rename_i a;cbv
  .rename_i o e;cbv
   .rename_i hc;cbv
    .rename_i aV n hd;cbv
     .obtain⟨l,h1,rfl⟩:=dO.mp h;obtain⟨c,dd⟩:=CM h1;exact⟨.ref a,rfl,fun H=>⟨a,l.map (·.2),rfl,.inr ⟨o,aV,n,e,hc.1,hd,by rw[XB];lia,c⟩,dd H⟩,fun p g=>by mright⟩
     .nofun
    .nofun
   .nofun
  .nofun
 .obtain⟨q,h1,rfl⟩:=dO.mp h;obtain⟨a,b⟩:=HM (K:=K) h1
  grind
section
variable{K:aT}(X:K.In h)(N:h.Ns By mg)
include X N
theorem Pe{l:List<|Str×D}(e:(l.map fun q=>(DO K By q.1).bind fun o=>o.bind<|wJ K)=l.map fun q=>J q.2):∀q∈l,UO K mg q:=fun q c=>by
 have e1:=Yj.mp e q c;obtain⟨o,h1,h2⟩:=bY.mp e1;obtain⟨u,b,a⟩:=bY.mp h2;obtain⟨v,h5⟩:=HN a
 exact⟨v,u,en X N<|by rw[h1,b],h5⟩
theorem CB{l:SH}(e:l.map (DO K By)=l.map fun _=>J U):∀x∈l,mg x=U:=fun x a=>PySem.W.mg_none_of X N<|Yj.mp e x a
end
abbrev Pl:=List<|Nat×Nat×Nat×nE
def fA(Lq0:Pl)(i:Nat):SA:=match Lq0.lookup i with
 |some q=>q.1
 |none=>0
def cA(Lq0:Pl)(i:Nat):SA:=match Lq0.lookup i with
 |some q=>q.2.1
 |none=>0
def mA(Lq0:Pl)(i:Nat):nE:=match Lq0.lookup i with
 |some q=>q.2.2
 |none=>.none
def Vk:SU->Str
 |.FunctionDef n _ _ _ _ _ _ _ _ _=>n
 |_=>""
theorem aaI(h:us.length<=5):∃a b c d e,us=([a,b,c,d,e]:TK).take us.length:=by
 match us,h with
 |[],_=>exact⟨.none,.none,.none,.none,.none,rfl⟩
 |[a],_=>exact⟨a,.none,.none,.none,.none,rfl⟩
 |[a,b],_=>simp
 |[a,b,c],_=>exact⟨a,b,c,.none,.none,rfl⟩
 |[a,b,c,d],_=>exact⟨a,b,c,d,.none,rfl⟩
 |[a,b,c,d,e],_=>grind
 |_::_::_::_::_::_::_,h=>mright
end L2
namespace L2
open PySem PySem.Builtin PySem.Builtin.Str PySem.StrLaws
end L2
namespace L2
open PySem PySem.Spec PyProof.Rows
section
variable{X:Cx}{W:Wd}{O:Ru}{φ:FE}
def aa2(y w:Str)(a:TE):TE:=fun Z H Q=>a Z H fun x H1=>∃z,x=.str z/\(y==w)=η/\z.length<=1000/\w.length<=10/\Q (.str<|Nu z y w) H1
theorem AA{o:Ry}{g:TE}{y w:Str}{j1 j2:Nat}{p1 p2 apos cpos:Pos}(hX:1<=X.tn)(j:PE X o g)
  (c:WG o "replace" X.env (eval o X.env)=eval o X.env<|>Rv)
  (d:((X3 cpos<|Uu [.Constant (.str y) j1 p1,.Constant (.str w) j2 p2] X.env).all (fun x=>!x.1)&&(backToKw cpos<|jh [] X.env).all (fun x=>x.1.isSome)
   && decide ([Expr.Constant (.str y) j1 p1,.Constant (.str w) j2 p2].length+([]:List zS).length+(if([]:List zS).isEmpty then 0 else 1)<30))=G:=by rfl)
  (b:#[6]=G<|>Rv):
  PE X (.Call (.Attribute o "replace" apos) [.Constant (.str y) j1 p1,.Constant (.str w) j2 p2] [] cpos) (aa2 y w g):=by
 intro aa s Z H Q I h;refine wpAny_Call_method_late c d b rfl (bP (j aa s Z H _ I h) fun v a i=>jZ i fun x H1 f r1 q1=>?_);obtain⟨z,rfl,h1,h2,r,q⟩:=q1;obtain⟨tk,rfl⟩:=r1;refine⟨"str","str.replace",KR,PySem.F.slot_str_replace,PySem.F.type_str_replace,typeIs_str a z tk,(fun _ e=>nomatch e),?_⟩
 refine rN rfl (sE ?_);have m:1<=a.toks:=RW hX f.tk;refine zc<|mO (k:=j1) (pos:=p1)<|zc<|mO (k:=j2) (pos:=p2)<|Oh ?_;refine aO (n:=X.tn) (by walk_at "tok")<|SC.replaceW (by show a.toks≠0;lia) (by show a.toks+1≠0;simp) (by show a.toks≠a.toks+1;simp) h1 ⊥ ⊥ fun t' k l=>?_;have p:=(f.tok<|a.toks+1).tok<|a.toks+1+1;exact⟨.str _,H1,f.tok k,⟨t',rfl⟩,q⟩
noncomputable def l5(y w:Str)(d:D):R D:=match d with
 |.str z=>if(y==w)=η/\z.length<=1000/\w.length<=10 then .ok (.str<|Nu z y w)else .no
 |_=>.no
theorem Dr{o:Ry}{y w:Str}{j1 j2:Nat}{p1 p2 apos cpos:Pos}(hX:1<=X.tn)(e:JE X o<|tD W O φ)
  (b:WG o "replace" X.env (eval o X.env)=eval o X.env<|>Rv) (a:#[6]=G<|>Rv):
  JE X (.Call (.Attribute o "replace" apos) [.Constant (.str y) j1 p1,.Constant (.str w) j2 p2] [] cpos) (tD W O<|zz (l5 y w) φ):=
 (JE.mk<|AA (y:=y) (w:=w) (j1:=j1) (j2:=j2) (p1:=p1) (p2:=p2) (apos:=apos) (cpos:=cpos) hX e.out b rfl a).imp fun Z H Q c=>dQ c fun as0 B own Y I h=>⟨as0,B,own,Y,I,aY h fun x v H1 f d h1=>by
  delta l5 at h1;split at h1
  .subst d;split at h1
   .rename_i hl;exact⟨_,rfl,hl.1,hl.2.1,hl.2.2,ax h1 rfl⟩
   .exact h1.elim
  .exact h1.elim⟩
end
section
variable{P:Tc}{w:Sl}{K:aT}{mg:Sq}{base:T3}
def VY(n f:Str):LH:=fun nl b fn N a s=>match s with
 |.Assign [.Attribute o g _] (.List [] _) _=>(EN b N a o).bind fun q=>if g=f then J ([],fun _=>FP q.1 n f,a)else U
 |_=>U
theorem Gd(m:DO K By n=J (J<|.ref C))(d:UR K C)(a:a9 K C f):zZ P w K mg base 0<|VY n f:=fun Yq0 k⟨⟨e1,e2,e3,e4,e5,hr,_⟩,hx,_,_⟩hj hN nl Pb Pn s es b P' α h ha=>by
 subst e1 e2 e3 e4 e5;delta VY at h;cbv
 .mstop
  obtain⟨q,c,h⟩:=h;cbv
  .rename_i hq;subst hq;nofun;refine c6 (ii c) fun p o g j e i l=>?_;subst o;exact Ke g m d a j e i l rfl
  .nofun
 .nofun
def Zz(a:Scope)(N:SH)(b:List SU):Option FE:=match b with
 |[.Return (J r) _]=>hX ⟨[],[]⟩ a N 9 r
 |_=>U
theorem Jp{st:SU}(F:UD K x x st f fd)(S:Vr N ps<|ai st)(h:Zz (ai st) N (bL st)=J ρ):zl P w K mg base lD 1 f fd ps<|rj K mg<|gx (pX ρ) N ps:=by
 delta Zz at h;cbv
 .rename_i e;refine F.okU (O':=[]) S fun b A a s H E c=>?_;rw[e];exact GO ⟨fun _ h=>absurd h Vm,fun _ h=>absurd h Vm,rfl⟩ h
 .nofun
end
def O3:Fm:=fun _ _ _ e=>(cM e).bind fun q=>match q.2.2 with
 |[a,b]=>(ke a).bind fun y=>(ke b).bind fun z=>if q.2.1="replace"/\Aa q.1=G then J ([q.1],fun l=>zz (l5 y z)<|g0 l)else U
 |_=>U
theorem G7(hX:1<=X.tn):dr X W O3:=fun O e es b d h a=>by
 delta O3 at h;mstop;obtain⟨⟨o,m,l⟩,h0,h⟩:=h;obtain⟨_,_,rfl,h2⟩:=kr h0;clear h0;cbv
 .rename_i z;cases z;mstop;obtain⟨y,h3,h⟩:=h;obtain⟨_,_,rfl⟩:=wL h3;mstop;obtain⟨z,h4,h⟩:=h;obtain⟨_,_,rfl⟩:=wL h4;cbv
  .rename_i hq;obtain⟨rfl,h1⟩:=hq;nofun;obtain⟨φ,rfl,c⟩:=yN a;exact Dr hX c (zq h1 _ _) h2
  .nofun
 .nofun
theorem Xg.tn(h:Xg X Yq0):Yq0.tn=X.tn:=by
 induction h with
 |re=>rfl
 |bk _ N c b a=>exact a
noncomputable def Ju(ps:SH)(a:Scope):Bool:=match ps with
 |p::_=>decide (a.names.lookup p=J .local)
 |[]=>η
theorem He(h:Ju ps sc=G):∃p r,ps=p::r/\sc.names.lookup p=J .local:=by
 delta Ju at h;cbv
 .mright
 .nofun
inductive Us where
 |fn|mt (n:Str)|nw (n:Str)|vl|pl|mk (n:Str)
structure Dm where
 q:Df
 ql:Str
 P:Ru
 us:List Us
 ow:SH:=[]
 t1:Bool:=η
def Dm.F(q:Dm)(ψ:gi):FM:=bF q.P.length ψ q.q.N.length q.q.ps.length
inductive Mz where
 |pl (q:Df) (m:Mr)
 |p1 (q:Df) (φ:FS)
 |mu (q r:Df) (φ χ:(Rx->R D)->(Rx->R D)->FS) (Z:Nat->(Rx->R D)×(Rx->R D)) (n:Nat)
 |ow (q:Dm) (ψ:gi)
 |rw(q:Dm) (φ:UV->gi) (Z:Nat->UV) (n:Nat)
 |nd (q:Df) (φ:FS)
structure Ac where
 x:List<|Nat×Fm
 f:List<|Nat×FK
 s:List<|Nat×LH
 v:List<|Str×FM
 d:Nat
 c:List<|Str×Nat×FM
structure Ug where
 f:List FK
 g:List V0
 s:List LH
 h:List<|Nat×V6
def PY(q:Dm)(F:FM)(a:Ac):Us->Ac
 |.fn=>{a with f:=(q.q.d+1,Zy q.q.x q.P F)::a.f}
 |.mt n=>{a with f:=(q.q.d+1,YN n q.q.x q.P F)::a.f}
 |.nw n=>{a with s:=(q.q.d+2,XQ n F)::a.s,c:=(n,q.q.d+1,F)::a.c}
 |.vl=>{a with v:=(q.q.x,F)::a.v,d:=max a.d<|q.q.d+1}
 |.pl=>{a with x:=(q.q.d+1,bX q.q.x<|Wr F)::a.x}
 |.mk n=>match a.c.lookup n with
  |some z=>if z.1<=q.q.d then {a with f:=(q.q.d+1,Z9 q.q.x n z.2 F)::a.f}else a
  |none=>a
section
variable(bD:Nat->SU)(B:Tb)(ext:List Fm)(Ts:Ug)
noncomputable def up{α:Type}(d:Nat)(l:List<|Nat×α):List α:=(l.filter fun a=>decide (a.1<=d)).map (·.2)
def RO(a:Ac)(q:Dm)(sf:List FK:=[]):xq:=⟨UX B ext a.x q.q (if q.t1=G then[O3]else[]),sf++(up q.q.d a.f++((if a.d<=q.q.d then[Zw a.v [0]]else[])++Ts.f)),Ts.g,Xh q.ow::(up q.q.d a.s++Ts.s),up q.q.d Ts.h,q.q.w⟩
def Ce(t:xq)(q:Dm):Option gi:=(Qc t q.P.length (ai<|bD q.q.i) (fun _=>G) q.q.N 12 [] q.P<|bL<|bD q.q.i).map (·.1)
def P9(a:Ac):Mz->Ac
 |.pl q m=>{a with x:=aa4 q m a.x}
 |.p1 q φ=>{a with x:=(q.d+1,bX q.x<|gx φ q.N q.ps)::a.x}
 |.mu q r _ _ Z n=>{a with x:=(q.d+n,bX q.x (Z n).1)::(q.d+n,bX r.x (Z n).2)::a.x}
 |.ow q ψ=>q.us.foldl (PY q<|q.F ψ) a
 |.rw q _ Z n=>{a with x:=(q.q.d+n,z5 q.q.x<|Z n)::a.x}
 |.nd q φ=>{a with s:=(q.d+1,u9 q.x<|gA φ q.N q.ps)::(q.d+1,vr q.x<|gA φ q.N q.ps)::a.s}
def T7(q:Df):Prop:=J5 q.N q.ps (ai<|bD q.i)=G
def Tv(a:Ac):Mz->Prop
 |.pl q m=>RV bD B ext q a.x m/\T7 bD q
 |.p1 q φ=>dF bD (UX B ext a.x q [O3]) q=J φ/\T7 bD q/\Ju q.ps (ai<|bD q.i)=G
 |.mu q r φ χ Z n=>(∀F SK,dF bD (UX B ext a.x q [bX q.x F,bX r.x SK]) q=J (φ F SK))/\T7 bD q/\(∀F SK,dF bD (UX B ext a.x r [bX q.x F,bX r.x SK]) r=J (χ F SK))/\T7 bD r/\r.d=q.d/\((∀ds,(Z 0).1 ds=.no)/\∀ds,(Z 0).2 ds=.no)/\∀m,Z (m+1)=(gx (φ (Z m).1 (Z m).2) q.N q.ps,gx (χ (Z m).1 (Z m).2) r.N r.ps)
 |.ow q ψ=>Ce bD (RO B ext Ts a q) q=J ψ/\T7 bD q.q/\(q.t1=G->Ju q.q.ps (ai<|bD q.q.i)=G)
 |.rw q φ Z _=>(∀F,Ce bD (RO B ext Ts a q [Zy q.q.x q.P F]) q=J (φ F))/\T7 bD q.q/\(Z 0=fun _ _=>.no)/\(∀m,Z (m+1)=q.F (φ<|Z m))/\q.P=[2]/\q.us=[.fn]/\q.t1=η
 |.nd q φ=>dF bD (uW B ext a.x q) q=J φ/\T7 bD q
def D9:List Mz->Ac->Prop
 |[],_=>True
 |z::r,a=>Tv bD B ext Ts a z/\D9 r (P9 a z)
end
theorem z7{l:List<|Nat×α}{x:α}(h:x∈up d l):∃j,(j,x)∈l/\j<=d:=by
 obtain⟨a,h1,rfl⟩:=d9.mp h;obtain⟨h2,b⟩:=dN.mp h1;exact⟨a.1,h2,WI b⟩
section
variable(bD:Nat->SU)(P:Tc)(w:Sl)(K:aT)(mg:Sq)(base:T3)
def KB(q:Dm)(f:SA):Us->Prop
 |.fn=>q.ql=q.q.x/\mg q.q.x=J (.ref f)
 |.pl=>q.P=[]/\q.q.x∈q.q.g/\q.ql=q.q.x/\∀x∈q.q.g,mg x=J (.ref f)
 |.mt n=>∃C,DO K By n=J (J<|.ref C)/\UR K C/\kF K C q.q.x f
 |.nw n=>q.P=[0]/\∃C,DO K By n=J (J<|.ref C)/\mg n=J (.ref C)/\Mk K C f
 |.vl=>q.P=[0]/\DO K By q.q.x=J (J<|.ref f)/\Xq K (.ref f)=G
 |.mk _=>q.P=[0]/\q.ql=q.q.x/\mg q.q.x=J (.ref f)
structure qR(q:Dm)(f:SA)(fd:Wj):Prop where
 F:UD K q.q.x q.ql (bD q.q.i) f fd
 b:cf K fd q.q.ps []
 u:∀u∈q.us,KB K mg q f u
def ZF(fa:Nat->SA)(fd:Nat->FuncData):Mz->Prop
 |.pl q _=>eB bD K mg q (fa q.i)<|fd q.i
 |.p1 q _=>eB bD K mg q (fa q.i) (fd q.i)/\q.x∈q.g
 |.mu q r _ _ _ _=>(eB bD K mg q (fa q.i) (fd q.i)/\q.x∈q.g)/\eB bD K mg r (fa r.i) (fd r.i)/\r.x∈r.g
 |.ow q _=>qR bD K mg q (fa q.q.i)<|fd q.q.i
 |.rw q _ _ _=>qR bD K mg q (fa q.q.i)<|fd q.q.i
 |.nd q _=>eB bD K mg q (fa q.i) (fd q.i)/\q.x∈q.g
structure xX(a:Ac):Prop where
 x:∀e∈a.x,Bw P w K mg base e
 f:∀e∈a.f,wE P w K mg base e.1 e.2
 s:∀e∈a.s,zZ P w K mg base e.1 e.2
 v:∀g F,a.v.lookup g=J F->∃f fd ps,DO K By g=J (J<|.ref f)/\Xq K (.ref f)=G/\cf K fd ps []/\FO P w K mg base a.d f fd ps [0] F
 c:∀n j F,a.c.lookup n=J (j,F)->∃C g fd ps,DO K By n=J (J<|.ref C)/\mg n=J (.ref C)/\Mk K C g/\cf K fd ps []/\FO P w K mg base j g fd ps [0] F
structure k6(Ts:Ug):Prop where
 f:∀f∈Ts.f,wE P w K mg base 0 f
 g:∀f∈Ts.g,TJ P w K mg base 0 f
 s:∀f∈Ts.s,zZ P w K mg base 0 f
 h:∀e∈Ts.h,Qm P w K mg base e.1 e.2
end
section
variable{K:aT}
theorem BO(Q:qR bD K mg q f fd)(SK:FO P w K mg base (q.q.d+1) f fd q.q.ps q.P F):∀(us:List Us)(a:Ac),(∀u∈us,KB K mg q f u)->xX P w K mg base a->xX P w K mg base (us.foldl (PY q F) a):=TB (fun _ _ A=>A) fun u us i_ a h A=>i_ _ (fun v b=>h v<|ie _ b)<|(fun A Q SK k => by
     cases u with
     |fn=>
      refine⟨A.x,fun e h=>?_,A.s,A.v,A.c⟩;rcases eQ.mp h with rfl|h
      .exact Pj ⟨k.1▸Q.F,Q.b,k.2⟩ SK
      .exact A.f e h
     |mt n=>
      refine⟨A.x,fun e h=>?_,A.s,A.v,A.c⟩;rcases eQ.mp h with rfl|h
      .obtain⟨C,h1,h2,l⟩:=k;exact Rg h1 h2 l Q.b SK
      .exact A.f e h
     |nw n=>
      obtain⟨i,C,h1,h2,l⟩:=k;rw[i]at SK;refine⟨A.x,A.f,fun e h=>?_,A.v,fun m j t h=>?_⟩
      .rcases eQ.mp h with rfl|h
       .exact Q4 h1 h2 l Q.b SK
       .exact A.s e h
      .rw[show(PY q F a<|.nw n).c=(n,q.q.d+1,F)::a.c from rfl,We]at h;cbv
       .rename_i e;nofun;rw[eq_of_beq e];exact⟨C,f,fd,_,h1,h2,l,Q.b,SK⟩
       .exact A.c m j t h
     |vl=>
      obtain⟨i,h1,h2⟩:=k;rw[i]at SK;refine⟨A.x,A.f,A.s,fun g t h=>?_,A.c⟩;rw[show(PY q F a .vl).v=(q.q.x,F)::a.v from rfl,We]at h;cbv
      .rename_i e;nofun;rw[eq_of_beq e];exact⟨f,fd,_,h1,h2,Q.b,SK.mono<|Nat.le_max_right _ _⟩
      .refine c7 (A.v g t h) fun I o y E D M N=>?_;exact⟨I,o,y,E,D,M,N.mono<|Nat.le_max_left _ _⟩
     |pl=>
      refine Xl k fun i H r p=>?_;rw[i]at SK;refine⟨fun e h=>?_,A.f,A.s,A.v,A.c⟩;rcases eQ.mp h with rfl|h
      .exact gP ⟨r▸Q.F,Q.b,p⟩ SK.Wr H
      .exact A.x e h
     |mk n=>
      obtain⟨i,r,p⟩:=k;rw[i]at SK;dsimp only[PY];split
      .rename_i z e;split
       .rename_i hz;refine⟨A.x,fun e h=>?_,A.s,A.v,A.c⟩;rcases eQ.mp h with rfl|h
        .refine srt (A.c n z.1 z.2 (by assumption)) fun C g o ps h1 h2 l B O=>?_;exact Of h1 h2 l B O ⟨r▸Q.F,Q.b,p⟩ SK<|yD hz
        .exact A.f e h
       .exact A
      .exact A) A Q SK<|h u Up
theorem xy(m:∀Y k,FY Y P w K mg base k->Vu Y ⟨K,mg,E0⟩ B/\∀f∈ext,dr Y ⟨K,mg,E0⟩ f)(hU:k6 P w K mg base Ts)(A:xX P w K mg base a)(y:FZ Y P w K mg base k)(e:q.q.d<=k)(c:Y.N.Nodup)(h1:q.t1=G->1<=Y.tn)(hs:∀g∈sf,wE P w K mg base k g:=by exact fun _ h=>nomatch h):l8 Y K mg<|RO B ext Ts a q sf:=by
 refine⟨fun n Z l=>pA m A.x e ((by
     refine xW l.wb fun a b c d e g i j1 j2=>?_;obtain⟨⟨e1,e2,e3,e4,e5,hr,cm,c0,P0,q0,z1,z2,z3⟩,_,_,_⟩:=y;exact⟨a.trans e1,b.trans e2,c.trans e3,d.trans e4,e.trans e5,by rw[g];exact hr,i.trans cm,c0,P0,q0,j1.trans z1,j2.trans z2,z3⟩)) (fun f i=>by
   split at i
   .rename_i ht;rw[IF.mp i];exact G7 (by rw[l.tn];exact h1 ht)
   .cases i),fun g b=>?_,fun g b=>hU.g g b Y _ y (Uh _),fun g b=>?_,fun g b=>?_,y.y.cm.1,y.y.eK.symm,c,y.st,y.fr⟩
 .rcases BY.mp b with h|h
  .exact hs g h Y _ y (mK _)
  rcases BY.mp h with h|h
  .obtain⟨j,h1,h2⟩:=z7 h;exact A.f _ h1 Y _ y<|RW h2 e
  .rcases BY.mp h with h|h
   .cbv
    .rename_i hd;rw[IF.mp h];exact Pk A.v Y _ y<|RW hd e
    .nofun
   .exact hU.f g h Y _ y (Uh _)
 .rcases eQ.mp b with rfl|h
  .exact Q6 Y _ y (Uh _) c
  .rcases BY.mp h with h|h
   .obtain⟨j,h1,h2⟩:=z7 h;exact A.s _ h1 Y _ y (RW h2 e) c
   .exact hU.s g h Y _ y (Uh _) c
 .obtain⟨j,h1,h2⟩:=z7 b;exact hU.h _ h1 Y _ y (RW h2 e) c
theorem UD.adA{st:SU}(F:UD K x qual st f fd)(S:Vr N ps<|ai st)(h1:Ju ps (ai st)=G)
  (c:∀(b:nE)(_:Ea K b qual=G)(A:Tx)(a:List Env)(s:ID)(H:Hp)(E:XK),TZ k (A.deeper<|W7 qual (ai st) s.heap.objs.size f b) ->
   MB ((gw (oI P w mg) P w K mg base N qual (ai st) f b A a s H E).up 1) K mg nl [] Pf P' (bL st) ψ):T8 P w K mg base (oI P w mg) (k+1) f fd ps (sJ K mg Pf (bF nl ψ N.length ps.length)):=by
 left;obtain⟨o,r,kV,i,p,q,b,n,l,rfl,lk,d⟩:=F.ex;obtain⟨m,pr,j,e⟩:=He h1;right;exact Ln lk (tF d) S j e BW fun A a s H vs Q E h g=>⟨_,((c b d A a s H E h) fun y C Z H=>E (.ref y) (C) H).out,BL g⟩
theorem IZ(hB:∀Y k,FY Y P w K mg base k->Vu Y ⟨K,mg,E0⟩ B/\∀f∈ext,dr Y ⟨K,mg,E0⟩ f)(hU:k6 P w K mg base Ts)(A:xX P w K mg base a)(F:UD K q.q.x q.ql (bD q.q.i) f fd)(S:Vr q.q.N q.q.ps<|ai<|bD q.q.i)(h1:q.t1=G->Ju q.q.ps (ai<|bD q.q.i)=G)(h:Ce bD (RO B ext Ts a q) q=J ψ):
  FO P w K mg base (q.q.d+1) f fd q.q.ps q.P (q.F ψ):=by
 obtain⟨r,h',rfl⟩:=dO.mp h;by_cases ht:q.t1=G
 .refine UD.adA (P':=r.2) F S (h1 ht) fun cdv hcd A' outer s H E hr=>?_;obtain⟨c0,P0,rfl,hcd2⟩:=vO hcd;have y:FZ ((gw (oI P w mg) P w K mg base q.q.N q.ql (ai<|bD q.q.i) f (.ref c0) A' outer s H E).up 1) P w K mg base q.q.d:=⟨⟨rfl,rfl,rfl,rfl,rfl,hr,rfl,c0,P0,_,rfl,rfl,hcd2⟩,.nil rfl,rfl,rfl⟩;exact wC (xy hB hU A y (mK _) S.nd fun _=>mK 1) (fun pl=>xy hB hU A (y.pin pl) (mK _) S.nd fun _=>mK 1) 12 [] q.P _ r h'
 .refine F.Y6 (P':=r.2) S fun cdv hcd A' outer s H E hr=>?_;obtain⟨c0,P0,rfl,hcd2⟩:=vO hcd;have y:FZ (gw (oI P w mg) P w K mg base q.q.N q.ql (ai<|bD q.q.i) f (.ref c0) A' outer s H E) P w K mg base q.q.d:=⟨⟨rfl,rfl,rfl,rfl,rfl,hr,rfl,c0,P0,_,rfl,rfl,hcd2⟩,.nil rfl,rfl,rfl⟩;exact wC (xy hB hU A y (mK _) S.nd fun z=>absurd z ht) (fun pl=>xy hB hU A (y.pin pl) (mK _) S.nd fun z=>absurd z ht) 12 [] q.P _ r h'
section
variable{K:aT}
theorem Sy(hB:∀Y k,FY Y P w K mg base k->Vu Y ⟨K,mg,E0⟩ B/\∀f∈ext,dr Y ⟨K,mg,E0⟩ f)(hU:k6 P w K mg base Ts)(A:xX P w K mg base a)(Q:qR bD K mg q f fd)(n:Nat)(h:Tv bD B ext Ts a (.rw q φ Z n)):∀m,FO P w K mg base (q.q.d+m) f fd q.q.ps q.P (Z m):=X5 (by
  refine Xl h fun _ _ h0 _=>?_;rw[h0];exact⟨fun vs H Q E⟨_,_,_,_,_,_,_,_,h⟩=>h.elim,fun A outer s H args us vs Q E hr e0 hb r⟨_,_,_,_,_,_,_,_,h⟩=>h.elim⟩) fun m i_=>by
  have ih:=i_;refine Hn h fun hb hs _ hz hP hu ht=>?_;have hu:=Q.u .fn (by rw[hu];exact Up);have S:=pG hs;obtain⟨r,h',e⟩:=dO.mp<|hb<|Z m;rw[hz m,<-e];have sf:∀g∈[Zy q.q.x q.P<|Z m],wE P w K mg base (q.q.d+m) g:=fun g hg=>by
   rw[IF.mp hg];exact Pj ⟨hu.1▸Q.F,Q.b,hu.2⟩ ih
  refine Q.F.Y6 (P':=r.2) S fun cdv hcd A' outer s H E hr=>?_;obtain⟨c0,P0,rfl,hcd2⟩:=vO hcd;have y:FZ (gw (oI P w mg) P w K mg base q.q.N q.ql (ai<|bD q.q.i) f (.ref c0) A' outer s H E) P w K mg base<|q.q.d+m:=⟨⟨rfl,rfl,rfl,rfl,rfl,hr,rfl,c0,P0,_,rfl,rfl,hcd2⟩,.nil rfl,rfl,rfl⟩;exact wC (xy hB hU A y (zQ _ _) S.nd (fun z=>by rw[ht]at z;cases z) sf) (fun pl=>xy hB hU A (y.pin pl) (zQ _ _) S.nd (fun z=>by rw[ht]at z;cases z) sf) 12 [] q.P _ r h'
end
theorem IS{q:Df}(F:UD K q.x q.x (bD q.i) f fd)(S:Vr q.N q.ps<|ai<|bD q.i)(h1:Ju q.ps (ai<|bD q.i)=G)(C:∀j,FY j P w K mg base k->1<=j.tn->Vu j ⟨K,mg,E0⟩ t)(h:dF bD t q=J φ):T8 P w K mg base lD (k+1) f fd q.ps<|rj K mg<|gx φ q.N q.ps:=by
 obtain⟨r,h',rfl⟩:=dO.mp h;obtain⟨D,pr,y,o⟩:=He h1;refine UD.abd (O':=r.2) F S y o fun z m A n s H E u=>?_;obtain⟨B,v,rfl,l⟩:=vO m;refine Ab rfl (fun j p=>?_) S.nd SQ rfl 12 [] _ r h' [];refine xW p.wb fun a b c d e g i j1 j2=>?_;exact C j ⟨a,b,c,d,e,g▸u,i,B,v,_,j1,j2,l⟩ (by rw[p.tn];exact mK 1)
theorem N8{q r:Df}(e:∀b k,FY b P w K mg base k->Vu b ⟨K,mg,E0⟩ B/\∀f∈ext,dr b ⟨K,mg,E0⟩ f)(A:xX P w K mg base a)(Q:eB bD K mg q f fd)(l:q.x∈q.g)(i:eB bD K mg r f' fd')(j:r.x∈r.g)(n:Nat)(h:Tv bD B ext Ts a (.mu q r φ χ Zq0 n)):∀m,
  T8 P w K mg base lD (q.d+m) f fd q.ps (rj K mg (Zq0 m).1)/\T8 P w K mg base lD (q.d+m) f' fd' r.ps (rj K mg (Zq0 m).2):=X5 (by
  left;obtain⟨_,_,_,_,_,⟨h1,h2⟩,_⟩:=h;right;rw[funext h1,funext h2];exact⟨T8.void,T8.void⟩) fun m i_=>by
  left;obtain⟨t,s⟩:=i_;obtain⟨b1,p,b2,u,hd,_,o⟩:=h;right;have self:∀b,FY b P w K mg base (q.d+m)->∀g∈[bX q.x (Zq0 m).1,bX r.x (Zq0 m).2],dr b ⟨K,mg,E0⟩ g:=fun b y g c=>by
   rcases eQ.mp c with rfl|c
   .exact gP Q t l b _ y (mK _)
   .rw[IF.mp c];exact gP i s j b _ y<|mK _
  rw[o m];exact⟨rq Q.F (pG p) (fun b y=>pA e A.x (zQ _ _) y<|self b y)<|b1 _ _,rq i.F (pG u) (fun b y=>pA e A.x (by mright) y<|self b y)<|b2 _ _⟩
theorem IU(hB:∀Y k,FY Y P w K mg base k->Vu Y ⟨K,mg,E0⟩ B/\∀f∈ext,dr Y ⟨K,mg,E0⟩ f)(hU:k6 P w K mg base Ts){fd:Nat->FuncData}:∀(l:List Mz)(a:Ac),xX P w K mg base a->(∀z∈l,ZF bD K mg fa fd z)->D9 bD B ext Ts l a ->
  ∀q ψ,.ow q ψ∈l->Us.pl∈q.us->T8 P w K mg base lD (q.q.d+1) (fa q.q.i) (fd q.q.i) q.q.ps (rj K mg<|Wr<|q.F ψ):=TB (fun _ _ _ _ _ _ h _=>nomatch h) fun z r i_ a A hl ⟨h1,h3⟩ q m hz hp=>by
  have Q:=hl z Up;have go:xX P w K mg base (P9 a z)->.ow q m∈r->T8 P w K mg base lD (q.q.d+1) (fa q.q.i) (fd q.q.i) q.q.ps (rj K mg<|Wr<|q.F m):=fun A' h=>i_ _ A' (fun z hz=>hl z<|ie _ hz) h3 q m h hp;cases z with
  |ow q' ψ=>
   obtain⟨h1,h2,h4⟩:=h1;have SK:=IZ hB hU A Q.F (pG h2) h4 h1;rcases eQ.mp hz with h|h
   .nofun;obtain⟨hP,_⟩:=Q.u .pl hp;rw[hP]at SK;exact SK.Wr
   .exact go (BO Q SK _ _ Q.u A) h
  |rw q' φ Z n=>
   have SK:=Sy hB hU A Q n h1 n;refine Hn h1 fun _ _ _ _ hP hu _=>?_;have hu:=Q.u .fn (by rw[hu];exact Up);rcases eQ.mp hz with h|h
   .nofun
   .refine go ⟨fun e h=>?_,A.f,A.s,A.v,A.c⟩ h;rcases eQ.mp h with rfl|h
    .exact agc ⟨hu.1▸Q.F,Q.b,hu.2⟩ (hP▸SK)
    .exact A.x e h
  |nd q' φ=>
   have SK:=amd hB A.x Q.1 (pG h1.2) h1.1;rcases eQ.mp hz with h|h
   .nofun
   .refine go ⟨A.x,A.f,fun e h=>?_,A.v,A.c⟩ h;rcases eQ.mp h with rfl|h
    .exact aj3 Q.1.F (Q.1.m _ Q.2) Q.1.b SK
    .rcases eQ.mp h with rfl|h
     .exact akH Q.1.F (Q.1.m _ Q.2) Q.1.b SK
     .exact A.s e h
  |p1 q' φ=>
   obtain⟨h1,h2,h4⟩:=h1;have SK:=IS Q.1.F (pG h2) h4 (fun Y y ht=>pA hB A.x (mK _) y fun g hg=>by rw[IF.mp hg];exact G7 ht) h1;rcases eQ.mp hz with h|h
   .nofun
   .refine go ⟨fun e h=>?_,A.f,A.s,A.v,A.c⟩ h;rcases eQ.mp h with rfl|h
    .exact gP Q.1 SK Q.2
    .exact A.x e h
  |mu q' r' φ χ Z n=>
   obtain⟨G1,G2⟩:=N8 hB A Q.1.1 Q.1.2 Q.2.1 Q.2.2 n h1 n;rcases eQ.mp hz with h|h
   .nofun
   .refine go ⟨fun e h=>?_,A.f,A.s,A.v,A.c⟩ h;rcases eQ.mp h with rfl|h
    .exact gP Q.1.1 G1 Q.1.2
    .rcases eQ.mp h with rfl|h
     .exact gP Q.2.1 G2 Q.2.2
     .exact A.x e h
  |pl q' m'=>
   obtain⟨h1,h2⟩:=h1;have SK:=L8 hB A.x Q (pG h2) h1;rcases eQ.mp hz with h|h
   .nofun
   .refine go ⟨fun e h=>?_,A.f,A.s,A.v,A.c⟩ h;rcases BY.mp h with h|h
    .obtain⟨x,hx,rfl⟩:=d9.mp h;exact gP Q SK hx
    .exact A.x e h
end
section
variable{W:Wd}{X:Cx}
def S3(K:aT)(x:V)(lo a:Option Int)(H:Hp)(Q:VK):Prop:=(∃z,x=.str z/\z.length<=sizeLine/\Q (.str<|rY z lo a) H)\/VL K x lo a H Q
section
variable{W:Wd}{X:Cx}
theorem ajl:V2 X<|S3 X.K:=QD.or ah5
end
def xo(a:D)(lo b:Option Int):R D:=match a with
 |.str z=>if z.length<=1000000 then .ok (.str<|rY z lo b)else .no
 |.tup xs=>if HT.T5 xs.length 0 lo=0/\HT.T5 xs.length xs.length b=xs.length then .no else .ok (.tup<|EL xs lo b)
 |_=>.no
theorem Z24{lo a:Option Int}:xo (.str x) lo a=if x.length<=1000000 then .ok (.str<|rY x lo a)else .no:=rfl
section
variable{W:Wd}{X:Cx}
theorem anq:ZQ W (S3 W.K) xo:=by
 intro as H x lo hi a Q hn da h;unfold xo at h;cbv
 .cases da;cbv
  .rename_i hl;exact .inl ⟨_,rfl,RW hl ck,ax h rfl⟩
  .mleft
 .obtain⟨p,vs,rfl,q1,q2⟩:=da;cbv
  .mleft
  .rename_i hc;rw[q2.len]at hc;exact .inr ⟨p,vs,rfl,(aD _ _).Wt q1,hc,fun p hp=>h _ _ (bR hp _) ⟨p,_,rfl,.inl<|.inl<|by rw[av<|hn p hp];exact aE,(q2.cut lo hi).mono<|aA<|bR hp _⟩⟩
 .mleft
end
end
end L2
namespace L2
open PySem PySem.Spec PyProof.Rows
noncomputable def XU:Fs:=fun _ _ _ s=>match s with
 |.Return _ _=>J ([],fun _=>GY)
 |_=>U
theorem akc{X:Cx}{W:Wd}:IK X W XU:=fun Ob O s es b φs h _=>by
 unfold XU at h;cbv
 .nofun;exact aiy
 .nofun
end L2
namespace L2
open PySem PySem.Spec PyProof.Rows
def AM:Sf->Bool
 |[]=>G
 |a::r=>!r.contains a&&AM r
theorem acb:∀{l:Sf},AM l=G->l.Nodup:=@TB _ _ (@fun _=>Yv) fun a r i_=>@fun h=>by
  unfold AM at h;rw[oR]at h;exact Vx.mpr ⟨by simpa using h.1,i_ h.2⟩
theorem Mi{β:Type}{x:SA×β}{l:List<|SA×β}(a:(l.map (·.1)).Nodup)(h:x∈l):l.lookup x.1=J x.2:=by
 induction l with
 |nil=>nofun
 |cons y r b=>
  rw[Xp,Vx]at a;rcases eQ.mp h with rfl|h
  .grind
  .have n:x.1≠y.1:=fun z=>a.1<|z▸yh h;rw[wA,show(x.1==y.1)=η from by simpa using n];exact b a.2 h
end L2
namespace L2
open PySem PySem.NumText
end L2
namespace L2
open PySem PySem.Spec PyProof.Rows
theorem DI.cmI{K:aT}(I:DI K as0 B O own Z Y H)(hp:H p=U):DI K (p::as0) (br B p o) O own Z Y<|br H p o:=by
 have nb:∀{b:SA},H b≠U->b≠p:=fun h e=>h<|e▸hp;have sm:ah (aj (own++as0) H)<|aj (own++p::as0)<|br H p o:=fun b q e=>by
  have hb:b∉own++as0:=fun z=>by rw[bT z]at e;cases e
  rw[av hb]at e;have hbp:b≠p:=nb (by rw[e];simp);rw[av<|by simp_all,aG hbp];exact e
 have ow:∀a∈own,a≠p:=fun a ha=>nb<|I.Vq a<|Le _ ha;exact⟨I.len,I.YU,I.nd,I.gp,fun a ha=>by rw[aG<|ow a ha];exact I.fresh a ha,fun a ha=>by
   rcases eQ.mp ha with rfl|ha
   .rw[aE];simp
   .rw[aG<|nb<|I.Vq a<|OR _ ha];exact I.wz a ha,fun b q e=>by
   by_cases h:b=p
   .subst h;rw[aE]at e⊢;exact e
   .rw[aG h]at e⊢;exact I.same b q e,fun i d hi e=>let⟨v,h1,h2⟩:=I.var i d hi e;⟨v,h1,h2.mono sm⟩,fun i a hi=>by
   refine US (I.Xf i a hi) fun d o' h1 h2 h3 h4=>?_;exact⟨d,o',h1,h2,by rw[aG (nb (by rw[h3];simp))];exact h3,h4.mono sm⟩⟩
section
variable{X:Cx}{W:Wd}{O:Ru}
theorem KG:∀(ps:List<|Str×D){H:Hp}{Q:List (V×V)->Hp->Prop},DI W.K as0 B O own Z Y H->(∀H' vs,ah H H'->ay W.K (aj (own++as0) H') (ps.map (·.2)) vs->Q ((ps.map fun q=>V.str q.1).zip vs) H') ->
  wK (ps.map fun q=>(tD W O<|vC<|.str q.1,tD W O<|vC q.2)) Z H Q
 |[],H,Q,I,h=>h H [] (ah.refl _) rfl
 | (x,d)::r,H,Q,I,h=>⟨as0,B,own,Y,I,fun v H1 s1 dv=>⟨as0,B,own,Y,I.mono s1,fun y H2 s2 dy=>by
   subst dv;exact KG r ((I.mono s1).mono s2) fun H' vs s hv=>h H' (y::vs) ((s1.trans s2).trans s) ⟨y,vs,rfl,dy.mono (aA s),hv⟩⟩⟩
def kx(l:List<|Str×D):List<|Key×D:=l.foldl (fun ba q=>i7 ba (.inr q.1) q.2) []
theorem MM{K:aT}:∀(l:List<|Str×D){vs:Se}{ds:List<|Key×D}{xs:List<|Key×V},ay K H (l.map (·.2)) vs->pK K H ds xs->pK K H (l.foldl (fun ba q=>i7 ba (.inr q.1) q.2) ds) (jA xs<|(l.map fun q=>(.inr q.1:Key)).zip vs)
 |[],vs,_,_,h,h2=>by nofun;exact h2
 |q::l,_,_,_,⟨v,vs,rfl,h1,h⟩,h2=>MM l h<|h2.put h1
theorem aje(h:X9 X pos keys values<|ps.map fun q=>(tD W O<|vC<|.str q.1,tD W O<|vC q.2))(hall:keys.all (·.isSome)=G)(hl:keys.length=values.length)(h0:keys≠[])(h15:keys.length<=15)(hp:ps.length<=15):
  JE X (.Dict keys values pos) (tN W O<|vC<|.Xx<|kx ps):=
 JE.imp ⟨JX h hall hl h0 h15⟩ fun Z H Q⟨as0,B,own,Y,I,h⟩p hpH=>by
  refine KG ps (I.cmI hpH) fun H' vs s hv=>?_;have hlen:=hv.len;rw[WH]at hlen;refine⟨s p _ aE,(ps.map fun q=>(.inr q.1:Key)).zip vs,?_,by simp;lia,?_⟩
  .rw[List.map_zip_eq_zipWith,List.zip,List.zipWith_map_left,List.zipWith_map_left];rfl
  .have sm:ah (aj (own++p::as0) H')<|aj (p::(own++as0))<|br H' p<|.dK<|jA []<|(ps.map fun q=>(.inr q.1:Key)).zip vs:=fun b q e=>by
    have hb:b∉own++p::as0:=fun z=>by rw[bT z]at e;cases e
    rw[av hb]at e;rw[av<|by simp_all,aG<|by simp_all];exact e
   exact h p _ _ (fun b o eb=>by rw[aG<|bc eb hpH];exact s b o<|by rw[aG<|bc eb hpH];exact eb) hpH aE ⟨_,rfl,MM ps (hv.mono sm) rfl⟩
noncomputable def o5(e:Ry)(d:D):Bool:=match e with
 |.Constant v _ _=>(match v,d with
  |.str x,.str y=>decide (x=y)
  |.int i,.int j=>decide (i=j)
  |_,_=>η)
 |_=>η
theorem S1(h:o5 e d=G):JE X e (tD W O<|vC d)/\al e=G:=by
 unfold o5 at h;cbv
 .cbv
  .rw[<-WI h];exact⟨Mt,rfl⟩
  .rw[<-WI h];exact⟨MR,rfl⟩
  .nofun
 .nofun
def ux:List Ry->Rx->Bool
 |[],[]=>G
 |e::es,d::ds=>o5 e d&&ux es ds
 |_,_=>η
theorem NU:∀(es:List Ry)(ds:Rx),ux es ds=G->JA X es (zx W O fun _=>.ok ds)
 |[],[],_=>Fn
 |e::es,d::ds,h=>by
  have h:(o5 e d&&ux es ds)=G:=h;rw[oR]at h;have k:=S1 (X:=X) (W:=W) (O:=O) h.1;exact Bx k.1 (NU es ds h.2) k.2
 |[],_::_,h=>by nofun
 |_::_,[],h=>by nofun
def lS(e:Ry)(d:D):Bool:=match e with
 |.List es _=>(match d with
  |.lst ds=>ux es ds&&decide (ds.length<=1000)
  |_=>η)
 |e=>o5 e d
theorem SX(h:lS e d=G):JE X e<|tD W O<|vC d:=by
 unfold lS at h;cbv
 .cbv
  .rename_i ds;rw[oR,decide_eq_true_eq]at h;have e:uw (fun _=>.ok ds)=vC (.lst ds):=by
    funext Y
    show yA ds=_;unfold yA;rw[SI<|⊥];rfl
   rw[<-e];exact FQ<|Uv<|NU _ _ h.1
  .nofun
 .exact(S1 h).1
def vd:List (Option Ry)->List Ry->List (Str×D)->Bool
 |[],[],[]=>G
 |some k::ks,v::vs,q::t=>lS k (.str q.1)&&(lS v q.2&&vd ks vs t)
 |_,_,_=>η
theorem aj6:∀(ks:List<|Option Ry)(vs:List Ry)(t:List<|Str×D),vd ks vs t=G->X9 X pos ks vs (t.map fun q=>(tD W O<|vC<|.str q.1,tD W O<|vC q.2))/\ks.all (·.isSome)=G/\ks.length=vs.length/\ks.length=t.length:=fun ks=>by
 induction ks with
 |nil=>
  intro vs t h;cases vs with
  |nil=>cases t with
   |nil=>exact⟨ajh,rfl,rfl,rfl⟩
   |cons _ _=>nofun
  |cons _ _=>cases t<;>nofun
 |cons k ks ih=>
  intro vs t h;cases k with
  |none=>cases vs<;>cases t<;>nofun
  |some k=>
   cases vs with
   |nil=>cases t<;>nofun
   |cons v vs=>
    cases t with
    |nil=>nofun
    |cons q t=>
     have h:(lS k (.str q.1)&&(lS v q.2&&vd ks vs t))=G:=h;rw[oR,oR]at h;obtain⟨a,b,c,d⟩:=ih vs t h.2.2;exact⟨aid (SX h.1).out (SX h.2.1).out a,by simp[b],by simp[c],by simp[d]⟩
def o1(ts:List<|List<|Str×D)(e:Ry):Option<|List<|Str×D:=match e with
 |.Dict ks vs _=>ts.find? fun t=>vd ks vs t&&decide (0<t.length/\t.length<=15)
 |_=>U
theorem Sw(h:o1 ts e=J t):JE X e<|tN W O<|vC<|.Xx<|kx t:=by
 unfold o1 at h;cbv
 .have h1:=List.find?_some h;rw[oR,decide_eq_true_eq]at h1;obtain⟨a,b,c,d⟩:=aj6 (W:=W) (O:=O) (X:=X) _ _ _ h1.1;exact aje a b c (fun e=>by mright) ⊥ ⊥
 .nofun
def Es(ts:List<|List<|Str×D):Fm:=fun _ _ _ e=>(o1 ts e).map fun t=>([],fun _=>vC<|.Xx<|kx t)
theorem N0:KM X W<|Es ts:=fun O e es b φs h hJ=>by
 obtain⟨t,h1,h2⟩:=dO.mp h;cases h2;exact Sw h1
def am6:Ry->Bool
 |.Dict ..=>G
 |_=>η
noncomputable def ot(d:D):R D:=match d with
 |.str z=>if z.length<=1000000 then .ok (.str<|Txt.strip z)else .no
 |_=>.no
theorem akC(ho:PE X o to)(hbase:attributeBase o "strip" X.env (eval o X.env)=eval o X.env)(hline:(apos.endLine==cpos.line)=G):
  PE X (.Call (.Attribute o "strip" apos) [] [] cpos) (fun Z H Q=>to Z H fun x H1=>∃z,x=.str z/\z.length<=1000000/\Q (.str<|Txt.strip z) H1):=by
 intro aa s Z H Q I h;refine wpAny_Call_method0_late hbase hline<|bP (ho aa s Z H _ I h) fun v s1 hh0=>?_;refine jZ hh0 fun x H1 I1 r1 q1=>?_;obtain⟨z,rfl,h1,q⟩:=q1;obtain⟨tk,rfl⟩:=r1;refine⟨"str","str.strip",KR,PySem.F.slot_str_strip,PySem.F.type_str_strip,rfl,(fun _ e=>nomatch e),rN rfl (Nk ?_)⟩
 exact aO I1.tk (SC.strip (fun t' k htk=>⟨.str _,H1,I1.tok k,⟨t',rfl⟩,q⟩)<|RW h1<|∎)
theorem alN{φ:FE}(ho:JE X o<|tD W O φ)(hbase:attributeBase o "strip" X.env (eval o X.env)=eval o X.env)(hline:(apos.endLine==cpos.line)=G):
  JE X (.Call (.Attribute o "strip" apos) [] [] cpos) (tD W O<|zz ot φ):=
 (JE.mk<|akC ho.out hbase hline).imp fun Z H Q⟨as0,B,own,Y,I,h⟩=>⟨as0,B,own,Y,I,aY h fun x v H1 s1 d1 h1=>by
  unfold ot at h1;split at h1
  .cases d1;split at h1
   .rename_i hl;exact⟨_,rfl,hl,ax h1 rfl⟩
   .exact h1.elim
  .exact h1.elim⟩
def Vs:Fm:=fun _ _ _ e=>(cM e).bind fun q=>if q.2.1="strip"/\q.2.2=[]/\Aa q.1=G then J ([q.1],fun l=>zz ot<|g0 l)else U
theorem aiT:dr X W Vs:=fun O e es b φs h hJ=>by
 mstop
 obtain⟨⟨o,m,r⟩,h1,h⟩:=h;obtain⟨apos,cpos,rfl,h2⟩:=kr h1;cbv
 .rename_i hq;obtain⟨rfl,rfl,h3⟩:=hq;nofun;obtain⟨φ,rfl,h5⟩:=yN hJ;exact alN h5 (zq h3 _ _) h2
 .nofun
end
section
variable{X:Cx}{K:aT}{mg:Sq}{P Pb:Ru}{pos p1:Pos}{e:Ry}
def CS(k:Nat)(φ:FE):FM:=fun Y L=>match ll L k,φ Y with
 |some ds,.ok d=>(match i8 d with
  |some y=>(match cy ds y with
   |some v=>.ok v L
   |none=>.no)
  |none=>.no)
 |_,_=>.no
theorem ai2{φ:FE}(hu:X.A.units+1<cLine)(hk:P[k]?=J i)(he:∀E',JE (X.Td E') e<|tD ⟨K,mg,E0⟩ [] φ)(hN:X.N[i]?=J x)(hs:En e)(hv:m6 X.env.scope x)(hd:(x==("__debug__":Str))=η)(hcd:(x==("__classdict__":Str))=η):
  ME X K mg P (.Subscript (.Name x p1) e pos) (CS k φ):=fun E=>JE.imp ⟨Mh (X:=X.ws E) hu (jv (X:=X.ws E) i hN hv hd hcd).out (he _).out hs⟩ fun Z H Q⟨as,B,hs,cl,Y,L,I,f⟩=>by
 unfold CS at f;cases hg:ll L k with
 |none=>rw[hg]at f;exact f.elim
 |some ds=>
  refine US (I.Xx hk hg) fun p xs q1 q2 q3 q4=>?_;refine fj q1 ⟨cl.flatten++as,H,[],Y,I.di,?_⟩;cases hr:φ Y with
  |ok d=>
   rw[hg,hr]at f;intro y H2 s2 dy;dsimp only at f;cases hy:i8 d with
   |none=>rw[hy]at f;exact f.elim
   |some kyq=>
    rw[hy]at f;dsimp only at f;have Rt:=z4 dy hy;subst Rt;rcases(q3.mono<|aA s2).val kyq with⟨c1,c2⟩|⟨d2,v,c1,c2,c3⟩
    .rw[c1]at f;exact f.elim
    .rw[c1]at f;exact⟨p,v,rfl,c2▸Uk.k (s2 _ _ q2),f v cl H2 (I.mono s2) (aA s2) c3⟩
  |er x=>rw[hg,hr]at f;exact f.elim
  |no=>rw[hg,hr]at f;exact f.elim
end
section
variable{P:Tc}{w:Sl}{K:aT}{mg:Sq}{base:Heap}
def Ws:V0:=fun sc N Pn e=>(cS e).bind fun q=>(EN sc N Pn q.1).map fun o=>(q.2,CS o.1)
theorem akh:TJ P w K mg base 0 Ws:=fun Yq k⟨⟨e1,Rt,Ua,vA,xt,hr,_⟩,hx,_,_⟩hj Pn e a b φ h ha=>by
 subst e1 Rt Ua vA xt;obtain⟨q,h1,h⟩:=bY.mp h;obtain⟨o,h2,h⟩:=dO.mp h;nofun;obtain⟨pos,rfl,h3⟩:=BX h1;refine c6 (ii h2) fun p e a1 a2 a3 a4 a5=>?_;rw[e];exact ai2 (by have:=hr.un;lia) a1 ha a2 (Np h3) a3 a4 a5
def Fu(ts:List<|List<|Str×D):LH:=fun nl sc fn N Pn s=>match s with
 |.Assign [t] e _=>(ug t).bind fun _=>(o1 ts e).bind fun d=>(Hs N Pn sc fn t).map fun i=>([],fun _=>nS i<|vC<|.Xx<|kx d,i::Pn)
 |_=>U
theorem aku:zZ P w K mg base 0<|Fu ts:=fun Yq k _ hj hN nl Pb Pn s es b P' α h ha=>by
 unfold Fu at h;cbv
 .obtain⟨x,h0,h⟩:=bY.mp h;obtain⟨p,rfl⟩:=R3 h0;obtain⟨d,h1,h⟩:=bY.mp h;obtain⟨i,h2,h⟩:=dO.mp h;nofun;obtain⟨a,b,c⟩:=vY h2;obtain⟨hl,hf⟩:=pk c;refine QG a hN hl (fun E'=>Sw h1) b ?_ hf;unfold o1 at h1;split at h1
  .rfl
  .cases h1
 .nofun
end
end L2
namespace L2
open PySem PySem.Spec PyProof.Rows
end L2
namespace L2
open PySem PySem.Spec PyProof.Rows
def Ft(g:Rx->R D)(α:qg):FM:=fun Y L=>(α Y L).bind fun l L=>match f8 l with
 |some ds=>(match g ds with
  |.ok d=>.ok d L
  |_=>.no)
 |none=>.no
section
variable{P:Tc}{w:Sl}{K:aT}{mg:Sq}{base:Heap}
def V4:FK:=fun sc _ _ e=>(cN e).bind fun q=>match q.2 with
 |a::es=>if q.1="isinstance"/\CA sc q.1=G/\(a::es).all al=G then J (a::es,Ft LP)else U
 |[]=>U
theorem alW(hz:mg "isinstance"=U):wE P w K mg base 0 V4:=fun Yq k⟨⟨e1,Rt,Ua,vA,xt,hr,_⟩,hx,_,_⟩hj Pn e es b α h ha=>by
 subst e1 Rt Ua vA xt;obtain⟨⟨y,l⟩,h0,h3⟩:=bY.mp h;clear h;obtain⟨_,_,rfl⟩:=nD h0;have h:=h3;dsimp only at h⊢;cbv
 .cbv
  .rename_i hq;obtain⟨rfl,h1,h2⟩:=hq;nofun;obtain⟨g1,g2⟩:=eI h1;rw[Vg,oR]at h2;intro E;refine(AX (X:=Yq.ws E) (Wp Yq.K) hz xn (ha E) g1 h2.1 h2.2 ∎ g2).imp fun Z H Q⟨as,B,hs,cl,Y,L,I,h⟩=>⟨as,B,hs,cl,Y,L,I,bx h fun l vs μ1 cl1 H1 I1 st rel h1=>?_⟩;cases hp:f8 l with
   |none=>rw[hp]at h1;exact h1.elim
   |some ds=>
    rw[hp]at h1;refine HP Yq.K (W:=⟨Yq.K,Yq.mg,E0⟩) rfl (cl1.flatten++as) H1 vs ds Q I1.Vq (rel.plain hp) ?_;dsimp only at h1;cases hg:LP ds with
    |ok d=>
     rw[hg]at h1;exact fun v H' s dv=>h1 v cl1 H' (I1.mono s) (aA s) dv
    |er x=>rw[hg]at h1;exact h1.elim
    |no=>rw[hg]at h1;exact h1.elim
  .nofun
 .nofun
end
structure fC where
 cl:SH
 tab:cp
 ve:SH
structure i6(K:aT)(mg:Sq)(t:fC):Prop where
 cl:∀x∈t.cl,(∃C,mg x=J (.ref C)/\fo K x C)/\(x==("__debug__":Str))=η
 tab:tj K t.tab t.ve
 zi:mg "isinstance"=U
 zv:mg "ValueError"=U
def E4(t:fC)(sc:Scope)(e:Ry):Option FE:=(ug e).bind fun x=>if CA sc x=G then(if x∈t.cl then J (vC<|.cls x)else if x="ValueError"then J (vC<|.ty "ValueError")else U)else U
def EF(t:fC)(sc:Scope)(e:Ry):Option FE:=match e with
 |.Tuple es _ _=>if es.all al=G then(Bj (E4 t sc) es).map fun l=>uD (aL l)else U
 |e=>if al e=G then E4 t sc e else U
def cJ(t:fC)(sc:Scope)(N:SH)(e:Ry):Option FE:=(cN e).bind fun q=>match q.2 with
 |[a,T]=>(ug a).bind fun x=>(Mm N x).bind fun i=>if q.1="isinstance"/\CA sc q.1=G/\OK sc x=G/\al T=G then(EF t sc T).map fun τ=>aI (Ey t.tab t.ve) (ak (ag i)<|ak τ aQ)else U
 |_=>U
def u4(t:fC)(sc:Scope)(N:SH)(e:Ry):Option FE:=match e with
 |.Constant (.bool b) _ _=>J<|vC<|.bl b
 |.BoolOp .And [a,b] _=>(cJ t sc N a).bind fun φ=>(cJ t sc N b).map<|GS φ
 |_=>U
def vv(s:SU):Option Ry:=match s with
 |.Return x _=>x
 |_=>U
theorem V8(h:vv s=J x):∃p,s=.Return (J x) p:=by
 unfold vv at h;cbv
 .subst h;exact⟨_,rfl⟩
 .nofun
def Fk(s:SU):Option<|Ry×List SU×List SU:=match s with
 |.If c b e _=>J (c,b,e)
 |_=>U
theorem aoZ(h:Fk s=J q):∃p,s=.If q.1 q.2.1 q.2.2 p:=by
 unfold Fk at h;cbv
 .nofun;exact⟨_,rfl⟩
 .nofun
def EE(t:fC)(sc:Scope)(N:SH)(b:List SU):Option FS:=match b with
 |[s,r]=>(Fk s).bind fun q=>match q.2.1,q.2.2 with
  |[u],[]=>(vv u).bind fun x=>(vv r).bind fun y=>(cJ t sc N q.1).bind fun γ=>(u4 t sc N x).bind fun φ=>(u4 t sc N y).map fun ψ=>nh (DA (lP γ) (pX φ) ld)<|pX ψ
  |_,_=>U
 |_=>U
section
variable{X:Cx}{K:aT}{mg:Sq}
theorem Tu(T:i6 K mg t)(hm:X.mg=mg)(h:E4 t X.env.scope e=J φ):JE X e<|tD ⟨K,mg,E0⟩ [] φ:=by
 subst hm;obtain⟨x,h0,k⟩:=bY.mp h;clear h;obtain⟨p,rfl⟩:=AY h0;split at k
 .rename_i hg;obtain⟨g1,g2⟩:=eI hg;split at k
  .rename_i hc;cases k;obtain⟨⟨C,a,b⟩,c⟩:=T.cl x hc;exact IA a b g1 c
  .split at k
   .rename_i hv;cases k;subst hv;exact Iz T.zv aeg g1 ∎ g2
   .cases k
 .cases k
theorem alY(T:i6 K mg t)(hm:X.mg=mg)(h:EF t X.env.scope e=J φ):JE X e<|tD ⟨K,mg,E0⟩ [] φ:=by
 unfold EF at h;cbv
 .cbv
  .rename_i hq;obtain⟨l,h1,rfl⟩:=dO.mp h;exact NQ<|xS (mJ (fun e φ h=>Tu T hm h) _ l h1) hq
  .nofun
 .cbv
  .exact Tu T hm h
  .nofun
theorem CF(T:i6 K mg t)(hm:X.mg=mg)(hK:X.K=K)(h:cJ t X.env.scope X.N e=J φ):JE X e (tD ⟨K,mg,E0⟩ [] φ)/\∃f es p,e=.Call (.Name f p) es [] e.pos:=by
 subst hm hK;obtain⟨⟨f,l⟩,h0,h3⟩:=bY.mp h;clear h;obtain⟨_,_,rfl⟩:=nD h0;have h:=h3;dsimp only at h;cbv
 .rename_i a T';obtain⟨x,h1,k1⟩:=bY.mp h;clear h h3;obtain⟨p,rfl⟩:=AY h1;obtain⟨i,h2,k2⟩:=bY.mp k1;clear k1;split at k2
  .rename_i hq;obtain⟨e1,q1,q2,q3⟩:=hq;cases e1;obtain⟨τ,h4,rfl⟩:=dO.mp k2;obtain⟨a1,a2,a3⟩:=tV q2;obtain⟨g1,g2⟩:=eI q1;dsimp only at q1⊢;exact⟨Kw (anD X.K) (anl T.tab) T.zi xn (Bx (Mv i ∅ (gc h2) a1 a2 a3) (Bx (alY T rfl h4) Fn q3) rfl) g1 rfl (by rw[Vg,q3];rfl),_,_,_,rfl⟩
  .cases k2
 .nofun
theorem TL(T:i6 K mg t)(hm:X.mg=mg)(hK:X.K=K)(h:u4 t X.env.scope X.N e=J φ):JE X e<|tD ⟨K,mg,E0⟩ [] φ:=by
 unfold u4 at h;cbv
 .nofun;exact HB
 .obtain⟨φ1,h1,h⟩:=bY.mp h;obtain⟨ψ,h2,rfl⟩:=dO.mp h;exact Uf (CF T hm hK h1).1<|Ij (CF T hm hK h2).1
 .nofun
theorem alX(T:i6 K mg t)(hm:X.mg=mg)(hK:X.K=K)(h:EE t X.env.scope X.N b=J ψ):JB X b<|sD ⟨K,mg,fun _ _ _=>False⟩ [] [] [] ψ:=by
 unfold EE at h;cbv
 .mstop
  obtain⟨⟨c,bbq,eeq⟩,k1,h⟩:=h;obtain⟨_,rfl⟩:=aoZ k1;dsimp only at h;cbv
  rotate_left
  .nofun
  mstop
  obtain⟨x,k2,h⟩:=h;obtain⟨_,rfl⟩:=V8 k2
  mstop
  obtain⟨y,k3,h⟩:=h;obtain⟨_,rfl⟩:=V8 k3;obtain⟨γ,h1,h⟩:=bY.mp h;obtain⟨φ,h2,h⟩:=bY.mp h;obtain⟨χ,h3,rfl⟩:=dO.mp h;obtain⟨a,f,es,p,e⟩:=CF T hm hK h1;refine KS (Hx (FH K a ?_ hK) (Et<|FR<|TL T hm hK h2) QR)<|Et<|FR<|TL T hm hK h3;rw[e];exact fun _=>rfl
 .nofun
end
def E6(T:Str)(h:ExceptHandler):Option<|Str×List SU:=match h with
 |.ExceptHandler (J t) (J nm) (b::bs) _=>if ug t=J T then J (nm,b::bs)else U
 |_=>U
theorem aki{h:ExceptHandler}(e:E6 T h=J q):∃p u b bs,h=.ExceptHandler (J<|.Name T p) (J q.1) (b::bs) u/\q.2=b::bs:=by
 unfold E6 at e;split at e
 .split at e
  .rename_i hq;obtain⟨p,rfl⟩:=AY hq;cases e;exact⟨_,_,_,_,rfl,rfl⟩
  .cases e
 .cases e
def FU(T:Str)(mt:Str->Bool)(t:fC):V6:=fun nl sc N Pn s=>match s with
 |.Try [b] [h] [] [] _=>(E6 T h).bind fun q=>(Mm N q.1).bind fun n=>(EE t sc N q.2).bind fun ψ=>(xE b).bind fun e=>if CA sc T=G/\zd e=η/\sc.names.lookup q.1=J .local then J (e,fun φ=>uj nl Pn φ mt n ψ)else U
 |_=>U
section
variable{P:Tc}{w:Sl}{K:aT}{mg:Sq}{base:Heap}
theorem akW{mt:Str->Bool}(hm:mg T=J (.ref CT))(hmt:LL K mg mt CT)(H:i6 K mg t):Qm P w K mg base 0<|FU T mt t:=fun Yq k y hj hN nl Pb Pn s e b φ h ha hp=>by
 obtain⟨⟨e1,Rt,Ua,vA,xt,hr,_⟩,hx,st,fr⟩:=y;subst e1 Rt Ua vA xt;unfold FU at h;cbv
 .obtain⟨q,h0,h2⟩:=bY.mp h;clear h;obtain⟨p,u,b',bs,rfl,e0⟩:=aki h0;obtain⟨n,h1,k1⟩:=bY.mp h2;obtain⟨ψ,h3,k2⟩:=bY.mp k1;obtain⟨e',h4,k3⟩:=bY.mp k2;clear h2 k1 k2;obtain⟨_,rfl⟩:=NR h4;split at k3
  .rename_i hg;cases k3;obtain⟨g1,g2⟩:=eI hg.1;rw[e0]at h3;exact ajd hp rfl rfl hm hmt (fun z=>alX (X:=(Yq.hand z).Xe) H rfl rfl h3) (jH hg.2.1 _ _ _) st fr g1 g2 hN (gc h1) hg.2.2
  .cases k3
 .nofun
end
end L2
namespace L2
open PySem PySem.Spec PyProof.Rows
noncomputable def dg(n:Nat):Ru:=if h:n<10 then[48+n]else dg (n/10)++[48+n%10]
termination_by n
decreasing_by lia
theorem fS{n:Nat}(h:n<10):dg n=[48+n]:=by rw[dg,dif_pos h]
theorem pU{n:Nat}(h:¬n<10):dg n=dg (n/10)++[48+n%10]:=by rw[dg,dif_neg h]
theorem r9:∀{d:Nat},d<10->(Nat.digitChar d).toNat=48+d:=∎
theorem qh:∀(n:Nat),(uY 10 n).map uT=dg n:=by
 intro n;induction n using sk with
 |ind n a=>
  by_cases h:n<10
  .rw[Nat.toDigits_of_lt_base h,fS h,Xp,t4,r9 h]
  .rw[Nat.toDigits_of_base_le ∅<|by simp_all,pU h,md,a (n/10)<|⊥,Xp,t4,r9<|by grind]
theorem Kb(n:Nat):(lE<|toString ((n:Nat):Int)).cps.toList=dg n:=by
 rw[Lr];show nq uT (BD<|uY 10 n).toList=_;rw[P5,qh]
def cu(i:Int):Ru:=if i<0 then 45::dg i.natAbs else dg i.natAbs
theorem str_int(i:Int):(lE<|toString i).cps.toList=cu i:=by
 cases i with
 |ofNat n=>delta cu;rw[SM<|∅];exact Kb n
 | negSucc n=>delta cu;rw [SI (Int.negSucc_lt_zero n)];exact (by
   rw[Lr];show nq uT ("-"++BD (uY 10 (n+1))).toList=_;rw[String.toList_append,md];show[45]++nq uT (BD (uY 10 (n+1))).toList=_;rw[P5,qh];rfl)
theorem pO:∀{n c:Nat},c∈dg n->48<=c/\c<=57:=by
 intro n;induction n using sk with
 |ind n b=>
  intro c a;by_cases h:n<10
  .rw[fS h]at a;mright;lia
  .rw[pU h]at a;rcases BY.mp a with z|z
   .exact b _ ⊥ z
   .mright;grind
theorem M7(n:Nat):dg n≠[]:=by
 by_cases h:n<10
 .rw[fS h];simp
 .rw[pU h];simp
theorem zN:∀(k n:Nat),n<10^(k+1)->(dg n).length<=k+1:=X5 (fun n h=>by rw[fS<|⊥];simp) fun k i_ n h=>by
  by_cases q:n<10
  .rw[fS q];simp
  .rw[pU q]
   have:=i_ (n/10) (by rw[Nat.pow_succ]at h;lia)
   simp;lia
theorem Kq:∀(n:Nat),0<n->∃c r,dg n=c::r/\c≠48:=by
 intro n;induction n using sk with
 |ind n b=>
  intro d;by_cases h:n<10
  .exact⟨48+n,[],fS h,⊥⟩
  .obtain⟨c,r,e,a⟩:=b (n/10) ⊥ (by mright);exact⟨c,r++[48+n%10],by rw[pU h,e];rfl,a⟩
theorem Od:∀(n:Nat),Na (dg n)=n:=by
 intro n;induction n using sk with
 |ind n ih=>
  by_cases h:n<10
  .rw[fS h];unfold Na;simp
  .rw[pU h];unfold Na;rw[List.foldl_append];have e:=ih (n/10) ⊥;unfold Na at e;rw[e];simp;lia
theorem yB{i:Int}{c:Nat}(h:c∈cu i):45<=c/\c<=57:=by
 delta cu at h;cbv
 .rcases eQ.mp h with z|z
  .mright
  .have:=pO z;lia
 .have:=pO h;lia
end L2
namespace L2
end L2
namespace L2
open PySem PySem.Spec PyProof.Rows
section
theorem afl(h1:dF bD (UX B ext a.x q []) q=J φ)(h2:J5 q.N q.ps (ai<|bD q.i)=G)(b:D9 bD B ext Ts r (P9 a<|.pl q<|.pl φ)):D9 bD B ext Ts (.pl q (.pl φ)::r) a:=⟨⟨h1,h2⟩,b⟩
theorem c40(h1:∀F,dF bD (UX B ext a.x q (q.g.map fun x=>bX x F)) q=J (φ F))(h2:J5 q.N q.ps (ai<|bD q.i)=G)(c:D9 bD B ext Ts r (P9 a<|.pl q<|.rc φ Zq0 n))(b:(∀ds,Zq0 0 ds=.no)<|>gK)(d:(∀m,Zq0 (m+1)=gx (φ<|Zq0 m) q.N q.ps)<|>gK):D9 bD B ext Ts (.pl q (.rc φ Zq0 n)::r) a:=⟨⟨⟨h1,b,d⟩,h2⟩,c⟩
theorem Z23(h1:dF bD (UX B ext a.x q [O3]) q=J φ)(h2:J5 q.N q.ps (ai<|bD q.i)=G)(b:Ju q.ps (ai<|bD q.i)=G)(c:D9 bD B ext Ts r (P9 a<|.p1 q φ)):D9 bD B ext Ts (.p1 q φ::r) a:=⟨⟨h1,h2,b⟩,c⟩
theorem afu(h1:∀F SK,dF bD (UX B ext a.x q [bX q.x F,bX s.x SK]) q=J (φ F SK))(h2:J5 q.N q.ps (ai<|bD q.i)=G)(c:∀F SK,dF bD (UX B ext a.x s [bX q.x F,bX s.x SK]) s=J (χ F SK))(h:J5 s.N s.ps (ai<|bD s.i)=G)(f:s.d=q.d)(g:D9 bD B ext Ts r (P9 a<|.mu q s φ χ Zq0 n))
  (b:(∀ds,(Zq0 0).1 ds=.no)/\∀ds,(Zq0 0).2 ds=.no:=by exact⟨fun _=>rfl,fun _=>rfl⟩) (e:(∀m,Zq0 (m+1)=(gx (φ (Zq0 m).1 (Zq0 m).2) q.N q.ps,gx (χ (Zq0 m).1 (Zq0 m).2) s.N s.ps))<|>gK):D9 bD B ext Ts (.mu q s φ χ Zq0 n::r) a:=⟨⟨h1,h2,c,h,f,b,e⟩,g⟩
theorem alL(h1:dF bD (uW B ext a.x q) q=J φ)(h2:J5 q.N q.ps (ai<|bD q.i)=G)(h3:D9 bD B ext Ts r (P9 a<|.nd q φ)):D9 bD B ext Ts (.nd q φ::r) a:=⟨⟨h1,h2⟩,h3⟩
theorem aix(h1:∀F,Ce bD (RO B ext Ts a q [Zy q.q.x q.P F]) q=J (φ F))(h2:J5 q.q.N q.q.ps (ai<|bD q.q.i)=G)(d:D9 bD B ext Ts r (P9 a<|.rw q φ Z n))(b:(Z 0=fun _ _=>.no)<|>Rv)(f:∀m,Z (m+1)=q.F (φ<|Z m):=by exact fun _=>rfl)(e:q.P=[2]<|>Rv)(c:q.us=[.fn]<|>Rv)(g:q.t1=η<|>Rv):D9 bD B ext Ts (.rw q φ Z n::r) a:=⟨⟨h1,h2,b,f,e,c,g⟩,d⟩
theorem aaK(h1:Ce bD (RO B ext Ts a q) q=J ψ)(h2:(J5 q.q.N q.q.ps (ai<|bD q.q.i)&&(!q.t1||Ju q.q.ps (ai<|bD q.q.i)))=G)(b:D9 bD B ext Ts r (P9 a<|.ow q ψ)):D9 bD B ext Ts (.ow q ψ::r) a:=by
 rw[oR]at h2;exact⟨⟨h1,h2.1,fun z=>by mright⟩,b⟩
end
noncomputable def ny(K:aT)(n:Str):Option SA:=match DO K By n with
 |some (J<|.ref C)=>J C
 |_=>U
theorem oz{K:aT}(h:ny K n=J C):DO K By n=J (J<|.ref C):=by
 delta ny at h;cbv
 .mright
 .nofun
noncomputable def Cl(K:aT)(C:SA)(m:Str):Option SA:=match Yt K (.ref C) m with
 |some (J<|.ref f)=>J f
 |_=>U
theorem xQ{K:aT}(h:Cl K C m=J f):Yt K (.ref C) m=J (J<|.ref f):=by
 delta Cl at h;cbv
 .mright
 .nofun
noncomputable def Zf(K:aT)(C:SA):Bool:=mf K C qT&&sA K C&&zO K C&&(match Yt K (.ref C) "__setattr__"with
 |some (J<|.builtin b)=>decide (b="object.__setattr__")
 |_=>η)
def UM(K:aT)(q:Dm)(f:SA):Us->Bool
 |.fn=>decide (q.ql=q.q.x/\ny K q.q.x=J f)
 |.pl=>decide (q.P=[]/\q.q.g=[q.q.x]/\q.ql=q.q.x/\ny K q.q.x=J f)
 |.mt n=>(match ny K n with
  |some C=>Zf K C&&decide (Cl K C q.q.x=J f)&&mT K (.ref f)&&Xq K (.ref f)
  |none=>η)
 |.nw n=>decide (q.P=[0])&&(match ny K n with
  |some C=>SO K C&&decide (Cl K C "__init__"=J f)&&mT K (.ref f)&&Xq K (.ref C)
  |none=>η)
 |.vl=>decide (q.P=[0]/\ny K q.q.x=J f)&&Xq K (.ref f)
 |.mk _=>decide (q.P=[0]/\q.ql=q.q.x/\ny K q.q.x=J f)
section
variable{K:aT}(X:K.In h)(N:h.Ns By mg)
include X N
theorem OT(h:UM K q f u=G):KB K mg q f u:=by
 have g:∀{n:Str}{a:SA},ny K n=a->mg n=J (.ref a):=fun h=>en X N<|oz h;cases u with
 |fn=>obtain⟨a,b⟩:=WI h;exact⟨a,g b⟩
 |pl=>
  obtain⟨a,b,c,d⟩:=WI h;exact⟨a,by rw[b];simp,c,fun x j=>by mright⟩
 |mt n=>
  dsimp only[UM]at h;cbv
  .rename_i C e;mright;obtain⟨⟨⟨a,b⟩,c⟩,d⟩:=h;exact⟨C,oz e,(by
     delta Zf at a;mright;obtain⟨⟨⟨a,b⟩,c⟩,d⟩:=a;refine⟨a,b,c,?_⟩;split at d
     .mright
     .cases d),⟨xQ b,c,d⟩⟩
  .nofun
 |nw n=>
  dsimp only[UM]at h;rw[oR,decide_eq_true_eq]at h;obtain⟨i,h⟩:=h;cbv
  .rename_i C e;mright;obtain⟨⟨⟨a,b⟩,c⟩,d⟩:=h;exact⟨i,C,oz e,g e,⟨a,xQ b,c,d⟩⟩
  .nofun
 |vl=>
  dsimp only[UM]at h;rw[oR,decide_eq_true_eq]at h;exact⟨h.1.1,oz h.1.2,h.2⟩
 |mk n=>obtain⟨a,b,c⟩:=WI h;exact⟨a,b,g c⟩
end
abbrev Dq:=Df×Str×SH
noncomputable def Mz.ds:Mz->List Dq
 |.pl q _=>[(q,q.x,q.g)]
 |.p1 q _=>[(q,q.x,q.g)]
 |.mu q r _ _ _ _=>[(q,q.x,q.g),(r,r.x,r.g)]
 |.ow q _=>[(q.q,q.ql,[])]
 |.rw q _ _ _=>[(q.q,q.ql,[])]
 |.nd q _=>[(q,q.x,q.g)]
section
variable(bD:Nat->SU)(qn:Nat->Str)
def fZ(Lq0:Pl)(i:Nat):Wj:=Wk (Vk<|bD i) (qn i) (jJ<|bD i) (bL<|bD i) (ai<|bD i) .none .none .none (mA Lq0 i) U (.ref<|cA Lq0 i) .none
def WY(q:Dq)(kV g k:nE)(h:Option SA)(f j a b c d e:nE):Sem<|List<|Str×nE:=bindArgs (Wk q.1.x q.2.1 (jJ<|bD q.1.i) (bL<|bD q.1.i) (ai<|bD q.1.i) .none kV g k h f j) ⟨[a,b,c,d,e].take q.1.ps.length,[]⟩
def W2(q:Dq)(kV g j:nE)(h:Option SA)(f i a b c d e:nE):Sem<|List<|Str×nE:=pure<|q.1.ps.zip<|[a,b,c,d,e].take q.1.ps.length
def m3(K:aT)(L:Pl):Mz->Bool
 |.pl _ _=>G
 |.p1 q _=>decide (q.x∈q.g)
 |.mu q r _ _ _ _=>decide (q.x∈q.g/\r.x∈r.g)
 |.ow q _=>q.us.all<|UM K q<|fA L q.q.i
 |.rw q _ _ _=>q.us.all<|UM K q<|fA L q.q.i
 |.nd q _=>decide (q.x∈q.g)
end
section
variable{K:aT}{SK:List Mz}
theorem QW(X:K.In h)(N:h.Ns mainGlobals mg)(hGq:SK.flatMap Mz.ds=ds)(e0:(ds.map fun q=>(Vk<|bD q.1.i,qn q.1.i))=ds.map fun q=>(q.1.x,q.2.1))(e1:(ds.map fun q=>q.2.2.map<|DO K mainGlobals)=ds.map fun q=>q.2.2.map fun _=>J<|J<|.ref<|fA L q.1.i)
  (Rt:(ds.map fun q=>K.lookup<|fA L q.1.i)=ds.map fun q=>J ⟨.type "function",U,.func<|fZ bD qn L q.1.i,#[]⟩) (Ua:(ds.map fun q=>(Ea K (.ref<|cA L q.1.i) q.2.1,Xq K<|.ref<|fA L q.1.i))=ds.map fun _=>(G,G))
  (vA:ds.map (WY bD)=ds.map W2) (xt:(ds.map fun q=>decide (q.1.ps.length<=5))=ds.map fun _=>G) (eT:SK.all (m3 K L)=G):∀z∈SK,ZF bD K mg (fA L) (fZ bD qn L) z:=fun z hz=>by
 have key:∀q∈z.ds,UD K q.1.x q.2.1 (bD q.1.i) (fA L q.1.i) (fZ bD qn L q.1.i)/\cf K (fZ bD qn L q.1.i) q.1.ps []/\∀x∈q.2.2,mg x=J (.ref<|fA L q.1.i):=fun q hq=>by
  have hq:q∈ds:=hGq▸List.mem_flatMap.mpr ⟨z,hz,hq⟩;have hx:=Yj.mp e0 q hq;have hf:=Yj.mp Rt q hq;have hc:=Yj.mp Ua q hq;have hb:=Yj.mp vA q hq;have hl:=WI<|Yj.mp xt q hq;have F:UD K q.1.x q.2.1 (bD q.1.i) (fA L q.1.i)<|fZ bD qn L q.1.i:=by
   unfold fZ at hf⊢;rw[(eh hx).1,(eh hx).2]at hf⊢;exact Qe hf (eh hc).1 (eh hc).2
  refine⟨F,F.binds fun kV doc pm an cdv ct us hu=>?_,fun x hx=>en X N<|Yj.mp (Yj.mp e1 q hq) x hx⟩;obtain⟨a,b,c,d,e,he⟩:=aaI (by rw[hu];exact hl);rw[hu]at he;rw[he];exact congrFun (congrFun (congrFun (congrFun (congrFun (congrFun (congrFun (congrFun (congrFun (congrFun (congrFun hb kV) doc) pm) an) cdv) ct) a) b) c) d) e
 have hB:=Ve.mp eT z hz;cases z with
 |pl q m=>obtain⟨a,b,c⟩:=key _<|IF.mpr rfl;exact⟨a,b,c⟩
 |p1 q φ=>obtain⟨a,b,c⟩:=key _<|IF.mpr rfl;exact⟨⟨a,b,c⟩,WI hB⟩
 |nd q φ=>obtain⟨a,b,c⟩:=key _<|IF.mpr rfl;exact⟨⟨a,b,c⟩,WI hB⟩
 |mu q r φ χ Z n=>
  obtain⟨a,b,c⟩:=key (q,q.x,q.g) (by simp[Mz.ds]);obtain⟨a',b',c'⟩:=key (r,r.x,r.g) (by simp[Mz.ds]);obtain⟨u,v⟩:=WI hB;exact⟨⟨⟨a,b,c⟩,u⟩,⟨a',b',c'⟩,v⟩
 |ow q ψ=>
  obtain⟨a,b,c⟩:=key _<|IF.mpr rfl;exact⟨a,b,fun u hu=>OT X N<|Ve.mp hB u hu⟩
 |rw q φ Z n=>
  obtain⟨a,b,c⟩:=key _<|IF.mpr rfl;exact⟨a,b,fun u hu=>OT X N<|Ve.mp hB u hu⟩
end
end L2
namespace L2.Go
open PySem
theorem a8(h:τ Y=.ok G):DA τ S T Y=S Y:=by rw[Tz,h,am,UQ,SI rfl]
theorem j0(h:τ Y=.ok η):DA τ S T Y=T Y:=by rw[Tz,h,am,UQ,SM MK]
theorem bu(h:S Y=.ok (.nx δ')):nh S T Y=T δ':=by rw[M8,h,am,QA]
theorem aS(h:S Y=.ok (.rt d)):nh S T Y=.ok (.rt d):=by rw[M8,h];rfl
theorem ar(h:φ Y=.ok d):pX φ Y=.ok (.rt d):=by rw[RT,h];rfl
theorem au(h:φ Y=.ok d):rZ k φ Y=.ok (.nx<|Y.set k<|J d):=by rw[alA,h];rfl
theorem aq(h:r=.ok (.rt d)):fin r=.ok d:=by rw[h];rfl
theorem skip(h:τ Y=.ok η):nh (DA τ S ld) T Y=T Y:=bu<|(j0 h).trans rfl
theorem ac(h:φ Y=.ok d)(h2:α Y=.ok ds):ak φ α Y=.ok (d::ds):=by delta ak;rw[h,h2];rfl
theorem de(h:α Y=.ok ds)(a:ds.length<=100<|>xI):uD α Y=.ok (.tup ds):=by rw[TgD,h,am,hdW,SI<|⊥]
theorem mx(h:α Y=.ok ds)(a:ds.length<=100<|>xI):uw α Y=.ok (.lst ds):=by rw[R9,h,am,Qb,SI<|⊥]
theorem ae(h1:φ Y=.ok a)(h2:ψ Y=.ok b)(h:f a b=.ok c):aH f φ ψ Y=.ok c:=by rw[JU,h1,am,sN,h2,am,h]
theorem ao(h:φ Y=.ok (.bl b)):dC φ Y=.ok b:=by rw[DP,h];rfl
theorem af(h:α Y=.ok ds)(a:F ds=r):aI F α Y=r:=by rw[PH,h,am,a]
theorem aox(h:B (Y.set i<|J x)=.ok (.nx δ')):cZ (.one i) B (x::r) Y=cZ (.one i) B r δ':=by
 rw[sS];have e:iY (.one i) x Y=.ok (Y.set i<|x):=rfl;rw[e,am,Ja,h,am,v9]
theorem kU(h:ι Y=.ok xs)(a:cZ g B xs Y=.ok (.nx δ')):Hy ι g B Y=.ok (.nx δ'):=by rw[aor,h,am,aoc,a]
theorem eV(h:φ Y=.ok d)(a:L4 d=.ok b):lP φ Y=.ok b:=by rw[ac4,h,am,a]
theorem Fz(h:τ Y=.ok b):qN τ Y=.ok (!b):=by rw[Tm,h];rfl
theorem qj(h:τ Y=.ok G):qN τ Y=.ok η:=Fz h
theorem aaU(h:τ Y=.ok η):qN τ Y=.ok G:=Fz h
theorem P7(h:τ Y=.ok G):KF τ υ Y=.ok G:=by rw[Ss,h];rfl
theorem lR(h:τ Y=.ok η)(h2:υ Y=.ok b):KF τ υ Y=.ok b:=by rw[Ss,h,am,abF,SM MK,h2]
theorem kW(h:τ Y=.ok G)(h2:υ Y=.ok b):mQ τ υ Y=.ok b:=by rw[yr,h,am,xh,SI rfl,h2]
theorem Bu(h:τ Y=.ok η):mQ τ υ Y=.ok η:=by rw[yr,h];rfl
theorem pH(h:φ Y=.ok (.bl G))(h2:ψ Y=.ok d):GS φ ψ Y=.ok d:=by rw[v_and,h,am,aci,SI rfl,h2]
theorem amz(h:φ Y=.ok (.bl G)):Jn φ ψ Y=.ok (.bl G):=by rw[v_or,h];rfl
theorem amy(h:φ Y=.ok (.bl η))(h2:ψ Y=.ok d):Jn φ ψ Y=.ok d:=by rw[v_or,h,am,anh,SM MK,h2]
theorem stD(h:φ Y=.ok a)(h1:l Y=.ok lo)(h2:u Y=.ok hi)(hd:xo a lo hi=.ok d):Jm xo φ l u Y=.ok d:=by
 rw[SmL,h,am,aaP,h1,am,Xy,h2,am,aa5,hd]
theorem C4(h:φ Y=.ok (.int i)):gI φ Y=.ok (J i):=by rw[QB,h];rfl
theorem oy(h:ι Y=.ok xs)(a:cF t τ ε (dY ix Y) xs=.ok d):jX ix ι t τ ε Y=.ok d:=by rw[O8,h,am,a]
theorem lf(h:φ Y=.ok a)(b:cr [a]=.ok d):aI cr (ak φ aQ) Y=.ok d:=af (ac h rfl) b
theorem oj{β:Type}(f:β->D)(xs:List β){i:Nat}{x:β}(h:xs[i]?=J x):cR (.lst<|xs.map f) (.int (i:Int))=.ok (f x):=am7 (xu<|by mright)
theorem CK{β:Type}(f:β->D)(xs:List β):cr [.lst<|xs.map f]=.ok (.int (xs.length:Int)):=by rw[al3,WH]
theorem iH(h1:φ Y=.ok (.int i))(h2:ψ Y=.ok (.int j))(h:-(2^64)<j/\j<2^64<|>Sm):aH qX φ ψ Y=.ok (.int<|i*j):=ae h1 h2<|(SI<|.inr h)
theorem bf(h1:φ Y=.ok (.int i))(h2:ψ Y=.ok (.int j))(h:0<j<|>Sm):aH gk φ ψ Y=.ok (.int<|i%j):=ae h1 h2<|(SI h)
theorem f6(h1:φ Y=.ok (.int i))(h2:ψ Y=.ok (.int j))(h:0<j/\j<1073741824<|>Sm):aH lO φ ψ Y=.ok (.int<|i/j):=ae h1 h2<|(SI h)
theorem ir(h1:φ Y=.ok (.int i))(h2:ψ Y=.ok (.int j)):aH eZ φ ψ Y=.ok (.int<|i+j):=ae h1 h2 rfl
theorem sC(h1:φ Y=.ok (.int i))(h2:ψ Y=.ok (.int j)):aH zI φ ψ Y=.ok (.int<|i-j):=ae h1 h2 rfl
theorem sV(h1:φ Y=.ok (.int i))(h2:ψ Y=.ok (.int j)):dC (aH jp φ ψ) Y=.ok (decide (i=j)):=ao<|ae h1 h2 zf
theorem vp(h:τ Y=.ok G)(h2:φ Y=.ok d):MU τ φ ψ Y=.ok d:=by rw[NN,h,am,MH,SI rfl,h2]
theorem B7(h:τ Y=.ok η)(h2:ψ Y=.ok d):MU τ φ ψ Y=.ok d:=by rw[NN,h,am,MH,SM MK,h2]
theorem amx(h:φ Y=.ok (.bl a))(h2:ψ Y=.ok (.bl b)):Jn φ ψ Y=.ok (.bl<|a||b):=by
 cases a with
 |true=>exact amz h
 |false=>exact amy h h2
theorem wY(h:φ Y=.ok (.bl a))(h2:ψ Y=.ok (.bl b)):GS φ ψ Y=.ok (.bl<|a&&b):=by
 cases a with
 |true=>exact pH h h2
 |false=>exact(by rw[v_and,h];rfl)
theorem BM(h:φ Y=.ok a)(b:f a=r):zz f φ Y=r:=by delta zz;rw[h];exact b
variable{nl n k:Nat}{ψ:gi}{α:qg}{L μ1 μ2:Rx}
theorem cL(h:ψ (aZ n Y) L=.rt d μ1)(a:Y.length=k/\L.length=nl<|>xB):bF nl ψ n k Y L=.ok d μ1:=by delta bF;rw[SI a,h]
theorem jC(h:ψ (aZ n Y) L=.nx δ' μ1)(b:lst nl μ1=μ2<|>Rv)(a:Y.length=k/\L.length=nl<|>xB):bF nl ψ n k Y L=.ok .S9 μ2:=by delta bF;rw[SI a,h,<-b]
theorem ga(h:ψ (aZ n Y) L=.er x μ1)(a:Y.length=k/\L.length=nl<|>xB):bF nl ψ n k Y L=.er x μ1:=by delta bF;rw[SI a,h]
theorem eL(h:ψ Y L=.nx δ' μ1)(h2:χ δ' μ1=r):bZ ψ χ Y L=r:=by delta bZ;rw[h];exact h2
theorem BS(h:ψ Y L=.rt d μ1):bZ ψ χ Y L=.rt d μ1:=by delta bZ;rw[h]
theorem lh(h:ψ Y L=.er x μ1):bZ ψ χ Y L=.er x μ1:=by delta bZ;rw[h]
theorem kR(h:τ Y L=.ok G μ1)(h2:ψ Y μ1=r):pf nl τ ψ χ Y L=r:=by delta pf;rw[h];exact h2
theorem F2(h:τ Y L=.ok η μ1)(h2:χ Y μ1=r):pf nl τ ψ χ Y L=r:=by delta pf;rw[h];exact h2
section
variable{nl n k:Nat}{ψ:gi}{α:qg}{L μ1 μ2:Rx}
theorem ee(h:φ Y L=.ok d μ1):qM nl i φ Y L=.nx (Y.set i<|J d) μ1:=by unfold qM;rw[h];rfl
end
theorem Ky(h:φ Y L=.er x μ1)(a:lst nl μ1=μ2<|>Rv):qM nl i φ Y L=.er x μ2:=by subst a;delta qM;rw[h];rfl
theorem il(h:φ Y L=.ok d μ1):sr nl φ Y L=.nx Y μ1:=by delta sr;rw[h];rfl
theorem kJ(h:φ Y L=.er x μ1)(a:lst nl μ1=μ2<|>Rv):sr nl φ Y L=.er x μ2:=by subst a;delta sr;rw[h];rfl
theorem eG(h:φ Y L=.ok d μ1)(a:lst nl μ1=μ2<|>Rv):xz nl φ Y L=.rt d μ2:=by subst a;delta xz;rw[h];rfl
theorem Cy(h:φ Y L=.er x μ1)(a:lst nl μ1=μ2<|>Rv):xz nl φ Y L=.er x μ2:=by subst a;delta xz;rw[h];rfl
theorem aN{φ:FE}(h:φ (fill P L Y)=.ok d)(a:Sj d=G<|>Rv):ji P φ Y L=.ok d L:=by delta ji;mright
theorem qt:ji P (vC d) Y L=.ok d L:=by
 show(if Sj d=G then RM.ok d L else RM.ok d L)=_;split<;>rfl
theorem aR{τ:FT}(h:τ (fill P L Y)=.ok b):uv P τ Y L=.ok b L:=by delta uv;rw[h]
theorem B0(h:τ Y L=.ok b μ1):Dc τ Y L=.ok (!b) μ1:=by delta Dc;rw[h];rfl
theorem FJ(h:τ Y L=.ok G μ1):Dc τ Y L=.ok η μ1:=B0 h
theorem Hd(h:τ Y L=.ok η μ1):Dc τ Y L=.ok G μ1:=B0 h
theorem bw(h:φ Y L=.ok (.bl b) μ1):qL φ Y L=.ok b μ1:=by delta qL;rw[h];rfl
theorem vU(h:τ Y L=.ok G μ1)(h2:υ Y μ1=.ok b μ2):xg τ υ Y L=.ok b μ2:=by delta xg;rw[h];exact h2
theorem Gh(h:τ Y L=.ok η μ1):xg τ υ Y L=.ok η μ1:=by delta xg;rw[h];rfl
theorem NZ(h:τ Y L=.ok G μ1):J6 τ υ Y L=.ok G μ1:=by delta J6;rw[h];rfl
theorem NS(h:τ Y L=.ok η μ1)(h2:υ Y μ1=.ok b μ2):J6 τ υ Y L=.ok b μ2:=by delta J6;rw[h];exact h2
theorem N3(h:τ Y L=.ok G μ1)(h2:φ Y μ1=r):Nf τ φ φ' Y L=r:=by delta Nf;rw[h];exact h2
theorem MN(h:τ Y L=.ok η μ1)(h2:φ' Y μ1=r):Nf τ φ φ' Y L=r:=by delta Nf;rw[h];exact h2
theorem bg(h:φ Y L=.ok d μ1)(h2:α Y μ1=.ok l μ2):aK φ α Y L=.ok (.pl d::l) μ2:=by delta aK;rw[h];show(α Y μ1).bind _=_;rw[h2];rfl
theorem Bg(h:φ Y L=.er x μ1):aK φ α Y L=.er x μ1:=by delta aK;rw[h];rfl
theorem O6(h:φ Y L=.ok d μ1)(h2:α Y μ1=.er x μ2):aK φ α Y L=.er x μ2:=by delta aK;rw[h];show(α Y μ1).bind _=_;rw[h2];rfl
theorem bA(h:α Y L=.ok l μ1):mw k α Y L=.ok (.ob k::l) μ1:=by delta mw;rw[h];rfl
theorem B5(h:α Y L=.ok l μ1)(b:f8 l=J ds<|>Rv)(a:Nat.ble ds.length 1000000=G<|>Rv):vN α Y L=.ok (.tup ds) μ1:=by delta vN;rw[h];show(match f8 l with|some ds=>_|none=>_)=_;mright
section
variable{nl n k:Nat}{ψ:gi}{α:qg}{L μ1 μ2:Rx}
theorem ag0(h:α Y L=.er x μ1):vN α Y L=.er x μ1:=by unfold vN;rw[h];rfl
end
theorem kC(h:F (uB l) ((j4 l).map fun k=>(L[k]?).getD .S9)=.ok d μ1)(a:decide ((j4 l).Nodup/\zw 0 l=Pf)=G<|>Rv):fU Pf F l L=.ok d (putAt (j4 l) μ1 L):=by delta fU;mright
theorem AW(h:F (uB l) ((j4 l).map fun k=>(L[k]?).getD .S9)=.er x μ1)(a:decide ((j4 l).Nodup/\zw 0 l=Pf)=G<|>Rv):fU Pf F l L=.er x (putAt (j4 l) μ1 L):=by delta fU;mright
theorem ka(h:F (uB l) ((j4 l).map fun k=>(L[k]?).getD .S9)=.ok d μ1)(a:putAt (j4 l) μ1 L=μ2)(b:decide ((j4 l).Nodup/\zw 0 l=Pf)=G<|>Rv):fU Pf F l L=.ok d μ2:=a▸kC h b
theorem vS(h:F (uB l) ((j4 l).map fun k=>(L[k]?).getD .S9)=.er x μ1)(a:putAt (j4 l) μ1 L=μ2)(b:decide ((j4 l).Nodup/\zw 0 l=Pf)=G<|>Rv):fU Pf F l L=.er x μ2:=a▸AW h b
theorem aM(h:α Y L=.ok l μ1)(h2:fU Pf F l μ1=r):dm Pf F α Y L=r:=by delta dm;rw[h];exact h2
theorem cx(a:zW c m L[k]?=G)(h:α Y L=.ok l μ1)(h2:fU Pf F (.ob k::l) μ1=r):dM k c m Pf F α Y L=r:=by delta dM;rw[a,h];exact h2
theorem Z63(a:zW c m L[k]?=G)(h:α Y L=.er x μ1):dM k c m Pf F α Y L=.er x μ1:=by delta dM;rw[a,h];rfl
theorem O0{a:Str}(h:α Y L=.ok l μ1)(c:Nat.ble l.length 10=G<|>Rv)(b:lst nl μ1=μ2<|>Rv):RL nl a α Y L=.er a μ2:=by subst b;delta RL;rw[h];exact SI<|lA c
theorem jM{r:RS}(h:τ Y L=.ok G μ1)(a:ψ Y μ1=.nx δ' μ2)(h2:bV nl τ ψ n δ' μ2=r):bV nl τ ψ (n+1) Y L=r:=by rw[bV,h];dsimp only[RM.bs];rw[a];exact h2
theorem qw(h:τ Y L=.ok η μ1):bV nl τ ψ (n+1) Y L=.nx Y μ1:=by rw[bV,h];rfl
theorem Em(h:τ Y L=.ok G μ1)(a:ψ Y μ1=.er x μ2):bV nl τ ψ (n+1) Y L=.er x μ2:=by rw[bV,h];dsimp only[RM.bs];rw[SI rfl,a]
theorem ED(h:φ Y L=.ok d μ1)(hs:xM c f d μ1[k]?=J d'):Bs nl k c f φ Y L=.nx Y (μ1.set k d'):=by delta Bs;rw[h];show(match xM c f d μ1[k]? with|some d'=>_|none=>_)=_;rw[hs]
theorem gG(h:τ Y L=.ok η μ1)(h2:χ Y μ1=r):bZ (pf nl τ ψ qG) χ Y L=r:=eL (F2 h rfl) h2
theorem D3(h:φ Y L=.ok d μ1)(h2:χ Y μ1=r):bZ (sr nl φ) χ Y L=r:=eL (il h) h2
theorem HW(h:φ Y L=.er x μ1)(a:lst nl μ1=μ2<|>Rv):bZ (sr nl φ) χ Y L=.er x μ2:=lh<|kJ h a
theorem iG(h:φ Y L=.ok d μ1)(h2:χ (Y.set i<|J d) μ1=r):bZ (qM nl i φ) χ Y L=r:=eL ((by delta qM;rw[h];rfl)) h2
end L2.Go
namespace L2.Go
open PySem
inductive Q(Z α:Type) where
 |ok (a:α) (s:Z)|er (s:Z)
section
variable{Z α β:Type}
noncomputable def Q.bind(q:Q Z α)(f:α->Z->Q Z β):Q Z β:=match q with
 |.ok a s=>f a s
 |.er s=>.er s
def Q.In(I:Z->Prop):Q Z α->Prop
 |.ok _ s=>I s
 |.er s=>I s
end
section
variable{Z:Type}(x:Str)(e:Z->Rx)(I:Z->Prop)(nl:Nat)
structure EM(a:RM D)(q:Q Z D):Prop where
 eq:a=match q with
  |.ok d s=>.ok d<|e s
  |.er s=>.er x<|e s
 ch:q.In I
structure EA(a:RM (List AD))(q:Q Z (Rx)):Prop where
 eq:a=match q with
  |.ok ds s=>.ok (ds.map .pl)<|e s
  |.er s=>.er x<|e s
 ch:q.In I
structure ES(a:RS)(q:Q Z D):Prop where
 eq:a=match q with
  |.ok d s=>.rt d<|lst nl<|e s
  |.er s=>.er x<|lst nl<|e s
 ch:q.In I
end
section
variable{e:Z->Rx}
theorem x8{φ:FE}(c:I s)(h:φ (fill P (e s) Y)=.ok d)(a:Sj d=G<|>Rv):EM x e I (ji P φ Y<|e s)<|.ok d s:=⟨aN h a,c⟩
theorem MG(h:EM x e I a q)(b:q=q'):EM x e I a q':=b▸h
theorem mU{φ:FE}(h:φ (fill P (e s) Y)=.ok d)(a:Sj d=G)(h2:EA x e I (α Y<|e s) q):EA x e I (aK (ji P φ) α Y<|e s)<|q.bind fun ds s=>.ok (d::ds) s:=by
 cases q with
 |er s'=>exact⟨O6 (aN h a) h2.eq,h2.ch⟩
 |ok ds s'=>exact⟨bg (aN h a) h2.eq,h2.ch⟩
theorem ri(h:EM x e I (φ Y L) q):EA x e I (aK φ bj Y L)<|q.bind fun d s=>.ok [d] s:=by
 cases q with
 |er s'=>exact⟨Bg h.eq,h.ch⟩
 |ok d s'=>exact⟨bg h.eq rfl,h.ch⟩
theorem OB(ds:Rx):f8 (ds.map .pl)=J ds:=by
 induction ds with
 |nil=>rfl
 |cons d r a=>show(f8<|r.map .pl).map (d::·)=_;rw[a];rfl
theorem wD(h:EA x e I (α Y L) q)(a:∀ds s,q=.ok ds s->ds.length<=1000):EM x e I (vN α Y L)<|q.bind fun ds s=>.ok (.tup ds) s:=by
 cases q with
 |er s=>exact⟨(by delta vN;rw[h.eq];rfl),h.ch⟩
 |ok ds s=>
  refine⟨?_,h.ch⟩
  have:=a ds s rfl
  exact B5 h.eq (OB ds) (Nat.ble_eq_true_of_le<|⊥)
theorem NF(h:τ Y (e s)=.ok b (e s))(y:b=G->EM x e I (φ Y<|e s) q)(z:b=η->EM x e I (φ' Y<|e s) q):EM x e I (Nf τ φ φ' Y<|e s) q:=by
 cases b with
 |true=>exact⟨N3 h (y rfl).eq,(y rfl).ch⟩
 |false=>exact⟨MN h (z rfl).eq,(z rfl).ch⟩
theorem f7(h:EM x e I (φ Y L) q)(h2:∀d s',q=.ok d s'->I s'->ES x e I nl (χ (Y.set i<|J d)<|e s') (f d s')):ES x e I nl (bZ (qM nl i φ) χ Y L)<|q.bind f:=by
 cases q with
 |er s=>exact⟨lh<|Ky h.eq,h.ch⟩
 |ok d s'=>have g:=h2 d s' rfl h.ch;exact⟨iG h.eq g.eq,g.ch⟩
theorem zk(h:EM x e I (φ Y L) q)(h2:∀d s',q=.ok d s'->I s'->ES x e I nl (χ Y<|e s') (f d s')):ES x e I nl (bZ (sr nl φ) χ Y L)<|q.bind f:=by
 cases q with
 |er s=>exact⟨lh<|kJ h.eq,h.ch⟩
 |ok d s'=>have g:=h2 d s' rfl h.ch;exact⟨D3 h.eq g.eq,g.ch⟩
theorem eS(h:EM x e I (φ Y L) q):ES x e I nl (xz nl φ Y L) q:=by
 cases q with
 |er s=>exact⟨Cy h.eq,h.ch⟩
 |ok d s'=>exact⟨eG h.eq,h.ch⟩
theorem Ik(h:τ Y (e s)=.ok b (e s))(y:b=G->ES x e I nl (ψ Y<|e s) q1)(z:b=η->ES x e I nl (χ Y<|e s) q2):ES x e I nl (bZ (pf nl τ ψ qG) χ Y<|e s)<|if b=G then q1 else q2:=by
 cases b with
 |true=>
  have g:=y rfl;refine⟨?_,g.ch⟩;have e1:=g.eq;cases q1 with
  |ok d s'=>exact BS<|kR h e1
  |er s'=>exact lh<|kR h e1
 |false=>have g:=z rfl;exact⟨gG h g.eq,g.ch⟩
theorem zD(h:τ Y (e s)=.ok G (e s))(y:ES x e I nl (ψ Y<|e s) q):ES x e I nl (bZ (pf nl τ ψ qG) χ Y<|e s) q:=by
 have:=Ik (χ:=χ) (q2:=q) h (fun _=>y) fun z=>nomatch z
 trivial
theorem Ek(h:τ Y (e s)=.ok η (e s))(y:ES x e I nl (χ Y<|e s) q):ES x e I nl (bZ (pf nl τ ψ qG) χ Y<|e s) q:=⟨gG h y.eq,y.ch⟩
theorem Bi{q:Q Z D}(h:EM x e I (φ Y L)<|.er s):ES x e I nl (sr nl φ Y L)<|.er s:=⟨kJ h.eq,h.ch⟩
theorem pW(h:ES x e I nl (ψ (aZ n Y) L) q)(a:Y.length=k/\L.length=nl):EM x (fun s=>lst nl<|e s) I (bF nl ψ n k Y L) q:=by
 cases q with
 |er s=>exact⟨ga h.eq a,h.ch⟩
 |ok d s=>exact⟨cL h.eq a,h.ch⟩
end
end L2.Go
namespace L2
noncomputable def dbl:Ru->Ru
 |[]=>[]
 |c::r=>if c=34 then 34::34::dbl r else c::dbl r
theorem Ra:∀(L:Ru),rep [34] [34,34] 0 L=dbl L:=TB (rfl) fun c r i_=>by
  rw[rep,dbl];show(if[c]=[34]then[34,34]++rep [34] [34,34] 0 r else c::rep [34] [34,34] 0 r)=_;rw[i_];by_cases h:c=34
  .rw[SI<|by rw[h],SI h];rfl
  .rw[SM<|by simpa using h,SM h]
noncomputable def bq(w:Ru):Ru->Ru
 |[]=>[]
 |c::r=>if c=34 then w++bq w r else c::bq w r
theorem qO(w:Ru):∀(L:Ru),rep [34,34] w 0 (dbl L)=bq w L:=TB (rfl) fun c r i_=>by
  rw[dbl,bq];by_cases h:c=34
  .rw[SI h,SI h,rep];show(if(34::34::dbl r).take 2=[34,34]then w++rep [34,34] w 1 (34::dbl r)else _)=_;rw[SI (show(34::34::dbl r).take 2=[34,34]from rfl)];show w++rep [34,34] w 0 (dbl r)=_;rw[i_]
  .rw[SM h,SM h,rep,SM (fun e=>by
    cases hd:dbl r with
    |nil=>rw[hd]at e;simp at e
    |cons a b=>rw[hd]at e;simp at e;exact h e.1),i_]
theorem zA:∀(L:Ru),bq [34] L=L
 |[]=>rfl
 |c::r=>by
  rw[bq];by_cases h:c=34
  .rw[SI h,zA r,h];rfl
  .rw[SM h,zA r]
theorem BZ:∀(L:Ru),34∉bq [] L
 |[]=>by simp[bq]
 |c::r=>by
  rw[bq];by_cases h:c=34
  .rw[SI h];exact BZ r
  .rw[SM h];intro z;rcases eQ.mp z with z|z
   .exact h z.symm
   .exact BZ r z
end L2
namespace T67
open PySem L2
open PySem L2
noncomputable def bD(i:Nat):SU:=PySem.Challenge.pw_tablestore_k67_whole_faults.main.body.getD i<|.Pass ⟨0,0,0,0⟩
def tp(i:Nat):SU:=match i/1000 with
 |0=>bD i
 |j+1=>match bD (i%1000)with
  |.ClassDef _ _ _ b _ _ _ _ _ _ _=>b.getD j<|.Pass ⟨0,0,0,0⟩
  |s=>s
def Z25(i:Nat):SH:=((ai<|tp i).names.filter fun q=>q.2==.local||q.2==.cell).map (·.1)
def rD(φ:FS)(p n:Nat):Rx->R D:=gx φ (Ut n "")<|Ut p ""
def df(x:Str)(i p d:Nat):Df:=⟨x,[x],i,Z25 i,p,d,[],[],[],[],1000⟩
def dxz(l x:Str)(i p d:Nat)(P:Ru)(u:List Us):Dm:={q:=df x i p d,ql:=l,P:=P,us:=u}
def dyz(x:Str):=dxz x x
noncomputable def lx:List<|Str×D:=[("(",.int 0),("or",.int 1),("and",.int 2),("not",.int 3)]
noncomputable def cT:List<|Str×D:=[("FIGURES",.str "0123456789"),("MOST_SIGNS_values",.int 40),("MOST_FIGURES",.int 18),("NO_NAMES",.tup [.str "and",.str "by",.str "down",.str "from",.str "none",.str "not",.str "or",.str "order",.str "show",.str "take",.str "where"]),("MOST_LETTERS",.int 8),("SIGNS",.tup [.str "<>",.str "<=",.str ">=",.str "<",.str ">",.str "=",.str ",",.str ".",.str "(",.str ")"]),("MOST_SIGNS_asking",.int 900),("MOST_SOURCES",.int 3),("MOST_COLUMNS",.int 8),("MOST_TESTS",.int 20),("MOST_NESTED",.int 20),("TEST_SIGNS",.tup [.str "=",.str "<>",.str "<",.str "<=",.str ">",.str ">="])]
def gT:List<|Str×D:=[("read_source",.cls "read_source"),("read_order",.cls "read_order"),("read_column",.cls "read_column")]
def yT:List<|Str×D:=[("str",.ty "str"),("int",.ty "int"),("tuple",.ty "tuple"),("bool",.ty "bool")]
def GV(m:Str)(f:Str->Str->Int->D):Fm:=S5 m 2<|QL f
noncomputable def y6:List<|Str×D:=[("behind order",.lst [.str "down",.str "show"]),("behind down",.lst [.str "show"]),("behind shown",.lst [.str "take",.str "END"])]
noncomputable def agV:List<|Str×D:=[("from",.lst [.str "from"]),("table",.lst [.str "NAME"]),("alias",.lst [.str "NAME"]),("dot",.lst [.str "."]),("name",.lst [.str "NAME"]),("by",.lst [.str "by"])]
noncomputable def akR:List<|Str×D:=[("from",.lst [.str "show",.str "NAME"]),("table",.lst [.str "from",.str ",",.str "where"]),("behind table",.lst [.str "take",.str "by",.str "."])]
noncomputable def ajs:List<|Str×D:=[("due",.str "from"),("next",.str ""),("sources",.int 0),("tests",.int 0),("opened",.int 0),("depth",.int 0),("orders",.int 0),("shows",.int 0)]
def Er:List<|List<|Str×D:=[y6,agV,akR,ajs]
def aoL(e:Ry):Bool:=!(Ux ["_law_found"] e)
noncomputable def u5:fC:=⟨["BadValue","NoColumn","NoTable","TableError"],[("BadQuestion","BadValue",η),("BadQuestion","NoColumn",η),("BadQuestion","NoTable",η),("BadQuestion","TableError",G)],["BadQuestion"]⟩
def tB:Tb:=⟨[yc .Add eZ,yc .Sub zI,yc .Mult qX,yc .FloorDiv lO,yc .Mod gk,yc .Pow oq,gH .Eq jp iK,gH .NotEq xF iK,gH .Lt zF iK,gH .LtE Mp iK,gH .Gt Ed iK,gH .GtE C9 iK,gH .Is OU iK,gH .IsNot rX iK,gH .In rE iK,gH .NotIn mI iK,XG "BINDING" lx,Es Er,Zs wN am6,Zs wN<|Ux ["_law_state"],Zs cR aoL,X8 xo,SJ,LC,uo "Reader" "text",uo "Reader" "word",uo "Reader" "tests",uo "Reader" "nested",uo "Piles" "trees",uo "Piles" "waiting",fB "len" cr,fB "isinstance" LP,fB "all" Dd,fB "tuple" wf,fB "int" J8,fB "str" CO,WW .USub QN,Jh,S5 "startswith" 1<|Ly fun x y=>.bl<|pQ x y,S5 "endswith" 1<|Ly fun x y=>.bl<|cg x y,GV "startswith" fun x y i=>.bl<|HV x y i,GV "find" fun x y i=>.int<|bt x y i,Vs,Yh],[Es Er],[fQ<|gH .Eq jp iK,fQ<|gH .NotEq xF iK,fQ<|gH .Lt zF iK,fQ<|gH .LtE Mp iK,fQ<|gH .Gt Ed iK,fQ<|gH .GtE C9 iK,fQ<|gH .Is OU iK,fQ<|gH .IsNot rX iK,fQ<|gH .In rE iK,fQ<|gH .NotIn mI iK],[fI "range" 1 η p9,fI "range" 2 η nO],[P4,Vp,XU],yT++(gT++cT),[],[],[],1000⟩
def tE:List Fm:=[fB "int" xK]
def aC:Ac:=⟨[],[],[],[],0,[]⟩
def Pr{α:Type}(_ _:Option α):Prop:=True
theorem U9{α:Type}{x:α}:Pr (J x)<|J x:=Uy
abbrev gt(i:Option FS){x:FS}(_:Pr i<|J x):FS:=x
abbrev lQ(i:Option gi){x:gi}(_:Pr i<|J x):gi:=x
abbrev Fd:=Rx->R D
def ad(q:Df)(F:Fd)(A:List<|Nat×Fm)(n:Nat:=1):List<|Nat×Fm:=q.g.map (fun x=>(q.d+n,bX x F))++A
def uA(q:Dm)(F:UV)(A:Ac):Ac:=q.us.foldl (PY q F) A
def aX(q:Df)(F:Fd)(A:Ac):Ac:={A with x:=ad q F A.x}
def bo(A:Ac)(q:Df)(s:List Fm:=[]):Option FS:=dF tp (UX tB tE A.x q s) q
abbrev bon(A:Ac)(q:Df):Option FS:=dF tp (uW tB tE A.x q) q
def cU:Df:=df "no_word" 26 1 0
def kP:Df:=df "_law_cell_at" 59 2 0
def kH:Df:=df "is_letter" 22 1 0
def pL:Df:=df "is_name" 21 1 1
def jQ:Df:={df "letters_at" 27 2 2 with w:=100000}
def xP:Df:=df "is_sign" 14 1 0
def yt:Df:=df "is_value" 13 1 1
def pP:Dm:={q:=df "read_text" 16 1 2,ql:="read_text",P:=[],us:=[.fn],t1:=G}
def fw:Dm:={q:={df "read_number" 17 1 0 with e:=[0]},ql:="read_number",P:=[],us:=[.fn]}
def gl:=dyz "read_value" 15 1 3 [] [.fn]
def jN:=dyz "value_at" 28 4 4 [] [.pl]
def iA:Df:={df "figures_end" 29 2 0 with w:=100000}
def xY:Df:={df "text_end" 30 2 0 with w:=100000}
def oW:Df:=df "sign_at" 31 2 1
def oY:Df:={df "word_at" 25 2 5 with w:=100000}
def iu:Df:=df "word_within" 40 2 6
def fv:=dxz "Reader.__init__" "__init__" 1039 2 7 [0] [.nw "Reader"]
def nF:=dyz "refuse" 41 1 0 [0] [.fn]
def fk:=dxz "Reader.step" "step" 2039 1 7 [0] [.mt "Reader"]
def dz:=dxz "Reader.stands" "stands" 3039 3 0 [0] [.mt "Reader"]
def nI:=dyz "passed" 45 3 8 [0] [.fn]
def wZ:=dyz "need" 46 3 9 [0] [.fn]
def gQ:=dyz "read_kind" 47 2 8 [0] [.fn]
def fF:=dyz "read_source" 49 1 9 [0] [.fn,.vl]
def fD:=dyz "read_column" 52 1 10 [0] [.fn,.vl]
def gh:=dyz "read_order" 51 1 11 [0] [.fn,.vl]
def jS:Dm:={q:=df "read_row" 48 3 12,ql:="read_row",P:=[0],us:=[.fn],ow:=["things"]}
def fz:=dyz "read_orders" 50 1 13 [0] [.fn]
def g8:=dyz "read_take" 53 1 9 [0] [.fn]
def b7:=dxz "Piles.has_bracket" "has_bracket" 6008 1 0 [0] [.mt "Piles"]
def d7:=dxz "Piles.settle" "settle" 8008 2 0 [0] [.mt "Piles"]
def fG:=dxz "Piles.whole" "whole" 7008 1 1 [0] [.mt "Piles"]
def cG:=dxz "Piles.add_joint" "add_joint" 4008 2 1 [0] [.mt "Piles"]
def gg:=dxz "Piles.__init__" "__init__" 1008 1 0 [0] [.nw "Piles"]
def bK:=dxz "Piles.close_bracket" "close_bracket" 5008 1 1 [0] [.mt "Piles"]
def cY:=dxz "Piles.add_tree" "add_tree" 3008 2 0 [0] [.mt "Piles"]
def cX:=dxz "Piles.add_word" "add_word" 2008 2 0 [0] [.mt "Piles"]
def d8:=dyz "read_operand" 57 1 11 [0] [.fn]
def gX:=dyz "read_test" 56 1 12 [0] [.fn]
def ia:=dyz "read_side" 55 2 13 [0,1] [.fn]
def cV:=dyz "read_condition" 54 1 14 [0] [.fn]
def du:=dyz "read_question" 44 1 15 [0] [.fn,.mk "Reader"]
def wy:=dyz "read" 42 1 16 [] [.fn]
def pN:=dyz "_law_refused" 74 1 17 [] [.pl]
def pR:=dyz "fault_in" 43 1 16 [] [.pl]
def pV:=dyz "_law_right" 75 2 18 [] [.pl]
def gm:Df:={df "_law_begun" 76 0 0 with m:=["_law_state"]}
def pB:=dyz "_law_behind_test" 63 1 0 [0] [.fn]
def pS:=dyz "_law_behind" 64 2 0 [] [.fn]
def SZ:=dyz "_law_allowed" 65 1 1 [0] [.fn]
def Bd:Df:=df "_law_any" 66 1 0
def pT:=dyz "_law_near" 67 1 0 [] [.fn]
def mD:=dyz "_law_drawn" 80 3 2 [0] [.fn]
def Ad:Df:=df "_law_fits" 68 2 0
def tI:Df:=df "_law_name" 60 1 0
def Ah:Df:=df "_law_signs" 61 2 0
def g9:Df:=df "_law_written" 62 1 0
def wq:Df:=df "_law_spelled" 69 2 1
def pC:=dyz "_law_go_sources" 70 2 0 [0] [.fn]
def px:=dyz "_law_go_condition" 71 2 0 [0] [.fn]
def pD:=dyz "_law_go_column" 72 1 0 [0] [.fn]
def q7:=dyz "_law_go" 73 2 1 [0] [.fn]
def yZ:Df:=df "_law_sort" 77 1 0
def yC:Df:=df "_law_runs" 78 2 1
def Be:Df:=df "_law_gap" 79 4 2
def qu:=dyz "_law_put" 81 3 3 [0] [.fn]
def vK:=dyz "law" 82 1 19 [] [.pl]
local macro_rules|`(tactic|walk_at "e2")=>`(tactic|dsimp only[dxz,dyz,cG,cY,cX,bK,b7,gg,d7,fG,fv,dz,fk,pR,SZ,pS,pB,mD,q7,pD,px,pC,pT,qu,pN,pV,vK,wZ,nI,wy,fD,cV,gQ,fw,d8,gh,fz,du,jS,ia,fF,g8,gX,pP,gl,nF,jN,g0,g1,g2,aL,OD,SR,oP,Md,df,RO,uq,l3,Mf,↓reduceIte])
local macro_rules|`(tactic|walk_at "kq")=>`(tactic|(refine (?f:?a->?a) ?p;(case p=>(conv=>arg 1;whnf);walk_at "e2";exact U9);exact fun _=>True.intro))



def pq:=gt (bo aC cU) #[7]
def oV:=rD pq 1 1
def A1:=aX cU oV aC
def Ts:Ug:=⟨[YI,V4,WX "Piles" "waiting",WX "Piles" "trees"],[Wm "Piles" "waiting",Wm "Piles" "trees",Ws],[Fu Er,VY "Piles" "trees",VY "Piles" "waiting",VI "Reader" "tests",VI "Reader" "nested",VQ "BadValue",VQ "BadQuestion"],[(0,RK "Reader" "text"),(0,RK "Reader" "word"),(0,RK "Reader" "tests"),(0,RK "Reader" "nested"),(1,VF "BadValue" (JD ["BadValue"]) ⟨[],[("no_word",oV)]⟩),(0,Fy),(0,VF "BadQuestion" (JD ["BadQuestion"]) ⟨[("Reader","word")],[]⟩),(0,FU "BadQuestion" (JD ["BadQuestion"]) u5)]⟩
def bm(A:Ac)(q:Dm):Option gi:=Ce tp (RO tB tE Ts A q) q
def Bh(l:List SU)(A:Ac)(q:Dm):Option gi:=(Qc (RO tB tE Ts A q) q.P.length (ai<|tp q.q.i) (fun _=>G) q.q.N 12 [] q.P l).map (·.1)
def qi:=gt (bo A1 kP) #[7]
def gV:=rD qi 2 2
def A2:=aX kP gV A1
def qF:=gt (bo A2 kH) #[7]
def fJ:=rD qF 1 1
def A3:=aX kH fJ A2
def uX:=gt (bo A3 pL) #[7]
def uJ:=rD uX 1 1
def A4:=aX pL uJ A3
def jU:=gt (bo A4 jQ) #[7]
def jK:=rD jU 2 4
def A5:=aX jQ jK A4
def Me:=gt (bo A5 xP) #[7]
def xZ:=rD Me 1 1
def A6:=aX xP xZ A5
def Jt:=gt (bo A6 yt) #[7]
def K4:=rD Jt 1 1
def A7:=aX yt K4 A6
def K3:=lQ (bm A7 pP) #[7]
def wX:UV:=bF 0 K3 3 1
def A8:=uA pP wX A7
def mr:=lQ (bm A8 fw) #[7]
def l9:UV:=bF 0 mr 2 1
def A9:=uA fw l9 A8
def nH:=lQ (bm A9 gl) #[7]
def nz:UV:=bF 0 nH 1 1
def Zn:=uA gl nz A9
def se:=lQ (bm Zn jN) #[7]
def mG:UV:=bF 0 se 4 4
def Y9:=uA jN mG Zn
def lX:=gt (bo Y9 iA) #[7]
def lV:=rD lX 2 3
def Zx:=aX iA lV Y9
def JL:=gt (bo Zx xY) #[7]
def pZ:=rD JL 2 3
def Z6:=aX xY pZ Zx
def uR:=gt (bo Z6 oW) #[7]
def vh:=rD uR 2 3
def ZL:=aX oW vh Z6
def pI:=gt (bo ZL oY) #[7]
def lK:=rD pI 2 4
def YC:=aX oY lK ZL
def mi:=gt (bo YC iu) #[7]
def dt:=rD mi 2 3
def Jb:=aX iu dt YC
def lZ:=lQ (bm Jb fv) #[7]
def bE:UV:=bF 1 lZ 2 2
def Zp:=uA fv bE Jb
def zj:=lQ (bm Zp nF) #[7]
def iX:UV:=bF 1 zj 2 1
def YL:=uA nF iX Zp
def mn:=lQ (bm YL fk) #[7]
def fm:UV:=bF 1 mn 1 1
def JM:=uA fk fm YL
def jY:=lQ (bm JM dz) #[7]
def bO:UV:=bF 1 jY 3 3
def ZY:=uA dz bO JM
def zu:=lQ (bm ZY nI) #[7]
def fR:UV:=bF 1 zu 3 3
def YV:=uA nI fR ZY
def F4:=lQ (bm YV wZ) #[7]
def Ff:UV:=bF 1 F4 3 3
def Zk:=uA wZ Ff YV
def qE:=lQ (bm Zk gQ) #[7]
def fO:UV:=bF 1 qE 3 2
def YJ:=uA gQ fO Zk
def mj:=lQ (bm YJ fF) #[7]
def iz:UV:=bF 1 mj 3 1
def ZH:=uA fF iz YJ
def mq:=lQ (bm ZH fD) #[7]
def io:UV:=bF 1 mq 2 1
def Yi:=uA fD io ZH
def m9:=lQ (bm Yi gh) #[7]
def dcf:UV:=bF 1 m9 2 1
def JR:=uA gh dcf Yi
def sI:=lQ (bm JR jS) #[7]
def sF:UV:=bF 1 sI 4 3
def ZE:=uA jS sF JR
def lW:=lQ (bm ZE fz) #[7]
def acg:UV:=bF 1 lW 1 1
def Y5:=uA fz acg ZE
def qC:=lQ (bm Y5 g8) #[7]
def qA:UV:=bF 1 qC 1 1
def YG:=uA g8 qA Y5
def ge:=lQ (bm YG b7) #[7]
def dh:UV:=bF 1 ge 1 1
def YE:=uA b7 dh YG
def ln:=lQ (bm YE d7) #[7]
def kh:UV:=bF 1 ln 5 2
def YT:=uA d7 kh YE
def me:=lQ (bm YT fG) #[7]
def ads:UV:=bF 1 me 1 1
def ZN:=uA fG ads YT
def hV:=lQ (bm ZN cG) #[7]
def dX:UV:=bF 1 hV 2 2
def ZM:=uA cG dX ZN
def ou:=lQ (bm ZM gg) #[7]
def ni:UV:=bF 1 ou 1 1
def YH:=uA gg ni ZM
def eR:=lQ (bm YH bK) #[7]
def cB:UV:=bF 1 eR 1 1
def Zh:=uA bK cB YH
def jk:=lQ (bm Zh cY) #[7]
def jc:UV:=bF 1 jk 2 2
def Z7:=uA cY jc Zh
def iQ:=lQ (bm Z7 cX) #[7]
def eX:UV:=bF 1 iQ 2 2
def JJ:=uA cX eX Z7
def li:=lQ (bm JJ d8) #[7]
def cI:UV:=bF 1 li 1 1
def ZX:=uA d8 cI JJ
def qK:=lQ (bm ZX gX) #[7]
def qD:UV:=bF 1 qK 3 1
def YQ:=uA gX qD ZX
def qz:=lQ (bm YQ ia) #[7]
def gY:UV:=bF 2 qz 2 2
def Y3:=uA ia gY YQ
def jl:=lQ (bm Y3 cV) #[7]
def iS:UV:=bF 1 jl 2 1
def YK:=uA cV iS Y3
def j6:=lQ (bm YK du) #[7]
def bN:UV:=bF 1 j6 6 1
def YA:=uA du bN YK
def Fa:=lQ (bm YA wy) #[7]
def wm:UV:=bF 0 Fa 1 1
def X2:=uA wy wm YA
def K1:=lQ (bm X2 pN) #[7]
def pj:UV:=bF 0 K1 2 1
def Ze:=uA pN pj X2
def Jj:=lQ (bm Ze pR) #[7]
def l6:UV:=bF 0 Jj 2 1
def Zc:=uA pR l6 Ze
def xr:=lQ (bm Zc pV) #[7]
def yo:UV:=bF 0 xr 4 2
def V1:=uA pV yo Zc
def Mo:=gt (bon V1 gm) #[7]
def yk:Rx->R D:=gA Mo gm.N gm.ps
def Y4:Ac:={V1 with s:=(gm.d+1,u9 gm.x yk)::(gm.d+1,vr gm.x yk)::V1.s}
def HI:=lQ (bm Y4 pB) #[7]
def HS:UV:=bF 1 HI 1 1
def Ji:=uA pB HS Y4
def Jv:=lQ (bm Ji pS) #[7]
def K5:UV:=bF 0 Jv 3 2
def Zq:=uA pS K5 Ji
def aeC:=lQ (Bh ((bL<|tp SZ.q.i).drop 0 |>.take 1) Zq SZ) #[7]
def aeE:=lQ (Bh ((bL<|tp SZ.q.i).drop 1 |>.take 1) Zq SZ) #[7]
def aeF:=lQ (Bh ((bL<|tp SZ.q.i).drop 2 |>.take 1) Zq SZ) #[7]
def aeG:=lQ (Bh ((bL<|tp SZ.q.i).drop 3 |>.take 1) Zq SZ) #[7]
def aeH:=lQ (Bh ((bL<|tp SZ.q.i).drop 4 |>.take 1) Zq SZ) #[7]
def wO:=lQ (Bh ((bL<|tp SZ.q.i).drop 5) Zq SZ) #[7]
def KW:gi:=bZ aeC<|bZ aeE<|bZ aeF<|bZ aeG<|bZ aeH<|wO
def dJ:UV:=bF 1 KW 3 1
def Zu:=uA SZ dJ Zq
def OY:=gt (bo Zu Bd) #[7]
def OF:=rD OY 1 2
def Yw:=aX Bd OF Zu
def LD:=lQ (bm Yw pT) #[7]
def K6:UV:=bF 0 LD 2 1
def YM:=uA pT K6 Yw
def YD:=lQ (Bh ((bL<|tp mD.q.i).drop 0 |>.take 1) YM mD) #[7]
def YR:=lQ (Bh ((bL<|tp mD.q.i).drop 1 |>.take 1) YM mD) #[7]
def Y1:=lQ (Bh ((bL<|tp mD.q.i).drop 2 |>.take 1) YM mD) #[7]
def Y2:=lQ (Bh ((bL<|tp mD.q.i).drop 3 |>.take 1) YM mD) #[7]
def Zb:=lQ (Bh ((bL<|tp mD.q.i).drop 4 |>.take 1) YM mD) #[7]
def ZJ:=lQ (Bh ((bL<|tp mD.q.i).drop 5 |>.take 1) YM mD) #[7]
def ZK:=lQ (Bh ((bL<|tp mD.q.i).drop 6 |>.take 1) YM mD) #[7]
def ZP:=lQ (Bh ((bL<|tp mD.q.i).drop 7 |>.take 1) YM mD) #[7]
def ZS:=lQ (Bh ((bL<|tp mD.q.i).drop 8 |>.take 1) YM mD) #[7]
def ZW:=lQ (Bh ((bL<|tp mD.q.i).drop 9 |>.take 1) YM mD) #[7]
def YF:=lQ (Bh ((bL<|tp mD.q.i).drop 10) YM mD) #[7]
def fH:gi:=bZ YD<|bZ YR<|bZ Y1<|bZ Y2<|bZ Zb<|bZ ZJ<|bZ ZK<|bZ ZP<|bZ ZS<|bZ ZW<|YF
def qI:UV:=bF 1 fH 6 3
def ZI:=uA mD qI YM
def Lu:=gt (bo ZI Ad) #[7]
def qa:=rD Lu 2 2
def Zt:=aX Ad qa ZI
def tS:=gt (bo Zt tI) #[7]
def zo:=rD tS 1 3
def G5:=aX tI zo Zt
def xv:=gt (bo G5 Ah) #[7]
def LW:=rD xv 2 5
def vF:=aX Ah LW G5
def kc:=gt (bo vF g9 [O3]) #[7]
def qJ:=rD kc 1 1
def F6:Ac:={vF with x:=(g9.d+1,bX g9.x qJ)::vF.x}
def K2:=gt (bo F6 wq) #[7]
def j9:=rD K2 2 3
def Ga:=aX wq j9 F6
def HJ:=lQ (bm Ga pC) #[7]
def adx:UV:=bF 1 HJ 2 2
def Gb:=uA pC adx Ga
def HQ:=lQ (bm Gb px) #[7]
def acW:UV:=bF 1 HQ 2 2
def Gc:=uA px acW Gb
def IW:=lQ (bm Gc pD) #[7]
def aee:UV:=bF 1 IW 1 1
def Gg:=uA pD aee Gc
def Sa:=lQ (bm Gg q7) #[7]
def R4:UV:=bF 1 Sa 3 2
def Gm:=uA q7 R4 Gg
def PB:=gt (bo Gm yZ) #[7]
def Lg:=rD PB 1 1
def Gr:=aX yZ Lg Gm
def LJ:=gt (bo Gr yC) #[7]
def AF:=rD LJ 2 4
def Gy:=aX yC AF Gr
def Ph:=gt (bo Gy Be) #[7]
def my:=rD Ph 4 4
def GD:=aX Be my Gy
def Pq:=lQ (bm GD qu) #[7]
def rk:UV:=bF 1 Pq 6 3
def W3:=uA qu rk GD
def yq:=lQ (bm W3 vK) #[7]
def Cj:UV:=bF 0 yq 8 1
def SK:List Mz:=
 .pl cU (.pl pq)::
 .pl kP (.pl qi)::
 .pl kH (.pl qF)::
 .pl pL (.pl uX)::
 .pl jQ (.pl jU)::
 .pl xP (.pl Me)::
 .pl yt (.pl Jt)::
 .ow pP K3::
 .ow fw mr::
 .ow gl nH::
 .ow jN se::
 .pl iA (.pl lX)::
 .pl xY (.pl JL)::
 .pl oW (.pl uR)::
 .pl oY (.pl pI)::
 .pl iu (.pl mi)::
 .ow fv lZ::
 .ow nF zj::
 .ow fk mn::
 .ow dz jY::
 .ow nI zu::
 .ow wZ F4::
 .ow gQ qE::
 .ow fF mj::
 .ow fD mq::
 .ow gh m9::
 .ow jS sI::
 .ow fz lW::
 .ow g8 qC::
 .ow b7 ge::
 .ow d7 ln::
 .ow fG me::
 .ow cG hV::
 .ow gg ou::
 .ow bK eR::
 .ow cY jk::
 .ow cX iQ::
 .ow d8 li::
 .ow gX qK::
 .ow ia qz::
 .ow cV jl::
 .ow du j6::
 .ow wy Fa::
 .ow pN K1::
 .ow pR Jj::
 .ow pV xr::
 .nd gm Mo::
 .ow pB HI::
 .ow pS Jv::
 .ow SZ KW::
 .pl Bd (.pl OY)::
 .ow pT LD::
 .ow mD fH::
 .pl Ad (.pl Lu)::
 .pl tI (.pl tS)::
 .pl Ah (.pl xv)::
 .p1 g9 kc::
 .pl wq (.pl K2)::
 .ow pC HJ::
 .ow px HQ::
 .ow pD IW::
 .ow q7 Sa::
 .pl yZ (.pl PB)::
 .pl yC (.pl LJ)::
 .pl Be (.pl Ph)::
 .ow qu Pq::
 .ow vK yq::[]
open PySem L2
noncomputable def B9:SH:=["isinstance","str","all","len","bool","int","range","tuple","ValueError"]
structure Hz(w:Sl)(K:aT)(mg:Sq)(x:Str)(tab:List (Str×D)):Prop where
 ex:∃a es n,mg x=J (.ref a)/\K.lookup a=J ⟨.type "dict",U,.dict es n,#[]⟩/\ue w.params es.toList/\∀y d,tab.lookup y=J d->∃v u,DO K a y=J (J u)/\aP v u/\∀H,bQ K H d v
def UY(K:aT)(n:Str)(fs:SH):Prop:=∃C,DO K mainGlobals n=J (J<|.ref C)/\UR K C/\∀f∈fs,a9 K C f
def Qq(K:aT)(mg:Sq)(n:Str):Prop:=∃C,mg n=J (.ref C)/\ek K C Gj "ValueError.__new__"=G/\LL K mg (JD [n]) C
structure Txt(w:Sl)(K:aT)(mg:Sq):Prop where
 co:∀q∈cT,UO K mg q
 z:∀x∈B9,mg x=U
 d1:Hz w K mg "BINDING" lx
 rd:UY K "Reader" ["text","word","tests","nested"]
 pi:UY K "Piles" ["trees","waiting"]
 bv:Qq K mg "BadValue"
 aaX:Qq K mg "BadQuestion"
 gs:∀q∈gT,∃C,mg q.1=J (.ref C)/\DO K mainGlobals q.1=J (J<|.ref C)/\q.2=.cls q.1
 nw:∃f fd,eB tp K mg cU f fd
 aob:i6 K mg u5
section
variable{P:Tc}{w:Sl}{K:aT}{mg:Sq}{base:Heap}(T:Txt w K mg)
include T
omit T in
theorem bG{α:Type}{p:α->Prop}{a:α}{l:List α}(h:p a)(r:∀x∈l,p x):∀x∈a::l,p x:=List.forall_mem_cons.mpr ⟨h,r⟩
omit T in
theorem dbg:∀q∈cT,(q.1==("__debug__":Str))=η:=⊤
omit T in
theorem ad0:∀q∈gT,(q.1==("__debug__":Str))=η:=⊤
theorem Yu{Y:Cx}{k:Nat}(y:FY Y P w K mg base k):Vu Y ⟨K,mg,E0⟩ tB/\∀f∈tE,dr Y ⟨K,mg,E0⟩ f:=by
 obtain⟨e1,Rt,Ua,vA,xt,hr,cm⟩:=y;subst e1 Rt Ua vA xt;have y:FY Y Y.prog Y.w Y.K Y.mg Y.base k:=⟨rfl,rfl,rfl,rfl,rfl,hr,cm⟩;have hy:∀q∈yT,yy Y ⟨Y.K,Y.mg,E0⟩ q.1 q.2:=(bG (vt (T.z _<|∎) Hw)<|bG (vt (T.z _<|∎) zP)<|bG (vt (T.z _<|∎) sU)<|bG (vt (T.z _<|∎) aiI) (fun _ h=>nomatch h))
 have hg:∀q∈gT,yy Y ⟨Y.K,Y.mg,E0⟩ q.1 q.2:=fun q h=>by
  obtain⟨C,z1,z2,z3⟩:=T.gs q h;rw[z3];exact fun O p hg=>IA z1 z2 hg<|ad0 q h
 obtain⟨a1,es1,n1,c1,l1,h1,v1⟩:=T.d1;obtain⟨CR,r1,r2,r3⟩:=T.rd;obtain⟨CP,p1,p2,p3⟩:=T.pi;have fl:∀f∈(["text","word","tests","nested"]:SH),dr Y ⟨Y.K,Y.mg,E0⟩<|uo "Reader" f:=fun f hf=>Co r1 r2 (r3 f hf) rfl;have fp:∀f∈(["trees","waiting"]:SH),dr Y ⟨Y.K,Y.mg,E0⟩<|uo "Piles" f:=fun f hf=>Co p1 p2 (p3 f hf) rfl;exact⟨⟨(bG (lr Xr U2)<|bG (lr aa3 anr)<|bG (lr ame byt)<|bG (lr aaM anj)<|bG (lr nrc anm)<|bG (lr anf anp)<|bG ((bz (UJ _ y.hr.units)<|IJ _).1)<|bG ((bz (TR _ y.hr.units)<|Z0 _).1)<|bG ((bz (ZV)<|Z5).1)<|bG ((bz (Zd)<|ZC).1)<|bG ((bz (YY)<|ZG).1)<|bG ((bz (Y0)<|YO).1)<|bG ((bz (Zi)<|YX).1)<|bG ((bz (Gu)<|Fj).1)<|bG ((bz (TC _)<|Zj _).1)<|bG ((bz (Ca _)<|Ht _).1)<|bG (Ir c1 l1 h1 v1)<|bG (N0.m)<|bG (Qn y.hr.units)<|bG (Qn y.hr.units)<|bG (akb (WL _)<|YZ _)<|bG (QZ ajl anq)<|bG (aiU)<|bG (Bq.m)<|bG (fl _<|∎)<|bG (fl _<|∎)<|bG (fl _<|∎)<|bG (fl _<|∎)<|bG (fp _<|∎)<|bG (fp _<|∎)<|bG (sW (aoj _) (abl _) (T.z _<|∎) EH)<|bG (sW (Wp _) (HP _) (T.z _<|∎) xn)<|bG (sW (EB _ y.cm.1) (WF _) (T.z _<|∎) aj5)<|bG (wH (HC _) (abD _) (T.z _<|∎) sU)<|bG (wH Z06 ank (T.z _<|∎) zP)<|bG (wH afz amj (T.z _<|∎) Hw)<|bG (QU adz ano)<|bG (aj9)<|bG (uc x5 MD ut ajg)<|bG (uc PySem.F.slot_str_endswith PySem.F.type_str_endswith afF ami)<|bG (uc x5 MD afQ ah7)<|bG (uc OV PySem.F.type_str_find aik akB)<|bG (aiT)<|bG (Oi) (fun _ h=>nomatch h)),
  (bG (N0) (fun _ h=>nomatch h)),(bG ((bz (UJ _ y.hr.units)<|IJ _).2)<|bG ((bz (TR _ y.hr.units)<|Z0 _).2)<|bG ((bz (ZV)<|Z5).2)<|bG ((bz (Zd)<|ZC).2)<|bG ((bz (YY)<|ZG).2)<|bG ((bz (Y0)<|YO).2)<|bG ((bz (Zi)<|YX).2)<|bG ((bz (Gu)<|Fj).2)<|bG ((bz (TC _)<|Zj _).2)<|bG ((bz (Ca _)<|Ht _).2) (fun _ h=>nomatch h)),
  (bG (aiS (T.z _ ∎)) (bG (ahC (T.z _ ∎)) (fun _ h=>nomatch h))),(bG (J4) (bG (aiP y.hr.units) (bG (akc) (fun _ h=>nomatch h)))),fun q h=>(BY.mp h).elim (hy q) (fun h=>(BY.mp h).elim (hg q) fun h=>let⟨v,u,h1,h2,h3,_⟩:=T.co q h;i3 h1 h2 h3 (dbg q h))⟩,(bG (wH amo atI (T.z _ ∎) zP) (fun _ h=>nomatch h))⟩
theorem hU:k6 P w K mg base Ts:=by
 obtain⟨CR,r1,r2,r3⟩:=T.rd;obtain⟨CP,p1,p2,p3⟩:=T.pi;obtain⟨CV,v1,v2,v3⟩:=T.bv;obtain⟨CQ,q1,q2,q3⟩:=T.aaX;obtain⟨f,fd,N⟩:=T.nw;refine⟨(bG (Pu)<|bG (alW<|T.z _<|∎)<|bG (EW p1 p2<|p3 _<|∎)<|bG (EW p1 p2<|p3 _<|∎) (fun _ h=>nomatch h)),(bG (El p1 p2<|p3 _<|∎)<|bG (El p1 p2<|p3 _<|∎)<|bG (akh) (fun _ h=>nomatch h)),
  (bG (aku)<|bG (Gd p1 p2<|p3 _<|∎)<|bG (Gd p1 p2<|p3 _<|∎)<|bG (Ev r1 r2<|r3 _<|∎)<|bG (Ev r1 r2<|r3 _<|∎)<|bG (IE v1 v2)<|bG (IE q1 q2) (fun _ h=>nomatch h)),
  (bG (vR r1 r2 (r3 _ ∎)) (bG (vR r1 r2 (r3 _ ∎)) (bG (vR r1 r2 (r3 _ ∎)) (bG (vR r1 r2 (r3 _ ∎)) (bG (Ex v1 v3 ⟨fun _ h=>absurd h Vm,fun q hq=>?_⟩) (bG (akO) (bG (Ex q1 q3 ⟨fun q h=>?_,fun _ h=>absurd h Vm⟩) (bG (akW q1 q3 T.aob) (fun _ h=>nomatch h)))))))))⟩
 .rw[IF.mp hq];have e:gx (pX<|uD<|ak (vC<|.str "bad")<|ak (vC .S9)<|ak (ag 0)<|ak (ag 0) aQ) cU.N cU.ps=oV:=by ext
  exact⟨_,_,f,fd,⟨N.F,N.b,N.m _<|∎⟩,e▸Jp (N:=cU.N) N.F (pG<|by ext) (by ext)⟩
 .rw[IF.mp h];exact⟨CR,r1,r2,r3 _<|∎⟩
end
theorem iB:xX P w K mg base aC:=⟨fun _ h=>(nomatch h),fun _ h=>(nomatch h),fun _ h=>(nomatch h),fun _ _ h=>(nomatch h),fun _ _ _ h=>(nomatch h)⟩
theorem chz:D9 tp tB tE Ts SK aC:=by
 unfold SK;repeat (first|((with_reducible refine afl ?_ ?_ ?_);ext;ext)|((with_reducible refine aaK ?_ ?_ ?_);ext;ext)|((with_reducible refine Z23 ?_ ?_ ?_ ?_);ext;ext;ext)|refine alL (by ext) (by ext) ?_|refine c40 (fun F=>by ext) (by ext) ?_|refine aix (fun F=>by ext) (by ext) ?_|refine afu (fun F SK=>by ext) (by ext) (fun F SK=>by ext) (by ext) rfl ?_)
 exact Uy
open L2.Go
structure Tok where
 k:Str
 v:D
 a:Nat
 b:Nat
noncomputable def Tok.d(w:Tok):D:=.tup [.str w.k,w.v,.int w.a,.int w.b]
def rd(z:Str)(w:Tok)(t n:Nat):D:=.obj "Reader" [("text",.str z),("word",w.d),("tests",.int t),("nested",.int n)]
noncomputable def sv(v:D)(x:Str):Bool:=match v with
 |.str y=>decide (y=x)
 |_=>η
def Dl(v:D):Prop:=v=.S9\/(∃i,v=.int i)\/∃x,v=.str x
theorem Dl.Sj(h:Dl v):Sj v=G:=by rcases h with rfl|⟨i,rfl⟩|⟨y,rfl⟩<;>rfl
theorem bsz(h:Dl v)(x:Str):jp v (.str x)=.ok (.bl<|sv v x):=by
 rcases h with rfl|⟨i,rfl⟩|⟨y,rfl⟩
 .exact (⊤)
 .exact (⊤)
 .exact jg
def Tok.is(w:Tok)(k x:Str):Bool:=decide (w.k=k)&&sv w.v x
theorem mC(z:Str)(w:Tok)(t n:Nat):Fb "Reader" "word" (rd z w t n)=.ok w.d:=rfl
theorem ig(h:φ Y=.ok d)(a:Fb c f d=r):iw c f φ Y=r:=by delta iw;rw[h];exact a
theorem Mx(h:Dl w.v)(a:w.is k x=b):bO [U,J<|.str k,J<|.str x] [rd z w t n]=.ok (.bl b) [rd z w t n]:=a▸( cL<|eG<|aN<|wY (jg)<|(bsz h x))
def Nx(z:Str)(w a:Tok):Prop:=dt [.str z,.int w.b]=.ok a.d
theorem step(a:Dl w'.v)(h:Nx z w w'):fm [U] [rd z w t n]=.ok .S9 [rd z w' t n]:=
 jC (ED (aN (h) (by show(Sj w'.v&&G)=G;rw[a.Sj];rfl)) rfl)
inductive Ch(z:Str):List Tok->Prop
 |last (w:Tok) (h:w.k="end"\/w.k="bad") (v:Dl w.v) (l:w.a<10^20):Ch z [w]
 |more (w w':Tok) (r:List Tok) (v:Dl w.v) (l:w.a<10^20) (n:Nx z w w') (c:Ch z<|w'::r):Ch z (w::w'::r)
structure Sx where
 ts:List Tok
 t:Nat
 n:Nat
noncomputable def Sx.hd(s:Sx):Tok:=match s.ts with
 |w::_=>w
 |[]=>⟨"end",.S9,0,0⟩
noncomputable def Sx.tl(s:Sx):Sx:={s with ts:=s.ts.tail}
def rs(z:Str)(s:Sx):D:=rd z s.hd s.t s.n
theorem Ch.v(c:Ch z s.ts):Dl (Sx.hd s).v:=by
 delta Sx.hd;cases h:s.ts with
 |nil=>rw[h]at c;cases c
 |cons w r=>rw[h]at c;cases c<;>assumption
theorem Ch.l(c:Ch z s.ts):(Sx.hd s).a<10^20:=by
 delta Sx.hd;cases h:s.ts with
 |nil=>simp
 |cons w r=>rw[h]at c;cases c<;>assumption
def qp(k:Str):Prop:=k≠"end"/\k≠"bad"
theorem Ch.tl{s:Sx}(c:Ch z s.ts)(h:qp s.hd.k):Ch z s.tl.ts/\Nx z s.hd s.tl.hd:=by
 obtain⟨ts,t,n⟩:=s;cases c with
 |last w a v l=>exact(a.elim (fun e=>h.1 e) fun e=>h.2 e).elim
 |more w d r v l b c=>exact⟨c,b⟩
theorem eU{w:Tok}(h:w.is k x=G):w.k=k:=by
 delta Tok.is at h
 lia
theorem lL(a:Dl w.v)(h:w.is k x=η):fR [U,J<|.str k,J<|.str x] [rd z w t n]=.ok (.bl η) [rd z w t n]:=
 cL (BS<|kR (Hd<|bw<|cx rfl rfl (kC<|Mx a h)) rfl)
theorem ju(b:Dl w.v)(h:w.is k x=G)(hw:Dl w'.v)(a:Nx z w w'):fR [U,J<|.str k,J<|.str x] [rd z w t n]=.ok (.bl G) [rd z w' t n]:=
 cL (gG (FJ<|bw<|cx rfl (bg (aN rfl)<|bg (aN rfl) rfl) (kC<|Mx b h))<|D3 (cx rfl rfl (kC<|step hw a)) rfl)
def kO(k x:Str)(s:Sx):Bool×Sx:=if s.hd.is k x=G then(G,s.tl)else(η,s)
theorem zH(c:Ch z s.ts)(b:qp k):fR [U,J<|.str k,J<|.str x] [rs z s]=.ok (.bl (kO k x s).1) [rs z (kO k x s).2]/\Ch z (kO k x s).2.ts:=by
 delta kO;by_cases h:s.hd.is k x=G
 .rw[h];obtain⟨a,d⟩:=c.tl<|eU h▸b;exact⟨ju c.v h a.v d,a⟩
 .rw[SM h];exact⟨lL c.v<|Wc.mpr h,c⟩
theorem OS{a:Nat}(h:a<10^20):(lE<|toString (a:Int)).length<=1000:=by
 have e:=str_int a;have l:(cu a).length<=21:=by
  have:=zN 19 a h
  delta cu;split<;>mright<;>lia
 have:(lE<|toString (a:Int)).cps.toList.length=(lE<|toString (a:Int)).length:=by rfl
 rw[<-this,e];lia
theorem aon(h:φ Y=.ok (.int i))(h1:i.natAbs<10^30)(h2:(lE<|toString i).length<=1000):VJ c φ Y=.ok (.str<|c++lE (toString i)):=by
 delta VJ;rw[h];exact SI ⟨h1,h2⟩
theorem sP(c:Ch z s.ts):iX [U] [rs z s]=.er "BadQuestion" [rs z s]:=
 ga ((O0<|bg (aN<|aon rfl (Rw (by simpa using c.l)<|∅) (OS c.l)) rfl))
abbrev RE(z:Str):=EM "BadQuestion" (fun s:Sx=>[rs z s]) fun s=>Ch z s.ts
noncomputable def lft{Z τ α:Type}(up:Z->τ):Q Z α->Q τ α
 |.ok a s=>.ok a<|up s
 |.er s=>.er<|up s
theorem KZ{e:Z->Rx}{I:Z->Prop}{s:Z}{α:qg}(up:Sx->Z)(c:α Y (e s)=.ok l (e s))(b:RE z (F (uB l) [((e s)[k]?).getD .S9]) q)(g:∀s',putAt [k] [rs z s'] (e s)=e (up s'))(f:∀s',Ch z s'.ts->I (up s'))(a:j4 l=[k]<|>Rv)(h:zw 0 l=[0]<|>Rv):EM "BadQuestion" e I (dm [0] F α Y<|e s)<|lft up q:=by
 have hd:decide ((j4 l).Nodup/\zw 0 l=[0])=G:=Th ⟨by rw[a];simp,h⟩;have e1:=b.eq;cases q with
 |ok d s'=>
  refine⟨aM c<|(kC (by rw[a];exact e1) hd).trans ?_,f s' b.ch⟩;rw[a,g];rfl
 |er s'=>
  refine⟨aM c<|(AW (by rw[a];exact e1) hd).trans ?_,f s' b.ch⟩;rw[a,g];rfl
theorem rc{α:qg}(c:α Y [rs z s]=.ok l [rs z s])(a:RE z (F (uB l) [rs z s]) q)(b:j4 l=[0]<|>Rv)(d:zw 0 l=[0]<|>Rv):RE z (dm [0] F α Y [rs z s]) q:=
 MG (KZ (fun s=>s) c a (fun _=>rfl) (fun _ h=>h) b d) ((by cases q<;>rfl))
theorem abi(c:Ch z s.ts)(a:qp k):RE z (fR [U,J<|.str k,J<|.str x] [rs z s])<|.ok (.bl (kO k x s).1) (kO k x s).2:=⟨(zH c a).1,(zH c a).2⟩
theorem Jz(c:Ch z s.ts):RE z (iX [U] [rs z s])<|.er s:=⟨sP c,c⟩
def dq(k x:Str)(s:Sx):Q Sx D:=if s.hd.is k x=G then .ok .S9 s.tl else .er s
theorem sq(c:Ch z s.ts)(b:qp k):RE z (Ff [U,J<|.str k,J<|.str x] [rs z s])<|dq k x s:=by
 obtain⟨p1,p2⟩:=zH c b;have a:mw 0 (aK (ji [0]<|ag 1)<|aK (ji [0]<|ag 2) bj) ([U,J<|.str k,J<|.str x]) [rs z s]=.ok [.ob 0,.pl<|.str k,.pl<|.str x] [rs z s]:=rfl;delta kO at p1 p2;delta dq;by_cases h:s.hd.is k x=G
 .rw[h]at p1 p2⊢;exact⟨jC<|F2 (FJ<|bw<|aM a<|kC p1) rfl,p2⟩
 .rw[SM h]at p1 p2⊢;exact⟨ga<|kR (Hd<|bw<|aM a<|kC p1)<|kJ<|aM rfl (AW<|sP c),c⟩
def b8(k:Str)(s:Sx):Q Sx D:=if s.hd.k=k then .ok s.hd.v s.tl else .er s
theorem og(c:Ch z s.ts)(e:qp k):RE z (fO [U,J<|.str k] [rs z s])<|b8 k s:=by
 have a:∀b,(!decide (s.hd.k=k))=b->dC (aH xF (aH cR (iw "Reader" "word"<|ag 0)<|vC<|.int 0)<|ag 1) (fill [0] [rs z s]<|aZ 3 [U,J<|.str k])=.ok b:=fun b h=>h▸ao (ae (ae (ig rfl (mC z s.hd s.t s.n)) rfl rfl) rfl vE);delta b8;by_cases h:s.hd.k=k
 .rw[SI h];obtain⟨d,f⟩:=c.tl<|h▸e;exact⟨cL (ψ:=bZ _ _)<|gG (aR<|a η<|by simp[h])<|iG (aN rfl c.v.Sj)<|D3 (cx rfl rfl (kC<|step d.v f))<|eG<|aN rfl c.v.Sj,d⟩
 .rw[SM h];exact⟨ga<|lh<|kR (aR<|a G<|by simp[h])<|kJ<|aM rfl (AW<|sP c),c⟩
theorem mF:qp "name":=by unfold qp;decide +kernel
theorem gv:qp "sign":=by unfold qp;decide +kernel
theorem fP:qp "key":=by unfold qp;decide +kernel
theorem oH:qp "number":=by unfold qp;decide +kernel
theorem lj(c:Ch z s.ts)(h:b8 k s=.ok d s'):Dl d:=by
 delta b8 at h;cbv
 .nofun;exact c.v
 .nofun
abbrev RZ(z:Str):=ES "BadQuestion" (fun s:Sx=>[rs z s]) (fun s=>Ch z s.ts) 1
theorem C1(h:RZ z (ψ (aZ n Y) [rs z s]) q)(a:Y.length=k<|>Rv):RE z (bF 1 ψ n k Y [rs z s]) q:=pW h ⟨a,rfl⟩
def ng(s:Sx):Q Sx D:=(b8 "name" s).bind fun a s=>(dq "sign" "." s).bind fun _ s=>(b8 "name" s).bind fun b s=>.ok (.tup [.str "column",a,b]) s
theorem zb{e:Z->Rx}{I:Z->Prop}{q q':Q Z D}(h:ES x e I nl a q)(b:q=q'):ES x e I nl a q':=b▸h
theorem Rh(c:Ch z s.ts):RE z (io [U] [rs z s])<|ng s:=
 pW (f7 (rc rfl (og c mF)) fun a g f c1=>zk (rc rfl (sq c1 gv)) fun _ d _ c2=>zb (eS (wD (mU rfl rfl (mU rfl (lj c f).Sj (ri<|rc rfl (og c2 mF)))) (by
  intro ds i h;cases hk:b8 "name" d with
  |ok b e=>rw[hk]at h;nofun;exact lA rfl
  |er e=>rw[hk]at h;nofun))) (by cases b8 "name" d<;>rfl)) ⟨rfl,rfl⟩
def uC(s:Sx):Q Sx D:=(b8 "name" s).bind fun t s=>if s.hd.k="name"then(b8 "name" s).bind fun a s=>.ok (.tup [t,a]) s else .ok (.tup [t,t]) s
theorem OM(k:Str)(h:φ Y=.ok (rs z s))(a:decide (s.hd.k=k)=b):dC (aH jp (aH cR (iw "Reader" "word" φ)<|vC<|.int 0)<|vC<|.str k) Y=.ok b:=a▸ao (ae (ae (ig h rfl) rfl rfl) rfl jg)
theorem o12(c:Ch z s.ts):RE z (iz [U] [rs z s])<|uC s:=
 pW (f7 (rc rfl (og c mF)) fun a g i c1=>by
  have d:=(lj c i).Sj;by_cases h:g.hd.k="name"
  .rw[h];exact f7 (NF (aR<|OM "name" rfl (Th h)) (fun _=>rc rfl (og c1 mF)) fun z=>nomatch z) fun b j e c2=>eS<|x8 c2 rfl (by show(Sj a&&(Sj b&&G))=G;rw[d,(lj c1 e).Sj];rfl)
  .rw[SM h];exact zb (f7 (f:=fun b s=>.ok (.tup [a,b]) s) (NF (aR<|OM "name" rfl (TU h)) (fun z=>nomatch z) fun _=>x8 c1 rfl d) fun b j e c2=>by
    cases e;exact eS (x8 c2 rfl (by show(Sj a&&(Sj a&&G))=G;rw[d];rfl))) rfl) ⟨rfl,rfl⟩
def yV(s:Sx):Q Sx D:=(ng s).bind fun a s=>.ok (.tup [a,.bl (kO "key" "down" s).1]) (kO "key" "down" s).2
theorem qY(c:Ch z s.ts)(h:ng s=.ok d s'):Sj d=G:=by
 delta ng at h;cases h1:b8 "name" s with
 |er _=>rw[h1]at h;nofun
 |ok a e=>
  rw[h1]at h;change (dq "sign" "." e).bind _=_ at h
  have c1  := by have:=(og c mF).ch;rw[h1]at this;exact this
  cases h2:dq "sign" "." e with
  |er _=>rw[h2]at h;nofun
  |ok u f=>
   rw[h2]at h;change (b8 "name" f).bind _=_ at h
   have c2  := by have:=(sq (x:=".") c1 gv).ch;rw[h2]at this;exact this
   cases h3:b8 "name" f with
   |er _=>rw[h3]at h;nofun
   |ok b g=>
    rw[h3]at h;nofun;show(G&&(Sj a&&(Sj b&&G)))=G;rw[(lj c h1).Sj,(lj c2 h3).Sj];rfl
def alm(v:D):Bool:=match v with
 |.int i=>decide (i<0)
 |_=>η
def zm(s:Sx):Q Sx D:=if s.hd.k="number"/\alm s.hd.v=G then .er s else b8 "number" s
def M4(w:Tok):Prop:=w.k="number"->∃i,w.v=.int i
theorem aaZ(c:Ch z s.ts)(f:M4 s.hd):RE z (qA [U] [rs z s])<|zm s:=by
 have a:RE z (dm [0] fO (mw 0<|aK (ji [0]<|vC<|.str "number") bj) (aZ 1 [U]) [rs z s])<|b8 "number" s:=rc (bA<|bg (aN rfl) rfl)<|og c oH;delta zm;by_cases h:s.hd.k="number"
 .obtain⟨i,b⟩:=f h;have h1:=OM (Y:=fill [0] [rs z s]<|aZ 1 [U]) (φ:=ag 0) (z:=z) (s:=s) "number" rfl (Th h);have h2:dC (aH zF (aH cR (iw "Reader" "word"<|ag 0)<|vC<|.int 1)<|vC<|.int 0) (fill [0] [rs z s]<|[U])=.ok ((i<0)):=ao (ae ((show cR s.hd.d (.int 1)=.ok (.int i)from by rw[<-b];rfl)) rfl rfl)
  have:=Ik (e:=fun s  => [rs z s]) (nl:=1) (aR<|kW h1 h2) (fun _=>Bi (q:=.er s)<|rc (α:=mw 0 bj) rfl (Jz c)) fun _=>eS a
  refine pW (zb this ?_) ⟨rfl,rfl⟩;rw[b];show _=if s.hd.k="number"/\decide (i<0)=G then _ else _;mright
 .have h1:=OM (Y:=fill [0] [rs z s]<|[U]) (φ:=ag 0) "number" rfl (TU h);rw[SM fun y=>h y.1];exact pW (Ik (q1:=.er s) (aR<|Bu h1) (fun z=>nomatch z) fun _=>eS a) ⟨rfl,rfl⟩
structure zp(w:Tok):Prop where
 num:w.k="number"->∃i,w.v=.int i
 sgn:w.k="sign"->∃x,w.v=.str x
def rf(s:Sx):Q Sx D:=if s.hd.k="name"then ng s else if s.hd.k="number"\/s.hd.k="text"then .ok (.tup [.str "value",s.hd.v]) s.tl else(dq "key" "none" s).bind fun _ s=>.ok (.tup [.str "value",.S9]) s
theorem p8(h:s.hd.k=k):b8 k s=.ok s.hd.v s.tl:=SI h
theorem WD(c:Ch z s.ts):RE z (cI [U] [rs z s])<|rf s:=by
 have k1:=fun b(h:decide (s.hd.k="name")=b)=>OM (Y:=fill [0] [rs z s]<|aZ 1 [U]) (φ:=ag 0) (z:=z) (s:=s) "name" rfl h;have k2:=fun b(h:decide (s.hd.k="number")=b)=>OM (Y:=fill [0] [rs z s]<|aZ 1 [U]) (φ:=ag 0) (z:=z) (s:=s) "number" rfl h;have k3:=fun b(h:decide (s.hd.k="text")=b)=>OM (Y:=fill [0] [rs z s]<|aZ 1 [U]) (φ:=ag 0) (z:=z) (s:=s) "text" rfl h;have e:∀k,s.hd.k=k->qp k->RE z (vN (aK (ji [0]<|vC<|.str "value")<|aK (dm [0] fO<|mw 0<|aK (ji [0]<|aH cR (iw "Reader" "word"<|ag 0)<|vC<|.int 0) bj) bj) (aZ 1 [U]) [rs z s]) (.ok (.tup [.str "value",s.hd.v]) s.tl):=fun k d f=>by
  have:=og (z:=z) c f
  rw[p8 d]at this;exact MG (wD (mU rfl rfl (ri<|rc (l:=[.ob 0,.pl<|.str s.hd.k]) (bA<|bg (aN<|ae (ig rfl (mC z s.hd s.t s.n)) rfl rfl) rfl)<|by rw[d];exact this)) fun ds s h=>by nofun;exact lA rfl) rfl
 delta rf;refine C1 (ψ:=bZ _ _) ?_;by_cases h1:s.hd.k="name"
 .rw[SI h1];exact zD (aR<|k1 G<|Th h1)<|eS<|rc (bA rfl)<|Rh c
 rw[SM h1];refine Ek (aR<|k1 η<|TU h1) ?_;by_cases h2:s.hd.k="number"
 .rw[SI<|.inl h2];exact zD (aR<|P7<|k2 G<|Th h2)<|eS<|e _ h2 oH
 by_cases a:s.hd.k="text"
 .rw[SI<|.inr a];exact zD (aR<|lR (k2 η<|TU h2)<|k3 G<|Th a)<|eS<|e _ a (by unfold qp;decide +kernel)
 rw[SM fun y=>y.elim h2 a];refine Ek (aR<|lR (k2 η<|TU h2)<|k3 η<|TU a) ?_;exact zk (rc rfl (sq c fP)) fun _ g _ c2=>eS<|x8 c2 rfl
noncomputable def XT(v:D):Bool:=match v with
 |.str x=>decide (x∈(["=","<>","<","<=",">",">="]:SH))
 |_=>η
theorem nG(x:Str):∀ys:SH,Eh (.str x) (ys.map V.str)=decide (x∈ys):=TB (rfl) fun y ys i_=>by
  have a:=i_;unfold Eh at a⊢
  have:Mj (.str y) (.str x)=decide (y=x):=rfl
  grind
theorem An(c:Ch z s.ts)(h:rf s=.ok d s'):Sj d=G:=by
 delta rf at h;cbv
 .exact qY c h
 .cbv
  .nofun;show(G&&(Sj s.hd.v&&G))=G;rw[c.v.Sj];rfl
  .cases h1:dq "key" "none" s with
   |er _=>rw[h1]at h;nofun
   |ok _ _=>rw[h1]at h;nofun;rfl
def Uo(s:Sx):Prop:=∀w∈s.ts,zp w
def qV(s:Sx):Q Sx D:=if s.t=20 then .er s else(rf {s with t:=s.t+1}).bind fun one s=>if s.hd.k="sign"/\XT s.hd.v=G then(rf s.tl).bind fun Lh s'=>.ok (.tup [.str "test",s.hd.v,one,Lh]) s' else .er s
theorem Uo.hd(h:Uo s):zp s.hd:=by
 delta Sx.hd;cases e:s.ts with
 |nil=>exact⟨fun z=>absurd z<|⊤,fun z=>absurd z<|⊤⟩
 |cons w r=>exact h w (by rw[e];simp)
def nV{α:Type}(f:Sx->Q Sx α):Prop:=∀s a s',f s=.ok a s'->∀w∈s'.ts,w∈s.ts
theorem dG(s:Sx):∀w∈s.tl.ts,w∈s.ts:=fun w h=>List.mem_of_mem_tail h
theorem lJ:nV<|b8 k:=fun s a s' h=>by
 delta b8 at h;cbv
 .nofun;exact dG s
 .nofun
theorem iV:nV<|dq k x:=fun s a s' h=>by
 delta dq at h;cbv
 .nofun;exact dG s
 .nofun
theorem cz{f:Sx->Q Sx α}{g:α->Sx->Q Sx β}(d:nV f)(e:∀a,nV<|g a):nV fun s=>(f s).bind g:=fun s b s' h=>by
 cases h1:f s with
 |er _=>change (f s).bind g=_ at h;rw[h1]at h;nofun
 |ok a c=>
  change (f s).bind g=_ at h
  rw[h1]at h;exact fun w hw=>d s a c h1 w<|e a c b s' h w hw
theorem rC{f:Sx->α}:nV fun s=>.ok (f s) s:=fun s a s' h=>by mright
theorem su:nV ng:=cz lJ fun _=>cz iV fun _=>cz lJ fun _=>rC
theorem wM:nV rf:=fun s a s' h=>by
 delta rf at h;cbv
 .exact su s a s' h
 .cbv
  .nofun;exact dG s
  .exact cz iV (fun _=>rC (f:=fun _=>D.tup [.str "value",.S9])) s a s' h
theorem Uo.of{f:Sx->Q Sx α}(b:nV f)(h:Uo s)(e:f s=.ok a s'):Uo s':=fun w hw=>h w<|b s a s' e w hw
theorem alq(c:Ch z s.ts)(w:Uo s):RE z (qD [U] [rs z s])<|qV s:=by
 have r:∀b,decide ((s.t:Int)=20)=b->dC (aH jp (iw "Reader" "tests"<|ag 0)<|vC<|.int 20) (fill [0] [rs z s]<|aZ 3 [U])=.ok b:=fun b h=>h▸ao (ae (ig rfl ((rfl))) rfl zf);delta qV;refine C1 (ψ:=bZ _ _) ?_;by_cases h:s.t=20
 .rw[SI h];exact zD (aR<|r G<|by simp[h])<|Bi (q:=.er s)<|rc (bA rfl)<|Jz c
 rw[SM h];refine Ek (aR<|r η<|by simp;lia) ?_;have B:uE 0 "Reader" "tests" 1 (aZ 3 [U]) [rs z s]=.nx (aZ 3 [U]) [rs z {s with t:=s.t+1}]:=rfl;let g:Sx:={s with t:=s.t+1}
 have p:Ch z g.ts:=c;suffices H:RZ z (bZ (qM 1 1<|dm [0] cI<|mw 0 bj) (bZ (pf 1 (uv [0]<|KF (dC<|aH xF (aH cR (iw "Reader" "word"<|ag 0)<|vC<|.int 0)<|vC<|.str "sign")<|dC<|aH mI (aH cR (iw "Reader" "word"<|ag 0)<|vC<|.int 1)<|vC<|.tup [.str "=",.str "<>",.str "<",.str "<=",.str ">",.str ">="]) (sr 1<|dm [0] iX<|mw 0 bj) qG)<|bZ (qM 1 2<|dm [0] fO<|mw 0<|aK (ji [0]<|vC<|.str "sign") bj)<|xz 1<|vN<|aK (ji [0]<|vC<|.str "test")<|aK (ji [0]<|ag 2)<|aK (ji [0]<|ag 1)<|aK (dm [0] cI<|mw 0 bj) bj) (aZ 3 [U]) [rs z g]) _ from⟨eL B H.eq,H.ch⟩
 refine f7 (rc (bA rfl)<|WD p) fun one s1 h1 c1=>?_;have A:Uo s1:=Uo.of wM (s:=g) w h1;have j:∀b,(!decide (s1.hd.k="sign"))=b->dC (aH xF (aH cR (iw "Reader" "word"<|ag 0)<|vC<|.int 0)<|vC<|.str "sign") (fill [0] [rs z s1]<|(aZ 3 [U]).set 1<|J one)=.ok b:=fun b h=>h▸ao (ae (ae (ig rfl (mC z s1.hd s1.t s1.n)) rfl rfl) rfl vE);have a:RZ z (sr 1 (dm [0] iX<|mw 0 bj) ((aZ 3 [U]).set 1<|J one) [rs z s1])<|.er s1:=Bi (q:=.er s1)<|rc (bA rfl)<|Jz c1;by_cases hs:s1.hd.k="sign"
 .obtain⟨x,o⟩:=A.hd.sgn hs;have m:∀b,(!XT s1.hd.v)=b->dC (aH mI (aH cR (iw "Reader" "word"<|ag 0)<|vC<|.int 1)<|vC<|.tup [.str "=",.str "<>",.str "<",.str "<=",.str ">",.str ">="]) (fill [0] [rs z s1]<|(aZ 3 [U]).set 1<|J one)=.ok b:=fun b h=>by
   rw[<-h,o];exact ao (ae (ae (ig rfl (mC z s1.hd s1.t s1.n)) rfl (show cR s1.hd.d (.int 1)=.ok (.str x)from by rw[<-o];rfl)) rfl ((by
     have:mI (.str x) (.tup [.str "=",.str "<>",.str "<",.str "<=",.str ">",.str ">="])=.ok (.bl<|!Eh (.str x) ((["=","<>","<","<=",">",">="]:SH).map V.str)):=rfl
     rw[this,nG];rfl)))
  by_cases e:XT s1.hd.v=G
  .rw[SI ⟨hs,e⟩];refine Ek (aR<|lR (j η<|by simp[hs])<|m η<|by simp[e]) ?_;have l:=og (z:=z) c1 gv;rw[p8 hs]at l
   have:=f7 (i:=2) (nl:=1) (f:=fun d s=>(rf s).bind fun Lh s'=>.ok (.tup [.str "test",d,one,Lh]) s') (χ:=xz 1<|vN<|aK (ji [0]<|vC<|.str "test")<|aK (ji [0]<|ag 2)<|aK (ji [0]<|ag 1)<|aK (dm [0] cI<|mw 0 bj) bj) (rc (Y:=(aZ 3 [U]).set 1<|J one) (α:=mw 0<|aK (ji [0]<|vC<|.str "sign") bj) (bA<|bg (aN rfl) rfl) l) fun C D h2 c2=>by
    cases h2;refine zb (eS<|wD (mU rfl rfl (mU rfl c1.v.Sj (mU rfl (An p h1) (ri<|rc (bA rfl)<|WD c2)))) fun ds s h=>?_) ?_
    .cases ho:rf s1.tl with
     |ok b u=>rw[ho]at h;nofun;exact lA rfl
     |er u=>rw[ho]at h;nofun
    .cases rf s1.tl<;>rfl
   exact this
  .rw[SM fun y=>e y.2];exact zD (aR<|lR (j η<|by simp[hs])<|m G<|by simp[e]) a
 .rw[SM fun y=>hs y.1];exact zD (aR<|P7<|j G<|by simp[hs]) a
noncomputable def pd(T:Rx)(W:SH):D:=.obj "Piles" [("trees",.WK T.reverse),("waiting",.WK (W.map .str).reverse)]
noncomputable def gM(w:Str):Int:=if w="("then 0 else if w="or"then 1 else if w="and"then 2 else 3
abbrev W4:SH:=["(","or","and","not"]
theorem HK(h:w∈W4):Xd lx (.str w)=.ok (.int<|gM w):=by
 mright;rcases h with rfl|rfl|rfl|rfl<;>with_unfolding_all rfl
theorem FL(T:Rx)(w:Str)(W:SH)(Y:Sd):mh 0 "Piles" "waiting" Y [pd T<|w::W]=.ok (.str w) [pd T W]:=by
 have e:yE [pd T<|w::W] 0 "Piles" "waiting"=J ((W.map D.str).reverse++[.str w]):=by show J _=_;simp
 delta mh;rw[e];dsimp only;rw[LX,K9,NT,nN<|mK _,LU];rw[Qw];rfl
theorem Gp(t:D)(T:Rx)(W:SH)(Y:Sd):mh 0 "Piles" "trees" Y [pd (t::T) W]=.ok t [pd T W]:=by
 have e:yE [pd (t::T) W] 0 "Piles" "trees"=(T.reverse++[t]):=by show J _=_;rw[Al]
 delta mh;rw[e];dsimp only;rw[LX,K9,NT,nN<|mK _,LU];rw[Qw];rfl
theorem NY(h:φ Y=.ok (.str w))(a:W.length<=900):nr 0 "Piles" "waiting" φ Y [pd T W]=.ok .S9 [pd T<|w::W]:=by
 have e:yE [pd T W] 0 "Piles" "waiting"=(W.map D.str).reverse:=rfl;delta nr;rw[e,h];dsimp only;rw[SI<|by simp;lia];delta pd;rw[Xp,Al];rfl
theorem G4(h:φ Y=.ok t)(a:T.length<=900):nr 0 "Piles" "trees" φ Y [pd T W]=.ok .S9 [pd (t::T) W]:=by
 have e:yE [pd T W] 0 "Piles" "trees"=T.reverse:=rfl;delta nr;rw[e,h];dsimp only;rw[SI<|by simp;lia];delta pd;rw[Al];rfl
noncomputable def jn:SH->Nat
 |[]=>0
 |w::W=>(if w="and"\/w="or"then 1 else 0)+jn W
def aF(b:Int):SH->Rx->List Str×Rx
 |[],T=>([],T)
 | w::W,T=>if b<=gM w then (if w="not" then (match T with
   |t::T=>aF b W<|.tup [.str "not",t]::T
   |[]=>(w::W,T))else(match T with
   |t2::t1::T=>aF b W<|.tup [.str w,t1,t2]::T
   |_=>(w::W,T)))else(w::W,T)
abbrev sT:lM:=uv [0]<|mQ (dC<|aH xF (iw "Piles" "waiting"<|ag 0)<|uw aQ)<|dC<|aH C9 (zz (Xd lx)<|aH cR (iw "Piles" "waiting"<|ag 0)<|zz QN<|vC<|.int 1)<|ag 1
abbrev sB:gi:=bZ (qM 1 2<|mh 0 "Piles" "waiting")<|bZ (qM 1 3<|mh 0 "Piles" "trees")<|pf 1 (uv [0]<|dC<|aH jp (ag 2)<|vC<|.str "not") (sr 1<|nr 0 "Piles" "trees"<|uD<|ak (vC<|.str "not")<|ak (ag 3) aQ)<|bZ (qM 1 4<|mh 0 "Piles" "trees")<|sr 1<|nr 0 "Piles" "trees"<|uD<|ak (ag 2)<|ak (ag 4)<|ak (ag 3) aQ
def Py(k:Nat)(d:D):Prop:=∃p,kZ d=J p/\p.canLay0=G/\p.depth<=k
theorem Py.list{k:Nat}:∀{ds:Rx},(∀d∈ds,Py k d)->∃ps,ma ds=J ps/\OI ps=G/\PyData.depthAll ps<=k/\ps.length=ds.length:=@TB _ _ (@fun _=>⟨[],rfl,rfl,Uh _,rfl⟩) fun d r i_=>@fun h=>by
  left;obtain⟨p,h1,h2,c⟩:=h d ∅;obtain⟨ps,e1,a,b,e⟩:=i_ fun x f=>h x<|ie _ f;right;refine⟨p::ps,?_,?_,?_,by simp[e]⟩
  .rw[ma,h1,e1];rfl
  .rw[OI,h2,a];rfl
  .exact Nat.max_le.mpr ⟨c,b⟩
theorem cne(h1:p.canLay0=G)(h2:p.depth<=k)(a:k<=64):jw p=G:=by
 delta jw
 lia
theorem KY{k:Nat}{ds:Rx}(h:∀d∈ds,Py k d)(g:k<=60):xF (.lst ds) (.lst [])=.ok (.bl<|decide (0<ds.length)):=by
 refine gR (Py.list h) fun ps e1 a i e=>?_;have c:kZ (.lst ds)=J (.list ps):=by rw[kZ,e1];rfl
 have e0:kZ (.lst [])=J (.list []):=rfl;have f:jt (.lst ds) (.lst [])=(BK (.list ps)<|.list []):=by
  delta jt;rw[c,e0];simp only;rw[SI ⟨cne (k:=k+1) a (by rw[ae6];mright)<|⊥,by rfl⟩]
 have b:zy (.lst ds) (.lst [])=jt (.lst ds) (.lst []):=rfl;delta xF;rw[b,f];cases ps with
 |nil=>
  have:ds.length=0:=by mright
  rw[this];rfl
 |cons p r=>
  have:0<ds.length:=by rw[<-e];simp
  rw[Th this];rfl
theorem aaN(h:w∈W4):Py 0<|.str w:=⟨.str w,rfl,by
 mright;rcases h with rfl|rfl|rfl|rfl<;>trivial,mK _⟩
def CL(W:SH):Prop:=∀w∈W,w∈W4
theorem wne(h:CL W):xF (.lst (W.map D.str).reverse) (.lst [])=.ok (.bl<|decide (0<W.length)):=by
 have:=KY (fun d hd=>by
  rw[List.mem_reverse,d9]at hd;obtain⟨w,hw,rfl⟩:=hd;exact aaN (h w hw)) ∅
 mright
theorem aby(a:CL<|w::W)(b:Int)(c f d:Option D):sT [U,J<|.int b,c,f,d] [pd T<|w::W]=.ok (decide (b<=gM w)) [pd T<|w::W]:=
 aR (kW (ao<|((wne a)).trans rfl) (ao (ae (BM (((by
   have:Uq ((w::W).map D.str).reverse (-1)=J (.str w):=by
    delta Uq;have e:C5 ((nq D.str W).reverse++[D.str w]).length (-1)=W.length:=by
     delta C5;simp;lia
    mright
   exact tst this))) (HK (a w Up))) rfl rfl)))
theorem o11(b:Int)(t:D)(T:Rx)(W:SH)(c d a:Option D)(e:T.length<=900):sB [U,J<|.int b,c,d,a] [pd (t::T)<|"not"::W]=.nx [U,J<|.int b,J<|.str "not",J t,a] [pd (.tup [.str "not",t]::T) W]:=
 iG (FL (t::T) "not" W _) (iG (Gp t T W _)<|(il<|G4 rfl e))
theorem abm(b:Int)(c a:D)(T:Rx)(w:Str)(W:SH)(d f e:Option D)(h:w≠"not")(g:T.length<=900):sB [U,J<|.int b,d,f,e] [pd (c::a::T)<|w::W]=.nx [U,J<|.int b,J<|.str w,J c,J a] [pd (.tup [.str w,a,c]::T) W]:=
 iG (FL (c::a::T) w W _) (iG (Gp c (a::T) W _)<|F2 (aR<|ao<|(jg).trans<|by simp[h])<|iG (Gp a T W _)<|il<|G4 rfl g)
theorem r8(b:Int)(y:1<=b):∀(W:SH)(T:Rx)(f:Nat)(i j g:Option D),CL W->jn W<T.length->T.length<=900->W.length<f->∃q u v,bV 1 sT sB f [U,J<|.int b,i,j,g] [pd T W]=.nx [U,J<|.int b,q,u,v] [pd (aF b W T).2 (aF b W T).1]
 |_,_,0,_,_,_,_,_,_,h=>absurd h<|BV _
 |[],T,f+1,i,j,g,_,_,_,_=>⟨i,j,g,qw<|( rfl)⟩
 |w::W,T,f+1,i,j,g,hW,hj,hl,hf=>by
  have k:=aby (T:=T) hW b i j g;have l:CL W:=fun x z=>hW x<|ie _ z;have n:W.length<f:=by simpa using hf
  unfold aF;by_cases h:b<=gM w
  .rw[Th h]at k;rw[SI h];by_cases m:w="not"
   .rw[SI m];subst m;cases T with
    |nil=>mright
    |cons t T=>
     have o:jn W<(D.tup [.str "not",t]::T).length:=by
      unfold jn at hj;rw[SM<|⊤]at hj;mright
     refine HU (r8 b y W (.tup [.str "not",t]::T) f (J<|.str "not") (J t) g l o hl n) fun a c d e=>?_;exact⟨a,c,d,jM k (o11 b t T W i j g<|by mright;lia) e⟩
   .rw[SM m];have p:w="and"\/w="or":=by
     have:=hW w Up
     simp only[eQ,Vm,or_false]at this;rcases this with rfl|rfl|rfl|rfl
     .have:gM "("=0:=⊤
      lia
     .exact .inr rfl
     .exact .inl rfl
     .exact absurd rfl m
    unfold jn at hj;rw[SI p]at hj;cases T with
    |nil=>mright
    |cons r T=>
     cases T with
     |nil=>mright
     |cons s T=>
      refine HU (r8 b y W (.tup [.str w,s,r]::T) f (J<|.str w) (r) (s) l (by grind) (by grind) n) fun a c d e=>?_;exact⟨a,c,d,jM k (abm b r s T w W i j g m<|by mright;lia) e⟩
  .rw[TU h]at k;rw[SM h];exact⟨i,j,g,qw k⟩
structure uH(T:Rx)(W:SH):Prop where
 w:CL W
 j:T.length=jn W+1
 l:T.length<=900
 m:W.length<=900
theorem xj(p:uH T W)(f:1<=b):kh [U,J<|.int b] [pd T W]=.ok .S9 [pd (aF b W T).2 (aF b W T).1]:=by
 obtain⟨a,c,d,e⟩:=r8 b f W T 1000 U U U p.w (by have:=p.j;mright) p.l (by have:=p.m;lia);exact jC e
theorem ade(a:W.length<=900):eX [U,J<|.str w] [pd T W]=.ok .S9 [pd T<|w::W]:=jC<|il<|NY rfl a
theorem Xbz(a:T.length<=900):jc [U,J t] [pd T W]=.ok .S9 [pd (t::T) W]:=jC<|il<|G4 rfl a
theorem abQ(p:uH T W)(hw:w∈W4)(b:1<=gM w)(a:(aF (gM w) W T).1.length<=900):dX [U,J<|.str w] [pd T W]=.ok .S9 [pd (aF (gM w) W T).2<|w::(aF (gM w) W T).1]:=
 jC (D3 (cx rfl (bg (aN<|(HK hw)) rfl) (kC<|xj p b))<|il<|NY rfl a)
theorem UH(b:CL W):dh [U] [pd T W]=.ok (.bl<|decide (("(":Str)∈W)) [pd T W]:=by
 have e:rE (.str "(") (.lst (W.map D.str).reverse)=.ok (.bl<|("("∈W)):=by
  have h1:∀l:SH,kA (l.map D.str)=(l.map V.str):=fun l=>by
   induction l with
   |nil=>rfl
   |cons x r a=>rw[Xp,kA,a];rfl
  have h2:Ue (.str "(") (.lst (W.map D.str).reverse)=(Eh (.str "(")<|W.reverse.map V.str):=by
   show vo _ _=_;delta vo;rw[<-List.map_reverse,h1];rfl
  delta rE;rw[h2,nG];simp[lU]
 exact cL<|eG<|aN<|e
theorem pz(b:Int)(k:1<=b):∀(W:SH)(T:Rx),CL W->T.length=jn W+1->T.length<=900->(aF b W T).2.length=jn (aF b W T).1+1/\(aF b W T).2.length<=T.length/\(∃X,W=X++(aF b W T).1/\("(":Str)∉X):=TB (fun T _ h hl=>⟨h,mK _,[],rfl,fun z=>nomatch z⟩) fun w W i_ T hW hj hl=>by
  have f:CL W:=fun x n=>hW x<|ie _ n;unfold aF;by_cases h:b<=gM w
  .rw[SI h];have j:w≠"(":=fun z=>by
    subst z
    have:gM "("=0:=⊤
    lia
   by_cases i:w="not"
   .rw[SI i];subst i;cases T with
    |nil=>mright
    |cons t T=>
     unfold jn at hj;rw[SM<|⊤]at hj;left;obtain⟨a,c,X,e,d⟩:=i_ (.tup [.str "not",t]::T) f (by simp at hj⊢;lia) ⊤;right;exact⟨a,by omega,"not"::X,by rw[yG,<-e],fun z=>by rcases eQ.mp z with z|z;exact j z.symm;exact d z⟩
   .rw[SM i];have g:w="and"\/w="or":=by
     have:=hW w Up
     grind
    unfold jn at hj;rw[SI g]at hj;cases T with
    |nil=>contradiction
    |cons l T=>
     cases T with
     |nil=>mright
     |cons m T=>
      obtain⟨a,c,X,e,d⟩:=i_ (.tup [.str w,m,l]::T) f (by grind) (by grind)
      grind
  .rw[SM h];mright
theorem rP(b:Int)(f:1<=b):∀(W:SH)(T:Rx),CL W->T.length=jn W+1->T.length<=900->∀w r,(aF b W T).1=w::r->gM w<b:=TB (fun T _ _ _ w r e=>nomatch e) fun v W i_ T hW hj hl w r e=>by
  have a:CL W:=fun x j=>hW x<|ie _ j;unfold aF at e;by_cases h:b<=gM v
  .rw[SI h]at e;by_cases d:v="not"
   .rw[SI d]at e;subst d;cases T with
    |nil=>mright
    |cons t T=>
     unfold jn at hj;rw[SM<|⊤]at hj;exact i_ (.tup [.str "not",t]::T) a (by simp at hj⊢;lia) ⊤ w r e
   .rw[SM d]at e;have c:v="and"\/v="or":=by
     have:=hW v Up
     simp only[eQ,Vm,or_false]at this;rcases this with rfl|rfl|rfl|rfl
     .have:gM "("=0:=⊤
      lia
     .exact .inr rfl
     .exact .inl rfl
     .trivial
    unfold jn at hj;rw[SI c]at hj;cases T with
    |nil=>contradiction
    |cons g T=>
     cases T with
     |nil=>simp at hj
     |cons i T=>exact i_ (.tup [.str v,i,g]::T) a (by grind) (by grind) w r e
  mright
def eO(T:Rx)(W:SH):List Str×Rx:=((aF 1 W T).1.tail,(aF 1 W T).2)
theorem QP(p:uH T W)(k:("(":Str)∈W):cB [U] [pd T W]=.ok .S9 [pd (eO T W).2 (eO T W).1]/\uH (eO T W).2 (eO T W).1:=by
 obtain⟨a,c,X,e,d⟩:=pz 1 (WV 1) W T p.w p.j p.l;have g:("(":Str)∈(aF 1 W T).1:=by rw[e]at k;rcases BY.mp k with z|z;exact absurd z d;exact z
 delta eO;cases hs:(aF 1 W T).1 with
 |nil=>rw[hs]at g;cases g
 |cons w r=>
  have i:=xj p<|WV 1;rw[hs]at i a e;have hw:∀x∈w::r,x∈W4:=fun x f=>p.w x (by rw[e];exact OR _ f);have b:w="(":=by
   have:=rP 1 (WV 1) W T p.w p.j p.l w r hs
   have h:=hw w Up;simp only[eQ,Vm,or_false]at h;rcases h with rfl|rfl|rfl|rfl
   .rfl
   .have:gM "or"=1:=⊤
    trivial
   .have:gM "and"=2:=⊤
    trivial
   .have:gM "not"=3:=⊤
    trivial
  subst b;refine⟨jC<|D3 (cx rfl rfl (kC i))<|il<|FL _ "(" r _,⟨fun x f=>hw x<|ie _ f,?_,by have:=p.l;lia,?_⟩⟩
  .unfold jn at a;rw[SM<|⊤]at a;simpa using a
  .have:=p.m
   simp_all;omega
def iq(s:Sx):Bool:=s.hd.is "key" "not"||s.hd.is "sign" "("
def mv(s:Sx):Str:=if s.hd.is "key" "not"=G then "not"else "("
def xD:Nat->Sx->SH->Q Sx (SH)
 |0,s,_=>.er s
 |f+1,s,W=>if iq s=G then(if s.n=20 then .er s else xD f {s.tl with n:=s.n+1} (mv s::W))else .ok W s
def cls:Nat->Sx->Rx->SH->Sx×List D×SH
 |0,s,T,W=>(s,T,W)
 |f+1,s,T,W=>if("(":Str)∈W/\s.hd.is "sign" ")"=G then cls f s.tl (eO T W).2 (eO T W).1 else(s,T,W)
abbrev Cu(z:Str)(s:Sx)(T:Rx)(W:SH):Rx:=[rs z s,pd T W]
abbrev oT:lM:=J6 (qL<|dM 0 "Reader" "stands" [0] bO<|aK (ji [0,1]<|vC<|.str "key")<|aK (ji [0,1]<|vC<|.str "not") bj)<|qL<|dM 0 "Reader" "stands" [0] bO<|aK (ji [0,1]<|vC<|.str "sign")<|aK (ji [0,1]<|vC<|.str "(") bj
abbrev oB:gi:=bZ (pf 2 (uv [0,1]<|dC<|aH jp (iw "Reader" "nested"<|ag 0)<|vC<|.int 20) (sr 2<|dm [0] iX<|mw 0 bj) qG)<|bZ (uE 0 "Reader" "nested" 1)<|bZ (sr 2<|dM 1 "Piles" "add_word" [0] eX<|aK (ji [0,1]<|aH cR (iw "Reader" "word"<|ag 0)<|vC<|.int 1) bj)<|sr 2<|dM 0 "Reader" "step" [0] fm bj
theorem M3(c:Ch z s.ts):oT [U,U] (Cu z s T W)=.ok (iq s) (Cu z s T W):=by
 delta iq;cases h:s.hd.is "key" "not"with
 |true=>exact NZ<|bw<|cx rfl (bg (aN rfl)<|bg (aN rfl) rfl) (ka (Mx c.v h) rfl)
 |false=>exact NS (bw<|cx rfl (bg (aN rfl)<|bg (aN rfl) rfl) (ka (Mx c.v h) rfl))<|bw<|cx rfl rfl (ka (Mx c.v rfl) rfl)
theorem nA{w:Tok}(h:w.is k x=G):w.v=.str x:=by
 delta Tok.is at h;rw[oR]at h;have h:=h.2;unfold sv at h;cbv
 .mright
 .nofun
theorem Nh(h:iq s=G):s.hd.v=.str (mv s)/\qp s.hd.k/\mv s∈W4/\jn (mv s::W)=jn W:=by
 delta iq at h;delta mv;cases h1:s.hd.is "key" "not"with
 |true=>
  refine⟨nA h1,eU h1▸fP,⊤,?_⟩;show(if _ then _ else _)+_=_;rw[SM<|⊤,Pm]
 |false=>
  rw[h1]at h;refine⟨nA h,eU h▸gv,⊤,?_⟩;show(if _ then _ else _)+_=_;rw[SM<|⊤,Pm]
theorem S4:∀(f:Nat)(s:Sx)(W:SH)(g:Nat),Ch z s.ts->s.n<=20->21-s.n<=f->W.length+(20-s.n)<=900->f<=g->match xD f s W with
  |.ok a s'=>(∀T,bV 2 oT oB g [U,U] (Cu z s T W)=.nx [U,U] (Cu z s' T a))/\Ch z s'.ts/\s'.t=s.t/\s'.n<=20/\s.n<=s'.n/\a.length+s.n=W.length+s'.n/\jn a=jn W/\(CL W->CL a)/\(∀w∈s'.ts,w∈s.ts)
  |.er s'=>(∀T,∃p,bV 2 oT oB g [U,U] (Cu z s T W)=.er "BadQuestion" [rs z s',p])/\Ch z s'.ts:=X5 (fun s W g c hn hf hl hg=>⊥) fun f i_ s W g c hn hf hl hg=>by
  obtain⟨g,rfl⟩:∃x,g=x+1:=⟨g-1,⊥⟩
  unfold xD;by_cases h:iq s=G
  .rw[SI h];have j:∀T,oT [U,U] (Cu z s T W)=.ok G (Cu z s T W):=fun T=>h▸M3 c;have l:∀T b,decide ((s.n:Int)=20)=b->dC (aH jp (iw "Reader" "nested"<|ag 0)<|vC<|.int 20) (fill [0,1] (Cu z s T W) [U,U])=.ok b:=fun T b h=>h▸ao (ae (ig rfl ((rfl))) rfl zf);by_cases h2:s.n=20
   .rw[SI h2];exact⟨fun T=>⟨pd T W,Em (j T)<|lh<|kR (aR<|l T G<|by simp[h2])<|kJ<|aM (bA rfl)<|vS (sP c) rfl⟩,c⟩
   .rw[SM h2];refine Xl (Nh (W:=W) h) fun I u hw K=>?_;obtain⟨m,nx⟩:=c.tl u;have i:=i_ {s.tl with n:=s.n+1} (mv s::W) g m (by show s.n+1<=20;lia) (by show 21-(s.n+1)<=f;lia) (by show(mv s::W).length+(20-(s.n+1))<=900;simp;lia) ⊥;have q:∀T,oB [U,U] (Cu z s T W)=.nx [U,U] (Cu z {s.tl with n:=s.n+1} T (mv s::W)):=fun T=>
     gG (aR<|l T η<|by simp;lia) (eL (show uE 0 "Reader" "nested" 1 [U,U] (Cu z s T W)=.nx [U,U] (Cu z {s with n:=s.n+1} T W)from rfl)<|D3 (cx rfl (bg (aN<|ae (ig rfl (mC z s.hd s.t<|s.n+1)) rfl (show cR s.hd.d (.int 1)=.ok (.str<|mv s)from by rw[<-I];rfl)) rfl) (ka (ade<|⊥) rfl))<|il<|cx rfl rfl (ka (step (n:=s.n+1) m.v nx) rfl))
    generalize M:xD f {s.tl with n:=s.n+1} (mv s::W)=r at i;left;cases r with
    |ok a s'=>
     obtain⟨E,H,C,D,F,o,y,B,A⟩:=i;right;refine⟨fun T=>jM (j T) (q T)<|E T,H,C,D,by change s.n+1<=_ at F;lia,?_,by rw[y,K],fun h=>B fun x k=>?_,fun w hw=>dG s w<|A w hw⟩
     .change a.length+(s.n+1)=(mv s::W).length+s'.n at o
      simp at o;lia
     .rcases eQ.mp k with rfl|k
      .exact hw
      .exact h x k
    |er s'=>right;exact⟨fun T=>let⟨p,e⟩:=i.1 T;⟨p,jM (j T) (q T) e⟩,i.2⟩
  .rw[SM h];exact⟨fun T=>qw<|Wc.mpr h▸M3 c,c,rfl,hn,mK _,rfl,rfl,fun h=>h,fun _ h=>h⟩
abbrev cT':lM:=xg (qL<|dM 1 "Piles" "has_bracket" [0] dh bj)<|qL<|dm [0] fR<|mw 0<|aK (ji [0,1]<|vC<|.str "sign")<|aK (ji [0,1]<|vC<|.str ")") bj
abbrev cB':gi:=sr 2<|dM 1 "Piles" "close_bracket" [0] cB bj
theorem QO(p:uH T W)(b:("(":Str)∈W):(eO T W).1.length<W.length/\(eO T W).2.length<=T.length:=by
 obtain⟨a,c,X,e,d⟩:=pz 1 (WV 1) W T p.w p.j p.l;delta eO
 grind
theorem UP:∀(f:Nat)(s:Sx)(T:Rx)(W:SH)(g:Nat),Ch z s.ts->uH T W->W.length<f->f<=g ->
  bV 2 cT' cB' g [U,U] (Cu z s T W)=.nx [U,U] (Cu z (cls f s T W).1 (cls f s T W).2.1 (cls f s T W).2.2)/\Ch z (cls f s T W).1.ts/\uH (cls f s T W).2.1 (cls f s T W).2.2/\(cls f s T W).1.t=s.t/\(cls f s T W).1.n=s.n/\(cls f s T W).2.2.length<=W.length/\(cls f s T W).2.1.length<=T.length/\(∀w∈(cls f s T W).1.ts,w∈s.ts)
 |0,_,_,_,_,_,_,h,_=>absurd h<|BV _
 |f+1,_,_,_,0,_,_,_,h=>absurd h<|Nat.not_succ_le_zero _
 |f+1,s,T,W,g+1,c,p,hf,hg=>by
  have a:=UH (T:=T) p.w;unfold cls;by_cases h:("(":Str)∈W
  .rw[Th h]at a;by_cases h2:s.hd.is "sign" ")"=G
   .rw[SI ⟨h,h2⟩];left;obtain⟨b,nx⟩:=c.tl<|eU h2▸gv;obtain⟨k1,k2⟩:=QP p h;obtain⟨q,o⟩:=QO p h;refine xT (UP f s.tl (eO T W).2 (eO T W).1 g b k2 ⊥ ⊥) fun j l e i k r m d=>?_;right;refine⟨jM (vU (bw<|cx rfl rfl (ka a rfl))<|bw<|aM (bA<|bg (aN rfl)<|bg (aN rfl) rfl)<|ka (ju (t:=s.t) (n:=s.n) c.v h2 b.v nx) rfl) (il<|cx rfl rfl (ka k1 rfl)) j,l,e,i,k,⊥,⊥,fun w hw=>dG s w<|d w hw⟩
   .rw[SM fun y=>h2 y.2];exact⟨qw<|vU (bw<|cx rfl rfl (ka a rfl))<|bw<|aM rfl (ka (lL c.v<|Wc.mpr h2) rfl),c,p,rfl,rfl,mK _,mK _,fun _ h=>h⟩
  .rw[TU h]at a;rw[SM fun y=>h y.1];exact⟨qw<|Gh<|bw<|cx rfl rfl (ka a rfl),c,p,rfl,rfl,mK _,mK _,fun _ h=>h⟩
def Keeps{α:Type}(f:Sx->Q Sx α):Prop:=∀s a s',f s=.ok a s'->s'.t=s.t/\s'.n=s.n
theorem jq:Keeps<|b8 k:=fun s a s' h=>by
 delta b8 at h;cbv
 .nofun;exact⟨rfl,rfl⟩
 .nofun
theorem mW:Keeps<|dq k x:=fun s a s' h=>by
 delta dq at h;cbv
 .nofun;exact⟨rfl,rfl⟩
 .nofun
theorem cj{f:Sx->Q Sx α}{g:α->Sx->Q Sx β}(d:Keeps f)(e:∀a,Keeps<|g a):Keeps fun s=>(f s).bind g:=fun s b s' h=>by
 cases h1:f s with
 |er _=>change (f s).bind g=_ at h;rw[h1]at h;nofun
 |ok a c=>
  change (f s).bind g=_ at h
  rw[h1]at h;have i:=d s a c h1;have j:=e a c b s' h;mright
theorem n8{f:Sx->α}:Keeps fun s=>.ok (f s) s:=fun s a s' h=>by mright
theorem zt:Keeps rf:=fun s a s' h=>by
 delta rf at h;cbv
 .exact(cj jq fun _=>cj mW fun _=>cj jq fun _=>n8) s a s' h
 .cbv
  .nofun;exact⟨rfl,rfl⟩
  .exact cj mW (fun _=>n8 (f:=fun _=>D.tup [.str "value",.S9])) s a s' h
theorem OE(c:Ch z s.ts)(h:qV s=.ok d s'):s.t≠20/\s'.t=s.t+1/\s'.n=s.n/\Sj d=G/\(∀w∈s'.ts,w∈s.ts):=by
 delta qV at h;cbv
 .nofun
 .rename_i ht;cases h1:rf {s with t:=s.t+1}with
  |er _=>rw[h1]at h;nofun
  |ok one a=>
   rw[h1]at h;change (if _ then _ else _)=_ at h
   have e1:=wM _ _ _ h1;have k1:=zt _ _ _ h1;have c1  := by have:=(WD (s:={s with t:=s.t+1}) c).ch;rw[h1]at this;exact this
   cbv
   .rename_i hs;cases h2:rf a.tl with
    |er _=>rw[h2]at h;nofun
    |ok Lh e=>
     rw[h2]at h;nofun;have b:=wM _ _ _ h2;have k2:=zt _ _ _ h2;obtain⟨c2,_⟩:=c1.tl<|hs.1▸gv;refine⟨ht,k2.1.trans k1.1,k2.2.trans k1.2,?_,fun w hw=>e1 w<|dG a w<|b w hw⟩;show(G&&(Sj a.hd.v&&(Sj one&&(Sj Lh&&G))))=G;rw[c1.v.Sj,An (s:={s with t:=s.t+1}) c h1,An c2 h2];rfl
   .nofun
structure Af(s:Sx)(T:Rx)(W:SH):Prop where
 w:CL W
 j:T.length=jn W+1
 l:W.length+1<=s.n+s.t
 n:s.n<=20
 t:s.t<=20
 k:jn W+1<=s.t
 d:∀t∈T,Sj t=G
structure Op(s:Sx)(T:Rx)(W:SH):Prop where
 w:CL W
 j:T.length=jn W
 l:W.length<=s.n+s.t
 n:s.n<=20
 t:s.t<=20
 k:jn W<=s.t
 d:∀t∈T,Sj t=G
theorem Af.p(a:Af s T W):uH T W:=⟨a.w,a.j,by have:=a.j;have:=a.k;have:=a.t;lia,by have:=a.l;have:=a.n;have:=a.t;lia⟩
def oC(s:Sx)(T:Rx)(W:SH):Q Sx<|List D×SH:=(xD 30 s W).bind fun W s=>(qV s).bind fun t s=>.ok (cls 100 s (t::T) W).2 (cls 100 s (t::T) W).1
theorem oh(b:Int):∀(W:SH)(T:Rx),(∀t∈T,Sj t=G)->∀t∈(aF b W T).2,Sj t=G:=TB (fun T h=>h) fun w W i_ T h=>by
  unfold aF;split
  .split
   .cases T with
    |nil=>exact h
    |cons t T=>
     refine i_ _ fun x a=>?_;rcases eQ.mp a with rfl|a
     .show(G&&(Sj t&&G))=G;rw[h t Up];rfl
     mright
   .match T,h with
    |[],h=>exact h
    |[_],h=>exact h
    |t2::t1::T,h=>
     refine i_ _ fun x a=>?_;rcases eQ.mp a with rfl|a
     .show(G&&(Sj t1&&(Sj t2&&G)))=G
      mright
     .mright
  .exact h
theorem Cp:∀(f:Nat)(s:Sx)(T:Rx)(W:SH),(∀t∈T,Sj t=G)->∀t∈(cls f s T W).2.1,Sj t=G:=X5 (fun _ _ _ h=>h) fun f i_ s T W h=>by
  unfold cls;split
  .exact i_ s.tl _ _ (oh 1 W T h)
  .exact h
theorem Mq(c:Ch z s.ts)(q:Uo s)(o:Op s T W):match oC s T W with
  |.ok p s'=>gY [U,U] [rs z s,pd T W]=.ok .S9 [rs z s',pd p.1 p.2]/\Ch z s'.ts/\Af s' p.1 p.2/\(∀w∈s'.ts,w∈s.ts)/\s'.t=s.t+1
  |.er s'=>(∃p,gY [U,U] [rs z s,pd T W]=.er "BadQuestion" [rs z s',p])/\Ch z s'.ts:=by
 have h1:=S4 (z:=z) 30 s W 1000 c o.n ⊥ (by have:=o.l;have:=o.n;have:=o.t;lia) ⊥;delta oC;generalize xD 30 s W=r1 at h1;cases r1 with
 |er s1=>
  obtain⟨⟨p,e⟩,c1⟩:=And.intro (h1.1 T) h1.2;exact⟨⟨p,ga (ψ:=bZ _ _)<|lh e⟩,c1⟩
 |ok W1 s1=>
  obtain⟨e1,c1,A,E,u,B,j1,i,b1⟩:=h1;have f:Uo s1:=fun w hw=>q w<|b1 w hw;have a:=alq (z:=z) c1 f;dsimp only[Q.bind];cases h2:qV s1 with
  |er b=>
   rw[h2]at a;refine⟨⟨pd T W1,ga (ψ:=bZ _ _)<|eL (e1 T)<|HW<|Z63 rfl (Bg<|aM (bA rfl)<|vS a.eq rfl)⟩,a.ch⟩
  |ok t b=>
   rw[h2]at a;left;obtain⟨q1,q2,F,m,v⟩:=OE c1 h2;have C:T.length<=20:=by have:=o.j;have:=o.k;have:=o.t;lia
   have y:W1.length<=40:=by have:=o.l;have:=o.t;lia
   have p1:uH (t::T) W1:=⟨i o.w,by simp[o.j,j1],by simp;lia,⊥⟩;refine xT (UP (z:=z) 100 b (t::T) W1 1000 a.ch p1 ⊥ ⊥) fun k1 k2 k3 k4 k5 I K H=>?_;right;have h:=Cp 100 b (t::T) W1 fun x g=>by
    rcases eQ.mp g with rfl|g
    .exact m
    .exact o.d x g
   dsimp only;generalize D:cls 100 b (t::T) W1=r at k1 k2 k3 k4 k5 I K H h⊢;refine⟨jC (ψ:=bZ _ _)<|eL (e1 T)<|D3 (cx rfl (bg (aM (bA rfl)<|ka a.eq rfl) rfl) (ka (Xbz<|⊥) rfl)) k1,k2,⟨k3.w,k3.j,?_,?_,?_,?_,h⟩,fun w hw=>b1 w<|v w<|H w hw,by mright⟩
   .have:=o.l;lia
   .mright
   .have:=o.t;lia
   .have:=k3.j;have:=o.j;have:=o.k
    mright;lia
def jB(s:Sx):Bool:=s.hd.is "key" "and"||s.hd.is "key" "or"
def jW(s:Sx):Str:=if s.hd.is "key" "and"=G then "and"else "or"
def jf:Nat->Sx->Rx->SH->Q Sx (List D×SH)
 |0,s,_,_=>.er s
 |f+1,s,T,W=>if jB s=G then(oC s.tl (aF (gM<|jW s) W T).2<|jW s::(aF (gM<|jW s) W T).1).bind fun p s=>jf f s p.1 p.2 else .ok (T,W) s
def RF(T:Rx)(W:SH):D:=(aF 1 W T).2.headD .S9
def qk(s:Sx):Q Sx D:=(oC s [] []).bind fun p s=>(jf 30 s p.1 p.2).bind fun p s=>if("(":Str)∈p.2 then .er s else .ok (RF p.1 p.2) s
theorem Ye(h:jB s=G):s.hd.v=.str (jW s)/\qp s.hd.k/\jW s∈W4/\1<=gM (jW s)/\(jW s="and"\/jW s="or"):=by
 delta jB at h;delta jW;cases h1:s.hd.is "key" "and"with
 |true=>
  exact⟨nA h1,eU h1▸fP,⊤,⊤,.inl rfl⟩
 |false=>
  rw[h1]at h;exact⟨nA h,eU h▸fP,⊤,⊤,.inr rfl⟩
abbrev DY(z:Str)(s:Sx)(T:Rx)(W:SH):Rx:=[pd T W,rs z s]
abbrev kT:lM:=J6 (qL<|dM 1 "Reader" "stands" [0] bO<|aK (ji [1,0]<|vC<|.str "key")<|aK (ji [1,0]<|vC<|.str "and") bj)<|qL<|dM 1 "Reader" "stands" [0] bO<|aK (ji [1,0]<|vC<|.str "key")<|aK (ji [1,0]<|vC<|.str "or") bj
abbrev G3:FM:=dm [0,1] gY<|mw 1<|mw 0 bj
abbrev kB:gi:=bZ (sr 1<|dM 0 "Piles" "add_joint" [0] dX<|aK (ji [1,0]<|aH cR (iw "Reader" "word"<|ag 0)<|vC<|.int 1) bj)<|bZ (sr 1<|dM 1 "Reader" "step" [0] fm bj)<|sr 1 G3
theorem NL(c:Ch z s.ts):kT [U,U] (DY z s T W)=.ok (jB s) (DY z s T W):=by
 delta jB;cases h:s.hd.is "key" "and"with
 |true=>exact NZ<|bw<|cx rfl (bg (aN rfl)<|bg (aN rfl) rfl) (ka (Mx (t:=s.t) (n:=s.n) c.v h) rfl)
 |false=>exact NS (bw<|cx rfl (bg (aN rfl)<|bg (aN rfl) rfl) (ka (Mx (t:=s.t) (n:=s.n) c.v h) rfl))<|bw<|cx rfl rfl (ka (Mx c.v rfl) rfl)
theorem GH:∀(f:Nat)(s:Sx)(T:Rx)(W:SH)(g:Nat),Ch z s.ts->Uo s->Af s T W->21-s.t<=f->f<=g->match jf f s T W with
  |.ok p s'=>bV 1 kT kB g [U,U] (DY z s T W)=.nx [U,U] (DY z s' p.1 p.2)/\Ch z s'.ts/\Af s' p.1 p.2/\(∀w∈s'.ts,w∈s.ts)
  |.er s'=>bV 1 kT kB g [U,U] (DY z s T W)=.er "BadQuestion" [rs z s']/\Ch z s'.ts:=X5 (fun s T W g c hK a hf hg=>by have:=a.t;omega) fun f i_ s T W g c hK a hf hg=>by
  obtain⟨g,rfl⟩:∃x,g=x+1:=⟨g-1,⊥⟩
  unfold jf;by_cases h:jB s=G
  .rw[SI h];have B:kT [U,U] (DY z s T W)=.ok G (DY z s T W):=h▸NL c;left;refine uf (Ye h) fun O I hw F A=>?_;obtain⟨D,nx⟩:=c.tl I;have p:=a.p;obtain⟨M,E,X,e,P⟩:=pz (gM<|jW s) F W T p.w p.j p.l;right;have R:(aF (gM<|jW s) W T).1.length<=W.length:=by have:=UN vP e;rw[LX]at this;lia
   have H:jn (jW s::(aF (gM<|jW s) W T).1)=jn (aF (gM<|jW s) W T).1+1:=by show(if _ then _ else _)+_=_;rw[SI A,Nat.add_comm]
   have o:Op s.tl (aF (gM<|jW s) W T).2<|jW s::(aF (gM<|jW s) W T).1:=⟨fun x C=>by
     rcases eQ.mp C with rfl|C
     .exact hw
     .exact a.w x (by rw[e];exact OR _ C),by rw[H];exact M,by have:=a.l;simp;show _<=s.n+s.t;lia,a.n,a.t,by rw[H];have:=a.k;have:=a.j;show _<=s.t;lia,oh _ W T a.d⟩
   have hs:=Mq D (fun w hw=>hK w<|dG s w hw) o;have i:∀r,G3 [U,U] (DY z s.tl (aF (gM<|jW s) W T).2<|jW s::(aF (gM<|jW s) W T).1)=r->kB [U,U] (DY z s T W)=sr 1 (fun _ _=>r) [U,U] []:=fun r K=>by
    refine D3 (cx rfl (bg (aN<|ae (ig rfl (mC z s.hd s.t s.n)) rfl (show cR s.hd.d (.int 1)=.ok (.str<|jW s)from by rw[<-O];rfl)) rfl) (ka (abQ p hw F (by have:=p.m;lia)) rfl))<|D3 (cx rfl rfl (ka (step (t:=s.t) (n:=s.n) D.v nx) rfl)) ?_;show(G3 [U,U]<|DY z s.tl (aF (gM<|jW s) W T).2<|jW s::(aF (gM<|jW s) W T).1).bs 1 _=_;rw[K];rfl
   dsimp only[Q.bind];generalize oC s.tl (aF (gM<|jW s) W T).2 (jW s::(aF (gM<|jW s) W T).1)=r at hs;cases r with
   |er s'=>
    obtain⟨⟨q,e1⟩,c2⟩:=hs;exact⟨Em B<|(i _<|aM (bA<|bA rfl)<|vS e1 rfl).trans rfl,c2⟩
   |ok q s'=>
    refine uf hs fun e1 c2 N b2 y=>?_;have y:s'.t=s.t+1:=y;have b:=i_ s' q.1 q.2 g c2 (fun w hw=>hK w<|dG s w<|b2 w hw) N (by (simp;omega)) ⊥;dsimp only;generalize jf f s' q.1 q.2=r2 at b;have u:kB [U,U] (DY z s T W)=.nx [U,U] (DY z s' q.1 q.2):=(i _<|aM (bA<|bA rfl)<|ka e1 rfl).trans rfl;cases r2 with
    |ok q2 E=>exact⟨jM B u b.1,b.2.1,b.2.2.1,fun w hw=>dG s w<|b2 w<|b.2.2.2 w hw⟩
    |er E=>exact⟨jM B u b.1,b.2⟩
  .rw[SM h];exact⟨qw<|Wc.mpr h▸NL c,c,a,fun _ h=>h⟩
theorem HZ(a:Af s T W)(h:("(":Str)∉W):aF 1 W T=([],[RF T W])/\Sj (RF T W)=G:=by
 have p:=a.p;obtain⟨c,g,X,e,f⟩:=pz 1 (WV 1) W T p.w p.j p.l;have tp:=rP 1 (WV 1) W T p.w p.j p.l;have nl:=oh 1 W T a.d;delta RF;generalize i:aF 1 W T=r at *;obtain⟨V,S⟩:=r;cases V with
 |cons w r=>
  have:=tp w r rfl
  have hw:w∈W:=by mright
  have b:=a.w w hw;simp only[eQ,Vm,or_false]at b;rcases b with rfl|rfl|rfl|rfl
  .exact absurd hw h
  .have:gM "or"=1:=⊤
   trivial
  .have:gM "and"=2:=⊤
   trivial
  .have:gM "not"=3:=⊤
   trivial
 |nil=>
  have  := c
  match S,this with
  |[t],_=>mright
theorem XF(c:Ch z s.ts)(i:Uo s)(y:s.t=0)(h1:s.n=0):RE z (iS [U] [rs z s]) (qk s)/\∀d s',qk s=.ok d s'->Sj d=G/\∀w∈s'.ts,w∈s.ts:=by
 have o:Op s [] []:=⟨fun _ h=>(nomatch h),rfl,Uh _,by simp_all,by simp_all,Uh _,fun _ h=>(nomatch h)⟩
 have e:vf 1 1 "Piles" ni bj (aZ 2 [U]) [rs z s]=.nx [U,U] (DY z s [] []):=rfl;have hs:=Mq c i o;delta qk;generalize oC s [] []=r at hs;cases r with
 |er s'=>
  obtain⟨⟨q,e1⟩,c2⟩:=hs;exact⟨⟨ga (ψ:=bZ _ _)<|eL e<|HW<|aM (bA<|bA rfl)<|vS e1 rfl,c2⟩,fun _ _ h=>(nomatch h)⟩
 |ok p s1=>
  refine uf hs fun e1 c1 u b1 x=>?_;have m:Uo s1:=fun w hw=>i w<|b1 w hw;have a:=GH (z:=z) 30 s1 p.1 p.2 1000 c1 m u (by mright) ∅;dsimp only[Q.bind];generalize jf 30 s1 p.1 p.2=r2 at a;cases r2 with
  |er v=>exact⟨⟨ga (ψ:=bZ _ _)<|eL e<|D3 (aM (bA<|bA rfl)<|ka e1 rfl)<|lh a.1,a.2⟩,fun _ _ h=>(nomatch h)⟩
  |ok q v=>
   refine Xl a fun j c2 f b2=>?_;have b:=UH (T:=q.1) f.w;dsimp only;by_cases h:("(":Str)∈q.2
   .rw[SI h];rw[Th h]at b;exact⟨⟨ga (ψ:=bZ _ _)<|eL e<|D3 (aM (bA<|bA rfl)<|ka e1 rfl)<|eL j<|lh<|kR (bw<|cx rfl rfl (ka b rfl))<|kJ<|aM (bA rfl)<|vS (sP c2) rfl,c2⟩,fun _ _ h=>(nomatch h)⟩
   .rw[SM h];rw[TU h]at b;obtain⟨l,k⟩:=HZ f h;refine⟨⟨cL (ψ:=bZ _ _) ((D3 (aM (bA<|bA rfl)<|ka e1 rfl) (eL j (gG (bw<|cx rfl rfl (ka b rfl)) (eG (cx rfl rfl (ka ((by
      have g:=xj f.p (WV 1);rw[l]at g;exact cL (D3 (cx rfl rfl (kC g)) (eG (aN rfl k))))) rfl))))))),c2⟩,fun d s' h=>?_⟩
    mright
abbrev vT:List<|Str×UV:=Ac.v JR
theorem dyq:vT.lookup ("read_source":Str)=J iz:=by rfl
theorem aax:vT.lookup ("read_column":Str)=J io:=by rfl
def ky(f:Sx->Q Sx D):Nat->Rx->Sx->Q Sx (Rx)
 |0,ds,s=>.ok ds s
 |n+1,ds,s=>if s.hd.is "sign" ","=G then(f s.tl).bind fun d s=>ky f n (ds++[d]) s else .ok ds s
def pF(f:Sx->Q Sx D)(m:Nat)(s:Sx):Q Sx D:=(f s).bind fun d s=>(ky f (m-1) [d] s).bind fun ds s=>.ok (.tup ds) s
structure One(z:Str)(g:Str)(f:Sx->Q Sx D):Prop where
 e:∃F,vT.lookup g=J F/\∀s,Ch z s.ts->RE z (F [U] [rs z s]) (f s)
 l:∀s d s',Ch z s.ts->f s=.ok d s'->Sj d=G
abbrev zC(z:Str)(s:Sx)(ds:Rx):Rx:=[.lst ds,rs z s]
abbrev dl(g:Str)(m:Nat):Sd:=[U,J<|.cls g,J<|.int m,U]
abbrev wT:lM:=xg (uv [3,0]<|dC<|aH zF (aI cr<|ak (ag 3) aQ)<|ag 2)<|qL<|dm [0] fR<|mw 1<|aK (ji [3,0]<|vC<|.str "sign")<|aK (ji [3,0]<|vC<|.str ",") bj
abbrev wB:gi:=sr 1 fun Y L=>if(xm L 0).isSome=G then L3 0 (aK (fY 1 vT [0]<|mw 1 bj) bj) Y L else .no
theorem Nt(O:One z g f)(m:Nat)(A:m<=100):∀(n:Nat)(ds:Rx)(s:Sx)(k:Nat),Ch z s.ts->ds.length+n=m->n<k->(∀d∈ds,Sj d=G)->match ky f n ds s with
  |.ok a s'=>bV 1 wT wB k (dl g m) (zC z s ds)=.nx (dl g m) (zC z s' a)/\Ch z s'.ts/\(∀d∈a,Sj d=G)/\a.length<=m
  |.er s'=>bV 1 wT wB k (dl g m) (zC z s ds)=.er "BadQuestion" [rs z s']/\Ch z s'.ts
 |n,ds,s,0,c,hl,hk,hd=>⊥
 |0,ds,s,k+1,c,hl,hk,hd=>by
  have p:dC (aH zF (aI cr<|ak (ag 3) aQ)<|ag 2) (fill [3,0] (zC z s ds)<|dl g m)=.ok η:=ao<|ae (lf rfl rfl) rfl (by show R.ok (D.bl<|decide ((ds.length:Int)<(m:Int)))=_;rw[TU<|⊥]);exact⟨qw<|Gh<|aR p,c,hd,⊥⟩
 |n+1,ds,s,k+1,c,hl,hk,hd=>by
  have p:dC (aH zF (aI cr<|ak (ag 3) aQ)<|ag 2) (fill [3,0] (zC z s ds)<|dl g m)=.ok G:=ao<|ae (lf rfl rfl) rfl (by show R.ok (D.bl<|decide ((ds.length:Int)<(m:Int)))=_;rw[Th<|⊥]);unfold ky;by_cases h:s.hd.is "sign" ","=G
  .rw[SI h];obtain⟨w,nx⟩:=c.tl<|eU h▸gv;have u:wT (dl g m) (zC z s ds)=.ok G (zC z s.tl ds):=vU (aR p)<|bw<|aM (bA<|bg (aN rfl)<|bg (aN rfl) rfl)<|ka (ju (t:=s.t) (n:=s.n) c.v h w.v nx) rfl;obtain⟨F,e1,E⟩:=O.e;have i:=E s.tl w;have y:∀r,fU [0] F [.ob 1] (zC z s.tl ds)=r->fY 1 vT [0] (mw 1 bj) (dl g m) (zC z s.tl ds)=r:=fun r B=>by
    show(match vT.lookup g with|some F=>_|none=>_)=_
    rw[e1];exact B
   dsimp only[Q.bind];cases h1:f s.tl with
   |er b=>
    rw[h1]at i;have q:wB (dl g m) (zC z s.tl ds)=.er "BadQuestion" [rs z b]:=kJ (φ:=fun Y L=>if(xm L 0).isSome=G then L3 0 (aK (fY 1 vT [0]<|mw 1 bj) bj) Y L else .no) (μ1:=zC z b ds) (by
     show(aK (fY 1 vT [0] (mw 1 bj)) bj (dl g m) (zC z s.tl ds)).bind _=_;rw[Bg (y _ (vS i.eq rfl))];rfl)
    exact⟨Em u q,i.ch⟩
   |ok d b=>
    rw[h1]at i;have C:=O.l s.tl d b w h1;have q:wB (dl g m) (zC z s.tl ds)=.nx (dl g m) (zC z b<|ds++[d]):=il (d:=.S9) (by
     show(aK (fY 1 vT [0] (mw 1 bj)) bj (dl g m) (zC z s.tl ds)).bind _=_;rw[bg (y _ (ka i.eq rfl)) rfl];show(if ds.length<1000000 then _ else _)=_;rw[SI ⊥];rfl)
    have o:=Nt O m A n (ds++[d]) b k i.ch (by simp;lia) (by mright) fun x j=>by
     rcases BY.mp j with j|j
     .exact hd x j
     .rw[IF.mp j];exact C
    dsimp only;generalize ky f n (ds++[d]) b=r at o;cases r with
    |ok a s'=>exact⟨jM u q o.1,o.2⟩
    |er s'=>exact⟨jM u q o.1,o.2⟩
  .rw[SM h];exact⟨qw<|vU (aR p)<|bw<|aM rfl (ka (lL c.v<|Wc.mpr h) rfl),c,hd,⊥⟩
theorem wu:∀{ds:Rx},(∀d∈ds,Sj d=G)->Sj (.tup ds)=G:=@TB _ _ (@fun _=>rfl) fun d ds i_=>@fun h=>by
  show(Sj d&&JZ ds)=G;have  := i_ fun x a=>h x<|ie _ a;rw[h d Up];exact this
theorem Mc(O:One z g f)(m:Nat)(o:m<=100)(h1:1<=m)(c:Ch z s.ts):RE z (sF [U,J<|.cls g,J<|.int m] [rs z s]) (pF f m s)/\∀d s',pF f m s=.ok d s'->Sj d=G:=by
 obtain⟨F,e1,u⟩:=O.e;have a:=u s c;have n:∀r,fU [0] F [.ob 0] [rs z s]=r->fY 1 vT [0] (mw 0 bj) (dl g m) [rs z s]=r:=fun r p=>by
  show(match vT.lookup g with|some F=>_|none=>_)=_
  rw[e1];exact p
 delta pF;cases h2:f s with
 |er b=>
  rw[h2]at a;refine⟨⟨ga (ψ:=bZ _ _)<|lh ?_,a.ch⟩,fun _ _ h=>nomatch h⟩
  show(aK (fY 1 vT [0]<|mw 0 bj) bj (dl g m) [rs z s]).bs 1 _=_;rw[Bg<|n _<|vS a.eq rfl];rfl
 |ok d b=>
  rw[h2]at a;have w:=O.l s d b c h2;have k:P3 1 3 (aK (fY 1 vT [0]<|mw 0 bj) bj) (aZ 4 [U,J<|.cls g,J<|.int m]) [rs z s]=.nx (dl g m) (zC z b [d]):=by
   show(aK (fY 1 vT [0]<|mw 0 bj) bj (dl g m) [rs z s]).bs 1 _=_;rw[bg (n _<|ka a.eq rfl) rfl];rfl
  have i:=Nt O m o (m-1) [d] b 1000 a.ch (by simp;mright) ⊥ fun x y=>by mright
  dsimp only[Q.bind];generalize ky f (m-1) [d] b=r at i;cases r with
  |er v=>exact⟨⟨ga<|eL k<|lh i.1,i.2⟩,fun _ _ h=>nomatch h⟩
  |ok ds v=>
   refine Xl i fun t q j A=>?_;refine⟨⟨cL<|eL k<|eL t<|eG<|aN (((?_)))<|wu j,q⟩,fun d' s' h=>?_⟩
   .rfl
   .nofun;exact wu j
theorem TF:One z "read_order" yV:=⟨⟨_,(by rfl),fun s c=>(by
  refine pW (f7 (rc rfl (Rh c)) fun a b e c1=>?_) ⟨rfl,rfl⟩;exact zb (eS (wD (mU rfl (qY c e) (ri (rc rfl (abi c1 fP)))) fun ds s h=>by nofun;exact lA rfl)) rfl)⟩,fun s d s' c h=>(by
  delta yV at h;cases h1:ng s with
  |er _=>rw[h1]at h;nofun
  |ok a b=>
   rw[h1]at h;nofun;show(Sj a&&(G&&G))=G;rw[qY c h1];rfl)⟩
def vM(s:Sx):Q Sx D:=(dq "key" "by" s).bind fun _ s=>pF yV 8 s
theorem Je(c:Ch z s.ts)(h:vM s=.ok d s'):Sj d=G:=by
 delta vM at h;have b:=sq (x:="by") c fP;cases h1:dq "key" "by" s with
 |er _=>rw[h1]at h;nofun
 |ok a e=>
  rw[h1]at h b;exact(Mc TF 8 ∅ ∅ b.ch).2 d s' h
def iy(k:Str)(f:Sx->Q Sx D)(d:D)(s:Sx):Q Sx D:=if s.hd.is "key" k=G then f s.tl else .ok d s
theorem Rz(c:Ch z s.ts)(e:s.hd.is "key" k=G->Ch z s.tl.ts->RE z (φ Y [rs z s.tl]) (f s.tl))(hd:s.hd.is "key" k=η->ψ (fill [0] [rs z s] Y)=.ok d)(i:Sj d=G<|>Rv):
  RE z (Nf (qL<|dm [0] fR<|mw 0<|aK (ji [0]<|vC<|.str "key")<|aK (ji [0]<|vC<|.str k) bj) φ (ji [0] ψ) Y [rs z s]) (iy k f d s):=by
 delta iy;by_cases h:s.hd.is "key" k=G
 .rw[h];obtain⟨b,j⟩:=c.tl<|eU h▸fP;have g:=e h b;exact⟨N3 (bw<|aM rfl (ka (ju c.v h b.v j) rfl)) g.eq,g.ch⟩
 .rw[SM h];have a:=Wc.mpr h;exact⟨MN (bw<|aM rfl (ka (lL c.v a) rfl))<|aN (hd a) i,c⟩
theorem De(b:Keeps f)(m:Nat):Keeps<|pF f m:=by
 have e:∀n ds,Keeps<|ky f n ds:=fun n=>by
  induction n with
  |zero=>exact fun ds s a s' h=>by nofun;exact⟨rfl,rfl⟩
  |succ n c=>
   intro ds s a s' h;unfold ky at h;cbv
   .have:=cj b (fun d=>c<|ds++[d]) s.tl a s' h
    exact⟨this.1,this.2⟩
   mright
 exact cj b fun d=>cj (e _ _) fun ds=>n8
theorem sX(b:nV f)(m:Nat):nV<|pF f m:=by
 have e:∀n ds,nV<|ky f n ds:=fun n=>by
  induction n with
  |zero=>exact fun ds s a s' h=>by nofun;exact fun _ h=>h
  |succ n c=>
   intro ds s a s' h;unfold ky at h;cbv
   .exact fun w hw=>dG s w<|cz b (fun d=>c<|ds++[d]) s.tl a s' h w hw
   .mright
 exact cz b fun d=>cz (e _ _) fun ds=>rC
theorem Gn:Keeps uC/\nV uC:=by
 constructor
 .refine cj jq fun t s a s' h=>?_;cbv
  .exact cj jq (fun b=>n8 (f:=fun _=>D.tup [t,b])) s a s' h
  mright
 .refine cz lJ fun t s a s' h=>?_;cbv
  .exact cz lJ (fun b=>rC (f:=fun _=>D.tup [t,b])) s a s' h
  .mright
theorem ER:nV yV:=fun s a s' h=>by
 delta yV at h;cases h1:ng s with
 |er _=>rw[h1]at h;nofun
 |ok b c=>
  rw[h1]at h;nofun
  have:=su s b c h1
  intro w hw;refine this w ?_;delta kO at hw;split at hw
  .exact dG c w hw
  .exact hw
def qP(s:Sx):Q Sx D:=(dq "key" "from" s).bind fun _ s=>(pF uC 3 s).bind fun b s=>(iy "where" qk .S9 s).bind fun d s=>(iy "order" vM (.tup []) s).bind fun os s=>(dq "key" "show" s).bind fun _ s=>(pF ng 8 s).bind fun a s=>(iy "take" zm .S9 s).bind fun c s=>if s.hd.k="end"then .ok (.tup [.str "ask",b,d,os,a,c]) s else .er s
theorem Gs(a:∀d s',f s.tl=.ok d s'->∀w∈s'.ts,w∈s.tl.ts)(h:iy k f d0 s=.ok d s'):∀w∈s'.ts,w∈s.ts:=by
 delta iy at h;cbv
 .exact fun w hw=>dG s w<|a d s' h w hw
 .mright
theorem N1(c:Ch z s.ts)(K:Uo s)(S:s.t=0)(h1:s.n=0):RE z (bN [U] [rs z s])<|qP s:=by
 refine C1 (ψ:=bZ _ _)<|zk (rc (bA<|bg qt<|bg qt rfl)<|sq c fP) fun _ s1 q1 c1=>?_;have M:Uo s1:=Uo.of iV K q1;have k1:=mW _ _ _ q1;have r1:=Mc (z:=z) (⟨⟨_,dyq,fun s c=>o12 c⟩,fun s d s' c h=>(by
     delta uC at h;cases h1:b8 "name" s with
     |er _=>rw[h1]at h;nofun
     |ok a f=>
      rw[h1]at h;change (if _ then _ else _)=_ at h
      have e:=(lj c h1).Sj;have c1  := by have:=(og c mF).ch;rw[h1]at this;exact this
      cbv
      .cases h2:b8 "name" f with
       |er _=>rw[h2]at h;nofun
       |ok b g=>
        rw[h2]at h;nofun;show(Sj a&&(Sj b&&G))=G;rw[e,(lj c1 h2).Sj];rfl
      .nofun;show(Sj a&&(Sj a&&G))=G;rw[e];rfl)⟩) 3 ∎ ∎ c1;refine f7 (rc (bA<|bg qt<|bg qt rfl) r1.1) fun m s2 q2 c2=>?_;have y:Uo s2:=Uo.of (sX Gn.2 3) M q2;have k2:=De Gn.1 3 _ _ _ q2;have N:=r1.2 _ _ q2;have j:s2.hd.is "key" "where"=G->Ch z s2.tl.ts->_:=fun h f=>XF (z:=z) f (fun w hw=>y w<|dG s2 w hw) (show s2.t=0 by lia) (show s2.n=0 by lia);refine f7 (Rz c2 (fun h f=>rc (bA rfl) (j h f).1) fun _=>rfl) fun i s3 a u=>?_;have P:Uo s3:=fun w hw=>y w (by
  delta iy at a;split at a
  .rename_i hh;exact dG s2 w<|((j hh (c2.tl<|eU hh▸fP).1).2 _ _ a).2 w hw
  .cases a;exact hw)
 have C:Sj i=G:=by
  unfold iy at a;split at a
  .rename_i hh;exact((j hh (c2.tl<|eU hh▸fP).1).2 _ _ a).1
  .cases a;rfl
 refine f7 (Rz u (fun h f=>rc (bA rfl)<|( C1<|zk (rc rfl (sq f fP)) fun _ s1 _ c1=>eS<|rc rfl (Mc TF 8 ∎ ∎ c1).1)) fun _=>de rfl) fun os s4 g I=>?_;have E:Uo s4:=fun w hw=>P w<|Gs (fun d s' h=>(cz iV fun _=>sX ER 8) _ _ _ h) g w hw;have F:Sj os=G:=by
  unfold iy at g;split at g
  .rename_i hh;exact Je (u.tl<|eU hh▸fP).1 g
  .cases g;rfl
 refine zk (rc (bA<|bg qt<|bg qt rfl)<|sq I fP) fun _ s5 Q O=>?_;have H:Uo s5:=Uo.of iV E Q;have o:=Mc (z:=z) (⟨⟨_,aax,fun s c=>Rh c⟩,fun s d s' c h=>qY c h⟩) 8 ∎ ∎ O;refine f7 (rc (bA<|bg qt<|bg qt rfl) o.1) fun A s6 r v=>?_;have D:Uo s6:=Uo.of (sX su 8) H r;have R:=o.2 _ _ r;refine f7 (Rz v (fun h f=>rc (bA rfl)<|aaZ f (show M4 s6.tl.hd from(Uo.hd (s:=s6.tl) fun w hw=>D w<|dG s6 w hw).num)) fun _=>rfl) fun l T e p=>?_;have B:Sj l=G:=by
  unfold iy at e;split at e
  .rename_i hh;delta zm at e;split at e
   .cases e
   .exact(lj (v.tl<|eU hh▸fP).1 e).Sj
  .cases e;rfl
 have x:∀b,(!decide (T.hd.k="end"))=b->dC (aH xF (aH cR (iw "Reader" "word"<|ag 0)<|vC<|.int 0)<|vC<|.str "end") (fill [0] [rs z T] [U,J m,J i,J os,J A,J l])=.ok b:=fun b h=>h▸ao (ae (ae (ig rfl (mC z T.hd T.t T.n)) rfl rfl) rfl vE);by_cases h:T.hd.k="end"
 .rw[SI h];refine Ek (aR<|x η<|by simp[h])<|eS<|x8 p rfl ?_;show(G&&(Sj m&&(Sj i&&(Sj os&&(Sj A&&(Sj l&&G))))))=G;rw[N,C,F,R,B];rfl
 .rw[SM h];exact zD (aR<|x G<|by simp[h])<|Bi (q:=.er T)<|rc rfl (Jz p)
structure kY(z:Str)(ts:List Tok):Prop where
 c:Ch z ts
 k:∀w∈ts,zp w
 f:dt [.str z,.int 0]=.ok (Sx.hd ⟨ts,0,0⟩).d
theorem made(h:kY z ts):M9 "Reader" bE [.pl<|.str z]=J (rs z ⟨ts,0,0⟩):=by
 have e:bE [U,J<|.str z] [.obj "Reader" []]=.ok .S9 [rs z ⟨ts,0,0⟩]:=
  jC (ψ:=bZ _ _) (eL rfl (eL (ED (aN (h.f) (by show(Sj (Sx.hd ⟨ts,0,0⟩).v&&G)=G;rw[(Ch.v h.c).Sj];rfl)) rfl) rfl))
 show(match bE [U,J<|.str z] [.obj "Reader" []]with|.ok .S9 [d]=>J d|_=>U)=_
 rw[e]
theorem afo(h:kY z ts):wm [J<|.str z] []=match qP ⟨ts,0,0⟩with
  |.ok d _=>.ok d []
  |.er _=>.er "BadQuestion" []:=by
 have q:=N1 (s:=⟨ts,0,0⟩) h.c h.k rfl rfl;have f:qN (lP<|aI LP<|ak (ag 0)<|ak (vC<|.ty "str") aQ) (fill [] []<|aZ 1 [J<|.str z])=.ok η:=qj<|eV (af (ac rfl (ac rfl rfl)) rfl) rfl;have a:∀r,(match bN [U] [rs z ⟨ts,0,0⟩]with|.ok d _=>RM.ok d []|.er x _=>.er x []|.no=>.no)=r->xw "Reader" bE bN (aK (ji []<|ag 0) bj) ([J<|.str z]) []=r:=fun r b=>by
  show(match M9 "Reader" bE [.pl<|.str z]with|some d=>_|none=>_)=_
  rw[made h];exact b
 have e:=q.eq;cases h2:qP ⟨ts,0,0⟩with
 |ok d s=>rw[h2]at e;exact cL<|(eG<|a _<|by rw[e])
 |er s=>rw[h2]at e;exact ga<|(Cy<|a _<|by rw[e])
theorem akd(h:kY z ts):Wr l6 [.str z]=.ok (match qP ⟨ts,0,0⟩with
  |.ok _ _=>.S9
  |.er s=>.int s.hd.a):=by
 have q:=N1 (s:=⟨ts,0,0⟩) h.c h.k rfl rfl;have hm:vf 0 1 "Reader" bE (aK (ji []<|ag 0) bj) (aZ 2 [J<|.str z]) []=.nx [J<|.str z,U] [rs z ⟨ts,0,0⟩]:=by
  show(match M9 "Reader" bE [.pl<|.str z]with|some d=>_|none=>_)=_
  rw[made h];rfl
 have e:l6 [J<|.str z] []=.ok (match qP ⟨ts,0,0⟩with|.ok _ _=>.S9|.er s=>.int s.hd.a) []:=by
  have ha:∀r,fU [0] bN [.ob 0] [rs z ⟨ts,0,0⟩]=r->dm [0] bN (mw 0 bj) [J<|.str z,U] [rs z ⟨ts,0,0⟩]=r:=fun r hr=>hr;refine cL<|eL hm ?_;have eq:=q.eq;cases h2:qP ⟨ts,0,0⟩with
  |ok d s=>
   rw[h2]at eq;refine eL (δ':=[J<|.str z,U]) (μ1:=[rs z s]) ?_ rfl;unfold yW;rw[ha _<|ka eq rfl];rfl
  |er s=>
   rw[h2]at eq;refine BS ?_;unfold yW;rw[ha _<|vS eq rfl];rfl
 unfold Wr;mright
inductive Rl where
 |lb|fc|down|fh|none_|ZZ|nj|order|UW|take|where_
 |eq|ne|lt|le|gt|ge|comma|dot|lpar|rpar
 |name|num|minus|text|Fg|end_|value
deriving DecidableEq
inductive QY where
 |lY|UX|bp|dn|ZA|UC|iI|vI|i9|wd|dot|sj|bor|e7|yP|iO|js|no
deriving DecidableEq
structure St where
 fX:QY
 nx:QY
 src:Nat
 UC:Nat
 lg:Nat
 dep:Nat
 ord:Nat
 shw:Nat
inductive aoe where
 |key|sgn|dI
deriving DecidableEq
noncomputable def Rl.kd:Rl->aoe
 |.lb|.fc|.down|.fh|.none_|.ZZ|.nj|.order|.UW|.take|.where_=>.key
 |.eq|.ne|.lt|.le|.gt|.ge|.comma|.dot|.lpar|.rpar=>.sgn
 |_=>.dI
noncomputable def Rl.s:Rl->Str
 |.lb=>"and"|.fc=>"by"|.down=>"down"|.fh=>"from"|.none_=>"none"|.ZZ=>"not"|.nj=>"or"|.order=>"order"|.UW=>"show"|.take=>"take"|.where_=>"where"
 |.eq=>"="|.ne=>"<>"|.lt=>"<"|.le=>"<="|.gt=>">"|.ge=>">="|.comma=>","|.dot=>"."|.lpar=>"("|.rpar=>")"
 |.name=>"NAME"|.num=>"NUMBER"|.minus=>"MINUS"|.text=>"TEXT"|.Fg=>"BAD"|.end_=>"END"|.value=>"VALUE"
def Rl.k:Rl->Str
 |.name=>"name"|.num=>"number"|.minus=>"number"|.text=>"text"|.Fg=>"bad"|.end_=>"end"|.value=>"bad"
 |c=>match c.kd with
  |.key=>"key"
  |_=>"sign"
structure n9(c:Rl)(t:Tok):Prop where
 k:t.k=c.k
 v:c.kd≠.dI->t.v=.str c.s
 n:c=.num->∃i:Int,t.v=.int i/\0<=i
 m:c=.minus->∃i:Int,t.v=.int i/\i<0
 z:c≠.value
noncomputable def SG(c:Rl)(l:List Rl):Bool:=decide (c∈l)||decide (c∈([.none_,.num,.minus,.text]:List Rl))&&decide (Rl.value∈l)
noncomputable def Ef(b:Bool)(l:List Rl):List Rl:=if b=G then .comma::l else l
def Rn(s:St):List Rl:=match s.fX with
 |.lY=>[.fh]|.UX=>[.name]|.wd=>[.name]|.dot=>[.dot]|.sj=>[.name]|.i9=>[.fc]
 |.bp=>Ef (decide (s.src<3)) [.name,.where_,.order,.UW]
 |.dn=>Ef (decide (s.src<3)) [.where_,.order,.UW]
 |.ZA=>(if s.UC<20 then[.name,.name,.value]else[])++(if s.lg<20 then[.ZZ,.lpar]else[])
 |.UC=>[.eq,.ne,.lt,.le,.gt,.ge]
 |.iI=>[.name,.value]
 |.vI=>if 0<s.dep then[.lb,.nj,.rpar,.rpar]else[.lb,.nj,.order,.UW]
 |.bor=>Ef (decide (s.ord<8)) [.down,.UW]
 |.e7=>Ef (decide (s.ord<8)) [.UW]
 |.yP=>Ef (decide (s.shw<8)) [.take,.end_]
 |.iO=>[.num]
 |.js=>[.end_]
 |.no=>[]
noncomputable def l0(s:St)(c:Rl):St:=if c=.comma then {s with fX:=.UX}else if c=.where_ then {s with fX:=.ZA}else if c=.order then {s with fX:=.i9}else if c=.UW then {s with fX:=.wd,nx:=.yP}
 else if s.fX=.UX then {s with src:=s.src+1,fX:=.bp}else {s with fX:=.dn}
noncomputable def vg(s:St)(c:Rl):St:=if c=.ZZ\/c=.lpar then {s with lg:=s.lg+1,dep:=s.dep+(if c=.lpar then 1 else 0)}
 else
  let s1:=if s.fX=.ZA then {s with UC:=s.UC+1,nx:=.UC}else {s with nx:=.vI}
  {s1 with fX:=if c=.name then .dot else s1.nx}
noncomputable def bW(s:St):St:=if s.fX=.wd then {s with fX:=.dot}else if s.fX=.dot then {s with fX:=.sj}else {s with fX:=s.nx,ord:=s.ord+(if s.nx=.bor then 1 else 0),shw:=s.shw+(if s.nx=.yP then 1 else 0)}
def go(s:St)(c:Rl):St:=match s.fX with
 |.lY=>{s with fX:=.UX}
 |.UX|.bp|.dn=>l0 s c
 |.ZA|.iI=>vg s c
 |.wd|.dot|.sj=>bW s
 |.UC=>{s with fX:=.iI}
 |.i9=>{s with fX:=.wd,nx:=.bor}
 |.vI=>if c=.rpar then {s with dep:=s.dep-1}else if c=.lb\/c=.nj then {s with fX:=.ZA}else l0 s c
 |d=>if c=.comma then {s with fX:=.wd}else if c=.down then {s with fX:=.e7}else if c=.take then {s with fX:=.iO}else if d=.iO then {s with fX:=.js}else l0 s c
def kS:St:=⟨.lY,.no,0,0,0,0,0,0⟩
def SV(s:St):List (Rl×Nat)->Option Nat
 |[]=>if SG .end_ (Rn s)=G then U else J 0
 |w::r=>if SG w.1 (Rn s)=G then(if w.1=.end_ then U else SV (go s w.1) r)else J w.2
def Rp(ws:List<|Rl×Nat):Rl×Nat:=ws.headD (.end_,0)
theorem AZ(s:St)(ws:List<|Rl×Nat):SV s ws=if SG (Rp ws).1 (Rn s)=G then(if(Rp ws).1=.end_ then U else SV (go s (Rp ws).1) ws.tail)else J (Rp ws).2:=by
 cases ws with
 |nil=>rfl
 |cons w r=>rfl
theorem k8{s:St}{ws:List<|Rl×Nat}(h:SG (Rp ws).1 (Rn s)=G)(h2:(Rp ws).1≠.end_):SV s ws=SV (go s (Rp ws).1) ws.tail:=by rw[AZ,SI h,SM h2]
theorem dU{s:St}{ws:List<|Rl×Nat}(h:SG (Rp ws).1 (Rn s)=η):SV s ws=J (Rp ws).2:=by rw[AZ,SM<|by rw[h];decide]
inductive U1:List Tok->List (Rl×Nat)->Prop
 |nil:U1 [] []
 |cons (h:n9 c t) (r:U1 ts ws):U1 (t::ts) ((c,t.a)::ws)
theorem U1.hd{s:Sx}(h:U1 s.ts ws):n9 (Rp ws).1 s.hd/\(Rp ws).2=s.hd.a:=by
 unfold Sx.hd;generalize s.ts=l at h;cases h with
 |nil=>exact⟨⟨rfl,fun z=>absurd rfl z,(fun z=>nomatch z),(fun z=>nomatch z),∎⟩,rfl⟩
 |cons h r=>exact⟨h,rfl⟩
theorem U1.tl{s:Sx}(h:U1 s.ts ws):U1 s.tl.ts ws.tail:=by
 unfold Sx.tl;generalize s.ts=l at h;cases h with
 |nil=>exact .nil
 |cons h r=>exact r
theorem n9.key(h:n9 c t)(x:Str):t.is "key" x=(decide (c.kd=.key)&&decide (c.s=x)):=by
 unfold Tok.is;rw[h.k];by_cases hk:c.kd=.dI
 .cases c<;>first|rfl|cases hk
 .rw[h.v hk];cases c<;>first|rfl|lia
theorem n9.sgn(h:n9 c t)(x:Str):t.is "sign" x=(decide (c.kd=.sgn)&&decide (c.s=x)):=by
 unfold Tok.is;rw[h.k];by_cases hk:c.kd=.dI
 .cases c<;>first|rfl|cases hk
 .rw[h.v hk];cases c<;>first|rfl|lia
noncomputable def cE:List Rl:=[.lb,.fc,.down,.fh,.none_,.ZZ,.nj,.order,.UW,.take,.where_,.eq,.ne,.lt,.le,.gt,.ge,.comma,.dot,.lpar,.rpar,.name,.num,.minus,.text,.Fg,.end_,.value]
theorem d5(c:Rl):c∈cE:=by cases c<;>decide
theorem kM(c d:Rl)(h:c.s=d.s):c=d:=(by trivial:∀c∈cE,∀d∈cE,c.s=d.s->c=d) c (d5 c) d (d5 d) h
theorem n9.a6(h:n9 c t)(d:Rl)(hd:d.kd=.key):t.is "key" d.s=decide (c=d):=by
 rw[h.key,iC];simp only[oR,decide_eq_true_eq];exact⟨fun z=>kM _ _ z.2,fun z=>by mright⟩
theorem n9.o6(h:n9 c t)(d:Rl)(hd:d.kd=.sgn):t.is "sign" d.s=decide (c=d):=by
 rw[h.sgn,iC];simp only[oR,decide_eq_true_eq];exact⟨fun z=>kM _ _ z.2,fun z=>by mright⟩
def Yx{α:Type}(q:Q Sx α)(o:Option Nat):Prop:=match q with
 |.ok _ _=>o=U
 |.er s=>o=J s.hd.a
theorem nL{α:Type}{K:D->Sx->Q Sx α}(h:U1 s.ts ws)(k:Str)(d:Rl)(hk:s.hd.is k x=decide ((Rp ws).1=d))(hf:∀c,c=(Rp ws).1->SG c (Rn st)=decide (c=d))(he:d≠.end_)(hK:∀a,U1 s.tl.ts ws.tail->Yx (K a s.tl) (SV (go st d) ws.tail)):Yx ((dq k x s).bind K)<|SV st ws:=by
 unfold dq;have hf:=hf _ rfl;by_cases hw:(Rp ws).1=d
 .rw[SI<|by simp_all,k8 (by rw[hf,Th hw])<|by rw[hw];exact he,hw];exact hK _ h.tl
 .rw[SM<|by simp_all,dU<|by grind,h.hd.2];rfl
theorem n9.nm(h:n9 c t):t.k="name"↔c=.name:=by
 rw[h.k];revert c
 intro c _;cases c<;>decide +kernel
theorem ki{α:Type}{K:D->Sx->Q Sx α}(h:U1 s.ts ws)(hf:∀c,c=(Rp ws).1->SG c (Rn st)=decide (c=.name))(hK:∀a,U1 s.tl.ts ws.tail->Yx (K a s.tl) (SV (go st .name) ws.tail)):Yx ((b8 "name" s).bind K)<|SV st ws:=by
 unfold b8;have hf:=hf _ rfl;by_cases hw:(Rp ws).1=.name
 .rw[(h.hd.1.nm.mpr hw),k8 (by rw[hf,Th hw])<|by rw[hw];decide,hw];exact hK _ h.tl
 .rw[SM fun z=>hw<|h.hd.1.nm.mp z,dU<|by grind,h.hd.2];rfl
theorem SL(q:Q Z α)(f:α->Z->Q Z β)(g:β->Z->Q Z γ):(q.bind f).bind g=q.bind fun a s=>(f a s).bind g:=by cases q<;>rfl
theorem Ui{α:Type}{K:D->Sx->Q Sx α}{st1:St}(h:U1 s.ts ws)(hn:∀c,c=(Rp ws).1->SG c (Rn st)=decide (c=.name))(hg:go st .name={st1 with fX:=.dot})(hK:∀a s' ws',s'.t=s.t->s'.n=s.n->U1 s'.ts ws'->Yx (K a s') (SV (bW {st1 with fX:=.sj}) ws')):Yx ((ng s).bind K)<|SV st ws:=by
 unfold ng;rw[SL];refine ki h hn fun a r1=>?_;rw[SL,hg];refine nL r1 "sign" .dot (r1.hd.1.o6 .dot rfl) (fun c _=>by cases c<;>rfl) ∎ fun _ r2=>?_;rw[SL];refine ki r2 (fun c _=>by cases c<;>rfl) fun b r3=>?_;exact hK _ s.tl.tl.tl _ rfl rfl r3
theorem n9.u7(h:n9 c t):t.k="end"↔c=.end_:=by
 rw[h.k];revert c
 intro c _;cases c<;>decide +kernel
theorem n9.nu(h:n9 c t):t.k="number"↔c=.num\/c=.minus:=by
 rw[h.k];revert c
 intro c _;cases c<;>decide +kernel
theorem n9.tx(h:n9 c t):t.k="text"↔c=.text:=by
 rw[h.k];revert c
 intro c _;cases c<;>decide +kernel
theorem aiV{c:Rl}{l:List Rl}(h:Rl.value∉l):SG c l=decide (c∈l):=by
 unfold SG;rw[TU h,Bool.and_false,Bool.or_false]
theorem CY{α:Type}{f:Sx->Q Sx D}{K:Rx->Sx->Q Sx α}(Inv:Nat->Rl->Nat->Nat->St->Prop)(hcm:∀n a b st,Inv (n+1) .comma a b st->SG .comma (Rn st)=G)
  (hf:∀n st s ws,Inv (n+1) .comma s.t s.n st->U1 s.ts ws->∀K':D->Sx->Q Sx α,(∀a s' ws' st',Inv n (Rp ws').1 s'.t s'.n st'->U1 s'.ts ws'->Yx (K' a s') (SV st' ws'))->Yx ((f s).bind K') (SV (go st .comma) ws))
  (hK:∀n ds s ws st,Inv n (Rp ws).1 s.t s.n st->((Rp ws).1=.comma->n=0)->U1 s.ts ws->Yx (K ds s) (SV st ws)):
  ∀n ds s ws st,Inv n (Rp ws).1 s.t s.n st->U1 s.ts ws->Yx ((ky f n ds s).bind K) (SV st ws):=fun n=>by
 induction n with
 |zero=>exact fun ds s ws st i r=>hK 0 ds s ws st i (fun _=>rfl) r
 |succ n ih=>
  intro ds s ws st i r;have e:=r.hd.1.o6 .comma rfl;unfold ky;by_cases hw:(Rp ws).1=.comma
  .rw[SI<|by rw[show(",")=Rl.s .comma from rfl,e,Th hw]];rw[hw]at i;rw[k8 (by grind)<|by rw[hw];decide,hw,SL];exact hf n st s.tl ws.tail i r.tl _ fun a s' ws' st' i' r'=>ih _ _ _ _ i' r'
  .rw[SM<|by rw[show(",")=Rl.s .comma from rfl,e,TU hw];decide];exact hK (n+1) ds s ws st i (fun z=>absurd z hw) r
structure oa(n:Nat)(c:Rl)(st:St):Prop where
 d:st.fX=.dn\/st.fX=.bp/\c≠.name
 m:st.src+n=3
 t:st.UC=0
 o:st.lg=0
 p:st.dep=0
 q:st.ord=0
 w:st.shw=0
theorem Rr(i:oa n c st):SG c (Rn st)=(decide (c=.comma)&&decide (0<n)||decide (c∈([.where_,.order,.UW]:List Rl))):=by
 have hm:=i.m;have e:decide (st.src<3)=decide (0<n):=decide_eq_decide.mpr ⊥;have h:Rn st=Ef ((0<n)) [.where_,.order,.UW]\/Rn st=Ef ((0<n)) [.name,.where_,.order,.UW]/\c≠.name:=by
  unfold Rn;rcases i.d with h|h
  .mright
  mright
 by_cases hn:0<n
 .rw[Th hn]at h⊢;rcases h with h|⟨h,h2⟩<;>rw[h]<;>cases c<;>first|rfl|grind
 .rw[TU hn]at h⊢;rcases h with h|⟨h,h2⟩<;>rw[h]<;>cases c<;>first|rfl|grind
theorem sZ(i:oa n c st)(d:Rl)(hd:d∈([.comma,.where_,.order,.UW]:List Rl)):go st d=l0 st d:=by
 unfold go;rcases i.d with h|h
 .rw[h]
 .rw[h.1]
theorem Ur{α:Type}{K:D->Sx->Q Sx α}(n:Nat)(st:St)(s:Sx)(ws:List<|Rl×Nat)(hd:st.fX=.UX)(hm:st.src+(n+1)=3)(h0:st.UC=0/\st.lg=0/\st.dep=0/\st.ord=0/\st.shw=0)(r:U1 s.ts ws)
  (hK:∀a s' ws' st',oa n (Rp ws').1 st'->U1 s'.ts ws'->s'.t=s.t->s'.n=s.n->Yx (K a s') (SV st' ws')):Yx ((uC s).bind K)<|SV st ws:=by
 unfold uC;rw[SL];have ha:Rn st=[.name]:=by unfold Rn;rw[hd]
 refine ki r (fun c _=>by rw[ha];cases c<;>rfl) fun a r1=>?_;have hg:go st .name={st with src:=st.src+1,fX:=.bp}:=by unfold go l0;rw[hd];rfl
 rw[hg];have hi:∀c,c≠.name->oa n c {st with src:=st.src+1,fX:=.bp}:=fun c hc=>⟨.inr ⟨rfl,hc⟩,by grind,h0.1,h0.2.1,h0.2.2.1,h0.2.2.2.1,h0.2.2.2.2⟩;by_cases hw:(Rp ws.tail).1=.name
 .rw[SI<|r1.hd.1.nm.mpr hw,SL];refine ki r1 (fun c hc=>?_) fun b r2=>?_
  .rw[hc,hw];unfold Rn SG;cases(decide (st.src+1<3))<;>rfl
  .have hg2:go {st with src:=st.src+1,fX:=.bp} .name={st with src:=st.src+1,fX:=.dn}:=rfl;exact hK _ _ _ _ ⟨.inl rfl,by grind,h0.1,h0.2.1,h0.2.2.1,h0.2.2.2.1,h0.2.2.2.2⟩ r2 rfl rfl
 .rw[SM fun z=>hw<|r1.hd.1.nm.mp z];exact hK _ _ _ _ (hi _ hw) r1 rfl rfl
structure ur(n:Nat)(c:Rl)(st:St):Prop where
 d:st.fX=.yP
 m:st.shw+n=8
 x:st.nx=.yP
theorem NI(i:ur n c st)(d:Rl):SG d (Rn st)=(decide (d=.comma)&&decide (0<n)||decide (d=.take)||decide (d=.end_)):=by
 have hm:=i.m;have e:decide (st.shw<8)=decide (0<n):=decide_eq_decide.mpr ⊥;have h:Rn st=Ef ((0<n)) [.take,.end_]:=by unfold Rn;rw[i.d,e]
 rw[h];by_cases hn:0<n
 .rw[Th hn];cases d<;>rfl
 .rw[TU hn];cases d<;>rfl
theorem Vt{α:Type}{K:D->Sx->Q Sx α}(n:Nat)(st:St)(s:Sx)(ws:List<|Rl×Nat)(hd:st.fX=.wd)(hm:st.shw+(n+1)=8)(hx:st.nx=.yP)(r:U1 s.ts ws)
  (hK:∀a s' ws' st',ur n (Rp ws').1 st'->U1 s'.ts ws'->Yx (K a s') (SV st' ws')):Yx ((ng s).bind K)<|SV st ws:=by
 have ha:Rn st=[.name]:=by unfold Rn;rw[hd]
 refine Ui r (fun c _=>by rw[ha];cases c<;>rfl) (by unfold go bW;rw[hd];rfl) fun a s' ws' _ _ r'=>?_;have hg:bW {st with fX:=.sj}={st with fX:=.yP,shw:=st.shw+1}:=by unfold bW;simp[hx]
 rw[hg];exact hK _ _ _ _ ⟨rfl,by grind,hx⟩ r'
theorem alj{α:Type}{f:D->α}(i:ur n (Rp ws).1 st)(hc:(Rp ws).1=.comma->n=0)(r:U1 s.ts ws):Yx ((iy "take" zm .S9 s).bind fun tk s=>if s.hd.k="end"then .ok (f tk) s else .er s)<|SV st ws:=by
 have e:=r.hd.1.a6 .take rfl;have ha:=NI i (Rp ws).1;have fin:∀(s:Sx)(ws:List<|Rl×Nat)(st:St)(tk:D),U1 s.ts ws->(SG (Rp ws).1 (Rn st)=decide ((Rp ws).1=.end_))->Yx (if s.hd.k="end"then(Q.ok (f tk) s:Q Sx α)else .er s) (SV st ws):=fun s ws st tk r hf=>by
  by_cases hw:(Rp ws).1=.end_
  .rw[SI<|r.hd.1.u7.mpr hw,AZ,SI<|by rw[hf,Th hw],SI hw];exact rfl
  .rw[SM fun z=>hw<|r.hd.1.u7.mp z,dU<|by rw[hf,TU hw],r.hd.2];exact rfl
 unfold iy;by_cases hw:(Rp ws).1=.take
 .rw[SI<|by rw[show("take":Str)=Rl.s .take from rfl,e,Th hw],k8 (by rw[ha,hw];simp)<|by rw[hw];decide,hw];have hg:go st .take={st with fX:=.iO}:=by unfold go;rw[i.d];rfl
  rw[hg];have r1:=r.tl;have hf:∀c,SG c (Rn {st with fX:=.iO})=decide (c=.num):=fun c=>by cases c<;>rfl
  unfold zm;by_cases h1:(Rp ws.tail).1=.num
  .obtain⟨j,e1,Rt⟩:=r1.hd.1.n h1;rw[SM (fun z=>by have:=z.2;rw[e1]at this;have:=WI this;lia)];unfold b8;rw[SI<|r1.hd.1.nu.mpr<|.inl h1,k8 (by rw[hf,Th h1])<|by rw[h1];decide,h1];exact fin _ _ _ _ r1.tl (by generalize(Rp ws.tail.tail).1=c;cases c<;>rfl)
  .rw[dU<|by rw[hf,TU h1],r1.hd.2];by_cases h2:(Rp ws.tail).1=.minus
   .obtain⟨j,e1,Rt⟩:=r1.hd.1.m h2;rw[SI ⟨r1.hd.1.nu.mpr<|.inr h2,by rw[e1];exact Th Rt⟩];exact rfl
   .have hk  := fun z=>(r1.hd.1.nu.mp z).elim h1 h2;rw[SM fun z=>hk z.1];unfold b8;rw[SM hk];exact rfl
 .rw[SM<|by rw[show "take"=Rl.s .take from rfl,e,TU hw];decide];refine fin s ws st .S9 r ?_
  grind
theorem ajS{α:Type}{f:D->D->α}(hd:st.fX=.wd)(hm:st.shw=0)(hx:st.nx=.yP)(r:U1 s.ts ws):Yx ((pF ng 8 s).bind fun cs s=>(iy "take" zm .S9 s).bind fun tk s=>if s.hd.k="end"then .ok (f cs tk) s else .er s)<|SV st ws:=by
 unfold pF;rw[SL];refine Vt 7 st s ws hd ⊥ hx r fun a s' ws' st' i r'=>?_;rw[SL];refine CY (fun n c _ _ st=>ur n c st) (fun n _ _ st i=>by rw[NI i];simp) (fun n st s ws i r K' hK'=>?_) (fun n ds s ws st i hc r=>alj i hc r) 7 _ _ _ _ i r';have hg:go st .comma={st with fX:=.wd}:=by unfold go;rw[i.d];rfl
 rw[hg];exact Vt n _ s ws rfl i.m i.x r hK'
abbrev r3{α:Type}(f:D->D->α)(s:Sx):Q Sx α:=(dq "key" "show" s).bind fun _ s=>(pF ng 8 s).bind fun cs s=>(iy "take" zm .S9 s).bind fun tk s=>if s.hd.k="end"then .ok (f cs tk) s else .er s
theorem Vj{α:Type}{f:D->D->α}(hf:SG (Rp ws).1 (Rn st)=decide ((Rp ws).1=.UW))(hg:go st .UW={st with fX:=.wd,nx:=.yP})(hw:st.shw=0)(r:U1 s.ts ws):Yx (r3 f s)<|SV st ws:=by
 refine nL r "key" .UW (r.hd.1.a6 .UW rfl) (fun c hc=>by rw[hc];exact hf) ∎ fun _ r1=>?_;rw[hg];exact ajS rfl hw rfl r1
structure DV(n:Nat)(c:Rl)(st:St):Prop where
 d:st.fX=.e7\/st.fX=.bor/\c≠.down
 m:st.ord+n=8
 x:st.nx=.bor
 w:st.shw=0
theorem Q5(i:DV n c st):SG c (Rn st)=(decide (c=.comma)&&decide (0<n)||decide (c=.UW)):=by
 have hm:=i.m;have e:decide (st.ord<8)=decide (0<n):=decide_eq_decide.mpr ⊥;have h:Rn st=Ef (decide (0<n)) [.UW]\/Rn st=Ef (decide (0<n)) [.down,.UW]/\c≠.down:=by
  unfold Rn;rcases i.d with h|h
  .rw[h,e];exact .inl rfl
  .rw[h.1,e];exact .inr ⟨rfl,h.2⟩
 by_cases hn:0<n
 .rw[Th hn]at h⊢;rcases h with h|⟨h,h2⟩<;>rw[h]<;>cases c<;>first|rfl|exact absurd rfl h2
 .rw[TU hn]at h⊢;rcases h with h|⟨h,h2⟩<;>rw[h]<;>cases c<;>first|rfl|exact absurd rfl h2
theorem Vy{α:Type}{K:D->Sx->Q Sx α}(n:Nat)(st:St)(s:Sx)(ws:List<|Rl×Nat)(hd:st.fX=.wd)(hm:st.ord+(n+1)=8)(hx:st.nx=.bor)(hw:st.shw=0)(r:U1 s.ts ws)
  (hK:∀a s' ws' st',DV n (Rp ws').1 st'->U1 s'.ts ws'->Yx (K a s') (SV st' ws')):Yx ((yV s).bind K)<|SV st ws:=by
 have ha:Rn st=[.name]:=by unfold Rn;rw[hd]
 unfold yV;rw[SL];refine Ui (st1:=st) r (fun c _=>by rw[ha];cases c<;>rfl) (by unfold go bW;rw[hd];rfl) fun a s' ws' _ _ r'=>?_;have hg:bW {st with fX:=.sj}={st with fX:=.bor,ord:=st.ord+1}:=by unfold bW;simp[hx]
 rw[hg];have e:=r'.hd.1.a6 .down rfl;show Yx (K _ (kO "key" "down" s').2) _;unfold kO;by_cases h:(Rp ws').1=.down
 .rw[SI<|by rw[show("down":Str)=Rl.s .down from rfl,e,Th h],k8 (by
   rw[h];unfold Rn SG;simp only;cases(decide (st.ord+1<8))<;>rfl) (by rw[h];decide),h]
  exact hK _ _ _ _ ⟨.inl rfl,by show st.ord+1+n=8;lia,hx,hw⟩ r'.tl
 .rw[SM<|by rw[show("down":Str)=Rl.s .down from rfl,e,TU h];decide];exact hK _ _ _ _ ⟨.inr ⟨rfl,h⟩,by show st.ord+1+n=8;lia,hx,hw⟩ r'
abbrev r2{α:Type}(f:D->D->D->α)(s:Sx):Q Sx α:=(iy "order" vM (.tup []) s).bind fun os s=>r3 (f os) s
theorem Vi{α:Type}{f:D->D->D->α}(hf:SG (Rp ws).1 (Rn st)=(decide ((Rp ws).1=.order)||decide ((Rp ws).1=.UW)))(hg:go st .UW={st with fX:=.wd,nx:=.yP})(hg2:go st .order={st with fX:=.i9})(hw:st.shw=0)(ho:st.ord=0)(r:U1 s.ts ws):Yx (r2 f s)<|SV st ws:=by
 have e:=r.hd.1.a6 .order rfl;unfold r2 iy;by_cases h:(Rp ws).1=.order
 .rw[SI<|by rw[show("order":Str)=Rl.s .order from rfl,e,Th h],k8 (by rw[hf,Th h];rfl)<|by rw[h];decide,h,hg2];unfold vM;rw[SL];have r1:=r.tl;refine nL r1 "key" .fc (r1.hd.1.a6 .fc rfl) (fun c _=>by cases c<;>rfl) ∎ fun _ r2=>?_;unfold pF;rw[SL];refine Vy 7 _ _ _ rfl (by show st.ord+8=8;lia) rfl hw r2 fun a s' ws' st' i r'=>?_;rw[SL];refine CY (fun n c _ _ st=>DV n c st) (fun n _ _ st i=>by rw[Q5 i];simp) (fun n st s ws i r K' hK'=>?_) (fun n ds s ws st i hc r=>?_) 7 _ _ _ _ i r'
  .have hg:go st .comma={st with fX:=.wd}:=by
    unfold go;rcases i.d with h|h
    .rw[h];rfl
    .rw[h.1];rfl
   rw[hg];exact Vy n _ s ws rfl i.m i.x i.w r hK'
  .refine Vj ?_ ?_ i.w r
   .rw[Q5 i];by_cases h3:(Rp ws).1=.comma
    .rw[hc h3,Th h3];simp
    .rw[TU h3];simp
   .unfold go;rcases i.d with h|h
    .rw[h];rfl
    .rw[h.1];rfl
 .rw[SM<|by rw[show("order":Str)=Rl.s .order from rfl,e,TU h];decide];exact Vj (by rw[hf,TU h];rfl) hg hw r
theorem Vv{α:Type}{K:D->Sx->Q Sx α}(g:St)(h0:∀c,c=(Rp ws).1->SG c (Rn st)=decide (c∈([.name,.none_,.num,.minus,.text]:List Rl)))(hn:go st .name={g with fX:=.dot})(hv:∀c,c∈([.none_,.num,.minus,.text]:List Rl)->go st c={g with fX:=g.nx})(hx:g.nx=.UC\/g.nx=.vI)(r:U1 s.ts ws)
  (hK:∀a s' ws',s'.t=s.t->s'.n=s.n->U1 s'.ts ws'->Yx (K a s') (SV {g with fX:=g.nx} ws')):Yx ((rf s).bind K)<|SV st ws:=by
 unfold rf;have hf:=h0 _ rfl;by_cases h1:(Rp ws).1=.name
 .rw[SI<|r.hd.1.nm.mpr h1];have hfin:bW {g with fX:=.sj}={g with fX:=g.nx}:=by
   unfold bW;rcases hx with e|e<;>simp[e]
  unfold ng;rw[SL];refine ki r (fun c hc=>by rw[h0 c hc,hc,h1];rfl) fun a r1=>?_;rw[SL,hn];refine nL r1 "sign" .dot (r1.hd.1.o6 .dot rfl) (fun c _=>by cases c<;>rfl) ∎ fun _ r2=>?_;rw[SL];refine ki r2 (fun c _=>by cases c<;>rfl) fun b r3=>?_;show Yx (K _ _)<|SV (bW {g with fX:=.sj}) _;rw[hfin];exact hK _ s.tl.tl.tl _ rfl rfl r3
 rw[SM fun z=>h1<|r.hd.1.nm.mp z];by_cases h2:(Rp ws).1=.num\/(Rp ws).1=.minus\/(Rp ws).1=.text
 .have hk:s.hd.k="number"\/s.hd.k="text":=by
   rcases h2 with h|h|h
   .exact .inl (r.hd.1.nu.mpr<|.inl h)
   .exact .inl (r.hd.1.nu.mpr<|.inr h)
   .exact .inr (r.hd.1.tx.mpr h)
  have hm:(Rp ws).1∈([.none_,.num,.minus,.text]:List Rl):=by rcases h2 with h|h|h<;>rw[h]<;>decide
  rw[SI hk,k8 (by rw[hf];rcases h2 with h|h|h<;>rw[h]<;>rfl) (by rcases h2 with h|h|h<;>rw[h]<;>decide),hv _ hm];exact hK _ s.tl _ rfl rfl r.tl
 .have hk:¬(s.hd.k="number"\/s.hd.k="text"):=fun z=>h2 (by
   rcases z with z|z
   .rcases r.hd.1.nu.mp z with z|z
    .exact .inl z
    .exact .inr (.inl z)
   .exact .inr (.inr (r.hd.1.tx.mp z)))
  rw[SM hk,SL];by_cases h3:(Rp ws).1=.none_
  .unfold dq;rw[SI<|by rw[show("none":Str)=Rl.s .none_ from rfl,r.hd.1.a6 .none_ rfl,Th h3],k8 (by rw[hf,h3];rfl)<|by rw[h3];decide,hv _<|by rw[h3];decide];exact hK _ s.tl _ rfl rfl r.tl
  .unfold dq;rw[SM<|by rw[show("none":Str)=Rl.s .none_ from rfl,r.hd.1.a6 .none_ rfl,TU h3];decide,dU (by
    rw[hf];refine TU fun z=>?_;simp only[eQ,Vm,or_false]at z;rcases z with z|z|z|z|z
    .exact h1 z
    .exact h3 z
    .exact h2 (.inl z)
    .exact h2 (.inr<|.inl z)
    .exact h2 (.inr (.inr z))),r.hd.2]
   exact rfl
theorem aoV{c:Rl}(p:Prop)[Decidable p](h1:c≠.ZZ)(h2:c≠.lpar):SG c (if p then[.ZZ,.lpar]else[])=η:=by
 have h:=(by decide:∀c∈cE,c≠.ZZ->c≠.lpar->SG c [.ZZ,.lpar]=η/\SG c []=η) c (d5 c) h1 h2;split
 .exact h.1
 .exact h.2
theorem aoX{c:Rl}(p:Prop)[Decidable p](h1:c≠.ZZ)(h2:c≠.lpar)(h3:c≠.value):SG c ([.name,.name,.value]++(if p then[.ZZ,.lpar]else[]))=decide (c∈([.name,.none_,.num,.minus,.text]:List Rl)):=by
 have h:=(by decide:∀c∈cE,c≠.ZZ->c≠.lpar->c≠.value->SG c ([.name,.name,.value]++[.ZZ,.lpar])=decide (c∈([.name,.none_,.num,.minus,.text]:List Rl))/\SG c ([.name,.name,.value]++[])=decide (c∈([.name,.none_,.num,.minus,.text]:List Rl))) c (d5 c) h1 h2 h3;split
 .exact h.1
 .exact h.2
theorem VW{c:Rl}(h:c.kd=.dI):c.k≠"sign"/\c∉([.eq,.ne,.lt,.le,.gt,.ge]:List Rl):=(by trivial:∀c∈cE,c.kd=.dI->c.k≠"sign"/\c∉([.eq,.ne,.lt,.le,.gt,.ge]:List Rl)) c (d5 c) h
theorem ao2{c:Rl}(h:c.kd≠.dI):(c.k="sign"/\XT (.str c.s)=G)↔c∈([.eq,.ne,.lt,.le,.gt,.ge]:List Rl):=(by trivial:∀c∈cE,c.kd≠.dI->((c.k="sign"/\XT (.str c.s)=G)↔c∈([.eq,.ne,.lt,.le,.gt,.ge]:List Rl))) c (d5 c) h
theorem alE{α:Type}{K:D->Sx->Q Sx α}(hd:st.fX=.ZA)(ht:st.UC=s.t)(h20:s.t<=20)(hn:(Rp ws).1≠.ZZ/\(Rp ws).1≠.lpar)(r:U1 s.ts ws)
  (hK:s.t<20->∀a s' ws',s'.t=s.t+1->s'.n=s.n->U1 s'.ts ws'->Yx (K a s') (SV {st with UC:=st.UC+1,nx:=.vI,fX:=.vI} ws')):Yx ((qV s).bind K)<|SV st ws:=by
 unfold qV;by_cases h:s.t=20
 .rw[SI h,dU (by
   have:Rn st=if st.lg<20 then[.ZZ,.lpar]else[]:=by unfold Rn;rw[hd];simp[ht,h]
   rw[this];exact aoV (st.lg<20) hn.1 hn.2),r.hd.2]
  exact rfl
 rw[SM h,SL];have h20':st.UC<20:=⊥
 have ha:Rn st=[.name,.name,.value]++(if st.lg<20 then[.ZZ,.lpar]else[]):=by unfold Rn;rw[hd];simp[h20']
 have r0:U1 {s with t:=s.t+1}.ts ws:=r;refine Vv {st with UC:=st.UC+1,nx:=.UC} (fun c hc=>?_) (by unfold go vg;rw[hd];rfl) (fun c hc=>?_) (.inl rfl) r0 fun one s1 ws1 t1 n1 r1=>?_
 .rw[ha];subst hc;exact aoX (st.lg<20) hn.1 hn.2 r.hd.1.z
 .unfold go vg;rw[hd];simp only[eQ,Vm,or_false]at hc;rcases hc with rfl|rfl|rfl|rfl<;>rfl
 .have hs:(s1.hd.k="sign"/\XT s1.hd.v=G)↔(Rp ws1).1∈([.eq,.ne,.lt,.le,.gt,.ge]:List Rl):=by
   have ho:=r1.hd.1;generalize(Rp ws1).1=c at ho;rw[ho.k];by_cases hk:c.kd=.dI
   .exact⟨fun z=>absurd z.1 (VW hk).1,fun z=>absurd z (VW hk).2⟩
   .rw[ho.v hk];exact ao2 hk
  by_cases hw:(Rp ws1).1∈([.eq,.ne,.lt,.le,.gt,.ge]:List Rl)
  .rw[SI<|hs.mpr hw,SL,k8 (by
    show SG _ [.eq,.ne,.lt,.le,.gt,.ge]=G;unfold SG;rw[Th hw];rfl) (by intro z;rw[z]at hw;exact absurd hw ∎)]
   have hg:go {st with UC:=st.UC+1,nx:=.UC,fX:=.UC} (Rp ws1).1={st with UC:=st.UC+1,nx:=.UC,fX:=.iI}:=rfl;show Yx _<|SV (go {st with UC:=st.UC+1,nx:=.UC,fX:=.UC} (Rp ws1).1) _;rw[hg];refine Vv {st with UC:=st.UC+1,nx:=.vI} (fun c hc=>by have n3:=r1.tl.hd.1.z;rw[<-hc]at n3;cases c<;>first|rfl|exact absurd rfl n3) rfl (fun c hc=>?_) (.inr rfl) r1.tl fun Lh s2 ws2 t2 n2 r2=>?_
   .simp only[eQ,Vm,or_false]at hc;rcases hc with rfl|rfl|rfl|rfl<;>rfl
   .exact hK ⊥ _ _ _ (t2.trans t1) (n2.trans n1) r2
  .rw[SM fun z=>hw<|hs.mp z,dU (by
    show SG _ [.eq,.ne,.lt,.le,.gt,.ge]=η;rw[aiV ∎,TU hw]),r1.hd.2]
   exact rfl
def pc:SH->Nat
 |[]=>0
 |w::W=>pc W+if w="("then 1 else 0
theorem RY:∀(A B:SH),pc (A++B)=pc A+pc B
 |[],B=>by show pc B=0+pc B;lia
 |w::A,B=>by show pc (A++B)+_=pc A+_+pc B;rw[RY A B];lia
theorem kl:∀W:SH,("(":Str)∈W↔0<pc W:=TB (⟨(fun z=>nomatch z),fun z=>absurd z<|ei 0⟩) fun w W i_=>by
  have ih:=i_;show _↔0<pc W+if w="("then 1 else 0;rw[eQ,ih];by_cases h:w="("
  .mright
  .rw[SM h];exact⟨fun z=>z.elim (fun e=>absurd e.symm h) fun z=>⊥,fun z=>.inr<|⊥⟩
structure bb(s:Sx)(T:Rx)(W:SH)(st:St)(e:Nat):Prop where
 w:CL W
 j:T.length=jn W+e
 l:W.length+e<=s.n+s.t
 n:s.n<=20
 t:s.t<=20
 k:jn W+e<=s.t
 a:st.UC=s.t
 b:st.lg=s.n
 c:st.dep=pc W
 o:st.ord=0
 h:st.shw=0
theorem RP(r:U1 s.ts ws):iq s=G↔(Rp ws).1=.ZZ\/(Rp ws).1=.lpar:=by
 unfold iq;rw[show "not"=Rl.s .ZZ from rfl,show "("=Rl.s .lpar from rfl,r.hd.1.a6 .ZZ rfl,r.hd.1.o6 .lpar rfl];simp
theorem amg(r:U1 s.ts ws):mv s=if(Rp ws).1=.ZZ then Rl.s .ZZ else Rl.s .lpar:=by
 unfold mv;rw[show s.hd.is "key" "not"=s.hd.is "key" (Rl.s .ZZ)from rfl,r.hd.1.a6 .ZZ rfl];by_cases h:(Rp ws).1=.ZZ
 .rw[h];rfl
 .rw[TU h,SM h];rfl
theorem Uj{α:Type}{K:SH->Sx->Q Sx α}:∀(f:Nat)(s:Sx)(T:Rx)(W:SH)(ws:List<|Rl×Nat)(st:St),st.fX=.ZA->bb s T W st 0->21-s.n<=f->U1 s.ts ws ->
  (∀W' s' ws' st',s'.t=s.t->st'.fX=.ZA->bb s' T W' st' 0->((Rp ws').1≠.ZZ/\(Rp ws').1≠.lpar)->U1 s'.ts ws'->Yx (K W' s') (SV st' ws'))->Yx ((xD f s W).bind K) (SV st ws):=X5 (fun s T W ws st hd i hf r hK=>by have:=i.n;lia) fun f i_ s T W ws st hd i hf r hK=>by
  unfold xD;have hb:=i.b;have hn:=i.n;by_cases h:iq s=G
  .rw[SI h];have h':=(RP r).mp h;have ha:SG (Rp ws).1 (Rn st)=decide (s.n<20):=by
    have:Rn st=(if st.UC<20 then[.name,.name,.value]else[])++(if st.lg<20 then[.ZZ,.lpar]else[]):=by unfold Rn;rw[hd]
    rw[this,hb];by_cases h20:s.n<20
    .rw[SI h20,Th h20];rcases h' with z|z<;>rw[z]<;>split<;>rfl
    .rw[SM h20,TU h20];rcases h' with z|z<;>rw[z]<;>split<;>rfl
   by_cases h2:s.n=20
   .rw[SI h2,dU<|by rw[ha,h2];rfl,r.hd.2];exact rfl
   .rw[SM h2,k8 (by rw[ha];exact Th<|⊥) (by rcases h' with z|z<;>rw[z]<;>decide)];have hg:go st (Rp ws).1={st with lg:=st.lg+1,dep:=st.dep+(if(Rp ws).1=.lpar then 1 else 0)}:=by
     unfold go vg;rw[hd];simp only;rw[SI h']
    rw[hg];have ho:=amg r;have v:=Nh (W:=W) h;refine i_ {s.tl with n:=s.n+1} T (mv s::W) ws.tail _ hd ⟨fun x hx=>?_,by rw[v.2.2.2];exact i.j,?_,by show s.n+1<=20;lia,i.t,by rw[v.2.2.2];exact i.k,i.a,by show st.lg+1=s.n+1;lia,?_,i.o,i.h⟩ (by show 21-(s.n+1)<=f;lia) r.tl hK
    .rcases eQ.mp hx with rfl|hx
     .exact v.2.2.1
     .exact i.w x hx
    .have:=i.l;show(mv s::W).length+0<=s.n+1+s.t;simp;lia
    .show st.dep+(if(Rp ws).1=.lpar then 1 else 0)=pc (mv s::W);show _=pc W+_;rw[i.c,ho];rcases h' with z|z<;>rw[z]<;>rfl
  .rw[SM h];have h'  := fun z=>h<|(RP r).mpr z;exact hK _ _ _ _ rfl hd i ⟨fun z=>h'<|.inl z,fun z=>h'<|.inr z⟩ r
theorem Rq{s:Sx}(i:bb s T W st 1)(hb:1<=b):(aF b W T).2.length=jn (aF b W T).1+1/\(aF b W T).2.length<=T.length/\pc (aF b W T).1=pc W/\(aF b W T).1.length<=W.length/\(∀x∈(aF b W T).1,x∈W4):=by
 have hT:T.length<=900:=by have:=i.j;have:=i.k;have:=i.t;lia
 obtain⟨a,c,X,e,d⟩:=pz b hb W T i.w i.j hT;refine⟨a,c,?_,?_,fun x hx=>i.w x<|by grind⟩
 .have:=UN pc e
  rw[RY]at this
  have:¬0<pc X:=fun z=>d<|(kl X).mpr z
  lia
 grind
theorem ahp{s:Sx}(i:bb s T W st 1)(hb:("(":Str)∈W):bb s.tl (eO T W).2 (eO T W).1 {st with dep:=st.dep-1} 1/\(eO T W).1.length<W.length:=by
 refine uf (Rq i<|WV 1) fun a c d e w4=>?_;have hT:T.length<=900:=by have:=i.j;have:=i.k;have:=i.t;lia
 have tp:=rP 1 (WV 1) W T i.w i.j hT;unfold eO;cases hr:(aF 1 W T).1 with
 |nil=>
  rw[hr]at d;rw[kl,<-d]at hb;exact absurd hb<|ei 0
 |cons w r=>
  have hw:=tp w r hr;have h4:=w4 w (by rw[hr];simp);have hw:w="(":=by
   simp only[eQ,Vm,or_false]at h4;rcases h4 with rfl|rfl|rfl|rfl
   .rfl
   .have:gM "or"=1:=⊤
    lia
   .have:gM "and"=2:=⊤
    lia
   .have:gM "not"=3:=⊤
    lia
  subst hw;rw[hr]at a d e w4;have hj:jn ("("::r)=jn r:=by show(if _ then _ else _)+_=_;rw[SM<|⊤,Pm]
  rw[hj]at a;simp only[uq]at e;have h1:=i.j;have h2:=i.k;have h3:=i.l;refine⟨⟨fun x hx=>w4 x<|ie _ hx,a,?_,i.n,i.t,?_,i.a,i.b,?_,i.o,i.h⟩,?_⟩
  .show r.length+1<=s.n+s.t;lia
  .show jn r+1<=s.t;lia
  .rw[i.c,<-d];rfl
  grind
theorem Uc:∀(f:Nat)(s:Sx)(T:Rx)(W:SH)(ws:List<|Rl×Nat)(st:St),st.fX=.vI->bb s T W st 1->W.length<f->U1 s.ts ws->∃ws' st',SV st ws=SV st' ws'/\st'.fX=.vI/\bb (cls f s T W).1 (cls f s T W).2.1 (cls f s T W).2.2 st' 1/\¬(("(":Str)∈(cls f s T W).2.2/\(Rp ws').1=.rpar)/\U1 (cls f s T W).1.ts ws'/\(cls f s T W).1.t=s.t:=X5 (fun s T W ws st hd i hf r=>⊥) fun f i_ s T W ws st hd i hf r=>by
  have e:s.hd.is "sign" ")"=decide ((Rp ws).1=.rpar):=r.hd.1.o6 .rpar rfl;unfold cls;by_cases h:("(":Str)∈W/\s.hd.is "sign" ")"=G
  .rw[SI h];have hw:(Rp ws).1=.rpar:=by grind
   have hp:0<st.dep:=by rw[i.c];exact(kl W).mp h.1
   obtain⟨i',hl⟩:=ahp i h.1;have ha:Rn st=[.lb,.nj,.rpar,.rpar]:=by unfold Rn;rw[hd];exact SI hp
   have hg:go st .rpar={st with dep:=st.dep-1}:=by unfold go;rw[hd];rfl
   refine XX (i_ s.tl (eO T W).2 (eO T W).1 ws.tail {st with dep:=st.dep-1} hd i' ⊥ r.tl) fun ws' st' e1 Rt Ua vA xt eT=>?_;exact⟨ws',st',by rw[k8 (by rw[ha,hw];rfl)<|by rw[hw];decide,hw,hg];exact e1,Rt,Ua,vA,xt,eT⟩
  .rw[SM h]
   grind
theorem Sr{α:Type}{K:List D×SH->Sx->Q Sx α}(hd:st.fX=.ZA)(i:bb s T W st 0)(r:U1 s.ts ws)
  (hK:∀T' W' s' ws' st',st'.fX=.vI->bb s' T' W' st' 1->¬(("(":Str)∈W'/\(Rp ws').1=.rpar)->U1 s'.ts ws'->s'.t=s.t+1->Yx (K (T',W') s') (SV st' ws')):Yx ((oC s T W).bind K)<|SV st ws:=by
 unfold oC;rw[SL];refine Uj 30 s T W ws st hd i ⊥ r fun W' s' ws' st' ht hd' i' hn r'=>?_;rw[SL];refine alE hd' i'.a i'.t hn r' fun hlt a s2 ws2 t2 n2 r2=>?_;have i2:bb s2 (a::T) W' {st' with UC:=st'.UC+1,nx:=.vI,fX:=.vI} 1:=⟨i'.w,by simp[i'.j],by have:=i'.l;lia,by rw[n2];exact i'.n,⊥,by have:=i'.k;lia,by rw[t2,i'.a],by rw[n2,i'.b],i'.c,i'.o,i'.h⟩;have hl:W'.length<100:=by have:=i'.l;have:=i'.n;lia
 refine XX (Uc 100 s2 (a::T) W' ws2 _ rfl i2 hl r2) fun ws3 st3 e1 Rt Ua vA xt eT=>?_;rw[e1];exact hK _ _ _ _ _ Rt Ua vA xt (by rw[eT,t2,ht])
theorem UK(r:U1 s.ts ws):jB s=G↔(Rp ws).1=.lb\/(Rp ws).1=.nj:=by
 unfold jB;rw[show "and"=Rl.s .lb from rfl,show "or"=Rl.s .nj from rfl,r.hd.1.a6 .lb rfl,r.hd.1.a6 .nj rfl];simp
theorem Si{α:Type}{K:List D×SH->Sx->Q Sx α}:∀(f:Nat)(s:Sx)(T:Rx)(W:SH)(ws:List<|Rl×Nat)(st:St),st.fX=.vI->bb s T W st 1->¬(("(":Str)∈W/\(Rp ws).1=.rpar)->21-s.t<=f->U1 s.ts ws ->
  (∀T' W' s' ws' st',st'.fX=.vI->bb s' T' W' st' 1->¬(("(":Str)∈W'/\(Rp ws').1=.rpar)->((Rp ws').1≠.lb/\(Rp ws').1≠.nj)->U1 s'.ts ws'->Yx (K (T',W') s') (SV st' ws'))->Yx ((jf f s T W).bind K) (SV st ws):=X5 (fun s T W ws st hd i hp hf r hK=>by have:=i.t;lia) fun f i_ s T W ws st hd i hp hf r hK=>by
  unfold jf;by_cases h:jB s=G
  .rw[SI h];have h':=(UK r).mp h;have hg:go st (Rp ws).1={st with fX:=.ZA}:=by
    unfold go;rw[hd];rcases h' with z|z<;>rw[z]<;>rfl
   have ha:SG (Rp ws).1 (Rn st)=G:=by
    have:Rn st=if 0<st.dep then[.lb,.nj,.rpar,.rpar]else[.lb,.nj,.order,.UW]:=by unfold Rn;rw[hd]
    rw[this];rcases h' with z|z<;>rw[z]<;>split<;>rfl
   rw[k8 ha (by rcases h' with z|z<;>rw[z]<;>decide),hg,SL];refine uf (Ye h) fun hv hm hw hb hao=>?_;refine uf (Rq i hb) fun a c d e w4=>?_;have hj:jn (jW s::(aF (gM<|jW s) W T).1)=jn (aF (gM<|jW s) W T).1+1:=by show(if _ then _ else _)+_=_;rw[SI hao,Nat.add_comm]
   have hc:pc (jW s::(aF (gM<|jW s) W T).1)=pc W:=by
    show pc _+(if jW s="("then 1 else 0)=_;rw[d,SM (by rcases hao with z|z<;>rw[z]<;>decide +kernel)];rfl
   have h1:=i.j;have h2:=i.k;have h3:=i.l;refine Sr (s:=s.tl) rfl ⟨fun x hx=>?_,by rw[hj];exact a,?_,i.n,i.t,?_,i.a,i.b,by rw[hc];exact i.c,i.o,i.h⟩ r.tl fun T' W' s' ws' st' hd' i' hp' r' t'=>?_
   .grind
   .show(jW s::(aF (gM<|jW s) W T).1).length+0<=s.n+s.t;simp;lia
   .show _<=s.t;lia
   .exact i_ s' T' W' ws' st' hd' i' hp' (by have t':s'.t=s.t+1:=t';lia) r' hK
  .rw[SM h];have h'  := fun z=>h<|(UK r).mpr z;exact hK _ _ _ _ _ hd i hp ⟨fun z=>h'<|.inl z,fun z=>h'<|.inr z⟩ r
theorem a_q(r:U1 ts ws):Yx (qP ⟨ts,0,0⟩)<|SV kS ws:=by
 unfold qP;refine nL (s:=⟨ts,0,0⟩) r "key" .fh (n9.a6 (U1.hd (s:=⟨ts,0,0⟩) r).1 .fh rfl) (fun c _=>by cases c<;>rfl) ∎ fun _ r1=>?_;have r1:U1 (Sx.tl ⟨ts,0,0⟩).ts ws.tail:=r1;unfold pF;rw[SL];show Yx _<|SV {kS with fX:=.UX} _;refine Ur 2 {kS with fX:=.UX} _ _ rfl rfl ⟨rfl,rfl,rfl,rfl,rfl⟩ r1 fun a s' ws' st' i r' t' n'=>?_;rw[SL];have t':s'.t=0:=t';have n':s'.n=0:=n';refine CY (fun n c a b st=>oa n c st/\a=0/\b=0) (fun n _ _ st i=>by rw[Rr i.1];simp) (fun n st s ws i r K' hK'=>?_) (fun n ds s ws st i hc r=>?_) 2 _ _ _ _ ⟨i,t',n'⟩ r'
 .rw[sZ i.1 .comma<|∎];exact Ur n _ s ws rfl i.1.m ⟨i.1.t,i.1.o,i.1.p,i.1.q,i.1.w⟩ r fun a s' ws' st' i' r' t' n'=>hK' _ _ _ _ ⟨i',t'.trans i.2.1,n'.trans i.2.2⟩ r'
 .obtain⟨i,t0,n0⟩:=i;have ha:=Rr i;have hf:SG (Rp ws).1 (Rn st)=decide ((Rp ws).1∈([.where_,.order,.UW]:List Rl)):=by
   rw[ha];by_cases h3:(Rp ws).1=.comma
   .rw[hc h3,Th h3];simp
   .rw[TU h3];simp
  have e:=r.hd.1.a6 .where_ rfl;show Yx ((iy "where" qk .S9 s).bind fun cd s=>r2 (fun os cs tk=>D.tup [.str "ask",.tup ds,cd,os,cs,tk]) s) _;unfold iy;by_cases hw:(Rp ws).1=.where_
  .rw[SI<|by rw[show("where":Str)=Rl.s .where_ from rfl,e,Th hw],k8 (by rw[hf,hw];rfl)<|by rw[hw];decide,hw,sZ i .where_<|∎];unfold qk;rw[SL];refine Sr (st:=l0 st .where_) rfl ⟨fun _ h=>(nomatch h),rfl,Uh _,by show s.n<=20;lia,by show s.t<=20;lia,Uh _,by show st.UC=s.t;rw[i.t,t0],by show st.lg=s.n;rw[i.o,n0],i.p,i.q,i.w⟩ r.tl fun T' W' s' ws' st' hd' i' hp' r' t'=>?_
   rw[SL];refine Si 30 s' T' W' ws' st' hd' i' hp' ⊥ r' fun T2q W2q s2 ws2 st2 hd2 i2 hp2 hj2 r2'=>?_;have ha2:Rn st2=if 0<st2.dep then[.lb,.nj,.rpar,.rpar]else[.lb,.nj,.order,.UW]:=by unfold Rn;rw[hd2]
   by_cases hb:("(":Str)∈W2q
   .show Yx ((if("(":Str)∈W2q then(Q.er s2:Q Sx D)else .ok (RF T2q W2q) s2).bind _) _;rw[SI hb,dU (by
     have hdp:0<st2.dep:=by rw[i2.c];exact(kl W2q).mp hb
     rw[ha2,SI hdp];obtain⟨n1,n2⟩:=hj2;have n3:(Rp ws2).1≠.rpar:=fun z=>hp2 ⟨hb,z⟩;generalize(Rp ws2).1=c at n1 n2 n3;cases c<;>first|rfl|exact absurd rfl n1|exact absurd rfl n2|exact absurd rfl n3),r2'.hd.2]
    exact rfl
   .show Yx ((if("(":Str)∈W2q then(Q.er s2:Q Sx D)else .ok (RF T2q W2q) s2).bind _) _;rw[SM hb];have hdp:¬0<st2.dep:=by rw[i2.c];exact fun z=>hb ((kl W2q).mpr z)
    refine Vi ?_ (by unfold go;rw[hd2];rfl) (by unfold go;rw[hd2];rfl) i2.h i2.o r2';rw[ha2,SM hdp];obtain⟨n1,n2⟩:=hj2;generalize(Rp ws2).1=c at n1 n2;cases c<;>first|rfl|exact absurd rfl n1|exact absurd rfl n2
  .rw[SM<|by rw[show("where":Str)=Rl.s .where_ from rfl,e,TU hw];decide];refine Vi ?_ (sZ i .UW<|∎) (sZ i .order<|∎) i.w i.q r
   grind
def aw(l:Ru):Str:=⟨l.toArray⟩
theorem az(l:Ru):(aw l).cps.toList=l:=by simp[aw]
theorem bM(l:Ru):(aw l).length=l.length:=by rfl
theorem lu{a b:Str}(h:a.cps.toList=b.cps.toList):a=b:=by
 cases a;mright
theorem zn(z:Str):z=aw z.cps.toList:=lu (az _).symm
theorem mk_eq(h:z.cps.toList=l):z=aw l:=lu<|h.trans rfl.symm
theorem mk_inj:aw a=aw b↔a=b:=⟨fun h=>by have:=UN (fun z  => z.cps.toList) h;trivial,fun h=>by rw[h]⟩
theorem dH(a b:Str):(a++b).cps.toList=a.cps.toList++b.cps.toList:=by
 show(a.cps++b.cps).toList=_;simp
theorem Pc(a b:Ru):aw a++aw b=aw (a++b):=lu (by rw[dH,az,az,az])
theorem qe(a b:Ru)(h:a.length+b.length<=1000000):eZ (.str<|aw a) (.str<|aw b)=.ok (.str<|aw<|a++b):=by
 rw[Nd,bM,bM,SI h,Pc]
theorem Jl:lE "\""=aw [34]:=⊤
theorem CI:lE "\"\""=aw [34,34]:=⊤
theorem EG:lE ""=aw []:=⊤
theorem l32:lE " "=aw [32]:=⊤
theorem ZU:lE "-"=aw [45]:=⊤
theorem ZO:lE "0"=aw [48]:=⊤
theorem Nv:lE "none"=aw [110,111,110,101]:=⊤
theorem RX:lE "0123456789"=aw [48,49,50,51,52,53,54,55,56,57]:=⊤
theorem jE(c:Nat):(⟨#[c]⟩:Str)=aw [c]:=rfl
theorem Ri(x:Str)(c:Nat):pQ x (aw [c])=decide (x.cps.toList[0]?=J c):=by
 have h:=xA x c 0;rw[jE]at h;rw[iC];delta pQ
 mright
theorem XO(x:Str)(c:Nat):cg x (aw [c])=decide (x.cps.toList[x.length-1]?=J c):=by
 have h:=xA x c<|x.length-1;rw[jE]at h;rw[iC,decide_eq_true_eq,<-h];unfold cg;rw[oR,decide_eq_true_eq,bM];constructor
 .mright
 .exact fun⟨a,b⟩=>⟨⊥,b⟩
theorem Kl(x:Str)(c:Nat):Jo x (aw [c])=decide (c∈x.cps.toList):=PySem.StrLaws.found_one x c
theorem ub(x:Str)(c:Nat):rE (.str<|aw [c]) (.str x)=.ok (.bl<|decide (c∈x.cps.toList)):=by
 delta rE Ue;simp only[Kl,lU];rfl
theorem amr(z:Str)(h:z.length<=1000):l5 "\"" "\"\"" (.str z)=.ok (.str<|aw<|dbl z.cps.toList):=by
 unfold l5;simp only;rw[SI ⟨⊤,h,⊤⟩];congr 2;refine mk_eq ?_;rw[wF _ _ _<|⊤,Jl,CI,az,az,Ra]
theorem ams(L:Ru)(h:(dbl L).length<=1000):l5 "\"\"" "" (.str<|aw<|dbl L)=.ok (.str<|aw<|bq [] L):=by
 unfold l5;simp only;rw[SI ⟨⊤,by exact h,⊤⟩];congr 2;refine mk_eq ?_;rw[wF _ _ _<|⊤,EG,CI,az,az,az,qO]
theorem amt(L:Ru)(h:(dbl L).length<=1000):l5 "\"\"" "\"" (.str<|aw<|dbl L)=.ok (.str<|aw L):=by
 unfold l5;simp only;rw[SI ⟨⊤,by exact h,⊤⟩];congr 2;refine mk_eq ?_;rw[wF _ _ _<|⊤,Jl,CI,az,az,az,qO,zA]
theorem y0(z:Str):z.cps.toList.length=z.length:=by rfl
theorem nY(z:Str):z.cps.toList.length=z.length:=by rfl
theorem GJ(a b:Nat):(([a]:Ru)<[b])↔a<b:=by
 constructor
 .intro h;cases h with
  |rel h=>exact h
  |cons h=>nofun
 .intro h;exact List.Lex.rel h
theorem aj7(X:Ru)(a b:Nat)(h:X.length<=90000):xo (.str<|aw<|a::(X++[b])) (J 1) (J<|-1)=.ok (.str<|aw X):=by
 unfold xo;simp only;rw[bM,SI<|by simp;lia];congr 2;unfold rY;refine mk_eq ?_;rw[az,bM];have e1:HT.T5 (a::(X++[b])).length 0 (J 1)=1:=by rfl
 have Rt:HT.T5 (a::(X++[b])).length (a::(X++[b])).length (J<|-1)=X.length+1:=by
  unfold HT.T5;simp;lia
 rw[e1,Rt];simp
theorem KQ(X:Ru)(a:Nat)(h:X.length<=90000):xo (.str<|aw<|a::X) (J 1) U=.ok (.str<|aw X):=by
 delta xo;simp;rw[bM,SI<|by simp;lia];congr 2;delta rY;refine mk_eq ?_;rw[az,bM];have e1:HT.T5 (a::X).length 0 (J 1)=1:=by rfl
 have b:HT.T5 (a::X).length (a::X).length U=X.length+1:=by rfl
 rw[e1,b];simp
noncomputable def j7(c:Nat):Bool:=decide (48<=c/\c<=57)
theorem HL(c:Nat):(decide (c∈[48,49,50,51,52,53,54,55,56,57]))=j7 c:=by
 refine decide_eq_decide.mpr ((List.mem_range'_1 (s:=48) (n:=10)).trans ?_);lia
abbrev vy:D:=.str "0123456789"
noncomputable abbrev tY:D:=.tup [.str "and",.str "by",.str "down",.str "from",.str "none",.str "not",.str "or",.str "order",.str "show",.str "take",.str "where"]
def low(c:Nat):Bool:=decide (97<=c)&&decide (c<=122)
theorem HF(c:Nat)(h:x.cps.toList=[k]):C9 (.str ⟨#[c]⟩) (.str x)=.ok (.bl<|decide (k<=c)):=by
 rw[alw,h];congr 2;rw[<-decide_not];exact decide_eq_decide.mpr (by rw[GJ];simp)
theorem WB(c:Nat)(h:x.cps.toList=[k]):Mp (.str ⟨#[c]⟩) (.str x)=.ok (.bl<|decide (c<=k)):=by
 rw[aaV,h];congr 2;rw[<-decide_not];exact decide_eq_decide.mpr (by rw[GJ];simp)
theorem pv(c:Nat):fJ [.str ⟨#[c]⟩]=.ok (.bl<|low c):=aq<|ar<|wY ((HF c rfl))<|(WB c rfl)
theorem aiY(c:Nat):xZ [.str ⟨#[c]⟩]=.ok (.bl<|decide (32<=c)&&decide (c<=126)):=aq<|ar<|wY ((HF c rfl))<|(WB c rfl)
noncomputable def Jq:Se:=[.str "and",.str "by",.str "down",.str "from",.str "none",.str "not",.str "or",.str "order",.str "show",.str "take",.str "where"]
def oX(z:Str):Bool:=Eh (.str z) Jq
theorem Fc(z:Str):mI (.str z) tY=.ok (.bl<|!oX z):=rfl
def ci(z:Str):Bool:=!decide (z="")&&(decide (z.length<=8)&&(z.cps.toList.all low&&!oX z))
theorem xi(W:Ru)(a b:Nat)(d:a<=b)(f:b<=W.length)(e:W.length<=100000):xo (.str<|aw W) (J (a:Int)) (J (b:Int))=.ok (.str<|aw<|(W.drop a).take<|b-a):=by
 delta xo;simp;rw[bM,SI<|⊥];congr 2;delta rY;refine mk_eq ?_;rw[az,bM];have e1:HT.T5 W.length 0 ((a:Int))=a:=by rw[HT.rG];lia
 have c:HT.T5 W.length W.length ((b:Int))=b:=by rw[HT.rG];lia
 rw[e1,c]
theorem Yg(w:Nat->Sd)(b:∀a,B (w a)=.ok (.nx<|w<|a+1)):∀(k n j:Nat),(∀i,i<k->τ (w<|j+i)=.ok G)->τ (w<|j+k)=.ok η->k<n->cq τ B n (w j)=.ok (.nx<|w<|j+k)
 |0,n+1,j,_,hf,hn=>by
  show(τ<|w j).bind _=_;rw[show τ (w j)=_ from hf];rfl
 |k+1,n+1,j,h,hf,hn=>by
  have e (i):j+(i+1)=j+1+i:=⊥
  have c:=Yg w b k n (j+1) (fun i d=>e i▸h (i+1) ⊥) (e k▸hf) ⊥;show(τ<|w j).bind _=_;rw[show τ (w j)=_ from h 0 ∅];rw[b,e k];exact c
theorem Hr(Lq0:Ru)(a:Nat)(b:Lq0.length<=90000):xo (.str<|aw Lq0) (J (a:Int)) (J<|(a:Int)+1)=.ok (.str<|aw<|(Lq0.drop a).take 1):=by
 by_cases h:a+1<=Lq0.length
 .have:=xi Lq0 a (a+1) ∅ h ⊥
  mright
 .rw[Z24,bM,SI<|⊥];congr 2;delta rY;refine mk_eq ?_;rw[az,bM];have e1:HT.T5 Lq0.length 0 ((a:Int))=Lq0.length:=by delta HT.T5;lia
  rw[e1];simp;lia
theorem drop_one(Lq0:Ru)(a c:Nat):(Lq0.drop a).take 1=[c]↔Lq0[a]?=J c:=by
 have:Lq0[a]?=(Lq0.drop a)[0]?:=∅
 rw[this];cases Lq0.drop a with
 |nil=>simp
 |cons x r=>simp
theorem FD(Lq0:Ru)(b:Lq0.length<=90000)(P:D)(o:Option D)(p k:Nat)(e:∀i,i<k->Lq0[p+i]?=J 32)(d:Lq0[p+k]?≠J 32)(f:k<90000):
  cq (dC<|aH jp (Jm xo (ag 0) (gI<|ag 2)<|gI<|aH eZ (ag 2)<|vC<|.int 1)<|vC<|.str " ") (lz 2<|vC<|.int 1) 100000 [J<|.str<|aw Lq0,J P,J<|.int (p:Int),o]=.ok (.nx [J<|.str<|aw Lq0,J P,J<|.int ((p+k:Nat):Int),o]):=by
 have test (a:Nat):dC (aH jp (Jm xo (ag 0) (gI<|ag 2)<|gI<|aH eZ (ag 2)<|vC<|.int 1)<|vC<|.str " ") [J<|.str<|aw Lq0,P,J<|.int a,o]=.ok ((Lq0[a]?=J 32)):=by
  rw[DP,JU,show Jm xo (ag 0) (gI<|ag 2) (gI<|aH eZ (ag 2)<|vC<|.int 1) [J<|.str<|aw Lq0,P,J<|.int a,o]=_ from Hr Lq0 a b,am,sN,Za,am,jg,am,Gf];congr 1;exact decide_eq_decide.mpr<|mk_inj.trans<|drop_one Lq0 a 32
 exact Yg (fun a=>[J<|.str<|aw Lq0,P,J<|.int a,o]) (fun _=>rfl) k 100000 p (fun i c=>by rw[test,Th<|e i c]) (by rw[test,TU d]) ⊥
theorem qB(Lq0:Ru)(b:Lq0.length<=90000)(a c:Nat)(h:Lq0[a]?=J c):cR (.str<|aw Lq0) (.int (a:Int))=.ok (.str ⟨#[c]⟩):=
 U0 (by rw[bM];lia) (by exact xu h)
theorem jo(Lq0:Ru)(a:Lq0.length<=90000):cr [.str<|aw Lq0]=.ok (.int (Lq0.length:Int)):=by rw[HY,bM,SI<|⊥]
def cD(f:Nat->Bool)(R:Ru):Nat:=(R.takeWhile f).length
theorem zV(f:Nat->Bool)(R:Ru):cD f R<=R.length:=by exact(List.takeWhile_sublist f).length_le
theorem zM(f:Nat->Bool):∀(R:Ru)(i:Nat),i<cD f R->∃c,R[i]?=J c/\f c=G:=TB (fun i h=>by delta cD at h;mright) fun c r i_ i h=>by
  delta cD at h;rw[mE]at h;cases hc:f c with
  |false=>mright
  |true=>
   rw[hc]at h;mright;cases i with
   |zero=>mright
   |succ i=>obtain⟨d,h1,h2⟩:=i_ i (by delta cD;mright);mright
theorem vV(f:Nat->Bool):∀(R:Ru)(c:Nat),R[cD f R]?=J c->f c=η:=TB (fun c h=>by mright) fun d r i_ c h=>by
  delta cD at h;rw[mE]at h;cases hc:f d with
  |false=>mright
  |true=>
   rw[hc]at h;exact i_ c (by exact h)
theorem yp(f:Nat->Bool):∀R:Ru,R.take (cD f R)=R.takeWhile f:=TB (rfl) fun d r i_=>by
  delta cD;rw[mE];cases hc:f d with
  |false=>rfl
  |true=>simp;exact i_
noncomputable def tW(k:Str)(d:D)(q e:Nat):D:=.tup [.str k,d,.int (q:Int),.int (e:Int)]
def Fg(q:Nat):D:=tW "bad" .S9 q q
theorem oA(Lq0:Ru)(q i:Nat):(Lq0.drop q)[i]?=Lq0[q+i]?:=∅
theorem Bn(Lq0:Ru)(d:Lq0.length<=90000)(P:D)(o:Sd)(q:Nat)(hX:∀a c:Nat,Lq0[a]?=J c->X (J (.str<|aw Lq0)::J P::J (.int (a:Int))::o)=.ok (f c)):
  cq (mQ (dC<|aH zF (ag 2)<|aI cr<|ak (ag 0) aQ) X) (lz 2<|vC<|.int 1) 100000 (J (.str<|aw Lq0)::J P::J (.int (q:Int))::o)=.ok (.nx<|J (.str<|aw Lq0)::J P::J (.int ((q+cD f (Lq0.drop q):Nat):Int))::o):=by
 have b:=zV f<|Lq0.drop q;rw[vJ]at b;have tlt (a:Nat):mQ (dC<|aH zF (ag 2)<|aI cr<|ak (ag 0) aQ) X (J (.str<|aw Lq0)::P::J (.int a)::o)=.ok (Lq0[a]?.any f):=by
  rw[yr,show dC (aH zF (ag 2)<|aI cr<|ak (ag 0) aQ) (J (.str<|aw Lq0)::P::J (.int a)::o)=((cr [.str<|aw Lq0]).bind<|zF<|.int a).bind Xk from rfl,jo Lq0 d,am,wR,am,Gf,am,xh]
  grind
 refine Yg (fun a=>J (.str<|aw Lq0)::P::J (.int a)::o) (fun _=>rfl) _ 100000 q (fun i e=>?_) ?_ ⊥
 .obtain⟨c,h1,h2⟩:=zM f (Lq0.drop q) i e;rw[tlt,<-oA,h1,SS,h2]
 .rw[tlt,<-oA];cases hc:(Lq0.drop q)[cD f<|Lq0.drop q]? with
  |none=>rfl
  |some c=>rw[SS,vV f _ c hc]
theorem afe(L:Ru)(hl:L.length<=90000)(P:D)(o:Option D)(q:Nat)(hq:q<=L.length):
  cq (mQ (dC<|aH zF (ag 2)<|aI cr<|ak (ag 0) aQ)<|lP<|aI fJ<|ak (aH cR (ag 0)<|ag 2) aQ) (lz 2<|vC<|.int 1) 100000 [J<|.str<|aw L,J P,J<|.int (q:Int),o]=.ok (.nx [J<|.str<|aw L,J P,J<|.int ((q+cD low (L.drop q):Nat):Int),o]):=
 Bn L hl P [o] q fun a c hc=>by
  show((((cR (.str<|aw L)<|.int a).bind<|MP aQ _).bind fJ).bind L4)=_;rw[qB L hl a c hc,am,Qf,SY,am,J1,am,pv];rfl
theorem GT(Lq0:Ru)(b:Lq0.length<=90000)(P:D)(q:Nat)(e:q<=Lq0.length):
  cq (mQ (dC<|aH zF (ag 2)<|aI cr<|ak (ag 0) aQ)<|dC<|aH rE (aH cR (ag 0)<|ag 2)<|vC vy) (lz 2<|vC<|.int 1) 100000 [J<|.str<|aw Lq0,J P,J<|.int (q:Int)]=.ok (.nx [J<|.str<|aw Lq0,J P,J<|.int ((q+cD j7 (Lq0.drop q):Nat):Int)]):=
 Bn Lq0 b P [] q fun a c d=>by
  rw[DP,JU];show((((cR (.str<|aw Lq0)<|.int a).bind<|_)).bind _)=_;rw[qB Lq0 b a c d,am,sN,Za,am];delta vy;rw[jE,RX,ub,az,HL];rfl
noncomputable def bJ(L:Ru)(a:Nat):Int:=if a+cD (fun d=>d != 34) (L.drop a)<L.length then((a+cD (fun d=>d != 34) (L.drop a):Nat):Int)else -1
theorem Bl(L:Ru)(a:Nat)(h:a+cD (fun d=>d != 34) (L.drop a)<L.length):L[a+cD (fun d=>d != 34) (L.drop a)]?=J 34:=by
 have:=vV (fun d=>d != 34) (L.drop a) _ (by rw[oA,WT h])
 mright
theorem Ck(L:Ru)(a:Nat):bt (aw L) (aw [34]) (a:Int)=bJ L a:=by
 have iB (i):PySem.StrLaws.At (aw L) (aw [34]) (aw L).length i↔L[i]?=J 34:=by
  have:=xA (aw L) 34 i
  rwa [az]at this
 unfold bt bJ;rw[show fromIndex (aw L).length a=a by rfl];rcases PySem.StrLaws.occ_head_from (aw L) (aw [34]) a 1 (mK _)with⟨e,h⟩|⟨i,r,e,h1,h2,h3⟩<;>rw[e]
 .rw[SM fun z=>h _ (zQ ..)<|(iB _).mpr<|Bl L a z]
 .rw[iB]at h2;have hi:=(rW.mp h2).1;have hn:¬i<a+cD (fun d=>d != 34) (L.drop a):=fun z=>by
   obtain⟨c,q1,q2⟩:=zM (fun d=>d != 34) (L.drop a) (i-a) ⊥;mright
  have hj  := fun z=>h3 _ ⊥ z ((iB _).mpr<|Bl L a<|⊥)
  grind
noncomputable def ym:Ru->Option Nat
 |[]=>U
 | c::r=>if c=34 then (match r with
   |d::s=>if d=34 then(ym s).map (·+2)else J 1
   |[]=>J 1)else(ym r).map (·+1)
theorem za(c:Nat)(r:Ru)(h:c≠34):ym (c::r)=(ym r).map (·+1):=by rw[ym.eq_def];simp[h]
theorem S8(r:Ru):ym (34::34::r)=(ym r).map (·+2):=by rfl
theorem Tg(r:Ru)(h:r[0]?≠J 34):ym (34::r)=J 1:=by
 rw[ym.eq_def];cases r with
 |nil=>simp
 |cons d s=>
  mright
theorem Cv:∀(R:Ru),ym R=(ym<|R.drop<|cD (fun d=>d != 34) R).map (·+cD (fun d=>d != 34) R):=TB (rfl) fun c r i_=>by
  by_cases h:c=34
  .subst h
   have:cD (fun d=>d != 34) (34::r)=0:=by rfl
   rw[this];simp
  .have hr:cD (fun d=>d != 34) (c::r)=cD (fun d=>d != 34) r+1:=by unfold cD;mright
   rw[hr,List.drop_succ_cons,za c r h,i_];cases ym (r.drop<|cD (fun d=>d != 34) r)with
   |none=>rfl
   |some n=>simp;lia
abbrev jR:FT:=(mQ (dC<|aH C9 (ag 2)<|vC<|.int 0)<|dC<|aH jp (Jm xo (ag 0) (gI<|aH eZ (ag 2)<|vC<|.int 1)<|gI<|aH eZ (ag 2)<|vC<|.int 2)<|vC<|.str "\"")
abbrev EU:FS:=(rZ 2<|DN (QL fun x y i=>.int<|bt x y i) (ag 0)<|ak (vC<|.str "\"")<|ak (aH eZ (ag 2)<|vC<|.int 2) aQ)
def a7(L:Ru)(a:Nat):Int:=match ym (L.drop a)with|some n=>((a+n:Nat):Int)-1|none=>-1
theorem Am(L:Ru)(hl:L.length<=90000)(P:D):∀(n a:Nat),L.length+2<=a+n->cq jR EU (n+1) [J<|.str<|aw L,J P,J<|.int<|bJ L a]=.ok (.nx [J<|.str<|aw L,J P,J<|.int<|a7 L a])
 |n,a,hn=>by
  have neg:∀i:Int,i<0->jR [J<|.str<|aw L,J P,J<|.int i]=.ok η:=by
   intro i hi;have eg:aH C9 (ag 2) (vC<|.int 0) [J<|.str<|aw L,J P,J<|.int i]=.ok (.bl η):=by
    show C9 (.int i) (.int 0)=_;rw[GM,TU<|⊥]
   unfold jR;rw[yr,DP,eg,am,Gf,am,xh,SM MK]
  have UC:∀e:Nat,jR [J<|.str<|aw L,J P,J<|.int (e:Int)]=.ok (decide (L[e+1]?=J 34)):=by
   intro e;have eg:aH C9 (ag 2) (vC<|.int 0) [J<|.str<|aw L,J P,J<|.int (e:Int)]=.ok (.bl G):=by
    show C9 (.int (e:Int)) (.int 0)=_;rw[GM,Th<|⊥]
   unfold jR;rw[yr,DP,eg,am,Gf,am,xh,SI rfl,DP];have e1:Jm xo (ag 0) (gI<|aH eZ (ag 2)<|vC<|.int 1) (gI<|aH eZ (ag 2)<|vC<|.int 2) [J<|.str<|aw L,J P,J<|.int (e:Int)]=.ok (.str<|aw<|(L.drop<|e+1).take 1):=by
    rw[<-Hr L (e+1) (by omega)];show xo (.str<|aw L) (J<|(e:Int)+1) (J<|(e:Int)+2)=_;rw[show((e+1:Nat):Int)=(e:Int)+1 by lia,show(e:Int)+1+1=(e:Int)+2 by lia]
   rw[JU,e1,am,sN,Za,am,jg,Jl,am,Gf];congr 1;exact decide_eq_decide.mpr<|mk_inj.trans<|drop_one L (e+1) 34
  by_cases h:a+cD (fun d=>d != 34) (L.drop a)<L.length
  .have hf:bJ L a=((a+cD (fun d=>d != 34) (L.drop a):Nat):Int):=by unfold bJ;rw[SI h]
   have ht:=Cv<|L.drop a;have h34:=Bl L a h;generalize hj:cD (fun d=>d != 34) (L.drop a)=j at h hf ht h34;rw[sL]at ht;have hd:L.drop (a+j)=34::L.drop (a+j+1):=by
    rw[g5 h];congr 1;exact(rW.mp h34).2
   rw[hf];show(jR _).bind _=_;rw[UC,am];by_cases h2:L[a+j+1]?=J 34
   .rw[Th h2];have h2':a+j+1<L.length:=(rW.mp h2).1;have hd2:L.drop (a+j+1)=34::L.drop (a+j+2):=by
     rw[g5 h2'];congr 1;exact(rW.mp h2).2
    obtain⟨n,rfl⟩:∃m,n=m+1:=⟨n-1,⊥⟩;have ih:=Am L hl P n (a+j+2) ⊥;have eb:EU [J<|.str<|aw L,J P,J<|.int ((a+j:Nat):Int)]=.ok (.nx [J<|.str<|aw L,J P,J<|.int<|bJ L<|a+j+2]):=by
     have:bt (aw L) (aw [34]) (((a+j:Nat):Int)+2)=bJ L (a+j+2):=by
      rw[show((a+j:Nat):Int)+2=((a+j+2:Nat):Int) by lia,Ck]
     rw[<-this];show R.ok (Fl.nx [J<|.str<|aw L,J P,J<|.int<|bt (aw L) (lE "\"")<|((a+j:Nat):Int)+2])=_;rw[Jl]
    rw[SI rfl,eb,am];show cq jR EU (n+1) _=_;rw[ih];have er:a7 L (a+j+2)=a7 L a:=by
     unfold a7;rw[ht,hd,hd2,S8];cases ym (L.drop<|a+j+2)with
     |none=>rfl
     |some m=>simp;lia
    rw[er]
   .rw[TU h2];have er:a7 L a=((a+j:Nat):Int):=by
     unfold a7;have h3:(L.drop<|a+j+1)[0]?≠J 34:=by rw[oA,Nat.add_zero];exact h2
     rw[ht,hd,Tg _ h3];simp;lia
    rw[er];rfl
  .have hf:bJ L a=-1:=by unfold bJ;rw[SM h]
   have hr:=zV (fun d=>d != 34)<|L.drop a;rw[vJ]at hr;have er:a7 L a=-1:=by
    unfold a7;rw[Cv<|L.drop a]
    have:(L.drop a).drop (cD (fun d=>d != 34)<|L.drop a)=[]:=by rw[sL];exact List.drop_eq_nil_of_le ⊥
    rw[this];rfl
   rw[hf,er];rfl
theorem fL(h:a≠b):jp (.str a) (.str b)=.ok (.bl η):=by rw[jg,TU h]
theorem all_map(f:Nat->Bool)(l:Ru)(h:∀c∈l,f c=G):Dd [.lst<|l.map fun c=>D.bl<|f c]=.ok (.bl G):=by
 rw[abt<|BP _ _];mright
theorem Hv(z:Str)(h:ci z=G):uJ [.str z]=.ok (.bl G):=by
 delta ci at h;simp only[oR,Yl,decide_eq_true_eq,decide_eq_false_iff_not,Ve]at h;obtain⟨f,i,b,a⟩:=h;have d:cr [.str z]=.ok (.int z.length):=by rw[HY,SI<|⊥]
 have e:cF (.one 0) xa (aI fJ<|ak (ag 0) aQ) [U] (z.cps.toList.map fun c=>D.str ⟨#[c]⟩)=.ok (.lst<|z.cps.toList.map fun c=>D.bl<|low c):=
  jr _ _ rfl (by rw[nY];lia) fun c g=>(pv c)
 refine aq<|(skip<|lR rfl (lR (ao<|(fL f))<|ao<|ae (d) rfl (vQ.trans<|by grind))).trans<|ar<|pH (af (ac (e) rfl)<|all_map low _ b)<|((Fc z).trans<|by rw[a];rfl)
theorem amu(T:Ru)(hl:T.length<=40)(h:∀c∈T,32<=c/\c<=126):K4 [.str<|aw T]=.ok (.bl G):=by
 have e:cF (.one 0) xa (aI xZ<|ak (ag 0) aQ) [U] ((aw T).cps.toList.map fun c=>D.str ⟨#[c]⟩)=.ok (.lst<|(aw T).cps.toList.map fun c=>D.bl<|(32<=c)&&(c<=126)):=
  jr _ _ rfl (by rw[az];lia) fun c hc=>(aiY c)
 have el  := jo T ⊥;refine aq<|aS<|(ar<|pH (ae (el) rfl (aoS.trans<|by grind))<|af (ac (e) rfl)<|all_map (fun c=>(32<=c)&&(c<=126)) _ fun c hc=>by simp[h c hc])
theorem Ny(h:φ Y=.ok (.str z))(h2:α Y=.ok ds)(a:f z ds=r):DN f φ α Y=r:=by rw[aa9,h,am,abG,h2,am,a]
theorem JP(Lq0:Ru)(b:Lq0.length<=90000)(q:Nat)(i:q<=Lq0.length)(k:Str)(h:∀w,w=aw ((Lq0.drop q).takeWhile low)->(k="key"/\oX w=G)\/(k="name"/\ci w=G)):jK [.str<|aw Lq0,.int (q:Int)]=.ok (tW k (.str<|aw<|(Lq0.drop q).takeWhile low) q<|q+cD low (Lq0.drop q)):=by
 have d:=zV low<|Lq0.drop q;rw[vJ]at d;have e:=xi Lq0 q (q+cD low (Lq0.drop q)) ∅ (by grind) ⊥;rw[show q+cD low (Lq0.drop q)-q=cD low (Lq0.drop q) by simp,yp]at e;have h:=h _ rfl;refine aq (r:=jU _) ((bu<|au rfl).trans ((bu ((congrFun (by rfl) _).trans ((fun Lq0 b P o q i =>  Bn Lq0 b P [o] q fun a c l=>by
   show((((cR (.str (aw Lq0)) (.int a)).bind (MP aQ _)).bind fJ).bind L4)=_;rw[qB Lq0 b a c l,am,Qf,SY,am,J1,am,pv];rfl) Lq0 b (.int (q:Int)) U q i))).trans ((bu (au (stD rfl (C4 rfl) (C4 rfl) e))).trans ?_)))
 generalize aw ((Lq0.drop q).takeWhile low)=w at h;have f:dC (aH rE (ag 3)<|vC tY) [J<|D.str<|aw Lq0,J<|.int q,J<|.int<|(q+cD low (Lq0.drop q)),J<|.str w]=.ok (oX w):=rfl;rcases h with⟨rfl,j⟩|⟨rfl,g⟩
 .exact aS ((a8<|f.trans<|by rw[j]).trans rfl)
 .have d:oX w=η:=by delta ci at g;lia
  exact(skip<|f.trans<|by rw[d]).trans<|ar<|vp (eV ((Hv w g)) rfl) rfl
theorem Hf(Lq0:Ru)(b:Lq0.length<=90000)(q:Nat)(a:q+1<=Lq0.length):lV [.str<|aw Lq0,.int (q:Int)]=.ok (.int ((q+1+cD j7 (Lq0.drop<|q+1):Nat):Int)):=
 aq (((bu<|(GT Lq0 b (.int q) (q+1) a)).trans rfl))
theorem Oq(L:Ru)(hl:L.length<=90000)(q n:Nat)(ht:ym (L.drop<|q+1)=J n):pZ [.str<|aw L,.int (q:Int)]=.ok (.int ((q+1+n:Nat):Int)):=by
 have e0:QL (fun x y i=>.int<|bt x y i) (aw L) [.str<|"\"",.int<|q+1]=.ok (.int<|bJ L<|q+1):=by
  rw[<-Ck];rfl
 have lp:=Am L hl (.int q) 99999 (q+1) ⊥;have hr:a7 L (q+1)=((q+1+n:Nat))-1:=by unfold a7;rw[ht]
 refine aq<|(bu<|au<|e0).trans<|(bu<|lp).trans<|ar<|vp (ao<|(GM.trans<|by rw[Th<|⊥])) ?_;refine(ir rfl rfl).trans ?_
 grind
noncomputable def fg(Lq0:Ru):Ru:=if Lq0[0]?=J 45 then Lq0.drop 1 else Lq0
theorem Qk(Lq0:Ru):(fg Lq0).length<=Lq0.length:=by delta fg;split<;>simp
def RN(Lq0:Ru):Bool:=!(decide (fg Lq0=[])||!(fg Lq0).all j7)&&(!(decide ((fg Lq0)[0]?=J 48)&&decide (Lq0≠[48]))&&decide ((fg Lq0).length<=18))
def DE(Lq0:Ru):Int:=if Lq0[0]?=J 45 then -(Na (fg Lq0):Int)else(Na (fg Lq0):Int)
theorem Lo(Lq0:Ru)(h:RN Lq0=G):xK [.str<|aw Lq0]=.ok (.int<|DE Lq0):=by
 delta RN at h;simp only[oR,Yl,yb,decide_eq_false_iff_not,N7,Ve,decide_eq_true_eq]at h;obtain⟨⟨h1,h2⟩,j,d⟩:=h;have hd:∀c∈fg Lq0,48<=c/\c<=57:=fun c g=>by have:=h2 c g;unfold j7 at this;exact WI this
 have i:Lq0.length<=19:=by
  delta fg at d;split at d
  .simp at d;lia
  .lia
 have e:intText? (aw Lq0)=J (DE Lq0):=by
  delta DE;by_cases b:Lq0[0]?=J 45
  .rw[SI b];have f:fg Lq0=Lq0.drop 1:=by delta fg;rw[SI b]
   refine intText_neg ?_ hd h1 (by rw[bM];lia);rw[az];cases Lq0 with
   |nil=>cases b
   |cons a r=>mright
  .rw[SM b];have f:fg Lq0=Lq0:=by delta fg;rw[SM b]
   rw[f]at hd h1⊢
   have:=intText_digits (x:=aw Lq0) (by assumption) (by assumption) (by rw[bM];lia)
   assumption
 delta xK;simp;rw[e];simp only;rw[bM,SI<|⊥]
theorem GN(n:Nat):∀c∈dg n,j7 c=G:=fun c a=>by
 have:=pO a
 exact Th this
def om(i:Int)(h:i.natAbs<10^18):RN (cu i)=G/\DE (cu i)=i/\(cu i)[0]?≠J 34/\(cu i).length<=20:=by
 have l:=fun c(g:c∈cu i)=>yB g;have j:(cu i)[0]?≠J 34:=fun e=>by have:=l 34<|Do e;lia
 have a:=GN i.natAbs;have d:=zN 17 i.natAbs (by omega);have f:=M7 i.natAbs;have k:fg (cu i)=dg i.natAbs:=by
  delta fg cu;by_cases b:i<0
  .rw[SI b];rfl
  .rw[SM b,SM];intro e
   have:=pO<|Do e
   lia
 refine⟨?_,?_,j,?_⟩
 .delta RN;rw[k,TU f,Ve.mpr a,Th d]
  have:(decide ((dg i.natAbs)[0]?=J 48)&&decide (cu i≠[48]))=η:=by
   by_cases m:i=0
   .subst m
    have:cu 0=[48]:=by delta cu;rw[SM<|∎];exact fS ∅
    rw[this];simp
   .obtain⟨c,r,e,g⟩:=Kq i.natAbs (by mright);rw[e]
    have:¬(c::r)[0]?=J 48:=fun e=>g (by simpa using e)
    rw[TU this];rfl
  rw[this];rfl
 .delta DE;rw[k,Od];by_cases b:i<0
  .rw[SI<|by delta cu;rw[SI b];rfl];grind
  .rw[SM]
   .lia
   .delta cu;rw[SM b];intro e
    have:=pO<|Do e
    lia
 .delta cu
  grind
theorem xx(h:φ Y=.ok (.str<|aw Lq0))(a:y=aw [c]):lP (DN (Ly fun x y=>.bl<|pQ x y) φ<|ak (vC<|.str y) aQ) Y=.ok (decide (Lq0[0]?=J c)):=by
 refine eV (Ny h rfl (show Ly (fun x y=>.bl<|pQ x y) (aw Lq0) [.str y]=.ok (.bl<|(Lq0[0]?=c))from ?_)) rfl;show R.ok (D.bl<|pQ (aw Lq0) y)=_;rw[a,Ri,az]
theorem bhd(L:Ru)(hl:L.length<=100):MU (lP<|DN (Ly fun x y=>.bl<|pQ x y) (ag 0)<|ak (vC<|.str "-") aQ) (Jm xo (ag 0) (gI<|vC<|.int 1) Hh) (ag 0) [J<|.str<|aw L,U]=.ok (.str<|aw<|fg L):=by
 have q:=xx (Y:=[J<|.str<|aw L,U]) (φ:=ag 0) rfl ZU;unfold fg;by_cases h:L[0]?=J 45
 .rw[h];rw[h]at q;cases L with
  |nil=>simp at h
  |cons a r=>exact vp q<|(KQ r a<|by simp at hl;lia)
 .rw[SM h];rw[TU h]at q;exact B7 q rfl
theorem Bz(c:Nat):rE (.str ⟨#[c]⟩) (.str "0123456789")=.ok (.bl<|j7 c):=by rw[jE,RX,ub,az,HL]
theorem cnd(L:Ru)(h:RN L=G)(hl:L.length<=100):l9 [J<|.str<|aw L] []=.ok (.int<|DE L) []:=by
 have hf:=Qk L;have hv:=Lo L h;unfold RN at h;simp only[oR,Yl,yb,decide_eq_false_iff_not,N7,Ve,decide_eq_true_eq]at h;obtain⟨⟨h1,h2⟩,h3,h4⟩:=h;have e:cF (.one 0) xa (aH rE (ag 0)<|vC<|.str "0123456789") [U] ((aw<|fg L).cps.toList.map fun c=>D.str ⟨#[c]⟩)=.ok (.lst<|(aw<|fg L).cps.toList.map fun c=>D.bl<|j7 c):=
  jr _ _ rfl (by rw[az];lia) fun c hc=>ae rfl rfl (Bz c)
 have Rt:mQ (lP<|DN (Ly fun x y=>.bl<|pQ x y) (ag 1)<|ak (vC<|.str "0") aQ) (dC<|aH xF (ag 0)<|vC<|.str "0") [J<|.str<|aw L,J<|.str<|aw<|fg L]=.ok η:=by
  have q:=xx (Y:=[J<|.str<|aw L,J<|.str<|aw<|fg L]) (φ:=ag 1) (Lq0:=fg L) (y:="0") (c:=48) rfl ZO;by_cases h5:(fg L)[0]?=J 48
  .rw[Th h5]at q h3;have h6:L=[48]:=by simpa using h3
   exact kW q<|ao<|ae rfl rfl (CU.trans<|by rw[h6,ZO];simp)
  .rw[TU h5]at q;exact Bu q
 exact cL<|iG (aN<|bhd L hl)<|gG (aR<|lR (ao<|(fL<|by exact fun z=>h1<|mk_inj.mp z))<|qj<|eV (af (ac (e) rfl)<|all_map j7 _<|by assumption) rfl)<|gG (aR Rt)<|gG (aR<|ao<|ae ((jo (fg L)<|⊥)) rfl (vQ.trans<|by grind))<|eG<|aN<|hv
theorem sx:∀T:Ru,(dbl T).length<=2*T.length
 |[]=>by simp[dbl]
 |c::r=>by
  have:=sx r
  by_cases h:c=34
  .subst h;simp[dbl]at this⊢;lia
  .simp[dbl,h]at this⊢;lia
theorem agS(T:Ru)(hl:T.length<=40)(h:∀c∈T,32<=c/\c<=126):wX [J<|.str<|aw<|34::(dbl T++[34])] []=.ok (.str<|aw T) []:=by
 have hd:=sx T;have el:=jo (34::(dbl T++[34])) (by simp;lia);have eeq:Ly (fun x y=>.bl<|cg x y) (aw<|34::(dbl T++[34])) [.str<|lE "\""]=.ok (.bl G):=by
  show R.ok (D.bl<|cg (aw<|34::(dbl T++[34]))<|lE "\"")=_;rw[Jl,XO,az,bM,Th<|∅]
 have eiq:rE (.str<|lE "\"") (.str<|aw<|bq [] T)=.ok (.bl η):=by
  rw[Jl,ub,az,TU<|BZ T]
 exact cL<|gG (aR<|lR (ao<|ae (el) rfl (wR.trans<|by rw[TU<|by simp;lia]))<|qj<|eV (eeq) rfl)<|iG (aN<|(aj7 (dbl T) 34 34<|⊥))<|gG (aR<|ao<|ae rfl ((ams T<|⊥)) eiq)<|iG (aN<|(amt T<|⊥))<|gG (aR<|qj<|eV ((amu T hl h)) rfl) rfl
theorem ag1(i:Int)(h:i.natAbs<10^18):nz [J<|.str<|aw<|cu i] []=.ok (.int i) []:=by
 obtain⟨h1,h2,h3,h4⟩:=om i h;have r:=cnd (cu i) h1 ⊥;rw[h2]at r;have hn:aw (cu i)≠"none":=by
  rw[Nv];intro z;have e:=mk_inj.mp z
  have:=yB (c:=110) (by rw[e];simp)
  lia
 exact cL<|gG (aR<|ao<|(fL hn))<|gG (aR<|(xx rfl Jl).trans<|by grind)<|eG<|aM rfl (ka r rfl)
theorem ag5(T:Ru)(hl:T.length<=40)(h:∀c∈T,32<=c/\c<=126):nz [J<|.str<|aw<|34::(dbl T++[34])] []=.ok (.str<|aw T) []:=by
 have r:=agS T hl h;have hn:aw (34::(dbl T++[34]))≠"none":=by
  rw[Nv];intro z;have e:=mk_inj.mp z;injection e with e _
  lia
 exact cL<|gG (aR<|ao<|(fL hn))<|BS<|kR (aR<|(xx rfl Jl).trans rfl)<|eG<|aM rfl (ka r rfl)
theorem OA{mt:Str->Bool}(h:φ Y L=.ok d μ1)(a:lst nl μ1=μ2<|>Rv):sO nl P φ mt ψ Y L=.rt d μ2:=by subst a;delta sO;rw[h]
theorem yO(Lq0:Ru)(b:Lq0.length<=90000)(q e:Nat)(k:Str)(d:D)(h1:q<=e)(h2:e<=Lq0.length)(f:Sj d=G)(a:nz [J<|.str<|aw<|(Lq0.drop q).take<|e-q] []=.ok d []):Wr mG [.str<|aw Lq0,.int (q:Int),.str k,.int (e:Int)]=.ok (tW k d q e):=by
 have c:=xi Lq0 q e h1 h2 ⊥;have r:mG [J<|.str<|aw Lq0,J<|.int q,J<|.str k,J<|.int e] []=.ok (tW k d q e) []:=
  cL (OA<|B5<|bg rfl (bg (aM (bg (aN<|c) rfl)<|ka a rfl) rfl))
 delta Wr;mright
abbrev Kv:=Str×D
abbrev kN(x:Str):Kv:=("name",.str x)
abbrev kK(x:Str):Kv:=("key",.str x)
abbrev aoh(x:Str):Kv:=("sign",.str x)
theorem PK(Lq0 y:Ru)(q:Nat)(b:y≠[]):HV (aw Lq0) (aw y) (q:Int)=((Lq0.drop q).take y.length==y):=by
 delta HV;have a:fromIndex (aw Lq0).length q=q:=by rfl
 rw[a,PySem.StrLaws.subAt_eq,az,az,bM,bM];cases h:((Lq0.drop q).take y.length==y)with
 |false=>simp
 |true=>
  have:0<y.length:=by grind
  grind
noncomputable def Dy:List<|Ru:=[[60,62],[60,61],[62,61],[60],[62],[61],[44],[46],[40],[41]]
def Wg(R:Ru):Option<|Ru:=Dy.find? fun y=>R.take y.length==y
abbrev gB:FS:=(DA (lP<|DN (QL fun x y i=>.bl<|HV x y i) (ag 0)<|ak (ag 2)<|ak (ag 1) aQ) (pX<|uD<|ak (vC<|.str "sign")<|ak (ag 2)<|ak (ag 1)<|ak (aH eZ (ag 1)<|aI cr<|ak (ag 2) aQ) aQ) ld)
theorem GL(Lq0:Ru)(q:Nat)(w:Ru):∀(ys:List<|Ru)(o:Option D),(∀y∈ys,y≠[]/\y.length<=5)->(ys.find? fun y=>(Lq0.drop q).take y.length==y)=J w->cZ (.one 2) gB (ys.map fun y=>D.str<|aw y) [J<|.str<|aw Lq0,J<|.int (q:Int),o]=.ok (.rt<|tW "sign" (.str<|aw w) q<|q+w.length):=TB (fun o _ h=>by nofun) fun y r i_ o h hw=>by
  obtain⟨h1,h2⟩:=h y ∅;have b:=i_ (J<|.str<|aw y) fun x c=>h x<|ie _ c;rw[Xp,sS];show(R.ok [J<|D.str<|aw Lq0,(D.int q),(D.str<|aw y)]).bind _=_;rw[am,Ja];rw[vD]at hw;have a:lP (DN (QL fun x y i=>.bl<|HV x y i) (ag 0)<|ak (ag 2)<|ak (ag 1) aQ) [(D.str<|aw Lq0),(D.int q),(D.str<|aw y)]=.ok ((Lq0.drop q).take y.length==y):=by
   rw[<-PK Lq0 y q h1];rfl
  delta gB at b⊢;cases hb:(Lq0.drop q).take y.length==y with
  |false=>
   rw[hb]at a hw;rw[j0 a,Ov,am,v9,b hw]
  |true=>
   rw[hb]at a hw;cases hw;rw[a8 a,ar<|de<|ac rfl (ac rfl (ac rfl (ac (ae rfl ((jo w<|⊥)) Z8) rfl)))];rfl
theorem LR(Lq0:Ru)(q:Nat)(w:Ru)(h:Wg (Lq0.drop q)=J w):vh [.str<|aw Lq0,.int (q:Int)]=.ok (tW "sign" (.str<|aw w) q<|q+w.length):=by
 have a:=GL Lq0 q w Dy U ∎ h;exact aq<|aS<|a
inductive Sp:Kv->Ru->Prop
 |key (w:Ru) (hn:w≠[]) (h:∀c∈w,low c=G) (hr:oX (aw w)=G):Sp (kK<|aw w) w
 |name (w:Ru) (hn:w≠[]) (h:∀c∈w,low c=G) (hr:ci (aw w)=G):Sp (kN<|aw w) w
 |num (i:Int) (h:i.natAbs<10^18):Sp ("number",.int i) (cu i)
 |txt (T:Ru) (hl:T.length<=40) (h:∀c∈T,32<=c/\c<=126):Sp ("text",.str<|aw T) (34::(dbl T++[34]))
 |sgn (y:Ru) (h:y∈Dy):Sp (aoh<|aw y) y
def bh(w b:Ru):Bool:=match b with
 |[]=>G
 |c::_=>match w with
  |[]=>η
  |a::r=>if low a then !low c else if j7 a||a==45 then !j7 c else if a==34 then c != 34 else !(r.isEmpty&&(a==60&&(c==61||c==62)||a==62&&c==61))
theorem Ma(y b:Ru)(h:y∈Dy)(a:bh y b=G):Wg (y++b)=J y:=by
 simp only[Dy,eQ,Vm,or_false]at h;rcases h with rfl|rfl|rfl|rfl|rfl|rfl|rfl|rfl|rfl|rfl<;>cases b<;>first|rfl|simp_all[Wg,Dy,bh,low,j7,vD]
theorem xk(y:Ru)(h:y∈Dy):∃c r,y=c::r/\low c=η/\j7 c=η/\c≠45/\c≠34/\c≠32:=by
 simp only[Dy,eQ,Vm,or_false]at h;rcases h with rfl|rfl|rfl|rfl|rfl|rfl|rfl|rfl|rfl|rfl<;>exact⟨_,_,rfl,∎⟩
theorem zG(f:Nat->Bool):∀(w b:Ru),(∀c∈w,f c=G)->(∀c,b[0]?=J c->f c=η)->(w++b).takeWhile f=w
 |[],[],_,_=>rfl
 |[],c::r,_,h=>by
  mright
 |x::w,b,hw,h=>by
  rw[yG,mE,hw x<|∅,SI rfl,zG f w b (fun c a=>hw c<|ie _ a) h]
theorem Cn:∀(T b:Ru),b[0]?≠J 34->ym (dbl T++34::b)=J ((dbl T).length+1):=TB (fun b h=>Tg b h) fun c r i_ b h=>by
  have ih:=i_ b h;by_cases hc:c=34
  .subst hc;show ym (34::34::(dbl r++34::b))=_;rw[S8,ih];rfl
  .have:dbl (c::r)=c::dbl r:=by simp[dbl,hc]
   rw[this];show ym (c::(dbl r++34::b))=_;rw[za c _ hc,ih];rfl
theorem GI(h:low c=G):c≠32:=fun z=>by subst z;exact absurd h ∎
theorem gu(i:Int):∃c r,cu i=c::r/\(∀d∈r,j7 d=G)/\(j7 c||decide (c=45))=G/\low c=η/\c≠32:=by
 have a:=GN i.natAbs;delta cu;by_cases b:i<0
 .rw[SI b];exact⟨45,_,rfl,a,rfl,rfl,∎⟩
 .rw[SM b];cases hd:dg i.natAbs with
  |nil=>exact absurd hd<|M7 _
  |cons c r=>
   have:c∈dg i.natAbs:=by rw[hd];simp
   have:=pO this
   delta low
   grind
theorem Sp.head(h:Sp x w):∃c r,w=c::r/\c≠32:=by
 cases h with
 |key w hn h hr=>cases w with|nil=>grind|cons c r=>exact⟨c,r,rfl,GI<|h c<|∅⟩
 |name w hn h hr=>cases w with|nil=>grind|cons c r=>exact⟨c,r,rfl,GI<|h c<|∅⟩
 |num i h=>refine y2 (gu i) fun c r e _ _ _ h=>?_;exact⟨c,r,e,h⟩
 |txt T hl h=>grind
 |sgn y h=>refine XX (xk _ h) fun c r e _ _ _ _ h=>?_;exact⟨c,r,e,h⟩
theorem Tp:cq τ B (Tb.w<|UX T67.tB T67.tE (Ac.x T67.ZL) T67.oY [])=cq τ B 100000:=by rfl
theorem Im(Lq0:Ru)(d:Lq0.length<=80000)(p k:Nat)(b:p+k=Lq0.length)(c:∀i,i<k->Lq0[p+i]?=J 32):lK [.str<|aw Lq0,.int (p:Int)]=.ok (tW "end" .S9 Lq0.length Lq0.length):=by
 have e:=FD Lq0 ⊥ (.int p) U p k c (by rw[b];simp) ⊥;have a:=jo Lq0 ⊥;exact aq<|((bu<|e).trans<|aS<|(a8<|ao<|ae rfl (a) (GM.trans<|by mright)).trans<|ar<|de<|ac rfl (ac rfl (ac (a)<|ac (a) rfl)))
theorem GC(L:Ru)(hl:L.length<=80000)(p k:Nat)(hb:∀i,i<k->L[p+i]?=J 32)(hS:Sp x w)(b:Ru)(hd:L.drop (p+k)=w++b)(hB:bh w b=G):lK [.str<|aw L,.int (p:Int)]=.ok (tW x.1 x.2 (p+k)<|p+k+w.length):=by
 obtain⟨c,r,ew,hc⟩:=hS.head;have h0:L[p+k]?=J c:=by
  have:=oA L (p+k) 0
  rw[hd,ew]at this;simpa using this.symm
 have hlen:L.length=p+k+w.length+b.length:=by
  have:=UN vP hd
  rw[vJ,LX]at this
  have:p+k<L.length:=(rW.mp h0).1
  lia
 have hw1:1<=w.length:=by rw[ew];simp
 have e:=FD L ⊥ (.int (p:Int)) U p k hb (by rw[h0];simpa using hc) ⊥;have el:=jo L ⊥;have ex:=qB L ⊥ (p+k) c h0;generalize hq:p+k=q at *;refine aq (r:=pI _)<|(bu<|au rfl).trans<|(bu<|(congrFun Tp _).trans e).trans<|(skip<|ao<|ae rfl (lf rfl el) (GM.trans<|by rw[TU<|⊥])).trans<|(bu<|au<|ae rfl rfl ex).trans ?_;have tLq:∀z,low c=z->lP (aI fJ<|ak (ag 3) aQ) [J<|D.str<|aw L,J<|D.int (p:Int),J<|D.int (q:Int),J<|D.str ⟨#[c]⟩]=.ok z:=fun z hz=>eV (af (ac rfl rfl)<|pv c) (by rw[hz];rfl);have tN:∀z,(j7 c||decide (c=45))=z->KF (dC<|aH rE (ag 3)<|vC<|.str "0123456789") (dC<|aH jp (ag 3)<|vC<|.str "-") [J<|D.str<|aw L,J<|D.int (p:Int),J<|D.int (q:Int),J<|D.str ⟨#[c]⟩]=.ok z:=fun z hz=>by
  have e1:dC (aH rE (ag 3)<|vC<|.str "0123456789") [J<|D.str<|aw L,J<|D.int (p:Int),J<|D.int (q:Int),J<|D.str ⟨#[c]⟩]=.ok (j7 c):=ao<|ae rfl rfl (Bz c);have Rt:dC (aH jp (ag 3)<|vC<|.str "-") [J<|D.str<|aw L,J<|D.int (p:Int),J<|D.int (q:Int),J<|D.str ⟨#[c]⟩]=.ok (decide (c=45)):=ao<|ae rfl rfl (by rw[jE,ZU,jg];congr 2;exact decide_eq_decide.mpr<|mk_inj.trans<|∅);cases h:j7 c with
  |true=>rw[h]at e1 hz;rw[<-hz];exact P7 e1
  |false=>rw[h]at e1 hz;exact lR e1 (by rw[Rt,<-hz];rfl)
 have tT:∀z,decide (c=34)=z->dC (aH jp (ag 3)<|vC<|.str "\"") [J<|D.str<|aw L,J<|D.int (p:Int),J<|D.int (q:Int),J<|D.str ⟨#[c]⟩]=.ok z:=fun z hz=>ao<|ae rfl rfl (by rw[jE,Jl,jg,<-hz];congr 2;exact decide_eq_decide.mpr<|mk_inj.trans<|∅);have lows:∀k':Str,(∀c∈w,low c=G)->((k'="key"/\oX (aw w)=G)\/(k'="name"/\ci (aw w)=G))->jK [.str<|aw L,.int (q:Int)]=.ok (tW k' (.str<|aw w) q<|q+w.length):=fun k' ha hk=>by
  have et:(L.drop q).takeWhile low=w:=by
   rw[hd];refine zG low w b ha fun d hd'=>?_;cases b with
   |nil=>simp at hd'
   |cons d' b=>
    have hd':d'=d:=by simpa using hd'
    subst hd';rw[ew]at hB
    have:low c=G:=ha c (by rw[ew];simp)
    simpa[bh,this]using hB
  have:=JP L ⊥ q ⊥ k' (by rw[et];rintro _ rfl;exact hk)
  unfold cD at this;rw[et]at this;exact this
 cases hS with
 |key w hn h hr=>exact aS<|(a8<|tLq G<|h c<|by rw[ew];simp).trans<|ar<|af (ac rfl (ac rfl rfl))<|lows "key" h<|.inl ⟨rfl,hr⟩
 |name w hn h hr=>exact aS<|(a8<|tLq G<|h c<|by rw[ew];simp).trans<|ar<|af (ac rfl (ac rfl rfl))<|lows "name" h<|.inr ⟨rfl,hr⟩
 |num i h=>
  refine y2 (gu i) fun c' r' e' hr' hn' hl' _=>?_;obtain⟨rfl,rfl⟩:c'=c/\r'=r:=by rw[e']at ew;simpa using ew
  have er:cD j7 (L.drop<|q+1)=r'.length:=by
   have:L.drop (q+1)=r'++b:=by rw[<-sL,hd,e'];rfl
   rw[this];unfold cD;rw[zG j7 r' b hr' fun d hd'=>?_];cases b with
   |nil=>simp at hd'
   |cons d' b=>
    have hd':d'=d:=by simpa using hd'
    subst hd';rw[e']at hB;have hn2:(j7 c'||c'==45)=G:=by simpa using hn'
    simpa[bh,hl',hn2]using hB
  have fe:=Hf L ⊥ q ⊥;have Ua:q+1+r'.length=q+(cu i).length:=by rw[e',uq];lia
  rw[er,Ua]at fe;have va:=yO L ⊥ q (q+(cu i).length) "number" (.int i) ⊥ ⊥ rfl (by
   rw[show q+(cu i).length-q=(cu i).length by lia,hd,List.take_left];exact ag1 i h)
  exact(skip<|tLq η hl').trans<|aS<|(a8<|tN G hn').trans<|ar<|af (ac rfl (ac rfl (ac rfl (ac (af (ac rfl (ac rfl rfl)) fe) rfl)))) va
 |txt T hT h=>
  obtain⟨rfl,_⟩:34=c/\dbl T++[34]=r:=by simpa using ew
  have hd2:L.drop (q+1)=dbl T++34::b:=by rw[<-sL,hd];simp
  have te:=Oq L ⊥ q ((dbl T).length+1) (by
   rw[hd2];refine Cn T b fun z=>?_;cases b with
   |nil=>simp at z
   |cons d' b=>
    have z:d'=34:=by simpa using z
    subst z;simp[bh,low,j7]at hB)
  have Ua:q+1+((dbl T).length+1)=q+(34::(dbl T++[34])).length:=by simp;lia
  rw[Ua]at te;have va:=yO L ⊥ q (q+(34::(dbl T++[34])).length) "text" (.str<|aw T) ⊥ ⊥ rfl (by
   rw[show q+(34::(dbl T++[34])).length-q=(34::(dbl T++[34])).length by lia,hd,List.take_left];exact ag5 T hT h)
  exact(skip<|tLq η rfl).trans<|(skip<|tN η rfl).trans<|aS<|(a8<|tT G rfl).trans<|ar<|af (ac rfl (ac rfl (ac rfl (ac (af (ac rfl (ac rfl rfl)) te) rfl)))) va
 |sgn y h=>
  refine XX (xk _ h) fun c' r' e' h1 h2 h3 h4 _=>?_;obtain⟨rfl,rfl⟩:c'=c/\r'=r:=by rw[e']at ew;simpa using ew
  have sa:=LR L q w (by rw[hd];exact Ma w b h hB);exact(skip<|tLq η h1).trans<|(skip<|tN η<|by mright).trans<|(skip<|tT η<|TU h4).trans<|ar<|sa
theorem Sp.mid(h:Sp x w):qp x.1/\Dl x.2/\(x.1="number"->∃i,x.2=.int i)/\(x.1="sign"->∃y,x.2=.str y):=by
 have n1:∀k∈(["key","name","number","text","sign"]:SH),qp k:=by unfold qp;decide +kernel
 have n2:∀k∈(["key","name","text","sign"]:SH),k≠"number":=⊤
 have n3:("number":Str)≠"sign":=⊤
 cases h with
 |key w hn h hr=>exact⟨n1 "key"<|∅,.inr<|.inr ⟨_,rfl⟩,fun z=>absurd z<|n2 "key"<|∅,fun _=>⟨_,rfl⟩⟩
 |name w hn h hr=>exact⟨n1 "name"<|∅,.inr<|.inr ⟨_,rfl⟩,fun z=>absurd z<|n2 "name"<|∅,fun _=>⟨_,rfl⟩⟩
 |num i h=>exact⟨n1 "number"<|∅,.inr<|.inl ⟨_,rfl⟩,fun _=>⟨_,rfl⟩,fun z=>absurd z n3⟩
 |txt T hl h=>exact⟨n1 "text"<|∅,.inr<|.inr ⟨_,rfl⟩,fun z=>absurd z<|n2 "text"<|∅,fun _=>⟨_,rfl⟩⟩
 |sgn y h=>exact⟨n1 "sign"<|∅,.inr<|.inr ⟨_,rfl⟩,fun z=>absurd z<|n2 "sign"<|∅,fun _=>⟨_,rfl⟩⟩
theorem Nz(h:lK [.str z,.int p]=.ok (tW k d q e))(hk:k≠"end")(he:e<=900):dt [.str z,.int p]=.ok (tW k d q e):=
 aq ((bu<|au<|h).trans<|(skip<|kW (ao<|(CU.trans<|by mright))<|ao<|(vQ.trans<|by grind)).trans rfl)
theorem Ox(h:lK [.str z,.int p]=.ok (tW k d q e))(a:k≠"end")(b:900<e):dt [.str z,.int p]=.ok (tW "bad" .S9 q q):=
 aq ((bu<|au<|h).trans<|aS<|(a8<|kW (ao<|(vE.trans<|by mright))<|ao<|(vQ.trans<|by grind)).trans rfl)
theorem AH(h:lK [.str z,.int p]=.ok (tW "end" d q e)):dt [.str z,.int p]=.ok (tW "end" d q e):=
 aq ((bu<|au<|h).trans rfl)
structure It where
 b:Nat
 x:Kv
 c:Rl
 w:Ru
def txt(Z:Ru):List It->Ru
 |[]=>Z
 |i::r=>Ut i.b 32++(i.w++txt Z r)
structure D1(i:It):Prop where
 s:Sp i.x i.w
 o:∀a b,n9 i.c ⟨i.x.1,i.x.2,a,b⟩
def Good(Z:Ru):List It->Prop
 |[]=>True
 |i::r=>D1 i/\bh i.w (txt Z r)=G/\Good Z r
noncomputable def toks(z:Nat->Tok):Nat->List It->List Tok
 |p,[]=>[z p]
 |p,i::r=>if p+i.b+i.w.length<=900 then⟨i.x.1,i.x.2,p+i.b,p+i.b+i.w.length⟩::toks z (p+i.b+i.w.length) r else[⟨"bad",.S9,p+i.b,p+i.b⟩]
noncomputable def jP(e:Nat->Rl×Nat):Nat->List It->List (Rl×Nat)
 |p,[]=>[e p]
 |p,i::r=>if p+i.b+i.w.length<=900 then(i.c,p+i.b)::jP e (p+i.b+i.w.length) r else[(.Fg,p+i.b)]
structure nP(Z:Ru)(z:Nat->Tok)(e:Nat->Rl×Nat):Prop where
 r:∀A:Ru,(A++Z).length<=80000->dt [.str<|aw<|A++Z,.int (A.length:Int)]=.ok (z A.length).d
 k:∀p,((z p).k="end"\/(z p).k="bad")/\Dl (z p).v
 a:∀p,(z p).a<=p+Z.length
 o:∀p,n9 (e p).1 (z p)/\(e p).2=(z p).a
theorem QC{w:Tok}(h:w.k="end"\/w.k="bad"):zp w:=by
 have n:∀k∈(["end","bad"]:SH),k≠"number"/\k≠"sign":=⊤
 have h:w.k∈(["end","bad"]:SH):=by simpa using h
 exact⟨fun z=>absurd z (n _ h).1,fun z=>absurd z (n _ h).2⟩
theorem RG(p q:Nat):n9 .Fg ⟨"bad",.S9,p,q⟩:=⟨rfl,fun z=>absurd rfl z,(fun z=>nomatch z),(fun z=>nomatch z),∎⟩
theorem akv(p q:Nat):n9 .end_ ⟨"end",.S9,p,q⟩:=⟨rfl,fun z=>absurd rfl z,(fun z=>nomatch z),(fun z=>nomatch z),∎⟩
theorem HX(A B:Ru)(k i:Nat)(h:i<k):(A++(Ut k 32++B))[A.length+i]?=J 32:=by
 rw[nN<|∅,show A.length+i-A.length=i by simp,uy<|by simpa using h,yg,SI h]
theorem Iw(E:nP Z z e):∀(r:List It)(A:Ru),Good Z r->(A++txt Z r).length<=80000->∃w ts,toks z A.length r=w::ts/\dt [.str<|aw<|A++txt Z r,.int (A.length:Int)]=.ok w.d/\Ch (aw<|A++txt Z r) (w::ts)/\(∀w'∈w::ts,zp w')/\U1 (w::ts) (jP e A.length r):=TB (fun A _ hl=>by
  have hk:=E.k A.length;have ho:=E.o A.length;have ha:=E.a A.length;rw[LX]at hl;have hl2:(txt Z []).length=Z.length:=rfl;refine⟨z A.length,[],rfl,E.r A<|by rw[LX];lia,.last _ hk.1 hk.2<|⊥,fun w' hw'=>?_,?_⟩
  .rw[IF.mp hw'];exact QC hk.1
  .show U1 [z A.length] [((e A.length).1,(e A.length).2)];rw[ho.2];exact .cons ho.1 .nil) fun i r i_ A hGq hl=>by
  obtain⟨hI,hB,hGq⟩:=hGq;have hS:=hI.s;refine Xl hS.mid fun hm hv hn hs=>?_;have hl':(A++txt Z (i::r)).length=A.length+i.b+i.w.length+(txt Z r).length:=by simp[txt];lia
  have e1:=GC (A++txt Z (i::r)) hl A.length i.b (fun j hj=>HX A _ i.b j hj) hS (txt Z r) (by
   show(A++(Ut i.b 32++(i.w++txt Z r))).drop (A.length+i.b)=_;rw[<-Vw,<-show(A++Ut i.b 32).length=A.length+i.b by simp,List.drop_left]) hB
  unfold toks jP;by_cases h9:A.length+i.b+i.w.length<=900
  .rw[SI h9,SI h9];have iB:A++txt Z (i::r)=(A++(Ut i.b 32++i.w))++txt Z r:=by simp[txt]
   have hAl:(A++(Ut i.b 32++i.w)).length=A.length+i.b+i.w.length:=by simp;lia
   refine y2 (i_ (A++(Ut i.b 32++i.w)) hGq (by rw[<-iB];exact hl)) fun w' ts et ef ec ekq er=>?_;rw[hAl]at et ef er;rw[<-iB]at ef ec;rw[et];refine⟨_,_,rfl,Nz e1 hm.1 h9,?_,?_,?_⟩
   .exact .more _ _ _ hv (by show A.length+i.b<_;lia) ef ec
   .intro t ht;rcases eQ.mp ht with rfl|ht
    .exact⟨hn,hs⟩
    .exact ekq t ht
   .exact .cons (hI.o _ _) er
  .rw[SM h9,SM h9];refine⟨_,_,rfl,Ox e1 hm.1<|⊥,.last _ (.inr rfl) (.inl rfl)<|by grind,fun w' hw'=>?_,.cons (RG _ _) .nil⟩;rw[IF.mp hw'];exact QC<|.inr rfl
theorem Ld(E:nP Z z e)(r:List It)(hGq:Good Z r)(hl:(txt Z r).length<=80000):kY (aw<|txt Z r) (toks z 0 r)/\U1 (toks z 0 r) (jP e 0 r):=by
 obtain⟨w,ts,e1,f,c,k,o⟩:=Iw E r [] hGq hl;have e':toks z 0 r=w::ts:=e1;exact⟨⟨e'▸c,e'▸k,by rw[e'];exact f⟩,e'▸o⟩
def aoQ(m p:Nat):Tok:=⟨"end",.S9,p+m,p+m⟩
def E3(m p:Nat):Rl×Nat:=(.end_,p+m)
theorem SD(m:Nat):nP (Ut m 32) (aoQ m)<|E3 m:=by
 refine⟨fun A hl=>?_,fun p=>⟨.inl rfl,.inl rfl⟩,fun p=>by show p+m<=_;simp,fun p=>⟨akv _ _,rfl⟩⟩;have hl':(A++Ut m 32).length=A.length+m:=∅
 have e:=AH (Im (A++Ut m 32) hl A.length m hl'.symm fun i hi=>by
  have:=HX A [] m i hi
  rwa [Wz]at this)
 rw[hl']at e;exact e
def m3(k p:Nat):Tok:=⟨"bad",.S9,p+k,p+k⟩
def mm(k p:Nat):Rl×Nat:=(.Fg,p+k)
theorem afU(h:lK [.str z,.int p]=.ok (tW "bad" .S9 q q)):dt [.str z,.int p]=.ok (tW "bad" .S9 q q):=by
 by_cases he:q<=900
 .exact Nz h ⊤ he
 .exact Ox h ⊤ ⊥
theorem aj1(k:Nat)(Y:Ru)(h:∀A:Ru,(A++(Ut k 32++Y)).length<=80000->lK [.str<|aw<|A++(Ut k 32++Y),.int (A.length:Int)]=.ok (tW "bad" .S9 (A.length+k)<|A.length+k)):nP (Ut k 32++Y) (m3 k)<|mm k:=
 ⟨fun A hl=>afU<|h A hl,fun p=>⟨.inr rfl,.inl rfl⟩,fun p=>by show p+k<=_;simp,fun p=>⟨RG _ _,rfl⟩⟩
theorem Q9(L:Ru)(q:Nat):∀(ys:List<|Ru)(o:Option D),(∀y∈ys,y≠[]/\y.length<=5)->(ys.find? fun y=>(L.drop q).take y.length==y)=U->∃o',cZ (.one 2) gB (ys.map fun y=>D.str<|aw y) [J<|.str<|aw L,J<|.int (q:Int),o]=.ok (.nx [J<|.str<|aw L,J<|.int (q:Int),o']):=TB (fun o _ _=>⟨o,rfl⟩) fun y r i_ o h hw=>by
  obtain⟨h1,h2⟩:=h y ∅;rw[vD]at hw;cases hb:(L.drop q).take y.length==y with
  |true=>mright
  |false=>
   rw[hb]at hw;obtain⟨o',ih⟩:=i_ (J<|.str<|aw y) (fun x hx=>h x<|ie _ hx) hw;refine⟨o',?_⟩;rw[Xp,sS];show(R.ok [J<|D.str<|aw L,(D.int q),(D.str<|aw y)]).bind _=_;rw[am,Ja];have et:lP (DN (QL fun x y i=>.bl<|HV x y i) (ag 0)<|ak (ag 2)<|ak (ag 1) aQ) [(D.str<|aw L),(D.int q),(D.str<|aw y)]=.ok ((L.drop q).take y.length==y):=by
    rw[<-PK L y q h1];rfl
   unfold gB at ih⊢;rw[hb]at et;rw[j0 et,Ov,am,v9,ih]
theorem aij(L:Ru)(q:Nat)(h:Wg (L.drop q)=U):vh [.str<|aw L,.int (q:Int)]=.ok (Fg q):=by
 obtain⟨o',el⟩:=Q9 L q Dy U ∎ h;exact aq<|(bu<|(el)).trans rfl
theorem sIx(L:Ru)(hl:L.length<=90000)(q:Nat)(hq:q<=L.length)(hr:oX (aw<|(L.drop q).takeWhile low)=η)(hn:uJ [.str<|aw<|(L.drop q).takeWhile low]=.ok (.bl η)):jK [.str<|aw L,.int (q:Int)]=.ok (Fg q):=by
 have h:=zV low<|L.drop q;rw[vJ]at h;have e:=xi L q (q+cD low (L.drop q)) ⊥ ⊥ ⊥;rw[show q+cD low (L.drop q)-q=cD low (L.drop q) by lia,yp]at e;refine aq<|((bu<|(afe L hl (.int q) U q hq)).trans<|(bu<|au<|e).trans ?_);generalize aw ((L.drop q).takeWhile low)=w at hr hn;have ekq:dC (aH rE (ag 3)<|vC tY) [(D.str<|aw L),J<|.int q,J<|.int<|(q+cD low (L.drop q)),J<|.str w]=.ok (oX w):=rfl;exact(skip<|ekq.trans<|by rw[hr]).trans<|ar<|B7 (eV hn rfl) rfl
theorem Aq(L:Ru)(hl:L.length<=90000)(q e:Nat)(k:Str)(h1:q<=e)(h2:e<=L.length)(hr:nz [J<|.str<|aw<|(L.drop q).take<|e-q] []=.er "BadValue" []):Wr mG [.str<|aw L,.int (q:Int),.str k,.int (e:Int)]=.ok (Fg q):=by
 have c:=xi L q e h1 h2 ⊥;have r:mG [J<|.str<|aw L,J<|.int q,J<|.str k,J<|.int e] []=.ok (Fg q) []:=by
  refine cL (ψ:=sO _ _ _ _ _) ?_;unfold sO;rw[ag0<|O6 rfl (Bg<|aM (bg (aN c) rfl)<|vS hr rfl)];rfl
 unfold Wr;mright
theorem m4(L:Ru)(hl:L.length<=80000)(p k:Nat)(hb:∀i,i<k->L[p+i]?=J 32)(c:Nat)(r:Ru)(hd:L.drop (p+k)=c::r)(hc:c≠32)
  (H:(low c=G/\jK [.str<|aw L,.int ((p+k:Nat):Int)]=.ok (Fg<|p+k))\/(low c=η/\(j7 c||decide (c=45))=G/\∃e:Nat,lV [.str<|aw L,.int ((p+k:Nat):Int)]=.ok (.int (e:Int))/\Wr mG [.str<|aw L,.int ((p+k:Nat):Int),.str "number",.int (e:Int)]=.ok (Fg<|p+k)) \/
   (c=34/\∃e:Nat,pZ [.str (aw L),.int ((p+k:Nat):Int)]=.ok (.int (e:Int))/\Wr mG [.str (aw L),.int ((p+k:Nat):Int),.str "text",.int (e:Int)]=.ok (Fg (p+k)))\/(low c=η/\(j7 c||decide (c=45))=η/\c≠34/\vh [.str (aw L),.int ((p+k:Nat):Int)]=.ok (Fg (p+k)))):
  lK [.str<|aw L,.int (p:Int)]=.ok (Fg<|p+k):=by
 have h0:L[p+k]?=J c:=by
  have:=oA L (p+k) 0
  rw[hd]at this;simpa using this.symm
 have hlt:p+k<L.length:=(rW.mp h0).1;have e:=FD L ⊥ (.int (p:Int)) U p k hb (by rw[h0];simpa using hc) ⊥;have el:=jo L ⊥;have ex:=qB L ⊥ (p+k) c h0;generalize hq:p+k=q at *;refine aq (r:=pI _)<|(bu<|au rfl).trans<|(bu<|(congrFun Tp _).trans e).trans<|(skip<|ao<|ae rfl (lf rfl el) (GM.trans<|by rw[TU<|⊥])).trans<|(bu<|au<|ae rfl rfl ex).trans ?_;have tLq:∀z,low c=z->lP (aI fJ<|ak (ag 3) aQ) [J<|D.str<|aw L,J<|D.int (p:Int),J<|D.int (q:Int),J<|D.str ⟨#[c]⟩]=.ok z:=fun z hz=>eV (af (ac rfl rfl)<|pv c) (by rw[hz];rfl);have tN:∀z,(j7 c||decide (c=45))=z->KF (dC<|aH rE (ag 3)<|vC<|.str "0123456789") (dC<|aH jp (ag 3)<|vC<|.str "-") [J<|D.str<|aw L,J<|D.int (p:Int),J<|D.int (q:Int),J<|D.str ⟨#[c]⟩]=.ok z:=fun z hz=>by
  have e1:dC (aH rE (ag 3)<|vC<|.str "0123456789") [J<|D.str<|aw L,J<|D.int (p:Int),J<|D.int (q:Int),J<|D.str ⟨#[c]⟩]=.ok (j7 c):=ao<|ae rfl rfl (Bz c);have Rt:dC (aH jp (ag 3)<|vC<|.str "-") [J<|D.str<|aw L,J<|D.int (p:Int),J<|D.int (q:Int),J<|D.str ⟨#[c]⟩]=.ok (decide (c=45)):=ao<|ae rfl rfl (by rw[jE,ZU,jg];congr 2;exact decide_eq_decide.mpr<|mk_inj.trans<|∅);cases h:j7 c with
  |true=>rw[h]at e1 hz;rw[<-hz];exact P7 e1
  |false=>rw[h]at e1 hz;exact lR e1 (by rw[Rt,<-hz];rfl)
 have tT:∀z,decide (c=34)=z->dC (aH jp (ag 3)<|vC<|.str "\"") [J<|D.str<|aw L,J<|D.int (p:Int),J<|D.int (q:Int),J<|D.str ⟨#[c]⟩]=.ok z:=fun z hz=>ao<|ae rfl rfl (by rw[jE,Jl,jg,<-hz];congr 2;exact decide_eq_decide.mpr<|mk_inj.trans<|∅);rcases H with⟨h1,h2⟩|⟨h1,h2,e,h3,h4⟩|⟨rfl,e,h3,h4⟩|⟨h1,h2,h3,h4⟩
 .exact aS ((a8<|tLq G h1).trans<|ar<|af (ac rfl (ac rfl rfl)) h2)
 .exact(skip<|tLq η h1).trans (aS<|(a8<|tN G h2).trans<|ar<|af (ac rfl (ac rfl (ac rfl (ac (af (ac rfl (ac rfl rfl)) h3) rfl)))) h4)
 .exact((skip<|tN η rfl).trans<|aS<|(ar<|af (ac rfl (ac rfl (ac rfl (ac (af (ac rfl (ac rfl rfl)) h3) rfl)))) h4))
 .exact(skip<|tLq η h1).trans ((skip<|tN η h2).trans<|(skip<|tT η<|TU h3).trans<|ar<|h4)
theorem rv1:nz [J<|.str<|aw [45]] []=.er "BadValue" []:=by ext
theorem rv2:nz [J<|.str<|aw [48,48,55]] []=.er "BadValue" []:=by ext
theorem rv3:nz [J<|.str<|aw [45,48]] []=.er "BadValue" []:=by ext
theorem rv4:nz [J<|.str<|aw<|49::Ut 18 48] []=.er "BadValue" []:=by ext
theorem rv5:nz [J<|.str<|aw<|34::(Ut 41 97++[34])] []=.er "BadValue" []:=by ext
theorem in9:uJ [.str<|aw [97,98,99,100,101,102,103,104,105]]=.ok (.bl η):=by ext
def Z1(n:Nat):Ru:=[32,115,104,111,119,32,120]++Ut n 32
theorem Sv(n:Nat):34∉Z1 n:=by
 intro z;rcases BY.mp z with z|z
 .revert z;decide
 mright
theorem P2:∀(R:Ru),34∉R->ym R=U
 |[],_=>rfl
 |c::r,h=>by
  rw[za c r fun e=>h<|by rw[e];simp,P2 r fun z=>h<|ie _ z];rfl
theorem agZ(L:Ru)(hl:L.length<=90000)(q:Nat)(ht:ym (L.drop<|q+1)=U):pZ [.str<|aw L,.int (q:Int)]=.ok (.int (L.length:Int)):=by
 have e0:QL (fun x y i=>.int<|bt x y i) (aw L) [.str<|"\"",.int<|q+1]=.ok (.int<|bJ L<|q+1):=by
  rw[<-Ck];rfl
 have lp:=Am L hl (.int q) 99999 (q+1) ⊥;have hr:a7 L (q+1)=-1:=by unfold a7;rw[ht]
 exact aq<|(bu<|au<|e0).trans<|(bu<|lp).trans<|ar<|B7 (ao<|((by rw[hr];rfl)))<|(jo L hl)
theorem rv6(n:Nat)(hn:n<=1000):nz [J<|.str<|aw<|34::120::Z1 n] []=.er "BadValue" []:=by
 have hlen:(34::120::Z1 n).length=n+9:=by simp[Z1]
 have hne:aw (34::120::Z1 n)≠"none":=by
  rw[Nv];intro z;have e:=mk_inj.mp z;injection e with e _
  lia
 have hlast:(34::120::Z1 n)[(34::120::Z1 n).length-1]?≠J 34:=by
  intro z
  have:=Do z
  have h2:34∈120::Z1 n:=by
   rw[hlen]at z;have e:n+9-1=(n+7)+1:=⊥
   rw[e,List.getElem?_cons_succ]at z;exact Do z
  rcases eQ.mp h2 with h|h
  .omega
  .exact Sv n h
 have el:=jo (34::120::Z1 n) ⊥;have eeq:Ly (fun x y=>.bl<|cg x y) (aw<|34::120::Z1 n) [.str<|lE "\""]=.ok (.bl η):=by
  show R.ok (D.bl<|cg (aw<|34::120::Z1 n)<|lE "\"")=_;rw[Jl,XO,az,bM,TU hlast]
 have ef:rF "a text without its end: " (ag 0) [J<|.str<|aw<|34::120::Z1 n,U,U]=.ok (.str<|"a text without its end: "++reprText (aw<|34::120::Z1 n)):=by
  show(if _ then _ else _)=_;rw[SI];refine⟨?_,fun k hk=>?_⟩
  .rw[bM,hlen]
   have:(lE "a text without its end: ").length=24:=⊤
   lia
  .rw[az]at hk
   have:k<=120:=by
    rcases eQ.mp hk with h|hk
    .omega
    rcases eQ.mp hk with h|hk
    .omega
    rcases BY.mp hk with h|h
    .exact(by decide:∀k∈([32,115,104,111,119,32,120]:Ru),k<=120) k h
    .have:=List.eq_of_mem_replicate h;lia
   exact Nat.lt_of_le_of_lt this ∎
 have r:wX [J<|.str<|aw<|34::120::Z1 n] []=.er "BadValue" []:=
  ga (lh<|kR (aR<|lR (ao<|ae el rfl rfl)<|aaU<|eV eeq rfl)<|O0<|bg (aN ef) rfl)
 exact ga (ψ:=bZ _ _)<|gG rfl (lh<|(Cy<|aM rfl (vS r rfl)))
noncomputable abbrev gO:List<|Ru:=[[65],[33],[97,98,99,100,101,102,103,104,105],[48,48,55],[45],[45,48],49::Ut 18 48,[34,120],[43],[91],34::(Ut 41 97++[34]),[10]]
theorem aj0{y:Ru}(hy:y∈gO)(k n:Nat)(hn:n<=1000):nP (Ut k 32++(y++Z1 n)) (m3 k)<|mm k:=aj1 k _ fun A hl=>by
 have hdr:(A++(Ut k 32++(y++Z1 n))).drop (A.length+k)=y++Z1 n:=by
  rw[<-Vw,<-show(A++Ut k 32).length=A.length+k by simp,List.drop_left]
 have hbl:∀i,i<k->(A++(Ut k 32++(y++Z1 n)))[A.length+i]?=J 32:=fun i hi=>HX A _ k i hi;have hlen:(A++(Ut k 32++(y++Z1 n))).length=A.length+k+(y.length+(n+7)):=by simp[Z1];lia
 generalize A++(Ut k 32++(y++Z1 n))=L at *;have hd1:L.drop (A.length+k+1)=(y++Z1 n).drop 1:=by rw[<-sL,hdr]
 have sgn:∀c,y=[c]->c≠32->low c=η->(j7 c||decide (c=45))=η->c≠34->Wg (c::Z1 n)=U->lK [.str<|aw L,.int (A.length:Int)]=.ok (Fg<|A.length+k):=fun c e h1 h2 h3 h4 h5=>by
  subst e;exact m4 L hl _ k hbl c (Z1 n) hdr h1<|.inr<|.inr<|.inr ⟨h2,h3,h4,aij L _<|by rw[hdr];exact h5⟩
 have num:∀c r,y=c::r->c≠32->low c=η->(j7 c||decide (c=45))=G->cD j7 (r++Z1 n)=r.length->nz [J<|.str<|aw y] []=.er "BadValue" []->lK [.str<|aw L,.int (A.length:Int)]=.ok (Fg<|A.length+k):=fun c r e h1 h2 h3 h4 h5=>by
  subst e;simp only[uq]at hlen;have fe:=Hf L ⊥ (A.length+k) ⊥;rw[hd1,show(c::r++Z1 n).drop 1=r++Z1 n from rfl,h4]at fe;refine m4 L hl _ k hbl c (r++Z1 n) hdr h1<|.inr<|.inl ⟨h2,h3,_,fe,Aq L ⊥ _ _ _ ⊥ ⊥ ?_⟩;rw[hdr,show A.length+k+1+r.length-(A.length+k)=(c::r).length by simp;lia,List.take_left];exact h5
 simp only[eQ,Vm,or_false]at hy;rcases hy with rfl|rfl|rfl|rfl|rfl|rfl|rfl|rfl|rfl|rfl|rfl|rfl
 .exact sgn 65 rfl ∎ rfl rfl ∎ rfl
 .exact sgn 33 rfl ∎ rfl rfl ∎ rfl
 .have e1:([97,98,99,100,101,102,103,104,105]++Z1 n).takeWhile low=[97,98,99,100,101,102,103,104,105]:=rfl;exact m4 L hl _ k hbl 97 _ hdr ∎<|.inl ⟨rfl,sIx L ⊥ _ ⊥ (by rw[hdr,e1];decide +kernel)<|by rw[hdr,e1];exact in9⟩
 .exact num 48 [48,55] rfl ∎ rfl rfl rfl rv2
 .exact num 45 [] rfl ∎ rfl rfl rfl rv1
 .exact num 45 [48] rfl ∎ rfl rfl rfl rv3
 .exact num 49 (Ut 18 48) rfl ∎ rfl rfl rfl rv4
 .have h34:34∉120::Z1 n:=fun z=>by
   rcases eQ.mp z with z|z
   .omega
   .exact Sv n z
  have te:=agZ L ⊥ (A.length+k) (by rw[hd1];exact P2 _ h34);refine m4 L hl _ k hbl 34 _ hdr ∎<|.inr<|.inr<|.inl ⟨rfl,_,te,Aq L ⊥ _ _ _ ⊥ (mK _) ?_⟩;rw[hdr,p0<|by rw[hlen];simp[Z1];lia];exact rv6 n hn
 .exact sgn 43 rfl ∎ rfl rfl ∎ rfl
 .exact sgn 91 rfl ∎ rfl rfl ∎ rfl
 .have hd2:L.drop (A.length+k+1)=dbl (Ut 41 97)++34::Z1 n:=by rw[hd1];rfl
  have te:=Oq L ⊥ (A.length+k) ((dbl<|Ut 41 97).length+1) (by rw[hd2];exact Cn _ _<|by intro z;exact absurd z<|by simp[Z1]);refine m4 L hl _ k hbl 34 _ hdr ∎<|.inr<|.inr<|.inl ⟨rfl,_,te,Aq L ⊥ _ _ _ ⊥ ?_ ?_⟩
  .rw[hlen];show A.length+k+1+(41+1)<=A.length+k+(43+(n+7));lia
  .rw[hdr,show A.length+k+1+((dbl<|Ut 41 97).length+1)-(A.length+k)=(34::(Ut 41 97++[34])).length by show A.length+k+1+(41+1)-(A.length+k)=43;lia,List.take_left];exact rv5
 .exact sgn 10 rfl ∎ rfl rfl ∎ rfl
noncomputable def QY.s:QY->Str
 |.lY=>"from"|.UX=>"table"|.bp=>"behind table"|.dn=>"behind source"|.ZA=>"condition"|.UC=>"test"|.iI=>"end"|.vI=>"behind test"|.i9=>"by"|.wd=>"alias"|.dot=>"dot"|.sj=>"name"|.bor=>"behind order"|.e7=>"behind down"|.yP=>"behind shown"|.iO=>"take"|.js=>"over"|.no=>""
noncomputable def stI(d n:Str)(a b c e f g:Int)(l w:Str):D:=.Xx [(.inr "due",.str d),(.inr "next",.str n),(.inr "sources",.int a),(.inr "tests",.int b),(.inr "opened",.int c),(.inr "depth",.int e),(.inr "orders",.int f),(.inr "shows",.int g),(.inr "line",.str l),(.inr "last",.str w)]
def T6(s:St)(l w:Str):D:=stI s.fX.s s.nx.s s.src s.UC s.lg s.dep s.ord s.shw l w
abbrev Rm(c:Rl):D:=.str c.s
theorem ajA:yk []=.ok (T6 kS "" ""):=by ext
theorem Bo:∀lsq:List Rl,kA (lsq.map Rm)=J (lsq.map fun c=>V.str c.s)
 |[]=>rfl
 |c::r=>by
  rw[Xp,kA,Bo r];rfl
theorem CH(c:Rl):∀lsq:List Rl,Eh (.str c.s) (lsq.map fun c=>V.str c.s)=decide (c∈lsq):=TB (rfl) fun d r i_=>by
  have e:Eh (.str c.s) ((d::r).map fun c=>V.str c.s)=((d.s==c.s)||Eh (.str c.s) (r.map fun c=>V.str c.s)):=rfl
  rw[e,i_,iC];simp only[Km,decide_eq_true_eq,eQ,beq_iff_eq];exact⟨fun z=>z.imp_left fun z=>kM _ _ z.symm,fun z=>z.imp_left fun e=>by rw[e]⟩
theorem Eu(c:Rl)(lsq:List Rl):rE (Rm c) (.lst<|lsq.map Rm)=.ok (.bl<|decide (c∈lsq)):=by
 rw[<-CH];show lU (match g7 (Rm c),kA (lsq.map Rm)with|some v,J vs=>_|_,_=>U) _=_
 rw[Bo];rfl
theorem alZ(c:Rl)(lsq:List Rl):rE (Rm c) (.tup<|lsq.map Rm)=.ok (.bl<|decide (c∈lsq)):=by
 rw[<-CH];show lU (match g7 (Rm c),kA (lsq.map Rm)with|some v,J vs=>_|_,_=>U) _=_
 rw[Bo];rfl
theorem uI(c d:Rl):jp (Rm c) (Rm d)=.ok (.bl<|decide (c=d)):=by
 rw[jg];congr 2;exact decide_eq_decide.mpr ⟨kM _ _,fun e=>by rw[e]⟩
theorem ane(c d:Rl):xF (Rm c) (Rm d)=.ok (.bl<|!decide (c=d)):=by
 rw[CU];congr 3;exact decide_eq_decide.mpr ⟨kM _ _,fun e=>by rw[e]⟩
theorem ake(c:Rl)(l:List Rl):qa [Rm c,.lst<|l.map Rm]=.ok (.bl<|SG c l):=by
 have e1:=alZ c [.none_,.num,.minus,.text];have Rt:=Eu .value l;exact aq<|ar<|amx ((Eu c l))<|wY (e1)<|Rt
section
variable{a b c e f g:Int}{l w n n':Str}
theorem am3:HS [U] [stI n n' a b c e f g l w]=.ok (.lst<|(if 0<e then[Rl.lb,.nj,.rpar,.rpar]else[.lb,.nj,.order,.UW]).map Rm) [stI n n' a b c e f g l w]:=by
 have t:uv [0] (dC<|aH Ed (aH wN (ag 0)<|vC<|.str "depth")<|vC<|.int 0) [U] [stI n n' a b c e f g l w]=.ok ((e > 0)) [stI n n' a b c e f g l w]:=by ext
 by_cases h:0<e
 .rw[Th<|⊥]at t;rw[SI h];exact cL<|BS<|kR t rfl
 .rw[TU<|⊥]at t;rw[SM h];exact cL<|gG t rfl
theorem aJ(h:S Y=.ok (.nx δ'))(h2:T' δ'=r):nh S T' Y=r:=(bu h).trans h2
theorem tu{φ:FE}{P:Ru}{L:Rx}(h:φ (fill P L Y)=.ok d)(h2:φ Y=.ok d):ji P φ Y L=.ok d L:=by
 unfold ji;rw[h,h2];simp
theorem DU(x:Str)(r:List Rl)(i:Int)(h:wN (.Xx<|kx y6) (.str x)=.ok (.lst<|r.map Rm))(hr:r.length<=5):K5 [J<|.str x,J<|.int i] []=.ok (.lst<|(Ef (decide (i<8)) r).map Rm) []:=by
 have h0:∀o,aH wN (vC<|.Xx<|kx y6) (ag 0) [J<|.str x,J<|.int i,o]=.ok (.lst<|r.map Rm):=fun o=>h;refine cL<|iG (tu (h0 _)<|h0 _) ?_;have t:uv [] (dC<|aH zF (ag 1)<|vC<|.int 8) [J<|.str x,J<|.int i,J<|.lst<|r.map Rm] []=.ok ((i<8)) []:=rfl;have e:aH eZ (uw<|ak (vC<|.str ",") aQ) (ag 2) [J<|.str x,J<|.int i,J<|.lst<|r.map Rm]=.ok (.lst<|(Rl.comma::r).map Rm):=ae rfl rfl (by rw[ab2,SI<|by simp;lia];rfl);by_cases h:i<8
 .rw[Th h]at t⊢;exact BS<|kR t<|eG<|tu e e
 .rw[TU h]at t⊢;exact gG t rfl
end
section
variable{a b c e f g:Int}{l w n n':Str}
theorem ajZ:dJ [U] [stI "condition" n' a b c e f g l w]=.ok (.lst<|((if b<20 then[Rl.name,.name,.value]else[])++(if c<20 then[Rl.ZZ,.lpar]else[])).map Rm) [stI "condition" n' a b c e f g l w]:=by
 have t1:uv [0] (dC<|aH zF (aH wN (ag 0)<|vC<|.str "tests")<|vC<|.int 20) [U,J<|.str "condition",J<|.lst []] [stI "condition" n' a b c e f g l w]=.ok (decide (b<20)) [stI "condition" n' a b c e f g l w]:=by ext
 have t2:∀o,uv [0] (dC<|aH zF (aH wN (ag 0)<|vC<|.str "opened")<|vC<|.int 20) [U,J<|.str "condition",o] [stI "condition" n' a b c e f g l w]=.ok (decide (c<20)) [stI "condition" n' a b c e f g l w]:=by intro o;ext
 refine cL<|eL (δ':=[U,J<|.str "condition",U]) (μ1:=[stI "condition" n' a b c e f g l w]) (by ext)<|BS<|kR (μ1:=[stI "condition" n' a b c e f g l w]) (by ext)<|eL (δ':=[U,J<|.str "condition",J<|.lst []]) (μ1:=[stI "condition" n' a b c e f g l w]) (by ext)<|eL (δ':=[U,J<|.str "condition",J<|.lst<|(if b<20 then[Rl.name,.name,.value]else[]).map Rm]) (μ1:=[stI "condition" n' a b c e f g l w]) ?_<|eL (δ':=[U,J<|.str "condition",J<|.lst<|((if b<20 then[Rl.name,.name,.value]else[])++(if c<20 then[Rl.ZZ,.lpar]else[])).map Rm]) (μ1:=[stI "condition" n' a b c e f g l w]) ?_<|eG<|tu rfl rfl
 .by_cases h:b<20
  .rw[Th h]at t1;rw[SI h];exact kR t1 (by ext)
  .rw[TU h]at t1;rw[SM h];exact F2 t1 rfl
 .by_cases h:c<20
  .rw[Th h]at t2;rw[SI h];by_cases h1:b<20
   .rw[SI h1];exact kR (t2 _) rfl
   .rw[SM h1];exact kR (t2 _) rfl
  .rw[TU h]at t2;rw[SM h,Wz];exact F2 (t2 _) rfl
theorem ajY:dJ [U] [stI "behind test" n' a b c e f g l w]=.ok (.lst<|(if 0<e then[Rl.lb,.nj,.rpar,.rpar]else[.lb,.nj,.order,.UW]).map Rm) [stI "behind test" n' a b c e f g l w]:=
 cL (eL rfl (eL rfl (BS<|(eG<|aM rfl (ka am3 rfl)))))
theorem ajX:dJ [U] [stI "behind table" n' a b c e f g l w]=.ok (.lst<|(Ef (decide (a<3)) ([.name,.where_,.order,.UW]:List Rl)).map Rm) [stI "behind table" n' a b c e f g l w]:=by
 have t:∀X,dC (aH zF (aH wN (ag 0)<|vC<|.str "sources")<|vC<|.int 3) (fill [2,0] [X,stI "behind table" n' a b c e f g l w] [U,J<|.str "behind table",U])=.ok (decide (a<3)):=by intro X;ext
 refine cL ?_;refine eL (δ':=[U,J<|.str "behind table",U]) (μ1:=[stI "behind table" n' a b c e f g l w]) (by ext) ?_;refine eL (δ':=[U,J<|.str "behind table",U]) (μ1:=[stI "behind table" n' a b c e f g l w]) (by ext) ?_;refine eL (δ':=[U,J<|.str "behind table",U]) (μ1:=[stI "behind table" n' a b c e f g l w]) (by ext) ?_;refine eL (δ':=[U,J<|.str "behind table",U]) (μ1:=[stI "behind table" n' a b c e f g l w]) (by ext) ?_;refine eL (δ':=[U,J<|.str "behind table",U]) (μ1:=[stI "behind table" n' a b c e f g l w]) (by ext) ?_;rw[show wO=bZ _ _ from rfl];refine eL rfl ?_;refine eL rfl ?_;refine eL rfl ?_;refine eL rfl ?_;refine eL rfl ?_;refine eL rfl ?_;refine eL rfl ?_;by_cases h:a<3
 .rw[Th h]at t⊢;exact BS (kR (aR<|kW (by ext)<|t _)<|by ext)
 .rw[TU h]at t⊢;exact gG (aR<|kW rfl (t _)) rfl
theorem ajW:dJ [U] [stI "behind source" n' a b c e f g l w]=.ok (.lst<|(Ef (decide (a<3)) ([.where_,.order,.UW]:List Rl)).map Rm) [stI "behind source" n' a b c e f g l w]:=by
 have t:∀X,dC (aH zF (aH wN (ag 0)<|vC<|.str "sources")<|vC<|.int 3) (fill [2,0] [X,stI "behind source" n' a b c e f g l w] [U,J<|.str "behind source",U])=.ok (decide (a<3)):=by intro X;ext
 refine cL ?_;refine eL (δ':=[U,J<|.str "behind source",U]) (μ1:=[stI "behind source" n' a b c e f g l w]) (by ext) ?_;refine eL (δ':=[U,J<|.str "behind source",U]) (μ1:=[stI "behind source" n' a b c e f g l w]) (by ext) ?_;refine eL (δ':=[U,J<|.str "behind source",U]) (μ1:=[stI "behind source" n' a b c e f g l w]) (by ext) ?_;refine eL (δ':=[U,J<|.str "behind source",U]) (μ1:=[stI "behind source" n' a b c e f g l w]) (by ext) ?_;refine eL (δ':=[U,J<|.str "behind source",U]) (μ1:=[stI "behind source" n' a b c e f g l w]) (by ext) ?_;rw[show wO=bZ _ _ from rfl];refine eL rfl ?_;refine eL rfl ?_;refine eL rfl ?_;refine eL rfl ?_;refine eL rfl ?_;refine eL rfl ?_;refine eL rfl ?_;by_cases h:a<3
 .rw[Th h]at t⊢;exact BS (kR (aR<|kW (by ext)<|t _)<|by ext)
 .rw[TU h]at t⊢;exact gG (aR<|kW rfl (t _)) rfl
theorem ajU:dJ [U] [stI "behind order" n' a b c e f g l w]=.ok (.lst<|(Ef (decide (f<8)) [.down,.UW]).map Rm) [stI "behind order" n' a b c e f g l w]:=by
 refine cL ?_;refine eL rfl ?_;refine eL rfl ?_;refine eL rfl ?_;exact BS<|(eG<|aM rfl (ka (DU "behind order" [.down,.UW] f rfl ∎) rfl))
theorem ajT:dJ [U] [stI "behind down" n' a b c e f g l w]=.ok (.lst<|(Ef (decide (f<8)) [.UW]).map Rm) [stI "behind down" n' a b c e f g l w]:=by
 refine cL ?_;refine eL rfl ?_;refine eL rfl ?_;refine eL rfl ?_;exact BS<|(eG<|aM rfl (ka (DU "behind down" [.UW] f rfl ∎) rfl))
theorem ajV:dJ [U] [stI "behind shown" n' a b c e f g l w]=.ok (.lst<|(Ef (decide (g<8)) [.take,.end_]).map Rm) [stI "behind shown" n' a b c e f g l w]:=by
 refine cL ?_;refine eL rfl ?_;refine eL rfl ?_;refine eL rfl ?_;refine eL rfl ?_;exact BS<|(eG<|aM rfl (ka (DU "behind shown" [.take,.end_] g rfl ∎) rfl))
theorem o3(a b:Nat):decide ((a:Int)<(b:Int))=decide (a<b):=decide_eq_decide.mpr Int.ofNat_lt
theorem Vo(s:St)(h:s.fX≠.no):dJ [U] [T6 s l w]=.ok (.lst<|(Rn s).map Rm) [T6 s l w]:=by
 obtain⟨fX,nx,src,UC,lg,dep,ord,shw⟩:=s;cases fX
 case ZA=>
  refine ajZ.trans ?_;have e1:((UC:Int)<20)=(UC<20):=propext ⊥;have Rt:((lg:Int)<20)=(lg<20):=propext ⊥;simp only[e1,Rt];rfl
 case vI=>
  refine ajY.trans ?_;have e1:(0<(dep:Int))=(0<dep):=propext ⊥;simp only[e1];rfl
 case bp=>
  refine ajX.trans ?_;rw[show decide ((src:Int)<3)=decide (src<3)from o3 src 3];rfl
 case dn=>
  refine ajW.trans ?_;rw[show decide ((src:Int)<3)=decide (src<3)from o3 src 3];rfl
 case bor=>
  refine ajU.trans ?_;rw[show decide ((ord:Int)<8)=decide (ord<8)from o3 ord 8];rfl
 case e7=>
  refine ajT.trans ?_;rw[show decide ((ord:Int)<8)=decide (ord<8)from o3 ord 8];rfl
 case yP=>
  refine ajV.trans ?_;rw[show decide ((shw:Int)<8)=decide (shw<8)from o3 shw 8];rfl
 case no=>grind
 all_goals rfl
end
section
variable{l w:Str}
theorem z0{c:Rl}{l l':List Rl}(h:SG c l=G)(hs:∀d∈l,d∈l'):SG c l'=G:=by
 unfold SG at h⊢;simp only[Km,oR,decide_eq_true_eq]at h⊢;exact h.imp (hs c) fun z=>⟨z.1,hs _ z.2⟩
noncomputable def d6:QY->List Rl
 |.lY=>[.fh]|.UX=>[.name]|.wd=>[.name]|.dot=>[.dot]|.sj=>[.name]|.i9=>[.fc]
 |.bp=>[.comma,.name,.where_,.order,.UW]
 |.dn=>[.comma,.where_,.order,.UW]
 |.ZA=>[.name,.value,.ZZ,.lpar]
 |.UC=>[.eq,.ne,.lt,.le,.gt,.ge]
 |.iI=>[.name,.value]
 |.vI=>[.lb,.nj,.rpar,.order,.UW]
 |.bor=>[.comma,.down,.UW]
 |.e7=>[.comma,.UW]
 |.yP=>[.comma,.take,.end_]
 |.iO=>[.num]
 |.js=>[.end_]
 |.no=>[]
theorem AG(s:St):∀d∈Rn s,d∈d6 s.fX:=by
 obtain⟨fX,nx,src,UC,lg,dep,ord,shw⟩:=s;cases fX<;>intro d hd<;>simp only[Rn,Ef]at hd<;>simp only[d6]<;>first|exact hd|grind
noncomputable def inv(s:St):Bool:=decide (s.fX≠.no)&&(!decide (s.fX∈([.wd,.dot,.sj,.bor,.e7,.yP]:List QY))||decide (s.nx∈([.UC,.vI,.bor,.yP]:List QY)))
def ba:QY->List Rl
 |.ZA=>[.name,.none_,.num,.minus,.text,.value,.ZZ,.lpar]
 |.iI=>[.name,.none_,.num,.minus,.text,.value]
 |d=>d6 d
theorem EZ(d:QY)(c:Rl)(h:SG c (d6 d)=G):c∈ba d:=by
 refine(?_:∀c∈cE,SG c (d6 d)=G->c∈ba d) c (d5 c) h;cases d<;>decide
theorem Tq{s:St}{c:Rl}(hf:SG c (Rn s)=G)(he:c≠.end_)(hi:inv s=G):R4 [U,J<|Rm c] [T6 s l w]=.ok .S9 [T6 (go s c) l w]/\inv (go s c)=G:=by
 have h:=z0 hf<|AG s;obtain⟨fX,nx,src,UC,lg,dep,ord,shw⟩:=s;cases fX<;>dsimp only at h
 case sj=>
  obtain rfl:=IF.mp<|EZ .sj _ h;have hn:nx∈([.UC,.vI,.bor,.yP]:List QY):=by unfold inv at hi;simpa using hi
  simp only[eQ,Vm,or_false]at hn;rcases hn with rfl|rfl|rfl|rfl<;>exact⟨by ext,rfl⟩
 case vI=>
  have hc:=EZ .vI _ h;simp only[ba,d6,eQ,Vm,or_false]at hc;rcases hc with rfl|rfl|rfl|rfl|rfl
  iterate 2 exact⟨by ext,rfl⟩
  rotate_left
  iterate 2 exact⟨by ext,rfl⟩
  have hd:dep≠0:=fun z=>by subst z;exact absurd (show SG .rpar [.lb,.nj,.order,.UW]=G from hf) ∎
  refine⟨?_,rfl⟩;have e:((dep-1:Nat):Int)=(dep:Int)-1:=⊥
  show _=RM.ok _ [stI _ _ _ _ _ ((dep-1:Nat):Int) _ _ _ _];rw[e];ext
 case no=>exact absurd hi (by simp[inv])
 all_goals
  have hc:=EZ _ _ h;simp only[ba,d6,eQ,Vm,or_false]at hc
  repeat' (first|subst hc|rcases hc with hc|hc)
 all_goals first|exact absurd rfl he|exact⟨by ext,rfl⟩|exact⟨by ext,hi⟩
end
theorem rH(a b:Str):(a++b).length=a.length+b.length:=by
 rw[<-y0,<-y0,<-y0,dH,LX]
theorem Il(a b:Str)(h:a.length+b.length<=1000000):eZ (.str a) (.str b)=.ok (.str<|a++b):=by rw[Nd,SI h]
theorem eH(h:(τ Y=.ok G/\S Y=.ok (.nx δ'))\/(τ Y=.ok η/\δ'=Y))(h2:T' δ'=r):nh (DA τ S ld) T' Y=r:=by
 rcases h with⟨a,b⟩|⟨a,rfl⟩
 .exact aJ ((a8 a).trans b) h2
 .exact(skip a).trans h2
def vW(x:Str):Prop:=x.length<=40/\∀c∈x.cps.toList,32<=c/\c<=126
theorem wr(h:i.natAbs<10^18):CO [.int i]=.ok (.str<|aw<|cu i):=by
 unfold CO;simp only;rw[SI<|⊥,mk_eq<|str_int i]
theorem fW(h1:φ Y=.ok (.str<|aw a))(h2:ψ Y=.ok (.str<|aw b))(h:a.length+b.length<=1000000):aH eZ φ ψ Y=.ok (.str<|aw<|a++b):=ae h1 h2<|qe a b h
def cell(ns:List Int)(k:Int):Int:=ns.getD k.toNat 0
theorem abM(ns:List Int)(k:Int)(h0:0<=k):gV [.lst<|ns.map D.int,.int k]=.ok (.int<|cell ns k):=by
 by_cases h:k<ns.length
 .have e:ns[k.toNat]?=(cell ns k):=by unfold cell;mright
  have a:=oj D.int ns e;rw[show(k.toNat)=k by lia]at a;exact aq<|aS<|(a8<|ao<|(wR.trans<|by mright)).trans<|ar<|a
 .have e:cell ns k=0:=by unfold cell;grind
  rw[e];exact aq<|(skip<|ao<|(wR.trans<|by mright)).trans rfl
abbrev cab:Str:=lE "abcdefghijklmnopqrstuvwxyz"
def Lw(Q:Nat->Prop)(z:Str):Prop:=∀c∈z.cps.toList,Q c
theorem Lw.app{Q:Nat->Prop}(ha:Lw Q a)(hb:Lw Q b):Lw Q<|a++b:=fun c hc=>by
 rw[dH]at hc;exact(BY.mp hc).elim (ha c)<|hb c
theorem FX{Q:Nat->Prop}(i:Int)(hl:z.cps.toList.length=n+1)(hz:Lw Q z)(h:n<1000):∃c,Q c/\cR (.str z) (.int<|i%((n+1:Nat):Int))=.ok (.str ⟨#[c]⟩):=by
 have h0:=dW i (b:=((n+1:Nat))) ⊥;have h1:=dA i (b:=((n+1:Nat))) ⊥;generalize i%((n+1:Nat))=k at h0 h1;obtain⟨k,rfl⟩:=Int.eq_ofNat_of_zero_le h0;have hk:k<z.cps.toList.length:=⊥
 exact⟨_,hz _<|yL hk,U0 (by rw[nY]at hl;lia)<|xu<|WT hk⟩
theorem qZ(c:Nat):(⟨#[c]⟩:Str).length=1:=rfl
abbrev vk(m:FS){a b:FS}(_:m=nh a b):FS:=b
abbrev Rf(m:FS){i:FA}{g:VA}{x r:FS}(_:m=nh (Hy i g x) r):FS:=x
abbrev nB:FS:=Rf (vk tS rfl) rfl
theorem v7{Q:Nat->Prop}(w:Int->Str->Option D->Sd)(turn:∀p z o x,z.length<100->∃p' c,Q c/\B ((w p z o).set i<|J x)=.ok (.nx<|w p' (z++⟨#[c]⟩)<|J x)):∀(xs:Rx)(p:Int)(z:Str)(o:Option D),z.length+xs.length<=100->Lw Q z->∃p' z' o',cZ (.one i) B xs (w p z o)=.ok (.nx<|w p' z' o')/\z'.length=z.length+xs.length/\Lw Q z':=TB (fun p z o h hz=>⟨p,z,o,rfl,rfl,hz⟩) fun x r i_ p z o h hz=>by
  simp only[uq]at h;refine X7 (turn p z o x ⊥) fun p1 c hc e=>?_;refine WM (i_ p1 (z++⟨#[c]⟩) (x) (by rw[rH,qZ];lia) (hz.app fun d hd=>by
   mright)) fun p2 z2 o2 Rt h2 hz2=>?_
  exact⟨p2,z2,o2,(aox e).trans Rt,by rw[h2,rH,qZ];simp;lia,hz2⟩
theorem PP(p:Int)(z:Str)(o:Option D)(x:D)(h:z.length<100):∃p' c,low c=G/\nB [J<|.int p,J<|.str z,J x]=.ok (.nx [J<|.int p',J<|.str<|z++⟨#[c]⟩,J x]):=by
 obtain⟨c,hc,e⟩:=FX (z:=cab) (Q:=fun c=>low c=G) ((p*48271+11)%2147483647/7) rfl (by unfold Lw;decide +kernel) ∎;exact⟨_,c,hc,aJ (au<|bf (ir (iH rfl rfl) rfl) rfl)<|au<|ae rfl (e) (Il _ _<|by rw[qZ];lia)⟩
theorem eY:∀(n:Nat)(i:Int),(aW i n).length=n
 |0,i=>rfl
 |n+1,i=>by simp[aW]
theorem bms:∀(n:Nat)(i:Int)(x:D),x∈aW i n->∃k:Int,x=.int k/\i<=k/\k<i+n:=by
 intro n i x hx;unfold aW at hx
 grind
theorem y9(h:φ Y=.ok (.int i))(h0:0<=i)(hn:i<=1000):p9 (ak φ aQ) Y=.ok (aW 0 i.toNat):=by
 rw[IQ,ac h rfl,am,MX<|⊥]
noncomputable abbrev nZ:SH:=["and","by","down","from","none","not","or","order","show","take","where"]
theorem GW(z:Str):oX z=decide (z∈nZ):=nG z nZ
theorem Po:∀z∈nZ,oX (z++lE "x")=η:=⊤
theorem Qt:∀z∈nZ,z.length<=5:=⊤
theorem CD(h1:1<=z.length)(h8q:z.length<=8)(hl:Lw (fun c=>low c=G) z)(hr:oX z=η):ci z=G:=by
 unfold ci;have h0:z≠"":=fun e=>by
  have:(lE "").length=0:=⊤
  rw[e,this]at h1;lia
 rw[TU h0,Th h8q,hr,Ve.mpr hl];rfl
theorem name(p:Int):∃z:Str,zo [.int p]=.ok (.str z)/\ci z=G:=by
 have b0q:0<=p%8:=dW _ ∎;have b1:p%8<8:=dA _ ∎;have e0:(lE "").length=0:=⊤
 have hr:=eY (1+p%8).toNat 0;refine WM (v7 (i:=2) (fun p z o=>[J<|.int p,J<|.str z,o]) PP (aW 0 (1+p%8).toNat) p (lE "") U (by rw[hr,e0];lia) (by unfold Lw;decide +kernel)) fun p' z' o' Rt h2 hz'=>?_;rw[hr,e0]at h2;have hin:dC (aH rE (ag 1)<|uD<|ak (vC<|.str "and")<|ak (vC<|.str "by")<|ak (vC<|.str "down")<|ak (vC<|.str "from")<|ak (vC<|.str "none")<|ak (vC<|.str "not")<|ak (vC<|.str "or")<|ak (vC<|.str "order")<|ak (vC<|.str "show")<|ak (vC<|.str "take")<|ak (vC<|.str "where") aQ) [J<|.int p',J<|.str z',o']=.ok (oX z'):=
  rfl
 cases hb:oX z' with
 |true=>
  have hm  := by
   have:=hb
   rw[GW]at this;exact WI this
  have h5:=Qt z' hm;have hx:(lE "x").length=1:=⊤
  exact⟨z'++"x",aq<|aJ rfl (aJ (kU (y9 rfl ⊥ ⊥) Rt)<|eH (.inl ⟨hin.trans<|by rw[hb],au<|(Il _ _<|⊥)⟩) rfl),CD (by rw[rH];lia) (by rw[rH];lia) (hz'.app<|by unfold Lw;decide +kernel)<|Po z' hm⟩
 |false=>
  exact⟨z',aq<|aJ rfl (aJ (kU (y9 rfl ⊥ ⊥) Rt)<|eH (.inr ⟨hin.trans<|by rw[hb],rfl⟩) rfl),CD ⊥ ⊥ hz' hb⟩
abbrev uU:Str:=lE " !\"#$&'()*+,-./0123456789:;<=>?@ABCDEFGHIJKLMNOPQRSTUVWXYZ[\\]^_`"++lE "abcdefghijklmnopqrstuvwxyz{|}~"
abbrev sB':FS:=Rf (vk (vk (vk xv rfl) rfl) rfl) rfl
theorem ajk(m:D)(p:Int)(z:Str)(o:Option D)(x:D)(h:z.length<100):∃p' c,(32<=c/\c<=126)/\sB' [J<|.int p,J m,J<|.str uU,J<|.str z,J x]=.ok (.nx [J<|.int p',J m,J<|.str uU,J<|.str<|z++⟨#[c]⟩,J x]):=by
 obtain⟨c,hc,e⟩:=FX (z:=uU) (Q:=fun c=>32<=c/\c<=126) (n:=93) ((p*48271+11)%2147483647/7) rfl (by unfold Lw;decide +kernel) ∎;exact⟨_,c,hc,aJ (au<|bf (ir (iH rfl rfl) rfl) rfl)<|au<|ae rfl (e) (Il _ _<|by rw[qZ];lia)⟩
theorem signs(p n:Int)(h0:0<=n)(h1:n<=40):∃z:Str,LW [.int p,.int n]=.ok (.str z)/\vW z:=by
 have e0:(lE "").length=0:=⊤
 have hr:=eY n.toNat 0;refine WM (v7 (i:=4) (fun p z o=>[J<|.int p,J<|.int n,J<|.str uU,J<|.str z,o]) (ajk<|.int n) (aW 0 n.toNat) p ("") U (by grind) (by unfold Lw;decide +kernel)) fun p' z' o' Rt h2 t2=>?_;exact⟨z',aq<|aJ rfl (aJ rfl (aJ rfl (aJ (kU (y9 rfl h0 ⊥) Rt) rfl))),⊥,t2⟩
theorem Bt(z:Str)(h:vW z):qJ [.str z]=.ok (.str<|aw<|34::(dbl z.cps.toList++[34])):=by
 have hl:z.cps.toList.length=z.length:=rfl;have h2:=sx z.cps.toList;have h1:=h.1;refine aq<|ar<|fW (fW (a:=[34]) rfl ((amr z<|⊥)) ?_) rfl ?_
 .simp;lia
 .simp;lia
inductive ij where
 |mark|sign|num|minus|text|Fg|o7
deriving DecidableEq
def ij.s:ij->Str
 |.mark=>"mark"|.sign=>"sign"|.num=>"NUMBER"|.minus=>"MINUS"|.text=>"TEXT"|.Fg=>"BAD"|.o7=>"letters"
def gj:Rl->ij
 |.comma|.dot|.lpar|.rpar=>.mark
 |.eq|.ne|.lt|.le|.gt|.ge=>.sign
 |.num=>.num|.minus=>.minus|.text=>.text|.Fg=>.Fg
 |_=>.o7
noncomputable def cw(a b:ij):Bool:=if b=.Fg then !decide (a=.mark)else if a=.num\/a=.minus then decide (b=.num)else decide (a=b)&&!decide (a=.mark)
theorem Te(c:Rl):Lg [Rm c]=.ok (.str (gj c).s):=by cases c<;>ext
theorem akN(c d:Rl):AF [Rm c,Rm d]=.ok (.bl<|cw (gj c)<|gj d):=by
 refine aq<|aJ (au<|(Te c))<|aJ (au<|(Te d)) ?_;generalize gj c=x;generalize gj d=y;cases x<;>cases y<;>ext
def Lf(s:ij)(h:Nat):Bool:=match s with
 |.o7=>low h
 |.mark=>decide (h∈([44,46,40,41]:Ru))
 |.sign=>decide (h∈([60,61,62]:Ru))
 |.num=>j7 h
 |.minus=>decide (h=45)
 |.text=>decide (h=34)
 |.Fg=>G
theorem T1(h:Nat)(n:h<97\/122<h):low h=η:=by unfold low;grind
theorem t9(h:Nat)(n:h<48\/57<h):j7 h=η:=by unfold j7;grind
theorem aiF{a b:ij}(hr:cw a b=η)(ha:a≠.Fg)(h1:Lf a h=G)(h2:Lf b k=G):bh (h::r) (k::s)=G:=by
 have l1:a≠.o7->a≠.Fg->low h=η:=fun z z2=>by
  refine T1 h ?_;cases a<;>simp[Lf,j7]at h1<;>first|(exact absurd rfl z)|(exact absurd rfl z2)|lia
 unfold bh;cases a with
 |Fg=>exact absurd rfl ha
 |o7=>
  have h1:low h=G:=h1
  have:low k=η:=by
   refine T1 k ?_;cases b<;>first|exact absurd hr ∎|skip;all_goals simp[Lf,j7]at h2
   all_goals lia
  simp[h1,this]
 |mark=>
  have l1:=l1 ∎ ∎
  have:j7 h=η/\h≠45/\h≠34/\h≠60/\h≠62:=by
   simp[Lf]at h1;refine⟨t9 h ?_,?_,?_,?_,?_⟩<;>lia
  simp[l1,this]
 |sign=>
  have l1:=l1 ∎ ∎
  have:j7 h=η/\h≠45/\h≠34:=by
   simp[Lf]at h1;refine⟨t9 h ?_,?_,?_⟩<;>lia
  have:k≠61/\k≠62:=by
   cases b<;>first|exact absurd hr ∎|skip;all_goals simp[Lf,j7,low]at h2
   all_goals lia
  mright
 |num=>
  have l1:=l1 ∎ ∎;have h1:j7 h=G:=h1
  have:j7 k=η:=by
   refine t9 k ?_;cases b<;>first|exact absurd hr ∎|skip;all_goals simp[Lf,j7,low]at h2
   all_goals lia
  mright
 |minus=>
  have l1:=l1 ∎ ∎;have h1:h=45:=WI h1
  have:j7 k=η:=by
   refine t9 k ?_;cases b<;>first|exact absurd hr ∎|skip;all_goals simp[Lf,j7,low]at h2
   all_goals lia
  mright
 |text=>
  have h1  := WI h1
  have:k≠34:=by
   cases b<;>first|exact absurd hr ∎|skip;all_goals simp[Lf,j7,low]at h2
   all_goals lia
  subst h1;simp[low,j7,this]
theorem zK{a:ij}(ha:a≠.Fg)(h1:Lf a h=G):bh (h::r) (32::s)=G:=by
 unfold bh
 have:low 32=η/\j7 32=η:=∎
 simp[this]
theorem no_space:∀c,c<127->33<=c->Unicode.isSpace c=η:=⊤
theorem air(m:Nat):Txt.strip (aw<|Ut m 32)=aw []:=by
 have h32:Unicode.isSpace 32=G:=⊤
 have hlo:stripLo Unicode.isSpace G (aw<|Ut m 32)=m:=by
  unfold stripLo;rw[az,List.takeWhile_replicate,h32];simp
 unfold Txt.strip;rw[PyProof.Rows.stripBy_eq,hlo];have hhi:stripHi Unicode.isSpace G (aw<|Ut m 32) m=m:=by
  unfold stripHi;rw[az,bM];simp
 rw[hhi];refine lu ?_;rw[az];simp[aeP]
theorem Nc{L:Ru}{k c:Nat}(hk:L[k]?=J c)(hc:Unicode.isSpace c=η):Txt.strip (aw L)≠aw []:=by
 obtain⟨a1,a2,a3⟩:=PyProof.Rows.lo_facts Unicode.isSpace<|aw L;refine Xl (PyProof.Rows.hi_facts Unicode.isSpace (aw L) _ a1) fun b1 b2 b3 b4=>?_;have hln:(aw L).length=L.length:=rfl;have hg:(aw L).cps.getD k 0=c:=by
  have e:L.getD k 0=c:=by mright
  rw[<-e,<-PyProof.Rows.getD_list,az]
 have c1:stripLo Unicode.isSpace G (aw L)<=k:=by
  grind
 have c2:k<stripHi Unicode.isSpace G (aw L) (stripLo Unicode.isSpace G<|aw L):=by
  grind
 intro z;have z:=UN (fun x  => x.cps.size) z;unfold Txt.strip at z;rw[PyProof.Rows.stripBy_eq]at z;have z:((aw L).cps.extract (stripLo Unicode.isSpace G<|aw L)<|stripHi Unicode.isSpace G (aw L)<|stripLo Unicode.isSpace G<|aw L).size=0:=z;rw[Array.size_extract]at z
 have:(aw L).cps.size=L.length:=rfl
 lia
theorem PU:∀(n:Nat)(a:Array Nat),((Ut n #[32]).foldl (·++·) a).toList=a.toList++Ut n 32:=X5 (fun a=>∅) fun n i_ a=>by
  rw[List.replicate_succ,List.foldl_cons,i_,List.replicate_succ];simp
theorem akq(k:Nat):Txt.mul (aw [32]) (k:Int)=aw (Ut k 32):=by
 refine lu ?_;unfold Txt.mul;by_cases h0:k=0
 .subst h0;rfl
 .rw[SM<|⊥];by_cases h1:k=1
  .subst h1;rfl
  .rw[SM (by
    intro z;rw[Km]at z;rcases z with z|z
    .grind
    .cases z)]
   exact PU k #[]
theorem NH(k:Nat)(h:k<=1000):qX (.str " ") (.int (k:Int))=.ok (.str<|aw<|Ut k 32):=by
 rw[ama,l32,SI<|by rw[bM];simp;lia,akq]
theorem qd{i:Int}(h:φ Y=.ok (.int i))(h0:0<=i)(h1:i<=1000):aH qX (vC<|.str " ") φ Y=.ok (.str<|aw<|Ut i.toNat 32):=by
 obtain⟨k,rfl⟩:=Int.eq_ofNat_of_zero_le h0;exact ae rfl h (NH k<|⊥)
theorem gap(L:Ru)(hL:L.length<=1000)(z:Str)(d:Rl)(p:Int)(h:Txt.strip (aw L)=aw []\/∃c:Rl,z=c.s/\Txt.strip (aw L)≠aw []):∃g,g<=2/\my [.str<|aw L,.str z,Rm d,.int p]=.ok (.str<|aw<|Ut g 32)/\(∀c:Rl,z=c.s->Txt.strip (aw L)≠aw []->g=0->cw (gj c) (gj d)=η):=by
 have es:zz ot (ag 0) [J<|.str<|aw L,J<|.str z,J<|Rm d,J<|.int p]=.ok (.str<|Txt.strip<|aw L):=BM rfl (SI<|by rw[bM];lia);have e1:dC (aH jp (zz ot<|ag 0)<|vC<|.str "") [J<|.str<|aw L,J<|.str z,J<|Rm d,J<|.int p]=.ok (decide (Txt.strip (aw L)=aw [])):=ao<|ae es rfl (by rw[jg,<-EG]);have Rt:dC (aH jp (aH gk (ag 3)<|vC<|.int 2)<|vC<|.int 0) [J<|.str<|aw L,J<|.str z,J<|Rm d,J<|.int p]=.ok (decide (p%2=0)):=sV (bf rfl rfl) rfl;have n0:=dW (p/2) (show(4:Int)≠0 by decide);have n1:=dA (p/2) (show(0:Int)<4 by decide);have m0:=dW (p/2) (show(5:Int)≠0 by decide);have m1:=dA (p/2) (show(0:Int)<5 by decide);have r1:pX (aH qX (vC<|.str " ")<|aH lO (aH gk (aH lO (ag 3)<|vC<|.int 2)<|vC<|.int 4)<|vC<|.int 3) [J<|.str<|aw L,J<|.str z,J<|Rm d,J<|.int p]=.ok (.rt<|.str<|aw<|Ut (p/2%4/3).toNat 32):=ar (qd (f6 (bf (f6 rfl rfl) rfl) rfl) ⊥<|⊥);have r2:pX (aH qX (vC<|.str " ")<|aH eZ (vC<|.int 1)<|aH lO (aH gk (aH lO (ag 3)<|vC<|.int 2)<|vC<|.int 5)<|vC<|.int 4) [J<|.str<|aw L,J<|.str z,J<|Rm d,J<|.int p]=.ok (.rt<|.str<|aw<|Ut (1+p/2%5/4).toNat 32):=ar (qd (ir rfl (f6 (bf (f6 rfl rfl) rfl) rfl)) ⊥<|⊥);rcases h with h|⟨c,rfl,h⟩
 .exact⟨_,⊥,aq<|aS<|(a8<|P7<|e1.trans<|by rw[Th h]).trans r1,fun c _ n=>absurd h n⟩
 .have Ua:qN (lP<|aI AF<|ak (ag 1)<|ak (ag 2) aQ) [J<|.str<|aw L,J<|Rm c,J<|Rm d,J<|.int p]=.ok (!cw (gj c) (gj d)):=Fz<|eV (af (ac rfl (ac rfl rfl))<|akN c d) rfl;rw[TU h]at e1;by_cases hp:p%2=0
  .rw[Th hp]at Rt;cases hr:cw (gj c) (gj d)with
   |false=>
    rw[hr]at Ua;exact⟨_,⊥,aq<|aS<|(a8<|lR e1<|kW Rt Ua).trans r1,fun c' e _ _=>by rw[<-kM _ _ e];exact hr⟩
   |true=>
    rw[hr]at Ua;exact⟨_,⊥,aq<|(skip<|lR e1<|kW Rt Ua).trans r2,fun _ _ _ z=>⊥⟩
  .rw[TU hp]at Rt;exact⟨_,⊥,aq<|(skip<|lR e1<|Bu Rt).trans r2,fun _ _ _ z=>⊥⟩
structure gJ(c:Rl)(y:Ru):Prop where
 sp:∃x,Sp x y/\∀a b,n9 c ⟨x.1,x.2,a,b⟩
 l:y.length<=100
 h:∃h r,y=h::r/\Lf (gj c) h=G
theorem V9{w:Ru}{p:Nat->Bool}(h:w.head?.any p=G):∃a r,w=a::r/\p a=G:=by
 cases w with
 |nil=>nofun
 |cons a r=>exact⟨a,r,rfl,h⟩
theorem VX{c:Rl}(hk:c.kd≠.dI)(x:Str)(e:c.k=x)(a b:Nat):n9 c ⟨x,.str<|aw c.s.cps.toList,a,b⟩:=by
 refine⟨e.symm,fun _=>by rw[<-zn],fun z=>?_,fun z=>?_,fun z=>?_⟩<;>(subst z;exact absurd rfl hk)
theorem ajn(c:Rl)(hk:c.kd=.key):gJ c c.s.cps.toList:=by
 refine n4 ((by trivial:∀c∈cE,c.kd=.key->c.s.cps.toList≠[]/\(∀d∈c.s.cps.toList,low d=G)/\oX (aw c.s.cps.toList)=G/\c.k="key"/\c.s.cps.toList.length<=100/\c.s.cps.toList.head?.any (Lf<|gj c)=G) c (d5 c) hk) fun h1 h2 h3 h4 h5 h6=>?_;exact⟨⟨_,.key _ h1 h2 h3,VX (by rw[hk];decide) _ h4⟩,h5,V9 h6⟩
theorem ajp(c:Rl)(hk:c.kd=.sgn):gJ c c.s.cps.toList:=by
 obtain⟨h1,h4,h5,h6⟩:=(by trivial:∀c∈cE,c.kd=.sgn->c.s.cps.toList∈Dy/\c.k="sign"/\c.s.cps.toList.length<=100/\c.s.cps.toList.head?.any (Lf<|gj c)=G) c (d5 c) hk;exact⟨⟨_,.sgn _ h1,VX (by rw[hk];decide) _ h4⟩,h5,V9 h6⟩
theorem ajo(i:Int)(h0:0<=i)(h:i<10^9):gJ .num<|cu i:=by
 have hn:i.natAbs<10^18:=⊥
 refine⟨⟨("number",.int i),.num i hn,fun a b=>⟨rfl,fun z=>absurd rfl z,fun _=>⟨i,rfl,h0⟩,(fun z=>nomatch z),∎⟩⟩,by have:=(om i hn).2.2.2;lia,?_⟩
 refine y2 (gu i) fun c r e h1 h2 h3 h4=>?_;refine⟨c,r,e,?_⟩;show j7 c=G
 have:cu i=dg i.natAbs:=by unfold cu;rw[SM<|⊥]
 exact GN _ c (by rw[<-this,e];simp)
theorem agU(i:Int)(h0:i<0)(h:-(10^9)<i):gJ .minus<|cu i:=by
 have hn:i.natAbs<10^18:=⊥
 refine⟨⟨("number",.int i),.num i hn,fun a b=>⟨rfl,fun z=>absurd rfl z,(fun z=>nomatch z),fun _=>⟨i,rfl,h0⟩,∎⟩⟩,by have:=(om i hn).2.2.2;lia,?_⟩
 exact⟨45,dg i.natAbs,by unfold cu;rw[SI h0],rfl⟩
theorem aio(z:Str)(h:vW z):gJ .text<|34::(dbl z.cps.toList++[34]):=by
 have hl:z.cps.toList.length=z.length:=rfl;have h2:=sx z.cps.toList;have h1:=h.1;exact⟨⟨("text",.str<|aw z.cps.toList),.txt _ ⊥ h.2,fun a b=>⟨rfl,fun z=>absurd rfl z,(fun z=>nomatch z),(fun z=>nomatch z),∎⟩⟩,by simp;lia,34,_,rfl,rfl⟩
theorem aim(z:Str)(h:ci z=G):gJ .name z.cps.toList:=by
 have e:z=aw z.cps.toList:=zn _;have h':=h;unfold ci at h';simp only[oR,Yl,decide_eq_true_eq,decide_eq_false_iff_not,Ve]at h';obtain⟨h0,h8q,hl,hr⟩:=h';have hne:z.cps.toList≠[]:=fun n=>h0 (by rw[e,n,<-EG]);have hln:z.cps.toList.length=z.length:=rfl;refine⟨⟨kN<|aw z.cps.toList,.name _ hne hl<|by rw[<-e];exact h,fun a b=>⟨rfl,fun z=>absurd rfl z,(fun z=>nomatch z),(fun z=>nomatch z),∎⟩⟩,⊥,?_⟩
 cases hz:z.cps.toList with
 |nil=>exact absurd hz hne
 |cons c r=>exact⟨c,r,rfl,hl c<|by rw[hz];simp⟩
def ajm(c:Rl)(h1:c≠.value)(h2:c≠.end_)(h3:c≠.Fg)(p:Int):∃y,j9 [Rm c,.int p]=.ok (.str<|aw y)/\gJ c y:=by
 have t:∀d:Rl,dC (aH jp (ag 0)<|vC<|Rm d) [J<|Rm c,J<|.int p,U]=.ok (decide (c=d)):=fun d=>ao<|ae rfl rfl (uI c d);have m0:=dW (p/7) (show(4:Int)≠0 by decide);have m1:=dA (p/7) (show(0:Int)<4 by decide);have n0:=dW (p/7) (show(2:Int)≠0 by decide);have n1:=dA (p/7) (show(0:Int)<2 by decide);by_cases hn:c=.name
 .subst hn;obtain⟨z,e,h⟩:=name p;exact⟨z.cps.toList,aq<|aS<|(a8<|t .name).trans<|ar<|af (ac rfl rfl)<|e.trans<|by rw[<-zn],aim z h⟩
 by_cases hn2:c=.num
 .subst hn2;obtain⟨k,e,k0,k1⟩:∃k:Int,aH cR (uw<|ak (vC<|.int 10)<|ak (aH oq (vC<|.int 10)<|vC<|.int 9) aQ) (aH gk (aH lO (ag 1)<|vC<|.int 7)<|vC<|.int 2) [J<|Rm .num,J<|.int p,U]=.ok (.int k)/\0<k/\k<=10^9:=by
   have eIq:aH gk (aH lO (ag 1)<|vC<|.int 7) (vC<|.int 2) [J<|Rm .num,J<|.int p,U]=.ok (.int<|p/7%2):=bf (f6 rfl rfl) rfl;have eLq:uw (ak (vC<|.int 10)<|ak (aH oq (vC<|.int 10)<|vC<|.int 9) aQ) [J<|Rm .num,J<|.int p,U]=.ok (.lst [.int 10,.int 1000000000]):=rfl
   have:p/7%2=0\/p/7%2=1:=⊥
   rcases this with h|h<;>rw[h]at eIq
   .exact⟨10,ae eLq eIq rfl,∎,∎⟩
   .exact⟨1000000000,ae eLq eIq rfl,∎,∎⟩
  have b0q:=dW p (show k≠0 by lia);have b1:=dA p k0;exact⟨_,aq<|(skip<|t .name).trans<|aS<|(a8<|t .num).trans<|ar<|af (ac (bf rfl e k0) rfl)<|wr<|⊥,ajo (p%k) b0q<|⊥⟩
 by_cases hn3:c=.minus
 .subst hn3;have b0q:=dW p (show(1000:Int)≠0 by decide);have b1:=dA p (show(0:Int)<1000 by decide);exact⟨_,aq<|(skip<|t .name).trans<|(skip<|t .num).trans<|aS<|(a8<|t .minus).trans<|ar<|af (ac (sC (sC rfl rfl)<|bf rfl rfl) rfl)<|wr<|(by omega),agU (0-1-p%1000) ⊥<|⊥⟩
 by_cases hn4:c=.text
 .subst hn4;obtain⟨k,e,k0,k1⟩:∃k:Int,aH cR (uw<|ak (vC<|.int 0)<|ak (vC<|.int 1)<|ak (vC<|.int 3)<|ak (vC<|.int 40) aQ) (aH gk (aH lO (ag 1)<|vC<|.int 7)<|vC<|.int 4) [J<|Rm .text,J<|.int p,U]=.ok (.int k)/\0<=k/\k<=40:=by
   have eIq:aH gk (aH lO (ag 1)<|vC<|.int 7) (vC<|.int 4) [J<|Rm .text,J<|.int p,U]=.ok (.int<|p/7%4):=bf (f6 rfl rfl) rfl
   have:p/7%4=0\/p/7%4=1\/p/7%4=2\/p/7%4=3:=⊥
   rcases this with h|h|h|h<;>rw[h]at eIq<;>exact⟨_,ae rfl eIq rfl,∎,∎⟩
  obtain⟨z,Rt,hz⟩:=signs p k k0 k1;exact⟨_,aq<|(skip<|t .name).trans<|(skip<|t .num).trans<|(skip<|t .minus).trans<|aS<|(a8<|t .text).trans<|ar<|af (ac (af (ac rfl (ac e rfl)) Rt) rfl)<|Bt z hz,aio z hz⟩
 have ekq:j9 [Rm c,.int p]=.ok (.str<|aw c.s.cps.toList):=by
  rw[<-zn];have t':∀d,c≠d->dC (aH jp (ag 0)<|vC<|Rm d) [J<|Rm c,J<|.int p,U]=.ok η:=fun d h=>(t d).trans (by rw[TU h]);exact aq<|(skip<|t' .name hn).trans<|(skip<|t' .num hn2).trans<|(skip<|t' .minus hn3).trans<|(skip<|t' .text hn4).trans<|(skip<|t' .Fg h3).trans<|ar rfl
 refine⟨_,ekq,?_⟩;by_cases hk:c.kd=.key
 .exact ajn c hk
 .refine ajp c ?_;cases c<;>first|rfl|exact absurd rfl hk|exact absurd rfl h1|exact absurd rfl h2|exact absurd rfl h3|exact absurd rfl hn|exact absurd rfl hn2|exact absurd rfl hn3|exact absurd rfl hn4
theorem afG(p:Int):∃y,j9 [Rm .Fg,.int p]=.ok (.str<|aw y)/\y∈gO:=by
 have m0:=dW p (show(12:Int)≠0 by decide);have m1:=dA p (show(0:Int)<12 by decide);have eIq:∀o,aH gk (ag 1) (vC<|.int 12) [J<|Rm .Fg,J<|.int p,o]=.ok (.int<|p%12):=fun o=>bf rfl rfl;have eLq:uw (ak (vC<|.str "A")<|ak (vC<|.str "!")<|ak (vC<|.str "abcdefghi")<|ak (vC<|.str "007")<|ak (vC<|.str "-")<|ak (vC<|.str "-0")<|ak (aH eZ (vC<|.str "1")<|aH qX (vC<|.str "0")<|vC<|.int 18)<|ak (vC<|.str "\"x")<|ak (vC<|.str "+")<|ak (vC<|.str "[")<|ak (aH eZ (aH eZ (vC<|.str "\"")<|aH qX (vC<|.str "a")<|vC<|.int 41)<|vC<|.str "\"")<|ak (vC<|.str "\n") aQ) [J<|Rm .Fg,J<|.int p,U]=.ok (.lst<|gO.map fun y=>.str<|aw y):=by ext
 obtain⟨k,hk⟩:=Int.eq_ofNat_of_zero_le m0;rw[hk]at m1 eIq;have hb:gO.length=12:=rfl;have hx:k<gO.length:=⊥
 refine⟨gO[k],?_,yL hx⟩;have t:∀d:Rl,dC (aH jp (ag 0)<|vC<|Rm d) [J<|Rm .Fg,J<|.int p,U]=.ok (decide (Rl.Fg=d)):=fun d=>ao<|ae rfl rfl (uI .Fg d);exact aq<|(skip<|t .name).trans<|(skip<|t .num).trans<|(skip<|t .minus).trans<|(skip<|t .text).trans<|aS<|(a8<|t .Fg).trans<|aJ (au eLq)<|ar<|ae rfl (eIq _) (oj (fun y=>D.str<|aw y) gO<|WT hx)
theorem aav{d:D}(hd:Sj d=G\/d=.lst [.str "from"])(h:wm [J d] []=.er "BadQuestion" []):Wr pj [d]=.ok (.bl G):=by
 have e:pj [d] []=.ok (.bl G) []:=by
  have hc:dm [] wm (aK (ji []<|ag 0) bj) (aZ 2 [d]) []=.er "BadQuestion" []:=aM (bg (tu rfl rfl) rfl)<|vS h rfl;refine cL<|BS ?_;unfold uj;rw[hc];rfl
 unfold Wr;mright
theorem amq{s:Sx}(h:qP s=.ok d s'):∃ds,d=.tup ds:=by
 have b:∀{α:Type}(q:Q Sx α)(f:α->Sx->Q Sx D),q.bind f=.ok d s'->∃a s1,f a s1=.ok d s':=fun q f h=>by
  cases q with
  |ok a s1=>exact⟨a,s1,h⟩
  |er s1=>nofun
 obtain⟨_,_,h⟩:=b _ _ h
 grind
def a0:Option Nat->D
 |none=>.S9
 |some n=>.int (n:Int)
theorem ajE{ι:FA}(h:ι Y=.ok xs)(h2:L2.PF i ψ xs Y L=r):kE P i ι ψ Y L=r:=by unfold kE;rw[h];exact h2
theorem sG(h:ψ (Y.set i<|J x) L=.nx δ' μ'):L2.PF i ψ (x::r) Y L=L2.PF i ψ r δ' μ':=by rw[L2.PF,h]
theorem alI(h:α Y L=.ok l μ1)(hp:f8 l=J ds)(hg:g ds=.ok d):Ft g α Y L=.ok d μ1:=by
 unfold Ft;rw[h];show(match f8 l with|some ds=>_|none=>_)=_
 mright
abbrev Wa(m:gi){P:Ru}{i:Nat}{ι:FA}{ψ r:gi}(_:m=bZ (kE P i ι ψ) r):gi:=ψ
abbrev wd:gi:=Wa xr rfl
theorem Jc{z:Str}{ts:List Tok}{ws:List<|Rl×Nat}(h:kY z ts)(r:U1 ts ws)(o:Option D)(x:D):∃y,wd [J<|.str z,J<|a0<|SV kS ws,J x,o] []=.nx [J<|.str z,J<|a0<|SV kS ws,J x,J y] []:=by
 have hq:=a_q r;have hf:=akd h;have hr:=afo h;cases e:qP ⟨ts,0,0⟩with
 |ok d s=>
  rw[e]at hq hf hr;have ha:SV kS ws=U:=hq;have hf:Wr l6 [.str z]=.ok .S9:=hf;have hr:wm [J<|.str z] []=.ok d []:=hr;obtain⟨ds,rfl⟩:=amq e;rw[ha];have hc:dm [] wm (aK (ji []<|ag 0) bj) [J<|.str z,J .S9,J x,J .S9] []=.ok (.tup ds) []:=aM (bg (tu rfl rfl) rfl)<|ka hr rfl;refine⟨.S9,eL (ee<|tu (af (ac rfl rfl) hf)<|af (ac rfl rfl) hf)<|gG (vU (b:=η) (aR<|ao rfl)<|NS (aR<|ao rfl)<|FJ<|bw<|alI (bg hc<|bg qt rfl) rfl rfl)<|gG (aR<|Bu<|ao rfl)<|F2 (aR<|Bu<|ao rfl) rfl⟩
 |er s=>
  rw[e]at hq hf hr;have ha:SV kS ws=J s.hd.a:=hq;have hf:Wr l6 [.str z]=.ok (.int (s.hd.a:Int)):=hf;have hr:wm [J<|.str z] []=.er "BadQuestion" []:=hr;rw[ha];have hR:=aav (d:=.str z) (.inl rfl) hr;have hn:dC (aH xF (ag 3)<|ag 1) [J<|.str z,J<|a0<|J s.hd.a,J x,J<|.int (s.hd.a:Int)]=.ok η:=by
   refine ao<|ae rfl rfl ?_;show xF (.int (s.hd.a:Int)) (.int (s.hd.a:Int))=_;rw[amb,Th rfl];rfl
  exact⟨.int s.hd.a,eL (ee<|tu (hf)<|hf)<|gG rfl (gG (aR<|kW rfl (lR rfl (hn)))<|F2 (aR<|(qj<|eV (hR) rfl)) rfl)⟩
theorem T9{z:Str}{ts:List Tok}{ws:List<|Rl×Nat}(h:kY z ts)(r:U1 ts ws):Wr yo [.str z,a0<|SV kS ws]=.ok (.bl G):=by
 obtain⟨y1,e1⟩:=Jc h r U<|.int 0;obtain⟨y2q,Rt⟩:=Jc h r (J y1)<|.int 1;have e:yo [J<|.str z,(a0<|SV kS ws)] []=.ok (.bl G) []:=
  cL (eL (((sG e1).trans<|(sG Rt).trans rfl)) rfl)
 unfold Wr;mright
theorem afB(i:Int)(h0:0<=i)(h1:i<4):∃d,cR (.lst [.S9,.int 5,.lst [.str "from"],.tup [.str "ask"]]) (.int i)=.ok d/\Wr pj [d]=.ok (.bl G):=by
 have:i=0\/i=1\/i=2\/i=3:=⊥
 rcases this with rfl|rfl|rfl|rfl
 .exact⟨_,rfl,rfl⟩
 .exact⟨_,rfl,rfl⟩
 .exact⟨_,rfl,rfl⟩
 .exact⟨_,rfl,rfl⟩
noncomputable def jd:QY->List Rl
 |.lY=>[.UW,.name]|.UX=>[.fh,.comma,.where_]|.bp=>[.take,.fc,.dot]
 |.dn=>[.name,.take,.dot]|.ZA=>[.rpar,.lb,.order,.dot]|.dot=>[.comma,.name]|.sj=>[.none_,.dot]
 |.UC=>[.comma,.rpar,.lb]|.iI=>[.ZZ,.lpar,.rpar]|.vI=>[.UW,.order,.rpar,.comma,.where_]
 |.i9=>[.name,.UW]|.wd=>[.down,.UW]|.bor=>[.take,.order,.comma]|.e7=>[.down,.take]
 |.yP=>[.down,.UW,.where_]|.iO=>[.minus,.name,.none_]|.js=>[.comma,.num,.take]|.no=>[]
theorem akr(d:QY)(h:d≠.no):K6 [J<|.str d.s] []=.ok (.lst<|(jd d).map Rm) []:=by
 cases d<;>first|grind|kernel_rfl
noncomputable def u3:List Rl:=[.lb,.fc,.down,.fh,.none_,.ZZ,.nj,.order,.UW,.take,.where_,.name,.num,.minus,.text,.eq,.ne,.lt,.le,.gt,.ge,.comma,.dot,.lpar,.rpar,.Fg,.Fg,.Fg]
theorem i5(ws:List Rl)(h:ws≠[])(j:Int):∃c,c∈ws/\cR (.lst<|ws.map Rm) (.int<|j%(ws.length:Int))=.ok (Rm c):=by
 have hl  := List.length_pos_iff.mpr h;have h0:=dW j (b:=ws.length) ⊥;have h1:=dA j (b:=ws.length) ⊥;obtain⟨k,hk⟩:=Int.eq_ofNat_of_zero_le h0;rw[hk]at h1⊢;have hx:k<ws.length:=⊥
 exact⟨ws[k],yL hx,oj Rm ws<|WT hx⟩
theorem alG(i:Int):∃c,c∈u3/\OF [.int i]=.ok (Rm c):=by
 obtain⟨c,h,e⟩:=i5 u3 ∎ i;refine⟨c,h,aq<|aJ rfl ((ar<|e))⟩
def u6(s:St)(c:Rl):Prop:=c=.end_->Rl.end_∈Rn s
theorem alH{c:Rl}(h:c∈u3):c≠.value/\c≠.end_:=(by decide:∀c∈u3,c≠.value/\c≠.end_) c h
theorem aks(d:QY){c:Rl}(h:c∈jd d):c≠.value/\c≠.end_:=by
 revert c
 cases d<;>decide
theorem akt(d:QY)(h:d≠.no):jd d≠[]:=by cases d<;>first|grind|decide
def dc(τ:FT)(Y:Sd):Prop:=∃b,τ Y=.ok b
theorem dc.and(h:dc τ Y)(h2:dc υ Y):dc (mQ τ υ) Y:=by
 obtain⟨a,h⟩:=h;obtain⟨b,h2⟩:=h2;cases a with
 |true=>exact⟨_,kW h h2⟩
 |false=>exact⟨_,Bu h⟩
theorem nK{ψ χ:gi}{P:List Rl->Prop}{L μ2:Rx}(h:dc τ<|fill [0] L Y)(h1:∃ws,ψ Y L=.rt (.lst<|ws.map Rm) μ2/\P ws)(h2:∃ws,χ Y L=.rt (.lst<|ws.map Rm) μ2/\P ws):∃ws,bZ (pf 1 (uv [0] τ) ψ qG) χ Y L=.rt (.lst<|ws.map Rm) μ2/\P ws:=by
 obtain⟨b,h⟩:=h;cases b with
 |true=>
  obtain⟨ws,e,p⟩:=h1;exact⟨ws,BS<|kR (aR h) e,p⟩
 |false=>
  obtain⟨ws,e,p⟩:=h2;exact⟨ws,gG (aR h) e,p⟩
theorem ne_nil(s:St):xF (.lst<|(Rn s).map Rm) (.lst [])=.ok (.bl<|!decide (Rn s=[])):=by
 have h0:∀b(x y:List Rl),xF (.lst<|x.map Rm) (.lst [])=.ok (.bl<|!(x=[]))->xF (.lst<|y.map Rm) (.lst [])=.ok (.bl<|!(y=[]))->xF (.lst<|(if b=G then x else y).map Rm) (.lst [])=.ok (.bl<|!((if b=G then x else y)=[])):=fun b x y h h2=>by
  grind
 obtain⟨fX,nx,src,UC,lg,dep,ord,shw⟩:=s;cases fX
 case ZA=>
  simp only[Rn];by_cases h:UC<20<;>by_cases h2:lg<20<;>simp only[h,h2,if_true,if_false]<;>ext
 case bp=>exact h0 _ _ _ (by ext) (by ext)
 case dn=>exact h0 _ _ _ (by ext) (by ext)
 case vI=>
  simp only[Rn];by_cases h:0<dep<;>simp only[h,if_true,if_false]<;>ext
 case bor=>exact h0 _ _ _ (by ext) (by ext)
 case e7=>exact h0 _ _ _ (by ext) (by ext)
 case yP=>exact h0 _ _ _ (by ext) (by ext)
 all_goals ext
abbrev Zg(m:gi){a b:gi}(_:m=bZ a b):gi:=b
abbrev Fe(m:gi){a b:gi}(_:m=bZ a b):gi:=a
theorem uP{ψ χ:gi}{P:List Rl->Prop}{L μ1 μ2:Rx}(h:ψ Y L=.nx δ' μ1)(h2:∃ws:List Rl,χ δ' μ1=.rt (.lst<|ws.map Rm) μ2/\P ws):∃ws:List Rl,bZ ψ χ Y L=.rt (.lst<|ws.map Rm) μ2/\P ws:=by
 obtain⟨ws,e,p⟩:=h2;exact⟨ws,eL h e,p⟩
theorem To(s:St)(l w:Str):wN (T6 s l w) (.str "due")=.ok (.str s.fX.s):=by rfl
theorem drawn(s:St)(hi:inv s=G)(l w:Str)(way p:Int):∃ws:List Rl,qI [U,J<|.int way,J<|.int p] [T6 s l w]=.ok (.lst<|ws.map Rm) [T6 s l w]/\∀c∈ws,c≠.value/\(c=.end_->ws=[.end_]/\Rl.end_∈Rn s):=by
 have hd:s.fX≠.no:=by unfold inv at hi;simp at hi;exact hi.1
 have ed:=To s l w;have ea:=Vo (l:=l) (w:=w) s hd;have hv:vw (T6 s l w)=T6 s l w:=rfl;generalize T6 s l w=S at ed ea hv;have ix:∀(j:Int)(ws:List Rl)(h:ws≠[])(Y:Sd)(φ ψ:FE),φ Y=.ok (.lst<|ws.map Rm)->ψ Y=.ok (.int<|j%(ws.length:Int))->∃c,c∈ws/\aH cR φ ψ Y=.ok (Rm c):=fun j ws h Y φ ψ h1 h2=>by
  obtain⟨c,hc,e⟩:=i5 ws h j;exact⟨c,hc,ae h1 h2 e⟩
 suffices h:∃ws:List Rl,fH (aZ 6 [U,J<|.int way,J<|.int p]) [S]=.rt (.lst<|ws.map Rm) [S]/\∀c∈ws,c≠.value/\(c=.end_->ws=[.end_]/\Rl.end_∈Rn s) by
  obtain⟨ws,e,h⟩:=h;exact⟨ws,cL e,h⟩
 have one:∀c:Rl,c≠.value->c≠.end_->∀d∈[c],d≠.value/\(d=.end_->[c]=[.end_]/\Rl.end_∈Rn s):=fun c h h2 d hd=>by
  rw[IF.mp hd];exact⟨h,fun z=>absurd z h2⟩
 rw[show fH=bZ _ _ from rfl];suffices h:∀Y,Y=[U,J<|.int way,J<|.int p,J<|.lst<|(Rn s).map Rm,U,U]->∃ws:List Rl,(Zg fH rfl) Y [S]=.rt (.lst<|ws.map Rm) [S]/\∀c∈ws,c≠.value/\(c=.end_->ws=[.end_]/\Rl.end_∈Rn s) by
  obtain⟨ws,e,h⟩:=h _ rfl;exact⟨ws,eL (ee<|aM (bA rfl)<|ka ea rfl) e,h⟩
 rintro Y rfl;have cm:∀(x y:FE)(d:Sd)(i j:Int),x d=.ok (.int i)->y d=.ok (.int j)->dc (dC<|aH jp x y) d:=fun x y d i j h h2=>⟨_,sV h h2⟩;have i3:∀(x y:FE)(d:Sd)(i j:Int),x d=.ok (.int i)->y d=.ok (.int j)->dc (dC<|aH Ed x y) d:=fun x y d i j h h2=>⟨_,ao<|ae h h2 vQ⟩;have ciq:∀(c:Rl)(d:Sd),d[3]?=J (J<|.lst<|(Rn s).map Rm)->dc (dC<|aH rE (vC<|Rm c)<|ag 3) d:=fun c d h=>⟨_,ao<|ae rfl (by show(match d[3]? with|some (J x)=>R.ok x|_=>.no)=_;rw[h]) (Eu c<|Rn s)⟩
 have cd:∀(z:Str)(d:Sd),d[0]?=J (J<|vw S)->dc (dC<|aH jp (aH wN (ag 0)<|vC<|.str "due")<|vC<|.str z) d:=fun z d h=>⟨_,ao<|ae (ae (by show(match d[0]? with|some (J x)=>R.ok x|_=>.no)=_;rw[h,hv]) rfl ed) rfl jg⟩
 refine nK (.and (cm _ _ _ _ _ rfl rfl)<|.and (ciq .comma _ rfl)<|i3 _ _ _ _ _ (bf rfl rfl) rfl) ⟨[.comma],eG<|tu rfl rfl,one .comma ∎<|∎⟩ ?_;obtain⟨c1,h1,e1⟩:=i5 [.lb,.nj] ∎<|p/8;refine nK (.and (cm _ _ _ _ _ rfl rfl)<|.and (cd _ _ rfl)<|i3 _ _ _ _ _ (bf rfl rfl) rfl) ⟨[.num,.lt,.none_,c1],eG<|tu (mx<|ac rfl (ac rfl (ac rfl (ac (ae rfl (bf (f6 rfl rfl) rfl) e1) rfl))))<|mx<|ac rfl (ac rfl (ac rfl (ac (ae rfl (bf (f6 rfl rfl) rfl) e1) rfl))),?_⟩ ?_
 .have k1:c1≠.value/\c1≠.end_:=(by decide:∀c∈([.lb,.nj]:List Rl),c≠.value/\c≠.end_) c1 h1;intro c hc;simp only[eQ,Vm,or_false]at hc;rcases hc with rfl|rfl|rfl|rfl
  .exact⟨∎,fun z=>nomatch z⟩
  .exact⟨∎,fun z=>nomatch z⟩
  .exact⟨∎,fun z=>nomatch z⟩
  .exact⟨k1.1,fun z=>absurd z k1.2⟩
 obtain⟨c2,h2,Rt⟩:=i5 [.ZZ,.lpar] ∎<|p/16;refine nK (.and (cm _ _ _ _ _ rfl rfl)<|.and (cd _ _ rfl)<|i3 _ _ _ _ _ (bf rfl rfl) rfl) ⟨[c2],eG<|tu (mx<|ac (ae rfl (bf (f6 rfl rfl) rfl) Rt) rfl)<|mx<|ac (ae rfl (bf (f6 rfl rfl) rfl) Rt) rfl,?_⟩ ?_
 .have k2:c2≠.value/\c2≠.end_:=(by decide:∀c∈([.ZZ,.lpar]:List Rl),c≠.value/\c≠.end_) c2 h2;exact one c2 k2.1 k2.2
 refine nK (.and (cd _ _ rfl)<|cm _ _ _ _ _ (bf rfl rfl) rfl) ⟨[.minus],eG<|tu rfl rfl,one .minus ∎<|∎⟩ ?_;refine nK (.and (ciq .take _ rfl)<|cm _ _ _ _ _ (bf rfl rfl) rfl) ⟨[.take],eG<|tu rfl rfl,one .take ∎<|∎⟩ ?_;obtain⟨c3,h3,Ua⟩:=alG<|p/64;have k3:=alH h3;have W0:∀c:Rl,c≠.end_->u6 s c:=fun c h z=>absurd z h;refine uP (ee<|aN<|af (ac (f6 rfl rfl) rfl) Ua) ?_;obtain⟨c4,o4,vA,k4⟩:∃(c:Rl)(o:Option D),(Fe (Zg (Zg (Zg (Zg (Zg (Zg (Zg fH rfl) rfl) rfl) rfl) rfl) rfl) rfl) rfl) [U,J<|.int way,J<|.int p,J<|.lst<|(Rn s).map Rm,J<|Rm c3,U] [S]=.nx [U,J<|.int way,J<|.int p,J<|.lst<|(Rn s).map Rm,J<|Rm c,o] [S]/\u6 s c:=by
  obtain⟨j,ej⟩:∃j:Int,aH cR (uw<|ak (vC<|.int 3)<|ak (vC<|.int 0) aQ) (aI J8<|ak (aH Ed (ag 1)<|vC<|.int 0) aQ) (fill [0] [S] [U,J<|.int way,J<|.int p,J<|.lst<|(Rn s).map Rm,J<|Rm c3,U])=.ok (.int j):=by
   have eg:aH Ed (ag 1) (vC<|.int 0) (fill [0] [S] [U,J<|.int way,J<|.int p,J<|.lst<|(Rn s).map Rm,J<|Rm c3,U])=.ok (.bl<|decide (way > 0)):=ae rfl rfl vQ;cases hb:decide (way > 0)with
   |true=>rw[hb]at eg;exact⟨0,ae rfl (af (ac eg rfl) rfl) rfl⟩
   |false=>rw[hb]at eg;exact⟨3,ae rfl (af (ac eg rfl) rfl) rfl⟩
  have t1:dC (aH Ed (aH gk (ag 2)<|vC<|.int 16)<|aH cR (uw<|ak (vC<|.int 3)<|ak (vC<|.int 0) aQ)<|aI J8<|ak (aH Ed (ag 1)<|vC<|.int 0) aQ) (fill [0] [S] [U,J<|.int way,J<|.int p,J<|.lst<|(Rn s).map Rm,J<|Rm c3,U])=.ok (decide (p%16 > j)):=ao<|ae (bf rfl rfl) ej vQ;have t2:dC (aH xF (ag 3)<|uw aQ) (fill [0] [S] [U,J<|.int way,J<|.int p,J<|.lst<|(Rn s).map Rm,J<|Rm c3,U])=.ok (!decide (Rn s=[])):=ao<|ae rfl rfl (ne_nil s);by_cases hc:p%16 > j/\Rn s≠[]
  .rw[Th hc.1]at t1;rw[TU hc.2]at t2;obtain⟨c,h,e⟩:=i5 (Rn s) hc.2<|p/16;have hl:0<(Rn s).length:=List.length_pos_iff.mpr hc.2;exact⟨c,U,kR (aR<|kW t1 t2)<|ee<|aN<|ae rfl (bf (f6 rfl rfl) (af (ac rfl rfl)<|CK Rm<|Rn s)<|⊥) e,fun z=>z▸h⟩
  .have t3:mQ (dC<|aH Ed (aH gk (ag 2)<|vC<|.int 16)<|aH cR (uw<|ak (vC<|.int 3)<|ak (vC<|.int 0) aQ)<|aI J8<|ak (aH Ed (ag 1)<|vC<|.int 0) aQ) (dC<|aH xF (ag 3)<|uw aQ) (fill [0] [S] [U,J<|.int way,J<|.int p,J<|.lst<|(Rn s).map Rm,J<|Rm c3,U])=.ok η:=by
    by_cases h1:p%16 > j
    .rw[Th h1]at t1;have h2:Rn s=[]:=Classical.byContradiction fun z=>hc ⟨h1,z⟩;rw[Th h2]at t2;exact kW t1 t2
    .rw[TU h1]at t1;exact Bu t1
   have t4q:dC (aH Ed (aH gk (ag 2)<|vC<|.int 16)<|vC<|.int 0) (fill [0] [S] [U,J<|.int way,J<|.int p,J<|.lst<|(Rn s).map Rm,J<|Rm c3,U])=.ok (decide (p%16 > 0)):=ao<|ae (bf rfl rfl) rfl vQ;by_cases h0:p%16 > 0
   .rw[Th h0]at t4q;have hn:=akt s.fX hd;obtain⟨c,h,e⟩:=i5 (jd s.fX) hn<|p/16;have hl:0<(jd s.fX).length:=List.length_pos_iff.mpr hn;have u7:=akr s.fX hd;have kn:=aks s.fX h;refine⟨c,J<|.lst<|(jd s.fX).map Rm,F2 (aR t3)<|kR (aR t4q)<|eL (ee<|aM (bg (aN<|ae (show ag 0 _=R.ok S from by show R.ok (vw S)=_;rw[hv]) rfl ed) rfl)<|ka u7 rfl)<|ee<|aN<|ae rfl (bf (f6 rfl rfl) (af (ac rfl rfl)<|CK Rm<|jd s.fX)<|⊥) e,W0 c kn.2⟩
   .rw[TU h0]at t4q;exact⟨c3,U,F2 (aR t3)<|F2 (aR t4q) rfl,W0 c3 k3.2⟩
 refine uP vA ?_;obtain⟨c5q,xt,k5⟩:∃c:Rl,(Fe (Zg (Zg (Zg (Zg (Zg (Zg (Zg (Zg fH rfl) rfl) rfl) rfl) rfl) rfl) rfl) rfl) rfl) [U,J<|.int way,J<|.int p,J<|.lst<|(Rn s).map Rm,J<|Rm c4,o4] [S]=.nx [U,J<|.int way,J<|.int p,J<|.lst<|(Rn s).map Rm,J<|Rm c,o4] [S]/\u6 s c:=by
  obtain⟨b,t⟩:=dc.and (i3 (ag 1) (vC<|.int 1) (fill [0] [S] [U,J<|.int way,J<|.int p,J<|.lst<|(Rn s).map Rm,J<|Rm c4,o4]) _ _ rfl rfl)<|.and (ciq .where_ _ rfl)<|i3 (aH gk (aH lO (ag 2)<|vC<|.int 16)<|vC<|.int 4) (vC<|.int 0) _ _ _ (bf (f6 rfl rfl) rfl) rfl;cases b with
  |true=>exact⟨.where_,kR (aR t)<|ee qt,W0 _<|∎⟩
  |false=>exact⟨c4,F2 (aR t) rfl,k4⟩
 refine uP xt ?_;obtain⟨c6q,eT,n6q,Ez⟩:∃c:Rl,(Fe (Zg (Zg (Zg (Zg (Zg (Zg (Zg (Zg (Zg fH rfl) rfl) rfl) rfl) rfl) rfl) rfl) rfl) rfl) rfl) [U,J<|.int way,J<|.int p,J<|.lst<|(Rn s).map Rm,J<|Rm c5q,o4] [S]=.nx [U,J<|.int way,J<|.int p,J<|.lst<|(Rn s).map Rm,J<|Rm c,o4] [S]/\c≠.value/\u6 s c:=by
  have t:dC (aH jp (ag 4)<|vC<|.str "VALUE") (fill [0] [S] [U,J<|.int way,J<|.int p,J<|.lst<|(Rn s).map Rm,J<|Rm c5q,o4])=.ok (decide (c5q=.value)):=ao<|ae rfl rfl (uI c5q .value);by_cases h:c5q=.value
  .rw[Th h]at t;obtain⟨c,h,e⟩:=i5 [.none_,.num,.minus,.text] ∎<|p/96;have k:c≠.value/\c≠.end_:=(by decide:∀c∈([.none_,.num,.minus,.text]:List Rl),c≠.value/\c≠.end_) c h;exact⟨c,kR (aR t)<|ee<|aN<|ae rfl (bf (f6 rfl rfl) rfl) e,k.1,W0 c k.2⟩
  .rw[TU h]at t;exact⟨c5q,F2 (aR t) rfl,h,k5⟩
 refine uP eT ⟨[c6q],eG<|tu rfl rfl,fun d hd=>?_⟩;rw[IF.mp hd];exact⟨n6q,fun z=>⟨by rw[z],Ez z⟩⟩
theorem qW(s:St)(l w:Str):wN (T6 s l w) (.str "line")=.ok (.str l):=by rfl
theorem akm(s:St)(l w:Str):wN (T6 s l w) (.str "last")=.ok (.str w):=by rfl
theorem qx{nl:Nat}{φ:FM}{s:St}{l w l':Str}(h:φ Y [T6 s l w]=.ok (.str l') [T6 s l w]):kG nl 0 "line" φ Y [T6 s l w]=.nx Y [T6 s l' w]:=by
 unfold kG;rw[h];ext
theorem aii{nl:Nat}{φ:FM}{s:St}{l w w':Str}(h:φ Y [T6 s l w]=.ok (.str w') [T6 s l w]):kG nl 0 "last" φ Y [T6 s l w]=.nx Y [T6 s l w']:=by
 unfold kG;rw[h];ext
def hZ:Ru:=[32,115,104,111,119,32,120]
theorem al2:lE " show x"=aw hZ:=⊤
theorem T2{s:St}{L y:Ru}{w:Str}{c:Rl}{p:Int}{g:Nat}(hi:inv s=G)(hL:L.length<=900)(hg:g<=2)(hy:y.length<=100)
  (eg:my [.str<|aw L,.str w,Rm c,.int<|p/512]=.ok (.str<|aw<|Ut g 32)) (es:j9 [Rm c,.int<|p/1024]=.ok (.str<|aw y)) (he:c≠.end_):
  rk [U,J<|Rm c,J<|.int p] [T6 s (aw L) w]=if SG c (Rn s)=G/\(L++Ut g 32).length+y.length<=900 then .ok .S9 [T6 (go s c) (aw<|L++Ut g 32++y) c.s]
   else .ok (.int ((L++Ut g 32).length:Int)) [T6 s (aw<|L++Ut g 32++y++hZ) w]:=by
 have hd:s.fX≠.no:=by unfold inv at hi;simp at hi;exact hi.1
 have ea:=Vo (l:=aw L) (w:=w) s hd;have el:=qW s (aw L) w;have ew:=akm s (aw L) w;have hl1:(L++Ut g 32).length=L.length+g:=∅
 have hl2:(L++Ut g 32++y).length=L.length+g+y.length:=by simp;lia
 have hsx:hZ.length=7:=rfl;have aGq:aH eZ (aH wN (ag 0)<|vC<|.str "line") (aI my<|ak (aH wN (ag 0)<|vC<|.str "line")<|ak (aH wN (ag 0)<|vC<|.str "last")<|ak (ag 1)<|ak (aH lO (ag 2)<|vC<|.int 512) aQ) (fill [0] [T6 s (aw L) w] [U,J<|Rm c,J<|.int p,J<|.lst<|(Rn s).map Rm,U,U])=.ok (.str<|aw<|L++Ut g 32):=
  ae (ae rfl rfl el) (af (ac (ae rfl rfl el)<|ac (ae rfl rfl ew)<|ac rfl (ac (f6 rfl rfl) rfl)) eg) (qe _ _<|by simp;lia)
 have oM:∀S o,aI j9 (ak (ag 1)<|ak (aH lO (ag 2)<|vC<|.int 1024) aQ) (fill [0] [S] [U,J<|Rm c,J<|.int p,J<|.lst<|(Rn s).map Rm,J<|.str<|aw<|L++Ut g 32,o])=.ok (.str<|aw y):=fun S o=>af (ac rfl (ac (f6 rfl rfl) rfl)) es;refine(cL (eL (ee<|aM (bA rfl)<|ka ea rfl)<|eL (ee<|aN aGq)<|eL (ee<|aN<|oM _ _)<|eL (qx<|aN<|ae rfl rfl (qe _ _<|⊥)) ?_):_=RM.ok (if SG c (Rn s)=G/\(L++Ut g 32).length+y.length<=900 then D.S9 else .int ((L++Ut g 32).length:Int)) (if SG c (Rn s)=G/\(L++Ut g 32).length+y.length<=900 then[T6 (go s c) (aw<|L++Ut g 32++y) c.s]else[T6 s (aw<|L++Ut g 32++y++hZ) w])).trans ?_
 .have t1:∀S,qN (lP<|aI qa<|ak (ag 1)<|ak (ag 3) aQ) (fill [0] [S] [U,J<|Rm c,J<|.int p,J<|.lst<|(Rn s).map Rm,J<|.str<|aw<|L++Ut g 32,J<|.str<|aw y])=.ok (!SG c (Rn s)):=fun S=>Fz<|eV (af (ac rfl (ac rfl rfl))<|ake c _) rfl;have t2:∀S,dC (aH Ed (aH eZ (aI cr<|ak (ag 4) aQ)<|aI cr<|ak (ag 5) aQ)<|vC<|.int 900) (fill [0] [S] [U,J<|Rm c,J<|.int p,J<|.lst<|(Rn s).map Rm,J<|.str<|aw<|L++Ut g 32,J<|.str<|aw y])=.ok (decide ((((L++Ut g 32).length:Int)+(y.length:Int)) > 900)):=fun S=>ao<|ae (ir (lf rfl (jo _<|⊥))<|lf rfl (jo _<|⊥)) rfl vQ;by_cases h:SG c (Rn s)=G/\(L++Ut g 32).length+y.length<=900
  .rw[SI h,SI h];rw[h.1]at t1;rw[TU<|⊥]at t2;exact gG (aR<|lR (t1 _)<|t2 _)<|eL (il<|aM (bA<|bg (aN rfl) rfl)<|ka (Tq h.1 he hi).1 rfl)<|eL (aii<|aN rfl)<|eG qt
  .rw[SM h,SM h];have t:∀S,KF (qN<|lP<|aI qa<|ak (ag 1)<|ak (ag 3) aQ) (dC<|aH Ed (aH eZ (aI cr<|ak (ag 4) aQ)<|aI cr<|ak (ag 5) aQ)<|vC<|.int 900) (fill [0] [S] [U,J<|Rm c,J<|.int p,J<|.lst<|(Rn s).map Rm,J<|.str<|aw<|L++Ut g 32,J<|.str<|aw y])=.ok G:=fun S=>by
    cases hf:SG c (Rn s)with
    |false=>rw[hf]at t1;exact P7<|t1 S
    |true=>
     rw[hf]at t1;rw[Th (by have:¬(L++Ut g 32).length+y.length<=900:=(fun z=>h ⟨hf,z⟩);lia)]at t2;exact lR (t1 S)<|t2 S
   refine BS<|kR (aR<|t _)<|eL (qx<|aN<|ae (ae rfl rfl (qW _ _ _)) rfl ?_)<|eG<|aN<|(jo _<|⊥);rw[al2];exact qe _ _ ⊥
 .split<;>rfl
theorem ku(Z Y:Ru):∀r:List It,txt (Z++Y) r=txt Z r++Y
 |[]=>rfl
 |i::r=>by simp[txt,ku Z Y r]
theorem txt_snoc(Z:Ru)(i:It):∀r:List It,txt Z (r++[i])=txt (Ut i.b 32++(i.w++Z)) r
 |[]=>rfl
 |j::r=>by simp[txt,txt_snoc Z i r]
theorem zg(Z:Ru)(q:List It):∀r:List It,txt Z (r++q)=txt (txt Z q) r
 |[]=>rfl
 |j::r=>by simp[txt,zg Z q r]
theorem xG{Z:Ru}{q:List It}:∀{r:List It},Good (txt Z q) r->Good Z q->Good Z (r++q):=@TB _ _ (@fun _ h=>h) fun j r i_=>@fun h h2=>⟨h.1,by
  show bh j.w (txt Z (r++q))=G;rw[zg];exact h.2.1,i_ h.2.2 h2⟩
theorem rT(Z:Ru)(r:List It):(txt Z r).length=(txt [] r).length+Z.length:=by
 have:=ku [] Z r
 mright
structure bB(s:St)(L:Ru)(w:Str)(r:List It)(m:Nat):Prop where
 l:L=txt (Ut m 32) r
 i:inv s=G
 n:L.length<=900
 a:∀e r2,SV kS (jP e 0<|r++r2)=SV s (jP e (txt [] r).length r2)
 b:r=[]\/(m=0/\∃(c:Rl)(y:Ru),w=c.s/\c≠.Fg/\gJ c y/\(∀Z,bh y Z=G->Good Z r)/\∃k d:Nat,L[k]?=J d/\33<=d/\d<127)
theorem PV(m:Nat)(h:m<=900):bB kS (Ut m 32) "" [] m:=⟨rfl,∎,by simp;exact h,fun e r2=>rfl,.inl rfl⟩
theorem ahD{s:ij}{h:Nat}(hs:s≠.Fg)(hh:Lf s h=G):33<=h/\h<127:=by
 cases s<;>first|grind|(simp[Lf,low,j7]at hh;lia)
theorem A0{s:St}{L:Ru}{w:Str}{r:List It}{m g:Nat}{c:Rl}{y Z:Ru}(h:bB s L w r m)(hy:∃a q,y=a::q/\Lf (gj c) a=G)(hr:∀c':Rl,w=c'.s->Txt.strip (aw L)≠aw []->g=0->cw (gj c') (gj c)=η):Good (Ut (m+g) 32++(y++Z)) r:=by
 rcases h.b with rfl|⟨rfl,c',y',hw,hb,hs,hGq,k,d,h1,h2,h3⟩
 .trivial
 .refine hGq _ ?_;obtain⟨a',q',rfl,ha'⟩:=hs.h;have hsr:gj c'≠.Fg:=fun z=>hb (by revert z;cases c'<;>decide);cases g with
  |zero=>
   obtain⟨a,q,rfl,ha⟩:=hy;exact aiF (hr c' hw (Nc h1<|no_space d h3 h2) rfl) hsr ha' ha
  |succ g=>exact zK hsr ha'
theorem akg{s:St}{L:Ru}{w:Str}{r:List It}{m:Nat}(h:bB s L w r m)(c:Rl)(p:Int):∃g,g<=2/\my [.str<|aw L,.str w,Rm c,.int p]=.ok (.str<|aw<|Ut g 32)/\(∀c':Rl,w=c'.s->Txt.strip (aw L)≠aw []->g=0->cw (gj c') (gj c)=η):=by
 refine gap L (by have:=h.n;lia) w c p ?_;rcases h.b with h2|⟨hm,c',y',hw,hb,hs,hGq,k,d,h1,h2,h3⟩
 .have:=h.l
  rw[h2]at this;exact .inl (by rw[this];exact air m)
 .exact .inr ⟨c',hw,Nc h1<|no_space d h3 h2⟩
theorem m2(s:St)(ws:List<|Rl×Nat)(c:Rl)(p:Nat):SV s ((c,p)::ws)=if SG c (Rn s)=G then(if c=.end_ then U else SV (go s c) ws)else J p:=rfl
theorem zE(s:St):SG .Fg (Rn s)=η:=by
 have h:=@z0 .Fg (Rn s)<|d6 s.fX;cases hf:SG .Fg (Rn s)with
 |false=>rfl
 |true=>
  have:=h hf<|AG s
  revert this
  generalize s.fX=d;cases d<;>decide
def lG(L:Ru)(o:Option Nat):Prop:=∀n,n<=1000->∃ts ws,kY (aw<|L++Ut n 32) ts/\U1 ts ws/\SV kS ws=o
theorem aji{s:St}{L:Ru}{w:Str}{r:List It}{m g:Nat}{y:Ru}(h:bB s L w r m)(hg:g<=2)(hy:y∈gO)(hr:∀c':Rl,w=c'.s->Txt.strip (aw L)≠aw []->g=0->cw (gj c') (gj .Fg)=η):lG (L++Ut g 32++y++hZ)<|J (L++Ut g 32).length:=fun n hn=>by
 have hyl:∃a q,y=a::q/\y.length<=100:=by
  simp only[eQ,Vm,or_false]at hy;rcases hy with rfl|rfl|rfl|rfl|rfl|rfl|rfl|rfl|rfl|rfl|rfl|rfl<;>exact⟨_,_,rfl,∎⟩
 obtain⟨a,q,e,hl⟩:=hyl;have hn9:=h.n;have eLq:L++Ut g 32++y++hZ++Ut n 32=txt (Ut (m+g) 32++(y++Z1 n)) r:=by
  rw[<-qH,Vw<|Ut m 32,ku,<-h.l];show _=L++(Ut g 32++(y++(hZ++Ut n 32)));simp
 have hlen:(L++Ut g 32++y++hZ++Ut n 32).length<=80000:=by
  have:hZ.length=7:=rfl
  grind
 rw[eLq]at hlen⊢;obtain⟨T,R⟩:=Ld (aj0 hy (m+g) n hn) r (A0 h ⟨a,q,e,rfl⟩ hr) hlen;refine⟨_,_,T,R,?_⟩;have ha:=h.a (mm<|m+g) [];rw[Wz]at ha;rw[ha];show SV s [(Rl.Fg,(txt [] r).length+(m+g))]=_;rw[m2,zE,SM<|∎]
 have:=rT (Ut m 32) r
 rw[<-h.l]at this;simp only[LX,Kd]at this⊢;rw[this,Nat.add_assoc]
def nR:It:=⟨1,kK "show",.UW,[115,104,111,119]⟩
def cJ:It:=⟨1,kN "x",.name,[120]⟩
theorem ajf:D1 nR:=by
 refine⟨?_,fun a b=>⟨rfl,fun _=>rfl,(fun z=>nomatch z),(fun z=>nomatch z),∎⟩⟩
 exact .key _ ∎ ∎ rfl
theorem ang:D1 cJ:=by
 refine⟨?_,fun a b=>⟨rfl,fun z=>absurd rfl z,(fun z=>nomatch z),(fun z=>nomatch z),∎⟩⟩
 exact .name _ ∎ ∎ rfl
theorem ajj{s:St}{L:Ru}{w:Str}{r:List It}{m g:Nat}{c:Rl}{y:Ru}(h:bB s L w r m)(hg:g<=2)(hy:gJ c y)(hb:c≠.Fg)(hr:∀c':Rl,w=c'.s->Txt.strip (aw L)≠aw []->g=0->cw (gj c') (gj c)=η)(hf:¬(SG c (Rn s)=G/\(L++Ut g 32).length+y.length<=900)):lG (L++Ut g 32++y++hZ)<|J (L++Ut g 32).length:=fun n hn=>by
 obtain⟨x,hx,ho⟩:=hy.sp;have hl:=hy.l;have hn9:=h.n;obtain⟨a,q,e,hd⟩:=hy.h;have hsr:gj c≠.Fg:=fun z=>hb (by revert z;cases c<;>decide);have eZq:txt (Ut n 32) [⟨m+g,x,c,y⟩,nR,cJ]=Ut (m+g) 32++(y++(hZ++Ut n 32)):=by
  simp[txt,nR,cJ,hZ]
 have eLq:L++Ut g 32++y++hZ++Ut n 32=txt (Ut n 32) (r++[⟨m+g,x,c,y⟩,nR,cJ]):=by
  rw[zg,eZq,<-qH,Vw<|Ut m 32,ku,<-h.l];simp
 have hlen:(L++Ut g 32++y++hZ++Ut n 32).length<=80000:=by
  have:hZ.length=7:=rfl
  grind
 rw[eLq]at hlen⊢;have hGq:Good (Ut n 32)<|r++[⟨m+g,x,c,y⟩,nR,cJ]:=xG (by exact A0 h hy.h hr) ⟨⟨hx,ho⟩,by
  subst e;exact zK hsr hd,ajf,rfl,ang,by
   cases n with
   |zero=>rfl
   |succ n=>rfl,trivial⟩
 obtain⟨T,R⟩:=Ld (SD n) _ hGq hlen;refine⟨_,_,T,R,?_⟩;rw[h.a<|E3 n];have hp:=rT (Ut m 32) r;rw[<-h.l]at hp;simp only[LX,Kd]at hp hf⊢;show SV s (if(txt [] r).length+(m+g)+y.length<=900 then(c,(txt [] r).length+(m+g))::_ else[(.Fg,(txt [] r).length+(m+g))])=_;by_cases h9:(txt [] r).length+(m+g)+y.length<=900
 .rw[SI h9,m2,SM fun z=>hf ⟨z,⊥⟩,hp,Nat.add_assoc]
 .rw[SM h9,m2,zE,SM<|∎,hp,Nat.add_assoc]
def akG{s:St}{L:Ru}{w:Str}{r:List It}{m g:Nat}{c:Rl}{y:Ru}(h:bB s L w r m)(hg:g<=2)(hy:gJ c y)(hb:c≠.Fg)(he:c≠.end_)(hr:∀c':Rl,w=c'.s->Txt.strip (aw L)≠aw []->g=0->cw (gj c') (gj c)=η)(hf:SG c (Rn s)=G)(h9:(L++Ut g 32).length+y.length<=900):∃r',bB (go s c) (L++Ut g 32++y) c.s r' 0:=by
 obtain⟨x,hx,ho⟩:=hy.sp;obtain⟨a,q,e,hd⟩:=hy.h;have hsr:gj c≠.Fg:=fun z=>hb (by revert z;cases c<;>decide);have hp:=rT (Ut m 32) r;rw[<-h.l]at hp;simp only[LX,Kd]at hp h9;have eLq:L++Ut g 32++y=txt [] (r++[⟨m+g,x,c,y⟩]):=by
  rw[txt_snoc];show _=txt (Ut (m+g) 32++(y++[])) r;rw[<-qH,Vw<|Ut m 32,ku,<-h.l];simp
 refine⟨r++[⟨m+g,x,c,y⟩],(by exact eLq),(Tq (l:="") (w:="") hf he h.i).2,by simp only[LX,Kd];omega,fun Rt r2=>?_,.inr ⟨rfl,c,y,rfl,hb,hy,fun Z hZq=>xG (A0 h hy.h hr) ⟨⟨hx,ho⟩,hZq,trivial⟩,(L++Ut g 32).length,a,?_,ahD hsr hd⟩⟩
 .rw[Vw];rw[h.a Rt];show SV s (if(txt [] r).length+(m+g)+y.length<=900 then(c,(txt [] r).length+(m+g))::jP Rt ((txt [] r).length+(m+g)+y.length) r2 else[(.Fg,(txt [] r).length+(m+g))])=_;rw[SI<|⊥,m2]
  grind
 grind
theorem put{s:St}{L:Ru}{w:Str}{r:List It}{m:Nat}(h:bB s L w r m)(c:Rl)(hv:c≠.value)(he:c≠.end_)(p:Int):(∃s' L' w' r',rk [U,J<|Rm c,J<|.int p] [T6 s (aw L) w]=.ok .S9 [T6 s' (aw L') w']/\bB s' L' w' r' 0)\/∃f L',rk [U,J<|Rm c,J<|.int p] [T6 s (aw L) w]=.ok (.int (f:Nat)) [T6 s (aw L') w]/\L'.length<=2000/\lG L' (J f):=by
 obtain⟨g,hg,eg,hr⟩:=akg h c<|p/512;have hsx:hZ.length=7:=rfl;have hn:=h.n;by_cases hb:c=.Fg
 .subst hb;obtain⟨y,es,hy⟩:=afG<|p/1024;have hyl:y.length<=100:=by
   simp only[eQ,Vm,or_false]at hy;rcases hy with rfl|rfl|rfl|rfl|rfl|rfl|rfl|rfl|rfl|rfl|rfl|rfl<;>decide
  have e:=T2 h.i h.n hg hyl eg es he;rw[SM fun z=>by rw[zE]at z;exact absurd z.1<|∎]at e;exact .inr ⟨_,_,e,by simp only[LX,Kd];lia,aji h hg hy hr⟩
 .obtain⟨y,es,hy⟩:=ajm c hv he hb<|p/1024;have hyl:=hy.l;have e:=T2 h.i h.n hg hyl eg es he;by_cases hf:SG c (Rn s)=G/\(L++Ut g 32).length+y.length<=900
  .obtain⟨r',h'⟩:=akG h hg hy hb he hr hf.1 hf.2
   grind
  .rw[SM hf]at e;exact .inr ⟨_,_,e,by simp only[LX,Kd];lia,ajj h hg hy hb hr hf⟩
theorem M2{s:St}{L:Ru}{w:Str}{r:List It}{m:Nat}(h:bB s L w r m)(n:Nat)(hn:n<=1000):∃ts ws,kY (aw<|L++Ut n 32) ts/\U1 ts ws/\SV kS ws=if SG .end_ (Rn s)=G then U else J (L.length+n):=by
 have hn9:=h.n;have eLq:L++Ut n 32=txt (Ut (m+n) 32) r:=by
  rw[<-qH,ku,<-h.l]
 have hlen:(L++Ut n 32).length<=80000:=by simp;lia
 rw[eLq]at hlen⊢;have hGq:Good (Ut (m+n) 32) r:=by
  rcases h.b with rfl|⟨rfl,c',y',hw,hb,hs,hGq,_⟩
  .trivial
  .refine hGq _ ?_;obtain⟨a',q',rfl,ha'⟩:=hs.h;have hsr:gj c'≠.Fg:=fun z=>hb (by revert z;cases c'<;>decide);cases n with
   |zero=>rfl
   |succ n=>exact zK hsr ha'
 obtain⟨T,R⟩:=Ld (SD<|m+n) r hGq hlen;refine⟨_,_,T,R,?_⟩;have ha:=h.a (E3<|m+n) [];rw[Wz]at ha;rw[ha];have hp:=rT (Ut m 32) r;rw[<-h.l]at hp;simp only[Kd]at hp;show SV s [(Rl.end_,(txt [] r).length+(m+n))]=_;rw[m2,SI rfl,hp,Nat.add_assoc]
abbrev fvB(m:gi){nl i:Nat}{φ:FM}{ψ:gi}(_:m=CC nl i φ ψ):gi:=ψ
abbrev EK:gi:=Wa (Zg (Zg (Zg yq rfl) rfl) rfl) rfl
abbrev gW:gi:=fvB (Zg EK rfl) rfl
abbrev tB2(m:gi){nl:Nat}{τ:lM}{ψ χ:gi}(_:m=pf nl τ ψ χ):gi:=ψ
abbrev jD(ns:List Int)(way:Int)(pv3 pv4 pv5 pv6:Option D):Sd:=[J<|.lst<|ns.map D.int,U,J<|.int way,pv3,pv4,pv5,pv6,U]
def ez(s:St)(Lq:Ru)(w:Str):Prop:=∃r m,bB s Lq w r m
theorem aht(s:St):SG .end_ (Rn s)=decide (s.fX∈([.yP,.js]:List QY)):=by
 obtain⟨fX,nx,src,UC,lg,dep,ord,shw⟩:=s;have h:=@z0 .end_ (Rn ⟨fX,nx,src,UC,lg,dep,ord,shw⟩)<|d6 fX;cases fX
 case yP=>
  simp only[Rn];cases decide (shw<8)<;>rfl
 all_goals first|rfl|skip
 all_goals
  cases hf:SG .end_ (_)with
  |false=>rfl
  |true=>exact absurd (h hf<|AG _) ∎
theorem akx(s:St):rE (.str s.fX.s) (.tup [.str "behind shown",.str "over"])=.ok (.bl<|decide (s.fX∈([.yP,.js]:List QY))):=by
 obtain⟨fX,nx,src,UC,lg,dep,ord,shw⟩:=s;cases fX<;>ext
theorem blank_of(vs:Ru)(hv:∀n∈vs,n<=1000){φ:FE}{Y:Sd}{j:Int}(h:φ Y=.ok (.int<|j%(vs.length:Int)))(h0:vs≠[]){lφ:FE}(hl:lφ Y=.ok (.lst (vs.map fun n:Nat=>.int (n:Int)))):∃n,n<=1000/\aH qX (vC<|.str " ") (aH cR lφ φ) Y=.ok (.str<|aw<|Ut n 32):=by
 have hl0  := List.length_pos_iff.mpr h0;have b0q:=dW j (b:=vs.length) ⊥;have b1:=dA j (b:=vs.length) ⊥;obtain⟨k,hk⟩:=Int.eq_ofNat_of_zero_le b0q;rw[hk]at b1 h;have hx:k<vs.length:=⊥
 have hn:=hv _<|yL hx;exact⟨vs[k],hn,ae rfl (ae hl h<|oj (fun n:Nat=>D.int n) vs<|WT hx) (NH _ hn)⟩
theorem ahl{ns:List Int}{way p:Int}{pv3 pv5:Option D}{s:St}{Lq:Ru}{w:Str}{f:Option Nat}(hL:Lq.length<=2000)(hF:lG Lq f):(tB2 (Zg (Zg gW rfl) rfl) rfl) (jD ns way pv3 (J<|.int p) pv5<|J<|a0 f) [T6 s (aw Lq) w]=.bk (jD ns way pv3 (J<|.int p) pv5<|J<|a0 f) [T6 kS (aw []) ""]:=by
 obtain⟨n,hn,eb⟩:=blank_of [0,0,1,905] ∎ (Y:=(jD ns way pv3 (J<|.int p) pv5<|(a0 f))) (φ:=aH gk (aH lO (ag 4)<|vC<|.int 64)<|vC<|.int 4) rfl ∎ (lφ:=uw<|ak (vC<|.int 0)<|ak (vC<|.int 0)<|ak (vC<|.int 1)<|ak (vC<|.int 905) aQ) rfl;obtain⟨ts,ws,T,R,ha⟩:=hF n hn;have hr:=T9 T R;rw[ha]at hr;refine gG (aR<|qj<|eV (af (ac (ae rfl eb (qe _ _<|by simp;lia)) rfl) hr) rfl)<|eL ?_ rfl;rfl
def Fx(ns:List Int)(way:Int)(pv3:Option D)(p:Int)(Y:Sd)(L:Rx):Prop:=∃pv5 pv6 s Lq w,Y=jD ns way pv3 (J<|.int p) pv5 pv6/\L=[T6 s (aw Lq) w]/\ez s Lq w
theorem P1:ez kS [] "":=⟨[],0,PV 0<|∎⟩
theorem ag7{ns:List Int}{way p:Int}{pv3 pv6:Option D}{s:St}{Lq:Ru}{w:Str}(h:ez s Lq w)(c:Rl)(hv:c≠.value)(he:c=.end_->Rl.end_∈Rn s):∃δ' μ',(gW (jD ns way pv3 (J<|.int p) (J<|Rm c) pv6) [T6 s (aw Lq) w]=.nx δ' μ'\/gW (jD ns way pv3 (J<|.int p) (J<|Rm c) pv6) [T6 s (aw Lq) w]=.bk δ' μ')/\Fx ns way pv3 p δ' μ':=by
 obtain⟨r,m,h⟩:=h;have hn:=h.n;have t1:∀S o,dC (aH xF (ag 5)<|vC<|.str "END") (fill [1] [S]<|jD ns way pv3 (J<|.int p) (J<|Rm c) o)=.ok (!decide (c=.end_)):=fun S o=>ao<|ae rfl rfl (ane c .end_);have t2:∀S o,dC (aH jp (ag 5)<|vC<|.str "END") (fill [1] [S]<|jD ns way pv3 (J<|.int p) (J<|Rm c) o)=.ok (decide (c=.end_)):=fun S o=>ao<|ae rfl rfl (uI c .end_);have ask:∀(s':St)(L':Ru)(w':Str)(f:Option Nat),L'.length<=2000->lG L' f->(f=U->c=.end_)->(Zg (Zg gW rfl) rfl) (jD ns way pv3 (J<|.int p) (J<|Rm c)<|J<|a0 f) [T6 s' (aw L') w']=.bk (jD ns way pv3 (J<|.int p) (J<|Rm c)<|J<|a0 f) [T6 kS (aw []) ""]:=fun s' L' w' f hL hF hf=>by
  have e:=ahl (ns:=ns) (way:=way) (p:=p) (pv3:=pv3) (pv5:=J<|Rm c) (s:=s') (w:=w') hL hF;have t:KF (dC<|aH rX (ag 6)<|vC .S9) (dC<|aH jp (ag 5)<|vC<|.str "END") (fill [1] [T6 s' (aw L') w']<|jD ns way pv3 (J<|.int p) (J<|Rm c)<|J<|a0 f)=.ok G:=by
   cases f with
   |none=>
    have hc:=hf rfl;have t2:=t2 (T6 s' (aw L') w')<|J<|a0 U;rw[Th hc]at t2;exact lR (ao rfl) t2
   |some n=>exact P7<|ao rfl
  exact kR (aR t) e
 by_cases hc:c=.end_
 .rw[Th hc]at t1 t2;have hF:lG Lq U:=fun n hn=>by
   obtain⟨ts,ws,T,R,ha⟩:=M2 h n hn;have hf:SG .end_ (Rn s)=G:=by
    unfold SG;rw[Th<|he hc];rfl
   rw[hf,SI rfl]at ha;exact⟨ts,ws,T,R,ha⟩
  exact⟨_,_,.inr<|eL (ee qt)<|eL (F2 (aR<|t1 _ _) rfl)<|ask s Lq w U ⊥ hF fun _=>hc,_,_,_,_,_,rfl,rfl,P1⟩
 .rw[TU hc]at t1 t2;rcases put h c hv hc p with⟨s',L',w',r',e,h'⟩|⟨f,L',e,hL,hF⟩
  .have tn:KF (dC<|aH rX (ag 6)<|vC .S9) (dC<|aH jp (ag 5)<|vC<|.str "END") (fill [1] [T6 s' (aw L') w']<|jD ns way pv3 (J<|.int p) ((Rm c))<|J .S9)=.ok η:=lR rfl (t2 _ _);exact⟨_,_,.inl<|eL rfl (eL (kR (aR<|t1 _ _)<|ee<|aM rfl (ka e rfl))<|F2 (aR tn) rfl),_,_,_,_,_,rfl,rfl,⟨r',0,h'⟩⟩
  .exact⟨_,_,.inr<|eL rfl (eL (kR (aR<|t1 _ _)<|ee<|aM rfl (ka e rfl)) (ask s L' w (f) hL hF fun z=>nomatch z)),_,_,_,_,_,rfl,rfl,P1⟩
theorem LS{ns:List Int}{way p:Int}{pv3:Option D}:∀(ws:List Rl)(pv5 pv6:Option D)(s:St)(Lq:Ru)(w:Str),ez s Lq w->(∀c∈ws,c≠.value/\(c=.end_->ws=[.end_]/\Rl.end_∈Rn s))->∃δ' μ',L2.PF 5 gW (ws.map Rm) (jD ns way pv3 (J<|.int p) pv5 pv6) [T6 s (aw Lq) w]=.nx δ' μ'/\Fx ns way pv3 p δ' μ':=TB (fun pv5 pv6 s Lq w h _=>⟨_,_,rfl,_,_,_,_,_,rfl,rfl,h⟩) fun c r i_ pv5 pv6 s Lq w h hw=>by
  obtain⟨h1,h2⟩:=hw c ∅;obtain⟨δ',μ',e,hI⟩:=ag7 (ns:=ns) (way:=way) (p:=p) (pv3:=pv3) h c h1 fun z=>(h2 z).2;rcases e with e|e
  .have e':L2.PF 5 gW ((c::r).map Rm) (jD ns way pv3 (J<|.int p) pv5 pv6) [T6 s (aw Lq) w]=L2.PF 5 gW (r.map Rm) δ' μ':=sG e;obtain⟨q5,q6,s',L',w',rfl,rfl,h'⟩:=hI;obtain⟨δ2,μ2,Rt,hI2⟩:=i_ q5 q6 s' L' w' h' fun d hd=>⟨(hw d<|ie _ hd).1,fun z=>by
    grind⟩
   grind
  .refine⟨δ',μ',?_,hI⟩;show(match gW ((jD ns way pv3 (J<|.int p) pv5 pv6).set 5<|(Rm c)) [T6 s (aw Lq) w]with|.nx Y L=>_|.ct Y L=>_|.bk Y L=>RS.nx Y L|r=>r)=_
   mright
theorem agE(ns:List Int)(hl:ns.length<=100)(way:Int)(pv3 pv4 pv5 pv6:Option D)(s:St)(Lq:Ru)(w:Str)(h:ez s Lq w)(k:Int)(h1:1<=k)(h2:k<ns.length):∃q4 q5 q6 s' L' w',EK (jD ns way (J<|.int k) pv4 pv5 pv6) [T6 s (aw Lq) w]=.nx (jD ns way (J<|.int k) q4 q5 q6) [T6 s' (aw L') w']/\ez s' L' w':=by
 obtain⟨j,rfl⟩:=Int.eq_ofNat_of_zero_le (show 0<=k by lia);have hx:j<ns.length:=⊥
 have hi:inv s=G:=by obtain⟨r,m,h⟩:=h;exact h.i
 have ex:aH cR (ag 0) (ag 3) (fill [1] [T6 s (aw Lq) w]<|jD ns way (J<|.int (j:Int)) pv4 pv5 pv6)=.ok (.int ns[j]):=ae rfl rfl (oj D.int ns<|WT hx);have ep:aH gk (aH qX (aH eZ (aH cR (ag 0)<|ag 3)<|aH qX (vC<|.int 7919)<|ag 3)<|vC<|.int 48271) (vC<|.int 2147483647) ((jD ns way (J<|.int j) pv4 pv5 pv6))=.ok (.int<|(ns[j]+7919*j)*48271%2147483647):=bf (iH (ir ex rfl) rfl) rfl;generalize(ns[j]+7919*j)*48271%2147483647=p at ep;obtain⟨ws,ew,hw⟩:=drawn s hi (aw Lq) w way p;obtain⟨δ',μ',e,q5,q6,s',L',w',rfl,rfl,h'⟩:=LS ws pv5 pv6 s Lq w h hw;refine⟨J<|.int p,q5,q6,s',L',w',eL (ee<|aN ep) ?_,h'⟩;have ec:dm [0] qI (mw 0<|aK (ji [1]<|ag 2)<|aK (ji [1]<|ag 4) bj) (jD ns way (J<|.int j) (J<|.int p) pv5 pv6) [T6 s (aw Lq) w]=.ok (.lst<|ws.map Rm) [T6 s (aw Lq) w]:=aM rfl (ka ew rfl);show(dm [0] qI _ (jD ns way (J<|.int j) (J<|.int p) pv5 pv6) [T6 s (aw Lq) w]).bs 0 _=_;rw[ec];exact e
theorem J3(ns:List Int)(hl:ns.length<=100)(way:Int):∀(xs:Rx),(∀x∈xs,∃k:Int,x=.int k/\1<=k/\k<ns.length)->∀(pv3 pv4 pv5 pv6:Option D)(s:St)(Lq:Ru)(w:Str),ez s Lq w->∃q3 q4 q5 q6 s' L' w',L2.PF 3 EK xs (jD ns way pv3 pv4 pv5 pv6) [T6 s (aw Lq) w]=.nx (jD ns way q3 q4 q5 q6) [T6 s' (aw L') w']/\ez s' L' w':=TB (fun _ pv3 pv4 pv5 pv6 s Lq w h=>⟨_,_,_,_,_,_,_,rfl,h⟩) fun x r i_ hx pv3 pv4 pv5 pv6 s Lq w h=>by
  obtain⟨k,rfl,h1,h2⟩:=hx x ∅;obtain⟨q4,q5,q6,s1,Xa,w1,e1,i1⟩:=agE ns hl way pv3 pv4 pv5 pv6 s Lq w h k h1 h2;obtain⟨p3,p4,p5,p6,s2,L2,w2,Rt,i2⟩:=i_ (fun y hy=>hx y<|ie _ hy) (J<|.int k) q4 q5 q6 s1 Xa w1 i1;exact⟨p3,p4,p5,p6,s2,L2,w2,(sG e1).trans Rt,i2⟩
theorem aha{i j:Int}(a:-(2^62)<=i)(b:i<2^62)(c:-(2^62)<=j)(d:j<2^62):Eg [.int i,.int j]=.ok (aW i (j-i).toNat):=SI ⟨a,b,c,d⟩
def law_true(ns:List Int)(hl:ns.length<=100):Wr Cj [.lst<|ns.map D.int]=.ok (.bl G):=by
 have hc0:=abM ns 0 ∎;generalize cell ns 0=v at hc0;suffices h:Cj [J<|.lst<|ns.map D.int] []=.ok (.bl G) [] by
  unfold Wr;mright
 have cl:∀Y:Sd,ag 0 Y=.ok (.lst<|ns.map D.int)->aI gV (ak (ag 0)<|ak (vC<|.int 0) aQ) Y=.ok (.int v):=fun Y h=>af (ac h<|ac rfl rfl) hc0;refine cL ?_;rw[show yq=bZ _ _ from rfl];refine eL (δ':=[J<|.lst<|ns.map D.int,U,U,U,U,U,U,U]) (μ1:=[T6 kS "" ""]) ?_ ?_
 .unfold nS;rw[af (α:=aQ) (ds:=[]) rfl ajA];rfl
 obtain⟨m,hm,em⟩:∃m:Nat,m<=900/\aH qX (vC<|.str " ") (aH qX (vC<|.int 850)<|aI J8<|ak (aH jp (aH gk (aI gV<|ak (ag 0)<|ak (vC<|.int 0) aQ)<|vC<|.int 8)<|vC<|.int 1) aQ) (fill [1] [T6 kS "" ""] [J<|.lst<|ns.map D.int,U,U,U,U,U,U,U])=.ok (.str<|aw<|Ut m 32):=by
  have e1:aH jp (aH gk (aI gV<|ak (ag 0)<|ak (vC<|.int 0) aQ)<|vC<|.int 8) (vC<|.int 1) (fill [1] [T6 kS "" ""] [J<|.lst<|ns.map D.int,U,U,U,U,U,U,U])=.ok (.bl<|decide (v%8=1)):=ae (bf (cl _ rfl) rfl) rfl zf;cases hb:decide (v%8=1)with
  |true=>rw[hb]at e1;exact⟨850,∎,qd (i:=850*1) (iH rfl (af (ac e1 rfl) rfl)) ∎<|∎⟩
  |false=>rw[hb]at e1;exact⟨0,∎,qd (i:=850*0) (iH rfl (af (ac e1 rfl) rfl)) ∎<|∎⟩
 refine eL (qx<|aN em) ?_;refine iG (aN<|bf (f6 (cl _ rfl) rfl) rfl) ?_;have hr:nO (ak (vC<|.int 1)<|ak (aI cr<|ak (ag 0) aQ) aQ) (jD ns (v/8%5) U U U U)=.ok (aW 1 ((ns.length:Int)-1).toNat):=by
  unfold nO;rw[ac rfl (ac (lf rfl (CK D.int ns)) rfl),am];exact aha ∎ ∎ ⊥ ⊥
 have h0:ez kS (Ut m 32) "":=⟨[],m,PV m hm⟩;obtain⟨p3,p4,p5,p6,s,Lq,w,e,r,m',h⟩:=J3 ns hl (v/8%5) (aW 1 ((ns.length:Int)-1).toNat) (fun x hx=>by
  obtain⟨k,rfl,a,b⟩:=bms _ _ _ hx;exact⟨k,rfl,a,(by omega)⟩) U U U U kS (Ut m 32) "" h0
 refine eL (ajE hr e) ?_;have hn9:=h.n;have eoq:aH rE (aH wN (ag 1)<|vC<|.str "due") (uD<|ak (vC<|.str "behind shown")<|ak (vC<|.str "over") aQ) (fill [1] [T6 s (aw Lq) w]<|jD ns (v/8%5) p3 p4 p5 p6)=.ok (.bl<|SG .end_<|Rn s):=by
  rw[aht];exact ae (ae rfl rfl (To s (aw Lq) w)) rfl (akx s)
 refine iG (aN eoq) ?_;obtain⟨n,hn,eb⟩:=blank_of [0,0,0,1,3,905] ∎ (j:=v/40) (Y:=fill [1] [T6 s (aw Lq) w]<|(jD ns (v/8%5) p3 p4 p5 p6).set 7<|J<|.bl<|SG .end_<|Rn s) (φ:=aH gk (aH lO (aI gV<|ak (ag 0)<|ak (vC<|.int 0) aQ)<|vC<|.int 40)<|vC<|.int 6) (bf (f6 (cl _ rfl) rfl) rfl) ∎ (lφ:=uw<|ak (vC<|.int 0)<|ak (vC<|.int 0)<|ak (vC<|.int 0)<|ak (vC<|.int 1)<|ak (vC<|.int 3)<|ak (vC<|.int 905) aQ) rfl;refine eL (qx<|aN<|ae (ae rfl rfl (qW s (aw Lq) w)) eb<|qe _ _<|by simp;lia) ?_;obtain⟨ts,ws,T,R,ha⟩:=M2 h n hn;have hR:=T9 T R;rw[ha]at hR;have hlen:(Lq++Ut n 32).length=Lq.length+n:=∅
 have el:=qW s (aw<|Lq++Ut n 32) w;have ef:aH cR (uw<|ak (aI cr<|ak (aH wN (ag 1)<|vC<|.str "line") aQ)<|ak (vC .S9) aQ) (aI J8<|ak (ag 7) aQ) (fill [1] [T6 s (aw<|Lq++Ut n 32) w]<|(jD ns (v/8%5) p3 p4 p5 p6).set 7<|J<|.bl<|SG .end_<|Rn s)=.ok (a0<|if SG .end_ (Rn s)=G then U else J (Lq.length+n)):=by
  have e1:aI cr (ak (aH wN (ag 1)<|vC<|.str "line") aQ) (fill [1] [T6 s (aw<|Lq++Ut n 32) w]<|(jD ns (v/8%5) p3 p4 p5 p6).set 7<|J<|.bl<|SG .end_<|Rn s)=.ok (.int ((Lq.length+n:Nat):Int)):=by
   rw[<-hlen];exact lf (ae rfl rfl el) (jo _<|⊥)
  cases hf:SG .end_ (Rn s)with
  |true=>rw[hf]at e1;exact ae (mx<|ac e1<|ac rfl rfl) (af (ac rfl rfl) rfl) rfl
  |false=>rw[hf]at e1;exact ae (mx<|ac e1<|ac rfl rfl) (af (ac rfl rfl) rfl) rfl
 refine gG (aR<|qj<|eV (af (ac (ae rfl rfl el)<|ac ef rfl) hR) rfl) ?_;obtain⟨d,ed,er⟩:=afB (v/8%4) (dW _<|∎) (dA _<|∎);exact eG<|aN<|af (ac (ae rfl (bf (f6 (cl _ rfl) rfl) rfl) ed) rfl) er
end T67
namespace T67
open PySem L2
def acU(o:Obj):Bool:=match o with
 |⟨.none,U,.fields vs,_⟩=>vs.size==0
 |_=>η
noncomputable def K0(P:Params):aT:=(HD.K P).filter fun p=>!acU p.2
theorem afk{P:Params}{h:Heap}(X:(HD.K P).In h):(K0 P).In h:=fun b o e=>X b o<|Mi (by rw[show(HD.K P).map (·.1)=e6 571 from by ext];exact List.nodup_range) (dN.mp<|Ae e).1
theorem aoI(P:Params):AM (((K0 P).filterMap<|g6<|K0 P).map (·.1))=G:=by ext
theorem akD(P:Params):(((K0 P).filterMap<|g6<|K0 P).map fun x=>(HD.K P).lookup x.1)=((K0 P).filterMap<|g6<|K0 P).map fun _=>J<|ik #[]:=by ext
def la(m:nE)(q:Nat×Nat×Nat):Nat×SA×SA×nE:=(q.1,q.2.1+(HD.gb q.1).1-1,q.2.1+(HD.gb q.1).1-2,m)
def mp:nE:=.str "tablestore.piles" 271
def LA:Pl:=HD.r0.map (la HD.UT)++(HD.r1.map (la HD.U5)++(HD.r2.map (la HD.Va)++(HD.r3.map (la HD.n6)++(HD.r4.map (la HD.Vb)++[(1008,90,89,mp),(2008,97,96,mp),(3008,104,103,mp),(4008,111,110,mp),(5008,118,117,mp),(6008,125,124,mp),(7008,132,131,mp),(8008,139,138,mp),(1039,255,254,HD.n6),(2039,262,261,HD.n6),(3039,269,268,HD.n6)]))))
def qn(i:Nat):Str:=if i<1000 then Vk (tp i)else(if i%1000=8 then("Piles.":Str)else "Reader.")++Vk (tp i)
def ds:List Dq:=SK.flatMap Mz.ds
theorem e0:(ds.map fun q=>(Vk<|tp q.1.i,qn q.1.i))=ds.map fun q=>(q.1.x,q.2.1):=by ext
theorem e1(w:Sl):(ds.map fun q=>q.2.2.map<|DO (K0 w.params) mainGlobals)=ds.map fun q=>q.2.2.map fun _=>J<|J<|.ref<|fA LA q.1.i:=by ext
theorem Rt(w:Sl):(ds.map fun q=>(K0 w.params).lookup<|fA LA q.1.i)=ds.map fun q=>J ⟨.type "function",U,.func<|fZ tp qn LA q.1.i,#[]⟩:=by ext
theorem Ua(w:Sl):(ds.map fun q=>(Ea (K0 w.params) (.ref<|cA LA q.1.i) q.2.1,Xq (K0 w.params)<|.ref<|fA LA q.1.i))=ds.map fun _=>(G,G):=by ext
theorem vA:ds.map (WY tp)=ds.map W2:=by ext
theorem xt:(ds.map fun q=>decide (q.1.ps.length<=5))=ds.map fun _=>G:=by ext
theorem eT(w:Sl):SK.all (L2.m3 (K0 w.params) LA)=G:=by ext
theorem aoG(w:Sl):(cT.map fun q=>(DO (K0 w.params) mainGlobals q.1).bind fun o=>o.bind<|L2.wJ<|K0 w.params)=cT.map fun q=>J q.2:=by ext
theorem EJ(w:Sl):B9.map (DO (K0 w.params) mainGlobals)=B9.map fun _=>J U:=by ext
end T67
namespace T67
open PySem L2
theorem Nb{w:Sl}{K:aT}{h:Heap}{mg:Sq}(X:K.In h)(N:h.Ns mainGlobals mg){x:Str}{a:SA}{es:Array DictEntry}{n:Nat}{tab:List<|Str×D}(h1:DO K mainGlobals x=J (J<|.ref a))(h2:K.lookup a=J ⟨.type "dict",U,.dict es n,#[]⟩)(h3:ue w.params es.toList)(h4:(tab.map fun q=>(DO K a q.1).bind fun o=>o.bind<|L2.wJ K)=tab.map fun q=>J q.2):Hz w K mg x tab:=
 ⟨a,es,n,en X N h1,h2,h3,fun y d e=>tab_of (tab:=tab) (P:=fun y d=>∃v u,DO K a y=J (J u)/\aP v u/\∀H,bQ K H d v) (fun q hq=>by
  have e1:=Yj.mp h4 q hq;obtain⟨o,h1,h2⟩:=bY.mp e1;obtain⟨u,h3,h4⟩:=bY.mp h2;obtain⟨v,h5,h6,_⟩:=HN h4;exact⟨v,u,by rw[h1,h3],h5,h6⟩) e⟩
theorem N2{K:aT}{h:Heap}{mg:Sq}(X:K.In h)(N:h.Ns mainGlobals mg){n:Str}{C:SA}(h1:DO K mainGlobals n=J (J<|.ref C))(h2:ek K C Gj "ValueError.__new__"=G)(h3:Cm K (.ref C) (.ref C)=J G):Qq K mg n:=
 ⟨C,en X N h1,h2,fun x D hx hD=>by
  have e:x=n:=by
   unfold JD at hx;simpa using hx
  subst e
  have:=hD.symm.trans<|en X N h1
  cases this;exact⟨h1,h3⟩⟩
theorem all_mk{l:y4}{w:Sl}{h:Heap}{mg:Sq}{fa:SA}(X:(K0 w.params).In h)(N:h.Ns mainGlobals mg)(hfa:mg "law"=J (.ref fa)):
  ∃fd:FuncData,(∀(s:ID)(v:nE),BindsTo s fd ⟨[v],[]⟩ [("_law_script",v)])/\∀base:Heap,(K0 w.params).In base->base.Ns mainGlobals mg->T8 l.prog w (K0 w.params) mg base lD 20 fa fd vK.q.ps (rj (K0 w.params) mg<|Wr Cj):=by
 have hD:=QW (qn:=qn) X N (show SK.flatMap Mz.ds=ds from rfl) e0 (e1 w) (Rt w) (Ua w) vA xt<|eT w;have hq:Mz.ow vK yq∈SK:=Do (i:=66) (by ext);have nw:∃f fd,eB tp (K0 w.params) mg cU f fd:=⟨_,_,hD (.pl cU<|.pl pq)<|Do (i:=0)<|by ext⟩;have e:=hfa.symm.trans<|((hD _ hq).u .pl Up).2.2.2 "law" Up;cases e;refine⟨fZ tp qn LA vK.q.i,fun s v=>.of_eq<|by rfl,fun base _ _=>?_⟩;have T:Txt w (K0 w.params) mg:=⟨Pe X N<|aoG w,CB X N<|EJ w,
  Nb X N (a:=76) (es:=#[HD.Sg w.params "(" 273<|.int 0 274,HD.Sg w.params "or" 275<|.int 1 276,HD.Sg w.params "and" 277<|.int 2 278,HD.Sg w.params "not" 279<|.int 3 280]) (n:=4) (by ext) (by ext) ⟨⟨_,_,rfl,rfl⟩,⟨⟨_,_,rfl,rfl⟩,⟨⟨_,_,rfl,rfl⟩,⟨⟨_,_,rfl,rfl⟩,Uy⟩⟩⟩⟩ (by ext),
  ⟨272,by ext,⟨by ext,by ext,by ext,by ext⟩,bG (by unfold a9;ext)<|bG (by unfold a9;ext)<|bG (by unfold a9;ext)<|bG (by unfold a9;ext) fun _ h=>(nomatch h)⟩,
  ⟨142,by ext,⟨by ext,by ext,by ext,by ext⟩,bG (by unfold a9;ext)<|bG (by unfold a9;ext) fun _ h=>(nomatch h)⟩,
  N2 X N (C:=37) (by ext) (by ext) (by ext),N2 X N (C:=73) (by ext) (by ext)<|by ext,
  fun q hq=>by
   have e:(gT.map fun q=>(DO (K0 w.params) mainGlobals q.1,q.2))=gT.map fun q=>(J<|J<|.ref<|((DO (K0 w.params) mainGlobals q.1).bind fun o=>o.bind fun v=>match v with|.ref a=>J a|_=>U).getD 0,D.cls q.1):=by ext
   have:=Yj.mp e q hq
   exact⟨_,en X N (eh this).1,(eh this).1,(eh this).2⟩,
  nw,
  ⟨fun x hx=>by
   have e:(u5.cl.map fun x=>(DO (K0 w.params) mainGlobals x,x==("__debug__":Str)))=u5.cl.map fun x=>(J<|J<|.ref<|((DO (K0 w.params) mainGlobals x).bind fun o=>o.bind fun v=>match v with|.ref a=>J a|_=>U).getD 0,η):=by ext
   have:=Yj.mp e x hx
   exact⟨⟨_,en X N (eh this).1,(eh this).1⟩,(eh this).2⟩,ajt (by ext),CB X N (EJ w) _ ∎,CB X N (EJ w) _ ∎⟩⟩
 exact IU (fun Y k y=>Yu T y) (hU T) SK aC iB hD chz _ _ hq Up
theorem walk{l:y4}{q:Tc}{loose:SH}{XP:(Sq)->Heap->Prop}{YP:Sl->Heap->Prop}{d:DefRec}{K:Params->aT}(hn:l.most=J 63)(hdf:d.params.defaults=[])
  (hYq:∀(w:Sl)(h:Heap),YP w h->(K w.params).In h)
  (hT:∀(w:Sl)(h:Heap),YP w h->(((K w.params).filterMap<|g6<|K w.params).map (·.1)).Nodup/\∀x∈(K w.params).filterMap (g6<|K w.params),h.get? x.1=J (ik #[]))
  (F:∀(w:Sl)(mg:Sq)(fa:SA)(h:Heap),(K w.params).In h->h.Ns mainGlobals mg->mg d.name=J (.ref fa) ->
   ∃fd:FuncData,(∀(s:ID)(u:nE),BindsTo s fd ⟨[u],[]⟩ [("_law_script",u)])/\∀base:Heap,(K w.params).In base->base.Ns mainGlobals mg->T8 l.prog w (K w.params) mg base lD 20 fa fd vK.q.ps (rj (K w.params) mg (Wr Cj))):
  PySem.W.WalkO q loose XP YP l.row.toRowW d [] (fun f vs=>uK f vs):=
 L2.La (n:=63) (k:=20) (x:="_law_script") (CX:=fun _=>lD) (sp:=fun w=>Nl (K w.params)<|Wr Cj) hn ∎ hdf ⟨rfl,∎,∎⟩ hYq (fun w mg fa h h1 h2 h3=>aiZ<|F w mg fa h h1 h2 h3) hT (fun _ _ a ns hl hS=>LQ hS (law_true ns<|⊥) fun _=>rfl) fun _ _ _ _ _ z=>z
end T67
open PySem PySem.W PyProof.Rows
set_option maxRecDepth 100000 in
set_option maxHeartbeats 0 in
theorem PySem.Challenge.cw_tablestore_k67_whole_faults_holds : PySem.Challenge.rw_tablestore_k67_whole_faults.Holds := by
 refine HD.ajD<|L2.sdC (fun _=>by ext) ?_;exact T67.walk (l:=PySem.Challenge.rw_tablestore_k67_whole_faults) (K:=T67.K0) rfl (by ext) (fun w h Y=>T67.afk Y) (fun w h Y=>⟨L2.acb<|T67.aoI w.params,fun x hx=>Y _ _<|Yj.mp (T67.akD w.params) x hx⟩) fun w mg fa h KX SK hmg=>T67.all_mk KX SK hmg
