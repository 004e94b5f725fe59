import PyProof.Rows.All
import Open.Pieces
import OpenK.ZHead
import KE.KDictOf
import KE.KNestM
import KE.KIsAll
import KE.KTryMore
import PyProof.EqAt
import PyProof.EqKinds
import PyProof.TupleCall
import PyProof.ZipIter
import PyProof.Draws
import PyProof.EnumMake
import PyProof.Rows.SetFrom
import KE.KIntText
import KE.IntTextLaws
import KE.KSortTup
import KE.KDictSum
import KE.KSortedM
import PyProof.ListRange
import PyProof.SumAny
import PyProof.StrLawsChain
import PyProof.StrCalls6
import PyProof.ExcAttrAll.ValueError
import PySem.Challenge.RW_tablestore_k64_brackets_needed
set_option linter.all false
set_option maxHeartbeats 4000000
set_option genSizeOf false
set_option bootstrap.genMatcherCode false
set_option maxRecDepth 100000
set_option compiler.extract_closed false
open Array renaming getElem?_eq_some_iff->LN,mk->jy
open Bool renaming and_eq_true->oR,false_ne_true->MK,eq_false_iff->Wc,not_eq_true'->Yl,and_eq_true_iff->lB,eq_iff_iff->iC,or_eq_false_iff->yb,or_eq_true->Km,not_eq_false'->N7
open Char renaming toNat->uT
open False renaming elim->Wf
open ForInStep renaming yield->ud
open Int renaming emod_lt_of_pos->dA,emod_nonneg->dW,le_refl->WV,toNat_natCast->adW
open List renaming mem_cons->eQ,mem_cons_of_mem->ie,getElem?_eq_some_iff->rW,mem_append->BY,mem_of_getElem?->Do,mem_singleton->IF,mem_append_left->Le,length_append->LX,mem_append_right->OR,mem_cons_self->Up,not_mem_nil->Vm,replicate->Ut,getElem?_eq_getElem->WT,append_assoc->Vw,all_eq_true->Ve,getElem?_append_right->nN,append_nil->Wz,nodup_cons->Vx,lookup_cons->We,length_cons->uq,length_map->WH,map_cons->Xp,getElem?_append_left->uy,of_mem_zip->X0,getElem?_map->Xm,all_cons->Vg,drop_eq_getElem_cons->g5,dropLast_concat_getLast->k8,map_inj_left->Yj,length_drop->vJ,mem_iff_getElem?->dZ,mem_map->d9,nodup_nil->Yv,length_nil->l3,getElem?_set_ne->dP,size_toArray->XC,find?_cons->vD,mem_flatten->dS,length_replicate->Kd,mem_filter->dN,replicate_append_replicate->acf,getElem?_replicate->yg,mem_map_of_mem->yh,getElem?_set_self->tG,mem_filterMap->mP,lookup->wA,map_append->md,length_singleton->K9,drop_drop->sL,length->vP,takeWhile_cons->mE,head?->vx,forIn_cons->yf,findIdx?_eq_some_iff_getElem->Kg,take_of_length_le->ac6,flatten_cons->ac8,map_nil->t4,getElem?_eq_none->Ax,mem_of_mem_drop->t6,mem_zipIdx_iff_getElem?->Mn,range->e6,filterMap_cons->AC,intersperse_cons_cons->adF,getD_eq_getElem?_getD->adG,reverse_cons->Al,cons_append->yG,getElem_mem->yL,isEmpty_iff->Lj,dropLast_eq_take->LB,length_dropLast->PF,drop_eq_nil_iff->aen,dropLast_concat->Qw,mem_range->Qz,drop_zero->aer,map_congr_left->aeA,range'->aeB,any_cons->Bp,getElem?_drop->uu,mem_replicate->aeO,ext_getElem?->Oo,headD->OD,set_set->Bh,map_map->ae5,map->nq,drop->SR
open List.Pairwise renaming nil->Oe
open Nat renaming le_refl->mK,lt_of_lt_of_le->Rw,le_trans->RW,ne_of_lt->Vd,zero_le->Uh,le_succ_of_le->nJ,le_of_ble_eq_true->lA,lt_irrefl->ei,strongRecOn->sk,lt_succ_self->mY,le_add_right->zQ,ne_of_gt->mS,eq_zero_or_pos->zi,sub_self->LU,reduceAdd->Mf,succ_le_succ->yD,min_eq_left->Lv,toDigits->uY,not_lt_zero->BV,zero_add->Pm,one_ne_zero->B2,pow_le_pow_right->Pw,add_sub_cancel->NT,le_of_lt->jx
open Ne renaming symm->Vn
open Option renaming bind_eq_some_iff->bY,map_eq_some_iff->dO,isSome_iff_exists->tq,map_some->iM,isNone_iff_eq_none->L1,isSome->Md,bind_some->Nr,none->Eb,any_some->SS
open Option.some renaming inj->zB
open Or renaming inr->ab0,inl->acY
open Prod renaming snd->z9
open Prod.mk renaming inj->eh
open PyProof.Rows renaming callWith_type1->tL,envOfC->W7
open PySem renaming wpAny_bind->iF,Value->nE,mainGlobals->By,Shared->ID,Addr->SA,attributeBase->WG,wpAny_pure->U4,sizeLine->Ta,wpAny->SN,model->UA,wpAny_mono->UE,bootBuiltins->Vl,compareOp->UI,Expr->Ry,starEach->Uu,wpAny_Call_Name_kw->Yr,Program->Tc,World->Sl,foldedSetIterable->pg,swapsWith->Uw,wpAny_field->Wo,sizeLine_eq->XB,assignEach->Wh,Around->Tx,wpAny_isNot_plain->yj,FuncData->Wj,Stmt->SU,mem_of_lookup->hG,wpAny_is_plain->yH,wpAny_passesOwn->eN,wpAny_truthy_bool->iT,Heap->T3,binaryOp->Yo,wpAny_callSpecial?_slot->tu,OsState->acq,wpAny_execs_nil->h8,wpAny_call_entry->mD,codeAny_mono->eo,sysModules->zL,wpAny_newObj_type->tU,NameKind->Yz,wpAny_setField->mV,behindInMarks->t8,backTo->X3,PassesOwn->zJ,keywordEach->jh,treeTable->adC,rawInt->Xb,Params->adO,recursionLimit->tP,codeAny->qq,letOwnedTupleGo->B3,evalArgs_none->aex,Keyword->zS,call->uK,getItem->e8,Within->Bf,standAt->jF
open PySem.Builtin.SmallTypes renaming nextOf->hZ,ownedTupleIsFree->sj,ownedTupleHandOut->Lf
open PySem.Builtin.Str renaming strSliceIndices->rL,occurrences->jb,strSub->aeP
open PySem.Calls renaming callWith_builtin->rN,Constant_str->mO,evalArgs_plain->sE,Name_function_global->LK,spliced_cons->zc,spliced_nil->Oh
open PySem.EntryCells renaming newEntry->Q1
open PySem.F renaming plainAttrs_list->oG,slot_list_append->lF,type_list_append->lN,slot_NoneType_hash->rQ,slot_list_pop->lb,type_list_pop->lg,slot_str_startswith->x5,excBase_ValueError->x6,plainAttrs_str->KR,type_str_startswith->MD,slot_dict_getitem->LY,slot_str_join->aea,type_str_join->aeb,slot_str_find->OV
open PySem.Heap renaming get?_push_of_some->iN,lt_size->Tn,get?_push_size->Vh,SameBut->X1,size_push->Ym,get?_update_other->hY,get?_update_self->mR,get?_none_of_le->Pt,ExtBut->Ef
open PySem.Heap.SameBut renaming update->QY
open PySem.NameKind renaming free->Xs,cell->Bv
open PySem.NumText renaming digitsVal->Na
open PySem.Obj renaming data_mapFields->yY,mapFields->oK,isFreed_of_fields->k9
open PySem.PassesOwn renaming never->SQ
open PySem.PyData renaming eqv->BK,canLayAll0->OI,depth->ae6
open PySem.SeqAt renaming shaped->jw
open PySem.SeqAt.EqAt renaming int_none->QH,str_none->QI,none_int->QS,none_str->QX,int_str->NA,str_int->NG,same->SE
open PySem.Str renaming ofString->lE,length->ye,empty->qT,ofString_eq_toList->Lr,join->aeJ
open PySem.StrLaws renaming subAt_one->ac3,strSub_toList->aeR
open PySem.Txt renaming startswith->pQ,join->acP,endswith->adh,rstrip->aej,replace->Nu
open PySem.Value renaming ref->WU,none->Yk,int->uh
open PySem.W renaming Frag->aT,nsIn->DO,kia_one->XY,fnOf->Wk,keepIn->Xq,findIn->Yt,callWith_K->yw,codeIn->uz,emptyDict->iJ,cellsFrom_some->tK,excIn->ek,mg_of->en,looks_pair->acH,tabObj->ik,plainGet->mf,instObj->mH,hasDictIn->sA,boot_heap->adk,codeHdIn->t5,plainGet_of->AQ,callWith_K0->Bb,KeysLit->ue,isFn->mT,codeRec_of->zh,lookIn->tO,plainOver->zO,kitx_list->zR,kitx_dict->zX,takerIn->yS,OpenLaw->y4,methodCall_KW->OO,exmOne->Cm,kitx_tuple->NK,makesIn->SO,InstAt->S0,kitOne->S7
open PySem.W.Fast renaming te14364793385576792824->lT,te10110043849684766642->x4
open String renaming toList_ofList->P5,ofList->BD
open True renaming intro->Uy
open Option renaming some->J,none->U
open Bool renaming true->G,false->η
def SI:=@if_pos
def SM:=@if_neg
def TU:=@decide_eq_false
def Th:=@decide_eq_true
def WI:=@of_decide_eq_true
def UN:=@congrArg
abbrev Ru:=List Nat
abbrev SH:=List PySem.Str
abbrev TQ:=List<|PySem.Addr×PySem.Obj
abbrev UB:=PySem.Value->PySem.Shared->Prop
abbrev Sq:=PySem.Str->Option PySem.Value
abbrev Sf:=List PySem.Addr
abbrev TK:=List PySem.Value
abbrev TN(x:PySem.Str):Prop:=(x==("__debug__":PySem.Str))=η
local macro_rules|`(tactic|walk_at "v")=>`(tactic|first|exact Or.inl rfl|exact Or.inr (Or.inl rfl)|exact Or.inr (Or.inr rfl))
local macro_rules|`(tactic|walk_at "u")=>`(tactic|first|exact Or.inl rfl|exact Or.inr rfl|assumption)
local macro_rules|`(tactic|trivial)=>`(tactic|decide +kernel)
namespace L2
def dQ{α β e ε:Type}{p q:α->β->e->ε->Prop}{r:Prop}(h:∃a b c d,p a b c d/\q a b c d)(k:∀a b c d,p a b c d->q a b c d->r):r:=by
 obtain⟨a,b,c,d,x,y⟩:=h;exact k a b c d x y
def jZ{α β:Type}{p q r:α->β->Prop}{z:Prop}(h:∃a b,p a b/\q a b/\r a b)(k:∀a b,p a b->q a b->r a b->z):z:=by
 obtain⟨a,b,x,y,w⟩:=h;exact k a b x y w
end L2
local macro_rules|`(tactic|ext)=>`(tactic|kernel_rfl)
set_option Elab.async false
noncomputable section
namespace HD
open PySem PySem.W PySem.Calls PyProof.Rows
abbrev p:Tc:=PySem.Challenge.pw_tablestore_k64_brackets_needed
def vm:List SU:=behindTheImports p
def S(i:Nat):SU:=match p.main.body[i]? with|some s=>s|none=>.Pass default
def Xz(i j:Nat):SU:=match S i with
 |.ClassDef _ _ _ b _ _ _ _ _ _ _=>(match b[j]? with|some s=>s|none=>.Pass default)
 |s=>s
def pb(s:SU):Arguments:=match s with
 |.FunctionDef _ a _ _ _ _ _ _ _ _=>a
 |_=>⟨[],[],U,[],[],U,[]⟩
def dB(s:SU):List SU:=match s with
 |.FunctionDef _ _ b _ _ _ _ _ _ _=>b
 |_=>[]
noncomputable def Fw(s:SU):Scope:=match s with
 |.FunctionDef _ _ _ _ _ _ sc _ _ _=>sc
 |_=>{kind:=.function,names:=[],isGenerator:=η,isCoroutine:=η}
def fn(s:SU)(n qn:Str)(g:SA)(cl:List<|Str×SA)(d e a h:nE)(c:Option SA)(b f:nE)(bl:SA):FuncData:=⟨n,qn,pb s,.stmts<|dB s,Fw s,g,cl,d,e,a,h,c,b,f,bl⟩
def wx(s:SU):Str:=match s with
 |.FunctionDef n _ _ _ _ _ _ _ _ _=>n
 |_=>""
noncomputable def W8(l:TK):Obj:=⟨.type "tuple",U,.seq l.toArray 0,#[]⟩
noncomputable def tn(t:Nat):SH->TK
 |[]=>[]
 |x::r=>.str x t::tn (t+1) r
noncomputable def tr(k:Int):List (Int×Nat)->TK
 |[]=>[]
 |x::r=>.int x.1 0::.int k 0::.ref x.2::tr k r
def fi(l:TK):Obj:=⟨.none,U,.fields l.toArray,#[]⟩
def W6(s:SU)(m:nE)(c:Nat):Obj:=⟨.type "function",U,.func<|fn s (wx s) (wx s) 3 [] .none .none .none m U (.ref c) .none 0,#[]⟩
def pr(s:SU):Obj:=⟨.none,U,.func<|fn s (wx s) (wx s) 0 [] .none .none .none .none U .none .none 0,#[]⟩
noncomputable def co(n q:Str)(t:Nat)(l a b c d:Int)(v:Nat)(o:Bool)(u:Nat)(x y z:nE)(k:Nat):Obj:=⟨.type "code",U,.fields #[.str n t,.str q<|t+1,.str "/claim/cut.py"<|t+2,.int l 0,.int a 0,.int b 0,.int c 0,.int d 0,.ref v,.bool o,.int 181 0,.ref u,.none,x,y,z,.int k 0,.int l 0,.str "/claim/cut.py"<|k+1],#[]⟩
noncomputable def vL(l:List Obj)(n:Nat):Nat->Nat->Nat->BT
 |0,_,_=>.nil
 |f+1,a,b=>if b<n then .node (l.getD b ⟨.none,U,.plain,#[]⟩) (vL l n f (2*a)<|a+b) (vL l n f (2*a)<|2*a+b)else .nil
noncomputable def Sg(P:Params)(x:Str)(t:Nat)(v:nE):DictEntry:=⟨PyData.keyHash P x,.str x t,v⟩
noncomputable def u7:Env:={scope:=p.main.scope,locals:=mainNs,globals:=mainNs,cells:=[],code:=(.ref 13),frame:=J 14}
def wU:Code:=.body vm u7
abbrev oo:Pos:=⟨0,0,0,0⟩
def Sv:Obj:=W8 []
def Ws:Obj:=fi []
noncomputable def kl(b:Nat)(d:Nat)(c:Str)(a:Nat):Obj:=⟨(.type "frame"),U,.plain,#[(J<|.ref b),(J<|.ref 3),(J<|.ref d),U,(J<|.str c a),U,(J<|.ref 0)]⟩
def HA(P:Params):List Obj:=[boot_o_0 P,boot_o_1 P,boot_o_2 P,boot_o_3 P,boot_o_4 P,boot_o_5 P,boot_o_6 P,boot_o_7 P,boot_o_8 P,boot_o_9 P,boot_o_10 P,Sv,Ws,co "<module>" "<module>" 182 1 0 0 0 0 11 η 12 .none .none .none 185,kl 13 3 "__main__" 164]
def o4(P:Params):BT:=vL (HA P) 15 12 1 0
def alr(w:Sl)(os:OsState):topGo treeTable p w 11 (J<|.ref 6) 12 ⟨boot_heap w.params,jy [],boot_drawn,boot_toks,os⟩ (topStub p)=J ((⟨o4 w.params,15,{},#[],{},187,os⟩:SharedT).abs,⟨denote treeTable wU,wU,⟨0,0,0,0⟩,[topFrame oo]⟩):=by
 rw[PySem.W.Fast.te15667345088766844465,lT,PySem.W.Fast.te11892475500146522536];ext
def als(w:Sl)(os:OsState):segRunT treeTable p w 11 (J<|.ref 6) 1 1 (⟨o4 w.params,15,{},#[],{},187,os⟩:SharedT) (blockOf vm u7 wU ⟨0,0,0,0⟩ [topFrame oo])=J (.next,(⟨o4 w.params,15,{},#[],{},187,os⟩:SharedT),wU,⟨0,0,0,0⟩):=by
 rw[x4,lT];ext
noncomputable def pS:Obj:=⟨(.type "builtin_function_or_method"),U,(.fields #[(.builtin "type.__prepare__"),(.type "type")]),#[]⟩
def Hr(P:Params)(a:Nat)(b:Str)(d:Int)(c:Nat):Obj:=⟨(.type "dict"),U,(.dict #[Sg P "__module__" a<|.str "tablestore.errors" 187,Sg P "__qualname__" (a+2)<|.str b<|a+1,Sg P "__firstlineno__" (a+4)<|.int d<|a+3,Sg P "__static_attributes__" (a+5)<|.ref c] 4),#[]⟩
noncomputable def Hx(a:Nat)(b:Nat):Obj:=⟨(.type "getset_descriptor"),U,(.fields #[(.str "__weakref__" a),(.ref b),(.builtin "ExceptionGroup.__weakref__"),.none]),#[]⟩
def p4(a:Nat):Obj:=⟨(.type "super"),U,(.fields #[(.ref a),(.ref a),(.ref a)]),#[]⟩
noncomputable def p5(a:Nat):Obj:=⟨(.type "builtin_function_or_method"),U,(.fields #[(.builtin "object.__init_subclass__"),(.ref a)]),#[]⟩
def Y2:Obj:=W8 [.ref 24]
def bq(b:Nat)(d:Nat)(c:Str)(a:Str):Obj:=⟨.none,U,(.func<|fn (Xz b d) c a 0 [] .none .none .none .none U .none .none 0),#[]⟩
def cg(f:Nat)(d:Nat)(g:Str)(e:Str)(a:Str)(b:Nat)(c:Nat):Obj:=⟨(.type "function"),U,(.func<|fn (Xz f d) g e 3 [] .none .none .none (.str a b) U (.ref c) .none 0),#[]⟩
def Wi:nE:=.str "tablestore.values" 339
def WB:nE:=.str "tablestore.shapes" 382
def WN:nE:=.str "tablestore.words" 411
def oa:nE:=.str "tablestore.asking" 488
def W0:nE:=.str "law_tablestore_k64_brackets_needed" 699
def g0:List SU:=(vm.drop 0).take 75
def XD(i:Nat):Option<|List Str×SH:=localNames (pb<|S i) (Fw<|S i)<|.stmts<|dB<|S i
def FI(i:Nat):Nat:=match S i with
 |.FunctionDef _ _ _ _ _ _ _ _ _ x=>x.line
 |_=>0
def oF(m:nE)(q:Nat×Nat×Nat):List Obj:=let s:=S q.1;let a:=q.2.1;let t:=q.2.2;match XD q.1 with
 |some l=>[Sv,Ws,W8<|tn (t+3) l.1,Sv,pr s,co (wx s) (wx s) t (FI q.1) (pb s).args.length 0 0 3 a G (a+1) (.ref<|a+2) (.ref<|a+3) (.ref<|a+4)<|t+3+l.1.length,W6 s m<|a+5]
 |none=>[Sv,Ws,pr s,co (wx s) (wx s) t (FI q.1) (pb s).args.length 0 0 3 a G (a+1) .none .none (.ref<|a+2)<|t+3,W6 s m<|a+3]
def gb(i:Nat):Nat×Nat:=match XD i with
 |some l=>(7,6+l.1.length)
 |none=>(5,6)
def ru:Nat->Nat->Nat->Nat->List (Nat×Nat×Nat)
 |0,_,_,_=>[]
 |n+1,i,a,t=>(i,a,t)::ru n (i+1) (a+(gb i).1) (t+(gb i).2)
def oS(P:Params)(q:Nat×Nat×Nat):DictEntry:=Sg P (wx<|S q.1) (q.2.2+(gb q.1).2-1)<|.ref<|q.2.1+(gb q.1).1-1
def oU(q:Nat×Nat×Nat):Int×Nat:=(FI q.1,q.2.1+(gb q.1).1-2)
def r0:=ru 5 11 123 347
def r1:=ru 2 19 155 398
def r2:=ru 7 23 168 424
def r3:=ru 17 38 253 555
def r4:=ru 19 56 372 701
def HF(P:Params):List Obj:=((HA P).set 3<|⟨(.type "dict"),U,(.dict ([Sg P "__name__" 165<|.str "law_tablestore_k64_brackets_needed" 699,Sg P "__doc__" 166 .none,Sg P "__package__" 167 .none,Sg P "__loader__" 168<|.builtin "__main__.__loader__#opaque",Sg P "__spec__" 169 .none,Sg P "__annotations__" 170<|.ref 6,Sg P "__builtins__" 171<|.ref 4,Sg P "__file__" 173<|.str "/claim/cut.py" 172,Sg P "__cached__" 174 .none,Sg P "TableError" 206<|.ref 24,Sg P "BadValue" 222<|.ref 37,Sg P "BadQuestion" 238<|.ref 49,Sg P "BINDING" 253<|.ref 52,Sg P "Piles" 338<|.ref 118,Sg P "FIGURES" 342<|.str "0123456789" 341,Sg P "MOST_SIGNS_values" 344<|.int 40 343,Sg P "MOST_FIGURES" 346<|.int 18 345]++r0.map (oS P)++[Sg P "NO_NAMES" 395<|.ref 154,Sg P "MOST_LETTERS" 397<|.int 8 396]++r1.map (oS P)++[Sg P "SIGNS" 423<|.ref 167]++r2.map (oS P)++[Sg P "MOST_SIGNS_asking" 491<|.int 900 490,Sg P "MOST_SOURCES" 493<|.int 3 492,Sg P "MOST_COLUMNS" 495<|.int 8 494,Sg P "MOST_TESTS" 497<|.int 20 496,Sg P "MOST_NESTED" 499<|.int 20 498,Sg P "TEST_SIGNS" 506<|.ref 217,Sg P "Reader" 554<|.ref 248]++r3.map (oS P)++r4.map (oS P)).toArray 77),#[]⟩).set 12 (fi<|tr 0<|[(2,20),(4,33),(6,45),(10,58)]++r0.map oU++r1.map oU++r2.map oU++[(145,223)]++r3.map oU++r4.map oU)++([W8 [.type "ValueError"],pS,Hr P 196 "TableError" 2 22,Sv,Ws,co "TableError" "TableError" 191 2 0 0 0 0 18 η 19 .none .none .none 194,kl 20 17 "tablestore.errors" 187,Sv,⟨(.type "dict"),U,(.dict #[Sg P "__module__" 196<|.str "tablestore.errors" 187,Sg P "__firstlineno__" 200<|.int 2 199,Sg P "__static_attributes__" 201<|.ref 22,Sg P "__weakref__" 203<|.ref 25,Sg P "__doc__" 204 .none] 3),#[]⟩,⟨(.type "type"),U,(.cls {name:="TableError",bases:=[(.type "ValueError")],mro:=[(.ref 24),(.type "ValueError"),(.type "Exception"),(.type "BaseException"),(.type "object")],ns:=23,qualname:="TableError",hasDict:=G,slotNames:=[],subclasses:=[(.ref 37),(.ref 49)],abstract:=η,collection:=U,hasDel:=η}),#[(J<|.ref 15),U,(J<|.str "TableError" 189),(J<|.str "TableError" 197),(J<|.builtin "ValueError.__new__"),(J<|.bool G)]⟩,Hx 202 24,p4 24,p5 24,Y2,pS,Hr P 214 "BadValue" 4 35,Sv,Ws,co "BadValue" "BadValue" 209 4 0 0 0 0 31 η 32 .none .none .none 212,kl 33 30 "tablestore.errors" 187,Sv,⟨(.type "dict"),U,(.dict #[Sg P "__module__" 214<|.str "tablestore.errors" 187,Sg P "__firstlineno__" 218<|.int 4 217,Sg P "__static_attributes__" 219<|.ref 35,Sg P "__doc__" 220 .none] 2),#[]⟩,⟨(.type "type"),U,(.cls {name:="BadValue",bases:=[(.ref 24)],mro:=[(.ref 37),(.ref 24),(.type "ValueError"),(.type "Exception"),(.type "BaseException"),(.type "object")],ns:=36,qualname:="BadValue",hasDict:=G,slotNames:=[],subclasses:=[],abstract:=η,collection:=U,hasDel:=η}),#[(J<|.ref 28),U,(J<|.str "BadValue" 207),(J<|.str "BadValue" 215),(J<|.builtin "ValueError.__new__"),(J<|.bool G)]⟩,p4 37,p5 37,Y2,pS,Hr P 230 "BadQuestion" 6 47,Sv,Ws,co "BadQuestion" "BadQuestion" 225 6 0 0 0 0 43 η 44 .none .none .none 228,kl 45 42 "tablestore.errors" 187,Sv,⟨(.type "dict"),U,(.dict #[Sg P "__module__" 230<|.str "tablestore.errors" 187,Sg P "__firstlineno__" 234<|.int 6 233,Sg P "__static_attributes__" 235<|.ref 47,Sg P "__doc__" 236 .none] 2),#[]⟩,⟨(.type "type"),U,(.cls {name:="BadQuestion",bases:=[(.ref 24)],mro:=[(.ref 49),(.ref 24),(.type "ValueError"),(.type "Exception"),(.type "BaseException"),(.type "object")],ns:=48,qualname:="BadQuestion",hasDict:=G,slotNames:=[],subclasses:=[],abstract:=η,collection:=U,hasDel:=η}),#[(J<|.ref 40),U,(J<|.str "BadQuestion" 223),(J<|.str "BadQuestion" 231),(J<|.builtin "ValueError.__new__"),(J<|.bool G)]⟩,p4 49,p5 49,⟨(.type "dict"),U,(.dict #[Sg P "(" 241<|.int 0 242,Sg P "or" 243<|.int 1 244,Sg P "and" 245<|.int 2 246,Sg P "not" 247<|.int 3 248] 4),#[]⟩,Sv,pS,⟨(.type "dict"),U,(.dict #[Sg P "__module__" 261<|.str "tablestore.piles" 239,Sg P "__qualname__" 263<|.str "Piles" 262,Sg P "__firstlineno__" 265<|.int 10 264,Sg P "__init__" 272<|.ref 66,Sg P "add_word" 280<|.ref 73,Sg P "add_tree" 288<|.ref 80,Sg P "add_joint" 296<|.ref 87,Sg P "close_bracket" 303<|.ref 94,Sg P "has_bracket" 310<|.ref 101,Sg P "whole" 317<|.ref 108,Sg P "settle" 328<|.ref 115,Sg P "__static_attributes__" 331<|.ref 116] 12),#[]⟩,Sv,fi<|tr 4 [(12,65),(16,72),(19,79),(22,86),(26,93),(30,100),(33,107),(37,114)],co "Piles" "Piles" 256 10 0 0 0 0 56 η 57 .none .none .none 259,kl 58 55 "tablestore.piles" 239,Sv,Ws,W8<|tn 269 ["self"],Sv,bq 6 0 "__init__" "Piles.__init__",co "__init__" "Piles.__init__" 266 12 1 0 0 3 60 G 61 (.ref 62) (.ref 63) (.ref 64) 270,cg 6 0 "__init__" "Piles.__init__" "tablestore.piles" 239 65,Sv,Ws,W8<|tn 276 ["self","word"],Sv,bq 6 1 "add_word" "Piles.add_word",co "add_word" "Piles.add_word" 273 16 2 0 0 3 67 G 68 (.ref 69) (.ref 70) (.ref 71) 278,cg 6 1 "add_word" "Piles.add_word" "tablestore.piles" 239 72,Sv,Ws,W8<|tn 284 ["self","tree"],Sv,bq 6 2 "add_tree" "Piles.add_tree",co "add_tree" "Piles.add_tree" 281 19 2 0 0 3 74 G 75 (.ref 76) (.ref 77) (.ref 78) 286,cg 6 2 "add_tree" "Piles.add_tree" "tablestore.piles" 239 79,Sv,Ws,W8<|tn 292 ["self","word"],Sv,bq 6 3 "add_joint" "Piles.add_joint",co "add_joint" "Piles.add_joint" 289 22 2 0 0 3 81 G 82 (.ref 83) (.ref 84) (.ref 85) 294,cg 6 3 "add_joint" "Piles.add_joint" "tablestore.piles" 239 86,Sv,Ws,W8<|tn 300 ["self"],Sv,bq 6 4 "close_bracket" "Piles.close_bracket",co "close_bracket" "Piles.close_bracket" 297 26 1 0 0 3 88 G 89 (.ref 90) (.ref 91) (.ref 92) 301,cg 6 4 "close_bracket" "Piles.close_bracket" "tablestore.piles" 239 93,Sv,Ws,W8<|tn 307 ["self"],Sv,bq 6 5 "has_bracket" "Piles.has_bracket",co "has_bracket" "Piles.has_bracket" 304 30 1 0 0 3 95 G 96 (.ref 97) (.ref 98) (.ref 99) 308,cg 6 5 "has_bracket" "Piles.has_bracket" "tablestore.piles" 239 100,Sv,Ws,W8<|tn 314 ["self"],Sv,bq 6 6 "whole" "Piles.whole",co "whole" "Piles.whole" 311 33 1 0 0 3 102 G 103 (.ref 104) (.ref 105) (.ref 106) 315,cg 6 6 "whole" "Piles.whole" "tablestore.piles" 239 107,Sv,Ws,W8<|tn 321 ["self","binding","word","tree","first"],Sv,bq 6 7 "settle" "Piles.settle",co "settle" "Piles.settle" 318 37 2 0 0 3 109 G 110 (.ref 111) (.ref 112) (.ref 113) 326,cg 6 7 "settle" "Piles.settle" "tablestore.piles" 239 114,W8<|tn 329 ["trees","waiting"],⟨(.type "dict"),U,(.dict #[Sg P "__module__" 261<|.str "tablestore.piles" 239,Sg P "__firstlineno__" 265<|.int 10 264,Sg P "__init__" 272<|.ref 66,Sg P "add_word" 280<|.ref 73,Sg P "add_tree" 288<|.ref 80,Sg P "add_joint" 296<|.ref 87,Sg P "close_bracket" 303<|.ref 94,Sg P "has_bracket" 310<|.ref 101,Sg P "whole" 317<|.ref 108,Sg P "settle" 328<|.ref 115,Sg P "__static_attributes__" 331<|.ref 116,Sg P "__dict__" 333<|.ref 119,Sg P "__weakref__" 335<|.ref 120,Sg P "__doc__" 336 .none] 4),#[]⟩,⟨(.type "type"),U,(.cls {name:="Piles",bases:=[(.type "object")],mro:=[(.ref 118),(.type "object")],ns:=117,qualname:="Piles",hasDict:=G,slotNames:=[],subclasses:=[],abstract:=η,collection:=U,hasDel:=η}),#[U,U,(J<|.str "Piles" 254),(J<|.str "Piles" 262),(J<|.builtin "object.__new__"),(J<|.bool G)]⟩,⟨(.type "getset_descriptor"),U,(.fields #[(.str "__dict__" 332),(.ref 118),(.builtin "function.__dict__"),(.builtin "function.__dict__#set")]),#[]⟩,Hx 334 118,p4 118,p5 118]++(r0.flatMap (oF Wi)++([W8<|tn 384 ["and","by","down","from","none","not","or","order","show","take","where"]]++(r1.flatMap (oF WB)++([W8<|tn 413 ["<>","<=",">=","<",">","=",",",".","(",")"]]++(r2.flatMap (oF WN)++([W8<|tn 500 ["=","<>","<","<=",">",">="],Sv,pS,⟨(.type "dict"),U,(.dict #[Sg P "__module__" 514<|.str "tablestore.asking" 488,Sg P "__qualname__" 516<|.str "Reader" 515,Sg P "__firstlineno__" 518<|.int 145 517,Sg P "__init__" 526<|.ref 231,Sg P "step" 533<|.ref 238,Sg P "stands" 542<|.ref 245,Sg P "__static_attributes__" 547<|.ref 246] 7),#[]⟩,Sv,fi<|tr 4 [(147,230),(153,237),(156,244)],co "Reader" "Reader" 509 145 0 0 0 0 221 η 222 .none .none .none 512,kl 223 220 "tablestore.asking" 488,Sv,Ws,W8<|tn 522 ["self","text"],Sv,bq 37 0 "__init__" "Reader.__init__",co "__init__" "Reader.__init__" 519 147 2 0 0 3 225 G 226 (.ref 227) (.ref 228) (.ref 229) 524,cg 37 0 "__init__" "Reader.__init__" "tablestore.asking" 488 230,Sv,Ws,W8<|tn 530 ["self"],Sv,bq 37 1 "step" "Reader.step",co "step" "Reader.step" 527 153 1 0 0 3 232 G 233 (.ref 234) (.ref 235) (.ref 236) 531,cg 37 1 "step" "Reader.step" "tablestore.asking" 488 237,Sv,Ws,W8<|tn 537 ["self","kind","value"],Sv,bq 37 2 "stands" "Reader.stands",co "stands" "Reader.stands" 534 156 3 0 0 3 239 G 240 (.ref 241) (.ref 242) (.ref 243) 540,cg 37 2 "stands" "Reader.stands" "tablestore.asking" 488 244,W8<|tn 543 ["nested","tests","text","word"],⟨(.type "dict"),U,(.dict #[Sg P "__module__" 514<|.str "tablestore.asking" 488,Sg P "__firstlineno__" 518<|.int 145 517,Sg P "__init__" 526<|.ref 231,Sg P "step" 533<|.ref 238,Sg P "stands" 542<|.ref 245,Sg P "__static_attributes__" 547<|.ref 246,Sg P "__dict__" 549<|.ref 249,Sg P "__weakref__" 551<|.ref 250,Sg P "__doc__" 552 .none] 4),#[]⟩,⟨(.type "type"),U,(.cls {name:="Reader",bases:=[(.type "object")],mro:=[(.ref 248),(.type "object")],ns:=247,qualname:="Reader",hasDict:=G,slotNames:=[],subclasses:=[],abstract:=η,collection:=U,hasDel:=η}),#[U,U,(J<|.str "Reader" 507),(J<|.str "Reader" 515),(J<|.builtin "object.__new__"),(J<|.bool G)]⟩,⟨(.type "getset_descriptor"),U,(.fields #[(.str "__dict__" 548),(.ref 248),(.builtin "function.__dict__"),(.builtin "function.__dict__#set")]),#[]⟩,Hx 550 248,p4 248,p5 248]++(r3.flatMap (oF oa)++(r4.flatMap<|oF W0)))))))))
def FF(P:Params):BT:=vL (HF P) 503 12 1 0
def pT(w:Sl)(os:OsState):Prop:=segRunT treeTable p w 11 (J<|.ref 6) 1 3137 (⟨o4 w.params,15,{},#[],{},187,os⟩:SharedT) (piecesOf g0 u7 wU ⟨0,0,0,0⟩ [topFrame oo])=J (.next,(⟨FF w.params,503,{},#[],{},871,os⟩:SharedT),wU,⟨376,0,401,15⟩)
def akz(w:Sl)(os:OsState):pT (w.withFollow "special-get-raises" η) os:=by
 unfold pT;rw[x4,lT];ext
def akA(w:Sl)(os:OsState):pT (w.withFollow "special-get-raises" G) os:=by
 unfold pT;rw[x4,lT];ext
def aky(w:Sl)(os:OsState):segRunT treeTable p w 11 (J<|.ref 6) 1 3137 (⟨o4 w.params,15,{},#[],{},187,os⟩:SharedT) (piecesOf g0 u7 wU ⟨0,0,0,0⟩ [topFrame oo])=J (.next,(⟨FF w.params,503,{},#[],{},871,os⟩:SharedT),wU,⟨376,0,401,15⟩):=byRow2 "special-get-raises" (P:=fun w=>pT w os) (fun w=>akz w os) (fun w=>akA w os) w
abbrev Xa(P:Params):List Obj:=HF P
def H1(P:Params):Heap:=⟨jy<|Xa P,{}⟩
abbrev sf(w:Sl)(os:OsState):ID:=⟨H1 w.params,#[],{},871,os⟩
def alu(w:Sl)(os:OsState):topRun treeTable p w 11 (J<|.ref 6) 2 (⟨FF w.params,503,{},#[],{},871,os⟩:SharedT).abs ⟨doneF .next,wU,⟨376,0,401,15⟩,[topFrame oo]⟩=J (sf w os):=by
 rw[PySem.W.Fast.te14082659384304107361,lT];ext
def aip:vm=g0++([]):=by ext
def run(w:Sl)(os:OsState):topRun treeTable p w 11 (J<|.ref 6) (12+(1+(3137+2))) ⟨boot_heap w.params,jy [],boot_drawn,boot_toks,os⟩ (topStub p)=J (sf w os):=
 go_top (n:=12) (alr w os) (piece_block (n:=1) (segRun_of<|als w os)<|aip▸piece_app (n:=3137) (l:=g0) (segRun_of<|aky w os) (piece_nil<|alu w os))
noncomputable def q:Tc:=view p [1,2,3,5,6,8,9,10,11,12,13,14,15,17,18,19,20,22,23,24,25,26,27,28,29,31,32,33,34,35,36,37,38,39,40,41,42,43,44,45,46,47,48,49,50,51,52,53,54,56,57,58,59,60,61,62,63,64,65,66,67,68,69,70,71,72,73,74]
def aiR(w:Sl):(fencedOpening treeTable p w 6398).map (fun s=>(s.heap,s.gens,s.drawn,s.toks))=J (boot_heap w.params,jy [],boot_drawn,boot_toks):=
 boot_open (by ext) (by decide) (fun s=>by ext) w
def size(w:Sl):((boot_heap w.params).isNs mainGlobals&&(jy []:Array GenState).size==0,(boot_heap w.params).objs.size,(boot_heap w.params).nsMap mainGlobals "__annotations__")=(G,11,(J<|.ref 6)):=by
 ext
def k0(w:Sl)(os:OsState):(staticsOk (importedModules p.main.body) (boot_heap w.params) (H1 w.params)&&namesBound p (H1 w.params)&&gensDone (sf w os)&&laidKept (boot_heap w.params) (H1 w.params))=G:=by ext
def k1(w:Sl)(os:OsState):seen ((recsOf q).map (·.name)) (ownsOf q) [] {(sf w os)with gens:=#[]}=expectedOf q:=by
 ext
def k2(w:Sl)(os:OsState):(sf w os).heap.bltView=bltViewBooted:=by
 ext
theorem k3(w:Sl)(os:OsState):((sf w os).heap.keysOk (looseW q ["BINDING"]) ((recsOf q).map (·.name)) ((litsOf q).map (·.1)) ((clssOf q<|looseW q ["BINDING"]).map (·.name))&&(sf w os).heap.accountedOkI (importedModules p.main.body)&&(sf w os).heap.isNs mainGlobals&&(sf w os).heap.isNs builtinsNs&&tablesOk q (sf w os).heap&&(xlAt q [] (sf w os)&&recOk [] (sf w os))&&(if G then(sf w os).gens.size==0 else !leftWithCleanup (sf w os).gens))=G:=by
 ext
theorem k4(w:Sl)(os:OsState):tabsOk q (sf w os)=G:=by
 ext
def k5(w:Sl)(os:OsState):pinSeenD q (drecsOf q) (sf w os)=pinGoodD (drecsOf q):=by
 ext
def alb(w:Sl)(os:OsState):plainSeenE q (looseW q ["BINDING"]) (sf w os)=plainGoodE q (looseW q ["BINDING"]):=by
 ext
def alc(w:Sl)(os:OsState):plainSeenD q ["BINDING"] (sf w os)=plainGoodD q ["BINDING"]:=by
 ext
def ald(w:Sl)(os:OsState):wideSeen q (sf w os)=wideGood q:=by
 ext
def ale(w:Sl)(os:OsState):clsSeenW q ["BINDING"] (sf w os)=clsGoodW q ["BINDING"]:=by
 ext
def ad:Sf:=e6 503
def K(P:Params):Frag:=ad.zip<|Xa P
def alf(w:Sl)(os:OsState):X.obsZ ad (sf w os)=X.valZ K 503 871 w:=by ext
def alC:LeftO p q ["BINDING"] (fun s=>xlAt q [] s&&recOk [] s) (X.obsZ ad) (X.valZ K 503 871) 6398:=
 LeftO.of_pieces (H₀:=boot_heap) (H₁:=H1) (gs₀:=jy []) (gs₁:=#[]) (d₀:=boot_drawn) (d₁:={}) (k₀:=boot_toks) (k₁:=871) (m₀:=11) (ann:=(J<|.ref 6)) (M:=(12+(1+(3137+2)))) aiR size run (by decide) fun w=>funext fun os=>looks_pair (k0 w os)<|looks_pair (looks_pair (k1 w os)<|looks_pair (k2 w os)<|looks_pair (k3 w os)<|looks_pair (k4 w os)<|looks_pair (k5 w os)<|looks_pair (alb w os)<|looks_pair (alc w os)<|looks_pair (ald w os)<|ale w os)<|alf w os
def akZ(s:SU):Pos:=match s with
 |.FunctionDef _ _ _ _ _ _ _ _ _ x=>x
 |_=>default
def d:DefRec:=⟨"law",pb<|S 74,dB<|S 74,Fw<|S 74,akZ<|S 74⟩
def aly:namesResolve p=G:=by ext
def alz:namesMeet p p.main.body (fun _ n=>attrL n)=G:=by ext
def lo:looksOpen p=G:=by
 unfold looksOpen;rw[aly,alz,Bool.and_true];ext
theorem wd:PySem.Challenge.rw_tablestore_k64_brackets_needed.row.partSaid=G:=by
 unfold OpenRow.partSaid;rw[show looksOpen PySem.Challenge.rw_tablestore_k64_brackets_needed.row.toRowW.prog=G from lo];ext
theorem ws:PySem.Challenge.rw_tablestore_k64_brackets_needed.wellSaid=G:=by
 unfold OpenLaw.wellSaid OpenRow.wellSaid;rw[wd];ext
theorem ajD(b:WalkX q ["BINDING"] (XL q []) (X.obsZ ad) (X.valZ K 503 871) PySem.Challenge.rw_tablestore_k64_brackets_needed.row.toRowW d [] fun f vs=>uK f vs):PySem.Challenge.rw_tablestore_k64_brackets_needed.Holds:=by
 refine holds_law ws fun a=>?_;refine holds_openX (q:=q) (loose:=["BINDING"]) (Xt:=fun s=>xlAt q [] s&&recOk [] s) (XP:=XL q []) (N:=6398) alC (fun s e=>xl_of s (lB.mp e).1) XL.keeps (d:=d) (kwd:=[]) (by ext) (by ext) (by ext) (fun s e=>recFacts_of (lB.mp e).2) (by rfl) a (by trivial) ⟨rfl,rfl,rfl,rfl,rfl,by trivial⟩ ?hw b
 case hw=>w_witness2
end HD
end
noncomputable section
set_option hygiene false
local macro_rules|`(tactic|left)=>`(tactic|refine Classical.byContradiction fun q_=>?_)
local macro_rules|`(tactic|right)=>`(tactic|refine q_ ?_)
local macro_rules|`(tactic|cbv)=>`(tactic|split at h)
local macro_rules|`(tactic|nofun)=>`(tactic|cases h)
local macro_rules|`(tactic|mleft)=>`(tactic|exact h.elim)
local macro_rules|`(tactic|mstop)=>`(tactic|replace h:=bY.mp h)
local macro_rules|`(tactic|mright)=>`(tactic|simp_all)
open scoped Lean.Order
local macro_rules|`(∅)=>`(by simp)
local macro_rules|`(⊥)=>`(by lia)
local macro_rules|`(⊤)=>`(by trivial)
local macro_rules|`(∎)=>`(by decide)
local macro_rules|`(#[0])=>`((UA X.prog X.w))
local macro_rules|`(#[1])=>`((X.fn x=G\/X.env.scope.names.lookup x=J .local))
local macro_rules|`(#[2])=>`((x==("__classdict__":Str)))
local macro_rules|`(#[3])=>`((.Call (.Name x p) (e::es) [] pos))
local macro_rules|`(#[4])=>`((.ListComp elt [⟨tg,iter,ifs,0⟩] scope pos))
local macro_rules|`(#[5])=>`((aj (cl.flatten++as) H))
local macro_rules|`(#[6])=>`((apos.endLine==cpos.line))
local macro_rules|`(#[7])=>`((by walk_at "kq"))
local macro_rules|`(#[8])=>`((own++as0))
local macro_rules|`(#[9])=>`((.Name x p1))
local macro_rules|`(#[10])=>`((jm X N scope b))
local macro_rules|`(#[11])=>`((["=","<>","<","<=",">",">="]:SH))
local macro_rules|`(#[12])=>`((ae rfl rfl rfl))
local macro_rules|`(#[13])=>`((WG o name X.env (eval o X.env)=eval o X.env))
local macro_rules|`(#[14])=>`((J<|.ref C))
local macro_rules|`(#[15])=>`((notedBy (UA prog w) A env fun e s'=>R (.error e) s'))
local macro_rules|`(#[16])=>`((Uu (e::es) X.env=(η,eval e X.env)::Uu es X.env))
local macro_rules|`(#[17])=>`((s.heap.objs.size+1))
local macro_rules|`(#[18])=>`((fun z=>nomatch z))
local macro_rules|`(#[19])=>`((by walk_at "m"))
local macro_rules|`(#[20])=>`(("__debug__":Str))
local macro_rules|`(#[21])=>`((br (br H2 a<|.lst<|xs.eraseIdx j) a<|.lst (xs.eraseIdx j).dropLast))
local macro_rules|`(#[22])=>`((iw "Reader" "word"<|ag 0))
local macro_rules|`(#[23])=>`((ah.refl _))
local macro_rules|`(#[24])=>`((.Call (.Attribute o name apos) (e::es) [] cpos))
local macro_rules|`(#[25])=>`((aB I q<|∅))
local macro_rules|`(#[26])=>`((scope.names.lookup y.1=J .cell/\((cellsFrom #[17] scope.names []).lookup y.1).isSome=G))
local macro_rules|`(#[27])=>`((x≠"__name__"))
local macro_rules|`(#[28])=>`((by mright))
local macro_rules|`(#[29])=>`((ac rfl rfl))
local macro_rules|`($a<|>$b)=>`(autoParam $a $b)
set_option hygiene true
def Xl{a b c d:Prop}{r:Prop}(h:a/\b/\c/\d)(k:a->b->c->d->r):r:=by grind
def uf{a b c d e:Prop}{r:Prop}(h:a/\b/\c/\d/\e)(k:a->b->c->d->e->r):r:=by grind
def n4{a b c d e f:Prop}{r:Prop}(h:a/\b/\c/\d/\e/\f)(k:a->b->c->d->e->f->r):r:=by grind
def xT{a b c d e f g i:Prop}{r:Prop}(h:a/\b/\c/\d/\e/\f/\g/\i)(k:a->b->c->d->e->f->g->i->r):r:=by grind
def xW{a b c d e f g i j:Prop}{r:Prop}(h:a/\b/\c/\d/\e/\f/\g/\i/\j)(k:a->b->c->d->e->f->g->i->j->r):r:=by grind
def gL{α}{a b c:α->Prop}{r:Prop}(h:∃x,a x/\b x/\c x)(k:∀x,a x->b x->c x->r):r:=by grind
def gR{α}{a b c d:α->Prop}{r:Prop}(h:∃x,a x/\b x/\c x/\d x)(k:∀x,a x->b x->c x->d x->r):r:=by grind
def gS{α}{a b c d e:α->Prop}{r:Prop}(h:∃x,a x/\b x/\c x/\d x/\e x)(k:∀x,a x->b x->c x->d x->e x->r):r:=by grind
def c6{α}{a b c d e f:α->Prop}{r:Prop}(h:∃x,a x/\b x/\c x/\d x/\e x/\f x)(k:∀x,a x->b x->c x->d x->e x->f x->r):r:=by grind
def X7{α β}{a b:α->β->Prop}{r:Prop}(h:∃x y,a x y/\b x y)(k:∀x y,a x y->b x y->r):r:=by grind
def Tw{α β}{a b c:α->β->Prop}{r:Prop}(h:∃x y,a x y/\b x y/\c x y)(k:∀x y,a x y->b x y->c x y->r):r:=by grind
def US{α β}{a b c d:α->β->Prop}{r:Prop}(h:∃x y,a x y/\b x y/\c x y/\d x y)(k:∀x y,a x y->b x y->c x y->d x y->r):r:=by grind
def y2{α β}{a b c d e:α->β->Prop}{r:Prop}(h:∃x y,a x y/\b x y/\c x y/\d x y/\e x y)(k:∀x y,a x y->b x y->c x y->d x y->e x y->r):r:=by grind
def XX{α β}{a b c d e f:α->β->Prop}{r:Prop}(h:∃x y,a x y/\b x y/\c x y/\d x y/\e x y/\f x y)(k:∀x y,a x y->b x y->c x y->d x y->e x y->f x y->r):r:=by grind
def HU{α β γ}{a:α->β->γ->Prop}{r:Prop}(h:∃x y z,a x y z)(k:∀x y z,a x y z->r):r:=by grind
def WM{α β γ}{a b c:α->β->γ->Prop}{r:Prop}(h:∃x y z,a x y z/\b x y z/\c x y z)(k:∀x y z,a x y z->b x y z->c x y z->r):r:=by grind
def c7{α β γ}{a b c d:α->β->γ->Prop}{r:Prop}(h:∃x y z,a x y z/\b x y z/\c x y z/\d x y z)(k:∀x y z,a x y z->b x y z->c x y z->d x y z->r):r:=by grind
def rm{α β γ}{a b c d e:α->β->γ->Prop}{r:Prop}(h:∃x y z,a x y z/\b x y z/\c x y z/\d x y z/\e x y z)(k:∀x y z,a x y z->b x y z->c x y z->d x y z->e x y z->r):r:=by grind
def Ij{α β γ}{a b c d e f:α->β->γ->Prop}{r:Prop}(h:∃x y z,a x y z/\b x y z/\c x y z/\d x y z/\e x y z/\f x y z)(k:∀x y z,a x y z->b x y z->c x y z->d x y z->e x y z->f x y z->r):r:=by grind
def rA{α β γ}{a b c d e f g:α->β->γ->Prop}{r:Prop}(h:∃x y z,a x y z/\b x y z/\c x y z/\d x y z/\e x y z/\f x y z/\g x y z)(k:∀x y z,a x y z->b x y z->c x y z->d x y z->e x y z->f x y z->g x y z->r):r:=by grind
def y8{α β γ δ}{a b:α->β->γ->δ->Prop}{r:Prop}(h:∃x y z u,a x y z u/\b x y z u)(k:∀x y z u,a x y z u->b x y z u->r):r:=by grind
def yF{α β γ δ}{a b c d:α->β->γ->δ->Prop}{r:Prop}(h:∃x y z u,a x y z u/\b x y z u/\c x y z u/\d x y z u)(k:∀x y z u,a x y z u->b x y z u->c x y z u->d x y z u->r):r:=by grind
def gU{α β γ δ ε}{a b c d:α->β->γ->δ->ε->Prop}{r:Prop}(h:∃x y z u v,a x y z u v/\b x y z u v/\c x y z u v/\d x y z u v)(k:∀x y z u v,a x y z u v->b x y z u v->c x y z u v->d x y z u v->r):r:=by grind
def c9{α β γ δ ε}{a b c d e f:α->β->γ->δ->ε->Prop}{r:Prop}(h:∃x y z u v,a x y z u v/\b x y z u v/\c x y z u v/\d x y z u v/\e x y z u v/\f x y z u v)(k:∀x y z u v,a x y z u v->b x y z u v->c x y z u v->d x y z u v->e x y z u v->f x y z u v->r):r:=by grind
def UZ{α β γ δ ε ζ}{a b:α->β->γ->δ->ε->ζ->Prop}{r:Prop}(h:∃x y z u v w,a x y z u v w/\b x y z u v w)(k:∀x y z u v w,a x y z u v w->b x y z u v w->r):r:=by grind
def Vc{α β γ δ ε ζ}{a b c:α->β->γ->δ->ε->ζ->Prop}{r:Prop}(h:∃x y z u v w,a x y z u v w/\b x y z u v w/\c x y z u v w)(k:∀x y z u v w,a x y z u v w->b x y z u v w->c x y z u v w->r):r:=by grind
def TB{α:Type}{P:List α->Prop}(h:P [])(g:∀a l,P l->P (a::l)):∀l,P l:=List.rec h g
def X5{P:Nat->Prop}(h:P 0)(g:∀n,P n->P (n+1)):∀n,P n:=Nat.rec h g
def Z46{α β γ δ}{a b c d e f:α->β->γ->δ->Prop}{r:Prop}(h:∃x y z u,a x y z u/\b x y z u/\c x y z u/\d x y z u/\e x y z u/\f x y z u)(k:∀x y z u,a x y z u->b x y z u->c x y z u->d x y z u->e x y z u->f x y z u->r):r:=by grind
def Z67{α β γ δ ε ζ}{a b c d e f g:α->β->γ->δ->ε->ζ->Prop}{r:Prop}(h:∃x y z u v w,a x y z u v w/\b x y z u v w/\c x y z u v w/\d x y z u v w/\e x y z u v w/\f x y z u v w/\g x y z u v w)(k:∀x y z u v w,a x y z u v w->b x y z u v w->c x y z u v w->d x y z u v w->e x y z u v w->f x y z u v w->g x y z u v w->r):r:=by grind
def Xaq(h:True:=by rfl):True:=h
def Rv:Lean.Syntax:=Xaq._auto_1
def Xaj(h:True:=by decide):True:=h
def Sm:Lean.Syntax:=Xaj._auto_1
def Xbq(h:True:=by walk_at "tok"):True:=h
def XW:Lean.Syntax:=Xbq._auto_1
def Xbj(h:True:=by walk_at"u"):True:=h
def XN:Lean.Syntax:=Xbj._auto_1
def Xcq(h:True:=by walk_at"v"):True:=h
def uO:Lean.Syntax:=Xcq._auto_1
def Xcj(h:True:=by intro _;rfl):True:=h
def uN:Lean.Syntax:=Xcj._auto_1
def Xdq(h:True:=by exact fun _=>rfl):True:=h
def gK:Lean.Syntax:=Xdq._auto_1
def Xdj(h:True:=by exact fun _ _=>rfl):True:=h
def k7:Lean.Syntax:=Xdj._auto_1
def Xeq(h:True:=by simp):True:=h
def xI:Lean.Syntax:=Xeq._auto_1
def Xej(h:True:=by exact⟨rfl,rfl⟩):True:=h
def xB:Lean.Syntax:=Xej._auto_1
namespace L2
open PySem Sem
def lI(h:Runs M Γ p t fs s e s'):s.toks<=s'.toks:=by
 induction h<;>first
  |rfl
  |assumption
  |(rename_i c;exact Nat.le_of_succ_le c)
  |(rename_i a b;exact RW a b)
  |grind
theorem wp_toks{i:X->Pos->ID->Prop}(M:Model)(j:Ctx)(e:Sem X)(pos:Pos)(sh:ID)(d:n<=sh.toks)
  (qm:wp M j e (fun x p s=>n<=s.toks->i x p s) (fun x p s=>n<=s.toks->exc x p s) pos sh):wp M j e i exc pos sh:=by
 revert qm d
 induction e generalizing pos sh with
 |pure x=>mright
 |raise v=>mright
 |unsupported|finish|yield|fork|await|register=>exact fun _ h=>h
 |rule _ k b|«at» _ k b|alloc _ k b|loadIfAlive _ k b|point _ k b|ask k b|os _ _ k b|handled _ k b|newGen _ k b|stack k b|thread k b=>mright
 |fresh k b=>exact fun d h=>b _ _ _ (nJ d) h
 |load a _ k b|genState a k b=>exact fun d⟨o,ho,h⟩=>⟨o,ho,b _ _ _ d h⟩
 |update a _ f k b|choose _ _ k b=>exact fun d⟨ha,h⟩=>⟨ha,b _ _ _ d h⟩
 |call c h g l k b=>exact fun d t=>X7 t fun r s' w y=>⟨r,s',w,b r pos s' (RW d<|lI w) y⟩
 | resume g r l k b=>exact fun d  t=>X7 t fun u s' hw h=>⟨u,s',hw,b _ _ _ (RW d ((by
   unfold Wakes at hw;split at hw
   .exact hw.elim
   .split at hw
    .obtain⟨e1,m,h1,_,_,rfl⟩:=hw;have q:=lI h1;exact q
    .mright
    .rw[hw.2];exact mK _
   .obtain⟨e1,m,h1,_,_,rfl⟩:=hw;have q:=lI h1;exact q
   .mright
   grind))) h⟩
def aO{t:Sem α}{Q:α->ID->Prop}(c:n<=s.toks)
  (h:SN M A t (fun v s'=>n<=s'.toks->Q v s') (fun e s'=>n<=s'.toks->E e s') s):SN M A t Q E s:=fun b p a=>wp_toks M b t p s c<|h b p a
def dk(b:n<=s.toks)(h:qq M A c (fun r s'=>n<=s'.toks->R r s') s):qq M A c R s:=fun d p e a=>
 let⟨r,s',hr,hR⟩:=h d p e a
 ⟨r,s',hr,hR<|RW b<|lI hr⟩
end L2
namespace L2
open PySem PySem.Spec PyProof.Rows
inductive Key where
 |inl (i:Int)|inr (x:Str)|nn
 deriving DecidableEq
noncomputable def vn:Key->nE->Bool
 |.inl k,v=>Value.isInt k v
 |.inr x,v=>Value.isStrOf x v
 |.nn,v=>match v with
  |.none=>G
  |_=>η
def abB(w:Sl):Key->Int
 |.inl k=>hashInt k
 |.inr x=>hashStr w x
 |.nn=>4238894112
theorem bS:∀{k:Key}{v:nE},vn k v=G->(∃i t,k=Key.inl i/\v=uh i t)\/(∃x t,k=Key.inr x/\v=Value.str x t)\/(k=Key.nn/\v=Yk)
 |.inl i,v,h=>by
  obtain⟨t,e⟩:=Value.isInt_shape h
  exact .inl ⟨i,t,rfl,e⟩
 |.inr x,v,h=>by
  obtain⟨t,e⟩:=Value.isStrOf_shape h
  exact .inr (.inl ⟨x,t,rfl,e⟩)
 |.nn,v,h=>by
  cases v with
  |none=>grind
  |_=>exact nomatch h
def DJ(i:Int)(t:Tok):vn (.inl i) (.int i t)=G:=by simp[vn,Value.isInt]
def D5(x:Str)(t:Tok):vn (.inr x) (.str x t)=G:=by simp[vn,Value.isStrOf]
def Q8(a b:Int):decide ((Key.inl a:Key)=Key.inl b)=(a==b):=by
 grind
def aa1(a b:Str):decide ((Key.inr a:Key)=Key.inr b)=decide (a=b):=by
 mright
def Rn(a:Int)(b:Str):decide ((Key.inl a:Key)=Key.inr b)=η:=TU (fun q=>nomatch q)
def PQ(a:Str)(b:Int):decide ((Key.inr a:Key)=Key.inl b)=η:=TU (fun q=>nomatch q)
def II(h:Q 4238894112 {s with toks:=s.toks+1}):SN (UA prog w) A (PySem.pyHash .none) Q E s:=by
 refine iF ?_;refine U4 ?_;have a:s.TypeIs .none "NoneType":=rfl;refine iF<|wpAny_specialOf a rQ.lookup ?_;refine iF<|wpAny_specialOf a rQ.lookup ?_;refine iF (wpAny_callSpecialIfBoundUnlessNone?_slot a rQ
  (mD rQ a PySem.F.entry_NoneType_hash
   ((wpAny_ret_mkInt ?_)) (PySem.F.args_NoneType_hash_1 _)))
 exact U4 h
def dE(prog:Tc)(w:Sl):PySem.KeyKind prog w Key where
 is:=vn
 hash:=abB w
 inj:=fun v a b f g=>by
  rcases bS f with⟨i,t,rfl,rfl⟩|⟨x,t,rfl,rfl⟩|⟨rfl,rfl⟩<;>rcases bS g with⟨j,u,rfl,e⟩|⟨y,u,rfl,e⟩|⟨rfl,e⟩<;>first|rfl|(cases e;rfl)|cases e
 byValue:=fun k v h=>by
  rcases bS h with⟨i,t,rfl,rfl⟩|⟨x,t,rfl,rfl⟩|⟨rfl,rfl⟩<;>rfl
 pyHash:=fun c h=>by
  rcases bS c with⟨i,t,rfl,rfl⟩|⟨x,t,rfl,rfl⟩|⟨rfl,rfl⟩
  .exact wpAny_pyHash_int h
  .exact wpAny_pyHash_str h
  .exact II h
 eqBool:=fun d c h=>by
  rcases bS d with⟨i,t,rfl,rfl⟩|⟨x,t,rfl,rfl⟩|⟨rfl,rfl⟩
  .rcases bS c with⟨j,u,rfl,rfl⟩|⟨y,u,rfl,rfl⟩|⟨rfl,rfl⟩
   .rw[Q8]at h;exact wpAny_eqBool_int h
   .rw[Rn]at h;exact NA i t y u _ _ _ _ h
   .exact QH i t _ _ _ _ h
  .rcases bS c with⟨j,u,rfl,rfl⟩|⟨y,u,rfl,rfl⟩|⟨rfl,rfl⟩
   .rw[PQ]at h;exact NG x t j u _ _ _ _ h
   .rw[aa1]at h;exact wpAny_eqBool_str h
   .exact QI x t _ _ _ _ h
  .rcases bS c with⟨j,u,rfl,rfl⟩|⟨y,u,rfl,rfl⟩|⟨rfl,rfl⟩
   .exact QS j u _ _ _ _ h
   .exact QX y u _ _ _ _ h
   .exact SE _ _ _ _ _ h
 «strs»:=fun k x t v h=>by
  rcases bS h with⟨i,u,rfl,e⟩|⟨y,u,rfl,e⟩|⟨rfl,e⟩
  .exact nomatch e
  .injection e with e1 _
   subst e1;cases v<;>rfl
  .exact nomatch e
inductive V where
 |S9|bl (b:Bool)|int (i:Int)|str (x:Str)|X4 (b:Array UInt8)|xH (b:UInt64)|ref (a:SA)|ty (n:String)
 deriving DecidableEq
abbrev Se:=List V
def aP:V->nE->Prop
 |.S9,u=>u=Yk
 |.bl b,u=>u=Value.bool b
 |.int i,u=>∃t,u=uh i t
 |.str x,u=>∃t,u=Value.str x t
 |.X4 b,u=>∃t,u=Value.bytes b t
 |.xH b,u=>∃t,u=Value.float b t
 |.ref a,u=>u=WU a
 |.ty n,u=>u=Value.type n
abbrev aU:Se->TK->Prop:=Paired aP
theorem aU.length(r:aU xs us):xs.length=us.length:=Paired.length r
theorem aU.get:∀{xs:Se}{us:TK}{i:Nat}{x:V},aU xs us->xs[i]?=J x->∃u,us[i]?=J u/\aP x u
 |_,_,_,_,.nil,e=>by simp at e
 |_,_,0,_,.cons r _,e=>by grind
 |_,_,i+1,x,.cons _ t,e=>by
  obtain⟨u,h1,h2⟩:=aU.get t (by simpa using e);mright
theorem aU.set{x:V}{u:nE}(r:aP x u):∀{xs:Se}{us:TK}(i:Nat),aU xs us->aU (xs.set i x) (us.set i u)
 |_,_,_,.nil=>.nil
 |_,_,0,.cons _ t=>.cons r t
 |_,_,i+1,.cons q t=>.cons q<|aU.set r i t
theorem aU.append{ys:Se}{ws:TK}(h:aU xs us)(s:aU ys ws):aU (xs++ys) (us++ws):=by
 induction h with
 |nil=>exact s
 |cons r _ i=>exact .cons r i
theorem aU.take:∀{xs:Se}{us:TK}(n:Nat),aU xs us->aU (xs.take n) (us.take n)
 |_,_,0,_=>.nil
 |_,_,_+1,.nil=>.nil
 |_,_,n+1,.cons r t=>.cons r<|aU.take n t
theorem aU.drop:∀{xs:Se}{us:TK}(n:Nat),aU xs us->aU (xs.drop n) (us.drop n)
 |_,_,0,r=>r
 |_,_,_+1,.nil=>.nil
 |_,_,n+1,.cons _ t=>aU.drop n t
def pE:Option V->Option nE->Prop
 |some v,J u=>aP v u
 |none,U=>True
 |_,_=>False
def KV{κ:Type}:List (κ×V)->List (κ×nE)->Prop:=Paired fun(p:κ×V)(q:κ×nE)=>p.1=q.1/\aP p.2 q.2
noncomputable def kV:Key->V
 |.inl i=>.int i
 |.inr x=>.str x
 |.nn=>.S9
inductive HO where
 /-- a list -/
 |lst (xs:Se)
 /-- a tuple (never changes) -/
 |tup (xs:Se)
 /-- a dict whose keys are ints and BF;one whose keys are tuples of ints and BF (the empty one is both) -/
 |dK (kvs:List<|Key×V)|dT (kvs:List<|List Key×V)
 /-- a set of ints: aV members,aV size -/
 |set (S:Int->Bool) (n:Nat)
 /-- an instance of the class at C,aV dict at dx,aV attributes -/
 |ins (C dx:SA) (fs:List<|Str×V)
 /-- the dict of the instance at x -/
 |own (x:SA)
 /-- the dict of an exception -/
 |xd (fs:List<|Str×V)
 /-- a bound method,f of x -/
 |met (f x:SA)
 /-- a range object lo,lo+1,.. below hi -/
 |GX (lo hi:Int)
 /-- a thing that is qm to the object (the script;a dict while a loop walks it): read,never Bt while it is so -/
 |WC (o:Obj) (u:HO)
 /-- a code object's table -/
 |UX (q:Str)
 /-- any other thing,by what is G of aV one object (a def of one's own: SetO a S n:=HO.ext fun h=>..) -/
 |ext (φ:T3->Prop)
abbrev Hp:=SA->Option HO
def br(H:Hp)(a:SA)(o:HO):Hp:=fun b=>if b=a then J o else H b
def aE:br H a o a=J o:=by unfold br;rw[SI rfl]
def aG(h:b≠a):br H a o b=H b:=by unfold br;rw[SM h]
def bc{H:Hp}(h:H a=J o)(h':H b=U):a≠b:=by
 grind
section
variable(P:Tc)(w:Sl)
def fK(H:Hp)(h:T3)(a:SA):HO->Prop
 |.lst xs=>xs.length<=Ta/\∃(aV:TK)(n:Nat),aU xs aV/\h.get? a=J {cls:=.type "list",data:=.seq aV.toArray n}
 |.tup xs=>xs.length<=Ta/\∃aV:TK,aU xs aV/\IsTup h a aV.toArray
 |.dK kvs=>kvs.length<=Ta/\(a==zL)=η/\∃vs,KV kvs vs/\h.DictOf (dE P w) a vs
 | .dT kvs=>kvs.length<=Ta/\(a==zL)=η/\∃ xs:List (List Key×SA×nE),
   Paired (fun(p:List Key×V)(q:List Key×SA×nE)=>p.1=q.1/\H q.2.1=J (.tup<|p.1.map kV)/\aP p.2 q.2.2) kvs xs /\
   ∃o es e,h.get? a=J o/\o.ExactDict/\o.data=.dict es e/\es.toList=xs.map (entryOfKey<|tupleKind<|dE P w)/\(xs.map (·.1)).Nodup
 |.set S n=>h.SetOf (intKind P w) a S n
 | .ins C dx fs=>H dx=J (.own a)/\fs.length<=1000/\dx≠a/\h.get? a=J (mH C dx) /\
   ∃mA,h.Ns1 dx mA/\(∀f,pE (fs.lookup f)<|mA f)/\Bf mA (fs.map (·.1))
 |.own _=>∃o,h.get? a=J o
 |.xd fs=>∃mA,h.Ns1 a mA/\∀f,pE (fs.lookup f)<|mA f
 |.GX lo hi=>∃t u v,h.get? a=J {cls:=.type "range",data:=.fields #[.int lo t,.int hi u,.int 1 v]}
 |.WC o u=>h.get? a=J o/\fK H h a u
 |.UX q=>∃ps,h.get? a=J (ik ps)/\TriplesOk ps.toList/\∀pos b,codeAmong pos ps.toList=J b->∃c d vs t,b=.ref c/\H c=J (.WC d<|.own a)/\d.data=.fields vs/\vs[1]?=J (.str q t)
 |.met f x=>h.get? a=J (PySem.W.methodObj (.ref f)<|.ref x)
 |.ext φ=>φ h/\(∃o,h.get? a=J o)/\∀h1 h2:T3,φ h1->(∀o,h1.get? a=J o->h2.get? a=J o)->φ h2
def nW(H:Hp)(h:T3):Prop:=∀a o,H a=J o->fK P w H h a o
end
section
variable{a:SA}
theorem fK.lt(x:fK P w H h a o):a<h.objs.size:=by
 cases o with
 |lst xs=>obtain⟨_,_,_,_,e⟩:=x;exact Tn e
 |tup xs=>obtain⟨_,_,_,p⟩:=x;exact p.lt
 |dK b=>obtain⟨_,_,_,_,o,_,_,e,_⟩:=x;exact Tn e
 |dT b=>obtain⟨_,_,_,_,o,_,_,e,_⟩:=x;exact Tn e
 |set S n=>refine y8 x fun o _ _ _ e _=>?_;exact Tn e
 |ins C c fs=>refine uf x fun _ _ _ e _=>?_;exact Tn e
 |own y=>obtain⟨_,e⟩:=x;exact Tn e
 |xd fs=>obtain⟨_,⟨_,_,_,e,_⟩,_⟩:=x;exact Tn e
 |GX lo d=>obtain⟨_,_,_,e⟩:=x;exact Tn e
 |WC g u=>obtain⟨e,_⟩:=x;exact Tn e
 |UX q=>obtain⟨_,e,_⟩:=x;exact Tn e
 |met f y=>exact Tn<|(x)
 |ext φ=>obtain⟨_,⟨_,e⟩,_⟩:=x;exact Tn e
theorem Paired.flt{F SK:α->β->Prop}{d:List α}{c:List β}(h:Paired F d c)(f:∀a b,F a b->SK a b):Paired SK d c:=by
 induction h with
 |nil=>exact .nil
 |cons r _ i=>exact .cons (f _ _ r) i
def Hl(H:Hp)(b:SA)(u:HO):Prop:=H b=J u/\match u with
 |.tup _=>True
 |.WC _ _=>True
 |_=>False
theorem fK.zY(x:fK P w H h a o)(k:∀b u,(b=a\/H b=J (.own a))->h.get? b=J u->h'.get? b=J u)
  (M:∀b,H b=J (.own a)->H' b=J (.own a)) (s:∀b u,Hl H b u->Hl H' b u):fK P w H' h' a o:=by
 induction o with
 |lst xs=>obtain⟨z,aV,n,r,e⟩:=x;exact⟨z,aV,n,r,k _ _ (.inl rfl) e⟩
 |tup xs=>obtain⟨z,aV,r,g,e,c⟩:=x;exact⟨z,aV,r,g,k _ _ (.inl rfl) e,c⟩
 |dK j=>obtain⟨z,y,vs,r,g,es,i,e,c⟩:=x;exact⟨z,y,vs,r,g,es,i,k _ _ (.inl rfl) e,c⟩
 |dT j=>
  obtain⟨z,y,xs,r,g,es,i,e,c⟩:=x;exact⟨z,y,xs,Paired.flt r fun p q z=>⟨z.1,(s _ _ ⟨z.2.1,trivial⟩).1,z.2.2⟩,g,es,i,k _ _ (.inl rfl) e,c⟩
 |set S n=>refine y8 x fun g es i t e c=>?_;exact⟨g,es,i,t,k _ _ (.inl rfl) e,c⟩
 |ins C N fs=>
  obtain⟨d,z,A,e,mA,⟨l,es,i,m,c⟩,r⟩:=x;exact⟨M _ d,z,A,k _ _ (.inl rfl) e,mA,⟨l,es,i,k _ _ (.inr d) m,c⟩,r⟩
 |own y=>obtain⟨g,e⟩:=x;exact⟨g,k _ _ (.inl rfl) e⟩
 |xd fs=>obtain⟨mA,⟨l,es,i,e,c⟩,r⟩:=x;exact⟨mA,⟨l,es,i,k _ _ (.inl rfl) e,c⟩,r⟩
 |GX lo O=>obtain⟨t,u,v,e⟩:=x;exact⟨t,u,v,k _ _ (.inl rfl) e⟩
 |WC g u I=>obtain⟨e,q⟩:=x;exact⟨k _ _ (.inl rfl) e,I q⟩
 |UX q=>
  refine gL x fun ps e tr r=>?_;refine⟨ps,k a _ (.inl rfl) e,tr,fun pos B F=>?_⟩;obtain⟨c,K,vs,E,e1,m,D⟩:=r pos B F;exact⟨c,K,vs,E,e1,(s _ _ ⟨m,trivial⟩).1,D⟩
 |met f y=>
  have e  := x;exact k a _ (.inl rfl) e
 |ext φ=>obtain⟨p,⟨o,e⟩,st⟩:=x;exact⟨st _ _ p fun o q=>k _ _ (.inl rfl) q,⟨o,k _ _ (.inl rfl) e⟩,st⟩
def nW.lt(x:nW P w H h)(e:H a=J o):a<h.objs.size:=(x a o e).lt
theorem nW.fresh(x:nW P w H h)(e:h.objs.size<=a):H a=U:=by
 cases q:H a with
 |none=>rfl
 |some u=>exact absurd (Rw (x.lt q) e)<|ei _
def nW.kept(x:nW P w H h)(k:∀b u,h.get? b=J u->h'.get? b=J u):nW P w H h':=fun a o e=>
 (x a o e).zY (fun b u _ q=>k b u q) (fun _ q=>q) fun _ _ q=>q
def nW.laid(x:nW P w H h)(k:∀b u,h.get? b=J u->h'.get? b=J u)(g:h.objs.size<=a)(new:fK P w (br H a o) h' a o):nW P w (br H a o) h':=fun b u e=>by
 have d:=x.fresh g;by_cases f:b=a
 .subst f;rw[aE]at e;cases e;exact new
 .rw[aG f]at e;exact(x b u e).zY (fun c v _ q=>k c v q) (fun c q=>by rw[aG<|bc q d];exact q) fun c xs q=>⟨by rw[aG<|bc q.1 d];exact q.1,q.2⟩
end
def Rd(H:Hp)(a:SA)(u:HO):Prop:=H a=J u\/∃o,H a=J (.WC o u)
theorem Rd.ok(r:Rd H a u)(x:nW P w H h):fK P w H h a u:=by
 rcases r with r|⟨o,r⟩
 .exact x a u r
 .obtain⟨_,q⟩:=x a _ r;exact q
def Sk:Option HO->Prop
 |some (.lst _)=>True
 |some (.dK _)=>True
 |some (.dT _)=>True
 |some (.set _ _)=>True
 |some (.ins _ _ _)=>True
 |some (.ext _)=>True
 |_=>False
section
def nW.write(ok:nW P w H h)(f:Sk<|H x)(m:e=x\/H e=J (.own x))(k:∀b u,b≠e->h.get? b=J u->h'.get? b=J u)(g:∃u,h'.get? e=J u)
  (new:fK P w (br H x o') h' x o'):nW P w (br H x o') h':=fun b u q=>by
 have d:∀c y,H c=J (.own y)->c≠x:=fun c y r z=>by subst z;rw[r]at f;exact f
 have a:∀c u,Hl H c u->c≠x:=fun c u r z=>by subst z;rw[r.1]at f;have:=r.2;cases u<;>first|exact f|exact this
 by_cases i:b=x
 .subst i;rw[aE]at q;cases q;exact new
 .rw[aG i]at q;by_cases j:b=e
  .have q':H b=J (.own x):=by
    mright
   rw[q]at q';cases q';obtain⟨v,hv⟩:=g
   exact⟨v,⊥⟩
  .refine(ok b u q).zY (fun c v l r=>k c v ?_ r) (fun c r=>by rw[aG<|d c b r];exact r) fun c xs r=>⟨by rw[aG<|a c xs r];exact r.1,r.2⟩
   grind
end
structure Un(fs ex:Sf)(H H':Hp)(h h':T3):Prop where
 keep:∀b o,h.get? b=J o->H b=U->b∉fs->b∉ex->h'.get? b=J o
 slot:∀b o,h.get? b=J o->H b=U->b∈fs->b∉ex->∃sl,h'.get? b=J {o with slots:=sl}
 free:∀b o,h.get? b=J o->H b=U->b∉ex->H' b=U
 there:∀b o,h.get? b=J o->b∉ex->∃o',h'.get? b=J o'
 xV:∀b xs,H b=J (.tup xs)->H' b=J (.tup xs)
 tQ:∀b o u,H b=J (.WC o u)->H' b=J (.WC o u)
 b9:∀b q,H b=J (.UX q)->H' b=J (.UX q)
section
variable{h h1 h2:T3}{a x:SA}
def Un.any(u:Un fs ex H H1 h h1)(q:h.get? b=J ob)(n:H b=U)(c:b∉ex):∃d,h1.get? b=J {ob with slots:=d}:=by
 by_cases a:b∈fs
 .exact u.slot b ob q n a c
 .exact⟨ob.slots,u.keep b ob q n a c⟩
def Un.kept(k:∀b u,h.get? b=J u->h'.get? b=J u):Un fs ex H H h h':=
 ⟨fun b a q _ _ _=>k b a q,fun b a q _ _ _=>⟨a.slots,k b a q⟩,fun _ _ _ n _=>n,fun b a q _=>⟨a,k b a q⟩,fun _ _ q=>q,fun _ _ _ q=>q,fun _ _ q=>q⟩
section
variable{h h1 h2:Heap}{a x:SA}
def Un.refl:Un fs ex H H h h:=Un.kept fun _ _ q=>q
end
def Un.laid(k:∀b u,h.get? b=J u->h'.get? b=J u)(d:h.objs.size<=a)(c:H a=U):Un fs ex H (br H a o) h h' where
 keep:=fun b u q _ _ _=>k b u q
 slot:=fun b u q _ _ _=>⟨u.slots,k b u q⟩
 free:=fun b u q n _=>by rw[aG<|Vd<|Rw (Tn q) d];exact n
 there:=fun b u q _=>⟨u,k b u q⟩
 xV:=fun b xs q=>by rw[aG<|bc q c];exact q
 tQ:=fun b u xs q=>by rw[aG<|bc q c];exact q
 b9:=fun b ps q=>by rw[aG<|bc q c];exact q
def Un.write(c:Sk<|H x)(i:e=x\/H e=J (.own x))(k:∀b u,b≠e->h.get? b=J u->h'.get? b=J u)(f:∃u,h'.get? e=J u):Un fs ex H (br H x o) h h':=by
 have g:∀b,H b=U->b≠x:=fun b n z=>by subst z;rw[n]at c;exact c
 have d:∀b,H b=U->b≠e:=fun b n z=>by
  mright
 have a:∀b u,H b=J u->¬Sk (J u)->b≠x:=fun b u q nm z=>by mright
 refine⟨fun b u q n _ _=>k b u (d b n) q,fun b u q n _ _=>⟨u.slots,k b u (d b n) q⟩,fun b u q n _=>by rw[aG<|g b n];exact n,fun b u q _=>?_,
  fun b xs q=>by rw[aG (a b _ q fun z=>z)];exact q,fun b u xs q=>by rw[aG (a b _ q fun z=>z)];exact q,fun b ps q=>by rw[aG (a b _ q fun z=>z)];exact q⟩
 grind
end
def VO(h:T3)(H:Hp):Sf:=(e6 h.objs.size).filter fun a=>(H a).isSome
def yU(h:T3)(H:Hp):T3:=PySem.W.hideAll h<|VO h H
def F1(e:h.get? b=J o)(n:H b=U):(yU h H).get? b=J o:=
 PySem.W.hideAll_get _ e fun a=>by
  have q:(H b).isSome=G:=(dN.mp a).2;rw[n]at q;mright
theorem JH(e:(yU h H).get? b=J o):h.get? b=J o/\H b=U:=by
 have a:h.get? b=J o:=PySem.W.of_hideAll (VO h H) e;refine⟨a,?_⟩;cases q:H b with
 |none=>rfl
 |some x=>
  have c:b∈VO h H:=dN.mpr ⟨Qz.mpr<|Tn a,by simp[q]⟩;have z:(yU h H).get? b=U:=PySem.W.hideAll_none (VO h H) c;rw[z]at e;cases e
structure Mod(K:aT)(mg:Sq)(base:T3):Prop where
 XM:K.In base
 glob:base.Ns By mg
 blt:∃mb,base.Ns builtinsNs mb/\∀x:Str,x≠"__name__"->mb x=Vl x
 nolimit:base.NoLimit
structure Cx where
 prog:Tc
 w:Sl
 K:aT
 mg:Str->Option nE
 base:T3
 A:Tx
 N:SH
 s₀:ID
 H₀:Hp
 env:Env
 outer:List Env
 stack:List Env
 ex:Sf
 fn:Str->Bool
 calm:Bool
 tn:Nat:=0
 pn:TQ
 xe:nE->ID->Prop
def Ec(l:List Env):Sf:=l.filterMap (·.frame)
abbrev Cx.fs(X:Cx):Sf:=Ec X.outer
def m6(a:Scope)(x:Str):Prop:=a.names.lookup x=J .local\/a.names.lookup x=J .cell\/a.names.lookup x=J .free
def Loc(a:Scope)(x:Str):Prop:=a.names.lookup x=J .local\/a.names.lookup x=J .cell
def Z22(env:Env)(h:T3)(m:Sq)(x:Str)(u:nE):Prop:=
 (env.kindOf x=J .local/\m x=J u)\/((env.kindOf x=J .cell\/env.kindOf x=J .free)/\∃c,env.cells.lookup x=J c/\h.IsCell c (J u))
noncomputable def g6(K:aT)(p:SA×Obj):Option<|SA×Str:=match p.2.data with
 |.fields vs=>match(vs[1]?:Option nE),(vs[11]?:Option nE)with
  |some (.str q _),J (.ref P)=>if(K.lookup P).isNone&&t5 K p.1 P then J (P,q++".<locals>."++"<lambda>")else U
  |_,_=>U
 |_=>U
def RJ(K:aT)(H:Hp):Prop:=∀p∈K,∀x,g6 K p=J x->H x.1=J (.UX x.2)
structure Cx.Ok(X:Cx):Prop where
 mod:Mod X.K X.mg X.base
 kind:X.env.scope.kind=.function
 glob:X.env.globals=By
 blt:X.env.builtins=builtinsNs
 above:X.s₀.heap.objs.size<=X.env.locals
 inj:∀x y c,X.env.cells.lookup x=J c->X.env.cells.lookup y=J c->x=y
 has:∀x,(X.env.kindOf x=J .cell\/X.env.kindOf x=J .free)->∃c,X.env.cells.lookup x=J c
 sY:∀x c,X.fn x=G->X.env.cells.lookup x=J c->X.s₀.heap.objs.size<=c
 hd:X.calm=G->X.A.handled=U
 frames:X.A.frames=J X.stack
 xN:X.stack=X.outer\/(X.stack=X.env::X.outer/\X.env.frame=J X.env.locals)
 x9:∀b∈X.ex,b≠X.env.locals/\∀x c,X.env.cells.lookup x=J c->c≠b
 bs:∀b o,X.base.get? b=J o->X.s₀.heap.get? b=J o/\X.H₀ b=U
 Wq:X.base.objs.size<=X.s₀.heap.objs.size
 Zo:∀b o,X.base.get? b=J o->b∉X.ex
 ZR:∀b∈X.ex,b∉X.fs
 WE:X.s₀.heap.FunFrames X.base X.outer
 XJ:(∀b∈X.fs,X.H₀ b=U)/\RJ X.K X.H₀
structure Inv(X:Cx)(aa:TQ)(Z:List (Option V))(H:Hp)(s:ID):Prop where
 ok:X.Ok
 os:s.os=X.s₀.os
 bare:AllBare s.gens
 base:Un X.fs X.ex X.H₀ H X.s₀.heap s.heap
 loc:∃m,s.heap.Ns X.env.locals m/\∀(i:Nat)(x:Str)(v:V),X.N[i]?=J x->Z[i]?=J (J v)->m6 X.env.scope x->∃u,aP v u/\Z22 X.env s.heap m x u
 cell:∀x c,X.env.cells.lookup x=J c->∃v,s.heap.IsCell c v
 free:H X.env.locals=U
 WZ:∀x c,X.env.cells.lookup x=J c->H c=U
 pin:∀p∈X.pn++aa,s.heap.get? p.1=J p.2/\H p.1=U/\p.1≠X.env.locals/\p.1∉X.fs/\∀v,p.2.data≠.cell v
 Su:nW X.prog X.w H s.heap
 len:Z.length=X.N.length
 tk:X.tn<=s.toks
end L2
local macro_rules | `(tactic| walk_at "tok") => `(tactic| first | assumption | exact L2.Inv.tk (by assumption) | exact Nat.le_succ_of_le (L2.Inv.tk (by assumption)) | exact Nat.le_succ_of_le (Nat.le_succ_of_le (L2.Inv.tk (by assumption))) | (have hI := L2.Inv.tk (by assumption); lia) | exact Nat.zero_le _)
namespace L2
open PySem PySem.Spec PyProof.Rows
section
variable{X:Cx}
def Cx.Ok.Z42(ok:X.Ok)(e:X.base.get? b=J o):b∉X.fs:=fun a=>by
 have:=(ok.WE.mem a).1
 rw[e]at this;cases this
theorem Inv.bs(I:Inv X aa Z H s):∀b o,X.base.get? b=J o->s.heap.get? b=J o/\H b=U:=fun b o e=>
 ⟨I.base.keep b o (I.ok.bs b o e).1 (I.ok.bs b o e).2 (I.ok.Z42 e)<|I.ok.Zo b o e,I.base.free b o (I.ok.bs b o e).1 (I.ok.bs b o e).2<|I.ok.Zo b o e⟩
def Inv.bk(I:Inv X aa Z H s):∀b o,X.base.get? b=J o->s.heap.get? b=J o:=fun b o e=>(I.bs b o e).1
def Inv.mod(I:Inv X aa Z H s):Mod X.K X.mg X.base:=I.ok.mod
def Inv.tb(I:Inv X aa Z H s):RJ X.K H:=fun p a x e=>I.base.b9 _ _<|I.ok.XJ.2 p a x e
def Inv.U3(I:Inv X aa Z H s):X.K.In s.heap:=I.ok.mod.XM.keeps I.bk
def Inv.fr(I:Inv X aa Z H s):∃m,Fr X.base X.env.locals s.heap m:=
 let⟨m,hn,_⟩:=I.loc
 ⟨m,hn,I.bk,RW I.ok.Wq I.ok.above⟩
def Inv.lt(I:Inv X aa Z H s):X.env.locals<s.heap.objs.size:=let⟨_,hn,_⟩:=I.loc;hn.lt
def Inv.sz(I:Inv X aa Z H s):X.s₀.heap.objs.size<=s.heap.objs.size:=RW I.ok.above<|jx I.lt
def Inv.ab6(I:Inv X aa Z H s){a:SA}(h:s.heap.objs.size<=a):a∉X.fs:=fun c=>by
 obtain⟨_,o,b,_⟩:=I.ok.WE.mem c;exact absurd (Rw (Tn b)<|RW I.sz h)<|ei _
def Inv.fq(I:Inv X aa Z H s):∀x c,X.env.cells.lookup x=J c->c≠X.env.locals:=fun x c e z=>by
 obtain⟨v,o,ho,hd⟩:=I.cell x c e
 obtain⟨m,⟨o',es,d,a,b,_⟩,_⟩:=I.loc
 mright
def Inv.WE(I:Inv X aa Z H s):s.heap.FunFrames X.base X.outer:=by
 have all:∀(l:List Env),(∀b∈Ec l,b∈X.fs)->X.s₀.heap.FunFrames X.base l->s.heap.FunFrames X.base l:=by
  intro l;induction l with
  |nil=>intro _ _;trivial
  |cons env r f=>
   intro hs j;obtain⟨h,⟨Lq0,o,c,g,i,hd⟩,d⟩:=j;have hL  := hs Lq0 (by delta Ec;mright);obtain⟨sl,e⟩:=I.base.slot Lq0 o i (I.ok.XJ.1 Lq0 hL) hL fun z=>I.ok.ZR Lq0 z hL
   exact⟨h,⟨Lq0,_,c,g,e,hd⟩,f (fun b a=>hs b<|by delta Ec;rw[AC,c];exact ie _ a) d⟩
 exact all X.outer (fun _ a=>a) I.ok.WE
def Inv.stack(I:Inv X aa Z H s):s.heap.FunFrames X.base X.stack:=by
 rcases I.ok.xN with e|⟨e,hf⟩
 .rw[e];exact I.WE
 .rw[e];obtain⟨m,hn,_⟩:=I.loc
  refine .cons (by rw[I.ok.kind];decide) hf hn ?_ I.WE;exact Pt<|RW I.ok.Wq I.ok.above
def Inv.wW(I:Inv X aa Z H s):∀b∈Ec X.stack,b∈X.env.locals::X.fs:=fun b a=>by
 rcases I.ok.xN with e|⟨e,hf⟩
 .mright
 .rw[e]at a;delta Ec at a;rw[AC,hf]at a;exact a
def Inv.Y8(I:Inv X aa Z H s):∀b∈Ec X.stack,H b=U:=fun b a=>by
 rcases eQ.mp (I.wW b a)with e|a
 .rw[e];exact I.free
 .obtain⟨_,o,c,_⟩:=I.ok.WE.mem a;exact I.base.free b o c (I.ok.XJ.1 b a) fun z=>I.ok.ZR b z a
def Inv.step{ch:Sf}(I:Inv X aa Z H s)
  (f:∀b∈ch,(b∈X.ex\/X.s₀.heap.objs.size<=b)/\b≠X.env.locals/\(∀x c,X.env.cells.lookup x=J c->c≠b)/\∀p∈X.pn++aa,p.1≠b)
  (keep:∀b o,b≠X.env.locals->b∉X.fs->b∉ch->s.heap.get? b=J o->H b=U->h'.get? b=J o)
  (slot:∀b o,b≠X.env.locals->b∈X.fs->b∉ch->s.heap.get? b=J o->H b=U->∃C,h'.get? b=J {o with slots:=C}) (free:∀b o,b∉ch->s.heap.get? b=J o->H b=U->H' b=U)
  (there:∀b o,b∉ch->s.heap.get? b=J o->∃o',h'.get? b=J o')
  (xV:∀b xs,H b=J (.tup xs)->H' b=J (.tup xs)) (tQ:∀b o u,H b=J (.WC o u)->H' b=J (.WC o u)) (b9:∀b q,H b=J (.UX q)->H' b=J (.UX q))
  (N:∀m,s.heap.Ns X.env.locals m->h'.Ns X.env.locals m) (E:nW X.prog X.w H' h') (O:AllBare g') (M:X.tn<=t'<|>XW):
  Inv X aa Z H' {s with heap:=h',gens:=g',drawn:=d',toks:=t'}:=by
 have A:∀b o,X.s₀.heap.get? b=J o->b≠X.env.locals:=fun b o e=>Vd<|Rw (Tn e) I.ok.above;have h:∀b o,X.s₀.heap.get? b=J o->b∉X.ex->b∉ch:=fun b o e a t=>by
  rcases(f b t).1 with z|z
  .exact a z
  .exact absurd (Rw (Tn e) z) (ei _)
 have g:∀x c,X.env.cells.lookup x=J c->∀v,s.heap.IsCell c v->h'.IsCell c v:=fun x c e v⟨o,y,hd⟩=>by
  have j:c∉ch:=fun z=>(f c z).2.2.1 x c e rfl;by_cases K:c∈X.fs
  .obtain⟨C,q⟩:=slot c o (I.fq x c e) K j y<|I.WZ x c e;exact⟨_,q,hd⟩
  .exact⟨o,keep c o (I.fq x c e) K j y<|I.WZ x c e,hd⟩
 refine⟨I.ok,I.os,O,⟨fun b o e n t a=>?_,fun b o e n t a=>?_,fun b o e n a=>?_,fun b o e a=>?_,fun b xs e=>xV b xs<|I.base.xV b xs e,fun b o xs e=>tQ b o xs<|I.base.tQ b o xs e,fun b ps e=>?_⟩,?_,fun x c e=>?_,?_,fun x c e=>?_,fun p F=>?_,E,I.len,M⟩
 .exact keep b o (A b o e) t (h b o e a) (I.base.keep b o e n t a) (I.base.free b o e n a)
 .obtain⟨C,e1⟩:=I.base.slot b o e n t a
  obtain⟨B,D⟩:=slot b _ (A b o e) t (h b o e a) e1<|I.base.free b o e n a;exact⟨B,D⟩
 .obtain⟨o',e1⟩:=I.base.there b o e a
  exact free b o' (h b o e a) e1<|I.base.free b o e n a
 .obtain⟨o',e1⟩:=I.base.there b o e a
  exact there b o' (h b o e a) e1
 .exact b9 b ps (I.base.b9 b ps e)
 .obtain⟨m,hn,hl⟩:=I.loc
  refine⟨m,N m hn,fun i x v e1 D P=>?_⟩;obtain⟨u,r,l⟩:=hl i x v e1 D P
  refine⟨u,r,?_⟩;rcases l with l|⟨k,c,e,z⟩
  .exact .inl l
  .exact .inr ⟨k,c,e,g x c e _ z⟩
 .obtain⟨v,z⟩:=I.cell x c e
  exact⟨v,g x c e v z⟩
 .obtain⟨m,⟨o,_,_,y,_⟩,_⟩:=I.loc;exact free _ o (fun z=>(f _ z).2.1 rfl) y I.free
 .obtain⟨v,o,y,hd⟩:=I.cell x c e
  exact free c o (fun z=>(f c z).2.2.1 x c e rfl) y<|I.WZ x c e
 .refine uf (I.pin p F) fun e n R Q d=>?_
  have j:p.1∉ch:=fun z=>(f p.1 z).2.2.2 p F rfl;mright
def Inv.un(I:Inv X aa Z H s)(u:Un X.fs [] H H' s.heap h')(a:nW X.prog X.w H' h')(h:X.tn<=t'<|>XW):Inv X aa Z H' {s with heap:=h',toks:=t'}:=by
 obtain⟨m,⟨o,es,j,d,r⟩,_⟩:=id I.loc;obtain⟨i,g⟩:=u.any d I.free ∅;exact I.step (ch:=[]) (fun _ z=>nomatch z) (fun b o _ c _ e n=>u.keep b o e n c<|∅) (fun b o _ c _ e n=>u.slot b o e n c<|∅) (fun b o _ e n=>u.free b o e n<|∅) (fun b o _ e=>u.there b o e<|∅) u.xV u.tQ u.b9 (fun k f=>by
  obtain⟨o',es',ep',ho',r'⟩:=f
  rw[d]at ho';cases ho';exact⟨_,es',ep',g,r'⟩) a I.bare
def Inv.call(I:Inv X aa Z H s)(u:Un (Ec X.stack) ch H H' s.heap h')(j:nW X.prog X.w H' h')(q:AllBare g')
  (f:∀b∈ch,(b∈X.ex\/X.s₀.heap.objs.size<=b)/\b≠X.env.locals/\(∀x c,X.env.cells.lookup x=J c->c≠b)/\∀p∈X.pn++aa,p.1≠b) (y:X.tn<=t'<|>XW):
  Inv X aa Z H' {s with heap:=h',gens:=g',drawn:=d',toks:=t'}:=by
 obtain⟨m,⟨o,es,A,k,r⟩,_⟩:=id I.loc;obtain⟨sl,h⟩:=u.any k I.free fun z=>(f _ z).2.1 rfl
 exact I.step f (fun b o h v a e n=>u.keep b o e n (fun z=>(eQ.mp<|I.wW b z).elim h v) a) (fun b o _ _ a e n=>u.any e n a) (fun b o a e n=>u.free b o e n a) (fun b o a e=>u.there b o e a) u.xV u.tQ u.b9 (fun B l=>by
  obtain⟨o',i,g,d,t⟩:=l;rw[k]at d;cases d;exact⟨_,i,g,h,t⟩) j q
def Inv.turned(I:Inv X aa Z H s)(k:∀b o,b≠it->s.heap.get? b=J o->h'.get? b=J o)(j:H it=U)(d:it≠X.env.locals)
  (h1:it∈X.ex\/X.s₀.heap.objs.size<=it) (h2:∀x c,X.env.cells.lookup x=J c->c≠it) (g:∀p∈X.pn++aa,p.1≠it) (i:X.tn<=t'<|>XW):Inv X aa Z H {s with heap:=h',toks:=t'}:=by
 refine I.step (ch:=[it]) (fun b h=>?_) (fun b o _ _ a e _=>k b o (fun z=>a<|by simp[z]) e) (fun b o _ _ a e _=>⟨o.slots,k b o (fun z=>a<|by simp[z]) e⟩) (fun _ _ _ _ n=>n)
  (fun b o a e=>⟨o,k b o (fun z=>a<|by simp[z]) e⟩) (fun _ _ e=>e) (fun _ _ _ e=>e) (fun _ _ e=>e) (fun m f=>?_) (fun b u e=>?_) I.bare
 .have e  := by simpa using h
  subst e;exact⟨h1,d,h2,g⟩
 .obtain⟨o,es,ep,ho,r⟩:=f
  exact⟨o,es,ep,k _ o (Vn d) ho,r⟩
 .refine(I.Su b u e).zY (fun c v a q=>k c v ?_ q) (fun _ q=>q) fun _ _ q=>q
  lia
def Inv.tok(I:Inv X aa Z H s)(t:Nat)(a:X.tn<=t<|>XW):Inv X aa Z H {s with toks:=t}:=I.un (Un.kept fun _ _ q=>q) I.Su
def Inv.kept(I:Inv X aa Z H s)(k:∀b u,s.heap.get? b=J u->h'.get? b=J u)(a:X.tn<=t'<|>XW):Inv X aa Z H {s with heap:=h',toks:=t'}:=I.un (Un.kept k)<|I.Su.kept k
def Inv.laid{a:SA}(I:Inv X aa Z H s)(k:∀b u,s.heap.get? b=J u->h'.get? b=J u)(c:s.heap.objs.size<=a)(new:fK X.prog X.w (br H a o) h' a o)(d:X.tn<=t'<|>XW):
  Inv X aa Z (br H a o) {s with heap:=h',toks:=t'}:=I.un (Un.laid k c<|I.Su.fresh c)<|I.Su.laid k c new
def Inv.write(I:Inv X aa Z H s)(d:Sk<|H x)(c:e=x\/H e=J (.own x))(k:∀b u,b≠e->s.heap.get? b=J u->h'.get? b=J u)(a:∃u,h'.get? e=J u)
  (new:fK X.prog X.w (br H x o) h' x o) (f:X.tn<=t'<|>XW):Inv X aa Z (br H x o) {s with heap:=h',toks:=t'}:=I.un (Un.write d c k a)<|I.Su.write d c k a new
def Inv.Y7(I:Inv X aa Z H s)(h:∀p∈pins',s.heap.get? p.1=J p.2/\H p.1=U/\p.1≠X.env.locals/\p.1∉X.fs/\∀v,p.2.data≠.cell v):Inv X pins' Z H s:=
 ⟨I.ok,I.os,I.bare,I.base,I.loc,I.cell,I.free,I.WZ,fun p a=>(BY.mp a).elim (fun z=>I.pin p<|Le _ z)<|h p,I.Su,I.len,I.tk⟩
def yX{N:SH}(c:N.Nodup){i j:Nat}(a:N[i]?=J x)(b:N[j]?=J x):i=j:=by
 obtain⟨h1,e1⟩:=rW.mp a
 obtain⟨h2,e2⟩:=rW.mp b
 exact(List.getElem_inj c).mp<|e1.trans e2.symm
def DL(I:Inv X aa Z H s)(W:X.N.Nodup)(D:X.N[i]?=J x)(l:Loc X.env.scope x)(r:aP v u)
  (h:∀s',Inv X aa (Z.set i<|J v) H s'->(∃a,X1 a s.heap s'.heap/\(a=X.env.locals\/X.env.cells.lookup x=J a))->Q () s') (hf:#[1]<|>XN):SN M A (storeName X.env x u) Q E s:=by
 obtain⟨m,hn,hl⟩:=id I.loc
 have F:(X.env.scope.kind==.class||(X.env.scope.kind==.module&&X.env.locals != X.env.globals))=η:=by rw[I.ok.kind];rfl
 have B:i<Z.length:=by rw[I.len];exact(rW.mp D).1
 have fq:=I.fq;have f:∀{a:SA}{h':T3},(∃o,s.heap.get? a=J o/\H a=U)->X1 a s.heap h'->nW X.prog X.w H h':=fun{a h'}ha hs b ob e=>by
  obtain⟨_,_,hfree⟩:=ha
  refine(I.Su b ob e).zY (fun c T g q=>(hs.2 c ?_).trans q) (fun _ q=>q) fun _ _ q=>q;rintro rfl;rcases g with rfl|g
  .rw[hfree]at e;cases e
  .rw[hfree]at g;cases g
 rcases l with hk|hk
 .refine wpAny_storeName_local hk hn (fun h' P hs=>?_) F;obtain⟨oL,_,_,hoL,_⟩:=id hn
  refine h _ ⟨I.ok,I.os,I.bare,⟨fun b o e n C l=>?_,fun b o e n C l=>?_,I.base.free,fun b o e l=>?_,I.base.xV,I.base.tQ,I.base.b9⟩,⟨_,P,fun j y V e1 t S=>?_⟩,fun y c e=>?_,I.free,I.WZ,fun p R=>?_,f ⟨oL,hoL,I.free⟩ hs,by simpa using I.len,by walk_at "tok"⟩ ⟨_,hs,.inl rfl⟩
  .exact(hs.2 b<|Vd<|Rw (Tn e) I.ok.above).trans (I.base.keep b o e n C l)
  .obtain⟨sl,e1⟩:=I.base.slot b o e n C l
   exact⟨sl,(hs.2 b<|Vd<|Rw (Tn e) I.ok.above).trans e1⟩
  .obtain⟨o',e1⟩:=I.base.there b o e l
   exact⟨o',(hs.2 b<|Vd<|Rw (Tn e) I.ok.above).trans e1⟩
  .by_cases hj:j=i
   .subst hj;rw[D]at e1;cases e1;rw[tG B]at t;cases t;exact⟨u,r,.inl ⟨hk,∅⟩⟩
   .rw[dP<|Vn hj]at t;obtain⟨u',r',q⟩:=hl j y V e1 t S
    refine⟨u',r',?_⟩;rcases q with⟨k,e⟩|⟨k,c,e,z⟩
    .refine .inl ⟨k,?_⟩
     have:y≠x:=fun e=>hj<|yX W e1<|e▸D
     simp[this,e]
    .exact .inr ⟨k,c,e,z.sameBut hs<|fq y c e⟩
  .obtain⟨T,z⟩:=I.cell y c e
   exact⟨T,z.sameBut hs<|fq y c e⟩
  .obtain⟨e,n,ne,nf,d⟩:=I.pin p R
   exact⟨(hs.2 p.1 ne).trans e,n,ne,nf,d⟩
 .have hfn:X.fn x=G:=by
   rcases hf with z|z
   .exact z
   .rw[z]at hk;cases hk
  obtain⟨c,g⟩:=I.ok.has x<|.inl hk
  obtain⟨T,z⟩:=I.cell x c g
  refine wpAny_storeName_cell I.ok.kind hk g z fun h' K hs=>?_;let⟨oc,hoc,hocd⟩:=id z
  refine h {s with heap:=h'} ⟨I.ok,I.os,I.bare,⟨fun b o e n C l=>?_,fun b o e n C l=>?_,I.base.free,fun b o e l=>?_,I.base.xV,I.base.tQ,I.base.b9⟩,⟨m,hn.sameBut hs<|Vn<|fq x c g,fun j y V e1 t S=>?_⟩,fun y O e=>?_,I.free,I.WZ,fun p R=>?_,f ⟨oc,hoc,I.WZ x c g⟩ hs,by simpa using I.len,I.tk⟩ ⟨c,hs,.inr g⟩
  .exact(hs.2 b<|Vd<|Rw (Tn e)<|I.ok.sY x c hfn g).trans (I.base.keep b o e n C l)
  .obtain⟨sl,e1⟩:=I.base.slot b o e n C l
   exact⟨sl,(hs.2 b<|Vd<|Rw (Tn e)<|I.ok.sY x c hfn g).trans e1⟩
  .obtain⟨o',e1⟩:=I.base.there b o e l
   exact⟨o',(hs.2 b<|Vd<|Rw (Tn e)<|I.ok.sY x c hfn g).trans e1⟩
  .by_cases hj:j=i
   .subst hj;rw[D]at e1;cases e1;rw[tG B]at t;cases t;exact⟨u,r,.inr ⟨.inl hk,c,g,K⟩⟩
   .rw[dP<|Vn hj]at t;obtain⟨u',r',q⟩:=hl j y V e1 t S
    refine⟨u',r',?_⟩;rcases q with q|⟨k,O,e,z'⟩
    .exact .inl q
    .refine .inr ⟨k,O,e,z'.sameBut hs ?_⟩;rintro rfl;exact hj<|yX W e1<|I.ok.inj _ _ _ e g▸D
  .by_cases hcc:O=c
   .subst hcc;exact⟨_,K⟩
   .obtain⟨w2,z2⟩:=I.cell y O e
    exact⟨w2,z2.sameBut hs hcc⟩
  .obtain⟨e,n,ne,nf,d⟩:=I.pin p R
   refine⟨(hs.2 p.1 ?_).trans e,n,ne,nf,d⟩
   grind
def tZ(I:Inv X aa Z H s)(a:X.N.Nodup)(c:X.N[i]?=J x)(e:Loc X.env.scope x)(r:aP v u)
  (h:∀s',Inv X aa (Z.set i<|J v) H s'->Q () s') (b:#[1]<|>XN):SN M A (storeName X.env x u) Q E s:=
 DL I a c e r (fun s' d _=>h s' d) b
def Inv.call'(I:Inv X aa Z H s)(f:s'.os=s.os)(u:Un (Ec X.stack) ch H H' s.heap s'.heap)(d:nW X.prog X.w H' s'.heap)(g:AllBare s'.gens)
  (a:∀b∈ch,(b∈X.ex\/X.s₀.heap.objs.size<=b)/\b≠X.env.locals/\(∀x c,X.env.cells.lookup x=J c->c≠b)/\∀p∈X.pn++aa,p.1≠b) (h:X.tn<=s'.toks<|>XW):Inv X aa Z H' s':=by
 obtain⟨h',g',d',t',o'⟩:=s';have e  := f;subst e;exact I.call u d g a
end
abbrev XK:=nE->Option SA->Hp->Prop
abbrev St:=List<|Option V
abbrev VK:=V->Hp->Prop
abbrev TE:=St->Hp->VK->Prop
abbrev TT:=St->Hp->(Bool->Hp->Prop)->Prop
abbrev TA:=St->Hp->(Se->Hp->Prop)->Prop
structure Ends where
 nx:St->Hp->Prop
 rt:VK
 bk:St->Hp->Prop:=fun _ _=>False
 ct:St->Hp->Prop:=fun _ _=>False
abbrev TS:=Ends->St->Hp->Prop
def EP(X:Cx)(aa:TQ)(Z:St)(Q:VK)(u:nE)(s':ID):Prop:=∃v H',Inv X aa Z H' s'/\aP v u/\Q v H'
def TP(X:Cx)(aa:TQ)(Z:St)(Q:Bool->Hp->Prop)(b:Bool)(s':ID):Prop:=∃H',Inv X aa Z H' s'/\Q b H'
def AP(X:Cx)(aa:TQ)(Z:St)(Q:Se->Hp->Prop)(us:TK)(s':ID):Prop:=∃vs H',Inv X aa Z H' s'/\aU vs us/\Q vs H'
def SP(X:Cx)(aa:TQ)(D:Ends)(f:Flow)(s':ID):Prop:=
 match f with
 |.next=>∃a H',Inv X aa a H' s'/\D.nx a H'
 |.brk=>∃a H',Inv X aa a H' s'/\D.bk a H'
 |.cont=>∃a H',Inv X aa a H' s'/\D.ct a H'
 |.ret u=>∃v a H',Inv X aa a H' s'/\aP v u/\D.rt v H'
def PE(X:Cx)(e:Ry)(t:TE):Prop:=
 ∀(aa:TQ)(s:ID)(Z:St)(H:Hp)(Q:VK),Inv X aa Z H s->t Z H Q->SN #[0] X.A (eval e X.env) (EP X aa Z Q) X.xe s
def PT(X:Cx)(e:Ry)(t:TT):Prop:=
 ∀(aa:TQ)(s:ID)(Z:St)(H:Hp)(Q:Bool->Hp->Prop),Inv X aa Z H s->t Z H Q->SN #[0] X.A (isTrue e X.env<|eval e X.env) (TP X aa Z Q) X.xe s
def PW(X:Cx)(e:Ry)(t:TT):Prop:=
 ∀(a:Sem nE)(aa:TQ)(s:ID)(Z:St)(H:Hp)(Q:Bool->Hp->Prop),Inv X aa Z H s->t Z H Q->SN #[0] X.A (isTrue e X.env a) (TP X aa Z Q) X.xe s
def PW.pt(h:PW X e t):PT X e t:=h _
def PA(X:Cx)(es:List Ry)(t:TA):Prop:=
 ∀(pos:Pos)(aa:TQ)(s:ID)(Z:St)(H:Hp)(Q:Se->Hp->Prop),Inv X aa Z H s->t Z H Q->SN #[0] X.A (spliced<|X3 pos<|Uu es X.env) (AP X aa Z Q) X.xe s
def PS(X:Cx)(st:SU)(t:TS):Prop:=
 ∀(aa:TQ)(s:ID)(Z:St)(H:Hp)(D:Ends),Inv X aa Z H s->t D Z H->SN #[0] X.A (exec st X.env) (SP X aa D) X.xe s
def IR(X:Cx)(st:List SU)(t:TS):Prop:=
 ∀(aa:TQ)(s:ID)(Z:St)(H:Hp)(D:Ends),Inv X aa Z H s->t D Z H->SN #[0] X.A (execs st X.env) (SP X aa D) X.xe s
def bP{t:Sem α}{Q b:α->ID->Prop}(h:SN M A t Q E s)(c:∀a s,Q a s->b a s):SN M A t b E s:=UE h c fun _ _ x=>x
section
variable{X:Cx}
def abw(i:Nat):TE:=fun Z H Q=>∃v,Z[i]?=J (J v)/\Q v H
def tC(v:V):TE:=fun _ H Q=>Q v H
def O9{pos:Pos}(j:X.N[i]?=J x)(o:m6 X.env.scope x)(hd:TN x<|>Sm)(d:#[2]=η<|>Sm):PE X (.Name x pos)<|abw i:=by
 intro aa s Z H Q I h;obtain⟨v,e,h⟩:=h
 obtain⟨m,k,n⟩:=I.loc;obtain⟨u,r,l⟩:=n i x v j e o
 have fin:EP X aa Z Q u s:=⟨v,H,I,r,h⟩;rcases l with⟨b,g⟩|⟨b,c,f,a⟩
 .exact wpAny_Name (wpAny_loadName_local I.ok.kind b k g fin) hd
 .rcases b with b|b
  .exact wpAny_Name (wpAny_loadName_cell I.ok.kind b f a fin) hd
  .exact wpAny_Name (wpAny_loadName_free I.ok.kind b f a fin d) hd
def AE:PE X (.Constant (.int i) j pos)<|tC<|.int i:=fun _ _ _ H _ I h=>wpAny_Constant_int ⟨.int i,H,I.tok _,⟨_,rfl⟩,h⟩
def Jg:PE X (.Constant (.str x) j pos)<|tC<|.str x:=fun _ _ _ H _ I h=>mO ⟨.str x,H,I.tok _,⟨_,rfl⟩,h⟩
def Gl(X:Cx)(x:Str):Prop:=X.env.kindOf x=J .globalImplicit
def dD{Z:St}(I:Inv X aa Z H s)(b:Gl X x)(a:X.mg x=J u)(h:Q u s)
  (hd:TN x<|>Sm):SN #[0] X.A (eval (.Name x pos) X.env) Q E s:=
 LK I.ok.kind b (Calls.loadGlobal_global (by rw[I.ok.glob];exact I.mod.glob.keeps I.bk) a h) hd
def tw{E:UB}{Z:St}{pos:Pos}(I:Inv X aa Z H s)(b:Gl X x)(a:X.mg x=U)(c:Vl x=J u)(h:Q u s)
  (d:#[27]<|>Sm) (hd:TN x<|>Sm):SN #[0] X.A (eval (.Name x pos) X.env) Q E s:=by
 obtain⟨mb,h1,h2⟩:=I.mod.blt
 exact LK I.ok.kind b (Calls.loadGlobal_builtin (by rw[I.ok.glob];exact I.mod.glob.keeps I.bk) a (by rw[I.ok.blt];exact h1.keeps I.bk) ((h2 x d).trans c) h) hd
def JN(b:Gl X x)(a:X.mg x=J u)(r:aP v u)(hd:TN x<|>Sm):PE X (.Name x pos)<|tC v:=
 fun _ _ _ H _ I h=>dD I b a ⟨v,H,I,r,h⟩ hd
def Ks{pos:Pos}(b:Gl X x)(a:X.mg x=U)(c:Vl x=J u)(r:aP v u)(d:#[27]<|>Sm)(hd:TN x<|>Sm):PE X (.Name x pos)<|tC v:=
 fun _ _ _ H _ I h=>tw I b a c ⟨v,H,I,r,h⟩ d hd
def tB(t:TE):TT:=fun Z H Q=>t Z H fun x H1=>∃c,x=.bl c/\Q c H1
variable{rest:List Ry}
def abx(t u:TT):TT:=fun Z H Q=>t Z H fun c H1=>if c=G then u Z H1 Q else Q η H1
def tOr(t u:TT):TT:=fun Z H Q=>t Z H fun c H1=>if c=G then Q G H1 else u Z H1 Q
def akU(t:TT):TT:=fun Z H Q=>t Z H fun c H1=>Q (!c) H1
def O4(h:PE X a t):PE X (.BoolOp op [a] pos) t:=fun aa s Z H Q I hw=>BoolOp_one<|h aa s Z H Q I hw
def tIf(t:TT)(ta tb:TE):TE:=fun Z H Q=>t Z H fun c H1=>if c=G then ta Z H1 Q else tb Z H1 Q
end
def gr(K:aT)(H:Hp)(a:SA)(xs:Se):Prop:=
 Rd H a (.lst xs) \/
  ∃(o:Obj)(aV:Array nE)(n:Nat),K.lookup a=J o/\o.cls=.type "list"/\o.dict=U/\o.data=.seq aV n/\aV.size<=Ta/\aU xs aV.toList
def m7(K:aT)(H:Hp)(a:SA)(xs:Se):Prop:=
 Rd H a (.tup xs) \/
  ∃(o:Obj)(aV:Array nE)(n:Nat),K.lookup a=J o/\o.cls=.type "tuple"/\o.data=.seq aV n/\aV.size<=Ta/\aU xs aV.toList
noncomputable def aaC:nE->Option V
 |.none=>J .S9
 |.bool b=>J<|.bl b
 |.int i _=>J<|.int i
 |.str x _=>J<|.str x
 |.bytes b _=>J<|.X4 b
 |.float b _=>J<|.xH b
 |.ref a=>J<|.ref a
 |.type n=>J<|.ty n
 |_=>U
theorem aP.abs(r:aP x u):aaC u=J x:=by
 cases x with
 |S9=>subst r;rfl
 |bl _=>subst r;rfl
 |int _=>obtain⟨t,rfl⟩:=r;rfl
 |str _=>obtain⟨t,rfl⟩:=r;rfl
 |X4 _=>obtain⟨t,rfl⟩:=r;rfl
 |xH _=>obtain⟨t,rfl⟩:=r;rfl
 |ref _=>subst r;rfl
 |ty _=>subst r;rfl
def aP.inj(r:aP x u)(q:aP y u):x=y:=zB<|r.abs.symm.trans q.abs
theorem aU.inj{ys:Se}(h:aU xs us)(g:aU ys us):xs=ys:=by
 induction h generalizing ys with
 |nil=>cases g;rfl
 |cons r t i=>
  cases g;rw[r.inj ‹_›,i ‹_›]
section
variable{Z:St}
def gr.of{K:aT}(h:H a=J (.lst xs)):gr K H a xs:=.inl<|.inl h
def Inv.list(I:Inv X aa Z H s)(h:gr X.K H a xs):∃aV:TK,aU xs aV/\PlainL s.heap a aV.toArray/\xs.length<=Ta:=by
 rcases h with h|⟨o,aV,n,hk,hc,hd,hs,hz,r⟩
 .obtain⟨z,aV,n,r,e⟩:=h.ok I.Su;exact⟨aV,r,⟨_,n,e,rfl,rfl,rfl⟩,z⟩
 .refine⟨aV.toList,r,⟨o,n,I.U3 a o hk,hc,hd,⊤⟩,?_⟩;have e:=r.length;mright
def Inv.tuple(I:Inv X aa Z H s)(h:m7 X.K H a xs):∃aV:TK,aU xs aV/\IsTup s.heap a aV.toArray/\xs.length<=Ta:=by
 rcases h with h|⟨o,aV,n,hk,hc,hs,hz,r⟩
 .obtain⟨z,aV,r,p⟩:=h.ok I.Su
  exact⟨aV,r,p,z⟩
 .refine⟨aV.toList,r,⟨o,I.U3 a o hk,hc,n,⊤⟩,?_⟩;have e:=r.length;mright
def Inv.akY(I:Inv X aa Z H s)(h:gr X.K H a xs)(h':gr X.K H a ys):xs=ys:=by
 obtain⟨aV,r,⟨o,n,e,_,_,d⟩,_⟩:=I.list h;obtain⟨its',b,⟨o',c,f,_,_,d'⟩,_⟩:=I.list h'
 have:aV=its':=by mright
 subst this;exact r.inj b
def Inv.abZ(I:Inv X aa Z H s)(h:m7 X.K H a xs)(h':m7 X.K H a ys):xs=ys:=by
 obtain⟨aV,r,⟨o,e,_,n,d⟩,_⟩:=I.tuple h;obtain⟨its',b,⟨o',f,_,c,d'⟩,_⟩:=I.tuple h'
 have:aV=its':=by mright
 subst this;exact r.inj b
end
noncomputable abbrev Cx.Td(X:Cx)(E:UB):Cx:={X with xe:=E}
noncomputable abbrev Cx.Xe(X:Cx):Cx:=X.Td fun _ _=>False
def Cx.Ok.Td{X:Cx}(ok:X.Ok)(E:UB):(X.Td E).Ok:=
 ⟨ok.mod,ok.kind,ok.glob,ok.blt,ok.above,ok.inj,ok.has,ok.sY,ok.hd,ok.frames,ok.xN,ok.x9,ok.bs,ok.Wq,ok.Zo,ok.ZR,ok.WE,ok.XJ⟩
def Cx.Ok.Ul{X:Cx}(ok:(X.Td E).Ok):X.Ok:=
 ⟨ok.mod,ok.kind,ok.glob,ok.blt,ok.above,ok.inj,ok.has,ok.sY,ok.hd,ok.frames,ok.xN,ok.x9,ok.bs,ok.Wq,ok.Zo,ok.ZR,ok.WE,ok.XJ⟩
section
variable{Z:St}
def Inv.Td(I:Inv X aa Z H s)(E:UB):Inv (X.Td E) aa Z H s:=⟨I.ok.Td E,I.os,I.bare,I.base,I.loc,I.cell,I.free,I.WZ,I.pin,I.Su,I.len,I.tk⟩
def Inv.Ul(I:Inv (X.Td E) aa Z H s):Inv X aa Z H s:=⟨I.ok.Ul,I.os,I.bare,I.base,I.loc,I.cell,I.free,I.WZ,I.pin,I.Su,I.len,I.tk⟩
theorem SP.Ul(h:SP (X.Td E) aa D f s'):SP X aa D f s':=by
 cases f with
 |next=>obtain⟨a,H',I,q⟩:=h;exact⟨a,H',I.Ul,q⟩
 |brk=>obtain⟨a,H',I,q⟩:=h;exact⟨a,H',I.Ul,q⟩
 |cont=>obtain⟨a,H',I,q⟩:=h;exact⟨a,H',I.Ul,q⟩
 |ret u=>obtain⟨v,a,H',I,r,q⟩:=h;exact⟨v,a,H',I.Ul,r,q⟩
def IR.Xe{st:List SU}(h:IR X.Xe st t):IR X st t:=fun aa s Z H D I hw=>
 UE (h aa s Z H D (I.Td _) hw) (fun _ _ q=>q.Ul) fun _ _ z=>Wf z
end
section
variable{st:SU}{rest:List SU}
def NV:TS:=fun D Z H=>D.nx Z H
def JGs(t u:TS):TS:=fun D Z H=>t {D with nx:=u D} Z H
def Inv.quiet{aa:TQ}{Z:St}{H:Hp}{s:ID}(I:Inv X aa Z H s):interactive X.env=η:=by simp[interactive,I.ok.kind]
def GP(a:TE):TS:=fun D Z H=>a Z H fun _ H1=>D.nx Z H1
def L9(a:PE X e te)(hs:Uw e U pos.line X.env=pure η<|>Rv):PS X (.Expr e pos)<|GP te:=by
 intro aa s Z H D I h;exact wpAny_Expr_any (bP (a aa s Z H _ I h) fun v d c=>jZ c fun x H1 b r1 q1=>⟨Z,H1,b,q1⟩) I.quiet hs
def Fam(a:TE):TS:=fun D Z H=>a Z H D.rt
def aaA:TS:=fun D _ H=>D.rt .S9 H
def abO(c:TT)(t u:TS):TS:=fun D Z H=>c Z H fun b H1=>if b=G then t D Z H1 else u D Z H1
end
abbrev TG:=V->St->Hp->(St->Hp->Prop)->Prop
abbrev Mg:=Se->St->Hp->(St->Hp->Prop)->Prop
def PG(X:Cx)(a:Ry)(t:TG):Prop:=
 ∀(aa:TQ)(s:ID)(Z:St)(H:Hp)(v:V)(u:nE)(Q:St->Hp->Prop),Inv X aa Z H s->aP v u->t v Z H Q ->
  SN #[0] X.A (assign a X.env u) (fun _ s'=>∃b H',Inv X aa b H' s'/\Q b H') X.xe s
def VP(X:Cx)(b:List Ry)(t:Mg):Prop:=
 ∀(aa:TQ)(s:ID)(Z:St)(H:Hp)(vs:Se)(us:TK)(Q:St->Hp->Prop),Inv X aa Z H s->aU vs us->t vs Z H Q ->
  SN #[0] X.A (assignInOrder ((Wh b X.env).map (·.2)) us) (fun _ s'=>∃a H',Inv X aa a H' s'/\Q a H') X.xe s
abbrev E9:=V->V->V->Hp->(Hp->Prop)->Prop
def E8(X:Cx)(t:E9):Prop:=
 ∀(aa:List<|SA×Obj)(s:ID)(Z:St)(H:Hp)(o i v:V)(b a u:nE)(Q:Hp->Prop),Inv X aa Z H s->aP o b->aP i a->aP v u->t o i v H Q ->
  wpAny (model X.prog X.w) X.A (setItem b a u) (fun _ s'=>∃H',Inv X aa Z H' s'/\Q H') X.xe s
abbrev UL:=V->V->Hp->VK->Prop
def Z1(X:Cx)(a:Operator)(t:UL):Prop:=
 ∀(aa:TQ)(s:ID)(Z:St)(H:Hp)(x y:V)(v u:nE)(Q:VK),Inv X aa Z H s->aP x v->aP y u->t x y H Q ->
  SN #[0] X.A (inplaceOp a v u) (EP X aa Z Q) X.xe s
section
variable{pos:Pos}
def ml(i:Nat):TG:=fun v Z H Q=>Q (Z.set i<|J v) H
def B4(a:X.N.Nodup)(e:X.N[i]?=J x)(c:Loc X.env.scope x)(b:#[1]<|>XN):PG X (.Name x pos)<|ml i:=by
 intro aa s Z H v u Q I r h;exact wpAny_assign_Name<|tZ I a e c r (fun s' d=>⟨_,H,d,h⟩) b
def abU:Mg:=fun vs Z H Q=>vs=[]/\Q Z H
def My(t:TG)(u:Mg):Mg:=fun vs Z H Q=>∃v r,vs=v::r/\t v Z H fun a H'=>u r a H' Q
theorem E7(h1:PG X e t)(h2:VP X es u)
  (hs:(Wh (e::es) X.env).map (·.2)=assign e X.env::(Wh es X.env).map (·.2)<|>Rv):VP X (e::es)<|My t u:=by
 intro aa s Z H vs us Q I r h;obtain⟨v,b,e1,h⟩:=h;subst e1;cases r with
 |cons r a=>
  rw[hs];refine assignInOrder_cons<|bP (h1 aa s Z H _ _ _ I r h) ?_;intro _ s1 q0_;refine X7 q0_ fun σ1 H1 I1 q1=>?_;exact h2 aa s1 σ1 H1 _ _ Q I1 a q1
def SF(K:aT)(n:Nat)(t:Mg):TG:=fun v Z H Q=>∃a xs,v=.ref a/\m7 K H a xs/\xs.length=n/\t xs Z H Q
def PM{k:Nat}(g:X.calm=G)(h:VP X es t)
  (i:(Wh es X.env).length=n<|>Rv) (c:(Wh es X.env).findIdx? (·.1)=U<|>Rv):PG X (.Tuple es k pos)<|SF X.K n t:=by
 intro aa s Z H v u Q I r hw;obtain⟨a,xs,e1,d,j,hw⟩:=hw;subst e1;subst r;obtain⟨aV,rv,ht,hz⟩:=I.tuple d
 refine assign_Tuple_tuple (I.ok.hd g) ht (by simp[i,<-j,rv.length]) c fun h' f=>?_;have I1  := I.kept fun b o e=>f b o (Vd<|Tn e) e;exact h aa _ Z H xs _ Q I1 ⊥ hw
def VZ(a c:TE)(t:E9):TG:=fun v Z H Q=>a Z H fun o H1=>c Z H1 fun i b=>t o i v b fun d=>Q Z d
section
variable{pos:Pos}
def ah0(f:PE X o to)(d:PE X i ti)(hs:E8 X t)
  (j:∀v,assign (.Subscript o i pos) X.env v=(do
   let b <-holding [v] (eval o X.env)
   let c <-holding [v,b] (eval i X.env)
   standAt pos
   holding [v,b,c] (setItem b c v)
   release [v,b,c] []):=by intro _;rfl):PG X (.Subscript o i pos) (VZ to ti t):=by
 intro aa s Z H v u Q I r h;refine wpAny_bind<|wpAny_holding<|bP (f aa s Z H _ I h) fun b g a=>?_;obtain⟨x,H1,I1,r1,q1⟩:=a;refine wpAny_bind<|wpAny_holding<|bP (d aa g Z H1 _ I1 q1) fun c e a=>?_;obtain⟨y,H2,I2,r2,q2⟩:=a;refine wpAny_bind<|wpAny_standAt<|wpAny_bind<|wpAny_holding<|bP (hs aa e Z H2 x y v b c u _ I2 r1 r2 r q2) fun _ k a=>?_;obtain⟨H3,I3,q3⟩:=a;exact wpAny_release ⟨Z,H3,I3,q3⟩
end
def AL(a:TE)(g:TG):TS:=fun D Z H=>a Z H fun x H1=>g x Z H1 D.nx
section
variable{pos:Pos}
def ah1(b:PE X e te)(d:PG X tg g)(hs:swapsWithSole [tg] e pos.line X.env=pure η<|>Rv)(hw:swappedStores [tg] e X.env=pure U<|>Rv)
  (h1:(assignEach [tg] X.env).map (·.2)=[assign tg X.env]<|>Rv):PS X (.Assign [tg] e pos)<|AL te g:=by
 intro aa s Z H D I h;refine wpAny_Assign_stores (bP (b aa s Z H _ I h) fun v c a=>?_) hs hw;obtain⟨x,H1,I1,r1,q1⟩:=a;rw[h1];exact bP (d aa c Z H1 x v _ I1 r1 q1) fun _ f q=>q
end
def Rc(d:X.N.Nodup)(b:X.N[i]?=J x)(g:Loc X.env.scope x)(j:PE X e te)(hs:Uw e (J<|.Name x pos') pos.line X.env=pure η<|>Rv)(k:#[1]<|>XN):
  PS X (.Assign [.Name x pos'] e pos) (AL te<|ml i):=by
 intro aa s Z H D I h;refine wpAny_Assign_Name (bP (j aa s Z H _ I h) fun v l c=>jZ c fun y H1 a r1 q1=>?_) hs;exact tZ a d b g r1 (fun m f=>⟨_,H1,f,q1⟩) k
def abc(i:Nat)(c:TE)(a:UL):TS:=fun D Z H=>∃x,Z[i]?=J (J x)/\c Z H fun y H1=>a x y H1 fun z b=>D.nx (Z.set i<|J z) b
def Og(B:X.N.Nodup)(o:X.N[i]?=J x)(n:Loc X.env.scope x)(O:PE X e te)(Q:Z1 X op ti)(P:#[1]<|>XN):
  PS X (.AugAssign (.Name x pos') op e pos) (abc i te ti):=by
 intro aa s Z H D I h;obtain⟨v,e1,h⟩:=h
 obtain⟨m,hn,hl⟩:=I.loc
 have j:m6 X.env.scope x:=by rcases n with k|k;exact .inl k;exact .inr (.inl k)
 obtain⟨u,r,l⟩:=hl i x v o e1 j
 refine wpAny_AugAssign_Name ?_;have p:SN #[0] X.A (eval e X.env) (fun w f=>SN #[0] X.A (inplaceOp op u w) (fun r d=>SN #[0] X.A (storeName X.env x r) (fun _=>SP X aa D .next) X.xe d) X.xe f) X.xe s:=by
  refine bP (O aa s Z H _ I h) fun w C g=>jZ g fun y H1 t r1 q1=>?_;refine bP (Q aa C Z H1 v y u w _ t r r1 q1) fun z T g=>jZ g fun S F E r2 q2=>?_;exact tZ E B o n r2 (fun R K=>⟨_,F,K,q2⟩) P
 rcases l with⟨a,q⟩|⟨a,c,M,b⟩
 .exact wpAny_loadName_local I.ok.kind a hn q p
 .rcases a with a|a
  .exact wpAny_loadName_cell I.ok.kind a M b p
  .rcases n with k|k
   .have:X.env.scope.names.lookup x=J .free:=a
    rw[k]at this;cases this
   .have:X.env.scope.names.lookup x=J .free:=a
    rw[k]at this;cases this
end
section
def Rk(c:TT)(tb:TS):TS:=fun D Z H=>∃W:Nat->St->Hp->Prop,(∃m,W m Z H)/\∀m Z H,W m Z H ->
 c Z H fun b H1=>if b=G then ∃N:St->Hp->Prop,(∀a H',N a H'->∃d,d<m/\W d a H')/\tb {D with nx:=N,ct:=N,bk:=D.nx} Z H1 else D.nx Z H1
end
structure It where
 go:Nat->Hp->Prop
 gF:Nat->Hp->V->Hp->Prop
 stop:Nat->Hp->Prop
def gE(X:Cx)(aa:TQ)(H:Hp)(b:SA):Prop:=
 H b=U/\b≠X.env.locals/\b∉X.fs/\(b∈X.ex\/X.s₀.heap.objs.size<=b)/\(∀x c,X.env.cells.lookup x=J c->c≠b)/\∀p∈X.pn++aa,p.1≠b
def Inv.zT{Z:St}{b:SA}(I:Inv X aa Z H s)(a:s.heap.objs.size<=b)(d:H' b=U):gE X aa H' b:=by
 refine⟨d,mS<|Rw I.lt a,I.ab6 a,.inr<|RW I.sz a,fun x c e z=>?_,fun p f z=>?_⟩
 .obtain⟨v,q⟩:=I.cell x c e
  exact absurd (Rw q.lt<|by rw[z];exact a)<|ei _
 .exact absurd (Rw (Tn (I.pin p f).1)<|by rw[z];exact a) (ei _)
structure Turn(P:Tc)(w:Sl)(K:aT)(tg:Ry)(Jq0:It)(fp:Sf)(it:SA)(tn:Nat->T3->Prop):Prop where
 mem:it∈fp
 obj:∀i h,tn i h->∀b∈fp,∃o,h.get? b=J o/\∀v,o.data≠.cell v
 keep:∀i h h',tn i h->(∀b∈fp,∀o,h.get? b=J o->h'.get? b=J o)->tn i h'
 item:∀(X:Cx),X.prog=P->X.w=w->X.K=K->X.calm=G->∀(i:Nat)(aa:TQ)(s:ID)(Z:St)(H:Hp)(E:UB),Inv X aa Z H s->(∀b∈fp,gE X aa H b)->tn i s.heap->Jq0.go i H ->
  SN (UA P w) X.A (pyNext<|.ref it) (fun r s1=>∃u,r=J u /\
   SN (UA P w) X.A (B3 tg (.ref it) u) (fun _ s2=>∃x H',Inv X aa Z H' s2/\aP x u/\Jq0.gF i H x H'/\tn (i+1) s2.heap/\∀b∈fp,H' b=U) E s1) E s
 done:∀(X:Cx),X.prog=P->X.w=w->X.K=K->X.calm=G->∀(i:Nat)(aa:TQ)(s:ID)(Z:St)(H:Hp)(E:UB),Inv X aa Z H s->(∀b∈fp,gE X aa H b)->tn i s.heap->Jq0.stop i H ->
  SN (UA P w) X.A (pyNext<|.ref it) (fun r s1=>r=U/\Inv X aa Z H s1) E s
 self:∀(A:Tx)(i:Nat)(s:ID)(Q:UB)(E:UB),tn i s.heap->Q (.ref it) s->SN (UA P w) A (pyIter<|.ref it) Q E s
abbrev TI:=St->Hp->(It->Hp->Prop)->Prop
def Z4(X:Cx)(aa:TQ)(Z:St)(tg:Ry)(R:It->Hp->Prop)(c:nE)(d:ID):Prop:=
 ∃(it:SA)(e:Sf)(tn:Nat->T3->Prop)(a:It)(H':Hp),c=.ref it/\Inv X aa Z H' d/\Turn X.prog X.w X.K tg a e it tn/\tn 0 d.heap/\(∀b∈e,gE X aa H' b)/\R a H'
def PI(X:Cx)(tg iter:Ry)(b:TI):Prop:=
 ∀(aa:TQ)(s:ID)(Z:St)(H:Hp)(R:It->Hp->Prop),Inv X aa Z H s->b Z H R ->
  SN #[0] X.A (eval iter X.env) (fun v a=>SN #[0] X.A (pyIter v) (Z4 X aa Z tg R) X.xe a) X.xe s
def BJ(b:s.heap.get? it=J o)(c:o.cls=.type n)(hd:o.data=.fields vs)
    (d:["enumerate","zip","dict_itemiterator","dict_reverseitemiterator","odict_iterator","itertools.zip_longest","itertools.pairwise"].contains n=η) (a:Q () s):SN M A (B3 tg (.ref it) u) Q E s:=by
  cases tg<;>first
    |exact U4 a
    |(cases u<;>first
        |exact U4 a
        | (refine iF (wpAny_load b ?_)
           rw[c,hd];show SN M A (if(["enumerate","zip","dict_itemiterator","dict_reverseitemiterator","odict_iterator","itertools.zip_longest","itertools.pairwise"].contains n&&vs[0]?==J (Xb _))=G then _ else _) Q E s;rw[SM ⊥];exact U4 a))
def XI(K:aT)(a:SA):It:=
 ⟨fun i H=>∃xs x,gr K H a xs/\xs[i]?=J x,fun i H x H'=>H'=H/\∀xs,gr K H a xs->xs[i]?=J x,fun i H=>∃xs,gr K H a xs/\xs.length<=i⟩
def WQ(K:aT)(a:SA):It:=
 ⟨fun i H=>∃xs x,m7 K H a xs/\xs[i]?=J x,fun i H x H'=>H'=H/\∀xs,m7 K H a xs->xs[i]?=J x,fun i H=>∃xs,m7 K H a xs/\xs.length<=i⟩
def V5(lo:Int)(n:Nat):It:=⟨fun i _=>i<n,fun i H x H'=>H'=H/\x=.int (lo+i),fun i _=>n<=i⟩
def D0{K:aT}(a it:SA):Turn P w K tg (XI K a) [it] it (fun i h=>h.IsListIter it a i) where
 mem:=∅
 obj:=fun i h st b f=>by
  obtain⟨o,e,c,d⟩:=st
  mright
 keep:=fun i h h' st k=>st.at fun o e=>k it ∅ o e
 item:=by
  intro X m hw n q i aa s Z H E I j st l;subst m hw n;left;obtain⟨xs,x,hq,hx⟩:=l
  obtain⟨aV,rv,p,hz⟩:=I.list hq
  obtain⟨u,hu,ru⟩:=rv.get hx
  refine n4 (j it ∅) fun z A F D B C=>?_
  right;refine wpAny_pyNext_list_item st p.isList (by simpa using hu) fun h' g t=>?_;have I1  := I.turned (fun b o f e=>(t.2 b f).trans e) z A D B C;let⟨o,e,c,d⟩:=id g
  exact⟨u,rfl,BJ e c d (by rfl) ⟨x,H,I1,ru,⟨rfl,fun ys r=>by rw[I.akY r hq];exact hx⟩,g,fun b f=>(j b f).1⟩⟩
 done:=by
  intro X m hw n q i aa s Z H E I j st l;subst m hw n;obtain⟨xs,hq,hx⟩:=l
  obtain⟨aV,rv,p,hz⟩:=I.list hq
  refine n4 (j it ∅) fun z A F D B C=>?_
  have y:=rv.length;exact wpAny_pyNext_list_end (I.ok.hd q) st p.isList (by simp;mright) fun h' v=>⟨rfl,I.turned (fun b o f e=>v b o f e) z A D B C⟩
 self:=fun _ _ _ _ _ st h=>wpAny_pyIter_listiter st h
def AI{K:aT}(a it:SA):Turn P w K tg (WQ K a) [it] it (fun i h=>h.IsTupleIter it a i) where
 mem:=∅
 obj:=fun i h st b f=>by
  have e:b=it:=by simpa using f
  subst e;obtain⟨o,e,c,d⟩:=st
  mright
 keep:=fun i h h' st k=>st.at fun o e=>k it ∅ o e
 item:=by
  intro X m hw n q i aa s Z H E I j st l;subst m hw n;left;obtain⟨xs,x,hq,hx⟩:=l
  obtain⟨aV,rv,p,hz⟩:=I.tuple hq
  obtain⟨u,hu,ru⟩:=rv.get hx
  refine n4 (j it ∅) fun z A F D B C=>?_
  right;refine wpAny_pyNext_tuple_item st ((p)) (by simpa using hu) fun h' g t=>?_;have I1  := I.turned (fun b o f e=>(t.2 b f).trans e) z A D B C;let⟨o,e,c,d⟩:=id g
  exact⟨u,rfl,BJ e c d (by rfl) ⟨x,H,I1,ru,⟨rfl,fun ys r=>by rw[I.abZ r hq];exact hx⟩,g,fun b f=>(j b f).1⟩⟩
 done:=by
  intro X m hw n q i aa s Z H E I j st l;subst m hw n;obtain⟨xs,hq,hx⟩:=l
  obtain⟨aV,rv,p,hz⟩:=I.tuple hq
  refine n4 (j it ∅) fun z A F D B C=>?_
  have y:=rv.length;exact wpAny_pyNext_tuple_end (I.ok.hd q) st ((p)) (by simp;mright) fun h' v=>⟨rfl,I.turned (fun b o f e=>v b o f e) z A D B C⟩
 self:=fun _ _ _ _ _ st h=>wpAny_pyIter_tupleiter st h
def Az{K:aT}(it:SA)(lo:Int)(n:Nat):Turn P w K tg (V5 lo n) [it] it (fun i h=>IsRangeIter h it (lo+(i:Nat)*1) ((n:Int)-(i:Nat)) 1) where
 mem:=∅
 obj:=fun i h st b a=>by
  mright
 keep:=fun i h h' st k=>k it ∅ _ st
 item:=by
  intro X j hw l g i aa s Z H E I d st f;subst j hw l;refine n4 (d it ∅) fun u x B A y z=>?_
  have W:=Walks.range (prog:=X.prog) (w:=X.w) (I.ok.hd g) it lo 1 n;refine aO I.tk<|W.item i s _ _ f st fun v h' tk r c q p=>?_;obtain⟨t,rfl⟩:=r;have I1  := I.turned (fun b o a e=>q b o (by simpa using a) e) u x A y z;refine⟨_,rfl,BJ c rfl rfl (by rfl) ⟨.int<|lo+i,H,I1,⟨t,?_⟩,⟨rfl,rfl⟩,c,fun b a=>(d b a).1⟩⟩;rw[Int.mul_one]
 done:=by
  intro X j hw l g i aa s Z H E I d st f;obtain⟨u,x,B,A,y,z⟩:=d it ∅
  exact wpAny_pyNext_range_end (I.ok.hd g) st (by have:n<=i:=f;lia) fun h' m=>⟨rfl,I.turned (fun b o a e=>m b o a e) u x A y z⟩
 self:=fun _ _ _ _ _ st h=>wpAny_pyIter_rangeiter st h
section
variable{tg:Ry}
def G8{Z:St}{lo a:Int}(I:Inv X aa Z H s)(h1:-(2^62)<=lo)(h2:lo<2^62)(g:-(2^62)<=a)(f:a<2^62)
  (q:R (V5 lo (a-lo).toNat) H) (i:X.tn<=tk<|>XW):SN #[0] X.A (pyIter<|.ref s.heap.objs.size) (Z4 X aa Z tg R) E {s with heap:=s.heap.push {cls:=.type "range",data:=.fields #[.int lo t,.int a u,.int 1 v]},toks:=tk}:=by
 refine wpAny_pyIter_range (IsRange.new ..) (small_one h1 h2 g f) ?_;have c:Inv X aa Z H {s with heap:=s.heap.push {cls:=.type "range",data:=.fields #[.int lo t,.int a u,.int 1 v]},toks:=tk}:=I.kept fun b o e=>iN _ e;refine⟨(s.heap.push {cls:=.type "range",data:=.fields #[.int lo t,.int a u,.int 1 v]}).objs.size,[(s.heap.push {cls:=.type "range",data:=.fields #[.int lo t,.int a u,.int 1 v]}).objs.size],_,_,H,rfl,
  c.kept fun b o e=>iN _ e,Az _ lo (a-lo).toNat,?_,fun b h=>?_,q⟩
 .have e1:lo+((0:Nat))*1=lo:=∅
  have d:(((a-lo).toNat))-((0:Nat))=Builtin.Range.rangeSize lo a 1:=by rw[rangeSize_one];split<;>grind
  rw[e1,d];exact Vh _ rfl
 .have e:b=(s.heap.push {cls:=.type "range",data:=.fields #[.int lo t,.int a u,.int 1 v]}).objs.size:=by simpa using h
  subst e;exact c.zT (mK _)<|c.Su.fresh<|mK _
def Ud(ta:TA):TI:=fun Z H R=>ta Z H fun vs H1=>∃i j:Int,vs=[.int i,.int j]/\(-(2^62)<=i/\i<2^62/\-(2^62)<=j/\j<2^62)/\R (V5 i (j-i).toNat) H1
section
variable{tg:Ry}
theorem agd{a b:Ry}{ta:TA}{p pos:Pos}(g:Gl X "range")(d:X.mg "range"=U)(f:PA X [a,b] ta)(hs:starEach [a,b] X.env=[(η,eval a X.env),(η,eval b X.env)]<|>Rv)(c:starEach [b] X.env=[(η,eval b X.env)]<|>Rv):
  PI X tg (.Call (.Name "range" p) [a,b] [] pos) (Ud ta):=by
 intro aa s Z H R I h;refine Call_ (tw I g d boot_range<|tL (bP (f pos aa s Z H _ I h) fun us s1 q0_=>Tw q0_ fun vs H1 I1 r1 q1=>?_) (by rw[hs,c])<|by rw[c];rfl);obtain⟨i,j,e,⟨q1,q2,q3,q4⟩,q⟩:=q1;subst e;cases r1 with
 |cons r rr=>
  cases rr with
  |cons r' rr=>
   cases rr;obtain⟨t,rfl⟩:=r;obtain⟨t',rfl⟩:=r';exact call_range_2<|G8 I1 q1 q2 q3 q4 q
end
def Uz(e:TI)(g:TG)(tb:TS):TS:=fun D Z H=>e Z H fun a H1=>∃W:Nat->Nat->St->Hp->Prop,(∃m,W 0 m Z H1)/\∀i m Z H,W i m Z H ->
 (a.stop i H/\D.nx Z H)\/(a.go i H/\∃N:St->Hp->Prop,(∀b H',N b H'->∃d,d<m/\W (i+1) d b H')/\∀x H',a.gF i H x H'->g x Z H' fun c f=>tb {D with nx:=N,ct:=N,bk:=D.nx} c f)
def mL(a:Sf)(h:T3):TQ:=a.filterMap fun b=>(h.get? b).map fun o=>(b,o)
def ff(a:b∈fp)(e:h.get? b=J o):(b,o)∈mL fp h:=mP.mpr ⟨b,a,by rw[e];rfl⟩
theorem DR(a:p∈mL fp h):p.1∈fp/\h.get? p.1=J p.2:=by
 obtain⟨b,hb,e⟩:=mP.mp a
 cases q:h.get? b with
 |none=>mright
 |some o=>
  rw[q]at e;have e'  := zB e;subst e';exact⟨hb,q⟩
def Inv.pinned{Z:St}(I:Inv X aa Z H s)(c:∀b∈fp,gE X aa H b)(f:∀b∈fp,∃o,s.heap.get? b=J o/\∀v,o.data≠.cell v):Inv X (aa++mL fp s.heap) Z H s:=
 I.Y7 fun p g=>(BY.mp g).elim (fun z=>I.pin p<|OR _ z) fun z=>by
  obtain⟨a,e⟩:=DR z;refine Xl (c p.1 a) fun h j i _=>?_
  obtain⟨o,e',d⟩:=f p.1 a
  mright
def Inv.p6{Z:St}(I:Inv X (aa++pl) Z H s):Inv X aa Z H s:=I.Y7 fun p a=>I.pin p<|OR _<|Le _ a
def OL(q:zJ #[0] X.A X.env X.xe)(C:X.calm=G)(M:PI X tg iter wi)(K:PG X tg g)(l:IR X body tb)
  (hs:(∀x,pg iter X.env x=pure x)<|>uN):PS X (.For tg iter body [] pos)<|Uz wi g tb:=by
 intro aa s Z H D I h;refine wpAny_For (bP (M aa s Z H _ I h) fun v s1 h1=>bP h1 fun itv s2 h2=>?_) hs;left;obtain⟨it,t,tn,F,R,e,Q,T,z,E,W,⟨S,O⟩,oO⟩:=h2;right;subst e
 have k:∀{H':Hp},(∀b∈t,H' b=U)->∀b∈t,gE X aa H' b:=fun hn b l=>⟨hn b l,(E b l).2⟩;refine codeAny_forLoop_any (fun n s'=>∃i c H',Inv X aa c H' s'/\tn i s'.heap/\(∀b∈t,H' b=U)/\W i n c H') ?_ S ⟨0,Z,R,Q,z,fun b l=>(E b l).1,O⟩;intro n s3 q_;refine c7 q_ fun i σ3 H3 I3 st3 fr3 w3=>?_;left;rcases oO i n σ3 H3 w3 with⟨y,qn⟩|⟨V,N,P,step⟩
 .right;refine eN q (bP (T.done X rfl rfl rfl C i aa s3 σ3 H3 X.xe I3 (k fr3) st3 y) fun r s4⟨hr,I4⟩=>?_);subst hr;exact h8 ⟨σ3,H3,I4,qn⟩
 .right;refine eN q (bP (T.item X rfl rfl rfl C i aa s3 σ3 H3 X.xe I3 (k fr3) st3 V) fun r s4⟨u,hr,h4⟩=>?_);subst hr;refine eN q<|bP h4 ?_;intro _ s5 q_;refine y2 q_ fun x H5 I5 r5 y5 st5 fr5=>?_;have B:=I5.pinned (k fr5)<|T.obj _ _ st5;refine eN q<|bP (K _ s5 σ3 H5 x u _ B r5<|step x H5 y5) ?_;intro _ s6 q0_;refine X7 q0_ fun σ6 H6 I6 q6=>?_;refine eN q<|bP (l _ s6 σ6 H6 _ I6 q6) fun f s7 p=>?_;have again:∀{a:St}{j:Hp},Inv X (aa++mL t s5.heap) a j s7->N a j->∃m,m<n/\∃i c H',Inv X aa c H' s7/\tn i s7.heap/\(∀b∈t,H' b=U)/\W i m c H':=fun{a j}I7 n7=>by
   obtain⟨m',hm,w7⟩:=P a j n7
   refine⟨m',hm,i+1,a,j,I7.p6,T.keep _ _ _ st5 fun b l o e=>(I7.pin (b,o)<|OR _<|OR _<|ff l e).1,fun b l=>?_,w7⟩;obtain⟨o,e,d⟩:=T.obj _ _ st5 b l
   exact(I7.pin (b,o)<|OR _<|OR _<|ff l e).2.1
  cases f with
  |next=>obtain⟨a,j,I7,n7⟩:=p;exact again I7 n7
  |cont=>obtain⟨a,j,I7,n7⟩:=p;exact again I7 n7
  |brk=>obtain⟨a,j,I7,p⟩:=p;exact⟨a,j,I7.p6,p⟩
  |ret v=>left;refine WM p fun x7 a j I7 r7 p=>?_;right;exact⟨x7,a,j,I7.p6,r7,p⟩
end
def eJ(X:Cx)(f:nE->nE->Sem nE)(r:UL):Prop:=
 ∀(aa:TQ)(s:ID)(Z:St)(H:Hp)(x y:V)(v u:nE)(Q:VK),Inv X aa Z H s->aP x v->aP y u->r x y H Q ->
  SN #[0] X.A (f v u) (EP X aa Z Q) X.xe s
def KD(X:Cx)(f:nE->Sem nE)(r:V->Hp->VK->Prop):Prop:=
 ∀(aa:TQ)(s:ID)(Z:St)(H:Hp)(x:V)(v:nE)(Q:VK),Inv X aa Z H s->aP x v->r x H Q ->
  SN #[0] X.A (f v) (EP X aa Z Q) X.xe s
def bI(X:Cx)(f:nE)(r:Se->Hp->VK->Prop):Prop:=
 ∀(aa:TQ)(s:ID)(Z:St)(H:Hp)(xs:Se)(us:TK)(Q:VK),Inv X aa Z H s->aU xs us->r xs H Q ->
  SN #[0] X.A (call f us) (EP X aa Z Q) X.xe s
def aa8(X:Cx)(r:V->Hp->(Bool->Hp->Prop)->Prop):Prop:=
 ∀(aa:TQ)(s:ID)(Z:St)(H:Hp)(x:V)(v:nE)(Q:Bool->Hp->Prop),Inv X aa Z H s->aP x v->r x H Q ->
  SN #[0] X.A (truthy v) (TP X aa Z Q) X.xe s
def NB(r:UL)(ta tb:TE):TE:=fun Z H Q=>ta Z H fun x H1=>tb Z H1 fun y a=>r x y a Q
def tUn(r:V->Hp->VK->Prop)(ta:TE):TE:=fun Z H Q=>ta Z H fun x H1=>r x H1 Q
def rI(C:Int->Int->Prop)(g:Int->Int->V):UL:=fun x y H Q=>∃i j,x=.int i/\y=.int j/\C i j/\Q (g i j) H
def Nm(g:Int->Int->V):UL:=fun x y H Q=>∃i j,x=.int i/\y=.int j/\Q (g i j) H
def rU(g:Int->V):V->Hp->VK->Prop:=fun x H Q=>∃i,x=.int i/\Q (g i) H
section
def Ou(n:PE X a ta)(o:PE X b tb){Z:St}{R:V->V->Hp->Prop}(I:Inv X aa Z H s)
  (h:ta Z H fun x H1=>tb Z H1 fun y c=>R x y c) {f:nE->nE->Sem nE}
  (m:∀v u g x y c,Inv X aa Z c g->aP x v->aP y u->R x y c->SN #[0] X.A (f v u) Q X.xe g):
  SN #[0] X.A (eval a X.env) (fun v d=>SN #[0] X.A (eval b X.env) (fun u e=>SN #[0] X.A (f v u) Q X.xe e) X.xe d) X.xe s:=by
 refine bP (n aa s Z H _ I h) fun v k i=>jZ i fun x H1 j r1 q1=>?_;refine bP (o aa k Z H1 _ j q1) fun u g i=>jZ i fun y c l r2 q2=>?_;exact m v u g x y c l r1 r2 q2
def VE{g:Int->Int->Int}
  (rule:∀(i j:Int)(t u:Tok)(s:ID)(Q:UB)(E:UB),C i j->Q (.int (g i j) s.toks) {s with toks:=s.toks+1}->SN #[0] X.A (f (.int i t)<|.int j u) Q E s):
  eJ X f (rI C fun i j=>.int<|g i j):=by
 intro aa s Z H x y v u Q I c b h;obtain⟨i,j,rfl,rfl,a,q⟩:=h;obtain⟨t,rfl⟩:=c;obtain⟨t',rfl⟩:=b;exact rule i j t t' s _ _ a ⟨.int<|g i j,H,I.tok _,⟨_,rfl⟩,q⟩
def Qx{g:Int->Int->Int}
  (rule:∀(i j:Int)(t u:Tok)(s:ID)(Q:UB)(E:UB),Q (.int (g i j) s.toks) {s with toks:=s.toks+1}->SN #[0] X.A (f (.int i t)<|.int j u) Q E s):
  eJ X f (Nm fun i j=>.int<|g i j):=by
 intro aa s Z H x y v u Q I b a h;obtain⟨i,j,rfl,rfl,q⟩:=h;obtain⟨t,rfl⟩:=b;obtain⟨t',rfl⟩:=a;exact rule i j t t' s _ _ ⟨.int<|g i j,H,I.tok _,⟨_,rfl⟩,q⟩
def L6{g:Int->Int->Bool}
  (rule:∀(i j:Int)(t u:Tok)(s:ID)(Q:UB)(E:UB),Q (.bool<|g i j) s->SN #[0] X.A (f (.int i t)<|.int j u) Q E s):
  eJ X f (Nm fun i j=>.bl<|g i j):=by
 intro aa s Z H x y v u Q I b a h;obtain⟨i,j,rfl,rfl,q⟩:=h;obtain⟨t,rfl⟩:=b;obtain⟨t',rfl⟩:=a;exact rule i j t t' s _ _ ⟨.bl<|g i j,H,I,rfl,q⟩
def ET(i j:Int):Prop:=0<j/\j<1073741824
def Iy(i j:Int):Prop:=0<=j/\j<=1000000/\i.natAbs<2^64
def y3(i j:Int):Prop:=(-(2^64)<i/\i<2^64)\/(-(2^64)<j/\j<2^64)
theorem y3.ok(h:y3 i j):IntMulOk i j:=by
 rcases h with⟨h1,h2⟩|⟨h1,h2⟩
 .exact .of_left (intBits_le_64 h1 h2)
 .exact .of_right (intBits_le_64 h1 h2)
def OX:eJ X (Yo .Add)<|Nm fun i j=>.int<|i+j:=Qx fun _ _ _ _ _ _ _ q=>add_int q
def afq:eJ X (Yo .Sub)<|Nm fun i j=>.int<|i-j:=Qx fun _ _ _ _ _ _ _ q=>sub_int q
def Q0:eJ X (Yo .Mult)<|rI y3 fun i j=>.int<|i*j:=VE fun _ _ _ _ _ _ _ a q=>mul_int q a.ok
def Mb:eJ X (Yo .FloorDiv)<|rI ET fun i j=>.int<|i/j:=VE fun i j _ _ _ _ _ a q=>by
 have h1  := a.1;have h2  := a.2;exact floordiv_int ⊥ (by grind) (.inl<|PyProof.noPylong_small<|by grind)
def Ot:eJ X (Yo .Mod)<|rI (fun _ j=>0<j) fun i j=>.int<|i%j:=VE fun i j _ _ _ _ _ a q=>by
 exact mod_int' ⊥ (by rw[Int.fmod_eq_emod_of_nonneg i<|⊥];exact q)
def unI{g:Int->Int}
  (rule:∀(i:Int)(t:Tok)(s:ID)(Q:UB)(E:UB),Q (.int (g i) s.toks) {s with toks:=s.toks+1}->SN #[0] X.A (f<|.int i t) Q E s):
  KD X f (rU fun i=>.int<|g i):=by
 intro aa s Z H x v Q I a h;obtain⟨i,rfl,q⟩:=h;obtain⟨t,rfl⟩:=a;exact rule i t s _ _ ⟨.int<|g i,H,I.tok _,⟨_,rfl⟩,q⟩
def Qs:KD X (unaryOp .USub)<|rU fun i=>.int<|-i:=unI fun _ _ _ _ _ q=>neg_int q
end
noncomputable def wI:V->V->Bool
 |.S9,.S9=>G|.S9,.int _=>G|.int _,.S9=>G|.S9,.bl _=>G|.bl _,.S9=>G|.S9,.str _=>G|.str _,.S9=>G
 |.int _,.int _=>G|.bl _,.bl _=>G|.str _,.str _=>G|.X4 _,.X4 _=>G
 |.int _,.str _=>G|.str _,.int _=>G|.bl _,.str _=>G|.str _,.bl _=>G
 |_,_=>η
def rEq:UL:=fun x y H Q=>wI x y=G/\Q (.bl<|decide (x=y)) H
def rNe:UL:=fun x y H Q=>wI x y=G/\Q (.bl<|!decide (x=y)) H
def Ba:decide (V.int i=V.int j)=(i==j):=by
 rw[iC];simp
def EC:decide (V.bl i=V.bl j)=(i==j):=by
 rw[iC];simp
def BQ:decide (V.str i=V.str j)=(i==j):=by
 rw[iC];simp
def Cs:decide (V.X4 i=V.X4 j)=(i.toList==j.toList):=by
 rw[iC];cases i;cases j;simp
section
variable{X:Cx}{a b c:Ry}{ta tb tc:TE}{pos:Pos}
def aB{Z:St}(I:Inv X aa Z H s)(q:Q (.bl k) H)(e:k=k'):EP X aa Z Q (.bool k') s:=by
 subst e;exact⟨.bl k,H,I,rfl,q⟩
theorem aaD:eJ X (UI .Eq) rEq:=by
 intro aa s Z H x y v u Q I b a h;obtain⟨hs,q⟩:=h
 cases x with
 |S9=>
  cases b;cases y with
  |S9=>cases a;exact PySem.EqNone.eq_none_none #[25]
  |bl j=>cases a;exact PySem.EqNone.eq_none_bool #[25]
  |int j=>obtain⟨t',rfl⟩:=a;exact PySem.EqNone.eq_none_int #[25]
  |str j=>obtain⟨t',rfl⟩:=a;exact PySem.EqNone.eq_none_str #[25]
  |_=>exact absurd (show η=G from hs) MK
 |bl i=>
  cases b;cases y with
  |S9=>cases a;exact PySem.EqNone.eq_bool_none #[25]
  |bl j=>cases a;exact eq_bool<|aB I q EC
  |str j=>obtain⟨t',rfl⟩:=a;exact PySem.EqMixed.eq_bool_str #[25]
  |_=>exact absurd (show η=G from hs) MK
 |int i=>
  obtain⟨t,rfl⟩:=b;cases y with
  |S9=>cases a;exact PySem.EqNone.eq_int_none #[25]
  |int j=>obtain⟨t',rfl⟩:=a;exact eq_int<|aB I q Ba
  |str j=>obtain⟨t',rfl⟩:=a;exact PySem.EqMixed.eq_int_str #[25]
  |_=>exact absurd (show η=G from hs) MK
 |str i=>
  obtain⟨t,rfl⟩:=b;cases y with
  |S9=>cases a;exact PySem.EqNone.eq_str_none #[25]
  |bl j=>cases a;exact PySem.EqMixed.eq_str_bool #[25]
  |int j=>obtain⟨t',rfl⟩:=a;exact PySem.EqMixed.eq_str_int #[25]
  |str j=>obtain⟨t',rfl⟩:=a;exact eq_str<|aB I q BQ
  |_=>exact absurd ((hs)) MK
 |X4 i=>
  obtain⟨t,rfl⟩:=b;cases y with
  |X4 j=>obtain⟨t',rfl⟩:=a;exact PySem.W.eq_bytes<|aB I q Cs
  |_=>exact absurd ((hs)) MK
 |_=>cases y<;>exact absurd ((hs)) MK
theorem aaY:eJ X (UI .NotEq) rNe:=by
 intro aa s Z H x y v u Q I b a h;obtain⟨hs,q⟩:=h
 cases x with
 |S9=>
  cases b;cases y with
  |S9=>cases a;exact PySem.EqNone.ne_none_none #[25]
  |bl j=>cases a;exact PySem.EqNone.ne_none_bool #[25]
  |int j=>obtain⟨t',rfl⟩:=a;exact PySem.EqNone.ne_none_int #[25]
  |str j=>obtain⟨t',rfl⟩:=a;exact PySem.EqNone.ne_none_str #[25]
  |_=>exact absurd (show η=G from hs) MK
 |bl i=>
  cases b;cases y with
  |S9=>cases a;exact PySem.EqNone.ne_bool_none #[25]
  |bl j=>cases a;exact ne_bool<|aB I q<|UN not EC
  |str j=>obtain⟨t',rfl⟩:=a;exact PySem.EqMixed.ne_bool_str #[25]
  |_=>exact absurd (show η=G from hs) MK
 |int i=>
  obtain⟨t,rfl⟩:=b;cases y with
  |S9=>cases a;exact PySem.EqNone.ne_int_none #[25]
  |int j=>obtain⟨t',rfl⟩:=a;exact ne_int<|aB I q<|UN not Ba
  |str j=>obtain⟨t',rfl⟩:=a;exact PySem.EqMixed.ne_int_str #[25]
  |_=>exact absurd (show η=G from hs) MK
 |str i=>
  obtain⟨t,rfl⟩:=b;cases y with
  |S9=>cases a;exact PySem.EqNone.ne_str_none #[25]
  |bl j=>cases a;exact PySem.EqMixed.ne_str_bool #[25]
  |int j=>obtain⟨t',rfl⟩:=a;exact PySem.EqMixed.ne_str_int #[25]
  |str j=>obtain⟨t',rfl⟩:=a;exact ne_str<|aB I q<|UN not BQ
  |_=>exact absurd ((hs)) MK
 |X4 i=>
  obtain⟨t,rfl⟩:=b;cases y with
  |X4 j=>obtain⟨t',rfl⟩:=a;exact PySem.W.ne_bytes<|aB I q<|UN not Cs
  |_=>exact absurd ((hs)) MK
 |_=>cases y<;>exact absurd ((hs)) MK
def TW:eJ X (UI .Lt)<|Nm fun i j=>.bl<|decide (i<j):=L6 fun _ _ _ _ _ _ _ q=>lt_int q
def kIn:eJ X (UI .LtE)<|Nm fun i j=>.bl<|decide (i<=j):=L6 fun _ _ _ _ _ _ _ q=>le_int q
def hok:eJ X (UI .Gt)<|Nm fun i j=>.bl<|decide (j<i):=L6 fun _ _ _ _ _ _ _ q=>gt_int q
def Cls:eJ X (UI .GtE)<|Nm fun i j=>.bl<|decide (j<=i):=L6 fun _ _ _ _ _ _ _ q=>ge_int q
def Dt:eJ X (UI .Lt) (fun x y H Q=>∃i j,x=.str i/\y=.str j/\Q (.bl<|decide (i.cps.toList<j.cps.toList)) H):=by
 intro aa s Z H x y v u Q I b a h;obtain⟨i,j,rfl,rfl,q⟩:=h;obtain⟨t,rfl⟩:=b;obtain⟨t',rfl⟩:=a;exact lt_str<|aB I q rfl
def Dp:eJ X (UI .In) (fun x y H Q=>∃i j,x=.str i/\y=.str j/\Q (.bl<|!(jb j i 0 j.length 1).isEmpty) H):=by
 intro aa s Z H x y v u Q I b a h;obtain⟨i,j,rfl,rfl,q⟩:=h;obtain⟨t,rfl⟩:=b;obtain⟨t',rfl⟩:=a;exact in_str<|aB I q rfl
def Qr:eJ X (UI .Is) (fun x y H Q=>y=.S9/\Q (.bl<|decide (x=.S9)) H):=by
 intro aa s Z H x y v u Q I b a h;obtain⟨rfl,q⟩:=h;subst a;refine is_none_gen<|aB I q ?_;cases x<;>first
  |(rfl)
  |(obtain⟨t,rfl⟩:=b;rfl)
def Lc:eJ X (UI .IsNot) (fun x y H Q=>y=.S9/\Q (.bl<|!decide (x=.S9)) H):=by
 intro aa s Z H x y v u Q I a b h;obtain⟨rfl,q⟩:=h;subst b;refine isnot_none_gen<|aB I q ?_;cases x<;>first
  |(subst a;rfl)
  |(obtain⟨t,rfl⟩:=a;rfl)
def wS:eJ X (UI .NotIn) (fun x y H Q=>∃i j,x=.str i/\y=.str j/\Q (.bl<|!(!(jb j i 0 j.length 1).isEmpty)) H):=by
 intro aa s Z H x y v u Q I b a h;obtain⟨i,j,rfl,rfl,q⟩:=h;obtain⟨t,rfl⟩:=b;obtain⟨t',rfl⟩:=a;exact notIn_str<|aB I q rfl
def eJ.or(h:eJ X f r)(h':eJ X f r'):eJ X f (fun x y H Q=>r x y H Q\/r' x y H Q):=by
 intro aa s Z H x y v u Q I b a q;rcases q with q|q
 .exact h aa s Z H x y v u Q I b a q
 .exact h' aa s Z H x y v u Q I b a q
def dxq(K:aT)(x:V)(H:Hp)(k:Bool):Prop:=
 match x with
 |.S9=>k=η
 |.bl b=>k=b
 |.int i=>k=(i != 0)
 |.str y=>y.length<=Ta/\k=((y.length:Int) != 0)
 |.X4 y=>y.size<=Ta/\k=((y.size:Int) != 0)
 |.ref p=>(∃xs,gr K H p xs/\k=!xs.isEmpty)\/(∃xs,m7 K H p xs/\k=!xs.isEmpty)\/∃a,H p=J (.dK a)/\k=!a.isEmpty
 |_=>False
def ach{a:List<|κ×V}{vs:List<|κ×nE}(r:KV a vs):(!vs.isEmpty)=!a.isEmpty:=by
 cases r<;>rfl
def sy(r:aU xs aV):(!aV.toArray.isEmpty)=!xs.isEmpty:=by
 cases r<;>rfl
def pM:(Ta:Nat)<2^63:=by rw[XB];decide
theorem Qg:aa8 X (fun x H Q=>∃k,dxq X.K x H k/\Q k H):=by
 intro aa s Z H x v Q I f h;obtain⟨k,e,q⟩:=h
 have j:=pM;have hs:Ta=16777216:=XB;cases x with
 |S9=>
  cases f;have a:k=η:=e;subst a;exact truthy_none ⟨H,I,q⟩
 |bl b=>
  cases f;have a:k=b:=e;subst a;exact iT ⟨H,I,q⟩
 |int i=>
  obtain⟨t,rfl⟩:=f;have a:k=(i != 0):=e;subst a;exact PySem.P.truthy_int ⟨H,I,q⟩
 |str y=>
  obtain⟨t,rfl⟩:=f;obtain⟨hy,a⟩:y.length<=Ta/\k=((y.length:Int) != 0):=e
  subst a;exact PySem.P.truthy_str ⊥ ⟨H,I.tok _,q⟩
 |X4 y=>
  obtain⟨t,rfl⟩:=f;obtain⟨hy,a⟩:y.size<=Ta/\k=((y.size:Int) != 0):=e
  subst a;exact PySem.W.truthy_bytes ⊥ ⟨H,I.tok _,q⟩
 |ref p=>
  cases f;have a:(∃xs,gr X.K H p xs/\k=!xs.isEmpty)\/(∃xs,m7 X.K H p xs/\k=!xs.isEmpty)\/∃c,H p=J (.dK c)/\k=!c.isEmpty:=e;rcases a with⟨xs,g,a⟩|⟨xs,g,a⟩|⟨c,g,a⟩
  .subst a;obtain⟨aV,r,pl,hz⟩:=I.list g
   have d:=r.length;exact wpAny_truthy_list pl.isList (by simp only[XC];lia) ⟨H,I.tok _,by rw[sy r];exact q⟩
  .subst a;obtain⟨aV,r,pl,hz⟩:=I.tuple g
   have d:=r.length;exact truthy_tuple pl (by simp only[XC];lia) ⟨H,I.tok _,by rw[sy r];exact q⟩
  .subst a;obtain⟨hz,hS,vs,r,m⟩:c.length<=Ta/\(p==zL)=η/\∃vs,KV c vs/\s.heap.DictOf (dE X.prog X.w) p vs:=I.Su p _ g
   have d  := Paired.length r;exact wpAny_truthy_dict hS m ⊥ ⟨H,I.tok _,by rw[ach r];exact q⟩
 |_=>exact((e)).elim
def Ak:eJ X (Yo .Add) (fun x y H Q=>∃i j,x=.str i/\y=.str j/\i.length+j.length<=Ta/\Q (.str<|i++j) H):=by
 intro aa s Z H x y v u Q I c b h;obtain⟨i,j,rfl,rfl,a,q⟩:=h;obtain⟨t,rfl⟩:=c;obtain⟨t',rfl⟩:=b;exact aO I.tk<|add_str (fun t' tk d=>⟨.str<|i++j,H,I.tok _,⟨_,rfl⟩,q⟩) a
theorem jV(r:aU [x] us):∃u,us=[u]/\aP x u:=by
 cases r with
 |cons r1 r2=>cases r2;exact⟨_,rfl,r1⟩
theorem ya(r:aU [x,y] us):∃u w',us=[u,w']/\aP x u/\aP y w':=by
 cases r with
 |cons r1 r2=>
  cases r2 with
  |cons r3 r4=>cases r4;exact⟨_,_,rfl,r1,r3⟩
def DM:bI X (.type "int") (fun xs H Q=>(∃i,xs=[.int i]/\Q (.int i) H)\/∃k,xs=[.bl k]/\Q (.int<|if k then 1 else 0) H):=by
 intro aa s Z H xs us Q I r h;rcases h with⟨i,rfl,q⟩|⟨k,rfl,q⟩
 .obtain⟨u,rfl,t,rfl⟩:=jV r;exact call_int_int ⟨.int i,H,I,⟨_,rfl⟩,q⟩
 .obtain⟨u,rfl,r1⟩:=jV r;subst r1;exact call_int_bool ⟨.int<|if k then 1 else 0,H,I.tok _,⟨_,rfl⟩,q⟩
end
structure c5(h:T3)(x dx C:SA)(mA:Sq):Prop where
 obj:h.get? x=J (mH C dx)
 ns:h.Ns1 dx mA
 ne:dx≠x
def DW{h:T3}(n:h.Ns1 dx mA):∃b,h.get? dx=J b/\∀name,tO name b=J (mA name):=by
 refine rm n fun o es i d hd c _ f=>?_;refine⟨o,d,fun name=>?_⟩;have e:=f name;unfold nsFind findBy at e;delta tO;rw[hd];dsimp only;split
 .mright
 .have a:es.toList.any (·.refKey)=η:=by
   rw[List.any_eq_false];intro y g;obtain⟨z,t,hkey⟩:=c y<|Array.mem_toList_iff.mp g
   simp[DictEntry.refKey,hkey]
  grind
def c5.look(I:c5 h x dx C mA):∃a,S0 h x (mH C dx) C (J a)/\∀name,tO name a=J (mA name):=
 let⟨a,ho,hl⟩:=DW I.ns
 ⟨a,⟨I.obj,rfl,rfl,ho⟩,hl⟩
section
variable{s:ID}{K:aT}
def get_map(X:K.In s.heap)(I:c5 s.heap x dx C mA)(d:mf K C name=G)(g:sA K C=G)
  (c:Yt K (.ref C) name=J U) (f:mA name=J v) (b:PySem.W.handedIn v=G) (h:Q v {s with toks:=s.toks+1}):
  SN (UA prog w) A (getAttr (.ref x) name expr) Q E s:=by
 obtain⟨i,a,e⟩:=I.look;exact PySem.W.get_value X a (AQ d).1 (PySem.W.findObj_own g c rfl (by rw[e,f])) b h
def EY{pl:Sem Bool}{Q:nE×TK->ID->Prop}(X:K.In s.heap)(I:c5 s.heap x dx C mA)(b:mf K C name=G)
  (c:Yt K (.ref C) name=J (J<|.ref f)) (e:mT K (.ref f)=G) (i:mA name=U) (h:Q (.ref f,[.ref x]) s):
  SN (UA prog w) A (getMethod (.ref x) name pl) Q E s:=by
 obtain⟨d,a,g⟩:=I.look;exact PySem.W.method_fn X a (AQ b).1 (AQ b).2 c (beq_iff_eq.mp e) (by show(tO name d).map (·.isSome)=J η;rw[g,i];rfl) h
def JF(X:K.In s.heap)(I:c5 s.heap x dx C mA)
  (hs:Yt K (.ref C) "__setattr__"=J (J<|.builtin "object.__setattr__")) (g:zO K C=G) (d:yS K C name=J U) (f:sA K C=G)
  (hw:Bf mA ns) (e:ns.length<=Ta)
  (h:∀h',c5 h' x dx C (fun y=>if y=name then J v else mA y)->X1 dx s.heap h'->Q () {s with heap:=h',toks:=s.toks+2}):
  SN (UA prog w) A (setAttr (.ref x) name v) Q E s:=by
 obtain⟨od,Jq0,hl⟩:=I.look
 refine PySem.W.set_plain X Jq0 hs<|PySem.W.osa_open X Jq0 g d fun b=>?_;let⟨cd,hc,hd'⟩:=PySem.W.any_some f
 have hx  := I.obj;refine iF<|U4<|iF<|iF<|wpAny_loadPart hx<|iF<|PySem.W.Looks.here (PySem.W.looks_clsIn X hc) ?_;rw[hd'];refine U4<|iF<|U4<|iF ?_;refine wpAny_nsSet1 I.ns fun h' c a=>?_;let⟨oD,esD,epD,hoD,hdD,hcD⟩:=c.count<|PySem.Within.cons name v hw
 refine iF<|wpAny_lookBehind hoD (by rw[hdD];exact pastItsLine_dict<|RW hcD<|by mright) ?_;exact U4<|h _ ⟨(a.2 _<|Vn I.ne).trans I.obj,c,I.ne⟩ a
end
noncomputable def f9(f:Str)(v:V):List (Str×V)->List (Str×V)
 |[]=>[(f,v)]
 |(g,x)::r=>if g=f then(g,v)::r else(g,x)::f9 f v r
def Z34(f g:Str)(v:V):∀fs:List<|Str×V,(f9 f v fs).lookup g=if g=f then J v else fs.lookup g:=TB (by
  show wA g [(f,v)]=_;by_cases h:g=f
  .mright
  mright) fun ⟨k,x⟩ r i_=>by
  have b:=i_;rw[show f9 f v ((k,x)::r)=(if k=f then(k,v)::r else(k,x)::f9 f v r)from rfl];by_cases a:k=f
  .rw[SI a];by_cases h:g=k
   .mright
   .have hb  := beq_eq_false_iff_ne.mpr h;simp only[wA,hb,SM fun e:g=f=>h<|e.trans a.symm]
  .rw[SM a];by_cases h:g=k
   .mright
   .have hb  := beq_eq_false_iff_ne.mpr h;simp only[wA,hb];exact b
def oJ(f:Str)(v:V):∀fs:List<|Str×V,f∈(f9 f v fs).map (·.1)/\∀g,g∈fs.map (·.1)->g∈(f9 f v fs).map (·.1):=TB (⟨by simp[f9],fun g h=>by mright⟩) fun ⟨k,x⟩ r i_=>by
  obtain⟨i1,i2⟩:=i_
  rw[show f9 f v ((k,x)::r)=(if k=f then(k,v)::r else(k,x)::f9 f v r)from rfl]
  grind
def Z16(f:Str)(v:V):∀fs:List<|Str×V,(f9 f v fs).length<=fs.length+1:=TB (by simp[f9]) fun ⟨k,x⟩ r i_=>by
  have a:=i_;rw[show f9 f v ((k,x)::r)=(if k=f then(k,v)::r else(k,x)::f9 f v r)from rfl]
  grind
theorem pE.some_of(r:pE (J v) o):∃u,o=J u/\aP v u:=by
 cases o with
 |none=>exact((r)).elim
 |some u=>exact⟨u,rfl,r⟩
theorem pE.none_of(r:pE U o):o=U:=by
 cases o with
 |none=>rfl
 |some u=>exact((r)).elim
section
def rK(b:nW P w H h)(e:H a=J (.ins C dx fs)):∃mA,c5 h a dx C mA/\(∀f,pE (fs.lookup f)<|mA f)/\Bf mA (fs.map (·.1))/\fs.length<=1000/\H dx=J (.own a):=by
 obtain⟨d,z,c,g,mA,n,r,q⟩:=((b a _ e));exact⟨mA,⟨g,n,c⟩,r,q,z,d⟩
end
structure UR(K:aT)(C:SA):Prop where
 aeD:mf K C qT=G
 hd:sA K C=G
 po:zO K C=G
 sa:Yt K (.ref C) "__setattr__"=J (J<|.builtin "object.__setattr__")
def UR.get{K:aT}(c:UR K C)(f:Str):mf K C f=G:=c.aeD
def a9(K:aT)(C:SA)(f:Str):Prop:=Yt K (.ref C) f=J U
def a9.abC{K:aT}(n:a9 K C f):yS K C f=J U:=by
 delta yS;rw[(n)];rfl
structure kF(K:aT)(C:SA)(m:Str)(f:SA):Prop where
 at_:Yt K (.ref C) m=J (J<|.ref f)
 fn:mT K (.ref f)=G
 kp:Xq K (.ref f)=G
section
variable{Z:St}
def tR(I:Inv X aa Z H s)(e:H a=J (.ins C dx fs))(c:UR X.K C)(n:a9 X.K C f)(l:fs.lookup f=J v)
  (h:∀u s',Inv X aa Z H s'->aP v u->Q u s'):SN #[0] A (getAttr (.ref a) f b) Q E s:=by
 refine gS (rK I.Su e) fun mA O r _ _ _=>?_;obtain⟨u,hu,ru⟩:=pE.some_of (v:=v) (o:=mA f) (by grind)
 exact get_map I.U3 O (c.get f) c.hd n hu ((by
   cases v with
   |S9=>cases((ru));rfl
   |bl b=>cases((ru));rfl
   |int i=>obtain⟨t,e⟩:=((ru));subst e;rfl
   |str x=>obtain⟨t,e⟩:=((ru));subst e;rfl
   |X4 b=>obtain⟨t,e⟩:=((ru));subst e;rfl
   |xH b=>obtain⟨t,e⟩:=((ru));subst e;rfl
   |ref a=>cases((ru));rfl
   |ty n=>cases((ru));rfl)) (h u _ (I.tok _) ru)
def ua{m:Str}{g:SA}{pl:Sem Bool}{Q:nE×TK->ID->Prop}(I:Inv X aa Z H s)(e:H a=J (.ins C dx fs))(c:UR X.K C)(k:kF X.K C m g)(l:fs.lookup m=U)
  (h:Q (.ref g,[.ref a]) s):SN #[0] A (getMethod (.ref a) m pl) Q E s:=by
 obtain⟨mA,O,r,_,_,_⟩:=rK I.Su e;have b:mA m=U:=pE.none_of (by rw[<-l];exact r m);exact EY I.U3 O (c.get m) k.at_ k.fn b h
def si(I:Inv X aa Z H s)(e:H a=J (.ins C dx fs))(c:UR X.K C)(n:a9 X.K C f)(m:fs.length<1000)(k:aP y u)
  (h:∀s',Inv X aa Z (br H a<|.ins C dx<|f9 f y fs) s'->Q () s'):SN #[0] A (setAttr (.ref a) f u) Q E s:=by
 refine gS (rK I.Su e) fun mA O r p _ t=>?_
 have i:(fs.map (·.1)).length<=Ta:=by rw[WH,XB];lia
 refine JF I.U3 O c.sa c.po n.abC c.hd p i fun h' O' j=>h _ ?_;have hd:∃o,h'.get? dx=J o:=let⟨o,_,_,e',_⟩:=O'.ns;⟨o,e'⟩;refine I.write (by rw[e];exact Uy) (.inr t) (fun b q l z=>(j.2 b l).trans z) hd ?_;refine⟨by rw[aG O.ne];exact t,?_,O.ne,O'.obj,_,O'.ns,fun g=>?_,fun g d=>?_⟩
 .have:=Z16 f y fs;lia
 .rw[Z34];by_cases q:g=f
  .rw[SI q,SI q];exact k
  mright
 .by_cases q:g=f
  .rw[q];exact(oJ f y fs).1
  .refine(oJ f y fs).2 g (p g fun z=>d ?_);mright
def Inv.made(I:Inv X aa Z H s):Inv X aa Z (br (br H s.heap.objs.size<|.own<|s.heap.objs.size+1) #[17]<|.ins C s.heap.objs.size [])
  {s with heap:=(s.heap.push iJ).push<|mH C s.heap.objs.size}:=by
 have e1:(s.heap.push iJ).get? s.heap.objs.size=J iJ:=Vh s.heap rfl;have e2  := by
  have:=Vh (s.heap.push iJ) (o:=mH C s.heap.objs.size) rfl
  rwa [Ym]at this
 have g:(s.heap.push iJ).Ns s.heap.objs.size (fun _=>U):=⟨iJ,#[],_,e1,rfl,(fun e c=>absurd c<|∅),fun _=>rfl⟩;have d:=I.laid (o:=.own<|s.heap.objs.size+1) (fun b u q=>iN _ q) (mK _) ⟨_,e1⟩;refine d.laid (fun b u q=>iN _ q) (Nat.le_of_eq<|Ym _ _) ?_;have a:s.heap.objs.size≠s.heap.objs.size+1:=Vd<|mY _;refine⟨by rw[aG a,aE],Uh _,a,e2,fun _=>U,(Heap.Ns1.of_empty g).at fun o q=>iN _ q,fun _=>Uy,fun y f=>absurd rfl f⟩
end
def Vz(K:aT)(ta:TE)(f:Str):TE:=fun Z H Q=>ta Z H fun x H1=>∃a C b fs v,x=.ref a/\H1 a=J (.ins C b fs)/\UR K C/\a9 K C f/\fs.lookup f=J v/\Q v H1
def brw(K:aT)(ta tv:TE)(f:Str):TS:=fun D Z H=>tv Z H fun y H1=>ta Z H1 fun x c=>∃a C b fs,x=.ref a/\c a=J (.ins C b fs)/\UR K C/\a9 K C f/\fs.length<1000 /\
 D.nx Z (br c a<|.ins C b<|f9 f y fs)
def SW(X:Cx)(a:Operator)(rd:V->V->Hp->VK->Prop):Prop:=
 ∀(aa:TQ)(s:ID)(Z:St)(H:Hp)(x y:V)(u v:nE)(Q:VK),Inv X aa Z H s->aP x u->aP y v->rd x y H Q->SN #[0] X.A (inplaceOp a u v) (EP X aa Z Q) X.xe s
def Ls(K:aT)(ta tv:TE)(rd:V->V->Hp->VK->Prop)(f:Str):TS:=fun D Z H=>ta Z H fun x H1=>∃a C e fs v,x=.ref a/\H1 a=J (.ins C e fs)/\UR K C/\a9 K C f/\fs.lookup f=J v /\
 tv Z H1 fun y g=>rd v y g fun z d=>∃c b,d a=J (.ins C c b)/\b.length<1000/\D.nx Z (br d a<|.ins C c<|f9 f z b)
section
variable{X:Cx}{o e value:Ry}{f:Str}{pos pos' tpos:Pos}{ta tv:TE}
def AO(d:PE X e ta)(b:WG e f X.env (eval e X.env)=eval e X.env):PE X (.Attribute e f pos)<|Vz X.K ta f:=by
 intro aa s Z H Q I h;refine(fun b h =>  Attribute_any_ h<|by rw[arm_eval_Attribute,b]) b<|bP (d aa s Z H _ I h) fun u s1 k=>Tw k fun x H1 I1 rx k=>c9 k fun a C dx fs v ex ea c n l q=>?_;subst ex;obtain rfl:u=WU a:=rx;exact tR I1 ea c n l fun j i g ru=>⟨v,H1,g,ru,q⟩
def GB(d:PE X o ta)(e:PE X value tv)(hs:Uw value (J<|.Attribute o f pos') pos.line X.env=pure η):PS X (.Assign [.Attribute o f pos'] value pos)<|brw X.K ta tv f:=by
 intro aa s Z H D I h;refine plainObj_wpAny_Assign_Attribute (bP (e aa s Z H _ I h) fun u j k=>Tw k fun y H1 i m q=>bP (d aa j Z H1 _ i q) fun ov s2 k=>Tw k fun x H2 I2 rx k=>Z46 k fun a C dx fs ex ea c n l q2=>?_) hs;subst ex;obtain rfl:ov=WU a:=rx;exact si I2 ea c n l m fun g b=>⟨Z,_,b,q2⟩
def D6{d:Operator}{rd:V->V->Hp->VK->Prop}(i:PE X o ta)(k:PE X value tv)(b:SW X d rd):PS X (.AugAssign (.Attribute o f tpos) d value pos)<|Ls X.K ta tv rd f:=by
 intro aa s Z H D I h;refine wpAny_AugAssign_AttributeAny<|bP (i aa s Z H _ I h) fun ov s1 j=>Tw j fun x H1 I1 rx j=>c9 j fun a C dx fs v ex ea c n l q=>?_;subst ex;obtain rfl:ov=WU a:=rx;exact tR I1 ea c n l fun u g e ru=>bP (k aa g Z H1 _ e q) fun w3 s3 j=>Tw j fun y H2 I3 ry q3=>bP (b aa s3 Z H2 v y u w3 _ I3 ru ry q3) fun w4 s4 j=>Tw j fun z H3 I4 rz j=>Tw j fun dx' fs' ea' l' q4=>si I4 ea' c n l' rz fun m j=>⟨Z,_,j,q4⟩
def abI:V->V->Hp->VK->Prop:=fun x y H Q=>∃i j,x=.int i/\y=.int j/\Q (.int<|i+j) H
def OH:SW X .Add abI:=by
 rintro aa s Z H x y u v Q I rx ry ⟨i,j,rfl,rfl,q⟩;obtain⟨t,rfl⟩:=(show ∃t,u=uh i t from rx);obtain⟨t',rfl⟩:=(show ∃t',v=uh j t' from ry);exact PyProof.Rows.iadd_int ⟨.int<|i+j,H,I.tok _,⟨_,rfl⟩,q⟩
end
section
variable{Z:St}
inductive Yc(K:aT)(H:Hp):V->nE->Prop where
 |S9:Yc K H .S9 (.type "NoneType")
 |bl (x:Bool):Yc K H (.bl x) (.type "bool")
 |int (i:Int):Yc K H (.int i) (.type "int")
 |str (x:Str):Yc K H (.str x) (.type "str")
 |xH (x:UInt64):Yc K H (.xH x) (.type "float")
 |lst {a:SA} {xs:Se} (e:H a=J (.lst xs)):Yc K H (.ref a) (.type "list")
 |WC {a:SA} {o:Obj} {xs:Se} (e:H a=J (.WC o<|.lst xs)):Yc K H (.ref a) (.type "list")
 |tup {a:SA} {xs:Se} (e:H a=J (.tup xs)):Yc K H (.ref a) (.type "tuple")
 |dK {a:SA} {kvs:List<|Key×V} (e:H a=J (.dK kvs)):Yc K H (.ref a) (.type "dict")
 |dT {a:SA} {kvs:List<|List Key×V} (e:H a=J (.dT kvs)):Yc K H (.ref a) (.type "dict")
 | ins {a C dx:SA} {fs:List (Str×V)} (e:H a=J (.ins C dx fs)) (cl:UR K C) (ha:Yt K (.ref C) "__class__"=J (J (.builtin "object.__class__")))
   (hn:PySem.W.specialIn K (.builtin "object.__class__") "__get__"=J (J<|.builtin "getset_descriptor.__get__")) (htk:PySem.W.takesIn K (.builtin "object.__class__")=J G)
   (hm:PySem.W.mroIn K C (.type "object")=J G):Yc K H (.ref a)<|.ref C
theorem iP(I:Inv X aa Z H s)(d:aP x u)(f:Yc X.K H x t)(e:S7 X.K t c=J b)(h:∀g,Q (.bool b) {s with toks:=g}):
  SN #[0] A (call (.builtin "isinstance") [u,c]) Q E s:=by
 cases f with
 |S9=>cases(show u=Yk from d);exact XY PySem.W.kitx_none I.U3 Uy e #[18] h
 |bl y=>cases((d));exact XY PySem.W.kitx_bool I.U3 Uy e #[18] h
 |int i=>obtain⟨t,q⟩:=((d));subst q;exact XY PySem.W.kitx_int I.U3 Uy e #[18] h
 |str y=>obtain⟨t,q⟩:=((d));subst q;exact XY PySem.W.kitx_str I.U3 Uy e #[18] h
 |xH y=>obtain⟨t,q⟩:=((d));subst q;exact XY PySem.W.kitx_float I.U3 Uy e #[18] h
 |@lst a xs ea=>
  cases((d));obtain⟨_,_,n,_,h1⟩:=((I.Su a _ ea));exact XY zR I.U3 ⟨_,h1,rfl⟩ e #[18] h
 |@WC a ob xs ea=>
  cases((d));obtain⟨_,_,_,n,_,h1⟩:=((I.Su a _ ea));exact XY zR I.U3 ⟨_,h1,rfl⟩ e #[18] h
 |@tup a xs ea=>
  cases((d));obtain⟨_,_,_,p⟩:=((I.Su a _ ea));obtain⟨o,h1,h2,_⟩:=p
  exact XY NK I.U3 ⟨o,h1,h2⟩ e #[18] h
 |@dK a kvs ea=>
  cases((d));obtain⟨_,_,vs,_,p⟩:=((I.Su a _ ea))
  obtain⟨o,es,j,h1,h2,_⟩:=p;exact XY zX I.U3 ⟨o,h1,h2.1⟩ e #[18] h
 |@dT a kvs ea=>
  cases((d));obtain⟨_,_,xs,_,o,es,j,h1,h2,_⟩:=((I.Su a _ ea));exact XY zX I.U3 ⟨o,h1,h2.1⟩ e #[18] h
 |@ins a C dx fs ea cl ha hn htk hm=>
  cases((d));obtain⟨mA,O,_⟩:=rK I.Su ea
  obtain⟨od,Jq0,_⟩:=O.look
  exact XY (PySem.W.kitx_own (cl.get _) cl.hd ha hn htk hm) I.U3 Jq0 e #[18] h
end
structure TZ(k:Nat)(A:Tx):Prop where
 hd:A.handled=U
 dp:A.depth+3*k+5<tP
 un:A.units+16*k+200<cLine
def TZ.mono(r:TZ k A)(h:j<=k):TZ j A:=⟨r.hd,by have:=r.dp;lia,by have:=r.un;lia⟩
def TZ.deeper(r:TZ (k+1) A)(env:Env):TZ k<|A.deeper env:=
 ⟨r.hd,by have:=r.dp;show A.depth+1+3*k+5<_;lia,by have:=r.un;show A.units+3+16*k+200<_;lia⟩
def Ag{A:Tx}:(A.under<|.builtin "type.__call__" ⟨.ref C::us,kw⟩).depth=A.depth+1:=by
 rfl
def Ar{A:Tx}:(A.under<|.builtin "type.__call__" ⟨.ref C::us,kw⟩).units=A.units+1:=by
 rfl
def TZ.make(r:TZ (k+1) A)(C:SA)(us:TK)(a:List<|Str×nE):TZ k<|A.under<|.builtin "type.__call__" ⟨.ref C::us,a⟩:=
 ⟨r.hd,by have:=r.dp;rw[Ag];lia,by have:=r.un;rw[Ar];lia⟩
def TZ.depth(r:TZ k A):A.depth<tP:=by have:=r.dp;lia
def TZ.units(r:TZ k A):A.units+64<cLine:=by have:=r.un;lia
def DG:TA:=fun _ H Q=>Q [] H
def uM(ta:TE)(tr:TA):TA:=fun Z H Q=>ta Z H fun x H1=>tr Z H1 fun xs a=>Q (x::xs) a
section
def Kz(i:PE X e te)(c:PA X es t)(hs:#[16]<|>Rv):PA X (e::es)<|uM te t:=by
 intro pos aa s Z H Q I h;rw[hs];refine zc<|bP (i aa s Z H _ I h) fun u d a=>jZ a fun x H1 b r1 q1=>?_;exact bP (c pos aa d Z H1 _ b q1) fun us j a=>jZ a fun xs g f r2 q2=>⟨x::xs,g,f,.cons r1 r2,q2⟩
def aaQ(t:TA):TE:=fun Z H Q=>t Z H fun xs H1=>xs.length<=Ta/\∀p,H1 p=U->Q (.ref p) (br H1 p<|.tup xs)
def akP(t:TA):TE:=fun Z H Q=>t Z H fun xs H1=>xs.length<=Ta/\∀p,H1 p=U->Q (.ref p) (br H1 p<|.lst xs)
end
abbrev Sp:=Se->Hp->VK->XK->Prop
abbrev Ee:=List Env->Hp->ID->XK->nE->ID->Prop
structure uG(P:Tc)(w:Sl)(K:aT)(mg:Sq)(base:T3)(A:Tx)(outer:List Env)(s:ID)(H:Hp):Prop where
 frames:A.frames=J outer
 mod:Mod K mg base
 bs:∀b o,base.get? b=J o->s.heap.get? b=J o/\H b=U
 Wq:base.objs.size<=s.heap.objs.size
 WE:s.heap.FunFrames base outer
 XJ:(∀b∈Ec outer,H b=U)/\RJ K H
 Su:nW P w H s.heap
 bare:AllBare s.gens
def CE(a:List Env)(P:Tc)(w:Sl)(H:Hp)(s:ID)(Q:VK)(u:nE)(s':ID):Prop:=
 ∃v H',s'.os=s.os/\AllBare s'.gens/\Un (Ec a) [] H H' s.heap s'.heap/\nW P w H' s'.heap/\aP v u/\Q v H'
def CR(CX:Ee)(a:List Env)(P:Tc)(w:Sl)(H:Hp)(s:ID)(Q:VK)(E:XK)(r:Result)(s':ID):Prop:=
 match r with
 |.ok (.ret u)=>CE a P w H s Q u s'
 |.ok _=>False
 |.error e=>CX a H s E e s'
structure T8(P:Tc)(w:Sl)(K:aT)(mg:Sq)(base:T3)(CX:Ee)(k:Nat)(f:SA)(fd:Wj)(ps:SH)(sp:Sp):Prop where
 len:∀vs H Q E,sp vs H Q E->vs.length=ps.length
 run:∀(A:Tx)(outer:List Env)(s:ID)(H:Hp)(args:Args)(us:TK)(vs:Se)(Q:VK)(E:XK),TZ k A->uG P w K mg base A outer s H->BindsTo s fd args (ps.zip us)->aU vs us->sp vs H Q E ->
  qq (UA P w) A (.call (.ref f) args) (CR CX outer P w H s Q E) s
def T8.mono{P:Tc}{w:Sl}{K:aT}{mg:Sq}{base:T3}{CX:Ee}{j k:Nat}{f:SA}{fd:Wj}{ps:SH}{sp:Sp}(F:T8 P w K mg base CX j f fd ps sp)(h:j<=k):
  T8 P w K mg base CX k f fd ps sp:=⟨F.len,fun A a s H b us vs Q E c=>F.run A a s H b us vs Q E<|c.mono h⟩
def T8.imp{K:aT}(F:T8 P w K mg base CX k f fd ps sp)
  (h:∀vs H Q E,sp' vs H Q E->sp vs H Q E):T8 P w K mg base CX k f fd ps sp':=
 ⟨fun vs H Q E q=>F.len vs H Q E<|h _ _ _ _ q,fun A a s H b us vs Q E d c g e hs=>F.run A a s H b us vs Q E d c g e<|h _ _ _ _ hs⟩
def uG.make{K:aT}(e:uG P w K mg base A outer s H)(C:SA)(us:TK)(a:List<|Str×nE):
  uG P w K mg base (A.under<|.builtin "type.__call__" ⟨.ref C::us,a⟩) outer s H:=⟨by first|exact e.frames|assumption,e.mod,e.bs,e.Wq,e.WE,e.XJ,e.Su,e.bare⟩
section
variable{Z:St}
def Inv.v8(I:Inv X aa Z H s):uG X.prog X.w X.K X.mg X.base X.A X.stack s H:=
 ⟨I.ok.frames,I.ok.mod,I.bs,RW I.ok.Wq I.sz,I.stack,⟨I.Y8,I.tb⟩,I.Su,I.bare⟩
def Inv.after(I:Inv X aa Z H s)(h:CE X.stack X.prog X.w H s Q u s')(i:X.tn<=s'.toks<|>XW):EP X aa Z Q u s':=by
 refine XX h fun v H' os a un e r q=>?_;obtain⟨f,g,d,t,c⟩:=s';obtain rfl:c=s.os:=os;exact⟨v,H',I.call un e a fun b z=>absurd z<|∅,r,q⟩
end
def alp(sp:Sp)(a:Se)(E:XK)(t:TA):TE:=fun Z H Q=>t Z H fun vs H1=>sp (vs++a) H1 Q E
def Ew(C:SA)(sp:Sp)(b:Se)(E:XK)(t:TA):TE:=fun Z H Q=>t Z H fun vs H1=>∀x a,H1 x=U->H1 a=U->a≠x ->
 sp (.ref x::(vs++b)) (br (br H1 a<|.own x) x<|.ins C a []) (fun v c=>v=.S9/\Q (.ref x) c) E
def cf(K:aT)(fd:Wj)(ps:SH)(ds:TK):Prop:=
 ∀(s:ID)(us:TK),K.In s.heap->(us++ds).length=ps.length->BindsTo s fd ⟨us,[]⟩ (ps.zip<|us++ds)
def cf.all{K:aT}(h:∀us:TK,us.length=ps.length->bindArgs fd ⟨us,[]⟩=pure (ps.zip us)):cf K fd ps []:=fun s us _ a=>by
 rw[Wz]at a⊢;exact .of_eq (h us a)
def m5(CX:Ee)(X:Cx)(E:XK):Prop:=∀(aa:TQ)(Z:St)(H:Hp)(s:ID)(e:nE)(s':ID),Inv X aa Z H s->CX X.stack H s E e s'->X.xe e s'
section
variable{p pos apos:Pos}
theorem IV{Z:St}(F:T8 X.prog X.w X.K X.mg X.base CX k f fd ps sp)(c:TZ k X.A)(b:cf X.K fd ps ds)(hd:aU dvs ds)(i:m5 CX X E)
  (I:Inv X aa Z H s) (r:aU vs us) (h:sp (vs++dvs) H Q E):SN #[0] X.A (call (.ref f) us) (EP X aa Z Q) X.xe s:=by
 have r2  := r.append hd;have d:(us++ds).length=ps.length:=by rw[<-r2.length];exact F.len _ _ _ _ h
 refine wpAny_call<|dk I.tk<|eo (F.run X.A X.stack s H ⟨us,[]⟩ (us++ds) (vs++dvs) Q E c I.v8 (b s us I.U3 d) r2 h) fun r s' a g=>?_;cases r with
 |error e=>exact i aa Z H s e s' I a
 |ok fl=>
  cases fl with
  |ret u=>exact I.after a
  |next=>exact Wf a
  |brk=>exact Wf a
  |cont=>exact Wf a
def Ei(F:T8 X.prog X.w X.K X.mg X.base CX k f fd ps sp)(e:TZ k X.A)(g:Gl X x)(c:X.mg x=J (.ref f))(b:Xq X.K (.ref f)=G)(i:cf X.K fd ps ds)(hd:aU dvs ds)(d:m5 CX X E)
  (a:TN x<|>Sm):PE X (.Call (.Name x p) [] [] pos)<|alp sp dvs E DG:=by
 intro aa s Z H Q I h;refine Yr<|dD I g c ?_ a;exact Bb I.U3 b<|IV F e i hd d I .nil h
structure Mk(K:aT)(C f:SA):Prop where
 makes:SO K C=G
 init:Yt K (.ref C) "__init__"=J (J<|.ref f)
 fn:mT K (.ref f)=G
 kp:Xq K (.ref C)=G
theorem yQ{Z:St}(M:Mk X.K C f)(F:T8 X.prog X.w X.K X.mg X.base CX k f fd ps sp)(i:TZ (k+1) X.A)(l:cf X.K fd ps ds)(hd:aU dvs ds)
  (n:m5 CX X E) (I:Inv X aa Z H s) (r:aU vs us)
  (h:∀x c,H x=U->H c=U->c≠x->sp (.ref x::(vs++dvs)) (br (br H c<|.own x) x<|.ins C c []) (fun v m=>v=.S9/\Q (.ref x) m) E):
  SN #[0] X.A (call (.ref C) us) (EP X aa Z Q) X.xe s:=by
 have d:=h #[17] s.heap.objs.size (I.Su.fresh<|Nat.le_succ _) (I.Su.fresh<|mK _)<|Vd<|mY _;have b:=Inv.made (C:=C) I;have r2:aU (V.ref #[17]::(vs++dvs))<|WU #[17]::(us++ds):=.cons rfl (r.append hd);have hl  := by
  have e:=r2.length;rw[F.len _ _ _ _ d]at e;exact e.symm
 refine wpAny_call ((fun X g j o h=>by
   exact PySem.W.make_core (PySem.W.makes_of X g) (PySem.W.looks_findIn X j) (fun self=>PySem.W.bind_fn X self o) (.inl rfl) h) I.U3 M.makes M.init (beq_iff_eq.mp M.fn) (dk b.tk (eo (F.run _ X.stack _ _ ⟨WU #[17]::us,[]⟩ (WU #[17]::(us++ds)) _ _ E (i.make C us [])
  (b.v8.make C us []) (l _ (WU #[17]::us) b.U3 hl) r2 d) fun r s' a p=>?_)))
 cases r with
 |error e=>exact n aa Z _ _ e s' b a
 |ok fl=>
  cases fl with
  |ret u=>
   refine US (b.after a) fun v H' t q y z=>?_
   subst y;exact⟨q,⟨V.ref<|s.heap.objs.size+1,H',t,rfl,z⟩⟩
  |next=>exact Wf a
  |brk=>exact Wf a
  |cont=>exact Wf a
def Cb(M:Mk X.K C f)(F:T8 X.prog X.w X.K X.mg X.base CX k f fd ps sp)(g:TZ (k+1) X.A)(i:Gl X x)(d:X.mg x=J (.ref C))(o:cf X.K fd ps ds)(hd:aU dvs ds)(l:m5 CX X E)
  (n:PA X (e::es) t) (a:TN x<|>Sm) (m:#[16]<|>Rv) (b:(X3 pos<|Uu es X.env).any (·.1)=η<|>Rv):
  PE X #[3] (Ew C sp dvs E t):=by
 intro aa s Z H Q I h;refine Yr<|dD I i d ?_ a;refine yw I.ok.mod.XM M.kp (bP (n pos aa s Z H _ I h) fun us u j=>jZ j fun vs H1 c r q=>⟨c.U3,?_⟩) m b;exact yQ M F g o hd l c r q
def IB(M:Mk X.K C f)(F:T8 X.prog X.w X.K X.mg X.base CX k f fd ps sp)(e:TZ (k+1) X.A)(g:Gl X x)(c:X.mg x=J (.ref C))(b:cf X.K fd ps ds)(hd:aU dvs ds)(d:m5 CX X E)
  (a:TN x<|>Sm):PE X (.Call (.Name x p) [] [] pos)<|Ew C sp dvs E DG:=by
 intro aa s Z H Q I h;refine Yr<|dD I g c ?_ a;exact Bb I.U3 M.kp<|yQ (us:=[]) M F e b hd d I .nil h
end
structure Vr(N P:SH)(sc:Scope):Prop where
 kind:sc.kind=.function
 co:sc.isCoroutine=η
 gen:sc.isGenerator=η
 nd:N.Nodup
 pre:N.take P.length=P
 par:∀x∈P,sc.names.lookup x=J .local\/sc.names.lookup x=J .cell
 Z44:∀y∈sc.names,y.2≠.free
theorem vB{a:Str->Option Yz}:∀{binds:List<|Str×nE}{m:Sq},(∀v,(x,v)∉binds)->bindL a binds m x=m x
 |[],_,_=>rfl
 |(n,v)::r,m,h=>by
  unfold bindL;rw[vB fun w hw=>h w<|ie _ hw];split
  .grind
  .rfl
theorem vH{a:Str->Option Yz}:∀{binds:List<|Str×nE}{m:Sq},(∀v,(x,v)∉binds)->bindC a binds m x=m x
 |[],_,_=>rfl
 |(n,v)::r,m,h=>by
  unfold bindC;rw[vH fun w hw=>h w<|ie _ hw];split
  .rfl
  grind
theorem vz{a:Str->Option Yz}:∀{P:SH}{vs:TK}{i:Nat}{m:Sq},P.Nodup->P[i]?=J x->vs[i]?=J v->a x=J .local ->
  bindL a (P.zip vs) m x=J v
 |[],_,_,_,_,h,_,_=>by mright
 |_::_,[],_,_,_,_,h,_=>by mright
 |p::P,w::vs,0,m,nd,h1,h2,hk=>by
  simp at h1 h2;subst h1;subst h2;show bindL a ((p,w)::P.zip vs) m p=_;unfold bindL;rw[vB fun v b=>(Vx.mp nd).1 (X0 b).1,SI hk];simp
 |p::P,w::vs,i+1,m,nd,h1,h2,hk=>by
  show bindL a ((p,w)::P.zip vs) m x=_;exact vz (Vx.mp nd).2 ⊤ ⊤ hk
theorem vG{a:Str->Option Yz}:∀{P:SH}{vs:TK}{i:Nat}{m:Sq},P.Nodup->P[i]?=J x->vs[i]?=J v->a x≠J .local ->
  bindC a (P.zip vs) m x=J v
 |[],_,_,_,_,h,_,_=>by mright
 |_::_,[],_,_,_,_,h,_=>by mright
 |p::P,w::vs,0,m,nd,h1,h2,hk=>by
  simp at h1 h2;subst h1;subst h2;show bindC a ((p,w)::P.zip vs) m p=_;unfold bindC;rw[vH fun v b=>(Vx.mp nd).1 (X0 b).1,SM hk];simp
 |p::P,w::vs,i+1,m,nd,h1,h2,hk=>by
  show bindC a ((p,w)::P.zip vs) m x=_;exact vG (Vx.mp nd).2 ⊤ ⊤ hk
noncomputable def start(N:SH)(vs:Se):St:=vs.map J++Ut (N.length-vs.length) U
noncomputable def gw(CX:Ee)(P:Tc)(w:Sl)(K:aT)(mg:Sq)(base:T3)(N:SH)(a:Str)(scope:Scope)(f:SA)(c:nE)(A:Tx)(outer:List Env)(s:ID)(H:Hp)(E:XK):Cx where
 prog:=P
 w:=w
 K:=K
 mg:=mg
 base:=base
 A:=A.deeper<|W7 a scope s.heap.objs.size f c
 N:=N
 s₀:=s
 H₀:=H
 env:=W7 a scope s.heap.objs.size f c
 outer:=outer
 stack:=W7 a scope s.heap.objs.size f c::outer
 ex:=[]
 calm:=G
 fn:=fun _=>G
 pn:=[]
 xe:=fun e s'=>SN (UA P w) (A.deeper<|W7 a scope s.heap.objs.size f c) (leaving (W7 a scope s.heap.objs.size f c) e) (fun _ b=>CX outer H s E e b) (fun d b=>CX outer H s E d b) s'
def yd{a:Scope}(h:a.names.lookup x=J .cell):∃c,(cellsFrom n a.names []).lookup x=J c:=by
 have q:=tK a.names n []<|.inl h;exact tq.mp q
def oQ{K:aT}
  (S:Vr N ps scope) (hd:A.handled=U) (e0:uG P w K mg base A outer s H) (D:vs.length=ps.length) (r:aU vs us)
  (x:InCallC s s.heap.objs.size (bindL (W7 qual scope s.heap.objs.size f cd).kindOf (ps.zip us) fun _=>U) (cellsFrom #[17] scope.names []) (bindC (W7 qual scope s.heap.objs.size f cd).kindOf (ps.zip us) fun _=>U) s1):
  Inv (gw CX P w K mg base N qual scope f cd A outer s H E) [] (start N vs) H s1:=by
 have t:ps.length<=N.length:=by have:=UN vP S.pre;rw[List.length_take]at this;lia
 obtain⟨h1,B,rfl,n⟩:=x.done;have g:∀b:SA,b∉(gw CX P w K mg base N qual scope f cd A outer s H E).ex:=fun b z=>absurd (show b∈([]:Sf)from z) ∅;refine⟨⟨e0.mod,S.kind,rfl,rfl,mK _,fun y z c h1 h2=>?_,fun y d=>?_,fun y c _ h=>?_,fun _=>hd,Around.frames_deeper e0.frames,.inr ⟨rfl,rfl⟩,fun b z=>absurd z<|g b,e0.bs,e0.Wq,fun b _ _=>g b,fun b z=>absurd z<|g b,e0.WE,e0.XJ⟩,
  rfl,e0.bare,Un.kept n,⟨_,x.toInCall.ns,fun i y v h1 h2 C=>?_⟩,fun y c h=>⟨_,x.cell y c h⟩,e0.Su.fresh (mK _),fun y c h=>?_,fun p j=>absurd (show p∈([]:TQ)from j) ∅,e0.Su.kept n,?_,Uh _⟩
 .exact name_of_addr x.apart (hG h1) (hG h2)
 .have d:scope.names.lookup y=J .cell\/scope.names.lookup y=J .free:=d;rcases d with d|d
  .exact yd d
  .exact absurd rfl (S.Z44 _<|hG d)
 .exact jx (x.above y c<|hG h)
 .have m:i<vs.length:=by
   unfold start at h2;by_cases m:i<vs.length
   .exact m
   .rw[nN<|by simpa using m]at h2;rw[yg]at h2;split at h2<;>cases h2
  have o:vs[i]?=J v:=by
   unfold start at h2;rw[uy<|by simpa using m,Xm]at h2;cases e:vs[i]? with
   |none=>rw[e]at h2;cases h2
   |some a=>rw[e]at h2;cases h2;rfl
  obtain⟨u,hu,rv⟩:=r.get o
  have j:ps[i]?=J y:=by
   rw[<-S.pre,List.getElem?_take_of_lt<|by simp_all];exact h1
  have l:ps.Nodup:=by rw[<-S.pre];exact S.nd.sublist<|List.take_sublist _ _
  refine⟨u,rv,?_⟩;rcases S.par y (Do j)with k|k
  .exact .inl ⟨k,vz l j hu k⟩
  .obtain⟨c,e⟩:=yd k;refine .inr ⟨.inl k,c,e,?_⟩;have q:=x.cell y c e;rw[vG l j hu (by show scope.names.lookup y≠_;rw[k];decide)]at q;exact q
 .exact e0.Su.fresh (jx<|x.above y c<|hG h)
 .delta start;show _=N.length;mright
theorem NP{K:aT}{C kV j F d D R:nE}
  (lk:K.lookup f=J ⟨R,od,.func<|Wk name qual params body scope C kV j F an d D,osl⟩) (p:uz K d qual=G) (S:Vr N ps scope)
  (len:∀vs H Q E,sp vs H Q E->vs.length=ps.length)
  (h:∀(A:Tx)(a:List Env)(s:ID)(H:Hp)(vs:Se)(Q:VK)(E:XK),TZ k (A.deeper<|W7 qual scope s.heap.objs.size f d)->sp vs H Q E ->
   ∃t,IR (gw CX P w K mg base N qual scope f d A a s H E) body t/\t {nx:=fun _ H'=>Q .S9 H',rt:=Q} (start N vs) H):
  T8 P w K mg base CX (k+1) f (Wk name qual params body scope C kV j F an d D) ps sp:=by
 refine⟨len,fun A a s H B us vs Q E m e0 X r l=>?_⟩;have W:=len _ _ _ _ l;have KX  := e0.mod.XM.keeps fun b o e=>(e0.bs b o e).1;have lim  := e0.mod.nolimit.keeps fun b o e=>(e0.bs b o e).1;have i:∀y∈ps.zip us,scope.names.lookup y.1=J .local\/#[26]:=fun⟨n,v⟩hy=>by
  rcases S.par n (X0 hy).1 with q|q
  .exact .inl q
  .exact .inr ⟨q,tK _ _ _<|.inl q⟩
 refine codeAny_call_function m.depth (KX _ _ lk) rfl S.co S.gen rfl (zh KX p) (X _ _ _ _ ?_);refine wpAny_newFunctionEnv_cells S.kind i fun env T s1 x=>?_;subst T;refine⟨lim.keeps x.toInCall.keep,codeAny_func ?_⟩;obtain⟨t,M,O⟩:=h A a s H vs Q E (m.deeper _) l;have I:Inv (gw CX P w K mg base N qual scope f d A a s H E) [] (start N vs) H s1:=oQ S m.hd e0 W r x;refine UE (M [] s1 (start N vs) H _ I O) (fun fl s' hs=>?_) fun e s' hs=>hs;have fin:∀{g:St}{H':Hp}{v:V}{u:nE},Inv (gw CX P w K mg base N qual scope f d A a s H E) [] g H' s'->aP v u->Q v H'->CE a P w H s Q u s':=
  fun{g H' v u}c z q=>⟨v,H',c.os,c.bare,c.base,c.Su,z,q⟩
 cases fl with
 |ret u=>
  refine WM hs fun v g H' c z q=>?_;exact fin c z q
 |next=>
  obtain⟨g,H',c,q⟩:=hs;exact fin (v:=V.S9) c rfl q
 |brk=>
  obtain⟨_,_,_,q⟩:=hs;exact Wf q
 |cont=>
  obtain⟨_,_,_,q⟩:=hs
  exact Wf q
section
variable{p pos:Pos}{id:String}
def RD(r:Se->Hp->VK->Prop)(t:TA):TE:=fun Z H Q=>t Z H fun vs H1=>r vs H1 Q
def GF(j:bI X (.builtin id) r)(f:Gl X x)(c:X.mg x=U)(n:Vl x=J (.builtin id))(m:PA X (e::es) t)(k:#[27]<|>Sm)(a:TN x<|>Sm)
  (l:#[16]<|>Rv) (b:(X3 pos<|Uu es X.env).any (·.1)=η<|>Rv):PE X #[3]<|RD r t:=by
 intro aa s Z H Q I h;refine Yr<|tw I f c n ?_ k a;exact PyProof.Rows.callWith_builtin1 (bP (m pos aa s Z H _ I h) fun us i g=>jZ g fun vs H1 d r1 q1=>j aa i Z H1 vs us Q d r1 q1) l b
def Dw(j:bI X (.type T) r)(f:Gl X x)(c:X.mg x=U)(n:Vl x=J (.type T))(m:PA X (e::es) t)(k:#[27]<|>Sm)(a:TN x<|>Sm)
  (l:#[16]<|>Rv) (b:(X3 pos<|Uu es X.env).any (·.1)=η<|>Rv):PE X #[3]<|RD r t:=by
 intro aa s Z H Q I h;refine Yr<|tw I f c n ?_ k a;exact tL (bP (m pos aa s Z H _ I h) fun us i g=>jZ g fun vs H1 d r1 q1=>j aa i Z H1 vs us Q d r1 q1) l b
end
end L2
namespace HT
open PySem PyProof.Rows
section
variable{prog:Tc}{w:Sl}{A:Tx}{E:UB}{s:ID}
noncomputable def T5(n d:Nat):Option Int->Nat
 |none=>d
 |some v=>if v<0 then(v+(n:Int)).toNat else min v.toNat n
def rG(n d k:Nat):T5 n d (J (k:Int))=min k n:=by
 rfl
theorem G6(n d:Nat)(hd:d<=n)(o:Option Int):T5 n d o<=n:=by
 cases o with
 |none=>exact hd
 |some v=>
  show(if v<0 then(v+n).toNat else min v.toNat n)<=n
  lia
def So(v:Int)(n d:Nat):(if v<0 then max (v+(n:Int)) 0 else min v (n:Int))=((T5 n d (J v):Nat):Int):=by
 show(if v<0 then max (v+n) 0 else min v n)=(((if v<0 then(v+n).toNat else min v.toNat n)))
 grind
def afE(lo a:Option Int)(n:Nat):Builtin.Slice.sliceAdjust lo a 1 (n:Int)=(((T5 n 0 lo:Nat):Int),((T5 n n a:Nat):Int)):=by
 refine Prod.ext ?_ ?_
 .cases lo with
  |none=>rfl
  |some v=>exact So v n 0
 .cases a with
  |none=>rfl
  |some v=>exact So v n n
def afN(i j:Nat):Builtin.Slice.slicePlaces (i:Int) (j:Int) 1=j-i:=by
 unfold Builtin.Slice.slicePlaces
 lia
section
variable{prog:Tc}{w:Sl}{A:Around}{E:UB}{s:ID}
theorem v5(p:IsPart v o)(h:Q o s):wpAny (model prog w) A (Builtin.Slice.slicePartIndex v) Q E s:=by
 cases p with
 |none=>exact slicePart_none h
 |int i t=>exact slicePart_int h
end
section
variable{prog:Tc}{w:Sl}{A:Around}{E:UB}{s:ID}
def stk{lo a:Option Int}{n:Nat}(hs:s.heap.IsSliceOf sl vl vu .none)(pl:IsPart vl lo)(b:IsPart vu a)
  (h:Q (((T5 n 0 lo:Nat):Int),1,T5 n n a-T5 n 0 lo) s):wpAny (model prog w) A (Builtin.Slice.sliceApplied (.ref sl)<|pure (n:Int)) Q E s:=by
 obtain⟨os,hos,hcs,hds⟩:=id hs;refine wpAny_bind<|wpAny_bind<|wpAny_field hos hds rfl (wpAny_bind<|wpAny_field hos hds rfl (wpAny_bind<|wpAny_field hos hds rfl (wpAny_pure ?_)));refine wpAny_bind<|slicePart_none ?_;refine wpAny_bind<|v5 pl<|wpAny_bind<|v5 b<|wpAny_bind<|wpAny_pure ?_;show wpAny _ _ (match Builtin.Slice.sliceAdjust lo a 1 n with|(lo,a)=>pure (lo,(1:Int),Builtin.Slice.slicePlaces lo a 1)) _ _ s
 rw[afE lo a n];show wpAny _ _ (pure (((T5 n 0 lo):Int),1,Builtin.Slice.slicePlaces ((T5 n 0 lo)) ((T5 n n a)) 1)) _ _ s;rw[afN];exact wpAny_pure h
end
def agz(xs:Array nE)(i k:Nat):((e6 k).filterMap fun(m:Nat)=>xs[((i:Int)+(m:Int)*1).toNat]?).toArray=((xs.toList.drop i).take k).toArray:=by
 have e:(fun(m:Nat)=>xs[((i:Int)+m*1).toNat]?)=fun m=>xs[i+m]?:=by
  grind
 rw[e]
 have:=pick_run xs i k
 rw[List.filterMap_map]at this;have e2:((fun x=>xs[x]?)∘fun x=>i+x)=fun m=>xs[i+m]?:=rfl;rw[e2]at this;rw[this]
section
variable{prog:Tc}{w:Sl}{A:Around}{E:UB}{s:ID}
def acx{lo b:Option Int}(c:IsTup s.heap t items)(hs:s.heap.IsSliceOf sl vl vu .none)(pl:IsPart vl lo)(g:IsPart vu b)
  (hw:¬(T5 items.size 0 lo=0/\T5 items.size items.size b=items.size))
  (h:Q (.ref s.heap.objs.size) {s with heap:=s.heap.push {cls:=.type "tuple",data:=.seq ((items.toList.drop<|T5 items.size 0 lo).take<|T5 items.size items.size b-T5 items.size 0 lo).toArray}})
  (f:items.size<=sizeLine):wpAny (model prog w) A (getItem (.ref t)<|.ref sl) Q E s:=by
 have a:sizeOk<|.seq ((items.toList.drop<|T5 items.size 0 lo).take<|T5 items.size items.size b-T5 items.size 0 lo).toArray:=by
  show((items.toList.drop<|T5 items.size 0 lo).take<|T5 items.size items.size b-T5 items.size 0 lo).toArray.size<=sizeLine;rw[XC,List.length_take,vJ,Array.length_toList];omega
 have i:T5 items.size items.size b<=items.size:=G6 _ _ (mK _) b;obtain⟨os,hos,hcs,hds⟩:=id hs;have e:s.TypeIs (.ref sl) "slice":=⟨os,hos,hcs⟩;unfold getItem;try with_reducible refine wpAny_holding ?_
 first|refine wpAny_bind (wpAny_pure ?_)|skip
 refine wpAny_bind<|wpAny_sequenceKey c.typeIs ∎ ?_;refine wpAny_bind (wpAny_callSpecial?_slot (name:=lE "__getitem__") c.typeIs PyProof.Rows.slot_tuple_getitem
  (wpAny_call_entry PyProof.Rows.slot_tuple_getitem c.typeIs entry_tuple_getitem ?_ (args_tuple_getitem _ _)))
 show wpAny _ _ (Builtin.Tuple.tupleItemsOf (.ref t) >>= _) _ _ s;refine wpAny_bind<|tupleItemsOf_ c ?_;refine wpAny_bind<|wpAny_typeOf e ?_;rw[SI<|∎];refine wpAny_bind<|stk hs pl g ?_;have d:¬((((T5 items.size 0 lo:Nat):Int)==0&&(1:Int)==1&&(T5 items.size items.size b-T5 items.size 0 lo)==items.size)=G):=by
  intro q;rw[oR,oR]at q;have q1:((T5 items.size 0 lo:Nat):Int)=0:=eq_of_beq q.1.1;have q2:T5 items.size items.size b-T5 items.size 0 lo=items.size:=eq_of_beq q.2;exact hw ⟨⊥,(by omega)⟩
 show wpAny _ _ (if(((T5 items.size 0 lo:Nat):Int)==0&&(1:Int)==1&&(T5 items.size items.size b-T5 items.size 0 lo)==items.size)=G then _ else _) _ _ s;rw[SM d,agz]
 first
  |exact wpAny_bind (m:=Builtin.Tuple.tupleExact _) (wpAny_newObj_type (wpAny_pure ⟨_,rfl,wpAny_pure h⟩) a)
  |exact wpAny_bind (m:=Builtin.Tuple.tupleExact _) (wpAny_newObj_type (wpAny_bind<|wpAny_pure<|wpAny_pure ⟨_,rfl,wpAny_pure h⟩) a)
  |exact wpAny_bind (wpAny_bind (m:=Builtin.Tuple.tupleExact _)<|wpAny_newObj_type (wpAny_pure<|wpAny_pure ⟨_,rfl,wpAny_pure h⟩) a)
  |grind
end
end
end HT
namespace L2
open PySem PySem.Spec PyProof.Rows
abbrev TO:=St->Hp->(Option Int->Hp->Prop)->Prop
def PO(X:Cx)(e:Option Ry)(t:TO):Prop:=
 ∀(aa:TQ)(s:ID)(Z:St)(H:Hp)(Q:Option Int->Hp->Prop),Inv X aa Z H s->t Z H Q ->
  SN #[0] X.A (evalPart e X.env) (fun u s'=>∃o H',Inv X aa Z H' s'/\IsPart u o/\Q o H') X.xe s
def J2:TO:=fun _ H Q=>Q U H
section
variable{lo:Option Ry}
def V2(X:Cx)(r:V->Option Int->Option Int->Hp->VK->Prop):Prop:=
 ∀(aa:TQ)(s:ID)(Z:St)(H:Hp)(x:V)(v a c:nE)(lo b:Option Int)(d:SA)(Q:VK),Inv X aa Z H s->aP x v->s.heap.IsSliceOf d a c .none->IsPart a lo->IsPart c b->r x lo b H Q ->
  ∃T id,typeLookup (.type T) "__getitem__"=pure (J<|.builtin id)/\s.TypeIs v T/\SN #[0] X.A (e8 v<|.ref d) (EP X aa Z Q) X.xe s
section
variable{lo:Option Ry}
def V2.or(h:V2 X r)(h':V2 X r'):V2 X (fun x lo a H Q=>r x lo a H Q\/r' x lo a H Q):=by
 intro aa s Z H x v f b lo a d Q I c hs pl e q;rcases q with q|q
 .exact h aa s Z H x v f b lo a d Q I c hs pl e q
 .exact h' aa s Z H x v f b lo a d Q I c hs pl e q
end
def tSl(r:V->Option Int->Option Int->Hp->VK->Prop)(c:TE)(tl a:TO):TE:=fun Z H Q=>c Z H fun x H1=>tl Z H1 fun l b=>a Z b fun u d=>r x l u d Q
section
variable{lo:Option Ry}
def nT(xs:Se)(lo a:Option Int):Se:=(xs.drop<|HT.T5 xs.length 0 lo).take<|HT.T5 xs.length xs.length a-HT.T5 xs.length 0 lo
end
section
variable{lo:Option Ry}
def M1(xs:Se)(lo a:Option Int):(nT xs lo a).length<=xs.length:=by
 unfold nT
 simp;omega
end
section
variable{lo:Option Ry}
def VL(K:aT):V->Option Int->Option Int->Hp->VK->Prop:=fun x lo b H Q=>∃a xs,x=.ref a/\m7 K H a xs /\
 ¬(HT.T5 xs.length 0 lo=0/\HT.T5 xs.length xs.length b=xs.length)/\∀p,H p=U->Q (.ref p) (br H p<|.tup<|nT xs lo b)
end
section
variable{lo:Option Ry}
def ah5:V2 X<|VL X.K:=by
 intro aa s Z H x v k g lo d i Q I e hs pl f h;obtain⟨a,xs,rfl,hx,hw,q⟩:=h;cases e;obtain⟨aV,r,ht,hz⟩:=I.tuple hx;have c:aV.toArray.size=xs.length:=by exact r.length.symm
 refine⟨"tuple",_,PyProof.Rows.slot_tuple_getitem.lookup,ht.typeIs,?_⟩;refine HT.acx ht hs pl f (by rw[c];exact hw) ?_ (by grind);rw[c];refine⟨.ref s.heap.objs.size,_,I.laid (fun b j q=>iN _ q) (mK _) ?_,rfl,q _<|I.Su.fresh<|mK _⟩;exact⟨RW (M1 xs lo d) hz,_,(r.drop<|HT.T5 xs.length 0 lo).take<|HT.T5 xs.length xs.length d-HT.T5 xs.length 0 lo,IsTup.new _ _⟩
end
end
noncomputable def C5(n:Nat)(i:Int):Option Nat:=if 0<=i then(if i<n then J i.toNat else U)else if -(n:Int)<=i then J (i+n).toNat else U
def Uq{α:Type}(xs:List α)(i:Int):Option α:=(C5 xs.length i).bind fun j=>xs[j]?
def Br(h:C5 n i=J j):seqIndex? i n=J j/\j<n/\-(n:Int)<=i/\i<n:=by
 delta C5 at h;by_cases a:0<=i
 .rw[SI a]at h;by_cases h1:i<n
  .rw[SI h1]at h;have e  := zB h;exact⟨by rw[seqIndex_of a h1,e],⊥,⊥,h1⟩
  mright
 .rw[SM a]at h;by_cases h1:-n<=i
  .rw[SI h1]at h;have e  := zB h;exact⟨by rw[seqIndex_neg #[28] h1,e],⊥,h1,⊥⟩
  mright
theorem xl{xs:List α}{v:α}(h:Uq xs i=J v):∃j,seqIndex? i xs.length=J j/\xs[j]?=J v/\j<xs.length/\-(xs.length:Int)<=i/\i<xs.length:=by
 delta Uq at h;cases e:C5 xs.length i with
 |none=>rw[e]at h;nofun
 |some j=>
  rw[e]at h;obtain⟨h1,h2,h3,h4⟩:=Br e
  exact⟨j,h1,h,h2,h3,h4⟩
def xu{xs:List α}{j:Nat}{v:α}(h:xs[j]?=J v):Uq xs (j:Int)=J v:=by
 have hj  := (rW.mp h).1;have e:C5 xs.length j=J j:=by
  delta C5;mright
 delta Uq;rw[e];exact h
def rh(b:Ry):Prop:=∀o i,subscripted b η o i=operate [o,i] (e8 o i)
def DX(X:Cx)(r:UL):Prop:=
 ∀(value a:Ry)(aa:TQ)(s:ID)(Z:St)(H:Hp)(x y:V)(v u:nE)(Q:VK),Inv X aa Z H s->aP x v->aP y u->r x y H Q ->
  subscripted a η v u=operate [v,u] (e8 v u)->SN #[0] X.A (subscriptTail value a v u) (EP X aa Z Q) X.xe s
def VG(X:Cx)(id:String)(r:V->Se->Hp->VK->Prop):Prop:=
 ∀(aa:TQ)(s:ID)(Z:St)(H:Hp)(x:V)(xs:Se)(v:nE)(us:TK)(Q:VK),Inv X aa Z H s->aP x v->aU xs us->r x xs H Q ->
  SN #[0] X.A (call (.builtin id)<|v::us) (EP X aa Z Q) X.xe s
section
variable{X:Cx}{a b:Ry}{ta tb:TE}{pos:Pos}
def DX.or(h:DX X r)(h':DX X r'):DX X (fun x y H Q=>r x y H Q\/r' x y H Q):=by
 intro value a aa s Z H x y v u Q I c b q hs;rcases q with q|q
 .exact h value a aa s Z H x y v u Q I c b q hs
 .exact h' value a aa s Z H x y v u Q I c b q hs
def U6(K:aT):UL:=fun x y H Q=>∃p xs i v,x=.ref p/\y=.int i/\gr K H p xs/\Uq xs i=J v/\Q v H
def U8(K:aT):UL:=fun x y H Q=>∃p xs i v,x=.ref p/\y=.int i/\m7 K H p xs/\Uq xs i=J v/\Q v H
def nox:UL:=fun x y H Q=>∃z i c,x=.str z/\y=.int i/\z.length<=Ta/\Uq z.cps.toList i=J c/\Q (.str ⟨#[c]⟩) H
def LM:DX X<|U6 X.K:=by
 intro value a aa s Z H x y v u Q I f e h hs;left;obtain⟨p,xs,i,z,rfl,rfl,c,d,q⟩:=h;subst f;obtain⟨t,rfl⟩:=e;obtain⟨aV,r,pl,hz⟩:=I.list c
 refine gS (xl d) fun j h1 h2 o l n=>?_
 obtain⟨w,ew,rw'⟩:=r.get h2
 have k:=r.length;have g:=pM;have fin:EP X aa Z Q w s:=⟨z,H,I,rw',q⟩;by_cases b:0<=i
 .right;have m  := by
   rw[seqIndex_of b n]at h1;exact zB h1
  exact item_listR pl.isList b ⊥ #[28] fin hs
 .right;have m:(i+aV.toArray.size).toNat=j:=by
   rw[seqIndex_neg ⊥ l]at h1
   mright
  exact subscriptTail_builtinR pl.isList.typeIs slot_list_getitem.lookup
   (wpAny_getItem_list_neg pl.isList ⊥ #[28] ⊥ #[28] ⟨rfl,fin⟩) hs
def Qj:DX X<|U8 X.K:=by
 intro value a aa s Z H x y v u Q I e d h hs;left;obtain⟨p,xs,i,z,rfl,rfl,b,c,q⟩:=h;subst e;obtain⟨t,rfl⟩:=d;obtain⟨aV,r,pl,hz⟩:=I.tuple b
 refine gS (xl c) fun j h1 h2 l k m=>?_
 obtain⟨w,ew,rw'⟩:=r.get h2
 right;have g:=r.length;have f:=pM;have fin:EP X aa Z Q w s:=⟨z,H,I,rw',q⟩;exact subscriptTail_builtinR pl.typeIs slot_tuple_getitem.lookup
  (getItem_tuple (j:=j) pl ⊥ ⊥ #[28] (by simpa using ew) ⟨rfl,fin⟩) hs
def rIx(K:aT):UL:=fun x y H Q=>U6 K x y H Q\/U8 K x y H Q\/nox x y H Q
def afI(aV:TK)(n j:Nat)(u:nE):Obj.mapSeq (·.setIfInBounds j u) {cls:=.type "list",data:=.seq aV.toArray n}={cls:=.type "list",data:=.seq (aV.set j u).toArray n}:=by
 simp[Obj.mapSeq]
section
variable{X:Cx}{a b:Ry}{ta tb:TE}{pos:Pos}
def Inv.lst{aa:List<|SA×Obj}{Z:St}{H:Hp}{s:ID}{p:SA}{xs:Se}(I:Inv X aa Z H s)(h:H p=J (.lst xs)):
  ∃(aV:TK)(n:Nat),aU xs aV/\s.heap.get? p=J {cls:=.type "list",data:=.seq aV.toArray n}/\xs.length<=sizeLine:=by
 obtain⟨z,aV,n,r,e⟩:=I.Su p _ h;exact⟨aV,n,r,e,z⟩
end
section
variable{X:Cx}{a b:Ry}{ta tb:TE}{pos:Pos}
def Inv.exf{aa:List<|SA×Obj}{Z:St}{H:Hp}{s:ID}{p:SA}{xs ys:Se}{aV its':TK}{n a:Nat}{f:Obj->Obj}(I:Inv X aa Z H s)(h:H p=J (.lst xs))
  (g:s.heap.get? p=J {cls:=.type "list",data:=.seq aV.toArray n}) (c:f {cls:=.type "list",data:=.seq aV.toArray n}={cls:=.type "list",data:=.seq its'.toArray a}) (r:aU ys its') (i:ys.length<=sizeLine) (t:Nat) (j:X.tn<=t:=by walk_at "tok"):
  Inv X aa Z (br H p<|.lst ys) {s with heap:=s.heap.update p f,toks:=t}:=by
 have e:(s.heap.update p f).get? p=J {cls:=.type "list",data:=.seq its'.toArray a}:=by
  rw[mR f g<|by rw[c]<;>rfl,c]
 refine I.write (x:=p) (e:=p) (by rw[h];trivial) (.inl rfl) (fun b u d q=>(hY _ _<|Vn d).trans q) ⟨_,e⟩ ?_;exact⟨i,its',a,r,e⟩
end
def ai3:V->V->V->Hp->(Hp->Prop)->Prop:=fun o i v H Q=>∃p xs k j,o=.ref p/\i=.int k/\H p=J (.lst xs)/\C5 xs.length k=J j/\Q (br H p<|.lst<|xs.set j v)
section
variable{X:Cx}{a b:Ry}{ta tb:TE}{pos:Pos}
def set_list:E8 X ai3:=by
 intro aa s Z H o i v m g u Q I a b f h;obtain⟨p,xs,k,j,rfl,rfl,hp,hj,q⟩:=h;cases a;obtain⟨t,rfl⟩:=b;obtain⟨aV,n,r,ho,hz⟩:=I.lst hp;obtain⟨h1,h2,h3,h4⟩:=Br hj;have c:=r.length;have l:=pM;have d:Inv X aa Z (br H p<|.lst<|xs.set j v) {s with heap:=s.heap.update p<|Obj.mapSeq (·.setIfInBounds j u)}:=
  I.exf hp ho (afI aV n j u) (r.set f j) (by rw[List.length_set];exact hz) s.toks
 by_cases e:0<=k
 .have hk:k.toNat=j:=by
   rw[seqIndex_of e h4]at h1;exact zB h1
  exact PySem.W.ki_setAt ho e ⊥ (by rw[XC,<-c];exact h4) (by rw[hk];exact⟨_,d,q⟩)
 .have hk:(k+(aV.toArray.size:Int)).toNat=j:=by
   rw[seqIndex_neg ⊥ h3]at h1;rw[XC,<-c];exact zB h1
  exact PySem.W.ki_setBack ho ⊥ (by rw[XC,<-c];exact h3) ⊥ (by rw[hk];exact⟨_,d,q⟩)
end
def OP:DX X<|rIx X.K:=LM.or (Qj.or (by
  intro value a aa s Z H x y v u Q I e d h hs;left;obtain⟨z,i,c,rfl,rfl,f,b,q⟩:=h;obtain⟨t,rfl⟩:=e;obtain⟨t',rfl⟩:=d;refine gS (xl b) fun j h1 h2 m l n=>?_
  right;have k:z.cps.toList.length=z.length:=by rfl
  have g:=pM;exact tail_any (typeIs_str s z t) slot_str_getitem.lookup (getItem_str (by
   lia) #[28] ⟨.str ⟨#[c]⟩,H,I.tok _,⟨_,rfl⟩,q⟩) hs))
def ic:V->Bool
 |.S9=>G
 |.bl _=>G
 |.int _=>G
 |.str _=>G
 |_=>η
noncomputable def Mj:V->V->Bool
 |.S9,.S9=>G
 |.bl a,.bl b=>a==b
 |.bl a,.int b=>(if a then 1 else 0)==b
 |.int a,.bl b=>a==(if b then 1 else 0)
 |.int a,.int b=>a==b
 |.str a,.str b=>a==b
 |_,_=>η
theorem QK(d:aP y u)(c:aP x v)(f:ic y=G)(e:ic x=G):SeqAt.EqAt A s u v<|Mj y x:=by
 cases y with
 |S9=>
  cases d;cases x with
  |S9=>subst c;exact SE _
  |bl b=>subst c;exact SeqAt.EqAt.none_bool b
  |int b=>obtain⟨t,rfl⟩:=c;exact QS b t
  |str b=>obtain⟨t,rfl⟩:=c;exact QX b t
  |_=>exact absurd (show η=G from e) MK
 |bl a=>
  subst d;cases x with
  |S9=>subst c;exact SeqAt.EqAt.bool_none a
  |bl b=>subst c;exact SeqAt.EqAt.bool_bool a b
  |int b=>obtain⟨t,rfl⟩:=c;exact SeqAt.EqAt.bool_int a b t
  |str b=>obtain⟨t,rfl⟩:=c;exact SeqAt.EqAt.bool_str a b t
  |_=>exact absurd (show η=G from e) MK
 |int a=>
  obtain⟨t',rfl⟩:=d;cases x with
  |S9=>subst c;exact QH a t'
  |bl b=>subst c;exact SeqAt.EqAt.int_bool a t' b
  |int b=>obtain⟨t,rfl⟩:=c;exact SeqAt.EqAt.int_int a t' b t
  |str b=>obtain⟨t,rfl⟩:=c;exact NA a t' b t
  |_=>exact absurd (show η=G from e) MK
 |str a=>
  obtain⟨t',rfl⟩:=d;cases x with
  |S9=>subst c;exact QI a t'
  |bl b=>subst c;exact SeqAt.EqAt.str_bool a t' b
  |int b=>obtain⟨t,rfl⟩:=c;exact NG a t' b t
  |str b=>obtain⟨t,rfl⟩:=c;exact SeqAt.EqAt.str_str a t' b t
  |_=>exact absurd ((e)) MK
 |_=>exact absurd ((f)) MK
def AJ(x:V)(u:nE):Bool:=match u with
 |.none=>Mj .S9 x
 |.bool b=>Mj (.bl b) x
 |.int i _=>Mj (.int i) x
 |.str z _=>Mj (.str z) x
 |_=>η
theorem Jd(r:aP y u)(f:ic y=G):AJ x u=Mj y x:=by
 cases y with
 |S9=>subst r;rfl
 |bl b=>subst r;rfl
 |int i=>obtain⟨t,rfl⟩:=r;rfl
 |str z=>obtain⟨t,rfl⟩:=r;rfl
 |_=>exact absurd ((f)) MK
theorem nQ:∀{xs:Se}{us:TK},aU xs us->xs.all ic=G->us.any (AJ x)=xs.any fun y=>Mj y x
 |_,_,.nil,_=>rfl
 |y::xs,u::us,.cons r t,f=>by
  rw[Vg,oR]at f;rw[Bp,Bp,Jd r f.1,nQ t f.2]
theorem kt(b:aP x v)(c:ic x=G):∀{xs:Se}{us:TK},aU xs us->xs.all ic=G->∀u∈us,SeqAt.EqAt A s u v (AJ x u)
 |_,_,.nil,_=>fun u a=>by cases a
 |y::xs,u::us,.cons r t,f=>fun d a=>by
  rw[Vg,oR]at f;rcases eQ.mp a with rfl|a
  .rw[Jd r f.1];exact QK r b f.1 c
  .exact kt b c t f.2 d a
def Eh(x:V)(xs:Se):Bool:=xs.any fun y=>Mj y x
def Z3(K:aT)(a:Bool):UL:=fun x y H Q=>∃p xs,y=.ref p/\(gr K H p xs\/m7 K H p xs)/\ic x=G/\xs.all ic=G/\Q (.bl<|if a then !Eh x xs else Eh x xs) H
def Dh:eJ X (UI .In)<|Z3 X.K η:=by
 intro aa s Z H x y v u Q I c e h;refine y2 h fun p xs f a b fs q=>?_;subst f;subst e;rcases a with a|a
 .obtain⟨aV,r,pl,d⟩:=I.list a
  refine SeqAt.in_listAt (AJ x) pl.isList (fun w hw=>kt c b r fs w<|by simpa using hw) ⟨.bl _,H,I,rfl,?_⟩;rw[show aV.toArray.any (AJ x)=aV.any (AJ x) by simp,nQ r fs];exact q
 .obtain⟨aV,r,pl,d⟩:=I.tuple a;refine SeqAt.in_tupleAt (AJ x) pl (fun w hw=>kt c b r fs w<|by simpa using hw) ⟨.bl _,H,I,rfl,?_⟩;rw[show aV.toArray.any (AJ x)=aV.any (AJ x) by simp,nQ r fs];exact q
def wn:eJ X (UI .NotIn)<|Z3 X.K G:=by
 intro aa s Z H x y v u Q I c e h;refine y2 h fun p xs f a b fs q=>?_;subst f;subst e;rcases a with a|a
 .obtain⟨aV,r,pl,d⟩:=I.list a
  refine SeqAt.notIn_listAt (AJ x) pl.isList (fun w hw=>kt c b r fs w<|by simpa using hw) ⟨.bl _,H,I,rfl,?_⟩;rw[show aV.toArray.any (AJ x)=aV.any (AJ x) by simp,nQ r fs];exact q
 .obtain⟨aV,r,pl,d⟩:=I.tuple a;refine SeqAt.notIn_tupleAt (AJ x) pl (fun w hw=>kt c b r fs w<|by simpa using hw) ⟨.bl _,H,I,rfl,?_⟩;rw[show aV.toArray.any (AJ x)=aV.any (AJ x) by simp,nQ r fs];exact q
def abR:bI X (.builtin "len") (fun xs H Q=>∃p ys,xs=[.ref p]/\(gr X.K H p ys\/m7 X.K H p ys)/\Q (.int ys.length) H):=by
 intro aa s Z H xs us Q I r h;obtain⟨p,ys,rfl,b,q⟩:=h;obtain⟨u,rfl,c⟩:=jV r;subst c;have d:=pM;rcases b with b|b
 .obtain⟨aV,r',pl,hz⟩:=I.list b
  have a:=r'.length;exact Calls.call_len_list pl.isList (by simp only[XC]<;>lia) ⟨.int ys.length,H,I.tok _,⟨s.toks+1,by mright⟩,q⟩
 .obtain⟨aV,r',pl,hz⟩:=I.tuple b
  have a:=r'.length;exact len_tuple pl (by simp only[XC]<;>lia) ⟨.int ys.length,H,I.tok _,⟨s.toks+1,by mright⟩,q⟩
def Spl:bI X (.builtin "len") (fun xs H Q=>∃z,xs=[.str z]/\z.length<=Ta/\Q (.int z.length) H):=by
 intro aa s Z H xs us Q I r h;obtain⟨z,rfl,a,q⟩:=h;obtain⟨u,rfl,t,rfl⟩:=jV r;have b:=pM;exact len_str ⊥ ⟨.int z.length,H,I.tok _,⟨_,rfl⟩,q⟩
def bI.or(h:bI X f r)(h':bI X f r'):bI X f (fun xs H Q=>r xs H Q\/r' xs H Q):=by
 intro aa s Z H xs us Q I rs q;rcases q with q|q
 .exact h aa s Z H xs us Q I rs q
 .exact h' aa s Z H xs us Q I rs q
def acV:bI X (.type "tuple") (fun xs H Q=>∃p ys,xs=[.ref p]/\((gr X.K H p ys/\∀l,H l=U->Q (.ref l) (br H l<|.tup ys))\/(m7 X.K H p ys/\Q (.ref p) H))):=by
 intro aa s Z H xs us Q I r h;obtain⟨p,ys,rfl,h⟩:=h;obtain⟨u,rfl,g⟩:=jV r;subst g;rcases h with⟨a,q⟩|⟨a,q⟩
 .obtain⟨aV,r',pl,hz⟩:=I.list a
  have c:=r'.length;refine call_tuple_list pl.isList (fun h' f=>?_) #[28];have I1  := I.kept f;have d:Inv X aa Z (br H h'.objs.size<|.tup ys) {s with heap:=h'.push {cls:=.type "tuple",data:=.seq aV.toArray}}:=
   I1.laid (fun b o e=>iN _ e) (mK _) ((⟨hz,aV,r',IsTup.new _ _⟩))
  exact⟨.ref h'.objs.size,_,d,rfl,q _<|I1.Su.fresh<|mK _⟩
 .obtain⟨aV,r',pl,hz⟩:=I.tuple a
  exact call_tuple_same pl ⟨.ref p,H,I,rfl,q⟩
def KU(K:aT)(T:String)(x:V)(H:Hp):Prop:=match x with
 |.str _=>T="str"
 |.int _=>T="int"
 | .ref p=>(T="list"/\∃ xs,gr K H p xs)\/(T="tuple"/\∃ o,K.lookup p=J o/\o.cls=.type "tuple"/\o.dict=U) \/
   (T="dict"/\((∃a,H p=J (.dK a))\/∃a,H p=J (.dT a)))\/(T="set"/\∃S n,H p=J (.set S n))
 |_=>False
theorem Fo{Z:St}(I:Inv X aa Z H s)(r:aP x v)(d:KU X.K T x H):
  s.TypeIs v T/\∀a,v=.ref a->∃h,s.heap.get? a=J h/\h.dict=U:=by
 cases x with
 |str z=>
  obtain⟨t,rfl⟩:=r;cases((d));exact⟨typeIs_str s z t,fun _ e=>nomatch e⟩
 |int i=>
  obtain⟨t,rfl⟩:=r;cases((d));exact⟨typeIs_int s i t,fun _ e=>nomatch e⟩
 |ref p=>
  subst r;rcases d with⟨rfl,xs,j⟩|⟨rfl,o,b,k,hd⟩|⟨rfl,b⟩|⟨rfl,S,n,b⟩
  .obtain⟨aV,_,pl,_⟩:=I.list j
   refine⟨pl.isList.typeIs,fun a e=>?_⟩;cases e;refine US pl fun o n e c hd _=>?_
   exact⟨o,e,hd⟩
  .refine⟨⟨o,I.U3 p o b,k⟩,fun a e=>?_⟩;cases e;exact⟨o,I.U3 _ o b,hd⟩
  .have z:∃o,s.heap.get? p=J o/\o.ExactDict:=by
    rcases b with⟨f,b⟩|⟨f,b⟩
    .obtain⟨_,_,_,_,o,_,_,e,ex,_⟩:=I.Su p _ b;exact⟨o,e,ex⟩
    .obtain⟨_,_,_,_,o,_,_,e,ex,_⟩:=I.Su p _ b;exact⟨o,e,ex⟩
   obtain⟨o,e,ex⟩:=z
   refine⟨⟨o,e,ex.1⟩,fun a g=>?_⟩;cases g;exact⟨o,e,ex.2.1⟩
  .obtain⟨o,_,_,_,e,ex,_⟩:=I.Su p _ b;refine⟨⟨o,e,ex.1⟩,fun a g=>?_⟩;cases g;exact⟨o,e,ex.2.1⟩
 |_=>exact Wf d
def T4(K:aT)(T:String)(r:V->Se->Hp->VK->Prop)(a:TE):TE:=fun Z H Q=>a Z H fun x H1=>KU K T x H1/\r x [] H1 Q
def Yd(K:aT)(T:String)(r:V->Se->Hp->VK->Prop)(a:TE)(t:TA):TE:=fun Z H Q=>a Z H fun x H1=>KU K T x H1/\t Z H1 fun xs b=>r x xs b Q
variable{apos cpos:Pos}{id:String}
def Rm(e:PlainAttrs T)(c:Slot T name id)(d:typeOf (.builtin id)=pure (.type "method_descriptor"))(g:VG X id r)(f:PE X o to)
  (a:#[13]<|>Rv) (b:#[6]=G<|>Rv):PE X (.Call (.Attribute o name apos) [] [] cpos)<|T4 X.K T r to:=by
 intro aa s Z H Q I h;refine wpAny_Call_method0_late a b<|bP (f aa s Z H _ I h) ?_;intro v s1 q0_;refine US q0_ fun x H1 I1 r1 ty q1=>?_;let⟨h1,h2⟩:=Fo I1 r1 ty
 exact⟨T,id,e,c,d,h1,h2,rN rfl (aex<|g aa s1 Z H1 x [] v [] Q I1 r1 .nil q1)⟩
def afw(n:PlainAttrs T)(c:Slot T name id)(g:typeOf (.builtin id)=pure (.type "method_descriptor"))(j:VG X id r)(p:PE X o to)(q:PA X (e::es) t)
  (b:#[13]<|>Rv)
  (d:((X3 cpos<|Uu (e::es) X.env).all (fun x=>!x.1)&&(backToKw cpos<|jh [] X.env).all (fun x=>x.1.isSome)
   && decide ((e::es).length+([]:List zS).length+(if([]:List zS).isEmpty then 0 else 1)<30))=G:=by rfl)
  (a:#[6]=G<|>Rv) (hs:#[16]<|>Rv) (f:(X3 cpos<|Uu es X.env).any (·.1)=η<|>Rv):
  PE X #[24] (Yd X.K T r to t):=by
 intro aa s Z H Q I h;refine wpAny_Call_method_late b d a rfl (bP (p aa s Z H _ I h) fun v z A=>US A fun x H1 w r1 y q1=>?_);obtain⟨h1,h2⟩:=Fo w r1 y
 refine⟨T,id,n,c,g,h1,h2,?_⟩;have i:=q cpos aa z Z H1 _ w q1;rw[hs]at i⊢;refine rN ⊤<|sE ?_;exact bP i fun us u k=>jZ k fun vs m l r2 q2=>j aa u Z m x vs v us Q l r1 r2 q2
end
theorem aU.one:∀{x:V}{us:TK},aU [x] us->∃u,us=[u]/\aP x u:=fun h=>by
 cases h with
 |cons r t=>cases t;exact⟨_,rfl,r⟩
theorem aU.zero:∀{us:TK},aU [] us->us=[]
 |_,.nil=>rfl
theorem aU.dropLast(h:aU xs us):aU xs.dropLast us.dropLast:=by
 induction h with
 |nil=>exact .nil
 |cons r t a=>
  cases t with
  |nil=>exact .nil
  |cons q t'=>exact .cons r a
theorem aU.eraseIdx:∀{xs:Se}{us:TK}(i:Nat),aU xs us->aU (xs.eraseIdx i) (us.eraseIdx i)
 |_,_,_,.nil=>.nil
 |_,_,0,.cons _ t=>t
 |_,_,i+1,.cons r t=>.cons r<|aU.eraseIdx i t
theorem uI{α:Type}:∀(l:List α)(i:Nat),(l.eraseIdx i).length<=l.length
 |[],_=>mK _
 |_::_,0=>Nat.le_succ _
 |_::r,i+1=>yD<|uI r i
section
variable{Z:St}
def Inv.Gw{aV its':TK}(I:Inv X aa Z H s)(d:H l=J (.lst xs))
  (e:s.heap.get? l=J {cls:=.type "list",data:=.seq aV.toArray n}) (a:f aV.toArray=its'.toArray) (c:aU ys its') (g:ys.length<=Ta) (i:X.tn<=t'<|>XW):
  Inv X aa Z (br H l<|.lst ys) {s with heap:=s.heap.update l<|Obj.mapSeq f,toks:=t'}:=by
 have q:=PySem.IsL.update e f;rw[a]at q;refine I.write (by rw[d];exact trivial) (.inl rfl) (fun j u h b=>(hY s.heap (Obj.mapSeq f)<|Vn h).trans b) ⟨_,q⟩ ?_;exact⟨g,its',_,c,q⟩
section
variable{Z:St}
def Inv.ex0(I:Inv X aa Z H s)(a:aU ys aV)(b:ys.length<=sizeLine)(c:X.tn<=t':=by walk_at "tok"):
  Inv X aa Z (br H s.heap.objs.size<|.lst ys) {s with heap:=s.heap.push {cls:=.type "list",data:=.seq aV.toArray},toks:=t'}:=
 I.laid (fun _ _ q=>iN _ q) (mK _) ⟨b,aV,0,a,Vh _ rfl⟩
end
section
variable{Z:St}
def Inv.fresh(I:Inv X aa Z H s):H s.heap.objs.size=U:=I.Su.fresh<|mK _
end
def Inv.Gx(I:Inv X aa Z H s)(a:H l=J (.lst xs)):xs.length<=Ta/\∃(aV:TK)(n:Nat),aU xs aV/\xs.length=aV.length/\s.heap.get? l=J {cls:=.type "list",data:=.seq aV.toArray n}:=by
 obtain⟨z,aV,n,r,e⟩:=I.Su l _ a;exact⟨z,aV,n,r,r.length,e⟩
end
section
def nj:V->Se->Hp->VK->Prop:=fun x vs H Q=>∃l xs y,x=.ref l/\vs=[y]/\H l=J (.lst xs)/\xs.length<Ta/\Q .S9 (br H l<|.lst<|xs++[y])
def gq:VG X "list.append" nj:=by
 intro aa s Z H x vs v us Q I c b h;left;obtain⟨l,xs,y,rfl,rfl,a,d,q⟩:=h;subst c;obtain⟨u,rfl,ru⟩:=b.one;obtain⟨z,aV,n,r,hl,e⟩:=I.Gx a
 right;refine call_meets F.slot_list_append ⟨_,e,rfl⟩ F.entry_list_append (F.args_list_append_2 _ _) (PySem.list_append l aV.toArray n u<|by mright) ⟨e,?_⟩;refine⟨.S9,_,I.Gw a e ∅ (r.append<|.cons ru .nil) ?_,rfl,q⟩
 grind
def Pi:V->Se->Hp->VK->Prop:=fun x vs H Q=>∃l xs y,x=.ref l/\vs=[]/\H l=J (.lst xs)/\xs[xs.length-1]?=J y/\Q y (br H l<|.lst xs.dropLast)
def wN:VG X "list.pop" Pi:=by
 intro aa s Z H x vs v us Q I g f h;left;obtain⟨l,xs,y,rfl,rfl,c,d,q⟩:=h;subst g;have a:=f.zero;subst a;obtain⟨z,aV,n,r,hl,e⟩:=I.Gx c
 obtain⟨u,hu,ru⟩:=r.get d
 right;have b:aV.toArray[aV.toArray.size-1]?=J u:=by
  mright
 refine call_meets F.slot_list_pop ⟨_,e,rfl⟩ F.entry_list_pop (F.args_list_pop_1 _) (MeetsSeq.list_pop_last l aV.toArray n u b<|by mright) ⟨e,?_⟩;refine⟨y,_,I.Gw c e ?_ r.dropLast ?_,ru,q⟩
 .simp
 grind
def GV:V->Se->Hp->VK->Prop:=fun x vs H Q=>∃l xs i k y,x=.ref l/\vs=[.int i]/\H l=J (.lst xs)/\-(2^63)<=i/\i<2^63/\seqIndex? i xs.length=J k/\xs[k]?=J y/\Q y (br H l<|.lst<|xs.eraseIdx k)
def Hf:VG X "list.pop" GV:=by
 intro aa s Z H x vs v us Q I j d h;left;obtain⟨l,xs,i,k,y,rfl,rfl,b,h1,h2,f,c,q⟩:=h;subst j;obtain⟨u,rfl,ru⟩:=d.one;obtain⟨t,rfl⟩:=ru;obtain⟨z,aV,n,r,g,e⟩:=I.Gx b;obtain⟨w,hw,a⟩:=r.get c;right;refine call_meets F.slot_list_pop ⟨_,e,rfl⟩ F.entry_list_pop (F.args_list_pop_2 _ _)
  (MeetsSeq.list_pop_at l aV.toArray n i t k w (fitsIndex_both h1 h2) (by rw[XC,<-g];exact f) (by rw[<-Array.getElem?_toList];exact hw)<|by rw[XC];mright) ⟨e,?_⟩
 refine⟨y,_,I.Gw (its':=aV.eraseIdx k) b e ?_ (r.eraseIdx k) ?_,a,q⟩
 .show aV.toArray.eraseIdxIfInBounds k=(aV.eraseIdx k).toArray;rw[List.eraseIdxIfInBounds_toArray]
 .have:=uI xs k
  lia
end
section
set_option maxRecDepth 100000 in
end
section
variable{κ:Type}[DecidableEq κ]
noncomputable def gN(a:List<|κ×V)(k:κ):Option V:=(a.find? fun kv=>decide (kv.1=k)).map (·.2)
noncomputable def tf(a:List<|κ×V)(k:κ)(v:V):List<|κ×V:=
 if(a.any fun kv=>decide (kv.1=k))=G then a.map (fun kv=>if kv.1=k then(kv.1,v)else kv)else a++[(k,v)]
def cQ{p:κ×V}{r:List<|κ×V}{k:κ}(e:p.1=k):gN (p::r) k=J p.2:=by simp[gN,vD,e]
def cK{p:κ×V}(e:¬p.1=k):gN (p::r) k=gN r k:=by simp[gN,vD,e]
def sQ(k:κ):∀kvs:List<|κ×V,(kvs.any fun kv=>decide (kv.1=k))=(gN kvs k).isSome:=TB (rfl) fun p r i_=>by
  rw[Bp];by_cases e:p.1=k
  .rw[cQ e,Th e,Bool.true_or,Option.isSome_some]
  .rw[cK e,TU e];exact i_
def acL(k j:κ)(y:V):∀kvs:List<|κ×V,gN (kvs.map fun kv=>if kv.1=k then(kv.1,y)else kv) j=(gN kvs j).map fun x=>if j=k then y else x:=TB (rfl) fun p r i_=>by
  have a:=i_;rw[Xp];by_cases h:p.1=k
  .rw[SI h];by_cases e:p.1=j
   .rw[cQ (p:=(p.1,y)) e,cQ e,iM,SI<|e.symm.trans h]
   .rw[cK (p:=(p.1,y)) e,cK e,a]
  .rw[SM h];by_cases e:p.1=j
   .rw[cQ (p:=p) e,cQ e,iM,SM fun z=>h<|e.trans z]
   .rw[cK (p:=p) e,cK e,a]
def abv(k j:κ)(y:V):∀kvs:List<|κ×V,gN kvs k=U->gN (kvs++[(k,y)]) j=if j=k then J y else gN kvs j:=TB (fun _=>by
  by_cases e:k=j
  .rw[SI e.symm];exact cQ (p:=(k,y)) e
  .rw[SM fun z=>e z.symm];exact cK (p:=(k,y)) e) fun p r i_ hn=>by
  rw[yG];have a:¬p.1=k:=fun z=>by rw[cQ z]at hn;cases hn
  rw[cK a]at hn;have b:=i_ hn;by_cases e:p.1=j
  .rw[cQ e,cQ e,SM fun z=>a<|e.trans z]
  .rw[cK e,cK e,b]
def yk(b:List<|κ×V)(k j:κ)(y:V):gN (tf b k y) j=if j=k then J y else gN b j:=by
 delta tf;by_cases a:(b.any fun kv=>decide (kv.1=k))=G
 .rw[SI a,acL];rw[sQ]at a;by_cases e:j=k
  .obtain⟨x,c⟩:=tq.mp a;rw[SI e,e,c,iM,SI rfl]
  .rw[SM e];cases gN b j with
   |none=>rfl
   |some x=>rw[iM,SM e]
 .rw[SM a];refine abv k j y b ?_;rw[sQ]at a;cases q:gN b k with
  |none=>rfl
  |some x=>rw[q]at a;exact(a rfl).elim
def exn(a:List<|κ×V)(k:κ)(v:V):(tf a k v).length<=a.length+1:=by
 delta tf
 grind
theorem KV.val(r:KV kvs vs)(k:κ):pE (gN kvs k)<|valueAt vs k:=by
 induction r with
 |nil=>exact Uy
 |@cons p q ps qs h t ih=>
  obtain⟨h1,h2⟩:=h
  by_cases e:p.1=k
  .have e'  := h1.symm.trans e;have b:valueAt (q::qs) k=J q.2:=by simp[valueAt,vD,e']
   rw[cQ e,b];exact h2
  .have e':¬q.1=k:=fun z=>e<|h1.trans z;have b:valueAt (q::qs) k=valueAt qs k:=by simp[valueAt,vD,e']
   rw[cK e,b];exact ih
theorem KV.any(r:KV kvs vs)(k:κ):(kvs.any fun kv=>decide (kv.1=k))=vs.any fun kv=>decide (kv.1=k):=by
 induction r with
 |nil=>rfl
 |cons h t a=>mright
theorem KV.Z56(r:KV kvs vs)(k:κ)(a:aP y u):
  KV (kvs.map fun kv=>if kv.1=k then(kv.1,y)else kv) (vs.map fun kv=>if kv.1=k then(kv.1,u)else kv):=by
 induction r with
 |nil=>exact .nil
 |@cons p q ps qs h t ih=>
  refine .cons ?_ ih;by_cases e:p.1=k
  .mright
  mright
def KV.put(r:KV kvs vs)(k:κ)(a:aP y u):KV (tf kvs k y)<|stored vs k u:=by
 delta tf stored;rw[r.any k];by_cases e:(vs.any fun kv=>decide (kv.1=k))=G
 .rw[SI e,SI e];exact r.Z56 k a
 .rw[SM e,SM e];exact Paired.snoc r ⟨rfl,a⟩
end
theorem HR(r:aP (kV k) u):(dE P w).is k u=G:=by
 cases k with
 |inl i=>obtain⟨t,e⟩:=((r));subst e;exact(DJ i t)
 |inr x=>obtain⟨t,e⟩:=((r));subst e;exact(D5 x t)
 |nn=>have e  := r;subst e;rfl
def ae1:∀{a:List Key}{us:TK},aU (a.map kV) us->ItemsAre (dE P w) a us:=@TB _ _ (@fun _ r=>by cases r;exact .nil) fun k a i_=>@fun _ r=>by
  cases r with
  |cons h t=>exact .cons (HR h)<|i_ t
abbrev KT(H:Hp):List (List Key×V)->List (List Key×SA×nE)->Prop:=Paired fun p q=>p.1=q.1/\H q.2.1=J (.tup<|p.1.map kV)/\aP p.2 q.2.2
theorem KT.val(r:KT H kvs xs)(k:List Key):pE (gN kvs k)<|(atKey xs k).map (·.2):=by
 induction r with
 |nil=>exact Uy
 |@cons p q ps qs h t ih=>
  obtain⟨h1,_,h2⟩:=h
  by_cases e:p.1=k
  .have e'  := h1.symm.trans e;have b:atKey (q::qs) k=J q.2:=by simp[atKey,vD,e']
   rw[cQ e,b];exact h2
  .have e':¬q.1=k:=fun z=>e<|h1.trans z;have b:atKey (q::qs) k=atKey qs k:=by simp[atKey,vD,e']
   rw[cK e,b];exact ih
section
def M5(ok:nW P w H h)(e:Rd H a u):fK P w H h a u:=e.ok ok
def G9(ok:nW P w H h)(e:Rd H a<|.dK kvs):kvs.length<=Ta/\(a==zL)=η/\∃vs,KV kvs vs/\h.DictOf (dE P w) a vs:=
 (M5 ok e)
def Gq(ok:nW P w H h)(e:H a=J (.tup<|ks.map kV)):(tupleKind<|dE P w).is h ks a:=by
 obtain⟨_,aV,r,o,h1,h2,n,b⟩:=((ok a _ e));exact⟨o,aV.toArray,n,h1,h2,b,by simpa using ae1 r⟩
def NC(ok:nW P w H h)(e:Rd H a<|.dT kvs):kvs.length<=Ta/\(a==zL)=η /\
  ∃xs,KT H kvs xs/\h.DictOfH (tupleKind<|dE P w) a xs:=by
 left;obtain⟨z,y,xs,r,o,es,f,h1,h2,d,c,g⟩:=((M5 ok e));right;refine⟨z,y,xs,r,o,es,f,h1,h2,d,c,fun x b=>?_,g⟩;have all:∀{l:List<|List Key×V}{m:List<|List Key×SA×nE},KT H l m->∀x∈m,(tupleKind<|dE P w).is h x.1 x.2.1:=by
  intro l m q;induction q with
  |nil=>simp
  |@cons p q ps qs hq t ih=>
   intro x b;rcases eQ.mp b with e|b
   .exact Gq ok #[28]
   .exact ih x b
 exact all r x b
end
def Uk(H:Hp)(a:SA)(y:V)(r:Option V):Prop:=
 (∃c k,Rd H a (.dK c)/\y=kV k/\r=gN c k)\/∃c k b,Rd H a (.dT c)/\y=.ref b/\H b=J (.tup<|k.map kV)/\r=gN c k
section
variable{Z:St}
def Inv.big(I:Inv X aa Z H s):zL<s.heap.objs.size:=by
 have h  := (I.mod.glob.keeps I.bk).lt;exact Nat.lt_trans ∎ h
def Dk(m:A.units+1<cLine)(I:Inv X aa Z H s)(g:Uk H a y<|J v)(j:aP y u)(h:∀d s',Inv X aa Z H s'->aP v d->Q d s'):
  SN #[0] A (e8 (.ref a) u) Q E s:=by
 rcases g with⟨i,k,e,f,l⟩|⟨i,k,b,e,f,n,l⟩
 .subst f;obtain⟨z,hd,vs,rel,dd⟩:=G9 I.Su e
  obtain⟨d,hw,c⟩:=pE.some_of (by rw[l];exact rel.val k);exact wpAny_getItem_of (HR j) dd.mapOf hw<|h d _ (I.tok _) c
 .subst f;cases((j));obtain⟨z,hd,xs,rel,dd⟩:=NC I.Su e
  obtain⟨d,hw,c⟩:=pE.some_of (by rw[l];exact rel.val k);obtain⟨p,hp,hp2⟩:=dO.mp hw
  refine wpAny_getItem_heap (tupleKind_room_in1 m) (Gq I.Su n) dd hp ?_;rw[hp2];exact h d _ (I.tok _) c
def Kn(I:Inv X aa Z H s)(c:Sk<|H a)(hs:X1 a s.heap h')(d:∃q,h'.get? a=J q)(new:fK X.prog X.w (br H a ob) h' a ob)(f:X.tn<=t'<|>XW):
  Inv X aa Z (br H a ob) {s with heap:=h',toks:=t'}:=
 I.write c (.inl rfl) (fun b q e z=>(hs.2 b e).trans z) d new
def RC(z:kvs.length<=Ta)(hd:(a==zL)=η)(b:KV kvs vs)(dd:h'.DictOf (dE P w) a vs):
  fK P w H' h' a (.dK kvs):=⟨z,hd,vs,b,dd⟩
end
def En(i:Ry):Prop:=∀b a,subscripted i η b a=operate [b,a] (e8 b a)
def BU{T id:String}
  (f:typeLookup (.type T) "__getitem__"=pure (J<|.builtin id)) (hs:En slice)
  (h:SN (UA prog w) A (eval value env) (fun o b=>SN (UA prog w) A (eval slice env) (fun i s₂=>s₂.TypeIs o T/\SN (UA prog w) A (e8 o i) Q E s₂) E b) E s):
  SN (UA prog w) A (eval (.Subscript value slice pos) env) Q E s:=by
 refine Subscript_<|UE h (fun o b e=>UE e (fun i s₂ a=>?_) fun _ _ x=>x) fun _ _ x=>x;let⟨hT,a⟩:=a
 refine iF ?_;refine iF<|wpAny_specialOf hT f ?_;have fin:SN (UA prog w) A (subscripted slice η o i) (fun r c=>SN (UA prog w) A (letTemporaryGo value o r >>= fun _=>pure r) Q E c) E s₂:=by
  rw[hs o i];exact wpAny_operating<|UE a (fun r c d=>iF<|wpAny_letTemporaryGo<|U4 d) fun _ _ x=>x
 first
  |exact U4 (iF fin)
  |lia
  |lia
def exi(d c:TE):TE:=fun Z H Q=>d Z H fun x H1=>c Z H1 fun y b=>∃a v,x=.ref a/\Uk b a y (J v)/\Q v b
section
def Mh(l:X.A.units+1<cLine)(m:PE X o td)(f:PE X i ty)(hs:En i):PE X (.Subscript o i pos)<|exi td ty:=by
 intro aa s Z H Q I h;refine BU LY.lookup hs<|bP (m aa s Z H _ I h) fun u s1 k=>Tw k fun x H1 I1 rx q1=>bP (f aa s1 Z H1 _ I1 q1) fun iv s2 k=>Tw k fun y H2 I2 ry k=>Tw k fun a v ex g q2=>?_;subst ex;obtain rfl:u=WU a:=rx;exact⟨(by
   rcases g with⟨c,k,e,_,_⟩|⟨c,k,b,e,_,_,_⟩
   .obtain⟨_,_,vs,_,dd⟩:=G9 I2.Su e
    exact dd.typeIs
   .obtain⟨_,_,xs,_,dd⟩:=NC I2.Su e
    exact dd.typeIs),Dk l I2 g ry fun p n j d=>⟨v,H2,j,d,q2⟩⟩
end
def F7(h:T3)(a:zL<h.objs.size):fK P w H (h.push {cls:=.type "dict",data:=.dict #[]}) h.objs.size<|.dK []:=
 ⟨Uh _,beq_eq_false_iff_ne.mpr<|Vn<|Vd a,[],.nil,Heap.DictOf.new h⟩
def wK:List (TE×TE)->St->Hp->(List (V×V)->Hp->Prop)->Prop
 |[],_,H,Q=>Q [] H
 |(tk,tv)::r,Z,H,Q=>tk Z H fun x H1=>tv Z H1 fun y a=>wK r Z a fun ps b=>Q ((x,y)::ps) b
abbrev VV:List (V×V)->List (nE×nE)->Prop:=Paired fun p q=>aP p.1 q.1/\aP p.2 q.2
def X9(X:Cx)(pos:Pos)(b:List<|Option Ry)(a:List Ry)(Bj:List<|TE×TE):Prop:=
 ∀(aa:TQ)(s:ID)(Z:St)(H:Hp)(Q:List (V×V)->Hp->Prop),Inv X aa Z H s->wK Bj Z H Q ->
  SN #[0] X.A (evalPairs<|pairTrees b a X.env pos) (fun vs s'=>∃ps H',Inv X aa Z H' s'/\VV ps vs/\Q ps H') X.xe s
def jA(b more:List<|Key×V):List<|Key×V:=more.foldl (fun a kv=>tf a kv.1 kv.2) b
theorem KV.merge:∀{more:List<|Key×V}{rs:List<|Key×nE}{a:List<|Key×V}{vs:List<|Key×nE},KV more rs->KV a vs->KV (jA a more) (merged vs rs):=by
 intro more rs a vs r;induction r generalizing a vs with
 |nil=>intro q;exact q
 |@cons p q ps qs h t ih=>
  intro r0;have e:KV (tf a p.1 p.2)<|stored vs q.1 q.2:=by
   have:=r0.put p.1 h.2
   rw[<-h.1];exact this
  exact ih e
def akS:∀(more a:List<|Key×V),(jA a more).length<=a.length+more.length:=TB (fun a=>by show a.length<=a.length+0;simp) fun p r i_ a=>by
  have h1:=i_<|tf a p.1 p.2;have h2:=exn a p.1 p.2;show(jA (tf a p.1 p.2) r).length<=_;rw[uq];lia
def aaR:∀{d:List<|Key×V}{ws:List<|nE×nE},VV (d.map fun kv=>(kV kv.1,kv.2)) ws->∃rs,Carries (dE P w) ws rs/\KV d rs:=@TB _ _ (@fun _ r=>by cases r;exact⟨[],Uy,.nil⟩) fun p d i_=>@fun _ r=>by
  cases r with
  |@cons a b as bs h t=>
   obtain⟨rs,c,q⟩:=i_ t;obtain⟨b1,b2⟩:=b;exact⟨(p.1,b2)::rs,⟨HR h.1,rfl,c⟩,.cons ⟨rfl,h.2⟩ q⟩
def Uq0(Bj:List<|TE×TE):TE:=fun Z H Q=>∀p,H p=U->wK Bj Z (br H p<|.dK []) fun ps a=>a p=J (.dK [])/\∃kvs:List<|Key×V,ps=kvs.map (fun kv=>(kV kv.1,kv.2))/\kvs.length<=15/\Q (.ref p) (br a p<|.dK<|jA [] kvs)
def JX(h:X9 X pos keys values Bj)(a:keys.all (·.isSome)=G)(l:keys.length=values.length)(m:keys≠[])
  (d:keys.length<=15):PE X (.Dict keys values pos)<|Uq0 Bj:=by
 intro aa s Z H Q I q;have i:=I.Su.fresh<|mK s.heap.objs.size;have f:=I.laid (fun _ _ q=>iN _ q) (mK _)<|F7 s.heap I.big;refine wpAny_Dict_walk (knd:=dE X.prog X.w) a l m d<|bP (h aa _ Z _ _ f<|q _ i) ?_;rintro ws s2⟨ps,H2,I2,rel,e,kvs,ep,lk,q2⟩;subst ep;left;obtain⟨rs,c,j⟩:=aaR rel;let⟨z,hd,vs0,r0,dd⟩:=(G9 I2.Su<|.inl e)
 cases r0;right;refine⟨rs,c,dd,fun h' b hs=>⟨.ref s.heap.objs.size,_,?_,rfl,q2⟩⟩;have g:(jA [] kvs).length<=Ta:=by
  have h1:=akS kvs [];rw[l3]at h1;rw[XB];lia
 have k:∃q,h'.get? s.heap.objs.size=J q:=let⟨q,_,_,hq,_⟩:=b;⟨q,hq⟩;exact Kn I2 (by rw[e];exact Uy) hs k<|RC g hd (j.merge .nil) b
end L2
namespace Att
open PySem PySem.W PySem.Calls PyProof.Rows
theorem KOk:∀(ns:List Int)(vs:TK),WellAll P h vs (ns.map WData.int)->IntsAre vs ns:=by
 intro ns;induction ns with
 |nil=>
  intro vs w;rw[t4]at w;cases w;exact .nil
 |cons n ns c=>
  intro vs w;rw[Xp]at w;cases w with
  |cons a b=>
   cases a;exact .cons _ _ (c _ b)
theorem C6{l:OpenLaw}(t:l.most=J n)
  (c:l.row.toRowW.claim.pre args=G) (k:WellAll P h vals args):
  ∃a vs b,vals=[WU a]/\args=[WData.list<|b.map WData.int]/\h.get? a=J {cls:=.type "list",data:=.seq vs.toArray}/\IntsAre vs b/\b.length<=n:=by
 have j:WShape.hasAll [] args [.list .int]=G:=(pre_splitW c).1;have m:l.pre.holds [] {args:=args}=G:=(pre_splitW c).2;obtain⟨d,r,rfl,h1,h2⟩:=hasAllW_cons j;obtain rfl:=hasAllW_nil h2;obtain⟨xs,rfl,u⟩:=hasW_list h1;obtain⟨b,rfl⟩:=items_int u;have f:b.length<=n:=by
  delta OpenLaw.pre at m;have g:(WTm.not<|.lt (.lit<|.int (n:Int))<|.len<|.arg 0).holds [] {args:=[.list<|b.map .int]}=G:=by
   have g:=(holds_andW m).1;rw[t]at g;exact g
  have i:=condW_of g<|w_not<|w_lt w_lit<|w_len_list<|w_arg rfl;rw[WH]at i;refine Nat.le_of_not_lt fun q=>?_;have s:(n:Int)<((b.length:Nat):Int):=by mright
  first
   |(rw[Th s]at i;exact absurd i<|∎)
   |(cases i;lia)
 cases k with
 |cons p o=>
  cases o;cases p with
  |list v e=>exact⟨_,_,b,rfl,rfl,v,KOk b _ e,f⟩
def ace{l:OpenLaw}
  (M:l.most=J n) (x:d.params.defaults=[])
  (call:∀(w:Sl)(s₀ b:ID)(mg y:Sq)(i:SA)(o:Obj)(v m c:nE)(a:SA)(vs:TK)(k:List Int),
   Ground q loose [] XP w s₀ mg y b.heap->YP w b.heap ->
   b.heap.get? i=J o->o.data=.func (docDef d.name d.params d.body d.scope v m c)->b.heap.CodeRec m d.name->mg d.name=J (.ref i) ->
   b.heap.get? a=J {cls:=.type "list",data:=.seq vs.toArray}->IntsAre vs k->k.length<=n->b.gens=#[] ->
   qq (UA l.prog w) callerA (.call (.ref i) ⟨[.ref a],[]⟩) (fun r s'=>r=.ok (.ret (.bool G))/\OldK b.heap s'.heap/\s'.os=b.os/\AllBare s'.gens) b):
  WalkO q loose XP YP l.row.toRowW d [] (fun f vs=>uK f vs):=by
 intro w s₀ b mg y SK p i o v m c K kV O hd s z t F args B as g A H u C;obtain rfl:K=.none:=Dflts.none z x;obtain rfl:kV=.none:=Dflts.noKw z;refine rm (C6 M g u) fun a vs k P Q j e h=>?_;subst P Q;refine enter_call<|eo (call w s₀ b mg y i o v m c a vs k SK p O (fd_plain hd) s t j e h F) fun r s' I=>?_;obtain⟨rfl,h2,N,E⟩:=I;exact⟨.inl ⟨.bool G,.bool G,[],rfl,fun _=>rfl,.bool G,(fun l args =>  postW_of (r:=l.row.toRowW) (X:=(G==G))
   (show WShape.has [] (.bool G) .bool=G by first|rfl|rfl|lia)
   (show(WTm.eq .res (.lit (.bool G))).value [] {args:=args,res:=J (.bool G),after:=args}=J (.bool (G==G))from w_eq_bool (w_res rfl) w_lit) rfl) l _,fun _=>⟨Oe,fun _ D=>(nomatch D)⟩⟩,h2,N,E⟩
end Att
namespace L2
open PySem PySem.Spec PyProof.Rows
theorem u8:∀{vs:TK}{a:List Int},IntsAre vs a->aU (a.map V.int) vs
 |_,_,.nil=>.nil
 |_,_,.cons n t h=>.cons ⟨t,rfl⟩<|u8 h
theorem Pp{l:List<|SA×Str}(a:(l.map (·.1)).Nodup)(h:x∈l):l.lookup x.1=J x.2:=by
 induction l with
 |nil=>nofun
 |cons y r b=>
  rw[Xp,Vx]at a;rcases eQ.mp h with rfl|h
  .simp[wA]
  .have n:x.1≠y.1:=fun z=>a.1<|z▸yh h;rw[wA,show(x.1==y.1)=η from by simpa using n];exact b a.2 h
theorem Ae{l:List<|SA×β}{b:SA}{q:β}(h:l.lookup b=J q):(b,q)∈l:=by
 induction l with
 |nil=>nofun
 |cons y r a=>
  rw[wA]at h;cbv
  .rename_i e;nofun;rw[show b=y.1 from by simpa using e];exact Up
  .exact ie _ (a h)
def IX{K:aT}(h:g6 K p=J x):K.lookup x.1=U/\t5 K p.1 x.1=G:=by
 delta g6 at h;cbv
 .cbv
  .cbv
   .rename_i e;nofun;rw[oR]at e;exact⟨by simpa using e.1,e.2⟩
   .nofun
  .nofun
 .nofun
theorem Ie{K:aT}
  (O:K.In s₁.heap) (t:s₁.heap.Ns By mg) (S:s₁.heap.Ns builtinsNs mb) (I:∀x:Str,x≠"__name__"->mb x=Vl x) (C:s₁.heap.NoLimit) (hg:s₁.gens=#[])
  (hT:((K.filterMap<|g6 K).map (·.1)).Nodup/\∀x∈K.filterMap (g6 K),s₁.heap.get? x.1=J (ik #[]))
  (j:s₁.heap.get? a=J {cls:=.type "list",data:=.seq vs.toArray}) (X:IntsAre vs ns) (hl:ns.length<=Ta) (hr:TZ k callerA)
  (F:∀base:T3,K.In base->base.Ns By mg->T8 P w K mg base CX k fa fd [x] sp) (g:∀(s:ID)(u:nE),BindsTo s fd ⟨[u],[]⟩ [(x,u)])
  (Q:∀H:Hp,gr K H a (ns.map V.int)->sp [.ref a] H (fun v _=>v=.bl G) fun _ _ _=>False)
  (M:∀H e s',CX [] H s₁ (fun _ _ _=>False) e s'->False):
  qq (UA P w) callerA (.call (.ref fa) ⟨[.ref a],[]⟩) (fun r s'=>r=.ok (.ret<|.bool G)/\OldK s₁.heap s'.heap/\s'.os=s₁.os/\AllBare s'.gens) s₁:=by
 have rv:=u8 X;have ph:=X.length;let l:=K.filterMap<|g6 K
 have tab:∀b q,l.lookup b=J q->K.lookup b=U/\s₁.heap.get? b=J (ik #[])/\isCodeTable s₁.heap b:=fun b q e=>by
  have T:=Ae e;obtain⟨p,hp,i⟩:=mP.mp T
  have:=IX i
  have B:=hT.2 _ T;exact⟨this.1,B,((PySem.W.codeHd_of_K O this.2).tab B).isCodeTable⟩
 let H:Hp:=fun b=>match l.lookup b with
  |some q=>J<|.UX q
  |none=>if b=a/\K.lookup a=U then J (.WC {cls:=.type "list",data:=.seq vs.toArray} (.lst<|ns.map V.int))else U
 have E:∀b u,H b=J u->(∃q,u=.UX q/\l.lookup b=J q)\/(b=a/\K.lookup a=U/\u=.WC {cls:=.type "list",data:=.seq vs.toArray} (.lst<|ns.map V.int)):=fun b u e=>by
  have y:(match l.lookup b with
   |some q=>J<|.UX q
   |none=>if b=a/\K.lookup a=U then J (HO.WC {cls:=.type "list",data:=.seq vs.toArray} (.lst (ns.map V.int)))else U)=J u:=e
  split at y
  .cases y;exact .inl ⟨_,rfl,by assumption⟩
  .split at y
   .rename_i h;cases y;exact .inr ⟨h.1,h.2,rfl⟩
   .cases y
 have nk:∀b u,H b=J u->K.lookup b=U:=fun b u e=>by
  rcases E b u e with⟨q,_,e1⟩|⟨rfl,e1,_⟩
  .exact(tab b q e1).1
  .exact e1
 have nl:l.lookup a=U:=by
  cases e:l.lookup a with
  |none=>rfl
  |some q=>have:=(tab a q e).2.1;rw[j]at this;cases this
 have R:nW P w H s₁.heap:=fun b u e=>by
  rcases E b u e with⟨q,rfl,e1⟩|⟨rfl,_,rfl⟩
  .exact⟨#[],(tab b q e1).2.1,trivial,fun pos cv z=>nomatch z⟩
  .exact⟨j,by rw[WH];exact hl,vs,_,rv,j⟩
 have hS:gr K H a<|ns.map V.int:=by
  cases hk:K.lookup a with
  |some o=>
   have e:=O a o hk;rw[j]at e;cases e;exact .inr ⟨_,vs.toArray,_,hk,rfl,rfl,rfl,by rw[XC,ph];exact hl,⊤⟩
  |none=>exact .inl<|.inr ⟨{cls:=.type "list",data:=.seq vs.toArray},by show(match l.lookup a with|some q=>_|none=>_)=_;rw[nl];exact SI ⟨rfl,hk⟩⟩
 have c:∀{b:SA}{o:Obj},s₁.heap.get? b=J o->H b=U->(yU s₁.heap H).get? b=J o:=fun e n=>F1 e n;have N:∀{b:SA}{o:Obj}{es:Array DictEntry}{D:Nat},s₁.heap.get? b=J o->o.data=.dict es D->H b=U:=fun{b o es D}e d=>by
  cases q:H b with
  |none=>rfl
  |some u=>
   rcases E b u q with⟨q1,_,z⟩|⟨rfl,_,_⟩
   .rw[(tab b q1 z).2.1]at e;cases e;cases d
   .rw[j]at e;cases e;cases d
 have f:∀{b:SA}{m:Sq},s₁.heap.Ns b m->(yU s₁.heap H).Ns b m:=fun{b m} q_=>WM q_ fun o es D e d r=>⟨o,es,D,c e<|N e d,d,r⟩;have A:K.In<|yU s₁.heap H:=fun b o e=>c (O b o e) (by
  cases q:H b with
  |none=>rfl
  |some u=>rw[nk b u q]at e;cases e)
 have hM:Mod K mg<|yU s₁.heap H:=⟨A,f t,⟨mb,f S,I⟩,let⟨mc,h1,h2⟩:=C;⟨mc,f h1,h2⟩⟩;have Yu:RJ K H:=fun p hp x e=>by
  have:=Pp hT.1<|mP.mpr ⟨p,hp,e⟩
  show(match l.lookup x.1 with|some q=>_|none=>_)=_
  rw[this]
 have e0:uG P w K mg (yU s₁.heap H) callerA [] s₁ H:=⟨rfl,hM,fun b o e=>JH e,Nat.le_of_eq<|(fun h H=>PySem.W.hideAll_size _ _) _ _,trivial,⟨fun b S=>absurd (show b∈([]:Sf)from S)<|∅,Yu⟩,R,.of_eq hg⟩;refine eo ((F _ A<|f t).run callerA [] s₁ H ⟨[.ref a],[]⟩ [.ref a] [.ref a] _ _ hr e0 (g s₁<|.ref a) (.cons rfl .nil)<|Q H hS) fun r s' h=>?_;cases r with
 |error e=>exact(M H e s' h).elim
 |ok fl=>
  cases fl with
  |next=>exact Wf h
  |brk=>exact Wf h
  |cont=>exact Wf h
  |ret u=>
   refine XX h fun v H' os bare un hok' r' q=>?_
   have q':v=.bl G:=q;subst q';obtain rfl:u=Value.bool G:=r';have key:∀b o,s₁.heap.get? b=J o->asItWas s₁.heap s'.heap b o/\∃o',s'.heap.get? b=J o':=fun b o e=>by
    cases q:H b with
    |none=>
     have:=un.keep b o e q (by intro z;exact absurd (show b∈([]:Sf)from z)<|∅) ∅
     exact⟨.inl this,_,this⟩
    |some u=>
     rcases E b u q with⟨z,rfl,e1⟩|⟨rfl,_,rfl⟩
     .obtain⟨ps,i,_⟩:=hok' b _<|un.b9 b _ q;obtain⟨_,B,e4⟩:=tab b _ e1;rw[e]at B;cases B;exact⟨.inr<|.inl ⟨e4,rfl,#[],ps,rfl,by rw[i];simp⟩,_,i⟩
     .obtain⟨i,_⟩:=hok' b _<|un.tQ b _ _ q;rw[e]at j;cases j;exact⟨.inl i,_,i⟩
   exact⟨rfl,⟨fun b o e=>(key b o e).1,fun b o e=>(key b o e).2⟩,os,bare⟩
def La{l:y4}{K:adO->aT}{CX:Sl->Ee}{sp:Sl->Sp}
  (Q:l.most=J n) (A:n<=Ta) (B:d.params.defaults=[]) (M:TZ k callerA)
  (X:∀(w:Sl)(h:T3),YP w h->(K w.params).In h)
  (F:∀(w:Sl)(mg:Sq)(t:SA)(h:T3),(K w.params).In h->h.Ns By mg->mg d.name=J (.ref t) ->
   ∃fd:Wj,(∀(s:ID)(u:nE),BindsTo s fd ⟨[u],[]⟩ [(x,u)]) /\
    ∀base:T3,(K w.params).In base->base.Ns By mg->T8 l.prog w (K w.params) mg base (CX w) k t fd [x] (sp w))
  (P:∀(w:Sl)(h:T3),YP w h->(((K w.params).filterMap<|g6<|K w.params).map (·.1)).Nodup/\∀x∈(K w.params).filterMap (g6<|K w.params),h.get? x.1=J (ik #[]))
  (C:∀(w:Sl)(H:Hp)(a:SA)(r:List Int),r.length<=n->gr (K w.params) H a (r.map V.int)->sp w [.ref a] H (fun v _=>v=.bl G) fun _ _ _=>False)
  (y:∀(w:Sl)(H:Hp)(s:ID)(e:nE)(s':ID),CX w [] H s (fun _ _ _=>False) e s'->False):
  PySem.W.WalkO q loose XP YP l.row.toRowW d [] (fun f vs=>uK f vs):=by
 refine Att.ace Q B fun w s₀ p mg mb t o pm cd N a vs r SK j ho hd O z m i c I=>?_;have D:=X w _ j;obtain⟨fd,S,R⟩:=F w mg t _ D SK.T.g z;exact Ie D SK.T.g SK.T.b SK.T.builtins SK.T.nolimit I (P w _ j) m i (RW c A) M R S (fun H E=>C w H a r c E) fun H e s'=>y w H p e s'
def jJ(s:SU):Arguments:=match s with
 |.FunctionDef _ a _ _ _ _ _ _ _ _=>a
 |_=>{posonlyargs:=[],args:=[],vararg:=U,kwonlyargs:=[],kw_defaults:=[],kwarg:=U,defaults:=[]}
def bL(s:SU):List SU:=match s with
 |.FunctionDef _ _ b _ _ _ _ _ _ _=>b
 |_=>[]
noncomputable def ai(s:SU):Scope:=match s with
 |.FunctionDef _ _ _ _ _ _ sc _ _ _=>sc
 |_=>{kind:=.function,names:=[],isGenerator:=η,isCoroutine:=η}
abbrev lD:Ee:=fun _ _ _ _ _ _=>False
abbrev E0:XK:=fun _ _ _=>False
def NJ:m5 lD X E0:=fun _ _ _ _ _ _ _ h=>h.elim
def Ea(K:aT)(a:nE)(q:Str):Bool:=uz K a q&&(match a with
 |.ref c=>(match K.lookup c with
  |some o=>(g6 K (c,o)).isSome
  |none=>η)
 |_=>η)
def tF{K:aT}(h:Ea K cdv q=G):uz K cdv q=G:=(lB.mp h).1
def vO{K:aT}(h:Ea K cdv q=G):∃c P,cdv=.ref c/\t5 K c P=G/\∀H,RJ K H->H P=J (.UX<|q++".<locals>."++"<lambda>"):=by
 obtain⟨h1,h2⟩:=lB.mp h;split at h2
 .rename_i c;split at h2
  .rename_i o e;obtain⟨x,a⟩:=tq.mp h2
   have:=IX a
   refine⟨c,x.1,rfl,this.2,fun H t=>?_⟩;rw[t _ (Ae e) x a];delta g6 at a;split at a
   .rename_i vs hd;split at a
    .rename_i q' tk P e1 e2;split at a
     .cases a;delta uz at h1;dsimp only at h1;rw[e]at h1;split at h1
      .rename_i vs' _ ho;cases ho;cases hd;split at h1
       .rename_i n _ _ hl;have b:vs.toList[1]?=J (.str q' tk):=by rw[<-e1];simp
        rw[hl]at b;cases b;rw[show q'=q from by simpa using h1]
       .cases h1
      .cases h1
     .cases a
    .cases a
   .cases a
  .cases h2
 .cases h2
structure UD(K:aT)(x qual:Str)(st:SU)(f:SA)(fd:Wj):Prop where
 ex:∃(oc:nE)(od:Option SA)(kV doc pm:nE)(an:Option SA)(cdv ct:nE)(osl:Array<|Option nE),
  fd=Wk x qual (jJ st) (bL st) (ai st) .none kV doc pm an cdv ct/\K.lookup f=J ⟨oc,od,.func fd,osl⟩/\Ea K cdv qual=G
 kp:Xq K (.ref f)=G
section
variable{K:aT}
def UD.ex'{st:SU}(F:UD K x qual st f fd):∃(k:nE)(i:Option SA)(kV c j:nE)(g:Option SA)(a h:nE)(b:Array<|Option nE),
  fd=Wk x qual (jJ st) (bL st) (ai st) .none kV c j g a h/\K.lookup f=J ⟨k,i,.func fd,b⟩/\uz K a qual=G:=by
 left;obtain⟨k,i,kV,c,j,g,a,h,b,e,lk,d⟩:=F.ex;right;exact⟨k,i,kV,c,j,g,a,h,b,e,lk,tF d⟩
theorem UD.ok{st:SU}(F:UD K x qual st f fd)(S:Vr N ps<|ai st)(len:∀vs H Q E,sp vs H Q E->vs.length=ps.length)
  (c:∀(b:nE)(_:Ea K b qual=G)(A:Tx)(a:List Env)(s:ID)(H:Hp)(vs:Se)(Q:VK)(E:XK),TZ k (A.deeper<|W7 qual (ai st) s.heap.objs.size f b)->sp vs H Q E ->
   ∃t,IR (gw lD P w K mg base N qual (ai st) f b A a s H E).Xe (bL st) t/\t {nx:=fun _ H'=>Q .S9 H',rt:=Q} (start N vs) H):T8 P w K mg base lD (k+1) f fd ps sp:=by
 obtain⟨o,l,kV,i,n,p,b,m,j,rfl,lk,d⟩:=F.ex;refine NP lk (tF d) S len fun A a s H vs Q E g e=>?_;obtain⟨t,h,q⟩:=c b d A a s H vs Q E g e;exact⟨t,h.Xe,q⟩
def UD.binds{st:SU}(F:UD K x qual st f fd)
  (h:∀(kV b e:nE)(c:Option SA)(a d:nE)(us:TK),us.length=ps.length->bindArgs (Wk x qual (jJ st) (bL st) (ai st) .none kV b e c a d) ⟨us,[]⟩=pure (ps.zip us)):cf K fd ps []:=by
 obtain⟨k,j,kV,b,e,c,a,d,i,rfl,lk,g⟩:=F.ex;exact .all (h kV b e c a d)
def Qe{st:SU}{kV b e a d:nE}(l:K.lookup f=J ⟨oc,od,.func<|Wk x qual (jJ st) (bL st) (ai st) .none kV b e an a d,osl⟩)
  (c:Ea K a qual=G) (k:Xq K (.ref f)=G):UD K x qual st f<|Wk x qual (jJ st) (bL st) (ai st) .none kV b e an a d:=⟨⟨oc,od,kV,b,e,an,a,d,osl,rfl,l,c⟩,k⟩
end
def ah(H H':Hp):Prop:=∀b o,H b=J o->H' b=J o
def ah.refl(H:Hp):ah H H:=fun _ _ h=>h
theorem ah.trans(a:ah H H1)(b:ah H1 H2):ah H H2:=fun c o h=>b c o<|a c o h
theorem ah.free(e:ah H H')(h:H' l=Eb):H l=Eb:=by
 cases q:H l with
 |none=>rfl
 |some o=>
  rw[e l o q]at h;nofun
def ah.seq{K:aT}(e:ah H H')(h:gr K H a xs):gr K H' a xs:=by
 rcases h with(h|⟨o,h⟩)|h
 .exact .inl (.inl<|e _ _ h)
 .exact .inl (.inr ⟨o,e _ _ h⟩)
 .exact .inr h
end L2
namespace L2
open PySem PySem.W PySem.W.X
def sdC{run:nE->TK->Sem nE}
  (e:∀P,as=(K P).map (·.1)) (h:WalkO q loose XP (fun w h=>(K w.params).In h) r d kwd run):WalkX q loose XP (obsZ as) (valZ K n t) r d kwd run:=
 fun w s₀ b mg x SK y a o u p g l kV h1 h2 s i z m c f as Lq0 k v j hw hs=>
  h w s₀ b mg x SK (InK.keeps w s₀.heap b.heap (z_facts e y).2.1 Lq0.keeps) a o u p g l kV h1 h2 s i z m c f as k v j hw hs
end L2
namespace L2
open PySem PySem.Spec PyProof.Rows
noncomputable def fM(cells:List<|Str×SA):List (Str×Yz)->List (Str×SA)->List (Str×SA)
 |[],acc=>acc
 |(n,k)::r,acc=>if k=.free then fM cells r ((n,(cells.lookup n).getD 0)::acc)else fM cells r acc
theorem j5(h:∀y∈scope.names,y.2=.free->∃c,env.cells.lookup y.1=J c):closureFor scope env=pure (fM env.cells scope.names []):=by
 simp only[closureFor];generalize([]:List<|Str×SA)=acc;revert h
 generalize scope.names=names;intro h;induction names generalizing acc with
 |nil=>rfl
 |cons y r d=>
  obtain⟨n,k⟩:=y
  by_cases a:k=.free
  .subst a;obtain⟨c,hc⟩:=h (n,.free) Up rfl
   have e1:cellOf env n=pure c:=by delta cellOf;rw[hc]
   have b:fM env.cells ((n,.free)::r) acc=fM env.cells r ((n,c)::acc):=by
    show(if Xs=.free then _ else _)=_;rw[hc];rfl
   mright
  .have b:fM env.cells ((n,k)::r) acc=fM env.cells r acc:=by
    show(if k=.free then _ else _)=_;rw[SM a]
   mright
def akM:∀(a:List<|Str×Yz)(acc:List<|Str×SA),(∀y∈a,y.2=.free->∃c,cells.lookup y.1=J c) ->
  (fM cells a acc).lookup x=J c->cells.lookup x=J c\/acc.lookup x=J c:=TB (fun acc _ e=>.inr e) fun ⟨n,k⟩ r i_ acc h e=>by
  have hr  := fun y d=>h y<|ie _ d;by_cases b:k=.free
  .subst b;rcases i_ _ hr e with z|z
   .exact .inl z
   .rw[We]at z;cases hx:x==n with
    |true=>
     rw[hx]at z;obtain⟨c',hc⟩:=h (n,.free) Up rfl
     mright
    |false=>
     mright
  .have e2:fM cells ((n,k)::r) acc=fM cells r acc:=by
    show(if k=.free then _ else _)=_;rw[SM b]
   rw[e2]at e;exact i_ acc hr e
def on{cells:List<|Str×SA}{x:Str}:∀(a:List<|Str×Yz)(acc:List<|Str×SA),((x,Xs)∈a\/∃c,acc.lookup x=J c)->∃c,(fM cells a acc).lookup x=J c:=TB (fun acc h=>by
  rcases h with h|h
  .nofun
  .exact h) fun ⟨n,k⟩ r i_ acc h=>by
  by_cases b:k=.free
  .subst b;refine i_ _ ?_;rcases h with h|⟨c,h⟩
   .rcases eQ.mp h with h|h
    .mright
    .exact .inl h
   .refine .inr ?_
    grind
  .have e2:fM cells ((n,k)::r) acc=fM cells r acc:=by
    show(if k=.free then _ else _)=_;rw[SM b]
   rw[e2];refine i_ acc ?_
   grind
structure Bk where
 cl:List<|Str×SA
 C:SA
 s:ID
 H:Hp
 fp:Sf
 aa:TQ
noncomputable def jm(X:Cx)(N:SH)(scope:Scope)(b:Bk):Cx:=
 {X with N:=N,s₀:=b.s,H₀:=b.H,env:=compEnvC scope b.cl b.C X.env,outer:=X.stack,stack:=X.stack,ex:=b.fp,fn:=fun _=>η,pn:=X.pn++b.aa,xe:=fun _ _=>False}
noncomputable def sR(ON:SH)(a:List<|Str×Yz):List (Option Nat)->SH->Bool
 |[],[]=>G
 |none::r,_::n=>sR ON a r n
 |some j::r,x::n=>decide (ON[j]?=J x)&&decide ((x,Xs)∈a)&&sR ON a r n
 |_,_=>η
def zr(osc:Scope)(ON N:SH)(ix:List<|Option Nat)(scope:Scope):Bool:=
 decide (scope.kind=.function)&&(scope.names.all fun y=>decide (y.2≠.cell))&&(scope.names.all fun y=>decide (y.2=.local->scope.names.lookup y.1=J .local)) &&
 (scope.names.all fun y=>decide (y.2=.free->osc.names.lookup y.1=J .cell\/osc.names.lookup y.1=J .free))&&(scope.names.all fun y=>decide (y.2=.local->(y.1,Xs)∉scope.names))&&sR ON scope.names ix N
structure ko(osc:Scope)(ON N:SH)(ix:List (Option Nat))(scope:Scope):Prop where
 kind:scope.kind=.function
 YS:∀y∈scope.names,y.2≠.cell
 names:∀y∈scope.names,y.2=.local->scope.names.lookup y.1=J .local
 outs:∀y∈scope.names,y.2=.free->osc.names.lookup y.1=J .cell\/osc.names.lookup y.1=J .free
 abA:∀x,(x,NameKind.local)∈scope.names->(x,Xs)∈scope.names->False
 len:ix.length=N.length
 cap:∀(i j:Nat)(x:Str),ix[i]?=J (J j)->N[i]?=J x->ON[j]?=J x/\(x,Xs)∈scope.names
theorem pJ:∀{ix:List<|Option Nat}{N:SH},sR ON names ix N=G->ix.length=N.length
 |[],[],_=>rfl
 |none::r,_::n,h=>UN Nat.succ<|pJ h
 |some j::r,x::n,h=>by
  have h':(decide (ON[j]?=J x)&&decide ((x,Xs)∈names)&&sR ON names r n)=G:=h;rw[oR]at h';exact UN Nat.succ<|pJ h'.2
 |[],_::_,h=>by nofun
 |none::_,[],h=>by nofun
 |some _::_,[],h=>by nofun
theorem pY:∀{ix:List<|Option Nat}{N:SH},sR ON names ix N=G->∀(i j:Nat)(x:Str),ix[i]?=J (J j)->N[i]?=J x->ON[j]?=J x/\(x,Xs)∈names
 |[],_,_,i,j,x,h1,_=>by mright
 |none::r,y::n,h,0,j,x,h1,_=>by mright
 |none::r,y::n,h,i+1,j,x,h1,h2=>pY (ix:=r) h i j x ⊤ ⊤
 |some k::r,y::n,h,i,j,x,h1,h2=>by
  have h':(decide (ON[k]?=J y)&&decide ((y,Xs)∈names)&&sR ON names r n)=G:=h;rw[oR]at h';cases i with
  |zero=>
   mright
  |succ i=>exact pY h'.2 i j x ⊤ (by assumption)
 |none::_,[],h,_,_,_,_,_=>by nofun
 |some _::_,[],h,_,_,_,_,_=>by nofun
def N5(h:zr osc ON N ix scope=G):ko osc ON N ix scope:=by
 delta zr at h;simp only[oR]at h;obtain⟨⟨⟨⟨⟨h1,h2⟩,e⟩,d⟩,f⟩,b⟩:=h;exact⟨WI h1,fun y a=>WI<|Ve.mp h2 y a,fun y a=>WI<|Ve.mp e y a,fun y a=>WI<|Ve.mp d y a,
  fun x g c=>WI (Ve.mp f (x,.local) g) rfl c,pJ b,pY b⟩
def mz(ix:List<|Option Nat)(Z:St):St:=ix.map fun o=>o.bind fun j=>(Z[j]?).getD U
theorem eu{env:Env}:∀{a:List<|Str×Yz}{x:Str}{k:Yz},(a.map fun(n,k)=>if(k==Xs&&env.scope.kind==.function&&env.kindOf n==J .cell)then(n,Bv)else(n,k)).lookup x=J k ->
  a.lookup x=J k\/(k=.cell/\a.lookup x=J .free/\env.kindOf x=J .cell)
 |[],_,_,h=>by nofun
 |(n,k')::r,x,k,h=>by
  have c:=@eu env r x k;have h:wA x ((if(k'==Xs&&env.scope.kind==.function&&env.kindOf n==J .cell)=G then(n,Bv)else(n,k'))::_)=J k:=h;by_cases b:(k'==Xs&&env.scope.kind==.function&&env.kindOf n==J .cell)=G
  .rw[SI b]at h;rw[We]at h;rw[We];cases hx:x==n with
   |true=>
    mright
   |false=>
    mright
  .rw[We]at h;rw[We];cases hx:x==n with
   |true=>
    mright
   |false=>
    mright
def mem_of_lookupK:∀{a:List<|Str×Yz},a.lookup x=J k->(x,k)∈a:=fun h=>hG h
def Li{Z:St}(I:Inv X aa Z H s)(V:X.env.scope=osc)(hO:X.N=ON)(S:ko osc ON N ix scope)
  (w:∀b∈fp,gE X aa H b) (K:∀b∈fp,∃o,s.heap.get? b=J o) (hn:h'.Ns s.heap.objs.size m) (E:∀b o,s.heap.get? b=J o->h'.get? b=J o) (he:s'={s with heap:=h',toks:=s'.toks}) (M:X.tn<=s'.toks):
  Inv (jm X N scope ⟨fM X.env.cells scope.names [],s.heap.objs.size,s,H,fp,aa⟩) [] (mz ix Z) H s':=by
 subst V hO;have r:∀y∈scope.names,y.2=.free->∃c,X.env.cells.lookup y.1=J c:=fun y W e=>I.ok.has y.1<|S.outs y W e;have f:∀x c,(fM X.env.cells scope.names []).lookup x=J c->X.env.cells.lookup x=J c:=fun x c e=>by
  rcases akM scope.names [] r e with z|z
  .exact z
  .cases z
 have D:∀b o,s.heap.get? b=J o->b≠s.heap.objs.size:=fun b o e=>Vd<|Tn e;have B:∀x,(compEnvC scope (fM X.env.cells scope.names []) s.heap.objs.size X.env).kindOf x=J .cell\/(compEnvC scope (fM X.env.cells scope.names []) s.heap.objs.size X.env).kindOf x=J .free->(x,Xs)∈scope.names:=fun x t=>by
  rcases t with t|t
  .rcases eu (env:=X.env) t with z|⟨_,z,_⟩
   .exact absurd rfl (S.YS _<|mem_of_lookupK z)
   .exact mem_of_lookupK z
  .rcases eu (env:=X.env) t with z|⟨z,_⟩
   .exact mem_of_lookupK z
   .cases z
 have l:∀x c,X.env.cells.lookup x=J c->∀v,s.heap.IsCell c v->h'.IsCell c v:=fun x c e v⟨o,ho,hd⟩=>⟨o,E c o ho,hd⟩;rw[he];refine⟨⟨I.ok.mod,S.kind,I.ok.glob,I.ok.blt,mK _,fun x y c h1 h2=>I.ok.inj x y c (f x c h1)<|f y c h2,fun x t=>on _ _<|.inl<|B x t,fun x c z _=>(nomatch z),I.ok.hd,I.ok.frames,.inl rfl,
  fun b A=>?_,fun b o e=>I.bs b o e,RW I.ok.Wq I.sz,fun b o e A=>?_,fun b A t=>?_,I.stack,⟨fun b A=>I.Y8 b A,I.tb⟩⟩,
  rfl,I.bare,Un.kept E,⟨m,hn,fun i x v h1 h2 h3=>?_⟩,fun x c e=>?_,I.Su.fresh (mK _),fun x c e=>I.WZ x c (f x c e),fun p R=>?_,I.Su.kept E,?_,M⟩
 .obtain⟨o,ho⟩:=K b A
  exact⟨D b o ho,fun x c e=>(w b A).2.2.2.2.1 x c<|f x c e⟩
 .rcases(w b A).2.2.2.1 with z|z
  .exact I.ok.Zo b o e z
  .exact absurd (Rw (Tn e)<|RW I.ok.Wq z) (ei _)
 .rcases eQ.mp (I.wW b t)with z|z
  .exact(w b A).2.1 z
  .exact(w b A).2.2.1 z
 .-- a captured name
  have g:(mz ix Z)[i]?=J (J v):=h2;delta mz at g;rw[Xm]at g;cases e:ix[i]? with
  |none=>rw[e]at g;cases g
  |some o=>
   rw[e]at g;cases o with
   |none=>cases g
   |some j=>
    obtain⟨c1,c2⟩:=S.cap i j x e h1
    have h:(Z[j]?).getD U=J v:=zB g;have T:Z[j]?=J (J v):=by
     cases q:Z[j]? with
     |none=>rw[q]at h;nofun
     |some w'=>rw[q]at h;rw[<-h];rfl
    have P:=S.outs _ c2 rfl;obtain⟨mX,hnX,hl⟩:=I.loc
    have F:m6 X.env.scope x:=by
     rcases P with k|k
     .exact .inr (.inl k)
     .exact .inr (.inr k)
    obtain⟨u,ru,lk⟩:=hl j x v c1 T F
    refine⟨u,ru,.inr ?_⟩;have C:∃c,X.env.cells.lookup x=J c/\s.heap.IsCell c (J u):=by
     rcases lk with⟨k,_⟩|⟨_,c,e1,O⟩
     .rcases P with k'|k'
      .have:X.env.kindOf x=J .cell:=k'
       rw[k]at this;cases this
      .have:X.env.kindOf x=J .free:=k'
       rw[k]at this;cases this
     .exact⟨c,e1,O⟩
    left;obtain⟨c,e1,O⟩:=C
    obtain⟨c',e3⟩:=on (cells:=X.env.cells) scope.names []<|.inl c2
    have Q:=f x c' e3;rw[e1]at Q;cases Q;right;refine⟨?_,c,e3,l x c e1 _ O⟩;rcases h3 with k|k|k
    .rcases eu (env:=X.env) k with z|⟨z,_⟩
     .exact(S.abA x (mem_of_lookupK z) c2).elim
     .cases z
    .exact .inl k
    .exact .inr k
 .obtain⟨v,z⟩:=I.cell x c (f x c e)
  exact⟨v,l x c (f x c e) v z⟩
 .have hp':p∈X.pn++aa:=by
   rcases BY.mp R with z|z
   .exact z
   .cases z
  refine uf (I.pin p hp') fun e n ne nf d=>?_
  refine⟨E _ _ e,n,D _ _ e,fun z=>?_,d⟩;rcases eQ.mp (I.wW _ z)with q|q
  .exact ne q
  .exact nf q
 .delta mz;rw[WH];exact S.len
section
variable{prog:Tc}{w:Sl}{A:Tx}{R:Result->ID->Prop}{s:ID}
theorem ond(I:Nat->ID->Prop)
  (u:∀n s,I n s->SN (UA prog w) A (pyNext it) (fun r b=>match r with
   |none=>R (.ok .next) b
   | some v=>SN (UA prog w) A (B3 target it v) (fun _ d=>SN (UA prog w) A (assign target env v) (fun _ j =>
     SN (UA prog w) A (forIn ifs G fun c r=>if r=G then do let ok <-isTrue c env (eval c env);pure (ud ok)else pure (ud r)) (fun ok a=>
      if ok=G then SN (UA prog w) A (eval elt env) (fun x i=>
       SN (UA prog w) A (call (.builtin "list.append") [acc,x]) (fun _ k=>∃m,m<n/\I m k) #[15] i) #[15] a
      else ∃m,m<n/\I m a) #[15] j) #[15] d) #[15] b) #[15] s)
  (n:Nat) (h:I n s):
  qq (UA prog w) A (.compLoop (.ListComp elt [⟨target,iter,ifs,0⟩] scope pos) 0 it acc env) R s:=by
 refine codeAny_loop rfl I (fun n s t=>?_) n h;refine wpAny_noted ?_;refine iF<|wpAny_standAt<|iF<|UE (u n s t) (fun r b g=>?_) fun _ _ h'=>h';cases r with
 |none=>exact U4 g
 |some v=>
  refine iF<|UE g (fun _ d l=>?_) fun _ _ h'=>h';refine iF<|UE l (fun _ j q=>iF<|UE q (fun ok a f=>?_) fun _ _ h'=>h') fun _ _ h'=>h';cases ok with
  |false=>exact U4 ⟨rfl,f⟩
  |true=>
   exact iF<|iF<|UE f (fun x i o=>iF<|UE o (fun _ k p=>U4<|U4 ⟨rfl,p⟩) fun _ _ h'=>h') fun _ _ h'=>h'
end
def RI(X:Cx)(ifs:List Ry)(t:TT):Prop:=
 ∀(aa:TQ)(s:ID)(Z:St)(H:Hp)(Q:Bool->Hp->Prop),Inv X aa Z H s->t Z H Q ->
  SN #[0] X.A (forIn ifs G fun c r=>if r=G then do let ok <-isTrue c X.env (eval c X.env);pure (ud ok)else pure (ud r)) (TP X aa Z Q) X.xe s
def abj:TT:=fun _ H Q=>Q G H
def wQ(g:TG)(q:TT)(o:TE)(d:It)(j:St)(H1:Hp)(Q:VK):Prop:=∀a,H1 a=U->∃W:Nat->Nat->St->Hp->Prop,
 (∃m,W 0 m j<|br H1 a<|.lst [])/\∀i m f H',W i m f H' ->
  (d.stop i H'/\Q (.ref a) H')\/(d.go i H'/\∃M:St->Hp->Prop,(∀e h,M e h->∃n,n<m/\W (i+1) n e h)/\∀x h,d.gF i H' x h->g x f h fun c p=>q c p fun b l=>
   if b=G then o c l fun v k=>∃xs,k a=J (.lst xs)/\xs.length<Ta/\M c (br k a (.lst (xs++[v])))else M c l)
def Bm(ix:List<|Option Nat)(b:TI)(g:TG)(d:TT)(c:TE):TE:=fun Z H Q=>b Z H fun a H1=>wQ g d c a (mz ix Z) H1 Q
section
def Fv{Z e:St}(I:Inv X aa Z H s)(c:∀b∈fp,gE X aa H b)(a:Inv (jm X N scope ⟨cl,s.heap.objs.size,s,H,fp,aa⟩) [] e H' s')(g:X.tn<=s'.toks):
  Inv X aa Z H' s'/\(∃m,s'.heap.Ns s.heap.objs.size m)/\H' s.heap.objs.size=U/\gE X aa H' s.heap.objs.size:=by
 have u  := a.base;have I1  := I.call' a.os u a.Su a.bare fun b d=>⟨(c b d).2.2.2.1,(c b d).2.1,(c b d).2.2.2.2.1,(c b d).2.2.2.2.2⟩;obtain⟨m,f,_⟩:=a.loc;exact⟨I1,⟨m,f⟩,a.free,I.zT (mK _) a.free⟩
def ve{Z:St}{RR:nE->SA->Result->ID->Prop}
  (S:ko osc ON N ix scope) (hE:X.env.scope=osc) (hO:X.N=ON) (hc:X.calm=G) (hg:∀b,PG #[10] tg g) (ht:∀b,RI #[10] ifs tt)
  (he:∀(D:ID)(H0:Hp)(pl:TQ)(s':ID)(c:St)(H':Hp)(Q':VK)(j:SA),Inv X aa Z H0 D->(∀b∈fp,gE X aa H0 b)->(∀b∈fp,∃o,(b,o)∈pl)->Inv (jm X N scope ⟨fM X.env.cells scope.names [],D.heap.objs.size,D,H0,fp,aa⟩) ([]++pl) c H' s'->te c H' Q' ->
   SN #[0] X.A (eval elt (compEnvC scope (fM X.env.cells scope.names []) D.heap.objs.size X.env)) (EP (jm X N scope ⟨fM X.env.cells scope.names [],D.heap.objs.size,D,H0,fp,aa⟩) ([]++pl) c Q') (notedBy #[0] X.A (compEnvC scope (fM X.env.cells scope.names []) D.heap.objs.size X.env) fun e s''=>X.tn<=s''.toks->RR (.ref j) D.heap.objs.size (.error e) s'') s')
  (I:Inv X aa Z H s) (T:Turn X.prog X.w X.K tg Jq0 fp it tn) (st:tn 0 s.heap) (hfp:∀b∈fp,gE X aa H b) (q:wQ g tt te Jq0 (mz ix Z) H Q)
  (hRR:∀(j C:SA)(H':Hp)(s':ID),Inv X aa Z H' s'->(∃m,s'.heap.Ns C m)->H' C=U->gE X aa H' C->Q (.ref j) H'->RR (.ref j) C (.ok .next) s'):
  SN #[0] X.A (newList []) (fun j s₃=>SN #[0] X.A (newFunctionEnv scope X.env.globals (fM X.env.cells scope.names []) [] X.env.qual U .none<|J X.env) (fun F s₄=>
   qq #[0] X.A (.compStart #[4] 0 (.ref it) j {F with scope:=relabel scope X.env}) (RR j F.locals) s₄) E s₃) E s:=by
 refine tU<|wpAny_newFunctionEnv S.YS (by intro y hy;mright) (fun O k l=>?_) S.kind;dsimp only at k l⊢
 have I3:Inv X aa Z (br H s.heap.objs.size<|.lst []) {s with heap:=s.heap.push {cls:=.type "list",dict:=U,data:=.seq ([]:TK).toArray}}:=
  I.laid (t':=s.toks) (fun b o e=>iN _ e) (mK _) (show fK X.prog X.w _ _ _ (.lst [])from⟨Uh _,[],_,.nil,Vh _ rfl⟩)
 have hacc:H s.heap.objs.size=U:=I.Su.fresh<|mK _;have hfo:∀b∈fp,∃o,s.heap.get? b=J o:=fun b a=>let⟨o,e,_⟩:=T.obj 0 _ st b a;⟨o,e⟩;have fne:∀b∈fp,b≠s.heap.objs.size:=fun b a=>let⟨o,e⟩:=hfo b a;Vd (Tn e);have t:∀b∈fp,gE X aa (br H s.heap.objs.size<|.lst []) b:=fun b a=>⟨by rw[aG<|fne b a];exact(hfp b a).1,(hfp b a).2⟩;let⟨W,⟨m0,w0⟩,oO⟩:=q s.heap.objs.size hacc
 generalize hH2:s.heap.push {cls:=.type "list",dict:=U,data:=.seq ([]:TK).toArray}=h2 at *;have P:∀b o,h2.get? b=J o->O.get? b=J o:=fun b o e=>l.extBut b o (Vd<|Tn e)<|iN _ e;have V:∀b o,s.heap.get? b=J o->h2.get? b=J o:=fun b o e=>by rw[<-hH2];exact iN _ e
 have fin:∀s₄:ID,s₄={s with heap:=O,toks:=s₄.toks}->X.tn<=s₄.toks->qq #[0] X.A (.compLoop #[4] 0 (.ref it) (.ref s.heap.objs.size)<|compEnvC scope (fM X.env.cells scope.names []) h2.objs.size X.env)
   (RR (.ref s.heap.objs.size) h2.objs.size) s₄:=by
  intro s₄ e4 ht4;refine dk ht4 ?_;have J0:Inv (jm X N scope ⟨fM X.env.cells scope.names [],h2.objs.size,{s with heap:=h2},br H s.heap.objs.size<|.lst [],fp,aa⟩) [] (mz ix Z) (br H s.heap.objs.size<|.lst []) s₄:=
   Li (s:={s with heap:=h2}) I3 hE hO S t (fun b a=>let⟨o,e⟩:=hfo b a;⟨o,V b o e⟩) k P e4 ht4
  generalize hX:jm X N scope ⟨fM X.env.cells scope.names [],h2.objs.size,{s with heap:=h2},br H s.heap.objs.size<|.lst [],fp,aa⟩=Yq0 at J0;have eE:compEnvC scope (fM X.env.cells scope.names []) h2.objs.size X.env=Yq0.env:=by rw[<-hX];rfl
  have eP:X.prog=Yq0.prog:=by rw[<-hX];rfl
  have eW:X.w=Yq0.w:=by rw[<-hX];rfl
  have eA:X.A=Yq0.A:=by rw[<-hX];rfl
  have eK:X.K=Yq0.K:=by rw[<-hX];rfl
  have eC:Yq0.calm=G:=by rw[<-hX];exact hc
  have T':Turn Yq0.prog Yq0.w Yq0.K tg Jq0 fp it tn:=by rw[<-eP,<-eW,<-eK];exact T
  have PR:tn 0 s₄.heap:=T.keep _ _ _ st fun b a o e=>by rw[e4];exact P b o<|V b o e
  have R:∀{H':Hp},(∀b∈fp,H' b=U)->∀b∈fp,gE Yq0 [] H' b:=fun{H'}hn b a=>by
   rw[<-hX];have f:=hfp b a;refine⟨hn b a,?_,?_,.inl a,?_,?_⟩
   .have:=J0.ok.x9 b (by rw[<-hX];exact a)
    rw[<-hX]at this;exact this.1
   .have:=J0.ok.ZR b (by rw[<-hX];exact a)
    rw[<-hX]at this;exact this
   .have:=J0.ok.x9 b (by rw[<-hX];exact a)
    rw[<-hX]at this;exact this.2
   .intro p hp;have hp':p∈X.pn++aa:=by
     rcases BY.mp hp with z|z
     .exact z
     .cases z
    exact f.2.2.2.2.2 p hp'
  have accne:s.heap.objs.size∉fp:=fun z=>fne _ z rfl;have h:∀e s',Yq0.xe e s'->False:=by rw[<-hX];exact fun _ _ z=>z
  have hgY:PG Yq0 tg g:=by rw[<-hX];exact hg _
  have htY:RI Yq0 ifs tt:=by rw[<-hX];exact ht _
  rw[eE,eP,eW,eA];refine ond (fun n s'=>∃i c H',Inv Yq0 [] c H' s'/\tn i s'.heap/\(∀b∈fp,H' b=U)/\W i n c H') ?_ m0 ⟨0,mz ix Z,_,J0,PR,fun b a=>(t b a).1,w0⟩;intro n s5 q_;refine c7 q_ fun i σ5 H5 I5 st5 fr5 w5=>?_;left;rcases oO i n σ5 H5 w5 with⟨stop,qn⟩|⟨go,M,hM,step⟩
  .right;refine bP (T'.done Yq0 rfl rfl rfl eC i [] s5 σ5 H5 _ I5 (R fr5) st5 stop) ?_;rintro r s6⟨hr,I6⟩;subst hr;have I6':=I6;rw[<-hX]at I6';intro htk;let⟨a1,a2,a3,a4⟩:=Fv (s:={s with heap:=h2}) I3 t I6' htk
   exact hRR _ _ H5 s6 a1 a2 a3 a4 qn
  .right;refine bP (T'.item Yq0 rfl rfl rfl eC i [] s5 σ5 H5 _ I5 (R fr5) st5 go) ?_;rintro r s6⟨u,hr,h6⟩;subst hr;refine bP h6 ?_;intro _ s7 q_;refine y2 q_ fun x H7 I7 r7 y7 st7 fr7=>?_;have I7':=I7.pinned (R fr7)<|T.obj _ _ st7;refine UE (hgY _ s7 σ5 H7 x u _ I7' r7<|step x H7 y7) (fun _ s8 q_=>X7 q_ fun σ8 H8 I8 q8=>?_) fun e s' z=>(h e s' z).elim;refine UE (htY _ s8 σ8 H8 _ I8 q8) (fun ok s9⟨H9,I9,q9⟩=>?_) fun e s' z=>(h e s' z).elim;have again:∀{B:St}{Ha:Hp}{sa:ID},Inv Yq0 ([]++mL fp s7.heap) B Ha sa->M B Ha->∃m,m<n/\∃i c H',Inv Yq0 [] c H' sa/\tn i sa.heap/\(∀b∈fp,H' b=U)/\W i m c H':=fun{B Ha sa}Ia na=>by
    obtain⟨m',hm,wa⟩:=hM B Ha na
    refine⟨m',hm,i+1,B,Ha,Ia.p6,T.keep _ _ _ st7 fun b a o e=>(Ia.pin (b,o)<|OR _<|OR _<|ff a e).1,fun b a=>?_,wa⟩;obtain⟨o,e,d⟩:=T.obj _ _ st7 b a
    exact(Ia.pin (b,o)<|OR _<|OR _<|ff a e).2.1
   cases ok with
   |false=>
    rw[SM MK]at q9⊢;exact again I9 q9
   |true=>
    rw[SI rfl]at q9⊢;have I9':=I9;rw[<-hX]at I9';rw[<-eP,<-eW,<-eA,<-eE];refine UE (he {s with heap:=h2} _ _ s9 σ8 H9 _ _ I3 t (fun b a=>let⟨o,e,d⟩:=T.obj _ _ st7 b a;⟨o,ff a e⟩) I9' q9) (fun y sb⟨vb,Hb,Ib',rb,xs,hx,hz,nb⟩=>?_) fun _ _ z=>z;have Ib:Inv Yq0 ([]++mL fp s7.heap) σ8 Hb sb:=by rw[<-hX];exact Ib'
    rw[eP,eW,eA];refine UE (gq (X:=Yq0) _ sb σ8 Hb (.ref s.heap.objs.size) [vb] (.ref s.heap.objs.size) [y] (fun v H'=>M σ8 H') Ib rfl (.cons rb .nil) ⟨s.heap.objs.size,xs,vb,rfl,rfl,hx,hz,nb⟩) (fun _ sc q_=>Tw q_ fun vc Hc Ic rc nc=>?_) fun e s' z=>(h e s' z).elim;exact again Ic nc
 exact codeAny_compStart_list (fin _ rfl (by walk_at "tok"))<|T.self _ 0 _ _ _ (T.keep _ _ _ st fun b a o e=>P b o<|V b o e)<|fin _ rfl (by walk_at "tok")
def Ig(S:ko osc ON N ix scope)(n:X.env.scope=osc)(D:X.N=ON)(K:X.calm=G)(u:PI X tg iter wi)(t:∀b,PG #[10] tg g)(r:∀b,RI #[10] ifs tt)(P:∀b,PE #[10] elt te)
  (hs:(∀x,pg iter X.env x=pure x)<|>uN):PE X #[4]<|Bm ix wi g tt te:=by
 intro aa s Z H Q I h;have a:∀y∈scope.names,y.2=.free->∃c,X.env.cells.lookup y.1=J c:=fun y A e=>I.ok.has y.1 (by subst n;exact S.outs y A e);refine wpAny_comprehension_free rfl hs (j5 a) S.kind S.names (bP (u aa s Z H _ I h) fun v s1 h1=>bP h1 fun O s2 h2=>?_);left;refine c9 h2 fun it fp tn p H2 e w T i M q=>?_;right;subst e;refine ve S n D K t r (fun V W pl s' f H' B d _ _ _ l j=>UE (P _ _ s' f H' B l j) (fun _ _ z=>z) fun _ _ z=>z.elim) w T i M q fun d C H' s' l k hC F j=>?_;let⟨m,k⟩:=k
 refine⟨m,k,fun h' E=>⟨.ref d,H',?_,rfl,j⟩⟩;refine n4 F fun f0 f1 f2' f3 f4 f5=>?_
 exact l.turned (fun b o R e=>(E.2 b R).trans e) f0 f1 f3 f4 f5
def aeQ{spos pos':Pos}(Q:X.N.Nodup)(hx:X.N[i]?=J x)(hl:Loc X.env.scope x)(S:ko osc ON N ix scope)(w:X.env.scope=osc)(hO:X.N=ON)(hc:X.calm=G)(O:PI X tg iter wi)(M:∀b,PG #[10] tg g)(K:∀b,RI #[10] ifs tt)(he:∀b,PE #[10] elt te)
  (l:Uw #[4] (J<|.Name x pos') spos.line X.env=pure G<|>Rv)
  (hf:#[1]<|>XN)
  (hs:(∀x,pg iter X.env x=pure x)<|>uN):PS X (.Assign [.Name x pos'] #[4] spos)<|AL (Bm ix wi g tt te)<|ml i:=by
 intro aa s Z H D I h;rw[exec_Assign_Name_used _ _ _ _ l];refine iF<|wpAny_standAt<|iF ?_;have a:∀y∈scope.names,y.2=.free->∃c,X.env.cells.lookup y.1=J c:=fun y V e=>I.ok.has y.1 (by subst w;exact S.outs y V e);refine iF (UE (wpAny_comprehension_free rfl hs (j5 a) S.kind S.names
  (bP (O aa s Z H _ I h) fun v s1 h1=>bP h1 fun itv s2 h2=>?_)) (fun _ s' P=>U4 (U4 P)) fun _ _ e=>e)
 left;refine c9 h2 fun it fp tn E A e R T r f2 q=>?_;right;subst e;refine ve S w hO hc M K (fun s0 H0 pl s' n H' W d _ _ _ t p=>UE (he _ _ s' n H' W t p) (fun _ _ z=>z) fun _ _ z=>z.elim) R T r f2 q fun d C H' s' t k hC B p=>?_;let⟨m,k⟩:=k
 have j:∃o,s'.heap.get? C=J o/\∀v,o.data≠.cell v:=by
  refine WM k fun o es ep ho hd _=>?_
  mright
 have only:∀b∈[C],b=C:=fun b f=>by simpa using f
 have F:=t.pinned (fun b f=>(only b f)▸B) fun b f=>(only b f)▸j;refine UE (B4 Q hx hl hf (aa++mL [C] s'.heap) s' Z H' (.ref d) (.ref d) D.nx F rfl p) (fun _ s'' q_=>X7 q_ fun σ2 A u q2=>?_) fun _ _ z=>z;let⟨o,ho,hd⟩:=j
 have pn:=u.pin (C,o)<|OR _<|OR _<|ff ∅ ho;refine⟨m,k.at' fun o' e=>by simp_all,fun h' sb=>⟨σ2,A,?_,q2⟩⟩;refine n4 B fun f0 f1 f2' f3 f4 f5=>?_
 exact u.p6.turned (fun b o f e=>(sb.2 b f).trans e) pn.2.1 f1 f3 f4 f5
end
def tJ{K:aT}{St:Nat->T3->Prop}(W:∀A:Tx,A.handled=U->Walks P w A it [it] [it] n Pv St)
  (m:∀i h,St i h->∃(o:Obj)(nm:String)(vs:Array nE),h.get? it=J o/\o.cls=.type nm/\o.data=.fields vs/\["enumerate","zip","dict_itemiterator","dict_reverseitemiterator","odict_iterator","itertools.zip_longest","itertools.pairwise"].contains nm=η)
  (go:∀i H,Jq0.go i H->i<n) (t:∀i H u,Jq0.go i H->Pv i u->∃x,aP x u/\Jq0.gF i H x H) (r:∀i h H,Jq0.stop i H->St i h->St n h)
  (self:∀(A:Tx)(i:Nat)(s:ID)(Q:UB)(E:UB),St i s.heap->Q (.ref it) s->SN (UA P w) A (pyIter<|.ref it) Q E s):Turn P w K tg Jq0 [it] it St where
 mem:=∅
 obj:=fun i h st b a=>by
  grind
 keep:=fun i h h' st k=>(W {} rfl).frame i h h' st fun b a o e=>k b a o e
 item:=by
  intro X p hw q g i aa s Z H E I f st d;refine n4 (f it ∅) fun z B M F C D=>?_
  refine aO I.tk<|(W X.A<|I.ok.hd g).item i s _ _ (go i H d) st fun v h' tk y c l j=>?_;have I1  := I.turned (fun b o a e=>l b o (by simpa using a) e) z B F C D;left;let⟨x,rx,yx⟩:=t i H v d y
  refine c7 (m (i+1) h' c) fun o nm vs h1 h2 O N=>?_
  right;exact⟨v,rfl,BJ h1 h2 O N ⟨x,H,I1,rx,yx,c,fun b a=>(f b a).1⟩⟩
 done:=by
  intro X p hw q g i aa s Z H E I f st d;obtain⟨z,B,M,F,C,D⟩:=f it ∅
  exact aO I.tk<|(W X.A<|I.ok.hd g).done s _ _ (r i s.heap H d st) fun h' tk l j=>⟨rfl,I.turned (fun b o a e=>l b o (by simpa using a) e) z B F C D⟩
 self:=self
def VT(z:Str):It:=⟨fun i _=>i<z.length,fun i H x H'=>H'=H/\∃c,z.cps[i]?=J c/\x=.str ⟨#[c]⟩,fun i _=>i=z.length⟩
def Io(h:SignAt z i u):∃x,aP x u/\(VT z).gF i H x H:=by
 obtain⟨c,t,e1,rfl⟩:=h;exact⟨.str ⟨#[c]⟩,⟨t,rfl⟩,rfl,c,e1,rfl⟩
def Lk(bs:List Bool):(e6 bs.length).all (fun i=>(bs[i]?).getD G)=bs.all id:=by
 rw[iC,Ve,Ve];constructor
 .intro h b hb;obtain⟨i,hi,e⟩:=List.getElem_of_mem hb
  mright
 .intro h i hi;have a:=Qz.mp hi;rw[WT a];exact h _<|yL a
section
variable{X:Cx}
def Ro(K:aT)(xs:Se)(H:Hp)(Q:VK):Prop:=match xs with
 |[.ref p]=>∃bs:List Bool,gr K H p (bs.map V.bl)/\Q (.bl<|bs.all id) H
 |_=>False
def EB(K:aT)(l:X.calm=G)(k:X.K=K<|>Rv):bI X (.builtin "all")<|Ro K:=by
 subst k;intro aa s Z H xs us Q I r h;delta Ro at h;cbv
 case h_2=>mleft
 rename_i p;obtain⟨bs,hq,q⟩:=h
 obtain⟨u,rfl,n⟩:=jV r;subst n;obtain⟨aV,rv,pl,hz⟩:=I.list hq
 have j:X.A.in1.handled=U:=I.ok.hd l;refine aO I.tk<|call_all_walk<|wpAny_pyIter_list pl.isList ?_;have c:p≠s.heap.objs.size:=by
  obtain⟨o,ho,_⟩:=pl.isList
  exact Vd<|Tn ho
 refine⟨s.heap.objs.size,[s.heap.objs.size,p],[s.heap.objs.size],aV.toArray.size,_,_,fun i=>(bs[i]?).getD G,rfl,Walks.list j _ p c aV.toArray,⟨⟨_,Vh _ rfl,rfl,rfl⟩,Heap.IsList.push pl.isList _⟩,?_,?_⟩
 .intro i v s' Q' E' hv hQ';have hv'  := by simpa using hv
  have hi  := (rW.mp hv').1;have a:=rv.length;rw[WH]at a;have f:(bs.map V.bl)[i]?=J (V.bl bs[i]):=by
   simp
  obtain⟨u,hu,ru⟩:=rv.get f
  rw[hv']at hu;cases hu;subst ru;have d:Q' bs[i] s':=by
   mright
  exact iT d
 .intro h' tk hk;have g:Inv X aa Z H {s with heap:=s.heap.push {cls:=.type "list_iterator",data:=.fields #[.ref p,.int 0 0]}}:=I.kept fun b o e=>iN _ e;have e1:(e6 aV.toArray.size).all (fun i=>(bs[i]?).getD G)=bs.all id:=by
   have a:=rv.length;rw[WH]at a;rw[XC,<-a];exact Lk bs
  rw[e1];refine n4 (I.zT (mK _)<|I.Su.fresh<|mK _) fun t w B z x y=>?_
  exact fun m=>⟨.bl<|bs.all id,H,g.turned (fun b o f e=>hk b o (by simpa using f) e) t w z x y,rfl,q⟩
end
def PE.imp(h:PE X e t)(i:∀Z H Q,t' Z H Q->t Z H Q):PE X e t':=fun aa s Z H Q I q=>h aa s Z H Q I<|i Z H Q q
def eJ.imp(h:eJ X f r)(i:∀x y H Q,r' x y H Q->r x y H Q):eJ X f r':=fun aa s Z H x y v u Q I a b q=>h aa s Z H x y v u Q I a b<|i x y H Q q
def KD.imp(h:KD X f r)(i:∀x H Q,r' x H Q->r x H Q):KD X f r':=fun aa s Z H x v Q I a q=>h aa s Z H x v Q I a<|i x H Q q
def bI.imp(h:bI X f r)(i:∀xs H Q,r' xs H Q->r xs H Q):bI X f r':=fun aa s Z H xs us Q I a q=>h aa s Z H xs us Q I a<|i xs H Q q
def DX.imp(h:DX X r)(i:∀x y H Q,r' x y H Q->r x y H Q):DX X r':=fun value a aa s Z H x y v u Q I c b q hs=>h value a aa s Z H x y v u Q I c b (i x y H Q q) hs
section
variable{X:Cx}{a b:Ry}{ta tb:TE}{pos:Pos}{rest:List Ry}
def m8(o:Option<|Option V)(H:Hp)(Q:VK):Prop:=match o with
 |some (J v)=>Q v H
 |_=>False
def z8(i:Nat):TE:=fun Z H Q=>m8 Z[i]? H Q
def qv(i:Nat)(b:X.N[i]?=J x<|>Rv)(c:m6 X.env.scope x<|>uO)(hd:TN x<|>Sm)
  (a:#[2]=η<|>Sm):PE X (.Name x pos)<|z8 i:=(O9 b c hd a).imp fun Z H Q q=>by
 delta z8 m8 at q;split at q
 .rename_i v e;exact⟨v,e,q⟩
 .exact q.elim
def LwC(tb:TE)(Z:St)(Q:VK):VK:=fun x H1=>match x with
 |.bl c=>if c=G then tb Z H1 Q else Q (.bl η) H1
 |_=>False
def dct(ta tb:TE):TE:=fun Z H Q=>ta Z H<|LwC tb Z Q
def kOr(tb:TE)(Z:St)(Q:VK):VK:=fun x H1=>match x with
 |.bl c=>if c=G then Q (.bl G) H1 else tb Z H1 Q
 |_=>False
def uOr(ta tb:TE):TE:=fun Z H Q=>ta Z H<|kOr tb Z Q
def aaW(Q:VK):VK:=fun x H1=>match x with
 |.bl c=>Q (.bl<|!c) H1
 |_=>False
def abE(ta:TE):TE:=fun Z H Q=>ta Z H<|aaW Q
def afv(Q:Bool->Hp->Prop):VK:=fun x H'=>match x with
 |.bl k=>Q k H'
 |_=>False
def akT(t:TE):TT:=fun Z H Q=>t Z H<|afv Q
def ClE(K:aT)(Q:Bool->Hp->Prop):VK:=fun x H=>match x with
 |.S9=>Q η H
 |.bl b=>Q b H
 |.int i=>Q (i != 0) H
 |.str y=>y.length<=Ta/\Q ((y.length:Int) != 0) H
 |.ref p=>((∃xs,gr K H p xs/\Q (!xs.isEmpty) H)\/(∃xs,m7 K H p xs/\Q (!xs.isEmpty) H))\/∃a,H p=J (.dK a)/\Q (!a.isEmpty) H
 |_=>False
def EI(K:aT)(ta:TE):TT:=fun Z H Q=>ta Z H<|ClE K Q
theorem GU(K:aT)(k:PE X a ta)(j:∀c,isTrue a X.env c=(do let v <-c;jF a.pos;holding [v] (truthy v)))(g:X.K=K<|>Rv):
  PT X a (EI K ta):=by
 subst g;intro aa s Z H Q I h;refine isTrue_plain (bP (k aa s Z H _ I h) fun v f e=>jZ e fun x H1 d r1 q1=>Qg aa f Z H1 x v Q d r1 ?_)<|j _;cases x with
 |S9=>exact⟨_,rfl,q1⟩
 |bl b=>exact⟨_,rfl,q1⟩
 |int i=>exact⟨_,rfl,q1⟩
 |str y=>exact⟨_,⟨q1.1,rfl⟩,q1.2⟩
 |ref p=>
  rcases q1 with(⟨xs,h1,h2⟩|⟨xs,h1,h2⟩)|⟨xs,h1,h2⟩
  .exact⟨_,.inl ⟨xs,h1,rfl⟩,h2⟩
  .exact⟨_,.inr<|.inl ⟨xs,h1,rfl⟩,h2⟩
  .exact⟨_,.inr<|.inr ⟨xs,h1,rfl⟩,h2⟩
 |_=>exact q1.elim
def Sb:UL:=fun x y H Q=>match x,y with
 |.int i,.int j=>Q (.int<|i-j) H
 |_,_=>False
def aa3:eJ X (Yo .Sub) Sb:=afq.imp fun x y H Q q=>by
 delta Sb at q;split at q
 .exact⟨_,_,rfl,rfl,q⟩
 .exact q.elim
def Um:UL:=fun x y H Q=>match x,y with
 |.int i,.int j=>ET i j/\Q (.int<|i/j) H
 |_,_=>False
def aaM:eJ X (Yo .FloorDiv) Um:=Mb.imp fun x y H Q q=>by
 delta Um at q;split at q
 .exact⟨_,_,rfl,rfl,q.1,q.2⟩
 .exact q.elim
def Sz:UL:=fun x y H Q=>match x,y with
 |.int i,.int j=>0<j/\Q (.int<|i%j) H
 |_,_=>False
def nrc:eJ X (Yo .Mod) Sz:=Ot.imp fun x y H Q q=>by
 delta Sz at q;split at q
 .exact⟨_,_,rfl,rfl,q.1,q.2⟩
 .exact q.elim
def UU(x:V)(H:Hp)(Q:VK):Prop:=match x with
 |.int i=>Q (.int<|-i) H
 |_=>False
def adz:KD X (unaryOp .USub) UU:=Qs.imp fun x H Q q=>by
 delta UU at q;split at q
 .exact⟨_,rfl,q⟩
 .exact q.elim
def Dv:eJ X (UI .LtE) (fun x y H Q=>∃i j,x=.str i/\y=.str j/\Q (.bl<|!decide (j.cps.toList<i.cps.toList)) H):=by
 intro aa s Z H x y v u Q I b a h;obtain⟨i,j,rfl,rfl,q⟩:=h;obtain⟨t,rfl⟩:=b;obtain⟨t',rfl⟩:=a;exact P.le_str<|aB I q rfl
def DS:eJ X (UI .GtE) (fun x y H Q=>∃i j,x=.str i/\y=.str j/\Q (.bl<|!decide (i.cps.toList<j.cps.toList)) H):=by
 intro aa s Z H x y v u Q I b a h;obtain⟨i,j,rfl,rfl,q⟩:=h;obtain⟨t,rfl⟩:=b;obtain⟨t',rfl⟩:=a;exact P.ge_str<|aB I q rfl
def Db:eJ X (UI .Gt) (fun x y H Q=>∃i j,x=.str i/\y=.str j/\Q (.bl<|decide (j.cps.toList<i.cps.toList)) H):=by
 intro aa s Z H x y v u Q I b a h;obtain⟨i,j,rfl,rfl,q⟩:=h;obtain⟨t,rfl⟩:=b;obtain⟨t',rfl⟩:=a;exact P.gt_str<|aB I q rfl
def Xn:UL:=fun x y H Q=>match x,y with
 |.int i,.int j=>Q (.bl<|decide (i<j)) H
 |.str i,.str j=>Q (.bl<|decide (i.cps.toList<j.cps.toList)) H
 |_,_=>False
def Yy:UL:=fun x y H Q=>match x,y with
 |.int i,.int j=>Q (.bl<|decide (i<=j)) H
 |.str i,.str j=>Q (.bl<|!decide (j.cps.toList<i.cps.toList)) H
 |_,_=>False
def W9:UL:=fun x y H Q=>match x,y with
 |.int i,.int j=>Q (.bl<|decide (j<i)) H
 |.str i,.str j=>Q (.bl<|decide (j.cps.toList<i.cps.toList)) H
 |_,_=>False
def XA:UL:=fun x y H Q=>match x,y with
 |.int i,.int j=>Q (.bl<|decide (j<=i)) H
 |.str i,.str j=>Q (.bl<|!decide (i.cps.toList<j.cps.toList)) H
 |_,_=>False
def ZV:eJ X (UI .Lt) Xn:=(TW.or Dt).imp fun x y H Q q=>by
 delta Xn at q;split at q
 .exact .inl ⟨_,_,rfl,rfl,q⟩
 .mright
 .exact q.elim
def Zd:eJ X (UI .LtE) Yy:=(kIn.or Dv).imp fun x y H Q q=>by
 delta Yy at q;split at q
 .exact .inl ⟨_,_,rfl,rfl,q⟩
 .mright
 .exact q.elim
def YY:eJ X (UI .Gt) W9:=(hok.or Db).imp fun x y H Q q=>by
 delta W9 at q;split at q
 .exact .inl ⟨_,_,rfl,rfl,q⟩
 .mright
 .exact q.elim
def Y0:eJ X (UI .GtE) XA:=(Cls.or DS).imp fun x y H Q q=>by
 delta XA at q;split at q
 .exact .inl ⟨_,_,rfl,rfl,q⟩
 .mright
 .exact q.elim
theorem HG:eJ X (UI .Is) (fun x y H Q=>∃j,y=.bl j/\Q (.bl<|decide (x=.bl j)) H):=by
 intro aa s Z H x y v u Q I a b h;obtain⟨j,rfl,q⟩:=h;subst b;cases x with
 |bl i=>subst a;exact yH rfl (aB I q<|⊥)
 |S9=>subst a;exact yH rfl (aB I q<|by rfl)
 |int i=>obtain⟨t,rfl⟩:=a;exact yH rfl (aB I q<|by rfl)
 |str i=>obtain⟨t,rfl⟩:=a;exact yH rfl (aB I q<|by rfl)
 |X4 i=>obtain⟨t,rfl⟩:=a;exact yH rfl (aB I q<|by rfl)
 |xH i=>obtain⟨t,rfl⟩:=a;exact yH rfl (aB I q<|by rfl)
 |ref i=>subst a;exact yH rfl (aB I q<|by rfl)
 |ty i=>subst a;exact yH rfl (aB I q<|by rfl)
theorem aca:eJ X (UI .IsNot) (fun x y H Q=>∃j,y=.bl j/\Q (.bl<|!decide (x=.bl j)) H):=by
 intro aa s Z H x y v u Q I a b h;obtain⟨j,rfl,q⟩:=h;subst b;cases x with
 |bl i=>subst a;exact yj rfl (aB I q<|by cases i<;>cases j<;>rfl)
 |S9=>subst a;exact yj rfl (aB I q<|by rfl)
 |int i=>obtain⟨t,rfl⟩:=a;exact yj rfl (aB I q<|by rfl)
 |str i=>obtain⟨t,rfl⟩:=a;exact yj rfl (aB I q<|by rfl)
 |X4 i=>obtain⟨t,rfl⟩:=a;exact yj rfl (aB I q<|by rfl)
 |xH i=>obtain⟨t,rfl⟩:=a;exact yj rfl (aB I q<|by rfl)
 |ref i=>subst a;exact yj rfl (aB I q<|by rfl)
 |ty i=>subst a;exact yj rfl (aB I q<|by rfl)
noncomputable def BI:V->V->Bool
 |.S9,.S9=>G
 |.bl i,.bl j=>i==j
 |_,_=>η
def Wu:UL:=fun x y H Q=>match y with
 |.S9=>Q (.bl<|BI x .S9) H
 |.bl j=>Q (.bl<|BI x<|.bl j) H
 |_=>False
def z6:UL:=fun x y H Q=>match y with
 |.S9=>Q (.bl<|!BI x .S9) H
 |.bl j=>Q (.bl<|!BI x (.bl j)) H
 |_=>False
def BG(x:V):decide (x=.S9)=BI x .S9:=by cases x<;>rfl
theorem Eo(x:V)(j:Bool):decide (x=.bl j)=BI x (.bl j):=by
 cases x with
 |bl i=>cases i<;>cases j<;>rfl
 |_=>trivial
def Zi:eJ X (UI .Is) Wu:=(Qr.or HG).imp fun x y H Q q=>by
 delta Wu at q;split at q
 .exact .inl ⟨rfl,by rw[BG];exact q⟩
 .exact .inr ⟨_,rfl,by rw[Eo];exact q⟩
 .exact q.elim
def Gu:eJ X (UI .IsNot) z6:=(Lc.or aca).imp fun x y H Q q=>by
 delta z6 at q;split at q
 .exact .inl ⟨rfl,by rw[BG];exact q⟩
 .exact .inr ⟨_,rfl,by rw[Eo];exact q⟩
 .exact q.elim
def TD(K:aT):UL:=fun x y H Q=>match x,y with
 |.str z,.int i=>∃c,z.length<=Ta/\Uq z.cps.toList i=J c/\Q (.str ⟨#[c]⟩) H
 |.ref p,.int i=>∃xs v,(gr K H p xs\/m7 K H p xs)/\Uq xs i=J v/\Q v H
 |_,_=>False
def WL(K:aT)(b:X.K=K<|>Rv):DX X<|TD K:=by
 subst b;exact(OP.imp fun x y H Q q=>by
   delta TD at q;split at q
   .obtain⟨c,h1,h2,a⟩:=q
    exact .inr (.inr ⟨_,_,c,rfl,rfl,h1,h2,a⟩)
   .obtain⟨xs,v,h1|h1,h2,a⟩:=q
    .exact .inl ⟨_,xs,_,v,rfl,rfl,h1,h2,a⟩
    .exact .inr (.inl ⟨_,xs,_,v,rfl,rfl,h1,h2,a⟩)
   .exact q.elim)
def PJ(K:aT)(xs:Se)(H:Hp)(Q:VK):Prop:=match xs with
 |[.str y]=>y.length<=Ta/\Q (.int y.length) H
 |[.ref p]=>∃ys,(gr K H p ys\/m7 K H p ys)/\Q (.int ys.length) H
 |_=>False
def U1(K:aT)(a:X.K=K<|>Rv):bI X (.builtin "len")<|PJ K:=by
 subst a;exact((Spl.or abR).imp fun xs H Q q=>by
   delta PJ at q;split at q
   .mright
   .mright
   .exact q.elim)
def Sh(xs:Se)(H:Hp)(Q:VK):Prop:=match xs with
 |[.int i]=>Q (.int i) H
 |[.bl k]=>Q (.int<|if k=G then 1 else 0) H
 |_=>False
def Z06:bI X (.type "int") Sh:=DM.imp fun xs H Q q=>by
 delta Sh at q;split at q
 .mright
 .mright
 .exact q.elim
end
noncomputable def al:Ry->Bool
 |.Starred ..=>η
 |_=>G
def bC(h:al e=G):Uu (e::es) env=(η,eval e env)::Uu es env:=by
 cases e<;>first|rfl|nofun
def bH:∀{es:List Ry},es.all al=G->(X3 pos<|Uu es env).any (·.1)=η:=@TB _ _ (@fun _=>rfl) fun e es i_=>@fun h=>by
  rw[Vg,oR]at h;rw[bC h.1];have a:=i_ h.2;assumption
def Jr(b:PE X e te)(c:PA X es t)(a:al e=G<|>Rv):PA X (e::es)<|uM te t:=Kz b c<|bC a
section
variable{p pos:Pos}{id:String}
def akI(c:bI X (.builtin id) r)(b:X.mg x=U)(g:Vl x=J (.builtin id))(d:PA X (e::es) t)(f:Gl X x<|>Rv)(h1:al e=G<|>Rv)(h2:es.all al=G<|>Rv)(h:#[27]<|>Sm)(a:TN x<|>Sm):
  PE X #[3] (RD r t):=GF c f b g d h a (bC h1)<|bH h2
def abp(c:bI X (.type T) r)(b:X.mg x=U)(g:Vl x=J (.type T))(d:PA X (e::es) t)(f:Gl X x<|>Rv)(h1:al e=G<|>Rv)(h2:es.all al=G<|>Rv)(h:#[27]<|>Sm)(a:TN x<|>Sm):
  PE X #[3] (RD r t):=Dw c f b g d h a (bC h1)<|bH h2
end
def EH:Vl "len"=J (.builtin "len"):=⊤
def Hw:Vl "str"=J (.type "str"):=⊤
def zP:Vl "int"=J (.type "int"):=⊤
def sU:Vl "tuple"=J (.type "tuple"):=⊤
def Z62{pos:Pos}(a:X.mg x=U)(c:Vl x=J (.type n))(b:Gl X x<|>Rv)(d:#[27]<|>Sm)(hd:TN x<|>Sm):PE X (.Name x pos)<|tC<|.ty n:=
 Ks b a c rfl d hd
def kQ(T C:String):Bool:=T==C||(T=="bool"&&C=="int")
noncomputable def qm(C:String):Bool:=C=="str"||C=="int"||C=="bool"||C=="list"||C=="tuple"||C=="dict"
def gZ{K:aT}(b:T="NoneType"\/T="bool"\/T="int"\/T="str"\/T="list"\/T="tuple"\/T="dict")(c:qm C=G):S7 K (.type T) (.type C)=J (kQ T C):=by
 have a:C="str"\/C="int"\/C="bool"\/C="list"\/C="tuple"\/C="dict":=by
  delta qm at c
  lia
 rcases b with h|h|h|h|h|h|h<;>subst h<;>rcases a with h|h|h|h|h|h<;>subst h<;>first|rfl|trivial
section
variable{X:Cx}
def abf(Q:Option Int->Hp->Prop):VK:=fun x H1=>match x with
 |.int i=>Q (J i) H1
 |_=>False
def alg(t:TE):TO:=fun Z H Q=>t Z H<|abf Q
def rY(z:Str)(lo a:Option Int):Str:=⟨((z.cps.toList.drop<|HT.T5 z.length 0 lo).take<|HT.T5 z.length z.length a-HT.T5 z.length 0 lo).toArray⟩
def Mu(v:Int)(n d:Nat):max 0 (min (if v<0 then v+(n:Int)else v) (n:Int))=((HT.T5 n d (J v):Nat):Int):=by
 show _=(((if v<0 then(v+n).toNat else min v.toNat n):Nat):Int)
 split<;>lia
theorem loS(lo:Option Int)(n:Nat):(match lo with|none=>(0:Int)|some i=>max 0<|min (if i<0 then i+(n:Int)else i) (n:Int))=((HT.T5 n 0 lo:Nat):Int):=by
 cases lo with
 |none=>rfl
 |some v=>exact Mu v n 0
theorem hiS(a:Option Int)(n:Nat):(match a with|none=>(n:Int)|some i=>max 0<|min (if i<0 then i+(n:Int)else i) (n:Int))=((HT.T5 n n a:Nat):Int):=by
 cases a with
 |none=>rfl
 |some v=>exact Mu v n n
def Ty(lo a:Option Int)(n:Nat):rL lo a 1 n=sliceRange ((HT.T5 n 0 lo:Nat):Int) ((HT.T5 n n a:Nat):Int) 1:=by
 rw[<-loS,<-hiS];rfl
def JTs(a b n:Nat)(c:a<=n)(d:b<=n):rL (J (a:Int)) (J (b:Int)) 1 n=sliceRange (a:Int) (b:Int) 1:=by
 rw[Ty,HT.rG,HT.rG,Lv c,Lv d]
def ae3(z:Str)(lo hi:Option Int):Txt.slice z lo hi=rY z lo hi:=by
 have f:=HT.G6 z.length 0 (Uh _) lo;have d:=HT.G6 z.length z.length (mK _) hi;delta Txt.slice;rw[Ty,<-JTs _ _ _ f d];delta rY;generalize HT.T5 z.length 0 lo=a at f⊢;generalize HT.T5 z.length z.length hi=b at d⊢;by_cases c:a<=b
 .exact StrLaws.sliceText_nat z c d
 .have e:rL (J a) (J b) 1 z.length=[]:=by
   have h1:((1:Int) > 0)=True:=∅
   have g:¬((a:Int)<0):=⊥
   have i:¬((b:Int)<0):=⊥
   have e1:max 0 (min a z.length)=a:=by mright
   have e2  := by omega
   simp only[rL,sliceRange,h1,if_true,SM g,SM i,e1,e2];rw[SM<|by grind];rfl
  have e0:b-a=0:=by grind
  rw[e,e0];split
  .rename_i h;have hz  := by
    have h'  := by simpa using h
    exact h'.symm
   apply Str.ext'
   exact Array.eq_empty_of_size_eq_zero hz
  .rfl
def Lb(z:Str)(lo a:Option Int):(rY z lo a).length<=z.length:=by
 delta rY;simp[ye];lia
theorem QD:V2 X (fun x lo a H Q=>∃z,x=.str z/\z.length<=Ta/\Q (.str<|rY z lo a) H):=by
 intro aa s Z H x v r y lo a g Q I o hs pl f h;obtain⟨z,rfl,m,q⟩:=h;obtain⟨t,rfl⟩:=o;have fin:∀(l u:Option<|Int×Tok),l.map (·.1)=lo->u.map (·.1)=a->s.heap.IsSlice g l u U->SN #[0] X.A (e8 (.str z t)<|.ref g) (EP X aa Z Q) X.xe s:=fun l u e1 n b=>by
  refine aO I.tk<|wpAny_getItem_str_slice b rfl ?_;subst e1 n;refine post_val_or_str ?_;have e:(if(((U:Option<|Int×Tok).map (·.1)).getD 1==1&&(slicePicked z l u U).length==z.length)=G then z else⟨((slicePicked z l u U).filterMap (z.cps[·]?)).toArray⟩)=Txt.slice z (l.map (·.1)) (u.map (·.1)):=rfl;rw[e,ae3];exact⟨RW (Lb _ _ _) m,fun t' k p=>⟨.str _,H,I.tok _,⟨t',rfl⟩,q⟩⟩
 refine⟨"str",_,F.slot_str_getitem.lookup,typeIs_str s z t,?_⟩;cases pl with
 |none=>
  cases f with
  |none=>exact fin U U rfl rfl hs
  |int j c=>exact fin U (J (j,c)) rfl rfl hs
 |int i d=>
  cases f with
  |none=>exact fin (J (i,d)) U rfl rfl hs
  |int j c=>exact fin (J (i,d)) (J (j,c)) rfl rfl hs
variable{tg:Ry}
def kIt(K:aT)(R:It->Hp->Prop):VK:=fun x H1=>match x with
 |.str z=>R (VT z) H1
 |.ref a=>((∃xs,gr K H1 a xs)/\R (XI K a) H1)\/((∃xs,m7 K H1 a xs)/\R (WQ K a) H1)
 |_=>False
def Zv(K:aT)(tl:TE):TI:=fun Z H R=>tl Z H<|kIt K R
theorem Oc(K:aT)(B:PE X l tl)(y:X.K=K<|>Rv):PI X tg l<|Zv K tl:=by
 subst y;intro aa s Z H R I h;refine bP (B aa s Z H _ I h) fun v j w=>jZ w fun x H1 g r1 q1=>?_;cases x with
 |str z=>
  obtain⟨t,rfl⟩:=r1;have f:∀b∈[j.heap.objs.size],gE X aa H1 b:=fun b r=>by
   have e  := by simpa using r
   subst e;exact g.zT (mK _)<|g.Su.fresh<|mK _
  cases ha:z.cps.all (·<128)
  .refine wpAny_pyIter_wide ha ?_;exact⟨j.heap.objs.size,[j.heap.objs.size],_,_,H1,rfl,g.kept fun b o e=>iN _ e,(fun it z t =>  tJ (fun A n=>Walks.strWide n it z t) (fun i h C=>gL C fun o e c d=>⟨o,_,_,e,c,d,by rfl⟩) (fun i H h=>h) (fun i H u _ h=>Io h) (fun i h H e st=>by
     have k:i=z.cps.size:=e;rw[<-k];exact st) fun A i s Q E st h=>wpAny_pyIter_striter_wide st h) _ z t,⟨_,Vh _ rfl,rfl,rfl⟩,f,q1⟩
  .refine wpAny_pyIter_ascii ha ?_;exact⟨j.heap.objs.size,[j.heap.objs.size],_,_,H1,rfl,g.kept fun b o e=>iN _ e,(fun it z t =>  tJ (fun A n=>Walks.strAscii n it z t) (fun i h C=>gL C fun o e c d=>⟨o,_,_,e,c,d,by rfl⟩) (fun i H h=>h) (fun i H u _ h=>Io h) (fun i h H e st=>by
     have k:i=z.cps.size:=e;rw[<-k];exact st) fun A i s Q E st h=>wpAny_pyIter_striter_ascii st h) _ z t,⟨_,Vh _ rfl,rfl,rfl⟩,f,q1⟩
 |ref a=>
  subst r1;have f:∀b∈[j.heap.objs.size],gE X aa H1 b:=fun b r=>by
   have e  := by simpa using r
   subst e;exact g.zT (mK _)<|g.Su.fresh<|mK _
  rcases q1 with⟨⟨xs,m⟩,q⟩|⟨⟨xs,m⟩,q⟩
  .obtain⟨aV,rv,p,hz⟩:=g.list m
   refine wpAny_pyIter_list p.isList ?_;exact⟨j.heap.objs.size,[j.heap.objs.size],_,_,H1,rfl,g.kept fun b o e=>iN _ e,D0 a _,⟨_,Vh _ rfl,rfl,rfl⟩,f,q⟩
  .obtain⟨aV,rv,p,hz⟩:=g.tuple m
   refine wpAny_pyIter_tuple ((p)) ?_;exact⟨j.heap.objs.size,[j.heap.objs.size],_,_,H1,rfl,g.kept fun b o e=>iN _ e,AI a _,⟨_,Vh _ rfl,rfl,rfl⟩,f,q⟩
 |_=>exact q1.elim
def N4(R:It->Hp->Prop):Se->Hp->Prop:=fun vs H1=>match vs with
 |[.int j]=>(-(2^62)<=j/\j<2^62)/\R (V5 0 j.toNat) H1
 |_=>False
def Mw(ta:TA):TI:=fun Z H R=>ta Z H<|N4 R
def Dg(d:Gl X "range")(b:X.mg "range"=U)(g:PA X [a] ta)(hs:Uu [a] X.env=[(η,eval a X.env)]<|>Rv):PI X tg (.Call (.Name "range" p) [a] [] pos)<|Mw ta:=by
 intro aa s Z H R I h;refine Call_<|tw I d b boot_range<|tL (bP (g pos aa s Z H _ I h) fun us i e=>jZ e fun vs H1 c r1 q1=>?_) hs rfl;unfold N4 at q1;split at q1
 .obtain⟨⟨q2,q3⟩,q⟩:=q1
  cases r1 with
  |cons r f=>
   cases f;obtain⟨t,rfl⟩:=r;exact call_range_1 (G8 c ∅ ∅ q2 q3<|by simpa using q)
 .exact q1.elim
def ak9(r:Str->Se->Hp->VK->Prop)(z:Str)(Q:VK):Se->Hp->Prop:=fun xs a=>r z xs a Q
def kSM(r:Str->Se->Hp->VK->Prop)(t:TA)(Z:St)(Q:VK):VK:=fun x H1=>match x with
 |.str z=>t Z H1<|ak9 r z Q
 |_=>False
def Zr(r:Str->Se->Hp->VK->Prop)(a:TE)(t:TA):TE:=fun Z H Q=>a Z H<|kSM r t Z Q
def Oj(X:Cx)(id:String)(r:Str->Se->Hp->VK->Prop):Prop:=
 ∀(aa:TQ)(s:ID)(Z:St)(H:Hp)(z:Str)(t:Tok)(xs:Se)(us:TK)(Q:VK),Inv X aa Z H s->aU xs us->r z xs H Q ->
  SN #[0] X.A (call (.builtin id)<|.str z t::us) (EP X aa Z Q) X.xe s
theorem aaz{apos cpos:Pos}{id:String}(d:Slot "str" name id)(i:typeOf (.builtin id)=pure (.type "method_descriptor"))(m:Oj X id r)(u:PE X o to)(w:PA X (e::es) t)
  (c:#[13]<|>Rv)
  (f:((X3 cpos<|Uu (e::es) X.env).all (fun x=>!x.1)&&(backToKw cpos<|jh [] X.env).all (fun x=>x.1.isSome)
   && decide ((e::es).length+([]:List zS).length+(if([]:List zS).isEmpty then 0 else 1)<30))=G:=by rfl)
  (b:#[6]=G<|>Rv) (hs:#[16]<|>Rv) (a:(X3 cpos<|Uu es X.env).any (·.1)=η<|>Rv):
  PE X #[24] (Zr r to t):=by
 intro aa s Z H Q I h;refine wpAny_Call_method_late c f b rfl (bP (u aa s Z H _ I h) fun v j g=>jZ g fun x H1 n r1 q1=>?_);cases x with
 |str z=>
  obtain⟨l,rfl⟩:=r1;refine⟨"str",id,KR,d,i,typeIs_str j z l,(fun _ e=>nomatch e),?_⟩
  have k:=w cpos aa j Z H1 _ n q1;rw[hs]at k⊢;refine rN (by show(η||(X3 cpos<|Uu es X.env).any (·.1))=η;rw[a]<;>rfl)<|sE ?_;exact bP k fun us y g=>jZ g fun vs q p r2 q2=>m aa y Z q z l vs us Q p r2 q2
 |_=>exact q1.elim
def VH(f:Str->Str->V)(z:Str)(xs:Se)(H:Hp)(Q:VK):Prop:=match xs with
 |[.str y]=>Q (f z y) H
 |_=>False
def ut:Oj X "str.startswith"<|VH fun x y=>.bl<|pQ x y:=by
 intro aa s Z H z t xs us Q I r h;delta VH at h;cbv
 .obtain⟨u,rfl,t',rfl⟩:=jV r;exact SC.startswith ⟨.bl _,H,I,rfl,h⟩
 .mleft
end
structure Def(K:aT)(mg:Sq)(x:Str)(st:SU)(ps:SH)(f:SA)(fd:Wj):Prop where
 F:UD K x x st f fd
 b:cf K fd ps []
 m:mg x=J (.ref f)
section
variable{st:SU}{p pos:Pos}
def R7(sp:Sp)(t:TA):TE:=fun Z H Q=>t Z H fun vs H1=>sp vs H1 Q E0
section
variable{st:SU}{p pos:Pos}
def pc(D:Def X.K X.mg x st ps f fd)(SK:T8 X.prog X.w X.K X.mg X.base lD j f fd ps sp)(l:TZ k X.A)(g:PA X (e::es) t)(d:j<=k<|>Sm)(n:Gl X x<|>Rv)(a:(x==#[20])=η<|>Sm)
  (h1:al e=G<|>Rv) (h2:es.all al=G<|>Rv):PE X #[3]<|R7 sp t:=by
 have i:starEach (e::es) X.env=(η,eval e X.env)::starEach es X.env:=bC h1;have c:(backTo pos<|starEach es X.env).any (·.1)=η:=bH h2;intro aa s Z H Q I h;refine wpAny_Call_Name_kw<|dD I n D.m ?_ a;refine yw (h₀:=X.base) I.ok.mod.XM D.F.kp (bP (g pos aa s Z H _ I h) fun us s1 q0_=>Tw q0_ fun vs H1 I1 r q=>⟨I1.U3,?_⟩) i c;exact IV (dvs:=[]) SK (l.mono d) D.b .nil NJ I1 r (by rw[Wz];exact q)
end
end
def bR(h:H p=U)(o:HO):ah H<|br H p o:=fun b u q=>by rw[aG<|bc q h];exact q
def ah.Wt{K:aT}(e:ah H H')(h:m7 K H a xs):m7 K H' a xs:=by
 rcases h with(h|⟨o,h⟩)|h
 .exact .inl (.inl<|e _ _ h)
 .exact .inl (.inr ⟨o,e _ _ h⟩)
 .exact .inr h
section
variable{K:aT}
def cdD(r:UL)(x:V)(Q:VK):VK:=fun y a=>r x y a Q
def Xbx(r:UL)(tb:TE)(Z:St)(Q:VK):VK:=fun x H1=>tb Z H1<|cdD r x Q
end
structure JE(X:Cx)(e:Ry)(t:TE):Prop where
 out:PE X e t
structure JT(X:Cx)(e:Ry)(t:TT):Prop where
 out:PT X e t
structure JW(X:Cx)(e:Ry)(t:TT):Prop where
 out:PW X e t
structure JA(X:Cx)(es:List Ry)(t:TA):Prop where
 out:PA X es t
structure JS(X:Cx)(st:SU)(t:TS):Prop where
 out:PS X st t
structure JB(X:Cx)(st:List SU)(t:TS):Prop where
 out:IR X st t
structure JG(X:Cx)(e:Ry)(t:TG):Prop where
 out:PG X e t
structure YW(X:Cx)(es:List Ry)(t:Mg):Prop where
 out:VP X es t
structure JI(X:Cx)(tg e:Ry)(t:TI):Prop where
 out:PI X tg e t
structure JO(X:Cx)(e:Option Ry)(t:TO):Prop where
 out:PO X e t
structure Yq(X:Cx)(es:List Ry)(t:TT):Prop where
 out:RI X es t
section
variable{X:Cx}{pos:Pos}{rest:List Ry}
def jv(i:Nat)(b:X.N[i]?=J x<|>Rv)(c:m6 X.env.scope x<|>uO)(hd:TN x<|>Sm)
  (a:#[2]=η<|>Sm):JE X (.Name x pos)<|z8 i:=⟨qv i b c hd a⟩
def SG:JE X (.Constant (.int i) j pos)<|tC<|.int i:=⟨AE⟩
def lsm{b j pos}:JE X (.Constant (.bool b) j pos)<|tC<|.bl b:=⟨(fun _ _ _ H _ I h=>Constant_bool ⟨.bl b,H,I,rfl,h⟩)⟩
def akQ:JE X (.Constant .none j pos)<|tC .S9:=⟨(fun _ _ _ H _ I h=>Constant_none ⟨.S9,H,I,rfl,h⟩)⟩
def aaH:JE X (.Constant (.str x) j pos)<|tC<|.str x:=⟨Jg⟩
def OC(b:X.mg x=J u)(r:aP v u)(a:Gl X x<|>Rv)(hd:TN x<|>Sm):JE X (.Name x pos)<|tC v:=⟨JN a b r hd⟩
def frf(a:X.mg x=U)(c:Vl x=J (.type n))(b:Gl X x<|>Rv)(d:#[27]<|>Sm)(hd:TN x<|>Sm):JE X (.Name x pos)<|tC<|.ty n:=⟨Z62 a c b d hd⟩
def Wn(e:eJ X (Yo op) r)(c:JE X a ta)(d:JE X b tb):JE X (.BinOp a op b pos)<|NB r ta tb:=⟨(by
    intro aa s Z H Q I h;exact wpAny_BinOp<|Ou c.out d.out I h fun v u i x y d c j f q=>e aa i Z d x y v u Q c j f q)⟩
def Z26(c:KD X (unaryOp op) r)(e:JE X a ta):JE X (.UnaryOp op a pos)<|tUn r ta:=⟨(by
  intro aa s Z H Q I h;exact UnaryOp_ (bP (e.out aa s Z H _ I h) fun v b f=>jZ f fun x H1 d r1 q1=>c aa b Z H1 x v Q d r1 q1))⟩
def abh(d:JE X a ta):JE X (.UnaryOp .Not a pos)<|abE ta:=⟨(by
  intro aa s Z H Q I h;refine UnaryOp_<|bP (d.out aa s Z H _ I h) fun v f e=>jZ e fun x H1 b r1 q1=>?_;cases x with
  |bl c=>
   subst r1;exact not_of<|iT ⟨.bl<|!c,H1,b,rfl,q1⟩
  |_=>exact q1.elim)⟩
def afx(g:JE X a ta)(i:JE X (.BoolOp .And (b::rest) pos) tb):JE X (.BoolOp .And (a::b::rest) pos)<|dct ta tb:=⟨(by
  intro aa s Z H Q I h;refine BoolOp_and<|bP (g.out aa s Z H _ I h) fun v f e=>jZ e fun x H1 d r1 q1=>?_;cases x with
  |bl c=>
   subst r1;refine iT ?_;cases c with
   |true=>exact i.out aa f Z H1 Q d q1
   |false=>exact⟨.bl η,H1,d,rfl,q1⟩
  |_=>exact q1.elim)⟩
def abk(g:JE X a ta)(i:JE X (.BoolOp .Or (b::rest) pos) tb):JE X (.BoolOp .Or (a::b::rest) pos)<|uOr ta tb:=⟨(by
  intro aa s Z H Q I h;refine BoolOp_or<|bP (g.out aa s Z H _ I h) fun v f e=>jZ e fun x H1 d r1 q1=>?_;cases x with
  |bl c=>
   subst r1;refine iT ?_;cases c with
   |false=>exact i.out aa f Z H1 Q d q1
   |true=>exact⟨.bl G,H1,d,rfl,q1⟩
  |_=>exact q1.elim)⟩
def lrc(e:eJ X (UI op) r)(c:JE X a ta)(d:JE X b tb)(f:t8 op b=η):JE X (.Compare a [op] [b] pos)<|NB r ta tb:=⟨(fun f i l c => by
    intro aa s Z H Q I h;exact wpAny_Compare1 (Ou i l I h fun v u j x y e d k g q=>f aa j Z e x y v u Q d k g q) c) e c.out d.out f⟩
def QJ(o:eJ X (UI op) r)(p:JE X a ta)(t:JE X b tb)(f:t8 op b=η):JT X (.Compare a [op] [b] pos)<|akT<|NB r ta tb:=⟨(by
  intro aa s Z H Q I h;refine wpAny_isTrue_Compare1 (bP (p.out aa s Z H _ I h) fun v j d=>jZ d fun x H1 g r1 q1=>bP (t.out aa j Z H1 _ g q1) fun u q d=>jZ d fun y m l r2 q2=>
   bP (o aa q Z m x y v u _ l r1 r2 q2) fun c w d=>jZ d fun z i n r3 e=>?_) f
  cases z with
  |bl k=>
   subst r3;exact iT ⟨i,n,e⟩
  |_=>exact e.elim)⟩
def N9(e:JT X c tA)(f:JE X a ta)(g:JE X b tb):JE X (.IfExp c a b pos)<|tIf tA ta tb:=⟨(by
  intro aa s Z H Q I h;refine wpAny_IfExp<|bP (e.out aa s Z H _ I h) ?_;rintro d s1⟨H1,I1,q1⟩;cases d with
  |true=>exact f.out aa s1 Z H1 Q I1 q1
  |false=>exact g.out aa s1 Z H1 Q I1 q1)⟩
def Cc(h:JW X a tA):JT X a tA:=⟨h.out.pt⟩
def CW(b:JT X a tA):JW X (.BoolOp .And [a] pos) tA:=⟨(by
  intro f aa s Z H Q I h;refine isTrue_and<|bP (b.out aa s Z H Q I h) fun c d e=>?_;cases c with
  |true=>exact isTrue_and_nil e
  |false=>exact e)⟩
def IT(b:JT X a tA):JW X (.BoolOp .Or [a] pos) tA:=⟨(by
  intro f aa s Z H Q I h;refine isTrue_or<|bP (b.out aa s Z H Q I h) fun c d e=>?_;cases c with
  |false=>exact isTrue_or_nil e
  |true=>exact e)⟩
def Hq(d:JT X a tA)(f:JW X (.BoolOp .And (b::rest) pos) tB'):JW X (.BoolOp .And (a::b::rest) pos)<|abx tA tB':=⟨(by
  intro e aa s Z H Q I h;refine isTrue_and<|bP (d.out aa s Z H _ I h) ?_;rintro c s1⟨H1,I1,q1⟩;cases c with
  |true=>exact f.out e aa s1 Z H1 Q I1 q1
  |false=>exact⟨H1,I1,q1⟩)⟩
def MC(d:JT X a tA)(f:JW X (.BoolOp .Or (b::rest) pos) tB'):JW X (.BoolOp .Or (a::b::rest) pos)<|tOr tA tB':=⟨(by
  intro e aa s Z H Q I h;refine isTrue_or<|bP (d.out aa s Z H _ I h) ?_;rintro c s1⟨H1,I1,q1⟩;cases c with
  |true=>exact⟨H1,I1,q1⟩
  |false=>exact f.out e aa s1 Z H1 Q I1 q1)⟩
def GZ(b:JT X a tA):JT X (.UnaryOp .Not a pos)<|akU tA:=⟨(by
  intro aa s Z H Q I h;exact isTrue_not (b.out aa s Z H (fun c H1=>Q (!c) H1) I h))⟩
def yR(K:aT)(d:JE X a ta)(c:(∀b,isTrue a X.env b=(do let v <-b;jF a.pos;holding [v] (truthy v)))<|>gK)(e:X.K=K<|>Rv):JT X a<|EI K ta:=⟨GU K d.out c e⟩
def eD:JA X [] DG:=⟨(fun _ _ _ _ H Q I h=>Oh ⟨[],H,I,.nil,h⟩)⟩
def bU(b:JE X e te)(c:JA X es t)(a:al e=G<|>Rv):JA X (e::es)<|uM te t:=⟨Jr b.out c.out a⟩
def Hi(h:JA X es t):JE X (.List es pos)<|akP t:=⟨(by
  intro aa s Z H Q I a;refine wpAny_List_spliced (bP (h.out pos aa s Z H _ I a) fun us d f=>US f fun xs H1 c r z q=>⟨by rw[<-r.length];exact z,?_⟩);have hf  := c.Su.fresh (mK _);refine⟨.ref d.heap.objs.size,br H1 d.heap.objs.size (.lst xs),c.laid (fun b u e=>iN _ e) (mK _) ?_,rfl,q _ hf⟩;exact⟨z,us,0,r,Vh _ rfl⟩)⟩
def Ci(h:JA X es t):JE X (.Tuple es x1 pos)<|aaQ t:=⟨(by
  intro aa s Z H Q I a;refine wpAny_Tuple_spliced (bP (h.out pos aa s Z H _ I a) fun us d f=>US f fun xs H1 c r z q=>⟨by rw[<-r.length];exact z,?_⟩);have hf  := c.Su.fresh (mK _);refine⟨.ref d.heap.objs.size,br H1 d.heap.objs.size (.tup xs),c.laid (fun b u e=>iN _ e) (mK _) ?_,rfl,q _ hf⟩;exact⟨z,us,r,⟨_,Vh _ rfl,rfl,_,rfl⟩⟩)⟩
def SV(c:DX X r)(g:JE X a ta)(k:JE X b tb)(hs:rh b<|>k7):JE X (.Subscript a b pos)<|NB r ta tb:=⟨(by
  intro aa s Z H Q I h;exact Subscript_ (Ou g.out k.out I h fun v u i x y e d j f q=>c a b aa i Z e x y v u Q d j f q (hs _ _)))⟩
def Kt:JO X U J2:=⟨(by
  intro aa s Z H Q I h;exact U4 ⟨U,H,I,.none,h⟩)⟩
def Jx(h:JE X e te):JO X (J e)<|alg te:=⟨(by
  intro aa s Z H Q I hw;refine bP (h.out aa s Z H _ I hw) fun u c b=>jZ b fun x H1 a r1 q1=>?_;cases x with
  |int i=>
   obtain⟨t,rfl⟩:=r1;exact⟨J i,H1,a,.int i t,q1⟩
  |_=>exact q1.elim)⟩
def Ml{lo a:Option Ry}(d:V2 X r)(j:JE X e te)(k:JO X lo tl)(i:JO X a th):JE X (.Subscript e (.Slice lo a U p2) pos)<|tSl r te tl th:=⟨(by
  intro aa s Z H Q I h;refine Subscript_<|bP (j.out aa s Z H _ I h) fun v g f=>jZ f fun x H1 c r1 q1=>?_;refine wpAny_Slice<|bP (k.out aa g Z H1 _ c q1) ?_;intro vl s2 q0_;refine Tw q0_ fun l H2 I2 pl q2=>?_;refine bP (i.out aa s2 Z H2 _ I2 q2) ?_;intro vu s3 q1_;refine Tw q1_ fun u H3 I3 pu q3=>?_;refine U4 ?_;have m:Inv X aa Z H3 {s3 with heap:=s3.heap.push {cls:=.type "slice",data:=.fields #[vl,vu,.none]}}:=I3.kept fun b n q=>iN _ q;let⟨T,id,hT,ht,hg⟩:=d aa {s3 with heap:=s3.heap.push {cls:=.type "slice",data:=.fields #[vl,vu,.none]}} Z H3 x v vl vu l u s3.heap.objs.size Q m r1 (Heap.IsSliceOf.new ..) pl pu q3
  exact tail_any ht hT hg (by rfl))⟩
section
variable{st:SU}{p pos:Pos}{id:String}
def ahR(D:Def X.K X.mg x st ps f fd)(SK:T8 X.prog X.w X.K X.mg X.base lD j f fd ps sp)(d:TZ k X.A)(c:JA X (e::es) t)(b:j<=k<|>Sm)(g:Gl X x<|>Rv)(a:(x==#[20])=η<|>Sm)
  (h1:al e=G<|>Rv) (h2:es.all al=G<|>Rv):JE X #[3]<|R7 sp t:=⟨pc D SK d c.out b g a h1 h2⟩
end
end
section
variable{st:SU}{p pos:Pos}{id:String}
def AX(c:bI X (.builtin id) r)(b:X.mg x=U)(g:Vl x=J (.builtin id))(d:JA X (e::es) t)(f:Gl X x<|>Rv)(h1:al e=G<|>Rv)(h2:es.all al=G<|>Rv)(h:#[27]<|>Sm)(a:TN x<|>Sm):
  JE X #[3] (RD r t):=⟨akI c b g d.out f h1 h2 h a⟩
def BN(c:bI X (.type T) r)(b:X.mg x=U)(g:Vl x=J (.type T))(d:JA X (e::es) t)(f:Gl X x<|>Rv)(h1:al e=G<|>Rv)(h2:es.all al=G<|>Rv)(h:#[27]<|>Sm)(a:TN x<|>Sm):
  JE X #[3] (RD r t):=⟨abp c b g d.out f h1 h2 h a⟩
end
section
variable{apos cpos:Pos}{id:String}
def tz(h:es.all al=G)(a:es.length<29):((X3 pos<|Uu es env).all (fun x=>!x.1)&&(backToKw pos<|jh [] env).all (fun x=>x.1.isSome)
   && decide (es.length+([]:List zS).length+(if([]:List zS).isEmpty then 0 else 1)<30))=G:=by
 have h1:(X3 pos<|Uu es env).all (fun x=>!x.1)=G:=by
  have:=bH (env:=env) (pos:=pos) h
  mright
 rw[h1];show(G&&G&&decide (es.length+0+0<30))=G
 lia
def afp(d:Slot "str" name id)(f:typeOf (.builtin id)=pure (.type "method_descriptor"))(h:Oj X id r)(g:JE X o to)(i:JA X (e::es) t)
  (a:#[13]<|>Rv) (c:#[6]=G<|>Rv) (h1:(e::es).all al=G<|>Rv) (j:(e::es).length<29<|>Sm):
  JE X #[24] (Zr r to t):=by
 have b:=h1;rw[Vg,oR]at b;exact⟨aaz d f h g.out i.out a (tz h1 j) c (bC b.1)<|bH b.2⟩
end
section
variable{tg elt:Ry}{pos:Pos}
def Kf:Yq X [] abj:=⟨(fun _ _ _ H _ I h=>wpAny_tests_nil ⟨H,I,h⟩)⟩
def J9(h:JT X c tt):Yq X [c] tt:=⟨(fun aa s Z H Q I q=>wpAny_tests_one<|h.out aa s Z H Q I q)⟩
def Qa(a:zr osc ON N ix scope=G)(j:JI X tg iter wi)(i:∀b,JG #[10] tg g)(h:∀b,Yq #[10] ifs tt)(c:∀b,JE #[10] elt te)
  (d:X.env.scope=osc<|>Rv) (f:X.N=ON<|>Rv) (e:X.calm=G<|>Rv) (hs:(∀x,pg iter X.env x=pure x)<|>uN):JE X #[4]<|Bm ix wi g tt te:=
 ⟨Ig (N5 a) d f e j.out (fun b=>(i b).out) (fun b=>(h b).out) (fun b=>(c b).out) hs⟩
def Ap{spos pos':Pos}(h:X.N.Nodup)(p:Loc X.env.scope x)(c:zr osc ON N ix scope=G)(f:JI X tg iter wi)(e:∀b,JG #[10] tg g)(d:∀b,Yq #[10] ifs tt)(n:∀b,JE #[10] elt te)
  (l:X.N[i]?=J x<|>Rv) (j:X.env.scope=osc<|>Rv) (k:X.N=ON<|>Rv) (m:X.calm=G<|>Rv)
  (a:Uw #[4] (J<|.Name x pos') spos.line X.env=pure G<|>Rv)
  (o:#[1]<|>XN)
  (hs:(∀x,pg iter X.env x=pure x)<|>uN):JS X (.Assign [.Name x pos'] #[4] spos)<|AL (Bm ix wi g tt te)<|ml i:=
 ⟨aeQ h l p (N5 c) j k m f.out (fun b=>(e b).out) (fun b=>(d b).out) (fun b=>(n b).out) a o hs⟩
def OQ(K:aT)(a:JE X l tl)(b:X.K=K<|>Rv):JI X tg l<|Zv K tl:=⟨Oc K a.out b⟩
def D8{p pos:Pos}(b:X.mg "range"=U)(c:JA X [a] ta)(d:Gl X "range"<|>Rv)(e:al a=G<|>Rv):JI X tg (.Call (.Name "range" p) [a] [] pos)<|Mw ta:=⟨Dg d b c.out<|bC e⟩
end
section
variable{pos:Pos}{st:SU}{rest:List SU}
def Jy(a:X.N.Nodup)(b:X.N[i]?=J x)(d:Loc X.env.scope x)(c:#[1]<|>XN):JG X (.Name x pos)<|ml i:=⟨B4 a b d c⟩
def JV:YW X [] abU:=⟨(by
  intro aa s Z H vs us Q I r h;obtain⟨e,h⟩:=h
  exact assignInOrder_nil ⟨Z,H,I,h⟩)⟩
def Ii{t:TG}{u:Mg}(h1:JG X e t)(h2:YW X es u)
  (hs:(Wh (e::es) X.env).map (·.2)=assign e X.env::(Wh es X.env).map (·.2)<|>Rv):YW X (e::es)<|My t u:=⟨E7 h1.out h2.out hs⟩
def afy(K:aT){k:Nat}{t:Mg}{n:Nat}(h:YW X es t)(b:X.calm=G<|>Rv)
  (d:(Wh es X.env).length=n<|>Rv) (a:(Wh es X.env).findIdx? (·.1)=U<|>Rv) (c:X.K=K<|>Rv):JG X (.Tuple es k pos)<|SF K n t:=by
 subst c;exact⟨PM b h.out d a⟩
def Hu:JB X [] NV:=⟨(fun _ _ Z H _ I h=>h8 ⟨Z,H,I,h⟩)⟩
def C0(h1:JS X st t)(h2:JB X rest u):JB X (st::rest)<|JGs t u:=⟨(by
  intro aa s Z H D I h;refine wpAny_execs_cons<|bP (h1.out aa s Z H {D with nx:=u D} I h) fun f b q=>?_;cases f with
  |next=>
   obtain⟨a,H',c,q⟩:=q;exact h2.out aa b a H' D c q
  |ret v=>exact q
  |brk=>exact q
  |cont=>exact q)⟩
def GK(h1:JS X st t):JB X [st] t:=⟨(by
  intro aa s Z H D I h;refine wpAny_execs_cons<|bP (h1.out aa s Z H D I h) fun f a q=>?_;cases f with
  |next=>exact h8 q
  |ret v=>exact q
  |brk=>exact q
  |cont=>exact q)⟩
def Ki:JS X (.Pass pos) NV:=⟨(fun _ _ Z H _ I h=>wpAny_Pass ⟨Z,H,I,h⟩)⟩
def n9(a:JE X e te)(hs:Uw e U pos.line X.env=pure η<|>Rv):JS X (.Expr e pos)<|GP te:=⟨L9 a.out hs⟩
def Fh(a:JE X e te):JS X (.Return (J e) pos)<|Fam te:=⟨(by
  intro aa s Z H D I h;exact wpAny_Return_some (bP (a.out aa s Z H _ I h) fun v d c=>jZ c fun x H1 b r1 q1=>⟨x,Z,H1,b,r1,q1⟩))⟩
def Kc:JS X (.Return U pos) aaA:=⟨(fun _ _ Z H _ I h=>wpAny_Return_none ⟨.S9,Z,H,I,rfl,h⟩)⟩
def N6(e:JT X c tc)(f:JB X a t)(g:JB X b u):JS X (.If c a b pos)<|abO tc t u:=⟨(by
  intro aa s Z H D I h;refine wpAny_If<|bP (e.out aa s Z H _ I h) ?_;rintro d s1⟨H1,I1,q1⟩;cases d with
  |true=>exact f.out aa s1 Z H1 D I1 q1
  |false=>exact g.out aa s1 Z H1 D I1 q1)⟩
def pw{pos':Pos}(a:X.N.Nodup)(f:Loc X.env.scope x)(b:JE X e te)(d:X.N[i]?=J x<|>Rv)(hs:Uw e (J<|.Name x pos') pos.line X.env=pure η<|>Rv)(c:#[1]<|>XN):
  JS X (.Assign [.Name x pos'] e pos) (AL te<|ml i):=⟨Rc a d f b.out hs c⟩
section
variable{pos:Pos}{st:SU}{rest:List SU}
def ahT(a:JE X e te)(b:JG X tg g)(hs:swapsWithSole [tg] e pos.line X.env=pure η<|>Rv)(hw:swappedStores [tg] e X.env=pure U<|>Rv)
  (h1:(assignEach [tg] X.env).map (·.2)=[assign tg X.env]<|>Rv):JS X (.Assign [tg] e pos)<|AL te g:=⟨ah1 a.out b.out hs hw h1⟩
end
section
variable{pos:Pos}{st:SU}{rest:List SU}
def ahS{t:E9}(a:JE X o to)(c:JE X i ti)(hs:E8 X t)
  (b:∀v,assign (.Subscript o i pos) X.env v=(do
   let ov <-holding [v] (eval o X.env)
   let iv <-holding [v,ov] (eval i X.env)
   standAt pos
   holding [v,ov,iv] (setItem ov iv v)
   release [v,ov,iv] []):=by intro _;rfl):JG X (.Subscript o i pos) (VZ to ti t):=⟨ah0 a.out c.out hs b⟩
end
def QE(d:zJ #[0] X.A X.env X.xe)(c:JI X tg iter wi)(b:JG X tg g)(e:JB X body tb)(a:X.calm=G<|>Rv)
  (hs:(∀x,pg iter X.env x=pure x)<|>uN):JS X (.For tg iter body [] pos)<|Uz wi g tb:=⟨OL d a c.out b.out e.out hs⟩
def yn(e:zJ #[0] X.A X.env X.xe)(j:JT X c tc)(k:JB X body tb):JS X (.While c body [] pos)<|Rk tc tb:=⟨(by
  intro aa s Z H D I h;obtain⟨W,⟨i,g⟩,oO⟩:=h;refine wpAny_While<|codeAny_whileLoop (fun n s'=>∃a H',Inv X aa a H' s'/\W n a H') ?_ i ⟨Z,H,I,g⟩;rintro n s1 ⟨σ1,H1,I1,w1⟩;refine eN e<|bP (j.out aa s1 σ1 H1 _ I1<|oO n σ1 H1 w1) ?_;rintro b s2⟨H2,I2,q2⟩;cases b with
  |true=>
   obtain⟨N,hN,q2⟩:=q2
   refine eN e<|bP (k.out aa s2 σ1 H2 _ I2 q2) fun f l d=>?_;cases f with
   |next=>
    obtain⟨σ3,H3,I3,n3⟩:=d
    obtain⟨m',hm,w3⟩:=hN σ3 H3 n3
    exact⟨m',hm,σ3,H3,I3,w3⟩
   |cont=>
    obtain⟨σ3,H3,I3,n3⟩:=d
    obtain⟨m',hm,w3⟩:=hN σ3 H3 n3
    exact⟨m',hm,σ3,H3,I3,w3⟩
   |brk=>exact d
   |ret v=>exact d
  |false=>
   exact h8 ⟨σ1,H2,I2,q2⟩)⟩
end
section
variable{K:aT}
def UD.okJ{st:SU}(F:UD K x qual st f fd)(S:Vr N ps<|ai st)(len:∀vs H Q E,sp vs H Q E->vs.length=ps.length)
  (c:∀(b:nE)(_:Ea K b qual=G)(A:Tx)(a:List Env)(s:ID)(H:Hp)(vs:Se)(Q:VK)(E:XK),TZ k (A.deeper<|W7 qual (ai st) s.heap.objs.size f b)->sp vs H Q E ->
   ∃t,JB (gw lD P w K mg base N qual (ai st) f b A a s H E).Xe (bL st) t/\t {nx:=fun _ H'=>Q .S9 H',rt:=Q} (start N vs) H):T8 P w K mg base lD (k+1) f fd ps sp:=
 F.ok S len fun b e A a s H vs Q E d h=>let⟨t,h1,h2⟩:=c b e A a s H vs Q E d h;⟨t,h1.out,h2⟩
end
def JE.imp(h:JE X e t)(i:∀Z H Q,t' Z H Q->t Z H Q):JE X e t':=⟨h.out.imp i⟩
def JT.imp(h:JT X e t)(i:∀Z H Q,t' Z H Q->t Z H Q):JT X e t':=⟨fun aa s Z H Q I q=>h.out aa s Z H Q I<|i Z H Q q⟩
def JW.imp(h:JW X e t)(i:∀Z H Q,t' Z H Q->t Z H Q):JW X e t':=⟨fun w aa s Z H Q I q=>h.out w aa s Z H Q I<|i Z H Q q⟩
def JA.imp(h:JA X es t)(i:∀Z H Q,t' Z H Q->t Z H Q):JA X es t':=⟨fun pos aa s Z H Q I q=>h.out pos aa s Z H Q I<|i Z H Q q⟩
def JS.imp{st:SU}(h:JS X st t)(i:∀D Z H,t' D Z H->t D Z H):JS X st t':=⟨fun aa s Z H D I q=>h.out aa s Z H D I<|i D Z H q⟩
def JB.imp{st:List SU}(h:JB X st t)(i:∀D Z H,t' D Z H->t D Z H):JB X st t':=⟨fun aa s Z H D I q=>h.out aa s Z H D I<|i D Z H q⟩
def JG.imp(h:JG X e t)(i:∀v Z H Q,t' v Z H Q->t v Z H Q):JG X e t':=⟨fun aa s Z H v u Q I r q=>h.out aa s Z H v u Q I r<|i v Z H Q q⟩
def YW.imp(h:YW X es t)(i:∀v Z H Q,t' v Z H Q->t v Z H Q):YW X es t':=⟨fun aa s Z H v u Q I r q=>h.out aa s Z H v u Q I r<|i v Z H Q q⟩
def JI.imp(h:JI X tg e t)(i:∀Z H R,t' Z H R->t Z H R):JI X tg e t':=⟨fun aa s Z H R I q=>h.out aa s Z H R I<|i Z H R q⟩
def JO.imp(h:JO X e t)(i:∀Z H Q,t' Z H Q->t Z H Q):JO X e t':=⟨fun aa s Z H Q I q=>h.out aa s Z H Q I<|i Z H Q q⟩
def Yq.imp(h:Yq X es t)(i:∀Z H Q,t' Z H Q->t Z H Q):Yq X es t':=⟨fun aa s Z H Q I q=>h.out aa s Z H Q I<|i Z H Q q⟩
inductive D where
 |S9|bl (b:Bool)|int (i:Int)|str (x:Str)|ty (n:String)
 |lst (xs:List D)|tup (xs:List D)|Xx (kvs:List<|Key×D)|obj (x:Str) (fs:List<|Str×D)
 /-- an exception that was caught,by aV class's name;a class of the text -/
 |jT (x:Str)|cls (x:Str)
 /-- a list of which it is qm that it was laid anew (it may be changed) -/
 |WK (xs:List D)
 /-- a dict that is not changed any more -/
 |fu (kvs:List<|Key×D)
abbrev Rx:=List D
def aln(a C:SA):HO:=.ext fun h=>∃o vs,h.get? a=J o/\o.cls=.ref C/\o.dict=U/\o.data=.fields vs
section
variable(K:aT)(H:Hp)
mutual
def bQ:D->V->Prop
 |.S9,v=>v=.S9
 |.bl b,v=>v=.bl b
 |.int i,v=>v=.int i
 |.str x,v=>v=.str x
 |.ty n,v=>v=.ty n
 |.lst ds,v=>∃a xs,v=.ref a/\gr K H a xs/\ay ds xs
 |.tup ds,v=>∃a xs,v=.ref a/\m7 K H a xs/\ay ds xs
 |.Xx ds,v=>∃a xs,v=.ref a/\H a=J (.dK xs)/\pK ds xs
 |.obj x fs,v=>∃a C c xs,v=.ref a/\DO K By x=J #[14]/\H a=J (.ins C c xs)/\qS fs xs
 |.jT x,v=>∃a C,v=.ref a/\DO K By x=J #[14]/\H a=J (aln a C)
 |.cls x,v=>∃C,v=.ref C/\DO K By x=J #[14]
 |.WK ds,v=>∃a xs,v=.ref a/\H a=J (.lst xs)/\ay ds xs
 |.fu ds,v=>∃a o xs,v=.ref a/\H a=J (.WC o<|.dK xs)/\pK ds xs
def ay:Rx->Se->Prop
 |[],xs=>xs=[]
 |d::ds,xs=>∃v vs,xs=v::vs/\bQ d v/\ay ds vs
def pK:List (Key×D)->List (Key×V)->Prop
 |[],xs=>xs=[]
 |(k,d)::ds,xs=>∃v vs,xs=(k,v)::vs/\bQ d v/\pK ds vs
def qS:List (Str×D)->List (Str×V)->Prop
 |[],xs=>xs=[]
 |(k,d)::ds,xs=>∃v vs,xs=(k,v)::vs/\bQ d v/\qS ds vs
end
end
section
variable{K:aT}{H H':Hp}
mutual
theorem bQ.mono(s:ah H H'):∀{d:D}{v:V},bQ K H d v->bQ K H' d v
 |.S9,_,h=>h
 |.bl _,_,h=>h
 |.int _,_,h=>h
 |.str _,_,h=>h
 |.ty _,_,h=>h
 |.lst ds,_,⟨a,xs,e,h1,h2⟩=>⟨a,xs,e,s.seq h1,ay.mono s h2⟩
 |.tup ds,_,⟨a,xs,e,h1,h2⟩=>⟨a,xs,e,s.Wt h1,ay.mono s h2⟩
 |.Xx ds,_,⟨a,xs,e,h1,h2⟩=>⟨a,xs,e,s _ _ h1,pK.mono s h2⟩
 |.obj x ds,_,⟨a,C,dx,xs,e,h0,h1,h2⟩=>⟨a,C,dx,xs,e,h0,s _ _ h1,qS.mono s h2⟩
 |.jT _,_,⟨a,C,e,h1,h2⟩=>⟨a,C,e,h1,s _ _ h2⟩
 |.cls _,_,h=>h
 |.WK ds,_,⟨a,xs,e,h1,h2⟩=>⟨a,xs,e,s _ _ h1,ay.mono s h2⟩
 |.fu ds,_,⟨a,o,xs,e,h1,h2⟩=>⟨a,o,xs,e,s _ _ h1,pK.mono s h2⟩
theorem ay.mono(s:ah H H'):∀{d:Rx}{v:Se},ay K H d v->ay K H' d v
 |[],_,h=>h
 |d::ds,_,⟨v,vs,e,h1,h2⟩=>⟨v,vs,e,bQ.mono s h1,ay.mono s h2⟩
theorem pK.mono(s:ah H H'):∀{d:List<|Key×D}{v:List<|Key×V},pK K H d v->pK K H' d v
 |[],_,h=>h
 |(k,d)::ds,_,⟨v,vs,e,h1,h2⟩=>⟨v,vs,e,bQ.mono s h1,pK.mono s h2⟩
theorem qS.mono(s:ah H H'):∀{d:List<|Str×D}{v:List<|Str×V},qS K H d v->qS K H' d v
 |[],_,h=>h
 |(k,d)::ds,_,⟨v,vs,e,h1,h2⟩=>⟨v,vs,e,bQ.mono s h1,qS.mono s h2⟩
end
theorem ay.len:∀{ds:Rx}{xs:Se},ay K H ds xs->ds.length=xs.length:=@TB _ _ (@fun _ h=>by subst h;rfl) fun d ds i_=>@fun _ q1_=>Tw q1_ fun v vs e h1 h2=>by subst e;simp[i_ h2]
theorem ay.get:∀{ds:Rx}{xs:Se}{i:Nat}{d:D},ay K H ds xs->ds[i]?=J d->∃v,xs[i]?=J v/\bQ K H d v
 |[],_,_,_,_,e=>by mright
 |d::ds,_,0,_,⟨v,vs,e,h1,h2⟩,q=>by
  mright
 |d::ds,_,i+1,_,⟨v,vs,e,h1,h2⟩,q=>by
  obtain⟨u,b,a⟩:=ay.get h2 (by assumption);mright
theorem ay.got:∀{ds:Rx}{xs:Se}{i:Nat}{v:V},ay K H ds xs->xs[i]?=J v->∃d,ds[i]?=J d/\bQ K H d v
 |[],_,_,_,h,e=>by subst h;mright
 |d::ds,_,0,_,⟨v,vs,e,h1,h2⟩,q=>by
  mright
 |d::ds,_,i+1,_,⟨v,vs,e,h1,h2⟩,q=>by
  subst e;obtain⟨u,b,a⟩:=ay.got h2 (by assumption);mright
def ay.nil:ay K H [] []:=rfl
def ay.cons(h:bQ K H d v)(t:ay K H ds xs):ay K H (d::ds)<|v::xs:=⟨v,xs,rfl,h,t⟩
def ay.append:∀{ds es:Rx}{xs ys:Se},ay K H ds xs->ay K H es ys->ay K H (ds++es) (xs++ys):=@TB _ _ (@fun _ _ _ h t=>by subst h;exact t) fun d ds i_=>@fun _ _ _ q3_ t=>Tw q3_ fun v vs e h1 h2=>by subst e;exact⟨v,_,rfl,h1,i_ h2 t⟩
theorem ay.take:∀{ds:Rx}{xs:Se}(n:Nat),ay K H ds xs->ay K H (ds.take n) (xs.take n)
 |_,_,0,_=>by rfl
 |[],_,n+1,h=>by subst h;exact rfl
 |d::ds,_,n+1,⟨v,vs,e,h1,h2⟩=>by subst e;exact⟨v,_,rfl,h1,ay.take n h2⟩
section
variable{K:aT}{H H':Hp}
theorem ay.drop:∀{ds:Rx}{xs:Se}(n:Nat),ay K H ds xs->ay K H (ds.drop n) (xs.drop n)
 |_,_,0,h=>h
 |[],_,n+1,h=>by nofun;exact rfl
 |d::ds,_,n+1,⟨v,vs,e,h1,h2⟩=>by subst e;exact ay.drop n h2
end
section
variable{K:aT}{H H':Hp}
theorem ay.set{d:D}{v:V}(r:bQ K H d v):∀{ds:Rx}{xs:Se}(i:Nat),ay K H ds xs->ay K H (ds.set i d) (xs.set i v)
 |[],_,_,h=>by nofun;exact rfl
 |d'::ds,_,0,⟨v,vs,e,h1,h2⟩=>by subst e;exact⟨_,_,rfl,r,h2⟩
 |d'::ds,_,i+1,⟨v,vs,e,h1,h2⟩=>by subst e;exact⟨_,_,rfl,h1,ay.set r i h2⟩
end
end
def aj(as:Sf)(H:Hp):Hp:=fun b=>if b∈as then U else H b
def bT(h:b∈as):aj as H b=U:=SI h
def av(h:b∉as):aj as H b=H b:=SM h
def Ge:aj [] H=H:=by funext b;exact SM ∅
def aD(as:Sf)(H:Hp):ah (aj as H) H:=fun b o e=>by
 delta aj at e;mright
def aA(s:ah H H'):ah (aj as H)<|aj as H':=fun b o e=>by
 delta aj at e⊢;split at e
 .cases e
 .rename_i h;rw[SM h];exact s b o e
def t7(as bs:Sf)(H:Hp):aj (as++bs) H=aj bs (aj as H):=by
 funext b
 delta aj
 grind
def kD(h:∀a∈bs,a∈as):ah (aj as H)<|aj bs H:=fun b o e=>by
 by_cases c:b∈as
 .rw[bT c]at e;cases e
 .rw[av c]at e;rw[av fun z=>c<|h b z];exact e
def lH(s:ah B H)(h:∀a∈as,B a=U):ah B<|aj as H:=fun b o e=>by
 have c:b∉as:=fun z=>by mright
 rw[av c];exact s b o e
inductive R(α:Type) where
 |ok (a:α)
 |er (x:Str)
 |no
noncomputable def R.bind{α β:Type}(r:R α)(f:α->R β):R β:=match r with
 |.ok a=>f a
 |.er x=>.er x
 |.no=>.no
theorem am{a:α}{f:α->R β}:(R.ok a).bind f=f a:=rfl
def bind_assoc(r:R α)(f:α->R β)(g:β->R γ):(r.bind f).bind g=r.bind fun a=>(f a).bind g:=by cases r<;>rfl
structure Wd where
 K:aT
 mg:Str->Option nE
 E:XK
abbrev Sd:=List<|Option D
def cP(W:Wd)(as:Sf)(H:Hp)(r:R D)(Q:VK):Prop:=match r with
 |.ok d=>∀v H',ah H H'->bQ W.K (aj as H') d v->Q v H'
 |.er x=>∀e C H',ah H H'->W.mg x=J (.ref C)->W.E e (J C) H'
 |.no=>False
def ib(W:Wd)(as:Sf)(H:Hp)(r:R<|Rx)(Q:Se->Hp->Prop):Prop:=match r with
 |.ok d=>∀v H',ah H H'->ay W.K (aj as H') d v->Q v H'
 |.er x=>∀e C H',ah H H'->W.mg x=J (.ref C)->W.E e (J C) H'
 |.no=>False
def gf{α:Type}(W:Wd)(H:Hp)(r:R α)(Q:α->Hp->Prop):Prop:=match r with
 |.ok b=>∀H',ah H H'->Q b H'
 |.er x=>∀e C H',ah H H'->W.mg x=J (.ref C)->W.E e (J C) H'
 |.no=>False
def kL(K:aT)(H:Hp)(o:HO):D->Prop
 |.lst ds=>∃xs,o=.lst xs/\ay K H ds xs
 |.Xx ds=>∃xs,o=.dK xs/\pK K H ds xs
 |.obj x ds=>∃C a xs,o=.ins C a xs/\DO K By x=J #[14]/\qS K H ds xs
 |_=>False
def kX(W:Wd)(as:Sf)(H:Hp)(r:R D)(Q:VK):Prop:=match r with
 |.ok d=>∀p o H',ah H H'->H p=U->H' p=J o->kL W.K (aj (p::as) H') o d->Q (.ref p) H'
 |.er x=>∀e C H',ah H H'->W.mg x=J (.ref C)->W.E e (J C) H'
 |.no=>False
theorem cP.mono(h:cP W as H r Q)(s:ah H H'):cP W as H' r Q:=by
 cases r with
 |ok d=>exact fun v b a=>h v b<|s.trans a
 |er x=>exact fun e C b a=>h e C b<|s.trans a
 |no=>exact h
theorem kX.mono(h:kX W as H r Q)(s:ah H H'):kX W as H' r Q:=by
 cases r with
 |ok d=>exact fun p o b a c=>h p o b (s.trans a)<|s.free c
 |er x=>exact fun e C b a=>h e C b<|s.trans a
 |no=>exact h
theorem ib.mono(h:ib W as H r Q)(s:ah H H'):ib W as H' r Q:=by
 cases r with
 |ok d=>exact fun v b a=>h v b<|s.trans a
 |er x=>exact fun e C b a=>h e C b<|s.trans a
 |no=>exact h
theorem gf.mono{r:R α}{Q:α->Hp->Prop}(h:gf W H r Q)(s:ah H H'):gf W H' r Q:=by
 cases r with
 |ok d=>exact fun b a=>h b<|s.trans a
 |er x=>exact fun e C b a=>h e C b<|s.trans a
 |no=>exact h
theorem kL.den{K:aT}(i:p∉as)(e:H p=J o)(h:kL K (aj (p::as) H) o d):bQ K (aj as H) d<|.ref p:=by
 have s:ah (aj (p::as) H)<|aj as H:=kD fun a f=>ie _ f;have b:aj as H p=J o:=by rw[av i];exact e
 cases d with
 |lst ds=>obtain⟨xs,rfl,h⟩:=h;exact⟨p,xs,rfl,.inl<|.inl b,h.mono s⟩
 |Xx ds=>obtain⟨xs,rfl,h⟩:=h;exact⟨p,xs,rfl,b,h.mono s⟩
 |obj x ds=>obtain⟨C,g,xs,rfl,c,h⟩:=h;exact⟨p,C,g,xs,rfl,c,b,h.mono s⟩
 |_=>mleft
structure DI(K:aT)(as0:Sf)(B:Hp)(O:Ru)(own:Sf)(Z:St)(Y:Sd)(H:Hp):Prop where
 len:Y.length=Z.length
 YU:own.length=O.length
 nd:own.Nodup
 gp:O.Nodup
 fresh:∀a∈own,B a=U
 wz:∀a∈as0,B a≠U
 same:ah B H
 var:∀i d,i∉O->Y[i]?=J (J d)->∃v,Z[i]?=J (J v)/\bQ K (aj #[8] H) d v
 Xf:∀i a,(i,a)∈O.zip own->∃d o,Y[i]?=J (J d)/\Z[i]?=J (J<|.ref a)/\H a=J o/\kL K (aj #[8] H) o d
section
variable{K:aT}
theorem kL.mono(s:ah H H')(h:kL K H o d):kL K H' o d:=by
 cases d with
 |lst ds=>obtain⟨xs,rfl,h⟩:=h;exact⟨xs,rfl,h.mono s⟩
 |Xx ds=>obtain⟨xs,rfl,h⟩:=h;exact⟨xs,rfl,h.mono s⟩
 |obj x ds=>obtain⟨C,a,xs,rfl,b,h⟩:=h;exact⟨C,a,xs,rfl,b,h.mono s⟩
 |_=>mleft
theorem uV:∀{O:Ru}{own:Sf}{a:SA},own.length=O.length->a∈own->∃i,(i,a)∈O.zip own
 |[],[],_,_,h=>by nofun
 |i::O,b::own,a,l,h=>by
  rcases eQ.mp h with rfl|h
  .simp
  .obtain⟨j,c⟩:=uV (by simpa using l) h;exact⟨j,ie _ c⟩
 |[],_::_,_,l,_=>by mright
 |_::_,[],_,_,h=>by nofun
def DI.Vq(I:DI K as0 B O own Z Y H):∀a∈own++as0,H a≠U:=fun a b=>by
 rcases BY.mp b with h|h
 .obtain⟨i,hi⟩:=uV I.YU h
  obtain⟨d,o,_,_,e,_⟩:=I.Xf i a hi;rw[e];simp
 .cases e:B a with
  |none=>exact absurd e<|I.wz a h
  |some o=>rw[I.same a o e];simp
def DI.new(I:DI K as0 B O own Z Y H)(h:H p=U):p∉own++as0:=fun z=>I.Vq p z h
def DI.mono(I:DI K as0 B O own Z Y H)(s:ah H H'):DI K as0 B O own Z Y H':=
 ⟨I.len,I.YU,I.nd,I.gp,I.fresh,I.wz,I.same.trans s,fun i d b e=>let⟨v,h1,h2⟩:=I.var i d b e;⟨v,h1,h2.mono<|aA s⟩,
  fun i a b=>let⟨d,o,h1,h2,h3,h4⟩:=I.Xf i a b;⟨d,o,h1,h2,s a o h3,h4.mono (aA s)⟩⟩
def DI.base(I:DI K as0 B' O own Z Y H)(s:ah B B')(h:∀a∈as0,B a≠U):DI K as0 B O own Z Y H:=
 ⟨I.len,I.YU,I.nd,I.gp,fun a b=>s.free<|I.fresh a b,h,s.trans I.same,I.var,I.Xf⟩
def DI.rebase(I:DI K as0 B O own Z Y H)(c:∀a∈own,a∉as0):DI K as0 (aj own H) O own Z Y H:=
 ⟨I.len,I.YU,I.nd,I.gp,fun a b=>bT b,fun a b=>(by
  rw[av fun z=>c a z b];cases e:B a with
  |none=>exact absurd e<|I.wz a b
  |some o=>rw[I.same a o e];simp),aD _ _,I.var,I.Xf⟩
def DI.apart(I:DI K as0 B O own Z Y H):∀a∈own,a∉as0:=fun a b z=>I.wz a z<|I.fresh a b
def DI.aaS(I:DI K as0 B O own Z Y H):ah B<|aj own H:=lH I.same I.fresh
end
abbrev FE:=Sd->R D
abbrev FT:=Sd->R Bool
abbrev FA:=Sd->R (Rx)
def tD(W:Wd)(O:Ru)(φ:FE):TE:=fun Z H Q=>∃as0 B own Y,DI W.K as0 B O own Z Y H/\cP W #[8] H (φ Y) Q
def tN(W:Wd)(O:Ru)(φ:FE):TE:=fun Z H Q=>∃as0 B own Y,DI W.K as0 B O own Z Y H/\kX W #[8] H (φ Y) Q
def lq(W:Wd)(O:Ru)(φ:FT):TT:=fun Z H Q=>∃as0 B own Y,DI W.K as0 B O own Z Y H/\gf W H (φ Y) Q
def zx(W:Wd)(O:Ru)(φ:FA):TA:=fun Z H Q=>∃as0 B own Y,DI W.K as0 B O own Z Y H/\ib W #[8] H (φ Y) Q
def VC(W:Wd)(O:Ru)(φ:Sd->R (Option Int)):TO:=fun Z H Q=>∃as0 B own Y,DI W.K as0 B O own Z Y H/\gf W H (φ Y) Q
section
theorem aY(h:cP W as H (r.bind f) Q)(q:∀d v H',ah H H'->bQ W.K (aj as H') d v->cP W as H' (f d) Q->Q' v H'):cP W as H r Q':=by
 cases r with
 |ok d=>exact fun v H' s a=>q d v H' s a<|cP.mono h s
 |er x=>exact h
 |no=>exact h
theorem e9(h:cP W as H (r.bind f) Q)(q:∀d v H',ah H H'->ay W.K (aj as H') d v->cP W as H' (f d) Q->Q' v H'):ib W as H r Q':=by
 cases r with
 |ok d=>exact fun v H' s a=>q d v H' s a<|cP.mono h s
 |er x=>exact h
 |no=>exact h
theorem alo(h:kX W as H (r.bind f) Q)(q:∀d v H',ah H H'->ay W.K (aj as H') d v->kX W as H' (f d) Q->Q' v H'):ib W as H r Q':=by
 cases r with
 |ok d=>exact fun v H' s a=>q d v H' s a<|kX.mono h s
 |er x=>exact h
 |no=>exact h
theorem mM{r:R α}{f:α->R D}{Q':α->Hp->Prop}(h:cP W as H (r.bind f) Q)(q:∀d H',ah H H'->cP W as H' (f d) Q->Q' d H'):gf W H r Q':=by
 cases r with
 |ok d=>exact fun H' s=>q d H' s<|cP.mono h s
 |er x=>exact h
 |no=>exact h
theorem gC{f:D->R α}{Q:α->Hp->Prop}(h:gf W H (r.bind f) Q)(q:∀d v H',ah H H'->bQ W.K (aj as H') d v->gf W H' (f d) Q->Q' v H'):cP W as H r Q':=by
 cases r with
 |ok d=>exact fun v H' s a=>q d v H' s a<|gf.mono h s
 |er x=>exact h
 |no=>exact h
theorem kj{r:R α}{f:α->R β}{Q:β->Hp->Prop}{Q':α->Hp->Prop}(h:gf W H (r.bind f) Q)(q:∀d H',ah H H'->gf W H' (f d) Q->Q' d H'):gf W H r Q':=by
 cases r with
 |ok d=>exact fun H' s=>q d H' s<|gf.mono h s
 |er x=>exact h
 |no=>exact h
theorem afh{Q:Se->Hp->Prop}(h:ib W as H (r.bind f) Q)(q:∀d v H',ah H H'->bQ W.K (aj as H') d v->ib W as H' (f d) Q->Q' v H'):cP W as H r Q':=by
 cases r with
 |ok d=>exact fun v H' s a=>q d v H' s a<|ib.mono h s
 |er x=>exact h
 |no=>exact h
theorem Z54{Q Q':Se->Hp->Prop}(h:ib W as H (r.bind f) Q)(q:∀d v H',ah H H'->ay W.K (aj as H') d v->ib W as H' (f d) Q->Q' v H'):ib W as H r Q':=by
 cases r with
 |ok d=>exact fun v H' s a=>q d v H' s a<|ib.mono h s
 |er x=>exact h
 |no=>exact h
end
section
variable{X:Cx}{W:Wd}{O:Ru}{a b c e:Ry}{φ ψ χ:FE}{pos:Pos}{rest es:List Ry}{α:FA}
noncomputable def ag(i:Nat):FE:=fun Y=>match Y[i]? with
 |some (J d)=>.ok d
 |_=>.no
def vC(d:D):FE:=fun _=>.ok d
def Mv(i:Nat)(c:i∉O<|>Sm)(b:X.N[i]?=J x<|>Rv)(f:m6 X.env.scope x<|>uO)(hd:TN x<|>Sm)
  (a:#[2]=η<|>Sm):JE X (.Name x pos)<|tD W O<|ag i:=(jv i b f hd a).imp fun Z H Q g=>dQ g fun as0 B own Y I h=>by
 delta ag at h;cbv
 .rename_i d e;obtain⟨v,h1,h2⟩:=I.var i d c e
  show m8 Z[i]? H Q;rw[h1];exact h v H (ah.refl H) h2
 .mleft
def MR:JE X (.Constant (.int i) j pos)<|tD W O<|vC<|.int i:=SG.imp fun Z H Q a=>dQ a fun as0 B own Y I h=>h _ H (ah.refl H) rfl
def aaL{b j}:JE X (.Constant (.bool b) j pos)<|tD W O<|vC<|.bl b:=lsm.imp fun Z H Q a=>dQ a fun as0 B own Y I h=>h _ H (ah.refl H) rfl
def NO:JE X (.Constant .none j pos)<|tD W O<|vC .S9:=akQ.imp fun Z H Q a=>dQ a fun as0 B own Y I h=>h _ H (ah.refl H) rfl
def Mt:JE X (.Constant (.str x) j pos)<|tD W O<|vC<|.str x:=aaH.imp fun Z H Q a=>dQ a fun as0 B own Y I h=>h _ H (ah.refl H) rfl
def Oy(b:X.mg x=J u)(r:aP v u)(hd:∀H,bQ W.K H d v)(c:Gl X x<|>Rv)(a:TN x<|>Sm):JE X (.Name x pos)<|tD W O<|vC d:=
 (OC b r c a).imp fun Z H Q e=>dQ e fun as0 B own Y I h=>h _ H (ah.refl H)<|hd _
def acX(a:X.mg x=U)(c:Vl x=J (.type n))(b:Gl X x<|>Rv)(e:#[27]<|>Sm)(hd:TN x<|>Sm):JE X (.Name x pos)<|tD W O<|vC<|.ty n:=
 (frf a c b e hd).imp fun Z H Q d=>dQ d fun as0 B own Y I h=>h _ H (ah.refl H) rfl
def wo(W:Wd)(r:UL)(c:D->D->R D):Prop:=∀(as:Sf)(H:Hp)(x y:V)(a b:D)(Q:VK),(∀p,H p=U->p∉as)->bQ W.K (aj as H) a x->bQ W.K (aj as H) b y->cP W as H (c a b) Q->r x y H Q
def aH(a:D->D->R D)(φ ψ:FE):FE:=fun Y=>(φ Y).bind fun x=>(ψ Y).bind fun y=>a x y
def IG(i:∀{ta tb:TE},JE X a ta->JE X b tb->JE X e (t ta tb))(g:t=NB r)(n:wo W r op)(o:JE X a<|tD W O φ)(q:JE X b<|tD W O ψ):JE X e<|tD W O<|aH op φ ψ:=by
 subst g;refine(i o q).imp fun Z H Q j=>dQ j fun as0 B own Y I h=>⟨as0,B,own,Y,I,aY h fun x v H1 c m h1=>⟨as0,B,own,Y,I.mono c,aY h1 fun y u l d f h2=>?_⟩⟩;exact n #[8] l v u x y Q (fun p k=>((I.mono c).mono d).new k) (m.mono<|aA d) f h2
def Tj(d:DX X r)(hd:wo W r g)(c:JE X a<|tD W O φ)(e:JE X b<|tD W O ψ)(hs:rh b<|>k7):JE X (.Subscript a b pos)<|tD W O<|aH g φ ψ:=
 IG (fun h1 h2=>SV d h1 h2 hs) rfl hd c e
def YB(W:Wd)(r:V->Hp->VK->Prop)(b:D->R D):Prop:=∀(as:Sf)(H:Hp)(x:V)(a:D)(Q:VK),bQ W.K (aj as H) a x->cP W as H (b a) Q->r x H Q
def zz(a:D->R D)(φ:FE):FE:=fun Y=>(φ Y).bind a
def abg(d:KD X (unaryOp op) r)(hd:YB W r g)(e:JE X a<|tD W O φ):JE X (.UnaryOp op a pos)<|tD W O<|zz g φ:=
 (Z26 d e).imp fun Z H Q b=>dQ b fun as0 B own Y I h=>⟨as0,B,own,Y,I,aY h fun x v H1 f c h1=>hd #[8] H1 v x Q c h1⟩
noncomputable def Ni{α:Type}(d:D)(f:Bool->R α):R α:=match d with
 |.bl b=>f b
 |_=>.no
def Oz(φ:FE):FE:=fun Y=>(φ Y).bind fun x=>Ni x fun b=>.ok<|.bl<|!b
def GS(φ ψ:FE):FE:=fun Y=>(φ Y).bind fun x=>Ni x fun b=>if b=G then ψ Y else .ok (.bl η)
def Jn(φ ψ:FE):FE:=fun Y=>(φ Y).bind fun x=>Ni x fun b=>if b=G then .ok (.bl G)else ψ Y
def Xax(c:JE X a<|tD W O φ):JE X (.UnaryOp .Not a pos)<|tD W O<|Oz φ:=
 (abh c).imp fun Z H Q d=>dQ d fun as0 B own Y I h=>⟨as0,B,own,Y,I,aY h fun x v H1 f e h1=>by
  cases x with
  |bl b=>subst e;exact h1 _ H1 #[23] rfl
  |_=>exact h1.elim⟩
def abb(h:JE X a<|tD W O φ):JE X (.BoolOp op [a] pos)<|tD W O φ:=(⟨O4 h.out⟩)
def Uf(f:JE X a<|tD W O φ)(g:JE X (.BoolOp .And (b::rest) pos)<|tD W O ψ):JE X (.BoolOp .And (a::b::rest) pos)<|tD W O<|GS φ ψ:=
 (afx f g).imp fun Z H Q c=>dQ c fun as0 B own Y I h=>⟨as0,B,own,Y,I,aY h fun x v H1 d e h1=>by
  cases x with
  |bl b=>
   subst e;cases b with
   |true=>exact⟨as0,B,own,Y,I.mono d,h1⟩
   |false=>exact h1 _ H1 #[23] rfl
  |_=>exact h1.elim⟩
def abJ(f:JE X a<|tD W O φ)(g:JE X (.BoolOp .Or (b::rest) pos)<|tD W O ψ):JE X (.BoolOp .Or (a::b::rest) pos)<|tD W O<|Jn φ ψ:=
 (abk f g).imp fun Z H Q c=>dQ c fun as0 B own Y I h=>⟨as0,B,own,Y,I,aY h fun x v H1 d e h1=>by
  cases x with
  |bl b=>
   subst e;cases b with
   |false=>exact⟨as0,B,own,Y,I.mono d,h1⟩
   |true=>exact h1 _ H1 #[23] rfl
  |_=>exact h1.elim⟩
variable{τ υ:FT}
def dC(φ:FE):FT:=fun Y=>(φ Y).bind fun x=>Ni x .ok
theorem Qi(A:eJ X (UI op) r)(hd:wo W r g)(C:JE X a<|tD W O φ)(D:JE X b<|tD W O ψ)(j:t8 op b=η):JT X (.Compare a [op] [b] pos)<|lq W O<|dC<|aH g φ ψ:=by
 refine(QJ A C D j).imp fun Z H Q m=>dQ m fun as0 B own Y I h=>?_;have h'  := by
  have e:dC (aH g φ ψ) Y=(φ Y).bind fun x=>((ψ Y).bind fun y=>g x y).bind fun x=>Ni x .ok:=by
   delta dC aH;rw[bind_assoc]
  rw[e]at h;exact h
 refine⟨as0,B,own,Y,I,gC h' fun x v H1 d t h1=>?_⟩;have c:gf W H1 ((ψ Y).bind fun y=>(g x y).bind fun x=>Ni x .ok) Q:=by rw[<-bind_assoc];exact h1
 refine⟨as0,B,own,Y,I.mono d,gC c fun y u s i l h2=>?_⟩;refine hd #[8] s v u x y _ (fun p n=>((I.mono d).mono i).new n) (t.mono<|aA i) l<|gC h2 fun z w o E q f=>?_;cases z with
 |bl k=>subst q;exact f o<|ah.refl _
 |_=>exact f.elim
noncomputable def L4:D->R Bool
 |.S9=>.ok η
 |.bl b=>.ok b
 |.int i=>.ok<|i != 0
 |.str y=>if y.length<=1000000 then .ok (y.length != 0)else .no
 |.lst xs=>.ok<|!xs.isEmpty
 |.tup xs=>.ok<|!xs.isEmpty
 |.Xx kvs=>.ok<|!kvs.isEmpty
 |_=>.no
theorem ay.empty{K:aT}(h:ay K H ds xs):xs.isEmpty=ds.isEmpty:=by
 cases ds with
 |nil=>subst h;rfl
 |cons d r=>obtain⟨v,vs,rfl,_⟩:=h;rfl
theorem pK.empty{K:aT}(h:pK K H ds xs):xs.isEmpty=ds.isEmpty:=by
 cases ds with
 |nil=>subst h;rfl
 |cons d r=>obtain⟨v,vs,rfl,_⟩:=h;rfl
def ck:(1000000:Nat)<=Ta:=by rw[XB];decide
def lP(φ:FE):FT:=fun Y=>(φ Y).bind L4
def FH(K:aT)(l:JE X a<|tD W O φ)(k:(∀c,isTrue a X.env c=(do let v <-c;jF a.pos;holding [v] (truthy v)))<|>gK)(j:X.K=K<|>Rv)(f:W.K=K<|>Rv):JT X a<|lq W O<|lP φ:=
 (yR K l k j).imp fun Z H Q g=>dQ g fun as0 B own Y I h=>⟨as0,B,own,Y,I,gC h fun x v H1 m d h1=>by
  subst f;cases x with
  |S9=>subst d;exact h1 H1<|ah.refl _
  |bl b=>subst d;exact h1 H1<|ah.refl _
  |int i=>subst d;exact h1 H1<|ah.refl _
  |str y=>
   subst d;have h2:gf W H1 (if y.length<=1000000 then R.ok (y.length != 0)else R.no) Q:=h1;split at h2
   .rename_i hl;refine⟨RW hl ck,?_⟩;have e:((y.length:Int) != 0)=(y.length != 0):=by
     lia
    rw[e];exact h2 H1<|ah.refl _
   .exact h2.elim
  |lst ds=>
   obtain⟨p,xs,rfl,q1,q2⟩:=d;refine .inl (.inl ⟨xs,(aD _ _).seq q1,?_⟩);rw[q2.empty];exact h1 H1<|ah.refl _
  |tup ds=>
   obtain⟨p,xs,rfl,q1,q2⟩:=d;refine .inl (.inr ⟨xs,(aD _ _).Wt q1,?_⟩);rw[q2.empty];exact h1 H1<|ah.refl _
  |Xx ds=>
   obtain⟨p,xs,rfl,q1,q2⟩:=d;refine .inr ⟨xs,aD _ _ _ _ q1,?_⟩;rw[q2.empty];exact h1 H1<|ah.refl _
  |_=>exact h1.elim⟩
def mQ(τ υ:FT):FT:=fun Y=>(τ Y).bind fun b=>if b=G then υ Y else .ok η
def KF(τ υ:FT):FT:=fun Y=>(τ Y).bind fun b=>if b=G then .ok G else υ Y
def qN(τ:FT):FT:=fun Y=>(τ Y).bind fun b=>.ok<|!b
def CN(h:JW X a<|lq W O τ):JT X a<|lq W O τ:=Cc h
def Om(e:JT X a<|lq W O τ)(g:JW X (.BoolOp .And (b::rest) pos)<|lq W O υ):JW X (.BoolOp .And (a::b::rest) pos)<|lq W O<|mQ τ υ:=
 (Hq e g).imp fun Z H Q f=>dQ f fun as0 B own Y I h=>⟨as0,B,own,Y,I,kj h fun c H1 d h1=>by
  cases c with
  |true=>exact⟨as0,B,own,Y,I.mono d,h1⟩
  |false=>exact h1 H1 #[23]⟩
def aaT(e:JT X a<|lq W O τ)(g:JW X (.BoolOp .Or (b::rest) pos)<|lq W O υ):JW X (.BoolOp .Or (a::b::rest) pos)<|lq W O<|KF τ υ:=
 (MC e g).imp fun Z H Q f=>dQ f fun as0 B own Y I h=>⟨as0,B,own,Y,I,kj h fun c H1 d h1=>by
  cases c with
  |false=>exact⟨as0,B,own,Y,I.mono d,h1⟩
  |true=>exact h1 H1 #[23]⟩
def Px(b:JT X a<|lq W O τ):JT X (.UnaryOp .Not a pos)<|lq W O<|qN τ:=
 (GZ b).imp fun Z H Q d=>dQ d fun as0 B own Y I h=>⟨as0,B,own,Y,I,kj h fun c H1 e h1=>h1 H1<|ah.refl _⟩
def MU(τ:FT)(φ ψ:FE):FE:=fun Y=>(τ Y).bind fun b=>if b=G then φ Y else ψ Y
def aaG(e:JT X c<|lq W O τ)(f:JE X a<|tD W O φ)(i:JE X b<|tD W O ψ):JE X (.IfExp c a b pos)<|tD W O<|MU τ φ ψ:=
 (N9 e f i).imp fun Z H Q g=>dQ g fun as0 B own Y I h=>⟨as0,B,own,Y,I,mM h fun c H1 d h1=>by
  cases c with
  |true=>exact⟨as0,B,own,Y,I.mono d,h1⟩
  |false=>exact⟨as0,B,own,Y,I.mono d,h1⟩⟩
def aQ:FA:=fun _=>.ok []
def ak(φ:FE)(α:FA):FA:=fun Y=>(φ Y).bind fun d=>(α Y).bind fun ds=>.ok<|d::ds
def Fn:JA X []<|zx W O aQ:=eD.imp fun Z H Q a=>dQ a fun as0 B own Y I h=>h [] H #[23] rfl
def Bx(k:JE X e<|tD W O φ)(b:JA X es<|zx W O α)(j:al e=G<|>Rv):JA X (e::es)<|zx W O<|ak φ α:=
 (bU k b j).imp fun Z H Q c=>dQ c fun as0 B own Y I h=>⟨as0,B,own,Y,I,afh h fun d v H1 f i h1=>⟨as0,B,own,Y,I.mono f,Z54 h1 fun ds vs g l a h2=>
  h2 (v::vs) g #[23] ⟨v,vs,rfl,i.mono (aA l),a⟩⟩⟩
def yA(ds:Rx):R D:=if ds.length<=1000000 then .ok (.lst ds)else .no
def Bc(ds:Rx):R D:=if ds.length<=1000000 then .ok (.tup ds)else .no
def uw(α:FA):FE:=fun Y=>(α Y).bind yA
def uD(α:FA):FE:=fun Y=>(α Y).bind Bc
def Dz(h:kX W as H (yA ds) Q)(hd:ay W.K (aj as H) ds xs):xs.length<=Ta/\∀p,H p=U->Q (.ref p) (br H p<|.lst xs):=by
 delta yA at h;cbv
 .rename_i hl;refine⟨by rw[<-hd.len];exact RW hl ck,fun p c=>?_⟩;refine h p (.lst xs) (br H p<|.lst xs) (bR c _) c aE ⟨xs,rfl,hd.mono ?_⟩;intro b o e;have d:b≠p:=fun z=>by
   subst z
   have:=aD _ _ _ _ e
   rw[c]at this;cases this
  by_cases a:b∈as
  .rw[bT a]at e;cases e
  .rw[av a]at e;rw[av<|by simp[d,a],aG d];exact e
 .mleft
def akL(h:JA X es<|zx W O α):JE X (.List es pos)<|tN W O<|uw α:=
 (Hi h).imp fun Z H Q a=>dQ a fun as0 B own Y I h=>⟨as0,B,own,Y,I,alo h fun ds xs H1 c b h1=>Dz h1 b⟩
theorem FQ(h:JE X e<|tN W O φ):JE X e<|tD W O φ:=h.imp fun Z H Q a=>dQ a fun as0 B own Y I q=>by
 refine⟨as0,B,own,Y,I,?_⟩;cases hr:φ Y with
 |ok d=>
  rw[hr]at q;exact fun p o H' s b e c=>q (.ref p) H' s<|c.den (I.new b) e
 |er x=>rw[hr]at q;exact q
 |no=>rw[hr]at q;exact q
def NQ(h:JA X es<|zx W O α):JE X (.Tuple es x1 pos)<|tD W O<|uD α:=
 (Ci h).imp fun Z H Q c=>dQ c fun as0 B own Y I h=>⟨as0,B,own,Y,I,e9 h fun ds xs H1 d b h1=>by
  delta Bc at h1;split at h1
  .rename_i hl;refine⟨by rw[<-b.len];exact RW hl ck,fun p a=>?_⟩;have e:=(I.mono d).new a;refine h1 (.ref p) (br H1 p<|.tup xs) (bR a _) ⟨p,xs,rfl,.inl<|.inl ?_,b.mono<|aA<|bR a _⟩;rw[av e];exact aE
  .exact h1.elim⟩
def nU(W:Wd)(r:Se->Hp->VK->Prop)(g:Rx->R D):Prop:=∀(as:Sf)(H:Hp)(xs:Se)(ds:Rx)(Q:VK),(∀a∈as,H a≠U)->ay W.K (aj as H) ds xs->cP W as H (g ds) Q->r xs H Q
def aI(g:Rx->R D)(α:FA):FE:=fun Y=>(α Y).bind g
section
variable{p:Pos}{id:String}
def Kw(j:bI X (.builtin id) r)(hd:nU W r g)(b:X.mg x=U)(m:Vl x=J (.builtin id))(l:JA X (e::es)<|zx W O α)(c:Gl X x<|>Rv)(h1:al e=G<|>Rv)(h2:es.all al=G<|>Rv)(k:#[27]<|>Sm)(a:TN x<|>Sm):
  JE X #[3] (tD W O<|aI g α):=
 (AX j b m l c h1 h2 k a).imp fun Z H Q d=>dQ d fun as0 B own Y I h=>⟨as0,B,own,Y,I,e9 h fun ds xs H1 f i h1=>hd #[8] H1 xs ds Q (I.mono f).Vq i h1⟩
def Ku(j:bI X (.type T) r)(hd:nU W r g)(b:X.mg x=U)(m:Vl x=J (.type T))(l:JA X (e::es)<|zx W O α)(c:Gl X x<|>Rv)(h1:al e=G<|>Rv)(h2:es.all al=G<|>Rv)(k:#[27]<|>Sm)(a:TN x<|>Sm):
  JE X #[3] (tD W O<|aI g α):=
 (BN j b m l c h1 h2 k a).imp fun Z H Q d=>dQ d fun as0 B own Y I h=>⟨as0,B,own,Y,I,e9 h fun ds xs H1 f i h1=>hd #[8] H1 xs ds Q (I.mono f).Vq i h1⟩
end
def Hh:Sd->R (Option Int):=fun _=>.ok U
def gI(φ:FE):Sd->R (Option Int):=fun Y=>(φ Y).bind fun d=>match d with
 |.int i=>.ok<|J i
 |_=>.no
def rl:JO X U<|VC W O Hh:=Kt.imp fun Z H Q a=>dQ a fun as0 B own Y I h=>h H<|ah.refl _
def ro(h:JE X e<|tD W O φ):JO X (J e)<|VC W O<|gI φ:=(Jx h).imp fun Z H Q a=>dQ a fun as0 B own Y I h=>⟨as0,B,own,Y,I,gC h fun d v H1 c b h1=>by
  cases d with
  |int i=>subst b;exact h1 H1<|ah.refl _
  |_=>exact h1.elim⟩
def ZQ(W:Wd)(r:V->Option Int->Option Int->Hp->VK->Prop)(g:D->Option Int->Option Int->R D):Prop:=
 ∀(as:Sf)(H:Hp)(x:V)(lo b:Option Int)(a:D)(Q:VK),(∀p,H p=U->p∉as)->bQ W.K (aj as H) a x->cP W as H (g a lo b) Q->r x lo b H Q
def Jm(g:D->Option Int->Option Int->R D)(φ:FE)(l u:Sd->R (Option Int)):FE:=fun Y=>(φ Y).bind fun x=>(l Y).bind fun lo=>(u Y).bind fun a=>g x lo a
def rJ{lo a:Option Ry}(f:V2 X r)(hd:ZQ W r g)(q:JE X e<|tD W O φ)(s:JO X lo<|VC W O l)(n:JO X a<|VC W O u):
  JE X (.Subscript e (.Slice lo a U p2) pos) (tD W O<|Jm g φ l u):=
 (Ml f q s n).imp fun Z H Q i=>dQ i fun as0 B own Y I h=>⟨as0,B,own,Y,I,aY h fun x v H1 b m h1=>⟨as0,B,own,Y,I.mono b,mM h1 fun lo t c h2=>⟨as0,B,own,Y,(I.mono b).mono c,mM h2 fun a k d o=>
  hd #[8] k v lo a x Q (fun p j=>(((I.mono b).mono c).mono d).new j) (m.mono (aA (c.trans d))) o⟩⟩⟩
def V7(W:Wd)(r:Str->Se->Hp->VK->Prop)(g:Str->Rx->R D):Prop:=
 ∀(as:Sf)(H:Hp)(z:Str)(xs:Se)(ds:Rx)(Q:VK),(∀p,H p=U->p∉as)->ay W.K (aj as H) ds xs->cP W as H (g z ds) Q->r z xs H Q
def DN(g:Str->Rx->R D)(φ:FE)(α:FA):FE:=fun Y=>(φ Y).bind fun x=>match x with
 |.str z=>(α Y).bind fun ds=>g z ds
 |_=>.no
def akK{apos cpos:Pos}{id:String}(c:Slot "str" name id)(d:typeOf (.builtin id)=pure (.type "method_descriptor"))(i:Oj X id r)(hd:V7 W r g)(q:JE X o<|tD W O φ)(s:JA X (e::es)<|zx W O α)
  (b:#[13]<|>Rv) (a:#[6]=G<|>Rv) (h1:(e::es).all al=G<|>Rv) (u:(e::es).length<29<|>Sm):
  JE X #[24] (tD W O<|DN g φ α):=
 (afp c d i q s b a h1 u).imp fun Z H Q k=>dQ k fun as0 B own Y I h=>⟨as0,B,own,Y,I,aY h fun x v H1 f n h1=>by
  cases x with
  |str z=>
   subst n;exact⟨as0,B,own,Y,I.mono f,e9 h1 fun ds xs m t j h2=>hd #[8] m z xs ds Q (fun p l=>((I.mono f).mono t).new l) j h2⟩
  |_=>exact h1.elim⟩
end
inductive Fl where
 |nx (Y:Sd)|rt (d:D)|bk (Y:Sd)|ct (Y:Sd)
 /-- a return of what is laid anew,and nobody else's -/
 |rn (d:D)
abbrev FS:=Sd->R Fl
def c8(W:Wd)(as0:Sf)(B:Hp)(Ob O':Ru)(r:R Fl)(D:Ends):Prop:=match r with
 |.ok (.nx Y)=>∀own Z H,DI W.K as0 B O' own Z Y H->D.nx Z H
 |.ok (.bk Y)=>∀own Z H,DI W.K as0 B Ob own Z Y H->D.bk Z H
 |.ok (.ct Y)=>∀own Z H,DI W.K as0 B Ob own Z Y H->D.ct Z H
 |.ok (.rt d)=>∀v H,ah B H->bQ W.K (aj as0 H) d v->D.rt v H
 |.ok (.rn d)=>∀p o H,ah B H->B p=U->H p=J o->kL W.K (aj (p::as0) H) o d->D.rt (.ref p) H
 |.er x=>∀e C H,ah B H->W.mg x=J (.ref C)->W.E e (J C) H
 |.no=>False
def sD(W:Wd)(Ob O O':Ru)(φ:FS):TS:=fun D Z H=>∃as0 B own Y,DI W.K as0 B O own Z Y H/\c8 W as0 B Ob O' (φ Y) D
section
variable{W:Wd}{as0 own:Sf}{B H:Hp}{Ob O O':Ru}{Z:St}{Y:Sd}{D':Ends}
theorem cO(I:DI W.K as0 B O own Z Y H)(h:c8 W as0 B Ob O' (r.bind f) D')(q:∀d v H',ah H H'->bQ W.K (aj #[8] H') d v->c8 W as0 B Ob O' (f d) D'->Q v H'):cP W #[8] H r Q:=by
 cases r with
 |ok d=>exact fun v H' s a=>q d v H' s a h
 |er x=>exact fun e C H' s=>h e C H'<|I.same.trans s
 |no=>exact h
theorem kg(I:DI W.K as0 B O own Z Y H)(h:c8 W as0 B Ob O' (r.bind f) D')(q:∀d p o H',ah H H'->H p=U->H' p=J o->kL W.K (aj (p::#[8]) H') o d->c8 W as0 B Ob O' (f d) D'->Q (.ref p) H'):kX W #[8] H r Q:=by
 cases r with
 |ok d=>exact fun p o H' s h1 h2 a=>q d p o H' s h1 h2 a h
 |er x=>exact fun e C H' s=>h e C H'<|I.same.trans s
 |no=>exact h
theorem qb{r:R α}{f:α->R Fl}{Q:α->Hp->Prop}(I:DI W.K as0 B O own Z Y H)(h:c8 W as0 B Ob O' (r.bind f) D')(q:∀d H',ah H H'->c8 W as0 B Ob O' (f d) D'->Q d H'):gf W H r Q:=by
 cases r with
 |ok d=>exact fun H' s=>q d H' s h
 |er x=>exact fun e C H' s=>h e C H'<|I.same.trans s
 |no=>exact h
theorem c8.base(h:c8 W as0 B Ob O' r D')(s:ah B B')(b:∀a∈as0,B a≠U):c8 W as0 B' Ob O' r D':=by
 cases r with
 |ok f=>
  cases f with
  |nx Y=>exact fun own Z H I=>h own Z H<|I.base s b
  |bk Y=>exact fun own Z H I=>h own Z H<|I.base s b
  |ct Y=>exact fun own Z H I=>h own Z H<|I.base s b
  |rt d=>exact fun v H s'=>h v H<|s.trans s'
  |rn d=>exact fun p o H s' c=>h p o H (s.trans s')<|s.free c
 |er x=>exact fun e C H s'=>h e C H<|s.trans s'
 |no=>exact h
def getElem?_set'{α:Type}{l:List α}{x:α}:(l.set i x)[j]?=if i=j then(if i<l.length then J x else U)else l[j]?:=List.getElem?_set
def DI.set(I:DI W.K as0 B O own Z Y H)(c:i∉O)(h:bQ W.K (aj #[8] H) d v):DI W.K as0 B O own (Z.set i<|J v) (Y.set i<|J d) H:=by
 refine⟨by simp[I.len],I.YU,I.nd,I.gp,I.fresh,I.wz,I.same,fun j e b q=>?_,fun j a b=>?_⟩
 .rw[getElem?_set']at q⊢;split at q
  .rename_i hij;rw[SI hij];split at q
   .rename_i hl;rw[SI<|by rw[<-I.len];exact hl]
    mright
   .cases q
  .rename_i hij;rw[SM hij];exact I.var j e b q
 .have hji:i≠j:=fun z=>c (by rw[z];exact(X0 b).1);let⟨d',o,h1,h2,h3,h4⟩:=I.Xf j a b
  mright
theorem zip_inj:∀{O:Ru}{own:Sf}{i j:Nat}{a:SA},own.Nodup->(i,a)∈O.zip own->(j,a)∈O.zip own->i=j
 |[],_,_,_,_,_,h,_=>by mright
 |_::_,[],_,_,_,_,h,_=>by mright
 |k::O,b::own,i,j,a,nd,h1,h2=>by
  rw[Vx]at nd;rcases eQ.mp h1 with e1|h1<;>rcases eQ.mp h2 with e2|h2
  .lia
  .cases e1;exact absurd (X0 h2).2 nd.1
  .cases e2;exact absurd (X0 h1).2 nd.1
  .exact zip_inj nd.2 h1 h2
theorem fT:∀{O:Ru}{own:Sf}{i:Nat},own.length=O.length->i∈O->∃a,(i,a)∈O.zip own
 |[],_,_,_,h=>by nofun
 |k::O,[],_,l,_=>by mright
 |k::O,b::own,i,l,h=>by
  rcases eQ.mp h with rfl|h
  .simp
  .obtain⟨a,c⟩:=fT (by simpa using l) h;exact⟨a,ie _ c⟩
def DI.ada(I:DI W.K as0 B O own Z Y H)(f:i∉O)(k:B p=U)(l:p∉own++as0)(e:H p=J o)(h:kL W.K (aj (p::#[8]) H) o d)(g:i<Y.length)
  (fr:∀j d',j∉O->Y[j]?=J (J d')->∃v,Z[j]?=J (J v)/\bQ W.K (aj (p::#[8]) H) d' v)
  (m:∀j a,(j,a)∈O.zip own->∃d o,Y[j]?=J (J d)/\Z[j]?=J (J<|.ref a)/\H a=J o/\kL W.K (aj (p::#[8]) H) o d):
  DI W.K as0 B (i::O) (p::own) (Z.set i<|J<|.ref p) (Y.set i<|J d) H:=by
 refine⟨by simp[I.len],by simp[I.YU],Vx.mpr ⟨fun z=>l<|Le _ z,I.nd⟩,Vx.mpr ⟨f,I.gp⟩,fun a c=>?_,I.wz,I.same,fun j e b q=>?_,fun j a b=>?_⟩
 .rcases eQ.mp c with rfl|c
  .exact k
  .exact I.fresh a c
 .have hji:i≠j:=fun z=>b #[28];mright
 .rw[List.zip_cons_cons]at b;rcases eQ.mp b with z|b
  .cases z;refine⟨d,o,?_,?_,e,h⟩
   .mright
   .rw[getElem?_set',SI rfl,SI<|by rw[<-I.len];exact g]
  .have hji:i≠j:=fun z=>f (by rw[z];exact(X0 b).1);mright
end
section
variable{X:Cx}{W:Wd}{Ob O O' O1 O2:Ru}{e c:Ry}{φ ψ:FS}{ε:FE}{τ:FT}{pos:Pos}{st:SU}{sts rest:List SU}
def ld:FS:=fun Y=>.ok<|.nx Y
def nh(φ ψ:FS):FS:=fun Y=>(φ Y).bind fun f=>match f with
 |.nx δ'=>ψ δ'
 |f=>.ok f
def QR:JB X []<|sD W Ob O O ld:=Hu.imp fun D Z H a=>dQ a fun as0 B own Y I h=>h own Z H I
theorem KS(h1:JS X st<|sD W Ob O O1 φ)(h2:JB X rest<|sD W Ob O1 O2 ψ):JB X (st::rest)<|sD W Ob O O2<|nh φ ψ:=(C0 h1 h2).imp fun D Z H b=>dQ b fun as0 B own Y I h=>by
 refine⟨as0,B,own,Y,I,?_⟩;delta nh at h;cases hr:φ Y with
 |ok f=>
  rw[hr]at h;cases f with
  |nx δ'=>exact fun a c H' e=>⟨as0,B,a,δ',e,h⟩
  |rt d=>exact h
  |rn d=>exact h
  |bk d=>exact h
  |ct d=>exact h
 |er x=>rw[hr]at h;exact h
 |no=>rw[hr]at h;exact h
def Et(h1:JS X st<|sD W Ob O O1 φ):JB X [st]<|sD W Ob O O1 φ:=GK h1
def pX(ε:FE):FS:=fun Y=>(ε Y).bind fun d=>.ok<|.rt d
def FR(h:JE X e<|tD W O ε):JS X (.Return (J e) pos)<|sD W Ob O O'<|pX ε:=(Fh h).imp fun D Z H f=>dQ f fun as0 B own Y I h=>
 ⟨as0,B,own,Y,I,cO I h fun d v H' s b h'=>h' v H' (I.same.trans s)<|b.mono<|kD fun a c=>OR _ c⟩
def ND(ε:FE):FS:=fun Y=>(ε Y).bind fun _=>.ok<|.nx Y
def Mo(h:JE X e<|tD W O ε)(hs:Uw e U pos.line X.env=pure η<|>Rv):JS X (.Expr e pos)<|sD W Ob O O<|ND ε:=(n9 h hs).imp fun D Z H a=>dQ a fun as0 B own Y I h=>
 ⟨as0,B,own,Y,I,cO I h fun d v H' s b h'=>h' own Z H'<|I.mono s⟩
def DA(τ:FT)(φ ψ:FS):FS:=fun Y=>(τ Y).bind fun b=>if b=G then φ Y else ψ Y
def aaF(d:JT X c<|lq W O τ)(e:JB X a<|sD W Ob O O' φ)(g:JB X b<|sD W Ob O O' ψ):JS X (.If c a b pos)<|sD W Ob O O'<|DA τ φ ψ:=(N6 d e g).imp fun D Z H f=>dQ f fun as0 B own Y I h=>
 ⟨as0,B,own,Y,I,qb I h fun b H' s h'=>by
  cases b with
  |true=>exact⟨as0,B,own,Y,I.mono s,h'⟩
  |false=>exact⟨as0,B,own,Y,I.mono s,h'⟩⟩
def rZ(i:Nat)(ε:FE):FS:=fun Y=>(ε Y).bind fun d=>.ok<|.nx<|Y.set i<|J d
def Iu{pos':Pos}(f:i∉O)(c:X.N.Nodup)(g:Loc X.env.scope x)(k:JE X e<|tD W O ε)(a:X.N[i]?=J x<|>Rv)(hs:Uw e (J<|.Name x pos') pos.line X.env=pure η<|>Rv)(l:#[1]<|>XN):
  JS X (.Assign [.Name x pos'] e pos) (sD W Ob O O<|rZ i ε):=(pw c g k a hs l).imp fun D Z H b=>dQ b fun as0 B own Y I h=>
 ⟨as0,B,own,Y,I,cO I h fun d v H' s j h'=>h' own _ H'<|(I.mono s).set f j⟩
def Av(i:Nat)(ε:FE):FS:=fun Y=>(ε Y).bind fun d=>if i<Y.length then .ok (.nx<|Y.set i<|J d)else .no
def tH(d:H p=U)(s:ah H H'):ah (aj as H)<|aj (p::as) H':=fun b o e=>by
 by_cases c:b∈as
 .rw[bT c]at e;cases e
 .rw[av c]at e;have a:b≠p:=fun z=>by mright
  rw[av<|by simp[c,a]];exact s b o e
def ze{K:aT}(I:DI K as0 B O own Z Y H)(k:i∉O)(s:ah H H')(b:H p=U)(e:H' p=J o)(h:kL K (aj (p::#[8]) H') o d)(g:i<Y.length):
  DI K as0 B (i::O) (p::own) (Z.set i<|J<|.ref p) (Y.set i<|J d) H':=by
 refine DI.ada (W:=⟨K,fun _=>U,E0⟩) (I.mono s) k (I.same.free b) (I.new b) e h g (fun j d' c q=>?_) fun j a c=>?_
 .obtain⟨v,h1,h2⟩:=I.var j d' c q
  exact⟨v,h1,h2.mono<|tH b s⟩
 .refine US (I.Xf j a c) fun d' o' h1 h2 l f=>?_;exact⟨d',o',h1,h2,s a o' l,f.mono<|tH b s⟩
def Iv{pos':Pos}(g:i∉O)(f:X.N.Nodup)(j:Loc X.env.scope x)(k:JE X e<|tN W O ε)(a:X.N[i]?=J x<|>Rv)(hs:Uw e (J<|.Name x pos') pos.line X.env=pure η<|>Rv)(l:#[1]<|>XN):
  JS X (.Assign [.Name x pos'] e pos) (sD W Ob O (i::O)<|Av i ε):=(pw f j k a hs l).imp fun D Z H b=>dQ b fun as0 B own Y I h=>
 ⟨as0,B,own,Y,I,kg I h fun d p o H' s c e m h'=>by
  split at h'
  .rename_i hl;exact h' _ _ H'<|ze I g s c e m hl
  .exact h'.elim⟩
inductive VA where
 |one (i:Nat)|tup (is:Ru)
noncomputable def l7:Ru->Rx->Sd->Sd
 |i::is,d::ds,Y=>l7 is ds<|Y.set i<|J d
 |_,_,Y=>Y
def iY:VA->D->Sd->R Sd
 |.one i,d,Y=>.ok<|Y.set i<|J d
 |.tup is,.tup ds,Y=>if ds.length=is.length then .ok (l7 is ds Y)else .no
 |_,_,_=>.no
def gD(W:Wd)(O:Ru)(tg:VA):TG:=fun v Z H Q=>∃as0 B own Y d,DI W.K as0 B O own Z Y H/\bQ W.K (aj #[8] H) d v/\match iY tg d Y with
 |.ok δ'=>∀a,DI W.K as0 B O own a δ' H->Q a H
 |_=>False
def U7(W:Wd)(O:Ru)(is:Ru):Mg:=fun vs Z H Q=>∃as0 B own Y ds,DI W.K as0 B O own Z Y H/\ay W.K (aj #[8] H) ds vs/\ds.length=is.length/\∀a,DI W.K as0 B O own a (l7 is ds Y) H->Q a H
def Rt(c:i∉O)(a:X.N.Nodup)(e:X.N[i]?=J x)(f:Loc X.env.scope x)(b:#[1]<|>XN):JG X (.Name x pos)<|gD W O<|.one i:=
 (Jy a e f b).imp (by rintro v Z H Q⟨as0,B,own,Y,d,I,dv,h⟩;exact h _<|I.set c dv)
theorem L0:YW X []<|U7 W O []:=JV.imp fun vs Z H Q c=>gU c fun as0 B own Y ds I a b h=>by
 cases ds with
 |nil=>subst a;exact⟨rfl,h Z I⟩
 |cons _ _=>cases b
theorem EV(h1:JG X e<|gD W O<|.one i)(h2:YW X es<|U7 W O is)
  (hs:(Wh (e::es) X.env).map (·.2)=assign e X.env::(Wh es X.env).map (·.2)<|>Rv):YW X (e::es)<|U7 W O<|i::is:=(Ii h1 h2 hs).imp fun vs Z H Q j=>gU j fun as0 B own Y ds I k g h=>by
 cases ds with
 |nil=>cases g
 |cons d ds=>
  obtain⟨v,r,rfl,b,c⟩:=k;exact⟨v,r,rfl,as0,B,own,Y,d,I,b,fun a f=>⟨as0,B,own,_,ds,f,c,by simpa using g,h⟩⟩
theorem O5(K:aT){k:Nat}(h:YW X es<|U7 W O is)(g:is.length=n<|>Rv)(e:X.calm=G<|>Rv)
  (j:(Wh es X.env).length=n<|>Rv) (c:(Wh es X.env).findIdx? (·.1)=U<|>Rv) (i:X.K=K<|>Rv) (f:W.K=K<|>Rv):JG X (.Tuple es k pos)<|gD W O<|.tup is:=by
 refine(afy K h e j c i).imp ?_;rintro v Z H Q⟨as0,B,own,Y,d,I,dv,h⟩;cases d with
 |tup ds=>
  obtain⟨a,xs,rfl,q1,q2⟩:=dv;have h':(match(if ds.length=is.length then R.ok (l7 is ds Y)else .no)with|.ok δ'=>∀b,DI W.K as0 B O own b δ' H->Q b H|_=>False):=h
  by_cases hd:ds.length=is.length
  .rw[SI hd]at h';subst f;exact⟨a,xs,rfl,(aD _ _).Wt q1,by rw[<-q2.len,hd,g],as0,B,own,Y,ds,I,q2,hd,h'⟩
  mright
 |_=>mleft
structure eM(K:aT)(as0:Sf)(B:Hp)(Jq0:It)(xs:Rx):Prop where
 go:∀i H,ah (aj as0 B) H->i<xs.length->Jq0.go i H
 yl:∀i H v H2 M,ah (aj as0 B) H->(∀a∈M,H a≠U)->(∀a∈M,a∈as0\/B a=U)->i<xs.length->Jq0.gF i H v H2->ah H H2/\∃d,xs[i]?=J d/\bQ K (aj M H2) d v
 stop:∀H,ah (aj as0 B) H->Jq0.stop xs.length H
def j3(W:Wd)(as0 own:Sf)(H:Hp)(r:R<|Rx)(Q:It->Hp->Prop):Prop:=match r with
 |.ok xs=>∀a H',ah H H'->eM W.K as0 (aj own H') a xs->Q a H'
 |.er x=>∀e C H',ah H H'->W.mg x=J (.ref C)->W.E e (J C) H'
 |.no=>False
def iD(W:Wd)(O:Ru)(ι:FA):TI:=fun Z H Q=>∃as0 B own Y,DI W.K as0 B O own Z Y H/\j3 W as0 own H (ι Y) Q
def km(s:ah (aj as0 B) H)(h:∀a∈M,a∈as0\/B a=U):ah (aj as0 B)<|aj M H:=fun b o e=>by
 have f:=e;by_cases c:b∈as0
 .rw[bT c]at e;cases e
 .rw[av c]at e;have d:b∉M:=fun z=>by
   grind
  rw[av d];exact s b o f
def DC{K:aT}(h1:gr K (aj as0 B) a xs)(h2:ay K (aj as0 B) ds xs):eM K as0 B (XI K a) ds where
 go:=fun i H s c=>by
  have b:i<xs.length:=by rw[<-h2.len];exact c
  exact⟨xs,xs[i],s.seq h1,∅⟩
 yl:=fun i H v H2 M s _ hM c⟨e,y⟩=>by
  subst e;obtain⟨d,q1,q2⟩:=h2.got<|y xs<|s.seq h1
  exact⟨ah.refl _,d,q1,q2.mono<|km s hM⟩
 stop:=fun H s=>⟨xs,s.seq h1,by rw[h2.len];exact mK _⟩
def Dj{K:aT}(h1:m7 K (aj as0 B) a xs)(h2:ay K (aj as0 B) ds xs):eM K as0 B (WQ K a) ds where
 go:=fun i H s c=>by
  have b:i<xs.length:=by rw[<-h2.len];exact c
  exact⟨xs,xs[i],s.Wt h1,∅⟩
 yl:=fun i H v H2 M s _ hM c⟨e,y⟩=>by
  subst e;obtain⟨d,q1,q2⟩:=h2.got<|y xs<|s.Wt h1
  exact⟨ah.refl _,d,q1,q2.mono<|km s hM⟩
 stop:=fun H s=>⟨xs,s.Wt h1,by rw[h2.len];exact mK _⟩
abbrev FV(z:Str):Rx:=z.cps.toList.map fun c=>D.str ⟨#[c]⟩
def AV{K:aT}(z:Str):eM K as0 B (VT z) (FV z) where
 go:=fun i H _ a=>by
  simpa[VT,ye]using a
 yl:=fun i H v H2 M _ _ _ a⟨e,c,h1,h2⟩=>by
  subst e;refine⟨ah.refl _,.str ⟨#[c]⟩,?_,h2⟩;mright
 stop:=fun H _=>by
  show _=z.length;simp[ye]
noncomputable def aW(lo:Int)(n:Nat):Rx:=(e6 n).map fun(k:Nat)=>D.int<|lo+(k:Int)
def wV{K:aT}(lo:Int)(n:Nat):eM K as0 B (V5 lo n) (aW lo n) where
 go:=fun i H _ a=>by
  delta aW at a;rw[WH,List.length_range]at a;exact a
 yl:=fun i H v H2 M _ _ _ a⟨e,h⟩=>by
  subst e;delta aW at a⊢;refine⟨ah.refl _,.int<|lo+i,?_,h⟩;mright
 stop:=fun H _=>by
  delta aW;show n<=_;simp
noncomputable def Aw:D->R (Rx)
 |.lst xs=>.ok xs
 |.tup xs=>.ok xs
 |.str z=>.ok<|FV z
 |_=>.no
def EX(ε:FE):FA:=fun Y=>(ε Y).bind Aw
variable{tg:Ry}
theorem j3.mono(h:j3 W as0 own H r Q)(s:ah H H'):j3 W as0 own H' r Q:=by
 cases r with
 |ok d=>exact fun a c b=>h a c<|s.trans b
 |er x=>exact fun e C c b=>h e C c<|s.trans b
 |no=>exact h
theorem AK(h:j3 W as0 own H (r.bind f) Q)(q:∀d v H',ah H H'->bQ W.K (aj #[8] H') d v->j3 W as0 own H' (f d) Q->Q' v H'):cP W #[8] H r Q':=by
 cases r with
 |ok d=>exact fun v H' s a=>q d v H' s a<|j3.mono h s
 |er x=>exact h
 |no=>exact h
theorem qo(h:j3 W as0 own H (r.bind f) Q)(q:∀d v H',ah H H'->ay W.K (aj #[8] H') d v->j3 W as0 own H' (f d) Q->Q' v H'):ib W #[8] H r Q':=by
 cases r with
 |ok d=>exact fun v H' s a=>q d v H' s a<|j3.mono h s
 |er x=>exact h
 |no=>exact h
def On(K:aT)(h:JE X l<|tD W O ε)(f:X.K=K<|>Rv)(c:W.K=K<|>Rv):JI X tg l<|iD W O<|EX ε:=(OQ K h f).imp fun Z H Q e=>dQ e fun as0 B own Y I h=>
 ⟨as0,B,own,Y,I,AK h fun d v H' s b h'=>by
  subst c;cases d with
  |lst ds=>
   obtain⟨a,xs,rfl,q1,q2⟩:=b;refine .inl ⟨⟨xs,(aD _ _).seq q1⟩,h' _ H' #[23] ?_⟩;rw[t7]at q1 q2;exact DC q1 q2
  |tup ds=>
   obtain⟨a,xs,rfl,q1,q2⟩:=b;refine .inr ⟨⟨xs,(aD _ _).Wt q1⟩,h' _ H' #[23] ?_⟩;rw[t7]at q1 q2;exact Dj q1 q2
  |str z=>subst b;exact h' _ H' #[23]<|AV z
  |_=>exact h'.elim⟩
def KN:Rx->R (Rx)
 |[.int j]=>if -(2^62)<=j/\j<2^62 then .ok (aW 0 j.toNat)else .no
 |_=>.no
def p9(α:FA):FA:=fun Y=>(α Y).bind KN
def DF{p pos:Pos}(b:X.mg "range"=U)(j:JA X [a]<|zx W O α)(d:Gl X "range"<|>Rv)(i:al a=G<|>Rv):JI X tg (.Call (.Name "range" p) [a] [] pos)<|iD W O<|p9 α:=(D8 b j d i).imp fun Z H Q e=>dQ e fun as0 B own Y I h=>
 ⟨as0,B,own,Y,I,qo h fun ds vs H' s g h'=>by
  delta KN at h';split at h'
  .obtain⟨v,r,rfl,f,c⟩:=g;subst f;subst c;split at h'
   .rename_i hj;exact⟨hj,h' _ H' #[23]<|wV 0 _⟩
   .exact h'.elim
  .exact h'.elim⟩
def cZ(tg:VA)(a:FS):Rx->Sd->R Fl
 |[],Y=>.ok<|.nx Y
 |x::r,Y=>(iY tg x Y).bind fun b=>(a b).bind fun f=>match f with
  |.nx δ2=>cZ tg a r δ2
  |.ct δ2=>cZ tg a r δ2
  |.bk δ2=>.ok<|.nx δ2
  |.rt d=>.ok<|.rt d
  |.rn d=>.ok<|.rn d
def Hy(ι:FA)(t:VA)(a:FS):FS:=fun Y=>(ι Y).bind fun xs=>cZ t a xs Y
theorem xL(I:DI W.K as0 B O own Z Y H)(h:c8 W as0 B Ob O' (r.bind f) D')
  (q:∀d a H',ah H H'->eM W.K as0 (aj own H') a d->c8 W as0 B Ob O' (f d) D'->Q a H'):j3 W as0 own H r Q:=by
 cases r with
 |ok d=>exact fun a H' s g=>q d a H' s g h
 |er x=>exact fun e C H' s=>h e C H'<|I.same.trans s
 |no=>exact h
def Pa{iter:Ry}{o:List SU}{ι:FA}{t:VA}(E:zJ #[0] X.A X.env X.xe)(s:JI X tg iter<|iD W O ι)(C:JG X tg<|gD W O t)(S:JB X o<|sD W O O O φ)(N:X.calm=G<|>Rv)
  (hs:(∀x,pg iter X.env x=pure x)<|>uN):JS X (.For tg iter o [] pos)<|sD W Ob O O<|Hy ι t φ:=(QE E s C S N hs).imp fun D' Z H D=>dQ D fun as0 B own Y I h=>by
 refine⟨as0,B,own,Y,I,xL I h fun xs u H1 F SK h1=>?_⟩;have q:=I.mono F;have r:=q.rebase q.apart;have sB:ah B<|aj own H1:=q.aaS;have h2:=h1.base sB I.wz;generalize M:aj own H1=B' at r sB h2 SK;have ex':∀a∈as0,B' a≠U:=r.wz;refine⟨fun i m Z H=>m=xs.length-i/\i<=xs.length/\∃own Y,DI W.K as0 B' O own Z Y H/\c8 W as0 B' Ob O (cZ t φ (xs.drop i) Y) D',⟨xs.length,by rfl,Uh _,own,Y,r,⊤⟩,?_⟩;rintro i m σ3 H3 ⟨rfl,s,own3,δ3,I3,h3⟩;by_cases l:i<xs.length
 .refine .inr ⟨SK.go i H3 ((aD _ _).trans I3.same) l,fun k H'=>∃own Y,DI W.K as0 B' O own k Y H'/\c8 W as0 B' Ob O (cZ t φ (xs.drop<|i+1) Y) D',by rintro k H'⟨g,δ',p,h'⟩;exact ⟨xs.length-(i+1),by grind,rfl,l,g,δ',p,h'⟩,fun v Q y=>?_⟩;obtain⟨s4,d,hd,dv⟩:=SK.yl i H3 v Q (own3++as0) ((aD _ _).trans I3.same) I3.Vq (fun a R=>by
   rcases BY.mp R with z|z
   .exact .inr (I3.fresh a z)
   .exact .inl z) l y
  have P:xs.drop i=d::xs.drop (i+1):=by
   rw[g5 l];rw[WT l]at hd;cases hd;rfl
  rw[P]at h3;refine⟨as0,B',own3,δ3,d,I3.mono s4,dv,?_⟩;have n:c8 W as0 B' Ob O ((iY t d δ3).bind fun j=>(φ j).bind fun f=>match f with
   |.nx b=>cZ t φ (xs.drop<|i+1) b
   |.ct b=>cZ t φ (xs.drop<|i+1) b
   |.bk b=>.ok<|.nx b
   |.rt d=>.ok<|.rt d
   |.rn d=>.ok (.rn d)) D':=h3
  cases hb1:iY t d δ3 with
  |ok j=>
   rw[hb1]at n;refine fun k p=>⟨as0,B',own3,j,p,?_⟩;have c:c8 W as0 B' Ob O ((φ j).bind fun f=>match f with
    |.nx b=>cZ t φ (xs.drop<|i+1) b
    |.ct b=>cZ t φ (xs.drop<|i+1) b
    |.bk b=>.ok<|.nx b
    |.rt d=>.ok<|.rt d
    |.rn d=>.ok (.rn d)) D':=n
   cases hr:φ j with
   |ok f=>
    rw[hr]at c;cases f with
    |nx b=>exact fun g k H' p=>⟨g,b,p,c⟩
    |ct b=>exact fun g k H' p=>⟨g,b,p,c⟩
    |bk b=>exact c
    |rt d=>exact c
    |rn d=>exact c
   |er x=>rw[hr]at c;exact c
   |no=>rw[hr]at c;exact c
  |er x=>delta iY at hb1;lia
  |no=>rw[hb1]at n;exact n.elim
 .have e:i=xs.length:=⊥
  subst e;rw[List.drop_length]at h3;exact .inl ⟨SK.stop H3<|(aD _ _).trans I3.same,h3 own3 σ3 H3 I3⟩
def cq(τ:FT)(a:FS):Nat->Sd->R Fl
 |0,_=>.no
 |n+1,Y=>(τ Y).bind fun b=>if b=G then(a Y).bind fun f=>match f with
  |.nx δ2=>cq τ a n δ2
  |.ct δ2=>cq τ a n δ2
  |.bk δ2=>.ok<|.nx δ2
  |.rt d=>.ok<|.rt d
  |.rn d=>.ok<|.rn d
  else .ok (.nx Y)
theorem Ej(n:Nat)(o:zJ #[0] X.A X.env X.xe)(p:JT X c<|lq W O τ)(s:JB X body<|sD W O O O φ):JS X (.While c body [] pos)<|sD W Ob O O<|cq τ φ n:=(yn o p s).imp fun D' Z H l=>dQ l fun as0 B own Y I h=>by
 refine⟨fun m Z H=>∃own Y,DI W.K as0 B O own Z Y H/\c8 W as0 B Ob O (cq τ φ m Y) D',⟨n,own,Y,I,h⟩,?_⟩;intro m σ3 H3 q0_;refine X7 q0_ fun own3 δ3 I3 h3=>?_;cases m with
 |zero=>exact h3.elim
 |succ m=>
  refine⟨as0,B,own3,δ3,I3,qb I3 h3 fun b r j k=>?_⟩;cases b with
  |false=>exact k own3 σ3 r<|I3.mono j
  |true=>
   refine⟨fun e H'=>∃own Y,DI W.K as0 B O own e Y H'/\c8 W as0 B Ob O (cq τ φ m Y) D',fun e H' q=>⟨m,mY m,q⟩,as0,B,own3,δ3,I3.mono j,?_⟩;have h4'  := k;cases hr:φ δ3 with
   |ok f=>
    rw[hr]at h4';cases f with
    |nx g=>exact fun a e H' i=>⟨a,g,i,h4'⟩
    |ct g=>exact fun a e H' i=>⟨a,g,i,h4'⟩
    |bk g=>exact h4'
    |rt d=>exact h4'
    |rn d=>exact h4'
   |er x=>rw[hr]at h4';exact h4'
   |no=>rw[hr]at h4';exact h4'
end
def R.calm{α:Type}:R α->R α
 |.ok a=>.ok a
 |_=>.no
def dY(ix:List<|Option Nat)(Y:Sd):Sd:=ix.map fun o=>o.bind fun j=>(Y[j]?).getD U
noncomputable def tX:VA->Sd->Bool
 |.one i,Y=>match Y[i]? with
  |some U=>G
  |_=>η
 |.tup is,Y=>is.all fun i=>match Y[i]? with
  |some U=>G
  |_=>η
def fV(tg:VA)(τ:FT)(ε:FE)(a:Sd):Rx->R (Rx)
 |[]=>.ok []
 |x::r=>(iY tg x a).bind fun c=>(τ c).bind fun b=>if b=G then(ε c).bind fun y=>(fV tg τ ε a r).bind fun ys=>.ok (y::ys)else fV tg τ ε a r
def cF(tg:VA)(τ:FT)(ε:FE)(a:Sd)(xs:Rx):R D:=if tX tg a=G/\xs.length<=1000000 then(fV tg τ ε a xs).calm.bind fun ys=>.ok (.lst ys)else .no
def jX(ix:List<|Option Nat)(ι:FA)(tg:VA)(τ:FT)(ε:FE):FE:=fun Y=>(ι Y).bind fun xs=>cF tg τ ε (dY ix Y) xs
def xa:FT:=fun _=>.ok G
theorem rR:∀(is:Ru)(ds:Rx)(a Y:Sd),(∀(i:Nat),i∈is->a[i]?=J U)->(∀(i:Nat)(d:D),a[i]?=J (J d)->Y[i]?=J (J d))->∀(i:Nat)(d:D),a[i]?=J (J d)->(l7 is ds Y)[i]?=J (J d)
 |[],_,_,_,_,h=>by assumption
 |_::_,[],_,_,_,h=>by assumption
 |j::is,x::ds,a,Y,hn,h=>by
  intro i d e;refine rR is ds a _ (fun i c=>hn i<|ie _ c) (fun i d e=>?_) i d e;have b:j≠i:=fun z=>by
   mright
  mright
theorem D4{tg:VA}{x:D}{a δ1:Sd}(c:tX tg a=G)(h:iY tg x a=.ok δ1):∀(i:Nat)(d:D),a[i]?=J (J d)->δ1[i]?=J (J d):=by
 cases tg with
 |one j=>
  nofun;intro i d e;have f:j≠i:=fun z=>by
   subst z;have b:(match a[j]? with|some U=>G|_=>η)=G:=c
   rw[e]at b;cases b
  mright
 |tup is=>
  cases x with
  |tup ds=>
   have h':(if ds.length=is.length then R.ok (l7 is ds a)else .no)=.ok δ1:=h;split at h'
   .cases h';refine rR is ds a a (fun i g=>?_) fun i d e=>e;have b  := c
    have:=Ve.mp b i g
    grind
   .cases h'
  |_=>nofun
theorem uQ:∀(is:Ru)(ds:Rx)(Y:Sd),(l7 is ds Y).length=Y.length
 |[],_,_=>by rfl
 |_::_,[],_=>by rfl
 |j::is,x::ds,Y=>by unfold l7;rw[uQ is ds];simp
theorem IY(h:iY tg x δ0=.ok δ1):δ1.length=δ0.length:=by
 cases tg with
 |one j=>nofun;simp
 |tup is=>
  cases x with
  |tup ds=>
   have h':(if ds.length=is.length then R.ok (l7 is ds δ0)else .no)=.ok δ1:=h;split at h'
   .cases h';exact uQ _ _ _
   .cases h'
  |_=>nofun
def DI.plain{K:aT}(c:Y.length=Z.length)(ex:∀a∈M,H a≠U)(var:∀(i:Nat)(d:D),Y[i]?=J (J d)->∃v,Z[i]?=J (J v)/\bQ K (aj M H) d v):DI K M H [] [] Z Y H:=
 ⟨c,rfl,Yv,Yv,fun a b=>(nomatch b),ex,ah.refl _,fun i d _ e=>var i d e,fun i a h=>#[28]⟩
section
variable{X:Cx}{W Wb:Wd}{O:Ru}{osc:Scope}{ON N:SH}{ix:List (Option Nat)}{scope:Scope}{tg elt iter:Ry}{ifs:List Ry}{pos:Pos}{ι:FA}{t:VA}{τ:FT}{ε:FE}
def Jw:Yq X []<|lq W O xa:=Kf.imp fun Z H Q a=>dQ a fun as0 B own Y I h=>h H<|ah.refl _
structure w8(K:aT)(M:Sf)(H:Hp)(Jq0:It)(xs:Rx):Prop where
 go:∀i H1,ah H H1->i<xs.length->Jq0.go i H1
 yl:∀i H1 v H2 acc,ah H H1->H acc=U->(∀a∈acc::M,H1 a≠U)->i<xs.length->Jq0.gF i H1 v H2->ah H1 H2/\∃d,xs[i]?=J d/\bQ K (aj (acc::M) H2) d v
 stop:∀H1,ah H H1->Jq0.stop xs.length H1
def eM.comp{K:aT}(SK:eM K as0 (aj own H) Jq0 xs):w8 K #[8] H Jq0 xs where
 go:=fun i H1 s e=>SK.go i H1 ((aD _ _).trans<|(aD _ _).trans s) e
 yl:=fun i H1 v g c s b f e y=>SK.yl i H1 v g (c::#[8]) ((aD _ _).trans<|(aD _ _).trans s) f (fun a d=>by
  rcases eQ.mp d with rfl|d
  .refine .inr ?_
   cases z:aj own H a with
   |none=>rfl
   |some u=>have:=aD _ _ _ _ z;rw[b]at this;cases this
  .rcases BY.mp d with z|z
   .exact .inr (bT z)
   .exact .inl z) e y
 stop:=fun H1 s=>SK.stop H1<|(aD _ _).trans<|(aD _ _).trans s
def w9(tg:VA)(τ:FT)(ε:FE)(a:Sd)(xs:Rx):R D:=if tX tg a=G/\xs.length<=1000000 then(fV tg τ ε a xs).bind fun ys=>.ok (.lst ys)else .no
theorem Du{tg:VA}(h:iY tg d Y=.er x):False:=by
 cases tg with
 |one i=>nofun
 |tup is=>
  cases d with
  |tup ds=>
   have h':(if ds.length=is.length then R.ok (l7 is ds Y)else .no)=.er x:=h;split at h'<;>cases h'
  |_=>nofun
def GA{K:aT}{as0 own:Sf}{B H:Hp}{Z:St}{Y:Sd}{xs:Rx}{Jq0:It}{Q:VK}(P:Wb.K=K)(I:DI K as0 B O own Z Y H)(hO:∀j∈ix,∀k,j=J k->k∉O)(SK:w8 K #[8] H Jq0 xs)
  (hq:match w9 t τ ε (dY ix Y) xs with
   |.ok d=>∀p o H',ah H H'->H p=U->H' p=J o->kL K (aj (p::#[8]) H') o d->Q (.ref p) H'
   |.er x=>∀e C H',ah H H'->Wb.mg x=J (.ref C)->Wb.E e (J C) H'
   |.no=>False):wQ (gD Wb [] t) (lq Wb [] τ) (tD Wb [] ε) Jq0 (mz ix Z) H Q:=by
 intro c f;unfold w9 at hq;by_cases hc:tX t (dY ix Y)=G/\xs.length<=1000000
 .rw[SI hc]at hq;obtain⟨hf,hlen⟩:=hc
  generalize W:fV t τ ε (dY ix Y) xs=ra at hq;have l:∀(es:Rx)(r:R<|Rx),ra=(r.bind fun rest=>.ok<|es++rest)->match r with
    |.ok rest=>∀p o H',ah H H'->H p=U->H' p=J o->kL K (aj (p::#[8]) H') o (.lst<|es++rest)->Q (.ref p) H'
    |.er x=>∀e C H',ah H H'->Wb.mg x=J (.ref C)->Wb.E e (J C) H'
    |.no=>False:=fun es r e=>by
   subst e;cases r with
   |ok rest=>exact hq
   |er x=>exact hq
   |no=>exact hq
  clear hq;generalize X:dY ix Y=δ0 at hf W;have cl:δ0.length=(mz ix Z).length:=by rw[<-X];unfold dY mz;simp
  have cv:∀(i:Nat)(d:D),δ0[i]?=J (J d)->∃v,(mz ix Z)[i]?=J (J v)/\bQ K (aj #[8] H) d v:=by rw[<-X];exact(by
    intro i d e;unfold dY at e;unfold mz;rw[Xm]at e⊢;cases h:ix[i]? with
    |none=>grind
    |some o=>
     rw[h]at e;cases o with
     |none=>cases e
     |some j=>
      have ej:Y[j]?=J (J d):=by
       cases q:Y[j]? with
       |none=>mright
       |some w=>mright
      obtain⟨v,h1,h2⟩:=I.var j d (hO _ (Do h) j rfl) ej
      mright)
  generalize mz ix Z=σ0 at cl cv;have exM0:=I.Vq;generalize hM:own++as0=M at cv l SK exM0;have exM:∀a∈M,H a≠U:=exM0;have naM:c∉M:=fun z=>exM c z f
  have F:∀{H':Hp},ah H H'->(∃o,H' c=J o)->∀a∈c::M,H' a≠U:=fun{H'}s⟨o,e⟩a ha=>by
   rcases eQ.mp ha with rfl|ha
   .rw[e];simp
   .cases q:H a with
    |none=>exact absurd q<|exM a ha
    |some u=>rw[s a u q];simp
  have s0:ah H<|br H c<|.lst []:=bR f _;have start:ra=((fV t τ ε δ0<|xs.drop 0).bind fun rest=>.ok<|[]++rest):=by
   rw[<-W,aer];cases fV t τ ε δ0 xs<;>rfl
  refine⟨fun i m T H'=>m=xs.length-i/\i<=xs.length/\∃ys es,H' c=J (.lst ys)/\ys.length<=i/\ah H H'/\ay K (aj (c::M) H') es ys/\ra=((fV t τ ε δ0<|xs.drop i).bind fun rest=>.ok<|es++rest)/\DI K (c::M) H' [] [] T δ0 H',
   ⟨xs.length,∅,Uh _,[],[],aE,Uh _,s0,rfl,start,DI.plain cl (F s0 ⟨_,aE⟩) fun i d e=>let⟨v,h1,h2⟩:=cv i d e;⟨v,h1,h2.mono (tH f s0)⟩⟩,?_⟩
  rintro i m σ1 H1 ⟨rfl,hi,ys,es,e1,hl1,s1,d1,c1,I1⟩;have sB:ah H H1:=s1;by_cases A:i<xs.length
  .refine .inr ⟨SK.go i H1 sB A,fun T H'=>∃ys es,H' c=J (.lst ys)/\ys.length<=i+1/\ah H H'/\ay K (aj (c::M) H') es ys/\ra=((fV t τ ε δ0<|xs.drop<|i+1).bind fun rest=>.ok<|es++rest)/\DI K (c::M) H' [] [] T δ0 H',
    by rintro T H'⟨ys,es,q⟩;exact ⟨xs.length-(i+1),⊥,rfl,A,ys,es,q⟩,fun v H2 y=>?_⟩
   left;obtain⟨s2,d,hd,dv⟩:=SK.yl i H1 v H2 c sB f (F s1 ⟨_,e1⟩) A y
   have ed:xs.drop i=d::xs.drop (i+1):=by
    rw[g5 A];rw[WT A]at hd;cases hd;rfl
   rw[ed]at c1;have c1:ra=(((iY t d δ0).bind fun g=>(τ g).bind fun b=>if b=G then(ε g).bind fun y=>(fV t τ ε δ0<|xs.drop<|i+1).bind fun ys=>.ok (y::ys)else fV t τ ε δ0 (xs.drop<|i+1)).bind fun rest=>.ok<|es++rest):=c1;cases b1:iY t d δ0 with
   |er x=>right;exact(Du b1).elim
   |no=>right;rw[b1]at c1;exact(l es .no c1).elim
   |ok g=>
    right;rw[b1,am]at c1;have I2:DI K (c::M) H2 [] [] σ1 δ0 H2:=DI.plain I1.len (F (s1.trans s2) ⟨_,s2 _ _ e1⟩) fun i d e=>let⟨v,h1,h2⟩:=I1.var i d ∅ e;⟨v,h1,h2.mono<|aA s2⟩;have again:∀{S:St}{H3 H4:Hp},DI K (c::M) H2 [] [] S g H3->ah (aj (c::M) H3) (aj (c::M) H4)->(∀a∈c::M,H4 a≠U)->DI K (c::M) H4 [] [] S δ0 H4:=fun{S H3 H4}I3 s34 ex4=>
     DI.plain (by rw[<-IY b1];exact I3.len) ex4 fun i d e=>let⟨v,h1,h2⟩:=I3.var i d ∅<|D4 hf b1 i d e;⟨v,h1,h2.mono s34⟩
    refine⟨c::M,H2,[],δ0,d,by rw[P];exact I2,by rw[P];exact dv,?_⟩;rw[b1];refine fun S I3=>⟨c::M,H2,[],g,I3,?_⟩;rw[P]at I3;cases b2:τ g with
    |er x=>rw[b2]at c1;exact fun e C H' s' hm=>l es (.er x) c1 e C H' ((s1.trans s2).trans<|I3.same.trans s') hm
    |no=>rw[b2]at c1;exact(l es .no c1).elim
    |ok b=>
     rw[b2,am]at c1;refine fun H3 s3=>?_;have I3':=I3.mono s3;have n:ah H1 H3:=s2.trans<|I3.same.trans s3;cases b with
     |false=>
      rw[SM MK]at c1;exact⟨ys,es,n _ _ e1,⊥,s1.trans n,d1.mono<|aA n,c1,again I3' #[23]<|F (s1.trans n) ⟨_,n _ _ e1⟩⟩
     |true=>
      rw[SI rfl]at c1;refine⟨c::M,H2,[],g,by rw[P];exact I3',?_⟩;cases b3:ε g with
      |er x=>rw[b3]at c1;exact fun e C H' s' hm=>l es (.er x) c1 e C H' ((s1.trans n).trans s') hm
      |no=>rw[b3]at c1;exact(l es .no c1).elim
      |ok y'=>
       rw[b3,am]at c1;refine fun v4 H4 s4 d4=>?_;rw[P]at d4;have s14:ah H1 H4:=n.trans s4;have e4:=s14 _ _ e1;have hm:=ck;have N:ah (aj (c::M) H4)<|aj (c::M)<|br H4 c<|.lst<|ys++[v4]:=fun b o e=>by
        by_cases hb:b∈c::M
        .rw[bT hb]at e;cases e
        .rw[av hb]at e⊢;rw[aG fun z=>hb<|by rw[z];exact Up];exact e
       have s5:ah H<|br H4 c<|.lst<|ys++[v4]:=fun b o e=>by
        rw[aG<|bc e f];exact(s1.trans s14) b o e
       refine⟨ys,e4,⊥,ys++[v4],es++[y'],aE,by simp;omega,s5,?_,?_,again I3' ((aA s4).trans N)<|F s5 ⟨_,aE⟩⟩
       .exact(ay.append (d1.mono<|aA s14)<|ay.cons d4 ay.nil).mono N
       .rw[c1];cases fV t τ ε δ0 (xs.drop<|i+1)with
        |ok r=>show R.ok _=R.ok _;simp
        |er x=>rfl
        |no=>rfl
  .have e':i=xs.length:=⊥
   subst e';rw[List.drop_length]at c1;have this:∀(p:SA)(o:HO)(H':Hp),ah H H'->H p=U->H' p=J o->kL K (aj (p::M) H') o (D.lst<|es++[])->Q (V.ref p) H':=l es (.ok []) c1;rw[Wz]at this;exact .inl ⟨SK.stop H1 sB,this c _ H1 s1 f e1 ⟨ys,rfl,d1⟩⟩
 mright
def oy{K:aT}(b:Wb.K=K)(I:DI K as0 B O own Z Y H)(e:∀j∈ix,∀k,j=J k->k∉O)(SK:w8 K #[8] H Jq0 xs)
  (a:match cF t τ ε (dY ix Y) xs with
   |.ok d=>∀p o H',ah H H'->H p=U->H' p=J o->kL K (aj (p::#[8]) H') o d->Q (.ref p) H'
   |_=>False):wQ (gD Wb [] t) (lq Wb [] τ) (tD Wb [] ε) Jq0 (mz ix Z) H Q:=by
 refine GA b I e SK ?_;delta cF at a;delta w9;by_cases c:tX t (dY ix Y)=G/\xs.length<=1000000
 .rw[SI c]at a⊢;cases hall:fV t τ ε (dY ix Y) xs with
  |ok ys=>rw[hall]at a;exact a
  |er x=>rw[hall]at a;exact a.elim
  |no=>rw[hall]at a;exact a.elim
 mright
def Qy(g:zr osc ON N ix scope=G)(n:JI X tg iter<|iD W O ι)(m:∀b,JG #[10] tg<|gD Wb [] t)(l:∀b,Yq #[10] ifs<|lq Wb [] τ)(w:∀b,JE #[10] elt<|tD Wb [] ε)(v:∀j∈ix,∀k,j=J k->k∉O)
  (a:Wb.K=W.K<|>Rv) (u:X.env.scope=osc<|>Rv) (f:X.N=ON<|>Rv) (e:X.calm=G<|>Rv) (hs:(∀x,pg iter X.env x=pure x)<|>uN):JE X #[4]<|tN W O<|jX ix ι t τ ε:=
 (Qa g n m l w u f e hs).imp fun Z H Q q=>dQ q fun as0 B own Y I h=>⟨as0,B,own,Y,I,by
  delta jX at h;cases hr:ι Y with
  |no=>rw[hr]at h;mleft
  |er x=>rw[hr]at h;exact h
  |ok xs=>
   rw[hr]at h;refine fun i H1 c SK=>oy a (I.mono c) v SK.comp ?_;have h':kX W #[8] H (cF t τ ε (dY ix Y) xs) Q:=h;cases hq:cF t τ ε (dY ix Y) xs with
   |ok d=>rw[hq]at h';exact fun p o H' s r=>h' p o H' (c.trans s)<|c.free r
   |er x=>
    delta cF at hq;split at hq
    .cases e:fV t τ ε (dY ix Y) xs<;>rw[e]at hq<;>cases hq
    .cases hq
   |no=>rw[hq]at h';exact h'.elim⟩
def LO{i:Nat}{spos pos':Pos}(y:X.N.Nodup)(M:Loc X.env.scope x)(l:zr osc ON N ix scope=G)(r:JI X tg iter<|iD W O ι)(q:∀b,JG #[10] tg<|gD Wb [] t)(n:∀b,Yq #[10] ifs<|lq Wb [] τ)(E:∀b,JE #[10] elt<|tD Wb [] ε)(A:∀j∈ix,∀k,j=J k->k∉O)
  (c:Wb.K=W.K<|>Rv) (C:X.N[i]?=J x<|>Rv) (z:X.env.scope=osc<|>Rv) (g:X.N=ON<|>Rv) (f:X.calm=G<|>Rv)
  (a:Uw #[4] (J<|.Name x pos') spos.line X.env=pure G<|>Rv)
  (F:#[1]<|>XN)
  (hs:(∀x,pg iter X.env x=pure x)<|>uN):JS X (.Assign [.Name x pos'] #[4] spos)<|AL (tN W O<|jX ix ι t τ ε)<|ml i:=
 (Ap y M l r q n E C z g f a F hs).imp fun D Z H v=>dQ v fun as0 B own Y I h=>⟨as0,B,own,Y,I,by
  delta jX at h;cases hr:ι Y with
  |no=>rw[hr]at h;mleft
  |er x=>rw[hr]at h;exact h
  |ok xs=>
   rw[hr]at h;refine fun m H1 e SK=>oy c (I.mono e) A SK.comp ?_;have h':kX W #[8] H (cF t τ ε (dY ix Y) xs) (fun x H1=>ml i x Z H1 D.nx):=h;cases hq:cF t τ ε (dY ix Y) xs with
   |ok d=>rw[hq]at h';exact fun p o H' s w=>h' p o H' (e.trans s)<|e.free w
   |er x=>
    delta cF at hq;split at hq
    .cases f:fV t τ ε (dY ix Y) xs<;>rw[f]at hq<;>cases hq
    .cases hq
   |no=>rw[hq]at h';exact h'.elim⟩
def L7{st:SU}(c:i∉O)(h:JS X st<|AL (tN W O ε)<|ml i):JS X st<|sD W Ob O (i::O)<|Av i ε:=h.imp fun D Z H a=>dQ a fun as0 B own Y I h=>
 ⟨as0,B,own,Y,I,kg I h fun d p o H' s b e f h'=>by
  split at h'
  .rename_i hl;exact h' _ _ H'<|ze I c s b e f hl
  .exact h'.elim⟩
def KC{st:SU}(c:i∉O)(h:JS X st<|AL (tN W O ε)<|ml i):JS X st<|sD W Ob O O<|rZ i ε:=h.imp fun D Z H a=>dQ a fun as0 B own Y I h=>
 ⟨as0,B,own,Y,I,kg I h fun d p o H' s b e f h'=>h' own _ H'<|(I.mono s).set c<|f.den (I.new b) e⟩
end
def gd(N:SH)(ds:Rx):Sd:=ds.map J++Ut (N.length-ds.length) U
def gx(φ:FS)(N P:SH)(ds:Rx):R D:=if ds.length=P.length then(φ<|gd N ds).bind fun f=>match f with
 |.rt d=>.ok d
 |.rn d=>.ok d
 |.nx _=>.ok .S9
 |_=>.no
 else .no
def rj(K:aT)(mg:Sq)(F:Rx->R D):Sp:=fun vs H Q _=>∃as ds,(∀a∈as,H a≠U)/\ay K (aj as H) ds vs/\cP ⟨K,mg,E0⟩ as H (F ds) Q
section
variable{P:Tc}{w:Sl}{K:aT}{mg:Sq}{base:T3}
def mZ:∀{ds:Rx}{vs:Se}{i:Nat}{d:D},ay K H ds vs->∀{n:Nat},(ds.map J++Ut n U)[i]?=J (J d)->∃v,(vs.map J++Ut n U)[i]?=J (J v)/\bQ K H d v:=by
 intro ds vs i d h n e;have b:=h.len;by_cases a:i<ds.length
 .rw[uy<|by simpa using a]at e;rw[uy<|by simp_all];cases q:ds[i]? with
  |none=>mright
  |some d'=>
   obtain⟨v,h1,h2⟩:=h.get q
   mright
 .rw[nN<|by simpa using a,yg]at e;split at e<;>cases e
def UD.okD{st:SU}(F:UD K x qual st f fd)(S:Vr N ps<|ai st)
  (g:∀(c:nE)(_:Ea K c qual=G)(A:Tx)(b:List Env)(s:ID)(H:Hp)(E:XK),TZ k (A.deeper<|W7 qual (ai st) s.heap.objs.size f c) ->
   JB (gw lD P w K mg base N qual (ai st) f c A b s H E).Xe (bL st) (sD ⟨K,mg,E0⟩ [] [] O' φ)):T8 P w K mg base lD (k+1) f fd ps (rj K mg (gx φ N ps)):=by
 refine F.okJ S (fun vs H Q E h=>?_) fun c m A b s H vs Q E j h=>?_
 .obtain⟨as,ds,ex,l,h⟩:=h;delta gx at h;cbv
  .rename_i hl;rw[<-l.len];exact hl
  .mleft
 .obtain⟨as,ds,ex,l,h⟩:=h
  delta gx at h;cbv
  .refine⟨_,g c m A b s H E j,as,H,[],gd N ds,⟨?_,rfl,Yv,Yv,fun a q=>(nomatch q),ex,ah.refl _,fun i d _ e=>?_,fun i a h=>(by simp at h)⟩,?_⟩
   .delta gd start;simp[l.len]
   .delta start;rw[<-l.len];exact mZ l e
   .cases j:φ (gd N ds)with
    |ok fl=>
     rw[j]at h;cases fl with
     |rt d=>assumption
     |rn d=>exact fun p o H' s n e r=>h (.ref p) H' s<|r.den (fun z=>ex p z n) e
     |nx Y=>exact fun own Z H' I=>h .S9 H' I.same rfl
     |bk Y=>mleft
     |ct Y=>mleft
    |er x=>rw[j]at h;exact fun e C H' s=>h e C H' s
    |no=>rw[j]at h;mleft
  .mleft
end
section
variable{W:Wd}{X:Cx}
def ax(h:cP W as H (.ok d) Q)(hd:bQ W.K (aj as H) d v):Q v H:=h v H #[23] hd
section
variable{W:Wd}{X:Cx}
def ag4:eJ X (binaryOp .Add) (fun x y H Q=>∃l b xs zs,x=.ref l/\y=.ref b/\gr X.K H l xs/\gr X.K H b zs/\xs.length+zs.length<=sizeLine/\∀p,H p=U->Q (.ref p) (br H p<|.lst<|xs++zs)):=by
 intro aa s Z H x y v u Q I c a h;obtain⟨l,b,xs,zs,rfl,rfl,hH,hB,hz,q⟩:=h;cases c;cases a;obtain⟨aV,r,pl,hl⟩:=I.list hH;obtain⟨its2,r2,pl2,hl2⟩:=I.list hB;obtain⟨⟨cls,dd,data,sl⟩,ho,hc,n,hd⟩:=pl.isList;obtain⟨⟨cls2,dd2,data2,sl2⟩,ho2,hc2,n2,hd2⟩:=pl2.isList;subst hc hd hc2 hd2;have e:aV.toArray++its2.toArray=(aV++its2).toArray:=∅
 refine concat_meets ⟨_,ho,rfl⟩ ⟨_,ho2,rfl⟩ noFill_list_add seq_list_add PySem.F.slot_list_add PySem.F.entry_list_add (PySem.F.args_list_add_2 _ _) (list_addW l b aV.toArray its2.toArray n n2 dd dd2 sl sl2<|by rw[XC,XC,<-r.length,<-r2.length];exact hz) ⟨ho,ho2,?_⟩;rw[e];exact⟨.ref _,_,I.ex0 (r.append r2)<|by grind,rfl,q _ I.fresh⟩
end
noncomputable def zI(a b:D):R D:=match a,b with
 |.int i,.int j=>.ok<|.int<|i-j
 |_,_=>.no
section
variable{W:Wd}{X:Cx}
end
def AN:eJ X (Yo .Mult) (fun x y H Q=>∃i n,x=.str i/\y=.int n/\MulOk i n/\Q (.str<|Txt.mul i n) H):=by
 intro aa s Z H x y v u Q I c b h;obtain⟨i,n,rfl,rfl,a,q⟩:=h;obtain⟨t,rfl⟩:=c;obtain⟨t',rfl⟩:=b;exact aO I.tk<|SB.mul a fun t' k d=>⟨.str _,H,I.tok _,⟨t',rfl⟩,q⟩
def MF:UL:=fun x y H Q=>match x,y with
 |.int i,.int j=>y3 i j/\Q (.int<|i*j) H
 |.str i,.int j=>MulOk i j/\Q (.str<|Txt.mul i j) H
 |_,_=>False
section
variable{W:Wd}{X:Cx}
end
instance (i j:Int):Decidable<|y3 i j:=by unfold y3;infer_instance
instance (i j:Int):Decidable<|ET i j:=by unfold ET;infer_instance
instance (i j:Int):Decidable<|Iy i j:=by unfold Iy;infer_instance
noncomputable def qX(a b:D):R D:=match a,b with
 |.int i,.int j=>if y3 i j then .ok (.int<|i*j)else .no
 |.str x,.int n=>if x.length<=1000/\-1000<=n/\n<=1000 then .ok (.str<|Txt.mul x n)else .no
 |_,_=>.no
def byt:wo W MF qX:=by
 intro as H x y a b Q e c d h;delta qX at h;cbv
 .subst c;subst d;cbv
  .rename_i hl;exact⟨hl,ax h rfl⟩
  .mleft
 .subst c;subst d;cbv
  .rename_i hl;exact⟨mulOk_of 1000 1000 hl.1 #[28] ⊥ ∅<|∅,ax h rfl⟩
  .mleft
 .mleft
noncomputable def lO(a b:D):R D:=match a,b with
 |.int i,.int j=>if ET i j then .ok (.int<|i/j)else .no
 |_,_=>.no
section
variable{W:Wd}{X:Cx}
end
noncomputable def gk(a b:D):R D:=match a,b with
 |.int i,.int j=>if 0<j then .ok (.int<|i%j)else .no
 |_,_=>.no
section
variable{W:Wd}{X:Cx}
end
noncomputable def QN(a:D):R D:=match a with
 |.int i=>.ok<|.int<|-i
 |_=>.no
section
variable{W:Wd}{X:Cx}
end
noncomputable def zF(a b:D):R D:=match a,b with
 |.int i,.int j=>.ok<|.bl<|decide (i<j)
 |.str i,.str j=>.ok<|.bl<|decide (i.cps.toList<j.cps.toList)
 |_,_=>.no
noncomputable def Mp(a b:D):R D:=match a,b with
 |.int i,.int j=>.ok<|.bl<|decide (i<=j)
 |.str i,.str j=>.ok<|.bl<|!decide (j.cps.toList<i.cps.toList)
 |_,_=>.no
noncomputable def Ed(a b:D):R D:=match a,b with
 |.int i,.int j=>.ok<|.bl<|decide (j<i)
 |.str i,.str j=>.ok<|.bl<|decide (j.cps.toList<i.cps.toList)
 |_,_=>.no
noncomputable def C9(a b:D):R D:=match a,b with
 |.int i,.int j=>.ok<|.bl<|decide (j<=i)
 |.str i,.str j=>.ok<|.bl<|!decide (i.cps.toList<j.cps.toList)
 |_,_=>.no
def Z5:wo W Xn zF:=by
 intro as H x y a b Q e c d h;delta zF at h;cbv
 .subst c;subst d;exact ax h rfl
 .subst c;subst d;exact ax h rfl
 .mleft
def ZC:wo W Yy Mp:=by
 intro as H x y a b Q e c d h;delta Mp at h;cbv
 .subst c;subst d;exact ax h rfl
 .subst c;subst d;exact ax h rfl
 .mleft
def ZG:wo W W9 Ed:=by
 intro as H x y a b Q e c d h;delta Ed at h;cbv
 .subst c;subst d;exact ax h rfl
 .subst c;subst d;exact ax h rfl
 .mleft
def YO:wo W XA C9:=by
 intro as H x y a b Q e c d h;delta C9 at h;cbv
 .subst c;subst d;exact ax h rfl
 .subst c;subst d;exact ax h rfl
 .mleft
def WS:D->Bool
 |.S9=>G
 |_=>η
noncomputable def WO(j:Bool):D->Bool
 |.bl i=>i==j
 |_=>η
def OU(x:D)(y:D):R D:=match y with
 |.S9=>.ok<|.bl<|WS x
 |.bl j=>.ok<|.bl<|WO j x
 |_=>.no
def rX(x:D)(y:D):R D:=match y with
 |.S9=>.ok<|.bl<|!WS x
 |.bl j=>.ok<|.bl<|!WO j x
 |_=>.no
theorem vj{K:aT}(h:bQ K H a x):BI x .S9=WS a:=by
 cases a with
 |lst _=>obtain⟨_,_,rfl,_⟩:=h;rfl
 |tup _=>obtain⟨_,_,rfl,_⟩:=h;rfl
 |Xx _=>obtain⟨_,_,rfl,_⟩:=h;rfl
 |obj _ _=>obtain⟨_,_,_,_,rfl,_⟩:=h;rfl
 |jT _=>obtain⟨_,_,rfl,_⟩:=h;rfl
 |cls _=>obtain⟨_,rfl,_⟩:=h;rfl
 |WK _=>obtain⟨_,_,rfl,_⟩:=h;rfl
 |fu _=>obtain⟨_,_,_,rfl,_⟩:=h;rfl
 |_=>subst h;rfl
theorem uS{K:aT}(h:bQ K H a x):BI x (.bl j)=WO j a:=by
 cases a with
 |lst _=>obtain⟨_,_,rfl,_⟩:=h;rfl
 |tup _=>obtain⟨_,_,rfl,_⟩:=h;rfl
 |Xx _=>obtain⟨_,_,rfl,_⟩:=h;rfl
 |obj _ _=>obtain⟨_,_,_,_,rfl,_⟩:=h;rfl
 |jT _=>obtain⟨_,_,rfl,_⟩:=h;rfl
 |cls _=>obtain⟨_,rfl,_⟩:=h;rfl
 |WK _=>obtain⟨_,_,rfl,_⟩:=h;rfl
 |fu _=>obtain⟨_,_,_,rfl,_⟩:=h;rfl
 |_=>subst h;rfl
def YX:wo W Wu OU:=by
 intro as H x y a b Q e c d h;delta OU at h;cbv
 .subst d;show Q (.bl<|BI x .S9) H;rw[vj c];exact ax h rfl
 .subst d;show Q (.bl<|BI x<|.bl _) H;rw[uS c];exact ax h rfl
 .mleft
def Fj:wo W z6 rX:=by
 intro as H x y a b Q e c d h;delta rX at h;cbv
 .subst d;show Q (.bl<|!BI x .S9) H;rw[vj c];exact ax h rfl
 .subst d;show Q (.bl<|!BI x (.bl _)) H;rw[uS c];exact ax h rfl
 .mleft
mutual
def kZ:D->Option PyData
 |.S9=>J .none
 |.bl b=>J<|.bool b
 |.int i=>J<|.int i
 |.str x=>J<|.str x
 |.lst xs=>(ma xs).map .list
 |.tup xs=>(ma xs).map .tuple
 |_=>U
def ma:Rx->Option (List PyData)
 |[]=>J []
 |d::ds=>(kZ d).bind fun p=>(ma ds).map (p::·)
end
mutual
theorem kz{aa:TQ}{Z:St}{H:Hp}{s:ID}(I:Inv X aa Z H s):∀{d:D}{v:V}{u:nE}{p:PyData},bQ X.K H d v->aP v u->kZ d=J p->∃as,Reads s.heap u p as
 |.S9,_,_,_,h,r,e=>by subst h;subst r;cases e;exact⟨_,.none⟩
 |.bl b,_,_,_,h,r,e=>by subst h;subst r;cases e;exact⟨_,.bool b⟩
 |.int i,_,_,_,h,r,e=>by subst h;obtain⟨t,rfl⟩:=r;cases e;exact⟨_,.int i t⟩
 |.str x,_,_,_,h,r,e=>by subst h;obtain⟨t,rfl⟩:=r;cases e;exact⟨_,.str x t⟩
 |.lst ds,_,_,_,⟨a,xs,h0,h1,h2⟩,r,e=>by
  subst h0;subst r;unfold kZ at e;cases q:ma ds with
  |none=>rw[q]at e;cases e
  |some ps=>
   rw[q]at e;cases e;obtain⟨aV,rv,pl,hz⟩:=I.list h1
   obtain⟨o,ho,hc,n,hd⟩:=pl.isList
   obtain⟨as,ha⟩:=kI I h2 rv q
   exact⟨_,.list ho hc hd<|by assumption⟩
 |.tup ds,_,_,_,⟨a,xs,h0,h1,h2⟩,r,e=>by
  subst h0;subst r;unfold kZ at e;cases q:ma ds with
  |none=>mright
  |some ps=>
   rw[q]at e;cases e;obtain⟨aV,rv,pl,hz⟩:=I.tuple h1
   obtain⟨o,ho,hc,n,hd⟩:=pl
   obtain⟨as,ha⟩:=kI I h2 rv q
   exact⟨_,.tuple ho hc hd<|⊤⟩
 |.Xx _,_,_,_,_,_,e=>by cases e
 |.obj _ _,_,_,_,_,_,e=>by cases e
 |.ty _,_,_,_,_,_,e=>by cases e
 |.jT _,_,_,_,_,_,e=>by cases e
 |.cls _,_,_,_,_,_,e=>by cases e
 |.WK _,_,_,_,_,_,e=>by cases e
 |.fu _,_,_,_,_,_,e=>by cases e
theorem kI{aa:TQ}{Z:St}{H:Hp}{s:ID}(I:Inv X aa Z H s):∀{ds:Rx}{vs:Se}{us:TK}{ps:List PyData},ay X.K H ds vs->aU vs us->ma ds=J ps->∃as,ReadsAll s.heap us ps as
 |[],_,_,_,h,r,e=>by subst h;cases r;cases e;exact⟨_,.nil⟩
 |d::ds,_,_,_,⟨v,vs,h0,h1,h2⟩,r,e=>by
  subst h0;unfold ma at e;cases q:kZ d with
  |none=>mright
  |some p=>
   rw[q]at e;cases q2:ma ds with
   |none=>mright
   |some ps=>
    rw[q2]at e;cases e;cases r with
    |cons r1 r2=>
     obtain⟨as,ha⟩:=kz I h1 r1 q
     obtain⟨bs,hb⟩:=kI I h2 r2 q2
     exact⟨_,.cons ha hb⟩
end
noncomputable def g7:D->Option V
 |.S9=>J .S9
 |.bl b=>J<|.bl b
 |.int i=>J<|.int i
 |.str x=>J<|.str x
 |_=>U
theorem gn{K:aT}(h:bQ K H d v)(e:g7 d=J x):v=x:=by
 cases d with
 |S9=>cases e;exact h
 |bl b=>cases e;exact h
 |int b=>cases e;exact h
 |str b=>cases e;exact h
 |_=>cases e
def jt(a b:D):Option Bool:=match kZ a,kZ b with
 |some p,J q=>if jw p=G/\jw q=G then J (BK p q)else U
 |_,_=>U
def zy(a b:D):Option Bool:=match g7 a,g7 b with
 |some x,J y=>if wI x y=G then J (decide (x=y))else U
 |_,_=>jt a b
def GE(K:aT)(f:Bool->Bool):UL:=fun x y H Q=>∃a b k,bQ K H a x/\bQ K H b y/\zy a b=J k/\Q (.bl<|f k) H
def yJ(h:jt a b=J k):∃p q,kZ a=J p/\kZ b=J q/\jw p=G/\jw q=G/\k=BK p q:=by
 delta jt at h;cbv
 .mright
 .nofun
def UJ(K:aT)(i:X.A.units+64<cLine)(g:X.K=K<|>Rv):eJ X (UI .Eq)<|GE K fun k=>k:=by
 subst g;intro aa s Z H x y v u Q I d c h;left;obtain⟨a,b,k,da,db,e,q⟩:=h
 delta zy at e;split at e
 .right;rename_i m n e1 e2;split at e
  .rename_i hs;cases e
   have:=gn da e1;subst this
   have:=gn db e2;subst this
   exact aaD aa s Z H _ _ v u Q I d c ⟨hs,q⟩
  .cases e
 .obtain⟨p,l,h1,h2,j,f,rfl⟩:=yJ e;obtain⟨as,ra⟩:=kz I da d h1
  obtain⟨bs,rb⟩:=kz I db c h2
  right;exact eq_dataH ra rb j f i ⟨.bl _,H,I,rfl,q⟩
def TR(K:aT)(i:X.A.units+64<cLine)(g:X.K=K<|>Rv):eJ X (UI .NotEq)<|GE K fun k=>!k:=by
 subst g;intro aa s Z H x y v u Q I d c h;left;obtain⟨a,b,k,da,db,e,q⟩:=h
 delta zy at e;split at e
 .right;rename_i m n e1 e2;split at e
  .rename_i hs;cases e
   have:=gn da e1;subst this
   have:=gn db e2;subst this
   exact aaY aa s Z H _ _ v u Q I d c ⟨hs,q⟩
  .cases e
 .obtain⟨p,l,h1,h2,j,f,rfl⟩:=yJ e;obtain⟨as,ra⟩:=kz I da d h1
  obtain⟨bs,rb⟩:=kz I db c h2
  right;exact ne_dataH ra rb j f i ⟨.bl _,H,I,rfl,q⟩
noncomputable def lU(o:Option Bool)(f:Bool->Bool):R D:=match o with
 |some k=>.ok<|.bl<|f k
 |none=>.no
def jp(a b:D):R D:=lU (zy a b) fun k=>k
def xF(a b:D):R D:=lU (zy a b) fun k=>!k
theorem S6(K:aT)(f:Bool->Bool)(d:W.K=K<|>Rv):wo W (GE K f) (fun a b=>lU (zy a b) f):=by
 subst d;intro as H x y a b Q i c g h;have h:cP W as H (lU (zy a b) f) Q:=h;cases e:zy a b with
 |none=>rw[e]at h;mleft
 |some k=>
  rw[e]at h;exact⟨a,b,k,c.mono<|aD _ _,g.mono<|aD _ _,e,ax h rfl⟩
def IJ(K:aT)(a:W.K=K<|>Rv):wo W (GE K fun k=>k) jp:=S6 K _ a
def Z0(K:aT)(a:W.K=K<|>Rv):wo W (GE K fun k=>!k) xF:=S6 K _ a
def kA:Rx->Option (Se)
 |[]=>J []
 |d::ds=>(g7 d).bind fun v=>(kA ds).map (v::·)
def ab9{K:aT}{H:Hp}:∀{ds:Rx}{vs xs:Se},ay K H ds vs->kA ds=J xs->vs=xs/\xs.all ic=G:=@TB _ _ (@fun _ _ h e=>by subst h;cases e;exact⟨rfl,rfl⟩) fun d ds i_=>@fun _ _ q2_ e=>Tw q2_ fun v vs h0 h1 h2=>by
  subst h0;unfold kA at e;cases q:g7 d with
  |none=>mright
  |some x=>
   rw[q]at e;cases q2:kA ds with
   |none=>mright
   |some xs=>
    rw[q2]at e;cases e;obtain⟨h3,h4⟩:=i_ h2 q2
    refine⟨by rw[gn h1 q,h3],?_⟩;rw[Vg,h4];cases d<;>cases q<;>rfl
def Ay(e:g7 d=J x):ic x=G:=by cases d<;>cases e<;>rfl
def Jo(j i:Str):Bool:=!(jb j i 0 j.length 1).isEmpty
def xR(K:aT)(a:Bool):UL:=fun x y H Q=>match x,y with
 |.str i,.str j=>Q (.bl<|if a=G then !Jo j i else Jo j i) H
 |x,.ref p=>∃xs,(gr K H p xs\/m7 K H p xs)/\ic x=G/\xs.all ic=G/\Q (.bl<|if a=G then !Eh x xs else Eh x xs) H
 |_,_=>False
def TC(K:aT)(a:X.K=K<|>Rv):eJ X (UI .In)<|xR K η:=by
 subst a;refine(Dp.or Dh).imp fun x y H Q q=>?_;unfold xR at q;split at q
 .exact .inl ⟨_,_,rfl,rfl,q⟩
 .refine gR q fun xs h1 h2 c b=>?_
  exact .inr ⟨_,xs,rfl,h1,h2,c,b⟩
 .exact q.elim
def Ca(K:aT)(b:X.K=K<|>Rv):eJ X (UI .NotIn)<|xR K G:=by
 subst b;refine(wS.or wn).imp fun x y H Q q=>?_;unfold xR at q;split at q
 .exact .inl ⟨_,_,rfl,rfl,q⟩
 .refine gR q fun xs h1 h2 c a=>?_;exact .inr ⟨_,xs,rfl,h1,h2,c,a⟩
 .exact q.elim
def vo(x:D)(xs:Rx):Option Bool:=match g7 x,kA xs with
 |some v,J vs=>J<|Eh v vs
 |_,_=>U
def Ue(x y:D):Option Bool:=match y with
 |.str j=>match x with
  |.str i=>J<|Jo j i
  |_=>U
 |.lst xs=>vo x xs
 |.tup xs=>vo x xs
 |_=>U
def rE(x y:D):R D:=lU (Ue x y) fun k=>if η=G then !k else k
def mI(x y:D):R D:=lU (Ue x y) fun k=>if G=G then !k else k
theorem R8(K:aT)(c:Bool)(f:W.K=K<|>Rv):wo W (xR K c) (fun a b=>lU (Ue a b) fun k=>if c=G then !k else k):=by
 subst f;intro as H x y a b Q m e d h;have key:∀(p:SA)(ds:Rx)(vs:Se),y=.ref p->(gr W.K H p vs\/m7 W.K H p vs)->ay W.K (aj as H) ds vs->cP W as H (lU (vo a ds) fun k=>if c=G then !k else k) Q->xR W.K c x y H Q:=by
  intro p ds vs l g hd h;subst l;delta vo at h;cases e1:g7 a with
  |none=>rw[e1]at h;mleft
  |some v=>
   rw[e1]at h;cases e2:kA ds with
   |none=>rw[e2]at h;mleft
   |some ws=>
    rw[e2]at h
    have:=gn e e1
    subst this;obtain⟨h3,h4⟩:=ab9 hd e2
    subst h3;have fin:∃xs,(gr W.K H p xs\/m7 W.K H p xs)/\ic x=G/\xs.all ic=G/\Q (.bl<|if c=G then !Eh x xs else Eh x xs) H:=⟨vs,g,Ay e1,h4,ax h rfl⟩;cases x<;>exact fin
 cases b with
 |str j=>
  cases a with
  |str i=>subst e;subst d;exact ax h rfl
  |_=>mleft
 |lst ds=>obtain⟨p,vs,rfl,q1,q2⟩:=d;exact key p ds vs rfl (.inl<|(aD _ _).seq q1) q2 h
 |tup ds=>obtain⟨p,vs,rfl,q1,q2⟩:=d;exact key p ds vs rfl (.inr<|(aD _ _).Wt q1) q2 h
 |_=>mleft
def Zj(K:aT)(a:W.K=K<|>Rv):wo W (xR K η) rE:=R8 K η a
def Ht(K:aT)(a:W.K=K<|>Rv):wo W (xR K G) mI:=R8 K G a
def cR(a b:D):R D:=match a,b with
 |.str z,.int i=>if z.length<=1000000 then(match Uq z.cps.toList i with
  |some c=>.ok<|.str ⟨#[c]⟩
  |none=>.no)else .no
 |.lst xs,.int i=>match Uq xs i with
  |some d=>.ok d
  |none=>.no
 |.tup xs,.int i=>match Uq xs i with
  |some d=>.ok d
  |none=>.no
 |_,_=>.no
theorem ay.Uq{K:aT}(h:ay K H ds xs)(e:Uq ds i=J d):∃v,L2.Uq xs i=J v/\bQ K H d v:=by
 delta L2.Uq at e⊢;rw[h.len]at e;cases q:C5 xs.length i with
 |none=>mright
 |some j=>
  rw[q]at e;exact h.get e
def YZ(K:aT)(i:W.K=K<|>Rv):wo W (TD K) cR:=by
 subst i;intro as H x y a b Q j f g h;delta cR at h;cbv
 .subst f;subst g;cbv
  .rename_i hl;cbv
   .rename_i c e;exact⟨c,RW hl ck,e,ax h rfl⟩
   .mleft
  .mleft
 .obtain⟨p,vs,rfl,q1,q2⟩:=f;cases g;cbv
  .rename_i d e;obtain⟨v,h1,h2⟩:=q2.Uq e
   exact⟨vs,v,.inl<|(aD _ _).seq q1,h1,ax h h2⟩
  .mleft
 .obtain⟨p,vs,rfl,q1,q2⟩:=f;cases g;cbv
  .rename_i d e;obtain⟨v,h1,h2⟩:=q2.Uq e
   exact⟨vs,v,.inr<|(aD _ _).Wt q1,h1,ax h h2⟩
  .mleft
 .mleft
def EL(xs:Rx)(lo a:Option Int):Rx:=(xs.drop<|HT.T5 xs.length 0 lo).take<|HT.T5 xs.length xs.length a-HT.T5 xs.length 0 lo
def ay.cut{K:aT}(h:ay K H ds xs)(lo hi:Option Int):ay K H (EL ds lo hi)<|nT xs lo hi:=by
 unfold EL nT;rw[h.len];exact(h.drop _).take _
noncomputable def cr(ds:Rx):R D:=match ds with
 |[.str z]=>if z.length<=1000000 then .ok (.int z.length)else .no
 |[.lst xs]=>.ok<|.int xs.length
 |[.tup xs]=>.ok<|.int xs.length
 |_=>.no
def gy{K:aT}(h:ay K H [d] xs):∃v,xs=[v]/\bQ K H d v:=by
 obtain⟨v,vs,rfl,h1,h2⟩:=h;subst h2;exact⟨v,rfl,h1⟩
def BB{K:aT}(h:ay K H [d,e] xs):∃v u,xs=[v,u]/\bQ K H d v/\bQ K H e u:=by
 obtain⟨v,vs,rfl,h1,h2⟩:=h;obtain⟨u,rfl,a⟩:=gy h2;exact⟨v,u,rfl,h1,a⟩
def abl(K:aT)(c:W.K=K<|>Rv):nU W (PJ K) cr:=by
 subst c;intro as H xs ds Q d b h;delta cr at h;cbv
 .obtain⟨v,rfl,a⟩:=gy b;subst a;cbv
  .rename_i hl;exact⟨RW hl ck,ax h rfl⟩
  .mleft
 .obtain⟨v,rfl,a⟩:=gy b;obtain⟨p,vs,rfl,q1,q2⟩:=a;refine⟨vs,.inl<|(aD _ _).seq q1,?_⟩;rw[<-q2.len];exact ax h rfl
 .obtain⟨v,rfl,a⟩:=gy b;obtain⟨p,vs,rfl,q1,q2⟩:=a;refine⟨vs,.inr<|(aD _ _).Wt q1,?_⟩;rw[<-q2.len];exact ax h rfl
 .mleft
noncomputable def J8(ds:Rx):R D:=match ds with
 |[.int i]=>.ok<|.int i
 |[.bl k]=>.ok<|.int<|if k=G then 1 else 0
 |_=>.no
section
variable{W:Wd}{X:Cx}
end
noncomputable def yK:Rx->Option (List Bool)
 |[]=>J []
 |.bl b::ds=>(yK ds).map (b::·)
 |_=>U
def lpB{K:aT}:∀{ds:Rx}{vs:Se}{bs:List Bool},ay K H ds vs->yK ds=J bs->vs=bs.map V.bl:=@TB _ _ (@fun _ _ h e=>by subst h;cases e;rfl) fun d ds i_=>@fun _ _ q2_ e=>Tw q2_ fun v vs h0 h1 h2=>by
  subst h0;cases d with
  |bl b=>
   have e:(yK ds).map (b::·)=J _:=e;cases q2:yK ds with
   |none=>mright
   |some xs=>
    rw[q2]at e;cases e;subst h1;rw[i_ h2 q2];rfl
  |_=>cases e
def Dd(ds:Rx):R D:=match ds with
 |[.lst xs]=>match yK xs with
  |some bs=>.ok<|.bl<|bs.all id
  |none=>.no
 |_=>.no
def WF(K:aT)(b:W.K=K<|>Rv):nU W (Ro K) Dd:=by
 subst b;intro as H xs ds Q d a h;delta Dd at h;cbv
 .obtain⟨v,rfl,c⟩:=gy a;obtain⟨p,vs,rfl,q1,q2⟩:=c;cbv
  .rename_i bs e;refine⟨bs,?_,ax h rfl⟩;rw[<-lpB q2 e];exact(aD _ _).seq q1
  .mleft
 .mleft
def Hk(K:aT)(xs:Se)(H:Hp)(Q:VK):Prop:=match xs with
 |[x,.ty C]=>qm C=G/\(match x with
  |.S9=>Q (.bl<|kQ "NoneType" C) H
  |.bl _=>Q (.bl<|kQ "bool" C) H
  |.int _=>Q (.bl<|kQ "int" C) H
  |.str _=>Q (.bl<|kQ "str" C) H
  |.ref a=>(∃xs,gr K H a xs/\Q (.bl<|kQ "list" C) H)\/(∃xs,m7 K H a xs/\Q (.bl<|kQ "tuple" C) H)\/(∃b,H a=J (.dK b)/\Q (.bl<|kQ "dict" C) H)\/∃o b,H a=J (.WC o<|.dK b)/\Q (.bl<|kQ "dict" C) H
  |_=>False)
 |_=>False
def frz(K:aT)(m:X.K=K<|>Rv):bI X (.builtin "isinstance")<|Hk K:=by
 subst m;intro aa s Z H xs us Q I r h;delta Hk at h;cbv
 .rename_i x C;obtain⟨d,h⟩:=h;obtain⟨u,c,rfl,f,rc⟩:=ya r;subst rc;have fin:∀(b:Bool),Q (.bl b) H->∀tk,X.tn<=tk->EP X aa Z Q (.bool b) {s with toks:=tk}:=fun b q tk p=>⟨.bl b,H,I.tok tk,rfl,q⟩;refine aO I.tk ?_;left;cases x with
  |S9=>right;exact iP I f .S9 (gZ (.inl rfl) d)<|fin _ h
  |bl b=>right;exact iP I f (.bl b) (gZ (.inr<|.inl rfl) d)<|fin _ h
  |int b=>right;exact iP I f (.int b) (gZ (.inr<|.inr<|.inl rfl) d)<|fin _ h
  |str b=>right;exact iP I f (.str b) (gZ (.inr<|.inr<|.inr<|.inl rfl) d)<|fin _ h
  |ref a=>
   subst f;rcases h with⟨xs,e,q⟩|⟨xs,e,q⟩|⟨g,e,q⟩|⟨t,g,e,q⟩
   .obtain⟨aV,l,pl,k⟩:=I.list e;obtain⟨o,j,i,n,hd⟩:=pl.isList;right;exact XY zR I.U3 ⟨o,j,i⟩ (gZ (.inr<|.inr<|.inr<|.inr<|.inl rfl) d) #[18]<|fin _ q
   .obtain⟨aV,l,pl,k⟩:=I.tuple e
    obtain⟨o,j,i,n,hd⟩:=pl
    right;exact XY NK I.U3 ⟨o,j,i⟩ (gZ (.inr<|.inr<|.inr<|.inr<|.inr<|.inl rfl) d) #[18]<|fin _ q
   .right;exact iP (x:=.ref a) I rfl (.dK e) (gZ (.inr<|.inr<|.inr<|.inr<|.inr<|.inr rfl) d) (fin _ q)
   .obtain⟨_,_,_,vs,_,o,es,ep,h1,h2,_⟩:=((I.Su a _ e))
    right;exact XY zX I.U3 ⟨o,h1,h2.1⟩ (gZ (.inr<|.inr<|.inr<|.inr<|.inr<|.inr rfl) d) #[18]<|fin _ q
  |_=>right;mleft
 .mleft
def LP(ds:Rx):R D:=match ds with
 |[x,.ty C]=>if qm C=G then(match x with
  |.S9=>.ok<|.bl<|kQ "NoneType" C
  |.bl _=>.ok<|.bl<|kQ "bool" C
  |.int _=>.ok<|.bl<|kQ "int" C
  |.str _=>.ok<|.bl<|kQ "str" C
  |.lst _=>.ok<|.bl<|kQ "list" C
  |.tup _=>.ok<|.bl<|kQ "tuple" C
  |.Xx _=>.ok<|.bl<|kQ "dict" C
  |.fu _=>.ok<|.bl<|kQ "dict" C
  |_=>.no)else .no
 |_=>.no
def ab8(K:aT)(b:W.K=K<|>Rv):nU W (Hk K) LP:=by
 subst b;intro as H xs ds Q e d h;delta LP at h;cbv
 .obtain⟨v,u,rfl,a,c⟩:=BB d;subst c;cbv
  .rename_i hC;cbv
   .cases a;exact⟨hC,ax h rfl⟩
   .cases a;exact⟨hC,ax h rfl⟩
   .cases a;exact⟨hC,ax h rfl⟩
   .cases a;exact⟨hC,ax h rfl⟩
   .obtain⟨p,vs,rfl,q1,q2⟩:=a;exact⟨hC,.inl ⟨vs,(aD _ _).seq q1,ax h rfl⟩⟩
   .obtain⟨p,vs,rfl,q1,q2⟩:=a;exact⟨hC,.inr<|.inl ⟨vs,(aD _ _).Wt q1,ax h rfl⟩⟩
   .obtain⟨p,vs,rfl,q1,q2⟩:=a;exact⟨hC,.inr<|.inr<|.inl ⟨vs,aD _ _ _ _ q1,ax h rfl⟩⟩
   .obtain⟨p,o,vs,rfl,q1,q2⟩:=a;exact⟨hC,.inr<|.inr<|.inr ⟨o,vs,aD _ _ _ _ q1,ax h rfl⟩⟩
   .mleft
  .mleft
 .mleft
def xC(K:aT)(xs:Se)(H:Hp)(Q:VK):Prop:=match xs with
 |[.ref p]=>(∃ys,gr K H p ys/\∀l,H l=U->Q (.ref l) (br H l<|.tup ys))\/∃ys,m7 K H p ys/\Q (.ref p) H
 |_=>False
def HC(K:aT)(a:X.K=K<|>Rv):bI X (.type "tuple")<|xC K:=by
 subst a;refine acV.imp fun xs H Q q=>?_;unfold xC at q;split at q
 .rcases q with⟨ys,h1,h2⟩|⟨ys,h1,h2⟩
  .exact⟨_,ys,rfl,.inl ⟨h1,h2⟩⟩
  .exact⟨_,ys,rfl,.inr ⟨h1,h2⟩⟩
 .exact q.elim
noncomputable def wf(ds:Rx):R D:=match ds with
 |[.lst xs]=>.ok<|.tup xs
 |[.tup xs]=>.ok<|.tup xs
 |_=>.no
def PL{as:Sf}{H:Hp}(b:∀a∈as,H a≠U):∀p,H p=U->p∉as:=fun p c z=>b p z c
def abD(K:aT)(d:W.K=K<|>Rv):nU W (xC K) wf:=by
 subst d;intro as H xs ds Q e c h;delta wf at h;cbv
 .obtain⟨v,rfl,a⟩:=gy c;obtain⟨p,vs,rfl,q1,q2⟩:=a;exact .inl ⟨vs,(aD _ _).seq q1,fun l b=>h _ _ (bR b _) ⟨l,vs,rfl,.inl<|.inl<|by rw[av<|PL e l b];exact aE,q2.mono<|aA<|bR b _⟩⟩
 .obtain⟨v,rfl,a⟩:=gy c;obtain⟨p,vs,rfl,q1,q2⟩:=a;exact .inr ⟨vs,(aD _ _).Wt q1,ax h ⟨p,vs,rfl,q1,q2⟩⟩
 .mleft
noncomputable def Ly(f:Str->Str->D)(z:Str)(ds:Rx):R D:=match ds with
 |[.str y]=>.ok<|f z y
 |_=>.no
section
variable{W:Wd}{X:Cx}
end
end
section
variable{apos cpos:Pos}{id:String}
def DK(g:PlainAttrs T)(d:Slot T name id)(f:typeOf (.builtin id)=pure (.type "method_descriptor"))(i:VG X id r)(h:JE X o to)(j:JA X (e::es) t)
  (a:#[13]<|>Rv) (c:#[6]=G<|>Rv) (h1:(e::es).all al=G<|>Rv) (k:(e::es).length<29<|>Sm):
  JE X #[24] (Yd X.K T r to t):=by
 have b:=h1;rw[Vg,oR]at b;exact⟨afw g d f i h.out j.out a (tz h1 k) c (bC b.1)<|bH b.2⟩
def Cg(e:PlainAttrs T)(c:Slot T name id)(d:typeOf (.builtin id)=pure (.type "method_descriptor"))(g:VG X id r)(f:JE X o to)
  (a:#[13]<|>Rv) (b:#[6]=G<|>Rv):
  JE X (.Call (.Attribute o name apos) [] [] cpos) (T4 X.K T r to):=⟨Rm e c d g f.out a b⟩
end
theorem Cq:∀{O:Ru}{own:Sf}{i:Nat}{a b:SA},O.Nodup->(i,a)∈O.zip own->(i,b)∈O.zip own->a=b
 |[],_,_,_,_,_,h,_=>by mright
 |_::_,[],_,_,_,_,h,_=>by mright
 |k::O,c::own,i,a,b,nd,h1,h2=>by
  rw[Vx]at nd;rcases eQ.mp h1 with e1|h1<;>rcases eQ.mp h2 with e2|h2
  .lia
  .cases e1;exact absurd (X0 h2).1 nd.1
  .cases e2;exact absurd (X0 h1).1 nd.1
  .exact Cq nd.2 h1 h2
def iR(h:a∈as):aj as (br H a o)=aj as H:=by
 funext b
 delta aj;split
 .rfl
 .rename_i hb;exact aG fun z=>hb (by rw[z];exact h)
def DI.kb{K:aT}(I:DI K as0 B O own Z Y H)(g:(i,a)∈O.zip own)(h:kL K (aj #[8] H) o' d'):
  DI K as0 B O own Z (Y.set i<|J d') (br H a o'):=by
 have l:a∈own++as0:=Le _ (X0 g).2;refine US (I.Xf i a g) fun m o h1 h2 p n=>?_;have hil  := (rW.mp h1).1;refine⟨by simp[I.len],I.YU,I.nd,I.gp,I.fresh,I.wz,fun b u e=>?_,fun j e f q=>?_,fun j b f=>?_⟩
 .have hb:b≠a:=fun z=>by
   have:=I.fresh a (X0 g).2
   rw[z,this]at e;cases e
  rw[aG hb];exact I.same b u e
 .have c:i≠j:=fun z=>f (by rw[<-z];exact(X0 g).1);rw[getElem?_set',SM c]at q;rw[iR l];exact I.var j e f q
 .rw[iR l];by_cases c:i=j
  .subst c
   have:=Cq I.gp g f
   subst this;exact⟨d',o',by simp_all,h2,aE,h⟩
  .refine US (I.Xf j b f) fun d u q1 q2 s r=>?_
   have k:b≠a:=fun z=>c (by rw[z]at f;exact zip_inj I.nd g f);exact⟨d,u,by simp_all,q2,by rw[aG k];exact s,r⟩
section
variable{X:Cx}{W:Wd}{Ob O O':Ru}{e:Ry}{ε ψ:FE}{pos p1 p2 apos cpos:Pos}{x:Str}
def R0(K:aT)(m:i∈O)(t:JE X e<|tD W O ψ)(p:X.N[i]?=J x<|>Rv)(hs:rh e<|>k7)(g:m6 X.env.scope x<|>uO)(hd:TN x<|>Sm)
  (f:#[2]=η<|>Sm) (s:X.K=K<|>Rv) (w:W.K=K<|>Rv):JE X (.Subscript #[9] e pos)<|tD W O<|aH cR (ag i) ψ:=
 (SV (WL K s) (jv i p g hd f) t hs).imp fun Z H Q n=>dQ n fun as0 B own Y I h=>by
  obtain⟨a,ha⟩:=fT I.YU m
  refine US (I.Xf i a ha) fun d o h1 h2 A z=>?_
  have e0:NB (TD K) (z8 i) (tD W O ψ) Z H Q=m8 Z[i]? H (Xbx (TD K) (tD W O ψ) Z Q):=rfl;rw[e0,h2];have g:ag i Y=.ok d:=by delta ag;rw[h1]
  have h':cP W #[8] H ((ψ Y).bind fun y=>cR d y) Q:=by
   have e:aH cR (ag i) ψ Y=(ψ Y).bind fun y=>cR d y:=by delta aH;rw[g];rfl
   rw[<-e];exact h
  refine⟨as0,B,own,Y,I,aY h' fun y u r j l c=>?_⟩;cases d with
  |lst ds=>
   obtain⟨xs,rfl,q⟩:=z;cases y with
   |int k=>
    subst l;have b:cP W #[8] r (match Uq ds k with|some d=>.ok d|none=>.no) Q:=c
    cases q3:Uq ds k with
    |none=>rw[q3]at b;exact b.elim
    |some d'=>
     rw[q3]at b;obtain⟨v,e1,e2⟩:=q.Uq q3
     exact⟨xs,v,.inl<|gr.of<|j _ _ A,e1,ax b<|e2.mono<|aA j⟩
   |_=>exact c.elim
  |_=>first|exact z.elim|(cases y<;>exact c.elim)
def PU(K:aT)(j:i∈O)(f:X.mg "len"=U)(l:X.N[i]?=J x<|>Rv)(g:Gl X "len"<|>Rv)(c:m6 X.env.scope x<|>uO)(hd:TN x<|>Sm)
  (b:#[2]=η<|>Sm) (m:X.K=K<|>Rv) (n:W.K=K<|>Rv):JE X (.Call (.Name "len" p2) [.Name x p1] [] pos)<|tD W O<|aI cr<|ak (ag i) aQ:=
 (AX (U1 K m) f EH (bU (jv i l c hd b) eD) g).imp fun Z H Q k=>dQ k fun as0 B own Y I h=>by
  obtain⟨a,ha⟩:=fT I.YU j
  refine US (I.Xf i a ha) fun d o h1 h2 r p=>?_
  show m8 Z[i]? H _;rw[h2];have c:ag i Y=.ok d:=by delta ag;rw[h1]
  have h':cP W #[8] H (cr [d]) Q:=by
   have e:aI cr (ak (ag i) aQ) Y=cr [d]:=by delta aI ak aQ;rw[c];rfl
   rw[<-e];exact h
  cases d with
  |lst ds=>
   obtain⟨xs,rfl,q⟩:=p;refine⟨xs,.inl<|gr.of r,?_⟩;rw[<-q.len];exact ax h' rfl
  |_=>first|exact p.elim|exact h'.elim
def jP(i:Nat)(ε:FE):FS:=fun Y=>match Y[i]? with
 |some (J<|.lst xs)=>(ε Y).bind fun d=>if xs.length<1000000 then .ok (.nx<|Y.set i<|J<|.lst<|xs++[d])else .no
 |_=>.no
def Da(m:i∈O)(t:JE X e<|tD W O ε)(r:X.N[i]?=J x<|>Rv)(s:al e=G<|>Rv)(b:#[6]=G<|>Rv)(u:m6 X.env.scope x<|>uO)(hd:TN x<|>Sm)
  (g:#[2]=η<|>Sm) (c:WG #[9] "append" X.env (eval #[9] X.env)=eval #[9] X.env<|>Rv)
  (hs:Uw (.Call (.Attribute #[9] "append" apos) [e] [] cpos) U pos.line X.env=pure η<|>Rv) (w:W.K=X.K<|>Rv):
  JS X (.Expr (.Call (.Attribute #[9] "append" apos) [e] [] cpos) pos) (sD W Ob O O<|jP i ε):=
 (n9 (DK oG lF lN gq (jv i r u hd g) (bU t eD s) c b #[28]<|∅) hs).imp fun D Z H n=>dQ n fun as0 B own Y I h=>by
  obtain⟨a,ha⟩:=fT I.YU m
  refine US (I.Xf i a ha) fun d o h1 h2 z A=>?_
  have e0:GP (Yd X.K "list" nj (z8 i)<|uM (tD W O ε) DG) D Z H=m8 Z[i]? H (fun x H1=>KU X.K "list" x H1/\uM (tD W O ε) DG Z H1 fun vs k=>nj x vs k fun _ p=>D.nx Z p):=rfl;rw[e0,h2];delta jP at h;rw[h1]at h;cases d with
  |lst ds=>
   obtain⟨xs,rfl,q⟩:=A;refine⟨.inl ⟨rfl,xs,gr.of z⟩,as0,B,own,Y,I,cO I h fun y v k j l f=>?_⟩;split at f
   .refine⟨a,xs,v,rfl,rfl,j _ _ z,?_,?_⟩
    .have:=ck;rw[<-q.len];lia
    .exact f own Z _ ((I.mono j).kb ha ⟨xs++[v],rfl,(q.mono<|aA j).append<|ay.cons l ay.nil⟩)
   .exact f.elim
  |_=>mleft
end
end L2
namespace L2
open PySem PySem.Builtin
section
def abH(a:s.heap.IsTupleIter it l i)
  (e:s.heap.IsTuple l items) (f:items[i]?=J x)
  (c:∀h',h'.IsTupleIter it l (i+1)->X1 it s.heap h'->Q x {s with heap:=h'}):
  SN (UA prog w) A (hZ<|.ref it) Q E s:=by
 obtain⟨o,b,d,hd⟩:=id a;obtain⟨ol,hol,_,nl,hdl⟩:=e
 refine iF (tu a.typeIs F.slot_tuple_iterator_next
  (mD F.slot_tuple_iterator_next a.typeIs F.entry_tuple_iterator_next ?_ (F.args_tuple_iterator_next_1 _)))
 show SN _ _ (field (.ref it) 0 >>= _) _ _ s;refine iF<|Wo b hd rfl ?_;refine iF<|Wo b hd rfl ?_;refine iF<|wpAny_seqItems hol hdl ?_;mright;refine iF<|mV b hd ∅<|U4 ⟨x,rfl,U4<|c _ ?_<|QY ..⟩;exact⟨_,mR _ b<|k9<|yY hd _,(Obj.cls_mapFields ..).trans d,by
  rw[yY hd];trivial⟩
def adn(d:A.handled=U)
  (a:s.heap.IsTupleIter it l i) (c:s.heap.IsTuple l items) (f:items[i]?=U)
  (b:∀h' e,Ef it s.heap h'->(∃o,h'.get? e=J o/\o.cls=.type "StopIteration")->E (.ref e) {s with heap:=h'}):
  SN (UA prog w) A (hZ<|.ref it) Q E s:=by
 obtain⟨o,ho,hc,hd⟩:=id a
 obtain⟨ol,hol,_,nl,hdl⟩:=c
 refine iF (tu a.typeIs F.slot_tuple_iterator_next
  (mD F.slot_tuple_iterator_next a.typeIs F.entry_tuple_iterator_next ?_ (F.args_tuple_iterator_next_1 _)))
 show SN _ _ (field (.ref it) 0 >>= _) _ _ s;refine iF<|Wo ho hd rfl ?_;refine iF<|Wo ho hd rfl ?_;refine iF<|wpAny_seqItems hol hdl ?_;simp only[adW,f];refine iF<|wpAny_rule<|iF<|mV ho hd ∅ ?_;refine iF ?_;refine iF (tU ?_<|by size_fits);refine iF<|wpAny_of_eq (by rfl) ?_;refine tU ?_ (by size_fits);refine iF<|wpAny_handled ?_
 first|assumption|rw[d]
 refine iF<|U4<|wpAny_throw ?_;exact b _ _ (((QY ..).extBut.push _).push _) ⟨_,Vh _ rfl,rfl⟩
end
def Xdz(j:A.handled=U)(it l:SA)(d:l≠it)(a:Array nE):
  Draws prog w A it [it,l] a.size (fun i v=>a[i]?=J v) (fun i h=>h.IsTupleIter it l i/\h.IsTuple l a) where
 live:=fun _ _ st=>let⟨o,ho,_⟩:=st.1;⟨o,ho⟩
 frame:=fun _ _ _ st g=>⟨(let⟨o,e,r⟩:=st.1;⟨o,g it ∅ o e,r⟩),by
  obtain⟨o,e,r⟩:=st.2
  exact⟨o,g l ∅ o e,r⟩⟩
 item:=fun i s Q E f st k=>by
  refine abH st.1 st.2 (x:=a[i]) ∅ fun h' b c=>?_;refine k _ h' s.toks ∅ ⟨b,?_⟩ c;let⟨o,e,r⟩:=st.2
  exact⟨o,c.extBut l o d e,r⟩
 done:=fun s Q E st m=>adn j st.1 st.2 ∅ m
structure ZA(z Xi Xo i1 i2:SA)(fp1 fp2:Sf):Prop where
 TIz:Xi≠z
 TOz:Xo≠z
 TITO:Xi≠Xo
 TIi1:Xi≠i1
 TIi2:Xi≠i2
 TOi1:Xo≠i1
 TOi2:Xo≠i2
 i1z:i1≠z
 i2z:i2≠z
 i12:i1≠i2
 z1:z∉fp1
 z2:z∉fp2
 TO1:Xo∉fp1
 TO2:Xo∉fp2
 i1f:i1∉fp2
 i2f:i2∉fp1
section
def bJ(D:Draws prog w A it fp n P Sr)(st:Sr k h)(d:X1 c h h')(a:c∉fp):Sr k h':=
 D.frame _ _ _ st fun b f o e=>d.extBut b o (fun q=>a<|q▸f) e
def C8{Q:UB}(W:Draws prog w A i1 fp1 n1 P1 St1)(V:Draws prog w A i2 fp2 n2 P2 St2)(D:ZA z Xi Xo i1 i2 fp1 fp2)
  (hz:IsZip s.heap z Xi Xo .none) (hTI:IsPair s.heap Xi (.ref i1)<|.ref i2) (hTO:IsPair s.heap Xo a b) (h1:St1 k s.heap) (h2:St2 k s.heap) (l1:k<n1) (l2:k<n2)
  (hQ:∀x y h' tk,P1 k x->P2 k y->IsZip h' z Xi Xo (Xb s.heap.objs.size)->IsPair h' Xo x y->St1 (k+1) h'->St2 (k+1) h'->IsPair h' s.heap.objs.size x y->h'.objs.size=s.heap.objs.size+1 ->
   (∀c o,c≠z->c≠Xo->c≠i1->c≠i2->s.heap.get? c=J o->h'.get? c=J o)->Q (.ref s.heap.objs.size) {s with heap:=h',toks:=tk}):
  SN (UA prog w) A (Builtin.«zip.__next__» ⟨[.ref z],[]⟩) (fun fin s'=>∃v,fin=.done (.ret v)/\Q v s') E s:=by
 obtain⟨hp,g,d,tk0,os⟩:=s
 show SN _ _ (field (.ref z) 2 >>= _) _ _ _;refine iF<|Wo hz rfl (x:=.bool η) rfl ?_;show SN _ _ (field (.ref z) 3 >>= _) _ _ _;refine iF<|Wo hz rfl (x:=.ref Xi) rfl ?_;refine iF<|wpAny_seqItems hTI rfl ?_;show SN _ _ (sj (.ref z) >>= _) _ _ _;refine iF ?_;delta sj;refine iF<|Wo hz rfl (x:=.none) rfl (U4 ?_);simp only[if_true];refine iF<|wpAny_rule ?_;refine iF<|Wo hz rfl (x:=.ref Xo) rfl ?_;refine iF<|wpAny_setField_rec hz ∅ fun h₁ B h=>?_
 replace B:IsZip h₁ z Xi Xo .ellipsis:=B
 replace h:X1 z hp h₁:=h
 refine iF ?_;simp only[List.zipIdx_cons,List.zipIdx_nil,yf,List.forIn_nil];refine iF<|iF<|wpAny_onRaise ?_;show SN _ _ (hZ (.ref i1) >>= _) _ _ _;refine iF<|W.item k ⟨h₁,g,d,tk0,os⟩ _ _ l1 (bJ W h1 h D.z1) fun x h₂ X px P f=>U4 ?_
 replace f:X1 i1 h₁ h₂:=f
 have C:IsPair h₂ Xo a b:=f.extBut _ _ D.TOi1<|h.extBut _ _ D.TOz hTO;show SN _ _ _ _ _ ⟨h₂,g,d,X,os⟩;refine iF<|wpAny_seqItems C rfl ?_;refine iF<|wpAny_updateSeq_pair C fun h₃ t j=>?_
 replace t:IsPair h₃ Xo x b:=t
 replace j:X1 Xo h₂ h₃:=j
 refine iF<|wpAny_letGo<|U4 ?_;refine iF<|iF<|wpAny_onRaise ?_;show SN _ _ (hZ (.ref i2) >>= _) _ _ _;refine iF<|V.item k ⟨h₃,g,d,X,os⟩ _ _ l2 (bJ V (bJ V (bJ V h2 h D.z2) f D.i1f) j D.TO2) fun y h₄ T py R i=>U4 ?_
 replace i:X1 i2 h₃ h₄:=i
 have F:IsPair h₄ Xo x b:=i.extBut _ _ D.TOi2 t;show SN _ _ _ _ _ ⟨h₄,g,d,T,os⟩;refine iF<|wpAny_seqItems F rfl ?_;refine iF<|wpAny_updateSeq_pair F fun h₅ m l=>?_
 replace m:IsPair h₅ Xo x y:=m
 replace l:X1 Xo h₄ h₅:=l
 refine iF<|wpAny_letGo<|U4<|U4 ?_;refine iF<|wpAny_seqItems m rfl ?_;refine iF<|wpAny_newTuple ?_;have hsz:h₅.objs.size=hp.objs.size:=by rw[l.1,i.1,j.1,f.1,h.1]
 have H:IsZip h₅ z Xi Xo .ellipsis:=l.extBut _ _ D.TOz.symm<|i.extBut _ _ D.i2z.symm<|j.extBut _ _ D.TOz.symm<|f.extBut _ _ D.i1z.symm B;have N:∀c o,c≠z->c≠Xo->c≠i1->c≠i2->hp.get? c=J o->h₅.get? c=J o:=fun c o c1 c2 c3 c4 e=>
  l.extBut _ _ c2 (i.extBut _ _ c4<|j.extBut _ _ c2<|f.extBut _ _ c3<|h.extBut _ _ c1 e)
 have S:St1 (k+1) h₅:=bJ W (bJ W (bJ W P j D.TO1) i D.i2f) l D.TO1;have M:St2 (k+1) h₅:=bJ V R l D.TO2;have K:z<h₅.objs.size:=Tn H;show SN _ _ (Lf (.ref z) (.ref h₅.objs.size) >>= _) _ _ _;refine iF ?_;delta Lf;have O:IsZip (h₅.push {cls:=.type "tuple",data:=.seq #[x,y]}) z Xi Xo .ellipsis:=iN _ H;refine iF<|wpAny_setField_rec O ∅ fun h₇ u p=>?_
 replace u:IsZip h₇ z Xi Xo<|Xb h₅.objs.size:=u
 replace p:X1 z (h₅.push {cls:=.type "tuple",data:=.seq #[x,y]}) h₇:=p
 refine wpAny_setField_rec u ∅ fun h₈ r n=>?_
 replace r:IsZip h₈ z Xi Xo<|Xb h₅.objs.size:=r
 replace n:X1 z h₇ h₈:=n
 have up:∀c o,c≠z->h₅.get? c=J o->h₈.get? c=J o:=fun c o c1 e=>n.extBut _ _ c1<|p.extBut _ _ c1<|iN _ e;have I:IsPair h₈ h₅.objs.size x y:=n.extBut _ _ (mS K)<|p.extBut _ _ (mS K)<|Vh _ rfl;have hz8:h₈.objs.size=h₅.objs.size+1:=by rw[n.1,p.1,Ym]
 rw[hsz]at r I hz8;refine U4 ⟨_,rfl,?_⟩;show Q (.ref h₅.objs.size) ⟨h₈,g,d,T,os⟩;rw[hsz];exact hQ x y h₈ T px py r (up _ _ D.TOz m) (W.frame _ _ _ S fun b hb o e=>up b o (fun q=>D.z1<|q▸hb) e) (V.frame _ _ _ M fun b hb o e=>up b o (fun q=>D.z2<|q▸hb) e) I hz8
  fun c o c1 c2 c3 c4 e=>up c o c1<|N c o c1 c2 c3 c4 e
def Gr(F:Draws prog w A i1 fp1 n1 P1 St1)(B:Draws prog w A i2 fp2 n2 P2 St2)(D:ZA z Xi Xo i1 i2 fp1 fp2)
  (u:IsZip s.heap z Xi Xo .none) (I:IsPair s.heap Xi (.ref i1)<|.ref i2) (H:IsPair s.heap Xo a b) (h1:St1 k s.heap) (h2:St2 k s.heap) (y:k=n1\/(k<n1/\k=n2))
  (O:∀h' R e,(∀c o,c≠z->c≠Xo->c≠i1->c≠i2->s.heap.get? c=J o->h'.get? c=J o)->(∃o,h'.get? e=J o/\o.cls=.type "StopIteration")->E (.ref e) {s with heap:=h',toks:=R}):
  SN (UA prog w) A (Builtin.«zip.__next__» ⟨[.ref z],[]⟩) Q E s:=by
 obtain⟨hp,g,d,tk0,os⟩:=s
 show SN _ _ (field (.ref z) 2 >>= _) _ _ _;refine iF<|Wo u rfl (x:=.bool η) rfl ?_;show SN _ _ (field (.ref z) 3 >>= _) _ _ _;refine iF<|Wo u rfl (x:=.ref Xi) rfl ?_;refine iF<|wpAny_seqItems I rfl ?_;show SN _ _ (sj (.ref z) >>= _) _ _ _;refine iF ?_;delta sj;refine iF<|Wo u rfl (x:=.none) rfl (U4 ?_);simp only[if_true];refine iF<|wpAny_rule ?_;refine iF<|Wo u rfl (x:=.ref Xo) rfl ?_;refine iF<|wpAny_setField_rec u ∅ fun h₁ l h=>?_
 replace l:IsZip h₁ z Xi Xo .ellipsis:=l
 replace h:X1 z hp h₁:=h
 refine iF ?_;simp only[List.zipIdx_cons,List.zipIdx_nil,yf,List.forIn_nil];refine iF<|iF<|wpAny_onRaise ?_;show SN _ _ (hZ (.ref i1) >>= _) _ _ _;rcases y with rfl|⟨l1,rfl⟩
 .refine iF (F.done ⟨h₁,g,d,tk0,os⟩ _ _ (bJ F h1 h D.z1) fun h₂ e f M=>?_)
  replace f:Ef i1 h₁ h₂:=f
  obtain⟨oe,hoe,hce⟩:=M
  have n:IsZip h₂ z Xi Xo .ellipsis:=f _ _ D.i1z.symm l;have t:e≠z:=fun x=>by subst x;rw[n]at hoe;cases hoe;mright
  refine wpAny_setField_rec n ∅ fun h₃ _ i=>O h₃ tk0 e (fun c o c1 _ K _ x=>i.extBut _ _ c1<|f _ _ K<|h.extBut _ _ c1 x) ⟨oe,i.extBut _ _ t hoe,hce⟩
 .refine iF (F.item k ⟨h₁,g,d,tk0,os⟩ _ _ l1 (bJ F h1 h D.z1) fun x h₂ r S N f=>U4 ?_)
  replace f:X1 i1 h₁ h₂:=f
  have m:IsPair h₂ Xo a b:=f.extBut _ _ D.TOi1<|h.extBut _ _ D.TOz H;show SN _ _ _ _ _ ⟨h₂,g,d,r,os⟩;refine iF<|wpAny_seqItems m rfl ?_;refine iF<|wpAny_updateSeq_pair m fun h₃ C i=>?_
  replace i:X1 Xo h₂ h₃:=i
  refine iF<|wpAny_letGo<|U4 ?_;refine iF<|iF<|wpAny_onRaise ?_;show SN _ _ (hZ (.ref i2) >>= _) _ _ _;refine iF<|B.done ⟨h₃,g,d,r,os⟩ _ _ (bJ B (bJ B (bJ B h2 h D.z2) f D.i1f) i D.TO2) fun h₄ e j M=>?_
  replace j:Ef i2 h₃ h₄:=j
  obtain⟨oe,hoe,hce⟩:=M
  have p:IsZip h₄ z Xi Xo .ellipsis:=j _ _ D.i2z.symm<|i.extBut _ _ D.TOz.symm<|f.extBut _ _ D.i1z.symm l;have t:e≠z:=fun x=>by subst x;rw[p]at hoe;cases hoe;mright
  refine wpAny_setField_rec p ∅ fun v _ q=>O v r e (fun c o c1 c2 K P x=>q.extBut _ _ c1<|j _ _ P<|i.extBut _ _ c2<|f.extBut _ _ K<|h.extBut _ _ c1 x) ⟨oe,q.extBut _ _ t hoe,hce⟩
end
def WalksT.ZW
  (r:Draws prog w A.in1 i1 fp1 n1 P1 St1) (n:Draws prog w A.in1 i2 fp2 n2 P2 St2) (D:ZA z Xi Xo i1 i2 fp1 fp2) (N:i1∈fp1) (M:i2∈fp2):
  WalksT prog w A z (z::Xi::Xo::(fp1++fp2)) [z,Xo,i1,i2] (min n1 n2)
   (fun i q=>∃x y,P1 i x/\P2 i y/\q=#[x,y])
   (fun i h=>IsZip h z Xi Xo .none/\IsPair h Xi (.ref i1) (.ref i2)/\(∃a b,IsPair h Xo a b)/\St1 i h/\St2 i h)
   (fun i T h=>IsZip h z Xi Xo (Xb T)/\IsPair h Xi (.ref i1) (.ref i2)/\(∃a b,IsPair h Xo a b)/\St1 (i+1) h/\St2 (i+1) h/\T≠z/\T≠Xo/\T≠i1/\T≠i2) where
 sub:=fun c d=>by mright;rcases d with rfl|rfl|rfl|rfl<;>simp[N,M]
 frame:=fun i h h' f j=>by
  left;obtain⟨hz,hTI,⟨a,b,hTO⟩,h1,h2⟩:=f
  right;exact⟨j z ∅ _ hz,j Xi ∅ _ hTI,⟨a,b,j Xo ∅ _ hTO⟩,r.frame _ _ _ h1 fun b C o e=>j b (by simp[C]) o e,n.frame _ _ _ h2 fun b C o e=>j b (by simp[C]) o e⟩
 item:=fun i s Q E I f l=>by
  obtain⟨hz,hTI,⟨a,b,hTO⟩,h1,h2⟩:=f
  have v:i<n1:=Rw I<|Nat.min_le_left ..;have B:i<n2:=Rw I<|Nat.min_le_right ..;have m:s.TypeIs (.ref z) "zip":=⟨_,hz,rfl⟩;delta pyNext;refine iF (wpAny_attempt (tu (name:=lE "__next__") m F.slot_zip_next
   (mD F.slot_zip_next m F.entry_zip_next (C8 r n D hz hTI hTO h1 h2 v B fun x y h' u O R V S P a4 W a6 j=>U4 ?_) (F.args_zip_next_1 _))))
  have lt:∀{c o},s.heap.get? c=J o->s.heap.objs.size≠c:=fun e=>mS<|Tn e;exact l s.heap.objs.size #[x,y] h' u ⟨_,_,O,R,rfl⟩ (mK _) ⟨_,W,rfl,_,rfl⟩
   ⟨V,j _ _ D.TIz D.TITO D.TIi1 D.TIi2 hTI,⟨_,_,S⟩,P,a4,lt hz,lt hTO,(by let⟨_,e⟩:=r.live _ _ h1;exact lt e),(by let⟨_,e⟩:=n.live _ _ h2;exact lt e)⟩
   fun c o d e=>j c o (fun x=>d<|by simp[x]) (fun x=>d<|by simp[x]) (fun x=>d<|by simp[x]) (fun x=>d<|by simp[x]) e
 go:=fun K k pos i T s Q E H l=>by
  left;obtain⟨hz,hTI,⟨a,b,hTO⟩,h1,h2,_⟩:=H
  right;refine wpAny_letOwnedTupleGo_zip hz fun h' t g=>l h' ⟨t,g.extBut _ _ D.TIz hTI,⟨a,b,g.extBut _ _ D.TOz hTO⟩,bJ r h1 g D.z1,bJ n h2 g D.z2⟩ fun c o d e=>g.extBut _ _ (fun x=>d<|by simp[x]) e
 apart:=fun i T h H m=>by
  mright
 done:=fun s Q E f l=>by
  obtain⟨hz,hTI,⟨a,b,hTO⟩,h1,h2⟩:=f
  have p:min n1 n2=n1\/(min n1 n2<n1/\min n1 n2=n2):=⊥
  have m:s.TypeIs (.ref z) "zip":=⟨_,hz,rfl⟩;refine iF (wpAny_attempt (tu m F.slot_zip_next
   (mD F.slot_zip_next m F.entry_zip_next (Gr r n D hz hTI hTO h1 h2 p fun h' u e j X=>?_) (F.args_zip_next_1 _))))
  obtain⟨o,ho,d⟩:=X
  refine iF<|wpAny_isInstance ⟨o,ho,d⟩ isSubtype_stop ?_;exact U4<|l h' u fun c o d e=>j c o (fun x=>d<|by simp[x]) (fun x=>d<|by simp[x]) (fun x=>d<|by simp[x]) (fun x=>d<|by simp[x]) e
 self:=fun i s Q E f l=>wpAny_pyIter_zip f.1 l
def yo(a:nE)(o:Obj)(h:T3):Prop:=∀(prog:Tc)(w:Sl)(A:Tx)(s:ID)(Q:UB)(E:UB),(∀b u,h.get? b=J u->s.heap.get? b=J u)->Q (.ref s.heap.objs.size) {s with heap:=s.heap.push o}->SN (UA prog w) A (pyIter a) Q E s
noncomputable abbrev V4(h:T3)(a b:Obj):T3:=((h.push a).push b).push {cls:=.type "tuple",data:=.seq #[.ref h.objs.size,.ref (h.push a).objs.size]}
noncomputable abbrev VD(h:T3)(a b:Obj):T3:=(V4 h a b).push {cls:=.type "tuple",data:=.seq #[.none,.none]}
noncomputable abbrev OF(h:T3)(a b:Obj):T3:=(VD h a b).push {cls:=.type "zip",data:=.fields #[.none,.bool η,.bool η,.ref ((h.push a).push b).objs.size,.ref (V4 h a b).objs.size]}
def adB(a b:nE)(c f:Obj):
  Meets (Builtin.«zip.__new__» ⟨[.type "zip",a,b],[]⟩) (fun _ R s=>yo a c s.heap/\yo b f s.heap/\R (.ok<|.ret<|.ref (VD s.heap c f).objs.size) {s with heap:=OF s.heap c f}):=
 .of_wp fun prog w A R s h=>by
  obtain⟨k,g,d,m,os⟩:=s;obtain⟨j,i,h⟩:=h;have l:=sub_zip;have p1  := fun{A Q E}q=>j prog w A ⟨k,g,d,m,os⟩ Q E (fun _ _ e=>e) q;have p2  := fun{A Q E}q=>i prog w A ⟨k.push c,g,d,m,os⟩ Q E (fun _ _ e=>iN _ e) q
  wp_walk using p1,p2
  exact⟨_,rfl,h⟩
section
variable{s:ID}
def DU(l:yo a o1 s.heap)(m:yo b o2 s.heap)(n:o1.isFreed=η)(k:o2.isFreed=η)
  (h:∀h',IsZip h' (s.heap.objs.size+4) (s.heap.objs.size+2) (s.heap.objs.size+3) .none->IsPair h' (s.heap.objs.size+2) (.ref s.heap.objs.size) (.ref<|s.heap.objs.size+1) ->
   IsPair h' (s.heap.objs.size+3) .none .none->h'.get? s.heap.objs.size=J o1->h'.get? #[17]=J o2->h'.objs.size=s.heap.objs.size+5 ->
   (∀c o,s.heap.get? c=J o->h'.get? c=J o)->Q (.ref (s.heap.objs.size+4)) {s with heap:=h'}):
  SN (UA prog w) A (call (.type "zip") [a,b]) Q E s:=by
 refine callType_new F.called_zip (by rfl) (F.typeCall_zip_2 _ _) (F.newCall_zip_2 _ _) (fun i=>F.args_object_init_3 i _ _) F.entry_zip_new
  (adB a b o1 o2) ⟨l,m,?_⟩
 have e:(s.heap.push o1).objs.size=s.heap.objs.size+1:=Ym ..;have d:((s.heap.push o1).push o2).objs.size=s.heap.objs.size+2:=by rw[Ym,e]
 have g:(V4 s.heap o1 o2).objs.size=s.heap.objs.size+3:=by rw[Ym,d]
 have f:(VD s.heap o1 o2).objs.size=s.heap.objs.size+4:=by rw[Ym,g]
 have j:(OF s.heap o1 o2).objs.size=s.heap.objs.size+5:=by rw[Ym,f]
 have p:(OF s.heap o1 o2).get? (VD s.heap o1 o2).objs.size=J _:=Vh _ rfl;have r:(OF s.heap o1 o2).get? (V4 s.heap o1 o2).objs.size=J _:=iN _<|Vh _ rfl;have q:(OF s.heap o1 o2).get? ((s.heap.push o1).push o2).objs.size=J _:=iN _<|iN _<|Vh _ rfl;have g2:(OF s.heap o1 o2).get? (s.heap.push o1).objs.size=J o2:=iN _<|iN _<|iN _<|Vh _ k;have g1:(OF s.heap o1 o2).get? s.heap.objs.size=J o1:=iN _<|iN _<|iN _<|iN _<|Vh _ n;show _/\_;rw[d,g,f]at p;rw[e,d]at q;rw[g]at r;rw[e]at g2;rw[f];exact⟨⟨_,p,rfl⟩,h _ p q r g1 g2 j fun c o x=>
  iN _ (iN _ (iN _ (iN _ (iN _ x))))⟩
end
end L2
namespace L2
open PySem PySem.Spec PyProof.Rows
def N1{Z:St}(I:Inv X aa Z H s)(h:H a≠U\/∃o,X.K.lookup a=J o):¬gE X aa H a:=fun f=>by
 rcases h with h|⟨o,h⟩
 .exact h f.1
 .have e:=I.ok.mod.XM a o h;rcases f.2.2.2.1 with z|z
  .exact I.ok.Zo a o e z
  .exact absurd (Rw (Tn e)<|RW I.ok.Wq z) (ei _)
def Ck{K:aT}(h:m7 K H a xs):H a≠U\/∃o,K.lookup a=J o:=by
 rcases h with h|⟨o,_,_,h,_⟩
 .exact .inl ((by
    rcases h with h|⟨o,h⟩<;>rw[h]<;>simp))
 .mright
structure Src(K:aT)(B:Hp)(xs:Se)(it:SA)(S:Nat->T3->Prop):Prop where
 obj:∀i h,S i h->∃o,h.get? it=J o/\∀v,o.data≠.cell v
 keep:∀i h h',S i h->(∀o,h.get? it=J o->h'.get? it=J o)->S i h'
 draw:∀(X:Cx)(aa:TQ)(s:ID)(Z:St)(H:Hp),Inv X aa Z H s->X.K=K->ah B H->gE X aa H it->∀A:Tx,A.handled=U->∀i,S i s.heap ->
  ∃fp Pv St,Draws X.prog X.w A it fp xs.length Pv St/\St i s.heap/\it∈fp/\(∀b∈fp,b=it\/¬gE X aa H b)/\(∀j u,Pv j u->∃x,xs[j]?=J x/\aP x u)/\∀j h,St j h->S j h
def src_tuple{K:aT}(g:m7 K B a xs):Src K B xs it (fun i h=>h.IsTupleIter it a i) where
 obj:=by rintro i h⟨o,e,c,d⟩;exact ⟨o,e,fun v z=>⊥⟩
 keep:=fun i h h'⟨o,e,r⟩k=>⟨o,k o e,r⟩
 draw:=fun X aa s Z H I n sB f A w i st=>by
  subst n;obtain⟨aV,rv,pl,hz⟩:=I.tuple<|sB.Wt g
  have l:a≠it:=fun z=>N1 I (Ck<|sB.Wt g)<|z▸f;have p:xs.length=aV.toArray.size:=by exact rv.length
  refine⟨_,_,_,p▸Xdz w it a l aV.toArray,⟨st,pl⟩,∅,fun b m=>?_,fun j u t=>?_,fun j h st=>st.1⟩
  .rcases eQ.mp m with e|m
   .exact .inl e
   .rw[IF.mp m];exact .inr (N1 I<|Ck<|sB.Wt g)
  .have hu'  := by simpa using t
   have hj  := (rW.mp hu').1;have q:xs[j]?=J (xs[j]'(by mright)):=∅
   obtain⟨u',h1,h2⟩:=rv.get q
   mright
def Inv.aba{Z:St}{ch:Sf}{T:SA}(I:Inv X aa Z H s)(f:∀b∈ch,gE X aa H b)(k:∀b o,b∉ch->s.heap.get? b=J o->h'.get? b=J o)(h:s.heap.objs.size<=T)
  (p:ys.length<=Ta) (j:aU ys us) (g:IsTup h' T us.toArray) (t:X.tn<=t'<|>XW):Inv X aa Z (br H T<|.tup ys) {s with heap:=h',toks:=t'}:=by
 have hn  := I.Su.fresh h;have l:∀b u,H b=J u->b∉ch:=fun b u e z=>by rw[(f b z).1]at e;cases e
 refine I.step (fun b a=>⟨(f b a).2.2.2.1,(f b a).2.1,(f b a).2.2.2.2.1,(f b a).2.2.2.2.2⟩) (fun b o _ _ d e _=>k b o d e) (fun b o _ _ d e _=>⟨o.slots,k b o d e⟩) (fun b o _ e n=>?_)
  (fun b o d e=>⟨o,k b o d e⟩) (fun b xs e=>?_) (fun b o u e=>?_) (fun b ps e=>?_) (fun m i=>?_) (fun b u e=>?_) I.bare
 .rw[aG<|Vd<|Rw (Tn e) h];exact n
 .rw[aG<|bc e hn];exact e
 .rw[aG<|bc e hn];exact e
 .rw[aG<|bc e hn];exact e
 .obtain⟨o,es,ep,ho,r⟩:=i
  exact⟨o,es,ep,k _ o (fun z=>(f _ z).2.1 rfl) ho,r⟩
 .by_cases a:b=T
  .subst a;rw[aE]at e;cases e;exact⟨p,us,j,g⟩
  .rw[aG a]at e;refine(I.Su b u e).zY (fun c v d q=>k c v ?_ q) (fun c q=>by rw[aG<|bc q hn];exact q) fun c xs q=>⟨by rw[aG<|bc q.1 hn];exact q.1,q.2⟩
   grind
def NI(B:Hp)(n:Nat)(a:Nat->V->V->Prop):It:=
 ⟨fun i H=>ah B H/\i<n,fun i H v H'=>∃p x y,H p=U/\H'=br H p (.tup [x,y])/\v=.ref p/\a i x y,fun i H=>ah B H/\i=n⟩
def FC{K:aT}{z TI TO g j:SA}(F:Src K B xs g S1)(O:Src K B ys j S2)(nd:[z,TI,TO,g,j].Nodup):
    Turn P w K (.Tuple elts k pos) (NI B (min xs.length ys.length) fun i x y=>xs[i]?=J x/\ys[i]?=J y) [z,TI,TO,g,j] z
      (fun i h=>IsZip h z TI TO .none/\IsPair h TI (.ref g) (.ref j)/\(∃a b,IsPair h TO a b)/\S1 i h/\S2 i h):=by
  simp only[Vx,eQ,Vm,or_false,not_or,Yv,and_true,not_false_eq_true]at nd;obtain⟨⟨zTI,zTO,zi1,S⟩,⟨TITO,TIi1,TIi2⟩,⟨TOi1,TOi2⟩,i12⟩:=nd;have mm:∀b∈[z,TO,g,j],b∈[z,TI,TO,g,j]:=fun b l=>by
    simp only[eQ,Vm,or_false]at l⊢;rcases l with h|h|h|h<;>simp[h]
  have za:∀{X:Cx}{aa:TQ}{H:Hp}{t fp2:Sf},(∀b∈[z,TI,TO,g,j],gE X aa H b)->(∀b∈t,b=g\/¬gE X aa H b)->(∀b∈fp2,b=j\/¬gE X aa H b)->ZA z TI TO g j t fp2:=fun{X aa H t fp2}d h1 h2=>
    { TIz:=Vn zTI,TOz:=Vn zTO,TITO:=TITO,TIi1:=TIi1,TIi2:=TIi2,TOi1:=TOi1,TOi2:=TOi2,i1z:=Vn zi1,i2z:=Vn S,i12:=i12,
      z1:=fun m=>(h1 z m).elim zi1 fun q=>q<|d z<|∅,z2:=fun m=>(h2 z m).elim S fun q=>q<|d z<|∅,TO1:=fun m=>(h1 TO m).elim TOi1 fun q=>q<|d TO<|∅,TO2:=fun m=>(h2 TO m).elim TOi2 fun q=>q<|d TO<|∅,
      i1f:=fun m=>(h2 g m).elim i12 fun q=>q (d g ∅),i2f:=fun m=>(h1 j m).elim (Vn i12) fun q=>q (d j ∅)}
  refine⟨∅,fun i h st b l=>?_,fun i h h' st p=>?_,?_,?_,fun A i s Q E st q=>wpAny_pyIter_zip st.1 q⟩
  . let ⟨hz,hTI,⟨a,b',hTO⟩,h1,h2⟩:=st
    simp only[eQ,Vm,or_false]at l;rcases l with rfl|rfl|rfl|rfl|rfl
    . exact⟨_,hz,fun v q=>by cases q⟩
    . exact⟨_,hTI,fun v q=>by cases q⟩
    . exact⟨_,hTO,fun v q=>by cases q⟩
    . exact F.obj i h h1
    . exact O.obj i h h2
  . let ⟨hz,hTI,⟨a,b',hTO⟩,h1,h2⟩:=st
    exact⟨p z ∅ _ hz,p TI ∅ _ hTI,⟨a,b',p TO ∅ _ hTO⟩,F.keep i h h' h1 fun o e=>p g ∅ o e,O.keep i h h' h2 fun o e=>p j ∅ o e⟩
  . intro X hP hw M C i aa s Z H E I d st hg;subst hP hw;left;let ⟨hz,hTI,hTO,h1,h2⟩:=st
    obtain⟨sB,hi⟩:=hg
    have R:X.A.in1.handled=U:=I.ok.hd C;obtain⟨t,P1,St1,D1,st1,m1,n1,p1,b1⟩:=F.draw X aa s Z H I M sB (d g<|∅) X.A.in1 R i h1
    obtain⟨fp2,P2,St2,D2,st2,m2,n2,p2,b2⟩:=O.draw X aa s Z H I M sB (d j<|∅) X.A.in1 R i h2
    have W:=WalksT.ZW D1 D2 (za d n1 n2) m1 m2;right;refine aO I.tk<|W.item i s _ _ hi ⟨hz,hTI,hTO,st1,st2⟩ fun T vals h' tk pt hT isT mid k1 htk=>⟨.ref T,rfl,W.go elts k pos i T {s with heap:=h',toks:=tk} _ _ mid fun V D k2=>?_⟩;obtain⟨u1,u2,q1,q2,rfl⟩:=pt;let⟨x,hx,rx⟩:=p1 i u1 q1
    obtain⟨y,hy,ry⟩:=p2 i u2 q2
    obtain⟨hz',hTI',hTO',st1',st2'⟩:=D
    have p:∀b o,b∉[z,TO,g,j]->s.heap.get? b=J o->V.get? b=J o:=fun b o l e=>k2 b o l<|k1 b o l e;have hTn:H T=U:=I.Su.fresh hT;have lt:∀{b o},s.heap.get? b=J o->b≠T:=fun e=>Vd<|Rw (Tn e) hT;have N:IsTup V T [u1,u2].toArray:=by
      obtain⟨o,e,r⟩:=isT
      exact⟨o,k2 T o (W.apart i T _ mid) e,r⟩
    refine⟨.ref T,br H T<|.tup [x,y],I.aba (t':=tk) (ch:=[z,TO,g,j]) (fun b l=>d b (mm b l)) p hT (by show 2<=Ta;decide) (.cons rx<|.cons ry .nil) N,rfl,⟨T,x,y,hTn,rfl,rfl,hx,hy⟩,
      ⟨hz',hTI',hTO',b1 _ _ st1',b2 _ _ st2'⟩,fun b l=>?_⟩
    have hbT:b≠T:=by
      simp only[eQ,Vm,or_false]at l;rcases l with rfl|rfl|rfl|rfl|rfl
      . exact lt hz
      . exact lt hTI
      . obtain⟨_,_,e⟩:=hTO;exact lt e
      . obtain⟨_,e,_⟩:=F.obj _ _ h1;exact lt e
      . obtain⟨_,e,_⟩:=O.obj _ _ h2;exact lt e
    rw[aG hbT];exact(d b l).1
  . intro X hP hw M C i aa s Z H E I d st hg;subst hP hw;left;let ⟨hz,hTI,hTO,h1,h2⟩:=st
    obtain⟨sB,hi⟩:=hg
    have R:X.A.in1.handled=U:=I.ok.hd C;obtain⟨t,P1,St1,D1,st1,m1,n1,p1,b1⟩:=F.draw X aa s Z H I M sB (d g<|∅) X.A.in1 R i h1
    obtain⟨fp2,P2,St2,D2,st2,m2,n2,p2,b2⟩:=O.draw X aa s Z H I M sB (d j<|∅) X.A.in1 R i h2
    have W:=WalksT.ZW D1 D2 (za d n1 n2) m1 m2;right;subst hi;refine aO I.tk<|W.done s _ _ ⟨hz,hTI,hTO,st1,st2⟩ fun h' tk p htk=>⟨rfl,?_⟩
    have nch:∀b u,H b=J u->b∉[z,TO,g,j]:=fun b u e q=>by
      have:=(d b (mm b q)).1
      rw[this]at e;cases e
    refine I.step (g':=s.gens) (d':=s.drawn) (ch:=[z,TO,g,j]) (fun b l=>?_) (fun b o _ _ C e _=>p b o C e) (fun b o _ _ C e _=>⟨o.slots,p b o C e⟩) (fun _ _ _ _ n=>n)
      (fun b o C e=>⟨o,p b o C e⟩) (fun _ _ e=>e) (fun _ _ _ e=>e) (fun _ _ e=>e) (fun m hm=>?_) (fun b u e=>?_) I.bare
    . have f:=d b (mm b l);exact⟨f.2.2.2.1,f.2.1,f.2.2.2.2.1,f.2.2.2.2.2⟩
    . let ⟨o,es,ep,ho,r⟩:=hm
      refine⟨o,es,ep,p _ o (fun q=>?_) ho,r⟩;exact(d _ (mm _ q)).2.1 rfl
    . refine (I.Su b u e).zY (fun c v C q=>p c v ?_ q) (fun _ q=>q) fun _ _ q=>q
      grind
def adi{K:aT}(d:n=zs.length)(h:∀i x y,i<n->Pv i x y->∃b a,zs[i]?=J (.tup [b,a])/\bQ K (aj as0 B) b x/\bQ K (aj as0 B) a y):eM K as0 B (NI (aj as0 B) n Pv) zs where
 go:=fun i H s c=>⟨s,by rw[d];exact c⟩
 yl:=fun i H v t M s r g c m=>c7 m fun p x y j e q k=>by
  subst e q;refine Tw (h i x y (by rw[d];exact c) k) fun b a e1 l o=>?_
  have hpM  := fun z=>r p z j;have f:ah (aj as0 B)<|aj M<|br H p<|.tup [x,y]:=(km s g).trans<|aA<|bR j _;exact⟨bR j _,_,e1,p,[x,y],rfl,.inl<|.inl<|by rw[av hpM];exact aE,ay.cons (l.mono f)<|ay.cons (o.mono f) ay.nil⟩
 stop:=fun H s=>⟨s,d.symm⟩
noncomputable def pN(xs ys:Rx):Rx:=List.zipWith (fun x y=>D.tup [x,y]) xs ys
def Nl(K:aT)(F:Rx->R D):Sp:=fun vs H Q E=>∀mg,rj K mg F vs H Q E
def LQ{K:aT}{b:List Int}(c:gr K H a<|b.map V.int)(h:F [.lst<|b.map D.int]=.ok (.bl G))(q:∀H',Q (.bl G) H'):Nl K F [.ref a] H Q E:=
 fun mg=>(by
   refine⟨[],[.lst<|b.map D.int],fun a e=>(nomatch e),⟨.ref a,[],rfl,⟨a,b.map V.int,rfl,by rw[Ge];exact c,?_⟩,rfl⟩,?_⟩
   .clear h c;induction b with
    |nil=>exact rfl
    |cons n r f=>exact⟨_,_,rfl,rfl,f⟩
   .rw[h];intro v H' s d;subst d;exact q H')
def fin(r:R Fl):R D:=r.bind fun f=>match f with
 |.rt d=>.ok d
 |.rn d=>.ok d
 |.nx _=>.ok .S9
 |_=>.no
section
variable{Y:Sd}{d e:D}{x y:Str}{i j:Int}{b c:Bool}{φ ψ:FE}{τ υ:FT}{α:FA}{S T:FS}
def TH(T:FS)(f:Fl):R Fl:=match f with
 |.nx δ'=>T δ'
 |f=>.ok f
def M8:nh S T Y=(S Y).bind (TH T):=by
 rfl
def QA:TH T (.nx Y)=T Y:=rfl
def Ov:ld Y=.ok (.nx Y):=rfl
def kin(d:D):R Fl:=.ok<|.rt d
def RT:pX φ Y=(φ Y).bind kin:=rfl
def JY(S T:FS)(Y:Sd)(b:Bool):R Fl:=if b=G then S Y else T Y
def Tz:DA τ S T Y=(τ Y).bind (JY S T Y):=rfl
def UQ:JY S T Y b=if b=G then S Y else T Y:=rfl
def aaJ(k:Nat)(Y:Sd)(d:D):R Fl:=.ok<|.nx<|Y.set k<|J d
def alA:rZ k φ Y=(φ Y).bind (aaJ k Y):=rfl
def TX(t:VA)(S:FS)(Y:Sd)(xs:Rx):R Fl:=cZ t S xs Y
def UW:Hy α t S Y=(α Y).bind (TX t S Y):=rfl
def UV:TX t S Y xs=cZ t S xs Y:=rfl
def Hj(t:VA)(S:FS)(r:Rx)(f:Fl):R Fl:=match f with
 |.nx δ2=>cZ t S r δ2
 |.ct δ2=>cZ t S r δ2
 |.bk δ2=>.ok<|.nx δ2
 |.rt d=>.ok<|.rt d
 |.rn d=>.ok<|.rn d
def MQ(t:VA)(S:FS)(r:Rx)(a:Sd):R Fl:=(S a).bind<|Hj t S r
def sS:cZ t S (d::r) Y=(iY t d Y).bind (MQ t S r):=by
 rfl
def Ja:MQ t S r Y=(S Y).bind (Hj t S r):=rfl
def v9:Hj t S r (.nx Y)=cZ t S r Y:=rfl
def Za:vC d Y=.ok d:=rfl
def JK(a:D->D->R D)(ψ:FE)(Y:Sd)(x:D):R D:=(ψ Y).bind<|a x
def JU:aH op φ ψ Y=(φ Y).bind (JK op ψ Y):=rfl
def sN:JK op ψ Y d=(ψ Y).bind (op d):=rfl
def Ti(ψ:FE)(Y:Sd)(d:D):R D:=Ni d fun b=>if b=G then ψ Y else .ok (.bl η)
def v_and:GS φ ψ Y=(φ Y).bind (Ti ψ Y):=rfl
def aci:Ti ψ Y (.bl b)=if b=G then ψ Y else .ok (.bl η):=rfl
def Xk(d:D):R Bool:=Ni d .ok
def DP:dC φ Y=(φ Y).bind Xk:=rfl
def Gf:Xk (.bl b)=.ok b:=rfl
def ac4:lP φ Y=(φ Y).bind L4:=rfl
def MZ(υ:FT)(Y:Sd)(b:Bool):R Bool:=if b=G then υ Y else .ok η
def yr:mQ τ υ Y=(τ Y).bind (MZ υ Y):=rfl
def xh:MZ υ Y b=if b=G then υ Y else .ok η:=rfl
def R6(υ:FT)(Y:Sd)(b:Bool):R Bool:=if b=G then .ok G else υ Y
def Ss:KF τ υ Y=(τ Y).bind (R6 υ Y):=rfl
def abF:R6 υ Y b=if b=G then .ok G else υ Y:=rfl
def aad(b:Bool):R Bool:=.ok<|!b
def Tm:qN τ Y=(τ Y).bind aad:=rfl
def TV(φ ψ:FE)(Y:Sd)(b:Bool):R D:=if b=G then φ Y else ψ Y
def NN:MU τ φ ψ Y=(τ Y).bind (TV φ ψ Y):=rfl
def MH:TV φ ψ Y b=if b=G then φ Y else ψ Y:=rfl
def SY:aQ Y=.ok []:=rfl
def zU(d:D)(ds:Rx):R<|Rx:=.ok<|d::ds
def MP(α:FA)(Y:Sd)(d:D):R<|Rx:=(α Y).bind<|zU d
def Qf:MP α Y d=(α Y).bind (zU d):=rfl
def J1{ds:Rx}:zU d ds=.ok (d::ds):=rfl
def R9:uw α Y=(α Y).bind yA:=rfl
def TgD:uD α Y=(α Y).bind Bc:=rfl
def Qb:yA ds=if ds.length<=1000000 then .ok (.lst ds)else .no:=rfl
def Rp:Bc ds=if ds.length<=1000000 then .ok (.tup ds)else .no:=rfl
def PH:aI g α Y=(α Y).bind g:=rfl
noncomputable def abK(d:D):R<|Option Int:=match d with
 |.int i=>.ok<|J i
 |_=>.no
def QB:gI φ Y=(φ Y).bind abK:=rfl
def QV(g:D->Option Int->Option Int->R D)(d:D)(lo a:Option Int):R D:=g d lo a
def RB(g:D->Option Int->Option Int->R D)(u:Sd->R (Option Int))(Y:Sd)(d:D)(lo:Option Int):R D:=(u Y).bind<|QV g d lo
def Tt(g:D->Option Int->Option Int->R D)(l u:Sd->R (Option Int))(Y:Sd)(d:D):R D:=(l Y).bind<|RB g u Y d
def SmL:Jm g φ l u Y=(φ Y).bind (Tt g l u Y):=rfl
def aaP:Tt g l u Y d=(l Y).bind (RB g u Y d):=rfl
def Fun{lo:Option Int}:RB g u Y d lo=(u Y).bind (QV g d lo):=rfl
def aa5{lo hi:Option Int}:QV g d lo hi=g d lo hi:=rfl
def ZT(g:Str->Rx->R D)(α:FA)(Y:Sd)(d:D):R D:=match d with
 |.str z=>(α Y).bind fun ds=>g z ds
 |_=>.no
def aa9{g:Str->Rx->R D}:DN g φ α Y=(φ Y).bind (ZT g α Y):=rfl
def abG:ZT g α Y (.str x)=(α Y).bind (g x):=rfl
def O8:jX ix α t τ φ Y=(α Y).bind (cF t τ φ<|dY ix Y):=rfl
def aaO:EX φ Y=(φ Y).bind Aw:=rfl
def IQ:p9 α Y=(α Y).bind KN:=rfl
def MX(h:-(2^62)<=i/\i<2^62):KN [.int i]=.ok (aW 0 i.toNat):=SI h
def wR:zF (.int i) (.int j)=.ok (.bl<|decide (i<j)):=rfl
def vQ:Ed (.int i) (.int j)=.ok (.bl<|decide (j<i)):=rfl
def GM:C9 (.int i) (.int j)=.ok (.bl<|decide (j<=i)):=rfl
def aaV:Mp (.str x) (.str y)=.ok (.bl<|!decide (y.cps.toList<x.cps.toList)):=rfl
def alw:C9 (.str x) (.str y)=.ok (.bl<|!decide (x.cps.toList<y.cps.toList)):=rfl
theorem Zg:wI (.int i) (.int j)=G:=rfl
theorem Zm:wI (.str x) (.str y)=G:=rfl
def zf:jp (.int i) (.int j)=.ok (.bl<|decide (i=j)):=by simp[jp,zy,g7,Zg,lU]
def jg:jp (.str x) (.str y)=.ok (.bl<|decide (x=y)):=by simp[jp,zy,g7,Zm,lU]
section
variable{Y:Sd}{d e:D}{x y:Str}{i j:Int}{b c:Bool}{φ ψ:FE}{τ υ:FT}{α:FA}{S T:FS}
end
def vE:xF (.str x) (.str y)=.ok (.bl<|!decide (x=y)):=by simp[xF,zy,g7,Zm,lU]
def U0(h:x.length<=1000000){k:Nat}(a:Uq x.cps.toList i=J k):cR (.str x) (.int i)=.ok (.str ⟨#[k]⟩):=by rw[cR,SI h,a]
def UC(a:Uq xs i=J d):cR (.lst xs) (.int i)=.ok d:=by simp only[cR,a]
def HY:cr [.str x]=if x.length<=1000000 then .ok (.int x.length)else .no:=rfl
def Vp:cr [.tup xs]=.ok (.int xs.length):=rfl
def abt{xs:Rx}{bs:List Bool}(h:yK xs=J bs):Dd [.lst xs]=.ok (.bl<|bs.all id):=by simp only[Dd,h]
def BP{β:Type}(f:β->Bool):∀xs:List β,yK (xs.map fun a=>D.bl<|f a)=J (xs.map f):=TB (rfl) fun a r i_=>by simp only[Xp,yK,i_,iM]
def BE(b:tX t δ0=G)(a:xs.length<=1000000)(h:fV t τ ε δ0 xs=.ok ys):cF t τ ε δ0 xs=.ok (.lst ys):=by
 delta cF;rw[SI ⟨b,a⟩,h];rfl
theorem jr{β:Type}{as:List β}(u:β->D)(f:β->D)(d:tX (.one k) δ0=G)(e:as.length<=1000000)(h:∀a∈as,ε (δ0.set k<|J<|u a)=.ok (f a)):cF (.one k) xa ε δ0 (as.map u)=.ok (.lst<|as.map f):=by
 refine BE d #[28] ?_;clear e;induction as with
 |nil=>rfl
 |cons a r c=>
  have h1:=h a Up;have c:=c fun b g=>h b<|ie _ g;show(ε<|δ0.set k<|J<|u a).bind _=_;rw[h1];rw[c];rfl
end
section
variable{X:Cx}{W:Wd}{O O' Ob:Ru}
def ML(xs:Se)(H:Hp)(Q:VK):Prop:=match xs with
 |[.int i]=>i.natAbs<10^30/\Q (.str<|lE<|toString i) H
 |_=>False
def afz:bI X (.type "str") ML:=by
 intro aa s Z H xs us Q I r h;delta ML at h;cbv
 .rename_i i;obtain⟨u,rfl,t,rfl⟩:=jV r;refine PySem.P.str_of_int ?_ ⟨.str _,H,I.tok _,⟨_,rfl⟩,h.2⟩;rcases zi i.natAbs with e|e
  .rw[e];decide
  .rw[Nat.log2_lt<|by simp_all];exact Rw h.1 (RW (by decide:10^30<=2^100)<|Pw ∎<|∅)
 .mleft
noncomputable def CO(ds:Rx):R D:=match ds with
 |[.int i]=>if i.natAbs<10^30 then .ok (.str<|lE<|toString i)else .no
 |_=>.no
section
variable{X:Cx}{W:Wd}{O O' Ob:Ru}
end
def MY(xs:Se)(H:Hp)(Q:VK):Prop:=match xs with
 |[.str z]=>∃n,intText? z=J n/\z.length<=640/\Q (.int n) H
 |_=>False
section
variable{X:Cx}{W:Wd}{O O' Ob:Ru}
end
noncomputable def xK(ds:Rx):R D:=match ds with
 |[.str z]=>match intText? z with
  |some n=>if z.length<=640 then .ok (.int n)else .no
  |none=>.no
 |_=>.no
def atI:nU W MY xK:=by
 intro as H xs ds Q c a h;delta xK at h;cbv
 .obtain⟨v,rfl,b⟩:=gy a;subst b;cbv
  .rename_i n e;cbv
   .rename_i hl;exact⟨n,e,hl,ax h rfl⟩
   .mleft
  .mleft
 .mleft
end
section
variable{M:Model}{A:Tx}{E:UB}{s₀ s:ID}{m cm:Sq}{env:Env}
def Jf{n:Str}{v:nE}{Q:Unit->ID->Prop}(x:InCallC s₀ env.locals m env.cells cm s)(i:env.scope.kind=.function)(j:env.kindOf n=J .local)
  (h:∀s',InCallC s₀ env.locals (fun y=>if y=n then J v else m y) env.cells cm s'->1<=s'.toks->Q () s'):SN M A (storeName env n v) Q E s:=by
 refine wpAny_storeName_local j x.toInCall.ns (fun h' d a=>h _ ⟨⟨?_,d,fun b o e=>?_,x.toInCall.fresh⟩,fun k c g=>?_,x.apart,x.above⟩<|yD<|Uh _) (by rw[i];rfl)
 .obtain⟨f,l,rfl⟩:=x.toInCall.same;exact⟨h',_,rfl⟩
 .exact a.extBut b o (Vd<|Rw (Tn e) x.toInCall.fresh) (x.toInCall.keep b o e)
 .exact(x.cell k c g).sameBut a (mS<|x.above k c<|mem_of_lookup g)
def acF(f:Str×nE->PUnit->Sem (ForInStep PUnit))(e:∀n v u,f (n,v) u=(do storeName env n v;pure (.yield ⟨⟩)))(g:env.scope.kind=.function){n:Str}{v:nE}{r:List<|Str×nE}{Q:PUnit->ID->Prop}
  (x:InCallC s₀ env.locals m env.cells cm s) (b:env.kindOf n=J .local) (i:∀x∈r,env.kindOf x.1=J .local\/(env.kindOf x.1=J .cell/\(env.cells.lookup x.1).isSome=G))
  (h:∀s',InCallC s₀ env.locals (bindL env.kindOf ((n,v)::r) m) env.cells (bindC env.kindOf ((n,v)::r) cm) s'->1<=s'.toks->Q ⟨⟩ s'):SN M A (forIn ((n,v)::r) ⟨⟩ f) Q E s:=by
 rw[yf,e];refine iF<|iF<|Jf x g b fun s' k j=>U4<|aO j<|wpAny_bindParams f e g r _ _ s' _ k i fun d a c=>h d ?_ c;unfold bindL bindC;rw[SI b,SI b];exact a
def Ai{scope:Scope}{d:SA}{n:Str}{v:nE}{r:List<|Str×nE}{g:Str}{f:Option SA}{code:nE}{a:SA}{Q:Env->ID->Prop}
  (p:scope.kind=.function) (q:scope.names.lookup n=J .local)
  (h:∀x∈r,scope.names.lookup x.1=J .local\/(scope.names.lookup x.1=J .cell/\((cellsFrom #[17] scope.names []).lookup x.1).isSome=G))
  (k:∀env,env=newEnv scope s.heap.objs.size d (cellsFrom #[17] scope.names []) g f code U a ->
   ∀s',InCallC s env.locals (bindL env.kindOf ((n,v)::r) fun _=>U) env.cells (bindC env.kindOf ((n,v)::r) fun _=>U) s'->1<=s'.toks->Q env s'):
  SN M A (newFunctionEnv scope d [] ((n,v)::r) g f code U a) Q E s:=by
 simp only[newFunctionEnv,Option.isSome_none,Bool.false_eq_true,if_false];refine iF<|wpAny_alloc ?_;refine iF<|wpAny_layCells _ (fun name kind cells=>by cases hkc:kind==Bv<;>trivial) _ _ _ _ ?_;have ok:=cellsFrom_ok scope.names (s.heap.push {cls:=.type "frame",data:=.dict #[]}) #[17] [] ⟨fun _ _ i=>(nomatch i),Oe⟩ (by rw[Ym];exact mK _)
 rw[Ym]at ok;rw[show({s with heap:=s.heap.push {cls:=.type "frame",data:=.dict #[]}}:ID).heap.objs.size=s.heap.objs.size+1 from Ym ..];refine iF (acF (s₀:=s) (env:=newEnv scope s.heap.objs.size d (cellsFrom #[17] scope.names []) g f code U a)
  _ (fun _ _ _=>rfl) p (m:=fun _=>U) (cm:=fun _=>U)
  ⟨⟨⟨_,_,rfl⟩,(Heap.Ns.new s.heap<|.type "frame").keeps<|pushCells_keeps _ _,fun b o e=>pushCells_keeps _ _ b o<|iN _ e,mK _⟩,
   fun n c l=>(ok.empty n c (mem_of_lookup l)).1,ok.apart,fun n c i=>(ok.empty n c i).2⟩
  q h fun s' x j=>U4 (k _ rfl s' x j))
end
noncomputable abbrev Cx.up(X:Cx)(n:Nat):Cx:={X with tn:=n}
def Cx.Ok.up{X:Cx}{n:Nat}(ok:X.Ok):(X.up n).Ok:=
 ⟨ok.mod,ok.kind,ok.glob,ok.blt,ok.above,ok.inj,ok.has,ok.sY,ok.hd,ok.frames,ok.xN,ok.x9,ok.bs,ok.Wq,ok.Zo,ok.ZR,ok.WE,ok.XJ⟩
def Inv.up{X:Cx}{aa:TQ}{Z:St}{H:Hp}{s:ID}{n:Nat}(I:Inv X aa Z H s)(h:n<=s.toks):Inv (X.up n) aa Z H s:=⟨I.ok.up,I.os,I.bare,I.base,I.loc,I.cell,I.free,I.WZ,I.pin,I.Su,I.len,h⟩
theorem HH{CX:Ee}{P:Tc}{w:Sl}{K:aT}{mg:Sq}{base:T3}{k:Nat}{f:SA}{name c:Str}{h:Arguments}{i:List SU}{scope:Scope}{dV kV B pm g ct oc:nE}{an od:Option SA}
  {X:Array<|Option nE} {N ps:SH} {sp:Sp} (lk:K.lookup f=J ⟨oc,od,.func<|Wk name c h i scope dV kV B pm an g ct,X⟩) (M:uz K g c=G) (S:Vr N ps scope)
  {z:Str} {pr:SH} (hp:ps=z::pr) (W:scope.names.lookup z=J .local)
  (len:∀vs H Q E,sp vs H Q E->vs.length=ps.length)
  (l:∀(A:Tx)(a:List Env)(s:ID)(H:Hp)(vs:Se)(Q:VK)(E:XK),TZ k (A.deeper<|W7 c scope s.heap.objs.size f g)->sp vs H Q E ->
   ∃t,IR ((gw CX P w K mg base N c scope f g A a s H E).up 1) i t/\t {nx:=fun _ H'=>Q .S9 H',rt:=Q} (start N vs) H):
  T8 P w K mg base CX (k+1) f (Wk name c h i scope dV kV B pm an g ct) ps sp:=by
 subst hp;refine⟨len,fun A a s H args us vs Q E hr e0 hb r D=>?_⟩;have hl:=len _ _ _ _ D;have KX:K.In s.heap:=e0.mod.XM.keeps fun b o e=>(e0.bs b o e).1;have T:s.heap.NoLimit:=e0.mod.nolimit.keeps fun b o e=>(e0.bs b o e).1;have m:∀y∈(z::pr).zip us,scope.names.lookup y.1=J .local\/#[26]:=fun⟨n,v⟩O=>by
  rcases S.par n (X0 O).1 with q|q
  .exact .inl q
  .exact .inr ⟨q,tK _ _ _<|.inl q⟩
 have F:us.length=(z::pr).length:=by rw[<-r.length];exact hl
 obtain⟨p,C,rfl⟩:∃p C,us=p::C:=by
  cases us with
  |nil=>cases F
  |cons p C=>exact⟨p,C,rfl⟩
 refine codeAny_call_function hr.depth (KX _ _ lk) rfl S.co S.gen rfl (zh KX M) (hb _ _ _ _ ?_);refine Ai (n:=z) (v:=p) (r:=pr.zip C) S.kind W (fun y O=>m y<|ie _ O) fun env he s1 x ht=>?_;subst he;refine⟨T.keeps x.toInCall.keep,codeAny_func ?_⟩;obtain⟨t,ht',hq⟩:=l A a s H vs Q E (hr.deeper _) D;have I:Inv ((gw CX P w K mg base N c scope f g A a s H E).up 1) [] (start N vs) H s1:=(oQ S hr.hd e0 hl r x).up ht;refine UE (ht' [] s1 (start N vs) H _ I hq) (fun fl s' hs=>?_) fun e s' hs=>hs;have fin:∀{j:St}{H':Hp}{v:V}{u:nE},Inv ((gw CX P w K mg base N c scope f g A a s H E).up 1) [] j H' s'->aP v u->Q v H'->CE a P w H s Q u s':=
  fun{j H' v u}d R q=>⟨v,H',d.os,d.bare,d.base,d.Su,R,q⟩
 cases fl with
 |ret u=>
  refine WM hs fun v j H' d R q=>?_;exact fin d R q
 |next=>
  obtain⟨j,H',d,q⟩:=hs;exact fin (v:=V.S9) (u:=Yk) d rfl q
 |brk=>
  obtain⟨_,_,_,q⟩:=hs;exact Wf q
 |cont=>
  obtain⟨_,_,_,q⟩:=hs;exact Wf q
section
variable{P:Tc}{w:Sl}{K:aT}{mg:Sq}{base:T3}
def UD.acw{x b:Str}{st:SU}{f:SA}{fd:Wj}{N ps:SH}{k:Nat}{sp:Sp}(F:UD K x b st f fd)(S:Vr N ps<|ai st){j:Str}{pr:SH}(n:ps=j::pr)(g:(ai st).names.lookup j=J .local)(len:∀vs H Q E,sp vs H Q E->vs.length=ps.length)
  (d:∀(c:nE)(_:Ea K c b=G)(A:Tx)(a:List Env)(s:ID)(H:Hp)(vs:Se)(Q:VK)(E:XK),TZ k (A.deeper<|W7 b (ai st) s.heap.objs.size f c)->sp vs H Q E ->
   ∃t,JB ((gw lD P w K mg base N b (ai st) f c A a s H E).up 1).Xe (bL st) t/\t {nx:=fun _ H'=>Q .S9 H',rt:=Q} (start N vs) H):T8 P w K mg base lD (k+1) f fd ps sp:=by
 obtain⟨v,p,kV,m,u,y,c,r,o,rfl,lk,e⟩:=F.ex;refine HH lk (tF e) S n g len fun A a s H vs Q E l i=>?_;obtain⟨t,h,q⟩:=d c e A a s H vs Q E l i;exact⟨t,h.out.Xe,q⟩
def UD.abd{x c:Str}{st:SU}{f:SA}{fd:Wj}{N ps:SH}{k:Nat}{φ:FS}{O':Ru}(F:UD K x c st f fd)(S:Vr N ps<|ai st){u:Str}{pr:SH}(n:ps=u::pr)(r:(ai st).names.lookup u=J .local)
  (j:∀(g:nE)(_:Ea K g c=G)(A:Tx)(b:List Env)(s:ID)(H:Hp)(E:XK),TZ k (A.deeper<|W7 c (ai st) s.heap.objs.size f g) ->
   JB ((gw lD P w K mg base N c (ai st) f g A b s H E).up 1).Xe (bL st) (sD ⟨K,mg,E0⟩ [] [] O' φ)):T8 P w K mg base lD (k+1) f fd ps (rj K mg (gx φ N ps)):=by
 refine F.acw S n r (fun vs H Q E h=>?_) fun g q A b s H vs Q E l h=>?_
 .obtain⟨as,ds,ex,m,h⟩:=h;delta gx at h;cbv
  .rename_i hl;rw[<-m.len];exact hl
  .mleft
 .obtain⟨as,ds,ex,m,h⟩:=h;delta gx at h;cbv
  .rename_i hl;refine⟨_,j g q A b s H E l,as,H,[],gd N ds,⟨?_,rfl,Yv,Yv,fun a y=>(nomatch y),ex,ah.refl _,fun i d _ e=>?_,fun i a h=>(by simp at h)⟩,?_⟩
   .delta gd start;simp[m.len]
   .unfold gd at e;delta start;rw[<-m.len];exact mZ m e
   .cases l:φ (gd N ds)with
    |ok fl=>
     rw[l]at h;cases fl with
     |rt d=>exact fun v H' s t=>h v H' s t
     |rn d=>exact fun p o H' s n e B=>h (.ref p) H' s<|B.den (fun z=>ex p z n) e
     |nx Y=>exact fun own Z H' I=>h .S9 H' I.same rfl
     |bk Y=>mleft
     |ct Y=>mleft
    |er x=>rw[l]at h;exact fun e C H' s=>h e C H' s
    |no=>rw[l]at h;mleft
  .mleft
end
noncomputable def Xd(tab:List<|Str×D)(d:D):R D:=match d with
 |.str x=>(match tab.lookup x with
  |some d=>.ok d
  |none=>.no)
 |_=>.no
section
variable{X:Cx}{W:Wd}{O Ob:Ru}{e:Ry}{φ:FE}{pos p1:Pos}
def GR(tab:List<|Str×Int):List<|TE×TE:=tab.map fun p=>(tC<|.str p.1,tC<|.int p.2)
def rT(tab:List<|Str×Int):List<|Key×V:=tab.map fun p=>(Key.inr p.1,V.int p.2)
def aa6(Z:St):∀(tab:List<|Str×Int)(H:Hp)(Q:List (V×V)->Hp->Prop),Q ((rT tab).map fun kv=>(kV kv.1,kv.2)) H->wK (GR tab) Z H Q:=TB (fun H Q h=>h) fun p r i_ H Q h=>i_ H _ h
def ac9(x:Str):∀(tab:List<|Str×Int)(a:List<|Key×V),(tab.map (·.1)).Nodup->gN (jA a<|rT tab) (Key.inr x)=match tab.lookup x with
  |some i=>J<|.int i
  |none=>gN a<|Key.inr x:=TB (fun a _=>rfl) fun p r i_ a nd=>by
  rw[Xp,Vx]at nd;show gN (jA (tf a (Key.inr p.1)<|.int p.2)<|rT r) (Key.inr x)=_;rw[i_ _ nd.2,We];by_cases h:x=p.1
  .subst h;have b:r.lookup p.1=U:=by
    rw[List.lookup_eq_none_iff];intro q c
    have:p.1≠q.1:=fun z=>nd.1 (by rw[z];exact yh c)
    simpa using this
   rw[b,yk];simp
  .have hb:(x==p.1)=η:=by simpa using h
   rw[hb,yk];have h':¬(Key.inr x:Key)=Key.inr p.1:=fun z=>h<|Key.inr.inj z;rw[SM h']
def acD(f:Int->D)(x:Str):∀(tab:List<|Str×Int),(tab.map fun p=>(p.1,f p.2)).lookup x=(tab.lookup x).map f:=TB (rfl) fun p r i_=>by
  rw[Xp,We,We];cases x==p.1
  .exact i_
  .rfl
def QG(tab:List<|Str×Int){a:List<|Option Ry}{c:List Ry}{d:Pos}(t:X.A.units+1<cLine)(j:X9 X d a c<|GR tab)(u:JE X e<|tD W O φ)(s:(tab.map (·.1)).Nodup)(k:tab.length<=15)
  (f:a.all (·.isSome)=G<|>Rv) (C:a.length=c.length<|>Rv) (E:a≠[]<|>xI) (g:a.length<=15<|>Sm) (hs:En e<|>k7):
  JE X (.Subscript (.Dict a c d) e pos) (tD W O<|zz (Xd<|tab.map fun p=>(p.1,D.int p.2)) φ):=
 (JE.mk<|Mh t (JX j f C E g) u.out hs).imp fun Z H Q r=>dQ r fun as0 B own Y I h=>by
  intro p j;refine aa6 Z tab _ _ ⟨aE,rT tab,rfl,by delta rT;rw[WH];exact k,?_⟩;have l:ah H<|br (br H p<|.dK []) p<|.dK<|jA []<|rT tab:=fun b o e=>by
   have m:b≠p:=fun z=>by rw[z,j]at e;cases e
   rw[aG m,aG m];exact e
  refine⟨as0,B,own,Y,I.mono l,aY (h.mono l) fun y v F w n h2=>?_⟩;unfold Xd at h2;cases y with
  |str x=>
   subst n;simp only at h2;rw[acD]at h2;cases q:tab.lookup x with
   |none=>rw[q]at h2;exact h2.elim
   |some i=>
    rw[q]at h2;refine⟨p,.int i,rfl,.inl ⟨jA []<|rT tab,Key.inr x,.inl<|w _ _ aE,rfl,?_⟩,ax h2 rfl⟩;rw[ac9 x tab [] s,q]
  |_=>exact h2.elim
def KP(tab:List<|Str×D)(i:X.mg x=J (.ref a))(g:X.K.lookup a=J ⟨.type "dict",U,.dict es n,#[]⟩)(f:ue X.w.params es.toList)
  (p:∀y d,tab.lookup y=J d->∃v u,DO X.K a y=J (J u)/\aP v u/\∀H,bQ W.K H d v) (l:JE X e<|tD W O φ) (k:Gl X x<|>Rv) (b:TN x<|>Sm) (hs:En e<|>k7):
  JE X (.Subscript #[9] e pos) (tD W O<|zz (Xd tab) φ):=⟨by
 intro aa s Z H Q I0 ⟨as0,B,own,Y,I,h⟩;refine BU LY.lookup hs<|dD I0 k i (bP (l.out aa s Z H (fun v H1=>∃y d,v=.str y/\tab.lookup y=J d/\cP W #[8] H1 (.ok d) Q) I0 ⟨as0,B,own,Y,I,aY h fun y v c o j h2=>?_⟩) fun iv o k=>Tw k fun yv c I2 ry k=>Tw k fun y d ey q1 q2=>?_) b
 .unfold Xd at h2;cases y with
  |str x=>
   subst j;mright;cases q:tab.lookup x with
   |none=>rw[q]at h2;exact h2.elim
   |some d=>mright
  |_=>exact h2.elim
 .subst ey;obtain⟨t,rfl⟩:=ry;refine Tw (p y d q1) fun v u h1 h2 r=>?_
  obtain⟨m,F⟩:=I2.fr
  refine⟨(PySem.W.mapOf_K (prog:=X.prog) I2.U3 g f).typeIs,PySem.W.topGetDict_K F I2.mod.XM g f h1 ⟨v,c,I2.tok _,h2,q2 v c #[23] (r _)⟩⟩⟩
end
section
variable{X:Cx}{W:Wd}{Ob O:Ru}{e f:Ry}{ε ψ:FE}{pos p1 p2 p3 apos cpos apos2 cpos2 apos3 cpos3 tpos:Pos}{x:Str}{tx:Nat}
def pR(i:Nat)(ε:FE):FS:=fun Y=>match Y[i]? with
 |some (J<|.lst xs)=>(ε Y).bind fun d=>match xs[xs.length-1]? with
  |some y=>if xs.length<=1000000 then .ok (.nx<|Y.set i<|J<|.lst<|xs.dropLast++[.tup [d,y]])else .no
  |none=>.no
 |_=>.no
def my(i:Nat)(ε ψ:FE):FS:=fun Y=>match Y[i]? with
 |some (J<|.lst xs)=>(ε Y).bind fun d=>(ψ Y).bind fun k=>match k with
  |.int k=>(match C5 xs.length k with
   |some j=>(match xs[j]? with
    |some b=>(match(xs.eraseIdx j)[(xs.eraseIdx j).length-1]? with
     |some a=>if xs.length<=1000000 then .ok (.nx<|Y.set i<|J<|.lst<|(xs.eraseIdx j).dropLast++[.tup [d,b,a]])else .no
     |none=>.no)
    |none=>.no)
   |none=>.no)
  |_=>.no
 |_=>.no
theorem ay.erase{K:aT}{H:Hp}:∀{ds:Rx}{xs:Se}(j:Nat),ay K H ds xs->ay K H (ds.eraseIdx j) (xs.eraseIdx j)
 |[],_,j,h=>by subst h;simp;exact rfl
 |d::ds,_,0,⟨v,vs,e,h1,h2⟩=>by subst e;exact h2
 |d::ds,_,j+1,⟨v,vs,e,h1,h2⟩=>by subst e;exact⟨v,_,rfl,h1,ay.erase j h2⟩
def ay.dropLast{K:aT}(h:ay K H ds xs):ay K H ds.dropLast xs.dropLast:=by
 rw[LB,LB,<-h.len];exact h.take _
def Fu{i:Nat}(hi:i∈O)(he:JE X e<|tD W O ε)(P:X.N[i]?=J x<|>Rv)(hn:al e=G<|>Rv)(j:#[6]=G<|>Rv)(c:(apos2.endLine==cpos2.line)=G<|>Rv)
  (hv:m6 X.env.scope x<|>uO) (hd:TN x<|>Sm) (m:#[2]=η<|>Sm)
  (k:WG #[9] "append" X.env (eval #[9] X.env)=eval #[9] X.env<|>Rv) (b:WG (.Name x p2) "pop" X.env (eval (.Name x p2) X.env)=eval (.Name x p2) X.env<|>Rv)
  (hs:Uw (.Call (.Attribute #[9] "append" apos) [.Tuple [e,.Call (.Attribute (.Name x p2) "pop" apos2) [] [] cpos2] tx tpos] [] cpos) U pos.line X.env=pure η<|>Rv) (hW:W.K=X.K<|>Rv):
  JS X (.Expr (.Call (.Attribute #[9] "append" apos) [.Tuple [e,.Call (.Attribute (.Name x p2) "pop" apos2) [] [] cpos2] tx tpos] [] cpos) pos) (sD W Ob O O<|pR i ε):=
 (n9 (DK oG lF lN gq (jv i P hv hd m)
  (bU (Ci (bU he (bU (Cg oG lb lg wN (jv i P hv hd m) b c) eD rfl) hn)) eD rfl) k j rfl (by show 1<29;simp)) hs).imp fun D Z H hh=>dQ hh fun as0 B own Y I h=>by
  obtain⟨a,u⟩:=fT I.YU hi;refine US (I.Xf i a u) fun d o h1 h2 F h4=>?_;show m8 Z[i]? H fun x H1=>KU X.K "list" x H1/\tD W O ε Z H1 fun g H2=>m8 Z[i]? H2 (fun R M=>KU X.K "list" R M/\Pi R [] M fun y T=>[g,y].length<=Ta/\∀p,T p=U->nj x [.ref p] (br T p<|.tup [g,y]) fun _ H5=>D.nx Z H5);rw[h2];delta pR at h;rw[h1]at h;have hil:i<Y.length:=(rW.mp h1).1;have hm:a∈own++as0:=Le _ (X0 u).2;cases d with
  |lst ds=>
   obtain⟨xs,rfl,q⟩:=h4;refine⟨.inl ⟨rfl,xs,gr.of F⟩,as0,B,own,Y,I,cO I h fun d g H2 w d2 f=>?_⟩;refine⟨.inl ⟨rfl,xs,gr.of<|w _ _ F⟩,?_⟩;cases e:ds[ds.length-1]? with
   |none=>rw[e]at f;exact f.elim
   |some y=>
    rw[e]at f;have f:c8 W as0 B Ob O (if ds.length<=1000000 then .ok (.nx<|Y.set i<|J<|.lst<|ds.dropLast++[.tup [d,y]])else .no) D:=f;split at f
    .rename_i hl;have q2:=q.mono<|aA w;obtain⟨l,s,dy⟩:=q2.get e;rw[q.len]at s;have I2:=I.mono w;have Q:=I2.kb (o':=.lst xs.dropLast) (d':=.lst ds.dropLast) u ⟨xs.dropLast,rfl,q2.dropLast⟩;refine⟨a,xs,l,rfl,rfl,w _ _ F,s,by rw[XB];simp,fun p t=>?_⟩;have E:p≠a:=fun z=>by rw[z,aE]at t;cases t
     have C:=Q.new t;have A:ah (br H2 a<|.lst xs.dropLast)<|br (br H2 a<|.lst xs.dropLast) p<|.tup [g,l]:=bR t _;have I4:=Q.mono A;have V:aj #[8] (br H2 a<|.lst xs.dropLast)=aj #[8] H2:=iR hm;have n:∀{d v},bQ W.K (aj #[8] H2) d v->bQ W.K (aj #[8]<|br (br H2 a<|.lst xs.dropLast) p<|.tup [g,l]) d v:=fun h=>bQ.mono (aA A) (by rw[V];exact h);have r:∀{d v},ay W.K (aj #[8] H2) d v->ay W.K (aj #[8]<|br (br H2 a<|.lst xs.dropLast) p<|.tup [g,l]) d v:=fun h=>ay.mono (aA A) (by rw[V];exact h);refine⟨a,xs.dropLast,.ref p,rfl,rfl,?_,?_,?_⟩
     .rw[aG<|Vn E];exact aE
     .have:=ck;have:=q.len;rw[PF];have h0:0<xs.length:=by
       rcases zi xs.length with z|z
       .rw[Ax<|by simp_all]at s;cases s
       .exact z
      grind
     .have hT:bQ W.K (aj #[8]<|br (br H2 a<|.lst xs.dropLast) p<|.tup [g,l]) (.tup [d,y])<|.ref p:=
       ⟨p,[g,l],rfl,.inl<|.inl<|by rw[av C];exact aE,ay.cons (n d2)<|ay.cons (n dy) ay.nil⟩
      have S:=I4.kb (o':=.lst<|xs.dropLast++[.ref p]) (d':=.lst<|ds.dropLast++[.tup [d,y]]) u ⟨_,rfl,(r q2.dropLast).append<|ay.cons hT ay.nil⟩;rw[Bh]at S;exact f own Z _ S
    .exact f.elim
  |_=>mleft
def GD{i:Nat}(hi:i∈O)(he:JE X e<|tD W O ε)(hf:JE X f<|tD W O ψ)(hN:X.N[i]?=J x<|>Rv)(hn:al e=G<|>Rv)(Q:al f=G<|>Rv)(y:#[6]=G<|>Rv)(l:(apos2.endLine==cpos2.line)=G<|>Rv)(g:(apos3.endLine==cpos3.line)=G<|>Rv)
  (V:m6 X.env.scope x<|>uO) (hd:TN x<|>Sm) (u:#[2]=η<|>Sm)
  (t:WG #[9] "append" X.env (eval #[9] X.env)=eval #[9] X.env<|>Rv) (m:WG (.Name x p2) "pop" X.env (eval (.Name x p2) X.env)=eval (.Name x p2) X.env<|>Rv) (c:WG (.Name x p3) "pop" X.env (eval (.Name x p3) X.env)=eval (.Name x p3) X.env<|>Rv)
  (hs:Uw (.Call (.Attribute #[9] "append" apos) [.Tuple [e,.Call (.Attribute (.Name x p2) "pop" apos2) [f] [] cpos2,.Call (.Attribute (.Name x p3) "pop" apos3) [] [] cpos3] tx tpos] [] cpos) U pos.line X.env=pure η<|>Rv) (hW:W.K=X.K<|>Rv):
  JS X (.Expr (.Call (.Attribute #[9] "append" apos) [.Tuple [e,.Call (.Attribute (.Name x p2) "pop" apos2) [f] [] cpos2,.Call (.Attribute (.Name x p3) "pop" apos3) [] [] cpos3] tx tpos] [] cpos) pos) (sD W Ob O O<|my i ε ψ):=
 (n9 (DK oG lF lN gq (jv i hN V hd u)
  (bU (Ci (bU he (bU (DK oG lb lg Hf (jv i hN V hd u) (bU hf eD Q) m l (by rw[Vg,Q];rfl) (by show 1<29;decide)) (bU (Cg oG lb lg wN (jv i hN V hd u) c g) eD rfl) rfl) hn)) eD rfl) t y rfl (by show 1<29;decide)) hs).imp fun D Z H hh=>dQ hh fun as0 B own Y I h=>by
  left;obtain⟨a,F⟩:=fT I.YU hi;refine US (I.Xf i a F) fun d o h1 h2 h3 h4=>?_;right;show m8 Z[i]? H fun x H1=>KU X.K "list" x H1/\tD W O ε Z H1 fun s H2=>m8 Z[i]? H2 fun x2 H3=>KU X.K "list" x2 H3/\tD W O ψ Z H3 fun k H4=>GV x2 [k] H4 fun r H5=>m8 Z[i]? H5 (fun x3 H6=>KU X.K "list" x3 H6/\Pi x3 [] H6 fun n H7=>[s,r,n].length<=Ta/\∀p,H7 p=U->nj x [.ref p] (br H7 p<|.tup [s,r,n]) fun _ H8=>D.nx Z H8);rw[h2];delta my at h;rw[h1]at h;have hil:i<Y.length:=(rW.mp h1).1;have hm:a∈own++as0:=Le _ (X0 F).2;cases d with
  |lst ds=>
   obtain⟨xs,rfl,q⟩:=h4;refine⟨.inl ⟨rfl,xs,gr.of h3⟩,as0,B,own,Y,I,cO I h fun d s H1 R d1 hq1=>?_⟩;refine⟨.inl ⟨rfl,xs,gr.of<|R _ _ h3⟩,as0,B,own,Y,I.mono R,cO (I.mono R) hq1 fun kd kv H2 s2 d2 b=>?_⟩;cases kd with
   |int k=>
    subst d2;have b:c8 W as0 B Ob O (match C5 ds.length k with
     |some j=>(match ds[j]? with
      |some r=>(match(ds.eraseIdx j)[(ds.eraseIdx j).length-1]? with
       |some n=>if ds.length<=1000000 then .ok (.nx<|Y.set i<|J<|.lst<|(ds.eraseIdx j).dropLast++[.tup [d,r,n]])else .no
       |none=>.no)
      |none=>.no)
     |none=>.no) D:=b
    cases ej:C5 ds.length k with
    |none=>rw[ej]at b;exact b.elim
    |some j=>
     rw[ej]at b;simp only at b;cases e1:ds[j]? with
     |none=>rw[e1]at b;exact b.elim
     |some r=>
      rw[e1]at b;simp only at b;left;cases e2:(ds.eraseIdx j)[(ds.eraseIdx j).length-1]? with
      |none=>right;rw[e2]at b;exact b.elim
      |some n=>
       rw[e2]at b;have b:c8 W as0 B Ob O (if ds.length<=1000000 then .ok (.nx<|Y.set i<|J<|.lst<|(ds.eraseIdx j).dropLast++[.tup [d,r,n]])else .no) D:=b;split at b
       .rename_i hl;have w:=R.trans s2;have q2:=q.mono<|aA w;have M:=q2.erase j;obtain⟨E,f1,g1⟩:=q2.get e1;obtain⟨C,f2,g2⟩:=M.get e2;rw[M.len]at f2;rw[q.len]at ej;obtain⟨i1,i2,i3,i4⟩:=Br ej;right;have hlx:xs.length<=1000000:=by rw[<-q.len];exact hl
        have I2:=I.mono w;have I3:=I2.kb (o':=.lst<|xs.eraseIdx j) (d':=.lst<|ds.eraseIdx j) F ⟨_,rfl,M⟩;have m3:aj #[8] (br H2 a<|.lst<|xs.eraseIdx j)=aj #[8] H2:=iR hm;have qd:ay W.K (aj #[8]<|br H2 a<|.lst<|xs.eraseIdx j) (ds.eraseIdx j).dropLast (xs.eraseIdx j).dropLast:=by rw[m3];exact M.dropLast
        have I4:=I3.kb (o':=.lst (xs.eraseIdx j).dropLast) (d':=.lst (ds.eraseIdx j).dropLast) F ⟨_,rfl,qd⟩;refine⟨a,xs,k,j,E,rfl,rfl,w _ _ h3,⊥,⊥,i1,f1,?_⟩;refine⟨.inl ⟨rfl,xs.eraseIdx j,gr.of aE⟩,a,xs.eraseIdx j,C,rfl,rfl,aE,f2,by rw[XB];simp,fun p S=>?_⟩;have hpa:p≠a:=fun z=>by rw[z,aE]at S;cases S
        have T:=I4.new S;have s5:=bR S<|.tup [s,E,C];have I5:=I4.mono s5;have m4:aj #[8] #[21]=aj #[8] H2:=(iR hm).trans m3;have A:∀{d v},bQ W.K (aj #[8] H2) d v->bQ W.K (aj #[8]<|br #[21] p<|.tup [s,E,C]) d v:=fun h=>bQ.mono (aA s5) (by rw[m4];exact h);have P:∀{d v},ay W.K (aj #[8] H2) d v->ay W.K (aj #[8]<|br #[21] p<|.tup [s,E,C]) d v:=fun h=>ay.mono (aA s5) (by rw[m4];exact h);refine⟨a,(xs.eraseIdx j).dropLast,.ref p,rfl,rfl,?_,?_,?_⟩
        .rw[aG<|Vn hpa];exact aE
        .have:=ck
         rw[PF,List.length_eraseIdx,SI i2];omega
        .have hT:bQ W.K (aj #[8]<|br #[21] p<|.tup [s,E,C]) (.tup [d,r,n])<|.ref p:=
          ⟨p,[s,E,C],rfl,.inl<|.inl<|by rw[av T];exact aE,ay.cons (A<|d1.mono<|aA s2)<|ay.cons (A g1)<|ay.cons (A g2) ay.nil⟩
         have I6:=I5.kb (o':=.lst<|(xs.eraseIdx j).dropLast++[.ref p]) (d':=.lst<|(ds.eraseIdx j).dropLast++[.tup [d,r,n]]) F ⟨_,rfl,(P M.dropLast).append<|ay.cons hT ay.nil⟩;rw[Bh,Bh]at I6;exact b own Z _ I6
       .right;exact b.elim
   |_=>exact b.elim
  |_=>mleft
end
def tab_of{P:Str->D->Prop}:∀{tab:List<|Str×D},(∀p∈tab,P p.1 p.2)->∀{y:Str}{d:D},tab.lookup y=J d->P y d:=@TB _ _ (@fun _ _ _ e=>by cases e) fun p r i_=>@fun h y d e=>by
  rw[We]at e;cases hb:y==p.1 with
  |true=>
   rw[hb]at e;have e:J p.2=J d:=e;cases e
   have:y=p.1:=eq_of_beq hb
   rw[this];exact h p Up
  |false=>rw[hb]at e;exact i_ (fun q a=>h q<|ie _ a) e
def T8.void{K:aT}:T8 P w K mg base lD k f fd ps<|rj K mg fun _=>.no:=
 ⟨by intro vs H Q E q0_;refine Tw q0_ fun _ _ _ _ h=>?_;exact h.elim,by intro A outer s H args us vs Q E hr e0 hb r q1_;refine Tw q1_ fun _ _ _ _ h=>?_;mleft⟩
section
variable{X:Cx}{W:Wd}{Ob O:Ru}{e f:Ry}{ε φ ψ:FE}{pos p1 p2 apos cpos:Pos}{x:Str}
def Rq(K:aT)(k:i∈O)(g:X.mg "tuple"=U)(n:X.N[i]?=J x<|>Rv)(j:Gl X "tuple"<|>Rv)(f:m6 X.env.scope x<|>uO)(hd:TN x<|>Sm)
  (b:#[2]=η<|>Sm) (p:X.K=K<|>Rv) (s:W.K=K<|>Rv):JE X (.Call (.Name "tuple" p2) [.Name x p1] [] pos)<|tD W O<|aI wf<|ak (ag i) aQ:=
 (BN (HC K p) g sU (bU (jv i n f hd b) eD) j).imp fun Z H Q m=>dQ m fun as0 B own Y I h=>by
  obtain⟨a,ha⟩:=fT I.YU k
  refine US (I.Xf i a ha) fun d o h1 h2 u t=>?_
  show m8 Z[i]? H fun v H1=>xC K [v] H1 Q;rw[h2];have f:ag i Y=.ok d:=by delta ag;rw[h1]
  have h':cP W #[8] H (wf [d]) Q:=by
   have e:aI wf (ak (ag i) aQ) Y=wf [d]:=by delta aI ak aQ;rw[f];rfl
   rw[<-e];exact h
  cases d with
  |lst ds=>
   obtain⟨xs,rfl,q⟩:=t;refine .inl ⟨xs,gr.of u,fun l c=>?_⟩;have r:=I.new c;exact h' _ _ (bR c _) ⟨l,xs,rfl,.inl<|.inl<|by rw[av r];exact aE,q.mono<|aA<|bR c _⟩
  |_=>first|exact t.elim|exact h'.elim
end
end L2
namespace L2
open PySem PySem.Spec PyProof.Rows
section
variable{X:Cx}{W:Wd}{O:Ru}
def Dx(z y:Str):Int:=match jb z y 0 z.length 1 with
 |i::_=>(i:Int)
 |[]=>-1
def ahc:Oj X "str.find"<|VH fun x y=>.int<|Dx x y:=by
 intro aa s Z H z t xs us Q I r h;unfold VH at h;cbv
 .obtain⟨u,rfl,t',rfl⟩:=jV r;exact call_gives OV (typeIs_str _ _ _) PySem.F.entry_str_find (PySem.F.args_str_find_2 _ _) (gives_str_find z _ t t') ⟨.int _,H,I.tok _,⟨_,rfl⟩,h⟩
 .mleft
end
end L2
namespace L2
open PySem PySem.Spec PyProof.Rows
end L2
namespace L2
open PySem PySem.Spec PyProof.Rows
section
variable{X:Cx}{W:Wd}{O:Ru}{tg:Ry}
def EE:Rx->R (Rx)
 |[.int i,.int j]=>if -(2^62)<=i/\i<2^62/\-(2^62)<=j/\j<2^62 then .ok (aW i (j-i).toNat)else .no
 |_=>.no
def t9(α:FA):FA:=fun Y=>(α Y).bind EE
def agb{p pos:Pos}(g:X.mg "range"=U)(e:JA X [a,b]<|zx W O α)(f:Gl X "range"<|>Rv)(hs:starEach [a,b] X.env=[(η,eval a X.env),(η,eval b X.env)]<|>Rv)(c:starEach [b] X.env=[(η,eval b X.env)]<|>Rv):JI X tg (.Call (.Name "range" p) [a,b] [] pos)<|iD W O<|t9 α:=
 (⟨agd f g e.out hs c⟩:JI X tg (.Call (.Name "range" p) [a,b] [] pos)<|Ud<|zx W O α).imp fun Z H Q q0_=>y8 q0_ fun as0 B own Y I h=>
 ⟨as0,B,own,Y,I,qo h fun ds vs H' s d h'=>by
  unfold EE at h';split at h'
  .obtain⟨v,r,rfl,d1,v2,r2,rfl,d2,d3⟩:=d;cases d1;cases d2;cases d3;split at h'
   .rename_i hj;exact⟨_,_,rfl,hj,h' _ H' #[23]<|wV _ _⟩
   .exact h'.elim
  .exact h'.elim⟩
variable{apos cpos:Pos}
end
end L2
namespace L2
open PySem PySem.Spec PyProof.Rows
structure Nw(X:Cx)(aa:TQ)(b:SA):Prop where
 base:X.s₀.heap.get? b=U
 loc:b≠X.env.locals
 fs:b∉X.fs
 cell:∀x c,X.env.cells.lookup x=J c->c≠b
 pin:∀p∈X.pn++aa,p.1≠b
section
variable{Z:St}
def Nw.new(I:Inv X aa Z H s){b:SA}(a:s.heap.objs.size<=b):Nw X aa b:=by
 obtain⟨_,e,d,_,f,c⟩:=I.zT a<|I.Su.fresh a;exact⟨(fun k=>Pt k)<|RW I.sz a,e,d,f,c⟩
def qQ(X:Cx):Prop:=∀b∈X.ex,∃o,(b,o)∈X.pn
def Nw.gone(I:Inv X aa Z H s)(h:qQ X){b:SA}(d:s.heap.get? b=U):Nw X aa b:=by
 have f:b∉X.ex:=fun z=>by
  obtain⟨o,a⟩:=h b z
  have:=(I.pin (b,o)<|Le _ a).1
  rw[d]at this;cases this
 refine⟨?_,?_,fun z=>?_,fun x c e z=>?_,fun p g z=>?_⟩
 .cases q:X.s₀.heap.get? b with
  |none=>rfl
  |some o=>
   obtain⟨o',e⟩:=I.base.there b o q f;rw[d]at e;cases e
 .intro z;obtain⟨m,⟨o,_,_,a,_⟩,_⟩:=I.loc;rw[<-z,d]at a;cases a
 .obtain⟨_,o,a,_⟩:=I.ok.WE.mem z;obtain⟨o',e⟩:=I.base.there b o a f;rw[d]at e;cases e
 .obtain⟨v,o,a,_⟩:=I.cell x c e;rw[z,d]at a;cases a
 .have:=(I.pin p g).1
  rw[z,d]at this;cases this
def qQ.nil(h:X.ex=[]):qQ X:=fun b z=>by rw[h]at z;cases z
def Nw.less{b:SA}(n:Nw X aa b):Nw X [] b:=⟨n.base,n.loc,n.fs,n.cell,fun p a=>n.pin p (by
 rcases BY.mp a with z|z
 .exact Le _ z
 .cases z)⟩
def Inv.less(I:Inv X aa Z H s):Inv X [] Z H s:=⟨I.ok,I.os,I.bare,I.base,I.loc,I.cell,I.free,I.WZ,fun p a=>I.pin p (by
 rcases BY.mp a with z|z
 .exact Le _ z
 .cases z),I.Su,I.len,I.tk⟩
def Inv.GQ{h':T3}{ch:Sf}(I:Inv X aa Z H s)(f:∀b∈ch,Nw X aa b/\H b=U)
  (k:∀b o,b≠X.env.locals->b∉X.fs->b∉ch->s.heap.get? b=J o->h'.get? b=J o)
  (A:∀b o,b∉ch->s.heap.get? b=J o->∃l,h'.get? b=J {o with slots:=l}):Inv X aa Z H {s with heap:=h'}:=by
 have Q:X.env.locals∉ch:=fun z=>(f _ z).1.loc rfl;have M:∀x c,X.env.cells.lookup x=J c->c∉ch:=fun x c e z=>(f c z).1.cell x c e rfl;have nB:∀b o,X.s₀.heap.get? b=J o->b∉ch:=fun b o e z=>by rw[(f b z).1.base]at e;cases e
 have B:∀b o,X.s₀.heap.get? b=J o->b≠X.env.locals:=fun b o e=>Vd<|Rw (Tn e) I.ok.above;have C:∀b∈X.fs,H b=U:=fun b j=>by
  obtain⟨_,o,y,_⟩:=I.ok.WE.mem j;exact I.base.free b o y (I.ok.XJ.1 b j) fun z=>I.ok.ZR b z j
 have g:∀b u o,H b=J u->s.heap.get? b=J o->h'.get? b=J o:=fun b u o e q=>by
  refine k b o (fun z=>?_) (fun z=>?_) (fun z=>?_) q
  .rw[z,I.free]at e;cases e
  .rw[C b z]at e;cases e
  .rw[(f b z).2]at e;cases e
 have h:∀x c,X.env.cells.lookup x=J c->∀v,s.heap.IsCell c v->h'.IsCell c v:=fun x c e v⟨o,y,hd⟩=>by
  obtain⟨l,q⟩:=A c o (M x c e) y;exact⟨_,q,hd⟩
 refine⟨I.ok,I.os,I.bare,⟨fun b o e n j t=>?_,fun b o e n j t=>?_,I.base.free,fun b o e t=>?_,I.base.xV,I.base.tQ,I.base.b9⟩,?_,fun x c e=>?_,I.free,I.WZ,fun p E=>?_,fun a u e=>?_,I.len,I.tk⟩
 .exact k b o (B b o e) j (nB b o e) (I.base.keep b o e n j t)
 .obtain⟨l,e1⟩:=I.base.slot b o e n j t;obtain⟨D,w⟩:=A b _ (nB b o e) e1;exact⟨D,w⟩
 .obtain⟨o',e1⟩:=I.base.there b o e t;obtain⟨D,w⟩:=A b _ (nB b o e) e1;exact⟨_,w⟩
 .left;obtain⟨m,⟨o,es,O,y,hd,r⟩,P⟩:=I.loc;obtain⟨l,q⟩:=A _ o Q y;right;refine⟨m,⟨_,es,O,q,hd,r⟩,fun i x v e1 w N=>?_⟩;obtain⟨u,r,z⟩:=P i x v e1 w N;refine⟨u,r,?_⟩;rcases z with z|⟨k',c,e,z⟩
  .exact .inl z
  .exact .inr ⟨k',c,e,h x c e _ z⟩
 .obtain⟨v,z⟩:=I.cell x c e;exact⟨v,h x c e v z⟩
 .refine uf (I.pin p E) fun e n F K d=>?_;exact⟨k p.1 p.2 F K (fun z=>(f p.1 z).1.pin p E rfl) e,n,F,K,d⟩
 .refine(I.Su a u e).zY (fun b v j q=>?_) (fun _ z=>z) fun _ _ z=>z;rcases j with z|z
  .rw[z]at q⊢;exact g a u v e q
  .exact g b _ v z q
def C7(f:Array nE->Array nE)(o:Obj):(oK f o).dict=o.dict:=by
 delta oK;split<;>rfl
def Ms:Str:="BadLog"
structure ExcAt(X:Cx)(aa:TQ)(H:Hp)(h:T3)(x C:SA)(fl:Option nE):Prop where
 nx:Nw X aa x
 hx:H x=U
 ob:∃oe vs,h.get? x=J oe/\(oe.cls=.ref C/\oe.dict=U)/\oe.data=.fields vs/\(1<vs.size/\(X.mg Ms≠J (.ref C)->vs[2]?=J .none))/\(fl=U->vs[1]?=J .none) /\
  ∀v,fl=J v->∃T oT ts,vs[1]?=J (.ref T)/\Nw X aa T/\H T=U/\T≠x/\h.get? T=J oT/\oT.data=.fields ts/\ts[3]?=J v
def ExcAt.less{h:T3}{x C:SA}{fl:Option nE}(e:ExcAt X aa H h x C fl):ExcAt X [] H h x C fl:=by
 refine XX e.ob fun i vs h1 h2 j g d f=>?_;exact⟨e.nx.less,e.hx,i,vs,h1,h2,j,g,d,fun v z=>let⟨T,oT,ts,a,b,c⟩:=f v z;⟨T,oT,ts,a,b.less,c⟩⟩
def jL{A:Tx}{E:UB}{Q:Unit->ID->Prop}{x C:SA}{v:nE}(I:Inv X aa Z H s)(e:ExcAt X aa H s.heap x C<|J v)(f:Option SA)
  (q:∀h',Inv X aa Z H {s with heap:=h'}->ExcAt X aa H h' x C (J<|f.elim .none fun a=>Xb a)->Q () {s with heap:=h'}):SN #[0] A (setFlight (.ref x) f) Q E s:=by
 left;refine XX e.ob fun p vs h1 h2 n t _ u=>?_;refine rA (u v rfl) fun T oT F l k j r m g D=>?_;right;have i:3<F.size:=(LN.mp D).1;delta setFlight;refine iF<|Wo h1 n l ?_;have h:(WU T != Yk)=G:=by rfl
 rw[SI h];refine mV m g i ?_;generalize M:(f.elim Yk fun a=>Xb a)=nv at q;have B:=mR (oK (·.setIfInBounds 3 nv)) m<|k9<|yY g _;have c:∀b o,b≠T->s.heap.get? b=J o->(s.heap.update T<|oK (·.setIfInBounds 3 nv)).get? b=J o:=fun b o d z=>by
  rw[hY _ _<|Vn d];exact z
 refine q _ (I.GQ (ch:=[T]) (fun b d=>?_) (fun b o _ _ d z=>c b o (fun y=>d<|by simp[y]) z) fun b o d z=>⟨o.slots,c b o (fun y=>d<|by simp[y]) z⟩) ⟨e.nx,e.hx,p,vs,c x p (Vn r) h1,h2,n,t,fun z=>(by cases z),fun K z=>?_⟩
 .rw[IF.mp d];exact⟨k,j⟩
 .cases z;exact⟨T,_,_,l,k,j,r,B,yY g _,by simp[i]⟩
def DD{M:Model}{A:Tx}{E:UB}{s:ID}{d:T3}{e1 a:Env}{os:List Env}{Lq0:SA}{Q:UB}(k1:A.frames=J (e1::os))(k2:s.heap.FunFrames d<|e1::os)(k3:e1.frame=J Lq0)(k4:a.frame=J Lq0)
  (k5:∀g,Heap.SlotsOnly ((e1::os).filterMap (·.frame)) s.heap g->Q (.ref Lq0) {s with heap:=g}):SN M A (PySem.frameOf a) Q E s:=by
 have c:((e1::os).dropWhile fun y=>y.frame != a.frame)=e1::os:=by simp[List.dropWhile,k3,k4]
 delta PySem.frameOf;refine iF<|wpAny_frameEnvs k1 ?_;rw[c];delta frameObject;refine iF<|iF<|wpAny_readyFrames_fun k2 fun g b=>U4 ?_;rw[k3];exact U4<|k5 g b
def uF{A:Tx}{E:UB}{Q:Unit->ID->Prop}{x C:SA}{fl:Option nE}{hd:nE}{hn:Bool}{N:Env}(n:N.frame=J X.env.locals)(m:A.frames=J (X.env::X.outer))(p:X.stack=X.env::X.outer)(S:X.env.frame=J X.env.locals)
  (I:Inv X aa Z H s) (e:ExcAt X aa H s.heap x C fl)
  (q:∀h',Inv X aa Z H {s with heap:=h'}->ExcAt X aa H h' x C (J<|Xb X.env.locals)->Q () {s with heap:=h'}):
  SN #[0] A (do let a <-frameOf N;let pl <-entryPlaceOf X.env.locals hn;let b <-Q1 hd a .none (Xb X.env.locals) .none pl;setField (.ref x) 1 b) Q E s:=by
 left;refine XX e.ob fun oe vs h1 h2 t j _ _=>?_;right;have F:s.heap.FunFrames X.base<|X.env::X.outer:=by rw[<-p];exact I.stack
 have d:∀b,b∈(X.env::X.outer).filterMap (·.frame)->b=X.env.locals\/b∈X.fs:=fun b c=>by
  rw[AC,S]at c;rcases eQ.mp c with z|z
  .exact .inl z
  .exact .inr z
 have M:x∉(X.env::X.outer).filterMap (·.frame):=fun z=>(d x z).elim e.nx.loc e.nx.fs;refine iF<|DD m F S n fun g T=>?_;obtain⟨g1,g2,g3⟩:=T;refine iF<|wpAny_entryPlaceOf fun pl B=>?_;delta Q1 newFields;refine iF<|tU ?_<|B.sizeOk5 _ _ _ _ _;generalize k:([hd,.ref X.env.locals,.none,Xb X.env.locals,.none]++(if pl.isEmpty then Ut 6 Yk else pl))=ts;have t3:ts[3]?=J (Xb X.env.locals):=by rw[<-k];rfl
 have P:g.get? x=J oe:=(g2 x M).trans h1;generalize D:({cls:=.type "traceback",dict:=U,data:=.fields ts.toArray}:Obj)=tob;have i:tob.data=.fields ts.toArray:=by rw[<-D]
 have u:tob.isFreed=η:=k9 i;have R:=iN (h:=g) tob P;refine mV R t j.1 ?_;have sz:g.objs.size=s.heap.objs.size:=g1;have O:x≠g.objs.size:=Vd<|Tn P;have V:=mR (oK (·.setIfInBounds 1 (WU g.objs.size))) R<|k9<|yY t _;have tg:((g.push tob).update x<|oK (·.setIfInBounds 1 (WU g.objs.size))).get? g.objs.size=J tob:=by
  rw[hY _ _ O];exact Vh _ u
 have f:∀b o,b≠x->g.get? b=J o->((g.push tob).update x<|oK (·.setIfInBounds 1 (WU g.objs.size))).get? b=J o:=fun b o c z=>by
  rw[hY _ _<|Vn c];exact iN _ z
 have W:=I.GQ (ch:=[x]) (h':=(g.push tob).update x<|oK (·.setIfInBounds 1 (WU g.objs.size))) (fun b c=>by rw[IF.mp c];exact⟨e.nx,e.hx⟩)
  (fun b o c K r z=>f b o (fun y=>r<|by simp[y])<|(g2 b fun y=>(d b y).elim c K).trans z)
  (fun b o r z=>by
   obtain⟨l,y⟩:=g3 b o z;exact⟨l,f b _ (fun y=>r (by simp[y])) y⟩)
 have nt:Nw X aa g.objs.size:=Nw.new I (by rw[sz];exact mK _);exact q _ W ⟨e.nx,e.hx,_,_,V,⟨(Obj.cls_mapFields _ _).trans h2.1,(C7 _ _).trans h2.2⟩,yY t _,⟨by simp;exact j.1,fun z=>by simp;exact j.2 z⟩,fun z=>(by cases z),fun v z=>by
  cases z;exact⟨g.objs.size,tob,ts.toArray,by simp[j.1],nt,I.Su.fresh (by rw[sz];exact mK _),Vn O,tg,i,by simpa using t3⟩⟩
theorem rV{A:Tx}{E:UB}{Q:Unit->ID->Prop}{x C:SA}{fl:Option nE}{p:Env}(a:p.frame=J X.env.locals)(f:A.frames=J (X.env::X.outer))(g:X.stack=X.env::X.outer)(B:X.env.frame=J X.env.locals)
  (I:Inv X aa Z H s) (e:ExcAt X aa H s.heap x C fl)
  (q:∀h',Inv X aa Z H {s with heap:=h'}->ExcAt X aa H h' x C (J<|Xb X.env.locals)->Q () {s with heap:=h'}):SN #[0] A (noteFrame (.ref x) p) Q E s:=by
 refine XX e.ob fun D vs h1 h2 j M P N=>?_;cases fl with
 |none=>
  delta noteFrame;rw[a];refine iF<|Wo h1 j (P rfl) ?_;rw[SM<|∎];exact uF a f g B I e q
 |some v=>
  refine rA (N _ rfl) fun T oT R n u t F i h m=>?_;by_cases K:v=Xb X.env.locals
  .subst K;exact wpAny_noteFrame_inFlight a h1 j n i h m<|q s.heap I e
  .delta noteFrame;rw[a];refine iF<|Wo h1 j n ?_;have k:(WU T != Yk)=G:=by rfl
   rw[SI k];refine iF<|Wo i h m ?_;have l:¬((v==Xb X.env.locals)=G):=fun z=>K<|beq_iff_eq.mp z;rw[SM l];have r:3<R.size:=(LN.mp m).1;refine iF<|mV i h r ?_;have O:=mR (oK (·.setIfInBounds 3 Yk)) i<|k9<|yY h _;have c:∀b o,b≠T->s.heap.get? b=J o->(s.heap.update T<|oK (·.setIfInBounds 3 Yk)).get? b=J o:=fun b o d z=>by
    rw[hY _ _<|Vn d];exact z
   refine uF (fl:=J .none) a f g B (I.GQ (ch:=[T]) (fun b d=>?_) (fun b o _ _ d z=>c b o (fun y=>d<|by simp[y]) z) fun b o d z=>⟨o.slots,c b o (fun y=>d<|by simp[y]) z⟩) ⟨e.nx,e.hx,D,vs,c x D (Vn F) h1,h2,j,M,fun z=>(by cases z),fun S z=>?_⟩ q
   .rw[IF.mp d];exact⟨u,t⟩
   .cases z;exact⟨T,_,_,n,u,t,F,O,yY h _,by simp[r]⟩
end
def XE(X:Cx)(E:XK)(e:nE)(s':ID):Prop:=∃Z H x C fl,e=.ref x/\Inv X [] Z H s'/\ExcAt X [] H s'.heap x C fl/\E (.ref x) (J C) H
def ZZ(mg:Sq)(c h:T3)(H:Hp)(x C:SA):Prop:=c.get? x=U/\H x=U/\∃a vs,h.get? x=J a/\(a.cls=.ref C/\a.dict=U)/\a.data=.fields vs/\(1<vs.size/\(mg Ms≠J (.ref C)->vs[2]?=J .none)) /\
 ∃T oT b,vs[1]?=J (.ref T)/\c.get? T=U/\H T=U/\T≠x/\h.get? T=J oT/\oT.data=.fields b/\b[3]?=J Yk
def oI(P:Tc)(w:Sl)(mg:Sq):Ee:=fun a H s E e s'=>∃x C H',e=.ref x/\s'.os=s.os/\AllBare s'.gens/\Un (Ec a) [] H H' s.heap s'.heap/\nW P w H' s'.heap/\ZZ mg s.heap s'.heap H' x C/\E (.ref x) (J C) H'
section
variable{P:Tc}{w:Sl}{K:aT}{mg:Sq}{base:T3}
def tm{X:Cx}{E:XK}{e:nE}{s':ID}(b:X.stack=X.env::X.outer)(g:X.env.frame=J X.env.locals)(hx:X.ex=[])(h:XE X E e s'):
  SN #[0] X.A (leaving X.env e) (fun _ a=>oI X.prog X.w X.mg X.outer X.H₀ X.s₀ E e a) (fun k a=>oI X.prog X.w X.mg X.outer X.H₀ X.s₀ E k a) s':=by
 left;refine gU h fun Z H' x C fl v I i m=>?_;subst v;right;have d:X.A.frames=J (X.env::X.outer):=by rw[<-b];exact I.ok.frames
 delta leaving;refine iF<|rV g d b g I i fun h1 j e1=>?_;refine jL j e1 U fun h2 c f=>?_;left;refine XX f.ob fun s vs q p o t _ l=>?_;refine c7 (l _ rfl) fun T oT u b1 b2 n r=>?_;right;have un:=c.base;rw[hx]at un;exact⟨x,C,H',rfl,c.os,c.bare,un,c.Su,⟨f.nx.base,f.hx,s,vs,q,p,o,t,T,oT,u,b1,b2.base,n,r⟩,m⟩
noncomputable abbrev Cx.may(X:Cx)(E:XK):Cx:=X.Td<|XE X E
def Qu{k:Nat}{f:SA}{name a:Str}{c:Arguments}{g:List SU}{scope:Scope}{n kV i p d o y:nE}{r x:Option SA}
  {l:Array<|Option nE} {N ps:SH} {sp:Sp} (lk:K.lookup f=J ⟨y,x,.func<|Wk name a c g scope n kV i p r d o,l⟩) (j:uz K d a=G) (S:Vr N ps scope)
  (len:∀vs H Q E,sp vs H Q E->vs.length=ps.length)
  (h:∀(A:Tx)(b:List Env)(s:ID)(H:Hp)(vs:Se)(Q:VK)(E:XK),TZ k (A.deeper<|W7 a scope s.heap.objs.size f d)->sp vs H Q E ->
   ∃t,IR ((gw (oI P w mg) P w K mg base N a scope f d A b s H E).may E) g t/\t {nx:=fun _ H'=>Q .S9 H',rt:=Q} (start N vs) H):
  T8 P w K mg base (oI P w mg) (k+1) f (Wk name a c g scope n kV i p r d o) ps sp:=by
 refine NP lk j S len fun A b s H vs Q E u m=>?_;obtain⟨t,h1,h2⟩:=h A b s H vs Q E u m;exact⟨t,fun aa v Z H1 D I hw=>UE (h1 aa v Z H1 D (I.Td _) hw) (fun _ _ q=>q.Ul) fun e B z=>tm (X:=gw (oI P w mg) P w K mg base N a scope f d A b s H E) rfl rfl rfl z,h2⟩
def Ln{k:Nat}{f:SA}{name a:Str}{c:Arguments}{g:List SU}{scope:Scope}{p kV i u d r F:nE}{v C:Option SA}
  {m:Array<|Option nE} {N ps:SH} {sp:Sp} (lk:K.lookup f=J ⟨F,C,.func<|Wk name a c g scope p kV i u v d r,m⟩) (j:uz K d a=G) (S:Vr N ps scope)
  {o:Str} {pr:SH} (y:ps=o::pr) (l:scope.names.lookup o=J .local) (len:∀vs H Q E,sp vs H Q E->vs.length=ps.length)
  (h:∀(A:Tx)(b:List Env)(s:ID)(H:Hp)(vs:Se)(Q:VK)(E:XK),TZ k (A.deeper<|W7 a scope s.heap.objs.size f d)->sp vs H Q E ->
   ∃t,IR (((gw (oI P w mg) P w K mg base N a scope f d A b s H E).up 1).may E) g t/\t {nx:=fun _ H'=>Q .S9 H',rt:=Q} (start N vs) H):
  T8 P w K mg base (oI P w mg) (k+1) f (Wk name a c g scope p kV i u v d r) ps sp:=by
 refine HH lk j S y l len fun A b s H vs Q E x n=>?_;obtain⟨t,h1,h2⟩:=h A b s H vs Q E x n;exact⟨t,fun aa B Z H1 D I hw=>UE (h1 aa B Z H1 D (I.Td _) hw) (fun _ _ q=>q.Ul) fun e M z=>tm (X:=(gw (oI P w mg) P w K mg base N a scope f d A b s H E).up 1) rfl rfl rfl z,h2⟩
end
section
variable{X:Cx}{aa:TQ}{Z:St}{H:Hp}{s s':ID}{E:XK}{e:nE}
theorem KL{k:Nat}{f:SA}{fd:Wj}{ps:SH}{sp:Sp}{Q:VK}{us:TK}{vs:Se}(F:T8 X.prog X.w X.K X.mg X.base (oI X.prog X.w X.mg) k f fd ps sp)(g:TZ k X.A)(l:cf X.K fd ps [])
  {d:UB} (i:∀e s',X.tn<=s'.toks->oI X.prog X.w X.mg X.stack H s E e s'->d e s') (I:Inv X aa Z H s) (r:aU vs us) (h:sp vs H Q E):SN #[0] X.A (call (.ref f) us) (EP X aa Z Q) d s:=by
 have j:(us++[]).length=ps.length:=by rw[Wz,<-r.length];exact F.len _ _ _ _ h
 have b:=l s us I.U3 j;rw[Wz]at b;refine wpAny_call<|dk I.tk<|eo (F.run X.A X.stack s H ⟨us,[]⟩ us vs Q E g I.v8 b r h) fun r s' a c=>?_;cases r with
 |error e=>exact i e s' c a
 |ok fl=>
  cases fl with
  |ret u=>exact I.after a
  |next=>exact a.elim
  |brk=>exact a.elim
  |cont=>exact a.elim
end
section
variable{X:Cx}{E:XK}
def Lm{K:aT}{h:T3}{C:SA}{d:TK}{a:String}(f:K.In h)(q:ek K C d a=G):
  ∃bm N nm qn bs hdct sn sub ab col dd k0 k1 k2 k3 k5 mN,h.get? C=J (excClassObj nm qn C N bs bm hdct sn sub ab col dd k0 k1 k2 k3 k5 a)/\h.Ns N mN/\mN "__init__"=U/\OwnTail h d bm:=by
 delta ek at q;split at q
 .rename_i dd cd sl ho;split at q
  .rename_i C' bm k0 k1 k2 k3 n k5 hm hs;simp only[oR,beq_iff_eq,Yl]at q;left;obtain⟨⟨⟨⟨⟨e1,j⟩,b⟩,i⟩,c⟩,e⟩:=q;subst e1 j;cases cd;right;dsimp only at hm b c e;subst hm b;have g:sl=⟨[k0,k1,k2,k3,J<|.builtin n,k5]⟩:=by rw[<-hs]
   subst g;exact⟨bm,_,_,_,_,_,_,_,_,_,dd,k0,k1,k2,k3,k5,_,f _ _ ho,.of_isNs<|PySem.W.isNs_of_in f c,PySem.W.nsMap_none_of_in f c e,PySem.W.tail_of_in f i⟩
  .cases q
 .cases q
abbrev Gj:TK:=[.type "ValueError",.type "Exception",.type "BaseException",.type "object"]
def ZB(C:SA)(E:XK)(t:TA):TS:=fun _ Z H=>t Z H fun vs H1=>vs.length<=10/\∀x,E (.ref x) (J C) H1
def DH{j:Str}{C:SA}{S cpos pos:Pos}{a:Ry}{as:List Ry}{t:TA}(A:X.mg j=J (.ref C))(M:ek X.K C Gj "ValueError.__new__"=G)(R:X.calm=G)(Q:qQ X)(T:PA (X.may E) (a::as) t)
  (F:Gl X j) (n:(j==#[20])=η) (h1:(a::as).all al=G):PS (X.may E) (.Raise (J<|.Call (.Name j S) (a::as) [] cpos) U pos)<|ZB C E t:=by
 intro aa s Z H D I h;have V:al a=G:=by simp only[Vg,oR]at h1;exact h1.1
 have W:as.all al=G:=by simp only[Vg,oR]at h1;exact h1.2
 left;obtain⟨bm,N,nm,qn,bs,hdct,sn,sub,ab,col,dd,k0,k1,k2,k3,k5,mN,O,P,m,w⟩:=Lm I.ok.mod.XM M;right;have p:∀{i:ID}{l:St}{g:Hp},Inv (X.may E) aa l g i->∀b o,X.base.get? b=J o->i.heap.get? b=J o:=fun d b o e=>(d.bs b o e).1;refine wpAny_Raise_call_subU (C:=C) (nm:=nm) (q:=qn) (N:=N) (bs:=bs) (bm:=bm) (hdct:=hdct) (sn:=sn) (sub:=sub) (ab:=ab) (col:=col) (dd:=dd) (k0:=k0) (k1:=k1) (k2:=k2) (k3:=k3) (k5:=k5) (mN:=mN)
  x6 ⊤ x6 (w.hasType x6.hasBase) (I.ok.hd R) (bH h1) m (dD I F A ⟨rfl,?_⟩ n)
 have hs:=T cpos aa s Z H _ I h;rw[bC V]at hs⊢;refine sE<|UE hs (fun us i q_=>US q_ fun vs g I2 r2 hl hE=>?_) fun _ _ z=>z;refine⟨rfl,?_,p I2 _ _ O,P.keeps<|p I2,w.keeps<|p I2,fun h' x k=>?_⟩
 .show us.length<=Ta;rw[<-r2.length,XB];exact RW hl ∅
 .have d:=I2.Ul;have y:Inv X aa Z g {i with heap:=h'}:=d.kept (t':=i.toks) fun b o e=>k.keeps b o e;refine gL k.there fun tp B _ _=>?_;have f:g x=U:=by
   cases q:g x with
   |none=>rfl
   |some u=>
    have c:=d.Su x u q;obtain⟨o,r⟩:∃o,i.heap.get? x=J o:=by
     cases u<;>first
      |(obtain⟨_,_,_,_,e⟩:=c;exact⟨_,e⟩)
      |(obtain⟨_,_,_,o,e,_⟩:=c;exact⟨o,e⟩)
      |(obtain⟨_,_,_,_,o,_,_,e,_⟩:=c;exact⟨o,e⟩)
      |(refine y8 c fun o _ _ _ e _=>?_;exact⟨o,e⟩)
      |(refine uf c fun _ _ _ e _=>?_;exact⟨_,e⟩)
      |(obtain⟨o,e⟩:=c;exact⟨o,e⟩)
      |(obtain⟨_,⟨o,_,_,e,_⟩,_⟩:=c;exact⟨o,e⟩)
      |(obtain⟨_,_,_,e⟩:=c;exact⟨_,e⟩)
      |(obtain⟨e,_⟩:=c;exact⟨_,e⟩)
      |exact⟨_,c⟩
      |(obtain⟨_,e,_⟩:=c;exact⟨_,e⟩)
      |(obtain⟨_,⟨o,e⟩,_⟩:=c;exact⟨o,e⟩)
    rw[k.new]at r;cases r
  exact⟨Z,g,x,C,U,rfl,y.less,⟨(Nw.gone d Q k.new).less,f,_,_,B,⟨rfl,rfl⟩,rfl,⟨∅,fun _=>rfl⟩,fun _=>rfl,fun v z=>(by cases z)⟩,hE x⟩
end
def spX(K:aT)(mg:Sq)(F:Rx->R D):Sp:=fun vs H Q E=>∃as ds,(∀a∈as,H a≠U)/\ay K (aj as H) ds vs/\cP ⟨K,mg,E⟩ as H (F ds) Q
section
variable{P:Tc}{w:Sl}{K:aT}{mg:Sq}{base:T3}
def Kh{φ:FS}{N ps:SH}{O':Ru}{vs:Se}{H:Hp}{Q:VK}{E:XK}(h:spX K mg (gx φ N ps) vs H Q E):sD ⟨K,mg,E⟩ [] [] O' φ {nx:=fun _ H'=>Q .S9 H',rt:=Q} (start N vs) H:=by
 obtain⟨as,ds,ex,b,h⟩:=h;delta gx at h;cbv
 .rename_i hl;refine⟨as,H,[],gd N ds,⟨?_,rfl,Yv,Yv,fun a g=>(nomatch g),ex,ah.refl _,fun i d _ e=>?_,fun i a h=>(by simp at h)⟩,?_⟩
  .delta gd start;simp[b.len]
  .unfold gd at e;delta start;rw[<-b.len];exact mZ b e
  .cases hr:φ (gd N ds)with
   |ok fl=>
    rw[hr]at h;cases fl with
    |rt d=>exact fun v H' s c=>h v H' s c
    |rn d=>exact fun p o H' s f e j=>h (.ref p) H' s<|j.den (fun z=>ex p z f) e
    |nx Y=>exact fun own Z H' I=>h .S9 H' I.same rfl
    |bk Y=>mleft
    |ct Y=>mleft
   |er x=>rw[hr]at h;exact fun e C H' s=>h e C H' s
   |no=>rw[hr]at h;mleft
 .mleft
end
section
variable{X:Cx}{W:Wd}{O:Ru}{φ:FE}
def tFs(c:Str)(ta:TE):TE:=fun Z H Q=>ta Z H fun v H1=>∃z,v=.str z/\c.length+10*z.length+2<=1000000/\(∀k∈z.cps.toList,k<16^8)/\Q (.str<|c++reprText z) H1
def empty_app(c:Str):qT++c=c:=by
 obtain⟨a⟩:=c;show(⟨#[]++a⟩:Str)=⟨a⟩;simp
def J7{c:Str}{j:Nat}{p1 p2 pos:Pos}{a:Ry}{ta:TE}(r:PE X a ta)(i:c.length<=1000):PE X (.JoinedStr [.Constant (.str c) j p1,.FormattedValue a 114 U p2] pos)<|tFs c ta:=by
 intro aa s Z H Q I h;refine wpAny_JoinedStr ?_;refine mO (k:=j) (pos:=p1) ⟨c,s.toks,rfl,?_,?_⟩
 .rw[empty_app,XB];exact RW i ∅
 have m:Inv X aa Z H {s with toks:=s.toks+1}:=I.tok<|s.toks+1;refine wpAny_FormattedValue_repr<|bP (r aa _ Z H _ m h) fun v d o=>jZ o fun x H1 f r1 q1=>?_;obtain⟨z,rfl,w,p,q⟩:=q1;obtain⟨tk,rfl⟩:=r1;have u:=StrLaws.reprText_len z p;refine wpAny_pyReprObj_str ?_ (by rw[XB];lia);have fin:∀(b:Nat)(g:Tok),X.tn<=b->∃y t,Value.str (reprText z) g=.str y t/\(qT++c++y).length<=Ta/\(qT++c++y).length<=Ta/\EP X aa Z Q (.str (qT++c++y) b) {d with toks:=b+1}:=fun b g n=>by
  have e:qT++c++reprText z=c++reprText z:=by rw[empty_app]
  have l:(qT++c++reprText z).length<=Ta:=by
   rw[e,strLen_append,XB];lia
  exact⟨_,g,rfl,l,l,.str<|c++reprText z,H1,f.tok (b+1)<|nJ n,⟨b,by rw[e]⟩,q⟩
 refine wpAny_formatField_str ?_ ?_ (by rw[XB];lia)
 .exact fin (d.toks+1) d.toks (nJ f.tk)
 .exact fin (d.toks+1+1) (d.toks+1) (nJ<|nJ f.tk)
def rF(c:Str)(φ:FE):FE:=fun Y=>(φ Y).bind fun d=>match d with
 |.str z=>if c.length+10*z.length+2<=1000000/\(∀k∈z.cps.toList,k<16^8)then .ok (.str<|c++reprText z)else .no
 |_=>.no
def Rb{c:Str}{j:Nat}{p1 p2 pos:Pos}{a:Ry}(f:JE X a<|tD W O φ)(b:c.length<=1000:=by trivial):JE X (.JoinedStr [.Constant (.str c) j p1,.FormattedValue a 114 U p2] pos)<|tD W O<|rF c φ:=
 (JE.mk<|J7 (c:=c) (j:=j) (p1:=p1) (p2:=p2) (pos:=pos) f.out b).imp fun Z H Q d=>dQ d fun as0 B own Y I h=>⟨as0,B,own,Y,I,aY h fun x v H1 g e h1=>by
  split at h1
  .subst e;split at h1
   .rename_i hl;exact⟨_,rfl,hl.1,hl.2,ax h1 rfl⟩
   .exact h1.elim
  .exact h1.elim⟩
end
noncomputable abbrev Cx.hand(X:Cx)(e:nE):Cx:={X with A:=X.A.mark<|J e,calm:=η}
section
variable{X:Cx}{aa:TQ}{Z:St}{H:Hp}{s:ID}{e:nE}
def Inv.hand(I:Inv X aa Z H s)(e:nE):Inv (X.hand e) aa Z H s:=
 ⟨⟨I.ok.mod,I.ok.kind,I.ok.glob,I.ok.blt,I.ok.above,I.ok.inj,I.ok.has,I.ok.sY,#[18],I.ok.frames,I.ok.xN,I.ok.x9,I.ok.bs,I.ok.Wq,I.ok.Zo,I.ok.ZR,I.ok.WE,I.ok.XJ⟩,I.os,I.bare,I.base,I.loc,I.cell,I.free,I.WZ,I.pin,I.Su,I.len,I.tk⟩
def Inv.kn(ok:X.Ok)(I:Inv (X.hand e) aa Z H s):Inv X aa Z H s:=⟨ok,I.os,I.bare,I.base,I.loc,I.cell,I.free,I.WZ,I.pin,I.Su,I.len,I.tk⟩
theorem SP.kn(ok:X.Ok){D:Ends}{f:Flow}{s':ID}(h:SP (X.hand e) aa D f s'):SP X aa D f s':=by
 cases f with
 |next=>obtain⟨a,H',I,q⟩:=h;exact⟨a,H',I.kn ok,q⟩
 |brk=>obtain⟨a,H',I,q⟩:=h;exact⟨a,H',I.kn ok,q⟩
 |cont=>obtain⟨a,H',I,q⟩:=h;exact⟨a,H',I.kn ok,q⟩
 |ret u=>obtain⟨v,a,H',I,r,q⟩:=h;exact⟨v,a,H',I.kn ok,r,q⟩
end
section
variable{Z:St}{s:ID}
def ExcAt.inst{h:T3}{y C:SA}{fl:Option nE}(e:ExcAt X aa H h y C fl):∃c,S0 h y c C U:=by
 obtain⟨b,vs,h1,⟨h2,a⟩,d,_⟩:=e.ob;exact⟨b,h1,h2,by delta PySem.W.notCls;rw[d],by rw[a];trivial⟩
end
section
variable{Z:St}
def Cz{E:UB}{fl:Option nE}(c:X.stack=X.env::X.outer)(k:X.env.frame=J X.env.locals)(m:X.mg T=J (.ref CT))(p:Cm X.K (.ref C) (.ref CT)=J G)(o:Gl X T)(i:(T==#[20])=η)
  (I:Inv X aa Z H s) (e:ExcAt X aa H s.heap y C fl)
  (a:∀h' t',Inv X aa Z H {s with heap:=h',toks:=t'}->ExcAt X aa H h' y C (J .none)->SN #[0] (X.A.mark<|J<|.ref y) (execs (b₀::bs) X.env) Q (fun _ _=>False) {s with heap:=h',toks:=t'}):
  SN #[0] X.A (noteFrame (.ref y) X.env) (fun _ d=>SN #[0] X.A (setFlight (.ref y) U) (fun _ b=>SN #[0] X.A (handleBy (.ref y) X.env [.ExceptHandler (J<|.Name T tp) U (b₀::bs) hpos]) Q E b) E d) E s:=by
 have g:X.A.frames=J (X.env::X.outer):=by rw[<-c];exact I.ok.frames
 refine rV k g c k I e fun h1 n e1=>?_;refine jL n e1 U fun h2 h l=>?_;have j:=h.hand<|.ref y;refine wpAny_handleBy_cons (codeAny_handlers_test<|dD j o m ?_ i) (by intro q;cases q);obtain⟨x,v⟩:=l.inst;refine(PySem.W.exm_one (M:=UA X.prog X.w) h.U3 v.type p).at ?_;show qq _ _ _ _ _;refine codeAny_handlers_suite ?_;refine jL (A:=X.A.mark<|J<|.ref y) h l U fun u t r=>?_;exact UE (a u _ t r) (fun f B z=>z) fun _ _ z=>z.elim
end
section
variable{X:Cx}{K:aT}{mg:Sq}{E1:XK}{Ob O O':Ru}{fn:Str}{st:SU}{ps:SH}{f:SA}{fd:Wj}{j k i n:Nat}{F:Rx->R D}{p pos apos xp tp hpos tpos:Pos}{e:Ry}{es:List Ry}{α:FA}{x T nm:Str}{CT:SA}{mt:Str->Bool}
 {b₀:SU} {bs:List SU} {ψ:FS}
def LL(K:aT)(mg:Sq)(mt:Str->Bool)(CT:SA):Prop:=∀x C,mt x=G->mg x=J (.ref C)->DO K By x=J #[14]/\Cm K (.ref C) (.ref CT)=J G
end
abbrev nsC(K:aT)(x:Str)(C:SA):Prop:=DO K By x=J #[14]
section
variable{W:Wd}
def acn{O:Ru}{p:Pos}(b:X.mg x=J (.ref C))(d:nsC W.K x C)(c:Gl X x<|>Rv)(a:TN x<|>Sm):JE X (.Name x p)<|tD W O<|vC<|.cls x:=
 ⟨by intro aa s Z H Q I q0_;refine y8 q0_ fun as0 B own Y _ h=>?_;exact dD I c b ⟨.ref C,H,I,rfl,h _ H #[23] ⟨C,rfl,d⟩⟩ a⟩
end
def JD(l:SH):Str->Bool:=fun x=>decide (x∈l)
def ls(x y:Str):Int:=((jb x y 0 x.length<|x.length+1).length:Nat)
def agG{X:Cx}:Oj X "str.count"<|VH fun x y=>.int<|ls x y:=by
 intro aa s Z H z t xs us Q I r h;unfold VH at h;cbv
 .obtain⟨_,rfl,t',rfl⟩:=jV r;exact call_gives PySem.F.slot_str_count (typeIs_str _ _ _) PySem.F.entry_str_count (PySem.F.args_str_count_2 _ _) (gives_str_count z _ t t') ⟨.int _,H,I.tok _,⟨_,rfl⟩,h⟩
 .mleft
structure X6(k:Nat)(A:Tx):Prop where
 dp:A.depth+3*k+5<tP
 un:A.units+16*k+200<cLine
def X6.mono{j k:Nat}{A:Tx}(r:X6 k A)(h:j<=k):X6 j A:=⟨by have:=r.dp;lia,by have:=r.un;lia⟩
def X6.deeper{k:Nat}{A:Tx}(r:X6 (k+1) A)(env:Env):X6 k<|A.deeper env:=
 ⟨by have:=r.dp;show A.depth+1+3*k+5<_;lia,by have:=r.un;show A.units+3+16*k+200<_;lia⟩
def X6.depth{k:Nat}{A:Tx}(r:X6 k A):A.depth<tP:=by have:=r.dp;lia
theorem TZ.u{k:Nat}{A:Tx}(r:TZ k A)(e:nE):X6 k<|A.mark<|J e:=⟨r.dp,r.un⟩
structure zl(P:Tc)(w:Sl)(K:aT)(mg:Sq)(base:T3)(CX:Ee)(k:Nat)(f:SA)(fd:Wj)(ps:SH)(sp:Sp):Prop where
 len:∀vs H Q E,sp vs H Q E->vs.length=ps.length
 run:∀(A:Tx)(outer:List Env)(s:ID)(H:Hp)(args:Args)(us:TK)(vs:Se)(Q:VK)(E:XK),X6 k A->uG P w K mg base A outer s H->BindsTo s fd args (ps.zip us)->aU vs us->sp vs H Q E ->
  qq (UA P w) A (.call (.ref f) args) (CR CX outer P w H s Q E) s
abbrev VU(CX:Ee)(P:Tc)(w:Sl)(K:aT)(mg:Sq)(base:T3)(N:SH)(b:Str)(scope:Scope)(f:SA)(c:nE)(A:Tx)(a:List Env)(s:ID)(H:Hp)(E:XK):Cx:=
 {gw CX P w K mg base N b scope f c A a s H E with calm:=η}
section
variable{P:Tc}{w:Sl}{K:aT}{mg:Sq}{base:T3}
theorem OG{CX:Ee}{k:Nat}{f:SA}{name d:Str}{i:Arguments}{j:List SU}{scope:Scope}{W kV B pm h X oc:nE}{an od:Option SA}
  {O:Array<|Option nE} {N ps:SH} {sp:Sp} (lk:K.lookup f=J ⟨oc,od,.func<|Wk name d i j scope W kV B pm an h X,O⟩) (D:uz K h d=G) (S:Vr N ps scope)
  (len:∀vs H Q E,sp vs H Q E->vs.length=ps.length)
  (m:∀(A:Tx)(a:List Env)(s:ID)(H:Hp)(vs:Se)(Q:VK)(E:XK),X6 k (A.deeper<|W7 d scope s.heap.objs.size f h)->sp vs H Q E ->
   ∃t,IR (VU CX P w K mg base N d scope f h A a s H E) j t/\t {nx:=fun _ H'=>Q .S9 H',rt:=Q} (start N vs) H):
  zl P w K mg base CX (k+1) f (Wk name d i j scope W kV B pm an h X) ps sp:=by
 refine⟨len,fun A a s H T us vs Q E R e0 hb r C=>?_⟩;have hl:=len _ _ _ _ C;have KX:K.In s.heap:=e0.mod.XM.keeps fun b o e=>(e0.bs b o e).1;have M:s.heap.NoLimit:=e0.mod.nolimit.keeps fun b o e=>(e0.bs b o e).1;have p:∀y∈ps.zip us,scope.names.lookup y.1=J .local\/#[26]:=fun⟨n,v⟩hy=>by
  rcases S.par n (X0 hy).1 with q|q
  .exact .inl q
  .exact .inr ⟨q,tK _ _ _<|.inl q⟩
 refine codeAny_call_function R.depth (KX _ _ lk) rfl S.co S.gen rfl (zh KX D) (hb _ _ _ _ ?_);refine wpAny_newFunctionEnv_cells S.kind p fun env he s1 x=>?_;subst he;refine⟨M.keeps x.toInCall.keep,codeAny_func ?_⟩;obtain⟨t,ht,hq⟩:=m A a s H vs Q E (R.deeper _) C;have e1:uG P w K mg base {A with handled:=U} a s H:=⟨e0.frames,e0.mod,e0.bs,e0.Wq,e0.WE,e0.XJ,e0.Su,e0.bare⟩;have c:Inv (gw CX P w K mg base N d scope f h {A with handled:=U} a s H E) [] (start N vs) H s1:=oQ S rfl e1 hl r x;have I:Inv (VU CX P w K mg base N d scope f h A a s H E) [] (start N vs) H s1:=
  ⟨⟨c.ok.mod,c.ok.kind,c.ok.glob,c.ok.blt,c.ok.above,c.ok.inj,c.ok.has,c.ok.sY,#[18],c.ok.frames,c.ok.xN,c.ok.x9,c.ok.bs,c.ok.Wq,c.ok.Zo,c.ok.ZR,c.ok.WE,c.ok.XJ⟩,c.os,c.bare,c.base,c.loc,c.cell,c.free,c.WZ,c.pin,c.Su,c.len,c.tk⟩
 refine UE (ht [] s1 (start N vs) H _ I hq) (fun fl s' hs=>?_) fun e s' hs=>hs;have fin:∀{l:St}{H':Hp}{v:V}{u:nE},Inv (VU CX P w K mg base N d scope f h A a s H E) [] l H' s'->aP v u->Q v H'->CE a P w H s Q u s':=
  fun{l H' v u}g F q=>⟨v,H',g.os,g.bare,g.base,g.Su,F,q⟩
 cases fl with
 |ret u=>
  refine WM hs fun v l H' g F q=>?_;exact fin g F q
 |next=>
  obtain⟨l,H',g,q⟩:=hs;exact fin (v:=V.S9) (u:=Yk) g rfl q
 |brk=>
  obtain⟨_,_,_,q⟩:=hs;exact Wf q
 |cont=>
  obtain⟨_,_,_,q⟩:=hs;exact Wf q
def UD.okU{x b:Str}{st:SU}{f:SA}{fd:Wj}{N ps:SH}{k:Nat}{φ:FS}{O':Ru}(F:UD K x b st f fd)(S:Vr N ps<|ai st)
  (d:∀(c:nE)(A:Tx)(a:List Env)(s:ID)(H:Hp)(E:XK),X6 k (A.deeper<|W7 b (ai st) s.heap.objs.size f c) ->
   JB (VU lD P w K mg base N b (ai st) f c A a s H E).Xe (bL st) (sD ⟨K,mg,E0⟩ [] [] O' φ)):zl P w K mg base lD (k+1) f fd ps (rj K mg (gx φ N ps)):=by
 left;obtain⟨t,y,kV,l,r,u,c,p,o,rfl,lk,g⟩:=F.ex';right;refine OG lk g S (fun vs H Q E h=>(fun vs H Q E h=>by
   obtain⟨as,ds,ex,n,h⟩:=h;delta gx at h;cbv
   .rename_i hl;rw[<-n.len];exact hl
   .mleft) vs H Q E0 h) fun A a s H vs Q E j i=>⟨_,fun aa m Z H1 D I hw=>?_,Kh (E:=E0) (O':=O') i⟩
 exact UE ((d c A a s H E j).out aa m Z H1 D (I.Td _) hw) (fun _ _ q=>q.Ul) fun e v z=>z.elim
end
section
variable{X:Cx}{K:aT}{mg:Sq}{O:Ru}{x:Str}{st:SU}{ps:SH}{f:SA}{fd:Wj}{j k:Nat}{F:Rx->R D}{p pos:Pos}{e:Ry}{es:List Ry}{α:FA}
theorem LZ{aa:TQ}{Z:St}{H:Hp}{s:ID}{sp:Sp}{Q:VK}{us:TK}{vs:Se}(F:zl X.prog X.w X.K X.mg X.base lD k f fd ps sp)(c:X6 k X.A)(i:cf X.K fd ps [])
  (I:Inv X aa Z H s) (r:aU vs us) (h:sp vs H Q E0):SN #[0] X.A (call (.ref f) us) (EP X aa Z Q) X.xe s:=by
 have g:(us++[]).length=ps.length:=by rw[Wz,<-r.length];exact F.len _ _ _ _ h
 have b:=i s us I.U3 g;rw[Wz]at b;refine wpAny_call<|dk I.tk<|eo (F.run X.A X.stack s H ⟨us,[]⟩ us vs Q E0 c I.v8 b r h) fun r s' a d=>?_;cases r with
 |error e=>exact a.elim
 |ok fl=>
  cases fl with
  |ret u=>exact I.after a
  |next=>exact a.elim
  |brk=>exact a.elim
  |cont=>exact a.elim
def KH(D:Def X.K X.mg x st ps f fd)(SK:zl X.prog X.w X.K X.mg X.base lD j f fd ps<|rj K mg F)(i:X6 k X.A)(t:JA X (e::es)<|zx ⟨K,mg,E0⟩ O α)(u:j<=k<|>Sm)(l:Gl X x<|>Rv)(a:TN x<|>Sm)
  (h1:al e=G<|>Rv) (h2:es.all al=G<|>Rv):JE X #[3]<|tD ⟨K,mg,E0⟩ O<|aI F α:=by
 refine⟨fun aa s Z H Q I y=>y8 y fun as0 B own Y v h=>?_⟩;refine Yr<|dD I l D.m ?_ a;have c:zx ⟨K,mg,E0⟩ O α Z H fun vs H1=>rj K mg F vs H1 Q E0:=⟨as0,B,own,Y,v,e9 h fun ds vs H1 g o h1=>⟨own++as0,ds,(v.mono g).Vq,o,h1⟩⟩;refine yw (h₀:=X.base) I.ok.mod.XM D.F.kp (bP (t.out pos aa s Z H _ I c) fun us g n=>jZ n fun vs H1 d r q=>⟨d.U3,?_⟩) (bC h1)<|bH h2;exact LZ SK (i.mono u) D.b d r q
end
section
variable{X:Cx}{W:Wd}
def Ww(f:Str->Str->Int->V)(z:Str)(xs:Se)(H:Hp)(Q:VK):Prop:=match xs with
 |[.str y,.int i]=>Q (f z y i) H
 |_=>False
noncomputable def QL(f:Str->Str->Int->D)(z:Str)(ds:Rx):R D:=match ds with
 |[.str y,.int i]=>.ok<|f z y i
 |_=>.no
def HV(z y:Str)(i:Int):Bool:=fromIndex z.length i+y.length<=z.length&&Builtin.Str.subAt z y (fromIndex z.length i)
section
variable{X:Cx}{W:Wd}
end
def tq6{f:Str->Str->Int->V}{g:Str->Str->Int->D}(a:∀x y i K H,bQ K H (g x y i)<|f x y i):V7 W (Ww f)<|QL g:=by
 intro as H z xs ds Q e d h;delta QL at h;cbv
 .obtain⟨v,u,rfl,c,b⟩:=BB d;subst c;subst b;exact ax h<|a _ _ _ _ _
 .mleft
section
variable{X:Cx}{W:Wd}
end
end
section
variable{X:Cx}{W:Wd}{Ob O:Ru}{e:Ry}{ε:FE}{pos:Pos}
noncomputable def UG(i:Nat)(Y:Sd)(a:Int)(d:D):R Fl:=match d with
 |.int b=>.ok<|.nx<|Y.set i<|J<|.int<|a+b
 |_=>.no
def lz(i:Nat)(ε:FE):FS:=fun Y=>match Y[i]? with
 |some (J<|.int a)=>(ε Y).bind<|UG i Y a
 |_=>.no
def DZ{pos':Pos}(c:i∉O)(j:X.N.Nodup)(k:Loc X.env.scope x)(l:JE X e<|tD W O ε)(f:X.N[i]?=J x<|>Rv)(m:#[1]<|>XN):
  JS X (.AugAssign (.Name x pos') .Add e pos) (sD W Ob O O<|lz i ε):=
 (JS.mk<|Og j f k l.out (Qx fun _ _ _ _ _ _ _ q=>iadd_int q) m).imp fun D' Z H g=>dQ g fun as0 B own Y I h=>by
  delta lz at h;cbv
  .rename_i a ha;obtain⟨v,hv,dv⟩:=I.var i _ c ha
   subst dv;refine⟨.int a,hv,as0,B,own,Y,I,cO I h fun d v H' s b h'=>?_⟩;unfold UG at h';split at h'
   .subst b;exact⟨_,_,rfl,rfl,h' own _ H'<|(I.mono s).set c rfl⟩
   .exact h'.elim
  .mleft
end
mutual
def Sj:D->Bool
 |.S9=>G
 |.bl _=>G
 |.int _=>G
 |.str _=>G
 |.ty _=>G
 |.tup xs=>JZ xs
 |_=>η
def JZ:Rx->Bool
 |[]=>G
 |d::r=>Sj d&&JZ r
end
def CJ(o:Option HO):Prop:=∀xs,o≠J (.tup xs)/\∀u,o≠J (.WC u<|.tup xs)
section
variable{K:aT}{H:Hp}{as as2:Sf}
mutual
theorem bQ.lend(h:∀b∈as,b∈as2\/CJ (H b)):∀{d:D}{v:V},Sj d=G->bQ K (aj as2 H) d v->bQ K (aj as H) d v
 |.S9,_,_,g=>g
 |.bl _,_,_,g=>g
 |.int _,_,_,g=>g
 |.str _,_,_,g=>g
 |.ty _,_,_,g=>g
 | .tup ds,v,e,⟨a,xs,e1,h1,h2⟩=>⟨a,xs,e1,by
   rcases h1 with h1|h1
   .refine .inl ?_;have c:a∉as2:=fun z=>by rcases h1 with h1|⟨o,h1⟩<;>(rw[bT z]at h1;cases h1)
    have f:a∉as:=fun z=>by
     rcases h a z with q|q
     .exact c q
     .rcases h1 with h1|⟨o,h1⟩
      .rw[av c]at h1;exact(q xs).1 h1
      .rw[av c]at h1;exact(q xs).2 o h1
    rcases h1 with h1|⟨o,h1⟩
    .rw[av c]at h1;exact .inl (by rw[av f];exact h1)
    .rw[av c]at h1;exact .inr ⟨o,by rw[av f];exact h1⟩
   .exact .inr h1,ay.lend h e h2⟩
 |.lst _,_,e,_=>by cases e
 |.Xx _,_,e,_=>by cases e
 |.obj _ _,_,e,_=>by cases e
 |.jT _,_,e,_=>by cases e
 |.cls _,_,e,_=>by cases e
 |.WK _,_,e,_=>by cases e
 |.fu _,_,e,_=>by cases e
theorem ay.lend(h:∀b∈as,b∈as2\/CJ (H b)):∀{ds:Rx}{vs:Se},JZ ds=G->ay K (aj as2 H) ds vs->ay K (aj as H) ds vs
 |[],_,_,g=>g
 |d::ds,_,e,⟨v,vs,e1,h1,h2⟩=>by
  have a:=lB.mp e;exact⟨v,vs,e1,bQ.lend h a.1 h1,ay.lend h a.2 h2⟩
end
end
end L2
namespace L2
open PySem PySem.Spec PyProof.Rows PySem.Builtin PySem.Builtin.Str
end L2
namespace L2
open PySem PySem.Spec PyProof.Rows
theorem qS.look{K:aT}:∀{fs:List<|Str×D}{xs:List<|Str×V}{d:D},qS K H fs xs->fs.lookup f=J d->∃v,xs.lookup f=J v/\bQ K H d v
 |[],_,_,h,e=>by cases e
 |(g,d')::r,_,d,⟨v,vs,e0,h1,h⟩,e=>by
  subst e0;rw[We]at e⊢;cases q:f==g with
  |true=>mright
  |false=>rw[q]at e;exact qS.look h e
noncomputable def Fb(n f:Str)(d:D):R D:=match d with
 |.obj m fs=>if m=n then(match fs.lookup f with
  |some d=>.ok d
  |none=>.no)else .no
 |_=>.no
def iw(n f:Str)(φ:FE):FE:=fun Y=>(φ Y).bind<|Fb n f
section
variable{pos p:Pos}
def Nn(K:aT)(o:DO K By n=J #[14])(l:UR K C)(q:a9 K C f)(r:JE X e<|tD W O φ)(s:WG e f X.env (eval e X.env)=eval e X.env<|>Rv)(k:X.K=K<|>Rv)(b:W.K=K<|>Rv):
  JE X (.Attribute e f pos) (tD W O<|iw n f φ):=
 JE.imp ⟨AO r.out s⟩ fun Z H Q j=>dQ j fun as0 B own Y I h=>⟨as0,B,own,Y,I,aY h fun x v H1 t c h1=>by
  subst k;left;cases x with
  |obj m fs=>
   by_cases e:m=n
   .subst e;delta Fb at h1;dsimp only at h1;rw[SI rfl]at h1;rw[b]at c;obtain⟨a,u,i,xs,rfl,h2,p,g⟩:=c;rw[o]at h2;cases h2;right;cases e2:fs.lookup f with
    |none=>rw[e2]at h1;exact h1.elim
    |some d=>
     rw[e2]at h1;obtain⟨v,q1,q2⟩:=g.look e2
     exact⟨a,C,i,xs,v,rfl,aD _ _ _ _ p,l,q,q1,ax h1<|by rw[b];exact q2⟩
   .right;delta Fb at h1;dsimp only at h1;rw[SM e]at h1;exact h1.elim
  |_=>right;exact h1.elim⟩
end
noncomputable def xO:D->Option (Rx)
 |.WK ds=>J ds
 |_=>U
section
variable(K:aT)(Hm H:Hp)
def iW(d:D)(v:V)(bs c:Sf):Prop:=match xO d with
 |some ds=>∃b ys,bs=b::c/\v=.ref b/\H b=J (.lst ys)/\ay K Hm ds ys
 |none=>bs=c/\bQ K Hm d v
def dR:List (Str×D)->List (Str×V)->Sf->Prop
 |[],xs,bs=>xs=[]/\bs=[]
 |(k,d)::fs,xs,bs=>∃v r c,xs=(k,v)::r/\iW K Hm H d v bs c/\dR fs r c
def vq:D->Sf->Prop
 |.obj x fs,a::bs=>∃C b xs,DO K By x=J #[14]/\H a=J (.ins C b xs)/\dR K Hm H fs xs bs
 |.lst ds,[a]=>∃xs,H a=J (.lst xs)/\ay K Hm ds xs
 |.Xx kvs,[a]=>∃xs,H a=J (.dK xs)/\pK K Hm kvs xs
 |_,_=>False
end
section
variable{K:aT}{Hm Hm' H:Hp}
def iW.mono(s:ah Hm Hm')(h:∀b∈bs,∀o,H b=J o->H' b=J o)(f:iW K Hm H d v bs c):iW K Hm' H' d v bs c:=by
 delta iW at f⊢;split at f
 .obtain⟨b,ys,e,rfl,h1,h2⟩:=f;exact⟨b,ys,e,rfl,h b (by simp[e]) _ h1,h2.mono s⟩
 .exact⟨f.1,f.2.mono s⟩
def iW.sub(f:iW K Hm H d v bs c):∀b∈c,b∈bs:=by
 delta iW at f;split at f
 .obtain⟨b,ys,e,_⟩:=f;intro x a;mright
 mright
theorem dR.mono(s:ah Hm Hm'):∀{fs:List<|Str×D}{xs:List<|Str×V}{bs:Sf},(∀b∈bs,∀o,H b=J o->H' b=J o)->dR K Hm H fs xs bs->dR K Hm' H' fs xs bs
 |[],_,_,_,f=>f
 |(k,d)::fs,_,_,h,⟨v,r,c,e,f1,f2⟩=>⟨v,r,c,e,f1.mono s h,dR.mono s (fun b a=>h b<|f1.sub b a) f2⟩
def vq.mono(s:ah Hm Hm')(h:∀b∈c,∀o,H b=J o->H' b=J o)(f:vq K Hm H d c):vq K Hm' H' d c:=by
 delta vq at f;split at f
 .refine WM f fun C a xs e h1 h2=>?_;exact⟨C,a,xs,e,h _ ∅ _ h1,h2.mono s fun b g=>h b<|ie _ g⟩
 .obtain⟨xs,h1,h2⟩:=f;exact⟨xs,h _ ∅ _ h1,h2.mono s⟩
 .obtain⟨xs,h1,h2⟩:=f;exact⟨xs,h _ ∅ _ h1,h2.mono s⟩
 .exact f.elim
theorem dR.ex:∀{fs:List<|Str×D}{xs:List<|Str×V}{bs:Sf},dR K Hm H fs xs bs->∀b∈bs,∃ys,H b=J (.lst ys)
 |[],_,_,⟨_,e⟩,b,hb=>by subst e;cases hb
 |(k,d)::fs,_,bs,⟨v,r,c,e,f1,f2⟩,b,hb=>by
  delta iW at f1;split at f1
  .obtain⟨f,ys,a,rfl,h1,h2⟩:=f1;rw[a]at hb;rcases eQ.mp hb with rfl|hb
   .exact⟨_,h1⟩
   .exact dR.ex f2 b hb
  .obtain⟨rfl,_⟩:=f1;exact dR.ex f2 b hb
def nM(h:H b=J o)(h1:∀xs,o≠.tup xs)(h2:∀u xs,o≠.WC u (.tup xs)):CJ<|H b:=fun xs=>by
 mright
def vq.at(f:vq K Hm H d c):∀b∈c,H b≠U/\CJ (H b):=by
 delta vq at f;split at f
 .refine WM f fun C g xs h h1 h2=>?_;intro b a;rcases eQ.mp a with rfl|a
  .exact⟨by rw[h1];simp,nM h1 (fun _ e=>nomatch e) fun _ _ e=>nomatch e⟩
  .obtain⟨ys,e⟩:=h2.ex b a;exact⟨by rw[e];simp,nM e (fun _ e=>nomatch e) fun _ _ e=>nomatch e⟩
 .obtain⟨xs,h1,h2⟩:=f;intro b a;rw[IF.mp a];exact⟨by rw[h1];simp,nM h1 (fun _ e=>nomatch e) fun _ _ e=>nomatch e⟩
 .obtain⟨xs,h1,h2⟩:=f;intro b a;rw[IF.mp a];exact⟨by rw[h1];simp,nM h1 (fun _ e=>nomatch e) fun _ _ e=>nomatch e⟩
 .exact f.elim
end
def WJ(d:D):D:=match xO d with
 |some ds=>.lst ds
 |none=>d
def vw:D->D
 |.obj x fs=>.obj x<|fs.map fun p=>(p.1,WJ p.2)
 |d=>d
section
variable{K:aT}
theorem dR.den(s:ah Hm H):∀{fs:List<|Str×D}{xs:List<|Str×V}{bs:Sf},dR K Hm H fs xs bs->qS K H (fs.map fun p=>(p.1,WJ p.2)) xs
 |[],_,_,⟨e,_⟩=>e
 |(k,d)::fs,_,_,⟨v,r,c,e,f1,f2⟩=>⟨v,r,e,by
  delta iW at f1;delta WJ;dsimp only;split at f1
  .obtain⟨b,ys,e,rfl,h1,h2⟩:=f1;exact⟨b,ys,rfl,.inl<|.inl h1,h2.mono s⟩
  .exact f1.2.mono s,dR.den s f2⟩
def vq.den(s:ah Hm H)(f:vq K Hm H d<|a::bs):bQ K H (vw d)<|.ref a:=by
 delta vq at f;split at f
 .obtain⟨C,b,xs,c,h1,h2⟩:=f;rename_i e;cases e;exact⟨_,C,b,xs,rfl,c,h1,h2.den s⟩
 .obtain⟨xs,h1,h2⟩:=f;rename_i e;cases e;exact⟨_,xs,rfl,.inl<|.inl h1,h2.mono s⟩
 .obtain⟨xs,h1,h2⟩:=f;rename_i e;cases e;exact⟨_,xs,rfl,h1,h2.mono s⟩
 .exact f.elim
end
structure MI(K:aT)(as:Sf)(B:Hp)(hs:Sf)(P:Ru)(cl:List (Sf))(Z:St)(Y:Sd)(L:Rx)(H:Hp):Prop where
 len:Y.length=Z.length
 ex:∀a∈as,B a≠U
 sb:ah B H
 fb:∀c∈cl,∀a∈c,B a=U
 nd:∀c∈cl,c.Nodup
 dj:∀(i j:Nat)(c c':Sf)(a:SA),cl[i]?=J c->cl[j]?=J c'->a∈c->a∈c'->i=j
 var:∀(i:Nat)(d:D),Y[i]?=J (J d)->∃v,Z[i]?=J (J v)/\bQ K #[5] d v
 lp:P.length=cl.length
 lm:L.length=cl.length
 ob:∀(k i:Nat)(c:Sf)(d:D),P[k]?=J i->cl[k]?=J c->L[k]?=J d->(∃a r,c=a::r/\Z[i]?=J (J<|.ref a))/\vq K #[5] H d c
 hl:hs.length<=cl.length
 hd:(cl.map vx).drop (cl.length-hs.length)=hs.map J
abbrev Step(as:Sf)(cl:List<|Sf)(H:Hp)(a:List<|Sf)(H':Hp):Prop:=ah #[5]<|aj (a.flatten++as) H'
section
variable{K:aT}{as:Sf}{B:Hp}{hs:Sf}{P:Ru}{cl:List (Sf)}{Z:St}{Y:Sd}{L:Rx}{H H':Hp}
def cH:a∈cl.flatten↔∃(k:Nat)(c:Sf),cl[k]?=J c/\a∈c:=by
 rw[dS];constructor
 .rintro⟨c,h1,h2⟩;obtain⟨k,b⟩:=dZ.mp h1;exact⟨k,c,b,h2⟩
 .rintro⟨k,c,h1,h2⟩;exact⟨c,Do h1,h2⟩
def MI.get{k:Nat}(I:MI K as B hs P cl Z Y L H)(b:cl[k]?=J c):∃i d,P[k]?=J i/\L[k]?=J d/\(∃a r,c=a::r/\Z[i]?=J (J<|.ref a))/\vq K #[5] H d c:=by
 have h1  := (rW.mp b).1;have h2:k<P.length:=by rw[I.lp];exact h1
 have g:k<L.length:=by rw[I.lm];exact h1
 have e:=WT h2;have f:=WT g;exact⟨_,_,e,f,I.ob k _ c _ e b f⟩
def MI.at{k i:Nat}(I:MI K as B hs P cl Z Y L H)(e:P[k]?=J i):∃c d,cl[k]?=J c/\L[k]?=J d/\(∃a r,c=a::r/\Z[i]?=J (J<|.ref a))/\vq K #[5] H d c:=by
 have h1  := (rW.mp e).1;have h2:k<cl.length:=by rw[<-I.lp];exact h1
 have g:k<L.length:=by rw[I.lm];exact h2
 have b:=WT h2;have f:=WT g;exact⟨_,_,b,f,I.ob k i _ _ e b f⟩
def MI.Vq(I:MI K as B hs P cl Z Y L H):∀a∈cl.flatten++as,H a≠U:=fun a f=>by
 rcases BY.mp f with h|h
 .obtain⟨k,c,b,d⟩:=cH.mp h;obtain⟨_,_,_,_,_,q⟩:=I.get b;exact(q.at a d).1
 .cases e:B a with
  |none=>exact absurd e<|I.ex a h
  |some o=>rw[I.sb a o e];simp
def MI.mono(I:MI K as B hs P cl Z Y L H)(s:ah H H'):MI K as B hs P cl Z Y L H' where
 len:=I.len
 ex:=I.ex
 sb:=I.sb.trans s
 fb:=I.fb
 nd:=I.nd
 dj:=I.dj
 var:=fun i d e=>let⟨v,h1,h2⟩:=I.var i d e;⟨v,h1,h2.mono<|aA s⟩
 lp:=I.lp
 lm:=I.lm
 ob:=fun k i c d h1 h2 a=>let⟨q1,q2⟩:=I.ob k i c d h1 h2 a;⟨q1,q2.mono (aA s) fun b _ o e=>s b o e⟩
 hl:=I.hl
 hd:=I.hd
def MI.di(I:MI K as B hs P cl Z Y L H):DI K (cl.flatten++as) H [] [] Z Y H:=DI.plain I.len I.Vq I.var
def fill:Ru->Rx->Sd->Sd
 |i::P,d::L,Y=>(fill P L Y).set i<|J<|vw d
 |_,_,Y=>Y
theorem yu:∀(P:Ru)(L:Rx)(Y:Sd),(fill P L Y).length=Y.length
 |[],_,_=>by rfl
 |_::_,[],_=>by rfl
 |i::P,d::L,Y=>by unfold fill;rw[List.length_set];exact yu P L Y
theorem yI:∀{P:Ru}{L:Rx}{Y:Sd}{i:Nat}{d:D},(fill P L Y)[i]?=J (J d)->Y[i]?=J (J d)\/∃(k:Nat)(d':D),P[k]?=J i/\L[k]?=J d'/\d=vw d'
 |[],_,_,_,_,h=>by exact .inl h
 |_::_,[],_,_,_,h=>by exact .inl h
 |j::P,d'::L,Y,i,d,h=>by
  unfold fill at h;rw[getElem?_set']at h;cbv
  .rename_i e;subst e;cbv
   .nofun;exact .inr ⟨0,d',rfl,rfl,rfl⟩
   .nofun
  .left;rcases yI h with h|⟨k,d2,h1,h2,h3⟩
   .right;exact .inl h
   .right;exact .inr ⟨k+1,d2,h1,h2,h3⟩
def MI.vZ(I:MI K as B hs P cl Z Y L H):DI K as H [] [] Z (fill P L Y) H:=by
 refine DI.plain (by rw[yu];exact I.len) (fun a f=>I.Vq a<|OR _ f) fun i d e=>?_;have s:ah #[5]<|aj as H:=kD fun a f=>OR _ f;rcases yI e with h|⟨k,d',h1,h2,rfl⟩
 .obtain⟨v,q1,q2⟩:=I.var i d h;exact⟨v,q1,q2.mono s⟩
 .obtain⟨c,l,e1,g,⟨a,r,rfl,q1⟩,q2⟩:=I.at h1;rw[h2]at g;cases g;refine⟨_,q1,vq.den s<|q2.mono #[23] fun b j o e=>?_⟩;have  := fun z=>by
   have:=I.fb _ (Do e1) b j
   exact I.ex b z this
  rw[av this];exact e
def MI.flat(I:MI K as B hs P cl Z Y L H)(f:Sj d=G)(h:bQ K (aj as H) d v):bQ K #[5] d v:=
 bQ.lend (fun b g=>by
  rcases BY.mp g with h|h
  .obtain⟨k,c,a,e⟩:=cH.mp h;obtain⟨_,_,_,_,_,q⟩:=I.get a;exact .inr (q.at b e).2
  .exact .inl h) f h
end
inductive RM(α:Type) where
 |ok (a:α) (L:Rx)|er (x:Str) (L:Rx)|no
noncomputable def RM.bind{α β:Type}(r:RM α)(f:α->Rx->RM β):RM β:=match r with
 |.ok a L=>f a L
 |.er x L=>.er x L
 |.no=>.no
abbrev FM:=Sd->Rx->RM D
abbrev lM:=Sd->Rx->RM Bool
inductive AD where
 |pl (d:D)|ob (k:Nat)
abbrev qg:=Sd->Rx->RM (List AD)
abbrev RQ:=SA->SA->St->Hp->Prop
def XS(X:Cx)(E:RQ)(e:nE)(s':ID):Prop:=∃Z H x C fl,e=.ref x/\Inv X [] Z H s'/\ExcAt X [] H s'.heap x C fl/\E x C Z H
noncomputable abbrev Cx.ws(X:Cx)(E:RQ):Cx:=X.Td<|XS X E
structure Ct where
 K:aT
 mg:Str->Option nE
 E:RQ
section
variable(W:Ct)(as:Sf)(B:Hp)(hs:Sf)(P:Ru)
def qU{α β:Type}(Z:St)(Y:Sd)(cl:List<|Sf)(H:Hp)(AS:Hp->α->β->Prop)(r:RM α)(Q:β->Hp->Prop):Prop:=match r with
 |.ok a μ'=>∀b c H',MI W.K as B hs P c Z Y μ' H'->Step as cl H c H'->AS (aj (c.flatten++as) H') a b->Q b H'
 |.er x μ'=>∀y C c H',MI W.K as B hs P c Z Y μ' H'->W.mg x=J (.ref C)->W.E y C Z H'
 |.no=>False
end
section
theorem qU.step{AS:Hp->α->β->Prop}(h:qU W as B hs P Z Y cl H AS r Q)(st:Step as cl H cl1 H1):qU W as B hs P Z Y cl1 H1 AS r Q:=by
 cases r with
 |ok a L=>exact fun b c H' I d=>h b c H' I<|st.trans d
 |er x L=>exact h
 |no=>exact h
theorem bx{AS:Hp->α->β->Prop}{d:Hp->γ->ι->Prop}(h:qU W as B hs P Z Y cl H d (r.bind f) Q)
  (q:∀a b μ1 c H1,MI W.K as B hs P c Z Y μ1 H1->Step as cl H c H1->AS (aj (c.flatten++as) H1) a b->qU W as B hs P Z Y c H1 d (f a μ1) Q->Q' b H1):qU W as B hs P Z Y cl H AS r Q':=by
 cases r with
 |ok a L=>exact fun b e H' I st g=>q a b L e H' I st g<|qU.step h st
 |er x L=>exact h
 |no=>exact h
end
def tM(W:Ct)(P:Ru)(φ:FM):TE:=fun Z H Q=>∃as B hs cl Y L,MI W.K as B hs P cl Z Y L H/\qU W as B hs P Z Y cl H (bQ W.K) (φ Y L) Q
def ZD(W:Ct)(P:Ru)(φ:lM):TT:=fun Z H Q=>∃as B hs cl Y L,MI W.K as B hs P cl Z Y L H/\qU W as B hs P Z Y cl H (fun _ a b=>a=b) (φ Y L) Q
def Args(K:aT)(P:Ru)(Z:St)(Hm:Hp):List AD->Se->Prop
 |[],vs=>vs=[]
 |.pl d::l,vs=>∃v r,vs=v::r/\bQ K Hm d v/\Args K P Z Hm l r
 |.ob k::l,vs=>∃v r i,vs=v::r/\P[k]?=J i/\Z[i]?=J (J v)/\Args K P Z Hm l r
def RH(W:Ct)(P:Ru)(φ:qg):TA:=fun Z H Q=>∃as B hs cl Y L,MI W.K as B hs P cl Z Y L H/\qU W as B hs P Z Y cl H (Args W.K P Z) (φ Y L) Q
def ME(X:Cx)(K:aT)(mg:Sq)(P:Ru)(e:Ry)(φ:FM):Prop:=∀E,JE (X.ws E) e<|tM ⟨K,mg,E⟩ P φ
def MT(X:Cx)(K:aT)(mg:Sq)(P:Ru)(e:Ry)(φ:lM):Prop:=∀E,JT (X.ws E) e<|ZD ⟨K,mg,E⟩ P φ
def MW(X:Cx)(K:aT)(mg:Sq)(P:Ru)(e:Ry)(φ:lM):Prop:=∀E,JW (X.ws E) e<|ZD ⟨K,mg,E⟩ P φ
def MA(X:Cx)(K:aT)(mg:Sq)(P:Ru)(es:List Ry)(φ:qg):Prop:=∀E,JA (X.ws E) es<|RH ⟨K,mg,E⟩ P φ
def Z2(φ:FE):FM:=fun Y L=>match φ Y with
 |.ok d=>.ok d L
 |_=>.no
def Wl(P:Ru)(φ:FE):FM:=fun Y L=>match φ (fill P L Y)with
 |.ok d=>if Sj d=G then .ok d L else .no
 |_=>.no
def uv(P:Ru)(φ:FT):lM:=fun Y L=>match φ (fill P L Y)with
 |.ok b=>.ok b L
 |_=>.no
section
variable{X:Cx}{K:aT}{mg:Sq}{P:Ru}{pos:Pos}{rest es:List Ry}{e a b c:Ry}{φ ψ:FM}{τ υ:lM}{α:qg}
theorem Ll{φ:FE}(h:∀b,JE (X.Td b) e<|tD ⟨K,mg,E0⟩ [] φ):ME X K mg P e<|Z2 φ:=fun E=>(h _).imp fun Z H Q c=>UZ c fun as B hs cl Y L I f=>by
 refine⟨cl.flatten++as,H,[],Y,I.di,?_⟩;delta Z2 at f;cases hr:φ Y with
 |ok d=>rw[hr]at f;exact fun v H' s a=>f v cl H' (I.mono s) (aA s) a
 |er x=>rw[hr]at f;exact f.elim
 |no=>rw[hr]at f;exact f.elim
theorem Lp{φ:FE}(h:∀b,JE (X.Td b) e<|tD ⟨K,mg,E0⟩ [] φ):ME X K mg P e<|Wl P φ:=fun E=>(h _).imp fun Z H Q c=>UZ c fun as B hs cl Y L I f=>by
 refine⟨as,H,[],fill P L Y,I.vZ,?_⟩;delta Wl at f;cases hr:φ (fill P L Y)with
 |ok d=>
  rw[hr]at f;intro v H' s a;dsimp only at f;split at f
  .rename_i hn;exact f v cl H' (I.mono s) (aA s)<|(I.mono s).flat hn a
  .exact f.elim
 |er x=>rw[hr]at f;exact f.elim
 |no=>rw[hr]at f;exact f.elim
theorem Ko{φ:FT}(h:∀a,JT (X.Td a) e<|lq ⟨K,mg,E0⟩ [] φ):MT X K mg P e<|uv P φ:=fun E=>(h _).imp fun Z H Q b=>UZ b fun as B hs cl Y L I f=>by
 refine⟨as,H,[],fill P L Y,I.vZ,?_⟩;delta uv at f;cases hr:φ (fill P L Y)with
 |ok d=>rw[hr]at f;exact fun H' s=>f d cl H' (I.mono s) (aA s) rfl
 |er x=>rw[hr]at f;exact f.elim
 |no=>rw[hr]at f;exact f.elim
def Nf(τ:lM)(φ ψ:FM):FM:=fun Y L=>(τ Y L).bind fun b L=>if b=G then φ Y L else ψ Y L
def aay(g:MT X K mg P c τ)(i:ME X K mg P a φ)(j:ME X K mg P b ψ):ME X K mg P (.IfExp c a b pos)<|Nf τ φ ψ:=fun E=>(N9 (g E) (i E)<|j E).imp (by intro Z H Q l;refine UZ l fun as B hs cl Y L I h=>?_;exact ⟨as,B,hs,cl,Y,L,I,bx h fun c k μ1 d H1 f st e h1=>by
  subst e;cases c with
  |true=>exact⟨as,B,hs,d,Y,μ1,f,h1⟩
  |false=>exact⟨as,B,hs,d,Y,μ1,f,h1⟩⟩)
def xg(τ υ:lM):lM:=fun Y L=>(τ Y L).bind fun b L=>if b=G then υ Y L else .ok η L
def J6(τ υ:lM):lM:=fun Y L=>(τ Y L).bind fun b L=>if b=G then .ok G L else υ Y L
def Dc(τ:lM):lM:=fun Y L=>(τ Y L).bind fun b L=>.ok (!b) L
def BC(h:MW X K mg P a τ):MT X K mg P a τ:=fun E=>Cc<|h E
def KO(b:MT X K mg P a τ):MW X K mg P (.BoolOp .And [a] pos) τ:=fun E=>CW<|b E
def PN(b:MT X K mg P a τ):MW X K mg P (.BoolOp .Or [a] pos) τ:=fun E=>IT<|b E
def OZ(g:MT X K mg P a τ)(i:MW X K mg P (.BoolOp .And (b::rest) pos) υ):MW X K mg P (.BoolOp .And (a::b::rest) pos)<|xg τ υ:=fun E=>(Hq (g E)<|i E).imp (by intro Z H Q k;refine UZ k fun as B hs cl Y L I h=>?_;exact ⟨as,B,hs,cl,Y,L,I,bx h fun c j μ1 d H1 f st e h1=>by
  subst e;cases c with
  |true=>exact⟨as,B,hs,d,Y,μ1,f,h1⟩
  |false=>exact h1 η d H1 f #[23] rfl⟩)
def aft(g:MT X K mg P a τ)(i:MW X K mg P (.BoolOp .Or (b::rest) pos) υ):MW X K mg P (.BoolOp .Or (a::b::rest) pos)<|J6 τ υ:=fun E=>(MC (g E)<|i E).imp (by intro Z H Q k;refine UZ k fun as B hs cl Y L I h=>?_;exact ⟨as,B,hs,cl,Y,L,I,bx h fun c j μ1 d H1 f st e h1=>by
  subst e;cases c with
  |false=>exact⟨as,B,hs,d,Y,μ1,f,h1⟩
  |true=>exact h1 G d H1 f #[23] rfl⟩)
def RA(d:MT X K mg P a τ):MT X K mg P (.UnaryOp .Not a pos)<|Dc τ:=fun E=>(GZ<|d E).imp (by intro Z H Q i;refine UZ i fun as B hs cl Y L I h=>?_;exact ⟨as,B,hs,cl,Y,L,I,bx h fun c g μ1 b H1 f st e h1=>by subst e;exact h1 _ b H1 f #[23] rfl⟩)
def qL(φ:FM):lM:=fun Y L=>(φ Y L).bind fun d L=>match d with
 |.bl b=>.ok b L
 |_=>.no
def Iq(i:ME X K mg P a φ)(g:(∀c,isTrue a X.env c=(do let v <-c;jF a.pos;holding [v] (truthy v)))<|>gK)(k:X.K=K<|>Rv):MT X K mg P a<|qL φ:=fun E=>
 (yR K (i E) g k).imp (by intro Z H Q l;refine UZ l fun as B hs cl Y L I h=>?_;exact ⟨as,B,hs,cl,Y,L,I,bx h fun d v μ1 e H1 j st f h1=>by
  cases d with
  |bl b=>subst f;exact h1 b e H1 j #[23] rfl
  |_=>exact h1.elim⟩)
def bj:qg:=fun _ L=>.ok [] L
def aK(φ:FM)(α:qg):qg:=fun Y L=>(φ Y L).bind fun d L=>(α Y L).bind fun l L=>.ok (.pl d::l) L
def mw(k:Nat)(α:qg):qg:=fun Y L=>(α Y L).bind fun l L=>.ok (.ob k::l) L
def LF(o:ME X K mg P e φ)(i:MA X K mg P es α)(n:al e=G):MA X K mg P (e::es)<|aK φ α:=fun E=>(bU (o E) (i E) n).imp (by intro Z H Q p;refine UZ p fun as B hs cl Y L I h=>?_;exact ⟨as,B,hs,cl,Y,L,I,bx h fun d v μ1 b H1 g st m h1=>⟨as,B,hs,b,Y,μ1,g,bx h1 fun l vs μ2 c k j a f h2=>
  h2 (v::vs) c k j #[23] ⟨v,vs,rfl,m.mono a,f⟩⟩⟩)
def fj(h:Z[i]?=J (J v))(q:Q v H):z8 i Z H Q:=by
 show m8 Z[i]? H Q;rw[h];exact q
def Tk(g:P[k]?=J i)(j:MA X K mg P es α)(m:X.N[i]?=J x)(q:m6 X.env.scope x)(hd:TN x)(b:#[2]=η):MA X K mg P (.Name x pos::es)<|mw k α:=fun E=>
 (bU (jv (X:=X.ws E) i m q hd b) (j E) rfl).imp fun Z H Q t=>UZ t fun as B hs cl Y L I h=>by
  obtain⟨c,d,e1,s,⟨a,r,rfl,q1⟩,q2⟩:=I.at g;exact fj q1 ⟨as,B,hs,cl,Y,L,I,bx h fun l vs μ2 e p n o f h2=>h2 (.ref a::vs) e p n #[23] ⟨_,vs,i,rfl,g,q1,f⟩⟩
noncomputable def f8:List AD->Option (Rx)
 |[]=>J []
 |.pl d::l=>(f8 l).map (d::·)
 |_=>U
theorem Args.plain{l:List AD}:∀{vs:Se}{ds:Rx},Args K P Z Hm l vs->f8 l=J ds->ay K Hm ds vs:=by
 induction l with
 |nil=>intro _ _ h e;cases e;exact h
 |cons d l i=>
  intro _ _ h q;cases d with
  |pl d=>obtain⟨ds,q1,rfl⟩:=dO.mp q;exact Tw h fun v r e h1 h2=>⟨v,r,e,h1,i h2 q1⟩
  |_=>cases q
def vN(α:qg):FM:=fun Y L=>(α Y L).bind fun l L=>match f8 l with
 |some ds=>if ds.length<=1000000 then .ok (.tup ds) L else .no
 |none=>.no
def PX(h:MA X K mg P es α):ME X K mg P (.Tuple es x1 pos)<|vN α:=fun E=>(Ci<|h E).imp (by intro Z H Q f;refine UZ f fun as B hs cl Y L I h=>?_;exact ⟨as,B,hs,cl,Y,L,I,bx h fun l vs μ1 b H1 e st c h1=>by
  cases a:f8 l with
  |none=>rw[a]at h1;exact h1.elim
  |some ds=>
   rw[a]at h1;dsimp only at h1;split at h1
   .rename_i hl;have d:=c.plain a;refine⟨by rw[<-d.len];exact RW hl ck,fun p a=>?_⟩;have s:=bR a<|.tup vs;have hn  := fun z=>e.Vq p z a;refine h1 (.ref p) b _ (e.mono s) (aA s) ⟨p,vs,rfl,.inl<|.inl ?_,d.mono<|aA s⟩;rw[av hn];exact aE
   .exact h1.elim⟩)
end
structure MO(K:aT)(as:Sf)(B:Hp)(hs:Sf)(cl:List (Sf))(L:Rx)(H:Hp):Prop where
 sb:ah B H
 fb:∀c∈cl,∀a∈c,B a=U
 nd:∀c∈cl,c.Nodup
 dj:∀(i j:Nat)(c c':Sf)(a:SA),cl[i]?=J c->cl[j]?=J c'->a∈c->a∈c'->i=j
 lm:L.length=cl.length
 ob:∀(k:Nat)(c:Sf)(d:D),cl[k]?=J c->L[k]?=J d->vq K #[5] H d c
 hd:cl.map vx=hs.map J
section
variable{K:aT}
def rM(n:Nat)(cl:List<|Sf)(as:Sf)(H:Hp):ah #[5]<|aj ((cl.drop n).flatten++as) H:=kD fun a b=>by
 rcases BY.mp b with h|h
 .exact Le _ ((fun n cl=>fun a b=>by
    obtain⟨c,h1,h2⟩:=dS.mp b;exact dS.mpr ⟨c,t6 h1,h2⟩) n cl a h)
 mright
def MI.mo(I:MI K as B hs P cl Z Y L H):MO K as B hs (cl.drop<|cl.length-hs.length) (L.drop<|L.length-hs.length) H where
 sb:=I.sb
 fb:=fun c f=>I.fb c<|t6 f
 nd:=fun c f=>I.nd c<|t6 f
 dj:=fun i j c l a h1 h2 h g=>by
  rw[uu]at h1 h2
  have:=I.dj _ _ c l a h1 h2 h g
  mright
 lm:=by rw[vJ,vJ,I.lm]
 ob:=fun k c d h1 h2=>by
  rw[uu]at h1 h2;rw[I.lm]at h2;refine US (I.get h1) fun _ d' _ e _ q=>?_;rw[h2]at e;cases e;exact q.mono (rM _ _ _ _) fun b _ o e=>e
 hd:=by rw[List.map_drop];exact I.hd
end
noncomputable def putAt{α:Type}:Ru->List α->List α->List α
 |k::ks,c::cs,l=>putAt ks cs<|l.set k c
 |_,_,l=>l
theorem p7{α:Type}:∀(a:Ru)(b l:List α),(putAt a b l).length=l.length
 |[],_,_=>by rfl
 |_::_,[],_=>by rfl
 |k::a,c::b,l=>by unfold putAt;rw[p7 a b];simp
theorem iL:∀{a:Ru}{b l:List α},k∉a->(putAt a b l)[k]?=l[k]?
 |[],_,_,_=>by rfl
 |_::_,[],_,_=>by rfl
 |j::a,c::b,l,h=>by
  unfold putAt;rw[iL fun z=>h<|ie _ z,dP fun z=>h<|by simp[z]]
theorem oE{c:α}:∀{a:Ru}{b l:List α}{m:Nat},a.Nodup->a[m]?=J k->b[m]?=J c->k<l.length->(putAt a b l)[k]?=J c
 |[],_,_,_,_,h,_,_=>by mright
 |_::_,[],_,_,_,_,h,_=>by mright
 |j::a,d::b,l,0,nd,h1,h2,hl=>by
  simp at h1 h2;subst h1 h2;unfold putAt;rw[iL (Vx.mp nd).1];simp[hl]
 |j::a,d::b,l,m+1,nd,h1,h2,hl=>by
  unfold putAt;exact oE (Vx.mp nd).2 (by assumption) ⊤ (by simpa using hl)
def iE(cl:List<|Sf)(a:Ru):List<|Sf:=a.map fun k=>(cl[k]?).getD []
def Kx(cl:List<|Sf)(a:Ru):List<|Sf:=(cl.zipIdx.filter fun p=>decide (p.2∉a)).map (·.1)
def NM:c∈Kx cl ks↔∃k:Nat,cl[k]?=J c/\k∉ks:=by
 delta Kx;rw[d9];constructor
 .rintro⟨p,h,rfl⟩;obtain⟨h1,h2⟩:=dN.mp h;exact⟨p.2,Mn.mp h1,WI h2⟩
 .rintro⟨k,h1,h2⟩;exact⟨(c,k),dN.mpr ⟨Mn.mpr h1,Th h2⟩,rfl⟩
def nu(h:∀a,a∈l↔a∈l')(H:Hp):aj l H=aj l' H:=by
 funext b
 by_cases c:b∈l
 .rw[bT c,bT<|(h b).mp c]
 .rw[av c,av fun z=>c<|(h b).mpr z]
section
variable{K:aT}
def iU{m:Nat}(a:∀k∈ks,k<cl.length)(h:(iE cl ks)[m]?=J c):∃k,ks[m]?=J k/\cl[k]?=J c:=by
 delta iE at h;rw[Xm]at h;obtain⟨k,h1,h2⟩:=dO.mp h
 have:=(Do h1)
 mright
def wc{m k:Nat}(h1:ks[m]?=J k)(h2:cl[k]?=J c):(iE cl ks)[m]?=J c:=by
 delta iE;mright
def jO(d:∀k∈ks,k<cl.length):a∈(iE cl ks).flatten↔∃(k:Nat)(c:Sf),k∈ks/\cl[k]?=J c/\a∈c:=by
 rw[cH];constructor
 .rintro⟨m,c,h1,h2⟩;obtain⟨k,b,f⟩:=iU d h1;exact⟨k,c,Do b,f,h2⟩
 .rintro⟨k,c,h1,h2,b⟩;obtain⟨m,e⟩:=dZ.mp h1;exact⟨m,c,wc e h2,b⟩
def Ao:a∈(Kx cl ks).flatten↔∃(k:Nat)(c:Sf),k∉ks/\cl[k]?=J c/\a∈c:=by
 rw[dS];constructor
 .rintro⟨c,h1,h2⟩;obtain⟨k,b,d⟩:=NM.mp h1;exact⟨k,c,d,b,h2⟩
 .rintro⟨k,c,h1,h2,b⟩;exact⟨c,NM.mpr ⟨k,h2,h1⟩,b⟩
def ui(b:∀k∈ks,k<cl.length)(a:SA):a∈cl.flatten++as↔a∈(iE cl ks).flatten++((Kx cl ks).flatten++as):=by
 rw[BY,BY,BY,jO b,Ao,cH];constructor
 .rintro(⟨k,c,h1,h2⟩|h)
  .by_cases z:k∈ks
   .exact .inl ⟨k,c,z,h1,h2⟩
   .exact .inr (.inl ⟨k,c,z,h1,h2⟩)
  .exact .inr (.inr h)
 .rintro(⟨k,c,_,h1,h2⟩|⟨k,c,_,h1,h2⟩|h)
  .exact .inl ⟨k,c,h1,h2⟩
  .exact .inl ⟨k,c,h1,h2⟩
  .exact .inr h
def MI.apart(I:MI K as B hs P cl Z Y L H)(d:∀k∈ks,k<cl.length)(e:a∈(Kx cl ks).flatten++as):a∉(iE cl ks).flatten:=fun z=>by
 obtain⟨k,c,h1,h2,b⟩:=(jO d).mp z;rcases BY.mp e with h|h
 .obtain⟨j,g,q1,q2,f⟩:=Ao.mp h
  have:=I.dj _ _ _ _ a h2 q2 b f
  exact q1<|this▸h1
 .exact I.ex a h (I.fb c (Do h2) a b)
def Dn{c:α}{b l:List α}(j:ks.Nodup)(i:b.length=ks.length)(g:∀k∈ks,k<l.length)(h:(putAt ks b l)[k]?=J c):(k∉ks/\l[k]?=J c)\/∃m:Nat,ks[m]?=J k/\b[m]?=J c:=by
 by_cases a:k∈ks
 .obtain⟨m,e⟩:=dZ.mp a;have d:m<b.length:=by rw[i];exact(rW.mp e).1
  have f:=WT d;rw[oE j e f<|g k a]at h;exact .inr ⟨m,e,by rw[f];exact h⟩
 .rw[iL a]at h;exact .inl ⟨a,h⟩
def MI.back(I:MI K as B hs P cl Z Y L H)(T:ks.Nodup)(t:∀k∈ks,k<cl.length)(f:MO K ((Kx cl ks).flatten++as) (aj (iE cl ks).flatten H) hs' cl2 μ2 H2)(N:hs'.map J=(iE cl ks).map vx):
  MI K as B hs P (putAt ks cl2 cl) Z Y (putAt ks μ2 L) H2/\Step as cl H (putAt ks cl2 cl) H2/\∀a,a∈cl2.flatten++((Kx cl ks).flatten++as)↔a∈(putAt ks cl2 cl).flatten++as:=by
 have hl:cl2.length=ks.length:=by
  have:=UN vP f.hd
  rw[N,WH,WH]at this;rw[this];delta iE;simp
 have w:∀b o,b∉(iE cl ks).flatten->H b=J o->H2 b=J o:=fun b o n e=>f.sb b o (by rw[av n];exact e);have new:∀c∈cl2,∀a∈c,a∈(iE cl ks).flatten\/H a=U:=fun c x a l=>by
  by_cases z:a∈(iE cl ks).flatten
  .exact .inl z
  .have:=f.fb c x a l;rw[av z]at this;exact .inr this
 have sub:∀a∈(iE cl ks).flatten,a∈cl.flatten:=fun a l=>by
  obtain⟨k,c,_,h2,g⟩:=(jO t).mp l;exact cH.mpr ⟨k,c,h2,g⟩
 have g2:∀{k:Nat}{c:Sf},(putAt ks cl2 cl)[k]?=J c->(k∉ks/\cl[k]?=J c)\/∃m:Nat,ks[m]?=J k/\cl2[m]?=J c:=fun h=>Dn T hl t h;have u:∀a,a∈cl2.flatten++((Kx cl ks).flatten++as)↔a∈(putAt ks cl2 cl).flatten++as:=fun a=>by
  rw[BY,BY,BY,Ao];constructor
  .rintro(h|⟨k,c,h1,h2,g⟩|h)
   .obtain⟨m,c,h1,h2⟩:=cH.mp h;have D:m<ks.length:=by rw[<-hl];exact(rW.mp h1).1
    have e:=WT D;exact .inl (cH.mpr ⟨_,c,oE T e h1<|t _<|yL D,h2⟩)
   .exact .inl (cH.mpr ⟨k,c,by rw[iL h1];exact h2,g⟩)
   .exact .inr h
  .rintro(h|h)
   .obtain⟨k,c,h1,h2⟩:=cH.mp h;rcases g2 h1 with⟨q1,q2⟩|⟨m,q1,q2⟩
    .exact .inr (.inl ⟨k,c,q1,q2,h2⟩)
    .exact .inl (cH.mpr ⟨m,c,q2,h2⟩)
   .exact .inr (.inr h)
 have st:Step as cl H (putAt ks cl2 cl) H2:=fun b o e=>by
  have n:b∉cl.flatten++as:=fun z=>by rw[bT z]at e;cases e
  rw[av n]at e;have O:b∉(putAt ks cl2 cl).flatten++as:=fun z=>by
   rcases BY.mp z with z|z
   .obtain⟨k,c,h1,h2⟩:=cH.mp z;rcases g2 h1 with⟨q1,q2⟩|⟨m,q1,q2⟩
    .exact n (Le _<|cH.mpr ⟨k,c,q2,h2⟩)
    .rcases new c (Do q2) b h2 with q|q
     .exact n (Le _<|sub b q)
     .rw[q]at e;cases e
   .exact n (OR _ z)
  rw[av O];exact w b o (fun z=>n<|Le _<|sub b z) e
 have pl:(putAt ks cl2 cl).length=cl.length:=p7 _ _ _;have l2:μ2.length=ks.length:=f.lm.trans hl;have V:∀k∈ks,k<L.length:=fun k h=>by rw[I.lm];exact t k h
 have M:(putAt ks cl2 cl).map vx=cl.map vx:=by
  refine Oo fun k=>?_;rw[Xm,Xm];by_cases p:k<cl.length
  .have e:=WT (show k<(putAt ks cl2 cl).length by rw[pl];exact p);rcases g2 e with⟨q1,q2⟩|⟨m,q1,q2⟩
   .rw[e,q2]
   .have C:=WT p;have s:=UN (·[m]?)<|f.hd.trans N;simp only[Xm]at s;rw[q2,wc q1 C]at s;rw[e,C];exact s
  .rw[Ax<|by rw[pl];lia,Ax<|⊥]
 refine⟨⟨I.len,I.ex,(lH I.sb fun a l=>?_).trans f.sb,fun c x a l=>?_,fun c x=>?_,fun i j c A a h1 h2 g E=>?_,fun i d e=>?_,?_,?_,fun k i c d h1 h2 g=>?_,?_,?_⟩,st,u⟩
 .obtain⟨k,c,_,h2,g⟩:=(jO t).mp l;exact I.fb c (Do h2) a g
 .obtain⟨k,e⟩:=dZ.mp x;rcases g2 e with⟨q1,q2⟩|⟨m,q1,q2⟩
  .exact I.fb c (Do q2) a l
  .rcases new c (Do q2) a l with q|q
   .obtain⟨k,c,_,h2,g⟩:=(jO t).mp q;exact I.fb c (Do h2) a g
   .exact I.sb.free q
 .obtain⟨k,e⟩:=dZ.mp x;rcases g2 e with⟨q1,q2⟩|⟨m,q1,q2⟩
  .exact I.nd c (Do q2)
  .exact f.nd c (Do q2)
 .have cross:∀{i j:Nat}{m:Nat}{c A:Sf},i∉ks->cl[i]?=J c->cl2[m]?=J A->a∈c->a∈A->False:=fun{i j m c A}q1 q2 q3 l n=>by
   rcases new A (Do q3) a n with q|q
   .obtain⟨k,c3,R,Q,z3⟩:=(jO t).mp q;exact q1<|I.dj _ _ _ _ a q2 Q l z3▸R
   .exact I.Vq a (Le _<|cH.mpr ⟨i,c,q2,l⟩) q
  rcases g2 h1 with⟨q1,q2⟩|⟨m,q1,q2⟩<;>rcases g2 h2 with⟨p1,p2⟩|⟨m',p1,p2⟩
  .exact I.dj _ _ _ _ a q2 p2 g E
  .exact(cross (j:=0) q1 q2 p2 g E).elim
  .exact(cross (j:=0) p1 p2 q2 E g).elim
  .have:=f.dj _ _ _ _ a q2 p2 g E
   subst this;rw[q1]at p1;cases p1;rfl
 .obtain⟨v,h1,h2⟩:=I.var i d e;exact⟨v,h1,h2.mono st⟩
 .rw[pl];exact I.lp
 .rw[p7,pl];exact I.lm
 .rcases g2 h2 with⟨q1,q2⟩|⟨m,q1,q2⟩
  .rw[iL q1]at g;obtain⟨R,Q⟩:=I.ob k i c d h1 q2 g;exact⟨R,Q.mono st fun b n o e=>w b o (fun z=>by
    obtain⟨k2,c2,F,W,S⟩:=(jO t).mp z;exact q1 (I.dj _ _ _ _ b q2 W n S▸F)) e⟩
  .have D:m<μ2.length:=by rw[l2];exact(rW.mp q1).1
   have C:=WT D;rw[oE T q1 C<|V k<|Do q1]at g;have y:=f.ob m c d q2<|C.trans g;rw[nu u]at y;refine⟨?_,y⟩;have p:=t k<|Do q1;have X:=WT p;obtain⟨i',d',F,W,⟨a,r,S,w4⟩,w5⟩:=I.get X;rw[h1]at F;cases F;have s:=UN (·[m]?)<|f.hd.trans N;simp only[Xm]at s;rw[q2,wc q1 X,S]at s;cases c with
   |nil=>mright
   |cons b r'=>simp at s;subst s;exact⟨b,r',rfl,w4⟩
 .rw[pl];exact I.hl
 .rw[M,pl];exact I.hd
end
noncomputable def j4:List AD->Ru
 |[]=>[]
 |.pl _::l=>j4 l
 |.ob k::l=>k::j4 l
noncomputable def zw:Nat->List AD->Ru
 |_,[]=>[]
 |o,.pl _::l=>zw (o+1) l
 |o,.ob _::l=>o::zw (o+1) l
noncomputable def uB:List AD->Sd
 |[]=>[]
 |.pl d::l=>J d::uB l
 |.ob _::l=>U::uB l
theorem wj:∀(l:List AD)(o:Nat),(zw o l).length=(j4 l).length
 |[],_=>rfl
 |.pl _::l,o=>wj l<|o+1
 |.ob _::l,o=>UN (·+1)<|wj l<|o+1
section
variable{K:aT}
theorem Args.len:∀{l:List AD}{vs:Se},Args K P Z Hm l vs->(uB l).length=vs.length
 |[],_,h=>by subst h;rfl
 |.pl d::l,_,⟨v,r,e,h1,h2⟩=>by subst e;exact UN (·+1) h2.len
 |.ob k::l,_,⟨v,r,i,e,h1,h2,h3⟩=>by subst e;exact UN (·+1) h3.len
theorem Args.var:∀{l:List AD}{vs:Se}{i:Nat}{d:D},Args K P Z Hm l vs->(uB l)[i]?=J (J d)->∃v,vs[i]?=J v/\bQ K Hm d v
 |[],_,_,_,h,e=>by contradiction
 |.pl d::l,_,0,_,⟨v,r,e,h1,h2⟩,q=>by simp[uB]at q;mright
 |.pl d::l,_,i+1,_,⟨v,r,e,h1,h2⟩,q=>by subst e;exact h2.var ⊤
 |.ob k::l,_,0,_,⟨v,r,_,e,h1,_,h3⟩,q=>by simp[uB]at q
 |.ob k::l,_,i+1,_,⟨v,r,_,e,h1,_,h3⟩,q=>by subst e;exact h3.var ⊤
theorem Args.obs:∀{l:List AD}{vs:Se}{o m i:Nat},Args K P Z Hm l vs->(zw o l)[m]?=J i->∃k v j a,(j4 l)[m]?=J k/\i=o+j/\vs[j]?=J v/\P[k]?=J a/\Z[a]?=J (J v)
 |[],_,_,_,_,h,e=>by contradiction
 |.pl d::l,_,o,m,_,⟨v,r,e,h1,h2⟩,q=>by
  subst e;left;refine yF (h2.obs q) fun k b j a g p c f=>?_;right;exact⟨k,b,j+1,a,g,⊥,by assumption,f⟩
 |.ob k::l,_,o,0,_,⟨v,r,a,e,h1,h2,h3⟩,q=>by
  subst e;simp[zw]at q;exact⟨k,v,0,a,rfl,by simp_all,rfl,h1,h2⟩
 |.ob k::l,_,o,m+1,_,⟨v,r,a,e,h1,h2,h3⟩,q=>by
  subst e;left;refine yF (h3.obs ⊤) fun n b j a g p c f=>?_;right;exact⟨n,b,j+1,a,⊤,⊥,⊤,f⟩
theorem Args.F9:∀{l:List AD}{vs:Se}{k:Nat},Args K P Z Hm l vs->k∈j4 l->k<P.length
 |[],_,_,_,h=>by nofun
 |.pl d::l,_,k,⟨v,r,e,h1,h2⟩,h=>h2.F9 h
 |.ob j::l,_,k,⟨v,r,i',e,h1,h2,h3⟩,h=>by
  rcases eQ.mp h with rfl|h
  .grind
  .exact h3.F9 h
end
section
variable{K:aT}{mg:Sq}{as:Sf}{B:Hp}{hs:Sf}{P:Ru}{cl:List (Sf)}{Z:St}{Y:Sd}{L:Rx}{H:Hp}{l:List AD}{vs:Se}
def MI.lend(I:MI K as B hs P cl Z Y L H)(A:Args K P Z #[5] l vs)(C:(j4 l).Nodup):(∀k∈j4 l,k<cl.length)/\∃f,f.map J=(iE cl<|j4 l).map vx /\
  MI K ((Kx cl<|j4 l).flatten++as) (aj (iE cl<|j4 l).flatten H) f (zw 0 l) (iE cl<|j4 l) (vs.map J) (uB l) ((j4 l).map fun k=>(L[k]?).getD .S9) H:=by
 have b:∀k∈j4 l,k<cl.length:=fun k h=>by rw[<-I.lp];exact A.F9 h
 have D:(iE cl<|j4 l).length=(j4 l).length:=by delta iE;simp
 have w:((iE cl<|j4 l).map fun c=>(c.head?).getD 0).map J=(iE cl<|j4 l).map vx:=by
  rw[ae5];refine aeA fun c g=>?_;obtain⟨m,e⟩:=dZ.mp g;obtain⟨k,_,o⟩:=iU b e;obtain⟨_,_,_,_,⟨a,r,rfl,_⟩,_⟩:=I.get o;rfl
 refine⟨b,_,w,⟨by rw[WH];exact A.len,fun a p=>?_,aD _ _,fun c g a p=>bT<|dS.mpr ⟨c,g,p⟩,fun c g=>?_,fun i j c S a h1 h2 n t=>?_,fun i d e=>?_,?_,?_,fun k i c d h1 h2 n=>?_,?_,?_⟩⟩
 .rw[av<|I.apart b p];exact I.Vq a<|(ui b a).mpr<|OR _ p
 .obtain⟨m,e⟩:=dZ.mp g;obtain⟨k,_,o⟩:=iU b e;exact I.nd c<|Do o
 .obtain⟨k,e1,q1⟩:=iU b h1;obtain⟨y,o,q2⟩:=iU b h2
  have:=I.dj _ _ _ _ a q1 q2 n t
  subst this;exact(List.getElem?_inj (rW.mp e1).1 C).mp<|e1.trans o.symm
 .obtain⟨v,h1,h2⟩:=A.var e;refine⟨v,by rw[Xm,h1];rfl,?_⟩;rw[<-nu (ui b)];exact h2
 .rw[D,wj]
 .mright
 .left;obtain⟨y,v,j,T,q,M,Q,R,N⟩:=A.obs h1;obtain⟨k2,s,z⟩:=iU b h2;rw[q]at s;cases s;obtain⟨V,E,F,u,⟨a,r,rfl,O⟩,x⟩:=I.get z;right;rw[Xm,q]at n;simp only[iM,u,Option.getD_some,Option.some.injEq]at n;subst n;refine⟨⟨a,r,rfl,by mright⟩,?_⟩;rw[<-nu (ui b)];exact x
 .simp
 mright
def adN(K:aT)(mg:Sq)(as:Sf)(B:Hp)(hs:Sf)(r:RM D)(Q:VK)(E:XK):Prop:=match r with
 |.ok d μ'=>∀v a H',MO K as B hs a μ' H'->bQ K (aj (a.flatten++as) H') d v->Q v H'
 |.er x μ'=>∀y C a H',MO K as B hs a μ' H'->mg x=J (.ref C)->E (.ref y) (J C) H'
 |.no=>False
def sJ(K:aT)(mg:Sq)(Pf:Ru)(F:FM):Sp:=fun vs H Q E=>∃as B hs cl Y L,hs.length=cl.length/\MI K as B hs Pf cl (vs.map J) Y L H/\adN K mg as B hs (F Y L) Q E
def fU(Pf:Ru)(F:FM)(l:List AD)(L:Rx):RM D:=if(j4 l).Nodup/\zw 0 l=Pf then(match F (uB l) ((j4 l).map fun k=>(L[k]?).getD .S9)with
 |.ok d μ2=>.ok d<|putAt (j4 l) μ2 L
 |.er x μ2=>.er x<|putAt (j4 l) μ2 L
 |.no=>.no)else .no
abbrev AR(E:RQ)(Z:St):XK:=fun y C H'=>∃a b,y=.ref a/\C=J b/\E a b Z H'
def lC{Q:VK}(I:MI K as B hs P cl Z Y L H)(A:Args K P Z #[5] l vs)(h:qU ⟨K,mg,E⟩ as B hs P Z Y cl H (bQ K) (fU Pf F l L) Q):sJ K mg Pf F vs H Q<|AR E Z:=by
 delta fU at h;cbv
 .rename_i hc;obtain⟨g,rfl⟩:=hc;obtain⟨i,f,c,a⟩:=I.lend A g;refine⟨_,_,f,_,_,_,by have:=UN vP c;simpa using this,a,?_⟩;cases hr:F (uB l) ((j4 l).map fun k=>(L[k]?).getD .S9)with
  |ok d μ2=>
   rw[hr]at h;intro v b H' O n;obtain⟨m,st,e⟩:=I.back g i O c;exact h v _ H' m st (by rw[<-nu e];exact n)
  |er x μ2=>
   rw[hr]at h;intro y C b H' O j;exact⟨y,C,rfl,rfl,h y C _ H' (I.back g i O c).1 j⟩
  |no=>rw[hr]at h;mleft
 .mleft
end
section
variable{X:Cx}{K:aT}{mg:Sq}{P Pf:Ru}{F:FM}{aa:TQ}{Z:St}{H:Hp}{s:ID}{E:RQ}{p pos apos:Pos}
def rS(SK:T8 X.prog X.w X.K X.mg X.base (oI X.prog X.w X.mg) k f fd ps sp)(i:TZ k X.A)(N:cf X.K fd ps [])(g:qQ X)
  (I:Inv X aa Z H s) (r:aU vs us) (h:sp vs H Q<|AR E Z):SN #[0] X.A (call (.ref f) us) (EP X aa Z Q) (XS X E) s:=
 KL SK i N (fun e s' j l=>by
  obtain⟨y,C,H',rfl,os,a,un,d,⟨M,p,B,c,t,o,n,D,T,oT,F,b1,b2,m,u⟩,O,P,e1,x,q⟩:=l;cases e1;cases x;have I3  := I.call' os un d a (fun b z=>nomatch z) j
  exact⟨Z,H',y,C,J .none,rfl,I3.less,ExcAt.less ⟨Nw.gone I g M,p,B,c,t,o,n,D,fun z=>(by cases z),fun v z=>(by cases z;exact⟨T,oT,F,b1,Nw.gone I g b2,m,u⟩)⟩,q⟩) I r h
def EP.ws(h:EP X aa Z Q u s'):EP (X.Td E') aa Z Q u s':=let⟨v,H',I,r,q⟩:=h;⟨v,H',I.Td _,r,q⟩
def dm(Pf:Ru)(F:FM)(α:qg):FM:=fun Y L=>(α Y L).bind<|fU Pf F
def Lx{st:SU}(D:Def X.K X.mg x st ps f fd)(SK:T8 X.prog X.w X.K X.mg X.base (oI X.prog X.w X.mg) j f fd ps<|sJ K mg Pf F)(d:TZ k X.A)(u:MA X K mg P (e::es) α)
  (v:j<=k) (n:qQ X) (g:Gl X x) (c:TN x) (h1:al e=G) (h2:es.all al=G):ME X K mg P #[3]<|dm Pf F α:=fun E=>⟨fun aa s Z H Q I z=>UZ z fun as B hs cl Y L M h=>by
 refine Yr (dD I g D.m ?_ c);have t:RH ⟨K,mg,E⟩ P α Z H fun vs H1=>sJ K mg Pf F vs H1 Q (AR E Z):=⟨as,B,hs,cl,Y,L,M,bx h fun l vs μ1 o H1 a st A h1=>lC a A h1⟩;refine yw I.ok.mod.XM D.F.kp (bP ((u E).out pos aa s Z H _ I t) fun us y i=>jZ i fun vs H1 a r q=>⟨a.U3,?_⟩) (bC h1) (bH h2);exact bP (rS SK (d.mono v) D.b n a.Ul r q) fun _ _ q=>q.ws⟩
def fY(i:Nat)(T:List<|Str×FM)(Pf:Ru)(α:qg):FM:=fun Y L=>match Y[i]? with
 |some (J<|.cls g)=>(match T.lookup g with
  |some F=>(α Y L).bind<|fU Pf F
  |none=>.no)
 |_=>.no
def F3(t:X.N[i]?=J x)(W:m6 X.env.scope x)(hd:TN x)(b:#[2]=η)
  (z:∀g F,T.lookup g=J F->∃f fd ps,DO K By g=J (J<|.ref f)/\Xq X.K (.ref f)=G/\cf X.K fd ps []/\T8 X.prog X.w X.K X.mg X.base (oI X.prog X.w X.mg) j f fd ps (sJ K mg Pf F))
  (m:TZ k X.A) (S:MA X K mg P (e::es) α) (hj:j<=k) (D:qQ X) (h1:al e=G) (h2:es.all al=G):ME X K mg P #[3]<|fY i T Pf α:=fun E=>⟨fun aa s Z H Q I q_=>UZ q_ fun as B hs cl Y L M h=>by
 delta fY at h;left;cbv
 .rename_i g eg;cbv
  .rename_i F eF;refine c7 (z g F eF) fun f fd ps V C d SK=>?_;obtain⟨v,o,y⟩:=M.var i _ eg;obtain⟨f',rfl,c⟩:=y;rw[V]at c;cases c;right;refine Yr<|bP (qv (X:=X.ws E) i t W hd b aa s Z H (fun v H'=>v=.ref f/\H'=H) I<|fj o ⟨rfl,rfl⟩) ?_;intro u s0 q0_;refine US q0_ fun v H0 I0 rv e1 e2=>?_;subst e1 e2;obtain rfl:u=.ref f:=rv;have R:RH ⟨K,mg,E⟩ P α Z H0 fun vs H1=>sJ K mg Pf F vs H1 Q<|AR E Z:=⟨as,B,hs,cl,Y,L,M,bx h fun l vs μ1 O H1 a st A h1=>lC a A h1⟩;refine yw I0.ok.mod.XM C (bP ((S E).out pos aa s0 Z H0 _ I0 R) fun us s1 n=>jZ n fun vs H1 a r q=>⟨a.U3,?_⟩) (bC h1)<|bH h2;exact bP (rS SK (m.mono hj) d D a.Ul r q) fun _ _ q=>q.ws
  .right;mleft
 .right;mleft⟩
theorem dR.none:∀{fs:List<|Str×D}{xs:List<|Str×V}{bs:Sf},dR K Hm H fs xs bs->fs.lookup m=U->xs.lookup m=U
 |[],_,_,⟨e,_⟩,_=>by subst e;rfl
 |(k,d)::fs,_,_,⟨v,r,c,e,f1,f2⟩,h=>by
  subst e;unfold wA at h⊢;cases q:m==k with
  |true=>mright
  |false=>rw[q]at h;exact f2.none h
noncomputable def zW(n m:Str)(d:Option D):Bool:=match d with
 |some (.obj x fs)=>decide (x=n)&&(fs.lookup m).isNone
 |_=>η
def vq.zW(c:vq K Hm H d<|a::r)(h:zW n m (J d)=G)(g:DO K By n=J #[14]):∃b xs,H a=J (.ins C b xs)/\xs.lookup m=U:=by
 delta L2.zW at h;cbv
 .rename_i x fs e;left;cases e;rw[oR,decide_eq_true_eq,L1]at h;obtain⟨rfl,h⟩:=h;refine WM c fun i b xs f h1 h2=>?_;rw[g]at f;cases f;right;exact⟨b,xs,h1,h2.none h⟩
 .nofun
def dM(k:Nat)(n m:Str)(Pf:Ru)(F:FM)(α:qg):FM:=fun Y L=>if zW n m L[k]?=G then(α Y L).bind fun l L=>fU Pf F (.ob k::l) L else .no
abbrev Ep(env:Env)(o:Ry)(m:Str)(es:List Ry)(apos pos:Pos):Prop:=∃pl:Sem Bool,eval (.Call (.Attribute o m apos) es [] pos) env=(do
   let ov <-eval o env
   jF apos.atName
   let(f,first) <-holding [ov] (getMethod ov m pl)
   callWith pos f first (X3 pos (Uu es env)) (backToKw pos (jh [] env)))
def KJ(D:P[k0]?=J i)(V:X.N[i]?=J x)(hv:m6 X.env.scope x)(hd:TN x)(o:#[2]=η)
  (hn:DO K By n=J #[14]) (c:UR X.K C) (t:kF X.K C m f) (SK:T8 X.prog X.w X.K X.mg X.base (oI X.prog X.w X.mg) j f fd ps<|sJ K mg Pf F) (hb:cf X.K fd ps []) (O:TZ k X.A) (ha:MA X K mg P (e::es) α)
  (hj:j<=k) (W:qQ X) (h1:al e=G) (h2:es.all al=G) (g:Ep X.env (.Name x p) m (e::es) apos pos):ME X K mg P (.Call (.Attribute (.Name x p) m apos) (e::es) [] pos)<|dM k0 n m Pf F α:=fun E=>⟨fun aa s Z H Q I q_=>UZ q_ fun as B hs cl Y L M h=>by
 left;obtain⟨pl,g⟩:=g;delta dM at h;cbv
 .rename_i hob;obtain⟨cc,d,e1,e2,⟨a,r,rfl,q1⟩,q2⟩:=M.at D;rw[e2]at hob;obtain⟨dx,xs,T,R⟩:=q2.zW hob hn;right;have ho:=fj (Q:=fun v H'=>v=.ref a/\H'=H) q1 ⟨rfl,rfl⟩;refine OO (bP (qv (X:=X.ws E) i V hv hd o aa s Z H _ I ho) fun u s1 q_=>US q_ fun v H1 b rv z1 z2=>?_) g;subst z1 z2;obtain rfl:u=WU a:=rv;refine ua b T c t R ?_;have hA:RH ⟨K,mg,E⟩ P α Z H1 fun vs z=>sJ K mg Pf F (.ref a::vs) z Q<|AR E Z:=⟨as,B,hs,cl,Y,L,M,bx h fun l vs μ1 cl1 H1 b st A h1=>lC (l:=.ob k0::l) b ⟨.ref a,vs,i,rfl,D,q1,A⟩ h1⟩;refine yw I.ok.mod.XM t.kp (bP ((ha E).out pos aa s1 Z H1 _ b hA) fun us s2 S=>jZ S fun vs z y r q=>⟨y.U3,?_⟩) (bC h1)<|bH h2;exact bP (rS (vs:=.ref a::vs) SK (O.mono hj) hb W y.Ul (.cons rfl r) q) fun _ _ q=>q.ws
 .right;mleft⟩
def HE(o:P[k0]?=J i)(D:X.N[i]?=J x)(V:m6 X.env.scope x)(hd:TN x)(e:#[2]=η)
  (R:DO K By n=J #[14]) (c:UR X.K C) (g:kF X.K C m f) (SK:T8 X.prog X.w X.K X.mg X.base (oI X.prog X.w X.mg) j f fd ps<|sJ K mg Pf F) (W:cf X.K fd ps []) (t:TZ k X.A)
  (hj:j<=k) (O:qQ X) (b:Ep X.env (.Name x p) m [] apos pos):ME X K mg P (.Call (.Attribute (.Name x p) m apos) [] [] pos)<|dM k0 n m Pf F bj:=fun E=>⟨fun aa s Z H Q I q_=>UZ q_ fun as B hs cl Y L M h=>by
 left;obtain⟨pl,b⟩:=b;delta dM at h;cbv
 .rename_i hob;obtain⟨cc,d,e1,S,⟨a,r,rfl,q1⟩,q2⟩:=M.at o;rw[S]at hob;obtain⟨dx,xs,z,y⟩:=q2.zW hob R;right;have T:=fj (Q:=fun v H'=>v=.ref a/\H'=H) q1 ⟨rfl,rfl⟩;refine OO (bP (qv (X:=X.ws E) i D V hd e aa s Z H _ I T) fun u s1 q_=>US q_ fun v H1 I1 rv z1 z2=>?_) b;subst z1 z2;obtain rfl:u=WU a:=rv;refine ua I1 z c g y ?_;refine Bb I1.U3 g.kp<|bP (rS (vs:=[.ref a]) SK (t.mono hj) W O I1.Ul (.cons rfl .nil)<|lC (l:=[.ob k0]) M ⟨.ref a,[],i,rfl,o,q1,rfl⟩ h) fun _ _ q=>q.ws
 .right;mleft⟩
end
inductive RS where
 |nx (Y:Sd) (L:Rx)|bk (Y:Sd) (L:Rx)|ct (Y:Sd) (L:Rx)|rt (d:D) (L:Rx)|er (x:Str) (L:Rx)|no
abbrev gi:=Sd->Rx->RS
noncomputable def lst(nl:Nat)(L:Rx):Rx:=L.drop<|L.length-nl
def RM.bs{α:Type}(nl:Nat)(r:RM α)(f:α->Rx->RS):RS:=match r with
 |.ok a L=>f a L
 |.er x L=>.er x<|lst nl L
 |.no=>.no
def yz(W:Ct)(as:Sf)(B:Hp)(hs:Sf)(Pb P':Ru)(r:RS)(D:Ends):Prop:=match r with
 |.nx Y L=>∀cl Z H,MI W.K as B hs P' cl Z Y L H->D.nx Z H
 |.bk Y L=>∀cl Z H,MI W.K as B hs Pb cl Z Y L H->D.bk Z H
 |.ct Y L=>∀cl Z H,MI W.K as B hs Pb cl Z Y L H->D.ct Z H
 |.rt d L=>∀v cl H,MO W.K as B hs cl L H->bQ W.K #[5] d v->D.rt v H
 |.er x L=>∀y C Z cl H,MO W.K as B hs cl L H->W.mg x=J (.ref C)->W.E y C Z H
 |.no=>False
def sM(W:Ct)(nl:Nat)(Pb P P':Ru)(φ:gi):TS:=fun D Z H=>∃as B hs cl Y L,hs.length=nl/\MI W.K as B hs P cl Z Y L H/\yz W as B hs Pb P' (φ Y L) D
def MS(X:Cx)(K:aT)(mg:Sq)(nl:Nat)(Pb P P':Ru)(s:SU)(φ:gi):Prop:=∀E,JS (X.ws E) s<|sM ⟨K,mg,E⟩ nl Pb P P' φ
def MB(X:Cx)(K:aT)(mg:Sq)(nl:Nat)(Pb P P':Ru)(s:List SU)(φ:gi):Prop:=∀E,JB (X.ws E) s<|sM ⟨K,mg,E⟩ nl Pb P P' φ
section
theorem cW{AS:Hp->α->β->Prop}(i:hs.length=nl)(h:yz W as B hs Pb P' (r.bs nl f) D')
  (q:∀a b μ1 c H1,MI W.K as B hs P c Z Y μ1 H1->Step as cl H c H1->AS (aj (c.flatten++as) H1) a b->yz W as B hs Pb P' (f a μ1) D'->Q b H1):qU W as B hs P Z Y cl H AS r Q:=by
 cases r with
 |ok a L=>exact fun b d H' I st e=>q a b L d H' I st e h
 |er x L=>exact fun y C d H' I g=>h y C Z _ H' (i▸I.mo) g
 |no=>exact h
def MI.set{K:aT}(I:MI K as B hs P cl Z Y L H)(b:i∉P)(g:bQ K #[5] d v):MI K as B hs P cl (Z.set i<|J v) (Y.set i<|J d) L H where
 len:=by simp[I.len]
 ex:=I.ex
 sb:=I.sb
 fb:=I.fb
 nd:=I.nd
 dj:=I.dj
 var:=fun j e q=>by
  rw[getElem?_set']at q⊢;split at q
  .rename_i hij;rw[SI hij];split at q
   .rename_i hl;rw[SI<|by rw[<-I.len];exact hl];mright
   .cases q
  .rename_i hij;rw[SM hij];exact I.var j e q
 lp:=I.lp
 lm:=I.lm
 ob:=fun k j c d h1 h2 f=>by
  have a:i≠j:=fun z=>b<|z▸Do h1;rw[dP a];exact I.ob k j c d h1 h2 f
 hl:=I.hl
 hd:=I.hd
end
section
variable{X:Cx}{K:aT}{mg:Sq}{nl:Nat}{P Pb P' P'':Ru}{pos:Pos}{e c:Ry}{φ:FM}{τ:lM}{α:qg}{ψ χ:gi}{st:SU}{sts:List SU}
def qM(nl i:Nat)(φ:FM):gi:=fun Y L=>(φ Y L).bs nl fun d L=>.nx (Y.set i<|J d) L
def Ow(j:i∉P)(b:X.N.Nodup)(m:Loc X.env.scope x)(f:ME X K mg P e φ)(l:X.N[i]?=J x)(hs:Uw e (J<|.Name x pos') pos.line X.env=pure η)(g:X.fn x=G\/X.env.scope.names.lookup x=J .local):
  MS X K mg nl Pb P P (.Assign [.Name x pos'] e pos) (qM nl i φ):=fun E=>(pw (X:=X.ws E) b m (f E) l hs g).imp (by intro D Z H n;refine Vc n fun as B o cl Y L p I h=>?_;exact ⟨as,B,o,cl,Y,L,I,cW p h fun d v μ1 a H1 k st c h1=>h1 a _ H1<|k.set j c⟩)
def sr(nl:Nat)(φ:FM):gi:=fun Y L=>(φ Y L).bs nl fun _ L=>.nx Y L
def KK(b:ME X K mg P e φ)(hs:Uw e U pos.line X.env=pure η):MS X K mg nl Pb P P (.Expr e pos)<|sr nl φ:=fun E=>(n9 (b E) hs).imp (by intro D Z H g;refine Vc g fun as B i cl Y L j I h=>?_;exact ⟨as,B,i,cl,Y,L,I,cW j h fun d v μ1 a H1 c st f h1=>h1 a _ H1 c⟩)
def xz(nl:Nat)(φ:FM):gi:=fun Y L=>(φ Y L).bs nl fun d L=>.rt d<|lst nl L
def QM(b:ME X K mg P e φ):MS X K mg nl Pb P P' (.Return (J e) pos)<|xz nl φ:=fun E=>(Fh<|b E).imp (by intro D Z H i;refine Vc i fun as B j cl Y L g I h=>?_;exact ⟨as,B,j,cl,Y,L,I,cW g h fun d v μ1 c H1 f st a h1=>h1 v _ H1 (g▸f.mo)<|a.mono<|g▸rM _ _ _ _⟩)
def UF(nl:Nat):gi:=fun _ L=>.rt .S9<|lst nl L
def pf(nl:Nat)(τ:lM)(ψ χ:gi):gi:=fun Y L=>(τ Y L).bs nl fun b L=>if b=G then ψ Y L else χ Y L
def akE(g:MT X K mg P c τ)(i:MB X K mg nl Pb P P' a ψ)(j:MB X K mg nl Pb P P' b χ):MS X K mg nl Pb P P' (.If c a b pos)<|pf nl τ ψ χ:=fun E=>(N6 (g E) (i E)<|j E).imp (by intro D Z H n;refine Vc n fun as B l cl Y L m I h=>?_;exact ⟨as,B,l,cl,Y,L,I,cW m h fun c k μ1 d H1 f st e h1=>by
  subst e;cases c with
  |true=>exact⟨as,B,l,d,Y,μ1,m,f,h1⟩
  |false=>exact⟨as,B,l,d,Y,μ1,m,f,h1⟩⟩)
def qG:gi:=fun Y L=>.nx Y L
noncomputable def bZ(ψ χ:gi):gi:=fun Y L=>match ψ Y L with
 |.nx Y L=>χ Y L
 |r=>r
def Q2(h:MS X K mg nl Pb P P' st ψ):MB X K mg nl Pb P P' [st] ψ:=fun E=>GK<|h E
theorem Kk(h1:MS X K mg nl Pb P P' st ψ)(h2:MB X K mg nl Pb P' P'' sts χ):MB X K mg nl Pb P P'' (st::sts)<|bZ ψ χ:=fun E=>(C0 (h1 E)<|h2 E).imp fun D Z H d=>Vc d fun as B b cl Y L c I h=>by
 refine⟨as,B,b,cl,Y,L,c,I,?_⟩;delta bZ at h;cases hr:ψ Y L with
 |nx a μ1=>rw[hr]at h;exact fun cl Z H I=>⟨as,B,b,cl,a,μ1,c,I,h⟩
 |_=>rw[hr]at h;exact h
def bV(nl:Nat)(τ:lM)(ψ:gi):Nat->gi
 |0,_,_=>.no
 |n+1,Y,L=>(τ Y L).bs nl fun b L=>if b=G then(match ψ Y L with
  |.nx Y L=>bV nl τ ψ n Y L
  |.ct Y L=>bV nl τ ψ n Y L
  |.bk Y L=>.nx Y L
  |r=>r)else .nx Y L
theorem EO(n:Nat)(g:X.stack=X.env::X.outer)(p:X.env.frame=J X.env.locals)(u:MT X K mg P c τ)(z:MB X K mg nl P P P sts ψ):MS X K mg nl Pb P P (.While c sts [] pos)<|bV nl τ ψ n:=fun E=>(yn ((by
  intro e s' q0_;refine gU q0_ fun Z H x C fl r0_ I ea hE=>?_;subst r0_;have o:X.A.frames=(X.env::X.outer):=by rw[<-g];exact I.ok.frames
  show notedBy #[0] X.A X.env (cameBackBy #[0] X.A X.env (XS X E)) (.ref x) s';refine rV p o g p I ea fun h1 r e1=>?_;left;refine XX e1.ob fun W vs b1 b2 t V N s=>?_;refine rA (s _ rfl) fun F oT ts c1 c2 Q O T R M=>?_;right;refine iF (Wo b1 t c1 ?_);exact jL r e1 X.env.frame fun a l v=>⟨Z,H,x,C,_,rfl,l,v,hE⟩)) (u E) (z E)).imp fun D' Z H q_=>Vc q_ fun as B h0 cl Y L hl I h=>by
 refine⟨fun m Z H=>∃cl Y L,MI K as B h0 P cl Z Y L H/\yz ⟨K,mg,E⟩ as B h0 Pb P (bV nl τ ψ m Y L) D',⟨n,cl,Y,L,I,h⟩,?_⟩;rintro m σ3 H3 ⟨cl3,δ3,μ3,I3,h3⟩;cases m with
 |zero=>exact h3.elim
 |succ m=>
  refine⟨as,B,h0,cl3,δ3,μ3,I3,cW hl h3 fun b S j k y l D e a=>?_⟩;subst e;cases b with
  |false=>exact a k σ3 y l
  |true=>
   refine⟨fun i H'=>∃cl Y L,MI K as B h0 P cl i Y L H'/\yz ⟨K,mg,E⟩ as B h0 Pb P (bV nl τ ψ m Y L) D',fun i H' q=>⟨m,mY m,q⟩,as,B,h0,k,δ3,j,hl,l,?_⟩;cases hr:ψ δ3 j with
   |nx f μ2=>rw[hr]at a;exact fun cl Z H I=>⟨cl,f,μ2,I,a⟩
   |ct f μ2=>rw[hr]at a;exact fun cl Z H I=>⟨cl,f,μ2,I,a⟩
   |bk f μ2=>rw[hr]at a;exact a
   |rt d μ2=>rw[hr]at a;exact a
   |er x μ2=>rw[hr]at a;exact a
   |no=>rw[hr]at a;exact a
theorem JS.xe(h:JS (X.Td E1) st t)(i:∀e s,E1 e s->E2 e s):JS (X.Td E2) st t:=⟨fun aa s Z H D I q=>UE (h.out aa s Z H D (I.Ul.Td _) q) (fun f s' z=>by
 cases f with
 |next=>obtain⟨a,H',b,q⟩:=z;exact⟨a,H',b.Ul.Td _,q⟩
 |brk=>obtain⟨a,H',b,q⟩:=z;exact⟨a,H',b.Ul.Td _,q⟩
 |cont=>obtain⟨a,H',b,q⟩:=z;exact⟨a,H',b.Ul.Td _,q⟩
 |ret u=>obtain⟨v,a,H',b,r,q⟩:=z;exact⟨v,a,H',b.Ul.Td _,r,q⟩) i⟩
def RL(nl:Nat)(a:Str)(α:qg):gi:=fun Y L=>(α Y L).bs nl fun l L=>if l.length<=10 then .er a (lst nl L)else .no
theorem Args.ph:∀{l:List AD}{vs:Se},Args K P Z Hm l vs->l.length=vs.length
 |[],_,h=>by subst h;rfl
 |.pl d::l,_,⟨v,r,e,h1,h2⟩=>by subst e;exact UN (·+1) h2.ph
 |.ob k::l,_,⟨v,r,i,e,h1,h2,h3⟩=>by subst e;exact UN (·+1) h3.ph
def FB(a:X.mg cn=J (.ref C))(k:mg=X.mg)(i:ek X.K C Gj "ValueError.__new__"=G)(r:MA X K mg P (e::es) α)(o:X.calm=G)(m:qQ X)(g:Gl X cn)(c:(cn==#[20])=η)
  (h1:(e::es).all al=G):MS X K mg nl Pb P P' (.Raise (J<|.Call (.Name cn np) (e::es) [] cpos) U pos)<|RL nl cn α:=fun E=>by
 let E1:XK:=fun y C H=>∃b d,y=.ref b/\C=J d/\∀Z,E b d Z H
 have j:JS (X.may E1) (.Raise (J<|.Call (.Name cn np) (e::es) [] cpos) U pos)<|ZB C E1<|RH ⟨K,mg,fun x C Z H=>E1 (.ref x) (C) H⟩ P α:=⟨DH a i o m (r fun x C Z H=>E1 (.ref x) (C) H).out g c h1⟩;refine(JS.xe (E2:=XS X E) j fun e s k=>gU k fun Z H x C fl e1 I ea k=>Tw k fun b d e2 e3 q=>?_).imp fun D Z H v=>Vc v fun as B t cl Y L u I h=>⟨as,B,t,cl,Y,L,I,?_⟩
 .cases e2;cases e3;exact⟨Z,H,x,C,fl,e1,I,ea,q Z⟩
 .have h':yz ⟨K,mg,fun x C Z H=>E1 (.ref x) (C) H⟩ as B t Pb P' (RL nl cn α Y L) D:=by
   cases hr:RL nl cn α Y L with
   |er x p=>rw[hr]at h;exact fun y C Z cl H O a=>⟨y,C,rfl,rfl,fun Z=>h y C Z cl H O a⟩
   |_=>rw[hr]at h;exact h
  refine cW u h' fun l vs μ1 n H1 f st A h1=>?_;split at h1
  .rename_i hl2;exact⟨by rw[<-A.ph];exact hl2,fun x=>h1 x C Z _ H1 (u▸f.mo)<|by rw[k];exact a⟩
  .exact h1.elim
end
section
variable{P:Tc}{w:Sl}{K:aT}{mg:Sq}{base:T3}{Pf P':Ru}{N ps:SH}{nl:Nat}{ψ:gi}
def aZ(n:Nat)(Y:Sd):Sd:=Y++Ut (n-Y.length) U
def bF(nl:Nat)(ψ:gi)(n k:Nat):FM:=fun Y L=>if Y.length=k/\L.length=nl then(match ψ (aZ n Y) L with
 |.nx _ L=>.ok .S9<|lst nl L
 |.rt d L=>.ok d L
 |.er x L=>.er x L
 |_=>.no)else .no
def MI.start(I:MI K as B hs Pf cl (vs.map J) Y L H):MI K as B hs Pf cl (start N vs) (aZ N.length Y) L H where
 len:=by have:=I.len;delta aZ L2.start;simp at this⊢;mright
 ex:=I.ex
 sb:=I.sb
 fb:=I.fb
 nd:=I.nd
 dj:=I.dj
 var:=fun i d e=>by
  have hl:=I.len;delta aZ at e;delta L2.start;by_cases b:i<Y.length
  .rw[uy b]at e;rw[uy<|by simp_all];exact I.var i d e
  .rw[nN<|by simp_all]at e
   grind
 lp:=I.lp
 lm:=I.lm
 ob:=fun k i c d h1 h2 f=>by
  obtain⟨⟨a,r,e,z⟩,q⟩:=I.ob k i c d h1 h2 f;refine⟨⟨a,r,e,?_⟩,q⟩;delta L2.start;rw[uy (rW.mp z).1];exact z
 hl:=I.hl
 hd:=I.hd
def BL(h:sJ K mg Pf (bF nl ψ N.length ps.length) vs H Q E):sM ⟨K,mg,fun y C Z H=>E (.ref y) (J C) H⟩ nl [] Pf P' ψ {nx:=fun _ H'=>Q .S9 H',rt:=Q} (start N vs) H:=by
 left;obtain⟨as,B,hs,cl,Y,L,i,I,h⟩:=h;right;delta bF at h;cbv
 .rename_i hc;have a:hs.length=nl:=by rw[i,<-I.lm];exact hc.2
  refine⟨as,B,hs,cl,_,L,a,I.start,?_⟩;cases hr:ψ (aZ N.length Y) L with
  |nx f μ1=>rw[hr]at h;exact fun b g H1 e=>h .S9 _ H1 (a▸e.mo) rfl
  |rt d μ1=>rw[hr]at h;assumption
  |er x μ1=>rw[hr]at h;exact fun y C Z b H1 O c=>h y C b H1 O c
  |bk _ _=>rw[hr]at h;mleft
  |ct _ _=>rw[hr]at h;mleft
  |no=>rw[hr]at h;mleft
 .mleft
def BW:∀vs H Q E,sJ K mg Pf (bF nl ψ N.length ps.length) vs H Q E->vs.length=ps.length:=fun vs H Q E h=>by
 obtain⟨as,B,hs,cl,Y,L,a,I,h⟩:=h;delta bF at h;cbv
 .rename_i hc
  have:=I.len
  rw[WH,hc.1]at this;exact this.symm
 .mleft
def UD.Y6{st:SU}(F:UD K x qual st f fd)(S:Vr N ps<|ai st)
  (c:∀(b:nE)(_:Ea K b qual=G)(A:Tx)(a:List Env)(s:ID)(H:Hp)(E:XK),TZ k (A.deeper<|W7 qual (ai st) s.heap.objs.size f b) ->
   MB (gw (oI P w mg) P w K mg base N qual (ai st) f b A a s H E) K mg nl [] Pf P' (bL st) ψ):T8 P w K mg base (oI P w mg) (k+1) f fd ps (sJ K mg Pf (bF nl ψ N.length ps.length)):=by
 obtain⟨l,o,kV,h,m,n,b,j,i,rfl,lk,d⟩:=F.ex;exact Qu lk (tF d) S BW fun A a s H vs Q E g e=>⟨_,((c b d A a s H E g) fun y C Z H=>E (.ref y) (C) H).out,BL e⟩
def Wr(F:FM):Rx->R D:=fun ds=>match F (ds.map J) []with
 |.ok d _=>.ok d
 |_=>.no
def PC(h:ay K H ds vs){i:Nat}(e:(ds.map J)[i]?=J (J d)):∃v,(vs.map J)[i]?=J (J v)/\bQ K H d v:=by
 rw[Xm]at e;obtain⟨d',e1,a⟩:=dO.mp e;obtain⟨v,h1,h2⟩:=h.get e1;mright
theorem T8.Wr(SK:T8 P w K mg base (oI P w mg) k f fd ps<|sJ K mg [] F):T8 P w K mg base lD k f fd ps<|rj K mg<|Wr F:=by
 have p:∀vs H Q E,rj K mg (L2.Wr F) vs H Q E->sJ K mg [] F vs H Q (fun _ _ _=>False):=fun vs H Q E C=>Tw C fun as ds ex B h=>by
  refine⟨as,H,[],[],ds.map J,[],rfl,⟨by rw[WH,WH];exact B.len,ex,ah.refl _,fun c m=>(nomatch m),fun c m=>(nomatch m),fun i j c y a h1=>(by cases h1),fun i d e=>PC B e,rfl,rfl,fun k i c d h1=>#[28],mK _,rfl⟩,?_⟩
  delta L2.Wr at h;cases g:F (ds.map J) []with
  |ok d L=>
   rw[g]at h;intro v cl H' O n;have  := by have:=O.hd;simpa using this
   subst this;exact h v H' O.sb n
  |er x L=>rw[g]at h;mleft
  |no=>rw[g]at h;mleft
 refine⟨fun vs H Q E h=>SK.len vs H Q _<|p _ _ _ _ h,fun A b s H l us vs Q E g q u t hs=>eo (SK.run A b s H l us vs Q _ g q u t<|p _ _ _ _ hs) fun r s' o=>?_⟩;cases r with
 |error e=>refine rA o fun _ _ _ _ _ _ _ _ _ z=>?_;exact z.elim
 |ok fl=>cases fl<;>exact o
end
section
variable{K:aT}
def MI.Gz(I:MI K as B hs P cl Z Y L H)(a:cl[k]?=J c)(l:b∈c)(h:vq K #[5] (br H b o) d' c):
  MI K as B hs P cl Z Y (L.set k d') (br H b o)/\Step as cl H cl (br H b o):=by
 have f:b∈cl.flatten++as:=Le _<|cH.mpr ⟨k,c,a,l⟩;have g:=iR (o:=o) (H:=H) f;refine⟨⟨I.len,I.ex,fun x u e=>?_,I.fb,I.nd,I.dj,fun i d e=>by rw[g];exact I.var i d e,I.lp,by rw[List.length_set];exact I.lm,fun j i s d h1 h2 m=>?_,I.hl,I.hd⟩,by show ah _ _;rw[g];exact ah.refl _⟩
 .have:x≠b:=fun z=>by rw[z,I.fb c (Do a) b l]at e;cases e
  rw[aG this];exact I.sb x u e
 .rw[g];by_cases n:k=j
  .have hl:k<L.length:=by rw[I.lm];grind
   refine US (I.get a) fun C t w v y A=>?_;mright
  .rw[dP n]at m;obtain⟨q,p⟩:=I.ob j i s d h1 h2 m;exact⟨q,p.mono #[23] fun x r u e=>by
    have:x≠b:=fun z=>n<|I.dj _ _ _ _ x a h2 (z▸l) r
    rw[aG this];exact e⟩
end
noncomputable def xU(f:Str)(d:D):List (Str×D)->List (Str×D)
 |[]=>[(f,d)]
 |(g,x)::r=>if g=f then(g,d)::r else(g,x)::xU f d r
def wt(d:D):Bool:=(xO d).isSome
section
variable{K:aT}
def iW.pl(h:wt d=η):iW K Hm H d v bs c↔bs=c/\bQ K Hm d v:=by
 delta wt at h;delta iW;mright
theorem dR.put(hd:wt d=η)(a:bQ K Hm d v):∀{fs:List<|Str×D}{xs:List<|Str×V}{bs:Sf},dR K Hm H fs xs bs->(∀x,fs.lookup f=J x->wt x=η)->dR K Hm H (xU f d fs) (f9 f v xs) bs
 |[],_,_,⟨e1,e2⟩,_=>by subst e1 e2;exact⟨v,[],[],rfl,(iW.pl hd).mpr ⟨rfl,a⟩,rfl,rfl⟩
 |(g,x)::fs,_,bs,⟨u,r,c,e,f1,f2⟩,h=>by
  subst e;unfold xU f9;by_cases q:g=f
  .rw[SI q,SI q];have hx  := h x #[28]
   have:=(iW.pl hx).mp f1
   exact⟨v,r,c,rfl,(iW.pl hd).mpr ⟨this.1,a⟩,f2⟩
  .rw[SM q,SM q];refine⟨u,_,c,rfl,f1,f2.put hd a fun y b=>?_⟩
   grind
theorem dR.Gk:∀{fs:List<|Str×D}{xs:List<|Str×V}{bs:Sf},dR K Hm H fs xs bs->fs.length=xs.length
 |[],_,_,⟨e1,e2⟩=>by subst e1;rfl
 |(g,x)::fs,_,bs,⟨u,r,c,e,f1,f2⟩=>by subst e;exact UN (·+1) f2.Gk
theorem dR.WK:∀{fs:List<|Str×D}{xs:List<|Str×V}{bs:Sf},dR K Hm H fs xs bs->fs.lookup f=J (.WK ds)->bs.Nodup->∃b ys,xs.lookup f=J (.ref b)/\b∈bs/\H b=J (.lst ys)/\ay K Hm ds ys /\
  ∀d a,ay K Hm d a->dR K Hm (br H b<|.lst a) (xU f (.WK d) fs) xs bs
 |[],_,_,_,h,_=>by nofun
 |(g,x)::fs,_,bs,⟨u,r,c,e,f1,f2⟩,h,nd=>by
  subst e;by_cases q:g=f
  .subst q;rw[We,beq_self_eq_true]at h;nofun;obtain⟨b,ys,rfl,rfl,h1,h2⟩:=f1;rw[Vx]at nd;refine⟨b,ys,by rw[We,beq_self_eq_true],Up,h1,h2,fun d a k=>?_⟩;unfold xU;rw[SI rfl];exact⟨.ref b,r,c,rfl,⟨b,a,rfl,rfl,aE,k⟩,f2.mono #[23] fun i l o e=>by
    rw[aG (by rintro rfl;exact nd.1 l)];exact e⟩
  .have qf:(f==g)=η:=⊥
   rw[We,qf]at h;have j:c.Nodup/\∀b∈c,∀i ys,xO x=ys->bs=i::c->b≠i:=by
    delta iW at f1
    grind
   left;refine y2 (f2.WK h j.1) fun b ys B m v w p=>?_;right;refine⟨b,ys,by grind,f1.sub b m,v,w,fun d a k=>?_⟩;unfold xU;rw[SM q];refine⟨u,r,c,rfl,?_,p d a k⟩;delta iW at f1⊢;cases el:xO x with
   |none=>mright
   |some dl=>
    rw[el]at f1;refine US f1 fun i t n s y A=>?_;exact⟨i,t,n,s,by rw[aG fun z=>j.2 b m i dl el n z.symm];exact y,A⟩
end
section
variable{X:Cx}{K:aT}{mg:Sq}{nl:Nat}{P Pb:Ru}{pos apos cpos p1 fpos:Pos}{e:Ry}{φ:FM}
noncomputable def xm(L:Rx)(k:Nat):Option<|Rx:=match L[k]? with
 |some (.lst ds)=>J ds
 |_=>U
theorem MI.lst(I:MI K as B hs P cl Z Y L H)(j:P[k]?=J i)(h:xm L k=J ds):
  ∃a xs,Z[i]?=J (J<|.ref a)/\H a=J (.lst xs)/\ay K #[5] ds xs/\∀e b,ay K #[5] e b->MI K as B hs P cl Z Y (L.set k<|.lst e) (br H a<|.lst b)/\Step as cl H cl (br H a<|.lst b):=by
 left;obtain⟨c,d,e1,l,⟨a,r,rfl,q1⟩,q2⟩:=I.at j;right;delta xm at h;rw[l]at h;cases d with
 |lst f=>
  nofun;cases r with
  |nil=>
   obtain⟨xs,h1,h2⟩:=q2;exact⟨a,xs,q1,h1,h2,fun e b g=>I.Gz e1 Up ⟨b,aE,g⟩⟩
  |cons _ _=>exact q2.elim
 |_=>nofun
def L3(k:Nat)(α:qg):FM:=fun Y L=>(α Y L).bind fun l L=>match f8 l,xm L k with
 |some [d],J ds=>if ds.length<1000000 then .ok .S9 (L.set k<|.lst<|ds++[d])else .no
 |_,_=>.no
def Ql(p:P[k]?=J i)(F:MA X K mg P [e] α)(y:X.N[i]?=J x)(R:al e=G)(b:#[6]=G)(M:m6 X.env.scope x)(hd:TN x)(g:#[2]=η)
  (c:WG #[9] "append" X.env (eval #[9] X.env)=eval #[9] X.env):
  ME X K mg P (.Call (.Attribute #[9] "append" apos) [e] [] cpos) (fun Y L=>if(xm L k).isSome=G then L3 k α Y L else .no):=fun E=>
 (DK (X:=X.ws E) oG lF lN gq (jv i y M hd g) (F E) c b #[28] (show 1<29 by simp)).imp fun Z H Q T=>UZ T fun as B hs cl Y L I h=>by
  dsimp only at h;cbv
  .rename_i hs1;obtain⟨q,u⟩:=tq.mp hs1;refine US (I.lst p u) fun a xs q1 q2 S _=>?_;refine fj q1 ?_;refine⟨.inl ⟨rfl,xs,gr.of q2⟩,as,B,hs,cl,Y,L,I,bx h fun l vs μ1 m H1 s st A h1=>?_⟩;split at h1
   .rename_i d ds hp hg1;obtain⟨v,r,rfl,C,t⟩:=A.plain hp;subst t;split at h1
    .refine US (s.lst p hg1) fun O f n w o D=>?_;rw[q1]at n;cases n;obtain⟨z,j⟩:=D (ds++[d]) (f++[v])<|o.append<|ay.cons C ay.nil;exact⟨a,f,v,rfl,rfl,w,by have:=ck;rw[<-o.len];lia,h1 _ m _ z j rfl⟩
    .exact h1.elim
   .exact h1.elim
  .mleft
noncomputable def S3(k:Nat)(ds:Rx)(L:Rx):RM D:=match ds[ds.length-1]? with
 |some d=>.ok d<|L.set k<|.lst ds.dropLast
 |none=>.no
def Qo(k:Nat):FM:=fun _ L=>match xm L k with
 |some ds=>S3 k ds L
 |none=>.no
def Xaz(p:P[k]?=J i)(m:X.N[i]?=J x)(b:#[6]=G)(q:m6 X.env.scope x)(hd:TN x)(f:#[2]=η)
  (c:WG #[9] "pop" X.env (eval #[9] X.env)=eval #[9] X.env):ME X K mg P (.Call (.Attribute #[9] "pop" apos) [] [] cpos)<|Qo k:=fun E=>
 (Cg (X:=X.ws E) oG lb lg wN (jv i m q hd f) c b).imp fun Z H Q r=>UZ r fun as B hs cl Y L I h=>by
  delta Qo at h;cases hg:xm L k with
  |none=>rw[hg]at h;mleft
  |some ds=>
   rw[hg]at h;refine US (I.lst p hg) fun a xs q1 q2 g l=>?_;dsimp only at h;delta S3 at h;cbv
   .rename_i d ed;obtain⟨v,n,j⟩:=g.get ed;obtain⟨o,e⟩:=l ds.dropLast xs.dropLast g.dropLast;refine fj q1 ?_;exact⟨.inl ⟨rfl,xs,gr.of q2⟩,a,xs,v,rfl,rfl,q2,by rw[<-g.len];exact n,h v cl _ o e<|j.mono e⟩
   .mleft
noncomputable def yE(L:Rx)(k:Nat)(n f:Str):Option<|Rx:=match L[k]? with
 |some (.obj x fs)=>if x=n then(match fs.lookup f with
  |some (.WK ds)=>J ds
  |_=>U)else U
 |_=>U
def L5(L:Rx)(k:Nat)(f:Str)(ds:Rx):Rx:=match L[k]? with
 |some (.obj x fs)=>L.set k<|.obj x<|xU f (.WK ds) fs
 |_=>L
theorem MI.fld(I:MI K as B hs P cl Z Y L H)(w:P[k]?=J i)(l:DO K By n=J #[14])(h:yE L k n f=J ds):
  ∃a j fs b xs,Z[i]?=J (J<|.ref a)/\H a=J (.ins C j fs)/\fs.lookup f=J (.ref b)/\H b=J (.lst xs)/\ay K #[5] ds xs/\∀g e,ay K #[5] g e->MI K as B hs P cl Z Y (L5 L k f g) (br H b<|.lst e)/\Step as cl H cl (br H b<|.lst e):=by
 left;obtain⟨c,d,e1,m,⟨a,r,rfl,q1⟩,q2⟩:=I.at w;right;delta yE at h;rw[m]at h;cases d with
 |obj x fs=>
  dsimp only at h;cbv
  .rename_i ex;subst ex;cbv
   .rename_i ds0 el;left;nofun;refine WM q2 fun y j xs o h1 h2=>?_;rw[l]at o;cases o;have nd:=I.nd _<|Do e1;rw[Vx]at nd;refine y2 (h2.WK el nd.2) fun b ys q p t v s=>?_;right;refine⟨a,j,xs,b,ys,q1,h1,q,t,v,fun g e u=>?_⟩;delta L5;rw[m];exact I.Gz e1 (ie _ p) ⟨C,j,xs,l,by rw[aG<|⊥];exact h1,s g e u⟩
   .nofun
  .nofun
 |_=>nofun
def FG{a b C c:SA}(h1:Z[i]?=J (J<|.ref a))(h2:H a=J (.ins C c fs))(e:UR K C)(d:a9 K C f)(g:fs.lookup f=J v)(q:Q v H):Vz K (z8 i) f Z H Q:=
 fj h1 ⟨a,C,c,fs,v,rfl,h2,e,d,g,q⟩
def nr(k:Nat)(n f:Str)(φ:FE):FM:=fun Y L=>match yE L k n f,φ Y with
 |some ds,.ok d=>if ds.length<1000000 then .ok .S9 (L5 L k f<|ds++[d])else .no
 |_,_=>.no
def LV{φ:FE}(y:P[k]?=J i)(w:DO K By n=J #[14])(S:UR K C)(hf:a9 K C f)(he:∀A,JE (X.Td A) e<|tD ⟨K,mg,E0⟩ [] φ)(F:X.N[i]?=J x)(l:al e=G)(c:#[6]=G)(hv:m6 X.env.scope x)(hd:TN x)(o:#[2]=η)
  (j:WG #[9] f X.env (eval #[9] X.env)=eval #[9] X.env) (m:WG (.Attribute #[9] f fpos) "append" X.env (eval (.Attribute #[9] f fpos) X.env)=eval (.Attribute #[9] f fpos) X.env) (O:X.K=K):
  ME X K mg P (.Call (.Attribute (.Attribute #[9] f fpos) "append" apos) [e] [] cpos) (nr k n f φ):=fun E=>
 (DK (X:=X.ws E) oG lF lN gq ⟨AO (qv i F hv hd o) j⟩ (bU (he _) eD l) m c #[28] (show 1<29 by simp)).imp fun Z H Q q_=>UZ q_ fun as B hs cl Y L I h=>by
  subst O;delta nr at h;left;cbv
  .rename_i ds d hg hφ;refine c9 (I.fld y w hg) fun a dx fs b xs q1 q2 z D q5 q6=>?_;right;refine FG (b:=b) q1 q2 S hf z ?_;refine⟨.inl ⟨rfl,xs,gr.of D⟩,cl.flatten++as,H,[],Y,I.di,?_⟩;rw[hφ];intro v H' s R;left;cbv
   .have I':=I.mono s;refine c9 (I'.fld y w hg) fun a' T V b' g r q u W t w6=>?_;rw[q1]at r;cases r;rw[s _ _ q2]at q;cases q;rw[z]at u;cases u;obtain⟨M,p⟩:=w6 (ds++[d]) (g++[v])<|t.append<|ay.cons R ay.nil;right;exact⟨b,g,v,rfl,rfl,W,by have:=ck;rw[<-t.len];lia,h _ cl _ M ((aA s).trans p) rfl⟩
   .right;mleft
  .right;mleft
def mh(k:Nat)(n f:Str):FM:=fun _ L=>match yE L k n f with
 |some ds=>(match ds[ds.length-1]? with
  |some d=>.ok d<|L5 L k f ds.dropLast
  |none=>.no)
 |none=>.no
def KA(z:P[k]?=J i)(y:DO K By n=J #[14])(w:UR K C)(A:a9 K C f)(q:X.N[i]?=J x)(c:#[6]=G)(D:m6 X.env.scope x)(hd:TN x)(l:#[2]=η)
  (g:WG #[9] f X.env (eval #[9] X.env)=eval #[9] X.env) (j:WG (.Attribute #[9] f fpos) "pop" X.env (eval (.Attribute #[9] f fpos) X.env)=eval (.Attribute #[9] f fpos) X.env) (u:X.K=K):
  ME X K mg P (.Call (.Attribute (.Attribute #[9] f fpos) "pop" apos) [] [] cpos) (mh k n f):=fun E=>
 (Cg (X:=X.ws E) oG lb lg wN ⟨AO (qv i q D hd l) g⟩ j c).imp fun Z H Q O=>UZ O fun as B hs cl Y L I h=>by
  subst u;delta mh at h;cbv
  .rename_i ds hg;cbv
   .rename_i d ed;left;refine c9 (I.fld z y hg) fun a M fs b xs q1 q2 F o m p=>?_;obtain⟨v,r,s⟩:=m.get ed;obtain⟨t,e⟩:=p ds.dropLast xs.dropLast m.dropLast;right;refine FG (b:=b) q1 q2 w A F ?_;exact⟨.inl ⟨rfl,xs,gr.of o⟩,b,xs,v,rfl,rfl,o,by rw[<-m.len];exact r,h v cl _ t e<|s.mono e⟩
   .mleft
  .mleft
def Jk(f:Str)(fs:List<|Str×D):Bool:=match fs.lookup f with
 |some y=>wt y
 |none=>η
def Xj(n f:Str)(d:D)(x:Str)(fs:List<|Str×D):Bool:=decide (x=n)&&!wt d&&decide (fs.length<1000)&&!Jk f fs
def Re(h:Xj n f d x fs=G):x=n/\wt d=η/\fs.length<1000/\∀y,fs.lookup f=J y->wt y=η:=by
 delta Xj at h;simp only[oR,simp,Yl]at h;obtain⟨⟨⟨a,b⟩,c⟩,d⟩:=h;refine⟨a,b,c,fun y e=>?_⟩;delta Jk at d;rw[e]at d;exact d
def xM(n f:Str)(d:D)(o:Option D):Option D:=match o with
 |some (.obj x fs)=>if Xj n f d x fs=G then J (.obj x<|xU f d fs)else U
 |_=>U
theorem MI.xM(I:MI K as B hs P cl Z Y L H)(q:P[k]?=J i)(j:DO K By n=J #[14])(h:L2.xM n f d L[k]?=J d')(p:bQ K #[5] d v):
  ∃a g fs,Z[i]?=J (J<|.ref a)/\H a=J (.ins C g fs)/\fs.length<1000/\MI K as B hs P cl Z Y (L.set k d') (br H a<|.ins C g<|f9 f v fs)/\Step as cl H cl (br H a<|.ins C g<|f9 f v fs):=by
 left;obtain⟨c,m,e1,t,⟨a,r,rfl,q1⟩,q2⟩:=I.at q;right;delta L2.xM at h;rw[t]at h;cases m with
 |obj x fs=>
  dsimp only at h;cbv
  .rename_i hc;left;obtain⟨rfl,hd,u,s⟩:=Re hc;nofun;refine WM q2 fun w g xs l h1 h2=>?_;rw[j]at l;cases l;right;have nd:=I.nd _<|Do e1;rw[Vx]at nd;refine⟨a,g,xs,q1,h1,by rw[<-h2.Gk];exact u,I.Gz e1 Up ⟨C,g,_,j,aE,?_⟩⟩;refine(h2.mono #[23] fun b y o e=>by rw[aG<|⊥];exact e).put hd p s
  .nofun
 |_=>nofun
def Bs(nl k:Nat)(n f:Str)(φ:FM):gi:=fun Y L=>(φ Y L).bs nl fun d L=>match xM n f d L[k]? with
 |some d'=>.nx Y<|L.set k d'
 |none=>.no
def K7(s:P[k]?=J i)(r:DO K By n=J #[14])(q:UR K C)(t:a9 K C f)(u:ME X K mg P e φ)(l:X.N[i]?=J x)(w:m6 X.env.scope x)(hd:TN x)(b:#[2]=η)
  (hs:Uw e (J<|.Attribute #[9] f pos') pos.line X.env=pure η) (o:X.K=K):MS X K mg nl Pb P P (.Assign [.Attribute #[9] f pos'] e pos)<|Bs nl k n f φ:=fun E=>
 JS.imp ⟨GB (qv i l w hd b) (u E).out hs⟩ fun D Z H z=>Vc z fun as B A cl Y L F I h=>by
  subst o;refine⟨as,B,A,cl,Y,L,I,cW F h fun d v μ1 c H1 g st p h1=>?_⟩;left;split at h1
  .rename_i d' hs;refine rm (g.xM s r hs p) fun a j fs q1 q2 y m _=>?_;right;refine fj q1 ?_;exact⟨a,C,j,fs,rfl,q2,q,t,y,h1 c Z _ m⟩
  .right;exact h1.elim
def uE(k:Nat)(n f:Str)(j:Int):gi:=fun Y L=>match L[k]? with
 |some (.obj x fs)=>(match fs.lookup f with
  |some (.int i)=>(match xM n f (.int<|i+j) L[k]? with
   |some d'=>.nx Y<|L.set k d'
   |none=>.no)
  |_=>.no)
 |_=>.no
theorem dR.look:∀{fs:List<|Str×D}{xs:List<|Str×V}{bs:Sf},dR K Hm H fs xs bs->fs.lookup f=J d->wt d=η->∃v,xs.lookup f=J v/\bQ K Hm d v
 |[],_,_,_,h,_=>by nofun
 |(g,x)::fs,_,bs,⟨u,r,c,e,f1,f2⟩,h,hd=>by
  subst e;rw[We]at h⊢;cases q:f==g with
  |true=>rw[q]at h;nofun;exact⟨u,rfl,((iW.pl hd).mp f1).2⟩
  |false=>rw[q]at h;exact f2.look h hd
def K8(m:P[k]?=J i)(M:DO K By n=J #[14])(A:UR K C)(O:a9 K C f)(q:X.N[i]?=J x)(S:m6 X.env.scope x)(hd:TN x)(d:#[2]=η)
  (z:X.K=K):MS X K mg nl Pb P P (.AugAssign (.Attribute #[9] f tpos) .Add (.Constant (.int j) jj vpos) pos)<|uE k n f j:=fun E=>
 JS.imp ⟨D6 (qv i q S hd d) AE OH⟩ fun D Z H q_=>Vc q_ fun as B h0 cl Y L hl I h=>by
  subst z;obtain⟨c,p,e1,o,⟨a,r,rfl,q1⟩,q2⟩:=I.at m;delta uE at h;rw[o]at h;cases p with
  |obj y fs=>
   dsimp only at h;left;cbv
   .rename_i i0 el;cbv
    .rename_i d' hs;rw[<-o]at hs;refine rm (I.xM m M hs rfl) fun V e xs g b w u _=>?_;rw[q1]at g;cases g;refine WM q2 fun T F Q W l s=>?_;rw[b]at l;cases l;obtain⟨v,R,t⟩:=s.look el rfl;right;subst t;refine fj q1 ?_;exact⟨a,C,e,xs,.int i0,rfl,b,A,O,R,i0,j,rfl,rfl,e,xs,b,w,h cl Z _ u⟩
    .right;mleft
   .right;mleft
  |_=>mleft
end
section
variable{K:aT}
def n5(d:ah H H2)(new:∀a∈c,H a=U):ah #[5]<|aj ((c::cl).flatten++as) H2:=fun b o e=>by
 have g:b∉cl.flatten++as:=fun z=>by rw[bT z]at e;cases e
 rw[av g]at e;have f:b∉(c::cl).flatten++as:=fun z=>by
  rw[ac8,Vw]at z
  grind
 rw[av f];exact d b o e
def MI.grow(I:MI K as B hs P cl Z Y L H)(w:i∉P)(hl:i<Z.length)(g:ah H H2)(new:∀a∈c,H a=U)(D:c=x::r)(nd:c.Nodup)(C:vq K (aj ((c::cl).flatten++as) H2) H2 d c):
  MI K as B hs (i::P) (c::cl) (Z.set i<|J<|.ref x) (Y.set i U) (d::L) H2 where
 len:=by simp[I.len]
 ex:=I.ex
 sb:=I.sb.trans g
 fb:=fun f h a u=>by
  rcases eQ.mp h with rfl|h
  .exact I.sb.free (new a u)
  .exact I.fb f h a u
 nd:=fun f h=>by
  rcases eQ.mp h with rfl|h
  .exact nd
  .exact I.nd f h
 dj:=fun m n c1 c2 a h1 h2 l p=>by
  have t:∀{j:Nat}{f:Sf},cl[j]?=J f->a∈f->a∈c->False:=fun{j f}q1 q2 q3=>I.Vq a (Le _<|cH.mpr ⟨j,f,q1,q2⟩)<|new a q3;cases m with
  |zero=>
   cases n with
   |zero=>rfl
   |succ n=>simp at h1 h2;subst h1;exact(t h2 p l).elim
  |succ m=>
   cases n with
   |zero=>simp at h1 h2;subst h2;exact(t h1 l p).elim
   |succ n=>simp at h1 h2;exact UN (·+1)<|I.dj m n c1 c2 a h1 h2 l p
 var:=fun j e q=>by
  rw[getElem?_set']at q;split at q
  .mright
  .obtain⟨v,h1,h2⟩:=I.var j e q;exact⟨v,by simp_all,h2.mono<|n5 g new⟩
 lp:=by simp[I.lp]
 lm:=by simp[I.lm]
 ob:=fun k j f d' h1 h2 l=>by
  cases k with
  |zero=>
   simp at h1 h2 l;mright
  |succ k=>
   have s:i≠j:=fun z=>w<|z▸Do h1;rw[dP s];obtain⟨A,y⟩:=I.ob k j f d' h1 h2 l;exact⟨A,y.mono (n5 g new) fun b _ o e=>g b o e⟩
 hl:=by have:=I.hl;simp;lia
 hd:=by
  have h1:=I.hl;have h2:=I.hd;rw[uq,Nat.succ_sub h1];exact h2
end
section
variable{X:Cx}{K:aT}{mg:Sq}{nl:Nat}{P Pb Pf:Ru}{pos p cpos:Pos}{e:Ry}{es:List Ry}{φ:FM}{α:qg}{F F0:FM}
def P3(nl i:Nat)(α:qg):gi:=fun Y L=>(α Y L).bs nl fun l L=>match f8 l with
 |some ds=>if ds.length<=1000000/\i<Y.length then .nx (Y.set i U) (.lst ds::L)else .no
 |none=>.no
def PD(k:i∉P)(j:X.N.Nodup)(m:Loc X.env.scope x)(f:MA X K mg P es α)(g:X.N[i]?=J x)(hs:Uw (.List es cpos) (J<|.Name x pos') pos.line X.env=pure η)(o:X.fn x=G\/X.env.scope.names.lookup x=J .local):
  MS X K mg nl Pb P (i::P) (.Assign [.Name x pos'] (.List es cpos) pos) (P3 nl i α):=fun E=>(pw (X:=X.ws E) j m (Hi<|f E) g hs o).imp (by intro D Z H q;refine Vc q fun as B r cl Y L t I h=>?_;exact ⟨as,B,r,cl,Y,L,I,cW t h fun l vs μ1 n H1 c st A h1=>by
  cases b:f8 l with
  |none=>rw[b]at h1;exact h1.elim
  |some ds=>
   rw[b]at h1;dsimp only at h1;split at h1
   .rename_i hc;have e:=A.plain b;refine⟨by rw[<-e.len];exact RW hc.1 ck,fun p b=>?_⟩;have s:=bR b<|.lst vs;have d:∀a∈[p],H1 a=U:=fun a f=>by mright
    exact h1 _ _ _<|c.grow k (by rw[<-c.len];exact hc.2) s d rfl ∅ ⟨vs,aE,e.mono<|n5 s d⟩
   .exact h1.elim⟩)
def IP:m5 (oI X.prog X.w X.mg) (X.ws E) (fun _ _ _=>False):=fun aa Z H s e s' I h=>by
 obtain⟨_,_,_,_,_,_,_,_,_,z⟩:=h;exact z.elim
def M9(n:Str)(F0:FM)(l:List AD):Option D:=match f8 l with
 |some _=>(match F0 (U::uB l) [.obj n []]with
  |.ok .S9 [d]=>J d
  |_=>U)
 |none=>U
def xf{Q:VK}(I:MI K as B hs P cl Z Y L H)(A:Args K P Z #[5] l vs)(T:DO K By n=J #[14])(h:M9 n F0 l=J d)
  (q:∀x r m,ah H m->(∀a∈x::r,H a=U)->(x::r).Nodup->vq K (aj (((x::r)::cl).flatten++as) m) m d (x::r)->Q (.ref x) m):
  ∀x f,H x=U->H f=U->f≠x->sJ K mg [0] F0 (.ref x::(vs++[])) (br (br H f<|.own x) x<|.ins C f []) (fun v m=>v=.S9/\Q (.ref x) m) (fun _ _ _=>False):=fun x f p u R=>by
 rw[Wz];unfold M9 at h;cbv
 .rename_i ds hp;have t:ah H<|br (br H f<|.own x) x<|.ins C f []:=fun b o e=>by rw[aG<|bc e p,aG<|bc e u];exact e
  have M:∀a∈cl.flatten++as,a∉[x]:=fun a g z=>by rw[IF.mp z]at g;exact I.Vq x g p
  have D:ah H<|aj [x]<|br (br H f<|.own x) x<|.ins C f []:=lH t fun a g=>by rw[IF.mp g];exact p
  have N:ah #[5]<|aj ([[x]].flatten++(cl.flatten++as))<|br (br H f<|.own x) x<|.ins C f []:=fun b o e=>by
   have F:b∉cl.flatten++as:=fun z=>by rw[bT z]at e;cases e
   rw[av F]at e;rw[av fun z=>?_]
   .exact t b o e
   .rcases BY.mp z with z|z
    .rw[show b=x by simpa using z,p]at e;cases e
    .exact F z
  refine⟨cl.flatten++as,aj [x]<|br (br H f<|.own x) x<|.ins C f [],[x],[[x]],U::uB l,[.obj n []],rfl,⟨?_,fun a g=>?_,aD _ _,fun c w a g=>?_,fun c w=>?_,fun i j c W a h1 h2 _ _=>?_,fun i d' e=>?_,rfl,rfl,fun k i c d' h1 h2 E=>?_,mK _,rfl⟩,?_⟩
  .show(uB l).length+1=_;rw[A.len];simp
  .rw[av<|M a g];cases e:H a with
   |none=>exact absurd e<|I.Vq a g
   |some o=>rw[t a o e];simp
  .rw[IF.mp w]at g;exact bT g
  .rw[IF.mp w];simp
  .have:=(rW.mp h1).1;have:=(rW.mp h2).1;simp at *;lia
  .cases i with
   |zero=>mright
   |succ i=>
    obtain⟨v,h1,h2⟩:=A.var (by assumption);exact⟨v,by simp[h1],h2.mono N⟩
  .cases k with
   |zero=>
    simp at h1 h2 E;subst h1 h2 E;exact⟨⟨x,[],rfl,rfl⟩,C,f,[],T,aE,rfl,rfl⟩
   |succ k=>contradiction
  .cbv
   .rename_i d0 hF;nofun;rw[hF];intro v s H' O S;have V:v=.S9:=S;refine⟨V,?_⟩;have hd:=O.hd;cases s with
    |nil=>mright
    |cons c r=>
     cases r with
     |cons _ _=>mright
     |nil=>
      simp at hd;cases c with
      |nil=>mright
      |cons y r=>
       simp at hd;subst hd;refine q y r H' (D.trans O.sb) (fun a g=>?_) (O.nd _<|∅) ?_
       .have:=O.fb (y::r) ∅ a g
        cases e:H a with
        |none=>rfl
        |some o=>rw[D a o e]at this;cases this
       .have:=O.ob 0 (y::r) d rfl rfl
        simpa using this
   .nofun
 .nofun
def vf(nl i:Nat)(n:Str)(F0:FM)(α:qg):gi:=fun Y L=>(α Y L).bs nl fun l L=>match M9 n F0 l with
 |some d=>if i<Y.length then .nx (Y.set i U) (d::L)else .no
 |none=>.no
def LI(z:i∉P)(y:X.N.Nodup)(O:Loc X.env.scope x)(u:X.N[i]?=J x)(hs:Uw (.Call (.Name n p) (e::es) [] cpos) (J<|.Name x pos') pos.line X.env=pure η)(T:X.fn x=G\/X.env.scope.names.lookup x=J .local)
  (S:DO K By n=J #[14]) (a:X.mg n=J (.ref C)) (M:Mk X.K C g) (SK:T8 X.prog X.w X.K X.mg X.base (oI X.prog X.w X.mg) j g fd ps<|sJ K mg [0] F0) (b:cf X.K fd ps []) (s:TZ k X.A) (V:MA X K mg P (e::es) α)
  (hj:j+1<=k) (t:Gl X n) (m:(n==#[20])=η) (h1:al e=G) (h2:es.all al=G):MS X K mg nl Pb P (i::P) (.Assign [.Name x pos'] (.Call (.Name n p) (e::es) [] cpos) pos)<|vf nl i n F0 α:=fun E=>
 (pw (X:=X.ws E) y O ⟨Cb M SK (s.mono hj) t a b .nil IP (V E).out m (bC h1)<|bH h2⟩ u hs T).imp fun D Z H h=>(by
   refine Vc h fun as B h0 cl Y L W I h=>?_;refine⟨as,B,h0,cl,Y,L,I,cW W h fun l vs μ1 R H1 c st A h1=>?_⟩;split at h1
   .rename_i d a;split at h1
    .rename_i hlt;exact xf (Q:=fun v q=>D.nx (Z.set i<|v) q) c A S a fun x r q f new F o=>h1 _ _ _<|c.grow z (by rw[<-c.len];exact hlt) f new rfl F o
    .exact h1.elim
   .exact h1.elim)
def Fp(u:i∉P)(t:X.N.Nodup)(z:Loc X.env.scope x)(s:X.N[i]?=J x)(hs:Uw (.Call (.Name n p) [] [] cpos) (J<|.Name x pos') pos.line X.env=pure η)(O:X.fn x=G\/X.env.scope.names.lookup x=J .local)
  (F:DO K By n=J #[14]) (a:X.mg n=J (.ref C)) (M:Mk X.K C g) (SK:T8 X.prog X.w X.K X.mg X.base (oI X.prog X.w X.mg) j g fd ps<|sJ K mg [0] F0) (b:cf X.K fd ps []) (o:TZ k X.A)
  (S:j+1<=k) (q:Gl X n) (e:(n==#[20])=η):MS X K mg nl Pb P (i::P) (.Assign [.Name x pos'] (.Call (.Name n p) [] [] cpos) pos)<|vf nl i n F0 bj:=fun E=>
 (pw (X:=X.ws E) t z ⟨IB M SK (o.mono S) q a b .nil IP e⟩ s hs O).imp fun D Z H h=>by
  refine Vc h fun as B R cl Y L T I h=>?_;have h1:yz ⟨K,mg,E⟩ as B R Pb (i::P) (match M9 n F0 []with|some d=>if i<Y.length then .nx (Y.set i U) (d::L)else .no|none=>.no) D:=h
  split at h1
  .rename_i d a;split at h1
   .rename_i hlt;exact xf (Q:=fun v m=>D.nx (Z.set i<|v) m) I (l:=[]) rfl F a fun x r m c new y f=>h1 _ _ _<|I.grow u (by rw[<-I.len];exact hlt) c new rfl y f
   .exact h1.elim
  .exact h1.elim
def xw(n:Str)(F0 F:FM)(α:qg):FM:=fun Y L=>(α Y L).bind fun l L=>match M9 n F0 l with
 |some d=>(match F [U] [d]with
  |.ok r _=>.ok r L
  |.er x _=>.er x L
  |.no=>.no)
 |none=>.no
def Ds{st:SU}(hn:DO K By n=J #[14])(V:X.mg n=J (.ref C))(M:Mk X.K C g)(SK:T8 X.prog X.w X.K X.mg X.base (oI X.prog X.w X.mg) j g fd ps<|sJ K mg [0] F0)(b:cf X.K fd ps [])(hr:TZ k X.A)(I:MA X K mg P (e::es) α)
  (hj:j+1<=k) (hg:Gl X n) (hdb:(n==#[20])=η) (h1:al e=G) (h2:es.all al=G)
  (D:Def X.K X.mg f st ps2 fa fd2) (G2:T8 X.prog X.w X.K X.mg X.base (oI X.prog X.w X.mg) j2 fa fd2 ps2<|sJ K mg [0] F) (hj2:j2<=k) (hx:qQ X) (hg2:Gl X f) (S:(f==#[20])=η):
  ME X K mg P (.Call (.Name f p2) [.Call (.Name n p) (e::es) [] cpos] [] pos2) (xw n F0 F α):=fun E=>⟨fun aa s Z H Q I0 q_=>UZ q_ fun as B hs cl Y L M0 h=>by
 refine Yr<|dD I0 hg2 D.m ?_ S;have ja:=bU (X:=X.ws E) ⟨Cb (X:=X.ws E) (p:=p) (pos:=cpos) (E:=fun _ _ _=>False) M SK (hr.mono hj) hg V b .nil IP (I E).out hdb (bC h1)<|bH h2⟩ eD rfl;have hA:uM (Ew C (sJ K mg [0] F0) [] (fun _ _ _=>False)<|RH ⟨K,mg,E⟩ P α) DG Z H fun vs H1=>sJ K mg [0] F vs H1 Q<|AR E Z:=⟨as,B,hs,cl,Y,L,M0,bx h fun l vs μ1 t H1 R st A h1=>by
  split at h1
  .rename_i d hmk;refine xf (K:=K) (mg:=mg) (Q:=fun v N=>sJ K mg [0] F [v] N Q<|AR E Z) R A hn hmk fun x r N T new nd clu=>?_;have sm:ah H1<|aj (x::r) N:=lH T new;have sall:ah (aj (t.flatten++as) H1)<|aj (((x::r)::t).flatten++as) N:=n5 T new;have W:∀a∈t.flatten++as,aj (x::r) N a≠U:=fun a I=>by
    cases e:H1 a with
    |none=>exact absurd e<|R.Vq a I
    |some o=>rw[sm a o e];simp
   refine⟨t.flatten++as,aj (x::r) N,[x],[x::r],[U],[d],rfl,⟨rfl,W,aD _ _,fun c hc a I=>?_,fun c hc=>?_,fun i j c c' a h1 h2 _ _=>?_,fun i d' e=>?_,rfl,rfl,fun k i c d' h1 h2 h3=>?_,mK _,rfl⟩,?_⟩
   .rw[IF.mp hc]at I;exact bT I
   .rw[IF.mp hc];exact nd
   .have:=(rW.mp h1).1;have:=(rW.mp h2).1;simp at *;mright
   .cases i with
    |zero=>mright
    |succ i=>cases e
   .cases k with
    |zero=>
     simp at h1 h2 h3;subst h1 h2 h3;exact⟨⟨x,r,rfl,rfl⟩,by simpa using clu⟩
    |succ k=>contradiction
   .have back:∀u z H',MO K (t.flatten++as) (aj (x::r) N) [x] u z H'->MI K as B hs P t Z Y μ1 H'/\Step as t H1 t H':=fun u z H' O=>⟨R.mono<|sm.trans O.sb,aA<|sm.trans O.sb⟩;cases hF:F [U] [d]with
    |ok rr z=>
     rw[hF]at h1;intro v u H' O dv;obtain⟨I2,st2⟩:=back u z H' O;exact h1 v t H' I2 st2<|dv.mono<|kD fun a I=>OR _ I
    |er x' z=>
     rw[hF]at h1;intro y C u H' O V;exact⟨y,C,rfl,rfl,h1 y C t H' (back u z H' O).1 V⟩
    |no=>rw[hF]at h1;exact h1.elim
  .exact h1.elim⟩
 refine yw I0.ok.mod.XM D.F.kp (bP (ja.out pos2 aa s Z H _ I0 hA) fun us s1 hh=>jZ hh fun vs H1 R r q=>⟨R.U3,?_⟩) rfl rfl;exact bP (rS G2 (hr.mono hj2) D.b hx R.Ul r q) fun _ _ q=>q.ws⟩
end
noncomputable abbrev Cx.pin(X:Cx)(pl:TQ):Cx:={X with pn:=X.pn++pl}
section
variable{X:Cx}{Z:St}
def we{p:SA×Obj}:p∈(a++b)++[]↔p∈a++b:=by rw[Wz]
def Cx.Ok.pin(ok:X.Ok):(X.pin pl).Ok:=⟨ok.mod,ok.kind,ok.glob,ok.blt,ok.above,ok.inj,ok.has,ok.sY,ok.hd,ok.frames,ok.xN,ok.x9,ok.bs,ok.Wq,ok.Zo,ok.ZR,ok.WE,ok.XJ⟩
def Cx.Ok.acG(ok:(X.pin pl).Ok):X.Ok:=⟨ok.mod,ok.kind,ok.glob,ok.blt,ok.above,ok.inj,ok.has,ok.sY,ok.hd,ok.frames,ok.xN,ok.x9,ok.bs,ok.Wq,ok.Zo,ok.ZR,ok.WE,ok.XJ⟩
def Inv.AfI(I:Inv X pl Z H s):Inv (X.pin pl) [] Z H s:=⟨I.ok.pin,I.os,I.bare,I.base,I.loc,I.cell,I.free,I.WZ,fun p a=>I.pin p<|we.mp a,I.Su,I.len,I.tk⟩
def Inv.gz(I:Inv (X.pin pl) [] Z H s):Inv X pl Z H s:=⟨I.ok.acG,I.os,I.bare,I.base,I.loc,I.cell,I.free,I.WZ,fun p a=>I.pin p<|we.mpr a,I.Su,I.len,I.tk⟩
def Nw.gz(n:Nw (X.pin pl) [] b):Nw X pl b:=⟨n.base,n.loc,n.fs,n.cell,fun p a=>n.pin p<|we.mpr a⟩
def ExcAt.gz(e:ExcAt (X.pin pl) [] H h x C fl):ExcAt X pl H h x C fl:=by
 refine XX e.ob fun g vs h1 h2 i f j d=>?_;exact⟨e.nx.gz,e.hx,g,vs,h1,h2,i,f,j,fun v z=>let⟨T,oT,ts,a,b,c⟩:=d v z;⟨T,oT,ts,a,b.gz,c⟩⟩
end
section
variable{X:Cx}{K:aT}{mg:Sq}{nl:Nat}{P Pb P':Ru}{tp hpos tpos rpos:Pos}{T:Str}{CT:SA}{mt:Str->Bool}{b₀:SU}{bs:List SU}{φ:FM}{ψ:FS}{e:Ry}
def TM(nl:Nat)(P:Ru)(ψ:FS)(Y:Sd)(L:Rx):RS:=match ψ (fill P L Y)with
 |.ok (.rt d)=>if Sj d=G then .rt d (lst nl L)else .no
 |_=>.no
def Ih{Z:St}(l:∀pl,ME (X.pin pl) K mg P e φ)(I:Inv X aa Z H s)(M:MI K as B hs P cl Z Y L H)
  (i:∀d a v u b H' s',φ Y L=.ok d a->Inv X aa Z H' s'->MI K as B hs P b Z Y a H'->aP v u->bQ K (aj (b.flatten++as) H') d v->Q u s')
  (h:∀x a y C fl b H' s',φ Y L=.er x a->mg x=J (.ref C)->Inv X aa Z H' s'->MI K as B hs P b Z Y a H'->ExcAt X aa H' s'.heap y C fl->E' (.ref y) s') (g:φ Y L≠.no):SN #[0] X.A (eval e X.env) Q E' s:=by
 let E2:RQ:=fun y C f H'=>f=Z/\∃x a b,φ Y L=.er x a/\mg x=J (.ref C)/\MI K as B hs P b Z Y a H'
 have t:tM ⟨K,mg,E2⟩ P φ Z H fun v H'=>∃d a b,φ Y L=.ok d a/\MI K as B hs P b Z Y a H'/\bQ K (aj (b.flatten++as) H') d v:=⟨as,B,hs,cl,Y,L,M,by
  cases hr:φ Y L with
  |ok d a=>exact fun v b H' c _ k=>⟨d,a,b,rfl,c,k⟩
  |er x a=>exact fun y C b H' c j=>⟨rfl,x,a,b,hr,j,c⟩
  |no=>exact g hr⟩
 refine UE ((l aa E2).out [] s Z H _ (I.AfI.Td _) t) (fun u s' k=>Tw k fun v H' c r k=>WM k fun d a b h1 h2 h3=>i d a v u b H' s' h1 c.Ul.gz h2 r h3) fun z s' k=>gU k fun f H' y C fl e1 c ea k=>WM k.2 fun x a b h1 h2 h3=>?_;have e2:=k.1;subst e1 e2;exact h x a y C fl b H' s' h1 h2 c.gz h3 ea.gz
theorem C3{Z a:St}(l:hs.length=nl)(i:JB ((X.hand y).Xe) (b₀::bs)<|sD ⟨K,mg,fun _ _ _=>False⟩ [] [] [] ψ)(I:Inv X aa a H' s)
  (M:MI K as B hs P cl Z Y L H) (t:DI K as H' [] [] a δ2 H') (m:ah H H')
  (h:yz ⟨K,mg,E⟩ as B hs Pb P' (match ψ δ2 with|.ok (.rt d)=>if Sj d=G then .rt d (lst nl L)else .no|_=>.no) D'):
  SN #[0] (X.A.mark<|J y) (execs (b₀::bs) X.env) (fun f j=>∃u v a H',f=.ret u/\Inv X aa a H' j/\aP v u/\D'.rt v H') (fun _ _=>False) s:=by
 have b:c8 ⟨K,mg,fun _ _ _=>False⟩ as H' [] [] (ψ δ2) {nx:=fun _ _=>False,rt:=D'.rt}:=by
  cbv
  .rename_i d hd;rw[hd];intro v g j p;cbv
   .rename_i hn;have k:=M.mono<|m.trans j;exact h v _ g (l▸k.mo)<|(k.flat hn p).mono<|l▸rM _ _ _ _
   .mleft
  .mleft
 have e:=i.out aa _ a H' {nx:=fun _ _=>False,rt:=D'.rt} ((I.hand y).Td _) ⟨as,H',[],δ2,t,b⟩;refine UE e (fun f x q=>?_) fun _ _ z=>z;have q2:=q.Ul.kn I.ok;cases f with
 |ret u=>refine WM q2 fun v c g o r n=>?_;exact⟨u,v,c,g,rfl,o,r,n⟩
 |next=>obtain⟨_,_,_,z⟩:=q2;exact z.elim
 |brk=>obtain⟨_,_,_,z⟩:=q2;exact z.elim
 |cont=>obtain⟨_,_,_,z⟩:=q2;exact z.elim
def sO(nl:Nat)(P:Ru)(φ:FM)(mt:Str->Bool)(ψ:FS):gi:=fun Y L=>match φ Y L with
 |.ok d L=>.rt d<|lst nl L
 |.er x L=>if mt x=G then TM nl P ψ Y L else .no
 |.no=>.no
def KI(t:∀pl,ME (X.pin pl) K mg P e φ)(A:mg=X.mg)(o:X.mg T=J (.ref CT))(m:LL X.K X.mg mt CT)(hs:∀y,JB ((X.hand y).Xe) (b₀::bs)<|sD ⟨K,mg,fun _ _ _=>False⟩ [] [] [] ψ)
  (j:X.stack=X.env::X.outer) (g:X.env.frame=J X.env.locals) (i:Gl X T) (k:(T==#[20])=η):
  MS X K mg nl Pb P P' (.Try [.Return (J e) rpos] [.ExceptHandler (J<|.Name T tp) U (b₀::bs) hpos] [] [] tpos) (sO nl P φ mt ψ):=fun E=>by
 refine⟨fun aa s Z H D' I q=>Vc q fun as B h0 cl Y L hl M h=>?_⟩;unfold sO at h;refine wpAny_Try_except<|wpAny_execs_cons<|wpAny_Return_some<|Ih (X:=X) t I.Ul M (fun d l v u b H' s' e1 c a r q=>?_) (fun x l y C fl b H' s' e1 w c a n=>?_) ?_
 .rw[e1]at h;exact⟨v,Z,H',c.Td _,r,h v _ H' (hl▸a.mo)<|q.mono<|hl▸rM _ _ _ _⟩
 .rw[e1]at h;dsimp only at h;cbv
  .rename_i hy;refine Cz (X:=X) j g o (m x C hy<|by mright).2 i k c n fun h' t' p D=>?_;exact UE (C3 hl (hs<|.ref y) p a a.vZ #[23] h) (by rintro f s3⟨u,v,σ',H',e3,I3,r,hD⟩;exact by subst e3;exact⟨v,σ',H',I3.Td _,r,hD⟩) fun _ _ z=>z
  .mleft
 .intro e1;rw[e1]at h;exact h
def yW(nl:Nat)(P:Ru)(φ:FM)(mt:Str->Bool)(ψ:FS):gi:=fun Y L=>match φ Y L with
 |.ok _ L=>.nx Y L
 |.er x L=>if mt x=G then TM nl P ψ Y L else .no
 |.no=>.no
def JC(t:∀pl,ME (X.pin pl) K mg P e φ)(A:mg=X.mg)(p:X.mg T=J (.ref CT))(n:LL X.K X.mg mt CT)(hs:∀y,JB ((X.hand y).Xe) (b₀::bs)<|sD ⟨K,mg,fun _ _ _=>False⟩ [] [] [] ψ)
  (b:Uw e U rpos.line X.env=pure η) (k:X.stack=X.env::X.outer) (i:X.env.frame=J X.env.locals) (j:Gl X T) (l:(T==#[20])=η):
  MS X K mg nl Pb P P (.Try [.Expr e rpos] [.ExceptHandler (J<|.Name T tp) U (b₀::bs) hpos] [] [] tpos) (yW nl P φ mt ψ):=fun E=>by
 refine⟨fun aa s Z H D' I q=>Vc q fun as B h0 cl Y L hl M h=>?_⟩;unfold yW at h;refine wpAny_Try_except<|wpAny_execs_cons<|wpAny_Expr_any (Ih (X:=X) t I.Ul M (fun d m v u c H' s' e1 g a r D=>?_) (fun x m y C fl c H' s' e1 w g a o=>?_) ?_) I.quiet b
 .rw[e1]at h;dsimp only;refine h8 ?_;refine h8 ?_;exact⟨Z,H',g.Td _,h _ Z H' a⟩
 .rw[e1]at h;dsimp only at h;cbv
  .rename_i hy;refine Cz (X:=X) k i p (n x C hy<|by mright).2 j l g o fun h' t' q F=>?_;exact UE (C3 hl (hs<|.ref y) q a a.vZ #[23] h) (by rintro f s3⟨u,v,σ',H',e3,I3,r,hD⟩;exact by subst e3;exact⟨v,σ',H',I3.Td _,r,hD⟩) fun _ _ z=>z
  .mleft
 .intro e1;rw[e1]at h;exact h
end
section
variable{st:SU}
def GY:FS:=fun _=>.no
section
variable{st:SU}
def aiy:JS X st<|sD W Ob O O' GY:=⟨fun aa s Z H D I q=>let⟨_,_,_,_,_,h⟩:=q;h.elim⟩
end
end
noncomputable def Ub(a:Scope)(x:Str):Bool:=match a.names.lookup x with
 |some .local=>G
 |some .cell=>G
 |some .free=>G
 |_=>η
def OK(a:Scope)(x:Str):Bool:=Ub a x&&!(x==#[20])&&!(x==("__classdict__":Str))
def tV(h:OK sc x=G):m6 sc x/\TN x/\#[2]=η:=by
 delta OK at h;rw[oR,oR,Yl,Yl]at h;exact⟨(fun h=>by
   delta Ub at h;cbv
   .rename_i e;exact .inl e
   .rename_i e;exact .inr (.inl e)
   .rename_i e;exact .inr (.inr e)
   .nofun) h.1.1,h.1.2,h.2⟩
abbrev Fm:=Scope->SH->Ru->Ry->Option (List Ry×(List FE->FE))
abbrev Fq:=Scope->SH->Ru->Ry->Option (List Ry×(List FE->FT))
abbrev Fi:=Scope->SH->Ru->Ry->Ry->Option (List Ry×(List FE->FA))
abbrev Fs:=Scope->SH->Ru->SU->Option (List Ry×(List FE->FS))
structure Tb where
 x:List Fm
 n:List Fm
 q:List Fq
 i:List Fi
 s:List Fs
 c:List<|Str×D
 d:SH
 m:SH
 k:List<|Pos×SH
 w:Nat
def Js(X:Cx)(W:Wd)(O:Ru):List Ry->List FE->Prop
 |[],[]=>True
 |e::es,φ::φs=>JE X e (tD W O φ)/\Js X W O es φs
 |_,_=>False
def dr(X:Cx)(W:Wd)(f:Fm):Prop:=∀O e es b a,f X.env.scope X.N O e=J (es,b)->Js X W O es a->JE X e (tD W O<|b a)
def KM(X:Cx)(W:Wd)(f:Fm):Prop:=∀O e es b a,f X.env.scope X.N O e=J (es,b)->Js X W O es a->JE X e (tN W O<|b a)
def Sn(X:Cx)(W:Wd)(f:Fq):Prop:=∀O e es b a,f X.env.scope X.N O e=J (es,b)->Js X W O es a->JT X e (lq W O<|b a)
def PZ(X:Cx)(W:Wd)(f:Fi):Prop:=∀O g e es b a,f X.env.scope X.N O g e=J (es,b)->Js X W O es a->JI X g e (iD W O<|b a)
def IK(X:Cx)(W:Wd)(f:Fs):Prop:=∀Ob O s es b a,f X.env.scope X.N O s=J (es,b)->Js X W O es a->JS X s (sD W Ob O O<|b a)
def yy(X:Cx)(W:Wd)(x:Str)(d:D):Prop:=∀(O:Ru)(p:Pos),Gl X x->JE X (.Name x p) (tD W O<|vC d)
structure Vu(X:Cx)(W:Wd)(t:Tb):Prop where
 x:∀f∈t.x,dr X W f
 n:∀f∈t.n,KM X W f
 q:∀f∈t.q,Sn X W f
 i:∀f∈t.i,PZ X W f
 s:∀f∈t.s,IK X W f
 c:∀q∈t.c,yy X W q.1 q.2
noncomputable def lk{β:Type}(x:Str):List (Str×β)->Option β
 |[]=>U
 |q::r=>if q.1=x then J q.2 else lk x r
def As:∀{l:List<|Str×β}{b:β},lk x l=J b->(x,b)∈l:=@TB _ _ (@fun _ h=>by nofun) fun q r i_=>@fun b h=>by
  unfold lk at h;cbv
  .grind
  .exact ie _ (i_ h)
noncomputable def Bj(f:Ry->Option FE):List Ry->Option (List FE)
 |[]=>J []
 |e::es=>(f e).bind fun φ=>(Bj f es).map (φ::·)
noncomputable def fst{α β:Type}(l:List α)(f:α->Option β):Option β:=match l with
 |[]=>U
 |a::r=>match f a with
  |some b=>J b
  |none=>fst r f
def fE{α β:Type}{f:α->Option β}{b:β}:∀{l:List α},fst l f=J b->∃a∈l,f a=J b:=@TB _ _ (@fun h=>by nofun) fun a r i_=>@fun h=>by
  unfold fst at h;cbv
  .mright
  .obtain⟨c,h1,h2⟩:=i_ h;grind
noncomputable def Mm(N:SH)(x:Str):Option Nat:=N.findIdx? fun y=>decide (y=x)
def gc(h:Mm N x=J i):N[i]?=J x:=by
 obtain⟨a,b,_⟩:=Kg.mp h;mright
noncomputable def xJ:Ry->Bool
 |.Set ..=>G
 |_=>η
def wG(h:xJ e=η)(env:Env):∀x,pg e env x=pure x:=by
 cases e<;>first|exact fun _=>rfl|nofun
def VS(t:Tb)(b:Scope)(N:SH)(O:Ru)(a:Ry->Option FE)(g it:Ry):Option FA:=match fst t.i fun f=>f b N O g it with
 |some q=>(Bj a q.1).map q.2
 |none=>(a it).map EX
noncomputable def Pg(scope a:Scope):Scope:={scope with names:=scope.names.map fun(n,k)=>if(k==.free&&a.kind==.function&&a.names.lookup n==J .cell)then(n,.cell)else(n,k)}
noncomputable def ug:Ry->Option Str
 |.Name x _=>J x
 |_=>U
def AY(h:ug e=J x):∃p,e=.Name x p:=by
 delta ug at h;cbv
 .mright
 .nofun
def rB:SU->Option (Str×Ry×Ry)
 |.Assign l e _=>match l with|[a]=>(ug a).map fun x=>(x,a,e)|_=>U
 |_=>U
def IH(h:rB s=J (x,a,e)):∃p q,a=.Name x p/\s=.Assign [a] e q:=by
 delta rB at h;cbv
 .cbv
  .obtain⟨x,hx,h⟩:=dO.mp h;nofun;obtain⟨p,rfl⟩:=AY hx;exact⟨_,_,rfl,rfl⟩
  .nofun
 .nofun
noncomputable def ke:Ry->Option Str
 |.Constant v _ _=>match v with|.str x=>J x|_=>U
 |_=>U
def wL(h:ke e=J x):∃k p,e=.Constant (.str x) k p:=by
 delta ke at h;cbv
 .cbv<;>nofun;exact⟨_,_,rfl⟩
 .nofun
noncomputable def wg:Ry->Option Int
 |.Constant v _ _=>match v with|.int x=>J x|_=>U
 |_=>U
def Ya(h:wg e=J x):∃k p,e=.Constant (.int x) k p:=by
 delta wg at h;cbv
 .cbv<;>nofun;exact⟨_,_,rfl⟩
 .nofun
noncomputable def wh:Ry->Option D
 |.Constant v _ _=>match v with|.none=>J .S9|.bool b=>J<|.bl b|.str x=>J<|.str x|.int i=>J<|.int i|_=>U
 |_=>U
def Yn(h:wh e=J d):JE X e<|tD W O<|vC d:=by
 delta wh at h;cbv
 .cbv<;>nofun
  .exact NO
  .exact aaL
  .exact Mt
  .exact MR
 .nofun
noncomputable def Qp(a:Scope)(fn:Str->Bool)(x:Str):Bool:=decide (a.names.lookup x=J .local)||(decide (a.names.lookup x=J .cell)&&fn x)
def pk{X:Cx}(h:Qp X.env.scope X.fn x=G):Loc X.env.scope x/\#[1]:=by
 delta Qp at h;rw[Km,oR,decide_eq_true_eq,decide_eq_true_eq]at h;rcases h with h|h
 .exact⟨.inl h,.inr h⟩
 .exact⟨.inr h.1,.inl h.2⟩
def Hs(N:SH)(O:Ru)(a:Scope)(fn:Str->Bool)(e:Ry):Option Nat:=(ug e).bind fun x=>(Mm N x).bind fun i=>if i∉O/\Qp a fn x=G then J i else U
def DQ(N:SH)(O:Ru)(a:Scope)(fn:Str->Bool):List Ry->Option (Ru)
 |[]=>J []
 |e::r=>(Hs N O a fn e).bind fun i=>(DQ N O a fn r).map (i::·)
def Aj(N:SH)(O:Ru)(a:Scope)(fn:Str->Bool):Ry->Option VA
 |.Name x p=>(Hs N O a fn<|.Name x p).map .one
 |.Tuple es _ _=>(DQ N O a fn es).map .tup
 |_=>U
def Yb:Ry->SH
 |.Name x _=>[x]
 |.Tuple es _ _=>es.filterMap ug
 |_=>[]
def V3(t:Tb)(b:Scope)(N:SH)(O:Ru)(f:Ry->Option FE)(e:Scope->SH->(Ry->Option FE)×(Ry->Option FT))(elt tg it:Ry)(ifs:List Ry)(scope:Scope)(pos:Pos):Option FE:=
 let a:=((t.k.find? fun q=>decide (q.1=pos)).map (·.2)).getD (Yb tg)
  let ix:=a.map fun y=>if(Yb tg).contains y=G then U else Mm N y
  if zr b N a ix scope=G/\a.Nodup/\xJ it=η/\(ix.all fun o=>match o with|some k=>decide (k∉O)|none=>G)=G then
   (Aj a [] (Pg scope b) (fun _=>η) tg).bind fun d=>(VS t b N O f tg it).bind fun ι=>(match ifs with
    |[]=>J xa
    |[c]=>(e (Pg scope b) a).2 c
    |_=>U).bind fun τ=>((e (Pg scope b) a).1 elt).map fun ε=>jX ix ι d τ ε
  else U
def Wy(t:Tb)(d:Scope)(N:SH)(O:Ru)(g:Ry->Option FE)(j:Ry->Option FT)(h:Scope->SH->(Ry->Option FE)×(Ry->Option FT))(e:Ry):Option FE:=match wh e with
 |some d=>J<|vC d
 |none=>match e with
  |.Name x _=>match Mm N x with
   |some i=>if i∉O/\OK d x=G then J (ag i)else U
   |none=>if d.names.lookup x=J .globalImplicit then(lk x t.c).map vC else U
  |.ListComp elt c scope pos=>match c with|[⟨tg,it,ifs,0⟩]=>V3 t d N O g h elt tg it ifs scope pos|_=>U
  |.IfExp c a b _=>(j c).bind fun τ=>(g a).bind fun φ=>(g b).map fun ψ=>MU τ φ ψ
  |_=>(fst t.x fun f=>f d N O e).bind fun q=>(Bj g q.1).map q.2
def P8:Ry->Bool
 |.Name ..=>G
 |.Call ..=>G
 |.Subscript ..=>G
 |.Attribute ..=>G
 |_=>η
def B6(h:P8 e=G)(env:Env):∀a,isTrue e env a=(do let v <-a;jF e.pos;holding [v] (truthy v)):=by
 cases e<;>first|exact fun _=>rfl|nofun
noncomputable def RU(f:Ry->Option FT)(q:FT->FT->FT):List Ry->Option FT
 |[]=>U
 |[a]=>f a
 |a::b::r=>(f a).bind fun τ=>(RU f q<|b::r).map<|q τ
def XV(t:Tb)(d:Scope)(N:SH)(O:Ru)(c:Ry->Option FE)(b:Ry->Option FT)(e:Ry):Option FT:=match e with
 |.UnaryOp .Not a _=>(b a).map qN
 |.BoolOp .And l _=>RU b mQ l
 |.BoolOp .Or l _=>RU b KF l
 |_=>match fst t.q fun f=>f d N O e with
  |some q=>(Bj c q.1).map q.2
  |none=>if P8 e=G then(c e).map lP else U
def ip(t:Tb):Nat->Scope->SH->Ru->(Ry->Option FE)×(Ry->Option FT)
 |0,_,_,_=>(fun _=>U,fun _=>U)
 |n+1,sc,N,O=>(Wy t sc N O (ip t n sc N O).1 (ip t n sc N O).2 fun a b=>ip t n a b [],XV t sc N O (ip t n sc N O).1 (ip t n sc N O).2)
section
variable{X:Cx}{W:Wd}{O:Ru}{t:Tb}
def mJ(a:∀e φ,f e=J φ->JE X e (tD W O φ)):∀(es:List Ry)(l:List FE),Bj f es=J l->Js X W O es l:=TB (fun _ h=>by nofun;exact Uy) fun e es i_ _ h=>by
  obtain⟨φ,h1,h⟩:=bY.mp h
  obtain⟨l,h2,rfl⟩:=dO.mp h;exact⟨a e φ h1,i_ l h2⟩
def FN(b:W.K=X.K)(d:Vu X W t)(a:∀e φ,fx e=J φ->JE X e (tD W O φ))(h:VS t X.env.scope X.N O fx tg it=J ι):JI X tg it<|iD W O ι:=by
 delta VS at h;cbv
 .rename_i q e;obtain⟨f,h1,h2⟩:=fE e
  obtain⟨l,c,rfl⟩:=dO.mp h;exact d.i f h1 O tg it _ _ l h2<|mJ a _ _ c
 .obtain⟨ε,h1,rfl⟩:=dO.mp h;exact On X.K (a _ _ h1) rfl b
def FW(a:X.N.Nodup)(h:Hs X.N O X.env.scope X.fn e=J i):JG X e (gD W O<|.one i)/\∃x p,e=.Name x p:=by
 obtain⟨x,h0,h⟩:=bY.mp h
 obtain⟨i,h1,h⟩:=bY.mp h
 cbv
 .rename_i hl;nofun;delta ug at h0;split at h0
  .cases h0;exact⟨Rt hl.1 a (gc h1) (pk hl.2).1 (pk hl.2).2,_,_,rfl⟩
  .cases h0
 .nofun
def Cr(d:X.N.Nodup):∀{es:List Ry}{is:Ru},DQ X.N O X.env.scope X.fn es=J is->YW X es (U7 W O is)/\(Wh es X.env).length=es.length/\es.length=is.length/\(Wh es X.env).findIdx? (·.1)=U:=@TB _ _ (@fun _ h=>by nofun;exact⟨L0,rfl,rfl,rfl⟩) fun e r i_=>@fun _ h=>by
  left;obtain⟨i,h1,h⟩:=bY.mp h
  obtain⟨f,h2,rfl⟩:=dO.mp h;obtain⟨z,a,b,c⟩:=i_ h2
  obtain⟨g,x,p,rfl⟩:=FW d h1;right;refine⟨EV g z rfl,by show(Wh r X.env).length+1=_;rw[a];rfl,by rw[uq,uq,b],?_⟩;show List.findIdx? (·.1) ((η,_)::Wh r X.env)=U;rw[List.findIdx?_cons,c];rfl
def Cf(f:W.K=X.K)(e:X.calm=G)(d:X.N.Nodup)(h:Aj X.N O X.env.scope X.fn tg=J q):JG X tg<|gD W O q:=by
 delta Aj at h;cbv
 .obtain⟨i,h1,rfl⟩:=dO.mp h;exact(FW d h1).1
 .obtain⟨is,h1,rfl⟩:=dO.mp h;obtain⟨z,a,b,c⟩:=Cr d h1;exact O5 X.K z rfl e (a.trans b) c rfl f
 .nofun
def G0(h:Qp sc (fun _=>η) x=G):Qp sc fn x=G:=by
 delta Qp at h⊢;rw[Bool.and_false,Bool.or_false]at h;rw[h];rfl
def yM(h:Hs N O sc (fun _=>η) e=J i):Hs N O sc fn e=J i:=by
 delta Hs at h⊢;obtain⟨x,a,h⟩:=bY.mp h;obtain⟨j,h1,h⟩:=bY.mp h;rw[a,Nr,h1,Nr];cbv
 .rename_i hq;rw[SI ⟨hq.1,G0 hq.2⟩];exact h
 .nofun
def D7{N:SH}{a:Scope}{fn:Str->Bool}{e:Ry}{q:VA}(h:Aj N O a (fun _=>η) e=J q):Aj N O a fn e=J q:=by
 have hs:∀{es:List Ry}{is:Ru},DQ N O a (fun _=>η) es=J is->DQ N O a fn es=J is:=fun{es}=>by
  induction es with
  |nil=>exact fun h=>h
  |cons e r b=>
   intro is h;obtain⟨i,h1,h⟩:=bY.mp h
   obtain⟨c,h2,rfl⟩:=dO.mp h;unfold DQ;rw[yM h1,b h2];rfl
 delta Aj at h⊢;cbv
 .obtain⟨i,h1,rfl⟩:=dO.mp h;rw[yM h1];rfl
 .obtain⟨is,h1,rfl⟩:=dO.mp h;rw[hs h1];rfl
 .nofun
structure qc(X:Cx)(W:Wd)(O:Ru)(elt tg it:Ry)(ifs:List Ry)(scope:Scope)(N':SH)(ix:List (Option Nat))(ι:FA)(g:VA)(τ:FT)(ε:FE):Prop where
 cs:zr X.env.scope X.N N' ix scope=G
 i:JI X tg it<|iD W O ι
 g:∀b,JG (jm X N' scope b) tg<|gD W [] g
 t:∀b,Yq (jm X N' scope b) ifs<|lq W [] τ
 e:∀b,JE (jm X N' scope b) elt<|tD W [] ε
 o:∀j∈ix,∀k,j=J k->k∉O
 s:xJ it=η
def Gi(f:W.K=X.K)(n:X.calm=G)(l:Vu X W t)(o:∀e φ,fx e=J φ->JE X e (tD W O φ))
  (d:∀N scope b,(∀e φ,(fy (jm X N scope b).env.scope N).1 e=J φ->JE #[10] e (tD W [] φ))/\(∀e τ,(fy (jm X N scope b).env.scope N).2 e=J τ->JT #[10] e (lq W [] τ)))
  (h:V3 t X.env.scope X.N O fx fy elt tg it ifs scope pos=J φ):∃a ix ι g τ ε,φ=jX ix ι g τ ε/\qc X W O elt tg it ifs scope a ix ι g τ ε:=by
 delta V3 at h;dsimp only at h;generalize((t.k.find? fun q=>decide (q.1=pos)).map (·.2)).getD (Yb tg)=a at h;cbv
 .rename_i hq;obtain⟨m,h1,h⟩:=bY.mp h;obtain⟨ι,h2,h⟩:=bY.mp h
  obtain⟨τ,h3,h⟩:=bY.mp h
  obtain⟨ε,i,rfl⟩:=dO.mp h;refine⟨_,_,_,_,_,_,rfl,hq.1,FN f l o h2,fun b=>Cf f n hq.2.1<|D7 h1,fun b=>?_,fun b=>(d a scope b).1 _ _ i,(fun j p k e=>by
    have:=Ve.mp hq.2.2.2 j p
    mright),hq.2.2.1⟩
  cases ifs with
  |nil=>cases h3;exact Jw
  |cons c r=>
   cases r with
   |nil=>exact(fun h=>J9 h)<|(d a scope b).2 _ _ h3
   |cons _ _=>cases h3
 .nofun
def qc.n(a:X.calm=G){g:VA}(C:qc X W O elt tg it ifs scope N' ix ι g τ ε):JE X (.ListComp elt [⟨tg,it,ifs,0⟩] scope pos)<|tN W O<|jX ix ι g τ ε:=
 Qy C.cs C.i C.g C.t C.e C.o rfl rfl rfl a (wG C.s _)
def QF(p:W.K=X.K)(g:X.calm=G)(k:Vu X W t)(j:∀e φ,fx e=J φ->JE X e (tD W O φ))(m:∀e τ,ft e=J τ->JT X e (lq W O τ))
  (o:∀N scope b,(∀e φ,(fy (jm X N scope b).env.scope N).1 e=J φ->JE #[10] e (tD W [] φ))/\(∀e τ,(fy (jm X N scope b).env.scope N).2 e=J τ->JT #[10] e (lq W [] τ)))
  (e:Ry) (φ:FE) (h:Wy t X.env.scope X.N O fx ft fy e=J φ):JE X e<|tD W O φ:=by
  delta Wy at h;cbv
  .rename_i z;nofun;exact Yn z
  cbv
  .cbv
   .rename_i i h1;cbv
    .rename_i hc;nofun;obtain⟨a,b,c⟩:=tV hc.2
     exact Mv i hc.1 (gc h1) a b c
    .nofun
   .cbv
    .rename_i hg;obtain⟨d,h1,rfl⟩:=dO.mp h;exact k.c _ (As h1) O _ hg
    .nofun
  .cbv
   .refine UZ (Gi p g k j o h) fun _ _ _ _ _ _ r C=>?_;subst r;exact FQ<|C.n g
   .nofun
  .obtain⟨τ,h0,h⟩:=bY.mp h
   obtain⟨φ1,h1,h⟩:=bY.mp h
   obtain⟨ψ,h2,rfl⟩:=dO.mp h;exact aaG (m _ _ h0) (j _ _ h1)<|j _ _ h2
  .obtain⟨q,h0,h⟩:=bY.mp h
   obtain⟨l,h1,rfl⟩:=dO.mp h;obtain⟨f,h2,h3⟩:=fE h0
   exact k.x f h2 O e _ _ l h3<|mJ j _ _ h1
theorem BH(c:∀e τ,f e=J τ->JT X e (lq W O τ)):∀(l:List Ry)(τ:FT),RU f mQ l=J τ->JW X (.BoolOp .And l pos) (lq W O τ)
 |[],_,h=>by nofun
 |[a],τ,h=>(fun d=>CW d)<|c a τ h
 |a::b::r,_,h=>by
  obtain⟨τ,h1,h⟩:=bY.mp h
  obtain⟨υ,h2,rfl⟩:=dO.mp h;exact Om (c _ _ h1)<|BH c (b::r) υ h2
theorem IC(c:∀e τ,f e=J τ->JT X e (lq W O τ)):∀(l:List Ry)(τ:FT),RU f KF l=J τ->JW X (.BoolOp .Or l pos) (lq W O τ)
 |[],_,h=>by nofun
 |[a],τ,h=>(fun d=>IT d)<|c a τ h
 |a::b::r,_,h=>by
  obtain⟨τ,h1,h⟩:=bY.mp h
  obtain⟨υ,h2,rfl⟩:=dO.mp h;exact aaT (c _ _ h1)<|IC c (b::r) υ h2
def OJ(c:W.K=X.K)(d:Vu X W t)(b:∀e φ,fx e=J φ->JE X e (tD W O φ))(a:∀e τ,ft e=J τ->JT X e (lq W O τ))(e:Ry)(τ:FT)(h:XV t X.env.scope X.N O fx ft e=J τ):JT X e<|lq W O τ:=by
 delta XV at h;cbv
 .obtain⟨υ,h1,rfl⟩:=dO.mp h;exact Px<|a _ _ h1
 .exact CN (BH a _ _ h)
 .exact CN (IC a _ _ h)
 .cbv
  .rename_i q e1;obtain⟨f,h2,h3⟩:=fE e1
   obtain⟨l,h1,rfl⟩:=dO.mp h;exact d.q f h2 O e _ _ l h3<|mJ b _ _ h1
  .cbv
   .rename_i hb;obtain⟨φ,h1,rfl⟩:=dO.mp h;exact FH X.K (b _ _ h1) (B6 hb _) rfl c
   .nofun
inductive Xg(X:Cx):Cx->Prop
 |re:Xg X X
 |bk {Yq0:Cx} (h:Xg X Yq0) (N:SH) (scope:Scope) (b:Bk):Xg X (jm Yq0 N scope b)
theorem Xg.wb(h:Xg X Yq0):Yq0.K=X.K/\Yq0.mg=X.mg/\Yq0.prog=X.prog/\Yq0.w=X.w/\Yq0.base=X.base/\Yq0.A=X.A/\Yq0.calm=X.calm/\Yq0.env.code=X.env.code/\Yq0.env.qual=X.env.qual:=by
 induction h with
 |re=>exact⟨rfl,rfl,rfl,rfl,rfl,rfl,rfl,rfl,rfl⟩
 |bk _ N c b a=>exact a
def jG(j:W.K=X.K)(i:X.calm=G)(g:∀c,Xg X c->Vu c W t):∀(n:Nat)(c:Cx)(d:Xg X c)(O:Ru),(∀e φ,(ip t n c.env.scope c.N O).1 e=J φ->JE c e (tD W O φ))/\(∀e τ,(ip t n c.env.scope c.N O).2 e=J τ->JT c e (lq W O τ)):=X5 (fun _ _ _=>⟨fun _ _ h=>(by nofun),fun _ _ h=>(by nofun)⟩) fun n i_ c d O=>by
  left;obtain⟨a,b⟩:=i_ c d O
  refine xT d.wb fun e1 _ _ _ _ m l _=>?_
  right;have f:W.K=c.K:=by rw[e1];exact j
  exact⟨QF f (by rw[l];exact i) (g c d) a b fun N scope k=>i_ (jm c N scope k) (.bk d N scope k) [],OJ f (g c d) a b⟩
end
section
variable{X:Cx}{K:aT}{st:SU}{p pos:Pos}
def pcA(D:Def X.K mg0 y st ps f fd)(m:X.mg x=J (.ref f))(SK:T8 X.prog X.w X.K X.mg X.base lD j f fd ps sp)(g:TZ k X.A)(o:PA X (e::es) t)(u:j<=k<|>Sm)(i:Gl X x<|>Rv)(a:TN x<|>Sm)
  (h1:al e=G<|>Rv) (h2:es.all al=G<|>Rv):PE X #[3]<|R7 sp t:=by
 have n:Uu (e::es) X.env=(η,eval e X.env)::Uu es X.env:=bC h1;have c:(X3 pos<|Uu es X.env).any (·.1)=η:=bH h2;intro aa s Z H Q I h;refine Yr<|dD I i m ?_ a;refine yw I.ok.mod.XM D.F.kp (bP (o pos aa s Z H _ I h) fun us v l=>jZ l fun vs H1 d r q=>⟨d.U3,?_⟩) n c;exact IV SK (g.mono u) D.b .nil NJ d r #[28]
def Kj(D:Def X.K mg0 y st ps f fd)(m:X.mg x=J (.ref f))(SK:T8 X.prog X.w X.K X.mg X.base lD j f fd ps<|rj K mg F)(b:TZ k X.A)(l:JA X (e::es)<|zx ⟨K,mg,E0⟩ O α)(n:j<=k<|>Sm)(c:Gl X x<|>Rv)(a:TN x<|>Sm)
  (h1:al e=G<|>Rv) (h2:es.all al=G<|>Rv):JE X #[3]<|tD ⟨K,mg,E0⟩ O<|aI F α:=
 JE.imp ⟨pcA D m SK b l.out n c a h1 h2⟩ fun Z H Q d=>dQ d fun as0 B own Y I h=>⟨as0,B,own,Y,I,e9 h fun ds vs H1 g i h1=>⟨own++as0,ds,(I.mono g).Vq,i,h1⟩⟩
end
noncomputable def zd:Ry->Bool
 |.ListComp ..=>G
 |.SetComp ..=>G
 |.DictComp ..=>G
 |_=>η
def jH(h:zd e=η)(tg:Option Ry)(l:Nat)(env:Env):Uw e tg l env=pure η:=by
 cases e<;>first|rfl|nofun
noncomputable def IM(a:Scope)(x:Str)(p pos:Pos)(scope:Scope):Bool:=(if a.kind.isAnnotationScope then ScopeKind.function else a.kind)==.function&&a.names.lookup x==J .local&&p.line==pos.line&&!(scope.names.any fun(n,k)=>n==x&&(k==.local||k==.cell))
def AB:Uw (.ListComp elt gs scope pos) (J<|.Name x p) l env=pure (IM env.scope x p pos scope):=rfl
def dB:Nat:=30
def owB(a:Scope)(N:SH)(O:Ru)(x:Str):Option Nat:=(Mm N x).bind fun i=>if i∈O/\OK a x=G then J i else U
def Wv(t:Tb)(d:Scope)(fn:Str->Bool)(N:SH)(h:Ru->List SU->Option (FS×Ru))(O:Ru)(s:SU):Option<|FS×Ru:=match rB s with
 |some (x,a,e)=>(Hs N O d fn a).bind fun i=>match e with
  |.ListComp elt c scope pos=>match c with|[⟨tg,it,ifs,0⟩]=>(V3 t d N O (ip t dB d N O).1 (fun j k=>ip t dB j k []) elt tg it ifs scope pos).map fun φ=>if t.m.contains x=G then(Av i φ,i::O)else(rZ i φ,O)|_=>U
  |e=>if zd e=G then U else match(if t.m.contains x=G then fst t.n fun f=>f d N O e else U)with
   |some q=>(Bj (ip t dB d N O).1 q.1).map fun l=>(Av i<|q.2 l,i::O)
   |none=>((ip t dB d N O).1 e).map fun ε=>(rZ i ε,O)
 |none=>match s with
 |.Return r _=>match r with|some e=>((ip t dB d N O).1 e).map fun ε=>(pX ε,O)|_=>U
 |.If c a b _=>((ip t dB d N O).2 c).bind fun τ=>(h O a).bind fun p=>(h O b).bind fun q=>if p.2=O/\q.2=O then J (DA τ p.1 q.1,O)else U
 |.While c body r _=>match r with|[]=>((ip t dB d N O).2 c).bind fun τ=>(h O body).bind fun p=>if p.2=O then J (cq τ p.1 t.w,O)else U|_=>U
 |.Raise ..=>J (GY,O)
 | .For tg it body r _=>match r with|[]=>(Aj N O d fn tg).bind fun g=>if xJ it=G then U else
   (VS t d N O (ip t dB d N O).1 tg it).bind fun ι=>(h O body).bind fun p=>if p.2=O then J (Hy ι g p.1,O)else U|_=>U
 |_=>U
def XR(t:Tb)(a:Scope)(fn:Str->Bool)(N:SH)(b:Ru->List SU->Option (FS×Ru))(O:Ru)(s:SU):Option<|FS×Ru:=match Wv t a fn N b O s with
 |some q=>J q
 |none=>(fst t.s fun f=>f a N O s).bind fun q=>(Bj (ip t dB a N O).1 q.1).map fun l=>(q.2 l,O)
def WR(f:Ru->SU->Option (FS×Ru)):Ru->List SU->Option (FS×Ru)
 |O,[]=>J (ld,O)
 |O,[s]=>f O s
 |O,s::a::r=>(f O s).bind fun p=>(WR f p.2<|a::r).map fun q=>(nh p.1 q.1,q.2)
def WP(t:Tb)(a:Scope)(fn:Str->Bool)(N:SH):Nat->Ru->List SU->Option (FS×Ru)
 |0=>fun _ _=>U
 |n+1=>WR<|XR t a fn N<|WP t a fn N n
section
theorem CG(b:X.N.Nodup)(f:Loc X.env.scope x)(c:X.fn x=G\/X.env.scope.names.lookup x=J .local)(d:X.calm=G)(h:X.N[i]?=J x)(a:i∉O)(C:qc X W O elt tg it ifs scope N' ix ι g τ ε):
  JS X (.Assign [.Name x p] (.ListComp elt [⟨tg,it,ifs,0⟩] scope pos) spos) (sD W Ob O (i::O)<|Av i<|jX ix ι g τ ε)/\JS X (.Assign [.Name x p] (.ListComp elt [⟨tg,it,ifs,0⟩] scope pos) spos) (sD W Ob O O<|rZ i<|jX ix ι g τ ε):=by
 cases hsw:IM X.env.scope x p pos scope with
 |true=>
  have j:=LO (spos:=spos) b f C.cs C.i C.g C.t C.e C.o rfl h rfl rfl d (AB.trans<|by rw[hsw]) c (wG C.s _);exact⟨L7 a j,KC a j⟩
 |false=>exact⟨Iv a b f (C.n d) h (AB.trans<|by rw[hsw]) c,Iu a b f (FQ<|C.n d) h (AB.trans<|by rw[hsw]) c⟩
def Rj(m:W.K=X.K)(y:∀j,Xg X j->Vu j W t)(k:X.N.Nodup)(z:zJ #[0] X.A X.env X.xe)(d:X.calm=G)
  (o:∀O sts q,fb O sts=J q->∀Ob,JB X sts<|sD W Ob O q.2 q.1) (O:Ru) (s:SU) (q:FS×Ru) (h:Wv t X.env.scope X.fn X.N fb O s=J q) (Ob:Ru):JS X s<|sD W Ob O q.2 q.1:=by
 have tx:=jG m d y dB X .re O;have B:=fun N scope b=>jG m d y dB #[10] (.bk .re N scope b) [];have v:=y X .re;delta Wv at h;cbv
 .rename_i hx;obtain⟨p,b,rfl,rfl⟩:=IH hx;clear hx;obtain⟨i,h1,h⟩:=bY.mp h
  obtain⟨x,h0,h1⟩:=bY.mp h1
  cases h0;obtain⟨i,h2,h1⟩:=bY.mp h1
  split at h1
  .rename_i hq;cases h1;obtain⟨hl,hf⟩:=pk hq.2
   cbv
   .cbv
    .obtain⟨φ,h3,h⟩:=dO.mp h
     refine UZ (Gi m d v tx.1 B h3) fun _ _ _ _ _ _ F C=>?_;subst F;cbv
     .nofun;exact(CG k hl hf d (gc h2) hq.1 C).1
     .nofun;exact(CG k hl hf d (gc h2) hq.1 C).2
    .nofun
   .cbv
    .nofun
    .rename_i c;have c:=Wc.mpr c;cbv
     .rename_i r e;split at e
      .obtain⟨f,u,h5⟩:=fE e
       obtain⟨l,E,rfl⟩:=dO.mp h;exact Iv hq.1 k hl (v.n f u O _ _ _ l h5<|mJ tx.1 _ _ E) (gc h2) (jH c _ _ _) hf
      .cases e
     .obtain⟨ε,u,rfl⟩:=dO.mp h;exact Iu hq.1 k hl (tx.1 _ _ u) (gc h2) (jH c _ _ _) hf
  .cases h1
 cbv
 .cbv
  .obtain⟨ε,h2,rfl⟩:=dO.mp h;exact FR<|tx.1 _ _ h2
  .nofun
 .obtain⟨τ,h1,h⟩:=bY.mp h
  obtain⟨p,h2,h⟩:=bY.mp h
  obtain⟨r,h3,h⟩:=bY.mp h
  cbv
  .rename_i hq;nofun;have a:=o _ _ _ h2 Ob;have b:=o _ _ _ h3 Ob;rw[hq.1]at a;rw[hq.2]at b;exact aaF (tx.2 _ _ h1) a b
  .nofun
 .cbv
  .obtain⟨τ,h1,h⟩:=bY.mp h
   obtain⟨p,h2,h⟩:=bY.mp h
   cbv
   .rename_i hq;nofun;have b:=o _ _ _ h2 O;rw[hq]at b;exact Ej t.w z (tx.2 _ _ h1) b
   .nofun
  .nofun
 .nofun;exact(⟨fun aa s Z H D I q=>let⟨_,_,_,_,_,h⟩:=q;h.elim⟩)
 .cbv
  .obtain⟨g,h1,h⟩:=bY.mp h
   cbv
   .nofun
   .rename_i hs;obtain⟨ι,h2,h⟩:=bY.mp h
    obtain⟨p,h3,h⟩:=bY.mp h
    cbv
    .rename_i hp2;nofun;have b:=o _ _ _ h3 O;rw[hp2]at b;exact Pa z (FN m v tx.1 h2) (Cf m d k h1) b d<|wG (Wc.mpr hs) _
    .nofun
  .nofun
 .nofun
def QQ(d:W.K=X.K)(b:∀a,Xg X a->Vu a W t)(g:X.N.Nodup)(j:zJ #[0] X.A X.env X.xe)(c:X.calm=G)
  (i:∀O sts q,fb O sts=J q->∀Ob,JB X sts<|sD W Ob O q.2 q.1) (O:Ru) (s:SU) (q:FS×Ru) (h:XR t X.env.scope X.fn X.N fb O s=J q) (Ob:Ru):JS X s<|sD W Ob O q.2 q.1:=by
 delta XR at h;cbv
 .rename_i e;nofun;exact Rj d b g j c i O s _ e Ob
 .obtain⟨r,h1,h⟩:=bY.mp h;obtain⟨l,h2,rfl⟩:=dO.mp h;obtain⟨f,h3,h4⟩:=fE h1
  exact(b X .re).s f h3 Ob O s _ _ l h4<|mJ (jG d c b dB X .re O).1 _ _ h2
theorem IL(b:∀O s q,f O s=J q->∀Ob,JS X s<|sD W Ob O q.2 q.1):∀(sts:List SU)(O:Ru)(q:FS×Ru),WR f O sts=J q->∀Ob,JB X sts (sD W Ob O q.2 q.1)
 |[],O,q,h,Ob=>by nofun;exact QR
 |[s],O,q,h,Ob=>Et<|b O s _ h Ob
 |s::a::r,O,q,h,Ob=>by
  obtain⟨p,e,h⟩:=bY.mp h;obtain⟨u,h2,rfl⟩:=dO.mp h;exact KS (b O s p e Ob)<|IL b (a::r) p.2 u h2 Ob
def Ab(e:W.K=X.K)(b:∀a,Xg X a->Vu a W t)(c:X.N.Nodup)(f:zJ #[0] X.A X.env X.xe)(d:X.calm=G):∀(n:Nat)(O:Ru)(sts:List SU)(q:FS×Ru),WP t X.env.scope X.fn X.N n O sts=J q->∀Ob,JB X sts (sD W Ob O q.2 q.1):=X5 (fun _ _ _ h _=>by nofun) fun n i_ O sts q h Ob=>IL (fun O s q h Ob=>QQ e b c f d (i_) O s q h Ob) sts O q h Ob
end
structure FY(Yq0:Cx)(P:Tc)(w:Sl)(K:aT)(mg:Sq)(base:T3)(k:Nat):Prop where
 eK:Yq0.K=K
 acR:Yq0.mg=mg
 eP:Yq0.prog=P
 eW:Yq0.w=w
 abq:Yq0.base=base
 hr:TZ k Yq0.A
 cm:Yq0.calm=G/\∃c P q,Yq0.env.code=.ref c/\Yq0.env.qual=q++".<locals>."/\t5 K c P=G/\∀H,RJ K H->H P=J (.UX<|q++".<locals>."++"<lambda>")
noncomputable def CA(a:Scope)(x:Str):Bool:=decide (a.names.lookup x=J .globalImplicit)&&!(x==#[20])
def eI(h:CA X.env.scope x=G):Gl X x/\TN x:=by
 delta CA at h;rw[oR,Yl,decide_eq_true_eq]at h;exact h
def aL:List FE->FA
 |[]=>aQ
 |φ::l=>ak φ<|aL l
theorem xS:∀{es:List Ry}{l:List FE},Js X W O es l->es.all al=G->JA X es (zx W O<|aL l)
 |[],[],_,_=>Fn
 |e::es,φ::l,h,hn=>by
  rw[Vg,oR]at hn;exact Bx h.1 (xS h.2 hn.2) hn.1
 |[],_::_,h,_=>h.elim
 |_::_,[],h,_=>h.elim
noncomputable def cN:Ry->Option (Str×List Ry)
 |.Call (.Name x _) es [] _=>J (x,es)
 |_=>U
def nD(h:cN e=J q):∃p pos,e=.Call (.Name q.1 p) q.2 [] pos:=by
 delta cN at h;cbv
 .nofun;exact⟨_,_,rfl⟩
 .nofun
def fN(x:Str)(n:Nat->Bool)(c:List FE->FE):Fm:=fun a _ _ e=>(cN e).bind fun q=>if q.1=x/\CA a x=G/\q.2.all al=G/\n q.2.length=G then J (q.2,c)else U
def Nj(h:fN x n c sc N O e=J (es,b)):∃p pos,e=.Call (.Name x p) es [] pos/\CA sc x=G/\es.all al=G/\n es.length=G/\b=c:=by
 obtain⟨q,h1,h⟩:=bY.mp h
 cbv
 .obtain⟨p,pos,rfl⟩:=nD h1;grind
 .nofun
def bX(x:Str)(F:Rx->R D):Fm:=fN x (fun _=>G) fun l=>aI F<|aL l
structure Df where
 x:Str
 g:SH
 i:Nat
 N:SH
 p:Nat
 d:Nat
 m:SH:=[]
 k:List<|Pos×SH:=[]
 e:Ru:=[]
 h:Ru:=[]
 w:Nat:=1000
noncomputable def Df.ps(q:Df):SH:=q.N.take q.p
inductive Mr where
 |pl (φ:FS)
 |rc (φ:(Rx->R D)->FS) (Zq0:Nat->Rx->R D) (n:Nat)
def Mr.F(q:Df):Mr->(Rx->R D)
 |.pl φ=>gx φ q.N q.ps
 |.rc _ Zq0 n=>Zq0 n
def Mr.dp(q:Df):Mr->Nat
 |.rc _ _ n=>q.d+n
 |_=>q.d+1
noncomputable def J5(N ps:SH)(a:Scope):Bool:=decide (a.kind=.function)&&!a.isCoroutine&&!a.isGenerator&&decide N.Nodup&&decide (N.take ps.length=ps)&&ps.all (fun x=>decide (a.names.lookup x=J .local)||decide (a.names.lookup x=J .cell))&&a.names.all (fun y=>decide (y.2≠.free))
def pG(h:J5 N ps sc=G):Vr N ps sc:=by
 delta J5 at h;simp only[oR,Yl,decide_eq_true_eq,Ve,Km]at h;obtain⟨⟨⟨⟨⟨⟨a,b⟩,c⟩,d⟩,e⟩,f⟩,g⟩:=h;exact⟨a,b,c,d,e,f,g⟩
section
variable(bD:Nat->SU)(B:Tb)(ext:List Fm)
noncomputable def UX(b:List<|Nat×Fm)(q:Df)(self:List Fm):Tb:={B with x:=q.e.filterMap (fun i=>ext[i]?)++(self++(B.x++(b.filter fun a=>decide (a.1<=q.d)).map (·.2))),m:=q.m,k:=q.k,w:=q.w}
def dF(t:Tb)(q:Df):Option FS:=(WP t (ai<|bD q.i) (fun _=>G) q.N 12 []<|bL<|bD q.i).map (·.1)
def aa4(q:Df)(m:Mr)(a:List<|Nat×Fm):List<|Nat×Fm:=q.g.map (fun x=>(m.dp q,bX x<|m.F q))++a
def Bw(P:Tc)(w:Sl)(K:aT)(mg:Sq)(base:T3)(a:Nat×Fm):Prop:=∀b k,FY b P w K mg base k->a.1<=k->dr b ⟨K,mg,E0⟩ a.2
def RV(q:Df)(a:List<|Nat×Fm):Mr->Prop
 |.pl φ=>dF bD (UX B ext a q []) q=J φ
 |.rc φ Zq0 n=>(∀F,dF bD (UX B ext a q (q.g.map fun x=>bX x F)) q=J (φ F))/\(∀ds,Zq0 0 ds=.no)/\∀m,Zq0 (m+1)=gx (φ<|Zq0 m) q.N q.ps
end
section
variable{K:aT}
structure eB(bD:Nat->SU)(K:aT)(mg:Sq)(q:Df)(f:SA)(fd:Wj):Prop where
 F:UD K q.x q.x (bD q.i) f fd
 b:cf K fd q.ps []
 m:∀x∈q.g,mg x=J (.ref f)
theorem gP(Q:eB bD K mg q f fd)(SK:T8 P w K mg base lD j f fd q.ps<|rj K mg F)(d:x∈q.g):Bw P w K mg base (j,bX x F):=fun Yq0 k⟨e1,e2,e3,e4,e5,hr,_⟩hj O e es b φs h hJ=>by
 subst e1 e2 e3 e4 e5;obtain⟨p,pos,rfl,h1,h2,_,rfl⟩:=Nj (n:=fun _=>G) (N:=Yq0.N) (O:=O) h;obtain⟨hg,hd⟩:=eI h1
 have o:Def Yq0.K (fun _=>J<|.ref f) q.x (bD q.i) q.ps f fd:=⟨Q.F,Q.b,rfl⟩;cases es with
 |nil=>
  cases φs with
  |nil=>
   refine(JE.mk<|Ei SK (hr.mono hj) hg (Q.m x d) Q.F.kp Q.b .nil NJ hd).imp fun Z H Q l=>dQ l fun as0 B own Y I h=>⟨own++as0,[],I.Vq,ay.nil,h⟩
  |cons _ _=>exact hJ.elim
 |cons a r=>
  have c:=h2;rw[Vg,oR]at c;exact Kj o (Q.m x d) SK hr (xS hJ h2) hj hg hd c.1 c.2
def pA(o:∀g k,FY g P w K mg base k->Vu g ⟨K,mg,E0⟩ B/\∀f∈ext,dr g ⟨K,mg,E0⟩ f)(m:∀a∈acc,Bw P w K mg base a)(j:q.d<=k)(y:FY g P w K mg base k)(hs:∀f∈self,dr g ⟨K,mg,E0⟩ f):Vu g ⟨K,mg,E0⟩<|UX B ext acc q self:=by
 obtain⟨b,e⟩:=o g k y;refine⟨fun f l=>?_,b.n,b.q,b.i,b.s,b.c⟩;rcases BY.mp l with h|h
 .obtain⟨i,_,h2⟩:=mP.mp h;exact e f<|Do h2
 .rcases BY.mp h with h|h
  .exact hs f h
  .rcases BY.mp h with h|h
   .exact b.x f h
   .obtain⟨a,h1,rfl⟩:=d9.mp h;obtain⟨h1,h2⟩:=dN.mp h1
    exact m a h1 g k y<|RW (WI h2) j
def rq(F:UD K q.x q.x (bD q.i) f fd)(S:Vr q.N q.ps<|ai<|bD q.i)(y:∀j,FY j P w K mg base k->Vu j ⟨K,mg,E0⟩ t)(h:dF bD t q=J φ):T8 P w K mg base lD (k+1) f fd q.ps<|rj K mg<|gx φ q.N q.ps:=by
 obtain⟨r,h',rfl⟩:=dO.mp h;refine F.okD (O':=r.2) S fun u m A n s H E o=>?_;obtain⟨v,p,rfl,l⟩:=vO m;refine Ab rfl (fun j z=>?_) S.nd SQ rfl 12 [] _ r h' [];refine xW z.wb fun a b c d e g i j1 j2=>?_;exact y j ⟨a,b,c,d,e,g▸o,i,v,p,_,j1,j2,l⟩
theorem L8(e:∀b k,FY b P w K mg base k->Vu b ⟨K,mg,E0⟩ B/\∀f∈ext,dr b ⟨K,mg,E0⟩ f)(j:∀a∈acc,Bw P w K mg base a)(Q:eB bD K mg q f fd)(S:Vr q.N q.ps<|ai<|bD q.i)(h:RV bD B ext q acc m):
  T8 P w K mg base lD (m.dp q) f fd q.ps (rj K mg<|m.F q):=by
 cases m with
 |pl φ=>exact rq Q.F S (fun b y=>pA (self:=[]) e j (mK _) y fun f s=>nomatch s) h
 |rc φ c n=>
  obtain⟨h1,h2,r⟩:=h;show T8 P w K mg base lD (q.d+n) f fd q.ps<|rj K mg<|c n;induction n with
  |zero=>
   have  := funext h2;rw[this];exact T8.void
  |succ n p=>
   rw[r n];refine rq Q.F S (fun b y=>pA e j (zQ _ _) y fun g l=>?_)<|h1<|c n;obtain⟨x,o,rfl⟩:=d9.mp l;exact gP Q p o b _ y<|mK _
end
end L2
namespace L2
open PySem PySem.Spec PyProof.Rows
section
variable{W:Wd}{X:Cx}
def Tl(K:aT):UL:=fun x y H Q=>match x,y with
 |.int i,.int j=>Q (.int<|i+j) H
 |.str i,.str j=>i.length+j.length<=sizeLine/\Q (.str<|i++j) H
 |.ref l,.ref b=>∃xs zs,gr K H l xs/\gr K H b zs/\xs.length+zs.length<=sizeLine/\∀p,H p=U->Q (.ref p) (br H p<|.lst<|xs++zs)
 |_,_=>False
def Xr:eJ X (binaryOp .Add)<|Tl X.K:=((OX.or Ak).or ag4).imp fun x y H Q q=>by
 unfold Tl at q;split at q
 .exact .inl (.inl ⟨_,_,rfl,rfl,q⟩)
 .mright
 .refine US q fun xs zs h1 h2 h3 h4=>?_;exact .inr ⟨_,_,xs,zs,rfl,rfl,h1,h2,h3,h4⟩
 .exact q.elim
noncomputable def eZ(a b:D):R D:=match a,b with
 |.int i,.int j=>.ok<|.int<|i+j
 |.str x,.str y=>if x.length+y.length<=1000000 then .ok (.str<|x++y)else .no
 |.lst xs,.lst ys=>if xs.length+ys.length<=1000000 then .ok (.lst<|xs++ys)else .no
 |_,_=>.no
def MTb:eZ (.int i) (.int j)=.ok (.int<|i+j):=rfl
def Nd:eZ (.str x) (.str y)=if x.length+y.length<=1000000 then .ok (.str<|x++y)else .no:=rfl
def Ua:eZ (.lst xs) (.lst ys)=if xs.length+ys.length<=1000000 then .ok (.lst<|xs++ys)else .no:=rfl
def U2:wo W (Tl W.K) eZ:=by
 intro as H x y a b Q f e d h;unfold eZ at h;cbv
 .cases e;cases d;exact ax h rfl
 .cases e;cases d;cbv
  .rename_i hl;exact⟨RW hl ck,ax h rfl⟩
  .mleft
 .obtain⟨p,vs,rfl,q1,q2⟩:=e;obtain⟨p2,ws,rfl,q3,q4⟩:=d;cbv
  .rename_i hl;rw[q2.len,q4.len]at hl;refine⟨vs,ws,(aD _ _).seq q1,(aD _ _).seq q3,RW hl ck,fun p c=>?_⟩;exact h _ _ (bR c _) ⟨p,vs++ws,rfl,.inl<|.inl<|by rw[av<|f p c];exact aE,(q2.append q4).mono<|aA<|bR c _⟩
  .mleft
 .mleft
end
section
variable{X:Cx}{K:aT}{mg:Sq}{P:Ru}{a b:Ry}{φ ψ:FM}{pos:Pos}
def nC(φ ψ:FM):FM:=fun Y L=>(φ Y L).bind fun x L=>(ψ Y L).bind fun y L=>match eZ x y with
 |.ok d=>.ok d L
 |_=>.no
theorem agW(o:ME X K mg P a φ)(m:ME X K mg P b ψ)(q:X.K=K):ME X K mg P (.BinOp a .Add b pos)<|nC φ ψ:=fun E=>by
 subst q;refine(Wn (X:=X.ws E) Xr (o E)<|m E).imp fun Z H Q q=>UZ q fun as B hs cl Y L I h=>⟨as,B,hs,cl,Y,L,I,bx h fun d v μ1 e H1 n st g h1=>⟨as,B,hs,e,Y,μ1,n,bx h1 fun j l μ2 c t k i f h2=>?_⟩⟩;refine U2 (W:=⟨X.K,mg,E0⟩) (c.flatten++as) t v l d j Q (fun p r z=>k.Vq p z r) (bQ.mono i g) f ?_;cases hr:eZ d j with
 |ok d3=>
  rw[hr]at h2;exact fun v H' s g=>h2 v c H' (k.mono s) (aA s) g
 |er x=>rw[hr]at h2;exact h2.elim
 |no=>rw[hr]at h2;exact h2.elim
end
end L2
namespace L2
open PySem PySem.Spec PyProof.Rows
def ji(P:Ru)(φ:FE):FM:=fun Y L=>match φ (fill P L Y)with
 |.ok d=>if Sj d=G then .ok d L else(match φ Y with
  |.ok d=>.ok d L
  |_=>.no)
 |_=>.no
theorem Ka{K:aT}(h:∀a,JE (X.Td a) e<|tD ⟨K,mg,E0⟩ [] φ):ME X K mg P e<|ji P φ:=fun E=>by
 refine⟨fun aa s Z H Q I q=>UZ q fun as B hs cl Y L M f=>?_⟩;unfold ji at f;cases hr:φ (fill P L Y)with
 |ok d=>
  rw[hr]at f;dsimp only at f;by_cases b:Sj d=G
  .refine(Lp h E).out aa s Z H Q I ⟨as,B,hs,cl,Y,L,M,?_⟩;delta Wl;mright
  .rw[SM b]at f;exact(Ll h E).out aa s Z H Q I ⟨as,B,hs,cl,Y,L,M,f⟩
 |er x=>rw[hr]at f;exact f.elim
 |no=>rw[hr]at f;exact f.elim
abbrev FK:=Scope->SH->Ru->Ry->Option (List Ry×(qg->FM))
abbrev V0:=Scope->SH->Ru->Ry->Option (Ry×(FE->FM))
abbrev LH:=Nat->Scope->(Str->Bool)->SH->Ru->SU->Option (List Ry×(qg->gi)×Ru)
structure xq where
 t:Tb
 f:List FK
 g:List V0
 s:List LH
 h:List<|Nat->Scope->SH->Ru->SU->Option (Ry×(FM->gi))
 w:Nat
structure l8(X:Cx)(K:aT)(mg:Sq)(u:xq):Prop where
 t:∀E' Yq0,Xg (X.Td E') Yq0->Vu Yq0 ⟨K,mg,E0⟩ u.t
 f:∀f∈u.f,∀P e es b α,f X.env.scope X.N P e=J (es,b)->MA X K mg P es α->ME X K mg P e (b α)
 g:∀f∈u.g,∀P e a b φ,f X.env.scope X.N P e=J (a,b)->(∀E',JE (X.Td E') a<|tD ⟨K,mg,E0⟩ [] φ)->ME X K mg P e (b φ)
 s:∀f∈u.s,∀nl Pb P s es b P' α,f nl X.env.scope X.fn X.N P s=J (es,b,P')->MA X K mg P es α->MS X K mg nl Pb P P' s (b α)
 h:∀f∈u.h,∀nl Pb P s e b φ,f nl X.env.scope X.N P s=J (e,b)->ME X K mg P e φ->(∀pl,ME (X.pin pl) K mg P e φ)->MS X K mg nl Pb P P s (b φ)
 c:X.calm=G
 k:K=X.K
 n:X.N.Nodup
 st:X.stack=X.env::X.outer
 fr:X.env.frame=J X.env.locals
def EN(a:Scope)(N:SH)(P:Ru)(e:Ry):Option<|Nat×Nat×Str:=(ug e).bind fun x=>(Mm N x).bind fun i=>(P.findIdx? fun j=>decide (j=i)).bind fun k=>if OK a x=G then J (k,i,x)else U
def ii(h:EN sc N P e=J (k,i,x)):∃p,e=.Name x p/\P[k]?=J i/\N[i]?=J x/\m6 sc x/\TN x/\#[2]=η:=by
 obtain⟨d,a,h⟩:=bY.mp h;obtain⟨b,h1,h⟩:=bY.mp h;obtain⟨f,h2,h⟩:=bY.mp h;cbv
 .rename_i hr;nofun;delta ug at a;split at a
  .cases a;obtain⟨c,g,_⟩:=Kg.mp h2;refine⟨_,rfl,?_,gc h1,tV hr⟩
   mright
  .cases a
 .nofun
def Au(a:Scope)(N:SH)(P:Ru)(b:Ry->Option FM):List Ry->Option qg
 |[]=>J bj
 |e::es=>if al e=G then(match EN a N P e with
  |some (k,_,_)=>(Au a N P b es).map<|mw k
  |none=>(b e).bind fun φ=>(Au a N P b es).map (aK φ))else U
def Pd(t:xq)(d:Scope)(N:SH)(P:Ru)(h:Ry->Option FM)(i:Ry->Option lM)(e:Ry):Option FM:=match(ip t.t dB d N []).1 e with
 |some φ=>J<|ji P φ
 |none=>match e with
  |.IfExp c a b _=>(i c).bind fun τ=>(h a).bind fun φ=>(h b).map fun ψ=>Nf τ φ ψ
  |.Tuple es _ _=>(Au d N P h es).map vN
  |.BinOp a .Add b _=>(h a).bind fun φ=>(h b).map fun ψ=>nC φ ψ
  |e=>match fst t.f fun f=>f d N P e with
   |some q=>(Au d N P h q.1).map q.2
   |none=>(fst t.g fun f=>f d N P e).bind fun q=>((ip t.t dB d N []).1 q.1).map q.2
noncomputable def F8(f:Ry->Option lM)(q:lM->lM->lM):List Ry->Option lM
 |[]=>U
 |[a]=>f a
 |a::b::r=>(f a).bind fun τ=>(F8 f q<|b::r).map<|q τ
def Qv(t:xq)(c:Scope)(N:SH)(P:Ru)(d:Ry->Option FM)(b:Ry->Option lM)(e:Ry):Option lM:=match(ip t.t dB c N []).2 e with
 |some τ=>J<|uv P τ
 |none=>match e with
  |.UnaryOp .Not a _=>(b a).map Dc
  |.BoolOp .And l _=>F8 b xg l
  |.BoolOp .Or l _=>F8 b J6 l
  |e=>if P8 e=G then(d e).map qL else U
def o9(t:xq)(a:Scope)(N:SH)(P:Ru):Nat->(Ry->Option FM)×(Ry->Option lM)
 |0=>(fun _=>U,fun _=>U)
 |n+1=>(Pd t a N P (o9 t a N P n).1 (o9 t a N P n).2,Qv t a N P (o9 t a N P n).1 (o9 t a N P n).2)
section
variable{K:aT}
def nX(g:∀e φ,fx e=J φ->ME X K mg P e φ):∀(es:List Ry)(α:qg),Au X.env.scope X.N P fx es=J α->MA X K mg P es α:=TB (fun _ h=>by nofun;exact(fun E=>eD.imp (by intro Z H Q l;refine UZ l fun as B hs cl Y L I h=>?_;exact h [] cl H I #[23] rfl))) fun e es i_ α h=>by
  unfold Au at h;cbv
  .rename_i hn;cbv
   .rename_i k i x ho;obtain⟨β,h1,rfl⟩:=dO.mp h;refine c6 (ii ho) fun p j a b c d f=>?_;subst j;exact Tk a (i_ β h1) b c d f
   .obtain⟨φ,h1,h⟩:=bY.mp h;obtain⟨β,h2,rfl⟩:=dO.mp h;exact LF (g e φ h1) (i_ β h2) hn
  .nofun
def MV(T:l8 X K mg t)(h:(ip t.t dB X.env.scope X.N []).1 e=J φ):∀a,JE (X.Td a) e<|tD ⟨K,mg,E0⟩ [] φ:=fun a=>(jG (X:=X.Td a) T.k T.c (T.t a) dB (X.Td a) .re []).1 e φ h
def abN(T:l8 X K mg t)(h:(ip t.t dB X.env.scope X.N []).2 e=J τ):∀a,JT (X.Td a) e<|lq ⟨K,mg,E0⟩ [] τ:=fun a=>(jG (X:=X.Td a) T.k T.c (T.t a) dB (X.Td a) .re []).2 e τ h
def JQ(T:l8 X K mg t)(a:∀e φ,fx e=J φ->ME X K mg P e φ)(b:∀e τ,ft e=J τ->MT X K mg P e τ)(e:Ry)(φ:FM)(h:Pd t X.env.scope X.N P fx ft e=J φ):ME X K mg P e φ:=by
 unfold Pd at h;cbv
 .rename_i φ0 h0;nofun;exact Ka<|MV T h0
 .cbv
  .obtain⟨τ,h0,h⟩:=bY.mp h;obtain⟨φ1,h1,h⟩:=bY.mp h;obtain⟨ψ,h2,rfl⟩:=dO.mp h;exact aay (b _ _ h0) (a _ _ h1)<|a _ _ h2
  .obtain⟨α,h1,rfl⟩:=dO.mp h;exact PX<|nX a _ _ h1
  .obtain⟨φ1,h1,h⟩:=bY.mp h;obtain⟨ψ,h2,rfl⟩:=dO.mp h;exact agW (a _ _ h1) (a _ _ h2) T.k.symm
  .cbv
   .rename_i q e1;obtain⟨f,h2,h3⟩:=fE e1;obtain⟨α,h1,rfl⟩:=dO.mp h;exact T.f f h2 P _ _ _ α h3<|nX a _ _ h1
   .obtain⟨q,h0,h⟩:=bY.mp h;obtain⟨φ0,h1,rfl⟩:=dO.mp h;obtain⟨f,h2,h3⟩:=fE h0;exact T.g f h2 P _ _ _ φ0 h3<|MV T h1
theorem yi(c:∀e τ,f e=J τ->MT X K mg P e τ):∀(l:List Ry)(τ:lM),F8 f xg l=J τ->MW X K mg P (.BoolOp .And l pos) τ
 |[],_,h=>by nofun
 |[a],τ,h=>KO<|c a τ h
 |a::b::r,_,h=>by
  obtain⟨τ,h1,h⟩:=bY.mp h;obtain⟨υ,h2,rfl⟩:=dO.mp h;exact OZ (c _ _ h1)<|yi c (b::r) υ h2
theorem Cd(c:∀e τ,f e=J τ->MT X K mg P e τ):∀(l:List Ry)(τ:lM),F8 f J6 l=J τ->MW X K mg P (.BoolOp .Or l pos) τ
 |[],_,h=>by nofun
 |[a],τ,h=>PN<|c a τ h
 |a::b::r,_,h=>by
  obtain⟨τ,h1,h⟩:=bY.mp h;obtain⟨υ,h2,rfl⟩:=dO.mp h;exact aft (c _ _ h1)<|Cd c (b::r) υ h2
def Kr(T:l8 X K mg t)(b:∀e φ,fx e=J φ->ME X K mg P e φ)(a:∀e τ,ft e=J τ->MT X K mg P e τ)(e:Ry)(τ:lM)(h:Qv t X.env.scope X.N P fx ft e=J τ):MT X K mg P e τ:=by
 delta Qv at h;cbv
 .rename_i τ0 h0;nofun;exact Ko<|abN T h0
 .cbv
  .obtain⟨υ,h1,rfl⟩:=dO.mp h;exact RA<|a _ _ h1
  .exact BC (yi a _ _ h)
  .exact BC (Cd a _ _ h)
  .cbv
   .rename_i hb;obtain⟨φ,h1,rfl⟩:=dO.mp h;exact Iq (b _ _ h1) (B6 hb _) T.k.symm
   .nofun
def ly(T:l8 X K mg t):∀(n:Nat),(∀e φ,(o9 t X.env.scope X.N P n).1 e=J φ->ME X K mg P e φ)/\∀e τ,(o9 t X.env.scope X.N P n).2 e=J τ->MT X K mg P e τ:=X5 (⟨fun _ _ h=>(by nofun),fun _ _ h=>(by nofun)⟩) fun n i_=>⟨JQ T (i_).1 (i_).2,Kr T (i_).1 (i_).2⟩
end
def mB:Nat:=12
def Pz(t:xq)(nl:Nat)(d:Scope)(fn:Str->Bool)(N:SH)(g:Ru->List SU->Option (gi×Ru))(P:Ru)(s:SU):Option<|gi×Ru:=match fst t.s fun f=>f nl d fn N P s with
 |some q=>(Au d N P (o9 t d N P mB).1 q.1).map fun α=>(q.2.1 α,q.2.2)
 |none=>match rB s with
  |some (x,a,e)=>(Hs N P d fn a).bind fun i=>if zd e=G then U else((o9 t d N P mB).1 e).map fun φ=>(qM nl i φ,P)
  |none=>match s with
  |.Return r _=>match r with|some e=>((o9 t d N P mB).1 e).map fun φ=>(xz nl φ,P)|none=>J (UF nl,P)
  |.Expr e _=>if zd e=G then U else((o9 t d N P mB).1 e).map fun φ=>(sr nl φ,P)
  |.Pass _=>J (qG,P)
  |.If c a b _=>((o9 t d N P mB).2 c).bind fun τ=>(g P a).bind fun p=>(g P b).bind fun q=>if p.2=P/\q.2=P then J (pf nl τ p.1 q.1,P)else U
  |.While c body r _=>match r with|[]=>((o9 t d N P mB).2 c).bind fun τ=>(g P body).bind fun p=>if p.2=P then J (bV nl τ p.1 t.w,P)else U|_=>U
  |s=>(fst t.h fun f=>f nl d N P s).bind fun q=>((o9 t d N P mB).1 q.1).map fun φ=>(q.2 φ,P)
def Qh(f:Ru->SU->Option (gi×Ru)):Ru->List SU->Option (gi×Ru)
 |P,[]=>J (qG,P)
 |P,[s]=>f P s
 |P,s::a::r=>(f P s).bind fun p=>(Qh f p.2<|a::r).map fun q=>(bZ p.1 q.1,q.2)
def Qc(t:xq)(nl:Nat)(a:Scope)(fn:Str->Bool)(N:SH):Nat->Ru->List SU->Option (gi×Ru)
 |0=>fun _ _=>U
 |n+1=>Qh<|Pz t nl a fn N<|Qc t nl a fn N n
section
variable{K:aT}
def vY(h:Hs N P sc fn (.Name x p)=J i):i∉P/\N[i]?=J x/\Qp sc fn x=G:=by
 obtain⟨c,a,h⟩:=bY.mp h;cases a;obtain⟨b,h1,h⟩:=bY.mp h;cbv
 .rename_i hq;nofun;exact⟨hq.1,gc h1,hq.2⟩
 .nofun
def LG(T:l8 X K mg t)(k:∀pl,l8 (X.pin pl) K mg t)(g:∀P sts q,fb P sts=J q->∀Pb,MB X K mg nl Pb P q.2 sts q.1)(P:Ru)(s:SU)(q:gi×Ru)(h:Pz t nl X.env.scope X.fn X.N fb P s=J q)(Pb:Ru):MS X K mg nl Pb P q.2 s q.1:=by
 have tx:=ly (P:=P) T mB;delta Pz at h;cbv
 .rename_i r e1;obtain⟨f,h2,d⟩:=fE e1;obtain⟨α,h1,rfl⟩:=dO.mp h;exact T.s f h2 nl Pb P s _ _ _ α d<|nX tx.1 _ _ h1
 .cbv
  .rename_i hx;obtain⟨p,b,rfl,rfl⟩:=IH hx;clear hx;obtain⟨i,h1,h⟩:=bY.mp h;cbv
   .nofun
   .rename_i hcp;obtain⟨φ,h2,rfl⟩:=dO.mp h;obtain⟨a,b,c⟩:=vY h1;obtain⟨e,l⟩:=pk c;exact Ow a T.n e (tx.1 _ _ h2) b (jH (Wc.mpr hcp) _ _ _) l
  cbv
  .cbv
   .obtain⟨φ,h2,rfl⟩:=dO.mp h;exact QM<|tx.1 _ _ h2
   .nofun;exact(fun E=>(Kc).imp (by intro D Z H m;refine Vc m fun as B j cl Y L e I h=>?_;exact h .S9 _ H (e▸I.mo) rfl))
  .cbv
   .nofun
   .rename_i hcp;obtain⟨φ,h2,rfl⟩:=dO.mp h;exact KK (tx.1 _ _ h2)<|jH (Wc.mpr hcp) _ _ _
  .nofun;exact(fun E=>Ki.imp (by intro D Z H m;refine Vc m fun as B j cl Y L e I h=>?_;exact h cl Z H I))
  .obtain⟨τ,h1,h⟩:=bY.mp h;obtain⟨p,h2,h⟩:=bY.mp h;obtain⟨r,d,h⟩:=bY.mp h;cbv
   .rename_i hq;nofun;have a:=g _ _ _ h2 Pb;have b:=g _ _ _ d Pb;rw[hq.1]at a;rw[hq.2]at b;exact akE (tx.2 _ _ h1) a b
   .nofun
  .cbv
   .obtain⟨τ,h1,h⟩:=bY.mp h;obtain⟨p,h2,h⟩:=bY.mp h;cbv
    .rename_i hq;nofun;have b:=g _ _ _ h2 P;rw[hq]at b;exact EO t.w T.st T.fr (tx.2 _ _ h1) b
    .nofun
   .nofun
  .obtain⟨r,j,h⟩:=bY.mp h;obtain⟨φ,h1,rfl⟩:=dO.mp h;obtain⟨f,h2,d⟩:=fE j;exact T.h f h2 nl Pb P _ _ _ φ d (tx.1 _ _ h1) fun pl=>(ly (k pl) mB).1 _ _ h1
theorem B8(b:∀P s q,f P s=J q->∀Pb,MS X K mg nl Pb P q.2 s q.1):∀(sts:List SU)(P:Ru)(q:gi×Ru),Qh f P sts=J q->∀Pb,MB X K mg nl Pb P q.2 sts q.1
 |[],P,q,h,Pb=>by nofun;exact(fun E=>Hu.imp (by intro D Z H c;refine Vc c fun as B d cl Y L e I h=>?_;exact h cl Z H I))
 |[s],P,q,h,Pb=>Q2<|b P s q h Pb
 |s::a::r,P,q,h,Pb=>by
  obtain⟨p,h1,h⟩:=bY.mp h;obtain⟨u,h2,rfl⟩:=dO.mp h;exact Kk (b P s p h1 Pb)<|B8 b (a::r) p.2 u h2 Pb
def wC(T:l8 X K mg t)(a:∀pl,l8 (X.pin pl) K mg t):∀(n:Nat)(P:Ru)(sts:List SU)(q:gi×Ru),Qc t nl X.env.scope X.fn X.N n P sts=J q->∀Pb,MB X K mg nl Pb P q.2 sts q.1:=X5 (fun _ _ _ h _=>by nofun) fun n i_ P sts q h Pb=>B8 (fun P s q h Pb=>LG T a (i_) P s q h Pb) sts P q h Pb
end
def vX:FE:=fun _=>.no
def g0(l:List FE):FE:=l.headD vX
def g1(l:List FE):FE:=(l.drop 1).headD vX
def g2(l:List FE):FE:=(l.drop 2).headD vX
noncomputable def Ip:Ry->Bool
 |.Slice ..=>G
 |_=>η
def ym(h:Ip b=η):rh b:=by
 cases b<;>first|exact fun _ _=>rfl|nofun
def Np(h:Ip b=η):En b:=by
 cases b<;>first|exact fun _ _=>rfl|nofun
def BA(h:xJ b=η)(a:CmpOp):t8 a b=η:=by
 cases b<;>first|assumption|rfl|nofun
noncomputable def Aa:Ry->Bool
 |.Name ..=>G
 |.Subscript ..=>G
 |.Attribute ..=>G
 |.Constant ..=>G
 |.Call _ (_::_) _ _=>G
 |.Dict ..=>G
 |_=>η
def Lz(f:Str)(env:Env)(m:Sem nE):WG (.Call g (a::es) kw pos) f env m=m:=by
 cases g<;>rfl
def zq(h:Aa e=G)(f:Str)(env:Env):WG e f env (eval e env)=eval e env:=by
 cases e<;>first|rfl|skip;all_goals (rename_i g a b pos;cases a<;>first|exact Lz _ _ _|nofun)
def iK:Ry->Bool:=fun _=>G
noncomputable def cM:Ry->Option (Ry×Str×List Ry)
 |.Call (.Attribute a f apos) es [] cpos=>if#[6]=G then J (a,f,es)else U
 |_=>U
def kr(h:cM e=J q):∃apos cpos,e=.Call (.Attribute q.1 q.2.1 apos) q.2.2 [] cpos/\#[6]=G:=by
 delta cM at h;cbv
 .grind
 .nofun
def cS:Ry->Option (Ry×Ry)
 |.Subscript a b _=>if Ip b=G then U else J (a,b)
 |_=>U
def BX(h:cS e=J q):∃pos,e=.Subscript q.1 q.2 pos/\Ip q.2=η:=by
 delta cS at h;cbv
 .cbv
  .nofun
  .nofun;mright
 .nofun
def cC:Ry->Option (Ry×CmpOp×Ry)
 |.Compare a [o] [b] _=>if xJ b=G then U else J (a,o,b)
 |_=>U
def alx(h:cC e=J q):∃pos,e=.Compare q.1 [q.2.1] [q.2.2] pos/\xJ q.2.2=η:=by
 delta cC at h;cbv
 .cbv
  .nofun
  .nofun;mright
 .nofun
def xE:SU->Option Ry
 |.Expr e _=>J e
 |_=>U
def NR(h:xE s=J e):∃pos,s=.Expr e pos:=by
 delta xE at h;cbv
 .mright
 .nofun
section
theorem yN(h:Js X W O [a] l):∃φ,l=[φ]/\JE X a (tD W O φ):=by
 match l,h with
 |[φ],h=>exact⟨φ,rfl,h.1⟩
theorem Kp(h:Js X W O [a,b] l):∃φ ψ,l=[φ,ψ]/\JE X a (tD W O φ)/\JE X b (tD W O ψ):=by
 match l,h with
 |[φ,ψ],h=>exact⟨φ,ψ,rfl,h.1,h.2.1⟩
theorem js3(h:Js X W O [a,b,c] l):∃φ ψ χ,l=[φ,ψ,χ]/\JE X a (tD W O φ)/\JE X b (tD W O ψ)/\JE X c (tD W O χ):=by
 match l,h with
 |[φ,ψ,χ],h=>exact⟨φ,ψ,χ,rfl,h.1,h.2.1,h.2.2.1⟩
theorem KM.m(h:KM X W f):dr X W f:=fun O e es b a h1 h2=>FQ<|h O e es b a h1 h2
end
section
variable{X:Cx}{W:Wd}
def yc(c:Operator)(g:D->D->R D):Fm:=fun _ _ _ e=>match e with
 |.BinOp a o b _=>if o=c then J ([a,b],fun l=>aH g (g0 l)<|g1 l)else U
 |_=>U
def lr(c:eJ X (Yo op) r)(hd:wo W r g):dr X W<|yc op g:=fun O e es b d h a=>by
 delta yc at h;cbv
 .cbv
  .rename_i hq;subst hq;nofun;obtain⟨φ,ψ,rfl,h1,h2⟩:=Kp a;exact( IG (fun h1 h2=>Wn c h1 h2) rfl hd h1 h2)
  .nofun
 .nofun
def gH(a:CmpOp)(g:D->D->R D)(p:Ry->Bool):Fm:=fun _ _ _ e=>(cC e).bind fun q=>if q.2.1=a/\p q.2.2=G then J ([q.1,q.2.2],fun l=>aH g (g0 l)<|g1 l)else U
def fQ(f:Fm):Fq:=fun a N O e=>(f a N O e).map fun q=>(q.1,fun l=>dC<|q.2 l)
def CZ(h:gH op g p sc N O e=J (es,b)):∃x y pos,e=.Compare x [op] [y] pos/\es=[x,y]/\b=(fun l=>aH g (g0 l)<|g1 l)/\xJ y=η:=by
 mstop
 obtain⟨q,h1,h⟩:=h;cbv
 .rename_i hq;nofun;obtain⟨pos,rfl,h2⟩:=alx h1;exact⟨_,_,_,by rw[hq.1],rfl,rfl,h2⟩
 .nofun
def bz(c:eJ X (UI op) r)(hd:wo W r g):dr X W (gH op g p)/\Sn X W (fQ<|gH op g p):=by
 refine⟨fun O e es b d h a=>?_,fun O e es b d h a=>?_⟩
 .obtain⟨x,y,pos,rfl,rfl,rfl,hs⟩:=CZ h;obtain⟨φ,ψ,rfl,h1,h2⟩:=Kp a;exact(fun c hd k l f =>  IG (fun h1 h2=>lrc c h1 h2 f) rfl hd k l) c hd h1 h2<|BA hs _
 .obtain⟨q,h,hq⟩:=dO.mp h
  obtain⟨x,y,pos,rfl,j,i,hs⟩:=CZ h;cases hq;rw[j]at a;obtain⟨φ,ψ,rfl,h1,h2⟩:=Kp a;rw[i];exact Qi c hd h1 h2<|BA hs _
def Zs(g:D->D->R D)(p:Ry->Bool):Fm:=fun _ _ _ e=>(cS e).bind fun q=>if p q.1=G then J ([q.1,q.2],fun l=>aH g (g0 l)<|g1 l)else U
def P6(k:∀O a b pos φ ψ,Ip b=η->JE X a (tD W O φ)->JE X b (tD W O ψ)->JE X (.Subscript a b pos) (tD W O<|aH g φ ψ)):dr X W<|Zs g p:=fun O e es b i h c=>by
 mstop
 obtain⟨q,h1,h⟩:=h;cbv
 .nofun;obtain⟨pos,rfl,h2⟩:=BX h1;obtain⟨φ,ψ,rfl,f,d⟩:=Kp c;exact k _ _ _ _ _ _ h2 f d
 .nofun
section
variable{X:Cx}{W:Wd}
end
def oP(o:Option Ry)(φ:FE):Sd->R (Option Int):=match o with
 |none=>Hh
 |some _=>gI φ
def X8(g:D->Option Int->Option Int->R D):Fm:=fun _ _ _ e=>match e with
 |.Subscript a (.Slice lo hi U _) _=>J (a::(lo.toList++hi.toList),fun l=>Jm g (g0 l) (oP lo<|g1 l)<|oP hi<|if lo.isSome=G then g2 l else g1 l)
 |_=>U
def QZ(d:V2 X r)(hd:ZQ W r g):dr X W<|X8 g:=fun O e es b i h c=>by
 delta X8 at h;cbv
 .rename_i a lo hi _ _;nofun;cases lo with
  |none=>cases hi with
   |none=>obtain⟨φ,rfl,h1⟩:=yN c;exact rJ d hd h1 rl rl
   |some u=>obtain⟨φ,ψ,rfl,h1,h2⟩:=Kp c;exact rJ d hd h1 rl<|ro h2
  |some v=>cases hi with
   |none=>obtain⟨φ,ψ,rfl,h1,h2⟩:=Kp c;exact rJ d hd h1 (ro h2) rl
   |some u=>obtain⟨φ,ψ,χ,rfl,h1,h2,f⟩:=js3 c;exact rJ d hd h1 (ro h2)<|ro f
 .nofun
def SJ:Fm:=fun _ _ _ e=>match e with
 |.Tuple es _ _=>if es.all al=G then J (es,fun l=>uD<|aL l)else U
 |_=>U
section
variable{X:Cx}{W:Wd}
end
def LC:Fm:=fun _ _ _ e=>match e with
 |.List es _=>if es.all al=G then J (es,fun l=>uw<|aL l)else U
 |_=>U
def Bq:KM X W LC:=fun O e es b c h a=>by
 delta LC at h;cbv
 .cbv
  .rename_i hq;nofun;exact akL<|xS a hq
  .nofun
 .nofun
def uo(c f:Str):Fm:=fun _ _ _ e=>match e with
 |.Attribute a g _=>if g=f/\Aa a=G then J ([a],fun l=>iw c f<|g0 l)else U
 |_=>U
def Co(j:DO X.K By c=J #[14])(g:UR X.K C)(a:a9 X.K C f)(i:W.K=X.K):dr X W<|uo c f:=fun O e es b k h d=>by
 delta uo at h;cbv
 .cbv
  .rename_i hq;nofun;obtain⟨φ,rfl,h1⟩:=yN d;rw[hq.1];exact Nn X.K j g a h1 (zq hq.2 f _) rfl i
  .nofun
 .nofun
def fB(x:Str)(F:Rx->R D):Fm:=fN x (fun n=>decide (0<n)) fun l=>aI F<|aL l
theorem No{c:FA->FE}{t:Ru->FE->TE}(k:∀O a es p pos α,Gl X x->TN x->al a=G->es.all al=G->JA X (a::es) (zx W O α)->JE X (.Call (.Name x p) (a::es) [] pos) (t O<|c α)):
  ∀O e es b d,fN x (fun n=>decide (0<n)) (fun l=>c<|aL l) X.env.scope X.N O e=J (es,b)->Js X W O es d->JE X e (t O<|b d):=fun O e es b d h g=>by
 obtain⟨p,pos,rfl,h1,h2,i,rfl⟩:=Nj h;cases es with
 |nil=>trivial
 |cons a r=>
  have f:=h2;rw[Vg,oR]at f;exact k _ _ _ _ _ _ (eI h1).1 (eI h1).2 f.1 f.2<|xS g h2
def sW{id:String}(b:bI X (.builtin id) r)(hd:nU W r F)(c:X.mg x=U)(g:Vl x=J (.builtin id))(h:#[27]<|>Sm):dr X W<|fB x F:=
 No fun O a es p pos α h1 h2 f d e=>Kw b hd c g e h1 f d h h2
def wH(b:bI X (.type T) r)(hd:nU W r F)(c:X.mg x=U)(g:Vl x=J (.type T))(h:#[27]<|>Sm):dr X W<|fB x F:=
 No fun O a es p pos α h1 h2 f d e=>Ku b hd c g e h1 f d h h2
section
variable{X:Cx}{W:Wd}
def vt(d:X.mg x=U)(c:bootBuiltins x=J (.type n))(b:#[27]<|>Sm)(a:(x==#[20])=η<|>Sm):yy X W x<|.ty n:=fun O p e=>acX d c e b a
end
def abS(b:X.mg x=J u)(r:aP v u)(hd:∀H,bQ W.K H d v)(a:TN x<|>Sm):yy X W x d:=fun O p c=>Oy b r hd c a
def WW(b:UnaryOp)(g:D->R D):Fm:=fun _ _ _ e=>match e with
 |.UnaryOp o a _=>if o=b then J ([a],fun l=>zz g<|g0 l)else U
 |_=>U
def QU(c:KD X (unaryOp op) r)(hd:YB W r g):dr X W<|WW op g:=fun O e es b d h a=>by
 delta WW at h;cbv
 .cbv
  .rename_i hq;subst hq;nofun;obtain⟨φ,rfl,h1⟩:=yN a;exact abg c hd h1
  .nofun
 .nofun
def Jh:Fm:=fun _ _ _ e=>match e with
 |.UnaryOp .Not a _=>J ([a],fun l=>Oz<|g0 l)
 |.BoolOp _ [a] _=>J ([a],g0)
 |.BoolOp .And (a::b::r) pos=>J ([a,.BoolOp .And (b::r) pos],fun l=>GS (g0 l)<|g1 l)
 |.BoolOp .Or (a::b::r) pos=>J ([a,.BoolOp .Or (b::r) pos],fun l=>Jn (g0 l)<|g1 l)
 |_=>U
section
variable{X:Cx}{W:Wd}
end
def Zl(m:Str)(n:Nat)(c:List FE->FE):Fm:=fun _ _ _ e=>(cM e).bind fun q=>if q.2.1=m/\q.2.2.length=n/\Aa q.1=G/\q.2.2.all al=G then J (q.1::q.2.2,c)else U
def O7(h:Zl m n c sc N O e=J (es,b)):∃a r apos cpos,e=.Call (.Attribute a m apos) r [] cpos/\es=a::r/\b=c/\r.length=n/\Aa a=G/\r.all al=G/\#[6]=G:=by
 mstop
 obtain⟨q,h1,h⟩:=h;cbv
 .rename_i hq;nofun;obtain⟨apos,cpos,rfl,h2⟩:=kr h1;exact⟨_,_,_,_,by rw[hq.1],rfl,rfl,hq.2.1,hq.2.2.1,hq.2.2.2,h2⟩
 .nofun
def S5(m:Str)(n:Nat)(g:Str->Rx->R D):Fm:=Zl m n fun l=>DN g (g0 l)<|aL<|l.drop 1
theorem uc{id:String}(d:Slot "str" m id)(j:typeOf (.builtin id)=pure (.type "method_descriptor"))(k:Oj X id r)(hd:V7 W r g)(t:0<n<|>Sm)(o:n<29<|>Sm):dr X W<|S5 m n g:=fun O e es b i h f=>by
 obtain⟨a,r,apos,cpos,rfl,rfl,rfl,p,s,hs,q⟩:=O7 h;cases r with
 |nil=>mright
 |cons c r=>
  cases i with
  |nil=>exact f.elim
  |cons φ l=>exact akK d j k hd f.1 (xS f.2 hs) (zq s _ _) q hs (by rw[p];exact o)
def XG(x:Str)(tab:List<|Str×D):Fm:=fun a _ _ e=>(cS e).bind fun q=>if ug q.1=J x/\CA a x=G then J ([q.2],fun l=>zz (Xd tab)<|g0 l)else U
def Ir(c:X.mg x=J (.ref a))(l:X.K.lookup a=J ⟨.type "dict",U,.dict es n,#[]⟩)(k:ue X.w.params es.toList)
  (m:∀y d,tab.lookup y=J d->∃v u,DO X.K a y=J (J u)/\aP v u/\∀H,bQ W.K H d v):dr X W<|XG x tab:=fun O e es b f h g=>by
 mstop
 obtain⟨⟨o,i⟩,h1,h⟩:=h;obtain⟨pos,rfl,h2⟩:=BX h1;cbv
 .rename_i hq;nofun;obtain⟨_,rfl⟩:=AY hq.1;obtain⟨φ,rfl,j⟩:=yN g;exact KP tab c l k m j (eI hq.2).1 (eI hq.2).2<|Np h2
 .nofun
def UO(K:aT)(mg:Sq)(q:Str×D):Prop:=∃v u,mg q.1=J u/\aP v u/\(∀H,bQ K H q.2 v)/\∀p,u=.ref p->∃a,K.lookup p=J a/\a.cls=.type "tuple"/\a.dict=U
def oN(a:Scope)(N:SH)(O:Ru)(e:Ry):Option Nat:=(ug e).bind<|owB a N O
def vA(h:oN sc N O e=J i):∃x p,e=.Name x p/\N[i]?=J x/\i∈O/\m6 sc x/\TN x/\#[2]=η:=by
 mstop
 obtain⟨x,h1,h⟩:=h;obtain⟨p,rfl⟩:=AY h1;exact⟨x,p,rfl,(by
   mstop
   obtain⟨j,h1,h⟩:=h;cbv
   .rename_i hq;nofun;exact⟨gc h1,hq.1,tV hq.2⟩
   .nofun)⟩
def VB:Fm:=fun a N O e=>(cS e).bind fun q=>(oN a N O q.1).map fun i=>([q.2],fun l=>aH cR (ag i)<|g0 l)
def LD(j:W.K=X.K):dr X W VB:=fun O e es b c h d=>by
 mstop
 obtain⟨⟨u,v⟩,h1,h⟩:=h;obtain⟨pos,rfl,h2⟩:=BX h1
 replace h:=dO.mp h
 obtain⟨i,h3,h⟩:=h
 nofun;refine XX (vA h3) fun x p n k g f m l=>?_;subst n;obtain⟨φ,rfl,a⟩:=yN d;exact R0 X.K g a k (ym h2) f m l rfl j
def RY(f:Str)(F:Rx->R D):Fm:=fun b N O e=>(cN e).bind fun q=>match q.2 with
 |[a]=>if q.1=f/\CA b f=G then(oN b N O a).map fun i=>([],fun l=>aI F<|ak (ag i) aQ)else U
 |_=>U
def HS(k:∀O i x p1 p2 pos,Gl X f->X.N[i]?=J x->i∈O->m6 X.env.scope x->TN x->#[2]=η->JE X (.Call (.Name f p2) [.Name x p1] [] pos) (tD W O<|aI F<|ak (ag i) aQ)):dr X W<|RY f F:=fun O e es b a h n=>by
 mstop
 obtain⟨⟨g,r⟩,h1,h⟩:=h;obtain⟨p,pos,rfl⟩:=nD h1;dsimp only at h;cbv
 .cbv
  .rename_i hq
   replace h:=dO.mp h
   obtain⟨i,h3,h⟩:=h
   nofun;refine XX (vA h3) fun x p o j d c m l=>?_;subst o;rw[hq.1];exact k _ _ _ _ _ _ (eI hq.2).1 j d c m l
  .nofun
 .nofun
def Jc(a:X.mg "len"=U)(d:W.K=X.K):dr X W<|RY "len" cr:=HS fun O i x p1 p2 pos c h1 h2 e b f=>PU X.K h2 a h1 c e b f rfl d
def Fe(a:X.mg "tuple"=U)(d:W.K=X.K):dr X W<|RY "tuple" wf:=HS fun O i x p1 p2 pos c h1 h2 e b f=>Rq X.K h2 a h1 c e b f rfl d
def Q3:Ry->Bool
 |.Tuple ..=>G
 |_=>η
def Lq(h:Q3 g=G):∃es k p,g=.Tuple es k p:=by
 cases g<;>first|lia|nofun
def fI(x:Str)(n:Nat)(t:Bool)(c:FA->FA):Fi:=fun a _ _ g e=>(cN e).bind fun q=>if q.1=x/\q.2.length=n/\CA a x=G/\q.2.all al=G/\(t=G->Q3 g=G)then J (q.2,fun l=>c<|aL l)else U
def Ng(k:∀O g es p pos α,es.length=n->Gl X x->es.all al=G->(t=G->Q3 g=G)->JA X es (zx W O α)->JI X g (.Call (.Name x p) es [] pos) (iD W O<|c α)):PZ X W<|fI x n t c:=fun O g e es b f h a=>by
 mstop
 obtain⟨q,d,h⟩:=h;obtain⟨p,pos,rfl⟩:=nD d;cbv
 .rename_i hq;nofun;refine uf hq fun h1 h2 j i l=>?_
  rw[h1];exact k _ _ _ _ _ _ h2 (eI j).1 i l<|xS a i
 .nofun
section
variable{X:Cx}{W:Wd}
end
section
variable{X:Cx}{W:Wd}
end
def Z8(m:Str)(c:Nat->FE->FS):Fs:=fun b N O s=>(xE s).bind fun e=>(cM e).bind fun q=>match q.2.2 with
 |[a]=>if q.2.1=m/\al a=G then(oN b N O q.1).map fun i=>([a],fun l=>c i<|g0 l)else U
 |_=>U
def Ox(k:∀Ob O i x e p1 apos cpos pos φ,X.N[i]?=J x->i∈O->m6 X.env.scope x->TN x->#[2]=η->al e=G->#[6]=G->JE X e (tD W O φ)->JS X (.Expr (.Call (.Attribute #[9] m apos) [e] [] cpos) pos) (sD W Ob O O<|c i φ)):IK X W<|Z8 m c:=fun Ob O s es b a h d=>by
 mstop
 obtain⟨e,t,h⟩:=h;obtain⟨_,rfl⟩:=NR t
 mstop
 obtain⟨⟨o,f,r⟩,h1,h⟩:=h;obtain⟨apos,cpos,rfl,h2⟩:=kr h1;dsimp only at h;cbv
 .cbv
  .rename_i hq
   replace h:=dO.mp h
   left;obtain⟨i,h3,h⟩:=h
   nofun;obtain⟨x,p,rfl,l,j,g,q,n⟩:=vA h3;obtain⟨φ,rfl,u⟩:=yN d;right;rw[hq.1];exact k _ _ _ _ _ _ _ _ _ _ l j g q n hq.2 h2 u
  .nofun
 .nofun
section
variable{X:Cx}{W:Wd}
end
def P4:Fs:=fun a N O s=>match s with
 |.AugAssign (.Name x _) .Add e _=>(Mm N x).bind fun i=>if i∉O/\N.Nodup/\a.names.lookup x=J .local then J ([e],fun l=>lz i<|g0 l)else U
 |_=>U
def J4:IK X W P4:=fun Ob O s es b c h a=>by
 delta P4 at h;cbv
 .obtain⟨i,h1,h⟩:=bY.mp h
  cbv
  .rename_i hq;nofun;obtain⟨φ,rfl,h2⟩:=yN a;exact DZ hq.1 hq.2.1 (.inl hq.2.2) h2 (gc h1)<|.inr hq.2.2
  .nofun
 .nofun
def NW:Fs:=fun _ _ _ s=>(xE s).bind fun e=>if zd e=G then U else J ([e],fun l=>ND<|g0 l)
end
structure FZ(Yq0:Cx)(P:Tc)(w:Sl)(K:aT)(mg:Sq)(base:T3)(k:Nat):Prop where
 y:FY Yq0 P w K mg base k
 x:qQ Yq0
 st:Yq0.stack=Yq0.env::Yq0.outer
 fr:Yq0.env.frame=J Yq0.env.locals
section
variable{P:Tc}{w:Sl}{K:aT}{mg:Sq}{base:T3}
def FY.pin(y:FY Yq0 P w K mg base k)(pl:TQ):FY (Yq0.pin pl) P w K mg base k:=⟨y.eK,y.acR,y.eP,y.eW,y.abq,y.hr,y.cm⟩
def FZ.pin(y:FZ Yq0 P w K mg base k)(pl:TQ):FZ (Yq0.pin pl) P w K mg base k:=⟨y.y.pin pl,fun b a=>let⟨o,ho⟩:=y.x b a;⟨o,Le _ ho⟩,y.st,y.fr⟩
abbrev FO(P:Tc)(w:Sl)(K:aT)(mg:Sq)(base:T3)(j:Nat)(f:SA)(fd:Wj)(ps:SH)(Pf:Ru)(F:FM):Prop:=T8 P w K mg base (oI P w mg) j f fd ps<|sJ K mg Pf F
def wE(P:Tc)(w:Sl)(K:aT)(mg:Sq)(base:T3)(j:Nat)(f:FK):Prop:=∀a k,FZ a P w K mg base k->j<=k->∀c e es b α,f a.env.scope a.N c e=J (es,b)->MA a K mg c es α->ME a K mg c e (b α)
def TJ(P:Tc)(w:Sl)(K:aT)(mg:Sq)(base:T3)(j:Nat)(f:V0):Prop:=∀c k,FZ c P w K mg base k->j<=k->∀d e a b φ,f c.env.scope c.N d e=J (a,b)->(∀g,JE (c.Td g) a<|tD ⟨K,mg,E0⟩ [] φ)->ME c K mg d e (b φ)
def zZ(P:Tc)(w:Sl)(K:aT)(mg:Sq)(base:T3)(j:Nat)(f:LH):Prop:=∀a k,FZ a P w K mg base k->j<=k->a.N.Nodup->∀nl Pb c s es b P' α,f nl a.env.scope a.fn a.N c s=J (es,b,P')->MA a K mg c es α->MS a K mg nl Pb c P' s (b α)
abbrev V6:=Nat->Scope->SH->Ru->SU->Option (Ry×(FM->gi))
def Qm(P:Tc)(w:Sl)(K:aT)(mg:Sq)(base:T3)(j:Nat)(f:V6):Prop:=∀a k,FZ a P w K mg base k->j<=k->a.N.Nodup->∀nl Pb c s e b φ,f nl a.env.scope a.N c s=J (e,b)->ME a K mg c e φ->(∀pl,ME (a.pin pl) K mg c e φ)->MS a K mg nl Pb c c s (b φ)
def Zy(x:Str)(Pf:Ru)(F:FM):FK:=fun b _ _ e=>(cN e).bind fun q=>match q.2 with
 |a::es=>if q.1=x/\CA b x=G/\(a::es).all al=G then J (a::es,dm Pf F)else U
 |[]=>U
def Pj{st:SU}(D:Def K mg x st ps f fd)(SK:FO P w K mg base j f fd ps Pf F):wE P w K mg base j<|Zy x Pf F:=fun Yq0 k⟨⟨e1,e2,e3,e4,e5,hr,_⟩,hx,_,_⟩hj Pn e es b α h ha=>by
 subst e1 e2 e3 e4 e5;obtain⟨⟨y,l⟩,c,a⟩:=bY.mp h;clear h;obtain⟨_,_,rfl⟩:=nD c;have h:=a;dsimp only at h⊢;cbv
 .cbv
  .rename_i hq;obtain⟨rfl,h1,h2⟩:=hq;nofun;obtain⟨g1,g2⟩:=eI h1;rw[Vg,oR]at h2;exact Lx D SK hr ha hj hx g1 g2 h2.1 h2.2
  .nofun
 .nofun
def Zw(T:List<|Str×FM)(Pf:Ru):FK:=fun b N c e=>(cN e).bind fun q=>match q.2 with
 |a::es=>(Mm N q.1).bind fun i=>if OK b q.1=G/\(a::es).all al=G then J (a::es,fY i T Pf)else U
 |[]=>U
def Pk(p:∀g F,T.lookup g=J F->∃f fd ps,DO K By g=J (J<|.ref f)/\Xq K (.ref f)=G/\cf K fd ps []/\FO P w K mg base j f fd ps Pf F):wE P w K mg base j<|Zw T Pf:=fun Yq0 k⟨⟨e1,e2,e3,e4,e5,hr,_⟩,hx,_,_⟩hj Pn e es b α h ha=>by
 subst e1 e2 e3 e4 e5;obtain⟨⟨y,l⟩,o,m⟩:=bY.mp h;clear h;obtain⟨_,_,rfl⟩:=nD o;have h:=m;dsimp only at h⊢;cbv
 .obtain⟨i,d,h⟩:=bY.mp h;cbv
  .rename_i hq;nofun;obtain⟨c,n,a⟩:=tV hq.1;have h2:=hq.2;rw[Vg,oR]at h2;exact F3 (gc d) c n a p hr ha hj hx h2.1 h2.2
  .nofun
 .nofun
def YN(n m:Str)(Pf:Ru)(F:FM):FK:=fun b N c e=>(cM e).bind fun u=>match u.2.2 with
 |[]=>(EN b N c u.1).bind fun q=>if u.2.1=m then J ([],fun _=>dM q.1 n m Pf F bj)else U
 |a::es=>(EN b N c u.1).bind fun q=>if u.2.1=m/\(a::es).all al=G/\(a::es).length<29 then J (a::es,dM q.1 n m Pf F)else U
def BR(h1:es.all al=G)(c:es.length<29)(a:(apos.endLine==pos.line)=G):Ep env (.Name x p) m es apos pos:=by
 have b:methodCallForm (es.length+[].length) (X3 pos<|Uu es env) (backToKw pos<|jh [] env)=G:=tz h1 c;refine⟨(do let r <-importBound (.Name x p) env;pure (r.getD G)),?_⟩;rw[arm_eval_Call];delta methodCall;rw[b];have d:methodCallPos G (.Name x p) env apos pos=pure pos:=by
  delta methodCallPos;rw[a];rfl
 rw[d];rfl
def Rg(x:DO K By n=J #[14])(c:UR K C)(v:kF K C m f)(z:cf K fd ps [])(SK:FO P w K mg base j f fd ps Pf F):wE P w K mg base j<|YN n m Pf F:=fun Yq0 k⟨⟨e1,e2,e3,e4,e5,hr,_⟩,hx,_,_⟩hj Pn e es b α h ha=>by
 subst e1 e2 e3 e4 e5;obtain⟨⟨o,y,l⟩,D,A⟩:=bY.mp h;clear h;obtain⟨H,E,rfl,d⟩:=kr D;have h:=A;dsimp only at h d⊢;cbv
 .mstop
  obtain⟨q,t,h⟩:=h;cbv
  .rename_i hq;subst hq;obtain⟨p,rfl,r,i,g,u,s⟩:=ii t;nofun;exact HE r i g u s x c v SK z hr hj hx<|BR rfl ∅ d
  .nofun
 .mstop
  obtain⟨q,t,h⟩:=h;cbv
  .rename_i hq;obtain⟨rfl,h2,B⟩:=hq;refine c6 (ii t) fun p I r i g u s=>?_;subst I;nofun;have a:=h2;rw[Vg,oR]at a;exact KJ r i g u s x c v SK z hr ha hj hx a.1 a.2<|BR h2 B d
  .nofun
def YI:FK:=fun b N c e=>(cM e).bind fun u=>match u.2.2 with
 |[a]=>(EN b N c u.1).bind fun q=>if u.2.1="append"/\al a=G then J ([a],fun α Y L=>if(xm L q.1).isSome=G then L3 q.1 α Y L else .no)else U
 |_=>U
def Pu:wE P w K mg base 0 YI:=fun Yq0 k⟨⟨e1,e2,e3,e4,e5,hr,_⟩,hx,_,_⟩hj Pn e es b α h ha=>by
 obtain⟨⟨o,y,l⟩,n,i⟩:=bY.mp h;clear h;obtain⟨s,r,rfl,a⟩:=kr n;have h:=i;dsimp only at h a⊢;cbv
 .mstop
  obtain⟨q,j,h⟩:=h;cbv
  .rename_i hq;left;obtain⟨rfl,h2⟩:=hq;nofun;obtain⟨p,rfl,f,d,c,m,g⟩:=ii j;right;exact Ql f ha d h2 a c m g rfl
  .nofun
 .nofun
def aac:FK:=fun a N b e=>(cM e).bind fun u=>match u.2.2 with
 |[]=>(EN a N b u.1).bind fun q=>if u.2.1="pop"then J ([],fun _=>Qo q.1)else U
 |_=>U
def VM:Ry->Option (Ry×Str)
 |.Attribute o g _=>J (o,g)
 |_=>U
def Hg(h:VM e=J q):∃p,e=.Attribute q.1 q.2 p:=by
 delta VM at h;cbv
 .nofun;exact⟨_,rfl⟩
 .nofun
def Wm(n f:Str):V0:=fun b N c e=>(cM e).bind fun u=>(VM u.1).bind fun v=>match u.2.2 with
 |[a]=>(EN b N c v.1).bind fun q=>if v.2=f/\u.2.1="append"/\al a=G then J (a,nr q.1 n f)else U
 |_=>U
def El(t:DO K By n=J #[14])(r:UR K C)(x:a9 K C f):TJ P w K mg base 0<|Wm n f:=fun Yq0 k⟨⟨e1,e2,e3,e4,e5,hr,_⟩,hx,_,_⟩hj Pn e a b φ h ha=>by
 subst e1 e2 e3 e4 e5;obtain⟨⟨o,y,l⟩,B,v⟩:=bY.mp h;clear h;obtain⟨E,D,rfl,c⟩:=kr B;obtain⟨⟨o',g⟩,m,h⟩:=bY.mp v;obtain⟨_,d⟩:=Hg m;dsimp only at h c d⊢;subst d;cbv
 .mstop
  obtain⟨q,z,h⟩:=h;cbv
  .rename_i hq;obtain⟨rfl,rfl,h2⟩:=hq;nofun;refine c6 (ii z) fun p F s j i A u=>?_;subst F;exact LV s t r x ha j h2 c i A u rfl rfl rfl
  .nofun
 .nofun
def WX(n f:Str):FK:=fun a N b e=>(cM e).bind fun u=>(VM u.1).bind fun v=>match u.2.2 with
 |[]=>(EN a N b v.1).bind fun q=>if v.2=f/\u.2.1="pop"then J ([],fun _=>mh q.1 n f)else U
 |_=>U
def EW(s:DO K By n=J #[14])(m:UR K C)(v:a9 K C f):wE P w K mg base 0<|WX n f:=fun Yq0 k⟨⟨e1,e2,e3,e4,e5,hr,_⟩,hx,_,_⟩hj Pn e es b α h ha=>by
 subst e1 e2 e3 e4 e5;obtain⟨⟨o,y,l⟩,A,u⟩:=bY.mp h;clear h;obtain⟨D,B,rfl,a⟩:=kr A;obtain⟨⟨o',g⟩,j,h⟩:=bY.mp u;obtain⟨_,c⟩:=Hg j;dsimp only at h a c⊢;subst c;cbv
 .mstop
  obtain⟨q,x,h⟩:=h;cbv
  .rename_i hq;left;obtain⟨rfl,rfl⟩:=hq;nofun;obtain⟨p,rfl,r,i,d,z,t⟩:=ii x;right;exact KA r s m v i a d z t rfl rfl rfl
  .nofun
 .nofun
def Xh(xs:SH):LH:=fun nl b fn N a s=>match s with
 |.Assign [.Name x p] (.List es _) _=>(Hs N a b fn<|.Name x p).bind fun i=>if xs.contains x=G then J (es,P3 nl i,i::a)else U
 |_=>U
def Q6:zZ P w K mg base 0<|Xh xs:=fun d k _ m e nl Pb l s es b P' α h g=>by
 delta Xh at h;cbv
 .obtain⟨i,h1,h⟩:=bY.mp h;cbv
  .nofun;obtain⟨a,b,c⟩:=vY h1;obtain⟨j,f⟩:=pk c;exact PD a e j g b rfl f
  .nofun
 .nofun
def XQ(n:Str)(F0:FM):LH:=fun nl d fn N b s=>match s with
 |.Assign [t] c _=>(ug t).bind fun _=>(cN c).bind fun u=>(Hs N b d fn t).bind fun i=>if u.1=n/\CA d n=G then(match u.2 with
  |[]=>J ([],fun _=>vf nl i n F0 bj,i::b)
  |a::es=>if(a::es).all al=G then J (a::es,vf nl i n F0,i::b)else U)else U
 |_=>U
def Q4(m:DO K By n=J #[14])(a:mg n=J (.ref C))(M:Mk K C g)(c:cf K fd ps [])(SK:FO P w K mg base j g fd ps [0] F0):zZ P w K mg base (j+1)<|XQ n F0:=fun Yq0 k⟨⟨e1,e2,e3,e4,e5,hr,_⟩,hx,_,_⟩hj hN nl Pb Pn s es b P' α h ha=>by
 subst e1 e2 e3 e4 e5;delta XQ at h;cbv
 .obtain⟨x,z,e⟩:=bY.mp h;clear h;obtain⟨p,rfl⟩:=AY z;obtain⟨⟨y,l⟩,v,u⟩:=bY.mp e;clear e;obtain⟨_,_,rfl⟩:=nD v;obtain⟨i,h1,h⟩:=bY.mp u;obtain⟨f,d,t⟩:=vY h1;obtain⟨q,o⟩:=pk t;dsimp only at h⊢;cbv
  .rename_i hq;obtain⟨rfl,r⟩:=hq;obtain⟨g1,g2⟩:=eI r;cbv
   .left;nofun;right;exact Fp f hN q d rfl o m a M SK c hr hj g1 g2
   .cbv
    .rename_i h2;nofun;rw[Vg,oR]at h2;exact LI f hN q d rfl o m a M SK c hr ha hj g1 g2 h2.1 h2.2
    .nofun
  .nofun
 .nofun
def Z9(x n:Str)(F0 F:FM):FK:=fun b N d e=>(cN e).bind fun u=>match u.2 with
 |[c]=>(cN c).bind fun v=>(match v.2 with
  |a::es=>if u.1=x/\v.1=n/\CA b x=G/\CA b n=G/\(a::es).all al=G then J (a::es,xw n F0 F)else U
  |[]=>U)
 |_=>U
def Of{st:SU}(o:DO K By n=J #[14])(d:mg n=J (.ref C))(M:Mk K C g)(s:cf K fd ps [])(SK:FO P w K mg base j g fd ps [0] F0)
  (D:Def K mg x st ps2 f fd2) (m:FO P w K mg base j2 f fd2 ps2 [0] F) (a:j+1<=j2):wE P w K mg base j2<|Z9 x n F0 F:=fun Yq0 k⟨⟨e1,e2,e3,e4,e5,hr,_⟩,hx,_,_⟩hj Pn e es b α h ha=>by
 subst e1 e2 e3 e4 e5;obtain⟨⟨y,l⟩,r,p⟩:=bY.mp h;clear h;obtain⟨_,_,rfl⟩:=nD r;have h:=p;dsimp only at h⊢;cbv
 .obtain⟨⟨z,l⟩,q,i⟩:=bY.mp h;clear h;obtain⟨_,_,rfl⟩:=nD q;have h:=i;dsimp only at h⊢;cbv
  .cbv
   .rename_i hq;obtain⟨rfl,rfl,h1,h2,c⟩:=hq;nofun;obtain⟨g1,g2⟩:=eI h1;obtain⟨g3,g4⟩:=eI h2;rw[Vg,oR]at c;exact Ds o d M SK s hr ha (RW a hj) g3 g4 c.1 c.2 D m hj hx g1 g2
   .nofun
  .nofun
 .nofun
def VI(n f:Str):LH:=fun nl b fn N a s=>match s with
 |.AugAssign (.Attribute o g _) .Add (.Constant (.int j) _ _) _=>(EN b N a o).bind fun q=>if g=f then J ([],fun _=>uE q.1 n f j,a)else U
 |_=>U
def Ev(m:DO K By n=J #[14])(d:UR K C)(a:a9 K C f):zZ P w K mg base 0<|VI n f:=fun Yq0 k⟨⟨e1,e2,e3,e4,e5,hr,_⟩,hx,_,_⟩hj hN nl Pb Pn s es b P' α h ha=>by
 subst e1 e2 e3 e4 e5;delta VI at h;cbv
 .mstop
  obtain⟨q,c,h⟩:=h;cbv
  .rename_i hq;subst hq;nofun;refine c6 (ii c) fun p o g j e i l=>?_;subst o;exact K8 g m d a j e i l rfl
  .nofun
 .nofun
def VQ(b:Str):LH:=fun nl d fn N e s=>match s with
 |.Raise (J c) U _=>(cN c).bind fun u=>(match u.2 with
  |a::es=>if u.1=b/\CA d b=G/\(a::es).all al=G then J (a::es,RL nl b,e)else U
  |[]=>U)
 |_=>U
def IE(a:mg cn=J (.ref C))(e:ek K C Gj "ValueError.__new__"=G):zZ P w K mg base 0<|VQ cn:=fun Yq0 k⟨⟨e1,e2,e3,e4,e5,hr,cm⟩,hx,_,_⟩hj hN nl Pb Pn s es b P' α h ha=>by
 subst e1 e2 e3 e4 e5;delta VQ at h;cbv
 .obtain⟨⟨y,l⟩,d,c⟩:=bY.mp h;clear h;obtain⟨_,_,rfl⟩:=nD d;have h:=c;dsimp only at h⊢;cbv
  .cbv
   .rename_i hc;obtain⟨rfl,h1,h2⟩:=hc;nofun;obtain⟨g1,g2⟩:=eI h1;exact FB a rfl e ha cm.1 hx g1 g2 h2
   .nofun
  .nofun
 .nofun
def RK(n f:Str):V6:=fun nl a N b s=>match s with
 |.Assign [.Attribute o g _] e _=>(EN a N b o).bind fun q=>if g=f/\zd e=η then J (e,Bs nl q.1 n f)else U
 |_=>U
def vR(o:DO K By n=J #[14])(d:UR K C)(a:a9 K C f):Qm P w K mg base 0<|RK n f:=fun Yq0 k⟨⟨e1,e2,e3,e4,e5,hr,_⟩,hx,_,_⟩hj hN nl Pb Pn s e b φ h ha _=>by
 subst e1 e2 e3 e4 e5;delta RK at h;cbv
 .mstop
  obtain⟨q,c,h⟩:=h;cbv
  .rename_i hq;left;obtain⟨rfl,h2⟩:=hq;nofun;obtain⟨p,rfl,i,l,g,j,m⟩:=ii c;right;exact K7 i o d a ha l g j m (jH h2 _ _ _) rfl
  .nofun
 .nofun
end
section
variable{X:Cx}{W:Wd}{O:Ru}{φ:FE}
def tFi(c:Str)(ta:TE):TE:=fun Z H Q=>ta Z H fun v H1=>∃i,v=.int i/\i.natAbs<10^30/\(lE<|toString i).length<=1000/\Q (.str<|c++lE (toString i)) H1
def R5(n:PE X a ta)(b:c.length<=1000):PE X (.JoinedStr [.Constant (.str c) j p1,.FormattedValue a (-1) U p2] pos)<|tFi c ta:=by
 intro aa s Z H Q I h;refine wpAny_JoinedStr ?_;refine mO (k:=j) (pos:=p1) ⟨c,s.toks,rfl,?_,?_⟩
 .rw[empty_app,XB];exact RW b ∎
 have g:Inv X aa Z H {s with toks:=s.toks+1}:=I.tok<|s.toks+1;refine wpAny_FormattedValue_plain<|bP (n aa _ Z H _ g h) fun v o m=>jZ m fun x H1 f r1 q1=>?_;left;obtain⟨i,rfl,l,p,q⟩:=q1;obtain⟨tk,rfl⟩:=r1;right;refine wpAny_formatField_int ?_ ?_
 .rcases zi i.natAbs with e|e
  .rw[e];decide
  .rw[Nat.log2_lt<|by simp_all];exact Rw l (RW (by decide:10^30<=2^100)<|Pw ∎<|∅)
 .have e:qT++c++(toString i)=c++(toString i):=by rw[empty_app]
  have d:(qT++c++(toString i)).length<=Ta:=by
   rw[e,strLen_append,XB];lia
  exact⟨_,_,rfl,d,d,.str<|c++(toString i),H1,f.tok _<|nJ<|nJ<|nJ f.tk,⟨_,by rw[e]⟩,q⟩
def VJ(c:Str)(φ:FE):FE:=fun Y=>(φ Y).bind fun d=>match d with
 |.int i=>if i.natAbs<10^30/\(lE<|toString i).length<=1000 then .ok (.str<|c++lE (toString i))else .no
 |_=>.no
def aco(d:JE X a<|tD W O φ)(b:c.length<=1000):JE X (.JoinedStr [.Constant (.str c) j p1,.FormattedValue a (-1) U p2] pos)<|tD W O<|VJ c φ:=
 (JE.mk<|R5 d.out b).imp fun Z H Q e=>dQ e fun as0 B own Y I h=>⟨as0,B,own,Y,I,aY h fun x v H1 g f h1=>by
  split at h1
  .subst f;split at h1
   .rename_i hl;exact⟨_,rfl,hl.1,hl.2,ax h1 rfl⟩
   .exact h1.elim
  .exact h1.elim⟩
def Yh:Fm:=fun _ _ _ e=>match e with
 |.JoinedStr l _=>match l with
  |[s,v]=>(ke s).bind fun c=>match v with
   |.FormattedValue a i w _=>match w with|none=>if c.length<=1000 then(if i=-1 then J ([a],fun l=>VJ c<|g0 l)else if i=114 then J ([a],fun l=>rF c<|g0 l)else U)else U|_=>U
   |_=>U
  |_=>U
 |_=>U
def Oi:dr X W Yh:=fun O e es b c h a=>by
 delta Yh at h;cbv
 .cbv
  .mstop;obtain⟨k,hk,h⟩:=h;obtain⟨_,_,rfl⟩:=wL hk;cbv
   .cbv
    .cbv
     .rename_i hl;cbv
      .rename_i hi;subst hi;nofun;obtain⟨φ,rfl,h1⟩:=yN a;exact aco h1 hl
      .cbv
       .rename_i hi;subst hi;nofun;obtain⟨φ,rfl,h1⟩:=yN a;exact Rb h1 hl
       .nofun
     .nofun
    .nofun
   .nofun
  .nofun
 .nofun
end
structure rg where
 fl:List<|Str×Str
 us:List<|Str×(Rx->R D)
structure xb(X:Cx)(K:aT)(mg:Sq)(t:rg):Prop where
 fl:∀q∈t.fl,∃C,DO K By q.1=J #[14]/\UR K C/\a9 K C q.2
 us:∀q∈t.us,∃st ps f fd j,Def X.K X.mg q.1 st ps f fd/\X6 j X.A/\zl X.prog X.w X.K X.mg X.base lD j f fd ps (rj K mg q.2)
 k:K=X.K
def hX(t:rg)(c:Scope)(N:SH):Nat->Ry->Option FE
 |0,_=>U
 |n+1,e=>match wh e with
 |some d=>J<|vC d
 |none=>match e with
  |.Tuple es _ _=>if es.all al=G then(Bj (hX t c N n) es).map fun l=>uD (aL l)else U
  |.Name x _=>(Mm N x).bind fun i=>if OK c x=G then J (ag i)else U
  |.Attribute a f _=>(ug a).bind fun _=>(t.fl.find? fun q=>decide (q.2=f)).bind fun q=>(hX t c N n a).map<|iw q.1 f
  |.Subscript a b _=>(wg b).bind fun i=>(hX t c N n a).map fun φ=>aH cR φ<|vC<|.int i
  |_=>(cN e).bind fun q=>match q.2 with
   |[a]=>(ug a).bind fun _=>if CA c q.1=G then(lk q.1 t.us).bind fun F=>(hX t c N n a).map fun φ=>aI F (ak φ aQ)else U
   |_=>U
def abo{K:aT}(T:xb X K mg t):∀(n:Nat)(e:Ry)(φ:FE),hX t X.env.scope X.N n e=J φ->JE X e (tD ⟨K,mg,E0⟩ [] φ):=X5 (fun _ _ h=>by nofun) fun n i_ e φ h=>by
  unfold hX at h;cbv
  .rename_i z;nofun;exact Yn z
  cbv
  .cbv
   .rename_i hq;obtain⟨l,h1,rfl⟩:=dO.mp h;exact NQ<|xS (mJ (fun e φ h=>i_ e φ h) _ l h1) hq
   .nofun
  .obtain⟨i,h1,h⟩:=bY.mp h;cbv
   .rename_i d;nofun;obtain⟨a,b,c⟩:=tV d;exact Mv i ∅ (gc h1) a b c
   .nofun
  .mstop;obtain⟨x,hx,h⟩:=h;obtain⟨_,rfl⟩:=AY hx;obtain⟨q,h1,h⟩:=bY.mp h;obtain⟨ψ,h2,rfl⟩:=dO.mp h;refine gL (T.fl q<|List.mem_of_find?_eq_some h1) fun C m g p=>?_;have s:=List.find?_some h1;have o:=WI s;subst o;exact Nn K m g p (i_ _ ψ h2) rfl T.k.symm rfl
  .mstop;obtain⟨i,hi,h⟩:=h;obtain⟨_,_,rfl⟩:=Ya hi;obtain⟨ψ,h2,rfl⟩:=dO.mp h;have r:=T.k;subst r;exact Tj (WL X.K) (YZ X.K) (i_ _ ψ h2) MR fun _ _=>rfl
  .mstop;obtain⟨⟨y,l⟩,hq,h⟩:=h;obtain⟨_,_,rfl⟩:=nD hq;clear hq;cbv
   .rename_i z;cases z;mstop;obtain⟨x,hx,h⟩:=h;obtain⟨_,rfl⟩:=AY hx;cbv
    .rename_i hg;left;obtain⟨F,h1,h⟩:=bY.mp h;obtain⟨ψ,h2,rfl⟩:=dO.mp h;obtain⟨st,ps,f,fd,j,D,d,SK⟩:=T.us _<|As h1;obtain⟨g1,g2⟩:=eI hg;right;exact KH D SK d (Bx (i_ _ ψ h2) Fn rfl) (mK _) g1 g2 rfl rfl
    .nofun
   .nofun
section
variable{P:Tc}{w:Sl}{K:aT}{mg:Sq}{base:T3}
def GO(T:xb X K mg t)(h:hX t X.env.scope X.N 9 r=J ρ):JB X [.Return (J r) rp]<|sD ⟨K,mg,fun _ _ _=>False⟩ [] [] []<|pX ρ:=Et<|FR<|abo T 9 r ρ h
structure xc(P:Tc)(w:Sl)(K:aT)(mg:Sq)(base:T3)(j:Nat)(t:rg):Prop where
 fl:∀q∈t.fl,∃C,DO K By q.1=J #[14]/\UR K C/\a9 K C q.2
 us:∀q∈t.us,∃st ps f fd,Def K mg q.1 st ps f fd/\zl P w K mg base lD j f fd ps (rj K mg q.2)
def xc.at(h:xc P w K mg base j t)(y:FZ Yq0 P w K mg base k)(i:j<=k)(z:nE):xb ((Yq0.hand z).Xe) K mg t:=by
 obtain⟨⟨e1,a,g,d,b,c,_⟩,l,_,_⟩:=y;subst e1 a g d b;exact⟨h.fl,fun q e=>let⟨st,ps,f,fd,D,SK⟩:=h.us q e;⟨st,ps,f,fd,j,D,(c.mono i).u z,SK⟩,rfl⟩
noncomputable def Tr:List SU->Option Ry
 |[.Return (J r) _]=>J r
 |_=>U
def Ys(T:Str)(h:ExceptHandler):Option Ry:=match h with
 |.ExceptHandler (J t) U b _=>if ug t=J T then Tr b else U
 |_=>U
def Qd{h:ExceptHandler}(e:Ys T h=J r):∃p q u,h=.ExceptHandler (J<|.Name T p) U [.Return (J r) q] u:=by
 delta Ys at e;split at e
 .split at e
  .rename_i hq;obtain⟨p,rfl⟩:=AY hq;delta Tr at e;split at e
   .cases e;exact⟨_,_,_,rfl⟩
   .cases e
  .cases e
 .cases e
def Xu{α:Type}(b:SU)(x y:α):Option<|Ry×α:=match b with
 |.Return (J e) _=>J (e,x)
 |.Expr e _=>if zd e=η then J (e,y)else U
 |_=>U
def OW{α:Type}{b:SU}{x y:α}{q:Ry×α}(h:Xu b x y=J q):(∃p,b=.Return (J q.1) p/\q.2=x)\/∃p,b=.Expr q.1 p/\zd q.1=η/\q.2=y:=by
 delta Xu at h;cbv
 .nofun;exact .inl ⟨_,rfl,rfl⟩
 .cbv
  .rename_i hc;nofun;exact .inr ⟨_,rfl,hc,rfl⟩
  .nofun
 .nofun
def VF(T:Str)(mt:Str->Bool)(e:rg):V6:=fun nl a N c s=>match s with
 |.Try [b] [h] [] [] _=>(Ys T h).bind fun r=>(hX e a N 9 r).bind fun d=>if CA a T=G then Xu b (fun φ=>sO nl c φ mt<|pX d) (fun φ=>yW nl c φ mt<|pX d)else U
 |_=>U
def Ex{mt:Str->Bool}(d:mg T=J (.ref CT))(a:LL K mg mt CT)(H:xc P w K mg base j ht):Qm P w K mg base j<|VF T mt ht:=fun i k y v B nl Pb x s e b φ h E f=>by
 have g:=H.at y v;obtain⟨⟨e1,c,l,o,n,A,_⟩,D,st,fr⟩:=y;subst e1 c l o n;delta VF at h;cbv
 .obtain⟨r,t,h2⟩:=bY.mp h;clear h;obtain⟨p,q,u,rfl⟩:=Qd t;obtain⟨C,h1,h⟩:=bY.mp h2;cbv
  .rename_i hg;obtain⟨g1,g2⟩:=eI hg;rcases OW h with⟨_,rfl,c⟩|⟨_,rfl,m,c⟩<;>subst c
   .exact KI f rfl d a (fun z=>GO (g z) h1) st fr g1 g2
   .exact JC f rfl d a (fun z=>GO (g z) h1) (jH m _ _ _) st fr g1 g2
  .nofun
 .nofun
end
section
variable{K:aT}
theorem dR.more(b:H p=J (.lst ys))(a:ay K Hm ds ys):∀{fs:List<|Str×D}{xs:List<|Str×V}{bs:Sf},dR K Hm H fs xs bs->fs.lookup f=Eb->dR K Hm H (fs++[(f,.WK ds)]) (f9 f (.ref p) xs) (bs++[p])
 |[],_,_,⟨e1,e2⟩,_=>by subst e1 e2;exact⟨.ref p,[],[],rfl,⟨p,ys,rfl,rfl,b,a⟩,rfl,rfl⟩
 |(g,d)::fs,_,bs,⟨v,r,c,e,f1,f2⟩,h=>by
  subst e;rw[We]at h;cases q:f==g with
  |true=>rw[q]at h;nofun
  |false=>
   rw[q]at h;refine⟨v,f9 f (.ref p) r,c++[p],?_,?_,dR.more b a f2 h⟩
   .have:¬g=f:=fun z=>⊥
    simp[f9,this]
   .delta iW at f1⊢;split at f1
    .grind
    mright
end
section
variable{K:aT}
def MI.Xcz(I:MI K as B hs P cl Z Y L H)(hk:P[k]?=J i)(hn:DO K By n=J #[14])(hm:L[k]?=J (.obj n fs))(hf:fs.lookup f=U)(hp:H p=U):
  ∃a T xs g,Z[i]?=J (J<|.ref a)/\H a=J (.ins C T xs)/\fs.length=xs.length/\MI K as B hs P g Z Y (L.set k<|.obj n<|fs++[(f,.WK [])]) (br (br H p<|.lst []) a<|.ins C T<|f9 f (.ref p) xs):=by
 left;obtain⟨c,d0,e1,e2,⟨a,r,rfl,q1⟩,q2⟩:=I.at hk;rw[hm]at e2;cases e2;refine WM q2 fun C' T xs h0 h1 h2=>?_;rw[hn]at h0;cases h0;right;have u:k<cl.length:=(rW.mp e1).1;have s:∀b∈a::r,b∈cl.flatten:=fun b l=>cH.mpr ⟨k,_,e1,l⟩;have t:p∉cl.flatten++as:=fun z=>I.Vq p z hp;have pa:p≠a:=fun z=>t<|Le _<|s p<|z▸Up;have nd:=I.nd _<|Do e1;have nda:=(Vx.mp nd).1;let g:=cl.set k<|a::r++[p]
 let H':=br (br H p<|.lst []) a<|.ins C T<|f9 f (.ref p) xs
 have fl:∀b,b∈g.flatten↔b∈cl.flatten\/b=p:=fun b=>by
  constructor
  .intro l;obtain⟨j,A,M,X⟩:=cH.mp l;rw[getElem?_set']at M;split at M
   .cases M;rcases BY.mp X with h|h
    .exact .inl (s b h)
    .exact .inr (IF.mp h)
   .exact .inl (cH.mpr ⟨j,A,M,X⟩)
  .rintro(l|rfl)
   .obtain⟨j,A,M,X⟩:=cH.mp l;by_cases z:k=j
    .subst z;rw[e1]at M;cases M;exact cH.mpr ⟨k,_,tG u,Le _ X⟩
    .exact cH.mpr ⟨j,A,by rw[dP z];exact M,X⟩
   .exact cH.mpr ⟨k,_,tG u,∅⟩
 have same:∀b,b≠p->b≠a->H' b=H b:=fun b h1 h2=>by show br _ a _ b=_;rw[aG h2,aG h1]
 have st:ah #[5]<|aj (g.flatten++as) H':=fun b o e=>by
  have l:b∉cl.flatten++as:=fun z=>by rw[bT z]at e;cases e
  rw[av l]at e;have F:b≠p:=fun z=>by rw[z,hp]at e;cases e
  have R:b≠a:=fun z=>l<|Le _<|z▸s a Up;have hb2:b∉g.flatten++as:=fun z=>by
   rcases BY.mp z with z|z
   .rcases(fl b).mp z with z|z
    .exact l (Le _ z)
    .exact F z
   .exact l (OR _ z)
  rw[av hb2,same b F R];exact e
 refine⟨a,T,xs,g,q1,h1,h2.Gk,?_⟩;show MI K as B hs P g Z Y _ H';refine⟨I.len,I.ex,fun b o e=>?_,fun A S b l=>?_,fun A S=>?_,fun m m' c1 c2 b N q O w4=>?_,fun j d e=>?_,by simp[g,I.lp],by simp[g,I.lm],fun m j A d N q O=>?_,by simp[g,I.hl],?_⟩
 .have F:b≠p:=fun z=>by rw[z,I.sb.free hp]at e;cases e
  have R:b≠a:=fun z=>by rw[z,I.fb _ (Do e1) a Up]at e;cases e
  rw[same b F R];exact I.sb b o e
 .have hb':b∈g.flatten:=dS.mpr ⟨A,S,l⟩;rcases(fl b).mp hb' with z|rfl
  .obtain⟨c2,W,V⟩:=dS.mp z;exact I.fb c2 W b V
  .exact I.sb.free hp
 .rcases List.mem_or_eq_of_mem_set S with z|rfl
  .exact I.nd A z
  .rw[List.nodup_append];exact⟨nd,∅,fun x hx y hy z=>by rw[IF.mp hy]at z;exact t<|Le _<|s p<|z▸hx⟩
 .have key:∀{m:Nat}{c1:Sf},g[m]?=J c1->b∈c1->(b=p/\m=k)\/∃Q,cl[m]?=J Q/\b∈Q:=fun{m c1}w w'=>by
   rw[getElem?_set']at w;split at w
   .rename_i z;cases w;rcases BY.mp w' with h|h
    .exact .inr ⟨_,z▸e1,h⟩
    .exact .inl ⟨IF.mp h,z.symm⟩
   .exact .inr ⟨_,w,w'⟩
  have np:∀{m:Nat}{Q:Sf},cl[m]?=J Q->b∈Q->b≠p:=fun w w' z=>t<|Le _<|cH.mpr ⟨_,_,w,z▸w'⟩;rcases key N O with⟨W,V⟩|⟨Q,W,V⟩
  .rcases key q w4 with⟨E,D⟩|⟨c0',E,D⟩
   .rw[V,D]
   .exact(np E D W).elim
  .rcases key q w4 with⟨E,D⟩|⟨c0',E,D⟩
   .exact(np W V E).elim
   .exact I.dj m m' Q c0' b W E V D
 .obtain⟨v,N,q⟩:=I.var j d e;exact⟨v,N,q.mono st⟩
 .rw[getElem?_set']at q O;by_cases z:k=m
  .subst z;rw[SI rfl,SI u]at q;rw[SI rfl,SI<|by rw[I.lm];exact u]at O;cases q;cases O;rw[hk]at N;cases N;refine⟨⟨a,r++[p],rfl,q1⟩,C,T,_,hn,aE,?_⟩;refine dR.more (ys:=[]) (show H' p=_ by show br _ a _ p=_;rw[aG pa];exact aE) ay.nil (h2.mono st fun b l o e=>?_) hf;have R:b≠a:=fun z=>nda<|z▸l;have F:b≠p:=fun z=>t<|Le _<|s p<|ie _<|z▸l;rw[same b F R];exact e
  .rw[SM z]at q O;obtain⟨E,D⟩:=I.ob m j A d N q O;refine⟨E,D.mono st fun b l o e=>?_⟩;have R:b≠a:=fun y=>z<|I.dj k m _ _ a e1 q Up<|y▸l;have F:b≠p:=fun y=>t<|Le _<|cH.mpr ⟨m,_,q,y▸l⟩;rw[same b F R];exact e
 .have hh:=I.hd
  have:g.map vx=cl.map vx:=by
   apply Oo
   intro m;rw[Xm,Xm,getElem?_set'];by_cases z:k=m
   .subst z;rw[SI rfl,SI u,e1];rfl
   .rw[SM z]
  grind
end
section
variable{X:Cx}{K:aT}{mg:Sq}{nl:Nat}{P Pb:Ru}{pos p1 cpos pos':Pos}
noncomputable def FP(k:Nat)(n f:Str):gi:=fun Y L=>match L[k]? with
 |some (.obj x fs)=>if x=n/\fs.length<1000/\(fs.lookup f).isNone=G then .nx Y (L.set k<|.obj n<|fs++[(f,.WK [])])else .no
 |_=>.no
def Ke(r:P[k]?=J i)(q:DO K By n=J #[14])(o:UR K C)(s:a9 K C f)(j:X.N[i]?=J x)(v:m6 X.env.scope x)(hd:TN x)(c:#[2]=η)
  (m:X.K=K):MS X K mg nl Pb P P (.Assign [.Attribute #[9] f pos'] (.List [] cpos) pos)<|FP k n f:=fun E=>
 JS.imp ⟨GB (qv i j v hd c) (Hi eD).out rfl⟩ fun D Z H q0_=>Vc q0_ fun as B h0 cl Y L u I h=>by
  subst m;refine⟨Uh _,fun p g=>?_⟩;delta FP at h;left;cbv
  .rename_i y fs hm;cbv
   .rename_i hq;obtain⟨rfl,u,d⟩:=hq;refine yF (I.Xcz r q hm (L1.mp d) g) fun a e xs b q1 q2 w l=>?_;right;refine fj q1 ?_;have t:a≠p:=fun z=>by mright
    exact⟨a,C,e,xs,rfl,by rw[aG t];exact q2,o,s,by simp_all,h b Z _ l⟩
   .right;mleft
  .right;mleft
end
end L2
namespace L2
open PySem PySem.Spec PyProof.Rows
section
variable{X:Cx}{K:aT}{mg:Sq}{nl:Nat}{P Pb:Ru}{pos p1 p2 spos ep:Pos}{a b:Ry}{op:Operator}{φ:FM}
def zv(nl k:Nat)(j:Int)(φ:FM):gi:=fun Y L=>(φ Y L).bs nl fun d L=>match xm L k with
 |some ds=>(match C5 ds.length j with
  |some m=>.nx Y<|L.set k<|.lst<|ds.set m d
  |none=>.no)
 |none=>.no
def agY(q:P[k]?=J i)(n:ME X K mg P (.BinOp a op b ep) φ)(l:X.N[i]?=J x)(o:m6 X.env.scope x)(hd:(x==#[20])=η)(e:#[2]=η):
  MS X K mg nl Pb P P (.Assign [.Subscript #[9] (.Constant (.int j) kk p2) spos] (.BinOp a op b ep) pos) (zv nl k j φ):=fun E=>
 (ahT (X:=X.ws E) (n E)<|ahS (jv i l o hd e) SG set_list).imp fun D Z H q0_=>Vc q0_ fun as B h0 cl Y L hl I h=>⟨as,B,h0,cl,Y,L,I,cW hl h fun d v μ1 c H1 g st f h1=>by
  cases hg:xm μ1 k with
  |none=>rw[hg]at h1;exact h1.elim
  |some ds=>
   rw[hg]at h1;dsimp only at h1;obtain⟨p,xs,q1,q2,q3,q4⟩:=g.lst q hg;cases hx:C5 ds.length j with
   |none=>rw[hx]at h1;exact h1.elim
   |some m=>
    rw[hx]at h1;refine fj q1 ?_;exact⟨p,xs,j,m,rfl,rfl,q2,by rw[<-q3.len];exact hx,h1 c Z _ (q4 _ _ (q3.set f m)).1⟩⟩
def GG:Ry->Bool
 |.BinOp ..=>G
 |_=>η
noncomputable def F6:Ry->Option Int
 |.Constant v _ _=>(match v with
  |.int i=>J i
  |_=>U)
 |_=>U
def ahX(h:GG e=G):∃a op b p,e=.BinOp a op b p:=by
 unfold GG at h;cbv
 .exact⟨_,_,_,_,rfl⟩
 .nofun
def ahP(h:F6 e=J j):∃k p,e=.Constant (.int j) k p:=by
 unfold F6 at h;cbv
 .cbv
  .nofun;exact⟨_,_,rfl⟩
  .nofun
 .nofun
def Hn:V6:=fun nl b N a s=>match s with
 |.Assign [t] e _=>(match t with
  |.Subscript o i _=>(EN b N a o).bind fun q=>(F6 i).bind fun j=>if GG e=G then J (e,zv nl q.1 j)else U
  |_=>U)
 |_=>U
end
section
variable{P:Tc}{w:Sl}{K:aT}{mg:Sq}{base:Heap}
def ah4:Qm P w K mg base 0 Hn:=fun Y k y c f nl Pb d s e b φ h a _=>by
 unfold Hn at h;cbv
 .cbv
  .obtain⟨q,h1,h⟩:=bY.mp h;obtain⟨j,h2,h⟩:=bY.mp h;cbv
   .rename_i hb;nofun;refine c6 (ii h1) fun p r0_ a1 a2 a3 a4 a5=>?_;subst r0_;obtain⟨_,_,rfl⟩:=ahP h2;obtain⟨_,_,_,_,rfl⟩:=ahX hb;exact agY a1 a a2 a3 a4 a5
   .nofun
  .nofun
 .nofun
def Ho(K:aT)(mg:Sq)(F:FM):Sp:=fun vs H Q _=>∃as ds cs p ws us,vs=us++[.ref p]/\us.length=2/\(∀a∈as,H a≠U/\a≠p)/\H p=J (.lst ws)/\ay K (aj (p::as) H) ds us/\ay K (aj (p::as) H) cs ws/\match F (ds.map J++[U]) [.lst cs]with
 |.ok d _=>∀v H',ah (aj [p] H) H'->bQ K (aj as H') d v->Q v H'
 |_=>False
theorem T8.abP(SK:FO P w K mg base k f fd ps [2] F):T8 P w K mg base lD k f fd ps<|Ho K mg F:=by
 have B:∀vs H Q E,Ho K mg F vs H Q E->sJ K mg [2] F vs H Q (fun _ _ _=>False):=fun vs H Q E g=>Z67 g fun as ds cs p ws us e hl ex hp dv dw h=>by
  subst e;have b:ds.length=2:=dv.len.trans hl;refine⟨as,aj [p] H,[p],[[p]],ds.map J++[U],[.lst cs],rfl,⟨by simp[hl,b],fun a g=>?_,aD _ _,fun c q a g=>?_,fun c q=>?_,fun i j c M a h1 h2 _ _=>?_,fun i d e=>?_,rfl,rfl,fun k i c d h1 h2 y=>?_,mK _,rfl⟩,?_⟩
  .rw[av<|by simpa using(ex a g).2];exact(ex a g).1
  .rw[IF.mp q]at g;exact bT g
  .rw[IF.mp q];simp
  .have:=(rW.mp h1).1;have:=(rW.mp h2).1;simp at *;lia
  .have hi:i<2:=by
    rcases Nat.lt_or_ge i 2 with h|h
    .exact h
    .rw[nN<|by simpa[b]using h]at e;simp only[WH,b]at e;cases hh:i-2 with
     |zero=>rw[hh]at e;cases e
     |succ n=>rw[hh]at e;cases e
   rw[uy<|by simpa[b]using hi]at e;obtain⟨v,h1,h2⟩:=PC dv e;refine⟨v,?_,h2⟩;rw[md,uy<|by simpa[hl]using hi];exact h1
  .cases k with
   |zero=>
    simp at h1 h2 y;subst h1 h2 y;refine⟨⟨p,[],rfl,?_⟩,ws,hp,dw⟩;rw[md,nN<|by simp[hl]];simp[hl]
   |succ k=>simp at h1
  .cases o:F (ds.map J++[U]) [.lst cs]with
   |ok d L=>
    rw[o]at h;exact fun v cl H' O t=>h v H' O.sb<|t.mono<|kD fun a g=>OR _ g
   |er x L=>rw[o]at h;mleft
   |no=>rw[o]at h;mleft
 refine⟨fun vs H Q E h=>SK.len vs H Q _<|B _ _ _ _ h,fun A l s H m us vs Q E o I D C hs=>codeAny_mono (SK.run A l s H m us vs Q _ o I D C<|B _ _ _ _ hs) fun r s' u=>?_⟩;cases r with
 |error e=>obtain⟨_,_,_,_,_,_,_,_,_,z⟩:=u;exact z.elim
 |ok fl=>cases fl<;>exact u
def DB(F:FM)(φ ψ χ:FE):FE:=fun Y=>(φ Y).bind fun a=>(ψ Y).bind fun b=>(χ Y).bind fun c=>match F [J a,J b,U] [.lst [c]]with
 |.ok d _=>.ok d
 |_=>.no
def agP{X:Cx}{O:Ru}{p lp pos:Pos}{st:SU}(D:Def X.K X.mg x st ps f fd)(SK:FO X.prog X.w X.K X.mg X.base j f fd ps [2] F)(hr:TZ k X.A)(h1:JE X a<|tD ⟨X.K,X.mg,E0⟩ O φ)(h2:JE X b<|tD ⟨X.K,X.mg,E0⟩ O ψ)(h3:JE X c<|tD ⟨X.K,X.mg,E0⟩ O χ)(hj:j<=k)(hg:Gl X x)(M:(x==#[20])=η)
  (R:al a=G) (n2:al b=G) (n3:al c=G):JE X (.Call (.Name x p) [a,b,.List [c] lp] [] pos)<|tD ⟨X.K,X.mg,E0⟩ O<|DB F φ ψ χ:=
 (ahR D SK.abP hr (bU h1 (bU h2 (bU (Hi<|bU h3 eD n3) eD rfl) n2) R) hj hg M R<|by rw[Vg,n2];rfl).imp fun Z H Q q0_=>y8 q0_ fun as0 B own Y I h=>⟨as0,B,own,Y,I,aY h fun r N H1 E d1 h=>⟨as0,B,own,Y,I.mono E,aY h fun n vb H2 C d2 h=>⟨as0,B,own,Y,(I.mono E).mono C,aY h fun i P V S d3 h=>by
  refine⟨show 1<=sizeLine by decide,fun q t=>?_⟩;have Jq:=((I.mono E).mono C).mono S;have T:∀a∈own++as0,a≠q:=fun a l z=>by
   subst z;exact Jq.new t l
  have u:ah (aj #[8] V)<|aj (q::#[8])<|br V q<|.lst [P]:=fun z o e=>by
   have W:z∉own++as0:=fun y=>by rw[bT y]at e;cases e
   rw[av W]at e;have g:z≠q:=fun y=>by rw[y,t]at e;cases e
   rw[av<|by simp only[eQ,not_or];exact⟨g,W⟩,aG g];exact e
  have m:=aA (as:=own++as0) S;show Ho X.K X.mg F [N,vb,.ref q] _ Q E0;refine⟨own++as0,[r,n],[i],q,[P],[N,vb],rfl,rfl,fun a l=>⟨?_,T a l⟩,aE,?_,?_,?_⟩
  .rw[aG<|T a l];exact Jq.Vq a l
  .exact ay.cons (((d1.mono<|aA C).mono m).mono u) (ay.cons ((d2.mono m).mono u) ay.nil)
  .exact ay.cons (d3.mono u) ay.nil
  .rw[show([r,n].map J++[U]:Sd)=[J r,J n,U]from rfl];cases hF:F [J r,J n,U] [.lst [i]]with
   |ok d L=>
    rw[hF]at h;intro v H' s dv;refine h v H' (fun z o e=>s z o ?_) dv;have g:z≠q:=fun y=>by rw[y,t]at e;cases e
    rw[av<|by simpa using g,aG g];exact e
   |er x L=>rw[hF]at h;mleft
   |no=>rw[hF]at h;mleft⟩⟩⟩
noncomputable def Gv:Ry->Option Ry
 |.List l _=>(match l with
  |[c]=>J c
  |_=>U)
 |_=>U
def ahV(h:Gv e=J c):∃p,e=.List [c] p:=by
 unfold Gv at h;cbv
 .cbv
  .nofun;exact⟨_,rfl⟩
  .nofun
 .nofun
def z5(x:Str)(F:FM):Fm:=fun d _ _ e=>(cN e).bind fun q=>match q.2 with
 |[a,b,l]=>(Gv l).bind fun c=>if q.1=x/\CA d x=G/\[a,b,c].all al=G then J ([a,b,c],fun l=>DB F (g0 l) (g1 l)<|g2 l)else U
 |_=>U
def agc{st:SU}(D:Def K mg x st ps f fd)(SK:FO P w K mg base j f fd ps [2] F):Bw P w K mg base (j,z5 x F):=fun Y k⟨e1,e2,e3,e4,e5,hr,_⟩hj O e es b φs h hJ=>by
 subst e1 e2 e3 e4 e5;unfold z5 at h;obtain⟨⟨y,l⟩,h0,h3⟩:=bY.mp h;clear h;obtain⟨_,_,rfl⟩:=nD h0;have a:=h3;clear h3;dsimp only at a⊢;split at a
 .obtain⟨c,hc,h3⟩:=bY.mp a;clear a;split at h3
  .rename_i hq;obtain⟨rfl,h1,h2⟩:=hq;cases h3;obtain⟨_,rfl⟩:=ahV hc;obtain⟨g1,g2⟩:=eI h1;simp only[Vg,List.all_nil,Bool.and_true,oR]at h2;obtain⟨z1,z2,z3⟩:=h2
   match φs,hJ with
   |[φ,ψ,χ],⟨j1,j2,j3q,_⟩=>exact agP D SK hr j1 j2 j3q hj g1 g2 z1 z2 z3
  .cases h3
 .cases a
end
end L2
namespace L2
open PySem PySem.Spec PyProof.Rows
noncomputable def VN:nE->Option (D×V)
 |.int i _=>J (.int i,.int i)
 |.str x _=>J (.str x,.str x)
 |.bool b=>J (.bl b,.bl b)
 |.none=>J (.S9,.S9)
 |_=>U
def QT:TK->Option (List<|D×V)
 |[]=>J []
 |u::r=>(VN u).bind fun q=>(QT r).map (q::·)
def wJ(K:aT)(u:nE):Option D:=match u with
 |.ref a=>(match K.lookup a with
  |some o=>if o.cls=.type "tuple"/\o.dict=U then(match o.data with
   |.seq aV _=>if aV.size<=1000 then(QT aV.toList).map fun l=>.tup (l.map (·.1))else U
   |_=>U)else U
  |none=>U)
 |u=>(VN u).map (·.1)
def HM{K:aT}(h:VN u=J q):aP q.2 u/\∀H,bQ K H q.1 q.2:=by
 delta VN at h;cbv<;>nofun
 .exact⟨⟨_,rfl⟩,fun H=>rfl⟩
 .exact⟨⟨_,rfl⟩,fun H=>rfl⟩
 .exact⟨rfl,fun H=>rfl⟩
 .exact⟨rfl,fun H=>rfl⟩
def CM{K:aT}:∀{us:TK}{l:List<|D×V},QT us=J l->aU (l.map (·.2)) us/\∀H,ay K H (l.map (·.1)) (l.map (·.2)):=@TB _ _ (@fun _ h=>by nofun;exact⟨.nil,fun H=>rfl⟩) fun u r i_=>@fun _ h=>by
  obtain⟨q,h1,h⟩:=bY.mp h
  obtain⟨l,h2,rfl⟩:=dO.mp h;obtain⟨a,b⟩:=HM h1;obtain⟨c,d⟩:=i_ h2;exact⟨.cons a c,fun H=>⟨q.2,_,rfl,b H,d H⟩⟩
def HN{K:aT}(h:wJ K u=J d):∃v,aP v u/\(∀H,bQ K H d v)/\∀p,u=.ref p->∃f,K.lookup p=J f/\f.cls=.type "tuple"/\f.dict=U:=by
 delta wJ at h;cbv
 .rename_i a;cbv
  .rename_i o e;cbv
   .rename_i hc;cbv
    .rename_i aV n hd;cbv
     .obtain⟨l,h1,rfl⟩:=dO.mp h;obtain⟨c,dd⟩:=CM h1;exact⟨.ref a,rfl,fun H=>⟨a,l.map (·.2),rfl,.inr ⟨o,aV,n,e,hc.1,hd,by rw[XB];lia,c⟩,dd H⟩,fun p g=>by mright⟩
     .nofun
    .nofun
   .nofun
  .nofun
 .obtain⟨q,h1,rfl⟩:=dO.mp h;obtain⟨a,b⟩:=HM (K:=K) h1
  grind
section
variable{K:aT}(X:K.In h)(N:h.Ns By mg)
include X N
theorem Pe{l:List<|Str×D}(e:(l.map fun q=>(DO K By q.1).bind fun o=>o.bind<|wJ K)=l.map fun q=>J q.2):∀q∈l,UO K mg q:=fun q c=>by
 have e1:=Yj.mp e q c;obtain⟨o,h1,h2⟩:=bY.mp e1;obtain⟨u,b,a⟩:=bY.mp h2;obtain⟨v,h5⟩:=HN a
 exact⟨v,u,en X N<|by rw[h1,b],h5⟩
theorem afs{l:SH}(e:l.map (DO K By)=l.map fun _=>J U):∀x∈l,mg x=U:=fun x a=>PySem.W.mg_none_of X N<|Yj.mp e x a
end
abbrev Pl:=List<|Nat×Nat×Nat×nE
def fA(Lq0:Pl)(i:Nat):SA:=match Lq0.lookup i with
 |some q=>q.1
 |none=>0
def cA(Lq0:Pl)(i:Nat):SA:=match Lq0.lookup i with
 |some q=>q.2.1
 |none=>0
def mA(Lq0:Pl)(i:Nat):nE:=match Lq0.lookup i with
 |some q=>q.2.2
 |none=>.none
def Vk:SU->Str
 |.FunctionDef n _ _ _ _ _ _ _ _ _=>n
 |_=>""
theorem aaI(h:us.length<=5):∃a b c d e,us=([a,b,c,d,e]:TK).take us.length:=by
 match us,h with
 |[],_=>exact⟨.none,.none,.none,.none,.none,rfl⟩
 |[a],_=>exact⟨a,.none,.none,.none,.none,rfl⟩
 |[a,b],_=>simp
 |[a,b,c],_=>exact⟨a,b,c,.none,.none,rfl⟩
 |[a,b,c,d],_=>exact⟨a,b,c,d,.none,rfl⟩
 |[a,b,c,d,e],_=>grind
 |_::_::_::_::_::_::_,h=>mright
end L2
namespace L2
open PySem PySem.Builtin PySem.Builtin.Str PySem.StrLaws
end L2
namespace L2
open PySem PySem.Spec PyProof.Rows
section
variable{X:Cx}{W:Wd}{O:Ru}{φ:FE}
def aa2(y w:Str)(a:TE):TE:=fun Z H Q=>a Z H fun x H1=>∃z,x=.str z/\(y==w)=η/\z.length<=1000/\w.length<=10/\Q (.str<|Nu z y w) H1
def AA{o:Ry}{g:TE}{y w:Str}{j1 j2:Nat}{p1 p2 apos cpos:Pos}(hX:1<=X.tn)(j:PE X o g)
  (c:WG o "replace" X.env (eval o X.env)=eval o X.env<|>Rv)
  (d:((X3 cpos<|Uu [.Constant (.str y) j1 p1,.Constant (.str w) j2 p2] X.env).all (fun x=>!x.1)&&(backToKw cpos<|jh [] X.env).all (fun x=>x.1.isSome)
   && decide ([Expr.Constant (.str y) j1 p1,.Constant (.str w) j2 p2].length+([]:List zS).length+(if([]:List zS).isEmpty then 0 else 1)<30))=G:=by rfl)
  (b:#[6]=G<|>Rv):
  PE X (.Call (.Attribute o "replace" apos) [.Constant (.str y) j1 p1,.Constant (.str w) j2 p2] [] cpos) (aa2 y w g):=by
 intro aa s Z H Q I h;refine wpAny_Call_method_late c d b rfl (bP (j aa s Z H _ I h) fun v a i=>jZ i fun x H1 f r1 q1=>?_);obtain⟨z,rfl,h1,h2,r,q⟩:=q1;obtain⟨tk,rfl⟩:=r1;refine⟨"str","str.replace",KR,PySem.F.slot_str_replace,PySem.F.type_str_replace,typeIs_str a z tk,(fun _ e=>nomatch e),?_⟩
 refine rN rfl (sE ?_);have m:1<=a.toks:=RW hX f.tk;refine zc<|mO (k:=j1) (pos:=p1)<|zc<|mO (k:=j2) (pos:=p2)<|Oh ?_;refine aO (n:=X.tn) (by walk_at "tok")<|SC.replaceW (by show a.toks≠0;lia) (by show a.toks+1≠0;simp) (by show a.toks≠a.toks+1;simp) h1 ⊥ ⊥ fun t' k l=>?_;have p:=(f.tok<|a.toks+1).tok<|a.toks+1+1;exact⟨.str _,H1,f.tok k,⟨t',rfl⟩,q⟩
noncomputable def l5(y w:Str)(d:D):R D:=match d with
 |.str z=>if(y==w)=η/\z.length<=1000/\w.length<=10 then .ok (.str<|Nu z y w)else .no
 |_=>.no
def Dr{o:Ry}{y w:Str}{j1 j2:Nat}{p1 p2 apos cpos:Pos}(hX:1<=X.tn)(e:JE X o<|tD W O φ)
  (b:WG o "replace" X.env (eval o X.env)=eval o X.env<|>Rv) (a:#[6]=G<|>Rv):
  JE X (.Call (.Attribute o "replace" apos) [.Constant (.str y) j1 p1,.Constant (.str w) j2 p2] [] cpos) (tD W O<|zz (l5 y w) φ):=
 (JE.mk<|AA (y:=y) (w:=w) (j1:=j1) (j2:=j2) (p1:=p1) (p2:=p2) (apos:=apos) (cpos:=cpos) hX e.out b rfl a).imp fun Z H Q c=>dQ c fun as0 B own Y I h=>⟨as0,B,own,Y,I,aY h fun x v H1 f d h1=>by
  delta l5 at h1;split at h1
  .subst d;split at h1
   .rename_i hl;exact⟨_,rfl,hl.1,hl.2.1,hl.2.2,ax h1 rfl⟩
   .exact h1.elim
  .exact h1.elim⟩
end
section
variable{P:Tc}{w:Sl}{K:aT}{mg:Sq}{base:T3}
def VY(n f:Str):LH:=fun nl b fn N a s=>match s with
 |.Assign [.Attribute o g _] (.List [] _) _=>(EN b N a o).bind fun q=>if g=f then J ([],fun _=>FP q.1 n f,a)else U
 |_=>U
def Gd(m:DO K By n=J #[14])(d:UR K C)(a:a9 K C f):zZ P w K mg base 0<|VY n f:=fun Yq0 k⟨⟨e1,e2,e3,e4,e5,hr,_⟩,hx,_,_⟩hj hN nl Pb Pn s es b P' α h ha=>by
 subst e1 e2 e3 e4 e5;delta VY at h;cbv
 .mstop
  obtain⟨q,c,h⟩:=h;cbv
  .rename_i hq;subst hq;nofun;refine c6 (ii c) fun p o g j e i l=>?_;subst o;exact Ke g m d a j e i l rfl
  .nofun
 .nofun
def Zz(a:Scope)(N:SH)(b:List SU):Option FE:=match b with
 |[.Return (J r) _]=>hX ⟨[],[]⟩ a N 9 r
 |_=>U
def Jp{st:SU}(F:UD K x x st f fd)(S:Vr N ps<|ai st)(h:Zz (ai st) N (bL st)=J ρ):zl P w K mg base lD 1 f fd ps<|rj K mg<|gx (pX ρ) N ps:=by
 delta Zz at h;cbv
 .rename_i e;refine F.okU (O':=[]) S fun b A a s H E c=>?_;rw[e];exact GO ⟨fun _ h=>absurd h Vm,fun _ h=>absurd h Vm,rfl⟩ h
 .nofun
end
def O3:Fm:=fun _ _ _ e=>(cM e).bind fun q=>match q.2.2 with
 |[a,b]=>(ke a).bind fun y=>(ke b).bind fun z=>if q.2.1="replace"/\Aa q.1=G then J ([q.1],fun l=>zz (l5 y z)<|g0 l)else U
 |_=>U
def G7(hX:1<=X.tn):dr X W O3:=fun O e es b d h a=>by
 delta O3 at h;mstop;obtain⟨⟨o,m,l⟩,h0,h⟩:=h;obtain⟨_,_,rfl,h2⟩:=kr h0;clear h0;cbv
 .rename_i z;cases z;mstop;obtain⟨y,h3,h⟩:=h;obtain⟨_,_,rfl⟩:=wL h3;mstop;obtain⟨z,h4,h⟩:=h;obtain⟨_,_,rfl⟩:=wL h4;cbv
  .rename_i hq;obtain⟨rfl,h1⟩:=hq;nofun;obtain⟨φ,rfl,c⟩:=yN a;exact Dr hX c (zq h1 _ _) h2
  .nofun
 .nofun
theorem Xg.tn(h:Xg X Yq0):Yq0.tn=X.tn:=by
 induction h with
 |re=>rfl
 |bk _ N c b a=>exact a
noncomputable def Ju(ps:SH)(a:Scope):Bool:=match ps with
 |p::_=>decide (a.names.lookup p=J .local)
 |[]=>η
def He(h:Ju ps sc=G):∃p r,ps=p::r/\sc.names.lookup p=J .local:=by
 delta Ju at h;cbv
 .mright
 .nofun
inductive Us where
 |fn|mt (n:Str)|nw (n:Str)|vl|pl|mk (n:Str)
structure Dm where
 q:Df
 ql:Str
 P:Ru
 us:List Us
 ow:SH:=[]
 t1:Bool:=η
def Dm.F(q:Dm)(ψ:gi):FM:=bF q.P.length ψ q.q.N.length q.q.ps.length
inductive Mz where
 |pl (q:Df) (m:Mr)
 |p1 (q:Df) (φ:FS)
 |mu (q r:Df) (φ χ:(Rx->R D)->(Rx->R D)->FS) (Z:Nat->(Rx->R D)×(Rx->R D)) (n:Nat)
 |ow (q:Dm) (ψ:gi)
 |rw(q:Dm) (φ:FM->gi) (Z:Nat->FM) (n:Nat)
structure Ac where
 x:List<|Nat×Fm
 f:List<|Nat×FK
 s:List<|Nat×LH
 v:List<|Str×FM
 d:Nat
 c:List<|Str×Nat×FM
structure Ug where
 f:List FK
 g:List V0
 s:List LH
 h:List<|Nat×V6
def PY(q:Dm)(F:FM)(a:Ac):Us->Ac
 |.fn=>{a with f:=(q.q.d+1,Zy q.q.x q.P F)::a.f}
 |.mt n=>{a with f:=(q.q.d+1,YN n q.q.x q.P F)::a.f}
 |.nw n=>{a with s:=(q.q.d+2,XQ n F)::a.s,c:=(n,q.q.d+1,F)::a.c}
 |.vl=>{a with v:=(q.q.x,F)::a.v,d:=max a.d<|q.q.d+1}
 |.pl=>{a with x:=(q.q.d+1,bX q.q.x<|Wr F)::a.x}
 |.mk n=>match a.c.lookup n with
  |some z=>if z.1<=q.q.d then {a with f:=(q.q.d+1,Z9 q.q.x n z.2 F)::a.f}else a
  |none=>a
section
variable(bD:Nat->SU)(B:Tb)(ext:List Fm)(Ts:Ug)
noncomputable def up{α:Type}(d:Nat)(l:List<|Nat×α):List α:=(l.filter fun a=>decide (a.1<=d)).map (·.2)
def RO(a:Ac)(q:Dm)(sf:List FK:=[]):xq:=⟨UX B ext a.x q.q (if q.t1=G then[O3]else[]),sf++(up q.q.d a.f++((if a.d<=q.q.d then[Zw a.v [0]]else[])++Ts.f)),Ts.g,Xh q.ow::(up q.q.d a.s++Ts.s),up q.q.d Ts.h,q.q.w⟩
def Ce(t:xq)(q:Dm):Option gi:=(Qc t q.P.length (ai<|bD q.q.i) (fun _=>G) q.q.N 12 q.P<|bL<|bD q.q.i).map (·.1)
def P9(a:Ac):Mz->Ac
 |.pl q m=>{a with x:=aa4 q m a.x}
 |.p1 q φ=>{a with x:=(q.d+1,bX q.x<|gx φ q.N q.ps)::a.x}
 |.mu q r _ _ Z n=>{a with x:=(q.d+n,bX q.x (Z n).1)::(q.d+n,bX r.x (Z n).2)::a.x}
 |.ow q ψ=>q.us.foldl (PY q<|q.F ψ) a
 |.rw q _ Z n=>{a with x:=(q.q.d+n,z5 q.q.x<|Z n)::a.x}
def T7(q:Df):Prop:=J5 q.N q.ps (ai<|bD q.i)=G
def Tv(a:Ac):Mz->Prop
 |.pl q m=>RV bD B ext q a.x m/\T7 bD q
 |.p1 q φ=>dF bD (UX B ext a.x q [O3]) q=J φ/\T7 bD q/\Ju q.ps (ai<|bD q.i)=G
 |.mu q r φ χ Z n=>(∀F SK,dF bD (UX B ext a.x q [bX q.x F,bX r.x SK]) q=J (φ F SK))/\T7 bD q/\(∀F SK,dF bD (UX B ext a.x r [bX q.x F,bX r.x SK]) r=J (χ F SK))/\T7 bD r/\r.d=q.d/\((∀ds,(Z 0).1 ds=.no)/\∀ds,(Z 0).2 ds=.no)/\∀m,Z (m+1)=(gx (φ (Z m).1 (Z m).2) q.N q.ps,gx (χ (Z m).1 (Z m).2) r.N r.ps)
 |.ow q ψ=>Ce bD (RO B ext Ts a q) q=J ψ/\T7 bD q.q/\(q.t1=G->Ju q.q.ps (ai<|bD q.q.i)=G)
 |.rw q φ Z _=>(∀F,Ce bD (RO B ext Ts a q [Zy q.q.x q.P F]) q=J (φ F))/\T7 bD q.q/\(Z 0=fun _ _=>.no)/\(∀m,Z (m+1)=q.F (φ<|Z m))/\q.P=[2]/\q.us=[.fn]/\q.t1=η
def D9:List Mz->Ac->Prop
 |[],_=>True
 |z::r,a=>Tv bD B ext Ts a z/\D9 r (P9 a z)
end
def z7{l:List<|Nat×α}{x:α}(h:x∈up d l):∃j,(j,x)∈l/\j<=d:=by
 obtain⟨a,h1,rfl⟩:=d9.mp h;obtain⟨h2,b⟩:=dN.mp h1;exact⟨a.1,h2,WI b⟩
section
variable(bD:Nat->SU)(P:Tc)(w:Sl)(K:aT)(mg:Sq)(base:T3)
def KB(q:Dm)(f:SA):Us->Prop
 |.fn=>q.ql=q.q.x/\mg q.q.x=J (.ref f)
 |.pl=>q.P=[]/\q.q.x∈q.q.g/\q.ql=q.q.x/\∀x∈q.q.g,mg x=J (.ref f)
 |.mt n=>∃C,DO K By n=J #[14]/\UR K C/\kF K C q.q.x f
 |.nw n=>q.P=[0]/\∃C,DO K By n=J #[14]/\mg n=J (.ref C)/\Mk K C f
 |.vl=>q.P=[0]/\DO K By q.q.x=J (J<|.ref f)/\Xq K (.ref f)=G
 |.mk _=>q.P=[0]/\q.ql=q.q.x/\mg q.q.x=J (.ref f)
structure qR(q:Dm)(f:SA)(fd:Wj):Prop where
 F:UD K q.q.x q.ql (bD q.q.i) f fd
 b:cf K fd q.q.ps []
 u:∀u∈q.us,KB K mg q f u
def ZF(a:Nat->SA)(fd:Nat->FuncData):Mz->Prop
 |.pl q _=>eB bD K mg q (a q.i)<|fd q.i
 |.p1 q _=>eB bD K mg q (a q.i) (fd q.i)/\q.x∈q.g
 |.mu q r _ _ _ _=>(eB bD K mg q (a q.i) (fd q.i)/\q.x∈q.g)/\eB bD K mg r (a r.i) (fd r.i)/\r.x∈r.g
 |.ow q _=>qR bD K mg q (a q.q.i)<|fd q.q.i
 |.rw q _ _ _=>qR bD K mg q (a q.q.i)<|fd q.q.i
structure xX(a:Ac):Prop where
 x:∀e∈a.x,Bw P w K mg base e
 f:∀e∈a.f,wE P w K mg base e.1 e.2
 s:∀e∈a.s,zZ P w K mg base e.1 e.2
 v:∀g F,a.v.lookup g=J F->∃f fd ps,DO K By g=J (J<|.ref f)/\Xq K (.ref f)=G/\cf K fd ps []/\FO P w K mg base a.d f fd ps [0] F
 c:∀n j F,a.c.lookup n=J (j,F)->∃C g fd ps,DO K By n=J #[14]/\mg n=J (.ref C)/\Mk K C g/\cf K fd ps []/\FO P w K mg base j g fd ps [0] F
structure k6(Ts:Ug):Prop where
 f:∀f∈Ts.f,wE P w K mg base 0 f
 g:∀f∈Ts.g,TJ P w K mg base 0 f
 s:∀f∈Ts.s,zZ P w K mg base 0 f
 h:∀e∈Ts.h,Qm P w K mg base e.1 e.2
end
section
variable{K:aT}
theorem BO(Q:qR bD K mg q f fd)(SK:FO P w K mg base (q.q.d+1) f fd q.q.ps q.P F):∀(us:List Us)(a:Ac),(∀u∈us,KB K mg q f u)->xX P w K mg base a->xX P w K mg base (us.foldl (PY q F) a)
 |[],_,_,A=>A
 |u::us,a,h,A=>BO Q SK us _ (fun v b=>h v<|ie _ b)<|(fun A Q SK k => by
     cases u with
     |fn=>
      refine⟨A.x,fun e h=>?_,A.s,A.v,A.c⟩;rcases eQ.mp h with rfl|h
      .exact Pj ⟨k.1▸Q.F,Q.b,k.2⟩ SK
      .exact A.f e h
     |mt n=>
      refine⟨A.x,fun e h=>?_,A.s,A.v,A.c⟩;rcases eQ.mp h with rfl|h
      .obtain⟨C,h1,h2,l⟩:=k;exact Rg h1 h2 l Q.b SK
      .exact A.f e h
     |nw n=>
      obtain⟨i,C,h1,h2,l⟩:=k;rw[i]at SK;refine⟨A.x,A.f,fun e h=>?_,A.v,fun m j t h=>?_⟩
      .rcases eQ.mp h with rfl|h
       .exact Q4 h1 h2 l Q.b SK
       .exact A.s e h
      .rw[show(PY q F a<|.nw n).c=(n,q.q.d+1,F)::a.c from rfl,We]at h;cbv
       .rename_i e;nofun;rw[eq_of_beq e];exact⟨C,f,fd,_,h1,h2,l,Q.b,SK⟩
       .exact A.c m j t h
     |vl=>
      obtain⟨i,h1,h2⟩:=k;rw[i]at SK;refine⟨A.x,A.f,A.s,fun g t h=>?_,A.c⟩;rw[show(PY q F a .vl).v=(q.q.x,F)::a.v from rfl,We]at h;cbv
      .rename_i e;nofun;rw[eq_of_beq e];exact⟨f,fd,_,h1,h2,Q.b,SK.mono<|Nat.le_max_right _ _⟩
      .refine c7 (A.v g t h) fun I o y E D M N=>?_;exact⟨I,o,y,E,D,M,N.mono<|Nat.le_max_left _ _⟩
     |pl=>
      refine Xl k fun i H r p=>?_;rw[i]at SK;refine⟨fun e h=>?_,A.f,A.s,A.v,A.c⟩;rcases eQ.mp h with rfl|h
      .exact gP ⟨r▸Q.F,Q.b,p⟩ SK.Wr H
      .exact A.x e h
     |mk n=>
      obtain⟨i,r,p⟩:=k;rw[i]at SK;dsimp only[PY];split
      .rename_i z e;split
       .rename_i hz;refine⟨A.x,fun e h=>?_,A.s,A.v,A.c⟩;rcases eQ.mp h with rfl|h
        .obtain⟨C,g,o,ps,h1,h2,l,B,O⟩:=A.c n z.1 z.2 (by assumption);exact Of h1 h2 l B O ⟨r▸Q.F,Q.b,p⟩ SK<|yD hz
        .exact A.f e h
       .exact A
      .exact A) A Q SK<|h u Up
section
variable{K:aT}
end
def xy(m:∀Y k,FY Y P w K mg base k->Vu Y ⟨K,mg,E0⟩ B/\∀f∈ext,dr Y ⟨K,mg,E0⟩ f)(hU:k6 P w K mg base Ts)(A:xX P w K mg base a)(y:FZ Y P w K mg base k)(e:q.q.d<=k)(c:Y.N.Nodup)(h1:q.t1=G->1<=Y.tn)(hs:∀g∈sf,wE P w K mg base k g:=by exact fun _ h=>nomatch h):l8 Y K mg<|RO B ext Ts a q sf:=by
 refine⟨fun n Z l=>pA m A.x e ((by
     refine xW l.wb fun a b c d e g i j1 j2=>?_;obtain⟨⟨e1,e2,e3,e4,e5,hr,cm,c0,P0,q0,z1,z2,z3⟩,_,_,_⟩:=y;exact⟨a.trans e1,b.trans e2,c.trans e3,d.trans e4,e.trans e5,by rw[g];exact hr,i.trans cm,c0,P0,q0,j1.trans z1,j2.trans z2,z3⟩)) (fun f i=>by
   split at i
   .rename_i ht;rw[IF.mp i];exact G7 (by rw[l.tn];exact h1 ht)
   .cases i),fun g b=>?_,fun g b=>hU.g g b Y _ y (Uh _),fun g b=>?_,fun g b=>?_,y.y.cm.1,y.y.eK.symm,c,y.st,y.fr⟩
 .rcases BY.mp b with h|h
  .exact hs g h Y _ y (mK _)
  rcases BY.mp h with h|h
  .obtain⟨j,h1,h2⟩:=z7 h;exact A.f _ h1 Y _ y<|RW h2 e
  .rcases BY.mp h with h|h
   .cbv
    .rename_i hd;rw[IF.mp h];exact Pk A.v Y _ y<|RW hd e
    .nofun
   .exact hU.f g h Y _ y (Uh _)
 .rcases eQ.mp b with rfl|h
  .exact Q6 Y _ y (Uh _) c
  .rcases BY.mp h with h|h
   .obtain⟨j,h1,h2⟩:=z7 h;exact A.s _ h1 Y _ y (RW h2 e) c
   .exact hU.s g h Y _ y (Uh _) c
 .obtain⟨j,h1,h2⟩:=z7 b;exact hU.h _ h1 Y _ y (RW h2 e) c
def UD.adA{st:SU}(F:UD K x qual st f fd)(S:Vr N ps<|ai st)(h1:Ju ps (ai st)=G)
  (c:∀(b:nE)(_:Ea K b qual=G)(A:Tx)(a:List Env)(s:ID)(H:Hp)(E:XK),TZ k (A.deeper<|W7 qual (ai st) s.heap.objs.size f b) ->
   MB ((gw (oI P w mg) P w K mg base N qual (ai st) f b A a s H E).up 1) K mg nl [] Pf P' (bL st) ψ):T8 P w K mg base (oI P w mg) (k+1) f fd ps (sJ K mg Pf (bF nl ψ N.length ps.length)):=by
 left;obtain⟨o,r,kV,i,p,q,b,n,l,rfl,lk,d⟩:=F.ex;obtain⟨m,pr,j,e⟩:=He h1;right;exact Ln lk (tF d) S j e BW fun A a s H vs Q E h g=>⟨_,((c b d A a s H E h) fun y C Z H=>E (.ref y) (C) H).out,BL g⟩
def IZ(e:∀Y k,FY Y P w K mg base k->Vu Y ⟨K,mg,E0⟩ B/\∀f∈ext,dr Y ⟨K,mg,E0⟩ f)(hU:k6 P w K mg base Ts)(A:xX P w K mg base a)(F:UD K q.q.x q.ql (bD q.q.i) f fd)(S:Vr q.q.N q.q.ps<|ai<|bD q.q.i)(h1:q.t1=G->Ju q.q.ps (ai<|bD q.q.i)=G)(h:Ce bD (RO B ext Ts a q) q=J ψ):
  FO P w K mg base (q.q.d+1) f fd q.q.ps q.P (q.F ψ):=by
 obtain⟨r,h',rfl⟩:=dO.mp h;by_cases l:q.t1=G
 .refine UD.adA (P':=r.2) F S (h1 l) fun g c j b s H E m=>?_;obtain⟨c0,P0,rfl,hcd2⟩:=vO c;have y:FZ ((gw (oI P w mg) P w K mg base q.q.N q.ql (ai<|bD q.q.i) f (.ref c0) j b s H E).up 1) P w K mg base q.q.d:=⟨⟨rfl,rfl,rfl,rfl,rfl,m,rfl,c0,P0,_,rfl,rfl,hcd2⟩,.nil rfl,rfl,rfl⟩;exact wC (xy e hU A y (mK _) S.nd fun _=>mK 1) (fun pl=>xy e hU A (y.pin pl) (mK _) S.nd fun _=>mK 1) 12 q.P _ r h' []
 .refine F.Y6 (P':=r.2) S fun g c j b s H E m=>?_;obtain⟨c0,P0,rfl,hcd2⟩:=vO c;have y:FZ (gw (oI P w mg) P w K mg base q.q.N q.ql (ai<|bD q.q.i) f (.ref c0) j b s H E) P w K mg base q.q.d:=⟨⟨rfl,rfl,rfl,rfl,rfl,m,rfl,c0,P0,_,rfl,rfl,hcd2⟩,.nil rfl,rfl,rfl⟩;exact wC (xy e hU A y (mK _) S.nd fun z=>absurd z l) (fun pl=>xy e hU A (y.pin pl) (mK _) S.nd fun z=>absurd z l) 12 q.P _ r h' []
section
variable{K:aT}
def ahr(l:∀Y k,FY Y P w K mg base k->Vu Y ⟨K,mg,E0⟩ B/\∀f∈ext,dr Y ⟨K,mg,E0⟩ f)(hU:k6 P w K mg base Ts)(A:xX P w K mg base a)(Q:qR bD K mg q f fd)(n:Nat)(h:Tv bD B ext Ts a (.rw q φ Z n)):∀m,FO P w K mg base (q.q.d+m) f fd q.q.ps q.P (Z m):=X5 (by
  obtain⟨_,_,h0,_⟩:=h;rw[h0];exact⟨fun vs H Q E q0_=>Vc q0_ fun _ _ _ _ _ _ _ _ h=>h.elim,fun A c s H args us vs Q E p e0 hb r q1_=>Vc q1_ fun _ _ _ _ _ _ _ _ h=>h.elim⟩) fun m i_=>by
  have C:=i_;obtain⟨hb,hs,_,hz,hP,j,ht⟩:=h;have j:=Q.u .fn (by rw[j];exact Up);have S:=pG hs;obtain⟨r,h',e⟩:=dO.mp<|hb<|Z m;rw[hz m,<-e];have sf:∀g∈[Zy q.q.x q.P<|Z m],wE P w K mg base (q.q.d+m) g:=fun g D=>by
   rw[IF.mp D];exact Pj ⟨j.1▸Q.F,Q.b,j.2⟩ C
  refine Q.F.Y6 (P':=r.2) S fun t o v c s H E p=>?_;obtain⟨c0,P0,rfl,hcd2⟩:=vO o;have y:FZ (gw (oI P w mg) P w K mg base q.q.N q.ql (ai<|bD q.q.i) f (.ref c0) v c s H E) P w K mg base<|q.q.d+m:=⟨⟨rfl,rfl,rfl,rfl,rfl,p,rfl,c0,P0,_,rfl,rfl,hcd2⟩,.nil rfl,rfl,rfl⟩;exact wC (xy l hU A y (zQ _ _) S.nd (fun z=>by rw[ht]at z;cases z) sf) (fun pl=>xy l hU A (y.pin pl) (zQ _ _) S.nd (fun z=>by rw[ht]at z;cases z) sf) 12 q.P _ r h' []
end
def IS{q:Df}(F:UD K q.x q.x (bD q.i) f fd)(S:Vr q.N q.ps<|ai<|bD q.i)(h1:Ju q.ps (ai<|bD q.i)=G)(C:∀j,FY j P w K mg base k->1<=j.tn->Vu j ⟨K,mg,E0⟩ t)(h:dF bD t q=J φ):T8 P w K mg base lD (k+1) f fd q.ps<|rj K mg<|gx φ q.N q.ps:=by
 obtain⟨r,h',rfl⟩:=dO.mp h;obtain⟨D,pr,y,o⟩:=He h1;refine UD.abd (O':=r.2) F S y o fun z m A n s H E u=>?_;obtain⟨B,v,rfl,l⟩:=vO m;refine Ab rfl (fun j p=>?_) S.nd SQ rfl 12 [] _ r h' [];refine xW p.wb fun a b c d e g i j1 j2=>?_;exact C j ⟨a,b,c,d,e,g▸u,i,B,v,_,j1,j2,l⟩ (by rw[p.tn];exact mK 1)
def N8{q r:Df}(e:∀b k,FY b P w K mg base k->Vu b ⟨K,mg,E0⟩ B/\∀f∈ext,dr b ⟨K,mg,E0⟩ f)(A:xX P w K mg base a)(Q:eB bD K mg q f fd)(l:q.x∈q.g)(i:eB bD K mg r f' fd')(j:r.x∈r.g)(n:Nat)(h:Tv bD B ext Ts a (.mu q r φ χ Zq0 n)):∀m,
  T8 P w K mg base lD (q.d+m) f fd q.ps (rj K mg (Zq0 m).1)/\T8 P w K mg base lD (q.d+m) f' fd' r.ps (rj K mg (Zq0 m).2):=X5 (by
  left;obtain⟨_,_,_,_,_,⟨h1,h2⟩,_⟩:=h;right;rw[funext h1,funext h2];exact⟨T8.void,T8.void⟩) fun m i_=>by
  left;obtain⟨t,s⟩:=i_;obtain⟨b1,p,b2,u,hd,_,o⟩:=h;right;have self:∀b,FY b P w K mg base (q.d+m)->∀g∈[bX q.x (Zq0 m).1,bX r.x (Zq0 m).2],dr b ⟨K,mg,E0⟩ g:=fun b y g c=>by
   rcases eQ.mp c with rfl|c
   .exact gP Q t l b _ y (mK _)
   .rw[IF.mp c];exact gP i s j b _ y<|mK _
  rw[o m];exact⟨rq Q.F (pG p) (fun b y=>pA e A.x (zQ _ _) y<|self b y)<|b1 _ _,rq i.F (pG u) (fun b y=>pA e A.x #[28] y<|self b y)<|b2 _ _⟩
def IU(j:∀Y k,FY Y P w K mg base k->Vu Y ⟨K,mg,E0⟩ B/\∀f∈ext,dr Y ⟨K,mg,E0⟩ f)(hU:k6 P w K mg base Ts){fd:Nat->FuncData}:∀(l:List Mz)(a:Ac),xX P w K mg base a->(∀z∈l,ZF bD K mg fa fd z)->D9 bD B ext Ts l a ->
  ∀q m,.pl q m∈l->T8 P w K mg base lD (m.dp q) (fa q.i) (fd q.i) q.ps (rj K mg<|m.F q):=TB (fun _ _ _ _ _ _ h=>nomatch h) fun z r i_ a A hl ⟨h1,h3⟩ q m d=>by
  have Q:=hl z Up;have o:xX P w K mg base (P9 a z)->.pl q m∈r->T8 P w K mg base lD (m.dp q) (fa q.i) (fd q.i) q.ps (rj K mg<|m.F q):=fun t h=>i_ _ t (fun z d=>hl z<|ie _ d) h3 q m h;cases z with
  |ow q' ψ=>
   obtain⟨h1,h2,h4⟩:=h1;have SK:=IZ j hU A Q.F (pG h2) h4 h1;rcases eQ.mp d with h|h
   .nofun
   .exact o (BO Q SK _ _ Q.u A) h
  |rw q' φ Z n=>
   have SK:=ahr j hU A Q n h1 n;obtain⟨_,_,_,_,hP,p,_⟩:=h1;have p:=Q.u .fn (by rw[p];exact Up);rcases eQ.mp d with h|h
   .nofun
   .refine o ⟨fun e h=>?_,A.f,A.s,A.v,A.c⟩ h;rcases eQ.mp h with rfl|h
    .exact agc ⟨p.1▸Q.F,Q.b,p.2⟩ (hP▸SK)
    .exact A.x e h
  |p1 q' φ=>
   obtain⟨h1,h2,h4⟩:=h1;have SK:=IS Q.1.F (pG h2) h4 (fun Y y C=>pA j A.x (mK _) y fun g D=>by rw[IF.mp D];exact G7 C) h1;rcases eQ.mp d with h|h
   .nofun
   .refine o ⟨fun e h=>?_,A.f,A.s,A.v,A.c⟩ h;rcases eQ.mp h with rfl|h
    .exact gP Q.1 SK Q.2
    .exact A.x e h
  |mu q' r' φ χ Z n=>
   obtain⟨G1,G2⟩:=N8 j A Q.1.1 Q.1.2 Q.2.1 Q.2.2 n h1 n;rcases eQ.mp d with h|h
   .nofun
   .refine o ⟨fun e h=>?_,A.f,A.s,A.v,A.c⟩ h;rcases eQ.mp h with rfl|h
    .exact gP Q.1.1 G1 Q.1.2
    .rcases eQ.mp h with rfl|h
     .exact gP Q.2.1 G2 Q.2.2
     .exact A.x e h
  |pl q' m'=>
   obtain⟨h1,h2⟩:=h1;have SK:=L8 j A.x Q (pG h2) h1;rcases eQ.mp d with h|h
   .nofun;exact SK
   .refine o ⟨fun e h=>?_,A.f,A.s,A.v,A.c⟩ h;rcases BY.mp h with h|h
    .obtain⟨x,hx,rfl⟩:=d9.mp h;exact gP Q SK hx
    .exact A.x e h
end
section
variable{X:Cx}{W:Wd}{O:Ru}{φ:FE}
def V8(a:Scope)(N:SH)(O:Ru)(i:Nat)(c:Ry):Option<|List Ry:=(cM c).bind fun q=>if q.2.1="pop"/\oN a N O q.1=J i then J q.2.2 else U
def Ad(h:V8 sc N O i c=J es)(d:N[i]?=J x):∃p a q,c=.Call (.Attribute (.Name x p) "pop" a) es [] q/\(a.endLine==q.line)=G:=by
 obtain⟨q,h1,h2⟩:=bY.mp h;clear h;obtain⟨a,c,rfl,f⟩:=kr h1;split at h2
 .rename_i hq;cases h2;refine Tw (vA hq.2) fun y p e b _=>?_;rw[d]at b;cases b;rw[e,hq.1];exact⟨_,_,_,rfl,f⟩
 .cases h2
def XZ:Fs:=fun a N O s=>match s with
 |.Expr c _=>(cM c).bind fun q=>(oN a N O q.1).bind fun i=>(match q.2.2 with
  |[.Tuple (e::r) _ _]=>if q.2.1="append"/\al e=G then(match r with
   |[c1]=>(V8 a N O i c1).bind fun l=>if l.isEmpty=G then J ([e],fun l=>pR i<|g0 l)else U
   |[c1,c2]=>(V8 a N O i c1).bind fun l=>(match l with
    |[f]=>(V8 a N O i c2).bind fun l=>if l.isEmpty=G/\al f=G then J ([e,f],fun l=>my i (g0 l)<|g1 l)else U
    |_=>U)
   |_=>U)else U
  |_=>U)
 |_=>U
def PV(n:W.K=X.K):IK X W XZ:=fun Ob O s es b t h j=>by
 delta XZ at h;cbv
 .obtain⟨⟨q1,q2,A⟩,w,h2⟩:=bY.mp h;clear h;obtain⟨z,y,rfl,l0⟩:=kr w;obtain⟨i,h1,h⟩:=bY.mp h2;refine XX (vA h1) fun x p e0 a m k r o=>?_;dsimp only at e0 h l0⊢;subst e0;cbv
  .cbv
   .rename_i d;obtain⟨d,q⟩:=d;subst d;cbv
    .obtain⟨l,c,h⟩:=bY.mp h;cbv
     .rename_i hp;nofun;rw[Lj.mp hp]at c;obtain⟨_,_,_,rfl,e⟩:=Ad c a;obtain⟨φ,rfl,f⟩:=yN j;exact Fu m f a q l0 e k r o rfl rfl rfl n
     .nofun
    .obtain⟨l,c,h⟩:=bY.mp h;cbv
     .obtain⟨l,g,h⟩:=bY.mp h;cbv
      .rename_i hp;nofun;rw[Lj.mp hp.1]at g;obtain⟨_,_,_,rfl,e⟩:=Ad c a;obtain⟨_,_,_,rfl,u⟩:=Ad g a;obtain⟨φ,ψ,rfl,f,v⟩:=Kp j;exact GD m f v a q hp.2 l0 e u k r o rfl rfl rfl rfl n
      .nofun
     .nofun
    .nofun
   .nofun
  .nofun
 .nofun
noncomputable def LS:List (Option Ry)->List Ry->Option (List<|Str×Int)
 |[],[]=>J []
 |some a::ks,b::vs=>(ke a).bind fun k=>(wg b).bind fun v=>(LS ks vs).map ((k,v)::·)
 |_,_=>U
theorem Jv:∀(e:List<|Option Ry)(vs:List Ry)(tab:List<|Str×Int),LS e vs=J tab->X9 X dpos e vs (GR tab)/\e.all (·.isSome)=G/\e.length=vs.length/\e.length=tab.length:=fun e=>by
 induction e with
 |nil=>
  intro vs tab h;cases vs with
  |nil=>nofun;exact⟨(fun aa s Z H Q I h=>pairTrees_nil_walk ⟨[],H,I,.nil,h⟩),rfl,rfl,rfl⟩
  |cons _ _=>nofun
 |cons k e f=>
  intro vs tab h;unfold LS at h;cbv
  .mright
  .rename_i z1;left;cases z1;mstop;obtain⟨_,hx,h⟩:=h;obtain⟨_,_,rfl⟩:=wL hx;mstop;obtain⟨_,hx,h⟩:=h;obtain⟨_,_,rfl⟩:=Ya hx
   replace h:=dO.mp h
   obtain⟨t,h1,rfl⟩:=h;obtain⟨a,b,c,d⟩:=f _ t h1;right;exact⟨(fun aa s Z H Q I h=>
     pairTrees_cons_walk (bP (Jg aa s Z H _ I h) (by intro u j l;refine Tw l fun x H1 g i q1=>?_;exact bP (AE aa j Z H1 _ g q1) (by intro w2 s2 q0_;refine Tw q0_ fun y H2 I2 ry q2=>?_;exact bP (a aa s2 Z H2 _ I2 q2) (by intro ws s3 q1_;refine Tw q1_ fun ps H3 I3 rel q3=>?_;exact ⟨(x,y)::ps,H3,I3,.cons ⟨i,ry⟩ rel,q3⟩))))),⊤,by simp[c],by simp[d]⟩
  .nofun
def Jj:Fm:=fun _ _ _ e=>(cS e).bind fun q=>match q.1 with
 |.Dict ks vs _=>(LS ks vs).bind fun tab=>if(tab.map (·.1)).Nodup/\tab.length<=15/\0<tab.length then J ([q.2],fun l=>zz (Xd<|tab.map fun p=>(p.1,D.int p.2))<|g0 l)else U
 |_=>U
def Oa(j:X.A.units+1<cLine):dr X W Jj:=fun O e es b f h g=>by
 mstop
 obtain⟨⟨o,i⟩,h1,h⟩:=h;obtain⟨pos,rfl,h2⟩:=BX h1;dsimp only at h;cbv
 .mstop
  obtain⟨tab,k,h⟩:=h;cbv
  .rename_i hq;nofun;obtain⟨φ,rfl,l⟩:=yN g;obtain⟨a,b,c,d⟩:=Jv _ _ tab k;exact QG tab j a l hq.1 hq.2.1 b c (fun z=>by mright) #[28]<|Np h2
  .nofun
 .nofun
end
section
variable{W:Wd}{X:Cx}
def ai9(K:aT)(x:V)(lo a:Option Int)(H:Hp)(Q:VK):Prop:=(∃z,x=.str z/\z.length<=sizeLine/\Q (.str<|rY z lo a) H)\/VL K x lo a H Q
section
variable{W:Wd}{X:Cx}
end
def xo(a:D)(lo b:Option Int):R D:=match a with
 |.str z=>if z.length<=1000000 then .ok (.str<|rY z lo b)else .no
 |.tup xs=>if HT.T5 xs.length 0 lo=0/\HT.T5 xs.length xs.length b=xs.length then .no else .ok (.tup<|EL xs lo b)
 |_=>.no
def Z24{lo a:Option Int}:xo (.str x) lo a=if x.length<=1000000 then .ok (.str<|rY x lo a)else .no:=rfl
section
variable{W:Wd}{X:Cx}
end
def QC(ds:Rx):R<|Rx:=match ds with
 |[.tup xs,.tup ys]=>.ok<|pN xs ys
 |_=>.no
def EU(α:FA):FA:=fun Y=>(α Y).bind QC
def qy{a:SA}{Z:St}(I:Inv X aa Z H s)(sB:ah B H)(b:m7 X.K B a xs):
  ∃(o:Obj)(S:SA->Nat->T3->Prop),yo (.ref a) o s.heap/\o.isFreed=η/\(∀it h,h.get? it=J o->S it 0 h)/\∀it,Src X.K B xs it<|S it:=by
 obtain⟨aV,rv,pl,hz⟩:=I.tuple<|sB.Wt b
 refine⟨{cls:=.type "tuple_iterator",data:=.fields #[.ref a,.int 0 0]},fun it i h=>h.IsTupleIter it a i,fun prog w A s Q E k q=>?_,rfl,fun it h e=>⟨_,e,rfl,rfl⟩,fun it=>src_tuple b⟩;obtain⟨o,e,r⟩:=pl
 exact wpAny_pyIter_tuple ⟨o,k _ _ e,r⟩ q
def LW{r:List Ry}{k:Nat}{p pos tpos:Pos}(M:X.mg "zip"=U)(ha:JA X [a,b]<|zx W O α)(N:Gl X "zip")(h1:al a=G)(h2:al b=G)(C:W.K=X.K):
  JI X (.Tuple r k tpos) (.Call (.Name "zip" p) [a,b] [] pos) (iD W O<|EU α):=⟨fun aa s Z H R I q_=>y8 q_ fun as0 B own Y DIh h=>by
 refine Yr (tw I N M (⊤) ?_ ∎<|by rfl);refine tL (bP (ha.out pos aa s Z H (fun vs H1=>ah H H1/\∃ds,ay W.K (aj #[8] H1) ds vs/\j3 W as0 own H1 (QC ds) R) I ⟨as0,B,own,Y,DIh,qo h fun ds vs H1 c T d=>⟨c,ds,T,d⟩⟩) fun us c Q=>jZ Q fun vs H1 n r1 q1=>?_) (bC h1) (bH<|by rw[Vg,h2];rfl);left;obtain⟨sH,ds,dv,d⟩:=q1
 delta QC at d;split at d
 .rename_i xs ys;obtain⟨va,vb,rfl,f,e⟩:=BB dv;have d:∀l H',ah H1 H'->eM W.K as0 (aj own H') l (pN xs ys)->R l H':=d;obtain⟨u1,u2,rfl,u,A⟩:=ya r1;rw[t7]at f e;obtain⟨a1,xv,rfl,o,j⟩:=f;obtain⟨a2,yv,rfl,m,g⟩:=e;subst u;subst A;rw[C]at o m j g;have sB:ah (aj as0<|aj own H1) H1:=(aD _ _).trans<|aD _ _;obtain⟨o1,S1,it1,fr1,st1,src1⟩:=qy n sB o
  obtain⟨o2,S2,it2,fr2,st2,src2⟩:=qy n sB m
  right;refine DU it1 it2 fr1 fr2 fun h' D v t g1 g2 S V=>?_;refine wpAny_pyIter_zip D ?_;refine⟨c.heap.objs.size+4,_,_,_,H1,rfl,n.kept (t':=c.toks) V,FC (P:=X.prog) (w:=X.w) (src1 c.heap.objs.size) (src2<|c.heap.objs.size+1) (z:=c.heap.objs.size+4) (TI:=c.heap.objs.size+2) (TO:=c.heap.objs.size+3) ?_,⟨D,v,⟨_,_,t⟩,st1 _ _ g1,st2 _ _ g2⟩,fun b F=>?_,d _ H1 #[23] ?_⟩
  .simp only[Vx,eQ,Vm,or_false,not_or,Yv,and_true,not_false_eq_true];refine⟨⟨?_,?_,?_,?_⟩,⟨?_,?_,?_⟩,⟨?_,?_⟩,?_⟩<;>first|lia|(intro q;have q':(_:Nat)=_:=q;lia)
  .have hb':c.heap.objs.size<=b:=by
    simp only[eQ,Vm,or_false]at F;rcases F with rfl|rfl|rfl|rfl|rfl<;>first|exact zQ _ _|exact mK _
   exact n.zT hb'<|n.Su.fresh hb'
  .rw[C];refine adi ?_ fun i x y hi E=>?_
   .delta pN;rw[List.length_zipWith,j.len,g.len]
   .obtain⟨dx,q1,q2⟩:=j.got E.1
    obtain⟨dy,q3,q4⟩:=g.got E.2
    refine⟨dx,dy,?_,q2,q4⟩;delta pN;rw[List.getElem?_zipWith,q1,q3]
 .right;exact d.elim⟩
theorem Fk(c:X.mg "zip"=U)(h:W.K=X.K):PZ X W<|fI "zip" 2 G EU:=Ng fun O g es p pos α i f hs e d=>by
 obtain⟨_,_,_,rfl⟩:=Lq<|e rfl
 match es,i with
 |[a,b],_=>
  have hs  := by simpa using hs
  exact LW c d f hs.1 hs.2 h
end
end L2
namespace L2
open PySem PySem.Spec PyProof.Rows
section
variable{X:Cx}{W:Wd}
theorem ag9(is:List Int):∀(k:Nat),k<=is.length->preSum (fun i=>(is[i]?).getD 0) k=(is.take k).sum:=by
 intro k;induction k with
 |zero=>intro _;rfl
 |succ k ih=>
  intro h;have h':k<is.length:=h;show preSum (fun i=>(is[i]?).getD 0) k+(is[k]?).getD 0=_;rw[ih<|jx h',List.take_add_one,WT h',List.sum_append];simp
def W2(K:aT)(xs:Se)(H:Hp)(Q:VK):Prop:=match xs with
 |[.ref p]=>∃is:List Int,gr K H p (is.map V.int)/\Q (.int is.sum) H
 |_=>False
def agm(g:X.calm=G):bI X (.builtin "sum")<|W2 X.K:=by
 intro aa s Z H xs us Q I r h;unfold W2 at h;cbv
 case h_2=>mleft
 rename_i p;obtain⟨is,hq,q⟩:=h;obtain⟨u,rfl,rx⟩:=jV r;cases rx;obtain⟨aV,rv,pl,hz⟩:=I.list hq;have l:X.A.in1.handled=U:=I.ok.hd g;have f:=rv.length;rw[WH]at f;refine aO I.tk<|call_sum_walkAnyS<|wpAny_pyIter_list pl.isList ?_;have d:p≠s.heap.objs.size:=by
  obtain⟨o,ho,_⟩:=pl.isList;exact Vd<|Tn ho
 refine⟨s.heap.objs.size,[s.heap.objs.size,p],[s.heap.objs.size],_,aV.toArray.size,_,_,fun i=>(is[i]?).getD 0,rfl,(Walks.list l _ p d aV.toArray).toS,⟨⟨_,Vh _ rfl,rfl,rfl⟩,Heap.IsList.push pl.isList _⟩,fun b a=>?_,?_,?_⟩
 .show b<(s.heap.push _).objs.size;rw[Ym];rcases eQ.mp a with e|a
  .rw[e];exact mY _
  .rw[IF.mp a];obtain⟨o,ho,_⟩:=pl.isList;exact Nat.lt_succ_of_lt<|Tn ho
 .intro i v hv;have c:=by simpa using hv
  have m:=(rW.mp c).1;have a:(is.map V.int)[i]?=J (V.int is[i]):=by grind
  obtain⟨u,hu,ru⟩:=rv.get a;rw[c]at hu;cases hu;obtain⟨t,rfl⟩:=ru;exact⟨t,by grind⟩
 .intro s' t' hm;have j:Inv X aa Z H {s with heap:=s.heap.push {cls:=.type "list_iterator",data:=.fields #[.ref p,.int 0 0]}}:=I.kept fun b o e=>iN _ e;rw[XC,<-f,ag9 is is.length<|mK _,List.take_length];refine n4 (I.zT (mK _)<|I.Su.fresh<|mK _) fun f0 f1 f2 f3 f4 f5=>?_;rw[Moved.eq_with hm];exact fun k=>⟨.int is.sum,H,j.turned (fun b o a e=>hm.heap b o (by simpa using a) e) f0 f1 f3 f4 f5,⟨_,rfl⟩,q⟩
noncomputable def TL:Rx->Option (List Int)
 |[]=>J []
 |.int i::ds=>(TL ds).map (i::·)
 |_=>U
def abX{K:aT}:∀{ds:Rx}{vs:Se}{is:List Int},ay K H ds vs->TL ds=J is->vs=is.map V.int:=@TB _ _ (@fun _ _ h e=>by nofun;cases e;rfl) fun d ds i_=>@fun _ _ q2_ e=>Tw q2_ fun v vs h0 h1 h2=>by
  subst h0;cases d with
  |int b=>
   have e:(TL ds).map (b::·)=J _:=e;cases q2:TL ds with
   |none=>mright
   |some xs=>
    rw[q2]at e;cases e;cases h1;rw[i_ h2 q2];rfl
  |_=>cases e
def E4(ds:Rx):R D:=match ds with
 |[.lst xs]=>(match TL xs with
  |some is=>.ok<|.int is.sum
  |none=>.no)
 |_=>.no
end
noncomputable def XU:Fs:=fun _ _ _ s=>match s with
 |.Return _ _=>J ([],fun _=>GY)
 |_=>U
def YR(x:Str):LH:=fun _ _ _ _ P s=>match s with
 |.Return (J e) _=>(cN e).bind fun q=>if q.1=x then J ([],fun _ _ _=>.no,P)else U
 |_=>U
end L2
namespace L2
open PySem PySem.Spec PyProof.Rows
def AM:Sf->Bool
 |[]=>G
 |a::r=>!r.contains a&&AM r
def acb:∀{l:Sf},AM l=G->l.Nodup:=@TB _ _ (@fun _=>Yv) fun a r i_=>@fun h=>by
  unfold AM at h;rw[oR]at h;exact Vx.mpr ⟨by simpa using h.1,i_ h.2⟩
theorem Mi{β:Type}{x:SA×β}{l:List<|SA×β}(a:(l.map (·.1)).Nodup)(h:x∈l):l.lookup x.1=J x.2:=by
 induction l with
 |nil=>nofun
 |cons y r b=>
  rw[Xp,Vx]at a;rcases eQ.mp h with rfl|h
  .grind
  .have n:x.1≠y.1:=fun z=>a.1<|z▸yh h;rw[wA,show(x.1==y.1)=η from by simpa using n];exact b a.2 h
end L2
namespace L2
open PySem PySem.NumText
noncomputable def dg(n:Nat):Ru:=if h:n<10 then[48+n]else dg (n/10)++[48+n%10]
termination_by n
decreasing_by lia
def fS{n:Nat}(h:n<10):dg n=[48+n]:=by rw[dg,dif_pos h]
def pU{n:Nat}(h:¬n<10):dg n=dg (n/10)++[48+n%10]:=by rw[dg,dif_neg h]
def r9:∀{d:Nat},d<10->(Nat.digitChar d).toNat=48+d:=∎
theorem qh:∀(n:Nat),(uY 10 n).map uT=dg n:=by
 intro n;induction n using sk with
 |ind n a=>
  by_cases h:n<10
  .rw[Nat.toDigits_of_lt_base h,fS h,Xp,t4,r9 h]
  .rw[Nat.toDigits_of_base_le ∅<|by simp_all,pU h,md,a (n/10)<|⊥,Xp,t4,r9<|by grind]
def Kb(n:Nat):(lE<|toString ((n:Nat):Int)).cps.toList=dg n:=by
 rw[Lr];show nq uT (BD<|uY 10 n).toList=_;rw[P5,qh]
def cu(i:Int):Ru:=if i<0 then 45::dg i.natAbs else dg i.natAbs
theorem str_int(i:Int):(lE<|toString i).cps.toList=cu i:=by
 cases i with
 |ofNat n=>delta cu;rw[SM<|∅];exact Kb n
 | negSucc n=>delta cu;rw [SI (Int.negSucc_lt_zero n)];exact (by
   rw[Lr];show nq uT ("-"++BD (uY 10 (n+1))).toList=_;rw[String.toList_append,md];show[45]++nq uT (BD (uY 10 (n+1))).toList=_;rw[P5,qh];rfl)
theorem pO:∀{n c:Nat},c∈dg n->48<=c/\c<=57:=by
 intro n;induction n using sk with
 |ind n b=>
  intro c a;by_cases h:n<10
  .rw[fS h]at a;mright;lia
  .rw[pU h]at a;rcases BY.mp a with z|z
   .exact b _ ⊥ z
   .mright;grind
def M7(n:Nat):dg n≠[]:=by
 by_cases h:n<10
 .rw[fS h];simp
 .rw[pU h];simp
def zN:∀(k n:Nat),n<10^(k+1)->(dg n).length<=k+1:=X5 (fun n h=>by rw[fS<|⊥];simp) fun k i_ n h=>by
  by_cases q:n<10
  .rw[fS q];simp
  .rw[pU q]
   have:=i_ (n/10) (by rw[Nat.pow_succ]at h;lia)
   simp;lia
theorem Kq:∀(n:Nat),0<n->∃c r,dg n=c::r/\c≠48:=by
 intro n;induction n using sk with
 |ind n b=>
  intro d;by_cases h:n<10
  .exact⟨48+n,[],fS h,⊥⟩
  .obtain⟨c,r,e,a⟩:=b (n/10) ⊥ #[28];exact⟨c,r++[48+n%10],by rw[pU h,e];rfl,a⟩
theorem Od:∀(n:Nat),digitsVal (dg n)=n:=by
 intro n;induction n using sk with
 |ind n a=>
  by_cases h:n<10
  .rw[fS h];delta digitsVal;simp
  .rw[pU h];delta digitsVal;rw[List.foldl_append];have e:=a (n/10) ⊥;unfold digitsVal at e;rw[e];simp;lia
def yB{i:Int}{c:Nat}(h:c∈cu i):45<=c/\c<=57:=by
 delta cu at h;cbv
 .rcases eQ.mp h with z|z
  .mright
  .have:=pO z;lia
 .have:=pO h;lia
end L2
namespace L2
end L2
namespace L2
open PySem PySem.Spec PyProof.Rows
section
def afl(h1:dF bD (UX B ext a.x q []) q=J φ)(h2:J5 q.N q.ps (ai<|bD q.i)=G)(b:D9 bD B ext Ts r (P9 a<|.pl q<|.pl φ)):D9 bD B ext Ts (.pl q (.pl φ)::r) a:=⟨⟨h1,h2⟩,b⟩
def c40(h1:∀F,dF bD (UX B ext a.x q (q.g.map fun x=>bX x F)) q=J (φ F))(h2:J5 q.N q.ps (ai<|bD q.i)=G)(c:D9 bD B ext Ts r (P9 a<|.pl q<|.rc φ Zq0 n))(b:(∀ds,Zq0 0 ds=.no)<|>gK)(d:(∀m,Zq0 (m+1)=gx (φ<|Zq0 m) q.N q.ps)<|>gK):D9 bD B ext Ts (.pl q (.rc φ Zq0 n)::r) a:=⟨⟨⟨h1,b,d⟩,h2⟩,c⟩
def Z23(h1:dF bD (UX B ext a.x q [O3]) q=J φ)(h2:J5 q.N q.ps (ai<|bD q.i)=G)(b:Ju q.ps (ai<|bD q.i)=G)(c:D9 bD B ext Ts r (P9 a<|.p1 q φ)):D9 bD B ext Ts (.p1 q φ::r) a:=⟨⟨h1,h2,b⟩,c⟩
def afu(h1:∀F SK,dF bD (UX B ext a.x q [bX q.x F,bX s.x SK]) q=J (φ F SK))(h2:J5 q.N q.ps (ai<|bD q.i)=G)(c:∀F SK,dF bD (UX B ext a.x s [bX q.x F,bX s.x SK]) s=J (χ F SK))(h:J5 s.N s.ps (ai<|bD s.i)=G)(f:s.d=q.d)(g:D9 bD B ext Ts r (P9 a<|.mu q s φ χ Zq0 n))
  (b:(∀ds,(Zq0 0).1 ds=.no)/\∀ds,(Zq0 0).2 ds=.no:=by exact⟨fun _=>rfl,fun _=>rfl⟩) (e:(∀m,Zq0 (m+1)=(gx (φ (Zq0 m).1 (Zq0 m).2) q.N q.ps,gx (χ (Zq0 m).1 (Zq0 m).2) s.N s.ps))<|>gK):D9 bD B ext Ts (.mu q s φ χ Zq0 n::r) a:=⟨⟨h1,h2,c,h,f,b,e⟩,g⟩
def aix(h1:∀F,Ce bD (RO B ext Ts a q [Zy q.q.x q.P F]) q=J (φ F))(h2:J5 q.q.N q.q.ps (ai<|bD q.q.i)=G)(d:D9 bD B ext Ts r (P9 a<|.rw q φ Z n))(b:(Z 0=fun _ _=>.no)<|>Rv)(f:∀m,Z (m+1)=q.F (φ<|Z m):=by exact fun _=>rfl)(e:q.P=[2]<|>Rv)(c:q.us=[.fn]<|>Rv)(g:q.t1=η<|>Rv):D9 bD B ext Ts (.rw q φ Z n::r) a:=⟨⟨h1,h2,b,f,e,c,g⟩,d⟩
def aaK(h1:Ce bD (RO B ext Ts a q) q=J ψ)(h2:(J5 q.q.N q.q.ps (ai<|bD q.q.i)&&(!q.t1||Ju q.q.ps (ai<|bD q.q.i)))=G)(b:D9 bD B ext Ts r (P9 a<|.ow q ψ)):D9 bD B ext Ts (.ow q ψ::r) a:=by
 rw[oR]at h2;exact⟨⟨h1,h2.1,fun z=>by mright⟩,b⟩
end
noncomputable def ny(K:aT)(n:Str):Option SA:=match DO K By n with
 |some #[14]=>J C
 |_=>U
def oz{K:aT}(h:ny K n=J C):DO K By n=J #[14]:=by
 delta ny at h;cbv
 .mright
 .nofun
noncomputable def Cl(K:aT)(C:SA)(m:Str):Option SA:=match Yt K (.ref C) m with
 |some (J<|.ref f)=>J f
 |_=>U
def xQ{K:aT}(h:Cl K C m=J f):Yt K (.ref C) m=J (J<|.ref f):=by
 delta Cl at h;cbv
 .mright
 .nofun
noncomputable def Zf(K:aT)(C:SA):Bool:=mf K C qT&&sA K C&&zO K C&&(match Yt K (.ref C) "__setattr__"with
 |some (J<|.builtin b)=>decide (b="object.__setattr__")
 |_=>η)
def UM(K:aT)(q:Dm)(f:SA):Us->Bool
 |.fn=>decide (q.ql=q.q.x/\ny K q.q.x=J f)
 |.pl=>decide (q.P=[]/\q.q.g=[q.q.x]/\q.ql=q.q.x/\ny K q.q.x=J f)
 |.mt n=>(match ny K n with
  |some C=>Zf K C&&decide (Cl K C q.q.x=J f)&&mT K (.ref f)&&Xq K (.ref f)
  |none=>η)
 |.nw n=>decide (q.P=[0])&&(match ny K n with
  |some C=>SO K C&&decide (Cl K C "__init__"=J f)&&mT K (.ref f)&&Xq K (.ref C)
  |none=>η)
 |.vl=>decide (q.P=[0]/\ny K q.q.x=J f)&&Xq K (.ref f)
 |.mk _=>decide (q.P=[0]/\q.ql=q.q.x/\ny K q.q.x=J f)
section
variable{K:aT}(X:K.In h)(N:h.Ns By mg)
include X N
theorem OT(h:UM K q f u=G):KB K mg q f u:=by
 have g:∀{n:Str}{a:SA},ny K n=a->mg n=J (.ref a):=fun h=>en X N<|oz h;cases u with
 |fn=>obtain⟨a,b⟩:=WI h;exact⟨a,g b⟩
 |pl=>
  obtain⟨a,b,c,d⟩:=WI h;exact⟨a,by rw[b];simp,c,fun x j=>by mright⟩
 |mt n=>
  dsimp only[UM]at h;cbv
  .rename_i C e;mright;obtain⟨⟨⟨a,b⟩,c⟩,d⟩:=h;exact⟨C,oz e,(by
     delta Zf at a;mright;obtain⟨⟨⟨a,b⟩,c⟩,d⟩:=a;refine⟨a,b,c,?_⟩;split at d
     .mright
     .cases d),⟨xQ b,c,d⟩⟩
  .nofun
 |nw n=>
  dsimp only[UM]at h;rw[oR,decide_eq_true_eq]at h;obtain⟨i,h⟩:=h;cbv
  .rename_i C e;mright;obtain⟨⟨⟨a,b⟩,c⟩,d⟩:=h;exact⟨i,C,oz e,g e,⟨a,xQ b,c,d⟩⟩
  .nofun
 |vl=>
  dsimp only[UM]at h;rw[oR,decide_eq_true_eq]at h;exact⟨h.1.1,oz h.1.2,h.2⟩
 |mk n=>obtain⟨a,b,c⟩:=WI h;exact⟨a,b,g c⟩
end
abbrev Dq:=Df×Str×SH
noncomputable def Mz.ds:Mz->List Dq
 |.pl q _=>[(q,q.x,q.g)]
 |.p1 q _=>[(q,q.x,q.g)]
 |.mu q r _ _ _ _=>[(q,q.x,q.g),(r,r.x,r.g)]
 |.ow q _=>[(q.q,q.ql,[])]
 |.rw q _ _ _=>[(q.q,q.ql,[])]
section
variable(bD:Nat->SU)(qn:Nat->Str)
def fZ(Lq0:Pl)(i:Nat):Wj:=Wk (Vk<|bD i) (qn i) (jJ<|bD i) (bL<|bD i) (ai<|bD i) .none .none .none (mA Lq0 i) U (.ref<|cA Lq0 i) .none
def znL(q:Dq)(kV g k:nE)(h:Option SA)(f j a b c d e:nE):Sem<|List<|Str×nE:=bindArgs (Wk q.1.x q.2.1 (jJ<|bD q.1.i) (bL<|bD q.1.i) (ai<|bD q.1.i) .none kV g k h f j) ⟨[a,b,c,d,e].take q.1.ps.length,[]⟩
def znR(q:Dq)(kV g j:nE)(h:Option SA)(f i a b c d e:nE):Sem<|List<|Str×nE:=pure<|q.1.ps.zip<|[a,b,c,d,e].take q.1.ps.length
def acj(K:aT)(L:Pl):Mz->Bool
 |.pl _ _=>G
 |.p1 q _=>decide (q.x∈q.g)
 |.mu q r _ _ _ _=>decide (q.x∈q.g/\r.x∈r.g)
 |.ow q _=>q.us.all<|UM K q<|fA L q.q.i
 |.rw q _ _ _=>q.us.all<|UM K q<|fA L q.q.i
end
section
variable{K:aT}{SK:List Mz}
theorem QW(X:K.In h)(N:h.Ns mainGlobals mg)(A:SK.flatMap Mz.ds=ds)(e0:(ds.map fun q=>(Vk<|bD q.1.i,qn q.1.i))=ds.map fun q=>(q.1.x,q.2.1))(e1:(ds.map fun q=>q.2.2.map<|DO K mainGlobals)=ds.map fun q=>q.2.2.map fun _=>J<|J<|.ref<|fA L q.1.i)
  (e2:(ds.map fun q=>K.lookup<|fA L q.1.i)=ds.map fun q=>J ⟨.type "function",U,.func<|fZ bD qn L q.1.i,#[]⟩) (e3:(ds.map fun q=>(Ea K (.ref<|cA L q.1.i) q.2.1,Xq K<|.ref<|fA L q.1.i))=ds.map fun _=>(G,G))
  (e4:ds.map (znL bD)=ds.map znR) (e5:(ds.map fun q=>decide (q.1.ps.length<=5))=ds.map fun _=>G) (ak1:SK.all (acj K L)=G):∀z∈SK,ZF bD K mg (fA L) (fZ bD qn L) z:=fun z w=>by
 have key:∀q∈z.ds,UD K q.1.x q.2.1 (bD q.1.i) (fA L q.1.i) (fZ bD qn L q.1.i)/\cf K (fZ bD qn L q.1.i) q.1.ps []/\∀x∈q.2.2,mg x=J (.ref<|fA L q.1.i):=fun q f=>by
  have f:q∈ds:=A▸List.mem_flatMap.mpr ⟨z,w,f⟩;have l:=Yj.mp e0 q f;have p:=Yj.mp e2 q f;have t:=Yj.mp e3 q f;have y:=Yj.mp e4 q f;have E:=WI<|Yj.mp e5 q f;have F:UD K q.1.x q.2.1 (bD q.1.i) (fA L q.1.i)<|fZ bD qn L q.1.i:=by
   unfold fZ at p⊢;rw[(eh l).1,(eh l).2]at p⊢;exact Qe p (eh t).1 (eh t).2
  refine⟨F,F.binds fun kV s D B o C us j=>?_,fun x l=>en X N<|Yj.mp (Yj.mp e1 q f) x l⟩;obtain⟨a,b,c,d,e,he⟩:=aaI (by rw[j];exact E);rw[j]at he;rw[he];exact congrFun (congrFun (congrFun (congrFun (congrFun (congrFun (congrFun (congrFun (congrFun (congrFun (congrFun y kV) s) D) B) o) C) a) b) c) d) e
 have k:=Ve.mp ak1 z w;cases z with
 |pl q m=>obtain⟨a,b,c⟩:=key _<|IF.mpr rfl;exact⟨a,b,c⟩
 |p1 q φ=>obtain⟨a,b,c⟩:=key _<|IF.mpr rfl;exact⟨⟨a,b,c⟩,WI k⟩
 |mu q r φ χ Z n=>
  obtain⟨a,b,c⟩:=key (q,q.x,q.g) (by simp[Mz.ds]);obtain⟨a',b',c'⟩:=key (r,r.x,r.g) (by simp[Mz.ds]);obtain⟨u,v⟩:=WI k;exact⟨⟨⟨a,b,c⟩,u⟩,⟨a',b',c'⟩,v⟩
 |ow q ψ=>
  obtain⟨a,b,c⟩:=key _<|IF.mpr rfl;exact⟨a,b,fun u j=>OT X N<|Ve.mp k u j⟩
 |rw q φ Z n=>
  obtain⟨a,b,c⟩:=key _<|IF.mpr rfl;exact⟨a,b,fun u j=>OT X N<|Ve.mp k u j⟩
end
end L2
namespace L2.Go
open PySem
def a8(h:τ Y=.ok G):DA τ S T Y=S Y:=by rw[Tz,h,am,UQ,SI rfl]
def j0(h:τ Y=.ok η):DA τ S T Y=T Y:=by rw[Tz,h,am,UQ,SM MK]
def bu(h:S Y=.ok (.nx δ')):nh S T Y=T δ':=by rw[M8,h,am,QA]
def aS(h:S Y=.ok (.rt d)):nh S T Y=.ok (.rt d):=by rw[M8,h];rfl
def ar(h:φ Y=.ok d):pX φ Y=.ok (.rt d):=by rw[RT,h];rfl
def au(h:φ Y=.ok d):rZ k φ Y=.ok (.nx<|Y.set k<|J d):=by rw[alA,h];rfl
def aq(h:r=.ok (.rt d)):fin r=.ok d:=by rw[h];rfl
def skip(h:τ Y=.ok η):nh (DA τ S ld) T Y=T Y:=bu<|(j0 h).trans rfl
def ac(h:φ Y=.ok d)(h2:α Y=.ok ds):ak φ α Y=.ok (d::ds):=by delta ak;rw[h,h2];rfl
def de(h:α Y=.ok ds)(a:ds.length<=100<|>xI):uD α Y=.ok (.tup ds):=by rw[TgD,h,am,Rp,SI<|⊥]
def mx(h:α Y=.ok ds)(a:ds.length<=100<|>xI):uw α Y=.ok (.lst ds):=by rw[R9,h,am,Qb,SI<|⊥]
def ae(h1:φ Y=.ok a)(h2:ψ Y=.ok b)(h:f a b=.ok c):aH f φ ψ Y=.ok c:=by rw[JU,h1,am,sN,h2,am,h]
def ao(h:φ Y=.ok (.bl b)):dC φ Y=.ok b:=by rw[DP,h];rfl
def af(h:α Y=.ok ds)(a:F ds=r):aI F α Y=r:=by rw[PH,h,am,a]
def gj(h:B (Y.set i<|J x)=.ok (.nx δ')):cZ (.one i) B (x::r) Y=cZ (.one i) B r δ':=by
 rw[sS];have e:iY (.one i) x Y=.ok (Y.set i<|x):=rfl;rw[e,am,Ja,h,am,v9]
def kU(h:ι Y=.ok xs)(a:cZ g B xs Y=.ok (.nx δ')):Hy ι g B Y=.ok (.nx δ'):=by rw[UW,h,am,UV,a]
def HI{τ:FT}{B:FS}{n:Nat}{Y δ':Sd}(h:τ Y=.ok G)(a:B Y=.ok (.nx δ')):cq τ B (n+1) Y=cq τ B n δ':=by
 rw[cq,h,a];rfl
def Nc(h:τ Y=.ok η):cq τ B (n+1) Y=.ok (.nx Y):=by
 rw[cq,h,am,SM MK]
def eV(h:φ Y=.ok d)(a:L4 d=.ok b):lP φ Y=.ok b:=by rw[ac4,h,am,a]
def Fz(h:τ Y=.ok b):qN τ Y=.ok (!b):=by rw[Tm,h];rfl
def qj(h:τ Y=.ok G):qN τ Y=.ok η:=Fz h
def aaU(h:τ Y=.ok η):qN τ Y=.ok G:=Fz h
def P7(h:τ Y=.ok G):KF τ υ Y=.ok G:=by rw[Ss,h];rfl
def lR(h:τ Y=.ok η)(h2:υ Y=.ok b):KF τ υ Y=.ok b:=by rw[Ss,h,am,abF,SM MK,h2]
def kW(h:τ Y=.ok G)(h2:υ Y=.ok b):mQ τ υ Y=.ok b:=by rw[yr,h,am,xh,SI rfl,h2]
def Bu(h:τ Y=.ok η):mQ τ υ Y=.ok η:=by rw[yr,h];rfl
def pH(h:φ Y=.ok (.bl G))(h2:ψ Y=.ok d):GS φ ψ Y=.ok d:=by rw[v_and,h,am,aci,SI rfl,h2]
def yld(h:Y[i]?=J (J<|.lst xs))(a:ε Y=.ok d)(b:xs.length<1000):jP i ε Y=.ok (.nx<|Y.set i<|J<|.lst<|xs++[d]):=by
 delta jP;rw[h];dsimp only;rw[a,am,SI<|⊥]
def T6(h:φ Y=.ok a)(h1:l Y=.ok lo)(h2:u Y=.ok hi)(hd:xo a lo hi=.ok d):Jm xo φ l u Y=.ok d:=by
 rw[SmL,h,am,aaP,h1,am,Fun,h2,am,aa5,hd]
def C4(h:φ Y=.ok (.int i)):gI φ Y=.ok (J i):=by rw[QB,h];rfl
def OY(h:φ Y=.ok d)(a:Aw d=.ok xs):EX φ Y=.ok xs:=by rw[aaO,h,am,a]
def oy(h:ι Y=.ok xs)(a:cF t τ ε (dY ix Y) xs=.ok d):jX ix ι t τ ε Y=.ok d:=by rw[O8,h,am,a]
def lf(h:φ Y=.ok a)(b:cr [a]=.ok d):aI cr (ak φ aQ) Y=.ok d:=af (ac h rfl) b
def abn{β:Type}(f:β->D)(xs:List β){i:Nat}{x:β}(h:xs[i]?=J x):cR (.lst<|xs.map f) (.int (i:Int))=.ok (f x):=UC (xu<|by mright)
def iH(h1:φ Y=.ok (.int i))(h2:ψ Y=.ok (.int j))(h:-(2^64)<j/\j<2^64<|>Sm):aH qX φ ψ Y=.ok (.int<|i*j):=ae h1 h2<|(SI<|.inr h)
def bf(h1:φ Y=.ok (.int i))(h2:ψ Y=.ok (.int j))(h:0<j<|>Sm):aH gk φ ψ Y=.ok (.int<|i%j):=ae h1 h2<|(SI h)
def f6(h1:φ Y=.ok (.int i))(h2:ψ Y=.ok (.int j))(h:0<j/\j<1073741824<|>Sm):aH lO φ ψ Y=.ok (.int<|i/j):=ae h1 h2<|(SI h)
def ir(h1:φ Y=.ok (.int i))(h2:ψ Y=.ok (.int j)):aH eZ φ ψ Y=.ok (.int<|i+j):=ae h1 h2 rfl
def sC(h1:φ Y=.ok (.int i))(h2:ψ Y=.ok (.int j)):aH zI φ ψ Y=.ok (.int<|i-j):=ae h1 h2 rfl
def sV(h1:φ Y=.ok (.int i))(h2:ψ Y=.ok (.int j)):dC (aH jp φ ψ) Y=.ok (decide (i=j)):=ao<|ae h1 h2 zf
def vp(h:τ Y=.ok G)(h2:φ Y=.ok d):MU τ φ ψ Y=.ok d:=by rw[NN,h,am,MH,SI rfl,h2]
def B7(h:τ Y=.ok η)(h2:ψ Y=.ok d):MU τ φ ψ Y=.ok d:=by rw[NN,h,am,MH,SM MK,h2]
theorem wY(h:φ Y=.ok (.bl a))(h2:ψ Y=.ok (.bl b)):GS φ ψ Y=.ok (.bl<|a&&b):=by
 cases a with
 |true=>exact pH h h2
 |false=>exact(by rw[v_and,h];rfl)
def BM(h:φ Y=.ok a)(b:f a=r):zz f φ Y=r:=by delta zz;rw[h];exact b
variable{nl n k:Nat}{ψ:gi}{α:qg}{L μ1 μ2:Rx}
def cL(h:ψ (aZ n Y) L=.rt d μ1)(a:Y.length=k/\L.length=nl<|>xB):bF nl ψ n k Y L=.ok d μ1:=by delta bF;rw[SI a,h]
def jC(h:ψ (aZ n Y) L=.nx δ' μ1)(b:lst nl μ1=μ2<|>Rv)(a:Y.length=k/\L.length=nl<|>xB):bF nl ψ n k Y L=.ok .S9 μ2:=by delta bF;rw[SI a,h,<-b]
def ga(h:ψ (aZ n Y) L=.er x μ1)(a:Y.length=k/\L.length=nl<|>xB):bF nl ψ n k Y L=.er x μ1:=by delta bF;rw[SI a,h]
def eL(h:ψ Y L=.nx δ' μ1)(h2:χ δ' μ1=r):bZ ψ χ Y L=r:=by delta bZ;rw[h];exact h2
def BS(h:ψ Y L=.rt d μ1):bZ ψ χ Y L=.rt d μ1:=by delta bZ;rw[h]
def lh(h:ψ Y L=.er x μ1):bZ ψ χ Y L=.er x μ1:=by delta bZ;rw[h]
def kR(h:τ Y L=.ok G μ1)(h2:ψ Y μ1=r):pf nl τ ψ χ Y L=r:=by delta pf;rw[h];exact h2
def F2(h:τ Y L=.ok η μ1)(h2:χ Y μ1=r):pf nl τ ψ χ Y L=r:=by delta pf;rw[h];exact h2
section
variable{nl n k:Nat}{ψ:gi}{α:qg}{L μ1 μ2:Rx}
def ee(h:φ Y L=.ok d μ1):qM nl i φ Y L=.nx (Y.set i<|J d) μ1:=by unfold qM;rw[h];rfl
end
def Ky(h:φ Y L=.er x μ1)(a:lst nl μ1=μ2<|>Rv):qM nl i φ Y L=.er x μ2:=by subst a;delta qM;rw[h];rfl
def il(h:φ Y L=.ok d μ1):sr nl φ Y L=.nx Y μ1:=by delta sr;rw[h];rfl
def kJ(h:φ Y L=.er x μ1)(a:lst nl μ1=μ2<|>Rv):sr nl φ Y L=.er x μ2:=by subst a;delta sr;rw[h];rfl
def eG(h:φ Y L=.ok d μ1)(a:lst nl μ1=μ2<|>Rv):xz nl φ Y L=.rt d μ2:=by subst a;delta xz;rw[h];rfl
def Cy(h:φ Y L=.er x μ1)(a:lst nl μ1=μ2<|>Rv):xz nl φ Y L=.er x μ2:=by subst a;delta xz;rw[h];rfl
def aN{φ:FE}(h:φ (fill P L Y)=.ok d)(a:Sj d=G<|>Rv):ji P φ Y L=.ok d L:=by delta ji;mright
def qt:ji P (vC d) Y L=.ok d L:=by
 show(if Sj d=G then RM.ok d L else RM.ok d L)=_;split<;>rfl
def aR{τ:FT}(h:τ (fill P L Y)=.ok b):uv P τ Y L=.ok b L:=by delta uv;rw[h]
def B0(h:τ Y L=.ok b μ1):Dc τ Y L=.ok (!b) μ1:=by delta Dc;rw[h];rfl
def FJ(h:τ Y L=.ok G μ1):Dc τ Y L=.ok η μ1:=B0 h
def Hd(h:τ Y L=.ok η μ1):Dc τ Y L=.ok G μ1:=B0 h
def bw(h:φ Y L=.ok (.bl b) μ1):qL φ Y L=.ok b μ1:=by delta qL;rw[h];rfl
def vU(h:τ Y L=.ok G μ1)(h2:υ Y μ1=.ok b μ2):xg τ υ Y L=.ok b μ2:=by delta xg;rw[h];exact h2
def Gh(h:τ Y L=.ok η μ1):xg τ υ Y L=.ok η μ1:=by delta xg;rw[h];rfl
def NZ(h:τ Y L=.ok G μ1):J6 τ υ Y L=.ok G μ1:=by delta J6;rw[h];rfl
def NS(h:τ Y L=.ok η μ1)(h2:υ Y μ1=.ok b μ2):J6 τ υ Y L=.ok b μ2:=by delta J6;rw[h];exact h2
def N3(h:τ Y L=.ok G μ1)(h2:φ Y μ1=r):Nf τ φ φ' Y L=r:=by delta Nf;rw[h];exact h2
def MN(h:τ Y L=.ok η μ1)(h2:φ' Y μ1=r):Nf τ φ φ' Y L=r:=by delta Nf;rw[h];exact h2
def bg(h:φ Y L=.ok d μ1)(h2:α Y μ1=.ok l μ2):aK φ α Y L=.ok (.pl d::l) μ2:=by delta aK;rw[h];show(α Y μ1).bind _=_;rw[h2];rfl
def Bg(h:φ Y L=.er x μ1):aK φ α Y L=.er x μ1:=by delta aK;rw[h];rfl
def O6(h:φ Y L=.ok d μ1)(h2:α Y μ1=.er x μ2):aK φ α Y L=.er x μ2:=by delta aK;rw[h];show(α Y μ1).bind _=_;rw[h2];rfl
def bA(h:α Y L=.ok l μ1):mw k α Y L=.ok (.ob k::l) μ1:=by delta mw;rw[h];rfl
def B5(h:α Y L=.ok l μ1)(b:f8 l=J ds<|>Rv)(a:Nat.ble ds.length 1000000=G<|>Rv):vN α Y L=.ok (.tup ds) μ1:=by delta vN;rw[h];show(match f8 l with|some ds=>_|none=>_)=_;mright
section
variable{nl n k:Nat}{ψ:gi}{α:qg}{L μ1 μ2:Rx}
def ag0(h:α Y L=.er x μ1):vN α Y L=.er x μ1:=by unfold vN;rw[h];rfl
end
def kC(h:F (uB l) ((j4 l).map fun k=>(L[k]?).getD .S9)=.ok d μ1)(a:decide ((j4 l).Nodup/\zw 0 l=Pf)=G<|>Rv):fU Pf F l L=.ok d (putAt (j4 l) μ1 L):=by delta fU;mright
def AW(h:F (uB l) ((j4 l).map fun k=>(L[k]?).getD .S9)=.er x μ1)(a:decide ((j4 l).Nodup/\zw 0 l=Pf)=G<|>Rv):fU Pf F l L=.er x (putAt (j4 l) μ1 L):=by delta fU;mright
def ka(h:F (uB l) ((j4 l).map fun k=>(L[k]?).getD .S9)=.ok d μ1)(a:putAt (j4 l) μ1 L=μ2)(b:decide ((j4 l).Nodup/\zw 0 l=Pf)=G<|>Rv):fU Pf F l L=.ok d μ2:=a▸kC h b
def vS(h:F (uB l) ((j4 l).map fun k=>(L[k]?).getD .S9)=.er x μ1)(a:putAt (j4 l) μ1 L=μ2)(b:decide ((j4 l).Nodup/\zw 0 l=Pf)=G<|>Rv):fU Pf F l L=.er x μ2:=a▸AW h b
def aM(h:α Y L=.ok l μ1)(h2:fU Pf F l μ1=r):dm Pf F α Y L=r:=by delta dm;rw[h];exact h2
def cx(a:zW c m L[k]?=G)(h:α Y L=.ok l μ1)(h2:fU Pf F (.ob k::l) μ1=r):dM k c m Pf F α Y L=r:=by delta dM;rw[a,h];exact h2
def Z63(a:zW c m L[k]?=G)(h:α Y L=.er x μ1):dM k c m Pf F α Y L=.er x μ1:=by delta dM;rw[a,h];rfl
def O0{a:Str}(h:α Y L=.ok l μ1)(c:Nat.ble l.length 10=G<|>Rv)(b:lst nl μ1=μ2<|>Rv):RL nl a α Y L=.er a μ2:=by subst b;delta RL;rw[h];exact SI<|lA c
def jM{r:RS}(h:τ Y L=.ok G μ1)(a:ψ Y μ1=.nx δ' μ2)(h2:bV nl τ ψ n δ' μ2=r):bV nl τ ψ (n+1) Y L=r:=by rw[bV,h];dsimp only[RM.bs];rw[a];exact h2
def qw(h:τ Y L=.ok η μ1):bV nl τ ψ (n+1) Y L=.nx Y μ1:=by rw[bV,h];rfl
def Em(h:τ Y L=.ok G μ1)(a:ψ Y μ1=.er x μ2):bV nl τ ψ (n+1) Y L=.er x μ2:=by rw[bV,h];dsimp only[RM.bs];rw[SI rfl,a]
def ED(h:φ Y L=.ok d μ1)(hs:xM c f d μ1[k]?=J d'):Bs nl k c f φ Y L=.nx Y (μ1.set k d'):=by delta Bs;rw[h];show(match xM c f d μ1[k]? with|some d'=>_|none=>_)=_;rw[hs]
def gG(h:τ Y L=.ok η μ1)(h2:χ Y μ1=r):bZ (pf nl τ ψ qG) χ Y L=r:=eL (F2 h rfl) h2
def D3(h:φ Y L=.ok d μ1)(h2:χ Y μ1=r):bZ (sr nl φ) χ Y L=r:=eL (il h) h2
def HW(h:φ Y L=.er x μ1)(a:lst nl μ1=μ2<|>Rv):bZ (sr nl φ) χ Y L=.er x μ2:=lh<|kJ h a
def iG(h:φ Y L=.ok d μ1)(h2:χ (Y.set i<|J d) μ1=r):bZ (qM nl i φ) χ Y L=r:=eL ((by delta qM;rw[h];rfl)) h2
end L2.Go
namespace L2.Go
open PySem
inductive Q(Z α:Type) where
 |ok (a:α) (s:Z)|er (s:Z)
section
variable{Z α β:Type}
noncomputable def Q.bind(q:Q Z α)(f:α->Z->Q Z β):Q Z β:=match q with
 |.ok a s=>f a s
 |.er s=>.er s
def Q.In(I:Z->Prop):Q Z α->Prop
 |.ok _ s=>I s
 |.er s=>I s
end
section
variable{Z:Type}(x:Str)(e:Z->Rx)(I:Z->Prop)(nl:Nat)
structure EM(a:RM D)(q:Q Z D):Prop where
 eq:a=match q with
  |.ok d s=>.ok d<|e s
  |.er s=>.er x<|e s
 ch:q.In I
structure EA(a:RM (List AD))(q:Q Z (Rx)):Prop where
 eq:a=match q with
  |.ok ds s=>.ok (ds.map .pl)<|e s
  |.er s=>.er x<|e s
 ch:q.In I
structure ES(a:RS)(q:Q Z D):Prop where
 eq:a=match q with
  |.ok d s=>.rt d<|lst nl<|e s
  |.er s=>.er x<|lst nl<|e s
 ch:q.In I
end
section
variable{e:Z->Rx}
def x8{φ:FE}(c:I s)(h:φ (fill P (e s) Y)=.ok d)(a:Sj d=G<|>Rv):EM x e I (ji P φ Y<|e s)<|.ok d s:=⟨aN h a,c⟩
def MG(h:EM x e I a q)(b:q=q'):EM x e I a q':=b▸h
theorem mU{φ:FE}(h:φ (fill P (e s) Y)=.ok d)(a:Sj d=G)(h2:EA x e I (α Y<|e s) q):EA x e I (aK (ji P φ) α Y<|e s)<|q.bind fun ds s=>.ok (d::ds) s:=by
 cases q with
 |er s'=>exact⟨O6 (aN h a) h2.eq,h2.ch⟩
 |ok ds s'=>exact⟨bg (aN h a) h2.eq,h2.ch⟩
theorem ri(h:EM x e I (φ Y L) q):EA x e I (aK φ bj Y L)<|q.bind fun d s=>.ok [d] s:=by
 cases q with
 |er s'=>exact⟨Bg h.eq,h.ch⟩
 |ok d s'=>exact⟨bg h.eq rfl,h.ch⟩
theorem OB(ds:Rx):f8 (ds.map .pl)=J ds:=by
 induction ds with
 |nil=>rfl
 |cons d r a=>show(f8<|r.map .pl).map (d::·)=_;rw[a];rfl
theorem wD(h:EA x e I (α Y L) q)(a:∀ds s,q=.ok ds s->ds.length<=1000):EM x e I (vN α Y L)<|q.bind fun ds s=>.ok (.tup ds) s:=by
 cases q with
 |er s=>exact⟨(by delta vN;rw[h.eq];rfl),h.ch⟩
 |ok ds s=>
  refine⟨?_,h.ch⟩
  have:=a ds s rfl
  exact B5 h.eq (OB ds) (Nat.ble_eq_true_of_le<|⊥)
theorem NF(h:τ Y (e s)=.ok b (e s))(y:b=G->EM x e I (φ Y<|e s) q)(z:b=η->EM x e I (φ' Y<|e s) q):EM x e I (Nf τ φ φ' Y<|e s) q:=by
 cases b with
 |true=>exact⟨N3 h (y rfl).eq,(y rfl).ch⟩
 |false=>exact⟨MN h (z rfl).eq,(z rfl).ch⟩
theorem f7(h:EM x e I (φ Y L) q)(h2:∀d s',q=.ok d s'->I s'->ES x e I nl (χ (Y.set i<|J d)<|e s') (f d s')):ES x e I nl (bZ (qM nl i φ) χ Y L)<|q.bind f:=by
 cases q with
 |er s=>exact⟨lh<|Ky h.eq,h.ch⟩
 |ok d s'=>have g:=h2 d s' rfl h.ch;exact⟨iG h.eq g.eq,g.ch⟩
theorem zk(h:EM x e I (φ Y L) q)(h2:∀d s',q=.ok d s'->I s'->ES x e I nl (χ Y<|e s') (f d s')):ES x e I nl (bZ (sr nl φ) χ Y L)<|q.bind f:=by
 cases q with
 |er s=>exact⟨lh<|kJ h.eq,h.ch⟩
 |ok d s'=>have g:=h2 d s' rfl h.ch;exact⟨D3 h.eq g.eq,g.ch⟩
theorem eS(h:EM x e I (φ Y L) q):ES x e I nl (xz nl φ Y L) q:=by
 cases q with
 |er s=>exact⟨Cy h.eq,h.ch⟩
 |ok d s'=>exact⟨eG h.eq,h.ch⟩
theorem Ik(h:τ Y (e s)=.ok b (e s))(y:b=G->ES x e I nl (ψ Y<|e s) q1)(z:b=η->ES x e I nl (χ Y<|e s) q2):ES x e I nl (bZ (pf nl τ ψ qG) χ Y<|e s)<|if b=G then q1 else q2:=by
 cases b with
 |true=>
  have g:=y rfl;refine⟨?_,g.ch⟩;have e1:=g.eq;cases q1 with
  |ok d s'=>exact BS<|kR h e1
  |er s'=>exact lh<|kR h e1
 |false=>have g:=z rfl;exact⟨gG h g.eq,g.ch⟩
def zD(h:τ Y (e s)=.ok G (e s))(y:ES x e I nl (ψ Y<|e s) q):ES x e I nl (bZ (pf nl τ ψ qG) χ Y<|e s) q:=by
 have:=Ik (χ:=χ) (q2:=q) h (fun _=>y) fun z=>nomatch z
 trivial
def Ek(h:τ Y (e s)=.ok η (e s))(y:ES x e I nl (χ Y<|e s) q):ES x e I nl (bZ (pf nl τ ψ qG) χ Y<|e s) q:=⟨gG h y.eq,y.ch⟩
def Bi{q:Q Z D}(h:EM x e I (φ Y L)<|.er s):ES x e I nl (sr nl φ Y L)<|.er s:=⟨kJ h.eq,h.ch⟩
theorem pW(h:ES x e I nl (ψ (aZ n Y) L) q)(a:Y.length=k/\L.length=nl):EM x (fun s=>lst nl<|e s) I (bF nl ψ n k Y L) q:=by
 cases q with
 |er s=>exact⟨ga h.eq a,h.ch⟩
 |ok d s=>exact⟨cL h.eq a,h.ch⟩
end
end L2.Go
namespace T64
open PySem L2
open PySem L2
noncomputable def bD(i:Nat):SU:=PySem.Challenge.pw_tablestore_k64_brackets_needed.main.body.getD i<|.Pass ⟨0,0,0,0⟩
def tp(i:Nat):SU:=match i/1000 with
 |0=>bD i
 |j+1=>match bD (i%1000)with
  |.ClassDef _ _ _ b _ _ _ _ _ _ _=>b.getD j<|.Pass ⟨0,0,0,0⟩
  |s=>s
def Z25(i:Nat):SH:=((ai<|tp i).names.filter fun q=>q.2==.local||q.2==.cell).map (·.1)
def rD(φ:FS)(p n:Nat):Rx->R D:=gx φ (Ut n "")<|Ut p ""
def df(x:Str)(i p d:Nat):Df:=⟨x,[x],i,Z25 i,p,d,[],[],[],[],1000⟩
def Xy(l x:Str)(i p d:Nat)(P:Ru)(u:List Us):Dm:={q:=df x i p d,ql:=l,P:=P,us:=u}
def WA(x:Str):=Xy x x
noncomputable def lx:List<|Str×D:=[("(",.int 0),("or",.int 1),("and",.int 2),("not",.int 3)]
noncomputable def cT:List<|Str×D:=[("FIGURES",.str "0123456789"),("MOST_FIGURES",.int 18),("NO_NAMES",.tup [.str "and",.str "by",.str "down",.str "from",.str "none",.str "not",.str "or",.str "order",.str "show",.str "take",.str "where"]),("MOST_LETTERS",.int 8),("SIGNS",.tup [.str "<>",.str "<=",.str ">=",.str "<",.str ">",.str "=",.str ",",.str ".",.str "(",.str ")"]),("MOST_SIGNS_asking",.int 900),("MOST_SOURCES",.int 3),("MOST_COLUMNS",.int 8),("MOST_TESTS",.int 20),("MOST_NESTED",.int 20),("TEST_SIGNS",.tup [.str "=",.str "<>",.str "<",.str "<=",.str ">",.str ">="])]
noncomputable def gT:List<|Str×D:=[("read_source",.cls "read_source"),("read_order",.cls "read_order"),("read_column",.cls "read_column")]
noncomputable def yT:List<|Str×D:=[("str",.ty "str"),("int",.ty "int"),("tuple",.ty "tuple"),("bool",.ty "bool")]
def POk(m:Str)(f:Str->Str->Int->D):Fm:=S5 m 2<|QL f
def tB:Tb:=⟨[VB,RY "len" cr,RY "tuple" wf,yc .Add eZ,yc .Sub zI,yc .Mult qX,yc .FloorDiv lO,yc .Mod gk,gH .Eq jp iK,gH .NotEq xF iK,gH .Lt zF iK,gH .LtE Mp iK,gH .Gt Ed iK,gH .GtE C9 iK,gH .Is OU iK,gH .IsNot rX iK,gH .In rE iK,gH .NotIn mI iK,XG "BINDING" lx,Jj,Zs cR iK,X8 xo,SJ,LC,uo "Reader" "text",uo "Reader" "word",uo "Reader" "tests",uo "Reader" "nested",uo "Piles" "trees",uo "Piles" "waiting",fB "len" cr,fB "isinstance" LP,fB "all" Dd,fB "sum" E4,fB "tuple" wf,fB "int" J8,fB "str" CO,WW .USub QN,Jh,S5 "count" 1<|Ly fun x y=>.int<|ls x y,S5 "find" 1<|Ly fun x y=>.int<|Dx x y,S5 "startswith" 1<|Ly fun x y=>.bl<|pQ x y,POk "startswith" fun x y i=>.bl<|HV x y i,Yh],[LC],[fQ<|gH .Eq jp iK,fQ<|gH .NotEq xF iK,fQ<|gH .Lt zF iK,fQ<|gH .LtE Mp iK,fQ<|gH .Gt Ed iK,fQ<|gH .GtE C9 iK,fQ<|gH .Is OU iK,fQ<|gH .IsNot rX iK,fQ<|gH .In rE iK,fQ<|gH .NotIn mI iK],[fI "range" 1 η p9,fI "range" 2 η t9,fI "zip" 2 G EU],[XZ,Z8 "append" jP,P4,NW,XU],yT++(gT++cT),[],[],[],1000⟩
def tE:List Fm:=[fB "int" xK]
def aC:Ac:=⟨[],[],[],[],0,[]⟩
def Pr{α:Type}(_ _:Option α):Prop:=True
def U9{α:Type}{x:α}:Pr (J x)<|J x:=Uy
abbrev gt(i:Option FS){x:FS}(_:Pr i<|J x):FS:=x
abbrev lQ(i:Option gi){x:gi}(_:Pr i<|J x):gi:=x
abbrev Fd:=Rx->R D
def YF(_ _:Fd->Option FS):Prop:=True
def afm{x:Fd->FS}:YF (fun F=>J<|x F) (fun F=>J<|x F):=Uy
abbrev Zb(i:Fd->Option FS){x:Fd->FS}(_:YF i fun F=>J<|x F):Fd->FS:=x
def Y1(_ _:Fd->Fd->Option FS):Prop:=True
def tbl{x:Fd->Fd->FS}:Y1 (fun F SK=>J<|x F SK) (fun F SK=>J<|x F SK):=Uy
abbrev VX(i:Fd->Fd->Option FS){x:Fd->Fd->FS}(_:Y1 i fun F SK=>J<|x F SK):Fd->Fd->FS:=x
def ad(q:Df)(F:Fd)(A:List<|Nat×Fm)(n:Nat:=1):List<|Nat×Fm:=q.g.map (fun x=>(q.d+n,bX x F))++A
def uA(q:Dm)(F:FM)(A:Ac):Ac:=q.us.foldl (PY q F) A
def aX(q:Df)(F:Fd)(A:Ac):Ac:={A with x:=ad q F A.x}
def bo(A:Ac)(q:Df)(s:List Fm:=[]):Option FS:=dF tp (UX tB tE A.x q s) q
def xY(A:Ac)(q:Df)(F:Fd):Option FS:=dF tp (UX tB tE A.x q<|q.g.map fun x=>bX x F) q
def VR(A:Ac)(q r s:Df)(F SK:Fd):Option FS:=dF tp (UX tB tE A.x s [bX q.x F,bX r.x SK]) s
def HQ(_ _:FM->Option gi):Prop:=True
def aiX{x:FM->gi}:HQ (fun F=>J<|x F) (fun F=>J<|x F):=Uy
abbrev gtr(i:FM->Option gi){x:FM->gi}(_:HQ i fun F=>J<|x F):FM->gi:=x
def cU:Df:=df "no_word" 24 1 0
def kP:Df:=df "_law_cell_at" 57 2 0
def oM:Df:=df "_law_mixed" 58 2 0
def pe:Df:=df "_law_whole" 56 1 0
def uj:Df:=df "_law_same" 62 2 1
def tI:Df:=df "_law_name" 59 1 0
def pD:Df:=df "_law_value" 60 2 0
def ki:Df:=df "_law_side_by" 63 2 1
def iI:Df:={df "_law_condition" 64 3 2 with m:=["_law_pile"]}
def pV:Df:=df "_law_level" 65 1 0
def g9:Df:=df "_law_written" 61 1 0
def sx:Df:=df "_law_side" 66 1 1
def dJ:Df:=df "_law_within" 67 2 2
def jd:Df:=df "_law_plain" 68 1 2
def kH:Df:=df "is_letter" 20 1 0
def pL:Df:=df "is_name" 19 1 1
def jQ:Df:={df "letters_at" 25 2 2 with w:=100000}
def fw:Dm:={q:={df "read_number" 15 1 0 with e:=[0]},ql:="read_number",P:=[],us:=[.fn]}
def gl:=WA "read_value" 13 1 1 [] [.fn]
def jN:=WA "value_at" 26 4 2 [] [.pl]
def iA:Df:={df "figures_end" 27 2 0 with w:=100000}
def oW:Df:=df "sign_at" 29 2 1
def oY:Df:={df "word_at" 23 2 3 with w:=100000}
def iu:Df:=df "word_within" 38 2 4
def fv:=Xy "Reader.__init__" "__init__" 1037 2 5 [0] [.nw "Reader"]
def nF:=WA "refuse" 39 1 0 [0] [.fn]
def dz:=Xy "Reader.stands" "stands" 3037 3 0 [0] [.mt "Reader"]
def fk:=Xy "Reader.step" "step" 2037 1 5 [0] [.mt "Reader"]
def nI:=WA "passed" 42 3 6 [0] [.fn]
def wZ:=WA "need" 43 3 7 [0] [.fn]
def gQ:=WA "read_kind" 44 2 6 [0] [.fn]
def fF:=WA "read_source" 46 1 7 [0] [.fn,.vl]
def fD:=WA "read_column" 49 1 8 [0] [.fn,.vl]
def gh:=WA "read_order" 48 1 9 [0] [.fn,.vl]
def jS:Dm:={q:=df "read_row" 45 3 10,ql:="read_row",P:=[0],us:=[.fn],ow:=["things"]}
def fz:=WA "read_orders" 47 1 11 [0] [.fn]
def g8:=WA "read_take" 50 1 7 [0] [.fn]
def gg:=Xy "Piles.__init__" "__init__" 1006 1 0 [0] [.nw "Piles"]
def d7:=Xy "Piles.settle" "settle" 8006 2 0 [0] [.mt "Piles"]
def fG:=Xy "Piles.whole" "whole" 7006 1 1 [0] [.mt "Piles"]
def cG:=Xy "Piles.add_joint" "add_joint" 4006 2 1 [0] [.mt "Piles"]
def b7:=Xy "Piles.has_bracket" "has_bracket" 6006 1 0 [0] [.mt "Piles"]
def bK:=Xy "Piles.close_bracket" "close_bracket" 5006 1 1 [0] [.mt "Piles"]
def cX:=Xy "Piles.add_word" "add_word" 2006 2 0 [0] [.mt "Piles"]
def cY:=Xy "Piles.add_tree" "add_tree" 3006 2 0 [0] [.mt "Piles"]
def d8:=WA "read_operand" 54 1 9 [0] [.fn]
def gX:=WA "read_test" 53 1 10 [0] [.fn]
def ia:=WA "read_side" 52 2 11 [0,1] [.fn]
def cV:=WA "read_condition" 51 1 12 [0] [.fn]
def du:=WA "read_question" 41 1 13 [0] [.fn,.mk "Reader"]
def wy:=WA "read" 40 1 14 [] [.fn]
def nS:=WA "_law_read" 69 1 15 [] [.pl]
def js:Df:=df "_law_partner" 70 2 0
def fo:Df:=df "_law_test_ends" 71 1 102
def u0:Df:=df "_law_many" 72 1 0
def fC:=WA "_law_more" 73 3 102 [2] [.fn]
def vK:Df:=df "law" 74 1 202
local macro_rules|`(tactic|walk_at "e1")=>`(tactic|dsimp only[g0,g1,g2,aL,OD,SR,oP,Md,uq,l3,Mf,↓reduceIte])
local macro_rules|`(tactic|walk_at "e2")=>`(tactic|dsimp only[Xy,WA,cG,cY,cX,bK,b7,gg,d7,fG,fv,dz,fk,fC,nS,wZ,nI,wy,fD,cV,gQ,fw,d8,gh,fz,du,jS,ia,fF,g8,gX,gl,nF,jN,g0,g1,g2,aL,OD,SR,oP,Md,df,RO,uq,l3,Mf,↓reduceIte])
local macro_rules|`(tactic|walk_at "kq")=>`(tactic|(refine (?f:?a->?a) ?p;(case p=>(conv=>arg 1;whnf);walk_at "e2";exact U9);exact fun _=>Uy))
local macro_rules|`(tactic|walk_at "kr")=>`(tactic|(refine (?f:?a->?a) ?p;(case p=>(conv=>arg 1;ext F;whnf);walk_at "e2";exact aiX);exact fun _=>Uy))
local macro_rules|`(tactic|walk_at "m")=>`(tactic|(refine (?f:?a->?a) ?p;(case p=>(conv=>arg 1;whnf);walk_at "e1";exact U9);exact fun _=>Uy))
local macro_rules|`(tactic|walk_at "n")=>`(tactic|(refine (?f:?a->?a) ?p;(case p=>(conv=>arg 1;ext F;whnf);walk_at "e1";exact afm);exact fun _=>Uy))
local macro_rules|`(tactic|walk_at "n2")=>`(tactic|(refine (?f:?a->?a) ?p;(case p=>(conv=>arg 1;ext F SK;whnf);walk_at "e1";exact tbl);exact fun _=>Uy))
def pq:=gt (bo aC cU) #[19]
def oV:=rD pq 1 1
def A1:=aX cU oV aC
def Ts:Ug:=⟨[YI,aac,WX "Piles" "waiting",WX "Piles" "trees"],[Wm "Piles" "waiting",Wm "Piles" "trees"],[VY "Piles" "trees",VY "Piles" "waiting",VI "Reader" "tests",VI "Reader" "nested",VQ "BadValue",VQ "BadQuestion",YR "read_text"],[(0,RK "Reader" "text"),(0,RK "Reader" "word"),(0,RK "Reader" "tests"),(0,RK "Reader" "nested"),(1,VF "BadValue" (JD ["BadValue"]) ⟨[],[("no_word",oV)]⟩),(0,VF "BadQuestion" (JD ["BadQuestion"]) ⟨[],[]⟩),(0,Hn)]⟩
def bm(A:Ac)(q:Dm):Option gi:=Ce tp (RO tB tE Ts A q) q
def bmr(A:Ac)(q:Dm)(F:FM):Option gi:=Ce tp (RO tB tE Ts A q [Zy q.q.x q.P F]) q
def qi:=gt (bo A1 kP) #[19]
def gV:=rD qi 2 2
def A2:=aX kP gV A1
def u3:=gt (bo A2 oM) #[19]
def iZ:=rD u3 2 3
def A3:=aX oM iZ A2
def uL:=gt (bo A3 pe) #[19]
def Di:=rD uL 1 1
def A4:=aX pe Di A3
def nO:=Zb (xY A4 uj) (by walk_at "n")
def cb:Nat->(Rx->R D)
 |0=>fun _=>.no
 |n+1=>rD (nO<|cb n) 2 4
def yZ:=cb 100
def A5:Ac:={A4 with x:=ad uj yZ A4.x 100}
def tS:=gt (bo A5 tI) #[19]
def zo:=rD tS 1 3
def A6:=aX tI zo A5
def gm:=gt (bo A6 pD) #[19]
def uU:=rD gm 2 2
def A7:=aX pD uU A6
def qI:=gt (bo A7 ki) #[19]
def qH:=rD qI 2 2
def A8:=aX ki qH A7
def iB:=gt (bo A8 iI) #[19]
def ij:=rD iB 3 9
def A9:=aX iI ij A8
def vF:=gt (bo A9 pV) #[19]
def uW:=rD vF 1 1
def Zn:=aX pV uW A9
def kc:=gt (bo Zn g9) #[19]
def qJ:=rD kc 1 1
def Y9:=aX g9 qJ Zn
def yt:=gt (bo Y9 sx) #[19]
def oj:=rD yt 1 1
def Zx:=aX sx oj Y9
def sd:=VX (VR Zx dJ jd dJ) (by walk_at "n2")
def iO:=VX (VR Zx dJ jd jd) (by walk_at "n2")
def bt:Nat->(Rx->R D)×(Rx->R D)
 |0=>(fun _=>.no,fun _=>.no)
 |n+1=>(rD (sd (bt n).1 (bt n).2) 2 2,rD (iO (bt n).1 (bt n).2) 1 2)
def agf:=(bt 100).1
def vd:=(bt 100).2
def Z6:Ac:={Zx with x:=(dJ.d+100,bX dJ.x agf)::(dJ.d+100,bX jd.x vd)::Zx.x}
def qF:=gt (bo Z6 kH) #[19]
def fJ:=rD qF 1 1
def ZL:=aX kH fJ Z6
def uX:=gt (bo ZL pL) #[19]
def uJ:=rD uX 1 1
def YC:=aX pL uJ ZL
def jU:=gt (bo YC jQ) #[19]
def jK:=rD jU 2 4
def Jb:=aX jQ jK YC
def mr:=lQ (bm Jb fw) #[7]
def l9:FM:=bF 0 mr 2 1
def Zp:=uA fw l9 Jb
def nH:=lQ (bm Zp gl) #[7]
def nz:FM:=bF 0 nH 1 1
def YL:=uA gl nz Zp
def se:=lQ (bm YL jN) #[7]
def mG:FM:=bF 0 se 4 4
def JM:=uA jN mG YL
def lX:=gt (bo JM iA) #[19]
def lV:=rD lX 2 3
def ZY:=aX iA lV JM
def uR:=gt (bo ZY oW) #[19]
def vh:=rD uR 2 3
def YV:=aX oW vh ZY
def pI:=gt (bo YV oY) #[19]
def lK:=rD pI 2 4
def Zk:=aX oY lK YV
def mi:=gt (bo Zk iu) #[19]
def dt:=rD mi 2 3
def YJ:=aX iu dt Zk
def lZ:=lQ (bm YJ fv) #[7]
def bE:FM:=bF 1 lZ 2 2
def ZH:=uA fv bE YJ
def zj:=lQ (bm ZH nF) #[7]
def iX:FM:=bF 1 zj 2 1
def Yi:=uA nF iX ZH
def jY:=lQ (bm Yi dz) #[7]
def bO:FM:=bF 1 jY 3 3
def JR:=uA dz bO Yi
def mn:=lQ (bm JR fk) #[7]
def fm:FM:=bF 1 mn 1 1
def ZE:=uA fk fm JR
def zu:=lQ (bm ZE nI) #[7]
def fR:FM:=bF 1 zu 3 3
def Y5:=uA nI fR ZE
def F4:=lQ (bm Y5 wZ) #[7]
def Ff:FM:=bF 1 F4 3 3
def YG:=uA wZ Ff Y5
def qE:=lQ (bm YG gQ) #[7]
def fO:FM:=bF 1 qE 3 2
def YE:=uA gQ fO YG
def mj:=lQ (bm YE fF) #[7]
def iz:FM:=bF 1 mj 3 1
def YT:=uA fF iz YE
def mq:=lQ (bm YT fD) #[7]
def io:FM:=bF 1 mq 2 1
def ZN:=uA fD io YT
def m9:=lQ (bm ZN gh) #[7]
def dcf:FM:=bF 1 m9 2 1
def ZM:=uA gh dcf ZN
def sI:=lQ (bm ZM jS) #[7]
def sF:FM:=bF 1 sI 4 3
def YH:=uA jS sF ZM
def lW:=lQ (bm YH fz) #[7]
def acg:FM:=bF 1 lW 1 1
def Zh:=uA fz acg YH
def qC:=lQ (bm Zh g8) #[7]
def qA:FM:=bF 1 qC 1 1
def Z7:=uA g8 qA Zh
def ou:=lQ (bm Z7 gg) #[7]
def ni:FM:=bF 1 ou 1 1
def JJ:=uA gg ni Z7
def ln:=lQ (bm JJ d7) #[7]
def kh:FM:=bF 1 ln 5 2
def ZX:=uA d7 kh JJ
def me:=lQ (bm ZX fG) #[7]
def ads:FM:=bF 1 me 1 1
def YQ:=uA fG ads ZX
def hV:=lQ (bm YQ cG) #[7]
def dX:FM:=bF 1 hV 2 2
def Y3:=uA cG dX YQ
def ge:=lQ (bm Y3 b7) #[7]
def dh:FM:=bF 1 ge 1 1
def YK:=uA b7 dh Y3
def eR:=lQ (bm YK bK) #[7]
def cB:FM:=bF 1 eR 1 1
def YA:=uA bK cB YK
def iQ:=lQ (bm YA cX) #[7]
def eX:FM:=bF 1 iQ 2 2
def X2:=uA cX eX YA
def jk:=lQ (bm X2 cY) #[7]
def jc:FM:=bF 1 jk 2 2
def Ze:=uA cY jc X2
def li:=lQ (bm Ze d8) #[7]
def cI:FM:=bF 1 li 1 1
def Zc:=uA d8 cI Ze
def qK:=lQ (bm Zc gX) #[7]
def qD:FM:=bF 1 qK 3 1
def V1:=uA gX qD Zc
def qz:=lQ (bm V1 ia) #[7]
def gY:FM:=bF 2 qz 2 2
def Y4:=uA ia gY V1
def jl:=lQ (bm Y4 cV) #[7]
def iS:FM:=bF 1 jl 2 1
def Ji:=uA cV iS Y4
def j6:=lQ (bm Ji du) #[7]
def bN:FM:=bF 1 j6 6 1
def Zq:=uA du bN Ji
def Fa:=lQ (bm Zq wy) #[7]
def wm:FM:=bF 0 Fa 1 1
def Zu:=uA wy wm Zq
def xP:=lQ (bm Zu nS) #[7]
def kx:FM:=bF 0 xP 1 1
def Yw:=uA nS kx Zu
def dn:=gt (bo Yw js) #[19]
def i6:=rD dn 2 4
def YM:=aX js i6 Yw
def bp:=Zb (xY YM fo) (by walk_at "n")
def ba:Nat->(Rx->R D)
 |0=>fun _=>.no
 |n+1=>rD (bp<|ba n) 1 1
def ez:=ba 100
def ZI:Ac:={YM with x:=ad fo ez YM.x 100}
def ll:=Zb (xY ZI u0) (by walk_at "n")
def cp:Nat->(Rx->R D)
 |0=>fun _=>.no
 |n+1=>rD (ll<|cp n) 1 1
def K2:=cp 100
def Zt:Ac:={ZI with x:=ad u0 K2 ZI.x 100}
def K4:=gtr (bmr Zt fC) (by walk_at "kr")
def cw:Nat->FM
 |0=>fun _ _=>.no
 |n+1=>bF 1 (K4<|cw n) 5 3
def K3:=cw 100
def Xcx:Ac:={Zt with x:=(fC.q.d+100,z5 fC.q.x K3)::Zt.x}
def yq:=gt (bo Xcx vK) #[19]
def Cj:=rD yq 1 12
def SK:List Mz:=
 .pl cU (.pl pq)::
 .pl kP (.pl qi)::
 .pl oM (.pl u3)::
 .pl pe (.pl uL)::
 .pl uj (.rc nO cb 100)::
 .pl tI (.pl tS)::
 .pl pD (.pl gm)::
 .pl ki (.pl qI)::
 .pl iI (.pl iB)::
 .pl pV (.pl vF)::
 .pl g9 (.pl kc)::
 .pl sx (.pl yt)::
 .mu dJ jd sd iO bt 100::
 .pl kH (.pl qF)::
 .pl pL (.pl uX)::
 .pl jQ (.pl jU)::
 .ow fw mr::
 .ow gl nH::
 .ow jN se::
 .pl iA (.pl lX)::
 .pl oW (.pl uR)::
 .pl oY (.pl pI)::
 .pl iu (.pl mi)::
 .ow fv lZ::
 .ow nF zj::
 .ow dz jY::
 .ow fk mn::
 .ow nI zu::
 .ow wZ F4::
 .ow gQ qE::
 .ow fF mj::
 .ow fD mq::
 .ow gh m9::
 .ow jS sI::
 .ow fz lW::
 .ow g8 qC::
 .ow gg ou::
 .ow d7 ln::
 .ow fG me::
 .ow cG hV::
 .ow b7 ge::
 .ow bK eR::
 .ow cX iQ::
 .ow cY jk::
 .ow d8 li::
 .ow gX qK::
 .ow ia qz::
 .ow cV jl::
 .ow du j6::
 .ow wy Fa::
 .ow nS xP::
 .pl js (.pl dn)::
 .pl fo (.rc bp ba 100)::
 .pl u0 (.rc ll cp 100)::
 .rw fC K4 cw 100::
 .pl vK (.pl yq)::[]
open PySem L2
noncomputable def af9:SH:=["isinstance","str","all","len","bool","int","sum","range","tuple","zip"]
structure Hz(w:Sl)(K:aT)(mg:Sq)(x:Str)(tab:List (Str×D)):Prop where
 ex:∃a es n,mg x=J (.ref a)/\K.lookup a=J ⟨.type "dict",U,.dict es n,#[]⟩/\ue w.params es.toList/\∀y d,tab.lookup y=J d->∃v u,DO K a y=J (J u)/\aP v u/\∀H,bQ K H d v
def UY(K:aT)(n:Str)(fs:SH):Prop:=∃C,DO K mainGlobals n=J #[14]/\UR K C/\∀f∈fs,a9 K C f
def Qq(K:aT)(mg:Sq)(n:Str):Prop:=∃C,mg n=J (.ref C)/\ek K C Gj "ValueError.__new__"=G/\LL K mg (JD [n]) C
structure Txt(w:Sl)(K:aT)(mg:Sq):Prop where
 co:∀q∈cT,UO K mg q
 z:∀x∈af9,mg x=U
 d1:Hz w K mg "BINDING" lx
 rd:UY K "Reader" ["text","word","tests","nested"]
 pi:UY K "Piles" ["trees","waiting"]
 bv:Qq K mg "BadValue"
 aaX:Qq K mg "BadQuestion"
 gs:∀q∈gT,∃C,mg q.1=J (.ref C)/\DO K mainGlobals q.1=J #[14]/\q.2=.cls q.1
 nw:∃f fd,eB tp K mg cU f fd
section
variable{P:Tc}{w:Sl}{K:aT}{mg:Sq}{base:Heap}(T:Txt w K mg)
include T
omit T in
theorem bG{α:Type}{p:α->Prop}{a:α}{l:List α}(h:p a)(r:∀x∈l,p x):∀x∈a::l,p x:=List.forall_mem_cons.mpr ⟨h,r⟩
omit T in
theorem dbg:∀q∈cT,(q.1==#[20])=η:=⊤
omit T in
theorem ad0:∀q∈gT,(q.1==#[20])=η:=⊤
theorem Yu{Y:Cx}{k:Nat}(y:FY Y P w K mg base k):Vu Y ⟨K,mg,E0⟩ tB/\∀f∈tE,dr Y ⟨K,mg,E0⟩ f:=by
 obtain⟨e1,e2,e3,e4,e5,hr,cm⟩:=y;subst e1 e2 e3 e4 e5;have y:FY Y Y.prog Y.w Y.K Y.mg Y.base k:=⟨rfl,rfl,rfl,rfl,rfl,hr,cm⟩;have d:∀q∈yT,yy Y ⟨Y.K,Y.mg,E0⟩ q.1 q.2:=(bG (vt (T.z _<|∎) Hw)<|bG (vt (T.z _<|∎) zP)<|bG (vt (T.z _<|∎) sU)<|bG (vt (T.z _<|∎) (⊤)) (fun _ h=>nomatch h))
 have b:∀q∈gT,yy Y ⟨Y.K,Y.mg,E0⟩ q.1 q.2:=fun q h=>by
  obtain⟨C,z1,z2,z3⟩:=T.gs q h;rw[z3];exact fun O p b=>acn z1 z2 b<|ad0 q h
 obtain⟨a1,es1,n1,c1,l1,h1,v1⟩:=T.d1;obtain⟨CR,r1,r2,r3⟩:=T.rd;obtain⟨CP,p1,p2,p3⟩:=T.pi;have fl:∀f∈(["text","word","tests","nested"]:SH),dr Y ⟨Y.K,Y.mg,E0⟩<|uo "Reader" f:=fun f a=>Co r1 r2 (r3 f a) rfl;have c:∀f∈(["trees","waiting"]:SH),dr Y ⟨Y.K,Y.mg,E0⟩<|uo "Piles" f:=fun f a=>Co p1 p2 (p3 f a) rfl;exact⟨⟨(bG (LD rfl)<|bG (Jc (T.z _<|∎) rfl)<|bG (Fe (T.z _<|∎) rfl)<|bG (lr Xr U2)<|bG (lr (aa3)<|(by
     intro as H x y a b Q e d c h;unfold zI at h;cbv
     .cases d;cases c;exact ax h rfl
     .mleft))<|bG (lr (((Q0.or AN).imp fun x y H Q q=>by
     unfold MF at q;split at q
     .exact .inl ⟨_,_,rfl,rfl,q.1,q.2⟩
     .mright
     .exact q.elim))<|byt)<|bG (lr (aaM)<|(by
     intro as H x y a b Q e d c h;unfold lO at h;cbv
     .cases d;cases c;cbv
      .rename_i hl;exact⟨hl,ax h rfl⟩
      .mleft
     .mleft))<|bG (lr (nrc)<|(by
     intro as H x y a b Q e d c h;unfold gk at h;cbv
     .cases d;cases c;cbv
      .rename_i hl;exact⟨hl,ax h rfl⟩
      .mleft
     .mleft))<|bG ((bz (UJ _ y.hr.units)<|IJ _).1)<|bG ((bz (TR _ y.hr.units)<|Z0 _).1)<|bG ((bz ZV Z5).1)<|bG ((bz Zd ZC).1)<|bG ((bz YY ZG).1)<|bG ((bz Y0 YO).1)<|bG ((bz Zi YX).1)<|bG ((bz Gu Fj).1)<|bG ((bz (TC _)<|Zj _).1)<|bG ((bz (Ca _)<|Ht _).1)<|bG (Ir c1 l1 h1 v1)<|bG (Oa<|Nat.lt_of_le_of_lt (Nat.add_le_add_left ∎ _) y.hr.units)<|bG ((fun c hd => P6 fun O a b pos φ ψ hs h1 h2=>Tj c hd h1 h2<|ym hs) (WL _)<|YZ _)<|bG (QZ (QD.or ah5) (by
     intro as H x lo e a Q d c h;unfold xo at h;cbv
     .cases c;cbv
      .rename_i hl;exact .inl ⟨_,rfl,RW hl ck,ax h rfl⟩
      .mleft
     .obtain⟨p,vs,rfl,q1,q2⟩:=c;cbv
      .mleft
      .rename_i hc;rw[q2.len]at hc;exact .inr ⟨p,vs,rfl,(aD _ _).Wt q1,hc,fun p b=>h _ _ (bR b _) ⟨p,_,rfl,.inl<|.inl<|by rw[av<|d p b];exact aE,(q2.cut lo e).mono<|aA<|bR b _⟩⟩
     .mleft))<|bG ((fun O e es b c h a=>by
     unfold SJ at h;cbv
     .cbv
      .rename_i hq;nofun;exact NQ<|xS a hq
      .nofun
     .nofun))<|bG (Bq.m)<|bG (fl _<|∎)<|bG (fl _<|∎)<|bG (fl _<|∎)<|bG (fl _<|∎)<|bG (c _<|∎)<|bG (c _<|∎)<|bG (sW (U1 _) (abl _) (T.z _<|∎) EH)<|bG (sW (frz _) (ab8 _) (T.z _<|∎) (⊤))<|bG (sW (EB _ y.cm.1) (WF _) (T.z _<|∎) (⊤))<|bG (sW (agm y.cm.1) (by
     intro as H xs ds Q b a h;unfold E4 at h;cbv
     .obtain⟨v,rfl,d1⟩:=gy a;obtain⟨p,vs,rfl,q1,q2⟩:=d1;cbv
      .rename_i is e;refine⟨is,?_,ax h rfl⟩;rw[<-abX q2 e];exact(aD _ _).seq q1
      .mleft
     .mleft) (T.z _<|∎) rfl)<|bG (wH (HC _) (abD _) (T.z _<|∎) sU)<|bG (wH Z06 (by
     intro as H xs ds Q b a h;unfold J8 at h;cbv
     .obtain⟨v,rfl,d1⟩:=gy a;cases d1;exact ax h rfl
     .obtain⟨v,rfl,d1⟩:=gy a;cases d1;exact ax h rfl
     .mleft) (T.z _<|∎) zP)<|bG (wH afz (by
     intro as H xs ds Q b a h;unfold CO at h;cbv
     .obtain⟨v,rfl,d1⟩:=gy a;cases d1;cbv
      .rename_i hl;exact⟨hl,ax h rfl⟩
      .mleft
     .mleft) (T.z _<|∎) Hw)<|bG (QU adz (by
     intro as H x a Q b h;unfold QN at h;cbv
     .cases b;exact ax h rfl
     .mleft))<|bG ((fun O e es b c h a=>by
     unfold Jh at h;cbv
     .nofun;obtain⟨φ,rfl,h1⟩:=yN a;exact Xax h1
     .nofun;obtain⟨φ,rfl,h1⟩:=yN a;exact abb h1
     .nofun;obtain⟨φ,ψ,rfl,h1,h2⟩:=Kp a;exact Uf h1 h2
     .nofun;obtain⟨φ,ψ,rfl,h1,h2⟩:=Kp a;exact abJ h1 h2
     .nofun))<|bG (uc PySem.F.slot_str_count PySem.F.type_str_count agG (by
     intro as H z xs ds Q b a h;unfold Ly at h;cbv
     .obtain⟨v,rfl,d1⟩:=gy a;cases d1;exact ax h rfl
     .mleft))<|bG (uc OV PySem.F.type_str_find ahc (by
     intro as H z xs ds Q b a h;unfold Ly at h;cbv
     .obtain⟨v,rfl,d1⟩:=gy a;cases d1;exact ax h rfl
     .mleft))<|bG (uc x5 MD ut (by
     intro as H z xs ds Q b a h;unfold Ly at h;cbv
     .obtain⟨v,rfl,d1⟩:=gy a;cases d1;exact ax h rfl
     .mleft))<|bG (uc x5 MD (by
     intro aa s Z H z t xs us Q I r h;unfold Ww at h;cbv
     .obtain⟨u,w,rfl,⟨t1,rfl⟩,⟨t2,rfl⟩⟩:=ya r;exact call_gives x5 (typeIs_str _ _ _) PySem.F.entry_str_startswith (PySem.F.args_str_startswith_3 _ _ _) (gives_str_startswith_from z _ _ t t1 t2) ⟨.bl _,H,I,rfl,h⟩
     .mleft) (tq6 fun _ _ _ _ _=>rfl))<|bG Oi (fun _ h=>nomatch h)),
  (bG (Bq) (fun _ h=>nomatch h)),(bG ((bz (UJ _ y.hr.units)<|IJ _).2)<|bG ((bz (TR _ y.hr.units)<|Z0 _).2)<|bG ((bz ZV Z5).2)<|bG ((bz Zd ZC).2)<|bG ((bz YY ZG).2)<|bG ((bz Y0 YO).2)<|bG ((bz Zi YX).2)<|bG ((bz Gu Fj).2)<|bG ((bz (TC _)<|Zj _).2)<|bG ((bz (Ca _)<|Ht _).2) (fun _ h=>nomatch h)),
  (bG ((fun e => Ng fun O g es p pos α b d hs _ c=>by
      match es,b with
      |[a],_=>exact DF e c d (by simpa using hs)) (T.z _ ∎)) (bG ((fun f => Ng fun O g es p pos α c e hs _ d=>by
      match es,c with
      |[a,b],_=>
       have hs  := by simpa using hs
       exact agb f d e (by rw[bC hs.1,bC hs.2];rfl) (by rw[bC hs.2];rfl)) (T.z _ ∎)) (bG (Fk (T.z _ ∎) rfl) (fun _ h=>nomatch h)))),(bG (PV rfl) (bG ((Ox fun Ob O i x e p1 apos cpos pos φ h1 h2 g a h c b d=>Da h2 d h1 c b g a h rfl rfl rfl)) (bG (J4) (bG ((fun Ob O s es b d h a=>by
      mstop
      obtain⟨e,c,h⟩:=h;obtain⟨_,rfl⟩:=NR c;cbv
      .nofun
      .rename_i hc;nofun;obtain⟨φ,rfl,h2⟩:=yN a;exact Mo h2<|jH (Wc.mpr hc) _ _ _)) (bG (fun Ob O s es b a h _=>by
      unfold XU at h;cbv
      .nofun;exact aiy
      .nofun) (fun _ h=>nomatch h)))))),fun q h=>(BY.mp h).elim (d q) (fun h=>(BY.mp h).elim (b q) fun h=>let⟨v,u,h1,h2,h3,_⟩:=T.co q h;abS h1 h2 h3 (dbg q h))⟩,(bG (wH (by
      intro aa s Z H xs us Q I r h;unfold MY at h;cbv
      .obtain⟨u,rfl,t,rfl⟩:=jV r;obtain⟨n,h1,h2,h3⟩:=h;exact PySem.W.KIN.call_text h1 h2 ⟨.int _,H,I.tok _,⟨_,rfl⟩,h3⟩
      .mleft) atI (T.z _ ∎) zP) (fun _ h=>nomatch h))⟩
theorem hU:k6 P w K mg base Ts:=by
 obtain⟨CR,r1,r2,r3⟩:=T.rd;obtain⟨CP,p1,p2,p3⟩:=T.pi;obtain⟨CV,v1,v2,v3⟩:=T.bv;obtain⟨CQ,q1,q2,q3⟩:=T.aaX;obtain⟨f,fd,N⟩:=T.nw;refine⟨bG Pu<|bG (fun Yq0 k⟨⟨e1,e2,e3,e4,e5,hr,_⟩,hx,_,_⟩hj Pn e es b α h ha=>by
     obtain⟨⟨o,y,l⟩,m,i⟩:=bY.mp h;clear h;obtain⟨r,s,rfl,a⟩:=kr m;have h:=i;dsimp only at h a⊢;cbv
     .mstop
      obtain⟨q,c,h⟩:=h;cbv
      .rename_i hq;subst hq;nofun;refine c6 (ii c) fun p t f j d g n=>?_;subst t;exact Xaz f j a d g n rfl
      .nofun
     .nofun)<|bG (EW p1 p2<|p3 _<|∎)<|bG (EW p1 p2<|p3 _<|∎) (fun _ h=>nomatch h),bG (El p1 p2<|p3 _<|∎)<|bG (El p1 p2<|p3 _<|∎) (fun _ h=>nomatch h),
  bG (Gd p1 p2<|p3 _<|∎) (bG (Gd p1 p2<|p3 _<|∎)<|bG (Ev r1 r2<|r3 _<|∎)<|bG (Ev r1 r2<|r3 _<|∎)<|bG (IE v1 v2)<|bG (IE q1 q2)<|bG (fun Y k y c d nl Pb e s es b P' α h _ E=>by
      unfold YR at h;cbv
      .obtain⟨q,h1,h⟩:=bY.mp h;cbv
       .nofun;exact⟨fun aa s Z H D I a=>by refine Vc a fun _ _ _ _ _ _ _ _ h=>?_;mleft⟩
       .nofun
      .nofun) (fun _ h=>nomatch h)),
  bG (vR r1 r2 (r3 _ ∎)) (bG (vR r1 r2 (r3 _ ∎)) (bG (vR r1 r2 (r3 _ ∎)) (bG (vR r1 r2 (r3 _ ∎)) (bG (Ex v1 v3 ⟨fun _ h=>absurd h Vm,fun q a=>?_⟩) (bG (Ex q1 q3 ⟨fun _ h=>absurd h Vm,fun _ h=>absurd h Vm⟩) (bG ah4 (fun _ h=>nomatch h)))))))⟩
 .rw[IF.mp a];have e:gx (pX<|uD<|ak (vC<|.str "bad")<|ak (vC .S9)<|ak (ag 0)<|ak (ag 0) aQ) cU.N cU.ps=oV:=by ext
  exact⟨_,_,f,fd,⟨N.F,N.b,N.m _<|∎⟩,e▸Jp (N:=cU.N) N.F (pG<|by ext) (by ext)⟩
end
open L2.Go
structure Tok where
 k:Str
 v:D
 a:Nat
 b:Nat
noncomputable def Tok.d(w:Tok):D:=.tup [.str w.k,w.v,.int w.a,.int w.b]
def rd(z:Str)(w:Tok)(t n:Nat):D:=.obj "Reader" [("text",.str z),("word",w.d),("tests",.int t),("nested",.int n)]
noncomputable def sv(v:D)(x:Str):Bool:=match v with
 |.str y=>decide (y=x)
 |_=>η
def Dl(v:D):Prop:=v=.S9\/(∃i,v=.int i)\/∃x,v=.str x
def Dl.Sj(h:Dl v):Sj v=G:=by rcases h with rfl|⟨i,rfl⟩|⟨y,rfl⟩<;>rfl
def bsz(h:Dl v)(x:Str):jp v (.str x)=.ok (.bl<|sv v x):=by
 rcases h with rfl|⟨i,rfl⟩|⟨y,rfl⟩
 .exact (⊤)
 .exact (⊤)
 .exact jg
def Tok.is(w:Tok)(k x:Str):Bool:=decide (w.k=k)&&sv w.v x
def mC(z:Str)(w:Tok)(t n:Nat):Fb "Reader" "word" (rd z w t n)=.ok w.d:=rfl
def ig(h:φ Y=.ok d)(a:Fb c f d=r):iw c f φ Y=r:=by delta iw;rw[h];exact a
def Mx(h:Dl w.v)(a:w.is k x=b):bO [U,J<|.str k,J<|.str x] [rd z w t n]=.ok (.bl b) [rd z w t n]:=a▸( cL<|eG<|aN<|wY (jg)<|(bsz h x))
def Nx(z:Str)(w a:Tok):Prop:=dt [.str z,.int w.b]=.ok a.d
def step(a:Dl w'.v)(h:Nx z w w'):fm [U] [rd z w t n]=.ok .S9 [rd z w' t n]:=
 jC (ED (aN (h) (by show(Sj w'.v&&G)=G;rw[a.Sj];rfl)) rfl)
inductive Ch(z:Str):List Tok->Prop
 |last (w:Tok) (h:w.k="end"\/w.k="bad") (v:Dl w.v) (l:w.a<10^20):Ch z [w]
 |more (w w':Tok) (r:List Tok) (v:Dl w.v) (l:w.a<10^20) (n:Nx z w w') (c:Ch z<|w'::r):Ch z (w::w'::r)
structure Sx where
 ts:List Tok
 t:Nat
 n:Nat
noncomputable def Sx.hd(s:Sx):Tok:=match s.ts with
 |w::_=>w
 |[]=>⟨"end",.S9,0,0⟩
noncomputable def Sx.tl(s:Sx):Sx:={s with ts:=s.ts.tail}
def rs(z:Str)(s:Sx):D:=rd z s.hd s.t s.n
theorem Ch.v(c:Ch z s.ts):Dl (Sx.hd s).v:=by
 delta Sx.hd;cases h:s.ts with
 |nil=>rw[h]at c;cases c
 |cons w r=>rw[h]at c;cases c<;>assumption
theorem Ch.l(c:Ch z s.ts):(Sx.hd s).a<10^20:=by
 delta Sx.hd;cases h:s.ts with
 |nil=>simp
 |cons w r=>rw[h]at c;cases c<;>assumption
def qp(k:Str):Prop:=k≠"end"/\k≠"bad"
theorem Ch.tl{s:Sx}(c:Ch z s.ts)(h:qp s.hd.k):Ch z s.tl.ts/\Nx z s.hd s.tl.hd:=by
 obtain⟨ts,t,n⟩:=s;cases c with
 |last w a v l=>exact(a.elim (fun e=>h.1 e) fun e=>h.2 e).elim
 |more w d r v l b c=>exact⟨c,b⟩
def eU{w:Tok}(h:w.is k x=G):w.k=k:=by
 delta Tok.is at h
 lia
def lL(a:Dl w.v)(h:w.is k x=η):fR [U,J<|.str k,J<|.str x] [rd z w t n]=.ok (.bl η) [rd z w t n]:=
 cL (BS<|kR (Hd<|bw<|cx rfl rfl (kC<|Mx a h)) rfl)
def ju(b:Dl w.v)(h:w.is k x=G)(hw:Dl w'.v)(a:Nx z w w'):fR [U,J<|.str k,J<|.str x] [rd z w t n]=.ok (.bl G) [rd z w' t n]:=
 cL (gG (FJ<|bw<|cx rfl (bg (aN rfl)<|bg (aN rfl) rfl) (kC<|Mx b h))<|D3 (cx rfl rfl (kC<|step hw a)) rfl)
def kO(k x:Str)(s:Sx):Bool×Sx:=if s.hd.is k x=G then(G,s.tl)else(η,s)
def zH(c:Ch z s.ts)(b:qp k):fR [U,J<|.str k,J<|.str x] [rs z s]=.ok (.bl (kO k x s).1) [rs z (kO k x s).2]/\Ch z (kO k x s).2.ts:=by
 delta kO;by_cases h:s.hd.is k x=G
 .rw[h];obtain⟨a,d⟩:=c.tl<|eU h▸b;exact⟨ju c.v h a.v d,a⟩
 .rw[SM h];exact⟨lL c.v<|Wc.mpr h,c⟩
def OS{a:Nat}(h:a<10^20):(lE<|toString (a:Int)).length<=1000:=by
 have e:=str_int a;have l:(cu a).length<=21:=by
  have:=zN 19 a h
  delta cu;split<;>mright<;>lia
 have:(lE<|toString (a:Int)).cps.toList.length=(lE<|toString (a:Int)).length:=by rfl
 rw[<-this,e];lia
def Rl(h:φ Y=.ok (.int i))(h1:i.natAbs<10^30)(h2:(lE<|toString i).length<=1000):VJ c φ Y=.ok (.str<|c++lE (toString i)):=by
 delta VJ;rw[h];exact SI ⟨h1,h2⟩
def sP(c:Ch z s.ts):iX [U] [rs z s]=.er "BadQuestion" [rs z s]:=
 ga ((O0<|bg (aN<|Rl rfl (Rw (by simpa using c.l)<|∅) (OS c.l)) rfl))
abbrev RE(z:Str):=EM "BadQuestion" (fun s:Sx=>[rs z s]) fun s=>Ch z s.ts
noncomputable def lft{Z τ α:Type}(up:Z->τ):Q Z α->Q τ α
 |.ok a s=>.ok a<|up s
 |.er s=>.er<|up s
theorem KZ{e:Z->Rx}{I:Z->Prop}{s:Z}{α:qg}(up:Sx->Z)(c:α Y (e s)=.ok l (e s))(b:RE z (F (uB l) [((e s)[k]?).getD .S9]) q)(g:∀s',putAt [k] [rs z s'] (e s)=e (up s'))(f:∀s',Ch z s'.ts->I (up s'))(a:j4 l=[k]<|>Rv)(h:zw 0 l=[0]<|>Rv):EM "BadQuestion" e I (dm [0] F α Y<|e s)<|lft up q:=by
 have hd:decide ((j4 l).Nodup/\zw 0 l=[0])=G:=Th ⟨by rw[a];simp,h⟩;have e1:=b.eq;cases q with
 |ok d s'=>
  refine⟨aM c<|(kC (by rw[a];exact e1) hd).trans ?_,f s' b.ch⟩;rw[a,g];rfl
 |er s'=>
  refine⟨aM c<|(AW (by rw[a];exact e1) hd).trans ?_,f s' b.ch⟩;rw[a,g];rfl
def rc{α:qg}(c:α Y [rs z s]=.ok l [rs z s])(a:RE z (F (uB l) [rs z s]) q)(b:j4 l=[0]<|>Rv)(d:zw 0 l=[0]<|>Rv):RE z (dm [0] F α Y [rs z s]) q:=
 MG (KZ (fun s=>s) c a (fun _=>rfl) (fun _ h=>h) b d) ((by cases q<;>rfl))
def abi(c:Ch z s.ts)(a:qp k):RE z (fR [U,J<|.str k,J<|.str x] [rs z s])<|.ok (.bl (kO k x s).1) (kO k x s).2:=⟨(zH c a).1,(zH c a).2⟩
def Jz(c:Ch z s.ts):RE z (iX [U] [rs z s])<|.er s:=⟨sP c,c⟩
def dq(k x:Str)(s:Sx):Q Sx D:=if s.hd.is k x=G then .ok .S9 s.tl else .er s
def sq(c:Ch z s.ts)(b:qp k):RE z (Ff [U,J<|.str k,J<|.str x] [rs z s])<|dq k x s:=by
 obtain⟨p1,p2⟩:=zH c b;have a:mw 0 (aK (ji [0]<|ag 1)<|aK (ji [0]<|ag 2) bj) ([U,J<|.str k,J<|.str x]) [rs z s]=.ok [.ob 0,.pl<|.str k,.pl<|.str x] [rs z s]:=rfl;delta kO at p1 p2;delta dq;by_cases h:s.hd.is k x=G
 .rw[h]at p1 p2⊢;exact⟨jC<|F2 (FJ<|bw<|aM a<|kC p1) rfl,p2⟩
 .rw[SM h]at p1 p2⊢;exact⟨ga<|kR (Hd<|bw<|aM a<|kC p1)<|kJ<|aM rfl (AW<|sP c),c⟩
def b8(k:Str)(s:Sx):Q Sx D:=if s.hd.k=k then .ok s.hd.v s.tl else .er s
def og(c:Ch z s.ts)(e:qp k):RE z (fO [U,J<|.str k] [rs z s])<|b8 k s:=by
 have a:∀b,(!decide (s.hd.k=k))=b->dC (aH xF (aH cR #[22]<|vC<|.int 0)<|ag 1) (fill [0] [rs z s]<|aZ 3 [U,J<|.str k])=.ok b:=fun b h=>h▸ao (ae (ae (ig rfl (mC z s.hd s.t s.n)) rfl rfl) rfl vE);delta b8;by_cases h:s.hd.k=k
 .rw[SI h];obtain⟨d,f⟩:=c.tl<|h▸e;exact⟨cL (ψ:=bZ _ _)<|gG (aR<|a η<|by simp[h])<|iG (aN rfl c.v.Sj)<|D3 (cx rfl rfl (kC<|step d.v f))<|eG<|aN rfl c.v.Sj,d⟩
 .rw[SM h];exact⟨ga<|lh<|kR (aR<|a G<|by simp[h])<|kJ<|aM rfl (AW<|sP c),c⟩
def wk(q:Q Z α)(f:α->Z->Q Z β)(g:β->Z->Q Z γ):(q.bind f).bind g=q.bind fun a s=>(f a s).bind g:=by cases q<;>rfl
def mF:qp "name":=by unfold qp;decide +kernel
def gv:qp "sign":=by unfold qp;decide +kernel
def fP:qp "key":=by unfold qp;decide +kernel
def oH:qp "number":=by unfold qp;decide +kernel
def lj(c:Ch z s.ts)(h:b8 k s=.ok d s'):Dl d:=by
 delta b8 at h;cbv
 .nofun;exact c.v
 .nofun
abbrev RZ(z:Str):=ES "BadQuestion" (fun s:Sx=>[rs z s]) (fun s=>Ch z s.ts) 1
def C1(h:RZ z (ψ (aZ n Y) [rs z s]) q)(a:Y.length=k<|>Rv):RE z (bF 1 ψ n k Y [rs z s]) q:=pW h ⟨a,rfl⟩
def ng(s:Sx):Q Sx D:=(b8 "name" s).bind fun a s=>(dq "sign" "." s).bind fun _ s=>(b8 "name" s).bind fun b s=>.ok (.tup [.str "column",a,b]) s
def zb{e:Z->Rx}{I:Z->Prop}{q q':Q Z D}(h:ES x e I nl a q)(b:q=q'):ES x e I nl a q':=b▸h
def Rh(c:Ch z s.ts):RE z (io [U] [rs z s])<|ng s:=
 pW (f7 (rc rfl (og c mF)) fun a g f c1=>zk (rc rfl (sq c1 gv)) fun _ d _ c2=>zb (eS (wD (mU rfl rfl (mU rfl (lj c f).Sj (ri<|rc rfl (og c2 mF)))) (by
  intro ds i h;cases hk:b8 "name" d with
  |ok b e=>rw[hk]at h;nofun;exact lA rfl
  |er e=>rw[hk]at h;nofun))) (by cases b8 "name" d<;>rfl)) ⟨rfl,rfl⟩
def uC(s:Sx):Q Sx D:=(b8 "name" s).bind fun t s=>if s.hd.k="name"then(b8 "name" s).bind fun a s=>.ok (.tup [t,a]) s else .ok (.tup [t,t]) s
def OM(k:Str)(h:φ Y=.ok (rs z s))(a:decide (s.hd.k=k)=b):dC (aH jp (aH cR (iw "Reader" "word" φ)<|vC<|.int 0)<|vC<|.str k) Y=.ok b:=a▸ao (ae (ae (ig h rfl) rfl rfl) rfl jg)
def o12(c:Ch z s.ts):RE z (iz [U] [rs z s])<|uC s:=
 pW (f7 (rc rfl (og c mF)) fun a g i c1=>by
  have d:=(lj c i).Sj;by_cases h:g.hd.k="name"
  .rw[h];exact f7 (NF (aR<|OM "name" rfl (Th h)) (fun _=>rc rfl (og c1 mF)) fun z=>nomatch z) fun b j e c2=>eS<|x8 c2 rfl (by show(Sj a&&(Sj b&&G))=G;rw[d,(lj c1 e).Sj];rfl)
  .rw[SM h];exact zb (f7 (f:=fun b s=>.ok (.tup [a,b]) s) (NF (aR<|OM "name" rfl (TU h)) #[18] fun _=>x8 c1 rfl d) fun b j e c2=>by
    cases e;exact eS (x8 c2 rfl (by show(Sj a&&(Sj a&&G))=G;rw[d];rfl))) rfl) ⟨rfl,rfl⟩
def yV(s:Sx):Q Sx D:=(ng s).bind fun a s=>.ok (.tup [a,.bl (kO "key" "down" s).1]) (kO "key" "down" s).2
theorem qY(c:Ch z s.ts)(h:ng s=.ok d s'):Sj d=G:=by
 delta ng at h;cases h1:b8 "name" s with
 |er _=>rw[h1]at h;nofun
 |ok a e=>
  rw[h1]at h;change (dq "sign" "." e).bind _=_ at h
  have c1  := by have:=(og c mF).ch;rw[h1]at this;exact this
  cases h2:dq "sign" "." e with
  |er _=>rw[h2]at h;nofun
  |ok u f=>
   rw[h2]at h;change (b8 "name" f).bind _=_ at h
   have c2  := by have:=(sq (x:=".") c1 gv).ch;rw[h2]at this;exact this
   cases h3:b8 "name" f with
   |er _=>rw[h3]at h;nofun
   |ok b g=>
    rw[h3]at h;nofun;show(G&&(Sj a&&(Sj b&&G)))=G;rw[(lj c h1).Sj,(lj c2 h3).Sj];rfl
def alm(v:D):Bool:=match v with
 |.int i=>decide (i<0)
 |_=>η
def zm(s:Sx):Q Sx D:=if s.hd.k="number"/\alm s.hd.v=G then .er s else b8 "number" s
def M4(w:Tok):Prop:=w.k="number"->∃i,w.v=.int i
def aaZ(c:Ch z s.ts)(f:M4 s.hd):RE z (qA [U] [rs z s])<|zm s:=by
 have a:RE z (dm [0] fO (mw 0<|aK (ji [0]<|vC<|.str "number") bj) (aZ 1 [U]) [rs z s])<|b8 "number" s:=rc (bA<|bg (aN rfl) rfl)<|og c oH;delta zm;by_cases h:s.hd.k="number"
 .obtain⟨i,b⟩:=f h;have h1:=OM (Y:=fill [0] [rs z s]<|aZ 1 [U]) (φ:=ag 0) (z:=z) (s:=s) "number" rfl (Th h);have h2:dC (aH zF (aH cR #[22]<|vC<|.int 1)<|vC<|.int 0) (fill [0] [rs z s]<|[U])=.ok ((i<0)):=ao (ae ((show cR s.hd.d (.int 1)=.ok (.int i)from by rw[<-b];rfl)) rfl rfl)
  have:=Ik (e:=fun s  => [rs z s]) (nl:=1) (aR<|kW h1 h2) (fun _=>Bi (q:=.er s)<|rc (α:=mw 0 bj) rfl (Jz c)) fun _=>eS a
  refine pW (zb this ?_) ⟨rfl,rfl⟩;rw[b];show _=if s.hd.k="number"/\decide (i<0)=G then _ else _;mright
 .have h1:=OM (Y:=fill [0] [rs z s]<|[U]) (φ:=ag 0) "number" rfl (TU h);rw[SM fun y=>h y.1];exact pW (Ik (q1:=.er s) (aR<|Bu h1) #[18] fun _=>eS a) ⟨rfl,rfl⟩
structure zp(w:Tok):Prop where
 num:w.k="number"->∃i,w.v=.int i
 sgn:w.k="sign"->∃x,w.v=.str x
def rf(s:Sx):Q Sx D:=if s.hd.k="name"then ng s else if s.hd.k="number"\/s.hd.k="text"then .ok (.tup [.str "value",s.hd.v]) s.tl else(dq "key" "none" s).bind fun _ s=>.ok (.tup [.str "value",.S9]) s
def p8(h:s.hd.k=k):b8 k s=.ok s.hd.v s.tl:=SI h
def WD(c:Ch z s.ts):RE z (cI [U] [rs z s])<|rf s:=by
 have k1:=fun b(h:decide (s.hd.k="name")=b)=>OM (Y:=fill [0] [rs z s]<|aZ 1 [U]) (φ:=ag 0) (z:=z) (s:=s) "name" rfl h;have k2:=fun b(h:decide (s.hd.k="number")=b)=>OM (Y:=fill [0] [rs z s]<|aZ 1 [U]) (φ:=ag 0) (z:=z) (s:=s) "number" rfl h;have k3:=fun b(h:decide (s.hd.k="text")=b)=>OM (Y:=fill [0] [rs z s]<|aZ 1 [U]) (φ:=ag 0) (z:=z) (s:=s) "text" rfl h;have e:∀k,s.hd.k=k->qp k->RE z (vN (aK (ji [0]<|vC<|.str "value")<|aK (dm [0] fO<|mw 0<|aK (ji [0]<|aH cR #[22]<|vC<|.int 0) bj) bj) (aZ 1 [U]) [rs z s]) (.ok (.tup [.str "value",s.hd.v]) s.tl):=fun k d f=>by
  have:=og (z:=z) c f
  rw[p8 d]at this;exact MG (wD (mU rfl rfl (ri<|rc (l:=[.ob 0,.pl<|.str s.hd.k]) (bA<|bg (aN<|ae (ig rfl (mC z s.hd s.t s.n)) rfl rfl) rfl)<|by rw[d];exact this)) fun ds s h=>by nofun;exact lA rfl) rfl
 delta rf;refine C1 (ψ:=bZ _ _) ?_;by_cases h1:s.hd.k="name"
 .rw[SI h1];exact zD (aR<|k1 G<|Th h1)<|eS<|rc (bA rfl)<|Rh c
 rw[SM h1];refine Ek (aR<|k1 η<|TU h1) ?_;by_cases h2:s.hd.k="number"
 .rw[SI<|.inl h2];exact zD (aR<|P7<|k2 G<|Th h2)<|eS<|e _ h2 oH
 by_cases a:s.hd.k="text"
 .rw[SI<|.inr a];exact zD (aR<|lR (k2 η<|TU h2)<|k3 G<|Th a)<|eS<|e _ a (by unfold qp;decide +kernel)
 rw[SM fun y=>y.elim h2 a];refine Ek (aR<|lR (k2 η<|TU h2)<|k3 η<|TU a) ?_;exact zk (rc rfl (sq c fP)) fun _ g _ c2=>eS<|x8 c2 rfl
noncomputable def XT(v:D):Bool:=match v with
 |.str x=>decide (x∈#[11])
 |_=>η
def nG(x:Str):∀ys:SH,Eh (.str x) (ys.map V.str)=decide (x∈ys):=TB (rfl) fun y ys i_=>by
  have a:=i_;unfold Eh at a⊢
  have:Mj (.str y) (.str x)=decide (y=x):=rfl
  grind
def An(c:Ch z s.ts)(h:rf s=.ok d s'):Sj d=G:=by
 delta rf at h;cbv
 .exact qY c h
 .cbv
  .nofun;show(G&&(Sj s.hd.v&&G))=G;rw[c.v.Sj];rfl
  .cases h1:dq "key" "none" s with
   |er _=>rw[h1]at h;nofun
   |ok _ _=>rw[h1]at h;nofun;rfl
def Uo(s:Sx):Prop:=∀w∈s.ts,zp w
def qV(s:Sx):Q Sx D:=if s.t=20 then .er s else(rf {s with t:=s.t+1}).bind fun one s=>if s.hd.k="sign"/\XT s.hd.v=G then(rf s.tl).bind fun Lh s'=>.ok (.tup [.str "test",s.hd.v,one,Lh]) s' else .er s
theorem Uo.hd(h:Uo s):zp s.hd:=by
 delta Sx.hd;cases e:s.ts with
 |nil=>exact⟨fun z=>absurd z<|⊤,fun z=>absurd z<|⊤⟩
 |cons w r=>exact h w (by rw[e];simp)
def nV{α:Type}(f:Sx->Q Sx α):Prop:=∀s a s',f s=.ok a s'->∀w∈s'.ts,w∈s.ts
def dG(s:Sx):∀w∈s.tl.ts,w∈s.ts:=fun w h=>List.mem_of_mem_tail h
def lJ:nV<|b8 k:=fun s a s' h=>by
 delta b8 at h;cbv
 .nofun;exact dG s
 .nofun
def iV:nV<|dq k x:=fun s a s' h=>by
 delta dq at h;cbv
 .nofun;exact dG s
 .nofun
theorem cz{f:Sx->Q Sx α}{g:α->Sx->Q Sx β}(d:nV f)(e:∀a,nV<|g a):nV fun s=>(f s).bind g:=fun s b s' h=>by
 cases h1:f s with
 |er _=>change (f s).bind g=_ at h;rw[h1]at h;nofun
 |ok a c=>
  change (f s).bind g=_ at h
  rw[h1]at h;exact fun w hw=>d s a c h1 w<|e a c b s' h w hw
def rC{f:Sx->α}:nV fun s=>.ok (f s) s:=fun s a s' h=>by mright
def su:nV ng:=cz lJ fun _=>cz iV fun _=>cz lJ fun _=>rC
def wM:nV rf:=fun s a s' h=>by
 delta rf at h;cbv
 .exact su s a s' h
 .cbv
  .nofun;exact dG s
  .exact cz iV (fun _=>rC (f:=fun _=>D.tup [.str "value",.S9])) s a s' h
def Uo.of{f:Sx->Q Sx α}(b:nV f)(h:Uo s)(e:f s=.ok a s'):Uo s':=fun w hw=>h w<|b s a s' e w hw
def alq(c:Ch z s.ts)(w:Uo s):RE z (qD [U] [rs z s])<|qV s:=by
 have r:∀b,decide ((s.t:Int)=20)=b->dC (aH jp (iw "Reader" "tests"<|ag 0)<|vC<|.int 20) (fill [0] [rs z s]<|aZ 3 [U])=.ok b:=fun b h=>h▸ao (ae (ig rfl ((rfl))) rfl zf);delta qV;refine C1 (ψ:=bZ _ _) ?_;by_cases h:s.t=20
 .rw[SI h];exact zD (aR<|r G<|by simp[h])<|Bi (q:=.er s)<|rc (bA rfl)<|Jz c
 rw[SM h];refine Ek (aR<|r η<|by simp;lia) ?_;have B:uE 0 "Reader" "tests" 1 (aZ 3 [U]) [rs z s]=.nx (aZ 3 [U]) [rs z {s with t:=s.t+1}]:=rfl;let g:Sx:={s with t:=s.t+1}
 have p:Ch z g.ts:=c;suffices H:RZ z (bZ (qM 1 1<|dm [0] cI<|mw 0 bj) (bZ (pf 1 (uv [0]<|KF (dC<|aH xF (aH cR #[22]<|vC<|.int 0)<|vC<|.str "sign")<|dC<|aH mI (aH cR #[22]<|vC<|.int 1)<|vC<|.tup [.str "=",.str "<>",.str "<",.str "<=",.str ">",.str ">="]) (sr 1<|dm [0] iX<|mw 0 bj) qG)<|bZ (qM 1 2<|dm [0] fO<|mw 0<|aK (ji [0]<|vC<|.str "sign") bj)<|xz 1<|vN<|aK (ji [0]<|vC<|.str "test")<|aK (ji [0]<|ag 2)<|aK (ji [0]<|ag 1)<|aK (dm [0] cI<|mw 0 bj) bj) (aZ 3 [U]) [rs z g]) _ from⟨eL B H.eq,H.ch⟩
 refine f7 (rc (bA rfl)<|WD p) fun one s1 h1 c1=>?_;have A:Uo s1:=Uo.of wM (s:=g) w h1;have j:∀b,(!decide (s1.hd.k="sign"))=b->dC (aH xF (aH cR #[22]<|vC<|.int 0)<|vC<|.str "sign") (fill [0] [rs z s1]<|(aZ 3 [U]).set 1<|J one)=.ok b:=fun b h=>h▸ao (ae (ae (ig rfl (mC z s1.hd s1.t s1.n)) rfl rfl) rfl vE);have a:RZ z (sr 1 (dm [0] iX<|mw 0 bj) ((aZ 3 [U]).set 1<|J one) [rs z s1])<|.er s1:=Bi (q:=.er s1)<|rc (bA rfl)<|Jz c1;by_cases hs:s1.hd.k="sign"
 .obtain⟨x,o⟩:=A.hd.sgn hs;have m:∀b,(!XT s1.hd.v)=b->dC (aH mI (aH cR #[22]<|vC<|.int 1)<|vC<|.tup [.str "=",.str "<>",.str "<",.str "<=",.str ">",.str ">="]) (fill [0] [rs z s1]<|(aZ 3 [U]).set 1<|J one)=.ok b:=fun b h=>by
   rw[<-h,o];exact ao (ae (ae (ig rfl (mC z s1.hd s1.t s1.n)) rfl (show cR s1.hd.d (.int 1)=.ok (.str x)from by rw[<-o];rfl)) rfl ((by
     have:mI (.str x) (.tup [.str "=",.str "<>",.str "<",.str "<=",.str ">",.str ">="])=.ok (.bl<|!Eh (.str x) ((["=","<>","<","<=",">",">="]:SH).map V.str)):=rfl
     rw[this,nG];rfl)))
  by_cases e:XT s1.hd.v=G
  .rw[SI ⟨hs,e⟩];refine Ek (aR<|lR (j η<|by simp[hs])<|m η<|by simp[e]) ?_;have l:=og (z:=z) c1 gv;rw[p8 hs]at l
   have:=f7 (i:=2) (nl:=1) (f:=fun d s=>(rf s).bind fun Lh s'=>.ok (.tup [.str "test",d,one,Lh]) s') (χ:=xz 1<|vN<|aK (ji [0]<|vC<|.str "test")<|aK (ji [0]<|ag 2)<|aK (ji [0]<|ag 1)<|aK (dm [0] cI<|mw 0 bj) bj) (rc (Y:=(aZ 3 [U]).set 1<|J one) (α:=mw 0<|aK (ji [0]<|vC<|.str "sign") bj) (bA<|bg (aN rfl) rfl) l) fun C D h2 c2=>by
    cases h2;refine zb (eS<|wD (mU rfl rfl (mU rfl c1.v.Sj (mU rfl (An p h1) (ri<|rc (bA rfl)<|WD c2)))) fun ds s h=>?_) ?_
    .cases ho:rf s1.tl with
     |ok b u=>rw[ho]at h;nofun;exact lA rfl
     |er u=>rw[ho]at h;nofun
    .cases rf s1.tl<;>rfl
   exact this
  .rw[SM fun y=>e y.2];exact zD (aR<|lR (j η<|by simp[hs])<|m G<|by simp[e]) a
 .rw[SM fun y=>hs y.1];exact zD (aR<|P7<|j G<|by simp[hs]) a
noncomputable def pd(T:Rx)(W:SH):D:=.obj "Piles" [("trees",.WK T.reverse),("waiting",.WK (W.map .str).reverse)]
noncomputable def gM(w:Str):Int:=if w="("then 0 else if w="or"then 1 else if w="and"then 2 else 3
abbrev W4:SH:=["(","or","and","not"]
def HK(h:w∈W4):Xd lx (.str w)=.ok (.int<|gM w):=by
 mright;rcases h with rfl|rfl|rfl|rfl<;>with_unfolding_all rfl
def FL(T:Rx)(w:Str)(W:SH)(Y:Sd):mh 0 "Piles" "waiting" Y [pd T<|w::W]=.ok (.str w) [pd T W]:=by
 have e:yE [pd T<|w::W] 0 "Piles" "waiting"=J ((W.map D.str).reverse++[.str w]):=by show J _=_;simp
 delta mh;rw[e];dsimp only;rw[LX,K9,NT,nN<|mK _,LU];rw[Qw];rfl
def Gp(t:D)(T:Rx)(W:SH)(Y:Sd):mh 0 "Piles" "trees" Y [pd (t::T) W]=.ok t [pd T W]:=by
 have e:yE [pd (t::T) W] 0 "Piles" "trees"=(T.reverse++[t]):=by show J _=_;rw[Al]
 delta mh;rw[e];dsimp only;rw[LX,K9,NT,nN<|mK _,LU];rw[Qw];rfl
def NY(h:φ Y=.ok (.str w))(a:W.length<=900):nr 0 "Piles" "waiting" φ Y [pd T W]=.ok .S9 [pd T<|w::W]:=by
 have e:yE [pd T W] 0 "Piles" "waiting"=(W.map D.str).reverse:=rfl;delta nr;rw[e,h];dsimp only;rw[SI<|by simp;lia];delta pd;rw[Xp,Al];rfl
def G4(h:φ Y=.ok t)(a:T.length<=900):nr 0 "Piles" "trees" φ Y [pd T W]=.ok .S9 [pd (t::T) W]:=by
 have e:yE [pd T W] 0 "Piles" "trees"=T.reverse:=rfl;delta nr;rw[e,h];dsimp only;rw[SI<|by simp;lia];delta pd;rw[Al];rfl
noncomputable def jn:SH->Nat
 |[]=>0
 |w::W=>(if w="and"\/w="or"then 1 else 0)+jn W
def aF(b:Int):SH->Rx->List Str×Rx
 |[],T=>([],T)
 | w::W,T=>if b<=gM w then (if w="not" then (match T with
   |t::T=>aF b W<|.tup [.str "not",t]::T
   |[]=>(w::W,T))else(match T with
   |t2::t1::T=>aF b W<|.tup [.str w,t1,t2]::T
   |_=>(w::W,T)))else(w::W,T)
abbrev sT:lM:=uv [0]<|mQ (dC<|aH xF (iw "Piles" "waiting"<|ag 0)<|uw aQ)<|dC<|aH C9 (zz (Xd lx)<|aH cR (iw "Piles" "waiting"<|ag 0)<|zz QN<|vC<|.int 1)<|ag 1
abbrev sB:gi:=bZ (qM 1 2<|mh 0 "Piles" "waiting")<|bZ (qM 1 3<|mh 0 "Piles" "trees")<|pf 1 (uv [0]<|dC<|aH jp (ag 2)<|vC<|.str "not") (sr 1<|nr 0 "Piles" "trees"<|uD<|ak (vC<|.str "not")<|ak (ag 3) aQ)<|bZ (qM 1 4<|mh 0 "Piles" "trees")<|sr 1<|nr 0 "Piles" "trees"<|uD<|ak (ag 2)<|ak (ag 4)<|ak (ag 3) aQ
def Py(k:Nat)(d:D):Prop:=∃p,kZ d=J p/\p.canLay0=G/\p.depth<=k
def Py.list{k:Nat}:∀{ds:Rx},(∀d∈ds,Py k d)->∃ps,ma ds=J ps/\OI ps=G/\PyData.depthAll ps<=k/\ps.length=ds.length:=@TB _ _ (@fun _=>⟨[],rfl,rfl,Uh _,rfl⟩) fun d r i_=>@fun h=>by
  left;obtain⟨p,h1,h2,c⟩:=h d ∅;obtain⟨ps,e1,a,b,e⟩:=i_ fun x f=>h x<|ie _ f;right;refine⟨p::ps,?_,?_,?_,by simp[e]⟩
  .rw[ma,h1,e1];rfl
  .rw[OI,h2,a];rfl
  .exact Nat.max_le.mpr ⟨c,b⟩
def cne(h1:p.canLay0=G)(h2:p.depth<=k)(a:k<=64):jw p=G:=by
 delta jw
 lia
theorem KY{k:Nat}{ds:Rx}(h:∀d∈ds,Py k d)(g:k<=60):xF (.lst ds) (.lst [])=.ok (.bl<|decide (0<ds.length)):=by
 refine gR (Py.list h) fun ps e1 a i e=>?_;have c:kZ (.lst ds)=J (.list ps):=by rw[kZ,e1];rfl
 have e0:kZ (.lst [])=J (.list []):=rfl;have f:jt (.lst ds) (.lst [])=(BK (.list ps)<|.list []):=by
  delta jt;rw[c,e0];simp only;rw[SI ⟨cne (k:=k+1) a (by rw[ae6];mright)<|⊥,by rfl⟩]
 have b:zy (.lst ds) (.lst [])=jt (.lst ds) (.lst []):=rfl;delta xF;rw[b,f];cases ps with
 |nil=>
  have:ds.length=0:=by mright
  rw[this];rfl
 |cons p r=>
  have:0<ds.length:=by rw[<-e];simp
  rw[Th this];rfl
def aaN(h:w∈W4):Py 0<|.str w:=⟨.str w,rfl,by
 mright;rcases h with rfl|rfl|rfl|rfl<;>trivial,mK _⟩
def CL(W:SH):Prop:=∀w∈W,w∈W4
def wne(h:CL W):xF (.lst (W.map D.str).reverse) (.lst [])=.ok (.bl<|decide (0<W.length)):=by
 have:=KY (fun d hd=>by
  rw[List.mem_reverse,d9]at hd;obtain⟨w,hw,rfl⟩:=hd;exact aaN (h w hw)) ∅
 mright
def aby(a:CL<|w::W)(b:Int)(c f d:Option D):sT [U,J<|.int b,c,f,d] [pd T<|w::W]=.ok (decide (b<=gM w)) [pd T<|w::W]:=
 aR (kW (ao<|((wne a)).trans rfl) (ao (ae (BM (((by
   have:Uq ((w::W).map D.str).reverse (-1)=J (.str w):=by
    delta Uq;have e:C5 ((nq D.str W).reverse++[D.str w]).length (-1)=W.length:=by
     delta C5;simp;lia
    mright
   exact UC this))) (HK (a w Up))) rfl rfl)))
def o11(b:Int)(t:D)(T:Rx)(W:SH)(c d a:Option D)(e:T.length<=900):sB [U,J<|.int b,c,d,a] [pd (t::T)<|"not"::W]=.nx [U,J<|.int b,J<|.str "not",J t,a] [pd (.tup [.str "not",t]::T) W]:=
 iG (FL (t::T) "not" W _) (iG (Gp t T W _)<|(il<|G4 rfl e))
def abm(b:Int)(c a:D)(T:Rx)(w:Str)(W:SH)(d f e:Option D)(h:w≠"not")(g:T.length<=900):sB [U,J<|.int b,d,f,e] [pd (c::a::T)<|w::W]=.nx [U,J<|.int b,J<|.str w,J c,J a] [pd (.tup [.str w,a,c]::T) W]:=
 iG (FL (c::a::T) w W _) (iG (Gp c (a::T) W _)<|F2 (aR<|ao<|(jg).trans<|by simp[h])<|iG (Gp a T W _)<|il<|G4 rfl g)
theorem r8(b:Int)(y:1<=b):∀(W:SH)(T:Rx)(f:Nat)(i j g:Option D),CL W->jn W<T.length->T.length<=900->W.length<f->∃q u v,bV 1 sT sB f [U,J<|.int b,i,j,g] [pd T W]=.nx [U,J<|.int b,q,u,v] [pd (aF b W T).2 (aF b W T).1]
 |_,_,0,_,_,_,_,_,_,h=>absurd h<|BV _
 |[],T,f+1,i,j,g,_,_,_,_=>⟨i,j,g,qw<|( rfl)⟩
 |w::W,T,f+1,i,j,g,hW,hj,hl,hf=>by
  have k:=aby (T:=T) hW b i j g;have l:CL W:=fun x z=>hW x<|ie _ z;have n:W.length<f:=by simpa using hf
  unfold aF;by_cases h:b<=gM w
  .rw[Th h]at k;rw[SI h];by_cases m:w="not"
   .rw[SI m];subst m;cases T with
    |nil=>mright
    |cons t T=>
     have o:jn W<(D.tup [.str "not",t]::T).length:=by
      unfold jn at hj;rw[SM<|⊤]at hj;mright
     refine HU (r8 b y W (.tup [.str "not",t]::T) f (J<|.str "not") (J t) g l o hl n) fun a c d e=>?_;exact⟨a,c,d,jM k (o11 b t T W i j g<|by mright;lia) e⟩
   .rw[SM m];have p:w="and"\/w="or":=by
     have:=hW w Up
     simp only[eQ,Vm,or_false]at this;rcases this with rfl|rfl|rfl|rfl
     .have:gM "("=0:=⊤
      lia
     .exact .inr rfl
     .exact .inl rfl
     .exact absurd rfl m
    unfold jn at hj;rw[SI p]at hj;cases T with
    |nil=>mright
    |cons r T=>
     cases T with
     |nil=>mright
     |cons s T=>
      refine HU (r8 b y W (.tup [.str w,s,r]::T) f (J<|.str w) (r) (s) l (by grind) (by grind) n) fun a c d e=>?_;exact⟨a,c,d,jM k (abm b r s T w W i j g m<|by mright;lia) e⟩
  .rw[TU h]at k;rw[SM h];exact⟨i,j,g,qw k⟩
structure uH(T:Rx)(W:SH):Prop where
 w:CL W
 j:T.length=jn W+1
 l:T.length<=900
 m:W.length<=900
def xj(p:uH T W)(f:1<=b):kh [U,J<|.int b] [pd T W]=.ok .S9 [pd (aF b W T).2 (aF b W T).1]:=by
 obtain⟨a,c,d,e⟩:=r8 b f W T 1000 U U U p.w (by have:=p.j;mright) p.l (by have:=p.m;lia);exact jC e
def ade(a:W.length<=900):eX [U,J<|.str w] [pd T W]=.ok .S9 [pd T<|w::W]:=jC<|il<|NY rfl a
def Xbz(a:T.length<=900):jc [U,J t] [pd T W]=.ok .S9 [pd (t::T) W]:=jC<|il<|G4 rfl a
def abQ(p:uH T W)(hw:w∈W4)(b:1<=gM w)(a:(aF (gM w) W T).1.length<=900):dX [U,J<|.str w] [pd T W]=.ok .S9 [pd (aF (gM w) W T).2<|w::(aF (gM w) W T).1]:=
 jC (D3 (cx rfl (bg (aN<|(HK hw)) rfl) (kC<|xj p b))<|il<|NY rfl a)
def UH(b:CL W):dh [U] [pd T W]=.ok (.bl<|decide (("(":Str)∈W)) [pd T W]:=by
 have e:rE (.str "(") (.lst (W.map D.str).reverse)=.ok (.bl<|("("∈W)):=by
  have h1:∀l:SH,kA (l.map D.str)=(l.map V.str):=fun l=>by
   induction l with
   |nil=>rfl
   |cons x r a=>rw[Xp,kA,a];rfl
  have h2:Ue (.str "(") (.lst (W.map D.str).reverse)=(Eh (.str "(")<|W.reverse.map V.str):=by
   show vo _ _=_;delta vo;rw[<-List.map_reverse,h1];rfl
  delta rE;rw[h2,nG];simp[lU]
 exact cL<|eG<|aN<|e
def pz(b:Int)(k:1<=b):∀(W:SH)(T:Rx),CL W->T.length=jn W+1->T.length<=900->(aF b W T).2.length=jn (aF b W T).1+1/\(aF b W T).2.length<=T.length/\(∃X,W=X++(aF b W T).1/\("(":Str)∉X):=TB (fun T _ h hl=>⟨h,mK _,[],rfl,fun z=>nomatch z⟩) fun w W i_ T hW hj hl=>by
  have f:CL W:=fun x n=>hW x<|ie _ n;unfold aF;by_cases h:b<=gM w
  .rw[SI h];have j:w≠"(":=fun z=>by
    subst z
    have:gM "("=0:=⊤
    lia
   by_cases i:w="not"
   .rw[SI i];subst i;cases T with
    |nil=>mright
    |cons t T=>
     unfold jn at hj;rw[SM<|⊤]at hj;left;obtain⟨a,c,X,e,d⟩:=i_ (.tup [.str "not",t]::T) f (by simp at hj⊢;lia) ⊤;right;exact⟨a,by omega,"not"::X,by rw[yG,<-e],fun z=>by rcases eQ.mp z with z|z;exact j z.symm;exact d z⟩
   .rw[SM i];have g:w="and"\/w="or":=by
     have:=hW w Up
     grind
    unfold jn at hj;rw[SI g]at hj;cases T with
    |nil=>contradiction
    |cons l T=>
     cases T with
     |nil=>mright
     |cons m T=>
      obtain⟨a,c,X,e,d⟩:=i_ (.tup [.str w,m,l]::T) f (by grind) (by grind)
      grind
  .rw[SM h];mright
def rP(b:Int)(f:1<=b):∀(W:SH)(T:Rx),CL W->T.length=jn W+1->T.length<=900->∀w r,(aF b W T).1=w::r->gM w<b:=TB (fun T _ _ _ w r e=>nomatch e) fun v W i_ T hW hj hl w r e=>by
  have a:CL W:=fun x j=>hW x<|ie _ j;unfold aF at e;by_cases h:b<=gM v
  .rw[SI h]at e;by_cases d:v="not"
   .rw[SI d]at e;subst d;cases T with
    |nil=>mright
    |cons t T=>
     unfold jn at hj;rw[SM<|⊤]at hj;exact i_ (.tup [.str "not",t]::T) a (by simp at hj⊢;lia) ⊤ w r e
   .rw[SM d]at e;have c:v="and"\/v="or":=by
     have:=hW v Up
     simp only[eQ,Vm,or_false]at this;rcases this with rfl|rfl|rfl|rfl
     .have:gM "("=0:=⊤
      lia
     .exact .inr rfl
     .exact .inl rfl
     .trivial
    unfold jn at hj;rw[SI c]at hj;cases T with
    |nil=>contradiction
    |cons g T=>
     cases T with
     |nil=>simp at hj
     |cons i T=>exact i_ (.tup [.str v,i,g]::T) a (by grind) (by grind) w r e
  mright
def eO(T:Rx)(W:SH):List Str×Rx:=((aF 1 W T).1.tail,(aF 1 W T).2)
theorem QP(p:uH T W)(k:("(":Str)∈W):cB [U] [pd T W]=.ok .S9 [pd (eO T W).2 (eO T W).1]/\uH (eO T W).2 (eO T W).1:=by
 obtain⟨a,c,X,e,d⟩:=pz 1 (WV 1) W T p.w p.j p.l;have g:("(":Str)∈(aF 1 W T).1:=by rw[e]at k;rcases BY.mp k with z|z;exact absurd z d;exact z
 delta eO;cases hs:(aF 1 W T).1 with
 |nil=>rw[hs]at g;cases g
 |cons w r=>
  have i:=xj p<|WV 1;rw[hs]at i a e;have hw:∀x∈w::r,x∈W4:=fun x f=>p.w x (by rw[e];exact OR _ f);have b:w="(":=by
   have:=rP 1 (WV 1) W T p.w p.j p.l w r hs
   have h:=hw w Up;simp only[eQ,Vm,or_false]at h;rcases h with rfl|rfl|rfl|rfl
   .rfl
   .have:gM "or"=1:=⊤
    trivial
   .have:gM "and"=2:=⊤
    trivial
   .have:gM "not"=3:=⊤
    trivial
  subst b;refine⟨jC<|D3 (cx rfl rfl (kC i))<|il<|FL _ "(" r _,⟨fun x f=>hw x<|ie _ f,?_,by have:=p.l;lia,?_⟩⟩
  .unfold jn at a;rw[SM<|⊤]at a;simpa using a
  .have:=p.m
   grind
def iq(s:Sx):Bool:=s.hd.is "key" "not"||s.hd.is "sign" "("
def mv(s:Sx):Str:=if s.hd.is "key" "not"=G then "not"else "("
def xD:Nat->Sx->SH->Q Sx (SH)
 |0,s,_=>.er s
 |f+1,s,W=>if iq s=G then(if s.n=20 then .er s else xD f {s.tl with n:=s.n+1} (mv s::W))else .ok W s
def cls:Nat->Sx->Rx->SH->Sx×List D×SH
 |0,s,T,W=>(s,T,W)
 |f+1,s,T,W=>if("(":Str)∈W/\s.hd.is "sign" ")"=G then cls f s.tl (eO T W).2 (eO T W).1 else(s,T,W)
abbrev Cu(z:Str)(s:Sx)(T:Rx)(W:SH):Rx:=[rs z s,pd T W]
abbrev oT:lM:=J6 (qL<|dM 0 "Reader" "stands" [0] bO<|aK (ji [0,1]<|vC<|.str "key")<|aK (ji [0,1]<|vC<|.str "not") bj)<|qL<|dM 0 "Reader" "stands" [0] bO<|aK (ji [0,1]<|vC<|.str "sign")<|aK (ji [0,1]<|vC<|.str "(") bj
abbrev oB:gi:=bZ (pf 2 (uv [0,1]<|dC<|aH jp (iw "Reader" "nested"<|ag 0)<|vC<|.int 20) (sr 2<|dm [0] iX<|mw 0 bj) qG)<|bZ (uE 0 "Reader" "nested" 1)<|bZ (sr 2<|dM 1 "Piles" "add_word" [0] eX<|aK (ji [0,1]<|aH cR #[22]<|vC<|.int 1) bj)<|sr 2<|dM 0 "Reader" "step" [0] fm bj
theorem M3(c:Ch z s.ts):oT [U,U] (Cu z s T W)=.ok (iq s) (Cu z s T W):=by
 delta iq;cases h:s.hd.is "key" "not"with
 |true=>exact NZ<|bw<|cx rfl (bg (aN rfl)<|bg (aN rfl) rfl) (ka (Mx c.v h) rfl)
 |false=>exact NS (bw<|cx rfl (bg (aN rfl)<|bg (aN rfl) rfl) (ka (Mx c.v h) rfl))<|bw<|cx rfl rfl (ka (Mx c.v rfl) rfl)
def nA{w:Tok}(h:w.is k x=G):w.v=.str x:=by
 delta Tok.is at h;rw[oR]at h;have h:=h.2;unfold sv at h;cbv
 .mright
 .nofun
theorem Nh(h:iq s=G):s.hd.v=.str (mv s)/\qp s.hd.k/\mv s∈W4/\jn (mv s::W)=jn W:=by
 delta iq at h;delta mv;cases h1:s.hd.is "key" "not"with
 |true=>
  refine⟨nA h1,eU h1▸fP,⊤,?_⟩;show(if _ then _ else _)+_=_;rw[SM<|⊤,Pm]
 |false=>
  rw[h1]at h;refine⟨nA h,eU h▸gv,⊤,?_⟩;show(if _ then _ else _)+_=_;rw[SM<|⊤,Pm]
theorem S4:∀(f:Nat)(s:Sx)(W:SH)(g:Nat),Ch z s.ts->s.n<=20->21-s.n<=f->W.length+(20-s.n)<=900->f<=g->match xD f s W with
  |.ok a s'=>(∀T,bV 2 oT oB g [U,U] (Cu z s T W)=.nx [U,U] (Cu z s' T a))/\Ch z s'.ts/\s'.t=s.t/\s'.n<=20/\s.n<=s'.n/\a.length+s.n=W.length+s'.n/\jn a=jn W/\(CL W->CL a)/\(∀w∈s'.ts,w∈s.ts)
  |.er s'=>(∀T,∃p,bV 2 oT oB g [U,U] (Cu z s T W)=.er "BadQuestion" [rs z s',p])/\Ch z s'.ts
 |0,s,W,g,c,hn,hf,hl,hg=>⊥
 |f+1,s,W,0,c,hn,hf,hl,hg=>⊥
 |f+1,s,W,g+1,c,hn,hf,hl,hg=>by
  unfold xD;by_cases h:iq s=G
  .rw[SI h];have j:∀T,oT [U,U] (Cu z s T W)=.ok G (Cu z s T W):=fun T=>h▸M3 c;have l:∀T b,decide ((s.n:Int)=20)=b->dC (aH jp (iw "Reader" "nested"<|ag 0)<|vC<|.int 20) (fill [0,1] (Cu z s T W) [U,U])=.ok b:=fun T b h=>h▸ao (ae (ig rfl ((rfl))) rfl zf);by_cases h2:s.n=20
   .rw[SI h2];exact⟨fun T=>⟨pd T W,Em (j T)<|lh<|kR (aR<|l T G<|by simp[h2])<|kJ<|aM (bA rfl)<|vS (sP c) rfl⟩,c⟩
   .rw[SM h2];refine Xl (Nh (W:=W) h) fun I u hw K=>?_;obtain⟨m,nx⟩:=c.tl u;have i:=S4 f {s.tl with n:=s.n+1} (mv s::W) g m (by show s.n+1<=20;lia) (by show 21-(s.n+1)<=f;lia) (by show(mv s::W).length+(20-(s.n+1))<=900;simp;lia) ⊥;have q:∀T,oB [U,U] (Cu z s T W)=.nx [U,U] (Cu z {s.tl with n:=s.n+1} T (mv s::W)):=fun T=>
     gG (aR<|l T η<|by simp;lia) (eL (show uE 0 "Reader" "nested" 1 [U,U] (Cu z s T W)=.nx [U,U] (Cu z {s with n:=s.n+1} T W)from rfl)<|D3 (cx rfl (bg (aN<|ae (ig rfl (mC z s.hd s.t<|s.n+1)) rfl (show cR s.hd.d (.int 1)=.ok (.str<|mv s)from by rw[<-I];rfl)) rfl) (ka (ade<|⊥) rfl))<|il<|cx rfl rfl (ka (step (n:=s.n+1) m.v nx) rfl))
    generalize M:xD f {s.tl with n:=s.n+1} (mv s::W)=r at i;left;cases r with
    |ok a s'=>
     obtain⟨E,H,C,D,F,o,y,B,A⟩:=i;right;refine⟨fun T=>jM (j T) (q T)<|E T,H,C,D,by change s.n+1<=_ at F;lia,?_,by rw[y,K],fun h=>B fun x k=>?_,fun w hw=>dG s w<|A w hw⟩
     .change a.length+(s.n+1)=(mv s::W).length+s'.n at o
      simp at o;lia
     .rcases eQ.mp k with rfl|k
      .exact hw
      .exact h x k
    |er s'=>right;exact⟨fun T=>let⟨p,e⟩:=i.1 T;⟨p,jM (j T) (q T) e⟩,i.2⟩
  .rw[SM h];exact⟨fun T=>qw<|Wc.mpr h▸M3 c,c,rfl,hn,mK _,rfl,rfl,fun h=>h,fun _ h=>h⟩
abbrev cT':lM:=xg (qL<|dM 1 "Piles" "has_bracket" [0] dh bj)<|qL<|dm [0] fR<|mw 0<|aK (ji [0,1]<|vC<|.str "sign")<|aK (ji [0,1]<|vC<|.str ")") bj
abbrev cB':gi:=sr 2<|dM 1 "Piles" "close_bracket" [0] cB bj
def QO(p:uH T W)(b:("(":Str)∈W):(eO T W).1.length<W.length/\(eO T W).2.length<=T.length:=by
 obtain⟨a,c,X,e,d⟩:=pz 1 (WV 1) W T p.w p.j p.l;delta eO
 grind
theorem UP:∀(f:Nat)(s:Sx)(T:Rx)(W:SH)(g:Nat),Ch z s.ts->uH T W->W.length<f->f<=g ->
  bV 2 cT' cB' g [U,U] (Cu z s T W)=.nx [U,U] (Cu z (cls f s T W).1 (cls f s T W).2.1 (cls f s T W).2.2)/\Ch z (cls f s T W).1.ts/\uH (cls f s T W).2.1 (cls f s T W).2.2/\(cls f s T W).1.t=s.t/\(cls f s T W).1.n=s.n/\(cls f s T W).2.2.length<=W.length/\(cls f s T W).2.1.length<=T.length/\(∀w∈(cls f s T W).1.ts,w∈s.ts)
 |0,_,_,_,_,_,_,h,_=>absurd h<|BV _
 |f+1,_,_,_,0,_,_,_,h=>absurd h<|Nat.not_succ_le_zero _
 |f+1,s,T,W,g+1,c,p,hf,hg=>by
  have a:=UH (T:=T) p.w;unfold cls;by_cases h:("(":Str)∈W
  .rw[Th h]at a;by_cases h2:s.hd.is "sign" ")"=G
   .rw[SI ⟨h,h2⟩];left;obtain⟨b,nx⟩:=c.tl<|eU h2▸gv;obtain⟨k1,k2⟩:=QP p h;obtain⟨q,o⟩:=QO p h;refine xT (UP f s.tl (eO T W).2 (eO T W).1 g b k2 ⊥ ⊥) fun j l e i k r m d=>?_;right;refine⟨jM (vU (bw<|cx rfl rfl (ka a rfl))<|bw<|aM (bA<|bg (aN rfl)<|bg (aN rfl) rfl)<|ka (ju (t:=s.t) (n:=s.n) c.v h2 b.v nx) rfl) (il<|cx rfl rfl (ka k1 rfl)) j,l,e,i,k,⊥,⊥,fun w hw=>dG s w<|d w hw⟩
   .rw[SM fun y=>h2 y.2];exact⟨qw<|vU (bw<|cx rfl rfl (ka a rfl))<|bw<|aM rfl (ka (lL c.v<|Wc.mpr h2) rfl),c,p,rfl,rfl,mK _,mK _,fun _ h=>h⟩
  .rw[TU h]at a;rw[SM fun y=>h y.1];exact⟨qw<|Gh<|bw<|cx rfl rfl (ka a rfl),c,p,rfl,rfl,mK _,mK _,fun _ h=>h⟩
def Keeps{α:Type}(f:Sx->Q Sx α):Prop:=∀s a s',f s=.ok a s'->s'.t=s.t/\s'.n=s.n
def jq:Keeps<|b8 k:=fun s a s' h=>by
 delta b8 at h;cbv
 .nofun;exact⟨rfl,rfl⟩
 .nofun
def mW:Keeps<|dq k x:=fun s a s' h=>by
 delta dq at h;cbv
 .nofun;exact⟨rfl,rfl⟩
 .nofun
theorem cj{f:Sx->Q Sx α}{g:α->Sx->Q Sx β}(d:Keeps f)(e:∀a,Keeps<|g a):Keeps fun s=>(f s).bind g:=fun s b s' h=>by
 cases h1:f s with
 |er _=>change (f s).bind g=_ at h;rw[h1]at h;nofun
 |ok a c=>
  change (f s).bind g=_ at h
  rw[h1]at h;have i:=d s a c h1;have j:=e a c b s' h;mright
def n8{f:Sx->α}:Keeps fun s=>.ok (f s) s:=fun s a s' h=>by mright
def zt:Keeps rf:=fun s a s' h=>by
 delta rf at h;cbv
 .exact(cj jq fun _=>cj mW fun _=>cj jq fun _=>n8) s a s' h
 .cbv
  .nofun;exact⟨rfl,rfl⟩
  .exact cj mW (fun _=>n8 (f:=fun _=>D.tup [.str "value",.S9])) s a s' h
def OE(c:Ch z s.ts)(h:qV s=.ok d s'):s.t≠20/\s'.t=s.t+1/\s'.n=s.n/\Sj d=G/\(∀w∈s'.ts,w∈s.ts):=by
 delta qV at h;cbv
 .nofun
 .rename_i ht;cases h1:rf {s with t:=s.t+1}with
  |er _=>rw[h1]at h;nofun
  |ok one a=>
   rw[h1]at h;change (if _ then _ else _)=_ at h
   have e1:=wM _ _ _ h1;have k1:=zt _ _ _ h1;have c1  := by have:=(WD (s:={s with t:=s.t+1}) c).ch;rw[h1]at this;exact this
   cbv
   .rename_i hs;cases h2:rf a.tl with
    |er _=>rw[h2]at h;nofun
    |ok Lh e=>
     rw[h2]at h;nofun;have b:=wM _ _ _ h2;have k2:=zt _ _ _ h2;obtain⟨c2,_⟩:=c1.tl<|hs.1▸gv;refine⟨ht,k2.1.trans k1.1,k2.2.trans k1.2,?_,fun w hw=>e1 w<|dG a w<|b w hw⟩;show(G&&(Sj a.hd.v&&(Sj one&&(Sj Lh&&G))))=G;rw[c1.v.Sj,An (s:={s with t:=s.t+1}) c h1,An c2 h2];rfl
   .nofun
structure Af(s:Sx)(T:Rx)(W:SH):Prop where
 w:CL W
 j:T.length=jn W+1
 l:W.length+1<=s.n+s.t
 n:s.n<=20
 t:s.t<=20
 k:jn W+1<=s.t
 d:∀t∈T,Sj t=G
structure Op(s:Sx)(T:Rx)(W:SH):Prop where
 w:CL W
 j:T.length=jn W
 l:W.length<=s.n+s.t
 n:s.n<=20
 t:s.t<=20
 k:jn W<=s.t
 d:∀t∈T,Sj t=G
def Af.p(a:Af s T W):uH T W:=⟨a.w,a.j,by have:=a.j;have:=a.k;have:=a.t;lia,by have:=a.l;have:=a.n;have:=a.t;lia⟩
def oC(s:Sx)(T:Rx)(W:SH):Q Sx<|List D×SH:=(xD 30 s W).bind fun W s=>(qV s).bind fun t s=>.ok (cls 100 s (t::T) W).2 (cls 100 s (t::T) W).1
def oh(b:Int):∀(W:SH)(T:Rx),(∀t∈T,Sj t=G)->∀t∈(aF b W T).2,Sj t=G:=TB (fun T h=>h) fun w W i_ T h=>by
  unfold aF;split
  .split
   .cases T with
    |nil=>exact h
    |cons t T=>
     refine i_ _ fun x a=>?_;rcases eQ.mp a with rfl|a
     .show(G&&(Sj t&&G))=G;rw[h t Up];rfl
     mright
   .match T,h with
    |[],h=>exact h
    |[_],h=>exact h
    |t2::t1::T,h=>
     refine i_ _ fun x a=>?_;rcases eQ.mp a with rfl|a
     .show(G&&(Sj t1&&(Sj t2&&G)))=G
      mright
     .mright
  .exact h
def Cp:∀(f:Nat)(s:Sx)(T:Rx)(W:SH),(∀t∈T,Sj t=G)->∀t∈(cls f s T W).2.1,Sj t=G:=X5 (fun _ _ _ h=>h) fun f i_ s T W h=>by
  unfold cls;split
  .exact i_ s.tl _ _ (oh 1 W T h)
  .exact h
theorem Mq(c:Ch z s.ts)(q:Uo s)(o:Op s T W):match oC s T W with
  |.ok p s'=>gY [U,U] [rs z s,pd T W]=.ok .S9 [rs z s',pd p.1 p.2]/\Ch z s'.ts/\Af s' p.1 p.2/\(∀w∈s'.ts,w∈s.ts)/\s'.t=s.t+1
  |.er s'=>(∃p,gY [U,U] [rs z s,pd T W]=.er "BadQuestion" [rs z s',p])/\Ch z s'.ts:=by
 have h1:=S4 (z:=z) 30 s W 1000 c o.n ⊥ (by have:=o.l;have:=o.n;have:=o.t;lia) ⊥;delta oC;generalize xD 30 s W=r1 at h1;cases r1 with
 |er s1=>
  obtain⟨⟨p,e⟩,c1⟩:=And.intro (h1.1 T) h1.2;exact⟨⟨p,ga (ψ:=bZ _ _)<|lh e⟩,c1⟩
 |ok W1 s1=>
  obtain⟨e1,c1,A,E,u,B,j1,i,b1⟩:=h1;have f:Uo s1:=fun w hw=>q w<|b1 w hw;have a:=alq (z:=z) c1 f;dsimp only[Q.bind];cases h2:qV s1 with
  |er b=>
   rw[h2]at a;refine⟨⟨pd T W1,ga (ψ:=bZ _ _)<|eL (e1 T)<|HW<|Z63 rfl (Bg<|aM (bA rfl)<|vS a.eq rfl)⟩,a.ch⟩
  |ok t b=>
   rw[h2]at a;left;obtain⟨q1,q2,F,m,v⟩:=OE c1 h2;have C:T.length<=20:=by have:=o.j;have:=o.k;have:=o.t;lia
   have y:W1.length<=40:=by have:=o.l;have:=o.t;lia
   have p1:uH (t::T) W1:=⟨i o.w,by simp[o.j,j1],by simp;lia,⊥⟩;refine xT (UP (z:=z) 100 b (t::T) W1 1000 a.ch p1 ⊥ ⊥) fun k1 k2 k3 k4 k5 I K H=>?_;right;have h:=Cp 100 b (t::T) W1 fun x g=>by
    rcases eQ.mp g with rfl|g
    .exact m
    .exact o.d x g
   dsimp only;generalize D:cls 100 b (t::T) W1=r at k1 k2 k3 k4 k5 I K H h⊢;refine⟨jC (ψ:=bZ _ _)<|eL (e1 T)<|D3 (cx rfl (bg (aM (bA rfl)<|ka a.eq rfl) rfl) (ka (Xbz<|⊥) rfl)) k1,k2,⟨k3.w,k3.j,?_,?_,?_,?_,h⟩,fun w hw=>b1 w<|v w<|H w hw,by mright⟩
   .have:=o.l;lia
   .mright
   .have:=o.t;lia
   .have:=k3.j;have:=o.j;have:=o.k
    mright;lia
def jB(s:Sx):Bool:=s.hd.is "key" "and"||s.hd.is "key" "or"
def jW(s:Sx):Str:=if s.hd.is "key" "and"=G then "and"else "or"
def jf:Nat->Sx->Rx->SH->Q Sx (List D×SH)
 |0,s,_,_=>.er s
 |f+1,s,T,W=>if jB s=G then(oC s.tl (aF (gM<|jW s) W T).2<|jW s::(aF (gM<|jW s) W T).1).bind fun p s=>jf f s p.1 p.2 else .ok (T,W) s
def RF(T:Rx)(W:SH):D:=(aF 1 W T).2.headD .S9
def qk(s:Sx):Q Sx D:=(oC s [] []).bind fun p s=>(jf 30 s p.1 p.2).bind fun p s=>if("(":Str)∈p.2 then .er s else .ok (RF p.1 p.2) s
theorem Ye(h:jB s=G):s.hd.v=.str (jW s)/\qp s.hd.k/\jW s∈W4/\1<=gM (jW s)/\(jW s="and"\/jW s="or"):=by
 delta jB at h;delta jW;cases h1:s.hd.is "key" "and"with
 |true=>
  exact⟨nA h1,eU h1▸fP,⊤,⊤,.inl rfl⟩
 |false=>
  rw[h1]at h;exact⟨nA h,eU h▸fP,⊤,⊤,.inr rfl⟩
abbrev DY(z:Str)(s:Sx)(T:Rx)(W:SH):Rx:=[pd T W,rs z s]
abbrev kT:lM:=J6 (qL<|dM 1 "Reader" "stands" [0] bO<|aK (ji [1,0]<|vC<|.str "key")<|aK (ji [1,0]<|vC<|.str "and") bj)<|qL<|dM 1 "Reader" "stands" [0] bO<|aK (ji [1,0]<|vC<|.str "key")<|aK (ji [1,0]<|vC<|.str "or") bj
abbrev G3:FM:=dm [0,1] gY<|mw 1<|mw 0 bj
abbrev kB:gi:=bZ (sr 1<|dM 0 "Piles" "add_joint" [0] dX<|aK (ji [1,0]<|aH cR #[22]<|vC<|.int 1) bj)<|bZ (sr 1<|dM 1 "Reader" "step" [0] fm bj)<|sr 1 G3
theorem NL(c:Ch z s.ts):kT [U,U] (DY z s T W)=.ok (jB s) (DY z s T W):=by
 delta jB;cases h:s.hd.is "key" "and"with
 |true=>exact NZ<|bw<|cx rfl (bg (aN rfl)<|bg (aN rfl) rfl) (ka (Mx (t:=s.t) (n:=s.n) c.v h) rfl)
 |false=>exact NS (bw<|cx rfl (bg (aN rfl)<|bg (aN rfl) rfl) (ka (Mx (t:=s.t) (n:=s.n) c.v h) rfl))<|bw<|cx rfl rfl (ka (Mx c.v rfl) rfl)
theorem GH:∀(f:Nat)(s:Sx)(T:Rx)(W:SH)(g:Nat),Ch z s.ts->Uo s->Af s T W->21-s.t<=f->f<=g->match jf f s T W with
  |.ok p s'=>bV 1 kT kB g [U,U] (DY z s T W)=.nx [U,U] (DY z s' p.1 p.2)/\Ch z s'.ts/\Af s' p.1 p.2/\(∀w∈s'.ts,w∈s.ts)
  |.er s'=>bV 1 kT kB g [U,U] (DY z s T W)=.er "BadQuestion" [rs z s']/\Ch z s'.ts
 |0,s,T,W,g,c,hK,a,hf,hg=>by have:=a.t;omega
 |f+1,s,T,W,0,c,hK,a,hf,hg=>⊥
 |f+1,s,T,W,g+1,c,hK,a,hf,hg=>by
  unfold jf;by_cases h:jB s=G
  .rw[SI h];have B:kT [U,U] (DY z s T W)=.ok G (DY z s T W):=h▸NL c;left;refine uf (Ye h) fun O I hw F A=>?_;obtain⟨D,nx⟩:=c.tl I;have p:=a.p;obtain⟨M,E,X,e,P⟩:=pz (gM<|jW s) F W T p.w p.j p.l;right;have R:(aF (gM<|jW s) W T).1.length<=W.length:=by have:=UN vP e;rw[LX]at this;lia
   have H:jn (jW s::(aF (gM<|jW s) W T).1)=jn (aF (gM<|jW s) W T).1+1:=by show(if _ then _ else _)+_=_;rw[SI A,Nat.add_comm]
   have o:Op s.tl (aF (gM<|jW s) W T).2<|jW s::(aF (gM<|jW s) W T).1:=⟨fun x C=>by
     rcases eQ.mp C with rfl|C
     .exact hw
     .exact a.w x (by rw[e];exact OR _ C),by rw[H];exact M,by have:=a.l;simp;show _<=s.n+s.t;lia,a.n,a.t,by rw[H];have:=a.k;have:=a.j;show _<=s.t;lia,oh _ W T a.d⟩
   have hs:=Mq D (fun w hw=>hK w<|dG s w hw) o;have i:∀r,G3 [U,U] (DY z s.tl (aF (gM<|jW s) W T).2<|jW s::(aF (gM<|jW s) W T).1)=r->kB [U,U] (DY z s T W)=sr 1 (fun _ _=>r) [U,U] []:=fun r K=>by
    refine D3 (cx rfl (bg (aN<|ae (ig rfl (mC z s.hd s.t s.n)) rfl (show cR s.hd.d (.int 1)=.ok (.str<|jW s)from by rw[<-O];rfl)) rfl) (ka (abQ p hw F (by have:=p.m;lia)) rfl))<|D3 (cx rfl rfl (ka (step (t:=s.t) (n:=s.n) D.v nx) rfl)) ?_;show(G3 [U,U]<|DY z s.tl (aF (gM<|jW s) W T).2<|jW s::(aF (gM<|jW s) W T).1).bs 1 _=_;rw[K];rfl
   dsimp only[Q.bind];generalize oC s.tl (aF (gM<|jW s) W T).2 (jW s::(aF (gM<|jW s) W T).1)=r at hs;cases r with
   |er s'=>
    obtain⟨⟨q,e1⟩,c2⟩:=hs;exact⟨Em B<|(i _<|aM (bA<|bA rfl)<|vS e1 rfl).trans rfl,c2⟩
   |ok q s'=>
    refine uf hs fun e1 c2 N b2 y=>?_;have y:s'.t=s.t+1:=y;have b:=GH f s' q.1 q.2 g c2 (fun w hw=>hK w<|dG s w<|b2 w hw) N (by (simp;omega)) ⊥;dsimp only;generalize jf f s' q.1 q.2=r2 at b;have u:kB [U,U] (DY z s T W)=.nx [U,U] (DY z s' q.1 q.2):=(i _<|aM (bA<|bA rfl)<|ka e1 rfl).trans rfl;cases r2 with
    |ok q2 E=>exact⟨jM B u b.1,b.2.1,b.2.2.1,fun w hw=>dG s w<|b2 w<|b.2.2.2 w hw⟩
    |er E=>exact⟨jM B u b.1,b.2⟩
  .rw[SM h];exact⟨qw<|Wc.mpr h▸NL c,c,a,fun _ h=>h⟩
theorem HZ(a:Af s T W)(h:("(":Str)∉W):aF 1 W T=([],[RF T W])/\Sj (RF T W)=G:=by
 have p:=a.p;obtain⟨c,g,X,e,f⟩:=pz 1 (WV 1) W T p.w p.j p.l;have tp:=rP 1 (WV 1) W T p.w p.j p.l;have nl:=oh 1 W T a.d;delta RF;generalize i:aF 1 W T=r at *;obtain⟨V,S⟩:=r;cases V with
 |cons w r=>
  have:=tp w r rfl
  have hw:w∈W:=by mright
  have b:=a.w w hw;simp only[eQ,Vm,or_false]at b;rcases b with rfl|rfl|rfl|rfl
  .exact absurd hw h
  .have:gM "or"=1:=⊤
   trivial
  .have:gM "and"=2:=⊤
   trivial
  .have:gM "not"=3:=⊤
   trivial
 |nil=>
  have  := c
  match S,this with
  |[t],_=>mright
theorem Gq0(c:Ch z s.ts)(i:Uo s)(y:s.t=0)(h1:s.n=0):RE z (iS [U] [rs z s]) (qk s)/\∀d s',qk s=.ok d s'->Sj d=G/\∀w∈s'.ts,w∈s.ts:=by
 have o:Op s [] []:=⟨fun _ h=>(nomatch h),rfl,Uh _,by simp_all,by simp_all,Uh _,fun _ h=>(nomatch h)⟩
 have e:vf 1 1 "Piles" ni bj (aZ 2 [U]) [rs z s]=.nx [U,U] (DY z s [] []):=rfl;have hs:=Mq c i o;delta qk;generalize oC s [] []=r at hs;cases r with
 |er s'=>
  obtain⟨⟨q,e1⟩,c2⟩:=hs;exact⟨⟨ga (ψ:=bZ _ _)<|eL e<|HW<|aM (bA<|bA rfl)<|vS e1 rfl,c2⟩,fun _ _ h=>(nomatch h)⟩
 |ok p s1=>
  refine uf hs fun e1 c1 u b1 x=>?_;have m:Uo s1:=fun w hw=>i w<|b1 w hw;have a:=GH (z:=z) 30 s1 p.1 p.2 1000 c1 m u #[28] ∅;dsimp only[Q.bind];generalize jf 30 s1 p.1 p.2=r2 at a;cases r2 with
  |er v=>exact⟨⟨ga (ψ:=bZ _ _)<|eL e<|D3 (aM (bA<|bA rfl)<|ka e1 rfl)<|lh a.1,a.2⟩,fun _ _ h=>(nomatch h)⟩
  |ok q v=>
   refine Xl a fun j c2 f b2=>?_;have b:=UH (T:=q.1) f.w;dsimp only;by_cases h:("(":Str)∈q.2
   .rw[SI h];rw[Th h]at b;exact⟨⟨ga (ψ:=bZ _ _)<|eL e<|D3 (aM (bA<|bA rfl)<|ka e1 rfl)<|eL j<|lh<|kR (bw<|cx rfl rfl (ka b rfl))<|kJ<|aM (bA rfl)<|vS (sP c2) rfl,c2⟩,fun _ _ h=>(nomatch h)⟩
   .rw[SM h];rw[TU h]at b;obtain⟨l,k⟩:=HZ f h;refine⟨⟨cL (ψ:=bZ _ _) ((D3 (aM (bA<|bA rfl)<|ka e1 rfl) (eL j (gG (bw<|cx rfl rfl (ka b rfl)) (eG (cx rfl rfl (ka ((by
      have g:=xj f.p (WV 1);rw[l]at g;exact cL (D3 (cx rfl rfl (kC g)) (eG (aN rfl k))))) rfl))))))),c2⟩,fun d s' h=>?_⟩
    mright
abbrev vT:List<|Str×FM:=Ac.v ZM
def dyq:vT.lookup ("read_source":Str)=J iz:=by rfl
def aax:vT.lookup ("read_column":Str)=J io:=by rfl
def ky(f:Sx->Q Sx D):Nat->Rx->Sx->Q Sx (Rx)
 |0,ds,s=>.ok ds s
 |n+1,ds,s=>if s.hd.is "sign" ","=G then(f s.tl).bind fun d s=>ky f n (ds++[d]) s else .ok ds s
def pF(f:Sx->Q Sx D)(m:Nat)(s:Sx):Q Sx D:=(f s).bind fun d s=>(ky f (m-1) [d] s).bind fun ds s=>.ok (.tup ds) s
structure One(z:Str)(g:Str)(f:Sx->Q Sx D):Prop where
 e:∃F,vT.lookup g=J F/\∀s,Ch z s.ts->RE z (F [U] [rs z s]) (f s)
 l:∀s d s',Ch z s.ts->f s=.ok d s'->Sj d=G
abbrev zC(z:Str)(s:Sx)(ds:Rx):Rx:=[.lst ds,rs z s]
abbrev dl(g:Str)(m:Nat):Sd:=[U,J<|.cls g,J<|.int m,U]
abbrev wT:lM:=xg (uv [3,0]<|dC<|aH zF (aI cr<|ak (ag 3) aQ)<|ag 2)<|qL<|dm [0] fR<|mw 1<|aK (ji [3,0]<|vC<|.str "sign")<|aK (ji [3,0]<|vC<|.str ",") bj
abbrev wB:gi:=sr 1 fun Y L=>if(xm L 0).isSome=G then L3 0 (aK (fY 1 vT [0]<|mw 1 bj) bj) Y L else .no
theorem Nt(O:One z g f)(m:Nat)(A:m<=100):∀(n:Nat)(ds:Rx)(s:Sx)(k:Nat),Ch z s.ts->ds.length+n=m->n<k->(∀d∈ds,Sj d=G)->match ky f n ds s with
  |.ok a s'=>bV 1 wT wB k (dl g m) (zC z s ds)=.nx (dl g m) (zC z s' a)/\Ch z s'.ts/\(∀d∈a,Sj d=G)/\a.length<=m
  |.er s'=>bV 1 wT wB k (dl g m) (zC z s ds)=.er "BadQuestion" [rs z s']/\Ch z s'.ts
 |n,ds,s,0,c,hl,hk,hd=>⊥
 |0,ds,s,k+1,c,hl,hk,hd=>by
  have p:dC (aH zF (aI cr<|ak (ag 3) aQ)<|ag 2) (fill [3,0] (zC z s ds)<|dl g m)=.ok η:=ao<|ae (lf rfl rfl) rfl (by show R.ok (D.bl<|decide ((ds.length:Int)<(m:Int)))=_;rw[TU<|⊥]);exact⟨qw<|Gh<|aR p,c,hd,⊥⟩
 |n+1,ds,s,k+1,c,hl,hk,hd=>by
  have p:dC (aH zF (aI cr<|ak (ag 3) aQ)<|ag 2) (fill [3,0] (zC z s ds)<|dl g m)=.ok G:=ao<|ae (lf rfl rfl) rfl (by show R.ok (D.bl<|decide ((ds.length:Int)<(m:Int)))=_;rw[Th<|⊥]);unfold ky;by_cases h:s.hd.is "sign" ","=G
  .rw[SI h];obtain⟨w,nx⟩:=c.tl<|eU h▸gv;have u:wT (dl g m) (zC z s ds)=.ok G (zC z s.tl ds):=vU (aR p)<|bw<|aM (bA<|bg (aN rfl)<|bg (aN rfl) rfl)<|ka (ju (t:=s.t) (n:=s.n) c.v h w.v nx) rfl;obtain⟨F,e1,E⟩:=O.e;have i:=E s.tl w;have y:∀r,fU [0] F [.ob 1] (zC z s.tl ds)=r->fY 1 vT [0] (mw 1 bj) (dl g m) (zC z s.tl ds)=r:=fun r B=>by
    show(match vT.lookup g with|some F=>_|none=>_)=_
    rw[e1];exact B
   dsimp only[Q.bind];cases h1:f s.tl with
   |er b=>
    rw[h1]at i;have q:wB (dl g m) (zC z s.tl ds)=.er "BadQuestion" [rs z b]:=kJ (φ:=fun Y L=>if(xm L 0).isSome=G then L3 0 (aK (fY 1 vT [0]<|mw 1 bj) bj) Y L else .no) (μ1:=zC z b ds) (by
     show(aK (fY 1 vT [0] (mw 1 bj)) bj (dl g m) (zC z s.tl ds)).bind _=_;rw[Bg (y _ (vS i.eq rfl))];rfl)
    exact⟨Em u q,i.ch⟩
   |ok d b=>
    rw[h1]at i;have C:=O.l s.tl d b w h1;have q:wB (dl g m) (zC z s.tl ds)=.nx (dl g m) (zC z b<|ds++[d]):=il (d:=.S9) (by
     show(aK (fY 1 vT [0] (mw 1 bj)) bj (dl g m) (zC z s.tl ds)).bind _=_;rw[bg (y _ (ka i.eq rfl)) rfl];show(if ds.length<1000000 then _ else _)=_;rw[SI ⊥];rfl)
    have o:=Nt O m A n (ds++[d]) b k i.ch (by simp;lia) #[28] fun x j=>by
     rcases BY.mp j with j|j
     .exact hd x j
     .rw[IF.mp j];exact C
    dsimp only;generalize ky f n (ds++[d]) b=r at o;cases r with
    |ok a s'=>exact⟨jM u q o.1,o.2⟩
    |er s'=>exact⟨jM u q o.1,o.2⟩
  .rw[SM h];exact⟨qw<|vU (aR p)<|bw<|aM rfl (ka (lL c.v<|Wc.mpr h) rfl),c,hd,⊥⟩
def wu:∀{ds:Rx},(∀d∈ds,Sj d=G)->Sj (.tup ds)=G:=@TB _ _ (@fun _=>rfl) fun d ds i_=>@fun h=>by
  show(Sj d&&JZ ds)=G;have  := i_ fun x a=>h x<|ie _ a;rw[h d Up];exact this
theorem Mc(O:One z g f)(m:Nat)(o:m<=100)(h1:1<=m)(c:Ch z s.ts):RE z (sF [U,J<|.cls g,J<|.int m] [rs z s]) (pF f m s)/\∀d s',pF f m s=.ok d s'->Sj d=G:=by
 obtain⟨F,e1,u⟩:=O.e;have a:=u s c;have n:∀r,fU [0] F [.ob 0] [rs z s]=r->fY 1 vT [0] (mw 0 bj) (dl g m) [rs z s]=r:=fun r p=>by
  show(match vT.lookup g with|some F=>_|none=>_)=_
  rw[e1];exact p
 delta pF;cases h2:f s with
 |er b=>
  rw[h2]at a;refine⟨⟨ga (ψ:=bZ _ _)<|lh ?_,a.ch⟩,fun _ _ h=>nomatch h⟩
  show(aK (fY 1 vT [0]<|mw 0 bj) bj (dl g m) [rs z s]).bs 1 _=_;rw[Bg<|n _<|vS a.eq rfl];rfl
 |ok d b=>
  rw[h2]at a;have w:=O.l s d b c h2;have k:P3 1 3 (aK (fY 1 vT [0]<|mw 0 bj) bj) (aZ 4 [U,J<|.cls g,J<|.int m]) [rs z s]=.nx (dl g m) (zC z b [d]):=by
   show(aK (fY 1 vT [0]<|mw 0 bj) bj (dl g m) [rs z s]).bs 1 _=_;rw[bg (n _<|ka a.eq rfl) rfl];rfl
  have i:=Nt O m o (m-1) [d] b 1000 a.ch (by simp;mright) ⊥ fun x y=>by mright
  dsimp only[Q.bind];generalize ky f (m-1) [d] b=r at i;cases r with
  |er v=>exact⟨⟨ga<|eL k<|lh i.1,i.2⟩,fun _ _ h=>nomatch h⟩
  |ok ds v=>
   refine Xl i fun t q j A=>?_;refine⟨⟨cL<|eL k<|eL t<|eG<|aN (((?_)))<|wu j,q⟩,fun d' s' h=>?_⟩
   .rfl
   .nofun;exact wu j
def TF:One z "read_order" yV:=⟨⟨_,(by rfl),fun s c=>(by
  refine pW (f7 (rc rfl (Rh c)) fun a b e c1=>?_) ⟨rfl,rfl⟩;exact zb (eS (wD (mU rfl (qY c e) (ri (rc rfl (abi c1 fP)))) fun ds s h=>by nofun;exact lA rfl)) rfl)⟩,fun s d s' c h=>(by
  delta yV at h;cases h1:ng s with
  |er _=>rw[h1]at h;nofun
  |ok a b=>
   rw[h1]at h;nofun;show(Sj a&&(G&&G))=G;rw[qY c h1];rfl)⟩
def vM(s:Sx):Q Sx D:=(dq "key" "by" s).bind fun _ s=>pF yV 8 s
theorem Je(c:Ch z s.ts)(h:vM s=.ok d s'):Sj d=G:=by
 delta vM at h;have b:=sq (x:="by") c fP;cases h1:dq "key" "by" s with
 |er _=>rw[h1]at h;nofun
 |ok a e=>
  rw[h1]at h b;exact(Mc TF 8 ∅ ∅ b.ch).2 d s' h
def iy(k:Str)(f:Sx->Q Sx D)(d:D)(s:Sx):Q Sx D:=if s.hd.is "key" k=G then f s.tl else .ok d s
def Rz(c:Ch z s.ts)(e:s.hd.is "key" k=G->Ch z s.tl.ts->RE z (φ Y [rs z s.tl]) (f s.tl))(hd:s.hd.is "key" k=η->ψ (fill [0] [rs z s] Y)=.ok d)(i:Sj d=G<|>Rv):
  RE z (Nf (qL<|dm [0] fR<|mw 0<|aK (ji [0]<|vC<|.str "key")<|aK (ji [0]<|vC<|.str k) bj) φ (ji [0] ψ) Y [rs z s]) (iy k f d s):=by
 delta iy;by_cases h:s.hd.is "key" k=G
 .rw[h];obtain⟨b,j⟩:=c.tl<|eU h▸fP;have g:=e h b;exact⟨N3 (bw<|aM rfl (ka (ju c.v h b.v j) rfl)) g.eq,g.ch⟩
 .rw[SM h];have a:=Wc.mpr h;exact⟨MN (bw<|aM rfl (ka (lL c.v a) rfl))<|aN (hd a) i,c⟩
def De(b:Keeps f)(m:Nat):Keeps<|pF f m:=by
 have e:∀n ds,Keeps<|ky f n ds:=fun n=>by
  induction n with
  |zero=>exact fun ds s a s' h=>by nofun;exact⟨rfl,rfl⟩
  |succ n c=>
   intro ds s a s' h;unfold ky at h;cbv
   .have:=cj b (fun d=>c<|ds++[d]) s.tl a s' h
    exact⟨this.1,this.2⟩
   mright
 exact cj b fun d=>cj (e _ _) fun ds=>n8
def sX(b:nV f)(m:Nat):nV<|pF f m:=by
 have e:∀n ds,nV<|ky f n ds:=fun n=>by
  induction n with
  |zero=>exact fun ds s a s' h=>by nofun;exact fun _ h=>h
  |succ n c=>
   intro ds s a s' h;unfold ky at h;cbv
   .exact fun w hw=>dG s w<|cz b (fun d=>c<|ds++[d]) s.tl a s' h w hw
   .mright
 exact cz b fun d=>cz (e _ _) fun ds=>rC
def Gn:Keeps uC/\nV uC:=by
 constructor
 .refine cj jq fun t s a s' h=>?_;cbv
  .exact cj jq (fun b=>n8 (f:=fun _=>D.tup [t,b])) s a s' h
  mright
 .refine cz lJ fun t s a s' h=>?_;cbv
  .exact cz lJ (fun b=>rC (f:=fun _=>D.tup [t,b])) s a s' h
  .mright
theorem ER:nV yV:=fun s a s' h=>by
 delta yV at h;cases h1:ng s with
 |er _=>rw[h1]at h;nofun
 |ok b c=>
  rw[h1]at h;nofun
  have:=su s b c h1
  intro w hw;refine this w ?_;delta kO at hw;split at hw
  .exact dG c w hw
  .exact hw
def qP(s:Sx):Q Sx D:=(dq "key" "from" s).bind fun _ s=>(pF uC 3 s).bind fun b s=>(iy "where" qk .S9 s).bind fun d s=>(iy "order" vM (.tup []) s).bind fun os s=>(dq "key" "show" s).bind fun _ s=>(pF ng 8 s).bind fun a s=>(iy "take" zm .S9 s).bind fun c s=>if s.hd.k="end"then .ok (.tup [.str "ask",b,d,os,a,c]) s else .er s
def Gs(a:∀d s',f s.tl=.ok d s'->∀w∈s'.ts,w∈s.tl.ts)(h:iy k f d0 s=.ok d s'):∀w∈s'.ts,w∈s.ts:=by
 delta iy at h;cbv
 .exact fun w hw=>dG s w<|a d s' h w hw
 .mright
def afA(c:Ch z s.ts)(K:Uo s)(S:s.t=0)(h1:s.n=0):RE z (bN [U] [rs z s])<|qP s:=by
 refine C1 (ψ:=bZ _ _)<|zk (rc (bA<|bg qt<|bg qt rfl)<|sq c fP) fun _ s1 q1 c1=>?_;have M:Uo s1:=Uo.of iV K q1;have k1:=mW _ _ _ q1;have r1:=Mc (z:=z) (⟨⟨_,dyq,fun s c=>o12 c⟩,fun s d s' c h=>(by
     delta uC at h;cases h1:b8 "name" s with
     |er _=>rw[h1]at h;nofun
     |ok a f=>
      rw[h1]at h;change (if _ then _ else _)=_ at h
      have e:=(lj c h1).Sj;have c1  := by have:=(og c mF).ch;rw[h1]at this;exact this
      cbv
      .cases h2:b8 "name" f with
       |er _=>rw[h2]at h;nofun
       |ok b g=>
        rw[h2]at h;nofun;show(Sj a&&(Sj b&&G))=G;rw[e,(lj c1 h2).Sj];rfl
      .nofun;show(Sj a&&(Sj a&&G))=G;rw[e];rfl)⟩) 3 ∎ ∎ c1;refine f7 (rc (bA<|bg qt<|bg qt rfl) r1.1) fun m s2 q2 c2=>?_;have y:Uo s2:=Uo.of (sX Gn.2 3) M q2;have k2:=De Gn.1 3 _ _ _ q2;have N:=r1.2 _ _ q2;have j:s2.hd.is "key" "where"=G->Ch z s2.tl.ts->_:=fun h f=>Gq0 (z:=z) f (fun w hw=>y w<|dG s2 w hw) (show s2.t=0 by lia) (show s2.n=0 by lia);refine f7 (Rz c2 (fun h f=>rc (bA rfl) (j h f).1) fun _=>rfl) fun i s3 a u=>?_;have P:Uo s3:=fun w hw=>y w (by
  delta iy at a;split at a
  .rename_i hh;exact dG s2 w<|((j hh (c2.tl<|eU hh▸fP).1).2 _ _ a).2 w hw
  .cases a;exact hw)
 have C:Sj i=G:=by
  unfold iy at a;split at a
  .rename_i hh;exact((j hh (c2.tl<|eU hh▸fP).1).2 _ _ a).1
  .cases a;rfl
 refine f7 (Rz u (fun h f=>rc (bA rfl)<|( C1<|zk (rc rfl (sq f fP)) fun _ s1 _ c1=>eS<|rc rfl (Mc TF 8 ∎ ∎ c1).1)) fun _=>de rfl) fun os s4 g I=>?_;have E:Uo s4:=fun w hw=>P w<|Gs (fun d s' h=>(cz iV fun _=>sX ER 8) _ _ _ h) g w hw;have F:Sj os=G:=by
  unfold iy at g;split at g
  .rename_i hh;exact Je (u.tl<|eU hh▸fP).1 g
  .cases g;rfl
 refine zk (rc (bA<|bg qt<|bg qt rfl)<|sq I fP) fun _ s5 Q O=>?_;have H:Uo s5:=Uo.of iV E Q;have o:=Mc (z:=z) (⟨⟨_,aax,fun s c=>Rh c⟩,fun s d s' c h=>qY c h⟩) 8 ∎ ∎ O;refine f7 (rc (bA<|bg qt<|bg qt rfl) o.1) fun A s6 r v=>?_;have D:Uo s6:=Uo.of (sX su 8) H r;have R:=o.2 _ _ r;refine f7 (Rz v (fun h f=>rc (bA rfl)<|aaZ f (show M4 s6.tl.hd from(Uo.hd (s:=s6.tl) fun w hw=>D w<|dG s6 w hw).num)) fun _=>rfl) fun l T e p=>?_;have B:Sj l=G:=by
  unfold iy at e;split at e
  .rename_i hh;delta zm at e;split at e
   .cases e
   .exact(lj (v.tl<|eU hh▸fP).1 e).Sj
  .cases e;rfl
 have x:∀b,(!decide (T.hd.k="end"))=b->dC (aH xF (aH cR #[22]<|vC<|.int 0)<|vC<|.str "end") (fill [0] [rs z T] [U,J m,J i,J os,J A,J l])=.ok b:=fun b h=>h▸ao (ae (ae (ig rfl (mC z T.hd T.t T.n)) rfl rfl) rfl vE);by_cases h:T.hd.k="end"
 .rw[SI h];refine Ek (aR<|x η<|by simp[h])<|eS<|x8 p rfl ?_;show(G&&(Sj m&&(Sj i&&(Sj os&&(Sj A&&(Sj l&&G))))))=G;rw[N,C,F,R,B];rfl
 .rw[SM h];exact zD (aR<|x G<|by simp[h])<|Bi (q:=.er T)<|rc rfl (Jz p)
structure kY(z:Str)(ts:List Tok):Prop where
 c:Ch z ts
 k:∀w∈ts,zp w
 f:dt [.str z,.int 0]=.ok (Sx.hd ⟨ts,0,0⟩).d
def made(h:kY z ts):M9 "Reader" bE [.pl<|.str z]=J (rs z ⟨ts,0,0⟩):=by
 have e:bE [U,J<|.str z] [.obj "Reader" []]=.ok .S9 [rs z ⟨ts,0,0⟩]:=
  jC (ψ:=bZ _ _) (eL rfl (eL (ED (aN (h.f) (by show(Sj (Sx.hd ⟨ts,0,0⟩).v&&G)=G;rw[(Ch.v h.c).Sj];rfl)) rfl) rfl))
 show(match bE [U,J<|.str z] [.obj "Reader" []]with|.ok .S9 [d]=>J d|_=>U)=_
 rw[e]
theorem afo(h:kY z ts):wm [J<|.str z] []=match qP ⟨ts,0,0⟩with
  |.ok d _=>.ok d []
  |.er _=>.er "BadQuestion" []:=by
 have q:=afA (s:=⟨ts,0,0⟩) h.c h.k rfl rfl;have f:qN (lP<|aI LP<|ak (ag 0)<|ak (vC<|.ty "str") aQ) (fill [] []<|aZ 1 [J<|.str z])=.ok η:=qj<|eV (af (ac rfl #[29]) rfl) rfl;have a:∀r,(match bN [U] [rs z ⟨ts,0,0⟩]with|.ok d _=>RM.ok d []|.er x _=>.er x []|.no=>.no)=r->xw "Reader" bE bN (aK (ji []<|ag 0) bj) ([J<|.str z]) []=r:=fun r b=>by
  show(match M9 "Reader" bE [.pl<|.str z]with|some d=>_|none=>_)=_
  rw[made h];exact b
 have e:=q.eq;cases h2:qP ⟨ts,0,0⟩with
 |ok d s=>rw[h2]at e;exact cL<|(eG<|a _<|by rw[e])
 |er s=>rw[h2]at e;exact ga<|(Cy<|a _<|by rw[e])
def A0(h:kY z ts):Wr kx [.str z]=.ok (match qP ⟨ts,0,0⟩with
  |.ok d _=>d
  |.er _=>.S9):=by
 have r:=afo h;have e:kx [J<|.str z] []=.ok (match qP ⟨ts,0,0⟩with|.ok d _=>d|.er _=>.S9) []:=by
  have a:∀r,fU [] wm [.pl<|.str z] []=r->dm [] wm (aK (ji []<|ag 0) bj) (aZ 1 [J<|.str z]) []=r:=fun r b=>b;refine cL (ψ:=sO _ _ _ _ _) ?_;delta sO;cases h2:qP ⟨ts,0,0⟩with
  |ok d s=>
   rw[h2]at r;rw[a _<|ka r rfl];rfl
  |er s=>
   rw[h2]at r;rw[a _<|vS r rfl];rfl
 delta Wr;mright
abbrev Kv:=Str×D
def Tok.kv(w:Tok):Kv:=(w.k,w.v)
def Vs(s:Sx)(l:List Kv):Prop:=s.ts.map Tok.kv=l
theorem Vs.hd(h:Vs s<|x::l):s.hd.k=x.1/\s.hd.v=x.2/\Vs s.tl l:=by
 obtain⟨a,t,n⟩:=s;cases a with
 |nil=>nofun
 |cons w r=>
  have h'  := h;cases h';exact⟨rfl,rfl,rfl⟩
abbrev kN(x:Str):Kv:=("name",.str x)
abbrev kK(x:Str):Kv:=("key",.str x)
abbrev kS(x:Str):Kv:=("sign",.str x)
def Vs.is(h:Vs s<|(k,.str x)::l)(b a:Str):s.hd.is b a=(decide (k=b)&&decide (x=a)):=by
 delta Tok.is;rw[h.hd.1,h.hd.2.1];rfl
def sG(h:Vs s<|(k,.str x)::l):dq k x s=.ok .S9 s.tl:=SI (by rw[h.is];simp)
def lG(h:Vs s<|(k,v)::l):b8 k s=.ok v s.tl:=by
 have:=p8 h.hd.1
 rw[this,h.hd.2.1]
inductive TY where
 |col (a b:Str)|S9|int (i:Int)
noncomputable def TY.d:TY->D
 |.col a b=>.tup [.str "column",.str a,.str b]
 |.S9=>.tup [.str "value",.S9]
 |.int i=>.tup [.str "value",.int i]
noncomputable def TY.w:TY->List Kv
 |.col a b=>[kN a,kS ".",kN b]
 |.S9=>[kK "none"]
 |.int i=>[("number",.int i)]
def MM(h:Vs s<|kN a::kS "."::kN b::l):∃s',ng s=.ok (.tup [.str "column",.str a,.str b]) s'/\Vs s' l/\s'.t=s.t/\s'.n=s.n:=by
 have h1:=h.hd.2.2;have h2:=h1.hd.2.2;refine⟨s.tl.tl.tl,?_,h2.hd.2.2,rfl,rfl⟩;delta ng;rw[lG h];show(dq "sign" "." s.tl).bind _=_;rw[sG h1];show(b8 "name" s.tl.tl).bind _=_;rw[lG h2];rfl
theorem Ui(a:TY)(h:Vs s<|a.w++l):∃s',rf s=.ok a.d s'/\Vs s' l/\s'.t=s.t/\s'.n=s.n:=by
 cases a with
 |col a b=>
  obtain⟨s',e,r⟩:=MM h;refine⟨s',?_,r⟩;unfold rf;rw[h.hd.1,e];rfl
 |S9=>
  refine⟨s.tl,?_,h.hd.2.2,rfl,rfl⟩;have c:=h.hd.1;unfold rf;rw[SM<|by rw[c];decide +kernel,SM<|by rw[c];decide +kernel,sG h];rfl
 |int i=>
  refine⟨s.tl,?_,h.hd.2.2,rfl,rfl⟩;have c:s.hd.k="number":=h.hd.1;unfold rf;rw[SM<|by rw[c];decide +kernel,SI<|.inl c,h.hd.2.1];rfl
inductive Cn where
 |test (g:Str) (a b:TY)|not (c:Cn)|and (a b:Cn)|or (a b:Cn)|br (c:Cn)
def Cn.d:Cn->D
 |.test g a b=>.tup [.str "test",.str g,a.d,b.d]
 |.not c=>.tup [.str "not",c.d]
 |.and a b=>.tup [.str "and",a.d,b.d]
 |.or a b=>.tup [.str "or",a.d,b.d]
 |.br c=>c.d
noncomputable def Cn.lv:Cn->Int
 |.or _ _=>1
 |.and _ _=>2
 |_=>3
noncomputable def xG(b:Bool)(l:List Kv):List Kv:=if b=G then kS "("::(l++[kS ")"])else l
def Cn.w:Cn->List Kv
 |.test g a b=>a.w++kS g::b.w
 |.not c=>kK "not"::xG (decide (c.lv<3)) c.w
 |.and a b=>xG (decide (a.lv<2)) a.w++kK "and"::xG (decide (b.lv<3)) b.w
 |.or a b=>a.w++kK "or"::xG (decide (b.lv<2)) b.w
 |.br c=>xG G c.w
noncomputable def Cn.b6:Cn->Nat
 |.test _ _ _=>1
 |.not c=>c.b6
 |.and a b=>a.b6+b.b6
 |.or a b=>a.b6+b.b6
 |.br c=>c.b6
def Cn.b4:Cn->Nat
 |.test _ _ _=>0
 |.not c=>1+(decide (c.lv<3)).toNat+c.b4
 |.and a b=>(decide (a.lv<2)).toNat+(decide (b.lv<3)).toNat+a.b4+b.b4
 |.or a b=>(decide (b.lv<2)).toNat+a.b4+b.b4
 |.br c=>1+c.b4
def Cn.Ok:Cn->Prop
 |.test g _ _=>g∈#[11]
 |.not c=>c.Ok
 |.and a b=>a.Ok/\b.Ok
 |.or a b=>a.Ok/\b.Ok
 |.br c=>c.Ok
theorem Cn.pos(c:Cn):1<=c.b6:=by
 induction c with
 |test=>exact mK _
 |not c ih=>exact ih
 |and a b i j=>unfold Cn.b6;lia
 |or a b i j=>unfold Cn.b6;lia
 |br c ih=>exact ih
def KG(p:List D×SH)(s:Sx):Q Sx D:=if("(":Str)∈p.2 then .er s else .ok (RF p.1 p.2) s
def Aq(f:Nat)(s:Sx)(T:Rx)(W:SH):Q Sx D:=(jf f (cls 100 s T W).1 (cls 100 s T W).2.1 (cls 100 s T W).2.2).bind KG
def Oq(f:Nat)(s:Sx)(T:Rx)(W:SH):Q Sx D:=(xD 30 s W).bind fun W s=>(qV s).bind fun t s=>Aq f s (t::T) W
def EK(f:Nat)(s:Sx)(T:Rx)(W:SH):((oC s T W).bind fun p s=>(jf f s p.1 p.2).bind KG)=Oq f s T W:=by
 delta oC Oq;rw[wk];congr 1;funext W s
 rw[wk];rfl
def Q5(s:Sx):qk s=Oq 30 s [] []:=EK 30 s [] []
def Z15:∀(f:Nat)(s:Sx)(W:SH),21-s.n<=f->s.n<=20->xD f s W=xD (f+1) s W:=X5 (fun s W h h2=>⊥) fun f i_ s W h h2=>by
  rw[xD,xD];split
  .split
   .rfl
   .exact i_ _ _ (by (simp_all;omega)) ⊥
  .rfl
def Ft(h:iq s=G)(a:s.n<20):Oq f s T W=Oq f {s.tl with n:=s.n+1} T (mv s::W):=by
 have e:xD 30 s W=xD 30 {s.tl with n:=s.n+1} (mv s::W):=by
  rw[xD,SI h,SM<|⊥];exact Z15 29 _ _ ⊥ (by assumption)
 delta Oq;rw[e]
def Ra(h:iq s=η):Oq f s T W=(qV s).bind fun t s=>Aq f s (t::T) W:=by
 have e:xD 30 s W=.ok W s:=by rw[xD,SM<|by simp_all]
 delta Oq;rw[e];rfl
def rO(b:Int):∀(W:SH)(T:Rx),(aF b W T).1.length<=W.length:=TB (fun T=>mK _) fun w W i_ T=>by
  unfold aF;split
  .split
   .cases T with
    |nil=>exact mK _
    |cons t T=>exact nJ<|i_ _
   .match T with
    |[]=>exact mK _
    |[_]=>simp
    |t2::t1::T=>exact nJ<|i_ _
  .simp
def Z14:∀(f:Nat)(s:Sx)(T:Rx)(W:SH),W.length<f->cls f s T W=cls (f+1) s T W:=X5 (fun s T W h=>absurd h<|BV _) fun f i_ s T W h=>by
  rw[cls,cls];split
  .refine i_ _ _ _ ?_;have h1:=rO 1 W T;show(aF 1 W T).1.tail.length<f
   grind
  .rfl
def Lu(a:("(":Str)∈W)(h:s.hd.is "sign" ")"=G)(b:W.length<=90):Aq f s T W=Aq f s.tl (eO T W).2 (eO T W).1:=by
 have e:cls 100 s T W=cls 100 s.tl (eO T W).2 (eO T W).1:=by
  rw[cls,SI ⟨a,h⟩];refine Z14 99 _ _ _ ?_;have h1:=rO 1 W T;show(aF 1 W T).1.tail.length<99
  grind
 delta Aq;rw[e]
def BZ{s:Sx}(h:s.hd.is "sign" ")"=η)(a:jB s=G):Aq (f+1) s T W=Oq f s.tl (aF (gM<|jW s) W T).2 (jW s::(aF (gM<|jW s) W T).1):=by
 have e:cls 100 s T W=(s,T,W):=by rw[cls,SM fun y=>⊥]
 delta Aq;rw[e];rw[jf,SI a,wk];exact EK f _ _ _
def noL(h:s.hd.is "sign" ")"=η)(a:jB s=η):Aq (f+1) s T W=KG (T,W) s:=by
 have e:cls 100 s T W=(s,T,W):=by rw[cls,SM fun y=>by simp_all]
 delta Aq;rw[e];rw[jf,SM<|by simp_all];rfl
def XF:SH->Int
 |[]=>0
 |w::_=>gM w
def VW(c:Cn)(W:SH):Prop:=c.lv=3\/XF W<c.lv
structure Rd(f:Nat)(s:Sx)(T:Rx)(W:SH)(d:D)(b:Int)(j k o:Nat)(l:List Kv):Prop where
 ex:∃ts ws s',Oq (f+j) s T W=Aq f s' (ts++T) (ws++W)/\Vs s' l/\s'.t=s.t+k/\s'.n=s.n+o/\ws.length<=j+o/\∀b',b'<=b->1<=b'->∀T W,aF b' (ws++W) (ts++T)=aF b' W (d::T)
def JL(h:Vs s<|x::l)(c:x≠kK "not"/\x≠kS "("):iq s=η:=by
 have e:s.hd.kv=x:=by obtain⟨a,b,_⟩:=h.hd;delta Tok.kv;rw[a,b]
 delta iq;rw[yb];constructor
 .refine Wc.mpr fun z=>c.1 ?_;rw[<-e];delta Tok.kv;rw[eU z,nA z]
 .refine Wc.mpr fun z=>c.2 ?_;rw[<-e];delta Tok.kv;rw[eU z,nA z]
def gW(h:a≠k):((a,d):Kv)≠(k,e):=fun z=>h<|UN Prod.fst z
theorem LJ(a:TY):∃x r,a.w=x::r/\x≠kK "not"/\x≠kS "(":=by
 cases a with
 |col a b=>exact⟨_,_,rfl,gW<|⊤,gW<|⊤⟩
 |S9=>exact⟨kK "none",[],rfl,fun z=>absurd (D.str.inj<|UN z9 z)<|⊤,gW<|⊤⟩
 |int i=>exact⟨_,_,rfl,gW<|⊤,gW<|⊤⟩
def Cn.pC(c:Cn):1<=c.lv:=by cases c<;>simp[Cn.lv]
def afn:gM "("=0:=⊤
def aa0(g:Str)(a b:TY)(k:g∈#[11])(h:Vs s<|a.w++kS g::(b.w++l))(r:s.t<20):∃s',qV s=.ok (Cn.test g a b).d s'/\Vs s' l/\s'.t=s.t+1/\s'.n=s.n:=by
 left;obtain⟨q,e1,c,m,j⟩:=Ui (s:={s with t:=s.t+1}) a h;obtain⟨f,e,o,i,p⟩:=Ui b c.hd.2.2;right;refine⟨f,?_,o,i.trans m,p.trans j⟩;delta qV;rw[SM<|⊥,e1];show(if _ then _ else _)=_;rw[SI ⟨c.hd.1,by rw[c.hd.2.1];exact Th k⟩,e,c.hd.2.1];rfl
def CI{s:Sx}{w:Str}(a:Vs s<|(k,.str w)::l')(hw:(k="key"/\w="not")\/(k="sign"/\w="("))(b:s.n<20):iq s=G/\mv s=w:=by
 delta iq mv;rw[a.is,a.is]
 lia
abbrev xA(c:Cn):Prop:=∀(f:Nat)(s:Sx)(T:Rx)(W:SH)(l:List Kv),Vs s (c.w++l)->s.t+c.b6<=20->s.n+c.b4<=20->W.length<=s.n+s.t->VW c W->Rd f s T W c.d c.lv (c.b6-1) c.b6 c.b4 l
def Va{c:Cn}(h:xA c)
  (f:Nat) (s:Sx) (T:Rx) (W:SH) (l:List Kv) (i:Vs s<|xG G c.w++l) (k:s.t+c.b6<=20) (j:s.n+1+c.b4<=20) (p:W.length<=s.n+s.t) (b5:Int):
  Rd f s T W c.d b5 (c.b6-1) c.b6 (1+c.b4) l:=by
 have a:Vs s<|kS "("::(c.w++(kS ")"::l)):=by
  have e:xG G c.w++l=kS "("::(c.w++(kS ")"::l)):=by simp[xG]
  rw[<-e];exact i
 obtain⟨o1,o2⟩:=CI a (.inr ⟨rfl,rfl⟩) ⊥;have b:=c.pC;obtain⟨ts,ws,s',e,v,t,n,wl,st⟩:=(h f {s.tl with n:=s.n+1} T ("("::W) (kS ")"::l) a.hd.2.2 k (by omega) (by show(W.length+1)<=s.n+1+s.t;lia) (.inr<|by assumption)).ex;have g:eO (ts++T) (ws++("(":Str)::W)=(W,c.d::T):=by
  unfold eO;rw[st 1 b<|WV 1];rfl
 have o:s'.n=s.n+1+c.b4:=n;refine⟨[c.d],[],s'.tl,?_,v.hd.2.2,t,by show s'.n=_;lia,Uh _,fun m _ _ T W=>rfl⟩;rw[Ft o1<|⊥,o2,e,Lu ∅ (by rw[v.is];simp)<|by simp;lia,g];rfl
def B1{c:Cn}(b5:Int)(g:xA c)
  (f:Nat) (s:Sx) (T:Rx) (W:SH) (l:List Kv) (b:Vs s<|xG (decide (c.lv<b5)) c.w++l) (i:s.t+c.b6<=20) (a:s.n+(decide (c.lv<b5)).toNat+c.b4<=20) (j:W.length<=s.n+s.t) (k:decide (c.lv<b5)=η->VW c W) (p:b5<=3):
  Rd f s T W c.d b5 (c.b6-1) c.b6 ((decide (c.lv<b5)).toNat+c.b4) l:=by
 by_cases h:c.lv<b5
 .rw[Th h]at b a⊢;exact Va g f s T W l b i a j b5
 .rw[TU h]at b a⊢
  have:=g f s T W l b i (by simpa using a) j<|k<|TU h
  refine Ij this.ex fun ts ws s' e v t n wl st=>?_;exact⟨ts,ws,s',e,v,t,by simpa using n,by simpa using wl,fun m o=>st m<|⊥⟩
theorem uP:∀(c:Cn),c.Ok->xA c
 |.br c,hc,f,s,T,W,l,hv,ht,hn,hl,hp=>Va (uP c hc) f s T W l hv ht (by rw[Nat.add_assoc];exact hn) hl 3
 |.test g a b,hc,f,s,T,W,l,hv,ht,hn,hl,hp=>by
  have i:Vs s<|a.w++kS g::(b.w++l):=by
   have e:(Cn.test g a b).w++l=a.w++kS g::(b.w++l):=by simp[Cn.w]
   rw[<-e];exact hv
  obtain⟨x,r,e,hx⟩:=LJ a;obtain⟨s',e1,v,t,n⟩:=aa0 g a b hc i (by have:(Cn.test g a b).b6=1:=rfl;lia);refine⟨[(Cn.test g a b).d],[],s',?_,v,t,n,Uh _,fun _ _ _ _ _=>rfl⟩;rw[e]at i;rw[Ra<|JL i hx,e1];rfl
 |.not c,hc,f,s,T,W,l,hv,ht,hn,hl,hp=>by
  have i:Vs s<|kK "not"::(xG (decide (c.lv<3)) c.w++l):=hv;have o:s.n+(1+(decide (c.lv<3)).toNat+c.b4)<=20:=hn;obtain⟨o1,o2⟩:=CI i (.inl ⟨rfl,rfl⟩) ⊥;obtain⟨ts,ws,s',e,v,t,n,wl,st⟩:=(B1 3 (uP c hc) f {s.tl with n:=s.n+1} T ("not"::W) l i.hd.2.2 ht (by show s.n+1+_+_<=20;lia) (by show W.length+1<=s.n+1+s.t;lia) (fun h=>.inl (by have:=of_decide_eq_false h;cases c<;>simp[Cn.lv]at this⊢)) (WV 3)).ex;have E:s'.n=s.n+1+((decide (c.lv<3)).toNat+c.b4):=n;refine⟨ts,ws++[("not":Str)],s',?_,v,t,by show _=s.n+(1+(decide (c.lv<3)).toNat+c.b4);lia,?_,fun j m h1 T W=>?_⟩
  .rw[Ft o1<|⊥,o2];rw[Vw];exact e
  .show(ws++[("not":Str)]).length<=(c.b6-1)+(1+(decide (c.lv<3)).toNat+c.b4);simp;lia
  .have hb3:j<=3:=m;rw[Vw];show aF j (ws++(("not":Str)::W)) (ts++T)=_;rw[st j hb3 h1,aF,SI (by show j<=gM "not";have:gM "not"=3:=⊤;lia),SI rfl];rfl
 |.and a b,hc,f,s,T,W,l,hv,ht,hn,hl,hp=>by
  have i:Vs s<|xG (decide (a.lv<2)) a.w++(kK "and"::(xG (decide (b.lv<3)) b.w++l)):=by
   have e:(Cn.and a b).w++l=xG (decide (a.lv<2)) a.w++(kK "and"::(xG (decide (b.lv<3)) b.w++l)):=by simp[Cn.w]
   rw[<-e];exact hv
  have o:s.n+((decide (a.lv<2)).toNat+(decide (b.lv<3)).toNat+a.b4+b.b4)<=20:=hn;have p:s.t+(a.b6+b.b6)<=20:=ht;have D:=a.pos;have C:=b.pos;have k:XF W<2:=hp.elim (fun z=>absurd z<|by simp[Cn.lv]) fun z=>z;obtain⟨ts,ws,s1,e1,v1,t1,n1,wl,st⟩:=(B1 2 (uP a hc.1) (f+(b.b6-1)+1) s T W _ i ⊥ ⊥ hl (fun h=>by have:=of_decide_eq_false h;cases a<;>simp[Cn.lv,VW]at this⊢;exact k)<|∎).ex;have u:jB s1=G:=by unfold jB;rw[v1.is];simp
  have y:jW s1="and":=by unfold jW;rw[v1.is];simp
  have b2:gM "and"=2:=⊤
  have q:aF 2 W (a.d::T)=(W,a.d::T):=by
   cases W with
   |nil=>rfl
   |cons w W=>rw[aF,SM (by have h:gM w<2:=k;lia)]
  obtain⟨ts2,ws2,s2,e2,v2,t2,n2,wl2,st2⟩:=(B1 3 (uP b hc.2) f s1.tl (a.d::T) ("and"::W) l v1.hd.2.2 (by show s1.t+_<=20;lia) (by show s1.n+_+_<=20;lia) (by show W.length+1<=s1.n+s1.t;lia) (fun h=>.inl (by have:=of_decide_eq_false h;cases b<;>simp[Cn.lv]at this⊢))<|WV 3).ex;have A:s2.n=s1.n+((decide (b.lv<3)).toNat+b.b4):=n2;have B:s2.t=s1.t+b.b6:=t2;refine⟨ts2++[a.d],ws2++[("and":Str)],s2,?_,v2,by show _=s.t+(a.b6+b.b6);lia,by show _=s.n+((decide (a.lv<2)).toNat+(decide (b.lv<3)).toNat+a.b4+b.b4);lia,?_,fun j m h1 T W=>?_⟩
  .have ef:f+((Cn.and a b).b6-1)=f+(b.b6-1)+1+(a.b6-1):=by show f+(a.b6+b.b6-1)=_;lia
   rw[ef,e1,BZ (by rw[v1.is];decide +kernel) u,y,b2,st 2 (WV 2)<|∎,q,Vw,Vw];exact e2
  .show(ws2++[("and":Str)]).length<=(a.b6+b.b6-1)+((decide (a.lv<2)).toNat+(decide (b.lv<3)).toNat+a.b4+b.b4);simp;lia
  .have hb2:j<=2:=m;rw[Vw,Vw];show aF j (ws2++(("and":Str)::W)) (ts2++(a.d::T))=_;rw[st2 j ⊥ h1,aF,SI<|by rw[b2];lia,SM<|⊤];rfl
 |.or a b,hc,f,s,T,W,l,hv,ht,hn,hl,hp=>by
  have i:Vs s<|a.w++(kK "or"::(xG (decide (b.lv<2)) b.w++l)):=by
   have e:(Cn.or a b).w++l=a.w++(kK "or"::(xG (decide (b.lv<2)) b.w++l)):=by simp[Cn.w]
   rw[<-e];exact hv
  have o:s.n+((decide (b.lv<2)).toNat+a.b4+b.b4)<=20:=hn;have p:s.t+(a.b6+b.b6)<=20:=ht;have D:=a.pos;have C:=b.pos;have k:XF W<1:=hp.elim (fun z=>absurd z<|by simp[Cn.lv]) fun z=>z;have la:=a.pC;obtain⟨ts,ws,s1,e1,v1,t1,n1,wl,st⟩:=(uP a hc.1 (f+(b.b6-1)+1) s T W _ i ⊥ ⊥ hl<|.inr<|⊥).ex;have u:jB s1=G:=by unfold jB;rw[v1.is,v1.is];simp
  have y:jW s1="or":=by
   unfold jW;rw[v1.is]
   have:(decide (lE "key"=lE "key")&&decide (lE "or"=lE "and"))=η:=⊤
   rw[this,SM MK]
  have b2:gM "or"=1:=⊤
  have q:aF 1 W (a.d::T)=(W,a.d::T):=by
   cases W with
   |nil=>rfl
   |cons w W=>rw[aF,SM (by have h:gM w<1:=k;lia)]
  obtain⟨ts2,ws2,s2,e2,v2,t2,n2,wl2,st2⟩:=(B1 2 (uP b hc.2) f s1.tl (a.d::T) ("or"::W) l v1.hd.2.2 (by show s1.t+_<=20;lia) (by show s1.n+_+_<=20;lia) (by show W.length+1<=s1.n+s1.t;lia) (fun h=>.inr (by show gM "or"<b.lv;have:=of_decide_eq_false h;lia))<|∎).ex;have A:s2.n=s1.n+((decide (b.lv<2)).toNat+b.b4):=n2;have B:s2.t=s1.t+b.b6:=t2;refine⟨ts2++[a.d],ws2++[("or":Str)],s2,?_,v2,by show _=s.t+(a.b6+b.b6);lia,by show _=s.n+((decide (b.lv<2)).toNat+a.b4+b.b4);lia,?_,fun j m h1 T W=>?_⟩
  .have ef:f+((Cn.or a b).b6-1)=f+(b.b6-1)+1+(a.b6-1):=by show f+(a.b6+b.b6-1)=_;lia
   rw[ef,e1,BZ (by rw[v1.is];decide +kernel) u,y,b2,st 1 la<|∎,q,Vw,Vw];exact e2
  .show(ws2++[("or":Str)]).length<=(a.b6+b.b6-1)+((decide (b.lv<2)).toNat+a.b4+b.b4);simp;lia
  .have hb2:j<=1:=m;rw[Vw,Vw];show aF j (ws2++(("or":Str)::W)) (ts2++(a.d::T))=_;rw[st2 j ⊥ h1,aF,SI<|by rw[b2];omega,SM<|⊤];rfl
def PB(c:Cn)(o:c.Ok)(u:Vs s<|c.w++x::l)(A:s.t=0)(E:s.n=0)(h1:c.b6<=20)(h2:c.b4<=20)(g:x≠kK "and"/\x≠kK "or"/\x≠kS ")"):∃s',qk s=.ok c.d s'/\Vs s' (x::l):=by
 have C:=c.pos;refine Ij ((uP c o (30-(c.b6-1)) s [] [] (x::l) u ⊥ #[28] (Uh _)<|.inr (by show(0:Int)<c.lv;have:=c.pC;trivial)).ex) fun r ws s' e v t n B st=>?_;have q:s'.hd.kv=x:=by obtain⟨a,b,_⟩:=v.hd;delta Tok.kv;rw[a,b]
 have f:∀k y,x≠((k,.str y):Kv)->s'.hd.is k y=η:=fun k y h=>Wc.mpr fun z=>h (by rw[<-q];delta Tok.kv;rw[eU z,nA z]);have j:=st 1 c.pC (WV 1) [] [];rw[Wz,Wz]at j;have p:aF 1 ws r=([],[c.d]):=j;refine⟨s',?_,v⟩;have m:30-(c.b6-1)+(c.b6-1)=30:=⊥
 rw[m]at e;rw[Q5,e,show 30-(c.b6-1)=(29-(c.b6-1))+1 by grind,noL (f _ _ g.2.2)<|by delta jB;rw[f _ _ g.1,f _ _ g.2.1];rfl,Wz,Wz];delta KG;have i:("(":Str)∉ws:=fun z=>by
  have F:∀(W:SH)(T:Rx),("(":Str)∈W->("(":Str)∈(aF 1 W T).1:=fun W=>by
   induction W with
   |nil=>intro T h;nofun
   |cons w W D=>
    intro T h;unfold aF;split
    .rename_i i;have hw:("(":Str)∈W:=by
      rcases eQ.mp h with h|h
      .rw[<-h,afn]at i;lia
      .exact h
     grind
    .exact h
  grind
 rw[SM i];delta RF;rw[p];rfl
def Reads{β:Type}(f:Sx->Q Sx D)(w:β->List Kv)(d:β->D)(N:Kv->Prop):Prop:=∀b s y l,N y->Vs s (w b++y::l)->∃s',f s=.ok (d b) s'/\Vs s' (y::l)/\s'.t=s.t/\s'.n=s.n
noncomputable def cJ{β:Type}(w:β->List Kv):List β->List Kv
 |[]=>[]
 |b::bs=>kS ","::(w b++cJ w bs)
section
variable{β:Type}{f:Sx->Q Sx D}{w:β->List Kv}{d:β->D}{N:Kv->Prop}
theorem HB(R:Reads f w d N)(o:N<|kS ",")(m:N y)(c:y≠kS ","):∀(bs:List β)(n:Nat)(ds:Rx)(s:Sx),bs.length<=n->Vs s (cJ w bs++y::l)->∃s',ky f n ds s=.ok (ds++bs.map d) s'/\Vs s' (y::l)/\s'.t=s.t/\s'.n=s.n
 |[],n,ds,s,hn,hv=>by
  refine⟨s,?_,hv,rfl,rfl⟩;have B:s.hd.kv=y:=by obtain⟨a,b,_⟩:=Vs.hd hv;delta Tok.kv;rw[a,b]
  rw[t4,Wz];cases n with
  |zero=>rfl
  |succ n=>
   rw[ky,SM fun z=>c ?_];rw[<-B];delta Tok.kv;rw[eU z,nA z]
 |b::bs,0,ds,s,hn,hv=>by mright
 |b::bs,n+1,ds,s,hn,hv=>by
  have g:Vs s<|kS ","::(w b++(cJ w bs++y::l)):=by
   have e:cJ w (b::bs)++y::l=kS ","::(w b++(cJ w bs++y::l)):=by simp[cJ]
   rw[<-e];exact hv
  have h1:=g.hd.2.2;have u:∃y' h,cJ w bs++y::l=y'::h/\N y':=by
   cases bs with
   |nil=>exact⟨y,l,rfl,m⟩
   |cons E bs=>exact⟨_,_,rfl,o⟩
  left;obtain⟨y',h,j,i⟩:=u;rw[j]at h1;refine gR (R b s.tl y' h i h1) fun k e1 p r C=>?_;rw[<-j]at p;refine gR (HB R o m c bs n (ds++[d b]) k (by simpa using hn) p) fun A x D q v=>?_;right;refine⟨A,?_,D,q.trans r,v.trans C⟩;rw[ky,SI<|by rw[g.is];rfl,e1];show ky f n (ds++[d b]) k=_;rw[x];simp
def Ey(R:Reads f w d N)(j:N<|kS ",")(i:N y)(c:y≠kS ",")(b:β)(bs:List β)(m:Nat)(B:bs.length+1<=m)(o:Vs s<|w b++(cJ w bs++y::l)):∃s',pF f m s=.ok (.tup<|(b::bs).map d) s'/\Vs s' (y::l)/\s'.t=s.t/\s'.n=s.n:=by
 have u:∃y' a,cJ w bs++y::l=y'::a/\N y':=by
  cases bs with
  |nil=>exact⟨y,l,rfl,i⟩
  |cons C bs=>exact⟨_,_,rfl,j⟩
 left;obtain⟨y',a,g,e⟩:=u;rw[g]at o;obtain⟨h,e1,k,q,z⟩:=R b s y' a e o;rw[<-g]at k;obtain⟨x,v,A,p,r⟩:=HB R j i c bs (m-1) [d b] h (by grind) k;right;refine⟨x,?_,A,p.trans q,r.trans z⟩;delta pF;rw[e1];show(ky f (m-1) [d b] h).bind _=_;rw[v];rfl
end
abbrev bW:=Str×Str
noncomputable def qO(p:bW):List Kv:=[kN p.1,kS ".",kN p.2]
noncomputable def j9(p:bW):D:=.tup [.str "column",.str p.1,.str p.2]
def Gg:Reads ng qO j9 fun _=>True:=fun b s y l _ h=>MM h
noncomputable def qW(p:bW):List Kv:=if p.1=p.2 then[kN p.1]else[kN p.1,kN p.2]
noncomputable def je(p:bW):D:=.tup [.str p.1,.str p.2]
def Sde:Reads uC qW je fun y=>y.1≠"name":=fun p s y l a h=>by
 delta qW at h;cbv
 .rename_i e;have h'  := h;have h1:=h'.hd.2.2;refine⟨s.tl,?_,h1,rfl,rfl⟩;delta uC;rw[lG h'];show(if _ then _ else _)=_;rw[SM<|by rw[h1.hd.1];exact a];delta je;rw[e]
 .have h'  := h;have h1:=h'.hd.2.2;refine⟨s.tl.tl,?_,h1.hd.2.2,rfl,rfl⟩;delta uC;rw[lG h'];show(if _ then _ else _)=_;rw[h1.hd.1,lG h1];rfl
def sZ(p:bW×Bool):List Kv:=qO p.1++(if p.2=G then[kK "down"]else[])
def gO(p:bW×Bool):D:=.tup [j9 p.1,.bl p.2]
theorem afr:Reads yV sZ gO fun y=>y≠kK "down":=fun p s y l i h=>by
 obtain⟨q,b⟩:=p;cases b with
 |true=>
  have h'  := by
   assumption
  obtain⟨c,e1,d,e,f⟩:=Gg q s _ _ trivial h';refine⟨c.tl,?_,d.hd.2.2,e,f⟩;delta yV;rw[e1];show Q.ok (D.tup [j9 q,.bl (kO "key" "down" c).1]) (kO "key" "down" c).2=_
  have:kO "key" "down" c=(G,c.tl):=SI (by rw[d.is];rfl)
  rw[this];rfl
 |false=>
  have h'  := by
   assumption
  obtain⟨c,e1,d,e,f⟩:=Gg q s _ _ trivial h';refine⟨c,?_,d,e,f⟩;have g:c.hd.kv=y:=by obtain⟨a,b,_⟩:=d.hd;delta Tok.kv;rw[a,b]
  delta yV;rw[e1];show Q.ok (D.tup [j9 q,.bl (kO "key" "down" c).1]) (kO "key" "down" c).2=_
  have:kO "key" "down" c=(η,c):=SM fun z=>i (by rw[<-g];delta Tok.kv;rw[eU z,nA z])
  rw[this];rfl
structure Qn where
 s:bW
 ss:List bW
 cd:Option Cn
 os:List<|bW×Bool
 c:bW
 cs:List bW
 tk:Option Int
def Qn.Xd(q:Qn):D:=match q.cd with
 |some c=>c.d
 |none=>.S9
noncomputable def Qn.wX(q:Qn):D:=match q.tk with
 |some i=>.int i
 |none=>.S9
def Qn.d(q:Qn):D:=.tup [.str "ask",.tup<|(q.s::q.ss).map je,q.Xd,.tup<|q.os.map gO,.tup<|(q.c::q.cs).map j9,q.wX]
def Nk:Option Cn->List Kv
 |some c=>kK "where"::c.w
 |none=>[]
def Cv:List (bW×Bool)->List Kv
 |[]=>[]
 |o::os=>kK "order"::kK "by"::(sZ o++cJ sZ os)
noncomputable def Rr:Option Int->List Kv
 |some i=>[kK "take",("number",.int i)]
 |none=>[]
def Qn.w(q:Qn):List Kv:=kK "from"::(qW q.s++(cJ qW q.ss++(Nk q.cd++(Cv q.os++kK "show"::(qO q.c++(cJ qO q.cs++Rr q.tk))))))
structure Qn.Ok(q:Qn):Prop where
 s:q.ss.length<=2
 o:q.os.length<=8
 c:q.cs.length<=7
 t:∀c,q.cd=J c->c.Ok/\c.b6<=20
 k:∀i,q.tk=J i->0<=i
def key_ne(h:x≠y):kK x≠kK y:=fun z=>h<|D.str.inj<|UN z9 z
abbrev kE:Kv:=("end",.S9)
def AG(e:Vs s<|y::l)(h:y≠kK k):iy k f d s=.ok d s:=SM fun z=>h (by
 have c:s.hd.kv=y:=by obtain⟨a,b,_⟩:=e.hd;delta Tok.kv;rw[a,b]
 rw[<-c];delta Tok.kv;rw[eU z,nA z])
def xn(a:Vs s<|kK k::l):iy k f d s=f s.tl:=SI (by rw[a.is];simp)
def vW:kK x≠kS y:=gW ⊤
def AF(q:Qn)(r:q.Ok)(h2:∀c,q.cd=J c->c.b4<=20)(hv:Vs s<|q.w++[kE])(R:s.t=0)(hn:s.n=0):∃s',qP s=.ok q.d s':=by
 have m:Vs s<|kK "from"::(qW q.s++(cJ qW q.ss++(Nk q.cd++(Cv q.os++kK "show"::(qO q.c++(cJ qO q.cs++(Rr q.tk++[kE]))))))):=by
  have e:q.w++[kE]=kK "from"::(qW q.s++(cJ qW q.ss++(Nk q.cd++(Cv q.os++kK "show"::(qO q.c++(cJ qO q.cs++(Rr q.tk++[kE]))))))):=by simp[Qn.w]
  rw[<-e];exact hv
 generalize I:qO q.c++(cJ qO q.cs++(Rr q.tk++[kE]))=R3 at m;have b2:∃x l,Cv q.os++kK "show"::R3=kK x::l/\(x="order"\/x="show"):=by
  cases q.os with
  |nil=>exact⟨_,_,rfl,.inr rfl⟩
  |cons o os=>exact⟨_,_,rfl,.inl rfl⟩
 have b1:∃x l,Nk q.cd++(Cv q.os++kK "show"::R3)=kK x::l:=by
  cases q.cd with
  |none=>obtain⟨x,l,e,_⟩:=b2;exact⟨x,l,e⟩
  |some c=>exact⟨_,_,rfl⟩
 left;obtain⟨x2,l2,M,p⟩:=b2;obtain⟨x1,l1,e1⟩:=b1;have P:=m.hd.2.2;rw[e1]at P;obtain⟨h,r2,D,X,n2⟩:=Ey Sde (show(kS ",").1≠"name" by trivial) (show(kK x1).1≠"name" by show lE "key"≠_;decide +kernel) vW q.s q.ss 3 (by have:=r.s;lia) P;rw[<-e1]at D;have N:h.t=0:=X.trans R;have F:h.n=0:=n2.trans hn
 have h3:∃g,iy "where" qk .S9 h=.ok q.Xd g/\Vs g (Cv q.os++kK "show"::R3):=by
  cases hc:q.cd with
  |none=>
   rw[hc]at D;have a:Vs h<|Cv q.os++kK "show"::R3:=D;refine⟨h,?_,a⟩;rw[M]at a;rw[AG a<|key_ne (by rcases p with rfl|rfl<;>decide +kernel)];delta Qn.Xd;rw[hc]
  |some c=>
   rw[hc]at D;have a:Vs h<|kK "where"::(c.w++(Cv q.os++kK "show"::R3)):=D;have C:=a.hd.2.2;rw[M]at C;obtain⟨g,r3,v⟩:=PB c (r.t c hc).1 (s:=h.tl) C N F (r.t c hc).2 (h2 c hc) ⟨key_ne (by rcases p with rfl|rfl<;>decide +kernel),key_ne (by rcases p with rfl|rfl<;>trivial),vW⟩;refine⟨g,?_,by rw[M];exact v⟩;rw[xn a,r3];delta Qn.Xd;rw[hc]
 obtain⟨g,r3,v⟩:=h3
 have Q:∃j,iy "order" vM (.tup []) g=.ok (.tup<|q.os.map gO) j/\Vs j (kK "show"::R3):=by
  cases ho:q.os with
  |nil=>
   rw[ho]at v;have b:Vs g<|kK "show"::R3:=v;exact⟨g,AG b<|key_ne<|⊤,b⟩
  |cons o os=>
   rw[ho]at v;have b:Vs g<|kK "order"::kK "by"::(sZ o++(cJ sZ os++kK "show"::R3)):=by
    have e:Cv (o::os)++kK "show"::R3=kK "order"::kK "by"::(sZ o++(cJ sZ os++kK "show"::R3)):=by simp[Cv]
    rw[<-e];exact v
   have u:=b.hd.2.2;refine gR (Ey afr (show kS ","≠kK "down"from gW ⊤) (show kK "show"≠kK "down"from key_ne ⊤) vW o os 8 (by have:=r.o;rw[ho]at this;trivial) u.hd.2.2) fun j r4 E _ _=>?_;refine⟨j,?_,E⟩;rw[xn b];delta vM;rw[sG u];exact r4
 obtain⟨j,r4,E⟩:=Q;have H:=E.hd.2.2;rw[<-I]at H;have V:∃y l,Rr q.tk++[kE]=y::l/\y≠kS ",":=by
  cases q.tk with
  |none=>exact⟨_,_,rfl,gW<|⊤⟩
  |some i=>exact⟨_,_,rfl,vW⟩
 obtain⟨y6,l6,O,K⟩:=V;rw[O]at H;obtain⟨A,T,B,_,_⟩:=Ey Gg trivial trivial K q.c q.cs 8 (by have:=r.c;mright) H;rw[<-O]at B;have h7:∃s7,iy "take" zm .S9 A=.ok q.wX s7/\Vs s7 [kE]:=by
  cases hk:q.tk with
  |none=>
   rw[hk]at B;have f:Vs A [kE]:=B;refine⟨A,?_,f⟩;rw[AG f<|gW<|⊤];delta Qn.wX;rw[hk]
  |some i=>
   rw[hk]at B;have f:Vs A<|kK "take"::("number",.int i)::[kE]:=B;have u:=f.hd.2.2;refine⟨A.tl.tl,?_,u.hd.2.2⟩;rw[xn f];delta zm;rw[SM (by rw[u.hd.2.1];intro z;have:=WI z.2;have:=r.k i hk;lia),lG u];delta Qn.wX;rw[hk]
 obtain⟨s7,W,S⟩:=h7;right;refine⟨s7,?_⟩;delta qP;rw[sG m];show(pF uC 3 s.tl).bind _=_;rw[r2];show(iy "where" qk .S9 h).bind _=_;rw[r3];show(iy "order" vM (.tup []) g).bind _=_;rw[r4];show(dq "key" "show" j).bind _=_;rw[sG E];show(pF ng 8 j.tl).bind _=_;rw[T];show(iy "take" zm .S9 A).bind _=_;rw[W];show(if _ then _ else _)=_;rw[SI S.hd.1];rfl
def Xc(s s':Sx):Prop:=s'.ts <:+ s.ts
theorem Xc.trans(a:Xc s1 s2)(b:Xc s2 s3):Xc s1 s3:=List.IsSuffix.trans b a
def dI(s:Sx):Xc s s.tl:=List.tail_suffix _
def Xc.refl(s:Sx):Xc s s:=List.suffix_refl _
def vi{α:Type}(f:Sx->Q Sx α):Prop:=∀s a s',f s=.ok a s'->Xc s s'
def xZ:vi<|b8 k:=fun s a s' h=>by
 unfold b8 at h;cbv
 .nofun;exact dI s
 .nofun
def yC:vi<|dq k x:=fun s a s' h=>by
 unfold dq at h;cbv
 .nofun;exact dI s
 .nofun
theorem To{α β:Type}{q:Q Sx α}{f:α->Sx->Q Sx β}{b:β}{s':Sx}(h:q.bind f=.ok b s'):∃a s1,q=.ok a s1/\f a s1=.ok b s':=by
 cases q with
 |ok a s=>exact⟨a,s,rfl,h⟩
 |er s=>nofun
def bB{f:Sx->Q Sx α}{g:α->Sx->Q Sx β}(c:vi f)(d:∀a,vi<|g a):vi fun s=>(f s).bind g:=fun s b s' h=>by
 obtain⟨a,s1,h1,h2⟩:=To h;exact(c s a s1 h1).trans<|d a s1 b s' h2
def wP{f:Sx->α}:vi fun s=>.ok (f s) s:=fun s a s' h=>by nofun;exact .refl _
def Sw:vi ng:=bB xZ fun _=>bB yC fun _=>bB xZ fun _=>wP
def EF:vi rf:=fun s a s' h=>by
 unfold rf at h;cbv
 .exact Sw s a s' h
 .cbv
  .nofun;exact dI s
  .exact bB yC (fun _=>wP) s a s' h
def j8(w:Tok):Bool:=w.is "sign" "("
def lp(l:List Tok):Nat:=l.countP j8
theorem Xc.lp(h:Xc s s'):lp s'.ts<=lp s.ts:=List.Sublist.countP_le<|List.IsSuffix.sublist h
inductive Yp:D->Nat->Int->Prop
 |test (g a b:D):Yp (.tup [.str "test",g,a,b]) 0 3
 |not (t:D) (n:Nat) (l:Int) (h:Yp t n l):Yp (.tup [.str "not",t]) (n+(decide (l<3)).toNat) 3
 |Lh (w:Str) (hw:w="and"\/w="or") (t u:D) (n m:Nat) (l k:Int) (h1:Yp t n l) (h2:Yp u m k):Yp (.tup [.str w,t,u]) (n+m+(decide (l<gM w)).toNat+(decide (k<=gM w)).toNat) (gM w)
def wF:SH->Rx->Nat->Prop
 |[],T,_=>T=[]
 |w::W,T,n=>if w="("then ∃m,m+1<=n/\wF W T m else if w="not"then wF W T n else(w="and"\/w="or")/\(match T with
  |t::T=>∃k l m,Yp t k l/\k+(decide (l<gM w)).toNat+m<=n/\wF W T m/\XF W<gM w
  |[]=>False)
def vg(W:SH)(T:Rx)(n:Nat)(C:Int->Nat->Prop):Prop:=∃t T' k l β m,T=t::T'/\Yp t k l/\k+β+m<=n/\wF W T' m/\C l β
def ain:gM "("=0:=⊤
def W5:gM "not"=3:=⊤
def EG{w:Str}(h:w="and"\/w="or"):1<=gM w/\gM w<=2/\w≠"("/\w≠"not":=by
 rcases h with rfl|rfl<;>decide +kernel
def agC(b:Int)(d:1<=b):∀(W:SH)(T:Rx)(n:Nat),vg W T n (fun l β=>β=1\/l=3\/XF W<l/\b<=l) ->
  vg (aF b W T).1 (aF b W T).2 n (fun l β=>β=1\/l=3\/b<=l)/\XF (aF b W T).1<b/\((("(":Str)∈W)↔("(":Str)∈(aF b W T).1):=TB (fun T n h=>by
  obtain⟨t,T',k,l,β,m,e,h1,h2,h3,h4⟩:=h;exact⟨⟨t,T',k,l,β,m,e,h1,h2,h3,by rcases h4 with h|h|h;exact .inl h;exact .inr (.inl h);exact .inr (.inr h.2)⟩,by show(0:Int)<b;lia,Iff.rfl⟩) fun w W i_ T n h=>by
  obtain⟨t,T',k,l,β,m,rfl,h1,h2,h3,h4⟩:=h;unfold aF;by_cases hw:b<=gM w
  .rw[SI hw];unfold wF at h3;have f:w≠"(":=fun z=>by rw[z,ain]at hw;lia
   rw[SM f]at h3;have a:∀r:SH,((("(":Str)∈W)↔("(":Str)∈r)->((("(":Str)∈w::W)↔("(":Str)∈r):=fun r g=>by
    rw[eQ,<-g];exact⟨fun z=>z.elim (fun e=>absurd e.symm f) id,.inr⟩
   by_cases c:w="not"
   .rw[SI c]at h3⊢;subst c;have q:k+(decide (l<3)).toNat+m<=n:=by
     rcases h4 with h|h|h
     .have:=Bool.toNat_le<|decide (l<3);lia
     .subst h;simp;lia
     .have:l=3\/¬l<3:=by have:=h.1;change gM "not"<l at this;rw[W5]at this;lia
      rw[TU<|⊥];simp;lia
    obtain⟨i1,i2,i3⟩:=i_ (.tup [.str "not",t]::T') n ⟨_,T',_,3,0,m,rfl,.not t k l h1,(by omega),h3,.inr<|.inl rfl⟩;exact⟨i1,i2,a _ i3⟩
   .rw[SM c]at h3⊢;obtain⟨aoq,h3⟩:=h3;cases T' with
    |nil=>exact h3.elim
    |cons u T'=>
     obtain⟨k2,l2,j,g1,g2,g3,g4⟩:=h3;have q:(decide (l<=gM w)).toNat<=β:=by
      obtain⟨a1,a2,_⟩:=EG aoq;rcases h4 with h|h|h
      .have:=Bool.toNat_le<|decide (l<=gM w);lia
      .subst h;rw[TU<|⊥];simp
      .have:=h.1;change gM w<l at this;rw[TU<|⊥];simp
     obtain⟨i1,i2,i3⟩:=i_ (.tup [.str w,u,t]::T') n ⟨_,T',_,gM w,0,j,rfl,.Lh w aoq u t k2 k l2 l g1 h1,⊥,g3,.inr<|.inr ⟨g4,hw⟩⟩;exact⟨i1,i2,a _ i3⟩
  .rw[SM hw];exact⟨⟨t,T',k,l,β,m,rfl,h1,h2,h3,⊥⟩,by show gM w<b;lia,Iff.rfl⟩
def xt(s:Sx)(T:Rx)(W:SH)(N:Nat):Prop:=∃n,wF W T n/\n+lp s.ts<=N
def zg(s:Sx)(T:Rx)(W:SH)(N:Nat):Prop:=∃n,vg W T n (fun l β=>β=1\/l=3)/\n+lp s.ts<=N
def zg.set(h:zg s T W N)(b:Int)(a:1<=b):∃n,n+lp s.ts<=N/\vg (aF b W T).1 (aF b W T).2 n (fun l β=>β=1\/l=3\/b<=l)/\XF (aF b W T).1<b/\((("(":Str)∈W)↔("(":Str)∈(aF b W T).1):=by
 obtain⟨n,⟨t,T',k,l,β,m,e,h1,h2,h3,h4⟩,hn⟩:=h;exact⟨n,hn,agC b a W T n ⟨t,T',k,l,β,m,e,h1,h2,h3,by rcases h4 with h|h;exact .inl h;exact .inr (.inl h)⟩⟩
theorem aiH{s:Sx}(h:s.hd.is "sign" "("=G):lp s.ts=lp s.tl.ts+1:=by
 obtain⟨ts,t,n⟩:=s;cases ts with
 |nil=>have q:("end":Str)="sign":=eU h;exact absurd q ⊤
 |cons w r=>
  exact List.countP_cons_of_pos h
theorem UT:∀(f:Nat)(s:Sx)(W a:SH)(s':Sx),xD f s W=.ok a s'->xt s T W N->xt s' T a N
 |0,_,_,_,_,h,_=>nomatch h
 |f+1,s,W,a,s',h,⟨n,h1,h2⟩=>by
  rw[xD]at h;cbv
  .rename_i hb;cbv
   .nofun
   .refine UT f _ _ a s' h ?_;unfold mv;by_cases e:s.hd.is "key" "not"=G
    .rw[e];refine⟨n,?_,RW (Nat.add_le_add_left (dI s).lp _) h2⟩;assumption
    .have e2  := by unfold iq at hb;simpa[e]using hb
     have:=aiH e2
     refine⟨n+1,?_,by grind⟩;unfold wF
     grind
  .nofun;exact⟨n,h1,h2⟩
def Vj(h:qV s=.ok d s'):Yp d 0 3/\Xc s s':=by
 unfold qV at h;cbv
 .nofun
 .obtain⟨one,s1,h1,h⟩:=To h;have a1  := EF {s with t:=s.t+1} one s1 h1;cbv
  .obtain⟨Lh,s2,h2,h⟩:=To h;nofun;exact⟨.test _ _ _,(a1.trans<|dI s1).trans<|EF _ _ _ h2⟩
  .nofun
def ahg:∀(f:Nat)(s:Sx)(T:Rx)(W:SH),zg s T W N->zg (cls f s T W).1 (cls f s T W).2.1 (cls f s T W).2.2 N:=X5 (fun _ _ _ h=>h) fun f i_ s T W h=>by
  unfold cls;split
  .refine i_ _ _ _ ?_;obtain⟨n,hn,⟨t,T',k,l,β,m,e,h1,h2,h3,h4⟩,ht,hp⟩:=h.set 1<|WV 1;unfold eO;rw[e];cases hW:(aF 1 W T).1 with
   |nil=>mright
   |cons w r=>
    rw[hW]at h3 ht;change gM w<1 at ht
    unfold wF at h3;by_cases hw:w="("
    .rw[hw]at h3;obtain⟨j,g1,g2⟩:=h3;exact⟨n,⟨t,T',k,l,1,j,rfl,h1,⊥,g2,.inl rfl⟩,RW (Nat.add_le_add_left (dI s).lp _) hn⟩
    .rw[SM hw]at h3;split at h3
     .rename_i e2;rw[e2,W5]at ht;lia
     .have:=(EG h3.1).1;lia
  .exact h
def Tf(h:oC s T W=.ok p s')(o:xt s T W N):zg s' p.1 p.2 N:=by
 obtain⟨W1,s1,h1,h⟩:=To h;obtain⟨n,c1,c2⟩:=UT 30 s W W1 s1 h1 o;obtain⟨d,s2,h2,h⟩:=To h;obtain⟨d1,d2⟩:=Vj h2;nofun;exact ahg 100 s2 (d::T) W1 ⟨n,⟨d,T,0,3,0,n,rfl,d1,⊥,c1,.inr rfl⟩,RW (Nat.add_le_add_left d2.lp _) c2⟩
theorem Sy:∀(f:Nat)(s:Sx)(T:Rx)(W:SH)(p:List D×SH)(s':Sx),jf f s T W=.ok p s'->zg s T W N->zg s' p.1 p.2 N
 |0,_,_,_,_,_,h,_=>nomatch h
 |f+1,s,T,W,p,s',h,a=>by
  rw[jf]at h;cbv
  .rename_i hj;refine X7 (To h) fun q s1 h1 h=>?_;exact Sy f s1 q.1 q.2 p s' h<|Tf h1<|(fun h b => by
      have a:=(Ye b).2.2.2.2;obtain⟨a1,a2,a3,a4⟩:=EG a;obtain⟨n,hn,⟨t,T',k,l,β,m,e,h1,h2,h3,h4⟩,ht,hp⟩:=h.set (gM<|jW s) a1;refine⟨n,?_,RW (Nat.add_le_add_left (dI s).lp _) hn⟩;unfold wF;rw[SM a3,SM a4,e];refine⟨a,k,l,m,h1,?_,h3,ht⟩
      have:(decide (l<gM (jW s))).toNat<=β:=by
       rcases h4 with h|h|h
       .have:=Bool.toNat_le<|(l<gM (jW s));lia
       .grind
       grind
      lia) a hj
  .nofun;exact a
def ahE(h:qk s=.ok d s'):∃n l,Yp d n l/\n+lp s'.ts<=lp s.ts:=by
 obtain⟨p,s1,h1,h⟩:=To h;have b:=Tf (N:=lp s.ts) h1 ⟨0,rfl,⊥⟩;obtain⟨q,s2,h2,h⟩:=To h;have a:=Sy 30 s1 p.1 p.2 q s2 h2 b;cbv
 .nofun
 .nofun;obtain⟨n,hn,⟨t,T',k,l,β,m,e,g1,g2,g3,g4⟩,ht,hp⟩:=a.set 1<|WV 1;unfold RF
  grind
def q_i(h:qP s=.ok d s'):∃ss cd os cs tk,d=.tup [.str "ask",ss,cd,os,cs,tk]/\(cd=.S9\/∃n l,Yp cd n l/\n<=lp s.ts):=by
 obtain⟨_,s1,h1,h⟩:=To h;have g:=(yC _ _ _ h1).lp;refine X7 (To h) fun ss s2 h2 h=>?_;have i:lp s2.ts<=lp s1.ts:=by
  have c:vi uC:=bB xZ fun t s a s' h=>by
   cbv
   .exact bB xZ (fun b=>wP (f:=fun _=>D.tup [t,b])) s a s' h
   .nofun;exact .refl _
  have e:∀n ds,vi<|ky uC n ds:=fun n=>by
   induction n with
   |zero=>exact fun ds s a s' h=>by nofun;exact .refl _
   |succ n ih=>
    intro ds s a s' h;unfold ky at h;cbv
    .exact(dI s).trans (bB c (fun d=>ih<|ds++[d]) s.tl a s' h)
    .nofun;exact .refl _
  exact(bB c (fun d=>bB (e _ _) fun ds=>wP) _ _ _ h2).lp
 refine X7 (To h) fun cd s3 h3 h=>?_;obtain⟨os,s4,h4,h⟩:=To h;obtain⟨_,s5,h5,h⟩:=To h;obtain⟨cs,s6,h6,h⟩:=To h;obtain⟨tk,s7,h7,h⟩:=To h;cbv
 .unfold iy at h3;split at h3
  .obtain⟨n,l,q1,q2⟩:=ahE h3
   have:=(dI s2).lp
   grind
  .grind
 .nofun
def Cn.nd:Cn->Nat
 |.test _ _ _=>0
 |.not c=>c.nd+(decide (c.lv<3)).toNat
 |.and a b=>a.nd+b.nd+(decide (a.lv<2)).toNat+(decide (b.lv<=2)).toNat
 |.or a b=>a.nd+b.nd+(decide (a.lv<1)).toNat+(decide (b.lv<=1)).toNat
 |.br c=>c.nd
def Cn.Pl:Cn->Prop
 |.test _ _ _=>True
 |.not c=>c.Pl
 |.and a b=>a.Pl/\b.Pl
 |.or a b=>a.Pl/\b.Pl
 |.br _=>False
theorem z0:∀(c:Cn),c.Pl->∀n l,Yp c.d n l->n=c.nd/\l=c.lv
 |.test g a b,_,n,l,h=>by
  nofun;exact⟨rfl,rfl⟩
 |.not c,hc,n,l,h=>by
  nofun;rename_i n l h;obtain⟨rfl,rfl⟩:=z0 c hc n l h;exact⟨rfl,rfl⟩
 |.and a b,hc,n,l,h=>by
  nofun;rename_i n m l k hw h1 h2;obtain⟨rfl,rfl⟩:=z0 a hc.1 n l h1;obtain⟨rfl,rfl⟩:=z0 b hc.2 m k h2;exact⟨rfl,rfl⟩
 |.or a b,hc,n,l,h=>by
  nofun;rename_i n m l k hw h1 h2;obtain⟨rfl,rfl⟩:=z0 a hc.1 n l h1;obtain⟨rfl,rfl⟩:=z0 b hc.2 m k h2;exact⟨rfl,rfl⟩
def aw(l:Ru):Str:=⟨l.toArray⟩
def az(l:Ru):(aw l).cps.toList=l:=by simp[aw]
def bM(l:Ru):(aw l).length=l.length:=by rfl
def lu{a b:Str}(h:a.cps.toList=b.cps.toList):a=b:=by
 cases a;mright
def zn(z:Str):z=aw z.cps.toList:=lu (az _).symm
def mk_eq(h:z.cps.toList=l):z=aw l:=lu<|h.trans rfl.symm
def mk_inj:aw a=aw b↔a=b:=⟨fun h=>by have:=UN (fun z  => z.cps.toList) h;trivial,fun h=>by rw[h]⟩
def dH(a b:Str):(a++b).cps.toList=a.cps.toList++b.cps.toList:=by
 show(a.cps++b.cps).toList=_;simp
def Pc(a b:Ru):aw a++aw b=aw (a++b):=lu (by rw[dH,az,az,az])
def qe(a b:Ru)(h:a.length+b.length<=1000000):eZ (.str<|aw a) (.str<|aw b)=.ok (.str<|aw<|a++b):=by
 rw[Nd,bM,bM,SI h,Pc]
def Jl:lE "\""=aw [34]:=⊤
def ZU:lE "-"=aw [45]:=⊤
def ZO:lE "0"=aw [48]:=⊤
def Nv:lE "none"=aw [110,111,110,101]:=⊤
def RX:lE "0123456789"=aw [48,49,50,51,52,53,54,55,56,57]:=⊤
def jE(c:Nat):(⟨#[c]⟩:Str)=aw [c]:=rfl
def Ri(x:Str)(c:Nat):pQ x (aw [c])=decide (x.cps.toList[0]?=J c):=by
 have h:=ac3 x c 0;rw[jE]at h;rw[iC];delta pQ
 mright
theorem Kl(x:Str)(c:Nat):Jo x (aw [c])=decide (c∈x.cps.toList):=PySem.StrLaws.found_one x c
def ub(x:Str)(c:Nat):rE (.str<|aw [c]) (.str x)=.ok (.bl<|decide (c∈x.cps.toList)):=by
 delta rE Ue;simp only[Kl,lU];rfl
def nY(z:Str):z.cps.toList.length=z.length:=by rfl
def GJ(a b:Nat):(([a]:Ru)<[b])↔a<b:=by
 constructor
 .intro h;cases h with
  |rel h=>exact h
  |cons h=>nofun
 .intro h;exact List.Lex.rel h
def KQ(X:Ru)(a:Nat)(h:X.length<=90000):xo (.str<|aw<|a::X) (J 1) U=.ok (.str<|aw X):=by
 delta xo;simp;rw[bM,SI<|by simp;lia];congr 2;delta rY;refine mk_eq ?_;rw[az,bM];have e1:HT.T5 (a::X).length 0 (J 1)=1:=by rfl
 have b:HT.T5 (a::X).length (a::X).length U=X.length+1:=by rfl
 rw[e1,b];simp
noncomputable def j7(c:Nat):Bool:=decide (48<=c/\c<=57)
def HL(c:Nat):(decide (c∈[48,49,50,51,52,53,54,55,56,57]))=j7 c:=by
 refine decide_eq_decide.mpr ((List.mem_range'_1 (s:=48) (n:=10)).trans ?_);lia
abbrev vy:D:=.str "0123456789"
noncomputable abbrev tY:D:=.tup [.str "and",.str "by",.str "down",.str "from",.str "none",.str "not",.str "or",.str "order",.str "show",.str "take",.str "where"]
def low(c:Nat):Bool:=decide (97<=c)&&decide (c<=122)
def aaf(c:Nat)(h:x.cps.toList=[k]):C9 (.str ⟨#[c]⟩) (.str x)=.ok (.bl<|decide (k<=c)):=by
 rw[alw,h];congr 2;rw[<-decide_not];exact decide_eq_decide.mpr (by rw[GJ];simp)
def tq5(c:Nat)(h:x.cps.toList=[k]):Mp (.str ⟨#[c]⟩) (.str x)=.ok (.bl<|decide (c<=k)):=by
 rw[aaV,h];congr 2;rw[<-decide_not];exact decide_eq_decide.mpr (by rw[GJ];simp)
def pv(c:Nat):fJ [.str ⟨#[c]⟩]=.ok (.bl<|low c):=aq<|ar<|wY ((aaf c rfl))<|(tq5 c rfl)
noncomputable def Jq:Se:=[.str "and",.str "by",.str "down",.str "from",.str "none",.str "not",.str "or",.str "order",.str "show",.str "take",.str "where"]
def oX(z:Str):Bool:=Eh (.str z) Jq
def Fc(z:Str):mI (.str z) tY=.ok (.bl<|!oX z):=rfl
def ci(z:Str):Bool:=!decide (z="")&&(decide (z.length<=8)&&(z.cps.toList.all low&&!oX z))
def xi(W:Ru)(a b:Nat)(d:a<=b)(f:b<=W.length)(e:W.length<=100000):xo (.str<|aw W) (J (a:Int)) (J (b:Int))=.ok (.str<|aw<|(W.drop a).take<|b-a):=by
 delta xo;simp;rw[bM,SI<|⊥];congr 2;delta rY;refine mk_eq ?_;rw[az,bM];have e1:HT.T5 W.length 0 ((a:Int))=a:=by rw[HT.rG];lia
 have c:HT.T5 W.length W.length ((b:Int))=b:=by rw[HT.rG];lia
 rw[e1,c]
def SD(W:Ru)(a:Nat)(c:a<=W.length)(b:W.length<=100000):xo (.str<|aw W) (J (a:Int)) U=.ok (.str<|aw<|W.drop a):=by
 unfold xo;simp only;rw[bM,SI<|⊥];congr 2;unfold rY;refine mk_eq ?_;rw[az,bM];have e1:HT.T5 W.length 0 ((a:Int))=a:=by rw[HT.rG];lia
 have e2:HT.T5 W.length W.length U=W.length:=rfl;rw[e1,e2,ac6<|∅]
theorem Yg(w:Nat->Sd)(b:∀a,B (w a)=.ok (.nx<|w<|a+1)):∀(k n j:Nat),(∀i,i<k->τ (w<|j+i)=.ok G)->τ (w<|j+k)=.ok η->k<n->cq τ B n (w j)=.ok (.nx<|w<|j+k)
 |0,n+1,j,_,hf,hn=>by
  show(τ<|w j).bind _=_;rw[show τ (w j)=_ from hf];rfl
 |k+1,n+1,j,h,hf,hn=>by
  have e (i):j+(i+1)=j+1+i:=⊥
  have c:=Yg w b k n (j+1) (fun i d=>e i▸h (i+1) ⊥) (e k▸hf) ⊥;show(τ<|w j).bind _=_;rw[show τ (w j)=_ from h 0 ∅];rw[b,e k];exact c
def aaE(Lq0:Ru)(a:Nat)(b:Lq0.length<=90000):xo (.str<|aw Lq0) (J (a:Int)) (J<|(a:Int)+1)=.ok (.str<|aw<|(Lq0.drop a).take 1):=by
 by_cases h:a+1<=Lq0.length
 .have:=xi Lq0 a (a+1) ∅ h ⊥
  mright
 .rw[Z24,bM,SI<|⊥];congr 2;delta rY;refine mk_eq ?_;rw[az,bM];have e1:HT.T5 Lq0.length 0 ((a:Int))=Lq0.length:=by delta HT.T5;lia
  rw[e1];simp;lia
theorem drop_one(Lq0:Ru)(a c:Nat):(Lq0.drop a).take 1=[c]↔Lq0[a]?=J c:=by
 have:Lq0[a]?=(Lq0.drop a)[0]?:=∅
 rw[this];cases Lq0.drop a with
 |nil=>simp
 |cons x r=>simp
def FD(Lq0:Ru)(b:Lq0.length<=90000)(P:D)(o:Option D)(p k:Nat)(e:∀i,i<k->Lq0[p+i]?=J 32)(d:Lq0[p+k]?≠J 32)(f:k<90000):
  cq (dC<|aH jp (Jm xo (ag 0) (gI<|ag 2)<|gI<|aH eZ (ag 2)<|vC<|.int 1)<|vC<|.str " ") (lz 2<|vC<|.int 1) 100000 [J<|.str<|aw Lq0,J P,J<|.int (p:Int),o]=.ok (.nx [J<|.str<|aw Lq0,J P,J<|.int ((p+k:Nat):Int),o]):=by
 have test (a:Nat):dC (aH jp (Jm xo (ag 0) (gI<|ag 2)<|gI<|aH eZ (ag 2)<|vC<|.int 1)<|vC<|.str " ") [J<|.str<|aw Lq0,P,J<|.int a,o]=.ok ((Lq0[a]?=J 32)):=by
  rw[DP,JU,show Jm xo (ag 0) (gI<|ag 2) (gI<|aH eZ (ag 2)<|vC<|.int 1) [J<|.str<|aw Lq0,P,J<|.int a,o]=_ from aaE Lq0 a b,am,sN,Za,am,jg,am,Gf];congr 1;exact decide_eq_decide.mpr<|mk_inj.trans<|drop_one Lq0 a 32
 exact Yg (fun a=>[J<|.str<|aw Lq0,P,J<|.int a,o]) (fun _=>rfl) k 100000 p (fun i c=>by rw[test,Th<|e i c]) (by rw[test,TU d]) ⊥
def qB(Lq0:Ru)(b:Lq0.length<=90000)(a c:Nat)(h:Lq0[a]?=J c):cR (.str<|aw Lq0) (.int (a:Int))=.ok (.str ⟨#[c]⟩):=
 U0 (by rw[bM];lia) (by exact xu h)
def jo(Lq0:Ru)(a:Lq0.length<=90000):cr [.str<|aw Lq0]=.ok (.int (Lq0.length:Int)):=by rw[HY,bM,SI<|⊥]
def cD(f:Nat->Bool)(R:Ru):Nat:=(R.takeWhile f).length
def zV(f:Nat->Bool)(R:Ru):cD f R<=R.length:=by exact(List.takeWhile_sublist f).length_le
def zM(f:Nat->Bool):∀(R:Ru)(i:Nat),i<cD f R->∃c,R[i]?=J c/\f c=G:=TB (fun i h=>by delta cD at h;mright) fun c r i_ i h=>by
  delta cD at h;rw[mE]at h;cases hc:f c with
  |false=>mright
  |true=>
   rw[hc]at h;mright;cases i with
   |zero=>mright
   |succ i=>obtain⟨d,h1,h2⟩:=i_ i (by delta cD;mright);mright
def vV(f:Nat->Bool):∀(R:Ru)(c:Nat),R[cD f R]?=J c->f c=η:=TB (fun c h=>by mright) fun d r i_ c h=>by
  delta cD at h;rw[mE]at h;cases hc:f d with
  |false=>mright
  |true=>
   rw[hc]at h;exact i_ c (by exact h)
def yp(f:Nat->Bool):∀R:Ru,R.take (cD f R)=R.takeWhile f:=TB (rfl) fun d r i_=>by
  delta cD;rw[mE];cases hc:f d with
  |false=>rfl
  |true=>simp;exact i_
noncomputable def tW(k:Str)(d:D)(q e:Nat):D:=.tup [.str k,d,.int (q:Int),.int (e:Int)]
def Fg(q:Nat):D:=tW "bad" .S9 q q
def oA(Lq0:Ru)(q i:Nat):(Lq0.drop q)[i]?=Lq0[q+i]?:=∅
def Bn(Lq0:Ru)(d:Lq0.length<=90000)(P:D)(o:Sd)(q:Nat)(hX:∀a c:Nat,Lq0[a]?=J c->X (J (.str<|aw Lq0)::J P::J (.int (a:Int))::o)=.ok (f c)):
  cq (mQ (dC<|aH zF (ag 2)<|aI cr<|ak (ag 0) aQ) X) (lz 2<|vC<|.int 1) 100000 (J (.str<|aw Lq0)::J P::J (.int (q:Int))::o)=.ok (.nx<|J (.str<|aw Lq0)::J P::J (.int ((q+cD f (Lq0.drop q):Nat):Int))::o):=by
 have b:=zV f<|Lq0.drop q;rw[vJ]at b;have tlt (a:Nat):mQ (dC<|aH zF (ag 2)<|aI cr<|ak (ag 0) aQ) X (J (.str<|aw Lq0)::P::J (.int a)::o)=.ok (Lq0[a]?.any f):=by
  rw[yr,show dC (aH zF (ag 2)<|aI cr<|ak (ag 0) aQ) (J (.str<|aw Lq0)::P::J (.int a)::o)=((cr [.str<|aw Lq0]).bind<|zF<|.int a).bind Xk from rfl,jo Lq0 d,am,wR,am,Gf,am,xh]
  grind
 refine Yg (fun a=>J (.str<|aw Lq0)::P::J (.int a)::o) (fun _=>rfl) _ 100000 q (fun i e=>?_) ?_ ⊥
 .obtain⟨c,h1,h2⟩:=zM f (Lq0.drop q) i e;rw[tlt,<-oA,h1,SS,h2]
 .rw[tlt,<-oA];cases hc:(Lq0.drop q)[cD f<|Lq0.drop q]? with
  |none=>rfl
  |some c=>rw[SS,vV f _ c hc]
def GT(Lq0:Ru)(b:Lq0.length<=90000)(P:D)(q:Nat)(e:q<=Lq0.length):
  cq (mQ (dC<|aH zF (ag 2)<|aI cr<|ak (ag 0) aQ)<|dC<|aH rE (aH cR (ag 0)<|ag 2)<|vC vy) (lz 2<|vC<|.int 1) 100000 [J<|.str<|aw Lq0,J P,J<|.int (q:Int)]=.ok (.nx [J<|.str<|aw Lq0,J P,J<|.int ((q+cD j7 (Lq0.drop q):Nat):Int)]):=
 Bn Lq0 b P [] q fun a c d=>by
  rw[DP,JU];show((((cR (.str<|aw Lq0)<|.int a).bind<|_)).bind _)=_;rw[qB Lq0 b a c d,am,sN,Za,am];delta vy;rw[jE,RX,ub,az,HL];rfl
def fL(h:a≠b):jp (.str a) (.str b)=.ok (.bl η):=by rw[jg,TU h]
def ot(h:a=b):jp (.str a) (.str b)=.ok (.bl G):=by rw[jg,Th h]
def all_map(f:Nat->Bool)(l:Ru)(h:∀c∈l,f c=G):Dd [.lst<|l.map fun c=>D.bl<|f c]=.ok (.bl G):=by
 rw[abt<|BP _ _];mright
def Hv(z:Str)(h:ci z=G):uJ [.str z]=.ok (.bl G):=by
 delta ci at h;simp only[oR,Yl,decide_eq_true_eq,decide_eq_false_iff_not,Ve]at h;obtain⟨f,i,b,a⟩:=h;have d:cr [.str z]=.ok (.int z.length):=by rw[HY,SI<|⊥]
 have e:cF (.one 0) xa (aI fJ<|ak (ag 0) aQ) [U] (z.cps.toList.map fun c=>D.str ⟨#[c]⟩)=.ok (.lst<|z.cps.toList.map fun c=>D.bl<|low c):=
  jr _ _ rfl (by rw[nY];lia) fun c g=>(pv c)
 refine aq<|(skip<|lR rfl (lR (ao<|(fL f))<|ao<|ae (d) rfl (vQ.trans<|by grind))).trans<|ar<|pH (af (ac (e) rfl)<|all_map low _ b)<|((Fc z).trans<|by rw[a];rfl)
def Ny(h:φ Y=.ok (.str z))(h2:α Y=.ok ds)(a:f z ds=r):DN f φ α Y=r:=by rw[aa9,h,am,abG,h2,am,a]
def JP(Lq0:Ru)(b:Lq0.length<=90000)(q:Nat)(i:q<=Lq0.length)(k:Str)(h:∀w,w=aw ((Lq0.drop q).takeWhile low)->(k="key"/\oX w=G)\/(k="name"/\ci w=G)):jK [.str<|aw Lq0,.int (q:Int)]=.ok (tW k (.str<|aw<|(Lq0.drop q).takeWhile low) q<|q+cD low (Lq0.drop q)):=by
 have d:=zV low<|Lq0.drop q;rw[vJ]at d;have e:=xi Lq0 q (q+cD low (Lq0.drop q)) ∅ (by grind) ⊥;rw[show q+cD low (Lq0.drop q)-q=cD low (Lq0.drop q) by simp,yp]at e;have h:=h _ rfl;refine aq (r:=jU _) ((bu<|au rfl).trans ((bu ((congrFun (by rfl) _).trans ((fun Lq0 b P o q i =>  Bn Lq0 b P [o] q fun a c l=>by
   show((((cR (.str (aw Lq0)) (.int a)).bind (MP aQ _)).bind fJ).bind L4)=_;rw[qB Lq0 b a c l,am,Qf,SY,am,J1,am,pv];rfl) Lq0 b (.int (q:Int)) U q i))).trans ((bu (au (T6 rfl (C4 rfl) (C4 rfl) e))).trans ?_)))
 generalize aw ((Lq0.drop q).takeWhile low)=w at h;have f:dC (aH rE (ag 3)<|vC tY) [J<|D.str<|aw Lq0,J<|.int q,J<|.int<|(q+cD low (Lq0.drop q)),J<|.str w]=.ok (oX w):=rfl;rcases h with⟨rfl,j⟩|⟨rfl,g⟩
 .exact aS ((a8<|f.trans<|by rw[j]).trans rfl)
 .have d:oX w=η:=by delta ci at g;lia
  exact(skip<|f.trans<|by rw[d]).trans<|ar<|vp (eV ((Hv w g)) rfl) rfl
def Z13(Lq0:Ru)(b:Lq0.length<=90000)(q:Nat)(a:q+1<=Lq0.length):lV [.str<|aw Lq0,.int (q:Int)]=.ok (.int ((q+1+cD j7 (Lq0.drop<|q+1):Nat):Int)):=
 aq (((bu<|(GT Lq0 b (.int q) (q+1) a)).trans rfl))
noncomputable def fg(Lq0:Ru):Ru:=if Lq0[0]?=J 45 then Lq0.drop 1 else Lq0
def Qk(Lq0:Ru):(fg Lq0).length<=Lq0.length:=by delta fg;split<;>simp
def RN(Lq0:Ru):Bool:=!(decide (fg Lq0=[])||!(fg Lq0).all j7)&&(!(decide ((fg Lq0)[0]?=J 48)&&decide (Lq0≠[48]))&&decide ((fg Lq0).length<=18))
def DE(Lq0:Ru):Int:=if Lq0[0]?=J 45 then -(Na (fg Lq0):Int)else(Na (fg Lq0):Int)
def Lo(Lq0:Ru)(h:RN Lq0=G):xK [.str<|aw Lq0]=.ok (.int<|DE Lq0):=by
 delta RN at h;simp only[oR,Yl,yb,decide_eq_false_iff_not,N7,Ve,decide_eq_true_eq]at h;obtain⟨⟨h1,h2⟩,j,d⟩:=h;have hd:∀c∈fg Lq0,48<=c/\c<=57:=fun c g=>by have:=h2 c g;unfold j7 at this;exact WI this
 have i:Lq0.length<=19:=by
  delta fg at d;split at d
  .simp at d;lia
  .lia
 have e:intText? (aw Lq0)=J (DE Lq0):=by
  delta DE;by_cases b:Lq0[0]?=J 45
  .rw[SI b];have f:fg Lq0=Lq0.drop 1:=by delta fg;rw[SI b]
   refine intText_neg ?_ hd h1 (by rw[bM];lia);rw[az];cases Lq0 with
   |nil=>cases b
   |cons a r=>mright
  .rw[SM b];have f:fg Lq0=Lq0:=by delta fg;rw[SM b]
   rw[f]at hd h1⊢
   have:=intText_digits (x:=aw Lq0) (by assumption) (by assumption) (by rw[bM];lia)
   assumption
 delta xK;simp;rw[e];simp only;rw[bM,SI<|⊥]
def GN(n:Nat):∀c∈dg n,j7 c=G:=fun c a=>by
 have:=pO a
 exact Th this
def om(i:Int)(h:i.natAbs<10^18):RN (cu i)=G/\DE (cu i)=i/\(cu i)[0]?≠J 34/\(cu i).length<=20:=by
 have l:=fun c(g:c∈cu i)=>yB g;have j:(cu i)[0]?≠J 34:=fun e=>by have:=l 34<|Do e;lia
 have a:=GN i.natAbs;have d:=zN 17 i.natAbs ⊥;have f:=M7 i.natAbs;have k:fg (cu i)=dg i.natAbs:=by
  delta fg cu;by_cases b:i<0
  .rw[SI b];rfl
  .rw[SM b,SM];intro e
   have:=pO<|Do e
   lia
 refine⟨?_,?_,j,?_⟩
 .delta RN;rw[k,TU f,Ve.mpr a,Th d]
  have:(decide ((dg i.natAbs)[0]?=J 48)&&decide (cu i≠[48]))=η:=by
   by_cases m:i=0
   .subst m
    have:cu 0=[48]:=by delta cu;rw[SM<|∎];exact fS ∅
    rw[this];simp
   .obtain⟨c,r,e,g⟩:=Kq i.natAbs #[28];rw[e]
    have:¬(c::r)[0]?=J 48:=fun e=>g (by simpa using e)
    rw[TU this];rfl
  rw[this];rfl
 .delta DE;rw[k,Od];by_cases b:i<0
  .rw[SI<|by delta cu;rw[SI b];rfl];grind
  .rw[SM]
   .lia
   .delta cu;rw[SM b];intro e
    have:=pO<|Do e
    lia
 .delta cu
  grind
def xx(h:φ Y=.ok (.str<|aw Lq0))(a:y=aw [c]):lP (DN (Ly fun x y=>.bl<|pQ x y) φ<|ak (vC<|.str y) aQ) Y=.ok (decide (Lq0[0]?=J c)):=by
 refine eV (Ny h rfl (show Ly (fun x y=>.bl<|pQ x y) (aw Lq0) [.str y]=.ok (.bl<|(Lq0[0]?=c))from ?_)) rfl;show R.ok (D.bl<|pQ (aw Lq0) y)=_;rw[a,Ri,az]
def Yx(L:Ru)(b:L.length<=1000):MU (lP<|DN (Ly fun x y=>.bl<|pQ x y) (ag 0)<|ak (vC<|.str "-") aQ) (Jm xo (ag 0) (gI<|vC<|.int 1) Hh) (ag 0) [J<|.str<|aw L,U]=.ok (.str<|aw<|fg L):=by
 have q:=xx (Y:=[J<|.str<|aw L,U]) (φ:=ag 0) rfl ZU;unfold fg;by_cases h:L[0]?=J 45
 .rw[h];rw[h]at q;cases L with
  |nil=>simp at h
  |cons a r=>exact vp q<|(KQ r a<|by simp at b;lia)
 .rw[SM h];rw[TU h]at q;exact B7 q rfl
def Bz(c:Nat):rE (.str ⟨#[c]⟩) (.str "0123456789")=.ok (.bl<|j7 c):=by rw[jE,RX,ub,az,HL]
def yP(L:Ru)(h:RN L=G)(f:L.length<=1000):l9 [J<|.str<|aw L] []=.ok (.int<|DE L) []:=by
 have g:=Qk L;have b:=Lo L h;unfold RN at h;simp only[oR,Yl,yb,decide_eq_false_iff_not,N7,Ve,decide_eq_true_eq]at h;obtain⟨⟨h1,h2⟩,h3,h4⟩:=h;have e:cF (.one 0) xa (aH rE (ag 0)<|vC<|.str "0123456789") [U] ((aw<|fg L).cps.toList.map fun c=>D.str ⟨#[c]⟩)=.ok (.lst<|(aw<|fg L).cps.toList.map fun c=>D.bl<|j7 c):=
  jr _ _ rfl (by rw[az];lia) fun c i=>ae rfl rfl (Bz c)
 have e2:mQ (lP<|DN (Ly fun x y=>.bl<|pQ x y) (ag 1)<|ak (vC<|.str "0") aQ) (dC<|aH xF (ag 0)<|vC<|.str "0") [J<|.str<|aw L,J<|.str<|aw<|fg L]=.ok η:=by
  have q:=xx (Y:=[J<|.str<|aw L,J<|.str<|aw<|fg L]) (φ:=ag 1) (Lq0:=fg L) (y:="0") (c:=48) rfl ZO;by_cases a:(fg L)[0]?=J 48
  .rw[Th a]at q h3;have d:L=[48]:=by simpa using h3
   exact kW q<|ao<|(vE.trans<|by rw[d,ZO];simp)
  .rw[TU a]at q;exact Bu q
 exact cL<|iG (aN<|Yx L f)<|gG (aR<|lR (ao<|(fL<|by exact fun z=>h1<|mk_inj.mp z))<|qj<|eV (af (ac (e) rfl)<|all_map j7 _<|by assumption) rfl)<|gG (aR e2)<|gG (aR<|ao<|ae ((jo (fg L)<|⊥)) rfl (vQ.trans<|by grind))<|eG<|aN<|b
def OA{mt:Str->Bool}(h:φ Y L=.ok d μ1)(a:lst nl μ1=μ2<|>Rv):sO nl P φ mt ψ Y L=.rt d μ2:=by subst a;delta sO;rw[h]
def yO(Lq0:Ru)(b:Lq0.length<=90000)(q e:Nat)(k:Str)(d:D)(h1:q<=e)(h2:e<=Lq0.length)(f:Sj d=G)(a:nz [J<|.str<|aw<|(Lq0.drop q).take<|e-q] []=.ok d []):Wr mG [.str<|aw Lq0,.int (q:Int),.str k,.int (e:Int)]=.ok (tW k d q e):=by
 have c:=xi Lq0 q e h1 h2 ⊥;have r:mG [J<|.str<|aw Lq0,J<|.int q,J<|.str k,J<|.int e] []=.ok (tW k d q e) []:=
  cL (OA<|B5<|bg rfl (bg (aM (bg (aN<|c) rfl)<|ka a rfl) rfl))
 delta Wr;mright
theorem PK(Lq0 y:Ru)(q:Nat)(b:y≠[]):HV (aw Lq0) (aw y) (q:Int)=((Lq0.drop q).take y.length==y):=by
 delta HV;have a:fromIndex (aw Lq0).length q=q:=by rfl
 rw[a,PySem.StrLaws.subAt_eq,az,az,bM,bM];cases h:((Lq0.drop q).take y.length==y)with
 |false=>simp
 |true=>
  have:0<y.length:=by grind
  grind
noncomputable def Dy:List<|Ru:=[[60,62],[60,61],[62,61],[60],[62],[61],[44],[46],[40],[41]]
def Wg(R:Ru):Option<|Ru:=Dy.find? fun y=>R.take y.length==y
abbrev gB:FS:=(DA (lP<|DN (QL fun x y i=>.bl<|HV x y i) (ag 0)<|ak (ag 2)<|ak (ag 1) aQ) (pX<|uD<|ak (vC<|.str "sign")<|ak (ag 2)<|ak (ag 1)<|ak (aH eZ (ag 1)<|aI cr<|ak (ag 2) aQ) aQ) ld)
def GL(Lq0:Ru)(q:Nat)(w:Ru):∀(ys:List<|Ru)(o:Option D),(∀y∈ys,y≠[]/\y.length<=5)->(ys.find? fun y=>(Lq0.drop q).take y.length==y)=J w->cZ (.one 2) gB (ys.map fun y=>D.str<|aw y) [J<|.str<|aw Lq0,J<|.int (q:Int),o]=.ok (.rt<|tW "sign" (.str<|aw w) q<|q+w.length):=TB (fun o _ h=>by nofun) fun y r i_ o h hw=>by
  obtain⟨h1,h2⟩:=h y ∅;have b:=i_ (J<|.str<|aw y) fun x c=>h x<|ie _ c;rw[Xp,sS];show(R.ok [J<|D.str<|aw Lq0,(D.int q),(D.str<|aw y)]).bind _=_;rw[am,Ja];rw[vD]at hw;have a:lP (DN (QL fun x y i=>.bl<|HV x y i) (ag 0)<|ak (ag 2)<|ak (ag 1) aQ) [(D.str<|aw Lq0),(D.int q),(D.str<|aw y)]=.ok ((Lq0.drop q).take y.length==y):=by
   rw[<-PK Lq0 y q h1];rfl
  delta gB at b⊢;cases hb:(Lq0.drop q).take y.length==y with
  |false=>
   rw[hb]at a hw;rw[j0 a,Ov,am,v9,b hw]
  |true=>
   rw[hb]at a hw;cases hw;rw[a8 a,ar<|de<|ac rfl (ac rfl (ac rfl (ac (ae rfl ((jo w<|⊥)) MTb) rfl)))];rfl
def M2{ι:FA}{g:VA}{B:FS}{xs:Rx}(h:ι Y=.ok xs)(a:cZ g B xs Y=.ok (.rt d)):Hy ι g B Y=.ok (.rt d):=by rw[UW,h,am,UV,a]
def LR(Lq0:Ru)(q:Nat)(w:Ru)(h:Wg (Lq0.drop q)=J w):vh [.str<|aw Lq0,.int (q:Int)]=.ok (tW "sign" (.str<|aw w) q<|q+w.length):=by
 have a:=GL Lq0 q w Dy U ∎ h;exact aq<|aS<|a
inductive Sp:Kv->Ru->Prop
 |key (w:Ru) (hn:w≠[]) (h:∀c∈w,low c=G) (hr:oX (aw w)=G):Sp (kK<|aw w) w
 |name (w:Ru) (hn:w≠[]) (h:∀c∈w,low c=G) (hr:ci (aw w)=G):Sp (kN<|aw w) w
 |num (i:Int) (h:i.natAbs<10^18):Sp ("number",.int i) (cu i)
 |sgn (y:Ru) (h:y∈Dy):Sp (kS<|aw y) y
def bh(w b:Ru):Bool:=match b with
 |[]=>G
 |c::_=>match w with
  |[]=>η
  |a::r=>if low a then !low c else if j7 a||a==45 then !j7 c else if a==34 then c != 34 else !(r.isEmpty&&(a==60&&(c==61||c==62)||a==62&&c==61))
def Ma(y b:Ru)(h:y∈Dy)(a:bh y b=G):Wg (y++b)=J y:=by
 simp only[Dy,eQ,Vm,or_false]at h;rcases h with rfl|rfl|rfl|rfl|rfl|rfl|rfl|rfl|rfl|rfl<;>cases b<;>first|rfl|simp_all[Wg,Dy,bh,low,j7,vD]
def xk(y:Ru)(h:y∈Dy):∃c r,y=c::r/\low c=η/\j7 c=η/\c≠45/\c≠34/\c≠32:=by
 simp only[Dy,eQ,Vm,or_false]at h;rcases h with rfl|rfl|rfl|rfl|rfl|rfl|rfl|rfl|rfl|rfl<;>exact⟨_,_,rfl,∎⟩
theorem zG(f:Nat->Bool):∀(w b:Ru),(∀c∈w,f c=G)->(∀c,b[0]?=J c->f c=η)->(w++b).takeWhile f=w
 |[],[],_,_=>rfl
 |[],c::r,_,h=>by
  mright
 |x::w,b,hw,h=>by
  rw[yG,mE,hw x<|∅,SI rfl,zG f w b (fun c a=>hw c<|ie _ a) h]
def GI(h:low c=G):c≠32:=fun z=>by subst z;exact absurd h ∎
def gu(i:Int):∃c r,cu i=c::r/\(∀d∈r,j7 d=G)/\(j7 c||decide (c=45))=G/\low c=η/\c≠32:=by
 have a:=GN i.natAbs;delta cu;by_cases b:i<0
 .rw[SI b];exact⟨45,_,rfl,a,rfl,rfl,∎⟩
 .rw[SM b];cases hd:dg i.natAbs with
  |nil=>exact absurd hd<|M7 _
  |cons c r=>
   have:c∈dg i.natAbs:=by rw[hd];simp
   have:=pO this
   delta low
   grind
theorem Sp.head(h:Sp x w):∃c r,w=c::r/\c≠32:=by
 cases h with
 |key w hn h hr=>cases w with|nil=>grind|cons c r=>exact⟨c,r,rfl,GI<|h c<|∅⟩
 |name w hn h hr=>cases w with|nil=>grind|cons c r=>exact⟨c,r,rfl,GI<|h c<|∅⟩
 |num i h=>refine y2 (gu i) fun c r e _ _ _ h=>?_;exact⟨c,r,e,h⟩
 |sgn y h=>refine XX (xk _ h) fun c r e _ _ _ _ h=>?_;exact⟨c,r,e,h⟩
def Im(Lq0:Ru)(d:Lq0.length<=80000)(p k:Nat)(b:p+k=Lq0.length)(c:∀i,i<k->Lq0[p+i]?=J 32):lK [.str<|aw Lq0,.int (p:Int)]=.ok (tW "end" .S9 Lq0.length Lq0.length):=by
 have e:=FD Lq0 ⊥ (.int p) U p k c (by rw[b];simp) ⊥;have a:=jo Lq0 ⊥;exact aq<|((bu<|e).trans<|aS<|(a8<|ao<|ae rfl (a) (GM.trans<|by mright)).trans<|ar<|de<|ac rfl (ac rfl (ac (a)<|ac (a) rfl)))
def R4(L:Ru)(u:L.length<=80000)(p k:Nat)(m:∀i,i<k->L[p+i]?=J 32)(c:Nat)(g:L[p+k]?=J c)(l:c≠32)(d:D):
  (low c=G->jK [.str<|aw L,.int ((p+k:Nat):Int)]=.ok d->lK [.str<|aw L,.int (p:Int)]=.ok d) /\
  (low c=η->(j7 c||decide (c=45))=G->Wr mG [.str<|aw L,.int ((p+k:Nat):Int),.str "number",.int ((p+k+1+cD j7 (L.drop<|p+k+1):Nat):Int)]=.ok d->lK [.str<|aw L,.int (p:Int)]=.ok d) /\
  (low c=η->(j7 c||decide (c=45))=η->c≠34->vh [.str<|aw L,.int ((p+k:Nat):Int)]=.ok d->lK [.str<|aw L,.int (p:Int)]=.ok d):=by
 have j:p+k<L.length:=(rW.mp g).1;have e:=FD L ⊥ (.int (p:Int)) U p k m (by rw[g];simpa using l) ⊥;have n:=jo L ⊥;have ex:=qB L ⊥ (p+k) c g;generalize t:p+k=q at *;have f:∀r,(nh (DA (lP<|aI fJ<|ak (ag 3) aQ) (pX<|aI jK<|ak (ag 0)<|ak (ag 2) aQ) ld) _:FS) [J<|D.str<|aw L,J<|D.int (p:Int),J<|D.int (q:Int),J<|D.str ⟨#[c]⟩]=r->pI [J<|.str<|aw L,J<|.int (p:Int),U,U]=r:=fun r s=>
  ((bu<|au rfl).trans<|(bu<|(congrFun (by rfl) _).trans e).trans<|(skip<|ao<|ae rfl (lf rfl n) (GM.trans<|by rw[TU<|⊥])).trans<|(bu<|au<|ae rfl rfl ex).trans s)
 have b:∀z,low c=z->lP (aI fJ<|ak (ag 3) aQ) [J<|D.str<|aw L,J<|D.int (p:Int),J<|D.int (q:Int),J<|D.str ⟨#[c]⟩]=.ok z:=fun z a=>eV (af #[29]<|pv c) (by rw[a];rfl);have tN:∀z,(j7 c||decide (c=45))=z->KF (dC<|aH rE (ag 3)<|vC<|.str "0123456789") (dC<|aH jp (ag 3)<|vC<|.str "-") [J<|D.str<|aw L,J<|D.int (p:Int),J<|D.int (q:Int),J<|D.str ⟨#[c]⟩]=.ok z:=fun z a=>by
  have e1:dC (aH rE (ag 3)<|vC<|.str "0123456789") [J<|D.str<|aw L,J<|D.int (p:Int),J<|D.int (q:Int),J<|D.str ⟨#[c]⟩]=.ok (j7 c):=ao<|ae rfl rfl (Bz c);have e2:dC (aH jp (ag 3)<|vC<|.str "-") [J<|D.str<|aw L,J<|D.int (p:Int),J<|D.int (q:Int),J<|D.str ⟨#[c]⟩]=.ok (decide (c=45)):=ao<|ae rfl rfl (by rw[jE,ZU,jg];congr 2;exact decide_eq_decide.mpr<|mk_inj.trans<|∅);cases h:j7 c with
  |true=>rw[h]at e1 a;rw[<-a];exact P7 e1
  |false=>rw[h]at e1 a;exact lR e1 (by rw[e2,<-a];rfl)
 refine⟨fun h hd=>aq<|f _<|aS<|(a8<|b G h).trans<|ar<|af (ac rfl #[29]) hd,fun h1 h2 hd=>?_,fun h1 h2 o hd=>?_⟩
 .have fe:=Z13 L ⊥ q ⊥;exact aq<|f _<|(skip<|b η h1).trans<|aS<|(a8<|tN G h2).trans<|ar<|af (ac rfl (ac rfl (ac rfl (ac (af (ac rfl #[29]) fe) rfl)))) hd
 .have tT:dC (aH jp (ag 3)<|vC<|.str "\"") [J<|D.str<|aw L,J<|D.int (p:Int),J<|D.int (q:Int),J<|D.str ⟨#[c]⟩]=.ok η:=ao<|ae rfl rfl (by rw[jE,Jl,jg];congr 2;exact TU fun z=>o<|by simpa using mk_inj.mp z);exact aq<|f _<|(skip<|b η h1).trans<|(skip<|tN η h2).trans<|(skip tT).trans<|ar<|hd
theorem GC(L:Ru)(A:L.length<=80000)(p k:Nat)(t:∀i,i<k->L[p+i]?=J 32)(n:Sp x w)(b:Ru)(hd:L.drop (p+k)=w++b)(g:bh w b=G):lK [.str<|aw L,.int (p:Int)]=.ok (tW x.1 x.2 (p+k)<|p+k+w.length):=by
 refine X7 n.head fun c r ew hc=>?_;have s:L[p+k]?=J c:=by
  have:=oA L (p+k) 0
  rw[hd,ew]at this;simpa using this.symm
 have o:L.length=p+k+w.length+b.length:=by
  have:=UN vP hd
  rw[vJ,LX]at this
  have:p+k<L.length:=(rW.mp s).1
  lia
 have z:1<=w.length:=by rw[ew];simp
 obtain⟨g1,g2,g3⟩:=R4 L A p k t c s hc<|tW x.1 x.2 (p+k)<|p+k+w.length;generalize B:p+k=q at *;have e:∀f:Str,(∀c∈w,low c=G)->((f="key"/\oX (aw w)=G)\/(f="name"/\ci (aw w)=G))->jK [.str<|aw L,.int (q:Int)]=.ok (tW f (.str<|aw w) q<|q+w.length):=fun f m u=>by
  have l:(L.drop q).takeWhile low=w:=by
   rw[hd];refine zG low w b m fun d a=>?_;cases b with
   |nil=>simp at a
   |cons d' b=>
    have a:d'=d:=by simpa using a
    subst a;rw[ew]at g
    have:low c=G:=m c (by rw[ew];simp)
    simpa[bh,this]using g
  have:=JP L ⊥ q ⊥ f (by rw[l];rintro _ rfl;exact u)
  unfold cD at this;rw[l]at this;exact this
 cases n with
 |key w hn h hr=>exact g1 (h c<|by rw[ew];simp)<|e "key" h<|.inl ⟨rfl,hr⟩
 |name w hn h hr=>exact g1 (h c<|by rw[ew];simp)<|e "name" h<|.inr ⟨rfl,hr⟩
 |num i h=>
  refine y2 (gu i) fun c' r' e' hr' hn' hl' _=>?_;obtain⟨rfl,rfl⟩:c'=c/\r'=r:=by rw[e']at ew;simpa using ew
  have v:cD j7 (L.drop<|q+1)=r'.length:=by
   have:L.drop (q+1)=r'++b:=by rw[<-sL,hd,e'];rfl
   rw[this];unfold cD;rw[zG j7 r' b hr' fun d a=>?_];cases b with
   |nil=>simp at a
   |cons d' b=>
    have a:d'=d:=by simpa using a
    subst a;rw[e']at g;have j:(j7 c'||c'==45)=G:=by simpa using hn'
    simpa[bh,hl',j]using g
  have e3:q+1+r'.length=q+(cu i).length:=by rw[e',uq];lia
  refine g2 hl' hn' ?_;rw[v,e3];exact yO L ⊥ q (q+(cu i).length) "number" (.int i) ⊥ ⊥ rfl (by
   rw[show q+(cu i).length-q=(cu i).length by lia,hd,List.take_left];exact (by
       obtain⟨h1,h2,h3,h4⟩:=om i h;have r:=yP (cu i) h1 ⊥;rw[h2]at r;have a:aw (cu i)≠"none":=by
        rw[Nv];intro z;have e:=mk_inj.mp z
        have:=yB (c:=110) (by rw[e];simp)
        lia
       exact cL<|gG (aR<|ao<|(fL a))<|gG (aR<|(xx rfl Jl).trans<|by grind)<|eG<|aM rfl (ka r rfl)))
 |sgn y h=>
  refine XX (xk _ h) fun c' r' e' h1 h2 h3 h4 _=>?_;obtain⟨rfl,rfl⟩:c'=c/\r'=r:=by mright
  exact g3 h1 #[28] h4 (LR L q w<|by rw[hd];exact Ma w b h g)
theorem Sp.mid(h:Sp x w):qp x.1/\Dl x.2/\(x.1="number"->∃i,x.2=.int i)/\(x.1="sign"->∃y,x.2=.str y):=by
 have a:∀k∈(["key","name","number","text","sign"]:SH),qp k:=by unfold qp;decide +kernel
 have b:∀k∈(["key","name","text","sign"]:SH),k≠"number":=⊤
 have c:("number":Str)≠"sign":=⊤
 cases h with
 |key w hn h hr=>exact⟨a "key"<|∅,.inr<|.inr ⟨_,rfl⟩,fun z=>absurd z<|b "key"<|∅,fun _=>⟨_,rfl⟩⟩
 |name w hn h hr=>exact⟨a "name"<|∅,.inr<|.inr ⟨_,rfl⟩,fun z=>absurd z<|b "name"<|∅,fun _=>⟨_,rfl⟩⟩
 |num i h=>exact⟨a "number"<|∅,.inr<|.inl ⟨_,rfl⟩,fun _=>⟨_,rfl⟩,fun z=>absurd z c⟩
 |sgn y h=>exact⟨a "sign"<|∅,.inr<|.inr ⟨_,rfl⟩,fun z=>absurd z<|b "sign"<|∅,fun _=>⟨_,rfl⟩⟩
def afT(h:lK [.str z,.int p]=.ok (tW k d q e))(a:k≠"end")(b:900<e):dt [.str z,.int p]=.ok (tW "bad" .S9 q q):=
 aq ((bu<|au<|h).trans<|aS<|(a8<|kW (ao<|(vE.trans<|by mright))<|ao<|(vQ.trans<|by grind)).trans rfl)
def AH(h:lK [.str z,.int p]=.ok (tW "end" d q e)):dt [.str z,.int p]=.ok (tW "end" d q e):=
 aq ((bu<|au<|h).trans rfl)
abbrev It:=Nat×Kv×Ru
noncomputable def txt:List It->Nat->Ru
 |[],m=>Ut m 32
 |(k,_,w)::r,m=>Ut k 32++(w++txt r m)
def Good(m:Nat):List It->Prop
 |[]=>True
 |(_,x,w)::r=>Sp x w/\bh w (txt r m)=G/\Good m r
noncomputable def toks(p:Nat):List It->Nat->List Tok
 |[],m=>[⟨"end",.S9,p+m,p+m⟩]
 |(k,x,w)::r,m=>if p+k+w.length<=900 then⟨x.1,x.2,p+k,p+k+w.length⟩::toks (p+k+w.length) r m else[⟨"bad",.S9,p+k,p+k⟩]
def HX(A B:Ru)(k i:Nat)(h:i<k):(A++(Ut k 32++B))[A.length+i]?=J 32:=by
 rw[nN<|∅,show A.length+i-A.length=i by simp,uy<|by simpa using h,yg,SI h]
def acE(m:Nat):∀(r:List It)(A:Ru),Good m r->(A++txt r m).length<=80000->∃w f,toks A.length r m=w::f/\dt [.str<|aw<|A++txt r m,.int (A.length:Int)]=.ok w.d/\Ch (aw<|A++txt r m) (w::f)/\∀c∈w::f,zp c:=TB (fun A _ hl=>by
  have a:(A++txt [] m).length=A.length+m:=by simp[txt]
  have e:=AH (Im (A++txt [] m) hl A.length m a.symm fun i n=>by
   have:=HX A [] m i n
   rwa [Wz]at this)
  rw[a]at e;refine⟨_,_,rfl,e,.last _ (.inl rfl) (.inl rfl) (by show A.length+m<_;lia),fun c b=>?_⟩;rw[IF.mp b];exact⟨fun z=>absurd z (by show ¬(("end":Str)="number");decide +kernel),fun z=>absurd z (by show ¬(("end":Str)="sign");decide +kernel)⟩) fun ⟨k,x,w⟩ r i_ A p hl=>by
  left;obtain⟨u,C,p⟩:=p;refine Xl u.mid fun s H D hs=>?_;right;have a:(A++txt ((k,x,w)::r) m).length=A.length+k+w.length+(txt r m).length:=by simp[txt];lia
  have e:=GC (A++txt ((k,x,w)::r) m) hl A.length k (fun i n=>HX A _ k i n) u (txt r m) (by
   show(A++(Ut k 32++(w++txt r m))).drop (A.length+k)=_;rw[<-Vw,<-show(A++Ut k 32).length=A.length+k by simp,List.drop_left]) C
  unfold toks;by_cases q:A.length+k+w.length<=900
  .rw[SI q];have y:A++txt ((k,x,w)::r) m=(A++(Ut k 32++w))++txt r m:=by simp[txt]
   have o:(A++(Ut k 32++w)).length=A.length+k+w.length:=by simp;lia
   left;refine US (i_ (A++(Ut k 32++w)) p (by rw[<-y];exact hl)) fun c f j g v B=>?_;right;rw[o]at j g;rw[<-y]at g v;refine⟨_,_,rfl,(fun h E F =>  aq<|(bu<|au<|h).trans<|(skip<|kW (ao<|(vE.trans<|by mright))<|ao<|(vQ.trans<|by grind)).trans rfl) e s.1 q,?_,?_⟩
   .rw[j];exact .more _ _ _ H (by show A.length+k<_;lia) g v
   .rw[j];intro t l;rcases eQ.mp l with rfl|l
    .exact⟨D,hs⟩
    .exact B t l
  .rw[SM q];refine⟨_,_,rfl,(fun h E F =>  aq<|(bu<|au<|h).trans<|aS<|(a8<|kW (ao<|(vE.trans<|by mright))<|ao<|(vQ.trans<|by grind)).trans rfl) e s.1<|by omega,.last _ (.inr rfl) (.inl rfl)<|⊥,fun c b=>?_⟩;rw[IF.mp b];exact⟨fun z=>absurd z (by show ¬(("bad":Str)="number");trivial),fun z=>absurd z (by show ¬(("bad":Str)="sign");trivial)⟩
def Ld(m:Nat)(r:List It)(b:Good m r)(d:(txt r m).length<=80000):kY (aw<|txt r m)<|toks 0 r m:=by
 obtain⟨w,g,e,f,c,k⟩:=acE m r [] b d;have a:toks 0 r m=w::g:=e;exact⟨a▸c,a▸k,by rw[a];exact f⟩
def dU(x:Kv):Ru:=match x.2 with
 |.int i=>cu i
 |.str z=>z.cps.toList
 |_=>[]
abbrev Iw:=Nat×Kv
def tx:List Iw->Ru
 |[]=>[]
 |(k,x)::r=>Ut k 32++(dU x++tx r)
theorem dc:∀a b:List Iw,tx (a++b)=tx a++tx b:=TB (fun b=>rfl) fun ⟨k,x⟩ a i_ b=>by simp[tx,i_ b]
theorem mm(z:Str):dU (kK z)=z.cps.toList:=by
 rfl
theorem pP(z:Str):dU (kN z)=z.cps.toList:=by
 rfl
theorem oZ(z:Str):dU (kS z)=z.cps.toList:=by
 rfl
noncomputable def TY.it(k:Nat):TY->List Iw
 |.col a b=>[(k,kN a),(0,kS "."),(0,kN b)]
 |.S9=>[(k,kK "none")]
 |.int i=>[(k,("number",.int i))]
noncomputable def Eg(k:Nat)(b:Bool)(l:Nat->List Iw):List Iw:=if b=G then(k,kS "(")::(l 0++[(0,kS ")")])else l k
def Cn.it(k:Nat):Cn->List Iw
 |.test g a b=>a.it k++(1,kS g)::b.it 1
 |.not c=>(k,kK "not")::Eg 1 (decide (c.lv<3)) fun k=>c.it k
 |.and a b=>(Eg k (decide (a.lv<2)) fun k=>a.it k)++(1,kK "and")::Eg 1 (decide (b.lv<3)) fun k=>b.it k
 |.or a b=>a.it k++(1,kK "or")::Eg 1 (decide (b.lv<2)) fun k=>b.it k
 |.br c=>Eg k G fun k=>c.it k
def Bl(l:Nat->List Iw):Prop:=∀k,tx (l k)=Ut k 32++tx (l 0)
def TY.bl(a:TY):Bl fun k=>a.it k:=fun k=>by cases a<;>trivial
theorem Gc(b:Bool)(h:Bl l):Bl fun k=>Eg k b l:=fun k=>by
 delta Eg;cases b with
 |true=>trivial
 |false=>exact h k
def wq(h:Bl l)(r:List Iw):Bl fun k=>l k++r:=fun k=>by
 rw[dc,dc,h k,Vw]
theorem Cn.bl(c:Cn):Bl fun k=>c.it k:=by
 induction c with
 |test g a b=>exact wq a.bl _
 |not c ih=>exact fun k=>by rfl
 |and a b i j=>exact wq (Gc _ i) _
 |or a b i j=>exact wq i _
 |br c i=>exact Gc G i
theorem TY.Gb(a:TY)(k:Nat):(a.it k).map z9=a.w:=by cases a<;>rfl
theorem Me(b:Bool)(h:∀k,(l k).map z9=w)(k:Nat):(Eg k b l).map z9=xG b w:=by
 delta Eg xG;cases b with
 |true=>simp[h]
 |false=>exact h k
theorem Cn.Gb(c:Cn):∀k,(c.it k).map z9=c.w:=by
 induction c with
 |test g a b=>simp[Cn.it,Cn.w,TY.Gb]
 |not c ih=>simp[Cn.it,Cn.w,Me _ ih]
 |and a b i j=>simp[Cn.it,Cn.w,Me _ i,Me _ j]
 |or a b i j=>simp[Cn.it,Cn.w,i,Me _ j]
 |br c i=>exact Me G i
def TY.Ok:TY->Prop
 |.col a b=>ci a=G/\ci b=G
 |.S9=>True
 |.int i=>i.natAbs<10^18
def fH(h:ci a=G):a.cps.toList.length<=8:=by
 delta ci at h;simp only[oR,decide_eq_true_eq]at h;exact h.2.1
theorem TY.len{a:TY}(h:a.Ok):(tx<|a.it 0).length<=20:=by
 cases a with
 |col a b=>
  have h1:=fH h.1;have h2:=fH h.2;have e:(lE ".").cps.toList.length=1:=⊤
  simp only[TY.it,tx,pP,oZ,LX,Kd,e,l3];lia
 |S9=>
  have e:(lE "none").cps.toList.length=4:=⊤
  simp only[TY.it,tx,mm,LX,Kd,e,l3];lia
 |int i=>
  have:=(om i h).2.2.2
  show(Ut 0 32++(cu i++[])).length<=20;simp;lia
def fW(h1:φ Y=.ok (.str<|aw a))(h2:ψ Y=.ok (.str<|aw b))(h:a.length+b.length<=1000000):aH eZ φ ψ Y=.ok (.str<|aw<|a++b):=ae h1 h2 ((by
  rw[Nd,bM,bM,SI h,Pc]))
def d6:vC (.str z) Y=.ok (.str<|aw z.cps.toList):=by rfl
def wr(h:i.natAbs<10^18):CO [.int i]=.ok (.str<|aw<|cu i):=by
 delta CO;simp only;rw[SI<|⊥,mk_eq<|str_int i]
def vv:TY->D
 |.int i=>.int i
 |_=>.S9
theorem Bt(h:a.Ok)(b:∀x y,a≠.col x y):qJ [vv a]=.ok (.str<|aw<|tx<|a.it 0):=by
 cases a with
 |col x y=>mright
 |S9=>
  rfl
 |int i=>
  have e:aw (tx<|TY.it 0<|.int i)=aw (cu i):=by simp[TY.it,tx];rfl
  rw[e];exact aq<|((ar<|(wr h)))
def pj{a:TY}(h:a.Ok):oj [a.d]=.ok (.str<|aw<|tx<|a.it 0):=by
 by_cases b:∃x y,a=.col x y
 .obtain⟨x,y,rfl⟩:=b;have h1:=fH h.1;have h2:=fH h.2;have e1:(lE ".").cps.toList.length=1:=⊤
  have e:tx (TY.it 0<|.col x y)=(x.cps.toList++(lE ".").cps.toList)++y.cps.toList:=by simp[TY.it,tx,pP,oZ]
  rw[e];have g:aH eZ (aH eZ (aH cR (ag 0)<|vC<|.int 1)<|vC<|.str ".") (aH cR (ag 0)<|vC<|.int 2) [(TY.d<|.col x y)]=.ok (.str<|aw<|(x.cps.toList++(lE ".").cps.toList)++y.cps.toList):=
   fW (fW rfl d6 ⊥) rfl (by grind)
  exact aq<|aS<|(ar g)
 .have hn  := fun x y z=>b ⟨x,y,z⟩;have c:=Bt h hn;have f:a.d=.tup [.str "value",vv a]:=by cases a with|col x y=>grind|_=>rfl
  rw[f];exact aq<|(ar<|c)
def ag2(z:Str)(b:z≠"")(g:∀c∈z.cps.toList,low c=G)(f:z.length<=1000)(e:oX z=η):uJ [.str z]=.ok (.bl<|decide (z.length<=8)):=by
 by_cases a:z.length<=8
 .rw[Th a];exact Hv z (by unfold ci;grind)
 .rw[TU a];have d:cr [.str z]=.ok (.int z.length):=by rw[HY,SI<|⊥]
  exact aq<|aS<|(a8<|lR rfl (lR (ao<|fL b)<|ao<|ae d rfl (vQ.trans<|by grind))).trans rfl
def C2(f:Nat->Bool)(l:Ru):∀c∈l.takeWhile f,f c=G:=fun c a=>by
 have:=List.all_takeWhile (p:=f) (l:=l)
 exact Ve.mp this c a
def sIx(L:Ru)(j:L.length<=1000)(q:Nat)(d:q<=L.length)(b:oX (aw<|(L.drop q).takeWhile low)=η)(h:8<cD low (L.drop q)):jK [.str<|aw L,.int (q:Int)]=.ok (Fg q):=by
 have a:=zV low<|L.drop q;rw[vJ]at a;have e:=xi L q (q+cD low (L.drop q)) ⊥ ⊥ ⊥;rw[show q+cD low (L.drop q)-q=cD low (L.drop q) by lia,yp]at e;have hw:(aw<|(L.drop q).takeWhile low).length=cD low (L.drop q):=rfl;have f:∀c∈(aw<|(L.drop q).takeWhile low).cps.toList,low c=G:=by rw[az];exact C2 low _
 refine aq (r:=jU _)<|((bu<|((fun L b P o q e => Bn L b P [o] q fun a c d=>by
     show((((cR (.str<|aw L)<|.int a).bind<|MP aQ _).bind fJ).bind L4)=_;rw[qB L b a c d,am,Qf,SY,am,J1,am,pv];rfl) L ⊥ (.int (q:Int)) U q d)).trans<|(bu<|au<|e).trans ?_);generalize i:aw ((L.drop q).takeWhile low)=w at *;have g:dC (aH rE (ag 3)<|vC tY) [(D.str<|aw L),J<|.int q,J<|.int<|(q+cD low (L.drop q)),J<|.str w]=.ok (oX w):=rfl;have n0:w≠"":=fun z=>by rw[z]at hw;change 0=_ at hw;lia
 exact(skip<|g.trans<|by rw[b]).trans<|ar<|B7 (eV ((ag2 w n0 f ⊥ b))<|by rw[TU<|⊥];rfl) rfl
def agA(X:Ru)(hX:∀c∈fg X,j7 c=G)(k:X.length<=1000)(f:∀c∈X,c<16^8)(a:RN X=η):l9 [J<|.str<|aw X] []=.er "BadValue" []:=by
 have g:∀c:Str,c.length<=1000->rF c (ag 0) [J<|.str<|aw X,J<|.str<|aw<|fg X]=.ok (.str<|c++reprText (aw X)):=fun c b=>SI ⟨by rw[bM];lia,by rw[az];exact f⟩;have d:∀c:Str,c.length<=1000->RL 0 "BadValue" (aK (ji []<|rF c<|ag 0) bj) [J<|.str<|aw X,J<|.str<|aw<|fg X] []=.er "BadValue" []:=fun c b=>O0<|bg (aN<|g c b) rfl;have l:=Qk X;refine ga<|iG (aN<|Yx X k) ?_;by_cases h1:fg X=[]
 .exact lh (kR (aR<|P7<|ao<|ae rfl rfl (ot<|by rw[h1];rfl))<|d _<|⊤)
 .have e:cF (.one 0) xa (aH rE (ag 0)<|vC<|.str "0123456789") [U] ((aw<|fg X).cps.toList.map fun c=>D.str ⟨#[c]⟩)=.ok (.lst<|(aw<|fg X).cps.toList.map fun c=>D.bl<|j7 c):=
   jr _ _ rfl (by rw[az];lia) fun c b=>ae rfl rfl (Bz c)
  refine gG (aR<|lR (ao<|(fL<|by exact fun z=>h1<|mk_inj.mp z))<|qj<|eV (af (ac (e) rfl)<|all_map j7 _<|by rw[az];exact hX) rfl) ?_;have q:=xx (Y:=[J<|.str<|aw X,J<|.str<|aw<|fg X]) (φ:=ag 1) (Lq0:=fg X) (y:="0") (c:=48) rfl ZO;have q2:dC (aH xF (ag 0)<|vC<|.str "0") [J<|.str<|aw X,J<|.str<|aw<|fg X]=.ok (decide (X≠[48])):=ao<|ae rfl rfl (vE.trans<|by rw[ZO];congr 2;rw[decide_not];congr 1;exact decide_eq_decide.mpr mk_inj);by_cases h2:(fg X)[0]?=J 48/\X≠[48]
  .rw[Th h2.1]at q;rw[Th h2.2]at q2;exact lh (kR (aR<|kW q q2)<|d _<|⊤)
  .have e2:mQ (lP<|DN (Ly fun x y=>.bl<|pQ x y) (ag 1)<|ak (vC<|.str "0") aQ) (dC<|aH xF (ag 0)<|vC<|.str "0") [J<|.str<|aw X,J<|.str<|aw<|fg X]=.ok η:=by
    by_cases i:(fg X)[0]?=J 48
    .rw[Th i]at q;rw[TU fun z=>h2 ⟨i,z⟩]at q2;exact kW q q2
    .rw[TU i]at q;exact Bu q
   refine gG (aR e2) ?_;have j:18<(fg X).length:=by
    rcases Nat.lt_or_ge 18 (fg X).length with h|h
    .exact h
    .exfalso
     have:RN X=G:=by
      unfold RN
      grind
     rw[this]at a;cases a
   exact lh (kR (aR<|ao<|ae ((jo (fg X)<|⊥)) rfl (vQ.trans<|by grind))<|d _<|⊤)
def aia{mt:Str->Bool}{ψ:FS}(h:φ Y L=.er x μ1)(c:mt x=G)(hs:ψ (fill P μ1 Y)=.ok (.rt d))(a:Sj d=G)(b:lst nl μ1=μ2<|>Rv):sO nl P φ mt ψ Y L=.rt d μ2:=by
 subst b;unfold sO;rw[h];dsimp only;rw[c];unfold TM;rw[hs];exact SI a
theorem ag3(L:Ru)(p:L.length<=1000)(b:∀c∈L,c<16^8)(q e:Nat)(h1:q<e)(h2:e<=L.length)(X:Ru)(hX:X=(L.drop q).take (e-q))(hd:∀c∈fg X,j7 c=G)(k:∀c,X[0]?=J c->c≠34/\c≠110):
  ∃d,Wr mG [.str<|aw L,.int (q:Int),.str "number",.int (e:Int)]=.ok d/\((∃i,d=tW "number" (.int i) q e)\/d=Fg q):=by
 have a:X.length<=1000:=by rw[hX];simp;lia
 have o:∀c∈X,c<16^8:=fun c f=>b c (by rw[hX]at f;exact t6<|List.mem_of_mem_take f);have m:X≠[]:=fun z=>by
  have:X.length=e-q:=by rw[hX];simp;lia
  rw[z]at this;simp at this;lia
 have n:aw X≠"none":=by
  rw[Nv];intro z;have e:=mk_inj.mp z;exact(k 110<|by rw[e];rfl).2 rfl
 have j:∀r,l9 [J<|.str<|aw X] []=r->(∀d L,r=.ok d L->nz [J<|.str<|aw X] []=.ok d [])/\(∀y L,r=.er y L->nz [J<|.str<|aw X] []=.er y []):=fun r l=>by
  have g:∀s,xz 0 (dm [] l9<|aK (ji []<|ag 0) bj) [J<|.str<|aw X] []=s->nH [J<|.str<|aw X] []=s:=fun s hs=>
   gG (aR<|ao<|fL n) (gG (aR<|(xx rfl Jl).trans<|by rw[TU fun z=>(k 34 z).1 rfl]) hs)
  exact⟨fun d L h=>cL<|g _<|eG<|aM rfl (ka (l.trans h) rfl),fun y L h=>ga<|g _<|Cy<|aM rfl (vS (l.trans h) rfl)⟩
 have c:=xi L q e (jx h1) h2 ⊥;rw[<-hX]at c;cases hk:RN X with
 |true=>
  have r:=(j _<|yP X hk a).1 _ _ rfl;exact⟨_,yO L ⊥ q e "number" (.int<|DE X) (jx h1) h2 rfl (by rw[<-hX];exact r),.inl ⟨_,rfl⟩⟩
 |false=>
  have r:=(j _<|agA X hd a o hk).2 _ _ rfl;have r2:mG [J<|.str<|aw L,J<|.int q,J<|.str "number",J<|.int e] []=.ok (Fg q) []:=
   cL (aia (ag0<|O6 (aN rfl)<|Bg<|aM (bg (aN<|T6 rfl (C4 rfl) (C4 rfl) c) rfl)<|vS r rfl) rfl rfl rfl)
  unfold Wr
  grind
def agr(L:Ru)(q:Nat):∀(ys:List<|Ru)(o:Option D),(∀y∈ys,y≠[]/\y.length<=5)->(ys.find? fun y=>(L.drop q).take y.length==y)=U->∃o',cZ (.one 2) gB (ys.map fun y=>D.str<|aw y) [J<|.str<|aw L,J<|.int (q:Int),o]=.ok (.nx [J<|.str<|aw L,J<|.int (q:Int),o']):=TB (fun o _ _=>⟨o,rfl⟩) fun y r i_ o h hw=>by
  obtain⟨h1,h2⟩:=h y ∅;rw[vD]at hw;cases hb:(L.drop q).take y.length==y with
  |true=>grind
  |false=>
   rw[hb]at hw;obtain⟨o',ih⟩:=i_ (J<|.str<|aw y) (fun x a=>h x<|ie _ a) hw;have b:lP (DN (QL fun x y i=>.bl<|HV x y i) (ag 0)<|ak (ag 2)<|ak (ag 1) aQ) [(D.str<|aw L),(D.int q),(D.str<|aw y)]=.ok η:=by
    rw[<-hb,<-PK L y q h1];rfl
   refine⟨o',?_⟩;rw[Xp,gj<|(j0 b).trans rfl];exact ih
structure o3(L:Ru)(p:Nat)(w:Tok):Prop where
 a:p<=w.a/\w.a<=w.b/\w.b<=L.length
 m:w.k="end"\/w.k="bad"\/qp w.k/\w.a<w.b
 v:Dl w.v
 k:zp w
 lp:j8 w=G->L[w.a]?=J 40
def jz(q:Nat):Tok:=⟨"bad",.S9,q,q⟩
def T2(h:p<=q)(h2:q<=L.length):o3 L p<|jz q:=⟨⟨h,mK _,h2⟩,.inr<|.inl rfl,.inl rfl,⟨fun z=>absurd z (by show ¬(("bad":Str)="number");decide +kernel),fun z=>absurd z (by show ¬(("bad":Str)="sign");decide +kernel)⟩,fun z=>absurd (eU z) (by show ¬(("bad":Str)="sign");decide +kernel)⟩
theorem agJ(L:Ru)(I:L.length<=1000)(n:∀c∈L,c≠34/\c<16^8)(p:Nat)(Q:p<=L.length):∃w,lK [.str<|aw L,.int (p:Int)]=.ok w.d/\o3 L p w:=by
 let k:=cD (fun c=>c==32)<|L.drop p
 have S:k<=L.length-p:=by have:=zV (fun c=>c==32)<|L.drop p;simpa using this
 have u:∀i,i<k->L[p+i]?=J 32:=fun i K=>by
  obtain⟨c,e,h⟩:=zM (fun c=>c==32) (L.drop p) i K;rw[oA]at e;rw[e,eq_of_beq h]
 have C:∀c,L[p+k]?=J c->c≠32:=fun c e z=>by
  have:=vV (fun c=>c==32) (L.drop p) c (by rw[oA];exact e)
  rw[z]at this;cases this
 by_cases F:p+k=L.length
 .exact⟨⟨"end",.S9,L.length,L.length⟩,Im L ⊥ p k F u,⟨Q,mK _,mK _⟩,.inl rfl,.inl rfl,⟨fun z=>absurd z (by show ¬(("end":Str)="number");decide +kernel),fun z=>absurd z (by show ¬(("end":Str)="sign");decide +kernel)⟩,fun z=>absurd (eU z) (by show ¬(("end":Str)="sign");decide +kernel)⟩
 obtain⟨c,h0⟩:∃c,L[p+k]?=J c:=⟨_,WT<|⊥⟩;have s:=C c h0;have g:=R4 L ⊥ p k u c h0 s;have b:o3 L p<|jz<|p+k:=T2 (zQ _ _) ⊥;have l:=(n c<|Do h0).1;have H:(L.drop<|p+k)=c::L.drop (p+k+1):=by
  have v:=(rW.mp h0).1;rw[g5 v,(rW.mp h0).2]
 clear u C F;generalize R:p+k=q at *;have j:p<=q:=⊥
 have T:q<L.length:=(rW.mp h0).1;cases hlow:low c with
 |true=>
  have B:=zV low<|L.drop q;rw[vJ]at B;have h1:1<=cD low (L.drop q):=by rw[H];unfold cD;rw[mE,hlow];simp
  have hw:(aw<|(L.drop q).takeWhile low).length=cD low (L.drop q):=rfl;have n0:aw ((L.drop q).takeWhile low)≠"":=fun z=>by rw[z]at hw;change 0=_ at hw;lia
  have N:∀c∈(aw<|(L.drop q).takeWhile low).cps.toList,low c=G:=by rw[az];exact C2 low _
  have fin:∀m:Str,(m="key"\/m="name")->jK [.str<|aw L,.int (q:Int)]=.ok (tW m (.str<|aw<|(L.drop q).takeWhile low) q<|q+cD low (L.drop q))->∃w,lK [.str<|aw L,.int (p:Int)]=.ok w.d/\o3 L p w:=fun m t e=>by
   have M:∀k∈(["key","name"]:SH),qp k/\k≠"number"/\k≠"sign":=by unfold qp;decide +kernel
   obtain⟨m1,m2,m3⟩:=M m (by rcases t with rfl|rfl<;>simp);exact⟨⟨m,.str<|aw<|(L.drop q).takeWhile low,q,q+cD low (L.drop q)⟩,(g _).1 hlow e,⟨j,zQ _ _,by show q+_<=_;lia⟩,.inr<|.inr ⟨m1,by show q<q+_;lia⟩,.inr<|.inr ⟨_,rfl⟩,⟨fun z=>absurd z m2,fun z=>absurd z m3⟩,fun z=>absurd (eU z) m3⟩
  cases hrv:oX (aw<|(L.drop q).takeWhile low)with
  |true=>exact fin "key" (.inl rfl) (JP L ⊥ q ⊥ "key"<|by rintro _ rfl;exact .inl ⟨rfl,hrv⟩)
  |false=>
   by_cases O:cD low (L.drop q)<=8
   .have hnm:ci (aw<|(L.drop q).takeWhile low)=G:=by unfold ci;rw[hrv,TU n0,hw,Th O,Ve.mpr N];rfl
    exact fin "name" (.inr rfl) (JP L ⊥ q ⊥ "name"<|by rintro _ rfl;exact .inr ⟨rfl,hnm⟩)
   .exact⟨jz q,(g _).1 hlow<|sIx L I q ⊥ hrv<|⊥,b⟩
 |false=>
  cases hnum:(j7 c||decide (c=45))with
  |true=>
   have B:=zV j7<|L.drop<|q+1;rw[vJ]at B;have oi:(L.drop q).take (q+1+cD j7 (L.drop<|q+1)-q)=c::(L.drop<|q+1).takeWhile j7:=by
    rw[H,show q+1+cD j7 (L.drop<|q+1)-q=cD j7 (L.drop<|q+1)+1 by lia,List.take_succ_cons,yp]
   obtain⟨d,e,hd⟩:=ag3 L I (fun c s=>(n c s).2) q (q+1+cD j7 (L.drop<|q+1)) ⊥ ⊥ _ rfl (by
    rw[oi];intro x f;unfold fg at f;have E:=C2 j7<|L.drop<|q+1;split at f
    .exact E x (by simpa using f)
    .rename_i h45;rcases eQ.mp f with rfl|f
     .have:x≠45:=fun z=>h45 (by rw[z];rfl)
      simpa[this]using hnum
     .exact E x f) (by
    rw[oi];intro x f
    have:c=x:=by simpa using f
    subst this;refine⟨l,fun z=>?_⟩;subst z;exact absurd hnum ∎)
   rcases hd with⟨i,rfl⟩|rfl
   .exact⟨⟨"number",.int i,q,q+1+cD j7 (L.drop<|q+1)⟩,(g _).2.1 hlow hnum e,⟨j,by show q<=q+1+_;lia,by show q+1+_<=_;lia⟩,.inr<|.inr ⟨oH,by show q<q+1+_;lia⟩,.inr<|.inl ⟨_,rfl⟩,⟨fun _=>⟨_,rfl⟩,fun z=>absurd z (by show ¬(("number":Str)="sign");decide +kernel)⟩,fun z=>absurd (eU z) (by show ¬(("number":Str)="sign");decide +kernel)⟩
   .exact⟨jz q,(g _).2.1 hlow hnum e,b⟩
  |false=>
   cases hs:Wg (L.drop q)with
   |none=>exact⟨jz q,(g _).2.2 hlow hnum l<|(by
       obtain⟨o,e⟩:=agr L q Dy U ∎ hs;exact aq<|(bu<|e).trans rfl),b⟩
   |some y=>
    have e:=(g _).2.2 hlow hnum l<|LR L q y hs;have A:=List.find?_some hs;have P:=List.mem_of_find?_eq_some hs;have A:(L.drop q).take y.length=y:=eq_of_beq A;have h1:1<=y.length:=by
     obtain⟨a,r,rfl,_⟩:=xk y P;simp
    have h2:q+y.length<=L.length:=by
     have:=UN vP A
     simp at this;lia
    refine⟨⟨"sign",.str<|aw y,q,q+y.length⟩,e,⟨j,zQ _ _,h2⟩,.inr<|.inr ⟨gv,by show q<q+_;lia⟩,.inr<|.inr ⟨_,rfl⟩,⟨fun z=>absurd z (by show ¬(("sign":Str)="number");decide +kernel),fun _=>⟨_,rfl⟩⟩,fun z=>?_⟩;have o:D.str (aw y)=.str "(":=nA z;have o:aw y=aw [40]:=D.str.inj o;have o:=mk_inj.mp o;mright
def v7(L:Ru)(i:L.length<=1000)(g:∀c∈L,c≠34/\c<16^8)(p:Nat)(h:p<=L.length):∃w,dt [.str<|aw L,.int (p:Int)]=.ok w.d/\o3 L p w:=by
 obtain⟨w,e,x⟩:=agJ L i g p h;by_cases f:w.k="end"
 .refine⟨w,?_,x⟩;obtain⟨k,v,a,b⟩:=w;subst f;exact AH e
 .by_cases h9:w.b<=900
  .exact⟨w,(aq ((bu<|au<|e).trans<|(skip<|kW (ao<|(vE.trans<|by mright))<|ao<|(vQ.trans<|by grind)).trans rfl)),x⟩
  .exact⟨jz w.a,afT e f<|⊥,T2 x.a.1<|RW x.a.2.1 x.a.2.2⟩
def Tp(l:Ru):Nat:=l.countP fun c=>c==40
theorem b0(a b:Ru):Tp (a++b)=Tp a+Tp b:=List.countP_append
theorem agk(L:Ru){p a b:Nat}(h1:p<=a)(h2:a<b)(h:x=G->L[a]?=J 40):x.toNat+Tp (L.drop b)<=Tp (L.drop p):=by
 have e  := by
  have:=List.take_append_drop (b-p)<|L.drop p
  rw[sL,show p+(b-p)=b by lia]at this;exact this.symm
 rw[e,b0];cases x with
 |false=>simp
 |true=>
  have h:=h rfl
  have:0<Tp ((L.drop p).take<|b-p):=by
   refine List.countP_pos_iff.mpr ⟨40,?_,rfl⟩;refine Do (i:=a-p) ?_;rw[List.getElem?_take,SI<|⊥,oA,show p+(a-p)=a by lia,h]
  simp;lia
theorem aga(L:Ru)(l:L.length<=1000)(g:∀c∈L,c≠34/\c<16^8):∀(n p:Nat),L.length-p<=n->p<=L.length->∃w ts,dt [.str<|aw L,.int (p:Int)]=.ok w.d/\Ch (aw L) (w::ts)/\(∀f∈w::ts,zp f)/\lp (w::ts)<=Tp (L.drop p):=by
 intro n;induction n with
 |zero=>
  intro p o i;obtain⟨w,e,x⟩:=v7 L l g p i;obtain⟨a1,a2,a3⟩:=x.a;rcases x.m with h|h|h
  .refine⟨w,[],e,.last w (.inl h) x.v<|⊥,by simpa using x.k,?_⟩
   have:j8 w=η:=Wc.mpr fun z=>by have:=eU z;rw[h]at this;exact absurd this ⊤
   unfold lp;simp[this]
  .refine⟨w,[],e,.last w (.inr h) x.v<|⊥,by simpa using x.k,?_⟩
   have:j8 w=η:=Wc.mpr fun z=>by have:=eU z;rw[h]at this;exact absurd this ⊤
   unfold lp;simp[this]
  .omega
 |succ n ih=>
  intro p o i;obtain⟨w,e,x⟩:=v7 L l g p i;obtain⟨a1,a2,a3⟩:=x.a;have lst:(w.k="end"\/w.k="bad")->∃w ts,dt [.str<|aw L,.int (p:Int)]=.ok w.d/\Ch (aw L) (w::ts)/\(∀f∈w::ts,zp f)/\lp (w::ts)<=Tp (L.drop p):=fun h=>by
   refine⟨w,[],e,.last w h x.v<|⊥,by simpa using x.k,?_⟩
   have:j8 w=η:=Wc.mpr fun z=>by have z:=eU z;rcases h with h|h<;>rw[h]at z<;>exact absurd z ⊤
   unfold lp;simp[this]
  rcases x.m with h|h|h
  .grind
  .grind
  .refine US (ih w.b ⊥ a3) fun f ts e' c' k' l'=>?_;refine⟨w,f::ts,e,.more w f ts x.v ⊥ e' c',fun t j=>?_,?_⟩
   .rcases eQ.mp j with rfl|j
    .exact x.k
    .exact k' t j
   .have:=agk L a1 h.2 x.lp
    have e2:lp (w::f::ts)=(j8 w).toNat+lp (f::ts):=by
     unfold lp
     grind
    lia
def agI(L:Ru)(b:L.length<=1000)(a:∀c∈L,c≠34/\c<16^8):∃ts,kY (aw L) ts/\lp ts<=Tp L:=by
 obtain⟨w,ts,e,c,k,l⟩:=aga L b a L.length 0 ⊥ ⊥;exact⟨w::ts,⟨c,k,e⟩,l⟩
noncomputable def Cn.sz:Cn->Nat
 |.test _ _ _=>1
 |.not c=>1+c.sz
 |.and a b=>1+a.sz+b.sz
 |.or a b=>1+a.sz+b.sz
 |.br c=>1+c.sz
def Cn.Tg:Cn->Prop
 |.test g a b=>g∈#[11]/\a.Ok/\b.Ok
 |.not c=>c.Tg
 |.and a b=>a.Tg/\b.Tg
 |.or a b=>a.Tg/\b.Tg
 |.br c=>c.Tg
theorem Cn.Tg.ok{c:Cn}(h:c.Tg):c.Ok:=by
 induction c with
 |test g a b=>exact h.1
 |not c ih=>exact ih h
 |and a b i j=>exact⟨i h.1,j h.2⟩
 |or a b i j=>exact⟨i h.1,j h.2⟩
 |br c ih=>exact ih h
noncomputable def Cn.hw:Cn->Str
 |.test _ _ _=>"test"
 |.not _=>"not"
 |.and _ _=>"and"
 |.or _ _=>"or"
 |.br c=>c.hw
theorem Cn.hd(c:Cn):cR c.d (.int 0)=.ok (.str c.hw):=by
 induction c with
 |br c ih=>exact ih
 |_=>rfl
def ms{c:Cn}(a:c.Pl):uW [c.d]=.ok (.int c.lv):=by
 have b:=c.hd;have e:Xd (nq (fun p=>(Prod.fst p,D.int<|z9 p)) [("or",1),("and",2),("not",3),("test",3)]) (.str c.hw)=.ok (.int c.lv):=by cases c<;>first|rfl|exact a.elim
 exact aq<|ar<|BM (b) e
def Cn.pZ(c:Cn):1<=c.sz:=by cases c<;>unfold Cn.sz<;>lia
def T(c:Cn):Ru:=tx<|c.it 0
abbrev lS(z:Str):Ru:=z.cps.toList
def zA(b:Bool)(t:Ru):Ru:=if b=G then(lS "("++t)++lS ")"else t
theorem Jt:lS " "=[32]:=⊤
def Wa:(lS "(").length=1:=⊤
def Yf:(lS ")").length=1:=⊤
theorem Ez(b:Bool)(c:Cn):tx (Eg 0 b fun k=>c.it k)=zA b (T c):=by
 delta Eg zA T;cases b with
 |true=>simp[tx,dc,oZ]
 |false=>rfl
def kf(b:Bool)(t:Ru):(zA b t).length<=t.length+2:=by
 delta zA;have h1:=Wa;have h2:=Yf
 grind
def F5(g:Str)(a b:TY):T (.test g a b)=(((tx (a.it 0)++lS " ")++lS g)++lS " ")++tx (b.it 0):=by
 have:=b.bl 1
 simp[T,Cn.it,dc,tx,oZ,this,Jt]
def Nq(c:Cn):T (.not c)=lS "not "++zA (decide (c.lv<3)) (T c):=by
 have:=Gc ((c.lv<3)) c.bl 1
 rw[Ez]at this;have e:lS "not "=lS "not"++[32]:=⊤
 simp[T,Cn.it,tx,mm,this,e]
def nL(c:Cn):T (.br c)=zA G (T c):=Ez G c
def NX(A:List Iw)(w:Str)(b:Cn)(l:Int):tx (A++(1,kK w)::Eg 1 (decide (b.lv<l)) fun k=>b.it k)=(((tx A++lS " ")++lS w)++lS " ")++zA (decide (b.lv<l)) (T b):=by
 have:=Gc ((b.lv<l)) b.bl 1
 rw[Ez]at this;simp[dc,tx,mm,this,Jt]
def NH(a b:Cn):T (.and a b)=(((zA (decide (a.lv<2)) (T a)++lS " ")++lS "and")++lS " ")++zA (decide (b.lv<3)) (T b):=(NX _ "and" b 3).trans (by rw[Ez])
def Uv(a b:Cn):T (.or a b)=(((zA (decide (a.lv<1)) (T a)++lS " ")++lS "or")++lS " ")++zA (decide (b.lv<2)) (T b):=(NX (a.it 0) "or" b 2).trans (by rw[show decide (a.lv<1)=η by cases a<;>rfl];rfl)
def Fy:∀g∈#[11],(lS g).length<=2:=⊤
theorem u9{c:Cn}(h:c.Tg):(T c).length+9<=53*c.b6+6*c.b4:=by
 have e1:(lS "and").length=3:=⊤
 have e2:(lS "or").length=2:=⊤
 have e3:(lS "not ").length=4:=⊤
 have e4:(lS " ").length=1:=⊤
 have d:∀(b:Bool)(t:Ru),(zA b t).length=t.length+2*b.toNat:=fun b t=>by
  have h1:=Wa;have h2:=Yf;unfold zA;cases b<;>simp[h1,h2];lia
 induction c with
 |test g a b=>
  have h1:=a.len h.2.1;have h2:=b.len h.2.2;have e:=Fy g h.1;rw[F5];simp only[LX,Cn.b6,Cn.b4];lia
 |not c ih=>
  have:=ih h
  have h2:=d (decide (c.lv<3))<|T c;rw[Nq];simp only[LX,Cn.b6,Cn.b4];lia
 |and a b i j=>
  have h1:=i h.1;have h2:=j h.2;have e:=d (decide (a.lv<2))<|T a;have k:=d (decide (b.lv<3))<|T b;rw[NH];simp only[LX,Cn.b6,Cn.b4];lia
 |or a b i j=>
  have h1:=i h.1;have h2:=j h.2;have e:=d (decide (a.lv<1))<|T a;have k:=d (decide (b.lv<2))<|T b;have f:decide (a.lv<1)=η:=by cases a<;>rfl
  rw[f]at e;rw[Uv,f];simp only[LX,Cn.b6,Cn.b4]
  grind
 |br c ih=>
  have:=ih h
  rw[nL];simp only[Cn.b6,Cn.b4]
  grind
theorem Cn.small(c:Cn):c.b6<=c.sz/\c.b4<=3*c.sz:=by
 induction c with
 |test=>exact⟨mK _,Uh _⟩
 |not c ih=>have:=Bool.toNat_le<|(c.lv<3);unfold Cn.b6 Cn.b4 Cn.sz;lia
 |and a b i j=>have:=Bool.toNat_le<|(a.lv<2);have:=Bool.toNat_le<|(b.lv<3);unfold Cn.b6 Cn.b4 Cn.sz;lia
 |or a b i j=>have:=Bool.toNat_le<|(b.lv<2);unfold Cn.b6 Cn.b4 Cn.sz;lia
 |br c ih=>unfold Cn.b6 Cn.b4 Cn.sz;lia
def p0{c:Cn}(h:c.Tg):(T c).length<=80*c.sz:=by
 have:=u9 h
 have:=c.small
 lia
def zE(k:Nat)(c:Cn)(b5:Int)(a:c.Pl)(e:(T c).length<=200000)(b:(bt k).2 [c.d]=.ok (.str<|aw<|T c)):
  (bt<|k+1).1 [c.d,.int b5]=.ok (.str<|aw<|zA (decide (c.lv<b5))<|T c):=by
 have h1:=Wa;have h2:=Yf;by_cases h:c.lv<b5
 .rw[Th h];exact aq (aS<|(a8<|ao<|ae ((ms a)) rfl (wR.trans<|by mright)).trans<|ar<|fW (fW d6 (b)<|⊥) d6<|by grind)
 .rw[TU h];exact aq<|(skip<|ao<|ae ((ms a)) rfl (wR.trans<|by grind)).trans<|ar<|b
def Am:lE "not"≠lE "test":=⊤
def Gy:lE "and"≠lE "test":=⊤
def M6:lE "and"≠lE "not":=⊤
def IW:lE "or"≠lE "test":=⊤
def NU:lE "or"≠lE "not":=⊤
def Lh(l:Int)(hd:c.d=.tup [.str w,a.d,b.d])(pc:c.Pl)(r:a.Pl)(p:b.Pl)(u:c.lv=l)(g:w≠lE "test")(q:w≠lE "not")(hw:(lS w).length<=3)(la:(T a).length<=60000)(v:(T b).length<=60000)
  (i:(bt<|n+1).2 [a.d]=.ok (.str<|aw<|T a)) (e:(bt<|n+1).2 [b.d]=.ok (.str<|aw<|T b)) (m:T c=(((zA (decide (a.lv<l)) (T a)++lS " ")++lS w)++lS " ")++zA (decide (b.lv<l+1)) (T b)):
  (bt<|n+3).2 [c.d]=.ok (.str<|aw<|T c):=by
 have e4:(lS " ").length=1:=⊤
 have f:=zE (n+1) a l r ⊥ i;have t:=zE (n+1) b (l+1) p ⊥ e;have lv:=ms pc;have k:=kf (decide (a.lv<l))<|T a;have j:=kf (decide (b.lv<l+1))<|T b;rw[m];rw[u,hd]at lv;rw[hd];generalize zA (decide (a.lv<l)) (T a)=x at *;generalize zA (decide (b.lv<l+1)) (T b)=y at *;have s:(x++lS " ").length<=90100:=by rw[LX];lia
 have o:((x++lS " ")++lS w).length<=90200:=by rw[LX];lia
 have h:(((x++lS " ")++lS w)++lS " ").length<=90300:=by grind
 exact aq ((skip<|ao<|(fL g)).trans<|(skip<|ao<|(fL q)).trans<|(bu<|au<|lv).trans<|ar<|fW (fW (fW (fW (f) d6<|⊥) rfl ⊥) d6<|⊥) (t)<|⊥)
theorem BF(h:c.Tg)(e:c.Pl):c.sz<=99->∀k,2*c.sz<=k+1->(bt<|k+1).2 [c.d]=.ok (.str<|aw<|T c):=by
 have e3:(lS "not ").length=4:=⊤
 have e4:(lS " ").length=1:=⊤
 induction c with
 |br c ih=>exact e.elim
 |test g a b=>
  intro _ k f;have h1:=a.len h.2.1;have h2:=b.len h.2.2;have s:=Fy g h.1;have p:=pj h.2.1;have b2:=pj h.2.2;have q1:(tx (a.it 0)++lS " ").length<=90:=by rw[LX];lia
  have q2:((tx (a.it 0)++lS " ")++lS g).length<=95:=by rw[LX];lia
  have t:(((tx (a.it 0)++lS " ")++lS g)++lS " ").length<=99:=by rw[LX];lia
  rw[F5];exact aq (r:=iO _ _ _) (aS<|(a8<|ao<|ae #[12] rfl (ot rfl)).trans<|ar<|fW (fW (fW (fW (af (ac #[12] rfl) p) d6<|⊥) ((fun h => by assumption)<|ae rfl rfl rfl)<|⊥) d6<|⊥) (af (ac #[12] rfl) b2)<|⊥)
 |not c ih=>
  intro hs k f;have hs:1+c.sz<=99:=hs;have f:2*(1+c.sz)<=k+1:=f;have u:=p0 (c:=c) h;have q:=kf (decide (c.lv<3))<|T c;have l:=c.pZ;obtain⟨j,rfl⟩:∃j,k=j+2:=⟨k-2,⊥⟩;have c2:=ih h e ⊥ j ⊥;have m:=zE (j+1) c 3 e ⊥ c2;rw[Nq];exact aq (r:=iO _ _ _) ((skip<|ao<|ae #[12] rfl (fL Am)).trans<|aS<|(a8<|ao<|ae #[12] rfl (ot rfl)).trans<|ar<|fW d6 (af (ac #[12]<|ac rfl rfl) m)<|⊥)
 |and a b i j=>
  intro hs k f;have hs:1+a.sz+b.sz<=99:=hs;have f:2*(1+a.sz+b.sz)<=k+1:=f;have h1:=p0 h.1;have h2:=p0 h.2;have l:=a.pZ;have o:=b.pZ;obtain⟨n,rfl⟩:∃j,k=j+2:=⟨k-2,⊥⟩;exact Lh 2 rfl e e.1 e.2 rfl Gy M6 ⊤ ⊥ ⊥ (i h.1 e.1 ⊥ n<|⊥) (j h.2 e.2 ⊥ n<|⊥) (NH a b)
 |or a b i j=>
  intro hs k f;have hs:1+a.sz+b.sz<=99:=hs;have f:2*(1+a.sz+b.sz)<=k+1:=f;have h1:=p0 h.1;have h2:=p0 h.2;have l:=a.pZ;obtain⟨n,rfl⟩:∃j,k=j+2:=⟨k-2,⊥⟩;exact Lh 1 rfl e e.1 e.2 rfl IW NU ⊤ ⊥ ⊥ (i h.1 e.1 ⊥ n<|⊥) (j h.2 e.2 ⊥ n<|⊥) (Uv a b)
def rH(a b:Str):(a++b).length=a.length+b.length:=by
 rw[<-nY,<-nY,<-nY,dH,LX]
def Il(a b:Str)(h:a.length+b.length<=1000000):eZ (.str a) (.str b)=.ok (.str<|a++b):=by rw[Nd,SI h]
def aJ(h:S Y=.ok (.nx δ'))(h2:T' δ'=r):nh S T' Y=r:=(bu h).trans h2
def eH(h:(τ Y=.ok G/\S Y=.ok (.nx δ'))\/(τ Y=.ok η/\δ'=Y))(h2:T' δ'=r):nh (DA τ S ld) T' Y=r:=by
 rcases h with⟨h,h3⟩|⟨h,rfl⟩
 .exact(bu<|(a8 h).trans h3).trans h2
 .exact(skip h).trans h2
def cell(a:List Int)(k:Int):Int:=a.getD k.toNat 0
def jD(b:List Int)(k:Int)(c:0<=k):gV [.lst<|b.map D.int,.int k]=.ok (.int<|cell b k):=by
 by_cases h:k<b.length
 .have e:b[k.toNat]?=(cell b k):=by delta cell;mright
  have a:=abn D.int b e;rw[show(k.toNat)=k by lia]at a;exact aq<|aS<|(a8<|ao<|ae rfl rfl (wR.trans<|by mright)).trans<|ar<|a
 .have e:cell b k=0:=by delta cell;mright
  rw[e];exact aq<|(skip<|ao<|ae rfl rfl (wR.trans<|by mright)).trans rfl
def qx(c k:Int)(a:0<=k)(h1:k<1000):∃m,iZ [.int c,.int k]=.ok (.int m)/\0<=m/\m<2147483647:=by
 exact⟨_,aq<|(bu<|au<|bf (iH rfl rfl) rfl).trans<|ar<|bf (iH rfl rfl ⊥) rfl,dW _<|∎,dA _<|∎⟩
abbrev cab:Str:=lE "abcdefghijklmnopqrstuvwxyz"
def Lw(Q:Nat->Prop)(z:Str):Prop:=∀c∈z.cps.toList,Q c
def Lw.app{Q:Nat->Prop}(e:Lw Q a)(f:Lw Q b):Lw Q<|a++b:=fun c d=>by
 rw[dH]at d;exact(BY.mp d).elim (e c)<|f c
def FX{Q:Nat->Prop}(i:Int)(e:z.cps.toList.length=n+1)(f:Lw Q z)(h:n<1000):∃c,Q c/\cR (.str z) (.int<|i%((n+1:Nat):Int))=.ok (.str ⟨#[c]⟩):=by
 have d:=dW i (b:=((n+1:Nat))) ⊥;have h1:=dA i (b:=((n+1:Nat))) ∅;generalize i%((n+1:Nat))=k at d h1;obtain⟨k,rfl⟩:=Int.eq_ofNat_of_zero_le d;have a:k<z.cps.toList.length:=⊥
 exact⟨_,f _<|yL a,U0 (by rw[nY]at e;lia)<|xu<|WT a⟩
def qZ(c:Nat):(⟨#[c]⟩:Str).length=1:=rfl
abbrev vk(m:FS){a b:FS}(_:m=nh a b):FS:=b
abbrev Rf(m:FS){i:FA}{g:VA}{x r:FS}(_:m=nh (Hy i g x) r):FS:=x
abbrev nB:FS:=Rf (vk tS rfl) rfl
def Z33{Q:Nat->Prop}(w:Int->Str->Option D->Sd)(m:∀p z o x,z.length<100->∃b c,Q c/\B ((w p z o).set i<|J x)=.ok (.nx<|w b (z++⟨#[c]⟩)<|J x)):∀(xs:Rx)(p:Int)(z:Str)(o:Option D),z.length+xs.length<=100->Lw Q z->∃b a o',cZ (.one i) B xs (w p z o)=.ok (.nx<|w b a o')/\a.length=z.length+xs.length/\Lw Q a:=TB (fun p z o h hz=>⟨p,z,o,rfl,rfl,hz⟩) fun x r i_ p z o h hz=>by
  simp only[uq]at h;left;refine X7 (m p z o x ⊥) fun p1 c l e=>?_;refine WM (i_ p1 (z++⟨#[c]⟩) (x) (by rw[rH,qZ];lia) (hz.app fun d hd=>by
   mright)) fun p2 g j k h2 f=>?_
  right;exact⟨p2,g,j,(gj e).trans k,by rw[h2,rH,qZ];simp;lia,f⟩
def PP(p:Int)(z:Str)(o:Option D)(x:D)(h:z.length<100):∃b c,low c=G/\nB [J<|.int p,J<|.str z,J x]=.ok (.nx [J<|.int b,J<|.str<|z++⟨#[c]⟩,J x]):=by
 obtain⟨c,a,e⟩:=FX (z:=cab) (Q:=fun c=>low c=G) ((p*48271+11)%2147483647/7) rfl (by delta Lw;trivial) ∎;exact⟨_,c,a,aJ (au<|bf (ir (iH rfl rfl) rfl) rfl)<|au<|ae rfl (e) (Il _ _<|by rw[qZ];lia)⟩
theorem eY:∀(n:Nat)(i:Int),(aW i n).length=n
 |0,i=>rfl
 |n+1,i=>by simp[aW]
def vI:∀(n:Nat)(i:Int)(x:D),x∈aW i n->∃k:Int,x=.int k/\i<=k/\k<i+n:=by
 intro n i x a;delta aW at a
 grind
def y9(h:φ Y=.ok (.int i))(a:0<=i)(b:i<=1000):p9 (ak φ aQ) Y=.ok (aW 0 i.toNat):=by
 rw[IQ,ac h rfl,am,MX<|⊥]
noncomputable abbrev nZ:SH:=["and","by","down","from","none","not","or","order","show","take","where"]
def GW(z:Str):oX z=decide (z∈nZ):=nG z nZ
def Po:∀z∈nZ,oX (z++lE "x")=η:=⊤
def Qt:∀z∈nZ,z.length<=5:=⊤
def CD(h1:1<=z.length)(a:z.length<=8)(d:Lw (fun c=>low c=G) z)(b:oX z=η):ci z=G:=by
 delta ci;have f:z≠"":=fun e=>by
  have:(lE "").length=0:=⊤
  rw[e,this]at h1;lia
 rw[TU f,Th a,b,Ve.mpr d];rfl
theorem name(p:Int):∃z:Str,zo [.int p]=.ok (.str z)/\ci z=G:=by
 have h:0<=p%8:=dW _ ∎;have b1:p%8<8:=dA _ ∎;have e0:(lE "").length=0:=⊤
 have f:=eY (1+p%8).toNat 0;refine WM (Z33 (i:=2) (fun p z o=>[J<|.int p,J<|.str z,o]) PP (aW 0 (1+p%8).toNat) p (lE "") U (by rw[f,e0];lia) (by delta Lw;decide +kernel)) fun g a o' d h2 b=>?_;rw[f,e0]at h2;have c:dC (aH rE (ag 1)<|uD<|ak (vC<|.str "and")<|ak (vC<|.str "by")<|ak (vC<|.str "down")<|ak (vC<|.str "from")<|ak (vC<|.str "none")<|ak (vC<|.str "not")<|ak (vC<|.str "or")<|ak (vC<|.str "order")<|ak (vC<|.str "show")<|ak (vC<|.str "take")<|ak (vC<|.str "where") aQ) [J<|.int g,J<|.str a,o']=.ok (oX a):=
  ao (ae rfl (de<|ac rfl (ac rfl (ac rfl (ac rfl (ac rfl (ac rfl (ac rfl (ac rfl (ac rfl (ac rfl #[29])))))))))) rfl)
 cases hb:oX a with
 |true=>
  have e:a∈nZ:=by
   have:=hb
   rw[GW]at this;exact WI this
  have j:=Qt a e;have k:(lE "x").length=1:=⊤
  exact⟨a++"x",aq<|aJ rfl (aJ (kU (y9 rfl ⊥ ⊥) d)<|eH (.inl ⟨c.trans<|by rw[hb],au<|(Il _ _<|⊥)⟩) rfl),CD (by rw[rH];mright) (by rw[rH];lia) (b.app<|by delta Lw;trivial)<|Po a e⟩
 |false=>
  exact⟨a,aq<|aJ rfl (aJ (kU (y9 rfl ⊥ ⊥) d)<|eH (.inr ⟨c.trans<|by rw[hb],rfl⟩) rfl),CD ⊥ (by grind) b hb⟩
def TY.val:TY->Prop
 |.col _ _=>False
 |_=>True
def value(p c:Int):∃a:TY,uU [.int p,.int c]=.ok (vv a)/\a.Ok/\a.val:=by
 have t:dC (aH jp (aH gk (ag 0)<|vC<|.int 3)<|vC<|.int 0) [J<|.int p,J<|.int c]=.ok ((p%3=0)):=sV rfl rfl;by_cases h:p%3=0
 .exact⟨.S9,aq<|aS<|(a8<|t.trans<|by mright).trans rfl,trivial,trivial⟩
 .refine⟨.int<|p/3%2000-1000,aq<|(skip<|t.trans<|by mright).trans rfl,?_,trivial⟩;show _<10^18;omega
def Bo(p c:Int):∃a:TY,qH [.int p,.int c]=.ok a.d/\a.Ok:=by
 have t:dC (aH zF (aH gk (ag 0)<|vC<|.int 3)<|vC<|.int 2) [J<|.int p,J<|.int c]=.ok ((p%3<2)):=rfl;by_cases h:p%3<2
 .obtain⟨a,e,f⟩:=name<|p/3%4;obtain⟨b,j,g⟩:=name<|p/12;exact⟨.col a b,aq<|aS<|(a8<|t.trans<|by mright).trans<|ar<|de<|ac rfl (ac (e)<|ac (j) rfl),f,g⟩
 .obtain⟨a,e,f,i⟩:=value (p/3) c;refine⟨a,?_,f⟩;have k:a.d=.tup [.str "value",vv a]:=by cases a with|col x y=>exact i.elim|_=>rfl
  rw[k];exact aq<|(skip<|t.trans<|by mright).trans<|ar<|de<|ac rfl (ac (e) rfl)
def Ph(a:List Cn):Nat:=(a.map fun c=>c.sz+2).sum
def Te(a:List Cn):Nat:=(a.map Cn.b6).sum
def Cn.Gd(c:Cn):Prop:=c.Tg/\c.Pl
def KW(a:List Cn):Prop:=∀c∈a,c.Gd
theorem Gm(a b:List Cn):Ph (a++b)=Ph a+Ph b:=by simp[Ph]
theorem Eu(a b:List Cn):Te (a++b)=Te a+Te b:=by simp[Te]
theorem AU(c:Cn):Ph [c]=c.sz+2:=by simp[Ph]
theorem Ah(c:Cn):Te [c]=c.b6:=by simp[Te]
noncomputable abbrev st(S m:D)(f:Rx)(a b d c e:Option D):Sd:=[J S,J<|.int 1,J m,J<|.lst f,a,b,d,c,e]
def Nz(S m:D)(c:Rx)(a b:D)(e g f h i:Option D)(ε ψ:FE)(d:D)(o:ε (st S m (c++[a]++[b]) e g f h i)=.ok d)(j:ψ (st S m (c++[a]++[b]) e g f h i)=.ok (.int (c.length:Nat)))(q:c.length<=900):
  my 3 ε ψ (st S m (c++[a]++[b]) e g f h i)=.ok (.nx<|st S m (c++[.tup [d,a,b]]) e g f h i):=by
 have l:(st S m (c++[a]++[b]) e g f h i)[3]?=J (J<|.lst<|c++[a]++[b]):=rfl;delta my;rw[l];simp only[o,j,am];have k:C5 (c++[a]++[b]).length (c.length:Nat)=J c.length:=by
  delta C5;rw[SI<|⊥,SI<|by simp;lia];simp
 have e1:(c++[a]++[b])[c.length]?=J a:=∅
 have p:(c++[a]++[b]).eraseIdx c.length=c++[b]:=by
  rw[Vw,List.eraseIdx_append_of_length_le<|mK _];simp
 rw[k];simp only;rw[e1];simp only;rw[p];have n:(c++[b])[(c++[b]).length-1]?=J b:=∅
 rw[n];simp only;rw[SI<|by simp;lia];simp
def aaB(S m:D)(b:Rx)(a:D)(c f e g h:Option D)(ε:FE)(d:D)(i:ε (st S m (b++[a]) c f e g h)=.ok d)(l:b.length<=900):
  pR 3 ε (st S m (b++[a]) c f e g h)=.ok (.nx<|st S m (b++[.tup [d,a]]) c f e g h):=by
 have k:(st S m (b++[a]) c f e g h)[3]?=J (J<|.lst<|b++[a]):=rfl;delta pR;rw[k];simp only[i,am];have j:(b++[a])[(b++[a]).length-1]?=a:=∅
 rw[j];simp only;rw[SI<|by simp;lia];simp
def N0(c:List Cn)(a b:Cn):(c++[a]++[b]).map Cn.d=c.map Cn.d++[a.d]++[b.d]:=∅
def Be(b:List Cn)(a:Cn):(b++[a]).map Cn.d=b.map Cn.d++[a.d]:=∅
def Ga{c:List Cn}(h:2<=c.length):∃d a b,c=d++[a]++[b]:=by
 have h1:c≠[]:=fun e=>by mright
 have e1:=k8 h1;have h2:c.dropLast≠[]:=fun e=>by rw[e]at e1;rw[<-e1]at h;simp at h
 have f:=k8 h2;exact⟨_,_,_,by rw[f,e1]⟩
structure xr(a b t:Cn)(n:Nat):Prop where
 s:t.sz<=a.sz+b.sz+n
 te:t.b6=a.b6+b.b6
 fi:a.Gd->b.Gd->t.Gd
def EJ(i:Int)(c:0<=i)(h1:i<2)(a b:Cn):∃(wd:Str)(t:Cn),cR (.lst [.str "and",.str "or"]) (.int i)=.ok (.str wd)/\t.d=.tup [.str wd,a.d,b.d]/\xr a b t 1:=by
 have:i=0\/i=1:=⊥
 rcases this with rfl|rfl
 .exact⟨_,.and a b,rfl,rfl,by show 1+a.sz+b.sz<=_;lia,rfl,fun x y=>⟨⟨x.1,y.1⟩,x.2,y.2⟩⟩
 .exact⟨_,.or a b,rfl,rfl,by show 1+a.sz+b.sz<=_;lia,rfl,fun x y=>⟨⟨x.1,y.1⟩,x.2,y.2⟩⟩
def Fit(S m:D)(a:Rx)(b d c e f:Option D):aI cr (ak (ag 3) aQ) (st S m a b d c e f)=.ok (.int (a.length:Nat)):=rfl
def SX(S m:D)(c:Rx)(a b:D)(d f e g h:Option D):aH zI (aI cr<|ak (ag 3) aQ) (vC<|.int 2) (st S m (c++[a]++[b]) d f e g h)=.ok (.int (c.length:Nat)):=by
 refine(sC rfl rfl).trans ?_;simp
abbrev c1:FT:=(mQ (dC<|aH Ed (aI cr<|ak (ag 3) aQ)<|vC<|.int 1)<|dC<|aH Ed (aH gk (aH lO (ag 6)<|vC<|.int 4000)<|vC<|.int 3)<|vC<|.int 0)
abbrev b1:FS:=(nh (my 3 (aH cR (uw<|ak (vC<|.str "and")<|ak (vC<|.str "or") aQ)<|aH gk (aH lO (ag 6)<|vC<|.int 12000)<|vC<|.int 2)<|aH zI (aI cr<|ak (ag 3) aQ)<|vC<|.int 2)<|nh (rZ 6<|aH gk (aH qX (ag 6)<|vC<|.int 69621)<|vC<|.int 2147483647)<|DA (dC<|aH jp (aH gk (aH lO (ag 6)<|vC<|.int 24000)<|vC<|.int 4)<|vC<|.int 0) (pR 3<|vC<|.str "not") ld)
def Lg(S m:D)(e:List Cn)(a b:Cn)(c f g h:Option D)(p:Int)(q:e.length<=800):
  ∃t n,b1 (st S m ((e++[a]++[b]).map Cn.d) c f (J<|.int p) g h)=.ok (.nx<|st S m ((e++[t]).map Cn.d) c f (J<|.int n) g h)/\xr a b t 2:=by
 refine Tw (EJ (p/12000%2) (dW _<|∎) (dA _<|∎) a b) fun wd t e1 l j=>?_;rw[N0];have o:aH cR (uw<|ak (vC<|.str "and")<|ak (vC<|.str "or") aQ) (aH gk (aH lO (ag 6)<|vC<|.int 12000)<|vC<|.int 2) (st S m (e.map Cn.d++[a.d]++[b.d]) c f (J<|.int p) g h)=.ok (.str wd):=ae (mx<|ac rfl #[29]) (bf (f6 rfl rfl) rfl) e1;have E1:=Nz S m (e.map Cn.d) a.d b.d c f (J<|.int p) g h _ _ (.str wd) o (SX S m _ _ _ c f (J<|.int p) g h) (by grind);rw[<-l]at E1;have i:dC (aH jp (aH gk (aH lO (ag 6)<|vC<|.int 24000)<|vC<|.int 4)<|vC<|.int 0) (st S m (e.map Cn.d++[t.d]) c f (J<|.int<|p*69621%2147483647) g h)=.ok ((p*69621%2147483647/24000%4=0)):=sV rfl rfl;by_cases k:p*69621%2147483647/24000%4=0
 .rw[k]at i;refine⟨.not t,p*69621%2147483647,?_,by have:=j.s;show 1+t.sz<=_;lia,j.te,j.fi⟩;rw[Be];exact aJ E1<|aJ (au<|bf (iH rfl rfl) rfl)<|(a8 i).trans<|aaB S m (e.map Cn.d) t.d c f _ g h (vC<|.str "not") (.str "not") rfl (by grind)
 .rw[TU k]at i;refine⟨t,p*69621%2147483647,?_,by have:=j.s;lia,j.te,j.fi⟩;rw[Be];exact aJ E1<|aJ (au<|bf (iH rfl rfl) rfl)<|(j0 i).trans rfl
def Ol(S m:D)(a:Rx)(b c d e:Option D)(p:Int):c1 (st S m a b c (J<|.int p) d e)=.ok (decide (1<a.length)&&decide (0<p/4000%3)):=by
 have e1:dC (aH Ed (aI cr<|ak (ag 3) aQ)<|vC<|.int 1) (st S m a b c (J<|.int p) d e)=.ok ((1<a.length)):=ao<|(vQ.trans<|by congr 2;exact decide_eq_decide.mpr<|⊥);have f:dC (aH Ed (aH gk (aH lO (ag 6)<|vC<|.int 4000)<|vC<|.int 3)<|vC<|.int 0) (st S m a b c (J<|.int p) d e)=.ok ((0<p/4000%3)):=rfl;by_cases h:1<a.length
 .rw[Th h]at e1⊢;exact kW e1 f
 .rw[TU h]at e1⊢;exact Bu e1
structure Lay(cs cs':List Cn)(n:Nat):Prop where
 p:Ph cs'<=Ph cs+n
 t:Te cs'=Te cs
 f:KW cs->KW cs'
 l:1<=cs'.length
 le:cs'.length<=cs.length
def Lay.step{a b t:Cn}(j:xr a b t n)(g:n<=2)(Lq0:Lay (cs++[t]) cs' 0):Lay (cs++[a]++[b]) cs' 0:=by
 refine⟨?_,?_,fun d=>Lq0.f fun c e=>?_,Lq0.l,?_⟩
 .have:=Lq0.p
  have:=j.s
  simp only[Gm,AU]at *;lia
 .rw[Lq0.t];simp only[Eu,Ah,j.te];lia
 .rcases BY.mp e with z|z
  .exact d c (by simp[z])
  .rw[IF.mp z];exact j.fi (d a<|∅) (d b<|∅)
 .have:=Lq0.le
  mright;lia
theorem CB(S m:D)(i l o q:Option D):∀(n:Nat)(c:List Cn)(f:Nat)(p:Int),c.length<=n->1<=c.length->n<f->n<=700 ->
  ∃g s,cq c1 b1 f (st S m (c.map Cn.d) i l (J<|.int p) o q)=.ok (.nx<|st S m (g.map Cn.d) i l (J<|.int s) o q)/\Lay c g 0
 |n,c,0,p,hn,h1,hf,hb=>⊥
 |n,c,f+1,p,hn,h1,hf,hb=>by
  have k:=Ol S m (c.map Cn.d) i l o q p;rw[WH]at k;by_cases h2:1<c.length/\0<p/4000%3
  .rw[Th h2.1,Th h2.2]at k;left;obtain⟨h,a,b,rfl⟩:=Ga h2.1;have v:(h++[a]++[b]).length=h.length+2:=∅
   refine X7 (Lg S m h a b i l o q p ⊥) fun t s e j=>?_;obtain⟨n,rfl⟩:∃u,n=u+1:=⟨n-1,⊥⟩;refine X7 (CB S m i l o q n (h++[t]) f s (by simp;mright) ∅ #[28] ⊥) fun g r w Lq0=>?_;right;exact⟨g,r,(HI k e).trans w,Lq0.step j<|mK _⟩
  .have:((1<c.length)&&(0<p/4000%3))=η:=by
    mright
   rw[this]at k;exact⟨c,p,Nc k,mK _,rfl,id,h1,mK _⟩
abbrev c2:FT:=(dC<|aH Ed (aI cr<|ak (ag 3) aQ)<|vC<|.int 1)
abbrev b2:FS:=(my 3 (aH cR (uw<|ak (vC<|.str "and")<|ak (vC<|.str "or") aQ)<|aH gk (aI iZ<|ak (ag 2)<|ak (aI cr<|ak (ag 3) aQ) aQ)<|vC<|.int 2)<|aH zI (aI cr<|ak (ag 3) aQ)<|vC<|.int 2)
theorem AZ(S:D)(m:Int)(h i o k l:Option D):∀(n:Nat)(g:List Cn)(f:Nat),g.length<=n->1<=g.length->n<f->n<=700 ->
  ∃t,cq c2 b2 f (st S (.int m) (g.map Cn.d) h i o k l)=.ok (.nx<|st S (.int m) [t.d] h i o k l)/\Lay g [t] 0
 |n,g,0,hn,h1,hf,hb=>⊥
 |n,g,f+1,hn,h1,hf,hb=>by
  have q:c2 (st S (.int m) (g.map Cn.d) h i o k l)=.ok (decide (1<g.length)):=ao<|ae (Fit S _ _ h i _ k l) rfl (vQ.trans<|by rw[WH];congr 2;exact decide_eq_decide.mpr<|⊥);by_cases h2:1<g.length
  .rw[Th h2]at q;left;obtain⟨c,a,b,rfl⟩:=Ga h2;have p:(c++[a]++[b]).length=c.length+2:=∅
   rw[p]at hn;obtain⟨x,ex,w,y⟩:=qx m ((c.map Cn.d++[a.d]++[b.d]).length:Nat) ⊥ (by simp;lia);refine Tw (EJ (x%2) (dW _<|∎) (dA _<|∎) a b) fun wd t e1 r j=>?_;have v:aH cR (uw<|ak (vC<|.str "and")<|ak (vC<|.str "or") aQ) (aH gk (aI iZ<|ak (ag 2)<|ak (aI cr<|ak (ag 3) aQ) aQ)<|vC<|.int 2) (st S (.int m) (c.map Cn.d++[a.d]++[b.d]) h i o k l)=.ok (.str wd):=ae rfl (bf (ex) rfl) e1;have e  := Nz S (.int m) (c.map Cn.d) a.d b.d h i o k l _ _ (.str wd) v (SX S _ _ _ _ h i o k l) (by grind);rw[<-r,<-N0,<-Be]at e;obtain⟨n,rfl⟩:∃s,n=s+1:=⟨n-1,⊥⟩;obtain⟨t',u,Lq0⟩:=AZ S m h i o k l n (c++[t]) f (by simp;lia) ∅ #[28] ⊥;right;exact⟨t',(HI q e).trans u,Lq0.step j<|∅⟩
  .obtain⟨a,rfl⟩:=List.length_eq_one_iff.mp (show g.length=1 by lia);exact⟨a,Nc q,mK _,rfl,id,⊥,⊥⟩
def non(i:Int)(a:0<=i)(h1:i<6):∃sg:Str,cR (.lst [.str "=",.str "<>",.str "<",.str "<=",.str ">",.str ">="]) (.int i)=.ok (.str sg)/\sg∈#[11]:=by
 have:i=0\/i=1\/i=2\/i=3\/i=4\/i=5:=⊥
 rcases this with rfl|rfl|rfl|rfl|rfl|rfl<;>exact⟨_,rfl,⊤⟩
abbrev fB:FS:=Rf (vk iB rfl) rfl
structure HJ(cs cs':List Cn)(n:Nat):Prop where
 p:Ph cs'<=Ph cs+4*n
 t:Te cs'=Te cs+n
 f:KW cs->KW cs'
 l:1<=n+cs.length->1<=cs'.length
 le:cs'.length<=cs.length+n
def Pq(g:List Int)(m:D)(k:Int)(n:0<=k)(h1:k<100)(e:List Cn)(v:e.length<=600)(o q u r:Option D):
  ∃cs' q5 q6 q7 q8,fB (st (.lst<|g.map D.int) m (e.map Cn.d) (J<|.int k) o q u r)=.ok (.nx<|st (.lst<|g.map D.int) m (cs'.map Cn.d) (J<|.int k) q5 q6 q7 q8)/\HJ e cs' 1:=by
 have j:=jD g (1+k) ⊥;generalize cell g (1+k)=c at j;obtain⟨x,ex,x0,x1⟩:=qx c k n ⊥;obtain⟨sg,es,hs⟩:=non (x%6) (dW _<|∎) (dA _<|∎);obtain⟨a,ea,ha⟩:=Bo (x/6) c;obtain⟨y,ey,y0,y1⟩:=qx c (k+50) ⊥ ⊥;obtain⟨b,eb,hb⟩:=Bo y c;obtain⟨t,E5,ht⟩:∃t:Cn,((x/1000%4=0/\t=.not (.test sg a b))\/(x/1000%4≠0/\t=.test sg a b))/\t.sz<=2/\t.b6=1/\t.Gd:=by
  by_cases h:x/1000%4=0
  .exact⟨_,.inl ⟨h,rfl⟩,mK _,rfl,⟨hs,ha,hb⟩,trivial⟩
  .exact⟨_,.inr ⟨h,rfl⟩,by show 1<=2;decide,rfl,⟨hs,ha,hb⟩,trivial⟩
 have s:jP 3 (ag 8) (st (.lst<|g.map D.int) m (e.map Cn.d) (J<|.int k) (J<|.int c) (J<|.int x) (J<|.str sg)<|J t.d)=.ok (.nx<|st (.lst<|g.map D.int) m ((e++[t]).map Cn.d) (J<|.int k) (J<|.int c) (J<|.int x) (J<|.str sg)<|J t.d):=by
  rw[yld (xs:=e.map Cn.d) (d:=t.d) rfl rfl (by rw[WH];lia),Be];rfl
 refine X7 (CB (.lst<|g.map D.int) m (J<|.int k) (J<|.int c) (J<|.str sg) (J t.d) (e.length+1) (e++[t]) 1000 x ∅ ∅ ⊥ ⊥) fun cs' p' e7 L=>?_;refine⟨cs',J<|.int c,J<|.int p',J<|.str sg,J t.d,?_,?_,?_,?_,fun _=>L.l,?_⟩
 .refine aJ (au<|af (ac rfl (ac (ir rfl rfl) rfl)) j) (aJ (au<|af (ac rfl #[29]) ex)<|aJ (au<|ae (mx<|ac rfl (ac rfl (ac rfl (ac rfl (ac rfl #[29]))))) (bf rfl rfl) es)<|aJ (au<|de<|ac rfl (ac rfl (ac (af (ac (f6 rfl rfl)<|ac rfl rfl) ea)<|ac (af (ac (af (ac rfl (ac (ir rfl rfl) rfl)) ey)<|ac rfl rfl) eb) rfl)))<|eH (δ':=st (.lst<|g.map D.int) m (e.map Cn.d) (J<|.int k) (J<|.int c) (J<|.int x) (J<|.str sg)<|J t.d) ?_<|aJ s<|(congrFun (by rfl) _).trans e7);have i:dC (aH jp (aH gk (aH lO (ag 6)<|vC<|.int 1000)<|vC<|.int 4)<|vC<|.int 0) (st (.lst<|g.map D.int) m (e.map Cn.d) (J<|.int k) (J<|.int c) (J<|.int x) (J<|.str sg)<|J<|Cn.d<|.test sg a b)=.ok (decide (x/1000%4=0)):=sV (bf (f6 rfl rfl) rfl) rfl;rcases E5 with⟨h,rfl⟩|⟨h,rfl⟩
  .exact .inl ⟨i.trans<|by rw[Th h],au<|de<|ac rfl #[29]⟩
  .exact .inr ⟨i.trans<|by rw[TU h],rfl⟩
 .have:=L.p
  simp only[Gm,AU]at this;lia
 .rw[L.t];simp only[Eu,Ah,ht.2.1]
 .intro hF;refine L.f fun d hd=>?_;rcases BY.mp hd with z|z
  .exact hF d z
  grind
 .have:=L.le
  simp at this;exact this
def HP(o:List Int)(m:D):∀(xs:Rx)(a:List Cn)(q i g j n:Option D),(∀x∈xs,∃k:Int,x=.int k/\0<=k/\k<100)->a.length+xs.length<=600 ->
  ∃b C A s w v,cZ (.one 4) fB xs (st (.lst<|o.map D.int) m (a.map Cn.d) q i g j n)=.ok (.nx<|st (.lst<|o.map D.int) m (b.map Cn.d) C A s w v)/\HJ a b xs.length:=TB (fun a q i g j n hx hl=>⟨a,q,i,g,j,n,rfl,∅,rfl,id,fun h=>by simpa using h,∅⟩) fun x r i_ a q i g j n hx hl=>by
  simp only[uq]at hl;left;obtain⟨k,rfl,k0,k1⟩:=hx x ∅;obtain⟨z,A,s,w,v,e1,e⟩:=Pq o m k k0 k1 a ⊥ i g j n;have M:=e.le;refine UZ (i_ z (J<|.int k) A s w v (fun y E=>hx y<|ie _ E) ⊥) fun u B I H N F K c=>?_;right;refine⟨u,B,I,H,N,F,(gj e1).trans K,?_,?_,fun h=>c.f<|e.f h,fun _=>?_,?_⟩
  .have:=e.p;have:=c.p;grind
  .have:=e.t;have:=c.t;grind
  .exact c.l (by have:=e.l ∅;lia)
  .have:=c.le;grind
def abu(e:List Int)(m:Int)(j:1<=m)(h1:m<=8):∃c:Cn,ij [.lst<|e.map D.int,.int 1,.int m]=.ok c.d/\c.Gd/\c.sz<=40/\c.b6<=8:=by
 have n:=eY m.toNat 0;refine UZ (HP e (.int m) (aW 0 m.toNat) [] U U U U U (fun x h=>by
  obtain⟨k,rfl,a,b⟩:=vI _ _ _ h
  grind) (by grind)) fun cs q4 q5 q6 q7 q8 e2 M=>?_
 have g:=M.le;simp at g;obtain⟨t,e3,L⟩:=AZ (.lst<|e.map D.int) m q4 q5 q6 q7 q8 cs.length cs 1000 (mK _) (M.l<|⊥) ⊥ ⊥;refine⟨t,aq<|aJ rfl (aJ (kU (y9 rfl ⊥ ⊥) e2)<|aJ (e3) rfl),L.f (M.f fun c i=>(nomatch i)) t<|∅,?_,?_⟩
 .have p1:=L.p;have p2:=M.p;rw[AU]at p1
  have:Ph []=0:=rfl
  lia
 .have p1:=L.t;have p2:=M.t;rw[Ah]at p1
  have:Te []=0:=rfl
  lia
def agv{φ:FM}{ds:Rx}(h:φ Y L=.ok d μ1)(b:xm μ1 k=J ds)(a:C5 ds.length j=J m):zv nl k j φ Y L=.nx Y (μ1.set k<|.lst<|ds.set m d):=by
 unfold zv;rw[h];show(match xm μ1 k with|some ds=>_|none=>_)=_
 mright
def i9{φ ψ:FM}(h1:φ Y L=.ok x μ1)(h2:ψ Y μ1=.ok y μ2)(hd:eZ x y=.ok d):nC φ ψ Y L=.ok d μ2:=by
 unfold nC;rw[h1];show(ψ Y μ1).bind _=_;rw[h2];show(match eZ x y with|.ok d=>_|_=>_)=_
 rw[hd]
def own(c a:Cn)(b5 alC:Int):Cn:=if alC=0 then(if c.lv<b5 then .br (.br a)else .br a)else a
def mo:Cn->Int->Int->Cn×Int
 |.test g a b,b5,alC=>(own (.test g a b) (.test g a b) b5 alC,alC-1)
 |.not c,b5,alC=>(own (.not c) (.not (mo c 3<|alC-1).1) b5 alC,(mo c 3<|alC-1).2)
 |.and a b,b5,alC=>(own (.and a b) (.and (mo a 2<|alC-1).1 (mo b 3 (mo a 2<|alC-1).2).1) b5 alC,(mo b 3 (mo a 2<|alC-1).2).2)
 |.or a b,b5,alC=>(own (.or a b) (.or (mo a 1<|alC-1).1 (mo b 2 (mo a 1<|alC-1).2).1) b5 alC,(mo b 2 (mo a 1<|alC-1).2).2)
 |.br c,b5,alC=>(.br c,alC)
def Wp(x:Int):Nat:=if 0<=x then 1 else 0
def Uj(c:Cn)(b5:Int):Nat:=(decide (c.lv<b5)).toNat
def aiw(x:Int):Wp (x-1)+(if x=0 then 1 else 0)=Wp x:=by unfold Wp;lia
def ox(h:c'.Tg):(own c c' b5 alC).Tg:=by unfold own;split;split;exact h;exact h;exact h
def u4(h:c'.d=c.d):(own c c' b5 alC).d=c.d:=by unfold own;split;split;exact h;exact h;exact h
def J3(h:c'.b6=c.b6):(own c c' b5 alC).b6=c.b6:=by unfold own;split;split;exact h;exact h;exact h
def IA(d:c'.lv=c.lv)(h:c'.b4+x<=c.b4+Wp (alC-1))(f:b5<=3):(own c c' b5 alC).b4+Uj (own c c' b5 alC) b5+x<=c.b4+Uj c b5+Wp alC:=by
 have b:=aiw alC;unfold own;by_cases a:alC=0
 .rw[SI a]at b⊢;by_cases h1:c.lv<b5
  .rw[SI h1];have e1:Uj c b5=1:=by unfold Uj;rw[Th h1];rfl
   have e2:Uj (.br<|.br c') b5=0:=by unfold Uj;rw[TU (by show ¬3<b5;lia)];rfl
   rw[e2];show 1+(1+c'.b4)+0+x<=_;lia
  .rw[SM h1];have e2:Uj (.br c') b5=0:=by unfold Uj;rw[TU (by show ¬3<b5;lia)];rfl
   rw[e2];show 1+c'.b4+0+x<=_;lia
 .rw[SM a]at b⊢;have e:Uj c' b5=Uj c b5:=by unfold Uj;rw[d]
  lia
theorem Ux(c:Cn):c.Tg->c.Pl->∀b5 alC,b5<=3->(mo c b5 alC).1.Tg/\(mo c b5 alC).1.d=c.d/\(mo c b5 alC).1.b6=c.b6/\(mo c b5 alC).1.b4+Uj (mo c b5 alC).1 b5+Wp (mo c b5 alC).2<=c.b4+Uj c b5+Wp alC:=by
 induction c with
 |br c ih=>exact fun _ h=>h.elim
 |test g a b=>exact fun h _ b5 alC f=>⟨ox h,u4 rfl,J3 rfl,IA rfl (mK _) f⟩
 |not c ih=>
  intro h e b5 alC f;refine Xl (ih h e 3 (alC-1)<|WV 3) fun i1 i2 i3 i4=>?_;refine⟨ox i1,u4 (by show D.tup _=D.tup _;rw[i2]),J3 i3,IA rfl ?_ f⟩;show 1+Uj (mo c 3<|alC-1).1 3+(mo c 3<|alC-1).1.b4+Wp (mo c 3<|alC-1).2<=1+Uj c 3+c.b4+Wp (alC-1);lia
 |and a b i j=>
  intro h e b5 alC f;refine Xl (i h.1 e.1 2 (alC-1) ∎) fun i1 i2 i3 i4=>?_;refine Xl (j h.2 e.2 3 (mo a 2<|alC-1).2<|WV 3) fun j1 j2 j3q j4q=>?_;refine⟨ox ⟨i1,j1⟩,u4 (by show D.tup _=D.tup _;rw[i2,j2]),J3 (by show _+_=_+_;rw[i3,j3q]),IA rfl ?_ f⟩;show Uj (mo a 2<|alC-1).1 2+Uj (mo b 3 (mo a 2<|alC-1).2).1 3+(mo a 2<|alC-1).1.b4+(mo b 3 (mo a 2<|alC-1).2).1.b4+Wp (mo b 3 (mo a 2<|alC-1).2).2<=Uj a 2+Uj b 3+a.b4+b.b4+Wp (alC-1);lia
 |or a b i j=>
  intro h e b5 alC f;refine Xl (i h.1 e.1 1 (alC-1) ∎) fun i1 i2 i3 i4=>?_;refine Xl (j h.2 e.2 2 (mo a 1<|alC-1).2 ∎) fun j1 j2 j3q j4q=>?_;have e1:∀c , Uj c 1=0:=fun c=>by unfold Uj;rw[TU (by have:=c.pC;lia)];rfl
  rw[e1,e1]at i4;refine⟨ox ⟨i1,j1⟩,u4 (by show D.tup _=D.tup _;rw[i2,j2]),J3 (by show _+_=_+_;rw[i3,j3q]),IA rfl ?_ f⟩;show Uj (mo b 2 (mo a 1<|alC-1).2).1 2+(mo a 1<|alC-1).1.b4+(mo b 2 (mo a 1<|alC-1).2).1.b4+Wp (mo b 2 (mo a 1<|alC-1).2).2<=Uj b 2+a.b4+b.b4+Wp (alC-1);lia
def T9(c:Cn)(h:c.Tg)(a:c.Pl)(hs:c.sz<=99)(b5 alC:Int)(b:b5<=3):(T (mo c b5 alC).1).length<=60000:=by
 refine Xl (Ux c h a b5 alC b) fun i1 i2 i3 i4=>?_
 have:=u9 i1
 have:=c.small
 have:Wp alC<=1:=by unfold Wp;split<;>lia
 have:=Bool.toNat_le<|(c.lv<b5)
 unfold Uj at i4;lia
def XH(c:Cn)(b5 alC:Int):Ru:=zA (decide ((mo c b5 alC).1.lv<b5))<|T (mo c b5 alC).1
abbrev μL(alC:Int):Rx:=[.lst [.int alC]]
abbrev δL(c:Cn)(b5:Int)(a b:Option D):Sd:=[J c.d,J<|.int b5,U,a,b]
def ur(c:Cn)(h:c.Tg)(a:c.Pl)(hs:c.sz<=99)(b5 alC:Int)(b:b5<=3):(XH c b5 alC).length<=60002:=by
 have:=T9 c h a hs b5 alC b
 have:=kf (((mo c b5 alC).1.lv<b5))<|T (mo c b5 alC).1
 unfold XH;lia
abbrev oi:gi:=bZ (pf 1 (uv [2]<|lP<|ag 3) (qM 1 4<|ji [2]<|aH eZ (aH eZ (vC<|.str "(")<|ag 4)<|vC<|.str ")") qG)<|bZ (pf 1 (uv [2]<|dC<|aH zF (aI uW<|ak (ag 0) aQ)<|ag 1) (qM 1 4<|ji [2]<|aH eZ (aH eZ (vC<|.str "(")<|ag 4)<|vC<|.str ")") qG)<|xz 1<|ji [2]<|ag 4
def aiB(c b:Cn)(j:c.Pl)(k:b.lv=c.lv)(o:b5<=3)(l:(T b).length<=61000)(i:own c b b5 alC=(mo c b5 alC).1)(a:Int):
  oi (δL c b5 (J<|.bl<|decide (alC=0))<|J<|.str<|aw<|T b) (μL a)=.rt (.str<|aw<|XH c b5 alC) (μL a):=by
 have h1:=Wa;have h2:=Yf;have lv:=ms j;have pr:∀(h:D)(t:Ru),t.length<=70000->ji [2] (aH eZ (aH eZ (vC<|.str "(")<|ag 4)<|vC<|.str ")") (δL c b5 (J h)<|J<|.str<|aw t) (μL a)=.ok (.str<|aw<|zA G t) (μL a):=fun h t n=>aN (fW (fW d6 rfl ⊥) d6<|by rw[LX];lia);have lt:∀t,uv [2] (dC<|aH zF (aI uW<|ak (ag 0) aQ)<|ag 1) (δL c b5 (J<|.bl<|decide (alC=0))<|J t) (μL a)=.ok (decide (c.lv<b5)) (μL a):=fun t=>aR<|ao<|ae (af #[29] lv) rfl wR;have m:=kf G<|T b;unfold XH;rw[<-i];unfold own;by_cases f:alC=0
 .rw[SI f,Th f]at *;have g:pf 1 (uv [2]<|lP<|ag 3) (qM 1 4<|ji [2]<|aH eZ (aH eZ (vC<|.str "(")<|ag 4)<|vC<|.str ")") qG (δL c b5 (J<|.bl G)<|J<|.str<|aw<|T b) (μL a)=.nx (δL c b5 (J<|.bl G)<|J<|.str<|aw<|zA G<|T b) (μL a):=kR (aR rfl) (ee<|pr _ _<|⊥);by_cases d:c.lv<b5
  .rw[SI d];rw[Th d]at lt;have e:zA (decide ((Cn.br<|.br b).lv<b5)) (T<|.br<|.br b)=zA G (zA G<|T b):=by
    rw[TU (by show ¬(3:Int)<b5;lia),nL,nL];rfl
   rw[e];exact eL g<|eL (kR (lt _)<|ee<|pr _ _<|⊥)<|eG<|aN rfl
  .rw[SM d];rw[TU d]at lt;have e:zA (decide ((Cn.br b).lv<b5)) (T<|.br b)=zA G (T b):=by
    rw[TU (by show ¬(3:Int)<b5;lia),nL];rfl
   rw[e];exact eL g<|gG (lt _)<|eG<|aN rfl
 .rw[SM f,TU f]at *;rw[k];refine gG (aR rfl) ?_;by_cases d:c.lv<b5
  .rw[Th d]at *;exact eL (kR (lt _)<|ee<|pr _ _<|⊥)<|eG<|aN rfl
  .rw[TU d]at *;exact gG (lt _) rfl
def CK{F:FM}{φ ψ:FM}{a b d:D}{c e:D}{Y:Sd}(h1:φ Y [c]=.ok a [c])(h2:ψ Y [c]=.ok b [c])(f:F [J a,J b,U] [c]=.ok d [e]):dm [2] F (aK φ<|aK ψ<|mw 0 bj) Y [c]=.ok d [e]:=
 aM (bg h1<|bg h2 rfl) (ka f rfl)
def CC(b:Bool)(t:Ru):t.length<=(zA b t).length:=by
 unfold zA;split<;>simp<;>lia
def ag6(c a:Cn):(T a).length<=(T<|own c a b5 alC).length:=by
 unfold own;split
 .split
  .rw[nL,nL];exact RW (CC _ _)<|CC _ _
  .rw[nL];exact CC _ _
 .grind
def TY.Sj(a:TY):L2.Sj a.d=G:=by cases a<;>rfl
theorem Cn.Sj(c:Cn):L2.Sj c.d=G:=by
 induction c with
 |test g a b=>show(G&&(G&&(L2.Sj a.d&&(L2.Sj b.d&&G))))=G;rw[a.Sj,b.Sj];rfl
 |not c ih=>show(G&&(L2.Sj c.d&&G))=G;rw[ih];rfl
 |and a b i j=>show(G&&(L2.Sj a.d&&(L2.Sj b.d&&G)))=G;rw[i,j];rfl
 |or a b i j=>show(G&&(L2.Sj a.d&&(L2.Sj b.d&&G)))=G;rw[i,j];rfl
 |br c ih=>exact ih
abbrev E6(c:Cn)(n:Nat):Prop:=∀b5 alC:Int,b5<=3->cw n [J c.d,J<|.int b5,U] [.lst [.int alC]]=.ok (.str<|aw<|XH c b5 alC) [.lst [.int (mo c b5 alC).2]]
abbrev FU(F:FM):gi:=pf 1 (uv [2]<|dC<|aH jp (aH cR (ag 0)<|vC<|.int 0)<|vC<|.str "test") (qM 1 4<|ji [2]<|aI vd<|ak (ag 0) aQ)<|pf 1 (uv [2]<|dC<|aH jp (aH cR (ag 0)<|vC<|.int 0)<|vC<|.str "not") (qM 1 4<|nC (ji [2]<|vC<|.str "not ")<|dm [2] F<|aK (ji [2]<|aH cR (ag 0)<|vC<|.int 1)<|aK (ji [2]<|vC<|.int 3)<|mw 0 bj)<|bZ (qM 1 4<|nC (nC (nC (dm [2] F<|aK (ji [2]<|aH cR (ag 0)<|vC<|.int 1)<|aK (ji [2]<|aI uW<|ak (ag 0) aQ)<|mw 0 bj)<|ji [2]<|vC<|.str " ")<|ji [2]<|aH cR (ag 0)<|vC<|.int 0)<|ji [2]<|vC<|.str " ")<|qM 1 4<|nC (ji [2]<|ag 4)<|dm [2] F<|aK (ji [2]<|aH cR (ag 0)<|vC<|.int 2)<|aK (ji [2]<|aH eZ (aI uW<|ak (ag 0) aQ)<|vC<|.int 1)<|mw 0 bj
def u6(n:Nat)(c b:Cn)(h:c.Tg)(f:c.Pl)(hs:c.sz<=99)(r:b.lv=c.lv)(b5 alC a:Int)(k:b5<=3)(g:own c b b5 alC=(mo c b5 alC).1)(e:a=(mo c b5 alC).2)
  (l:FU (cw n) (δL c b5 (J<|.bl<|decide (alC=0)) U) (μL<|alC-1)=.nx (δL c b5 (J<|.bl<|decide (alC=0))<|J<|.str<|aw<|T b) (μL a)):
  cw (n+1) [J c.d,J<|.int b5,U] [.lst [.int alC]]=.ok (.str<|aw<|XH c b5 alC) [.lst [.int (mo c b5 alC).2]]:=by
 have s:=ag6 (b5:=b5) (alC:=alC) c b;have q:=T9 c h f hs b5 alC k;rw[<-g]at q;rw[<-e];have p:qM 1 3 (ji [2]<|aH jp (aH cR (ag 2)<|vC<|.int 0)<|vC<|.int 0) (δL c b5 U U) (μL alC)=.nx (δL c b5 (J<|.bl<|decide (alC=0)) U) (μL alC):=ee<|aN<|ae #[12] rfl zf;have o:zv 1 0 0 (ji [2]<|aH zI (aH cR (ag 2)<|vC<|.int 0)<|vC<|.int 1) (δL c b5 (J<|.bl<|decide (alC=0)) U) (μL alC)=.nx (δL c b5 (J<|.bl<|decide (alC=0)) U) (μL<|alC-1):=agv (ds:=[.int alC]) (m:=0) (d:=.int<|alC-1) (μ1:=μL alC) (aN<|sC (i:=alC) (j:=1) #[12] rfl) rfl rfl;exact cL (ψ:=bZ (qM 1 3<|ji [2]<|aH jp (aH cR (ag 2)<|vC<|.int 0)<|vC<|.int 0)<|bZ (zv 1 0 0<|ji [2]<|aH zI (aH cR (ag 2)<|vC<|.int 0)<|vC<|.int 1)<|bZ (FU<|cw n) oi)<|eL p<|eL o<|eL l<|aiB c b f r k ⊥ g a
def Vv(n:Nat)(c a b g:Cn)(w:Str)(hd:c.d=.tup [.str w,a.d,b.d])(i:w≠lE "test")(p:w≠lE "not")(hw:(lS w).length<=3)(q:c.Pl)(j:E6 a n)(h:E6 b n)(alC:Int)(b5:Int)(s:c.lv<=2)
  (la:(XH a c.lv<|alC-1).length<=60002) (r:(XH b (c.lv+1) (mo a c.lv<|alC-1).2).length<=60002) (o:D) (m:T g=(((XH a c.lv (alC-1)++lS " ")++lS w)++lS " ")++XH b (c.lv+1) (mo a c.lv<|alC-1).2):
  FU (cw n) (δL c b5 (J o) U) (μL<|alC-1)=.nx (δL c b5 (J o)<|J<|.str<|aw<|T g) (μL (mo b (c.lv+1) (mo a c.lv<|alC-1).2).2):=by
 have e4:(lS " ").length=1:=⊤
 have lv:=ms q;rw[hd]at lv;unfold δL;rw[hd,m];generalize k:XH a c.lv (alC-1)=x at *;generalize l:XH b (c.lv+1) (mo a c.lv<|alC-1).2=y at *;have q1:(x++lS " ").length<=60100:=by rw[LX];lia
 have q2:((x++lS " ")++lS w).length<=60200:=by rw[LX];lia
 have t:(((x++lS " ")++lS w)++lS " ").length<=60300:=by rw[LX];lia
 have e:=j c.lv (alC-1) ⊥;rw[k]at e;have f:=h (c.lv+1) (mo a c.lv<|alC-1).2 ⊥;rw[l]at f;exact F2 (aR<|ao<|ae #[12] rfl (fL i)) (F2 (aR<|ao<|ae #[12] rfl (fL p))
  (eL (ee<|i9 (i9 (i9 (CK (aN #[12] a.Sj) (aN<|af #[29] lv) e) (aN rfl)<|qe x (lS " ")<|⊥) (aN<|ae rfl rfl rfl)<|qe _ (lS w)<|⊥) (aN rfl)<|qe _ (lS " ")<|⊥)
   (ee (i9 (aN rfl) (CK (aN #[12] b.Sj) (aN (ir (af #[29] lv) rfl)) f) (qe _ y ⊥)))))
theorem agX(c:Cn):c.Tg->c.Pl->c.sz<=99->∀n,c.sz<=n->E6 c n:=by
 have e3:(lS "not ").length=4:=⊤
 induction c with
 |br c ih=>exact fun _ h=>h.elim
 |test g a b=>
  intro h d hs n k b5 alC f;obtain⟨n,rfl⟩:∃j,n=j+1:=⟨n-1,by have:(Cn.test g a b).sz=1:=rfl;lia⟩;have tx:=BF (c:=.test g a b) h d hs 99 (by show 2*1<=100;decide);exact u6 n (.test g a b) (.test g a b) h d hs rfl b5 alC (alC-1) f rfl rfl (kR (aR<|ao<|ae #[12] rfl (ot rfl))<|ee<|aN<|af #[29] tx)
 |not c ih=>
  intro h d hs n k b5 alC f;have m:1+c.sz<=99:=hs;have l:1+c.sz<=n:=k;obtain⟨n,rfl⟩:∃j,n=j+1:=⟨n-1,⊥⟩;have H:=ih h d ⊥ n ⊥ 3 (alC-1)<|WV 3;have o:=ur c h d ⊥ 3 (alC-1)<|WV 3;have e:T (.not (mo c 3<|alC-1).1)=lS "not "++XH c 3 (alC-1):=Nq _;exact u6 n (.not c) (.not (mo c 3<|alC-1).1) h d hs rfl b5 alC _ f rfl rfl (F2 (aR<|ao<|ae #[12] rfl (fL Am)) (kR (aR<|ao<|ae #[12] rfl (ot rfl)) (by
   rw[e];exact ee (i9 (aN rfl) (CK (aN #[12] c.Sj) (aN rfl) H) (qe (lS "not ") _ ⊥)))))
 |and a b i j=>
  intro h d hs n k b5 alC f;have m:1+a.sz+b.sz<=99:=hs;have l:1+a.sz+b.sz<=n:=k;obtain⟨n,rfl⟩:∃j,n=j+1:=⟨n-1,⊥⟩;exact u6 n (.and a b) (.and (mo a 2<|alC-1).1 (mo b 3 (mo a 2<|alC-1).2).1) h d hs rfl b5 alC _ f rfl rfl
   (Vv n (.and a b) a b _ "and" rfl Gy M6 ⊤ d (i h.1 d.1 ⊥ n<|⊥) (j h.2 d.2 ⊥ n<|⊥) alC b5 (show(2:Int)<=2 by decide) (ur a h.1 d.1 ⊥ 2 _<|∎) (ur b h.2 d.2 ⊥ 3 _<|∎) _ (NH _ _))
 |or a b i j=>
  intro h d hs n k b5 alC f;have m:1+a.sz+b.sz<=99:=hs;have l:1+a.sz+b.sz<=n:=k;obtain⟨n,rfl⟩:∃j,n=j+1:=⟨n-1,⊥⟩;exact u6 n (.or a b) (.or (mo a 1<|alC-1).1 (mo b 2 (mo a 1<|alC-1).2).1) h d hs rfl b5 alC _ f rfl rfl
   (Vv n (.or a b) a b _ "or" rfl IW NU ⊤ d (i h.1 d.1 ⊥ n<|⊥) (j h.2 d.2 ⊥ n<|⊥) alC b5 (show 1<=2 by decide) (ur a h.1 d.1 ⊥ 1 _<|∎) (ur b h.2 d.2 ⊥ 2 _<|∎) _ (Uv _ _))
def qr(a:Nat):Nat:=if low a then 0 else if j7 a||a==45 then 1 else if a==34 then 2 else if a==60||(a==61||a==62)then 3 else 4
def cl(x:Kv):Nat:=match dU x with
 |a::_=>qr a
 |[]=>5
def zK(a c:Nat)(r s:Ru)(h:qr a=qr c->qr a=4):bh (a::r) (c::s)=G:=by
 have hd:low c=G->j7 c=η:=fun b=>by
  unfold low at b;unfold j7;simp at b;simp;lia
 by_cases h1:low a=G
 .have ca:qr a=0:=by unfold qr;rw[SI h1]
  show(if low a then !low c else _)=G;rw[SI h1];cases hc:low c with
  |false=>rfl
  |true=>
   have:qr c=0:=by unfold qr;rw[SI hc]
   rw[ca,this]at h;exact absurd (h rfl) ∎
 .by_cases h2:(j7 a||a==45)=G
  .have ca:qr a=1:=by unfold qr;rw[SM h1,SI h2]
   show(if low a then !low c else if j7 a||a==45 then !j7 c else _)=G;rw[SM h1,h2];cases hc:j7 c with
   |false=>rfl
   |true=>
    have:qr c=1:=by unfold qr;mright
    mright
  .by_cases h3:(a==34)=G
   .have ca:qr a=2:=by unfold qr;rw[SM h1,SM h2,SI h3]
    show(if low a then !low c else if j7 a||a==45 then !j7 c else if a==34 then c != 34 else _)=G
    grind
   .show(if low a then !low c else if j7 a||a==45 then !j7 c else if a==34 then c != 34 else !(r.isEmpty&&(a==60&&(c==61||c==62)||a==62&&c==61)))=G;rw[SM h1,SM h2,SM h3];cases hb:(a==60&&(c==61||c==62)||a==62&&c==61)with
    |false=>simp
    |true=>
     have:qr a=3/\qr c=3:=by
      simp at hb;rcases hb with⟨rfl,rfl|rfl⟩|⟨rfl,rfl⟩<;>exact⟨∎,∎⟩
     grind
def aV(l:List Iw):List It:=l.map fun p=>(p.1,p.2,dU p.2)
def ww(m:Nat):∀l:List Iw,txt (aV l) m=tx l++Ut m 32:=TB (rfl) fun ⟨k,x⟩ r i_=>by
  show Ut k 32++(dU x++txt (aV r) m)=Ut k 32++(dU x++tx r)++_;rw[i_];simp
def MJ(l:List Iw):Prop:=∀p∈l,Sp p.2<|dU p.2
def ux:List Iw->Prop
 |[]=>True
 |[_]=>True
 |p::a::r=>(a.1=0->cl p.2=cl a.2->cl p.2=4)/\ux (a::r)
def Bd(h:Sp x<|dU x):∃a r,dU x=a::r/\cl x=qr a/\a≠32:=by
 obtain⟨a,r,e,h2⟩:=h.head;exact⟨a,r,e,by unfold cl;rw[e],h2⟩
theorem CU(m:Nat):∀l:List Iw,MJ l->ux l->Good m (aV l)
 |[],_,_=>trivial
 |[p],hS,_=>by
  refine⟨hS p<|∅,?_,trivial⟩;refine Tw (Bd (hS p<|∅)) fun a r e _ _=>?_;rw[e];cases m with
  |zero=>rfl
  |succ m=>exact zK a 32 r _ fun z=>z.trans rfl
 |p::b::l,hS,hC=>by
  refine⟨hS p<|∅,?_,CU m (b::l) (fun q d=>hS q<|ie _ d) hC.2⟩;refine Tw (Bd (hS p<|∅)) fun a r e ca _=>?_;refine Tw (Bd (hS b<|∅)) fun c s e' cc _=>?_;show bh (dU p.2) (Ut b.1 32++(dU b.2++txt (aV l) m))=G;rw[e,e'];cases hk:b.1 with
  |zero=>
   have:=hC.1 hk
   rw[ca,cc]at this;exact zK a c r _ this
  |succ n=>exact zK a 32 r _ fun z=>z.trans rfl
def due(m:Nat):∀(l:List Iw)(p:Nat),p+(tx l).length<=900->∃(us:List Tok)(b:Tok),toks p (aV l) m=us++[b]/\b.kv=kE/\us.map Tok.kv=l.map z9:=TB (fun p _=>⟨[],⟨"end",.S9,p+m,p+m⟩,rfl,rfl,rfl⟩) fun ⟨k,x⟩ r i_ p h=>by
  have a:(tx<|(k,x)::r).length=k+(dU x).length+(tx r).length:=by simp[tx];lia
  obtain⟨us,b,e,hb,hu⟩:=i_ (p+k+(dU x).length) ⊥;refine⟨⟨x.1,x.2,p+k,p+k+(dU x).length⟩::us,b,?_,hb,by simp[hu,Tok.kv]⟩;show(if p+k+(dU x).length<=900 then _ else _)=_;rw[SI<|⊥];show _::toks (p+k+(dU x).length) (aV r) m=_;rw[e];rfl
def nR(h:ci z=G):Sp (kN z)<|dU<|kN z:=by
 have h':=h;unfold ci at h';simp only[oR,Yl,decide_eq_false_iff_not,Ve]at h'
 have:=Sp.name (lS z) (fun e=>h'.1<|lu<|by assumption) h'.2.2.1 (by assumption)
 rwa [<-zn]at this
def oq(h:lS z∈Dy):Sp (kS z)<|dU<|kS z:=by
 have:=Sp.sgn (lS z) h
 rwa [<-zn]at this
def B9:∀z∈(["from","where","order","by","show","take","down","none","not","and","or"]:SH),lS z≠[]/\(∀c∈lS z,low c=G)/\oX z=G:=⊤
def uk(h:z∈(["from","where","order","by","show","take","down","none","not","and","or"]:SH)):Sp (kK z)<|dU<|kK z:=let⟨a,b,c⟩:=B9 z h;(by
    have:=Sp.key (lS z) a b (by assumption)
    rwa [<-zn]at this)
def kM:∀z∈(["=","<>","<","<=",">",">=",",",".","(",")"]:SH),lS z∈Dy:=⊤
theorem Cw(h:ci z=G):cl (kN z)=0:=by
 have h':=h;unfold ci at h';simp only[oR,Yl,decide_eq_false_iff_not,Ve]at h';unfold cl;rw[pP];cases e:z.cps.toList with
 |nil=>exact absurd (lu<|by rw[e];decide +kernel) h'.1
 |cons a r=>
  have  := h'.2.2.1 a (by rw[e];simp);show qr a=0;unfold qr;rw[SI this]
def Z04:∀z∈#[11],cl (kS z)=3:=⊤
def Iz(h:i.natAbs<10^18):cl ("number",.int i)=1:=by
 obtain⟨c,r,e,_,h1,h2,_⟩:=gu i;show(match cu i with|a::_=>qr a|[]=>5)=1
 unfold qr;mright
def AS(p a:Iw):Prop:=a.1<=1/\(cl p.2=cl a.2->cl p.2=4\/cl p.2=0/\a.1=1)/\(a.1=0->cl p.2=4\/cl a.2=4)
def um:List Iw->Prop
 |[]=>True
 |[_]=>True
 |p::a::r=>AS p a/\um (a::r)
theorem um.weak:∀l:List Iw,um l->ux l
 |[],_=>trivial
 |[_],_=>trivial
 |p::a::r,h=>⟨fun b e=>(h.1.2.1 e).elim id fun z=>by simp_all,um.weak (a::r) h.2⟩
theorem um.app:∀(a b:List Iw),um a->um b->(∀r x y s,a=r++[x]->b=y::s->AS x y)->um (a++b)
 |[],b,_,hb,_=>hb
 |[p],[],_,_,_=>trivial
 |[p],y::s,_,hb,h=>⟨h [] p y s rfl rfl,hb⟩
 |p::d::r,b,ha,hb,h=>⟨ha.1,um.app (d::r) b ha.2 hb fun c x y s e1 e2=>h (p::c) x y s (by rw[e1];rfl) e2⟩
structure Seg(l:List Iw)(k:Nat):Prop where
 h:∃x r,l=(k,x)::r/\cl x≠3
 t:∀r p,l=r++[p]->cl p.2≠3
 c:um l
 s:MJ l
def cy{a b:List Iw}(h:a++[x]=b++[y]):x=y:=by
 mright
def Seg.one(h:cl x≠3)(hs:Sp x<|dU x):Seg [(k,x)] k:=⟨⟨x,[],rfl,h⟩,fun r p e=>by
 have  := cy (a:=[]) e;rw[<-this];exact h,trivial,fun p b=>by mright⟩
def Seg.app(A:Seg a k)(B:Seg b k')(h:∀x y:Iw,y.1=k'->cl x.2≠3->cl y.2≠3->(∃r,a=r++[x])->(∃s,b=y::s)->AS x y):Seg (a++b) k:=by
 obtain⟨x,r,rfl,hx⟩:=A.h;obtain⟨y,s,rfl,hy⟩:=B.h;refine⟨⟨x,r++(k',y)::s,rfl,hx⟩,fun d p e=>?_,um.app _ _ A.c B.c fun d f j s' e1 e2=>?_,fun p g=>(BY.mp g).elim (A.s p)<|B.s p⟩
 .obtain⟨t,q,eq⟩:∃t q,(k',y)::s=t++[q]:=⟨_,_,(k8<|∅).symm⟩;have i:=B.t t q eq;rw[eq,<-Vw]at e;rw[<-cy e];exact i
 .have h1:=A.t d f e1;cases e2;exact h f (k',y) rfl h1 hy ⟨d,e1⟩ ⟨s,rfl⟩
def Seg.key(B:Seg b 1)(h:cl x=0)(hs:Sp x<|dU x):Seg ((k,x)::b) k:=
 Seg.app (Seg.one (by rw[h];decide) hs) B fun p y h1 h2 d _ _=>⟨⊥,fun e=>by
  rename_i c _;obtain⟨r,e'⟩:=c;have  := cy (a:=[]) e'
  grind,fun z=>⊥⟩
def Seg.mid(A:Seg a k)(B:Seg ((1,x)::b) 1)(h:cl x=0):Seg (a++(1,x)::b) k:=
 Seg.app A B fun p y h1 h2 d _ c=>by
  obtain⟨s,e⟩:=c;cases e;exact⟨mK _,fun e=>.inr ⟨e.trans h,rfl⟩,fun z=>absurd z B2⟩
def Seg.cm(A:Seg a k)(B:Seg b k')(i:k'<=1)(h:cl x=4)(hs:Sp x<|dU x):Seg (a++(0,x)::b) k:=by
 have f:Seg ((0,x)::b) 0:=Seg.app (Seg.one (by rw[h];decide) hs) B fun p y h1 h2 g c _=>by
  obtain⟨r,e'⟩:=c;have  := cy (a:=[]) e';rw[<-this];exact⟨⊥,fun _=>.inl h,fun _=>.inl h⟩
 exact Seg.app A f fun p y h1 h2 g _ d=>by
  obtain⟨s,e⟩:=d;cases e;exact⟨Uh _,fun e=>.inl<|e.trans h,fun _=>.inr h⟩
def Seg.par(A:Seg a 0):Seg ((k,kS "(")::(a++[(0,kS ")")])) k:=by
 have h1:cl (kS "(")=4:=rfl;have h2:cl (kS ")")=4:=rfl;have f:Sp (kS "(")<|dU<|kS "(":=oq (kM _<|∅);have c:Sp (kS ")")<|dU<|kS ")":=oq (kM _<|∅);have A2:Seg (a++[(0,kS ")")]) 0:=Seg.app A (Seg.one ∎ c) fun p y _ _ _ _ b=>by
  obtain⟨s,e⟩:=b;cases e;exact⟨⊥,fun e=>.inl<|e.trans h2,fun _=>.inr h2⟩
 exact Seg.app (Seg.one ∎ f) A2 fun p y b _ _ d _=>by
  obtain⟨r,e'⟩:=d;have  := cy (a:=[]) e';rw[<-this];exact⟨⊥,fun _=>.inl h1,fun _=>.inl h1⟩
def Seg.opm(A:Seg a k)(B:Seg b 1)(h:cl x=3)(hs:Sp x<|dU x):Seg (a++(1,x)::b) k:=by
 obtain⟨g,r1,rfl,h1⟩:=A.h;obtain⟨i,r2,rfl,h2⟩:=B.h;refine⟨⟨g,r1++(1,x)::(1,i)::r2,rfl,h1⟩,fun d p e=>?_,um.app _ _ A.c ⟨⟨mK _,fun e=>absurd (e.symm.trans h) h2,fun z=>absurd z B2⟩,B.c⟩ fun d o r s' e1 n=>?_,fun p l=>?_⟩
 .obtain⟨t,q,m⟩:∃t q,(1,i)::r2=t++[q]:=⟨_,_,(k8<|∅).symm⟩;have f:=B.t t q m;have j:((k,g)::r1++(1,x)::t)++[q]=d++[p]:=by mright
  rw[<-cy j];exact f
 .have f:=A.t d o e1;cases n;exact⟨mK _,fun e=>absurd (e.trans h) f,fun z=>absurd z B2⟩
 .rcases BY.mp l with z|z
  .exact A.s p z
  .rcases eQ.mp z with rfl|z
   .exact hs
   .exact B.s p z
def n0(h:ci z=G):cl (kN z)≠3:=by rw[Cw h];decide
theorem TY.seg{a:TY}(h:a.Ok)(k:Nat):Seg (a.it k) k:=by
 cases a with
 |col a b=>exact Seg.cm (Seg.one (n0 h.1)<|nR h.1) (Seg.one (n0 h.2)<|nR h.2) ∎ rfl (oq<|kM "."<|∅)
 |S9=>exact Seg.one ∎ (uk<|∅)
 |int i=>exact Seg.one (by rw[Iz h];decide)<|(Sp.num i h)
theorem wO(b:Bool)(h:∀k,Seg (l k) k)(k:Nat):Seg (Eg k b l) k:=by
 cases b with
 |true=>exact(h 0).par
 |false=>exact h k
theorem Cn.seg{c:Cn}(h:c.Tg):∀k,Seg (c.it k) k:=by
 induction c with
 |test g a b=>exact fun k=>(TY.seg h.2.1 k).opm (TY.seg h.2.2 1) (Z04 g h.1)<|oq<|kM g<|(fun h => by simp at h⊢;grind) h.1
 |not c ih=>exact fun k=>(wO _ (ih h) 1).key rfl (uk<|∅)
 |and a b i j=>exact fun k=>(wO _ (i h.1) k).mid ((wO _ (j h.2) 1).key rfl (uk<|∅)) rfl
 |br c ih=>exact fun k=>wO G (ih h) k
 |or a b i j=>exact fun k=>(i h.1 k).mid ((wO _ (j h.2) 1).key rfl (uk<|∅)) rfl
def qu(c:Cn):List Iw:=(0,kK "from")::(1,kN "ta")::(1,kK "where")::(c.it 1++(1,kK "show")::[(1,kN "ta"),(0,kS "."),(0,kN "b")])
def Xv(X:Ru):Ru:=(lS "from ta where "++X)++lS " show ta.b"
def Er:ci "ta"=G:=⊤
def YD:ci "b"=G:=⊤
def ai1(h:c.Tg):Seg (qu c) 0:=by
 have f:Seg [(1,kN "ta"),(0,kS "."),(0,kN "b")] 1:=Seg.cm (Seg.one (n0 Er)<|nR Er) (Seg.one (n0 YD)<|nR YD) ∎ rfl (oq<|kM "."<|∅);have a:Seg ((1,kK "show")::[(1,kN "ta"),(0,kS "."),(0,kN "b")]) 1:=f.key rfl (uk<|∅);have s3  := (c.seg h 1).mid a rfl;have e:=s3.key (x:=kK "where") (k:=1) rfl (uk<|∅);have d:=e.key (k:=1) rfl (nR Er);exact d.key rfl (uk<|∅)
def Vy(c:Cn):tx (qu c)=Xv (T c):=by
 have:=c.bl 1
 have e1:lS "from ta where "=lS "from"++(32::(lS "ta"++(32::(lS "where"++[32])))):=⊤
 have e2:lS " show ta.b"=32::(lS "show"++(32::(lS "ta"++(lS "."++lS "b")))):=⊤
 unfold Xv;rw[e1,e2];have e3:tx (c.it 1)=32::T c:=this;simp[qu,tx,dc,mm,pP,oZ,e3]
noncomputable def i8(d:D):D:=.tup [.str "ask",.tup [.tup [.str "ta",.str "ta"]],d,.tup [],.tup [.tup [.str "column",.str "ta",.str "b"]],.S9]
def ah2(c:Cn)(h:c.Tg)(n:c.b6<=8)(p:c.b4<=20):Wr kx [.str<|aw<|Xv<|T c]=.ok (i8 c.d):=by
 have t:=u9 h;have g:=ai1 h;have o:(lS "from ta where ").length=14:=⊤
 have r:(lS " show ta.b").length=10:=⊤
 have j:(Xv<|T c).length<=900:=by unfold Xv;simp only[LX];lia
 have e:txt (aV<|qu c) 0=Xv (T c):=by rw[ww,Vy];simp
 have f:=Ld 0 (aV<|qu c) (CU 0 (qu c) g.s<|um.weak _ g.c) (by rw[e];lia);rw[e]at f;obtain⟨us,b,et,hb,hu⟩:=due 0 (qu c) 0 (by rw[Vy];lia);let q:Qn:=⟨("ta","ta"),[],c,[],("ta","b"),[],U⟩
 have hw:us.map Tok.kv=q.w:=by
  rw[hu]
  have:q.w=kK "from"::(qW ("ta","ta")++([]++(Nk (c)++([]++kK "show"::(qO ("ta","b")++([]++Rr U)))))):=rfl
  rw[this];simp[qu,c.Gb 1,qW,Nk,Cv,Rr,qO]
 have l:Vs ⟨toks 0 (aV<|qu c) 0,0,0⟩<|q.w++[kE]:=by
  show(toks 0 (aV<|qu c) 0).map Tok.kv=_
  grind
 obtain⟨s',eq⟩:=AF q ⟨Uh _,Uh _,Uh _,fun k a=>by cases a;exact⟨h.ok,⊥⟩,fun i m=>nomatch m⟩ (fun k a=>by grind) l rfl rfl
 rw[A0 f,eq];rfl
inductive Uc:D->Prop
 |S9:Uc .S9
 |int (i:Int):Uc (.int i)
 |str (x:Str):Uc (.str x)
 |bl (b:Bool):Uc (.bl b)
 |tup (xs:Rx) (h:∀x∈xs,Uc x):Uc (.tup xs)
def fh:Nat->D->Prop
 |_,.S9=>True
 |_,.int _=>True
 |_,.str _=>True
 |k+1,.tup xs=>∀x∈xs,fh k x
 |_,_=>False
theorem Q7{F:Rx->R D}(a b:D):∀(xs ys:Rx)(d f:Option D),xs.length=ys.length->(∀x∈xs,∀y∈ys,∃b,F [x,y]=.ok (.bl b)/\(b=G↔x=y)) ->
  (xs=ys/\∃p q,cZ (.tup [2,3]) (DA (qN<|lP<|aI F<|ak (ag 2)<|ak (ag 3) aQ) (pX<|vC<|.bl η) ld) (pN xs ys) [J a,J b,d,f]=.ok (.nx [J a,J b,p,q])) \/
  (xs≠ys/\cZ (.tup [2,3]) (DA (qN<|lP<|aI F<|ak (ag 2)<|ak (ag 3) aQ) (pX<|vC<|.bl η) ld) (pN xs ys) [J a,J b,d,f]=.ok (.rt<|.bl η))
 |[],[],d,f,_,_=>.inl ⟨rfl,d,f,rfl⟩
 |[],_::_,_,_,h,_=>by simp at h
 |_::_,[],_,_,h,_=>by simp at h
 |x::xs,y::ys,d,f,hl,h=>by
  obtain⟨c,e,hc⟩:=h x ∅ y ∅;have j:=Q7 a b xs ys (x) (y) (by simpa using hl) fun x g y i=>h x (ie _ g) y<|ie _ i;have e0:∀S , cZ (.tup [2,3]) S (pN (x::xs)<|y::ys) [a,b,d,f]=(S [a,b,x,y]).bind (Hj (.tup [2,3]) S<|pN xs ys):=fun S=>by
   rfl
  rw[e0];cases c with
  |false=>
   refine .inr ⟨fun z=>by simp_all,?_⟩;rw[(a8<|aaU<|eV e rfl).trans rfl];rfl
  |true=>
   rw[j0<|qj<|eV e rfl,Ov,am,v9];mright
def Si(k:Nat)(a:Uc x):∃b,cb (k+1) [x,.S9]=.ok (.bl b)/\(b=G↔x=.S9):=⟨WS x,rfl,by cases a<;>simp[WS]⟩
theorem same_int(k:Nat)(j:Int)(a:Uc x):∃b,cb (k+1) [x,.int j]=.ok (.bl b)/\(b=G↔x=.int j):=by
 have c:∀b,GS (aI Di<|ak (ag 0) aQ) (aH jp (ag 0)<|ag 1) [x,J<|.int j,U,U]=.ok (.bl b)->cb (k+1) [x,.int j]=.ok (.bl b):=fun b h=>
  aq (((((ar h)))))
 cases a with
 |int i=>exact⟨(i=j),c _<|zf,∅⟩
 |S9=>exact⟨η,rfl,∅⟩
 |str s=>exact⟨η,rfl,∅⟩
 |bl b=>exact⟨η,rfl,∅⟩
 |tup xs h=>exact⟨η,rfl,∅⟩
theorem same_str(k:Nat)(j:Str)(a:Uc x):∃b,cb (k+1) [x,.str j]=.ok (.bl b)/\(b=G↔x=.str j):=by
 have c:∀b,GS (aI LP<|ak (ag 0)<|ak (vC<|.ty "str") aQ) (aH jp (ag 0)<|ag 1) [x,J<|.str j,U,U]=.ok (.bl b)->cb (k+1) [x,.str j]=.ok (.bl b):=fun b h=>
  aq ((skip rfl).trans<|(skip rfl).trans<|(skip rfl).trans<|aS<|(ar h))
 cases a with
 |str i=>exact⟨(i=j),c _<|jg,∅⟩
 |S9=>exact⟨η,rfl,∅⟩
 |int s=>exact⟨η,rfl,∅⟩
 |bl b=>exact⟨η,rfl,∅⟩
 |tup xs h=>exact⟨η,rfl,∅⟩
theorem Z05(k:Nat)(ys:Rx)(j:∀y∈ys,∀x,Uc x->∃b,cb k [x,y]=.ok (.bl b)/\(b=G↔x=y))(f:Uc x):∃b,cb (k+1) [x,.tup ys]=.ok (.bl b)/\(b=G↔x=.tup ys):=by
 have c:qN (lP<|aI LP<|ak (ag 0)<|ak (vC<|.ty "tuple") aQ) [J x,J<|.tup ys,U,U]=.ok G->cb (k+1) [x,.tup ys]=.ok (.bl η):=fun h=>
  aq (r:=nO (cb k) [J x,J<|.tup ys,U,U]) (aS<|(a8 rfl).trans<|aS<|(a8<|P7 h).trans<|ar rfl)
 cases f with
 |str i=>exact⟨η,c rfl,∅⟩
 |S9=>exact⟨η,c rfl,∅⟩
 |int s=>exact⟨η,c rfl,∅⟩
 |bl b=>exact⟨η,c rfl,∅⟩
 |tup xs h=>
  have a:dC (aH xF (aI cr<|ak (ag 0) aQ)<|aI cr<|ak (ag 1) aQ) [J<|.tup xs,J<|.tup ys,U,U]=.ok (!decide ((xs.length:Int)=ys.length)):=ao<|ae (lf rfl Vp) (lf rfl Vp) (by simp[xF,zy,g7,Zg,lU]);by_cases g:xs.length=ys.length
  .rw[Th<|by simp[g]]at a;have ch:KF (qN<|lP<|aI LP<|ak (ag 0)<|ak (vC<|.ty "tuple") aQ) (dC<|aH xF (aI cr<|ak (ag 0) aQ)<|aI cr<|ak (ag 1) aQ) [J<|.tup xs,J<|.tup ys,U,U]=.ok η:=lR rfl a;rcases Q7 (F:=cb k) (.tup xs) (.tup ys) xs ys U U g (fun x f y d=>j y d x<|h x f)with⟨h1,p,q,e⟩|⟨h1,e⟩
   .exact⟨G,aq (r:=nO (cb k) [J<|.tup xs,J<|.tup ys,U,U])<|aS<|(a8 rfl).trans<|(skip ch).trans<|(bu<|kU rfl e).trans<|ar rfl,by simp[h1]⟩
   .exact⟨η,aq<|aS<|((skip ch).trans<|aS<|e),by simp[h1]⟩
  .rw[TU<|⊥]at a;exact⟨η,aq<|aS<|(aS<|(a8<|a).trans rfl),by grind⟩
theorem agB(k:Nat):∀(y:D),fh k y->∀x,Uc x->∃b,cb (k+1) [x,y]=.ok (.bl b)/\(b=G↔x=y):=by
 induction k with
 |zero=>
  intro y c x a;cases y with
  |S9=>exact Si 0 a
  |int j=>exact same_int 0 j a
  |str j=>exact same_str 0 j a
  |_=>exact c.elim
 |succ k ih=>
  intro y c x a;cases y with
  |S9=>exact Si _ a
  |int j=>exact same_int _ j a
  |str j=>exact same_str _ j a
  |tup ys=>exact Z05 (k+1) ys (fun y h=>ih y<|c y h) a
  |_=>exact c.elim
def DT(h:Dl v):Uc v:=by
 rcases h with rfl|⟨i,rfl⟩|⟨x,rfl⟩
 .exact .S9
 .exact .int i
 .exact .str x
def Vf(s:Sx):Prop:=∀w∈s.ts,Dl w.v
theorem Vf.hd(h:Vf s):Dl s.hd.v:=by
 unfold Sx.hd;cases e:s.ts with
 |nil=>exact .inl rfl
 |cons w r=>exact h w (by rw[e];simp)
def Vf.sf(h:Vf s)(f:Xc s s'):Vf s':=fun w hw=>h w<|f.subset hw
theorem ais:∀{a:List Tok},Ch z a->∀w∈a,Dl w.v:=fun c=>by
 induction c with
 |last w h v l=>intro w hw;rw[IF.mp hw];exact v
 |more w w' r v l n c ih=>
  grind
def bb{xs:Rx}(h:∀x∈xs,Uc x):Uc<|.tup xs:=.tup xs h
def l4(v:Vf s)(h:b8 k s=.ok d s'):Uc d/\Vf s':=by
 refine⟨?_,v.sf<|xZ _ _ _ h⟩;unfold b8 at h;cbv
 .nofun;exact DT v.hd
 .nofun
def CF(v:Vf s)(h:ng s=.ok d s'):Uc d/\Vf s':=by
 refine⟨?_,v.sf<|Sw _ _ _ h⟩;obtain⟨a,s1,h1,h⟩:=To h;obtain⟨a1,v1⟩:=l4 v h1;obtain⟨_,s2,h2,h⟩:=To h;obtain⟨b,s3,h3,h⟩:=To h;obtain⟨b1,_⟩:=l4 (v1.sf<|yC _ _ _ h2) h3;nofun;exact bb fun x c=>by simp at c;rcases c with rfl|rfl|rfl;exact .str _;exact a1;exact b1
def UK(v:Vf s)(h:rf s=.ok d s'):Uc d/\Vf s':=by
 refine⟨?_,v.sf<|EF _ _ _ h⟩;unfold rf at h;cbv
 .exact(CF v h).1
 .cbv
  .nofun;exact bb fun x a=>by simp at a;rcases a with rfl|rfl;exact .str _;exact DT v.hd
  .obtain⟨_,s2,h2,h⟩:=To h;nofun;exact bb fun x a=>by simp at a;rcases a with rfl|rfl;exact .str _;exact .S9
def aib(v:Vf s)(h:qV s=.ok d s'):Uc d/\Vf s':=by
 refine⟨?_,v.sf (Vj h).2⟩;unfold qV at h;cbv
 .nofun
 .obtain⟨one,s1,h1,h⟩:=To h;obtain⟨o1,v1⟩:=UK (s:={s with t:=s.t+1}) v h1;cbv
  .obtain⟨Lh,s2,h2,h⟩:=To h;obtain⟨o2,_⟩:=UK (v1.sf<|dI s1) h2;nofun;exact bb fun x a=>by simp at a;rcases a with rfl|rfl|rfl|rfl;exact .str _;exact DT v1.hd;exact o1;exact o2
  .nofun
abbrev lY(T:Rx):Prop:=∀t∈T,Uc t
def vr(b:Int):∀(W:SH)(T:Rx),lY T->lY (aF b W T).2:=TB (fun T h=>h) fun w W i_ T h=>by
  unfold aF;split
  .split
   .cases T with
    |nil=>exact h
    |cons t T=>
     refine i_ _ fun x a=>?_;rcases eQ.mp a with rfl|a
     .exact bb fun y c=>by simp at c;rcases c with rfl|rfl;exact .str _;exact h y ∅
     mright
   .match T,h with
    |[],h=>exact h
    |[_],h=>exact h
    |t2::t1::T,h=>
     refine i_ _ fun x a=>?_;rcases eQ.mp a with rfl|a
     .exact bb fun y c=>by simp at c;rcases c with rfl|rfl|rfl;exact .str _;exact h y ∅;exact h y ∅
     .mright
  .exact h
def cls_sm:∀(f:Nat)(s:Sx)(T:Rx)(W:SH),lY T->lY (cls f s T W).2.1/\Xc s (cls f s T W).1:=X5 (fun s T W h=>⟨h,.refl _⟩) fun f i_ s T W h=>by
  unfold cls;split
  .obtain⟨a,b⟩:=i_ s.tl (eO T W).2 (eO T W).1<|vr 1 W T h;exact⟨a,(dI s).trans b⟩
  .exact⟨h,.refl _⟩
def agx:∀(f:Nat)(s:Sx)(W a:SH)(s':Sx),xD f s W=.ok a s'->Xc s s':=X5 (fun _ _ _ _ h=>nomatch h) fun f i_ s W a s' h=>by
  rw[xD]at h;cbv
  .cbv
   .nofun
   .exact(dI s).trans (i_ {s.tl with n:=s.n+1} _ a s' h)
  .nofun;exact .refl _
def RP{T:Rx}(v:Vf s)(f:lY T)(h:oC s T W=.ok p s'):lY p.1/\Vf s':=by
 obtain⟨W1,s1,h1,h⟩:=To h;obtain⟨d,s2,h2,h⟩:=To h;obtain⟨d1,v2⟩:=aib (v.sf<|agx 30 s W W1 s1 h1) h2;nofun;obtain⟨a,b⟩:=cls_sm 100 s2 (d::T) W1 fun x c=>(eQ.mp c).elim (fun e=>e▸d1)<|f x;exact⟨a,v2.sf b⟩
def K6:∀(f:Nat)(s:Sx)(T:Rx)(W:SH)(p:List D×SH)(s':Sx),Vf s->lY T->jf f s T W=.ok p s'->lY p.1/\Vf s':=X5 (fun _ _ _ _ _ _ _ h=>nomatch h) fun f i_ s T W p s' v hT h=>by
  rw[jf]at h;cbv
  .obtain⟨q,s1,h1,h⟩:=To h;obtain⟨a,b⟩:=RP (v.sf<|dI s) (vr _ W T hT) h1;exact i_ s1 q.1 q.2 p s' b a h
  .grind
def kG(f:Sx->Q Sx D):Prop:=∀s d s',Vf s->f s=.ok d s'->Uc d/\Vf s'
def CY(i:kG f)(m:Nat):kG<|pF f m:=fun s d s' v h=>by
 have j:∀n ds s c s',Vf s->lY ds->ky f n ds s=.ok c s'->lY c/\Vf s':=fun n=>by
  induction n with
  |zero=>intro ds s c s' v hd h;nofun;exact⟨hd,v⟩
  |succ n ih=>
   intro ds s c s' v hd h;unfold ky at h;cbv
   .obtain⟨d,s1,h1,h⟩:=To h;obtain⟨a,v1⟩:=i _ d s1 (v.sf<|dI s) h1;exact ih (ds++[d]) s1 c s' v1 (fun x g=>(BY.mp g).elim (hd x) fun e=>by grind) h
   .grind
 obtain⟨a,s1,h1,h⟩:=To h;obtain⟨a1,v1⟩:=i s a s1 v h1;obtain⟨ds,s2,h2,h⟩:=To h;obtain⟨b,v2⟩:=j _ [a] s1 ds s2 v1 (fun x g=>by grind) h2;nofun;exact⟨bb b,v2⟩
def CS(a:kG f)(b:Uc d0):kG<|iy k f d0:=fun s d s' v h=>by
 unfold iy at h;cbv
 .exact a _ d s' (v.sf<|dI s) h
 .mright
def ahY:kG yV:=fun s d s' v h=>by
 obtain⟨t,s1,h1,h⟩:=To h;obtain⟨a,v1⟩:=CF v h1;nofun;refine⟨bb fun x b=>by simp at b;rcases b with rfl|rfl;exact a;exact .bl _,?_⟩
 unfold kO;split
 .exact v1.sf (dI s1)
 .exact v1
def aj2(v:Vf s)(h:qP s=.ok d s'):Uc d:=by
 obtain⟨_,s1,h1,h⟩:=To h;obtain⟨ss,s2,h2,h⟩:=To h;obtain⟨a2,v2⟩:=CY (fun s d s' v h=>by
     obtain⟨t,s1,h1,h⟩:=To h;obtain⟨a,v1⟩:=l4 v h1;cbv
     .obtain⟨u,s2,h2,h⟩:=To h;obtain⟨b,v2⟩:=l4 v1 h2;nofun;exact⟨bb fun x c=>by grind,v2⟩
     .nofun;exact⟨bb fun x c=>by simp_all,v1⟩) 3 s1 ss s2 (v.sf<|yC _ _ _ h1) h2;obtain⟨cd,s3,h3,h⟩:=To h;obtain⟨a3,v3⟩:=CS (fun s d s' v h=>(by
     obtain⟨p,s1,h1,h⟩:=To h;obtain⟨a,v1⟩:=RP v (fun x c=>(Vm c).elim) h1;obtain⟨q,s2,h2,h⟩:=To h;obtain⟨b,v2⟩:=K6 30 s1 p.1 p.2 q s2 v1 a h2;cbv
     .nofun
     .nofun;refine⟨?_,v2⟩;unfold RF;have hs:=vr 1 q.2 q.1 b;cases e:(aF 1 q.2 q.1).2 with
      |nil=>exact .S9
      |cons t r=>mright)) .S9 s2 cd s3 v2 h3;obtain⟨os,s4,h4,h⟩:=To h;obtain⟨a4,v4⟩:=CS (fun s d s' v h=>by
     obtain⟨_,s1,h1,h⟩:=To h;exact CY ahY 8 s1 d s' (v.sf<|yC _ _ _ h1) h) (bb fun x a=>(Vm a).elim) s3 os s4 v3 h4;obtain⟨_,s5,h5,h⟩:=To h;obtain⟨cs,s6,h6,h⟩:=To h;obtain⟨a6,v6⟩:=CY (fun s d s' v h=>CF v h) 8 s5 cs s6 (v4.sf<|yC _ _ _ h5) h6;obtain⟨tk,s7,h7,h⟩:=To h;obtain⟨a7,_⟩:=CS (fun s d s' v h=>by
     unfold zm at h;cbv
     .nofun
     .exact l4 v h) .S9 s6 tk s7 v6 h7;cbv
 .nofun;exact bb fun x a=>by simp at a;rcases a with rfl|rfl|rfl|rfl|rfl|rfl;exact .str _;exact a2;exact a3;exact a4;exact a6;exact a7
 .nofun
noncomputable def fl(a:Ru):List<|Ru:=if a=[]then[]else[a]
def mt:Ru->Ru->List (Ru)
 |cur,[]=>fl cur
 |cur,c::r=>if c=32 then fl cur++mt [] r else if c=40\/c=41 then fl cur++[c]::mt [] r else mt (cur++[c]) r
def jI(c:Nat):Prop:=c=32\/c=40\/c=41
def afL(b:Ru){c:Nat}(h:jI c):∀(a d:Ru),mt d (a++c::b)=mt d (a++[c])++mt [] b:=TB (fun d=>by
  rcases h with rfl|rfl|rfl<;>simp[mt,fl]) fun x a i_ d=>by
  show mt d (x::(a++c::b))=mt d (x::(a++[c]))++_;rw[mt,mt,i_,i_]
  grind
def afK(b:Ru){c:Nat}(h:jI c):∀(a d:Ru),mt d (a++c::b)=mt d a++mt [] (c::b):=TB (fun d=>by
  show mt d (c::b)=mt d []++mt [] (c::b);rw[mt,mt,mt];rcases h with rfl|rfl|rfl<;>simp[fl]) fun x a i_ d=>by
  show mt d (x::(a++c::b))=mt d (x::a)++_;rw[mt,mt,i_,i_]
  grind
def aiN:∀(w a:Ru),(∀c∈w,¬jI c)->mt a w=fl (a++w):=TB (fun a _=>by rw[Wz];rfl) fun x w i_ a h=>by
  have b:=h x ∅;unfold jI at b;rw[mt,SM<|⊥,SM<|⊥,i_ _ fun c d=>h c<|ie _ d];simp
def Wx(A:Ru):Prop:=A=[]\/∃r c,A=r++[c]/\(c=32\/c=40)
def qa(B:Ru):Prop:=B=[]\/∃c r,B=c::r/\(c=32\/c=41)
def fc(h:Wx A)(X:Ru):mt [] (A++X)=mt [] A++mt [] X:=by
 rcases h with rfl|⟨r,c,rfl,hc⟩
 .rfl
 .rw[Vw];exact afL X (hc.elim .inl fun e=>.inr<|.inl e) r []
def u5(h:qa B)(X:Ru):mt [] (X++B)=mt [] X++mt [] B:=by
 rcases h with rfl|⟨c,r,rfl,hc⟩
 .show _=_++[];simp[fl]
 .exact afK r (hc.elim .inl fun e=>.inr<|.inr e) X []
def Wx.app(h:Wx A)(h2:Wx B):Wx<|A++B:=by
 rcases h2 with rfl|⟨r,c,rfl,hc⟩
 .mright
 .exact .inr ⟨A++r,c,by simp_all,hc⟩
def agw:∀(D:Ru),mt [] D=[]->∀c∈D,c=32:=TB (fun _=>fun c b=>(Vm b).elim) fun x r i_ h=>by
  have d:∀(l a:Ru),a≠[]->mt a l≠[]:=fun l=>by
   induction l with
   |nil=>intro a b;unfold mt fl;rw[SM b];simp
   |cons y l ih=>
    intro a b;rw[mt];split
    .unfold fl;rw[SM b];simp
    .split
     .simp
     .exact ih _ ∅
  rw[mt]at h;cbv
  .rename_i h32;intro c b;rcases eQ.mp b with rfl|b
   .exact h32
   .exact i_ h c b
  .cbv
   .simp[fl]at h
   mright
def WY(w:Ru):Bool:=!w.isEmpty&&w.all fun c=>c==60||(c==61||c==62)
structure V9(l:List (Ru)):Prop where
 h:∃w r,l=w::r/\WY w=η
 t:∃r w,l=r++[w]/\WY w=η
def V9.app(a:V9 x)(b:V9 y):V9<|x++y:=by
 obtain⟨w,r,rfl,h⟩:=a.h;obtain⟨r2,w2,rfl,h2⟩:=b.t;exact⟨⟨w,r++(r2++[w2]),rfl,h⟩,⟨w::r++r2,w2,∅,h2⟩⟩
def V9.one(h:WY w=η):V9 [w]:=⟨⟨w,[],rfl,h⟩,⟨[],w,rfl,h⟩⟩
def cut{X Y c wB:List<|Ru}(h:X++Y=c++s1::g::s2::wB)(d:WY g=G)(a:V9 X)(b:V9 Y):
  (∃v,X=c++s1::g::s2::v/\wB=v++Y)\/(∃v,Y=v++s1::g::s2::wB/\c=X++v):=by
 rcases List.append_eq_append_iff.mp h with⟨u,h1,h2⟩|⟨u,h1,h2⟩
 .exact .inr ⟨u,h2,h1⟩
 .cases u with
  |nil=>exact .inr ⟨[],by simpa using h2.symm,by simpa using h1.symm⟩
  |cons x1 u=>
   cases u with
   |nil=>
    injection h2 with e1 e2
    obtain⟨w,r,e,hw⟩:=b.h;rw[e]at e2;injection e2 with e3 e4
    grind
   |cons x2 u=>
    cases u with
    |nil=>
     injection h2 with e1 e2
     injection e2 with e3 e4
     obtain⟨r,w,e,hw⟩:=a.t;have  := by
      rw[e]at h1
      have:r++[w]=(c++[x1])++[x2]:=by simpa using h1
      exact(List.append_inj' this rfl).2 |> fun z=>by simpa using z
     mright
    |cons x3 u=>
     grind
def uZ{X:List<|Ru}(h:X=wAq++s1::g::s2::v)(a:WY g=G)(hX:∀w∈X,WY w=η):False:=by
 grind
abbrev S(a:TY):Ru:=tx<|a.it 0
def gA(c:Nat):Bool:=low c||(j7 c||(c==45||c==46))
theorem TY.chars{a:TY}(h:a.Ok):S a≠[]/\∀c∈S a,gA c=G:=by
 have d:∀{z:Str},ci z=G->lS z≠[]/\∀c∈lS z,gA c=G:=fun{z}hz=>by
  unfold ci at hz;simp only[oR,Yl,decide_eq_false_iff_not,Ve]at hz;exact⟨fun e=>hz.1<|lu<|by assumption,fun c b=>by unfold gA;rw[hz.2.2.1 c b];rfl⟩
 cases a with
 |col x y=>
  have e:S (.col x y)=lS x++(lS "."++lS y):=by show tx _=_;simp[TY.it,tx,pP,oZ]
  have f:lS "."=[46]:=⊤
  rw[e,f];refine⟨∅,fun c b=>?_⟩;rcases BY.mp b with b|b
  .exact(d h.1).2 c b
  .rcases BY.mp b with b|b
   .rw[IF.mp b];rfl
   .exact(d h.2).2 c b
 |S9=>exact⟨⊤,⊤⟩
 |int i=>
  have e:S (.int i)=cu i:=by show tx _=_;simp[TY.it,tx];rfl
  refine US (gu i) fun c r e2 h1 h2 _=>?_;unfold gA
  grind
def K1(h:gA c=G):¬jI c/\(c==60||(c==61||c==62))=η:=by
 unfold gA low j7 at h;unfold jI;simp at h⊢;lia
theorem S8{a:TY}(h:a.Ok):WY (S a)=η:=by
 obtain⟨h1,h2⟩:=a.chars h;unfold WY;cases e:S a with
 |nil=>rfl
 |cons c r=>
  have:=(K1<|h2 c<|by rw[e];simp).2
  simp only[Vg,this,Bool.false_and,Bool.and_false]
def RG{a:TY}(h:a.Ok)(b:Ru)(d:b=[]):mt b (S a)=[S a]:=by
 obtain⟨h1,h2⟩:=a.chars h;rw[aiN _ _ fun c d=>(K1<|h2 c d).1,d,List.nil_append];unfold fl;rw[SM h1]
def Vi:∀g∈#[11],mt [] (lS g)=[lS g]/\WY (lS g)=G:=⊤
noncomputable def Xw(b:Bool)(l:List<|Ru):List<|Ru:=if b=G then[[40]]++(l++[[41]])else l
def wd:Cn->List (Ru)
 |.test g a b=>[S a,lS g,S b]
 |.not c=>[lS "not"]++Xw (decide (c.lv<3)) (wd c)
 |.and a b=>Xw (decide (a.lv<2)) (wd a)++([lS "and"]++Xw (decide (b.lv<3)) (wd b))
 |.or a b=>Xw (decide (a.lv<1)) (wd a)++([lS "or"]++Xw (decide (b.lv<2)) (wd b))
 |.br c=>Xw G<|wd c
theorem i5(b:Bool)(h:V9 l):V9<|Xw b l:=by
 cases b with
 |true=>exact(V9.one rfl).app<|h.app<|V9.one rfl
 |false=>exact h
theorem nK{c:Cn}(h:c.Tg):V9<|wd c:=by
 have g1:WY (lS "not")=η/\WY (lS "and")=η/\WY (lS "or")=η:=⊤
 induction c with
 |test g a b=>exact⟨⟨S a,_,rfl,S8 h.2.1⟩,⟨[S a,lS g],S b,rfl,S8 h.2.2⟩⟩
 |not c ih=>exact(V9.one g1.1).app<|i5 _<|ih h
 |and a b i j=>exact(i5 _<|i h.1).app<|(V9.one g1.2.1).app<|i5 _<|j h.2
 |or a b i j=>exact(i5 _<|i h.1).app<|(V9.one g1.2.2).app<|i5 _<|j h.2
 |br c ih=>exact i5 G<|ih h
theorem r6(b:Bool)(h:mt [] t=l):mt [] (zA b t)=Xw b l:=by
 have a:lS "("=[40]:=⊤
 have c:lS ")"=[41]:=⊤
 unfold zA Xw;cases b with
 |true=>
  simp only[if_true,a,c];rw[u5<|.inr ⟨41,[],rfl,.inr rfl⟩,fc (A:=[40])<|.inr ⟨[],40,rfl,.inr rfl⟩,h];simp[mt,fl]
 |false=>exact h
def G5(X Y:Ru)(w:Str)(hw:mt [] (lS w)=[lS w]):mt [] ((((X++lS " ")++lS w)++lS " ")++Y)=mt [] X++([lS w]++mt [] Y):=by
 rw[Jt,fc<|.inr ⟨_,32,rfl,.inl rfl⟩,u5<|.inr ⟨32,[],rfl,.inl rfl⟩,fc<|.inr ⟨_,32,rfl,.inl rfl⟩,u5<|.inr ⟨32,[],rfl,.inl rfl⟩,hw];simp[mt,fl]
theorem nP{c:Cn}(h:c.Tg):mt [] (T c)=wd c:=by
 have g1:mt [] (lS "not ")=[lS "not"]/\mt [] (lS "and")=[lS "and"]/\mt [] (lS "or")=[lS "or"]:=⊤
 induction c with
 |test g a b=>
  rw[F5,G5 _ _ g (Vi g h.1).1,RG h.2.1 [] rfl,RG h.2.2 [] rfl];rfl
 |not c ih=>
  have e:Wx<|lS "not ":=.inr ⟨lS "not",32,⊤,.inl rfl⟩;rw[Nq,fc e,r6 _<|ih h];rfl
 |and a b i j=>
  rw[NH,G5 _ _ "and" g1.2.1,r6 _<|i h.1,r6 _<|j h.2];rfl
 |or a b i j=>
  rw[Uv,G5 _ _ "or" g1.2.2,r6 _<|i h.1,r6 _<|j h.2];rfl
 |br c ih=>
  rw[nL,r6 G<|ih h];rfl
structure In(X X' A B:Ru)(t:Cn):Prop where
 e:X=A++(T t++B)
 e':X'=A++(40::(T t++(41::B)))
 cl:Wx A
structure gJ(c c':Cn)(t:Cn):Prop where
 d:c'.d=c.d
 lv:c'.lv=c.lv
 te:c'.b6=c.b6
 op:c'.b4=c.b4+1
 fi:c'.Tg
 tt:∃g a b,t=.test g a b/\t.Tg
def ku(c:Cn):Prop:=∀wAq s1 g s2 wB,wd c=wAq++s1::g::s2::wB->WY g=G->∃A B t c',In (T c) (T c') A B t/\gJ c c' t/\mt [] A=wAq/\mt [] (T t)=[s1,g,s2]
def In.ctx(h:In X X' A B t)(p q:Ru)(a:Wx p):In (p++(X++q)) (p++(X'++q)) (p++A) (B++q) t:=⟨by rw[h.e];simp,by rw[h.e'];simp,a.app h.cl⟩
theorem aiG(b:Bool)(c a:Cn)(h:In (T c) (T a) A B t):∃A' B',In (zA b<|T c) (zA b<|T a) A' B' t/\mt [] A'=(if b=G then[[40]]else[])++mt [] A:=by
 cases b with
 |false=>exact⟨A,B,h,rfl⟩
 |true=>
  have k:Wx [40]:=.inr ⟨[],40,rfl,.inr rfl⟩;refine⟨_,_,h.ctx [40] [41] k,?_⟩;rfl
theorem CH(b:Bool)(j:c.Tg)(h:ku c):∀a i g f wB,Xw b (wd c)=a++i::g::f::wB->WY g=G->∃A B t c',In (zA b<|T c) (zA b<|T c') A B t/\gJ c c' t/\mt [] A=a/\mt [] (T t)=[i,g,f]:=by
 intro a i g f wB e d;cases b with
 |false=>
  refine yF (h a i g f wB e d) fun A B t c' i1 i2 i3 i4=>?_;exact⟨A,B,t,c',i1,i2,i3,i4⟩
 |true=>
  have l:V9 [[40]]:=V9.one rfl;have k:V9 [[41]]:=V9.one rfl;rcases cut e d l ((nK j).app k)with⟨v,z,_⟩|⟨v,z,ala⟩
  .exact(uZ z d<|∎).elim
  .rcases cut z d (nK j) k with⟨u,z,_⟩|⟨u,z,_⟩
   .refine yF (h v i g f u z d) fun A B t c' i1 i2 i3 i4=>?_;obtain⟨A',B',j1,j2⟩:=aiG G c c' i1;exact⟨A',B',t,c',j1,i2,by grind,i4⟩
   .exact(uZ z d<|∎).elim
def DV(c:Cn):(decide (c.lv<1))=η:=by cases c<;>rfl
theorem ins(c:Cn):c.Tg->c.Pl->ku c:=by
 have g1:WY (lS "not")=η/\WY (lS "and")=η/\WY (lS "or")=η:=⊤
 have N:mt [] (lS "not ")=[lS "not"]/\mt [] (lS "and")=[lS "and"]/\mt [] (lS "or")=[lS "or"]:=⊤
 have Q:Wx<|lS "not ":=.inr ⟨lS "not",32,⊤,.inl rfl⟩;have Lh:∀(c a b:Cn)(w:Str)(f h:Bool)(K:Cn->Cn->Cn),mt [] (lS w)=[lS w]->WY (lS w)=η->a.Tg->b.Tg->(c=K a b)->(∀l k,l.lv=a.lv->k.lv=b.lv->T (K l k)=(((zA f (T l)++lS " ")++lS w)++lS " ")++zA h (T k)) ->
   wd c=Xw f (wd a)++([lS w]++Xw h (wd b))->ku a->ku b->(∀l t,gJ a l t->gJ c (K l b) t)->(∀k t,gJ b k t->gJ c (K a k) t)->ku c:=by
  intro c a b w f h K M p E R W x hw H P y O m r g q wB e n;rw[hw]at e;have I:=i5 f<|nK E;have V:=i5 h<|nK R;subst W;rcases cut e n I ((V9.one p).app V)with⟨v,z,_⟩|⟨v,z,ala⟩
  .obtain⟨A,B,t,l,i1,i2,i3,i4⟩:=CH f E H m r g q v z n;refine⟨A,B++(lS " "++(lS w++(lS " "++zA h (T b)))),t,K l b,?_,y l t i2,i3,i4⟩
   have:=i1.ctx [] (lS " "++(lS w++(lS " "++zA h (T b))))<|.inl rfl
   rw[x a b rfl rfl,x l b i2.lv rfl];simpa using this
  .rcases cut z n (V9.one p) V with⟨u,z,_⟩|⟨u,z,hA2⟩
   .exact(uZ z n<|by simpa using p).elim
   .refine yF (CH h R P u r g q wB z n) fun A B t k i1 i2 i3 i4=>?_;have X:Wx<|((zA f (T a)++lS " ")++lS w)++lS " ":=.inr ⟨_,32,by rw[Jt],.inl rfl⟩;refine⟨(((zA f (T a)++lS " ")++lS w)++lS " ")++A,B,t,K a k,?_,O k t i2,?_,i4⟩
    .have:=i1.ctx _ [] X
     rw[x a b rfl rfl,x a k rfl i2.lv];simpa using this
    .rw[G5 _ _ w M,r6 f<|nP E,i3,ala,hA2]
 induction c with
 |br c ih=>exact fun _ h=>h.elim
 |test g' a b=>
  intro h o m r g q wB e n;have e:[S a,lS g',S b]=m++r::g::q::wB:=e;have hl:=UN vP e;simp at hl;have h1:m=[]:=List.length_eq_zero_iff.mp ⊥;have h2:wB=[]:=List.length_eq_zero_iff.mp ⊥;subst h1 h2;refine⟨[],[],.test g' a b,.br<|.test g' a b,⟨∅,?_,.inl rfl⟩,⟨rfl,rfl,rfl,rfl,h,g',a,b,rfl,h⟩,rfl,?_⟩
  .have l1:lS "("=[40]:=⊤
   have l2:lS ")"=[41]:=⊤
   rw[nL];unfold zA;simp[l1,l2]
  .rw[nP h];exact e
 |not c ih=>
  intro h o m r g q wB e n;have e:[lS "not"]++Xw (decide (c.lv<3)) (wd c)=m++r::g::q::wB:=e;rcases cut e n (V9.one g1.1) (i5 _<|nK h)with⟨v,z,_⟩|⟨v,z,ala⟩
  .exact(uZ z n<|by simpa using g1.1).elim
  .refine yF (CH (c:=c) _ h (ih h o) v r g q wB z n) fun A B t c' i1 i2 i3 i4=>?_;refine⟨lS "not "++A,B,t,.not c',?_,⟨by show D.tup _=D.tup _;rw[i2.d],rfl,i2.te,?_,i2.fi,i2.tt⟩,?_,i4⟩
   .have:=i1.ctx (lS "not ") [] Q
    rw[Nq,Nq,i2.lv];simpa using this
   .show 1+(decide (c'.lv<3)).toNat+c'.b4=1+(decide (c.lv<3)).toNat+c.b4+1;rw[i2.lv,i2.op];lia
   .rw[fc Q,N.1,i3,ala]
 |and a b i j=>
  intro h o;refine Lh (.and a b) a b "and" (decide (a.lv<2)) (decide (b.lv<3)) Cn.and N.2.1 g1.2.1 h.1 h.2 rfl (fun l k F C=>by rw[NH,F,C]) rfl (i h.1 o.1) (j h.2 o.2) (fun l t s=>⟨by show D.tup _=D.tup _;rw[s.d],rfl,by show _+_=_+_;rw[s.te],?_,⟨s.fi,h.2⟩,s.tt⟩) (fun k t s=>⟨by show D.tup _=D.tup _;rw[s.d],rfl,by show _+_=_+_;rw[s.te],?_,⟨h.1,s.fi⟩,s.tt⟩)
  .show(decide (l.lv<2)).toNat+_+_+_=_;rw[s.lv,s.op];show _=(decide (a.lv<2)).toNat+(decide (b.lv<3)).toNat+a.b4+b.b4+1;lia
  .show _+(decide (k.lv<3)).toNat+_+_=_;rw[s.lv,s.op];show _=(decide (a.lv<2)).toNat+(decide (b.lv<3)).toNat+a.b4+b.b4+1;lia
 |or a b i j=>
  intro h o;refine Lh (.or a b) a b "or" (decide (a.lv<1)) (decide (b.lv<2)) Cn.or N.2.2 g1.2.2 h.1 h.2 rfl (fun l k F C=>by rw[Uv,F,C]) rfl (i h.1 o.1) (j h.2 o.2) (fun l t s=>⟨by show D.tup _=D.tup _;rw[s.d],rfl,by show _+_=_+_;rw[s.te],?_,⟨s.fi,h.2⟩,s.tt⟩) (fun k t s=>⟨by show D.tup _=D.tup _;rw[s.d],rfl,by show _+_=_+_;rw[s.te],?_,⟨h.1,s.fi⟩,s.tt⟩)
  .show _+l.b4+_=_;rw[s.op];show _=(decide (b.lv<2)).toNat+a.b4+b.b4+1;lia
  .show(decide (k.lv<2)).toNat+_+_=_;rw[s.lv,s.op];rfl
noncomputable def Ur(p:Ru):Ru->Nat
 |[]=>0
 |x::r=>(if(x::r).take p.length=p then 1 else 0)+Ur p r
def i7(p:Ru)(b:Ru):∀a,Ur p a+Ur p b<=Ur p (a++b):=TB (by simp[Ur]) fun x a i_=>by
  have c:=i_;show(if(x::a).take p.length=p then 1 else 0)+Ur p a+Ur p b<=(if((x::a)++b).take p.length=p then 1 else 0)+Ur p (a++b)
  grind
def n6(p L:Ru):∀(n a:Nat),(∀k,a<=k->k<a+n->¬(L.drop k).take p.length=p)->Ur p (L.drop a)=Ur p (L.drop<|a+n):=X5 (fun a _=>rfl) fun n i_ a h=>by
  have d:=i_ (a+1) fun k h1 h2=>h k ⊥ ⊥;have b:=h a (mK _) ⊥;rw[show a+(n+1)=a+1+n by lia];by_cases c:a<L.length
  .rw[g5 c]at b⊢;show(if _ then 1 else 0)+Ur p (L.drop<|a+1)=_;rw[SM b];lia
  .rw[List.drop_eq_nil_of_le<|⊥,List.drop_eq_nil_of_le<|⊥]
def rk(L p:Ru)(k:Nat):StrLaws.At (aw L) (aw p) L.length k↔k+p.length<=L.length/\(L.drop k).take p.length=p:=by
 unfold StrLaws.At;rw[PySem.StrLaws.subAt_eq,az,az,bM];simp
theorem R2{L p:Ru}(h:(L.drop k).take p.length=p):p=[]\/k+p.length<=L.length:=by
 have:=UN vP h
 cases p with
 |nil=>exact .inl rfl
 |cons x r=>simp at this⊢;lia
def K5(L:Ru)(x:Nat)(r:Ru)(m:x∉r):∀(b:Ru)(a f:Nat),StrLaws.ChainG (aw L) (aw<|x::r) L.length a b f->(∀k,f<=k->¬StrLaws.At (aw L) (aw<|x::r) L.length k)->Ur (x::r) (L.drop a)<=b.length:=TB (fun a f h hn=>by
  have e:f=a:=h;subst e
  have:=n6 (x::r) L L.length f fun k h1 _ d=>hn k h1<|(rk L _ k).mpr ⟨(R2 d).resolve_left<|∅,d⟩
  rw[this,List.drop_eq_nil_of_le<|⊥];exact mK _) fun c cs i_ a f h hn=>by
  obtain⟨h1,h2,d,h4⟩:=h;have s:=i_ _ f h4 hn;obtain⟨q1,q2⟩:=(rk L _ c).mp h2;have e1:=n6 (x::r) L (c-a) a fun k g1 g2 g=>d k g1 ⊥<|(rk L _ k).mpr ⟨(R2 g).resolve_left<|∅,g⟩;rw[show a+(c-a)=c by lia]at e1;have n:(x::r).length=r.length+1:=rfl;have p:c<L.length:=⊥
  have gt:∀i,i<(x::r).length->L[c+i]?=(x::r)[i]?:=fun i q=>by
   have:=UN (fun l:Ru=>l[i]?) q2
   simp only[List.getElem?_take,uu]at this;rw[SI q]at this;exact this
  have e2:=n6 (x::r) L r.length (c+1) fun k g1 g2 g=>by
   obtain⟨i,rfl⟩:∃i,k=c+(i+1):=⟨k-c-1,⊥⟩;have j:=gt (i+1) ⊥;have o:L[c+(i+1)]?=J x:=by
    have:=UN (fun l:Ru=>l[0]?) g
    simp only[List.getElem?_take,uu]at this;rw[SI<|⊥]at this;simpa using this
   rw[o]at j;simp at j;exact m<|Do j.symm
  have e3:Ur (x::r) (L.drop c)<=1+Ur (x::r) (L.drop<|c+1):=by
   rw[g5 p];show(if _ then 1 else 0)+_<=_;split<;>lia
  have e4:(aw<|x::r).length=r.length+1:=rfl
  grind
def Tu(L:Ru)(x:Nat)(r:Ru)(a:x∉r):(Ur (x::r) L:Int)<=ls (aw L) (aw<|x::r):=by
 obtain⟨f,h1,h2⟩:=StrLaws.occ_tight (aw L) (aw<|x::r) (by rw[bM];simp)
 have:=K5 L x r a _ 0 f h1 h2
 exact Int.ofNat_le.mpr this
theorem ahL(A P B:Ru):∃A' B',A++(P++B)=A'++(P++B')/\Dx (aw<|A++(P++B)) (aw P)=A'.length:=by
 have a:=(StrLaws.found_iff (aw<|A++(P++B))<|aw P).mpr ⟨A.length,(rk (A++(P++B)) P A.length).mpr ⟨∅,by grind⟩⟩;obtain⟨f,hc⟩:=StrLaws.occ_chain (aw<|A++(P++B)) (aw P) 1;unfold Dx;cases e:jb (aw<|A++(P++B)) (aw P) 0 (aw<|A++(P++B)).length 1 with
 |nil=>mright
 |cons i r=>
  rw[e]at hc;obtain⟨q1,q2⟩:=(rk _ _ _).mp hc.2.1;generalize A++(P++B)=L at q1 q2;refine⟨L.take i,(L.drop i).drop P.length,?_,?_⟩
  .have h1:=List.take_append_drop P.length<|L.drop i;mright
  grind
noncomputable def Cn.cE:Cn->Nat
 |.test _ _ _=>0
 |.not c=>1+c.cE
 |.and a b=>a.cE+b.cE
 |.or a b=>a.cE+b.cE
 |.br c=>c.cE
theorem aiQ(c:Cn):c.Pl->c.b4=c.cE+c.nd:=by
 induction c with
 |test=>exact fun _=>rfl
 |br c ih=>exact fun h=>h.elim
 |not c ih=>intro h;have:=ih h;unfold Cn.b4 Cn.cE Cn.nd;lia
 |and a b i j=>
  intro h
  have:=i h.1
  have:=j h.2
  have e:decide (b.lv<=2)=decide (b.lv<3):=decide_eq_decide.mpr ⊥;unfold Cn.b4 Cn.cE Cn.nd;rw[e];lia
 |or a b i j=>
  intro h
  have:=h.1
  have:=h.2
  unfold Cn.b4 Cn.cE Cn.nd;rw[DV]
  grind
def Q9{a:TY}(h:a.Ok):Tp (S a)=0:=(fun h => List.countP_eq_zero.mpr fun c a=>by simpa using h c a) fun c b z=>(K1<|(a.chars h).2 c b).1<|.inr<|.inl z
theorem ai5:∀g∈#[11],Tp (lS g)=0:=⊤
theorem Es(b:Bool)(t:Ru):Tp (zA b t)=Tp t+b.toNat:=by
 have a:Tp (lS "(")=1:=⊤
 have c:Tp (lS ")")=0:=⊤
 unfold zA;cases b with
 |true=>simp only[if_true,b0,a,c,Bool.toNat_true];lia
 |false=>simp
theorem W3{c:Cn}(h:c.Tg)(d:c.Pl):Tp (T c)=c.nd:=by
 have f:Tp (lS " ")=0/\Tp (lS "and")=0/\Tp (lS "or")=0/\Tp (lS "not ")=0:=⊤
 induction c with
 |test g a b=>rw[F5];simp only[b0,f,ai5 g h.1];rw[Q9 h.2.1,Q9 h.2.2];rfl
 |br c ih=>exact d.elim
 |not c ih=>rw[Nq,b0,Es,ih h d];show _=c.nd+(decide (c.lv<3)).toNat;lia
 |and a b i j=>
  have e:decide (b.lv<=2)=decide (b.lv<3):=decide_eq_decide.mpr ⊥;rw[NH];simp only[b0,f,Es];rw[i h.1 d.1,j h.2 d.2];show _=a.nd+b.nd+(decide (a.lv<2)).toNat+(decide (b.lv<=2)).toNat;rw[e];lia
 |or a b i j=>
  have e:decide (b.lv<=1)=decide (b.lv<2):=decide_eq_decide.mpr ⊥;rw[Uv];simp only[b0,f,Es];rw[i h.1 d.1,j h.2 d.2];show _=a.nd+b.nd+(decide (a.lv<1)).toNat+(decide (b.lv<=1)).toNat;rw[e];lia
def ait:∀L,Tp L<=Ur [40] L:=TB (mK _) fun x r i_=>by
  have a:=i_;have e:Tp (x::r)=(if x=40 then 1 else 0)+Tp r:=by
   unfold Tp
   grind
  show _<=(if(x::r).take 1=[40]then 1 else 0)+Ur [40] r
  simp;omega
theorem ahA{c:Cn}:c.cE<=Ur (lS "not ") (T c):=by
 have br:∀b t,Ur (lS "not ") t<=Ur (lS "not ") (zA b t):=fun b t=>by
  unfold zA;split
  .have h1:=i7 (lS "not ") (lS ")")<|lS "("++t;have h2:=i7 (lS "not ") t<|lS "(";lia
  .exact mK _
 have o:Ur (lS "not ") (lS "not ")=1:=⊤
 have Lh:∀(X Y:Ru)(w:Str),Ur (lS "not ") X+Ur (lS "not ") Y<=Ur (lS "not ") ((((X++lS " ")++lS w)++lS " ")++Y):=fun X Y w=>by
  have h1:=i7 (lS "not ") Y<|((X++lS " ")++lS w)++lS " ";have h2:=i7 (lS "not ") (lS " ")<|(X++lS " ")++lS w;have d:=i7 (lS "not ") (lS w)<|X++lS " ";have e:=i7 (lS "not ") (lS " ") X;lia
 induction c with
 |test g a b=>exact Uh _
 |br c ih=>rw[nL];exact RW ih<|br _ _
 |not c ih=>
  rw[Nq];have h1:=i7 (lS "not ") (zA (decide (c.lv<3))<|T c)<|lS "not ";have h2:=br (decide (c.lv<3))<|T c;unfold Cn.cE;lia
 |and a b i j=>
  rw[NH];have h1:=Lh (zA (decide (a.lv<2))<|T a) (zA (decide (b.lv<3))<|T b) "and";have h2:=br (decide (a.lv<2))<|T a;have d:=br (decide (b.lv<3))<|T b;unfold Cn.cE;lia
 |or a b i j=>
  rw[Uv];have h1:=Lh (zA ((a.lv<1))<|T a) (zA ((b.lv<2))<|T b) "or";have h2:=br ((a.lv<1))<|T a;have d:=br ((b.lv<2))<|T b;unfold Cn.cE;lia
def few{c:Cn}(h:c.Tg)(a:c.Pl)(h1:ls (aw<|T c) (aw [40])<=12)(h2:ls (aw<|T c) "not "<=7):c.b4<=19:=by
 have e:("not ")=aw [110,111,116,32]:=⊤
 rw[e]at h2;have b:=Tu (T c) 40 [] ∅;have d:=Tu (T c) 110 [111,116,32] ∎;have b1:=ait<|T c;have b2:=ahA (c:=c);have e2:lS "not "=[110,111,116,32]:=⊤
 rw[e2]at b2;rw[W3 h a]at b1
 have:=aiQ c a
 lia
theorem agK{c:Cn}(h:c.Tg):∀x∈T c,x≠34/\x<16^8:=by
 let Ok (l:Ru):Prop:=∀x∈l,x≠34/\x<16^8
 have app:∀{a b},Ok a->Ok b->Ok (a++b):=fun f n x e=>(BY.mp e).elim (f x)<|n x;have w:Ok (lS " ")/\Ok (lS "and")/\Ok (lS "or")/\Ok (lS "not ")/\Ok (lS "(")/\Ok (lS ")"):=⊤
 have o:∀g∈#[11],Ok<|lS g:=⊤
 have d:∀{a:TY},a.Ok->Ok (S a):=fun{a}f x e=>by
  have:=(a.chars f).2 x e
  unfold gA low j7 at this;simp at this;lia
 have br:∀b{t},Ok t->Ok (zA b t):=fun b t k=>by
  unfold zA;split
  .exact app (app w.2.2.2.2.1 k) w.2.2.2.2.2
  .exact k
 have Lh:∀{X Y:Ru}{v:Str},Ok X->Ok (lS v)->Ok Y->Ok ((((X++lS " ")++lS v)++lS " ")++Y):=fun e m p=>app (app (app (app e w.1) m) w.1) p;induction c with
 |test g a b=>rw[F5];exact Lh (d h.2.1) (o g h.1)<|d h.2.2
 |br c ih=>rw[nL];exact br _<|ih h
 |not c ih=>rw[Nq];exact app w.2.2.2.1<|br _<|ih h
 |and a b i j=>rw[NH];exact Lh (br _<|i h.1) w.2.1<|br _<|j h.2
 |or a b i j=>rw[Uv];exact Lh (br _<|i h.1) w.2.2.1<|br _<|j h.2
theorem ajJ(c:Cn):c.Pl->∀k,c.sz<=k->cp k [c.d]=.ok (.int c.sz):=by
 have one:∀(k:Nat)(d:D)(as:List Cn)(n:Int)(hd:Str),hd≠lE "test"->cR d (.int 0)=.ok (.str hd)->xo d (J 1) U=.ok (.tup<|as.map Cn.d)->as.length<=100->(∀a∈as,cp k [a.d]=.ok (.int a.sz))->E4 [.lst<|as.map fun a=>D.int a.sz]=.ok (.int n)->cp (k+1) [d]=.ok (.int<|1+n):=by
  intro k d as n hd p e q s h hs;have e2:cF (.one 0) xa (aI (cp k)<|ak (ag 0) aQ) [U] (as.map Cn.d)=.ok (.lst<|as.map fun a=>D.int a.sz):=jr _ _ rfl ⊥ fun a m=>h a m;have o:Jm xo (ag 0) (gI<|vC<|.int 1) Hh [J d]=.ok (.tup<|as.map Cn.d):=T6 rfl (C4 rfl) rfl q;exact aq (r:=ll (cp k) [J d])<|(skip<|ao<|ae (ae rfl rfl e) rfl (fL p)).trans<|ar<|ir rfl (af (ac (oy (OY o rfl) e2) rfl) hs)
 induction c with
 |br c ih=>exact fun h=>h.elim
 |test g a b=>
  intro _ k f;obtain⟨k,rfl⟩:∃j,k=j+1:=⟨k-1,by have:(Cn.test g a b).sz=1:=rfl;lia⟩;exact aq (r:=ll (cp k) [J (Cn.test g a b).d])<|aS<|(a8<|ao<|ae #[12] rfl (ot rfl)).trans<|ar rfl
 |not c ih=>
  intro h k f;have f:1+c.sz<=k:=f;obtain⟨k,rfl⟩:∃j,k=j+1:=⟨k-1,⊥⟩
  have:=one k (Cn.not c).d [c] c.sz "not" Am rfl rfl ∅ (fun a m=>by rw[IF.mp m];exact ih h k<|⊥) (by show R.ok (D.int<|([(c.sz:Int)]:List Int).sum)=_;simp)
  rw[this];show R.ok (D.int<|1+(c.sz:Int))=.ok (.int ((1+c.sz:Nat):Int));simp
 |and a b i j=>
  intro h k f;have f:1+a.sz+b.sz<=k:=f;obtain⟨k,rfl⟩:∃j,k=j+1:=⟨k-1,⊥⟩
  have:=one k (Cn.and a b).d [a,b] (a.sz+b.sz) "and" Gy rfl rfl ∅ (fun x l=>by simp at l;rcases l with rfl|rfl;exact i h.1 k ⊥;exact j h.2 k ⊥) (by show R.ok (D.int<|([(a.sz:Int),(b.sz:Int)]:List Int).sum)=_;simp)
  rw[this];show R.ok (D.int<|1+((a.sz:Int)+b.sz))=.ok (.int ((1+a.sz+b.sz:Nat):Int));congr 2;lia
 |or a b i j=>
  intro h k f;have f:1+a.sz+b.sz<=k:=f;obtain⟨k,rfl⟩:∃j,k=j+1:=⟨k-1,⊥⟩
  have:=one k (Cn.or a b).d [a,b] (a.sz+b.sz) "or" IW rfl rfl ∅ (fun x l=>by simp at l;rcases l with rfl|rfl;exact i h.1 k ⊥;exact j h.2 k ⊥) rfl
  rw[this];show R.ok (D.int<|1+(a.sz+b.sz))=.ok (.int<|(1+a.sz+b.sz));congr 2;lia
noncomputable def Cn.XO:Cn->List Cn
 |.test g a b=>[.test g a b]
 |.not c=>c.XO
 |.and a b=>a.XO++b.XO
 |.or a b=>a.XO++b.XO
 |.br c=>c.XO
abbrev ZK(t:Cn):D:=.str<|aw<|T t
theorem tj(c:Cn):c.XO.length=c.b6:=by
 induction c with
 |test=>rfl
 |not c ih=>exact ih
 |br c ih=>exact ih
 |and a b i j=>unfold Cn.XO Cn.b6;rw[LX,i,j]
 |or a b i j=>unfold Cn.XO Cn.b6;rw[LX,i,j]
theorem agR(c:Cn):c.Tg->c.Pl->c.sz<=99->∀k,c.sz<=k->ba k [c.d]=.ok (.lst<|c.XO.map ZK):=by
 have Lh:∀(k:Nat)(d:D)(a b:Cn)(w:Str),w≠lE "test"->w≠lE "not"->d=.tup [.str w,a.d,b.d]->a.sz<=99->b.sz<=99->ba k [a.d]=.ok (.lst<|a.XO.map ZK)->ba k [b.d]=.ok (.lst<|b.XO.map ZK)->ba (k+1) [d]=.ok (.lst<|(a.XO++b.XO).map ZK):=by
  intro k d a b w o q e u t p n;subst e;have la:=tj a;have s:=tj b
  have:=a.small
  have:=b.small
  refine aq (r:=bp (ba k) [J<|.tup [.str w,a.d,b.d]])<|(skip<|ao<|ae #[12] rfl (fL o)).trans<|(skip<|ao<|ae #[12] rfl (fL q)).trans<|ar<|ae (af (ac #[12] rfl) p) (af (ac #[12] rfl) n) ?_;rw[Ua,SI<|by simp;lia,md]
 induction c with
 |br c ih=>exact fun _ h=>h.elim
 |test g a b=>
  intro h f hs k l;obtain⟨k,rfl⟩:∃j,k=j+1:=⟨k-1,by have:(Cn.test g a b).sz=1:=rfl;lia⟩;have tx:=BF (c:=.test g a b) h f hs 99 (by show 2*1<=100;decide);exact aq (r:=bp (ba k) [J (Cn.test g a b).d])<|aS<|(a8<|ao<|ae #[12] rfl (ot rfl)).trans<|ar<|mx (ds:=[ZK<|.test g a b])<|ac (af #[29] tx) rfl
 |not c ih=>
  intro h f hs k l;have m:1+c.sz<=99:=hs;have l:1+c.sz<=k:=l;obtain⟨k,rfl⟩:∃j,k=j+1:=⟨k-1,⊥⟩;exact aq (r:=bp (ba k) [J (Cn.not c).d])<|(skip<|ao<|ae #[12] rfl (fL Am)).trans<|aS<|(ar<|af (ac #[12] rfl)<|ih h f ⊥ k<|⊥)
 |and a b i j=>
  intro h f hs k l;have m:1+a.sz+b.sz<=99:=hs;have l:1+a.sz+b.sz<=k:=l;obtain⟨k,rfl⟩:∃j,k=j+1:=⟨k-1,⊥⟩;exact Lh k _ a b "and" Gy M6 rfl ⊥ ⊥ (i h.1 f.1 ⊥ k<|⊥) (j h.2 f.2 ⊥ k<|⊥)
 |or a b i j=>
  intro h f hs k l;have m:1+a.sz+b.sz<=99:=hs;have l:1+a.sz+b.sz<=k:=l;obtain⟨k,rfl⟩:∃j,k=j+1:=⟨k-1,⊥⟩;exact Lh k _ a b "or" IW NU rfl ⊥ ⊥ (i h.1 f.1 ⊥ k<|⊥) (j h.2 f.2 ⊥ k<|⊥)
theorem agQ(c:Cn):c.Tg->∀t∈c.XO,(∃g a b,t=.test g a b/\t.Tg)/\∃X Y,T c=X++(T t++Y):=by
 have br:∀(b:Bool)(c t:Cn),(∃X Y,T c=X++(T t++Y))->∃X Y,zA b (T c)=X++(T t++Y):=by
  rintro b c t ⟨X,Y,e⟩;unfold zA;split
  .exact⟨lS "("++X,Y++lS ")",by rw[e];simp⟩
  .exact⟨X,Y,e⟩
 have Lh:∀(P Q M:Ru)(t:Cn),((∃X Y,P=X++(T t++Y))\/∃X Y,Q=X++(T t++Y))->∃X Y,(M++P)++Q=X++(T t++Y):=by
  rintro P Q M t (⟨X,Y,e⟩|⟨X,Y,e⟩)
  .exact⟨M++X,Y++Q,by rw[e];simp⟩
  .exact⟨(M++P)++X,Y,by rw[e];simp⟩
 have f:∀(P Q:Ru)(w:Str)(t:Cn),((∃X Y,P=X++(T t++Y))\/∃X Y,Q=X++(T t++Y))->∃X Y,(((P++lS " ")++lS w)++lS " ")++Q=X++(T t++Y):=by
  rintro P Q w t (⟨X,Y,e⟩|⟨X,Y,e⟩)
  .exact⟨X,Y++(lS " "++(lS w++(lS " "++Q))),by rw[e];simp⟩
  .exact⟨(((P++lS " ")++lS w)++lS " ")++X,Y,by rw[e];simp⟩
 induction c with
 |test g a b=>intro h t d;rw[IF.mp d];exact⟨⟨g,a,b,rfl,h⟩,[],[],∅⟩
 |br c ih=>intro h t d;obtain⟨h1,h2⟩:=ih h t d;rw[nL];exact⟨h1,br _ _ _ h2⟩
 |not c ih=>
  intro h t d;obtain⟨h1,h2⟩:=ih h t d;obtain⟨X,Y,e⟩:=br (decide (c.lv<3)) _ _ h2;exact⟨h1,lS "not "++X,Y,by rw[Nq,e];simp⟩
 |and a b i j=>
  intro h t d;rw[NH];rcases BY.mp d with d|d
  .obtain⟨h1,h2⟩:=i h.1 t d;exact⟨h1,f _ _ _ _<|.inl<|br _ _ _ h2⟩
  .obtain⟨h1,h2⟩:=j h.2 t d;exact⟨h1,f _ _ _ _<|.inr<|br _ _ _ h2⟩
 |or a b i j=>
  intro h t d;rw[Uv];rcases BY.mp d with d|d
  .obtain⟨h1,h2⟩:=i h.1 t d;exact⟨h1,f _ _ _ _<|.inl<|br _ _ _ h2⟩
  .obtain⟨h1,h2⟩:=j h.2 t d;exact⟨h1,f _ _ _ _<|.inr<|br _ _ _ h2⟩
def E3{B:FS}(I:Sd->Prop)(P:D->Prop):∀(xs:Rx),(∀x∈xs,∀Y,I Y->(∃δ',B (Y.set i<|J x)=.ok (.nx δ')/\I δ')\/∃d,B (Y.set i<|J x)=.ok (.rt d)/\P d)->∀Y,I Y->(∃δ',cZ (.one i) B xs Y=.ok (.nx δ')/\I δ')\/∃d,cZ (.one i) B xs Y=.ok (.rt d)/\P d:=TB (fun _ Y hI=>.inl ⟨Y,rfl,hI⟩) fun x r i_ h Y hI=>by
  rcases h x ∅ Y hI with⟨δ1,e,h1⟩|⟨d,e,h1⟩
  .rw[gj e];exact i_ (fun y a=>h y<|ie _ a) δ1 h1
  .refine .inr ⟨d,?_,h1⟩;rw[sS];have e0:iY (.one i) x Y=.ok (Y.set i<|x):=rfl;rw[e0,am,Ja,e];rfl
abbrev pB:FS:=Rf (vk dn rfl) rfl
def aha{i j:Int}(a:-(2^62)<=i)(b:i<2^62)(c:-(2^62)<=j)(d:j<2^62):EE [.int i,.int j]=.ok (aW i (j-i).toNat):=SI ⟨a,b,c,d⟩
def ag8(L:Ru)(i:L.length<=90000)(p:Nat)(n:p<L.length):∃e:Nat,p<=e/\e<L.length/\i6 [.str<|aw L,.int (p:Int)]=.ok (.int (e:Int)):=by
 have l:=jo L i;have h:t9 (ak (ag 1)<|ak (aI cr<|ak (ag 0) aQ) aQ) [J<|.str<|aw L,J<|.int (p:Int),J<|.int 0,U]=.ok (aW (p:Int)<|L.length-p):=by
  unfold t9;rw[ac rfl (ac (lf rfl l) rfl),am];exact(aha ⊥ ⊥ ⊥<|⊥).trans (by rw[show((L.length:Int)-(p:Int)).toNat=L.length-p by lia])
 let I:Sd->Prop:=fun Y=>∃(d:Int)(o:Option D),Y=[J<|.str<|aw L,J<|.int (p:Int),J<|.int d,o]
 have m:∀x∈aW (p:Int) (L.length-p),∀Y,I Y->(∃δ',pB (Y.set 3<|J x)=.ok (.nx δ')/\I δ')\/∃d,pB (Y.set 3<|J x)=.ok (.rt d)/\(∃e:Nat,p<=e/\e<L.length/\d=.int (e:Int)):=by
  intro x hx Y ⟨d,o,e⟩;subst e;obtain⟨k,rfl,h1,h2⟩:=vI _ _ _ hx;obtain⟨j,rfl⟩:=Int.eq_ofNat_of_zero_le (show 0<=k by lia);have b:j<L.length:=⊥
  have ix:=qB L i j L[j]<|WT b;have t:∀(d:D)(y:Str),dC (aH jp (aH cR (ag 0)<|ag 3)<|vC<|.str y) [J<|.str<|aw L,J<|.int (p:Int),J d,J<|.int (j:Int)]=.ok (decide ((⟨#[L[j]]⟩:Str)=y)):=fun d y=>ao<|ae (ae rfl rfl ix) rfl jg;have c:∀(d:Int)(y:Str)(φ:FE)(f:Int->Int),(∀d:Int,φ [J<|.str<|aw L,J<|.int (p:Int),J<|.int d,J<|.int (j:Int)]=.ok (.int<|f d))->∃d',DA (dC<|aH jp (aH cR (ag 0)<|ag 3)<|vC<|.str y) (rZ 2 φ) ld [J<|.str<|aw L,J<|.int (p:Int),J<|.int d,J<|.int (j:Int)]=.ok (.nx [J<|.str<|aw L,J<|.int (p:Int),J<|.int d',J<|.int (j:Int)]):=fun d y φ f a=>by
   cases hb:decide ((⟨#[L[j]]⟩:Str)=y)with
   |true=>exact⟨f d,(a8<|(t _ y).trans<|by rw[hb]).trans<|au<|a d⟩
   |false=>exact⟨d,(j0<|(t _ y).trans<|by rw[hb]).trans rfl⟩
  obtain⟨d1,e1⟩:=c d "(" (aH eZ (ag 2)<|vC<|.int 1) (fun d=>d+1) fun d=>ir rfl rfl;obtain⟨d2,e2⟩:=c d1 ")" (aH zI (ag 2)<|vC<|.int 1) (fun d=>d-1) fun d=>sC rfl rfl;have z:dC (aH jp (ag 2)<|vC<|.int 0) [J<|.str<|aw L,J<|.int (p:Int),J<|.int d2,J<|.int (j:Int)]=.ok (decide (d2=0)):=sV rfl rfl;by_cases g:d2=0
  .exact .inr ⟨_,aJ e1<|aJ e2<|(a8<|z.trans<|by rw[Th g]).trans<|ar rfl,j,⊥,b,rfl⟩
  .exact .inl ⟨_,aJ e1<|aJ e2<|(j0<|z.trans<|by rw[TU g]).trans rfl,d2,_,rfl⟩
 rcases E3 I _ _ m [J<|.str<|aw L,J<|.int p,J<|.int 0,U] ⟨0,U,rfl⟩with⟨δ',e,d,o,hδ⟩|⟨d,e,j,h1,h2,rfl⟩
 .subst hδ;exact⟨p,mK _,n,aq<|aJ rfl (aJ (kU h e) rfl)⟩
 .exact⟨j,h1,h2,aq<|(bu rfl).trans<|aS<|M2 h e⟩
def d5(j:Nat)(x:Str):fh j<|.str x:=by cases j<;>trivial
def Tq(j:Nat):fh j .S9:=by cases j<;>trivial
def ah8(j:Nat)(i:Int):fh j<|.int i:=by cases j<;>trivial
theorem R1(a:TY)(j:Nat):fh (j+1) a.d:=by
 cases a with
 |col x y=>intro d hd;simp at hd;rcases hd with rfl|rfl|rfl<;>exact d5 _ _
 |S9=>intro d hd;simp at hd;rcases hd with rfl|rfl;exact d5 _ _;exact Tq _
 |int i=>intro d hd;simp at hd;rcases hd with rfl|rfl;exact d5 _ _;exact ah8 _ _
theorem aiv(c:Cn):∀k,c.sz+1<=k->fh k c.d:=by
 induction c with
 |br c ih=>intro k e;have e:1+c.sz+1<=k:=e;exact ih k ⊥
 |test g a b=>
  intro k e;have e:1+1<=k:=e;obtain⟨j,rfl⟩:∃j,k=j+2:=⟨k-2,⊥⟩;intro d hd;simp at hd;rcases hd with rfl|rfl|rfl|rfl;exact d5 _ _;exact d5 _ _;exact R1 a _;exact R1 b _
 |not c ih=>
  intro k e;have e:1+c.sz+1<=k:=e;obtain⟨j,rfl⟩:∃j,k=j+1:=⟨k-1,⊥⟩;intro d hd;simp at hd;rcases hd with rfl|rfl;exact d5 _ _;exact ih j ⊥
 |and a b i j=>
  intro k e;have e:1+a.sz+b.sz+1<=k:=e;obtain⟨n,rfl⟩:∃j,k=j+1:=⟨k-1,⊥⟩;intro d hd;simp at hd;rcases hd with rfl|rfl|rfl;exact d5 _ _;exact i n ⊥;exact j n ⊥
 |or a b i j=>
  intro k e;have e:1+a.sz+b.sz+1<=k:=e;obtain⟨n,rfl⟩:∃j,k=j+1:=⟨k-1,⊥⟩;intro d hd;simp at hd;rcases hd with rfl|rfl|rfl;exact d5 _ _;exact i n ⊥;exact j n ⊥
theorem Vb(a:TY):Uc a.d:=by
 cases a with
 |col x y=>exact bb fun d hd=>by simp at hd;rcases hd with rfl|rfl|rfl<;>exact .str _
 |S9=>exact bb fun d hd=>by simp at hd;rcases hd with rfl|rfl;exact .str _;exact .S9
 |int i=>exact bb fun d hd=>by simp at hd;rcases hd with rfl|rfl;exact .str _;exact .int _
def ahG(c:Cn):Uc<|i8 c.d:=bb fun d hd=>by
 simp at hd;rcases hd with rfl|rfl|rfl|rfl|rfl|rfl
 .exact .str _
 .exact bb fun d hd=>by simp at hd;subst hd;exact bb fun d hd=>by simp at hd;subst hd;exact .str _
 .exact (by
     induction c with
     |br c ih=>exact ih
     |test g a b=>exact bb fun d hd=>by simp at hd;rcases hd with rfl|rfl|rfl|rfl;exact .str _;exact .str _;exact Vb a;exact Vb b
     |not c ih=>exact bb fun d hd=>by simp at hd;rcases hd with rfl|rfl;exact .str _;exact ih
     |and a b i j=>exact bb fun d hd=>by simp at hd;rcases hd with rfl|rfl|rfl;exact .str _;exact i;exact j
     |or a b i j=>exact bb fun d hd=>by simp at hd;rcases hd with rfl|rfl|rfl;exact .str _;exact i;exact j)
 .exact bb fun d hd=>by simp at hd
 .exact bb fun d hd=>by simp at hd;subst hd;exact bb fun d hd=>by simp at hd;rcases hd with rfl|rfl|rfl<;>exact .str _
 .exact .S9
def Sa(c:Cn)(hs:c.sz<=90)(x:D)(a:Uc x):∃b,yZ [x,i8 c.d]=.ok (.bl b)/\(b=G↔x=i8 c.d):=agB 99 _ ((by
    intro d hd;simp at hd;rcases hd with rfl|rfl|rfl|rfl|rfl|rfl
    .exact d5 _ _
    .intro d hd;simp at hd;subst hd;intro d hd;simp at hd;subst hd;exact d5 _ _
    .exact aiv c 98 ⊥
    .intro d hd;simp at hd
    .intro d hd;simp at hd;subst hd;intro d hd;simp at hd;rcases hd with rfl|rfl|rfl<;>exact d5 _ _
    .exact Tq _)) x a
theorem age(c:Cn)(m:c.Pl)(hs:c.sz<=90)(L:Ru)(q:L.length<=900)(j:∀x∈L,x≠34/\x<16^8)(h:Tp L<c.nd):∃d,Wr kx [.str<|aw<|Xv L]=.ok d/\yZ [d,i8 c.d]=.ok (.bl η):=by
 have o:(lS "from ta where ").length=14:=⊤
 have p:(lS " show ta.b").length=10:=⊤
 have k1:Tp (lS "from ta where ")=0:=⊤
 have k2:Tp (lS " show ta.b")=0:=⊤
 have f:∀x∈lS "from ta where ",x≠34/\x<16^8:=⊤
 have g:∀x∈lS " show ta.b",x≠34/\x<16^8:=⊤
 have i:Tp (Xv L)=Tp L:=by unfold Xv;rw[b0,b0,k1,k2];lia
 obtain⟨ts,tk,hlp⟩:=agI (Xv L) (by unfold Xv;simp only[LX];lia) (fun x a=>by
  unfold Xv at a;rcases BY.mp a with a|a
  .rcases BY.mp a with a|a
   .exact f x a
   .exact j x a
  .exact g x a)
 have e:=A0 tk;have fin:∀d,Uc d->d≠i8 c.d->yZ [d,i8 c.d]=.ok (.bl η):=fun d hd k=>by
  obtain⟨b,e,hb⟩:=Sa c hs d hd;cases b with
  |false=>exact e
  |true=>exact absurd (hb.mp rfl) k
 cases hq:qP ⟨ts,0,0⟩with
 |er s=>
  rw[hq]at e;exact⟨.S9,e,fin _ .S9<|by simp[i8]⟩
 |ok d s=>
  rw[hq]at e;refine⟨d,e,fin d (aj2 (s:=⟨ts,0,0⟩) (fun w hw=>ais tk.c w hw) hq) fun z=>?_⟩;obtain⟨ss,cd,os,cs,tk',ed,hcd⟩:=q_i hq
  have:cd=c.d:=by
   rw[ed]at z;unfold i8 at z;injection z with z
   injection z with _ z
   injection z with _ z
   injection z
  rcases hcd with rfl|⟨n,l,h1,h2⟩
  .have h0:∀c:Cn,D.S9≠c.d:=fun c=>by induction c with|br c ih=>exact ih|_=>simp[Cn.d]
   exact h0 c this
  .rw[this]at h1;obtain⟨rfl,_⟩:=z0 c m n l h1
   grind
abbrev Vo(s:D)(c:Cn)(p:Int)(e f h g b a Sv:Option D):Sd:=[J s,J c.d,J<|.str<|aw<|T c,J<|i8 c.d,J<|.int p,e,f,h,g,b,a,Sv]
abbrev jR(φ:FE):FT:=lP<|aI yZ<|ak (aI (Wr kx)<|ak (aH eZ (aH eZ (vC<|.str "from ta where ") φ)<|vC<|.str " show ta.b") aQ)<|ak (ag 3) aQ
def U5{φ:FE}{Y:Sd}{L:Ru}{d e:D}{b:Bool}(a:φ Y=.ok (.str<|aw L))(c:ag 3 Y=.ok e)(i:L.length<=90000)(f:Wr kx [.str<|aw<|Xv L]=.ok d)(hs:yZ [d,e]=.ok (.bl b)):jR φ Y=.ok b:=by
 have g:(lE "from ta where ").cps.toList.length=14:=⊤
 have h:(lE " show ta.b").cps.toList.length=10:=⊤
 exact eV (af (ac (af (ac (fW (fW d6 a<|⊥) d6<|by grind) rfl) f)<|ac c rfl) hs) rfl
structure eT(c:Cn):Prop where
 f:c.Tg
 p:c.Pl
 s:c.sz<=40
 t:c.b6<=8
 o:c.b4<=19
theorem eT.len{c:Cn}(h:eT c):(T c).length<=600:=by
 have:=u9 h.f
 have:=h.t
 have:=h.o
 lia
def eT.fX{c:Cn}(h:eT c):yZ [i8 c.d,i8 c.d]=.ok (.bl G):=by
 obtain⟨b,e,hb⟩:=Sa c (by have:=h.s;lia) _<|ahG c;rw[hb.mpr rfl]at e;exact e
def eT.good{c a:Cn}(h:eT c)(e:a.Tg)(hd:a.d=c.d)(i:a.b6=c.b6)(f:a.b4<=20){φ:FE}{Y:Sd}(b:φ Y=.ok (.str<|aw<|T a))(g:ag 3 Y=.ok (i8 c.d)):jR φ Y=.ok G:=by
 have:=h.t
 have j:=u9 e;refine U5 b g ⊥ (ah2 a e ⊥ f) ?_;rw[hd];exact h.fX
def if_not{τ:FT}{Y:Sd}(h:τ Y=.ok G):DA (qN τ) (pX<|vC<|.bl η) ld Y=.ok (.nx Y):=(j0<|Fz h).trans rfl
abbrev ZJ:FS:=DA (qN<|jR<|DB K3 (ag 1) (vC<|.int 1)<|ag 5) (pX<|vC<|.bl η) ld
def Vt{c:Cn}(h:eT c)(s:D)(p k:Int)(g j i b a Sv:Option D):ZJ (Vo s c p (J<|.int k) g j i b a Sv)=.ok (.nx<|Vo s c p (J<|.int k) g j i b a Sv):=by
 refine Xl (Ux c h.f h.p 1 k ∎) fun a1 a2 a3 a4=>?_;have e:=agX c h.f h.p (by have:=h.s;lia) 100 (by have:=h.s;lia) 1 k ∎;have l:XH c 1 k=T (mo c 1 k).1:=by unfold XH zA;rw[DV];rfl
 rw[l]at e;refine if_not<|h.good a1 a2 a3 ?_ ?_ rfl
 .have u2:Uj c 1=0:=by unfold Uj;rw[DV];rfl
  have m:Wp k<=1:=by unfold Wp;split<;>lia
  have:=h.o
  lia
 .show(match cw 100 [c.d,J<|.int 1,U] [.lst [.int k]]with|.ok d _=>R.ok d|_=>.no)=_
  rw[e]
def agO(W:Ru)(a b:Nat)(e:a<=W.length)(c:b<=W.length)(d:W.length<=100000):xo (.str<|aw W) (J (a:Int)) (J (b:Int))=.ok (.str<|aw<|(W.drop a).take<|b-a):=by
 unfold xo;simp only;rw[bM,SI<|⊥];congr 2;unfold rY;refine mk_eq ?_;rw[az,bM];have e1:HT.T5 W.length 0 ((a:Int))=a:=by rw[HT.rG];lia
 have e2:HT.T5 W.length W.length ((b:Int))=b:=by rw[HT.rG];lia
 rw[e1,e2]
def T1(W:Ru)(b:Nat)(a:b<=W.length)(c:W.length<=100000):xo (.str<|aw W) U (J (b:Int))=.ok (.str<|aw<|W.take b):=by
 unfold xo;simp only;rw[bM,SI<|⊥];congr 2;unfold rY;refine mk_eq ?_;rw[az,bM];have e1:HT.T5 W.length 0 U=0:=rfl;have e2:HT.T5 W.length W.length ((b:Int))=b:=by rw[HT.rG];lia
 rw[e1,e2];simp
abbrev ZP:FS:=DA (dC<|aH jp (aH cR (ag 2)<|ag 6)<|vC<|.str "(") (nh (rZ 7<|aI i6<|ak (ag 2)<|ak (ag 6) aQ)<|nh (rZ 8<|aH eZ (aH eZ (Jm xo (ag 2) Hh<|gI<|if η=G then vX else ag 6)<|Jm xo (ag 2) (gI<|aH eZ (ag 6)<|vC<|.int 1)<|gI<|if G=G then ag 7 else aH eZ (ag 6) (vC<|.int 1))<|Jm xo (ag 2) (gI<|aH eZ (ag 7)<|vC<|.int 1) Hh)<|DA (jR<|ag 8) (pX<|vC<|.bl η) ld) ld
def agl(L:Ru)(p e:Nat)(a:p<L.length)(h:L[p]=40)(b:p<=e):Tp ((L.take p++(L.drop<|p+1).take (e-(p+1)))++L.drop (e+1))<Tp L:=by
 have e0:L=L.take p++40::L.drop (p+1):=by
  conv=>lhs;rw[<-List.take_append_drop p L,g5 a,h]
 have e1:L.drop (e+1)=(L.drop<|p+1).drop (e-p):=by rw[sL];congr 1;lia
 have e2:Tp ((L.drop<|p+1).drop<|e-p)<=Tp ((L.drop<|p+1).drop<|e-(p+1)):=by
  refine List.Sublist.countP_le ?_;generalize L.drop (p+1)=M
  have:M.drop (e-p)=(M.drop<|e-(p+1)).drop (e-p-(e-(p+1))):=by rw[sL];congr 1;lia
  rw[this];exact List.drop_sublist _ _
 have e3:Tp (L.drop<|p+1)=Tp ((L.drop<|p+1).take<|e-(p+1))+Tp ((L.drop<|p+1).drop<|e-(p+1)):=by
  conv=>lhs;rw[<-List.take_append_drop (e-(p+1)) (L.drop<|p+1)]
  exact b0 _ _
 have e4:Tp L=Tp (L.take p)+(1+Tp (L.drop<|p+1)):=by
  unfold Tp
  grind
 rw[b0,b0,e1];lia
theorem ai7{c:Cn}(h:eT c)(s:D)(p:Int)(j:Nat)(g:j<(T c).length)(m n l b a Sv:Option D):∃q7 q8,ZP (Vo s c p m (J<|.int (j:Int)) n l b a Sv)=.ok (.nx<|Vo s c p m (J<|.int (j:Int)) q7 q8 b a Sv):=by
 have v:=h.len;have ix:=qB (T c) ⊥ j (T c)[j]<|WT g;have t:dC (aH jp (aH cR (ag 2)<|ag 6)<|vC<|.str "(") (Vo s c p m (J<|.int (j:Int)) n l b a Sv)=.ok (decide ((⟨#[(T c)[j]]⟩:Str)="(")):=ao<|ae (ae rfl rfl ix) rfl jg;cases hb:decide ((⟨#[(T c)[j]]⟩:Str)="(")with
 |false=>exact⟨n,l,(j0<|t.trans<|by rw[hb]).trans rfl⟩
 |true=>
  have i:(T c)[j]=40:=by
   have:=WI hb
   have:=UN (fun z:Str=>z.cps.toList) this
   have w:lS "("=[40]:=⊤
   have z:[(T c)[j]]=lS "(":=this;rw[w]at z;injection z
  refine gL (ag8 (T c) ⊥ j g) fun e h1 h2 ep=>?_;refine⟨J<|.int (e:Int),J<|.str<|aw<|((T c).take j++((T c).drop<|j+1).take (e-(j+1)))++(T c).drop (e+1),(a8<|t.trans<|by rw[hb]).trans ?_⟩;refine aJ (au<|af (ac rfl #[29]) ep) ?_;have k:=agl (T c) j e g i h1;have q:=T1 (T c) j ⊥ ⊥;have o:=agO (T c) (j+1) e ⊥ ⊥ ⊥;have r:=SD (T c) (e+1) ⊥ ⊥;obtain⟨d,r1,r2⟩:=age c h.p (by have:=h.s;lia) (((T c).take j++((T c).drop<|j+1).take (e-(j+1)))++(T c).drop (e+1)) (by grind) (fun x u=>agK h.f x (by
   grind)) (by rw[<-W3 h.f h.p];exact k)
  refine aJ (au<|fW (fW (q) (o) ?_) (r) ?_) ?_
  .grind
  .grind
  .exact(j0<|U5 rfl rfl (by grind) r1 r2).trans rfl
abbrev g1:FT:=mQ (dC<|aH zF (aH eZ (ag 10)<|aI cr<|ak (ag 9) aQ)<|aI cr<|ak (ag 2) aQ)<|dC<|aH mI (aH cR (ag 2)<|aH eZ (ag 10)<|aI cr<|ak (ag 9) aQ)<|vC<|.str " )"
abbrev g2:FT:=mQ (dC<|aH Ed (ag 10)<|vC<|.int 0)<|dC<|aH mI (aH cR (ag 2)<|aH zI (ag 10)<|vC<|.int 1)<|vC<|.str " ("
abbrev ZS:FS:=nh (rZ 10<|DN (Ly fun x y=>D.int<|Dx x y) (ag 2)<|ak (ag 9) aQ)<|nh (rZ 11<|aH eZ (aH eZ (aH eZ (aH eZ (Jm xo (ag 2) Hh<|gI<|if η=G then vX else ag 10)<|vC<|.str "(")<|ag 9)<|vC<|.str ")")<|Jm xo (ag 2) (gI<|aH eZ (ag 10)<|aI cr<|ak (ag 9) aQ) Hh)<|nh (DA g1 (rZ 11<|ag 2) ld)<|nh (DA g2 (rZ 11<|ag 2) ld)<|DA (qN<|jR<|ag 11) (pX<|vC<|.bl η) ld
theorem z4(x:Str)(c:Nat):mI (.str ⟨#[c]⟩) (.str x)=.ok (.bl<|!decide (c∈x.cps.toList)):=by
 have:=ub x c
 unfold rE at this;unfold mI;rw[show(⟨#[c]⟩:Str)=aw [c]from rfl];revert this
 cases Ue (.str<|aw [c]) (.str x)with
 |none=>intro e;exact nomatch e
 |some b=>
  intro e;injection e with e
  injection e with e
  subst e;rfl
def Bu{τ υ:FT}{Y:Sd}(h:τ Y=.ok η):mQ τ υ Y=.ok η:=by rw[yr,h];rfl
def kW{τ υ:FT}{Y:Sd}{b:Bool}(h:τ Y=.ok G)(h2:υ Y=.ok b):mQ τ υ Y=.ok b:=by rw[yr,h];exact h2
theorem ahN(A P B L:Ru)(e:L=A++(P++B))(i:L.length<=90000)(s d fX p l j m k Sv:Option D):∃b,g1 [s,d,J<|.str<|aw L,fX,p,l,j,m,k,J<|.str<|aw P,J<|.int (A.length:Int),Sv]=.ok b/\(b=η↔qa B):=by
 have g:=jo L i;have o:P.length<=90000:=by rw[e]at i;simp only[LX]at i;lia
 have f:=jo P o;have a:L.length=A.length+(P.length+B.length):=by rw[e];simp only[LX]
 have n:dC (aH zF (aH eZ (ag 10)<|aI cr<|ak (ag 9) aQ)<|aI cr<|ak (ag 2) aQ) [s,d,J<|.str<|aw L,fX,p,l,j,m,k,J<|.str<|aw P,J<|.int (A.length:Int),Sv]=.ok (decide ((A.length:Int)+P.length<L.length)):=ao<|ae (ir rfl (lf rfl f)) (lf rfl g) rfl;cases B with
 |nil=>exact⟨η,Bu<|n.trans<|by rw[TU<|by rw[a];simp],⟨fun _=>.inl rfl,fun _=>rfl⟩⟩
 |cons c r=>
  have ix:=qB L i (A.length+P.length) c (by rw[e,<-Vw,nN<|∅];simp);have w:(" )":Str).cps.toList=[32,41]:=⊤
  refine⟨_,kW (n.trans<|by rw[Th<|by rw[a];simp;lia])<|ao<|ae (ae rfl (ir rfl (lf rfl f)) ix) rfl (z4 _ _),?_⟩;rw[w];constructor
  .intro h;simp at h;exact .inr ⟨c,r,rfl,by by_cases q:c=32;exact .inl q;exact .inr (h q)⟩
  .rintro(h|⟨c',r',h,hc⟩)
   .nofun
   .nofun;simp[hc]
def ahO(A P B L:Ru)(e:L=A++(P++B))(l:L.length<=90000)(s d fX p g a i f Sv:Option D):∃b,g2 [s,d,J<|.str<|aw L,fX,p,g,a,i,f,J<|.str<|aw P,J<|.int (A.length:Int),Sv]=.ok b/\(b=η↔Wx A):=by
 have j:dC (aH Ed (ag 10)<|vC<|.int 0) [s,d,J<|.str<|aw L,fX,p,g,a,i,f,J<|.str<|aw P,J<|.int (A.length:Int),Sv]=.ok (decide ((0:Int)<A.length)):=ao<|ae rfl rfl rfl;by_cases ala:A=[]
 .subst ala;exact⟨η,Bu j,⟨fun _=>.inl rfl,fun _=>rfl⟩⟩
 .obtain⟨r,c,rfl⟩:∃r c,A=r++[c]:=⟨A.dropLast,A.getLast ala,(k8 ala).symm⟩;have ix:=qB L l r.length c (by rw[e,Vw,nN<|∅];simp);have w:(" (":Str).cps.toList=[32,40]:=⊤
  have k:(((r++[c]).length:Nat):Int)-1=(r.length:Int):=∅
  refine⟨_,kW (j.trans<|by rw[Th<|∅])<|ao<|ae (ae rfl (sC rfl rfl) (by rw[k];exact ix)) rfl (z4 _ _),?_⟩;rw[w];constructor
  .intro h;simp at h;exact .inr ⟨r,c,rfl,by by_cases q:c=32;exact .inl q;exact .inr (h q)⟩
  .rintro(h|⟨r',c',h,hc⟩)
   .simp at h
   .obtain⟨_,h⟩:=List.append_inj' h rfl;injection h with h
    subst h;simp[hc]
theorem ai8{c:Cn}(h:eT c)(s:D)(p:Int)(P:Ru)(E:∃X Y,T c=X++(P++Y))(K:∀A B,T c=A++(P++B)->Wx A->qa B->∃c',T c'=A++(40::(P++(41::B)))/\c'.Tg/\c'.d=c.d/\c'.b6=c.b6/\c'.b4=c.b4+1)(j g k i v Sv:Option D):
  ∃q10 q11,ZS (Vo s c p j g k i (J<|.str<|aw P) v Sv)=.ok (.nx<|Vo s c p j g k i (J<|.str<|aw P) q10 q11):=by
 have M:=h.len;obtain⟨X,Y,e0⟩:=E;obtain⟨A,B,e1,ef⟩:=ahL X P Y;rw[<-e0]at ef;have e:T c=A++(P++B):=e0.trans e1;have F:(T c).length=A.length+(P.length+B.length):=by rw[e];simp only[LX]
 have t:(lE "(").cps.toList=[40]:=⊤
 have C:(lE ")").cps.toList=[41]:=⊤
 have w:=jo P ⊥;obtain⟨b1,hb1,k1⟩:=ahN A P B (T c) e ⊥ (J s) (J c.d) (J<|i8 c.d) (J<|.int p) j g k i<|J<|.str<|aw<|A++(40::(P++(41::B)));have r:=ahO A P B (T c) e ⊥ (J s) (J c.d) (J<|i8 c.d) (J<|.int p) j g k i;have m:rZ 10 (DN (Ly fun x y=>D.int<|Dx x y) (ag 2)<|ak (ag 9) aQ) (Vo s c p j g k i (J<|.str<|aw P) v Sv)=.ok (.nx<|Vo s c p j g k i (J<|.str<|aw P) (J<|.int (A.length:Int)) Sv):=au<|Ny rfl #[29] (by show R.ok (D.int<|Dx _ _)=_;rw[ef]);have c1:=T1 (T c) A.length ⊥ ⊥;have c2:=SD (T c) (A.length+P.length) ⊥ ⊥;have I:(T c).take A.length=A:=by rw[e];simp
 have H:(T c).drop (A.length+P.length)=B:=by rw[e,<-Vw];rw[show A.length+P.length=(A++P).length by simp];simp
 rw[I]at c1;rw[H]at c2;have n:rZ 11 (aH eZ (aH eZ (aH eZ (aH eZ (Jm xo (ag 2) Hh<|gI<|if η=G then vX else ag 10)<|vC<|.str "(")<|ag 9)<|vC<|.str ")")<|Jm xo (ag 2) (gI<|aH eZ (ag 10)<|aI cr<|ak (ag 9) aQ) Hh) (Vo s c p j g k i (J<|.str<|aw P) (J<|.int (A.length:Int)) Sv)=.ok (.nx<|Vo s c p j g k i (J<|.str<|aw P) (J<|.int (A.length:Int))<|J<|.str<|aw<|A++(40::(P++(41::B)))):=by
  have:=fW (fW (fW (fW (T6 (φ:=ag 2) (l:=Hh) (Y:=Vo s c p j g k i (J<|.str<|aw P) (J<|.int (A.length:Int)) Sv) rfl rfl (C4 (φ:=ag 10) rfl) c1) (d6 (z:="("))<|by rw[t];simp;lia) (ψ:=ag 9) (b:=P) rfl (by rw[t];simp;lia)) (d6 (z:=")"))<|by rw[t,C];simp;lia) (T6 (φ:=ag 2) rfl (C4<|ir (φ:=ag 10) rfl (lf (φ:=ag 9) rfl w)) (u:=Hh) rfl c2) (by rw[t,C];simp;lia)
  rw[t,C]at this;exact(au this).trans ∅
 have fin:∀q:Ru,(∃c',T c'=q/\c'.Tg/\c'.d=c.d/\c'.b6=c.b6/\c'.b4<=20)->DA (qN<|jR<|ag 11) (pX<|vC<|.bl η) ld (Vo s c p j g k i (J<|.str<|aw P) (J<|.int (A.length:Int))<|J<|.str<|aw q)=.ok (.nx<|Vo s c p j g k i (J<|.str<|aw P) (J<|.int (A.length:Int))<|J<|.str<|aw q):=by
  intro q q0_;refine gS q0_ fun c' r0_ a1 a2 a3 a4=>?_;subst r0_;exact if_not<|h.good a1 a2 a3 a4 rfl rfl
 have self:∃c',T c'=T c/\c'.Tg/\c'.d=c.d/\c'.b6=c.b6/\c'.b4<=20:=⟨c,rfl,h.f,rfl,rfl,by have:=h.o;lia⟩;have a:∀q:Ru,rZ 11 (ag 2) (Vo s c p j g k i (J<|.str<|aw P) (J<|.int (A.length:Int))<|J<|.str<|aw q)=.ok (.nx<|Vo s c p j g k i (J<|.str<|aw P) (J<|.int (A.length:Int))<|J<|.str<|aw<|T c):=fun q=>au rfl;obtain⟨b2,hb2,k2⟩:=r<|J<|.str<|aw<|A++(40::(P++(41::B)));obtain⟨b3,hb3,k3⟩:=r<|J<|.str<|aw<|T c;cases b1 with
 |true=>
  cases b3 with
  |true=>exact⟨_,_,aJ m<|aJ n<|aJ ((a8 hb1).trans<|a _)<|aJ ((a8 hb3).trans<|a _)<|fin _ self⟩
  |false=>exact⟨_,_,aJ m<|aJ n<|aJ ((a8 hb1).trans<|a _)<|aJ ((j0 hb3).trans rfl)<|fin _ self⟩
 |false=>
  cases b2 with
  |true=>exact⟨_,_,aJ m<|aJ n<|aJ ((j0 hb1).trans rfl)<|aJ ((a8 hb2).trans<|a _)<|fin _ self⟩
  |false=>
   obtain⟨c',a0,a1,a2,a3,a4⟩:=K A B e (k2.mp rfl)<|k1.mp rfl;exact⟨_,_,aJ m<|aJ n<|aJ ((j0 hb1).trans rfl)<|aJ ((j0 hb2).trans rfl)<|fin _ ⟨c',a0,a1,a2,a3,by have:=h.o;lia⟩⟩
def P7{τ υ:FT}{Y:Sd}(h:τ Y=.ok G):KF τ υ Y=.ok G:=by rw[Ss,h];rfl
def lR{τ υ:FT}{Y:Sd}{b:Bool}(h:τ Y=.ok η)(h2:υ Y=.ok b):KF τ υ Y=.ok b:=by rw[Ss,h];exact h2
abbrev Fx(s:D)(c:Cn)(p:Int)(Y:Sd):Prop:=∃o5 o6 o7 o8 o9q o10 Sv,Y=Vo s c p o5 o6 o7 o8 o9q o10 Sv
def EZ{B:FS}{i:Nat}(I:Sd->Prop)(xs:Rx)(h:∀x∈xs,∀Y,I Y->∃δ',B (Y.set i<|J x)=.ok (.nx δ')/\I δ')(Y:Sd)(a:I Y):∃δ',cZ (.one i) B xs Y=.ok (.nx δ')/\I δ':=by
 rcases E3 I (fun _=>False) xs (fun x b Y a=>.inl<|h x b Y a) Y a with h|⟨_,_,h⟩
 .exact h
 .mleft
def law_true(f:List Int):Cj [.lst<|f.map D.int]=.ok (.bl G):=by
 have l:=jD f 0 ∎;generalize cell f 0=v at l;have M:=dW v (show(7:Int)≠0 by decide);have I:=dA v (show(0:Int)<7 by decide);obtain⟨c,ec,hg,hs,ht⟩:=abu f (2+v%7) ⊥ ⊥;obtain⟨x,ex,x0,x1⟩:=qx v 3 ∎ ∎;have C:vd [c.d]=.ok (.str<|aw<|T c):=BF hg.1 hg.2 ⊥ 99 ⊥;refine aq (r:=yq [J<|.lst<|f.map D.int,U,U,U,U,U,U,U,U,U,U,U]) ?_;refine aJ (au<|af (ac rfl (ac rfl (ac (ir rfl (bf (af (ac rfl #[29]) l) rfl)) rfl))) ec) ?_;refine aJ (au<|af #[29] C) ?_;have s:dC (aH Ed (DN (Ly fun x y=>D.int<|ls x y) (ag 2)<|ak (vC<|.str "(") aQ)<|vC<|.int 12) [J<|.lst<|f.map D.int,J c.d,J<|.str<|aw<|T c,U,U,U,U,U,U,U,U,U]=.ok (decide (12<ls (aw<|T c) "(")):=ao<|ae (Ny rfl #[29] rfl) rfl vQ;have w:dC (aH Ed (DN (Ly fun x y=>D.int<|ls x y) (ag 2)<|ak (vC<|.str "not ") aQ)<|vC<|.int 7) [J<|.lst<|f.map D.int,J c.d,J<|.str<|aw<|T c,U,U,U,U,U,U,U,U,U]=.ok (decide (7<ls (aw<|T c) "not ")):=ao<|ae (Ny rfl #[29] rfl) rfl vQ;by_cases h1:12<ls (aw<|T c) "("
 .exact aS ((a8<|P7<|s.trans<|by rw[Th h1]).trans<|ar rfl)
 by_cases h2:7<ls (aw<|T c) "not "
 .exact aS ((a8<|lR (s.trans<|by rw[TU h1])<|w.trans<|by rw[Th h2]).trans<|ar rfl)
 refine(skip<|lR (s.trans<|by rw[TU h1])<|w.trans<|by rw[TU h2]).trans ?_;have q:(lE "(")=aw [40]:=⊤
 have hw:eT c:=⟨hg.1,hg.2,hs,ht,few hg.1 hg.2 (by rw[<-q];lia)<|⊥⟩;have u:K2 [c.d]=.ok (.int c.sz):=ajJ c hg.2 100 ⊥;have K:=c.pZ;refine aJ (au (Y:=[J<|.lst<|f.map D.int,J c.d,J<|.str<|aw<|T c,U,U,U,U,U,U,U,U,U]) (φ:=uD _) (d:=i8 c.d) rfl) ?_;refine aJ (au<|af (ac (af (ac rfl #[29]) l)<|ac rfl rfl) ex) ?_;obtain⟨δ1,f1,i1⟩:=EZ (B:=ZJ) (i:=5) (Fx (.lst<|f.map D.int) c x) [.int<|x%c.sz,.int<|x/100%c.sz] (fun y h Y m=>by
  obtain⟨o5,o6,o7,o8,o9q,o10,Sv,rfl⟩:=m;simp only[eQ,Vm,or_false]at h;rcases h with rfl|rfl
  .exact⟨_,Vt hw _ _ _ _ _ _ _ _ _,_,_,_,_,_,_,_,rfl⟩
  .exact⟨_,Vt hw _ _ _ _ _ _ _ _ _,_,_,_,_,_,_,_,rfl⟩) (Vo (.lst (f.map D.int)) c x U U U U U U U) ⟨_,_,_,_,_,_,_,rfl⟩
 refine aJ (kU (OY (mx<|ac (bf rfl (af #[29] u) ⊥)<|ac (bf (f6 rfl rfl) (af #[29] u)<|⊥) rfl) rfl) f1) ?_;obtain⟨o5,o6,o7,o8,o9q,o10,Sv,rfl⟩:=i1;have N:=hw.len;obtain⟨δ2,f2,i2⟩:=EZ (B:=ZP) (i:=6) (Fx (.lst<|f.map D.int) c x) (aW 0 ((T c).length:Int).toNat) (fun y h Y m=>by
  obtain⟨o5,o6,o7,o8,o9q,o10,Sv,rfl⟩:=m;obtain⟨k,rfl,h1,h2⟩:=vI _ _ _ h;obtain⟨j,rfl⟩:=Int.eq_ofNat_of_zero_le h1;obtain⟨q7,q8,e⟩:=ai7 hw (.lst (f.map D.int)) x j ⊥ o5 o7 o8 o9q o10 Sv;exact⟨_,e,_,_,_,_,_,_,_,rfl⟩) (Vo (.lst (f.map D.int)) c x o5 o6 o7 o8 o9q o10 Sv) ⟨_,_,_,_,_,_,_,rfl⟩
 refine aJ (kU (y9 (lf rfl (jo _<|⊥)) ⊥<|⊥) f2) ?_;obtain⟨o5,o6,o7,o8,o9q,o10,Sv,rfl⟩:=i2;have H:ez [c.d]=.ok (.lst<|c.XO.map ZK):=agR c hg.1 hg.2 ⊥ 100 ⊥;have z:=tj c;have p:∀t,t=c\/t∈c.XO->(∃X Y,T c=X++(T t++Y))/\∀A B,T c=A++(T t++B)->Wx A->qa B->∃c',T c'=A++(40::(T t++(41::B)))/\c'.Tg/\c'.d=c.d/\c'.b6=c.b6/\c'.b4=c.b4+1:=by
  rintro t (rfl|ht)
  .refine⟨⟨[],[],∅⟩,fun A B e _ _=>⟨.br t,?_,hg.1,rfl,rfl,?_⟩⟩
   .have:=UN vP e
    simp only[LX]at this;have ala:A=[]:=List.length_eq_zero_iff.mp ⊥;have n:B=[]:=List.length_eq_zero_iff.mp ⊥;rw[nL,ala,n];have E:lS "("=[40]:=⊤
    have F:lS ")"=[41]:=⊤
    show lS "("++T t++lS ")"=_;rw[E,F];simp
   .exact Nat.add_comm 1 _
  .obtain⟨⟨g,a,b,rfl,ht⟩,o⟩:=agQ c hg.1 t ht;exact⟨o,fun A B e ala n=>(by
      have m:=nP hg.1;rw[e,fc ala,u5 n,nP ht]at m;have l:wd c=mt [] A++S a::lS g::S b::mt [] B:=m.symm;refine yF (ins c hg.1 hg.2 _ _ _ _ _ l (Vi g ht.1).2) fun A' B' t c' i1 i2 i3 j=>?_;obtain⟨g',a',b',rfl,ft⟩:=i2.tt;have f:T (.test g' a' b')=T (.test g a b):=by
       rw[nP ft]at j;have j:[S a',lS g',S b']=[S a,lS g,S b]:=j;injection j with z1 z2
       injection z2 with z2 z3
       injection z3 with z3 _
       rw[F5,F5];show(((S a'++_)++_)++_)++S b'=(((S a++_)++_)++_)++S b;rw[z1,z2,z3]
      have hd:∀Y,∃x r,T (.test g a b)++Y=x::r/\x≠32:=fun Y=>by
       obtain⟨n1,n2⟩:=a.chars ht.2.1;rw[F5];show ∃x r,((((S a++_)++_)++_)++S b)++Y=x::r/\x≠32;cases es:S a with
       |nil=>exact absurd es n1
       |cons x r=>exact⟨x,_,rfl,fun z=>(K1<|n2 x<|by rw[es];simp).1<|.inl z⟩
      have i:A=A':=by
       have e2:=e.symm.trans i1.e;rw[f]at e2;have sub:∀{P Q X Y:Ru},P++(T (.test g a b)++X)=Q++(T (.test g a b)++Y)->Wx P->Wx Q->mt [] P=mt [] Q->∀D,Q=P++D->D=[]:=fun{P Q X Y}e kp kq em D eDq=>by
        subst eDq;rw[fc kp]at em;have n:mt [] D=[]:=by simpa using em.symm
        have bl:=agw D n;rw[Vw]at e;have e:=List.append_cancel_left e;cases D with
        |nil=>rfl
        |cons x r=>
         obtain⟨y,s,ey,hy⟩:=hd X;rw[ey]at e;injection e with e _
         exact absurd (e.trans<|bl x<|∅) hy
       rcases List.append_eq_append_iff.mp e2 with⟨u,h1,h2⟩|⟨u,h1,h2⟩
       .have:=sub e2 ala i1.cl i3.symm u h1
        rw[this]at h1;rw[h1];simp
       .have:=sub e2.symm i1.cl ala i3 u h1
        rw[this]at h1;rw[h1];simp
      subst i;have o:B=B':=by
       have e2:=i1.e;mright
      subst o;exact⟨c',by rw[i1.e',f],i2.fi,i2.d,i2.te,i2.op⟩)⟩
 obtain⟨δ3,f3,i3⟩:=EZ (B:=ZS) (i:=9) (Fx (.lst<|f.map D.int) c x) ([ZK c]++c.XO.map ZK) (fun y h Y m=>by
  obtain⟨o5,o6,o7,o8,o9q,o10,Sv,rfl⟩:=m;obtain⟨t,rfl,ht⟩:∃t,y=ZK t/\(t=c\/t∈c.XO):=by
   rcases BY.mp h with h|h
   .exact⟨c,IF.mp h,.inl rfl⟩
   .obtain⟨t,ht,rfl⟩:=d9.mp h;exact⟨t,rfl,.inr ht⟩
  obtain⟨h1,h2⟩:=p t ht;obtain⟨q10,q11,e⟩:=ai8 hw (.lst (f.map D.int)) x (T t) h1 h2 o5 o6 o7 o8 o10 Sv;exact⟨_,e,_,_,_,_,_,_,_,rfl⟩) (Vo (.lst (f.map D.int)) c x o5 o6 o7 o8 o9q o10 Sv) ⟨_,_,_,_,_,_,_,rfl⟩
 have o:aH eZ (uw<|ak (ag 2) aQ) (aI ez<|ak (ag 1) aQ) (Vo (.lst<|f.map D.int) c x o5 o6 o7 o8 o9q o10 Sv)=.ok (.lst<|[ZK c]++c.XO.map ZK):=ae (mx<|ac rfl rfl) (af #[29] H) (by rw[Ua,SI<|by simp;lia]);refine aJ (kU (OY o ?_) f3) rfl;rfl
end T64
namespace T64
open PySem L2
noncomputable def acU(o:Obj):Bool:=match o with
 |⟨.none,U,.fields vs,_⟩=>vs.size==0
 |_=>η
noncomputable def K0(P:Params):aT:=(HD.K P).filter fun p=>!acU p.2
def afk{P:Params}{h:Heap}(X:(HD.K P).In h):(K0 P).In h:=fun b o e=>X b o<|Mi (by rw[show(HD.K P).map (·.1)=e6 503 from by ext];exact List.nodup_range) (dN.mp<|Ae e).1
def akD(P:Params):(((K0 P).filterMap<|g6<|K0 P).map fun x=>(HD.K P).lookup x.1)=((K0 P).filterMap<|g6<|K0 P).map fun _=>J<|ik #[]:=by ext
def la(m:nE)(q:Nat×Nat×Nat):Nat×SA×SA×nE:=(q.1,q.2.1+(HD.gb q.1).1-1,q.2.1+(HD.gb q.1).1-2,m)
def mp:nE:=.str "tablestore.piles" 239
def LA:Pl:=HD.r0.map (la HD.Wi)++(HD.r1.map (la HD.WB)++(HD.r2.map (la HD.WN)++(HD.r3.map (la HD.oa)++(HD.r4.map (la HD.W0)++[(1006,66,65,mp),(2006,73,72,mp),(3006,80,79,mp),(4006,87,86,mp),(5006,94,93,mp),(6006,101,100,mp),(7006,108,107,mp),(8006,115,114,mp),(1037,231,230,HD.oa),(2037,238,237,HD.oa),(3037,245,244,HD.oa)]))))
def qn(i:Nat):Str:=if i<1000 then Vk (tp i)else(if i%1000=6 then("Piles.":Str)else "Reader.")++Vk (tp i)
def ds:List Dq:=SK.flatMap Mz.ds
def e0:(ds.map fun q=>(Vk<|tp q.1.i,qn q.1.i))=ds.map fun q=>(q.1.x,q.2.1):=by ext
theorem e1(w:Sl):(ds.map fun q=>q.2.2.map<|DO (K0 w.params) mainGlobals)=ds.map fun q=>q.2.2.map fun _=>J<|J<|.ref<|fA LA q.1.i:=by ext
end T64
namespace T64
open PySem L2
def Nb{w:Sl}{K:aT}{h:Heap}{mg:Sq}(X:K.In h)(N:h.Ns mainGlobals mg){x:Str}{a:SA}{es:Array DictEntry}{n:Nat}{tab:List<|Str×D}(h1:DO K mainGlobals x=J (J<|.ref a))(h2:K.lookup a=J ⟨.type "dict",U,.dict es n,#[]⟩)(c:ue w.params es.toList)(b:(tab.map fun q=>(DO K a q.1).bind fun o=>o.bind<|L2.wJ K)=tab.map fun q=>J q.2):Hz w K mg x tab:=
 ⟨a,es,n,en X N h1,h2,c,fun y d e=>tab_of (tab:=tab) (P:=fun y d=>∃v u,DO K a y=J (J u)/\aP v u/\∀H,bQ K H d v) (fun q f=>by
  have e1:=Yj.mp b q f;obtain⟨o,h1,h2⟩:=bY.mp e1;obtain⟨u,c,b⟩:=bY.mp h2;obtain⟨v,h5,h6,_⟩:=HN b;exact⟨v,u,by rw[h1,c],h5,h6⟩) e⟩
def N2{K:aT}{h:Heap}{mg:Sq}(X:K.In h)(N:h.Ns mainGlobals mg){n:Str}{C:SA}(h1:DO K mainGlobals n=J #[14])(h2:ek K C Gj "ValueError.__new__"=G)(c:Cm K (.ref C) (.ref C)=J G):Qq K mg n:=
 ⟨C,en X N h1,h2,fun x D a b=>by
  have e:x=n:=by
   unfold JD at a;simpa using a
  subst e
  have:=b.symm.trans<|en X N h1
  cases this;exact⟨h1,c⟩⟩
def all_mk{l:y4}{w:Sl}{h:Heap}{mg:Sq}{g:SA}(X:(K0 w.params).In h)(N:h.Ns mainGlobals mg)(d:mg "law"=J (.ref g)):
  ∃fd:FuncData,(∀(s:ID)(v:nE),BindsTo s fd ⟨[v],[]⟩ [("_law_script",v)])/\∀base:Heap,(K0 w.params).In base->base.Ns mainGlobals mg->T8 l.prog w (K0 w.params) mg base lD 203 g fd vK.ps (rj (K0 w.params) mg Cj):=by
 have c:=QW (qn:=qn) X N (show SK.flatMap Mz.ds=ds from rfl) e0 (e1 w) ((by ext)) ((by ext)) (by ext) (by ext)<|(by ext);have b:Mz.pl vK (.pl yq)∈SK:=Do (i:=55) (by ext);have j:∃f fd,eB tp (K0 w.params) mg cU f fd:=⟨_,_,c (.pl cU<|.pl pq)<|Do (i:=0)<|by ext⟩;have e:=d.symm.trans<|(c _ b).m "law" Up;cases e;refine⟨fZ tp qn LA vK.i,fun s v=>.of_eq<|by rfl,fun base _ _=>?_⟩;have T:Txt w (K0 w.params) mg:=⟨Pe X N<|(by ext),afs X N<|(by ext),
  Nb X N (a:=52) (es:=#[HD.Sg w.params "(" 241<|.int 0 242,HD.Sg w.params "or" 243<|.int 1 244,HD.Sg w.params "and" 245<|.int 2 246,HD.Sg w.params "not" 247<|.int 3 248]) (n:=4) (by ext) (by ext) ⟨⟨_,_,rfl,rfl⟩,⟨⟨_,_,rfl,rfl⟩,⟨⟨_,_,rfl,rfl⟩,⟨⟨_,_,rfl,rfl⟩,Uy⟩⟩⟩⟩ (by ext),
  ⟨248,by ext,⟨by ext,by ext,by ext,by ext⟩,bG (by unfold a9;ext)<|bG (by unfold a9;ext)<|bG (by unfold a9;ext)<|bG (by unfold a9;ext) fun _ h=>(nomatch h)⟩,
  ⟨118,by ext,⟨by ext,by ext,by ext,by ext⟩,bG (by unfold a9;ext)<|bG (by unfold a9;ext) fun _ h=>(nomatch h)⟩,
  N2 X N (C:=37) (by ext) (by ext) (by ext),N2 X N (C:=49) (by ext) (by ext)<|by ext,
  fun q b=>by
   have e:(gT.map fun q=>(DO (K0 w.params) mainGlobals q.1,q.2))=gT.map fun q=>(J<|J<|.ref<|((DO (K0 w.params) mainGlobals q.1).bind fun o=>o.bind fun v=>match v with|.ref a=>J a|_=>U).getD 0,D.cls q.1):=by ext
   have:=Yj.mp e q b
   exact⟨_,en X N (eh this).1,(eh this).1,(eh this).2⟩,
  j⟩
 exact IU (fun Y k y=>Yu T y) (hU T) SK aC (⟨fun _ h=>(nomatch h),fun _ h=>(nomatch h),fun _ h=>(nomatch h),fun _ _ h=>(nomatch h),fun _ _ _ h=>(nomatch h)⟩) c (by
     unfold SK;repeat (first|((with_reducible refine afl ?_ ?_ ?_);ext;ext)|((with_reducible refine aaK ?_ ?_ ?_);ext;ext)|((with_reducible refine Z23 ?_ ?_ ?_ ?_);ext;ext;ext)|refine c40 (fun F=>by ext) (by ext) ?_|refine aix (fun F=>by ext) (by ext) ?_|refine afu (fun F SK=>by ext) (by ext) (fun F SK=>by ext) (by ext) rfl ?_)
     exact Uy) _ _ b
def walk{l:y4}{q:Tc}{loose:SH}{XP:(Sq)->Heap->Prop}{c:Sl->Heap->Prop}{d:DefRec}{K:Params->aT}(j:l.most=J 63)(e:d.params.defaults=[])
  (g:∀(w:Sl)(h:Heap),c w h->(K w.params).In h)
  (p:∀(w:Sl)(h:Heap),c w h->(((K w.params).filterMap<|g6<|K w.params).map (·.1)).Nodup/\∀x∈(K w.params).filterMap (g6<|K w.params),h.get? x.1=J (ik #[]))
  (F:∀(w:Sl)(mg:Sq)(b:SA)(h:Heap),(K w.params).In h->h.Ns mainGlobals mg->mg d.name=J (.ref b) ->
   ∃fd:FuncData,(∀(s:ID)(u:nE),BindsTo s fd ⟨[u],[]⟩ [("_law_script",u)])/\∀base:Heap,(K w.params).In base->base.Ns mainGlobals mg->T8 l.prog w (K w.params) mg base lD 203 b fd vK.ps (rj (K w.params) mg Cj)):
  PySem.W.WalkO q loose XP c l.row.toRowW d [] (fun f vs=>uK f vs):=
 L2.La (n:=63) (k:=203) (x:="_law_script") (CX:=fun _=>lD) (sp:=fun w=>Nl (K w.params) Cj) j ∎ e ⟨rfl,∎,∎⟩ g (fun w mg b h h1 h2 m=>(fun h => by
     obtain⟨fd,h1,h2⟩:=h;exact⟨fd,h1,fun base b a=>(h2 base b a).imp fun vs H Q E q=>q mg⟩)<|F w mg b h h1 h2 m) p (fun _ _ a o r i=>LQ i (law_true o) fun _=>rfl) fun _ _ _ _ _ z=>z
end T64
open PySem PySem.W PyProof.Rows
set_option maxRecDepth 100000 in
set_option maxHeartbeats 0 in
theorem PySem.Challenge.cw_tablestore_k64_brackets_needed_holds : PySem.Challenge.rw_tablestore_k64_brackets_needed.Holds := by
 refine HD.ajD<|L2.sdC (fun _=>by kernel_rfl) ?_;exact T64.walk (l:=PySem.Challenge.rw_tablestore_k64_brackets_needed) (K:=T64.K0) rfl (by kernel_rfl) (fun w h Y=>T64.afk Y) (fun w h Y=>⟨L2.acb<|(by kernel_rfl),fun x hx=>Y _ _<|Yj.mp (T64.akD w.params) x hx⟩) fun w mg fa h KX SK hmg=>T64.all_mk KX SK hmg
