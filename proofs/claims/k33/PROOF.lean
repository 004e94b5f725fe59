import PyProof.Rows.All
import Wide.All
import OpenK.AllK
import Wide.FinOn
import Lean
import PyProof.EqAt
import PyProof.EqKinds
import PyProof.TupleCall
import PyProof.ZipIter
import PyProof.Draws
import PyProof.EnumMake
import PyProof.Rows.SetFrom
import KE.KIntText
import KE.IntTextLaws
import KE.KSortTup
import PyProof.StrLawsChain
import PyProof.StrCalls6
import PyProof.ExcAttrAll.ValueError
import PySem.Challenge.RW_tablestore_k33_sound_or_not
set_option maxHeartbeats 4000000
set_option maxRecDepth 100000
set_option linter.all false
set_option compiler.extract_closed false
open Array renaming length_toList->Ww,getElem?_toList->XM,perm_iff_toList_perm->XT,toList_inj->X4,toList_map->ZF,find?_toList->aau,mk->aaA,size_append->aaL
open Array.Perm renaming refl->abc
open Bool renaming false_ne_true->lT,and_eq_true->V4,and_eq_true_iff->Xu,eq_iff_iff->Xw,false_eq_true->XH,true_and->Zv,and_eq_false_iff->ZT
open False renaming elim->WW
open ForInStep renaming yield->YQ
open Int renaming toNat_natCast->V1,emod_nonneg->Yh,emod_lt_of_pos->Yi,toNat_of_nonneg->YT
open List renaming length_map->iN,mem_cons_of_mem->mK,mem_cons->nE,size_toArray->tx,map_cons->By,getElem?_eq_getElem->BY,mem_append->MK,mem_cons_self->OR,mem_append_right->VG,mem_singleton->VM,not_mem_nil->VQ,length_append->VU,getElem?_eq_some_iff->VX,getElem?_map->V0,length_cons->V3,of_mem_zip->V5,map_map->V9,mem_map->Wa,mem_append_left->Wc,nodup_cons->Wm,zip_cons_cons->Wp,take_succ_eq_append_getElem->Wu,map_append->Wx,all_cons->Wz,append_nil->WC,all_eq_true->WD,map_congr_left->WI,length_range->WM,nodup_nil->WQ,lookup_cons->WY,take_of_length_le->W0,range->W1,length_singleton->W9,find?_cons->Xa,length_zip->Xb,length_take->Xc,lookup->Xg,getD_eq_getElem?_getD->Xm,getElem_mem->Xn,mem_of_getElem?->Xs,pairwise_map->Xz,mergeSort_perm->XE,mem_filter->XI,mem_iff_getElem->XU,forall_mem_cons->XW,replicate->XY,getElem?_append_left->XZ,length_drop->X2,take_length->X3,getElem?_cons_zero->Ye,pairwise_singleton->Yg,length_eq_one_iff->Yo,drop_eq_nil_of_le->Yq,flatten_cons->Yt,nodup_append->Yu,all_eq_false->Yv,map_nil->YB,pairwise_append->YH,any_cons->YI,map_drop->YJ,filterMap_cons->YL,length_nil->YN,forIn_cons->YO,filter_sublist->YR,getElem?_append_right->Y1,nodup_iff_pairwise_ne->Y5,map_id'->Y8,drop_eq_getElem_cons->Zc,pairwise_iff_getElem->Zd,take_sublist->Zj,getElem?_replicate->Zr,getElem?_cons_succ->Zs,pairwise_mergeSort->Zu,map_take->Zx,set->Zy,range'_succ->ZE,getElem_zip->ZG,getElem?_set_self->ZH,getElem?_eq_none->ZN,pairwise_flatten->ZS,getElem?_set_ne->Z2,mem_of_mem_drop->Z5,mem_of_mem_take->Z6,mem_range->Z7,take_zero->Z9,drop_zero->aaa,lt_irrefl->aab,length->aaj,length_zipWith->aak,mem_filterMap->aat,pairwise_cons->aay,map_singleton->aaz,any_eq_false->aaE,append_assoc->aaJ,range'->aa9,map_id->abg
open List.Pairwise renaming nil->Ys
open List.Perm renaming eq_of_pairwise->Zn
open List.cons renaming inj->Zt,injEq->abf
open Nat renaming le_refl->oR,le_trans->RW,lt_of_lt_of_le->VE,ne_of_lt->VI,zero_le->VY,le_succ_of_le->Xv,lt_succ_of_lt->Xy,lt_irrefl->XD,lt_succ_self->XG,min_eq_left->XJ,lt_of_succ_lt_succ->Yp,sub_le_sub_right->YF,div_le_div_right->YG,le_succ->YM,ne_of_gt->Y6,le_add_right->ZD,zero_add->ZL,lt_or_ge->ZM,add_mul_div_right->ZR,sub_le_sub_left->aal,le_of_lt->aaP,le_of_eq->aaQ,sub_sub->abb
open Ne renaming symm->X5
open Option renaming bind_eq_some_iff->Xd,isSome_map->Yr,getD_none->aaW,map_some->aa8
open Option.some renaming inj->VS,injEq->Zk
open Or renaming inl->DO,inr->WL
open Prod renaming fst->VP,snd->aa2
open PyProof.Rows renaming arrOf->VJ,wpS_bind->VR,wpS_pure->V8,seqObj->Wj,slot_tuple_getitem->Wn,callWith_type1->WR,SortSt->WZ,Keyed->W6,pendingOf->XC,listUpdate_at->XR,wpS_forRange->Yb,failedOf->Yz,callWith_builtin1->YA,IsTup->YE,get?_update_seq->YY,SortKind->Z0,envOfC->aad,wpS_get->aan,ksk_end->aao,wpS_lift->aaC,wpS_mono->aaD,wpS_modify->aaN
open PyProof.Rows.SortSt renaming mk'->ZY
open PySem renaming wpAny_bind->bY,Value->gs,Shared->iF,wpAny_pure->rW,Addr->Do,sizeLine->IF,wpAny->Le,mainGlobals->VF,Program->VH,model->VL,bootBuiltins->VO,compareOp->VT,Around->VV,World->VZ,starEach->V2,sizeLine_eq->V6,wpAny_mono->Wi,Expr->Wk,FuncData->Wl,wpAny_Call_Name_kw->Wt,wpAny_call_entry->WE,attributeBase->WG,foldedSetIterable->WN,Stmt->WO,wpAny_field->WU,wpAny_callSpecial?_slot->WV,sysModules->W2,assignEach->W3,wpAny_newObj_type->W4,wpAny_isNot_plain->W5,wpAny_holding->W7,binaryOp->W8,mem_of_lookup->Xh,Heap->Xj,wpAny_loadPart'->Xk,behindInMarks->Xp,wpAny_is_plain->Xr,wpAny_passesOwn->XA,wpAny_truthy_bool->XB,OsState->XF,swapsWith->XN,NameKind->XQ,backTo->X9,codeAny_mono->Ya,tupleKind_room_in1->Yj,wpAny_attempt->Yk,sliceBounds->Yw,wpAny_rule->Yx,Fin->YC,codeAny->YU,wpAny_execs_nil->YV,letOwnedTupleGo->YW,cLine->YX,treeTable->YZ,Params->Y9,getItem->Ze,keywordEach->Zz,PassesOwn->ZU,call_meets->ZZ,Keyword->aam,pyIter->aaB,call->aaI,standAt->aaM,Within->aaO,rawInt->aaU
open PySem.Around renaming under_plainId->Z4,under->aaR
open PySem.Builtin.List renaming listTooLong->WK
open PySem.Builtin.Slice renaming slicePlaces->Xq,sliceAdjust->X0,sliceApplied->Y2
open PySem.Builtin.SmallTypes renaming nextOf->Wg,ownedTupleIsFree->WH,ownedTupleHandOut->X1
open PySem.Builtin.Str renaming strSliceIndices->WS,occurrences->Yc
open PySem.Builtin.Tuple renaming tupleExact->Xx,tupleItemsOf->Y3,tupleIsExact->Y4
open PySem.Calls renaming callWith_builtin->Ym,Name_function_global->Y0,evalArgs_plain->Z3,spliced_cons->aav,spliced_nil->aaH
open PySem.Code renaming isFrame->aaS
open PySem.F renaming called_set->WT,slot_NoneType_hash->Xl,args_tuple_add_2->X8,entry_tuple_add->Yd,plainAttrs_list->Yf,slot_tuple_add->Yl,slot_dict_getitem->Zb,slot_tuple_index->Zm,slot_list_index->Zw,slot_str_join->ZO,type_str_join->ZP
open PySem.Fin renaming done->abl
open PySem.Flow renaming ret->abm
open PySem.Heap renaming get?_push_of_some->dO,get?_push_size->CT,lt_size->ID,SameBut->Wv,size_push->Wy,get?_update_ne->X7,get?_update_other->Yn,get?_push_ne->Zo,get?_none_of_le->Z1,ExtBut->aa7
open PySem.Heap.SameBut renaming update->X6
open PySem.IsL renaming update->aaX
open PySem.NameKind renaming free->Wq,cell->abk
open PySem.Obj renaming mapSeq->VW,data_mapFields->aax
open PySem.Paired renaming length->Zq
open PySem.PassesOwn renaming never->Wo
open PySem.PyData renaming eqv->Zl,canLayAll0->Zp,depthAll->ZQ,canLay0->aac,depth->aaT
open PySem.SeqAt renaming shaped->Xo,EqAt->abj
open PySem.SeqAt.EqAt renaming int_none->aaf,str_none->aag,none_int->aah,none_str->aai,int_str->aar,str_int->aas,same->aa3
open PySem.Str renaming ofString->V7,length->ZW
open PySem.Txt renaming join->ZX
open PySem.Value renaming ref->We,none->Wh,isStrOf->XO,type->YK,bool->ZV,isInt->aae,int->aap,str->aaq,float->aa4
open PySem.W renaming Frag->aT,nsIn->VN,kia_one->Wf,mg_of->WA,findIn->WB,emptyDict->WJ,fnOf->Xe,instObj->Xf,looks_pair->XS,kitOne->XX,keepIn->Yy,boot_heap->YD,KeysLit->YS,kitx_tuple->Y7,codeIn->Za,methodObj->Zf,hasDictIn->Zg,kitx_list->Zh,kitx_dict->Zi,plainGet->ZC,cellsFrom_some->ZI,takerIn->ZJ,OpenLaw->ZK,lookIn->Z8,callWith_K->aaw,plainOver->aaF,specialIn->aaG,handedIn->aaV,BoolBack->aaZ,kat_cons->aa0,kdl_dict->aa1,makesIn->aa5,takesIn->aa6,mapOf_K->aba,kat_one->abd,kat_yes->abe,kat_go->abh,kat_no->abi
open PySem.W.Fast renaming te14364793385576792824->Ws,te10110043849684766642->Xi
open PySem.WalksT renaming enumerateD->aaK
open Std.Legacy renaming Range->aaY
open True renaming intro->WX
def abn:=@if_pos
def abo:=@if_neg
def abp:=@decide_eq_false
def abq:=@decide_eq_true
def abr:=@of_decide_eq_true
def abt:=@congrArg
abbrev abu:=List Nat
abbrev abv:=List PySem.Str
abbrev abw:=List (PySem.Addr×PySem.Obj)
abbrev abx:=PySem.Value->PySem.Shared->Prop
abbrev aby:=PySem.Str->Option PySem.Value
abbrev abz:=List PySem.Addr
abbrev abA:=List PySem.Value
abbrev abD (x:PySem.Str):Prop:=(x==("__debug__":PySem.Str))=false
local macro_rules|`(tactic|walk_at "v")=>`(tactic|first|exact Or.inl rfl|exact Or.inr (Or.inl rfl)|exact Or.inr (Or.inr rfl))
local macro_rules|`(tactic|walk_at "u")=>`(tactic|first|exact Or.inl rfl|exact Or.inr rfl|assumption)
local macro_rules|`(tactic|trivial)=>`(tactic|decide +kernel)
set_option Elab.async false
noncomputable section
namespace HD
open PySem PySem.W PySem.Calls PyProof.Rows
abbrev p:VH:=PySem.Challenge.pw_tablestore_k33_sound_or_not
def bd:List WO:=behindTheImports p
def S (i:Nat):WO:=match p.main.body[i]? with|some s=>s|none=>.Pass default
def Sc (i j:Nat):WO:=match S i with
 | .ClassDef _ _ _ b _ _ _ _ _ _ _=>(match b[j]? with|some s=>s|none=>.Pass default)
 | s=>s
def dA (s:WO):Arguments:=match s with
 | .FunctionDef _ a _ _ _ _ _ _ _ _=>a
 | _=>⟨[],[],none,[],[],none,[]⟩
def dB (s:WO):List WO:=match s with
 | .FunctionDef _ _ b _ _ _ _ _ _ _=>b
 | _=>[]
def dS (s:WO):Scope:=match s with
 | .FunctionDef _ _ _ _ _ _ sc _ _ _=>sc
 | _=>{ kind:=.function,names:=[],isGenerator:=false,isCoroutine:=false }
def fn (s:WO) (n Y:Str) (g:Do) (cl:List (Str×Do)) (d kd J pm:gs) (L:Option Do) (cd ct:gs) (bl:Do):Wl:=⟨n,Y,dA s,.stmts (dB s),dS s,g,cl,d,kd,J,pm,L,cd,ct,bl⟩
def dN (s:WO):Str:=match s with
 | .FunctionDef n _ _ _ _ _ _ _ _ _=>n
 | _=>""
def tu (l:abA):Obj:=⟨.type "tuple",none,.seq l.toArray 0,#[]⟩
def tn (t:Nat):abv->abA
 | []=>[]
 | x::r=>.str x t::tn (t+1) r
def tr (k:Int):List (Int×Nat)->abA
 | []=>[]
 | x::r=>.int x.1 0::.int k 0::.ref x.2::tr k r
def fi (l:abA):Obj:=⟨.none,none,.fields l.toArray,#[]⟩
def fu (s:WO) (m:gs) (c:Nat):Obj:=⟨.type "function",none,.func (fn s (dN s) (dN s) 3 [] .none .none .none m none (.ref c) .none 0),#[]⟩
def pr (s:WO):Obj:=⟨.none,none,.func (fn s (dN s) (dN s) 0 [] .none .none .none .none none .none .none 0),#[]⟩
def co (n q:Str) (t:Nat) (l a b c d:Int) (v:Nat) (o:Bool) (u:Nat) (x y z:gs) (k:Nat):Obj:=⟨.type "code",none,.fields #[.str n t,.str q (t+1),.str "/claim/cut.py" (t+2),.int l 0,.int a 0,.int b 0,.int c 0,.int d 0,.ref v,.bool o,.int 181 0,.ref u,.none,x,y,z,.int k 0,.int l 0,.str "/claim/cut.py" (k+1)],#[]⟩
def tO (l:List Obj) (n:Nat):Nat->Nat->Nat->BT
 | 0,_,_=>.nil
 | f+1,a,b=>if b < n then .node (l.getD b ⟨.none,none,.plain,#[]⟩) (tO l n f (2*a) (a+b)) (tO l n f (2*a) (2*a+b)) else .nil
def ke (P:Y9) (x:Str) (t:Nat) (v:gs):DictEntry:=⟨PyData.keyHash P x,.str x t,v⟩
def en:Env:={ scope:=p.main.scope,locals:=mainNs,globals:=mainNs,cells:=[],code:=(.ref 13),frame:=some 14 }
def cE:Code:=.body bd en
abbrev fq:Pos:=⟨0,0,0,0⟩
def bF:Obj:=tu []
def dg:Obj:=fi []
def Im (x0:Nat) (Y:Nat) (J:Str) (L:Nat):Obj:=⟨(.type "frame"),none,.plain,#[(some (.ref x0)),(some (.ref 3)),(some (.ref Y)),none,(some (.str J L)),none,(some (.ref 0))]⟩
def Vz (P:Y9):List Obj:=[boot_o_0 P,boot_o_1 P,boot_o_2 P,boot_o_3 P,boot_o_4 P,boot_o_5 P,boot_o_6 P,boot_o_7 P,boot_o_8 P,boot_o_9 P,boot_o_10 P,bF,dg,co "<module>" "<module>" 182 1 0 0 0 0 11 false 12 .none .none .none 185,Im 13 3 "__main__" 164]
def T0 (P:Y9):BT:=tO (Vz P) 15 12 1 0
def rA (w:VZ) (os:XF):topGo YZ p w 11 (some (.ref 6)) 12 ⟨YD w.params,aaA [],boot_drawn,boot_toks,os⟩ (topStub p)=some ((⟨T0 w.params,15,{},#[],{},187,os⟩:SharedT).abs,⟨denote YZ cE,cE,⟨0,0,0,0⟩,[topFrame fq]⟩):=by
 rw [PySem.W.Fast.te15667345088766844465,Ws,PySem.W.Fast.te11892475500146522536];kernel_rfl
def rB (w:VZ) (os:XF):segRunT YZ p w 11 (some (.ref 6)) 1 1 (⟨T0 w.params,15,{},#[],{},187,os⟩:SharedT) (blockOf bd en cE ⟨0,0,0,0⟩ [topFrame fq])=some (.next,(⟨T0 w.params,15,{},#[],{},187,os⟩:SharedT),cE,⟨0,0,0,0⟩):=by
 rw [Xi,Ws];kernel_rfl
def KZ:Obj:=⟨(.type "builtin_function_or_method"),none,(.fields #[(.builtin "type.__prepare__"),(.type "type")]),#[]⟩
def L8 (P:Y9) (J:Nat) (x1:Str) (L:Int) (Y:Nat):Obj:=⟨(.type "dict"),none,(.dict #[ke P "__module__" J (.str "tablestore.errors" 187),ke P "__qualname__" (J+2) (.str x1 (J+1)),ke P "__firstlineno__" (J+4) (.int L (J+3)),ke P "__static_attributes__" (J+5) (.ref Y)] 4),#[]⟩
def KW (J:Nat):Obj:=⟨(.type "super"),none,(.fields #[(.ref J),(.ref J),(.ref J)]),#[]⟩
def KS (J:Nat):Obj:=⟨(.type "builtin_function_or_method"),none,(.fields #[(.builtin "object.__init_subclass__"),(.ref J)]),#[]⟩
def MU:Obj:=tu [.ref 24]
def NP (P:Y9) (J:Nat) (Y:Int) (L:Nat):Obj:=⟨(.type "dict"),none,(.dict #[ke P "__module__" J (.str "tablestore.errors" 187),ke P "__firstlineno__" (J+4) (.int Y (J+3)),ke P "__static_attributes__" (J+5) (.ref L),ke P "__doc__" (J+6) .none] 2),#[]⟩
def NV (J:Str) (x1:Nat) (Y:Nat) (x3:Nat) (L:Nat):Obj:=⟨(.type "type"),none,(.cls { name:=J,bases:=[(.ref 24)],mro:=[(.ref x1),(.ref 24),(.type "ValueError"),(.type "Exception"),(.type "BaseException"),(.type "object")],ns:=Y,qualname:=J,hasDict:=true,slotNames:=[],subclasses:=[],abstract:=false,collection:=none,hasDel:=false }),#[(some (.ref x3)),none,(some (.str J L)),(some (.str J (L+8))),(some (.builtin "ValueError.__new__")),(some (.bool true))]⟩
def m335:gs:=.str "tablestore.values" 335
def m378:gs:=.str "tablestore.ordered" 378
def m507:gs:=.str "tablestore.shapes" 507
def m599:gs:=.str "tablestore.balance" 599
def m687:gs:=.str "tablestore.tables" 687
def m793:gs:=.str "tablestore.states" 793
def m913:gs:=.str "law_tablestore_k33_sound_or_not" 913
def g0:List WO:=(bd.drop 0).take 102
def Vn (P:Y9):List Obj:=((Vz P).set 3 (⟨(.type "dict"),none,(.dict #[ke P "__name__" 165 (.str "law_tablestore_k33_sound_or_not" 913),ke P "__doc__" 166 .none,ke P "__package__" 167 .none,ke P "__loader__" 168 (.builtin "__main__.__loader__#opaque"),ke P "__spec__" 169 .none,ke P "__annotations__" 170 (.ref 6),ke P "__builtins__" 171 (.ref 4),ke P "__file__" 173 (.str "/claim/cut.py" 172),ke P "__cached__" 174 .none,ke P "TableError" 206 (.ref 24),ke P "BadShape" 222 (.ref 37),ke P "BadChange" 238 (.ref 49),ke P "BadRow" 254 (.ref 61),ke P "NoTable" 270 (.ref 73),ke P "TableThere" 286 (.ref 85),ke P "NoColumn" 302 (.ref 97),ke P "IndexThere" 318 (.ref 109),ke P "NoRow" 334 (.ref 121),ke P "KINDS" 340 (.ref 124),ke P "MOST_SIGNS" 342 (.int 40 341),ke P "is_value" 348 (.ref 129),ke P "is_sign" 355 (.ref 136),ke P "kind_of" 362 (.ref 143),ke P "compare" 370 (.ref 150),ke P "order_key" 377 (.ref 157),ke P "FEWEST" 381 (.int 4 380),ke P "MOST" 383 (.int 8 382),ke P "FEWEST_OF_ROOT" 385 (.int 2 384),ke P "MOST_ROW_NUMBER" 387 (.int 1000000000 386),ke P "comes_ahead" 396 (.ref 164),ke P "empty_index" 402 (.ref 171),ke P "entries_of" 408 (.ref 176),ke P "things_in" 417 (.ref 183),ke P "has_entry" 429 (.ref 190),ke P "part_place" 438 (.ref 197),ke P "first_of" 445 (.ref 204),ke P "is_index" 451 (.ref 209),ke P "is_leaf" 457 (.ref 214),ke P "is_branch" 463 (.ref 219),ke P "is_cell" 472 (.ref 226),ke P "is_part" 479 (.ref 233),ke P "is_entry" 486 (.ref 240),ke P "is_two" 493 (.ref 247),ke P "is_row_number" 500 (.ref 254),ke P "rises" 506 (.ref 259),ke P "NO_NAMES" 520 (.ref 260),ke P "COLUMN_KINDS" 523 (.ref 261),ke P "MOST_LETTERS" 525 (.int 8 524),ke P "MOST_COLUMNS" 527 (.int 8 526),ke P "is_name" 533 (.ref 266),ke P "is_letter" 540 (.ref 273),ke P "is_shape" 547 (.ref 280),ke P "is_pair" 554 (.ref 287),ke P "are_columns" 560 (.ref 292),ke P "is_column" 567 (.ref 299),ke P "is_column_kind" 574 (.ref 306),ke P "column_place" 584 (.ref 313),ke P "fits" 590 (.ref 318),ke P "fits_kind" 598 (.ref 325),ke P "with_entry" 609 (.ref 332),ke P "cells_with" 615 (.ref 337),ke P "cells_of" 628 (.ref 344),ke P "parts_of" 634 (.ref 349),ke P "rooted" 642 (.ref 356),ke P "without_entry" 652 (.ref 363),ke P "cell_without" 658 (.ref 368),ke P "mended" 670 (.ref 375),ke P "index_from" 679 (.ref 382),ke P "entry_key" 686 (.ref 389),ke P "Table" 721 (.ref 406),ke P "new_table" 728 (.ref 417),ke P "with_row" 741 (.ref 424),ke P "without_row" 752 (.ref 431),ke P "index_without" 762 (.ref 438),ke P "with_index" 771 (.ref 445),ke P "entries_by" 777 (.ref 450),ke P "is_table" 783 (.ref 455),ke P "is_index_by" 792 (.ref 462),ke P "FORMS" 807 (.ref 463),ke P "changed" 816 (.ref 470),ke P "all_changed" 826 (.ref 477),ke P "word_of" 833 (.ref 484),ke P "state_with_table" 841 (.ref 491),ke P "state_with_index" 851 (.ref 498),ke P "state_with_row" 862 (.ref 505),ke P "state_without_row" 872 (.ref 512),ke P "table_in" 880 (.ref 519),ke P "refuse_no_row" 888 (.ref 526),ke P "state_with" 898 (.ref 533),ke P "is_state" 904 (.ref 538),ke P "is_table_under" 912 (.ref 545),ke P "_law_cell_at" 922 (.ref 552),ke P "_law_names" 928 (.ref 557),ke P "_law_sign_by" 936 (.ref 564),ke P "_law_text_by" 942 (.ref 569),ke P "_law_shape_by" 954 (.ref 576),ke P "_law_row_by" 966 (.ref 583),ke P "_law_changes" 972 (.ref 588),ke P "_law_row_spoilt" 984 (.ref 595),ke P "_law_rows_spoilt" 995 (.ref 602),ke P "_law_index_spoilt" 1001 (.ref 607),ke P "_law_wrong" 1010 (.ref 614),ke P "law" 1016 (.ref 619)] 103),#[]⟩)).set 12 (fi (tr 0 [(2,20),(4,33),(6,45),(8,57),(10,69),(12,81),(14,93),(16,105),(18,117),(23,128),(29,135),(31,142),(35,149),(41,156),(50,163),(53,170),(55,175),(60,182),(65,189),(72,196),(77,203),(79,208),(96,213),(100,218),(102,225),(106,232),(108,239),(110,246),(112,253),(114,258),(121,265),(125,272),(127,279),(129,286),(131,291),(138,298),(140,305),(142,312),(147,317),(152,324),(155,331),(159,336),(168,343),(176,348),(178,355),(183,362),(190,367),(199,374),(208,381),(216,388),(219,395),(225,416),(227,423),(235,430),(242,437),(247,444),(251,449),(254,454),(262,461),(269,469),(278,476),(283,483),(289,490),(295,497),(302,504),(309,511),(313,518),(317,525),(320,532),(324,537),(326,544),(329,551),(333,556),(347,563),(351,568),(357,575),(364,582),(379,587),(388,594),(401,601),(410,606),(429,613),(440,618)]))++[tu [.type "ValueError"],KZ,L8 P 196 "TableError" 2 22,bF,dg,co "TableError" "TableError" 191 2 0 0 0 0 18 false 19 .none .none .none 194,Im 20 17 "tablestore.errors" 187,bF,⟨(.type "dict"),none,(.dict #[ke P "__module__" 196 (.str "tablestore.errors" 187),ke P "__firstlineno__" 200 (.int 2 199),ke P "__static_attributes__" 201 (.ref 22),ke P "__weakref__" 203 (.ref 25),ke P "__doc__" 204 .none] 3),#[]⟩,⟨(.type "type"),none,(.cls { name:="TableError",bases:=[(.type "ValueError")],mro:=[(.ref 24),(.type "ValueError"),(.type "Exception"),(.type "BaseException"),(.type "object")],ns:=23,qualname:="TableError",hasDict:=true,slotNames:=[],subclasses:=[(.ref 37),(.ref 49),(.ref 61),(.ref 73),(.ref 85),(.ref 97),(.ref 109),(.ref 121)],abstract:=false,collection:=none,hasDel:=false }),#[(some (.ref 15)),none,(some (.str "TableError" 189)),(some (.str "TableError" 197)),(some (.builtin "ValueError.__new__")),(some (.bool true))]⟩,⟨(.type "getset_descriptor"),none,(.fields #[(.str "__weakref__" 202),(.ref 24),(.builtin "ExceptionGroup.__weakref__"),.none]),#[]⟩,KW 24,KS 24,MU,KZ,L8 P 214 "BadShape" 4 35,bF,dg,co "BadShape" "BadShape" 209 4 0 0 0 0 31 false 32 .none .none .none 212,Im 33 30 "tablestore.errors" 187,bF,NP P 214 4 35,NV "BadShape" 37 36 28 207,KW 37,KS 37,MU,KZ,L8 P 230 "BadChange" 6 47,bF,dg,co "BadChange" "BadChange" 225 6 0 0 0 0 43 false 44 .none .none .none 228,Im 45 42 "tablestore.errors" 187,bF,NP P 230 6 47,NV "BadChange" 49 48 40 223,KW 49,KS 49,MU,KZ,L8 P 246 "BadRow" 8 59,bF,dg,co "BadRow" "BadRow" 241 8 0 0 0 0 55 false 56 .none .none .none 244,Im 57 54 "tablestore.errors" 187,bF,NP P 246 8 59,NV "BadRow" 61 60 52 239,KW 61,KS 61,MU,KZ,L8 P 262 "NoTable" 10 71,bF,dg,co "NoTable" "NoTable" 257 10 0 0 0 0 67 false 68 .none .none .none 260,Im 69 66 "tablestore.errors" 187,bF,NP P 262 10 71,NV "NoTable" 73 72 64 255,KW 73,KS 73,MU,KZ,L8 P 278 "TableThere" 12 83,bF,dg,co "TableThere" "TableThere" 273 12 0 0 0 0 79 false 80 .none .none .none 276,Im 81 78 "tablestore.errors" 187,bF,NP P 278 12 83,NV "TableThere" 85 84 76 271,KW 85,KS 85,MU,KZ,L8 P 294 "NoColumn" 14 95,bF,dg,co "NoColumn" "NoColumn" 289 14 0 0 0 0 91 false 92 .none .none .none 292,Im 93 90 "tablestore.errors" 187,bF,NP P 294 14 95,NV "NoColumn" 97 96 88 287,KW 97,KS 97,MU,KZ,L8 P 310 "IndexThere" 16 107,bF,dg,co "IndexThere" "IndexThere" 305 16 0 0 0 0 103 false 104 .none .none .none 308,Im 105 102 "tablestore.errors" 187,bF,NP P 310 16 107,NV "IndexThere" 109 108 100 303,KW 109,KS 109,MU,KZ,L8 P 326 "NoRow" 18 119,bF,dg,co "NoRow" "NoRow" 321 18 0 0 0 0 115 false 116 .none .none .none 324,Im 117 114 "tablestore.errors" 187,bF,NP P 326 18 119,NV "NoRow" 121 120 112 319,KW 121,KS 121,tu (tn 337 ["none","number","text"]),bF,dg,pr (S 13),co "is_value" "is_value" 343 23 1 0 0 3 125 true 126 .none .none (.ref 127) 346,fu (S 13) m335 128,bF,dg,tu (tn 352 ["sign"]),bF,pr (S 14),co "is_sign" "is_sign" 349 29 1 0 0 3 130 true 131 (.ref 132) (.ref 133) (.ref 134) 353,fu (S 14) m335 135,bF,dg,tu (tn 359 ["value"]),bF,pr (S 15),co "kind_of" "kind_of" 356 31 1 0 0 3 137 true 138 (.ref 139) (.ref 140) (.ref 141) 360,fu (S 15) m335 142,bF,dg,tu (tn 366 ["one","other"]),bF,pr (S 16),co "compare" "compare" 363 35 2 0 0 3 144 true 145 (.ref 146) (.ref 147) (.ref 148) 368,fu (S 16) m335 149,bF,dg,tu (tn 374 ["value"]),bF,pr (S 17),co "order_key" "order_key" 371 41 1 0 0 3 151 true 152 (.ref 153) (.ref 154) (.ref 155) 375,fu (S 17) m335 156,bF,dg,tu (tn 391 ["one","other","told"]),bF,pr (S 23),co "comes_ahead" "comes_ahead" 388 50 2 0 0 3 158 true 159 (.ref 160) (.ref 161) (.ref 162) 394,fu (S 23) m378 163,bF,dg,bF,bF,pr (S 24),co "empty_index" "empty_index" 397 53 0 0 0 3 165 true 166 (.ref 167) (.ref 168) (.ref 169) 400,fu (S 24) m378 170,bF,dg,pr (S 25),co "entries_of" "entries_of" 403 55 1 0 0 3 172 true 173 .none .none (.ref 174) 406,fu (S 25) m378 175,bF,dg,tu (tn 412 ["cells","things","cell"]),bF,pr (S 26),co "things_in" "things_in" 409 60 1 0 0 3 177 true 178 (.ref 179) (.ref 180) (.ref 181) 415,fu (S 26) m378 182,bF,dg,tu (tn 421 ["index","value","number","entry","cell","parts"]),bF,pr (S 27),co "has_entry" "has_entry" 418 65 3 0 0 3 184 true 185 (.ref 186) (.ref 187) (.ref 188) 427,fu (S 27) m378 189,bF,dg,tu (tn 433 ["parts","entry","place"]),bF,pr (S 28),co "part_place" "part_place" 430 72 2 0 0 3 191 true 192 (.ref 193) (.ref 194) (.ref 195) 436,fu (S 28) m378 196,bF,dg,tu (tn 442 ["cell"]),bF,pr (S 29),co "first_of" "first_of" 439 77 1 0 0 3 198 true 199 (.ref 200) (.ref 201) (.ref 202) 443,fu (S 29) m378 203,bF,dg,pr (S 30),co "is_index" "is_index" 446 79 1 0 0 3 205 true 206 .none .none (.ref 207) 449,fu (S 30) m378 208,bF,dg,pr (S 31),co "is_leaf" "is_leaf" 452 96 2 0 0 3 210 true 211 .none .none (.ref 212) 455,fu (S 31) m378 213,bF,dg,pr (S 32),co "is_branch" "is_branch" 458 100 2 0 0 3 215 true 216 .none .none (.ref 217) 461,fu (S 32) m378 218,bF,dg,tu (tn 467 ["thing","word","fewest"]),bF,pr (S 33),co "is_cell" "is_cell" 464 102 3 0 0 3 220 true 221 (.ref 222) (.ref 223) (.ref 224) 470,fu (S 33) m378 225,bF,dg,tu (tn 476 ["thing"]),bF,pr (S 34),co "is_part" "is_part" 473 106 1 0 0 3 227 true 228 (.ref 229) (.ref 230) (.ref 231) 477,fu (S 34) m378 232,bF,dg,tu (tn 483 ["thing"]),bF,pr (S 35),co "is_entry" "is_entry" 480 108 1 0 0 3 234 true 235 (.ref 236) (.ref 237) (.ref 238) 484,fu (S 35) m378 239,bF,dg,tu (tn 490 ["thing"]),bF,pr (S 36),co "is_two" "is_two" 487 110 1 0 0 3 241 true 242 (.ref 243) (.ref 244) (.ref 245) 491,fu (S 36) m378 246,bF,dg,tu (tn 497 ["thing"]),bF,pr (S 37),co "is_row_number" "is_row_number" 494 112 1 0 0 3 248 true 249 (.ref 250) (.ref 251) (.ref 252) 498,fu (S 37) m378 253,bF,dg,pr (S 38),co "rises" "rises" 501 114 1 0 0 3 255 true 256 .none .none (.ref 257) 504,fu (S 38) m378 258,tu (tn 509 ["and","by","down","from","none","not","or","order","show","take","where"]),tu (tn 521 ["number","text"]),bF,dg,pr (S 44),co "is_name" "is_name" 528 121 1 0 0 3 262 true 263 .none .none (.ref 264) 531,fu (S 44) m507 265,bF,dg,tu (tn 537 ["sign"]),bF,pr (S 45),co "is_letter" "is_letter" 534 125 1 0 0 3 267 true 268 (.ref 269) (.ref 270) (.ref 271) 538,fu (S 45) m507 272,bF,dg,tu (tn 544 ["thing"]),bF,pr (S 46),co "is_shape" "is_shape" 541 127 1 0 0 3 274 true 275 (.ref 276) (.ref 277) (.ref 278) 545,fu (S 46) m507 279,bF,dg,tu (tn 551 ["thing"]),bF,pr (S 47),co "is_pair" "is_pair" 548 129 1 0 0 3 281 true 282 (.ref 283) (.ref 284) (.ref 285) 552,fu (S 47) m507 286,bF,dg,pr (S 48),co "are_columns" "are_columns" 555 131 1 0 0 3 288 true 289 .none .none (.ref 290) 558,fu (S 48) m507 291,bF,dg,tu (tn 564 ["thing"]),bF,pr (S 49),co "is_column" "is_column" 561 138 1 0 0 3 293 true 294 (.ref 295) (.ref 296) (.ref 297) 565,fu (S 49) m507 298,bF,dg,tu (tn 571 ["thing"]),bF,pr (S 50),co "is_column_kind" "is_column_kind" 568 140 1 0 0 3 300 true 301 (.ref 302) (.ref 303) (.ref 304) 572,fu (S 50) m507 305,bF,dg,tu (tn 578 ["shape","column","place","pair"]),bF,pr (S 51),co "column_place" "column_place" 575 142 2 0 0 3 307 true 308 (.ref 309) (.ref 310) (.ref 311) 582,fu (S 51) m507 312,bF,dg,pr (S 52),co "fits" "fits" 585 147 2 0 0 3 314 true 315 .none .none (.ref 316) 588,fu (S 52) m507 317,bF,dg,tu (tn 594 ["thing","kind"]),bF,pr (S 53),co "fits_kind" "fits_kind" 591 152 2 0 0 3 319 true 320 (.ref 321) (.ref 322) (.ref 323) 596,fu (S 53) m507 324,bF,dg,tu (tn 604 ["index","value","number"]),bF,pr (S 55),co "with_entry" "with_entry" 601 155 3 0 0 3 326 true 327 (.ref 328) (.ref 329) (.ref 330) 607,fu (S 55) m599 331,bF,dg,pr (S 56),co "cells_with" "cells_with" 610 159 2 0 0 3 333 true 334 .none .none (.ref 335) 613,fu (S 56) m599 336,bF,dg,tu (tn 619 ["word","things","many","cells","place","start","end"]),bF,pr (S 57),co "cells_of" "cells_of" 616 168 2 0 0 3 338 true 339 (.ref 340) (.ref 341) (.ref 342) 626,fu (S 57) m599 343,bF,dg,pr (S 58),co "parts_of" "parts_of" 629 176 1 0 0 3 345 true 346 .none .none (.ref 347) 632,fu (S 58) m599 348,bF,dg,tu (tn 638 ["cells","level"]),bF,pr (S 59),co "rooted" "rooted" 635 178 1 0 0 3 350 true 351 (.ref 352) (.ref 353) (.ref 354) 640,fu (S 59) m599 355,bF,dg,tu (tn 646 ["index","value","number","root"]),bF,pr (S 60),co "without_entry" "without_entry" 643 183 3 0 0 3 357 true 358 (.ref 359) (.ref 360) (.ref 361) 650,fu (S 60) m599 362,bF,dg,pr (S 61),co "cell_without" "cell_without" 653 190 2 0 0 3 364 true 365 .none .none (.ref 366) 656,fu (S 61) m599 367,bF,dg,tu (tn 662 ["parts","place","smaller","start","things","fresh"]),bF,pr (S 62),co "mended" "mended" 659 199 3 0 0 3 369 true 370 (.ref 371) (.ref 372) (.ref 373) 668,fu (S 62) m599 374,bF,dg,tu (tn 674 ["entries","once","entry"]),bF,pr (S 63),co "index_from" "index_from" 671 208 1 0 0 3 376 true 377 (.ref 378) (.ref 379) (.ref 380) 677,fu (S 63) m599 381,bF,dg,tu (tn 683 ["entry"]),bF,pr (S 64),co "entry_key" "entry_key" 680 216 1 0 0 3 383 true 384 (.ref 385) (.ref 386) (.ref 387) 684,fu (S 64) m599 388,bF,KZ,⟨(.type "dict"),none,(.dict #[ke P "__module__" 696 (.str "tablestore.tables" 687),ke P "__qualname__" 698 (.str "Table" 697),ke P "__firstlineno__" 700 (.int 219 699),ke P "__init__" 710 (.ref 403),ke P "__static_attributes__" 714 (.ref 404)] 5),#[]⟩,bF,fi (tr 4 [(221,402)]),co "Table" "Table" 691 219 0 0 0 0 393 false 394 .none .none .none 694,Im 395 392 "tablestore.tables" 687,bF,dg,tu (tn 704 ["self","shape","rows","indexes"]),bF,⟨.none,none,(.func (fn (Sc 66 0) "__init__" "Table.__init__" 0 [] .none .none .none .none none .none .none 0)),#[]⟩,co "__init__" "Table.__init__" 701 221 4 0 0 3 397 true 398 (.ref 399) (.ref 400) (.ref 401) 708,⟨(.type "function"),none,(.func (fn (Sc 66 0) "__init__" "Table.__init__" 3 [] .none .none .none (.str "tablestore.tables" 687) none (.ref 402) .none 0)),#[]⟩,tu (tn 711 ["indexes","rows","shape"]),⟨(.type "dict"),none,(.dict #[ke P "__module__" 696 (.str "tablestore.tables" 687),ke P "__firstlineno__" 700 (.int 219 699),ke P "__init__" 710 (.ref 403),ke P "__static_attributes__" 714 (.ref 404),ke P "__dict__" 716 (.ref 407),ke P "__weakref__" 718 (.ref 408),ke P "__doc__" 719 .none] 4),#[]⟩,⟨(.type "type"),none,(.cls { name:="Table",bases:=[(.type "object")],mro:=[(.ref 406),(.type "object")],ns:=405,qualname:="Table",hasDict:=true,slotNames:=[],subclasses:=[],abstract:=false,collection:=none,hasDel:=false }),#[none,none,(some (.str "Table" 689)),(some (.str "Table" 697)),(some (.builtin "object.__new__")),(some (.bool true))]⟩,⟨(.type "getset_descriptor"),none,(.fields #[(.str "__dict__" 715),(.ref 406),(.builtin "function.__dict__"),(.builtin "function.__dict__#set")]),#[]⟩,⟨(.type "getset_descriptor"),none,(.fields #[(.str "__weakref__" 717),(.ref 406),(.builtin "ExceptionGroup.__weakref__"),.none]),#[]⟩,KW 406,KS 406,bF,dg,tu (tn 725 ["shape"]),bF,pr (S 67),co "new_table" "new_table" 722 225 1 0 0 3 411 true 412 (.ref 413) (.ref 414) (.ref 415) 726,fu (S 67) m687 416,bF,dg,tu (tn 732 ["table","number","row","rows","indexes","column","index"]),bF,pr (S 68),co "with_row" "with_row" 729 227 3 0 0 3 418 true 419 (.ref 420) (.ref 421) (.ref 422) 739,fu (S 68) m687 423,bF,dg,tu (tn 745 ["table","number","rows","indexes","column"]),bF,pr (S 69),co "without_row" "without_row" 742 235 2 0 0 3 425 true 426 (.ref 427) (.ref 428) (.ref 429) 750,fu (S 69) m687 430,bF,dg,tu (tn 756 ["table","column","number","index"]),bF,pr (S 70),co "index_without" "index_without" 753 242 3 0 0 3 432 true 433 (.ref 434) (.ref 435) (.ref 436) 760,fu (S 70) m687 437,bF,dg,tu (tn 766 ["table","column","indexes"]),bF,pr (S 71),co "with_index" "with_index" 763 247 2 0 0 3 439 true 440 (.ref 441) (.ref 442) (.ref 443) 769,fu (S 71) m687 444,bF,dg,pr (S 72),co "entries_by" "entries_by" 772 251 2 0 0 3 446 true 447 .none .none (.ref 448) 775,fu (S 72) m687 449,bF,dg,pr (S 73),co "is_table" "is_table" 778 254 1 0 0 3 451 true 452 .none .none (.ref 453) 781,fu (S 73) m687 454,bF,dg,tu (tn 787 ["table","column","index"]),bF,pr (S 74),co "is_index_by" "is_index_by" 784 262 2 0 0 3 456 true 457 (.ref 458) (.ref 459) (.ref 460) 790,fu (S 74) m687 461,⟨(.type "dict"),none,(.dict #[ke P "table" 795 (.int 2 796),ke P "index" 797 (.int 3 798),ke P "put" 799 (.int 4 800),ke P "drop" 801 (.int 3 802)] 4),#[]⟩,bF,dg,tu (tn 811 ["state","change","word"]),bF,pr (S 77),co "changed" "changed" 808 269 2 0 0 3 464 true 465 (.ref 466) (.ref 467) (.ref 468) 814,fu (S 77) m793 469,bF,dg,tu (tn 820 ["state","changes","behind","change"]),bF,pr (S 78),co "all_changed" "all_changed" 817 278 2 0 0 3 471 true 472 (.ref 473) (.ref 474) (.ref 475) 824,fu (S 78) m793 476,bF,dg,tu (tn 830 ["change"]),bF,pr (S 79),co "word_of" "word_of" 827 283 1 0 0 3 478 true 479 (.ref 480) (.ref 481) (.ref 482) 831,fu (S 79) m793 483,bF,dg,tu (tn 837 ["state","shape"]),bF,pr (S 80),co "state_with_table" "state_with_table" 834 289 2 0 0 3 485 true 486 (.ref 487) (.ref 488) (.ref 489) 839,fu (S 80) m793 490,bF,dg,tu (tn 845 ["state","name","column","table"]),bF,pr (S 81),co "state_with_index" "state_with_index" 842 295 3 0 0 3 492 true 493 (.ref 494) (.ref 495) (.ref 496) 849,fu (S 81) m793 497,bF,dg,tu (tn 855 ["state","name","number","row","table"]),bF,pr (S 82),co "state_with_row" "state_with_row" 852 302 4 0 0 3 499 true 500 (.ref 501) (.ref 502) (.ref 503) 860,fu (S 82) m793 504,bF,dg,tu (tn 866 ["state","name","number","table"]),bF,pr (S 83),co "state_without_row" "state_without_row" 863 309 3 0 0 3 506 true 507 (.ref 508) (.ref 509) (.ref 510) 870,fu (S 83) m793 511,bF,dg,tu (tn 876 ["state","name"]),bF,pr (S 84),co "table_in" "table_in" 873 313 2 0 0 3 513 true 514 (.ref 515) (.ref 516) (.ref 517) 878,fu (S 84) m793 518,bF,dg,tu (tn 884 ["table","number"]),bF,pr (S 85),co "refuse_no_row" "refuse_no_row" 881 317 2 0 0 3 520 true 521 (.ref 522) (.ref 523) (.ref 524) 886,fu (S 85) m793 525,bF,dg,tu (tn 892 ["state","name","table","behind"]),bF,pr (S 86),co "state_with" "state_with" 889 320 3 0 0 3 527 true 528 (.ref 529) (.ref 530) (.ref 531) 896,fu (S 86) m793 532,bF,dg,pr (S 87),co "is_state" "is_state" 899 324 1 0 0 3 534 true 535 .none .none (.ref 536) 902,fu (S 87) m793 537,bF,dg,tu (tn 908 ["table","name"]),bF,pr (S 88),co "is_table_under" "is_table_under" 905 326 2 0 0 3 539 true 540 (.ref 541) (.ref 542) (.ref 543) 910,fu (S 88) m793 544,bF,dg,tu (tn 918 ["_law_script","_law_k"]),bF,pr (S 90),co "_law_cell_at" "_law_cell_at" 915 329 2 0 0 3 546 true 547 (.ref 548) (.ref 549) (.ref 550) 920,fu (S 90) m913 551,bF,dg,pr (S 91),co "_law_names" "_law_names" 923 333 2 0 0 3 553 true 554 .none .none (.ref 555) 926,fu (S 91) m913 556,bF,dg,tu (tn 932 ["_law_cell","_law_some"]),bF,pr (S 92),co "_law_sign_by" "_law_sign_by" 929 347 1 0 0 3 558 true 559 (.ref 560) (.ref 561) (.ref 562) 934,fu (S 92) m913 563,bF,dg,pr (S 93),co "_law_text_by" "_law_text_by" 937 351 1 0 0 3 565 true 566 .none .none (.ref 567) 940,fu (S 93) m913 568,bF,dg,tu (tn 946 ["_law_name","_law_cell","_law_names_here","_law_columns","_law_k","_law_kind"]),bF,pr (S 94),co "_law_shape_by" "_law_shape_by" 943 357 2 0 0 3 570 true 571 (.ref 572) (.ref 573) (.ref 574) 952,fu (S 94) m913 575,bF,dg,tu (tn 958 ["_law_shape","_law_cell","_law_row","_law_drawn","_law_column","_law_mix"]),bF,pr (S 95),co "_law_row_by" "_law_row_by" 955 364 2 0 0 3 577 true 578 (.ref 579) (.ref 580) (.ref 581) 964,fu (S 95) m913 582,bF,dg,pr (S 96),co "_law_changes" "_law_changes" 967 379 2 0 0 3 584 true 585 .none .none (.ref 586) 970,fu (S 96) m913 587,bF,dg,tu (tn 976 ["_law_shape","_law_row","_law_cell","_law_at","_law_other","_law_value"]),bF,pr (S 97),co "_law_row_spoilt" "_law_row_spoilt" 973 388 3 0 0 3 589 true 590 (.ref 591) (.ref 592) (.ref 593) 982,fu (S 97) m913 594,bF,dg,tu (tn 988 ["_law_table","_law_cell","_law_numbers","_law_rows","_law_number"]),bF,pr (S 98),co "_law_rows_spoilt" "_law_rows_spoilt" 985 401 2 0 0 3 596 true 597 (.ref 598) (.ref 599) (.ref 600) 993,fu (S 98) m913 601,bF,dg,pr (S 99),co "_law_index_spoilt" "_law_index_spoilt" 996 410 2 0 0 3 603 true 604 .none .none (.ref 605) 999,fu (S 99) m913 606,bF,dg,tu (tn 1005 ["_law_table","_law_cell","_law_shapes"]),bF,pr (S 100),co "_law_wrong" "_law_wrong" 1002 429 2 0 0 3 608 true 609 (.ref 610) (.ref 611) (.ref 612) 1008,fu (S 100) m913 613,bF,dg,pr (S 101),co "law" "law" 1011 440 1 0 0 3 615 true 616 .none .none (.ref 617) 1014,fu (S 101) m913 618]
def T1 (P:Y9):BT:=tO (Vn P) 620 12 1 0
def Py (w:VZ) (os:XF):Prop:=segRunT YZ p w 11 (some (.ref 6)) 1 4523 (⟨T0 w.params,15,{},#[],{},187,os⟩:SharedT) (piecesOf g0 en cE ⟨0,0,0,0⟩ [topFrame fq])=some (.next,(⟨T1 w.params,620,{},#[],{},1017,os⟩:SharedT),cE,⟨440,0,463,83⟩)
def rf0 (w:VZ) (os:XF):Py (w.withFollow "special-get-raises" false) os:=by
 unfold Py;rw [Xi,Ws];kernel_rfl
def rt0 (w:VZ) (os:XF):Py (w.withFollow "special-get-raises" true) os:=by
 unfold Py;rw [Xi,Ws];kernel_rfl
def rG0 (w:VZ) (os:XF):segRunT YZ p w 11 (some (.ref 6)) 1 4523 (⟨T0 w.params,15,{},#[],{},187,os⟩:SharedT) (piecesOf g0 en cE ⟨0,0,0,0⟩ [topFrame fq])=some (.next,(⟨T1 w.params,620,{},#[],{},1017,os⟩:SharedT),cE,⟨440,0,463,83⟩):=byRow2 "special-get-raises" (P:=fun w=>Py w os) (fun w=>rf0 w os) (fun w=>rt0 w os) w
abbrev L1 (P:Y9):List Obj:=Vn P
def H1 (P:Y9):Xj:=⟨aaA (L1 P),{}⟩
abbrev sf (w:VZ) (os:XF):iF:=⟨H1 w.params,#[],{},1017,os⟩
def rF (w:VZ) (os:XF):topRun YZ p w 11 (some (.ref 6)) 2 (⟨T1 w.params,620,{},#[],{},1017,os⟩:SharedT).abs ⟨doneF .next,cE,⟨440,0,463,83⟩,[topFrame fq]⟩=some (sf w os):=by
 rw [PySem.W.Fast.te14082659384304107361,Ws];kernel_rfl
def RE:bd=g0++([]):=by kernel_rfl
def run (w:VZ) (os:XF):topRun YZ p w 11 (some (.ref 6)) (12+(1+(4523+2))) ⟨YD w.params,aaA [],boot_drawn,boot_toks,os⟩ (topStub p)=some (sf w os) :=
 go_top (n:=12) (rA w os) (piece_block (n:=1) (segRun_of (rB w os)) (RE ▸ piece_app (n:=4523) (l:=g0) (segRun_of (rG0 w os)) (piece_nil (rF w os))))
def q:VH:=view p [1,2,3,4,5,6,7,8,9,11,12,13,14,15,16,17,19,20,21,22,23,24,25,26,27,28,29,30,31,32,33,34,35,36,37,38,40,41,42,43,44,45,46,47,48,49,50,51,52,53,55,56,57,58,59,60,61,62,63,64,66,67,68,69,70,71,72,73,74,76,77,78,79,80,81,82,83,84,85,86,87,88,90,91,92,93,94,95,96,97,98,99,100,101]
def S0 (w:VZ):(fencedOpening YZ p w 9170).map (fun s=>(s.heap,s.gens,s.drawn,s.toks))=some (YD w.params,aaA [],boot_drawn,boot_toks) :=
 boot_open (by kernel_rfl) (by decide) (fun s=>by kernel_rfl) w
theorem size (w:VZ):((YD w.params).isNs VF&&(aaA []:Array GenState).size==0,(YD w.params).objs.size,(YD w.params).nsMap VF "__annotations__")=(true,11,(some (.ref 6))):=by
 kernel_rfl
def k0 (w:VZ) (os:XF):(staticsOk (importedModules p.main.body) (YD w.params) (H1 w.params)&&namesBound p (H1 w.params)&&gensDone (sf w os)&&laidKept (YD w.params) (H1 w.params))=true:=by kernel_rfl
def k1 (w:VZ) (os:XF):seen ((recsOf q).map (·.name)) (ownsOf q) [] { (sf w os) with gens:=#[] }=expectedOf q:=by
 kernel_rfl
def k2 (w:VZ) (os:XF):(sf w os).heap.bltView=bltViewBooted:=by
 kernel_rfl
def k3 (w:VZ) (os:XF):((sf w os).heap.keysOk (looseW q ["FORMS"]) ((recsOf q).map (·.name)) ((litsOf q).map (·.1)) ((clssOf q (looseW q ["FORMS"])).map (·.name))&&(sf w os).heap.accountedOkI (importedModules p.main.body)&&(sf w os).heap.isNs VF&&(sf w os).heap.isNs builtinsNs&&tablesOk q (sf w os).heap&&(xlAt q [] (sf w os)&&recOk [] (sf w os))&&(if true then (sf w os).gens.size==0 else !leftWithCleanup (sf w os).gens))=true:=by
 kernel_rfl
def k4 (w:VZ) (os:XF):tabsOk q (sf w os)=true:=by
 kernel_rfl
def k5 (w:VZ) (os:XF):pinSeenD q (drecsOf q) (sf w os)=pinGoodD (drecsOf q):=by
 kernel_rfl
def k6 (w:VZ) (os:XF):plainSeenE q (looseW q ["FORMS"]) (sf w os)=plainGoodE q (looseW q ["FORMS"]):=by
 kernel_rfl
def k7 (w:VZ) (os:XF):plainSeenD q ["FORMS"] (sf w os)=plainGoodD q ["FORMS"]:=by
 kernel_rfl
def k8 (w:VZ) (os:XF):wideSeen q (sf w os)=wideGood q:=by
 kernel_rfl
def k9 (w:VZ) (os:XF):clsSeenW q ["FORMS"] (sf w os)=clsGoodW q ["FORMS"]:=by
 kernel_rfl
def ad:abz:=W1 620
def K (P:Y9):Frag:=ad.zip (L1 P)
def kY (w:VZ) (os:XF):X.obsZ ad (sf w os)=X.valZ K 620 1017 w:=by kernel_rfl
def left:LeftO p q ["FORMS"] (fun s=>xlAt q [] s&&recOk [] s) (X.obsZ ad) (X.valZ K 620 1017) 9170 :=
 LeftO.of_pieces (H₀:=YD) (H₁:=H1) (gs₀:=aaA []) (gs₁:=#[]) (d₀:=boot_drawn) (d₁:={}) (k₀:=boot_toks) (k₁:=1017) (m₀:=11) (ann:=(some (.ref 6))) (M:=(12+(1+(4523+2)))) S0 size run (by decide) fun w=>funext fun os=>XS (k0 w os) (XS (XS (k1 w os) (XS (k2 w os) (XS (k3 w os) (XS (k4 w os) (XS (k5 w os) (XS (k6 w os) (XS (k7 w os) (XS (k8 w os) (k9 w os))))))))) (kY w os))
def dP (s:WO):Pos:=match s with
 | .FunctionDef _ _ _ _ _ _ _ _ _ x=>x
 | _=>default
def d:DefRec:=⟨"law",dA (S 101),dB (S 101),dS (S 101),dP (S 101)⟩
def ws:PySem.Challenge.rw_tablestore_k33_sound_or_not.wellSaid=true:=by kernel_rfl
def hold (L:WalkX q ["FORMS"] (XL q []) (X.obsZ ad) (X.valZ K 620 1017) PySem.Challenge.rw_tablestore_k33_sound_or_not.row.toRowW d [] fun f vs=>aaI f vs):PySem.Challenge.rw_tablestore_k33_sound_or_not.Holds:=by
 refine holds_law ws fun J=>?_;refine holds_openX (q:=q) (loose:=["FORMS"]) (Xt:=fun s=>xlAt q [] s&&recOk [] s) (XP:=XL q []) (N:=9170) left (fun s e=>xl_of s (Xu.mp e).1) XL.keeps (d:=d) (kwd:=[]) (by kernel_rfl) (by kernel_rfl) (by kernel_rfl) (fun s e=>recFacts_of (Xu.mp e).2) (by rfl) J (by trivial) ⟨rfl,rfl,rfl,rfl,rfl,by trivial⟩ ?hw L
 case hw=>w_witness2
end HD
end
namespace L2
def gB {α J L ε:Type} {p q:α->J->L->ε->Prop} {r:Prop} (h:∃ a b c d,p a b c d/\q a b c d) (k:∀ a b c d,p a b c d->q a b c d->r):r:=by
 obtain ⟨a,b,c,d,x,y⟩:=h;exact k a b c d x y
def qQ {α J:Type} {p q r:α->J->Prop} {z:Prop} (h:∃ a b,p a b/\q a b/\r a b) (k:∀ a b,p a b->q a b->r a b->z):z:=by
 obtain ⟨a,b,x,y,w⟩:=h;exact k a b x y w
end L2
namespace L2
open PySem Sem
def q5 {M:Model} {Y:Ctx} {p:Pos} {t:Sem Fin} {fs:List Frame} {s:iF} {e:End} {s':iF} (h:Runs M Y p t fs s e s'):s.toks<=s'.toks:=by
 induction h <;> first
  | exact oR _
  | assumption
  | (rename_i ih;exact Nat.le_of_succ_le ih)
  | (rename_i J L;exact RW J L)
  | (rename_i h1 h2 h3 J L;exact RW J L)
def DF {M:Model} {Γ:Ctx} {p:Pos} {g:Nat} {r:Resume} {s:iF} {J:GenResult} {s':iF} (h:Wakes M Γ p g r s J s'):s.toks<=s'.toks:=by
 unfold Wakes at h;split at h
 .exact h.elim
 .split at h
  .obtain ⟨L,Y,h1,_,_,rfl⟩:=h;have q:=q5 h1;exact q
  .rw [h.2];exact oR _
  .rw [h.2];exact oR _
 .obtain ⟨L,Y,h1,_,_,rfl⟩:=h;have q:=q5 h1;exact q
 .rw [h.2];exact oR _
 .rw [h.2];exact oR _
def wp_toks {X:Type} {n:Nat} {post:X->Pos->iF->Prop} {Y:gs->Pos->iF->Prop} (M:Model) (Γ:Ctx) (L:Sem X) (pos:Pos) (sh:iF) (hn:n<=sh.toks)
  (pG:wp M Γ L (fun x p s=>n<=s.toks->post x p s) (fun x p s=>n<=s.toks->Y x p s) pos sh):wp M Γ L post Y pos sh:=by
 revert pG hn
 induction L generalizing pos sh with
 | pure x=>exact fun hn h=>h hn
 | raise v=>exact fun hn h=>h hn
 | unsupported|finish|yield|fork|await|register=>exact fun _ h=>h
 | rule _ k J|«at» _ k J|alloc _ k J|loadIfAlive _ k J|point _ k J|ask k J|os _ _ k J|handled _ k J|newGen _ k J|stack k J|thread k J=>exact fun hn h=>J _ _ _ hn h
 | fresh k J=>exact fun hn h=>J _ _ _ (Xv hn) h
 | load a _ k J|genState a k J=>exact fun hn ⟨o,ho,h⟩=>⟨o,ho,J _ _ _ hn h⟩
 | update a _ f k J|choose _ _ k J=>exact fun hn ⟨ha,h⟩=>⟨ha,J _ _ _ hn h⟩
 | call c h g l k J=>exact fun hn ⟨r,s',hr,hk⟩=>⟨r,s',hr,J r pos s' (RW hn (q5 hr)) hk⟩
 | resume g r l k J=>exact fun hn ⟨res,s',hw,h⟩=>⟨res,s',hw,J _ _ _ (RW hn (DF hw)) h⟩
def bi {α:Type} {M:Model} {A:VV} {t:Sem α} {Q:α->iF->Prop} {E:abx} {s:iF} {n:Nat} (hn:n<=s.toks)
  (h:Le M A t (fun v s'=>n<=s'.toks->Q v s') (fun e s'=>n<=s'.toks->E e s') s):Le M A t Q E s:=fun L p J=>wp_toks M L t p s hn (h L p J)
def ji {M:Model} {A:VV} {c:Code} {R:Result->iF->Prop} {s:iF} {n:Nat} (hn:n<=s.toks) (h:YU M A c (fun r s'=>n<=s'.toks->R r s') s):YU M A c R s:=fun L p e J =>
 let ⟨r,s',hr,hR⟩:=h L p e J
 ⟨r,s',hr,hR (RW hn (q5 hr))⟩
end L2
namespace L2
open PySem PySem.Spec PyProof.Rows
inductive Key where
 | inl (i:Int)|inr (x:Str)|nn
 deriving DecidableEq
def vZ:Key->gs->Bool
 | .inl k,v=>aae k v
 | .inr x,v=>XO x v
 | .nn,v=>match v with
  | .none=>true
  | _=>false
def UL (w:VZ):Key->Int
 | .inl k=>hashInt k
 | .inr x=>hashStr w x
 | .nn=>4238894112
def cW:∀ {k:Key} {v:gs},vZ k v=true->(∃ i t,k=Key.inl i/\v=aap i t)\/(∃ x t,k=Key.inr x/\v=aaq x t)\/(k=Key.nn/\v=Wh)
 | .inl i,v,h=>by
  obtain ⟨t,e⟩:=Value.isInt_shape (k:=i) (v:=v) h;exact .inl ⟨i,t,rfl,e⟩
 | .inr x,v,h=>by
  obtain ⟨t,e⟩:=Value.isStrOf_shape (x:=x) (v:=v) h;exact .inr (.inl ⟨x,t,rfl,e⟩)
 | .nn,v,h=>by
  cases v with
  | none=>exact .inr (.inr ⟨rfl,rfl⟩)
  | _=>exact nomatch h
def GQ (i:Int) (t:Tok):vZ (.inl i) (.int i t)=true:=by simp [vZ,aae]
def GG (x:Str) (t:Tok):vZ (.inr x) (.str x t)=true:=by simp [vZ,XO]
def Ow (a b:Int):decide ((Key.inl a:Key)=Key.inl b)=(a==b):=by
 by_cases e:a=b
 .subst e;simp
 .have h:¬ (Key.inl a:Key)=Key.inl b:=fun q=>e (Key.inl.inj q);rw [abp h];exact (beq_eq_false_iff_ne.mpr e).symm
def PH (a b:Str):decide ((Key.inr a:Key)=Key.inr b)=decide (a=b):=by
 by_cases e:a=b
 .subst e;simp
 .have h:¬ (Key.inr a:Key)=Key.inr b:=fun q=>e (Key.inr.inj q);rw [abp h,abp e]
def N7 (a:Int) (b:Str):decide ((Key.inl a:Key)=Key.inr b)=false:=abp (fun q=>nomatch q)
def O8 (a:Str) (b:Int):decide ((Key.inr a:Key)=Key.inl b)=false:=abp (fun q=>nomatch q)
def Iy {prog:VH} {w:VZ} {A:VV} {E:abx} {s:iF} {Q:Int->iF->Prop} (h:Q 4238894112 { s with toks:=s.toks+1 }):Le (VL prog w) A (PySem.pyHash .none) Q E s:=by
 unfold PySem.pyHash;have J:[Wh].any Value.onHeap=false:=rfl;refine bY ?_;rw [cRoomFor,abo (by rw [J];exact lT)];refine rW ?_;have ty:s.TypeIs .none "NoneType":=rfl;refine bY (wpAny_specialOf ty Xl.lookup ?_);show Le _ _ (if (some (Value.builtin "NoneType.__hash__")==some Wh)=true then _ else _) Q E s;rw [abo (by rw [beq_builtin_none];exact lT)];refine bY (wpAny_specialOf ty Xl.lookup ?_);show Le _ _ (callSpecialIfBoundUnlessNone? .none "__hash__" _ >>= _) Q E s;refine bY (wpAny_callSpecialIfBoundUnlessNone?_slot ty Xl
  (WE Xl ty PySem.F.entry_NoneType_hash
   (show Le _ _ (do ret (<- mkInt 4238894112)) _ _ s from wpAny_ret_mkInt ?_) (PySem.F.args_NoneType_hash_1 _)))
 show Le _ _ (if (decide (-(2:Int) ^ 63<=4238894112)&&decide ((4238894112:Int) < 2 ^ 63))=true then _ else _) Q E _;rw [abn (by decide)];exact rW h
def cA (prog:VH) (w:VZ):PySem.KeyKind prog w Key where
 is:=vZ
 hash:=UL w
 inj:=fun v a b L Y=>by
  rcases cW L with ⟨i,t,rfl,rfl⟩|⟨x,t,rfl,rfl⟩|⟨rfl,rfl⟩ <;> rcases cW Y with ⟨j,u,rfl,e⟩|⟨y,u,rfl,e⟩|⟨rfl,e⟩ <;> first|rfl|(cases e;rfl)|cases e
 byValue:=fun k v h=>by
  rcases cW h with ⟨i,t,rfl,rfl⟩|⟨x,t,rfl,rfl⟩|⟨rfl,rfl⟩ <;> rfl
 pyHash:=fun J h=>by
  rcases cW J with ⟨i,t,rfl,rfl⟩|⟨x,t,rfl,rfl⟩|⟨rfl,rfl⟩
  .exact wpAny_pyHash_int h
  .exact wpAny_pyHash_str h
  .exact Iy h
 eqBool:=fun hu J h=>by
  rcases cW hu with ⟨i,t,rfl,rfl⟩|⟨x,t,rfl,rfl⟩|⟨rfl,rfl⟩
  .rcases cW J with ⟨j,u,rfl,rfl⟩|⟨y,u,rfl,rfl⟩|⟨rfl,rfl⟩
   .rw [Ow] at h;exact wpAny_eqBool_int h
   .rw [N7] at h;exact aar i t y u _ _ _ _ h
   .exact aaf i t _ _ _ _ h
  .rcases cW J with ⟨j,u,rfl,rfl⟩|⟨y,u,rfl,rfl⟩|⟨rfl,rfl⟩
   .rw [O8] at h;exact aas x t j u _ _ _ _ h
   .rw [PH] at h;exact wpAny_eqBool_str h
   .exact aag x t _ _ _ _ h
  .rcases cW J with ⟨j,u,rfl,rfl⟩|⟨y,u,rfl,rfl⟩|⟨rfl,rfl⟩
   .exact aah j u _ _ _ _ h
   .exact aai y u _ _ _ _ h
   .exact aa3 _ _ _ _ _ h
 «strs»:=fun k x t v h=>by
  rcases cW h with ⟨i,u,rfl,e⟩|⟨y,u,rfl,e⟩|⟨rfl,e⟩
  .exact nomatch e
  .injection e with e1 _
   subst e1;cases v <;> rfl
  .exact nomatch e
def BW (prog:VH) (w:VZ) (i:Int) (t:Tok):(cA prog w).is (.inl i) (.int i t)=true:=GQ i t
def BG (prog:VH) (w:VZ) (x:Str) (t:Tok):(cA prog w).is (.inr x) (.str x t)=true:=GG x t
inductive V where
 | non|bl (b:Bool)|int (i:Int)|str (x:Str)|byt (b:Array UInt8)|flt (b:UInt64)|ref (a:Do)|ty (n:String)
 deriving DecidableEq
abbrev abB:=List V
def bq:V->gs->Prop
 | .non,u=>u=Wh
 | .bl b,u=>u=ZV b
 | .int i,u=>∃ t,u=aap i t
 | .str x,u=>∃ t,u=aaq x t
 | .byt b,u=>∃ t,u=Value.bytes b t
 | .flt b,u=>∃ t,u=aa4 b t
 | .ref a,u=>u=We a
 | .ty n,u=>u=YK n
abbrev bC:abB->abA->Prop:=Paired bq
theorem bC.length {xs:abB} {us:abA} (r:bC xs us):xs.length=us.length:=Zq r
def bC.get:∀ {xs:abB} {us:abA} {i:Nat} {x:V},bC xs us->xs[i]?=some x->∃ u,us[i]?=some u/\bq x u
 | _,_,_,_,.nil,e=>by simp at e
 | _,_,0,_,.cons r _,e=>by simp at e;subst e;exact ⟨_,rfl,r⟩
 | _,_,i+1,x,.cons _ t,e=>by
  obtain ⟨u,h1,h2⟩:=bC.get (i:=i) (x:=x) t (by simpa using e);exact ⟨u,by simpa using h1,h2⟩
def bC.append:∀ {xs ys:abB} {us ws:abA},bC xs us->bC ys ws->bC (xs++ys) (us++ws)
 | _,_,_,_,.nil,s=>s
 | _,_,_,_,.cons r t,s=>.cons r (bC.append t s)
def bC.take:∀ {xs:abB} {us:abA} (n:Nat),bC xs us->bC (xs.take n) (us.take n)
 | _,_,0,_=>.nil
 | _,_,_+1,.nil=>.nil
 | _,_,n+1,.cons r t=>.cons r (bC.take n t)
def bC.drop:∀ {xs:abB} {us:abA} (n:Nat),bC xs us->bC (xs.drop n) (us.drop n)
 | _,_,0,r=>r
 | _,_,_+1,.nil=>.nil
 | _,_,n+1,.cons _ t=>bC.drop n t
def vz:Option V->Option gs->Prop
 | some v,some u=>bq v u
 | none,none=>True
 | _,_=>False
def KV {κ:Type}:List (κ×V)->List (κ×gs)->Prop:=Paired fun (p:κ×V) (q:κ×gs)=>p.1=q.1/\bq p.2 q.2
def kV:Key->V
 | .inl i=>.int i
 | .inr x=>.str x
 | .nn=>.non
inductive HO where
 /-- a list -/
 | lst (xs:abB)
 /-- a tuple (never changes) -/
 | tup (xs:abB)
 /-- a dict whose keys are ints and texts;one whose keys are tuples of ints and texts (the empty one is both) -/
 | dK (kvs:List (Key×V))|dT (kvs:List (List Key×V))
 /-- a set of ints: its members,its size -/
 | set (S:Int->Bool) (n:Nat)
 /-- an instance of the class at C,its dict at dx,its attributes -/
 | ins (C dx:Do) (fs:List (Str×V))
 /-- the dict of the instance at x -/
 | own (x:Do)
 /-- the dict of an exception -/
 | xd (fs:List (Str×V))
 /-- a bound method,f of x -/
 | met (f x:Do)
 /-- a range object lo,lo+1,.. below hi -/
 | rng (lo hi:Int)
 /-- a thing that is pG to the object (the script;a dict while a loop walks it): read,never written while it is so -/
 | frz (o:Obj) (u:HO)
 /-- a code object's table -/
 | tbl (ps:Array gs)
 /-- any other thing,by what is true of its one object (a def of one's own: SetO a S n:=HO.ext fun h=>..) -/
 | ext (φ:Xj->Prop)
abbrev Hp:=Do->Option HO
def upd (H:Hp) (a:Do) (o:HO):Hp:=fun b=>if b=a then some o else H b
def a9 {H:Hp} {a:Do} {o:HO}:upd H a o a=some o:=by unfold upd;rw [abn rfl]
def aU {H:Hp} {a b:Do} {o:HO} (h:b≠a):upd H a o b=H b:=by unfold upd;rw [abo h]
def Ac {H:Hp} {a:Do} {o u:HO}:upd (upd H a o) a u=upd H a u:=by
 funext b;unfold upd;split <;> rfl
def Tg {H:Hp} {a b:Do} {o u:HO} (h:H a=some o) (h':H b=some u) (d:o≠u):a≠b:=by
 intro e;subst e;rw [h] at h';exact d (VS h')
def bR {H:Hp} {a b:Do} {o:HO} (h:H a=some o) (h':H b=none):a≠b:=by
 intro e;subst e;rw [h] at h';cases h'
section
variable (P:VH) (w:VZ)
def cc (H:Hp) (h:Xj) (a:Do):HO->Prop
 | .lst xs=>xs.length<=IF/\∃ (its:abA) (n:Nat),bC xs its/\h.get? a=some { cls:=.type "list",data:=.seq its.toArray n }
 | .tup xs=>xs.length<=IF/\∃ its:abA,bC xs its/\YE h a its.toArray
 | .dK kvs=>kvs.length<=IF/\(a==W2)=false/\∃ vs,KV kvs vs/\h.DictOf (cA P w) a vs
 | .dT kvs=>kvs.length<=IF/\(a==W2)=false/\∃ xs:List (List Key×Do×gs),
   Paired (fun (p:List Key×V) (q:List Key×Do×gs)=>p.1=q.1/\H q.2.1=some (.tup (p.1.map kV))/\bq p.2 q.2.2) kvs xs /\
   ∃ o es ep,h.get? a=some o/\o.ExactDict/\o.data=.dict es ep/\es.toList=xs.map (entryOfKey (tupleKind (cA P w)))/\(xs.map (·.1)).Nodup
 | .set S n=>h.SetOf (intKind P w) a S n
 | .ins C dx fs=>H dx=some (.own a)/\fs.length<=1000/\dx≠a/\h.get? a=some (Xf C dx) /\
   ∃ mA,h.Ns1 dx mA/\(∀ f,vz (fs.lookup f) (mA f))/\aaO mA (fs.map (·.1))
 | .own _=>∃ o,h.get? a=some o
 | .xd fs=>∃ mA,h.Ns1 a mA/\∀ f,vz (fs.lookup f) (mA f)
 | .rng lo hi=>∃ t u v,h.get? a=some { cls:=.type "range",data:=.fields #[.int lo t,.int hi u,.int 1 v] }
 | .frz o u=>h.get? a=some o/\cc H h a u
 | .tbl ps=>h.get? a=some { cls:=.none,data:=.fields ps }
 | .met f x=>h.get? a=some (Zf (.ref f) (.ref x))
 | .ext φ=>φ h/\(∃ o,h.get? a=some o)/\∀ h1 h2:Xj,φ h1->(∀ o,h1.get? a=some o->h2.get? a=some o)->φ h2
def tF (H:Hp) (h:Xj):Prop:=∀ a o,H a=some o->cc P w H h a o
end
section
variable {P:VH} {w:VZ} {H H':Hp} {h h':Xj} {a:Do} {o:HO}
def cc.lt (x:cc P w H h a o):a < h.objs.size:=by
 cases o with
 | lst xs=>obtain ⟨_,_,_,_,e⟩:=x;exact ID e
 | tup xs=>obtain ⟨_,_,_,p⟩:=x;exact p.lt
 | dK kvs=>obtain ⟨_,_,_,_,o,_,_,e,_⟩:=x;exact ID e
 | dT kvs=>obtain ⟨_,_,_,_,o,_,_,e,_⟩:=x;exact ID e
 | set S n=>obtain ⟨o,_,_,_,e,_⟩:=x;exact ID e
 | ins C dx fs=>obtain ⟨_,_,_,e,_⟩:=x;exact ID e
 | own y=>obtain ⟨_,e⟩:=x;exact ID e
 | xd fs=>obtain ⟨_,⟨_,_,_,e,_⟩,_⟩:=x;exact ID e
 | rng lo hi=>obtain ⟨_,_,_,e⟩:=x;exact ID e
 | frz J u=>obtain ⟨e,_⟩:=x;exact ID e
 | tbl ps=>exact ID (show h.get? a=some _ from x)
 | met f y=>exact ID (show h.get? a=some _ from x)
 | ext φ=>obtain ⟨_,⟨_,e⟩,_⟩:=x;exact ID e
def Paired.mapP {α Y:Type} {F G:α->Y->Prop}:∀ {L:List α} {J:List Y},Paired F L J->(∀ a b,F a b->G a b)->Paired G L J
 | _,_,.nil,_=>.nil
 | _,_,.cons r t,f=>.cons (f _ _ r) (Paired.mapP t f)
def cc.stay (x:cc P w H h a o) (k:∀ b u,(b=a\/H b=some (.own a))->h.get? b=some u->h'.get? b=some u)
  (ho:∀ b,H b=some (.own a)->H' b=some (.own a)) (ht:∀ b xs,H b=some (.tup xs)->H' b=some (.tup xs)):cc P w H' h' a o:=by
 induction o with
 | lst xs=>obtain ⟨z,its,n,r,e⟩:=x;exact ⟨z,its,n,r,k _ _ (.inl rfl) e⟩
 | tup xs=>obtain ⟨z,its,r,J,e,c⟩:=x;exact ⟨z,its,r,J,k _ _ (.inl rfl) e,c⟩
 | dK kvs=>obtain ⟨z,y,vs,r,J,es,ep,e,c⟩:=x;exact ⟨z,y,vs,r,J,es,ep,k _ _ (.inl rfl) e,c⟩
 | dT kvs =>
  obtain ⟨z,y,xs,r,J,es,ep,e,c⟩:=x;exact ⟨z,y,xs,Paired.mapP r fun p q z=>⟨z.1,ht _ _ z.2.1,z.2.2⟩,J,es,ep,k _ _ (.inl rfl) e,c⟩
 | set S n=>obtain ⟨J,es,ep,t,e,c⟩:=x;exact ⟨J,es,ep,t,k _ _ (.inl rfl) e,c⟩
 | ins C dx fs =>
  obtain ⟨d,z,ne,e,mA,⟨od,es,ep,Y,c⟩,r⟩:=x;exact ⟨ho _ d,z,ne,k _ _ (.inl rfl) e,mA,⟨od,es,ep,k _ _ (.inr d) Y,c⟩,r⟩
 | own y=>obtain ⟨J,e⟩:=x;exact ⟨J,k _ _ (.inl rfl) e⟩
 | xd fs=>obtain ⟨mA,⟨od,es,ep,e,c⟩,r⟩:=x;exact ⟨mA,⟨od,es,ep,k _ _ (.inl rfl) e,c⟩,r⟩
 | rng lo hi=>obtain ⟨t,u,v,e⟩:=x;exact ⟨t,u,v,k _ _ (.inl rfl) e⟩
 | frz J u L=>obtain ⟨e,q⟩:=x;exact ⟨k _ _ (.inl rfl) e,L q⟩
 | tbl ps =>
  have e:h.get? a=some { cls:=.none,data:=.fields ps }:=x;show h'.get? a=some { cls:=.none,data:=.fields ps };exact k a _ (.inl rfl) e
 | met f y =>
  have e:h.get? a=some (Zf (.ref f) (.ref y)):=x;show h'.get? a=some (Zf (.ref f) (.ref y));exact k a _ (.inl rfl) e
 | ext φ=>obtain ⟨p,⟨o,e⟩,st⟩:=x;exact ⟨st _ _ p fun o q=>k _ _ (.inl rfl) q,⟨o,k _ _ (.inl rfl) e⟩,st⟩
def tF.lt (x:tF P w H h) (e:H a=some o):a < h.objs.size:=(x a o e).lt
def tF.fresh (x:tF P w H h) (e:h.objs.size<=a):H a=none:=by
 cases q:H a with
 | none=>rfl
 | some u=>exact absurd (VE (x.lt q) e) (XD _)
def tF.kept (x:tF P w H h) (k:∀ b u,h.get? b=some u->h'.get? b=some u):tF P w H h':=fun a o e =>
 (x a o e).stay (fun b u _ q=>k b u q) (fun _ q=>q) fun _ _ q=>q
def tF.laid (x:tF P w H h) (k:∀ b u,h.get? b=some u->h'.get? b=some u) (L:h.objs.size<=a) (new:cc P w (upd H a o) h' a o):tF P w (upd H a o) h':=fun b u e=>by
 have hn:=x.fresh L;by_cases J:b=a
 .subst J;rw [a9] at e;cases e;exact new
 .rw [aU J] at e;exact (x b u e).stay (fun c v _ q=>k c v q) (fun c q=>by rw [aU (bR q hn)];exact q) fun c xs q=>by rw [aU (bR q hn)];exact q
end
def Rd (H:Hp) (a:Do) (u:HO):Prop:=H a=some u\/∃ o,H a=some (.frz o u)
theorem Rd.ok {P:VH} {w:VZ} {H:Hp} {h:Xj} {a:Do} {u:HO} (r:Rd H a u) (x:tF P w H h):cc P w H h a u:=by
 rcases r with r|⟨o,r⟩
 .exact x a u r
 .obtain ⟨_,q⟩:=x a _ r;exact q
def Rv:Option HO->Prop
 | some (.lst _)=>True
 | some (.dK _)=>True
 | some (.dT _)=>True
 | some (.set _ _)=>True
 | some (.ins _ _ _)=>True
 | some (.ext _)=>True
 | _=>False
section
variable {P:VH} {w:VZ} {H:Hp} {h h':Xj} {x e:Do} {o':HO}
def tF.write (ok:tF P w H h) (mu:Rv (H x)) (he:e=x\/H e=some (.own x)) (k:∀ b u,b≠e->h.get? b=some u->h'.get? b=some u) (heo:∃ u,h'.get? e=some u)
  (new:cc P w (upd H x o') h' x o'):tF P w (upd H x o') h':=fun b u q=>by
 have L:∀ c y,H c=some (.own y)->c≠x:=fun c y r z=>by subst z;rw [r] at mu;exact mu
 have Y:∀ c xs,H c=some (.tup xs)->c≠x:=fun c xs r z=>by subst z;rw [r] at mu;exact mu
 by_cases hb:b=x
 .subst hb;rw [a9] at q;cases q;exact new
 .rw [aU hb] at q;by_cases J:b=e
  .have q':H b=some (.own x):=by
    rcases he with z|z
    .exact absurd (J.trans z) hb
    .rw [J];exact z
   rw [q] at q';cases q';obtain ⟨v,hv⟩:=heo;exact ⟨v,by rw [J];exact hv⟩
  .refine (ok b u q).stay (fun c v hc r=>k c v ?_ r) (fun c r=>by rw [aU (L c b r)];exact r) fun c xs r=>by rw [aU (Y c xs r)];exact r
   rcases hc with rfl|hc
   .exact J
   .rintro rfl;rcases he with z|z
    .exact L c b hc z
    .rw [hc] at z;cases z;exact hb rfl
end
structure Un (fs ex:abz) (H H':Hp) (h h':Xj):Prop where
 keep:∀ b o,h.get? b=some o->H b=none->b∉fs->b∉ex->h'.get? b=some o
 slot:∀ b o,h.get? b=some o->H b=none->b∈fs->b∉ex->∃ sl,h'.get? b=some { o with slots:=sl }
 free:∀ b o,h.get? b=some o->H b=none->b∉ex->H' b=none
 there:∀ b o,h.get? b=some o->b∉ex->∃ o',h'.get? b=some o'
 tups:∀ b xs,H b=some (.tup xs)->H' b=some (.tup xs)
 frzs:∀ b o u,H b=some (.frz o u)->H' b=some (.frz o u)
 tbls:∀ b ps,H b=some (.tbl ps)->∃ more,H' b=some (.tbl (ps++more))
section
variable {fs fs' ex ex':abz} {H H1 H2:Hp} {h h1 h2 h':Xj} {a x e:Do} {o:HO}
def Un.any (u:Un fs ex H H1 h h1) {b:Do} {J:Obj} (q:h.get? b=some J) (n:H b=none) (Y:b∉ex):∃ sl,h1.get? b=some { J with slots:=sl }:=by
 by_cases L:b∈fs
 .exact u.slot b J q n L Y
 .exact ⟨J.slots,u.keep b J q n L Y⟩
def Un.kept (k:∀ b u,h.get? b=some u->h'.get? b=some u):Un fs ex H H h h' :=
 ⟨fun b J q _ _ _=>k b J q,fun b J q _ _ _=>⟨J.slots,k b J q⟩,fun _ _ _ n _=>n,fun b J q _=>⟨J,k b J q⟩,fun _ _ q=>q,fun _ _ _ q=>q,fun _ ps q=>⟨#[],by rw [q];simp⟩⟩
def Un.refl:Un fs ex H H h h:=Un.kept fun _ _ q=>q
def Un.laid (k:∀ b u,h.get? b=some u->h'.get? b=some u) (J:h.objs.size<=a) (hn:H a=none):Un fs ex H (upd H a o) h h' where
 keep:=fun b u q _ _ _=>k b u q
 slot:=fun b u q _ _ _=>⟨u.slots,k b u q⟩
 free:=fun b u q n _=>by rw [aU (VI (VE (ID q) J))];exact n
 there:=fun b u q _=>⟨u,k b u q⟩
 tups:=fun b xs q=>by rw [aU (bR q hn)];exact q
 frzs:=fun b u xs q=>by rw [aU (bR q hn)];exact q
 tbls:=fun b ps q=>⟨#[],by rw [aU (bR q hn),q];simp⟩
def Un.write (L:Rv (H x)) (he:e=x\/H e=some (.own x)) (k:∀ b u,b≠e->h.get? b=some u->h'.get? b=some u) (Y:∃ u,h'.get? e=some u):Un fs ex H (upd H x o) h h':=by
 have hx:∀ b,H b=none->b≠x:=fun b n z=>by subst z;rw [n] at L;exact L
 have hb:∀ b,H b=none->b≠e:=fun b n z=>by
  subst z;rcases he with r|r
  .exact hx b n r
  .rw [n] at r;cases r
 have hm:∀ b u,H b=some u->¬ Rv (some u)->b≠x:=fun b u q nm z=>by subst z;rw [q] at L;exact nm L
 refine ⟨fun b u q n _ _=>k b u (hb b n) q,fun b u q n _ _=>⟨u.slots,k b u (hb b n) q⟩,fun b u q n _=>by rw [aU (hx b n)];exact n,fun b u q _=>?_,
  fun b xs q=>by rw [aU (hm b _ q fun z=>z)];exact q,fun b u xs q=>by rw [aU (hm b _ q fun z=>z)];exact q,fun b ps q=>⟨#[],by rw [aU (hm b _ q fun z=>z),q];simp⟩⟩
 by_cases J:b=e
 .subst J;exact Y
 .exact ⟨u,k b u J q⟩
end
def TC (h:Xj) (H:Hp):abz:=(W1 h.objs.size).filter fun a=>(H a).isSome
def zT (h:Xj) (H:Hp):Xj:=PySem.W.hideAll h (TC h H)
def GN (h:Xj) (H:Hp):(zT h H).objs.size=h.objs.size:=PySem.W.hideAll_size _ _
def IG {h:Xj} {H:Hp} {b:Do} {o:Obj} (e:h.get? b=some o) (n:H b=none):(zT h H).get? b=some o :=
 PySem.W.hideAll_get _ e fun J=>by
  have q:(H b).isSome=true:=(XI.mp J).2;rw [n] at q;simp at q
def Mi {h:Xj} {H:Hp} {b:Do} {o:Obj} (e:(zT h H).get? b=some o):h.get? b=some o/\H b=none:=by
 have J:h.get? b=some o:=PySem.W.of_hideAll (TC h H) e;refine ⟨J,?_⟩;cases q:H b with
 | none=>rfl
 | some x =>
  have L:b∈TC h H:=XI.mpr ⟨Z7.mpr (ID J),by simp [q]⟩;have z:(zT h H).get? b=none:=PySem.W.hideAll_none (TC h H) L;rw [z] at e;cases e
structure Mod (K:aT) (mg:aby) (base:Xj):Prop where
 kin:K.In base
 glob:base.Ns VF mg
 blt:∃ mb,base.Ns builtinsNs mb/\∀ x:Str,x≠"__name__"->mb x=VO x
 nolimit:base.NoLimit
structure Cx where
 prog:VH
 w:VZ
 K:aT
 mg:Str->Option gs
 base:Xj
 A:VV
 N:abv
 s₀:iF
 H₀:Hp
 env:Env
 outer:List Env
 stack:List Env
 ex:abz
 fn:Str->Bool
 calm:Bool
 tn:Nat:=0
 pn:abw
 xe:gs->iF->Prop
def HF (l:List Env):abz:=l.filterMap (·.frame)
abbrev Cx.fs (X:Cx):abz:=HF X.outer
def Ev (J:Scope) (x:Str):Prop:=J.names.lookup x=some .local\/J.names.lookup x=some .cell\/J.names.lookup x=some .free
def HB (J:Scope) (x:Str):Prop:=J.names.lookup x=some .local\/J.names.lookup x=some .cell
def Uk (env:Env) (h:Xj) (m:aby) (x:Str) (u:gs):Prop :=
 (env.kindOf x=some .local/\m x=some u)\/((env.kindOf x=some .cell\/env.kindOf x=some .free)/\∃ c,env.cells.lookup x=some c/\h.IsCell c (some u))
structure Cx.Ok (X:Cx):Prop where
 mod:Mod X.K X.mg X.base
 kind:X.env.scope.kind=.function
 glob:X.env.globals=VF
 blt:X.env.builtins=builtinsNs
 above:X.s₀.heap.objs.size<=X.env.locals
 inj:∀ x y c,X.env.cells.lookup x=some c->X.env.cells.lookup y=some c->x=y
 has:∀ x,(X.env.kindOf x=some .cell\/X.env.kindOf x=some .free)->∃ c,X.env.cells.lookup x=some c
 cab:∀ x c,X.fn x=true->X.env.cells.lookup x=some c->X.s₀.heap.objs.size<=c
 hd:X.calm=true->X.A.handled=none
 frames:X.A.frames=some X.stack
 stk:X.stack=X.outer\/(X.stack=X.env::X.outer/\X.env.frame=some X.env.locals)
 exf:∀ b∈X.ex,b≠X.env.locals/\∀ x c,X.env.cells.lookup x=some c->c≠b
 bs:∀ b o,X.base.get? b=some o->X.s₀.heap.get? b=some o/\X.H₀ b=none
 bsz:X.base.objs.size<=X.s₀.heap.objs.size
 noex:∀ b o,X.base.get? b=some o->b∉X.ex
 exfs:∀ b∈X.ex,b∉X.fs
 funs:X.s₀.heap.FunFrames X.base X.outer
 frf:∀ b∈X.fs,X.H₀ b=none
structure Inv (X:Cx) (af:abw) (Z:List (Option V)) (H:Hp) (s:iF):Prop where
 ok:X.Ok
 os:s.os=X.s₀.os
 bare:AllBare s.gens
 base:Un X.fs X.ex X.H₀ H X.s₀.heap s.heap
 loc:∃ m,s.heap.Ns X.env.locals m/\∀ (i:Nat) (x:Str) (v:V),X.N[i]?=some x->Z[i]?=some (some v)->Ev X.env.scope x->∃ u,bq v u/\Uk X.env s.heap m x u
 cell:∀ x c,X.env.cells.lookup x=some c->∃ v,s.heap.IsCell c v
 free:H X.env.locals=none
 freeC:∀ x c,X.env.cells.lookup x=some c->H c=none
 pin:∀ p∈X.pn++af,s.heap.get? p.1=some p.2/\H p.1=none/\p.1≠X.env.locals/\p.1∉X.fs/\∀ v,p.2.data≠.cell v
 hok:tF X.prog X.w H s.heap
 len:Z.length=X.N.length
 tk:X.tn<=s.toks
end L2
local macro_rules | `(tactic| walk_at "tok") => `(tactic| first | assumption | exact L2.Inv.tk (by assumption) | exact Nat.le_succ_of_le (L2.Inv.tk (by assumption)) | exact Nat.le_succ_of_le (Nat.le_succ_of_le (L2.Inv.tk (by assumption))) | (have hI := L2.Inv.tk (by assumption); omega) | exact Nat.zero_le _)
namespace L2
open PySem PySem.Spec PyProof.Rows
section
variable {X:Cx} {af:abw} {Z:List (Option V)} {H H':Hp} {s:iF} {h':Xj}
def Cx.Ok.nofr (ok:X.Ok) {b:Do} {o:Obj} (e:X.base.get? b=some o):b∉X.fs:=fun J=>by
 have:=(ok.funs.mem J).1
 rw [e] at this;cases this
def Inv.bs (I:Inv X af Z H s):∀ b o,X.base.get? b=some o->s.heap.get? b=some o/\H b=none:=fun b o e =>
 ⟨I.base.keep b o (I.ok.bs b o e).1 (I.ok.bs b o e).2 (I.ok.nofr e) (I.ok.noex b o e),I.base.free b o (I.ok.bs b o e).1 (I.ok.bs b o e).2 (I.ok.noex b o e)⟩
def Inv.bk (I:Inv X af Z H s):∀ b o,X.base.get? b=some o->s.heap.get? b=some o:=fun b o e=>(I.bs b o e).1
def Inv.mod (I:Inv X af Z H s):Mod X.K X.mg X.base:=I.ok.mod
def Inv.kIn (I:Inv X af Z H s):X.K.In s.heap:=I.ok.mod.kin.keeps I.bk
def Inv.fr (I:Inv X af Z H s):∃ m,Fr X.base X.env.locals s.heap m :=
 let ⟨m,hn,_⟩:=I.loc
 ⟨m,hn,I.bk,RW I.ok.bsz I.ok.above⟩
def Inv.lt (I:Inv X af Z H s):X.env.locals < s.heap.objs.size:=let ⟨_,hn,_⟩:=I.loc;hn.lt
def Inv.sz (I:Inv X af Z H s):X.s₀.heap.objs.size<=s.heap.objs.size:=RW I.ok.above (aaP I.lt)
def Inv.nofs (I:Inv X af Z H s) {a:Do} (h:s.heap.objs.size<=a):a∉X.fs:=fun L=>by
 obtain ⟨_,o,J,_⟩:=I.ok.funs.mem L;exact absurd (VE (ID J) (RW I.sz h)) (XD _)
def Inv.cne (I:Inv X af Z H s):∀ x c,X.env.cells.lookup x=some c->c≠X.env.locals:=fun x c e z=>by
 obtain ⟨v,o,Y,hd⟩:=I.cell x c e;obtain ⟨m,⟨o',es,ep,L,J,_⟩,_⟩:=I.loc;rw [z,L] at Y;cases Y;rw [J] at hd;cases hd
def Inv.funs (I:Inv X af Z H s):s.heap.FunFrames X.base X.outer:=by
 have all:∀ (l:List Env),(∀ b∈HF l,b∈X.fs)->X.s₀.heap.FunFrames X.base l->s.heap.FunFrames X.base l:=by
  intro l;induction l with
  | nil=>intro _ _;trivial
  | cons env r ih =>
   intro hs hl;obtain ⟨hk,⟨L,o,hf,hn,ho,hd⟩,hr⟩:=hl;have J:L∈X.fs:=hs L (by unfold HF;rw [YL,hf];exact OR);obtain ⟨sl,e⟩:=I.base.slot L o ho (I.ok.frf L J) J fun z=>I.ok.exfs L z J;exact ⟨hk,⟨L,_,hf,hn,e,hd⟩,ih (fun b Y=>hs b (by unfold HF;rw [YL,hf];exact mK _ Y)) hr⟩
 exact all X.outer (fun _ Y=>Y) I.ok.funs
def Inv.stack (I:Inv X af Z H s):s.heap.FunFrames X.base X.stack:=by
 rcases I.ok.stk with e|⟨e,hf⟩
 .rw [e];exact I.funs
 .rw [e];obtain ⟨m,hn,_⟩:=I.loc;refine .cons (by rw [I.ok.kind];decide) hf hn ?_ I.funs;exact Z1 (RW I.ok.bsz I.ok.above)
def Inv.stkSub (I:Inv X af Z H s):∀ b∈HF X.stack,b∈X.env.locals::X.fs:=fun b J=>by
 rcases I.ok.stk with e|⟨e,hf⟩
 .rw [e] at J;exact mK _ J
 .rw [e] at J;unfold HF at J;rw [YL,hf] at J;exact J
def Inv.stkFree (I:Inv X af Z H s):∀ b∈HF X.stack,H b=none:=fun b J=>by
 rcases nE.mp (I.stkSub b J) with e|J
 .rw [e];exact I.free
 .obtain ⟨_,o,L,_⟩:=I.ok.funs.mem J;exact I.base.free b o L (I.ok.frf b J) fun z=>I.ok.exfs b z J
def Inv.step {g':Array GenState} {t':Nat} {d':Drawn} {ch:abz} (I:Inv X af Z H s)
  (hch:∀ b∈ch,(b∈X.ex\/X.s₀.heap.objs.size<=b)/\b≠X.env.locals/\(∀ x c,X.env.cells.lookup x=some c->c≠b)/\∀ p∈X.pn++af,p.1≠b)
  (keep:∀ b o,b≠X.env.locals->b∉X.fs->b∉ch->s.heap.get? b=some o->H b=none->h'.get? b=some o)
  (slot:∀ b o,b≠X.env.locals->b∈X.fs->b∉ch->s.heap.get? b=some o->H b=none->∃ sl,h'.get? b=some { o with slots:=sl }) (free:∀ b o,b∉ch->s.heap.get? b=some o->H b=none->H' b=none)
  (there:∀ b o,b∉ch->s.heap.get? b=some o->∃ o',h'.get? b=some o')
  (tups:∀ b xs,H b=some (.tup xs)->H' b=some (.tup xs)) (frzs:∀ b o u,H b=some (.frz o u)->H' b=some (.frz o u)) (tbls:∀ b ps,H b=some (.tbl ps)->∃ more,H' b=some (.tbl (ps++more)))
  (ns:∀ m,s.heap.Ns X.env.locals m->h'.Ns X.env.locals m) (hok:tF X.prog X.w H' h') (hg:AllBare g') (ht:X.tn<=t':=by walk_at "tok") :
  Inv X af Z H' { s with heap:=h',gens:=g',drawn:=d',toks:=t' }:=by
 have neL:∀ b o,X.s₀.heap.get? b=some o->b≠X.env.locals:=fun b o e=>VI (VE (ID e) I.ok.above);have neC:∀ b o,X.s₀.heap.get? b=some o->b∉X.ex->b∉ch:=fun b o e J hb=>by
  rcases (hch b hb).1 with z|z
  .exact J z
  .exact absurd (VE (ID e) z) (XD _)
 have L:∀ x c,X.env.cells.lookup x=some c->∀ v,s.heap.IsCell c v->h'.IsCell c v:=fun x c e v ⟨o,ho,hd⟩=>by
  have Y:c∉ch:=fun z=>(hch c z).2.2.1 x c e rfl;by_cases hc:c∈X.fs
  .obtain ⟨sl,q⟩:=slot c o (I.cne x c e) hc Y ho (I.freeC x c e);exact ⟨_,q,hd⟩
  .exact ⟨o,keep c o (I.cne x c e) hc Y ho (I.freeC x c e),hd⟩
 refine ⟨I.ok,I.os,hg,⟨fun b o e n hb J=>?_,fun b o e n hb J=>?_,fun b o e n J=>?_,fun b o e J=>?_,fun b xs e=>tups b xs (I.base.tups b xs e),fun b o xs e=>frzs b o xs (I.base.frzs b o xs e),fun b ps e=>?_⟩,?_,fun x c e=>?_,?_,fun x c e=>?_,fun p hp=>?_,hok,I.len,ht⟩
 .exact keep b o (neL b o e) hb (neC b o e J) (I.base.keep b o e n hb J) (I.base.free b o e n J)
 .obtain ⟨sl,e1⟩:=I.base.slot b o e n hb J;obtain ⟨sl',e2⟩:=slot b _ (neL b o e) hb (neC b o e J) e1 (I.base.free b o e n J);exact ⟨sl',e2⟩
 .obtain ⟨o',e1⟩:=I.base.there b o e J;exact free b o' (neC b o e J) e1 (I.base.free b o e n J)
 .obtain ⟨o',e1⟩:=I.base.there b o e J;exact there b o' (neC b o e J) e1
 .obtain ⟨m1,e1⟩:=I.base.tbls b ps e;obtain ⟨m2,e2⟩:=tbls b _ e1;exact ⟨m1++m2,by rw [e2,Array.append_assoc]⟩
 .obtain ⟨m,hn,hl⟩:=I.loc;refine ⟨m,ns m hn,fun i x v e1 e2 e3=>?_⟩;obtain ⟨u,r,l⟩:=hl i x v e1 e2 e3;refine ⟨u,r,?_⟩;rcases l with l|⟨k,c,e,z⟩
  .exact .inl l
  .exact .inr ⟨k,c,e,L x c e _ z⟩
 .obtain ⟨v,z⟩:=I.cell x c e;exact ⟨v,L x c e v z⟩
 .obtain ⟨m,⟨o,_,_,ho,_⟩,_⟩:=I.loc;exact free _ o (fun z=>(hch _ z).2.1 rfl) ho I.free
 .obtain ⟨v,o,ho,hd⟩:=I.cell x c e;exact free c o (fun z=>(hch c z).2.2.1 x c e rfl) ho (I.freeC x c e)
 .obtain ⟨e,n,ne,nf,d⟩:=I.pin p hp;have Y:p.1∉ch:=fun z=>(hch p.1 z).2.2.2 p hp rfl;exact ⟨keep p.1 p.2 ne nf Y e n,free p.1 p.2 Y e n,ne,nf,d⟩
def Inv.un {t':Nat} (I:Inv X af Z H s) (u:Un X.fs [] H H' s.heap h') (hok:tF X.prog X.w H' h') (ht:X.tn<=t':=by walk_at "tok"):Inv X af Z H' { s with heap:=h',toks:=t' }:=by
 obtain ⟨m,⟨o,es,ep,ho,r⟩,_⟩:=id I.loc;obtain ⟨sl,hL⟩:=u.any ho I.free (by simp);exact I.step (g':=s.gens) (d':=s.drawn) (ch:=[]) (fun _ z=>nomatch z) (fun b o _ Y _ e n=>u.keep b o e n Y (by simp)) (fun b o _ Y _ e n=>u.slot b o e n Y (by simp)) (fun b o _ e n=>u.free b o e n (by simp)) (fun b o _ e=>u.there b o e (by simp)) u.tups u.frzs u.tbls (fun m' hm=>by
  obtain ⟨o',es',L,J,r'⟩:=hm;rw [ho] at J;cases J;exact ⟨_,es',L,hL,r'⟩) hok I.bare
def Inv.call {g':Array GenState} {t':Nat} {d':Drawn} {ch:abz} (I:Inv X af Z H s) (u:Un (HF X.stack) ch H H' s.heap h') (hok:tF X.prog X.w H' h') (hg:AllBare g')
  (Y:∀ b∈ch,(b∈X.ex\/X.s₀.heap.objs.size<=b)/\b≠X.env.locals/\(∀ x c,X.env.cells.lookup x=some c->c≠b)/\∀ p∈X.pn++af,p.1≠b) (ht:X.tn<=t':=by walk_at "tok") :
  Inv X af Z H' { s with heap:=h',gens:=g',drawn:=d',toks:=t' }:=by
 obtain ⟨m,⟨o,es,ep,ho,r⟩,_⟩:=id I.loc;obtain ⟨sl,hL⟩:=u.any ho I.free fun z=>(Y _ z).2.1 rfl;exact I.step (ch:=ch) Y (fun b o hL hb J e n=>u.keep b o e n (fun z=>(nE.mp (I.stkSub b z)).elim hL hb) J) (fun b o _ _ J e n=>u.any e n J) (fun b o J e n=>u.free b o e n J) (fun b o J e=>u.there b o e J) u.tups u.frzs u.tbls (fun m' hm=>by
  obtain ⟨o',es',ep',L,r'⟩:=hm;rw [ho] at L;cases L;exact ⟨_,es',ep',hL,r'⟩) hok hg
def Inv.turned {t':Nat} {it:Do} (I:Inv X af Z H s) (k:∀ b o,b≠it->s.heap.get? b=some o->h'.get? b=some o) (hn:H it=none) (Y:it≠X.env.locals)
  (h1:it∈X.ex\/X.s₀.heap.objs.size<=it) (h2:∀ x c,X.env.cells.lookup x=some c->c≠it) (h3:∀ p∈X.pn++af,p.1≠it) (ht:X.tn<=t':=by walk_at "tok"):Inv X af Z H { s with heap:=h',toks:=t' }:=by
 have L:∀ b u,H b=some u->b≠it:=fun b u e z=>by rw [z,hn] at e;cases e
 refine I.step (g':=s.gens) (d':=s.drawn) (ch:=[it]) (fun b hb=>?_) (fun b o _ _ J e _=>k b o (fun z=>J (by simp [z])) e) (fun b o _ _ J e _=>⟨o.slots,k b o (fun z=>J (by simp [z])) e⟩) (fun _ _ _ _ n=>n)
  (fun b o J e=>⟨o,k b o (fun z=>J (by simp [z])) e⟩) (fun _ _ e=>e) (fun _ _ _ e=>e) (fun b ps e=>⟨#[],by rw [e];simp⟩) (fun m hm=>?_) (fun b u e=>?_) I.bare
 .have e:b=it:=by simpa using hb
  subst e;exact ⟨h1,Y,h2,h3⟩
 .obtain ⟨o,es,ep,ho,r⟩:=hm;exact ⟨o,es,ep,k _ o (X5 Y) ho,r⟩
 .refine (I.hok b u e).stay (fun c v J q=>k c v ?_ q) (fun _ q=>q) fun _ _ q=>q;rcases J with z|z
  .rw [z];exact L b u e
  .exact L c _ z
def Inv.tok (I:Inv X af Z H s) (t:Nat) (J:X.tn<=t:=by walk_at "tok"):Inv X af Z H { s with toks:=t }:=I.un (h':=s.heap) (t':=t) Un.refl I.hok
def Inv.kept {t':Nat} (I:Inv X af Z H s) (k:∀ b u,s.heap.get? b=some u->h'.get? b=some u) (J:X.tn<=t':=by walk_at "tok"):Inv X af Z H { s with heap:=h',toks:=t' }:=I.un (Un.kept k) (I.hok.kept k)
def Inv.laid {a:Do} {o:HO} {t':Nat} (I:Inv X af Z H s) (k:∀ b u,s.heap.get? b=some u->h'.get? b=some u) (J:s.heap.objs.size<=a) (new:cc X.prog X.w (upd H a o) h' a o) (L:X.tn<=t':=by walk_at "tok") :
  Inv X af Z (upd H a o) { s with heap:=h',toks:=t' }:=I.un (Un.laid k J (I.hok.fresh J)) (I.hok.laid k J new)
def Inv.write {x e:Do} {o:HO} {t':Nat} (I:Inv X af Z H s) (Y:Rv (H x)) (L:e=x\/H e=some (.own x)) (k:∀ b u,b≠e->s.heap.get? b=some u->h'.get? b=some u) (J:∃ u,h'.get? e=some u)
  (new:cc X.prog X.w (upd H x o) h' x o) (ht:X.tn<=t':=by walk_at "tok"):Inv X af Z (upd H x o) { s with heap:=h',toks:=t' }:=I.un (Un.write Y L k J) (I.hok.write Y L k J new)
def Inv.pins_of {J:abw} (I:Inv X af Z H s) (h:∀ p∈J,s.heap.get? p.1=some p.2/\H p.1=none/\p.1≠X.env.locals/\p.1∉X.fs/\∀ v,p.2.data≠.cell v):Inv X J Z H s :=
 ⟨I.ok,I.os,I.bare,I.base,I.loc,I.cell,I.free,I.freeC,fun p L=>(MK.mp L).elim (fun z=>I.pin p (Wc _ z)) (h p),I.hok,I.len,I.tk⟩
def CK {N:abv} (Y:N.Nodup) {i j:Nat} {x:Str} (a:N[i]?=some x) (b:N[j]?=some x):i=j:=by
 obtain ⟨h1,L⟩:=VX.mp a;obtain ⟨h2,J⟩:=VX.mp b;exact (List.getElem_inj Y).mp (L.trans J.symm)
def Hq {M:Model} {A:VV} {E:abx} {i:Nat} {x:Str} {v:V} {u:gs} {Q:Unit->iF->Prop} (I:Inv X af Z H s) (hN:X.N.Nodup) (hi:X.N[i]?=some x) (hx:HB X.env.scope x) (r:bq v u)
  (h:∀ s',Inv X af (Z.set i (some v)) H s'->(∃ a,Wv a s.heap s'.heap/\(a=X.env.locals\/X.env.cells.lookup x=some a))->Q () s') (hf:X.fn x=true\/X.env.scope.names.lookup x=some .local:=by walk_at"u"):Le M A (storeName X.env x u) Q E s:=by
 obtain ⟨m,hn,hl⟩:=id I.loc;have hcls:(X.env.scope.kind==.class||(X.env.scope.kind==.module&&X.env.locals != X.env.globals))=false:=by rw [I.ok.kind];rfl
 have hiσ:i < Z.length:=by rw [I.len];exact (VX.mp hi).1
 have cne:=I.cne;have L:∀ {a:Do} {h':Xj},(∃ o,s.heap.get? a=some o/\H a=none)->Wv a s.heap h'->tF X.prog X.w H h':=fun {a h'} ha J b ob e=>by
  obtain ⟨_,_,hfree⟩:=ha;refine (I.hok b ob e).stay (fun c w' hc q=>(J.2 c ?_).trans q) (fun _ q=>q) fun _ _ q=>q;rintro rfl;rcases hc with rfl|hc
  .rw [hfree] at e;cases e
  .rw [hfree] at hc;cases hc
 rcases hx with hk|hk
 .refine wpAny_storeName_local hk hn (fun h' hn' J=>?_) hcls;obtain ⟨oL,_,_,hoL,_⟩:=id hn;refine h _ ⟨I.ok,I.os,I.bare,⟨fun b o e n hb hx=>?_,fun b o e n hb hx=>?_,I.base.free,fun b o e hx=>?_,I.base.tups,I.base.frzs,I.base.tbls⟩,⟨_,hn',fun j y v' Y e2 e3=>?_⟩,fun y c e=>?_,I.free,I.freeC,fun p hp=>?_,L ⟨oL,hoL,I.free⟩ J,by simpa using I.len,by walk_at "tok"⟩ ⟨_,J,.inl rfl⟩
  .exact (J.2 b (VI (VE (ID e) I.ok.above))).trans (I.base.keep b o e n hb hx)
  .obtain ⟨sl,Y⟩:=I.base.slot b o e n hb hx;exact ⟨sl,(J.2 b (VI (VE (ID e) I.ok.above))).trans Y⟩
  .obtain ⟨o',Y⟩:=I.base.there b o e hx;exact ⟨o',(J.2 b (VI (VE (ID e) I.ok.above))).trans Y⟩
  .by_cases hj:j=i
   .subst hj;rw [hi] at Y;cases Y;rw [ZH hiσ] at e2;cases e2;exact ⟨u,r,.inl ⟨hk,by simp⟩⟩
   .rw [Z2 (X5 hj)] at e2;obtain ⟨u',r',q⟩:=hl j y v' Y e2 e3;refine ⟨u',r',?_⟩;rcases q with ⟨k,e⟩|⟨k,c,e,z⟩
    .refine .inl ⟨k,?_⟩
     have:y≠x:=fun e=>hj (CK hN Y (e ▸ hi))
     simp [this,e]
    .exact .inr ⟨k,c,e,z.sameBut J (cne y c e)⟩
  .obtain ⟨w',z⟩:=I.cell y c e;exact ⟨w',z.sameBut J (cne y c e)⟩
  .obtain ⟨e,n,ne,nf,d⟩:=I.pin p hp;exact ⟨(J.2 p.1 ne).trans e,n,ne,nf,d⟩
 .have hfn:X.fn x=true:=by
   rcases hf with z|z
   .exact z
   .rw [z] at hk;cases hk
  obtain ⟨c,hc⟩:=I.ok.has x (.inl hk);obtain ⟨w',z⟩:=I.cell x c hc;refine wpAny_storeName_cell I.ok.kind hk hc z (fun h' hc' J=>?_);obtain ⟨oc,hoc,hocd⟩:=id z;refine h { s with heap:=h' } ⟨I.ok,I.os,I.bare,⟨fun b o e n hb hx=>?_,fun b o e n hb hx=>?_,I.base.free,fun b o e hx=>?_,I.base.tups,I.base.frzs,I.base.tbls⟩,⟨m,hn.sameBut J (X5 (cne x c hc)),fun j y v' Y e2 e3=>?_⟩,fun y c' e=>?_,I.free,I.freeC,fun p hp=>?_,L ⟨oc,hoc,I.freeC x c hc⟩ J,by simpa using I.len,I.tk⟩ ⟨c,J,.inr hc⟩
  .exact (J.2 b (VI (VE (ID e) (I.ok.cab x c hfn hc)))).trans (I.base.keep b o e n hb hx)
  .obtain ⟨sl,Y⟩:=I.base.slot b o e n hb hx;exact ⟨sl,(J.2 b (VI (VE (ID e) (I.ok.cab x c hfn hc)))).trans Y⟩
  .obtain ⟨o',Y⟩:=I.base.there b o e hx;exact ⟨o',(J.2 b (VI (VE (ID e) (I.ok.cab x c hfn hc)))).trans Y⟩
  .by_cases hj:j=i
   .subst hj;rw [hi] at Y;cases Y;rw [ZH hiσ] at e2;cases e2;exact ⟨u,r,.inr ⟨.inl hk,c,hc,hc'⟩⟩
   .rw [Z2 (X5 hj)] at e2;obtain ⟨u',r',q⟩:=hl j y v' Y e2 e3;refine ⟨u',r',?_⟩;rcases q with q|⟨k,c',e,z'⟩
    .exact .inl q
    .refine .inr ⟨k,c',e,z'.sameBut J ?_⟩;rintro rfl;exact hj (CK hN Y (I.ok.inj _ _ _ e hc ▸ hi))
  .by_cases hcc:c'=c
   .subst hcc;exact ⟨_,hc'⟩
   .obtain ⟨w2,z2⟩:=I.cell y c' e;exact ⟨w2,z2.sameBut J hcc⟩
  .obtain ⟨e,n,ne,nf,d⟩:=I.pin p hp;refine ⟨(J.2 p.1 ?_).trans e,n,ne,nf,d⟩;intro q;rw [q,hoc] at e;have q':oc=p.2:=VS e;exact d w' (by rw [<- q'];exact hocd)
def CH {M:Model} {A:VV} {E:abx} {i:Nat} {x:Str} {v:V} {u:gs} {Q:Unit->iF->Prop} (I:Inv X af Z H s) (Y:X.N.Nodup) (hi:X.N[i]?=some x) (L:HB X.env.scope x) (r:bq v u)
  (h:∀ s',Inv X af (Z.set i (some v)) H s'->Q () s') (hf:X.fn x=true\/X.env.scope.names.lookup x=some .local:=by walk_at"u"):Le M A (storeName X.env x u) Q E s :=
 Hq I Y hi L r (fun s' J _=>h s' J) hf
def Inv.call' {s':iF} {ch:abz} (I:Inv X af Z H s) (Y:s'.os=s.os) (u:Un (HF X.stack) ch H H' s.heap s'.heap) (L:tF X.prog X.w H' s'.heap) (hg:AllBare s'.gens)
  (J:∀ b∈ch,(b∈X.ex\/X.s₀.heap.objs.size<=b)/\b≠X.env.locals/\(∀ x c,X.env.cells.lookup x=some c->c≠b)/\∀ p∈X.pn++af,p.1≠b) (ht:X.tn<=s'.toks:=by walk_at "tok"):Inv X af Z H' s':=by
 obtain ⟨h',g',d',t',o'⟩:=s';have e:o'=s.os:=Y;subst e;exact I.call (g':=g') (t':=t') (d':=d') u L hg J
end
abbrev XK:=gs->Option Do->Hp->Prop
abbrev St:=List (Option V)
abbrev VK:=V->Hp->Prop
abbrev TE:=St->Hp->VK->Prop
abbrev TT:=St->Hp->(Bool->Hp->Prop)->Prop
abbrev TA:=St->Hp->(abB->Hp->Prop)->Prop
structure Ends where
 nx:St->Hp->Prop
 rt:VK
 bk:St->Hp->Prop:=fun _ _=>False
 ct:St->Hp->Prop:=fun _ _=>False
abbrev TS:=Ends->St->Hp->Prop
def EP (X:Cx) (af:abw) (Z:St) (Q:VK) (u:gs) (s':iF):Prop:=∃ v H',Inv X af Z H' s'/\bq v u/\Q v H'
def TP (X:Cx) (af:abw) (Z:St) (Q:Bool->Hp->Prop) (b:Bool) (s':iF):Prop:=∃ H',Inv X af Z H' s'/\Q b H'
def AP (X:Cx) (af:abw) (Z:St) (Q:abB->Hp->Prop) (us:abA) (s':iF):Prop:=∃ vs H',Inv X af Z H' s'/\bC vs us/\Q vs H'
def SP (X:Cx) (af:abw) (D:Ends) (f:Flow) (s':iF):Prop :=
 match f with
 | .next=>∃ J H',Inv X af J H' s'/\D.nx J H'
 | .brk=>∃ J H',Inv X af J H' s'/\D.bk J H'
 | .cont=>∃ J H',Inv X af J H' s'/\D.ct J H'
 | .ret u=>∃ v J H',Inv X af J H' s'/\bq v u/\D.rt v H'
def PE (X:Cx) (e:Wk) (t:TE):Prop :=
 ∀ (af:abw) (s:iF) (Z:St) (H:Hp) (Q:VK),Inv X af Z H s->t Z H Q->Le (VL X.prog X.w) X.A (eval e X.env) (EP X af Z Q) X.xe s
def PT (X:Cx) (e:Wk) (t:TT):Prop :=
 ∀ (af:abw) (s:iF) (Z:St) (H:Hp) (Q:Bool->Hp->Prop),Inv X af Z H s->t Z H Q->Le (VL X.prog X.w) X.A (isTrue e X.env (eval e X.env)) (TP X af Z Q) X.xe s
def PW (X:Cx) (e:Wk) (t:TT):Prop :=
 ∀ (J:Sem gs) (af:abw) (s:iF) (Z:St) (H:Hp) (Q:Bool->Hp->Prop),Inv X af Z H s->t Z H Q->Le (VL X.prog X.w) X.A (isTrue e X.env J) (TP X af Z Q) X.xe s
def PW.pt {X:Cx} {e:Wk} {t:TT} (h:PW X e t):PT X e t:=h _
def PA (X:Cx) (es:List Wk) (t:TA):Prop :=
 ∀ (pos:Pos) (af:abw) (s:iF) (Z:St) (H:Hp) (Q:abB->Hp->Prop),Inv X af Z H s->t Z H Q->Le (VL X.prog X.w) X.A (spliced (X9 pos (V2 es X.env))) (AP X af Z Q) X.xe s
def PS (X:Cx) (st:WO) (t:TS):Prop :=
 ∀ (af:abw) (s:iF) (Z:St) (H:Hp) (D:Ends),Inv X af Z H s->t D Z H->Le (VL X.prog X.w) X.A (exec st X.env) (SP X af D) X.xe s
def Fd (X:Cx) (st:List WO) (t:TS):Prop :=
 ∀ (af:abw) (s:iF) (Z:St) (H:Hp) (D:Ends),Inv X af Z H s->t D Z H->Le (VL X.prog X.w) X.A (execs st X.env) (SP X af D) X.xe s
def eO {α:Type} {t:Sem α} {Q J:α->iF->Prop} {M:Model} {A:VV} {E:abx} {s:iF} (h:Le M A t Q E s) (L:∀ a s,Q a s->J a s):Le M A t J E s:=Wi h L fun _ _ x=>x
section
variable {X:Cx}
def ST (i:Nat):TE:=fun Z H Q=>∃ v,Z[i]?=some (some v)/\Q v H
def tC (v:V):TE:=fun _ H Q=>Q v H
def Jl {i:Nat} {x:Str} {pos:Pos} (hN:X.N[i]?=some x) (hv:Ev X.env.scope x) (hd:abD x:=by decide) (Y:(x==("__classdict__":Str))=false:=by decide):PE X (.Name x pos) (ST i):=by
 intro af s Z H Q I h;obtain ⟨v,e,h⟩:=h;obtain ⟨m,hn,hl⟩:=I.loc;obtain ⟨u,r,l⟩:=hl i x v hN e hv;have fin:EP X af Z Q u s:=⟨v,H,I,r,h⟩;rcases l with ⟨L,hm⟩|⟨L,c,hc,J⟩
 .exact wpAny_Name (wpAny_loadName_local I.ok.kind L hn hm fin) hd
 .rcases L with L|L
  .exact wpAny_Name (wpAny_loadName_cell I.ok.kind L hc J fin) hd
  .exact wpAny_Name (wpAny_loadName_free I.ok.kind L hc J fin Y) hd
def Qe {i j pos}:PE X (.Constant (.int i) j pos) (tC (.int i)):=fun _ _ _ H _ I h=>wpAny_Constant_int ⟨.int i,H,I.tok _,⟨_,rfl⟩,h⟩
def Sk {b j pos}:PE X (.Constant (.bool b) j pos) (tC (.bl b)):=fun _ _ _ H _ I h=>Constant_bool ⟨.bl b,H,I,rfl,h⟩
def Pf {j pos}:PE X (.Constant .none j pos) (tC .non):=fun _ _ _ H _ I h=>Constant_none ⟨.non,H,I,rfl,h⟩
def N3 {x j pos}:PE X (.Constant (.str x) j pos) (tC (.str x)):=fun _ _ _ H _ I h=>Calls.Constant_str ⟨.str x,H,I.tok _,⟨_,rfl⟩,h⟩
def Gl (X:Cx) (x:Str):Prop:=X.env.kindOf x=some .globalImplicit
def qP {E:abx} {af:abw} {s:iF} {Z:St} {H:Hp} {x:Str} {u:gs} {pos:Pos} {Q:abx} (I:Inv X af Z H s) (L:Gl X x) (J:X.mg x=some u) (h:Q u s)
  (hd:abD x:=by decide):Le (VL X.prog X.w) X.A (eval (.Name x pos) X.env) Q E s :=
 Y0 I.ok.kind L (Calls.loadGlobal_global (by rw [I.ok.glob];exact I.mod.glob.keeps I.bk) J h) hd
def ox {E:abx} {af:abw} {s:iF} {Z:St} {H:Hp} {x:Str} {u:gs} {pos:Pos} {Q:abx} (I:Inv X af Z H s) (Y:Gl X x) (J:X.mg x=none) (L:VO x=some u) (h:Q u s)
  (hn:x≠"__name__":=by decide) (hd:abD x:=by decide):Le (VL X.prog X.w) X.A (eval (.Name x pos) X.env) Q E s:=by
 obtain ⟨mb,h1,h2⟩:=I.mod.blt;exact Y0 I.ok.kind Y (Calls.loadGlobal_builtin (by rw [I.ok.glob];exact I.mod.glob.keeps I.bk) J (by rw [I.ok.blt];exact h1.keeps I.bk) ((h2 x hn).trans L) h) hd
def Fk {x:Str} {v:V} {u:gs} {pos:Pos} (L:Gl X x) (J:X.mg x=some u) (r:bq v u) (hd:abD x:=by decide):PE X (.Name x pos) (tC v) :=
 fun _ _ _ H _ I h=>qP I L J ⟨v,H,I,r,h⟩ hd
def LI {x:Str} {v:V} {u:gs} {pos:Pos} (Y:Gl X x) (L:X.mg x=none) (J:VO x=some u) (r:bq v u) (hn:x≠"__name__":=by decide) (hd:abD x:=by decide):PE X (.Name x pos) (tC v) :=
 fun _ _ _ H _ I h=>ox I Y L J ⟨v,H,I,r,h⟩ hn hd
variable {a b:Wk} {ta tb:TE} {pos:Pos}
variable {tA tB':TT} {rest:List Wk}
def Tw (t u:TT):TT:=fun Z H Q=>t Z H fun c H1=>if c=true then u Z H1 Q else Q false H1
def Vr (t u:TT):TT:=fun Z H Q=>t Z H fun c H1=>if c=true then Q true H1 else u Z H1 Q
def QU (t:TT):TT:=fun Z H Q=>t Z H fun c H1=>Q (!c) H1
def LK (J:PT X a tA):PW X (.BoolOp .And [a] pos) tA:=by
 intro Y af s Z H Q I h;refine isTrue_and (eO (J af s Z H Q I h) fun c L e=>?_);cases c with
 | true=>exact isTrue_and_nil e
 | false=>exact e
def Oh (J:PT X a tA):PW X (.BoolOp .Or [a] pos) tA:=by
 intro Y af s Z H Q I h;refine isTrue_or (eO (J af s Z H Q I h) fun c L e=>?_);cases c with
 | false=>exact isTrue_or_nil e
 | true=>exact e
def OM (Y:PT X a tA) (J:PW X (.BoolOp .And (b::rest) pos) tB'):PW X (.BoolOp .And (a::b::rest) pos) (Tw tA tB'):=by
 intro L af s Z H Q I h;refine isTrue_and (eO (Y af s Z H _ I h) fun c s1 ⟨H1,I1,q1⟩=>?_);cases c with
 | true=>exact J L af s1 Z H1 Q I1 q1
 | false=>exact ⟨H1,I1,q1⟩
def SW (Y:PT X a tA) (J:PW X (.BoolOp .Or (b::rest) pos) tB'):PW X (.BoolOp .Or (a::b::rest) pos) (Vr tA tB'):=by
 intro L af s Z H Q I h;refine isTrue_or (eO (Y af s Z H _ I h) fun c s1 ⟨H1,I1,q1⟩=>?_);cases c with
 | true=>exact ⟨H1,I1,q1⟩
 | false=>exact J L af s1 Z H1 Q I1 q1
def Pl (J:PT X a tA):PT X (.UnaryOp .Not a pos) (QU tA):=by
 intro af s Z H Q I h;exact isTrue_not (J af s Z H (fun c H1=>Q (!c) H1) I h)
def OY {op} {t:TE} (h:PE X a t):PE X (.BoolOp op [a] pos) t:=fun af s Z H Q I hw=>BoolOp_one (h af s Z H Q I hw)
def Vu (t:TT) (ta tb:TE):TE:=fun Z H Q=>t Z H fun c H1=>if c=true then ta Z H1 Q else tb Z H1 Q
def JC {c:Wk} (J:PT X c tA) (Y:PE X a ta) (L:PE X b tb):PE X (.IfExp c a b pos) (Vu tA ta tb):=by
 intro af s Z H Q I h;refine wpAny_IfExp (eO (J af s Z H _ I h) fun d s1 ⟨H1,I1,q1⟩=>?_);cases d with
 | true=>exact Y af s1 Z H1 Q I1 q1
 | false=>exact L af s1 Z H1 Q I1 q1
end
def iA (K:aT) (H:Hp) (a:Do) (xs:abB):Prop :=
 Rd H a (.lst xs) \/
  ∃ (o:Obj) (its:Array gs) (n:Nat),K.lookup a=some o/\o.cls=.type "list"/\o.dict=none/\o.data=.seq its n/\its.size<=IF/\bC xs its.toList
def mf (K:aT) (H:Hp) (a:Do) (xs:abB):Prop :=
 Rd H a (.tup xs) \/
  ∃ (o:Obj) (its:Array gs) (n:Nat),K.lookup a=some o/\o.cls=.type "tuple"/\o.data=.seq its n/\its.size<=IF/\bC xs its.toList
def T4:gs->Option V
 | .none=>some .non
 | .bool b=>some (.bl b)
 | .int i _=>some (.int i)
 | .str x _=>some (.str x)
 | .bytes b _=>some (.byt b)
 | .float b _=>some (.flt b)
 | .ref a=>some (.ref a)
 | .type n=>some (.ty n)
 | _=>none
def bq.abs {x:V} {u:gs} (r:bq x u):T4 u=some x:=by
 cases x with
 | non=>cases r;rfl
 | bl _=>cases r;rfl
 | int _=>obtain ⟨t,rfl⟩:=r;rfl
 | str _=>obtain ⟨t,rfl⟩:=r;rfl
 | byt _=>obtain ⟨t,rfl⟩:=r;rfl
 | flt _=>obtain ⟨t,rfl⟩:=r;rfl
 | ref _=>cases r;rfl
 | ty _=>cases r;rfl
def bq.inj {x y:V} {u:gs} (r:bq x u) (q:bq y u):x=y:=VS (r.abs.symm.trans q.abs)
def bC.inj:∀ {xs ys:abB} {us:abA},bC xs us->bC ys us->xs=ys
 | _,_,_,.nil,.nil=>rfl
 | _,_,_,.cons r t,.cons r' t'=>by rw [r.inj r',bC.inj t t']
section
variable {X:Cx} {af:abw} {Z:St} {H:Hp} {s:iF} {a:Do} {xs ys:abB}
def iA.of {K:aT} (h:H a=some (.lst xs)):iA K H a xs:=.inl (.inl h)
def Inv.list (I:Inv X af Z H s) (h:iA X.K H a xs):∃ its:abA,bC xs its/\PlainL s.heap a its.toArray/\xs.length<=IF:=by
 rcases h with h|⟨o,its,n,hk,hc,hd,hs,hz,r⟩
 .obtain ⟨z,its,n,r,e⟩:=h.ok I.hok;exact ⟨its,r,⟨_,n,e,rfl,rfl,rfl⟩,z⟩
 .refine ⟨its.toList,r,⟨o,n,I.kIn a o hk,hc,hd,by simpa using hs⟩,?_⟩;have e:=r.length;simp only [Ww] at e;omega
def Inv.tuple (I:Inv X af Z H s) (h:mf X.K H a xs):∃ its:abA,bC xs its/\YE s.heap a its.toArray/\xs.length<=IF:=by
 rcases h with h|⟨o,its,n,hk,hc,hs,hz,r⟩
 .obtain ⟨z,its,r,p⟩:=h.ok I.hok;exact ⟨its,r,p,z⟩
 .refine ⟨its.toList,r,⟨o,I.kIn a o hk,hc,n,by simpa using hs⟩,?_⟩;have e:=r.length;simp only [Ww] at e;omega
def Inv.list_inj (I:Inv X af Z H s) (h:iA X.K H a xs) (h':iA X.K H a ys):xs=ys:=by
 obtain ⟨its,r,⟨o,n,e,_,_,d⟩,_⟩:=I.list h;obtain ⟨its',L,⟨o',Y,J,_,_,d'⟩,_⟩:=I.list h';rw [e] at J;cases J;rw [d] at d';injection d' with d1 _
 have:its=its':=by simpa using abt Array.toList d1
 subst this;exact r.inj L
def Inv.tuple_inj (I:Inv X af Z H s) (h:mf X.K H a xs) (h':mf X.K H a ys):xs=ys:=by
 obtain ⟨its,r,⟨o,e,_,n,d⟩,_⟩:=I.tuple h;obtain ⟨its',L,⟨o',J,_,Y,d'⟩,_⟩:=I.tuple h';rw [e] at J;cases J;rw [d] at d';injection d' with d1 _
 have:its=its':=by simpa using abt Array.toList d1
 subst this;exact r.inj L
end
abbrev Cx.wish (X:Cx) (E:abx):Cx:={ X with xe:=E }
abbrev Cx.nox (X:Cx):Cx:=X.wish fun _ _=>False
def Cx.Ok.wish {X:Cx} (ok:X.Ok) (E:abx):(X.wish E).Ok :=
 ⟨ok.mod,ok.kind,ok.glob,ok.blt,ok.above,ok.inj,ok.has,ok.cab,ok.hd,ok.frames,ok.stk,ok.exf,ok.bs,ok.bsz,ok.noex,ok.exfs,ok.funs,ok.frf⟩
def Cx.Ok.unwish {X:Cx} {E:abx} (ok:(X.wish E).Ok):X.Ok :=
 ⟨ok.mod,ok.kind,ok.glob,ok.blt,ok.above,ok.inj,ok.has,ok.cab,ok.hd,ok.frames,ok.stk,ok.exf,ok.bs,ok.bsz,ok.noex,ok.exfs,ok.funs,ok.frf⟩
section
variable {X:Cx} {af:abw} {Z:St} {H:Hp} {s:iF} {E:abx}
def Inv.wish (I:Inv X af Z H s) (E:abx):Inv (X.wish E) af Z H s:=⟨I.ok.wish E,I.os,I.bare,I.base,I.loc,I.cell,I.free,I.freeC,I.pin,I.hok,I.len,I.tk⟩
def Inv.unwish (I:Inv (X.wish E) af Z H s):Inv X af Z H s:=⟨I.ok.unwish,I.os,I.bare,I.base,I.loc,I.cell,I.free,I.freeC,I.pin,I.hok,I.len,I.tk⟩
def SP.unwish {D:Ends} {f:Flow} {s':iF} (h:SP (X.wish E) af D f s'):SP X af D f s':=by
 cases f with
 | next=>obtain ⟨J,H',I,q⟩:=h;exact ⟨J,H',I.unwish,q⟩
 | brk=>obtain ⟨J,H',I,q⟩:=h;exact ⟨J,H',I.unwish,q⟩
 | cont=>obtain ⟨J,H',I,q⟩:=h;exact ⟨J,H',I.unwish,q⟩
 | ret u=>obtain ⟨v,J,H',I,r,q⟩:=h;exact ⟨v,J,H',I.unwish,r,q⟩
def Fd.nox {st:List WO} {t:TS} (h:Fd X.nox st t):Fd X st t:=fun af s Z H D I hw =>
 Wi (h af s Z H D (I.wish _) hw) (fun _ _ q=>q.unwish) fun _ _ z=>WW z
end
section
variable {X:Cx} {st:WO} {rest:List WO} {t u:TS} {e:Wk} {te:TE} {pos:Pos}
def NJ:TS:=fun D Z H=>D.nx Z H
def Ry (t u:TS):TS:=fun D Z H=>t { D with nx:=u D } Z H
def Lq:Fd X [] NJ:=fun _ _ Z H _ I h=>YV ⟨Z,H,I,h⟩
def yi (h1:PS X st t) (h2:Fd X rest u):Fd X (st::rest) (Ry t u):=by
 intro af s Z H D I h;refine wpAny_execs_cons (eO (h1 af s Z H { D with nx:=u D } I h) fun f Y q=>?_);cases f with
 | next =>
  obtain ⟨J,H',L,q⟩:=q;exact h2 af Y J H' D L q
 | ret v=>exact q
 | brk=>exact q
 | cont=>exact q
def FH (h1:PS X st t):Fd X [st] t:=by
 intro af s Z H D I h;refine wpAny_execs_cons (eO (h1 af s Z H D I h) fun f J q=>?_);cases f with
 | next=>exact YV q
 | ret v=>exact q
 | brk=>exact q
 | cont=>exact q
def Inv.quiet {af:abw} {Z:St} {H:Hp} {s:iF} (I:Inv X af Z H s):interactive X.env=false:=by simp [interactive,I.ok.kind]
def JF (te:TE):TS:=fun D Z H=>te Z H fun _ H1=>D.nx Z H1
def LZ (he:PE X e te) (L:XN e none pos.line X.env=pure false:=by rfl):PS X (.Expr e pos) (JF te):=by
 intro af s Z H D I h;exact wpAny_Expr_any (eO (he af s Z H _ I h) fun v s1 hh=>qQ hh fun x H1 J r1 Y=>⟨Z,H1,J,Y⟩) I.quiet L
def S3 (te:TE):TS:=fun D Z H=>te Z H D.rt
def N1 (Y:PE X e te):PS X (.Return (some e) pos) (S3 te):=by
 intro af s Z H D I h;exact wpAny_Return_some (eO (Y af s Z H _ I h) fun v s1 hh=>qQ hh fun x H1 J r1 L=>⟨x,Z,H1,J,r1,L⟩)
def SE (c:TT) (t u:TS):TS:=fun D Z H=>c Z H fun b H1=>if b=true then t D Z H1 else u D Z H1
def Rp {c:Wk} {a b:List WO} {tc:TT} (J:PT X c tc) (Y:Fd X a t) (L:Fd X b u):PS X (.If c a b pos) (SE tc t u):=by
 intro af s Z H D I h;refine wpAny_If (eO (J af s Z H _ I h) fun d s1 ⟨H1,I1,q1⟩=>?_);cases d with
 | true=>exact Y af s1 Z H1 D I1 q1
 | false=>exact L af s1 Z H1 D I1 q1
end
abbrev TG:=V->St->Hp->(St->Hp->Prop)->Prop
abbrev HE:=abB->St->Hp->(St->Hp->Prop)->Prop
def PG (X:Cx) (J:Wk) (t:TG):Prop :=
 ∀ (af:abw) (s:iF) (Z:St) (H:Hp) (v:V) (u:gs) (Q:St->Hp->Prop),Inv X af Z H s->bq v u->t v Z H Q ->
  Le (VL X.prog X.w) X.A (assign J X.env u) (fun _ s'=>∃ L H',Inv X af L H' s'/\Q L H') X.xe s
def Tp (X:Cx) (L:List Wk) (t:HE):Prop :=
 ∀ (af:abw) (s:iF) (Z:St) (H:Hp) (vs:abB) (us:abA) (Q:St->Hp->Prop),Inv X af Z H s->bC vs us->t vs Z H Q ->
  Le (VL X.prog X.w) X.A (assignInOrder ((W3 L X.env).map (·.2)) us) (fun _ s'=>∃ J H',Inv X af J H' s'/\Q J H') X.xe s
abbrev Ls:=V->V->V->Hp->(Hp->Prop)->Prop
def N0 (X:Cx) (t:Ls):Prop :=
 ∀ (af:abw) (s:iF) (Z:St) (H:Hp) (o i v:V) (ov J u:gs) (Q:Hp->Prop),Inv X af Z H s->bq o ov->bq i J->bq v u->t o i v H Q ->
  Le (VL X.prog X.w) X.A (setItem ov J u) (fun _ s'=>∃ H',Inv X af Z H' s'/\Q H') X.xe s
section
variable {X:Cx} {pos:Pos}
def tG (i:Nat):TG:=fun v Z H Q=>Q (Z.set i (some v)) H
def EH {i:Nat} {x:Str} (Y:X.N.Nodup) (hi:X.N[i]?=some x) (L:HB X.env.scope x) (hf:X.fn x=true\/X.env.scope.names.lookup x=some .local:=by walk_at"u"):PG X (.Name x pos) (tG i):=by
 intro af s Z H v u Q I r h;exact wpAny_assign_Name (CH I Y hi L r (fun s' J=>⟨_,H,J,h⟩) hf)
def RJ:HE:=fun vs Z H Q=>vs=[]/\Q Z H
def Ny (t:TG) (u:HE):HE:=fun vs Z H Q=>∃ v r,vs=v::r/\t v Z H fun J H'=>u r J H' Q
def MR:Tp X [] RJ:=by
 intro af s Z H vs us Q I r h;obtain ⟨e,h⟩:=h;subst e;cases r;exact assignInOrder_nil ⟨Z,H,I,h⟩
def KK {e:Wk} {es:List Wk} {t:TG} {u:HE} (h1:PG X e t) (h2:Tp X es u)
  (J:(W3 (e::es) X.env).map (·.2)=assign e X.env::(W3 es X.env).map (·.2):=by rfl):Tp X (e::es) (Ny t u):=by
 intro af s Z H vs us Q I r h;obtain ⟨v,vr,L,h⟩:=h;subst L;cases r with
 | cons r Y =>
  rw [J];refine assignInOrder_cons (eO (h1 af s Z H _ _ _ I r h) fun _ s1 ⟨σ1,H1,I1,q1⟩=>?_);exact h2 af s1 σ1 H1 _ _ Q I1 Y q1
def QA (K:aT) (n:Nat) (t:HE):TG:=fun v Z H Q=>∃ a xs,v=.ref a/\mf K H a xs/\xs.length=n/\t xs Z H Q
def Pe {es:List Wk} {k:Nat} {t:HE} {n:Nat} (Y:X.calm=true) (h:Tp X es t)
  (hn:(W3 es X.env).length=n:=by rfl) (J:(W3 es X.env).findIdx? (·.1)=none:=by rfl):PG X (.Tuple es k pos) (QA X.K n t):=by
 intro af s Z H v u Q I r hw;obtain ⟨a,xs,e1,hq,hl,hw⟩:=hw;subst e1;cases r;obtain ⟨its,L,ht,hz⟩:=I.tuple hq;refine assign_Tuple_tuple (I.ok.hd Y) ht (by simp [hn,<- hl,L.length]) J fun h' hx=>?_;have I1:Inv X af Z H { s with heap:=h' }:=I.kept (t':=s.toks) fun b o e=>hx b o (VI (ID e)) e;exact h af _ Z H xs _ Q I1 (by simpa using L) hw
def P8 (to J:TE) (t:Ls):TG:=fun v Z H Q=>to Z H fun o H1=>J Z H1 fun i H2=>t o i v H2 fun L=>Q Z L
def P3 {o i:Wk} {to Y:TE} {t:Ls} (ho:PE X o to) (hi:PE X i Y) (hs:N0 X t)
  (ha:∀ v,assign (.Subscript o i pos) X.env v=(do
   let ov <- holding [v] (eval o X.env)
   let J <- holding [v,ov] (eval i X.env)
   aaM pos
   holding [v,ov,J] (setItem ov J v)
   release [v,ov,J] []):=by intro _;rfl):PG X (.Subscript o i pos) (P8 to Y t):=by
 intro af s Z H v u Q I r h;rw [ha];refine bY (W7 (eO (ho af s Z H _ I h) fun ov s1 L=>qQ L fun x H1 I1 r1 q1=>?_));refine bY (W7 (eO (hi af s1 Z H1 _ I1 q1) fun J s2 L=>qQ L fun y H2 I2 r2 q2=>?_));refine bY (wpAny_standAt (bY (W7 (eO (hs af s2 Z H2 x y v ov J u _ I2 r1 r2 r q2) fun _ s3 ⟨H3,I3,q3⟩=>?_))));exact wpAny_release ⟨Z,H3,I3,q3⟩
def BP (te:TE) (g:TG):TS:=fun D Z H=>te Z H fun x H1=>g x Z H1 D.nx
def Od {tg e:Wk} {te:TE} {g:TG} (he:PE X e te) (hg:PG X tg g) (Y:swapsWithSole [tg] e pos.line X.env=pure false:=by rfl) (hw:swappedStores [tg] e X.env=pure none:=by rfl)
  (h1:(W3 [tg] X.env).map (·.2)=[assign tg X.env]:=by rfl):PS X (.Assign [tg] e pos) (BP te g):=by
 intro af s Z H D I h;refine wpAny_Assign_stores (eO (he af s Z H _ I h) fun v s1 hh=>qQ hh fun x H1 L r1 J=>?_) Y hw;rw [h1];exact eO (hg af s1 Z H1 x v _ L r1 J) fun _ s2 q=>q
def OJ {i:Nat} {x:Str} {e:Wk} {te:TE} {pos':Pos} (L:X.N.Nodup) (hi:X.N[i]?=some x) (hx:HB X.env.scope x) (he:PE X e te) (hs:XN e (some (.Name x pos')) pos.line X.env=pure false:=by rfl) (hf:X.fn x=true\/X.env.scope.names.lookup x=some .local:=by walk_at"u") :
  PS X (.Assign [.Name x pos'] e pos) (BP te (tG i)):=by
 intro af s Z H D I h;refine wpAny_Assign_Name (eO (he af s Z H _ I h) fun v s1 hh=>qQ hh fun y H1 Y r1 J=>?_) hs;exact CH Y L hi hx r1 (fun s2 I2=>⟨_,H1,I2,J⟩) hf
end
section
variable {X:Cx} {pos:Pos}
def J8 (c:TT) (tb:TS):TS:=fun D Z H=>∃ W:Nat->St->Hp->Prop,(∃ m,W m Z H)/\∀ m Z H,W m Z H ->
 c Z H fun b H1=>if b=true then ∃ N:St->Hp->Prop,(∀ J H',N J H'->∃ L,L < m/\W L J H')/\tb { D with nx:=N,ct:=N,bk:=D.nx } Z H1 else D.nx Z H1
def Iw {c:Wk} {L:List WO} {tc:TT} {tb:TS} (hp:ZU (VL X.prog X.w) X.A X.env X.xe) (hc:PT X c tc) (hb:Fd X L tb):PS X (.While c L [] pos) (J8 tc tb):=by
 intro af s Z H D I h;obtain ⟨W,⟨m0,w0⟩,turn⟩:=h;refine wpAny_While (codeAny_whileLoop (fun n s'=>∃ Y H',Inv X af Y H' s'/\W n Y H') ?_ m0 ⟨Z,H,I,w0⟩);rintro n s1 ⟨σ1,H1,I1,w1⟩;refine XA hp (eO (hc af s1 σ1 H1 _ I1 (turn n σ1 H1 w1)) fun b s2 ⟨H2,I2,q2⟩=>?_);cases b with
 | true =>
  obtain ⟨N,hN,q2⟩:=q2;rw [abn rfl];refine XA hp (eO (hb af s2 σ1 H2 _ I2 q2) fun f s3 q3=>?_);cases f with
  | next =>
   obtain ⟨J,H3,I3,n3⟩:=q3;obtain ⟨m',hm,w3⟩:=hN J H3 n3;exact ⟨m',hm,J,H3,I3,w3⟩
  | cont =>
   obtain ⟨J,H3,I3,n3⟩:=q3;obtain ⟨m',hm,w3⟩:=hN J H3 n3;exact ⟨m',hm,J,H3,I3,w3⟩
  | brk=>exact q3
  | ret v=>exact q3
 | false =>
  rw [abo lT];exact YV ⟨σ1,H2,I2,q2⟩
end
structure It where
 go:Nat->Hp->Prop
 yld:Nat->Hp->V->Hp->Prop
 stop:Nat->Hp->Prop
def iI (X:Cx) (af:abw) (H:Hp) (b:Do):Prop :=
 H b=none/\b≠X.env.locals/\b∉X.fs/\(b∈X.ex\/X.s₀.heap.objs.size<=b)/\(∀ x c,X.env.cells.lookup x=some c->c≠b)/\∀ p∈X.pn++af,p.1≠b
def Inv.fpOk {X:Cx} {af:abw} {Z:St} {H H':Hp} {s:iF} {b:Do} (I:Inv X af Z H s) (J:s.heap.objs.size<=b) (hn:H' b=none):iI X af H' b:=by
 refine ⟨hn,Y6 (VE I.lt J),I.nofs J,.inr (RW I.sz J),fun x c e z=>?_,fun p L z=>?_⟩
 .obtain ⟨v,q⟩:=I.cell x c e;exact absurd (VE q.lt (by rw [z];exact J)) (XD _)
 .exact absurd (VE (ID (I.pin p L).1) (by rw [z];exact J)) (XD _)
structure Turn (P:VH) (w:VZ) (K:aT) (tg:Wk) (J:It) (fp:abz) (it:Do) (tn:Nat->Xj->Prop):Prop where
 mem:it∈fp
 obj:∀ i h,tn i h->∀ b∈fp,∃ o,h.get? b=some o/\∀ v,o.data≠.cell v
 keep:∀ i h h',tn i h->(∀ b∈fp,∀ o,h.get? b=some o->h'.get? b=some o)->tn i h'
 item:∀ (X:Cx),X.prog=P->X.w=w->X.K=K->X.calm=true->∀ (i:Nat) (af:abw) (s:iF) (Z:St) (H:Hp) (E:abx),Inv X af Z H s->(∀ b∈fp,iI X af H b)->tn i s.heap->J.go i H ->
  Le (VL P w) X.A (pyNext (.ref it)) (fun r s1=>∃ u,r=some u /\
   Le (VL P w) X.A (YW tg (.ref it) u) (fun _ s2=>∃ x H',Inv X af Z H' s2/\bq x u/\J.yld i H x H'/\tn (i+1) s2.heap/\∀ b∈fp,H' b=none) E s1) E s
 done:∀ (X:Cx),X.prog=P->X.w=w->X.K=K->X.calm=true->∀ (i:Nat) (af:abw) (s:iF) (Z:St) (H:Hp) (E:abx),Inv X af Z H s->(∀ b∈fp,iI X af H b)->tn i s.heap->J.stop i H ->
  Le (VL P w) X.A (pyNext (.ref it)) (fun r s1=>r=none/\Inv X af Z H s1) E s
 self:∀ (A:VV) (i:Nat) (s:iF) (Q:abx) (E:abx),tn i s.heap->Q (.ref it) s->Le (VL P w) A (aaB (.ref it)) Q E s
abbrev TI:=St->Hp->(It->Hp->Prop)->Prop
def Vs (X:Cx) (af:abw) (Z:St) (tg:Wk) (R:It->Hp->Prop) (L:gs) (Y:iF):Prop :=
 ∃ (it:Do) (fp:abz) (tn:Nat->Xj->Prop) (J:It) (H':Hp),L=.ref it/\Inv X af Z H' Y/\Turn X.prog X.w X.K tg J fp it tn/\tn 0 Y.heap/\(∀ b∈fp,iI X af H' b)/\R J H'
def PI (X:Cx) (tg iter:Wk) (wi:TI):Prop :=
 ∀ (af:abw) (s:iF) (Z:St) (H:Hp) (R:It->Hp->Prop),Inv X af Z H s->wi Z H R ->
  Le (VL X.prog X.w) X.A (eval iter X.env) (fun v J=>Le (VL X.prog X.w) X.A (aaB v) (Vs X af Z tg R) X.xe J) X.xe s
def Ch {M:Model} {A:VV} {E:abx} {s:iF} {tg:Wk} {it:Do} {u:gs} {o:Obj} {n:String} {vs:Array gs} {Q:Unit->iF->Prop} (Y:s.heap.get? it=some o) (L:o.cls=.type n) (hd:o.data=.fields vs)
    (hn:["enumerate","zip","dict_itemiterator","dict_reverseitemiterator","odict_iterator","itertools.zip_longest","itertools.pairwise"].contains n=false) (J:Q () s):Le M A (YW tg (.ref it) u) Q E s:=by
  unfold YW;cases tg <;> first
    | exact rW J
    | (cases u <;> first
        | exact rW J
        | (refine bY (wpAny_load Y ?_)
           rw [L,hd];show Le M A (if (["enumerate","zip","dict_itemiterator","dict_reverseitemiterator","odict_iterator","itertools.zip_longest","itertools.pairwise"].contains n&&vs[0]?==some (aaU _))=true then _ else _) Q E s;rw [abo (by intro h;rw [hn,Bool.false_and] at h;cases h)];exact rW J))
def T6 (K:aT) (a:Do):It :=
 ⟨fun i H=>∃ xs x,iA K H a xs/\xs[i]?=some x,fun i H x H'=>H'=H/\∀ xs,iA K H a xs->xs[i]?=some x,fun i H=>∃ xs,iA K H a xs/\xs.length<=i⟩
def U9 (K:aT) (a:Do):It :=
 ⟨fun i H=>∃ xs x,mf K H a xs/\xs[i]?=some x,fun i H x H'=>H'=H/\∀ xs,mf K H a xs->xs[i]?=some x,fun i H=>∃ xs,mf K H a xs/\xs.length<=i⟩
def TH (lo:Int) (n:Nat):It:=⟨fun i _=>i < n,fun i H x H'=>H'=H/\x=.int (lo+i),fun i _=>n<=i⟩
def Gi {P:VH} {w:VZ} {K:aT} {tg:Wk} (a it:Do):Turn P w K tg (T6 K a) [it] it (fun i h=>h.IsListIter it a i) where
 mem:=by simp
 obj:=fun i h st b J=>by
  have e:b=it:=by simpa using J
  subst e;obtain ⟨o,e,c,d⟩:=st;exact ⟨o,e,fun v z=>by rw [d] at z;cases z⟩
 keep:=fun i h h' st k=>st.at fun o e=>k it (by simp) o e
 item:=by
  intro X hP hw hK hc i af s Z H E I hf st hg;subst hP hw hK;obtain ⟨xs,x,Y,hx⟩:=hg;obtain ⟨its,rv,p,hz⟩:=I.list Y;obtain ⟨u,hu,ru⟩:=rv.get hx;obtain ⟨f0,f1,f2,f3,f4,f5⟩:=hf it (by simp);refine wpAny_pyNext_list_item st p.isList (x:=u) (by simpa using hu) fun h' L sb=>?_;have I1:Inv X af Z H { s with heap:=h' }:=I.turned (t':=s.toks) (fun b o J e=>(sb.2 b J).trans e) f0 f1 f3 f4 f5;obtain ⟨o,e,c,d⟩:=id L;exact ⟨u,rfl,Ch (s:={ s with heap:=h' }) e c d (by decide) ⟨x,H,I1,ru,⟨rfl,fun ys hy=>by rw [I.list_inj hy Y];exact hx⟩,L,fun b J=>(hf b J).1⟩⟩
 done:=by
  intro X hP hw hK hc i af s Z H E I hf st hg;subst hP hw hK;obtain ⟨xs,Y,hx⟩:=hg;obtain ⟨its,rv,p,hz⟩:=I.list Y;obtain ⟨f0,f1,f2,f3,f4,f5⟩:=hf it (by simp);have hl:=rv.length;exact wpAny_pyNext_list_end (I.ok.hd hc) st p.isList (by simp;omega) fun h' eb=>⟨rfl,I.turned (t':=s.toks) (fun b o J e=>eb b o J e) f0 f1 f3 f4 f5⟩
 self:=fun _ _ _ _ _ st h=>wpAny_pyIter_listiter st h
def DN {P:VH} {w:VZ} {K:aT} {tg:Wk} (a it:Do):Turn P w K tg (U9 K a) [it] it (fun i h=>h.IsTupleIter it a i) where
 mem:=by simp
 obj:=fun i h st b J=>by
  have e:b=it:=by simpa using J
  subst e;obtain ⟨o,e,c,d⟩:=st;exact ⟨o,e,fun v z=>by rw [d] at z;cases z⟩
 keep:=fun i h h' st k=>st.at fun o e=>k it (by simp) o e
 item:=by
  intro X hP hw hK hc i af s Z H E I hf st hg;subst hP hw hK;obtain ⟨xs,x,Y,hx⟩:=hg;obtain ⟨its,rv,p,hz⟩:=I.tuple Y;obtain ⟨u,hu,ru⟩:=rv.get hx;obtain ⟨f0,f1,f2,f3,f4,f5⟩:=hf it (by simp);refine wpAny_pyNext_tuple_item st (show s.heap.IsTuple a its.toArray from p) (x:=u) (by simpa using hu) fun h' L sb=>?_;have I1:Inv X af Z H { s with heap:=h' }:=I.turned (t':=s.toks) (fun b o J e=>(sb.2 b J).trans e) f0 f1 f3 f4 f5;obtain ⟨o,e,c,d⟩:=id L;exact ⟨u,rfl,Ch (s:={ s with heap:=h' }) e c d (by decide) ⟨x,H,I1,ru,⟨rfl,fun ys hy=>by rw [I.tuple_inj hy Y];exact hx⟩,L,fun b J=>(hf b J).1⟩⟩
 done:=by
  intro X hP hw hK hc i af s Z H E I hf st hg;subst hP hw hK;obtain ⟨xs,Y,hx⟩:=hg;obtain ⟨its,rv,p,hz⟩:=I.tuple Y;obtain ⟨f0,f1,f2,f3,f4,f5⟩:=hf it (by simp);have hl:=rv.length;exact wpAny_pyNext_tuple_end (I.ok.hd hc) st (show s.heap.IsTuple a its.toArray from p) (by simp;omega) fun h' eb=>⟨rfl,I.turned (t':=s.toks) (fun b o J e=>eb b o J e) f0 f1 f3 f4 f5⟩
 self:=fun _ _ _ _ _ st h=>wpAny_pyIter_tupleiter st h
def Ef {P:VH} {w:VZ} {K:aT} {tg:Wk} (it:Do) (lo:Int) (n:Nat):Turn P w K tg (TH lo n) [it] it (fun i h=>IsRangeIter h it (lo+(i:Nat)*1) ((n:Int) - (i:Nat)) 1) where
 mem:=by simp
 obj:=fun i h st b J=>by
  have e:b=it:=by simpa using J
  subst e;exact ⟨_,st,fun v z=>by
   have z':Data.fields _=Data.cell v:=z;cases z'⟩
 keep:=fun i h h' st k=>k it (by simp) _ st
 item:=by
  intro X hP hw hK Y i af s Z H E I hf st hg;subst hP hw hK;obtain ⟨f0,f1,f2,f3,f4,f5⟩:=hf it (by simp);have W:=Walks.range (prog:=X.prog) (w:=X.w) (I.ok.hd Y) it lo 1 n;refine bi I.tk (W.item i s _ _ hg st fun v h' tk hv L kk htk=>?_);obtain ⟨t,rfl⟩:=hv;have I1:Inv X af Z H { s with heap:=h',toks:=tk }:=I.turned (fun b o J e=>kk b o (by simpa using J) e) f0 f1 f3 f4 f5;refine ⟨_,rfl,Ch (s:={ s with heap:=h',toks:=tk }) (n:="range_iterator") L rfl rfl (by decide) ⟨.int (lo+i),H,I1,⟨t,?_⟩,⟨rfl,rfl⟩,L,fun b J=>(hf b J).1⟩⟩;rw [Int.mul_one]
 done:=by
  intro X hP hw hK Y i af s Z H E I hf st hg;subst hP hw hK;obtain ⟨f0,f1,f2,f3,f4,f5⟩:=hf it (by simp);exact wpAny_pyNext_range_end (I.ok.hd Y) st (by have:n<=i:=hg;omega) fun h' eb=>⟨rfl,I.turned (t':=s.toks) (fun b o J e=>eb b o J e) f0 f1 f3 f4 f5⟩
 self:=fun _ _ _ _ _ st h=>wpAny_pyIter_rangeiter st h
section
variable {X:Cx} {tg:Wk}
def II {af:abw} {Z:St} {H:Hp} {s:iF} {R:It->Hp->Prop} {E:abx} {lo hi:Int} {t u v:Tok} {tk:Nat} (I:Inv X af Z H s) (h1:-(2 ^ 62)<=lo) (h2:lo < 2 ^ 62) (L:-(2 ^ 62)<=hi) (h4:hi < 2 ^ 62)
  (q:R (TH lo (hi - lo).toNat) H) (ht:X.tn<=tk:=by walk_at "tok"):Le (VL X.prog X.w) X.A (aaB (.ref s.heap.objs.size)) (Vs X af Z tg R) E { s with heap:=s.heap.push { cls:=.type "range",data:=.fields #[.int lo t,.int hi u,.int 1 v] },toks:=tk }:=by
 refine wpAny_pyIter_range (IsRange.new ..) (small_one h1 h2 L h4) ?_;have J:Inv X af Z H { s with heap:=s.heap.push { cls:=.type "range",data:=.fields #[.int lo t,.int hi u,.int 1 v] },toks:=tk }:=I.kept fun b o e=>dO _ e;refine ⟨(s.heap.push { cls:=.type "range",data:=.fields #[.int lo t,.int hi u,.int 1 v] }).objs.size,[(s.heap.push { cls:=.type "range",data:=.fields #[.int lo t,.int hi u,.int 1 v] }).objs.size],_,_,H,rfl,
  J.kept (t':=tk) fun b o e=>dO _ e,Ef _ lo (hi - lo).toNat,?_,fun b hb=>?_,q⟩
 .have e1:lo+((0:Nat):Int)*1=lo:=by simp
  have Y:(((hi - lo).toNat:Nat):Int) - ((0:Nat):Int)=Builtin.Range.rangeSize lo hi 1:=by rw [rangeSize_one];split <;> omega
  show IsRangeIter _ _ (lo+((0:Nat):Int)*1) ((((hi - lo).toNat:Nat):Int) - ((0:Nat):Int)) 1;rw [e1,Y];exact CT _ rfl
 .have e:b=(s.heap.push { cls:=.type "range",data:=.fields #[.int lo t,.int hi u,.int 1 v] }).objs.size:=by simpa using hb
  subst e;exact J.fpOk (oR _) (J.hok.fresh (oR _))
def Th (wi:TI) (g:TG) (tb:TS):TS:=fun D Z H=>wi Z H fun J H1=>∃ W:Nat->Nat->St->Hp->Prop,(∃ m,W 0 m Z H1)/\∀ i m Z H,W i m Z H ->
 (J.stop i H/\D.nx Z H)\/(J.go i H/\∃ N:St->Hp->Prop,(∀ L H',N L H'->∃ m',m' < m/\W (i+1) m' L H')/\∀ x H',J.yld i H x H'->g x Z H' fun Y H2=>tb { D with nx:=N,ct:=N,bk:=D.nx } Y H2)
def sO (fp:abz) (h:Xj):abw:=fp.filterMap fun b=>(h.get? b).map fun o=>(b,o)
def iS {fp:abz} {h:Xj} {b:Do} {o:Obj} (J:b∈fp) (e:h.get? b=some o):(b,o)∈sO fp h:=aat.mpr ⟨b,J,by rw [e];rfl⟩
def G8 {fp:abz} {h:Xj} {p:Do×Obj} (L:p∈sO fp h):p.1∈fp/\h.get? p.1=some p.2:=by
 obtain ⟨b,Y,e⟩:=aat.mp L;cases q:h.get? b with
 | none=>rw [q] at e;cases e
 | some o =>
  rw [q] at e;have J:(b,o)=p:=VS e;subst J;exact ⟨Y,q⟩
def Inv.pinned {af:abw} {Z:St} {H:Hp} {s:iF} {fp:abz} (I:Inv X af Z H s) (hf:∀ b∈fp,iI X af H b) (ho:∀ b∈fp,∃ o,s.heap.get? b=some o/\∀ v,o.data≠.cell v):Inv X (af++sO fp s.heap) Z H s :=
 I.pins_of fun p Y=>(MK.mp Y).elim (fun z=>I.pin p (VG _ z)) fun z=>by
  obtain ⟨J,e⟩:=G8 z;obtain ⟨f0,f1,f2,_⟩:=hf p.1 J;obtain ⟨o,L,d⟩:=ho p.1 J;rw [e] at L;cases L;exact ⟨e,f0,f1,f2,d⟩
def Inv.unpinned {af J:abw} {Z:St} {H:Hp} {s:iF} (I:Inv X (af++J) Z H s):Inv X af Z H s:=I.pins_of fun p L=>I.pin p (VG _ (Wc _ L))
def Og {iter:Wk} {body:List WO} {wi:TI} {g:TG} {tb:TS} {pos:Pos} (hp:ZU (VL X.prog X.w) X.A X.env X.xe) (hc:X.calm=true) (hi:PI X tg iter wi) (hg:PG X tg g) (hb:Fd X body tb)
  (hs:∀ x,WN iter X.env x=pure x:=by intro _;rfl):PS X (.For tg iter body [] pos) (Th wi g tb):=by
 intro af s Z H D I h;refine wpAny_For (eO (hi af s Z H _ I h) fun v s1 h1=>eO h1 fun itv s2 h2=>?_) hs;obtain ⟨it,fp,tn,J,H2,e,I2,T,st2,f2,W,⟨m0,w0⟩,turn⟩:=h2;subst e
 have stat:∀ {H':Hp},(∀ b∈fp,H' b=none)->∀ b∈fp,iI X af H' b:=fun hn b hb=>⟨hn b hb,(f2 b hb).2⟩;refine codeAny_forLoop_any (fun n s'=>∃ i σ' H',Inv X af σ' H' s'/\tn i s'.heap/\(∀ b∈fp,H' b=none)/\W i n σ' H') ?_ m0 ⟨0,Z,H2,I2,st2,fun b hb=>(f2 b hb).1,w0⟩;rintro n s3 ⟨i,σ3,H3,I3,st3,fr3,w3⟩;rcases turn i n σ3 H3 w3 with ⟨stop,qn⟩|⟨go,N,hN,step⟩
 .refine XA hp (eO (T.done X rfl rfl rfl hc i af s3 σ3 H3 X.xe I3 (stat fr3) st3 stop) fun r s4 ⟨hr,I4⟩=>?_);subst hr;exact YV ⟨σ3,H3,I4,qn⟩
 .refine XA hp (eO (T.item X rfl rfl rfl hc i af s3 σ3 H3 X.xe I3 (stat fr3) st3 go) fun r s4 ⟨u,hr,h4⟩=>?_);subst hr;refine XA hp (eO h4 fun _ s5 ⟨x,H5,I5,r5,y5,st5,fr5⟩=>?_);have I5':=I5.pinned (stat fr5) (T.obj _ _ st5);refine XA hp (eO (hg _ s5 σ3 H5 x u _ I5' r5 (step x H5 y5)) fun _ s6 ⟨σ6,H6,I6,q6⟩=>?_);refine XA hp (eO (hb _ s6 σ6 H6 _ I6 q6) fun f s7 q7=>?_);have again:∀ {L:St} {Y:Hp},Inv X (af++sO fp s5.heap) L Y s7->N L Y->∃ m,m < n/\∃ i σ' H',Inv X af σ' H' s7/\tn i s7.heap/\(∀ b∈fp,H' b=none)/\W i m σ' H':=fun {L Y} I7 n7=>by
   obtain ⟨m',hm,w7⟩:=hN L Y n7;refine ⟨m',hm,i+1,L,Y,I7.unpinned,T.keep _ _ _ st5 fun b hb o e=>(I7.pin (b,o) (VG _ (VG _ (iS hb e)))).1,fun b hb=>?_,w7⟩;obtain ⟨o,e,d⟩:=T.obj _ _ st5 b hb;exact (I7.pin (b,o) (VG _ (VG _ (iS hb e)))).2.1
  cases f with
  | next=>obtain ⟨L,Y,I7,n7⟩:=q7;exact again I7 n7
  | cont=>obtain ⟨L,Y,I7,n7⟩:=q7;exact again I7 n7
  | brk=>obtain ⟨L,Y,I7,q7⟩:=q7;exact ⟨L,Y,I7.unpinned,q7⟩
  | ret v=>obtain ⟨x7,L,Y,I7,r7,q7⟩:=q7;exact ⟨x7,L,Y,I7.unpinned,r7,q7⟩
end
abbrev R2:=V->V->Hp->VK->Prop
def ga (X:Cx) (f:gs->gs->Sem gs) (r:R2):Prop :=
 ∀ (af:abw) (s:iF) (Z:St) (H:Hp) (x y:V) (v u:gs) (Q:VK),Inv X af Z H s->bq x v->bq y u->r x y H Q ->
  Le (VL X.prog X.w) X.A (f v u) (EP X af Z Q) X.xe s
def Ld (X:Cx) (f:gs->Sem gs) (r:V->Hp->VK->Prop):Prop :=
 ∀ (af:abw) (s:iF) (Z:St) (H:Hp) (x:V) (v:gs) (Q:VK),Inv X af Z H s->bq x v->r x H Q ->
  Le (VL X.prog X.w) X.A (f v) (EP X af Z Q) X.xe s
def ce (X:Cx) (f:gs) (r:abB->Hp->VK->Prop):Prop :=
 ∀ (af:abw) (s:iF) (Z:St) (H:Hp) (xs:abB) (us:abA) (Q:VK),Inv X af Z H s->bC xs us->r xs H Q ->
  Le (VL X.prog X.w) X.A (call f us) (EP X af Z Q) X.xe s
def UY (X:Cx) (r:V->Hp->(Bool->Hp->Prop)->Prop):Prop :=
 ∀ (af:abw) (s:iF) (Z:St) (H:Hp) (x:V) (v:gs) (Q:Bool->Hp->Prop),Inv X af Z H s->bq x v->r x H Q ->
  Le (VL X.prog X.w) X.A (truthy v) (TP X af Z Q) X.xe s
def D9 (r:R2) (ta tb:TE):TE:=fun Z H Q=>ta Z H fun x H1=>tb Z H1 fun y H2=>r x y H2 Q
def Vy (r:V->Hp->VK->Prop) (ta:TE):TE:=fun Z H Q=>ta Z H fun x H1=>r x H1 Q
def rI (C:Int->Int->Prop) (g:Int->Int->V):R2:=fun x y H Q=>∃ i j,x=.int i/\y=.int j/\C i j/\Q (g i j) H
def M6 (g:Int->Int->V):R2:=fun x y H Q=>∃ i j,x=.int i/\y=.int j/\Q (g i j) H
def rU (g:Int->V):V->Hp->VK->Prop:=fun x H Q=>∃ i,x=.int i/\Q (g i) H
section
variable {X:Cx} {a b c:Wk} {ta tb tc:TE} {pos:Pos}
def Pc (ha:PE X a ta) (hb:PE X b tb) {af:abw} {s:iF} {Z:St} {H:Hp} {R:V->V->Hp->Prop} (I:Inv X af Z H s)
  (h:ta Z H fun x H1=>tb Z H1 fun y H2=>R x y H2) {Q:abx} {f:gs->gs->Sem gs}
  (hf:∀ v u Y x y H2,Inv X af Z H2 Y->bq x v->bq y u->R x y H2->Le (VL X.prog X.w) X.A (f v u) Q X.xe Y) :
  Le (VL X.prog X.w) X.A (eval a X.env) (fun v J=>Le (VL X.prog X.w) X.A (eval b X.env) (fun u L=>Le (VL X.prog X.w) X.A (f v u) Q X.xe L) X.xe J) X.xe s:=by
 refine eO (ha af s Z H _ I h) fun v s1 hh=>qQ hh fun x H1 I1 r1 q1=>?_;refine eO (hb af s1 Z H1 _ I1 q1) fun u Y hh=>qQ hh fun y H2 I2 r2 q2=>?_;exact hf v u Y x y H2 I2 r1 r2 q2
def R9 {op:Operator} {r:R2} (ho:ga X (W8 op) r) (Y:PE X a ta) (hb:PE X b tb):PE X (.BinOp a op b pos) (D9 r ta tb):=by
 intro af s Z H Q I h;exact wpAny_BinOp (Pc Y hb I h fun v u s2 x y H2 L J ry q=>ho af s2 Z H2 x y v u Q L J ry q)
def SQ {op:UnaryOp} {r:V->Hp->VK->Prop} (ho:Ld X (unaryOp op) r) (Y:PE X a ta):PE X (.UnaryOp op a pos) (Vy r ta):=by
 intro af s Z H Q I h;exact UnaryOp_ (eO (Y af s Z H _ I h) fun v s1 hh=>qQ hh fun x H1 L r1 J=>ho af s1 Z H1 x v Q L r1 J)
def TN {f:gs->gs->Sem gs} {C:Int->Int->Prop} {g:Int->Int->Int}
  (rule:∀ (i j:Int) (t u:Tok) (s:iF) (Q:abx) (E:abx),C i j->Q (.int (g i j) s.toks) { s with toks:=s.toks+1 }->Le (VL X.prog X.w) X.A (f (.int i t) (.int j u)) Q E s) :
  ga X f (rI C fun i j=>.int (g i j)):=by
 intro af s Z H x y v u Q I L Y h;obtain ⟨i,j,rfl,rfl,J,q⟩:=h;obtain ⟨t,rfl⟩:=L;obtain ⟨t',rfl⟩:=Y;exact rule i j t t' s _ _ J ⟨.int (g i j),H,I.tok _,⟨_,rfl⟩,q⟩
def Qw {f:gs->gs->Sem gs} {g:Int->Int->Int}
  (rule:∀ (i j:Int) (t u:Tok) (s:iF) (Q:abx) (E:abx),Q (.int (g i j) s.toks) { s with toks:=s.toks+1 }->Le (VL X.prog X.w) X.A (f (.int i t) (.int j u)) Q E s) :
  ga X f (M6 fun i j=>.int (g i j)):=by
 intro af s Z H x y v u Q I J L h;obtain ⟨i,j,rfl,rfl,q⟩:=h;obtain ⟨t,rfl⟩:=J;obtain ⟨t',rfl⟩:=L;exact rule i j t t' s _ _ ⟨.int (g i j),H,I.tok _,⟨_,rfl⟩,q⟩
def Ml {f:gs->gs->Sem gs} {g:Int->Int->Bool}
  (rule:∀ (i j:Int) (t u:Tok) (s:iF) (Q:abx) (E:abx),Q (.bool (g i j)) s->Le (VL X.prog X.w) X.A (f (.int i t) (.int j u)) Q E s) :
  ga X f (M6 fun i j=>.bl (g i j)):=by
 intro af s Z H x y v u Q I J L h;obtain ⟨i,j,rfl,rfl,q⟩:=h;obtain ⟨t,rfl⟩:=J;obtain ⟨t',rfl⟩:=L;exact rule i j t t' s _ _ ⟨.bl (g i j),H,I,rfl,q⟩
def Jh (i j:Int):Prop:=0 < j/\j < 1073741824
def KG (i j:Int):Prop:=0<=j/\j<=1000000/\i.natAbs < 2 ^ 64
def Eo (i j:Int):Prop:=(-(2 ^ 64) < i/\i < 2 ^ 64)\/(-(2 ^ 64) < j/\j < 2 ^ 64)
theorem Eo.ok {i j:Int} (h:Eo i j):IntMulOk i j:=by
 rcases h with ⟨h1,h2⟩|⟨h1,h2⟩
 .exact .of_left (intBits_le_64 h1 h2)
 .exact .of_right (intBits_le_64 h1 h2)
def PC:ga X (W8 .Add) (M6 fun i j=>.int (i+j)):=Qw fun _ _ _ _ _ _ _ q=>add_int q
def P5:ga X (W8 .Sub) (M6 fun i j=>.int (i - j)):=Qw fun _ _ _ _ _ _ _ q=>sub_int q
def OD:ga X (W8 .Mult) (rI Eo fun i j=>.int (i*j)):=TN fun _ _ _ _ _ _ _ J q=>mul_int q J.ok
def Mz:ga X (W8 .FloorDiv) (rI Jh fun i j=>.int (i/j)):=TN fun i j _ _ _ _ _ J q=>by
 have h1:(0:Int) < j:=J.1;have h2:j < 1073741824:=J.2;exact floordiv_int (by omega) (by rw [Int.fdiv_eq_ediv_of_nonneg i (by omega)];exact q) (.inl (PyProof.noPylong_small (by omega)))
def Qf:ga X (W8 .Mod) (rI (fun _ j=>0 < j) fun i j=>.int (i % j)):=TN fun i j _ _ _ _ _ J q=>by
 have h1:(0:Int) < j:=J;exact mod_int' (by omega) (by rw [Int.fmod_eq_emod_of_nonneg i (by omega)];exact q)
def Oe:ga X (W8 .Pow) (rI KG fun i j=>.int (i ^ j.toNat)):=TN fun _ _ _ _ _ _ _ J q=>pow_int_small J.1 J.2.1 J.2.2 q
def unI {f:gs->Sem gs} {g:Int->Int}
  (rule:∀ (i:Int) (t:Tok) (s:iF) (Q:abx) (E:abx),Q (.int (g i) s.toks) { s with toks:=s.toks+1 }->Le (VL X.prog X.w) X.A (f (.int i t)) Q E s) :
  Ld X f (rU fun i=>.int (g i)):=by
 intro af s Z H x v Q I J h;obtain ⟨i,rfl,q⟩:=h;obtain ⟨t,rfl⟩:=J;exact rule i t s _ _ ⟨.int (g i),H,I.tok _,⟨_,rfl⟩,q⟩
def PU:Ld X (unaryOp .USub) (rU fun i=>.int (-i)):=unI fun _ _ _ _ _ q=>neg_int q
end
def Cp:V->V->Bool
 | .non,.non=>true|.non,.int _=>true|.int _,.non=>true|.non,.bl _=>true|.bl _,.non=>true|.non,.str _=>true|.str _,.non=>true
 | .int _,.int _=>true|.bl _,.bl _=>true|.str _,.str _=>true|.byt _,.byt _=>true
 | .int _,.str _=>true|.str _,.int _=>true|.bl _,.str _=>true|.str _,.bl _=>true
 | _,_=>false
def rEq:R2:=fun x y H Q=>Cp x y=true/\Q (.bl (decide (x=y))) H
def rNe:R2:=fun x y H Q=>Cp x y=true/\Q (.bl (!decide (x=y))) H
def EX {i j:Int}:decide (V.int i=V.int j)=(i==j):=by
 rw [Xw];simp
def Kq {i j:Bool}:decide (V.bl i=V.bl j)=(i==j):=by
 rw [Xw];simp
def E4 {i j:Str}:decide (V.str i=V.str j)=(i==j):=by
 rw [Xw];simp
def E7 {i j:Array UInt8}:decide (V.byt i=V.byt j)=(i.toList==j.toList):=by
 rw [Xw];cases i;cases j;simp
section
variable {X:Cx} {a b c:Wk} {ta tb tc:TE} {pos:Pos}
def aY {af:abw} {Z:St} {H:Hp} {s:iF} {Q:VK} {k J:Bool} (I:Inv X af Z H s) (q:Q (.bl k) H) (e:k=J):EP X af Z Q (.bool J) s:=by
 subst e;exact ⟨.bl k,H,I,rfl,q⟩
def QM:ga X (VT .Eq) rEq:=by
 intro af s Z H x y v u Q I Y J h;obtain ⟨L,q⟩:=h;cases x with
 | non =>
  cases Y;cases y with
  | non=>cases J;exact PySem.EqNone.eq_none_none (aY I q (by simp))
  | bl j=>cases J;exact PySem.EqNone.eq_none_bool (aY I q (by simp))
  | int j=>obtain ⟨t',rfl⟩:=J;exact PySem.EqNone.eq_none_int (aY I q (by simp))
  | str j=>obtain ⟨t',rfl⟩:=J;exact PySem.EqNone.eq_none_str (aY I q (by simp))
  | _=>exact absurd (show false=true from L) lT
 | bl i =>
  cases Y;cases y with
  | non=>cases J;exact PySem.EqNone.eq_bool_none (aY I q (by simp))
  | bl j=>cases J;exact eq_bool (aY I q Kq)
  | str j=>obtain ⟨t',rfl⟩:=J;exact PySem.EqMixed.eq_bool_str (aY I q (by simp))
  | _=>exact absurd (show false=true from L) lT
 | int i =>
  obtain ⟨t,rfl⟩:=Y;cases y with
  | non=>cases J;exact PySem.EqNone.eq_int_none (aY I q (by simp))
  | int j=>obtain ⟨t',rfl⟩:=J;exact eq_int (aY I q EX)
  | str j=>obtain ⟨t',rfl⟩:=J;exact PySem.EqMixed.eq_int_str (aY I q (by simp))
  | _=>exact absurd (show false=true from L) lT
 | str i =>
  obtain ⟨t,rfl⟩:=Y;cases y with
  | non=>cases J;exact PySem.EqNone.eq_str_none (aY I q (by simp))
  | bl j=>cases J;exact PySem.EqMixed.eq_str_bool (aY I q (by simp))
  | int j=>obtain ⟨t',rfl⟩:=J;exact PySem.EqMixed.eq_str_int (aY I q (by simp))
  | str j=>obtain ⟨t',rfl⟩:=J;exact eq_str (aY I q E4)
  | _=>exact absurd (show false=true from L) lT
 | byt i =>
  obtain ⟨t,rfl⟩:=Y;cases y with
  | byt j=>obtain ⟨t',rfl⟩:=J;exact PySem.W.eq_bytes (aY I q E7)
  | _=>exact absurd (show false=true from L) lT
 | _=>cases y <;> exact absurd (show false=true from L) lT
def Rq:ga X (VT .NotEq) rNe:=by
 intro af s Z H x y v u Q I Y J h;obtain ⟨L,q⟩:=h;cases x with
 | non =>
  cases Y;cases y with
  | non=>cases J;exact PySem.EqNone.ne_none_none (aY I q (by simp))
  | bl j=>cases J;exact PySem.EqNone.ne_none_bool (aY I q (by simp))
  | int j=>obtain ⟨t',rfl⟩:=J;exact PySem.EqNone.ne_none_int (aY I q (by simp))
  | str j=>obtain ⟨t',rfl⟩:=J;exact PySem.EqNone.ne_none_str (aY I q (by simp))
  | _=>exact absurd (show false=true from L) lT
 | bl i =>
  cases Y;cases y with
  | non=>cases J;exact PySem.EqNone.ne_bool_none (aY I q (by simp))
  | bl j=>cases J;exact ne_bool (aY I q (abt not Kq))
  | str j=>obtain ⟨t',rfl⟩:=J;exact PySem.EqMixed.ne_bool_str (aY I q (by simp))
  | _=>exact absurd (show false=true from L) lT
 | int i =>
  obtain ⟨t,rfl⟩:=Y;cases y with
  | non=>cases J;exact PySem.EqNone.ne_int_none (aY I q (by simp))
  | int j=>obtain ⟨t',rfl⟩:=J;exact ne_int (aY I q (abt not EX))
  | str j=>obtain ⟨t',rfl⟩:=J;exact PySem.EqMixed.ne_int_str (aY I q (by simp))
  | _=>exact absurd (show false=true from L) lT
 | str i =>
  obtain ⟨t,rfl⟩:=Y;cases y with
  | non=>cases J;exact PySem.EqNone.ne_str_none (aY I q (by simp))
  | bl j=>cases J;exact PySem.EqMixed.ne_str_bool (aY I q (by simp))
  | int j=>obtain ⟨t',rfl⟩:=J;exact PySem.EqMixed.ne_str_int (aY I q (by simp))
  | str j=>obtain ⟨t',rfl⟩:=J;exact ne_str (aY I q (abt not E4))
  | _=>exact absurd (show false=true from L) lT
 | byt i =>
  obtain ⟨t,rfl⟩:=Y;cases y with
  | byt j=>obtain ⟨t',rfl⟩:=J;exact PySem.W.ne_bytes (aY I q (abt not E7))
  | _=>exact absurd (show false=true from L) lT
 | _=>cases y <;> exact absurd (show false=true from L) lT
def Rx:ga X (VT .Lt) (M6 fun i j=>.bl (decide (i < j))):=Ml fun _ _ _ _ _ _ _ q=>lt_int q
def Rc:ga X (VT .LtE) (M6 fun i j=>.bl (decide (i<=j))):=Ml fun _ _ _ _ _ _ _ q=>le_int q
def Ra:ga X (VT .Gt) (M6 fun i j=>.bl (decide (j < i))):=Ml fun _ _ _ _ _ _ _ q=>gt_int q
def Rn:ga X (VT .GtE) (M6 fun i j=>.bl (decide (j<=i))):=Ml fun _ _ _ _ _ _ _ q=>ge_int q
def Gk:ga X (VT .Lt) (fun x y H Q=>∃ i j,x=.str i/\y=.str j/\Q (.bl (decide (i.cps.toList < j.cps.toList))) H):=by
 intro af s Z H x y v u Q I J L h;obtain ⟨i,j,rfl,rfl,q⟩:=h;obtain ⟨t,rfl⟩:=J;obtain ⟨t',rfl⟩:=L;exact lt_str (aY I q rfl)
def Hr:ga X (VT .In) (fun x y H Q=>∃ i j,x=.str i/\y=.str j/\Q (.bl (!(Yc j i 0 j.length 1).isEmpty)) H):=by
 intro af s Z H x y v u Q I J L h;obtain ⟨i,j,rfl,rfl,q⟩:=h;obtain ⟨t,rfl⟩:=J;obtain ⟨t',rfl⟩:=L;exact in_str (aY I q rfl)
def Oa:ga X (VT .Is) (fun x y H Q=>y=.non/\Q (.bl (decide (x=.non))) H):=by
 intro af s Z H x y v u Q I J L h;obtain ⟨rfl,q⟩:=h;cases L;refine is_none_gen (aY I q ?_);cases x <;> first
  | (cases J;rfl)
  | (obtain ⟨t,rfl⟩:=J;rfl)
def MQ:ga X (VT .IsNot) (fun x y H Q=>y=.non/\Q (.bl (!decide (x=.non))) H):=by
 intro af s Z H x y v u Q I J L h;obtain ⟨rfl,q⟩:=h;cases L;refine isnot_none_gen (aY I q ?_);cases x <;> first
  | (cases J;rfl)
  | (obtain ⟨t,rfl⟩:=J;rfl)
def AF:ga X (VT .NotIn) (fun x y H Q=>∃ i j,x=.str i/\y=.str j/\Q (.bl (!(!(Yc j i 0 j.length 1).isEmpty))) H):=by
 intro af s Z H x y v u Q I J L h;obtain ⟨i,j,rfl,rfl,q⟩:=h;obtain ⟨t,rfl⟩:=J;obtain ⟨t',rfl⟩:=L;exact notIn_str (aY I q rfl)
def ga.or {f:gs->gs->Sem gs} {r L:R2} (h:ga X f r) (h':ga X f L):ga X f (fun x y H Q=>r x y H Q\/L x y H Q):=by
 intro af s Z H x y v u Q I J Y q;rcases q with q|q
 .exact h af s Z H x y v u Q I J Y q
 .exact h' af s Z H x y v u Q I J Y q
def aE (b:Wk) {op:CmpOp} (h:op≠.In:=by decide) (h2:op≠.NotIn:=by decide):Xp op b=false:=by
 have L:(op==CmpOp.In)=false:=by cases op <;> first|rfl|exact absurd rfl h
 have J:(op==CmpOp.NotIn)=false:=by cases op <;> first|rfl|exact absurd rfl h2
 cases b <;> simp [Xp,L,J]
def Ma {op:CmpOp} {r:R2} (ho:ga X (VT op) r) (ha:PE X a ta) (hb:PE X b tb) (J:Xp op b=false):PE X (.Compare a [op] [b] pos) (D9 r ta tb):=by
 intro af s Z H Q I h;exact wpAny_Compare1 (Pc ha hb I h fun v u s2 x y H2 Y L ry q=>ho af s2 Z H2 x y v u Q Y L ry q) J
def Uf (K:aT) (x:V) (H:Hp) (k:Bool):Prop :=
 match x with
 | .non=>k=false
 | .bl b=>k=b
 | .int i=>k=(i != 0)
 | .str y=>y.length<=IF/\k=((y.length:Int) != 0)
 | .byt y=>y.size<=IF/\k=((y.size:Int) != 0)
 | .ref p=>(∃ xs,iA K H p xs/\k=!xs.isEmpty)\/(∃ xs,mf K H p xs/\k=!xs.isEmpty)\/∃ kvs,H p=some (.dK kvs)/\k=!kvs.isEmpty
 | _=>False
def C6 {κ:Type} {kvs:List (κ×V)} {vs:List (κ×gs)} (r:KV kvs vs):(!vs.isEmpty)=!kvs.isEmpty:=by
 cases r <;> rfl
def xc {xs:abB} {its:abA} (r:bC xs its):(!its.toArray.isEmpty)=!xs.isEmpty:=by
 cases r <;> simp
def uS:(IF:Nat) < 2 ^ 63:=by rw [V6];decide
def OG:UY X (fun x H Q=>∃ k,Uf X.K x H k/\Q k H):=by
 intro af s Z H x v Q I Y h;obtain ⟨k,e,q⟩:=h;have hl:=uS;have hs:IF=16777216:=V6;cases x with
 | non =>
  cases Y;have J:k=false:=e;subst J;exact truthy_none ⟨H,I,q⟩
 | bl b =>
  cases Y;have J:k=b:=e;subst J;exact XB ⟨H,I,q⟩
 | int i =>
  obtain ⟨t,rfl⟩:=Y;have J:k=(i != 0):=e;subst J;exact PySem.P.truthy_int ⟨H,I,q⟩
 | str y =>
  obtain ⟨t,rfl⟩:=Y;obtain ⟨hy,J⟩:y.length<=IF/\k=((y.length:Int) != 0):=e;subst J;exact PySem.P.truthy_str (by omega) ⟨H,I.tok _,q⟩
 | byt y =>
  obtain ⟨t,rfl⟩:=Y;obtain ⟨hy,J⟩:y.size<=IF/\k=((y.size:Int) != 0):=e;subst J;exact PySem.W.truthy_bytes (by omega) ⟨H,I.tok _,q⟩
 | ref p =>
  cases Y;have J:(∃ xs,iA X.K H p xs/\k=!xs.isEmpty)\/(∃ xs,mf X.K H p xs/\k=!xs.isEmpty)\/∃ kvs,H p=some (.dK kvs)/\k=!kvs.isEmpty:=e;rcases J with ⟨xs,hx,J⟩|⟨xs,hx,J⟩|⟨kvs,hx,J⟩
  .subst J;obtain ⟨its,r,pl,hz⟩:=I.list hx;have L:=r.length;exact wpAny_truthy_list pl.isList (by simp only [tx];omega) ⟨H,I.tok _,by rw [xc r];exact q⟩
  .subst J;obtain ⟨its,r,pl,hz⟩:=I.tuple hx;have L:=r.length;exact truthy_tuple pl (by simp only [tx];omega) ⟨H,I.tok _,by rw [xc r];exact q⟩
  .subst J;obtain ⟨hz,hS,vs,r,m⟩:kvs.length<=IF/\(p==W2)=false/\∃ vs,KV kvs vs/\s.heap.DictOf (cA X.prog X.w) p vs:=I.hok p _ hx;have L:kvs.length=vs.length:=Zq r;exact wpAny_truthy_dict hS m (by omega) ⟨H,I.tok _,by rw [C6 r];exact q⟩
 | _=>exact (show False from e).elim
def Em:ga X (W8 .Add) (fun x y H Q=>∃ i j,x=.str i/\y=.str j/\i.length+j.length<=IF/\Q (.str (i++j)) H):=by
 intro af s Z H x y v u Q I J L h;obtain ⟨i,j,rfl,rfl,hz,q⟩:=h;obtain ⟨t,rfl⟩:=J;obtain ⟨t',rfl⟩:=L;exact bi I.tk (add_str (fun t' tk Y=>⟨.str (i++j),H,I.tok _,⟨_,rfl⟩,q⟩) hz)
def kQ {x:V} {us:abA} (r:bC [x] us):∃ u,us=[u]/\bq x u:=by
 cases r with
 | cons J L=>cases L;exact ⟨_,rfl,J⟩
def Fy {x y:V} {us:abA} (r:bC [x,y] us):∃ u w',us=[u,w']/\bq x u/\bq y w':=by
 cases r with
 | cons Y r2 =>
  cases r2 with
  | cons J L=>cases L;exact ⟨_,_,rfl,Y,J⟩
def Ig:ce X (.builtin "abs") (fun xs H Q=>∃ i,xs=[.int i]/\Q (.int (if i < 0 then -i else i)) H):=by
 intro af s Z H xs us Q I r h;obtain ⟨i,rfl,q⟩:=h;obtain ⟨u,rfl,t,rfl⟩:=kQ r;exact bi I.tk (call_abs_int fun u tk J=>⟨.int (if i < 0 then -i else i),H,I.tok _,⟨_,rfl⟩,q⟩)
def GS (L:X.calm=true):ce X (.builtin "min") (fun xs H Q=>∃ i j,xs=[.int i,.int j]/\Q (.int (if j < i then j else i)) H):=by
 intro af s Z H xs us Q I r h;obtain ⟨i,j,rfl,q⟩:=h;obtain ⟨u,w',rfl,⟨t,rfl⟩,⟨t',rfl⟩⟩:=Fy r;refine bi I.tk (min_two_ints (I.ok.hd L) fun h' tk k Y=>⟨_,H,I.kept k,?_,q⟩);by_cases J:j < i
 .rw [abn J,abn J];exact ⟨_,rfl⟩
 .rw [abo J,abo J];exact ⟨_,rfl⟩
end
structure ObjM (h:Xj) (x dx C:Do) (mA:aby):Prop where
 obj:h.get? x=some (Xf C dx)
 ns:h.Ns1 dx mA
 ne:dx≠x
def GW {h:Xj} {dx:Do} {mA:aby} (n:h.Ns1 dx mA):∃ od,h.get? dx=some od/\∀ name,Z8 name od=some (mA name):=by
 obtain ⟨o,es,ep,ho,hd,hk,_,L⟩:=n;refine ⟨o,ho,fun name=>?_⟩;have e:=L name;unfold nsFind findBy at e;rw [<- aau] at e;unfold Z8;rw [hd];dsimp only;split
 .rename_i y q;rw [q] at e;exact abt some e
 .rename_i q;rw [q] at e;have a:es.toList.any (·.refKey)=false:=by
   rw [aaE];intro y Y;obtain ⟨z,t,J⟩:=hk y (Array.mem_toList_iff.mp Y);simp [DictEntry.refKey,J]
  have a':¬ es.toList.any (·.refKey)=true:=by rw [a];exact lT
  rw [abo a'];exact abt some e
def ObjM.look {h:Xj} {x dx C:Do} {mA:aby} (I:ObjM h x dx C mA):∃ od,PySem.W.InstAt h x (Xf C dx) C (some od)/\∀ name,Z8 name od=some (mA name) :=
 let ⟨od,ho,hl⟩:=GW I.ns
 ⟨od,⟨I.obj,rfl,rfl,ho⟩,hl⟩
section
variable {prog:VH} {w:VZ} {A:VV} {E:abx} {s:iF} {K:aT} {x dx C f:Do} {mA:aby} {name:Str} {v:gs}
def get_map {L:Bool} {Q:abx} (X:K.In s.heap) (I:ObjM s.heap x dx C mA) (hg:ZC K C name=true) (hh:Zg K C=true)
  (ha:WB K (.ref C) name=some none) (hv:mA name=some v) (Y:aaV v=true) (h:Q v { s with toks:=s.toks+1 }) :
  Le (VL prog w) A (getAttr (.ref x) name L) Q E s:=by
 obtain ⟨od,J,hl⟩:=I.look;exact PySem.W.get_value X J (PySem.W.plainGet_of hg).1 (PySem.W.findObj_own hh ha rfl (by rw [hl,hv])) Y h
def K0 {ns:abv} {Q:Unit->iF->Prop} (X:K.In s.heap) (I:ObjM s.heap x dx C mA)
  (hs:WB K (.ref C) "__setattr__"=some (some (.builtin "object.__setattr__"))) (hp:aaF K C=true) (ht:ZJ K C name=some none) (hh:Zg K C=true)
  (hw:aaO mA ns) (hsz:ns.length<=IF)
  (h:∀ h',ObjM h' x dx C (fun y=>if y=name then some v else mA y)->Wv dx s.heap h'->Q () { s with heap:=h',toks:=s.toks+2 }) :
  Le (VL prog w) A (setAttr (.ref x) name v) Q E s:=by
 obtain ⟨od,J,hl⟩:=I.look;refine PySem.W.set_plain X J hs (PySem.W.osa_open (s:={ s with toks:=s.toks+1 }) (r:=none) X J hp ht fun b=>?_);obtain ⟨cd,hc,hd'⟩:=PySem.W.any_some hh;have hx:s.heap.get? x=some ⟨.ref C,some dx,.plain,#[]⟩:=I.obj;refine bY (rW (bY (bY (wpAny_loadPart hx (bY (PySem.W.Looks.here (s:={ s with toks:=s.toks+1 }) (PySem.W.looks_clsIn X hc) ?_))))));rw [hd'];refine rW (a:=some dx) (bY (rW (bY ?_)));refine wpAny_nsSet1 (s:={ s with toks:=s.toks+1 }) I.ns fun h' L Y=>?_;obtain ⟨oD,esD,epD,hoD,hdD,hcD⟩:=L.count (PySem.Within.cons name v hw);refine bY (wpAny_lookBehind hoD (by rw [hdD];exact pastItsLine_dict (RW hcD (by rw [V3];omega))) ?_);exact rW (h _ ⟨(Y.2 _ (X5 I.ne)).trans I.obj,L,I.ne⟩ Y)
def IV {R:Result->iF->Prop} {vs:abA} {kw:List (Str×gs)} (X:K.In s.heap) (L:aa5 K C=true)
  (hi:WB K (.ref C) "__init__"=some (some (.ref f))) (hf:PySem.W.typeIn K (.ref f)=some (.type "function"))
  (h:YU (VL prog w) (A.under (.builtin "type.__call__" ⟨.ref C::vs,kw⟩)) (.call (.ref f) ⟨.ref (s.heap.objs.size+1)::vs,kw⟩) (PySem.W.InitBack (s.heap.objs.size+1) R)
   { s with heap:=(s.heap.push WJ).push (Xf C s.heap.objs.size) }) :
  YU (VL prog w) A (.call (.ref C) ⟨vs,kw⟩) R s:=by
 obtain ⟨Y,g,d,t,os⟩:=s;exact PySem.W.make_core (PySem.W.makes_of X L) (PySem.W.looks_findIn X hi) (fun J=>PySem.W.bind_fn X J hf) (.inl rfl) h
end
def rM (f:Str) (v:V):List (Str×V)->List (Str×V)
 | []=>[(f,v)]
 | (g,x)::r=>if g=f then (g,v)::r else (g,x)::rM f v r
def vY (f g:Str) (v:V):∀ fs:List (Str×V),(rM f v fs).lookup g=if g=f then some v else fs.lookup g
 | []=>by
  show Xg g [(f,v)]=_;by_cases h:g=f
  .have hb:(g==f)=true:=beq_iff_eq.mpr h;simp only [Xg,hb,abn h]
  .have hb:(g==f)=false:=beq_eq_false_iff_ne.mpr h;simp only [Xg,hb,abo h]
 | (k,x)::r=>by
  have L:=vY f g v r;rw [show rM f v ((k,x)::r)=(if k=f then (k,v)::r else (k,x)::rM f v r) from rfl];by_cases J:k=f
  .rw [abn J];by_cases h:g=k
   .have hb:(g==k)=true:=beq_iff_eq.mpr h;simp only [Xg,hb,abn (h.trans J)]
   .have hb:(g==k)=false:=beq_eq_false_iff_ne.mpr h;simp only [Xg,hb,abo (fun e:g=f=>h (e.trans J.symm))]
  .rw [abo J];by_cases h:g=k
   .have hb:(g==k)=true:=beq_iff_eq.mpr h;simp only [Xg,hb,abo (fun e:g=f=>J (h.symm.trans e))]
   .have hb:(g==k)=false:=beq_eq_false_iff_ne.mpr h;simp only [Xg,hb];exact L
def vo (f:Str) (v:V):∀ fs:List (Str×V),f∈(rM f v fs).map (·.1)/\∀ g,g∈fs.map (·.1)->g∈(rM f v fs).map (·.1)
 | []=>⟨by simp [rM],fun g h=>by simp at h⟩
 | (k,x)::r=>by
  obtain ⟨i1,i2⟩:=vo f v r;rw [show rM f v ((k,x)::r)=(if k=f then (k,v)::r else (k,x)::rM f v r) from rfl];by_cases J:k=f
  .rw [abn J];subst J;exact ⟨by simp,fun g h=>by simpa using h⟩
  .rw [abo J];refine ⟨?_,fun g h=>?_⟩
   .rw [By];exact mK _ i1
   .rw [By] at h ⊢;rcases nE.mp h with e|e
    .exact nE.mpr (.inl e)
    .exact mK _ (i2 g e)
def v3 (f:Str) (v:V):∀ fs:List (Str×V),(rM f v fs).length<=fs.length+1
 | []=>by simp [rM]
 | (k,x)::r=>by
  have L:=v3 f v r;rw [show rM f v ((k,x)::r)=(if k=f then (k,v)::r else (k,x)::rM f v r) from rfl];by_cases J:k=f
  .rw [abn J,V3,V3];omega
  .rw [abo J,V3,V3];omega
def vz.some_of {v:V} {o:Option gs} (r:vz (some v) o):∃ u,o=some u/\bq v u:=by
 cases o with
 | none=>exact (show False from r).elim
 | some u=>exact ⟨u,rfl,r⟩
def F3 {v:V} {u:gs} (r:bq v u):aaV u=true:=by
 cases v with
 | non=>cases (show u=Wh from r);rfl
 | bl b=>cases (show u=ZV b from r);rfl
 | int i=>obtain ⟨t,e⟩:=(show ∃ t,u=aap i t from r);cases e;rfl
 | str x=>obtain ⟨t,e⟩:=(show ∃ t,u=aaq x t from r);cases e;rfl
 | byt b=>obtain ⟨t,e⟩:=(show ∃ t,u=Value.bytes b t from r);cases e;rfl
 | flt b=>obtain ⟨t,e⟩:=(show ∃ t,u=aa4 b t from r);cases e;rfl
 | ref a=>cases (show u=We a from r);rfl
 | ty n=>cases (show u=YK n from r);rfl
section
variable {P:VH} {w:VZ} {H H':Hp} {h h':Xj} {a C dx:Do} {fs fs':List (Str×V)}
def AD (J:tF P w H h) (e:H a=some (.ins C dx fs)):∃ mA,ObjM h a dx C mA/\(∀ f,vz (fs.lookup f) (mA f))/\aaO mA (fs.map (·.1))/\fs.length<=1000/\H dx=some (.own a):=by
 obtain ⟨d,z,ne,L,mA,n,r,q⟩:=(show cc P w H h a (.ins C dx fs) from J a _ e);exact ⟨mA,⟨L,n,ne⟩,r,q,z,d⟩
end
structure Cls (K:aT) (C:Do):Prop where
 pg:ZC K C Str.empty=true
 hd:Zg K C=true
 po:aaF K C=true
 sa:WB K (.ref C) "__setattr__"=some (some (.builtin "object.__setattr__"))
def Cls.get {K:aT} {C:Do} (c:Cls K C) (f:Str):ZC K C f=true:=c.pg
def iZ (K:aT) (C:Do) (f:Str):Prop:=WB K (.ref C) f=some none
def iZ.taker {K:aT} {C:Do} {f:Str} (n:iZ K C f):ZJ K C f=some none:=by
 unfold ZJ;rw [show WB K (.ref C) f=some none from n];rfl
section
variable {X:Cx} {af:abw} {Z:St} {H:Hp} {s:iF} {a C dx:Do} {fs:List (Str×V)} {f:Str} {v:V} {A:VV} {E:abx}
def DW {b:Bool} {Q:abx} (I:Inv X af Z H s) (e:H a=some (.ins C dx fs)) (c:Cls X.K C) (n:iZ X.K C f) (l:fs.lookup f=some v)
  (h:∀ u s',Inv X af Z H s'->bq v u->Q u s'):Le (VL X.prog X.w) A (getAttr (.ref a) f b) Q E s:=by
 obtain ⟨mA,O,r,_,_,_⟩:=AD I.hok e;obtain ⟨u,L,J⟩:=vz.some_of (v:=v) (o:=mA f) (by rw [<- l];exact r f);exact get_map I.kIn O (c.get f) c.hd n L (F3 J) (h u _ (I.tok _) J)
def Dn {y:V} {u:gs} {Q:Unit->iF->Prop} (I:Inv X af Z H s) (e:H a=some (.ins C dx fs)) (c:Cls X.K C) (n:iZ X.K C f) (hl:fs.length < 1000) (ry:bq y u)
  (h:∀ s',Inv X af Z (upd H a (.ins C dx (rM f y fs))) s'->Q () s'):Le (VL X.prog X.w) A (setAttr (.ref a) f u) Q E s:=by
 obtain ⟨mA,O,r,wi,_,J⟩:=AD I.hok e;have hz:(fs.map (·.1)).length<=IF:=by rw [iN,V6];omega
 refine K0 I.kIn O c.sa c.po n.taker c.hd wi hz fun h' O' L=>h _ ?_;have hd:∃ o,h'.get? dx=some o:=let ⟨o,_,_,e',_⟩:=O'.ns;⟨o,e'⟩;refine I.write (x:=a) (e:=dx) (by rw [e];exact WX) (.inr J) (fun b q Y z=>(L.2 b Y).trans z) hd ?_;refine ⟨by rw [aU O.ne];exact J,?_,O.ne,O'.obj,_,O'.ns,fun g=>?_,fun g hg=>?_⟩
 .have:=v3 f y fs;omega
 .show vz ((rM f y fs).lookup g) (if g=f then some u else mA g);rw [vY];by_cases q:g=f
  .rw [abn q,abn q];exact ry
  .rw [abo q,abo q];exact r g
 .by_cases q:g=f
  .rw [q];exact (vo f y fs).1
  .refine (vo f y fs).2 g (wi g fun z=>hg ?_);show (if g=f then some u else mA g)=none;rw [abo q];exact z
def Inv.made (I:Inv X af Z H s):Inv X af Z (upd (upd H s.heap.objs.size (.own (s.heap.objs.size+1))) (s.heap.objs.size+1) (.ins C s.heap.objs.size []))
  { s with heap:=(s.heap.push WJ).push (Xf C s.heap.objs.size) }:=by
 have J:(s.heap.push WJ).get? s.heap.objs.size=some WJ:=CT s.heap rfl;have Y:((s.heap.push WJ).push (Xf C s.heap.objs.size)).get? (s.heap.objs.size+1)=some (Xf C s.heap.objs.size):=by
  have:=CT (s.heap.push WJ) (o:=Xf C s.heap.objs.size) rfl
  rwa [Wy] at this
 have e3:(s.heap.push WJ).Ns s.heap.objs.size (fun _=>none):=⟨WJ,#[],_,J,rfl,(fun e he=>absurd he (by simp)),fun _=>rfl⟩;have L:=I.laid (a:=s.heap.objs.size) (o:=.own (s.heap.objs.size+1)) (h':=s.heap.push WJ) (t':=s.toks) (fun b u q=>dO _ q) (oR _) ⟨_,J⟩;refine L.laid (a:=s.heap.objs.size+1) (o:=.ins C s.heap.objs.size []) (t':=s.toks) (fun b u q=>dO _ q) (aaQ (Wy _ _)) ?_;have ne:s.heap.objs.size≠s.heap.objs.size+1:=VI (XG _);refine ⟨by rw [aU ne,a9],VY _,ne,Y,fun _=>none,(Heap.Ns1.of_empty e3).at fun o q=>dO _ q,fun _=>WX,fun y hy=>absurd rfl hy⟩
def L5 {prog:VH} {w:VZ} {env:Env} {e:Wk} {f:Str} {pos:Pos} {s:iF} {Q:abx} (L:WG e f env (eval e env)=eval e env)
  (h:Le (VL prog w) A (eval e env) (fun o J=>Le (VL prog w) A (getAttr o f true) Q E J) E s):Le (VL prog w) A (eval (.Attribute e f pos) env) Q E s :=
 Attribute_any_ h (by rw [arm_eval_Attribute,L])
end
def UZ (K:aT) (ta:TE) (f:Str):TE:=fun Z H Q=>ta Z H fun x H1=>∃ a C dx fs v,x=.ref a/\H1 a=some (.ins C dx fs)/\Cls K C/\iZ K C f/\fs.lookup f=some v/\Q v H1
def U6 (K:aT) (ta tv:TE) (f:Str):TS:=fun D Z H=>tv Z H fun y H1=>ta Z H1 fun x H2=>∃ a C dx fs,x=.ref a/\H2 a=some (.ins C dx fs)/\Cls K C/\iZ K C f/\fs.length < 1000 /\
 D.nx Z (upd H2 a (.ins C dx (rM f y fs)))
section
variable {X:Cx} {o e value:Wk} {f:Str} {pos pos' tpos:Pos} {ta tv:TE}
def O4 (Y:PE X e ta) (L:WG e f X.env (eval e X.env)=eval e X.env):PE X (.Attribute e f pos) (UZ X.K ta f):=by
 intro af s Z H Q I h;refine L5 L (eO (Y af s Z H _ I h) fun u s1 ⟨x,H1,I1,rx,a,C,dx,fs,v,ex,ea,c,n,l,q⟩=>?_);subst ex;obtain rfl:u=We a:=rx;exact DW I1 ea c n l fun u' s2 I2 J=>⟨v,H1,I2,J,q⟩
def Dw (Y:PE X o ta) (J:PE X value tv) (L:XN value (some (.Attribute o f pos')) pos.line X.env=pure false):PS X (.Assign [.Attribute o f pos'] value pos) (U6 X.K ta tv f):=by
 intro af s Z H D I h;refine plainObj_wpAny_Assign_Attribute (eO (J af s Z H _ I h) fun u s1 ⟨y,H1,I1,ry,q⟩=>eO (Y af s1 Z H1 _ I1 q) fun ov s2 ⟨x,H2,I2,rx,a,C,dx,fs,ex,ea,c,n,l,q2⟩=>?_) L;subst ex;obtain rfl:ov=We a:=rx;exact Dn I2 ea c n l ry fun s3 I3=>⟨Z,_,I3,q2⟩
end
section
variable {X:Cx} {af:abw} {Z:St} {H:Hp} {s:iF} {A:VV} {E:abx} {Q:abx} {c:gs} {b:Bool}
inductive TyOf (K:aT) (H:Hp):V->gs->Prop where
 | non:TyOf K H .non (.type "NoneType")
 | bl (x:Bool):TyOf K H (.bl x) (.type "bool")
 | int (i:Int):TyOf K H (.int i) (.type "int")
 | str (x:Str):TyOf K H (.str x) (.type "str")
 | flt (x:UInt64):TyOf K H (.flt x) (.type "float")
 | lst {a:Do} {xs:abB} (e:H a=some (.lst xs)):TyOf K H (.ref a) (.type "list")
 | frz {a:Do} {o:Obj} {xs:abB} (e:H a=some (.frz o (.lst xs))):TyOf K H (.ref a) (.type "list")
 | tup {a:Do} {xs:abB} (e:H a=some (.tup xs)):TyOf K H (.ref a) (.type "tuple")
 | dK {a:Do} {kvs:List (Key×V)} (e:H a=some (.dK kvs)):TyOf K H (.ref a) (.type "dict")
 | dT {a:Do} {kvs:List (List Key×V)} (e:H a=some (.dT kvs)):TyOf K H (.ref a) (.type "dict")
 | ins {a C dx:Do} {fs:List (Str×V)} (e:H a=some (.ins C dx fs)) (cl:Cls K C) (ha:WB K (.ref C) "__class__"=some (some (.builtin "object.__class__")))
   (hn:aaG K (.builtin "object.__class__") "__get__"=some (some (.builtin "getset_descriptor.__get__"))) (htk:aa6 K (.builtin "object.__class__")=some true)
   (hm:PySem.W.mroIn K C (.type "object")=some true):TyOf K H (.ref a) (.ref C)
def gR {x:V} {u t:gs} (I:Inv X af Z H s) (L:bq x u) (ty:TyOf X.K H x t) (e:XX X.K t c=some b) (h:∀ tk,Q (.bool b) { s with toks:=tk }) :
  Le (VL X.prog X.w) A (call (.builtin "isinstance") [u,c]) Q E s:=by
 cases ty with
 | non=>cases (show u=Wh from L);exact Wf PySem.W.kitx_none I.kIn WX e (fun z=>nomatch z) h
 | bl y=>cases (show u=ZV y from L);exact Wf PySem.W.kitx_bool I.kIn WX e (fun z=>nomatch z) h
 | int i=>obtain ⟨t,q⟩:=(show ∃ t,u=aap i t from L);cases q;exact Wf PySem.W.kitx_int I.kIn WX e (fun z=>nomatch z) h
 | str y=>obtain ⟨t,q⟩:=(show ∃ t,u=aaq y t from L);cases q;exact Wf PySem.W.kitx_str I.kIn WX e (fun z=>nomatch z) h
 | flt y=>obtain ⟨t,q⟩:=(show ∃ t,u=aa4 y t from L);cases q;exact Wf PySem.W.kitx_float I.kIn WX e (fun z=>nomatch z) h
 | @lst a xs ea =>
  cases (show u=We a from L);obtain ⟨_,_,n,_,h1⟩:=(show cc X.prog X.w H s.heap a (.lst xs) from I.hok a _ ea);exact Wf Zh I.kIn ⟨_,h1,rfl⟩ e (fun z=>nomatch z) h
 | @frz a ob xs ea =>
  cases (show u=We a from L);obtain ⟨_,_,_,n,_,h1⟩:=(show cc X.prog X.w H s.heap a (.frz ob (.lst xs)) from I.hok a _ ea);exact Wf Zh I.kIn ⟨_,h1,rfl⟩ e (fun z=>nomatch z) h
 | @tup a xs ea =>
  cases (show u=We a from L);obtain ⟨_,_,_,p⟩:=(show cc X.prog X.w H s.heap a (.tup xs) from I.hok a _ ea);obtain ⟨o,h1,h2,_⟩:=p;exact Wf Y7 I.kIn ⟨o,h1,h2⟩ e (fun z=>nomatch z) h
 | @dK a kvs ea =>
  cases (show u=We a from L);obtain ⟨_,_,vs,_,p⟩:=(show cc X.prog X.w H s.heap a (.dK kvs) from I.hok a _ ea);obtain ⟨o,es,ep,h1,h2,_⟩:=p;exact Wf Zi I.kIn ⟨o,h1,h2.1⟩ e (fun z=>nomatch z) h
 | @dT a kvs ea =>
  cases (show u=We a from L);obtain ⟨_,_,xs,_,o,es,ep,h1,h2,_⟩:=(show cc X.prog X.w H s.heap a (.dT kvs) from I.hok a _ ea);exact Wf Zi I.kIn ⟨o,h1,h2.1⟩ e (fun z=>nomatch z) h
 | @ins a C dx fs ea cl ha hn htk hm =>
  cases (show u=We a from L);obtain ⟨mA,O,_⟩:=AD I.hok ea;obtain ⟨od,J,_⟩:=O.look;exact Wf (PySem.W.kitx_own (cl.get _) cl.hd ha hn htk hm) I.kIn J e (fun z=>nomatch z) h
end
structure Room (k:Nat) (A:VV):Prop where
 hd:A.handled=none
 dp:A.depth+3*k+5 < recursionLimit
 un:A.units+16*k+200 < YX
def Room.mono {j k:Nat} {A:VV} (r:Room k A) (h:j<=k):Room j A:=⟨r.hd,by have:=r.dp;omega,by have:=r.un;omega⟩
def Room.deeper {k:Nat} {A:VV} (r:Room (k+1) A) (env:Env):Room k (A.deeper env) :=
 ⟨r.hd,by have:=r.dp;show A.depth+1+3*k+5 < _;omega,by have:=r.un;show A.units+3+16*k+200 < _;omega⟩
def DJ {A:VV} {C:Do} {us:abA} {kw:List (Str×gs)}:(A.under (.builtin "type.__call__" ⟨.ref C::us,kw⟩)).depth=A.depth+1:=by
 first|rfl|simp [aaR,Code.weight,Code.isCreation,Code.isGuard,Code.isCaller,Code.frames,aaS,guardIds]
def DM {A:VV} {C:Do} {us:abA} {kw:List (Str×gs)}:(A.under (.builtin "type.__call__" ⟨.ref C::us,kw⟩)).units=A.units+1:=by
 first|rfl|simp [aaR,Code.cUnits,Code.frames,aaS]
def Room.make {k:Nat} {A:VV} (r:Room (k+1) A) (C:Do) (us:abA) (kw:List (Str×gs)):Room k (A.under (.builtin "type.__call__" ⟨.ref C::us,kw⟩)) :=
 ⟨r.hd,by have:=r.dp;rw [DJ];omega,by have:=r.un;rw [DM];omega⟩
def Room.depth {k:Nat} {A:VV} (r:Room k A):A.depth < recursionLimit:=by have:=r.dp;omega
def Room.units {k:Nat} {A:VV} (r:Room k A):A.units+64 < YX:=by have:=r.un;omega
def G5:TA:=fun _ H Q=>Q [] H
def y3 (ta:TE) (tr:TA):TA:=fun Z H Q=>ta Z H fun x H1=>tr Z H1 fun xs H2=>Q (x::xs) H2
section
variable {X:Cx} {e:Wk} {es:List Wk} {te:TE} {t:TA} {pos:Pos}
def P6:PA X [] G5:=fun _ _ _ _ H Q I h=>aaH ⟨[],H,I,.nil,h⟩
def Lw (ha:PE X e te) (hr:PA X es t) (hs:V2 (e::es) X.env=(false,eval e X.env)::V2 es X.env:=by rfl):PA X (e::es) (y3 te t):=by
 intro pos af s Z H Q I h;rw [hs];show Le _ _ (spliced ((false,eval e X.env)::X9 pos (V2 es X.env))) _ _ s;refine aav (eO (ha af s Z H _ I h) fun u s1 J=>qQ J fun x H1 I1 r1 L=>?_);exact eO (hr pos af s1 Z H1 _ I1 L) fun us s2 J=>qQ J fun xs H2 I2 Y q2=>⟨x::xs,H2,I2,.cons r1 Y,q2⟩
def Rm (t:TA):TE:=fun Z H Q=>t Z H fun xs H1=>xs.length<=IF/\∀ p,H1 p=none->Q (.ref p) (upd H1 p (.tup xs))
def RY (t:TA):TE:=fun Z H Q=>t Z H fun xs H1=>xs.length<=IF/\∀ p,H1 p=none->Q (.ref p) (upd H1 p (.lst xs))
def P7 {x1} (h:PA X es t):PE X (.Tuple es x1 pos) (Rm t):=by
 intro af s Z H Q I J;refine wpAny_Tuple_spliced (eO (h pos af s Z H _ I J) fun us s1 ⟨xs,H1,I1,r,z,q⟩=>⟨by rw [<- r.length];exact z,?_⟩);have hf:H1 s1.heap.objs.size=none:=I1.hok.fresh (oR _);refine ⟨.ref s1.heap.objs.size,upd H1 s1.heap.objs.size (.tup xs),I1.laid (t':=s1.toks) (fun b u e=>dO _ e) (oR _) ?_,rfl,q _ hf⟩;exact ⟨z,us,r,⟨_,CT _ rfl,rfl,_,rfl⟩⟩
def PL (h:PA X es t):PE X (.List es pos) (RY t):=by
 intro af s Z H Q I J;refine wpAny_List_spliced (eO (h pos af s Z H _ I J) fun us s1 ⟨xs,H1,I1,r,z,q⟩=>⟨by rw [<- r.length];exact z,?_⟩);have hf:H1 s1.heap.objs.size=none:=I1.hok.fresh (oR _);refine ⟨.ref s1.heap.objs.size,upd H1 s1.heap.objs.size (.lst xs),I1.laid (t':=s1.toks) (fun b u e=>dO _ e) (oR _) ?_,rfl,q _ hf⟩;exact ⟨z,us,0,r,CT _ rfl⟩
end
abbrev Sp:=abB->Hp->VK->XK->Prop
abbrev HA:=List Env->Hp->iF->XK->gs->iF->Prop
structure Env0 (P:VH) (w:VZ) (K:aT) (mg:aby) (base:Xj) (A:VV) (outer:List Env) (s:iF) (H:Hp):Prop where
 frames:A.frames=some outer
 mod:Mod K mg base
 bs:∀ b o,base.get? b=some o->s.heap.get? b=some o/\H b=none
 bsz:base.objs.size<=s.heap.objs.size
 funs:s.heap.FunFrames base outer
 frf:∀ b∈HF outer,H b=none
 hok:tF P w H s.heap
 bare:AllBare s.gens
def CE (J:List Env) (P:VH) (w:VZ) (H:Hp) (s:iF) (Q:VK) (u:gs) (s':iF):Prop :=
 ∃ v H',s'.os=s.os/\AllBare s'.gens/\Un (HF J) [] H H' s.heap s'.heap/\tF P w H' s'.heap/\bq v u/\Q v H'
def CR (CX:HA) (J:List Env) (P:VH) (w:VZ) (H:Hp) (s:iF) (Q:VK) (E:XK) (r:Result) (s':iF):Prop :=
 match r with
 | .ok (.ret u)=>CE J P w H s Q u s'
 | .ok _=>False
 | .error e=>CX J H s E e s'
structure FnOk (P:VH) (w:VZ) (K:aT) (mg:aby) (base:Xj) (CX:HA) (k:Nat) (f:Do) (fd:Wl) (ps:abv) (sp:Sp):Prop where
 len:∀ vs H Q E,sp vs H Q E->vs.length=ps.length
 run:∀ (A:VV) (outer:List Env) (s:iF) (H:Hp) (args:Args) (us:abA) (vs:abB) (Q:VK) (E:XK),Room k A->Env0 P w K mg base A outer s H->BindsTo s fd args (ps.zip us)->bC vs us->sp vs H Q E ->
  YU (VL P w) A (.call (.ref f) args) (CR CX outer P w H s Q E) s
def FnOk.imp {P:VH} {w:VZ} {K:aT} {mg:aby} {base:Xj} {CX:HA} {k:Nat} {f:Do} {fd:Wl} {ps:abv} {sp L:Sp} (F:FnOk P w K mg base CX k f fd ps sp)
  (h:∀ vs H Q E,L vs H Q E->sp vs H Q E):FnOk P w K mg base CX k f fd ps L :=
 ⟨fun vs H Q E q=>F.len vs H Q E (h _ _ _ _ q),fun A J s H Y us vs Q E hr he hb hv hs=>F.run A J s H Y us vs Q E hr he hb hv (h _ _ _ _ hs)⟩
def Env0.make {P:VH} {w:VZ} {K:aT} {mg:aby} {base:Xj} {A:VV} {J:List Env} {s:iF} {H:Hp} (e:Env0 P w K mg base A J s H) (C:Do) (us:abA) (kw:List (Str×gs)) :
  Env0 P w K mg base (A.under (.builtin "type.__call__" ⟨.ref C::us,kw⟩)) J s H:=⟨by first|exact e.frames|(simpa [aaR,Code.envs,aaS,pushEnvs] using e.frames),e.mod,e.bs,e.bsz,e.funs,e.frf,e.hok,e.bare⟩
def Env0.in1 {P:VH} {w:VZ} {K:aT} {mg:aby} {base:Xj} {A:VV} {J:List Env} {s:iF} {H:Hp} (e:Env0 P w K mg base A J s H) :
  Env0 P w K mg base A.in1 J s H:=⟨e.frames,e.mod,e.bs,e.bsz,e.funs,e.frf,e.hok,e.bare⟩
section
variable {X:Cx} {af:abw} {Z:St} {H:Hp} {s s':iF}
def Inv.env0 (I:Inv X af Z H s):Env0 X.prog X.w X.K X.mg X.base X.A X.stack s H :=
 ⟨I.ok.frames,I.ok.mod,I.bs,RW I.ok.bsz I.sz,I.stack,I.stkFree,I.hok,I.bare⟩
def Inv.after {Q:VK} {u:gs} (I:Inv X af Z H s) (h:CE X.stack X.prog X.w H s Q u s') (ht:X.tn<=s'.toks:=by walk_at "tok"):EP X af Z Q u s':=by
 obtain ⟨v,H',os,J,un,Y,r,q⟩:=h;obtain ⟨hh,g,d,t,L⟩:=s';obtain rfl:L=s.os:=os;exact ⟨v,H',I.call (h':=hh) (g':=g) (d':=d) (t':=t) (ch:=[]) un Y J (fun b z=>absurd z (by simp)),r,q⟩
end
def RZ (sp:Sp) (dvs:abB) (E:XK) (t:TA):TE:=fun Z H Q=>t Z H fun vs H1=>sp (vs++dvs) H1 Q E
def Sq (C:Do) (sp:Sp) (dvs:abB) (E:XK) (t:TA):TE:=fun Z H Q=>t Z H fun vs H1=>∀ x dx,H1 x=none->H1 dx=none->dx≠x ->
 sp (.ref x::(vs++dvs)) (upd (upd H1 dx (.own x)) x (.ins C dx [])) (fun v H2=>v=.non/\Q (.ref x) H2) E
def l9 (K:aT) (fd:Wl) (ps:abv) (ds:abA):Prop :=
 ∀ (s:iF) (us:abA),K.In s.heap->(us++ds).length=ps.length->BindsTo s fd ⟨us,[]⟩ (ps.zip (us++ds))
def l9.all {K:aT} {fd:Wl} {ps:abv} (h:∀ us:abA,us.length=ps.length->bindArgs fd ⟨us,[]⟩=pure (ps.zip us)):l9 K fd ps []:=fun s us _ J=>by
 rw [WC] at J ⊢;exact .of_eq (h us J)
def wX (CX:HA) (X:Cx) (E:XK):Prop:=∀ (af:abw) (Z:St) (H:Hp) (s:iF) (e:gs) (s':iF),Inv X af Z H s->CX X.stack H s E e s'->X.xe e s'
section
variable {X:Cx} {CX:HA} {k:Nat} {f C:Do} {fd:Wl} {ps:abv} {sp:Sp} {dvs:abB} {ds:abA} {E:XK} {x m:Str} {p pos apos:Pos} {e o:Wk} {es:List Wk} {ta:TE} {t:TA}
def Io {af:abw} {Z:St} {H:Hp} {s:iF} {Q:VK} {us:abA} {vs:abB} (F:FnOk X.prog X.w X.K X.mg X.base CX k f fd ps sp) (hr:Room k X.A) (hb:l9 X.K fd ps ds) (hd:bC dvs ds) (Y:wX CX X E)
  (I:Inv X af Z H s) (r:bC vs us) (h:sp (vs++dvs) H Q E):Le (VL X.prog X.w) X.A (call (.ref f) us) (EP X af Z Q) X.xe s:=by
 have L:bC (vs++dvs) (us++ds):=r.append hd;have hl:(us++ds).length=ps.length:=by rw [<- L.length];exact F.len _ _ _ _ h
 refine wpAny_call (ji I.tk (Ya (F.run X.A X.stack s H ⟨us,[]⟩ (us++ds) (vs++dvs) Q E hr I.env0 (hb s us I.kIn hl) L h) fun r s' J htk=>?_));cases r with
 | error e=>exact Y af Z H s e s' I J
 | ok fl =>
  cases fl with
  | ret u=>exact I.after J
  | next=>exact WW J
  | brk=>exact WW J
  | cont=>exact WW J
def Jq (F:FnOk X.prog X.w X.K X.mg X.base CX k f fd ps sp) (L:Room k X.A) (hg:Gl X x) (Y:X.mg x=some (.ref f)) (hk:Yy X.K (.ref f)=true) (hb:l9 X.K fd ps ds) (hd:bC dvs ds) (hx:wX CX X E)
  (J:abD x:=by decide):PE X (.Call (.Name x p) [] [] pos) (RZ sp dvs E G5):=by
 intro af s Z H Q I h;refine Wt (qP I hg Y ?_ J);exact PySem.W.callWith_K0 I.kIn hk (Io (us:=[]) F L hb hd hx I .nil h)
structure Mk (K:aT) (C f:Do):Prop where
 makes:aa5 K C=true
 init:WB K (.ref C) "__init__"=some (some (.ref f))
 fn:PySem.W.isFn K (.ref f)=true
 kp:Yy K (.ref C)=true
def J5 {af:abw} {Z:St} {H:Hp} {s:iF} {Q:VK} {us:abA} {vs:abB} (M:Mk X.K C f) (F:FnOk X.prog X.w X.K X.mg X.base CX k f fd ps sp) (hr:Room (k+1) X.A) (hb:l9 X.K fd ps ds) (hd:bC dvs ds)
  (hx:wX CX X E) (I:Inv X af Z H s) (r:bC vs us)
  (h:∀ x dx,H x=none->H dx=none->dx≠x->sp (.ref x::(vs++dvs)) (upd (upd H dx (.own x)) x (.ins C dx [])) (fun v H2=>v=.non/\Q (.ref x) H2) E) :
  Le (VL X.prog X.w) X.A (call (.ref C) us) (EP X af Z Q) X.xe s:=by
 have hq:=h (s.heap.objs.size+1) s.heap.objs.size (I.hok.fresh (YM _)) (I.hok.fresh (oR _)) (VI (XG _));have L:=Inv.made (C:=C) I;have Y:bC (V.ref (s.heap.objs.size+1)::(vs++dvs)) (We (s.heap.objs.size+1)::(us++ds)):=.cons rfl (r.append hd);have hl:(We (s.heap.objs.size+1)::us++ds).length=ps.length:=by
  have e:=Y.length;rw [F.len _ _ _ _ hq] at e;exact e.symm
 refine wpAny_call (IV (f:=f) I.kIn M.makes M.init (beq_iff_eq.mp M.fn) (ji L.tk (Ya (F.run _ X.stack _ _ ⟨We (s.heap.objs.size+1)::us,[]⟩ (We (s.heap.objs.size+1)::(us++ds)) _ _ E (hr.make C us [])
  (L.env0.make C us []) (hb _ (We (s.heap.objs.size+1)::us) L.kIn hl) Y hq) fun r s' J htk=>?_)))
 cases r with
 | error e=>exact hx af Z _ _ e s' L J
 | ok fl =>
  cases fl with
  | ret u =>
   obtain ⟨v,H',I3,rv,ev,q3⟩:=L.after J;subst ev;exact ⟨rv,⟨V.ref (s.heap.objs.size+1),H',I3,rfl,q3⟩⟩
  | next=>exact WW J
  | brk=>exact WW J
  | cont=>exact WW J
def Mt (M:Mk X.K C f) (F:FnOk X.prog X.w X.K X.mg X.base CX k f fd ps sp) (hr:Room (k+1) X.A) (hg:Gl X x) (hm:X.mg x=some (.ref C)) (hb:l9 X.K fd ps ds) (hd:bC dvs ds) (hx:wX CX X E)
  (ha:PA X (e::es) t) (J:abD x:=by decide) (he:V2 (e::es) X.env=(false,eval e X.env)::V2 es X.env:=by rfl) (L:(X9 pos (V2 es X.env)).any (·.1)=false:=by rfl) :
  PE X (.Call (.Name x p) (e::es) [] pos) (Sq C sp dvs E t):=by
 intro af s Z H Q I h;refine Wt (qP I hg hm ?_ J);refine aaw (h₀:=X.base) I.ok.mod.kin M.kp (eO (ha pos af s Z H _ I h) fun us s1 hh=>qQ hh fun vs H1 Y r q=>⟨Y.kIn,?_⟩) he L;exact J5 M F hr hb hd hx Y r q
end
def PK (X:Cx) (kws:List aam) (t:TA):Prop :=
 ∀ (pos:Pos) (af:abw) (s:iF) (Z:St) (H:Hp) (Q:abB->Hp->Prop),Inv X af Z H s->t Z H Q->Le (VL X.prog X.w) X.A (evalAll ((backToKw pos (Zz kws X.env)).map (·.2))) (AP X af Z Q) X.xe s
section
variable {X:Cx} {CX:HA} {k:Nat} {f C:Do} {fd:Wl} {ps ks:abv} {sp:Sp} {E:XK} {x m:Str} {p pos apos kpos:Pos} {e o:Wk} {es:List Wk} {kws:List aam} {te ta:TE} {t tk:TA} {nm:Option Str}
def Oy:PK X [] G5:=fun _ _ _ _ H Q I h=>wpAny_evalAll_nil ⟨[],H,I,.nil,h⟩
def Mc (ha:PE X e te) (hr:PK X kws t):PK X (⟨nm,e,kpos⟩::kws) (y3 te t):=by
 intro pos af s Z H Q I h;show Le _ _ (evalAll ((do let v <- eval e X.env;aaM pos;pure v)::(backToKw pos (Zz kws X.env)).map (·.2))) _ _ s;refine wpAny_evalAll_cons (bY (eO (ha af s Z H _ I h) fun u s1 J=>qQ J fun x H1 I1 r1 L=>bY (wpAny_standAt (rW ?_))));exact eO (hr pos af s1 Z H1 _ I1 L) fun us s2 J=>qQ J fun xs H2 I2 Y q2=>⟨x::xs,H2,I2,.cons r1 Y,q2⟩
variable {g:abA->abA->abA} {gV:abB->abB->abB}
end
structure FnScope (N P:abv) (sc:Scope):Prop where
 kind:sc.kind=.function
 co:sc.isCoroutine=false
 gen:sc.isGenerator=false
 nd:N.Nodup
 pre:N.take P.length=P
 par:∀ x∈P,sc.names.lookup x=some .local\/sc.names.lookup x=some .cell
 nofree:∀ y∈sc.names,y.2≠.free
def y4 {J:Str->Option XQ} {x:Str}:∀ {binds:List (Str×gs)} {m:aby},(∀ v,(x,v)∉binds)->bindL J binds m x=m x
 | [],_,_=>rfl
 | (n,v)::r,m,h=>by
  unfold bindL;rw [y4 fun w hw=>h w (mK _ hw)];split
  .have:x≠n:=by rintro rfl;exact h v OR
   simp [this]
  .rfl
def zE {J:Str->Option XQ} {x:Str}:∀ {binds:List (Str×gs)} {m:aby},(∀ v,(x,v)∉binds)->bindC J binds m x=m x
 | [],_,_=>rfl
 | (n,v)::r,m,h=>by
  unfold bindC;rw [zE fun w hw=>h w (mK _ hw)];split
  .rfl
  .have:x≠n:=by rintro rfl;exact h v OR
   simp [this]
def zf {J:Str->Option XQ} {x:Str} {v:gs}:∀ {P:abv} {vs:abA} {i:Nat} {m:aby},P.Nodup->P[i]?=some x->vs[i]?=some v->J x=some .local ->
  bindL J (P.zip vs) m x=some v
 | [],_,_,_,_,h,_,_=>by simp at h
 | _::_,[],_,_,_,_,h,_=>by simp at h
 | p::P,w::vs,0,m,nd,h1,h2,hk=>by
  simp at h1 h2;subst h1;subst h2;show bindL J ((p,w)::P.zip vs) m p=_;unfold bindL;rw [y4 fun v L=>(Wm.mp nd).1 (V5 L).1,abn hk];simp
 | p::P,w::vs,i+1,m,nd,h1,h2,hk=>by
  show bindL J ((p,w)::P.zip vs) m x=_;unfold bindL;exact zf (i:=i) (Wm.mp nd).2 (by simpa using h1) (by simpa using h2) hk
def zM {J:Str->Option XQ} {x:Str} {v:gs}:∀ {P:abv} {vs:abA} {i:Nat} {m:aby},P.Nodup->P[i]?=some x->vs[i]?=some v->J x≠some .local ->
  bindC J (P.zip vs) m x=some v
 | [],_,_,_,_,h,_,_=>by simp at h
 | _::_,[],_,_,_,_,h,_=>by simp at h
 | p::P,w::vs,0,m,nd,h1,h2,hk=>by
  simp at h1 h2;subst h1;subst h2;show bindC J ((p,w)::P.zip vs) m p=_;unfold bindC;rw [zE fun v L=>(Wm.mp nd).1 (V5 L).1,abo hk];simp
 | p::P,w::vs,i+1,m,nd,h1,h2,hk=>by
  show bindC J ((p,w)::P.zip vs) m x=_;unfold bindC;exact zM (i:=i) (Wm.mp nd).2 (by simpa using h1) (by simpa using h2) hk
def start (N:abv) (vs:abB):St:=vs.map some++XY (N.length - vs.length) none
def Bo (CX:HA) (P:VH) (w:VZ) (K:aT) (mg:aby) (base:Xj) (N:abv) (J:Str) (scope:Scope) (f:Do) (Y:gs) (A:VV) (outer:List Env) (s:iF) (H:Hp) (E:XK):Cx where
 prog:=P
 w:=w
 K:=K
 mg:=mg
 base:=base
 A:=A.deeper (aad J scope s.heap.objs.size f Y)
 N:=N
 s₀:=s
 H₀:=H
 env:=aad J scope s.heap.objs.size f Y
 outer:=outer
 stack:=aad J scope s.heap.objs.size f Y::outer
 ex:=[]
 calm:=true
 fn:=fun _=>true
 pn:=[]
 xe:=fun e s'=>Le (VL P w) (A.deeper (aad J scope s.heap.objs.size f Y)) (leaving (aad J scope s.heap.objs.size f Y) e) (fun _ L=>CX outer H s E e L) (fun e' L=>CX outer H s E e' L) s'
def Ci {J:Scope} {n:Nat} {x:Str} (h:J.names.lookup x=some .cell):∃ c,(cellsFrom n J.names []).lookup x=some c:=by
 have q:=ZI J.names n [] (.inl h);exact Option.isSome_iff_exists.mp q
def Gy {CX:HA} {P:VH} {w:VZ} {K:aT} {mg:aby} {base:Xj} {N ps:abv} {L:Str} {scope:Scope} {f:Do} {cd:gs} {A:VV} {J:List Env} {s s1:iF} {H:Hp} {E:XK} {us:abA} {vs:abB}
  (S:FnScope N ps scope) (hd:A.handled=none) (Y:Env0 P w K mg base A J s H) (hl:vs.length=ps.length) (r:bC vs us)
  (x:InCallC s s.heap.objs.size (bindL (aad L scope s.heap.objs.size f cd).kindOf (ps.zip us) fun _=>none) (cellsFrom (s.heap.objs.size+1) scope.names []) (bindC (aad L scope s.heap.objs.size f cd).kindOf (ps.zip us) fun _=>none) s1) :
  Inv (Bo CX P w K mg base N L scope f cd A J s H E) [] (start N vs) H s1:=by
 have hpl:ps.length<=N.length:=by have:=abt aaj S.pre;rw [Xc] at this;omega
 obtain ⟨h1,tk,rfl,hk⟩:=x.done;have noA:∀ b:Do,b∉(Bo CX P w K mg base N L scope f cd A J s H E).ex:=fun b z=>absurd (show b∈([]:abz) from z) (by simp);refine ⟨⟨Y.mod,S.kind,rfl,rfl,oR _,fun y z c h1 h2=>?_,fun y hy=>?_,fun y c _ h=>?_,fun _=>hd,Around.frames_deeper Y.frames,.inr ⟨rfl,rfl⟩,fun b z=>absurd z (noA b),Y.bs,Y.bsz,fun b _ _=>noA b,fun b z=>absurd z (noA b),Y.funs,Y.frf⟩,
  rfl,Y.bare,Un.kept hk,⟨_,x.toInCall.ns,fun i y v h1 h2 h3=>?_⟩,fun y c h=>⟨_,x.cell y c h⟩,Y.hok.fresh (oR _),fun y c h=>?_,fun p hp=>absurd (show p∈([]:abw) from hp) (by simp),Y.hok.kept hk,?_,VY _⟩
 .exact name_of_addr x.apart (Xh h1) (Xh h2)
 .have hy:scope.names.lookup y=some .cell\/scope.names.lookup y=some .free:=hy;rcases hy with hy|hy
  .exact Ci hy
  .exact absurd rfl (S.nofree _ (Xh hy))
 .exact aaP (x.above y c (Xh h))
 .have hi:i < vs.length:=by
   unfold start at h2;by_cases hi:i < vs.length
   .exact hi
   .rw [Y1 (by simpa using hi)] at h2;rw [Zr] at h2;split at h2 <;> cases h2
  have ha:vs[i]?=some v:=by
   unfold start at h2;rw [XZ (by simpa using hi),V0] at h2;cases e:vs[i]? with
   | none=>rw [e] at h2;cases h2
   | some a=>rw [e] at h2;cases h2;rfl
  obtain ⟨u,hu,rv⟩:=r.get ha;have hp:ps[i]?=some y:=by
   rw [<- S.pre,List.getElem?_take_of_lt (by omega)];exact h1
  have ndP:ps.Nodup:=by rw [<- S.pre];exact S.nd.sublist (Zj _ _)
  refine ⟨u,rv,?_⟩;rcases S.par y (Xs hp) with k|k
  .exact .inl ⟨k,zf ndP hp hu k⟩
  .obtain ⟨c,e⟩:=Ci (n:=s.heap.objs.size+1) k;refine .inr ⟨.inl k,c,e,?_⟩;have q:=x.cell y c e;rw [zM ndP hp hu (by show scope.names.lookup y≠_;rw [k];decide)] at q;exact q
 .exact Y.hok.fresh (aaP (x.above y c (Xh h)))
 .unfold start;show _=N.length;rw [VU,iN,List.length_replicate];omega
def SC {CX:HA} {P:VH} {w:VZ} {K:aT} {mg:aby} {base:Xj} {k:Nat} {f:Do} {name Y:Str} {params:Arguments} {body:List WO} {scope:Scope} {dV kV doc pm cdv ct oc:gs} {an od:Option Do}
  {osl:Array (Option gs)} {N ps:abv} {sp:Sp} (lk:K.lookup f=some ⟨oc,od,.func (Xe name Y params body scope dV kV doc pm an cdv ct),osl⟩) (hcd:Za K cdv Y=true) (S:FnScope N ps scope)
  (len:∀ vs H Q E,sp vs H Q E->vs.length=ps.length)
  (hbody:∀ (A:VV) (L:List Env) (s:iF) (H:Hp) (vs:abB) (Q:VK) (E:XK),Room k (A.deeper (aad Y scope s.heap.objs.size f cdv))->sp vs H Q E ->
   ∃ t,Fd (Bo CX P w K mg base N Y scope f cdv A L s H E) body t/\t { nx:=fun _ H'=>Q .non H',rt:=Q } (start N vs) H) :
  FnOk P w K mg base CX (k+1) f (Xe name Y params body scope dV kV doc pm an cdv ct) ps sp:=by
 refine ⟨len,fun A L s H args us vs Q E hr e0 hb r hsp=>?_⟩;have hl:=len _ _ _ _ hsp;have KX:K.In s.heap:=e0.mod.kin.keeps fun b o e=>(e0.bs b o e).1;have lim:s.heap.NoLimit:=e0.mod.nolimit.keeps fun b o e=>(e0.bs b o e).1;have hkind:∀ y∈ps.zip us,scope.names.lookup y.1=some .local\/(scope.names.lookup y.1=some .cell/\((cellsFrom (s.heap.objs.size+1) scope.names []).lookup y.1).isSome=true):=fun ⟨n,v⟩ hy=>by
  rcases S.par n (V5 hy).1 with q|q
  .exact .inl q
  .exact .inr ⟨q,ZI _ _ _ (.inl q)⟩
 refine codeAny_call_function hr.depth (KX _ _ lk) rfl S.co S.gen rfl (PySem.W.codeRec_of KX hcd) (hb _ _ _ _ ?_);refine wpAny_newFunctionEnv_cells S.kind hkind fun env he s1 x=>?_;subst he;refine ⟨lim.keeps x.toInCall.keep,codeAny_func ?_⟩;obtain ⟨t,ht,hq⟩:=hbody A L s H vs Q E (hr.deeper _) hsp;have I:Inv (Bo CX P w K mg base N Y scope f cdv A L s H E) [] (start N vs) H s1:=Gy S hr.hd e0 hl r x;refine Wi (ht [] s1 (start N vs) H _ I hq) (fun fl s' hs=>?_) fun e s' hs=>hs;have fin:∀ {σ':St} {H':Hp} {v:V} {u:gs},Inv (Bo CX P w K mg base N Y scope f cdv A L s H E) [] σ' H' s'->bq v u->Q v H'->CE L P w H s Q u s' :=
  fun {σ' H' v u} J rv q=>⟨v,H',J.os,J.bare,J.base,J.hok,rv,q⟩
 cases fl with
 | ret u =>
  obtain ⟨v,σ',H',J,rv,q⟩:=hs;exact fin J rv q
 | next =>
  obtain ⟨σ',H',J,q⟩:=hs;exact fin (v:=V.non) (u:=Wh) J rfl q
 | brk =>
  obtain ⟨_,_,_,q⟩:=hs;exact WW q
 | cont =>
  obtain ⟨_,_,_,q⟩:=hs;exact WW q
section
variable {X:Cx} {x:Str} {p pos:Pos} {e:Wk} {es:List Wk} {t:TA} {id T:String} {r:abB->Hp->VK->Prop}
def Qn (r:abB->Hp->VK->Prop) (t:TA):TE:=fun Z H Q=>t Z H fun vs H1=>r vs H1 Q
def Jk (Y:ce X (.builtin id) r) (hg:Gl X x) (hm:X.mg x=none) (hv:VO x=some (.builtin id)) (ha:PA X (e::es) t) (hn:x≠"__name__":=by decide) (J:abD x:=by decide)
  (he:V2 (e::es) X.env=(false,eval e X.env)::V2 es X.env:=by rfl) (L:(X9 pos (V2 es X.env)).any (·.1)=false:=by rfl):PE X (.Call (.Name x p) (e::es) [] pos) (Qn r t):=by
 intro af s Z H Q I h;refine Wt (ox I hg hm hv ?_ hn J);exact YA (eO (ha pos af s Z H _ I h) fun us s1 hh=>qQ hh fun vs H1 I1 r1 q1=>Y af s1 Z H1 vs us Q I1 r1 q1) he L
def GT (Y:ce X (.type T) r) (hg:Gl X x) (hm:X.mg x=none) (hv:VO x=some (.type T)) (ha:PA X (e::es) t) (hn:x≠"__name__":=by decide) (J:abD x:=by decide)
  (he:V2 (e::es) X.env=(false,eval e X.env)::V2 es X.env:=by rfl) (L:(X9 pos (V2 es X.env)).any (·.1)=false:=by rfl):PE X (.Call (.Name x p) (e::es) [] pos) (Qn r t):=by
 intro af s Z H Q I h;refine Wt (ox I hg hm hv ?_ hn J);exact WR (eO (ha pos af s Z H _ I h) fun us s1 hh=>qQ hh fun vs H1 I1 r1 q1=>Y af s1 Z H1 vs us Q I1 r1 q1) he L
end
end L2
namespace HT
open PySem PyProof.Rows
section
variable {prog:VH} {w:VZ} {A:VV} {E:abx} {s:iF}
def K3 {t b:Do} {vs ws:abA} {Q:abx} (ht:YE s.heap t vs.toArray) (hb:YE s.heap b ws.toArray) (hv:vs≠[])
  (h1:ws=[]->Q (.ref t) s) (h2:ws≠[]->Q (.ref s.heap.objs.size) { s with heap:=s.heap.push { cls:=.type "tuple",data:=.seq (vs++ws).toArray } })
  (hsz:vs.length+ws.length<=IF):Le (VL prog w) A (W8 .Add (.ref t) (.ref b)) Q E s:=by
 obtain ⟨⟨cls,dd,data,sl⟩,ho,hc,n,hd⟩:=id ht;obtain ⟨⟨cls2,L,data2,Y⟩,J,hc2,n2,hd2⟩:=id hb;simp only at hc hd hc2 hd2;subst hc hd hc2 hd2;have e:vs.toArray++ws.toArray=(vs++ws).toArray:=by simp
 by_cases hw:ws=[]
 .exact concat_meets ⟨_,ho,rfl⟩ ⟨_,J,rfl⟩ noFill_tuple_add seq_tuple_add Yl Yd (X8 _ _)
   (tuple_addW1 t b vs.toArray ws.toArray n n2 dd L sl Y (by simpa using hv) (by simp [hw])) ⟨ho,J,h1 hw⟩
 .refine concat_meets ⟨_,ho,rfl⟩ ⟨_,J,rfl⟩ noFill_tuple_add seq_tuple_add Yl Yd (X8 _ _)
   (tuple_addW2 t b vs.toArray ws.toArray n n2 dd L sl Y (by simpa using hv) (by simpa using hw) (by rw [tx,tx];exact hsz)) ⟨ho,J,?_⟩
  rw [e];exact h2 hw
def sIx (n d:Nat):Option Int->Nat
 | none=>d
 | some v=>if v < 0 then (v+(n:Int)).toNat else min v.toNat n
def pR (n d:Nat):sIx n d none=d:=rfl
def jd (n d k:Nat):sIx n d (some (k:Int))=min k n:=by
 show (if (k:Int) < 0 then ((k:Int)+(n:Int)).toNat else min (k:Int).toNat n)=min k n;rw [abo (by omega),V1]
def DY (n d:Nat) (hd:d<=n) (o:Option Int):sIx n d o<=n:=by
 cases o with
 | none=>exact hd
 | some v =>
  show (if v < 0 then (v+(n:Int)).toNat else min v.toNat n)<=n;by_cases J:v < 0
  .rw [abn J];omega
  .rw [abo J];exact Nat.min_le_right _ _
def FI (v:Int) (n d:Nat):(if v < 0 then max (v+(n:Int)) 0 else min v (n:Int))=((sIx n d (some v):Nat):Int):=by
 show (if v < 0 then max (v+(n:Int)) 0 else min v (n:Int))=(((if v < 0 then (v+(n:Int)).toNat else min v.toNat n):Nat):Int);by_cases J:v < 0
 .simp only [abn J];omega
 .simp only [abo J];omega
def Dh (lo hi:Option Int) (n:Nat):X0 lo hi 1 (n:Int)=(((sIx n 0 lo:Nat):Int),((sIx n n hi:Nat):Int)):=by
 have h1:¬ ((1:Int) < 0):=by omega
 unfold X0;simp only [h1,if_false];refine Prod.ext ?_ ?_
 .cases lo with
  | none=>rfl
  | some v=>exact FI v n 0
 .cases hi with
  | none=>rfl
  | some v=>exact FI v n n
def DZ (i j:Nat):Xq (i:Int) (j:Int) 1=j - i:=by
 unfold Xq;have h1:(1:Int) > 0:=by omega
 simp only [h1,if_true,Int.ediv_one];split <;> omega
def x8 {v:gs} {o:Option Int} {Q:Option Int->iF->Prop} (p:IsPart v o) (h:Q o s):Le (VL prog w) A (Builtin.Slice.slicePartIndex v) Q E s:=by
 cases p with
 | none=>exact slicePart_none h
 | int i t=>exact slicePart_int h
def ny {sl:Do} {Y vu:gs} {lo hi:Option Int} {n:Nat} {Q:Int×Int×Nat->iF->Prop} (hs:s.heap.IsSliceOf sl Y vu .none) (pl:IsPart Y lo) (pu:IsPart vu hi)
  (h:Q (((sIx n 0 lo:Nat):Int),1,sIx n n hi - sIx n 0 lo) s):Le (VL prog w) A (Y2 (.ref sl) (pure (n:Int))) Q E s:=by
 obtain ⟨os,L,hcs,J⟩:=id hs;unfold Y2 Builtin.Slice.sliceFields;refine bY (bY (WU L J (x:=Y) rfl (bY (WU L J (x:=vu) rfl (bY (WU L J (x:=.none) rfl (rW ?_)))))));refine bY (slicePart_none ?_);show Le _ _ (if ((1:Int)==0)=true then _ else _) _ _ s;rw [abo (by decide)];refine bY (x8 pl (bY (x8 pu (bY (rW ?_)))));show Le _ _ (match X0 lo hi 1 (n:Int) with|(lo,hi)=>pure (lo,(1:Int),Xq lo hi 1)) _ _ s
 rw [Dh lo hi n];show Le _ _ (pure (((sIx n 0 lo:Nat):Int),(1:Int),Xq ((sIx n 0 lo:Nat):Int) ((sIx n n hi:Nat):Int) 1)) _ _ s;rw [DZ];exact rW h
def HL (xs:Array gs) (i k:Nat):((W1 k).filterMap fun (m:Nat)=>xs[((i:Int)+(m:Int)*1).toNat]?).toArray=((xs.toList.drop i).take k).toArray:=by
 have e:(fun (m:Nat)=>xs[((i:Int)+(m:Int)*1).toNat]?)=fun m=>xs[i+m]?:=by
  funext m
  have:((i:Int)+(m:Int)*1).toNat=i+m:=by omega
  rw [this]
 rw [e]
 have:=pick_run xs i k
 rw [List.filterMap_map] at this;have J:((fun x=>xs[x]?) ∘ fun x=>i+x)=fun m=>xs[i+m]?:=rfl;rw [J] at this;rw [this]
def um {t sl:Do} {items:Array gs} {vl vu:gs} {lo hi:Option Int} {Q:abx} (L:YE s.heap t items) (hs:s.heap.IsSliceOf sl vl vu .none) (pl:IsPart vl lo) (pu:IsPart vu hi)
  (hw:¬ (sIx items.size 0 lo=0/\sIx items.size items.size hi=items.size))
  (h:Q (.ref s.heap.objs.size) { s with heap:=s.heap.push { cls:=.type "tuple",data:=.seq ((items.toList.drop (sIx items.size 0 lo)).take (sIx items.size items.size hi - sIx items.size 0 lo)).toArray } })
  (hsz:items.size<=IF):Le (VL prog w) A (Ze (.ref t) (.ref sl)) Q E s:=by
 have J:sizeOk (.seq ((items.toList.drop (sIx items.size 0 lo)).take (sIx items.size items.size hi - sIx items.size 0 lo)).toArray):=by
  show ((items.toList.drop (sIx items.size 0 lo)).take (sIx items.size items.size hi - sIx items.size 0 lo)).toArray.size<=IF;rw [tx,Xc,X2,Ww];omega
 have hj:sIx items.size items.size hi<=items.size:=DY _ _ (oR _) hi;obtain ⟨os,hos,hcs,hds⟩:=id hs;have Y:s.TypeIs (.ref sl) "slice":=⟨os,hos,hcs⟩;unfold Ze;try with_reducible refine W7 ?_
 first|refine bY (rW ?_)|skip
 refine bY (wpAny_sequenceKey L.typeIs (by decide) ?_);refine bY (WV (name:=V7 "__getitem__") L.typeIs Wn
  (WE Wn L.typeIs entry_tuple_getitem ?_ (args_tuple_getitem _ _)))
 show Le _ _ (Y3 (.ref t) >>= _) _ _ s;refine bY (tupleItemsOf_ L ?_);refine bY (wpAny_typeOf Y ?_);rw [abn (by decide)];refine bY (ny hs pl pu ?_);have hno:¬ ((((sIx items.size 0 lo:Nat):Int)==0&&(1:Int)==1&&(sIx items.size items.size hi - sIx items.size 0 lo)==items.size)=true):=by
  intro q;rw [V4,V4] at q;have q1:((sIx items.size 0 lo:Nat):Int)=0:=eq_of_beq q.1.1;have q2:sIx items.size items.size hi - sIx items.size 0 lo=items.size:=eq_of_beq q.2;exact hw ⟨by omega,by omega⟩
 show Le _ _ (if (((sIx items.size 0 lo:Nat):Int)==0&&(1:Int)==1&&(sIx items.size items.size hi - sIx items.size 0 lo)==items.size)=true then _ else _) _ _ s;rw [abo hno,HL]
 first
  | exact bY (m:=Xx _) (W4 (rW ⟨_,rfl,rW h⟩) J)
  | exact bY (m:=Xx _) (W4 (bY (rW (rW ⟨_,rfl,rW h⟩))) J)
  | exact bY (bY (m:=Xx _) (W4 (rW (rW ⟨_,rfl,rW h⟩)) J))
  | exact bY (bY (m:=Xx _) (W4 (rW ⟨_,rfl,rW h⟩) J))
end
end HT
namespace L2
open PySem PySem.Spec PyProof.Rows
abbrev TO:=St->Hp->(Option Int->Hp->Prop)->Prop
def PO (X:Cx) (e:Option Wk) (t:TO):Prop :=
 ∀ (af:abw) (s:iF) (Z:St) (H:Hp) (Q:Option Int->Hp->Prop),Inv X af Z H s->t Z H Q ->
  Le (VL X.prog X.w) X.A (evalPart e X.env) (fun u s'=>∃ o H',Inv X af Z H' s'/\IsPart u o/\Q o H') X.xe s
def FK:TO:=fun _ H Q=>Q none H
section
variable {X:Cx} {e:Wk} {te:TE} {lo hi:Option Wk} {tl th:TO} {pos p2:Pos}
def LV:PO X none FK:=by
 intro af s Z H Q I h;rw [evalPart_none];exact rW ⟨none,H,I,.none,h⟩
def BX (X:Cx) (r:V->Option Int->Option Int->Hp->VK->Prop):Prop :=
 ∀ (af:abw) (s:iF) (Z:St) (H:Hp) (x:V) (v J L:gs) (lo hi:Option Int) (Y:Do) (Q:VK),Inv X af Z H s->bq x v->s.heap.IsSliceOf Y J L .none->IsPart J lo->IsPart L hi->r x lo hi H Q ->
  ∃ T id,typeLookup (.type T) "__getitem__"=pure (some (.builtin id))/\s.TypeIs v T/\Le (VL X.prog X.w) X.A (Ze v (.ref Y)) (EP X af Z Q) X.xe s
def BX.or {r r':V->Option Int->Option Int->Hp->VK->Prop} (h:BX X r) (h':BX X r'):BX X (fun x lo hi H Q=>r x lo hi H Q\/r' x lo hi H Q):=by
 intro af s Z H x v L Y lo hi sl Q I rx hs pl J q;rcases q with q|q
 .exact h af s Z H x v L Y lo hi sl Q I rx hs pl J q
 .exact h' af s Z H x v L Y lo hi sl Q I rx hs pl J q
def Vp (r:V->Option Int->Option Int->Hp->VK->Prop) (te:TE) (tl th:TO):TE:=fun Z H Q=>te Z H fun x H1=>tl Z H1 fun l H2=>th Z H2 fun u J=>r x l u J Q
def J6 {r:V->Option Int->Option Int->Hp->VK->Prop} (hr:BX X r) (he:PE X e te) (hl:PO X lo tl) (hu:PO X hi th):PE X (.Subscript e (.Slice lo hi none p2) pos) (Vp r te tl th):=by
 intro af s Z H Q I h;refine Subscript_ (eO (he af s Z H _ I h) fun v s1 L=>qQ L fun x H1 I1 r1 J=>?_);refine wpAny_Slice (eO (hl af s1 Z H1 _ I1 J) fun vl s2 ⟨l,H2,I2,pl,q2⟩=>eO (hu af s2 Z H2 _ I2 q2) fun vu s3 ⟨u,H3,I3,pu,q3⟩=>?_);rw [evalPart_none];refine rW ?_;have I4:Inv X af Z H3 { s3 with heap:=s3.heap.push { cls:=.type "slice",data:=.fields #[vl,vu,.none] } }:=I3.kept (t':=s3.toks) fun b ob q=>dO _ q;obtain ⟨T,id,Y,ht,hg⟩:=hr af { s3 with heap:=s3.heap.push { cls:=.type "slice",data:=.fields #[vl,vu,.none] } } Z H3 x v vl vu l u s3.heap.objs.size Q I4 r1 (Heap.IsSliceOf.new ..) pl pu q3;show Le (VL X.prog X.w) X.A (subscriptTail e (.Slice lo hi none p2) v (.ref s3.heap.objs.size)) (EP X af Z Q) X.xe { s3 with heap:=s3.heap.push { cls:=.type "slice",data:=.fields #[vl,vu,.none] } };exact tail_any (ops:=[.ref s3.heap.objs.size,v]) ht Y hg (by with_unfolding_all rfl)
def yN (xs:abB) (lo hi:Option Int):abB:=(xs.drop (HT.sIx xs.length 0 lo)).take (HT.sIx xs.length xs.length hi - HT.sIx xs.length 0 lo)
def vU (xs:abB) (lo hi:Option Int):(yN xs lo hi).length<=xs.length:=by
 unfold yN;rw [Xc,X2];omega
def Ui (K:aT):V->Option Int->Option Int->Hp->VK->Prop:=fun x lo hi H Q=>∃ a xs,x=.ref a/\mf K H a xs /\
 ¬ (HT.sIx xs.length 0 lo=0/\HT.sIx xs.length xs.length hi=xs.length)/\∀ p,H p=none->Q (.ref p) (upd H p (.tup (yN xs lo hi)))
def P9:BX X (Ui X.K):=by
 intro af s Z H x v vl vu lo hi sl Q I rx hs pl Y h;obtain ⟨a,xs,rfl,hx,hw,q⟩:=h;cases rx;obtain ⟨its,r,L,hz⟩:=I.tuple hx;have J:its.toArray.size=xs.length:=by rw [tx];exact r.length.symm
 refine ⟨"tuple",_,Wn.lookup,L.typeIs,?_⟩;refine HT.um L hs pl Y (by rw [J];exact hw) ?_ (by rw [J];exact hz);rw [J];refine ⟨.ref s.heap.objs.size,_,I.laid (t':=s.toks) (o:=.tup (yN xs lo hi)) (fun b ob q=>dO _ q) (oR _) ?_,rfl,q _ (I.hok.fresh (oR _))⟩;exact ⟨RW (vU xs lo hi) hz,_,(r.drop (HT.sIx xs.length 0 lo)).take (HT.sIx xs.length xs.length hi - HT.sIx xs.length 0 lo),IsTup.new _ _⟩
def Tv (K:aT):R2:=fun x y H Q=>∃ a b xs ys,x=.ref a/\y=.ref b/\mf K H a xs/\mf K H b ys/\xs≠[]/\xs.length+ys.length<=IF /\
 (ys=[]->Q (.ref a) H)/\(ys≠[]->∀ p,H p=none->Q (.ref p) (upd H p (.tup (xs++ys))))
def bC.nil_iff {xs:abB} {us:abA} (r:bC xs us):us=[] ↔ xs=[]:=by
 cases r with
 | nil=>simp
 | cons _ _=>simp
def MG:ga X (W8 .Add) (Tv X.K):=by
 intro af s Z H x y v u Q I rx ry h;obtain ⟨a,b,xs,ys,rfl,rfl,ha,hb,hx,hz,q1,q2⟩:=h;cases rx;cases ry;obtain ⟨its,L,p1,_⟩:=I.tuple ha;obtain ⟨Y,J,p2,_⟩:=I.tuple hb;refine HT.K3 p1 p2 (fun z=>hx (L.nil_iff.mp z)) (fun z=>⟨.ref a,H,I,rfl,q1 (J.nil_iff.mp z)⟩) (fun z=>?_) (by rw [<- L.length,<- J.length];exact hz);refine ⟨.ref s.heap.objs.size,_,I.laid (t':=s.toks) (o:=.tup (xs++ys)) (fun b ob q=>dO _ q) (oR _) ?_,rfl,q2 (fun w=>z (J.nil_iff.mpr w)) _ (I.hok.fresh (oR _))⟩;exact ⟨by rw [VU];exact hz,_,L.append J,IsTup.new _ _⟩
end
def Mg (n:Nat) (i:Int):Option Nat:=if 0<=i then (if i < n then some i.toNat else none) else if -(n:Int)<=i then some (i+n).toNat else none
def atI {α:Type} (xs:List α) (i:Int):Option α:=(Mg xs.length i).bind fun j=>xs[j]?
def MI {n:Nat} {i:Int} {j:Nat} (h:Mg n i=some j):seqIndex? i n=some j/\j < n/\-(n:Int)<=i/\i < n:=by
 unfold Mg at h;by_cases J:0<=i
 .rw [abn J] at h;by_cases h1:i < n
  .rw [abn h1] at h;have e:i.toNat=j:=VS h;exact ⟨by rw [seqIndex_of J h1,e],by omega,by omega,h1⟩
  .rw [abo h1] at h;cases h
 .rw [abo J] at h;by_cases h1:-(n:Int)<=i
  .rw [abn h1] at h;have e:(i+n).toNat=j:=VS h;exact ⟨by rw [seqIndex_neg (by omega) h1,e],by omega,h1,by omega⟩
  .rw [abo h1] at h;cases h
def zQ {α:Type} {xs:List α} {i:Int} {v:α} (h:atI xs i=some v):∃ j,seqIndex? i xs.length=some j/\xs[j]?=some v/\j < xs.length/\-(xs.length:Int)<=i/\i < xs.length:=by
 unfold atI at h;cases e:Mg xs.length i with
 | none=>rw [e] at h;cases h
 | some j =>
  rw [e] at h;obtain ⟨h1,h2,J,L⟩:=MI e;exact ⟨j,h1,h,h2,J,L⟩
def cj {α:Type} {xs:List α} {j:Nat} {v:α} (h:xs[j]?=some v):atI xs (j:Int)=some v:=by
 have J:j < xs.length:=(VX.mp h).1;have e:Mg xs.length (j:Int)=some j:=by
  unfold Mg;rw [abn (by omega),abn (by omega)];simp
 unfold atI;rw [e];exact h
def wE (b:Wk):Prop:=∀ o i,subscripted b false o i=operate [o,i] (Ze o i)
def CY (X:Cx) (r:R2):Prop :=
 ∀ (value J:Wk) (af:abw) (s:iF) (Z:St) (H:Hp) (x y:V) (v u:gs) (Q:VK),Inv X af Z H s->bq x v->bq y u->r x y H Q ->
  subscripted J false v u=operate [v,u] (Ze v u)->Le (VL X.prog X.w) X.A (subscriptTail value J v u) (EP X af Z Q) X.xe s
def TV (X:Cx) (id:String) (r:V->abB->Hp->VK->Prop):Prop :=
 ∀ (af:abw) (s:iF) (Z:St) (H:Hp) (x:V) (xs:abB) (v:gs) (us:abA) (Q:VK),Inv X af Z H s->bq x v->bC xs us->r x xs H Q ->
  Le (VL X.prog X.w) X.A (call (.builtin id) (v::us)) (EP X af Z Q) X.xe s
section
variable {X:Cx} {a b:Wk} {ta tb:TE} {pos:Pos}
def CY.or {r Y:R2} (h:CY X r) (h':CY X Y):CY X (fun x y H Q=>r x y H Q\/Y x y H Q):=by
 intro value J af s Z H x y v u Q I rx ry q L;rcases q with q|q
 .exact h value J af s Z H x y v u Q I rx ry q L
 .exact h' value J af s Z H x y v u Q I rx ry q L
def Q5 {r:R2} (hr:CY X r) (ha:PE X a ta) (hb:PE X b tb) (J:wE b):PE X (.Subscript a b pos) (D9 r ta tb):=by
 intro af s Z H Q I h;exact Subscript_ (Pc ha hb I h fun v u s2 x y H2 Y L ry q=>hr a b af s2 Z H2 x y v u Q Y L ry q (J _ _))
def QI (K:aT):R2:=fun x y H Q=>∃ p xs i v,x=.ref p/\y=.int i/\iA K H p xs/\atI xs i=some v/\Q v H
def SY (K:aT):R2:=fun x y H Q=>∃ p xs i v,x=.ref p/\y=.int i/\mf K H p xs/\atI xs i=some v/\Q v H
def RA:R2:=fun x y H Q=>∃ z i c,x=.str z/\y=.int i/\z.length<=IF/\atI z.cps.toList i=some c/\Q (.str ⟨#[c]⟩) H
def ML:CY X (QI X.K):=by
 intro value L af s Z H x y v u Q I rx ry h hs;obtain ⟨p,xs,i,z,rfl,rfl,hq,he,q⟩:=h;cases rx;obtain ⟨t,rfl⟩:=ry;obtain ⟨its,r,J,hz⟩:=I.list hq;obtain ⟨j,h1,h2,h3,h4,h5⟩:=zQ he;obtain ⟨w,ew,Y⟩:=r.get h2;have hl:=r.length;have hn:=uS;have fin:EP X af Z Q w s:=⟨z,H,I,Y,q⟩;by_cases h0:0<=i
 .have hj:i.toNat=j:=by
   rw [seqIndex_of h0 h5] at h1;exact VS h1
  exact item_listR J.isList h0 (by omega) (by rw [hj];simpa using ew) fin hs
 .have hj:(i+(its.toArray.size:Int)).toNat=j:=by
   rw [seqIndex_neg (by omega) h4] at h1;rw [tx,<- hl];exact VS h1
  exact subscriptTail_builtinR (x:=w) J.isList.typeIs slot_list_getitem.lookup
   (wpAny_getItem_list_neg (Q:=fun r s'=>r=w/\EP X af Z Q r s') J.isList (by omega) (by rw [tx] <;> omega) (by omega) (by rw [hj];simpa using ew) ⟨rfl,fin⟩) hs
def Oq:CY X (SY X.K):=by
 intro value J af s Z H x y v u Q I rx ry h hs;obtain ⟨p,xs,i,z,rfl,rfl,hq,he,q⟩:=h;cases rx;obtain ⟨t,rfl⟩:=ry;obtain ⟨its,r,Y,hz⟩:=I.tuple hq;obtain ⟨j,h1,h2,h3,h4,h5⟩:=zQ he;obtain ⟨w,ew,L⟩:=r.get h2;have hl:=r.length;have hn:=uS;have fin:EP X af Z Q w s:=⟨z,H,I,L,q⟩;exact subscriptTail_builtinR (x:=w) Y.typeIs slot_tuple_getitem.lookup
  (getItem_tuple (j:=j) (Q:=fun r s'=>r=w/\EP X af Z Q r s') Y (by omega) (by omega) (by rw [tx,<- hl];exact h1) (by simpa using ew) ⟨rfl,fin⟩) hs
def PF:CY X RA:=by
 intro value J af s Z H x y v u Q I rx ry h L;obtain ⟨z,i,c,rfl,rfl,hz,he,q⟩:=h;obtain ⟨t,rfl⟩:=rx;obtain ⟨t',rfl⟩:=ry;obtain ⟨j,h1,h2,h3,h4,h5⟩:=zQ he;have hl:z.cps.toList.length=z.length:=by simp [ZW]
 rw [hl] at h1 h4 h5;have hn:=uS;exact tail_any (typeIs_str s z t) slot_str_getitem.lookup (getItem_str (c:=c) (by
  have Y:decide (i < -(2 ^ 63:Int))=false:=abp (by omega);have e2:decide (i ≥ 2 ^ 63)=false:=abp (by omega);rw [Y,e2,Bool.or_false]) (by rw [h1];simpa using h2) ⟨.str ⟨#[c]⟩,H,I.tok _,⟨_,rfl⟩,q⟩) L
def rIx (K:aT):R2:=fun x y H Q=>QI K x y H Q\/SY K x y H Q\/RA x y H Q
def Pt:CY X (rIx X.K):=ML.or (Oq.or PF)
def Ao (lo hi:Option Int) (n:Nat):(Yw lo hi none n).1=((HT.sIx n 0 lo:Nat):Int)/\(Yw lo hi none n).2.1=((HT.sIx n n hi:Nat):Int)/\(Yw lo hi none n).2.2=1:=by
 refine ⟨?_,?_,rfl⟩
 .cases lo with
  | none=>simp [Yw,HT.sIx]
  | some i =>
   simp only [Yw,HT.sIx,aaW,show (1:Int) > 0 by decide,if_true];by_cases h:i < 0
   .simp only [h,if_true] <;> omega
   .simp only [h,if_false] <;> omega
 .cases hi with
  | none=>simp [Yw,HT.sIx]
  | some i =>
   simp only [Yw,HT.sIx,aaW,show (1:Int) > 0 by decide,if_true];by_cases h:i < 0
   .simp only [h,if_true] <;> omega
   .simp only [h,if_false] <;> omega
def yR (its:abA) (lo hi:Option Int):slicePick its.toArray lo hi none=((its.drop (HT.sIx its.length 0 lo)).take (HT.sIx its.length its.length hi - HT.sIx its.length 0 lo)).toArray:=by
 obtain ⟨h1,h2,J⟩:=Ao lo hi its.toArray.size;unfold slicePick;rw [h1,h2,J];simp only [sliceRange_one,pick_run,tx] <;> rfl
def U8 (K:aT):V->Option Int->Option Int->Hp->VK->Prop:=fun x lo hi H Q=>∃ a xs,x=.ref a/\iA K H a xs/\∀ p,H p=none->Q (.ref p) (upd H p (.lst (yN xs lo hi)))
def LO:BX X (U8 X.K):=by
 intro af s Z H x v vl vu lo hi sl Q I rx hs pl Y h;obtain ⟨a,xs,rfl,hx,q⟩:=h;cases rx;obtain ⟨its,r,L,hz⟩:=I.list hx;have J:=r.length;refine ⟨"list",_,slot_list_getitem.lookup,L.isList.typeIs,?_⟩;refine wpAny_getItem_list_slice L.isList hs pl Y .none (by simp) ?_ (by rw [tx] <;> omega);rw [yR,<- J];refine ⟨.ref s.heap.objs.size,_,I.laid (t':=s.toks) (o:=.lst (yN xs lo hi)) (fun b ob q=>dO _ q) (oR _) ?_,rfl,q _ (I.hok.fresh (oR _))⟩;exact ⟨RW (vU xs lo hi) hz,_,0,(r.drop (HT.sIx xs.length 0 lo)).take (HT.sIx xs.length xs.length hi - HT.sIx xs.length 0 lo),CT _ rfl⟩
def gQ:V->Bool
 | .non=>true
 | .bl _=>true
 | .int _=>true
 | .str _=>true
 | _=>false
def eqV:V->V->Bool
 | .non,.non=>true
 | .bl a,.bl b=>a==b
 | .bl a,.int b=>(if a then 1 else 0)==b
 | .int a,.bl b=>a==(if b then 1 else 0)
 | .int a,.int b=>a==b
 | .str a,.str b=>a==b
 | _,_=>false
def N5 {A:VV} {s:iF} {y x:V} {u v:gs} (Y:bq y u) (J:bq x v) (fy:gQ y=true) (L:gQ x=true):abj A s u v (eqV y x):=by
 cases y with
 | non =>
  cases Y;cases x with
  | non=>cases J;exact aa3 _
  | bl b=>cases J;exact SeqAt.EqAt.none_bool b
  | int b=>obtain ⟨t,rfl⟩:=J;exact aah b t
  | str b=>obtain ⟨t,rfl⟩:=J;exact aai b t
  | _=>exact absurd (show false=true from L) lT
 | bl a =>
  cases Y;cases x with
  | non=>cases J;exact SeqAt.EqAt.bool_none a
  | bl b=>cases J;exact SeqAt.EqAt.bool_bool a b
  | int b=>obtain ⟨t,rfl⟩:=J;exact SeqAt.EqAt.bool_int a b t
  | str b=>obtain ⟨t,rfl⟩:=J;exact SeqAt.EqAt.bool_str a b t
  | _=>exact absurd (show false=true from L) lT
 | int a =>
  obtain ⟨t',rfl⟩:=Y;cases x with
  | non=>cases J;exact aaf a t'
  | bl b=>cases J;exact SeqAt.EqAt.int_bool a t' b
  | int b=>obtain ⟨t,rfl⟩:=J;exact SeqAt.EqAt.int_int a t' b t
  | str b=>obtain ⟨t,rfl⟩:=J;exact aar a t' b t
  | _=>exact absurd (show false=true from L) lT
 | str a =>
  obtain ⟨t',rfl⟩:=Y;cases x with
  | non=>cases J;exact aag a t'
  | bl b=>cases J;exact SeqAt.EqAt.str_bool a t' b
  | int b=>obtain ⟨t,rfl⟩:=J;exact aas a t' b t
  | str b=>obtain ⟨t,rfl⟩:=J;exact SeqAt.EqAt.str_str a t' b t
  | _=>exact absurd (show false=true from L) lT
 | _=>exact absurd (show false=true from fy) lT
def yT (x:V) (u:gs):Bool:=match u with
 | .none=>eqV .non x
 | .bool b=>eqV (.bl b) x
 | .int i _=>eqV (.int i) x
 | .str z _=>eqV (.str z) x
 | _=>false
def xV {x y:V} {u:gs} (r:bq y u) (f:gQ y=true):yT x u=eqV y x:=by
 cases y with
 | non=>cases r;rfl
 | bl b=>cases r;rfl
 | int i=>obtain ⟨t,rfl⟩:=r;rfl
 | str z=>obtain ⟨t,rfl⟩:=r;rfl
 | _=>exact absurd (show false=true from f) lT
def t5 {x:V}:∀ {xs:abB} {us:abA},bC xs us->xs.all gQ=true->us.any (yT x)=xs.any fun y=>eqV y x
 | _,_,.nil,_=>rfl
 | y::xs,u::us,.cons r t,f=>by
  rw [Wz,V4] at f;rw [YI,YI,xV r f.1,t5 t f.2]
def lz {A:VV} {s:iF} {x:V} {v:gs} (L:bq x v) (Y:gQ x=true):∀ {xs:abB} {us:abA},bC xs us->xs.all gQ=true->∀ u∈us,abj A s u v (yT x u)
 | _,_,.nil,_=>fun u J=>by cases J
 | y::xs,u::us,.cons r t,f=>fun u' J=>by
  rw [Wz,V4] at f;rcases nE.mp J with rfl|J
  .rw [xV r f.1];exact N5 r L f.1 Y
  .exact lz L Y t f.2 u' J
def HH (x:V) (xs:abB):Bool:=xs.any fun y=>eqV y x
def Vo (K:aT) (J:Bool):R2:=fun x y H Q=>∃ p xs,y=.ref p/\(iA K H p xs\/mf K H p xs)/\gQ x=true/\xs.all gQ=true/\Q (.bl (if J then !HH x xs else HH x xs)) H
def GC:ga X (VT .In) (Vo X.K false):=by
 intro af s Z H x y v u Q I Y ry h;obtain ⟨p,xs,rfl,J,fx,fs,q⟩:=h;cases ry;rcases J with J|J
 .obtain ⟨its,r,L,hz⟩:=I.list J;refine SeqAt.in_listAt (yT x) L.isList (fun w hw=>lz Y fx r fs w (by simpa using hw)) ⟨.bl _,H,I,rfl,?_⟩;rw [show its.toArray.any (yT x)=its.any (yT x) by simp,t5 r fs];exact q
 .obtain ⟨its,r,L,hz⟩:=I.tuple J;refine SeqAt.in_tupleAt (yT x) L (fun w hw=>lz Y fx r fs w (by simpa using hw)) ⟨.bl _,H,I,rfl,?_⟩;rw [show its.toArray.any (yT x)=its.any (yT x) by simp,t5 r fs];exact q
def A6:ga X (VT .NotIn) (Vo X.K true):=by
 intro af s Z H x y v u Q I Y ry h;obtain ⟨p,xs,rfl,J,fx,fs,q⟩:=h;cases ry;rcases J with J|J
 .obtain ⟨its,r,L,hz⟩:=I.list J;refine SeqAt.notIn_listAt (yT x) L.isList (fun w hw=>lz Y fx r fs w (by simpa using hw)) ⟨.bl _,H,I,rfl,?_⟩;rw [show its.toArray.any (yT x)=its.any (yT x) by simp,t5 r fs];exact q
 .obtain ⟨its,r,L,hz⟩:=I.tuple J;refine SeqAt.notIn_tupleAt (yT x) L (fun w hw=>lz Y fx r fs w (by simpa using hw)) ⟨.bl _,H,I,rfl,?_⟩;rw [show its.toArray.any (yT x)=its.any (yT x) by simp,t5 r fs];exact q
def A2:ce X (.builtin "len") (fun xs H Q=>∃ p ys,xs=[.ref p]/\(iA X.K H p ys\/mf X.K H p ys)/\Q (.int ys.length) H):=by
 intro af s Z H xs us Q I r h;obtain ⟨p,ys,rfl,L,q⟩:=h;obtain ⟨u,rfl,rx⟩:=kQ r;cases rx;have hn:=uS;rcases L with L|L
 .obtain ⟨its,r',Y,hz⟩:=I.list L;have J:=r'.length;exact Calls.call_len_list Y.isList (by simp only [tx] <;> omega) ⟨.int ys.length,H,I.tok _,⟨s.toks+1,by rw [tx,J]⟩,q⟩
 .obtain ⟨its,r',Y,hz⟩:=I.tuple L;have J:=r'.length;exact len_tuple Y (by simp only [tx] <;> omega) ⟨.int ys.length,H,I.tok _,⟨s.toks+1,by rw [tx,J]⟩,q⟩
def Au:ce X (.builtin "len") (fun xs H Q=>∃ z,xs=[.str z]/\z.length<=IF/\Q (.int z.length) H):=by
 intro af s Z H xs us Q I r h;obtain ⟨z,rfl,hz,q⟩:=h;obtain ⟨u,rfl,t,rfl⟩:=kQ r;have hn:=uS;exact len_str (by omega) ⟨.int z.length,H,I.tok _,⟨_,rfl⟩,q⟩
def ce.or {f:gs} {r J:abB->Hp->VK->Prop} (h:ce X f r) (h':ce X f J):ce X f (fun xs H Q=>r xs H Q\/J xs H Q):=by
 intro af s Z H xs us Q I rs q;rcases q with q|q
 .exact h af s Z H xs us Q I rs q
 .exact h' af s Z H xs us Q I rs q
def AL:ce X (.type "list") (fun xs H Q=>∃ p ys,xs=[.ref p]/\(iA X.K H p ys\/mf X.K H p ys)/\∀ l,H l=none->Q (.ref l) (upd H l (.lst ys))):=by
 intro af s Z H xs us Q I r h;obtain ⟨p,ys,rfl,Y,q⟩:=h;obtain ⟨u,rfl,rx⟩:=kQ r;cases rx;have fin:∀ (its:abA),bC ys its->ys.length<=IF->∀ (h':Xj) (c':Nat),(∀ b o',s.heap.get? b=some o'->h'.get? b=some o') ->
   h'.get? s.heap.objs.size=some { cls:=.type "list",dict:=none,data:=.seq its.toArray c',slots:=#[] }->EP X af Z Q (.ref s.heap.objs.size) { s with heap:=h' }:=fun its J hz h' c' kp e =>
  ⟨.ref s.heap.objs.size,_,I.laid (t':=s.toks) kp (oR _) (show cc X.prog X.w _ h' _ (.lst ys) from ⟨hz,its,c',J,e⟩),rfl,q _ (I.hok.fresh (oR _))⟩
 rcases Y with Y|Y
 .obtain ⟨its,J,pl,hz⟩:=I.list Y;have L:=J.length;obtain ⟨o,ho,hc,n,hd⟩:=pl.isList;exact call_list_seq p (.inl rfl) ho hc hd (fun h' c' kp e=>fin its J hz h' c' kp e) (by simp only [tx] <;> omega)
 .obtain ⟨its,J,pl,hz⟩:=I.tuple Y;have L:=J.length;obtain ⟨o,ho,hc,n,hd⟩:=pl;exact call_list_seq p (.inr rfl) ho hc hd (fun h' c' kp e=>fin its J hz h' c' kp e) (by simp only [tx] <;> omega)
def yS:ce X (.type "tuple") (fun xs H Q=>∃ p ys,xs=[.ref p]/\((iA X.K H p ys/\∀ l,H l=none->Q (.ref l) (upd H l (.tup ys)))\/(mf X.K H p ys/\Q (.ref p) H))):=by
 intro af s Z H xs us Q I r h;obtain ⟨p,ys,rfl,h⟩:=h;obtain ⟨u,rfl,rx⟩:=kQ r;cases rx;rcases h with ⟨Y,q⟩|⟨Y,q⟩
 .obtain ⟨its,L,J,hz⟩:=I.list Y;have hlen:=L.length;refine call_tuple_list J.isList (fun h' kp=>?_) (by simp only [tx] <;> omega);have I1:Inv X af Z H { s with heap:=h' }:=I.kept (t':=s.toks) kp;have I2:Inv X af Z (upd H h'.objs.size (.tup ys)) { s with heap:=h'.push { cls:=.type "tuple",data:=.seq its.toArray } } :=
   I1.laid (t':=s.toks) (fun b o e=>dO _ e) (oR _) (show cc X.prog X.w _ _ _ (.tup ys) from ⟨hz,its,L,IsTup.new _ _⟩)
  exact ⟨.ref h'.objs.size,_,I2,rfl,q _ (I1.hok.fresh (oR _))⟩
 .obtain ⟨its,L,J,hz⟩:=I.tuple Y;exact call_tuple_same J ⟨.ref p,H,I,rfl,q⟩
def TU (K:aT) (T:String) (x:V) (H:Hp):Prop:=match x with
 | .str _=>T="str"
 | .int _=>T="int"
 | .ref p=>(T="list"/\∃ xs,iA K H p xs)\/(T="tuple"/\∃ o,K.lookup p=some o/\o.cls=.type "tuple"/\o.dict=none) \/
   (T="dict"/\((∃ kvs,H p=some (.dK kvs))\/∃ kvs,H p=some (.dT kvs)))\/(T="set"/\∃ S n,H p=some (.set S n))
 | _=>False
def Qj {af:abw} {Z:St} {H:Hp} {s:iF} {T:String} {x:V} {v:gs} (I:Inv X af Z H s) (r:bq x v) (ty:TU X.K T x H) :
  s.TypeIs v T/\∀ a,v=.ref a->∃ ob,s.heap.get? a=some ob/\ob.dict=none:=by
 cases x with
 | str z =>
  obtain ⟨t,rfl⟩:=r;cases (show T="str" from ty);exact ⟨typeIs_str s z t,fun _ e=>nomatch e⟩
 | int i =>
  obtain ⟨t,rfl⟩:=r;cases (show T="int" from ty);exact ⟨typeIs_int s i t,fun _ e=>nomatch e⟩
 | ref p =>
  cases r;rcases ty with ⟨rfl,xs,hq⟩|⟨rfl,o,J,hc,hd⟩|⟨rfl,J⟩|⟨rfl,S,n,J⟩
  .obtain ⟨its,_,Y,_⟩:=I.list hq;refine ⟨Y.isList.typeIs,fun a e=>?_⟩;cases e;obtain ⟨o,n,e,c,hd,_⟩:=Y;exact ⟨o,e,hd⟩
  .refine ⟨⟨o,I.kIn p o J,hc⟩,fun a e=>?_⟩;cases e;exact ⟨o,I.kIn _ o J,hd⟩
  .have z:∃ o,s.heap.get? p=some o/\o.ExactDict:=by
    rcases J with ⟨kvs,J⟩|⟨kvs,J⟩
    .obtain ⟨_,_,_,_,o,_,_,e,ex,_⟩:=I.hok p _ J;exact ⟨o,e,ex⟩
    .obtain ⟨_,_,_,_,o,_,_,e,ex,_⟩:=I.hok p _ J;exact ⟨o,e,ex⟩
   obtain ⟨o,e,ex⟩:=z;refine ⟨⟨o,e,ex.1⟩,fun a L=>?_⟩;cases L;exact ⟨o,e,ex.2.1⟩
  .obtain ⟨o,_,_,_,e,ex,_⟩:=I.hok p _ J;refine ⟨⟨o,e,ex.1⟩,fun a L=>?_⟩;cases L;exact ⟨o,e,ex.2.1⟩
 | _=>exact WW ty
def UK (K:aT) (T:String) (r:V->abB->Hp->VK->Prop) (to:TE) (t:TA):TE:=fun Z H Q=>to Z H fun x H1=>TU K T x H1/\t Z H1 fun xs H2=>r x xs H2 Q
variable {o e:Wk} {es:List Wk} {to:TE} {t:TA} {name:Str} {apos cpos:Pos} {T id:String} {r:V->abB->Hp->VK->Prop}
def QN (pa:PlainAttrs T) (slot:Slot T name id) (hty:typeOf (.builtin id)=pure (.type "method_descriptor")) (hm:TV X id r) (ho:PE X o to) (ha:PA X (e::es) t)
  (L:WG o name X.env (eval o X.env)=eval o X.env:=by rfl)
  (hfew:((X9 cpos (V2 (e::es) X.env)).all (fun x=>!x.1)&&(backToKw cpos (Zz [] X.env)).all (fun x=>x.1.isSome)
   && decide ((e::es).length+([]:List aam).length+(if ([]:List aam).isEmpty then 0 else 1) < 30))=true:=by rfl)
  (Y:(apos.endLine==cpos.line)=true:=by rfl) (hs:V2 (e::es) X.env=(false,eval e X.env)::V2 es X.env:=by rfl) (J:(X9 cpos (V2 es X.env)).any (·.1)=false:=by rfl) :
  PE X (.Call (.Attribute o name apos) (e::es) [] cpos) (UK X.K T r to t):=by
 intro af s Z H Q I h;refine wpAny_Call_method_late L hfew Y rfl (eO (ho af s Z H _ I h) fun v s1 ⟨x,H1,I1,r1,ty,q1⟩=>?_);obtain ⟨h1,h2⟩:=Qj I1 r1 ty;refine ⟨T,id,pa,slot,hty,h1,h2,?_⟩;have hA:=ha cpos af s1 Z H1 _ I1 q1;rw [hs] at hA ⊢;refine Ym (by show (false||(X9 cpos (V2 es X.env)).any (·.1))=false;rw [J] <;> rfl) (Z3 ?_)
 exact eO hA fun us s2 hh=>qQ hh fun vs H2 I2 r2 q2=>hm af s2 Z H2 x vs v us Q I2 r1 r2 q2
end
def VB (X:Cx) (id:String) (r:V->abB->Hp->VK->Prop):Prop :=
 ∀ (af:abw) (s:iF) (Z:St) (H:Hp) (x:V) (xs:abB) (v:gs) (us:abA) (Q:VK),Inv X af Z H s->bq x v->bC xs us->r x xs H Q ->
  Le (VL X.prog X.w) X.A (call (.builtin id) (v::us)) (EP X af Z Q) X.xe s
def bC.one:∀ {x:V} {us:abA},bC [x] us->∃ u,us=[u]/\bq x u
 | _,_,.cons r .nil=>⟨_,rfl,r⟩
section
variable {X:Cx} {af:abw} {Z:St} {H:Hp} {s:iF} {l b:Do} {xs ys zs:abB}
def Inv.lset {its its':abA} {n:Nat} {f:Array gs->Array gs} {t':Nat} (I:Inv X af Z H s) (L:H l=some (.lst xs))
  (e:s.heap.get? l=some { cls:=.type "list",data:=.seq its.toArray n }) (hf:f its.toArray=its'.toArray) (J:bC ys its') (hz:ys.length<=IF) (ht:X.tn<=t':=by walk_at "tok") :
  Inv X af Z (upd H l (.lst ys)) { s with heap:=s.heap.update l (VW f),toks:=t' }:=by
 have q:=aaX e f;rw [hf] at q;refine I.write (x:=l) (e:=l) (by rw [L];exact trivial) (.inl rfl) (fun b' u Y hu=>(Yn s.heap (VW f) (X5 Y)).trans hu) ⟨_,q⟩ ?_;exact ⟨hz,its',_,J,q⟩
def Inv.lnew {its:abA} {t':Nat} (I:Inv X af Z H s) (J:bC ys its) (hz:ys.length<=IF) (L:X.tn<=t':=by walk_at "tok") :
  Inv X af Z (upd H s.heap.objs.size (.lst ys)) { s with heap:=s.heap.push { cls:=.type "list",data:=.seq its.toArray },toks:=t' } :=
 I.laid (fun _ _ q=>dO _ q) (oR _) ⟨hz,its,0,J,CT _ rfl⟩
def Inv.fresh (I:Inv X af Z H s):H s.heap.objs.size=none:=I.hok.fresh (oR _)
def Inv.lstM (I:Inv X af Z H s) (J:H l=some (.lst xs)):xs.length<=IF/\∃ (its:abA) (n:Nat),bC xs its/\xs.length=its.length/\s.heap.get? l=some { cls:=.type "list",data:=.seq its.toArray n }:=by
 obtain ⟨z,its,n,r,e⟩:=I.hok l _ J;exact ⟨z,its,n,r,r.length,e⟩
def CM {n:Nat} (h:n<=IF):WK n=false:=by
 unfold WK;exact abp (by omega)
end
section
variable {X:Cx}
def A0:V->abB->Hp->VK->Prop:=fun x vs H Q=>∃ l xs y,x=.ref l/\vs=[y]/\H l=some (.lst xs)/\xs.length < IF/\Q .non (upd H l (.lst (xs++[y])))
def zy:VB X "list.append" A0:=by
 intro af s Z H x vs v us Q I Y rv h;obtain ⟨l,xs,y,rfl,rfl,J,hz,q⟩:=h;cases Y;obtain ⟨u,rfl,L⟩:=rv.one;obtain ⟨z,its,n,r,hl,e⟩:=I.lstM J;refine ZZ F.slot_list_append ⟨_,e,rfl⟩ F.entry_list_append (F.args_list_append_2 _ _) (PySem.list_append l its.toArray n u (by rw [tx];omega)) ⟨e,?_⟩;refine ⟨.non,_,I.lset (its':=its++[u]) J e (by simp) (r.append (.cons L .nil)) ?_,rfl,q⟩;rw [VU,W9];omega
end
section
variable {prog:VH} {w:VZ} {A:VV} {E:abx} {s:iF}
set_option maxRecDepth 100000 in
end
section
variable {κ:Type} [DecidableEq κ]
def p4 (kvs:List (κ×V)) (k:κ):Option V:=(kvs.find? fun J=>decide (J.1=k)).map (·.2)
def tP (kvs:List (κ×V)) (k:κ) (v:V):List (κ×V) :=
 if (kvs.any fun J=>decide (J.1=k))=true then kvs.map (fun J=>if J.1=k then (J.1,v) else J) else kvs++[(k,v)]
theorem uq {p:κ×V} {r:List (κ×V)} {k:κ} (e:p.1=k):p4 (p::r) k=some p.2:=by simp [p4,Xa,e]
def t6 {p:κ×V} {r:List (κ×V)} {k:κ} (e:¬ p.1=k):p4 (p::r) k=p4 r k:=by simp [p4,Xa,e]
def yp (k:κ):∀ kvs:List (κ×V),(kvs.any fun J=>decide (J.1=k))=(p4 kvs k).isSome
 | []=>rfl
 | p::r=>by
  rw [YI];by_cases e:p.1=k
  .simp only [uq e,abq e,Bool.true_or,Option.isSome_some]
  .rw [t6 e,abp e,Bool.false_or];exact yp k r
def v5 (kvs:List (κ×V)) (k:κ) (v:V):(tP kvs k v).length<=kvs.length+1:=by
 unfold tP;split
 .rw [iN];omega
 .rw [VU,V3,YN];omega
def vz.isSome_eq {o:Option V} {u:Option gs} (r:vz o u):o.isSome=u.isSome:=by
 cases o with
 | none=>cases u with
  | none=>rfl
  | some _=>exact (show False from r).elim
 | some _=>cases u with
  | none=>exact (show False from r).elim
  | some _=>rfl
def KV.val {kvs:List (κ×V)} {vs:List (κ×gs)} (r:KV kvs vs) (k:κ):vz (p4 kvs k) (valueAt vs k):=by
 unfold KV at r;induction r with
 | nil=>exact WX
 | @cons p q ps qs h t ih =>
  obtain ⟨h1,h2⟩:=h;by_cases e:p.1=k
  .have e':q.1=k:=h1.symm.trans e;have b:valueAt (q::qs) k=some q.2:=by simp [valueAt,Xa,e']
   rw [uq e,b];exact h2
  .have e':¬ q.1=k:=fun z=>e (h1.trans z);have b:valueAt (q::qs) k=valueAt qs k:=by simp [valueAt,Xa,e']
   rw [t6 e,b];exact ih
def KV.any {kvs:List (κ×V)} {vs:List (κ×gs)} (r:KV kvs vs) (k:κ):(kvs.any fun J=>decide (J.1=k))=vs.any fun J=>decide (J.1=k):=by
 unfold KV at r;induction r with
 | nil=>rfl
 | cons h t L=>rw [YI,YI,L,h.1]
def KV.repl {kvs:List (κ×V)} {vs:List (κ×gs)} (r:KV kvs vs) (k:κ) {y:V} {u:gs} (L:bq y u) :
  KV (kvs.map fun J=>if J.1=k then (J.1,y) else J) (vs.map fun J=>if J.1=k then (J.1,u) else J):=by
 unfold KV at r ⊢;induction r with
 | nil=>exact .nil
 | @cons p q ps qs h t ih =>
  rw [By,By];refine .cons ?_ ih;obtain ⟨h1,h2⟩:=h;by_cases e:p.1=k
  .rw [abn e,abn (h1.symm.trans e)];exact ⟨h1,L⟩
  .rw [abo e,abo (fun z=>e (h1.trans z))];exact ⟨h1,h2⟩
def KV.put {kvs:List (κ×V)} {vs:List (κ×gs)} (r:KV kvs vs) (k:κ) {y:V} {u:gs} (J:bq y u):KV (tP kvs k y) (stored vs k u):=by
 unfold tP stored;rw [r.any k];by_cases e:(vs.any fun L=>decide (L.1=k))=true
 .rw [abn e,abn e];exact r.repl k J
 .rw [abo e,abo e];exact Paired.snoc r ⟨rfl,J⟩
theorem KV.length {kvs:List (κ×V)} {vs:List (κ×gs)} (r:KV kvs vs):kvs.length=vs.length:=Zq r
end
def CP {P:VH} {w:VZ} {k:Key} {u:gs} (r:bq (kV k) u):(cA P w).is k u=true:=by
 cases k with
 | inl i=>obtain ⟨t,e⟩:=(show ∃ t,u=aap i t from r);subst e;exact BW P w i t
 | inr x=>obtain ⟨t,e⟩:=(show ∃ t,u=aaq x t from r);subst e;exact BG P w x t
 | nn=>have e:u=.none:=r;subst e;rfl
def zH {P:VH} {w:VZ}:∀ {ks:List Key} {us:abA},bC (ks.map kV) us->ItemsAre (cA P w) ks us
 | [],_,r=>by rw [YB] at r;cases r;exact .nil
 | k::ks,_,r=>by
  rw [By] at r;cases r with
  | cons h t=>exact .cons (CP h) (zH t)
abbrev KT (H:Hp):List (List Key×V)->List (List Key×Do×gs)->Prop:=Paired fun p q=>p.1=q.1/\H q.2.1=some (.tup (p.1.map kV))/\bq p.2 q.2.2
def KT.val {H:Hp} {kvs:List (List Key×V)} {xs:List (List Key×Do×gs)} (r:KT H kvs xs) (k:List Key):vz (p4 kvs k) ((atKey xs k).map (·.2)):=by
 induction r with
 | nil=>exact WX
 | @cons p q ps qs h t ih =>
  obtain ⟨h1,_,h2⟩:=h;by_cases e:p.1=k
  .have e':q.1=k:=h1.symm.trans e;have b:atKey (q::qs) k=some q.2:=by simp [atKey,Xa,e']
   rw [uq e,b];exact h2
  .have e':¬ q.1=k:=fun z=>e (h1.trans z);have b:atKey (q::qs) k=atKey qs k:=by simp [atKey,Xa,e']
   rw [t6 e,b];exact ih
def KT.repl {H:Hp} {kvs:List (List Key×V)} {xs:List (List Key×Do×gs)} (r:KT H kvs xs) (k:List Key) {y:V} {u:gs} (Y:bq y u) :
  KT H (kvs.map fun J=>if J.1=k then (J.1,y) else J) (xs.map (putAt k u)):=by
 induction r with
 | nil=>exact .nil
 | @cons p q ps qs h t ih =>
  rw [By,By];refine .cons ?_ ih;obtain ⟨h1,h2,L⟩:=h;unfold putAt;by_cases e:p.1=k
  .rw [abn e,abn (h1.symm.trans e)];exact ⟨h1,h2,Y⟩
  .rw [abo e,abo (fun z=>e (h1.trans z))];exact ⟨h1,h2,L⟩
def KT.put {H:Hp} {kvs:List (List Key×V)} {xs:List (List Key×Do×gs)} (r:KT H kvs xs) (k:List Key) {b:Do} {y:V} {u:gs} (Y:H b=some (.tup (k.map kV))) (J:bq y u) :
  KT H (tP kvs k y) (storedH xs k b u):=by
 have e:(kvs.any fun L=>decide (L.1=k))=(atKey xs k).isSome:=by
  rw [yp,(r.val k).isSome_eq,Yr]
 unfold tP storedH;rw [e];by_cases q:(atKey xs k).isSome=true
 .rw [abn q,abn q];exact r.repl k J
 .rw [abo q,abo q];exact Paired.snoc r ⟨rfl,Y,J⟩
def KT.keeps {H H':Hp} {kvs:List (List Key×V)} {xs:List (List Key×Do×gs)} (r:KT H kvs xs) (J:∀ b ys,H b=some (.tup ys)->H' b=some (.tup ys)):KT H' kvs xs :=
 Paired.mapP r fun _ _ z=>⟨z.1,J _ _ z.2.1,z.2.2⟩
section
variable {P:VH} {w:VZ} {H:Hp} {h:Xj} {a:Do}
def Nl {u:HO} (ok:tF P w H h) (e:Rd H a u):cc P w H h a u:=e.ok ok
def vX {kvs:List (Key×V)} (ok:tF P w H h) (e:Rd H a (.dK kvs)):kvs.length<=IF/\(a==W2)=false/\∃ vs,KV kvs vs/\h.DictOf (cA P w) a vs :=
 show cc P w H h a (.dK kvs) from Nl ok e
def Sv {kvs:List (Key×V)} (ok:tF P w H h) (e:H a=some (.dK kvs)):kvs.length<=IF/\(a==W2)=false/\∃ vs,KV kvs vs/\h.DictOf (cA P w) a vs:=vX ok (.inl e)
def yd {ks:List Key} (ok:tF P w H h) (e:H a=some (.tup (ks.map kV))):(tupleKind (cA P w)).is h ks a:=by
 obtain ⟨_,its,r,o,h1,h2,n,J⟩:=(show cc P w H h a (.tup (ks.map kV)) from ok a _ e);exact ⟨o,its.toArray,n,h1,h2,J,by simpa using zH r⟩
def zq {kvs:List (List Key×V)} (ok:tF P w H h) (e:Rd H a (.dT kvs)):kvs.length<=IF/\(a==W2)=false /\
  ∃ xs,KT H kvs xs/\h.DictOfH (tupleKind (cA P w)) a xs:=by
 obtain ⟨z,y,xs,r,o,es,ep,h1,h2,L,h4,Y⟩:=(show cc P w H h a (.dT kvs) from Nl ok e);refine ⟨z,y,xs,r,o,es,ep,h1,h2,L,h4,fun x J=>?_,Y⟩;have all:∀ {l:List (List Key×V)} {m:List (List Key×Do×gs)},KT H l m->∀ x∈m,(tupleKind (cA P w)).is h x.1 x.2.1:=by
  intro l m q;induction q with
  | nil=>intro x J;exact nomatch J
  | @cons p q ps qs hq t ih =>
   intro x J;rcases nE.mp J with e|J
   .subst e;exact yd ok (by rw [<- hq.1];exact hq.2.1)
   .exact ih x J
 exact all r x J
def R8 {kvs:List (List Key×V)} (ok:tF P w H h) (e:H a=some (.dT kvs)):kvs.length<=IF/\(a==W2)=false /\
  ∃ xs,KT H kvs xs/\h.DictOfH (tupleKind (cA P w)) a xs:=zq ok (.inl e)
end
def wo (H:Hp) (a:Do) (y:V) (r:Option V):Prop :=
 (∃ kvs k,Rd H a (.dK kvs)/\y=kV k/\r=p4 kvs k)\/∃ kvs k b,Rd H a (.dT kvs)/\y=.ref b/\H b=some (.tup (k.map kV))/\r=p4 kvs k
def Mo (H:Hp) (a:Do) (y v:V) (H':Hp):Prop :=
 (∃ kvs k,H a=some (.dK kvs)/\y=kV k/\kvs.length < IF/\H'=upd H a (.dK (tP kvs k v))) \/
 ∃ kvs k b,H a=some (.dT kvs)/\y=.ref b/\H b=some (.tup (k.map kV))/\kvs.length < IF/\H'=upd H a (.dT (tP kvs k v))
def Mo.k {H:Hp} {a:Do} {kvs:List (Key×V)} {k:Key} {v:V} (e:H a=some (.dK kvs)) (J:kvs.length < IF):Mo H a (kV k) v (upd H a (.dK (tP kvs k v))):=.inl ⟨kvs,k,e,rfl,J,rfl⟩
section
variable {X:Cx} {af:abw} {Z:St} {H:Hp} {s:iF} {a:Do} {y v:V} {u r:gs} {o:Option V} {A:VV} {E:abx}
def Inv.big (I:Inv X af Z H s):W2 < s.heap.objs.size:=by
 have h:VF < s.heap.objs.size:=(I.mod.glob.keeps I.bk).lt;exact Nat.lt_trans (by decide) h
def GM {Q:abx} (hu:A.units+1 < YX) (I:Inv X af Z H s) (g:wo H a y (some v)) (ry:bq y u) (h:∀ Y s',Inv X af Z H s'->bq v Y->Q Y s') :
  Le (VL X.prog X.w) A (Ze (.ref a) u) Q E s:=by
 rcases g with ⟨kvs,k,e,ey,l⟩|⟨kvs,k,b,e,ey,eb,l⟩
 .subst ey;obtain ⟨z,hd,vs,J,dd⟩:=vX I.hok e;obtain ⟨Y,hw,L⟩:=vz.some_of (v:=v) (o:=valueAt vs k) (by rw [l];exact J.val k);exact wpAny_getItem_of (CP ry) dd.mapOf hw (h Y _ (I.tok _) L)
 .subst ey;cases (show u=We b from ry);obtain ⟨z,hd,xs,J,dd⟩:=zq I.hok e;obtain ⟨Y,hw,L⟩:=vz.some_of (v:=v) (o:=(atKey xs k).map (·.2)) (by rw [l];exact J.val k);obtain ⟨p,hp,hp2⟩:=Option.map_eq_some_iff.mp hw;refine wpAny_getItem_heap (Yj hu) (yd I.hok eb) dd hp ?_;rw [hp2];exact h Y _ (I.tok _) L
def T8 {Q:abx} (hu:A.units+1 < YX) (I:Inv X af Z H s) (g:wo H a y o) (ry:bq y u) (h:∀ s',Inv X af Z H s'->Q (.bool o.isSome) s') :
  Le (VL X.prog X.w) A (VT .In u (.ref a)) Q E s:=by
 rcases g with ⟨kvs,k,e,L,l⟩|⟨kvs,k,b,e,L,eb,l⟩
 .subst L;obtain ⟨z,hd,vs,J,Y⟩:=vX I.hok e;refine wpAny_in_of (CP ry) hd Y.mapOf ?_;rw [<- (J.val k).isSome_eq,<- l];exact h _ (I.tok _)
 .subst L;cases (show u=We b from ry);obtain ⟨z,hd,xs,J,Y⟩:=zq I.hok e;refine wpAny_in_heap (Yj hu) (yd I.hok eb) hd Y ?_;have q:=(J.val k).isSome_eq;rw [Yr] at q;rw [<- q,<- l];exact h _ (I.tok _)
def L6 {Q:abx} (hu:A.units+1 < YX) (I:Inv X af Z H s) (g:wo H a y o) (ry:bq y u) (h:∀ s',Inv X af Z H s'->Q (.bool (!o.isSome)) s') :
  Le (VL X.prog X.w) A (VT .NotIn u (.ref a)) Q E s:=by
 rcases g with ⟨kvs,k,e,L,l⟩|⟨kvs,k,b,e,L,eb,l⟩
 .subst L;obtain ⟨z,hd,vs,J,Y⟩:=vX I.hok e;refine wpAny_notIn_of (CP ry) hd Y.mapOf ?_;rw [<- (J.val k).isSome_eq,<- l];exact h _ (I.tok _)
 .subst L;cases (show u=We b from ry);obtain ⟨z,hd,xs,J,Y⟩:=zq I.hok e;refine wpAny_notIn_heap (Yj hu) (yd I.hok eb) hd Y ?_;have q:=(J.val k).isSome_eq;rw [Yr] at q;rw [<- q,<- l];exact h _ (I.tok _)
def Fx {h':Xj} {t':Nat} {J:HO} (I:Inv X af Z H s) (mu:Rv (H a)) (L:Wv a s.heap h') (he:∃ q,h'.get? a=some q) (new:cc X.prog X.w (upd H a J) h' a J) (ht:X.tn<=t':=by walk_at "tok") :
  Inv X af Z (upd H a J) { s with heap:=h',toks:=t' } :=
 I.write (x:=a) (e:=a) mu (.inl rfl) (fun b q Y z=>(L.2 b Y).trans z) he new
def JY {P:VH} {w:VZ} {H':Hp} {h':Xj} {kvs:List (Key×V)} {vs:List (Key×gs)} (z:kvs.length<=IF) (hd:(a==W2)=false) (J:KV kvs vs) (L:h'.DictOf (cA P w) a vs) :
  cc P w H' h' a (.dK kvs):=⟨z,hd,vs,J,L⟩
def G2 {H':Hp} {Q:Unit->iF->Prop} (hu:A.units+1 < YX) (I:Inv X af Z H s) (g:Mo H a y v H') (ry:bq y u) (rv:bq v r) (h:∀ s',Inv X af Z H' s'->Q () s') :
  Le (VL X.prog X.w) A (setItem (.ref a) u r) Q E s:=by
 rcases g with ⟨kvs,k,e,ey,l,eH⟩|⟨kvs,k,b,e,ey,eb,l,eH⟩
 .subst ey eH;obtain ⟨z,hd,vs,J,dd⟩:=Sv I.hok e;have hz:vs.length<=IF:=by rw [<- J.length];exact z
  have hl:(tP kvs k v).length<=IF:=by have:=v5 kvs k v;omega
  refine wpAny_setItem_pairs (hsz:=hz) (CP ry) dd fun h' L hs=>h _ ?_;have he:∃ q,h'.get? a=some q:=let ⟨q,_,_,Y,_⟩:=L;⟨q,Y⟩;exact Fx I (by rw [e];exact WX) hs he (JY hl hd (J.put k rv) L)
 .subst ey eH;cases (show u=We b from ry);obtain ⟨z,hd,xs,J,dd⟩:=R8 I.hok e;have hz:xs.length<=IF:=by rw [<- Zq J];exact z
  have hl:(tP kvs k v).length<=IF:=by have:=v5 kvs k v;omega
  refine wpAny_setItem_heap (hsz:=hz) (Yj hu) (yd I.hok eb) dd fun h' L hs=>h _ ?_;obtain ⟨q,es,ep,Y,h2,h3,h4,_,h5⟩:=L;refine Fx I (by rw [e];exact WX) hs ⟨q,Y⟩ ⟨hl,hd,_,(J.put k eb rv).keeps fun c ys ec=>?_,q,es,ep,Y,h2,h3,h4,h5⟩;rw [aU (Tg ec e (fun z=>nomatch z))]
  exact ec
end
section
variable {X:Cx} {af:abw} {Z:St} {H:Hp} {s:iF} {a:Do} {kvs:List (Key×V)} {k:Key} {u:gs} {A:VV} {E:abx}
def RC {Q:abx} (I:Inv X af Z H s) (e:Rd H a (.dK kvs)) (h:∀ t s',Inv X af Z H s'->Q (.int kvs.length t) s'):Le (VL X.prog X.w) A (call (.builtin "len") [.ref a]) Q E s:=by
 obtain ⟨z,hd,vs,J,L⟩:=vX I.hok e;refine call_len_dict hd L (by rw [<- J.length];rw [V6] at z;omega) ?_;rw [<- J.length];exact h _ _ (I.tok _)
end
def Ip (i:Wk):Prop:=∀ ov J,subscripted i false ov J=operate [ov,J] (Ze ov J)
def Fj {prog:VH} {w:VZ} {A:VV} {E:abx} {s:iF} {env:Env} {value J:Wk} {pos:Pos} {T id:String} {Q:abx}
  (hl:typeLookup (.type T) "__getitem__"=pure (some (.builtin id))) (hs:Ip J)
  (h:Le (VL prog w) A (eval value env) (fun o s₁=>Le (VL prog w) A (eval J env) (fun i s₂=>s₂.TypeIs o T/\Le (VL prog w) A (Ze o i) Q E s₂) E s₁) E s) :
  Le (VL prog w) A (eval (.Subscript value J pos) env) Q E s:=by
 refine Subscript_ (Wi h (fun o s₁ h₁=>Wi h₁ (fun i s₂ L=>?_) fun _ _ x=>x) fun _ _ x=>x);obtain ⟨hT,L⟩:=L;unfold subscriptTail;refine bY ?_;rw [getitemInPython_of_ne hT.not_modules];refine bY (wpAny_specialOf hT hl ?_);have fin:Le (VL prog w) A (subscripted J false o i) (fun r Y=>Le (VL prog w) A (letTemporaryGo value o r >>= fun _=>pure r) Q E Y) E s₂:=by
  rw [hs o i];exact wpAny_operating (Wi L (fun r Y h₃=>bY (wpAny_letTemporaryGo (rW h₃))) fun _ _ x=>x)
 first
  | exact rW (bY fin)
  | exact bY (rW (bY fin))
  | exact bY fin
def Cv {X:Cx} {af:abw} {Z:St} {H:Hp} {s:iF} {a:Do} {y:V} {o:Option V} (I:Inv X af Z H s) (g:wo H a y o):s.TypeIs (.ref a) "dict":=by
 rcases g with ⟨kvs,k,e,_,_⟩|⟨kvs,k,b,e,_,_,_⟩
 .obtain ⟨_,_,vs,_,J⟩:=vX I.hok e;exact J.typeIs
 .obtain ⟨_,_,xs,_,J⟩:=zq I.hok e;exact J.typeIs
def NS (td ty:TE):TE:=fun Z H Q=>td Z H fun x H1=>ty Z H1 fun y H2=>∃ a v,x=.ref a/\wo H2 a y (some v)/\Q v H2
section
variable {X:Cx} {o i e value:Wk} {pos pos' tpos:Pos} {td ty tv:TE}
def EG (hu:X.A.units+1 < YX) (L:PE X o td) (hi:PE X i ty) (Y:Ip i):PE X (.Subscript o i pos) (NS td ty):=by
 intro af s Z H Q I h;refine Fj Zb.lookup Y (eO (L af s Z H _ I h) fun u s1 ⟨x,H1,I1,rx,q1⟩=>eO (hi af s1 Z H1 _ I1 q1) fun iv s2 ⟨y,H2,I2,ry,a,v,ex,g,q2⟩=>?_);subst ex;obtain rfl:u=We a:=rx;exact ⟨Cv I2 g,GM hu I2 g ry fun w' s3 I3 J=>⟨v,H2,I3,J,q2⟩⟩
end
def HZ {P:VH} {w:VZ} {H:Hp} (h:Xj) (J:W2 < h.objs.size):cc P w H (h.push { cls:=.type "dict",data:=.dict #[] }) h.objs.size (.dK []) :=
 ⟨VY _,beq_eq_false_iff_ne.mpr (X5 (VI J)),[],.nil,Heap.DictOf.new h⟩
def IE:TE:=fun _ H Q=>∀ p,H p=none->Q (.ref p) (upd H p (.dK []))
section
variable {X:Cx} {pos:Pos}
def KI:PE X (.Dict [] [] pos) IE:=fun af s Z H Q I h =>
 wpAny_Dict_empty ⟨.ref s.heap.objs.size,_,I.laid (a:=s.heap.objs.size) (o:=.dK []) (t':=s.toks) (fun _ _ q=>dO _ q) (oR _) (HZ s.heap I.big),rfl,h _ (I.hok.fresh (oR _))⟩
end
def IsD (H:Hp) (a:Do):Prop:=(∃ kvs,Rd H a (.dK kvs))\/∃ kvs,Rd H a (.dT kvs)
def PQ {X:Cx} {af:abw} {Z:St} {H:Hp} {s:iF} {a:Do} (I:Inv X af Z H s) (d:IsD H a) :
  s.TypeIs (.ref a) "dict"/\(∀ b,We a=.ref b->∃ J,s.heap.get? b=some J/\J.dict=none)/\(a==W2)=false:=by
 rcases d with ⟨kvs,e⟩|⟨kvs,e⟩
 .obtain ⟨_,hd,vs,_,L⟩:=vX I.hok e;refine ⟨L.typeIs,fun b q=>?_,hd⟩;cases q;obtain ⟨J,_,_,h1,h2,_⟩:=L;exact ⟨J,h1,h2.2.1⟩
 .obtain ⟨_,hd,xs,_,L⟩:=zq I.hok e;refine ⟨L.typeIs,fun b q=>?_,hd⟩;cases q;obtain ⟨J,_,_,h1,h2,_⟩:=L;exact ⟨J,h1,h2.2.1⟩
section
variable {X:Cx} {af:abw} {Z:St} {H:Hp} {s:iF} {a:Do} {kvs:List (Key×V)} {A:VV} {E:abx}
def J9 {Q:abx} (I:Inv X af Z H s) (e:Rd H a (.dK kvs)) (h:∀ p s',H p=none->Inv X af Z (upd H p (.dK kvs)) s'->Q (.ref p) s'):Le (VL X.prog X.w) A (call (.type "dict") [.ref a]) Q E s:=by
 obtain ⟨z,hd,vs,J,dd⟩:=vX I.hok e;refine kt_call_dict hd dd (by rw [<- J.length];exact z) fun h' L hs=>?_;refine h _ _ (I.hok.fresh (oR _)) (I.laid (a:=s.heap.objs.size) (o:=.dK kvs) (t':=s.toks) (fun b q Y=>?_) (oR _) (JY z (beq_eq_false_iff_ne.mpr (X5 (VI I.big))) J L));exact (hs.2 b (VI (ID Y))).trans (dO _ Y)
end
end L2
namespace Att
open PySem PySem.W PySem.Calls PyProof.Rows
def wq {P:Y9} {h:Xj}:∀ (ns:List Int) (vs:abA),WellAll P h vs (ns.map WData.int)->IntsAre vs ns:=by
 intro ns;induction ns with
 | nil =>
  intro vs w;rw [YB] at w;cases w;exact .nil
 | cons n ns J =>
  intro vs w;rw [By] at w;cases w with
  | cons a b =>
   cases a;exact .cons _ _ (J _ b)
def Gu {l:OpenLaw} {n:Nat} (hn:l.most=some n) {P:Y9} {h:Xj} {args:List WData} {J:abA}
  (L:l.row.toRowW.claim.pre args=true) (hwl:WellAll P h J args) :
  ∃ a vs ns,J=[We a]/\args=[WData.list (ns.map WData.int)]/\h.get? a=some { cls:=.type "list",data:=.seq vs.toArray }/\IntsAre vs ns/\ns.length<=n:=by
 have hsh:WShape.hasAll [] args [.list .int]=true:=(pre_splitW L).1;have hc:l.pre.holds [] { args:=args }=true:=(pre_splitW L).2;obtain ⟨d,r,rfl,h1,h2⟩:=hasAllW_cons hsh;obtain rfl:=hasAllW_nil h2;obtain ⟨xs,rfl,h3⟩:=hasW_list h1;obtain ⟨ns,rfl⟩:=items_int h3;have Y:ns.length<=n:=by
  unfold OpenLaw.pre at hc;have h4:(WTm.not (.lt (.lit (.int (n:Int))) (.len (.arg 0)))).holds [] { args:=[.list (ns.map .int)] }=true:=by
   have h4:=(holds_andW hc).1;rw [hn] at h4;exact h4
  have h5:=condW_of h4 (w_not (w_lt w_lit (w_len_list (w_arg rfl))));rw [iN] at h5;refine Nat.le_of_not_lt fun q=>?_;have q':(n:Int) < ((ns.length:Nat):Int):=by omega
  first
   | (rw [abq q'] at h5;exact absurd h5 (by decide))
   | (simp at h5;omega)
 cases hwl with
 | cons w1 w2 =>
  cases w2;cases w1 with
  | list ho hall=>exact ⟨_,_,ns,rfl,rfl,ho,wq ns _ hall,Y⟩
def Hy (l:OpenLaw) (args:List WData):l.row.toRowW.claim.post args (.bool true) args=true :=
 postW_of (r:=l.row.toRowW) (X:=(true==true))
  (show WShape.has [] (.bool true) .bool=true by first|rfl|decide|simp [WShape.has,WShape.arms,WShape.armsAll])
  (show (WTm.eq .res (.lit (.bool true))).value [] { args:=args,res:=some (.bool true),after:=args }=some (.bool (true==true)) from w_eq_bool (w_res rfl) w_lit) rfl
def BV {l:OpenLaw} {n:Nat} {q:VH} {loose:abv} {XP:(aby)->Xj->Prop} {YP:VZ->Xj->Prop} {d:DefRec}
  (hn:l.most=some n) (hdf:d.params.defaults=[])
  (call:∀ (w:VZ) (L J:iF) (mg mb:aby) (fa:Do) (o:Obj) (pm cd doc:gs) (a:Do) (vs:abA) (ns:List Int),
   Ground q loose [] XP w L mg mb J.heap->YP w J.heap ->
   J.heap.get? fa=some o->o.data=.func (docDef d.name d.params d.body d.scope pm cd doc)->J.heap.CodeRec cd d.name->mg d.name=some (.ref fa) ->
   J.heap.get? a=some { cls:=.type "list",data:=.seq vs.toArray }->IntsAre vs ns->ns.length<=n->J.gens=#[] ->
   YU (VL l.prog w) callerA (.call (.ref fa) ⟨[.ref a],[]⟩) (fun r s'=>r=.ok (.ret (.bool true))/\OldK J.heap s'.heap/\s'.os=J.os/\AllBare s'.gens) J) :
  WalkO q loose XP YP l.row.toRowW d [] (fun f vs=>aaI f vs):=by
 intro w L J mg mb G Y fa o pm cd doc dV kV ho hd hcd hD hmg hg args vals as hpre hlay hrd hwl hlo;obtain rfl:dV=.none:=Dflts.none hD hdf;obtain rfl:kV=.none:=Dflts.noKw hD;obtain ⟨a,vs,ns,rfl,rfl,hobj,hints,hlen⟩:=Gu hn hpre hwl;refine enter_call (Ya (call w L J mg mb fa o pm cd doc a vs ns G Y ho (fd_plain hd) hcd hmg hobj hints hlen hg) fun r s' hq=>?_);obtain ⟨rfl,h2,h3,h4⟩:=hq;exact ⟨.inl ⟨.bool true,.bool true,[],rfl,fun _=>rfl,.bool true,Hy l _,fun _=>⟨Ys,fun _ hm=>(nomatch hm)⟩⟩,h2,h3,h4⟩
end Att
namespace L2
open PySem PySem.Spec PyProof.Rows
def zx:∀ {vs:abA} {ns:List Int},IntsAre vs ns->bC (ns.map V.int) vs
 | _,_,.nil=>.nil
 | _,_,.cons n t h=>.cons ⟨t,rfl⟩ (zx h)
def OB (H:Hp):Prop:=∀ b,H b=none\/∃ o xs,H b=some (.frz o (.lst xs))
def Kv {P:VH} {w:VZ} {K:aT} {mg mb:aby} {CX:HA} {k:Nat} {fa a:Do} {fd:Wl} {x:Str} {sp:Sp} {s₁:iF} {vs:abA} {ns:List Int}
  (KX:K.In s₁.heap) (hns:s₁.heap.Ns VF mg) (L:s₁.heap.Ns builtinsNs mb) (hbb:∀ x:Str,x≠"__name__"->mb x=VO x) (hlim:s₁.heap.NoLimit) (hg:s₁.gens=#[])
  (ha:s₁.heap.get? a=some { cls:=.type "list",data:=.seq vs.toArray }) (hi:IntsAre vs ns) (hl:ns.length<=IF) (hr:Room k callerA)
  (F:∀ base:Xj,K.In base->base.Ns VF mg->FnOk P w K mg base CX k fa fd [x] sp) (hbind:∀ (s:iF) (u:gs),BindsTo s fd ⟨[u],[]⟩ [(x,u)])
  (hsp:∀ H:Hp,OB H->iA K H a (ns.map V.int)->sp [.ref a] H (fun v _=>v=.bl true) fun _ _ _=>False)
  (hCX:∀ H e s',CX [] H s₁ (fun _ _ _=>False) e s'->False) :
  YU (VL P w) callerA (.call (.ref fa) ⟨[.ref a],[]⟩) (fun r s'=>r=.ok (.ret (.bool true))/\OldK s₁.heap s'.heap/\s'.os=s₁.os/\AllBare s'.gens) s₁:=by
 have rv:=zx hi;have lenV:=hi.length
 have core:∀ H:Hp,OB H->iA K H a (ns.map V.int)->tF P w H s₁.heap->(∀ b,H b≠none->b=a)->(H a≠none->K.lookup a=none) ->
   YU (VL P w) callerA (.call (.ref fa) ⟨[.ref a],[]⟩) (fun r s'=>r=.ok (.ret (.bool true))/\OldK s₁.heap s'.heap/\s'.os=s₁.os/\AllBare s'.gens) s₁:=by
  intro H hO hS hok hA hK;have J:∀ {b:Do} {o:Obj},s₁.heap.get? b=some o->H b=none->(zT s₁.heap H).get? b=some o:=fun e n=>IG e n;have noA:∀ {b:Do} {o:Obj} {es:Array DictEntry} {ep:Nat},s₁.heap.get? b=some o->o.data=.dict es ep->H b=none:=fun {b o es ep} e d=>by
   cases q:H b with
   | none=>rfl
   | some u =>
    have e':b=a:=hA b (by rw [q];simp);subst e';rw [ha] at e;cases e;have d':Data.seq vs.toArray _=Data.dict es ep:=d;cases d'
  have Y:∀ {b:Do} {m:aby},s₁.heap.Ns b m->(zT s₁.heap H).Ns b m:=fun {b m} ⟨o,es,ep,e,d,r⟩=>⟨o,es,ep,J e (noA e d),d,r⟩;have hKb:K.In (zT s₁.heap H):=fun b o e=>J (KX b o e) (by
   cases q:H b with
   | none=>rfl
   | some u =>
    have e':b=a:=hA b (by rw [q];simp);subst e';rw [hK (by rw [q];simp)] at e;cases e)
  have hM:Mod K mg (zT s₁.heap H):=⟨hKb,Y hns,⟨mb,Y L,hbb⟩,let ⟨mc,h1,h2⟩:=hlim;⟨mc,Y h1,h2⟩⟩;have e0:Env0 P w K mg (zT s₁.heap H) callerA [] s₁ H:=⟨rfl,hM,fun b o e=>Mi e,aaQ (GN _ _),trivial,fun b L=>absurd (show b∈([]:abz) from L) (by simp),hok,.of_eq hg⟩;refine Ya ((F _ hKb (Y hns)).run callerA [] s₁ H ⟨[.ref a],[]⟩ [.ref a] [.ref a] _ _ hr e0 (hbind s₁ (.ref a)) (.cons rfl .nil) (hsp H hO hS)) fun r s' h=>?_;cases r with
  | error e=>exact (hCX H e s' h).elim
  | ok fl =>
   cases fl with
   | next=>exact WW h
   | brk=>exact WW h
   | cont=>exact WW h
   | ret u =>
    obtain ⟨v,H',os,bare,un,hok',r',q⟩:=h;have q':v=.bl true:=q;subst q';obtain rfl:u=ZV true:=r';refine ⟨rfl,OldK.of_keep fun b o e=>?_,os,bare⟩;cases q:H b with
    | none=>exact un.keep b o e q (by intro z;exact absurd (show b∈([]:abz) from z) (by simp)) (by simp)
    | some u =>
     rcases hO b with z|⟨ob,xs,z⟩
     .rw [q] at z;cases z
     .have z2:=un.frzs b ob _ z;obtain ⟨e1,_⟩:=hok b _ z;obtain ⟨e2,_⟩:=hok' b _ z2;rw [e] at e1;cases e1;exact e2
 cases hk:K.lookup a with
 | some o =>
  have e:=KX a o hk;rw [ha] at e;cases e;refine core (fun _=>none) (fun _=>.inl rfl) (.inr ⟨_,vs.toArray,_,hk,rfl,rfl,rfl,by rw [tx,lenV];exact hl,by simpa using rv⟩) (fun b u z=>by have z':(none:Option HO)=some u:=z;cases z') (fun b z=>absurd rfl z) fun z=>absurd rfl z
 | none =>
  refine core (fun b=>if b=a then some (.frz { cls:=.type "list",data:=.seq vs.toArray } (.lst (ns.map V.int))) else none) (fun b=>?_) (.inl (.inr ⟨{ cls:=.type "list",data:=.seq vs.toArray },abn rfl⟩)) (fun b u z=>?_) (fun b z=>?_) fun _=>hk
  .by_cases L:b=a
   .exact .inr ⟨_,_,abn L⟩
   .exact .inl (abo L)
  .by_cases L:b=a
   .have z':=(abn L).symm.trans z;cases z';subst L;exact ⟨ha,by rw [iN];exact hl,vs,_,rv,ha⟩
   .have z':=(abo L).symm.trans z;cases z'
  .by_cases L:b=a
   .exact L
   .exact absurd (abo L) z
def MD {l:ZK} {n k:Nat} {q:VH} {loose:abv} {XP:(aby)->Xj->Prop} {YP:VZ->Xj->Prop} {d:DefRec} {K:Y9->aT} {CX:VZ->HA} {sp:VZ->Sp} {x:Str}
  (hn:l.most=some n) (hn2:n<=IF) (hdf:d.params.defaults=[]) (hr:Room k callerA)
  (hY:∀ (w:VZ) (h:Xj),YP w h->(K w.params).In h)
  (F:∀ (w:VZ) (mg:aby) (fa:Do) (h:Xj),(K w.params).In h->h.Ns VF mg->mg d.name=some (.ref fa) ->
   ∃ fd:Wl,(∀ (s:iF) (u:gs),BindsTo s fd ⟨[u],[]⟩ [(x,u)]) /\
    ∀ base:Xj,(K w.params).In base->base.Ns VF mg->FnOk l.prog w (K w.params) mg base (CX w) k fa fd [x] (sp w))
  (hsp:∀ (w:VZ) (H:Hp) (a:Do) (ns:List Int),ns.length<=n->OB H->iA (K w.params) H a (ns.map V.int)->sp w [.ref a] H (fun v _=>v=.bl true) fun _ _ _=>False)
  (hCX:∀ (w:VZ) (H:Hp) (s:iF) (e:gs) (s':iF),CX w [] H s (fun _ _ _=>False) e s'->False) :
  PySem.W.WalkO q loose XP YP l.row.toRowW d [] (fun f vs=>aaI f vs):=by
 refine Att.BV hn hdf fun w s₀ s₁ mg mb fa o pm cd doc a vs ns G Y ho hd hcd hmg hobj L J hg=>?_;have KX:=hY w _ Y;obtain ⟨fd,hb,hF⟩:=F w mg fa _ KX G.T.g hmg;exact Kv KX G.T.g G.T.b G.T.builtins G.T.nolimit hg hobj L (RW J hn2) hr hF hb (fun H hO hS=>hsp w H a ns J hO hS) fun H e s'=>hCX w H s₁ e s'
def j4 (s:WO):Arguments:=match s with
 | .FunctionDef _ a _ _ _ _ _ _ _ _=>a
 | _=>{ posonlyargs:=[],args:=[],vararg:=none,kwonlyargs:=[],kw_defaults:=[],kwarg:=none,defaults:=[] }
def gC (s:WO):List WO:=match s with
 | .FunctionDef _ _ b _ _ _ _ _ _ _=>b
 | _=>[]
def aq (s:WO):Scope:=match s with
 | .FunctionDef _ _ _ _ _ _ sc _ _ _=>sc
 | _=>{ kind:=.function,names:=[],isGenerator:=false,isCoroutine:=false }
abbrev dc:HA:=fun _ _ _ _ _ _=>False
abbrev E0:XK:=fun _ _ _=>False
def Jx {X:Cx}:wX dc X E0:=fun _ _ _ _ _ _ _ h=>h.elim
structure Fun (K:aT) (x qual:Str) (st:WO) (f:Do) (fd:Wl):Prop where
 ex:∃ (oc:gs) (od:Option Do) (kV doc pm:gs) (an:Option Do) (cdv ct:gs) (osl:Array (Option gs)),
  fd=Xe x qual (j4 st) (gC st) (aq st) .none kV doc pm an cdv ct/\K.lookup f=some ⟨oc,od,.func fd,osl⟩/\Za K cdv qual=true
 kp:Yy K (.ref f)=true
section
variable {P:VH} {w:VZ} {K:aT} {mg:aby} {base:Xj}
theorem Fun.ok {x L:Str} {st:WO} {f:Do} {fd:Wl} {N ps:abv} {k:Nat} {sp:Sp} (F:Fun K x L st f fd) (S:FnScope N ps (aq st)) (len:∀ vs H Q E,sp vs H Q E->vs.length=ps.length)
  (hbody:∀ (Y:gs) (A:VV) (J:List Env) (s:iF) (H:Hp) (vs:abB) (Q:VK) (E:XK),Room k (A.deeper (aad L (aq st) s.heap.objs.size f Y))->sp vs H Q E ->
   ∃ t,Fd (Bo dc P w K mg base N L (aq st) f Y A J s H E).nox (gC st) t/\t { nx:=fun _ H'=>Q .non H',rt:=Q } (start N vs) H):FnOk P w K mg base dc (k+1) f fd ps sp:=by
 obtain ⟨oc,od,kV,doc,pm,an,Y,ct,osl,rfl,lk,hcd⟩:=F.ex;refine SC lk hcd S len fun A J s H vs Q E hr hsp=>?_;obtain ⟨t,h,q⟩:=hbody Y A J s H vs Q E hr hsp;exact ⟨t,h.nox,q⟩
def Fun.binds {x J:Str} {st:WO} {f:Do} {fd:Wl} {ps:abv} (F:Fun K x J st f fd)
  (h:∀ (kV Y pm:gs) (an:Option Do) (L ct:gs) (us:abA),us.length=ps.length->bindArgs (Xe x J (j4 st) (gC st) (aq st) .none kV Y pm an L ct) ⟨us,[]⟩=pure (ps.zip us)):l9 K fd ps []:=by
 obtain ⟨oc,od,kV,Y,pm,an,L,ct,osl,rfl,lk,hcd⟩:=F.ex;exact .all (h kV Y pm an L ct)
def Kt {x J:Str} {st:WO} {f:Do} {oc:gs} {od an:Option Do} {osl:Array (Option gs)} {kV Y pm L ct:gs} (l:K.lookup f=some ⟨oc,od,.func (Xe x J (j4 st) (gC st) (aq st) .none kV Y pm an L ct),osl⟩)
  (c:Za K L J=true) (k:Yy K (.ref f)=true):Fun K x J st f (Xe x J (j4 st) (gC st) (aq st) .none kV Y pm an L ct):=⟨⟨oc,od,kV,Y,pm,an,L,ct,osl,rfl,l,c⟩,k⟩
end
section
variable {X:Cx}
def pv (i:Nat) {x:Str} {pos:Pos} (Y:X.N[i]?=some x:=by rfl) (L:Ev X.env.scope x:=by walk_at"v") (hd:abD x:=by decide)
  (J:(x==("__classdict__":Str))=false:=by decide):PE X (.Name x pos) (ST i):=Jl Y L hd J
end
def aH (H H':Hp):Prop:=∀ b o,H b=some o->H' b=some o
def aH.refl (H:Hp):aH H H:=fun _ _ h=>h
theorem aH.trans {H H1 H2:Hp} (a:aH H H1) (b:aH H1 H2):aH H H2:=fun c o h=>b c o (a c o h)
def aH.free {H H':Hp} (e:aH H H') {l:Do} (h:H' l=Option.none):H l=Option.none:=by
 cases q:H l with
 | none=>rfl
 | some o =>
  rw [e l o q] at h;cases h
def aH.seq {K:aT} {H H':Hp} {a:Do} {xs:abB} (e:aH H H') (h:iA K H a xs):iA K H' a xs:=by
 rcases h with (h|⟨o,h⟩)|h
 .exact .inl (.inl (e _ _ h))
 .exact .inl (.inr ⟨o,e _ _ h⟩)
 .exact .inr h
section
variable {κ:Type} [DecidableEq κ]
def wL:∀ {l:List κ} {k:κ},l.Nodup->¬ k∈l->(l++[k]).Nodup
 | [],k,_,_=>by simp
 | a::r,k,h,hk=>by
  obtain ⟨h1,h2⟩:=Wm.mp h;show (a::(r++[k])).Nodup;refine Wm.mpr ⟨fun m=>?_,wL h2 fun m=>hk (nE.mpr (WL m))⟩;rcases MK.mp m with q|q
  .exact h1 q
  .exact hk (nE.mpr (DO (VM.mp q).symm))
end
end L2
namespace L2
open PySem PySem.W PySem.W.X PySem.W.ZRun
def walkX {q:VH} {loose:abv} {XP:(aby)->Xj->Prop} {K:Y9->Frag} {as:abz} {n t:Nat} {r:RowW} {d:DefRec} {kwd:List (Str×Wk)} {run:gs->abA->Sem gs}
  (e:∀ P,as=(K P).map (·.1)) (h:WalkO q loose XP (fun w h=>(K w.params).In h) r d kwd run):WalkX q loose XP (obsZ as) (valZ K n t) r d kwd run :=
 fun w Y J mg mb G y a o pm cd doc dV kV h1 h2 h3 h4 h5 h6 args vals as L hp hl hr hw hs =>
  h w Y J mg mb G (InK.keeps w Y.heap J.heap (z_facts e y).2.1 L.keeps) a o pm cd doc dV kV h1 h2 h3 h4 h5 h6 args vals as hp hl hr hw hs
def ln0 {α:Type} {P:List α->Prop} (h:P []):∀ us:List α,us.length=0->P us:=fun us e=>by
 rw [List.length_eq_zero_iff.mp e];exact h
def sw {α:Type} {P:List α->Prop} (h:∀ a,P [a]):∀ us:List α,us.length=1->P us:=fun us e=>by
 obtain ⟨a,rfl⟩:=Yo.mp e;exact h a
def UW {α:Type} {P:List α->Prop} {n:Nat} (h:∀ a us,us.length=n->P (a::us)):∀ us:List α,us.length=n+1->P us:=fun us e=>by
 cases us with
 | nil=>cases e
 | cons a us=>exact h a us (Nat.succ.inj e)
def wv {α:Type} {P:List α->Prop} (h:∀ a b,P [a,b]):∀ us:List α,us.length=2->P us:=UW fun a=>sw fun b=>h a b
def Qt {α:Type} {P:List α->Prop} (h:∀ a b c,P [a,b,c]):∀ us:List α,us.length=3->P us:=UW fun a=>wv fun b c=>h a b c
def VC {α:Type} {P:List α->Prop} (h:∀ a b c d,P [a,b,c,d]):∀ us:List α,us.length=4->P us:=UW fun a=>Qt fun b c d=>h a b c d
end L2
namespace L2
open PySem PySem.Spec PyProof.Rows
def hU (cells:List (Str×Do)):List (Str×XQ)->List (Str×Do)->List (Str×Do)
 | [],acc=>acc
 | (n,k)::r,acc=>if k=.free then hU cells r ((n,(cells.lookup n).getD 0)::acc) else hU cells r acc
def pI {scope:Scope} {env:Env} (h:∀ y∈scope.names,y.2=.free->∃ c,env.cells.lookup y.1=some c):closureFor scope env=pure (hU env.cells scope.names []):=by
 simp only [closureFor];generalize ([]:List (Str×Do))=acc;revert h
 generalize scope.names=names;intro h;induction names generalizing acc with
 | nil=>rfl
 | cons y r ih =>
  obtain ⟨n,k⟩:=y;have J:=fun acc=>ih acc fun z hz=>h z (mK _ hz);by_cases hk:k=.free
  .subst hk;obtain ⟨c,L⟩:=h (n,.free) OR rfl;have L:env.cells.lookup n=some c:=L;have e1:cellOf env n=pure c:=by unfold cellOf;rw [L]
   have Y:hU env.cells ((n,.free)::r) acc=hU env.cells r ((n,c)::acc):=by
    show (if Wq=.free then _ else _)=_;rw [abn rfl,L];rfl
   rw [Y,<- J ((n,c)::acc),YO];simp only [beq_self_eq_true,if_true,e1];rfl
  .have hb:(k==Wq)=false:=by simpa using hk
   have Y:hU env.cells ((n,k)::r) acc=hU env.cells r acc:=by
    show (if k=.free then _ else _)=_;rw [abo hk]
   rw [Y,<- J acc,YO];simp only [hb,XH,if_false];rfl
def A3 {cells:List (Str×Do)} {x:Str} {c:Do}:∀ (J:List (Str×XQ)) (acc:List (Str×Do)),(∀ y∈J,y.2=.free->∃ c,cells.lookup y.1=some c) ->
  (hU cells J acc).lookup x=some c->cells.lookup x=some c\/acc.lookup x=some c
 | [],acc,_,e=>.inr e
 | (n,k)::r,acc,h,e=>by
  have hr:∀ y∈r,y.2=.free->∃ c,cells.lookup y.1=some c:=fun y hy=>h y (mK _ hy);by_cases hk:k=.free
  .subst hk;have Y:hU cells ((n,.free)::r) acc=hU cells r ((n,(cells.lookup n).getD 0)::acc):=by
    show (if Wq=.free then _ else _)=_;rw [abn rfl]
   rw [Y] at e;rcases A3 r _ hr e with z|z
   .exact .inl z
   .rw [WY] at z;cases hx:x==n with
    | true =>
     rw [hx] at z;have hxn:x=n:=eq_of_beq hx;obtain ⟨c',L⟩:=h (n,.free) OR rfl;have L:cells.lookup n=some c':=L;rw [L] at z;left
     rw [hxn,L];exact z
    | false =>
     rw [hx] at z;exact .inr z
  .have Y:hU cells ((n,k)::r) acc=hU cells r acc:=by
    show (if k=.free then _ else _)=_;rw [abo hk]
   rw [Y] at e;exact A3 r acc hr e
def uh {cells:List (Str×Do)} {x:Str}:∀ (J:List (Str×XQ)) (acc:List (Str×Do)),((x,Wq)∈J\/∃ c,acc.lookup x=some c)->∃ c,(hU cells J acc).lookup x=some c
 | [],acc,h=>by
  rcases h with h|h
  .cases h
  .exact h
 | (n,k)::r,acc,h=>by
  by_cases Y:k=.free
  .subst Y;have L:hU cells ((n,.free)::r) acc=hU cells r ((n,(cells.lookup n).getD 0)::acc):=by
    show (if Wq=.free then _ else _)=_;rw [abn rfl]
   rw [L];refine uh r _ ?_;rcases h with h|⟨c,h⟩
   .rcases nE.mp h with h|h
    .cases h;exact .inr ⟨_,by rw [WY,beq_self_eq_true]⟩
    .exact .inl h
   .right
    rw [WY];cases x==n with
    | true=>exact ⟨_,rfl⟩
    | false=>exact ⟨c,h⟩
  .have L:hU cells ((n,k)::r) acc=hU cells r acc:=by
    show (if k=.free then _ else _)=_;rw [abo Y]
   rw [L];refine uh r acc ?_;rcases h with h|h
   .rcases nE.mp h with h|h
    .cases h;exact absurd rfl Y
    .exact .inl h
   .exact .inr h
structure Bk where
 cl:List (Str×Do)
 C:Do
 s:iF
 H:Hp
 fp:abz
 af:abw
def vM (X:Cx) (N:abv) (scope:Scope) (b:Bk):Cx :=
 { X with tn:=0,N:=N,s₀:=b.s,H₀:=b.H,env:=compEnvC scope b.cl b.C X.env,outer:=X.stack,stack:=X.stack,ex:=b.fp,fn:=fun _=>false,pn:=X.pn++b.af,xe:=fun _ _=>False }
def wS (ON:abv) (J:List (Str×XQ)):List (Option Nat)->abv->Bool
 | [],[]=>true
 | none::r,_::n=>wS ON J r n
 | some j::r,x::n=>decide (ON[j]?=some x)&&decide ((x,Wq)∈J)&&wS ON J r n
 | _,_=>false
def G7 (osc:Scope) (ON N:abv) (ix:List (Option Nat)) (scope:Scope):Bool :=
 decide (scope.kind=.function)&&(scope.names.all fun y=>decide (y.2≠.cell))&&(scope.names.all fun y=>decide (y.2=.local->scope.names.lookup y.1=some .local)) &&
 (scope.names.all fun y=>decide (y.2=.free->osc.names.lookup y.1=some .cell\/osc.names.lookup y.1=some .free))&&(scope.names.all fun y=>decide (y.2=.local->(y.1,Wq)∉scope.names))&&wS ON scope.names ix N
structure CScope (osc:Scope) (ON N:abv) (ix:List (Option Nat)) (scope:Scope):Prop where
 kind:scope.kind=.function
 nocell:∀ y∈scope.names,y.2≠.cell
 names:∀ y∈scope.names,y.2=.local->scope.names.lookup y.1=some .local
 outs:∀ y∈scope.names,y.2=.free->osc.names.lookup y.1=some .cell\/osc.names.lookup y.1=some .free
 nolf:∀ x,(x,NameKind.local)∈scope.names->(x,Wq)∈scope.names->False
 len:ix.length=N.length
 cap:∀ (i j:Nat) (x:Str),ix[i]?=some (some j)->N[i]?=some x->ON[j]?=some x/\(x,Wq)∈scope.names
def vp {ON:abv} {J:List (Str×XQ)}:∀ {ix:List (Option Nat)} {N:abv},wS ON J ix N=true->ix.length=N.length
 | [],[],_=>rfl
 | none::r,_::n,h=>abt Nat.succ (vp (ix:=r) (N:=n) h)
 | some j::r,x::n,h=>by
  have h':(decide (ON[j]?=some x)&&decide ((x,Wq)∈J)&&wS ON J r n)=true:=h;rw [V4] at h';exact abt Nat.succ (vp h'.2)
 | [],_::_,h=>by cases h
 | none::_,[],h=>by cases h
 | some _::_,[],h=>by cases h
def uW {ON:abv} {J:List (Str×XQ)}:∀ {ix:List (Option Nat)} {N:abv},wS ON J ix N=true->∀ (i j:Nat) (x:Str),ix[i]?=some (some j)->N[i]?=some x->ON[j]?=some x/\(x,Wq)∈J
 | [],_,_,i,j,x,h1,_=>by simp at h1
 | none::r,y::n,h,0,j,x,h1,_=>by simp at h1
 | none::r,y::n,h,i+1,j,x,h1,h2=>uW (ix:=r) (N:=n) h i j x (by simpa using h1) (by simpa using h2)
 | some k::r,y::n,h,i,j,x,h1,h2=>by
  have h':(decide (ON[k]?=some y)&&decide ((y,Wq)∈J)&&wS ON J r n)=true:=h;rw [V4,V4] at h';cases i with
  | zero =>
   simp only [Ye,Zk] at h1 h2;subst h1 h2;exact ⟨abr h'.1.1,abr h'.1.2⟩
  | succ i=>exact uW h'.2 i j x (by simpa using h1) (by simpa using h2)
 | none::_,[],h,_,_,_,_,_=>by cases h
 | some _::_,[],h,_,_,_,_,_=>by cases h
def NH {osc:Scope} {ON N:abv} {ix:List (Option Nat)} {scope:Scope} (h:G7 osc ON N ix scope=true):CScope osc ON N ix scope:=by
 unfold G7 at h;simp only [V4] at h;obtain ⟨⟨⟨⟨⟨h1,h2⟩,h3⟩,h4⟩,Y⟩,L⟩:=h;exact ⟨abr h1,fun y J=>abr (WD.mp h2 y J),fun y J=>abr (WD.mp h3 y J),fun y J=>abr (WD.mp h4 y J),
  fun x hx hf=>abr (WD.mp Y (x,.local) hx) rfl hf,vp L,uW L⟩
def qy (ix:List (Option Nat)) (Z:St):St:=ix.map fun o=>o.bind fun j=>(Z[j]?).getD none
def ib {env:Env}:∀ {J:List (Str×XQ)} {x:Str} {k:XQ},(J.map fun (n,k)=>if (k==Wq&&env.scope.kind==.function&&env.kindOf n==some .cell) then (n,abk) else (n,k)).lookup x=some k ->
  J.lookup x=some k\/(k=.cell/\J.lookup x=some .free/\env.kindOf x=some .cell)
 | [],_,_,h=>by cases h
 | (n,k')::r,x,k,h=>by
  have ih:=@ib env r x k;have h:Xg x ((if (k'==Wq&&env.scope.kind==.function&&env.kindOf n==some .cell)=true then (n,abk) else (n,k'))::_)=some k:=h;by_cases L:(k'==Wq&&env.scope.kind==.function&&env.kindOf n==some .cell)=true
  .rw [abn L] at h;rw [WY] at h;rw [WY];cases hx:x==n with
   | true =>
    rw [hx] at h;cases h;have Y:x=n:=eq_of_beq hx;simp only [V4,beq_iff_eq] at L;right
    exact ⟨rfl,by rw [L.1.1],by rw [Y];exact L.2⟩
   | false =>
    rw [hx] at h;exact ih h
  .rw [abo L] at h;rw [WY] at h;rw [WY];cases hx:x==n with
   | true =>
    rw [hx] at h;cases h;exact .inl rfl
   | false =>
    rw [hx] at h;exact ih h
def mem_of_lookupK {x:Str} {k:XQ}:∀ {J:List (Str×XQ)},J.lookup x=some k->(x,k)∈J:=fun h=>Xh h
def L7 {X:Cx} {osc:Scope} {ON:abv} {af:abw} {Z:St} {H:Hp} {s s':iF} {N:abv} {ix:List (Option Nat)} {scope:Scope} {fp:abz} {h':Xj} {m:aby} (I:Inv X af Z H s) (hE:X.env.scope=osc) (hO:X.N=ON) (S:CScope osc ON N ix scope)
  (hfp:∀ b∈fp,iI X af H b) (hfo:∀ b∈fp,∃ o,s.heap.get? b=some o) (hn:h'.Ns s.heap.objs.size m) (hk:∀ b o,s.heap.get? b=some o->h'.get? b=some o) (he:s'={ s with heap:=h',toks:=s'.toks }) :
  Inv (vM X N scope ⟨hU X.env.cells scope.names [],s.heap.objs.size,s,H,fp,af⟩) [] (qy ix Z) H s':=by
 subst hE hO;have hcells:∀ y∈scope.names,y.2=.free->∃ c,X.env.cells.lookup y.1=some c:=fun y hy e=>I.ok.has y.1 (S.outs y hy e);have J:∀ x c,(hU X.env.cells scope.names []).lookup x=some c->X.env.cells.lookup x=some c:=fun x c e=>by
  rcases A3 scope.names [] hcells e with z|z
  .exact z
  .cases z
 have old:∀ b o,s.heap.get? b=some o->b≠s.heap.objs.size:=fun b o e=>VI (ID e);have hkind:∀ x,(compEnvC scope (hU X.env.cells scope.names []) s.heap.objs.size X.env).kindOf x=some .cell\/(compEnvC scope (hU X.env.cells scope.names []) s.heap.objs.size X.env).kindOf x=some .free->(x,Wq)∈scope.names:=fun x hx=>by
  rcases hx with hx|hx
  .rcases ib (env:=X.env) hx with z|⟨_,z,_⟩
   .exact absurd rfl (S.nocell _ (mem_of_lookupK z))
   .exact mem_of_lookupK z
  .rcases ib (env:=X.env) hx with z|⟨z,_⟩
   .exact mem_of_lookupK z
   .cases z
 have cellK:∀ x c,X.env.cells.lookup x=some c->∀ v,s.heap.IsCell c v->h'.IsCell c v:=fun x c e v ⟨o,ho,hd⟩=>⟨o,hk c o ho,hd⟩;rw [he];refine ⟨⟨I.ok.mod,S.kind,I.ok.glob,I.ok.blt,oR _,fun x y c h1 h2=>I.ok.inj x y c (J x c h1) (J y c h2),fun x hx=>uh _ _ (.inl (hkind x hx)),fun x c z _=>(nomatch z),I.ok.hd,I.ok.frames,.inl rfl,
  fun b hb=>?_,fun b o e=>I.bs b o e,RW I.ok.bsz I.sz,fun b o e hb=>?_,fun b hb hx=>?_,I.stack,fun b hb=>I.stkFree b hb⟩,
  rfl,I.bare,Un.kept hk,⟨m,hn,fun i x v h1 h2 h3=>?_⟩,fun x c e=>?_,I.hok.fresh (oR _),fun x c e=>I.freeC x c (J x c e),fun p hp=>?_,I.hok.kept hk,?_,VY _⟩
 .obtain ⟨o,ho⟩:=hfo b hb;exact ⟨old b o ho,fun x c e=>(hfp b hb).2.2.2.2.1 x c (J x c e)⟩
 .rcases (hfp b hb).2.2.2.1 with z|z
  .exact I.ok.noex b o e z
  .exact absurd (VE (ID e) (RW I.ok.bsz z)) (XD _)
 .rcases nE.mp (I.stkSub b hx) with z|z
  .exact (hfp b hb).2.1 z
  .exact (hfp b hb).2.2.1 z
 .-- a captured name
  have L:(qy ix Z)[i]?=some (some v):=h2;unfold qy at L;rw [V0] at L;cases e:ix[i]? with
  | none=>rw [e] at L;cases L
  | some o =>
   rw [e] at L;cases o with
   | none=>cases L
   | some j =>
    obtain ⟨c1,c2⟩:=S.cap i j x e h1;have Y:(Z[j]?).getD none=some v:=VS L;have ej:Z[j]?=some (some v):=by
     cases q:Z[j]? with
     | none=>rw [q] at Y;cases Y
     | some w'=>rw [q] at Y;rw [<- Y];rfl
    have ko:=S.outs _ c2 rfl;obtain ⟨mX,hnX,hl⟩:=I.loc;have vis:Ev X.env.scope x:=by
     rcases ko with k|k
     .exact .inr (.inl k)
     .exact .inr (.inr k)
    obtain ⟨u,ru,lk⟩:=hl j x v c1 ej vis;refine ⟨u,ru,.inr ?_⟩;have hcel:∃ c,X.env.cells.lookup x=some c/\s.heap.IsCell c (some u):=by
     rcases lk with ⟨k,_⟩|⟨_,c,e1,e2⟩
     .rcases ko with k'|k'
      .have:X.env.kindOf x=some .cell:=k'
       rw [k] at this;cases this
      .have:X.env.kindOf x=some .free:=k'
       rw [k] at this;cases this
     .exact ⟨c,e1,e2⟩
    obtain ⟨c,e1,e2⟩:=hcel;obtain ⟨c',e3⟩:=uh (cells:=X.env.cells) scope.names [] (.inl c2);have e4:=J x c' e3;rw [e1] at e4;cases e4;refine ⟨?_,c,e3,cellK x c e1 _ e2⟩;rcases h3 with k|k|k
    .rcases ib (env:=X.env) k with z|⟨z,_⟩
     .exact (S.nolf x (mem_of_lookupK z) c2).elim
     .cases z
    .exact .inl k
    .exact .inr k
 .obtain ⟨v,z⟩:=I.cell x c (J x c e);exact ⟨v,cellK x c (J x c e) v z⟩
 .have hp':p∈X.pn++af:=by
   rcases MK.mp hp with z|z
   .exact z
   .cases z
  obtain ⟨e,n,ne,nf,d⟩:=I.pin p hp';refine ⟨hk _ _ e,n,old _ _ e,fun z=>?_,d⟩;rcases nE.mp (I.stkSub _ z) with q|q
  .exact ne q
  .exact nf q
 .show (qy ix Z).length=N.length;unfold qy;rw [iN];exact S.len
section
variable {prog:VH} {w:VZ} {A:VV} {R:Result->iF->Prop} {s:iF}
def AM {elt J iter:Wk} {ifs:List Wk} {scope:Scope} {pos:Pos} {it acc:gs} {env:Env} (I:Nat->iF->Prop)
  (turn:∀ n s,I n s->Le (VL prog w) A (pyNext it) (fun r Y=>match r with
   | none=>R (.ok .next) Y
   | some v=>Le (VL prog w) A (YW J it v) (fun _ s₁'=>Le (VL prog w) A (assign J env v) (fun _ s₂ =>
     Le (VL prog w) A (forIn ifs true fun c r=>if r=true then do let ok <- isTrue c env (eval c env);pure (YQ ok) else pure (YQ r)) (fun ok L =>
      if ok=true then Le (VL prog w) A (eval elt env) (fun x s₄ =>
       Le (VL prog w) A (call (.builtin "list.append") [acc,x]) (fun _ s₅=>∃ m,m < n/\I m s₅) (notedBy (VL prog w) A env fun e s'=>R (.error e) s') s₄) (notedBy (VL prog w) A env fun e s'=>R (.error e) s') L
      else ∃ m,m < n/\I m L) (notedBy (VL prog w) A env fun e s'=>R (.error e) s') s₂) (notedBy (VL prog w) A env fun e s'=>R (.error e) s') s₁') (notedBy (VL prog w) A env fun e s'=>R (.error e) s') Y) (notedBy (VL prog w) A env fun e s'=>R (.error e) s') s)
  (n:Nat) (h:I n s) :
  YU (VL prog w) A (.compLoop (.ListComp elt [⟨J,iter,ifs,0⟩] scope pos) 0 it acc env) R s:=by
 refine codeAny_loop rfl I (fun n s hI=>?_) n h;show Le _ A ((compTurn (.ListComp elt [⟨J,iter,ifs,0⟩] scope pos) 0 it acc env).onRaise (fun x=>do noteFrame x env;theTreesLotGoes x)) _ _ s;refine wpAny_noted ?_;rw [compTurn_list];refine bY (wpAny_standAt (bY (Wi (turn n s hI) (fun r Y h₁=>?_) fun _ _ h'=>h')));cases r with
 | none=>exact rW h₁
 | some v =>
  refine bY (Wi h₁ (fun _ s₁' h₁'=>?_) fun _ _ h'=>h');refine bY (Wi h₁' (fun _ s₂ h₂=>bY (Wi h₂ (fun ok L h₃=>?_) fun _ _ h'=>h')) fun _ _ h'=>h');cases ok with
  | false=>exact rW ⟨rfl,h₃⟩
  | true =>
   exact bY (bY (Wi h₃ (fun x s₄ h₄=>bY (Wi h₄ (fun _ s₅ h₅=>rW (rW ⟨rfl,h₅⟩)) fun _ _ h'=>h')) fun _ _ h'=>h'))
end
def Ol (X:Cx) (ifs:List Wk) (t:TT):Prop :=
 ∀ (af:abw) (s:iF) (Z:St) (H:Hp) (Q:Bool->Hp->Prop),Inv X af Z H s->t Z H Q ->
  Le (VL X.prog X.w) X.A (forIn ifs true fun c r=>if r=true then do let ok <- isTrue c X.env (eval c X.env);pure (YQ ok) else pure (YQ r)) (TP X af Z Q) X.xe s
def SR:TT:=fun _ H Q=>Q true H
def MP {X:Cx}:Ol X [] SR:=fun _ _ _ H _ I h=>wpAny_tests_nil ⟨H,I,h⟩
def Md {X:Cx} {c:Wk} {t:TT} (h:PT X c t):Ol X [c] t:=fun af s Z H Q I q=>wpAny_tests_one (h af s Z H Q I q)
def AO (g:TG) (tt:TT) (te:TE) (J:It) (σ0:St) (H1:Hp) (Q:VK):Prop:=∀ acc,H1 acc=none->∃ W:Nat->Nat->St->Hp->Prop,
 (∃ m,W 0 m σ0 (upd H1 acc (.lst [])))/\∀ i m σ' H',W i m σ' H' ->
  (J.stop i H'/\Q (.ref acc) H')\/(J.go i H'/\∃ M:St->Hp->Prop,(∀ Y H2,M Y H2->∃ m',m' < m/\W (i+1) m' Y H2)/\∀ x H2,J.yld i H' x H2->g x σ' H2 fun L H3=>tt L H3 fun b H4 =>
   if b=true then te L H4 fun v H5=>∃ xs,H5 acc=some (.lst xs)/\xs.length < IF/\M L (upd H5 acc (.lst (xs++[v]))) else M L H4)
def Fn (ix:List (Option Nat)) (wi:TI) (g:TG) (tt:TT) (te:TE):TE:=fun Z H Q=>wi Z H fun J H1=>AO g tt te J (qy ix Z) H1 Q
section
variable {X:Cx} {osc:Scope} {ON N:abv} {ix:List (Option Nat)} {scope:Scope} {tg elt iter:Wk} {ifs:List Wk} {pos:Pos} {wi:TI} {g:TG} {tt:TT} {te:TE}
def IO {af:abw} {Z σ':St} {H H':Hp} {s s':iF} {fp:abz} {cl:List (Str×Do)} (I:Inv X af Z H s) (L:∀ b∈fp,iI X af H b) (J:Inv (vM X N scope ⟨cl,s.heap.objs.size,s,H,fp,af⟩) [] σ' H' s') (ht:X.tn<=s'.toks) :
  Inv X af Z H' s'/\(∃ m,s'.heap.Ns s.heap.objs.size m)/\H' s.heap.objs.size=none/\iI X af H' s.heap.objs.size:=by
 have u:Un (HF X.stack) fp H H' s.heap s'.heap:=J.base;have I1:Inv X af Z H' s':=I.call' J.os u J.hok J.bare fun b Y=>⟨(L b Y).2.2.2.1,(L b Y).2.1,(L b Y).2.2.2.2.1,(L b Y).2.2.2.2.2⟩;obtain ⟨m,hn,_⟩:=J.loc;exact ⟨I1,⟨m,hn⟩,J.free,I.fpOk (oR _) J.free⟩
def zF {af:abw} {Z:St} {H:Hp} {s:iF} {it:Do} {fp:abz} {tn:Nat->Xj->Prop} {J:It} {Q:VK} {E:abx} {RR:gs->Do->Result->iF->Prop}
  (S:CScope osc ON N ix scope) (hE:X.env.scope=osc) (hO:X.N=ON) (hc:X.calm=true) (hg:∀ b,PG (vM X N scope b) tg g) (ht:∀ b,Ol (vM X N scope b) ifs tt)
  (he:∀ (s0:iF) (H0:Hp) (pl:abw) (s':iF) (σ':St) (H':Hp) (Q':VK) (acc:Do),Inv X af Z H0 s0->(∀ b∈fp,iI X af H0 b)->(∀ b∈fp,∃ o,(b,o)∈pl)->Inv (vM X N scope ⟨hU X.env.cells scope.names [],s0.heap.objs.size,s0,H0,fp,af⟩) ([]++pl) σ' H' s'->te σ' H' Q' ->
   Le (VL X.prog X.w) X.A (eval elt (compEnvC scope (hU X.env.cells scope.names []) s0.heap.objs.size X.env)) (EP (vM X N scope ⟨hU X.env.cells scope.names [],s0.heap.objs.size,s0,H0,fp,af⟩) ([]++pl) σ' Q') (notedBy (VL X.prog X.w) X.A (compEnvC scope (hU X.env.cells scope.names []) s0.heap.objs.size X.env) fun e s''=>X.tn<=s''.toks->RR (.ref acc) s0.heap.objs.size (.error e) s'') s')
  (I:Inv X af Z H s) (T:Turn X.prog X.w X.K tg J fp it tn) (st:tn 0 s.heap) (hfp:∀ b∈fp,iI X af H b) (q:AO g tt te J (qy ix Z) H Q)
  (hRR:∀ (acc C:Do) (H':Hp) (s':iF),Inv X af Z H' s'->(∃ m,s'.heap.Ns C m)->H' C=none->iI X af H' C->Q (.ref acc) H'->RR (.ref acc) C (.ok .next) s') :
  Le (VL X.prog X.w) X.A (newList []) (fun acc s₃=>Le (VL X.prog X.w) X.A (newFunctionEnv scope X.env.globals (hU X.env.cells scope.names []) [] X.env.qual none .none (some X.env)) (fun cenv s₄ =>
   YU (VL X.prog X.w) X.A (.compStart (.ListComp elt [⟨tg,iter,ifs,0⟩] scope pos) 0 (.ref it) acc { cenv with scope:=relabel scope X.env }) (RR acc cenv.locals) s₄) E s₃) E s:=by
 refine W4 (wpAny_newFunctionEnv S.nocell (by intro y hy;simp at hy) (fun h₁ hns₁ hsb₁=>?_) S.kind);dsimp only at hns₁ hsb₁ ⊢
 have I3:Inv X af Z (upd H s.heap.objs.size (.lst [])) { s with heap:=s.heap.push { cls:=.type "list",dict:=none,data:=.seq ([]:abA).toArray } } :=
  I.laid (t':=s.toks) (fun b o e=>dO _ e) (oR _) (show cc X.prog X.w _ _ _ (.lst []) from ⟨VY _,[],_,.nil,CT _ rfl⟩)
 have hacc:H s.heap.objs.size=none:=I.hok.fresh (oR _);have hfo:∀ b∈fp,∃ o,s.heap.get? b=some o:=fun b L=>let ⟨o,e,_⟩:=T.obj 0 _ st b L;⟨o,e⟩;have fne:∀ b∈fp,b≠s.heap.objs.size:=fun b L=>let ⟨o,e⟩:=hfo b L;VI (ID e);have hfp3:∀ b∈fp,iI X af (upd H s.heap.objs.size (.lst [])) b:=fun b L=>⟨by rw [aU (fne b L)];exact (hfp b L).1,(hfp b L).2⟩;obtain ⟨W,⟨m0,w0⟩,turn⟩:=q s.heap.objs.size hacc;generalize hH2:s.heap.push { cls:=.type "list",dict:=none,data:=.seq ([]:abA).toArray }=h2 at *;have hk1:∀ b o,h2.get? b=some o->h₁.get? b=some o:=fun b o e=>hsb₁.extBut b o (VI (ID e)) (dO _ e);have old:∀ b o,s.heap.get? b=some o->h2.get? b=some o:=fun b o e=>by rw [<- hH2];exact dO _ e
 have fin:∀ s₄:iF,s₄={ s with heap:=h₁,toks:=s₄.toks }->X.tn<=s₄.toks->YU (VL X.prog X.w) X.A (.compLoop (.ListComp elt [⟨tg,iter,ifs,0⟩] scope pos) 0 (.ref it) (.ref s.heap.objs.size) (compEnvC scope (hU X.env.cells scope.names []) h2.objs.size X.env))
   (RR (.ref s.heap.objs.size) h2.objs.size) s₄:=by
  intro s₄ e4 ht4;refine ji ht4 ?_;have J0:Inv (vM X N scope ⟨hU X.env.cells scope.names [],h2.objs.size,{ s with heap:=h2 },upd H s.heap.objs.size (.lst []),fp,af⟩) [] (qy ix Z) (upd H s.heap.objs.size (.lst [])) s₄ :=
   L7 (s:={ s with heap:=h2 }) I3 hE hO S hfp3 (fun b L=>let ⟨o,e⟩:=hfo b L;⟨o,old b o e⟩) hns₁ hk1 e4
  generalize hX:vM X N scope ⟨hU X.env.cells scope.names [],h2.objs.size,{ s with heap:=h2 },upd H s.heap.objs.size (.lst []),fp,af⟩=Y at J0;have eE:compEnvC scope (hU X.env.cells scope.names []) h2.objs.size X.env=Y.env:=by rw [<- hX];rfl
  have eP:X.prog=Y.prog:=by rw [<- hX];rfl
  have eW:X.w=Y.w:=by rw [<- hX];rfl
  have eA:X.A=Y.A:=by rw [<- hX];rfl
  have eK:X.K=Y.K:=by rw [<- hX];rfl
  have eC:Y.calm=true:=by rw [<- hX];exact hc
  have T':Turn Y.prog Y.w Y.K tg J fp it tn:=by rw [<- eP,<- eW,<- eK];exact T
  have Py:tn 0 s₄.heap:=T.keep _ _ _ st fun b L o e=>by rw [e4];exact hk1 b o (old b o e)
  have fpY:∀ {H':Hp},(∀ b∈fp,H' b=none)->∀ b∈fp,iI Y [] H' b:=fun {H'} hn b L=>by
   rw [<- hX];have f:=hfp b L;refine ⟨hn b L,?_,?_,.inl L,?_,?_⟩
   .have:=J0.ok.exf b (by rw [<- hX];exact L)
    rw [<- hX] at this;exact this.1
   .have:=J0.ok.exfs b (by rw [<- hX];exact L)
    rw [<- hX] at this;exact this
   .have:=J0.ok.exf b (by rw [<- hX];exact L)
    rw [<- hX] at this;exact this.2
   .intro p hp;have hp':p∈X.pn++af:=by
     rcases MK.mp hp with z|z
     .exact z
     .cases z
    exact f.2.2.2.2.2 p hp'
  have accne:s.heap.objs.size∉fp:=fun z=>fne _ z rfl;have never:∀ e s',Y.xe e s'->False:=by rw [<- hX];exact fun _ _ z=>z
  have hgY:PG Y tg g:=by rw [<- hX];exact hg _
  have htY:Ol Y ifs tt:=by rw [<- hX];exact ht _
  rw [eE,eP,eW,eA];refine AM (fun n s'=>∃ i σ' H',Inv Y [] σ' H' s'/\tn i s'.heap/\(∀ b∈fp,H' b=none)/\W i n σ' H') ?_ m0 ⟨0,qy ix Z,_,J0,Py,fun b L=>(hfp3 b L).1,w0⟩;rintro n s5 ⟨i,σ5,H5,I5,st5,fr5,w5⟩;rcases turn i n σ5 H5 w5 with ⟨stop,qn⟩|⟨go,M,hM,step⟩
  .refine eO (T'.done Y rfl rfl rfl eC i [] s5 σ5 H5 _ I5 (fpY fr5) st5 stop) fun r s6 ⟨hr,I6⟩=>?_;subst hr;have I6':=I6;rw [<- hX] at I6';intro htk;obtain ⟨a1,a2,a3,a4⟩:=IO (s:={ s with heap:=h2 }) I3 hfp3 I6' htk;exact hRR _ _ H5 s6 a1 a2 a3 a4 qn
  .refine eO (T'.item Y rfl rfl rfl eC i [] s5 σ5 H5 _ I5 (fpY fr5) st5 go) fun r s6 ⟨u,hr,h6⟩=>?_;subst hr;refine eO h6 fun _ s7 ⟨x,H7,I7,r7,y7,st7,fr7⟩=>?_;have I7':=I7.pinned (fpY fr7) (T.obj _ _ st7);refine Wi (hgY _ s7 σ5 H7 x u _ I7' r7 (step x H7 y7)) (fun _ s8 ⟨σ8,H8,I8,q8⟩=>?_) fun e s' z=>(never e s' z).elim;refine Wi (htY _ s8 σ8 H8 _ I8 q8) (fun ok s9 ⟨H9,I9,q9⟩=>?_) fun e s' z=>(never e s' z).elim;have again:∀ {σa:St} {Ha:Hp} {sa:iF},Inv Y ([]++sO fp s7.heap) σa Ha sa->M σa Ha->∃ m,m < n/\∃ i σ' H',Inv Y [] σ' H' sa/\tn i sa.heap/\(∀ b∈fp,H' b=none)/\W i m σ' H':=fun {σa Ha sa} Ia na=>by
    obtain ⟨m',hm,wa⟩:=hM σa Ha na;refine ⟨m',hm,i+1,σa,Ha,Ia.unpinned,T.keep _ _ _ st7 fun b L o e=>(Ia.pin (b,o) (VG _ (VG _ (iS L e)))).1,fun b L=>?_,wa⟩;obtain ⟨o,e,d⟩:=T.obj _ _ st7 b L;exact (Ia.pin (b,o) (VG _ (VG _ (iS L e)))).2.1
   cases ok with
   | false =>
    rw [abo lT] at q9 ⊢;exact again I9 q9
   | true =>
    rw [abn rfl] at q9 ⊢;have I9':=I9;rw [<- hX] at I9';rw [<- eP,<- eW,<- eA,<- eE];refine Wi (he { s with heap:=h2 } _ _ s9 σ8 H9 _ _ I3 hfp3 (fun b L=>let ⟨o,e,d⟩:=T.obj _ _ st7 b L;⟨o,iS L e⟩) I9' q9) (fun y sb ⟨vb,Hb,Ib',rb,xs,hx,hz,nb⟩=>?_) fun _ _ z=>z;have Ib:Inv Y ([]++sO fp s7.heap) σ8 Hb sb:=by rw [<- hX];exact Ib'
    rw [eP,eW,eA];refine Wi (zy (X:=Y) _ sb σ8 Hb (.ref s.heap.objs.size) [vb] (.ref s.heap.objs.size) [y] (fun v H'=>M σ8 H') Ib rfl (.cons rb .nil) ⟨s.heap.objs.size,xs,vb,rfl,rfl,hx,hz,nb⟩) (fun _ sc ⟨vc,Hc,Ic,rc,nc⟩=>?_) fun e s' z=>(never e s' z).elim;exact again Ic nc
 exact codeAny_compStart_list (fin _ rfl (by walk_at "tok")) (T.self _ 0 _ _ _ (T.keep _ _ _ st fun b L o e=>hk1 b o (old b o e)) (fin _ rfl (by walk_at "tok")))
def Ie (S:CScope osc ON N ix scope) (hE:X.env.scope=osc) (hO:X.N=ON) (hc:X.calm=true) (hi:PI X tg iter wi) (hg:∀ b,PG (vM X N scope b) tg g) (ht:∀ b,Ol (vM X N scope b) ifs tt) (he:∀ b,PE (vM X N scope b) elt te)
  (hs:∀ x,WN iter X.env x=pure x:=by intro _;rfl):PE X (.ListComp elt [⟨tg,iter,ifs,0⟩] scope pos) (Fn ix wi g tt te):=by
 intro af s Z H Q I h;rw [eval_ListComp];have L:∀ y∈scope.names,y.2=.free->∃ c,X.env.cells.lookup y.1=some c:=fun y hy e=>I.ok.has y.1 (by subst hE;exact S.outs y hy e);refine wpAny_comprehension_free (use:=none) rfl hs (pI L) S.kind S.names (eO (hi af s Z H _ I h) fun v s1 h1=>eO h1 fun itv s2 h2=>?_);obtain ⟨it,fp,tn,J,H2,e,I2,T,st2,f2,q⟩:=h2;subst e;refine zF (RR:=fun acc C=>compPost (VL X.prog X.w) X.A X.xe none (EP X af Z Q) acc C) S hE hO hc hg ht (fun s0 H0 pl s' σ' H' Q' acc _ _ _ Y q'=>Wi (he _ _ s' σ' H' Q' Y q') (fun _ _ z=>z) fun _ _ z=>z.elim) I2 T st2 f2 q fun acc C H' s' Y hn hC fC q'=>?_;obtain ⟨m,hn⟩:=hn;refine ⟨m,hn,fun h' sb=>⟨.ref acc,H',?_,rfl,q'⟩⟩;obtain ⟨f0,f1,f2',f3,f4,f5⟩:=fC;exact Y.turned (t':=s'.toks) (fun b o hb e=>(sb.2 b hb).trans e) f0 f1 f3 f4 f5
def Dr {i:Nat} {x:Str} {Y pos':Pos} (hN:X.N.Nodup) (hx:X.N[i]?=some x) (hl:HB X.env.scope x) (S:CScope osc ON N ix scope) (hE:X.env.scope=osc) (hO:X.N=ON) (hc:X.calm=true) (hi:PI X tg iter wi) (hg:∀ b,PG (vM X N scope b) tg g) (ht:∀ b,Ol (vM X N scope b) ifs tt) (he:∀ b,PE (vM X N scope b) elt te)
  (hsw:XN (.ListComp elt [⟨tg,iter,ifs,0⟩] scope pos) (some (.Name x pos')) Y.line X.env=pure true:=by rfl)
  (hf:X.fn x=true\/X.env.scope.names.lookup x=some .local:=by walk_at"u")
  (hs:∀ x,WN iter X.env x=pure x:=by intro _;rfl):PS X (.Assign [.Name x pos'] (.ListComp elt [⟨tg,iter,ifs,0⟩] scope pos) Y) (BP (Fn ix wi g tt te) (tG i)):=by
 intro af s Z H D I h;rw [exec_Assign_Name_used _ _ _ _ hsw];refine bY (wpAny_standAt (bY ?_));have L:∀ y∈scope.names,y.2=.free->∃ c,X.env.cells.lookup y.1=some c:=fun y hy e=>I.ok.has y.1 (by subst hE;exact S.outs y hy e);show Le _ X.A (do let _ <- comprehension (.ListComp elt [⟨tg,iter,ifs,0⟩] scope pos) scope X.env _ (newList []) false (eval iter X.env) (some (assign (.Name x pos') X.env))) _ _ s;refine bY (Wi (wpAny_comprehension_free (use:=some (assign (.Name x pos') X.env)) (Q:=fun _ s'=>SP X af D .next s') rfl hs (pI L) S.kind S.names
  (eO (hi af s Z H _ I h) fun v s1 h1=>eO h1 fun itv s2 h2=>?_)) (fun _ s' hq=>rW (rW hq)) fun _ _ e=>e)
 obtain ⟨it,fp,tn,J,H2,e,I2,T,st2,f2,q⟩:=h2;subst e;refine zF (RR:=fun acc C=>compPost (VL X.prog X.w) X.A X.xe (some (assign (.Name x pos') X.env)) (fun _ s'=>SP X af D .next s') acc C) S hE hO hc hg ht (fun s0 H0 pl s' σ' H' Q' acc _ _ _ I' q'=>Wi (he _ _ s' σ' H' Q' I' q') (fun _ _ z=>z) fun _ _ z=>z.elim) I2 T st2 f2 q fun acc C H' s' I' hn hC fC q'=>?_;obtain ⟨m,hn⟩:=hn;have hob:∃ o,s'.heap.get? C=some o/\∀ v,o.data≠.cell v:=by
  obtain ⟨o,es,ep,ho,hd,_⟩:=hn;exact ⟨o,ho,fun v z=>by rw [hd] at z;cases z⟩
 have only:∀ b∈[C],b=C:=fun b hb=>by simpa using hb
 have I1:=I'.pinned (fp:=[C]) (fun b hb=>(only b hb) ▸ fC) (fun b hb=>(only b hb) ▸ hob);refine Wi (EH (pos:=pos') hN hx hl hf (af++sO [C] s'.heap) s' Z H' (.ref acc) (.ref acc) D.nx I1 rfl q') (fun _ s'' ⟨σ2,H2,I2',q2⟩=>?_) fun _ _ z=>z;obtain ⟨o,ho,hd⟩:=hob;have pn:=I2'.pin (C,o) (VG _ (VG _ (iS (by simp) ho)));refine ⟨m,hn.at' fun o' e=>by rw [ho] at e;cases e;exact pn.1,fun h' sb=>⟨σ2,H2,?_,q2⟩⟩;obtain ⟨f0,f1,f2',f3,f4,f5⟩:=fC;exact I2'.unpinned.turned (t':=s''.toks) (fun b o hb e=>(sb.2 b hb).trans e) pn.2.1 f1 f3 f4 f5
end
def xF {P:VH} {w:VZ} {K:aT} {tg:Wk} {it:Do} {n:Nat} {St:Nat->Xj->Prop} {Pv:Nat->gs->Prop} {J:It} (W:∀ A:VV,A.handled=none->Walks P w A it [it] [it] n Pv St)
  (ob:∀ i h,St i h->∃ (o:Obj) (nm:String) (vs:Array gs),h.get? it=some o/\o.cls=.type nm/\o.data=.fields vs/\["enumerate","zip","dict_itemiterator","dict_reverseitemiterator","odict_iterator","itertools.zip_longest","itertools.pairwise"].contains nm=false)
  (go:∀ i H,J.go i H->i < n) (yl:∀ i H u,J.go i H->Pv i u->∃ x,bq x u/\J.yld i H x H) (dn:∀ i h H,J.stop i H->St i h->St n h)
  (self:∀ (A:VV) (i:Nat) (s:iF) (Q:abx) (E:abx),St i s.heap->Q (.ref it) s->Le (VL P w) A (aaB (.ref it)) Q E s):Turn P w K tg J [it] it St where
 mem:=by simp
 obj:=fun i h st b L=>by
  have e:b=it:=by simpa using L
  subst e;obtain ⟨o,nm,vs,h1,h2,h3,h4⟩:=ob i h st;exact ⟨o,h1,fun v z=>by rw [h3] at z;cases z⟩
 keep:=fun i h h' st k=>(W {} rfl).frame i h h' st fun b L o e=>k b L o e
 item:=by
  intro X hP hw hK hc i af s Z H E I hf st hg;subst hP hw hK;obtain ⟨f0,f1,f2,f3,f4,f5⟩:=hf it (by simp);refine bi I.tk ((W X.A (I.ok.hd hc)).item i s _ _ (go i H hg) st fun v h' tk hv Y kk htk=>?_);have I1:Inv X af Z H { s with heap:=h',toks:=tk }:=I.turned (fun b o L e=>kk b o (by simpa using L) e) f0 f1 f3 f4 f5;obtain ⟨x,rx,yx⟩:=yl i H v hg hv;obtain ⟨o,nm,vs,h1,h2,h3,h4⟩:=ob (i+1) h' Y;exact ⟨v,rfl,Ch (s:={ s with heap:=h',toks:=tk }) h1 h2 h3 h4 ⟨x,H,I1,rx,yx,Y,fun b L=>(hf b L).1⟩⟩
 done:=by
  intro X hP hw hK hc i af s Z H E I hf st hg;subst hP hw hK;obtain ⟨f0,f1,f2,f3,f4,f5⟩:=hf it (by simp);exact bi I.tk ((W X.A (I.ok.hd hc)).done s _ _ (dn i s.heap H hg st) fun h' tk kk htk=>⟨rfl,I.turned (fun b o L e=>kk b o (by simpa using L) e) f0 f1 f3 f4 f5⟩)
 self:=self
def Qq (z:Str):It:=⟨fun i _=>i < z.length,fun i H x H'=>H'=H/\∃ c,z.cps[i]?=some c/\x=.str ⟨#[c]⟩,fun i _=>i=z.length⟩
def Kj {z:Str} {i:Nat} {H:Hp} {u:gs} (h:SignAt z i u):∃ x,bq x u/\(Qq z).yld i H x H:=by
 obtain ⟨c,t,J,rfl⟩:=h;exact ⟨.str ⟨#[c]⟩,⟨t,rfl⟩,rfl,c,J,rfl⟩
def DD {P:VH} {w:VZ} {K:aT} {tg:Wk} (it:Do) (z:Str) (t:Tok):Turn P w K tg (Qq z) [it] it (fun i h=>h.IsStrIter it "str_ascii_iterator" z t i) :=
 xF (n:=z.cps.size) (Pv:=SignAt z) (fun A L=>Walks.strAscii L it z t) (fun i h ⟨o,e,c,d⟩=>⟨o,_,_,e,c,d,by decide⟩) (fun i H h=>h) (fun i H u _ h=>Kj h) (fun i h H e st=>by
  have J:i=z.cps.size:=e;rw [<- J];exact st) fun A i s Q E st h=>wpAny_pyIter_striter_ascii st h
def Hj {P:VH} {w:VZ} {K:aT} {tg:Wk} (it:Do) (z:Str) (t:Tok):Turn P w K tg (Qq z) [it] it (fun i h=>h.IsStrIter it "str_iterator" z t i) :=
 xF (n:=z.cps.size) (Pv:=SignAt z) (fun A L=>Walks.strWide L it z t) (fun i h ⟨o,e,c,d⟩=>⟨o,_,_,e,c,d,by decide⟩) (fun i H h=>h) (fun i H u _ h=>Kj h) (fun i h H e st=>by
  have J:i=z.cps.size:=e;rw [<- J];exact st) fun A i s Q E st h=>wpAny_pyIter_striter_wide st h
def L9 (bs:List Bool):(W1 bs.length).all (fun i=>(bs[i]?).getD true)=bs.all id:=by
 rw [Xw,WD,WD];constructor
 .intro h b hb;obtain ⟨i,hi,e⟩:=List.getElem_of_mem hb
  have:=h i (Z7.mpr hi)
  rw [BY hi,e] at this;exact this
 .intro h i hi;have J:=Z7.mp hi;rw [BY J];exact h _ (Xn J)
section
variable {X:Cx}
def Oo (K:aT) (xs:abB) (H:Hp) (Q:VK):Prop:=match xs with
 | [.ref p]=>∃ bs:List Bool,iA K H p (bs.map V.bl)/\Q (.bl (bs.all id)) H
 | _=>False
def dC (K:aT) (hc:X.calm=true) (hK:X.K=K:=by rfl):ce X (.builtin "all") (Oo K):=by
 subst hK;intro af s Z H xs us Q I r h;unfold Oo at h;split at h
 case h_2=>exact h.elim
 rename_i p;obtain ⟨bs,hq,q⟩:=h;obtain ⟨u,rfl,rx⟩:=kQ r;cases rx;obtain ⟨its,rv,Y,hz⟩:=I.list hq;have hh:X.A.in1.handled=none:=I.ok.hd hc;refine bi I.tk (call_all_walk (wpAny_pyIter_list Y.isList ?_));have hne:p≠s.heap.objs.size:=by
  obtain ⟨o,ho,_⟩:=Y.isList;exact VI (ID ho)
 refine ⟨s.heap.objs.size,[s.heap.objs.size,p],[s.heap.objs.size],its.toArray.size,_,_,fun i=>(bs[i]?).getD true,rfl,Walks.list hh _ p hne its.toArray,⟨⟨_,CT _ rfl,rfl,rfl⟩,Heap.IsList.push Y.isList _⟩,?_,?_⟩
 .intro i v s' Q' E' hv hQ';have J:its[i]?=some v:=by simpa using hv
  have hi:i < its.length:=(VX.mp J).1;have L:=rv.length;rw [iN] at L;have hb:(bs.map V.bl)[i]?=some (V.bl bs[i]):=by
   rw [V0,BY (by omega)];rfl
  obtain ⟨u,hu,ru⟩:=rv.get hb;rw [J] at hu;cases hu;cases ru;have hQ2:Q' bs[i] s':=by
   have e:(bs[i]?).getD true=bs[i]:=by rw [BY (by omega)];rfl
   rw [<- e];exact hQ'
  exact XB hQ2
 .intro h' tk hk;have I1:Inv X af Z H { s with heap:=s.heap.push { cls:=.type "list_iterator",data:=.fields #[.ref p,.int 0 0] } }:=I.kept (t':=s.toks) fun b o e=>dO _ e;have e1:(W1 its.toArray.size).all (fun i=>(bs[i]?).getD true)=bs.all id:=by
   have L:=rv.length;rw [iN] at L;rw [tx,<- L];exact L9 bs
  rw [e1];obtain ⟨f0,f1,f2,f3,f4,f5⟩:=I.fpOk (b:=s.heap.objs.size) (oR _) (I.hok.fresh (oR _));exact fun htk=>⟨.bl (bs.all id),H,I1.turned (fun b o hb e=>hk b o (by simpa using hb) e) f0 f1 f3 f4 f5,rfl,q⟩
end
def PE.imp {X:Cx} {e:Wk} {t t':TE} (h:PE X e t) (i:∀ Z H Q,t' Z H Q->t Z H Q):PE X e t':=fun af s Z H Q I q=>h af s Z H Q I (i Z H Q q)
def ga.imp {X:Cx} {f:gs->gs->Sem gs} {r r':R2} (h:ga X f r) (i:∀ x y H Q,r' x y H Q->r x y H Q):ga X f r':=fun af s Z H x y v u Q I a b q=>h af s Z H x y v u Q I a b (i x y H Q q)
def Ld.imp {X:Cx} {f:gs->Sem gs} {r r':V->Hp->VK->Prop} (h:Ld X f r) (i:∀ x H Q,r' x H Q->r x H Q):Ld X f r':=fun af s Z H x v Q I a q=>h af s Z H x v Q I a (i x H Q q)
def ce.imp {X:Cx} {f:gs} {r r':abB->Hp->VK->Prop} (h:ce X f r) (i:∀ xs H Q,r' xs H Q->r xs H Q):ce X f r':=fun af s Z H xs us Q I a q=>h af s Z H xs us Q I a (i xs H Q q)
def CY.imp {X:Cx} {r r':R2} (h:CY X r) (i:∀ x y H Q,r' x y H Q->r x y H Q):CY X r':=fun value J af s Z H x y v u Q I Y ry q L=>h value J af s Z H x y v u Q I Y ry (i x y H Q q) L
def BX.imp {X:Cx} {r r':V->Option Int->Option Int->Hp->VK->Prop} (h:BX X r) (i:∀ x l u H Q,r' x l u H Q->r x l u H Q):BX X r':=fun af s Z H x v L Y lo hi sl Q I rx hs pl J q=>h af s Z H x v L Y lo hi sl Q I rx hs pl J (i x lo hi H Q q)
section
variable {X:Cx} {a b:Wk} {ta tb:TE} {pos:Pos} {rest:List Wk}
def yk (o:Option (Option V)) (H:Hp) (Q:VK):Prop:=match o with
 | some (some v)=>Q v H
 | _=>False
def Ab (i:Nat):TE:=fun Z H Q=>yk Z[i]? H Q
def qv (i:Nat) {x:Str} {pos:Pos} (Y:X.N[i]?=some x:=by rfl) (L:Ev X.env.scope x:=by walk_at"v") (hd:abD x:=by decide)
  (J:(x==("__classdict__":Str))=false:=by decide):PE X (.Name x pos) (Ab i):=(Jl Y L hd J).imp fun Z H Q q=>by
 unfold Ab yk at q;split at q
 .rename_i v e;exact ⟨v,e,q⟩
 .exact q.elim
def UQ (tb:TE) (Z:St) (Q:VK):VK:=fun x H1=>match x with
 | .bl c=>if c=true then tb Z H1 Q else Q (.bl false) H1
 | _=>False
def R6 (ta tb:TE):TE:=fun Z H Q=>ta Z H (UQ tb Z Q)
def kOr (tb:TE) (Z:St) (Q:VK):VK:=fun x H1=>match x with
 | .bl c=>if c=true then Q (.bl true) H1 else tb Z H1 Q
 | _=>False
def Vv (ta tb:TE):TE:=fun Z H Q=>ta Z H (kOr tb Z Q)
def T9 (Q:VK):VK:=fun x H1=>match x with
 | .bl c=>Q (.bl (!c)) H1
 | _=>False
def Rb (ta:TE):TE:=fun Z H Q=>ta Z H (T9 Q)
def Pp (Y:PE X a ta) (hb:PE X (.BoolOp .And (b::rest) pos) tb):PE X (.BoolOp .And (a::b::rest) pos) (R6 ta tb):=by
 intro af s Z H Q I h;refine BoolOp_and (eO (Y af s Z H _ I h) fun v s1 hh=>qQ hh fun x H1 L r1 J=>?_);cases x with
 | bl c =>
  cases r1;refine XB ?_;cases c with
  | true=>exact hb af s1 Z H1 Q L J
  | false=>exact ⟨.bl false,H1,L,rfl,J⟩
 | _=>exact J.elim
def QO (Y:PE X a ta) (hb:PE X (.BoolOp .Or (b::rest) pos) tb):PE X (.BoolOp .Or (a::b::rest) pos) (Vv ta tb):=by
 intro af s Z H Q I h;refine BoolOp_or (eO (Y af s Z H _ I h) fun v s1 hh=>qQ hh fun x H1 L r1 J=>?_);cases x with
 | bl c =>
  cases r1;refine XB ?_;cases c with
  | false=>exact hb af s1 Z H1 Q L J
  | true=>exact ⟨.bl true,H1,L,rfl,J⟩
 | _=>exact J.elim
def PR (Y:PE X a ta):PE X (.UnaryOp .Not a pos) (Rb ta):=by
 intro af s Z H Q I h;refine UnaryOp_ (eO (Y af s Z H _ I h) fun v s1 hh=>qQ hh fun x H1 L r1 J=>?_);cases x with
 | bl c =>
  cases r1;exact not_of (XB ⟨.bl (!c),H1,L,rfl,J⟩)
 | _=>exact J.elim
def NQ (Q:Bool->Hp->Prop):VK:=fun x H'=>match x with
 | .bl k=>Q k H'
 | _=>False
def NM (t:TE):TT:=fun Z H Q=>t Z H (NQ Q)
def L0 {op:CmpOp} {r:R2} (ho:ga X (VT op) r) (ha:PE X a ta) (hb:PE X b tb) (hm:Xp op b=false):PT X (.Compare a [op] [b] pos) (NM (D9 r ta tb)):=by
 intro af s Z H Q I h;refine wpAny_isTrue_Compare1 (eO (ha af s Z H _ I h) fun v s1 J=>qQ J fun x H1 I1 r1 Y=>eO (hb af s1 Z H1 _ I1 Y) fun u s2 J=>qQ J fun y H2 I2 r2 q2 =>
  eO (ho af s2 Z H2 x y v u _ I2 r1 r2 q2) fun c s3 J=>qQ J fun z H3 I3 r3 L=>?_) hm
 cases z with
 | bl k =>
  cases r3;exact XB ⟨H3,I3,L⟩
 | _=>exact L.elim
def U7 (K:aT) (Q:Bool->Hp->Prop):VK:=fun x H=>match x with
 | .non=>Q false H
 | .bl b=>Q b H
 | .int i=>Q (i != 0) H
 | .str y=>y.length<=IF/\Q ((y.length:Int) != 0) H
 | .ref p=>((∃ xs,iA K H p xs/\Q (!xs.isEmpty) H)\/(∃ xs,mf K H p xs/\Q (!xs.isEmpty) H))\/∃ kvs,H p=some (.dK kvs)/\Q (!kvs.isEmpty) H
 | _=>False
def IZ (K:aT) (ta:TE):TT:=fun Z H Q=>ta Z H (U7 K Q)
def KB (K:aT) (ha:PE X a ta) (he:∀ J,isTrue a X.env J=(do let v <- J;aaM a.pos;holding [v] (truthy v))) (hK:X.K=K:=by rfl) :
  PT X a (IZ K ta):=by
 subst hK;intro af s Z H Q I h;refine isTrue_plain (eO (ha af s Z H _ I h) fun v s1 hh=>qQ hh fun x H1 Y r1 L=>OG af s1 Z H1 x v Q Y r1 ?_) (he _);cases x with
 | non=>exact ⟨_,rfl,L⟩
 | bl b=>exact ⟨_,rfl,L⟩
 | int i=>exact ⟨_,rfl,L⟩
 | str y=>exact ⟨_,⟨L.1,rfl⟩,L.2⟩
 | ref p =>
  rcases L with (⟨xs,h1,h2⟩|⟨xs,h1,h2⟩)|⟨xs,h1,h2⟩
  .exact ⟨_,.inl ⟨xs,h1,rfl⟩,h2⟩
  .exact ⟨_,.inr (.inl ⟨xs,h1,rfl⟩),h2⟩
  .exact ⟨_,.inr (.inr ⟨xs,h1,rfl⟩),h2⟩
 | _=>exact L.elim
def OK:R2:=fun x y H Q=>match x,y with
 | .int i,.int j=>Q (.int (i - j)) H
 | _,_=>False
def JL:ga X (W8 .Sub) OK:=P5.imp fun x y H Q q=>by
 unfold OK at q;split at q
 .exact ⟨_,_,rfl,rfl,q⟩
 .exact q.elim
def OP:R2:=fun x y H Q=>match x,y with
 | .int i,.int j=>Jh i j/\Q (.int (i/j)) H
 | _,_=>False
def fR:ga X (W8 .FloorDiv) OP:=Mz.imp fun x y H Q q=>by
 unfold OP at q;split at q
 .exact ⟨_,_,rfl,rfl,q.1,q.2⟩
 .exact q.elim
def O5:R2:=fun x y H Q=>match x,y with
 | .int i,.int j=>0 < j/\Q (.int (i % j)) H
 | _,_=>False
def cy:ga X (W8 .Mod) O5:=Qf.imp fun x y H Q q=>by
 unfold O5 at q;split at q
 .exact ⟨_,_,rfl,rfl,q.1,q.2⟩
 .exact q.elim
def P0:R2:=fun x y H Q=>match x,y with
 | .int i,.int j=>KG i j/\Q (.int (i ^ j.toNat)) H
 | _,_=>False
def B4:ga X (W8 .Pow) P0:=Oe.imp fun x y H Q q=>by
 unfold P0 at q;split at q
 .exact ⟨_,_,rfl,rfl,q.1,q.2⟩
 .exact q.elim
def Qi (x:V) (H:Hp) (Q:VK):Prop:=match x with
 | .int i=>Q (.int (-i)) H
 | _=>False
def Gg:Ld X (unaryOp .USub) Qi:=PU.imp fun x H Q q=>by
 unfold Qi at q;split at q
 .exact ⟨_,rfl,q⟩
 .exact q.elim
def GE:ga X (VT .LtE) (fun x y H Q=>∃ i j,x=.str i/\y=.str j/\Q (.bl (!decide (j.cps.toList < i.cps.toList))) H):=by
 intro af s Z H x y v u Q I J L h;obtain ⟨i,j,rfl,rfl,q⟩:=h;obtain ⟨t,rfl⟩:=J;obtain ⟨t',rfl⟩:=L;exact P.le_str (aY I q rfl)
def G0:ga X (VT .GtE) (fun x y H Q=>∃ i j,x=.str i/\y=.str j/\Q (.bl (!decide (i.cps.toList < j.cps.toList))) H):=by
 intro af s Z H x y v u Q I J L h;obtain ⟨i,j,rfl,rfl,q⟩:=h;obtain ⟨t,rfl⟩:=J;obtain ⟨t',rfl⟩:=L;exact P.ge_str (aY I q rfl)
def GH:ga X (VT .Gt) (fun x y H Q=>∃ i j,x=.str i/\y=.str j/\Q (.bl (decide (j.cps.toList < i.cps.toList))) H):=by
 intro af s Z H x y v u Q I J L h;obtain ⟨i,j,rfl,rfl,q⟩:=h;obtain ⟨t,rfl⟩:=J;obtain ⟨t',rfl⟩:=L;exact P.gt_str (aY I q rfl)
def U4:R2:=fun x y H Q=>match x,y with
 | .int i,.int j=>Q (.bl (decide (i < j))) H
 | .str i,.str j=>Q (.bl (decide (i.cps.toList < j.cps.toList))) H
 | _,_=>False
def UT:R2:=fun x y H Q=>match x,y with
 | .int i,.int j=>Q (.bl (decide (i<=j))) H
 | .str i,.str j=>Q (.bl (!decide (j.cps.toList < i.cps.toList))) H
 | _,_=>False
def UI:R2:=fun x y H Q=>match x,y with
 | .int i,.int j=>Q (.bl (decide (j < i))) H
 | .str i,.str j=>Q (.bl (decide (j.cps.toList < i.cps.toList))) H
 | _,_=>False
def UA:R2:=fun x y H Q=>match x,y with
 | .int i,.int j=>Q (.bl (decide (j<=i))) H
 | .str i,.str j=>Q (.bl (!decide (i.cps.toList < j.cps.toList))) H
 | _,_=>False
def Je:ga X (VT .Lt) U4:=(Rx.or Gk).imp fun x y H Q q=>by
 unfold U4 at q;split at q
 .exact .inl ⟨_,_,rfl,rfl,q⟩
 .exact .inr ⟨_,_,rfl,rfl,q⟩
 .exact q.elim
def RU:ga X (VT .LtE) UT:=(Rc.or GE).imp fun x y H Q q=>by
 unfold UT at q;split at q
 .exact .inl ⟨_,_,rfl,rfl,q⟩
 .exact .inr ⟨_,_,rfl,rfl,q⟩
 .exact q.elim
def Qo:ga X (VT .Gt) UI:=(Ra.or GH).imp fun x y H Q q=>by
 unfold UI at q;split at q
 .exact .inl ⟨_,_,rfl,rfl,q⟩
 .exact .inr ⟨_,_,rfl,rfl,q⟩
 .exact q.elim
def TD:ga X (VT .GtE) UA:=(Rn.or G0).imp fun x y H Q q=>by
 unfold UA at q;split at q
 .exact .inl ⟨_,_,rfl,rfl,q⟩
 .exact .inr ⟨_,_,rfl,rfl,q⟩
 .exact q.elim
def Ju:ga X (VT .Is) (fun x y H Q=>∃ j,y=.bl j/\Q (.bl (decide (x=.bl j))) H):=by
 intro af s Z H x y v u Q I J L h;obtain ⟨j,rfl,q⟩:=h;cases L;cases x with
 | bl i=>cases J;exact Xr rfl (aY I q (by cases i <;> cases j <;> rfl))
 | non=>cases J;exact Xr rfl (aY I q (by simp))
 | int i=>obtain ⟨t,rfl⟩:=J;exact Xr rfl (aY I q (by simp))
 | str i=>obtain ⟨t,rfl⟩:=J;exact Xr rfl (aY I q (by simp))
 | byt i=>obtain ⟨t,rfl⟩:=J;exact Xr rfl (aY I q (by simp))
 | flt i=>obtain ⟨t,rfl⟩:=J;exact Xr rfl (aY I q (by simp))
 | ref i=>cases J;exact Xr rfl (aY I q (by simp))
 | ty i=>cases J;exact Xr rfl (aY I q (by simp))
def Br:ga X (VT .IsNot) (fun x y H Q=>∃ j,y=.bl j/\Q (.bl (!decide (x=.bl j))) H):=by
 intro af s Z H x y v u Q I J L h;obtain ⟨j,rfl,q⟩:=h;cases L;cases x with
 | bl i=>cases J;exact W5 rfl (aY I q (by cases i <;> cases j <;> rfl))
 | non=>cases J;exact W5 rfl (aY I q (by simp))
 | int i=>obtain ⟨t,rfl⟩:=J;exact W5 rfl (aY I q (by simp))
 | str i=>obtain ⟨t,rfl⟩:=J;exact W5 rfl (aY I q (by simp))
 | byt i=>obtain ⟨t,rfl⟩:=J;exact W5 rfl (aY I q (by simp))
 | flt i=>obtain ⟨t,rfl⟩:=J;exact W5 rfl (aY I q (by simp))
 | ref i=>cases J;exact W5 rfl (aY I q (by simp))
 | ty i=>cases J;exact W5 rfl (aY I q (by simp))
def EV:V->V->Bool
 | .non,.non=>true
 | .bl i,.bl j=>i==j
 | _,_=>false
def T5:R2:=fun x y H Q=>match y with
 | .non=>Q (.bl (EV x .non)) H
 | .bl j=>Q (.bl (EV x (.bl j))) H
 | _=>False
def DK:R2:=fun x y H Q=>match y with
 | .non=>Q (.bl (!EV x .non)) H
 | .bl j=>Q (.bl (!EV x (.bl j))) H
 | _=>False
def E5 (x:V):decide (x=.non)=EV x .non:=by cases x <;> simp [EV]
def Ko (x:V) (j:Bool):decide (x=.bl j)=EV x (.bl j):=by
 cases x with
 | bl i=>cases i <;> cases j <;> rfl
 | _=>simp [EV]
def KU:ga X (VT .Is) T5:=(Oa.or Ju).imp fun x y H Q q=>by
 unfold T5 at q;split at q
 .exact .inl ⟨rfl,by rw [E5];exact q⟩
 .exact .inr ⟨_,rfl,by rw [Ko];exact q⟩
 .exact q.elim
def qJ:ga X (VT .IsNot) DK:=(MQ.or Br).imp fun x y H Q q=>by
 unfold DK at q;split at q
 .exact .inl ⟨rfl,by rw [E5];exact q⟩
 .exact .inr ⟨_,rfl,by rw [Ko];exact q⟩
 .exact q.elim
def Qu (K:aT):R2:=fun x y H Q=>match x,y with
 | .str z,.int i=>∃ c,z.length<=IF/\atI z.cps.toList i=some c/\Q (.str ⟨#[c]⟩) H
 | .ref p,.int i=>∃ xs v,(iA K H p xs\/mf K H p xs)/\atI xs i=some v/\Q v H
 | _,_=>False
def UM:CY X (Qu X.K):=Pt.imp fun x y H Q q=>by
 unfold Qu at q;split at q
 .obtain ⟨c,h1,h2,J⟩:=q;exact .inr (.inr ⟨_,_,c,rfl,rfl,h1,h2,J⟩)
 .obtain ⟨xs,v,h1|h1,h2,J⟩:=q
  .exact .inl ⟨_,xs,_,v,rfl,rfl,h1,h2,J⟩
  .exact .inr (.inl ⟨_,xs,_,v,rfl,rfl,h1,h2,J⟩)
 .exact q.elim
def cF (K:aT) (J:X.K=K:=by rfl):CY X (Qu K):=by
 subst J;exact UM
def K9 (K:aT) (xs:abB) (H:Hp) (Q:VK):Prop:=match xs with
 | [.str y]=>y.length<=IF/\Q (.int y.length) H
 | [.ref p]=>∃ ys,(iA K H p ys\/mf K H p ys)/\Q (.int ys.length) H
 | _=>False
def Su:ce X (.builtin "len") (K9 X.K):=(Au.or A2).imp fun xs H Q q=>by
 unfold K9 at q;split at q
 .exact .inl ⟨_,rfl,q.1,q.2⟩
 .obtain ⟨ys,h1,h2⟩:=q;exact .inr ⟨_,ys,rfl,h1,h2⟩
 .exact q.elim
def jX (K:aT) (J:X.K=K:=by rfl):ce X (.builtin "len") (K9 K):=by
 subst J;exact Su
def Oc (xs:abB) (H:Hp) (Q:VK):Prop:=match xs with
 | [.int i]=>Q (.int (if i < 0 then -i else i)) H
 | _=>False
def Ve:ce X (.builtin "abs") Oc:=Ig.imp fun xs H Q q=>by
 unfold Oc at q;split at q
 .exact ⟨_,rfl,q⟩
 .exact q.elim
def Qd (xs:abB) (H:Hp) (Q:VK):Prop:=match xs with
 | [.int i,.int j]=>Q (.int (if j < i then j else i)) H
 | _=>False
def Uy (J:X.calm=true):ce X (.builtin "min") Qd:=(GS J).imp fun xs H Q q=>by
 unfold Qd at q;split at q
 .exact ⟨_,_,rfl,q⟩
 .exact q.elim
end
def bw:Wk->Bool
 | .Starred ..=>false
 | _=>true
def dl {e:Wk} {es:List Wk} {env:Env} (h:bw e=true):V2 (e::es) env=(false,eval e env)::V2 es env:=by
 cases e <;> first|rfl|cases h
def gi {env:Env} {pos:Pos}:∀ {es:List Wk},es.all bw=true->(X9 pos (V2 es env)).any (·.1)=false
 | [],_=>rfl
 | e::es,h=>by
  rw [Wz,V4] at h;rw [dl h.1];have J:=gi (env:=env) (pos:=pos) h.2;show (false||(X9 pos (V2 es env)).any (·.1))=false;rw [J];rfl
def LF {X:Cx} {e:Wk} {es:List Wk} {te:TE} {t:TA} (L:PE X e te) (J:PA X es t) (hn:bw e=true:=by rfl):PA X (e::es) (y3 te t):=Lw L J (dl hn)
section
variable {X:Cx} {x:Str} {p pos:Pos} {e:Wk} {es:List Wk} {t:TA} {id T:String} {r:abB->Hp->VK->Prop}
def Ut (hc:ce X (.builtin id) r) (Y:X.mg x=none) (L:VO x=some (.builtin id)) (ha:PA X (e::es) t) (hg:Gl X x:=by rfl) (h1:bw e=true:=by rfl) (h2:es.all bw=true:=by rfl) (hn:x≠"__name__":=by decide) (J:abD x:=by decide) :
  PE X (.Call (.Name x p) (e::es) [] pos) (Qn r t):=Jk hc hg Y L ha hn J (dl h1) (gi h2)
def Uw (hc:ce X (.type T) r) (Y:X.mg x=none) (L:VO x=some (.type T)) (ha:PA X (e::es) t) (hg:Gl X x:=by rfl) (h1:bw e=true:=by rfl) (h2:es.all bw=true:=by rfl) (hn:x≠"__name__":=by decide) (J:abD x:=by decide) :
  PE X (.Call (.Name x p) (e::es) [] pos) (Qn r t):=GT hc hg Y L ha hn J (dl h1) (gi h2)
end
def bW:VO "len"=some (.builtin "len"):=by trivial
def i8:VO "all"=some (.builtin "all"):=by trivial
def Oz:VO "abs"=some (.builtin "abs"):=by trivial
def aO:VO "isinstance"=some (.builtin "isinstance"):=by trivial
def Pr:VO "min"=some (.builtin "min"):=by trivial
def oT:VO "str"=some (.type "str"):=by trivial
def Jw:VO "int"=some (.type "int"):=by trivial
def EK:VO "bool"=some (.type "bool"):=by trivial
def oP:VO "list"=some (.type "list"):=by trivial
def ip:VO "tuple"=some (.type "tuple"):=by trivial
def kh:VO "dict"=some (.type "dict"):=by trivial
def Po:VO "zip"=some (.type "zip"):=by trivial
def zP:VO "enumerate"=some (.type "enumerate"):=by trivial
def OH:VO "set"=some (.type "set"):=by trivial
def Rh {X:Cx} {x:Str} {n:String} {pos:Pos} (L:X.mg x=none) (J:VO x=some (.type n)) (Y:Gl X x:=by rfl) (hn:x≠"__name__":=by decide) (hd:abD x:=by decide):PE X (.Name x pos) (tC (.ty n)) :=
 LI (v:=.ty n) Y L J rfl hn hd
def mN (T C:String):Bool:=T==C||(T=="bool"&&C=="int")
def pG (C:String):Bool:=C=="str"||C=="int"||C=="bool"||C=="list"||C=="tuple"||C=="dict"
def l6 {K:aT} {T C:String} (Y:T="NoneType"\/T="bool"\/T="int"\/T="str"\/T="list"\/T="tuple"\/T="dict") (L:pG C=true):XX K (.type T) (.type C)=some (mN T C):=by
 have J:C="str"\/C="int"\/C="bool"\/C="list"\/C="tuple"\/C="dict":=by
  unfold pG at L;simp only [Bool.or_eq_true,beq_iff_eq] at L;rcases L with ((((h|h)|h)|h)|h)|h <;> simp [h]
 rcases Y with h|h|h|h|h|h|h <;> subst h <;> rcases J with h|h|h|h|h|h <;> subst h <;> first|rfl|decide +kernel
section
variable {X:Cx}
def S4 (Q:Option Int->Hp->Prop):VK:=fun x H1=>match x with
 | .int i=>Q (some i) H1
 | _=>False
def Ni (t:TE):TO:=fun Z H Q=>t Z H (S4 Q)
def My {e:Wk} {te:TE} (h:PE X e te):PO X (some e) (Ni te):=by
 intro af s Z H Q I hw;rw [evalPart_some];refine eO (h af s Z H _ I hw) fun u s1 hh=>qQ hh fun x H1 L Y J=>?_;cases x with
 | int i =>
  obtain ⟨t,rfl⟩:=Y;exact ⟨some i,H1,L,.int i t,J⟩
 | _=>exact J.elim
def lV (z:Str) (lo hi:Option Int):Str:=⟨((z.cps.toList.drop (HT.sIx z.length 0 lo)).take (HT.sIx z.length z.length hi - HT.sIx z.length 0 lo)).toArray⟩
def MY (v:Int) (n d:Nat):max 0 (min (if v < 0 then v+(n:Int) else v) (n:Int))=((HT.sIx n d (some v):Nat):Int):=by
 show _=(((if v < 0 then (v+(n:Int)).toNat else min v.toNat n):Nat):Int);by_cases J:v < 0
 .simp only [abn J];omega
 .simp only [abo J];omega
def loS (lo:Option Int) (n:Nat):(match lo with|none=>(0:Int)|some i=>max 0 (min (if i < 0 then i+(n:Int) else i) (n:Int)))=((HT.sIx n 0 lo:Nat):Int):=by
 cases lo with
 | none=>rfl
 | some v=>exact MY v n 0
def hiS (hi:Option Int) (n:Nat):(match hi with|none=>(n:Int)|some i=>max 0 (min (if i < 0 then i+(n:Int) else i) (n:Int)))=((HT.sIx n n hi:Nat):Int):=by
 cases hi with
 | none=>rfl
 | some v=>exact MY v n n
def Re (lo hi:Option Int) (n:Nat):WS lo hi 1 n=sliceRange ((HT.sIx n 0 lo:Nat):Int) ((HT.sIx n n hi:Nat):Int) 1:=by
 have h1:((1:Int) > 0)=True:=by simp
 simp only [WS,h1,if_true];rw [<- loS,<- hiS];cases lo <;> cases hi <;> rfl
def UH (a b n:Nat) (L:a<=n) (J:b<=n):WS (some (a:Int)) (some (b:Int)) 1 n=sliceRange (a:Int) (b:Int) 1:=by
 rw [Re,HT.jd,HT.jd,XJ L,XJ J]
def D8 (z:Str) (lo hi:Option Int):Txt.slice z lo hi=lV z lo hi:=by
 have Y:=HT.DY z.length 0 (VY _) lo;have L:=HT.DY z.length z.length (oR _) hi;unfold Txt.slice;rw [Re,<- UH _ _ _ Y L];unfold lV;generalize HT.sIx z.length 0 lo=a at Y ⊢;generalize HT.sIx z.length z.length hi=b at L ⊢;by_cases J:a<=b
 .exact StrLaws.sliceText_nat z J L
 .have e:WS (some (a:Int)) (some (b:Int)) 1 z.length=[]:=by
   have h1:((1:Int) > 0)=True:=by simp
   have n1:¬ ((a:Int) < 0):=by omega
   have n2:¬ ((b:Int) < 0):=by omega
   have e1:max (0:Int) (min (a:Int) (z.length:Int))=a:=by omega
   have e2:max (0:Int) (min (b:Int) (z.length:Int))=b:=by omega
   simp only [WS,sliceRange,h1,if_true,abo n1,abo n2,e1,e2];rw [abo (by omega)];rfl
  have e0:b - a=0:=by omega
  rw [e,e0,Z9];split
  .rename_i h;have hz:z.length=0:=by
    have h':0=z.length:=by simpa using h
    exact h'.symm
   apply Str.ext'
   show z.cps=#[];exact Array.eq_empty_of_size_eq_zero hz
  .rfl
def uc (z:Str) (lo hi:Option Int):(lV z lo hi).length<=z.length:=by
 unfold lV;show (Array.size _)<=_;rw [tx,Xc,X2];simp [ZW];omega
def Qc:BX X (fun x lo hi H Q=>∃ z,x=.str z/\z.length<=IF/\Q (.str (lV z lo hi)) H):=by
 intro af s Z H x v vl vu lo hi sl Q I rx J pl pu h;obtain ⟨z,rfl,hz,q⟩:=h;obtain ⟨t,rfl⟩:=rx;have fin:∀ (l u:Option (Int×Tok)),l.map (·.1)=lo->u.map (·.1)=hi->s.heap.IsSlice sl l u none->Le (VL X.prog X.w) X.A (Ze (.str z t) (.ref sl)) (EP X af Z Q) X.xe s:=fun l u e1 e2 Y=>by
  refine bi I.tk (wpAny_getItem_str_slice Y rfl ?_);subst e1 e2;refine post_val_or_str ?_;have e:(if (((none:Option (Int×Tok)).map (·.1)).getD 1==1&&(slicePicked z l u none).length==z.length)=true then z else ⟨((slicePicked z l u none).filterMap (z.cps[·]?)).toArray⟩)=Txt.slice z (l.map (·.1)) (u.map (·.1)):=rfl;rw [e,D8];exact ⟨RW (uc _ _ _) hz,fun t' k htk=>⟨.str _,H,I.tok _,⟨t',rfl⟩,q⟩⟩
 refine ⟨"str",_,F.slot_str_getitem.lookup,typeIs_str s z t,?_⟩;cases pl with
 | none =>
  cases pu with
  | none=>exact fin none none rfl rfl J
  | int j L=>exact fin none (some (j,L)) rfl rfl J
 | int i ti =>
  cases pu with
  | none=>exact fin (some (i,ti)) none rfl rfl J
  | int j L=>exact fin (some (i,ti)) (some (j,L)) rfl rfl J
def Q9 (K:aT) (x:V) (lo hi:Option Int) (H:Hp) (Q:VK):Prop:=match x with
 | .str z=>z.length<=IF/\Q (.str (lV z lo hi)) H
 | .ref a=>(∃ xs,iA K H a xs/\∀ p,H p=none->Q (.ref p) (upd H p (.lst (yN xs lo hi)))) \/
  ∃ xs,mf K H a xs/\¬ (HT.sIx xs.length 0 lo=0/\HT.sIx xs.length xs.length hi=xs.length)/\∀ p,H p=none->Q (.ref p) (upd H p (.tup (yN xs lo hi)))
 | _=>False
def Ta:BX X (Q9 X.K):=(Qc.or (LO.or P9)).imp fun x lo hi H Q q=>by
 unfold Q9 at q;split at q
 .exact .inl ⟨_,rfl,q.1,q.2⟩
 .rcases q with ⟨xs,h1,h2⟩|⟨xs,h1,h2,J⟩
  .exact .inr (.inl ⟨_,xs,rfl,h1,h2⟩)
  .exact .inr (.inr ⟨_,xs,rfl,h1,h2,J⟩)
 .exact q.elim
def LQ (K:aT) (J:X.K=K:=by rfl):BX X (Q9 K):=by
 subst J;exact Ta
variable {tg:Wk}
def kIt (K:aT) (R:It->Hp->Prop):VK:=fun x H1=>match x with
 | .str z=>R (Qq z) H1
 | .ref a=>((∃ xs,iA K H1 a xs)/\R (T6 K a) H1)\/((∃ xs,mf K H1 a xs)/\R (U9 K a) H1)
 | _=>False
def Vx (K:aT) (tl:TE):TI:=fun Z H R=>tl Z H (kIt K R)
def Pq (K:aT) {l:Wk} {tl:TE} (hl:PE X l tl) (hK:X.K=K:=by rfl):PI X tg l (Vx K tl):=by
 subst hK;intro af s Z H R I h;refine eO (hl af s Z H _ I h) fun v J hh=>qQ hh fun x H1 L r1 Y=>?_;cases x with
 | str z =>
  obtain ⟨t,rfl⟩:=r1;have fp1:∀ b∈[J.heap.objs.size],iI X af H1 b:=fun b hb=>by
   have e:b=J.heap.objs.size:=by simpa using hb
   subst e;exact L.fpOk (oR _) (L.hok.fresh (oR _))
  cases ha:z.cps.all (· < 128)
  .refine wpAny_pyIter_wide ha ?_;exact ⟨J.heap.objs.size,[J.heap.objs.size],_,_,H1,rfl,L.kept (t':=J.toks) fun b o e=>dO _ e,Hj _ z t,⟨_,CT _ rfl,rfl,rfl⟩,fp1,Y⟩
  .refine wpAny_pyIter_ascii ha ?_;exact ⟨J.heap.objs.size,[J.heap.objs.size],_,_,H1,rfl,L.kept (t':=J.toks) fun b o e=>dO _ e,DD _ z t,⟨_,CT _ rfl,rfl,rfl⟩,fp1,Y⟩
 | ref a =>
  cases r1;have fp1:∀ b∈[J.heap.objs.size],iI X af H1 b:=fun b hb=>by
   have e:b=J.heap.objs.size:=by simpa using hb
   subst e;exact L.fpOk (oR _) (L.hok.fresh (oR _))
  rcases Y with ⟨⟨xs,hq⟩,q⟩|⟨⟨xs,hq⟩,q⟩
  .obtain ⟨its,rv,p,hz⟩:=L.list hq;refine wpAny_pyIter_list p.isList ?_;exact ⟨J.heap.objs.size,[J.heap.objs.size],_,_,H1,rfl,L.kept (t':=J.toks) fun b o e=>dO _ e,Gi a _,⟨_,CT _ rfl,rfl,rfl⟩,fp1,q⟩
  .obtain ⟨its,rv,p,hz⟩:=L.tuple hq;refine wpAny_pyIter_tuple (show J.heap.IsTuple a its.toArray from p) ?_;exact ⟨J.heap.objs.size,[J.heap.objs.size],_,_,H1,rfl,L.kept (t':=J.toks) fun b o e=>dO _ e,DN a _,⟨_,CT _ rfl,rfl,rfl⟩,fp1,q⟩
 | _=>exact Y.elim
def Nk (R:It->Hp->Prop):abB->Hp->Prop:=fun vs H1=>match vs with
 | [.int j]=>(-(2 ^ 62)<=j/\j < 2 ^ 62)/\R (TH 0 j.toNat) H1
 | _=>False
def Nd (ta:TA):TI:=fun Z H R=>ta Z H (Nk R)
def F9 {a:Wk} {ta:TA} {p pos:Pos} (hg:Gl X "range") (Y:X.mg "range"=none) (ha:PA X [a] ta) (hs:V2 [a] X.env=[(false,eval a X.env)]:=by rfl):PI X tg (.Call (.Name "range" p) [a] [] pos) (Nd ta):=by
 intro af s Z H R I h;refine Call_ (ox I hg Y boot_range (WR (eO (ha pos af s Z H _ I h) fun us s1 hh=>qQ hh fun vs H1 L r1 J=>?_) hs rfl));unfold Nk at J;split at J
 .obtain ⟨⟨q2,q3⟩,q⟩:=J;cases r1 with
  | cons r rr =>
   cases rr;obtain ⟨t,rfl⟩:=r;exact call_range_1 (II L (by omega) (by omega) q2 q3 (by simpa using q))
 .exact J.elim
def UC (r:Str->abB->Hp->VK->Prop) (z:Str) (Q:VK):abB->Hp->Prop:=fun xs H2=>r z xs H2 Q
def kSM (r:Str->abB->Hp->VK->Prop) (t:TA) (Z:St) (Q:VK):VK:=fun x H1=>match x with
 | .str z=>t Z H1 (UC r z Q)
 | _=>False
def Vm (r:Str->abB->Hp->VK->Prop) (to:TE) (t:TA):TE:=fun Z H Q=>to Z H (kSM r t Z Q)
def TQ (X:Cx) (id:String) (r:Str->abB->Hp->VK->Prop):Prop :=
 ∀ (af:abw) (s:iF) (Z:St) (H:Hp) (z:Str) (t:Tok) (xs:abB) (us:abA) (Q:VK),Inv X af Z H s->bC xs us->r z xs H Q ->
  Le (VL X.prog X.w) X.A (call (.builtin id) (.str z t::us)) (EP X af Z Q) X.xe s
def QK {o e:Wk} {es:List Wk} {to:TE} {t:TA} {name:Str} {apos cpos:Pos} {id:String} {r:Str->abB->Hp->VK->Prop} (slot:Slot "str" name id) (hty:typeOf (.builtin id)=pure (.type "method_descriptor")) (hm:TQ X id r) (ho:PE X o to) (ha:PA X (e::es) t)
  (L:WG o name X.env (eval o X.env)=eval o X.env:=by rfl)
  (hfew:((X9 cpos (V2 (e::es) X.env)).all (fun x=>!x.1)&&(backToKw cpos (Zz [] X.env)).all (fun x=>x.1.isSome)
   && decide ((e::es).length+([]:List aam).length+(if ([]:List aam).isEmpty then 0 else 1) < 30))=true:=by rfl)
  (Y:(apos.endLine==cpos.line)=true:=by rfl) (hs:V2 (e::es) X.env=(false,eval e X.env)::V2 es X.env:=by rfl) (J:(X9 cpos (V2 es X.env)).any (·.1)=false:=by rfl) :
  PE X (.Call (.Attribute o name apos) (e::es) [] cpos) (Vm r to t):=by
 intro af s Z H Q I h;refine wpAny_Call_method_late L hfew Y rfl (eO (ho af s Z H _ I h) fun v s1 hh=>qQ hh fun x H1 I1 r1 q1=>?_);cases x with
 | str z =>
  obtain ⟨tk,rfl⟩:=r1;refine ⟨"str",id,PySem.F.plainAttrs_str,slot,hty,typeIs_str s1 z tk,(fun _ e=>nomatch e),?_⟩
  have hA:=ha cpos af s1 Z H1 _ I1 q1;rw [hs] at hA ⊢;refine Ym (by show (false||(X9 cpos (V2 es X.env)).any (·.1))=false;rw [J] <;> rfl) (Z3 ?_);exact eO hA fun us s2 hh=>qQ hh fun vs H2 I2 r2 q2=>hm af s2 Z H2 z tk vs us Q I2 r2 q2
 | _=>exact q1.elim
def JD (K:aT) (z:Str) (xs:abB) (H:Hp) (Q:VK):Prop:=match xs with
 | [.ref p]=>∃ ys:abv,iA K H p (ys.map V.str)/\(ys.map (·.length)).sum+ys.length*z.length<=16777216/\Q (.str (ZX z ys)) H
 | _=>False
def xu:∀ {ys:abv} {us:abA},bC (ys.map V.str) us->StrsAre us ys
 | [],us,r=>by cases r;exact .nil
 | y::ys,us,r=>by
  cases r with
  | cons r J =>
   obtain ⟨t,rfl⟩:=r;exact .cons y t (xu J)
def EL (K:aT) (hK:X.K=K:=by rfl):TQ X "str.join" (JD K):=by
 subst hK;intro af s Z H z t xs us Q I r h;unfold JD at h;split at h
 .obtain ⟨ys,Y,hz,q⟩:=h;obtain ⟨u,rfl,L⟩:=kQ r;cases L;obtain ⟨its,rv,p,J⟩:=I.list Y;exact bi I.tk (join_list p.isList (by simpa using xu rv) hz fun t' k htk=>⟨.str (ZX z ys),H,I.tok _,⟨t',rfl⟩,q⟩)
 .exact h.elim
end
structure Def (K:aT) (mg:aby) (x:Str) (st:WO) (ps:abv) (f:Do) (fd:Wl):Prop where
 F:Fun K x x st f fd
 b:l9 K fd ps []
 m:mg x=some (.ref f)
section
variable {X:Cx} {x:Str} {st:WO} {ps:abv} {f:Do} {fd:Wl} {j k:Nat} {sp:Sp} {p pos:Pos} {e:Wk} {es:List Wk} {t:TA}
def Nm (sp:Sp) (t:TA):TE:=fun Z H Q=>t Z H fun vs H1=>sp vs H1 Q E0
def pc (D:Def X.K X.mg x st ps f fd) (G:FnOk X.prog X.w X.K X.mg X.base dc j f fd ps sp) (hr:Room k X.A) (ha:PA X (e::es) t) (hj:j<=k:=by decide) (hg:Gl X x:=by rfl) (J:abD x:=by decide)
  (h1:bw e=true:=by rfl) (h2:es.all bw=true:=by rfl):PE X (.Call (.Name x p) (e::es) [] pos) (Nm sp t):=by
 have he:V2 (e::es) X.env=(false,eval e X.env)::V2 es X.env:=dl h1;have L:(X9 pos (V2 es X.env)).any (·.1)=false:=gi h2;intro af s Z H Q I h;refine Wt (qP I hg D.m ?_ J);refine aaw (h₀:=X.base) I.ok.mod.kin D.F.kp (eO (ha pos af s Z H _ I h) fun us s1 hh=>qQ hh fun vs H1 Y r q=>⟨Y.kIn,?_⟩) he L;exact Io (dvs:=[]) G (hr.mono hj) D.b .nil Jx Y r (by rw [WC];exact q)
end
def bn {H:Hp} {p:Do} (h:H p=none) (o:HO):aH H (upd H p o):=fun b u q=>by rw [aU (bR q h)];exact q
def aH.seqT {K:aT} {H H':Hp} {a:Do} {xs:abB} (e:aH H H') (h:mf K H a xs):mf K H' a xs:=by
 rcases h with (h|⟨o,h⟩)|h
 .exact .inl (.inl (e _ _ h))
 .exact .inl (.inr ⟨o,e _ _ h⟩)
 .exact .inr h
abbrev sX (z:Str):abB:=z.cps.toList.map fun c=>V.str ⟨#[c]⟩
def Fq (a b:Str):(a++b).cps.toList=a.cps.toList++b.cps.toList:=by
 show (a.cps++b.cps).toList=_;exact Array.toList_append
theorem str_len (a:Str):a.length=a.cps.toList.length:=by simp [ZW]
def Nt:∀ (sep:Str) (ys:abv),(Str.join sep ys).cps.toList=((ys.map (fun y:Str=>y.cps.toList)).intersperse sep.cps.toList).flatten
 | _,[]=>rfl
 | _,[x]=>by simp [Str.join]
 | sep,x::y::r=>by
  have J:=Nt sep (y::r);show ((x++sep)++Str.join sep (y::r)).cps.toList=_;rw [Fq,Fq,J];simp [aaJ]
def Ga (J:Str) (ys:abv):(ZX J ys).cps.toList=((ys.map (fun y:Str=>y.cps.toList)).intersperse J.cps.toList).flatten:=by
 show (Builtin.Str.glued J ys).cps.toList=_;rw [StrLaws.glued_eq_join,Nt]
def zo {α:Type}:∀ (xs:List (List α)),(xs.intersperse []).flatten=xs.flatten
 | []=>rfl
 | [x]=>rfl
 | x::y::r=>by
  have J:=zo (y::r);rw [List.intersperse_cons_cons,Yt,Yt,J];rfl
def DV (ys:abv):(ZX (V7 "") ys).cps.toList=(ys.map (fun y:Str=>y.cps.toList)).flatten:=by
 rw [Ga];have e:(V7 "").cps.toList=[]:=by trivial
 rw [e,zo]
def Eu (cs:abu):(ZX (V7 "") (cs.map fun c=>(⟨#[c]⟩:Str))).cps.toList=cs:=by
 rw [DV,V9];induction cs with
 | nil=>rfl
 | cons c r J =>
  rw [By,Yt,J];rfl
def Hz (cs:abu):((cs.map fun c=>(⟨#[c]⟩:Str)).map (·.length)).sum=cs.length:=by
 induction cs with
 | nil=>rfl
 | cons c r J =>
  rw [By,By,List.sum_cons,J];show 1+r.length=r.length+1;omega
section
variable {K:aT} {Z:St} {H H1 H2:Hp} {Q:VK} {QB R':Bool->Hp->Prop} {ta tb te:TE} {tt uu:TT} {t tr:TA} {x y v:V} {xs vs:abB} {r:R2} {c:Bool} {i j:Int}
def Up (r:R2) (x:V) (Q:VK):VK:=fun y H2=>r x y H2 Q
def R1 (r:R2) (tb:TE) (Z:St) (Q:VK):VK:=fun x H1=>tb Z H1 (Up r x Q)
variable {z z':Str} {c':Bool} {p:Do}
end
structure JE (X:Cx) (e:Wk) (t:TE):Prop where
 out:PE X e t
structure JT (X:Cx) (e:Wk) (t:TT):Prop where
 out:PT X e t
structure JW (X:Cx) (e:Wk) (t:TT):Prop where
 out:PW X e t
structure JA (X:Cx) (es:List Wk) (t:TA):Prop where
 out:PA X es t
structure JS (X:Cx) (st:WO) (t:TS):Prop where
 out:PS X st t
structure JB (X:Cx) (st:List WO) (t:TS):Prop where
 out:Fd X st t
structure JG (X:Cx) (e:Wk) (t:TG):Prop where
 out:PG X e t
structure JGs (X:Cx) (es:List Wk) (t:HE):Prop where
 out:Tp X es t
structure JI (X:Cx) (tg e:Wk) (t:TI):Prop where
 out:PI X tg e t
structure JO (X:Cx) (e:Option Wk) (t:TO):Prop where
 out:PO X e t
structure JTs (X:Cx) (es:List Wk) (t:TT):Prop where
 out:Ol X es t
section
variable {X:Cx} {a b c e:Wk} {ta tb tc te:TE} {tA tB':TT} {pos:Pos} {rest es:List Wk} {t:TA}
def jv (i:Nat) {x:Str} {pos:Pos} (Y:X.N[i]?=some x:=by rfl) (L:Ev X.env.scope x:=by walk_at"v") (hd:abD x:=by decide)
  (J:(x==("__classdict__":Str))=false:=by decide):JE X (.Name x pos) (Ab i):=⟨qv i Y L hd J⟩
def Q4 {i j pos}:JE X (.Constant (.int i) j pos) (tC (.int i)):=⟨Qe⟩
def Ud {b j pos}:JE X (.Constant (.bool b) j pos) (tC (.bl b)):=⟨Sk⟩
def Q7 {j pos}:JE X (.Constant .none j pos) (tC .non):=⟨Pf⟩
def QT {x j pos}:JE X (.Constant (.str x) j pos) (tC (.str x)):=⟨N3⟩
def Ih {x:Str} {v:V} {u:gs} {pos:Pos} (J:X.mg x=some u) (r:bq v u) (L:Gl X x:=by rfl) (hd:abD x:=by decide):JE X (.Name x pos) (tC v):=⟨Fk L J r hd⟩
def T3 {x:Str} {n:String} {pos:Pos} (L:X.mg x=none) (J:VO x=some (.type n)) (Y:Gl X x:=by rfl) (hn:x≠"__name__":=by decide) (hd:abD x:=by decide):JE X (.Name x pos) (tC (.ty n)):=⟨Rh L J Y hn hd⟩
def Ug {op:Operator} {r:R2} (J:ga X (W8 op) r) (Y:JE X a ta) (L:JE X b tb):JE X (.BinOp a op b pos) (D9 r ta tb):=⟨R9 J Y.out L.out⟩
def Us {op:UnaryOp} {r:V->Hp->VK->Prop} (L:Ld X (unaryOp op) r) (J:JE X a ta):JE X (.UnaryOp op a pos) (Vy r ta):=⟨SQ L J.out⟩
def R5 (J:JE X a ta):JE X (.UnaryOp .Not a pos) (Rb ta):=⟨PR J.out⟩
def SV {op} (h:JE X a ta):JE X (.BoolOp op [a] pos) ta:=⟨OY h.out⟩
def QH (J:JE X a ta) (L:JE X (.BoolOp .And (b::rest) pos) tb):JE X (.BoolOp .And (a::b::rest) pos) (R6 ta tb):=⟨Pp J.out L.out⟩
def Uc (J:JE X a ta) (L:JE X (.BoolOp .Or (b::rest) pos) tb):JE X (.BoolOp .Or (a::b::rest) pos) (Vv ta tb):=⟨QO J.out L.out⟩
def Te {op:CmpOp} {r:R2} (L:ga X (VT op) r) (ha:JE X a ta) (Y:JE X b tb) (J:Xp op b=false):JE X (.Compare a [op] [b] pos) (D9 r ta tb):=⟨Ma L ha.out Y.out J⟩
def Kx {op:CmpOp} {r:R2} (L:ga X (VT op) r) (ha:JE X a ta) (Y:JE X b tb) (J:Xp op b=false):JT X (.Compare a [op] [b] pos) (NM (D9 r ta tb)):=⟨L0 L ha.out Y.out J⟩
def RD (Y:JT X c tA) (J:JE X a ta) (L:JE X b tb):JE X (.IfExp c a b pos) (Vu tA ta tb):=⟨JC Y.out J.out L.out⟩
def K6 (h:JW X a tA):JT X a tA:=⟨h.out.pt⟩
def LY (J:JT X a tA):JW X (.BoolOp .And [a] pos) tA:=⟨LK J.out⟩
def Qk (J:JT X a tA):JW X (.BoolOp .Or [a] pos) tA:=⟨Oh J.out⟩
def Oj (J:JT X a tA) (L:JW X (.BoolOp .And (b::rest) pos) tB'):JW X (.BoolOp .And (a::b::rest) pos) (Tw tA tB'):=⟨OM J.out L.out⟩
def Sf (J:JT X a tA) (L:JW X (.BoolOp .Or (b::rest) pos) tB'):JW X (.BoolOp .Or (a::b::rest) pos) (Vr tA tB'):=⟨SW J.out L.out⟩
def N8 (J:JT X a tA):JT X (.UnaryOp .Not a pos) (QU tA):=⟨Pl J.out⟩
def Jn (K:aT) (ha:JE X a ta) (Y:∀ J,isTrue a X.env J=(do let v <- J;aaM a.pos;holding [v] (truthy v)):=by exact fun _=>rfl) (L:X.K=K:=by rfl):JT X a (IZ K ta):=⟨KB K ha.out Y L⟩
def vv:JA X [] G5:=⟨P6⟩
def rq (J:JE X e te) (L:JA X es t) (hn:bw e=true:=by rfl):JA X (e::es) (y3 te t):=⟨LF J.out L.out hn⟩
def Tu (h:JA X es t):JE X (.List es pos) (RY t):=⟨PL h.out⟩
def S8 {x1} (h:JA X es t):JE X (.Tuple es x1 pos) (Rm t):=⟨P7 h.out⟩
def ME:JE X (.Dict [] [] pos) IE:=⟨KI⟩
def SI {r:R2} (J:CY X r) (ha:JE X a ta) (Y:JE X b tb) (L:wE b:=by exact fun _ _=>rfl):JE X (.Subscript a b pos) (D9 r ta tb):=⟨Q5 J ha.out Y.out L⟩
def LD:JO X none FK:=⟨LV⟩
def Lc (h:JE X e te):JO X (some e) (Ni te):=⟨My h.out⟩
def LH {r:V->Option Int->Option Int->Hp->VK->Prop} {lo hi:Option Wk} {tl th:TO} {p2:Pos} (J:BX X r) (Y:JE X e te) (hl:JO X lo tl) (L:JO X hi th):JE X (.Subscript e (.Slice lo hi none p2) pos) (Vp r te tl th):=⟨J6 J Y.out hl.out L.out⟩
end
section
variable {X:Cx} {x:Str} {st:WO} {ps:abv} {f:Do} {fd:Wl} {j k:Nat} {sp:Sp} {p pos:Pos} {e:Wk} {es:List Wk} {t:TA} {id T:String} {r:abB->Hp->VK->Prop}
def Qb (D:Def X.K X.mg x st ps f fd) (G:FnOk X.prog X.w X.K X.mg X.base dc j f fd ps sp) (L:Room k X.A) (ha:JA X (e::es) t) (Y:j<=k:=by decide) (hg:Gl X x:=by rfl) (J:abD x:=by decide)
  (h1:bw e=true:=by rfl) (h2:es.all bw=true:=by rfl):JE X (.Call (.Name x p) (e::es) [] pos) (Nm sp t):=⟨pc D G L ha.out Y hg J h1 h2⟩
def A7 (hc:ce X (.builtin id) r) (Y:X.mg x=none) (L:VO x=some (.builtin id)) (ha:JA X (e::es) t) (hg:Gl X x:=by rfl) (h1:bw e=true:=by rfl) (h2:es.all bw=true:=by rfl) (hn:x≠"__name__":=by decide) (J:abD x:=by decide) :
  JE X (.Call (.Name x p) (e::es) [] pos) (Qn r t):=⟨Ut hc Y L ha.out hg h1 h2 hn J⟩
def AV (hc:ce X (.type T) r) (Y:X.mg x=none) (L:VO x=some (.type T)) (ha:JA X (e::es) t) (hg:Gl X x:=by rfl) (h1:bw e=true:=by rfl) (h2:es.all bw=true:=by rfl) (hn:x≠"__name__":=by decide) (J:abD x:=by decide) :
  JE X (.Call (.Name x p) (e::es) [] pos) (Qn r t):=⟨Uw hc Y L ha.out hg h1 h2 hn J⟩
end
section
variable {X:Cx} {o e:Wk} {es:List Wk} {to:TE} {t:TA} {name:Str} {apos cpos:Pos} {id:String}
def Cn {env:Env} {pos:Pos} {es:List Wk} (h:es.all bw=true) (L:es.length < 29):((X9 pos (V2 es env)).all (fun x=>!x.1)&&(backToKw pos (Zz [] env)).all (fun x=>x.1.isSome)
   && decide (es.length+([]:List aam).length+(if ([]:List aam).isEmpty then 0 else 1) < 30))=true:=by
 have h1:(X9 pos (V2 es env)).all (fun x=>!x.1)=true:=by
  have:=gi (env:=env) (pos:=pos) h
  rw [aaE] at this;rw [WD];intro x J
  have:=this x J
  simpa using this
 rw [h1];show (true&&true&&decide (es.length+0+0 < 30))=true;rw [abq (by omega)];rfl
def U0 {r:Str->abB->Hp->VK->Prop} (slot:Slot "str" name id) (hty:typeOf (.builtin id)=pure (.type "method_descriptor")) (hm:TQ X id r) (ho:JE X o to) (ha:JA X (e::es) t)
  (J:WG o name X.env (eval o X.env)=eval o X.env:=by rfl) (Y:(apos.endLine==cpos.line)=true:=by rfl) (h1:(e::es).all bw=true:=by rfl) (hl:(e::es).length < 29:=by decide) :
  JE X (.Call (.Attribute o name apos) (e::es) [] cpos) (Vm r to t):=by
 have L:=h1;rw [Wz,V4] at L;exact ⟨QK slot hty hm ho.out ha.out J (Cn h1 hl) Y (dl L.1) (gi L.2)⟩
end
section
variable {X:Cx} {osc:Scope} {ON N:abv} {ix:List (Option Nat)} {scope:Scope} {tg elt iter:Wk} {ifs:List Wk} {pos:Pos} {wi:TI} {g:TG} {tt:TT} {te:TE}
def Lr:JTs X [] SR:=⟨MP⟩
def LG {c:Wk} (h:JT X c tt):JTs X [c] tt:=⟨Md h.out⟩
def PP (J:G7 osc ON N ix scope=true) (hi:JI X tg iter wi) (hg:∀ b,JG (vM X N scope b) tg g) (ht:∀ b,JTs (vM X N scope b) ifs tt) (he:∀ b,JE (vM X N scope b) elt te)
  (hE:X.env.scope=osc:=by rfl) (hO:X.N=ON:=by rfl) (L:X.calm=true:=by rfl) (Y:∀ x,WN iter X.env x=pure x:=by intro _;rfl):JE X (.ListComp elt [⟨tg,iter,ifs,0⟩] scope pos) (Fn ix wi g tt te) :=
 ⟨Ie (NH J) hE hO L hi.out (fun b=>(hg b).out) (fun b=>(ht b).out) (fun b=>(he b).out) Y⟩
def Du {i:Nat} {x:Str} {J pos':Pos} (hN:X.N.Nodup) (hl:HB X.env.scope x) (Y:G7 osc ON N ix scope=true) (hi:JI X tg iter wi) (hg:∀ b,JG (vM X N scope b) tg g) (ht:∀ b,JTs (vM X N scope b) ifs tt) (he:∀ b,JE (vM X N scope b) elt te)
  (hx:X.N[i]?=some x:=by rfl) (hE:X.env.scope=osc:=by rfl) (hO:X.N=ON:=by rfl) (hc:X.calm=true:=by rfl)
  (L:XN (.ListComp elt [⟨tg,iter,ifs,0⟩] scope pos) (some (.Name x pos')) J.line X.env=pure true:=by rfl)
  (hf:X.fn x=true\/X.env.scope.names.lookup x=some .local:=by walk_at"u")
  (hs:∀ x,WN iter X.env x=pure x:=by intro _;rfl):JS X (.Assign [.Name x pos'] (.ListComp elt [⟨tg,iter,ifs,0⟩] scope pos) J) (BP (Fn ix wi g tt te) (tG i)) :=
 ⟨Dr hN hx hl (NH Y) hE hO hc hi.out (fun b=>(hg b).out) (fun b=>(ht b).out) (fun b=>(he b).out) L hf hs⟩
def O7 (K:aT) {l:Wk} {tl:TE} (L:JE X l tl) (J:X.K=K:=by rfl):JI X tg l (Vx K tl):=⟨Pq K L.out J⟩
def Gh {a:Wk} {ta:TA} {p pos:Pos} (J:X.mg "range"=none) (Y:JA X [a] ta) (L:Gl X "range":=by rfl) (hn:bw a=true:=by rfl):JI X tg (.Call (.Name "range" p) [a] [] pos) (Nd ta):=⟨F9 L J Y.out (dl hn)⟩
end
section
variable {X:Cx} {pos:Pos} {st:WO} {rest:List WO} {t u:TS} {e:Wk} {te:TE}
def Lf {i:Nat} {x:Str} (L:X.N.Nodup) (hi:X.N[i]?=some x) (J:HB X.env.scope x) (hf:X.fn x=true\/X.env.scope.names.lookup x=some .local:=by walk_at"u"):JG X (.Name x pos) (tG i):=⟨EH L hi J hf⟩
def LL:JGs X [] RJ:=⟨MR⟩
def IQ {e:Wk} {es:List Wk} {t:TG} {u:HE} (h1:JG X e t) (h2:JGs X es u)
  (J:(W3 (e::es) X.env).map (·.2)=assign e X.env::(W3 es X.env).map (·.2):=by rfl):JGs X (e::es) (Ny t u):=⟨KK h1.out h2.out J⟩
def Ou (K:aT) {es:List Wk} {k:Nat} {t:HE} {n:Nat} (h:JGs X es t) (L:X.calm=true:=by rfl)
  (hn:(W3 es X.env).length=n:=by rfl) (J:(W3 es X.env).findIdx? (·.1)=none:=by rfl) (Y:X.K=K:=by rfl):JG X (.Tuple es k pos) (QA K n t):=by
 subst Y;exact ⟨Pe L h.out hn J⟩
def PM:JB X [] NJ:=⟨Lq⟩
def FJ (h1:JS X st t) (h2:JB X rest u):JB X (st::rest) (Ry t u):=⟨yi h1.out h2.out⟩
def OS (h1:JS X st t):JB X [st] t:=⟨FH h1.out⟩
def EE (L:JE X e te) (J:XN e none pos.line X.env=pure false:=by rfl):JS X (.Expr e pos) (JF te):=⟨LZ L.out J⟩
def Pz (J:JE X e te):JS X (.Return (some e) pos) (S3 te):=⟨N1 J.out⟩
def NL {c:Wk} {a b:List WO} {tc:TT} (J:JT X c tc) (Y:JB X a t) (L:JB X b u):JS X (.If c a b pos) (SE tc t u):=⟨Rp J.out Y.out L.out⟩
def Kc {i:Nat} {x:Str} {pos':Pos} (hN:X.N.Nodup) (L:HB X.env.scope x) (Y:JE X e te) (hi:X.N[i]?=some x:=by rfl) (J:XN e (some (.Name x pos')) pos.line X.env=pure false:=by rfl) (hf:X.fn x=true\/X.env.scope.names.lookup x=some .local:=by walk_at"u") :
  JS X (.Assign [.Name x pos'] e pos) (BP te (tG i)):=⟨OJ hN hi L Y.out J hf⟩
def PB {tg:Wk} {g:TG} (Y:JE X e te) (L:JG X tg g) (J:swapsWithSole [tg] e pos.line X.env=pure false:=by rfl) (hw:swappedStores [tg] e X.env=pure none:=by rfl)
  (h1:(W3 [tg] X.env).map (·.2)=[assign tg X.env]:=by rfl):JS X (.Assign [tg] e pos) (BP te g):=⟨Od Y.out L.out J hw h1⟩
def N6 {o i:Wk} {to J:TE} {t:Ls} (Y:JE X o to) (hi:JE X i J) (L:N0 X t)
  (ha:∀ v,assign (.Subscript o i pos) X.env v=(do
   let ov <- holding [v] (eval o X.env)
   let iv <- holding [v,ov] (eval i X.env)
   aaM pos
   holding [v,ov,iv] (setItem ov iv v)
   release [v,ov,iv] []):=by intro _;rfl):JG X (.Subscript o i pos) (P8 to J t):=⟨P3 Y.out hi.out L ha⟩
def OC {tg iter:Wk} {J:List WO} {wi:TI} {g:TG} {tb:TS} (hp:ZU (VL X.prog X.w) X.A X.env X.xe) (hi:JI X tg iter wi) (hg:JG X tg g) (hb:JB X J tb) (L:X.calm=true:=by rfl)
  (Y:∀ x,WN iter X.env x=pure x:=by intro _;rfl):JS X (.For tg iter J [] pos) (Th wi g tb):=⟨Og hp L hi.out hg.out hb.out Y⟩
def Kr {c:Wk} {J:List WO} {tc:TT} {tb:TS} (Y:ZU (VL X.prog X.w) X.A X.env X.xe) (L:JT X c tc) (hb:JB X J tb):JS X (.While c J [] pos) (J8 tc tb):=⟨Iw Y L.out hb.out⟩
end
section
variable {P:VH} {w:VZ} {K:aT} {mg:aby} {base:Xj}
def Fun.okJ {x L:Str} {st:WO} {f:Do} {fd:Wl} {N ps:abv} {k:Nat} {sp:Sp} (F:Fun K x L st f fd) (S:FnScope N ps (aq st)) (len:∀ vs H Q E,sp vs H Q E->vs.length=ps.length)
  (hbody:∀ (Y:gs) (A:VV) (J:List Env) (s:iF) (H:Hp) (vs:abB) (Q:VK) (E:XK),Room k (A.deeper (aad L (aq st) s.heap.objs.size f Y))->sp vs H Q E ->
   ∃ t,JB (Bo dc P w K mg base N L (aq st) f Y A J s H E).nox (gC st) t/\t { nx:=fun _ H'=>Q .non H',rt:=Q } (start N vs) H):FnOk P w K mg base dc (k+1) f fd ps sp :=
 F.ok S len fun Y A J s H vs Q E hr h=>let ⟨t,h1,h2⟩:=hbody Y A J s H vs Q E hr h;⟨t,h1.out,h2⟩
end
def JE.imp {X:Cx} {e:Wk} {t t':TE} (h:JE X e t) (i:∀ Z H Q,t' Z H Q->t Z H Q):JE X e t':=⟨h.out.imp i⟩
def JT.imp {X:Cx} {e:Wk} {t t':TT} (h:JT X e t) (i:∀ Z H Q,t' Z H Q->t Z H Q):JT X e t':=⟨fun af s Z H Q I q=>h.out af s Z H Q I (i Z H Q q)⟩
def JW.imp {X:Cx} {e:Wk} {t t':TT} (h:JW X e t) (i:∀ Z H Q,t' Z H Q->t Z H Q):JW X e t':=⟨fun w af s Z H Q I q=>h.out w af s Z H Q I (i Z H Q q)⟩
def JA.imp {X:Cx} {es:List Wk} {t t':TA} (h:JA X es t) (i:∀ Z H Q,t' Z H Q->t Z H Q):JA X es t':=⟨fun pos af s Z H Q I q=>h.out pos af s Z H Q I (i Z H Q q)⟩
def JS.imp {X:Cx} {st:WO} {t t':TS} (h:JS X st t) (i:∀ D Z H,t' D Z H->t D Z H):JS X st t':=⟨fun af s Z H D I q=>h.out af s Z H D I (i D Z H q)⟩
def JB.imp {X:Cx} {st:List WO} {t t':TS} (h:JB X st t) (i:∀ D Z H,t' D Z H->t D Z H):JB X st t':=⟨fun af s Z H D I q=>h.out af s Z H D I (i D Z H q)⟩
def JG.imp {X:Cx} {e:Wk} {t t':TG} (h:JG X e t) (i:∀ v Z H Q,t' v Z H Q->t v Z H Q):JG X e t':=⟨fun af s Z H v u Q I r q=>h.out af s Z H v u Q I r (i v Z H Q q)⟩
def JGs.imp {X:Cx} {es:List Wk} {t t':HE} (h:JGs X es t) (i:∀ v Z H Q,t' v Z H Q->t v Z H Q):JGs X es t':=⟨fun af s Z H v u Q I r q=>h.out af s Z H v u Q I r (i v Z H Q q)⟩
def JI.imp {X:Cx} {tg e:Wk} {t t':TI} (h:JI X tg e t) (i:∀ Z H R,t' Z H R->t Z H R):JI X tg e t':=⟨fun af s Z H R I q=>h.out af s Z H R I (i Z H R q)⟩
def JO.imp {X:Cx} {e:Option Wk} {t t':TO} (h:JO X e t) (i:∀ Z H Q,t' Z H Q->t Z H Q):JO X e t':=⟨fun af s Z H Q I q=>h.out af s Z H Q I (i Z H Q q)⟩
def JTs.imp {X:Cx} {es:List Wk} {t t':TT} (h:JTs X es t) (i:∀ Z H Q,t' Z H Q->t Z H Q):JTs X es t':=⟨fun af s Z H Q I q=>h.out af s Z H Q I (i Z H Q q)⟩
inductive D where
 | non|bl (b:Bool)|int (i:Int)|str (x:Str)|ty (n:String)
 | lst (xs:List D)|tup (xs:List D)|dct (kvs:List (Key×D))|obj (x:Str) (fs:List (Str×D))
 /-- an exception that was caught,by its class's name;a class of the text -/
 | exn (x:Str)|cls (x:Str)
 /-- a list of which it is pG that it was laid anew (it may be changed) -/
 | lsm (xs:List D)
 /-- a dict that is not changed any more -/
 | dcf (kvs:List (Key×D))
abbrev abC:=List D
def Uo (a C:Do):HO:=.ext fun h=>∃ o vs,h.get? a=some o/\o.cls=.ref C/\o.dict=none/\o.data=.fields vs
section
variable (K:aT) (H:Hp)
mutual
def dF:D->V->Prop
 | .non,v=>v=.non
 | .bl b,v=>v=.bl b
 | .int i,v=>v=.int i
 | .str x,v=>v=.str x
 | .ty n,v=>v=.ty n
 | .lst ds,v=>∃ a xs,v=.ref a/\iA K H a xs/\aN ds xs
 | .tup ds,v=>∃ a xs,v=.ref a/\mf K H a xs/\aN ds xs
 | .dct ds,v=>∃ a xs,v=.ref a/\H a=some (.dK xs)/\eZ ds xs
 | .obj x fs,v=>∃ a C dx xs,v=.ref a/\VN K VF x=some (some (.ref C))/\H a=some (.ins C dx xs)/\sR fs xs
 | .exn x,v=>∃ a C,v=.ref a/\VN K VF x=some (some (.ref C))/\H a=some (Uo a C)
 | .cls x,v=>∃ C,v=.ref C/\VN K VF x=some (some (.ref C))
 | .lsm ds,v=>∃ a xs,v=.ref a/\H a=some (.lst xs)/\aN ds xs
 | .dcf ds,v=>∃ a o xs,v=.ref a/\H a=some (.frz o (.dK xs))/\eZ ds xs
def aN:abC->abB->Prop
 | [],xs=>xs=[]
 | d::ds,xs=>∃ v vs,xs=v::vs/\dF d v/\aN ds vs
def eZ:List (Key×D)->List (Key×V)->Prop
 | [],xs=>xs=[]
 | (k,d)::ds,xs=>∃ v vs,xs=(k,v)::vs/\dF d v/\eZ ds vs
def sR:List (Str×D)->List (Str×V)->Prop
 | [],xs=>xs=[]
 | (k,d)::ds,xs=>∃ v vs,xs=(k,v)::vs/\dF d v/\sR ds vs
end
end
def aH.rd {H H':Hp} {a:Do} {u:HO} (s:aH H H') (h:Rd H a u):Rd H' a u:=by
 rcases h with h|⟨o,h⟩
 .exact .inl (s _ _ h)
 .exact .inr ⟨o,s _ _ h⟩
section
variable {K:aT} {H H':Hp}
mutual
def dF.mono (s:aH H H'):∀ {d:D} {v:V},dF K H d v->dF K H' d v
 | .non,_,h=>h
 | .bl _,_,h=>h
 | .int _,_,h=>h
 | .str _,_,h=>h
 | .ty _,_,h=>h
 | .lst ds,_,⟨a,xs,e,h1,h2⟩=>⟨a,xs,e,s.seq h1,aN.mono s h2⟩
 | .tup ds,_,⟨a,xs,e,h1,h2⟩=>⟨a,xs,e,s.seqT h1,aN.mono s h2⟩
 | .dct ds,_,⟨a,xs,e,h1,h2⟩=>⟨a,xs,e,s _ _ h1,eZ.mono s h2⟩
 | .obj x ds,_,⟨a,C,dx,xs,e,h0,h1,h2⟩=>⟨a,C,dx,xs,e,h0,s _ _ h1,sR.mono s h2⟩
 | .exn _,_,⟨a,C,e,h1,h2⟩=>⟨a,C,e,h1,s _ _ h2⟩
 | .cls _,_,h=>h
 | .lsm ds,_,⟨a,xs,e,h1,h2⟩=>⟨a,xs,e,s _ _ h1,aN.mono s h2⟩
 | .dcf ds,_,⟨a,o,xs,e,h1,h2⟩=>⟨a,o,xs,e,s _ _ h1,eZ.mono s h2⟩
def aN.mono (s:aH H H'):∀ {d:abC} {v:abB},aN K H d v->aN K H' d v
 | [],_,h=>h
 | d::ds,_,⟨v,vs,e,h1,h2⟩=>⟨v,vs,e,dF.mono s h1,aN.mono s h2⟩
def eZ.mono (s:aH H H'):∀ {d:List (Key×D)} {v:List (Key×V)},eZ K H d v->eZ K H' d v
 | [],_,h=>h
 | (k,d)::ds,_,⟨v,vs,e,h1,h2⟩=>⟨v,vs,e,dF.mono s h1,eZ.mono s h2⟩
def sR.mono (s:aH H H'):∀ {d:List (Str×D)} {v:List (Str×V)},sR K H d v->sR K H' d v
 | [],_,h=>h
 | (k,d)::ds,_,⟨v,vs,e,h1,h2⟩=>⟨v,vs,e,dF.mono s h1,sR.mono s h2⟩
end
theorem aN.len:∀ {ds:abC} {xs:abB},aN K H ds xs->ds.length=xs.length
 | [],_,h=>by cases h;rfl
 | d::ds,_,⟨v,vs,e,h1,h2⟩=>by subst e;simp [aN.len h2]
def aN.get:∀ {ds:abC} {xs:abB} {i:Nat} {d:D},aN K H ds xs->ds[i]?=some d->∃ v,xs[i]?=some v/\dF K H d v
 | [],_,_,_,_,e=>by simp at e
 | d::ds,_,0,_,⟨v,vs,e,h1,h2⟩,q=>by
  simp at q;subst q e;exact ⟨v,rfl,h1⟩
 | d::ds,_,i+1,_,⟨v,vs,e,h1,h2⟩,q=>by
  subst e;obtain ⟨u,J,L⟩:=aN.get (i:=i) h2 (by simpa using q);exact ⟨u,by simpa using J,L⟩
def aN.got:∀ {ds:abC} {xs:abB} {i:Nat} {v:V},aN K H ds xs->xs[i]?=some v->∃ d,ds[i]?=some d/\dF K H d v
 | [],_,_,_,h,e=>by cases h;simp at e
 | d::ds,_,0,_,⟨v,vs,e,h1,h2⟩,q=>by
  subst e;simp at q;subst q;exact ⟨d,rfl,h1⟩
 | d::ds,_,i+1,_,⟨v,vs,e,h1,h2⟩,q=>by
  subst e;obtain ⟨u,J,L⟩:=aN.got (i:=i) h2 (by simpa using q);exact ⟨u,by simpa using J,L⟩
def aN.nil:aN K H [] []:=rfl
theorem aN.cons {d:D} {ds:abC} {v:V} {xs:abB} (h:dF K H d v) (t:aN K H ds xs):aN K H (d::ds) (v::xs):=⟨v,xs,rfl,h,t⟩
def aN.append:∀ {ds es:abC} {xs ys:abB},aN K H ds xs->aN K H es ys->aN K H (ds++es) (xs++ys)
 | [],_,_,_,h,t=>by cases h;exact t
 | d::ds,_,_,_,⟨v,vs,e,h1,h2⟩,t=>by subst e;exact ⟨v,_,rfl,h1,aN.append h2 t⟩
def aN.take:∀ {ds:abC} {xs:abB} (n:Nat),aN K H ds xs->aN K H (ds.take n) (xs.take n)
 | _,_,0,_=>by simp only [Z9];exact rfl
 | [],_,n+1,h=>by cases h;exact rfl
 | d::ds,_,n+1,⟨v,vs,e,h1,h2⟩=>by subst e;exact ⟨v,_,rfl,h1,aN.take n h2⟩
def aN.drop:∀ {ds:abC} {xs:abB} (n:Nat),aN K H ds xs->aN K H (ds.drop n) (xs.drop n)
 | _,_,0,h=>h
 | [],_,n+1,h=>by cases h;exact rfl
 | d::ds,_,n+1,⟨v,vs,e,h1,h2⟩=>by subst e;exact aN.drop n h2
end
def aP (as:abz) (H:Hp):Hp:=fun b=>if b∈as then none else H b
def fD {as:abz} {H:Hp} {b:Do} (h:b∈as):aP as H b=none:=abn h
def bc {as:abz} {H:Hp} {b:Do} (h:b∉as):aP as H b=H b:=abo h
def Bv {H:Hp}:aP [] H=H:=by funext b;exact abo (by simp)
def aC (as:abz) (H:Hp):aH (aP as H) H:=fun b o e=>by
 unfold aP at e;split at e
 .cases e
 .exact e
def bh {as:abz} {H H':Hp} (s:aH H H'):aH (aP as H) (aP as H'):=fun b o e=>by
 unfold aP at e ⊢;split at e
 .cases e
 .rename_i h;rw [abo h];exact s b o e
def nK (as bs:abz) (H:Hp):aP (as++bs) H=aP bs (aP as H):=by
 funext b
 unfold aP;by_cases h1:b∈as <;> by_cases h2:b∈bs <;> simp [h1,h2]
def qz {as bs:abz} {H:Hp} (h:∀ a∈bs,a∈as):aH (aP as H) (aP bs H):=fun b o e=>by
 by_cases J:b∈as
 .rw [fD J] at e;cases e
 .rw [bc J] at e;rw [bc fun z=>J (h b z)];exact e
def Hi {as:abz} {B H:Hp} (s:aH B H) (h:∀ a∈as,B a=none):aH B (aP as H):=fun b o e=>by
 have J:b∉as:=fun z=>by rw [h b z] at e;cases e
 rw [bc J];exact s b o e
inductive R (α:Type) where
 | ok (a:α)
 | er (x:Str)
 | no
def R.bind {α β:Type} (r:R α) (f:α->R β):R β:=match r with
 | .ok a=>f a
 | .er x=>.er x
 | .no=>.no
theorem aK {α J:Type} {a:α} {f:α->R J}:(R.ok a).bind f=f a:=rfl
def bind_assoc {α J L:Type} (r:R α) (f:α->R J) (g:J->R L):(r.bind f).bind g=r.bind fun a=>(f a).bind g:=by cases r <;> rfl
structure Wd where
 K:aT
 mg:Str->Option gs
 E:XK
abbrev Sd:=List (Option D)
def dI (W:Wd) (as:abz) (H:Hp) (r:R D) (Q:VK):Prop:=match r with
 | .ok d=>∀ v H',aH H H'->dF W.K (aP as H') d v->Q v H'
 | .er x=>∀ e C H',aH H H'->W.mg x=some (.ref C)->W.E e (some C) H'
 | .no=>False
def lH (W:Wd) (as:abz) (H:Hp) (r:R (abC)) (Q:abB->Hp->Prop):Prop:=match r with
 | .ok d=>∀ v H',aH H H'->aN W.K (aP as H') d v->Q v H'
 | .er x=>∀ e C H',aH H H'->W.mg x=some (.ref C)->W.E e (some C) H'
 | .no=>False
def jG {α:Type} (W:Wd) (H:Hp) (r:R α) (Q:α->Hp->Prop):Prop:=match r with
 | .ok b=>∀ H',aH H H'->Q b H'
 | .er x=>∀ e C H',aH H H'->W.mg x=some (.ref C)->W.E e (some C) H'
 | .no=>False
def oC (K:aT) (H:Hp) (o:HO):D->Prop
 | .lst ds=>∃ xs,o=.lst xs/\aN K H ds xs
 | .dct ds=>∃ xs,o=.dK xs/\eZ K H ds xs
 | .obj x ds=>∃ C dx xs,o=.ins C dx xs/\VN K VF x=some (some (.ref C))/\sR K H ds xs
 | _=>False
def jH (W:Wd) (as:abz) (H:Hp) (r:R D) (Q:VK):Prop:=match r with
 | .ok d=>∀ p o H',aH H H'->H p=none->H' p=some o->oC W.K (aP (p::as) H') o d->Q (.ref p) H'
 | .er x=>∀ e C H',aH H H'->W.mg x=some (.ref C)->W.E e (some C) H'
 | .no=>False
def dI.mono {W:Wd} {as:abz} {H H':Hp} {r:R D} {Q:VK} (h:dI W as H r Q) (s:aH H H'):dI W as H' r Q:=by
 cases r with
 | ok d=>exact fun v H2 J=>h v H2 (s.trans J)
 | er x=>exact fun e C H2 J=>h e C H2 (s.trans J)
 | no=>exact h
def jH.mono {W:Wd} {as:abz} {H H':Hp} {r:R D} {Q:VK} (h:jH W as H r Q) (s:aH H H'):jH W as H' r Q:=by
 cases r with
 | ok d=>exact fun p o H2 J L=>h p o H2 (s.trans J) (s.free L)
 | er x=>exact fun e C H2 J=>h e C H2 (s.trans J)
 | no=>exact h
def lH.mono {W:Wd} {as:abz} {H H':Hp} {r:R (abC)} {Q:abB->Hp->Prop} (h:lH W as H r Q) (s:aH H H'):lH W as H' r Q:=by
 cases r with
 | ok d=>exact fun v H2 J=>h v H2 (s.trans J)
 | er x=>exact fun e C H2 J=>h e C H2 (s.trans J)
 | no=>exact h
def jG.mono {α:Type} {W:Wd} {H H':Hp} {r:R α} {Q:α->Hp->Prop} (h:jG W H r Q) (s:aH H H'):jG W H' r Q:=by
 cases r with
 | ok d=>exact fun H2 J=>h H2 (s.trans J)
 | er x=>exact fun e C H2 J=>h e C H2 (s.trans J)
 | no=>exact h
def oC.den {K:aT} {H:Hp} {p:Do} {as:abz} {o:HO} {d:D} (L:p∉as) (e:H p=some o) (h:oC K (aP (p::as) H) o d):dF K (aP as H) d (.ref p):=by
 have s:aH (aP (p::as) H) (aP as H):=qz fun a ha=>mK _ ha;have J:aP as H p=some o:=by rw [bc L];exact e
 cases d with
 | lst ds=>obtain ⟨xs,rfl,h⟩:=h;exact ⟨p,xs,rfl,.inl (.inl J),h.mono s⟩
 | dct ds=>obtain ⟨xs,rfl,h⟩:=h;exact ⟨p,xs,rfl,J,h.mono s⟩
 | obj x ds=>obtain ⟨C,dx,xs,rfl,Y,h⟩:=h;exact ⟨p,C,dx,xs,rfl,Y,J,h.mono s⟩
 | _=>exact h.elim
structure DI (K:aT) (as0:abz) (B:Hp) (O:abu) (own:abz) (Z:St) (U:Sd) (H:Hp):Prop where
 len:U.length=Z.length
 olen:own.length=O.length
 nd:own.Nodup
 ond:O.Nodup
 fresh:∀ a∈own,B a=none
 ex0:∀ a∈as0,B a≠none
 same:aH B H
 var:∀ i d,i∉O->U[i]?=some (some d)->∃ v,Z[i]?=some (some v)/\dF K (aP (own++as0) H) d v
 owns:∀ i a,(i,a)∈O.zip own->∃ d o,U[i]?=some (some d)/\Z[i]?=some (some (.ref a))/\H a=some o/\oC K (aP (own++as0) H) o d
section
variable {K:aT} {as0 own:abz} {B H H':Hp} {O:abu} {Z:St} {U:Sd}
def oC.mono {o:HO} {d:D} (s:aH H H') (h:oC K H o d):oC K H' o d:=by
 cases d with
 | lst ds=>obtain ⟨xs,rfl,h⟩:=h;exact ⟨xs,rfl,h.mono s⟩
 | dct ds=>obtain ⟨xs,rfl,h⟩:=h;exact ⟨xs,rfl,h.mono s⟩
 | obj x ds=>obtain ⟨C,dx,xs,rfl,J,h⟩:=h;exact ⟨C,dx,xs,rfl,J,h.mono s⟩
 | _=>exact h.elim
def ze:∀ {O:abu} {own:abz} {a:Do},own.length=O.length->a∈own->∃ i,(i,a)∈O.zip own
 | [],[],_,_,h=>by cases h
 | i::O,b::own,a,l,h=>by
  rcases nE.mp h with rfl|h
  .exact ⟨i,OR⟩
  .obtain ⟨j,J⟩:=ze (O:=O) (own:=own) (by simpa using l) h;exact ⟨j,mK _ J⟩
 | [],_::_,_,l,_=>by simp at l
 | _::_,[],_,_,h=>by cases h
def DI.exi (I:DI K as0 B O own Z U H):∀ a∈own++as0,H a≠none:=fun a J=>by
 rcases MK.mp J with h|h
 .obtain ⟨i,hi⟩:=ze I.olen h;obtain ⟨d,o,_,_,e,_⟩:=I.owns i a hi;rw [e];simp
 .cases e:B a with
  | none=>exact absurd e (I.ex0 a h)
  | some o=>rw [I.same a o e];simp
def DI.new (I:DI K as0 B O own Z U H) {p:Do} (h:H p=none):p∉own++as0:=fun z=>I.exi p z h
def DI.mono (I:DI K as0 B O own Z U H) (s:aH H H'):DI K as0 B O own Z U H' :=
 ⟨I.len,I.olen,I.nd,I.ond,I.fresh,I.ex0,I.same.trans s,fun i d hi e=>let ⟨v,h1,h2⟩:=I.var i d hi e;⟨v,h1,h2.mono (bh s)⟩,
  fun i a hi=>let ⟨d,o,h1,h2,h3,h4⟩:=I.owns i a hi;⟨d,o,h1,h2,s a o h3,h4.mono (bh s)⟩⟩
def DI.base {J:Hp} (I:DI K as0 J O own Z U H) (s:aH B J) (h:∀ a∈as0,B a≠none):DI K as0 B O own Z U H :=
 ⟨I.len,I.olen,I.nd,I.ond,fun a L=>s.free (I.fresh a L),h,s.trans I.same,I.var,I.owns⟩
def DI.rebase (I:DI K as0 B O own Z U H) (L:∀ a∈own,a∉as0):DI K as0 (aP own H) O own Z U H :=
 ⟨I.len,I.olen,I.nd,I.ond,fun a J=>fD J,fun a J=>(by
  rw [bc fun z=>L a z J];cases e:B a with
  | none=>exact absurd e (I.ex0 a J)
  | some o=>rw [I.same a o e];simp),aC _ _,I.var,I.owns⟩
def DI.apart (I:DI K as0 B O own Z U H):∀ a∈own,a∉as0:=fun a J z=>I.ex0 a z (I.fresh a J)
def DI.baseIn (I:DI K as0 B O own Z U H):aH B (aP own H):=Hi I.same I.fresh
end
abbrev FE:=Sd->R D
abbrev FT:=Sd->R Bool
abbrev FA:=Sd->R (abC)
def tD (W:Wd) (O:abu) (φ:FE):TE:=fun Z H Q=>∃ as0 B own U,DI W.K as0 B O own Z U H/\dI W (own++as0) H (φ U) Q
def tN (W:Wd) (O:abu) (φ:FE):TE:=fun Z H Q=>∃ as0 B own U,DI W.K as0 B O own Z U H/\jH W (own++as0) H (φ U) Q
def uN (W:Wd) (O:abu) (φ:FT):TT:=fun Z H Q=>∃ as0 B own U,DI W.K as0 B O own Z U H/\jG W H (φ U) Q
def Cz (W:Wd) (O:abu) (φ:FA):TA:=fun Z H Q=>∃ as0 B own U,DI W.K as0 B O own Z U H/\lH W (own++as0) H (φ U) Q
def TB (W:Wd) (O:abu) (φ:Sd->R (Option Int)):TO:=fun Z H Q=>∃ as0 B own U,DI W.K as0 B O own Z U H/\jG W H (φ U) Q
section
variable {W:Wd} {as:abz} {H:Hp} {Q:VK}
def bS {r:R D} {f:D->R D} {Q':VK} (h:dI W as H (r.bind f) Q) (q:∀ d v H',aH H H'->dF W.K (aP as H') d v->dI W as H' (f d) Q->Q' v H'):dI W as H r Q':=by
 cases r with
 | ok d=>exact fun v H' s J=>q d v H' s J (dI.mono h s)
 | er x=>exact h
 | no=>exact h
def gP {r:R (abC)} {f:abC->R D} {Q':abB->Hp->Prop} (h:dI W as H (r.bind f) Q) (q:∀ d v H',aH H H'->aN W.K (aP as H') d v->dI W as H' (f d) Q->Q' v H'):lH W as H r Q':=by
 cases r with
 | ok d=>exact fun v H' s J=>q d v H' s J (dI.mono h s)
 | er x=>exact h
 | no=>exact h
def jw {r:R (abC)} {f:abC->R D} {Q':abB->Hp->Prop} (h:jH W as H (r.bind f) Q) (q:∀ d v H',aH H H'->aN W.K (aP as H') d v->jH W as H' (f d) Q->Q' v H'):lH W as H r Q':=by
 cases r with
 | ok d=>exact fun v H' s J=>q d v H' s J (jH.mono h s)
 | er x=>exact h
 | no=>exact h
def sT {α:Type} {r:R α} {f:α->R D} {Q':α->Hp->Prop} (h:dI W as H (r.bind f) Q) (q:∀ d H',aH H H'->dI W as H' (f d) Q->Q' d H'):jG W H r Q':=by
 cases r with
 | ok d=>exact fun H' s=>q d H' s (dI.mono h s)
 | er x=>exact h
 | no=>exact h
def iV {α:Type} {r:R D} {f:D->R α} {Q:α->Hp->Prop} {Q':VK} (h:jG W H (r.bind f) Q) (q:∀ d v H',aH H H'->dF W.K (aP as H') d v->jG W H' (f d) Q->Q' v H'):dI W as H r Q':=by
 cases r with
 | ok d=>exact fun v H' s J=>q d v H' s J (jG.mono h s)
 | er x=>exact h
 | no=>exact h
def qb {α J:Type} {r:R α} {f:α->R J} {Q:J->Hp->Prop} {Q':α->Hp->Prop} (h:jG W H (r.bind f) Q) (q:∀ d H',aH H H'->jG W H' (f d) Q->Q' d H'):jG W H r Q':=by
 cases r with
 | ok d=>exact fun H' s=>q d H' s (jG.mono h s)
 | er x=>exact h
 | no=>exact h
def Dp {r:R D} {f:D->R (abC)} {Q:abB->Hp->Prop} {Q':VK} (h:lH W as H (r.bind f) Q) (q:∀ d v H',aH H H'->dF W.K (aP as H') d v->lH W as H' (f d) Q->Q' v H'):dI W as H r Q':=by
 cases r with
 | ok d=>exact fun v H' s J=>q d v H' s J (lH.mono h s)
 | er x=>exact h
 | no=>exact h
def B9 {r:R (abC)} {f:abC->R (abC)} {Q Q':abB->Hp->Prop} (h:lH W as H (r.bind f) Q) (q:∀ d v H',aH H H'->aN W.K (aP as H') d v->lH W as H' (f d) Q->Q' v H'):lH W as H r Q':=by
 cases r with
 | ok d=>exact fun v H' s J=>q d v H' s J (lH.mono h s)
 | er x=>exact h
 | no=>exact h
end
section
variable {X:Cx} {W:Wd} {O:abu} {a b c e:Wk} {φ ψ χ:FE} {pos:Pos} {rest es:List Wk} {α:FA}
def ag (i:Nat):FE:=fun U=>match U[i]? with
 | some (some d)=>.ok d
 | _=>.no
def vC (d:D):FE:=fun _=>.ok d
def ae (i:Nat) {x:Str} (hO:i∉O:=by decide) (L:X.N[i]?=some x:=by rfl) (Y:Ev X.env.scope x:=by walk_at"v") (hd:abD x:=by decide)
  (J:(x==("__classdict__":Str))=false:=by decide):JE X (.Name x pos) (tD W O (ag i)):=(jv i L Y hd J).imp fun Z H Q hh=>gB hh fun as0 B own U I h=>by
 unfold ag at h;split at h
 .rename_i d e;obtain ⟨v,h1,h2⟩:=I.var i d hO e;show yk Z[i]? H Q;rw [h1];exact h v H (aH.refl H) h2
 .exact h.elim
def ak {i j}:JE X (.Constant (.int i) j pos) (tD W O (vC (.int i))):=Q4.imp fun Z H Q J=>gB J fun as0 B own U I h=>h _ H (aH.refl H) rfl
def gw {b j}:JE X (.Constant (.bool b) j pos) (tD W O (vC (.bl b))):=Ud.imp fun Z H Q J=>gB J fun as0 B own U I h=>h _ H (aH.refl H) rfl
def nF {j}:JE X (.Constant .none j pos) (tD W O (vC .non)):=Q7.imp fun Z H Q J=>gB J fun as0 B own U I h=>h _ H (aH.refl H) rfl
def bE {x j}:JE X (.Constant (.str x) j pos) (tD W O (vC (.str x))):=QT.imp fun Z H Q J=>gB J fun as0 B own U I h=>h _ H (aH.refl H) rfl
def jS {x:Str} {d:D} {v:V} {u:gs} (L:X.mg x=some u) (r:bq v u) (hd:∀ H,dF W.K H d v) (Y:Gl X x:=by rfl) (J:abD x:=by decide):JE X (.Name x pos) (tD W O (vC d)) :=
 (Ih L r Y J).imp fun Z H Q hh=>gB hh fun as0 B own U I h=>h _ H (aH.refl H) (hd _)
def lU {x:Str} {n:String} (L:X.mg x=none) (J:VO x=some (.type n)) (Y:Gl X x:=by rfl) (hn:x≠"__name__":=by decide) (hd:abD x:=by decide):JE X (.Name x pos) (tD W O (vC (.ty n))) :=
 (T3 L J Y hn hd).imp fun Z H Q hh=>gB hh fun as0 B own U I h=>h _ H (aH.refl H) rfl
def uk (W:Wd) (r:R2) (op:D->D->R D):Prop:=∀ (as:abz) (H:Hp) (x y:V) (a b:D) (Q:VK),(∀ p,H p=none->p∉as)->dF W.K (aP as H) a x->dF W.K (aP as H) b y->dI W as H (op a b) Q->r x y H Q
def av (op:D->D->R D) (φ ψ:FE):FE:=fun U=>(φ U).bind fun x=>(ψ U).bind fun y=>op x y
def Iq {t:TE->TE->TE} {r:R2} {op:D->D->R D} (ht:∀ {ta tb:TE},JE X a ta->JE X b tb->JE X e (t ta tb)) (et:t=D9 r) (ho:uk W r op) (ha:JE X a (tD W O φ)) (hb:JE X b (tD W O ψ)):JE X e (tD W O (av op φ ψ)):=by
 subst et;refine (ht ha hb).imp fun Z H Q hh=>gB hh fun as0 B own U I h=>⟨as0,B,own,U,I,bS h fun x v H1 J d1 h1=>⟨as0,B,own,U,I.mono J,bS h1 fun y u H2 L d2 h2=>?_⟩⟩;exact ho (own++as0) H2 v u x y Q (fun p Y=>((I.mono J).mono L).new Y) (d1.mono (bh L)) d2 h2
def aM {op:Operator} {r:R2} {g:D->D->R D} (L:ga X (W8 op) r) (hd:uk W r g) (J:JE X a (tD W O φ)) (Y:JE X b (tD W O ψ)):JE X (.BinOp a op b pos) (tD W O (av g φ ψ)) :=
 Iq (t:=D9 r) (fun h1 h2=>Ug L h1 h2) rfl hd J Y
def c9 {op:CmpOp} {r:R2} {g:D->D->R D} (Y:ga X (VT op) r) (hd:uk W r g) (L:JE X a (tD W O φ)) (hb:JE X b (tD W O ψ)) (J:Xp op b=false):JE X (.Compare a [op] [b] pos) (tD W O (av g φ ψ)) :=
 Iq (t:=D9 r) (fun h1 h2=>Te Y h1 h2 J) rfl hd L hb
def bj {r:R2} {g:D->D->R D} (J:CY X r) (hd:uk W r g) (L:JE X a (tD W O φ)) (hb:JE X b (tD W O ψ)) (Y:wE b:=by exact fun _ _=>rfl):JE X (.Subscript a b pos) (tD W O (av g φ ψ)) :=
 Iq (t:=D9 r) (fun h1 h2=>SI J h1 h2 Y) rfl hd L hb
def VA (W:Wd) (r:V->Hp->VK->Prop) (op:D->R D):Prop:=∀ (as:abz) (H:Hp) (x:V) (a:D) (Q:VK),dF W.K (aP as H) a x->dI W as H (op a) Q->r x H Q
def Fg (op:D->R D) (φ:FE):FE:=fun U=>(φ U).bind op
def G4 {op:UnaryOp} {r:V->Hp->VK->Prop} {g:D->R D} (L:Ld X (unaryOp op) r) (hd:VA W r g) (J:JE X a (tD W O φ)):JE X (.UnaryOp op a pos) (tD W O (Fg g φ)) :=
 (Us L J).imp fun Z H Q Y=>gB Y fun as0 B own U I h=>⟨as0,B,own,U,I,bS h fun x v H1 s1 d1 h1=>hd (own++as0) H1 v x Q d1 h1⟩
def Jy {α:Type} (d:D) (f:Bool->R α):R α:=match d with
 | .bl b=>f b
 | _=>.no
def L3 (φ:FE):FE:=fun U=>(φ U).bind fun x=>Jy x fun b=>.ok (.bl (!b))
def eU (φ ψ:FE):FE:=fun U=>(φ U).bind fun x=>Jy x fun b=>if b=true then ψ U else .ok (.bl false)
def Pk (φ ψ:FE):FE:=fun U=>(φ U).bind fun x=>Jy x fun b=>if b=true then .ok (.bl true) else ψ U
def Sl (J:JE X a (tD W O φ)):JE X (.UnaryOp .Not a pos) (tD W O (L3 φ)) :=
 (R5 J).imp fun Z H Q L=>gB L fun as0 B own U I h=>⟨as0,B,own,U,I,bS h fun x v H1 Y d1 h1=>by
  cases x with
  | bl b=>cases d1;exact h1 _ H1 (aH.refl _) rfl
  | _=>exact h1.elim⟩
def eI {op} (h:JE X a (tD W O φ)):JE X (.BoolOp op [a] pos) (tD W O φ):=SV h
def cR (J:JE X a (tD W O φ)) (Y:JE X (.BoolOp .And (b::rest) pos) (tD W O ψ)):JE X (.BoolOp .And (a::b::rest) pos) (tD W O (eU φ ψ)) :=
 (QH J Y).imp fun Z H Q hh=>gB hh fun as0 B own U I h=>⟨as0,B,own,U,I,bS h fun x v H1 L d1 h1=>by
  cases x with
  | bl b =>
   cases d1;cases b with
   | true=>exact ⟨as0,B,own,U,I.mono L,h1⟩
   | false=>exact h1 _ H1 (aH.refl _) rfl
  | _=>exact h1.elim⟩
def QJ (J:JE X a (tD W O φ)) (Y:JE X (.BoolOp .Or (b::rest) pos) (tD W O ψ)):JE X (.BoolOp .Or (a::b::rest) pos) (tD W O (Pk φ ψ)) :=
 (Uc J Y).imp fun Z H Q hh=>gB hh fun as0 B own U I h=>⟨as0,B,own,U,I,bS h fun x v H1 L d1 h1=>by
  cases x with
  | bl b =>
   cases d1;cases b with
   | false=>exact ⟨as0,B,own,U,I.mono L,h1⟩
   | true=>exact h1 _ H1 (aH.refl _) rfl
  | _=>exact h1.elim⟩
variable {τ υ:FT}
def bV (φ:FE):FT:=fun U=>(φ U).bind fun x=>Jy x .ok
def aQ {op:CmpOp} {r:R2} {g:D->D->R D} (ho:ga X (VT op) r) (hd:uk W r g) (ha:JE X a (tD W O φ)) (hb:JE X b (tD W O ψ)) (hm:Xp op b=false):JT X (.Compare a [op] [b] pos) (uN W O (bV (av g φ ψ))):=by
 refine (Kx ho ha hb hm).imp fun Z H Q hh=>gB hh fun as0 B own U I h=>?_;have h':jG W H ((φ U).bind fun x=>((ψ U).bind fun y=>g x y).bind fun x=>Jy x .ok) Q:=by
  have e:bV (av g φ ψ) U=(φ U).bind fun x=>((ψ U).bind fun y=>g x y).bind fun x=>Jy x .ok:=by
   unfold bV av;rw [bind_assoc]
  rw [e] at h;exact h
 refine ⟨as0,B,own,U,I,iV h' fun x v H1 Y d1 h1=>?_⟩;have J:jG W H1 ((ψ U).bind fun y=>(g x y).bind fun x=>Jy x .ok) Q:=by rw [<- bind_assoc];exact h1
 refine ⟨as0,B,own,U,I.mono Y,iV J fun y u H2 s2 d2 h2=>?_⟩;refine hd (own++as0) H2 v u x y _ (fun p hp=>((I.mono Y).mono s2).new hp) (d1.mono (bh s2)) d2 (iV h2 fun z w H3 s3 d3 L=>?_);cases z with
 | bl k=>cases d3;exact L H3 (aH.refl _)
 | _=>exact L.elim
def N2:D->R Bool
 | .non=>.ok false
 | .bl b=>.ok b
 | .int i=>.ok (i != 0)
 | .str y=>if y.length<=1000000 then .ok (y.length != 0) else .no
 | .lst xs=>.ok (!xs.isEmpty)
 | .tup xs=>.ok (!xs.isEmpty)
 | .dct kvs=>.ok (!kvs.isEmpty)
 | _=>.no
def aN.empty {K:aT} {H:Hp} {ds:abC} {xs:abB} (h:aN K H ds xs):xs.isEmpty=ds.isEmpty:=by
 cases ds with
 | nil=>cases h;rfl
 | cons d r=>obtain ⟨v,vs,rfl,_⟩:=h;rfl
def eZ.empty {K:aT} {H:Hp} {ds:List (Key×D)} {xs:List (Key×V)} (h:eZ K H ds xs):xs.isEmpty=ds.isEmpty:=by
 cases ds with
 | nil=>cases h;rfl
 | cons d r=>obtain ⟨k,d⟩:=d;obtain ⟨v,vs,rfl,_⟩:=h;rfl
def fI:(1000000:Nat)<=IF:=by rw [V6];decide
def dG (φ:FE):FT:=fun U=>(φ U).bind N2
def bm (K:aT) (ha:JE X a (tD W O φ)) (he:∀ J,isTrue a X.env J=(do let v <- J;aaM a.pos;holding [v] (truthy v)):=by exact fun _=>rfl) (hK:X.K=K:=by rfl) (hW:W.K=K:=by rfl):JT X a (uN W O (dG φ)) :=
 (Jn K ha he hK).imp fun Z H Q hh=>gB hh fun as0 B own U I h=>⟨as0,B,own,U,I,iV h fun x v H1 s1 d1 h1=>by
  subst hW;cases x with
  | non=>cases d1;exact h1 H1 (aH.refl _)
  | bl b=>cases d1;exact h1 H1 (aH.refl _)
  | int i=>cases d1;exact h1 H1 (aH.refl _)
  | str y =>
   cases d1;have h2:jG W H1 (if y.length<=1000000 then R.ok (y.length != 0) else R.no) Q:=h1;split at h2
   .rename_i hl;refine ⟨RW hl fI,?_⟩;have e:((y.length:Int) != 0)=(y.length != 0):=by
     cases hy:y.length with
     | zero=>rfl
     | succ n=>simp;omega
    rw [e];exact h2 H1 (aH.refl _)
   .exact h2.elim
  | lst ds =>
   obtain ⟨p,xs,rfl,L,Y⟩:=d1;refine .inl (.inl ⟨xs,(aC _ _).seq L,?_⟩);rw [Y.empty];exact h1 H1 (aH.refl _)
  | tup ds =>
   obtain ⟨p,xs,rfl,L,Y⟩:=d1;refine .inl (.inr ⟨xs,(aC _ _).seqT L,?_⟩);rw [Y.empty];exact h1 H1 (aH.refl _)
  | dct ds =>
   obtain ⟨p,xs,rfl,L,Y⟩:=d1;refine .inr ⟨xs,aC _ _ _ _ L,?_⟩;rw [Y.empty];exact h1 H1 (aH.refl _)
  | _=>exact h1.elim⟩
def tV (τ υ:FT):FT:=fun U=>(τ U).bind fun b=>if b=true then υ U else .ok false
def rR (τ υ:FT):FT:=fun U=>(τ U).bind fun b=>if b=true then .ok true else υ U
def fQ (τ:FT):FT:=fun U=>(τ U).bind fun b=>.ok (!b)
def b4 (h:JW X a (uN W O τ)):JT X a (uN W O τ):=K6 h
def rj (J:JT X a (uN W O τ)):JW X (.BoolOp .And [a] pos) (uN W O τ):=LY J
def fv (J:JT X a (uN W O τ)):JW X (.BoolOp .Or [a] pos) (uN W O τ):=Qk J
def sV (Y:JT X a (uN W O τ)) (L:JW X (.BoolOp .And (b::rest) pos) (uN W O υ)):JW X (.BoolOp .And (a::b::rest) pos) (uN W O (tV τ υ)) :=
 (Oj Y L).imp fun Z H Q hh=>gB hh fun as0 B own U I h=>⟨as0,B,own,U,I,qb h fun c H1 J h1=>by
  cases c with
  | true=>exact ⟨as0,B,own,U,I.mono J,h1⟩
  | false=>exact h1 H1 (aH.refl _)⟩
def gr (Y:JT X a (uN W O τ)) (L:JW X (.BoolOp .Or (b::rest) pos) (uN W O υ)):JW X (.BoolOp .Or (a::b::rest) pos) (uN W O (rR τ υ)) :=
 (Sf Y L).imp fun Z H Q hh=>gB hh fun as0 B own U I h=>⟨as0,B,own,U,I,qb h fun c H1 J h1=>by
  cases c with
  | false=>exact ⟨as0,B,own,U,I.mono J,h1⟩
  | true=>exact h1 H1 (aH.refl _)⟩
def cq (J:JT X a (uN W O τ)):JT X (.UnaryOp .Not a pos) (uN W O (fQ τ)) :=
 (N8 J).imp fun Z H Q L=>gB L fun as0 B own U I h=>⟨as0,B,own,U,I,qb h fun c H1 Y h1=>h1 H1 (aH.refl _)⟩
def Na (τ:FT) (φ ψ:FE):FE:=fun U=>(τ U).bind fun b=>if b=true then φ U else ψ U
def Fh (L:JT X c (uN W O τ)) (ha:JE X a (tD W O φ)) (Y:JE X b (tD W O ψ)):JE X (.IfExp c a b pos) (tD W O (Na τ φ ψ)) :=
 (RD L ha Y).imp fun Z H Q hh=>gB hh fun as0 B own U I h=>⟨as0,B,own,U,I,sT h fun c H1 J h1=>by
  cases c with
  | true=>exact ⟨as0,B,own,U,I.mono J,h1⟩
  | false=>exact ⟨as0,B,own,U,I.mono J,h1⟩⟩
def am:FA:=fun _=>.ok []
def ab (φ:FE) (α:FA):FA:=fun U=>(φ U).bind fun d=>(α U).bind fun ds=>.ok (d::ds)
def ah:JA X [] (Cz W O am):=vv.imp fun Z H Q J=>gB J fun as0 B own U I h=>h [] H (aH.refl _) rfl
def aa (J:JE X e (tD W O φ)) (L:JA X es (Cz W O α)) (hn:bw e=true:=by rfl):JA X (e::es) (Cz W O (ab φ α)) :=
 (rq J L hn).imp fun Z H Q hh=>gB hh fun as0 B own U I h=>⟨as0,B,own,U,I,Dp h fun d v H1 Y d1 h1=>⟨as0,B,own,U,I.mono Y,B9 h1 fun ds vs H2 s2 d2 h2 =>
  h2 (v::vs) H2 (aH.refl _) ⟨v,vs,rfl,d1.mono (bh s2),d2⟩⟩⟩
def CJ (ds:abC):R D:=if ds.length<=1000000 then .ok (.lst ds) else .no
def EU (ds:abC):R D:=if ds.length<=1000000 then .ok (.tup ds) else .no
def fA (α:FA):FE:=fun U=>(α U).bind CJ
def dM (α:FA):FE:=fun U=>(α U).bind EU
def Ht {as:abz} {H:Hp} {ds:abC} {xs:abB} {Q:VK} (h:jH W as H (CJ ds) Q) (hd:aN W.K (aP as H) ds xs):xs.length<=IF/\∀ p,H p=none->Q (.ref p) (upd H p (.lst xs)):=by
 unfold CJ at h;split at h
 .rename_i hl;refine ⟨by rw [<- hd.len];exact RW hl fI,fun p L=>?_⟩;refine h p (.lst xs) (upd H p (.lst xs)) (bn L _) L a9 ⟨xs,rfl,hd.mono ?_⟩;intro b o e;have Y:b≠p:=fun z=>by
   subst z
   have:=aC _ _ _ _ e
   rw [L] at this;cases this
  by_cases J:b∈as
  .rw [fD J] at e;cases e
  .rw [bc J] at e;rw [bc (by simp [Y,J]),aU Y];exact e
 .exact h.elim
def eX (h:JA X es (Cz W O α)):JE X (.List es pos) (tN W O (fA α)) :=
 (Tu h).imp fun Z H Q J=>gB J fun as0 B own U I h=>⟨as0,B,own,U,I,jw h fun ds xs H1 L d1 h1=>Ht h1 d1⟩
def bA (h:JE X e (tN W O φ)):JE X e (tD W O φ):=h.imp fun Z H Q L=>gB L fun as0 B own U I q=>by
 refine ⟨as0,B,own,U,I,?_⟩;cases hr:φ U with
 | ok d =>
  rw [hr] at q;exact fun p o H' s J e od=>q (.ref p) H' s (od.den (I.new J) e)
 | er x=>rw [hr] at q;exact q
 | no=>rw [hr] at q;exact q
def dJ {x1} (h:JA X es (Cz W O α)):JE X (.Tuple es x1 pos) (tD W O (dM α)) :=
 (S8 h).imp fun Z H Q Y=>gB Y fun as0 B own U I h=>⟨as0,B,own,U,I,gP h fun ds xs H1 L d1 h1=>by
  unfold EU at h1;split at h1
  .rename_i hl;refine ⟨by rw [<- d1.len];exact RW hl fI,fun p J=>?_⟩;have hn:=(I.mono L).new J;refine h1 (.ref p) (upd H1 p (.tup xs)) (bn J _) ⟨p,xs,rfl,.inl (.inl ?_),d1.mono (bh (bn J _))⟩;rw [bc hn];exact a9
  .exact h1.elim⟩
def sx (W:Wd) (r:abB->Hp->VK->Prop) (g:abC->R D):Prop:=∀ (as:abz) (H:Hp) (xs:abB) (ds:abC) (Q:VK),(∀ a∈as,H a≠none)->aN W.K (aP as H) ds xs->dI W as H (g ds) Q->r xs H Q
def BQ (W:Wd) (r:abB->Hp->VK->Prop) (g:abC->R D):Prop:=∀ (as:abz) (H:Hp) (xs:abB) (ds:abC) (Q:VK),(∀ a∈as,H a≠none)->aN W.K (aP as H) ds xs->jH W as H (g ds) Q->r xs H Q
def aj (g:abC->R D) (α:FA):FE:=fun U=>(α U).bind g
section
variable {x:Str} {p:Pos} {id T:String} {r:abB->Hp->VK->Prop} {g:abC->R D}
def aF (L:ce X (.builtin id) r) (hd:sx W r g) (Y:X.mg x=none) (hv:VO x=some (.builtin id)) (ha:JA X (e::es) (Cz W O α)) (hg:Gl X x:=by rfl) (h1:bw e=true:=by rfl) (h2:es.all bw=true:=by rfl) (hn:x≠"__name__":=by decide) (J:abD x:=by decide) :
  JE X (.Call (.Name x p) (e::es) [] pos) (tD W O (aj g α)) :=
 (A7 L Y hv ha hg h1 h2 hn J).imp fun Z H Q hh=>gB hh fun as0 B own U I h=>⟨as0,B,own,U,I,gP h fun ds xs H1 s1 d1 h1=>hd (own++as0) H1 xs ds Q (I.mono s1).exi d1 h1⟩
def E2 (L:ce X (.type T) r) (hd:sx W r g) (Y:X.mg x=none) (hv:VO x=some (.type T)) (ha:JA X (e::es) (Cz W O α)) (hg:Gl X x:=by rfl) (h1:bw e=true:=by rfl) (h2:es.all bw=true:=by rfl) (hn:x≠"__name__":=by decide) (J:abD x:=by decide) :
  JE X (.Call (.Name x p) (e::es) [] pos) (tD W O (aj g α)) :=
 (AV L Y hv ha hg h1 h2 hn J).imp fun Z H Q hh=>gB hh fun as0 B own U I h=>⟨as0,B,own,U,I,gP h fun ds xs H1 s1 d1 h1=>hd (own++as0) H1 xs ds Q (I.mono s1).exi d1 h1⟩
def fL (L:ce X (.type T) r) (hd:BQ W r g) (Y:X.mg x=none) (hv:VO x=some (.type T)) (ha:JA X (e::es) (Cz W O α)) (hg:Gl X x:=by rfl) (h1:bw e=true:=by rfl) (h2:es.all bw=true:=by rfl) (hn:x≠"__name__":=by decide) (J:abD x:=by decide) :
  JE X (.Call (.Name x p) (e::es) [] pos) (tN W O (aj g α)) :=
 (AV L Y hv ha hg h1 h2 hn J).imp fun Z H Q hh=>gB hh fun as0 B own U I h=>⟨as0,B,own,U,I,jw h fun ds xs H1 s1 d1 h1=>hd (own++as0) H1 xs ds Q (I.mono s1).exi d1 h1⟩
end
def nN:Sd->R (Option Int):=fun _=>.ok none
def hZ (φ:FE):Sd->R (Option Int):=fun U=>(φ U).bind fun d=>match d with
 | .int i=>.ok (some i)
 | _=>.no
def kr:JO X none (TB W O nN):=LD.imp fun Z H Q J=>gB J fun as0 B own U I h=>h H (aH.refl _)
def fH (h:JE X e (tD W O φ)):JO X (some e) (TB W O (hZ φ)):=(Lc h).imp fun Z H Q J=>gB J fun as0 B own U I h=>⟨as0,B,own,U,I,iV h fun d v H1 L d1 h1=>by
  cases d with
  | int i=>cases d1;exact h1 H1 (aH.refl _)
  | _=>exact h1.elim⟩
def Va (W:Wd) (r:V->Option Int->Option Int->Hp->VK->Prop) (g:D->Option Int->Option Int->R D):Prop :=
 ∀ (as:abz) (H:Hp) (x:V) (lo hi:Option Int) (a:D) (Q:VK),(∀ p,H p=none->p∉as)->dF W.K (aP as H) a x->dI W as H (g a lo hi) Q->r x lo hi H Q
def Bg (g:D->Option Int->Option Int->R D) (φ:FE) (l u:Sd->R (Option Int)):FE:=fun U=>(φ U).bind fun x=>(l U).bind fun lo=>(u U).bind fun hi=>g x lo hi
def im {r:V->Option Int->Option Int->Hp->VK->Prop} {g:D->Option Int->Option Int->R D} {lo hi:Option Wk} {l u:Sd->R (Option Int)} {p2:Pos} (hr:BX X r) (hd:Va W r g) (he:JE X e (tD W O φ)) (hl:JO X lo (TB W O l)) (hu:JO X hi (TB W O u)) :
  JE X (.Subscript e (.Slice lo hi none p2) pos) (tD W O (Bg g φ l u)) :=
 (LH hr he hl hu).imp fun Z H Q hh=>gB hh fun as0 B own U I h=>⟨as0,B,own,U,I,bS h fun x v H1 J d1 h1=>⟨as0,B,own,U,I.mono J,sT h1 fun lo H2 L h2=>⟨as0,B,own,U,(I.mono J).mono L,sT h2 fun hi H3 Y h3 =>
  hd (own++as0) H3 v lo hi x Q (fun p hp=>(((I.mono J).mono L).mono Y).new hp) (d1.mono (bh (L.trans Y))) h3⟩⟩⟩
def Vj (W:Wd) (r:Str->abB->Hp->VK->Prop) (g:Str->abC->R D):Prop :=
 ∀ (as:abz) (H:Hp) (z:Str) (xs:abB) (ds:abC) (Q:VK),(∀ p,H p=none->p∉as)->aN W.K (aP as H) ds xs->dI W as H (g z ds) Q->r z xs H Q
def Rj (g:Str->abC->R D) (φ:FE) (α:FA):FE:=fun U=>(φ U).bind fun x=>match x with
 | .str z=>(α U).bind fun ds=>g z ds
 | _=>.no
def Ro {o:Wk} {name:Str} {apos cpos:Pos} {id:String} {r:Str->abB->Hp->VK->Prop} {g:Str->abC->R D} (Y:Slot "str" name id) (hty:typeOf (.builtin id)=pure (.type "method_descriptor")) (hm:TQ X id r) (hd:Vj W r g) (ho:JE X o (tD W O φ)) (ha:JA X (e::es) (Cz W O α))
  (J:WG o name X.env (eval o X.env)=eval o X.env:=by rfl) (L:(apos.endLine==cpos.line)=true:=by rfl) (h1:(e::es).all bw=true:=by rfl) (hl:(e::es).length < 29:=by decide) :
  JE X (.Call (.Attribute o name apos) (e::es) [] cpos) (tD W O (Rj g φ α)) :=
 (U0 Y hty hm ho ha J L h1 hl).imp fun Z H Q hh=>gB hh fun as0 B own U I h=>⟨as0,B,own,U,I,bS h fun x v H1 s1 d1 h1=>by
  cases x with
  | str z =>
   cases d1;exact ⟨as0,B,own,U,I.mono s1,gP h1 fun ds xs H2 s2 d2 h2=>hd (own++as0) H2 z xs ds Q (fun p hp=>((I.mono s1).mono s2).new hp) d2 h2⟩
  | _=>exact h1.elim⟩
end
inductive Fl where
 | nx (U:Sd)|rt (d:D)|bk (U:Sd)|ct (U:Sd)
 /-- a return of what is laid anew,and nobody else's -/
 | rn (d:D)
abbrev FS:=Sd->R Fl
def gu (W:Wd) (as0:abz) (B:Hp) (Ob O':abu) (r:R Fl) (D:Ends):Prop:=match r with
 | .ok (.nx U)=>∀ own Z H,DI W.K as0 B O' own Z U H->D.nx Z H
 | .ok (.bk U)=>∀ own Z H,DI W.K as0 B Ob own Z U H->D.bk Z H
 | .ok (.ct U)=>∀ own Z H,DI W.K as0 B Ob own Z U H->D.ct Z H
 | .ok (.rt d)=>∀ v H,aH B H->dF W.K (aP as0 H) d v->D.rt v H
 | .ok (.rn d)=>∀ p o H,aH B H->B p=none->H p=some o->oC W.K (aP (p::as0) H) o d->D.rt (.ref p) H
 | .er x=>∀ e C H,aH B H->W.mg x=some (.ref C)->W.E e (some C) H
 | .no=>False
def sD (W:Wd) (Ob O O':abu) (φ:FS):TS:=fun D Z H=>∃ as0 B own U,DI W.K as0 B O own Z U H/\gu W as0 B Ob O' (φ U) D
section
variable {W:Wd} {as0 own:abz} {B H:Hp} {Ob O O':abu} {Z:St} {U:Sd} {D':Ends}
def i9 {r:R D} {f:D->R Fl} {Q:VK} (I:DI W.K as0 B O own Z U H) (h:gu W as0 B Ob O' (r.bind f) D') (q:∀ d v H',aH H H'->dF W.K (aP (own++as0) H') d v->gu W as0 B Ob O' (f d) D'->Q v H'):dI W (own++as0) H r Q:=by
 cases r with
 | ok d=>exact fun v H' s J=>q d v H' s J h
 | er x=>exact fun e C H' s=>h e C H' (I.same.trans s)
 | no=>exact h
def v6 {r:R D} {f:D->R Fl} {Q:VK} (I:DI W.K as0 B O own Z U H) (h:gu W as0 B Ob O' (r.bind f) D') (q:∀ d p o H',aH H H'->H p=none->H' p=some o->oC W.K (aP (p::(own++as0)) H') o d->gu W as0 B Ob O' (f d) D'->Q (.ref p) H'):jH W (own++as0) H r Q:=by
 cases r with
 | ok d=>exact fun p o H' s h1 h2 J=>q d p o H' s h1 h2 J h
 | er x=>exact fun e C H' s=>h e C H' (I.same.trans s)
 | no=>exact h
def qN {α:Type} {r:R α} {f:α->R Fl} {Q:α->Hp->Prop} (I:DI W.K as0 B O own Z U H) (h:gu W as0 B Ob O' (r.bind f) D') (q:∀ d H',aH H H'->gu W as0 B Ob O' (f d) D'->Q d H'):jG W H r Q:=by
 cases r with
 | ok d=>exact fun H' s=>q d H' s h
 | er x=>exact fun e C H' s=>h e C H' (I.same.trans s)
 | no=>exact h
def gu.base {L:Hp} {r:R Fl} (h:gu W as0 B Ob O' r D') (s:aH B L) (J:∀ a∈as0,B a≠none):gu W as0 L Ob O' r D':=by
 cases r with
 | ok f =>
  cases f with
  | nx U=>exact fun own Z H I=>h own Z H (I.base s J)
  | bk U=>exact fun own Z H I=>h own Z H (I.base s J)
  | ct U=>exact fun own Z H I=>h own Z H (I.base s J)
  | rt d=>exact fun v H s'=>h v H (s.trans s')
  | rn d=>exact fun p o H s' Y=>h p o H (s.trans s') (s.free Y)
 | er x=>exact fun e C H s'=>h e C H (s.trans s')
 | no=>exact h
def getElem?_set' {α:Type} {l:List α} {i j:Nat} {x:α}:(l.set i x)[j]?=if i=j then (if i < l.length then some x else none) else l[j]?:=List.getElem?_set
def DI.set {i:Nat} {d:D} {v:V} (I:DI W.K as0 B O own Z U H) (Y:i∉O) (h:dF W.K (aP (own++as0) H) d v):DI W.K as0 B O own (Z.set i (some v)) (U.set i (some d)) H:=by
 refine ⟨by simp [I.len],I.olen,I.nd,I.ond,I.fresh,I.ex0,I.same,fun j e J q=>?_,fun j a J=>?_⟩
 .rw [getElem?_set'] at q ⊢;split at q
  .rename_i hij;rw [abn hij];split at q
   .rename_i hl;rw [abn (by rw [<- I.len];exact hl)];cases q;exact ⟨v,rfl,h⟩
   .cases q
  .rename_i hij;rw [abo hij];exact I.var j e J q
 .have hji:i≠j:=fun z=>Y (by rw [z];exact (V5 J).1);obtain ⟨d',o,h1,h2,L,h4⟩:=I.owns j a J;exact ⟨d',o,by rw [getElem?_set',abo hji];exact h1,by rw [getElem?_set',abo hji];exact h2,L,h4⟩
def zip_inj:∀ {O:abu} {own:abz} {i j:Nat} {a:Do},own.Nodup->(i,a)∈O.zip own->(j,a)∈O.zip own->i=j
 | [],_,_,_,_,_,h,_=>by simp at h
 | _::_,[],_,_,_,_,h,_=>by simp at h
 | k::O,b::own,i,j,a,nd,h1,h2=>by
  rw [Wp] at h1 h2;rw [Wm] at nd;rcases nE.mp h1 with e1|h1 <;> rcases nE.mp h2 with e2|h2
  .cases e1;cases e2;rfl
  .cases e1;exact absurd (V5 h2).2 nd.1
  .cases e2;exact absurd (V5 h1).2 nd.1
  .exact zip_inj nd.2 h1 h2
def fc:∀ {O:abu} {own:abz} {i:Nat},own.length=O.length->i∈O->∃ a,(i,a)∈O.zip own
 | [],_,_,_,h=>by cases h
 | k::O,[],_,l,_=>by simp at l
 | k::O,b::own,i,l,h=>by
  rcases nE.mp h with rfl|h
  .exact ⟨b,OR⟩
  .obtain ⟨a,J⟩:=fc (O:=O) (own:=own) (by simpa using l) h;exact ⟨a,mK _ J⟩
def bU (p:Nat->Bool):abu->abz->abz
 | i::O,a::own=>if p i=true then a::bU p O own else bU p O own
 | _,_=>[]
def mC {p:Nat->Bool}:∀ {O:abu} {own:abz},(bU p O own).Sublist own
 | [],own=>by simp [bU]
 | _::_,[]=>by simp [bU]
 | i::O,a::own=>by
  unfold bU;split
  .exact (mC (O:=O)).cons_cons a
  .exact (mC (O:=O)).cons a
def qk {p:Nat->Bool}:∀ {O:abu} {own:abz},own.length=O.length->(bU p O own).length=(O.filter p).length
 | [],[],_=>rfl
 | i::O,a::own,l=>by
  have J:=qk (p:=p) (O:=O) (own:=own) (by simpa using l);unfold bU;rw [List.filter_cons];split
  .simp [J]
  .exact J
 | [],_::_,l=>by simp at l
 | _::_,[],l=>by simp at l
def gT {p:Nat->Bool}:∀ {O:abu} {own:abz} {i:Nat} {a:Do},(i,a)∈(O.filter p).zip (bU p O own)->(i,a)∈O.zip own/\p i=true
 | [],_,_,_,h=>by simp at h
 | _::_,[],_,_,h=>by simp [bU] at h
 | k::O,b::own,i,a,h=>by
  unfold bU at h;rw [List.filter_cons] at h;by_cases J:p k=true
  .rw [abn J,abn J,Wp] at h;rcases nE.mp h with e|h
   .cases e;exact ⟨OR,J⟩
   .exact ⟨mK _ (gT h).1,(gT h).2⟩
  .rw [abo J,abo J] at h;exact ⟨mK _ (gT h).1,(gT h).2⟩
def mB {p:Nat->Bool}:∀ {O:abu} {own:abz} {a:Do},a∈bU p O own->∃ i,(i,a)∈O.zip own/\p i=true
 | [],_,_,h=>by simp [bU] at h
 | _::_,[],_,h=>by simp [bU] at h
 | k::O,b::own,a,h=>by
  unfold bU at h;split at h
  .rename_i hp;rcases nE.mp h with e|h
   .subst e;exact ⟨k,OR,hp⟩
   .obtain ⟨i,h1,h2⟩:=mB h;exact ⟨i,mK _ h1,h2⟩
  .obtain ⟨i,h1,h2⟩:=mB h;exact ⟨i,mK _ h1,h2⟩
def DI.freeze {O2:abu} (I:DI W.K as0 B O own Z U H) (hO:O.filter (fun i=>decide (i∈O2))=O2):∃ L,DI W.K as0 B O2 L Z U H:=by
 generalize hp:(fun i=>decide (i∈O2))=p at hO;have pi:∀ i,p i=decide (i∈O2):=fun i=>by rw [<- hp]
 have Y:(bU p O own).Sublist own:=mC;have mem:∀ a∈bU p O own,a∈own:=fun a J=>Y.mem J;have s:aH (aP (own++as0) H) (aP (bU p O own++as0) H):=qz fun a J=>by
  rcases MK.mp J with h|h
  .exact Wc _ (mem a h)
  .exact VG _ h
 refine ⟨bU p O own,I.len,by rw [qk I.olen,hO],I.nd.sublist Y,by rw [<- hO];exact I.ond.sublist YR,fun a J=>I.fresh a (mem a J),I.ex0,I.same,fun i d hi q=>?_,fun i a hi=>?_⟩
 .by_cases h:i∈O
  .obtain ⟨a,J⟩:=fc I.olen h;obtain ⟨d',o,h1,h2,h3,h4⟩:=I.owns i a J;rw [q] at h1;cases h1;refine ⟨.ref a,h2,oC.den ?_ h3 (h4.mono (qz fun b hb=>?_))⟩
   .intro z;rcases MK.mp z with z|z
    .obtain ⟨j,h5,h6⟩:=mB z
     have:=zip_inj I.nd J h5
     subst this;rw [pi] at h6;exact hi (abr h6)
    .exact I.apart a (V5 J).2 z
   .rcases nE.mp hb with rfl|hb
    .exact Wc _ (V5 J).2
    .rcases MK.mp hb with h|h
     .exact Wc _ (mem b h)
     .exact VG _ h
  .obtain ⟨v,h1,h2⟩:=I.var i d h q;exact ⟨v,h1,h2.mono s⟩
 .rw [<- hO] at hi;obtain ⟨d,o,h1,h2,h3,h4⟩:=I.owns i a (gT hi).1;exact ⟨d,o,h1,h2,h3,h4.mono s⟩
def DI.own1 {i:Nat} {d:D} {p:Do} {o:HO} (I:DI W.K as0 B O own Z U H) (Y:i∉O) (hp:B p=none) (hn:p∉own++as0) (e:H p=some o) (h:oC W.K (aP (p::(own++as0)) H) o d) (hi:i < U.length)
  (fr:∀ j d',j∉O->U[j]?=some (some d')->∃ v,Z[j]?=some (some v)/\dF W.K (aP (p::(own++as0)) H) d' v)
  (fo:∀ j a,(j,a)∈O.zip own->∃ d o,U[j]?=some (some d)/\Z[j]?=some (some (.ref a))/\H a=some o/\oC W.K (aP (p::(own++as0)) H) o d) :
  DI W.K as0 B (i::O) (p::own) (Z.set i (some (.ref p))) (U.set i (some d)) H:=by
 refine ⟨by simp [I.len],by simp [I.olen],Wm.mpr ⟨fun z=>hn (Wc _ z),I.nd⟩,Wm.mpr ⟨Y,I.ond⟩,fun a L=>?_,I.ex0,I.same,fun j e J q=>?_,fun j a J=>?_⟩
 .rcases nE.mp L with rfl|L
  .exact hp
  .exact I.fresh a L
 .have hji:i≠j:=fun z=>J (by rw [z];exact OR);rw [getElem?_set',abo hji] at q ⊢;exact fr j e (fun z=>J (mK _ z)) q
 .rw [Wp] at J;rcases nE.mp J with z|J
  .cases z;refine ⟨d,o,?_,?_,e,h⟩
   .rw [getElem?_set',abn rfl,abn hi]
   .rw [getElem?_set',abn rfl,abn (by rw [<- I.len];exact hi)]
  .have hji:i≠j:=fun z=>Y (by rw [z];exact (V5 J).1);obtain ⟨d',o',h1,h2,h3,h4⟩:=fo j a J;exact ⟨d',o',by rw [getElem?_set',abo hji];exact h1,by rw [getElem?_set',abo hji];exact h2,h3,h4⟩
end
section
variable {X:Cx} {W:Wd} {Ob O O' O1 O2:abu} {e c:Wk} {φ ψ:FS} {ε:FE} {τ:FT} {pos:Pos} {st:WO} {sts rest:List WO}
def bu:FS:=fun U=>.ok (.nx U)
def aD (φ ψ:FS):FS:=fun U=>(φ U).bind fun f=>match f with
 | .nx δ'=>ψ δ'
 | f=>.ok f
def aZ:JB X [] (sD W Ob O O bu):=PM.imp fun D Z H J=>gB J fun as0 B own U I h=>h own Z H I
def ap (h1:JS X st (sD W Ob O O1 φ)) (h2:JB X rest (sD W Ob O1 O2 ψ)):JB X (st::rest) (sD W Ob O O2 (aD φ ψ)):=(FJ h1 h2).imp fun D Z H hh=>gB hh fun as0 B own U I h=>by
 refine ⟨as0,B,own,U,I,?_⟩;unfold aD at h;cases hr:φ U with
 | ok f =>
  rw [hr] at h;cases f with
  | nx δ'=>exact fun J Y H' L=>⟨as0,B,J,δ',L,h⟩
  | rt d=>exact h
  | rn d=>exact h
  | bk d=>exact h
  | ct d=>exact h
 | er x=>rw [hr] at h;exact h
 | no=>rw [hr] at h;exact h
def ar (h1:JS X st (sD W Ob O O1 φ)):JB X [st] (sD W Ob O O1 φ):=OS h1
def yh (h:JB X sts (sD W Ob O2 O' φ)) (J:O.filter (fun i=>decide (i∈O2))=O2:=by decide):JB X sts (sD W Ob O O' φ):=h.imp fun D Z H L=>gB L fun as0 B own U I h =>
 let ⟨own2,I2⟩:=I.freeze J;⟨as0,B,own2,U,I2,h⟩
def K5 (h:JB X sts (sD W Ob O O1 φ)) (hO:O1.filter (fun i=>decide (i∈O2))=O2:=by decide):JB X sts (sD W Ob O O2 φ):=h.imp fun D Z H hh=>gB hh fun as0 B own U I h=>by
 refine ⟨as0,B,own,U,I,?_⟩;cases hr:φ U with
 | ok f =>
  rw [hr] at h;cases f with
  | nx δ'=>exact fun L J H' Y=>let ⟨own2,I2⟩:=Y.freeze hO;h own2 J H' I2
  | rt d=>exact h
  | rn d=>exact h
  | bk d=>exact h
  | ct d=>exact h
 | er x=>rw [hr] at h;exact h
 | no=>rw [hr] at h;exact h
def ba (ε:FE):FS:=fun U=>(ε U).bind fun d=>.ok (.rt d)
def aA (h:JE X e (tD W O ε)):JS X (.Return (some e) pos) (sD W Ob O O' (ba ε)):=(Pz h).imp fun D Z H L=>gB L fun as0 B own U I h =>
 ⟨as0,B,own,U,I,i9 I h fun d v H' s Y h'=>h' v H' (I.same.trans s) (Y.mono (qz fun a J=>VG _ J))⟩
def fb (τ:FT) (φ ψ:FS):FS:=fun U=>(τ U).bind fun b=>if b=true then φ U else ψ U
def bt {a b:List WO} (J:JT X c (uN W O τ)) (L:JB X a (sD W Ob O O' φ)) (Y:JB X b (sD W Ob O O' ψ)):JS X (.If c a b pos) (sD W Ob O O' (fb τ φ ψ)):=(NL J L Y).imp fun D Z H hh=>gB hh fun as0 B own U I h =>
 ⟨as0,B,own,U,I,qN I h fun b H' s h'=>by
  cases b with
  | true=>exact ⟨as0,B,own,U,I.mono s,h'⟩
  | false=>exact ⟨as0,B,own,U,I.mono s,h'⟩⟩
def bp (i:Nat) (ε:FE):FS:=fun U=>(ε U).bind fun d=>.ok (.nx (U.set i (some d)))
def aW {i:Nat} {x:Str} {pos':Pos} (hO:i∉O) (J:X.N.Nodup) (Y:HB X.env.scope x) (he:JE X e (tD W O ε)) (hi:X.N[i]?=some x:=by rfl) (L:XN e (some (.Name x pos')) pos.line X.env=pure false:=by rfl) (hf:X.fn x=true\/X.env.scope.names.lookup x=some .local:=by walk_at"u") :
  JS X (.Assign [.Name x pos'] e pos) (sD W Ob O O (bp i ε)):=(Kc J Y he hi L hf).imp fun D Z H hh=>gB hh fun as0 B own U I h =>
 ⟨as0,B,own,U,I,i9 I h fun d v H' s dv h'=>h' own _ H' ((I.mono s).set hO dv)⟩
def ow (i:Nat) (ε:FE):FS:=fun U=>(ε U).bind fun d=>if i < U.length then .ok (.nx (U.set i (some d))) else .no
def lv {as:abz} {H H':Hp} {p:Do} (Y:H p=none) (s:aH H H'):aH (aP as H) (aP (p::as) H'):=fun b o e=>by
 by_cases J:b∈as
 .rw [fD J] at e;cases e
 .rw [bc J] at e;have L:b≠p:=fun z=>by rw [z,Y] at e;cases e
  rw [bc (by simp [J,L])];exact s b o e
def HR {K:aT} {as0 own:abz} {B H H':Hp} {Z:St} {U:Sd} {i:Nat} {d:D} {p:Do} {o:HO} (I:DI K as0 B O own Z U H) (hO:i∉O) (s:aH H H') (J:H p=none) (e:H' p=some o) (h:oC K (aP (p::(own++as0)) H') o d) (hi:i < U.length) :
  DI K as0 B (i::O) (p::own) (Z.set i (some (.ref p))) (U.set i (some d)) H':=by
 refine DI.own1 (W:=⟨K,fun _=>none,E0⟩) (I.mono s) hO (I.same.free J) (I.new J) e h hi (fun j d' L q=>?_) fun j a L=>?_
 .obtain ⟨v,h1,h2⟩:=I.var j d' L q;exact ⟨v,h1,h2.mono (lv J s)⟩
 .obtain ⟨d',o',h1,h2,Y,h4⟩:=I.owns j a L;exact ⟨d',o',h1,h2,s a o' Y,h4.mono (lv J s)⟩
def iY {i:Nat} {x:Str} {pos':Pos} (hO:i∉O) (L:X.N.Nodup) (hx:HB X.env.scope x) (he:JE X e (tN W O ε)) (hi:X.N[i]?=some x:=by rfl) (Y:XN e (some (.Name x pos')) pos.line X.env=pure false:=by rfl) (hf:X.fn x=true\/X.env.scope.names.lookup x=some .local:=by walk_at"u") :
  JS X (.Assign [.Name x pos'] e pos) (sD W Ob O (i::O) (ow i ε)):=(Kc L hx he hi Y hf).imp fun D Z H hh=>gB hh fun as0 B own U I h =>
 ⟨as0,B,own,U,I,v6 I h fun d p o H' s J e od h'=>by
  split at h'
  .rename_i hl;exact h' _ _ H' (HR I hO s J e od hl)
  .exact h'.elim⟩
inductive TgD where
 | one (i:Nat)|tup (is:abu)
def jZ:abu->abC->Sd->Sd
 | i::is,d::ds,U=>jZ is ds (U.set i (some d))
 | _,_,U=>U
def j2:TgD->D->Sd->R Sd
 | .one i,d,U=>.ok (U.set i (some d))
 | .tup is,.tup ds,U=>if ds.length=is.length then .ok (jZ is ds U) else .no
 | _,_,_=>.no
def gD (W:Wd) (O:abu) (tg:TgD):TG:=fun v Z H Q=>∃ as0 B own U d,DI W.K as0 B O own Z U H/\dF W.K (aP (own++as0) H) d v/\match j2 tg d U with
 | .ok δ'=>∀ J,DI W.K as0 B O own J δ' H->Q J H
 | _=>False
def TR (W:Wd) (O:abu) (is:abu):HE:=fun vs Z H Q=>∃ as0 B own U ds,DI W.K as0 B O own Z U H/\aN W.K (aP (own++as0) H) ds vs/\ds.length=is.length/\∀ J,DI W.K as0 B O own J (jZ is ds U) H->Q J H
def bx {i:Nat} {x:Str} (J:i∉O) (Y:X.N.Nodup) (hi:X.N[i]?=some x) (L:HB X.env.scope x) (hf:X.fn x=true\/X.env.scope.names.lookup x=some .local:=by walk_at"u"):JG X (.Name x pos) (gD W O (.one i)) :=
 (Lf Y hi L hf).imp fun v Z H Q ⟨as0,B,own,U,d,I,dv,h⟩=>h _ (I.set J dv)
def oB:JGs X [] (TR W O []):=LL.imp fun vs Z H Q ⟨as0,B,own,U,ds,I,dv,hl,h⟩=>by
 cases ds with
 | nil=>cases dv;exact ⟨rfl,h Z I⟩
 | cons _ _=>simp at hl
def cX {i:Nat} {is:abu} {e:Wk} {es:List Wk} (h1:JG X e (gD W O (.one i))) (h2:JGs X es (TR W O is))
  (Y:(W3 (e::es) X.env).map (·.2)=assign e X.env::(W3 es X.env).map (·.2):=by rfl):JGs X (e::es) (TR W O (i::is)):=(IQ h1 h2 Y).imp fun vs Z H Q ⟨as0,B,own,U,ds,I,dv,hl,h⟩=>by
 cases ds with
 | nil=>simp at hl
 | cons d ds =>
  obtain ⟨v,r,rfl,d1,d2⟩:=dv;exact ⟨v,r,rfl,as0,B,own,U,d,I,d1,fun L J=>⟨as0,B,own,_,ds,J,d2,by simpa using hl,h⟩⟩
def sy (K:aT) {es:List Wk} {k:Nat} {is:abu} {n:Nat} (h:JGs X es (TR W O is)) (hl:is.length=n:=by rfl) (hc:X.calm=true:=by rfl)
  (hn:(W3 es X.env).length=n:=by rfl) (L:(W3 es X.env).findIdx? (·.1)=none:=by rfl) (hK:X.K=K:=by rfl) (hW:W.K=K:=by rfl):JG X (.Tuple es k pos) (gD W O (.tup is)):=by
 refine (Ou K h hc hn L hK).imp fun v Z H Q ⟨as0,B,own,U,d,I,dv,h⟩=>?_;cases d with
 | tup ds =>
  obtain ⟨a,xs,rfl,q1,Y⟩:=dv;have h':(match (if ds.length=is.length then R.ok (jZ is ds U) else .no) with|.ok δ'=>∀ J,DI W.K as0 B O own J δ' H->Q J H|_=>False):=h
  by_cases hd:ds.length=is.length
  .rw [abn hd] at h';subst hW;exact ⟨a,xs,rfl,(aC _ _).seqT q1,by rw [<- Y.len,hd,hl],as0,B,own,U,ds,I,Y,hd,h'⟩
  .rw [abo hd] at h';exact h'.elim
 | _=>exact h.elim
structure GivesD (K:aT) (as0:abz) (B:Hp) (J:It) (xs:abC):Prop where
 go:∀ i H,aH (aP as0 B) H->i < xs.length->J.go i H
 yl:∀ i H v H2 M,aH (aP as0 B) H->(∀ a∈M,H a≠none)->(∀ a∈M,a∈as0\/B a=none)->i < xs.length->J.yld i H v H2->aH H H2/\∃ d,xs[i]?=some d/\dF K (aP M H2) d v
 stop:∀ H,aH (aP as0 B) H->J.stop xs.length H
def j3 (W:Wd) (as0 own:abz) (H:Hp) (r:R (abC)) (Q:It->Hp->Prop):Prop:=match r with
 | .ok xs=>∀ J H',aH H H'->GivesD W.K as0 (aP own H') J xs->Q J H'
 | .er x=>∀ e C H',aH H H'->W.mg x=some (.ref C)->W.E e (some C) H'
 | .no=>False
def iD (W:Wd) (O:abu) (ι:FA):TI:=fun Z H Q=>∃ as0 B own U,DI W.K as0 B O own Z U H/\j3 W as0 own H (ι U) Q
def mv {as0 M:abz} {B H:Hp} (s:aH (aP as0 B) H) (h:∀ a∈M,a∈as0\/B a=none):aH (aP as0 B) (aP M H):=fun b o e=>by
 have Y:=e;by_cases J:b∈as0
 .rw [fD J] at e;cases e
 .rw [bc J] at e;have L:b∉M:=fun z=>by
   rcases h b z with q|q
   .exact J q
   .rw [q] at e;cases e
  rw [bc L];exact s b o Y
def GX {K:aT} {as0:abz} {B:Hp} {a:Do} {xs:abB} {ds:abC} (h1:iA K (aP as0 B) a xs) (h2:aN K (aP as0 B) ds xs):GivesD K as0 B (T6 K a) ds where
 go:=fun i H s hi=>by
  have J:i < xs.length:=by rw [<- h2.len];exact hi
  exact ⟨xs,xs[i],s.seq h1,by simp [J]⟩
 yl:=fun i H v H2 M s _ hM hi ⟨e,y⟩=>by
  subst e;obtain ⟨d,L,Y⟩:=h2.got (y xs (s.seq h1));exact ⟨aH.refl _,d,L,Y.mono (mv s hM)⟩
 stop:=fun H s=>⟨xs,s.seq h1,by rw [h2.len];exact oR _⟩
def Gf {K:aT} {as0:abz} {B:Hp} {a:Do} {xs:abB} {ds:abC} (h1:mf K (aP as0 B) a xs) (h2:aN K (aP as0 B) ds xs):GivesD K as0 B (U9 K a) ds where
 go:=fun i H s hi=>by
  have J:i < xs.length:=by rw [<- h2.len];exact hi
  exact ⟨xs,xs[i],s.seqT h1,by simp [J]⟩
 yl:=fun i H v H2 M s _ hM hi ⟨e,y⟩=>by
  subst e;obtain ⟨d,L,Y⟩:=h2.got (y xs (s.seqT h1));exact ⟨aH.refl _,d,L,Y.mono (mv s hM)⟩
 stop:=fun H s=>⟨xs,s.seqT h1,by rw [h2.len];exact oR _⟩
abbrev Eg (z:Str):abC:=z.cps.toList.map fun c=>D.str ⟨#[c]⟩
def Di {K:aT} {as0:abz} {B:Hp} (z:Str):GivesD K as0 B (Qq z) (Eg z) where
 go:=fun i H _ hi=>by
  rw [iN] at hi;simpa [Qq,ZW] using hi
 yl:=fun i H v H2 M _ _ _ hi ⟨e,c,h1,h2⟩=>by
  subst e;refine ⟨aH.refl _,.str ⟨#[c]⟩,?_,h2⟩;rw [V0,XM,h1];rfl
 stop:=fun H _=>by
  show _=z.length;rw [iN];simp [ZW]
def i7 (lo:Int) (n:Nat):abC:=(W1 n).map fun (k:Nat)=>D.int (lo+(k:Int))
def AQ {K:aT} {as0:abz} {B:Hp} (lo:Int) (n:Nat):GivesD K as0 B (TH lo n) (i7 lo n) where
 go:=fun i H _ hi=>by
  unfold i7 at hi;rw [iN,WM] at hi;exact hi
 yl:=fun i H v H2 M _ _ _ hi ⟨e,h⟩=>by
  subst e;unfold i7 at hi ⊢;rw [iN,WM] at hi;refine ⟨aH.refl _,.int (lo+(i:Int)),?_,h⟩;rw [V0,List.getElem?_range hi];rfl
 stop:=fun H _=>by
  unfold i7;show n<=_;rw [iN,WM];exact oR _
def ge:D->R (abC)
 | .lst xs=>.ok xs
 | .tup xs=>.ok xs
 | .str z=>.ok (Eg z)
 | _=>.no
def gf (ε:FE):FA:=fun U=>(ε U).bind ge
variable {tg:Wk}
def j3.mono {as0 own:abz} {H H':Hp} {r:R (abC)} {Q:It->Hp->Prop} (h:j3 W as0 own H r Q) (s:aH H H'):j3 W as0 own H' r Q:=by
 cases r with
 | ok d=>exact fun J H2 L=>h J H2 (s.trans L)
 | er x=>exact fun e C H2 L=>h e C H2 (s.trans L)
 | no=>exact h
def tB {as0 own:abz} {H:Hp} {r:R D} {f:D->R (abC)} {Q:It->Hp->Prop} {Q':VK} (h:j3 W as0 own H (r.bind f) Q) (q:∀ d v H',aH H H'->dF W.K (aP (own++as0) H') d v->j3 W as0 own H' (f d) Q->Q' v H'):dI W (own++as0) H r Q':=by
 cases r with
 | ok d=>exact fun v H' s J=>q d v H' s J (j3.mono h s)
 | er x=>exact h
 | no=>exact h
def qd {as0 own:abz} {H:Hp} {r:R (abC)} {f:abC->R (abC)} {Q:It->Hp->Prop} {Q':abB->Hp->Prop} (h:j3 W as0 own H (r.bind f) Q) (q:∀ d v H',aH H H'->aN W.K (aP (own++as0) H') d v->j3 W as0 own H' (f d) Q->Q' v H'):lH W (own++as0) H r Q':=by
 cases r with
 | ok d=>exact fun v H' s J=>q d v H' s J (j3.mono h s)
 | er x=>exact h
 | no=>exact h
def c7 (K:aT) {l:Wk} (h:JE X l (tD W O ε)) (hK:X.K=K:=by rfl) (hW:W.K=K:=by rfl):JI X tg l (iD W O (gf ε)):=(O7 K h hK).imp fun Z H Q hh=>gB hh fun as0 B own U I h =>
 ⟨as0,B,own,U,I,tB h fun d v H' s Y h'=>by
  subst hW;cases d with
  | lst ds =>
   obtain ⟨a,xs,rfl,J,L⟩:=Y;refine .inl ⟨⟨xs,(aC _ _).seq J⟩,h' _ H' (aH.refl _) ?_⟩;rw [nK] at J L;exact GX J L
  | tup ds =>
   obtain ⟨a,xs,rfl,J,L⟩:=Y;refine .inr ⟨⟨xs,(aC _ _).seqT J⟩,h' _ H' (aH.refl _) ?_⟩;rw [nK] at J L;exact Gf J L
  | str z=>cases Y;exact h' _ H' (aH.refl _) (Di z)
  | _=>exact h'.elim⟩
def LS:abC->R (abC)
 | [.int j]=>if -(2 ^ 62)<=j/\j < 2 ^ 62 then .ok (i7 0 j.toNat) else .no
 | _=>.no
def oX (α:FA):FA:=fun U=>(α U).bind LS
def nr {a:Wk} {α:FA} {p pos:Pos} (J:X.mg "range"=none) (L:JA X [a] (Cz W O α)) (hg:Gl X "range":=by rfl) (hn:bw a=true:=by rfl):JI X tg (.Call (.Name "range" p) [a] [] pos) (iD W O (oX α)):=(Gh J L hg hn).imp fun Z H Q hh=>gB hh fun as0 B own U I h =>
 ⟨as0,B,own,U,I,qd h fun ds vs H' s Y h'=>by
  unfold LS at h';split at h'
  .obtain ⟨v,r,rfl,d1,d2⟩:=Y;cases d1;cases d2;split at h'
   .rename_i hj;exact ⟨hj,h' _ H' (aH.refl _) (AQ 0 _)⟩
   .exact h'.elim
  .exact h'.elim⟩
def gt (tg:TgD) (J:FS):abC->Sd->R Fl
 | [],U=>.ok (.nx U)
 | x::r,U=>(j2 tg x U).bind fun L=>(J L).bind fun f=>match f with
  | .nx δ2=>gt tg J r δ2
  | .ct δ2=>gt tg J r δ2
  | .bk δ2=>.ok (.nx δ2)
  | .rt d=>.ok (.rt d)
  | .rn d=>.ok (.rn d)
def sP (ι:FA) (t:TgD) (J:FS):FS:=fun U=>(ι U).bind fun xs=>gt t J xs U
def Cm {as0 own:abz} {B H:Hp} {Z:St} {U:Sd} {D':Ends} {r:R (abC)} {f:abC->R Fl} {Q:It->Hp->Prop} (I:DI W.K as0 B O own Z U H) (h:gu W as0 B Ob O' (r.bind f) D')
  (q:∀ d J H',aH H H'->GivesD W.K as0 (aP own H') J d->gu W as0 B Ob O' (f d) D'->Q J H'):j3 W as0 own H r Q:=by
 cases r with
 | ok d=>exact fun J H' s g=>q d J H' s g h
 | er x=>exact fun e C H' s=>h e C H' (I.same.trans s)
 | no=>exact h
def mZ {iter:Wk} {body:List WO} {ι:FA} {t:TgD} (hp:ZU (VL X.prog X.w) X.A X.env X.xe) (hi:JI X tg iter (iD W O ι)) (hg:JG X tg (gD W O t)) (hb:JB X body (sD W O O O φ)) (hc:X.calm=true:=by rfl)
  (hs:∀ x,WN iter X.env x=pure x:=by intro _;rfl):JS X (.For tg iter body [] pos) (sD W Ob O O (sP ι t φ)):=(OC hp hi hg hb hc hs).imp fun D' Z H hh=>gB hh fun as0 B own U I h=>by
 refine ⟨as0,B,own,U,I,Cm I h fun xs J H1 s1 G h1=>?_⟩;have I1:=I.mono s1;have I2:=I1.rebase I1.apart;have sB:aH B (aP own H1):=I1.baseIn;have h2:=h1.base sB I.ex0;generalize hB':aP own H1=B' at I2 sB h2 G;have ex':∀ a∈as0,B' a≠none:=I2.ex0;refine ⟨fun i m Z H=>m=xs.length - i/\i<=xs.length/\∃ own U,DI W.K as0 B' O own Z U H/\gu W as0 B' Ob O (gt t φ (xs.drop i) U) D',⟨xs.length,by simp,VY _,own,U,I2,by simpa using h2⟩,?_⟩;rintro i m σ3 H3 ⟨rfl,hi,own3,δ3,I3,h3⟩;by_cases hlt:i < xs.length
 .refine .inr ⟨G.go i H3 ((aC _ _).trans I3.same) hlt,fun σ' H'=>∃ own U,DI W.K as0 B' O own σ' U H'/\gu W as0 B' Ob O (gt t φ (xs.drop (i+1)) U) D',fun σ' H' ⟨own',δ',I',h'⟩=>⟨xs.length - (i+1),by omega,rfl,hlt,own',δ',I',h'⟩,fun v H4 y=>?_⟩;obtain ⟨s4,d,hd,dv⟩:=G.yl i H3 v H4 (own3++as0) ((aC _ _).trans I3.same) I3.exi (fun a ha=>by
   rcases MK.mp ha with z|z
   .exact .inr (I3.fresh a z)
   .exact .inl z) hlt y
  have ed:xs.drop i=d::xs.drop (i+1):=by
   rw [Zc hlt];rw [BY hlt] at hd;cases hd;rfl
  rw [ed] at h3;refine ⟨as0,B',own3,δ3,d,I3.mono s4,dv,?_⟩;have h3':gu W as0 B' Ob O ((j2 t d δ3).bind fun δ1=>(φ δ1).bind fun f=>match f with
   | .nx L=>gt t φ (xs.drop (i+1)) L
   | .ct L=>gt t φ (xs.drop (i+1)) L
   | .bk L=>.ok (.nx L)
   | .rt d=>.ok (.rt d)
   | .rn d=>.ok (.rn d)) D':=h3
  cases hb1:j2 t d δ3 with
  | ok δ1 =>
   rw [hb1] at h3';refine fun σ' I'=>⟨as0,B',own3,δ1,I',?_⟩;have Y:gu W as0 B' Ob O ((φ δ1).bind fun f=>match f with
    | .nx L=>gt t φ (xs.drop (i+1)) L
    | .ct L=>gt t φ (xs.drop (i+1)) L
    | .bk L=>.ok (.nx L)
    | .rt d=>.ok (.rt d)
    | .rn d=>.ok (.rn d)) D':=h3'
   cases hr:φ δ1 with
   | ok f =>
    rw [hr] at Y;cases f with
    | nx L=>exact fun own' σ' H' I'=>⟨own',L,I',Y⟩
    | ct L=>exact fun own' σ' H' I'=>⟨own',L,I',Y⟩
    | bk L=>exact Y
    | rt d=>exact Y
    | rn d=>exact Y
   | er x=>rw [hr] at Y;exact Y
   | no=>rw [hr] at Y;exact Y
  | er x=>unfold j2 at hb1;split at hb1 <;> first|cases hb1|(split at hb1 <;> cases hb1)
  | no=>rw [hb1] at h3';exact h3'.elim
 .have e:i=xs.length:=by omega
  subst e;rw [List.drop_length] at h3;exact .inl ⟨G.stop H3 ((aC _ _).trans I3.same),h3 own3 σ3 H3 I3⟩
def dq (τ:FT) (J:FS):Nat->Sd->R Fl
 | 0,_=>.no
 | n+1,U=>(τ U).bind fun b=>if b=true then (J U).bind fun f=>match f with
  | .nx δ2=>dq τ J n δ2
  | .ct δ2=>dq τ J n δ2
  | .bk δ2=>.ok (.nx δ2)
  | .rt d=>.ok (.rt d)
  | .rn d=>.ok (.rn d)
  else .ok (.nx U)
def tX {body:List WO} (n:Nat) (hp:ZU (VL X.prog X.w) X.A X.env X.xe) (hc:JT X c (uN W O τ)) (hb:JB X body (sD W O O O φ)):JS X (.While c body [] pos) (sD W Ob O O (dq τ φ n)):=(Kr hp hc hb).imp fun D' Z H hh=>gB hh fun as0 B own U I h=>by
 refine ⟨fun m Z H=>∃ own U,DI W.K as0 B O own Z U H/\gu W as0 B Ob O (dq τ φ m U) D',⟨n,own,U,I,h⟩,?_⟩;rintro m σ3 H3 ⟨own3,δ3,I3,h3⟩;cases m with
 | zero=>exact h3.elim
 | succ m =>
  refine ⟨as0,B,own3,δ3,I3,qN I3 h3 fun b H4 s4 h4=>?_⟩;cases b with
  | false=>exact h4 own3 σ3 H4 (I3.mono s4)
  | true =>
   refine ⟨fun σ' H'=>∃ own U,DI W.K as0 B O own σ' U H'/\gu W as0 B Ob O (dq τ φ m U) D',fun σ' H' q=>⟨m,XG m,q⟩,as0,B,own3,δ3,I3.mono s4,?_⟩;have J:gu W as0 B Ob O ((φ δ3).bind fun f=>match f with
    | .nx L=>dq τ φ m L
    | .ct L=>dq τ φ m L
    | .bk L=>.ok (.nx L)
    | .rt d=>.ok (.rt d)
    | .rn d=>.ok (.rn d)) D':=h4
   cases hr:φ δ3 with
   | ok f =>
    rw [hr] at J;cases f with
    | nx L=>exact fun Y σ' H' I'=>⟨Y,L,I',J⟩
    | ct L=>exact fun Y σ' H' I'=>⟨Y,L,I',J⟩
    | bk L=>exact J
    | rt d=>exact J
    | rn d=>exact J
   | er x=>rw [hr] at J;exact J
   | no=>rw [hr] at J;exact J
end
def R.calm {α:Type}:R α->R α
 | .ok a=>.ok a
 | _=>.no
def gj (ix:List (Option Nat)) (U:Sd):Sd:=ix.map fun o=>o.bind fun j=>(U[j]?).getD none
def xC:TgD->Sd->Bool
 | .one i,U=>match U[i]? with
  | some none=>true
  | _=>false
 | .tup is,U=>is.all fun i=>match U[i]? with
  | some none=>true
  | _=>false
def iy (tg:TgD) (τ:FT) (ε:FE) (J:Sd):abC->R (abC)
 | []=>.ok []
 | x::r=>(j2 tg x J).bind fun L=>(τ L).bind fun b=>if b=true then (ε L).bind fun y=>(iy tg τ ε J r).bind fun ys=>.ok (y::ys) else iy tg τ ε J r
def fw (tg:TgD) (τ:FT) (ε:FE) (J:Sd) (xs:abC):R D:=if xC tg J=true/\xs.length<=1000000 then (iy tg τ ε J xs).calm.bind fun ys=>.ok (.lst ys) else .no
def bK (ix:List (Option Nat)) (ι:FA) (tg:TgD) (τ:FT) (ε:FE):FE:=fun U=>(ι U).bind fun xs=>fw tg τ ε (gj ix U) xs
def de:FT:=fun _=>.ok true
def xh:∀ (is:abu) (ds:abC) (J U:Sd),(∀ (i:Nat),i∈is->J[i]?=some none)->(∀ (i:Nat) (d:D),J[i]?=some (some d)->U[i]?=some (some d))->∀ (i:Nat) (d:D),J[i]?=some (some d)->(jZ is ds U)[i]?=some (some d)
 | [],_,_,_,_,h=>by intro i d e;unfold jZ;exact h i d e
 | _::_,[],_,_,_,h=>by intro i d e;unfold jZ;exact h i d e
 | j::is,x::ds,J,U,hn,h=>by
  intro i d e;unfold jZ;refine xh is ds J _ (fun i hi=>hn i (mK _ hi)) (fun i d e=>?_) i d e;have L:j≠i:=fun z=>by
   have:=hn j OR
   rw [z,e] at this;cases this
  rw [getElem?_set',abo L];exact h i d e
def Hk {tg:TgD} {x:D} {J δ1:Sd} (hf:xC tg J=true) (h:j2 tg x J=.ok δ1):∀ (i:Nat) (d:D),J[i]?=some (some d)->δ1[i]?=some (some d):=by
 cases tg with
 | one j =>
  cases h;intro i d e;have Y:j≠i:=fun z=>by
   subst z;have L:(match J[j]? with|some none=>true|_=>false)=true:=hf
   rw [e] at L;cases L
  rw [getElem?_set',abo Y];exact e
 | tup is =>
  cases x with
  | tup ds =>
   have h':(if ds.length=is.length then R.ok (jZ is ds J) else .no)=.ok δ1:=h;split at h'
   .cases h';refine xh is ds J J (fun i hi=>?_) fun i d e=>e;have L:(is.all fun i=>match J[i]? with|some none=>true|_=>false)=true:=hf
    have:=WD.mp L i hi
    split at this
    .assumption
    .cases this
   .cases h'
  | _=>cases h
def zr:∀ (is:abu) (ds:abC) (U:Sd),(jZ is ds U).length=U.length
 | [],_,_=>by unfold jZ;rfl
 | _::_,[],_=>by unfold jZ;rfl
 | j::is,x::ds,U=>by unfold jZ;rw [zr is ds];simp
def J4 {tg:TgD} {x:D} {J δ1:Sd} (h:j2 tg x J=.ok δ1):δ1.length=J.length:=by
 cases tg with
 | one j=>cases h;simp
 | tup is =>
  cases x with
  | tup ds =>
   have h':(if ds.length=is.length then R.ok (jZ is ds J) else .no)=.ok δ1:=h;split at h'
   .cases h';exact zr _ _ _
   .cases h'
  | _=>cases h
def DI.plain {K:aT} {M:abz} {H:Hp} {Z:St} {U:Sd} (Y:U.length=Z.length) (ex:∀ a∈M,H a≠none) (J:∀ (i:Nat) (d:D),U[i]?=some (some d)->∃ v,Z[i]?=some (some v)/\dF K (aP M H) d v):DI K M H [] [] Z U H :=
 ⟨Y,rfl,WQ,WQ,fun a L=>(nomatch L),ex,aH.refl _,fun i d _ e=>J i d e,fun i a h=>(by simp at h)⟩
section
variable {X:Cx} {W Wb:Wd} {O:abu} {osc:Scope} {ON N:abv} {ix:List (Option Nat)} {scope:Scope} {tg elt iter:Wk} {ifs:List Wk} {pos:Pos} {ι:FA} {t:TgD} {τ:FT} {ε:FE}
def bQ:JTs X [] (uN W O de):=Lr.imp fun Z H Q J=>gB J fun as0 B own U I h=>h H (aH.refl _)
def Lo {c:Wk} (h:JT X c (uN W O τ)):JTs X [c] (uN W O τ):=LG h
def Mu {K:aT} {as0 own:abz} {B H:Hp} {Z:St} {U:Sd} (I:DI K as0 B O own Z U H) (Y:∀ j∈ix,∀ k,j=some k->k∉O):∀ (i:Nat) (d:D),(gj ix U)[i]?=some (some d)->∃ v,(qy ix Z)[i]?=some (some v)/\dF K (aP (own++as0) H) d v:=by
 intro i d e;unfold gj at e;unfold qy;rw [V0] at e ⊢;cases h:ix[i]? with
 | none=>rw [h] at e;cases e
 | some o =>
  rw [h] at e;cases o with
  | none=>cases e
  | some j =>
   have J:(U[j]?).getD none=some d:=VS e;have L:U[j]?=some (some d):=by
    cases q:U[j]? with
    | none=>rw [q] at J;cases J
    | some w=>rw [q] at J;rw [<- J];rfl
   obtain ⟨v,h1,h2⟩:=I.var j d (Y _ (Xs h) j rfl) L;exact ⟨v,by show some ((Z[j]?).getD none)=_;rw [h1];rfl,h2⟩
structure GivesC (K:aT) (M:abz) (H:Hp) (J:It) (xs:abC):Prop where
 go:∀ i H1,aH H H1->i < xs.length->J.go i H1
 yl:∀ i H1 v H2 acc,aH H H1->H acc=none->(∀ a∈acc::M,H1 a≠none)->i < xs.length->J.yld i H1 v H2->aH H1 H2/\∃ d,xs[i]?=some d/\dF K (aP (acc::M) H2) d v
 stop:∀ H1,aH H H1->J.stop xs.length H1
def GivesD.comp {K:aT} {as0 own:abz} {H:Hp} {J:It} {xs:abC} (G:GivesD K as0 (aP own H) J xs):GivesC K (own++as0) H J xs where
 go:=fun i H1 s hi=>G.go i H1 ((aC _ _).trans ((aC _ _).trans s)) hi
 yl:=fun i H1 v H2 acc s L Y hi y=>G.yl i H1 v H2 (acc::(own++as0)) ((aC _ _).trans ((aC _ _).trans s)) Y (fun a ha=>by
  rcases nE.mp ha with rfl|ha
  .right
   cases z:aP own H a with
   | none=>rfl
   | some u=>have:=aC _ _ _ _ z;rw [L] at this;cases this
  .rcases MK.mp ha with z|z
   .exact .inr (fD z)
   .exact .inl z) hi y
 stop:=fun H1 s=>G.stop H1 ((aC _ _).trans ((aC _ _).trans s))
def AX (tg:TgD) (τ:FT) (ε:FE) (J:Sd) (xs:abC):R D:=if xC tg J=true/\xs.length<=1000000 then (iy tg τ ε J xs).bind fun ys=>.ok (.lst ys) else .no
def F6 {tg:TgD} {d:D} {U:Sd} {x:Str} (h:j2 tg d U=.er x):False:=by
 cases tg with
 | one i=>cases h
 | tup is =>
  cases d with
  | tup ds =>
   have h':(if ds.length=is.length then R.ok (jZ is ds U) else .no)=.er x:=h;split at h' <;> cases h'
  | _=>cases h
def Kw {K:aT} {as0 own:abz} {B H:Hp} {Z:St} {U:Sd} {xs:abC} {J:It} {Q:VK} (hWb:Wb.K=K) (I:DI K as0 B O own Z U H) (hO:∀ j∈ix,∀ k,j=some k->k∉O) (G:GivesC K (own++as0) H J xs)
  (hq:match AX t τ ε (gj ix U) xs with
   | .ok d=>∀ p o H',aH H H'->H p=none->H' p=some o->oC K (aP (p::(own++as0)) H') o d->Q (.ref p) H'
   | .er x=>∀ e C H',aH H H'->Wb.mg x=some (.ref C)->Wb.E e (some C) H'
   | .no=>False):AO (gD Wb [] t) (uN Wb [] τ) (tD Wb [] ε) J (qy ix Z) H Q:=by
 intro acc Y;unfold AX at hq;by_cases hc:xC t (gj ix U)=true/\xs.length<=1000000
 .rw [abn hc] at hq;obtain ⟨hf,hlen⟩:=hc;generalize hall:iy t τ ε (gj ix U) xs=ra at hq;have hq':∀ (es:abC) (r:R (abC)),ra=(r.bind fun rest=>.ok (es++rest))->match r with
    | .ok rest=>∀ p o H',aH H H'->H p=none->H' p=some o->oC K (aP (p::(own++as0)) H') o (.lst (es++rest))->Q (.ref p) H'
    | .er x=>∀ e C H',aH H H'->Wb.mg x=some (.ref C)->Wb.E e (some C) H'
    | .no=>False:=fun es r e=>by
   subst e;cases r with
   | ok rest=>exact hq
   | er x=>exact hq
   | no=>exact hq
  clear hq;generalize hδ0:gj ix U=δ0 at hf hall;have cl:δ0.length=(qy ix Z).length:=by rw [<- hδ0];unfold gj qy;simp
  have cv:∀ (i:Nat) (d:D),δ0[i]?=some (some d)->∃ v,(qy ix Z)[i]?=some (some v)/\dF K (aP (own++as0) H) d v:=by rw [<- hδ0];exact Mu I hO
  generalize qy ix Z=σ0 at cl cv;have exM0:=I.exi;generalize hM:own++as0=M at cv hq' G exM0;have exM:∀ a∈M,H a≠none:=exM0;have naM:acc∉M:=fun z=>exM acc z Y
  have exA:∀ {H':Hp},aH H H'->(∃ o,H' acc=some o)->∀ a∈acc::M,H' a≠none:=fun {H'} s ⟨o,e⟩ a ha=>by
   rcases nE.mp ha with rfl|ha
   .rw [e];simp
   .cases q:H a with
    | none=>exact absurd q (exM a ha)
    | some u=>rw [s a u q];simp
  have s0:aH H (upd H acc (.lst [])):=bn Y _;have start:ra=((iy t τ ε δ0 (xs.drop 0)).bind fun rest=>.ok ([]++rest)):=by
   rw [<- hall,aaa];cases iy t τ ε δ0 xs <;> rfl
  refine ⟨fun i m σ' H'=>m=xs.length - i/\i<=xs.length/\∃ ys es,H' acc=some (.lst ys)/\ys.length<=i/\aH H H'/\aN K (aP (acc::M) H') es ys/\ra=((iy t τ ε δ0 (xs.drop i)).bind fun rest=>.ok (es++rest))/\DI K (acc::M) H' [] [] σ' δ0 H',
   ⟨xs.length,by simp,VY _,[],[],a9,VY _,s0,rfl,start,DI.plain cl (exA s0 ⟨_,a9⟩) fun i d e=>let ⟨v,h1,h2⟩:=cv i d e;⟨v,h1,h2.mono (lv Y s0)⟩⟩,?_⟩
  rintro i m σ1 H1 ⟨rfl,hi,ys,es,e1,hl1,s1,d1,L,I1⟩;have sB:aH H H1:=s1;by_cases hlt:i < xs.length
  .refine .inr ⟨G.go i H1 sB hlt,fun σ' H'=>∃ ys es,H' acc=some (.lst ys)/\ys.length<=i+1/\aH H H'/\aN K (aP (acc::M) H') es ys/\ra=((iy t τ ε δ0 (xs.drop (i+1))).bind fun rest=>.ok (es++rest))/\DI K (acc::M) H' [] [] σ' δ0 H',
    fun σ' H' ⟨ys,es,q⟩=>⟨xs.length - (i+1),by omega,rfl,hlt,ys,es,q⟩,fun v H2 y=>?_⟩
   obtain ⟨s2,d,hd,dv⟩:=G.yl i H1 v H2 acc sB Y (exA s1 ⟨_,e1⟩) hlt y;have ed:xs.drop i=d::xs.drop (i+1):=by
    rw [Zc hlt];rw [BY hlt] at hd;cases hd;rfl
   rw [ed] at L;have L:ra=(((j2 t d δ0).bind fun δ1=>(τ δ1).bind fun b=>if b=true then (ε δ1).bind fun y=>(iy t τ ε δ0 (xs.drop (i+1))).bind fun ys=>.ok (y::ys) else iy t τ ε δ0 (xs.drop (i+1))).bind fun rest=>.ok (es++rest)):=L;cases b1:j2 t d δ0 with
   | er x=>exact (F6 b1).elim
   | no=>rw [b1] at L;exact (hq' es .no L).elim
   | ok δ1 =>
    rw [b1,aK] at L;have I2:DI K (acc::M) H2 [] [] σ1 δ0 H2:=DI.plain I1.len (exA (s1.trans s2) ⟨_,s2 _ _ e1⟩) fun i d e=>let ⟨v,h1,h2⟩:=I1.var i d (by simp) e;⟨v,h1,h2.mono (bh s2)⟩;have again:∀ {σ3:St} {H3 H4:Hp},DI K (acc::M) H2 [] [] σ3 δ1 H3->aH (aP (acc::M) H3) (aP (acc::M) H4)->(∀ a∈acc::M,H4 a≠none)->DI K (acc::M) H4 [] [] σ3 δ0 H4:=fun {σ3 H3 H4} I3 s34 ex4 =>
     DI.plain (by rw [<- J4 b1];exact I3.len) ex4 fun i d e=>let ⟨v,h1,h2⟩:=I3.var i d (by simp) (Hk hf b1 i d e);⟨v,h1,h2.mono s34⟩
    refine ⟨acc::M,H2,[],δ0,d,by rw [hWb];exact I2,by rw [hWb];exact dv,?_⟩;rw [b1];refine fun σ3 I3=>⟨acc::M,H2,[],δ1,I3,?_⟩;rw [hWb] at I3;cases b2:τ δ1 with
    | er x=>rw [b2] at L;exact fun e C H' s' hm=>hq' es (.er x) L e C H' ((s1.trans s2).trans (I3.same.trans s')) hm
    | no=>rw [b2] at L;exact (hq' es .no L).elim
    | ok b =>
     rw [b2,aK] at L;refine fun H3 s3=>?_;have I3':=I3.mono s3;have s13:aH H1 H3:=s2.trans (I3.same.trans s3);cases b with
     | false =>
      rw [abo lT] at L;exact ⟨ys,es,s13 _ _ e1,by omega,s1.trans s13,d1.mono (bh s13),L,again I3' (aH.refl _) (exA (s1.trans s13) ⟨_,s13 _ _ e1⟩)⟩
     | true =>
      rw [abn rfl] at L;refine ⟨acc::M,H2,[],δ1,by rw [hWb];exact I3',?_⟩;cases b3:ε δ1 with
      | er x=>rw [b3] at L;exact fun e C H' s' hm=>hq' es (.er x) L e C H' ((s1.trans s13).trans s') hm
      | no=>rw [b3] at L;exact (hq' es .no L).elim
      | ok y' =>
       rw [b3,aK] at L;refine fun v4 H4 s4 d4=>?_;rw [hWb] at d4;have s14:aH H1 H4:=s13.trans s4;have e4:=s14 _ _ e1;have hm:=fI;have same5:aH (aP (acc::M) H4) (aP (acc::M) (upd H4 acc (.lst (ys++[v4])))):=fun b o e=>by
        by_cases hb:b∈acc::M
        .rw [fD hb] at e;cases e
        .rw [bc hb] at e ⊢;rw [aU (fun z=>hb (by rw [z];exact OR))];exact e
       have s5:aH H (upd H4 acc (.lst (ys++[v4]))):=fun b o e=>by
        rw [aU (bR e Y)];exact (s1.trans s14) b o e
       refine ⟨ys,e4,by omega,ys++[v4],es++[y'],a9,by simp;omega,s5,?_,?_,again I3' ((bh s4).trans same5) (exA s5 ⟨_,a9⟩)⟩
       .exact (aN.append (d1.mono (bh s14)) (aN.cons d4 aN.nil)).mono same5
       .rw [L];cases iy t τ ε δ0 (xs.drop (i+1)) with
        | ok r=>show R.ok _=R.ok _;simp
        | er x=>rfl
        | no=>rfl
  .have e':i=xs.length:=by omega
   subst e';rw [List.drop_length] at L;have this:∀ (p:Do) (o:HO) (H':Hp),aH H H'->H p=none->H' p=some o->oC K (aP (p::M) H') o (D.lst (es++[]))->Q (V.ref p) H':=hq' es (.ok []) L;rw [WC] at this;exact .inl ⟨G.stop H1 sB,this acc _ H1 s1 Y e1 ⟨ys,rfl,d1⟩⟩
 .rw [abo hc] at hq;exact hq.elim
def cG {K:aT} {as0 own:abz} {B H:Hp} {Z:St} {U:Sd} {xs:abC} {J:It} {Q:VK} (Y:Wb.K=K) (I:DI K as0 B O own Z U H) (hO:∀ j∈ix,∀ k,j=some k->k∉O) (G:GivesC K (own++as0) H J xs)
  (L:match fw t τ ε (gj ix U) xs with
   | .ok d=>∀ p o H',aH H H'->H p=none->H' p=some o->oC K (aP (p::(own++as0)) H') o d->Q (.ref p) H'
   | _=>False):AO (gD Wb [] t) (uN Wb [] τ) (tD Wb [] ε) J (qy ix Z) H Q:=by
 refine Kw Y I hO G ?_;unfold fw at L;unfold AX;by_cases hc:xC t (gj ix U)=true/\xs.length<=1000000
 .rw [abn hc] at L ⊢;cases hall:iy t τ ε (gj ix U) xs with
  | ok ys=>rw [hall] at L;exact L
  | er x=>rw [hall] at L;exact L.elim
  | no=>rw [hall] at L;exact L.elim
 .rw [abo hc] at L;exact L.elim
def dW (hcs:G7 osc ON N ix scope=true) (hi:JI X tg iter (iD W O ι)) (hg:∀ b,JG (vM X N scope b) tg (gD Wb [] t)) (ht:∀ b,JTs (vM X N scope b) ifs (uN Wb [] τ)) (he:∀ b,JE (vM X N scope b) elt (tD Wb [] ε)) (hO:∀ j∈ix,∀ k,j=some k->k∉O)
  (Y:Wb.K=W.K:=by rfl) (hE:X.env.scope=osc:=by rfl) (hON:X.N=ON:=by rfl) (L:X.calm=true:=by rfl) (hs:∀ x,WN iter X.env x=pure x:=by intro _;rfl):JE X (.ListComp elt [⟨tg,iter,ifs,0⟩] scope pos) (tN W O (bK ix ι t τ ε)) :=
 (PP hcs hi hg ht he hE hON L hs).imp fun Z H Q hh=>gB hh fun as0 B own U I h=>⟨as0,B,own,U,I,by
  unfold bK at h;cases hr:ι U with
  | no=>rw [hr] at h;exact h.elim
  | er x=>rw [hr] at h;exact h
  | ok xs =>
   rw [hr] at h;refine fun J H1 s1 G=>cG Y (I.mono s1) hO G.comp ?_;have h':jH W (own++as0) H (fw t τ ε (gj ix U) xs) Q:=h;cases hq:fw t τ ε (gj ix U) xs with
   | ok d=>rw [hq] at h';exact fun p o H' s hp=>h' p o H' (s1.trans s) (s1.free hp)
   | er x =>
    unfold fw at hq;split at hq
    .cases L:iy t τ ε (gj ix U) xs <;> rw [L] at hq <;> cases hq
    .cases hq
   | no=>rw [hq] at h';exact h'.elim⟩
def oW {i:Nat} {x:Str} {L pos':Pos} (hN:X.N.Nodup) (hl:HB X.env.scope x) (hcs:G7 osc ON N ix scope=true) (hi:JI X tg iter (iD W O ι)) (hg:∀ b,JG (vM X N scope b) tg (gD Wb [] t)) (ht:∀ b,JTs (vM X N scope b) ifs (uN Wb [] τ)) (he:∀ b,JE (vM X N scope b) elt (tD Wb [] ε)) (hO:∀ j∈ix,∀ k,j=some k->k∉O)
  (hWb:Wb.K=W.K:=by rfl) (hx:X.N[i]?=some x:=by rfl) (hE:X.env.scope=osc:=by rfl) (hON:X.N=ON:=by rfl) (hc:X.calm=true:=by rfl)
  (Y:XN (.ListComp elt [⟨tg,iter,ifs,0⟩] scope pos) (some (.Name x pos')) L.line X.env=pure true:=by rfl)
  (hf:X.fn x=true\/X.env.scope.names.lookup x=some .local:=by walk_at"u")
  (hs:∀ x,WN iter X.env x=pure x:=by intro _;rfl):JS X (.Assign [.Name x pos'] (.ListComp elt [⟨tg,iter,ifs,0⟩] scope pos) L) (BP (tN W O (bK ix ι t τ ε)) (tG i)) :=
 (Du hN hl hcs hi hg ht he hx hE hON hc Y hf hs).imp fun D Z H hh=>gB hh fun as0 B own U I h=>⟨as0,B,own,U,I,by
  unfold bK at h;cases hr:ι U with
  | no=>rw [hr] at h;exact h.elim
  | er x=>rw [hr] at h;exact h
  | ok xs =>
   rw [hr] at h;refine fun J H1 s1 G=>cG hWb (I.mono s1) hO G.comp ?_;have h':jH W (own++as0) H (fw t τ ε (gj ix U) xs) (fun x H1=>tG i x Z H1 D.nx):=h;cases hq:fw t τ ε (gj ix U) xs with
   | ok d=>rw [hq] at h';exact fun p o H' s hp=>h' p o H' (s1.trans s) (s1.free hp)
   | er x =>
    unfold fw at hq;split at hq
    .cases hc:iy t τ ε (gj ix U) xs <;> rw [hc] at hq <;> cases hq
    .cases hq
   | no=>rw [hq] at h';exact h'.elim⟩
def oS {Ob:abu} {i:Nat} {st:WO} (L:i∉O) (h:JS X st (BP (tN W O ε) (tG i))):JS X st (sD W Ob O O (bp i ε)):=h.imp fun D Z H Y=>gB Y fun as0 B own U I h =>
 ⟨as0,B,own,U,I,v6 I h fun d p o H' s J e od h'=>h' own _ H' ((I.mono s).set L (od.den (I.new J) e))⟩
end
def xB (N:abv) (ds:abC):Sd:=ds.map some++XY (N.length - ds.length) none
def bO (φ:FS) (N P:abv) (ds:abC):R D:=if ds.length=P.length then (φ (xB N ds)).bind fun f=>match f with
 | .rt d=>.ok d
 | .rn d=>.ok d
 | .nx _=>.ok .non
 | _=>.no
 else .no
def eY (K:aT) (mg:aby) (F:abC->R D):Sp:=fun vs H Q _=>∃ as ds,(∀ a∈as,H a≠none)/\aN K (aP as H) ds vs/\dI ⟨K,mg,E0⟩ as H (F ds) Q
section
variable {P:VH} {w:VZ} {K:aT} {mg:aby} {base:Xj}
def C5 {H:Hp}:∀ {ds:abC} {vs:abB} {i:Nat} {d:D},aN K H ds vs->∀ {n:Nat},(ds.map some++XY n none)[i]?=some (some d)->∃ v,(vs.map some++XY n none)[i]?=some (some v)/\dF K H d v:=by
 intro ds vs i d h n e;have J:=h.len;by_cases hi:i < ds.length
 .rw [XZ (by simpa using hi),V0] at e;rw [XZ (by rw [iN,<- J];exact hi),V0];cases q:ds[i]? with
  | none=>rw [q] at e;cases e
  | some d' =>
   rw [q] at e;cases e;obtain ⟨v,h1,h2⟩:=h.get q;exact ⟨v,by rw [h1];rfl,h2⟩
 .rw [Y1 (by simpa using hi),Zr] at e;split at e <;> cases e
def Fun.okD {x L:Str} {st:WO} {f:Do} {fd:Wl} {N ps:abv} {k:Nat} {φ:FS} {O':abu} (F:Fun K x L st f fd) (S:FnScope N ps (aq st))
  (hbody:∀ (Y:gs) (A:VV) (J:List Env) (s:iF) (H:Hp) (E:XK),Room k (A.deeper (aad L (aq st) s.heap.objs.size f Y)) ->
   JB (Bo dc P w K mg base N L (aq st) f Y A J s H E).nox (gC st) (sD ⟨K,mg,E0⟩ [] [] O' φ)):FnOk P w K mg base dc (k+1) f fd ps (eY K mg (bO φ N ps)):=by
 refine F.okJ S (fun vs H Q E h=>?_) fun Y A J s H vs Q E hr h=>?_
 .obtain ⟨as,ds,ex,dv,h⟩:=h;unfold bO at h;split at h
  .rename_i hl;rw [<- dv.len];exact hl
  .exact h.elim
 .obtain ⟨as,ds,ex,dv,h⟩:=h;unfold bO at h;split at h
  .rename_i hl;refine ⟨_,hbody Y A J s H E hr,as,H,[],xB N ds,⟨?_,rfl,WQ,WQ,fun a ha=>(nomatch ha),ex,aH.refl _,fun i d _ e=>?_,fun i a h=>(by simp at h)⟩,?_⟩
   .unfold xB start;simp [dv.len]
   .unfold xB at e;unfold start;rw [<- dv.len];exact C5 dv e
   .cases hr:φ (xB N ds) with
    | ok fl =>
     rw [hr] at h;cases fl with
     | rt d=>exact fun v H' s dv'=>h v H' s dv'
     | rn d=>exact fun p o H' s hp e od=>h (.ref p) H' s (od.den (fun z=>ex p z hp) e)
     | nx U=>exact fun own Z H' I=>h .non H' I.same rfl
     | bk U=>exact h.elim
     | ct U=>exact h.elim
    | er x=>rw [hr] at h;exact fun e C H' s=>h e C H' s
    | no=>rw [hr] at h;exact h.elim
  .exact h.elim
section
variable {X:Cx} {O:abu} {x:Str} {st:WO} {ps:abv} {f:Do} {fd:Wl} {j k:Nat} {F:abC->R D} {p pos:Pos} {e:Wk} {es:List Wk} {α:FA}
def az (D:Def X.K X.mg x st ps f fd) (G:FnOk X.prog X.w X.K X.mg X.base dc j f fd ps (eY K mg F)) (Y:Room k X.A) (L:JA X (e::es) (Cz ⟨K,mg,E0⟩ O α)) (hj:j<=k:=by decide) (hg:Gl X x:=by rfl) (J:abD x:=by decide)
  (h1:bw e=true:=by rfl) (h2:es.all bw=true:=by rfl):JE X (.Call (.Name x p) (e::es) [] pos) (tD ⟨K,mg,E0⟩ O (aj F α)) :=
 (Qb D G Y L hj hg J h1 h2).imp fun Z H Q hh=>gB hh fun as0 B own U I h=>⟨as0,B,own,U,I,gP h fun ds vs H1 s1 d1 h1=>⟨own++as0,ds,(I.mono s1).exi,d1,h1⟩⟩
end
section
variable {K:aT} {mg:aby} {X:Cx} {O:abu} {x:Str} {st:WO} {ps:abv} {f:Do} {fd:Wl} {j k:Nat} {F:abC->R D} {p pos:Pos} {e:Wk} {es:List Wk} {α:FA}
def Cl {W:Wd} {as:abz} {H:Hp} {Q:VK} {r:R (abC)} {g:abC->R D} {Q':abB->Hp->Prop} (h:jH W as H (r.bind g) Q) (q:∀ d v H',aH H H'->aN W.K (aP as H') d v->jH W as H' (g d) Q->Q' v H'):lH W as H r Q':=jw h q
end
def Pj {a:Do} {ns:List Int} {H:Hp} {F:abC->R D} {Q:VK} {E:XK} (J:iA K H a (ns.map V.int)) (h:F [.lst (ns.map D.int)]=.ok (.bl true)) (q:∀ H',Q (.bl true) H'):eY K mg F [.ref a] H Q E:=by
 refine ⟨[],[.lst (ns.map D.int)],fun a Y=>(nomatch Y),⟨.ref a,[],rfl,⟨a,ns.map V.int,rfl,by rw [Bv];exact J,?_⟩,rfl⟩,?_⟩
 .clear h J;induction ns with
  | nil=>exact rfl
  | cons n r L=>exact ⟨_,_,rfl,rfl,L⟩
 .rw [h];intro v H' s dv;cases dv;exact q H'
end
section
variable {W:Wd} {X:Cx}
def aR {as:abz} {H:Hp} {d:D} {v:V} {Q:VK} (h:dI W as H (.ok d) Q) (hd:dF W.K (aP as H) d v):Q v H:=h v H (aH.refl _) hd
def MC:ga X (W8 .Add) (fun x y H Q=>∃ l b xs zs,x=.ref l/\y=.ref b/\iA X.K H l xs/\iA X.K H b zs/\xs.length+zs.length<=IF/\∀ p,H p=none->Q (.ref p) (upd H p (.lst (xs++zs)))):=by
 intro af s Z H x y v u Q I rx ry h;obtain ⟨l,b,xs,zs,rfl,rfl,hH,hB,hz,q⟩:=h;cases rx;cases ry;obtain ⟨its,r,pl,hl⟩:=I.list hH;obtain ⟨J,r2,pl2,hl2⟩:=I.list hB;obtain ⟨⟨cls,dd,data,sl⟩,ho,hc,n,hd⟩:=pl.isList;obtain ⟨⟨cls2,dd2,data2,sl2⟩,L,Y,n2,hd2⟩:=pl2.isList;simp only at hc hd Y hd2;subst hc hd Y hd2;have e:its.toArray++J.toArray=(its++J).toArray:=by simp
 refine concat_meets ⟨_,ho,rfl⟩ ⟨_,L,rfl⟩ noFill_list_add seq_list_add PySem.F.slot_list_add PySem.F.entry_list_add (PySem.F.args_list_add_2 _ _) (list_addW l b its.toArray J.toArray n n2 dd dd2 sl sl2 (by rw [tx,tx,<- r.length,<- r2.length];exact hz)) ⟨ho,L,?_⟩;rw [e];exact ⟨.ref _,_,I.lnew (t':=s.toks) (r.append r2) (by rw [VU];exact hz),rfl,q _ I.fresh⟩
def E6 (K:aT):R2:=fun x y H Q=>match x,y with
 | .int i,.int j=>Q (.int (i+j)) H
 | .str i,.str j=>i.length+j.length<=IF/\Q (.str (i++j)) H
 | .ref l,.ref b=>(∃ xs zs,iA K H l xs/\iA K H b zs/\xs.length+zs.length<=IF/\∀ p,H p=none->Q (.ref p) (upd H p (.lst (xs++zs)))) \/
   ∃ xs zs,mf K H l xs/\mf K H b zs/\xs≠[]/\xs.length+zs.length<=IF/\(zs=[]->Q (.ref l) H)/\(zs≠[]->∀ p,H p=none->Q (.ref p) (upd H p (.tup (xs++zs))))
 | _,_=>False
def eM (K:aT) (hK:X.K=K:=by rfl):ga X (W8 .Add) (E6 K):=by
 subst hK;refine ((PC.or Em).or (MC.or MG)).imp fun x y H Q q=>?_;unfold E6 at q;split at q
 .exact .inl (.inl ⟨_,_,rfl,rfl,q⟩)
 .exact .inl (.inr ⟨_,_,rfl,rfl,q.1,q.2⟩)
 .rcases q with ⟨xs,zs,h1,h2,J,L⟩|⟨xs,zs,h1,h2,J,L,Y,h6⟩
  .exact .inr (.inl ⟨_,_,xs,zs,rfl,rfl,h1,h2,J,L⟩)
  .exact .inr (.inr ⟨_,_,xs,zs,rfl,rfl,h1,h2,J,L,Y,h6⟩)
 .exact q.elim
def cT (a b:D):R D:=match a,b with
 | .int i,.int j=>.ok (.int (i+j))
 | .str x,.str y=>if x.length+y.length<=1000000 then .ok (.str (x++y)) else .no
 | .lst xs,.lst ys=>if xs.length+ys.length<=1000000 then .ok (.lst (xs++ys)) else .no
 | .tup xs,.tup ys=>if xs.isEmpty=false/\xs.length+ys.length<=1000000 then .ok (.tup (xs++ys)) else .no
 | _,_=>.no
def jV (K:aT) (hW:W.K=K:=by rfl):uk W (E6 K) cT:=by
 subst hW;intro as H x y a b Q hn da db h;unfold cT at h;split at h
 .cases da;cases db;exact aR h rfl
 .cases da;cases db;split at h
  .rename_i J;exact ⟨RW J fI,aR h rfl⟩
  .exact h.elim
 .rename_i xs ys;obtain ⟨p,vs,rfl,q1,Y⟩:=da;obtain ⟨p2,ws,rfl,q3,q4⟩:=db;split at h
  .rename_i J;rw [Y.len,q4.len] at J;refine .inl ⟨vs,ws,(aC _ _).seq q1,(aC _ _).seq q3,RW J fI,fun p L=>?_⟩;refine h _ _ (bn L _) ⟨p,vs++ws,rfl,.inl (.inl (by rw [bc (hn p L)];exact a9)),(Y.append q4).mono (bh (bn L _))⟩
  .exact h.elim
 .rename_i xs ys;obtain ⟨p,vs,rfl,q1,Y⟩:=da;obtain ⟨p2,ws,rfl,q3,q4⟩:=db;split at h
  .rename_i J;obtain ⟨he,J⟩:=J;have he':vs≠[]:=fun z=>by
    have:=Y.empty
    rw [he,z] at this;cases this
   rw [Y.len,q4.len] at J;refine .inr ⟨vs,ws,(aC _ _).seqT q1,(aC _ _).seqT q3,he',RW J fI,fun z=>?_,fun z p L=>?_⟩
   .have:ys=[]:=by
     cases ys with
     | nil=>rfl
     | cons d r=>obtain ⟨_,_,e,_⟩:=q4;rw [z] at e;cases e
    subst this;rw [WC] at h;exact aR h ⟨p,vs,rfl,q1,Y⟩
   .exact h _ _ (bn L _) ⟨p,vs++ws,rfl,.inl (.inl (by rw [bc (hn p L)];exact a9)),(Y.append q4).mono (bh (bn L _))⟩
  .exact h.elim
 .exact h.elim
def yK (a b:D):R D:=match a,b with
 | .int i,.int j=>.ok (.int (i - j))
 | _,_=>.no
def Kn:uk W OK yK:=by
 intro as H x y a b Q hn L J h;unfold yK at h;split at h
 .cases L;cases J;exact aR h rfl
 .exact h.elim
def Dj:ga X (W8 .Mult) (fun x y H Q=>∃ i n,x=.str i/\y=.int n/\MulOk i n/\Q (.str (Txt.mul i n)) H):=by
 intro af s Z H x y v u Q I L Y h;obtain ⟨i,n,rfl,rfl,J,q⟩:=h;obtain ⟨t,rfl⟩:=L;obtain ⟨t',rfl⟩:=Y;exact bi I.tk (SB.mul J fun t' k htk=>⟨.str _,H,I.tok _,⟨t',rfl⟩,q⟩)
def JH:R2:=fun x y H Q=>match x,y with
 | .int i,.int j=>Eo i j/\Q (.int (i*j)) H
 | .str i,.int j=>MulOk i j/\Q (.str (Txt.mul i j)) H
 | _,_=>False
def j0:ga X (W8 .Mult) JH:=(OD.or Dj).imp fun x y H Q q=>by
 unfold JH at q;split at q
 .exact .inl ⟨_,_,rfl,rfl,q.1,q.2⟩
 .exact .inr ⟨_,_,rfl,rfl,q.1,q.2⟩
 .exact q.elim
instance (i j:Int):Decidable (Eo i j):=by unfold Eo;infer_instance
instance (i j:Int):Decidable (Jh i j):=by unfold Jh;infer_instance
instance (i j:Int):Decidable (KG i j):=by unfold KG;infer_instance
def iJ (a b:D):R D:=match a,b with
 | .int i,.int j=>if Eo i j then .ok (.int (i*j)) else .no
 | .str x,.int n=>if x.length<=1000/\-1000<=n/\n<=1000 then .ok (.str (Txt.mul x n)) else .no
 | _,_=>.no
def rV:uk W JH iJ:=by
 intro as H x y a b Q hn L J h;unfold iJ at h;split at h
 .cases L;cases J;split at h
  .rename_i hl;exact ⟨hl,aR h rfl⟩
  .exact h.elim
 .cases L;cases J;split at h
  .rename_i hl;exact ⟨mulOk_of 1000 1000 hl.1 (by omega) (by omega) (by decide) (by decide),aR h rfl⟩
  .exact h.elim
 .exact h.elim
def b8 (a b:D):R D:=match a,b with
 | .int i,.int j=>if Jh i j then .ok (.int (i/j)) else .no
 | _,_=>.no
def fO:uk W OP b8:=by
 intro as H x y a b Q hn L J h;unfold b8 at h;split at h
 .cases L;cases J;split at h
  .rename_i hl;exact ⟨hl,aR h rfl⟩
  .exact h.elim
 .exact h.elim
def bz (a b:D):R D:=match a,b with
 | .int i,.int j=>if 0 < j then .ok (.int (i % j)) else .no
 | _,_=>.no
def cx:uk W O5 bz:=by
 intro as H x y a b Q hn L J h;unfold bz at h;split at h
 .cases L;cases J;split at h
  .rename_i hl;exact ⟨hl,aR h rfl⟩
  .exact h.elim
 .exact h.elim
def pY (a b:D):R D:=match a,b with
 | .int i,.int j=>if KG i j then .ok (.int (i ^ j.toNat)) else .no
 | _,_=>.no
def Ck:uk W P0 pY:=by
 intro as H x y a b Q hn L J h;unfold pY at h;split at h
 .cases L;cases J;split at h
  .rename_i hl;exact ⟨hl,aR h rfl⟩
  .exact h.elim
 .exact h.elim
def xf (a:D):R D:=match a with
 | .int i=>.ok (.int (-i))
 | _=>.no
def Hu:VA W Qi xf:=by
 intro as H x a Q J h;unfold xf at h;split at h
 .cases J;exact aR h rfl
 .exact h.elim
def Az (a b:D):R D:=match a,b with
 | .int i,.int j=>.ok (.bl (decide (i < j)))
 | .str i,.str j=>.ok (.bl (decide (i.cps.toList < j.cps.toList)))
 | _,_=>.no
def HP (a b:D):R D:=match a,b with
 | .int i,.int j=>.ok (.bl (decide (i<=j)))
 | .str i,.str j=>.ok (.bl (!decide (j.cps.toList < i.cps.toList)))
 | _,_=>.no
def HI (a b:D):R D:=match a,b with
 | .int i,.int j=>.ok (.bl (decide (j < i)))
 | .str i,.str j=>.ok (.bl (decide (j.cps.toList < i.cps.toList)))
 | _,_=>.no
def KR (a b:D):R D:=match a,b with
 | .int i,.int j=>.ok (.bl (decide (j<=i)))
 | .str i,.str j=>.ok (.bl (!decide (i.cps.toList < j.cps.toList)))
 | _,_=>.no
def JN:uk W U4 Az:=by
 intro as H x y a b Q hn L J h;unfold Az at h;split at h
 .cases L;cases J;exact aR h rfl
 .cases L;cases J;exact aR h rfl
 .exact h.elim
def SS:uk W UT HP:=by
 intro as H x y a b Q hn L J h;unfold HP at h;split at h
 .cases L;cases J;exact aR h rfl
 .cases L;cases J;exact aR h rfl
 .exact h.elim
def Qs:uk W UI HI:=by
 intro as H x y a b Q hn L J h;unfold HI at h;split at h
 .cases L;cases J;exact aR h rfl
 .cases L;cases J;exact aR h rfl
 .exact h.elim
def TK:uk W UA KR:=by
 intro as H x y a b Q hn L J h;unfold KR at h;split at h
 .cases L;cases J;exact aR h rfl
 .cases L;cases J;exact aR h rfl
 .exact h.elim
def UP:D->Bool
 | .non=>true
 | _=>false
def Uv (j:Bool):D->Bool
 | .bl i=>i==j
 | _=>false
def BB (x:D) (y:D):R D:=match y with
 | .non=>.ok (.bl (UP x))
 | .bl j=>.ok (.bl (Uv j x))
 | _=>.no
def iq (x:D) (y:D):R D:=match y with
 | .non=>.ok (.bl (!UP x))
 | .bl j=>.ok (.bl (!Uv j x))
 | _=>.no
def zz {K:aT} {H:Hp} {a:D} {x:V} (h:dF K H a x):EV x .non=UP a:=by
 cases a with
 | lst _=>obtain ⟨_,_,rfl,_⟩:=h;rfl
 | tup _=>obtain ⟨_,_,rfl,_⟩:=h;rfl
 | dct _=>obtain ⟨_,_,rfl,_⟩:=h;rfl
 | obj _ _=>obtain ⟨_,_,_,_,rfl,_⟩:=h;rfl
 | exn _=>obtain ⟨_,_,rfl,_⟩:=h;rfl
 | cls _=>obtain ⟨_,rfl,_⟩:=h;rfl
 | lsm _=>obtain ⟨_,_,rfl,_⟩:=h;rfl
 | dcf _=>obtain ⟨_,_,_,rfl,_⟩:=h;rfl
 | _=>cases h;rfl
def zI {K:aT} {H:Hp} {a:D} {x:V} {j:Bool} (h:dF K H a x):EV x (.bl j)=Uv j a:=by
 cases a with
 | lst _=>obtain ⟨_,_,rfl,_⟩:=h;rfl
 | tup _=>obtain ⟨_,_,rfl,_⟩:=h;rfl
 | dct _=>obtain ⟨_,_,rfl,_⟩:=h;rfl
 | obj _ _=>obtain ⟨_,_,_,_,rfl,_⟩:=h;rfl
 | exn _=>obtain ⟨_,_,rfl,_⟩:=h;rfl
 | cls _=>obtain ⟨_,rfl,_⟩:=h;rfl
 | lsm _=>obtain ⟨_,_,rfl,_⟩:=h;rfl
 | dcf _=>obtain ⟨_,_,_,rfl,_⟩:=h;rfl
 | _=>cases h;rfl
def KQ:uk W T5 BB:=by
 intro as H x y a b Q hn L J h;unfold BB at h;split at h
 .cases J;show Q (.bl (EV x .non)) H;rw [zz L];exact aR h rfl
 .cases J;show Q (.bl (EV x (.bl _))) H;rw [zI L];exact aR h rfl
 .exact h.elim
def p5:uk W DK iq:=by
 intro as H x y a b Q hn L J h;unfold iq at h;split at h
 .cases J;show Q (.bl (!EV x .non)) H;rw [zz L];exact aR h rfl
 .cases J;show Q (.bl (!EV x (.bl _))) H;rw [zI L];exact aR h rfl
 .exact h.elim
mutual
def qh:D->Option PyData
 | .non=>some .none
 | .bl b=>some (.bool b)
 | .int i=>some (.int i)
 | .str x=>some (.str x)
 | .lst xs=>(pE xs).map .list
 | .tup xs=>(pE xs).map .tuple
 | _=>none
def pE:abC->Option (List PyData)
 | []=>some []
 | d::ds=>(qh d).bind fun p=>(pE ds).map (p::·)
end
mutual
def qq {af:abw} {Z:St} {H:Hp} {s:iF} (I:Inv X af Z H s):∀ {d:D} {v:V} {u:gs} {p:PyData},dF X.K H d v->bq v u->qh d=some p->∃ as,Reads s.heap u p as
 | .non,_,_,_,h,r,e=>by cases h;cases r;cases e;exact ⟨_,.none⟩
 | .bl b,_,_,_,h,r,e=>by cases h;cases r;cases e;exact ⟨_,.bool b⟩
 | .int i,_,_,_,h,r,e=>by cases h;obtain ⟨t,rfl⟩:=r;cases e;exact ⟨_,.int i t⟩
 | .str x,_,_,_,h,r,e=>by cases h;obtain ⟨t,rfl⟩:=r;cases e;exact ⟨_,.str x t⟩
 | .lst ds,_,_,_,⟨a,xs,h0,h1,h2⟩,r,e=>by
  subst h0;cases r;unfold qh at e;cases q:pE ds with
  | none=>rw [q] at e;cases e
  | some ps =>
   rw [q] at e;cases e;obtain ⟨its,rv,L,hz⟩:=I.list h1;obtain ⟨o,ho,J,n,hd⟩:=L.isList;obtain ⟨as,Y⟩:=pZ I h2 rv q;exact ⟨_,.list ho J hd (by simpa using Y)⟩
 | .tup ds,_,_,_,⟨a,xs,h0,h1,h2⟩,r,e=>by
  subst h0;cases r;unfold qh at e;cases q:pE ds with
  | none=>rw [q] at e;cases e
  | some ps =>
   rw [q] at e;cases e;obtain ⟨its,rv,L,hz⟩:=I.tuple h1;obtain ⟨o,ho,J,n,hd⟩:=L;obtain ⟨as,Y⟩:=pZ I h2 rv q;exact ⟨_,.tuple ho J hd (by simpa using Y)⟩
 | .dct _,_,_,_,_,_,e=>by cases e
 | .obj _ _,_,_,_,_,_,e=>by cases e
 | .ty _,_,_,_,_,_,e=>by cases e
 | .exn _,_,_,_,_,_,e=>by cases e
 | .cls _,_,_,_,_,_,e=>by cases e
 | .lsm _,_,_,_,_,_,e=>by cases e
 | .dcf _,_,_,_,_,_,e=>by cases e
def pZ {af:abw} {Z:St} {H:Hp} {s:iF} (I:Inv X af Z H s):∀ {ds:abC} {vs:abB} {us:abA} {ps:List PyData},aN X.K H ds vs->bC vs us->pE ds=some ps->∃ as,ReadsAll s.heap us ps as
 | [],_,_,_,h,r,e=>by cases h;cases r;cases e;exact ⟨_,.nil⟩
 | d::ds,_,_,_,⟨v,vs,h0,h1,h2⟩,r,e=>by
  subst h0;unfold pE at e;cases q:qh d with
  | none=>rw [q] at e;cases e
  | some p =>
   rw [q] at e;have e:(pE ds).map (p::·)=some _:=e;cases q2:pE ds with
   | none=>rw [q2] at e;cases e
   | some ps =>
    rw [q2] at e;cases e;cases r with
    | cons L Y =>
     obtain ⟨as,ha⟩:=qq I h1 L q;obtain ⟨bs,J⟩:=pZ I h2 Y q2;exact ⟨_,.cons ha J⟩
end
def jy:D->Option V
 | .non=>some .non
 | .bl b=>some (.bl b)
 | .int i=>some (.int i)
 | .str x=>some (.str x)
 | _=>none
def gW {K:aT} {H:Hp} {d:D} {v x:V} (h:dF K H d v) (e:jy d=some x):v=x:=by
 cases d with
 | non=>cases e;exact h
 | bl b=>cases e;exact h
 | int b=>cases e;exact h
 | str b=>cases e;exact h
 | _=>cases e
def oz (a b:D):Option Bool:=match qh a,qh b with
 | some p,some q=>if Xo p=true/\Xo q=true then some (Zl p q) else none
 | _,_=>none
def wz (a b:D):Option Bool:=match jy a,jy b with
 | some x,some y=>if Cp x y=true then some (decide (x=y)) else none
 | _,_=>oz a b
def Ad (K:aT) (f:Bool->Bool):R2:=fun x y H Q=>∃ a b k,dF K H a x/\dF K H b y/\wz a b=some k/\Q (.bl (f k)) H
def Bz {a b:D} {k:Bool} (h:oz a b=some k):∃ p q,qh a=some p/\qh b=some q/\Xo p=true/\Xo q=true/\k=Zl p q:=by
 unfold oz at h;split at h
 .rename_i p q h1 h2;split at h
  .rename_i hs;cases h;exact ⟨p,q,h1,h2,hs.1,hs.2,rfl⟩
  .cases h
 .cases h
def eT (K:aT) (hu:X.A.units+64 < YX) (hK:X.K=K:=by rfl):ga X (VT .Eq) (Ad K fun k=>k):=by
 subst hK;intro af s Z H x y v u Q I L ry h;obtain ⟨a,b,k,Y,J,e,q⟩:=h;unfold wz at e;split at e
 .rename_i x' y' e1 e2;split at e
  .rename_i hs;cases e
   have:=gW Y e1;subst this
   have:=gW J e2;subst this
   exact QM af s Z H _ _ v u Q I L ry ⟨hs,q⟩
  .cases e
 .obtain ⟨p,p',h1,h2,h3,h4,rfl⟩:=Bz e;obtain ⟨as,ra⟩:=qq I Y L h1;obtain ⟨bs,rb⟩:=qq I J ry h2;exact eq_dataH ra rb h3 h4 hu ⟨.bl _,H,I,rfl,q⟩
def C3 (K:aT) (hu:X.A.units+64 < YX) (hK:X.K=K:=by rfl):ga X (VT .NotEq) (Ad K fun k=>!k):=by
 subst hK;intro af s Z H x y v u Q I L ry h;obtain ⟨a,b,k,Y,J,e,q⟩:=h;unfold wz at e;split at e
 .rename_i x' y' e1 e2;split at e
  .rename_i hs;cases e
   have:=gW Y e1;subst this
   have:=gW J e2;subst this
   exact Rq af s Z H _ _ v u Q I L ry ⟨hs,q⟩
  .cases e
 .obtain ⟨p,p',h1,h2,h3,h4,rfl⟩:=Bz e;obtain ⟨as,ra⟩:=qq I Y L h1;obtain ⟨bs,rb⟩:=qq I J ry h2;exact ne_dataH ra rb h3 h4 hu ⟨.bl _,H,I,rfl,q⟩
def lW (o:Option Bool) (f:Bool->Bool):R D:=match o with
 | some k=>.ok (.bl (f k))
 | none=>.no
def dR (a b:D):R D:=lW (wz a b) fun k=>k
def yI (a b:D):R D:=lW (wz a b) fun k=>!k
def Sj (K:aT) (f:Bool->Bool) (Y:W.K=K:=by rfl):uk W (Ad K f) (fun a b=>lW (wz a b) f):=by
 subst Y;intro as H x y a b Q hn L J h;have h:dI W as H (lW (wz a b) f) Q:=h;cases e:wz a b with
 | none=>rw [e] at h;exact h.elim
 | some k =>
  rw [e] at h;exact ⟨a,b,k,L.mono (aC _ _),J.mono (aC _ _),e,aR h rfl⟩
def pO (K:aT) (J:W.K=K:=by rfl):uk W (Ad K fun k=>k) dR:=Sj K _ J
def PZ (K:aT) (J:W.K=K:=by rfl):uk W (Ad K fun k=>!k) yI:=Sj K _ J
def gd:abC->Option (abB)
 | []=>some []
 | d::ds=>(jy d).bind fun v=>(gd ds).map (v::·)
def oq {K:aT} {H:Hp}:∀ {ds:abC} {vs xs:abB},aN K H ds vs->gd ds=some xs->vs=xs/\xs.all gQ=true
 | [],_,_,h,e=>by cases h;cases e;exact ⟨rfl,rfl⟩
 | d::ds,_,_,⟨v,vs,h0,h1,h2⟩,e=>by
  subst h0;unfold gd at e;cases q:jy d with
  | none=>rw [q] at e;cases e
  | some x =>
   rw [q] at e;have e:(gd ds).map (x::·)=some _:=e;cases q2:gd ds with
   | none=>rw [q2] at e;cases e
   | some xs =>
    rw [q2] at e;cases e;obtain ⟨J,L⟩:=oq h2 q2;refine ⟨by rw [gW h1 q,J],?_⟩;rw [Wz,L,Bool.and_true];cases d <;> cases q <;> rfl
def sI {d:D} {x:V} (e:jy d=some x):gQ x=true:=by cases d <;> cases e <;> rfl
def N9 (j i:Str):Bool:=!(Yc j i 0 j.length 1).isEmpty
def Cu (K:aT) (J:Bool):R2:=fun x y H Q=>match x,y with
 | .str i,.str j=>Q (.bl (if J=true then !N9 j i else N9 j i)) H
 | x,.ref p=>∃ xs,(iA K H p xs\/mf K H p xs)/\gQ x=true/\xs.all gQ=true/\Q (.bl (if J=true then !HH x xs else HH x xs)) H
 | _,_=>False
def UE (K:aT) (L:X.K=K:=by rfl):ga X (VT .In) (Cu K false):=by
 subst L;refine (Hr.or GC).imp fun x y H Q q=>?_;unfold Cu at q;split at q
 .exact .inl ⟨_,_,rfl,rfl,q⟩
 .obtain ⟨xs,h1,h2,J,Y⟩:=q;exact .inr ⟨_,xs,rfl,h1,h2,J,Y⟩
 .exact q.elim
def E8 (K:aT) (L:X.K=K:=by rfl):ga X (VT .NotIn) (Cu K true):=by
 subst L;refine (AF.or A6).imp fun x y H Q q=>?_;unfold Cu at q;split at q
 .exact .inl ⟨_,_,rfl,rfl,q⟩
 .obtain ⟨xs,h1,h2,J,Y⟩:=q;exact .inr ⟨_,xs,rfl,h1,h2,J,Y⟩
 .exact q.elim
def Fi (x:D) (xs:abC):Option Bool:=match jy x,gd xs with
 | some v,some vs=>some (HH v vs)
 | _,_=>none
def T2 (x y:D):Option Bool:=match y with
 | .str j=>match x with
  | .str i=>some (N9 j i)
  | _=>none
 | .lst xs=>Fi x xs
 | .tup xs=>Fi x xs
 | _=>none
def Vk (x y:D):R D:=lW (T2 x y) fun k=>if false=true then !k else k
def vy (x y:D):R D:=lW (T2 x y) fun k=>if true=true then !k else k
def QC (K:aT) (J:Bool) (hW:W.K=K:=by rfl):uk W (Cu K J) (fun a b=>lW (T2 a b) fun k=>if J=true then !k else k):=by
 subst hW;intro as H x y a b Q hn da db h;have L:∀ (p:Do) (ds:abC) (vs:abB),y=.ref p->(iA W.K H p vs\/mf W.K H p vs)->aN W.K (aP as H) ds vs->dI W as H (lW (Fi a ds) fun k=>if J=true then !k else k) Q->Cu W.K J x y H Q:=by
  intro p ds vs hy hq hd h;subst hy;unfold Fi at h;cases e1:jy a with
  | none=>rw [e1] at h;exact h.elim
  | some v =>
   rw [e1] at h;cases e2:gd ds with
   | none=>rw [e2] at h;exact h.elim
   | some ws =>
    rw [e2] at h
    have:=gW da e1
    subst this;obtain ⟨h3,h4⟩:=oq hd e2;subst h3;have fin:∃ xs,(iA W.K H p xs\/mf W.K H p xs)/\gQ x=true/\xs.all gQ=true/\Q (.bl (if J=true then !HH x xs else HH x xs)) H:=⟨vs,hq,sI e1,h4,aR h rfl⟩;cases x <;> exact fin
 cases b with
 | str j =>
  cases a with
  | str i=>cases da;cases db;exact aR h rfl
  | _=>exact h.elim
 | lst ds=>obtain ⟨p,vs,rfl,Y,q2⟩:=db;exact L p ds vs rfl (.inl ((aC _ _).seq Y)) q2 h
 | tup ds=>obtain ⟨p,vs,rfl,Y,q2⟩:=db;exact L p ds vs rfl (.inr ((aC _ _).seqT Y)) q2 h
 | _=>exact h.elim
def pIn (K:aT) (J:W.K=K:=by rfl):uk W (Cu K false) Vk:=QC K false J
def Jr (K:aT) (J:W.K=K:=by rfl):uk W (Cu K true) vy:=QC K true J
def cC (a b:D):R D:=match a,b with
 | .str z,.int i=>if z.length<=1000000 then (match atI z.cps.toList i with
  | some c=>.ok (.str ⟨#[c]⟩)
  | none=>.no) else .no
 | .lst xs,.int i=>match atI xs i with
  | some d=>.ok d
  | none=>.no
 | .tup xs,.int i=>match atI xs i with
  | some d=>.ok d
  | none=>.no
 | _,_=>.no
def aN.atI {K:aT} {H:Hp} {ds:abC} {xs:abB} {i:Int} {d:D} (h:aN K H ds xs) (e:atI ds i=some d):∃ v,L2.atI xs i=some v/\dF K H d v:=by
 unfold L2.atI at e ⊢;rw [h.len] at e;cases q:Mg xs.length i with
 | none=>rw [q] at e;cases e
 | some j =>
  rw [q] at e;exact h.get e
def cJ (K:aT) (hW:W.K=K:=by rfl):uk W (Qu K) cC:=by
 subst hW;intro as H x y a b Q hn da L h;unfold cC at h;split at h
 .cases da;cases L;split at h
  .rename_i hl;split at h
   .rename_i c e;exact ⟨c,RW hl fI,e,aR h rfl⟩
   .exact h.elim
  .exact h.elim
 .obtain ⟨p,vs,rfl,J,Y⟩:=da;cases L;split at h
  .rename_i d e;obtain ⟨v,h1,h2⟩:=Y.atI e;exact ⟨vs,v,.inl ((aC _ _).seq J),h1,aR h h2⟩
  .exact h.elim
 .obtain ⟨p,vs,rfl,J,Y⟩:=da;cases L;split at h
  .rename_i d e;obtain ⟨v,h1,h2⟩:=Y.atI e;exact ⟨vs,v,.inr ((aC _ _).seqT J),h1,aR h h2⟩
  .exact h.elim
 .exact h.elim
def mO (xs:abC) (lo hi:Option Int):abC:=(xs.drop (HT.sIx xs.length 0 lo)).take (HT.sIx xs.length xs.length hi - HT.sIx xs.length 0 lo)
def aN.cut {K:aT} {H:Hp} {ds:abC} {xs:abB} (h:aN K H ds xs) (lo hi:Option Int):aN K H (mO ds lo hi) (yN xs lo hi):=by
 unfold mO yN;rw [h.len];exact (h.drop _).take _
def yf (a:D) (lo hi:Option Int):R D:=match a with
 | .str z=>if z.length<=1000000 then .ok (.str (lV z lo hi)) else .no
 | .lst xs=>.ok (.lst (mO xs lo hi))
 | .tup xs=>if HT.sIx xs.length 0 lo=0/\HT.sIx xs.length xs.length hi=xs.length then .no else .ok (.tup (mO xs lo hi))
 | _=>.no
def JX (K:aT) (hW:W.K=K:=by rfl):Va W (Q9 K) yf:=by
 subst hW;intro as H x lo hi a Q hn da h;unfold yf at h;split at h
 .cases da;split at h
  .rename_i hl;exact ⟨RW hl fI,aR h rfl⟩
  .exact h.elim
 .obtain ⟨p,vs,rfl,Y,L⟩:=da;refine .inl ⟨vs,(aC _ _).seq Y,fun p J=>h _ _ (bn J _) ⟨p,_,rfl,.inl (.inl (by rw [bc (hn p J)];exact a9)),(L.cut lo hi).mono (bh (bn J _))⟩⟩
 .obtain ⟨p,vs,rfl,Y,L⟩:=da;rename_i xs;split at h
  .exact h.elim
  .rename_i hc;rw [L.len] at hc;exact .inr ⟨vs,(aC _ _).seqT Y,hc,fun p J=>h _ _ (bn J _) ⟨p,_,rfl,.inl (.inl (by rw [bc (hn p J)];exact a9)),(L.cut lo hi).mono (bh (bn J _))⟩⟩
 .exact h.elim
def cw (ds:abC):R D:=match ds with
 | [.str z]=>if z.length<=1000000 then .ok (.int z.length) else .no
 | [.lst xs]=>.ok (.int xs.length)
 | [.tup xs]=>.ok (.int xs.length)
 | _=>.no
def iK {K:aT} {H:Hp} {d:D} {xs:abB} (h:aN K H [d] xs):∃ v,xs=[v]/\dF K H d v:=by
 obtain ⟨v,vs,rfl,h1,h2⟩:=h;cases h2;exact ⟨v,rfl,h1⟩
def FG {K:aT} {H:Hp} {d e:D} {xs:abB} (h:aN K H [d,e] xs):∃ v u,xs=[v,u]/\dF K H d v/\dF K H e u:=by
 obtain ⟨v,vs,rfl,h1,h2⟩:=h;obtain ⟨u,rfl,J⟩:=iK h2;exact ⟨v,u,rfl,h1,J⟩
def j7 (K:aT) (hW:W.K=K:=by rfl):sx W (K9 K) cw:=by
 subst hW;intro as H xs ds Q hn Y h;unfold cw at h;split at h
 .obtain ⟨v,rfl,d1⟩:=iK Y;cases d1;split at h
  .rename_i hl;exact ⟨RW hl fI,aR h rfl⟩
  .exact h.elim
 .obtain ⟨v,rfl,d1⟩:=iK Y;obtain ⟨p,vs,rfl,J,L⟩:=d1;refine ⟨vs,.inl ((aC _ _).seq J),?_⟩;rw [<- L.len];exact aR h rfl
 .obtain ⟨v,rfl,d1⟩:=iK Y;obtain ⟨p,vs,rfl,J,L⟩:=d1;refine ⟨vs,.inr ((aC _ _).seqT J),?_⟩;rw [<- L.len];exact aR h rfl
 .exact h.elim
def LB (ds:abC):R D:=match ds with
 | [.int i]=>.ok (.int (if i < 0 then -i else i))
 | _=>.no
def TY:sx W Oc LB:=by
 intro as H xs ds Q hn J h;unfold LB at h;split at h
 .obtain ⟨v,rfl,d1⟩:=iK J;cases d1;exact aR h rfl
 .exact h.elim
def Jj (ds:abC):R D:=match ds with
 | [.int i,.int j]=>.ok (.int (if j < i then j else i))
 | _=>.no
def Ua:sx W Qd Jj:=by
 intro as H xs ds Q hn J h;unfold Jj at h;split at h
 .obtain ⟨v,u,rfl,d1,d2⟩:=FG J;cases d1;cases d2;exact aR h rfl
 .exact h.elim
def CA:abC->Option (List Bool)
 | []=>some []
 | .bl b::ds=>(CA ds).map (b::·)
 | _=>none
def CI {K:aT} {H:Hp}:∀ {ds:abC} {vs:abB} {bs:List Bool},aN K H ds vs->CA ds=some bs->vs=bs.map V.bl
 | [],_,_,h,e=>by cases h;cases e;rfl
 | d::ds,_,_,⟨v,vs,h0,h1,h2⟩,e=>by
  subst h0;cases d with
  | bl b =>
   have e:(CA ds).map (b::·)=some _:=e;cases q2:CA ds with
   | none=>rw [q2] at e;cases e
   | some xs =>
    rw [q2] at e;cases e;cases h1;rw [CI h2 q2];rfl
  | _=>cases e
def nh (ds:abC):R D:=match ds with
 | [.lst xs]=>match CA xs with
  | some bs=>.ok (.bl (bs.all id))
  | none=>.no
 | _=>.no
def u7 (K:aT) (hW:W.K=K:=by rfl):sx W (Oo K) nh:=by
 subst hW;intro as H xs ds Q hn Y h;unfold nh at h;split at h
 .obtain ⟨v,rfl,d1⟩:=iK Y;obtain ⟨p,vs,rfl,J,L⟩:=d1;split at h
  .rename_i bs e;refine ⟨bs,?_,aR h rfl⟩;rw [<- CI L e];exact (aC _ _).seq J
  .exact h.elim
 .exact h.elim
def IX (K:aT) (xs:abB) (H:Hp) (Q:VK):Prop:=match xs with
 | [x,.ty C]=>pG C=true/\(match x with
  | .non=>Q (.bl (mN "NoneType" C)) H
  | .bl _=>Q (.bl (mN "bool" C)) H
  | .int _=>Q (.bl (mN "int" C)) H
  | .str _=>Q (.bl (mN "str" C)) H
  | .ref a=>(∃ xs,iA K H a xs/\Q (.bl (mN "list" C)) H)\/(∃ xs,mf K H a xs/\Q (.bl (mN "tuple" C)) H)\/(∃ kvs,H a=some (.dK kvs)/\Q (.bl (mN "dict" C)) H)\/∃ o kvs,H a=some (.frz o (.dK kvs))/\Q (.bl (mN "dict" C)) H
  | _=>False)
 | _=>False
def fZ (K:aT) (hK:X.K=K:=by rfl):ce X (.builtin "isinstance") (IX K):=by
 subst hK;intro af s Z H xs us Q I r h;unfold IX at h;split at h
 .rename_i x C;obtain ⟨J,h⟩:=h;obtain ⟨u,c,rfl,Y,rc⟩:=Fy r;cases rc;have fin:∀ (b:Bool),Q (.bl b) H->∀ tk,X.tn<=tk->EP X af Z Q (.bool b) { s with toks:=tk }:=fun b q tk htk=>⟨.bl b,H,I.tok tk,rfl,q⟩;refine bi I.tk ?_;cases x with
  | non=>exact gR I Y .non (l6 (.inl rfl) J) (fin _ h)
  | bl b=>exact gR I Y (.bl b) (l6 (.inr (.inl rfl)) J) (fin _ h)
  | int b=>exact gR I Y (.int b) (l6 (.inr (.inr (.inl rfl))) J) (fin _ h)
  | str b=>exact gR I Y (.str b) (l6 (.inr (.inr (.inr (.inl rfl)))) J) (fin _ h)
  | ref a =>
   cases Y;rcases h with ⟨xs,L,q⟩|⟨xs,L,q⟩|⟨kvs,L,q⟩|⟨ob,kvs,L,q⟩
   .obtain ⟨its,rv,pl,hz⟩:=I.list L;obtain ⟨o,ho,hc,n,hd⟩:=pl.isList;exact Wf Zh I.kIn ⟨o,ho,hc⟩ (l6 (.inr (.inr (.inr (.inr (.inl rfl))))) J) (fun z=>nomatch z) (fin _ q)
   .obtain ⟨its,rv,pl,hz⟩:=I.tuple L;obtain ⟨o,ho,hc,n,hd⟩:=pl;exact Wf Y7 I.kIn ⟨o,ho,hc⟩ (l6 (.inr (.inr (.inr (.inr (.inr (.inl rfl)))))) J) (fun z=>nomatch z) (fin _ q)
   .exact gR (x:=.ref a) I rfl (.dK L) (l6 (.inr (.inr (.inr (.inr (.inr (.inr rfl)))))) J) (fin _ q)
   .obtain ⟨_,_,_,vs,_,o,es,ep,h1,h2,_⟩:=(show cc X.prog X.w H s.heap a (.frz ob (.dK kvs)) from I.hok a _ L);exact Wf Zi I.kIn ⟨o,h1,h2.1⟩ (l6 (.inr (.inr (.inr (.inr (.inr (.inr rfl)))))) J) (fun z=>nomatch z) (fin _ q)
  | _=>exact h.elim
 .exact h.elim
def dH (ds:abC):R D:=match ds with
 | [x,.ty C]=>if pG C=true then (match x with
  | .non=>.ok (.bl (mN "NoneType" C))
  | .bl _=>.ok (.bl (mN "bool" C))
  | .int _=>.ok (.bl (mN "int" C))
  | .str _=>.ok (.bl (mN "str" C))
  | .lst _=>.ok (.bl (mN "list" C))
  | .tup _=>.ok (.bl (mN "tuple" C))
  | .dct _=>.ok (.bl (mN "dict" C))
  | .dcf _=>.ok (.bl (mN "dict" C))
  | _=>.no) else .no
 | _=>.no
def lS (K:aT) (hW:W.K=K:=by rfl):sx W (IX K) dH:=by
 subst hW;intro as H xs ds Q hn Y h;unfold dH at h;split at h
 .obtain ⟨v,u,rfl,d1,d2⟩:=FG Y;cases d2;split at h
  .rename_i hC;split at h
   .cases d1;exact ⟨hC,aR h rfl⟩
   .cases d1;exact ⟨hC,aR h rfl⟩
   .cases d1;exact ⟨hC,aR h rfl⟩
   .cases d1;exact ⟨hC,aR h rfl⟩
   .obtain ⟨p,vs,rfl,J,L⟩:=d1;exact ⟨hC,.inl ⟨vs,(aC _ _).seq J,aR h rfl⟩⟩
   .obtain ⟨p,vs,rfl,J,L⟩:=d1;exact ⟨hC,.inr (.inl ⟨vs,(aC _ _).seqT J,aR h rfl⟩)⟩
   .obtain ⟨p,vs,rfl,J,L⟩:=d1;exact ⟨hC,.inr (.inr (.inl ⟨vs,aC _ _ _ _ J,aR h rfl⟩))⟩
   .obtain ⟨p,o,vs,rfl,J,L⟩:=d1;exact ⟨hC,.inr (.inr (.inr ⟨o,vs,aC _ _ _ _ J,aR h rfl⟩))⟩
   .exact h.elim
  .exact h.elim
 .exact h.elim
def Al (K:aT) (xs:abB) (H:Hp) (Q:VK):Prop:=match xs with
 | [.ref p]=>(∃ ys,iA K H p ys/\∀ l,H l=none->Q (.ref l) (upd H l (.tup ys)))\/∃ ys,mf K H p ys/\Q (.ref p) H
 | _=>False
def Ep (K:aT) (J:X.K=K:=by rfl):ce X (.type "tuple") (Al K):=by
 subst J;refine yS.imp fun xs H Q q=>?_;unfold Al at q;split at q
 .rcases q with ⟨ys,h1,h2⟩|⟨ys,h1,h2⟩
  .exact ⟨_,ys,rfl,.inl ⟨h1,h2⟩⟩
  .exact ⟨_,ys,rfl,.inr ⟨h1,h2⟩⟩
 .exact q.elim
def uP (ds:abC):R D:=match ds with
 | [.lst xs]=>.ok (.tup xs)
 | [.tup xs]=>.ok (.tup xs)
 | _=>.no
def OV {as:abz} {H:Hp} (hn:∀ a∈as,H a≠none):∀ p,H p=none->p∉as:=fun p J z=>hn p z J
def QP (K:aT) (hW:W.K=K:=by rfl):sx W (Al K) uP:=by
 subst hW;intro as H xs ds Q hn dv h;unfold uP at h;split at h
 .obtain ⟨v,rfl,d1⟩:=iK dv;obtain ⟨p,vs,rfl,J,L⟩:=d1;exact .inl ⟨vs,(aC _ _).seq J,fun l Y=>h _ _ (bn Y _) ⟨l,vs,rfl,.inl (.inl (by rw [bc (OV hn l Y)];exact a9)),L.mono (bh (bn Y _))⟩⟩
 .obtain ⟨v,rfl,d1⟩:=iK dv;obtain ⟨p,vs,rfl,J,L⟩:=d1;exact .inr ⟨vs,(aC _ _).seqT J,aR h ⟨p,vs,rfl,J,L⟩⟩
 .exact h.elim
def Dc (K:aT) (xs:abB) (H:Hp) (Q:VK):Prop:=match xs with
 | [.ref p]=>∃ ys,(iA K H p ys\/mf K H p ys)/\∀ l,H l=none->Q (.ref l) (upd H l (.lst ys))
 | _=>False
def xl (K:aT) (J:X.K=K:=by rfl):ce X (.type "list") (Dc K):=by
 subst J;refine AL.imp fun xs H Q q=>?_;unfold Dc at q;split at q
 .obtain ⟨ys,h1,h2⟩:=q;exact ⟨_,ys,rfl,h1,h2⟩
 .exact q.elim
def yM (ds:abC):R D:=match ds with
 | [.lst xs]=>.ok (.lst xs)
 | [.tup xs]=>.ok (.lst xs)
 | _=>.no
def IA (K:aT) (hW:W.K=K:=by rfl):BQ W (Dc K) yM:=by
 subst hW;intro as H xs ds Q hn dv h;unfold yM at h;split at h
 .obtain ⟨v,rfl,d1⟩:=iK dv;obtain ⟨p,vs,rfl,L,Y⟩:=d1;exact ⟨vs,.inl ((aC _ _).seq L),fun l J=>h l _ _ (bn J _) J a9 ⟨vs,rfl,Y.mono (lv J (bn J _))⟩⟩
 .obtain ⟨v,rfl,d1⟩:=iK dv;obtain ⟨p,vs,rfl,L,Y⟩:=d1;exact ⟨vs,.inr ((aC _ _).seqT L),fun l J=>h l _ _ (bn J _) J a9 ⟨vs,rfl,Y.mono (lv J (bn J _))⟩⟩
 .exact h.elim
def kg {O:abu} {pos:Pos}:JE X (.Dict [] [] pos) (tN W O (vC (.dct []))):=ME.imp fun Z H Q ⟨as0,B,own,U,I,h⟩ p hp=>h p _ _ (bn hp _) hp a9 ⟨[],rfl,rfl⟩
def su:abC->Option (abv)
 | []=>some []
 | .str b::ds=>(su ds).map (b::·)
 | _=>none
def uO {K:aT} {H:Hp}:∀ {ds:abC} {vs:abB} {bs:abv},aN K H ds vs->su ds=some bs->vs=bs.map V.str
 | [],_,_,h,e=>by cases h;cases e;rfl
 | d::ds,_,_,⟨v,vs,h0,h1,h2⟩,e=>by
  subst h0;cases d with
  | str b =>
   have e:(su ds).map (b::·)=some _:=e;cases q2:su ds with
   | none=>rw [q2] at e;cases e
   | some xs =>
    rw [q2] at e;cases e;cases h1;rw [uO h2 q2];rfl
  | _=>cases e
def xH (z:Str) (ds:abC):R D:=match ds with
 | [.lst xs]=>match su xs with
  | some ys=>if (ys.map (·.length)).sum+ys.length*z.length<=1000000 then .ok (.str (ZX z ys)) else .no
  | none=>.no
 | _=>.no
def M3 (K:aT) (hW:W.K=K:=by rfl):Vj W (JD K) xH:=by
 subst hW;intro as H z xs ds Q hn Y h;unfold xH at h;split at h
 .obtain ⟨v,rfl,d1⟩:=iK Y;obtain ⟨p,vs,rfl,J,L⟩:=d1;split at h
  .rename_i ys e;split at h
   .rename_i hl;refine ⟨ys,?_,RW hl (by decide),aR h rfl⟩;rw [<- uO L e];exact (aC _ _).seq J
   .exact h.elim
  .exact h.elim
 .exact h.elim
end
section
variable {X:Cx} {o e:Wk} {es:List Wk} {to:TE} {t:TA} {name:Str} {apos cpos:Pos} {T id:String} {r:V->abB->Hp->VK->Prop}
def Mq (pa:PlainAttrs T) (slot:Slot T name id) (hty:typeOf (.builtin id)=pure (.type "method_descriptor")) (hm:TV X id r) (ho:JE X o to) (ha:JA X (e::es) t)
  (J:WG o name X.env (eval o X.env)=eval o X.env:=by rfl) (Y:(apos.endLine==cpos.line)=true:=by rfl) (h1:(e::es).all bw=true:=by rfl) (hl:(e::es).length < 29:=by decide) :
  JE X (.Call (.Attribute o name apos) (e::es) [] cpos) (UK X.K T r to t):=by
 have L:=h1;rw [Wz,V4] at L;exact ⟨QN pa slot hty hm ho.out ha.out J (Cn h1 hl) Y (dl L.1) (gi L.2)⟩
end
def Fo:∀ {O:abu} {own:abz} {i:Nat} {a b:Do},O.Nodup->(i,a)∈O.zip own->(i,b)∈O.zip own->a=b
 | [],_,_,_,_,_,h,_=>by simp at h
 | _::_,[],_,_,_,_,h,_=>by simp at h
 | k::O,c::own,i,a,b,nd,h1,h2=>by
  rw [Wp] at h1 h2;rw [Wm] at nd;rcases nE.mp h1 with e1|h1 <;> rcases nE.mp h2 with e2|h2
  .cases e1;cases e2;rfl
  .cases e1;exact absurd (V5 h2).1 nd.1
  .cases e2;exact absurd (V5 h1).1 nd.1
  .exact Fo nd.2 h1 h2
def Cf {as:abz} {H:Hp} {a:Do} {o:HO} (h:a∈as):aP as (upd H a o)=aP as H:=by
 funext b
 unfold aP;split
 .rfl
 .rename_i hb;exact aU fun z=>hb (by rw [z];exact h)
def DI.mutate {K:aT} {as0 own:abz} {B H:Hp} {O:abu} {Z:St} {U:Sd} {i:Nat} {a:Do} {o':HO} {d':D} (I:DI K as0 B O own Z U H) (hi:(i,a)∈O.zip own) (h:oC K (aP (own++as0) H) o' d') :
  DI K as0 B O own Z (U.set i (some d')) (upd H a o'):=by
 have hm:a∈own++as0:=Wc _ (V5 hi).2;obtain ⟨d0,o0,h1,h2,h3,h4⟩:=I.owns i a hi;have Y:i < U.length:=(VX.mp h1).1;refine ⟨by simp [I.len],I.olen,I.nd,I.ond,I.fresh,I.ex0,fun b u e=>?_,fun j e L q=>?_,fun j b L=>?_⟩
 .have hb:b≠a:=fun z=>by
   have:=I.fresh a (V5 hi).2
   rw [z,this] at e;cases e
  rw [aU hb];exact I.same b u e
 .have J:i≠j:=fun z=>L (by rw [<- z];exact (V5 hi).1);rw [getElem?_set',abo J] at q;rw [Cf hm];exact I.var j e L q
 .rw [Cf hm];by_cases J:i=j
  .subst J
   have:=Fo I.ond hi L
   subst this;exact ⟨d',o',by rw [getElem?_set',abn rfl,abn Y],h2,a9,h⟩
  .obtain ⟨d,u,q1,q2,q3,q4⟩:=I.owns j b L;have hba:b≠a:=fun z=>J (by rw [z] at L;exact zip_inj I.nd hi L);exact ⟨d,u,by rw [getElem?_set',abo J];exact q1,q2,by rw [aU hba];exact q3,q4⟩
section
variable {X:Cx} {W:Wd} {Ob O O':abu} {e:Wk} {ε ψ:FE} {pos p1 p2 apos cpos:Pos} {x:Str}
def Sb (K:aT) {i:Nat} (hi:i∈O) (hb:JE X e (tD W O ψ)) (hN:X.N[i]?=some x:=by rfl) (hs:wE e:=by exact fun _ _=>rfl) (hv:Ev X.env.scope x:=by walk_at"v") (hd:abD x:=by decide)
  (Y:(x==("__classdict__":Str))=false:=by decide) (hK:X.K=K:=by rfl) (hW:W.K=K:=by rfl):JE X (.Subscript (.Name x p1) e pos) (tD W O (av cC (ag i) ψ)) :=
 (SI (cF K hK) (jv i hN hv hd Y) hb hs).imp fun Z H Q hh=>gB hh fun as0 B own U I h=>by
  obtain ⟨a,ha⟩:=fc I.olen hi;obtain ⟨d,o,h1,h2,h3,h4⟩:=I.owns i a ha;have e0:D9 (Qu K) (Ab i) (tD W O ψ) Z H Q=yk Z[i]? H (R1 (Qu K) (tD W O ψ) Z Q):=rfl;rw [e0,h2];have hv:ag i U=.ok d:=by unfold ag;rw [h1]
  have h':dI W (own++as0) H ((ψ U).bind fun y=>cC d y) Q:=by
   have e:av cC (ag i) ψ U=(ψ U).bind fun y=>cC d y:=by unfold av;rw [hv];rfl
   rw [<- e];exact h
  refine ⟨as0,B,own,U,I,bS h' fun y u H2 s2 d2 L=>?_⟩;subst hW;cases d with
  | lst ds =>
   obtain ⟨xs,rfl,q⟩:=h4;cases y with
   | int k =>
    cases d2;have J:dI W (own++as0) H2 (match atI ds k with|some d=>.ok d|none=>.no) Q:=L
    cases q3:atI ds k with
    | none=>rw [q3] at J;exact J.elim
    | some d' =>
     rw [q3] at J;obtain ⟨v,e1,e2⟩:=q.atI q3;exact ⟨xs,v,.inl (iA.of (s2 _ _ h3)),e1,aR J (e2.mono (bh s2))⟩
   | _=>exact L.elim
  | _=>first|exact h4.elim|(cases y <;> exact L.elim)
def PN (K:aT) {i:Nat} (hi:i∈O) (hm:X.mg "len"=none) (hN:X.N[i]?=some x:=by rfl) (hg:Gl X "len":=by rfl) (L:Ev X.env.scope x:=by walk_at"v") (hd:abD x:=by decide)
  (J:(x==("__classdict__":Str))=false:=by decide) (hK:X.K=K:=by rfl) (hW:W.K=K:=by rfl):JE X (.Call (.Name "len" p2) [.Name x p1] [] pos) (tD W O (aj cw (ab (ag i) am))) :=
 (A7 (jX K hK) hm bW (rq (jv i hN L hd J) vv) hg).imp fun Z H Q hh=>gB hh fun as0 B own U I h=>by
  obtain ⟨a,ha⟩:=fc I.olen hi;obtain ⟨d,o,h1,h2,h3,Y⟩:=I.owns i a ha;show yk Z[i]? H _;rw [h2];have L:ag i U=.ok d:=by unfold ag;rw [h1]
  have h':dI W (own++as0) H (cw [d]) Q:=by
   have e:aj cw (ab (ag i) am) U=cw [d]:=by unfold aj ab am;rw [L];rfl
   rw [<- e];exact h
  cases d with
  | lst ds =>
   obtain ⟨xs,rfl,q⟩:=Y;refine ⟨xs,.inl (iA.of h3),?_⟩;rw [<- q.len];exact aR h' rfl
  | _=>first|exact Y.elim|exact h'.elim
def df (i:Nat) (ε:FE):FS:=fun U=>match U[i]? with
 | some (some (.lst xs))=>(ε U).bind fun d=>if xs.length < 1000000 then .ok (.nx (U.set i (some (.lst (xs++[d]))))) else .no
 | _=>.no
def eS {i:Nat} (hi:i∈O) (he:JE X e (tD W O ε)) (hN:X.N[i]?=some x:=by rfl) (hn:bw e=true:=by rfl) (L:(apos.endLine==cpos.line)=true:=by rfl) (hv:Ev X.env.scope x:=by walk_at"v") (hd:abD x:=by decide)
  (Y:(x==("__classdict__":Str))=false:=by decide) (J:WG (.Name x p1) "append" X.env (eval (.Name x p1) X.env)=eval (.Name x p1) X.env:=by rfl)
  (hs:XN (.Call (.Attribute (.Name x p1) "append" apos) [e] [] cpos) none pos.line X.env=pure false:=by rfl) (hW:W.K=X.K:=by rfl) :
  JS X (.Expr (.Call (.Attribute (.Name x p1) "append" apos) [e] [] cpos) pos) (sD W Ob O O (df i ε)) :=
 (EE (Mq Yf PySem.F.slot_list_append PySem.F.type_list_append zy (jv i hN hv hd Y) (rq he vv hn) J L (by rw [Wz,hn];rfl) (by show 1 < 29;decide)) hs).imp fun D Z H hh=>gB hh fun as0 B own U I h=>by
  obtain ⟨a,ha⟩:=fc I.olen hi;obtain ⟨d,o,h1,h2,h3,h4⟩:=I.owns i a ha;have e0:JF (UK X.K "list" A0 (Ab i) (y3 (tD W O ε) G5)) D Z H=yk Z[i]? H (fun x H1=>TU X.K "list" x H1/\y3 (tD W O ε) G5 Z H1 fun vs H2=>A0 x vs H2 (fun _ H3=>D.nx Z H3)):=rfl;rw [e0,h2];unfold df at h;rw [h1] at h;cases d with
  | lst ds =>
   obtain ⟨xs,rfl,q⟩:=h4;refine ⟨.inl ⟨rfl,xs,iA.of h3⟩,as0,B,own,U,I,i9 I h fun y v H2 s2 d2 hq=>?_⟩;split at hq
   .rename_i hl;refine ⟨a,xs,v,rfl,rfl,s2 _ _ h3,?_,?_⟩
    .have:=fI;rw [<- q.len];omega
    .exact hq own Z _ ((I.mono s2).mutate ha ⟨xs++[v],rfl,(q.mono (bh s2)).append (aN.cons d2 aN.nil)⟩)
   .exact hq.elim
  | _=>exact h.elim
end
end L2
namespace L2
open PySem PySem.Builtin
section
variable {prog:VH} {w:VZ} {A:VV} {E:abx} {s:iF}
def uC {it l:Do} {i:Nat} {items} {x:gs} {Q:abx} (J:s.heap.IsTupleIter it l i)
  (hl:s.heap.IsTuple l items) (hx:items[i]?=some x)
  (hQ:∀ h',h'.IsTupleIter it l (i+1)->Wv it s.heap h'->Q x { s with heap:=h' }) :
  Le (VL prog w) A (Wg (.ref it)) Q E s:=by
 obtain ⟨o,L,hc,hd⟩:=id J;obtain ⟨ol,Y,_,nl,hdl⟩:=hl;unfold Wg;refine bY (WV (name:=V7 "__next__") J.typeIs F.slot_tuple_iterator_next
  (WE F.slot_tuple_iterator_next J.typeIs F.entry_tuple_iterator_next ?_ (F.args_tuple_iterator_next_1 _)))
 show Le _ _ (field (.ref it) 0 >>= _) _ _ s;refine bY (WU L hd (x:=.ref l) rfl ?_);show Le _ _ (if (We l==Wh)=true then _ else _) _ _ s;rw [abo (show ¬ ((We l==Wh)=true) from lT)];show Le _ _ (field (.ref it) 1 >>= _) _ _ s;refine bY (WU L hd (x:=.int i 0) rfl ?_);show Le _ _ (seqItems? (.ref l) >>= _) _ _ s;refine bY (wpAny_seqItems Y hdl ?_);simp only [V1,hx];refine bY (wpAny_setField L hd (by simp) (rW ⟨x,rfl,rW (hQ _ ?_ (X6 ..))⟩));exact ⟨_,Heap.get?_update_self _ L (Obj.isFreed_of_fields (aax hd _)),(Obj.cls_mapFields ..).trans hc,by
  rw [aax hd];simp [aaU]⟩
def u6 {it l:Do} {i:Nat} {items} {Q:abx} (hh:A.handled=none)
  (J:s.heap.IsTupleIter it l i) (hl:s.heap.IsTuple l items) (hx:items[i]?=none)
  (hE:∀ h' e,aa7 it s.heap h'->(∃ o,h'.get? e=some o/\o.cls=.type "StopIteration")->E (.ref e) { s with heap:=h' }) :
  Le (VL prog w) A (Wg (.ref it)) Q E s:=by
 obtain ⟨o,ho,hc,hd⟩:=id J;obtain ⟨ol,L,_,nl,Y⟩:=hl;unfold Wg;refine bY (WV (name:=V7 "__next__") J.typeIs F.slot_tuple_iterator_next
  (WE F.slot_tuple_iterator_next J.typeIs F.entry_tuple_iterator_next ?_ (F.args_tuple_iterator_next_1 _)))
 show Le _ _ (field (.ref it) 0 >>= _) _ _ s;refine bY (WU ho hd (x:=.ref l) rfl ?_);show Le _ _ (if (We l==Wh)=true then _ else _) _ _ s;rw [abo (show ¬ ((We l==Wh)=true) from lT)];show Le _ _ (field (.ref it) 1 >>= _) _ _ s;refine bY (WU ho hd (x:=.int i 0) rfl ?_);show Le _ _ (seqItems? (.ref l) >>= _) _ _ s;refine bY (wpAny_seqItems L Y ?_);simp only [V1,hx];refine bY (Yx (bY (wpAny_setField ho hd (by simp) ?_)));show Le _ _ (newExc (.type "StopIteration") [] >>= _) _ _ _;refine bY ?_;simp only [newExc,newTuple];refine bY (W4 ?_ (by size_fits));refine bY (m:=firstArgMember _ _) (wpAny_of_eq (a:=Wh) (by first|rfl|(simp only [firstArgMember];rfl)) ?_);refine W4 ?_ (by size_fits);simp only [raiseNew];refine bY (wpAny_handled ?_)
 first|rw [show A.in1.handled=none from hh]|rw [hh]
 refine bY (rW (wpAny_throw ?_));exact hE _ _ (((X6 ..).extBut.push _).push _) ⟨_,CT _ rfl,rfl⟩
end
def B1 {prog:VH} {w:VZ} {A:VV} (hh:A.handled=none) (it l:Do) (Y:l≠it) (items:Array gs) :
  Draws prog w A it [it,l] items.size (fun i v=>items[i]?=some v) (fun i h=>h.IsTupleIter it l i/\h.IsTuple l items) where
 live:=fun _ _ st=>let ⟨o,ho,_⟩:=st.1;⟨o,ho⟩
 frame:=fun _ _ _ st hk=>⟨(let ⟨o,e,r⟩:=st.1;⟨o,hk it (by simp) o e,r⟩),by
  obtain ⟨o,e,r⟩:=st.2;exact ⟨o,hk l (by simp) o e,r⟩⟩
 item:=fun i s Q E hi st hQ=>by
  refine uC st.1 st.2 (x:=items[i]) (by simp [hi]) fun h' L J=>?_;refine hQ _ h' s.toks (by simp [hi]) ⟨L,?_⟩ J;obtain ⟨o,e,r⟩:=st.2;exact ⟨o,J.extBut l o Y e,r⟩
 done:=fun s Q E st hE=>u6 hh st.1 st.2 (by simp) hE
structure ZA (z TI TO i1 i2:Do) (fp1 fp2:abz):Prop where
 TIz:TI≠z
 TOz:TO≠z
 TITO:TI≠TO
 TIi1:TI≠i1
 TIi2:TI≠i2
 TOi1:TO≠i1
 TOi2:TO≠i2
 i1z:i1≠z
 i2z:i2≠z
 i12:i1≠i2
 z1:z∉fp1
 z2:z∉fp2
 TO1:TO∉fp1
 TO2:TO∉fp2
 i1f:i1∉fp2
 i2f:i2∉fp1
section
variable {prog:VH} {w:VZ} {A:VV} {E:abx} {s:iF} {z TI TO i1 i2:Do} {fp1 fp2:abz} {n1 n2 k:Nat} {P1 P2:Nat->gs->Prop} {St1 St2:Nat->Xj->Prop}
def cM {St:Nat->Xj->Prop} {fp:abz} {n:Nat} {P:Nat->gs->Prop} {it c:Do} {k:Nat} {h h':Xj} (D:Draws prog w A it fp n P St) (st:St k h) (J:Wv c h h') (L:c∉fp):St k h' :=
 D.frame _ _ _ st fun b Y o e=>J.extBut b o (fun q=>L (q ▸ Y)) e
def GP {a b:gs} {Q:abx} (D1:Draws prog w A i1 fp1 n1 P1 St1) (D2:Draws prog w A i2 fp2 n2 P2 St2) (D:ZA z TI TO i1 i2 fp1 fp2)
  (hz:IsZip s.heap z TI TO .none) (hTI:IsPair s.heap TI (.ref i1) (.ref i2)) (hTO:IsPair s.heap TO a b) (h1:St1 k s.heap) (h2:St2 k s.heap) (l1:k < n1) (l2:k < n2)
  (hQ:∀ x y h' tk,P1 k x->P2 k y->IsZip h' z TI TO (aaU s.heap.objs.size)->IsPair h' TO x y->St1 (k+1) h'->St2 (k+1) h'->IsPair h' s.heap.objs.size x y->h'.objs.size=s.heap.objs.size+1 ->
   (∀ c o,c≠z->c≠TO->c≠i1->c≠i2->s.heap.get? c=some o->h'.get? c=some o)->Q (.ref s.heap.objs.size) { s with heap:=h',toks:=tk }) :
  Le (VL prog w) A (Builtin.«zip.__next__» ⟨[.ref z],[]⟩) (fun fin s'=>∃ v,fin=.done (.ret v)/\Q v s') E s:=by
 obtain ⟨hp,g,d,tk0,os⟩:=s;show Le _ _ (field (.ref z) 2 >>= _) _ _ _;refine bY (WU hz rfl (x:=.bool false) rfl ?_);show Le _ _ (field (.ref z) 3 >>= _) _ _ _;refine bY (WU hz rfl (x:=.ref TI) rfl ?_);refine bY (wpAny_seqItems hTI rfl ?_);show Le _ _ (WH (.ref z) >>= _) _ _ _;refine bY ?_;unfold WH;refine bY (WU hz rfl (x:=.none) rfl (rW ?_));simp only [if_true];refine bY (Yx ?_);refine bY (WU hz rfl (x:=.ref TO) rfl ?_);refine bY (wpAny_setField_rec hz (by simp) fun h₁ hz₁ hs₁=>?_)
 replace hz₁:IsZip h₁ z TI TO .ellipsis:=hz₁
 replace hs₁:Wv z hp h₁:=hs₁
 refine bY ?_;simp only [List.zipIdx_cons,List.zipIdx_nil,YO,List.forIn_nil];refine bY (bY (wpAny_onRaise ?_));show Le _ _ (Wg (.ref i1) >>= _) _ _ _;refine bY (D1.item k ⟨h₁,g,d,tk0,os⟩ _ _ l1 (cM D1 h1 hs₁ D.z1) fun x h₂ tk2 px h1₂ hs₂=>rW ?_)
 replace hs₂:Wv i1 h₁ h₂:=hs₂
 have hTO₂:IsPair h₂ TO a b:=hs₂.extBut _ _ D.TOi1 (hs₁.extBut _ _ D.TOz hTO);show Le _ _ _ _ _ ⟨h₂,g,d,tk2,os⟩;refine bY (wpAny_seqItems hTO₂ rfl ?_);refine bY (wpAny_updateSeq_pair hTO₂ fun h₃ hTO₃ Y=>?_)
 replace hTO₃:IsPair h₃ TO x b:=hTO₃
 replace Y:Wv TO h₂ h₃:=Y
 refine bY (wpAny_letGo (rW ?_));refine bY (bY (wpAny_onRaise ?_));show Le _ _ (Wg (.ref i2) >>= _) _ _ _;refine bY (D2.item k ⟨h₃,g,d,tk2,os⟩ _ _ l2 (cM D2 (cM D2 (cM D2 h2 hs₁ D.z2) hs₂ D.i1f) Y D.TO2) fun y h₄ tk4 py h2₄ J=>rW ?_)
 replace J:Wv i2 h₃ h₄:=J
 have hTO₄:IsPair h₄ TO x b:=J.extBut _ _ D.TOi2 hTO₃;show Le _ _ _ _ _ ⟨h₄,g,d,tk4,os⟩;refine bY (wpAny_seqItems hTO₄ rfl ?_);refine bY (wpAny_updateSeq_pair hTO₄ fun h₅ hTO₅ L=>?_)
 replace hTO₅:IsPair h₅ TO x y:=hTO₅
 replace L:Wv TO h₄ h₅:=L
 refine bY (wpAny_letGo (rW (rW ?_)));refine bY (wpAny_seqItems hTO₅ rfl ?_);refine bY (wpAny_newTuple ?_);have hsz:h₅.objs.size=hp.objs.size:=by rw [L.1,J.1,Y.1,hs₂.1,hs₁.1]
 have hz₅:IsZip h₅ z TI TO .ellipsis:=L.extBut _ _ D.TOz.symm (J.extBut _ _ D.i2z.symm (Y.extBut _ _ D.TOz.symm (hs₂.extBut _ _ D.i1z.symm hz₁)));have hk₅:∀ c o,c≠z->c≠TO->c≠i1->c≠i2->hp.get? c=some o->h₅.get? c=some o:=fun c o c1 c2 c3 c4 e =>
  L.extBut _ _ c2 (J.extBut _ _ c4 (Y.extBut _ _ c2 (hs₂.extBut _ _ c3 (hs₁.extBut _ _ c1 e))))
 have h1₅:St1 (k+1) h₅:=cM D1 (cM D1 (cM D1 h1₂ Y D.TO1) J D.i2f) L D.TO1;have h2₅:St2 (k+1) h₅:=cM D2 h2₄ L D.TO2;have hzlt:z < h₅.objs.size:=ID hz₅;show Le _ _ (X1 (.ref z) (.ref h₅.objs.size) >>= _) _ _ _;refine bY ?_;unfold X1;have hz₆:IsZip (h₅.push { cls:=.type "tuple",data:=.seq #[x,y] }) z TI TO .ellipsis:=dO _ hz₅;refine bY (wpAny_setField_rec hz₆ (by simp) fun h₇ hz₇ hs₇=>?_)
 replace hz₇:IsZip h₇ z TI TO (aaU h₅.objs.size):=hz₇
 replace hs₇:Wv z (h₅.push { cls:=.type "tuple",data:=.seq #[x,y] }) h₇:=hs₇
 refine wpAny_setField_rec hz₇ (by simp) fun h₈ hz₈ hs₈=>?_
 replace hz₈:IsZip h₈ z TI TO (aaU h₅.objs.size):=hz₈
 replace hs₈:Wv z h₇ h₈:=hs₈
 have up:∀ c o,c≠z->h₅.get? c=some o->h₈.get? c=some o:=fun c o c1 e=>hs₈.extBut _ _ c1 (hs₇.extBut _ _ c1 (dO _ e));have hT₈:IsPair h₈ h₅.objs.size x y:=hs₈.extBut _ _ (Y6 hzlt) (hs₇.extBut _ _ (Y6 hzlt) (CT _ rfl));have hz8:h₈.objs.size=h₅.objs.size+1:=by rw [hs₈.1,hs₇.1,Wy]
 rw [hsz] at hz₈ hT₈ hz8;refine rW ⟨_,rfl,?_⟩;show Q (.ref h₅.objs.size) ⟨h₈,g,d,tk4,os⟩;rw [hsz];exact hQ x y h₈ tk4 px py hz₈ (up _ _ D.TOz hTO₅) (D1.frame _ _ _ h1₅ fun b hb o e=>up b o (fun q=>D.z1 (q ▸ hb)) e) (D2.frame _ _ _ h2₅ fun b hb o e=>up b o (fun q=>D.z2 (q ▸ hb)) e) hT₈ hz8
  fun c o c1 c2 c3 c4 e=>up c o c1 (hk₅ c o c1 c2 c3 c4 e)
def Km {a b:gs} {Q:Fin->iF->Prop} (D1:Draws prog w A i1 fp1 n1 P1 St1) (D2:Draws prog w A i2 fp2 n2 P2 St2) (D:ZA z TI TO i1 i2 fp1 fp2)
  (hz:IsZip s.heap z TI TO .none) (hTI:IsPair s.heap TI (.ref i1) (.ref i2)) (hTO:IsPair s.heap TO a b) (h1:St1 k s.heap) (h2:St2 k s.heap) (hend:k=n1\/(k < n1/\k=n2))
  (hE:∀ h' tk e,(∀ c o,c≠z->c≠TO->c≠i1->c≠i2->s.heap.get? c=some o->h'.get? c=some o)->(∃ o,h'.get? e=some o/\o.cls=.type "StopIteration")->E (.ref e) { s with heap:=h',toks:=tk }) :
  Le (VL prog w) A (Builtin.«zip.__next__» ⟨[.ref z],[]⟩) Q E s:=by
 obtain ⟨hp,g,d,tk0,os⟩:=s;show Le _ _ (field (.ref z) 2 >>= _) _ _ _;refine bY (WU hz rfl (x:=.bool false) rfl ?_);show Le _ _ (field (.ref z) 3 >>= _) _ _ _;refine bY (WU hz rfl (x:=.ref TI) rfl ?_);refine bY (wpAny_seqItems hTI rfl ?_);show Le _ _ (WH (.ref z) >>= _) _ _ _;refine bY ?_;unfold WH;refine bY (WU hz rfl (x:=.none) rfl (rW ?_));simp only [if_true];refine bY (Yx ?_);refine bY (WU hz rfl (x:=.ref TO) rfl ?_);refine bY (wpAny_setField_rec hz (by simp) fun h₁ hz₁ Y=>?_)
 replace hz₁:IsZip h₁ z TI TO .ellipsis:=hz₁
 replace Y:Wv z hp h₁:=Y
 refine bY ?_;simp only [List.zipIdx_cons,List.zipIdx_nil,YO,List.forIn_nil];refine bY (bY (wpAny_onRaise ?_));show Le _ _ (Wg (.ref i1) >>= _) _ _ _;rcases hend with rfl|⟨l1,rfl⟩
 .refine bY (D1.done ⟨h₁,g,d,tk0,os⟩ _ _ (cM D1 h1 Y D.z1) fun h₂ e J he=>?_)
  replace J:aa7 i1 h₁ h₂:=J
  obtain ⟨oe,hoe,hce⟩:=he;have hz₂:IsZip h₂ z TI TO .ellipsis:=J _ _ D.i1z.symm hz₁;have hez:e≠z:=fun x=>by subst x;rw [hz₂] at hoe;cases hoe;simp at hce
  refine wpAny_setField_rec hz₂ (by simp) fun h₃ _ L=>hE h₃ tk0 e (fun c o c1 _ c3 _ x=>L.extBut _ _ c1 (J _ _ c3 (Y.extBut _ _ c1 x))) ⟨oe,L.extBut _ _ hez hoe,hce⟩
 .refine bY (D1.item k ⟨h₁,g,d,tk0,os⟩ _ _ l1 (cM D1 h1 Y D.z1) fun x h₂ tk2 px h1₂ J=>rW ?_)
  replace J:Wv i1 h₁ h₂:=J
  have hTO₂:IsPair h₂ TO a b:=J.extBut _ _ D.TOi1 (Y.extBut _ _ D.TOz hTO);show Le _ _ _ _ _ ⟨h₂,g,d,tk2,os⟩;refine bY (wpAny_seqItems hTO₂ rfl ?_);refine bY (wpAny_updateSeq_pair hTO₂ fun h₃ hTO₃ L=>?_)
  replace L:Wv TO h₂ h₃:=L
  refine bY (wpAny_letGo (rW ?_));refine bY (bY (wpAny_onRaise ?_));show Le _ _ (Wg (.ref i2) >>= _) _ _ _;refine bY (D2.done ⟨h₃,g,d,tk2,os⟩ _ _ (cM D2 (cM D2 (cM D2 h2 Y D.z2) J D.i1f) L D.TO2) fun h₄ e hs₄ he=>?_)
  replace hs₄:aa7 i2 h₃ h₄:=hs₄
  obtain ⟨oe,hoe,hce⟩:=he;have hz₄:IsZip h₄ z TI TO .ellipsis:=hs₄ _ _ D.i2z.symm (L.extBut _ _ D.TOz.symm (J.extBut _ _ D.i1z.symm hz₁));have hez:e≠z:=fun x=>by subst x;rw [hz₄] at hoe;cases hoe;simp at hce
  refine wpAny_setField_rec hz₄ (by simp) fun h₅ _ hs₅=>hE h₅ tk2 e (fun c o c1 c2 c3 c4 x=>hs₅.extBut _ _ c1 (hs₄ _ _ c4 (L.extBut _ _ c2 (J.extBut _ _ c3 (Y.extBut _ _ c1 x))))) ⟨oe,hs₅.extBut _ _ hez hoe,hce⟩
end
def WalksT.zipD {prog:VH} {w:VZ} {A:VV} {z TI TO i1 i2:Do} {fp1 fp2:abz} {n1 n2:Nat} {P1 P2:Nat->gs->Prop} {St1 St2:Nat->Xj->Prop}
  (D1:Draws prog w A.in1 i1 fp1 n1 P1 St1) (D2:Draws prog w A.in1 i2 fp2 n2 P2 St2) (D:ZA z TI TO i1 i2 fp1 fp2) (m1:i1∈fp1) (m2:i2∈fp2) :
  WalksT prog w A z (z::TI::TO::(fp1++fp2)) [z,TO,i1,i2] (min n1 n2)
   (fun i vals=>∃ x y,P1 i x/\P2 i y/\vals=#[x,y])
   (fun i h=>IsZip h z TI TO .none/\IsPair h TI (.ref i1) (.ref i2)/\(∃ a b,IsPair h TO a b)/\St1 i h/\St2 i h)
   (fun i T h=>IsZip h z TI TO (aaU T)/\IsPair h TI (.ref i1) (.ref i2)/\(∃ a b,IsPair h TO a b)/\St1 (i+1) h/\St2 (i+1) h/\T≠z/\T≠TO/\T≠i1/\T≠i2) where
 sub:=fun c Y=>by simp at Y ⊢;rcases Y with rfl|rfl|rfl|rfl <;> simp [m1,m2]
 frame:=fun i h h' hst hk=>by
  obtain ⟨hz,L,⟨a,b,J⟩,h1,h2⟩:=hst;exact ⟨hk z (by simp) _ hz,hk TI (by simp) _ L,⟨a,b,hk TO (by simp) _ J⟩,D1.frame _ _ _ h1 fun b hb o e=>hk b (by simp [hb]) o e,D2.frame _ _ _ h2 fun b hb o e=>hk b (by simp [hb]) o e⟩
 item:=fun i s Q E hi hst hQ=>by
  obtain ⟨hz,L,⟨a,b,J⟩,h1,h2⟩:=hst;have hix:i < n1:=VE hi (Nat.min_le_left ..);have hiy:i < n2:=VE hi (Nat.min_le_right ..);have hT:s.TypeIs (.ref z) "zip":=⟨_,hz,rfl⟩;unfold pyNext;refine bY (Yk (WV (name:=V7 "__next__") hT F.slot_zip_next
   (WE F.slot_zip_next hT F.entry_zip_next (GP D1 D2 D hz L J h1 h2 hix hiy fun x y h' tk px py a1 a2 a3 a4 a5 a6 hk=>rW ?_) (F.args_zip_next_1 _))))
  have lt:∀ {c o},s.heap.get? c=some o->s.heap.objs.size≠c:=fun e=>Y6 (ID e);exact hQ s.heap.objs.size #[x,y] h' tk ⟨_,_,px,py,rfl⟩ (oR _) ⟨_,a5,rfl,_,rfl⟩
   ⟨a1,hk _ _ D.TIz D.TITO D.TIi1 D.TIi2 L,⟨_,_,a2⟩,a3,a4,lt hz,lt J,(by obtain ⟨_,e⟩:=D1.live _ _ h1;exact lt e),(by obtain ⟨_,e⟩:=D2.live _ _ h2;exact lt e)⟩
   fun c o Y e=>hk c o (fun x=>Y (by simp [x])) (fun x=>Y (by simp [x])) (fun x=>Y (by simp [x])) (fun x=>Y (by simp [x])) e
 go:=fun elts k pos i T s Q E hm hQ=>by
  obtain ⟨hz,L,⟨a,b,J⟩,h1,h2,_⟩:=hm;refine wpAny_letOwnedTupleGo_zip hz fun h' hz' hs'=>hQ h' ⟨hz',hs'.extBut _ _ D.TIz L,⟨a,b,hs'.extBut _ _ D.TOz J⟩,cM D1 h1 hs' D.z1,cM D2 h2 hs' D.z2⟩ fun c o Y e=>hs'.extBut _ _ (fun x=>Y (by simp [x])) e
 apart:=fun i T h hm hT=>by
  obtain ⟨_,_,_,_,_,t1,t2,t3,t4⟩:=hm;simp at hT;rcases hT with rfl|rfl|rfl|rfl
  .exact t1 rfl
  .exact t2 rfl
  .exact t3 rfl
  .exact t4 rfl
 done:=fun s Q E hst hQ=>by
  obtain ⟨hz,L,⟨a,b,J⟩,h1,h2⟩:=hst;have hend:min n1 n2=n1\/(min n1 n2 < n1/\min n1 n2=n2):=by omega
  have hT:s.TypeIs (.ref z) "zip":=⟨_,hz,rfl⟩;unfold pyNext;refine bY (Yk (WV (name:=V7 "__next__") hT F.slot_zip_next
   (WE F.slot_zip_next hT F.entry_zip_next (Km D1 D2 D hz L J h1 h2 hend fun h' tk e hk he=>?_) (F.args_zip_next_1 _))))
  obtain ⟨o,ho,Y⟩:=he;refine bY (wpAny_isInstance (T:="StopIteration") (b:=true) ⟨o,ho,Y⟩ isSubtype_stop ?_);exact rW (hQ h' tk fun c o Y e=>hk c o (fun x=>Y (by simp [x])) (fun x=>Y (by simp [x])) (fun x=>Y (by simp [x])) (fun x=>Y (by simp [x])) e)
 self:=fun i s Q E hst hQ=>wpAny_pyIter_zip hst.1 hQ
def xI (a:gs) (o:Obj) (h:Xj):Prop:=∀ (prog:VH) (w:VZ) (A:VV) (s:iF) (Q:abx) (E:abx),(∀ b u,h.get? b=some u->s.heap.get? b=some u)->Q (.ref s.heap.objs.size) { s with heap:=s.heap.push o }->Le (VL prog w) A (aaB a) Q E s
abbrev TF (h:Xj) (J L:Obj):Xj:=((h.push J).push L).push { cls:=.type "tuple",data:=.seq #[.ref h.objs.size,.ref (h.push J).objs.size] }
abbrev TM (h:Xj) (L J:Obj):Xj:=(TF h L J).push { cls:=.type "tuple",data:=.seq #[.none,.none] }
abbrev OI (h:Xj) (L J:Obj):Xj:=(TM h L J).push { cls:=.type "zip",data:=.fields #[.none,.bool false,.bool false,.ref ((h.push L).push J).objs.size,.ref (TF h L J).objs.size] }
def Dk (a b:gs) (L Y:Obj) :
  Meets (Builtin.«zip.__new__» ⟨[.type "zip",a,b],[]⟩) (fun _ R s=>xI a L s.heap/\xI b Y s.heap/\R (.ok (.ret (.ref (TM s.heap L Y).objs.size))) { s with heap:=OI s.heap L Y }) :=
 .of_wp fun prog w A R s h=>by
  obtain ⟨J,g,d,tk,os⟩:=s;obtain ⟨hl1,hl2,h⟩:=h;have hsub:=sub_zip;have p1:∀ {A:VV} {Q:abx} {E:abx},Q (.ref J.objs.size) ⟨J.push L,g,d,tk,os⟩->Le (VL prog w) A (aaB a) Q E ⟨J,g,d,tk,os⟩:=fun {A Q E} q=>hl1 prog w A ⟨J,g,d,tk,os⟩ Q E (fun _ _ e=>e) q;have p2:∀ {A:VV} {Q:abx} {E:abx},Q (.ref (J.push L).objs.size) ⟨(J.push L).push Y,g,d,tk,os⟩->Le (VL prog w) A (aaB b) Q E ⟨J.push L,g,d,tk,os⟩:=fun {A Q E} q=>hl2 prog w A ⟨J.push L,g,d,tk,os⟩ Q E (fun _ _ e=>dO _ e) q
  wp_walk using p1,p2
  exact ⟨_,rfl,h⟩
section
variable {prog:VH} {w:VZ} {A:VV} {E:abx} {s:iF}
def Ho {a b:gs} {o1 o2:Obj} {Q:abx} (i1:xI a o1 s.heap) (i2:xI b o2 s.heap) (f1:o1.isFreed=false) (f2:o2.isFreed=false)
  (h:∀ h',IsZip h' (s.heap.objs.size+4) (s.heap.objs.size+2) (s.heap.objs.size+3) .none->IsPair h' (s.heap.objs.size+2) (.ref s.heap.objs.size) (.ref (s.heap.objs.size+1)) ->
   IsPair h' (s.heap.objs.size+3) .none .none->h'.get? s.heap.objs.size=some o1->h'.get? (s.heap.objs.size+1)=some o2->h'.objs.size=s.heap.objs.size+5 ->
   (∀ c o,s.heap.get? c=some o->h'.get? c=some o)->Q (.ref (s.heap.objs.size+4)) { s with heap:=h' }) :
  Le (VL prog w) A (call (.type "zip") [a,b]) Q E s:=by
 refine callType_new F.called_zip (by decide) (F.typeCall_zip_2 _ _) (F.newCall_zip_2 _ _) (fun Y=>F.args_object_init_3 Y _ _) F.entry_zip_new
  (Dk a b o1 o2) ⟨i1,i2,?_⟩
 have z1:(s.heap.push o1).objs.size=s.heap.objs.size+1:=Wy ..;have z2:((s.heap.push o1).push o2).objs.size=s.heap.objs.size+2:=by rw [Wy,z1]
 have J:(TF s.heap o1 o2).objs.size=s.heap.objs.size+3:=by rw [Wy,z2]
 have z4:(TM s.heap o1 o2).objs.size=s.heap.objs.size+4:=by rw [Wy,J]
 have z5:(OI s.heap o1 o2).objs.size=s.heap.objs.size+5:=by rw [Wy,z4]
 have L:(OI s.heap o1 o2).get? (TM s.heap o1 o2).objs.size=some _:=CT _ rfl;have g4:(OI s.heap o1 o2).get? (TF s.heap o1 o2).objs.size=some _:=dO _ (CT _ rfl);have g3:(OI s.heap o1 o2).get? ((s.heap.push o1).push o2).objs.size=some _:=dO _ (dO _ (CT _ rfl));have g2:(OI s.heap o1 o2).get? (s.heap.push o1).objs.size=some o2:=dO _ (dO _ (dO _ (CT _ f2)));have g1:(OI s.heap o1 o2).get? s.heap.objs.size=some o1:=dO _ (dO _ (dO _ (dO _ (CT _ f1))));show _/\_;rw [z2,J,z4] at L;rw [z1,z2] at g3;rw [J] at g4;rw [z1] at g2;rw [z4];exact ⟨⟨_,L,rfl⟩,h _ L g3 g4 g1 g2 z5 fun c o x =>
  dO _ (dO _ (dO _ (dO _ (dO _ x))))⟩
end
def BC (a:gs) (L:Obj) :
  Meets (Builtin.«enumerate.__new__» ⟨[.type "enumerate",a],[]⟩) (fun _ R s=>xI a L s.heap /\
   R (.ok (.ret (.ref (s.heap.push L).objs.size))) { s with heap:=(s.heap.push L).push { cls:=.type "enumerate",data:=.fields #[.none,.bool false,.ref s.heap.objs.size,aaU 0,.none,.none] } }) :=
 .of_wp fun prog w A R s h=>by
  obtain ⟨J,g,d,tk,os⟩:=s;obtain ⟨Y,h⟩:=h;have hsub:=sub_enumerate;have p1:∀ {A:VV} {Q:abx} {E:abx},Q (.ref J.objs.size) ⟨J.push L,g,d,tk,os⟩->Le (VL prog w) A (aaB a) Q E ⟨J,g,d,tk,os⟩:=fun {A Q E} q=>Y prog w A ⟨J,g,d,tk,os⟩ Q E (fun _ _ e=>e) q
  wp_walk
  refine wpAny_stack_any fun st=>rW ?_;split
  .rename_i c _ _ _ _ _;cases (c==YK "enumerate")
   .wp_walk using p1
    exact ⟨_,rfl,h⟩
   .wp_walk using p1
    exact ⟨_,rfl,h⟩
  .wp_walk using p1
   exact ⟨_,rfl,h⟩
section
variable {prog:VH} {w:VZ} {A:VV} {E:abx} {s:iF}
def DC {a:gs} {J:Obj} {Q:abx} (i1:xI a J s.heap) (f1:J.isFreed=false)
  (h:∀ h',IsEnum h' (s.heap.objs.size+1) s.heap.objs.size 0 .none->h'.get? s.heap.objs.size=some J->h'.objs.size=s.heap.objs.size+2 ->
   (∀ b o,s.heap.get? b=some o->h'.get? b=some o)->Q (.ref (s.heap.objs.size+1)) { s with heap:=h' }) :
  Le (VL prog w) A (call (.type "enumerate") [a]) Q E s:=by
 refine callType_new F.called_enumerate (by decide) (F.typeCall_enumerate_1 _) (F.newCall_enumerate_1 _) (fun L=>F.args_object_init_2 L _) F.entry_enumerate_new
  (BC a J) ⟨i1,?_⟩
 have hz:(s.heap.push J).objs.size=s.heap.objs.size+1:=Wy ..;show _/\_;rw [hz];have Y:IsEnum ((s.heap.push J).push
   { cls:=.type "enumerate",data:=.fields #[.none,.bool false,.ref s.heap.objs.size,aaU 0,.none,.none] }) (s.heap.objs.size+1) s.heap.objs.size 0 .none:=by
  have:=CT (s.heap.push J)
   (o:={ cls:=.type "enumerate",data:=.fields #[.none,.bool false,.ref s.heap.objs.size,aaU 0,.none,.none] }) rfl
  rw [hz] at this;exact this
 refine ⟨⟨_,Y,rfl⟩,h _ Y (dO _ (CT _ f1)) (by rw [Wy,hz]) fun b o x=>dO _ (dO _ x)⟩
end
end L2
namespace L2
open PySem PySem.Spec PyProof.Rows
def bB {ix:List (Option Nat)} {O:abu} (h:(ix.all fun o=>match o with|some k=>decide (k∉O)|none=>true)=true):∀ j∈ix,∀ k,j=some k->k∉O:=fun j J k e=>by
 have:=WD.mp h j J
 subst e;exact abr this
def Fc {X:Cx} {af:abw} {Z:St} {H:Hp} {s:iF} {a:Do} (I:Inv X af Z H s) (h:H a≠none\/∃ o,X.K.lookup a=some o):¬ iI X af H a:=fun f=>by
 rcases h with h|⟨o,h⟩
 .exact h f.1
 .have e:=I.ok.mod.kin a o h;rcases f.2.2.2.1 with z|z
  .exact I.ok.noex a o e z
  .exact absurd (VE (ID e) (RW I.ok.bsz z)) (XD _)
def EZ {H:Hp} {a:Do} {u:HO} (h:Rd H a u):H a≠none:=by
 rcases h with h|⟨o,h⟩ <;> rw [h] <;> simp
def Fb {K:aT} {H:Hp} {a:Do} {xs:abB} (h:iA K H a xs):H a≠none\/∃ o,K.lookup a=some o:=by
 rcases h with h|⟨o,_,_,h,_⟩
 .exact .inl (EZ h)
 .exact .inr ⟨o,h⟩
def Fs {K:aT} {H:Hp} {a:Do} {xs:abB} (h:mf K H a xs):H a≠none\/∃ o,K.lookup a=some o:=by
 rcases h with h|⟨o,_,_,h,_⟩
 .exact .inl (EZ h)
 .exact .inr ⟨o,h⟩
structure Src (K:aT) (B:Hp) (xs:abB) (it:Do) (S:Nat->Xj->Prop):Prop where
 obj:∀ i h,S i h->∃ o,h.get? it=some o/\∀ v,o.data≠.cell v
 keep:∀ i h h',S i h->(∀ o,h.get? it=some o->h'.get? it=some o)->S i h'
 draw:∀ (X:Cx) (af:abw) (s:iF) (Z:St) (H:Hp),Inv X af Z H s->X.K=K->aH B H->iI X af H it->∀ A:VV,A.handled=none->∀ i,S i s.heap ->
  ∃ fp Pv St,Draws X.prog X.w A it fp xs.length Pv St/\St i s.heap/\it∈fp/\(∀ b∈fp,b=it\/¬ iI X af H b)/\(∀ j u,Pv j u->∃ x,xs[j]?=some x/\bq x u)/\∀ j h,St j h->S j h
def src_list {K:aT} {B:Hp} {xs:abB} {a it:Do} (L:iA K B a xs):Src K B xs it (fun i h=>h.IsListIter it a i) where
 obj:=fun i h ⟨o,e,c,d⟩=>⟨o,e,fun v z=>by rw [d] at z;cases z⟩
 keep:=fun i h h' ⟨o,e,r⟩ k=>⟨o,k o e,r⟩
 draw:=fun X af s Z H I hK J f A hA i st=>by
  subst hK;obtain ⟨its,Y,pl,hz⟩:=I.list (J.seq L);have hne:a≠it:=fun z=>Fc I (Fb (J.seq L)) (z ▸ f);have el:xs.length=its.toArray.size:=by rw [tx];exact Y.length
  refine ⟨_,_,_,el ▸ Draws.list hA it a hne its.toArray,⟨st,pl.isList⟩,by simp,fun b hb=>?_,fun j u hu=>?_,fun j h st=>st.1⟩
  .rcases nE.mp hb with e|hb
   .exact .inl e
   .rw [VM.mp hb];exact .inr (Fc I (Fb (J.seq L)))
  .have hu':its[j]?=some u:=by simpa using hu
   have hj:j < its.length:=(VX.mp hu').1;have hx:xs[j]?=some (xs[j]'(by rw [Y.length];exact hj)):=by rw [BY]
   obtain ⟨u',h1,h2⟩:=Y.get hx;rw [hu'] at h1;cases h1;exact ⟨_,hx,h2⟩
def src_tuple {K:aT} {B:Hp} {xs:abB} {a it:Do} (L:mf K B a xs):Src K B xs it (fun i h=>h.IsTupleIter it a i) where
 obj:=fun i h ⟨o,e,c,d⟩=>⟨o,e,fun v z=>by rw [d] at z;cases z⟩
 keep:=fun i h h' ⟨o,e,r⟩ k=>⟨o,k o e,r⟩
 draw:=fun X af s Z H I hK J f A hA i st=>by
  subst hK;obtain ⟨its,Y,pl,hz⟩:=I.tuple (J.seqT L);have hne:a≠it:=fun z=>Fc I (Fs (J.seqT L)) (z ▸ f);have el:xs.length=its.toArray.size:=by rw [tx];exact Y.length
  refine ⟨_,_,_,el ▸ B1 hA it a hne its.toArray,⟨st,pl⟩,by simp,fun b hb=>?_,fun j u hu=>?_,fun j h st=>st.1⟩
  .rcases nE.mp hb with e|hb
   .exact .inl e
   .rw [VM.mp hb];exact .inr (Fc I (Fs (J.seqT L)))
  .have hu':its[j]?=some u:=by simpa using hu
   have hj:j < its.length:=(VX.mp hu').1;have hx:xs[j]?=some (xs[j]'(by rw [Y.length];exact hj)):=by rw [BY]
   obtain ⟨u',h1,h2⟩:=Y.get hx;rw [hu'] at h1;cases h1;exact ⟨_,hx,h2⟩
def signs_get {z:Str} {j:Nat} {u:gs} (h:∃ c t,z.cps[j]?=some c/\u=.str ⟨#[c]⟩ t):∃ x,(sX z)[j]?=some x/\bq x u:=by
 obtain ⟨c,t,h1,rfl⟩:=h;refine ⟨.str ⟨#[c]⟩,?_,⟨t,rfl⟩⟩;rw [V0,XM,h1];rfl
def GK {K:aT} {B:Hp} {z:Str} {t:Tok} {it:Do}:Src K B (sX z) it (fun i h=>h.IsStrIter it "str_ascii_iterator" z t i) where
 obj:=fun i h ⟨o,e,c,d⟩=>⟨o,e,fun v z=>by rw [d] at z;cases z⟩
 keep:=fun i h h' ⟨o,e,r⟩ k=>⟨o,k o e,r⟩
 draw:=fun X af s Z H I hK sB f A Y i st=>by
  have L:(sX z).length=z.cps.size:=by simp
  exact ⟨_,_,_,L ▸ Draws.strAscii Y it z t,st,by simp,fun b J=>.inl (by simpa using J),fun j u hu=>signs_get hu,fun j h st=>st⟩
def IH {K:aT} {B:Hp} {z:Str} {t:Tok} {it:Do}:Src K B (sX z) it (fun i h=>h.IsStrIter it "str_iterator" z t i) where
 obj:=fun i h ⟨o,e,c,d⟩=>⟨o,e,fun v z=>by rw [d] at z;cases z⟩
 keep:=fun i h h' ⟨o,e,r⟩ k=>⟨o,k o e,r⟩
 draw:=fun X af s Z H I hK sB f A Y i st=>by
  have L:(sX z).length=z.cps.size:=by simp
  exact ⟨_,_,_,L ▸ Draws.strWide Y it z t,st,by simp,fun b J=>.inl (by simpa using J),fun j u hu=>signs_get hu,fun j h st=>st⟩
def Sx (K:aT) (H:Hp) (x:V) (xs:abB):Prop:=(∃ z,x=.str z/\xs=sX z)\/(∃ a,x=.ref a/\iA K H a xs)\/∃ a,x=.ref a/\mf K H a xs
def DT {X:Cx} {af:abw} {Z:St} {H B:Hp} {s:iF} {x:V} {u:gs} {xs:abB} (I:Inv X af Z H s) (r:bq x u) (Y:aH B H) (h:Sx X.K B x xs) :
  ∃ (o:Obj) (S:Do->Nat->Xj->Prop),xI u o s.heap/\o.isFreed=false/\(∀ it h,h.get? it=some o->S it 0 h)/\∀ it,Src X.K B xs it (S it):=by
 rcases h with ⟨z,rfl,rfl⟩|⟨a,rfl,J⟩|⟨a,rfl,J⟩
 .obtain ⟨t,rfl⟩:=r;cases ha:z.cps.all (· < 128)
  .exact ⟨{ cls:=.type "str_iterator",data:=.fields #[.str z t,.int 0 0] },fun it i h=>h.IsStrIter it "str_iterator" z t i,fun prog w A s Q E _ q=>wpAny_pyIter_wide ha q,rfl,fun it h e=>⟨_,e,rfl,rfl⟩,fun it=>IH⟩
  .exact ⟨{ cls:=.type "str_ascii_iterator",data:=.fields #[.str z t,.int 0 0] },fun it i h=>h.IsStrIter it "str_ascii_iterator" z t i,fun prog w A s Q E _ q=>wpAny_pyIter_ascii ha q,rfl,fun it h e=>⟨_,e,rfl,rfl⟩,fun it=>GK⟩
 .cases r;obtain ⟨its,rv,L,hz⟩:=I.list (Y.seq J);exact ⟨{ cls:=.type "list_iterator",data:=.fields #[.ref a,.int 0 0] },fun it i h=>h.IsListIter it a i,fun prog w A s Q E k q=>wpAny_pyIter_list (L.keeps k).isList q,rfl,fun it h e=>⟨_,e,rfl,rfl⟩,fun it=>src_list J⟩
 .cases r;obtain ⟨its,rv,L,hz⟩:=I.tuple (Y.seqT J);refine ⟨{ cls:=.type "tuple_iterator",data:=.fields #[.ref a,.int 0 0] },fun it i h=>h.IsTupleIter it a i,fun prog w A s Q E k q=>?_,rfl,fun it h e=>⟨_,e,rfl,rfl⟩,fun it=>src_tuple J⟩;obtain ⟨o,e,r⟩:=L;exact wpAny_pyIter_tuple (items:=its.toArray) ⟨o,k _ _ e,r⟩ q
def Inv.turnedT {X:Cx} {af:abw} {Z:St} {H:Hp} {s:iF} {h':Xj} {t':Nat} {ch:abz} {T:Do} {ys:abB} {us:abA} (I:Inv X af Z H s) (hf:∀ b∈ch,iI X af H b) (k:∀ b o,b∉ch->s.heap.get? b=some o->h'.get? b=some o) (hT:s.heap.objs.size<=T)
  (hl:ys.length<=IF) (rv:bC ys us) (isT:YE h' T us.toArray) (ht:X.tn<=t':=by walk_at "tok"):Inv X af Z (upd H T (.tup ys)) { s with heap:=h',toks:=t' }:=by
 have hn:H T=none:=I.hok.fresh hT;have Y:∀ b u,H b=some u->b∉ch:=fun b u e z=>by rw [(hf b z).1] at e;cases e
 refine I.step (g':=s.gens) (d':=s.drawn) (ch:=ch) (fun b L=>⟨(hf b L).2.2.2.1,(hf b L).2.1,(hf b L).2.2.2.2.1,(hf b L).2.2.2.2.2⟩) (fun b o _ _ J e _=>k b o J e) (fun b o _ _ J e _=>⟨o.slots,k b o J e⟩) (fun b o _ e n=>?_)
  (fun b o J e=>⟨o,k b o J e⟩) (fun b xs e=>?_) (fun b o u e=>?_) (fun b ps e=>⟨#[],?_⟩) (fun m hm=>?_) (fun b u e=>?_) I.bare
 .rw [aU (VI (VE (ID e) hT))];exact n
 .rw [aU (bR e hn)];exact e
 .rw [aU (bR e hn)];exact e
 .rw [aU (bR e hn),e];simp
 .obtain ⟨o,es,ep,ho,r⟩:=hm;exact ⟨o,es,ep,k _ o (fun z=>(hf _ z).2.1 rfl) ho,r⟩
 .by_cases L:b=T
  .subst L;rw [a9] at e;cases e;exact ⟨hl,us,rv,isT⟩
  .rw [aU L] at e;refine (I.hok b u e).stay (fun c v J q=>k c v ?_ q) (fun c q=>by rw [aU (bR q hn)];exact q) fun c xs q=>by rw [aU (bR q hn)];exact q
   rcases J with z|z
   .rw [z];exact Y b u e
   .exact Y c _ z
def JK (B:Hp) (n:Nat) (Pv:Nat->V->V->Prop):It :=
 ⟨fun i H=>aH B H/\i < n,fun i H v H'=>∃ p x y,H p=none/\H'=upd H p (.tup [x,y])/\v=.ref p/\Pv i x y,fun i H=>aH B H/\i=n⟩
def Ir {P:VH} {w:VZ} {K:aT} {B:Hp} {xs ys:abB} {z TI TO i1 i2:Do} {S1 S2:Nat->Xj->Prop} {elts:List Wk} {k:Nat} {pos:Pos} (s1:Src K B xs i1 S1) (s2:Src K B ys i2 S2) (nd:[z,TI,TO,i1,i2].Nodup) :
    Turn P w K (.Tuple elts k pos) (JK B (min xs.length ys.length) fun i x y=>xs[i]?=some x/\ys[i]?=some y) [z,TI,TO,i1,i2] z
      (fun i h=>IsZip h z TI TO .none/\IsPair h TI (.ref i1) (.ref i2)/\(∃ a b,IsPair h TO a b)/\S1 i h/\S2 i h):=by
  simp only [Wm,nE,VQ,or_false,not_or,WQ,and_true,not_false_eq_true] at nd;obtain ⟨⟨zTI,zTO,zi1,zi2⟩,⟨TITO,TIi1,TIi2⟩,⟨TOi1,TOi2⟩,i12⟩:=nd;have za:∀ {X:Cx} {af:abw} {H:Hp} {fp1 fp2:abz},(∀ b∈[z,TI,TO,i1,i2],iI X af H b)->(∀ b∈fp1,b=i1\/¬ iI X af H b)->(∀ b∈fp2,b=i2\/¬ iI X af H b)->ZA z TI TO i1 i2 fp1 fp2:=fun {X af H fp1 fp2} hf h1 h2 =>
    { TIz:=X5 zTI,TOz:=X5 zTO,TITO:=TITO,TIi1:=TIi1,TIi2:=TIi2,TOi1:=TOi1,TOi2:=TOi2,i1z:=X5 zi1,i2z:=X5 zi2,i12:=i12,
      z1:=fun m=>(h1 z m).elim zi1 fun q=>q (hf z (by simp)),z2:=fun m=>(h2 z m).elim zi2 fun q=>q (hf z (by simp)),TO1:=fun m=>(h1 TO m).elim TOi1 fun q=>q (hf TO (by simp)),TO2:=fun m=>(h2 TO m).elim TOi2 fun q=>q (hf TO (by simp)),
      i1f:=fun m=>(h2 i1 m).elim i12 fun q=>q (hf i1 (by simp)),i2f:=fun m=>(h1 i2 m).elim (X5 i12) fun q=>q (hf i2 (by simp)) }
  refine ⟨by simp,fun i h st b Y=>?_,fun i h h' st kk=>?_,?_,?_,fun A i s Q E st q=>wpAny_pyIter_zip st.1 q⟩
  . obtain ⟨hz,J,⟨a,b',L⟩,h1,h2⟩:=st;simp only [nE,VQ,or_false] at Y;rcases Y with rfl|rfl|rfl|rfl|rfl
    . exact ⟨_,hz,fun v q=>by cases q⟩
    . exact ⟨_,J,fun v q=>by cases q⟩
    . exact ⟨_,L,fun v q=>by cases q⟩
    . exact s1.obj i h h1
    . exact s2.obj i h h2
  . obtain ⟨hz,J,⟨a,b',L⟩,h1,h2⟩:=st;exact ⟨kk z (by simp) _ hz,kk TI (by simp) _ J,⟨a,b',kk TO (by simp) _ L⟩,s1.keep i h h' h1 fun o e=>kk i1 (by simp) o e,s2.keep i h h' h2 fun o e=>kk i2 (by simp) o e⟩
  . intro X hP hw hK hc i af s Z H E I hf st hg;subst hP hw;obtain ⟨hz,J,L,h1,h2⟩:=st;obtain ⟨sB,hi⟩:=hg;have hh:X.A.in1.handled=none:=I.ok.hd hc;obtain ⟨fp1,P1,St1,D1,st1,m1,n1,p1,b1⟩:=s1.draw X af s Z H I hK sB (hf i1 (by simp)) X.A.in1 hh i h1;obtain ⟨fp2,P2,St2,D2,st2,m2,n2,p2,b2⟩:=s2.draw X af s Z H I hK sB (hf i2 (by simp)) X.A.in1 hh i h2;have W:=WalksT.zipD D1 D2 (za hf n1 n2) m1 m2;refine bi I.tk (W.item i s _ _ hi ⟨hz,J,L,st1,st2⟩ fun T vals h' tk pt hT isT mid k1 htk=>⟨.ref T,rfl,W.go elts k pos i T { s with heap:=h',toks:=tk } _ _ mid fun h'' st'' k2=>?_⟩);obtain ⟨u1,u2,q1,q2,rfl⟩:=pt;obtain ⟨x,hx,rx⟩:=p1 i u1 q1;obtain ⟨y,hy,ry⟩:=p2 i u2 q2;obtain ⟨hz',hTI',hTO',st1',st2'⟩:=st'';have kk:∀ b o,b∉[z,TO,i1,i2]->s.heap.get? b=some o->h''.get? b=some o:=fun b o Y e=>k2 b o Y (k1 b o Y e);have hTn:H T=none:=I.hok.fresh hT;have lt:∀ {b o},s.heap.get? b=some o->b≠T:=fun e=>VI (VE (ID e) hT);have isT':YE h'' T [u1,u2].toArray:=by
      obtain ⟨o,e,r⟩:=isT;exact ⟨o,k2 T o (W.apart i T _ mid) e,r⟩
    refine ⟨.ref T,upd H T (.tup [x,y]),I.turnedT (t':=tk) (ch:=[z,TO,i1,i2]) (fun b Y=>hf b (by simp only [nE,VQ,or_false] at Y ⊢;rcases Y with h|h|h|h <;> simp [h])) kk hT (by show 2<=IF;decide) (.cons rx (.cons ry .nil)) isT',rfl,⟨T,x,y,hTn,rfl,rfl,hx,hy⟩,
      ⟨hz',hTI',hTO',b1 _ _ st1',b2 _ _ st2'⟩,fun b Y=>?_⟩
    have hbT:b≠T:=by
      simp only [nE,VQ,or_false] at Y;rcases Y with rfl|rfl|rfl|rfl|rfl
      . exact lt hz
      . exact lt J
      . obtain ⟨_,_,e⟩:=L;exact lt e
      . obtain ⟨_,e,_⟩:=s1.obj _ _ h1;exact lt e
      . obtain ⟨_,e,_⟩:=s2.obj _ _ h2;exact lt e
    rw [aU hbT];exact (hf b Y).1
  . intro X hP hw hK hc i af s Z H E I hf st hg;subst hP hw;obtain ⟨hz,J,L,h1,h2⟩:=st;obtain ⟨sB,hi⟩:=hg;have hh:X.A.in1.handled=none:=I.ok.hd hc;obtain ⟨fp1,P1,St1,D1,st1,m1,n1,p1,b1⟩:=s1.draw X af s Z H I hK sB (hf i1 (by simp)) X.A.in1 hh i h1;obtain ⟨fp2,P2,St2,D2,st2,m2,n2,p2,b2⟩:=s2.draw X af s Z H I hK sB (hf i2 (by simp)) X.A.in1 hh i h2;have W:=WalksT.zipD D1 D2 (za hf n1 n2) m1 m2;subst hi;refine bi I.tk (W.done s _ _ ⟨hz,J,L,st1,st2⟩ fun h' tk kk htk=>⟨rfl,?_⟩)
    have nch:∀ b u,H b=some u->b∉[z,TO,i1,i2]:=fun b u e q=>by
      have:=(hf b (by simp only [nE,VQ,or_false] at q ⊢;rcases q with h|h|h|h <;> simp [h])).1
      rw [this] at e;cases e
    refine I.step (g':=s.gens) (d':=s.drawn) (ch:=[z,TO,i1,i2]) (fun b Y=>?_) (fun b o _ _ hc e _=>kk b o hc e) (fun b o _ _ hc e _=>⟨o.slots,kk b o hc e⟩) (fun _ _ _ _ n=>n)
      (fun b o hc e=>⟨o,kk b o hc e⟩) (fun _ _ e=>e) (fun _ _ _ e=>e) (fun b ps e=>⟨#[],by rw [e];simp⟩) (fun m hm=>?_) (fun b u e=>?_) I.bare
    . have f:=hf b (by simp only [nE,VQ,or_false] at Y ⊢;rcases Y with h|h|h|h <;> simp [h]);exact ⟨f.2.2.2.1,f.2.1,f.2.2.2.2.1,f.2.2.2.2.2⟩
    . obtain ⟨o,es,ep,ho,r⟩:=hm;refine ⟨o,es,ep,kk _ o (fun q=>?_) ho,r⟩;exact (hf _ (by simp only [nE,VQ,or_false] at q ⊢;rcases q with h|h|h|h <;> simp [h])).2.1 rfl
    . refine (I.hok b u e).stay (fun c v hc q=>kk c v ?_ q) (fun _ q=>q) fun _ _ q=>q;rcases hc with z|z
      . rw [z];exact nch b u e
      . exact nch c _ z
def GA {P:VH} {w:VZ} {K:aT} {B:Hp} {xs:abB} {e it:Do} {S:Nat->Xj->Prop} {elts:List Wk} {k:Nat} {pos:Pos} (s1:Src K B xs it S) (ne:e≠it) :
  Turn P w K (.Tuple elts k pos) (JK B xs.length fun i x y=>x=.int (i:Int)/\xs[i]?=some y) [e,it] e (fun i h=>(∃ L,IsEnum h e it (i:Int) L)/\S i h):=by
 have nof:∀ {X:Cx} {af:abw} {H:Hp} {fp:abz},(∀ b∈[e,it],iI X af H b)->(∀ b∈fp,b=it\/¬ iI X af H b)->e∉fp:=fun hf h1 m=>(h1 e m).elim ne fun q=>q (hf e (by simp));refine ⟨by simp,fun i h st b Y=>?_,fun i h h' st kk=>?_,?_,?_,fun A i s Q E st q=>let ⟨⟨L,he⟩,_⟩:=st;wpAny_pyIter_enum he q⟩
 .obtain ⟨⟨L,he⟩,h1⟩:=st;simp only [nE,VQ,or_false] at Y;rcases Y with rfl|rfl
  .exact ⟨_,he,fun v q=>by cases q⟩
  .exact s1.obj i h h1
 .obtain ⟨⟨L,he⟩,h1⟩:=st;exact ⟨⟨L,kk e (by simp) _ he⟩,s1.keep i h h' h1 fun o q=>kk it (by simp) o q⟩
 .intro X hP hw hK J i af s Z H E I hf st hg;subst hP hw;obtain ⟨he,h1⟩:=st;obtain ⟨sB,hi⟩:=hg;have hh:X.A.in1.handled=none:=I.ok.hd J;obtain ⟨fp1,P1,St1,D1,st1,m1,n1,p1,b1⟩:=s1.draw X af s Z H I hK sB (hf it (by simp)) X.A.in1 hh i h1;have W:=aaK D1 e ne (nof hf n1) m1;refine bi I.tk (W.item i s _ _ hi ⟨he,st1⟩ fun T vals h' tk pt hT isT mid k1 htk=>⟨.ref T,rfl,W.go elts k pos i T { s with heap:=h',toks:=tk } _ _ mid fun h'' st'' k2=>?_⟩);obtain ⟨t,u2,q2,rfl⟩:=pt;obtain ⟨y,hy,ry⟩:=p1 i u2 q2;obtain ⟨he',st1'⟩:=st'';have kk:∀ b o,b∉[e,it]->s.heap.get? b=some o->h''.get? b=some o:=fun b o Y q=>k2 b o Y (k1 b o Y q);have hTn:H T=none:=I.hok.fresh hT;have lt:∀ {b o},s.heap.get? b=some o->b≠T:=fun q=>VI (VE (ID q) hT);have isT':YE h'' T [.int i t,u2].toArray:=by
   obtain ⟨o,q,r⟩:=isT;exact ⟨o,k2 T o (W.apart i T _ mid) q,r⟩
  refine ⟨.ref T,upd H T (.tup [.int (i:Int),y]),I.turnedT (t':=tk) (ch:=[e,it]) hf kk hT (by show 2<=IF;decide) (.cons ⟨t,rfl⟩ (.cons ry .nil)) isT',rfl,⟨T,_,y,hTn,rfl,rfl,rfl,hy⟩,⟨he',b1 _ _ st1'⟩,fun b Y=>?_⟩;have hbT:b≠T:=by
   simp only [nE,VQ,or_false] at Y;rcases Y with rfl|rfl
   .obtain ⟨_,q⟩:=he;exact lt q
   .obtain ⟨_,q,_⟩:=s1.obj _ _ h1;exact lt q
  rw [aU hbT];exact (hf b Y).1
 .intro X hP hw hK J i af s Z H E I hf st hg;subst hP hw;obtain ⟨he,h1⟩:=st;obtain ⟨sB,hi⟩:=hg;have hh:X.A.in1.handled=none:=I.ok.hd J;obtain ⟨fp1,P1,St1,D1,st1,m1,n1,p1,b1⟩:=s1.draw X af s Z H I hK sB (hf it (by simp)) X.A.in1 hh i h1;have W:=aaK D1 e ne (nof hf n1) m1;subst hi;refine bi I.tk (W.done s _ _ ⟨he,st1⟩ fun h' tk kk htk=>⟨rfl,?_⟩);have nch:∀ b u,H b=some u->b∉[e,it]:=fun b u q m=>by
   have:=(hf b m).1
   rw [this] at q;cases q
  refine I.step (g':=s.gens) (d':=s.drawn) (ch:=[e,it]) (fun b Y=>?_) (fun b o _ _ J q _=>kk b o J q) (fun b o _ _ J q _=>⟨o.slots,kk b o J q⟩) (fun _ _ _ _ n=>n)
   (fun b o J q=>⟨o,kk b o J q⟩) (fun _ _ q=>q) (fun _ _ _ q=>q) (fun b ps q=>⟨#[],by rw [q];simp⟩) (fun m hm=>?_) (fun b u q=>?_) I.bare
  .have f:=hf b Y;exact ⟨f.2.2.2.1,f.2.1,f.2.2.2.2.1,f.2.2.2.2.2⟩
  .obtain ⟨o,es,ep,ho,r⟩:=hm;exact ⟨o,es,ep,kk _ o (fun q=>(hf _ q).2.1 rfl) ho,r⟩
  .refine (I.hok b u q).stay (fun c v J z=>kk c v ?_ z) (fun _ z=>z) fun _ _ z=>z;rcases J with z|z
   .rw [z];exact nch b u q
   .exact nch c _ z
def xO {K:aT} {as0:abz} {B:Hp} {n:Nat} {Pv:Nat->V->V->Prop} {zs:abC} (hn:n=zs.length) (h:∀ i x y,i < n->Pv i x y->∃ dx J,zs[i]?=some (.tup [dx,J])/\dF K (aP as0 B) dx x/\dF K (aP as0 B) J y):GivesD K as0 B (JK (aP as0 B) n Pv) zs where
 go:=fun i H s hi=>⟨s,by rw [hn];exact hi⟩
 yl:=fun i H v H2 M s hM hM2 hi ⟨p,x,y,hp,e,ev,hv⟩=>by
  subst e ev;obtain ⟨dx,J,e1,d1,d2⟩:=h i x y (by rw [hn];exact hi) hv;have L:p∉M:=fun z=>hM p z hp;have Y:aH (aP as0 B) (aP M (upd H p (.tup [x,y]))):=(mv s hM2).trans (bh (bn hp _));exact ⟨bn hp _,_,e1,p,[x,y],rfl,.inl (.inl (by rw [bc L];exact a9)),aN.cons (d1.mono Y) (aN.cons (d2.mono Y) aN.nil)⟩
 stop:=fun H s=>⟨s,hn.symm⟩
def Ae {K:aT} {H:Hp} {d:D} {v:V} {xs:abC} (h:dF K H d v) (e:ge d=.ok xs):∃ vs,Sx K H v vs/\aN K H xs vs:=by
 cases d with
 | lst ds=>cases e;obtain ⟨a,vs,rfl,J,L⟩:=h;exact ⟨vs,.inr (.inl ⟨a,rfl,J⟩),L⟩
 | tup ds=>cases e;obtain ⟨a,vs,rfl,J,L⟩:=h;exact ⟨vs,.inr (.inr ⟨a,rfl,J⟩),L⟩
 | str z =>
  cases e;cases h;refine ⟨sX z,.inl ⟨z,rfl,rfl⟩,?_⟩;show aN K H (z.cps.toList.map fun c=>D.str ⟨#[c]⟩) (z.cps.toList.map fun c=>V.str ⟨#[c]⟩);generalize z.cps.toList=cs;induction cs with
  | nil=>exact rfl
  | cons c r Y=>exact ⟨_,_,rfl,rfl,Y⟩
 | _=>cases e
def h7 (xs ys:abC):abC:=List.zipWith (fun x y=>D.tup [x,y]) xs ys
def Hf (ds:abC):R (abC):=match ds with
 | [a,b]=>(ge a).bind fun xs=>(ge b).bind fun ys=>.ok (h7 xs ys)
 | _=>.no
def J3 (α:FA):FA:=fun U=>(α U).bind Hf
def du:Nat->abC->abC
 | _,[]=>[]
 | n,x::r=>.tup [.int (n:Int),x]::du (n+1) r
theorem uz:∀ (n:Nat) (xs:abC),(du n xs).length=xs.length
 | _,[]=>rfl
 | n,x::r=>by unfold du;simp [uz (n+1) r]
def tH:∀ (n:Nat) (xs:abC) (i:Nat),(du n xs)[i]?=xs[i]?.map fun x=>.tup [.int ((n+i:Nat):Int),x]
 | _,[],i=>by simp [du]
 | n,x::r,0=>by simp [du]
 | n,x::r,i+1=>by
  unfold du;rw [Zs,tH (n+1) r i,Zs];have e:n+1+i=n+(i+1):=by omega
  rw [e]
def JU (ds:abC):R (abC):=match ds with
 | [a]=>(ge a).bind fun xs=>.ok (du 0 xs)
 | _=>.no
def ly (α:FA):FA:=fun U=>(α U).bind JU
section
variable {X:Cx} {W:Wd} {O:abu} {α:FA} {elts:List Wk} {k:Nat} {p pos tpos:Pos}
def Iz {a b:Wk} (hm:X.mg "zip"=none) (ha:JA X [a,b] (Cz W O α)) (hg:Gl X "zip":=by rfl) (h1:bw a=true:=by rfl) (h2:bw b=true:=by rfl) (hW:W.K=X.K:=by rfl) :
  JI X (.Tuple elts k tpos) (.Call (.Name "zip" p) [a,b] [] pos) (iD W O (J3 α)):=⟨fun af s Z H R I ⟨as0,B,own,U,DIh,h⟩=>by
 refine Wt (ox I hg hm Po ?_ (by decide) (by decide));refine WR (eO (ha.out pos af s Z H (fun vs H1=>aH H H1/\∃ ds,aN W.K (aP (own++as0) H1) ds vs/\j3 W as0 own H1 (Hf ds) R) I ⟨as0,B,own,U,DIh,qd h fun ds vs H1 Y d1 L=>⟨Y,ds,d1,L⟩⟩) fun us Y hh=>qQ hh fun vs H1 I1 r1 q1=>?_) (dl h1) (gi (by rw [Wz,h2];rfl));obtain ⟨sH,ds,dv,L⟩:=q1;unfold Hf at L;split at L
 .rename_i da db;obtain ⟨va,vb,rfl,den1,den2⟩:=FG dv;cases e1:ge da with
  | no=>rw [e1] at L;exact L.elim
  | er x=>cases da <;> cases e1
  | ok xs =>
   rw [e1] at L;have L:j3 W as0 own H1 ((ge db).bind fun ys=>.ok (h7 xs ys)) R:=L;cases e2:ge db with
   | no=>rw [e2] at L;exact L.elim
   | er x=>cases db <;> cases e2
   | ok ys =>
    rw [e2] at L;have L:∀ J H',aH H1 H'->GivesD W.K as0 (aP own H') J (h7 xs ys)->R J H':=L;obtain ⟨u1,u2,rfl,ru1,ru2⟩:=Fy r1;rw [nK] at den1 den2;obtain ⟨xv,sv1,dn1⟩:=Ae den1 e1;obtain ⟨yv,sv2,dn2⟩:=Ae den2 e2;rw [hW] at sv1 sv2 dn1 dn2;have sB:aH (aP as0 (aP own H1)) H1:=(aC _ _).trans (aC _ _);obtain ⟨o1,S1,it1,fr1,st1,src1⟩:=DT I1 ru1 sB sv1;obtain ⟨o2,S2,it2,fr2,st2,src2⟩:=DT I1 ru2 sB sv2;refine Ho it1 it2 fr1 fr2 fun h' hz hTI hTO g1 g2 hsz kp=>?_;refine wpAny_pyIter_zip hz ?_;have nw:∀ j,j < 5->H1 (Y.heap.objs.size+j)=none:=fun j _=>I1.hok.fresh (ZD _ _);refine ⟨Y.heap.objs.size+4,_,_,_,H1,rfl,I1.kept (t':=Y.toks) kp,Ir (P:=X.prog) (w:=X.w) (src1 Y.heap.objs.size) (src2 (Y.heap.objs.size+1)) (z:=Y.heap.objs.size+4) (TI:=Y.heap.objs.size+2) (TO:=Y.heap.objs.size+3) ?_,⟨hz,hTI,⟨_,_,hTO⟩,st1 _ _ g1,st2 _ _ g2⟩,fun b hb=>?_,L _ H1 (aH.refl _) ?_⟩
    .simp only [Wm,nE,VQ,or_false,not_or,WQ,and_true,not_false_eq_true];refine ⟨⟨?_,?_,?_,?_⟩,⟨?_,?_,?_⟩,⟨?_,?_⟩,?_⟩ <;> (intro q;have q':(_:Nat)=_:=q;omega)
    .have hb':Y.heap.objs.size<=b:=by
      simp only [nE,VQ,or_false] at hb;rcases hb with rfl|rfl|rfl|rfl|rfl <;> first|exact ZD _ _|exact oR _
     exact I1.fpOk hb' (I1.hok.fresh hb')
    .rw [hW];refine xO ?_ fun i x y hi hv=>?_
     .unfold h7;rw [aak,dn1.len,dn2.len]
     .obtain ⟨dx,q1,q2⟩:=dn1.got hv.1;obtain ⟨dy,q3,q4⟩:=dn2.got hv.2;refine ⟨dx,dy,?_,q2,q4⟩;unfold h7;rw [List.getElem?_zipWith,q1,q3]
 .exact L.elim⟩
def ub {a:Wk} (hm:X.mg "enumerate"=none) (ha:JA X [a] (Cz W O α)) (hg:Gl X "enumerate":=by rfl) (h1:bw a=true:=by rfl) (hW:W.K=X.K:=by rfl) :
  JI X (.Tuple elts k tpos) (.Call (.Name "enumerate" p) [a] [] pos) (iD W O (ly α)):=⟨fun af s Z H R I ⟨as0,B,own,U,DIh,h⟩=>by
 refine Wt (ox I hg hm zP ?_ (by decide) (by decide));refine WR (eO (ha.out pos af s Z H (fun vs H1=>aH H H1/\∃ ds,aN W.K (aP (own++as0) H1) ds vs/\j3 W as0 own H1 (JU ds) R) I ⟨as0,B,own,U,DIh,qd h fun ds vs H1 s1 d1 L=>⟨s1,ds,d1,L⟩⟩) fun us s1 hh=>qQ hh fun vs H1 I1 r1 q1=>?_) (dl h1) rfl;obtain ⟨sH,ds,dv,L⟩:=q1;unfold JU at L;split at L
 .rename_i da;obtain ⟨va,rfl,Y⟩:=iK dv;cases e1:ge da with
  | no=>rw [e1] at L;exact L.elim
  | er x=>cases da <;> cases e1
  | ok xs =>
   rw [e1] at L;have L:∀ J H',aH H1 H'->GivesD W.K as0 (aP own H') J (du 0 xs)->R J H':=L;obtain ⟨u1,rfl,ru1⟩:=kQ r1;rw [nK] at Y;obtain ⟨xv,sv1,dn1⟩:=Ae Y e1;rw [hW] at sv1 dn1;have sB:aH (aP as0 (aP own H1)) H1:=(aC _ _).trans (aC _ _);obtain ⟨o1,S1,it1,fr1,st1,src1⟩:=DT I1 ru1 sB sv1;refine DC it1 fr1 fun h' he g1 hsz kp=>?_;refine wpAny_pyIter_enum he ?_;refine ⟨s1.heap.objs.size+1,_,_,_,H1,rfl,I1.kept (t':=s1.toks) kp,GA (P:=X.prog) (w:=X.w) (src1 s1.heap.objs.size) (e:=s1.heap.objs.size+1) (Nat.succ_ne_self _),⟨⟨_,he⟩,st1 _ _ g1⟩,fun b hb=>?_,L _ H1 (aH.refl _) ?_⟩
   .have hb':s1.heap.objs.size<=b:=by
     simp only [nE,VQ,or_false] at hb;rcases hb with rfl|rfl <;> first|exact ZD _ _|exact oR _
    exact I1.fpOk hb' (I1.hok.fresh hb')
   .rw [hW];refine xO ?_ fun i x y hi hv=>?_
    .rw [uz,dn1.len]
    .obtain ⟨rfl,hv⟩:=hv;obtain ⟨dy,q3,q4⟩:=dn1.got hv;refine ⟨.int (i:Int),dy,?_,rfl,q4⟩;rw [tH,q3,ZL];rfl
 .exact L.elim⟩
end
def HK (K:aT) (F:abC->R D):Sp:=fun vs H Q E=>∀ mg,eY K mg F vs H Q E
def Lp {P:VH} {w:VZ} {K:aT} {mg:aby} {k:Nat} {J:Do} {ps:abv} {F:abC->R D} {C:Wl->Prop}
  (h:∃ fd:Wl,C fd/\∀ base:Xj,K.In base->base.Ns VF mg->FnOk P w K mg base dc k J fd ps (eY K mg F)) :
  ∃ fd:Wl,C fd/\∀ base:Xj,K.In base->base.Ns VF mg->FnOk P w K mg base dc k J fd ps (HK K F):=by
 obtain ⟨fd,h1,h2⟩:=h;exact ⟨fd,h1,fun base L Y=>(h2 base L Y).imp fun vs H Q E q=>q mg⟩
def Lg {K:aT} {a:Do} {ns:List Int} {H:Hp} {F:abC->R D} {Q:VK} {E:XK} (J:iA K H a (ns.map V.int)) (h:F [.lst (ns.map D.int)]=.ok (.bl true)) (q:∀ H',Q (.bl true) H'):HK K F [.ref a] H Q E :=
 fun mg=>Pj J h q
def fin (r:R Fl):R D:=r.bind fun f=>match f with
 | .rt d=>.ok d
 | .rn d=>.ok d
 | .nx _=>.ok .non
 | _=>.no
section
variable {U:Sd} {d e:D} {x y:Str} {i j:Int} {b c:Bool} {φ ψ:FE} {τ υ:FT} {α:FA} {S T:FS}
def Qg (T:FS) (f:Fl):R Fl:=match f with
 | .nx δ'=>T δ'
 | f=>.ok f
def MZ:aD S T U=(S U).bind (Qg T):=by
 unfold aD Qg;cases S U with
 | ok f=>cases f <;> rfl
 | er x=>rfl
 | no=>rfl
def OU:Qg T (.nx U)=T U:=rfl
def UG (d:D):R Fl:=.ok (.rt d)
def R4:ba φ U=(φ U).bind UG:=rfl
def Vq (S T:FS) (U:Sd) (b:Bool):R Fl:=if b=true then S U else T U
def Se:fb τ S T U=(τ U).bind (Vq S T U):=rfl
def QX:Vq S T U b=if b=true then S U else T U:=rfl
def Vg (k:Nat) (U:Sd) (d:D):R Fl:=.ok (.nx (U.set k (some d)))
def SN {k:Nat}:bp k φ U=(φ U).bind (Vg k U):=rfl
def Sm (k:Nat) (U:Sd) (d:D):R Fl:=if k < U.length then .ok (.nx (U.set k (some d))) else .no
def QL {k:Nat}:ow k φ U=(φ U).bind (Sm k U):=rfl
def SK {k:Nat}:Sm k U d=if k < U.length then .ok (.nx (U.set k (some d))) else .no:=rfl
def QG (t:TgD) (S:FS) (U:Sd) (xs:abC):R Fl:=gt t S xs U
def Nf {t:TgD}:sP α t S U=(α U).bind (QG t S U):=rfl
def Nq {t:TgD} {xs:abC}:QG t S U xs=gt t S xs U:=rfl
def J7 (t:TgD) (S:FS) (r:abC) (f:Fl):R Fl:=match f with
 | .nx δ2=>gt t S r δ2
 | .ct δ2=>gt t S r δ2
 | .bk δ2=>.ok (.nx δ2)
 | .rt d=>.ok (.rt d)
 | .rn d=>.ok (.rn d)
def NN (t:TgD) (S:FS) (r:abC) (J:Sd):R Fl:=(S J).bind (J7 t S r)
def Cs {t:TgD} {r:abC}:gt t S (d::r) U=(j2 t d U).bind (NN t S r):=by
 show (j2 t d U).bind _=_;congr 1
def Kb {t:TgD} {r:abC}:NN t S r U=(S U).bind (J7 t S r):=rfl
def FV {t:TgD} {r:abC}:J7 t S r (.nx U)=gt t S r U:=rfl
def GO {k l:Nat}:j2 (.tup [k,l]) (.tup [d,e]) U=.ok ((U.set k (some d)).set l (some e)):=rfl
def TZ (o:Option (Option D)):R D:=match o with
 | some (some d)=>.ok d
 | _=>.no
def v_var {k:Nat}:ag k U=TZ U[k]?:=rfl
def VD (op:D->D->R D) (ψ:FE) (U:Sd) (x:D):R D:=(ψ U).bind (op x)
def T7 {op:D->D->R D}:av op φ ψ U=(φ U).bind (VD op ψ U):=rfl
def Uu {op:D->D->R D}:VD op ψ U d=(ψ U).bind (op d):=rfl
def Ux (d:D):R D:=Jy d fun b=>.ok (.bl (!b))
def v_not:L3 φ U=(φ U).bind Ux:=rfl
def QR (ψ:FE) (U:Sd) (d:D):R D:=Jy d fun b=>if b=true then ψ U else .ok (.bl false)
def v_and:eU φ ψ U=(φ U).bind (QR ψ U):=rfl
def QF:QR ψ U (.bl b)=if b=true then ψ U else .ok (.bl false):=rfl
def Vt (ψ:FE) (U:Sd) (d:D):R D:=Jy d fun b=>if b=true then .ok (.bl true) else ψ U
def v_or:Pk φ ψ U=(φ U).bind (Vt ψ U):=rfl
def Ub:Vt ψ U (.bl b)=if b=true then .ok (.bl true) else ψ U:=rfl
def blK (d:D):R Bool:=Jy d .ok
def US:bV φ U=(φ U).bind blK:=rfl
def RQ:dG φ U=(φ U).bind N2:=rfl
def Nh (υ:FT) (U:Sd) (b:Bool):R Bool:=if b=true then υ U else .ok false
def Nr:tV τ υ U=(τ U).bind (Nh υ U):=rfl
def Pm:Nh υ U b=if b=true then υ U else .ok false:=rfl
def Rf (υ:FT) (U:Sd) (b:Bool):R Bool:=if b=true then .ok true else υ U
def R0:rR τ υ U=(τ U).bind (Rf υ U):=rfl
def SH:Rf υ U b=if b=true then .ok true else υ U:=rfl
def Sa (b:Bool):R Bool:=.ok (!b)
def Tc:fQ τ U=(τ U).bind Sa:=rfl
def Rl (φ ψ:FE) (U:Sd) (b:Bool):R D:=if b=true then φ U else ψ U
def NX:Na τ φ ψ U=(τ U).bind (Rl φ ψ U):=rfl
def NO:Rl φ ψ U b=if b=true then φ U else ψ U:=rfl
def Q0:fA α U=(α U).bind CJ:=rfl
def R7:dM α U=(α U).bind EU:=rfl
def PY {ds:abC}:CJ ds=if ds.length<=1000000 then .ok (.lst ds) else .no:=rfl
def Ph {ds:abC}:EU ds=if ds.length<=1000000 then .ok (.tup ds) else .no:=rfl
def Qh {g:abC->R D}:aj g α U=(α U).bind g:=rfl
def oK (d:D):R (Option Int):=match d with
 | .int i=>.ok (some i)
 | _=>.no
def Pd:hZ φ U=(φ U).bind oK:=rfl
def Pw (g:D->Option Int->Option Int->R D) (d:D) (lo hi:Option Int):R D:=g d lo hi
def Pu (g:D->Option Int->Option Int->R D) (u:Sd->R (Option Int)) (U:Sd) (d:D) (lo:Option Int):R D:=(u U).bind (Pw g d lo)
def SD (g:D->Option Int->Option Int->R D) (l u:Sd->R (Option Int)) (U:Sd) (d:D):R D:=(l U).bind (Pu g u U d)
def Sy {g:D->Option Int->Option Int->R D} {l u:Sd->R (Option Int)}:Bg g φ l u U=(φ U).bind (SD g l u U):=rfl
def NU {g:D->Option Int->Option Int->R D} {l u:Sd->R (Option Int)}:SD g l u U d=(l U).bind (Pu g u U d):=rfl
def Nc {g:D->Option Int->Option Int->R D} {u:Sd->R (Option Int)} {lo:Option Int}:Pu g u U d lo=(u U).bind (Pw g d lo):=rfl
def M0 {g:D->Option Int->Option Int->R D} {lo hi:Option Int}:Pw g d lo hi=g d lo hi:=rfl
def Vd (g:Str->abC->R D) (α:FA) (U:Sd) (d:D):R D:=match d with
 | .str z=>(α U).bind fun ds=>g z ds
 | _=>.no
def UB {g:Str->abC->R D}:Rj g φ α U=(φ U).bind (Vd g α U):=rfl
def Ur {g:Str->abC->R D}:Vd g α U (.str x)=(α U).bind (g x):=rfl
def Pb {ix:List (Option Nat)} {t:TgD}:bK ix α t τ φ U=(α U).bind (fw t τ φ (gj ix U)):=rfl
def SU:gf φ U=(φ U).bind ge:=rfl
def EW:ge (.str x)=.ok (Eg x):=rfl
def O9:oX α U=(α U).bind LS:=rfl
def Q1 (h:-(2 ^ 62)<=i/\i < 2 ^ 62):LS [.int i]=.ok (i7 0 i.toNat):=abn h
def Ky:J3 α U=(α U).bind Hf:=rfl
def Qz {xs ys:abC} (h1:ge d=.ok xs) (h2:ge e=.ok ys):Hf [d,e]=.ok (h7 xs ys):=by
 unfold Hf;simp only [h1,h2,aK]
def HY:cT (.str x) (.str y)=if x.length+y.length<=1000000 then .ok (.str (x++y)) else .no:=rfl
def add_l {xs ys:abC}:cT (.lst xs) (.lst ys)=if xs.length+ys.length<=1000000 then .ok (.lst (xs++ys)) else .no:=rfl
def mul_r (h:-(2 ^ 64) < j/\j < 2 ^ 64):iJ (.int i) (.int j)=.ok (.int (i*j)):=abn (.inr h)
def zN (h:-(2 ^ 64) < i/\i < 2 ^ 64):iJ (.int i) (.int j)=.ok (.int (i*j)):=abn (.inl h)
def Td (h:0 < j/\j < 1073741824):b8 (.int i) (.int j)=.ok (.int (i/j)):=abn h
def Q8 (h:0 < j):bz (.int i) (.int j)=.ok (.int (i % j)):=abn h
def FU (h:0<=j/\j<=1000000/\-(2 ^ 64) < i/\i < 2 ^ 64):pY (.int i) (.int j)=.ok (.int (i ^ j.toNat)):=abn ⟨h.1,h.2.1,by omega⟩
def vq:Az (.int i) (.int j)=.ok (.bl (decide (i < j))):=rfl
def OQ:HP (.int i) (.int j)=.ok (.bl (decide (i<=j))):=rfl
def Eb:HI (.int i) (.int j)=.ok (.bl (decide (j < i))):=rfl
def Tq:KR (.int i) (.int j)=.ok (.bl (decide (j<=i))):=rfl
def Ss:Az (.str x) (.str y)=.ok (.bl (decide (x.cps.toList < y.cps.toList))):=rfl
def Ri:HP (.str x) (.str y)=.ok (.bl (!decide (y.cps.toList < x.cps.toList))):=rfl
def Q6:KR (.str x) (.str y)=.ok (.bl (!decide (x.cps.toList < y.cps.toList))):=rfl
def wf:dR (.int i) (.int j)=.ok (.bl (decide (i=j))):=by simp [dR,wz,jy,Cp,lW]
def mj:dR (.str x) (.str y)=.ok (.bl (decide (x=y))):=by simp [dR,wz,jy,Cp,lW]
def SX:dR .non .non=.ok (.bl true):=by simp [dR,wz,jy,Cp,lW]
def Nb:yI (.int i) (.int j)=.ok (.bl (!decide (i=j))):=by simp [yI,wz,jy,Cp,lW]
def zA:yI (.str x) (.str y)=.ok (.bl (!decide (x=y))):=by simp [yI,wz,jy,Cp,lW]
def PV (h:x.length<=1000000) {k:Nat} (J:atI x.cps.toList i=some k):cC (.str x) (.int i)=.ok (.str ⟨#[k]⟩):=by simp only [cC,abn h,J]
def wm {xs:abC} (J:atI xs i=some d):cC (.lst xs) (.int i)=.ok d:=by simp only [cC,J]
def DS {xs:abC} (J:atI xs i=some d):cC (.tup xs) (.int i)=.ok d:=by simp only [cC,J]
def cf {r:abC}:cC (.tup (d::r)) (.int 0)=.ok d:=DS (cj (j:=0) rfl)
def ca {a:D} {r:abC}:cC (.tup (a::d::r)) (.int 1)=.ok d:=DS (cj (j:=1) rfl)
def NW {a b:D} {r:abC}:cC (.tup (a::b::d::r)) (.int 2)=.ok d:=DS (cj (j:=2) rfl)
def QD {a b c:D} {r:abC}:cC (.tup (a::b::c::d::r)) (.int 3)=.ok d:=DS (cj (j:=3) rfl)
def nO {r:abC}:cC (.lst (d::r)) (.int 0)=.ok d:=wm (cj (j:=0) rfl)
def xw {a:D} {r:abC}:cC (.lst (a::d::r)) (.int 1)=.ok d:=wm (cj (j:=1) rfl)
def ND {a b:D} {r:abC}:cC (.lst (a::b::d::r)) (.int 2)=.ok d:=wm (cj (j:=2) rfl)
def SL {a b c:D} {r:abC}:cC (.lst (a::b::c::d::r)) (.int 3)=.ok d:=wm (cj (j:=3) rfl)
def S6 {L J Y a3:D} {r:abC}:cC (.lst (L::J::Y::a3::d::r)) (.int 4)=.ok d:=wm (cj (j:=4) rfl)
def Rg {L J Y a3 a4:D} {r:abC}:cC (.lst (L::J::Y::a3::a4::d::r)) (.int 5)=.ok d:=wm (cj (j:=5) rfl)
def RX {L J a2 a3 a4 Y:D} {r:abC}:cC (.lst (L::J::a2::a3::a4::Y::d::r)) (.int 6)=.ok d:=wm (cj (j:=6) rfl)
def QV {L J a2 a3 a4 Y a6:D} {r:abC}:cC (.lst (L::J::a2::a3::a4::Y::a6::d::r)) (.int 7)=.ok d:=wm (cj (j:=7) rfl)
def Sn {lo hi:Option Int}:yf (.str x) lo hi=if x.length<=1000000 then .ok (.str (lV x lo hi)) else .no:=rfl
def JJ {xs:abC} {lo hi:Option Int}:yf (.lst xs) lo hi=.ok (.lst (mO xs lo hi)):=rfl
def Nz:cw [.str x]=if x.length<=1000000 then .ok (.int x.length) else .no:=rfl
def BS {xs:abC}:cw [.lst xs]=.ok (.int xs.length):=rfl
def tQ {xs:abC}:cw [.tup xs]=.ok (.int xs.length):=rfl
def QQ:LB [.int i]=.ok (.int (if i < 0 then -i else i)):=rfl
def RV:Jj [.int i,.int j]=.ok (.int (if j < i then j else i)):=rfl
def FQ {xs:abC}:uP [.lst xs]=.ok (.tup xs):=rfl
def Rr {xs:abC}:yM [.lst xs]=.ok (.lst xs):=rfl
def EM {xs:abC}:yM [.tup xs]=.ok (.lst xs):=rfl
def Rt {C:String}:dH [.int i,.ty C]=if pG C=true then .ok (.bl (mN "int" C)) else .no:=rfl
def RF {C:String}:dH [.str x,.ty C]=if pG C=true then .ok (.bl (mN "str" C)) else .no:=rfl
def MX {xs:abC} {bs:List Bool} (h:CA xs=some bs):nh [.lst xs]=.ok (.bl (bs.all id)):=by simp only [nh,h]
theorem A5 {J:Type} (f:J->Bool):∀ xs:List J,CA (xs.map fun a=>D.bl (f a))=some (xs.map f)
 | []=>rfl
 | a::r=>by simp only [By,CA,A5 f r,aa8]
theorem strs_map {J:Type} (f:J->Str):∀ xs:List J,su (xs.map fun a=>D.str (f a))=some (xs.map f)
 | []=>rfl
 | a::r=>by simp only [By,su,strs_map f r,aa8]
def OT {z:Str} {xs:abC} {ys:abv} (h:su xs=some ys) (J:(ys.map (·.length)).sum+ys.length*z.length<=1000000):xH z [.lst xs]=.ok (.str (ZX z ys)):=by simp only [xH,h,abn J]
def wB {t:TgD} {τ:FT} {ε:FE} {J:Sd} {xs ys:abC} (hf:xC t J=true) (L:xs.length<=1000000) (h:iy t τ ε J xs=.ok ys):fw t τ ε J xs=.ok (.lst ys):=by
 unfold fw;rw [abn ⟨hf,L⟩,h];rfl
def Dx {L:Type} {k:Nat} {ε:FE} {J:Sd} {as:List L} (u:L->D) (f:L->D) (hf:xC (.one k) J=true) (hl:as.length<=1000000) (h:∀ a∈as,ε (J.set k (some (u a)))=.ok (f a)):fw (.one k) de ε J (as.map u)=.ok (.lst (as.map f)):=by
 refine wB hf (by rw [iN];exact hl) ?_;clear hl;induction as with
 | nil=>rfl
 | cons a r Y =>
  have h1:=h a OR;have Y:=Y fun b hb=>h b (mK _ hb);show (ε (J.set k (some (u a)))).bind _=_;rw [h1];show (iy (.one k) de ε J (r.map u)).bind _=_;rw [Y];rfl
end
def Bi {J:Type} {M:Model} {A:VV} {E:abx} {s:iF} {b:Nat} (f:Nat->J->Sem (ForInStep J)) (I:Nat->J->iF->Prop) (Q:J->iF->Prop)
  (turn:∀ i c s,i < b->I i c s->Le M A (f i c) (fun r s'=>match r with|.yield b'=>I (i+1) b' s'|.done b'=>Q b' s') E s)
  (fin:∀ c s,I b c s->Q c s) (c:J) (h:I 0 c s):Le M A (forIn [0:b] c f) Q E s:=by
 rw [Std.Legacy.Range.forIn_eq_forIn_range'];have hsz:([0:b]:aaY).size=b:=by simp [Std.Legacy.Range.size]
 show Le M A (forIn (aa9 0 ([0:b]:aaY).size 1) c f) Q E s;rw [hsz];refine wpAny_forIn_list f (fun l c st=>∃ i,i<=b/\l=aa9 i (b - i) 1/\I i c st) Q ?_ ?_ _ c ⟨0,VY _,rfl,h⟩
 .rintro x rest c st ⟨i,hib,hl,hI⟩;have L:i < b:=by
   rcases ZM i b with h'|h'
   .exact h'
   .rw [show b - i=0 by omega] at hl;simp at hl
  obtain ⟨n,hn⟩:∃ n,b - i=n+1:=⟨b - i - 1,by omega⟩;rw [hn,ZE] at hl;obtain ⟨rfl,rfl⟩:=Zt hl;refine Wi (turn x c st (by omega) hI) (fun r Y h'=>?_) fun _ _ z=>z;cases r with
  | done c'=>exact h'
  | yield c'=>exact ⟨x+1,by omega,by congr 1;omega,h'⟩
 .rintro c st ⟨i,hib,hl,hI⟩
  have:i=b:=by
   rcases ZM i b with h'|h'
   .obtain ⟨n,hn⟩:∃ n,b - i=n+1:=⟨b - i - 1,by omega⟩;rw [hn,ZE] at hl;simp at hl
   .omega
  subst this;exact fin _ _ hI
def yP (l:Do) (items:abA) (n:Nat) (dd:Option Do) (sl:Array (Option gs)) (x:gs) (e:gs->Bool) (k:Nat) :
  Meets (Builtin.«tuple.index» ⟨[.ref l,x],[]⟩)
   (fun A R s=>s.heap.get? l=some { cls:=.type "tuple",dict:=dd,data:=.seq items.toArray n,slots:=sl }/\(∀ y,y∈items->abj A.in1 s y x (e y))/\(k < items.length/\(∀ y,items[k]?=some y->e y=true)/\∀ j y,j < k->items[j]?=some y->e y=false)/\R (.ok (.ret (.int (k:Nat) s.toks))) { s with toks:=s.toks+1 }) :=
 .of_wp fun prog w A R s h=>by
  obtain ⟨hp,g,d,tk,os⟩:=s;obtain ⟨hl,he,⟨hk0,L,Y⟩,h⟩:=h
  wp_walk using Xk hl,Bi _ (fun i b s'=>b.1=none/\s'=⟨hp,g,d,tk,os⟩/\i<=k) _
  case turn =>
   rintro i b s' hi ⟨hb,rfl,hik⟩;have J:i < items.length:=by omega
   have e1:items.toArray[i]?=some items[i]:=by simp [J]
   simp only [e1];refine bY (he _ (Xn J) prog w _ _ ?_);by_cases hki:i=k
   .subst hki;rw [L _ (BY J)]
    wp_walk
    exact ⟨_,rfl,h⟩
   .rw [Y i _ (by omega) (BY J)]
    wp_walk
    exact ⟨rfl,rfl,by omega⟩
  case fin =>
   rintro ⟨b1,b2⟩ s' ⟨hb,rfl,hik⟩;simp at hik;omega
  case h =>
   exact ⟨rfl,rfl,VY _⟩
section
variable {X:Cx} {W:Wd} {O:abu}
def Gc (x:V):abB->Option Nat
 | []=>none
 | y::ys=>if eqV y x=true then some 0 else (Gc x ys).map (·+1)
def yZ {x:V}:∀ {xs:abB} {us:abA} {k:Nat},bC xs us->xs.all gQ=true->Gc x xs=some k->k < us.length/\(∀ y,us[k]?=some y->yT x y=true)/\∀ j y,j < k->us[j]?=some y->yT x y=false
 | _,_,_,.nil,_,h=>by cases h
 | y::xs,u::us,k,.cons r t,f,h=>by
  rw [Wz,V4] at f;unfold Gc at h;split at h
  .rename_i e;cases h;refine ⟨by simp,fun J h'=>?_,fun j _ L _=>absurd L (Nat.not_lt_zero _)⟩;simp only [Ye,Zk] at h';subst h';rw [xV r f.1];exact e
  .rename_i e;cases q:Gc x xs with
   | none=>rw [q] at h;cases h
   | some k' =>
    rw [q] at h;cases h;obtain ⟨h1,h2,Y⟩:=yZ t f.2 q;refine ⟨by simpa using h1,fun J h'=>h2 J (by simpa using h'),fun j J L h'=>?_⟩;cases j with
    | zero =>
     simp only [Ye,Zk] at h';subst h';rw [xV r f.1];simpa using e
    | succ j=>exact Y j J (Yp L) (by simpa using h')
def UV (K:aT) (x:V) (xs:abB) (H:Hp) (Q:VK):Prop:=∃ p vs y k,x=.ref p/\xs=[y]/\mf K H p vs/\gQ y=true/\vs.all gQ=true/\Gc y vs=some k/\Q (.int (k:Nat)) H
def Gm:TV X "tuple.index" (UV X.K):=by
 intro af s Z H x xs v us Q I rx r h;obtain ⟨p,vs,y,k,rfl,rfl,hq,fy,fs,e,q⟩:=h;cases rx;obtain ⟨u,rfl,ry⟩:=kQ r;obtain ⟨its,Y,pl,hz⟩:=I.tuple hq;obtain ⟨⟨cls,dd,L,sl⟩,ho,J,n,hd⟩:=id pl;simp only at J hd;subst J hd;exact ZZ Zm ⟨_,ho,rfl⟩ PySem.F.entry_tuple_index (PySem.F.args_tuple_index_2 _ _) (yP p its n dd sl u (yT y) k) ⟨ho,fun z hz=>lz ry fy Y fs z hz,yZ Y fs e,⟨.int _,H,I.tok _,⟨_,rfl⟩,q⟩⟩
def Js (k:D) (ds:abC):R D:=match k,ds with
 | .tup xs,[d]=>match jy d,gd xs with
  | some v,some vs=>match Gc v vs with
   | some k=>.ok (.int (k:Nat))
   | none=>.no
  | _,_=>.no
 | _,_=>.no
def Bm (k:D) (α:FA):FE:=fun U=>(α U).bind fun ds=>Js k ds
def QS {k:D} {α:FA} {U:Sd}:Bm k α U=(α U).bind (Js k):=rfl
def wQ {x:Str} {d:D} {p:Do} {e:Wk} {α:FA} {apos cpos pos:Pos} (hm:X.mg x=some (.ref p)) (hd:∀ H,dF W.K H d (.ref p)) (hl:∃ ob,W.K.lookup p=some ob/\ob.cls=.type "tuple"/\ob.dict=none) (ha:JA X [e] (Cz W O α)) (hK:X.K=W.K:=by rfl) (hg:Gl X x:=by rfl) (hdb:abD x:=by decide)
  (J:WG (.Name x pos) "index" X.env (eval (.Name x pos) X.env)=eval (.Name x pos) X.env:=by rfl) (L:(apos.endLine==cpos.line)=true:=by rfl) (h1:[e].all bw=true:=by rfl) (Y:[e].length < 29:=by decide) :
  JE X (.Call (.Attribute (.Name x pos) "index" apos) [e] [] cpos) (tD W O (Bm d α)) :=
 (Mq PySem.F.plainAttrs_tuple Zm PySem.F.type_tuple_index Gm (Ih (v:=.ref p) hm rfl hg hdb) ha J L h1 Y).imp fun Z H Q hh=>gB hh fun as0 B own U I h=>by
  obtain ⟨ob,hl,hc,hdn⟩:=hl;refine ⟨.inr (.inl ⟨rfl,ob,by rw [hK];exact hl,hc,hdn⟩),as0,B,own,U,I,gP h fun ds xs H2 s2 d2 h2=>?_⟩;have dp:=hd (aP (own++as0) H2);unfold Js at h2;split at h2
  .rename_i ks d';obtain ⟨v,rfl,dv⟩:=iK d2;obtain ⟨p',vs,e0,q1,q2⟩:=dp;cases e0;split at h2
   .rename_i w ws e1 e2;split at h2
    .rename_i k e3
     have:=gW dv e1
     subst this;obtain ⟨h3,h4⟩:=oq q2 e2;subst h3;exact ⟨p,vs,v,k,rfl,rfl,by rw [hK];exact (aC _ _).seqT q1,sI e1,h4,e3,aR h2 rfl⟩
    .exact h2.elim
   .exact h2.elim
  .exact h2.elim
end
def hG {α:Type} [DecidableEq α] (ks:List α):List α:=ks.foldl (fun acc k=>if k∈acc then acc else acc++[k]) []
section
variable {α:Type} [DecidableEq α]
def u5 (ks:List α) (k:α):hG (ks++[k])=if k∈hG ks then hG ks else hG ks++[k]:=by unfold hG;rw [List.foldl_append];rfl
def Mf (ks:List α):(hG ks).length<=ks.length:=by
 have J:∀ n,(hG (ks.take n)).length<=n:=by
  intro n;induction n with
  | zero=>simp [hG]
  | succ n L =>
   rcases ZM n ks.length with h|h
   .rw [Wu h,u5];split
    .omega
    .rw [VU,W9];omega
   .rw [W0 (by omega)] at L ⊢;omega
 have:=J ks.length
 rwa [X3] at this
end
section
variable {prog:VH} {w:VZ} {A:VV} {R:Result->iF->Prop} {I:Do} {fp wr:abz} {G:Array GenState->Array GenState->Prop} {n:Nat} {P:Nat->gs->Prop} {St:Nat->iF->Prop}
variable {α:Type} [DecidableEq α] {knd:KeyKind prog w α}
def BA {h:Xj} {a:Do} {S J:α->Bool} {n n':Nat} (L:h.SetOf knd a S n) (e:∀ k,S k=J k) (en:n=n'):h.SetOf knd a J n':=by
 have:S=J:=funext e
 subst this;subst en;exact L
def GV (W:WalksS prog w A.in1 I fp wr G n P St) (S:Do) (hSf:S∉fp) (ks:List α) (hlen:ks.length=n)
  (hval:∀ i v,P i v->∀ k,ks[i]?=some k->knd.is k v=true/\v.scannable=true) (hb:n+1 < scanBound) :
  ∀ (m i:Nat) (s:iF),n - i=m->i<=n->St i s ->
   s.heap.SetOf knd S (fun J=>decide (J∈hG (ks.take i))) (hG (ks.take i)).length ->
   (∀ s',Moved (S::wr) G s s'->s'.heap.SetOf knd S (fun J=>decide (J∈hG ks)) (hG ks).length->R (.ok (.ret .none)) s') ->
   YU (VL prog w) A (.builtin "set.update.loop" ⟨[.ref S,.ref I],[]⟩) R s:=by
 have hSw:S∉wr:=fun h=>hSf (W.sub _ h);have L:∀ b∈wr,b∈S::wr:=fun b hb=>mK _ hb;intro m;induction m with
 | zero =>
  intro i s Y hi hst hS hR;have hin:i=n:=by omega
  subst hin;rw [<- hlen,X3] at hS;refine codeAny_builtin F.entry_set_update_loop ?_;rw [Z4 F.plain_set_update_loop _];show Le _ A.in1 (pyNext (.ref I) >>= _) _ _ s;refine bY (W.done s _ _ hst fun s' hm=>?_);show Le _ A.in1 (ret Wh) _ _ s';refine rW (hR s' (hm.mono L) ?_);obtain ⟨o,es,ep,t,ho,rest⟩:=hS;exact ⟨o,es,ep,t,hm.heap S _ hSw ho,rest⟩
 | succ m ih =>
  intro i s Y hi hst hS hR;have hlt:i < n:=by omega
  have hik:i < ks.length:=by omega
  refine codeAny_builtin F.entry_set_update_loop ?_;rw [Z4 F.plain_set_update_loop _];show Le _ A.in1 (pyNext (.ref I) >>= _) _ _ s;refine bY (W.item i s _ _ hlt hst fun v s' hP hst' hm=>?_);obtain ⟨hv1,hv2⟩:=hval i v hP ks[i] (BY hik);have hS':s'.heap.SetOf knd S (fun J=>decide (J∈hG (ks.take i))) (hG (ks.take i)).length:=by
   obtain ⟨o,es,ep,tb,ho,rest⟩:=hS;exact ⟨o,es,ep,tb,hm.heap S _ hSw ho,rest⟩
  show Le _ A.in1 (holding [v] (setAdd S v) >>= _) _ _ s';refine bY (W7 ?_);unfold setAdd;refine W7 ?_;refine bY (knd.pyHash hv1 ?_);have hroom:(hG (ks.take i)).length+1 < scanBound:=by
   have:=Mf (ks.take i)
   rw [Xc] at this;omega
  refine wpAny_setAddHashed_of (knd:=knd) (s:={ s' with toks:=s'.toks+1 }) hv1 hv2 hS' hroom fun h' hsb hS2=>?_;have hSi:h'.SetOf knd S (fun J=>decide (J∈hG (ks.take (i+1)))) (hG (ks.take (i+1))).length:=by
   rw [Wu hik,u5];refine BA hS2 (fun J=>?_) ?_
   .by_cases Y:ks[i]∈hG (ks.take i)
    .rw [abn Y];by_cases e:J=ks[i]
     .subst e;simp [Y]
     .simp [e]
    .rw [abo Y];simp [MK,Bool.decide_or]
   .by_cases Y:ks[i]∈hG (ks.take i)
    .simp [Y]
    .simp [Y]
  refine rW ⟨plainId_quiet F.plain_set_update_loop _,ih (i+1) _ (by omega) hlt (W.frame _ s' _ _ hst' (YM _) fun b hb o e=>?_) hSi fun s'' hm'' hS''=>?_⟩
  .rw [hsb.2 b (fun h:b=S=>hSf (by rw [<- h];exact hb))];exact e
  .refine hR s'' (Moved.trans W.gtrans ((hm.mono L).then_heap (YM _) fun b o hb e=>?_) hm'') hS'';rw [hsb.2 b (fun h:b=S=>hb (by rw [h];exact OR))];exact e
def wZ {E:abx} {s:iF} {l:Do} {items:Array gs} {ks:List α} {Q:abx}
  (hh:A.handled=none) (hl:s.heap.IsList l items) (hlen:ks.length=items.size) (hi:∀ (i:Nat) v,items[i]?=some v->∀ k,ks[i]?=some k->knd.is k v=true/\v.scannable=true) (hb:items.size+1 < scanBound)
  (h:∀ (h':Xj) (tk:Nat),h'.SetOf knd s.heap.objs.size (fun k'=>decide (k'∈hG ks)) (hG ks).length ->
   (∀ b o,b < s.heap.objs.size->s.heap.get? b=some o->h'.get? b=some o)->Q (.ref s.heap.objs.size) { s with heap:=h',toks:=tk }) :
  Le (VL prog w) A (call (.type "set") [.ref l]) Q E s:=by
 obtain ⟨c,tl,hmro⟩:=WT.mro;have hmade:=WT.made;have hsub:=WT.sub;refine wpAny_call (codeAny_of_tree ?_);show Le _ _ (callAny (.type "set") _) _ _ _;refine rW ⟨Code.quiet_builtin _ (by trivial),codeAny_builtin PySem.F.entry_type_call ?_⟩;rw [Around.under_plain (weight_type_call_type "set" [.ref l] []) rfl];have h1:=WT.notType;have h2:=WT.canCreate;have hct:=PySem.F.typeCall_set_1 (.ref l);repeat (any_goals (first|assumption|wp_step))
 refine Ya (code_set_new_1 (.ref l) (E:=E) (Q₁:=fun obj s₁=>∃ J:Bool,obj=.ref s.heap.objs.size/\s₁={ s with heap:=s.heap.push { cls:=.type "set",dict:=none,data:=.set #[] 0 (.fresh 0 0 J) } }) fun J=>⟨J,rfl,rfl⟩) fun r s₁ hr=>?_;cases r with
 | error e=>exact hr
 | ok fl =>
  cases fl with
  | ret obj =>
   obtain ⟨J,rfl,rfl⟩:=hr;have hS:(s.heap.push { cls:=.type "set",dict:=none,data:=.set #[] 0 (.fresh 0 0 J) }).get? s.heap.objs.size=some { cls:=.type "set",dict:=none,data:=.set #[] 0 (.fresh 0 0 J) }:=CT _ rfl;have hT:Shared.TypeIs { s with heap:=s.heap.push { cls:=.type "set",dict:=none,data:=.set #[] 0 (.fresh 0 0 J) } } (.ref s.heap.objs.size) "set":=⟨_,hS,rfl⟩;have hli:=WT.init.lookup;have hbi:=WT.init.bind (.ref s.heap.objs.size);repeat (any_goals (first|assumption|wp_step))
   refine Ya (codeAny_call_builtin (R:=wants (fun r s₂=>r=.none/\∃ h' tk,s₂={ s with heap:=h',toks:=tk } /\
     h'.SetOf knd s.heap.objs.size (fun k'=>decide (k'∈hG ks)) (hG ks).length /\
     (∀ b o,b < s.heap.objs.size->s.heap.get? b=some o->h'.get? b=some o)) E) WT.init.plain PySem.F.entry_set_init (check_set_init_1 hT ?_)) fun r₂ s₂ L=>?_
   .obtain ⟨ol,hol,hcl,nl,hdl⟩:=hl;obtain ⟨ocls,odict,odata,Y⟩:=ol;simp only at hcl hdl;subst hcl;subst hdl;have hol':(s.heap.push { cls:=.type "set",dict:=none,data:=.set #[] 0 (.fresh 0 0 J) }).get? l=some { cls:=.type "list",dict:=odict,data:=.seq items nl,slots:=Y }:=dO _ hol;have hsls:=PySem.F.sub_list_set;have hslf:=PySem.F.sub_list_frozenset;have hne:(YK "list"==YK "dict")=false:=by decide
    have hl1:(s.heap.push { cls:=.type "set",dict:=none,data:=.set #[] 0 (.fresh 0 0 J) }).IsList l items:=⟨_,hol',rfl,nl,rfl⟩;unfold Builtin.«set.__init__» noKeywords Builtin.Frozenset.updateFrom;generalize hPI:aaB=PI
    wp_walk
    subst hPI;refine wpAny_pyIter_list hl1 ?_;refine bY (wpAny_runValue ?_);have hlS:l < s.heap.objs.size:=ID hol;have hh3:A.in1.in1.in1.handled=none:=by simp [hh]
    have hneI:l≠(s.heap.push { cls:=.type "set",dict:=none,data:=.set #[] 0 (.fresh 0 0 J) }).objs.size:=by
     rw [Wy];exact VI (Xy hlS)
    have hSf:s.heap.objs.size∉[(s.heap.push { cls:=.type "set",dict:=none,data:=.set #[] 0 (.fresh 0 0 J) }).objs.size,l]:=by
     rw [Wy];simp only [nE,VM,VQ,or_false,not_or];exact ⟨VI (XG _),Y6 hlS⟩
    refine GV (knd:=knd) ((Walks.list hh3 _ l hneI items).toS) s.heap.objs.size
     hSf ks hlen hi hb (items.size - 0) 0 _ (by omega) (VY _)
     ⟨⟨_,CT _ rfl,rfl,rfl⟩,(hl1.push _)⟩ ?hS0 ?hR
    case hS0 =>
     have hget:((s.heap.push { cls:=.type "set",dict:=none,data:=.set #[] 0 (.fresh 0 0 J) }).push { cls:=.type "list_iterator",data:=.fields #[.ref l,.int 0 0] }).get? s.heap.objs.size
       = some { cls:=.type "set",dict:=none,data:=.set #[] 0 (.fresh 0 0 J) }:=dO _ hS
     exact BA ((setObjOf_fresh (knd:=knd) J).setOf hget (by unfold scanBound;omega)) (fun _=>by simp [hG]) (by simp [hG])
    case hR =>
     intro s' hm hS';obtain ⟨h',g',d',tk',os'⟩:=s';have eg:g'=s.gens:=hm.gens;have ed:d'=s.drawn:=hm.drawn;have eo:os'=s.os:=hm.os;subst eg;subst ed;subst eo;show Le _ _ _ _ _ _;refine rW ?_;show Le _ _ (ret Wh) _ _ _;refine rW ⟨rfl,h',tk',rfl,hS',fun b o hb e=>?_⟩;have hb1:b≠s.heap.objs.size:=VI hb;have hb2:b≠(s.heap.push { cls:=.type "set",dict:=none,data:=.set #[] 0 (.fresh 0 0 J) }).objs.size:=by
      rw [Wy];exact VI (Xy hb)
     exact hm.heap b o (by simp only [nE,VM,VQ,or_false,not_or];exact ⟨hb1,hb2⟩) (dO _ (dO _ e))
   .cases r₂ with
    | error e=>exact L
    | ok fl₂ =>
     cases fl₂ with
     | ret r =>
      obtain ⟨rfl,h',tk,rfl,hS',hk'⟩:=L;repeat (any_goals (first|assumption|wp_step))
      exact h _ _ hS' hk'
     | _=>exact L.elim
  | _=>exact hr.elim
end
section
variable {X:Cx} {W:Wd} {O:abu}
def MB (K:aT) (t:TA):TE:=fun Z H Q=>t Z H fun vs H1=>∃ a ys,vs=[.ref a]/\iA K H1 a (ys.map V.str)/\ys.length<=1000/\Q (.int ((hG ys).length:Nat)) H1
def Gn {e:Wk} {t:TA} {p1 p2 pos1 pos:Pos} (hc:X.calm=true) (hm1:X.mg "len"=none) (hm2:X.mg "set"=none) (ha:PA X [e] t) (hg1:Gl X "len":=by rfl) (hg2:Gl X "set":=by rfl)
  (he:V2 [e] X.env=(false,eval e X.env)::V2 [] X.env:=by rfl) (hpl:(X9 pos1 (V2 [] X.env)).any (·.1)=false:=by rfl)
  (Y:V2 [.Call (.Name "set" p2) [e] [] pos1] X.env=(false,eval (.Call (.Name "set" p2) [e] [] pos1) X.env)::V2 [] X.env:=by rfl) (hpl':(X9 pos (V2 [] X.env)).any (·.1)=false:=by rfl) :
  PE X (.Call (.Name "len" p1) [.Call (.Name "set" p2) [e] [] pos1] [] pos) (MB X.K t):=by
 intro af s Z H Q I h;refine Wt (ox I hg1 hm1 bW ?_ (by decide) (by decide));refine YA ?_ Y hpl';rw [Y];show Le _ _ (spliced ((false,eval (.Call (.Name "set" p2) [e] [] pos1) X.env)::X9 pos (V2 [] X.env))) _ _ s;refine aav ?_;refine Wt (ox I hg2 hm2 OH ?_ (by decide) (by decide));refine WR (eO (ha pos1 af s Z H _ I h) fun us s1 hh=>qQ hh fun vs H1 I1 r1 q1=>?_) he hpl;obtain ⟨a,ys,rfl,hq,hl,q⟩:=q1;obtain ⟨u,rfl,ru⟩:=kQ r1;cases ru;obtain ⟨its,rv,pl,hz⟩:=I1.list hq;have L:its.length=ys.length:=by rw [<- rv.length,iN]
 have hsb:scanBound=4096:=rfl;refine bi I1.tk (wZ (knd:=strKind X.prog X.w) (ks:=ys) (I1.ok.hd hc) pl.isList (by simp [L]) (fun i v hv k hk=>?_) (by rw [hsb];simp;omega) fun h' tk hS J htk=>?_)
 .have hv':its[i]?=some v:=by simpa using hv
  obtain ⟨u,hu,ru⟩:=rv.get (show (ys.map V.str)[i]?=some (.str k) by rw [V0,hk];rfl);rw [hv'] at hu;cases hu;obtain ⟨t',rfl⟩:=ru;exact ⟨strKind_is _ _ _ _,rfl⟩
 .refine aaH ?_;obtain ⟨o,es,ep,t',ho,hex,hd,hel,hmem,hb',hf,hn⟩:=hS;have I2:Inv X af Z H1 { s1 with heap:=h',toks:=tk }:=I1.kept fun b u e=>J b u (ID e) e;refine call_len_set ho hex hd hf (by rw [hsb] at hb';omega) ⟨.int _,H1,I2.tok _,⟨_,rfl⟩,?_⟩;rw [hn];exact q
def qS (ds:abC):R D:=match ds with
 | [.lst xs]=>match su xs with
  | some ys=>if ys.length<=1000 then .ok (.int ((hG ys).length:Nat)) else .no
  | none=>.no
 | _=>.no
def JZ {e:Wk} {p1 p2 pos1 pos:Pos} {α:FA} (Y:X.mg "len"=none) (L:X.mg "set"=none) (ha:JA X [e] (Cz W O α)) (hK:X.K=W.K:=by rfl) (hc:X.calm=true:=by rfl) (hg1:Gl X "len":=by rfl) (J:Gl X "set":=by rfl) (h1:bw e=true:=by rfl) :
  JE X (.Call (.Name "len" p1) [.Call (.Name "set" p2) [e] [] pos1] [] pos) (tD W O (aj qS α)) :=
 (JE.mk (Gn (p1:=p1) (p2:=p2) (pos1:=pos1) (pos:=pos) hc Y L ha.out hg1 J (dl h1) rfl rfl rfl)).imp fun Z H Q hh=>gB hh fun as0 B own U I h=>⟨as0,B,own,U,I,gP h fun ds xs H2 s2 d2 h2=>by
  unfold qS at h2;split at h2
  .obtain ⟨v,rfl,d1⟩:=iK d2;obtain ⟨p,vs,rfl,q1,q2⟩:=d1;split at h2
   .rename_i ys e;split at h2
    .rename_i hl;refine ⟨p,ys,rfl,?_,hl,aR h2 rfl⟩;rw [<- uO q2 e,hK];exact (aC _ _).seq q1
    .exact h2.elim
   .exact h2.elim
  .exact h2.elim⟩
end
section
variable {X:Cx} {W:Wd} {O:abu} {b:Wk} {ψ:FE} {x:Str} {p1 pos:Pos} {op:CmpOp}
def F7 (K:aT) (f:Bool->Bool) {i:Nat} (hi:i∈O) (hW:W.K=K) {Z:St} {H:Hp} {Q:VK} {as0 own:abz} {B:Hp} {U:Sd} (I:DI W.K as0 B O own Z U H) (h:dI W (own++as0) H (av (fun a b=>lW (wz a b) f) (ag i) ψ U) Q):D9 (Ad K f) (Ab i) (tD W O ψ) Z H Q:=by
 obtain ⟨a,Y⟩:=fc I.olen hi;obtain ⟨d,o,h1,h2,h3,h4⟩:=I.owns i a Y;have hv:ag i U=.ok d:=by unfold ag;rw [h1]
 have h':dI W (own++as0) H ((ψ U).bind fun y=>lW (wz d y) f) Q:=by
  have e:av (fun a b=>lW (wz a b) f) (ag i) ψ U=(ψ U).bind fun y=>lW (wz d y) f:=by unfold av;rw [hv];rfl
  rw [<- e];exact h
 have e0:D9 (Ad K f) (Ab i) (tD W O ψ) Z H Q=yk Z[i]? H (R1 (Ad K f) (tD W O ψ) Z Q):=rfl;rw [e0,h2];subst hW;refine ⟨as0,B,own,U,I,bS h' fun y u H2 s2 d2 J=>?_⟩;have L:a∈own:=(V5 Y).2;have od:oC W.K (aP [a] H2) o d:=h4.mono ((qz fun b hb=>by
  rw [VM.mp hb];exact Wc _ L).trans (bh s2))
 have dd:dF W.K H2 d (.ref a):=by
  have:=od.den (as:=[]) (by simp) (s2 _ _ h3)
  rwa [Bv] at this
 cases e:wz d y with
 | none=>rw [e] at J;exact J.elim
 | some k =>
  rw [e] at J;exact ⟨d,y,k,dd,d2.mono (aC _ _),e,aR J rfl⟩
def Fp (K:aT) (f:Bool->Bool) {i:Nat} (hi:i∈O) (ho:ga X (VT op) (Ad K f)) (hb:JE X b (tD W O ψ)) (hm:Xp op b=false) (Y:X.N[i]?=some x:=by rfl) (hv:Ev X.env.scope x:=by walk_at"v") (hd:abD x:=by decide)
  (J:(x==("__classdict__":Str))=false:=by decide) (hW:W.K=K:=by rfl):JT X (.Compare (.Name x p1) [op] [b] pos) (uN W O (bV (av (fun a b=>lW (wz a b) f) (ag i) ψ))) :=
 (Kx ho (jv i Y hv hd J) hb hm).imp fun Z H Q hh=>gB hh fun as0 B own U I h=>F7 K f hi hW (Q:=NQ Q) I (iV h fun z w H3 s3 d3 L=>by
  cases z with
  | bl k=>cases d3;exact L H3 (aH.refl _)
  | _=>exact L.elim)
end
end L2
namespace LT
open PySem PyProof.Rows PySem.SeqAt
open PySem.AutoSeq1 (wpAny_loadPart')
open PySem.MeetsSeq PySem.MeetsSeq2 PySem.MeetsSeq3
def LtAt (A:VV) (s:iF) (y x:gs) (b:Bool):Prop :=
 ∀ (prog:VH) (w:VZ) (E:abx) (Q:abx),Q (.bool b) s->Le (VL prog w) A (richCompare .Lt y x) Q E s
inductive Lx (A:VV) (s:iF):abA->abA->Bool->Prop
 | nn:Lx A s [] [] false
 | nc {y:gs} {ys:abA}:Lx A s [] (y::ys) true
 | cn {x:gs} {xs:abA}:Lx A s (x::xs) [] false
 | eq {x y:gs} {xs ys:abA} {b:Bool} (h:EqAt A s x y true) (t:Lx A s xs ys b):Lx A s (x::xs) (y::ys) b
 | ne {x y:gs} {xs ys:abA} {b:Bool} (h:EqAt A s x y false) (t:LtAt A s x y b):Lx A s (x::xs) (y::ys) b
def IR (l b:Do) (items J:Array gs) (n n2:Nat) (dd dd2:Option Do) (sl sl2:Array (Option gs)) (r:Bool) :
  Meets (Builtin.«tuple.__lt__» ⟨[.ref l,.ref b],[]⟩)
   (fun A R s=>s.heap.get? l=some { cls:=.type "tuple",dict:=dd,data:=.seq items n,slots:=sl }/\s.heap.get? b=some { cls:=.type "tuple",dict:=dd2,data:=.seq J n2,slots:=sl2 } /\
    Lx A.in1 s items.toList J.toList r/\R (.ok (.ret (.bool r))) s) :=
 .of_wp fun prog w A R s h=>by
  obtain ⟨hp,g,d,tk,os⟩:=s;obtain ⟨hl,hb,L,h⟩:=h;have f2:=AutoSeq1.sub_tuple_tuple
  wp_walk using Xk hl,Xk hb,wpAny_forIn_list _ (fun rest b s'=>b.1=none/\s'=⟨hp,g,d,tk,os⟩/\∃ (vs ws:abA) , rest=vs.zip ws /\
   Lx A.in1 ⟨hp,g,d,tk,os⟩ vs ws r/\vs.length+J.size=ws.length+items.size) _
  case turn =>
   rintro ⟨y,x⟩ rest b s' ⟨hb',rfl,vs,ws,hz,L,hlen⟩;cases L with
   | nn=>cases hz
   | nc=>cases hz
   | cn=>rw [List.zip_nil_right] at hz;cases hz
   | eq Y ht =>
    rw [Wp] at hz;injection hz with hyx hrest
    injection hyx with hy L
    subst hy L;simp only [V3] at hlen;refine bY (Y prog w _ _ ?_)
    wp_walk
    exact ⟨rfl,rfl,_,_,hrest,ht,by omega⟩
   | ne Y ht =>
    rw [Wp] at hz;injection hz with hyx hrest
    injection hyx with hy L
    subst hy L;refine bY (Y prog w _ _ ?_);have hri:=ht prog w
    wp_walk using hri
    exact ⟨_,rfl,by simpa using h⟩
  case fin =>
   rintro ⟨b1,b2⟩ s' ⟨hb',rfl,vs,ws,hz,L,hlen⟩;simp only at hb';subst hb';have hv:r=decide (items.size < J.size):=by
    cases L with
    | nn=>simp only [YN] at hlen;exact (abp (by omega)).symm
    | nc=>simp only [YN,V3] at hlen;exact (abq (by omega)).symm
    | cn=>simp only [YN,V3] at hlen;exact (abp (by omega)).symm
    | eq Y ht=>rw [Wp] at hz;cases hz
    | ne Y ht=>rw [Wp] at hz;cases hz
   rw [hv] at h
   wp_walk
   exact ⟨_,rfl,by simpa [Builtin.Tuple.tupleCompareSizes] using h⟩
  case h =>
   exact ⟨rfl,rfl,items.toList,J.toList,rfl,L,by simp;omega⟩
def LtAt.tup {A:VV} {s:iF} {l b:Do} {items J:Array gs} {r:Bool} (hl:YE s.heap l items) (hb:YE s.heap b J) (hx:Lx A.in1 s items.toList J.toList r) (hu:A.units < YX):LtAt A s (.ref l) (.ref b) r:=fun prog w E Q h=>by
 obtain ⟨⟨cls,dd,data,sl⟩,ho,hc,n,hd⟩:=id hl;obtain ⟨⟨cls2,dd2,data2,sl2⟩,L,hc2,n2,Y⟩:=id hb;simp only at hc hd hc2 Y;subst hc hd hc2 Y;exact richCompare_meets_room (op:=.Lt) ⟨_,ho,rfl⟩ ⟨_,L,rfl⟩ PySem.F.slot_tuple_lt PySem.F.entry_tuple_lt (PySem.F.args_tuple_lt_2 _ _) (IR l b items J n n2 dd dd2 sl sl2 r)
  ⟨ho,L,hx,show ZV r≠Value.notImplemented/\Q (.bool r) s from ⟨(fun x=>nomatch x),h⟩⟩ hu
def LtAt.int {A:VV} {s:iF} (a:Int) (t:Tok) (c:Int) (u:Tok):LtAt A s (.int a t) (.int c u) (decide (a < c)):=fun prog w E Q h=>(PyProof.Rows.lt_int h:Le (VL prog w) A (VT .Lt (.int a t) (.int c u)) Q E s)
def LtAt.str {A:VV} {s:iF} (a:Str) (t:Tok) (c:Str) (u:Tok):LtAt A s (.str a t) (.str c u) (decide (a.cps.toList < c.cps.toList)):=fun prog w E Q h=>(PyProof.Rows.lt_str h:Le (VL prog w) A (VT .Lt (.str a t) (.str c u)) Q E s)
end LT
namespace L2
open PySem PySem.Spec PyProof.Rows
def Qr (tab:List (Str×D)) (d:D):R D:=match d with
 | .str x=>(match tab.lookup x with
  | some d=>.ok d
  | none=>.no)
 | _=>.no
section
variable {X:Cx} {W:Wd} {O Ob:abu} {e:Wk} {φ:FE} {pos p1:Pos}
def Lm (tab:List (Str×D)) {x:Str} {a:Do} {es:Array DictEntry} {n:Nat} (hm:X.mg x=some (.ref a)) (L:X.K.lookup a=some ⟨.type "dict",none,.dict es n,#[]⟩) (Y:YS X.w.params es.toList)
  (hv:∀ y d,tab.lookup y=some d->∃ v u,VN X.K a y=some (some u)/\bq v u/\∀ H,dF W.K H d v) (he:JE X e (tD W O φ)) (hg:Gl X x:=by rfl) (J:abD x:=by decide) (hs:Ip e:=by exact fun _ _=>rfl) :
  JE X (.Subscript (.Name x p1) e pos) (tD W O (Fg (Qr tab) φ)):=⟨by
 intro af s Z H Q I0 ⟨as0,B,own,U,I,h⟩;refine Fj Zb.lookup hs (qP I0 hg hm (eO (he.out af s Z H (fun v H1=>∃ y d,v=.str y/\tab.lookup y=some d/\dI W (own++as0) H1 (.ok d) Q) I0 ⟨as0,B,own,U,I,bS h fun y v H2 s2 d2 h2=>?_⟩) fun iv s2 ⟨yv,H2,I2,ry,y,d,ey,q1,q2⟩=>?_) J)
 .unfold Qr at h2;cases y with
  | str x =>
   cases d2;simp only at h2;cases q:tab.lookup x with
   | none=>rw [q] at h2;exact h2.elim
   | some d=>rw [q] at h2;exact ⟨x,d,rfl,q,h2⟩
  | _=>exact h2.elim
 .subst ey;obtain ⟨t,rfl⟩:=ry;obtain ⟨v,u,h1,h2,h3⟩:=hv y d q1;obtain ⟨m,F⟩:=I2.fr;refine ⟨(aba (prog:=X.prog) (w:=X.w) I2.kIn L Y).typeIs,PySem.W.topGetDict_K F I2.mod.kin L Y h1 ⟨v,H2,I2.tok _,h2,q2 v H2 (aH.refl _) (h3 _)⟩⟩⟩
end
def tab_of {P:Str->D->Prop}:∀ {tab:List (Str×D)},(∀ p∈tab,P p.1 p.2)->∀ {y:Str} {d:D},tab.lookup y=some d->P y d
 | [],_,_,_,e=>by cases e
 | p::r,h,y,d,e=>by
  rw [WY] at e;cases hb:y==p.1 with
  | true =>
   rw [hb] at e;have e:some p.2=some d:=e;cases e
   have:y=p.1:=eq_of_beq hb
   rw [this];exact h p OR
  | false=>rw [hb] at e;exact tab_of (fun q J=>h q (mK _ J)) e
end L2
namespace LX
open PySem PySem.AutoSeq1
open PySem.MeetsSeq PySem.MeetsSeq2 PySem.MeetsSeq3
def extend_list (l:Do) (items:Array gs) (n:Nat) (b:Do) (J:Array gs) (n2:Nat) (dd:Option Do) (sl:Array (Option gs)) (hc0:¬(!items.isEmpty&&WK (items.size+J.size))=true) (hc1:items.size<=IF) (Y:items.size+J.size<=IF+1) :
  Meets (Builtin.«list.extend» ⟨[.ref l,.ref b],[]⟩) (fun _ R s=>s.heap.get? l=some { cls:=.type "list",dict:=none,data:=.seq items n,slots:=#[] }/\s.heap.get? b=some { cls:=.type "list",dict:=dd,data:=.seq J n2,slots:=sl }/\R (.ok (.ret Wh)) { s with heap:=s.heap.update l (VW fun x=>x++J),toks:=s.toks }) :=
 .of_wp fun prog w A R s h=>by
  obtain ⟨hp,g,d,tk,os⟩:=s;obtain ⟨hl,hb,h⟩:=h;have f1:=idx_int;have f2:=sub_tuple_tuple;have f3:=sub_list_list;have f4:=sub_tuple_list;have f5:=sub_list_tuple;have L:(items++J).size<=IF+1:=by rw [aaL];exact Y
  wp_walk using (wpAny_updateSeq hl rfl (hz:=hc1) (_hz':=L)),Xk hl,Xk hb;exact ⟨_,rfl,h⟩
def Ay (l:Do) (items:Array gs) (n:Nat) (b:Do) (J:Array gs) (n2:Nat) (dd:Option Do) (sl:Array (Option gs)) (hc0:¬(!items.isEmpty&&WK (items.size+J.size))=true) (hc1:items.size<=IF) (Y:items.size+J.size<=IF+1) :
  Meets (Builtin.«list.extend» ⟨[.ref l,.ref b],[]⟩) (fun _ R s=>s.heap.get? l=some { cls:=.type "list",dict:=none,data:=.seq items n,slots:=#[] }/\s.heap.get? b=some { cls:=.type "tuple",dict:=dd,data:=.seq J n2,slots:=sl }/\R (.ok (.ret Wh)) { s with heap:=s.heap.update l (VW fun x=>x++J),toks:=s.toks }) :=
 .of_wp fun prog w A R s h=>by
  obtain ⟨hp,g,d,tk,os⟩:=s;obtain ⟨hl,hb,h⟩:=h;have f1:=idx_int;have f2:=sub_tuple_tuple;have f3:=sub_list_list;have f4:=sub_tuple_list;have f5:=sub_list_tuple;have L:(items++J).size<=IF+1:=by rw [aaL];exact Y
  wp_walk using (wpAny_updateSeq hl rfl (hz:=hc1) (_hz':=L)),Xk hl,Xk hb;exact ⟨_,rfl,h⟩
end LX
namespace L2
open PySem PySem.Spec PyProof.Rows
section
variable {X:Cx}
def Bw (K:aT):V->abB->Hp->VK->Prop:=fun x vs H Q=>∃ l b xs zs,x=.ref l/\vs=[.ref b]/\H l=some (.lst xs)/\(iA K H b zs\/mf K H b zs)/\xs.length+zs.length<=IF/\Q .non (upd H l (.lst (xs++zs)))
def DR:VB X "list.extend" (Bw X.K):=by
 intro af s Z H x vs v us Q I rx rv h;obtain ⟨l,b,xs,zs,rfl,rfl,hH,hB,hz,q⟩:=h;cases rx;obtain ⟨u,rfl,ru⟩:=rv.one;cases ru;obtain ⟨z,its,n,r,hl,e⟩:=I.lstM hH;rcases hB with hB|hB
 .obtain ⟨J,r2,pl,hz2⟩:=I.list hB;obtain ⟨⟨cls,dd,data,sl⟩,ho,Y,n2,hd⟩:=pl.isList;simp only at Y hd;subst Y hd;have hl2:=r2.length;have hsz:its.toArray.size+J.toArray.size<=IF:=by rw [tx,tx];omega
  have L:¬ (!its.toArray.isEmpty&&WK (its.toArray.size+J.toArray.size))=true:=by
   rw [CM hsz,Bool.and_false];exact lT
  refine ZZ F.slot_list_extend ⟨_,e,rfl⟩ F.entry_list_extend (F.args_list_extend_2 _ _) (LX.extend_list l its.toArray n b J.toArray n2 dd sl L (by rw [tx];omega) (by omega)) ⟨e,ho,?_⟩;refine ⟨.non,_,I.lset (its':=its++J) hH e (by simp) (r.append r2) ?_,rfl,q⟩;rw [VU];omega
 .obtain ⟨J,r2,pl,hz2⟩:=I.tuple hB;obtain ⟨⟨cls,dd,data,sl⟩,ho,Y,n2,hd⟩:=pl;simp only at Y hd;subst Y hd;have hl2:=r2.length;have hsz:its.toArray.size+J.toArray.size<=IF:=by rw [tx,tx];omega
  have L:¬ (!its.toArray.isEmpty&&WK (its.toArray.size+J.toArray.size))=true:=by
   rw [CM hsz,Bool.and_false];exact lT
  refine ZZ F.slot_list_extend ⟨_,e,rfl⟩ F.entry_list_extend (F.args_list_extend_2 _ _) (LX.Ay l its.toArray n b J.toArray n2 dd sl L (by rw [tx];omega) (by omega)) ⟨e,ho,?_⟩;refine ⟨.non,_,I.lset (its':=its++J) hH e (by simp) (r.append r2) ?_,rfl,q⟩;rw [VU];omega
end
section
variable {X:Cx} {W:Wd} {Ob O:abu} {e f:Wk} {ε φ ψ:FE} {pos p1 p2 apos cpos:Pos} {x:Str}
def E9 (d:D):Option (abC):=match d with
 | .lst ys=>some ys
 | .tup ys=>some ys
 | _=>none
def oI (i:Nat) (ε:FE):FS:=fun U=>match U[i]? with
 | some (some (.lst xs))=>(ε U).bind fun d=>match E9 d with
  | some ys=>if xs.length+ys.length<=1000000 then .ok (.nx (U.set i (some (.lst (xs++ys))))) else .no
  | none=>.no
 | _=>.no
def GZ {K:aT} {H:Hp} {d:D} {ys:abC} {v:V} (h:dF K H d v) (e:E9 d=some ys):∃ b zs,v=.ref b/\(iA K H b zs\/mf K H b zs)/\aN K H ys zs:=by
 cases d with
 | lst xs=>cases e;obtain ⟨a,vs,rfl,h1,h2⟩:=h;exact ⟨a,vs,rfl,.inl h1,h2⟩
 | tup xs=>cases e;obtain ⟨a,vs,rfl,h1,h2⟩:=h;exact ⟨a,vs,rfl,.inr h1,h2⟩
 | _=>cases e
def He {i:Nat} (hi:i∈O) (he:JE X e (tD W O ε)) (hN:X.N[i]?=some x:=by rfl) (hn:bw e=true:=by rfl) (Y:(apos.endLine==cpos.line)=true:=by rfl) (hv:Ev X.env.scope x:=by walk_at"v") (hd:abD x:=by decide)
  (hcd:(x==("__classdict__":Str))=false:=by decide) (L:WG (.Name x p1) "extend" X.env (eval (.Name x p1) X.env)=eval (.Name x p1) X.env:=by rfl)
  (hs:XN (.Call (.Attribute (.Name x p1) "extend" apos) [e] [] cpos) none pos.line X.env=pure false:=by rfl) (hW:W.K=X.K:=by rfl) :
  JS X (.Expr (.Call (.Attribute (.Name x p1) "extend" apos) [e] [] cpos) pos) (sD W Ob O O (oI i ε)) :=
 (EE (Mq Yf PySem.F.slot_list_extend PySem.F.type_list_extend DR (jv i hN hv hd hcd) (rq he vv hn) L Y (by rw [Wz,hn];rfl) (by show 1 < 29;decide)) hs).imp fun D Z H hh=>gB hh fun as0 B own U I h=>by
  obtain ⟨a,ha⟩:=fc I.olen hi;obtain ⟨d,o,h1,h2,h3,h4⟩:=I.owns i a ha;show yk Z[i]? H (fun x H1=>TU X.K "list" x H1/\tD W O ε Z H1 fun v H2=>Bw X.K x [v] H2 (fun _ H3=>D.nx Z H3));rw [h2];unfold oI at h;rw [h1] at h;cases d with
  | lst ds =>
   obtain ⟨xs,rfl,q⟩:=h4;refine ⟨.inl ⟨rfl,xs,iA.of h3⟩,as0,B,own,U,I,i9 I h fun y v H2 s2 d2 J=>?_⟩;cases ey:E9 y with
   | none=>rw [ey] at J;exact J.elim
   | some ys =>
    rw [ey] at J;have J:gu W as0 B Ob O (if ds.length+ys.length<=1000000 then .ok (.nx (U.set i (some (.lst (ds++ys))))) else .no) D:=J;split at J
    .rename_i hl;obtain ⟨b,zs,rfl,hb,hz⟩:=GZ d2 ey;have hm:=fI;refine ⟨a,b,xs,zs,rfl,rfl,s2 _ _ h3,?_,?_,?_⟩
     .rw [hW] at hb;exact hb.imp (fun z=>(aC _ _).seq z) fun z=>(aC _ _).seqT z
     .have:=q.len;have:=hz.len;omega
     .exact J own Z _ ((I.mono s2).mutate ha ⟨xs++zs,rfl,(q.mono (bh s2)).append hz⟩)
    .exact J.elim
  | _=>exact h.elim
def IY (K:aT) {i:Nat} (hi:i∈O) (hm:X.mg "tuple"=none) (hN:X.N[i]?=some x:=by rfl) (hg:Gl X "tuple":=by rfl) (Y:Ev X.env.scope x:=by walk_at"v") (hd:abD x:=by decide)
  (J:(x==("__classdict__":Str))=false:=by decide) (hK:X.K=K:=by rfl) (hW:W.K=K:=by rfl):JE X (.Call (.Name "tuple" p2) [.Name x p1] [] pos) (tD W O (aj uP (ab (ag i) am))) :=
 (AV (Ep K hK) hm ip (rq (jv i hN Y hd J) vv) hg).imp fun Z H Q hh=>gB hh fun as0 B own U I h=>by
  obtain ⟨a,ha⟩:=fc I.olen hi;obtain ⟨d,o,h1,h2,h3,h4⟩:=I.owns i a ha;show yk Z[i]? H (fun v H1=>Al K [v] H1 Q);rw [h2];have Y:ag i U=.ok d:=by unfold ag;rw [h1]
  have h':dI W (own++as0) H (uP [d]) Q:=by
   have e:aj uP (ab (ag i) am) U=uP [d]:=by unfold aj ab am;rw [Y];rfl
   rw [<- e];exact h
  cases d with
  | lst ds =>
   obtain ⟨xs,rfl,q⟩:=h4;refine .inl ⟨xs,iA.of h3,fun l L=>?_⟩;have hn:=I.new L;exact h' _ _ (bn L _) ⟨l,xs,rfl,.inl (.inl (by rw [bc hn];exact a9)),q.mono (bh (bn L _))⟩
  | _=>first|exact h4.elim|exact h'.elim
end
structure Nw (X:Cx) (af:abw) (b:Do):Prop where
 base:X.s₀.heap.get? b=none
 loc:b≠X.env.locals
 fs:b∉X.fs
 cell:∀ x c,X.env.cells.lookup x=some c->c≠b
 pin:∀ p∈X.pn++af,p.1≠b
section
variable {X:Cx} {af:abw} {Z:St} {H:Hp} {s:iF}
def Inv.track {y:Do} {o:HO} (I:Inv X af Z H s) (n:Nw X af y) (hy:H y=none) (new:cc X.prog X.w (upd H y o) s.heap y o):Inv X af Z (upd H y o) s:=by
 have L:aH H (upd H y o):=bn hy o;refine ⟨I.ok,I.os,I.bare,⟨I.base.keep,I.base.slot,fun b Y e n0 hx=>?_,I.base.there,fun b xs e=>L _ _ (I.base.tups b xs e),fun b Y u e=>L _ _ (I.base.frzs b Y u e),fun b ps e=>?_⟩,I.loc,I.cell,?_,fun x c e=>?_,fun p hp=>?_,fun a u e=>?_,I.len,I.tk⟩
 .have:b≠y:=fun z=>by rw [z,n.base] at e;cases e
  rw [aU this];exact I.base.free b Y e n0 hx
 .obtain ⟨J,q⟩:=I.base.tbls b ps e;exact ⟨J,L _ _ q⟩
 .rw [aU (X5 n.loc)];exact I.free
 .rw [aU (n.cell x c e)];exact I.freeC x c e
 .obtain ⟨h1,h2,h3⟩:=I.pin p hp;exact ⟨h1,by rw [aU (n.pin p hp)];exact h2,h3⟩
 .by_cases ha:a=y
  .subst ha;have e':u=o:=by unfold upd at e;rw [abn rfl] at e;exact (VS e).symm
   rw [e'];exact new
  .rw [aU ha] at e;exact (I.hok a u e).stay (fun _ _ _ q=>q) (fun b q=>L _ _ q) fun b xs q=>L _ _ q
end
abbrev SJ (K:aT) (x:Str) (C:Do):Prop:=VN K VF x=some (some (.ref C))
section
variable {X:Cx} {W:Wd}
def HX {O:abu} {x:Str} {C:Do} {p:Pos} (L:X.mg x=some (.ref C)) (hn:SJ W.K x C) (Y:Gl X x:=by rfl) (J:abD x:=by decide):JE X (.Name x p) (tD W O (vC (.cls x))) :=
 ⟨fun af s Z H Q I ⟨as0,B,own,U,_,h⟩=>qP I Y L ⟨.ref C,H,I,rfl,h _ H (aH.refl _) ⟨C,rfl,hn⟩⟩ J⟩
end
end L2
namespace TS
open PySem PyProof.Rows
def au {m q:Nat} (h:1<=m):m - (q+1)+m - 1 - (m - 1)<=m - 1:=by
 rw [Nat.add_sub_assoc h,Nat.add_sub_cancel];exact aal (Nat.succ_le_succ (VY q)) m
local macro_rules|`(tactic|walk_at "ja")=>`(tactic|first|exact au (by lia)|lia)
def b7 {k x l r m:Nat} (h:r - l<=k - x) (J:l<=m):r - (m+1)<=k - (x+1):=RW (aal (Nat.add_le_add_right J 1) r) (by rw [<- abb r l 1,<- abb k x 1];exact YF h 1)
def b6 {k x l r m:Nat} (h:r - l<=k - x) (J:m < r):m - l<=k - (x+1):=RW (YF (Nat.le_pred_of_lt J) l) (by rw [Nat.pred_eq_sub_one,Nat.sub_right_comm,<- abb k x 1];exact YF h 1)
local macro_rules|`(tactic|walk_at "jb")=>`(tactic|first|exact b7 (by assumption) (by lia)|exact b6 (by assumption) (by lia)|lia)
structure Orc (M:Model) (A:VV) (E:abx) (s:iF) (blt:W6->W6->Bool) (k₀:Z0) (In:W6->Prop):Prop where
 asymm:∀ x y,blt x y=true->blt y x=false
 trans:∀ x y z,blt y x=false->blt z y=false->blt z x=false
 ask:∀ (x y:W6) (st:WZ) (Q:Option Bool->WZ->Prop),In x->In y->kindOf st=k₀->Q (some (blt x y)) st->wpS M A E s (lt' x y) Q st
section
variable {M:Model} {A:VV} {E:abx} {s:iF} {blt:W6->W6->Bool} {k₀:Z0} {In:W6->Prop}
def Orc.le_lt (O:Orc M A E s blt k₀ In) {x y z:W6} (h1:blt x y=true) (h2:blt z y=false):blt x z=true:=by
 cases e:blt x z with
 | true=>rfl
 | false=>rw [O.trans y z x h2 e] at h1;cases h1
def Orc.refl (O:Orc M A E s blt k₀ In) (x:W6):blt x x=false:=by
 cases e:blt x x with
 | false=>rfl
 | true=>rw [O.asymm x x e] at e;cases e
def Fm {J:Array W6} {i:Nat} {Q:W6->WZ->Prop} {st:WZ} (h:i < J.size) (L:Q J[i] st):wpS M A E s (elem' J i) Q st:=by
 rw [elem'_eq,getElem?_pos J i h];exact V8 L
end
structure SG (st st':WZ):Prop where
 kind:kindOf st'=kindOf st
 arr:VJ st'=VJ st
 pend:XC st'=XC st
 failed:Yz st'=Yz st
section
variable {M:Model} {A:VV} {E:abx} {s:iF} {blt:W6->W6->Bool} {k₀:Z0} {In:W6->Prop}
def cD {α:Type} {c:Prop} [Decidable c] {x y:StateT WZ Sem α} {Q:α->WZ->Prop} {st:WZ} (h1:c->wpS M A E s x Q st) (h2:¬ c->wpS M A E s y Q st):wpS M A E s (if c then x else y) Q st:=by
 by_cases h:c
 .rw [abn h];exact h1 h
 .rw [abo h];exact h2 h
end
def G (xs:Array W6) (i:Nat):W6:=(xs[i]?).getD (.none,.none)
def GJ {xs:Array W6} {i:Nat} (h:i < xs.size):G xs i=xs[i]:=by unfold G;rw [getElem?_pos xs i h];rfl
def fz {xs:Array W6} {i j:Nat} (J:j<=xs.size) (k:Nat):G (mirror xs i j ((j - i)/2)) k=if i<=k/\k < j then G xs (i+j - 1 - k) else G xs k:=by
 unfold G;rw [getElem?_mirror_all J];split <;> rfl
def xW {xs:Array W6} {J d:Nat} (L:J < xs.size) (hd:d<=J) (k:Nat):G (bubble xs J d) k=if k=J - d then G xs J else if J - d < k/\k<=J then G xs (k - 1) else G xs k:=by
 unfold G;rw [getElem?_bubble L d hd]
 repeat' split
 all_goals rfl
structure SA (lo:Nat) (st st':WZ):Prop where
 kind:kindOf st'=kindOf st
 pend:XC st'=XC st
 failed:Yz st'=Yz st
 perm:(VJ st').Perm (VJ st)
 pre:∀ i,i < lo->G (VJ st') i=G (VJ st) i
def SA.refl (lo:Nat) (st:WZ):SA lo st st:=⟨rfl,rfl,rfl,abc _,fun _ _=>rfl⟩
theorem SA.trans {lo:Nat} {a b c:WZ} (h:SA lo a b) (g:SA lo b c):SA lo a c:=⟨g.kind.trans h.kind,g.pend.trans h.pend,g.failed.trans h.failed,g.perm.trans h.perm,fun i hi=>(g.pre i hi).trans (h.pre i hi)⟩
theorem SA.size {lo:Nat} {a b:WZ} (h:SA lo a b):(VJ b).size=(VJ a).size:=h.perm.size_eq
section
variable {M:Model} {A:VV} {E:abx} {s:iF} {blt:W6->W6->Bool} {k₀:Z0} {In:W6->Prop}
def r6 (In:W6->Prop) (st:WZ):Prop:=∀ x,x∈(VJ st).toList->In x
def r6.sa {lo:Nat} {st st':WZ} (h:r6 In st) (g:SA lo st st'):r6 In st':=fun x J=>h x ((XT.mp g.perm).mem_iff.mp J)
def r6.at {st:WZ} (h:r6 In st) {i:Nat} (hi:i < (VJ st).size):In (VJ st)[i]:=h _ (by simp)
def ia (O:Orc M A E s blt k₀ In) {st:WZ} {i j:Nat} {Q:Option Bool->WZ->Prop} (Y:kindOf st=k₀) (L:r6 In st) (hi:i < (VJ st).size) (J:j < (VJ st).size) (h:Q (some (blt (G (VJ st) i) (G (VJ st) j))) st):wpS M A E s (ltAt' i j) Q st:=by
 rw [ltAt'_eq];refine VR (aan ?_);refine VR (Fm hi (VR (Fm J ?_)));rw [GJ hi,GJ J] at h;exact O.ask _ _ _ _ (L.at hi) (L.at J) Y h
def oi {st:WZ} {i j:Nat} {Q:PUnit->WZ->Prop} (h:Q ⟨⟩ (setArr st (mirror (VJ st) i j ((j - i)/2)))):wpS M A E s (reverseSlice' i j) Q st:=by
 rw [reverseSlice'_eq];exact aaN h
def pk {lo:Nat} {st:WZ} {i j:Nat} (hi:lo<=i) (J:j<=(VJ st).size):SA lo st (setArr st (mirror (VJ st) i j ((j - i)/2))) :=
 ⟨rfl,rfl,rfl,mirror_perm _ _ _ _,fun k L=>by
  show G (mirror (VJ st) i j ((j - i)/2)) k=_;rw [fz J,abo (by lia)]⟩
def SegG (blt:W6->W6->Bool) (xs:Array W6) (lo hi:Nat):Prop:=∀ i j,lo<=i->i<=j->j < hi->blt (G xs j) (G xs i)=false
def NI (blt:W6->W6->Bool) (xs:Array W6) (lo hi:Nat):Prop:=∀ i j,lo<=i->i<=j->j < hi->blt (G xs i) (G xs j)=false
def JP (O:Orc M A E s blt k₀ In) {xs:Array W6} {lo hi:Nat} (h:SegG blt xs lo hi) (hl:lo < hi) (Y:blt (G xs hi) (G xs (hi - 1))=false):SegG blt xs lo (hi+1):=fun i j a b c=>by
 by_cases L:j < hi
 .exact h i j a b L
 .have:j=hi:=by lia
  subst this;by_cases J:i=j
  .subst J;exact O.refl _
  .exact O.trans _ _ _ (h i (j - 1) a (by lia) (by lia)) Y
def mi (O:Orc M A E s blt k₀ In) {xs:Array W6} {lo hi:Nat} (h:NI blt xs lo hi) (hl:lo < hi) (Y:blt (G xs (hi - 1)) (G xs hi)=false):NI blt xs lo (hi+1):=fun i j a b c=>by
 by_cases L:j < hi
 .exact h i j a b L
 .have:j=hi:=by lia
  subst this;by_cases J:i=j
  .subst J;exact O.refl _
  .exact O.trans _ _ _ Y (h i (j - 1) a (by lia) (by lia))
def uD (O:Orc M A E s blt k₀ In) {st:WZ} {lo n nrem:Nat} {Q:Option (Option Nat)×Nat->WZ->Prop} {f:Nat->Option (Option Nat)×Nat->StateT WZ Sem (ForInStep (Option (Option Nat)×Nat))} (hk:kindOf st=k₀) (hI:r6 In st) (hn:lo+nrem<=(VJ st).size) (h1:1<=n) (L:n<=nrem) (Y:SegG blt (VJ st) lo (lo+n))
  (hf:∀ x n (R:ForInStep (Option (Option Nat)×Nat)->WZ->Prop),1<=n->n < nrem->(blt (G (VJ st) (lo+n)) (G (VJ st) (lo+n - 1))=true->R (.done (none,n)) st)->(blt (G (VJ st) (lo+n)) (G (VJ st) (lo+n - 1))=false->R (.yield (none,n+1)) st)->wpS M A E s (f x (none,n)) R st)
  (h:∀ m,n<=m->m<=nrem->SegG blt (VJ st) lo (lo+m)->(m=nrem\/blt (G (VJ st) (lo+m)) (G (VJ st) (lo+m - 1))=true)->Q (none,m) st):wpS M A E s (forIn [n:nrem] (none,n) f) Q st:=by
 refine Yb (I:=fun x c J=>J=st/\c=(none,x)/\n<=x/\SegG blt (VJ st) lo (lo+x)) ?step ?fin ⟨rfl,rfl,oR _,Y⟩
 case fin =>
  rintro c J ⟨rfl,rfl,h2,h3⟩;rw [show max n nrem=nrem by lia] at h3 ⊢;exact h nrem L (oR _) h3 (.inl rfl)
 case step =>
  rintro x c J hx1 hx2 ⟨rfl,rfl,h2,h3⟩;refine hf x x _ (by lia) hx2 (fun e=>h x h2 (by lia) h3 (.inr e)) fun e=>⟨rfl,rfl,by lia,?_⟩
  have:=JP O h3 (by lia) e
  rwa [show lo+x+1=lo+(x+1) by lia] at this
def zW {st:WZ} {lo hi:Nat} (J:hi<=(VJ st).size) (h:NI blt (VJ st) lo hi):SegG blt (mirror (VJ st) lo hi ((hi - lo)/2)) lo hi:=fun i j a b c=>by
 rw [fz J,fz J,abn (by lia),abn (by lia)];exact h _ _ (by lia) (by lia) (by lia)
def B2 {xs:Array W6} {lo p hi:Nat} (L:hi<=xs.size) (hp:lo<=p) (h:NI blt xs lo hi) (he:∀ i j,p<=i->i < hi->p<=j->j < hi->blt (G xs i) (G xs j)=false):NI blt (mirror xs p hi ((hi - p)/2)) lo hi:=fun i j a b c=>by
 rw [fz L,fz L];by_cases J:p<=i/\i < hi
 .rw [abn J,abn (by lia)];exact he _ _ (by lia) (by lia) (by lia) (by lia)
 .rw [abo J];by_cases Y:p<=j/\j < hi
  .rw [abn Y];exact h _ _ a (by lia) (by lia)
  .rw [abo Y];exact h _ _ a b c
end
section
variable {M:Model} {A:VV} {E:abx} {s:iF} {blt:W6->W6->Bool} {k₀:Z0} {In:W6->Prop}
def BF (O:Orc M A E s blt k₀ In) {st:WZ} {lo nrem:Nat} {Q:Option Nat->WZ->Prop} (hk:kindOf st=k₀) (hI:r6 In st) (hn:lo+nrem<=(VJ st).size) (h1:1<=nrem)
  (h:∀ m J,SA lo st J->1<=m->m<=nrem->SegG blt (VJ J) lo (lo+m)->Q (some m) J):wpS M A E s (countRun' lo nrem) Q st:=by
 have s1:SegG blt (VJ st) lo (lo+1):=fun i j a b c=>by
  have:i=j:=by walk_at "ja"
  rw [this];exact O.refl _
 refine VR (uD O (lo:=lo) hk hI hn (oR 1) h1 s1 ?hf ?_)
 case hf =>
  intro x n R hn1 hn2 r1 r2;refine VR (ia O hk hI (by walk_at "ja") (by walk_at "ja") ?_);cases e:blt (G (VJ st) (lo+n)) (G (VJ st) (lo+n - 1)) with
  | true=>exact V8 (r1 e)
  | false=>exact V8 (r2 e)
 intro n hn1 hn2 hs hor;refine cD (fun hq=>V8 (h n st (SA.refl lo st) hn1 hn2 hs)) (fun hne=>?_);have hne:n≠nrem:=by simpa using hne
 have hlt:=hor.resolve_left hne;refine cD (fun hgt=>?_) (fun hgt=>?_)
 .refine VR (ia O hk hI (show lo < _ by walk_at "ja") (show lo+n - 1 < _ by walk_at "ja") ?_);cases hrose:blt (G (VJ st) lo) (G (VJ st) (lo+n - 1)) with
  | true=>exact cD (fun _=>V8 (h n st (SA.refl lo st) hn1 hn2 hs)) (fun z=>absurd rfl z)
  | false =>
   refine cD (fun z=>absurd z lT) (fun _=>?_);refine VR (oi ?_);have hsa1:=pk (lo:=lo) (st:=st) (i:=lo) (j:=lo+n) (oR _) (by walk_at "ja");have hall:∀ i j,lo<=i->i < lo+n->lo<=j->j < lo+n->blt (G (VJ st) i) (G (VJ st) j)=false:=fun i j a b c d =>
    O.trans _ _ _ (O.trans _ _ _ (hs j (lo+n - 1) c (by walk_at "ja") (by walk_at "ja")) hrose) (hs lo i (oR _) a b)
   have hni1:NI blt (mirror (VJ st) lo (lo+n) ((lo+n - lo)/2)) lo (lo+(n+1)):=by
    have n3:=B2 (xs:=VJ st) (p:=lo) (hi:=lo+n) (by walk_at "ja") (oR _) (fun i j a b c=>hall i j a (by walk_at "ja") (by walk_at "ja") c) hall;have n4:=mi O n3 (by walk_at "ja") (by
     rw [fz (by walk_at "ja"),fz (by walk_at "ja"),abn (by walk_at "ja"),abo (by walk_at "ja")];exact O.trans _ _ _ (O.asymm _ _ hlt) (hall _ _ (by walk_at "ja") (by walk_at "ja") (by walk_at "ja") (by walk_at "ja")))
    rwa [show lo+n+1=lo+(n+1) by walk_at "ja"] at n4
   have hN:n+1<=nrem:=by walk_at "ja"
   refine VR (aaC (Yx ⟨rfl,?_⟩));refine VR (aaD (Yb (I:=fun x c J=>SA lo st J/\∃ L,c=(none,x,L)/\n+1<=x/\NI blt (VJ J) lo (lo+x)/\L+1<=x/\(∀ i j,lo+x - (L+1)<=i->i < lo+x->lo+x - (L+1)<=j->j < lo+x->blt (G (VJ J) i) (G (VJ J) j)=false))
    (Q:=fun c J=>SA lo st J/\∃ m L,c=(none,m,L)/\n+1<=m/\m<=nrem/\NI blt (VJ J) lo (lo+m)/\L+1<=m/\(∀ i j,lo+m - (L+1)<=i->i < lo+m->lo+m - (L+1)<=j->j < lo+m->blt (G (VJ J) i) (G (VJ J) j)=false)) ?step ?fin ⟨hsa1,0,rfl,by walk_at "ja",hni1,by walk_at "ja",fun i j a b c d=>by rw [show i=j by walk_at "ja"];exact O.refl _⟩) ?post)
   case fin =>
    rintro c J ⟨hsa',L,rfl,h2,h3,h4,h5⟩;rw [show max (_+1) nrem=nrem by walk_at "ja"] at *;exact ⟨hsa',nrem,L,rfl,by walk_at "ja",oR _,h3,h4,h5⟩
   case post =>
    rintro c J ⟨hsa',m,L,rfl,hm1,hm2,hni',hq1,heq⟩;dsimp only;have sz:=hsa'.size;refine cD (fun hneq=>?_) (fun hneq=>?_)
    .refine VR (oi ?_);have hsa3:=hsa'.trans (pk (lo:=lo) (i:=lo+m - (L+1)) (j:=lo+m) (by walk_at "ja") (by walk_at "ja"));have hni3:=B2 (xs:=VJ J) (p:=lo+m - (L+1)) (by walk_at "ja") (by walk_at "ja") hni' (fun i j a b c d=>heq i j a b c d);have sz3:=hsa3.size;refine VR (oi ?_);have Y:=hsa3.trans (pk (lo:=lo) (i:=lo) (j:=lo+m) (oR _) (by walk_at "ja"));have sg4:=zW (st:=setArr J (mirror (VJ J) (lo+m - (L+1)) (lo+m) ((lo+m - (lo+m - (L+1)))/2))) (by walk_at "ja") hni3;have sz4:=Y.size;refine VR (uD O (lo:=lo) (n:=m) (Y.kind.trans hk) (hI.sa Y) (by walk_at "ja") (by walk_at "ja") hm2 sg4 ?hf ?_)
     case hf =>
      intro x n' R hn1' hn2' r1 r2;refine VR (ia O (Y.kind.trans hk) (hI.sa Y) (by walk_at "ja") (by walk_at "ja") ?_);split
      .rename_i smaller heq';have heq':blt _ _=smaller:=VS heq';cases smaller with
       | true=>exact V8 (r1 heq')
       | false=>exact V8 (r2 heq')
      .rename_i hno;exact absurd rfl (hno _)
     intro m' h1' h2' h3' _;exact V8 (h m' _ Y (by walk_at "ja") h2' h3')
    .have hsa3:=hsa';have hni3:=hni';have sz3:=hsa3.size;refine VR (oi ?_);have Y:=hsa3.trans (pk (lo:=lo) (i:=lo) (j:=lo+m) (oR _) (by walk_at "ja"));have sg4:=zW (st:=J) (by walk_at "ja") hni3;have sz4:=Y.size;refine VR (uD O (lo:=lo) (n:=m) (Y.kind.trans hk) (hI.sa Y) (by walk_at "ja") (by walk_at "ja") hm2 sg4 ?hf2 ?_)
     case hf2 =>
      intro x n' R hn1' hn2' r1 r2;refine VR (ia O (Y.kind.trans hk) (hI.sa Y) (by walk_at "ja") (by walk_at "ja") ?_);split
      .rename_i smaller heq';have heq':blt _ _=smaller:=VS heq';cases smaller with
       | true=>exact V8 (r1 heq')
       | false=>exact V8 (r2 heq')
      .rename_i hno;exact absurd rfl (hno _)
     intro m' h1' h2' h3' _;exact V8 (h m' _ Y (by walk_at "ja") h2' h3')
   case step =>
    rintro x c J hx1 hx2 ⟨hsa',L,rfl,h2,hni',hq1,heq⟩;have sz:=hsa'.size;refine VR (ia O (hsa'.kind.trans hk) (hI.sa hsa') (show lo+x < _ by walk_at "ja") (show lo+x - 1 < _ by walk_at "ja") ?_);cases e:blt (G (VJ J) (lo+x)) (G (VJ J) (lo+x - 1)) with
    | true =>
     have up:=mi O hni' (by walk_at "ja") (O.asymm _ _ e);refine cD (fun _=>?_) (fun z=>absurd rfl z);refine cD (fun hneq=>?_) (fun hneq=>?_)
     .refine VR (oi ?_);refine V8 ⟨hsa'.trans (pk (i:=lo+x - (L+1)) (j:=lo+x) (by walk_at "ja") (by walk_at "ja")),0,rfl,by walk_at "ja",?_,by walk_at "ja",fun i j a b c d=>by rw [show i=j by walk_at "ja"];exact O.refl _⟩;have n3:=B2 (xs:=VJ J) (p:=lo+x - (L+1)) (hi:=lo+x) (by walk_at "ja") (by walk_at "ja") hni' (fun i j a b c d=>heq i j a b c d);have n4:=mi O n3 (by walk_at "ja") (by
       rw [fz (by walk_at "ja"),fz (by walk_at "ja"),abn (by walk_at "ja"),abo (by walk_at "ja")];exact O.trans _ _ _ (O.asymm _ _ e) (hni' _ _ (by walk_at "ja") (by walk_at "ja") (by walk_at "ja")))
      rwa [show lo+x+1=lo+(x+1) by walk_at "ja"] at n4
     .refine V8 ⟨hsa',0,rfl,by walk_at "ja",?_,by walk_at "ja",fun i j a b c d=>by rw [show i=j by walk_at "ja"];exact O.refl _⟩;rwa [show lo+x+1=lo+(x+1) by walk_at "ja"] at up
    | false =>
     refine cD (fun z=>absurd z lT) (fun _=>?_);refine VR (ia O (hsa'.kind.trans hk) (hI.sa hsa') (show lo+x - 1 < _ by walk_at "ja") (show lo+x < _ by walk_at "ja") ?_);cases e2:blt (G (VJ J) (lo+x - 1)) (G (VJ J) (lo+x)) with
     | true=>exact cD (fun _=>V8 ⟨hsa',x,L,rfl,by walk_at "ja",by walk_at "ja",hni',hq1,heq⟩) (fun z=>absurd rfl z)
     | false =>
      refine cD (fun z=>absurd z lT) (fun _=>V8 ⟨hsa',L+1,rfl,by walk_at "ja",?_,by walk_at "ja",fun i j a b c d=>?_⟩)
      .have up:=mi O hni' (by walk_at "ja") e2;rwa [show lo+x+1=lo+(x+1) by walk_at "ja"] at up
      .have q1:∀ k,lo+x - (L+1)<=k->k < lo+x->blt (G (VJ J) k) (G (VJ J) (lo+x))=false/\blt (G (VJ J) (lo+x)) (G (VJ J) k)=false:=fun k k1 k2 =>
        ⟨O.trans _ _ _ e2 (heq k (lo+x - 1) k1 k2 (by walk_at "ja") (by walk_at "ja")),O.trans _ _ _ (heq (lo+x - 1) k (by walk_at "ja") (by walk_at "ja") k1 k2) e⟩
       by_cases hi':i=lo+x
       .by_cases hj':j=lo+x
        .rw [hi',hj'];exact O.refl _
        .rw [hi'];exact (q1 j (by walk_at "ja") (by walk_at "ja")).2
       .by_cases hj':j=lo+x
        .rw [hj'];exact (q1 i (by walk_at "ja") (by walk_at "ja")).1
        .exact heq i j (by walk_at "ja") (by walk_at "ja") (by walk_at "ja") (by walk_at "ja")
 .have hgt:¬ (n > 1):=hgt;have n1:n=1:=by walk_at "ja"
  have hni1:NI blt (VJ st) lo (lo+(n+1)):=by
   have:=mi O (lo:=lo) (hi:=lo+n) (xs:=VJ st) (fun i j a b c=>by
    have:i=j:=by walk_at "ja"
    rw [this];exact O.refl _) (by walk_at "ja") (O.asymm _ _ hlt)
   rwa [show lo+n+1=lo+(n+1) by walk_at "ja"] at this
  have hsa1:=SA.refl lo st;have hN:n+1<=nrem:=by walk_at "ja"
  refine VR (aaC (Yx ⟨rfl,?_⟩));refine VR (aaD (Yb (I:=fun x c J=>SA lo st J/\∃ L,c=(none,x,L)/\n+1<=x/\NI blt (VJ J) lo (lo+x)/\L+1<=x/\(∀ i j,lo+x - (L+1)<=i->i < lo+x->lo+x - (L+1)<=j->j < lo+x->blt (G (VJ J) i) (G (VJ J) j)=false))
   (Q:=fun c J=>SA lo st J/\∃ m L,c=(none,m,L)/\n+1<=m/\m<=nrem/\NI blt (VJ J) lo (lo+m)/\L+1<=m/\(∀ i j,lo+m - (L+1)<=i->i < lo+m->lo+m - (L+1)<=j->j < lo+m->blt (G (VJ J) i) (G (VJ J) j)=false)) ?step ?fin ⟨hsa1,0,rfl,by walk_at "ja",hni1,by walk_at "ja",fun i j a b c d=>by rw [show i=j by walk_at "ja"];exact O.refl _⟩) ?post)
  case fin =>
   rintro c J ⟨hsa',L,rfl,h2,h3,h4,h5⟩;rw [show max (_+1) nrem=nrem by walk_at "ja"] at *;exact ⟨hsa',nrem,L,rfl,by walk_at "ja",oR _,h3,h4,h5⟩
  case post =>
   rintro c J ⟨hsa',m,L,rfl,hm1,hm2,hni',hq1,heq⟩;dsimp only;have sz:=hsa'.size;refine cD (fun hneq=>?_) (fun hneq=>?_)
   .refine VR (oi ?_);have hsa3:=hsa'.trans (pk (lo:=lo) (i:=lo+m - (L+1)) (j:=lo+m) (by walk_at "ja") (by walk_at "ja"));have hni3:=B2 (xs:=VJ J) (p:=lo+m - (L+1)) (by walk_at "ja") (by walk_at "ja") hni' (fun i j a b c d=>heq i j a b c d);have sz3:=hsa3.size;refine VR (oi ?_);have Y:=hsa3.trans (pk (lo:=lo) (i:=lo) (j:=lo+m) (oR _) (by walk_at "ja"));have sg4:=zW (st:=setArr J (mirror (VJ J) (lo+m - (L+1)) (lo+m) ((lo+m - (lo+m - (L+1)))/2))) (by walk_at "ja") hni3;have sz4:=Y.size;refine VR (uD O (lo:=lo) (n:=m) (Y.kind.trans hk) (hI.sa Y) (by walk_at "ja") (by walk_at "ja") hm2 sg4 ?hf ?_)
    case hf =>
     intro x n' R hn1' hn2' r1 r2;refine VR (ia O (Y.kind.trans hk) (hI.sa Y) (by walk_at "ja") (by walk_at "ja") ?_);split
     .rename_i smaller heq';have heq':blt _ _=smaller:=VS heq';cases smaller with
      | true=>exact V8 (r1 heq')
      | false=>exact V8 (r2 heq')
     .rename_i hno;exact absurd rfl (hno _)
    intro m' h1' h2' h3' _;exact V8 (h m' _ Y (by walk_at "ja") h2' h3')
   .have hsa3:=hsa';have hni3:=hni';have sz3:=hsa3.size;refine VR (oi ?_);have Y:=hsa3.trans (pk (lo:=lo) (i:=lo) (j:=lo+m) (oR _) (by walk_at "ja"));have sg4:=zW (st:=J) (by walk_at "ja") hni3;have sz4:=Y.size;refine VR (uD O (lo:=lo) (n:=m) (Y.kind.trans hk) (hI.sa Y) (by walk_at "ja") (by walk_at "ja") hm2 sg4 ?hf2 ?_)
    case hf2 =>
     intro x n' R hn1' hn2' r1 r2;refine VR (ia O (Y.kind.trans hk) (hI.sa Y) (by walk_at "ja") (by walk_at "ja") ?_);split
     .rename_i smaller heq';have heq':blt _ _=smaller:=VS heq';cases smaller with
      | true=>exact V8 (r1 heq')
      | false=>exact V8 (r2 heq')
     .rename_i hno;exact absurd rfl (hno _)
    intro m' h1' h2' h3' _;exact V8 (h m' _ Y (by walk_at "ja") h2' h3')
  case step =>
   rintro x c J hx1 hx2 ⟨hsa',L,rfl,h2,hni',hq1,heq⟩;have sz:=hsa'.size;refine VR (ia O (hsa'.kind.trans hk) (hI.sa hsa') (show lo+x < _ by walk_at "ja") (show lo+x - 1 < _ by walk_at "ja") ?_);cases e:blt (G (VJ J) (lo+x)) (G (VJ J) (lo+x - 1)) with
   | true =>
    have up:=mi O hni' (by walk_at "ja") (O.asymm _ _ e);refine cD (fun _=>?_) (fun z=>absurd rfl z);refine cD (fun hneq=>?_) (fun hneq=>?_)
    .refine VR (oi ?_);refine V8 ⟨hsa'.trans (pk (i:=lo+x - (L+1)) (j:=lo+x) (by walk_at "ja") (by walk_at "ja")),0,rfl,by walk_at "ja",?_,by walk_at "ja",fun i j a b c d=>by rw [show i=j by walk_at "ja"];exact O.refl _⟩;have n3:=B2 (xs:=VJ J) (p:=lo+x - (L+1)) (hi:=lo+x) (by walk_at "ja") (by walk_at "ja") hni' (fun i j a b c d=>heq i j a b c d);have n4:=mi O n3 (by walk_at "ja") (by
      rw [fz (by walk_at "ja"),fz (by walk_at "ja"),abn (by walk_at "ja"),abo (by walk_at "ja")];exact O.trans _ _ _ (O.asymm _ _ e) (hni' _ _ (by walk_at "ja") (by walk_at "ja") (by walk_at "ja")))
     rwa [show lo+x+1=lo+(x+1) by walk_at "ja"] at n4
    .refine V8 ⟨hsa',0,rfl,by walk_at "ja",?_,by walk_at "ja",fun i j a b c d=>by rw [show i=j by walk_at "ja"];exact O.refl _⟩;rwa [show lo+x+1=lo+(x+1) by walk_at "ja"] at up
   | false =>
    refine cD (fun z=>absurd z lT) (fun _=>?_);refine VR (ia O (hsa'.kind.trans hk) (hI.sa hsa') (show lo+x - 1 < _ by walk_at "ja") (show lo+x < _ by walk_at "ja") ?_);cases e2:blt (G (VJ J) (lo+x - 1)) (G (VJ J) (lo+x)) with
    | true=>exact cD (fun _=>V8 ⟨hsa',x,L,rfl,by walk_at "ja",by walk_at "ja",hni',hq1,heq⟩) (fun z=>absurd rfl z)
    | false =>
     refine cD (fun z=>absurd z lT) (fun _=>V8 ⟨hsa',L+1,rfl,by walk_at "ja",?_,by walk_at "ja",fun i j a b c d=>?_⟩)
     .have up:=mi O hni' (by walk_at "ja") e2;rwa [show lo+x+1=lo+(x+1) by walk_at "ja"] at up
     .have q1:∀ k,lo+x - (L+1)<=k->k < lo+x->blt (G (VJ J) k) (G (VJ J) (lo+x))=false/\blt (G (VJ J) (lo+x)) (G (VJ J) k)=false:=fun k k1 k2 =>
       ⟨O.trans _ _ _ e2 (heq k (lo+x - 1) k1 k2 (by walk_at "ja") (by walk_at "ja")),O.trans _ _ _ (heq (lo+x - 1) k (by walk_at "ja") (by walk_at "ja") k1 k2) e⟩
      by_cases hi':i=lo+x
      .by_cases hj':j=lo+x
       .rw [hi',hj'];exact O.refl _
       .rw [hi'];exact (q1 j (by walk_at "ja") (by walk_at "ja")).2
      .by_cases hj':j=lo+x
       .rw [hj'];exact (q1 i (by walk_at "ja") (by walk_at "ja")).1
       .exact heq i j (by walk_at "ja") (by walk_at "ja") (by walk_at "ja") (by walk_at "ja")
end
section
variable {M:Model} {A:VV} {E:abx} {s:iF} {blt:W6->W6->Bool} {k₀:Z0} {In:W6->Prop}
def O3 {lo:Nat} {st:WZ} {J d:Nat} (h:lo<=J - d) (hd:d<=J) (L:J < (VJ st).size):SA lo st (setArr st (bubble (VJ st) J d)) :=
 ⟨rfl,rfl,rfl,bubble_perm _ _ _,fun k Y=>by
  show G (bubble (VJ st) J d) k=_;rw [xW L hd,abo (by walk_at "jb"),abo (by walk_at "jb")]⟩
def GU (O:Orc M A E s blt k₀ In) {st:WZ} {lo n ok:Nat} {Q:Bool->WZ->Prop} (hk:kindOf st=k₀) (hI:r6 In st) (hn:lo+n<=(VJ st).size) (hok:ok<=n) (h1:1<=ok) (hs:SegG blt (VJ st) lo (lo+ok))
  (h:∀ st',SA lo st st'->SegG blt (VJ st') lo (lo+n)->Q true st'):wpS M A E s (binarySort' lo n ok) Q st:=by
 refine VR (aaD (Yb (I:=fun k c st'=>c=(none,())/\SA lo st st'/\SegG blt (VJ st') lo (lo+k))
  (Q:=fun c st'=>c=(none,())/\SA lo st st'/\SegG blt (VJ st') lo (lo+n)) ?step ?fin ⟨rfl,SA.refl lo st,by rw [show max ok 1=ok by walk_at "jb"];exact hs⟩) ?post)
 case post =>
  rintro c st' ⟨rfl,hsa,hsg⟩;exact V8 (h st' hsa hsg)
 case fin =>
  rintro c st' ⟨rfl,hsa,hsg⟩;rw [show max (max ok 1) n=n by walk_at "jb"] at hsg;exact ⟨rfl,hsa,hsg⟩
 case step =>
  rintro k c st1 hk1 hk2 ⟨rfl,hsa,hsg⟩;have sz:=hsa.size;have L:lo+k < (VJ st1).size:=by walk_at "jb"
  refine VR (aaD (Yb (I:=fun x c st'=>st'=st1/\∃ l r,c=(none,l,r)/\l<=r/\r<=k/\r - l<=k - x/\(∀ i,lo<=i->i < lo+l->blt (G (VJ st1) (lo+k)) (G (VJ st1) i)=false)/\(∀ i,lo+r<=i->i < lo+k->blt (G (VJ st1) (lo+k)) (G (VJ st1) i)=true))
   (Q:=fun c st'=>st'=st1/\∃ l r,c=(none,l,r)/\l=r/\r<=k/\(∀ i,lo<=i->i < lo+l->blt (G (VJ st1) (lo+k)) (G (VJ st1) i)=false)/\(∀ i,lo+r<=i->i < lo+k->blt (G (VJ st1) (lo+k)) (G (VJ st1) i)=true)) ?step1 ?fin1 ⟨rfl,0,k,rfl,by walk_at "jb",by walk_at "jb",by walk_at "jb",fun i a b=>by walk_at "jb",fun i a b=>by walk_at "jb"⟩) ?post1)
  case fin1 =>
   rintro c st' ⟨rfl,l,r,rfl,a1,a2,a3,a4,a5⟩;exact ⟨rfl,l,r,rfl,by walk_at "jb",a2,a4,a5⟩
  case step1 =>
   rintro x c st' _ hx ⟨rfl,l,r,rfl,a1,a2,a3,a4,a5⟩;refine cD (fun J=>?_) (fun J=>?_)
   .have J:l ≥ r:=J;exact V8 ⟨rfl,l,r,rfl,by walk_at "jb",a2,a4,a5⟩
   .have J:¬ (l ≥ r):=J;have hm:lo+(l+r)/2 < (VJ st').size:=by walk_at "jb"
    refine VR (ia O (hsa.kind.trans hk) (hI.sa hsa) L hm ?_);cases e:blt (G (VJ st') (lo+k)) (G (VJ st') (lo+(l+r)/2)) with
    | true =>
     refine cD (fun _=>V8 ⟨rfl,l,(l+r)/2,rfl,by walk_at "jb",by walk_at "jb",by walk_at "jb",a4,fun i Y b2=>?_⟩) (fun z=>absurd rfl z);exact O.le_lt e (hsg (lo+(l+r)/2) i (by walk_at "jb") (by walk_at "jb") (by walk_at "jb"))
    | false =>
     refine cD (fun z=>absurd z lT) (fun _=>V8 ⟨rfl,(l+r)/2+1,r,rfl,by walk_at "jb",by walk_at "jb",by walk_at "jb",fun i Y b2=>?_,a5⟩);exact O.trans _ _ _ (hsg i (lo+(l+r)/2) Y (by walk_at "jb") (by walk_at "jb")) e
  case post1 =>
   rintro c st' ⟨rfl,l,r,rfl,rfl,a2,a4,a5⟩;have e:(lo+k) - (lo+l)=k - l:=by walk_at "jb"
   have md:∀ (R:PUnit->WZ->Prop),R ⟨⟩ (setArr st' (bubble (VJ st') (lo+k) (lo+k - (lo+l))))->wpS M A E s (moveDown' (lo+k) (lo+l)) R st':=fun R hr=>by
    rw [moveDown'_eq];exact aaN hr
   refine VR (md _ (V8 ⟨rfl,hsa.trans (O3 (by walk_at "jb") (by walk_at "jb") L),fun i j Y b2 b3=>?_⟩));show blt (G (bubble (VJ st') (lo+k) (lo+k - (lo+l))) j) (G (bubble (VJ st') (lo+k) (lo+k - (lo+l))) i)=false;rw [xW L (by walk_at "jb"),xW L (by walk_at "jb"),show lo+k - (lo+k - (lo+l))=lo+l by walk_at "jb"]
   repeat' split
   all_goals first
    | (exfalso;lia)
    | exact O.refl _
    | exact a4 _ (by walk_at "jb") (by walk_at "jb")
    | exact O.asymm _ _ (a5 _ (by walk_at "jb") (by walk_at "jb"))
    | exact hsg _ _ (by walk_at "jb") (by walk_at "jb") (by walk_at "jb")
end
def Mb:∀ n < 64,minRun' n n 0=n:=by trivial
structure SO (blt:W6->W6->Bool) (st st':WZ):Prop where
 failed:Yz st'=Yz st
 perm:(VJ st').Perm (VJ st)
 seg:SegG blt (VJ st') 0 (VJ st).size
 one:(XC st').size<=1
section
variable {M:Model} {A:VV} {E:abx} {s:iF} {blt:W6->W6->Bool} {k₀:Z0} {In:W6->Prop}
def xq (O:Orc M A E s blt k₀ In) {st:WZ} {Q:Unit->WZ->Prop} (hk:kindOf st=k₀) (hI:r6 In st) (hf:Yz st=none) (hp:XC st=#[]) (h2:2<=(VJ st).size) (h6:(VJ st).size<=63)
  (hq:∀ J,(VJ J).Perm (VJ st)->Yz J=none->SegG blt (VJ J) 0 (VJ st).size->Q () J):wpS M A E s sortRuns' Q st:=by
 have hm:=Mb (VJ st).size (by lia);refine VR (aan ?_);refine VR (aaD (Yb (a:=0) (b:=(VJ st).size) (I:=fun x c J=>(x=0/\c=(none,0)/\J=st)\/(c=(none,(VJ st).size)/\SO blt st J))
  (Q:=fun c J=>c=(none,(VJ st).size)/\SO blt st J) ?step ?fin (.inl ⟨rfl,rfl,rfl⟩)) ?post)
 case fin =>
  rintro c J (⟨e,_⟩|h)
  .lia
  .exact h
 case post =>
  rintro c J ⟨rfl,h⟩;refine VR (aaD (Yb (a:=0) (b:=(VJ st).size) (I:=fun x c J=>c=(none,())/\SO blt st J)
   (Q:=fun c J=>c=(none,())/\SO blt st J) ?stepf (fun _ _ z=>z) ⟨rfl,h⟩) ?postf)
  case stepf =>
   rintro x c st1 _ hx ⟨rfl,h1⟩;refine VR (aan ?_);refine cD (fun hle=>V8 ⟨rfl,h1⟩) (fun hle=>?_);have hle:¬ ((XC st1).size<=1):=hle;exact absurd h1.one hle
  case postf =>
   rintro c st1 ⟨rfl,h1⟩;exact V8 (hq st1 h1.perm (h1.failed.trans hf) h1.seg)
 case step =>
  rintro x c st1 _ hx (⟨rfl,rfl,rfl⟩|⟨rfl,h⟩)
  .refine cD (fun L=>?_) (fun L=>?_)
   .have L:0 ≥ (VJ st1).size:=L;lia
   .refine VR (BF O (lo:=0) (nrem:=(VJ st1).size - 0) hk hI (by lia) (by lia) fun m st2 sa m1 m2 sg=>?_);have sz2:=sa.size;refine cD (fun Y=>?_) (fun Y=>?_)
    .have Y:m < minRun' (VJ st1).size (VJ st1).size 0:=Y;refine VR (aaC (Yx ⟨rfl,?_⟩));refine VR (GU O (lo:=0) (n:=min ((VJ st1).size - 0) (minRun' (VJ st1).size (VJ st1).size 0)) (ok:=m) (sa.kind.trans hk) (hI.sa sa) (by lia) (by lia) m1 sg fun st3 sb sg3=>?_);refine cD (fun z=>by cases z) (fun _=>?_);have sa3:=sa.trans sb;have e0:XC st3=#[]:=sa3.pend.trans hp;have em:0+min ((VJ st1).size - 0) (minRun' (VJ st1).size (VJ st1).size 0)=(VJ st1).size:=by lia
     rw [em] at sg3;refine VR (aan ?_);have hb:(XC st3).back?=none:=by rw [e0];rfl
     rw [hb];refine VR (aaN (V8 (.inr ⟨abt (Prod.mk none) em,sa3.failed,sa3.perm,sg3,?_⟩)));show ((XC st3).push _).size<=1;rw [e0];exact oR _
    .have Y:¬ (m < minRun' (VJ st1).size (VJ st1).size 0):=Y;have e0:XC st2=#[]:=sa.pend.trans hp;have em:0+m=(VJ st1).size:=by lia
     rw [em] at sg;refine VR (aan ?_);have hb:(XC st2).back?=none:=by rw [e0];rfl
     rw [hb];refine VR (aaN (V8 (.inr ⟨abt (Prod.mk none) em,sa.failed,sa.perm,sg,?_⟩)));show ((XC st2).push _).size<=1;rw [e0];exact oR _
  .refine cD (fun L=>V8 ⟨rfl,h⟩) (fun L=>?_);have L:¬ ((VJ st).size ≥ (VJ st).size):=L;lia
end
structure TO {α:Type} (lt:α->α->Prop):Prop where
 irr:∀ a,¬ lt a a
 tr:∀ a b c,lt a b->lt b c->lt a c
 tri:∀ a b,lt a b\/a=b\/lt b a
def TO.lex {α J:Type} {l1:α->α->Prop} {l2:J->J->Prop} (h1:TO l1) (h2:TO l2):TO fun x y:α×J=>l1 x.1 y.1\/(x.1=y.1/\l2 x.2 y.2):=by
 refine ⟨fun a h=>?_,fun a b c h g=>?_,fun a b=>?_⟩
 .rcases h with h|⟨_,h⟩
  .exact h1.irr _ h
  .exact h2.irr _ h
 .rcases h with h|⟨e,h⟩ <;> rcases g with g|⟨f,g⟩
  .exact .inl (h1.tr _ _ _ h g)
  .exact .inl (f ▸ h)
  .exact .inl (e ▸ g)
  .exact .inr ⟨e.trans f,h2.tr _ _ _ h g⟩
 .rcases h1.tri a.1 b.1 with h|h|h
  .exact .inl (.inl h)
  .rcases h2.tri a.2 b.2 with g|g|g
   .exact .inl (.inr ⟨h,g⟩)
   .exact .inr (.inl (Prod.ext h g))
   .exact .inr (.inr (.inr ⟨h.symm,g⟩))
  .exact .inr (.inr (.inl h))
def As:TO (fun a b:Int=>a < b):=⟨fun a=>Int.lt_irrefl a,fun a b c=>Int.lt_trans,fun a b=>by lia⟩
def AW:TO (fun a b:abu=>a < b):=⟨fun a=>aab a,fun a b c=>List.lt_trans,fun a b=>by
 by_cases h:a < b
 .exact .inl h
 .by_cases g:b < a
  .exact .inr (.inr g)
  .exact .inr (.inl (List.le_antisymm (List.not_lt.mp g) (List.not_lt.mp h)))⟩
abbrev K4:Type:=Int×Int×List Nat×Int
def iL (x y:K4):Prop:=x.1 < y.1\/(x.1=y.1/\(x.2.1 < y.2.1\/(x.2.1=y.2.1/\(x.2.2.1 < y.2.2.1\/(x.2.2.1=y.2.2.1/\x.2.2.2 < y.2.2.2)))))
def to4:TO iL:=As.lex (As.lex (AW.lex As))
instance (x y:K4):Decidable (iL x y):=by unfold iL;infer_instance
def OE (kd:gs->K4) (x y:W6):Bool:=decide (iL (kd x.1) (kd y.1))
section
variable {prog:VH} {w:VZ} {A:VV} {E:abx} {s:iF} {kd:gs->K4}
def MN {i j:Int} {t u:Tok} {Q:Bool->iF->Prop} (h:Q (decide (i < j)) s):Le (VL prog w) A (oneLt' false (.int i t) (.int j u)) Q E s :=
 abd _ _ (lt_int (show aaZ Q (.bool (decide (i < j))) s from h))
def OA {x y:Str} (h:x≠y):x.cps.toList≠y.cps.toList:=fun z=>h (by cases x;cases y;congr 1;exact X4.mp z)
def l1 {a a':Int} {k l:Int×List Nat×Int} (h:a≠a'):iL (a,k) (a',l) ↔ a < a':=by simp [iL,h]
def l2 {a b b':Int} {k l:List Nat×Int} (h:b≠b'):iL (a,b,k) (a,b',l) ↔ b < b':=by simp [iL,h]
def l3 {a b c c':Int} {m n:abu} (h:m≠n):iL (a,b,m,c) (a,b,n,c') ↔ m < n:=by simp [iL,h]
def l4 {a b c c':Int} {m:abu}:iL (a,b,m,c) (a,b,m,c') ↔ c < c':=by simp [iL,aab]
end
section
variable {prog:VH} {w:VZ} {A:VV} {E:abx} {s:iF} {kd:gs->K4} {a kS:Do} {ks vs:abA}
def behind (h:Xj) (kS a:Do) (out:abA):Xj:=(h.update kS (VW fun _=>(#[]:Array gs))).update a (VW fun _=>out.toArray)
def Fu {st:WZ} {e e1:Nat} {out:abA} {P:YC->iF->Prop} (na:s.heap.get? a=some (Wj "list" #[] e1)) (nk:s.heap.get? kS=some (Wj "list" ks.toArray e)) (Y:a≠kS)
  (J:(VJ st).map (·.2)=out.toArray) (hz:out.length<=1000000) (hkz:ks.length<=1000000) (hf:Yz st=none) (h:P (.done (.ret .none)) { s with heap:=behind s.heap kS a out }):Le (VL prog w) A (ksk_tail a false e1 (.ref kS) st) P E s:=by
 have L:(s.heap.update kS (VW fun _=>(#[]:Array gs))).get? a=some (Wj "list" #[] e1):=((X6 s.heap kS (VW fun _=>(#[]:Array gs))).2 a Y).trans na;unfold ksk_tail;try dsimp only
 rw [J];refine bY (XR nk rfl ?_ (by rw [tx,V6];omega) (VY _));refine bY (wpAny_letGo ?_);refine bY (seqEpoch_at L rfl ?_);refine bY (XR L rfl ?_ (VY _) (by simp only [XH,if_false,tx,V6];omega));rw [hf];simp only [bne_self_eq_false,XH,if_false];exact rW h
end
end TS
namespace L2
open PySem PySem.Spec PyProof.Rows
open TS (K4 iL)
def wl {α:Type} {a:α} {P:Prop} (h:(none:Option α)=some a):P:=by cases h
def Ts:D->Option Int
 | .int n=>some n
 | _=>none
def AA {d:D} {n:Int} (h:Ts d=some n):d=.int n:=by
 cases d with
 | int i=>exact abt D.int (VS h)
 | _=>exact wl (a:=n) h
def RO (v:D) (n:Int):Option K4:=match v with
 | .non=>some (0,0,[],n)
 | .int i=>some (1,i,[],n)
 | .str z=>some (2,0,z.cps.toList,n)
 | _=>none
def Uz (xs:abC):Option K4:=match xs with
 | [v,w]=>(Ts w).bind (RO v)
 | _=>none
def lh (d:D):Option K4:=match d with
 | .tup xs=>Uz xs
 | _=>none
def aI (k:K4):D:=if k.1=0 then .tup [.non,.int k.2.2.2] else if k.1=1 then .tup [.int k.2.1,.int k.2.2.2] else .tup [.str ⟨k.2.2.1.toArray⟩,.int k.2.2.2]
def pS {d:D} {k:K4} (h:lh d=some k):aI k=d:=by
 cases d with
 | tup xs =>
  match xs,h with
  | [],h=>exact wl (a:=k) h
  | [v],h=>exact wl (a:=k) h
  | [v,w],h =>
   have h:(Ts w).bind (RO v)=some k:=h;obtain ⟨n,L,J⟩:=Xd.mp h;rw [AA L];cases v with
   | non=>cases J;rfl
   | int i=>cases J;rfl
   | str z=>cases J;rfl
   | _=>exact wl (a:=k) J
  | v::w::u::r,h=>exact wl (a:=k) h
 | _=>exact wl (a:=k) h
def ng (κ:R D->Option K4) (F:abC->R D):abC->Option (List K4)
 | []=>some []
 | d::r=>match lh d,ng κ F r with
  | some k,some ks=>if κ (F [d])=some k then some (k::ks) else none
  | _,_=>none
def ya {κ:R D->Option K4} {F:abC->R D} {d:D} {r:abC} {l:List K4} (h:ng κ F (d::r)=some l):∃ k ks,l=k::ks/\lh d=some k/\κ (F [d])=some k/\ng κ F r=some ks:=by
 unfold ng at h;split at h
 .rename_i k ks h1 h2;split at h
  .rename_i h3;cases h;exact ⟨k,ks,rfl,h1,h3,h2⟩
  .cases h
 .cases h
def y1 {κ:R D->Option K4} {F:abC->R D}:∀ {xs:abC} {l:List K4},ng κ F xs=some l->∀ d∈xs,∃ k,lh d=some k/\κ (F [d])=some k
 | [],_,_,_,h=>by cases h
 | d::r,l,h,x,hx=>by
  obtain ⟨k,ks,_,h1,h2,J⟩:=ya h;rcases nE.mp hx with rfl|hx
  .exact ⟨k,h1,h2⟩
  .exact y1 J x hx
def FR (a b:K4):Bool:=!decide (iL b a)
def vV (κ:R D->Option K4) (F:abC->R D) (ds:abC):R D:=match ds with
 | [.lst xs]=>if xs.length<=63 then (match ng κ F xs with
  | some ks=>.ok (.lst ((ks.mergeSort FR).map aI))
  | none=>.no) else .no
 | _=>.no
def tS (F:abC->R D) (d:D):D:=match F [d] with
 | .ok k=>k
 | _=>.non
def Bt {α β:Type} {f:α->β} {l m:List β} (h:l.Perm m):∀ {xs:List α},m=xs.map f->∃ ys:List α,ys.Perm xs/\l=ys.map f:=by
 induction h with
 | nil=>intro xs e;cases xs with
  | nil=>exact ⟨[],.nil,rfl⟩
  | cons _ _=>cases e
 | cons x _ ih=>intro xs e;cases xs with
  | nil=>cases e
  | cons a as =>
   rw [By] at e;obtain ⟨Y,e2⟩:=Zt e;obtain ⟨ys,h1,h2⟩:=ih e2;exact ⟨a::ys,.cons _ h1,by rw [By,h2,Y]⟩
 | swap x y l=>intro xs e;cases xs with
  | nil=>cases e
  | cons a as=>cases as with
   | nil=>cases e
   | cons b bs =>
    rw [By,By] at e;obtain ⟨Y,e2⟩:=Zt e;obtain ⟨e3,e4⟩:=Zt e2;exact ⟨b::a::bs,.swap _ _ _,by rw [By,By,Y,e3,e4]⟩
 | trans _ _ L J =>
  intro xs e;obtain ⟨ys,h1,h2⟩:=J e;obtain ⟨zs,h3,h4⟩:=L h2;exact ⟨zs,h3.trans h1,h4⟩
def ye (m:List K4):(m.mergeSort FR).Pairwise fun x y=>¬ iL y x:=by
 have:=Zu (le:=FR) (fun a b c h1 h2=>?_) (fun a b=>?_) m
 .exact this.imp fun h=>by unfold FR at h;simpa using h
 .unfold FR at h1 h2 ⊢;rw [Bool.not_eq_true',decide_eq_false_iff_not] at h1 h2 ⊢;intro q;rcases TS.to4.tri a b with z|z|z
  .exact h2 (TS.to4.tr _ _ _ q z)
  .exact h2 (z ▸ q)
  .exact h1 z
 .unfold FR;by_cases h1:iL b a
  .have h2:¬ iL a b:=fun z=>TS.to4.irr _ (TS.to4.tr _ _ _ h1 z);simp [h2]
  .simp [h1]
def G1 {l m:List K4} (h:l.Perm m) (J:l.Pairwise fun x y=>¬ iL y x):l=m.mergeSort FR:=by
 refine Zn (le:=fun x y=>¬ iL y x) (fun a b _ _ h1 h2=>?_) J ?_ (h.trans (XE _ _).symm)
 .rcases TS.to4.tri a b with q|q|q
  .exact absurd q h2
  .exact q
  .exact absurd q h1
 .exact ye m
structure It4 where
 k:gs
 u:gs
 x:V
 d:D
def Ki {K:aT} {H:Hp} {kd:gs->K4}:∀ {ks us:abA} {xs:abB} {ds:abC},bC xs us->aN K H ds xs->Paired (fun k d=>lh d=some (kd k)) ks ds ->
  ∃ m:List It4,m.map (fun q=>(q.k,q.u))=ks.zip us/\m.map It4.d=ds/\∀ q∈m,bq q.x q.u/\dF K H q.d q.x/\lh q.d=some (kd q.k)
 | _,_,_,[],r,dn,p=>by
  cases dn;cases r;cases p;exact ⟨[],rfl,rfl,fun q J=>nomatch J⟩
 | _,_,_,d::ds,r,⟨v,vs,e,d1,d2⟩,p=>by
  subst e;cases r with
  | @cons _ u _ us r1 r2 =>
   cases p with
   | @cons k _ ks _ p1 p2 =>
    obtain ⟨m,h1,h2,L⟩:=Ki r2 d2 p2;refine ⟨⟨k,u,v,d⟩::m,by rw [By,h1];rfl,by rw [By,h2],fun q J=>?_⟩;rcases nE.mp J with rfl|J
    .exact ⟨r1,d1,p1⟩
    .exact L q J
def wR {K:aT} {H:Hp}:∀ {m:List It4},(∀ q∈m,bq q.x q.u/\dF K H q.d q.x)->bC (m.map It4.x) (m.map It4.u)/\aN K H (m.map It4.d) (m.map It4.x)
 | [],_=>⟨.nil,aN.nil⟩
 | q::m,h=>by
  obtain ⟨h1,h2⟩:=wR (m:=m) fun z hz=>h z (mK _ hz);obtain ⟨J,L⟩:=h q OR;exact ⟨.cons J h1,aN.cons L h2⟩
section
variable {X:Cx} {af:abw} {Z:St} {κ:R D->Option K4} {F:abC->R D} {k:Nat} {f a kS:Do} {fd:Wl} {ps:abv} {mg:aby} {E:abx}
def Ly {H:Hp} {s:iF} {Q:VK} {us:abA} {vs:abB} {sp:Sp} (G:FnOk X.prog X.w X.K X.mg X.base dc k f fd ps sp) (L:Room k X.A.in1.in1) (Y:l9 X.K fd ps [])
  (I:Inv X af Z H s) (r:bC vs us) (h:sp vs H Q E0):Le (VL X.prog X.w) X.A.in1.in1 (call (.ref f) us) (EP X af Z Q) E s:=by
 have hl:(us++[]).length=ps.length:=by rw [WC,<- r.length];exact G.len _ _ _ _ h
 have b:=Y s us I.kIn hl;rw [WC] at b;refine wpAny_call (ji I.tk (Ya (G.run X.A.in1.in1 X.stack s H ⟨us,[]⟩ us vs Q E0 L I.env0.in1.in1 b r h) fun r s' J htk=>?_));cases r with
 | error e=>exact WW J
 | ok fl =>
  cases fl with
  | ret u=>exact I.after J
  | next=>exact WW J
  | brk=>exact WW J
  | cont=>exact WW J
def Gp (kS:Do) (H H':Hp):Prop:=∀ b o,b≠kS->H b=some o->H' b=some o
def Gp.masked {H H':Hp} {as:abz} (h:Gp kS H H'):aH (aP (kS::as) H) (aP (kS::as) H'):=fun b o e=>by
 by_cases J:b∈kS::as
 .rw [fD J] at e;cases e
 .rw [bc J] at e ⊢;exact h b o (fun z=>J (z ▸ OR)) e
def Gp.upd {H:Hp} {o:HO}:Gp kS H (upd H kS o):=fun b u J e=>by rw [aU J];exact e
theorem Gp.trans {H H1 H2:Hp} (h:Gp kS H H1) (g:Gp kS H1 H2):Gp kS H H2:=fun b o J e=>g b o J (h b o J e)
def Vf (X:Cx) (af:abw) (Z:St) (kS:Do) (as:abz) (H:Hp) (ks:abC) (s':iF):Prop :=
 ∃ H' kvs,Inv X af Z H' s'/\Gp kS H H'/\H' kS=some (.lst kvs)/\aN X.K (aP (kS::as) H') ks kvs
def Hg {H:Hp} {s:iF} {as:abz} {us:abA} {xs:abB} {ds:abC} {l:List K4} {e1:Nat} {P:YC->iF->Prop}
  (G:FnOk X.prog X.w X.K X.mg X.base dc k f fd ps (eY X.K mg F)) (hr:Room k X.A.in1.in1) (Y:l9 X.K fd ps []) (I:Inv X af Z H s) (hk:H kS=some (.lst [])) (has:∀ b∈as,H b≠none) (hks:kS∉as)
  (r:bC xs us) (dn:aN X.K (aP (kS::as) H) ds xs) (hv:∀ r k,κ r=some k->∃ d,r=.ok d) (hl:ng κ F ds=some l) (hz:ds.length<=63)
  (h:∀ H' kvs its n s',Inv X af Z H' s'->Gp kS H H'->H' kS=some (.lst kvs)->aN X.K (aP (kS::as) H') (ds.map (tS F)) kvs->bC kvs its->s'.heap.get? kS=some (Wj "list" its.toArray n) ->
   Le (VL X.prog X.w) X.A.in1.in1 (aao a false us.toArray e1 (.ref kS) its.toArray) P E s') :
  Le (VL X.prog X.w) X.A.in1.in1 (ksk_rest a (.ref f) false us.toArray e1 (.ref kS)) P E s:=by
 have hlen:ds.length=us.length:=dn.len.trans r.length;unfold ksk_rest;refine bY (Yx ?_);rw [List.forIn_toArray];refine bY (ksk_fold (fun j s'=>Vf X af Z kS as H ((ds.map (tS F)).take j) s') us 0 s ⟨H,[],I,fun b o _ e=>e,hk,by rw [Z9];exact aN.nil⟩ (fun j x s' hx hI=>?_) fun s' hd=>?_)
 .obtain ⟨H1,kvs,I1,b1,k1,d1⟩:=hI;rw [ZL] at d1 ⊢;have hj:j < us.length:=by
   have:=VX.mp hx
   exact this.1
  have hjx:j < xs.length:=by rw [r.length];exact hj
  obtain ⟨u,hu,ru⟩:=r.get (i:=j) (BY hjx);rw [hx] at hu;cases hu;obtain ⟨d,hd,dd⟩:=dn.got (i:=j) (BY hjx);obtain ⟨kk,q1,q2⟩:=y1 hl d (Xs hd);obtain ⟨kk',q3⟩:=hv _ _ q2;have ekd:tS F d=kk':=by unfold tS;rw [q3]
  have hkl:kvs.length<=j:=by rw [<- d1.len,Xc];omega
  refine bY (Yk (Wi (Ly (us:=[x]) (vs:=[xs[j]]) (Q:=fun v H2=>aH H1 H2/\dF X.K (aP (kS::as) H2) (tS F d) v) (E:=fun _ _=>False) G hr Y I1 (.cons ru .nil) ⟨kS::as,[d],fun b Y=>?_,aN.cons (dd.mono b1.masked) aN.nil,?_⟩) (fun u s2 hq=>?_) fun _ _ hF=>hF.elim))
  .rcases nE.mp Y with rfl|Y
   .rw [k1];simp
   .cases e:H b with
    | none=>exact absurd e (has b Y)
    | some o=>rw [b1 b o (fun z=>hks (z ▸ Y)) e];simp
  .rw [q3];exact fun v H' s dv=>⟨s,by rw [ekd];exact dv⟩
  .obtain ⟨v,H2,I2,rv,L,dv⟩:=hq;have k2:=L _ _ k1;obtain ⟨z2,its,n,ri,J,e2⟩:=I2.lstM k2;try dsimp only
   refine bY (XR e2 rfl ?_ (by rw [tx,<- J,V6];omega) (RW (aaQ (Array.size_push ..)) (by rw [tx,<- J,V6];omega)));refine rW ⟨rfl,?_⟩;have I3:=I2.lset (its':=its++[u]) (f:=(·.push u)) (t':=s2.toks) k2 e2 (by simp) (ri.append (.cons rv .nil)) (by rw [VU,W9,V6];omega) (by walk_at "tok");refine ⟨_,_,I3,(b1.trans fun b o _ e=>L b o e).trans Gp.upd,a9,?_⟩;have e:(ds.map (tS F)).take (j+1)=(ds.map (tS F)).take j++[tS F d]:=by
    rw [List.take_add_one,V0,hd];rfl
   rw [e];refine ((d1.mono (bh L)).append (aN.cons dv aN.nil)).mono (Gp.upd (kS:=kS) (H:=H2)).masked
 .obtain ⟨H1,kvs,I1,b1,k1,d1⟩:=hd;have e:(ds.map (tS F)).take (0+us.length)=ds.map (tS F):=by rw [ZL];exact W0 (by rw [iN,hlen];exact oR _)
  rw [e] at d1;obtain ⟨z2,its,n,ri,J,e2⟩:=I1.lstM k1;refine bY (listItems_at e2 rfl ?_);exact h H1 kvs its n s' I1 b1 k1 d1 ri e2
end
end L2
namespace TS
open PySem PyProof.Rows PySem.SeqAt
section
variable {prog:VH} {w:VZ} {A:VV} {E:abx} {s:iF} {kd:gs->K4} {a kS:Do} {ks vs:abA}
def z8 {p q:Do} {xs ys:Array gs} {l:Bool} (L:YE s.heap p xs) (J:YE s.heap q ys) (Y:LT.Lx A.in1 s xs.toList ys.toList l) (hu:A.units < YX) {Q:Bool->iF->Prop} (h:Q l s):Le (VL prog w) A (oneLt' false (.ref p) (.ref q)) Q E s :=
 abd _ _ (LT.LtAt.tup L J Y hu prog w E _ (show aaZ Q (.bool l) s from h))
def An {p q:Do} {x y x' y':gs} {J L:Bool} (hp:YE s.heap p #[x,y]) (hq:YE s.heap q #[x',y']) (hu:A.units < YX) (h1:EqAt A.in1 s x x' J) (h2:EqAt A.in1 s y y' L) (hs:p=q->(J&&L)=true):EqAt A s (.ref p) (.ref q) (J&&L):=by
 by_cases Y:p=q
 .rw [hs Y,Y];exact EqAt.same _
 .have:=RcAt.tuples (e:=fun j=>if j=0 then J else L) hp hq hu fun j g1 g2=>by
   match j,g1,g2 with
   | 0,_,_=>exact h1
   | 1,_,_=>exact h2
   | j+2,g1,_=>exact absurd g1 (by simp)
  refine EqAt.of_refs Y ?_;have e:((W1 (min (#[x,y]:Array gs).size (#[x',y']:Array gs).size)).all (fun j=>if j=0 then J else L)&&(#[x,y]:Array gs).size==(#[x',y']:Array gs).size)=(J&&L):=by
   cases J <;> cases L <;> rfl
  rw [e] at this;exact this
def Key2 (s:iF) (kd:gs->K4) (v:gs):Prop:=∃ p q a t y c u,v=.ref p/\YE s.heap p #[.ref q,.int c u]/\YE s.heap q #[.int a t,y] /\
 ((∃ b r,y=.int b r/\a≠2/\kd v=(a,b,[],c))\/∃ z r,y=.str z r/\a=2/\kd v=(2,0,z.cps.toList,c))
def In2 (s:iF) (kd:gs->K4) (x:W6):Prop:=Key2 s kd x.1
def tR {p:Do} {xs ys:Array gs} (h:YE s.heap p xs) (g:YE s.heap p ys):xs=ys:=by
 obtain ⟨o,L,_,n,J⟩:=h;obtain ⟨o',f1,_,m,f2⟩:=g;rw [L] at f1;cases f1;rw [J] at f2;cases f2;rfl
def Lv {x y:W6} {st:WZ} {Q:Option Bool->WZ->Prop} {p q p' Y:Do} {c c':Int} {u u':Tok} {e l:Bool} (hx:x.1=.ref p) (hy:y.1=.ref p') (h1:YE s.heap p #[.ref q,.int c u]) (h2:YE s.heap p' #[.ref Y,.int c' u'])
  (he:EqAt A s (.ref q) (.ref Y) e) (hl:e=false->∀ (Q:Bool->iF->Prop),Q l s->Le (VL prog w) A (oneLt' false (.ref q) (.ref Y)) Q (fun _ _=>False) s) (hk:kindOf st=tuples' false)
  (hq:Q (some (if e=true then decide (c < c') else l)) st):wpS (VL prog w) A E s (lt' x y) Q st:=by
 obtain ⟨o,e1,_,n,e2⟩:=h1;obtain ⟨o',f1,_,m,f2⟩:=h2;rw [lt'_eq];refine VR (aan ?_);rw [hk,hx,hy];have fin:∀ r:Bool,r=(if e=true then decide (c < c') else l)->(fun v s'=>s'=s/\(fun (u:Except gs Bool) (L:WZ)=>wpS (VL prog w) A E s (match u with|.ok b=>pure (some b)|.error e=>do modify (fun s=>ZY (kindOf s) (VJ s) (XC s) (gallopOf s) (some e));pure none) Q L) v st) (.ok r) s:=fun r hr=>⟨rfl,by rw [hr];exact V8 hq⟩
 refine VR (aaC (Yk (PySem.W.kat_lt e1 e2 f1 f2 ?_)));refine aa0 (he prog w _ _ (abh (fun z=>abe ?_) fun z=>abi (hl z _ (fin _ (by rw [z];rfl)))));refine aa0 (wpAny_eqBool_int (abh (fun J=>abe ?_) fun J=>abi (MN (fin _ (by rw [abn z])))));refine PySem.W.kat_nil (fin _ ?_);have J:c=c':=by simpa using J
 rw [abn z,J,abp (Int.lt_irrefl c')];rfl
def UU (hu:A.units+2 < YX):Orc (VL prog w) A E s (OE kd) (tuples' false) (In2 s kd):=by
 refine ⟨fun x y h=>?_,fun x y z h g=>?_,fun x y st Q hx hy hk hq=>?_⟩
 .have h:=abr h;exact abp fun g=>to4.irr _ (to4.tr _ _ _ h g)
 .have h:=of_decide_eq_false h;have g:=of_decide_eq_false g;refine abp fun e=>?_;rcases to4.tri (kd y.1) (kd x.1) with q|q|q
  .exact h q
  .exact g (q ▸ e)
  .exact g (to4.tr _ _ _ e q)
 .obtain ⟨p,q,a,t,yy,c,u,e1,e2,Y,e4⟩:=hx;obtain ⟨p',q',J,t',yy',c',u',f1,f2,f3,f4⟩:=hy;have L:A.units < YX:=by omega
  have hb:OE kd x y=decide (iL (kd x.1) (kd y.1)):=rfl;rw [hb] at hq;have i0:EqAt A.in1 s (.int a t) (.int J t') (a==J):=EqAt.int_int _ _ _ _;rcases e4 with ⟨b,r,rfl,a2,e5⟩|⟨z,r,rfl,a2,e5⟩ <;> rcases f4 with ⟨b',r',rfl,a2',f5⟩|⟨z',r',rfl,a2',f5⟩
  .rw [e5,f5] at hq;have hs:q=q'->((a==J)&&(b==b'))=true:=fun z=>by
    have:=tR Y (z ▸ f3)
    simp at this;simp [this.1.1,this.2.1]
   refine Lv (l:=if a=J then decide (b < b') else decide (a < J)) e1 f1 e2 f2 (An Y f3 L i0 (EqAt.int_int _ _ _ _) hs) (fun z Q h=>z8 Y f3 ?_ L h) hk ?_
   .by_cases h1:a=J
    .subst h1;rw [abn rfl];refine .eq (by have:=i0;rwa [beq_self_eq_true] at this) (.ne ?_ (LT.LtAt.int _ _ _ _));have e:(b==b')=false:=by rw [beq_self_eq_true,Zv] at z;exact z
     rw [<- e];exact EqAt.int_int _ _ _ _
    .rw [abo h1];exact .ne (by rw [<- beq_eq_false_iff_ne.mpr h1];exact i0) (LT.LtAt.int _ _ _ _)
   .have e:(if ((a==J)&&(b==b'))=true then decide (c < c') else if a=J then decide (b < b') else decide (a < J))=decide (iL (a,b,[],c) (J,b',[],c')):=by
     by_cases h1:a=J
     .subst h1;by_cases h2:b=b'
      .subst h2;rw [abn (by simp)];exact decide_eq_decide.mpr l4.symm
      .rw [abo (by simp [h2]),abn rfl];exact decide_eq_decide.mpr (l2 h2).symm
     .rw [abo (by simp [h1]),abo h1];exact decide_eq_decide.mpr (l1 h1).symm
    rw [e];exact hq
  .rw [e5,f5] at hq;subst a2';have h1:¬ a=2:=a2;have hs:q=q'->((a==2)&&false)=true:=fun z=>by
    have:=tR Y (z ▸ f3)
    simp at this
   refine Lv (l:=decide (a < 2)) e1 f1 e2 f2 (An Y f3 L i0 (EqAt.int_str _ _ _ _) hs) (fun z Q h=>z8 Y f3 (.ne (by rw [<- beq_eq_false_iff_ne.mpr h1];exact i0) (LT.LtAt.int _ _ _ _)) L h) hk ?_;have e:(if ((a==2)&&false)=true then decide (c < c') else decide (a < 2))=decide (iL (a,b,[],c) (2,0,z'.cps.toList,c')):=by
    rw [abo (by simp)];exact decide_eq_decide.mpr (l1 h1).symm
   rw [e];exact hq
  .rw [e5,f5] at hq;subst a2;have h1:¬ (2:Int)=J:=fun z=>a2' z.symm;have hs:q=q'->(((2:Int)==J)&&false)=true:=fun z=>by
    have:=tR Y (z ▸ f3)
    simp at this
   refine Lv (l:=decide ((2:Int) < J)) e1 f1 e2 f2 (An Y f3 L i0 (EqAt.str_int _ _ _ _) hs) (fun z Q h=>z8 Y f3 (.ne (by rw [<- beq_eq_false_iff_ne.mpr h1];exact i0) (LT.LtAt.int _ _ _ _)) L h) hk ?_;have e:(if (((2:Int)==J)&&false)=true then decide (c < c') else decide ((2:Int) < J))=decide (iL (2,0,z.cps.toList,c) (J,b',[],c')):=by
    rw [abo (by simp)];exact decide_eq_decide.mpr (l1 h1).symm
   rw [e];exact hq
  .rw [e5,f5] at hq;subst a2 a2';have hs:q=q'->(((2:Int)==2)&&(z==z'))=true:=fun w=>by
    have:=tR Y (w ▸ f3)
    simp at this;simp [this.2.1]
   refine Lv (l:=decide (z.cps.toList < z'.cps.toList)) e1 f1 e2 f2 (An Y f3 L i0 (EqAt.str_str _ _ _ _) hs) (fun w Q h=>z8 Y f3 ?_ L h) hk ?_
   .refine .eq (by have:=i0;rwa [beq_self_eq_true] at this) (.ne ?_ (LT.LtAt.str _ _ _ _));have e:(z==z')=false:=by rw [beq_self_eq_true,Zv] at w;exact w
    rw [<- e];exact EqAt.str_str _ _ _ _
   .have e:(if (((2:Int)==2)&&(z==z'))=true then decide (c < c') else decide (z.cps.toList < z'.cps.toList))=decide (iL (2,0,z.cps.toList,c) (2,0,z'.cps.toList,c')):=by
     by_cases h2:z=z'
     .subst h2;rw [abn (by simp)];exact decide_eq_decide.mpr l4.symm
     .rw [abo (by simp [h2])];exact decide_eq_decide.mpr (l3 (OA h2)).symm
    rw [e];exact hq
end
section
variable {prog:VH} {w:VZ} {A:VV} {E:abx} {s:iF} {kd:gs->K4} {a kS:Do} {ks vs:abA}
def EJ:∀ {ks:abA},(∀ k∈ks,Key2 s kd k)->∃ fs,PySem.W.KatTups s.heap ks fs/\fs.length=ks.length/\∀ v∈fs,∃ q xs,v=We q/\YE s.heap q xs
 | [],_=>⟨[],PySem.W.KatTups.nil,rfl,fun v J=>nomatch J⟩
 | k::r,h=>by
  obtain ⟨p,q,a,t,y,c,u,rfl,⟨o,L,e2,n,e3⟩,h2,_⟩:=h k (by simp);obtain ⟨fs,f1,f2,f3⟩:=EJ (ks:=r) fun x Y=>h x (mK _ Y);refine ⟨.ref q::fs,PySem.W.KatTups.cons L e2 e3 rfl f1,by simp [f2],fun v J=>?_⟩;rcases nE.mp J with rfl|J
  .exact ⟨q,_,rfl,h2⟩
  .exact f3 v J
def LC {e e1:Nat} {P:YC->iF->Prop} (hu:A.units+2 < YX) (hl:ks.length=vs.length) (h2:2<=vs.length) (hz:vs.length<=63) (na:s.heap.get? a=some (Wj "list" #[] e1)) (nk:s.heap.get? kS=some (Wj "list" ks.toArray e)) (hne:a≠kS) (L:∀ k∈ks,Key2 s kd k)
  (h:∀ ps:List W6,ps.Perm (ks.zip vs)->ps.Pairwise (fun x y=>¬ iL (kd y.1) (kd x.1))->P (.done (.ret .none)) { s with heap:=behind s.heap kS a (ps.map (·.2)) }) :
  Le (VL prog w) A (aao a false vs.toArray e1 (.ref kS) ks.toArray) P E s:=by
 obtain ⟨fs,f1,f2,f3⟩:=EJ L;have hn2:¬ vs.toArray.size < 2:=by rw [tx];omega
 unfold aao;try dsimp only
 rw [abo lT,abo hn2,abo hn2];refine bY (PySem.W.kat_kind (T:=.type "tuple") f1 (by omega) (fun v hv=>?_) (by trivial) ?_)
 .obtain ⟨x,xs,rfl,⟨o,g1,g2,_⟩⟩:=f3 v hv;exact g2 ▸ (PySem.W.Looks.ld g1).andThen .now
 rw [abo lT];have zl:(ks.toArray.zip vs.toArray).toList=ks.zip vs:=by simp
 have zs:(ks.toArray.zip vs.toArray).size=vs.length:=by rw [<- Ww,zl,Xb];omega
 have ek:tuples' ((YK "tuple") != YK "tuple")=tuples' false:=by rfl
 rw [ek];refine bY (Wi (xq (UU (kd:=kd) hu) (st:=ZY (tuples' false) (ks.toArray.zip vs.toArray) #[] 7 none)
  (Q:=fun _ J=>(VJ J).Perm (ks.toArray.zip vs.toArray)/\Yz J=none/\SegG (OE kd) (VJ J) 0 (ks.toArray.zip vs.toArray).size) rfl (fun x hx=>?_) rfl rfl (by show 2<=(ks.toArray.zip vs.toArray).size;omega) (by show (ks.toArray.zip vs.toArray).size<=63;omega) fun J a1 a2 a3=>⟨a1,a2,a3⟩) ?_ fun _ _ z=>z)
 .have hx:x∈ks.zip vs:=by rw [<- zl];exact hx
  exact L x.1 (V5 hx).1
 rintro ⟨⟨⟩,J⟩ s' ⟨rfl,hp,hf,hs⟩;have Y:(VJ J).toList.Perm (ks.zip vs):=by rw [<- zl];exact XT.mp hp
 refine Fu (out:=(VJ J).toList.map (·.2)) na nk hne (by apply X4.mp;rw [ZF]) (by rw [iN,Y.length_eq,Xb];omega) (by omega) hf (h _ Y ?_);rw [Zd];intro i j hi hj hij;rw [Ww] at hi hj
 have:=hs i j (by omega) (by omega) (by rw [<- hp.size_eq];exact hj)
 rw [GJ hi,GJ hj] at this;simpa using of_decide_eq_false this
end
end TS
namespace TS
open PySem PyProof.Rows
section
variable {prog:VH} {w:VZ} {A:VV} {E:abx} {s:iF} {kd:gs->K4} {a kS:Do} {ks vs:abA}
def LM {e e1:Nat} {P:YC->iF->Prop} (hl:ks.length=vs.length) (h2:vs.length < 2) (na:s.heap.get? a=some (Wj "list" #[] e1)) (nk:s.heap.get? kS=some (Wj "list" ks.toArray e)) (Y:a≠kS)
  (h:∀ ps:List W6,ps.Perm (ks.zip vs)->ps.Pairwise (fun x y=>¬ iL (kd y.1) (kd x.1))->P (.done (.ret .none)) { s with heap:=behind s.heap kS a (ps.map (·.2)) }) :
  Le (VL prog w) A (aao a false vs.toArray e1 (.ref kS) ks.toArray) P E s:=by
 have L:vs.toArray.size < 2:=by rw [tx];omega
 unfold aao;try dsimp only
 rw [abo lT,abn L,abn L];refine bY (rW ?_);rw [abo lT];have zl:(ks.toArray.zip vs.toArray).toList=ks.zip vs:=by simp
 have J:(ks.zip vs).length < 2:=by rw [Xb];omega
 refine bY (rW ?_);refine Fu (st:=ZY general' (ks.toArray.zip vs.toArray) #[] 7 none) (out:=(ks.zip vs).map (·.2)) na nk Y ?_ (by rw [iN];omega) (by omega) rfl (h _ (List.Perm.refl _) ?_)
 .show (ks.toArray.zip vs.toArray).map (·.2)=_;apply X4.mp
  rw [ZF,zl]
 .match hq:ks.zip vs with
  | []=>exact Ys
  | [x]=>exact Yg _ _
  | x::y::r=>rw [hq] at J;simp at J;omega
end
end TS
namespace L2
open PySem PySem.Spec PyProof.Rows
open TS (K4 iL)
section
variable {X:Cx} {af:abw} {Z:St} {F:abC->R D} {k:Nat} {f a kS:Do} {fd:Wl} {ps:abv} {mg:aby} {E:abx}
structure KF (κ:R D->Option K4) where
 kd:Xj->gs->K4
 At:iF->gs->Prop
 val:∀ r k,κ r=some k->∃ d,r=.ok d
 laid:∀ {X:Cx} {af:abw} {Z:St} {H Hm:Hp} {s:iF} {d:D} {k:K4} {v:V} {u:gs},Inv X af Z H s->aH Hm H->κ (.ok d)=some k->dF X.K Hm d v->bq v u->At s u/\kd s.heap u=k
 fin:∀ {prog:VH} {w:VZ} {A:VV} {E:abx} {s:iF} {a kS:Do} {ks vs:abA} {e e1:Nat} {P:YC->iF->Prop},A.units+2 < YX->ks.length=vs.length->2<=vs.length->vs.length<=63->s.heap.get? a=some (Wj "list" #[] e1)->s.heap.get? kS=some (Wj "list" ks.toArray e)->a≠kS->(∀ k∈ks,At s k) ->
  (∀ ps:List W6,ps.Perm (ks.zip vs)->ps.Pairwise (fun x y=>¬ iL (kd s.heap y.1) (kd s.heap x.1))->P (.done (.ret .none)) { s with heap:=TS.behind s.heap kS a (ps.map (·.2)) }) ->
  Le (VL prog w) A (aao a false vs.toArray e1 (.ref kS) ks.toArray) P E s
def QW (xs:abC):Option (D×D):=match xs with
 | [x,y]=>some (x,y)
 | _=>none
def Jf (d:D):Option (D×D):=match d with
 | .tup xs=>QW xs
 | _=>none
def K7 {xs:abC} {p:D×D} (h:QW xs=some p):xs=[p.1,p.2]:=by
 match xs,h with
 | [],h=>exact wl h
 | [x],h=>exact wl h
 | [x,y],h=>cases h;rfl
 | x::y::z::r,h=>exact wl h
def y0 {d:D} {p:D×D} (h:Jf d=some p):d=.tup [p.1,p.2]:=by
 cases d with
 | tup xs=>exact abt D.tup (K7 h)
 | _=>exact wl (a:=p) h
def S7 (a c:Int) (y:D):Option K4:=match y with
 | .int b=>if a=2 then none else some (a,b,[],c)
 | .str z=>if a=2 then some (2,0,z.cps.toList,c) else none
 | _=>none
def keyN (r:R D):Option K4:=match r with
 | .ok d=>(Jf d).bind fun p=>(Ts p.2).bind fun c=>(Jf p.1).bind fun q=>(Ts q.1).bind fun a=>S7 a c q.2
 | _=>none
def Co {r:R D} {k:K4} (h:keyN r=some k):∃ a y c,r=.ok (.tup [.tup [.int a,y],.int c])/\S7 a c y=some k:=by
 cases r with
 | ok d =>
  obtain ⟨p,L,h⟩:=Xd.mp h;obtain ⟨c,J,h⟩:=Xd.mp h;obtain ⟨q,e3,h⟩:=Xd.mp h;obtain ⟨a,Y,h⟩:=Xd.mp h;exact ⟨a,q.2,c,by rw [y0 L,AA J,y0 e3,AA Y],h⟩
 | _=>exact wl (a:=k) h
def Ff (h:Xj) (v:gs):abA:=match v with
 | .ref p=>(match h.get? p with
  | some o=>(match o.data with
   | .seq xs _=>xs.toList
   | _=>[])
  | none=>[])
 | _=>[]
def CG {h:Xj} {p:Do} {xs:Array gs} (t:YE h p xs):Ff h (.ref p)=xs.toList:=by
 obtain ⟨o,L,_,n,J⟩:=t;unfold Ff;dsimp only;rw [L];dsimp only;rw [J]
def Q3 (xs:abA) (c:Int):K4:=match xs with
 | [.int a _,.int b _]=>(a,b,[],c)
 | [_,.str z _]=>(2,0,z.cps.toList,c)
 | _=>(0,0,[],0)
def TL (h:Xj) (v:gs):K4:=match Ff h v with
 | [x,.int c _]=>Q3 (Ff h x) c
 | _=>(0,0,[],0)
def Vi:KF keyN where
 kd:=TL
 At:=fun s v=>TS.Key2 s (TL s.heap) v
 val:=fun r k h=>by
  obtain ⟨a,y,c,e,_⟩:=Co h;exact ⟨_,e⟩
 laid:=fun {X af Z H Hm s d k v u} I hm h dn ru=>by
  obtain ⟨a,y,c,q3,J⟩:=Co h;cases q3;obtain ⟨p,ys,rfl,hq,dy⟩:=dn;cases ru;obtain ⟨its,ri,L,_⟩:=I.tuple (hm.seqT hq);obtain ⟨v1,vs1,rfl,d1,v2,vs2,rfl,d2,rfl⟩:=dy;cases d2;obtain ⟨q,zs,rfl,hq2,dz⟩:=d1;obtain ⟨its2,ri2,t2,_⟩:=I.tuple (hm.seqT hq2);obtain ⟨w1,ws1,rfl,g1,w2,ws2,rfl,g2,rfl⟩:=dz;cases g1;cases ri with
  | cons r1 rr =>
   cases r1;cases rr with
   | cons r2 Y =>
    obtain ⟨tc,rfl⟩:=r2;cases Y;cases ri2 with
    | cons r3 rr3 =>
     obtain ⟨ta,rfl⟩:=r3;cases rr3 with
     | cons r4 rr4 =>
      cases rr4;have ek:∀ yv,yv=_->TL s.heap (.ref p)=Q3 [.int a ta,yv] c:=fun yv hy=>by
       unfold TL;rw [CG L];dsimp only;rw [CG t2,hy]
      cases y with
      | int b =>
       cases g2;obtain ⟨tb,rfl⟩:=r4;have e:=ek _ rfl;have J:(if a=2 then none else some (a,b,[],c))=some k:=J;by_cases h2:a=2
       .rw [abn h2] at J;cases J
       .rw [abo h2] at J;cases J;exact ⟨⟨p,q,a,ta,_,c,tc,rfl,L,t2,.inl ⟨b,tb,rfl,h2,e⟩⟩,e⟩
      | str z =>
       cases g2;obtain ⟨tb,rfl⟩:=r4;have e:=ek _ rfl;have J:(if a=2 then some (2,0,z.cps.toList,c) else none)=some k:=J;by_cases h2:a=2
       .rw [abn h2] at J;cases J;exact ⟨⟨p,q,a,ta,_,c,tc,rfl,L,t2,.inr ⟨z,tb,rfl,h2,e⟩⟩,e⟩
       .rw [abo h2] at J;cases J
      | _=>exact wl (a:=k) J
 fin:=fun hu hl h2 hz na nk hne hk h=>TS.LC hu hl h2 hz na nk hne hk h
def KF.finA {κ:R D->Option K4} (C:KF κ) {prog:VH} {w:VZ} {A:VV} {E:abx} {s:iF} {a kS:Do} {ks vs:abA} {e Y:Nat} {P:YC->iF->Prop} (hu:A.units+2 < YX) (hl:ks.length=vs.length) (hz:vs.length<=63)
  (na:s.heap.get? a=some (Wj "list" #[] Y)) (L:s.heap.get? kS=some (Wj "list" ks.toArray e)) (J:a≠kS) (hk:∀ k∈ks,C.At s k)
  (h:∀ ps:List W6,ps.Perm (ks.zip vs)->ps.Pairwise (fun x y=>¬ iL (C.kd s.heap y.1) (C.kd s.heap x.1))->P (.done (.ret .none)) { s with heap:=TS.behind s.heap kS a (ps.map (·.2)) }) :
  Le (VL prog w) A (aao a false vs.toArray Y (.ref kS) ks.toArray) P E s:=by
 by_cases h2:vs.length < 2
 .exact TS.LM (kd:=C.kd s.heap) hl h2 na L J h
 .exact C.fin hu hl (by omega) hz na L J hk h
def M8 {κ:R D->Option K4} (C:KF κ) {H Hm:Hp} {s:iF} (I:Inv X af Z H s) (Y:aH Hm H):∀ {ds:abC} {kvs:abB} {its:abA} {l:List K4},aN X.K Hm (ds.map (tS F)) kvs->bC kvs its->ng κ F ds=some l ->
  (∀ v∈its,C.At s v)/\Paired (fun v d=>lh d=some (C.kd s.heap v)) its ds/\its.map (C.kd s.heap)=l
 | [],_,_,_,dn,r,h=>by cases dn;cases r;cases h;exact ⟨fun v J=>(nomatch J),.nil,rfl⟩
 | d::ds,_,_,_,⟨v,vs,e,d1,d2⟩,r,h=>by
  subst e;obtain ⟨q,qs,rfl,h1,h2,h3⟩:=ya h;cases r with
  | @cons _ u _ us r1 r2 =>
   obtain ⟨i1,i2,i3⟩:=M8 C I Y d2 r2 h3;obtain ⟨kk,q3⟩:=C.val _ _ h2;have L:tS F d=kk:=by unfold tS;rw [q3]
   rw [L] at d1;rw [q3] at h2;obtain ⟨a1,a2⟩:=C.laid I Y h2 d1 r1;refine ⟨fun v J=>?_,.cons (by rw [h1,a2]) i2,by rw [By,i3,a2]⟩;rcases nE.mp J with rfl|J
   .exact a1
   .exact i1 v J
def GR {κ:R D->Option K4} (C:KF κ) {H0 H H':Hp} {s':iF} {as:abz} {us its:abA} {xs kvs:abB} {ds:abC} {l:List K4} {e1 n:Nat} {P:YC->iF->Prop} {oa:Obj}
  (I:Inv X (af++[(a,Wj "list" #[] e1)]) Z H' s') (fa:iI X af H' a) (h0:aH H0 H) (h0k:H0 kS=none) (h0a:H0 a=none) (b:Gp kS H H') (hk:H' kS=some (.lst kvs)) (dk:aN X.K (aP (kS::as) H') (ds.map (tS F)) kvs) (rk:bC kvs its)
  (ek:s'.heap.get? kS=some (Wj "list" its.toArray n)) (has:a∉as) (hks:kS∉as) (hne:a≠kS)
  (r:bC xs us) (dn:aN X.K (aP (kS::as) H) ds xs) (hl:ng κ F ds=some l) (hu:X.A.in1.in1.units+2 < YX) (hz:ds.length<=63) (hbase:X.s₀.heap.get? a=none)
  (h:∀ Y s'' outV,Inv X af Z Y s''->aH H0 Y->Y a=some (.lst outV)->aN X.K (aP (a::as) Y) ((l.mergeSort FR).map aI) outV->P (.done (.ret .none)) s'') :
  Le (VL X.prog X.w) X.A.in1.in1 (aao a false us.toArray e1 (.ref kS) its.toArray) P E s':=by
 have pa:=I.pin (a,Wj "list" #[] e1) (by simp);have hlu:ds.length=us.length:=dn.len.trans r.length;have hlk:its.length=us.length:=by rw [<- rk.length,<- dk.len,iN,hlu]
 obtain ⟨k1,k2,k3⟩:=M8 C I (aC _ _) dk rk hl;refine C.finA hu hlk (by omega) pa.1 ek hne k1 fun qs hp hs=>?_;obtain ⟨m,m1,m2,m3⟩:=Ki r (dn.mono b.masked) k2;rw [<- m1] at hp;obtain ⟨J,p1,p2⟩:=Bt hp rfl;subst p2;have m3':∀ q∈J,bq q.x q.u/\dF X.K (aP (kS::as) H') q.d q.x/\lh q.d=some (C.kd s'.heap q.k):=fun q hq=>m3 q (p1.mem_iff.mp hq);obtain ⟨v1,v2⟩:=wR (m:=J) fun q hq=>⟨(m3' q hq).1,(m3' q hq).2.1⟩;have eo:(J.map fun q=>(q.k,q.u)).map (·.2)=J.map It4.u:=by rw [V9];rfl
 rw [eo];have ed:J.map It4.d=(l.mergeSort FR).map aI:=by
  have e1:J.map It4.d=(J.map fun q=>C.kd s'.heap q.k).map aI:=by
   rw [V9];exact WI fun q hq=>(pS (m3' q hq).2.2).symm
  have e2:J.map (fun q=>C.kd s'.heap q.k)=l.mergeSort FR:=by
   refine G1 ?_ ?_
   .have e3:m.map (fun q=>C.kd s'.heap q.k)=l:=by
     rw [<- k3]
     have:m.map (fun q=>q.k)=its:=by
      have:=abt (List.map VP) m1
      rw [V9,List.map_fst_zip (by omega)] at this;exact this
     rw [<- this,V9];rfl
    rw [<- e3];exact p1.map _
   .rw [Xz] at hs ⊢;exact hs
  rw [e1,e2]
 rw [ed] at v2;have hol:(J.map It4.x).length<=IF:=by
  rw [v1.length,iN,p1.length_eq,<- iN (as:=m) (f:=It4.d),m2,V6];omega
 have I1:=I.lset (its':=[]) (ys:=[]) (f:=fun _=>(#[]:Array gs)) (t':=s'.toks) hk ek rfl .nil (VY _) (by walk_at "tok");have I2:Inv X af Z (upd H' kS (.lst [])) { s' with heap:=s'.heap.update kS (VW fun _=>(#[]:Array gs)) }:=I1.unpinned;obtain ⟨f0,f1,f2,f3,f4,f5⟩:=fa;have f0':upd H' kS (.lst []) a=none:=by rw [aU hne];exact f0
 have na:(s'.heap.update kS (VW fun _=>(#[]:Array gs))).get? a=some (Wj "list" #[] e1):=((X6 s'.heap kS (VW fun _=>(#[]:Array gs))).2 a hne).trans pa.1;have I3:=I2.turned (t':=s'.toks) (h':=(s'.heap.update kS (VW fun _=>(#[]:Array gs))).update a (VW fun _=>(J.map It4.u).toArray)) (it:=a) (fun L u hb hu=>(Yn _ _ (X5 hb)).trans hu) f0' f1 f3 f4 f5 (by walk_at "tok");have I4:=I3.track (y:=a) (o:=.lst (J.map It4.x)) ⟨hbase,f1,f2,f4,f5⟩ f0' ⟨hol,_,_,v1,aaX na _⟩;refine h _ _ (J.map It4.x) I4 (fun L o e=>?_) a9 (v2.mono fun L o e=>?_)
 .have n1:L≠a:=fun z=>by rw [z,h0a] at e;cases e
  have n2:L≠kS:=fun z=>by rw [z,h0k] at e;cases e
  rw [aU n1,aU n2];exact b L o n2 (h0 L o e)
 .by_cases hb:L∈kS::as
  .rw [fD hb] at e;cases e
  .rw [bc hb] at e;have n1:L≠a:=fun z=>by rw [z,f0] at e;cases e
   have n2:L≠kS:=fun z=>hb (z ▸ OR);rw [bc (fun z=>(nE.mp z).elim n1 fun z=>hb (mK _ z)),aU n1,aU n2];exact e
end
section
variable {X:Cx} {af:abw} {Z:St} {F:abC->R D} {k:Nat} {f a:Do} {fd:Wl} {ps:abv} {mg:aby} {E:abx}
def F8 {κ:R D->Option K4} (C:KF κ) {H:Hp} {s:iF} {as:abz} {us:abA} {xs:abB} {ds:abC} {l:List K4} {n:Nat} {P:YC->iF->Prop}
  (G:FnOk X.prog X.w X.K X.mg X.base dc k f fd ps (eY X.K mg F)) (hr:Room k X.A.in1.in1) (Y:l9 X.K fd ps []) (I:Inv X af Z H s) (fa:iI X af H a) (ho:s.heap.get? a=some (Wj "list" us.toArray n)) (has:∀ b∈as,H b≠none)
  (r:bC xs us) (dn:aN X.K (aP as H) ds xs) (hl:ng κ F ds=some l) (hz:ds.length<=63) (hbase:X.s₀.heap.get? a=none)
  (h:∀ L s'' outV,Inv X af Z L s''->aH H L->L a=some (.lst outV)->aN X.K (aP (a::as) L) ((l.mergeSort FR).map aI) outV->P (.done (.ret .none)) s'') :
  Le (VL X.prog X.w) X.A.in1.in1 (ksk_tree a (.ref f) false) P E s:=by
 have hlu:ds.length=us.length:=dn.len.trans r.length;have ha:a < s.heap.objs.size:=ID ho;obtain ⟨e1,ho1⟩:∃ e1,(s.heap.update a (VW fun _=>(#[]:Array gs))).get? a=some (Wj "list" #[] e1):=⟨_,YY ho fun _=>#[]⟩;obtain ⟨f0,f1,f2,f3,f4,f5⟩:=id fa;have I1:=I.turned (t':=s.toks) (h':=s.heap.update a (VW fun _=>(#[]:Array gs))) (it:=a) (fun b' u Y hu=>(Yn _ _ (X5 Y)).trans hu) f0 f1 f3 f4 f5 (by walk_at "tok");have I2:=I1.kept (t':=s.toks) (h':=(s.heap.update a (VW fun _=>(#[]:Array gs))).push (Wj "tuple" us.toArray 0)) (fun _ _ q=>dO _ q) (by walk_at "tok");have I3:=I2.lnew (its:=[]) (ys:=[]) (t':=s.toks) .nil (VY _) (by walk_at "tok");have hkS:((s.heap.update a (VW fun _=>(#[]:Array gs))).push (Wj "tuple" us.toArray 0)).objs.size=s.heap.objs.size+1:=by rw [size_push',Heap.size_update]
 have J:H ((s.heap.update a (VW fun _=>(#[]:Array gs))).push (Wj "tuple" us.toArray 0)).objs.size=none:=I2.fresh;have ho3:(((s.heap.update a (VW fun _=>(#[]:Array gs))).push (Wj "tuple" us.toArray 0)).push (Wj "list" #[] 0)).get? a=some (Wj "list" #[] e1):=dO _ (dO _ ho1);unfold ksk_tree;refine bY (listItems_at ho rfl ?_);refine bY (XR ho rfl ?_ (by rw [tx,V6];omega) (VY _));refine bY (seqEpoch_at ho1 rfl ?_);refine bY (wpAny_newTuple ?_ (by show us.length<=_;rw [V6];omega));refine bY (wpAny_newList ?_ (VY _));refine W7 ?_;have hne:a≠((s.heap.update a (VW fun _=>(#[]:Array gs))).push (Wj "tuple" us.toArray 0)).objs.size:=by rw [hkS];exact VI (Xy ha)
 generalize hq:((s.heap.update a (VW fun _=>(#[]:Array gs))).push (Wj "tuple" us.toArray 0)).objs.size=kS at *;have hkas:kS∉as:=fun z=>has _ z J;have haas:a∉as:=fun z=>has _ z f0;have I4:Inv X (af++[(a,Wj "list" #[] e1)]) Z (upd H kS (.lst [])) { s with heap:=((s.heap.update a (VW fun _=>(#[]:Array gs))).push (Wj "tuple" us.toArray 0)).push (Wj "list" #[] 0) }:=by
  have I3':Inv X af Z (upd H kS (.lst [])) { s with heap:=((s.heap.update a (VW fun _=>(#[]:Array gs))).push (Wj "tuple" us.toArray 0)).push (Wj "list" #[] 0) }:=I3;refine I3'.pins_of fun p hp=>?_;rcases MK.mp hp with hp|hp
  .exact I3'.pin p (VG _ hp)
  .obtain rfl:p=_:=by simpa using hp
   exact ⟨ho3,by rw [aU hne];exact f0,f1,f2,fun v z=>by cases z⟩
 have up:aH H (upd H kS (.lst [])):=bn J _;have dn':aN X.K (aP (kS::as) (upd H kS (.lst []))) ds xs:=dn.mono fun b o e=>by
  by_cases Y:b∈as
  .rw [fD Y] at e;cases e
  .rw [bc Y] at e;have n1:b≠kS:=fun z=>by rw [z,J] at e;cases e
   rw [bc (fun z=>(nE.mp z).elim n1 Y)];exact up b o e
 refine Hg (a:=a) (kS:=kS) (as:=as) (mg:=mg) (F:=F) G hr Y I4 a9 (fun b Y=>by
  cases e:H b with
  | none=>exact absurd e (has b Y)
  | some o=>rw [up b o e];simp) hkas r dn' C.val hl hz fun H' kvs its n' s' I' b' k' d' r' e'=>?_
 have pa:=I'.pin (a,Wj "list" #[] e1) (by simp);exact GR C (oa:=Wj "list" #[] e1) (F:=F) (as:=as) (n:=n') (H0:=H) I' ⟨pa.2.1,f1,f2,f3,f4,f5⟩ up J f0 b' k' d' r' e' haas hkas hne r dn' hl (by have:=hr.un;omega) hz hbase h
def CD {κ:R D->Option K4} (C:KF κ) {H:Hp} {s:iF} {as:abz} {us:abA} {xs:abB} {ds:abC} {l:List K4} {lA:Do} {Q:VK}
  (G:FnOk X.prog X.w X.K X.mg X.base dc k f fd ps (eY X.K mg F)) (hr:Room k X.A.in1.in1) (hb:l9 X.K fd ps []) (I:Inv X af Z H s) (hp:s.heap.IsList lA us.toArray) (has:∀ b∈as,H b≠none)
  (r:bC xs us) (dn:aN X.K (aP as H) ds xs) (hl:ng κ F ds=some l) (hz:ds.length<=63)
  (h:∀ p H' J,aH H H'->H p=none->H' p=some (.lst J)->aN X.K (aP (p::as) H') ((l.mergeSort FR).map aI) J->Q (.ref p) H') :
  Le (VL X.prog X.w) X.A (call (.builtin "sorted") [.ref lA] [(V7 "key",.ref f)]) (EP X af Z Q) E s:=by
 have hlu:ds.length=us.length:=dn.len.trans r.length;refine call_function_entry_kw kind_sorted plain_sorted entry_sorted (ksk_s1 _ _) ?_;unfold Builtin.«sorted»;refine bY (m:=checkCount "sorted" 1 1 _) (rW ?_);refine bY (collect_list hp ?_ (by rw [V6];omega));refine bY (wpAny_newList ?_ (by rw [V6];omega));have hsz:((s.heap.push (Wj "list" #[] 0)).update s.heap.objs.size (VW (·++us.toArray))).objs.size=s.heap.objs.size+1:=by
  rw [Heap.size_update,size_push']
 have Y:(((s.heap.push (Wj "list" #[] 0)).update s.heap.objs.size (VW (·++us.toArray))).push (Wj "list" us.toArray 0)).get? (s.heap.objs.size+1)=some (Wj "list" us.toArray 0):=by
  rw [<- hsz];exact CT _ rfl
 have keep:∀ b o,s.heap.get? b=some o->(((s.heap.push (Wj "list" #[] 0)).update s.heap.objs.size (VW (·++us.toArray))).push (Wj "list" us.toArray 0)).get? b=some o:=fun b o q=>by
  have L:b < s.heap.objs.size:=ID q;rw [Zo _ _ _ (by rw [hsz];exact VI (Xy L)),X7 _ _ _ _ (VI L),Zo _ _ _ (VI L)];exact q
 have hfr:H (s.heap.objs.size+1)=none:=I.hok.fresh (YM _);have I1:=I.kept (t':=s.toks) keep (by walk_at "tok");show Le _ _ _ _ _ { s with heap:=((s.heap.push (Wj "list" #[] 0)).update s.heap.objs.size (VW (·++us.toArray))).push (Wj "list" us.toArray 0) };rw [hsz];refine bY (W7 (wpAny_call_entry_kw slot_list_sort ⟨_,Y,rfl⟩ entry_list_sort ?body (ksk_l1 _ _)));show Le (VL X.prog X.w) X.A.in1.in1 (Builtin.«list.sort» ⟨[.ref (s.heap.objs.size+1)],[(V7 "key",.ref f)]⟩) _ _ _;rw [ksk_t1];refine F8 C (a:=s.heap.objs.size+1) (mg:=mg) (F:=F) (as:=as) G hr hb I1 (I.fpOk (YM _) hfr) Y has r dn hl hz (Z1 (RW I.sz (YM _))) fun H'' s'' J I'' s0 e'' d''=>⟨_,rfl,?_⟩;exact rW ⟨_,rfl,.ref (s.heap.objs.size+1),H'',I'',rfl,h _ H'' J s0 hfr e'' d''⟩
end
def zD {κ:R D->Option K4} (C:KF κ) {X:Cx} {K:aT} {mg:aby} {O:abu} {F:abC->R D} {x:Str} {st:WO} {ps:abv} {f:Do} {fd:Wl} {j k:Nat} {e:Wk} {φ:FE} {p p2 p3 pos:Pos}
  (Df:Def X.K X.mg x st ps f fd) (G:FnOk X.prog X.w X.K X.mg X.base dc j f fd ps (eY K mg F)) (hr:Room k X.A) (hm:X.mg "sorted"=none) (ha:JE X e (tD ⟨K,mg,E0⟩ O φ)) (hj:j+1<=k:=by decide) (hg:Gl X "sorted":=by rfl) (hgx:Gl X x:=by rfl) (Y:abD x:=by decide)
  (h1:bw e=true:=by rfl) (hK:X.K=K:=by rfl):JE X (.Call (.Name "sorted" p) [e] [⟨some "key",.Name x p2,p3⟩] pos) (tN ⟨K,mg,E0⟩ O (aj (vV κ F) (ab φ am))):=by
 subst hK;refine ⟨fun af s Z H Q I h=>?_⟩;obtain ⟨as0,B,own,U,J,h⟩:=h;have hA:JA X [e] (Cz ⟨X.K,mg,E0⟩ O (ab φ am)):=aa ha ah (hn:=h1);refine Wt (ox I hg hm (u:=.builtin "sorted") (by with_unfolding_all rfl) ?_ (by decide) (by decide));have he:X9 pos (V2 [e] X.env)=(false,eval e X.env)::X9 pos (V2 [] X.env):=by rw [dl h1];rfl
 refine callWith_kw (eO (hA.out pos af s Z H (fun vs H1=>aH H H1/\∃ ds,aN X.K (aP (own++as0) H1) ds vs/\jH ⟨X.K,mg,E0⟩ (own++as0) H1 (vV κ F ds) Q) I ⟨as0,B,own,U,J,Cl h fun ds vs H1 s1 d1 h1=>⟨s1,ds,d1,h1⟩⟩) fun us s1 ⟨vs,H1,I1,r,sm,ds,dn,q⟩ =>
  eO (Mc (nm:=some "key") (kpos:=p3) (Fk (pos:=p2) (v:=.ref f) hgx Df.m rfl Y) Oy pos af s1 Z H1 (fun zs H2=>zs=[.ref f]/\H2=H1) I1 ⟨rfl,rfl⟩) fun ws s2 ⟨zs,H2,I2,rz,e1,e2⟩=>?_) he ?_ rfl rfl
 .subst e1 e2;obtain ⟨w0,rfl,rw0⟩:=rz.one;cases rw0;have exi:∀ b∈own++as0,H2 b≠none:=(J.mono sm).exi;unfold vV at q;split at q
  .rename_i ys;split at q
   .rename_i hz;split at q
    .rename_i l hl;obtain ⟨v0,_,rfl,d0,d00⟩:=dn;cases d00;obtain ⟨lA,xs,rfl,hS,dx⟩:=d0;obtain ⟨u0,rfl,ru⟩:=r.one;cases ru;obtain ⟨its,ri,hp,_⟩:=I2.list ((aC _ _).seq hS);have rm:Room j X.A.in1.in1:=⟨hr.hd,by have:=hr.dp;show X.A.depth+3*j+5 < _;omega,by have:=hr.un;show X.A.units+1+1+16*j+200 < _;omega⟩;refine CD C (mg:=mg) (F:=F) (as:=own++as0) G rm Df.b I2 hp.isList exi ri dx hl hz fun p H' L s' hn hp' dd=>?_;exact q p _ H' s' hn hp' ⟨L,rfl,dd⟩
    .exact q.elim
   .exact q.elim
  .exact q.elim
 .exact gi (es:=[e]) (by rw [Wz,h1];rfl)
end L2
namespace L2
open PySem PySem.Spec PyProof.Rows
def Mx {X:Cx} {K:aT} {mg:aby} {O:abu} {F:abC->R D} {x:Str} {st:WO} {ps:abv} {f:Do} {fd:Wl} {j k:Nat} {p pos:Pos}
  (L:Def X.K X.mg x st ps f fd) (G:FnOk X.prog X.w X.K X.mg X.base dc j f fd ps (eY K mg F)) (Y:Room k X.A) (hj:j<=k:=by decide) (hg:Gl X x:=by rfl) (J:abD x:=by decide) :
  JE X (.Call (.Name x p) [] [] pos) (tD ⟨K,mg,E0⟩ O (aj F am)) :=
 (JE.mk (Jq (dvs:=[]) G (Y.mono hj) hg L.m L.F.kp L.b .nil Jx J)).imp fun Z H Q hh=>gB hh fun as0 B own U I h=>⟨own++as0,[],I.exi,aN.nil,h⟩
end L2
namespace HT
open PySem PySem.Spec PyProof.Rows L2
section
variable {prog:VH} {w:VZ} {A:VV} {E:abx} {s:iF}
def rP {t sl:Do} {items:Array gs} {vl vu:gs} {lo hi:Option Int} {Q:abx} (L:YE s.heap t items) (hs:s.heap.IsSliceOf sl vl vu .none) (pl:IsPart vl lo) (pu:IsPart vu hi)
  (hw:sIx items.size 0 lo=0/\sIx items.size items.size hi=items.size) (h:Q (.ref t) s):Le (VL prog w) A (Ze (.ref t) (.ref sl)) Q E s:=by
 obtain ⟨os,hos,hcs,hds⟩:=id hs;have Y:s.TypeIs (.ref sl) "slice":=⟨os,hos,hcs⟩;unfold Ze;try with_reducible refine W7 ?_
 first|refine bY (rW ?_)|skip
 refine bY (wpAny_sequenceKey L.typeIs (by decide) ?_);refine bY (WV (name:=V7 "__getitem__") L.typeIs Wn
  (WE Wn L.typeIs entry_tuple_getitem ?_ (args_tuple_getitem _ _)))
 show Le _ _ (Y3 (.ref t) >>= _) _ _ s;refine bY (tupleItemsOf_ L ?_);refine bY (wpAny_typeOf Y ?_);rw [abn (by decide)];refine bY (ny hs pl pu ?_);have J:(((sIx items.size 0 lo:Nat):Int)==0&&(1:Int)==1&&(sIx items.size items.size hi - sIx items.size 0 lo)==items.size)=true:=by
  rw [hw.1,hw.2];simp
 show Le _ _ (if (((sIx items.size 0 lo:Nat):Int)==0&&(1:Int)==1&&(sIx items.size items.size hi - sIx items.size 0 lo)==items.size)=true then _ else _) _ _ s;rw [abn J];refine bY (m:=Y4 (.ref t)) ?_;unfold Y4;refine bY (wpAny_typeOf L.typeIs (rW ?_));rw [abn (by decide)]
 first
  | exact rW ⟨_,rfl,rW h⟩
  | exact bY (rW (rW ⟨_,rfl,rW h⟩))
  | exact bY (m:=rule _) (rW (rW ⟨_,rfl,rW h⟩))
  | exact bY (Yx (rW ⟨_,rfl,rW h⟩))
end
end HT
namespace L2
open PySem PySem.Spec PyProof.Rows
section
variable {X:Cx} {W:Wd}
def Rs (K:aT):V->Option Int->Option Int->Hp->VK->Prop:=fun x lo hi H Q=>∃ a xs,x=.ref a/\mf K H a xs/\(HT.sIx xs.length 0 lo=0/\HT.sIx xs.length xs.length hi=xs.length)/\Q (.ref a) H
def IW:BX X (Rs X.K):=by
 intro af s Z H x v vl vu lo hi sl Q I rx hs pl Y h;obtain ⟨a,xs,rfl,hx,hw,q⟩:=h;cases rx;obtain ⟨its,r,L,hz⟩:=I.tuple hx;have J:its.toArray.size=xs.length:=by rw [tx];exact r.length.symm
 refine ⟨"tuple",_,Wn.lookup,L.typeIs,?_⟩;exact HT.rP L hs pl Y (by rw [J];exact hw) ⟨.ref a,H,I,rfl,q⟩
def Tn (K:aT) (x:V) (lo hi:Option Int) (H:Hp) (Q:VK):Prop:=Q9 K x lo hi H Q\/Rs K x lo hi H Q
def Sg (K:aT) (J:X.K=K:=by rfl):BX X (Tn K):=by
 subst J;exact Ta.or IW
def AH (a:D) (lo hi:Option Int):R D:=match a with
 | .tup xs=>if HT.sIx xs.length 0 lo=0/\HT.sIx xs.length xs.length hi=xs.length then .ok (.tup xs) else .ok (.tup (mO xs lo hi))
 | d=>yf d lo hi
def RG (K:aT) (hW:W.K=K:=by rfl):Va W (Tn K) AH:=by
 subst hW;intro as H x lo hi a Q hn J h;unfold AH at h;split at h
 .rename_i xs;split at h
  .rename_i hc;have hd:=J;obtain ⟨p,vs,rfl,L,Y⟩:=J;rw [Y.len] at hc;exact .inr ⟨p,vs,rfl,(aC _ _).seqT L,hc,aR h hd⟩
  .rename_i hc;refine .inl (JX W.K rfl as H x lo hi _ Q hn J ?_);unfold yf;dsimp only;rw [abo hc];exact h
 .exact .inl (JX W.K rfl as H x lo hi _ Q hn J h)
def RH {xs:abC} {lo hi:Option Int}:AH (.tup xs) lo hi=.ok (.tup (mO xs lo hi)):=by
 unfold AH;dsimp only;split
 .rename_i h;unfold mO;rw [h.1,h.2,aaa,Nat.sub_zero,X3]
 .rfl
end
section
variable {X:Cx} {W:Wd} {O:abu} {tg:Wk}
def Ij {prog:VH} {w:VZ} {A:VV} {E:abx} {s:iF} {t b:Do} {ws:abA} {Q:abx} (ht:YE s.heap t #[]) (hb:YE s.heap b ws.toArray) (h:Q (.ref b) s):Le (VL prog w) A (W8 .Add (.ref t) (.ref b)) Q E s:=by
 obtain ⟨⟨cls,dd,data,sl⟩,ho,hc,n,hd⟩:=id ht;obtain ⟨⟨cls2,dd2,data2,sl2⟩,J,Y,n2,L⟩:=id hb;simp only at hc hd Y L;subst hc hd Y L;exact concat_meets ⟨_,ho,rfl⟩ ⟨_,J,rfl⟩ noFill_tuple_add seq_tuple_add Yl Yd (X8 _ _) (tuple_addW0 t b #[] ws.toArray n n2 dd dd2 sl sl2 rfl) ⟨ho,J,h⟩
def J2 (K:aT):R2:=fun x y H Q=>E6 K x y H Q\/∃ l b zs,x=.ref l/\y=.ref b/\mf K H l []/\mf K H b zs/\Q (.ref b) H
def zR (K:aT) (Y:X.K=K:=by rfl):ga X (W8 .Add) (J2 K):=by
 subst Y;refine (eM X.K).or ?_;intro af s Z H x y v u Q I L ry h;obtain ⟨l,b,zs,rfl,rfl,h1,h2,q⟩:=h;cases L;cases ry;obtain ⟨its,r1,p1,_⟩:=I.tuple h1;obtain ⟨J,r2,p2,_⟩:=I.tuple h2;cases r1;exact Ij p1 p2 ⟨.ref b,H,I,rfl,q⟩
def xT (a b:D):R D:=match a with
 | .tup []=>(match b with
  | .tup ys=>.ok (.tup ys)
  | _=>.no)
 | a=>cT a b
def EY (K:aT) (hW:W.K=K:=by rfl):uk W (J2 K) xT:=by
 intro as H x y a b Q hn L J h;unfold xT at h;split at h
 .split at h
  .obtain ⟨p,vs,rfl,q1,q2⟩:=L;cases q2;obtain ⟨p2,ws,rfl,Y,q4⟩:=J;subst hW;exact .inr ⟨p,p2,ws,rfl,rfl,(aC _ _).seqT q1,(aC _ _).seqT Y,aR h ⟨p2,ws,rfl,Y,q4⟩⟩
  .exact h.elim
 .exact .inl (jV K hW as H x y a b Q hn L J h)
variable {o e:Wk} {φ ψ:FE} {apos cpos:Pos}
end
section
variable {X:Cx} {af:abw} {Z:St} {H:Hp} {s:iF} {a:Do} {kvs:List (Key×V)}
def Inv.frzD (I:Inv X af Z H s) (e:H a=some (.dK kvs)):∃ o,Inv X af Z (upd H a (.frz o (.dK kvs))) s:=by
 have ok:cc X.prog X.w H s.heap a (.dK kvs):=I.hok a _ e;obtain ⟨z,y,vs,r,J,es,ep,Y,c⟩:=id ok;refine ⟨J,?_⟩;have ne:∀ b u,H b=some u->u≠.dK kvs->b≠a:=fun b u q n z=>by subst z;rw [e] at q;cases q;exact n rfl
 refine I.step (h':=s.heap) (H':=upd H a (.frz J (.dK kvs))) (g':=s.gens) (d':=s.drawn) (t':=s.toks) (ch:=[]) (fun _ z=>nomatch z) (fun b o _ _ _ q _=>q) (fun b o _ _ _ q _=>⟨o.slots,q⟩)
  (fun b o _ _ n=>by rw [aU (fun z=>by subst z;rw [e] at n;cases n)];exact n) (fun b o _ q=>⟨o,q⟩)
  (fun b xs q=>by rw [aU (ne b _ q (fun z=>nomatch z))];exact q) (fun b o u q=>by rw [aU (ne b _ q (fun z=>nomatch z))];exact q) (fun b ps q=>⟨#[],by rw [aU (ne b _ q (fun z=>nomatch z)),q];simp⟩) (fun m h=>h) ?_ I.bare
 intro b u q;have st:∀ {b:Do} {u:HO},cc X.prog X.w H s.heap b u->cc X.prog X.w (upd H a (.frz J (.dK kvs))) s.heap b u:=fun {b u} x =>
  x.stay (fun c v _ q=>q) (fun c q=>by rw [aU (ne c _ q (fun z=>nomatch z))];exact q) fun c xs q=>by rw [aU (ne c _ q (fun z=>nomatch z))];exact q
 by_cases L:b=a
 .subst L;rw [a9] at q;cases q;exact ⟨Y,st ok⟩
 .rw [aU L] at q;exact st (I.hok b u q)
end
def fzD:D->R D
 | .dct ds=>.ok (.dcf ds)
 | _=>.no
def Gx (φ:FE):FE:=fun U=>(φ U).bind fzD
section
variable {X:Cx} {W:Wd} {Ob O O2 O':abu} {e:Wk} {φ:FE} {ψ:FS} {st:WO} {sts:List WO}
def oh (h:JE X e (tN W O φ)):JE X e (tD W O (Gx φ)):=by
 refine ⟨fun af s Z H Q I q=>?_⟩;obtain ⟨as0,B,own,U,J,q⟩:=q;have q':jH W (own++as0) H (φ U) fun v H1=>∃ p kvs,v=.ref p/\H1 p=some (.dK kvs)/\∀ o,Q v (upd H1 p (.frz o (.dK kvs))):=by
  unfold Gx at q;cases hr:φ U with
  | er x=>rw [hr] at q;exact q
  | no=>rw [hr] at q;exact q
  | ok d =>
   rw [hr] at q;cases d with
   | dct ds =>
    intro p o H' Y L ho od;obtain ⟨xs,rfl,od⟩:=od;refine ⟨p,xs,rfl,ho,fun ob=>?_⟩;have hn:=J.new L;have q:dI W (own++as0) H (.ok (.dcf ds)) Q:=q;refine q (.ref p) _ (fun b u z=>?_) ⟨p,ob,xs,rfl,?_,od.mono fun b u z=>?_⟩
    .rw [aU (bR z L)];exact Y b u z
    .rw [bc hn];exact a9
    .by_cases hb:b∈p::(own++as0)
     .rw [fD hb] at z;cases z
     .rw [bc hb] at z;have h1:=fun w=>hb (nE.mpr (.inl w));have h2:=fun w=>hb (nE.mpr (.inr w));rw [bc h2,aU h1];exact z
   | _=>exact q.elim
 refine Wi (h.out af s Z H _ I ⟨as0,B,own,U,J,q'⟩) (fun u Y ⟨x,H1,I1,rx,p,kvs,e1,e2,hq⟩=>by
  obtain ⟨o,I2⟩:=I1.frzD e2;exact ⟨x,_,I2,rx,hq o⟩) fun _ _ h=>h
def DI.frzO {K:aT} {as0 own:abz} {B H:Hp} {Z:St} {U:Sd} {i:Nat} {a:Do} {ds:List (Key×D)} {xs:List (Key×V)} (I:DI K as0 B O own Z U H) (hi:(i,a)∈O.zip own) (h1:U[i]?=some (some (.dct ds))) (h2:Z[i]?=some (some (.ref a)))
  (h4:eZ K (aP (own++as0) H) ds xs) (ob:Obj):∃ L,DI K as0 B (O.filter fun k=>decide (k≠i)) L Z (U.set i (some (.dcf ds))) (upd H a (.frz ob (.dK xs))):=by
 generalize hp:(fun k:Nat=>decide (k≠i))=p;have pi:∀ k,p k=decide (k≠i):=fun k=>by rw [<- hp]
 have Y:(bU p O own).Sublist own:=mC;have mem:∀ a∈bU p O own,a∈own:=fun a J=>Y.mem J;have J:a∈own:=(V5 hi).2;have hil:i < U.length:=(VX.mp h1).1;have nota:a∉bU p O own:=fun z=>by
  obtain ⟨j,h5,h6⟩:=mB z
  have:=zip_inj I.nd hi h5
  subst this;rw [pi] at h6;exact abr h6 rfl
 have s:aH (aP (own++as0) H) (aP (bU p O own++as0) (upd H a (.frz ob (.dK xs)))):=fun b u z=>by
  by_cases hb:b∈own++as0
  .rw [fD hb] at z;cases z
  .rw [bc hb] at z;rw [bc fun w=>hb ?_,aU fun w=>hb ?_]
   .exact z
   .rw [w];exact Wc _ J
   .rcases MK.mp w with w|w
    .exact Wc _ (mem b w)
    .exact VG _ w
 refine ⟨bU p O own,by simp [I.len],qk I.olen,I.nd.sublist Y,I.ond.sublist YR,fun a J=>I.fresh a (mem a J),I.ex0,fun b u z=>?_,fun j d hj q=>?_,fun j b hj=>?_⟩
 .rw [aU (fun w=>by rw [w,I.fresh a J] at z;cases z)];exact I.same b u z
 .rw [getElem?_set'] at q;split at q
  .rename_i hij;subst hij;cases q;refine ⟨.ref a,h2,a,ob,xs,rfl,?_,h4.mono s⟩;rw [bc fun w=>?_]
   .exact a9
   .rcases MK.mp w with w|w
    .exact nota w
    .exact I.apart a J w
  .rename_i hij;have hO:j∉O:=fun w=>hj (XI.mpr ⟨w,by rw [pi];exact abq fun z=>hij z.symm⟩);obtain ⟨v,q1,q2⟩:=I.var j d hO q;exact ⟨v,q1,q2.mono s⟩
 .obtain ⟨hz,hpj⟩:=gT hj;obtain ⟨d,o,q1,q2,q3,q4⟩:=I.owns j b hz;have hji:i≠j:=fun z=>by rw [pi] at hpj;exact abr hpj z.symm
  have hba:b≠a:=fun z=>hji (zip_inj I.nd hi (z ▸ hz));exact ⟨d,o,by rw [getElem?_set',abo hji];exact q1,q2,by rw [aU hba];exact q3,q4.mono s⟩
def Ea (i:Nat) (ψ:FS):FS:=fun U=>match U[i]? with
 | some (some (.dct ds))=>ψ (U.set i (some (.dcf ds)))
 | _=>.no
def OL {i:Nat} {af:abw} {s:iF} {Z:St} {H:Hp} {D:Ends} (hi:i∈O) (I:Inv X af Z H s) (q:sD W Ob O O' (Ea i ψ) D Z H):∃ H',Inv X af Z H' s/\sD W Ob (O.filter fun k=>decide (k≠i)) O' ψ D Z H':=by
 obtain ⟨as0,B,own,U,J,q⟩:=q;obtain ⟨a,ha⟩:=fc J.olen hi;obtain ⟨d,o,h1,h2,h3,Y⟩:=J.owns i a ha;unfold Ea at q;rw [h1] at q;cases d with
 | dct ds =>
  obtain ⟨xs,rfl,Y⟩:=Y;obtain ⟨ob,I'⟩:=I.frzD h3;obtain ⟨L,D2⟩:=J.frzO ha h1 h2 Y ob;exact ⟨_,I',as0,B,L,_,D2,q⟩
 | _=>exact q.elim
def xb {i:Nat} (h:JB X sts (sD W Ob O2 O' ψ)) (hi:i∈O:=by decide) (L:O.filter (fun k=>decide (k≠i))=O2:=by decide):JB X sts (sD W Ob O O' (Ea i ψ)):=by
 subst L;refine ⟨fun af s Z H D I q=>?_⟩;obtain ⟨H',J,Y⟩:=OL hi I q;exact h.out af s Z H' D J Y
end
def wx:D->Option Key
 | .int i=>some (.inl i)
 | .str x=>some (.inr x)
 | .non=>some .nn
 | _=>none
def iH:Key->D
 | .inl i=>.int i
 | .inr x=>.str x
 | .nn=>.non
def ue {K:aT} {H:Hp} {d:D} {v:V} {k:Key} (h:dF K H d v) (e:wx d=some k):v=kV k:=by
 cases d with
 | int i=>cases e;exact h
 | str x=>cases e;exact h
 | non=>cases e;exact h
 | _=>cases e
def xo {K:aT} {H:Hp}:∀ k:Key,dF K H (iH k) (kV k)
 | .inl i=>rfl
 | .inr x=>rfl
 | .nn=>rfl
def ci (kvs:List (Key×D)) (k:Key):Option D:=(kvs.find? fun J=>decide (J.1=k)).map (·.2)
def cI (kvs:List (Key×D)) (k:Key) (d:D):List (Key×D) :=
 if (ci kvs k).isSome=true then kvs.map fun q=>if q.1=k then (q.1,d) else q else kvs++[(k,d)]
section
variable {K:aT} {H:Hp}
def eZ.val:∀ {ds:List (Key×D)} {xs:List (Key×V)} (k:Key),eZ K H ds xs->(ci ds k=none/\p4 xs k=none)\/∃ d v,ci ds k=some d/\p4 xs k=some v/\dF K H d v
 | [],_,k,h=>by cases h;exact .inl ⟨rfl,rfl⟩
 | (k',d)::r,_,k,⟨v,vs,e,h1,h⟩=>by
  subst e;by_cases q:k'=k
  .exact .inr ⟨d,v,by simp [ci,Xa,q],uq q,h1⟩
  .rw [t6 (p:=(k',v)) q,show ci ((k',d)::r) k=ci r k by simp [ci,Xa,q]];exact eZ.val k h
theorem eZ.len:∀ {ds:List (Key×D)} {xs:List (Key×V)},eZ K H ds xs->ds.length=xs.length
 | [],_,h=>by cases h;rfl
 | (k',d)::r,_,⟨v,vs,e,_,h⟩=>by subst e;simp [eZ.len h]
def eZ.snoc:∀ {ds:List (Key×D)} {xs:List (Key×V)} {k:Key} {d:D} {v:V},eZ K H ds xs->dF K H d v->eZ K H (ds++[(k,d)]) (xs++[(k,v)])
 | [],_,k,d,v,h,hd=>by cases h;exact ⟨v,[],rfl,hd,rfl⟩
 | (k',d')::r,_,k,d,v,⟨v',vs,e,h1,h⟩,hd=>by subst e;exact ⟨v',_,rfl,h1,eZ.snoc h hd⟩
def eZ.repl:∀ {ds:List (Key×D)} {xs:List (Key×V)} (k:Key) {d:D} {v:V},eZ K H ds xs->dF K H d v ->
  eZ K H (ds.map fun q=>if q.1=k then (q.1,d) else q) (xs.map fun q=>if q.1=k then (q.1,v) else q)
 | [],_,k,d,v,h,hd=>by cases h;exact rfl
 | (k',d')::r,_,k,d,v,⟨v',vs,e,h1,h⟩,hd=>by
  subst e;rw [By,By];have J:=eZ.repl k h hd;by_cases q:k'=k
  .rw [abn q,abn q];exact ⟨v,_,rfl,hd,J⟩
  .rw [abo q,abo q];exact ⟨v',_,rfl,h1,J⟩
def eZ.put {ds:List (Key×D)} {xs:List (Key×V)} {k:Key} {d:D} {v:V} (h:eZ K H ds xs) (hd:dF K H d v):eZ K H (cI ds k d) (tP xs k v):=by
 have e:(ci ds k).isSome=(p4 xs k).isSome:=by
  rcases h.val k with ⟨a,b⟩|⟨a,b,L,J,_⟩
  .rw [a,b];rfl
  .rw [L,J];rfl
 unfold cI tP;rw [yp,e];split
 .exact h.repl k hd
 .exact h.snoc hd
end
section
variable {X:Cx} {W:Wd} {Ob O O':abu} {a b e:Wk} {φ ψ χ ε:FE} {pos p1 p2 apos cpos:Pos} {x:Str}
def IU:V->V->V->Hp->(Hp->Prop)->Prop:=fun o i v H Q=>∃ p kvs k,o=.ref p/\i=kV k/\H p=some (.dK kvs)/\kvs.length < IF/\Q (upd H p (.dK (tP kvs k v)))
def Gb (hu:X.A.units+1 < YX):N0 X IU:=by
 intro af s Z H o i v ov iv u Q I ro J rv h;obtain ⟨p,kvs,k,rfl,rfl,L,hl,q⟩:=h;cases ro;exact G2 hu I (Mo.k L hl) J rv fun s' Y=>⟨_,Y,q⟩
def iM (i:Nat) (ψ ε:FE):FS:=fun U=>match U[i]? with
 | some (some (.dct kvs))=>(ε U).bind fun d=>(ψ U).bind fun k=>match wx k with
  | some k=>if kvs.length < 1000000 then .ok (.nx (U.set i (some (.dct (cI kvs k d))))) else .no
  | none=>.no
 | _=>.no
def gG {i:Nat} {Y:Wk} {J:Pos} (hu:X.A.units+64 < YX) (hi:i∈O) (he:JE X e (tD W O ε)) (hie:JE X Y (tD W O ψ)) (hN:X.N[i]?=some x:=by rfl) (hv:Ev X.env.scope x:=by walk_at"v") (hd:abD x:=by decide)
  (hcd:(x==("__classdict__":Str))=false:=by decide) (hs:swapsWithSole [.Subscript (.Name x p1) Y J] e pos.line X.env=pure false:=by rfl) (hw:swappedStores [.Subscript (.Name x p1) Y J] e X.env=pure none:=by rfl)
  (h1:(W3 [.Subscript (.Name x p1) Y J] X.env).map (·.2)=[assign (.Subscript (.Name x p1) Y J) X.env]:=by rfl)
  (ha:∀ v,assign (.Subscript (.Name x p1) Y J) X.env v=(do
   let ov <- holding [v] (eval (.Name x p1) X.env)
   let iv <- holding [v,ov] (eval Y X.env)
   aaM J
   holding [v,ov,iv] (setItem ov iv v)
   release [v,ov,iv] []):=by intro _;rfl) :
  JS X (.Assign [.Subscript (.Name x p1) Y J] e pos) (sD W Ob O O (iM i ψ ε)) :=
 (PB he (N6 (jv i hN hv hd hcd) hie (Gb (by omega)) ha) hs hw h1).imp fun D Z H hh=>gB hh fun as0 B own U I h=>by
  obtain ⟨a,hza⟩:=fc I.olen hi;obtain ⟨d,o,h1,h2,h3,h4⟩:=I.owns i a hza;unfold iM at h;rw [h1] at h;cases d with
  | dct ds =>
   obtain ⟨xs,rfl,q⟩:=h4;refine ⟨as0,B,own,U,I,i9 I h fun y v H2 s2 d2 hq=>?_⟩;have e0:P8 (Ab i) (tD W O ψ) IU v Z H2 D.nx=yk Z[i]? H2 (fun o H1=>tD W O ψ Z H1 fun i H2=>IU o i v H2 fun H3=>D.nx Z H3):=rfl;rw [e0,h2];refine ⟨as0,B,own,U,I.mono s2,i9 (I.mono s2) hq fun k u H3 s3 d3 L=>?_⟩;cases e:wx k with
   | none=>rw [e] at L;exact L.elim
   | some ks =>
    rw [e] at L;have L:gu W as0 B Ob O (if ds.length < 1000000 then .ok (.nx (U.set i (some (.dct (cI ds ks y))))) else .no) D:=L;split at L
    .rename_i hl;have hu:=ue d3 e;subst hu;have hm:=fI;refine ⟨a,xs,ks,rfl,rfl,(s2.trans s3) _ _ h3,by rw [<- q.len];omega,?_⟩;exact L own Z _ (((I.mono s2).mono s3).mutate hza ⟨_,rfl,(q.mono (bh (s2.trans s3))).put (d2.mono (bh s3))⟩)
    .exact L.elim
  | _=>exact h.elim
def xX:D->Option (List (Key×D))
 | .dct k=>some k
 | .dcf k=>some k
 | _=>none
def vG {K:aT} {H:Hp} {d:D} {v:V} {ds:List (Key×D)} (h:dF K H d v) (e:xX d=some ds):∃ p xs,v=.ref p/\Rd H p (.dK xs)/\eZ K H ds xs:=by
 cases d with
 | dct k=>cases e;obtain ⟨p,xs,rfl,h1,h2⟩:=h;exact ⟨p,xs,rfl,.inl h1,h2⟩
 | dcf k=>cases e;obtain ⟨p,o,xs,rfl,h1,h2⟩:=h;exact ⟨p,xs,rfl,.inr ⟨o,h1⟩,h2⟩
 | _=>cases e
def wo.rd {H:Hp} {p:Do} {xs:List (Key×V)} {k:Key} (h:Rd H p (.dK xs)):wo H p (kV k) (p4 xs k):=.inl ⟨xs,k,h,rfl,rfl⟩
def Jt (J:Bool):R2:=fun x y H Q=>∃ p kvs k,x=kV k/\y=.ref p/\Rd H p (.dK kvs)/\Q (.bl (if J=true then !(p4 kvs k).isSome else (p4 kvs k).isSome)) H
def KD (hu:X.A.units+64 < YX):ga X (VT .In) (Jt false):=by
 intro af s Z H x y v u Q I Y ry h;obtain ⟨p,kvs,k,rfl,rfl,J,q⟩:=h;cases ry;exact T8 (by omega) I (wo.rd J) Y fun s' L=>⟨.bl _,H,L,rfl,q⟩
def G6 (hu:X.A.units+64 < YX):ga X (VT .NotIn) (Jt true):=by
 intro af s Z H x y v u Q I Y ry h;obtain ⟨p,kvs,k,rfl,rfl,J,q⟩:=h;cases ry;exact L6 (by omega) I (wo.rd J) Y fun s' L=>⟨.bl _,H,L,rfl,q⟩
def Kk (a b:D):Option Bool:=(xX b).bind fun kvs=>(wx a).map fun k=>(ci kvs k).isSome
def Mw (a b:D):R D:=lW (Kk a b) fun k=>k
def Ag (a b:D):R D:=lW (Kk a b) fun k=>!k
def Gq {K:aT} {H:Hp} {ds:List (Key×D)} {xs:List (Key×V)} (h:eZ K H ds xs) (k:Key):(ci ds k).isSome=(p4 xs k).isSome:=by
 rcases h.val k with ⟨a,b⟩|⟨a,b,L,J,_⟩
 .rw [a,b];rfl
 .rw [L,J];rfl
def NC (J:Bool):uk W (Jt J) (fun a b=>lW (Kk a b) fun k=>if J=true then !k else k):=by
 intro as H x y a b Q hn da L h;have h:dI W as H (lW (Kk a b) fun k=>if J=true then !k else k) Q:=h;unfold Kk at h;cases e:xX b with
 | none=>rw [e] at h;exact h.elim
 | some kvs =>
  cases e2:wx a with
  | none=>rw [e,e2] at h;exact h.elim
  | some k =>
   rw [e,e2] at h;obtain ⟨p,xs,rfl,h1,h2⟩:=vG L e;have Y:=ue da e2;subst Y;refine ⟨p,xs,k,rfl,rfl,(aC _ _).rd h1,?_⟩;rw [<- Gq h2 k];exact aR (d:=.bl (if J=true then !(ci kvs k).isSome else (ci kvs k).isSome)) h rfl
def RN:uk W (Jt false) Mw:=NC false
def Me:uk W (Jt true) Ag:=NC true
def hJ (a b:D):R D:=match xX a with
 | some kvs=>(match wx b with
  | some k=>(match ci kvs k with
   | some d=>.ok d
   | none=>.no)
  | none=>.no)
 | none=>.no
def rZ (hu:X.A.units+64 < YX) (ha:JE X a (tD W O φ)) (hb:JE X b (tD W O ψ)) (hs:Ip b:=by exact fun _ _=>rfl):JE X (.Subscript a b pos) (tD W O (av hJ φ ψ)) :=
 JE.imp ⟨EG (by omega) ha.out hb.out hs⟩ fun Z H Q hh=>gB hh fun as0 B own U I h=>⟨as0,B,own,U,I,bS h fun x v H1 s1 d1 h1=>⟨as0,B,own,U,I.mono s1,bS h1 fun y u H2 L d2 h2=>by
  unfold hJ at h2;cases e0:xX x with
  | none=>rw [e0] at h2;exact h2.elim
  | some kvs =>
   rw [e0] at h2;dsimp only at h2;obtain ⟨p,xs,rfl,q1,q2⟩:=vG d1 e0;cases e:wx y with
   | none=>rw [e] at h2;exact h2.elim
   | some k =>
    rw [e] at h2;dsimp only at h2;have hy:=ue d2 e;subst hy;rcases (q2.mono (bh L)).val k with ⟨J,Y⟩|⟨d,v,J,Y,c3⟩
    .rw [J] at h2;exact h2.elim
    .rw [J] at h2;exact ⟨p,v,rfl,Y ▸ wo.rd (L.rd ((aC _ _).rd q1)),aR h2 c3⟩⟩⟩
def D3 (hu:X.A.units+64 < YX) {i:Nat} (hi:i∈O) (hb:JE X b (tD W O ψ)) (hN:X.N[i]?=some x:=by rfl) (hs:Ip b:=by exact fun _ _=>rfl) (hv:Ev X.env.scope x:=by walk_at"v") (hd:abD x:=by decide)
  (L:(x==("__classdict__":Str))=false:=by decide):JE X (.Subscript (.Name x p1) b pos) (tD W O (av hJ (ag i) ψ)) :=
 JE.imp ⟨EG (by omega) (jv i hN hv hd L).out hb.out hs⟩ fun Z H Q hh=>gB hh fun as0 B own U I h=>by
  obtain ⟨a,ha⟩:=fc I.olen hi;obtain ⟨d,o,h1,h2,h3,h4⟩:=I.owns i a ha;have e0:NS (Ab i) (tD W O ψ) Z H Q=yk Z[i]? H (fun x H1=>tD W O ψ Z H1 fun y H2=>∃ a v,x=.ref a/\wo H2 a y (some v)/\Q v H2):=rfl;rw [e0,h2];have hv:ag i U=.ok d:=by unfold ag;rw [h1]
  have h':dI W (own++as0) H ((ψ U).bind fun y=>hJ d y) Q:=by
   have e:av hJ (ag i) ψ U=(ψ U).bind fun y=>hJ d y:=by unfold av;rw [hv];rfl
   rw [<- e];exact h
  refine ⟨as0,B,own,U,I,bS h' fun y u H2 s2 d2 J=>?_⟩;cases d with
  | dct ds =>
   obtain ⟨xs,rfl,q⟩:=h4;have J:dI W (own++as0) H2 (match wx y with
    | some k=>(match ci ds k with
     | some d=>.ok d
     | none=>.no)
    | none=>.no) Q:=J
   cases e:wx y with
   | none=>rw [e] at J;exact J.elim
   | some k =>
    rw [e] at J;dsimp only at J;have hy:=ue d2 e;subst hy;rcases (q.mono (bh s2)).val k with ⟨Y,c2⟩|⟨d,v,Y,c2,c3⟩
    .rw [Y] at J;exact J.elim
    .rw [Y] at J;exact ⟨a,v,rfl,c2 ▸ wo.rd (.inl (s2 _ _ h3)),aR J c3⟩
  | obj _ _=>exact J.elim
  | lst _=>exact J.elim
  | _=>exact h4.elim
def Iu (xs:abB) (H:Hp) (Q:VK):Prop:=∃ p kvs,xs=[.ref p]/\Rd H p (.dK kvs)/\∀ l,H l=none->Q (.ref l) (upd H l (.dK kvs))
def fK:ce X (.type "dict") Iu:=by
 intro af s Z H xs us Q I r h;obtain ⟨p,kvs,rfl,J,q⟩:=h;obtain ⟨u,rfl,Y⟩:=kQ r;cases Y;exact J9 I J fun l s' hl L=>⟨.ref l,_,L,rfl,q l hl⟩
def w8 (ds:abC):R D:=match ds with
 | [d]=>(match xX d with
  | some kvs=>.ok (.dct kvs)
  | none=>.no)
 | _=>.no
def Gr:BQ W Iu w8:=by
 intro as H xs ds Q hn dv h;unfold w8 at h;split at h
 .obtain ⟨v,rfl,d1⟩:=iK dv;split at h
  .rename_i kvs e;obtain ⟨p,vs,rfl,L,Y⟩:=vG d1 e;exact ⟨p,vs,rfl,(aC _ _).rd L,fun l J=>h l _ _ (bn J _) J a9 ⟨vs,rfl,Y.mono (lv J (bn J _))⟩⟩
  .exact h.elim
 .exact h.elim
end
def vn {k:Key} {u:gs} (h:vZ k u=true):bq (kV k) u:=by
 cases k with
 | inl i =>
  have h:aae i u=true:=h;unfold aae at h;split at h
  .have e:=eq_of_beq h;subst e;exact ⟨_,rfl⟩
  .cases h
 | nn =>
  cases u with
  | none=>rfl
  | _=>exact nomatch h
 | inr x =>
  have h:XO x u=true:=h;unfold XO at h;split at h
  .have e:=eq_of_beq h;subst e;exact ⟨_,rfl⟩
  .cases h
structure FzAt (X:Cx) (H:Hp) (h:Xj) (a:Do) (ep:Nat) (xs:List (Key×V)) (vs:List (Key×gs)):Prop where
 at_:Heap.DictAt (cA X.prog X.w) h a vs ep
 rel:KV xs vs
def MO (o:Obj):Nat:=match o.data with
 | .dict _ ep=>ep
 | _=>0
def t7 {X:Cx} {af:abw} {Z:St} {H:Hp} {s:iF} {a:Do} {o:Obj} {xs:List (Key×V)} (I:Inv X af Z H s) (e:H a=some (.frz o (.dK xs))) :
  xs.length<=IF/\(a==W2)=false/\∃ vs,FzAt X H s.heap a (MO o) xs vs:=by
 obtain ⟨L,z,hd,vs,r,ob,es,ep,h1,h2,J,Y⟩:=(show cc X.prog X.w H s.heap a (.frz o (.dK xs)) from I.hok a _ e);rw [L] at h1;cases h1
 have:MO o=ep:=by unfold MO;rw [J]
 rw [this];exact ⟨z,hd,vs,⟨o,es,L,h2,J,Y⟩,r⟩
def Kf:entryFor table "dict_itemiterator.__iter__"=some Builtin.«dict_keyiterator.__iter__»:=entryFor_alias (id':="dict_keyiterator.__iter__") (by kernel_rfl) (by kernel_rfl) (by kernel_rfl) (by kernel_rfl)
def pJ {prog:VH} {w:VZ} {A:VV} {E:abx} {s:iF} {it d:Do} {i n ep:Nat} {ok ov:gs} {Q:abx} (st:IsItemIter s.heap it d i n ep ok ov) (L:Q (.ref it) s):Le (VL prog w) A (aaB (.ref it)) Q E s:=by
 have J:s.TypeIs (.ref it) "dict_itemiterator":=⟨_,st,rfl⟩;refine wpAny_pyIter_slot J F.slot_dict_itemiterator_iter (WE F.slot_dict_itemiterator_iter J Kf ?_ (F.args_dict_itemiterator_iter_1 _));unfold Builtin.«dict_keyiterator.__iter__»;refine bY (wpAny_of_eq (a:=(We it,[])) rfl ?_);exact rW ⟨_,rfl,"dict_itemiterator",_,J,F.slot_dict_itemiterator_next.lookup,L⟩
def Jm {xs:List (Key×V)} {vs:List (Key×gs)} (r:KV xs vs) {i:Nat} {k:Key} {u:gs} (h:vs[i]?=some (k,u)):∃ v,xs[i]?=some (k,v)/\bq v u:=by
 unfold KV at r;induction r generalizing i with
 | nil=>simp at h
 | @cons p q ps qs hq t ih =>
  cases i with
  | zero=>simp at h;subst h;exact ⟨p.2,by obtain ⟨p1,p2⟩:=p;simp at hq ⊢;exact hq.1,hq.2⟩
  | succ i=>simpa using ih (by simpa using h)
def ItK (a:Do) (o:Obj) (xs:List (Key×V)):It :=
 ⟨fun i H=>H a=some (.frz o (.dK xs))/\i < xs.length,fun i H v H'=>H'=H/\∃ k x,xs[i]?=some (k,x)/\v=kV k,fun i H=>H a=some (.frz o (.dK xs))/\i=xs.length⟩
def Gd {P:VH} {w:VZ} {K:aT} {tg:Wk} (it a:Do) (o:Obj) (xs:List (Key×V)):Turn P w K tg (ItK a o xs) [it] it (fun i h=>h.IsKeyIter it a i xs.length (MO o)) where
 mem:=by simp
 obj:=fun i h st b L=>by
  have e:b=it:=by simpa using L
  subst e;obtain ⟨o,e,c,d⟩:=st;exact ⟨o,e,fun v z=>by rw [d] at z;cases z⟩
 keep:=fun i h h' st k=>by obtain ⟨o,e,c,d⟩:=st;exact ⟨o,k it (by simp) o e,c,d⟩
 item:=by
  intro X hP hw hK hc i af s Z H E I hf st hg;subst hP hw;obtain ⟨J,hi⟩:=hg;obtain ⟨z,hd,vs,F⟩:=t7 I J;obtain ⟨f0,f1,f2,f3,f4,f5⟩:=hf it (by simp);have hl:=F.rel.length;have hne:a≠it:=fun z=>by rw [z,f0] at J;cases J
  have W:=Walks.dictKeys (knd:=cA X.prog X.w) (I.ok.hd hc) it a hne vs (MO o);rw [hl] at st;refine bi I.tk (W.item i s _ _ (by rw [<- hl];exact hi) ⟨st,F.at_⟩ fun v h' tk hv st' kk htk=>?_);obtain ⟨k,x,h1,h2⟩:=hv;obtain ⟨y,h3,_⟩:=Jm F.rel h1;have I1:Inv X af Z H { s with heap:=h',toks:=tk }:=I.turned (fun b o L e=>kk b o (by simpa using L) e) f0 f1 f3 f4 f5;have Y:=st'.1;obtain ⟨o2,e,c,d⟩:=id Y;rw [<- hl] at Y;exact ⟨v,rfl,Ch (s:={ s with heap:=h',toks:=tk }) e c d (by decide) ⟨kV k,H,I1,vn h2,⟨rfl,k,y,h3,rfl⟩,Y,fun b L=>(hf b L).1⟩⟩
 done:=by
  intro X hP hw hK hc i af s Z H E I hf st hg;subst hP hw;obtain ⟨J,hi⟩:=hg;obtain ⟨z,hd,vs,F⟩:=t7 I J;obtain ⟨f0,f1,f2,f3,f4,f5⟩:=hf it (by simp);have hl:=F.rel.length;have hne:a≠it:=fun z=>by rw [z,f0] at J;cases J
  have W:=Walks.dictKeys (knd:=cA X.prog X.w) (I.ok.hd hc) it a hne vs (MO o);rw [hi,hl] at st;exact bi I.tk (W.done s _ _ ⟨st,F.at_⟩ fun h' tk kk htk=>⟨rfl,I.turned (fun b o L e=>kk b o (by simpa using L) e) f0 f1 f3 f4 f5⟩)
 self:=fun _ _ _ _ _ st h=>wpAny_pyIter_keyiter st h
def ItP (a:Do) (o:Obj) (xs:List (Key×V)):It :=
 ⟨fun i H=>H a=some (.frz o (.dK xs))/\i < xs.length,fun i H v H'=>∃ p k x,xs[i]?=some (k,x)/\H p=none/\H'=upd H p (.tup [kV k,x])/\v=.ref p,fun i H=>H a=some (.frz o (.dK xs))/\i=xs.length⟩
def Ee {P:VH} {w:VZ} {K:aT} {elts:List Wk} {k:Nat} {pos:Pos} (it a:Do) (o:Obj) (xs:List (Key×V)) :
  Turn P w K (.Tuple elts k pos) (ItP a o xs) [it] it (fun i h=>∃ ok ov,IsItemIter h it a i xs.length (MO o) ok ov) where
 mem:=by simp
 obj:=fun i h st b J=>by
  have e:b=it:=by simpa using J
  subst e;obtain ⟨ok,ov,e⟩:=st;exact ⟨_,e,fun v z=>by cases z⟩
 keep:=fun i h h' st k=>by obtain ⟨ok,ov,e⟩:=st;exact ⟨ok,ov,k it (by simp) _ e⟩
 item:=by
  intro X hP hw hK hc i af s Z H E I hf st hg;subst hP hw;obtain ⟨hq,hi⟩:=hg;obtain ⟨ok,ov,st⟩:=st;obtain ⟨z,hd,vs,F⟩:=t7 I hq;obtain ⟨f0,f1,f2,f3,f4,f5⟩:=hf it (by simp);have hl:=F.rel.length;rw [hl] at st;have hi':i < vs.length:=by rw [<- hl];exact hi
  obtain ⟨⟨kk,u⟩,hv⟩:∃ q,vs[i]?=some q:=⟨vs[i],BY hi'⟩;refine wpAny_pyNext_items_item st F.at_ hv fun key h' hk so ht hsz kp=>?_;obtain ⟨y,h3,ry⟩:=Jm F.rel hv;refine ⟨_,rfl,wpAny_letOwnedTupleGo_items so fun h'' st'' sb=>?_⟩;have hTn:H s.heap.objs.size=none:=I.hok.fresh (oR _);have Y:s.heap.objs.size≠it:=fun z=>absurd (ID (show s.heap.get? it=some _ from st)) (by rw [z];exact XD _);have L:YE h'' s.heap.objs.size [key,u].toArray:=⟨_,(sb.2 _ Y).trans ht,rfl,_,rfl⟩;refine ⟨.ref s.heap.objs.size,upd H s.heap.objs.size (.tup [kV kk,y]),I.turnedT (t':=s.toks) (ch:=[it]) (fun b J=>by rw [VM.mp J];exact hf it (by simp)) (fun b o J e=>(sb.2 b (by simpa using J)).trans (kp b o (by simpa using J) e)) (oR _) (by show 2<=IF;decide) (.cons (vn hk) (.cons ry .nil)) L,rfl,
   ⟨s.heap.objs.size,kk,y,h3,hTn,rfl,rfl⟩,⟨key,u,by rw [hl];exact st''⟩,fun b J=>?_⟩
  have e:b=it:=by simpa using J
  rw [e,aU Y.symm];exact f0
 done:=by
  intro X hP hw hK hc i af s Z H E I hf st hg;subst hP hw;obtain ⟨hq,hi⟩:=hg;obtain ⟨ok,ov,st⟩:=st;obtain ⟨z,hd,vs,F⟩:=t7 I hq;obtain ⟨f0,f1,f2,f3,f4,f5⟩:=hf it (by simp);have hl:=F.rel.length;rw [hl] at st;exact wpAny_pyNext_items_end (I.ok.hd hc) st F.at_ (ZN (by omega)) fun h' eb=>⟨rfl,I.turned (t':=s.toks) (fun b o J e=>eb b o J e) f0 f1 f3 f4 f5⟩
 self:=fun _ _ _ _ _ st h=>let ⟨_,_,st⟩:=st;pJ st h
def eZ.get {K:aT} {H:Hp}:∀ {ds:List (Key×D)} {xs:List (Key×V)} {i:Nat} {k:Key} {v:V},eZ K H ds xs->xs[i]?=some (k,v)->∃ d,ds[i]?=some (k,d)/\dF K H d v
 | [],_,i,k,v,h,e=>by cases h;simp at e
 | (k',d)::r,_,0,k,v,⟨v',vs,e,h1,h⟩,q=>by subst e;simp at q;obtain ⟨rfl,rfl⟩:=q;exact ⟨d,rfl,h1⟩
 | (k',d)::r,_,i+1,k,v,⟨v',vs,e,h1,h⟩,q=>by
  subst e;obtain ⟨d',J,L⟩:=eZ.get (i:=i) h (by simpa using q);exact ⟨d',by simpa using J,L⟩
section
variable {X:Cx} {W:Wd} {O:abu} {l:Wk} {tg:Wk} {ε:FE} {apos cpos:Pos} {elts:List Wk} {k:Nat} {tpos:Pos}
def M7 (d:D):R (abC):=match d with
 | .dcf kvs=>.ok (kvs.map fun q=>iH q.1)
 | _=>.no
def vK (ε:FE):FA:=fun U=>(ε U).bind M7
def AK (h:JE X l (tD W O ε)):JI X tg l (iD W O (vK ε)):=⟨fun af s Z H R I ⟨as0,B,own,U,DIh,q⟩=>by
 refine eO (h.out af s Z H (fun v H1=>∃ d,dF W.K (aP (own++as0) H1) d v/\j3 W as0 own H1 (M7 d) R) I ⟨as0,B,own,U,DIh,tB q fun d v H1 J d1 L=>⟨d,d1,L⟩⟩) fun u J ⟨x,H1,I1,rx,d,dv,L⟩=>?_;cases d with
 | dcf ds =>
  obtain ⟨a,o,xs,rfl,h1,h2⟩:=dv;cases rx;have h1':=aC _ _ _ _ h1;obtain ⟨z,hd,vs,F⟩:=t7 I1 h1';have hl:=F.rel.length;refine wpAny_pyIter_dict hd F.at_ ?_;refine ⟨J.heap.objs.size,[J.heap.objs.size],_,_,H1,rfl,I1.kept (t':=J.toks) fun b o e=>dO _ e,Gd J.heap.objs.size a o xs,⟨_,CT _ rfl,rfl,by rw [hl];rfl⟩,fun b hb=>?_,L _ H1 (aH.refl _) ?_⟩
  .have e:b=J.heap.objs.size:=by simpa using hb
   subst e;exact I1.fpOk (oR _) (I1.hok.fresh (oR _))
  .rw [nK] at h1 h2;have ll:(ds.map fun q=>iH q.1).length=xs.length:=by rw [iN];exact h2.len
   refine ⟨fun i H2 Y hi=>⟨Y _ _ h1,by rw [<- ll];exact hi⟩,fun i H2 v H3 M Y _ hM hi hy=>?_,fun H2 Y=>⟨Y _ _ h1,ll⟩⟩;obtain ⟨rfl,k,y,e1,rfl⟩:=hy;obtain ⟨d,e2,_⟩:=h2.get e1;exact ⟨aH.refl _,iH k,by rw [V0,e2];rfl,xo k⟩
 | _=>exact L.elim⟩
def Dt {prog:VH} {w:VZ} {A:VV} {E:abx} {s:iF} {d:Do} {Q:abx} (J:s.TypeIs (.ref d) "dict") (hd:(d==W2)=false)
  (L:Q (.ref s.heap.objs.size) { s with heap:=s.heap.push { cls:=.type "dict_items",data:=.fields #[.ref d] } }):Le (VL prog w) A (call (.builtin "dict.items") [.ref d]) Q E s:=by
 refine WE F.slot_dict_items J F.entry_dict_items ?_ (F.args_dict_items_1 _);unfold Builtin.«dict.items»;refine bY ?_;unfold Builtin.Dict.noArgs;refine bY (wpAny_notOrdered_dict J ?_);refine bY (wpAny_of_eq (a:=()) (by first|rfl|(simp [Builtin.Dict.nameIsSure];rfl)) ?_);show Le _ _ (pure (We d) >>= _) _ _ s;refine bY (rW ?_);show Le _ _ (pure d) _ _ s;refine rW ?_;unfold Builtin.Dict.showsAll;rw [abo (by rw [hd];exact lT)];refine bY (rW ?_);unfold newFields;refine bY (W4 ?_);exact rW ⟨_,rfl,L⟩
def IT (d:D):R (abC):=match d with
 | .dcf kvs=>.ok (kvs.map fun q=>D.tup [iH q.1,q.2])
 | _=>.no
def sK (ε:FE):FA:=fun U=>(ε U).bind IT
def w9 (h:JE X l (tD W O ε)) (J:WG l "items" X.env (eval l X.env)=eval l X.env:=by rfl) (Y:(apos.endLine==cpos.line)=true:=by rfl) :
  JI X (.Tuple elts k tpos) (.Call (.Attribute l "items" apos) [] [] cpos) (iD W O (sK ε)):=⟨fun af s Z H R I ⟨as0,B,own,U,DIh,q⟩=>by
 refine wpAny_Call_method0_late J Y (eO (h.out af s Z H (fun v H1=>∃ d,dF W.K (aP (own++as0) H1) d v/\j3 W as0 own H1 (IT d) R) I ⟨as0,B,own,U,DIh,tB q fun d v H1 s1 d1 hq=>⟨d,d1,hq⟩⟩) fun u s1 ⟨x,H1,I1,rx,d,dv,hq⟩=>?_);cases d with
 | dcf ds =>
  obtain ⟨a,o,xs,rfl,h1,h2⟩:=dv;cases rx;have L:=aC _ _ _ _ h1;obtain ⟨z,hd,vs,F⟩:=t7 I1 L;have hl:=F.rel.length;obtain ⟨t1,t2,_⟩:=PQ I1 (.inl ⟨xs,.inr ⟨o,L⟩⟩);refine ⟨"dict","dict.items",PySem.F.plainAttrs_dict,PySem.F.slot_dict_items,PySem.F.type_dict_items,t1,t2,Ym rfl (PySem.evalArgs_none (Dt t1 hd ?_))⟩;have I2:=I1.kept (t':=s1.toks) (h':=s1.heap.push { cls:=.type "dict_items",data:=.fields #[.ref a] }) fun b o e=>dO _ e;obtain ⟨z,hd,vs,F⟩:=t7 I2 L;have hl:=F.rel.length;refine wpAny_pyIter_items ⟨_,CT _ rfl,rfl,rfl⟩ F.at_ ?_;have hb0:∀ {b:Do},b=(s1.heap.push { cls:=.type "dict_items",data:=.fields #[.ref a] }).objs.size->iI X af H1 b:=fun {b} e=>by
   subst e;exact I2.fpOk (oR _) (I2.hok.fresh (oR _))
  refine ⟨_,[_],_,_,H1,rfl,I2.kept (t':=s1.toks) fun b o e=>dO _ e,Ee _ a o xs,⟨.none,.none,by rw [hl];exact CT _ rfl⟩,fun b hb=>hb0 (by simpa using hb),hq _ H1 (aH.refl _) ?_⟩;rw [nK] at h1 h2;have ll:(ds.map fun q=>D.tup [iH q.1,q.2]).length=xs.length:=by rw [iN];exact h2.len
  refine ⟨fun i H2 s2 hi=>⟨s2 _ _ h1,by rw [<- ll];exact hi⟩,fun i H2 v H3 M s2 hM1 hM hi hy=>?_,fun H2 s2=>⟨s2 _ _ h1,ll⟩⟩;obtain ⟨p,k,y,e1,hp,rfl,rfl⟩:=hy;obtain ⟨d,e2,dd⟩:=h2.get e1;have hpM:p∉M:=fun z=>hM1 p z hp;refine ⟨bn hp _,.tup [iH k,d],by rw [V0,e2];rfl,p,[kV k,y],rfl,.inl (.inl (by rw [bc hpM];exact a9)),aN.cons (xo k) (aN.cons (dd.mono ((mv s2 hM).trans (bh (bn hp _)))) aN.nil)⟩
 | _=>exact hq.elim⟩
end
def sR.look {K:aT} {H:Hp} {f:Str}:∀ {fs:List (Str×D)} {xs:List (Str×V)} {d:D},sR K H fs xs->fs.lookup f=some d->∃ v,xs.lookup f=some v/\dF K H d v
 | [],_,_,h,e=>by cases e
 | (g,d')::r,_,d,⟨v,vs,e0,h1,h⟩,e=>by
  subst e0;rw [WY] at e ⊢;cases q:f==g with
  | true=>rw [q] at e;cases e;exact ⟨v,rfl,h1⟩
  | false=>rw [q] at e;exact sR.look h e
def uR (n f:Str) (d:D):R D:=match d with
 | .obj m fs=>if m=n then (match fs.lookup f with
  | some d=>.ok d
  | none=>.no) else .no
 | _=>.no
def bH (n f:Str) (φ:FE):FE:=fun U=>(φ U).bind (uR n f)
section
variable {X:Cx} {W:Wd} {O:abu} {e:Wk} {es:List Wk} {φ:FE} {α:FA} {pos p:Pos} {n f:Str} {C:Do}
def bG (K:aT) (hn:VN K VF n=some (some (.ref C))) (L:Cls K C) (hf:iZ K C f) (he:JE X e (tD W O φ)) (hb:WG e f X.env (eval e X.env)=eval e X.env:=by rfl) (hK:X.K=K:=by rfl) (J:W.K=K:=by rfl) :
  JE X (.Attribute e f pos) (tD W O (bH n f φ)) :=
 JE.imp ⟨O4 he.out hb⟩ fun Z H Q hh=>gB hh fun as0 B own U I h=>⟨as0,B,own,U,I,bS h fun x v H1 s1 d1 h1=>by
  subst hK;cases x with
  | obj m fs =>
   by_cases e:m=n
   .subst e;have h1:dI W (own++as0) H1 (uR m f (.obj m fs)) Q:=h1;unfold uR at h1;dsimp only at h1;rw [abn rfl] at h1;rw [J] at d1;obtain ⟨a,C',dx,xs,rfl,h2,Y,h4⟩:=d1;rw [hn] at h2;cases h2;cases e2:fs.lookup f with
    | none=>rw [e2] at h1;exact h1.elim
    | some d =>
     rw [e2] at h1;obtain ⟨v,q1,q2⟩:=h4.look e2;exact ⟨a,C,dx,xs,v,rfl,aC _ _ _ _ Y,L,hf,q1,aR h1 (by rw [J];exact q2)⟩
   .have h1:dI W (own++as0) H1 (uR n f (.obj m fs)) Q:=h1;unfold uR at h1;dsimp only at h1;rw [abo e] at h1;exact h1.elim
  | _=>exact h1.elim⟩
def Jz (C:Do) (ns:abv):Sp:=fun vs H Q _=>∃ x dx us,vs=.ref x::us/\us.length=ns.length/\H x=some (.ins C dx [])/\Q .non (upd H x (.ins C dx (ns.zip us)))
def Nu (n:Str) (ns:abv) (ds:abC):R D:=if ds.length=ns.length then .ok (.obj n (ns.zip ds)) else .no
def HC (n:Str) (ns:abv) (α:FA):FE:=fun U=>(α U).bind (Nu n ns)
def sR.zip {K:aT} {H:Hp}:∀ {ns:abv} {ds:abC} {vs:abB},aN K H ds vs->sR K H (ns.zip ds) (ns.zip vs)
 | [],_,_,h=>rfl
 | f::r,[],_,h=>by cases h;exact rfl
 | f::r,d::ds,_,⟨v,vs,e,h1,h2⟩=>by subst e;exact ⟨v,_,rfl,h1,sR.zip h2⟩
def pV {K:aT} {mg:aby} {g:Do} {fd:Wl} {ps ns:abv} {j k:Nat} (hn:VN K VF n=some (some (.ref C))) (hm:X.mg n=some (.ref C)) (M:Mk K C g) (G:FnOk X.prog X.w X.K X.mg X.base dc j g fd ps (Jz C ns)) (b:l9 K fd ps []) (hr:Room k X.A)
  (ha:JA X (e::es) (Cz ⟨K,mg,E0⟩ O α)) (hj:j+1<=k:=by decide) (hg:Gl X n:=by rfl) (J:(n==("__debug__":Str))=false:=by decide) (h1:bw e=true:=by rfl) (h2:es.all bw=true:=by rfl) (hK:X.K=K:=by rfl) :
  JE X (.Call (.Name n p) (e::es) [] pos) (tN ⟨K,mg,E0⟩ O (HC n ns α)):=by
 subst hK;refine JE.imp ⟨Mt (E:=E0) (dvs:=[]) (ds:=[]) M G (hr.mono hj) hg hm b .nil Jx ha.out J (dl h1) (gi h2)⟩ fun Z H Q hh=>gB hh fun as0 B own U I h=>?_;refine ⟨as0,B,own,U,I,jw h fun ds vs H1 s1 d1 h1 x dx L hdx hne=>?_⟩;unfold Nu at h1;split at h1
 .rename_i hl;rw [WC];have sm:aH H1 (upd (upd H1 dx (.own x)) x (.ins C dx (ns.zip vs))):=fun c o e=>by
   rw [aU (bR e L),aU (bR e hdx)];exact e
  refine ⟨x,dx,vs,rfl,by rw [<- d1.len];exact hl,a9,rfl,?_⟩;rw [Ac];refine h1 x _ _ sm L a9 ⟨C,dx,_,rfl,hn,sR.zip (d1.mono fun c o e=>?_)⟩;by_cases Y:c∈own++as0
  .rw [fD Y] at e;cases e
  .rw [bc Y] at e;have n1:c≠x:=fun z=>by rw [z,L] at e;cases e
   rw [bc (fun z=>(nE.mp z).elim n1 Y)];exact sm c o e
 .exact h1.elim
end
abbrev K2:Type:=Int×abu
def Bs (x y:K2):Prop:=x.1 < y.1\/(x.1=y.1/\x.2 < y.2)
instance (x y:K2):Decidable (Bs x y):=by unfold Bs;infer_instance
def KY:_root_.TS.TO Bs:=_root_.TS.As.lex _root_.TS.AW
def rN:gs->K2
 | .int i _=>(i,[])
 | .str z _=>(0,z.cps.toList)
 | _=>(0,[])
def ur (x y:W6):Bool:=decide (Bs (rN x.1) (rN y.1))
def RK (x:W6):Prop:=∃ i t,x.1=.int i t
def Tr (x:W6):Prop:=∃ z t,x.1=.str z t
section
variable {prog:VH} {w:VZ} {A:VV} {E:abx} {s:iF}
def yb (x y:W6) (h:ur x y=true):ur y x=false:=by
 have h:=abr h;exact abp fun g=>KY.irr _ (KY.tr _ _ _ h g)
def yc (x y z:W6) (h:ur y x=false) (g:ur z y=false):ur z x=false:=by
 have h:=of_decide_eq_false h;have g:=of_decide_eq_false g;refine abp fun e=>?_;rcases KY.tri (rN y.1) (rN x.1) with q|q|q
 .exact h q
 .exact g (q ▸ e)
 .exact g (KY.tr _ _ _ e q)
def Vc:_root_.TS.Orc (VL prog w) A E s ur oneType' RK:=by
 refine ⟨yb,yc,fun x y st Q hx hy hk L=>?_⟩;obtain ⟨i,t,Y⟩:=hx;obtain ⟨j,u,J⟩:=hy;rw [lt'_eq];refine VR (aan ?_);rw [hk];have hb:ur x y=decide (i < j):=by unfold ur;rw [Y,J];simp [rN,Bs,aab]
 rw [hb] at L;rw [Y,J];refine VR (aaC (Yk (show Le (VL prog w) A (oneLt' true (.int i t) (.int j u)) _ _ s from oneLt_int ?_)));exact ⟨rfl,V8 L⟩
def UD:_root_.TS.Orc (VL prog w) A E s ur oneType' Tr:=by
 refine ⟨yb,yc,fun x y st Q hx hy hk L=>?_⟩;obtain ⟨i,t,Y⟩:=hx;obtain ⟨j,u,J⟩:=hy;rw [lt'_eq];refine VR (aan ?_);rw [hk];have hb:ur x y=decide (i.cps.toList < j.cps.toList):=by unfold ur;rw [Y,J];simp [rN,Bs]
 rw [hb] at L;rw [Y,J];refine VR (aaC (Yk (show Le (VL prog w) A (oneLt' true (.str i t) (.str j u)) _ _ s from oneLt_str ?_)));exact ⟨rfl,V8 L⟩
def pQ:∀ {vs:abA} {x:gs×gs},x∈vs.zip vs->x.1=x.2/\x.1∈vs
 | [],_,h=>by simp at h
 | v::r,x,h=>by
  rw [Wp] at h;rcases nE.mp h with e|h
  .subst e;exact ⟨rfl,OR⟩
  .exact ⟨(pQ h).1,mK _ (pQ h).2⟩
def wM:∀ (vs:abA),(vs.zip vs).map (·.2)=vs
 | []=>rfl
 | v::r=>by rw [Wp,By,wM r]
def Bj {In:W6->Prop} {a:Do} {vs:abA} {n:Nat} {P:YC->iF->Prop} (ho:s.heap.get? a=some (Wj "list" vs.toArray n)) (hz:vs.length<=63)
  (O':∀ s',_root_.TS.Orc (VL prog w) A E s' ur oneType' In) (hk:2<=vs.length->keyKind' vs.toArray=pure oneType') (hI:∀ v∈vs,In (v,v))
  (h:∀ out:abA,out.Perm vs->out.Pairwise (fun x y=>¬ Bs (rN y) (rN x))->P (.done (.ret .none)) { s with heap:=sortedHeap s.heap a vs out.toArray }) :
  Le (VL prog w) A (Builtin.«list.sort» ⟨[.ref a],[]⟩) P E s:=by
 obtain ⟨e1,ho1⟩:∃ e1,(s.heap.update a (VW fun _=>(#[]:Array gs))).get? a=some (Wj "list" #[] e1):=⟨_,YY ho fun _=>#[]⟩;have L:(((s.heap.update a (VW fun _=>(#[]:Array gs))).push (Wj "tuple" vs.toArray 0)).push (Wj "list" #[] 0)).get? a=some (Wj "list" #[] e1):=dO _ (dO _ ho1);have zl:(vs.toArray.zip vs.toArray).toList=vs.zip vs:=by simp
 have zs:(vs.toArray.zip vs.toArray).size=vs.length:=by rw [<- Ww,zl,Xb];omega
 unfold Builtin.«list.sort»;dsimp only;rw [abo (by decide),abo (by decide)];refine bY (rW ?_);show Le _ _ (Builtin.List.listItems (.ref a) >>= _) _ _ _;refine bY (listItems_at ho rfl ?_);refine bY (XR ho rfl ?_ (by rw [tx,V6];omega) (VY _));refine bY (seqEpoch_at ho1 rfl ?_);refine bY (wpAny_newTuple ?_ (by show vs.length<=_;rw [V6];omega));refine bY (wpAny_newList ?_ (VY _));refine W7 ?_;rw [abo (show ¬ ((Xg (V7 "key") []).getD Wh != Wh)=true from lT),abo (show ¬ ((Xg (V7 "key") []).getD Wh != Wh)=true from lT)];show Le _ _ _ _ _ { s with heap:=((s.heap.update a (VW fun _=>(#[]:Array gs))).push (Wj "tuple" vs.toArray 0)).push (Wj "list" #[] 0) };refine bY (rW ?_);rw [abo lT];have fin:∀ J:WZ,(VJ J).Perm (vs.toArray.zip vs.toArray)->_root_.TS.SegG ur (VJ J) 0 (vs.toArray.zip vs.toArray).size->P (.done (.ret .none)) { s with heap:=sortedHeap s.heap a vs (Array.map (fun x=>x.snd) (VJ J)) }/\(Array.map (fun x=>x.snd) (VJ J)).size<=IF:=fun J hp hs=>by
  have Y:(VJ J).toList.Perm (vs.zip vs):=by rw [<- zl];exact XT.mp hp
  have e:Array.map (fun x=>x.snd) (VJ J)=((VJ J).toList.map (·.2)).toArray:=by apply X4.mp;rw [ZF]
  refine ⟨?_,?_⟩
  .rw [e];refine h _ (by rw [<- wM vs];rw [wM vs];exact (Y.map _).trans (by rw [wM])) ?_;rw [Xz,Zd];intro i j hi hj hij;have qi:=(pQ (Y.mem_iff.mp (Xn hi))).1;have qj:=(pQ (Y.mem_iff.mp (Xn hj))).1;rw [Ww] at hi hj
   have:=hs i j (VY _) (by omega) (by rw [<- hp.size_eq];exact hj)
   rw [_root_.TS.GJ hi,_root_.TS.GJ hj] at this;have h1:=of_decide_eq_false this;rw [<- qi,<- qj];simpa using h1
  .rw [Array.size_map,hp.size_eq,zs,V6];omega
 by_cases h2:vs.length < 2
 .have hn2:vs.toArray.size < 2:=by rw [tx];omega
  rw [abn hn2];refine bY (rW ?_);rw [abn hn2];refine bY (rW ?_);rw [abo (show ¬ ((Xg (V7 "key") []).getD Wh != Wh)=true from lT)];obtain ⟨q1,q2⟩:=fin (ZY general' (vs.toArray.zip vs.toArray) #[] 7 none) (abc _) fun i j _ hij hj=>by
   have e:i=j:=by omega
   subst e;exact abp (KY.irr _)
  refine bY (seqEpoch_at L rfl ?_);refine bY (XR L rfl ?_ (VY _) (Xv q2));dsimp only;simp only [bne_self_eq_false,XH,if_false];exact rW q1
 .have hn2:¬ vs.toArray.size < 2:=by rw [tx];omega
  rw [abo hn2];show Le _ _ (keyKind' vs.toArray >>= _) _ _ _;rw [hk (by omega)];refine bY (rW ?_);rw [abo hn2];refine bY (Wi (_root_.TS.xq (O' _) (st:=ZY oneType' (vs.toArray.zip vs.toArray) #[] 7 none)
   (Q:=fun _ J=>(VJ J).Perm (vs.toArray.zip vs.toArray)/\Yz J=none/\_root_.TS.SegG ur (VJ J) 0 (vs.toArray.zip vs.toArray).size) rfl (fun x hx=>?_) rfl rfl (by show 2<=(vs.toArray.zip vs.toArray).size;omega) (by show (vs.toArray.zip vs.toArray).size<=63;omega) fun J a1 a2 a3=>⟨a1,a2,a3⟩) ?_ fun _ _ z=>z)
  .have hx:x∈(vs.toArray.zip vs.toArray).toList:=hx;rw [zl] at hx;obtain ⟨z1,z2⟩:=pQ hx
   have:x=(x.1,x.1):=by obtain ⟨a,b⟩:=x;simp at z1;rw [z1]
   rw [this];exact hI _ z2
  rintro ⟨⟨⟩,J⟩ s' ⟨rfl,hp,hf,hs⟩;rw [abo (show ¬ ((Xg (V7 "key") []).getD Wh != Wh)=true from lT)];obtain ⟨q1,q2⟩:=fin J hp hs;refine bY (seqEpoch_at L rfl ?_);refine bY (XR L rfl ?_ (VY _) (Xv q2));dsimp only;simp only [bne_self_eq_false,XH,if_false];split
  .rename_i e he;exact absurd (hf.symm.trans he) (by simp)
  .exact rW q1
end
def Um:D->Option (Bool×K2)
 | .int i=>some (true,(i,[]))
 | .str z=>some (false,(0,z.cps.toList))
 | _=>none
def D0 (b:Bool):abC->Option (List K2)
 | []=>some []
 | d::r=>match Um d with
  | some (c,k)=>if c=b then (D0 b r).map (k::·) else none
  | none=>none
def Bn (b:Bool) (k:K2):D:=if b=true then .int k.1 else .str ⟨k.2.toArray⟩
def v8 (x y:K2):Bool:=!decide (Bs y x)
def AZ (xs:abC):R D:=if xs.length<=63 then (match D0 true xs with
 | some l=>.ok (.lst ((l.mergeSort v8).map (Bn true)))
 | none=>(match D0 false xs with
  | some l=>.ok (.lst ((l.mergeSort v8).map (Bn false)))
  | none=>.no)) else .no
def Fz:D->Option (abC)
 | .lst xs=>some xs
 | .dcf kvs=>some (kvs.map fun q=>iH q.1)
 | _=>none
def AU (ds:abC):R D:=match ds with
 | [d]=>(match Fz d with
  | some xs=>AZ xs
  | none=>.no)
 | _=>.no
def HU {K:aT} {H:Hp} {b:Bool}:∀ {ds:abC} {xs:abB} {us:abA} {l:List K2},aN K H ds xs->bC xs us->D0 b ds=some l->us.map rN=l/\(∀ v∈us,(if b=true then RK (v,v) else Tr (v,v))/\bq (if b=true then .int (rN v).1 else .str ⟨(rN v).2.toArray⟩) v)
 | [],_,_,_,h,r,e=>by cases h;cases r;cases e;exact ⟨rfl,fun v L=>nomatch L⟩
 | d::ds,_,_,l,⟨v,vs,e0,h1,h2⟩,r,e=>by
  subst e0;cases r with
  | @cons _ u _ us r1 r2 =>
   unfold D0 at e;cases q:Um d with
   | none=>rw [q] at e;cases e
   | some p =>
    obtain ⟨c,k⟩:=p;rw [q] at e;dsimp only at e;split at e
    .rename_i hc;subst hc;cases q2:D0 c ds with
     | none=>rw [q2] at e;cases e
     | some l' =>
      rw [q2] at e;cases e;obtain ⟨Y,a2⟩:=HU h2 r2 q2;have J:rN u=k/\(if c=true then RK (u,u) else Tr (u,u))/\bq (if c=true then .int (rN u).1 else .str ⟨(rN u).2.toArray⟩) u:=by
       cases d with
       | int i=>cases q;cases h1;obtain ⟨t,rfl⟩:=r1;exact ⟨rfl,⟨i,t,rfl⟩,⟨t,rfl⟩⟩
       | str z=>cases q;cases h1;obtain ⟨t,rfl⟩:=r1;exact ⟨rfl,⟨z,t,rfl⟩,⟨t,by simp [rN]⟩⟩
       | _=>cases q
      refine ⟨by rw [By,J.1,Y],fun v L=>?_⟩;rcases nE.mp L with rfl|L
      .exact J.2
      .exact a2 v L
    .cases e
def GY (a b c:K2) (h:v8 a b=true) (g:v8 b c=true):v8 a c=true:=by
 have h:¬ Bs b a:=of_decide_eq_false (by simpa [v8] using h);have g:¬ Bs c b:=of_decide_eq_false (by simpa [v8] using g)
 have:¬ Bs c a:=fun e=>by
  rcases KY.tri b a with q|q|q
  .exact h q
  .exact g (q ▸ e)
  .exact g (KY.tr _ _ _ e q)
 simp [v8,this]
def Ge (a b:K2):(v8 a b||v8 b a)=true:=by
 by_cases h:Bs b a
 .have:¬ Bs a b:=fun g=>KY.irr _ (KY.tr _ _ _ h g)
  simp [v8,this]
 .simp [v8,h]
def MM {us out:abA} (L:out.Perm us) (J:out.Pairwise (fun x y=>¬ Bs (rN y) (rN x))):out.map rN=(us.map rN).mergeSort v8:=by
 refine Zn (le:=fun a b=>v8 a b=true) (fun a b _ _ h g=>?_) ?_ (Zu GY Ge _) ((L.map _).trans (XE _ _).symm)
 .have h:¬ Bs b a:=of_decide_eq_false (by simpa [v8] using h);have g:¬ Bs a b:=of_decide_eq_false (by simpa [v8] using g);rcases KY.tri a b with q|q|q
  .exact absurd q g
  .exact q
  .exact absurd q h
 .rw [Xz];exact J.imp fun h=>by simp [v8,h]
def Nj {b:Bool} {vs:abA} (h:∀ v∈vs,if b=true then RK (v,v) else Tr (v,v)) (h2:2<=vs.length):keyKind' vs.toArray=pure oneType':=by
 match vs,h2 with
 | v1::v2::r,_ =>
  cases b with
  | true =>
   have:∀ {l:abA},(∀ v∈l,RK (v,v))->∃ ns,IntsAre l ns:=fun {l}=>by
    induction l with
    | nil=>exact fun _=>⟨[],.nil⟩
    | cons v r J=>intro h;obtain ⟨ns,q⟩:=J fun x L=>h x (mK _ L);obtain ⟨i,t,e⟩:=h v OR;exact ⟨i::ns,by rw [show v=.int i t from e];exact .cons i t q⟩
   obtain ⟨ns,q⟩:=this h;exact keyKind_ints q
  | false =>
   have:∀ {l:abA},(∀ v∈l,Tr (v,v))->∃ ns,StrsAre l ns:=fun {l}=>by
    induction l with
    | nil=>exact fun _=>⟨[],.nil⟩
    | cons v r J=>intro h;obtain ⟨ns,q⟩:=J fun x L=>h x (mK _ L);obtain ⟨i,t,e⟩:=h v OR;exact ⟨i::ns,by rw [show v=.str i t from e];exact .cons i t q⟩
   obtain ⟨ns,q⟩:=this h;exact keyKind_strs q
def FY {b:Bool}:∀ {out:abA},(∀ v∈out,bq (if b=true then .int (rN v).1 else .str ⟨(rN v).2.toArray⟩) v)->bC (out.map fun v=>if b=true then V.int (rN v).1 else .str ⟨(rN v).2.toArray⟩) out
 | [],_=>.nil
 | v::r,h=>.cons (h v OR) (FY fun x J=>h x (mK _ J))
def Fw {K:aT} {H:Hp} {b:Bool}:∀ (out:abA),aN K H ((out.map rN).map (Bn b)) (out.map fun v=>if b=true then V.int (rN v).1 else .str ⟨(rN v).2.toArray⟩)
 | []=>rfl
 | v::r=>⟨_,_,rfl,by unfold Bn;cases b <;> exact rfl,Fw r⟩
section
variable {X:Cx} {af:abw} {Z:St} {H:Hp} {s:iF} {Q:VK} {W:Wd} {O:abu}
def yo {E:abx} {b:Bool} {us:abA} {xs:abB} {ds:abC} {l:List K2} (I:Inv X af Z H s) (r:bC xs us) (dn:aN X.K H ds xs) (hl:D0 b ds=some l) (hz:ds.length<=63) (hok:∀ p L,H p=none->aN X.K (fun _=>none) ((l.mergeSort v8).map (Bn b)) L->Q (.ref p) (upd H p (.lst L))) :
  Le (VL X.prog X.w) X.A.in1 (newList us >>= fun l=>holding [l] (call (.builtin "list.sort") [l]) >>= fun _=>ret l) (fun fin s'=>∃ v,fin=abl (abm v)/\EP X af Z Q v s') E s:=by
 have hlu:ds.length=us.length:=dn.len.trans r.length;obtain ⟨a1,Y⟩:=HU dn r hl;refine bY (wpAny_newList ?_ (by rw [V6];omega));have ho:(s.heap.push (Wj "list" us.toArray 0)).get? s.heap.objs.size=some (Wj "list" us.toArray 0):=CT _ rfl;refine bY (W7 (WE slot_list_sort ⟨_,ho,rfl⟩ entry_list_sort ?_ (PySem.F.args_list_sort_1 _)));have fin:∀ out:abA,out.Perm us->out.Pairwise (fun x y=>¬ Bs (rN y) (rN x))->∃ v,abl (abm Wh)=abl (abm v) /\
   Le (VL X.prog X.w) X.A.in1 (ret (We s.heap.objs.size)) (fun fin s'=>∃ v,fin=abl (abm v)/\EP X af Z Q v s') E { s with heap:=sortedHeap (s.heap.push (Wj "list" us.toArray 0)) s.heap.objs.size us out.toArray }:=fun out hp hs=>by
  refine ⟨_,rfl,rW ⟨_,rfl,?_⟩⟩;have hrel:∀ v∈out,bq (if b=true then .int (rN v).1 else .str ⟨(rN v).2.toArray⟩) v:=fun v J=>(Y v (hp.mem_iff.mp J)).2;have rv:=FY hrel;refine ⟨.ref s.heap.objs.size,upd H s.heap.objs.size (.lst (out.map fun v=>if b=true then V.int (rN v).1 else .str ⟨(rN v).2.toArray⟩)),I.laid (t':=s.toks) (fun c o q=>?_) (oR _) ?_,rfl,hok _ _ (I.hok.fresh (oR _)) ?_⟩
  .have hlt:c < s.heap.objs.size:=ID q;unfold sortedHeap;rw [X7 _ _ _ _ (VI hlt)];refine dO _ (dO _ ?_);rw [X7 _ _ _ _ (VI hlt)];exact dO _ q
  .obtain ⟨e1,g1⟩:∃ e1,((s.heap.push (Wj "list" us.toArray 0)).update s.heap.objs.size (VW fun _=>(#[]:Array gs))).get? s.heap.objs.size=some (Wj "list" #[] e1):=⟨_,YY ho fun _=>#[]⟩;have g2:=YY (dO (Wj "list" #[] 0) (dO (Wj "tuple" us.toArray 0) g1)) fun _=>out.toArray;exact ⟨by rw [iN,hp.length_eq,V6];omega,out,_,rv,g2⟩
  .have e:(l.mergeSort v8)=out.map rN:=by rw [<- a1];exact (MM hp hs).symm
   rw [e];exact Fw out
 cases b with
 | true=>exact Bj (s:={ s with heap:=s.heap.push (Wj "list" us.toArray 0) }) ho (by omega) (fun _=>Vc) (Nj (b:=true) fun v J=>(Y v J).1) (fun v J=>(Y v J).1) fin
 | false=>exact Bj (s:={ s with heap:=s.heap.push (Wj "list" us.toArray 0) }) ho (by omega) (fun _=>UD) (Nj (b:=false) fun v J=>(Y v J).1) (fun v J=>(Y v J).1) fin
end
section
variable {X:Cx} {W:Wd} {O:abu} {e:Wk} {es:List Wk} {φ:FE} {α:FA} {pos p p1 p2:Pos} {x:Str}
def Lh (kvs:List (Key×V)):abB:=kvs.map fun q=>kV q.1
def Tl (K:aT) (xs:abB) (H:Hp) (Q:VK):Prop:=∃ a ds ys b l,xs=[.ref a]/\(iA K H a ys\/∃ o kvs,H a=some (.frz o (.dK kvs))/\ys=Lh kvs)/\aN K H ds ys/\D0 b ds=some l/\ds.length<=63 /\
 ∀ q J,H q=none->aN K (fun _=>none) ((l.mergeSort v8).map (Bn b)) J->Q (.ref q) (upd H q (.lst J))
def zB {P:VH} {w:VZ} {xs:List (Key×V)} {vs:List (Key×gs)} (r:KV xs vs) {acc:abA} (J:acc.length=vs.length) (h:∀ (j:Nat) (v:gs),acc[j]?=some v->∃ (k:Key) (x:gs),vs[j]?=some (k,x)/\vZ k v=true):bC (Lh xs) acc:=by
 unfold KV at r;induction r generalizing acc with
 | nil=>cases acc with
  | nil=>exact .nil
  | cons _ _=>simp at J
 | @cons p q ps qs hq t ih =>
  cases acc with
  | nil=>simp at J
  | cons v acc =>
   obtain ⟨k,x,L,e2⟩:=h 0 v rfl;simp at L;subst L;refine .cons (show bq (kV p.1) v by rw [hq.1];exact vn e2) (ih (by simpa using J) fun j u hj=>?_);obtain ⟨Y,x',e3,e4⟩:=h (j+1) u (by simpa using hj);exact ⟨Y,x',by simpa using e3,e4⟩
def AC (K:aT) (hc:X.calm=true) (hK:X.K=K:=by rfl):ce X (.builtin "sorted") (Tl K):=by
 subst hK;intro af s Z H xs us Q I r h;obtain ⟨a,ds,ys,b,l,rfl,src,dn,hl,hz,hok⟩:=h;obtain ⟨u,rfl,ru⟩:=kQ r;cases ru;refine PySem.Calls.call_function_entry kind_sorted plain_sorted entry_sorted (args_sorted1 _) ?_;unfold Builtin.«sorted»;refine bY (m:=checkCount "sorted" 1 1 _) (rW ?_);rcases src with hS|⟨o,kvs,hD,rfl⟩
 .obtain ⟨its,ri,hp,_⟩:=I.list hS;refine bY (collect_list hp.isList ?_ (by rw [<- ri.length,<- dn.len,V6];omega));have keep:∀ c o,s.heap.get? c=some o->((s.heap.push (Wj "list" #[] 0)).update s.heap.objs.size (VW (·++its.toArray))).get? c=some o:=fun c o q=>by
   have L:c < s.heap.objs.size:=ID q;rw [X7 _ _ _ _ (VI L),Zo _ _ _ (VI L)];exact q
  have I1:=I.kept (t':=s.toks) keep (by walk_at "tok");exact yo (b:=b) I1 ri dn hl hz hok
 .obtain ⟨z,hd,vs,F⟩:=t7 I hD;have Y:=F.rel.length;refine bY (bi I.tk (PySem.W.kdu_collect (aa1 (knd:=cA X.prog X.w) (kvs:=vs) (ep:=MO o) hd) (I.ok.hd hc) F.at_ (by rw [<- Y];exact z) fun h' tk acc kp J htk=>?_));have I1:=I.kept (t':=tk) (h':=h') kp htk;exact yo (b:=b) I1 (zB (P:=X.prog) (w:=X.w) F.rel (by rw [Ww];exact J.1) fun j v hj=>J.2 j v (by rw [<- XM];exact hj)) dn hl hz hok
def u9 {K:aT} {H:Hp}:∀ {ds:List (Key×D)} {kvs:List (Key×V)},eZ K H ds kvs->aN K H (ds.map fun q=>iH q.1) (Lh kvs)
 | [],_,h=>by cases h;exact rfl
 | (k,d)::r,_,⟨v,vs,e,_,h⟩=>by subst e;exact ⟨kV k,_,rfl,xo k,u9 h⟩
def BK {K:aT} {H:Hp} {d:D} {v:V} {xs:abC} (h:dF K H d v) (e:Fz d=some xs):∃ a ys,v=.ref a/\(iA K H a ys\/∃ o kvs,H a=some (.frz o (.dK kvs))/\ys=Lh kvs)/\aN K H xs ys:=by
 cases d with
 | lst ds=>cases e;obtain ⟨a,ys,rfl,h1,h2⟩:=h;exact ⟨a,ys,rfl,.inl h1,h2⟩
 | dcf ds =>
  cases e;obtain ⟨a,o,kvs,rfl,h1,h2⟩:=h;exact ⟨a,Lh kvs,rfl,.inr ⟨o,kvs,h1,rfl⟩,u9 h2⟩
 | _=>cases e
def UF (K:aT) (hW:W.K=K:=by rfl):BQ W (Tl K) AU:=by
 subst hW;intro as H xs ds Q hn dv h;unfold AU at h;split at h
 .obtain ⟨v,rfl,d1⟩:=iK dv;split at h
  .rename_i d zs e;obtain ⟨a,ys,rfl,Y,dn⟩:=BK d1 e;have L:iA W.K H a ys\/∃ o kvs,H a=some (.frz o (.dK kvs))/\ys=Lh kvs:=by
    rcases Y with q|⟨o,kvs,q,r⟩
    .exact .inl ((aC _ _).seq q)
    .exact .inr ⟨o,kvs,aC _ _ _ _ q,r⟩
   unfold AZ at h;split at h
   .rename_i hz;have fin:∀ (b:Bool) (l:List K2),jH W as H (.ok (.lst ((l.mergeSort v8).map (Bn b)))) Q->∀ q J,H q=none->aN W.K (fun _=>none) ((l.mergeSort v8).map (Bn b)) J->Q (.ref q) (upd H q (.lst J)):=fun b l h q J hq hd =>
     h q _ _ (bn hq _) hq a9 ⟨J,rfl,hd.mono fun b o z=>by cases z⟩
    split at h
    .rename_i l hl;exact ⟨a,zs,ys,true,l,rfl,L,dn.mono (aC _ _),hl,hz,fin true l h⟩
    .split at h
     .rename_i l hl;exact ⟨a,zs,ys,false,l,rfl,L,dn.mono (aC _ _),hl,hz,fin false l h⟩
     .exact h.elim
   .exact h.elim
  .exact h.elim
 .exact h.elim
def zg (K:aT) (J:X.calm=true) (L:X.mg "sorted"=none) (Y:JE X e (tD W O φ)) (hg:Gl X "sorted":=by rfl) (h1:bw e=true:=by rfl) (hK:X.K=K:=by rfl) (hW:W.K=K:=by rfl) :
  JE X (.Call (.Name "sorted" p) [e] [] pos) (tN W O (aj AU (ab φ am))) :=
 (A7 (AC K J hK) L (by with_unfolding_all rfl) (aa Y ah (hn:=h1)) hg h1 rfl).imp fun Z H Q hh=>gB hh fun as0 B own U I h=>⟨as0,B,own,U,I,jw h fun ds xs H1 s1 d1 h1=>UF K hW (own++as0) H1 xs ds Q (I.mono s1).exi d1 h1⟩
def NF (xs:abB) (H:Hp) (Q:VK):Prop:=∃ a o kvs,xs=[.ref a]/\H a=some (.frz o (.dK kvs))/\∀ l,H l=none->Q (.ref l) (upd H l (.lst (Lh kvs)))
def xS (hc:X.calm=true):ce X (.type "list") NF:=by
 intro af s Z H xs us Q I r h;obtain ⟨a,o,kvs,rfl,hD,hok⟩:=h;obtain ⟨u,rfl,ru⟩:=kQ r;cases ru;obtain ⟨z,hd,vs,F⟩:=t7 I hD;have L:=F.rel.length;refine bi I.tk (PySem.W.kdl_call (aa1 (knd:=cA X.prog X.w) (kvs:=vs) (ep:=MO o) hd) (I.ok.hd hc) F.at_ (by rw [<- L];exact z) fun h' tk acc c kp hg J Y=>?_);have rv:=zB (P:=X.prog) (w:=X.w) F.rel (acc:=acc.toList) (by rw [Ww];exact J.1) fun j v hj=>J.2 j v (by rw [<- XM];exact hj);exact ⟨.ref s.heap.objs.size,_,I.laid (t':=tk) kp (oR _) (show cc X.prog X.w _ h' _ (.lst (Lh kvs)) from ⟨by unfold Lh;rw [iN];exact z,acc.toList,c,rv,by simpa using hg⟩) Y,rfl,hok _ (I.hok.fresh (oR _))⟩
def vN (ds:abC):R D:=match ds with
 | [.dcf kvs]=>.ok (.lst (kvs.map fun q=>iH q.1))
 | _=>.no
def NA:BQ W NF vN:=by
 intro as H xs ds Q hn L h;unfold vN at h;split at h
 .obtain ⟨v,rfl,d1⟩:=iK L;obtain ⟨a,o,kvs,rfl,h1,h2⟩:=d1;exact ⟨a,o,kvs,rfl,aC _ _ _ _ h1,fun l J=>h l _ _ (bn J _) J a9 ⟨_,rfl,(u9 h2).mono (lv J (bn J _))⟩⟩
 .exact h.elim
structure IsC (K:aT) (C:Do):Prop where
 cl:Cls K C
 ha:WB K (.ref C) "__class__"=some (some (.builtin "object.__class__"))
 hn:aaG K (.builtin "object.__class__") "__get__"=some (some (.builtin "getset_descriptor.__get__"))
 htk:aa6 K (.builtin "object.__class__")=some true
 hm:PySem.W.mroIn K C (.type "object")=some true
 k:XX K (.ref C) (.ref C)=some true
 kn:XX K (.type "NoneType") (.ref C)=some false
 ki:XX K (.type "int") (.ref C)=some false
 kt:XX K (.type "tuple") (.ref C)=some false
def Tk (K:aT) (C:Do) (xs:abB) (H:Hp) (Q:VK):Prop:=(∃ a dx fs,xs=[.ref a,.ref C]/\H a=some (.ins C dx fs)/\Q (.bl true) H)\/(xs=[.non,.ref C]/\Q (.bl false) H)\/(∃ i,xs=[.int i,.ref C]/\Q (.bl false) H)\/∃ a ys,xs=[.ref a,.ref C]/\mf K H a ys/\Q (.bl false) H
def Rz {K:aT} {C:Do} (c:IsC K C) (hK:X.K=K:=by rfl):ce X (.builtin "isinstance") (Tk K C):=by
 subst hK;intro af s Z H xs us Q I r h;have fin:∀ (b:Bool),Q (.bl b) H->∀ tk,X.tn<=tk->EP X af Z Q (.bool b) { s with toks:=tk }:=fun b q tk htk=>⟨.bl b,H,I.tok tk,rfl,q⟩;rcases h with ⟨a,dx,fs,rfl,L,q⟩|⟨rfl,q⟩|⟨i,rfl,q⟩|⟨a,ys,rfl,L,q⟩ <;> (obtain ⟨u,v,rfl,J,r2⟩:=Fy r;cases r2;refine bi I.tk ?_)
 .cases J;exact gR (x:=.ref a) I rfl (.ins L c.cl c.ha c.hn c.htk c.hm) c.k (fin _ q)
 .exact gR I J .non c.kn (fin _ q)
 .exact gR I J (.int i) c.ki (fin _ q)
 .cases J;obtain ⟨its,rv,pl,hz⟩:=I.tuple L;obtain ⟨o,ho,Y,n,hd⟩:=pl;exact Wf Y7 I.kIn ⟨o,ho,Y⟩ c.kt (fun z=>nomatch z) (fin _ q)
def yJ (n:Str) (ds:abC):R D:=match ds with
 | [x,.cls k]=>if k=n then (match x with
  | .obj m _=>if m=n then .ok (.bl true) else .no
  | .non=>.ok (.bl false)
  | .int _=>.ok (.bl false)
  | .tup _=>.ok (.bl false)
  | _=>.no) else .no
 | _=>.no
def Tf {n:Str} {C:Do} (hn:VN W.K VF n=some (some (.ref C))):sx W (Tk W.K C) (yJ n):=by
 intro as H xs ds Q hx dv h;unfold yJ at h;split at h
 .obtain ⟨v,u,rfl,d1,d2⟩:=FG dv;split at h
  .rename_i e;subst e;obtain ⟨C2,rfl,Y⟩:=d2;rw [hn] at Y;cases Y;split at h
   .split at h
    .rename_i e;subst e;obtain ⟨a,C1,dx,xs,rfl,J,L,q3⟩:=d1;rw [hn] at J;cases J;exact .inl ⟨a,dx,xs,rfl,aC _ _ _ _ L,aR h rfl⟩
    .exact h.elim
   .cases d1;exact .inr (.inl ⟨rfl,aR h rfl⟩)
   .cases d1;exact .inr (.inr (.inl ⟨_,rfl,aR h rfl⟩))
   .obtain ⟨a,ys,rfl,J,L⟩:=d1;exact .inr (.inr (.inr ⟨a,ys,rfl,(aC _ _).seqT J,aR h rfl⟩))
   .exact h.elim
  .exact h.elim
 .exact h.elim
end
section
variable {X:Cx} {W:Wd} {O:abu} {o e:Wk} {φ ψ:FE} {apos cpos:Pos}
def jW (x:V):abB->Option Nat
 | []=>none
 | y::r=>if eqV y x then some 0 else (jW x r).map (·+1)
def zK {x:V}:∀ {xs:abB} {us:abA} {j:Nat},bC xs us->xs.all gQ=true->jW x xs=some j->∃ h:j < us.length,yT x us[j]=true/\∀ m (J:m < us.length),m < j->yT x us[m]=false
 | _,_,_,.nil,_,e=>by cases e
 | y::xs,u::us,j,.cons r t,f,e=>by
  rw [Wz,V4] at f;unfold jW at e;have L:=xV (x:=x) r f.1;by_cases h:eqV y x=true
  .rw [abn h] at e;cases e;exact ⟨Nat.succ_pos _,L.trans h,fun m J z=>absurd z (Nat.not_lt_zero _)⟩
  .rw [abo h] at e;cases q:jW x xs with
   | none=>rw [q] at e;cases e
   | some i =>
    rw [q] at e;cases e;obtain ⟨h1,h2,Y⟩:=zK t f.2 q;refine ⟨Nat.succ_lt_succ h1,h2,fun m J z=>?_⟩;cases m with
    | zero=>exact L.trans (Bool.eq_false_iff.mpr h)
    | succ m=>exact Y m (Yp J) (Yp z)
def Ue (K:aT):V->abB->Hp->VK->Prop:=fun x vs H Q=>∃ p xs y j,x=.ref p/\vs=[y]/\iA K H p xs/\gQ y=true/\xs.all gQ=true/\jW y xs=some j/\Q (.int (j:Nat)) H
def Jp (K:aT) (hK:X.K=K:=by rfl):TV X "list.index" (Ue K):=by
 subst hK;intro af s Z H x vs v us Q I rx rv h;obtain ⟨p,xs,y,j,rfl,rfl,hl,fy,fs,hj,q⟩:=h;cases rx;obtain ⟨u,rfl,ru⟩:=kQ rv;obtain ⟨its,r,⟨ob,n,e,Y,hd,hs⟩,hz⟩:=I.list hl;obtain ⟨c,dd,da,sl⟩:=ob;cases Y;cases hd;cases hs;obtain ⟨h1,h2,h3⟩:=zK r fs hj;have J:j < IF:=VE h1 (by rw [<- r.length];exact hz);have L:(j:Int) < 2 ^ 63 - 1:=by
  rw [V6] at J;omega
 exact ZZ Zw ⟨_,e,rfl⟩ PySem.F.entry_list_index (PySem.F.args_list_index_2 _ _) (SeqAt.list_indexAt p its.toArray n _ _ u (yT y) j (by simpa using h1) L (by simpa using h2) (fun m L z=>by simpa using h3 m (by simpa using L) z))
  ⟨e,fun w hw=>lz ru fy r fs w (by simpa using hw),.int _,H,I.tok _,⟨_,rfl⟩,q⟩
def Li (a b:D):R D:=match a with
 | .lst ds=>(match jy b,gd ds with
  | some v,some vs=>(match jW v vs with
   | some j=>.ok (.int (j:Nat))
   | none=>.no)
  | _,_=>.no)
 | _=>.no
def Ji (φ ψ:FE):FE:=fun U=>(φ U).bind fun x=>match x with
 | .lst ds=>(ψ U).bind fun y=>Li (.lst ds) y
 | _=>.no
def Kg (K:aT) (ho:JE X o (tD W O φ)) (ha:JE X e (tD W O ψ)) (hK:X.K=K:=by rfl) (hW:W.K=K:=by rfl) (J:WG o "index" X.env (eval o X.env)=eval o X.env:=by rfl) (L:(apos.endLine==cpos.line)=true:=by rfl) (hn:bw e=true:=by rfl) :
  JE X (.Call (.Attribute o "index" apos) [e] [] cpos) (tD W O (Ji φ ψ)) :=
 (Mq Yf Zw PySem.F.type_list_index (Jp K hK) ho (rq ha vv hn) J L (by rw [Wz,hn];rfl) (by show 1 < 29;decide)).imp fun Z H Q hh=>gB hh fun as0 B own U I h=>⟨as0,B,own,U,I,bS h fun x v H1 s1 d1 h1=>by
  subst hK;cases x with
  | lst ds =>
   obtain ⟨p,xs,rfl,q1,q2⟩:=d1;have Y:iA X.K H1 p xs:=by rw [<- hW];exact (aC _ _).seq q1
   refine ⟨.inl ⟨rfl,xs,Y⟩,?_⟩;refine ⟨as0,B,own,U,I.mono s1,bS h1 fun y u H2 s2 d2 h2=>?_⟩;unfold Li at h2;dsimp only at h2;cases e1:jy y with
   | none=>rw [e1] at h2;exact h2.elim
   | some v =>
    rw [e1] at h2;cases e2:gd ds with
    | none=>rw [e2] at h2;exact h2.elim
    | some ws =>
     rw [e2] at h2;dsimp only at h2;cases e3:jW v ws with
     | none=>rw [e3] at h2;exact h2.elim
     | some j =>
      rw [e3] at h2
      have:=gW d2 e1
      subst this;obtain ⟨h3,h4⟩:=oq q2 e2;subst h3;exact ⟨p,xs,u,j,rfl,rfl,s2.seq Y,sI e1,h4,e3,aR h2 rfl⟩
  | _=>exact h1.elim⟩
end
section
variable {X:Cx} {W:Wd} {O:abu} {tg:Wk} {α:FA} {p pos:Pos}
def No (xs:abB) (H:Hp) (Q:VK):Prop:=∃ a kvs,xs=[.ref a]/\Rd H a (.dK kvs)/\Q (.int (kvs.length:Int)) H
def rC:ce X (.builtin "len") No:=by
 intro af s Z H xs us Q I r h;obtain ⟨a,kvs,rfl,Y,q⟩:=h;obtain ⟨u,rfl,J⟩:=kQ r;cases J;exact RC I Y fun t s' L=>⟨.int (kvs.length:Int),H,L,⟨t,rfl⟩,q⟩
def uo (ds:abC):R D:=match ds with
 | [.dcf kvs]=>.ok (.int (kvs.length:Int))
 | _=>.no
def FO:sx W No uo:=by
 intro as H xs ds Q L J h;unfold uo at h;split at h
 .obtain ⟨v,rfl,d1⟩:=iK J;obtain ⟨a,o,kvs,rfl,h1,h2⟩:=d1;refine ⟨a,kvs,rfl,.inr ⟨o,aC _ _ _ _ h1⟩,?_⟩;rw [<- h2.len];exact aR h rfl
 .exact h.elim
end
def Lz:gs->Option Str
 | .str x _=>some x
 | _=>none
def zh (k:Str):∀ (es:List DictEntry) (ks:abv),es.map (fun e=>Lz e.key)=ks.map some->(es.find? fun e=>XO k e.key).isSome=ks.contains k
 | [],[],_=>rfl
 | [],_::_,h=>by cases h
 | _::_,[],h=>by cases h
 | e::es,x::ks,h=>by
  rw [By,By,abf] at h;obtain ⟨h1,h2⟩:=h;have J:=zh k es ks h2;have L:XO k e.key=(k==x):=by
   cases q:e.key with
   | str y t =>
    rw [q] at h1;have h1:some y=some x:=h1;rw [<- VS h1];show (y==k)=(k==y);exact Bool.beq_comm
   | _=>rw [q] at h1;cases h1
  rw [Xa,L,List.contains_cons];cases (k==x) with
  | true=>rfl
  | false=>exact J
def R3 (a:Do) (ks:abv):R2:=fun x y H Q=>∃ k,x=.str k/\y=.ref a/\Q (.bl (!ks.contains k)) H
def La (ks:abv) (x:Str) (a b:D):R D:=match a,b with
 | .str k,.cls y=>if y=x then .ok (.bl (!ks.contains k)) else .no
 | _,_=>.no
section
variable {X:Cx} {W:Wd}
def Pg {a:Do} {es:Array DictEntry} {n:Nat} {ks:abv} (hl:X.K.lookup a=some ⟨.type "dict",none,.dict es n,#[]⟩) (hk:YS X.w.params es.toList) (Y:es.toList.map (fun e=>Lz e.key)=ks.map some) (J:(a==W2)=false) :
  ga X (VT .NotIn) (R3 a ks):=by
 intro af s Z H x y v u Q I L ry h;obtain ⟨k,rfl,rfl,q⟩:=h;cases ry;obtain ⟨t,rfl⟩:=L;refine wpAny_notIn_of (knd:=strKind X.prog X.w) (k:=k) (show (k==k)=true from beq_self_eq_true k) J (aba (prog:=X.prog) (w:=X.w) I.kIn hl hk) ?_;have e:(findBy XO es k).isSome=ks.contains k:=by
  unfold findBy;rw [Yr,<- aau];exact zh k es.toList ks Y
 rw [e];exact ⟨.bl _,H,I.tok _,rfl,q⟩
def U3 {a:Do} {ks:abv} {x:Str} (hn:SJ W.K x a):uk W (R3 a ks) (La ks x):=by
 intro as H v u d b Q hq Y L h;unfold La at h;split at h
 .split at h
  .rename_i e;subst e;cases Y;obtain ⟨C,rfl,J⟩:=L;rw [show VN W.K VF _=_ from hn] at J;cases J;exact ⟨_,rfl,rfl,aR h rfl⟩
  .exact h.elim
 .exact h.elim
end
section
variable {X:Cx} {W:Wd} {Ob O O':abu} {st:WO} {e:Wk}
def Dy:FS:=fun _=>.no
def qA:JS X st (sD W Ob O O' Dy):=⟨fun af s Z H D I q=>let ⟨_,_,_,_,_,h⟩:=q;h.elim⟩
end
section
variable {X:Cx} {W:Wd} {Ob O O1 O2 O':abu} {c:Wk} {a b rest:List WO} {pos:Pos} {τ:FT} {φ1 φ2 ψ1 ψ2:FS}
def M5:JB X rest (sD W Ob O O' Dy):=⟨fun af s Z H D I q=>let ⟨_,_,_,_,_,h⟩:=q;h.elim⟩
def KJ (hc:JT X c (uN W O τ)) (ha:JB X a (sD W Ob O O1 φ1)) (hb:JB X b (sD W Ob O O2 φ2)) (h1:JB X rest (sD W Ob O1 O' ψ1)) (h2:JB X rest (sD W Ob O2 O' ψ2)) :
  JB X (.If c a b pos::rest) (sD W Ob O O' (fb τ (aD φ1 ψ1) (aD φ2 ψ2))) :=
 (FJ (NL hc ha hb) (⟨fun af s Z H D I q=>q.elim (h1.out af s Z H D I) (h2.out af s Z H D I)⟩:JB X rest fun D Z H=>sD W Ob O1 O' ψ1 D Z H\/sD W Ob O2 O' ψ2 D Z H)).imp fun D Z H hh=>gB hh fun as0 B own U I h =>
 ⟨as0,B,own,U,I,qN I h fun b H' s h'=>by
  cases b with
  | true =>
   refine ⟨as0,B,own,U,I.mono s,?_⟩;rw [abn rfl] at h';unfold aD at h';cases hr:φ1 U with
   | ok f =>
    rw [hr] at h';cases f with
    | nx δ'=>exact fun J Y H' L=>.inl ⟨as0,B,J,δ',L,h'⟩
    | _=>exact h'
   | er x=>rw [hr] at h';exact h'
   | no=>rw [hr] at h';exact h'
  | false =>
   refine ⟨as0,B,own,U,I.mono s,?_⟩;rw [abo lT] at h';unfold aD at h';cases hr:φ2 U with
   | ok f =>
    rw [hr] at h';cases f with
    | nx δ'=>exact fun J Y H' L=>.inr ⟨as0,B,J,δ',L,h'⟩
    | _=>exact h'
   | er x=>rw [hr] at h';exact h'
   | no=>rw [hr] at h';exact h'⟩
end
end L2
namespace T33
open PySem L2
def oV:D:=(.tup [(.str "none"),(.str "number"),(.str "text")])
def uj:D:=(.int 40)
def xa:D:=(.int 4)
def uY:D:=(.int 8)
def nR:D:=(.int 2)
def mw:D:=(.int 1000000000)
def pb:D:=(.tup [(.str "and"),(.str "by"),(.str "down"),(.str "from"),(.str "none"),(.str "not"),(.str "or"),(.str "order"),(.str "show"),(.str "take"),(.str "where")])
def qa:D:=(.tup [(.str "number"),(.str "text")])
def kO:D:=(.int 8)
def qp:D:=(.int 8)
def iB:List (Str×D):=[("table",(.int 2)),("index",(.int 3)),("put",(.int 4)),("drop",(.int 3))]
abbrev uI (i:Nat) (n:Int):FE:=av cC (ag i) (vC (.int n))
abbrev oJ:FE:=vC (.int 0)
abbrev lR:FE:=vC (.int 1)
abbrev wF:FE:=vC (.int 2)
abbrev zk:FE:=vC (.int 3)
abbrev Dm:FE:=vC (.int 4)
abbrev sC:FE:=vC (.int 5)
abbrev Ja:FE:=vC (.int 6)
abbrev ER:FE:=vC (.int 7)
abbrev RL:FE:=vC (.int 8)
abbrev UO:FE:=vC (.int 9)
abbrev ul:FE:=vC (.int 10)
abbrev GL:FE:=vC (.int 12)
abbrev IB:FE:=vC (.int 16)
abbrev kl:FE:=vC (.int 48271)
abbrev kD:FE:=vC (.int 1000003)
abbrev kf:FE:=vC (.int 2147483647)
abbrev iw:FE:=vC (.str "leaf")
abbrev rh:FE:=vC (.str "branch")
abbrev BZ:FE:=vC (.str "table")
abbrev xt:FE:=vC (.str "index")
abbrev DG:FE:=vC (.str "put")
abbrev yX:abv:=["sign"]
abbrev nt:abv:=["sign"]
def qT:FS:=(ba (eU (av KR (ag 0) (vC (.str " "))) (av HP (ag 0) (vC (.str "~")))))
def vd:abC->R D:=bO qT yX nt
def G3 (J:D):vd [J]=fin (qT [some J]):=rfl
abbrev sN:abv:=["thing"]
abbrev kJ:abv:=["thing"]
def lu:FS:=(aD (fb (dG (aj dH (ab (ag 0) (ab (vC (.ty "str")) am)))) (ba (eU (av HP (aj cw (ab (ag 0) am)) (vC uj)) (aj nh (ab (bK [none] (gf (ag 0)) (.one 0) de (aj vd (ab (ag 0) am))) am)))) bu) (aD (fb (tV (dG (aj dH (ab (ag 0) (ab (vC (.ty "int")) am)))) (fQ (dG (aj dH (ab (ag 0) (ab (vC (.ty "bool")) am)))))) (ba (av Az (aj LB (ab (ag 0) am)) (av pY ul (vC (.int 18))))) bu) (ba (av BB (ag 0) (vC .non)))))
def cr:abC->R D:=bO lu sN kJ
def xZ (J:D):cr [J]=fin (lu [some J]):=rfl
abbrev zt:abv:=["value"]
abbrev nA:abv:=["value"]
def qV:FS:=(aD (fb (bV (av BB (ag 0) (vC .non))) (ba (vC (.str "none"))) bu) (ba (Na (dG (aj dH (ab (ag 0) (ab (vC (.ty "str")) am)))) (vC (.str "text")) (vC (.str "number")))))
def cK:abC->R D:=bO qV zt nA
def GF (J:D):cK [J]=fin (qV [some J]):=rfl
abbrev zw:abv:=["one","other"]
abbrev nP:abv:=["one","other"]
def rf:FS:=(aD (fb (bV (av yI (aj cK (ab (ag 0) am)) (aj cK (ab (ag 1) am)))) (ba (Na (bV (av Az (Bm oV (ab (aj cK (ab (ag 0) am)) am)) (Bm oV (ab (aj cK (ab (ag 1) am)) am)))) (Fg xf lR) lR)) bu) (aD (fb (bV (av dR (ag 0) (ag 1))) (ba oJ) bu) (ba (Na (bV (av Az (ag 0) (ag 1))) (Fg xf lR) lR))))
def qZ:abC->R D:=bO rf zw nP
def Gj (L J:D):qZ [L,J]=fin (rf [some L,some J]):=rfl
abbrev wd:abv:=["value"]
abbrev jF:abv:=["value"]
def lZ:FS:=(aD (fb (bV (av BB (ag 0) (vC .non))) (ba (dM (ab oJ (ab oJ am)))) bu) (ba (dM (ab (Bm oV (ab (aj cK (ab (ag 0) am)) am)) (ab (ag 0) am)))))
def mt:abC->R D:=bO lZ wd jF
def Cq (J:D):mt [J]=fin (lZ [some J]):=rfl
abbrev sv:abv:=["one","other","told"]
abbrev gn:abv:=["one","other"]
def jg:FS:=(aD (bp 2 (aj qZ (ab (uI 0 0) (ab (uI 1 0) am)))) (ba (Pk (av Az (ag 2) oJ) (eU (av dR (ag 2) oJ) (av Az (uI 0 1) (uI 1 1))))))
def c6:abC->R D:=bO jg sv gn
def yQ (L J:D):c6 [L,J]=fin (jg [some L,some J,none]):=rfl
abbrev sk:abv:=[]
abbrev gm:abv:=[]
def je:FS:=(ba (dM (ab iw (ab (dM am) am))))
def jb:abC->R D:=bO je sk gm
def yW:jb []=fin (je []):=rfl
abbrev wb:abv:=["cells","things","cell"]
abbrev jz:abv:=["cells"]
def l8:FS:=(aD (ow 1 (fA am)) (aD (sP (gf (ag 0)) (.one 2) (oI 1 (uI 2 1))) (ba (ag 1))))
def cH:abC->R D:=bO l8 wb jz
def BN (J:D):cH [J]=fin (l8 [some J,none,none]):=rfl
abbrev oy:abv:=["index","cells"]
abbrev il:abv:=["index"]
def ky:FS:=(aD (bp 1 (fA (ab (ag 0) am))) (aD (dq (bV (av dR (av cC (uI 1 0) oJ) rh)) (bp 1 (bK [none] (gf (aj cH (ab (ag 1) am))) (.one 0) de (uI 0 1))) 1000) (ba (aj cH (ab (ag 1) am)))))
def j9:abC->R D:=bO ky oy il
def AR (J:D):j9 [J]=fin (ky [some J,none]):=rfl
abbrev yq:abv:=["cell"]
abbrev lq:abv:=["cell"]
def pe:FS:=(ba (Na (bV (av dR (uI 0 0) iw)) (av cC (uI 0 1) oJ) (av cC (av cC (uI 0 1) oJ) oJ)))
def kN:abC->R D:=bO pe yq lq
def Dq (J:D):kN [J]=fin (pe [some J]):=rfl
abbrev BO:abv:=["thing"]
abbrev pP:abv:=["thing"]
def ui:FS:=(ba (eU (aj dH (ab (ag 0) (ab (vC (.ty "tuple")) am))) (av dR (aj cw (ab (ag 0) am)) wF)))
def kX:abC->R D:=bO ui BO pP
def KL (J:D):kX [J]=fin (ui [some J]):=rfl
abbrev zd:abv:=["thing","word","fewest"]
abbrev nG:abv:=["thing","word","fewest"]
def nu:FS:=(aD (fb (rR (fQ (dG (aj kX (ab (ag 0) am)))) (rR (fQ (dG (aj dH (ab (uI 0 0) (ab (vC (.ty "str")) am))))) (bV (av yI (uI 0 0) (ag 1))))) (ba (vC (.bl false))) bu) (ba (eU (aj dH (ab (uI 0 1) (ab (vC (.ty "tuple")) am))) (eU (av KR (aj cw (ab (uI 0 1) am)) (ag 2)) (av HP (aj cw (ab (uI 0 1) am)) (vC uY))))))
def fG:abC->R D:=bO nu zd nG
def zJ (L J Y:D):fG [L,J,Y]=fin (nu [some L,some J,some Y]):=rfl
abbrev Ah:abv:=["entries"]
abbrev t9:abv:=["entries"]
def wN:FS:=(ba (aj nh (ab (bK [none,none] (J3 (ab (ag 0) (ab (Bg AH (ag 0) (hZ lR) nN) am))) (.tup [0,1]) de (aj c6 (ab (ag 0) (ab (ag 1) am)))) am)))
def oQ:abC->R D:=bO wN Ah t9
def Lk (J:D):oQ [J]=fin (wN [some J]):=rfl
abbrev pD:abv:=["thing"]
abbrev eF:abv:=["thing"]
def gA:FS:=(ba (eU (aj dH (ab (ag 0) (ab (vC (.ty "int")) am))) (eU (L3 (aj dH (ab (ag 0) (ab (vC (.ty "bool")) am)))) (eU (av KR (ag 0) lR) (av HP (ag 0) (vC mw))))))
def bI:abC->R D:=bO gA pD eF
def ww (J:D):bI [J]=fin (gA [some J]):=rfl
abbrev xU:abv:=["thing"]
abbrev kK:abv:=["thing"]
def oj:FS:=(ba (eU (aj kX (ab (ag 0) am)) (eU (aj cr (ab (uI 0 0) am)) (aj bI (ab (uI 0 1) am)))))
def lb:abC->R D:=bO oj xU kK
def DX (J:D):lb [J]=fin (oj [some J]):=rfl
abbrev vj:abv:=["thing","fewest"]
abbrev nQ:abv:=["thing","fewest"]
def m9:FS:=(aD (fb (fQ (dG (aj fG (ab (ag 0) (ab iw (ab (ag 1) am)))))) (ba (vC (.bl false))) bu) (ba (eU (aj nh (ab (bK [none] (gf (uI 0 1)) (.one 0) de (aj lb (ab (ag 0) am))) am)) (aj oQ (ab (uI 0 1) am)))))
def gS:abC->R D:=bO m9 vj nQ
def y2 (L J:D):gS [L,J]=fin (m9 [some L,some J]):=rfl
abbrev zb:abv:=["thing"]
abbrev m6:abv:=["thing"]
def rp:FS:=(ba (eU (aj kX (ab (ag 0) am)) (aj lb (ab (uI 0 0) am))))
def uQ:abC->R D:=bO rp zb m6
def GI (J:D):uQ [J]=fin (rp [some J]):=rfl
abbrev qu:abv:=["thing","fewest"]
abbrev jI:abv:=["thing","fewest"]
def js:FS:=(ba (eU (aj fG (ab (ag 0) (ab rh (ab (ag 1) am)))) (aj nh (ab (bK [none] (gf (uI 0 1)) (.one 0) de (aj uQ (ab (ag 0) am))) am))))
def g6:abC->R D:=bO js qu jI
def wj (L J:D):g6 [L,J]=fin (js [some L,some J]):=rfl
abbrev gL:abv:=["thing","parts","cells","leaves"]
abbrev lI:abv:=["thing"]
def iR:FS:=(aD (fb (dG (aj gS (ab (ag 0) (ab oJ am)))) (ba (vC (.bl true))) bu) (aD (fb (fQ (dG (aj g6 (ab (ag 0) (ab (vC nR) am))))) (ba (vC (.bl false))) bu) (aD (bp 1 (aj yM (ab (uI 0 1) am))) (aD (dq (dG (aj oQ (ab (bK [none] (gf (ag 1)) (.one 0) de (uI 0 0)) am))) (aD (bp 2 (bK [none] (gf (ag 1)) (.one 0) de (uI 0 1))) (aD (bp 3 (aj nh (ab (bK [none] (gf (ag 2)) (.one 0) de (aj gS (ab (ag 0) (ab (vC xa) am)))) am))) (aD (fb (tV (fQ (dG (ag 3))) (fQ (dG (aj nh (ab (bK [none] (gf (ag 2)) (.one 0) de (aj g6 (ab (ag 0) (ab (vC xa) am)))) am))))) (ba (vC (.bl false))) bu) (aD (fb (fQ (dG (aj nh (ab (bK [none] (gf (ag 1)) (.one 0) de (av dR (uI 0 0) (aj kN (ab (uI 0 1) am)))) am)))) (ba (vC (.bl false))) bu) (aD (fb (dG (ag 3)) (ba (aj oQ (ab (aj cH (ab (ag 2) am)) am))) bu) Dy))))) 1000) (ba (vC (.bl false)))))))
def gK:abC->R D:=bO iR gL lI
def tf (J:D):gK [J]=fin (iR [some J,none,none,none]):=rfl
abbrev vT:abv:=["sign"]
abbrev jD:abv:=["sign"]
def mn:FS:=(ba (eU (av KR (ag 0) (vC (.str "a"))) (av HP (ag 0) (vC (.str "z")))))
def lX:abC->R D:=bO mn vT jD
def Bx (J:D):lX [J]=fin (mn [some J]):=rfl
abbrev uT:abv:=["thing"]
abbrev nS:abv:=["thing"]
def qO:FS:=(aD (fb (rR (fQ (dG (aj dH (ab (ag 0) (ab (vC (.ty "str")) am))))) (rR (bV (av dR (ag 0) (vC (.str "")))) (bV (av HI (aj cw (ab (ag 0) am)) (vC kO))))) (ba (vC (.bl false))) bu) (ba (eU (aj nh (ab (bK [none] (gf (ag 0)) (.one 0) de (aj lX (ab (ag 0) am))) am)) (av vy (ag 0) (vC pb)))))
def kE:abC->R D:=bO qO uT nS
def Hd (J:D):kE [J]=fin (qO [some J]):=rfl
abbrev m8:abv:=["thing"]
abbrev dr:abv:=["thing"]
def nM:FS:=(ba (eU (aj dH (ab (ag 0) (ab (vC (.ty "str")) am))) (av Vk (ag 0) (vC qa))))
def i6:abC->R D:=bO nM m8 dr
abbrev y6:abv:=["thing"]
abbrev m5:abv:=["thing"]
def nv:FS:=(ba (eU (aj dH (ab (ag 0) (ab (vC (.ty "tuple")) am))) (av dR (aj cw (ab (ag 0) am)) wF)))
def iW:abC->R D:=bO nv y6 m5
def zC (J:D):iW [J]=fin (nv [some J]):=rfl
abbrev v7:abv:=["thing"]
abbrev jE:abv:=["thing"]
def me:FS:=(ba (eU (aj iW (ab (ag 0) am)) (eU (aj kE (ab (uI 0 0) am)) (aj i6 (ab (uI 0 1) am)))))
def l7:abC->R D:=bO me v7 jE
def Cd (J:D):l7 [J]=fin (me [some J]):=rfl
abbrev jc:abv:=["thing","names"]
abbrev gh:abv:=["thing"]
def gp:FS:=(aD (fb (rR (fQ (dG (aj dH (ab (ag 0) (ab (vC (.ty "tuple")) am))))) (rR (bV (av Az (aj cw (ab (ag 0) am)) lR)) (bV (av HI (aj cw (ab (ag 0) am)) (vC qp))))) (ba (vC (.bl false))) bu) (aD (fb (fQ (dG (aj nh (ab (bK [none] (gf (ag 0)) (.one 0) de (aj l7 (ab (ag 0) am))) am)))) (ba (vC (.bl false))) bu) (aD (bp 1 (bK [none] (gf (ag 0)) (.one 0) de (uI 0 0))) (ba (av dR (aj qS (ab (ag 1) am)) (aj cw (ab (ag 1) am)))))))
def c5:abC->R D:=bO gp jc gh
def sq (J:D):c5 [J]=fin (gp [some J,none]):=rfl
abbrev xP:abv:=["thing"]
abbrev lm:abv:=["thing"]
def iQ:FS:=(ba (eU (aj iW (ab (ag 0) am)) (eU (aj kE (ab (uI 0 0) am)) (aj c5 (ab (uI 0 1) am)))))
def cu:abC->R D:=bO iQ xP lm
def sG (J:D):cu [J]=fin (iQ [some J]):=rfl
abbrev qM:abv:=["shape","column","place","pair"]
abbrev ff:abv:=["shape","column"]
abbrev TX:FS:=(fb (bV (av dR (uI 3 0) (ag 1))) (ba (ag 2)) bu)
def fB:FS:=(aD (sP (ly (ab (uI 0 1) am)) (.tup [2,3]) TX) (ba (vC .non)))
def cg:abC->R D:=bO fB qM ff
def qG (L J:D):cg [L,J]=fin (fB [some L,some J,none,none]):=rfl
abbrev vQ:abv:=["thing","kind"]
abbrev jK:abv:=["thing","kind"]
def gU:FS:=(ba (Pk (av BB (ag 0) (vC .non)) (eU (aj cr (ab (ag 0) am)) (av dR (aj cK (ab (ag 0) am)) (ag 1)))))
def bN:abC->R D:=bO gU vQ jK
def pK (L J:D):bN [L,J]=fin (gU [some L,some J]):=rfl
abbrev C0:abv:=["shape","row","columns"]
abbrev yj:abv:=["shape","row"]
def u3:FS:=(aD (bp 2 (uI 0 1)) (aD (fb (rR (fQ (dG (aj dH (ab (ag 1) (ab (vC (.ty "tuple")) am))))) (bV (av yI (aj cw (ab (ag 1) am)) (aj cw (ab (ag 2) am))))) (ba (vC (.bl false))) bu) (ba (aj nh (ab (bK [none,none] (J3 (ab (ag 1) (ab (ag 2) am))) (.tup [0,1]) de (aj bN (ab (ag 0) (ab (uI 1 1) am)))) am)))))
def jT:abC->R D:=bO u3 C0 yj
def D6 (L J:D):jT [L,J]=fin (u3 [some L,some J,none]):=rfl
abbrev yr:abv:=["word","things","many","cells","place","start","end"]
abbrev kL:abv:=["word","things"]
abbrev cB:FS:=(aD (bp 5 (av b8 (av iJ (ag 4) (aj cw (ab (ag 1) am))) (ag 2))) (aD (bp 6 (av b8 (av iJ (av cT (ag 4) lR) (aj cw (ab (ag 1) am))) (ag 2))) (df 3 (dM (ab (ag 0) (ab (aj uP (ab (Bg AH (ag 1) (hZ (ag 5)) (hZ (ag 6))) am)) am))))))
def oF:FS:=(aD (bp 2 (av b8 (av yK (av cT (aj cw (ab (ag 1) am)) (vC uY)) lR) (vC uY))) (aD (ow 3 (fA am)) (aD (sP (oX (ab (ag 2) am)) (.one 4) cB) (ba (ag 3)))))
def lj:abC->R D:=bO oF yr kL
def DH (L J:D):lj [L,J]=fin (oF [some L,some J,none,none,none,none,none]):=rfl
abbrev tw:abv:=["cells"]
abbrev kU:abv:=["cells"]
def oG:FS:=(ba (bK [none] (gf (ag 0)) (.one 0) de (dM (ab (aj kN (ab (ag 0) am)) (ab (ag 0) am)))))
def n6:abC->R D:=bO oG tw kU
def DA (J:D):n6 [J]=fin (oG [some J]):=rfl
abbrev Cr:abv:=["cells","level"]
abbrev qK:abv:=["cells"]
abbrev rQ:FT:=(bV (av HI (aj cw (ab (ag 1) am)) lR))
abbrev rB:FS:=(bp 1 (aj lj (ab rh (ab (aj n6 (ab (ag 1) am)) am))))
def qm:FS:=(aD (bp 1 (ag 0)) (aD (dq rQ rB 1000) (ba (uI 1 0))))
def nC:abC->R D:=bO qm Cr qK
def BH (J:D):nC [J]=fin (qm [some J,none]):=rfl
abbrev vW:abv:=["entry"]
abbrev jt:abv:=["entry"]
def mD:FS:=(ba (dM (ab (aj mt (ab (uI 0 0) am)) (ab (uI 0 1) am))))
def cY:abC->R D:=bO mD vW jt
def Cb (J:D):cY [J]=fin (mD [some J]):=rfl
abbrev tW:abv:=["entries","once","entry"]
abbrev ij:abv:=["entries"]
abbrev nB:FS:=(fb (rR (bV (av dR (ag 1) (fA am))) (bV (av yI (av cC (ag 1) (Fg xf lR)) (ag 2)))) (df 1 (ag 2)) bu)
def fJ:FS:=(aD (ow 1 (fA am)) (aD (sP (gf (aj (vV keyN cY) (ab (ag 0) am))) (.one 2) nB) (aD (fb (bV (av dR (ag 1) (fA am))) (ba (aj jb am)) bu) (ba (aj nC (ab (aj lj (ab iw (ab (ag 1) am))) am))))))
def cV:abC->R D:=bO fJ tW ij
def Af (J:D):cV [J]=fin (fJ [some J,none,none]):=rfl
abbrev wg:abv:=["shape"]
abbrev jB:abv:=["shape"]
def mo:FS:=(ba (HC "Table" ["shape","rows","indexes"] (ab (ag 0) (ab (Gx (vC (.dct []))) (ab (Gx (vC (.dct []))) am)))))
def jC:abC->R D:=bO mo wg jB
def BD (J:D):jC [J]=fin (mo [some J]):=rfl
abbrev xm:abv:=["table","number","row","rows","indexes","column"]
abbrev kZ:abv:=["table","number","row"]
def oo:FS:=(aD (ow 3 (aj w8 (ab (bH "Table" "rows" (ag 0)) am))) (aD (iM 3 (ag 1) (ag 2)) (aD (bp 4 (Gx (vC (.dct [])))) (aD (sP (vK (bH "Table" "indexes" (ag 0))) (.one 5) Dy) (Ea 3 (ba (HC "Table" ["shape","rows","indexes"] (ab (bH "Table" "shape" (ag 0)) (ab (ag 3) (ab (ag 4) am))))))))))
def pp:abC->R D:=bO oo xm kZ
def Db (L J Y:D):pp [L,J,Y]=fin (oo [some L,some J,some Y,none,none,none]):=rfl
abbrev oO:abv:=["table","column","place"]
abbrev ir:abv:=["table","column"]
def j8:FS:=(aD (bp 2 (aj cg (ab (bH "Table" "shape" (ag 0)) (ab (ag 1) am)))) (ba (bK [none,none,some 2] (sK (bH "Table" "rows" (ag 0))) (.tup [0,1]) de (dM (ab (av cC (ag 1) (ag 2)) (ab (ag 0) am))))))
def ic:abC->R D:=bO j8 oO ir
def AE (L J:D):ic [L,J]=fin (j8 [some L,some J,none]):=rfl
abbrev uw:abv:=["table","column","indexes"]
abbrev iu:abv:=["table","column"]
def ku:FS:=(aD (ow 2 (aj w8 (ab (bH "Table" "indexes" (ag 0)) am))) (aD (iM 2 (ag 1) (aj cV (ab (aj ic (ab (ag 0) (ab (ag 1) am))) am))) (Ea 2 (ba (HC "Table" ["shape","rows","indexes"] (ab (bH "Table" "shape" (ag 0)) (ab (bH "Table" "rows" (ag 0)) (ab (ag 2) am))))))))
def j6:abC->R D:=bO ku uw iu
def Aw (L J:D):j6 [L,J]=fin (ku [some L,some J,none]):=rfl
abbrev rX:abv:=["table","column","index"]
abbrev gl:abv:=["table","column"]
def eR:FS:=(aD (fb (rR (fQ (dG (aj dH (ab (ag 1) (ab (vC (.ty "str")) am))))) (bV (av BB (aj cg (ab (bH "Table" "shape" (ag 0)) (ab (ag 1) am))) (vC .non)))) (ba (vC (.bl false))) bu) (aD (bp 2 (av hJ (bH "Table" "indexes" (ag 0)) (ag 1))) (ba (eU (aj gK (ab (ag 2) am)) (av dR (aj j9 (ab (ag 2) am)) (aj (vV keyN cY) (ab (aj ic (ab (ag 0) (ab (ag 1) am))) am)))))))
def bP:abC->R D:=bO eR rX gl
def mR (L J:D):bP [L,J]=fin (eR [some L,some J,none]):=rfl
abbrev ou:abv:=["thing"]
abbrev la:abv:=["thing"]
def fj:FS:=(aD (fb (rR (fQ (dG (aj (yJ "Table") (ab (ag 0) (ab (vC (.cls "Table")) am))))) (fQ (dG (aj cu (ab (bH "Table" "shape" (ag 0)) am))))) (ba (vC (.bl false))) bu) (aD (fb (rR (fQ (dG (aj dH (ab (bH "Table" "rows" (ag 0)) (ab (vC (.ty "dict")) am))))) (fQ (dG (aj dH (ab (bH "Table" "indexes" (ag 0)) (ab (vC (.ty "dict")) am)))))) (ba (vC (.bl false))) bu) (aD (fb (fQ (dG (aj nh (ab (bK [none,none,some 0] (sK (bH "Table" "rows" (ag 0))) (.tup [0,1]) de (eU (aj bI (ab (ag 0) am)) (aj jT (ab (bH "Table" "shape" (ag 2)) (ab (ag 1) am))))) am)))) (ba (vC (.bl false))) bu) (ba (aj nh (ab (bK [none,some 0] (vK (bH "Table" "indexes" (ag 0))) (.one 0) de (aj bP (ab (ag 1) (ab (ag 0) am)))) am))))))
def aX:abC->R D:=bO fj ou la
def kW (J:D):aX [J]=fin (fj [some J]):=rfl
abbrev y8:abv:=["change"]
abbrev nT:abv:=["change"]
def qY:FS:=(aD (fb (rR (fQ (dG (aj dH (ab (ag 0) (ab (vC (.ty "tuple")) am))))) (rR (bV (av dR (aj cw (ab (ag 0) am)) oJ)) (fQ (dG (aj dH (ab (uI 0 0) (ab (vC (.ty "str")) am))))))) Dy bu) (aD (fb (rR (bV (av (La (iB.map (·.1)) "FORMS") (uI 0 0) (vC (.cls "FORMS")))) (bV (av yI (aj cw (ab (ag 0) am)) (Fg (Qr iB) (uI 0 0))))) Dy bu) (ba (uI 0 0))))
def qW:abC->R D:=bO qY y8 nT
def G9 (J:D):qW [J]=fin (qY [some J]):=rfl
abbrev tI:abv:=["state","name","table","behind"]
abbrev iz:abv:=["state","name","table"]
def kq:FS:=(aD (ow 3 (aj w8 (ab (ag 0) am))) (aD (iM 3 (ag 1) (ag 2)) (Ea 3 (ba (ag 3)))))
def fE:abC->R D:=bO kq tI iz
def zO (L J Y:D):fE [L,J,Y]=fin (kq [some L,some J,some Y,none]):=rfl
abbrev lp:abv:=["state","shape"]
abbrev cO:abv:=["state","shape"]
def dY:FS:=(aD (fb (fQ (dG (aj cu (ab (ag 1) am)))) Dy bu) (aD (fb (bV (av Mw (uI 1 0) (ag 0))) Dy bu) (ba (aj fE (ab (ag 0) (ab (uI 1 0) (ab (aj jC (ab (ag 1) am)) am)))))))
def cN:abC->R D:=bO dY lp cO
def sE (L J:D):cN [L,J]=fin (dY [some L,some J]):=rfl
abbrev xi:abv:=["state","name"]
abbrev lB:abv:=["state","name"]
def oY:FS:=(aD (fb (rR (fQ (dG (aj dH (ab (ag 1) (ab (vC (.ty "str")) am))))) (bV (av Ag (ag 1) (ag 0)))) Dy bu) (ba (av hJ (ag 0) (ag 1))))
def lw:abC->R D:=bO oY xi lB
def Da (L J:D):lw [L,J]=fin (oY [some L,some J]):=rfl
abbrev lJ:abv:=["state","name","column","table"]
abbrev cQ:abv:=["state","name","column"]
def dX:FS:=(aD (bp 3 (aj lw (ab (ag 0) (ab (ag 1) am)))) (aD (fb (rR (fQ (dG (aj dH (ab (ag 2) (ab (vC (.ty "str")) am))))) (bV (av BB (aj cg (ab (bH "Table" "shape" (ag 3)) (ab (ag 2) am))) (vC .non)))) Dy bu) (aD (fb (bV (av Mw (ag 2) (bH "Table" "indexes" (ag 3)))) Dy bu) (ba (aj fE (ab (ag 0) (ab (ag 1) (ab (aj j6 (ab (ag 3) (ab (ag 2) am))) am))))))))
def cP:abC->R D:=bO dX lJ cQ
def sA (L J Y:D):cP [L,J,Y]=fin (dX [some L,some J,some Y,none]):=rfl
abbrev nJ:abv:=["state","name","number","row","table"]
abbrev dh:abv:=["state","name","number","row"]
def fF:FS:=(aD (bp 4 (aj lw (ab (ag 0) (ab (ag 1) am)))) (aD (fb (fQ (dG (aj bI (ab (ag 2) am)))) Dy bu) (aD (fb (fQ (dG (aj jT (ab (bH "Table" "shape" (ag 4)) (ab (ag 3) am))))) Dy bu) (ba (aj fE (ab (ag 0) (ab (ag 1) (ab (aj pp (ab (ag 4) (ab (ag 2) (ab (ag 3) am)))) am))))))))
def dj:abC->R D:=bO fF nJ dh
def vh (Y J a2 L:D):dj [Y,J,a2,L]=fin (fF [some Y,some J,some a2,some L,none]):=rfl
abbrev zj:abv:=["state","change","word"]
abbrev m7:abv:=["state","change"]
def kG:FS:=(aD (bp 2 (aj qW (ab (ag 1) am))) (aD (fb (bV (av dR (ag 2) BZ)) (ba (aj cN (ab (ag 0) (ab (uI 1 1) am)))) bu) (aD (fb (bV (av dR (ag 2) xt)) (ba (aj cP (ab (ag 0) (ab (uI 1 1) (ab (uI 1 2) am))))) bu) (aD (fb (bV (av dR (ag 2) DG)) (ba (aj dj (ab (ag 0) (ab (uI 1 1) (ab (uI 1 2) (ab (uI 1 3) am)))))) bu) Dy))))
def i5:abC->R D:=bO kG zj m7
def vt (L J:D):i5 [L,J]=fin (kG [some L,some J,none]):=rfl
abbrev sr:abv:=["state","changes","behind","change"]
abbrev gq:abv:=["state","changes"]
abbrev Uq:FS:=bp 2 (aj i5 (ab (ag 2) (ab (ag 3) am)))
def ja:FS:=(aD (bp 2 (ag 0)) (aD (sP (gf (ag 1)) (.one 3) Uq) (ba (ag 2))))
def jh:abC->R D:=bO ja sr gq
def yV (L J:D):jh [L,J]=fin (ja [some L,some J,none,none]):=rfl
abbrev nH:abv:=["table","name"]
abbrev dw:abv:=["table","name"]
def dD:FS:=(ba (eU (aj kE (ab (ag 1) am)) (eU (aj aX (ab (ag 0) am)) (av dR (av cC (bH "Table" "shape" (ag 0)) oJ) (ag 1)))))
def bT:abC->R D:=bO dD nH dw
def nj (L J:D):bT [L,J]=fin (dD [some L,some J]):=rfl
abbrev sQ:abv:=["state"]
abbrev lg:abv:=["state"]
def oN:FS:=(ba (eU (aj dH (ab (ag 0) (ab (vC (.ty "dict")) am))) (aj nh (ab (bK [none,none] (sK (ag 0)) (.tup [0,1]) de (aj bT (ab (ag 1) (ab (ag 0) am)))) am))))
def bX:abC->R D:=bO oN sQ lg
def Dl (J:D):bX [J]=fin (oN [some J]):=rfl
abbrev vS:abv:=["_law_script","_law_k"]
abbrev jr:abv:=["_law_script","_law_k"]
def l5:FS:=(aD (fb (bV (av Az (ag 1) (aj cw (ab (ag 0) am)))) (ba (av cC (ag 0) (ag 1))) bu) (ba oJ))
def fe:abC->R D:=bO l5 vS jr
def BJ (L J:D):fe [L,J]=fin (l5 [some L,some J]):=rfl
abbrev ve:abv:=["_law_cell","_law_many","_law_size","_law_row","_law_at","_law_found","_law_k","_law_sign","_law_name","_law_some"]
abbrev nD:abv:=["_law_cell","_law_many"]
abbrev NB:FS:=(aD (bp 7 (av cC (vC (.str "abcdefghijklmnopqrstuvwxyz")) (av bz (av cT (av b8 (ag 0) (vC (.int 1638))) (av iJ ER (ag 6))) (vC (.int 26))))) (aD (bp 8 (av cT (av cT (Bg yf (ag 3) nN (hZ (ag 4))) (ag 7)) (Bg yf (ag 3) (hZ (av cT (ag 4) lR)) nN))) (aD (bp 9 (fA (ab (vC (.str "and")) (ab (vC (.str "by")) (ab (vC (.str "down")) (ab (vC (.str "from")) (ab (vC (.str "none")) (ab (vC (.str "not")) (ab (vC (.str "or")) (ab (vC (.str "order")) (ab (vC (.str "show")) (ab (vC (.str "take")) am)))))))))))) (aD (fb (tV (bV (av yI (ag 8) (vC (.str "where")))) (bV (av vy (ag 8) (ag 9)))) (df 5 (ag 8)) bu) (bp 6 (av cT (ag 6) lR))))))
abbrev NR:FE:=(Rj xH (vC (.str "")) (ab (bK [none,some 0] (oX (ab (ag 2) am)) (.one 0) de (av cC (vC (.str "abcdefghijklmnopqrstuvwxyz")) (av bz (av cT (av b8 (ag 1) ER) (av iJ sC (ag 0))) (vC (.int 26))))) am))
abbrev NT:FT:=(bV (av Az (aj cw (ab (ag 5) am)) (ag 1)))
def qX:FS:=(aD (bp 2 (av cT wF (av bz (ag 0) ER))) (aD (bp 3 NR) (aD (bp 4 (av bz (av b8 (ag 0) (vC (.int 182))) (ag 2))) (aD (ow 5 (fA am)) (aD (bp 6 oJ) (aD (dq NT NB 1000) (ba (ag 5))))))))
def nI:abC->R D:=bO qX ve nD
def Hh (L J:D):nI [L,J]=fin (qX [some L,some J,none,none,none,none,none,none,none,none]):=rfl
abbrev v9:abv:=["_law_cell","_law_some"]
abbrev jp:abv:=["_law_cell"]
def mz:FS:=(aD (bp 1 (vC (.str " !\"#$&'()*+,-./0123456789:;<=>?@ABCDEFGHIJKLMNOPQRSTUVWXYZ[\\]^_`"))) (aD (bp 1 (av cT (ag 1) (vC (.str "abcdefghijklmnopqrstuvwxyz{|}~")))) (ba (av cC (ag 1) (av bz (ag 0) (vC (.int 94)))))))
def ml:abC->R D:=bO mz v9 jp
def B6 (J:D):ml [J]=fin (mz [some J,none]):=rfl
abbrev qc:abv:=["_law_cell","_law_size","_law_step"]
abbrev jq:abv:=["_law_cell"]
abbrev TJ:FE:=(Rj xH (vC (.str "")) (ab (bK [none,some 0,some 2] (oX (ab (ag 1) am)) (.one 0) de (aj ml (ab (av cT (av b8 (ag 1) (vC (.int 1476))) (av iJ (ag 2) (ag 0))) am))) am))
def lY:FS:=(aD (bp 1 (av bz (ag 0) Dm)) (aD (fb (bV (av dR (av bz (av b8 (ag 0) Dm) zk) lR)) (bp 1 (av bz (av b8 (ag 0) GL) (vC (.int 41)))) bu) (aD (bp 2 (av cC (fA (ab oJ (ab lR (ab ER am)))) (av bz (av b8 (ag 0) (vC (.int 492))) zk))) (ba TJ))))
def mx:abC->R D:=bO lY qc jq
def Cy (J:D):mx [J]=fin (lY [some J,none,none]):=rfl
abbrev tY:abv:=["_law_name","_law_cell","_law_names_here","_law_columns","_law_k","_law_kind"]
abbrev iC:abv:=["_law_name","_law_cell"]
abbrev SB:FS:=(aD (bp 5 (av cC (fA (ab (vC (.str "number")) (ab (vC (.str "text")) am))) (av bz (av b8 (ag 1) (av cC (fA (ab Dm (ab RL (ab IB (ab (vC (.int 32)) (ab (vC (.int 64)) (ab (vC (.int 128)) (ab (vC (.int 256)) (ab (vC (.int 512)) am))))))))) (ag 4))) wF))) (df 3 (dM (ab (av cC (ag 2) (ag 4)) (ab (ag 5) am)))))
def kj:FS:=(aD (bp 2 (aj nI (ab (av b8 (ag 1) IB) (ab (av cC (fA (ab lR (ab wF (ab zk (ab Dm (ab lR (ab wF (ab RL (ab sC am))))))))) (av bz (ag 1) RL)) am)))) (aD (ow 3 (fA am)) (aD (sP (oX (ab (aj cw (ab (ag 2) am)) am)) (.one 4) SB) (ba (dM (ab (ag 0) (ab (aj uP (ab (ag 3) am)) am)))))))
def hV:abC->R D:=bO kj tY iC
def A1 (L J:D):hV [L,J]=fin (kj [some L,some J,none,none,none,none]):=rfl
abbrev xG:abv:=["_law_shape","_law_cell","_law_row","_law_drawn","_law_column","_law_mix"]
abbrev kM:abv:=["_law_shape","_law_cell"]
abbrev RB:FS:=(aD (bp 3 (av bz (av cT (av iJ (ag 3) kl) (vC (.int 11))) kf)) (aD (bp 5 (av b8 (ag 3) (vC (.int 641)))) (fb (rR (bV (av dR (av bz (ag 5) sC) oJ)) (bV (av dR (av bz (ag 1) IB) sC))) (df 2 (vC .non)) (fb (bV (av dR (uI 4 1) (vC (.str "text")))) (df 2 (aj mx (ab (av b8 (ag 5) sC) am))) (fb (bV (av dR (av bz (av b8 (ag 5) sC) zk) oJ)) (df 2 (av cT (av yK (av bz (av iJ (ag 5) (av cT (av pY ul GL) (vC (.int 39)))) (av yK (av iJ wF (av pY ul (vC (.int 18)))) lR)) (av pY ul (vC (.int 18)))) lR)) (df 2 (av yK (av bz (av b8 (ag 5) (vC (.int 15))) UO) Dm)))))))
def pd:FS:=(aD (ow 2 (fA am)) (aD (bp 3 (av bz (av cT (av iJ (ag 1) (vC (.int 69621))) ER) kf)) (aD (sP (gf (uI 0 1)) (.one 4) RB) (ba (aj uP (ab (ag 2) am))))))
def lx:abC->R D:=bO pd xG kM
def De (L J:D):lx [L,J]=fin (pd [some L,some J,none,none,none,none]):=rfl
abbrev qE:abv:=["_law_shape","_law_cells","_law_changes_here","_law_at","_law_cell","_law_mix","_law_columns","_law_column"]
abbrev jA:abv:=["_law_shape","_law_cells"]
def mh:FS:=(aD (ow 2 (fA (ab (dM (ab BZ (ab (ag 0) am))) am))) (aD (sP (ly (ab (ag 1) am)) (.tup [3,4]) (aD (bp 5 (av bz (av iJ (av cT (ag 4) (av iJ (vC (.int 31)) (ag 3))) kl) kD)) (df 2 (dM (ab DG (ab (uI 0 0) (ab (av cT lR (av bz (ag 5) (vC (.int 40)))) (ab (aj lx (ab (ag 0) (ab (ag 5) am))) am)))))))) (aD (bp 6 (bK [none] (gf (uI 0 1)) (.one 0) de (uI 0 0))) (aD (sP (gf (Bg yf (ag 6) nN (hZ (av bz (aj cw (ab (ag 1) am)) Dm)))) (.one 7) (df 2 (dM (ab xt (ab (uI 0 0) (ab (ag 7) am)))))) (ba (ag 2))))))
def ju:abC->R D:=bO mh qE jA
def B8 (L J:D):ju [L,J]=fin (mh [some L,some J,none,none,none,none,none,none]):=rfl
abbrev qr:abv:=["_law_shape","_law_row","_law_cell","_law_at","_law_other","_law_value"]
abbrev fg:abv:=["_law_shape","_law_row","_law_cell"]
def io:FS:=(aD (bp 3 (av bz (av b8 (ag 2) Ja) (aj cw (ab (ag 1) am)))) (aD (bp 4 (vC (.str "t"))) (aD (fb (bV (av dR (av cC (av cC (uI 0 1) (ag 3)) lR) (vC (.str "text")))) (bp 4 sC) bu) (aD (bp 5 (av cC (fA (ab (vC (.bl true)) (ab (av pY ul (vC (.int 18))) (ab (av iJ (vC (.str "x")) (vC (.int 41))) (ab (ag 4) (ab (ag 4) (ab (Fg xf (av pY ul (vC (.int 18)))) am))))))) (av bz (av b8 (ag 2) (vC (.int 48))) Ja))) (aD (fb (bV (av dR (av bz (ag 2) Ja) oJ)) (ba (av xT (ag 1) (dM (ab (vC .non) am)))) bu) (aD (fb (bV (av dR (av bz (ag 2) Ja) lR)) (ba (aj yM (ab (ag 1) am))) bu) (aD (fb (bV (av dR (av bz (ag 2) Ja) wF)) (ba (Bg yf (ag 1) nN (hZ (Fg xf lR)))) bu) (ba (av xT (av xT (Bg yf (ag 1) nN (hZ (ag 3))) (dM (ab (ag 5) am))) (Bg yf (ag 1) (hZ (av xT (ag 3) lR)) nN))))))))))
def ii:abC->R D:=bO io qr fg
def x9 (L J Y:D):ii [L,J,Y]=fin (io [some L,some J,some Y,none,none,none]):=rfl
abbrev pF:abv:=["_law_table","_law_cell","_law_numbers","_law_rows","_law_number"]
abbrev eN:abv:=["_law_table","_law_cell"]
def gF:FS:=(aD (bp 2 (aj AU (ab (aj vN (ab (bH "Table" "rows" (ag 0)) am)) am))) (aD (ow 3 (aj w8 (ab (bH "Table" "rows" (ag 0)) am))) (aD (bp 4 (av cC (ag 2) (av bz (av b8 (ag 1) ER) (aj cw (ab (ag 2) am))))) (aD (fb (bV (av dR (av bz (ag 1) ER) oJ)) (iM 3 (av cC (fA (ab oJ (ab (Fg xf lR) (ab (av cT (av pY ul UO) lR) (ab (vC (.str "7")) (ab (vC .non) am)))))) (av bz (av b8 (ag 1) (vC (.int 70))) sC)) (av hJ (ag 3) (ag 4))) (iM 3 (ag 4) (aj ii (ab (bH "Table" "shape" (ag 0)) (ab (av hJ (ag 3) (ag 4)) (ab (av b8 (ag 1) (vC (.int 140))) am)))))) (Ea 3 (ba (HC "Table" ["shape","rows","indexes"] (ab (bH "Table" "shape" (ag 0)) (ab (ag 3) (ab (Gx (vC (.dct []))) am))))))))))
def gE:abC->R D:=bO gF pF eN
def wn (L J:D):gE [L,J]=fin (gF [some L,some J,none,none,none]):=rfl
abbrev dm:abv:=["_law_table","_law_cell","_law_column","_law_at","_law_entries","_law_last","_law_others","_law_indexes"]
abbrev di:abv:=["_law_table","_law_cell"]
def fM:FS:=(aD (bp 2 (av cC (aj AU (ab (aj vN (ab (bH "Table" "indexes" (ag 0)) am)) am)) (av bz (av b8 (ag 1) sC) (aj uo (ab (bH "Table" "indexes" (ag 0)) am))))) (aD (bp 3 (Ji (bK [none] (gf (av cC (bH "Table" "shape" (ag 0)) lR)) (.one 0) de (uI 0 0)) (ag 2))) (aD (bp 4 (bK [none,some 3,some 0] (vK (bH "Table" "rows" (ag 0))) (.one 0) de (dM (ab (av cC (av hJ (bH "Table" "rows" (ag 2)) (ag 0)) (ag 1)) (ab (ag 0) am))))) (aD (bp 5 (av cC (ag 4) (av bz (av b8 (ag 1) (vC (.int 20))) (aj cw (ab (ag 4) am))))) (aD (bp 6 (bK [none,some 5] (gf (ag 4)) (.one 0) (bV (av yI (ag 0) (ag 1))) (ag 0))) (aD (ow 7 (aj w8 (ab (bH "Table" "indexes" (ag 0)) am))) (aD (fb (bV (av dR (av bz (ag 1) sC) oJ)) (iM 7 (ag 2) (aj cV (ab (ag 6) am))) (fb (bV (av dR (av bz (ag 1) sC) lR)) (iM 7 (ag 2) (aj cV (ab (av cT (ag 4) (fA (ab (dM (ab (uI 5 0) (ab (av cT (av pY ul RL) ER) am))) am))) am))) (fb (bV (av dR (av bz (ag 1) sC) wF)) (iM 7 (ag 2) (aj cV (ab (av cT (ag 6) (fA (ab (dM (ab (vC (.str "other")) (ab (uI 5 1) am))) am))) am))) (fb (bV (av dR (av bz (ag 1) sC) zk)) (aD (bp 6 (fA (ab (dM (ab iw (ab (dM am) am))) (ab (dM (ab iw (ab (aj uP (ab (av cT (ag 4) (ag 4)) am)) am))) (ab (vC .non) (ab (dM (ab iw (ab (aj yM (ab (ag 4) am)) am))) am)))))) (iM 7 (ag 2) (av cC (ag 6) (av bz (av b8 (ag 1) (vC (.int 80))) Dm)))) (iM 7 (vC (.str "zzzzzzzz")) (av hJ (ag 7) (ag 2))))))) (Ea 7 (ba (HC "Table" ["shape","rows","indexes"] (ab (bH "Table" "shape" (ag 0)) (ab (bH "Table" "rows" (ag 0)) (ab (ag 7) am)))))))))))))
def fN:abC->R D:=bO fM dm di
def vk (L J:D):fN [L,J]=fin (fM [some L,some J,none,none,none,none,none,none]):=rfl
abbrev zi:abv:=["_law_table","_law_cell","_law_shapes"]
abbrev np:abv:=["_law_table","_law_cell"]
def rl:FS:=(aD (fb (tV (bV (av Az (av bz (ag 1) sC) wF)) (bV (av HI (aj uo (ab (bH "Table" "rows" (ag 0)) am)) oJ))) (ba (aj gE (ab (ag 0) (ab (av b8 (ag 1) sC) am)))) bu) (aD (fb (tV (bV (av Az (av bz (ag 1) sC) Dm)) (tV (bV (av HI (aj uo (ab (bH "Table" "rows" (ag 0)) am)) oJ)) (bV (av HI (aj uo (ab (bH "Table" "indexes" (ag 0)) am)) oJ)))) (ba (aj fN (ab (ag 0) (ab (av b8 (ag 1) sC) am)))) bu) (aD (fb (bV (av dR (av bz (av b8 (ag 1) Dm) zk) oJ)) (aD (bp 2 (fA (ab (dM (ab (av cC (bH "Table" "shape" (ag 0)) oJ) (ab (dM am) am))) (ab (aj yM (ab (bH "Table" "shape" (ag 0)) am)) (ab (av cC (bH "Table" "shape" (ag 0)) oJ) (ab (vC .non) (ab (dM (ab (av cC (bH "Table" "shape" (ag 0)) oJ) (ab (aj yM (ab (av cC (bH "Table" "shape" (ag 0)) lR) am)) am))) am))))))) (ba (HC "Table" ["shape","rows","indexes"] (ab (av cC (ag 2) (av bz (av b8 (ag 1) GL) sC)) (ab (bH "Table" "rows" (ag 0)) (ab (bH "Table" "indexes" (ag 0)) am)))))) bu) (aD (fb (bV (av dR (av bz (av b8 (ag 1) Dm) zk) lR)) (ba (HC "Table" ["shape","rows","indexes"] (ab (bH "Table" "shape" (ag 0)) (ab (bH "Table" "rows" (ag 0)) (ab (fA am) am))))) bu) (ba (av cC (fA (ab (vC .non) (ab (dM (ab (bH "Table" "shape" (ag 0)) (ab (Gx (vC (.dct []))) (ab (Gx (vC (.dct []))) am)))) (ab (bH "Table" "shape" (ag 0)) (ab ER (ab (HC "Table" ["shape","rows","indexes"] (ab (bH "Table" "shape" (ag 0)) (ab (fA am) (ab (Gx (vC (.dct []))) am)))) am)))))) (av bz (av b8 (ag 1) GL) sC)))))))
def kH:abC->R D:=bO rl zi np
def Hl (L J:D):kH [L,J]=fin (rl [some L,some J,none]):=rfl
abbrev IS:abv:=["_law_script","_law_names_here","_law_cells","_law_many","_law_shapes","_law_changes_here","_law_state","_law_mix","_law_name","_law_others","_law_wrong_here"]
abbrev yg:abv:=["_law_script"]
def FM:FS:=(aD (bp 1 (aj nI (ab (av bz (av iJ (aj fe (ab (ag 0) (ab oJ am))) kl) kD) (ab wF am)))) (aD (bp 2 (Bg yf (ag 0) (hZ Dm) nN)) (aD (bp 3 (aj Jj (ab (vC (.int 20)) (ab (av b8 (aj cw (ab (ag 2) am)) wF) am)))) (aD (bp 4 (bK [none,some 1,some 0] (oX (ab wF am)) (.one 0) de (aj hV (ab (av cC (ag 1) (ag 0)) (ab (av bz (av iJ (aj fe (ab (ag 2) (ab (av cT (ag 0) lR) am))) kl) kD) am))))) (aD (bp 5 (av cT (aj ju (ab (uI 4 0) (ab (Bg yf (ag 2) nN (hZ (ag 3))) am))) (aj ju (ab (uI 4 1) (ab (Bg yf (ag 2) (hZ (ag 3)) (hZ (av iJ wF (ag 3)))) am))))) (aD (bp 6 (aj jh (ab (Gx (vC (.dct []))) (ab (ag 5) am)))) (aD (fb (rR (bV (av iq (aj bX (ab (Gx (vC (.dct []))) am)) (vC (.bl true)))) (bV (av iq (aj aX (ab (aj jC (ab (bH "Table" "shape" (av hJ (ag 6) (uI 1 0))) am)) am)) (vC (.bl true))))) (ba (vC (.bl false))) bu) (aD (fb (rR (bV (av iq (aj bX (ab (ag 6) am)) (vC (.bl true)))) (bV (av iq (aj aX (ab (av hJ (ag 6) (uI 1 0)) am)) (vC (.bl true))))) (ba (vC (.bl false))) bu) (aD (bp 7 (av bz (av iJ (aj fe (ab (ag 0) (ab zk am))) kl) kD)) (aD (bp 8 (av cC (ag 1) (av bz (av b8 (ag 7) zk) wF))) (aD (ow 9 (aj w8 (ab (ag 6) am))) (fb (bV (av Az (av bz (ag 7) zk) wF)) (aD (aD (bp 10 (aj kH (ab (av hJ (ag 6) (ag 8)) (ab (av b8 (ag 7) Ja) am)))) (aD (iM 9 (ag 8) (ag 10)) (Ea 9 (fb (rR (bV (av iq (aj aX (ab (ag 10) am)) (vC (.bl false)))) (tV (dG (aj (yJ "Table") (ab (ag 10) (ab (vC (.cls "Table")) am)))) (bV (av iq (aj bX (ab (ag 9) am)) (vC (.bl false)))))) (ba (vC (.bl false))) bu)))) (aD (fb (bV (av dR (av bz (ag 7) zk) wF)) Dy bu) (ba (eU (av BB (aj bX (ab (ag 6) am)) (vC (.bl true))) (av BB (aj aX (ab (av hJ (ag 6) (ag 8)) am)) (vC (.bl true))))))) (aD bu (aD (fb (bV (av dR (av bz (ag 7) zk) wF)) (aD (iM 9 (ag 8) (av hJ (ag 6) (av cC (ag 1) (av yK lR (av bz (av b8 (ag 7) zk) wF))))) (Ea 9 (fb (rR (bV (av iq (aj bX (ab (ag 9) am)) (vC (.bl false)))) (bV (av iq (aj aX (ab (av hJ (ag 9) (ag 8)) am)) (vC (.bl true))))) (ba (vC (.bl false))) bu))) bu) (ba (eU (av BB (aj bX (ab (ag 6) am)) (vC (.bl true))) (av BB (aj aX (ab (av hJ (ag 6) (ag 8)) am)) (vC (.bl true)))))))))))))))))))
def zc:abC->R D:=bO FM IS yg
def RM (J:D):zc [J]=fin (FM [some J,none,none,none,none,none,none,none,none,none,none]):=rfl
def gO (i:Nat):WO:=PySem.Challenge.pw_tablestore_k33_sound_or_not.main.body.getD i (.Pass ⟨0,0,0,0⟩)
abbrev uX:WO:=gO 14
local macro_rules | `(tactic| walk_at "sc") => `(tactic| exact ⟨rfl, rfl, rfl, by trivial, rfl, by trivial, by trivial⟩)
def Ec:FnScope yX nt (aq uX):=by walk_at "sc"
abbrev oM:WO:=gO 13
def B5:FnScope sN kJ (aq oM):=by walk_at "sc"
abbrev uU:WO:=gO 15
def C8:FnScope zt nA (aq uU):=by walk_at "sc"
abbrev vD:WO:=gO 16
def Es:FnScope zw nP (aq vD):=by walk_at "sc"
abbrev qw:WO:=gO 17
def AN:FnScope wd jF (aq qw):=by walk_at "sc"
abbrev mQ:WO:=gO 23
def p6:FnScope sv gn (aq mQ):=by walk_at "sc"
abbrev mW:WO:=gO 24
def xY:FnScope sk gm (aq mW):=by walk_at "sc"
abbrev qL:WO:=gO 26
def n5:FnScope wb jz (aq qL):=by walk_at "sc"
abbrev km:WO:=gO 25
def mP:FnScope oy il (aq km):=by walk_at "sc"
abbrev sW:WO:=gO 29
def Cg:FnScope yq lq (aq sW):=by walk_at "sc"
abbrev w4:WO:=gO 36
def F5:FnScope BO pP (aq w4):=by walk_at "sc"
abbrev vi:WO:=gO 33
def D4:FnScope zd nG (aq vi):=by walk_at "sc"
abbrev wG:WO:=gO 38
def Ke:FnScope Ah t9 (aq wG):=by walk_at "sc"
abbrev jY:WO:=gO 37
def vE:FnScope pD eF (aq jY):=by walk_at "sc"
abbrev sU:WO:=gO 35
def BI:FnScope xU kK (aq sU):=by walk_at "sc"
abbrev qR:WO:=gO 31
def Eh:FnScope vj nQ (aq qR):=by walk_at "sc"
abbrev vm:WO:=gO 34
def Et:FnScope zb m6 (aq vm):=by walk_at "sc"
abbrev ma:WO:=gO 32
def Ap:FnScope qu jI (aq ma):=by walk_at "sc"
abbrev fm:WO:=gO 30
def mm:FnScope gL lI (aq fm):=by walk_at "sc"
abbrev pN:WO:=gO 45
def AS:FnScope vT jD (aq pN):=by walk_at "sc"
abbrev rg:WO:=gO 44
def D7:FnScope uT nS (aq rg):=by walk_at "sc"
abbrev i4:WO:=gO 50
def uB:FnScope m8 dr (aq i4):=by walk_at "sc"
abbrev vF:WO:=gO 47
def DQ:FnScope y6 m5 (aq vF):=by walk_at "sc"
abbrev qo:WO:=gO 49
def Ax:FnScope v7 jE (aq qo):=by walk_at "sc"
abbrev gk:WO:=gO 48
def qD:FnScope jc gh (aq gk):=by walk_at "sc"
abbrev sM:WO:=gO 46
def Bu:FnScope xP lm (aq sM):=by walk_at "sc"
abbrev kT:WO:=gO 51
def jP:FnScope qM ff (aq kT):=by walk_at "sc"
abbrev pM:WO:=gO 53
def z6:FnScope vQ jK (aq pM):=by walk_at "sc"
abbrev zS:WO:=gO 52
def Fv:FnScope C0 yj (aq zS):=by walk_at "sc"
abbrev sF:WO:=gO 57
def gX:FnScope yr kL (aq sF):=by walk_at "sc"
abbrev ot:WO:=gO 58
def Bh:FnScope tw kU (aq ot):=by walk_at "sc"
abbrev xp:WO:=gO 59
def vf:FnScope Cr qK (aq xp):=by walk_at "sc"
abbrev pT:WO:=gO 64
def Av:FnScope vW jt (aq pT):=by walk_at "sc"
abbrev pf:WO:=gO 63
def mS:FnScope tW ij (aq pf):=by walk_at "sc"
abbrev qg:WO:=gO 67
def zU:FnScope wg jB (aq qg):=by walk_at "sc"
abbrev tm:WO:=gO 68
def mq:FnScope xm kZ (aq tm):=by walk_at "sc"
abbrev j5:WO:=gO 72
def rY:FnScope oO ir (aq j5):=by walk_at "sc"
abbrev oH:WO:=gO 71
def si:FnScope uw iu (aq oH):=by walk_at "sc"
abbrev mU:WO:=gO 74
def pW:FnScope rX gl (aq mU):=by walk_at "sc"
abbrev kP:WO:=gO 73
def Bq:FnScope ou la (aq kP):=by walk_at "sc"
abbrev uV:WO:=gO 79
def Dd:FnScope y8 nT (aq uV):=by walk_at "sc"
abbrev oA:WO:=gO 86
def sd:FnScope tI iz (aq oA):=by walk_at "sc"
abbrev gM:WO:=gO 80
def rO:FnScope lp cO (aq gM):=by walk_at "sc"
abbrev sJ:WO:=gO 84
def CO:FnScope xi lB (aq sJ):=by walk_at "sc"
abbrev gN:WO:=gO 81
def j1:FnScope lJ cQ (aq gN):=by walk_at "sc"
abbrev iP:WO:=gO 82
def my:FnScope nJ dh (aq iP):=by walk_at "sc"
abbrev vB:WO:=gO 77
def xL:FnScope zj m7 (aq vB):=by walk_at "sc"
abbrev mL:WO:=gO 78
def ig:FnScope sr gq (aq mL):=by walk_at "sc"
abbrev iO:WO:=gO 88
def tJ:FnScope nH dw (aq iO):=by walk_at "sc"
abbrev om:WO:=gO 87
def Ce:FnScope sQ lg (aq om):=by walk_at "sc"
abbrev pX:WO:=gO 90
def Ak:FnScope vS jr (aq pX):=by walk_at "sc"
abbrev re:WO:=gO 91
def cZ:FnScope ve nD (aq re):=by walk_at "sc"
abbrev qx:WO:=gO 92
def n9:FnScope v9 jp (aq qx):=by walk_at "sc"
abbrev mr:WO:=gO 93
def kb:FnScope qc jq (aq mr):=by walk_at "sc"
abbrev oE:WO:=gO 94
def gx:FnScope tY iC (aq oE):=by walk_at "sc"
abbrev sY:WO:=gO 95
def gZ:FnScope xG kM (aq sY):=by walk_at "sc"
abbrev ms:WO:=gO 96
def dU:FnScope qE jA (aq ms):=by walk_at "sc"
abbrev lC:WO:=gO 97
def eG:FnScope qr fg (aq lC):=by walk_at "sc"
abbrev jR:WO:=gO 98
def fP:FnScope pF eN (aq jR):=by walk_at "sc"
abbrev cL:WO:=gO 99
def bM:FnScope dm di (aq cL):=by walk_at "sc"
abbrev u8:WO:=gO 100
def x6:FnScope zi np (aq u8):=by walk_at "sc"
abbrev xz:WO:=gO 101
def kR:FnScope IS yg (aq xz):=by walk_at "sc"
abbrev nL:WO:=match gO 66 with
 | .ClassDef _ _ _ (st::_) _ _ _ _ _ _ _=>st
 | st=>st
def Hw:FnScope ["self","shape","rows","indexes"] ["self","shape","rows","indexes"] (aq nL):=by walk_at "sc"
structure Txt (w:VZ) (K:aT) (mg:aby) (f1 f2 f3 f4 f5 f6 f7 f8 f9 f10 f11 f12 f13 f14 f15 f16 f17 f18 f19 f20 f21 f22 f23 f24 f25 f26 f27 f28 f29 f30 f31 f32 f33 f34 f35 f36 f37 f38 f39 f40 f41 f42 f43 f44 f45 f46 f47 f48 f49 f50 f51 f52 f53 f54 f55 f56 f57 f58 f59 f60 f61 f62:Do) (d1 d2 d3 d4 d5 d6 d7 d8 d9 d10 d11 d12 d13 d14 d15 d16 d17 d18 d19 d20 d21 d22 d23 d24 d25 d26 d27 d28 d29 d30 d31 d32 d33 d34 d35 d36 d37 d38 d39 d40 d41 d42 d43 d44 d45 d46 d47 d48 d49 d50 d51 d52 d53 d54 d55 d56 d57 d58 d59 d60 d61 d62:Wl) (a_KINDS:Do) (tk_MOST_SIGNS:Tok) (tk_FEWEST:Tok) (tk_MOST:Tok) (tk_FEWEST_OF_ROOT:Tok) (tk_MOST_ROW_NUMBER:Tok) (a_NO_NAMES:Do) (a_COLUMN_KINDS:Do) (tk_MOST_LETTERS:Tok) (tk_MOST_COLUMNS:Tok) (a_FORMS:Do) (es_FORMS:Array DictEntry) (n_FORMS:Nat) (a_Table:Do) (fi_Table:Do) (di_Table:Wl):Prop where
 rD:Def K mg "is_sign" uX nt f1 d1
 lK:Def K mg "is_value" oM kJ f2 d2
 fS:Def K mg "kind_of" uU nA f3 d3
 rE:Def K mg "compare" vD nP f4 d4
 mE:Def K mg "order_key" qw jF f5 d5
 jj:Def K mg "comes_ahead" mQ gn f6 d6
 jk:Def K mg "empty_index" mW gm f7 d7
 g7:Def K mg "things_in" qL jz f8 d8
 kA:Def K mg "entries_of" km il f9 d9
 lM:Def K mg "first_of" sW lq f10 d10
 nU:Def K mg "is_two" w4 pP f11 d11
 nV:Def K mg "is_cell" vi nG f12 d12
 rG:Def K mg "rises" wG t9 f13 d13
 cU:Def K mg "is_row_number" jY eF f14 d14
 lN:Def K mg "is_entry" sU kK f15 d15
 nW:Def K mg "is_leaf" qR nQ f16 d16
 rH:Def K mg "is_part" vm m6 f17 d17
 jL:Def K mg "is_branch" ma jI f18 d18
 pq:Def K mg "is_index" fm lI f19 d19
 mF:Def K mg "is_letter" pN jD f20 d20
 kI:Def K mg "is_name" rg nS f21 d21
 fT:Def K mg "is_column_kind" i4 dr f22 d22
 nX:Def K mg "is_pair" vF m5 f23 d23
 mG:Def K mg "is_column" qo jE f24 d24
 jl:Def K mg "are_columns" gk gh f25 d25
 lO:Def K mg "is_shape" sM lm f26 d26
 dE:Def K mg "column_place" kT ff f27 d27
 mH:Def K mg "fits_kind" pM jK f28 d28
 yw:Def K mg "fits" zS yj f29 d29
 lP:Def K mg "cells_of" sF kL f30 d30
 pz:Def K mg "parts_of" ot kU f31 d31
 uE:Def K mg "rooted" xp qK f32 d32
 jM:Def K mg "entry_key" pT jt f33 d33
 dZ:Def K mg "index_from" pf ij f34 d34
 jN:Def K mg "new_table" qg jB f35 d35
 pA:Def K mg "with_row" tm kZ f36 d36
 iE:Def K mg "entries_by" j5 ir f37 d37
 kB:Def K mg "with_index" oH iu f38 d38
 jm:Def K mg "is_index_by" mU gl f39 d39
 c8:Def K mg "is_table" kP la f40 d40
 rJ:Def K mg "word_of" uV nT f41 d41
 fU:Def K mg "state_with" oA iz f42 d42
 ei:Def K mg "state_with_table" gM cO f43 d43
 lQ:Def K mg "table_in" sJ lB f44 d44
 eB:Def K mg "state_with_index" gN cQ f45 d45
 fV:Def K mg "state_with_row" iP dh f46 d46
 rK:Def K mg "changed" vB m7 f47 d47
 jn:Def K mg "all_changed" mL gq f48 d48
 fW:Def K mg "is_table_under" iO dw f49 d49
 eD:Def K mg "is_state" om lg f50 d50
 g8:Def K mg "_law_cell_at" pX jr f51 d51
 nY:Def K mg "_law_names" re nD f52 d52
 mI:Def K mg "_law_sign_by" qx jp f53 d53
 mJ:Def K mg "_law_text_by" mr jq f54 d54
 kC:Def K mg "_law_shape_by" oE iC f55 d55
 pB:Def K mg "_law_row_by" sY kM f56 d56
 jO:Def K mg "_law_changes" ms jA f57 d57
 iG:Def K mg "_law_row_spoilt" lC fg f58 d58
 gI:Def K mg "_law_rows_spoilt" jR eN f59 d59
 fX:Def K mg "_law_index_spoilt" cL di f60 d60
 rL:Def K mg "_law_wrong" u8 np f61 d61
 KN:Def K mg "law" xz yg f62 d62
 A8:∃ ob,K.lookup a_KINDS=some ob/\ob.cls=.type "tuple"/\ob.dict=none
 A9:mg "KINDS"=some (.ref a_KINDS)
 TW:bq (.ref a_KINDS) (.ref a_KINDS)
 Ba:∀ H,dF K H oV (.ref a_KINDS)
 Bb:mg "MOST_SIGNS"=some (.int 40 tk_MOST_SIGNS)
 Bc:bq (.int 40) (.int 40 tk_MOST_SIGNS)
 Bd:∀ H,dF K H uj (.int 40)
 CQ:mg "FEWEST"=some (.int 4 tk_FEWEST)
 CS:bq (.int 4) (.int 4 tk_FEWEST)
 CU:∀ H,dF K H xa (.int 4)
 Ew:mg "MOST"=some (.int 8 tk_MOST)
 Ex:bq (.int 8) (.int 8 tk_MOST)
 Ey:∀ H,dF K H uY (.int 8)
 vH:mg "FEWEST_OF_ROOT"=some (.int 2 tk_FEWEST_OF_ROOT)
 vI:bq (.int 2) (.int 2 tk_FEWEST_OF_ROOT)
 vJ:∀ H,dF K H nR (.int 2)
 uF:mg "MOST_ROW_NUMBER"=some (.int 1000000000 tk_MOST_ROW_NUMBER)
 uG:bq (.int 1000000000) (.int 1000000000 tk_MOST_ROW_NUMBER)
 uH:∀ H,dF K H mw (.int 1000000000)
 Ql:∃ ob,K.lookup a_NO_NAMES=some ob/\ob.cls=.type "tuple"/\ob.dict=none
 Ez:mg "NO_NAMES"=some (.ref a_NO_NAMES)
 EA:bq (.ref a_NO_NAMES) (.ref a_NO_NAMES)
 EB:∀ H,dF K H pb (.ref a_NO_NAMES)
 KO:∃ ob,K.lookup a_COLUMN_KINDS=some ob/\ob.cls=.type "tuple"/\ob.dict=none
 yz:mg "COLUMN_KINDS"=some (.ref a_COLUMN_KINDS)
 yA:bq (.ref a_COLUMN_KINDS) (.ref a_COLUMN_KINDS)
 yB:∀ H,dF K H qa (.ref a_COLUMN_KINDS)
 yC:mg "MOST_LETTERS"=some (.int 8 tk_MOST_LETTERS)
 yD:bq (.int 8) (.int 8 tk_MOST_LETTERS)
 yE:∀ H,dF K H kO (.int 8)
 yF:mg "MOST_COLUMNS"=some (.int 8 tk_MOST_COLUMNS)
 yG:bq (.int 8) (.int 8 tk_MOST_COLUMNS)
 yH:∀ H,dF K H qp (.int 8)
 F0:mg "FORMS"=some (.ref a_FORMS)
 F1:K.lookup a_FORMS=some ⟨.type "dict",none,.dict es_FORMS n_FORMS,#[]⟩
 F2:YS w.params es_FORMS.toList
 wP:∀ y d,iB.lookup y=some d->∃ v u,VN K a_FORMS y=some (some u)/\bq v u/\∀ H,dF K H d v
 CV:SJ K "FORMS" a_FORMS
 Be:es_FORMS.toList.map (fun e=>Lz e.key)=(iB.map (·.1)).map some
 Bf:(a_FORMS==W2)=false
 gJ:mg "Table"=some (.ref a_Table)
 aB:SJ K "Table" a_Table
 aG:IsC K a_Table
 gy:Mk K a_Table fi_Table
 uJ:Fun K "__init__" "Table.__init__" nL fi_Table di_Table
 gz:l9 K di_Table ["self","shape","rows","indexes"] []
 aJ:iZ K a_Table "shape"
 bo:iZ K a_Table "rows"
 bf:iZ K a_Table "indexes"
 aS:mg "isinstance"=none
 uK:mg "str"=none
 nZ:mg "all"=none
 cS:mg "len"=none
 KP:mg "bool"=none
 NY:mg "int"=none
 Tx:mg "abs"=none
 tE:mg "list"=none
 jo:mg "tuple"=none
 NZ:mg "zip"=none
 Ty:mg "set"=none
 wk:mg "enumerate"=none
 uL:mg "range"=none
 uM:mg "sorted"=none
 pC:mg "dict"=none
 Tz:mg "min"=none
section
variable {P:VH} {w:VZ} {K:aT} {mg:aby} {base:Xj} {f1 f2 f3 f4 f5 f6 f7 f8 f9 f10 f11 f12 f13 f14 f15 f16 f17 f18 f19 f20 f21 f22 f23 f24 f25 f26 f27 f28 f29 f30 f31 f32 f33 f34 f35 f36 f37 f38 f39 f40 f41 f42 f43 f44 f45 f46 f47 f48 f49 f50 f51 f52 f53 f54 f55 f56 f57 f58 f59 f60 f61 f62:Do} {d1 d2 d3 d4 d5 d6 d7 d8 d9 d10 d11 d12 d13 d14 d15 d16 d17 d18 d19 d20 d21 d22 d23 d24 d25 d26 d27 d28 d29 d30 d31 d32 d33 d34 d35 d36 d37 d38 d39 d40 d41 d42 d43 d44 d45 d46 d47 d48 d49 d50 d51 d52 d53 d54 d55 d56 d57 d58 d59 d60 d61 d62:Wl} {a_KINDS:Do} {tk_MOST_SIGNS:Tok} {tk_FEWEST:Tok} {tk_MOST:Tok} {tk_FEWEST_OF_ROOT:Tok} {tk_MOST_ROW_NUMBER:Tok} {a_NO_NAMES:Do} {a_COLUMN_KINDS:Do} {tk_MOST_LETTERS:Tok} {tk_MOST_COLUMNS:Tok} {a_FORMS:Do} {es_FORMS:Array DictEntry} {n_FORMS:Nat} {a_Table:Do} {fi_Table:Do} {di_Table:Wl}
variable (T:Txt w K mg f1 f2 f3 f4 f5 f6 f7 f8 f9 f10 f11 f12 f13 f14 f15 f16 f17 f18 f19 f20 f21 f22 f23 f24 f25 f26 f27 f28 f29 f30 f31 f32 f33 f34 f35 f36 f37 f38 f39 f40 f41 f42 f43 f44 f45 f46 f47 f48 f49 f50 f51 f52 f53 f54 f55 f56 f57 f58 f59 f60 f61 f62 d1 d2 d3 d4 d5 d6 d7 d8 d9 d10 d11 d12 d13 d14 d15 d16 d17 d18 d19 d20 d21 d22 d23 d24 d25 d26 d27 d28 d29 d30 d31 d32 d33 d34 d35 d36 d37 d38 d39 d40 d41 d42 d43 d44 d45 d46 d47 d48 d49 d50 d51 d52 d53 d54 d55 d56 d57 d58 d59 d60 d61 d62 a_KINDS tk_MOST_SIGNS tk_FEWEST tk_MOST tk_FEWEST_OF_ROOT tk_MOST_ROW_NUMBER a_NO_NAMES a_COLUMN_KINDS tk_MOST_LETTERS tk_MOST_COLUMNS a_FORMS es_FORMS n_FORMS a_Table fi_Table di_Table)
include T
def jx:FnOk P w K mg base dc 1 fi_Table di_Table ["self","shape","rows","indexes"] (Jz a_Table ["shape","rows","indexes"]):=by
 refine T.uJ.ok (k:=0) Hw (fun vs H Q E h=>?_) fun Y A J s H vs Q E hr h=>?_
 .obtain ⟨x,dx,us,rfl,h1,h2,L⟩:=h;exact abt (·+1) h1
 .refine ⟨_,(yi (Dw (pv 0) (pv 1) rfl) (yi (Dw (pv 0) (pv 2) rfl) (FH (Dw (pv 0) (pv 3) rfl)))),?_⟩;obtain ⟨x,dx,us,rfl,h1,h2,L⟩:=h
  match us,h1 with
  | [u0,u1,u2],_ =>
   refine ⟨_,rfl,_,rfl,x,_,dx,_,rfl,h2,T.aG.cl,T.aJ,(by show (0:Nat) < 1000;decide),_,rfl,_,rfl,x,_,dx,_,rfl,a9,T.aG.cl,T.bo,(by show (1:Nat) < 1000;decide),_,rfl,_,rfl,x,_,dx,_,rfl,a9,T.aG.cl,T.bf,(by show (2:Nat) < 1000;decide),?_⟩;rw [Ac,Ac];exact L
def Ed:FnOk P w K mg base dc 1 f1 d1 nt (eY K mg vd):=by
 exact T.rD.F.okD (φ:=qT) (O':=[]) Ec (fun L A J s H E Y=>(ar (aA (cR (c9 TD TK (ae 0) bE (aE _)) (eI (c9 RU SS (ae 0) bE (aE _)))))))
def vO:FnOk P w K mg base dc 2 f2 d2 kJ (eY K mg cr):=by
 exact T.lK.F.okD (φ:=lu) (O':=[]) B5 (fun Y A J s H E L=>(ap (bt (bm K (aF (fZ K) (lS K) T.aS aO (aa (ae 0) (aa (lU T.uK oT) ah)))) (ar (aA (cR (c9 RU SS (aF (jX K) (j7 K) T.cS bW (aa (ae 0) ah)) (jS T.Bb T.Bc T.Bd) (aE _)) (eI (aF (dC K rfl) (u7 K) T.nZ i8 (aa (bA (dW (Wb:=⟨K,mg,E0⟩) (osc:=aq oM) (ON:=sN) (N:=["sign"]) (ix:=[none]) (by trivial) (c7 K (ae 0)) (fun _=>(bx (i:=0) (by decide) (by trivial:(["sign"]:abv).Nodup) rfl (DO rfl))) (fun _=>bQ) (fun _=>(az T.rD (Ed T) L (aa (ae 0) ah))) (bB (by decide)))) ah)))))) aZ) (ap (bt (b4 (sV (bm K (aF (fZ K) (lS K) T.aS aO (aa (ae 0) (aa (lU T.NY Jw) ah)))) (rj (cq (bm K (aF (fZ K) (lS K) T.aS aO (aa (ae 0) (aa (lU T.KP EK) ah)))))))) (ar (aA (c9 Je JN (aF Ve TY T.Tx Oz (aa (ae 0) ah)) (aM B4 Ck ak ak) (aE _)))) aZ) (ar (aA (c9 KU KQ (ae 0) nF (aE _)))))))
def iT:FnOk P w K mg base dc 1 f3 d3 nA (eY K mg cK):=by
 exact T.fS.F.okD (φ:=qV) (O':=[]) C8 (fun L A J s H E Y=>(ap (bt (aQ KU KQ (ae 0) nF (aE _)) (ar (aA bE)) aZ) (ar (aA (Fh (bm K (aF (fZ K) (lS K) T.aS aO (aa (ae 0) (aa (lU T.uK oT) ah)))) bE bE)))))
def Dz:FnOk P w K mg base dc 2 f4 d4 nP (eY K mg qZ):=by
 exact T.rE.F.okD (φ:=rf) (O':=[]) Es (fun Y A L s H E J=>(ap (bt (aQ (C3 K J.units) (PZ K) (az T.fS (iT T) J (aa (ae 0) ah)) (az T.fS (iT T) J (aa (ae 1) ah)) (aE _)) (ar (aA (Fh (aQ Je JN (wQ T.A9 T.Ba T.A8 (aa (az T.fS (iT T) J (aa (ae 0) ah)) ah)) (wQ T.A9 T.Ba T.A8 (aa (az T.fS (iT T) J (aa (ae 1) ah)) ah)) (aE _)) (G4 Gg Hu ak) ak))) aZ) (ap (bt (aQ (eT K J.units) (pO K) (ae 0) (ae 1) (aE _)) (ar (aA ak)) aZ) (ar (aA (Fh (aQ Je JN (ae 0) (ae 1) (aE _)) (G4 Gg Hu ak) ak))))))
def AY:FnOk P w K mg base dc 2 f5 d5 jF (eY K mg mt):=by
 exact T.mE.F.okD (φ:=lZ) (O':=[]) AN (fun Y A J s H E L=>(ap (bt (aQ KU KQ (ae 0) nF (aE _)) (ar (aA (dJ (aa ak (aa ak ah))))) aZ) (ar (aA (dJ (aa (wQ T.A9 T.Ba T.A8 (aa (az T.fS (iT T) L (aa (ae 0) ah)) ah)) (aa (ae 0) ah)))))))
def xn:FnOk P w K mg base dc 3 f6 d6 gn (eY K mg c6):=by
 exact T.jj.F.okD (φ:=jg) (O':=[]) p6 (fun Y A J s H E L=>(ap (aW (i:=2) (by decide) p6.nd (DO rfl) (az T.rE (Dz T) L (aa (bj (cF K) (cJ K) (ae 0) ak) (aa (bj (cF K) (cJ K) (ae 1) ak) ah)))) (ar (aA (QJ (c9 Je JN (ae 2) ak (aE _)) (eI (cR (c9 (eT K L.units) (pO K) (ae 2) ak (aE _)) (eI (c9 Je JN (bj (cF K) (cJ K) (ae 0) ak) (bj (cF K) (cJ K) (ae 1) ak) (aE _))))))))))
def xM:FnOk P w K mg base dc 1 f7 d7 gm (eY K mg jb):=by
 exact T.jk.F.okD (φ:=je) (O':=[]) xY (fun L A J s H E Y=>(ar (aA (dJ (aa bE (aa (dJ ah) ah))))))
def on:FnOk P w K mg base dc 1 f8 d8 jz (eY K mg cH):=by
 exact T.g7.F.okD (φ:=l8) (O':=[]) n5 (fun L A J s H E Y=>(ap (iY (i:=1) (by decide) n5.nd (DO rfl) (eX ah)) (ap (mZ Wo (c7 K (ae 0)) (bx (i:=2) (by decide) n5.nd rfl (DO rfl)) (ar (He (i:=1) (by decide) (bj (cF K) (cJ K) (ae 2) ak)))) (yh (O:=[1]) (O2:=[]) (ar (aA (ae 1)))))))
def yO:FnOk P w K mg base dc 2 f9 d9 il (eY K mg j9):=by
 exact T.kA.F.okD (φ:=ky) (O':=[]) mP (fun Y A L s H E J=>(ap (aW (i:=1) (by decide) mP.nd (DO rfl) (bA (eX (aa (ae 0) ah)))) (ap (tX 1000 Wo (aQ (eT K J.units) (pO K) (bj (cF K) (cJ K) (bj (cF K) (cJ K) (ae 1) ak) ak) bE (aE _)) (ar (oS (by decide) (oW (i:=1) mP.nd (DO rfl) (Wb:=⟨K,mg,E0⟩) (osc:=aq km) (ON:=oy) (N:=["part"]) (ix:=[none]) (by trivial) (c7 K (az T.g7 (on T) J (aa (ae 1) ah))) (fun _=>(bx (i:=0) (by decide) (by trivial:(["part"]:abv).Nodup) rfl (DO rfl))) (fun _=>bQ) (fun _=>(bj (cF K) (cJ K) (ae 0) ak)) (bB (by decide)))))) (ar (aA (az T.g7 (on T) J (aa (ae 1) ah)))))))
def we:FnOk P w K mg base dc 1 f10 d10 lq (eY K mg kN):=by
 exact T.lM.F.okD (φ:=pe) (O':=[]) Cg (fun Y A J s H E L=>(ar (aA (Fh (aQ (eT K L.units) (pO K) (bj (cF K) (cJ K) (ae 0) ak) bE (aE _)) (bj (cF K) (cJ K) (bj (cF K) (cJ K) (ae 0) ak) ak) (bj (cF K) (cJ K) (bj (cF K) (cJ K) (bj (cF K) (cJ K) (ae 0) ak) ak) ak)))))
def vA:FnOk P w K mg base dc 1 f11 d11 pP (eY K mg kX):=by
 exact T.nU.F.okD (φ:=ui) (O':=[]) F5 (fun Y A J s H E L=>(ar (aA (cR (aF (fZ K) (lS K) T.aS aO (aa (ae 0) (aa (lU T.jo ip) ah))) (eI (c9 (eT K L.units) (pO K) (aF (jX K) (j7 K) T.cS bW (aa (ae 0) ah)) ak (aE _)))))))
def xk:FnOk P w K mg base dc 2 f12 d12 nG (eY K mg fG):=by
 exact T.nV.F.okD (φ:=nu) (O':=[]) D4 (fun Y A J s H E L=>(ap (bt (b4 (gr (cq (bm K (az T.nU (vA T) L (aa (ae 0) ah)))) (gr (cq (bm K (aF (fZ K) (lS K) T.aS aO (aa (bj (cF K) (cJ K) (ae 0) ak) (aa (lU T.uK oT) ah))))) (fv (aQ (C3 K L.units) (PZ K) (bj (cF K) (cJ K) (ae 0) ak) (ae 1) (aE _)))))) (ar (aA gw)) aZ) (ar (aA (cR (aF (fZ K) (lS K) T.aS aO (aa (bj (cF K) (cJ K) (ae 0) ak) (aa (lU T.jo ip) ah))) (cR (c9 TD TK (aF (jX K) (j7 K) T.cS bW (aa (bj (cF K) (cJ K) (ae 0) ak) ah)) (ae 2) (aE _)) (eI (c9 RU SS (aF (jX K) (j7 K) T.cS bW (aa (bj (cF K) (cJ K) (ae 0) ak) ah)) (jS T.Ew T.Ex T.Ey) (aE _)))))))))
def yt:FnOk P w K mg base dc 4 f13 d13 t9 (eY K mg oQ):=by
 exact T.rG.F.okD (φ:=wN) (O':=[]) Ke (fun Y A J s H E L=>(ar (aA (aF (dC K rfl) (u7 K) T.nZ i8 (aa (bA (dW (Wb:=⟨K,mg,E0⟩) (osc:=aq wG) (ON:=Ah) (N:=["one","other"]) (ix:=[none,none]) (by trivial) (Iz T.NZ (aa (ae 0) (aa (im (Sg K) (RG K) (ae 0) (fH ak) kr) ah))) (fun _=>(sy K (cX (bx (i:=0) (by decide) (by trivial:(["one","other"]:abv).Nodup) rfl (DO rfl)) (cX (bx (i:=1) (by decide) (by trivial:(["one","other"]:abv).Nodup) rfl (DO rfl)) oB)))) (fun _=>bQ) (fun _=>(az T.jj (xn T) L (aa (ae 0) (aa (ae 1) ah)))) (bB (by decide)))) ah)))))
def iX:FnOk P w K mg base dc 1 f14 d14 eF (eY K mg bI):=by
 exact T.cU.F.okD (φ:=gA) (O':=[]) vE (fun L A J s H E Y=>(ar (aA (cR (aF (fZ K) (lS K) T.aS aO (aa (ae 0) (aa (lU T.NY Jw) ah))) (cR (Sl (aF (fZ K) (lS K) T.aS aO (aa (ae 0) (aa (lU T.KP EK) ah)))) (cR (c9 TD TK (ae 0) ak (aE _)) (eI (c9 RU SS (ae 0) (jS T.uF T.uG T.uH) (aE _)))))))))
def vL:FnOk P w K mg base dc 3 f15 d15 kK (eY K mg lb):=by
 exact T.lN.F.okD (φ:=oj) (O':=[]) BI (fun Y A L s H E J=>(ar (aA (cR (az T.nU (vA T) J (aa (ae 0) ah)) (cR (az T.lK (vO T) J (aa (bj (cF K) (cJ K) (ae 0) ak) ah)) (eI (az T.cU (iX T) J (aa (bj (cF K) (cJ K) (ae 0) ak) ah))))))))
def xj:FnOk P w K mg base dc 5 f16 d16 nQ (eY K mg gS):=by
 exact T.nW.F.okD (φ:=m9) (O':=[]) Eh (fun Y A L s H E J=>(ap (bt (cq (bm K (az T.nV (xk T) J (aa (ae 0) (aa bE (aa (ae 1) ah)))))) (ar (aA gw)) aZ) (ar (aA (cR (aF (dC K rfl) (u7 K) T.nZ i8 (aa (bA (dW (Wb:=⟨K,mg,E0⟩) (osc:=aq qR) (ON:=vj) (N:=["entry"]) (ix:=[none]) (by trivial) (c7 K (bj (cF K) (cJ K) (ae 0) ak)) (fun _=>(bx (i:=0) (by decide) (by trivial:(["entry"]:abv).Nodup) rfl (DO rfl))) (fun _=>bQ) (fun _=>(az T.lN (vL T) J (aa (ae 0) ah))) (bB (by decide)))) ah)) (eI (az T.rG (yt T) J (aa (bj (cF K) (cJ K) (ae 0) ak) ah))))))))
def DP:FnOk P w K mg base dc 4 f17 d17 m6 (eY K mg uQ):=by
 exact T.rH.F.okD (φ:=rp) (O':=[]) Et (fun Y A J s H E L=>(ar (aA (cR (az T.nU (vA T) L (aa (ae 0) ah)) (eI (az T.lN (vL T) L (aa (bj (cF K) (cJ K) (ae 0) ak) ah)))))))
def tU:FnOk P w K mg base dc 5 f18 d18 jI (eY K mg g6):=by
 exact T.jL.F.okD (φ:=js) (O':=[]) Ap (fun Y A J s H E L=>(ar (aA (cR (az T.nV (xk T) L (aa (ae 0) (aa bE (aa (ae 1) ah)))) (eI (aF (dC K rfl) (u7 K) T.nZ i8 (aa (bA (dW (Wb:=⟨K,mg,E0⟩) (osc:=aq ma) (ON:=qu) (N:=["part"]) (ix:=[none]) (by trivial) (c7 K (bj (cF K) (cJ K) (ae 0) ak)) (fun _=>(bx (i:=0) (by decide) (by trivial:(["part"]:abv).Nodup) rfl (DO rfl))) (fun _=>bQ) (fun _=>(az T.rH (DP T) L (aa (ae 0) ah))) (bB (by decide)))) ah)))))))
def CN:FnOk P w K mg base dc 6 f19 d19 lI (eY K mg gK):=by
 exact T.pq.F.okD (φ:=iR) (O':=[]) mm (fun Y A L s H E J=>(ap (bt (bm K (az T.nW (xj T) J (aa (ae 0) (aa ak ah)))) (ar (aA gw)) aZ) (ap (bt (cq (bm K (az T.jL (tU T) J (aa (ae 0) (aa (jS T.vH T.vI T.vJ) ah))))) (ar (aA gw)) aZ) (ap (aW (i:=1) (by decide) mm.nd (DO rfl) (bA (fL (xl K) (IA K) T.tE oP (aa (bj (cF K) (cJ K) (ae 0) ak) ah)))) (ap (tX 1000 Wo (bm K (az T.rG (yt T) J (aa (bA (dW (Wb:=⟨K,mg,E0⟩) (osc:=aq fm) (ON:=gL) (N:=["part"]) (ix:=[none]) (by trivial) (c7 K (ae 1)) (fun _=>(bx (i:=0) (by decide) (by trivial:(["part"]:abv).Nodup) rfl (DO rfl))) (fun _=>bQ) (fun _=>(bj (cF K) (cJ K) (ae 0) ak)) (bB (by decide)))) ah))) (ap (oS (by decide) (oW (i:=2) mm.nd (DO rfl) (Wb:=⟨K,mg,E0⟩) (osc:=aq fm) (ON:=gL) (N:=["part"]) (ix:=[none]) (by trivial) (c7 K (ae 1)) (fun _=>(bx (i:=0) (by decide) (by trivial:(["part"]:abv).Nodup) rfl (DO rfl))) (fun _=>bQ) (fun _=>(bj (cF K) (cJ K) (ae 0) ak)) (bB (by decide)))) (ap (aW (i:=3) (by decide) mm.nd (DO rfl) (aF (dC K rfl) (u7 K) T.nZ i8 (aa (bA (dW (Wb:=⟨K,mg,E0⟩) (osc:=aq fm) (ON:=gL) (N:=["cell"]) (ix:=[none]) (by trivial) (c7 K (ae 2)) (fun _=>(bx (i:=0) (by decide) (by trivial:(["cell"]:abv).Nodup) rfl (DO rfl))) (fun _=>bQ) (fun _=>(az T.nW (xj T) J (aa (ae 0) (aa (jS T.CQ T.CS T.CU) ah)))) (bB (by decide)))) ah))) (ap (bt (b4 (sV (cq (bm K (ae 3))) (rj (cq (bm K (aF (dC K rfl) (u7 K) T.nZ i8 (aa (bA (dW (Wb:=⟨K,mg,E0⟩) (osc:=aq fm) (ON:=gL) (N:=["cell"]) (ix:=[none]) (by trivial) (c7 K (ae 2)) (fun _=>(bx (i:=0) (by decide) (by trivial:(["cell"]:abv).Nodup) rfl (DO rfl))) (fun _=>bQ) (fun _=>(az T.jL (tU T) J (aa (ae 0) (aa (jS T.CQ T.CS T.CU) ah)))) (bB (by decide)))) ah))))))) (ar (aA gw)) aZ) (ap (bt (cq (bm K (aF (dC K rfl) (u7 K) T.nZ i8 (aa (bA (dW (Wb:=⟨K,mg,E0⟩) (osc:=aq fm) (ON:=gL) (N:=["part"]) (ix:=[none]) (by trivial) (c7 K (ae 1)) (fun _=>(bx (i:=0) (by decide) (by trivial:(["part"]:abv).Nodup) rfl (DO rfl))) (fun _=>bQ) (fun _=>(c9 (eT K J.units) (pO K) (bj (cF K) (cJ K) (ae 0) ak) (az T.lM (we T) J (aa (bj (cF K) (cJ K) (ae 0) ak) ah)) (aE _))) (bB (by decide)))) ah)))) (ar (aA gw)) aZ) (ap (bt (bm K (ae 3)) (ar (aA (az T.rG (yt T) J (aa (az T.g7 (on T) J (aa (ae 2) ah)) ah)))) aZ) (ar qA))))))) (ar (aA gw)))))))
def Aa:FnOk P w K mg base dc 1 f20 d20 jD (eY K mg lX):=by
 exact T.mF.F.okD (φ:=mn) (O':=[]) AS (fun L A J s H E Y=>(ar (aA (cR (c9 TD TK (ae 0) bE (aE _)) (eI (c9 RU SS (ae 0) bE (aE _)))))))
def sZ:FnOk P w K mg base dc 2 f21 d21 nS (eY K mg kE):=by
 exact T.kI.F.okD (φ:=qO) (O':=[]) D7 (fun Y A J s H E L=>(ap (bt (b4 (gr (cq (bm K (aF (fZ K) (lS K) T.aS aO (aa (ae 0) (aa (lU T.uK oT) ah))))) (gr (aQ (eT K L.units) (pO K) (ae 0) bE (aE _)) (fv (aQ Qo Qs (aF (jX K) (j7 K) T.cS bW (aa (ae 0) ah)) (jS T.yC T.yD T.yE) (aE _)))))) (ar (aA gw)) aZ) (ar (aA (cR (aF (dC K rfl) (u7 K) T.nZ i8 (aa (bA (dW (Wb:=⟨K,mg,E0⟩) (osc:=aq rg) (ON:=uT) (N:=["sign"]) (ix:=[none]) (by trivial) (c7 K (ae 0)) (fun _=>(bx (i:=0) (by decide) (by trivial:(["sign"]:abv).Nodup) rfl (DO rfl))) (fun _=>bQ) (fun _=>(az T.mF (Aa T) L (aa (ae 0) ah))) (bB (by decide)))) ah)) (eI (c9 (E8 K) (Jr K) (ae 0) (jS T.Ez T.EA T.EB) (by with_unfolding_all rfl))))))))
def t8:FnOk P w K mg base dc 1 f22 d22 dr (eY K mg i6):=by
 exact T.fT.F.okD (φ:=nM) (O':=[]) uB (fun L A J s H E Y=>(ar (aA (cR (aF (fZ K) (lS K) T.aS aO (aa (ae 0) (aa (lU T.uK oT) ah))) (eI (c9 (UE K) (pIn K) (ae 0) (jS T.yz T.yA T.yB) (by with_unfolding_all rfl)))))))
def wW:FnOk P w K mg base dc 1 f23 d23 m5 (eY K mg iW):=by
 exact T.nX.F.okD (φ:=nv) (O':=[]) DQ (fun Y A J s H E L=>(ar (aA (cR (aF (fZ K) (lS K) T.aS aO (aa (ae 0) (aa (lU T.jo ip) ah))) (eI (c9 (eT K L.units) (pO K) (aF (jX K) (j7 K) T.cS bW (aa (ae 0) ah)) ak (aE _)))))))
def z9:FnOk P w K mg base dc 3 f24 d24 jE (eY K mg l7):=by
 exact T.mG.F.okD (φ:=me) (O':=[]) Ax (fun Y A L s H E J=>(ar (aA (cR (az T.nX (wW T) J (aa (ae 0) ah)) (cR (az T.kI (sZ T) J (aa (bj (cF K) (cJ K) (ae 0) ak) ah)) (eI (az T.fT (t8 T) J (aa (bj (cF K) (cJ K) (ae 0) ak) ah))))))))
def xg:FnOk P w K mg base dc 4 f25 d25 gh (eY K mg c5):=by
 exact T.jl.F.okD (φ:=gp) (O':=[]) qD (fun Y A J s H E L=>(ap (bt (b4 (gr (cq (bm K (aF (fZ K) (lS K) T.aS aO (aa (ae 0) (aa (lU T.jo ip) ah))))) (gr (aQ Je JN (aF (jX K) (j7 K) T.cS bW (aa (ae 0) ah)) ak (aE _)) (fv (aQ Qo Qs (aF (jX K) (j7 K) T.cS bW (aa (ae 0) ah)) (jS T.yF T.yG T.yH) (aE _)))))) (ar (aA gw)) aZ) (ap (bt (cq (bm K (aF (dC K rfl) (u7 K) T.nZ i8 (aa (bA (dW (Wb:=⟨K,mg,E0⟩) (osc:=aq gk) (ON:=jc) (N:=["column"]) (ix:=[none]) (by trivial) (c7 K (ae 0)) (fun _=>(bx (i:=0) (by decide) (by trivial:(["column"]:abv).Nodup) rfl (DO rfl))) (fun _=>bQ) (fun _=>(az T.mG (z9 T) L (aa (ae 0) ah))) (bB (by decide)))) ah)))) (ar (aA gw)) aZ) (ap (oS (by decide) (oW (i:=1) qD.nd (DO rfl) (Wb:=⟨K,mg,E0⟩) (osc:=aq gk) (ON:=jc) (N:=["column"]) (ix:=[none]) (by trivial) (c7 K (ae 0)) (fun _=>(bx (i:=0) (by decide) (by trivial:(["column"]:abv).Nodup) rfl (DO rfl))) (fun _=>bQ) (fun _=>(bj (cF K) (cJ K) (ae 0) ak)) (bB (by decide)))) (ar (aA (c9 (eT K L.units) (pO K) (JZ T.cS T.Ty (aa (ae 1) ah)) (aF (jX K) (j7 K) T.cS bW (aa (ae 1) ah)) (aE _))))))))
def vR:FnOk P w K mg base dc 5 f26 d26 lm (eY K mg cu):=by
 exact T.lO.F.okD (φ:=iQ) (O':=[]) Bu (fun Y A L s H E J=>(ar (aA (cR (az T.nX (wW T) J (aa (ae 0) ah)) (cR (az T.kI (sZ T) J (aa (bj (cF K) (cJ K) (ae 0) ak) ah)) (eI (az T.jl (xg T) J (aa (bj (cF K) (cJ K) (ae 0) ak) ah))))))))
def jQ:FnOk P w K mg base dc 1 f27 d27 ff (eY K mg cg):=by
 exact T.dE.F.okD (φ:=fB) (O':=[]) jP (fun Y A J s H E L=>(ap (mZ Wo (ub T.wk (aa (bj (cF K) (cJ K) (ae 0) ak) ah)) (sy K (cX (bx (i:=2) (by decide) jP.nd rfl (DO rfl)) (cX (bx (i:=3) (by decide) jP.nd rfl (DO rfl)) oB))) (ar (bt (aQ (eT K L.units) (pO K) (bj (cF K) (cJ K) (ae 3) ak) (ae 1) (aE _)) (ar (aA (ae 2))) aZ))) (ar (aA nF))))
def AJ:FnOk P w K mg base dc 3 f28 d28 jK (eY K mg bN):=by
 exact T.mH.F.okD (φ:=gU) (O':=[]) z6 (fun Y A L s H E J=>(ar (aA (QJ (c9 KU KQ (ae 0) nF (aE _)) (eI (cR (az T.lK (vO T) J (aa (ae 0) ah)) (eI (c9 (eT K J.units) (pO K) (az T.fS (iT T) J (aa (ae 0) ah)) (ae 1) (aE _)))))))))
def E3:FnOk P w K mg base dc 4 f29 d29 yj (eY K mg jT):=by
 exact T.yw.F.okD (φ:=u3) (O':=[]) Fv (fun Y A J s H E L=>(ap (aW (i:=2) (by decide) Fv.nd (DO rfl) (bj (cF K) (cJ K) (ae 0) ak)) (ap (bt (b4 (gr (cq (bm K (aF (fZ K) (lS K) T.aS aO (aa (ae 1) (aa (lU T.jo ip) ah))))) (fv (aQ (C3 K L.units) (PZ K) (aF (jX K) (j7 K) T.cS bW (aa (ae 1) ah)) (aF (jX K) (j7 K) T.cS bW (aa (ae 2) ah)) (aE _))))) (ar (aA gw)) aZ) (ar (aA (aF (dC K rfl) (u7 K) T.nZ i8 (aa (bA (dW (Wb:=⟨K,mg,E0⟩) (osc:=aq zS) (ON:=C0) (N:=["thing","column"]) (ix:=[none,none]) (by trivial) (Iz T.NZ (aa (ae 1) (aa (ae 2) ah))) (fun _=>(sy K (cX (bx (i:=0) (by decide) (by trivial:(["thing","column"]:abv).Nodup) rfl (DO rfl)) (cX (bx (i:=1) (by decide) (by trivial:(["thing","column"]:abv).Nodup) rfl (DO rfl)) oB)))) (fun _=>bQ) (fun _=>(az T.mH (AJ T) L (aa (ae 0) (aa (bj (cF K) (cJ K) (ae 1) ak) ah)))) (bB (by decide)))) ah)))))))
def vP:FnOk P w K mg base dc 1 f30 d30 kL (eY K mg lj):=by
 exact T.lP.F.okD (φ:=oF) (O':=[]) gX (fun L A J s H E Y=>(ap (aW (i:=2) (by decide) gX.nd (DO rfl) (aM fR fO (aM JL Kn (aM (eM K) (jV K) (aF (jX K) (j7 K) T.cS bW (aa (ae 1) ah)) (jS T.Ew T.Ex T.Ey)) ak) (jS T.Ew T.Ex T.Ey))) (ap (iY (i:=3) (by decide) gX.nd (DO rfl) (eX ah)) (ap (mZ Wo (nr T.uL (aa (ae 2) ah)) (bx (i:=4) (by decide) gX.nd rfl (DO rfl)) (ap (aW (i:=5) (by decide) gX.nd (DO rfl) (aM fR fO (aM j0 rV (ae 4) (aF (jX K) (j7 K) T.cS bW (aa (ae 1) ah))) (ae 2))) (ap (aW (i:=6) (by decide) gX.nd (DO rfl) (aM fR fO (aM j0 rV (aM (eM K) (jV K) (ae 4) ak) (aF (jX K) (j7 K) T.cS bW (aa (ae 1) ah))) (ae 2))) (ar (eS (i:=3) (by decide) (dJ (aa (ae 0) (aa (E2 (Ep K) (QP K) T.jo ip (aa (im (Sg K) (RG K) (ae 1) (fH (ae 5)) (fH (ae 6))) ah)) ah)))))))) (yh (O:=[3]) (O2:=[]) (ar (aA (ae 3))))))))
def BU:FnOk P w K mg base dc 2 f31 d31 kU (eY K mg n6):=by
 exact T.pz.F.okD (φ:=oG) (O':=[]) Bh (fun Y A J s H E L=>(ar (aA (bA (dW (Wb:=⟨K,mg,E0⟩) (osc:=aq ot) (ON:=tw) (N:=["cell"]) (ix:=[none]) (by trivial) (c7 K (ae 0)) (fun _=>(bx (i:=0) (by decide) (by trivial:(["cell"]:abv).Nodup) rfl (DO rfl))) (fun _=>bQ) (fun _=>(dJ (aa (az T.lM (we T) L (aa (ae 0) ah)) (aa (ae 0) ah)))) (bB (by decide)))))))
def Hv:FnOk P w K mg base dc 3 f32 d32 qK (eY K mg nC):=by
 exact T.uE.F.okD (φ:=qm) (O':=[]) vf (fun Y A J s H E L=>(ap (aW (i:=1) (by decide) vf.nd (DO rfl) (ae 0)) (ap (tX 1000 Wo (aQ Qo Qs (aF (jX K) (j7 K) T.cS bW (aa (ae 1) ah)) ak (aE _)) (ar (aW (i:=1) (by decide) vf.nd (DO rfl) (az T.lP (vP T) L (aa bE (aa (az T.pz (BU T) L (aa (ae 1) ah)) ah)))))) (ar (aA (bj (cF K) (cJ K) (ae 1) ak))))))
def ug:FnOk P w K mg base dc 3 f33 d33 jt (eY K mg cY):=by
 exact T.jM.F.okD (φ:=mD) (O':=[]) Av (fun Y A J s H E L=>(ar (aA (dJ (aa (az T.mE (AY T) L (aa (bj (cF K) (cJ K) (ae 0) ak) ah)) (aa (bj (cF K) (cJ K) (ae 0) ak) ah))))))
def jf:FnOk P w K mg base dc 5 f34 d34 ij (eY K mg cV):=by
 exact T.dZ.F.okD (φ:=fJ) (O':=[]) mS (fun Y A L s H E J=>(ap (iY (i:=1) (by decide) mS.nd (DO rfl) (eX ah)) (ap (mZ Wo (c7 K (bA (zD Vi T.jM (ug T) J T.uM (ae 0)))) (bx (i:=2) (by decide) mS.nd rfl (DO rfl)) (ar (bt (b4 (gr (Fp K (fun k=>k) (i:=1) (by decide) (eT K J.units) (bA (eX ah)) (aE _)) (fv (aQ (C3 K J.units) (PZ K) (Sb K (i:=1) (by decide) (G4 Gg Hu ak)) (ae 2) (aE _))))) (ar (eS (i:=1) (by decide) (ae 2))) aZ))) (ap (bt (Fp K (fun k=>k) (i:=1) (by decide) (eT K J.units) (bA (eX ah)) (aE _)) (ar (aA (Mx T.jk (xM T) J))) aZ) (yh (O:=[1]) (O2:=[]) (ar (aA (az T.uE (Hv T) J (aa (az T.lP (vP T) J (aa bE (aa (ae 1) ah))) ah)))))))))
def tT:FnOk P w K mg base dc 3 f35 d35 jB (eY K mg jC):=by
 exact T.jN.F.okD (φ:=mo) (O':=[]) zU (fun Y A J s H E L=>(ar (aA (bA (pV T.aB T.gJ T.gy (jx T) T.gz L (aa (ae 0) (aa (oh kg) (aa (oh kg) ah))))))))
def Ct:FnOk P w K mg base dc 3 f36 d36 kZ (eY K mg pp):=by
 exact T.pA.F.okD (φ:=oo) (O':=[]) mq (fun Y A J s H E L=>(ap (iY (i:=3) (by decide) mq.nd (DO rfl) (fL fK Gr T.pC kh (aa (bG K T.aB T.aG.cl T.bo (ae 0)) ah))) (ap (gG (i:=3) L.units (by decide) (ae 2) (ae 1)) (ap (aW (i:=4) (by decide) mq.nd (DO rfl) (oh kg)) (ap (mZ Wo (AK (bG K T.aB T.aG.cl T.bf (ae 0))) (bx (i:=5) (by decide) mq.nd rfl (DO rfl)) M5) (xb (i:=3) (O:=[3]) (O2:=[]) (ar (aA (bA (pV T.aB T.gJ T.gy (jx T) T.gz L (aa (bG K T.aB T.aG.cl T.aJ (ae 0)) (aa (ae 3) (aa (ae 4) ah)))))))))))))
def se:FnOk P w K mg base dc 2 f37 d37 ir (eY K mg ic):=by
 exact T.iE.F.okD (φ:=j8) (O':=[]) rY (fun Y A J s H E L=>(ap (aW (i:=2) (by decide) rY.nd (WL rfl) (az T.dE (jQ T) L (aa (bG K T.aB T.aG.cl T.aJ (ae 0)) (aa (ae 1) ah)))) (ar (aA (bA (dW (Wb:=⟨K,mg,E0⟩) (osc:=aq j5) (ON:=oO) (N:=["number","row","place"]) (ix:=[none,none,some 2]) (by trivial) (w9 (bG K T.aB T.aG.cl T.bo (ae 0))) (fun _=>(sy K (cX (bx (i:=0) (by decide) (by trivial:(["number","row","place"]:abv).Nodup) rfl (DO rfl)) (cX (bx (i:=1) (by decide) (by trivial:(["number","row","place"]:abv).Nodup) rfl (DO rfl)) oB)))) (fun _=>bQ) (fun _=>(dJ (aa (bj (cF K) (cJ K) (ae 1) (ae 2)) (aa (ae 0) ah)))) (bB (by decide))))))))
def yL:FnOk P w K mg base dc 6 f38 d38 iu (eY K mg j6):=by
 exact T.kB.F.okD (φ:=ku) (O':=[]) si (fun Y A L s H E J=>(ap (iY (i:=2) (by decide) si.nd (DO rfl) (fL fK Gr T.pC kh (aa (bG K T.aB T.aG.cl T.bf (ae 0)) ah))) (ap (gG (i:=2) J.units (by decide) (az T.dZ (jf T) J (aa (az T.iE (se T) J (aa (ae 0) (aa (ae 1) ah))) ah)) (ae 1)) (xb (i:=2) (O:=[2]) (O2:=[]) (ar (aA (bA (pV T.aB T.gJ T.gy (jx T) T.gz J (aa (bG K T.aB T.aG.cl T.aJ (ae 0)) (aa (bG K T.aB T.aG.cl T.bo (ae 0)) (aa (ae 2) ah)))))))))))
def xy:FnOk P w K mg base dc 7 f39 d39 gl (eY K mg bP):=by
 exact T.jm.F.okD (φ:=eR) (O':=[]) pW (fun Y A L s H E J=>(ap (bt (b4 (gr (cq (bm K (aF (fZ K) (lS K) T.aS aO (aa (ae 1) (aa (lU T.uK oT) ah))))) (fv (aQ KU KQ (az T.dE (jQ T) J (aa (bG K T.aB T.aG.cl T.aJ (ae 0)) (aa (ae 1) ah))) nF (aE _))))) (ar (aA gw)) aZ) (ap (aW (i:=2) (by decide) pW.nd (DO rfl) (rZ J.units (bG K T.aB T.aG.cl T.bf (ae 0)) (ae 1))) (ar (aA (cR (az T.pq (CN T) J (aa (ae 2) ah)) (eI (c9 (eT K J.units) (pO K) (az T.kA (yO T) J (aa (ae 2) ah)) (bA (zD Vi T.jM (ug T) J T.uM (az T.iE (se T) J (aa (ae 0) (aa (ae 1) ah))))) (aE _)))))))))
def fh:FnOk P w K mg base dc 8 f40 d40 la (eY K mg aX):=by
 exact T.c8.F.okD (φ:=fj) (O':=[]) Bq (fun Y A L s H E J=>(ap (bt (b4 (gr (cq (bm K (aF (Rz T.aG) (Tf T.aB) T.aS aO (aa (ae 0) (aa (HX T.gJ T.aB) ah))))) (fv (cq (bm K (az T.lO (vR T) J (aa (bG K T.aB T.aG.cl T.aJ (ae 0)) ah))))))) (ar (aA gw)) aZ) (ap (bt (b4 (gr (cq (bm K (aF (fZ K) (lS K) T.aS aO (aa (bG K T.aB T.aG.cl T.bo (ae 0)) (aa (lU T.pC kh) ah))))) (fv (cq (bm K (aF (fZ K) (lS K) T.aS aO (aa (bG K T.aB T.aG.cl T.bf (ae 0)) (aa (lU T.pC kh) ah)))))))) (ar (aA gw)) aZ) (ap (bt (cq (bm K (aF (dC K rfl) (u7 K) T.nZ i8 (aa (bA (dW (Wb:=⟨K,mg,E0⟩) (osc:=aq kP) (ON:=ou) (N:=["number","row","thing"]) (ix:=[none,none,some 0]) (by trivial) (w9 (bG K T.aB T.aG.cl T.bo (ae 0))) (fun _=>(sy K (cX (bx (i:=0) (by decide) (by trivial:(["number","row","thing"]:abv).Nodup) rfl (DO rfl)) (cX (bx (i:=1) (by decide) (by trivial:(["number","row","thing"]:abv).Nodup) rfl (DO rfl)) oB)))) (fun _=>bQ) (fun _=>(cR (az T.cU (iX T) J (aa (ae 0) ah)) (eI (az T.yw (E3 T) J (aa (bG K T.aB T.aG.cl T.aJ (ae 2)) (aa (ae 1) ah)))))) (bB (by decide)))) ah)))) (ar (aA gw)) aZ) (ar (aA (aF (dC K rfl) (u7 K) T.nZ i8 (aa (bA (dW (Wb:=⟨K,mg,E0⟩) (osc:=aq kP) (ON:=ou) (N:=["column","thing"]) (ix:=[none,some 0]) (by trivial) (AK (bG K T.aB T.aG.cl T.bf (ae 0))) (fun _=>(bx (i:=0) (by decide) (by trivial:(["column","thing"]:abv).Nodup) rfl (DO rfl))) (fun _=>bQ) (fun _=>(az T.jm (xy T) J (aa (ae 1) (aa (ae 0) ah)))) (bB (by decide)))) ah))))))))
def Ej:FnOk P w K mg base dc 1 f41 d41 nT (eY K mg qW):=by
 exact T.rJ.F.okD (φ:=qY) (O':=[]) Dd (fun Y A J s H E L=>(ap (bt (b4 (gr (cq (bm K (aF (fZ K) (lS K) T.aS aO (aa (ae 0) (aa (lU T.jo ip) ah))))) (gr (aQ (eT K L.units) (pO K) (aF (jX K) (j7 K) T.cS bW (aa (ae 0) ah)) ak (aE _)) (fv (cq (bm K (aF (fZ K) (lS K) T.aS aO (aa (bj (cF K) (cJ K) (ae 0) ak) (aa (lU T.uK oT) ah))))))))) (ar qA) aZ) (ap (bt (b4 (gr (aQ (Pg T.F1 T.F2 T.Be T.Bf) (U3 T.CV) (bj (cF K) (cJ K) (ae 0) ak) (HX T.F0 T.CV) (by with_unfolding_all rfl)) (fv (aQ (C3 K L.units) (PZ K) (aF (jX K) (j7 K) T.cS bW (aa (ae 0) ah)) (Lm iB T.F0 T.F1 T.F2 T.wP (bj (cF K) (cJ K) (ae 0) ak)) (aE _))))) (ar qA) aZ) (ar (aA (bj (cF K) (cJ K) (ae 0) ak))))))
def mV:FnOk P w K mg base dc 1 f42 d42 iz (eY K mg fE):=by
 exact T.fU.F.okD (φ:=kq) (O':=[]) sd (fun Y A J s H E L=>(ap (iY (i:=3) (by decide) sd.nd (DO rfl) (fL fK Gr T.pC kh (aa (ae 0) ah))) (ap (gG (i:=3) L.units (by decide) (ae 2) (ae 1)) (xb (i:=3) (O:=[3]) (O2:=[]) (ar (aA (ae 3)))))))
def rT:FnOk P w K mg base dc 6 f43 d43 cO (eY K mg cN):=by
 exact T.ei.F.okD (φ:=dY) (O':=[]) rO (fun Y A L s H E J=>(ap (bt (cq (bm K (az T.lO (vR T) J (aa (ae 1) ah)))) (ar qA) aZ) (ap (bt (aQ (KD J.units) RN (bj (cF K) (cJ K) (ae 1) ak) (ae 0) (by with_unfolding_all rfl)) (ar qA) aZ) (ar (aA (az T.fU (mV T) J (aa (ae 0) (aa (bj (cF K) (cJ K) (ae 1) ak) (aa (az T.jN (tT T) J (aa (ae 1) ah)) ah)))))))))
def wc:FnOk P w K mg base dc 1 f44 d44 lB (eY K mg lw):=by
 exact T.lQ.F.okD (φ:=oY) (O':=[]) CO (fun Y A J s H E L=>(ap (bt (b4 (gr (cq (bm K (aF (fZ K) (lS K) T.aS aO (aa (ae 1) (aa (lU T.uK oT) ah))))) (fv (aQ (G6 L.units) Me (ae 1) (ae 0) (by with_unfolding_all rfl))))) (ar qA) aZ) (ar (aA (rZ L.units (ae 0) (ae 1))))))
def rS:FnOk P w K mg base dc 7 f45 d45 cQ (eY K mg cP):=by
 exact T.eB.F.okD (φ:=dX) (O':=[]) j1 (fun Y A L s H E J=>(ap (aW (i:=3) (by decide) j1.nd (DO rfl) (az T.lQ (wc T) J (aa (ae 0) (aa (ae 1) ah)))) (ap (bt (b4 (gr (cq (bm K (aF (fZ K) (lS K) T.aS aO (aa (ae 2) (aa (lU T.uK oT) ah))))) (fv (aQ KU KQ (az T.dE (jQ T) J (aa (bG K T.aB T.aG.cl T.aJ (ae 3)) (aa (ae 2) ah))) nF (aE _))))) (ar qA) aZ) (ap (bt (aQ (KD J.units) RN (ae 2) (bG K T.aB T.aG.cl T.bf (ae 3)) (by with_unfolding_all rfl)) (ar qA) aZ) (ar (aA (az T.fU (mV T) J (aa (ae 0) (aa (ae 1) (aa (az T.kB (yL T) J (aa (ae 3) (aa (ae 2) ah))) ah))))))))))
def tK:FnOk P w K mg base dc 5 f46 d46 dh (eY K mg dj):=by
 exact T.fV.F.okD (φ:=fF) (O':=[]) my (fun Y A L s H E J=>(ap (aW (i:=4) (by decide) my.nd (DO rfl) (az T.lQ (wc T) J (aa (ae 0) (aa (ae 1) ah)))) (ap (bt (cq (bm K (az T.cU (iX T) J (aa (ae 2) ah)))) (ar qA) aZ) (ap (bt (cq (bm K (az T.yw (E3 T) J (aa (bG K T.aB T.aG.cl T.aJ (ae 4)) (aa (ae 3) ah))))) (ar qA) aZ) (ar (aA (az T.fU (mV T) J (aa (ae 0) (aa (ae 1) (aa (az T.pA (Ct T) J (aa (ae 4) (aa (ae 2) (aa (ae 3) ah)))) ah))))))))))
def C9:FnOk P w K mg base dc 8 f47 d47 m7 (eY K mg i5):=by
 exact T.rK.F.okD (φ:=kG) (O':=[]) xL (fun Y A L s H E J=>(ap (aW (i:=2) (by decide) xL.nd (DO rfl) (az T.rJ (Ej T) J (aa (ae 1) ah))) (ap (bt (aQ (eT K J.units) (pO K) (ae 2) bE (aE _)) (ar (aA (az T.ei (rT T) J (aa (ae 0) (aa (bj (cF K) (cJ K) (ae 1) ak) ah))))) aZ) (ap (bt (aQ (eT K J.units) (pO K) (ae 2) bE (aE _)) (ar (aA (az T.eB (rS T) J (aa (ae 0) (aa (bj (cF K) (cJ K) (ae 1) ak) (aa (bj (cF K) (cJ K) (ae 1) ak) ah)))))) aZ) (ap (bt (aQ (eT K J.units) (pO K) (ae 2) bE (aE _)) (ar (aA (az T.fV (tK T) J (aa (ae 0) (aa (bj (cF K) (cJ K) (ae 1) ak) (aa (bj (cF K) (cJ K) (ae 1) ak) (aa (bj (cF K) (cJ K) (ae 1) ak) ah))))))) aZ) (ar qA))))))
def wU:FnOk P w K mg base dc 9 f48 d48 gq (eY K mg jh):=by
 exact T.jn.F.okD (φ:=ja) (O':=[]) ig (fun Y A J s H E L=>(ap (aW (i:=2) (by decide) ig.nd (DO rfl) (ae 0)) (ap (mZ Wo (c7 K (ae 1)) (bx (i:=3) (by decide) ig.nd rfl (DO rfl)) (ar (aW (i:=2) (by decide) ig.nd (DO rfl) (az T.rK (C9 T) L (aa (ae 2) (aa (ae 3) ah)))))) (ar (aA (ae 2))))))
def ua:FnOk P w K mg base dc 9 f49 d49 dw (eY K mg bT):=by
 exact T.fW.F.okD (φ:=dD) (O':=[]) tJ (fun Y A L s H E J=>(ar (aA (cR (az T.kI (sZ T) J (aa (ae 1) ah)) (cR (az T.c8 (fh T) J (aa (ae 0) ah)) (eI (c9 (eT K J.units) (pO K) (bj (cF K) (cJ K) (bG K T.aB T.aG.cl T.aJ (ae 0)) ak) (ae 1) (aE _))))))))
def gY:FnOk P w K mg base dc 10 f50 d50 lg (eY K mg bX):=by
 exact T.eD.F.okD (φ:=oN) (O':=[]) Ce (fun Y A J s H E L=>(ar (aA (cR (aF (fZ K) (lS K) T.aS aO (aa (ae 0) (aa (lU T.pC kh) ah))) (eI (aF (dC K rfl) (u7 K) T.nZ i8 (aa (bA (dW (Wb:=⟨K,mg,E0⟩) (osc:=aq om) (ON:=sQ) (N:=["name","table"]) (ix:=[none,none]) (by trivial) (w9 (ae 0)) (fun _=>(sy K (cX (bx (i:=0) (by decide) (by trivial:(["name","table"]:abv).Nodup) rfl (DO rfl)) (cX (bx (i:=1) (by decide) (by trivial:(["name","table"]:abv).Nodup) rfl (DO rfl)) oB)))) (fun _=>bQ) (fun _=>(az T.fW (ua T) L (aa (ae 1) (aa (ae 0) ah)))) (bB (by decide)))) ah)))))))
def n8:FnOk P w K mg base dc 1 f51 d51 jr (eY K mg fe):=by
 exact T.g8.F.okD (φ:=l5) (O':=[]) Ak (fun L A J s H E Y=>(ap (bt (aQ Je JN (ae 1) (aF (jX K) (j7 K) T.cS bW (aa (ae 0) ah)) (aE _)) (ar (aA (bj (cF K) (cJ K) (ae 0) (ae 1)))) aZ) (ar (aA ak))))
def yn:FnOk P w K mg base dc 1 f52 d52 nD (eY K mg nI):=by
 exact T.nY.F.okD (φ:=qX) (O':=[]) cZ (fun Y A J s H E L=>(ap (aW (i:=2) (by decide) cZ.nd (DO rfl) (aM (eM K) (jV K) ak (aM cy cx (ae 0) ak))) (ap (aW (i:=3) (by decide) cZ.nd (DO rfl) (Ro ZO ZP (EL K) (M3 K) bE (aa (bA (dW (Wb:=⟨K,mg,E0⟩) (osc:=aq re) (ON:=ve) (N:=["_law_n","_law_cell"]) (ix:=[none,some 0]) (by trivial) (nr T.uL (aa (ae 2) ah)) (fun _=>(bx (i:=0) (by decide) (by trivial:(["_law_n","_law_cell"]:abv).Nodup) rfl (DO rfl))) (fun _=>bQ) (fun _=>(bj (cF K) (cJ K) bE (aM cy cx (aM (eM K) (jV K) (aM fR fO (ae 1) ak) (aM j0 rV ak (ae 0))) ak))) (bB (by decide)))) ah))) (ap (aW (i:=4) (by decide) cZ.nd (DO rfl) (aM cy cx (aM fR fO (ae 0) ak) (ae 2))) (ap (iY (i:=5) (by decide) cZ.nd (DO rfl) (eX ah)) (ap (aW (i:=6) (by decide) cZ.nd (DO rfl) ak) (ap (tX 1000 Wo (aQ Je JN (PN K (i:=5) (by decide) T.cS) (ae 1) (aE _)) (ap (aW (i:=7) (by decide) cZ.nd (DO rfl) (bj (cF K) (cJ K) bE (aM cy cx (aM (eM K) (jV K) (aM fR fO (ae 0) ak) (aM j0 rV ak (ae 6))) ak))) (ap (aW (i:=8) (by decide) cZ.nd (DO rfl) (aM (eM K) (jV K) (aM (eM K) (jV K) (im (LQ K) (JX K) (ae 3) kr (fH (ae 4))) (ae 7)) (im (LQ K) (JX K) (ae 3) (fH (aM (eM K) (jV K) (ae 4) ak)) kr))) (ap (aW (i:=9) (by decide) cZ.nd (DO rfl) (bA (eX (aa bE (aa bE (aa bE (aa bE (aa bE (aa bE (aa bE (aa bE (aa bE (aa bE ah))))))))))))) (ap (bt (b4 (sV (aQ (C3 K L.units) (PZ K) (ae 8) bE (aE _)) (rj (aQ (E8 K) (Jr K) (ae 8) (ae 9) (by with_unfolding_all rfl))))) (ar (eS (i:=5) (by decide) (ae 8))) aZ) (ar (aW (i:=6) (by decide) cZ.nd (DO rfl) (aM (eM K) (jV K) (ae 6) ak)))))))) (yh (O:=[5]) (O2:=[]) (ar (aA (ae 5)))))))))))
def zZ:FnOk P w K mg base dc 1 f53 d53 jp (eY K mg ml):=by
 exact T.mI.F.okD (φ:=mz) (O':=[]) n9 (fun L A J s H E Y=>(ap (aW (i:=1) (by decide) n9.nd (DO rfl) bE) (ap (aW (i:=1) (by decide) n9.nd (DO rfl) (aM (eM K) (jV K) (ae 1) bE)) (ar (aA (bj (cF K) (cJ K) (ae 1) (aM cy cx (ae 0) ak)))))))
def AB:FnOk P w K mg base dc 2 f54 d54 jq (eY K mg mx):=by
 exact T.mJ.F.okD (φ:=lY) (O':=[]) kb (fun Y A J s H E L=>(ap (aW (i:=1) (by decide) kb.nd (DO rfl) (aM cy cx (ae 0) ak)) (ap (bt (aQ (eT K L.units) (pO K) (aM cy cx (aM fR fO (ae 0) ak) ak) ak (aE _)) (ar (aW (i:=1) (by decide) kb.nd (DO rfl) (aM cy cx (aM fR fO (ae 0) ak) ak))) aZ) (ap (aW (i:=2) (by decide) kb.nd (WL rfl) (bj (cF K) (cJ K) (bA (eX (aa ak (aa ak (aa ak ah))))) (aM cy cx (aM fR fO (ae 0) ak) ak))) (ar (aA (Ro ZO ZP (EL K) (M3 K) bE (aa (bA (dW (Wb:=⟨K,mg,E0⟩) (osc:=aq mr) (ON:=qc) (N:=["_law_k","_law_cell","_law_step"]) (ix:=[none,some 0,some 2]) (by trivial) (nr T.uL (aa (ae 1) ah)) (fun _=>(bx (i:=0) (by decide) (by trivial:(["_law_k","_law_cell","_law_step"]:abv).Nodup) rfl (DO rfl))) (fun _=>bQ) (fun _=>(az T.mI (zZ T) L (aa (aM (eM K) (jV K) (aM fR fO (ae 1) ak) (aM j0 rV (ae 2) (ae 0))) ah))) (bB (by decide)))) ah))))))))
def yU:FnOk P w K mg base dc 2 f55 d55 iC (eY K mg hV):=by
 exact T.kC.F.okD (φ:=kj) (O':=[]) gx (fun Y A J s H E L=>(ap (aW (i:=2) (by decide) gx.nd (DO rfl) (az T.nY (yn T) L (aa (aM fR fO (ae 1) ak) (aa (bj (cF K) (cJ K) (bA (eX (aa ak (aa ak (aa ak (aa ak (aa ak (aa ak (aa ak (aa ak ah)))))))))) (aM cy cx (ae 1) ak)) ah)))) (ap (iY (i:=3) (by decide) gx.nd (DO rfl) (eX ah)) (ap (mZ Wo (nr T.uL (aa (aF (jX K) (j7 K) T.cS bW (aa (ae 2) ah)) ah)) (bx (i:=4) (by decide) gx.nd rfl (DO rfl)) (ap (aW (i:=5) (by decide) gx.nd (DO rfl) (bj (cF K) (cJ K) (bA (eX (aa bE (aa bE ah)))) (aM cy cx (aM fR fO (ae 1) (bj (cF K) (cJ K) (bA (eX (aa ak (aa ak (aa ak (aa ak (aa ak (aa ak (aa ak (aa ak ah)))))))))) (ae 4))) ak))) (ar (eS (i:=3) (by decide) (dJ (aa (bj (cF K) (cJ K) (ae 2) (ae 4)) (aa (ae 5) ah))))))) (ar (aA (dJ (aa (ae 0) (aa (IY K (i:=3) (by decide) T.jo) ah)))))))))
def B7:FnOk P w K mg base dc 3 f56 d56 kM (eY K mg lx):=by
 exact T.pB.F.okD (φ:=pd) (O':=[]) gZ (fun Y A L s H E J=>(ap (iY (i:=2) (by decide) gZ.nd (DO rfl) (eX ah)) (ap (aW (i:=3) (by decide) gZ.nd (DO rfl) (aM cy cx (aM (eM K) (jV K) (aM j0 rV (ae 1) ak) ak) ak)) (ap (mZ Wo (c7 K (bj (cF K) (cJ K) (ae 0) ak)) (bx (i:=4) (by decide) gZ.nd rfl (DO rfl)) (ap (aW (i:=3) (by decide) gZ.nd (DO rfl) (aM cy cx (aM (eM K) (jV K) (aM j0 rV (ae 3) ak) ak) ak)) (ap (aW (i:=5) (by decide) gZ.nd (DO rfl) (aM fR fO (ae 3) ak)) (ar (bt (b4 (gr (aQ (eT K J.units) (pO K) (aM cy cx (ae 5) ak) ak (aE _)) (fv (aQ (eT K J.units) (pO K) (aM cy cx (ae 1) ak) ak (aE _))))) (ar (eS (i:=2) (by decide) nF)) (ar (bt (aQ (eT K J.units) (pO K) (bj (cF K) (cJ K) (ae 4) ak) bE (aE _)) (ar (eS (i:=2) (by decide) (az T.mJ (AB T) J (aa (aM fR fO (ae 5) ak) ah)))) (ar (bt (aQ (eT K J.units) (pO K) (aM cy cx (aM fR fO (ae 5) ak) ak) ak (aE _)) (ar (eS (i:=2) (by decide) (aM (eM K) (jV K) (aM JL Kn (aM cy cx (aM j0 rV (ae 5) (aM (eM K) (jV K) (aM B4 Ck ak ak) ak)) (aM JL Kn (aM j0 rV ak (aM B4 Ck ak ak)) ak)) (aM B4 Ck ak ak)) ak))) (ar (eS (i:=2) (by decide) (aM JL Kn (aM cy cx (aM fR fO (ae 5) ak) ak) ak)))))))))))) (ar (aA (IY K (i:=2) (by decide) T.jo)))))))
def uv:FnOk P w K mg base dc 4 f57 d57 jA (eY K mg ju):=by
 exact T.jO.F.okD (φ:=mh) (O':=[]) dU (fun Y A J s H E L=>(ap (iY (i:=2) (by decide) dU.nd (DO rfl) (eX (aa (dJ (aa bE (aa (ae 0) ah))) ah))) (ap (mZ Wo (ub T.wk (aa (ae 1) ah)) (sy K (cX (bx (i:=3) (by decide) dU.nd rfl (DO rfl)) (cX (bx (i:=4) (by decide) dU.nd rfl (DO rfl)) oB))) (ap (aW (i:=5) (by decide) dU.nd (DO rfl) (aM cy cx (aM j0 rV (aM (eM K) (jV K) (ae 4) (aM j0 rV ak (ae 3))) ak) ak)) (ar (eS (i:=2) (by decide) (dJ (aa bE (aa (bj (cF K) (cJ K) (ae 0) ak) (aa (aM (eM K) (jV K) ak (aM cy cx (ae 5) ak)) (aa (az T.pB (B7 T) L (aa (ae 0) (aa (ae 5) ah))) ah))))))))) (ap (oS (by decide) (oW (i:=6) dU.nd (DO rfl) (Wb:=⟨K,mg,E0⟩) (osc:=aq ms) (ON:=qE) (N:=["_law_column"]) (ix:=[none]) (by trivial) (c7 K (bj (cF K) (cJ K) (ae 0) ak)) (fun _=>(bx (i:=0) (by decide) (by trivial:(["_law_column"]:abv).Nodup) rfl (DO rfl))) (fun _=>bQ) (fun _=>(bj (cF K) (cJ K) (ae 0) ak)) (bB (by decide)))) (ap (mZ Wo (c7 K (im (LQ K) (JX K) (ae 6) kr (fH (aM cy cx (aF (jX K) (j7 K) T.cS bW (aa (ae 1) ah)) ak)))) (bx (i:=7) (by decide) dU.nd rfl (DO rfl)) (ar (eS (i:=2) (by decide) (dJ (aa bE (aa (bj (cF K) (cJ K) (ae 0) ak) (aa (ae 7) ah))))))) (yh (O:=[2]) (O2:=[]) (ar (aA (ae 2)))))))))
def wu:FnOk P w K mg base dc 1 f58 d58 fg (eY K mg ii):=by
 exact T.iG.F.okD (φ:=io) (O':=[]) eG (fun Y A L s H E J=>(ap (aW (i:=3) (by decide) eG.nd (DO rfl) (aM cy cx (aM fR fO (ae 2) ak) (aF (jX K) (j7 K) T.cS bW (aa (ae 1) ah)))) (ap (aW (i:=4) (by decide) eG.nd (DO rfl) bE) (ap (bt (aQ (eT K J.units) (pO K) (bj (cF K) (cJ K) (bj (cF K) (cJ K) (bj (cF K) (cJ K) (ae 0) ak) (ae 3)) ak) bE (aE _)) (ar (aW (i:=4) (by decide) eG.nd (DO rfl) ak)) aZ) (ap (aW (i:=5) (by decide) eG.nd (DO rfl) (bj (cF K) (cJ K) (bA (eX (aa gw (aa (aM B4 Ck ak ak) (aa (aM j0 rV bE ak) (aa (ae 4) (aa (ae 4) (aa (G4 Gg Hu (aM B4 Ck ak ak)) ah)))))))) (aM cy cx (aM fR fO (ae 2) ak) ak))) (ap (bt (aQ (eT K J.units) (pO K) (aM cy cx (ae 2) ak) ak (aE _)) (ar (aA (aM (zR K) (EY K) (ae 1) (dJ (aa nF ah))))) aZ) (ap (bt (aQ (eT K J.units) (pO K) (aM cy cx (ae 2) ak) ak (aE _)) (ar (aA (bA (fL (xl K) (IA K) T.tE oP (aa (ae 1) ah))))) aZ) (ap (bt (aQ (eT K J.units) (pO K) (aM cy cx (ae 2) ak) ak (aE _)) (ar (aA (im (LQ K) (JX K) (ae 1) kr (fH (G4 Gg Hu ak))))) aZ) (ar (aA (aM (zR K) (EY K) (aM (zR K) (EY K) (im (LQ K) (JX K) (ae 1) kr (fH (ae 3))) (dJ (aa (ae 5) ah))) (im (LQ K) (JX K) (ae 1) (fH (aM (zR K) (EY K) (ae 3) ak)) kr))))))))))))
def u4:FnOk P w K mg base dc 3 f59 d59 eN (eY K mg gE):=by
 exact T.gI.F.okD (φ:=gF) (O':=[]) fP (fun Y A L s H E J=>(ap (aW (i:=2) (by decide) fP.nd (DO rfl) (bA (zg K rfl T.uM (bA (fL (xS rfl) NA T.tE oP (aa (bG K T.aB T.aG.cl T.bo (ae 0)) ah)))))) (ap (iY (i:=3) (by decide) fP.nd (DO rfl) (fL fK Gr T.pC kh (aa (bG K T.aB T.aG.cl T.bo (ae 0)) ah))) (ap (aW (i:=4) (by decide) fP.nd (DO rfl) (bj (cF K) (cJ K) (ae 2) (aM cy cx (aM fR fO (ae 1) ak) (aF (jX K) (j7 K) T.cS bW (aa (ae 2) ah))))) (ap (bt (aQ (eT K J.units) (pO K) (aM cy cx (ae 1) ak) ak (aE _)) (ar (gG (i:=3) J.units (by decide) (D3 J.units (i:=3) (by decide) (ae 4)) (bj (cF K) (cJ K) (bA (eX (aa ak (aa (G4 Gg Hu ak) (aa (aM (eM K) (jV K) (aM B4 Ck ak ak) ak) (aa bE (aa nF ah))))))) (aM cy cx (aM fR fO (ae 1) ak) ak)))) (ar (gG (i:=3) J.units (by decide) (az T.iG (wu T) J (aa (bG K T.aB T.aG.cl T.aJ (ae 0)) (aa (D3 J.units (i:=3) (by decide) (ae 4)) (aa (aM fR fO (ae 1) ak) ah)))) (ae 4)))) (xb (i:=3) (O:=[3]) (O2:=[]) (ar (aA (bA (pV T.aB T.gJ T.gy (jx T) T.gz J (aa (bG K T.aB T.aG.cl T.aJ (ae 0)) (aa (ae 3) (aa (oh kg) ah)))))))))))))
def uy:FnOk P w K mg base dc 6 f60 d60 di (eY K mg fN):=by
 exact T.fX.F.okD (φ:=fM) (O':=[]) bM (fun Y A L s H E J=>(ap (aW (i:=2) (by decide) bM.nd (DO rfl) (bj (cF K) (cJ K) (bA (zg K rfl T.uM (bA (fL (xS rfl) NA T.tE oP (aa (bG K T.aB T.aG.cl T.bf (ae 0)) ah))))) (aM cy cx (aM fR fO (ae 1) ak) (aF rC FO T.cS bW (aa (bG K T.aB T.aG.cl T.bf (ae 0)) ah))))) (ap (aW (i:=3) (by decide) bM.nd (WL rfl) (Kg K (bA (dW (Wb:=⟨K,mg,E0⟩) (osc:=aq cL) (ON:=dm) (N:=["_law_one"]) (ix:=[none]) (by trivial) (c7 K (bj (cF K) (cJ K) (bG K T.aB T.aG.cl T.aJ (ae 0)) ak)) (fun _=>(bx (i:=0) (by decide) (by trivial:(["_law_one"]:abv).Nodup) rfl (DO rfl))) (fun _=>bQ) (fun _=>(bj (cF K) (cJ K) (ae 0) ak)) (bB (by decide)))) (ae 2))) (ap (oS (by decide) (oW (i:=4) bM.nd (DO rfl) (Wb:=⟨K,mg,E0⟩) (osc:=aq cL) (ON:=dm) (N:=["_law_number","_law_at","_law_table"]) (ix:=[none,some 3,some 0]) (by trivial) (AK (bG K T.aB T.aG.cl T.bo (ae 0))) (fun _=>(bx (i:=0) (by decide) (by trivial:(["_law_number","_law_at","_law_table"]:abv).Nodup) rfl (DO rfl))) (fun _=>bQ) (fun _=>(dJ (aa (bj (cF K) (cJ K) (rZ J.units (bG K T.aB T.aG.cl T.bo (ae 2)) (ae 0)) (ae 1)) (aa (ae 0) ah)))) (bB (by decide)))) (ap (aW (i:=5) (by decide) bM.nd (WL rfl) (bj (cF K) (cJ K) (ae 4) (aM cy cx (aM fR fO (ae 1) ak) (aF (jX K) (j7 K) T.cS bW (aa (ae 4) ah))))) (ap (oS (by decide) (oW (i:=6) bM.nd (DO rfl) (Wb:=⟨K,mg,E0⟩) (osc:=aq cL) (ON:=dm) (N:=["_law_entry","_law_last"]) (ix:=[none,some 5]) (by trivial) (c7 K (ae 4)) (fun _=>(bx (i:=0) (by decide) (by trivial:(["_law_entry","_law_last"]:abv).Nodup) rfl (DO rfl))) (fun _=>(Lo (aQ (C3 K J.units) (PZ K) (ae 0) (ae 1) (aE _)))) (fun _=>(ae 0)) (bB (by decide)))) (ap (iY (i:=7) (by decide) bM.nd (DO rfl) (fL fK Gr T.pC kh (aa (bG K T.aB T.aG.cl T.bf (ae 0)) ah))) (ap (bt (aQ (eT K J.units) (pO K) (aM cy cx (ae 1) ak) ak (aE _)) (ar (gG (i:=7) J.units (by decide) (az T.dZ (jf T) J (aa (ae 6) ah)) (ae 2))) (ar (bt (aQ (eT K J.units) (pO K) (aM cy cx (ae 1) ak) ak (aE _)) (ar (gG (i:=7) J.units (by decide) (az T.dZ (jf T) J (aa (aM (eM K) (jV K) (ae 4) (bA (eX (aa (dJ (aa (bj (cF K) (cJ K) (ae 5) ak) (aa (aM (eM K) (jV K) (aM B4 Ck ak ak) ak) ah))) ah)))) ah)) (ae 2))) (ar (bt (aQ (eT K J.units) (pO K) (aM cy cx (ae 1) ak) ak (aE _)) (ar (gG (i:=7) J.units (by decide) (az T.dZ (jf T) J (aa (aM (eM K) (jV K) (ae 6) (bA (eX (aa (dJ (aa bE (aa (bj (cF K) (cJ K) (ae 5) ak) ah))) ah)))) ah)) (ae 2))) (ar (bt (aQ (eT K J.units) (pO K) (aM cy cx (ae 1) ak) ak (aE _)) (ap (aW (i:=6) (by decide) bM.nd (DO rfl) (bA (eX (aa (dJ (aa bE (aa (dJ ah) ah))) (aa (dJ (aa bE (aa (E2 (Ep K) (QP K) T.jo ip (aa (aM (eM K) (jV K) (ae 4) (ae 4)) ah)) ah))) (aa nF (aa (dJ (aa bE (aa (bA (fL (xl K) (IA K) T.tE oP (aa (ae 4) ah))) ah))) ah))))))) (ar (gG (i:=7) J.units (by decide) (bj (cF K) (cJ K) (ae 6) (aM cy cx (aM fR fO (ae 1) ak) ak)) (ae 2)))) (ar (gG (i:=7) J.units (by decide) (D3 J.units (i:=7) (by decide) (ae 2)) bE))))))))) (xb (i:=7) (O:=[7]) (O2:=[]) (ar (aA (bA (pV T.aB T.gJ T.gy (jx T) T.gz J (aa (bG K T.aB T.aG.cl T.aJ (ae 0)) (aa (bG K T.aB T.aG.cl T.bo (ae 0)) (aa (ae 7) ah))))))))))))))))
def CZ:FnOk P w K mg base dc 7 f61 d61 np (eY K mg kH):=by
 exact T.rL.F.okD (φ:=rl) (O':=[]) x6 (fun Y A L s H E J=>(ap (bt (b4 (sV (aQ Je JN (aM cy cx (ae 1) ak) ak (aE _)) (rj (aQ Qo Qs (aF rC FO T.cS bW (aa (bG K T.aB T.aG.cl T.bo (ae 0)) ah)) ak (aE _))))) (ar (aA (az T.gI (u4 T) J (aa (ae 0) (aa (aM fR fO (ae 1) ak) ah))))) aZ) (ap (bt (b4 (sV (aQ Je JN (aM cy cx (ae 1) ak) ak (aE _)) (sV (aQ Qo Qs (aF rC FO T.cS bW (aa (bG K T.aB T.aG.cl T.bo (ae 0)) ah)) ak (aE _)) (rj (aQ Qo Qs (aF rC FO T.cS bW (aa (bG K T.aB T.aG.cl T.bf (ae 0)) ah)) ak (aE _)))))) (ar (aA (az T.fX (uy T) J (aa (ae 0) (aa (aM fR fO (ae 1) ak) ah))))) aZ) (ap (bt (aQ (eT K J.units) (pO K) (aM cy cx (aM fR fO (ae 1) ak) ak) ak (aE _)) (ap (aW (i:=2) (by decide) x6.nd (DO rfl) (bA (eX (aa (dJ (aa (bj (cF K) (cJ K) (bG K T.aB T.aG.cl T.aJ (ae 0)) ak) (aa (dJ ah) ah))) (aa (bA (fL (xl K) (IA K) T.tE oP (aa (bG K T.aB T.aG.cl T.aJ (ae 0)) ah))) (aa (bj (cF K) (cJ K) (bG K T.aB T.aG.cl T.aJ (ae 0)) ak) (aa nF (aa (dJ (aa (bj (cF K) (cJ K) (bG K T.aB T.aG.cl T.aJ (ae 0)) ak) (aa (bA (fL (xl K) (IA K) T.tE oP (aa (bj (cF K) (cJ K) (bG K T.aB T.aG.cl T.aJ (ae 0)) ak) ah))) ah))) ah)))))))) (ar (aA (bA (pV T.aB T.gJ T.gy (jx T) T.gz J (aa (bj (cF K) (cJ K) (ae 2) (aM cy cx (aM fR fO (ae 1) ak) ak)) (aa (bG K T.aB T.aG.cl T.bo (ae 0)) (aa (bG K T.aB T.aG.cl T.bf (ae 0)) ah)))))))) aZ) (ap (bt (aQ (eT K J.units) (pO K) (aM cy cx (aM fR fO (ae 1) ak) ak) ak (aE _)) (ar (aA (bA (pV T.aB T.gJ T.gy (jx T) T.gz J (aa (bG K T.aB T.aG.cl T.aJ (ae 0)) (aa (bG K T.aB T.aG.cl T.bo (ae 0)) (aa (bA (eX ah)) ah))))))) aZ) (ar (aA (bj (cF K) (cJ K) (bA (eX (aa nF (aa (dJ (aa (bG K T.aB T.aG.cl T.aJ (ae 0)) (aa (oh kg) (aa (oh kg) ah)))) (aa (bG K T.aB T.aG.cl T.aJ (ae 0)) (aa ak (aa (bA (pV T.aB T.gJ T.gy (jx T) T.gz J (aa (bG K T.aB T.aG.cl T.aJ (ae 0)) (aa (bA (eX ah)) (aa (oh kg) ah))))) ah))))))) (aM cy cx (aM fR fO (ae 1) ak) ak)))))))))
def On:FnOk P w K mg base dc 11 f62 d62 yg (eY K mg zc):=by
 exact T.KN.F.okD (φ:=FM) (O':=[]) kR (fun Y A L s H E J=>(ap (aW (i:=1) (by decide) kR.nd (WL rfl) (az T.nY (yn T) J (aa (aM cy cx (aM j0 rV (az T.g8 (n8 T) J (aa (ae 0) (aa ak ah))) ak) ak) (aa ak ah)))) (ap (aW (i:=2) (by decide) kR.nd (DO rfl) (im (LQ K) (JX K) (ae 0) (fH ak) kr)) (ap (aW (i:=3) (by decide) kR.nd (DO rfl) (aF (Uy rfl) Ua T.Tz Pr (aa ak (aa (aM fR fO (aF (jX K) (j7 K) T.cS bW (aa (ae 2) ah)) ak) ah)))) (ap (oS (by decide) (oW (i:=4) kR.nd (DO rfl) (Wb:=⟨K,mg,E0⟩) (osc:=aq xz) (ON:=IS) (N:=["_law_k","_law_names_here","_law_script"]) (ix:=[none,some 1,some 0]) (by trivial) (nr T.uL (aa ak ah)) (fun _=>(bx (i:=0) (by decide) (by trivial:(["_law_k","_law_names_here","_law_script"]:abv).Nodup) rfl (DO rfl))) (fun _=>bQ) (fun _=>(az T.kC (yU T) J (aa (bj (cF K) (cJ K) (ae 1) (ae 0)) (aa (aM cy cx (aM j0 rV (az T.g8 (n8 T) J (aa (ae 2) (aa (aM (eM K) (jV K) (ae 0) ak) ah))) ak) ak) ah)))) (bB (by decide)))) (ap (aW (i:=5) (by decide) kR.nd (DO rfl) (aM (eM K) (jV K) (az T.jO (uv T) J (aa (bj (cF K) (cJ K) (ae 4) ak) (aa (im (LQ K) (JX K) (ae 2) kr (fH (ae 3))) ah))) (az T.jO (uv T) J (aa (bj (cF K) (cJ K) (ae 4) ak) (aa (im (LQ K) (JX K) (ae 2) (fH (ae 3)) (fH (aM j0 rV ak (ae 3)))) ah))))) (ap (aW (i:=6) (by decide) kR.nd (DO rfl) (az T.jn (wU T) J (aa (oh kg) (aa (ae 5) ah)))) (ap (bt (b4 (gr (aQ qJ p5 (az T.eD (gY T) J (aa (oh kg) ah)) gw (aE _)) (fv (aQ qJ p5 (az T.c8 (fh T) J (aa (az T.jN (tT T) J (aa (bG K T.aB T.aG.cl T.aJ (rZ J.units (ae 6) (bj (cF K) (cJ K) (ae 1) ak))) ah)) ah)) gw (aE _))))) (ar (aA gw)) aZ) (ap (bt (b4 (gr (aQ qJ p5 (az T.eD (gY T) J (aa (ae 6) ah)) gw (aE _)) (fv (aQ qJ p5 (az T.c8 (fh T) J (aa (rZ J.units (ae 6) (bj (cF K) (cJ K) (ae 1) ak)) ah)) gw (aE _))))) (ar (aA gw)) aZ) (ap (aW (i:=7) (by decide) kR.nd (DO rfl) (aM cy cx (aM j0 rV (az T.g8 (n8 T) J (aa (ae 0) (aa ak ah))) ak) ak)) (ap (aW (i:=8) (by decide) kR.nd (DO rfl) (bj (cF K) (cJ K) (ae 1) (aM cy cx (aM fR fO (ae 7) ak) ak))) (ap (iY (i:=9) (by decide) kR.nd (DO rfl) (fL fK Gr T.pC kh (aa (ae 6) ah))) (KJ (aQ Je JN (aM cy cx (ae 7) ak) ak (aE _)) (ap (aW (i:=10) (by decide) kR.nd (DO rfl) (az T.rL (CZ T) J (aa (rZ J.units (ae 6) (ae 8)) (aa (aM fR fO (ae 7) ak) ah)))) (ap (gG (i:=9) J.units (by decide) (ae 10) (ae 8)) (xb (i:=9) (O:=[9]) (O2:=[]) (ar (bt (b4 (gr (aQ qJ p5 (az T.c8 (fh T) J (aa (ae 10) ah)) gw (aE _)) (fv (b4 (sV (bm K (aF (Rz T.aG) (Tf T.aB) T.aS aO (aa (ae 10) (aa (HX T.gJ T.aB) ah)))) (rj (aQ qJ p5 (az T.eD (gY T) J (aa (ae 9) ah)) gw (aE _)))))))) (ar (aA gw)) aZ))))) aZ (ap (bt (aQ (eT K J.units) (pO K) (aM cy cx (ae 7) ak) ak (aE _)) M5 aZ) (ar (aA (cR (c9 KU KQ (az T.eD (gY T) J (aa (ae 6) ah)) gw (aE _)) (eI (c9 KU KQ (az T.c8 (fh T) J (aa (rZ J.units (ae 6) (ae 8)) ah)) gw (aE _))))))) (ap (bt (aQ (eT K J.units) (pO K) (aM cy cx (ae 7) ak) ak (aE _)) (ap (gG (i:=9) J.units (by decide) (rZ J.units (ae 6) (bj (cF K) (cJ K) (ae 1) (aM JL Kn ak (aM cy cx (aM fR fO (ae 7) ak) ak)))) (ae 8)) (xb (i:=9) (O:=[9]) (O2:=[]) (ar (bt (b4 (gr (aQ qJ p5 (az T.eD (gY T) J (aa (ae 9) ah)) gw (aE _)) (fv (aQ qJ p5 (az T.c8 (fh T) J (aa (rZ J.units (ae 9) (ae 8)) ah)) gw (aE _))))) (ar (aA gw)) aZ)))) (K5 (O1:=[9]) (O2:=[]) aZ)) (ar (aA (cR (c9 KU KQ (az T.eD (gY T) J (aa (ae 6) ah)) gw (aE _)) (eI (c9 KU KQ (az T.c8 (fh T) J (aa (rZ J.units (ae 6) (ae 8)) ah)) gw (aE _))))))))))))))))))))
end
open TS (K4 iL)
def bg {τ:FT} {S T:FS} {U:Sd} (h:τ U=.ok true):fb τ S T U=S U:=by rw [Se,h,aK,QX,abn rfl]
def fY {τ:FT} {S T:FS} {U:Sd} (h:τ U=.ok false):fb τ S T U=T U:=by rw [Se,h,aK,QX,abo lT]
def aw {S T:FS} {U δ':Sd} (h:S U=.ok (.nx δ')):aD S T U=T δ':=by rw [MZ,h,aK,OU]
def bD {S T:FS} {U:Sd} {d:D} (h:S U=.ok (.rt d)):aD S T U=.ok (.rt d):=by rw [MZ,h];rfl
def ax {φ:FE} {U:Sd} {d:D} (h:φ U=.ok d):ba φ U=.ok (.rt d):=by rw [R4,h];rfl
def aL {k:Nat} {φ:FE} {U:Sd} {d:D} (h:φ U=.ok d):bp k φ U=.ok (.nx (U.set k (some d))):=by rw [SN,h];rfl
def iU {k:Nat} {φ:FE} {U:Sd} {d:D} (h:φ U=.ok d) (J:k < U.length:=by simp):ow k φ U=.ok (.nx (U.set k (some d))):=by rw [QL,h,aK,SK,abn J]
def ay {r:R Fl} {d:D} (h:r=.ok (.rt d)):fin r=.ok d:=by rw [h];rfl
def skip {τ:FT} {S T:FS} {U:Sd} (h:τ U=.ok false):aD (fb τ S bu) T U=T U:=aw ((fY h).trans rfl)
def ac {φ:FE} {α:FA} {U:Sd} {d:D} {ds:abC} (h:φ U=.ok d) (h2:α U=.ok ds):ab φ α U=.ok (d::ds):=by unfold ab;rw [h,aK,h2];rfl
def b9 {α:FA} {U:Sd} {ds:abC} (h:α U=.ok ds) (J:ds.length<=100:=by simp):dM α U=.ok (.tup ds):=by rw [R7,h,aK,Ph,abn (by lia)]
def cp {α:FA} {U:Sd} {ds:abC} (h:α U=.ok ds) (J:ds.length<=100:=by simp):fA α U=.ok (.lst ds):=by rw [Q0,h,aK,PY,abn (by lia)]
def ao {f:D->D->R D} {φ ψ:FE} {U:Sd} {a b c:D} (h1:φ U=.ok a) (h2:ψ U=.ok b) (h:f a b=.ok c):av f φ ψ U=.ok c:=by rw [T7,h1,aK,Uu,h2,aK,h]
def bb {φ:FE} {U:Sd} {b:Bool} (h:φ U=.ok (.bl b)):bV φ U=.ok b:=by rw [US,h];rfl
def ai {F:abC->R D} {α:FA} {U:Sd} {ds:abC} {r:R D} (h:α U=.ok ds) (hf:F ds=r):aj F α U=r:=by rw [Qh,h,aK,hf]
def oZ {i:Nat} {B:FS} {x:D} {r:abC} {U δ':Sd} (h:B (U.set i (some x))=.ok (.nx δ')):gt (.one i) B (x::r) U=gt (.one i) B r δ':=by
 rw [Cs];have e:j2 (.one i) x U=.ok (U.set i (some x)):=rfl;rw [e,aK,Kb,h,aK,FV]
def mM {ι:FA} {g:TgD} {B:FS} {U δ':Sd} {xs:abC} (h:ι U=.ok xs) (hf:gt g B xs U=.ok (.nx δ')):sP ι g B U=.ok (.nx δ'):=by rw [Nf,h,aK,Nq,hf]
def AG {τ:FT} {B:FS} {n:Nat} {U δ':Sd} (h:τ U=.ok true) (J:B U=.ok (.nx δ')):dq τ B (n+1) U=dq τ B n δ':=by
 rw [dq,h,aK,abn rfl,J];rfl
def Fa {τ:FT} {B:FS} {n:Nat} {U:Sd} (h:τ U=.ok false):dq τ B (n+1) U=.ok (.nx U):=by
 rw [dq,h,aK,abo lT]
def aV {φ:FE} {U:Sd} {d:D} {b:Bool} (h:φ U=.ok d) (J:N2 d=.ok b):dG φ U=.ok b:=by rw [RQ,h,aK,J]
def HV {τ:FT} {U:Sd} {b:Bool} (h:τ U=.ok b):fQ τ U=.ok (!b):=by rw [Tc,h];rfl
def ck {τ:FT} {U:Sd} (h:τ U=.ok true):fQ τ U=.ok false:=HV h
def pU {τ:FT} {U:Sd} (h:τ U=.ok false):fQ τ U=.ok true:=HV h
def Gz {τ υ:FT} {U:Sd} (h:τ U=.ok true):rR τ υ U=.ok true:=by rw [R0,h];rfl
def g9 {τ υ:FT} {U:Sd} {b:Bool} (h:τ U=.ok false) (h2:υ U=.ok b):rR τ υ U=.ok b:=by rw [R0,h,aK,SH,abo lT,h2]
def Ft {τ υ:FT} {U:Sd} {b:Bool} (h:τ U=.ok true) (h2:υ U=.ok b):tV τ υ U=.ok b:=by rw [Nr,h,aK,Pm,abn rfl,h2]
def FD {τ υ:FT} {U:Sd} (h:τ U=.ok false):tV τ υ U=.ok false:=by rw [Nr,h];rfl
def bZ {φ ψ:FE} {U:Sd} {d:D} (h:φ U=.ok (.bl true)) (h2:ψ U=.ok d):eU φ ψ U=.ok d:=by rw [v_and,h,aK,QF,abn rfl,h2]
def og {φ ψ:FE} {U:Sd} (h:φ U=.ok (.bl false)):eU φ ψ U=.ok (.bl false):=by rw [v_and,h];rfl
def M1 {φ ψ:FE} {U:Sd} (h:φ U=.ok (.bl true)):Pk φ ψ U=.ok (.bl true):=by rw [v_or,h];rfl
def J1 {φ ψ:FE} {U:Sd} {d:D} (h:φ U=.ok (.bl false)) (h2:ψ U=.ok d):Pk φ ψ U=.ok d:=by rw [v_or,h,aK,Ub,abo lT,h2]
def LA {φ:FE} {U:Sd} {b:Bool} (h:φ U=.ok (.bl b)):L3 φ U=.ok (.bl (!b)):=by rw [v_not,h];rfl
def m4 {i:Nat} {ε:FE} {U:Sd} {xs:abC} {d:D} (h:U[i]?=some (some (.lst xs))) (J:ε U=.ok d) (L:xs.length < 1000):df i ε U=.ok (.nx (U.set i (some (.lst (xs++[d]))))):=by
 unfold df;rw [h];dsimp only;rw [J,aK,abn (by lia)]
def Qa {i:Nat} {ε:FE} {U:Sd} {xs ys:abC} {d:D} (h:U[i]?=some (some (.lst xs))) (J:ε U=.ok d) (hd:E9 d=some ys) (L:xs.length+ys.length<=1000000):oI i ε U=.ok (.nx (U.set i (some (.lst (xs++ys))))):=by
 unfold oI;rw [h];dsimp only;rw [J,aK,hd];dsimp only;rw [abn L]
def uf {φ:FE} {l u:Sd->R (Option Int)} {U:Sd} {a d:D} {lo hi:Option Int} (h:φ U=.ok a) (h1:l U=.ok lo) (h2:u U=.ok hi) (hd:yf a lo hi=.ok d):Bg yf φ l u U=.ok d:=by
 rw [Sy,h,aK,NU,h1,aK,Nc,h2,aK,M0,hd]
def eV {φ:FE} {U:Sd} {i:Int} (h:φ U=.ok (.int i)):hZ φ U=.ok (some i):=by rw [Pd,h];rfl
def dt {φ:FE} {U:Sd} {d:D} {xs:abC} (h:φ U=.ok d) (J:ge d=.ok xs):gf φ U=.ok xs:=by rw [SU,h,aK,J]
def xE {φ:FE} {U:Sd} {n:Nat} (h:φ U=.ok (.int (n:Int))) (hn:n<=1000000):oX (ab φ am) U=.ok (i7 0 n):=by
 rw [O9,ac h rfl,aK,Q1 (by lia),V1]
def cG {ix:List (Option Nat)} {ι:FA} {t:TgD} {τ:FT} {ε:FE} {U:Sd} {xs:abC} {d:D} (h:ι U=.ok xs) (J:fw t τ ε (gj ix U) xs=.ok d):bK ix ι t τ ε U=.ok d:=by rw [Pb,h,aK,J]
def jU {J:Type} {ε:FE} {rest:Sd} (u f:J->D) (xs:List J) (h:∀ x∈xs,ε (some (u x)::rest)=.ok (f x)) (L:xs.length<=1000):fw (.one 0) de ε (none::rest) (xs.map u)=.ok (.lst (xs.map f)) :=
 Dx u f rfl (by lia) h
def L4 {J:Type} {τ:FT} {ε:FE} {rest:Sd} (u f:J->D) (p:J->Bool) (xs:List J) (h:∀ x∈xs,τ (some (u x)::rest)=.ok (p x)) (h2:∀ x∈xs,p x=true->ε (some (u x)::rest)=.ok (f x)) (hl:xs.length<=1000):fw (.one 0) τ ε (none::rest) (xs.map u)=.ok (.lst ((xs.filter p).map f)):=by
 refine wB rfl (by rw [iN];lia) ?_;clear hl;induction xs with
 | nil=>rfl
 | cons x r ih =>
  have h1:=h x (by simp);have h3:=h2 x (by simp);have Y:=ih (fun y L=>h y (mK _ L)) fun y L=>h2 y (mK _ L);show (τ (some (u x)::rest)).bind _=_;rw [h1,aK];cases e:p x with
  | true =>
   rw [abn rfl,List.filter_cons_of_pos e];show (ε (some (u x)::rest)).bind _=_;rw [h3 e,aK,Y];rfl
  | false=>rw [abo lT,List.filter_cons_of_neg (by rw [e];exact lT)];exact Y
def b5 {φ:FE} {U:Sd} {a d:D} (h:φ U=.ok a) (J:cw [a]=.ok d):aj cw (ab φ am) U=.ok d:=ai (ac h rfl) J
def Ov {J:Type} (f:J->D) (xs:List J) {i:Nat} {x:J} (h:xs[i]?=some x):cC (.lst (xs.map f)) (.int (i:Int))=.ok (f x):=wm (cj (by rw [V0,h];rfl))
def Ul {J:Type} (f:J->D) (xs:List J) {i:Nat} {x:J} (h:xs[i]?=some x):cC (.tup (xs.map f)) (.int (i:Int))=.ok (f x):=DS (cj (by rw [V0,h];rfl))
def qf {J:Type} (f:J->D) (xs:List J):cw [.lst (xs.map f)]=.ok (.int (xs.length:Int)):=by rw [BS,iN]
def Iv {J:Type} (f:J->D) (xs:List J):cw [.tup (xs.map f)]=.ok (.int (xs.length:Int)):=by rw [tQ,iN]
def mY {φ ψ:FE} {U:Sd} {i j:Int} (h1:φ U=.ok (.int i)) (h2:ψ U=.ok (.int j)) (h:-(2 ^ 64) < j/\j < 2 ^ 64:=by decide):av iJ φ ψ U=.ok (.int (i*j)):=ao h1 h2 (mul_r h)
def bv {φ ψ:FE} {U:Sd} {i j:Int} (h1:φ U=.ok (.int i)) (h2:ψ U=.ok (.int j)) (h:0 < j:=by decide):av bz φ ψ U=.ok (.int (i % j)):=ao h1 h2 (Q8 h)
def bL {φ ψ:FE} {U:Sd} {i j:Int} (h1:φ U=.ok (.int i)) (h2:ψ U=.ok (.int j)) (h:0 < j/\j < 1073741824:=by decide):av b8 φ ψ U=.ok (.int (i/j)):=ao h1 h2 (Td h)
def dQ {φ ψ:FE} {U:Sd} {i j:Int} (h1:φ U=.ok (.int i)) (h2:ψ U=.ok (.int j)):av cT φ ψ U=.ok (.int (i+j)):=ao h1 h2 rfl
def xK {φ ψ:FE} {U:Sd} {i j:Int} (h1:φ U=.ok (.int i)) (h2:ψ U=.ok (.int j)):av yK φ ψ U=.ok (.int (i - j)):=ao h1 h2 rfl
def ph {φ ψ:FE} {U:Sd} {i j:Int} (h1:φ U=.ok (.int i)) (h2:ψ U=.ok (.int j)):bV (av dR φ ψ) U=.ok (decide (i=j)):=bb (ao h1 h2 wf)
def BR {τ:FT} {φ ψ:FE} {U:Sd} {d:D} (h:τ U=.ok true) (h2:φ U=.ok d):Na τ φ ψ U=.ok d:=by rw [NX,h,aK,NO,abn rfl,h2]
def EI {τ:FT} {φ ψ:FE} {U:Sd} {d:D} (h:τ U=.ok false) (h2:ψ U=.ok d):Na τ φ ψ U=.ok d:=by rw [NX,h,aK,NO,abo lT,h2]
def Sz {φ ψ:FE} {U:Sd} {a b:Bool} (h:φ U=.ok (.bl a)) (h2:ψ U=.ok (.bl b)):Pk φ ψ U=.ok (.bl (a||b)):=by
 cases a with
 | true=>exact M1 h
 | false=>exact J1 h h2
def C4 {φ ψ:FE} {U:Sd} {a b:Bool} (h:φ U=.ok (.bl a)) (h2:ψ U=.ok (.bl b)):eU φ ψ U=.ok (.bl (a&&b)):=by
 cases a with
 | true=>exact bZ h h2
 | false=>exact og h
def cz {φ:FE} {U:Sd} {d:D} {C:String} {b:Bool} (h:φ U=.ok d) (hd:dH [d,.ty C]=.ok (.bl b)):aj dH (ab φ (ab (vC (.ty C)) am)) U=.ok (.bl b):=ai (ac h (ac rfl rfl)) hd
def S9 {T C:String} {b:Bool} (h:pG C=true/\mN T C=b):(if pG C=true then R.ok (D.bl (mN T C)) else .no)=.ok (.bl b):=by rw [abn h.1,h.2]
def cell (ns:List Int) (k:Int):Int:=ns.getD k.toNat 0
def wJ (ns:List Int) (k:Int) (L:0<=k):fe [.lst (ns.map D.int),.int k]=.ok (.int (cell ns k)):=by
 rw [BJ,l5];obtain ⟨n,rfl⟩:∃ n:Nat,k=(n:Int):=⟨k.toNat,by lia⟩;have J:bV (av Az (ag 1) (aj cw (ab (ag 0) am))) [some (.lst (ns.map D.int)),some (.int (n:Int))]=.ok (decide ((n:Int) < (ns.length:Int))):=bb (ao rfl (b5 rfl (qf _ _)) vq);unfold cell;rw [V1,Xm];by_cases h:n < ns.length
 .rw [abq (by lia)] at J;rw [BY h];exact ay (bD ((bg J).trans (ax (ao rfl rfl (Ov _ _ (BY h))))))
 .rw [abp (by lia)] at J;rw [ZN (by lia)];exact ay ((skip J).trans (ax rfl))
abbrev U2:Str:=V7 " !\"#$&'()*+,-./0123456789:;<=>?@ABCDEFGHIJKLMNOPQRSTUVWXYZ[\\]^_`"
abbrev RP:Str:=U2++V7 "abcdefghijklmnopqrstuvwxyz{|}~"
def tab:abu:=RP.cps.toList
def MS:tab.length=94:=by trivial
def lD (i:Int):Nat:=tab.getD (i % 94).toNat 0
def Kz (i:Int):tab[(i % 94).toNat]?=some (lD i):=by
 have J:(i % 94).toNat < tab.length:=by rw [MS];lia
 unfold lD;rw [Xm,BY J];rfl
def PD (i:Int):atI RP.cps.toList (i % 94)=some (lD i):=by
 have h:=cj (xs:=tab) (Kz i);rw [show (((i % 94).toNat:Nat):Int)=i % 94 by lia] at h;exact h
def LU (i:Int):lD i∈tab:=Xs (Kz i)
def Vl (n:Nat):D->Prop
 | .non=>True
 | .int _=>True
 | .str z=>z.length<=n/\∀ c∈z.cps.toList,c∈tab
 | _=>False
def Vl.mono {n m:Nat} {d:D} (h:Vl n d) (J:n<=m):Vl m d:=by
 cases d with
 | str z=>exact ⟨RW h.1 J,h.2⟩
 | non=>exact WX
 | int _=>exact WX
 | _=>exact h.elim
def Hn (a b:Int):Int:=if a=b then 0 else if a < b then -1 else 1
def GB (a b:abu):Int:=if a=b then 0 else if a < b then -1 else 1
def Qm:D->D->Int
 | .non,.non=>0
 | .non,_=>-1
 | _,.non=>1
 | .int a,.int b=>Hn a b
 | .int _,_=>-1
 | _,.int _=>1
 | .str a,.str b=>GB a.cps.toList b.cps.toList
 | _,_=>0
def kx:D->Int
 | .non=>0
 | .int _=>1
 | _=>2
def kw (i:Int):Str:=if i=0 then "none" else if i=1 then "number" else "text"
theorem kind {d:D} (h:Vl 100 d):cK [d]=.ok (.str (kw (kx d))):=by
 rw [GF,qV];cases d with
 | non=>exact ay (bD ((bg (bb (ao rfl rfl rfl))).trans (ax rfl)))
 | int i=>exact ay ((skip (bb (ao rfl rfl rfl))).trans (ax (EI (aV (cz rfl (Rt.trans (S9 (by trivial)))) rfl) rfl)))
 | str z=>exact ay ((skip (bb (ao rfl rfl rfl))).trans (ax (BR (aV (cz rfl (RF.trans (S9 (by trivial)))) rfl) rfl)))
 | _=>exact h.elim
def zG (d:D):kx d=0\/kx d=1\/kx d=2:=by
 unfold kx;split
 .exact .inl rfl
 .exact .inr (.inl rfl)
 .exact .inr (.inr rfl)
def Mr (i:Int) (h:i=0\/i=1\/i=2):Js oV [.str (kw i)]=.ok (.int i):=by
 rcases h with rfl|rfl|rfl <;> with_unfolding_all rfl
def QY {i j:Int} (h:i=0\/i=1\/i=2) (g:j=0\/j=1\/j=2):decide (kw i=kw j)=decide (i=j):=by
 rcases h with rfl|rfl|rfl <;> rcases g with rfl|rfl|rfl <;> decide +kernel
def Ll {a b:Str} (h:a.cps.toList=b.cps.toList):a=b:=by
 cases a;cases b;congr 1;exact X4.mp h
def zX {φ:FE} {U:Sd} {k d r:D} (h:φ U=.ok d) (J:Js k [d]=.ok r):Bm k (ab φ am) U=.ok r:=by rw [QS,ac h rfl,aK,J]
def JQ {d e:D} (hd:Vl 100 d) (J:Vl 100 e) (h:¬ kx d=kx e):Qm d e=if kx d < kx e then -1 else 1:=by
 cases d with
 | non=>cases e with
  | non=>exact absurd rfl h
  | int j=>rfl
  | str z=>rfl
  | _=>exact J.elim
 | int i=>cases e with
  | non=>rfl
  | int j=>exact absurd rfl h
  | str z=>rfl
  | _=>exact J.elim
 | str x=>cases e with
  | non=>rfl
  | int j=>rfl
  | str z=>exact absurd rfl h
  | _=>exact J.elim
 | _=>exact hd.elim
def Mv (d e:D) (hd:Vl 100 d) (L:Vl 100 e):qZ [d,e]=.ok (.int (Qm d e)):=by
 rw [Gj,rf];have Y:bV (av yI (aj cK (ab (ag 0) am)) (aj cK (ab (ag 1) am))) [some d,some e]=.ok (!decide (kx d=kx e)):=bb (ao (ai (ac rfl rfl) (kind hd)) (ai (ac rfl rfl) (kind L)) (zA.trans (by rw [QY (zG d) (zG e)])));by_cases h:kx d=kx e
 .rw [abq h] at Y;refine ay ((skip Y).trans ?_);cases d with
  | non=>cases e with
   | non=>exact bD ((bg (bb (ao rfl rfl SX))).trans (ax rfl))
   | int j=>cases h
   | str z=>cases h
   | _=>exact L.elim
  | int i=>cases e with
   | non=>cases h
   | int j =>
    show _=R.ok (Fl.rt (.int (Hn i j)));unfold Hn;by_cases q:i=j
    .rw [abn q];exact bD ((bg (bb (ao rfl rfl (wf.trans (by rw [abq q]))))).trans (ax rfl))
    .rw [abo q];refine (skip (bb (ao rfl rfl (wf.trans (by rw [abp q]))))).trans (ax ?_);by_cases J:i < j
     .rw [abn J];exact BR (bb (ao rfl rfl (vq.trans (by rw [abq J])))) rfl
     .rw [abo J];exact EI (bb (ao rfl rfl (vq.trans (by rw [abp J])))) rfl
   | str z=>cases h
   | _=>exact L.elim
  | str x=>cases e with
   | non=>cases h
   | int j=>cases h
   | str z =>
    show _=R.ok (Fl.rt (.int (GB x.cps.toList z.cps.toList)));unfold GB;by_cases q:x=z
    .rw [abn (by rw [q])];exact bD ((bg (bb (ao rfl rfl (mj.trans (by rw [abq q]))))).trans (ax rfl))
    .rw [abo fun w=>q (Ll w)];refine (skip (bb (ao rfl rfl (mj.trans (by rw [abp q]))))).trans (ax ?_);by_cases J:x.cps.toList < z.cps.toList
     .rw [abn J];exact BR (bb (ao rfl rfl (Ss.trans (by rw [abq J])))) rfl
     .rw [abo J];exact EI (bb (ao rfl rfl (Ss.trans (by rw [abp J])))) rfl
   | _=>exact L.elim
  | _=>exact hd.elim
 .rw [abp h] at Y;refine ay (bD ((bg Y).trans (ax ?_)));rw [JQ hd L h];have hl:bV (av Az (Bm oV (ab (aj cK (ab (ag 0) am)) am)) (Bm oV (ab (aj cK (ab (ag 1) am)) am))) [some d,some e]=.ok (decide (kx d < kx e)):=bb (ao (zX (ai (ac rfl rfl) (kind hd)) (Mr _ (zG d))) (zX (ai (ac rfl rfl) (kind L)) (Mr _ (zG e))) vq);by_cases q:kx d < kx e
  .rw [abq q] at hl;rw [abn q];exact BR hl rfl
  .rw [abp q] at hl;rw [abo q];exact EI hl rfl
def CC {U:Sd}:av pY ul (vC (.int 18)) U=.ok (.int 1000000000000000000):=ao rfl rfl ((FU (by decide)).trans rfl)
def U1 {U:Sd}:av pY ul UO U=.ok (.int 1000000000):=ao rfl rfl ((FU (by decide)).trans rfl)
def ahead (d:D) (n:Int) (e:D) (m:Int):Bool:=decide (Qm d e < 0)||(decide (Qm d e=0)&&decide (n < m))
def Cw (d e:D) (n m:Int) (hd:Vl 40 d) (J:Vl 40 e):c6 [.tup [d,.int n],.tup [e,.int m]]=.ok (.bl (ahead d n e m)):=by
 rw [yQ,jg];exact ay ((aw (aL (ai (ac (ao rfl rfl cf) (ac (ao rfl rfl cf) rfl)) (Mv d e (hd.mono (by decide)) (J.mono (by decide)))))).trans (ax (Sz (ao rfl rfl vq) (C4 (ao rfl rfl wf) (ao (ao rfl rfl ca) (ao rfl rfl ca) vq)))))
def sok (x:Str) (h:∀ c∈x.cps.toList,c∈tab):PyData.strOk x=true:=by
 have J:∀ c∈tab,32<=c/\c<=126:=by trivial
 show x.cps.all (· < 0x110000)=true;rw [<- Array.all_toList,WD];intro c L
 have:=J c (h c L)
 simp;lia
def gc (k:K4):D:=if k.1=0 then .non else if k.1=1 then .int k.2.1 else .str ⟨k.2.2.1.toArray⟩
def un (k:K4):aI k=.tup [gc k,.int k.2.2.2]:=by
 unfold aI gc;split
 .rfl
 .split <;> rfl
structure Ok (k:K4):Prop where
 v:Vl 40 (gc k)
 e:lh (aI k)=some k
def Ok.of {v:D} {n:Int} {k:K4} (h:lh (.tup [v,.int n])=some k) (L:Vl 40 v):Ok k:=by
 have e:=pS h;have J:=e;rw [un] at J
 have:gc k=v:=by injection J with e3;injection e3
 exact ⟨this ▸ L,e ▸ h⟩
def Ok.inj {k l:K4} (h:Ok k) (g:Ok l) (e:aI k=aI l):k=l:=VS (h.e.symm.trans ((abt lh e).trans g.e))
def MW:D->PyData
 | .int i=>.int i
 | .str z=>.str z
 | _=>.none
def PX {v:D} (h:Vl 40 v):qh v=some (MW v):=by
 cases v with
 | non=>rfl
 | int i=>rfl
 | str z=>rfl
 | _=>exact h.elim
def RT {v:D} (h:Vl 40 v):(MW v).canLay0=true/\(MW v).depth=0:=by
 cases v with
 | non=>exact ⟨rfl,rfl⟩
 | int i=>exact ⟨rfl,rfl⟩
 | str z=>exact ⟨sok z h.2,rfl⟩
 | _=>exact h.elim
def eqV:D->D->Bool
 | .non,.non=>true
 | .int i,.int j=>decide (i=j)
 | .str x,.str z=>decide (x=z)
 | _,_=>false
def Q2 {v w:D} (h:Vl 40 v) (g:Vl 40 w):Zl (MW v) (MW w)=eqV v w:=by
 cases v with
 | non=>cases w with
  | non=>rfl
  | int i=>rfl
  | str z=>rfl
  | _=>exact g.elim
 | int i=>cases w with
  | non=>rfl
  | int j=>show (i==j)=decide (i=j);first|rfl|(rw [Xw];simp)
  | str z=>rfl
  | _=>exact g.elim
 | str x=>cases w with
  | non=>rfl
  | int i=>rfl
  | str z=>show (x==z)=decide (x=z);first|rfl|(rw [Xw];simp)
  | _=>exact g.elim
 | _=>exact h.elim
def Jo {v:D} (h:Vl 40 v):eqV v v=true:=by
 cases v with
 | non=>rfl
 | int i=>exact abq rfl
 | str z=>exact abq rfl
 | _=>exact h.elim
def Pn {v w:D} (J:Vl 40 v) (hw:Vl 40 w) (h:v≠w):eqV v w=false:=by
 cases v with
 | non=>cases w with
  | non=>exact absurd rfl h
  | int i=>rfl
  | str z=>rfl
  | _=>exact hw.elim
 | int i=>cases w with
  | non=>rfl
  | int j=>exact abp fun z=>h (abt D.int z)
  | str z=>rfl
  | _=>exact hw.elim
 | str x=>cases w with
  | non=>rfl
  | int i=>rfl
  | str z=>exact abp fun q=>h (abt D.str q)
  | _=>exact hw.elim
 | _=>exact J.elim
def CW (k:K4):PyData:=.tuple [MW (gc k),.int k.2.2.2]
def Ok.py {k:K4} (h:Ok k):qh (aI k)=some (CW k):=by
 rw [un,qh,pE,PX h.v];rfl
def Ok.lay {k:K4} (h:Ok k):(CW k).canLay0=true/\(CW k).depth=1:=by
 obtain ⟨h1,h2⟩:=RT h.v;unfold CW;rw [aac,Zp,h1,aaT,ZQ,h2];exact ⟨rfl,rfl⟩
def Ok.shaped {k:K4} (h:Ok k):Xo (CW k)=true:=by
 unfold Xo;rw [h.lay.1,abq (by rw [h.lay.2];lia)];rfl
def Ok.eqv {k l:K4} (h:Ok k) (g:Ok l):Zl (CW k) (CW l)=decide (k=l):=by
 show (Zl (MW (gc k)) (MW (gc l))&&((k.2.2.2==l.2.2.2)&&true))=_;rw [Q2 h.v g.v];by_cases e:k=l
 .subst e;rw [Jo h.v];simp
 .rw [abp e];by_cases q:gc k=gc l
  .by_cases q2:k.2.2.2=l.2.2.2
   .exact absurd (h.inj g (by rw [un,un,q,q2])) e
   .simp [q2]
  .rw [Pn h.v g.v q];rfl
def Ok.deep {k l:K4} (h:Ok k) (g:Ok l):wz (aI k) (aI l)=some (decide (k=l)):=by
 have e:wz (aI k) (aI l)=oz (aI k) (aI l):=by rw [un,un];rfl
 rw [e,oz,h.py,g.py];dsimp only;rw [abn ⟨h.shaped,g.shaped⟩,h.eqv g]
def Ok.ne {k l:K4} (h:Ok k) (g:Ok l):yI (aI k) (aI l)=.ok (.bl (!decide (k=l))):=by
 unfold yI;rw [h.deep g];rfl
def UJ:∀ {J:List K4},(∀ k∈J,Ok k)->pE (J.map aI)=some (J.map CW)
 | [],_=>rfl
 | k::r,h=>by
  rw [By,pE,(h k (by simp)).py,UJ fun x L=>h x (mK _ L)];rfl
def DE:∀ {J:List K4},(∀ k∈J,Ok k)->Zp (J.map CW)=true/\ZQ (J.map CW)<=1
 | [],_=>⟨rfl,VY _⟩
 | k::r,h=>by
  have L:=(h k (by simp)).lay;obtain ⟨h1,h2⟩:=DE fun x Y=>h x (mK (a:=x) _ Y);rw [By,Zp,ZQ,L.1,h1,L.2];exact ⟨rfl,Nat.max_le.mpr ⟨oR _,h2⟩⟩
def HJ {J:List K4} (h:∀ k∈J,Ok k):wz (.lst (J.map aI)) (.lst [])=some (decide (J=[])):=by
 have e:wz (.lst (J.map aI)) (.lst [])=oz (.lst (J.map aI)) (.lst []):=rfl;have e1:qh (.lst (J.map aI))=some (.list (J.map CW)):=by rw [qh,UJ h];rfl
 have L:qh (.lst [])=some (.list []):=rfl;obtain ⟨h1,h2⟩:=DE h;have Y:Xo (.list (J.map CW))=true:=by
  unfold Xo;rw [aac,h1,aaT,abq (by lia)];rfl
 rw [e,oz,e1,L];dsimp only;rw [abn ⟨Y,by decide⟩];cases J with
 | nil=>rfl
 | cons k r=>rfl
def eq_nil {J:List K4} (h:∀ k∈J,Ok k):dR (.lst (J.map aI)) (.lst [])=.ok (.bl (decide (J=[]))):=by
 unfold dR;rw [HJ h];rfl
def u0 (k:K4):cC (aI k) (.int 0)=.ok (gc k):=by rw [un];exact cf
def u1 (k:K4):cC (aI k) (.int 1)=.ok (.int k.2.2.2):=by rw [un];exact ca
def wy {k:K4} (h:Ok k) (e:gc k=.non):k=(0,0,[],k.2.2.2):=by
 have:=h.e;rw [un,e] at this;exact (VS this).symm
def wK {k:K4} (h:Ok k) {i:Int} (e:gc k=.int i):k=(1,i,[],k.2.2.2):=by
 have:=h.e;rw [un,e] at this;exact (VS this).symm
def wI {k:K4} (h:Ok k) {z:Str} (e:gc k=.str z):k=(2,0,z.cps.toList,k.2.2.2):=by
 have:=h.e;rw [un,e] at this;exact (VS this).symm
def lt0 (n m:Int):ahead .non n .non m=decide (iL (0,0,[],n) (0,0,[],m)):=by simp [ahead,Qm,iL]
def lt1 (i j n m:Int):ahead (.int i) n (.int j) m=decide (iL (1,i,[],n) (1,j,[],m)):=by
 show (decide (Hn i j < 0)||(decide (Hn i j=0)&&decide (n < m)))=_;unfold Hn;by_cases h:i=j
 .simp [h,iL]
 .by_cases h2:i < j
  .simp [h,h2,iL]
  .simp [h,h2,iL]
def lt2 (x z:Str) (n m:Int):ahead (.str x) n (.str z) m=decide (iL (2,0,x.cps.toList,n) (2,0,z.cps.toList,m)):=by
 show (decide (GB x.cps.toList z.cps.toList < 0)||(decide (GB x.cps.toList z.cps.toList=0)&&decide (n < m)))=_;unfold GB;generalize x.cps.toList=a;generalize z.cps.toList=b;by_cases h:a=b
 .subst h
  have:=TS.AW.irr a
  simp [iL,this]
 .by_cases h2:a < b
  .simp [h,h2,iL]
  .simp [h,h2,iL]
def Ok.kx {k:K4} (h:Ok k):kx (gc k)=k.1:=by
 have J:=h.v;cases q:gc k with
 | non=>rw [wy h q];rfl
 | int i=>rw [wK h q];rfl
 | str z=>rw [wI h q];rfl
 | _=>rw [q] at J;exact J.elim
theorem Ok.ahead {k l:K4} (h:Ok k) (g:Ok l):c6 [aI k,aI l]=.ok (.bl (decide (iL k l))):=by
 have L:=h.v;have J:=g.v;rw [un,un,Cw _ _ _ _ L J];congr 2;by_cases e:k.1=l.1
 .rw [<- h.kx,<- g.kx] at e;cases q:gc k with
  | non=>cases p:gc l with
   | non=>rw [wy h q,wy g p];exact lt0 _ _
   | int j=>rw [q,p] at e;cases e
   | str z=>rw [q,p] at e;cases e
   | _=>rw [p] at J;exact J.elim
  | int i=>cases p:gc l with
   | non=>rw [q,p] at e;cases e
   | int j=>rw [wK h q,wK g p];exact lt1 _ _ _ _
   | str z=>rw [q,p] at e;cases e
   | _=>rw [p] at J;exact J.elim
  | str x=>cases p:gc l with
   | non=>rw [q,p] at e;cases e
   | int j=>rw [q,p] at e;cases e
   | str z=>rw [wI h q,wI g p];exact lt2 _ _ _ _
   | _=>rw [p] at J;exact J.elim
  | _=>rw [q] at L;exact L.elim
 .obtain ⟨a,k⟩:=k;obtain ⟨b,l⟩:=l;have c:=JQ (L.mono (by decide)) (J.mono (by decide)) (by rw [h.kx,g.kx];exact e);rw [h.kx,g.kx] at c;have e:a≠b:=e;have c:Qm (gc (a,k)) (gc (b,l))=if a < b then -1 else 1:=c;have Y:decide (iL (a,k) (b,l))=decide (a < b):=decide_eq_decide.mpr (TS.l1 e);rw [Y];unfold T33.ahead;rw [c];by_cases q:a < b
  .simp [q]
  .simp [q]
def HQ (n:Nat):i7 0 n=(W1 n).map fun (k:Nat)=>D.int (k:Int):=by
 unfold i7;refine WI fun k _=>?_;rw [Int.zero_add]
structure Rows (rs:List K4):Prop where
 s:rs.Pairwise iL
 o:∀ k∈rs,Ok k
def xR {xs:abC} {i:Int} (h:0<=i):mO xs none (some i)=xs.take i.toNat:=by
 obtain ⟨n,rfl⟩:∃ n:Nat,i=(n:Int):=⟨i.toNat,by lia⟩;unfold mO;rw [HT.pR,HT.jd,V1,aaa,Nat.sub_zero,List.take_eq_take_iff];lia
def ut {xs:abC} {i:Int} (h:0<=i):mO xs (some i) none=xs.drop i.toNat:=by
 obtain ⟨n,rfl⟩:∃ n:Nat,i=(n:Int):=⟨i.toNat,by lia⟩;unfold mO;rw [HT.pR,HT.jd,V1];by_cases q:n<=xs.length
 .rw [XJ q,W0 (by rw [X2];lia)]
 .rw [Nat.min_eq_right (by lia),Yq (oR _),Yq (by lia),List.take_nil]
def map_two {J:Type} {ε:FE} {rest:Sd} (u v f:J->D) (xs:List J) (h:∀ x∈xs,ε (some (u x)::some (v x)::rest)=.ok (f x)) (hl:xs.length<=1000):fw (.tup [0,1]) de ε (none::none::rest) (xs.map fun x=>D.tup [u x,v x])=.ok (.lst (xs.map f)):=by
 refine wB rfl (by rw [iN];omega) ?_;clear hl;induction xs with
 | nil=>rfl
 | cons x r L =>
  have h1:=h x (by simp);have Y:=L (fun y hy=>h y (mK _ hy));show (ε (some (u x)::some (v x)::rest)).bind _=_;rw [h1,aK,Y];rfl
def M4 {J:Type} (p:J->Bool) (xs:List J):nh [.lst (xs.map fun x=>D.bl (p x))]=.ok (.bl (xs.all p)):=by
 rw [MX (A5 p xs),List.all_map];rfl
def BM {J:Type} {ix:List (Option Nat)} {ι:FA} {ε:FE} {U rest:Sd} (u:J->D) (p:J->Bool) {xs:List J} (L:ι U=.ok (xs.map u)) (h:∀ x∈xs,ε (some (u x)::rest)=.ok (.bl (p x))) (hl:xs.length<=1000) (Y:gj ix U=none::rest:=by rfl):aj nh (ab (bK ix ι (.one 0) de ε) am) U=.ok (.bl (xs.all p)) :=
 ai (ac (cG L (by rw [Y];exact jU u (fun x=>D.bl (p x)) xs h hl)) rfl) (M4 p xs)
def Op {J:Type} {ix:List (Option Nat)} {ι:FA} {ε:FE} {U rest:Sd} (u v:J->D) (p:J->Bool) {xs:List J} (L:ι U=.ok (xs.map fun x=>D.tup [u x,v x])) (h:∀ x∈xs,ε (some (u x)::some (v x)::rest)=.ok (.bl (p x))) (hl:xs.length<=1000) (Y:gj ix U=none::none::rest:=by rfl):aj nh (ab (bK ix ι (.tup [0,1]) de ε) am) U=.ok (.bl (xs.all p)) :=
 ai (ac (cG L (by rw [Y];exact map_two u v (fun x=>D.bl (p x)) xs h hl)) rfl) (M4 p xs)
def gb {r:R D} {a b:Bool} (h:r=.ok (.bl a)) (e:a=b):r=.ok (.bl b):=by rw [h,e]
def Ek {g:D->Option Int->Option Int->R D} {φ:FE} {l u:Sd->R (Option Int)} {U:Sd} {a d:D} {lo hi:Option Int} (h:φ U=.ok a) (h1:l U=.ok lo) (h2:u U=.ok hi) (hd:g a lo hi=.ok d):Bg g φ l u U=.ok d:=by
 rw [Sy,h,aK,NU,h1,aK,Nc,h2,aK,M0,hd]
def EC {xs:abC} {i j:Int} (J:0<=i) (h1:i<=j) (h2:j<=(xs.length:Int)):mO xs (some i) (some j)=(xs.drop i.toNat).take (j.toNat - i.toNat):=by
 obtain ⟨n,rfl⟩:∃ n:Nat,i=(n:Int):=⟨i.toNat,by lia⟩;obtain ⟨m,rfl⟩:∃ n:Nat,j=(n:Int):=⟨j.toNat,by lia⟩;unfold mO;rw [HT.jd,HT.jd,V1,V1,XJ (by lia),XJ (by lia)]
structure Rw (c:D) (xs:abC):Prop where
 l:cw [c]=.ok (.int (xs.length:Int))
 s:∀ lo hi,∃ y,AH c lo hi=.ok y/\uP [y]=.ok (.tup (mO xs lo hi))
def Uh (xs:abC):Rw (.lst xs) xs:=⟨BS,fun lo hi=>⟨_,JJ,FQ⟩⟩
def P4 {w c:D} {xs zs:abC} {m p:Int} {o5 o6:Option D} (J:Rw c xs) (hx:xs.length<=1000) (hz:zs.length < 100) (hm:0 < m/\m < 100) :
  cB [some w,some c,some (.int m),some (.lst zs),some (.int p),o5,o6]=.ok (.nx [some w,some c,some (.int m),some (.lst (zs++[.tup [w,.tup (mO xs (some (p*(xs.length:Int)/m)) (some ((p+1)*(xs.length:Int)/m)))]])),some (.int p),some (.int (p*(xs.length:Int)/m)),some (.int ((p+1)*(xs.length:Int)/m))]):=by
 obtain ⟨y,Y,L⟩:=J.s (some (p*(xs.length:Int)/m)) (some ((p+1)*(xs.length:Int)/m));exact (aw (aL (bL (mY rfl (b5 rfl J.l) (by lia)) rfl (by lia)))).trans ((aw (aL (bL (mY (dQ rfl rfl) (b5 rfl J.l) (by lia)) rfl (by lia)))).trans (m4 (xs:=zs) rfl (b9 (ac rfl (ac (ai (ac (Ek rfl (eV rfl) (eV rfl) Y) rfl) L) rfl))) (by lia)))
def ov:D->D
 | .non=>.int 0
 | d=>d
def Hs {d:D} (h:Vl 40 d):mt [d]=.ok (.tup [.int (kx d),ov d]):=by
 rw [Cq,lZ];cases d with
 | non=>exact ay (bD ((bg (bb (ao rfl rfl rfl))).trans (ax (b9 (ac rfl (ac rfl rfl))))))
 | int i=>exact ay ((skip (bb (ao rfl rfl rfl))).trans (ax (b9 (ac (zX (ai (ac rfl rfl) (kind (d:=.int i) (h.mono (by decide)))) (Mr _ (zG _))) (ac rfl rfl)))))
 | str z=>exact ay ((skip (bb (ao rfl rfl rfl))).trans (ax (b9 (ac (zX (ai (ac rfl rfl) (kind (d:=.str z) (h.mono (by decide)))) (Mr _ (zG _))) (ac rfl rfl)))))
 | _=>exact h.elim
def Ok.keyN {k:K4} (h:Ok k):keyN (cY [aI k])=some k:=by
 have e:cY [aI k]=.ok (.tup [.tup [.int (T33.kx (gc k)),ov (gc k)],.int k.2.2.2]):=by
  rw [Cb,mD];exact ay (ax (b9 (ac (ai (ac (ao rfl rfl (u0 k)) rfl) (Hs h.v)) (ac (ao rfl rfl (u1 k)) rfl))))
 rw [e];have J:=h.v;cases q:gc k with
 | non=>exact abt some (wy h q).symm
 | int i=>exact abt some (wK h q).symm
 | str z=>exact abt some (wI h q).symm
 | _=>rw [q] at J;exact J.elim
def Nx:∀ {l:List K4},(∀ k∈l,Ok k)->ng L2.keyN cY (l.map aI)=some l
 | [],_=>rfl
 | k::r,h=>by
  have J:=h k (by simp);rw [By,ng,J.e,Nx fun x L=>h x (mK _ L)];dsimp only;rw [abn J.keyN]
def Vb {n m p:Nat} (J:0 < m) (h8:n<=8*m):p*n/m<=(p+1)*n/m/\(p+1)*n/m<=p*n/m+8/\(4*m<=n->p*n/m+4<=(p+1)*n/m):=by
 have e:(p+1)*n=p*n+n:=Nat.succ_mul p n;rw [e];have L:(p*n+8*m)/m=p*n/m+8:=ZR _ _ J;have Y:(p*n+4*m)/m=p*n/m+4:=ZR _ _ J;refine ⟨YG (by lia),?_,fun h=>?_⟩
 .rw [<- L];exact YG (by lia)
 .rw [<- Y];exact YG (by lia)
def Nn {β:Type} (f:β->D) (w:D) {xs:List β} {m:Nat} (hl:xs.length<=1000) (hm:0 < m) (hm9:m < 100) (h8:xs.length<=8*m):∀ (k p:Nat) (J:List (List β)) (o4 o5 o6:Option D),p+k=m->J.length=p->J.flatten=xs.take (p*xs.length/m)->(∀ r∈J,r.length<=8/\(4*m<=xs.length->4<=r.length)) ->
  ∃ (L:List (List β)) (o4' Y o6':Option D),gt (.one 4) cB ((aa9 p k).map fun (j:Nat)=>D.int (j:Int)) [some w,some (.lst (xs.map f)),some (.int (m:Int)),some (.lst (J.map fun r=>D.tup [w,.tup (r.map f)])),o4,o5,o6]=.ok (.nx [some w,some (.lst (xs.map f)),some (.int (m:Int)),some (.lst (L.map fun r=>D.tup [w,.tup (r.map f)])),o4',Y,o6']) /\
   L.length=m/\L.flatten=xs/\∀ r∈L,r.length<=8/\(4*m<=xs.length->4<=r.length)
 | 0,p,J,o4,o5,o6,hk,hr,hf,hb=>by
  obtain rfl:p=m:=by lia
  refine ⟨J,o4,o5,o6,rfl,hr,?_,hb⟩;rw [hf,Nat.mul_div_cancel_left _ hm,X3]
 | k+1,p,J,o4,o5,o6,hk,hr,hf,hb=>by
  obtain ⟨c1,c2,c3⟩:=Vb (p:=p) hm h8;have cm:(p+1)*xs.length/m<=xs.length:=by
   have:(p+1)*xs.length<=m*xs.length:=Nat.mul_le_mul_right _ (by lia)
   exact Nat.div_le_of_le_mul this
  have el:(xs.map f).length=xs.length:=iN _;have t:=P4 (w:=w) (zs:=J.map fun r=>D.tup [w,.tup (r.map f)]) (m:=(m:Int)) (p:=(p:Int)) (o5:=o5) (o6:=o6) (Uh (xs.map f)) (by lia) (by rw [iN];lia) (by lia);have e1:((p:Int)*((xs.map f).length:Int)/(m:Int))=((p*xs.length/m:Nat):Int):=by rw [el,Int.natCast_ediv,Int.natCast_mul]
  have e2:(((p:Int)+1)*((xs.map f).length:Int)/(m:Int))=(((p+1)*xs.length/m:Nat):Int):=by rw [el,Int.natCast_ediv,Int.natCast_mul];rfl
  rw [e1,e2] at t;have ec:mO (xs.map f) (some ((p*xs.length/m:Nat):Int)) (some (((p+1)*xs.length/m:Nat):Int))=(((xs.drop (p*xs.length/m)).take ((p+1)*xs.length/m - p*xs.length/m))).map f:=by
   rw [EC (Int.natCast_nonneg _) (Int.ofNat_le.mpr c1) (by rw [el];exact Int.ofNat_le.mpr cm),V1,V1,Zx,YJ]
  rw [ec] at t;have ea:(J.map fun r=>D.tup [w,.tup (r.map f)])++[.tup [w,.tup (((xs.drop (p*xs.length/m)).take ((p+1)*xs.length/m - p*xs.length/m)).map f)]]=(J++[(xs.drop (p*xs.length/m)).take ((p+1)*xs.length/m - p*xs.length/m)]).map fun r=>D.tup [w,.tup (r.map f)]:=by
   rw [Wx];rfl
  rw [ea] at t;have hln:((xs.drop (p*xs.length/m)).take ((p+1)*xs.length/m - p*xs.length/m)).length=(p+1)*xs.length/m - p*xs.length/m:=by
   rw [Xc,X2];lia
  obtain ⟨L,o4',Y,o6',g1,g2,g3,g4⟩:=Nn f w hl hm hm9 h8 k (p+1) (J++[(xs.drop (p*xs.length/m)).take ((p+1)*xs.length/m - p*xs.length/m)]) (some (.int (p:Int))) (some (.int ((p*xs.length/m:Nat):Int))) (some (.int (((p+1)*xs.length/m:Nat):Int))) (by lia) (by rw [VU,hr];rfl) (by
   rw [List.flatten_append,hf,List.flatten_singleton]
   have:(p+1)*xs.length/m=p*xs.length/m+((p+1)*xs.length/m - p*xs.length/m):=by lia
   rw [show xs.take ((p+1)*xs.length/m)=xs.take (p*xs.length/m+((p+1)*xs.length/m - p*xs.length/m)) by rw [<- this],List.take_add]) (fun r hr'=>by
    rcases MK.mp hr' with z|z
    .exact hb r z
    .rw [VM.mp z,hln];exact ⟨by lia,fun q=>by have:=c3 q;lia⟩)
  refine ⟨L,o4',Y,o6',?_,g2,g3,g4⟩;rw [ZE,By];have t':cB (Zy [some w,some (.lst (xs.map f)),some (.int (m:Int)),some (.lst (J.map fun r=>D.tup [w,.tup (r.map f)])),o4,o5,o6] 4 (some (.int (p:Int))))=_:=t;rw [oZ t'];exact g1
def zm {Y:Type} (f:Y->D) (w:D) {xs:List Y} (h0:1<=xs.length) (h1:xs.length<=700):∃ J:List (List Y),lj [w,.lst (xs.map f)]=.ok (.lst (J.map fun r=>D.tup [w,.tup (r.map f)]))/\J.flatten=xs/\J.length=(xs.length+7)/8/\∀ r∈J,r.length<=8/\(9<=xs.length->4<=r.length):=by
 rw [DH,oF];have el:(xs.map f).length=xs.length:=iN _;have hq:(((xs.map f).length:Int)+8 - 1)/8=(((xs.length+7)/8:Nat):Int):=by rw [el];lia
 have hm:av b8 (av yK (av cT (aj cw (ab (ag 1) am)) (vC uY)) lR) (vC uY) [some w,some (.lst (xs.map f)),none,none,none,none,none]=.ok (.int (((xs.length+7)/8:Nat):Int)) :=
  (bL (xK (dQ (b5 rfl BS) rfl) rfl) rfl (by decide)).trans (by rw [hq])
 obtain ⟨J,o4,o5,o6,g1,g2,g3,g4⟩:=Nn f w (xs:=xs) (m:=(xs.length+7)/8) (by lia) (by lia) (by lia) (by lia) ((xs.length+7)/8) 0 [] none none none (by lia) rfl (by simp) (fun r L=>by cases L);refine ⟨J,ay ((aw (aL hm)).trans ((aw (iU (cp rfl))).trans ((aw (mM (δ':=[some w,some (.lst (xs.map f)),some (.int (((xs.length+7)/8:Nat):Int)),some (.lst (J.map fun r=>D.tup [w,.tup (r.map f)])),o4,o5,o6]) (xE (n:=(xs.length+7)/8) rfl (by lia)) ?_)).trans (ax rfl)))),g3,g2,fun r L=>⟨(g4 r L).1,fun h9=>(g4 r L).2 (by lia)⟩⟩;rw [HQ,List.range_eq_range'];exact g1
def hd (ks:List K4):K4:=ks.headD (0,0,[],0)
def lf (r:List K4):D:=.tup [.str "leaf",.tup (r.map aI)]
def pt (r:List K4):D:=.tup [aI (hd r),lf r]
def br (rs:List (List K4)):D:=.tup [.str "branch",.tup (rs.map pt)]
def Ix (ks:List K4) (d:D):Prop:=(d=lf ks/\ks.length<=8)\/∃ rs:List (List K4),rs.flatten=ks/\2<=rs.length/\rs.length<=8/\(∀ r∈rs,4<=r.length/\r.length<=8)/\d=br rs
def nbl:decide (("branch":Str)="leaf")=false:=by trivial
def Vh:decide (("leaf":Str)="branch")=false:=by trivial
def CB {r:List K4} (hn:1<=r.length):kN [lf r]=.ok (aI (hd r)):=by
 rw [Dq,pe];cases r with
 | nil=>cases hn
 | cons k r=>exact ay (ax (BR (bb (ao (ao rfl rfl cf) rfl (mj.trans (by rw [abq rfl])))) (ao (ao rfl rfl ca) rfl cf)))
def Il {rs:List (List K4)} (h:∀ r∈rs,1<=r.length) (L:rs.length<=100):n6 [.lst (rs.map lf)]=.ok (.lst (rs.map pt)):=by
 rw [DA,oG];exact ay (ax (cG (dt rfl rfl) (jU _ _ _ (fun q J=>b9 (ac (ai (ac rfl rfl) (CB (h q J))) (ac rfl rfl))) (by lia))))
def Lj {d:D}:nC [.lst [d]]=.ok d:=by
 rw [BH,qm];exact ay ((aw (aL rfl)).trans ((aw (Fa (bb (ao (b5 rfl BS) rfl (Eb.trans (by rw [abp (by simp)])))))).trans (ax (ao rfl rfl nO))))
def Mj {rs:List (List K4)} (h:∀ r∈rs,1<=r.length) (h2:2<=rs.length) (h8:rs.length<=8):nC [.lst (rs.map lf)]=.ok (br rs):=by
 rw [BH,qm];obtain ⟨J,e,r1,r2,r3⟩:=zm pt (.str "branch") (xs:=rs) (by lia) (by lia);obtain ⟨r,rfl⟩:∃ r,J=[r]:=Yo.mp (by lia);have L:r=rs:=by simpa using r1
 subst L;have Y:rQ [some (.lst (r.map lf)),some (.lst (r.map lf))]=.ok true:=bb (ao (b5 rfl (qf _ _)) rfl (Eb.trans (by rw [abq (by lia)])));exact ay ((aw (aL rfl)).trans ((aw ((AG Y (aL (ai (ac rfl (ac (ai (ac rfl rfl) (Il h (by lia))) rfl)) e))).trans (Fa (bb (ao (b5 rfl BS) rfl (Eb.trans (by rw [abp (by simp)]))))))).trans (ax (ao rfl rfl nO))))
def LR {xs:abC} {x:D}:atI (xs++[x]) (-1)=some x:=by
 have e:Mg (xs++[x]).length (-1)=some xs.length:=by
  unfold Mg;rw [abo (by decide),VU,W9,abn (by lia)];congr 1;lia
 unfold atI;rw [e];show (xs++[x])[xs.length]?=some x;simp
def Tt {a k:K4} (h:¬ iL k a) (hn:a≠k):iL a k:=by
 rcases TS.to4.tri a k with z|z|z
 .exact z
 .exact absurd z hn
 .exact absurd z h
def HG (xs:List K4):List K4:=xs.mergeSort FR
def jJ (xs:List K4):(HG xs).Perm xs:=XE xs FR
def w6 {xs:List K4} (L:∀ k∈xs,Ok k) (J:xs.Nodup):Rows (HG xs) :=
 ⟨((ye xs).and ((jJ xs).nodup_iff.mpr J)).imp fun h=>Tt h.1 h.2,fun k Y=>L k ((jJ xs).mem_iff.mp Y)⟩
def ED {xs:List K4} (J:∀ k∈xs,Ok k) (L:xs.length<=63):vV L2.keyN cY [.lst (xs.map aI)]=.ok (.lst ((HG xs).map aI)):=by
 unfold vV;dsimp only;rw [abn (by rw [iN];lia),Nx J];rfl
def IM {a:D}:∀ (rest acc:List K4) (o:Option D),(acc++rest).Pairwise iL->(∀ k∈acc++rest,Ok k)->acc.length+rest.length<=900 ->
  ∃ o':Option D,gt (.one 2) nB (rest.map aI) [some a,some (.lst (acc.map aI)),o]=.ok (.nx [some a,some (.lst ((acc++rest).map aI)),o'])
 | [],acc,o,_,_,_=>⟨o,by rw [WC];rfl⟩
 | k::rest,acc,o,hp,ho,hl=>by
  have oa:∀ x∈acc,Ok x:=fun x hx=>ho x (by simp [hx]);have ok:=ho k (by simp);rw [V3] at hl;obtain ⟨o',e⟩:=IM (a:=a) rest (acc++[k]) (some (aI k)) (by simpa using hp) (by simpa using ho) (by simp;lia);have J:bV (av dR (ag 1) (fA am)) [some a,some (.lst (acc.map aI)),some (aI k)]=.ok (decide (acc=[])):=bb (ao rfl (cp rfl) (eq_nil oa));have hq:rR (bV (av dR (ag 1) (fA am))) (bV (av yI (av cC (ag 1) (Fg xf lR)) (ag 2))) [some a,some (.lst (acc.map aI)),some (aI k)]=.ok true:=by
   cases hacc:acc.reverse with
   | nil =>
    have:=List.reverse_eq_nil_iff.mp hacc
    rw [abq this] at J;exact Gz J
   | cons l r =>
    have ea:acc=r.reverse++[l]:=by rw [<- List.reverse_reverse acc,hacc,List.reverse_cons]
    rw [abp (fun z=>by rw [z] at hacc;cases hacc)] at J;have L:l∈acc:=by rw [ea];simp
    have hix:cC (.lst (acc.map aI)) (.int (-1))=.ok (aI l):=wm (by rw [ea,Wx];exact LR);have Y:l≠k:=fun z=>by
     have:=(YH.mp hp).2.2 l L k (by simp)
     rw [z] at this;exact TS.to4.irr _ this
    exact g9 J (bb (ao (ao rfl rfl hix) rfl (((oa l L).ne ok).trans (by rw [abp Y];rfl))))
  have t:nB (Zy [some a,some (.lst (acc.map aI)),o] 2 (some (aI k)))=.ok (.nx [some a,some (.lst ((acc++[k]).map aI)),some (aI k)]):=by
   rw [Wx];exact (bg hq).trans (m4 rfl rfl (by rw [iN];lia))
  refine ⟨o',?_⟩;rw [By,oZ t,e];simp
def xr {xs:List K4} (ho:∀ k∈xs,Ok k) (nd:xs.Nodup) (hl:xs.length<=63):∃ d,cV [.lst (xs.map aI)]=.ok d/\Ix (HG xs) d:=by
 have hR:=w6 ho nd;have hs:=ED ho hl;have hln:(HG xs).length=xs.length:=(jJ xs).length_eq;obtain ⟨o,e⟩:=IM (a:=.lst (xs.map aI)) (HG xs) [] none hR.s hR.o (by simp;lia);generalize HG xs=ks at *;rw [Af];have start:∀ T:FS,(aD (ow 1 (fA am)) (aD (sP (gf (aj (vV L2.keyN cY) (ab (ag 0) am))) (.one 2) nB) T)) [some (.lst (xs.map aI)),none,none]=T [some (.lst (xs.map aI)),some (.lst (ks.map aI)),o]:=fun T =>
  (aw (iU (cp rfl))).trans (aw (mM (dt (ai (ac rfl rfl) hs) rfl) e))
 have hq:bV (av dR (ag 1) (fA am)) [some (.lst (xs.map aI)),some (.lst (ks.map aI)),o]=.ok (decide (ks=[])):=bb (ao rfl (cp rfl) (eq_nil hR.o));by_cases L:ks=[]
 .rw [abq L] at hq;have ee:jb []=.ok (lf []):=by
   rw [yW,je];exact ay (ax (b9 (ac rfl (ac (b9 rfl) rfl))))
  refine ⟨lf [],?_,.inl ⟨by rw [L],by rw [L];simp⟩⟩;rw [fJ];exact ay ((start _).trans (bD ((bg hq).trans (ax (ai rfl ee)))))
 .rw [abp L] at hq;have hk1:1<=ks.length:=List.length_pos_iff.mpr L;obtain ⟨J,ec,r1,r2,r3⟩:=zm aI (.str "leaf") (xs:=ks) hk1 (by lia);have go:∀ d,nC [.lst (J.map lf)]=.ok d->fin (fJ [some (.lst (xs.map aI)),none,none])=.ok d:=fun d er=>by
   rw [fJ];exact ay ((start _).trans ((skip hq).trans (ax (ai (ac (ai (ac rfl (ac rfl rfl)) ec) rfl) er))))
  by_cases h8:ks.length<=8
  .obtain ⟨r,rfl⟩:∃ r,J=[r]:=Yo.mp (by lia);have er:r=ks:=by simpa using r1
   subst er;exact ⟨_,go _ Lj,.inl ⟨rfl,h8⟩⟩
  .exact ⟨_,go _ (Mj (fun r Y=>by have:=(r3 r Y).2 (by lia);lia) (by lia) (by lia)),.inr ⟨J,r1,by lia,by lia,fun r Y=>⟨(r3 r Y).2 (by lia),(r3 r Y).1⟩,rfl⟩⟩
def RI {xs:abC} {lo hi:Option Int}:AH (.lst xs) lo hi=.ok (.lst (mO xs lo hi)):=rfl
def rs:List K4->List K4->Bool
 | a::r,b::t=>decide (iL a b)&&rs r t
 | _,_=>true
def BE:∀ (xs ys:List K4),(∀ k∈xs,Ok k)->(∀ k∈ys,Ok k)->∃ bs:List Bool,iy (.tup [0,1]) de (aj c6 (ab (ag 0) (ab (ag 1) am))) [none,none] (h7 (xs.map aI) (ys.map aI))=.ok (bs.map D.bl)/\bs.all id=rs xs ys
 | [],ys,_,_=>⟨[],rfl,rfl⟩
 | a::r,[],_,_=>⟨[],rfl,rfl⟩
 | a::r,b::t,h,g=>by
  obtain ⟨bs,e,L⟩:=BE r t (fun k J=>h k (mK _ J)) fun k J=>g k (mK _ J);refine ⟨decide (iL a b)::bs,?_,by rw [Wz,L];rfl⟩;show ((aj c6 (ab (ag 0) (ab (ag 1) am))) [some (aI a),some (aI b)]).bind _=_;rw [ai (ac rfl (ac rfl rfl)) ((h a (by simp)).ahead (g b (by simp))),aK];show (iy _ _ _ _ (h7 (r.map aI) (t.map aI))).bind _=_;rw [e];rfl
def xA {d:D} {ks:List K4} (J:∀ k∈ks,Ok k) (hl:ks.length<=1000) (hd:d=.tup (ks.map aI)\/d=.lst (ks.map aI)):oQ [d]=.ok (.bl (rs ks (ks.drop 1))):=by
 rw [Lk,wN];obtain ⟨bs,e,L⟩:=BE ks (ks.drop 1) J fun k Y=>J k (Z5 Y);have hz:J3 (ab (ag 0) (ab (Bg AH (ag 0) (hZ lR) nN) am)) [some d]=.ok (h7 (ks.map aI) ((ks.drop 1).map aI)):=by
  rcases hd with rfl|rfl
  .rw [Ky,ac rfl (ac (Ek rfl (eV rfl) rfl RH) rfl),aK,ut (by decide),YJ];rfl
  .rw [Ky,ac rfl (ac (Ek rfl (eV rfl) rfl RI) rfl),aK,ut (by decide),YJ];rfl
 refine ay (ax (ai (ac (cG hz (wB rfl ?_ e)) rfl) ((MX (A5 id bs)).trans ?_)))
 .unfold h7;rw [aak,iN];lia
 .rw [abg,L]
def uZ:∀ {ks:List K4},rs ks (ks.drop 1)=true ↔ ks.Pairwise iL
 | []=>⟨fun _=>.nil,fun _=>rfl⟩
 | [a]=>⟨fun _=>Yg _ _,fun _=>rfl⟩
 | a::b::r=>by
  have L:=uZ (ks:=b::r);show (decide (iL a b)&&rs (b::r) r)=true ↔ _;rw [V4,decide_eq_true_iff,aay];have L:rs (b::r) r=true ↔ _:=L;rw [L];constructor
  .rintro ⟨h1,h2⟩;refine ⟨fun x J=>?_,h2⟩;rcases nE.mp J with rfl|J
   .exact h1
   .exact TS.to4.tr _ _ _ h1 ((aay.mp h2).1 x J)
  .rintro ⟨h1,h2⟩;exact ⟨h1 b (by simp),h2⟩
def t_t {xs:abC}:dH [.tup xs,.ty "tuple"]=.ok (.bl true):=by kernel_rfl
def l_t {xs:abC}:dH [.lst xs,.ty "tuple"]=.ok (.bl false):=by kernel_rfl
def s_s {x:Str}:dH [.str x,.ty "str"]=.ok (.bl true):=by kernel_rfl
def i_i {i:Int}:dH [.int i,.ty "int"]=.ok (.bl true):=by kernel_rfl
def i_b {i:Int}:dH [.int i,.ty "bool"]=.ok (.bl false):=by kernel_rfl
def xQ {a b:D}:kX [.tup [a,b]]=.ok (.bl true):=by
 rw [KL,ui];exact ay (ax (bZ (cz rfl t_t) (ao (b5 rfl tQ) rfl (wf.trans (by rw [abq (by rfl)])))))
def pj {n:Int} (h:1<=n/\n<=1000000000):bI [.int n]=.ok (.bl true):=by
 rw [ww,gA];exact ay (ax (bZ (cz rfl i_i) (bZ (LA (cz rfl i_b)) (bZ (ao rfl rfl (Tq.trans (by rw [abq h.1]))) (ao rfl rfl (OQ.trans (by rw [abq h.2])))))))
structure En (k:K4):Prop where
 o:Ok k
 v:cr [gc k]=.ok (.bl true)
 n:1<=k.2.2.2/\k.2.2.2<=1000000000
def Bl {k:K4} (h:En k):lb [aI k]=.ok (.bl true):=by
 rw [DX,oj,un];exact ay (ax (bZ (ai (ac rfl rfl) xQ) (bZ (ai (ac (ao rfl rfl cf) rfl) h.v) (ai (ac (ao rfl rfl ca) rfl) (pj h.n)))))
abbrev qC:FT:=(rR (fQ (dG (aj kX (ab (ag 0) am)))) (rR (fQ (dG (aj dH (ab (uI 0 0) (ab (vC (.ty "str")) am))))) (bV (av yI (uI 0 0) (ag 1)))))
def wA {w J:Str} {xs:abC} {f:Nat}:fG [.tup [.str J,.tup xs],.str w,.int (f:Int)]=.ok (.bl (decide (J=w)&&(decide (f<=xs.length)&&decide (xs.length<=8)))):=by
 rw [zJ,nu];have q:qC [some (.tup [.str J,.tup xs]),some (.str w),some (.int (f:Int))]=.ok (!decide (J=w)):=g9 (ck (aV (ai (ac rfl rfl) xQ) rfl)) (g9 (ck (aV (cz (ao rfl rfl cf) s_s) rfl)) (bb (ao (ao rfl rfl cf) rfl zA)));by_cases e:J=w
 .rw [abq e] at q ⊢;refine gb (ay ((skip q).trans (ax (bZ (cz (ao rfl rfl ca) t_t) (C4 (ao (b5 (ao rfl rfl ca) tQ) rfl Tq) (ao (b5 (ao rfl rfl ca) tQ) rfl OQ)))))) ?_;rw [Zv];congr 1 <;> exact decide_eq_decide.mpr (by lia)
 .rw [abp e] at q ⊢;exact ay (bD ((bg q).trans (ax rfl)))
def Fe {r:List K4} {f:Nat} (L:∀ k∈r,En k) (Y:r.length<=100):gS [lf r,.int (f:Int)]=.ok (.bl ((decide (f<=r.length)&&decide (r.length<=8))&&rs r (r.drop 1))):=by
 rw [y2,m9];have c:aj fG (ab (ag 0) (ab iw (ab (ag 1) am))) [some (lf r),some (.int (f:Int))]=.ok (.bl (decide (f<=r.length)&&decide (r.length<=8))):=gb (ai (ac rfl (ac rfl (ac rfl rfl))) wA) (by rw [iN];rfl);cases e:(decide (f<=r.length)&&decide (r.length<=8)) with
 | false=>rw [e] at c;exact ay (bD ((bg (pU (aV c rfl))).trans (ax rfl)))
 | true =>
  rw [e] at c;refine gb (ay ((skip (ck (aV c rfl))).trans (ax (C4 (BM aI (fun _=>true) (dt (ao rfl rfl ca) rfl) (fun k J=>ai (ac rfl rfl) (Bl (L k J))) (by lia)) (ai (ac (ao rfl rfl ca) rfl) (xA (fun k J=>(L k J).o) (by lia) (.inl rfl))))))) ?_;simp
def FP {d:D} {f:Int} (h:fG [d,.str "leaf",.int f]=.ok (.bl false)):gS [d,.int f]=.ok (.bl false):=by
 rw [y2,m9];exact ay (bD ((bg (pU (aV (ai (ac rfl (ac rfl (ac rfl rfl))) h) rfl))).trans (ax rfl)))
def Hx {d:D} {f:Int} (h:fG [d,.str "branch",.int f]=.ok (.bl false)):g6 [d,.int f]=.ok (.bl false):=by
 rw [wj,js];exact ay (ax (og (ai (ac rfl (ac rfl (ac rfl rfl))) h)))
def yY {d:D} (h:gS [d,.int 0]=.ok (.bl false)) (g:fG [d,.str "branch",.int 2]=.ok (.bl false)):gK [d]=.ok (.bl false):=by
 rw [tf,iR];exact ay ((skip (aV (ai (ac rfl (ac rfl rfl)) h) rfl)).trans (bD ((bg (pU (aV (ai (ac rfl (ac rfl rfl)) (Hx g)) rfl))).trans (ax rfl))))
def xN {r:List K4} (J:∀ k∈r,En k) (L:r.length<=100):gK [lf r]=.ok (.bl (decide (r.length<=8)&&rs r (r.drop 1))):=by
 have h:=Fe (f:=0) J L;rw [abq (VY _),Zv] at h;cases e:(decide (r.length<=8)&&rs r (r.drop 1)) with
 | true =>
  rw [e] at h;rw [tf,iR];exact ay (bD ((bg (aV (ai (ac rfl (ac rfl rfl)) h) rfl)).trans (ax rfl)))
 | false =>
  rw [e] at h;exact yY h (wA.trans (by rw [Vh];rfl))
def E1 {a:D}:∀ (cs:List (D×abC)) (acc:abC) (o:Option D),acc.length+((cs.map aa2).flatten).length<=1000 ->
  ∃ o',gt (.one 2) (oI 1 (uI 2 1)) (cs.map fun c=>D.tup [c.1,.tup c.2]) [some a,some (.lst acc),o]=.ok (.nx [some a,some (.lst (acc++(cs.map aa2).flatten)),o'])
 | [],acc,o,_=>⟨o,by simp;rfl⟩
 | c::r,acc,o,h=>by
  simp only [By,Yt,VU] at h;obtain ⟨o',e⟩:=E1 (a:=a) r (acc++c.2) (some (.tup [c.1,.tup c.2])) (by simp only [VU];lia);have t:oI 1 (uI 2 1) (Zy [some a,some (.lst acc),o] 2 (some (.tup [c.1,.tup c.2])))=.ok (.nx [some a,some (.lst (acc++c.2)),some (.tup [c.1,.tup c.2])]):=Qa rfl (ao rfl rfl ca) rfl (by lia);refine ⟨o',?_⟩;rw [By,oZ t,e];simp
def zp {cs:List (D×abC)} (h:((cs.map aa2).flatten).length<=1000):cH [.lst (cs.map fun c=>D.tup [c.1,.tup c.2])]=.ok (.lst (cs.map aa2).flatten):=by
 rw [BN,l8];obtain ⟨o,e⟩:=E1 (a:=.lst (cs.map fun c=>D.tup [c.1,.tup c.2])) cs [] none (by simpa using h);exact ay ((aw (iU (cp rfl))).trans ((aw (mM (dt rfl rfl) e)).trans (ax rfl)))
def vx {rs:List (List K4)} (h:rs.flatten.length<=1000):cH [.lst (rs.map lf)]=.ok (.lst (rs.flatten.map aI)):=by
 have e:=zp (cs:=rs.map fun r=>(D.str "leaf",r.map aI));rw [V9,V9] at e;have J:((rs.map (aa2 ∘ fun r=>(D.str "leaf",r.map aI))).flatten)=rs.flatten.map aI:=by rw [List.map_flatten];rfl
 rw [J] at e;exact e (by rw [iN];exact h)
abbrev eQ:FT:=(bV (av dR (av cC (uI 1 0) oJ) rh))
def wT {a:D} {r:List K4} {t:List (List K4)} {n:Nat}:dq eQ (bp 1 (bK [none] (gf (aj cH (ab (ag 1) am))) (.one 0) de (uI 0 1))) (n+1) [some a,some (.lst ((r::t).map lf))]=.ok (.nx [some a,some (.lst ((r::t).map lf))]) :=
 Fa (bb (ao (ao (ao rfl rfl nO) rfl cf) rfl (mj.trans (by rw [Vh]))))
def Er {ks:List K4} {d:D} (h:Ix ks d) (L:ks.length<=900):j9 [d]=.ok (.lst (ks.map aI)):=by
 rw [AR,ky];rcases h with ⟨rfl,_⟩|⟨rs,rfl,h2,Y,J,rfl⟩
 .exact ay ((aw (aL (cp (ac rfl rfl)))).trans ((aw (wT (t:=[]))).trans (ax (ai (ac rfl rfl) ((vx (rs:=[ks]) (by simpa using RW L (by decide))).trans (by simp))))))
 .have e1:cH [.lst [br rs]]=.ok (.lst (rs.map pt)):=(zp (cs:=[(.str "branch",rs.map pt)]) (by simp;lia)).trans (by simp);have q:eQ [some (br rs),some (.lst [br rs])]=.ok true:=bb (ao (ao (ao rfl rfl nO) rfl cf) rfl (mj.trans (by rw [abq rfl])));have st:bp 1 (bK [none] (gf (aj cH (ab (ag 1) am))) (.one 0) de (uI 0 1)) [some (br rs),some (.lst [br rs])]=.ok (.nx [some (br rs),some (.lst (rs.map lf))]) :=
   aL (cG (dt (ai (ac rfl rfl) e1) rfl) (jU pt lf rs (fun r J=>ao rfl rfl ca) (by lia)))
  obtain ⟨r,t,rfl⟩:∃ r t,rs=r::t:=by
   cases rs with
   | nil=>cases h2
   | cons r t=>exact ⟨r,t,rfl⟩
  exact ay ((aw (aL (cp (ac rfl rfl)))).trans ((aw ((AG q st).trans wT)).trans (ax (ai (ac rfl rfl) (vx (by lia))))))
def Dg {ks:List K4} (h:1<=ks.length):hd ks∈ks:=by
 cases ks with
 | nil=>cases h
 | cons k r=>exact OR
def SF {rs:List (List K4)} (h:rs.flatten.Pairwise iL) (hn:∀ r∈rs,1<=r.length):(rs.map hd).Pairwise iL:=by
 rw [Xz];exact (ZS.mp h).2.imp_of_mem fun {a b} ha hb g=>g _ (Dg (hn a ha)) _ (Dg (hn b hb))
def Jv {ks:List K4} {d:D} (h:Ix ks d) (L:ks.Pairwise iL) (he:∀ k∈ks,En k) (hl:ks.length<=900):gK [d]=.ok (.bl true):=by
 rcases h with ⟨rfl,h8⟩|⟨rs,rfl,h2,h8,Y,rfl⟩
 .exact gb (xN he (by lia)) (by rw [abq h8,uZ.mpr L];rfl)
 rw [tf,iR];have n1:∀ r∈rs,1<=r.length:=fun r h=>by have:=Y r h;lia
 have el:∀ r∈rs,∀ k∈r,En k:=fun r h k J=>he k (List.mem_flatten.mpr ⟨r,h,J⟩);have hh:=SF L n1;have eh:∀ k∈rs.map hd,En k:=fun k J=>by
  obtain ⟨r,h,rfl⟩:=Wa.mp J;exact el r h _ (Dg (n1 r h))
 have a1:gS [br rs,.int 0]=.ok (.bl false):=FP (wA.trans (by rw [nbl];rfl));have a2:g6 [br rs,.int 2]=.ok (.bl true):=by
  rw [wj,js];refine ay (ax (bZ (gb (ai (ac rfl (ac rfl (ac rfl rfl))) (wA (f:=2))) ?_) (gb (BM pt (fun _=>true) (dt (ao rfl rfl ca) rfl) (fun r h=>ai (ac rfl rfl) ?_) (by lia)) (by simp))))
  .rw [iN,abq h2,abq h8,abq rfl];rfl
  .rw [GI,rp];exact ay (ax (bZ (ai (ac rfl rfl) xQ) (ai (ac (ao rfl rfl cf) rfl) (Bl (eh _ (Wa.mpr ⟨r,h,rfl⟩))))))
 refine ay ((skip (aV (ai (ac rfl (ac rfl rfl)) a1) rfl)).trans ((skip (ck (aV (ai (ac rfl (ac rfl rfl)) a2) rfl))).trans ((aw (aL (ai (ac (ao rfl rfl ca) rfl) EM))).trans (bD ?_))));have ew:∀ {τ:FT} {B:FS} {n:Nat} {U:Sd} {d:D},τ U=.ok true->B U=.ok (.rt d)->dq τ B (n+1) U=.ok (.rt d):=fun {τ B n U d} h hb=>by
  rw [dq,h,aK,abn rfl,hb];rfl
 have er:oQ [.lst (rs.map fun r=>aI (hd r))]=.ok (.bl true):=gb (xA (ks:=rs.map hd) (fun k J=>(eh k J).o) (by rw [iN];lia) (.inr (by rw [V9];rfl))) (uZ.mpr hh);refine ew (aV (ai (ac (cG (dt rfl rfl) (jU pt (fun r=>aI (hd r)) rs (fun r h=>ao rfl rfl cf) (by lia))) rfl) er) rfl) ?_;refine (aw (aL (cG (dt rfl rfl) (jU pt lf rs (fun r h=>ao rfl rfl ca) (by lia))))).trans ?_;refine (aw (aL (gb (b:=true) (BM lf (fun _=>true) (dt rfl rfl) (fun r h=>ai (ac rfl (ac rfl rfl)) (gb (Fe (f:=4) (el r h) (by have:=Y r h;lia)) ?_)) (by lia)) (by simp)))).trans ?_
 .rw [abq (Y r h).1,abq (Y r h).2,uZ.mpr ((ZS.mp L).1 r h)];rfl
 refine (skip (FD (ck (aV rfl rfl)))).trans ((skip (ck (aV (gb (b:=true) (BM pt (fun _=>true) (dt rfl rfl) (fun r h=>?_) (by lia)) (by simp)) rfl))).trans (bD ((bg (aV rfl rfl)).trans (ax (ai (ac (ai (ac rfl rfl) (vx (by lia))) rfl) (gb (xA (fun k J=>(he k J).o) (by lia) (.inr rfl)) (uZ.mpr L)))))));have ok:=(eh _ (Wa.mpr ⟨r,h,rfl⟩)).o;exact ao (ao rfl rfl cf) (ai (ac (ao rfl rfl ca) rfl) (CB (n1 r h))) (by unfold dR;rw [ok.deep ok,abq rfl];rfl)
def IC:∀ {xs ys:List K4},(∀ k∈xs,Ok k)->(∀ k∈ys,Ok k)->PyData.eqvAll (xs.map CW) (ys.map CW)=decide (xs=ys)
 | [],[],_,_=>rfl
 | [],_::_,_,_=>rfl
 | _::_,[],_,_=>rfl
 | a::r,b::t,h,g=>by
  rw [By,By,PyData.eqvAll,(h a (by simp)).eqv (g b (by simp)),IC (fun k J=>h k (mK _ J)) fun k J=>g k (mK _ J)];simp
def Ms {xs ys:List K4} (h:∀ k∈xs,Ok k) (g:∀ k∈ys,Ok k):dR (.lst (xs.map aI)) (.lst (ys.map aI))=.ok (.bl (decide (xs=ys))):=by
 have e:wz (.lst (xs.map aI)) (.lst (ys.map aI))=oz (.lst (xs.map aI)) (.lst (ys.map aI)):=rfl;have J:∀ {zs:List K4},(∀ k∈zs,Ok k)->qh (.lst (zs.map aI))=some (.list (zs.map CW))/\Xo (.list (zs.map CW))=true:=fun {zs} hz=>by
  obtain ⟨h1,h2⟩:=DE hz;refine ⟨by rw [qh,UJ hz];rfl,?_⟩;unfold Xo;rw [aac,h1,aaT,abq (by lia)];rfl
 unfold dR;rw [e,oz,(J h).1,(J g).1];dsimp only;rw [abn ⟨(J h).2,(J g).2⟩,Zl,IC h g];rfl
section
variable {kvs:List (Key×D)} {k:Key} {d:D}
def AI (h:ci kvs k=some d):(k,d)∈kvs:=by
 unfold ci at h;cases e:kvs.find? fun q=>decide (q.1=k) with
 | none=>rw [e] at h;cases h
 | some q =>
  rw [e] at h;cases h;have h1:=List.find?_some e
  have:q.1=k:=abr h1
  rw [<- this];exact List.mem_of_find?_eq_some e
def tZ (h:ci kvs k=none):∀ q∈kvs,q.1≠k:=fun q J e=>by
 unfold ci at h;exact List.find?_eq_none.mp (Option.map_eq_none_iff.mp h) q J (abq e)
def DU (h:k∉kvs.map VP):ci kvs k=none:=by
 cases e:ci kvs k with
 | none=>rfl
 | some d=>exact absurd (Wa.mpr ⟨_,AI e,rfl⟩) h
def mT:∀ {kvs:List (Key×D)} (J:(kvs.map VP).Nodup) {q:Key×D},q∈kvs->ci kvs q.1=some q.2
 | [],_,_,h=>nomatch h
 | a::r,J,q,h=>by
  rw [By,Wm] at J;unfold ci;rcases nE.mp h with rfl|h
  .rw [List.find?_cons_of_pos (by simp)];rfl
  .have ne:a.1≠q.1:=fun e=>J.1 (Wa.mpr ⟨q,h,e.symm⟩);rw [List.find?_cons_of_neg (by simpa using ne)];exact mT J.2 h
def qU (h:ci kvs k=none):cI kvs k d=kvs++[(k,d)]:=by
 unfold cI;rw [h];rfl
def ud (h:(ci kvs k).isSome=true):cI kvs k d=kvs.map fun q=>if q.1=k then (q.1,d) else q:=by
 unfold cI;rw [abn h]
def wO:ci kvs k=none\/(ci kvs k).isSome=true:=by cases ci kvs k <;> simp
def wD {q:Key×D} (h:q∈cI kvs k d):q=(k,d)\/(q∈kvs/\q.1≠k):=by
 rcases wO (kvs:=kvs) (k:=k) with e|e
 .rw [qU e] at h;rcases MK.mp h with z|z
  .exact .inr ⟨z,tZ e q z⟩
  .exact .inl (VM.mp z)
 .rw [ud e] at h;obtain ⟨a,J,rfl⟩:=Wa.mp h;split
  .rename_i e;rw [e];exact .inl rfl
  .rename_i e;exact .inr ⟨J,e⟩
def JR (h:(ci kvs k).isSome=true):(cI kvs k d).map VP=kvs.map VP:=by
 rw [ud h,V9];refine WI fun a _=>?_;show (if a.1=k then (a.1,d) else a).1=a.1;split <;> rfl
def wY (J:(kvs.map VP).Nodup):((cI kvs k d).map VP).Nodup:=by
 rcases wO (kvs:=kvs) (k:=k) with e|e
 .rw [qU e,Wx,Yu];refine ⟨J,by simp,fun a ha b Y=>?_⟩;obtain ⟨q,L,rfl⟩:=Wa.mp ha;obtain rfl:b=k:=by simpa using Y
  exact tZ e q L
 .rw [JR e];exact J
def wH:(cI kvs k d).length<=kvs.length+1:=by
 rcases wO (kvs:=kvs) (k:=k) with e|e
 .rw [qU e];simp
 .rw [ud e,iN];lia
def sL:(k,d)∈cI kvs k d:=by
 cases e:ci kvs k with
 | none=>rw [qU e];simp
 | some x =>
  rw [ud (by rw [e];rfl)];exact Wa.mpr ⟨_,AI e,abn rfl⟩
def wV {t:D} (h:k∉kvs.map VP):cI (kvs++[(k,t)]) k d=kvs++[(k,d)]:=by
 have e:(ci (kvs++[(k,t)]) k).isSome=true:=by
  rcases wO (kvs:=kvs++[(k,t)]) (k:=k) with e|e
  .exact absurd rfl (tZ e (k,t) (by simp))
  .exact e
 rw [ud e,Wx];congr 1
 .conv=>rhs;rw [<- abg kvs]
  refine WI fun a J=>?_;rw [abo fun z=>h (Wa.mpr ⟨a,J,z⟩)];rfl
 .simp
def pH {q:D} (L:wx q=some k) (h:ci kvs k=some d):hJ (.dcf kvs) q=.ok d/\hJ (.dct kvs) q=.ok d:=by
 have e:∀ x,xX x=some kvs->hJ x q=.ok d:=fun x J=>by
  unfold hJ;rw [J];dsimp only;rw [L];dsimp only;rw [h]
 exact ⟨e _ rfl,e _ rfl⟩
end
def z7 {i j:Nat} {B:FS} {a b:D} {r:abC} {U δ':Sd} (h:B ((U.set i (some a)).set j (some b))=.ok (.nx δ')):gt (.tup [i,j]) B (.tup [a,b]::r) U=gt (.tup [i,j]) B r δ':=by
 rw [Cs,GO,aK,Kb,h,aK,FV]
def eJ (c:Str×Str):D:=.tup [.str c.1,.str c.2]
def cb (nm:Str) (cs:List (Str×Str)):D:=.tup [.str nm,.tup (cs.map eJ)]
def bJ (c:Str):List (Str×Str)->Nat
 | []=>0
 | q::r=>if q.1=c then 0 else bJ c r+1
def ka {c:Str}:∀ {cs:List (Str×Str)},c∈cs.map VP->bJ c cs < cs.length
 | [],h=>by simp at h
 | q::r,h=>by
  unfold bJ;split
  .simp
  .rename_i e;rw [By] at h;rcases nE.mp h with z|z
   .exact absurd z.symm e
   .have:=ka z;simp;omega
def Ka {i j:Nat} {B:FS} {a b d:D} {r:abC} {U:Sd} (h:B ((U.set i (some a)).set j (some b))=.ok (.rt d)):gt (.tup [i,j]) B (.tup [a,b]::r) U=.ok (.rt d):=by
 show ((j2 (.tup [i,j]) (.tup [a,b]) U).bind _)=_;show ((R.ok (jZ [i,j] [a,b] U)).bind _)=_;rw [aK];show ((B ((U.set i (some a)).set j (some b))).bind _)=_;rw [h];rfl
def MH {ι:FA} {g:TgD} {B:FS} {U:Sd} {xs:abC} {d:D} (h:ι U=.ok xs) (hf:gt g B xs U=.ok (.rt d)):sP ι g B U=.ok (.rt d):=by rw [Nf,h,aK,Nq,hf]
def FW {a:D} {c:Str}:∀ (cs:List (Str×Str)) (j:Nat) (J o3:Option D),c∈cs.map VP ->
  gt (.tup [2,3]) TX (du j (cs.map eJ)) [some a,some (.str c),J,o3]=.ok (.rt (.int ((j+bJ c cs:Nat):Int)))
 | [],_,_,_,h=>by simp at h
 | q::r,j,J,o3,h=>by
  have t:bV (av dR (uI 3 0) (ag 1)) [some a,some (.str c),some (.int (j:Int)),some (eJ q)]=.ok (decide (q.1=c)):=bb (ao (ao rfl rfl cf) rfl mj);by_cases e:q.1=c
  .rw [abq e] at t
   have:bJ c (q::r)=0:=by unfold bJ;rw [abn e]
   rw [this];exact Ka ((bg t).trans (ax rfl))
  .rw [abp e] at t;have Y:bJ c (q::r)=bJ c r+1:=abo e;rw [Y];rw [By] at h;have h':c∈r.map VP:=by
    rcases nE.mp h with z|z
    .exact absurd z.symm e
    .exact z
   have ih:=FW (a:=a) r (j+1) (some (.int (j:Int))) (some (eJ q)) h';have L:((j+(bJ c r+1):Nat):Int)=((j+1+bJ c r:Nat):Int):=by congr 1;omega
   rw [L,<- ih];exact z7 ((fY t).trans rfl)
def A4 {a:FE} {U:Sd} {d:D} {xs:abC} (h:a U=.ok d) (J:ge d=.ok xs):ly (ab a am) U=.ok (du 0 xs):=by
 unfold ly;rw [ac h rfl,aK];show (ge d).bind _=_;rw [J];rfl
def Np {a:D} {c:Str}:∀ (cs:List (Str×Str)) (j:Nat) (Y o3:Option D),c∉cs.map VP ->
  ∃ L J,gt (.tup [2,3]) TX (du j (cs.map eJ)) [some a,some (.str c),Y,o3]=.ok (.nx [some a,some (.str c),L,J])
 | [],_,Y,o3,h=>⟨Y,o3,rfl⟩
 | q::r,j,Y,o3,h=>by
  rw [By,nE,not_or] at h;have t:bV (av dR (uI 3 0) (ag 1)) [some a,some (.str c),some (.int (j:Int)),some (eJ q)]=.ok (decide (q.1=c)):=bb (ao (ao rfl rfl cf) rfl mj);rw [abp fun z=>h.1 z.symm] at t;obtain ⟨L,J,e⟩:=Np (a:=a) r (j+1) (some (.int (j:Int))) (some (eJ q)) h.2;exact ⟨L,J,(z7 ((fY t).trans rfl)).trans e⟩
def oU {nm c:Str} {cs:List (Str×Str)} (h:c∈cs.map VP):cg [cb nm cs,.str c]=.ok (.int (bJ c cs:Int)):=by
 have e:=FW (a:=cb nm cs) cs 0 none none h;rw [ZL] at e;rw [qG,fB];exact ay (bD (MH (A4 (ao rfl rfl ca) rfl) e))
def Gw {nm c:Str} {cs:List (Str×Str)} (h:c∉cs.map VP):cg [cb nm cs,.str c]=.ok .non:=by
 obtain ⟨J,o3,e⟩:=Np (a:=cb nm cs) cs 0 none none h;rw [qG,fB];exact ay ((aw (mM (A4 (ao rfl rfl ca) rfl) e)).trans (ax rfl))
def tb (s r i:D):D:=.obj "Table" [("shape",s),("rows",r),("indexes",i)]
section
variable {s r i:D}
def dL:uR "Table" "shape" (tb s r i)=.ok s:=by unfold uR tb;dsimp only;rw [abn rfl];rfl
def lG:uR "Table" "rows" (tb s r i)=.ok r:=by unfold uR tb;dsimp only;rw [abn rfl];rfl
def nq:uR "Table" "indexes" (tb s r i)=.ok i:=by unfold uR tb;dsimp only;rw [abn rfl];rfl
end
def a7 {n f:Str} {φ:FE} {U:Sd} {d e:D} (h:φ U=.ok d) (hf:uR n f d=.ok e):bH n f φ U=.ok e:=by unfold bH;rw [h,aK,hf]
def tL {α:FA} {U:Sd} {s r i:D} (h:α U=.ok [s,r,i]):HC "Table" ["shape","rows","indexes"] α U=.ok (tb s r i):=by unfold HC;rw [h,aK];exact abn rfl
def sj {φ:FE} {U:Sd} {ds:List (Key×D)} (h:φ U=.ok (.dct ds)):Gx φ U=.ok (.dcf ds):=by unfold Gx;rw [h];rfl
def qH {i:Nat} {ψ:FS} {U:Sd} {ds:List (Key×D)} (h:U[i]?=some (some (.dct ds))):Ea i ψ U=ψ (U.set i (some (.dcf ds))):=by unfold Ea;rw [h]
def zL {s:D}:jC [s]=.ok (tb s (.dcf []) (.dcf [])):=by
 rw [BD,mo];exact ay (ax (tL (ac rfl (ac (sj rfl) (ac (sj rfl) rfl)))))
def gH {i:Nat} {ψ ε:FE} {U:Sd} {kvs:List (Key×D)} {d k:D} {J:Key} (h:U[i]?=some (some (.dct kvs))) (Y:ε U=.ok d) (hk:ψ U=.ok k) (L:wx k=some J) (hl:kvs.length < 1000):iM i ψ ε U=.ok (.nx (U.set i (some (.dct (cI kvs J d))))):=by
 unfold iM;rw [h];show ((ε U).bind _)=_;rw [Y,aK];show ((ψ U).bind _)=_;rw [hk,aK,L];dsimp only;rw [abn (by omega)]
def z0 {φ:FE} {U:Sd} {kvs:List (Key×D)} (h:φ U=.ok (.dcf kvs)):vK φ U=.ok (kvs.map fun q=>iH q.1):=by unfold vK;rw [h];rfl
def xx {φ:FE} {U:Sd} {kvs:List (Key×D)} (h:φ U=.ok (.dcf kvs)):sK φ U=.ok (kvs.map fun q=>D.tup [iH q.1,q.2]):=by unfold sK;rw [h];rfl
def vw {kvs:List (Key×D)}:w8 [.dcf kvs]=.ok (.dct kvs):=rfl
def wC (v:D) (n:Int):K4:=match v with
 | .int i=>(1,i,[],n)
 | .str z=>(2,0,z.cps.toList,n)
 | _=>(0,0,[],n)
def xD (v:D) (n:Int):(wC v n).2.2.2=n:=by unfold wC;split <;> rfl
def vg {v:D} {n:Int} (h:Vl 40 v):Ok (wC v n)/\aI (wC v n)=.tup [v,.int n]/\gc (wC v n)=v:=by
 cases v with
 | non=>exact ⟨Ok.of rfl h,pS rfl,rfl⟩
 | int i=>exact ⟨Ok.of rfl h,pS rfl,rfl⟩
 | str z=>exact ⟨Ok.of rfl h,pS rfl,by simp [wC,gc]⟩
 | _=>exact h.elim
structure Gv (kd:Str) (x:D):Prop where
 l:Vl 40 x
 v:cr [x]=.ok (.bl true)
 f:bN [x,.str kd]=.ok (.bl true)
 o:x≠.str "other"
structure RowOk (cs:List (Str×Str)) (r:abC):Prop where
 len:r.length=cs.length
 v:∀ p∈r.zip cs,Gv p.2.2 p.1
def RowOk.at_ {cs:List (Str×Str)} {r:abC} (h:RowOk cs r) {p:Nat} (L:p < cs.length):Gv cs[p].2 (r.getD p .non)/\r[p]?=some (r.getD p .non):=by
 have J:p < r.length:=by rw [h.len];exact L
 have e:r[p]?=some r[p]:=BY J
 have:r.getD p .non=r[p]:=by rw [Xm,e];rfl
 rw [this];refine ⟨h.v (r[p],cs[p]) ?_,e⟩;exact XU.mpr ⟨p,by rw [Xb];lia,by simp⟩
def eK (p:Nat) (q:Key×D):K4:=match q with
 | (.inl n,.tup r)=>wC (r.getD p .non) n
 | _=>(0,0,[],0)
structure Rk (cs:List (Str×Str)) (rk:List (Key×D)):Prop where
 nd:(rk.map VP).Nodup
 l:rk.length<=20
 r:∀ q∈rk,∃ n r,q=(.inl n,.tup r)/\(1<=n/\n<=40)/\RowOk cs r
section
variable {cs:List (Str×Str)} {rk:List (Key×D)} {p:Nat}
def Rk.en (h:Rk cs rk) (Y:p < cs.length):∀ k∈rk.map (eK p),En k:=fun k hk=>by
 obtain ⟨q,L,rfl⟩:=Wa.mp hk;obtain ⟨n,r,rfl,hn,J⟩:=h.r q L;obtain ⟨g,_⟩:=J.at_ Y;obtain ⟨o,_,ev⟩:=vg (n:=n) g.l;exact ⟨o,by show cr [gc (wC _ n)]=_;rw [ev];exact g.v,by show 1<=(wC _ n).2.2.2/\(wC _ n).2.2.2<=_;rw [xD];lia⟩
def Rk.enu (h:Rk cs rk):(rk.map (eK p)).Nodup:=by
 have nd:=h.nd;rw [Y5,Xz] at nd ⊢;refine nd.imp_of_mem fun {a b} ha hb g e=>?_;obtain ⟨n,r,rfl,_,_⟩:=h.r a ha;obtain ⟨m,t,rfl,_,_⟩:=h.r b hb;have e:=abt (fun k:K4=>k.2.2.2) e;have e:(wC _ n).2.2.2=(wC _ m).2.2.2:=e;rw [xD,xD] at e;exact g (by rw [e])
end
section
variable {nm c:Str} {cs:List (Str×Str)} {rk ik:List (Key×D)} {s d:D} {n:Int} {x:abC}
def Kh (J:rk.length < 1000):pp [tb s (.dcf rk) (.dcf []),.int n,.tup x]=.ok (tb s (.dcf (cI rk (.inl n) (.tup x))) (.dcf [])):=by
 rw [Db,oo];exact ay ((aw (iU (ai (ac (a7 rfl lG) rfl) vw))).trans ((aw (gH rfl rfl rfl rfl J)).trans ((aw (aL (sj rfl))).trans ((aw (mM (z0 (a7 rfl nq)) rfl)).trans ((qH rfl).trans (ax (tL (ac (a7 rfl dL) (ac rfl (ac rfl rfl)))))))))) 
def yu (h:Rk cs rk) {i:D} (J:c∈cs.map VP):ic [tb (cb nm cs) (.dcf rk) i,.str c]=.ok (.lst ((rk.map (eK (bJ c cs))).map aI)):=by
 have hll:=h.l;rw [AE,j8,V9];refine ay ((aw (aL (ai (ac (a7 rfl dL) (ac rfl rfl)) (oU J)))).trans (ax (cG (xx (a7 rfl lG)) (map_two (fun q:Key×D=>iH q.1) (fun q=>q.2) _ rk (fun q Y=>?_) (by lia)))));obtain ⟨n,r,rfl,hn,L⟩:=h.r q Y;obtain ⟨g,e⟩:=L.at_ (ka J);show _=R.ok (aI (wC (r.getD (bJ c cs) .non) n));rw [(vg (n:=n) g.l).2.1];exact b9 (ac (ao rfl rfl (DS (cj e))) (ac rfl rfl))
def Dv (h:Rk cs rk) (hi:ik.length<=100) (J:c∈cs.map VP) (hn:ci ik (.inr c)=none) :
  ∃ d,j6 [tb (cb nm cs) (.dcf rk) (.dcf ik),.str c]=.ok (tb (cb nm cs) (.dcf rk) (.dcf (ik++[(.inr c,d)])))/\Ix (HG (rk.map (eK (bJ c cs)))) d:=by
 have L:=h.en (ka J);obtain ⟨d,e,Y⟩:=xr (xs:=rk.map (eK (bJ c cs))) (fun k hk=>(L k hk).o) h.enu (by rw [iN];have:=h.l;lia);refine ⟨d,?_,Y⟩;rw [Aw,ku];refine ay ((aw (iU (ai (ac (a7 rfl nq) rfl) vw))).trans ((aw (gH rfl (ai (ac (ai (ac rfl (ac rfl rfl)) (yu h J)) rfl) e) rfl rfl (by lia))).trans ?_));rw [qU hn];exact (qH rfl).trans (ax (tL (ac (a7 rfl dL) (ac (a7 rfl lG) (ac rfl rfl)))))
abbrev qI:FT:=(rR (fQ (dG (aj dH (ab (ag 1) (ab (vC (.ty "str")) am))))) (bV (av BB (aj cg (ab (bH "Table" "shape" (ag 0)) (ab (ag 1) am))) (vC .non))))
def MT {r i:D} (J:c∈cs.map VP):qI [some (tb (cb nm cs) r i),some (.str c),none]=.ok false:=g9 (ck (aV (cz rfl s_s) rfl)) (bb (ao (ai (ac (a7 rfl dL) (ac rfl rfl)) (oU J)) rfl rfl))
def HS (h:Rk cs rk) (L:c∈cs.map VP) (hv:ci ik (.inr c)=some d) {ks:List K4} (hi:Ix ks d) (hs:ks.Pairwise iL) (Y:∀ k∈ks,En k) (hl:ks.length<=900) :
  bP [tb (cb nm cs) (.dcf rk) (.dcf ik),.str c]=.ok (.bl (decide (ks=HG (rk.map (eK (bJ c cs)))))):=by
 have hn:=h.en (ka L);rw [mR,eR];refine ay ((skip (MT L)).trans ((aw (aL (ao (a7 rfl nq) rfl (pH rfl hv).1))).trans (ax (bZ (ai (ac rfl rfl) (Jv hi hs Y hl)) (ao (ai (ac rfl rfl) (Er hi hl)) (ai (ac (ai (ac rfl (ac rfl rfl)) (yu h L)) rfl) (ED (fun k J=>(hn k J).o) (by rw [iN];have:=h.l;lia))) (Ms (fun k J=>(Y k J).o) fun k J=>(hn k ((jJ _).mem_iff.mp J)).o))))))
def El {r:D} (L:c∈cs.map VP) (J:ci ik (.inr c)=some d) (hi:gK [d]=.ok (.bl false)):bP [tb (cb nm cs) r (.dcf ik),.str c]=.ok (.bl false):=by
 rw [mR,eR];exact ay ((skip (MT L)).trans ((aw (aL (ao (a7 rfl nq) rfl (pH rfl J).1))).trans (ax (og (ai (ac rfl rfl) hi)))))
def So {r i:D} (J:c∉cs.map VP):bP [tb (cb nm cs) r i,.str c]=.ok (.bl false):=by
 rw [mR,eR];exact ay (bD ((bg (g9 (ck (aV (cz rfl s_s) rfl)) (bb (ao (ai (ac (a7 rfl dL) (ac rfl rfl)) (Gw J)) rfl rfl)))).trans (ax rfl)))
end
section
variable {nm:Str} {cs:List (Str×Str)} {r:abC}
def B3:∀ (r:abC) (cs:List (Str×Str)),h7 r (cs.map eJ)=(r.zip cs).map fun q=>D.tup [q.1,eJ q.2]
 | [],_=>by simp [h7]
 | _::_,[]=>by simp [h7]
 | a::r,c::cs=>by
  have:=B3 r cs
  unfold h7 at this ⊢;simp [this]
abbrev qF:FT:=(rR (fQ (dG (aj dH (ab (ag 1) (ab (vC (.ty "tuple")) am))))) (bV (av yI (aj cw (ab (ag 1) am)) (aj cw (ab (ag 2) am)))))
def Ru:qF [some (cb nm cs),some (.tup r),some (.tup (cs.map eJ))]=.ok (!decide (r.length=cs.length)):=by
 refine g9 (ck (aV (cz rfl t_t) rfl)) (bb (ao (b5 rfl tQ) (b5 rfl (Iv _ _)) (Nb.trans ?_)));congr 3;exact decide_eq_decide.mpr (by lia)
def fits (L:r.length=cs.length) (Y:cs.length<=100) (p:D×Str×Str->Bool) (h:∀ q∈r.zip cs,bN [q.1,.str q.2.2]=.ok (.bl (p q))):jT [cb nm cs,.tup r]=.ok (.bl ((r.zip cs).all p)):=by
 rw [D6,u3];have q:=Ru (nm:=nm) (cs:=cs) (r:=r);rw [abq L] at q;refine ay ((aw (aL (ao rfl rfl ca))).trans ((skip q).trans (ax (Op (fun q:D×Str×Str=>q.1) (fun q=>eJ q.2) p ?_ (fun q J=>ai (ac rfl (ac (ao rfl rfl ca) rfl)) (h q J)) (by rw [Xb];lia)))));rw [Ky,ac rfl (ac rfl rfl),aK,Qz rfl rfl,B3]
def RowOk.fits (h:RowOk cs r) (J:cs.length<=100):jT [cb nm cs,.tup r]=.ok (.bl true):=gb (T33.fits h.len J (fun _=>true) fun q L=>(h.v q L).f) (by simp)
def IJ (h:¬ r.length=cs.length):jT [cb nm cs,.tup r]=.ok (.bl false):=by
 rw [D6,u3];have q:=Ru (nm:=nm) (cs:=cs) (r:=r);rw [abp h] at q;exact ay ((aw (aL (ao rfl rfl ca))).trans (bD ((bg q).trans (ax rfl))))
def Ot:jT [cb nm cs,.lst r]=.ok (.bl false):=by
 rw [D6,u3];exact ay ((aw (aL (ao rfl rfl ca))).trans (bD ((bg (Gz (pU (aV (cz rfl l_t) rfl)))).trans (ax rfl))))
end
section
variable {s r i:D} {rk ik:List (Key×D)}
def d_d {xs:List (Key×D)}:dH [.dcf xs,.ty "dict"]=.ok (.bl true):=by kernel_rfl
def l_d {xs:abC}:dH [.lst xs,.ty "dict"]=.ok (.bl false):=by kernel_rfl
def ux {fs:List (Str×D)}:yJ "Table" [.obj "Table" fs,.cls "Table"]=.ok (.bl true):=by kernel_rfl
def OX (s:D) (q:Key×D) (b:Bool):Prop:=(bI [iH q.1]=.ok (.bl false)/\b=false)\/(bI [iH q.1]=.ok (.bl true)/\jT [s,q.2]=.ok (.bl b))
def ym (hs:cu [s]=.ok (.bl true)) (lr:rk.length<=1000) (li:ik.length<=1000) (p L:Key×D->Bool) (hp:∀ q∈rk,OX s q (p q)) (hx:rk.all p=true->∀ q∈ik,bP [tb s (.dcf rk) (.dcf ik),iH q.1]=.ok (.bl (L q))) :
  aX [tb s (.dcf rk) (.dcf ik)]=.ok (.bl (rk.all p&&ik.all L)):=by
 rw [kW,fj];have J:=Op (ix:=[none,none,some 0]) (ι:=sK (bH "Table" "rows" (ag 0))) (ε:=eU (aj bI (ab (ag 0) am)) (aj jT (ab (bH "Table" "shape" (ag 2)) (ab (ag 1) am)))) (U:=[some (tb s (.dcf rk) (.dcf ik))]) (rest:=[some (tb s (.dcf rk) (.dcf ik))]) (fun q:Key×D=>iH q.1) (fun q=>q.2) p (xx (a7 rfl lG)) (fun q Y=>by
  rcases hp q Y with ⟨h1,h2⟩|⟨h1,h2⟩
  .rw [h2];exact og (ai (ac rfl rfl) h1)
  .exact bZ (ai (ac rfl rfl) h1) (ai (ac (a7 rfl dL) (ac rfl rfl)) h2)) lr
 refine ay ((skip (g9 (ck (aV (ai (ac rfl (ac rfl rfl)) ux) rfl)) (ck (aV (ai (ac (a7 rfl dL) rfl) hs) rfl)))).trans ((skip (g9 (ck (aV (cz (a7 rfl lG) d_d) rfl)) (ck (aV (cz (a7 rfl nq) d_d) rfl)))).trans ?_));cases e:rk.all p with
 | false =>
  rw [e] at J;exact bD ((bg (pU (aV J rfl))).trans (ax rfl))
 | true =>
  rw [e] at J;exact (skip (ck (aV J rfl))).trans (ax (BM (fun q:Key×D=>iH q.1) L (z0 (a7 rfl nq)) (fun q Y=>ai (ac rfl (ac rfl rfl)) (hx e q Y)) li))
def KC (h:cu [s]=.ok (.bl false)):aX [tb s r i]=.ok (.bl false):=by
 rw [kW,fj];exact ay (bD ((bg (g9 (ck (aV (ai (ac rfl (ac rfl rfl)) ux) rfl)) (pU (aV (ai (ac (a7 rfl dL) rfl) h) rfl)))).trans (ax rfl)))
def LW {xs:abC} (h:cu [s]=.ok (.bl true)):aX [tb s (.lst xs) i]=.ok (.bl false):=by
 rw [kW,fj];exact ay ((skip (g9 (ck (aV (ai (ac rfl (ac rfl rfl)) ux) rfl)) (ck (aV (ai (ac (a7 rfl dL) rfl) h) rfl)))).trans (bD ((bg (Gz (pU (aV (cz (a7 rfl lG) l_d) rfl)))).trans (ax rfl))))
def C7 {xs:abC} (h:cu [s]=.ok (.bl true)):aX [tb s (.dcf rk) (.lst xs)]=.ok (.bl false):=by
 rw [kW,fj];exact ay ((skip (g9 (ck (aV (ai (ac rfl (ac rfl rfl)) ux) rfl)) (ck (aV (ai (ac (a7 rfl dL) rfl) h) rfl)))).trans (bD ((bg (g9 (ck (aV (cz (a7 rfl lG) d_d) rfl)) (pU (aV (cz (a7 rfl nq) l_d) rfl)))).trans (ax rfl))))
def tM {x:D} (h:yJ "Table" [x,.cls "Table"]=.ok (.bl false)):aX [x]=.ok (.bl false):=by
 rw [kW,fj];exact ay (bD ((bg (Gz (pU (aV (ai (ac rfl (ac rfl rfl)) h) rfl)))).trans (ax rfl)))
end
abbrev Vw:Str:=V7 "abcdefghijklmnopqrstuvwxyz"
def al:abu:=Vw.cps.toList
def Ps:al.length=26:=by trivial
def wt (i:Int):Nat:=al.getD (i % 26).toNat 0
def NK (i:Int):al[(i % 26).toNat]?=some (wt i):=by
 have J:(i % 26).toNat < al.length:=by rw [Ps];lia
 unfold wt;rw [Xm,BY J];rfl
def MV (i:Int):atI Vw.cps.toList (i % 26)=some (wt i):=by
 have h:=cj (xs:=al) (NK i);rw [show (((i % 26).toNat:Nat):Int)=i % 26 by lia] at h;exact h
def IK (i:Int):wt (i+7)≠wt i:=by
 have J:∀ j < 26,al.getD ((j+7) % 26) 0≠al.getD j 0:=by trivial
 have:((i+7) % 26).toNat=((i % 26).toNat+7) % 26:=by lia
 unfold wt;rw [this];exact J _ (by lia)
def ws:abv:=["and","by","down","from","none","not","or","order","show","take"]
def Qv:List (abu):=(ws++([("where":Str)]:abv)).map fun z=>z.cps.toList
def Mp:∀ a∈Qv,∀ b∈Qv,∀ i < 6,(a.take i=b.take i/\a.drop (i+1)=b.drop (i+1)/\i < a.length/\i < b.length)->a=b:=by trivial
def LJ {a b:abu} {s t:Nat} (h1:a++s::b∈Qv) (h2:a++t::b∈Qv):s=t:=by
 have J:∀ w∈Qv,w.length < 6:=by trivial
 have:=J _ h1
 have e:=Mp _ h1 _ h2 a.length (by simp at this;lia) ⟨by simp,by simp [List.drop_append],by simp,by simp⟩;simpa using e
def EN (z:Str):Bool:=!decide (z="where")&&!HH (.str z) (ws.map V.str)
def Jc {z:Str} (h:EN z=false):z.cps.toList∈Qv:=by
 unfold EN at h;by_cases e:z="where"
 .rw [e];decide +kernel
 .rw [abp e] at h;have h:HH (.str z) (ws.map V.str)=true:=by simpa using h
  unfold HH at h;rw [List.any_map,List.any_eq_true] at h;obtain ⟨y,J,e⟩:=h;have e:(y==z)=true:=e;rw [beq_iff_eq] at e;rw [<- e];exact Wa.mpr ⟨y,Wc _ J,rfl⟩
def sS (a b:Str):(a++b).cps.toList=a.cps.toList++b.cps.toList:=by
 show (a.cps++b.cps).toList=_;simp
def Mn (a b:Str):(a++b).length=a.length+b.length:=by
 rw [str_len,str_len,str_len,sS,VU]
def ET {z:Str} {lo hi:Option Int} {c:Nat} (h:c∈(lV z lo hi).cps.toList):c∈z.cps.toList:=by
 unfold lV at h;exact Z5 (Z6 (by simpa using h))
def ft (z:Str) (p c:Int) (k:Nat):Str:=lV z none (some p)++(⟨#[wt (c/1638+7*(k:Int))]⟩:Str)++lV z (some (p+1)) none
theorem FF (z:Str) (p c:Int) (k:Nat):(ft z p c k).cps.toList=(lV z none (some p)).cps.toList++wt (c/1638+7*(k:Int))::(lV z (some (p+1)) none).cps.toList:=by
 unfold ft;rw [sS,sS];simp
def KM {z:Str} {p c:Int} {k:Nat} (h:EN (ft z p c k)=false):EN (ft z p c (k+1))=true:=by
 cases e:EN (ft z p c (k+1)) with
 | true=>rfl
 | false =>
  have h1:=Jc h;have h2:=Jc e;rw [FF] at h1 h2;have J:=LJ h2 h1;rw [show c/1638+7*(((k+1:Nat):Int))=(c/1638+7*(k:Int))+7 by push_cast;lia] at J;exact absurd J (IK _)
abbrev IP (c:Int) (m z4:D) (z:Str) (p:Int) (fs:abv) (k:Nat) (J L o9:Option D):Sd:=[some (.int c),some m,some z4,some (.str z),some (.int p),some (.lst (fs.map D.str)),some (.int (k:Int)),J,L,o9]
def Kp {c p:Int} {m z4:D} {z:Str} (hz:z.length<=8) (fs:abv) (k:Nat) (hf:fs.length < 100) (L J o9:Option D):∃ p7 p8 p9,NB (IP c m z4 z p fs k L J o9)=.ok (.nx (IP c m z4 z p (if EN (ft z p c k)=true then fs++[ft z p c k] else fs) (k+1) p7 p8 p9)):=by
 have l1:=uc z none (some p);have l2:=uc z (some (p+1)) none;have l3:(⟨#[wt (c/1638+7*(k:Int))]⟩:Str).length=1:=rfl;refine ⟨some (.str ⟨#[wt (c/1638+7*(k:Int))]⟩),some (.str (ft z p c k)),some (.lst (ws.map D.str)),?_⟩;have Y:bp 7 (av cC (vC (.str "abcdefghijklmnopqrstuvwxyz")) (av bz (av cT (av b8 (ag 0) (vC (.int 1638))) (av iJ ER (ag 6))) (vC (.int 26)))) (IP c m z4 z p fs k L J o9)=.ok (.nx (IP c m z4 z p fs k (some (.str ⟨#[wt (c/1638+7*(k:Int))]⟩)) J o9)) :=
  aL (ao rfl (bv (dQ (bL rfl rfl) (ao rfl rfl (zN (by decide)))) rfl) (PV (by trivial) (MV _)))
 have e8:bp 8 (av cT (av cT (Bg yf (ag 3) nN (hZ (ag 4))) (ag 7)) (Bg yf (ag 3) (hZ (av cT (ag 4) lR)) nN)) (IP c m z4 z p fs k (some (.str ⟨#[wt (c/1638+7*(k:Int))]⟩)) J o9)=.ok (.nx (IP c m z4 z p fs k (some (.str ⟨#[wt (c/1638+7*(k:Int))]⟩)) (some (.str (ft z p c k))) o9)) :=
  aL (ao (ao (uf rfl rfl (eV rfl) (Sn.trans (abn (by lia)))) rfl (HY.trans (abn (by lia)))) (uf rfl (eV (dQ rfl rfl)) rfl (Sn.trans (abn (by lia)))) (HY.trans (abn (by rw [Mn];lia))))
 refine (aw Y).trans ((aw e8).trans ((aw (aL (cp (ac rfl (ac rfl (ac rfl (ac rfl (ac rfl (ac rfl (ac rfl (ac rfl (ac rfl (ac rfl rfl))))))))))))).trans ?_));have q:(tV (bV (av yI (ag 8) (vC (.str "where")))) (bV (av vy (ag 8) (ag 9)))) (IP c m z4 z p fs k (some (.str ⟨#[wt (c/1638+7*(k:Int))]⟩)) (some (.str (ft z p c k))) (some (.lst (ws.map D.str))))=.ok (EN (ft z p c k)):=by
  unfold EN;by_cases e:ft z p c k="where"
  .refine (FD (bb (ao rfl rfl (zA.trans (by rw [abq e];rfl))))).trans ?_;rw [abq e];rfl
  .refine (Ft (bb (ao rfl rfl (zA.trans (by rw [abp e];rfl)))) (bb (ao rfl rfl rfl))).trans ?_;rw [abp e];rfl
 cases e:EN (ft z p c k) with
 | true =>
  rw [e] at q;rw [abn rfl];refine (aw ((bg q).trans (m4 rfl rfl (by rw [iN];lia)))).trans ((aL (dQ rfl rfl)).trans ?_);show R.ok (Fl.nx [_,_,_,_,_,some (D.lst (fs.map D.str++[D.str (ft z p c k)])),_,_,_,_])=_;rw [show fs.map D.str++[D.str (ft z p c k)]=(fs++[ft z p c k]).map D.str by simp];rfl
 | false =>
  rw [e] at q;rw [abo lT];exact (aw ((fY q).trans rfl)).trans ((aL (dQ rfl rfl)).trans rfl)
def zV {c p:Int} {m:Nat} {z4:D} {z:Str} (hz:z.length<=8) (hm:m<=8):∀ (r f:Nat) (ks:abu) (k:Nat) (Y o8 o9:Option D),ks.length+r=m->2*r < f->k<=2*ks.length->ks.Pairwise (· < ·)->(∀ j∈ks,j < k/\EN (ft z p c j)=true) ->
  ∃ (L:abu) (k':Nat) (p7 p8 p9:Option D),dq NT NB f (IP c (.int (m:Int)) z4 z p (ks.map (ft z p c)) k Y o8 o9)=.ok (.nx (IP c (.int (m:Int)) z4 z p (L.map (ft z p c)) k' p7 p8 p9))/\L.length=m/\L.Pairwise (· < ·)/\∀ j∈L,j < 2*m/\EN (ft z p c j)=true
 | 0,f+1,ks,k,Y,o8,o9,e,_,h1,h2,h3=>⟨ks,k,Y,o8,o9,Fa (bb (ao (b5 rfl (qf _ _)) rfl (vq.trans (by rw [iN,abp (by lia)])))),e,h2,fun j J=>⟨by have:=(h3 j J).1;lia,(h3 j J).2⟩⟩
 | r+1,f+2,ks,k,Y,o8,o9,e,hf,h1,h2,h3=>by
  have q:NT (IP c (.int (m:Int)) z4 z p (ks.map (ft z p c)) k Y o8 o9)=.ok true:=bb (ao (b5 rfl (qf _ _)) rfl (vq.trans (by rw [iN,abq (by lia)])));obtain ⟨p7,p8,p9,t⟩:=Kp (c:=c) (p:=p) (m:=.int (m:Int)) (z4:=z4) hz (ks.map (ft z p c)) k (by rw [iN];lia) Y o8 o9;rw [AG q t];have pw:∀ n,(∀ j∈ks,j < n)->(ks++[n]).Pairwise (· < ·):=fun n hn=>YH.mpr ⟨h2,Yg _ _,fun a ha b hb=>by rw [VM.mp hb];exact hn a ha⟩;cases ho:EN (ft z p c k) with
  | true =>
   rw [abn rfl,show ks.map (ft z p c)++[ft z p c k]=(ks++[k]).map (ft z p c) by simp];exact zV hz hm r (f+1) (ks++[k]) (k+1) p7 p8 p9 (by simp;lia) (by lia) (by simp;lia) (pw k fun j J=>(h3 j J).1) fun j J=>by
    rcases MK.mp J with g|g
    .exact ⟨Xy (h3 j g).1,(h3 j g).2⟩
    .rw [VM.mp g];exact ⟨XG _,ho⟩
  | false =>
   rw [abo lT];have q:NT (IP c (.int (m:Int)) z4 z p (ks.map (ft z p c)) (k+1) p7 p8 p9)=.ok true:=bb (ao (b5 rfl (qf _ _)) rfl (vq.trans (by rw [iN,abq (by lia)])));obtain ⟨r7,r8,r9,t⟩:=Kp (c:=c) (p:=p) (m:=.int (m:Int)) (z4:=z4) hz (ks.map (ft z p c)) (k+1) (by rw [iN];lia) p7 p8 p9;rw [AG q t,abn (KM ho),show ks.map (ft z p c)++[ft z p c (k+1)]=(ks++[k+1]).map (ft z p c) by simp];exact zV hz hm r f (ks++[k+1]) (k+1+1) r7 r8 r9 (by simp;lia) (by lia) (by simp;lia) (pw (k+1) fun j J=>Xy (h3 j J).1) fun j J=>by
    rcases MK.mp J with g|g
    .exact ⟨by have:=(h3 j g).1;lia,(h3 j g).2⟩
    .rw [VM.mp g];exact ⟨XG _,KM ho⟩
def Ng {α:FA} {U:Sd} {ds:abC} {g:Str->abC->R D} {z:Str} {r:R D} (h:α U=.ok ds) (J:g z ds=r):Rj g (vC (.str z)) α U=r:=by
 rw [UB];show (Vd g _ _ (.str z))=_;rw [Ur,h,aK,J]
def KH (f:Nat->Nat) (n:Nat) (hn:n<=1000):∃ z:Str,xH "" [.lst ((W1 n).map fun (k:Nat)=>D.str ⟨#[f k]⟩)]=.ok (.str z)/\z.cps.toList=(W1 n).map f:=by
 have J:((W1 n).map fun (k:Nat)=>(⟨#[f k]⟩:Str))=(((W1 n).map f).map fun c=>(⟨#[c]⟩:Str)):=by rw [V9];rfl
 have L:(V7 "").length=0:=by trivial
 refine ⟨_,OT (z:="") (strs_map (fun (k:Nat)=>(⟨#[f k]⟩:Str)) (W1 n)) (by rw [J,Hz,L,iN,iN,WM];lia),?_⟩;rw [J,Eu]
structure NmOk (y:Str):Prop where
 l0:1<=y.length
 l1:y.length<=8
 al:∀ c∈y.cps.toList,c∈al
 ok:EN y=true
 z:y≠"zzzzzzzz"
def Px:∀ a < 26,∀ d < 26,0 < d->al.getD ((a+7*d) % 26) 0≠al.getD a 0:=by trivial
def SM {z:Str} {p c:Int} {i j:Nat} (h:i < j) (J:j < 26):ft z p c i≠ft z p c j:=fun e=>by
 have e:=abt (fun y:Str=>y.cps.toList) e;simp only [FF,List.append_cancel_left_eq,abf] at e;obtain ⟨e,_⟩:=e;have k:=Px ((c/1638+7*(i:Int)) % 26).toNat (by lia) (j - i) (by lia) (by lia);unfold wt at e;rw [show ((c/1638+7*(j:Int)) % 26).toNat=(((c/1638+7*(i:Int)) % 26).toNat+7*(j - i)) % 26 by lia] at e;exact k e.symm
def Qx {z:Str} {p:Int} (h:0<=p):(lV z none (some p)).cps.toList.length=min p.toNat z.length:=by
 unfold lV;simp [HT.sIx,str_len];lia
def Qy {z:Str} {p:Int} (h:0<=p):(lV z (some (p+1)) none).cps.toList.length=z.length - (p.toNat+1):=by
 unfold lV;simp [HT.sIx,str_len];lia
def Tb (z:Str) (p:Nat):(lV z none (some (p:Int))).cps.toList=z.cps.toList.take p:=by
 unfold lV;rw [HT.jd,HT.pR];simp;rw [str_len]
 have:z.cps.toList.length=z.cps.size:=by simp
 lia
def Sw (z:Str) (p:Nat):(lV z (some ((p:Int)+1)) none).cps.toList=z.cps.toList.drop (p+1):=by
 unfold lV;rw [show (p:Int)+1=((p+1:Nat):Int) by push_cast;rfl,HT.jd,HT.pR];simp;rw [str_len];rcases Nat.le_total (p+1) z.cps.toList.length with h|h
 .rw [XJ h,W0 (by simp)]
 .rw [Nat.min_eq_right h];simp [Yq h]
def CF (i:Int):wt i=122->wt (i+5)≠122:=by
 have J:∀ j < 26,al.getD j 0=122->al.getD ((j+5) % 26) 0≠122:=by trivial
 have:((i+5) % 26).toNat=((i % 26).toNat+5) % 26:=by lia
 unfold wt;rw [this];exact J _ (by lia)
def Sr {z:Str} {c d:Int} {n p:Nat} (hp:p < n) (tz:z.cps.toList=(W1 n).map fun (k:Nat)=>wt (d+5*(0+(k:Int)))) (k:Nat):ft z (p:Int) c k≠"zzzzzzzz":=fun e=>by
 have e:=abt (fun y:Str=>y.cps.toList) e;have Y:("zzzzzzzz":Str).cps.toList=XY 8 122:=by trivial
 simp only [FF] at e;rw [Y,Tb,Sw,tz] at e;have hl:=abt aaj e;simp at hl;have h8:n=8:=by lia
 subst h8;have all:∀ x∈((W1 8).map fun (k:Nat)=>wt (d+5*(0+(k:Int)))).take p++wt (c/1638+7*(k:Int))::((W1 8).map fun (k:Nat)=>wt (d+5*(0+(k:Int)))).drop (p+1),x=122:=fun x L=>by
  rw [e] at L;exact (List.mem_replicate.mp L).2
 have at_:∀ i < 8,i≠p->wt (d+5*(0+(i:Int)))=122:=fun i hi J=>all _ (by
  refine MK.mpr ?_;rcases Nat.lt_or_gt_of_ne J with h|h
  .exact .inl (List.mem_take_iff_getElem.mpr ⟨i,by simp;lia,by simp⟩)
  .exact .inr (mK _ (List.mem_drop_iff_getElem.mpr ⟨i - (p+1),by simp;lia,by simp;congr 1;lia⟩)))
 by_cases h2:2<=p
 .exact CF _ (at_ 0 (by lia) (by lia)) (by rw [show d+5*(0+((0:Nat):Int))+5=d+5*(0+((1:Nat):Int)) by push_cast;lia];exact at_ 1 (by lia) (by lia))
 .exact CF _ (at_ 6 (by lia) (by lia)) (by rw [show d+5*(0+((6:Nat):Int))+5=d+5*(0+((7:Nat):Int)) by push_cast;lia];exact at_ 7 (by lia) (by lia))
def EF (c:Int) (m:Nat) (hm:m<=8):∃ ns:abv,nI [.int c,.int (m:Int)]=.ok (.lst (ns.map D.str))/\ns.length=m/\ns.Nodup/\∀ y∈ns,NmOk y:=by
 rw [Hh,qX];obtain ⟨n,en,hn,hn0⟩:∃ n:Nat,2+c % 7=(n:Int)/\n<=8/\0 < n:=⟨(2+c % 7).toNat,by lia,by lia,by lia⟩;obtain ⟨z,ez,J⟩:=KH (fun k=>wt (c/7+5*(0+(k:Int)))) n (by lia);have hz:z.length<=8:=by rw [str_len,J,iN,WM];exact hn
 have ha:∀ i,wt i∈al:=fun i=>Xs (NK i);have hk:∀ d∈z.cps.toList,d∈al:=fun d hd=>by
  rw [J] at hd;obtain ⟨k,_,rfl⟩:=Wa.mp hd;exact ha _
 have e2:bp 2 (av cT wF (av bz (ag 0) ER)) [some (.int c),some (.int (m:Int)),none,none,none,none,none,none,none,none]=.ok (.nx [some (.int c),some (.int (m:Int)),some (.int (n:Int)),none,none,none,none,none,none,none]) :=
  (aL (dQ rfl (bv rfl rfl))).trans (by rw [en];rfl)
 have e3:bp 3 NR [some (.int c),some (.int (m:Int)),some (.int (n:Int)),none,none,none,none,none,none,none]=.ok (.nx [some (.int c),some (.int (m:Int)),some (.int (n:Int)),some (.str z),none,none,none,none,none,none]):=by
  refine aL (Ng (ac (cG (xE (n:=n) rfl (by lia)) (jU _ _ _ (fun k hk=>?_) (by rw [WM];lia))) rfl) ez);exact ao rfl (bv (dQ (bL rfl rfl) (ao rfl rfl (zN (by decide)))) rfl) (PV (by trivial) (MV _))
 obtain ⟨ks,k',p7,p8,p9,e,h1,h2,h3⟩:=zV (c:=c) (p:=c/182 % (n:Int)) (m:=m) (z4:=.int (n:Int)) hz hm m 1000 [] 0 none none none (by simp) (by lia) (by simp) Ys (fun y Y=>nomatch Y)
 refine ⟨ks.map (ft z (c/182 % (n:Int)) c),ay ((aw e2).trans ((aw e3).trans ((aw (aL (bv (bL rfl rfl) rfl (by lia)))).trans ((aw (iU (cp rfl))).trans ((aw (aL rfl)).trans ((aw e).trans (ax rfl))))))),by rw [iN,h1],?_,fun y Y=>?_⟩
 .rw [Y5,Xz];exact h2.imp_of_mem fun {a b} _ hb g=>SM g (by have:=(h3 b hb).1;lia)
 .obtain ⟨k,L,rfl⟩:=Wa.mp Y;have l1:=uc z none (some (c/182 % (n:Int)));have l2:=uc z (some (c/182 % (n:Int)+1)) none;have tl:=FF z (c/182 % (n:Int)) c k;refine ⟨by rw [str_len,tl];simp;lia,?_,fun d hd=>?_,(h3 k L).2,?_⟩
  .have b0:0<=c/182 % (n:Int):=Yh _ (by lia);have b1:c/182 % (n:Int) < (n:Int):=Yi _ (by lia);have zl:z.length=n:=by rw [str_len,J,iN,WM]
   rw [str_len,tl,VU,V3,Qx b0,Qy b0,zl];lia
  .rw [tl] at hd;rcases MK.mp hd with q|q
   .exact hk d (ET q)
   .rcases nE.mp q with q|q
    .rw [q];exact ha _
    .exact hk d (ET q)
  .obtain ⟨p,ep⟩:∃ p:Nat,c/182 % (n:Int)=(p:Int):=⟨(c/182 % (n:Int)).toNat,(YT (Yh _ (by lia))).symm⟩;rw [ep];exact Sr (n:=n) (by have:=Yi (c/182) (show (0:Int) < (n:Int) by lia);lia) J k
theorem zY (a b:Nat):(([a]:abu) < [b]) ↔ a < b:=by
 constructor
 .intro h;cases h with
  | rel h=>exact h
  | cons h=>cases h
 .exact fun h=>List.Lex.rel h
def RS:∀ c∈al,97<=c/\c<=122:=by trivial
def QZ (c:Nat) (h:97<=c):KR (.str ⟨#[c]⟩) (.str "a")=.ok (.bl true):=by
 have J:(V7 "a").cps.toList=[97]:=by trivial
 rw [Q6,J];show R.ok (D.bl _)=_;simp only [zY];simp [h]
def S5 (c:Nat) (h:c<=122):HP (.str ⟨#[c]⟩) (.str "z")=.ok (.bl true):=by
 have J:(V7 "z").cps.toList=[122]:=by trivial
 rw [Ri,J];show R.ok (D.bl _)=_;simp only [zY];simp [h]
def GD {c:Nat} (h:c∈al):lX [.str ⟨#[c]⟩]=.ok (.bl true):=by
 rw [Bx,mn];obtain ⟨h1,h2⟩:=RS c h;exact ay (ax (bZ (ao rfl rfl (QZ c h1)) (ao rfl rfl (S5 c h2))))
def uA {y:Str} (h:NmOk y):kE [.str y]=.ok (.bl true):=by
 rw [Hd,qO];have hl:=h.l1;have l0:=h.l0;have ne:¬ y="":=fun e=>by
  rw [e] at l0;exact absurd l0 (by trivial)
 have Y:bV (av dR (ag 0) (vC (.str ""))) [some (.str y)]=.ok false:=bb (ao rfl rfl (mj.trans (by rw [abp ne])));have q2:bV (av HI (aj cw (ab (ag 0) am)) (vC kO)) [some (.str y)]=.ok false:=bb (ao (b5 rfl (Nz.trans (abn (by lia)))) rfl (Eb.trans (by rw [abp (by lia)])));have ni:vy (.str y) pb=.ok (.bl true):=by
  have:vy (.str y) pb=.ok (.bl (!HH (.str y) ((ws++[("where":Str)]).map V.str))):=rfl
  rw [this];have J:=h.ok;unfold EN at J;rw [V4] at J;obtain ⟨k1,k2⟩:=J;unfold HH at k2 ⊢;rw [Wx,List.any_append];have k1:¬ y="where":=by simpa using k1
  have k2:((ws.map V.str).any fun z=>L2.eqV z (.str y))=false:=by simpa using k2
  rw [k2]
  have:([("where":Str)].map V.str).any (fun z=>L2.eqV z (.str y))=false:=by
   show ((V7 "where"==y)||false)=false;rw [Bool.or_false,beq_eq_false_iff_ne];exact fun e=>k1 e.symm
  rw [this];rfl
 exact ay ((skip (g9 (ck (aV (cz rfl s_s) rfl)) (g9 Y q2))).trans (ax (bZ (gb (b:=true) (BM (fun c:Nat=>D.str ⟨#[c]⟩) (fun _=>true) (dt rfl EW) (fun c L=>ai (ac rfl rfl) (GD (h.al c L))) (by rw [<- str_len];lia)) (by simp)) (ao rfl rfl ni))))
def Kd (z:Str):Prop:=z="number"\/z="text"
structure Sh (nm:Str) (cs:List (Str×Str)):Prop where
 n:NmOk nm
 l0:1<=cs.length
 l1:cs.length<=8
 nd:(cs.map VP).Nodup
 c:∀ q∈cs,NmOk q.1/\Kd q.2
def MJ {ks:abv} (h:ks.Nodup):hG ks=ks:=by
 have J:∀ n,hG (ks.take n)=ks.take n:=by
  intro n;induction n with
  | zero=>rfl
  | succ n L =>
   rcases ZM n ks.length with hn|hn
   .rw [Wu hn,u5,L,abo fun z=>?_]
    have:=h.sublist (Zj (n+1) ks)
    rw [Wu hn,Yu] at this;exact this.2.2 _ z _ (by simp) rfl
   .rw [W0 (by lia)] at L ⊢;exact L
 have:=J ks.length
 rwa [X3] at this
def Lu {zs:abv} (h:zs.length<=100) (J:zs.Nodup):qS [.lst (zs.map D.str)]=.ok (.int (zs.length:Int)):=by
 have:qS [.lst (zs.map D.str)]=.ok (.int ((hG zs).length:Nat)):=by
  unfold qS;dsimp only;rw [show su (zs.map D.str)=some zs from (strs_map (fun z=>z) zs).trans (by rw [Y8])];dsimp only;rw [abn (by lia)]
 rw [this,MJ J]
def Aq {a b:D}:iW [.tup [a,b]]=.ok (.bl true):=by
 rw [zC,nv];exact ay (ax (bZ (cz rfl t_t) (ao (b5 rfl tQ) rfl (wf.trans (by rw [abq (by rfl)])))))
def F4 {q:Str×Str} (h:NmOk q.1/\Kd q.2):l7 [eJ q]=.ok (.bl true):=by
 rw [Cd,me];have J:i6 [.str q.2]=.ok (.bl true):=by
  rcases h.2 with e|e <;> rw [e] <;> kernel_rfl
 exact ay (ax (bZ (ai (ac rfl rfl) Aq) (bZ (ai (ac (ao rfl rfl cf) rfl) (uA h.1)) (ai (ac (ao rfl rfl ca) rfl) J))))
section
variable {nm:Str} {cs:List (Str×Str)}
def Sh.cols (h:Sh nm cs):c5 [.tup (cs.map eJ)]=.ok (.bl true):=by
 rw [sq,gp];have l0:=h.l0;have l1:=h.l1;have L:∀ {U:Sd},aj cw (ab (ag 0) am) (some (.tup (cs.map eJ))::U)=.ok (.int (cs.length:Int)):=b5 rfl (Iv _ _);have Y:bK [none] (gf (ag 0)) (.one 0) de (uI 0 0) [some (.tup (cs.map eJ)),none]=.ok (.lst ((cs.map VP).map D.str)):=by
  rw [V9];exact cG (dt rfl rfl) (jU eJ _ cs (fun q J=>ao rfl rfl cf) (by lia))
 refine ay ((skip (g9 (ck (aV (cz rfl t_t) rfl)) (g9 (bb (ao L rfl (vq.trans (by rw [abp (by lia)])))) (bb (ao L rfl (Eb.trans (by rw [abp (by lia)]))))))).trans ((skip (ck (aV (gb (b:=true) (BM eJ (fun _=>true) (dt rfl rfl) (fun q J=>ai (ac rfl rfl) (F4 (h.c q J))) (by lia)) (by simp)) rfl))).trans ((aw (aL Y)).trans (ax ?_))));exact ao (ai (ac rfl rfl) (Lu (by rw [iN];lia) h.nd)) (b5 rfl (qf _ _)) (wf.trans (by rw [abq rfl]))
theorem Sh.ok (h:Sh nm cs):cu [cb nm cs]=.ok (.bl true):=by
 rw [sG,iQ];exact ay (ax (bZ (ai (ac rfl rfl) Aq) (bZ (ai (ac (ao rfl rfl cf) rfl) (uA h.n)) (ai (ac (ao rfl rfl ca) rfl) h.cols))))
def Aj {d:D} (h:iW [d]=.ok (.bl false)):cu [d]=.ok (.bl false):=by
 rw [sG,iQ];exact ay (ax (og (ai (ac rfl rfl) h)))
def Ar {d:D} (h:dH [d,.ty "tuple"]=.ok (.bl false)):iW [d]=.ok (.bl false):=by
 rw [zC,nv];exact ay (ax (og (cz rfl h)))
def FB (h:NmOk nm) {d:D} (hd:c5 [d]=.ok (.bl false)):cu [.tup [.str nm,d]]=.ok (.bl false):=by
 rw [sG,iQ];exact ay (ax (bZ (ai (ac rfl rfl) Aq) (bZ (ai (ac (ao rfl rfl cf) rfl) (uA h)) (ai (ac (ao rfl rfl ca) rfl) hd))))
def JM:c5 [.tup []]=.ok (.bl false):=by kernel_rfl
def Jg {xs:abC}:c5 [.lst xs]=.ok (.bl false):=by
 rw [sq,gp];exact ay (bD ((bg (Gz (pU (aV (cz rfl l_t) rfl)))).trans (ax rfl)))
end
def UX {c n:Nat} {a:Str} (e:a.cps.toList=[n]) (h:n<=c):KR (.str ⟨#[c]⟩) (.str a)=.ok (.bl true):=by
 rw [Q6,e];show R.ok (D.bl _)=_;simp only [zY];simp [h]
def UN {c n:Nat} {a:Str} (e:a.cps.toList=[n]) (h:c<=n):HP (.str ⟨#[c]⟩) (.str a)=.ok (.bl true):=by
 rw [Ri,e];show R.ok (D.bl _)=_;simp only [zY];simp [h]
def Pa:∀ c∈tab,32<=c/\c<=126:=by trivial
def zv {z:Str} (h:Vl 40 (.str z)):cr [.str z]=.ok (.bl true):=by
 rw [xZ,lu];have L:=h.1;refine ay (bD ((bg (aV (cz rfl s_s) rfl)).trans (ax (bZ (ao (b5 rfl (Nz.trans (abn (by lia)))) rfl (OQ.trans (by rw [abq (by lia)]))) (gb (b:=true) (BM (fun c:Nat=>D.str ⟨#[c]⟩) (fun _=>true) (dt rfl EW) (fun c J=>ai (ac rfl rfl) ?_) (by rw [<- str_len];lia)) (by simp))))));obtain ⟨h1,h2⟩:=Pa c (h.2 c J);rw [G3,qT];exact ay (ax (bZ (ao rfl rfl (UX (by trivial) h1)) (ao rfl rfl (UN (by trivial) h2))))
def i_s {i:Int}:dH [.int i,.ty "str"]=.ok (.bl false):=by kernel_rfl
def K8 {a:Int}:cr [.int a]=.ok (.bl (decide ((if a < 0 then -a else a) < 1000000000000000000))):=by
 rw [xZ,lu];exact ay ((skip (aV (cz rfl i_s) rfl)).trans (bD ((bg (Ft (aV (cz rfl i_i) rfl) (pU (aV (cz rfl i_b) rfl)))).trans (ax (ao (ai (ac rfl rfl) QQ) CC vq)))))
def fk {v:D} {kd:Str} {b:Bool} (hn:BB v .non=.ok (.bl false)) (Y:Vl 100 v) (J:cr [v]=.ok (.bl true)) (L:decide (kw (kx v)=kd)=b):bN [v,.str kd]=.ok (.bl b):=by
 rw [pK,gU];exact ay (ax (J1 (ao rfl rfl hn) (bZ (ai (ac rfl rfl) J) (ao (ai (ac rfl rfl) (kind Y)) rfl (mj.trans (by rw [L]))))))
def Of {kd:Str}:Gv kd .non:=⟨WX,by kernel_rfl,by
 rw [pK,gU];exact ay (ax (M1 (ao rfl rfl rfl))),fun z=>nomatch z⟩
def HN {a:Int} (h:-1000000000000000000 < a/\a < 1000000000000000000):Gv "number" (.int a) :=
 have J:cr [.int a]=.ok (.bl true):=gb K8 (abq (by split <;> lia))
 ⟨WX,J,fk rfl WX J (show decide (kw 1="number")=true by trivial),fun z=>nomatch z⟩
def Os {z:Str} (h:Vl 40 (.str z)) (o:z≠"other"):Gv "text" (.str z) :=
 ⟨h,zv h,fk rfl (h.mono (by decide)) (zv h) (show decide (kw 2="text")=true by trivial),fun e=>o (by injection e)⟩
def Ln (c:Int):ml [.int c]=.ok (.str ⟨#[lD c]⟩):=by
 rw [B6,mz];exact ay ((aw (aL rfl)).trans ((aw (aL (ao rfl rfl (HY.trans (abn (by trivial)))))).trans (ax (ao rfl (bv rfl rfl) (PV (by trivial) (PD c))))))
def UR (i st:Int) (L:st=0\/st=1\/st=7) (h:lD i=111):lD (i+st)≠116:=by
 have J:∀ j < 94,tab.getD j 0=111->tab.getD (j % 94) 0≠116/\tab.getD ((j+1) % 94) 0≠116/\tab.getD ((j+7) % 94) 0≠116:=by trivial
 have k:=J (i % 94).toNat (by lia) h;unfold lD;rcases L with rfl|rfl|rfl
 .rw [show ((i+0) % 94).toNat=(i % 94).toNat % 94 by lia];exact k.1
 .rw [show ((i+1) % 94).toNat=((i % 94).toNat+1) % 94 by lia];exact k.2.1
 .rw [show ((i+7) % 94).toNat=((i % 94).toNat+7) % 94 by lia];exact k.2.2
def K1 (c st:Int) (n:Nat) (hn:n<=40) (hs:st=0\/st=1\/st=7):∃ z:Str,TJ [some (.int c),some (.int (n:Int)),some (.int st)]=.ok (.str z)/\Vl 40 (.str z)/\z≠"other":=by
 obtain ⟨z,ez,J⟩:=KH (fun k=>lD (c/1476+st*(0+(k:Int)))) n (by lia);refine ⟨z,Ng (ac (cG (xE (n:=n) rfl (by lia)) (jU _ _ _ (fun k hk=>?_) (by rw [WM];lia))) rfl) ez,⟨by rw [str_len,J,iN,WM];exact hn,fun d hd=>?_⟩,fun e=>?_⟩
 .exact ai (ac (dQ (bL rfl rfl) (ao rfl rfl (zN (by lia)))) rfl) (Ln _)
 .rw [J] at hd;obtain ⟨k,_,rfl⟩:=Wa.mp hd;exact LU _
 .have eo:("other":Str).cps.toList=[111,116,104,101,114]:=by trivial
  rw [e,eo] at J;have Y:=abt aaj J;simp at Y;subst Y;have L:=abt (fun l:abu=>l.getD 0 0) J;have h1:=abt (fun l:abu=>l.getD 1 0) J;have L:111=lD (c/1476+st*(0+((0:Nat):Int))):=L;have h1:116=lD (c/1476+st*(0+((1:Nat):Int))):=h1;refine UR _ st hs L.symm ?_;rw [h1];congr 1
  push_cast
  rw [Int.mul_zero,Int.add_zero,Int.mul_one]
def Mh (c:Int):∃ z:Str,mx [.int c]=.ok (.str z)/\Vl 40 (.str z)/\z≠"other":=by
 rw [Cy,lY];obtain ⟨st,J,Y⟩:∃ st:Int,cC (.lst [.int 0,.int 1,.int 7]) (.int (c/492 % 3))=.ok (.int st)/\(st=0\/st=1\/st=7):=by
  rcases (show c/492 % 3=0\/c/492 % 3=1\/c/492 % 3=2 by lia) with e|e|e <;> rw [e]
  .exact ⟨_,nO,by decide⟩
  .exact ⟨_,xw,by decide⟩
  .exact ⟨_,ND,by decide⟩
 have q:bV (av dR (av bz (av b8 (ag 0) Dm) zk) lR) [some (.int c),some (.int (c % 4)),none]=.ok (decide (c/4 % 3=1)):=ph (bv (bL rfl rfl) rfl) rfl;obtain ⟨n,hn,e1⟩:∃ n:Nat,n<=40/\∀ T:FS,aD (bp 1 (av bz (ag 0) Dm)) (aD (fb (bV (av dR (av bz (av b8 (ag 0) Dm) zk) lR)) (bp 1 (av bz (av b8 (ag 0) GL) (vC (.int 41)))) bu) T) [some (.int c),none,none]=T [some (.int c),some (.int (n:Int)),none]:=by
  by_cases h:c/4 % 3=1
  .rw [abq h] at q;refine ⟨(c/12 % 41).toNat,by lia,fun T=>?_⟩;rw [show (((c/12 % 41).toNat:Nat):Int)=c/12 % 41 by lia];exact (aw (aL (bv rfl rfl))).trans (aw ((bg q).trans (aL (bv (bL rfl rfl) rfl))))
  .rw [abp h] at q;refine ⟨(c % 4).toNat,by lia,fun T=>?_⟩;rw [show (((c % 4).toNat:Nat):Int)=c % 4 by lia];exact (aw (aL (bv rfl rfl))).trans (skip q)
 obtain ⟨z,L,hz⟩:=K1 c st n hn Y;exact ⟨z,ay ((e1 _).trans ((aw (aL (ao (cp (ac rfl (ac rfl (ac rfl rfl)))) (bv (bL rfl rfl) rfl) J))).trans (ax L))),hz⟩
def HM (lo:Int) (n:Nat):i7 lo (n+1)=.int lo::i7 (lo+1) n:=by
 unfold i7;rw [List.range_succ_eq_map,By,V9];refine congr (abt List.cons (by simp)) (WI fun k _=>?_);show D.int (lo+((k+1:Nat):Int))=_;congr 1
 push_cast
 lia
def Uj {k:Nat} (h:k < 8):∃ j:Int,cC (.lst [.int 4,.int 8,.int 16,.int 32,.int 64,.int 128,.int 256,.int 512]) (.int (k:Int))=.ok (.int j)/\0 < j/\j < 1073741824:=by
 rcases (show k=0\/k=1\/k=2\/k=3\/k=4\/k=5\/k=6\/k=7 by lia) with rfl|rfl|rfl|rfl|rfl|rfl|rfl|rfl <;> exact ⟨_,wm (cj rfl),by decide⟩
def Ti {i:Int} (J:0<=i) (h1:i < 8):∃ m:Nat,cC (.lst [.int 1,.int 2,.int 3,.int 4,.int 1,.int 2,.int 8,.int 5]) (.int i)=.ok (.int (m:Int))/\1<=m/\m<=8:=by
 rcases (show i=0\/i=1\/i=2\/i=3\/i=4\/i=5\/i=6\/i=7 by lia) with rfl|rfl|rfl|rfl|rfl|rfl|rfl|rfl
 .exact ⟨1,nO,by decide⟩
 .exact ⟨2,xw,by decide⟩
 .exact ⟨3,ND,by decide⟩
 .exact ⟨4,SL,by decide⟩
 .exact ⟨1,S6,by decide⟩
 .exact ⟨2,Rg,by decide⟩
 .exact ⟨8,RX,by decide⟩
 .exact ⟨5,QV,by decide⟩
def Si {i:Int} (J:0<=i) (h1:i < 2):∃ z:Str,cC (.lst [.str "number",.str "text"]) (.int i)=.ok (.str z)/\Kd z:=by
 rcases (show i=0\/i=1 by lia) with rfl|rfl
 .exact ⟨_,nO,.inl rfl⟩
 .exact ⟨_,xw,.inr rfl⟩
def FL {nm:D} {c:Int} {ns:abv} (hn:ns.length<=8):∀ (n k:Nat) (cs:List (Str×Str)) (o4 o5:Option D),k+n=ns.length->cs.map VP=ns.take k->(∀ q∈cs,Kd q.2) ->
  ∃ (J:List (Str×Str)) (Y L:Option D),gt (.one 4) SB (i7 (k:Int) n) [some nm,some (.int c),some (.lst (ns.map D.str)),some (.lst (cs.map eJ)),o4,o5]=.ok (.nx [some nm,some (.int c),some (.lst (ns.map D.str)),some (.lst (J.map eJ)),Y,L])/\J.map VP=ns/\∀ q∈J,Kd q.2
 | 0,k,cs,o4,o5,e,l,h=>⟨cs,o4,o5,rfl,by rw [l,W0 (by lia)],h⟩
 | n+1,k,cs,o4,o5,e,l,h=>by
  obtain ⟨j,ej,h1,h2⟩:=Uj (k:=k) (by lia);obtain ⟨z,ez,hz⟩:=Si (i:=c/j % 2) (by lia) (by lia);have hk:k < ns.length:=by lia
  have ey:ns[k]?=some ns[k]:=BY hk;have lc:cs.length=k:=by have:=abt aaj l;simp at this;lia
  obtain ⟨J,Y,L,e',l',h'⟩:=FL (nm:=nm) (c:=c) hn n (k+1) (cs++[(ns[k],z)]) (some (.int (k:Int))) (some (.str z)) (by lia) (by rw [Wx,l,Wu hk];rfl) fun q hq=>by
   rcases MK.mp hq with g|g
   .exact h q g
   .rw [VM.mp g];exact hz
  refine ⟨J,Y,L,?_,l',h'⟩;have t:SB (Zy [some nm,some (.int c),some (.lst (ns.map D.str)),some (.lst (cs.map eJ)),o4,o5] 4 (some (.int (k:Int))))=.ok (.nx [some nm,some (.int c),some (.lst (ns.map D.str)),some (.lst (cs.map eJ++[eJ (ns[k],z)])),some (.int (k:Int)),some (.str z)]) :=
   (aw (aL (ao (cp (ac rfl (ac rfl rfl))) (bv (bL rfl (ao (cp (ac rfl (ac rfl (ac rfl (ac rfl (ac rfl (ac rfl (ac rfl (ac rfl rfl))))))))) rfl ej) ⟨h1,h2⟩) rfl) ez))).trans
    ((m4 rfl (b9 (ac (ao rfl rfl (Ov _ _ ey)) (ac rfl rfl))) (by rw [iN];lia)).trans rfl)
  rw [HM,oZ t,show cs.map eJ++[eJ (ns[k],z)]=(cs++[(ns[k],z)]).map eJ by simp,show (k:Int)+1=((k+1:Nat):Int) by push_cast;rfl];exact e'
def x5 {nm:Str} (hn:NmOk nm) (c:Int):∃ cs:List (Str×Str),hV [.str nm,.int c]=.ok (cb nm cs)/\Sh nm cs:=by
 rw [A1,kj];obtain ⟨m,em,h1,h2⟩:=Ti (i:=c % 8) (by lia) (by lia);obtain ⟨ns,en,Y,L,tn⟩:=EF (c/16) m h2;obtain ⟨cs,o4,o5,e,l,h⟩:=FL (nm:=.str nm) (c:=c) (ns:=ns) (by lia) ns.length 0 [] none none (by lia) rfl fun q J=>nomatch J
 have lc:cs.length=m:=by rw [<- Y,<- l,iN]
 exact ⟨cs,ay ((aw (aL (ai (ac (bL rfl rfl) (ac (ao (cp (ac rfl (ac rfl (ac rfl (ac rfl (ac rfl (ac rfl (ac rfl (ac rfl rfl))))))))) (bv rfl rfl) em) rfl)) en))).trans ((aw (iU (cp rfl))).trans ((aw (mM (xE (n:=ns.length) (b5 rfl (qf _ _)) (by lia)) e)).trans (ax (b9 (ac rfl (ac (ai (ac rfl rfl) FQ) rfl))))))),
  hn,by lia,by lia,by rw [l];exact L,fun q J=>⟨tn _ (by rw [<- l];exact Wa.mpr ⟨q,J,rfl⟩),h q J⟩⟩
def p12 {U:Sd}:av pY ul GL U=.ok (.int 1000000000000):=ao rfl rfl ((FU (by decide)).trans rfl)
def O0 {φ ψ:FE} {U:Sd} {a b:Str} (h1:φ U=.ok (.str a)) (h2:ψ U=.ok (.str b)):bV (av dR φ ψ) U=.ok (decide (a=b)):=bb (ao h1 h2 mj)
abbrev Tj (s:D) (c:Int) (rw_:abC) (J:Int) (q:Str×Str) (x:Int):Sd:=[some s,some (.int c),some (.lst rw_),some (.int J),some (eJ q),some (.int x)]
def Lb {s:D} {c w:Int} {rw_:abC} {q:Str×Str} {o5:Option D} (hl:rw_.length < 1000) (hk:Kd q.2):∃ v J o5',Gv q.2 v/\RB [some s,some (.int c),some (.lst rw_),some (.int w),some (eJ q),o5]=.ok (.nx [some s,some (.int c),some (.lst (rw_++[v])),some (.int J),some (eJ q),o5']):=by
 have hd:∀ T:FS,aD (bp 3 (av bz (av cT (av iJ (ag 3) kl) (vC (.int 11))) kf)) (aD (bp 5 (av b8 (ag 3) (vC (.int 641)))) T) [some s,some (.int c),some (.lst rw_),some (.int w),some (eJ q),o5]=T [some s,some (.int c),some (.lst rw_),some (.int ((w*48271+11) % 2147483647)),some (eJ q),some (.int ((w*48271+11) % 2147483647/641))]:=fun T =>
  (aw (aL (bv (dQ (mY rfl rfl) rfl) rfl))).trans (aw (aL (bL rfl rfl)))
 rw [show RB=aD (bp 3 (av bz (av cT (av iJ (ag 3) kl) (vC (.int 11))) kf)) (aD (bp 5 (av b8 (ag 3) (vC (.int 641)))) _) from rfl,hd];generalize (w*48271+11) % 2147483647=J;generalize J/641=x;have L:rR (bV (av dR (av bz (ag 5) sC) oJ)) (bV (av dR (av bz (ag 1) IB) sC)) (Tj s c rw_ J q x)=.ok (decide (x % 5=0)||decide (c % 16=5)):=by
  have Y:bV (av dR (av bz (ag 5) sC) oJ) (Tj s c rw_ J q x)=.ok (decide (x % 5=0)):=ph (bv rfl rfl) rfl;have a2:bV (av dR (av bz (ag 1) IB) sC) (Tj s c rw_ J q x)=.ok (decide (c % 16=5)):=ph (bv rfl rfl) rfl;cases e:decide (x % 5=0) with
  | true=>rw [e] at Y;exact Gz Y
  | false=>rw [e] at Y;exact g9 Y a2
 cases e1:(decide (x % 5=0)||decide (c % 16=5)) with
 | true=>rw [e1] at L;exact ⟨.non,J,some (.int x),Of,(bg L).trans (m4 rfl rfl hl)⟩
 | false =>
  rw [e1] at L;rw [fY L];have q2:bV (av dR (uI 4 1) (vC (.str "text"))) (Tj s c rw_ J q x)=.ok (decide (q.2="text")):=O0 (ao rfl rfl ca) rfl;cases e2:decide (q.2="text") with
  | true =>
   rw [e2] at q2;obtain ⟨z,ez,hz,ho⟩:=Mh (x/5);exact ⟨.str z,J,some (.int x),by rw [abr e2];exact Os hz ho,(bg q2).trans (m4 rfl (ai (ac (bL rfl rfl) rfl) ez) hl)⟩
  | false =>
   rw [e2] at q2;rw [fY q2];have hk:q.2="number":=hk.resolve_right (of_decide_eq_false e2);have q3:bV (av dR (av bz (av b8 (ag 5) sC) zk) oJ) (Tj s c rw_ J q x)=.ok (decide (x/5 % 3=0)):=ph (bv (bL rfl rfl) rfl) rfl;cases e3:decide (x/5 % 3=0) with
   | true =>
    rw [e3] at q3;exact ⟨.int _,J,some (.int x),by rw [hk];exact HN (by lia),(bg q3).trans (m4 rfl (dQ (xK (bv (mY rfl (dQ p12 rfl)) (xK (ao rfl CC (zN (by decide))) rfl)) CC) rfl) hl)⟩
   | false =>
    rw [e3] at q3;exact ⟨.int _,J,some (.int x),by rw [hk];exact HN (by lia),(fY q3).trans (m4 rfl (xK (bv (bL rfl rfl) rfl) rfl) hl)⟩
def FX {s:D} {c:Int}:∀ (cs:List (Str×Str)) (r:abC) (w:Int) (o4 o5:Option D),r.length+cs.length<=8->(∀ q∈cs,Kd q.2) ->
  ∃ vs w' L J,gt (.one 4) RB (cs.map eJ) [some s,some (.int c),some (.lst r),some (.int w),o4,o5]=.ok (.nx [some s,some (.int c),some (.lst (r++vs)),some (.int w'),L,J])/\RowOk cs vs
 | [],r,w,o4,o5,_,h=>⟨[],w,o4,o5,by rw [WC];rfl,rfl,fun p Y=>nomatch Y⟩
 | q::cs,r,w,o4,o5,hl,h=>by
  rw [V3] at hl;obtain ⟨v,w',J,hv,t⟩:=Lb (s:=s) (c:=c) (w:=w) (rw_:=r) (q:=q) (o5:=o5) (by lia) (h q (by simp));obtain ⟨vs,w2,L,o52,e,l,h'⟩:=FX (s:=s) (c:=c) cs (r++[v]) w' (some (eJ q)) J (by simp;lia) fun x hx=>h x (mK _ hx);refine ⟨v::vs,w2,L,o52,?_,by simp [l],fun p Y=>?_⟩
  .have t:RB (Zy [some s,some (.int c),some (.lst r),some (.int w),o4,o5] 4 (some (eJ q)))=_:=t;rw [By,oZ t,e];simp
  .rw [Wp] at Y;rcases nE.mp Y with rfl|Y
   .exact hv
   .exact h' p Y
def Kl {nm:Str} {cs:List (Str×Str)} (h:Sh nm cs) (c:Int):∃ r,lx [cb nm cs,.int c]=.ok (.tup r)/\RowOk cs r:=by
 rw [De,pd];obtain ⟨r,w,o4,o5,e,l⟩:=FX (s:=cb nm cs) (c:=c) cs [] ((c*69621+7) % 2147483647) none none (by simpa using h.l1) fun q J=>(h.c q J).2;exact ⟨r,ay ((aw (iU (cp rfl))).trans ((aw (aL (bv (dQ (mY rfl rfl) rfl) rfl))).trans ((aw (mM (dt (ao rfl rfl ca) rfl) e)).trans (ax (ai (ac rfl rfl) FQ))))),l⟩
section
variable {kvs:List (Key×D)} {n c nm:Str} {d s:D} {cs:List (Str×Str)} {rk ik:List (Key×D)}
def tq (J:kvs.length < 1000):fE [.dcf kvs,.str n,d]=.ok (.dcf (cI kvs (.inr n) d)):=by
 rw [zO,kq];exact ay ((aw (iU (ai (ac rfl rfl) vw))).trans ((aw (gH rfl rfl rfl rfl J)).trans ((qH rfl).trans (ax rfl))))
def OO:Ag (.str n) (.dcf kvs)=.ok (.bl (!(ci kvs (.inr n)).isSome)):=rfl
def M2:Mw (.str n) (.dcf kvs)=.ok (.bl (ci kvs (.inr n)).isSome):=rfl
def BL (h:ci kvs (.inr n)=some d):lw [.dcf kvs,.str n]=.ok d:=by
 rw [Da,oY];exact ay ((skip (g9 (ck (aV (cz rfl s_s) rfl)) (bb (ao rfl rfl (OO.trans (by rw [h];rfl)))))).trans (ax (ao rfl rfl (pH rfl h).1)))
def DL (h:Sh nm cs) (hn:ci kvs (.inr nm)=none) (J:kvs.length < 1000):cN [.dcf kvs,cb nm cs]=.ok (.dcf (cI kvs (.inr nm) (tb (cb nm cs) (.dcf []) (.dcf [])))):=by
 rw [sE,dY];exact ay ((skip (ck (aV (ai (ac rfl rfl) h.ok) rfl))).trans ((skip (bb (ao (ao rfl rfl cf) rfl (M2.trans (by rw [hn];rfl))))).trans (ax (ai (ac rfl (ac (ao rfl rfl cf) (ac (ai (ac rfl rfl) zL) rfl))) (tq J)))))
def Ku {m:Int} {x:abC} (Y:Sh nm cs) (J:ci kvs (.inr nm)=some (tb (cb nm cs) (.dcf rk) (.dcf []))) (L:rk.length < 1000) (hl:kvs.length < 1000) (hm:1<=m/\m<=40) (hx:RowOk cs x) :
  dj [.dcf kvs,.str nm,.int m,.tup x]=.ok (.dcf (cI kvs (.inr nm) (tb (cb nm cs) (.dcf (cI rk (.inl m) (.tup x))) (.dcf [])))):=by
 rw [vh,fF];have l1:=Y.l1;exact ay ((aw (aL (ai (ac rfl (ac rfl rfl)) (BL J)))).trans ((skip (ck (aV (ai (ac rfl rfl) (pj (by lia))) rfl))).trans ((skip (ck (aV (ai (ac (a7 rfl dL) (ac rfl rfl)) (hx.fits (by lia))) rfl))).trans (ax (ai (ac rfl (ac rfl (ac (ai (ac rfl (ac rfl (ac rfl rfl))) (Kh L)) rfl))) (tq hl))))))
def LN (hr:Rk cs rk) (L:ci kvs (.inr nm)=some (tb (cb nm cs) (.dcf rk) (.dcf ik))) (hi:ik.length<=100) (hl:kvs.length < 1000) (J:c∈cs.map VP) (hn:ci ik (.inr c)=none) :
  ∃ d,cP [.dcf kvs,.str nm,.str c]=.ok (.dcf (cI kvs (.inr nm) (tb (cb nm cs) (.dcf rk) (.dcf (ik++[(.inr c,d)])))))/\Ix (HG (rk.map (eK (bJ c cs)))) d:=by
 obtain ⟨d,e,Y⟩:=Dv (nm:=nm) hr hi J hn;refine ⟨d,?_,Y⟩;rw [sA,dX];exact ay ((aw (aL (ai (ac rfl (ac rfl rfl)) (BL L)))).trans ((skip (g9 (ck (aV (cz rfl s_s) rfl)) (bb (ao (ai (ac (a7 rfl dL) (ac rfl rfl)) (oU J)) rfl rfl)))).trans ((skip (bb (ao rfl (a7 rfl nq) (M2.trans (by rw [hn];rfl))))).trans (ax (ai (ac rfl (ac rfl (ac (ai (ac rfl (ac rfl rfl)) e) rfl))) (tq hl))))))
end
def Am {w:Str} {r:abC} (J:La (iB.map (·.1)) "FORMS" (.str w) (.cls "FORMS")=.ok (.bl false)) (hd:Qr iB (.str w)=.ok (.int ((r.length+1:Nat):Int))):qW [.tup (.str w::r)]=.ok (.str w):=by
 rw [G9,qY];have Y:bV (av dR (aj cw (ab (ag 0) am)) oJ) [some (.tup (.str w::r))]=.ok false:=bb (ao (b5 rfl tQ) rfl (wf.trans (by rw [abp (by simp;lia)])));have L:bV (av yI (aj cw (ab (ag 0) am)) (Fg (Qr iB) (uI 0 0))) [some (.tup (.str w::r))]=.ok false:=by
  refine bb (ao (b5 rfl tQ) (show (av cC (ag 0) oJ [some (.tup (.str w::r))]).bind (Qr iB)=.ok _ from ?_) (Nb.trans (by rw [abq (show ((D.str w::r).length:Int)=((r.length+1:Nat):Int) by simp)];rfl)));rw [ao (c:=.str w) rfl rfl cf,aK,hd]
 exact ay ((skip (g9 (ck (aV (cz rfl t_t) rfl)) (g9 Y (ck (aV (cz (ao rfl rfl cf) s_s) rfl))))).trans ((skip (g9 (bb (ao (ao rfl rfl cf) rfl J)) L)).trans (ax (ao rfl rfl cf))))
def Om {U:Sd} {a b:Str} (h:U[2]?=some (some (.str a))) (hn:¬ a=b):bV (av dR (ag 2) (vC (.str b))) U=.ok false:=bb (ao (by rw [v_var,h];rfl) rfl (mj.trans (by rw [abp hn])))
def OF {U:Sd} {a:Str} (h:U[2]?=some (some (.str a))):bV (av dR (ag 2) (vC (.str a))) U=.ok true:=bb (ao (by rw [v_var,h];rfl) rfl (mj.trans (by rw [abq rfl])))
def Jb {st sh d:D} (h:cN [st,sh]=.ok d):i5 [st,.tup [.str "table",sh]]=.ok d:=by
 rw [vt,kG];exact ay ((aw (aL (ai (ac rfl rfl) (Am (by kernel_rfl) (by kernel_rfl))))).trans (bD ((bg (OF rfl)).trans (ax (ai (ac rfl (ac (ao rfl rfl ca) rfl)) h)))))
def Ii {st a b d:D} (h:cP [st,a,b]=.ok d):i5 [st,.tup [.str "index",a,b]]=.ok d:=by
 rw [vt,kG];exact ay ((aw (aL (ai (ac rfl rfl) (Am (by kernel_rfl) (by kernel_rfl))))).trans ((skip (Om rfl (by trivial))).trans (bD ((bg (OF rfl)).trans (ax (ai (ac rfl (ac (ao rfl rfl ca) (ac (ao rfl rfl NW) rfl))) h))))))
def Oi {st a b c d:D} (h:dj [st,a,b,c]=.ok d):i5 [st,.tup [.str "put",a,b,c]]=.ok d:=by
 rw [vt,kG];exact ay ((aw (aL (ai (ac rfl rfl) (Am (by kernel_rfl) (by kernel_rfl))))).trans ((skip (Om rfl (by trivial))).trans ((skip (Om rfl (by trivial))).trans (bD ((bg (OF rfl)).trans (ax (ai (ac rfl (ac (ao rfl rfl ca) (ac (ao rfl rfl NW) (ac (ao rfl rfl QD) rfl)))) h)))))))
inductive Go:List (Key×D)->abC->List (Key×D)->Prop where
 | nil (s:List (Key×D)):Go s [] s
 | cons {s s1 s2:List (Key×D)} {x:D} {xs:abC}:i5 [.dcf s,x]=.ok (.dcf s1)->Go s1 xs s2->Go s (x::xs) s2
def Go.app {s J s2:List (Key×D)} {xs ys:abC} (h:Go s xs J) (g:Go J ys s2):Go s (xs++ys) s2:=by
 induction h with
 | nil=>exact g
 | cons e _ L=>exact .cons e (L g)
def MF {a b:D} {s s':List (Key×D)} {xs:abC} (h:Go s xs s'):∀ o3:Option D,∃ J,gt (.one 3) Uq xs [some a,some b,some (.dcf s),o3]=.ok (.nx [some a,some b,some (.dcf s'),J]):=by
 induction h with
 | nil s=>exact fun o3=>⟨o3,rfl⟩
 | cons e _ ih =>
  rename_i s Y s2 x xs _;intro o3;obtain ⟨o,L⟩:=ih (some x);refine ⟨o,?_⟩;have t:Uq (Zy [some a,some b,some (.dcf s),o3] 3 (some x))=.ok (.nx [some a,some b,some (.dcf Y),some x]):=aL (ai (ac rfl (ac rfl rfl)) e);rw [oZ t];exact L
def B0 {s s':List (Key×D)} {xs:abC} (h:Go s xs s'):jh [.dcf s,.lst xs]=.ok (.dcf s'):=by
 rw [yV,ja];obtain ⟨o,e⟩:=MF (a:=.dcf s) (b:=.lst xs) h none;exact ay ((aw (aL rfl)).trans ((aw (mM (dt rfl rfl) e)).trans (ax rfl)))
def Cj (nm:Str) (p:Int×abC):D:=.tup [.str "put",.str nm,.int p.1,.tup p.2]
def Qp (nm c:Str):D:=.tup [.str "index",.str nm,.str c]
structure Ik (cs:List (Str×Str)) (rk ik:List (Key×D)):Prop where
 nd:(ik.map VP).Nodup
 l:ik.length<=8
 i:∀ q∈ik,∃ c,q.1=.inr c/\c∈cs.map VP/\Ix (HG (rk.map (eK (bJ c cs)))) q.2
section
variable {nm:Str} {cs:List (Str×Str)} {s:List (Key×D)}
def Cc {k:Key} {t:D} (h:k∉s.map VP):ci (s++[(k,t)]) k=some t:=by
 have e:=sL (kvs:=s++[(k,t)]) (k:=k) (d:=t);have J:=wV (kvs:=s) (k:=k) (d:=t) (t:=t) h;cases q:ci (s++[(k,t)]) k with
 | none=>exact absurd rfl (tZ q (k,t) (by simp))
 | some x =>
  rcases MK.mp (AI q) with z|z
  .exact absurd (Wa.mpr ⟨_,z,rfl⟩) h
  .have:=VM.mp z
   injection this with _ this
   rw [this]
def ES (Y:Sh nm cs) (hn:.inr nm∉s.map VP) (hl:s.length < 500):∀ (ps:List (Int×abC)) (rk:List (Key×D)),rk.length+ps.length<=20->Rk cs rk->(∀ p∈ps,(1<=p.1/\p.1<=40)/\RowOk cs p.2) ->
  ∃ J,Go (s++[(.inr nm,tb (cb nm cs) (.dcf rk) (.dcf []))]) (ps.map (Cj nm)) (s++[(.inr nm,tb (cb nm cs) (.dcf J) (.dcf []))])/\Rk cs J
 | [],rk,_,h,_=>⟨rk,.nil _,h⟩
 | p::ps,rk,hz,h,hp=>by
  rw [V3] at hz;obtain ⟨h1,h2⟩:=hp p (by simp);have pl:=wH (kvs:=rk) (k:=.inl p.1) (d:=.tup p.2);obtain ⟨J,g,hr⟩:=ES Y hn hl ps (cI rk (.inl p.1) (.tup p.2)) (by lia) ⟨wY h.nd,by lia,fun q L=>by
   rcases wD L with rfl|z
   .exact ⟨p.1,p.2,rfl,h1,h2⟩
   .exact h.r q z.1⟩ fun q L=>hp q (mK _ L)
  refine ⟨J,.cons (Oi (Ku Y (Cc hn) (by lia) (by simp;lia) h1 h2)) ?_,hr⟩;rw [wV hn];exact g
def Ks (hn:.inr nm∉s.map VP) (hl:s.length < 500) {rk:List (Key×D)} (Y:Rk cs rk):∀ (ys:abv) (ik:List (Key×D)),ik.length+ys.length<=8->Ik cs rk ik->(∀ c∈ys,c∈cs.map VP/\.inr c∉ik.map VP)->ys.Nodup ->
  ∃ J,Go (s++[(.inr nm,tb (cb nm cs) (.dcf rk) (.dcf ik))]) (ys.map (Qp nm)) (s++[(.inr nm,tb (cb nm cs) (.dcf rk) (.dcf J))])/\Ik cs rk J
 | [],ik,_,h,_,_=>⟨ik,.nil _,h⟩
 | c::ys,ik,hz,h,hc,nd=>by
  rw [V3] at hz;rw [Wm] at nd;obtain ⟨h1,h2⟩:=hc c (by simp);obtain ⟨d,e,hd⟩:=LN Y (Cc (t:=tb (cb nm cs) (.dcf rk) (.dcf ik)) hn) (by lia) (by simp;lia) h1 (DU h2);rw [wV hn] at e;obtain ⟨J,g,hi⟩:=Ks hn hl Y ys (ik++[(.inr c,d)]) (by simp;lia) ⟨by
   rw [Wx,Yu];refine ⟨h.nd,by simp,fun a ha b hb z=>?_⟩;obtain rfl:b=.inr c:=by simpa using hb
   exact h2 (z ▸ ha),by simp;lia,fun q hq=>by
   rcases MK.mp hq with z|z
   .exact h.i q z
   .rw [VM.mp z];exact ⟨c,rfl,h1,hd⟩⟩ (fun y L=>⟨(hc y (mK _ L)).1,fun z=>by
   rw [Wx] at z;rcases MK.mp z with z|z
   .exact (hc y (mK _ L)).2 z
   .have:y=c:=by simpa using z
    exact nd.1 (this ▸ L)⟩) nd.2
  exact ⟨J,.cons (Ii e) g,hi⟩
def Ca (J:Sh nm cs) (hn:.inr nm∉s.map VP) (hl:s.length < 500) {ps:List (Int×abC)} (hp:∀ p∈ps,(1<=p.1/\p.1<=40)/\RowOk cs p.2) (L:ps.length<=20) (m:Nat) :
  ∃ rk ik,Go s (.tup [.str "table",cb nm cs]::(ps.map (Cj nm)++((cs.map VP).take m).map (Qp nm))) (s++[(.inr nm,tb (cb nm cs) (.dcf rk) (.dcf ik))])/\Rk cs rk/\Ik cs rk ik:=by
 obtain ⟨rk,g1,hr⟩:=ES J hn hl ps [] (by simpa using L) ⟨WQ,by simp,fun q Y=>nomatch Y⟩ hp
 have l1:=J.l1;obtain ⟨ik,g2,hi⟩:=Ks hn hl hr ((cs.map VP).take m) [] (by simp;lia) ⟨WQ,by simp,fun q Y=>nomatch Y⟩ (fun c hc=>⟨Z6 hc,by simp⟩) (J.nd.sublist (Zj _ _))
 refine ⟨rk,ik,.cons ?_ (g1.app g2),hr,hi⟩;rw [<- qU (DU hn)];exact Jb (DL J (DU hn) (by lia))
end
abbrev LP:FS:=(aD (bp 5 (av bz (av iJ (av cT (ag 4) (av iJ (vC (.int 31)) (ag 3))) kl) kD)) (df 2 (dM (ab DG (ab (uI 0 0) (ab (av cT lR (av bz (ag 5) (vC (.int 40)))) (ab (aj lx (ab (ag 0) (ab (ag 5) am))) am)))))))
abbrev LX:FS:=(df 2 (dM (ab xt (ab (uI 0 0) (ab (ag 7) am)))))
section
variable {nm:Str} {cs:List (Str×Str)} {b:D}
def FC (hs:Sh nm cs):∀ (xs:List Int) (j:Nat) (acc:abC) (o3 o4 o5:Option D),acc.length+xs.length < 900 ->
  ∃ (ps:List (Int×abC)) (Y L J:Option D),gt (.tup [3,4]) LP (du j (xs.map D.int)) [some (cb nm cs),some b,some (.lst acc),o3,o4,o5,none,none]=.ok (.nx [some (cb nm cs),some b,some (.lst (acc++ps.map (Cj nm))),Y,L,J,none,none])/\ps.length=xs.length/\∀ p∈ps,(1<=p.1/\p.1<=40)/\RowOk cs p.2
 | [],j,acc,o3,o4,o5,_=>⟨[],o3,o4,o5,by rw [YB,YB,WC];rfl,rfl,fun p hp=>nomatch hp⟩
 | x::xs,j,acc,o3,o4,o5,hl=>by
  rw [V3] at hl;obtain ⟨r,er,hr⟩:=Kl hs ((x+31*(j:Int))*48271 % 1000003);obtain ⟨ps,Y,L,J,e,l,h⟩:=FC hs xs (j+1) (acc++[Cj nm (1+(x+31*(j:Int))*48271 % 1000003 % 40,r)]) (some (.int (j:Int))) (some (.int x)) (some (.int ((x+31*(j:Int))*48271 % 1000003))) (by simp;lia);refine ⟨(1+(x+31*(j:Int))*48271 % 1000003 % 40,r)::ps,Y,L,J,?_,by simp [l],fun p hp=>?_⟩
  .have t:LP ((Zy [some (cb nm cs),some b,some (.lst acc),o3,o4,o5,none,none] 3 (some (.int (j:Int)))).set 4 (some (.int x)))=.ok (.nx [some (cb nm cs),some b,some (.lst (acc++[Cj nm (1+(x+31*(j:Int))*48271 % 1000003 % 40,r)])),some (.int (j:Int)),some (.int x),some (.int ((x+31*(j:Int))*48271 % 1000003)),none,none]) :=
    (aw (aL (bv (mY (dQ rfl (ao rfl rfl (zN (by decide)))) rfl) rfl))).trans (m4 rfl (b9 (ac rfl (ac (ao rfl rfl cf) (ac (dQ rfl (bv rfl rfl)) (ac (ai (ac rfl (ac rfl rfl)) er) rfl))))) (by lia))
   rw [By];refine (z7 t).trans (e.trans ?_);simp
  .rcases nE.mp hp with rfl|hp
   .exact ⟨by lia,hr⟩
   .exact h p hp
def FN {o3 o4 o5 o6:Option D}:∀ (ys:abv) (acc:abC) (L:Option D),acc.length+ys.length < 900 ->
  ∃ J,gt (.one 7) LX (ys.map D.str) [some (cb nm cs),some b,some (.lst acc),o3,o4,o5,o6,L]=.ok (.nx [some (cb nm cs),some b,some (.lst (acc++ys.map (Qp nm))),o3,o4,o5,o6,J])
 | [],acc,L,_=>⟨L,by rw [YB,YB,WC];rfl⟩
 | y::ys,acc,L,hl=>by
  rw [V3] at hl;obtain ⟨J,e⟩:=FN (o3:=o3) (o4:=o4) (o5:=o5) (o6:=o6) ys (acc++[Qp nm y]) (some (.str y)) (by simp;lia);have t:LX (Zy [some (cb nm cs),some b,some (.lst acc),o3,o4,o5,o6,L] 7 (some (.str y)))=.ok (.nx [some (cb nm cs),some b,some (.lst (acc++[Qp nm y])),o3,o4,o5,o6,some (.str y)]):=m4 rfl (b9 (ac rfl (ac (ao rfl rfl cf) (ac rfl rfl)))) (by lia);refine ⟨J,?_⟩;rw [By,oZ t,e];simp
def zu (J:Sh nm cs) {xs:List Int} (hx:xs.length<=63):∃ (ps:List (Int×abC)) (m:Nat),ju [cb nm cs,.lst (xs.map D.int)]=.ok (.lst (.tup [.str "table",cb nm cs]::(ps.map (Cj nm)++((cs.map VP).take m).map (Qp nm))))/\ps.length=xs.length/\∀ p∈ps,(1<=p.1/\p.1<=40)/\RowOk cs p.2:=by
 have l1:=J.l1;obtain ⟨ps,o3,o4,o5,e,l,h⟩:=FC (b:=.lst (xs.map D.int)) J xs 0 [.tup [.str "table",cb nm cs]] none none none (by simp;lia);obtain ⟨o7,L⟩:=FN (nm:=nm) (cs:=cs) (b:=.lst (xs.map D.int)) (o3:=o3) (o4:=o4) (o5:=o5) (o6:=some (.lst ((cs.map VP).map D.str))) ((cs.map VP).take ((xs.length:Int) % 4).toNat) ([.tup [.str "table",cb nm cs]]++ps.map (Cj nm)) none (by simp;lia);refine ⟨ps,((xs.length:Int) % 4).toNat,?_,l,h⟩;rw [B8,mh];have Y:bK [none] (gf (uI 0 1)) (.one 0) de (uI 0 0) [some (cb nm cs),some (.lst (xs.map D.int)),some (.lst ([.tup [.str "table",cb nm cs]]++ps.map (Cj nm))),o3,o4,o5,none,none]=.ok (.lst ((cs.map VP).map D.str)):=by
  rw [V9];exact cG (dt (ao rfl rfl ca) rfl) (jU eJ _ cs (fun q hq=>ao rfl rfl cf) (by lia))
 refine (ay ((aw (iU (cp (ac (b9 (ac rfl (ac rfl rfl))) rfl)))).trans ((aw (mM (A4 rfl rfl) e)).trans ((aw (aL Y)).trans ((aw (mM (dt (uf rfl rfl (eV (bv (b5 rfl (qf _ _)) rfl)) (JJ.trans (by rw [xR (by lia),<- Zx]))) rfl) L)).trans (ax rfl)))))).trans ?_;simp
end
section
variable {nm y:Str} {cs:List (Str×Str)} {rk ik:List (Key×D)}
def Rk.row (h:Rk cs rk) (Y:cs.length<=8):∀ q∈rk,OX (cb nm cs) q true:=fun q L=>by
 obtain ⟨n,r,rfl,hn,J⟩:=h.r q L;exact .inr ⟨pj (by lia),J.fits (by lia)⟩
def Ik.by_ (Y:Rk cs rk) {J:List (Key×D)} (nd:(J.map VP).Nodup) {q:Key×D} (hq:q∈J) {c:Str} (L:q.1=.inr c) (hc:c∈cs.map VP) (hx:Ix (HG (rk.map (eK (bJ c cs)))) q.2):bP [tb (cb nm cs) (.dcf rk) (.dcf J),iH q.1]=.ok (.bl true):=by
 have hv:=mT nd hq;rw [L] at hv ⊢;have he:=Y.en (ka hc);have pm:=jJ (rk.map (eK (bJ c cs)));have hl:=Y.l;exact gb (HS Y hc hv hx (w6 (fun k L=>(he k L).o) Y.enu).s (fun k L=>he k (pm.mem_iff.mp L)) (by rw [pm.length_eq,iN];lia)) (abq rfl)
def Ds (Y:Sh nm cs) (J:Rk cs rk) (hi:Ik cs rk ik):aX [tb (cb nm cs) (.dcf rk) (.dcf ik)]=.ok (.bl true):=by
 have h1:=J.l;have h2:=hi.l;refine gb (ym Y.ok (by lia) (by lia) (fun _=>true) (fun _=>true) (J.row Y.l1) fun _ q L=>?_) (by simp);obtain ⟨c,hk,hc,hx⟩:=hi.i q L;exact Ik.by_ J hi.nd L hk hc hx
def JV {x:D} (J:NmOk y) (h:aX [x]=.ok (.bl false)):bT [x,.str y]=.ok (.bl false):=by
 rw [nj,dD];exact ay (ax (bZ (ai (ac rfl rfl) (uA J)) (og (ai (ac rfl rfl) h))))
theorem under {r i:D} (J:NmOk y) (h:aX [tb (cb nm cs) r i]=.ok (.bl true)):bT [tb (cb nm cs) r i,.str y]=.ok (.bl (decide (nm=y))):=by
 rw [nj,dD];exact ay (ax (bZ (ai (ac rfl rfl) (uA J)) (bZ (ai (ac rfl rfl) h) (ao (ao (a7 rfl dL) rfl cf) rfl mj))))
def CL {kvs:List (Key×D)} (L:kvs.length<=1000) (p:Key×D->Bool) (h:∀ q∈kvs,bT [q.2,iH q.1]=.ok (.bl (p q))):bX [.dcf kvs]=.ok (.bl (kvs.all p)):=by
 rw [Dl,oN];exact ay (ax (bZ (cz rfl d_d) (Op (fun q:Key×D=>iH q.1) (fun q=>q.2) p (xx rfl) (fun q J=>ai (ac rfl (ac rfl rfl)) (h q J)) L)))
def qB (Y:Sh nm cs) (J:Rk cs rk) (hi:Ik cs rk ik) {d:D} (h:bP [tb (cb nm cs) (.dcf rk) (.dcf (cI ik (.inr y) d)),.str y]=.ok (.bl false)):aX [tb (cb nm cs) (.dcf rk) (.dcf (cI ik (.inr y) d))]=.ok (.bl false):=by
 have h1:=J.l;have h2:=hi.l;have h3:=wH (kvs:=ik) (k:=.inr y) (d:=d);refine gb (ym Y.ok (by lia) (by lia) (fun _=>true) (fun q=>decide (q.1≠.inr y)) (J.row Y.l1) fun _ q L=>?_) ?_
 .by_cases e:q.1=.inr y
  .rw [e];exact gb h (abp fun z=>z rfl).symm
  .rcases wD L with z|z
   .exact absurd (abt VP z) e
   .obtain ⟨c,hk,hc,hx⟩:=hi.i q z.1;exact gb (Ik.by_ J (wY hi.nd) L hk hc hx) (abq e).symm
 .rw [ZT];right
  rw [Yv];exact ⟨_,sL (kvs:=ik) (k:=.inr y) (d:=d),by simp⟩
def y9 (L:Sh nm cs) (J:Rk cs rk) {k:Key} {x:D} (h:OX (cb nm cs) (k,x) false):aX [tb (cb nm cs) (.dcf (cI rk k x)) (.dcf [])]=.ok (.bl false):=by
 have h1:=J.l;have h3:=wH (kvs:=rk) (k:=k) (d:=x);have hf:(cI rk k x).all (fun q=>decide (q.1≠k))=false:=by
  rw [Yv];exact ⟨_,sL (kvs:=rk) (k:=k) (d:=x),by simp⟩
 refine gb (ym L.ok (by lia) (by simp) (fun q=>decide (q.1≠k)) (fun _=>true) (fun q Y=>?_) fun z=>?_) (by rw [hf];rfl)
 .rcases wD Y with rfl|z
  .rw [abp fun z=>z rfl];exact h
  .rw [abq z.2];exact J.row L.l1 q z.1
 .rw [hf] at z;cases z
end
def PJ {xs ys:abC} (J:xs.length+ys.length<=1000):xT (.tup xs) (.tup ys)=.ok (.tup (xs++ys)):=by
 cases xs with
 | nil=>rfl
 | cons x r=>exact abn ⟨rfl,by lia⟩
def O6 {xs:abC} {lo hi:Option Int} (h:¬ (HT.sIx xs.length 0 lo=0/\HT.sIx xs.length xs.length hi=xs.length)):yf (.tup xs) lo hi=.ok (.tup (mO xs lo hi)):=abo h
def D5 {φ:FE} {U:Sd} {i:Int} (h:φ U=.ok (.int i)):Fg xf φ U=.ok (.int (-i)):=by unfold Fg;rw [h];rfl
def NG {n d:Nat} (h:1<=n):HT.sIx n d (some (-1))=n - 1:=by
 show (if (-1:Int) < 0 then ((-1:Int)+(n:Int)).toNat else min (-1:Int).toNat n)=n - 1;rw [abn (by decide)];lia
def OZ (kd:Str):abC:=[.bl true,.int 1000000000000000000,.str ⟨(XY 41 120).toArray⟩,(if kd="text" then .int 5 else .str "t"),(if kd="text" then .int 5 else .str "t"),.int (-1000000000000000000)]
def Tm {kd:Str} (Y:Kd kd):∀ v∈OZ kd,bN [v,.str kd]=.ok (.bl false):=by
 have L:bN [(if kd="text" then .int 5 else .str "t"),.str kd]=.ok (.bl false):=by
  rcases Y with rfl|rfl
  .rw [abo (by trivial)];kernel_rfl
  .rw [abn rfl];kernel_rfl
 have hn:∀ {v:D},BB v .non=.ok (.bl false)->cr [v]=.ok (.bl false)->bN [v,.str kd]=.ok (.bl false):=fun {v} h1 h2=>by
  rw [pK,gU];exact ay (ax (J1 (ao rfl rfl h1) (og (ai (ac rfl rfl) h2))))
 intro v J;unfold OZ at J;simp only [nE,VQ,or_false] at J;rcases J with rfl|rfl|rfl|rfl|rfl|rfl
 .exact hn rfl (by kernel_rfl)
 .exact hn rfl (by kernel_rfl)
 .exact hn rfl (by kernel_rfl)
 .exact L
 .exact L
 .exact hn rfl (by kernel_rfl)
def six {xs:abC} (h:xs.length=6) {c:Int}:∃ v,cC (.lst xs) (.int (c/48 % 6))=.ok v/\v∈xs:=by
 have J:(c/48 % 6).toNat < xs.length:=by lia
 refine ⟨xs[(c/48 % 6).toNat],?_,Xn J⟩
 have:=cj (BY J)
 rw [show (((c/48 % 6).toNat:Nat):Int)=c/48 % 6 by lia] at this;exact wm this
section
variable {nm:Str} {cs:List (Str×Str)} {r:abC}
def MA (h:RowOk cs r) (Y:cs.length<=100) {p:Nat} (hp:p < cs.length) {v:D} (J:bN [v,.str cs[p].2]=.ok (.bl false)):jT [cb nm cs,.tup (r.set p v)]=.ok (.bl false):=by
 have hl:(r.set p v).length=cs.length:=by rw [List.length_set,h.len]
 let f:D×Str×Str->Bool:=fun q=>match bN [q.1,.str q.2.2] with
  | .ok (.bl b)=>b
  | _=>false
 have hf:∀ {q:D×Str×Str} {b:Bool},bN [q.1,.str q.2.2]=.ok (.bl b)->f q=b:=fun {q b} e=>by show (match bN [q.1,.str q.2.2] with|.ok (.bl b)=>b|_=>false)=b;rw [e]
 refine gb (fits hl Y f fun q L=>?_) ?_
 .obtain ⟨i,hi,rfl⟩:=XU.mp L;rw [Xb] at hi;have e:∃ b,bN [((r.set p v).zip cs)[i].1,.str ((r.set p v).zip cs)[i].2.2]=.ok (.bl b):=by
   rw [ZG,List.getElem_set];split
   .rename_i z;subst z;exact ⟨_,J⟩
   .have hr:i < r.length:=by rw [h.len];lia
    exact ⟨_,(h.v (r[i],cs[i]) (XU.mpr ⟨i,by rw [Xb];lia,by rw [ZG]⟩)).f⟩
  obtain ⟨b,e⟩:=e;rw [hf e];exact e
 .rw [Yv];refine ⟨(v,cs[p]),XU.mpr ⟨p,by rw [Xb];lia,by rw [ZG,List.getElem_set,abn rfl]⟩,?_⟩;rw [hf J];simp
abbrev Nv (s w:D) (c:Int) (o3 o4 o5:Option D):Sd:=[some s,some w,some (.int c),o3,o4,o5]
def Ei (hs:Sh nm cs) (h:RowOk cs r) (c:Int):∃ x,ii [cb nm cs,.tup r,.int c]=.ok x/\jT [cb nm cs,x]=.ok (.bl false):=by
 have l0:=hs.l0;have l1:=hs.l1;have hl:=h.len;obtain ⟨p,ep,Y⟩:∃ p:Nat,c/6 % (r.length:Int)=(p:Int)/\p < cs.length:=⟨(c/6 % (r.length:Int)).toNat,by rw [YT (Yh _ (by lia))],by have:=Yi (c/6) (show (0:Int) < (r.length:Int) by lia);have:=Yh (c/6) (show (r.length:Int)≠0 by lia);lia⟩;have hk:=(hs.c cs[p] (Xn Y)).2;obtain ⟨v,ev,hv⟩:=six (xs:=OZ cs[p].2) rfl (c:=c);have hb:=Tm hk v hv;rw [x9,io];have start:∀ T:FS,(aD (bp 3 (av bz (av b8 (ag 2) Ja) (aj cw (ab (ag 1) am)))) (aD (bp 4 (vC (.str "t"))) (aD (fb (bV (av dR (av cC (av cC (uI 0 1) (ag 3)) lR) (vC (.str "text")))) (bp 4 sC) bu) (aD (bp 5 (av cC (fA (ab (vC (.bl true)) (ab (av pY ul (vC (.int 18))) (ab (av iJ (vC (.str "x")) (vC (.int 41))) (ab (ag 4) (ab (ag 4) (ab (Fg xf (av pY ul (vC (.int 18)))) am))))))) (av bz (av b8 (ag 2) (vC (.int 48))) Ja))) T)))) (Nv (cb nm cs) (.tup r) c none none none)=T (Nv (cb nm cs) (.tup r) c (some (.int (p:Int))) (some (if cs[p].2="text" then .int 5 else .str "t")) (some v)):=fun T=>by
  have e3:bp 3 (av bz (av b8 (ag 2) Ja) (aj cw (ab (ag 1) am))) (Nv (cb nm cs) (.tup r) c none none none)=.ok (.nx (Nv (cb nm cs) (.tup r) c (some (.int (p:Int))) none none)):=(aL (bv (bL rfl rfl) (b5 rfl tQ) (by lia))).trans (by rw [ep];rfl);have q:bV (av dR (av cC (av cC (uI 0 1) (ag 3)) lR) (vC (.str "text"))) (Nv (cb nm cs) (.tup r) c (some (.int (p:Int))) (some (.str "t")) none)=.ok (decide (cs[p].2="text")):=bb (ao (ao (ao (ao rfl rfl ca) rfl (Ul eJ cs (BY Y))) rfl ca) rfl mj);have e4:fb (bV (av dR (av cC (av cC (uI 0 1) (ag 3)) lR) (vC (.str "text")))) (bp 4 sC) bu (Nv (cb nm cs) (.tup r) c (some (.int (p:Int))) (some (.str "t")) none)=.ok (.nx (Nv (cb nm cs) (.tup r) c (some (.int (p:Int))) (some (if cs[p].2="text" then .int 5 else .str "t")) none)):=by
   by_cases e:cs[p].2="text"
   .rw [abq e] at q;rw [abn e];exact (bg q).trans (aL rfl)
   .rw [abp e] at q;rw [abo e];exact (fY q).trans rfl
  exact (aw e3).trans ((aw (aL rfl)).trans ((aw e4).trans (aw (aL (ao (cp (ac rfl (ac CC (ac (ao rfl rfl (by kernel_rfl)) (ac rfl (ac rfl (ac (D5 CC) rfl))))))) (bv (bL rfl rfl) rfl) ev)))))
 have J:∀ (i:Int) {o3 o4 o5:Option D},bV (av dR (av bz (ag 2) Ja) (vC (.int i))) (Nv (cb nm cs) (.tup r) c o3 o4 o5)=.ok (decide (c % 6=i)):=fun i=>ph (bv rfl rfl) rfl;by_cases L:c % 6=0
 .exact ⟨.tup (r++[.non]),ay ((start _).trans (bD ((bg ((J 0).trans (by rw [abq L]))).trans (ax (ao rfl (b9 (ac rfl rfl)) (PJ (by simp;lia))))))),IJ (by simp;lia)⟩
 by_cases h1:c % 6=1
 .exact ⟨.lst r,ay ((start _).trans ((skip ((J 0).trans (by rw [abp L]))).trans (bD ((bg ((J 1).trans (by rw [abq h1]))).trans (ax (ai (ac rfl rfl) EM)))))),Ot⟩
 by_cases h2:c % 6=2
 .refine ⟨.tup (mO r none (some (-1))),ay ((start _).trans ((skip ((J 0).trans (by rw [abp L]))).trans ((skip ((J 1).trans (by rw [abp h1]))).trans (bD ((bg ((J 2).trans (by rw [abq h2]))).trans (ax (uf rfl rfl (eV (D5 rfl)) (O6 ?_)))))))),IJ ?_⟩
  .rintro ⟨_,z⟩;rw [NG (by lia)] at z;lia
  .unfold mO;rw [NG (by lia),HT.pR];simp;lia
 .have hpr:p < r.length:=by lia
  have es:r.set p v=r.take p++[v]++r.drop (p+1):=by rw [List.set_eq_take_append_cons_drop,abn hpr,aaJ];rfl
  refine ⟨.tup (r.set p v),ay ((start _).trans ((skip ((J 0).trans (by rw [abp L]))).trans ((skip ((J 1).trans (by rw [abp h1]))).trans ((skip ((J 2).trans (by rw [abp h2]))).trans (ax ?_))))),MA h (by lia) Y hb⟩;rw [es];refine ao (ao (uf rfl rfl (eV rfl) ((O6 ?_).trans (by rw [xR (by lia),V1]))) (b9 (ac rfl rfl)) (PJ (by simp;lia))) (uf rfl (eV (ao rfl rfl rfl)) rfl ((O6 ?_).trans (by rw [show (p:Int)+1=((p+1:Nat):Int) by push_cast;rfl,ut (by lia),V1]))) (PJ (by simp;lia))
  .rintro ⟨_,z⟩;rw [HT.jd] at z;lia
  .rintro ⟨z,_⟩;rw [show (p:Int)+1=((p+1:Nat):Int) by push_cast;rfl,HT.jd] at z;lia
end
def FZ:∀ ns:List Int,D0 true (ns.map D.int)=some (ns.map fun i=>(i,[]))
 | []=>rfl
 | i::r=>by
  rw [By,By];show (match Um (.int i) with|some (c,k)=>if c=true then (D0 true (r.map D.int)).map (k::·) else none|none=>none)=_
  show (if true=true then (D0 true (r.map D.int)).map ((i,[])::·) else none)=_;rw [abn rfl,FZ r];rfl
def EO:∀ ss:abv,D0 false (ss.map D.str)=some (ss.map fun z=>(0,z.cps.toList))
 | []=>rfl
 | z::r=>by
  rw [By,By];show (if false=false then (D0 false (r.map D.str)).map ((0,z.cps.toList)::·) else none)=_;rw [abn rfl,EO r];rfl
def Jd {ns:List Int} (J:ns.length<=63):∃ L:List Int,AZ (ns.map D.int)=.ok (.lst (L.map D.int))/\L.Perm ns:=by
 refine ⟨((ns.map fun i=>((i,[]):K2)).mergeSort v8).map VP,?_,?_⟩
 .unfold AZ;rw [abn (by rw [iN];omega),FZ,V9];rfl
 .have:=(XE (ns.map fun i=>((i,[]):K2)) v8).map VP
  rw [V9] at this;have e:ns.map (VP ∘ fun i=>((i,[]):K2))=ns:=by simp [Function.comp_def]
  rw [e] at this;exact this
def IL {ss:abv} (J:ss.length<=63):∃ L:abv,AZ (ss.map D.str)=.ok (.lst (L.map D.str))/\L.Perm ss:=by
 refine ⟨((ss.map fun z=>((0,z.cps.toList):K2)).mergeSort v8).map fun k=>⟨k.2.toArray⟩,?_,?_⟩
 .cases ss with
  | nil=>simp [AZ,D0]
  | cons z r =>
   unfold AZ;have h1:D0 true ((z::r).map D.str)=none:=rfl;rw [abn (by rw [iN];lia),h1];dsimp only;rw [EO,V9];rfl
 .have:=(XE (ss.map fun z=>((0,z.cps.toList):K2)) v8).map fun k=>(⟨k.2.toArray⟩:Str)
  rw [V9] at this;have e:ss.map ((fun k:K2=>(⟨k.2.toArray⟩:Str)) ∘ fun z=>((0,z.cps.toList):K2))=ss:=by
   conv=>rhs;rw [<- abg ss]
   exact WI fun z _=>by simp
  rw [e] at this;exact this
def DB {J:Type} (f:J->D) {L:List J} (h:1<=L.length) (c:Int):∃ x,x∈L/\cC (.lst (L.map f)) (.int (c % (L.length:Int)))=.ok (f x):=by
 have h0:=Yh c (show (L.length:Int)≠0 by lia);have h1:=Yi c (show (0:Int) < (L.length:Int) by lia);have Y:(c % (L.length:Int)).toNat < L.length:=by lia
 refine ⟨L[(c % (L.length:Int)).toNat],Xn Y,?_⟩
 have:=Ov f L (BY Y)
 rw [show (((c % (L.length:Int)).toNat:Nat):Int)=c % (L.length:Int) by lia] at this;exact this
def kn (q:Key×D):Int:=match q.1 with
 | .inl n=>n
 | _=>0
section
variable {nm:Str} {cs:List (Str×Str)} {rk ik:List (Key×D)}
def Rk.keys (h:Rk cs rk):rk.map (fun q=>iH q.1)=(rk.map kn).map D.int:=by
 rw [V9];refine WI fun q J=>?_;obtain ⟨n,r,rfl,_,_⟩:=h.r q J;rfl
def Pi:abC:=[.int 0,.int (-1),.int 1000000001,.str "7",.non]
def To:∀ d∈Pi,∃ k,wx d=some k/\bI [iH k]=.ok (.bl false):=by
 intro d hd;unfold Pi at hd;simp only [nE,VQ,or_false] at hd;rcases hd with rfl|rfl|rfl|rfl|rfl <;> exact ⟨_,rfl,by kernel_rfl⟩
def Bp (hs:Sh nm cs) (J:Rk cs rk) (h0:1<=rk.length) {i:D} (c:Int):∃ d,gE [tb (cb nm cs) (.dcf rk) i,.int c]=.ok d/\aX [d]=.ok (.bl false)/\yJ "Table" [d,.cls "Table"]=.ok (.bl true):=by
 have hl:=J.l;obtain ⟨L,eL,pL⟩:=Jd (ns:=rk.map kn) (by rw [iN];lia);have lL:L.length=rk.length:=by rw [pL.length_eq,iN]
 obtain ⟨n,hn,en⟩:=DB D.int (L:=L) (by lia) (c/7);obtain ⟨q,hq,rfl⟩:=Wa.mp (pL.mem_iff.mp hn);obtain ⟨n,r,rfl,hn1,hro⟩:=J.r q hq;have hv:=mT J.nd hq;have en:cC (.lst (L.map D.int)) (.int (c/7 % (L.length:Int)))=.ok (.int n):=en;have e2:∀ {U:Sd},aj AU (ab (aj vN (ab (bH "Table" "rows" (ag 0)) am)) am) (some (tb (cb nm cs) (.dcf rk) i)::U)=.ok (.lst (L.map D.int)):=ai (ac (ai (ac (a7 rfl lG) rfl) rfl) rfl) (by show AZ (rk.map fun q=>iH q.1)=_;rw [J.keys];exact eL);rw [wn,gF];have start:∀ T:FS,(aD (bp 2 (aj AU (ab (aj vN (ab (bH "Table" "rows" (ag 0)) am)) am))) (aD (ow 3 (aj w8 (ab (bH "Table" "rows" (ag 0)) am))) (aD (bp 4 (av cC (ag 2) (av bz (av b8 (ag 1) ER) (aj cw (ab (ag 2) am))))) T))) [some (tb (cb nm cs) (.dcf rk) i),some (.int c),none,none,none]=T [some (tb (cb nm cs) (.dcf rk) i),some (.int c),some (.lst (L.map D.int)),some (.dct rk),some (.int n)]:=fun T =>
  (aw (aL e2)).trans ((aw (iU (ai (ac (a7 rfl lG) rfl) vw))).trans (aw (aL (ao rfl (bv (bL rfl rfl) (b5 rfl (qf _ _)) (by lia)) en))))
 have Y:bV (av dR (av bz (ag 1) ER) oJ) [some (tb (cb nm cs) (.dcf rk) i),some (.int c),some (.lst (L.map D.int)),some (.dct rk),some (.int n)]=.ok (decide (c % 7=0)):=ph (bv rfl rfl) rfl;have hx:hJ (.dct rk) (.int n)=.ok (.tup r):=(pH rfl hv).2;by_cases e:c % 7=0
 .rw [abq e] at Y;obtain ⟨d,hd,ed⟩:=DB (fun d=>d) (L:=Pi) (by decide) (c/70);rw [Y8] at ed;obtain ⟨k,hk,bk⟩:=To d hd;refine ⟨_,ay ((start _).trans ((aw ((bg Y).trans (gH rfl (ao rfl rfl hx) (ao (cp (ac rfl (ac (D5 rfl) (ac (dQ U1 rfl) (ac rfl (ac rfl rfl)))))) (bv (bL rfl rfl) rfl) ed) hk (by lia)))).trans ((qH rfl).trans (ax (tL (ac (a7 rfl dL) (ac rfl (ac (sj rfl) rfl)))))))),y9 hs J (.inl ⟨bk,rfl⟩),ux⟩
 .rw [abp e] at Y;obtain ⟨x,ex,hx2⟩:=Ei hs hro (c/140);exact ⟨_,ay ((start _).trans ((aw ((fY Y).trans (gH rfl (ai (ac (a7 rfl dL) (ac (ao rfl rfl hx) (ac (bL rfl rfl) rfl))) ex) rfl rfl (by lia)))).trans ((qH rfl).trans (ax (tL (ac (a7 rfl dL) (ac rfl (ac (sj rfl) rfl)))))))),y9 hs J (k:=.inl n) (.inr ⟨pj (n:=n) (by lia),hx2⟩),ux⟩
def xJ (hr:Rk cs rk) (hi:Ik cs rk ik) {y:Str} (hc:y∈cs.map VP) {xs:List K4} (he:∀ k∈xs,En k) (nd:xs.Nodup) (hl:xs.length<=63) (L:¬ xs.Perm (rk.map (eK (bJ y cs)))) :
  ∃ d,cV [.lst (xs.map aI)]=.ok d/\bP [tb (cb nm cs) (.dcf rk) (.dcf (cI ik (.inr y) d)),.str y]=.ok (.bl false):=by
 obtain ⟨d,e,hx⟩:=xr (fun k J=>(he k J).o) nd hl;have Y:=jJ xs;refine ⟨d,e,gb (HS hr hc (mT (wY hi.nd) sL) hx (w6 (fun k J=>(he k J).o) nd).s (fun k J=>he k (Y.mem_iff.mp J)) (by rw [Y.length_eq];lia)) (abp fun z=>L ?_)⟩;exact Y.symm.trans (by rw [z];exact jJ _)
end
def HW (c:Str):∀ {cs:List (Str×Str)},c∈cs.map VP->∃ vs,gd (cs.map fun q=>D.str q.1)=some vs/\jW (.str c) vs=some (bJ c cs)
 | [],h=>by simp at h
 | q::r,h=>by
  by_cases e:q.1=c
  .have:∃ ws,gd (r.map fun q=>D.str q.1)=some ws:=by
    clear h;induction r with
    | nil=>exact ⟨[],rfl⟩
    | cons a r Y=>obtain ⟨ws,e⟩:=Y;exact ⟨_,by rw [By,gd,e];rfl⟩
   obtain ⟨ws,J⟩:=this;refine ⟨.str q.1::ws,by rw [By,gd,J];rfl,?_⟩
   have:bJ c (q::r)=0:=abn e
   rw [this];unfold jW;rw [abn (by rw [e];show (c==c)=true;exact beq_self_eq_true c)]
  .rw [By] at h;have h':c∈r.map VP:=by
    rcases nE.mp h with z|z
    .exact absurd z.symm e
    .exact z
   obtain ⟨vs,L,J⟩:=HW c h';refine ⟨.str q.1::vs,by rw [By,gd,L];rfl,?_⟩
   have:bJ c (q::r)=bJ c r+1:=abo e
   rw [this];unfold jW;rw [abo (by show ¬ (q.1==c)=true;simpa using e),J];rfl
def Ox {c:Str} {cs:List (Str×Str)} (h:c∈cs.map VP):Li (.lst (cs.map fun q=>D.str q.1)) (.str c)=.ok (.int (bJ c cs:Int)):=by
 obtain ⟨vs,L,J⟩:=HW c h;show (match jy (.str c),gd (cs.map fun q=>D.str q.1) with
  | some v,some vs=>(match jW v vs with
   | some j=>R.ok (D.int (j:Nat))
   | none=>.no)
  | _,_=>.no)=_
 rw [L];show (match jW (.str c) vs with
   | some j=>R.ok (D.int (j:Nat))
   | none=>.no)=_
 rw [J]
def OW {φ ψ:FE} {U:Sd} {xs:abC} {y d:D} (h:φ U=.ok (.lst xs)) (h2:ψ U=.ok y) (hd:Li (.lst xs) y=.ok d):Ji φ ψ U=.ok d:=by
 unfold Ji;rw [h,aK];dsimp only;rw [h2,aK,hd]
abbrev iHd (T:FS):FS:=(aD (bp 2 (av cC (aj AU (ab (aj vN (ab (bH "Table" "indexes" (ag 0)) am)) am)) (av bz (av b8 (ag 1) sC) (aj uo (ab (bH "Table" "indexes" (ag 0)) am))))) (aD (bp 3 (Ji (bK [none] (gf (av cC (bH "Table" "shape" (ag 0)) lR)) (.one 0) de (uI 0 0)) (ag 2))) (aD (bp 4 (bK [none,some 3,some 0] (vK (bH "Table" "rows" (ag 0))) (.one 0) de (dM (ab (av cC (av hJ (bH "Table" "rows" (ag 2)) (ag 0)) (ag 1)) (ab (ag 0) am))))) (aD (bp 5 (av cC (ag 4) (av bz (av b8 (ag 1) (vC (.int 20))) (aj cw (ab (ag 4) am))))) (aD (bp 6 (bK [none,some 5] (gf (ag 4)) (.one 0) (bV (av yI (ag 0) (ag 1))) (ag 0))) (aD (ow 7 (aj w8 (ab (bH "Table" "indexes" (ag 0)) am))) T))))))
abbrev M9 (t:D) (c:Int) (y:Str) (p:Nat) (E:List K4) (k:K4) (o6:Option D) (ik:List (Key×D)):Sd:=[some t,some (.int c),some (.str y),some (.int (p:Int)),some (.lst (E.map aI)),some (aI k),o6,some (.dct ik)]
def kc (q:Key×D):Str:=match q.1 with
 | .inr c=>c
 | _=>""
section
variable {nm:Str} {cs:List (Str×Str)} {rk ik:List (Key×D)}
def Ik.keys (h:Ik cs rk ik):ik.map (fun q=>iH q.1)=(ik.map kc).map D.str:=by
 rw [V9];refine WI fun q J=>?_;obtain ⟨c,e,_⟩:=h.i q J;show iH q.1=D.str (kc q);unfold kc;rw [e];rfl
def U5 (hs:Sh nm cs) (hr:Rk cs rk) (hi:Ik cs rk ik) (h0:1<=rk.length) (h1:1<=ik.length) (c:Int):∃ (y:Str) (k:K4),y∈cs.map VP/\(∃ d,ci ik (.inr y)=some d)/\k∈rk.map (eK (bJ y cs)) /\
  ∀ T:FS,iHd T [some (tb (cb nm cs) (.dcf rk) (.dcf ik)),some (.int c),none,none,none,none,none,none]=T (M9 (tb (cb nm cs) (.dcf rk) (.dcf ik)) c y (bJ y cs) (rk.map (eK (bJ y cs))) k (some (.lst (((rk.map (eK (bJ y cs))).filter fun l=>!decide (l=k)).map aI))) ik):=by
 have hl:=hr.l;have hil:=hi.l;have l1:=hs.l1;obtain ⟨L,eL,pL⟩:=IL (ss:=ik.map kc) (by rw [iN];lia);have lL:L.length=ik.length:=by rw [pL.length_eq,iN]
 obtain ⟨y,hy,ey⟩:=DB D.str (L:=L) (by lia) (c/5);rw [lL] at ey;obtain ⟨q,J,rfl⟩:=Wa.mp (pL.mem_iff.mp hy);obtain ⟨y,hk,hc,hx⟩:=hi.i q J;have ek:kc q=y:=by unfold kc;rw [hk]
 rw [ek] at ey;have hv:=mT hi.nd J;rw [hk] at hv;have he:=hr.en (ka hc);obtain ⟨k,Y,ekk⟩:=DB aI (L:=rk.map (eK (bJ y cs))) (by rw [iN];lia) (c/20);refine ⟨y,k,hc,⟨_,hv⟩,Y,fun T=>?_⟩;have e2:∀ {U:Sd},aj AU (ab (aj vN (ab (bH "Table" "indexes" (ag 0)) am)) am) (some (tb (cb nm cs) (.dcf rk) (.dcf ik))::U)=.ok (.lst (L.map D.str)):=ai (ac (ai (ac (a7 rfl nq) rfl) rfl) rfl) (by show AZ (ik.map fun q=>iH q.1)=_;rw [hi.keys];exact eL);have e3:∀ {U:Sd},bK [none] (gf (av cC (bH "Table" "shape" (ag 0)) lR)) (.one 0) de (uI 0 0) (some (tb (cb nm cs) (.dcf rk) (.dcf ik))::U)=.ok (.lst (cs.map fun q=>D.str q.1)):=cG (dt (ao (a7 rfl dL) rfl ca) rfl) (jU eJ _ cs (fun q J=>ao rfl rfl cf) (by lia));have e4:bK [none,some 3,some 0] (vK (bH "Table" "rows" (ag 0))) (.one 0) de (dM (ab (av cC (av hJ (bH "Table" "rows" (ag 2)) (ag 0)) (ag 1)) (ab (ag 0) am))) [some (tb (cb nm cs) (.dcf rk) (.dcf ik)),some (.int c),some (.str y),some (.int (bJ y cs:Int)),none,none,none,none]=.ok (.lst ((rk.map (eK (bJ y cs))).map aI)):=by
  rw [V9];refine cG (z0 (a7 rfl lG)) (jU (rest:=[some (.int (bJ y cs:Int)),some (tb (cb nm cs) (.dcf rk) (.dcf ik))]) (fun q:Key×D=>iH q.1) _ rk (fun q J=>?_) (by lia));have hv:=mT hr.nd J;obtain ⟨n,r,rfl,hn,hro⟩:=hr.r q J;obtain ⟨g,e⟩:=hro.at_ (ka hc);show _=R.ok (aI (wC (r.getD (bJ y cs) .non) n));rw [(vg (n:=n) g.l).2.1];exact b9 (ac (ao (ao (a7 rfl lG) rfl (pH rfl hv).1) rfl (DS (cj e))) (ac rfl rfl))
 have e6:bK [none,some 5] (gf (ag 4)) (.one 0) (bV (av yI (ag 0) (ag 1))) (ag 0) [some (tb (cb nm cs) (.dcf rk) (.dcf ik)),some (.int c),some (.str y),some (.int (bJ y cs:Int)),some (.lst ((rk.map (eK (bJ y cs))).map aI)),some (aI k),none,none]=.ok (.lst (((rk.map (eK (bJ y cs))).filter fun l=>!decide (l=k)).map aI)) :=
  cG (dt rfl rfl) (L4 (rest:=[some (aI k)]) aI aI (fun l=>!decide (l=k)) _ (fun l hl=>bb (ao rfl rfl ((he l hl).o.ne (he k Y).o))) (fun l hl _=>rfl) (by rw [iN];lia))
 exact (aw (aL (ao e2 (bv (bL rfl rfl) (ai (ac (a7 rfl nq) rfl) rfl) (by lia)) ey))).trans ((aw (aL (OW e3 rfl (Ox hc)))).trans ((aw (aL e4)).trans ((aw (aL (ao rfl (bv (bL rfl rfl) (b5 rfl (qf _ _)) (by rw [iN];lia)) ekk))).trans ((aw (aL e6)).trans (aw (iU (ai (ac (a7 rfl nq) rfl) vw)))))))
def wL {xs:List K4} {k:K4} (J:xs.Nodup) (h:k∉xs):(xs++[k]).Nodup:=by
 rw [Yu];exact ⟨J,by simp,fun a Y b L z=>h (by rw [<- VM.mp L,<- z];exact Y)⟩
def Ai (hs:Sh nm cs) (J:Rk cs rk) (hi:Ik cs rk ik) (h0:1<=rk.length) (h1:1<=ik.length) (c:Int):∃ d,fN [tb (cb nm cs) (.dcf rk) (.dcf ik),.int c]=.ok d/\aX [d]=.ok (.bl false)/\yJ "Table" [d,.cls "Table"]=.ok (.bl true):=by
 obtain ⟨y,k,hc,⟨dy,hdy⟩,hk,start⟩:=U5 hs J hi h0 h1 c;have hl:=J.l;have hil:=hi.l;have he:=J.en (ka hc);have nd:(rk.map (eK (bJ y cs))).Nodup:=J.enu;have lE:(rk.map (eK (bJ y cs))).length=rk.length:=iN _;have fin1:∀ {o6:Option D} {ik':List (Key×D)} {E:List K4} {p:Nat},(Ea 7 (ba (HC "Table" ["shape","rows","indexes"] (ab (bH "Table" "shape" (ag 0)) (ab (bH "Table" "rows" (ag 0)) (ab (ag 7) am)))))) (M9 (tb (cb nm cs) (.dcf rk) (.dcf ik)) c y p E k o6 ik')=.ok (.rt (tb (cb nm cs) (.dcf rk) (.dcf ik'))):=(qH rfl).trans (ax (tL (ac (a7 rfl dL) (ac (a7 rfl lG) (ac rfl rfl)))));rw [vk,fM];have q0:∀ (i:Int) {o6:Option D} {E:List K4} {p:Nat},bV (av dR (av bz (ag 1) sC) (vC (.int i))) (M9 (tb (cb nm cs) (.dcf rk) (.dcf ik)) c y p E k o6 ik)=.ok (decide (c % 5=i)):=fun i=>ph (bv rfl rfl) rfl;have qt:∀ {i:Int} {o6:Option D} {E:List K4} {p:Nat},c % 5=i->bV (av dR (av bz (ag 1) sC) (vC (.int i))) (M9 (tb (cb nm cs) (.dcf rk) (.dcf ik)) c y p E k o6 ik)=.ok true:=fun e=>(q0 _).trans (by rw [abq e]);have qn:∀ {i:Int} {o6:Option D} {E:List K4} {p:Nat},¬ c % 5=i->bV (av dR (av bz (ag 1) sC) (vC (.int i))) (M9 (tb (cb nm cs) (.dcf rk) (.dcf ik)) c y p E k o6 ik)=.ok false:=fun e=>(q0 _).trans (by rw [abp e]);have heF:∀ l∈(rk.map (eK (bJ y cs))).filter (fun l=>!decide (l=k)),En l:=fun l hl=>he l (XI.mp hl).1;have ndF:=nd.sublist (YR (p:=fun l=>!decide (l=k)));have lF:=List.length_filter_le (fun l=>!decide (l=k)) (rk.map (eK (bJ y cs)));have kF:k∉(rk.map (eK (bJ y cs))).filter (fun l=>!decide (l=k)):=fun z=>by simpa using (XI.mp z).2
 have ho:=(he k hk).o;by_cases a0:c % 5=0
 .obtain ⟨d,e,hb⟩:=xJ (nm:=nm) J hi hc heF ndF (by lia) fun z=>kF (z.mem_iff.mpr hk);exact ⟨_,ay ((start _).trans ((aw ((bg (qt a0)).trans (gH rfl (ai (ac rfl rfl) e) rfl rfl (by lia)))).trans fin1)),qB hs J hi hb,ux⟩
 by_cases a1:c % 5=1
 .obtain ⟨o1,u1',v1⟩:=vg (n:=100000007) (v:=gc k) ho.v;have ne:wC (gc k) 100000007∉rk.map (eK (bJ y cs)):=fun z=>by
   obtain ⟨q,hq,e⟩:=Wa.mp z;obtain ⟨n,r,rfl,hn,hro⟩:=J.r q hq;have e:=abt (fun k:K4=>k.2.2.2) e;have e:(wC _ n).2.2.2=(wC (gc k) 100000007).2.2.2:=e;rw [xD,xD] at e;lia
  obtain ⟨d,e,hb⟩:=xJ (nm:=nm) (xs:=rk.map (eK (bJ y cs))++[wC (gc k) 100000007]) J hi hc (fun l hl=>by
   rcases MK.mp hl with z|z
   .exact he l z
   .rw [VM.mp z];exact ⟨o1,by rw [v1];exact (he k hk).v,by rw [xD];decide⟩) (wL nd ne) (by simp;lia) fun z=>by have:=z.length_eq;simp at this
  have e9:av cT (ag 4) (fA (ab (dM (ab (uI 5 0) (ab (av cT (av pY ul RL) ER) am))) am)) (M9 (tb (cb nm cs) (.dcf rk) (.dcf ik)) c y (bJ y cs) (rk.map (eK (bJ y cs))) k (some (.lst (((rk.map (eK (bJ y cs))).filter fun l=>!decide (l=k)).map aI))) ik)=.ok (.lst ((rk.map (eK (bJ y cs))++[wC (gc k) 100000007]).map aI)):=by
   rw [Wx,aaz,u1'];exact ao rfl (cp (ac (b9 (ac (ao rfl rfl (u0 k)) (ac (dQ (ao rfl rfl ((FU (by decide)).trans rfl)) rfl) rfl))) rfl)) (add_l.trans (abn (by simp;lia)))
  exact ⟨_,ay ((start _).trans ((aw ((fY (qn a0)).trans ((bg (qt a1)).trans (gH rfl (ai (ac e9 rfl) e) rfl rfl (by lia))))).trans fin1)),qB hs J hi hb,ux⟩
 by_cases a2:c % 5=2
 .have hvl:Vl 40 (.str "other"):=⟨by trivial,by trivial⟩;obtain ⟨o1,u1',v1⟩:=vg (n:=k.2.2.2) hvl;have ne:wC (.str "other") k.2.2.2∉rk.map (eK (bJ y cs)):=fun z=>by
   obtain ⟨q,hq,e⟩:=Wa.mp z;obtain ⟨n,r,rfl,hn,hro⟩:=J.r q hq;obtain ⟨g,_⟩:=hro.at_ (ka hc);have e:wC (r.getD (bJ y cs) .non) n=wC (.str "other") k.2.2.2:=e;have e2:=(vg (n:=n) g.l).2.2;rw [e,v1] at e2;exact g.o e2.symm
  obtain ⟨d,e,hb⟩:=xJ (nm:=nm) (xs:=(rk.map (eK (bJ y cs))).filter (fun l=>!decide (l=k))++[wC (.str "other") k.2.2.2]) J hi hc (fun l hl=>by
   rcases MK.mp hl with z|z
   .exact heF l z
   .rw [VM.mp z];exact ⟨o1,by rw [v1];kernel_rfl,by rw [xD];exact (he k hk).n⟩) (wL ndF fun z=>ne (XI.mp z).1) (by simp only [VU,W9];lia) fun z=>ne (z.mem_iff.mp (by simp))
  have e9:av cT (ag 6) (fA (ab (dM (ab (vC (.str "other")) (ab (uI 5 1) am))) am)) (M9 (tb (cb nm cs) (.dcf rk) (.dcf ik)) c y (bJ y cs) (rk.map (eK (bJ y cs))) k (some (.lst (((rk.map (eK (bJ y cs))).filter fun l=>!decide (l=k)).map aI))) ik)=.ok (.lst (((rk.map (eK (bJ y cs))).filter (fun l=>!decide (l=k))++[wC (.str "other") k.2.2.2]).map aI)):=by
   rw [Wx,aaz,u1'];exact ao rfl (cp (ac (b9 (ac rfl (ac (ao rfl rfl (u1 k)) rfl))) rfl)) (add_l.trans (abn (by rw [iN,W9];lia)))
  exact ⟨_,ay ((start _).trans ((aw ((fY (qn a0)).trans ((fY (qn a1)).trans ((bg (qt a2)).trans (gH rfl (ai (ac e9 rfl) e) rfl rfl (by lia)))))).trans fin1)),qB hs J hi hb,ux⟩
 by_cases a3:c % 5=3
 .obtain ⟨d,hd,ed⟩:=DB (fun d=>d) (L:=[lf [],lf (rk.map (eK (bJ y cs))++rk.map (eK (bJ y cs))),.non,.tup [.str "leaf",.lst ((rk.map (eK (bJ y cs))).map aI)]]) (by simp) (c/80);rw [Y8] at ed;have ed:cC _ (.int (c/80 % 4))=.ok d:=ed;have Y:ci (cI ik (.inr y) d) (.inr y)=some d:=mT (wY hi.nd) sL;have hb:bP [tb (cb nm cs) (.dcf rk) (.dcf (cI ik (.inr y) d)),.str y]=.ok (.bl false):=by
   simp only [nE,VQ,or_false] at hd;rcases hd with rfl|rfl|rfl|rfl
   .refine gb (HS J hc Y (ks:=[]) (.inl ⟨rfl,by simp⟩) Ys (fun k hk=>nomatch hk) (by simp)) (abp fun z=>?_)
    have:=(jJ (rk.map (eK (bJ y cs)))).length_eq
    rw [<- z] at this;simp at this;lia
   .refine El hc Y (gb (xN (fun l hl=>by rcases MK.mp hl with z|z <;> exact he l z) (by simp;lia)) ?_)
    rw [ZT];right
    cases e:rs (rk.map (eK (bJ y cs))++rk.map (eK (bJ y cs))) ((rk.map (eK (bJ y cs))++rk.map (eK (bJ y cs))).drop 1) with
    | false=>rfl
    | true=>exact absurd ((YH.mp (uZ.mp e)).2.2 k hk k hk) (TS.to4.irr _)
   .exact El hc Y (by kernel_rfl)
   .refine El hc Y (yY (FP ?_) ?_) <;> rw [zJ,nu]
    .exact ay ((skip (g9 (ck (aV (ai (ac rfl rfl) xQ) rfl)) (g9 (ck (aV (cz (ao rfl rfl cf) s_s) rfl)) (bb (ao (ao rfl rfl cf) rfl (zA.trans (by rw [abq rfl];rfl))))))).trans (ax (og (cz (ao rfl rfl ca) l_t))))
    .exact ay (bD ((bg (g9 (ck (aV (ai (ac rfl rfl) xQ) rfl)) (g9 (ck (aV (cz (ao rfl rfl cf) s_s) rfl)) (bb (ao (ao rfl rfl cf) rfl (zA.trans (by rw [Vh];rfl))))))).trans (ax rfl)))
  have e6:∀ {o6:Option D},fA (ab (dM (ab iw (ab (dM am) am))) (ab (dM (ab iw (ab (aj uP (ab (av cT (ag 4) (ag 4)) am)) am))) (ab (vC .non) (ab (dM (ab iw (ab (aj yM (ab (ag 4) am)) am))) am)))) (M9 (tb (cb nm cs) (.dcf rk) (.dcf ik)) c y (bJ y cs) (rk.map (eK (bJ y cs))) k o6 ik)=.ok (.lst [lf [],lf (rk.map (eK (bJ y cs))++rk.map (eK (bJ y cs))),.non,.tup [.str "leaf",.lst ((rk.map (eK (bJ y cs))).map aI)]]):=by
   unfold lf;rw [Wx];exact cp (ac (b9 (ac rfl (ac (b9 rfl) rfl))) (ac (b9 (ac rfl (ac (ai (ac (ao rfl rfl (add_l.trans (abn (by simp;lia)))) rfl) FQ) rfl))) (ac rfl (ac (b9 (ac rfl (ac (ai (ac rfl rfl) Rr) rfl))) rfl))))
  exact ⟨_,ay ((start _).trans ((aw ((fY (qn a0)).trans ((fY (qn a1)).trans ((fY (qn a2)).trans ((bg (qt a3)).trans ((aw (aL e6)).trans (gH rfl (ao rfl (bv (bL rfl rfl) rfl) ed) rfl rfl (by lia)))))))).trans fin1)),qB hs J hi hb,ux⟩
 .have nz:("zzzzzzzz":Str)∉cs.map VP:=fun z=>by
   obtain ⟨q,hq,e⟩:=Wa.mp z;exact (hs.c q hq).1.z e
  exact ⟨_,ay ((start _).trans ((aw ((fY (qn a0)).trans ((fY (qn a1)).trans ((fY (qn a2)).trans ((fY (qn a3)).trans (gH rfl (ao rfl rfl (pH rfl hdy).2) rfl rfl (by lia))))))).trans fin1)),qB hs J hi (So nz),ux⟩
end
section
variable {nm:Str} {cs:List (Str×Str)} {rk ik:List (Key×D)}
def Wr (d:D):Prop:=aX [d]=.ok (.bl false)/\∃ b,yJ "Table" [d,.cls "Table"]=.ok (.bl b)
def Mm (hs:Sh nm cs) (hr:Rk cs rk) (hi:Ik cs rk ik) (c:Int):∃ d,kH [tb (cb nm cs) (.dcf rk) (.dcf ik),.int c]=.ok d/\Wr d:=by
 rw [Hl,rl];have lr:∀ {U:Sd},bV (av HI (aj uo (ab (bH "Table" "rows" (ag 0)) am)) oJ) (some (tb (cb nm cs) (.dcf rk) (.dcf ik))::U)=.ok (decide (0 < (rk.length:Int))):=bb (ao (ai (ac (a7 rfl lG) rfl) rfl) rfl Eb);have li:∀ {U:Sd},bV (av HI (aj uo (ab (bH "Table" "indexes" (ag 0)) am)) oJ) (some (tb (cb nm cs) (.dcf rk) (.dcf ik))::U)=.ok (decide (0 < (ik.length:Int))):=bb (ao (ai (ac (a7 rfl nq) rfl) rfl) rfl Eb);have lt:∀ (n:Int),bV (av Az (av bz (ag 1) sC) (vC (.int n))) [some (tb (cb nm cs) (.dcf rk) (.dcf ik)),some (.int c),none]=.ok (decide (c % 5 < n)):=fun n=>bb (ao (bv rfl rfl) rfl vq);have J:∀ {τ υ:FT} {U:Sd} {a b:Bool},τ U=.ok a->υ U=.ok b->tV τ υ U=.ok (a&&b):=fun {τ υ U a b} h g=>by
  cases a with
  | true=>exact Ft h g
  | false=>exact FD h
 have q1:=J (lt 2) lr;have q2:=J (lt 4) (J lr li);cases e1:decide (c % 5 < 2)&&decide (0 < (rk.length:Int)) with
 | true =>
  rw [e1] at q1;have h0:0 < (rk.length:Int):=abr (Xu.mp e1).2;obtain ⟨d,e,hd,ho⟩:=Bp hs hr (by lia) (i:=.dcf ik) (c/5);exact ⟨d,ay (bD ((bg q1).trans (ax (ai (ac rfl (ac (bL rfl rfl) rfl)) e)))),hd,_,ho⟩
 | false =>
 rw [e1] at q1;cases e2:decide (c % 5 < 4)&&(decide (0 < (rk.length:Int))&&decide (0 < (ik.length:Int))) with
 | true =>
  rw [e2] at q2;have h:=Xu.mp (Xu.mp e2).2;have h0:0 < (rk.length:Int):=abr h.1;have h1:0 < (ik.length:Int):=abr h.2;obtain ⟨d,e,hd,ho⟩:=Ai hs hr hi (by lia) (by lia) (c/5);exact ⟨d,ay ((skip q1).trans (bD ((bg q2).trans (ax (ai (ac rfl (ac (bL rfl rfl) rfl)) e))))),hd,_,ho⟩
 | false =>
 rw [e2] at q2;have q3:∀ (n:Int),bV (av dR (av bz (av b8 (ag 1) Dm) zk) (vC (.int n))) [some (tb (cb nm cs) (.dcf rk) (.dcf ik)),some (.int c),none]=.ok (decide (c/4 % 3=n)):=fun n=>ph (bv (bL rfl rfl) rfl) rfl;by_cases a0:c/4 % 3=0
 .obtain ⟨d,hd,Y⟩:=DB (fun d=>d) (L:=[.tup [.str nm,.tup []],.lst [.str nm,.tup (cs.map eJ)],.str nm,.non,.tup [.str nm,.lst (cs.map eJ)]]) (by simp) (c/12);rw [Y8] at Y;have Y:cC _ (.int (c/12 % 5))=.ok d:=Y;have hb:cu [d]=.ok (.bl false):=by
   simp only [nE,VQ,or_false] at hd;rcases hd with rfl|rfl|rfl|rfl|rfl
   .exact FB hs.n JM
   .exact Aj (Ar l_t)
   .exact Aj (Ar (by kernel_rfl))
   .exact Aj (Ar (by kernel_rfl))
   .exact FB hs.n Jg
  have f0:∀ {U:Sd},av cC (bH "Table" "shape" (ag 0)) oJ (some (tb (cb nm cs) (.dcf rk) (.dcf ik))::U)=.ok (.str nm):=ao (a7 rfl dL) rfl cf;exact ⟨_,ay ((skip q1).trans ((skip q2).trans (bD ((bg ((q3 0).trans (by rw [abq a0]))).trans ((aw (aL (cp (ac (b9 (ac f0 (ac (b9 rfl) rfl))) (ac (ai (ac (a7 rfl dL) rfl) EM) (ac f0 (ac rfl (ac (b9 (ac f0 (ac (ai (ac (ao (a7 rfl dL) rfl ca) rfl) EM) rfl))) rfl)))))))).trans (ax (tL (ac (ao rfl (bv (bL rfl rfl) rfl) Y) (ac (a7 rfl lG) (ac (a7 rfl nq) rfl)))))))))),KC hb,_,ux⟩
 by_cases a1:c/4 % 3=1
 .exact ⟨_,ay ((skip q1).trans ((skip q2).trans ((skip ((q3 0).trans (by rw [abp a0]))).trans (bD ((bg ((q3 1).trans (by rw [abq a1]))).trans (ax (tL (ac (a7 rfl dL) (ac (a7 rfl lG) (ac (cp rfl) rfl)))))))))),C7 hs.ok,_,ux⟩
 .obtain ⟨d,hd,Y⟩:=DB (fun d=>d) (L:=[.non,.tup [cb nm cs,.dcf [],.dcf []],cb nm cs,.int 7,tb (cb nm cs) (.lst []) (.dcf [])]) (by simp) (c/12);rw [Y8] at Y;have Y:cC _ (.int (c/12 % 5))=.ok d:=Y;refine ⟨d,ay ((skip q1).trans ((skip q2).trans ((skip ((q3 0).trans (by rw [abp a0]))).trans ((skip ((q3 1).trans (by rw [abp a1]))).trans (ax (ao (cp (ac rfl (ac (b9 (ac (a7 rfl dL) (ac (sj rfl) (ac (sj rfl) rfl)))) (ac (a7 rfl dL) (ac rfl (ac (tL (ac (a7 rfl dL) (ac (cp rfl) (ac (sj rfl) rfl)))) rfl)))))) (bv (bL rfl rfl) rfl) Y)))))),?_⟩;simp only [nE,VQ,or_false] at hd;rcases hd with rfl|rfl|rfl|rfl|rfl
  .exact ⟨tM (by kernel_rfl),false,by kernel_rfl⟩
  .exact ⟨tM (by kernel_rfl),false,by kernel_rfl⟩
  .exact ⟨tM (by kernel_rfl),false,by kernel_rfl⟩
  .exact ⟨tM (by kernel_rfl),false,by kernel_rfl⟩
  .exact ⟨LW hs.ok,_,ux⟩
end
structure Gt (nm:Str) (t:D):Prop where
 n:NmOk nm
 g:∃ cs rk ik,t=tb (cb nm cs) (.dcf rk) (.dcf ik)/\Sh nm cs/\Rk cs rk/\Ik cs rk ik
theorem Gt.ok {nm:Str} {t:D} (h:Gt nm t):aX [t]=.ok (.bl true):=by
 obtain ⟨cs,rk,ik,rfl,L,J,hi⟩:=h.g;exact Ds L J hi
theorem Gt.under {nm y:Str} {t:D} (h:Gt nm t) (Y:NmOk y):bT [t,.str y]=.ok (.bl (decide (nm=y))):=by
 obtain ⟨cs,rk,ik,rfl,L,J,hi⟩:=h.g;exact T33.under Y (Ds L J hi)
def Gt.new {nm:Str} {t:D} (h:Gt nm t):∃ s,uR "Table" "shape" t=.ok s/\aX [tb s (.dcf []) (.dcf [])]=.ok (.bl true):=by
 obtain ⟨cs,rk,ik,rfl,L,Y,hi⟩:=h.g;exact ⟨_,dL,Ds L ⟨WQ,by simp,fun q J=>nomatch J⟩ ⟨WQ,by simp,fun q J=>nomatch J⟩⟩
def Gt.wrong {nm:Str} {t:D} (h:Gt nm t) (c:Int):∃ d,kH [t,.int c]=.ok d/\Wr d:=by
 obtain ⟨cs,rk,ik,rfl,L,J,hi⟩:=h.g;exact Mm L J hi c
structure Gs (s:List (Key×D)):Prop where
 nd:(s.map VP).Nodup
 l:s.length<=10
 t:∀ q∈s,∃ nm,q.1=.inr nm/\Gt nm q.2
section
variable {s:List (Key×D)} {nm:Str} {w:D}
theorem Gs.ok (h:Gs s):bX [.dcf s]=.ok (.bl true):=by
 have L:=h.l;refine gb (CL (by lia) (fun _=>true) fun q J=>?_) (by simp);obtain ⟨nm,e,g⟩:=h.t q J;rw [e];exact gb (g.under g.n) (abq rfl)
def Gs.bad (h:Gs s) (hw:bT [w,.str nm]=.ok (.bl false)):bX [.dcf (cI s (.inr nm) w)]=.ok (.bl false):=by
 have Y:=h.l;have L:=wH (kvs:=s) (k:=.inr nm) (d:=w);refine gb (CL (by lia) (fun q=>decide (q.1≠.inr nm)) fun q J=>?_) (by rw [Yv];exact ⟨_,sL (kvs:=s) (k:=.inr nm) (d:=w),by simp⟩);rcases wD J with rfl|z
 .exact gb hw (abp fun z=>z rfl).symm
 .obtain ⟨y,e,g⟩:=h.t q z.1;refine gb ?_ (abq z.2).symm;rw [e];exact gb (g.under g.n) (abq rfl)
end
abbrev N4 (S N C m sh ch:D) (s:List (Key×D)) (J L o9 o10:Option D):Sd:=[some S,some N,some C,some m,some sh,some ch,some (.dcf s),J,L,o9,o10]
abbrev rB1:FS:=(ba (eU (av BB (aj bX (ab (ag 6) am)) (vC (.bl true))) (av BB (aj aX (ab (av hJ (ag 6) (ag 8)) am)) (vC (.bl true)))))
section
variable {S N C m sh ch:D} {s:List (Key×D)} {nm:Str} {t:D} {mix:Int} {o9 o10:Option D}
def KA (h:Gs s) (J:ci s (.inr nm)=some t) (L:Gt nm t):rB1 (N4 S N C m sh ch s (some (.int mix)) (some (.str nm)) o9 o10)=.ok (.rt (.bl true)) :=
 ax (bZ (ao (ai (ac rfl rfl) h.ok) rfl rfl) (ao (ai (ac (ao rfl rfl (pH rfl J).1) rfl) L.ok) rfl rfl))
abbrev wB1:FS:=(aD (bp 10 (aj kH (ab (av hJ (ag 6) (ag 8)) (ab (av b8 (ag 7) Ja) am)))) (aD (iM 9 (ag 8) (ag 10)) (Ea 9 (fb (rR (bV (av iq (aj aX (ab (ag 10) am)) (vC (.bl false)))) (tV (dG (aj (yJ "Table") (ab (ag 10) (ab (vC (.cls "Table")) am)))) (bV (av iq (aj bX (ab (ag 9) am)) (vC (.bl false)))))) (ba (vC (.bl false))) bu))))
def QE (h:Gs s) (Y:ci s (.inr nm)=some t) (L:Gt nm t):∃ w,wB1 (N4 S N C m sh ch s (some (.int mix)) (some (.str nm)) (some (.dct s)) none)=.ok (.nx (N4 S N C m sh ch s (some (.int mix)) (some (.str nm)) (some (.dcf (cI s (.inr nm) w))) (some w))):=by
 obtain ⟨w,ew,hw,b,J⟩:=L.wrong (mix/6);have hl:=h.l;refine ⟨w,(aw (aL (ai (ac (ao rfl rfl (pH rfl Y).1) (ac (bL rfl rfl) rfl)) ew))).trans ((aw (gH rfl rfl rfl rfl (by lia))).trans ((qH rfl).trans ((fY (g9 (bb (ao (ai (ac rfl rfl) hw) rfl rfl)) ?_)).trans rfl)))⟩;cases b with
 | false=>exact FD (aV (ai (ac rfl (ac rfl rfl)) J) rfl)
 | true=>exact Ft (aV (ai (ac rfl (ac rfl rfl)) J) rfl) (bb (ao (ai (ac rfl rfl) (h.bad (JV L.n hw))) rfl rfl))
abbrev wB2:FS:=(aD (iM 9 (ag 8) (av hJ (ag 6) (av cC (ag 1) (av yK lR (av bz (av b8 (ag 7) zk) wF))))) (Ea 9 (fb (rR (bV (av iq (aj bX (ab (ag 9) am)) (vC (.bl false)))) (bV (av iq (aj aX (ab (av hJ (ag 9) (ag 8)) am)) (vC (.bl true))))) (ba (vC (.bl false))) bu)))
def SZ (h:Gs s) (Y:Gt nm t) {y:Str} {u:D} (hy:ci s (.inr y)=some u) (J:Gt y u) (ne:y≠nm) (L:cC N (.int (1 - mix/3 % 2))=.ok (.str y)):wB2 (N4 S N C m sh ch s (some (.int mix)) (some (.str nm)) (some (.dct s)) none)=.ok (.nx (N4 S N C m sh ch s (some (.int mix)) (some (.str nm)) (some (.dcf (cI s (.inr nm) u))) none)):=by
 have hl:=h.l;refine (aw (gH rfl (ao rfl (ao rfl (xK rfl (bv (bL rfl rfl) rfl)) L) (pH rfl hy).1) rfl rfl (by lia))).trans ((qH rfl).trans ((fY (g9 (bb (ao (ai (ac rfl rfl) (h.bad (gb (J.under Y.n) (abp ne)))) rfl rfl)) (bb (ao (ai (ac (ao rfl rfl (pH rfl (mT (wY h.nd) sL)).1) rfl) J.ok) rfl rfl)))).trans rfl))
end
def law_true (ns:List Int) (h:ns.length<=63):zc [.lst (ns.map D.int)]=.ok (.bl true):=by
 rw [RM,FM];obtain ⟨nm,en,ln,nd,tn⟩:=EF (cell ns 0*48271 % 1000003) 2 (by decide);obtain ⟨J,n1,rfl⟩:∃ a b,nm=[a,b]:=by
  match nm,ln with
  | [a,b],_=>exact ⟨a,b,rfl⟩
 have k0:=tn J (by simp);have k1:=tn n1 (by simp);have Y:J≠n1:=by simpa using nd
 obtain ⟨c0,es0,hs0⟩:=x5 k0 (cell ns 1*48271 % 1000003);obtain ⟨c1,es1,hs1⟩:=x5 k1 (cell ns 2*48271 % 1000003);have hC:yf (.lst (ns.map D.int)) (some 4) none=.ok (.lst ((ns.drop 4).map D.int)):=by rw [JJ,ut (by decide),YJ];rfl
 have hxl:(ns.drop 4).length<=63:=by simp;lia
 generalize ns.drop 4=xs at hC hxl;obtain ⟨m,hm,hm2,em⟩:∃ m:Nat,m<=20/\2*m<=xs.length/\Jj [.int 20,.int ((xs.length:Int)/2)]=.ok (.int (m:Int)):=by
  rw [RV];by_cases q:(xs.length:Int)/2 < 20
  .exact ⟨((xs.length:Int)/2).toNat,by lia,by lia,by rw [abn q,YT (by lia)]⟩
  .exact ⟨20,by lia,by lia,by rw [abo q];rfl⟩
 obtain ⟨p0,m0,ec0,lp0,hp0⟩:=zu hs0 (xs:=xs.take m) (by simp;lia);obtain ⟨p1,m1,ec1,lp1,hp1⟩:=zu hs1 (xs:=(xs.drop m).take m) (by simp;lia);rw [Xc] at lp0 lp1;obtain ⟨r0,i0,g0,hr0,hi0⟩:=Ca (s:=[]) hs0 (by simp) (by simp) hp0 (by lia) m0;have L:Gt J (tb (cb J c0) (.dcf r0) (.dcf i0)):=⟨k0,c0,r0,i0,rfl,hs0,hr0,hi0⟩;rw [List.nil_append] at g0;generalize tb (cb J c0) (.dcf r0) (.dcf i0)=t0 at g0 L;obtain ⟨r1,i1,g1,hr1,hi1⟩:=Ca (s:=[(.inr J,t0)]) hs1 (by intro z;simp at z;exact Y z.symm) (by simp) hp1 (by lia) m1;have gt1:Gt n1 (tb (cb n1 c1) (.dcf r1) (.dcf i1)):=⟨k1,c1,r1,i1,rfl,hs1,hr1,hi1⟩;generalize tb (cb n1 c1) (.dcf r1) (.dcf i1)=t1 at g1 gt1;have gg:=B0 (g0.app g1);have hg:Gs ([(.inr J,t0)]++[(.inr n1,t1)]):=⟨by simp;exact fun z=>Y z,by simp,fun q hq=>by
  simp only [MK,VM] at hq;rcases hq with rfl|rfl
  .exact ⟨J,rfl,L⟩
  .exact ⟨n1,rfl,gt1⟩⟩
 have v0:ci ([(.inr J,t0)]++[(.inr n1,t1)]) (.inr J)=some t0:=mT hg.nd (q:=(.inr J,t0)) (by simp);have v1:ci ([(.inr J,t0)]++[(.inr n1,t1)]) (.inr n1)=some t1:=mT hg.nd (q:=(.inr n1,t1)) (by simp);generalize ([(.inr J,t0)]++[(.inr n1,t1)]:List (Key×D))=s at gg hg v0 v1;obtain ⟨sn,fn,on_⟩:=L.new;have hs:∀ {U:Sd} {C:Option D} {M:Option D},bK [none,some 1,some 0] (oX (ab wF am)) (.one 0) de (aj hV (ab (av cC (ag 1) (ag 0)) (ab (av bz (av iJ (aj fe (ab (ag 2) (ab (av cT (ag 0) lR) am))) kl) kD) am))) (some (.lst (ns.map D.int))::some (.lst ([J,n1].map D.str))::C::M::U)=.ok (.lst [cb J c0,cb n1 c1]):=by
  intro U C M;refine cG (xE (n:=2) rfl (by decide)) (jU (rest:=[some (.lst ([J,n1].map D.str)),some (.lst (ns.map D.int))]) (fun p:Int×D=>.int p.1) (fun p=>p.2) [(0,cb J c0),(1,cb n1 c1)] (fun p hp=>?_) (by simp));simp only [nE,VQ,or_false] at hp;rcases hp with rfl|rfl
  .exact ai (ac (ao rfl rfl nO) (ac (bv (mY (ai (ac rfl (ac (dQ rfl rfl) rfl)) (wJ ns (0+1) (by decide))) rfl) rfl) rfl)) es0
  .exact ai (ac (ao rfl rfl xw) (ac (bv (mY (ai (ac rfl (ac (dQ rfl rfl) rfl)) (wJ ns (1+1) (by decide))) rfl) rfl) rfl)) es1
 have a0:yf (.lst (xs.map D.int)) none (some (m:Int))=.ok (.lst ((xs.take m).map D.int)):=by rw [JJ,xR (by lia),V1,Zx]
 have a1:yf (.lst (xs.map D.int)) (some (m:Int)) (some (2*(m:Int)))=.ok (.lst (((xs.drop m).take m).map D.int)):=by
  rw [JJ,EC (by lia) (by lia) (by rw [iN];lia),V1,show (2*(m:Int)).toNat - m=m by lia,Zx,YJ]
 obtain ⟨nm,t,y,u,x1,x2,hv,hy,ht,hu,ne⟩:∃ nm t y u,cC (.lst ([J,n1].map D.str)) (.int (cell ns 3*48271 % 1000003/3 % 2))=.ok (.str nm)/\cC (.lst ([J,n1].map D.str)) (.int (1 - cell ns 3*48271 % 1000003/3 % 2))=.ok (.str y)/\ci s (.inr nm)=some t/\ci s (.inr y)=some u/\Gt nm t/\Gt y u/\y≠nm:=by
  rcases (show cell ns 3*48271 % 1000003/3 % 2=0\/cell ns 3*48271 % 1000003/3 % 2=1 by lia) with e|e <;> rw [e]
  .exact ⟨J,t0,n1,t1,nO,xw,v0,v1,L,gt1,Y.symm⟩
  .exact ⟨n1,t1,J,t0,xw,nO,v1,v0,gt1,L,Y⟩
 have qe:∀ {o9 o10:Option D} {S N C M sh ch:D},bV (av dR (av bz (ag 7) zk) wF) (N4 S N C M sh ch s (some (.int (cell ns 3*48271 % 1000003))) (some (.str nm)) o9 o10)=.ok (decide (cell ns 3*48271 % 1000003 % 3=2)):=ph (bv rfl rfl) rfl;have ql:∀ {o9 o10:Option D} {S N C M sh ch:D},bV (av Az (av bz (ag 7) zk) wF) (N4 S N C M sh ch s (some (.int (cell ns 3*48271 % 1000003))) (some (.str nm)) o9 o10)=.ok (decide (cell ns 3*48271 % 1000003 % 3 < 2)):=bb (ao (bv rfl rfl) rfl vq);refine ay ((aw (aL (ai (ac (bv (mY (ai (ac rfl (ac rfl rfl)) (wJ ns 0 (by decide))) rfl) rfl) (ac rfl rfl)) en))).trans ((aw (aL (uf rfl (eV rfl) rfl hC))).trans ((aw (aL (ai (ac rfl (ac (bL (b5 rfl (qf _ _)) rfl) rfl)) em))).trans ((aw (aL hs)).trans ((aw (aL (ao (ai (ac (ao rfl rfl nO) (ac (uf rfl rfl (eV rfl) a0) rfl)) ec0) (ai (ac (ao rfl rfl xw) (ac (uf rfl (eV rfl) (eV (ao rfl rfl (zN (by decide)))) a1) rfl)) ec1) (add_l.trans (abn ?_))))).trans ((aw (aL (ai (ac (sj rfl) (ac rfl rfl)) gg))).trans ?_))))))
 .have:=hs0.l1
  have:=hs1.l1
  simp;lia
 refine (skip (g9 (bb (ao (ai (ac (sj rfl) rfl) (Gs.ok (s:=[]) ⟨WQ,by simp,fun q hq=>nomatch hq⟩)) rfl rfl)) (bb (ao (ai (ac (ai (ac (a7 (ao rfl (ao rfl rfl nO) (pH rfl v0).1) fn) rfl) zL) rfl) on_) rfl rfl)))).trans ((skip (g9 (bb (ao (ai (ac rfl rfl) hg.ok) rfl rfl)) (bb (ao (ai (ac (ao rfl (ao rfl rfl nO) (pH rfl v0).1) rfl) L.ok) rfl rfl)))).trans ((aw (aL (bv (mY (ai (ac rfl (ac rfl rfl)) (wJ ns 3 (by decide))) rfl) rfl))).trans ((aw (aL (ao rfl (bv (bL rfl rfl) rfl) x1))).trans ((aw (iU (ai (ac rfl rfl) vw))).trans ?_))))
 by_cases e:cell ns 3*48271 % 1000003 % 3 < 2
 .obtain ⟨w,ew⟩:=QE (S:=.lst (ns.map D.int)) (N:=.lst ([J,n1].map D.str)) (C:=.lst (xs.map D.int)) (m:=.int (m:Int)) (sh:=.lst [cb J c0,cb n1 c1]) (ch:=_) (mix:=cell ns 3*48271 % 1000003) hg hv ht;exact (bg (ql.trans (by rw [abq e]))).trans ((aw ew).trans ((skip (qe.trans (by rw [abp (by lia)]))).trans (KA hg hv ht)))
 .exact (fY (ql.trans (by rw [abp e]))).trans ((aw rfl).trans ((aw ((bg (qe.trans (by rw [abq (by lia)]))).trans (SZ hg ht hy hu ne x2))).trans (KA hg hv ht)))
end T33
namespace T33
open PySem L2
def dk {w:VZ} {h:Xj} {mg:aby} (X:(HD.K w.params).In h) (G:h.Ns VF mg) {n:Str} {st:WO} {f:Nat} (c:Nat) (m:gs) {ps:abv}
  (a:VN (HD.K w.params) VF n=some (some (.ref f))/\(HD.K w.params).lookup f=some ⟨.type "function",none,.func (Xe n n (j4 st) (gC st) (aq st) .none .none .none m none (.ref c) .none),#[]⟩/\Za (HD.K w.params) (.ref c) n=true/\Yy (HD.K w.params) (.ref f)=true)
  (b:∀ (kV L pm:gs) (Y:Option Do) (J ct:gs) (us:abA),us.length=ps.length->bindArgs (Xe n n (j4 st) (gC st) (aq st) .none kV L pm Y J ct) ⟨us,[]⟩=pure (ps.zip us)) :
  Def (HD.K w.params) mg n st ps f (Xe n n (j4 st) (gC st) (aq st) .none .none .none m none (.ref c) .none) :=
 have F:=Kt (st:=st) a.2.1 a.2.2.1 a.2.2.2
 ⟨F,F.binds b,WA X G a.1⟩
local macro_rules | `(tactic| walk_at"kk") => `(tactic| exact ⟨by kernel_rfl, by kernel_rfl, by kernel_rfl, by kernel_rfl⟩)
local macro_rules | `(tactic| walk_at "kz") => `(tactic| kernel_rfl)
def all_mk {l:ZK} {w:VZ} {h:Xj} {mg:aby} {fa:Do} (X:(HD.K w.params).In h) (G:h.Ns VF mg) (hfa:mg "law"=some (.ref fa)) :
  ∃ fd:Wl,(∀ (s:iF) (v:gs),BindsTo s fd ⟨[v],[]⟩ [("_law_script",v)])/\∀ base:Xj,(HD.K w.params).In base->base.Ns VF mg->FnOk l.prog w (HD.K w.params) mg base dc 11 fa fd yg (eY (HD.K w.params) mg zc):=by
 have a62:VN (HD.K w.params) VF "law"=some (some (.ref 619)):=by kernel_rfl
 have v_KINDS:VN (HD.K w.params) VF "KINDS"=some (some (.ref 124)):=by kernel_rfl
 have w_KINDS:(HD.K w.params).lookup 124=some ⟨.type "tuple",none,.seq #[.str "none" 337,.str "number" 338,.str "text" 339] 0,#[]⟩:=by kernel_rfl
 have v_MOST_SIGNS:VN (HD.K w.params) VF "MOST_SIGNS"=some (some (.int 40 341)):=by kernel_rfl
 have v_FEWEST:VN (HD.K w.params) VF "FEWEST"=some (some (.int 4 380)):=by kernel_rfl
 have v_MOST:VN (HD.K w.params) VF "MOST"=some (some (.int 8 382)):=by kernel_rfl
 have Y:VN (HD.K w.params) VF "FEWEST_OF_ROOT"=some (some (.int 2 384)):=by kernel_rfl
 have L:VN (HD.K w.params) VF "MOST_ROW_NUMBER"=some (some (.int 1000000000 386)):=by kernel_rfl
 have v_NO_NAMES:VN (HD.K w.params) VF "NO_NAMES"=some (some (.ref 260)):=by kernel_rfl
 have w_NO_NAMES:(HD.K w.params).lookup 260=some ⟨.type "tuple",none,.seq #[.str "and" 509,.str "by" 510,.str "down" 511,.str "from" 512,.str "none" 513,.str "not" 514,.str "or" 515,.str "order" 516,.str "show" 517,.str "take" 518,.str "where" 519] 0,#[]⟩:=by kernel_rfl
 have v_COLUMN_KINDS:VN (HD.K w.params) VF "COLUMN_KINDS"=some (some (.ref 261)):=by kernel_rfl
 have J:(HD.K w.params).lookup 261=some ⟨.type "tuple",none,.seq #[.str "number" 521,.str "text" 522] 0,#[]⟩:=by kernel_rfl
 have v_MOST_LETTERS:VN (HD.K w.params) VF "MOST_LETTERS"=some (some (.int 8 524)):=by kernel_rfl
 have v_MOST_COLUMNS:VN (HD.K w.params) VF "MOST_COLUMNS"=some (some (.int 8 526)):=by kernel_rfl
 have wP:VN (HD.K w.params) VF "FORMS"=some (some (.ref 463)):=by kernel_rfl
 have w_FORMS:(HD.K w.params).lookup 463=some ⟨.type "dict",none,.dict #[HD.ke w.params "table" 795 (.int 2 796),HD.ke w.params "index" 797 (.int 3 798),HD.ke w.params "put" 799 (.int 4 800),HD.ke w.params "drop" 801 (.int 3 802)] 4,#[]⟩:=by kernel_rfl
 have kk_FORMS:YS w.params #[HD.ke w.params "table" 795 (.int 2 796),HD.ke w.params "index" 797 (.int 3 798),HD.ke w.params "put" 799 (.int 4 800),HD.ke w.params "drop" 801 (.int 3 802)].toList:=⟨⟨_,_,rfl,rfl⟩,⟨⟨_,_,rfl,rfl⟩,⟨⟨_,_,rfl,rfl⟩,⟨⟨_,_,rfl,rfl⟩,WX⟩⟩⟩⟩;have i_FORMS_3:VN (HD.K w.params) 463 "drop"=some (some (.int 3 802)):=by kernel_rfl
 have i_FORMS_2:VN (HD.K w.params) 463 "put"=some (some (.int 4 800)):=by kernel_rfl
 have i_FORMS_1:VN (HD.K w.params) 463 "index"=some (some (.int 3 798)):=by kernel_rfl
 have i_FORMS_0:VN (HD.K w.params) 463 "table"=some (some (.int 2 796)):=by kernel_rfl
 have Be:#[HD.ke w.params "table" 795 (.int 2 796),HD.ke w.params "index" 797 (.int 3 798),HD.ke w.params "put" 799 (.int 4 800),HD.ke w.params "drop" 801 (.int 3 802)].toList.map (fun e=>Lz e.key)=(iB.map (·.1)).map some:=by kernel_rfl
 have Bf:(463==W2)=false:=by kernel_rfl
 have zn:∀ {n:Str},VN (HD.K w.params) VF n=some none->mg n=none:=fun e=>PySem.W.mg_none_of X G e;have e:=hfa.symm.trans (WA X G a62);cases e;have rD:Def _ mg "is_sign" uX nt 136 _:=dk X G 135 HD.m335 (by walk_at"kk") fun _ _ _ _ _ _=>sw (fun _=>rfl);have lK:Def _ mg "is_value" oM kJ 129 _:=dk X G 128 HD.m335 (by walk_at"kk") fun _ _ _ _ _ _=>sw (fun _=>rfl);have fS:Def _ mg "kind_of" uU nA 143 _:=dk X G 142 HD.m335 (by walk_at"kk") fun _ _ _ _ _ _=>sw (fun _=>rfl);have rE:Def _ mg "compare" vD nP 150 _:=dk X G 149 HD.m335 (by walk_at"kk") fun _ _ _ _ _ _=>wv (fun _ _=>rfl);have mE:Def _ mg "order_key" qw jF 157 _:=dk X G 156 HD.m335 (by walk_at"kk") fun _ _ _ _ _ _=>sw (fun _=>rfl);have jj:Def _ mg "comes_ahead" mQ gn 164 _:=dk X G 163 HD.m378 (by walk_at"kk") fun _ _ _ _ _ _=>wv (fun _ _=>rfl);have jk:Def _ mg "empty_index" mW gm 171 _:=dk X G 170 HD.m378 (by walk_at"kk") fun _ _ _ _ _ _=>ln0 (rfl);have g7:Def _ mg "things_in" qL jz 183 _:=dk X G 182 HD.m378 (by walk_at"kk") fun _ _ _ _ _ _=>sw (fun _=>rfl);have kA:Def _ mg "entries_of" km il 176 _:=dk X G 175 HD.m378 (by walk_at"kk") fun _ _ _ _ _ _=>sw (fun _=>rfl);have lM:Def _ mg "first_of" sW lq 204 _:=dk X G 203 HD.m378 (by walk_at"kk") fun _ _ _ _ _ _=>sw (fun _=>rfl);have nU:Def _ mg "is_two" w4 pP 247 _:=dk X G 246 HD.m378 (by walk_at"kk") fun _ _ _ _ _ _=>sw (fun _=>rfl);have nV:Def _ mg "is_cell" vi nG 226 _:=dk X G 225 HD.m378 (by walk_at"kk") fun _ _ _ _ _ _=>Qt (fun _ _ _=>rfl);have rG:Def _ mg "rises" wG t9 259 _:=dk X G 258 HD.m378 (by walk_at"kk") fun _ _ _ _ _ _=>sw (fun _=>rfl);have cU:Def _ mg "is_row_number" jY eF 254 _:=dk X G 253 HD.m378 (by walk_at"kk") fun _ _ _ _ _ _=>sw (fun _=>rfl);have lN:Def _ mg "is_entry" sU kK 240 _:=dk X G 239 HD.m378 (by walk_at"kk") fun _ _ _ _ _ _=>sw (fun _=>rfl);have nW:Def _ mg "is_leaf" qR nQ 214 _:=dk X G 213 HD.m378 (by walk_at"kk") fun _ _ _ _ _ _=>wv (fun _ _=>rfl);have rH:Def _ mg "is_part" vm m6 233 _:=dk X G 232 HD.m378 (by walk_at"kk") fun _ _ _ _ _ _=>sw (fun _=>rfl);have jL:Def _ mg "is_branch" ma jI 219 _:=dk X G 218 HD.m378 (by walk_at"kk") fun _ _ _ _ _ _=>wv (fun _ _=>rfl);have pq:Def _ mg "is_index" fm lI 209 _:=dk X G 208 HD.m378 (by walk_at"kk") fun _ _ _ _ _ _=>sw (fun _=>rfl);have mF:Def _ mg "is_letter" pN jD 273 _:=dk X G 272 HD.m507 (by walk_at"kk") fun _ _ _ _ _ _=>sw (fun _=>rfl);have kI:Def _ mg "is_name" rg nS 266 _:=dk X G 265 HD.m507 (by walk_at"kk") fun _ _ _ _ _ _=>sw (fun _=>rfl);have fT:Def _ mg "is_column_kind" i4 dr 306 _:=dk X G 305 HD.m507 (by walk_at"kk") fun _ _ _ _ _ _=>sw (fun _=>rfl);have nX:Def _ mg "is_pair" vF m5 287 _:=dk X G 286 HD.m507 (by walk_at"kk") fun _ _ _ _ _ _=>sw (fun _=>rfl);have mG:Def _ mg "is_column" qo jE 299 _:=dk X G 298 HD.m507 (by walk_at"kk") fun _ _ _ _ _ _=>sw (fun _=>rfl);have jl:Def _ mg "are_columns" gk gh 292 _:=dk X G 291 HD.m507 (by walk_at"kk") fun _ _ _ _ _ _=>sw (fun _=>rfl);have lO:Def _ mg "is_shape" sM lm 280 _:=dk X G 279 HD.m507 (by walk_at"kk") fun _ _ _ _ _ _=>sw (fun _=>rfl);have dE:Def _ mg "column_place" kT ff 313 _:=dk X G 312 HD.m507 (by walk_at"kk") fun _ _ _ _ _ _=>wv (fun _ _=>rfl);have mH:Def _ mg "fits_kind" pM jK 325 _:=dk X G 324 HD.m507 (by walk_at"kk") fun _ _ _ _ _ _=>wv (fun _ _=>rfl);have yw:Def _ mg "fits" zS yj 318 _:=dk X G 317 HD.m507 (by walk_at"kk") fun _ _ _ _ _ _=>wv (fun _ _=>rfl);have lP:Def _ mg "cells_of" sF kL 344 _:=dk X G 343 HD.m599 (by walk_at"kk") fun _ _ _ _ _ _=>wv (fun _ _=>rfl);have pz:Def _ mg "parts_of" ot kU 349 _:=dk X G 348 HD.m599 (by walk_at"kk") fun _ _ _ _ _ _=>sw (fun _=>rfl);have uE:Def _ mg "rooted" xp qK 356 _:=dk X G 355 HD.m599 (by walk_at"kk") fun _ _ _ _ _ _=>sw (fun _=>rfl);have jM:Def _ mg "entry_key" pT jt 389 _:=dk X G 388 HD.m599 (by walk_at"kk") fun _ _ _ _ _ _=>sw (fun _=>rfl);have dZ:Def _ mg "index_from" pf ij 382 _:=dk X G 381 HD.m599 (by walk_at"kk") fun _ _ _ _ _ _=>sw (fun _=>rfl);have jN:Def _ mg "new_table" qg jB 417 _:=dk X G 416 HD.m687 (by walk_at"kk") fun _ _ _ _ _ _=>sw (fun _=>rfl);have pA:Def _ mg "with_row" tm kZ 424 _:=dk X G 423 HD.m687 (by walk_at"kk") fun _ _ _ _ _ _=>Qt (fun _ _ _=>rfl);have iE:Def _ mg "entries_by" j5 ir 450 _:=dk X G 449 HD.m687 (by walk_at"kk") fun _ _ _ _ _ _=>wv (fun _ _=>rfl);have kB:Def _ mg "with_index" oH iu 445 _:=dk X G 444 HD.m687 (by walk_at"kk") fun _ _ _ _ _ _=>wv (fun _ _=>rfl);have jm:Def _ mg "is_index_by" mU gl 462 _:=dk X G 461 HD.m687 (by walk_at"kk") fun _ _ _ _ _ _=>wv (fun _ _=>rfl);have c8:Def _ mg "is_table" kP la 455 _:=dk X G 454 HD.m687 (by walk_at"kk") fun _ _ _ _ _ _=>sw (fun _=>rfl);have rJ:Def _ mg "word_of" uV nT 484 _:=dk X G 483 HD.m793 (by walk_at"kk") fun _ _ _ _ _ _=>sw (fun _=>rfl);have fU:Def _ mg "state_with" oA iz 533 _:=dk X G 532 HD.m793 (by walk_at"kk") fun _ _ _ _ _ _=>Qt (fun _ _ _=>rfl);have ei:Def _ mg "state_with_table" gM cO 491 _:=dk X G 490 HD.m793 (by walk_at"kk") fun _ _ _ _ _ _=>wv (fun _ _=>rfl);have lQ:Def _ mg "table_in" sJ lB 519 _:=dk X G 518 HD.m793 (by walk_at"kk") fun _ _ _ _ _ _=>wv (fun _ _=>rfl);have eB:Def _ mg "state_with_index" gN cQ 498 _:=dk X G 497 HD.m793 (by walk_at"kk") fun _ _ _ _ _ _=>Qt (fun _ _ _=>rfl);have fV:Def _ mg "state_with_row" iP dh 505 _:=dk X G 504 HD.m793 (by walk_at"kk") fun _ _ _ _ _ _=>VC (fun _ _ _ _=>rfl);have rK:Def _ mg "changed" vB m7 470 _:=dk X G 469 HD.m793 (by walk_at"kk") fun _ _ _ _ _ _=>wv (fun _ _=>rfl);have jn:Def _ mg "all_changed" mL gq 477 _:=dk X G 476 HD.m793 (by walk_at"kk") fun _ _ _ _ _ _=>wv (fun _ _=>rfl);have fW:Def _ mg "is_table_under" iO dw 545 _:=dk X G 544 HD.m793 (by walk_at"kk") fun _ _ _ _ _ _=>wv (fun _ _=>rfl);have eD:Def _ mg "is_state" om lg 538 _:=dk X G 537 HD.m793 (by walk_at"kk") fun _ _ _ _ _ _=>sw (fun _=>rfl);have g8:Def _ mg "_law_cell_at" pX jr 552 _:=dk X G 551 HD.m913 (by walk_at"kk") fun _ _ _ _ _ _=>wv (fun _ _=>rfl);have nY:Def _ mg "_law_names" re nD 557 _:=dk X G 556 HD.m913 (by walk_at"kk") fun _ _ _ _ _ _=>wv (fun _ _=>rfl);have mI:Def _ mg "_law_sign_by" qx jp 564 _:=dk X G 563 HD.m913 (by walk_at"kk") fun _ _ _ _ _ _=>sw (fun _=>rfl);have mJ:Def _ mg "_law_text_by" mr jq 569 _:=dk X G 568 HD.m913 (by walk_at"kk") fun _ _ _ _ _ _=>sw (fun _=>rfl);have kC:Def _ mg "_law_shape_by" oE iC 576 _:=dk X G 575 HD.m913 (by walk_at"kk") fun _ _ _ _ _ _=>wv (fun _ _=>rfl);have pB:Def _ mg "_law_row_by" sY kM 583 _:=dk X G 582 HD.m913 (by walk_at"kk") fun _ _ _ _ _ _=>wv (fun _ _=>rfl);have jO:Def _ mg "_law_changes" ms jA 588 _:=dk X G 587 HD.m913 (by walk_at"kk") fun _ _ _ _ _ _=>wv (fun _ _=>rfl);have iG:Def _ mg "_law_row_spoilt" lC fg 595 _:=dk X G 594 HD.m913 (by walk_at"kk") fun _ _ _ _ _ _=>Qt (fun _ _ _=>rfl);have gI:Def _ mg "_law_rows_spoilt" jR eN 602 _:=dk X G 601 HD.m913 (by walk_at"kk") fun _ _ _ _ _ _=>wv (fun _ _=>rfl);have fX:Def _ mg "_law_index_spoilt" cL di 607 _:=dk X G 606 HD.m913 (by walk_at"kk") fun _ _ _ _ _ _=>wv (fun _ _=>rfl);have rL:Def _ mg "_law_wrong" u8 np 614 _:=dk X G 613 HD.m913 (by walk_at"kk") fun _ _ _ _ _ _=>wv (fun _ _=>rfl);have KN:Def _ mg "law" xz yg 619 _:=dk X G 618 HD.m913 (by walk_at"kk") fun _ _ _ _ _ _=>sw (fun _=>rfl);have gJ:mg "Table"=some (.ref 406):=WA X G (by kernel_rfl);have aB:SJ (HD.K w.params) "Table" 406:=(by kernel_rfl:VN (HD.K w.params) VF "Table"=some (some (.ref 406)));have aG:IsC (HD.K w.params) 406:=⟨⟨by kernel_rfl,by kernel_rfl,by kernel_rfl,by kernel_rfl⟩,by kernel_rfl,by kernel_rfl,by kernel_rfl,by kernel_rfl,by kernel_rfl,by kernel_rfl,by kernel_rfl,by kernel_rfl⟩;have gy:Mk (HD.K w.params) 406 403:=⟨by kernel_rfl,by kernel_rfl,by kernel_rfl,by kernel_rfl⟩;have uJ:Fun (HD.K w.params) "__init__" "Table.__init__" nL 403 (Xe "__init__" "Table.__init__" (j4 nL) (gC nL) (aq nL) .none .none .none HD.m687 none (.ref 402) .none):=Kt (oc:=.type "function") (od:=none) (osl:=#[]) (by kernel_rfl) (by kernel_rfl) (by kernel_rfl);have gz:=uJ.binds (ps:=["self","shape","rows","indexes"]) fun _ _ _ _ _ _=>VC (fun _ _ _ _=>rfl);have aJ:iZ (HD.K w.params) 406 "shape":=(by kernel_rfl:WB (HD.K w.params) (.ref 406) "shape"=some none);have bo:iZ (HD.K w.params) 406 "rows":=(by kernel_rfl:WB (HD.K w.params) (.ref 406) "rows"=some none);have bf:iZ (HD.K w.params) 406 "indexes":=(by kernel_rfl:WB (HD.K w.params) (.ref 406) "indexes"=some none);refine ⟨Xe "law" "law" (j4 xz) (gC xz) (aq xz) .none .none .none (.str "law_tablestore_k33_sound_or_not" 913) none (.ref 618) .none,fun s v=>.of_eq rfl,fun base _ _=>?_⟩;exact On ⟨rD,lK,fS,rE,mE,jj,jk,g7,kA,lM,nU,nV,rG,cU,lN,nW,rH,jL,pq,mF,kI,fT,nX,mG,jl,lO,dE,mH,yw,lP,pz,uE,jM,dZ,jN,pA,iE,kB,jm,c8,rJ,fU,ei,lQ,eB,fV,rK,jn,fW,eD,g8,nY,mI,mJ,kC,pB,jO,iG,gI,fX,rL,KN,⟨_,w_KINDS,rfl,rfl⟩,WA X G v_KINDS,rfl,fun H=>⟨124,[V.str "none",V.str "number",V.str "text"],rfl,.inr ⟨_,_,_,w_KINDS,rfl,rfl,(by rw [V6];exact RW (show 3<=1000 by decide) (by decide)),(.cons ⟨_,rfl⟩ (.cons ⟨_,rfl⟩ (.cons ⟨_,rfl⟩ .nil)))⟩,(aN.cons rfl (aN.cons rfl (aN.cons rfl aN.nil)))⟩,WA X G v_MOST_SIGNS,⟨_,rfl⟩,fun H=>rfl,WA X G v_FEWEST,⟨_,rfl⟩,fun H=>rfl,WA X G v_MOST,⟨_,rfl⟩,fun H=>rfl,WA X G Y,⟨_,rfl⟩,fun H=>rfl,WA X G L,⟨_,rfl⟩,fun H=>rfl,⟨_,w_NO_NAMES,rfl,rfl⟩,WA X G v_NO_NAMES,rfl,fun H=>⟨260,[V.str "and",V.str "by",V.str "down",V.str "from",V.str "none",V.str "not",V.str "or",V.str "order",V.str "show",V.str "take",V.str "where"],rfl,.inr ⟨_,_,_,w_NO_NAMES,rfl,rfl,(by rw [V6];exact RW (show 11<=1000 by decide) (by decide)),(.cons ⟨_,rfl⟩ (.cons ⟨_,rfl⟩ (.cons ⟨_,rfl⟩ (.cons ⟨_,rfl⟩ (.cons ⟨_,rfl⟩ (.cons ⟨_,rfl⟩ (.cons ⟨_,rfl⟩ (.cons ⟨_,rfl⟩ (.cons ⟨_,rfl⟩ (.cons ⟨_,rfl⟩ (.cons ⟨_,rfl⟩ .nil)))))))))))⟩,(aN.cons rfl (aN.cons rfl (aN.cons rfl (aN.cons rfl (aN.cons rfl (aN.cons rfl (aN.cons rfl (aN.cons rfl (aN.cons rfl (aN.cons rfl (aN.cons rfl aN.nil)))))))))))⟩,⟨_,J,rfl,rfl⟩,WA X G v_COLUMN_KINDS,rfl,fun H=>⟨261,[V.str "number",V.str "text"],rfl,.inr ⟨_,_,_,J,rfl,rfl,(by rw [V6];exact RW (show 2<=1000 by decide) (by decide)),(.cons ⟨_,rfl⟩ (.cons ⟨_,rfl⟩ .nil))⟩,(aN.cons rfl (aN.cons rfl aN.nil))⟩,WA X G v_MOST_LETTERS,⟨_,rfl⟩,fun H=>rfl,WA X G v_MOST_COLUMNS,⟨_,rfl⟩,fun H=>rfl,WA X G wP,w_FORMS,kk_FORMS,fun y d e=>tab_of (tab:=iB) (P:=fun y d=>∃ v u,VN (HD.K w.params) 463 y=some (some u)/\bq v u/\∀ H,dF (HD.K w.params) H d v) (XW.mpr ⟨⟨.int 2,.int 2 796,i_FORMS_0,⟨_,rfl⟩,fun H=>rfl⟩,(XW.mpr ⟨⟨.int 3,.int 3 798,i_FORMS_1,⟨_,rfl⟩,fun H=>rfl⟩,(XW.mpr ⟨⟨.int 4,.int 4 800,i_FORMS_2,⟨_,rfl⟩,fun H=>rfl⟩,(XW.mpr ⟨⟨.int 3,.int 3 802,i_FORMS_3,⟨_,rfl⟩,fun H=>rfl⟩,(fun _ h=>nomatch h)⟩)⟩)⟩)⟩) e,wP,Be,Bf,gJ,aB,aG,gy,uJ,gz,aJ,bo,bf,zn (by kernel_rfl),zn (by kernel_rfl),zn (by kernel_rfl),zn (by kernel_rfl),zn (by kernel_rfl),zn (by kernel_rfl),zn (by kernel_rfl),zn (by kernel_rfl),zn (by kernel_rfl),zn (by kernel_rfl),zn (by kernel_rfl),zn (by kernel_rfl),zn (by kernel_rfl),zn (by kernel_rfl),zn (by kernel_rfl),zn (by kernel_rfl)⟩
def walk {l:ZK} {q:VH} {loose:abv} {XP:(aby)->Xj->Prop} {Y:VZ->Xj->Prop} {d:DefRec} {K:Y9->aT} (hn:l.most=some 63) (L:d.params.defaults=[])
  (hY:∀ (w:VZ) (h:Xj),Y w h->(K w.params).In h)
  (F:∀ (w:VZ) (mg:aby) (J:Do) (h:Xj),(K w.params).In h->h.Ns VF mg->mg d.name=some (.ref J) ->
   ∃ fd:Wl,(∀ (s:iF) (u:gs),BindsTo s fd ⟨[u],[]⟩ [("_law_script",u)])/\∀ base:Xj,(K w.params).In base->base.Ns VF mg->FnOk l.prog w (K w.params) mg base dc 11 J fd yg (eY (K w.params) mg zc)) :
  PySem.W.WalkO q loose XP Y l.row.toRowW d [] (fun f vs=>aaI f vs) :=
 L2.MD (n:=63) (k:=11) (x:="_law_script") (CX:=fun _=>dc) (sp:=fun w=>HK (K w.params) zc) hn (by decide) L ⟨rfl,by decide,by decide⟩ hY (fun w mg J h h1 h2 h3=>Lp (F w mg J h h1 h2 h3)) (fun _ _ a ns hl _ hS=>Lg hS (law_true ns hl) fun _=>rfl) fun _ _ _ _ _ z=>z
end T33
open PySem PySem.W PyProof.Rows
set_option maxRecDepth 100000 in
set_option maxHeartbeats 0 in
theorem PySem.Challenge.cw_tablestore_k33_sound_or_not_holds : PySem.Challenge.rw_tablestore_k33_sound_or_not.Holds := by
 refine HD.hold (L2.walkX (fun _=>by kernel_rfl) ?_);exact T33.walk (l:=PySem.Challenge.rw_tablestore_k33_sound_or_not) (K:=HD.K) rfl (by kernel_rfl) (fun w h Y=>Y) fun w mg fa h KX G hmg=>T33.all_mk KX G hmg
