import PyProof.Rows.All
import Wide.All
import OpenK.AllK
import Wide.FinOn
import Lean
import PyProof.EqAt
import PyProof.EqKinds
import PyProof.TupleCall
import PyProof.ZipIter
import PyProof.Draws
import PyProof.EnumMake
import PyProof.Rows.SetFrom
import KE.KIntText
import KE.IntTextLaws
import KE.KSortTup
import PyProof.StrLawsChain
import PyProof.StrCalls6
import PyProof.ExcAttrAll.ValueError
import PySem.Challenge.RW_tablestore_k30_one_table
set_option maxHeartbeats 4000000
set_option maxRecDepth 100000
set_option linter.all false
set_option compiler.extract_closed false
open Array renaming length_toList->Le,getElem?_toList->Xf,perm_iff_toList_perm->Xq,getElem_extract->X2,toList_append->YD,toList_inj->YJ,toList_push->Zr,toList_map->ZH,toList_setIfInBounds->Z5,size_extract->Z9,toList_reverse->abr,toList_modify->abF,mk->abS,size_append->ab1
open Array.Perm renaming refl->ZV
open Bool renaming false_ne_true->iF,and_eq_true->W5,false_eq_true->Xu,eq_iff_iff->YR,and_eq_true_iff->abv,and_false->aby
open False renaming elim->XO
open ForInStep renaming yield->ZQ
open Int renaming toNat_natCast->WH,emod_lt_of_pos->aaa,emod_nonneg->abh,ediv_one->ab9
open List renaming length_map->eQ,mem_cons_of_mem->iN,map_cons->lE,getElem?_eq_getElem->oR,mem_cons->rW,size_toArray->By,length_append->Do,mem_append->MK,mem_cons_self->OR,mem_map->P2,length_cons->RW,mem_singleton->Ws,mem_append_right->Wu,map_append->Wy,length_take->WA,append_assoc->WC,getElem?_eq_some_iff->WD,length_drop->WI,map_map->WL,getElem_mem->WM,of_mem_zip->WO,mem_append_left->WX,pairwise_append->W1,getElem?_map->W4,flatten_cons->W6,nodup_cons->W8,find?_cons->Xe,pairwise_iff_getElem->Xj,zip_cons_cons->Xl,append_nil->Xn,mem_flatten->Xo,mem_of_getElem?->Xr,mem_filter->Xw,filter_cons->Xy,map_congr_left->XA,flatten_append->XB,take_append_drop->XF,all_cons->XI,length_eq_one_iff->XS,take_of_length_le->XT,length_range->XW,getElem?_append_left->XZ,drop_eq_getElem_cons->X0,length_filter_le->X1,lookup_cons->X3,all_eq_true->X4,mem_of_mem_take->X6,mem_of_mem_drop->X7,nodup_nil->Yb,range->Yc,lookup->Yf,filter_eq_self->Yh,getElem?_append_right->Yl,getD_eq_getElem?_getD->Ym,length_singleton->Yp,pairwise_cons->Ys,mergeSort_perm->YF,filter_cons_of_pos->YG,filter_cons_of_neg->YH,drop_zero->YM,perm_append_comm->YS,length_zip->YU,sublist_flatten_of_mem->YV,pairwise_map->YY,perm_ext_iff_of_nodup->Y3,take_zero->Y6,any_cons->Zf,getElem?_cons_zero->Zg,nil_append->Zl,set->Zm,getElem?_eq_none->ZE,reverse_reverse->ZK,filterMap_cons->ZO,length_nil->ZP,filter_sublist->ZR,getElem_of_mem->ZU,length_pos_iff->ZW,replicate->aae,drop_drop->aag,lt_irrefl->aah,getElem?_take_of_lt->aar,getElem_drop->aaw,nodup_append->aaz,getElem?_replicate->aaG,getElem?_cons_succ->aaJ,pairwise_mergeSort->aaL,pairwise_singleton->aaM,map_take->aaO,map_drop->aaP,not_mem_nil->aaU,range'_succ->aaV,take_length->aaX,getElem?_set_self->aaZ,drop_eq_nil_of_le->aa2,filter_eq_nil_iff->aa3,range_succ_eq_map->aa4,map_nil->aa7,dropLast_eq_take->aba,pairwise_flatten->abf,getElem?_set_ne->abq,reverse_append->abE,mem_filterMap->abJ,getElem?_drop->abN,filter_append->abP,find?_eq_none->abR,any_eq_false->abU,getElem_take->ab2,reverse_cons->ab3,length->acn,range'->aco
open List.Pairwise renaming nil->YX
open List.Perm renaming trans->ZT,eq_of_pairwise->aax,refl->acu
open List.cons renaming inj->aaK
open Nat renaming le_refl->mK,le_trans->IF,zero_le->WB,lt_of_lt_of_le->WE,ne_of_lt->WK,le_succ_of_le->XU,zero_add->Yr,lt_irrefl->YC,min_eq_left->Zh,not_lt_zero->Zi,lt_of_succ_lt_succ->Zq,sub_le_sub_right->ZJ,div_le_div_right->ZL,sub_le_sub_left->ZS,le_of_eq->Z7,sub_zero->Z8,lt_succ_self->aaT,add_mul_div_right->abg,mul_le_mul_right->abu,le_succ->abC,add_assoc->abQ,le_of_lt->ab6,lt_or_ge->aca,sub_sub->acp
open Ne renaming symm->aac
open Option renaming bind_eq_some_iff->W9,isSome_map->aat,getD_none->acd
open Option.some renaming inj->WG,injEq->aau
open Or renaming inl->Wo,inr->Xs
open Prod renaming fst->BY,snd->X8
open PyProof.Rows renaming wpS_bind->nE,wpS_pure->tp,arrOf->DO,Keyed->Wq,pendingOf->Wz,SortSt->WZ,seqObj->Xb,slot_tuple_getitem->Xd,wpS_forRange->Xh,failedOf->Xp,callWith_type1->XH,wpS_modify->Yd,wpS_mono->Yz,listUpdate_at->Y1,wpS_get->Ze,IsTup->Zs,wpS_lift->Zz,SortKind->ZM,get?_update_seq->Z0,minRun'->aaQ,ksk_end->aaR,envOfC->abk,tuples'->abl
open PyProof.Rows.SortSt renaming mk'->Yn
open PySem renaming wpAny_bind->bY,Value->dO,Shared->gs,wpAny_pure->CT,Addr->ID,sizeLine->Wp,wpAny->Wv,Program->Ww,model->Wx,mainGlobals->WJ,Around->WN,compareOp->WR,bootBuiltins->WS,starEach->WT,World->WU,sizeLine_eq->W0,FuncData->W2,Expr->W3,wpAny_mono->W7,attributeBase->Xa,wpAny_newObj_type->Xk,wpAny_call_entry->Xz,foldedSetIterable->XG,wpAny_Call_Name_kw->XM,wpAny_callSpecial?_slot->XN,assignEach->XR,wpAny_isNot_plain->XY,Stmt->X5,binaryOp->X9,mem_of_lookup->Yg,wpAny_field->Yi,wpAny_loadPart'->Yj,sysModules->Yo,wpAny_holding->Yt,behindInMarks->Yu,wpAny_is_plain->Yx,Heap->Yy,wpAny_passesOwn->YB,wpAny_attempt->YI,swapsWith->YL,wpAny_rule->YO,builtinLookup_eq_fast->YW,NameKind->Y0,OsState->Y4,backTo->Y9,wpAny_eqBool_int->Za,wpAny_of_eq->Zd,Fin->Zj,tupleKind_room_in1->Zo,wpAny_truthy_bool->Zt,cLine->Zu,keywordEach->Zv,sliceBounds->Zw,wpAny_setField->Zy,wpAny_typeOf->ZF,wpAny_execs_nil->ZX,letOwnedTupleGo->ZY,Keyword->ZZ,typeLookup_type->Z1,codeAny_mono->aab,codeAny->aai,getItem->aaj,firstArgMember->aak,isSubtype_type->aal,call_meets->aaA,Params->aaB,treeTable->aaC,PyData->aaY,PassesOwn->abi,rawInt->abj,evalArgs_none->abD,call->abZ,standAt->ab4,Within->ab5,pyIter->acs
open PySem.Around renaming under->ab7
open PySem.Builtin.List renaming listTooLong->XE
open PySem.Builtin.Slice renaming slicePlaces->Yv,sliceAdjust->Y5,sliceApplied->Z3
open PySem.Builtin.SmallTypes renaming nextOf->Yw,stopIteration->abT
open PySem.Builtin.Str renaming strSliceIndices->XJ,occurrences->aaF
open PySem.Builtin.Tuple renaming tupleExact->YA,tupleItemsOf->Z4,tupleIsExact->Z6
open PySem.Calls renaming callWith_builtin->Yk,evalArgs_plain->ZI,Name_function_global->Z2,spliced_cons->abL,spliced_nil->abX
open PySem.Code renaming isFrame->ab8
open PySem.F renaming plainAttrs_list->YE,args_tuple_add_2->aas,slot_tuple_index->aav,entry_tuple_add->aaH,plainAttrs_dict->aaI,slot_list_index->aaN,slot_tuple_add->aa1,slot_dict_pop->aa8,slot_str_join->abc,type_str_join->abd
open PySem.Fin renaming done->acy
open PySem.Flow renaming ret->acz
open PySem.Heap renaming get?_push_of_some->lT,get?_push_size->Wr,lt_size->Wt,get?_update_ne->Zb,get?_update_other->Zp,SameBut->ZA,get?_update_self->ZC,size_push->aad,get?_push_ne->aay,get?_none_of_le->abp
open PySem.Heap.SameBut renaming update->XX
open PySem.IsL renaming update->ace
open PySem.NameKind renaming free->Xi,cell->acx
open PySem.Obj renaming mapSeq->WQ,data_mapFields->Yq,isFreed_of_fields->ZD,mapFields->abO
open PySem.Paired renaming length->aaE
open PySem.PassesOwn renaming never->WY
open PySem.PyData renaming eqv->YN,canLayAll0->YZ,depthAll->Zk,depth->abe
open PySem.SeqAt renaming shaped->Xg,canLay_of_shaped->YQ,EqAt->abY,eqAt_reads->ach
open PySem.SeqAt.EqAt renaming int_str->abH,str_int->abI
open PySem.Str renaming ofString->WV,length->abn
open PySem.Txt renaming join->abo
open PySem.Value renaming ref->WW,none->Xm,type->ZN,int->aam,isStrOf->aaD,str->aa5,bool->abm,isInt->abz,float->acj
open PySem.W renaming Frag->aT,kia_one->Xc,nsIn->Xv,findIn->Xx,emptyDict->XD,fnOf->Ya,instObj->Ye,kat_cons->YK,kat_yes->YT,looks_pair->Y2,kat_go->Y7,kat_no->Y8,mg_of->Zn,keepIn->Zx,boot_heap->ZG,codeIn->aaf,methodObj->aan,hasDictIn->aao,kitx_list->aap,kitx_dict->aaq,plainGet->aaS,BoolBack->aaW,cellsFrom_some->aa0,takerIn->aa6,OpenLaw->aa9,kat_one->abb,lookIn->abw,kitOne->abx,kitx_tuple->abK,callWith_K->abM,plainOver->abV,specialIn->abW,handedIn->acb,kat_kind->acg,kdl_dict->aci,makesIn->ack,takesIn->acm,kat_nil->acq,KatTups->acr,kat_lt->acv,keq_ne->acw
open PySem.W.Fast renaming te14364793385576792824->XC,te10110043849684766642->Zc
open PySem.W.KatTups renaming cons->abt,nil->abG
open PySem.WalksT renaming enumerateD->ab0
open Std.Legacy renaming Range->acf
open Sum renaming inl->abA,inr->abB
open True renaming intro->XQ
def acA:=@if_pos
def acB:=@if_neg
def acC:=@decide_eq_false
def acD:=@decide_eq_true
def acE:=@of_decide_eq_true
def acF:=@congrArg
abbrev acG:=List Nat
abbrev acH:=List PySem.Str
abbrev acI:=List (PySem.Addr×PySem.Obj)
abbrev acJ:=PySem.Value->PySem.Shared->Prop
abbrev acK:=PySem.Str->Option PySem.Value
abbrev acL:=List PySem.Addr
abbrev acM:=List PySem.Value
abbrev acP (x:PySem.Str):Prop:=(x==("__debug__":PySem.Str))=false
local macro_rules|`(tactic|walk_at "v")=>`(tactic|first|exact Or.inl rfl|exact Or.inr (Or.inl rfl)|exact Or.inr (Or.inr rfl))
local macro_rules|`(tactic|walk_at "u")=>`(tactic|first|exact Or.inl rfl|exact Or.inr rfl|assumption)
local macro_rules|`(tactic|trivial)=>`(tactic|decide +kernel)
namespace L2
def eG {α I J ε:Type} {p q:α->I->J->ε->Prop} {r:Prop} (h:∃ a b c d,p a b c d/\q a b c d) (k:∀ a b c d,p a b c d->q a b c d->r):r:=by
 obtain ⟨a,b,c,d,x,y⟩:=h;exact k a b c d x y
def nY {α I:Type} {p q r:α->I->Prop} {z:Prop} (h:∃ a b,p a b/\q a b/\r a b) (k:∀ a b,p a b->q a b->r a b->z):z:=by
 obtain ⟨a,b,x,y,w⟩:=h;exact k a b x y w
end L2
set_option Elab.async false
namespace L2
open PySem Sem
def oH {M:Model} {L:Ctx} {p:Pos} {t:Sem Fin} {fs:List Frame} {s:gs} {e:End} {s':gs} (h:Runs M L p t fs s e s'):s.toks<=s'.toks:=by
 induction h <;> first
  | exact mK _
  | assumption
  | (rename_i Y;exact Nat.le_of_succ_le Y)
  | (rename_i J I;exact IF J I)
  | (rename_i h1 h2 h3 J I;exact IF J I)
def Bu {M:Model} {L:Ctx} {p:Pos} {g:Nat} {r:Resume} {s:gs} {I:GenResult} {s':gs} (h:Wakes M L p g r s I s'):s.toks<=s'.toks:=by
 unfold Wakes at h;split at h
 .exact h.elim
 .split at h
  .obtain ⟨J,Y,h1,_,_,rfl⟩:=h;have q:=oH h1;exact q
  .rw [h.2];exact mK _
  .rw [h.2];exact mK _
 .obtain ⟨J,Y,h1,_,_,rfl⟩:=h;have q:=oH h1;exact q
 .rw [h.2];exact mK _
 .rw [h.2];exact mK _
def wp_toks {X:Type} {n:Nat} {post:X->Pos->gs->Prop} {L:dO->Pos->gs->Prop} (M:Model) (Y:Ctx) (J:Sem X) (pos:Pos) (sh:gs) (hn:n<=sh.toks)
  (jm:wp M Y J (fun x p s=>n<=s.toks->post x p s) (fun x p s=>n<=s.toks->L x p s) pos sh):wp M Y J post L pos sh:=by
 revert jm hn
 induction J generalizing pos sh with
 | pure x=>exact fun hn h=>h hn
 | raise v=>exact fun hn h=>h hn
 | unsupported|finish|yield|fork|await|register=>exact fun _ h=>h
 | rule _ k I|«at» _ k I|alloc _ k I|loadIfAlive _ k I|point _ k I|ask k I|os _ _ k I|handled _ k I|newGen _ k I|stack k I|thread k I=>exact fun hn h=>I _ _ _ hn h
 | fresh k I=>exact fun hn h=>I _ _ _ (XU hn) h
 | load a _ k I|genState a k I=>exact fun hn ⟨o,ho,h⟩=>⟨o,ho,I _ _ _ hn h⟩
 | update a _ f k I|choose _ _ k I=>exact fun hn ⟨ha,h⟩=>⟨ha,I _ _ _ hn h⟩
 | call c h g l k I=>exact fun hn ⟨r,s',hr,hk⟩=>⟨r,s',hr,I r pos s' (IF hn (oH hr)) hk⟩
 | resume g r l k I=>exact fun hn ⟨res,s',hw,h⟩=>⟨res,s',hw,I _ _ _ (IF hn (Bu hw)) h⟩
def bo {α:Type} {M:Model} {A:WN} {t:Sem α} {Q:α->gs->Prop} {E:acJ} {s:gs} {n:Nat} (hn:n<=s.toks)
  (h:Wv M A t (fun v s'=>n<=s'.toks->Q v s') (fun e s'=>n<=s'.toks->E e s') s):Wv M A t Q E s:=fun J p I=>wp_toks M J t p s hn (h J p I)
def gR {M:Model} {A:WN} {c:Code} {R:Result->gs->Prop} {s:gs} {n:Nat} (hn:n<=s.toks) (h:aai M A c (fun r s'=>n<=s'.toks->R r s') s):aai M A c R s:=fun J p e I =>
 let ⟨r,s',hr,hR⟩:=h J p e I
 ⟨r,s',hr,hR (IF hn (oH hr))⟩
end L2
namespace L2
open PySem PySem.Spec PyProof.Rows
abbrev bD:=Sum Int Str
def sN:bD->dO->Bool
 | .inl k,v=>abz k v
 | .inr x,v=>aaD x v
def T8 (w:WU):bD->Int
 | .inl k=>hashInt k
 | .inr x=>hashStr w x
def cu:∀ {k:bD} {v:dO},sN k v=true->(∃ i t,k=abA i/\v=aam i t)\/(∃ x t,k=abB x/\v=aa5 x t)
 | .inl i,v,h=>by
  obtain ⟨t,e⟩:=Value.isInt_shape (k:=i) (v:=v) h;exact .inl ⟨i,t,rfl,e⟩
 | .inr x,v,h=>by
  obtain ⟨t,e⟩:=Value.isStrOf_shape (x:=x) (v:=v) h;exact .inr ⟨x,t,rfl,e⟩
def D8 (i:Int) (t:Tok):sN (.inl i) (.int i t)=true:=by simp [sN,abz]
def DC (x:Str) (t:Tok):sN (.inr x) (.str x t)=true:=by simp [sN,aaD]
def Mc (a b:Int):decide ((abA a:bD)=abA b)=(a==b):=by
 by_cases e:a=b
 .subst e;simp
 .have h:¬ (abA a:bD)=abA b:=fun q=>e (Sum.inl.inj q);rw [acC h];exact (beq_eq_false_iff_ne.mpr e).symm
def LY (a b:Str):decide ((abB a:bD)=abB b)=decide (a=b):=by
 by_cases e:a=b
 .subst e;simp
 .have h:¬ (abB a:bD)=abB b:=fun q=>e (Sum.inr.inj q);rw [acC h,acC e]
def Ml (a:Int) (b:Str):decide ((abA a:bD)=abB b)=false:=acC (fun q=>nomatch q)
def N1 (a:Str) (b:Int):decide ((abB a:bD)=abA b)=false:=acC (fun q=>nomatch q)
def b6 (prog:Ww) (w:WU):PySem.KeyKind prog w bD where
 is:=sN
 hash:=T8 w
 inj:=fun v a b L J=>by
  rcases cu L with ⟨i,t,rfl,rfl⟩|⟨x,t,rfl,rfl⟩
  .rcases cu J with ⟨j,u,rfl,e⟩|⟨y,u,rfl,e⟩
   .injection e with e1 _;rw [e1]
   .exact nomatch e
  .rcases cu J with ⟨j,u,rfl,e⟩|⟨y,u,rfl,e⟩
   .exact nomatch e
   .injection e with e1 _;rw [e1]
 byValue:=fun k v h=>by
  rcases cu h with ⟨i,t,rfl,rfl⟩|⟨x,t,rfl,rfl⟩ <;> rfl
 pyHash:=fun I h=>by
  rcases cu I with ⟨i,t,rfl,rfl⟩|⟨x,t,rfl,rfl⟩
  .exact wpAny_pyHash_int h
  .exact wpAny_pyHash_str h
 eqBool:=fun Y I h=>by
  rcases cu Y with ⟨i,t,rfl,rfl⟩|⟨x,t,rfl,rfl⟩
  .rcases cu I with ⟨j,u,rfl,rfl⟩|⟨y,u,rfl,rfl⟩
   .rw [Mc] at h;exact Za h
   .rw [Ml] at h;exact abH i t y u _ _ _ _ h
  .rcases cu I with ⟨j,u,rfl,rfl⟩|⟨y,u,rfl,rfl⟩
   .rw [N1] at h;exact abI x t j u _ _ _ _ h
   .rw [LY] at h;exact wpAny_eqBool_str h
 «strs»:=fun k x t v h=>by
  rcases cu h with ⟨i,u,rfl,e⟩|⟨y,u,rfl,e⟩
  .exact nomatch e
  .injection e with e1 _
   subst e1;cases v <;> rfl
def zw (prog:Ww) (w:WU) (i:Int) (t:Tok):(b6 prog w).is (.inl i) (.int i t)=true:=D8 i t
def zD (prog:Ww) (w:WU) (x:Str) (t:Tok):(b6 prog w).is (.inr x) (.str x t)=true:=DC x t
inductive V where
 | non|bl (b:Bool)|int (i:Int)|str (x:Str)|byt (b:Array UInt8)|flt (b:UInt64)|ref (a:ID)|ty (n:String)
 deriving DecidableEq
abbrev acN:=List V
def bg:V->dO->Prop
 | .non,u=>u=Xm
 | .bl b,u=>u=abm b
 | .int i,u=>∃ t,u=aam i t
 | .str x,u=>∃ t,u=aa5 x t
 | .byt b,u=>∃ t,u=Value.bytes b t
 | .flt b,u=>∃ t,u=acj b t
 | .ref a,u=>u=WW a
 | .ty n,u=>u=ZN n
abbrev bf:acN->acM->Prop:=Paired bg
theorem bf.length {xs:acN} {us:acM} (r:bf xs us):xs.length=us.length:=aaE r
def bf.get:∀ {xs:acN} {us:acM} {i:Nat} {x:V},bf xs us->xs[i]?=some x->∃ u,us[i]?=some u/\bg x u
 | _,_,_,_,.nil,e=>by simp at e
 | _,_,0,_,.cons r _,e=>by simp at e;subst e;exact ⟨_,rfl,r⟩
 | _,_,i+1,x,.cons _ t,e=>by
  obtain ⟨u,h1,h2⟩:=bf.get (i:=i) (x:=x) t (by simpa using e);exact ⟨u,by simpa using h1,h2⟩
def bf.append:∀ {xs ys:acN} {us ws:acM},bf xs us->bf ys ws->bf (xs++ys) (us++ws)
 | _,_,_,_,.nil,s=>s
 | _,_,_,_,.cons r t,s=>.cons r (bf.append t s)
def bf.take:∀ {xs:acN} {us:acM} (n:Nat),bf xs us->bf (xs.take n) (us.take n)
 | _,_,0,_=>.nil
 | _,_,_+1,.nil=>.nil
 | _,_,n+1,.cons r t=>.cons r (bf.take n t)
def bf.drop:∀ {xs:acN} {us:acM} (n:Nat),bf xs us->bf (xs.drop n) (us.drop n)
 | _,_,0,r=>r
 | _,_,_+1,.nil=>.nil
 | _,_,n+1,.cons _ t=>bf.drop n t
def oS:Option V->Option dO->Prop
 | some v,some u=>bg v u
 | none,none=>True
 | _,_=>False
def KV {κ:Type}:List (κ×V)->List (κ×dO)->Prop:=Paired fun (p:κ×V) (q:κ×dO)=>p.1=q.1/\bg p.2 q.2
def kV:bD->V
 | .inl i=>.int i
 | .inr x=>.str x
inductive HO where
 /-- a list -/
 | lst (xs:acN)
 /-- a tuple (never changes) -/
 | tup (xs:acN)
 /-- a dict whose E4 are ints and texts;one whose E4 are tuples of ints and texts (the empty one is both) -/
 | dK (kvs:List (bD×V))|dT (kvs:List (List bD×V))
 /-- a set of ints: its members,its size -/
 | set (S:Int->Bool) (n:Nat)
 /-- an instance of the class at C,its dict at dx,its attributes -/
 | ins (C dx:ID) (fs:List (Str×V))
 /-- the dict of the instance at x -/
 | own (x:ID)
 /-- the dict of an exception -/
 | xd (fs:List (Str×V))
 /-- a bound method,f of x -/
 | met (f x:ID)
 /-- a range object lo,lo+1,.. below hi -/
 | rng (lo hi:Int)
 /-- a thing that is jm to the object (the script;a dict while a loop walks it): read,never written while it is so -/
 | frz (o:Obj) (u:HO)
 /-- a code object's table -/
 | tbl (ps:Array dO)
 /-- any other thing,by what is true of its one object (a def of one's own: SetO a S n:=HO.ext fun h=>..) -/
 | ext (φ:Yy->Prop)
abbrev Hp:=ID->Option HO
def upd (H:Hp) (a:ID) (o:HO):Hp:=fun b=>if b=a then some o else H b
def aS {H:Hp} {a:ID} {o:HO}:upd H a o a=some o:=by unfold upd;rw [acA rfl]
def aP {H:Hp} {a b:ID} {o:HO} (h:b≠a):upd H a o b=H b:=by unfold upd;rw [acB h]
def x9 {H:Hp} {a:ID} {o u:HO}:upd (upd H a o) a u=upd H a u:=by
 funext b;unfold upd;split <;> rfl
def SO {H:Hp} {a b:ID} {o u:HO} (h:H a=some o) (h':H b=some u) (d:o≠u):a≠b:=by
 intro e;subst e;rw [h] at h';exact d (WG h')
def bH {H:Hp} {a b:ID} {o:HO} (h:H a=some o) (h':H b=none):a≠b:=by
 intro e;subst e;rw [h] at h';cases h'
section
variable (P:Ww) (w:WU)
def bX (H:Hp) (h:Yy) (a:ID):HO->Prop
 | .lst xs=>xs.length<=Wp/\∃ (its:acM) (n:Nat),bf xs its/\h.get? a=some { cls:=.type "list",data:=.seq its.toArray n }
 | .tup xs=>xs.length<=Wp/\∃ its:acM,bf xs its/\Zs h a its.toArray
 | .dK kvs=>kvs.length<=Wp/\(a==Yo)=false/\∃ vs,KV kvs vs/\h.DictOf (b6 P w) a vs
 | .dT kvs=>kvs.length<=Wp/\(a==Yo)=false/\∃ xs:List (List bD×ID×dO),
   Paired (fun (p:List bD×V) (q:List bD×ID×dO)=>p.1=q.1/\H q.2.1=some (.tup (p.1.map kV))/\bg p.2 q.2.2) kvs xs /\
   ∃ o es ep,h.get? a=some o/\o.ExactDict/\o.data=.dict es ep/\es.toList=xs.map (entryOfKey (tupleKind (b6 P w)))/\(xs.map (·.1)).Nodup
 | .set S n=>h.SetOf (intKind P w) a S n
 | .ins C dx fs=>H dx=some (.own a)/\fs.length<=1000/\dx≠a/\h.get? a=some (Ye C dx) /\
   ∃ mA,h.Ns1 dx mA/\(∀ f,oS (fs.lookup f) (mA f))/\ab5 mA (fs.map (·.1))
 | .own _=>∃ o,h.get? a=some o
 | .xd fs=>∃ mA,h.Ns1 a mA/\∀ f,oS (fs.lookup f) (mA f)
 | .rng lo hi=>∃ t u v,h.get? a=some { cls:=.type "range",data:=.fields #[.int lo t,.int hi u,.int 1 v] }
 | .frz o u=>h.get? a=some o/\bX H h a u
 | .tbl ps=>h.get? a=some { cls:=.none,data:=.fields ps }
 | .met f x=>h.get? a=some (aan (.ref f) (.ref x))
 | .ext φ=>φ h/\(∃ o,h.get? a=some o)/\∀ h1 h2:Yy,φ h1->(∀ o,h1.get? a=some o->h2.get? a=some o)->φ h2
def pY (H:Hp) (h:Yy):Prop:=∀ a o,H a=some o->bX P w H h a o
end
section
variable {P:Ww} {w:WU} {H H':Hp} {h h':Yy} {a:ID} {o:HO}
def bX.lt (x:bX P w H h a o):a < h.objs.size:=by
 cases o with
 | lst xs=>obtain ⟨_,_,_,_,e⟩:=x;exact Wt e
 | tup xs=>obtain ⟨_,_,_,p⟩:=x;exact p.lt
 | dK kvs=>obtain ⟨_,_,_,_,o,_,_,e,_⟩:=x;exact Wt e
 | dT kvs=>obtain ⟨_,_,_,_,o,_,_,e,_⟩:=x;exact Wt e
 | set S n=>obtain ⟨o,_,_,_,e,_⟩:=x;exact Wt e
 | ins C dx fs=>obtain ⟨_,_,_,e,_⟩:=x;exact Wt e
 | own y=>obtain ⟨_,e⟩:=x;exact Wt e
 | xd fs=>obtain ⟨_,⟨_,_,_,e,_⟩,_⟩:=x;exact Wt e
 | rng lo hi=>obtain ⟨_,_,_,e⟩:=x;exact Wt e
 | frz I u=>obtain ⟨e,_⟩:=x;exact Wt e
 | tbl ps=>exact Wt (show h.get? a=some _ from x)
 | met f y=>exact Wt (show h.get? a=some _ from x)
 | ext φ=>obtain ⟨_,⟨_,e⟩,_⟩:=x;exact Wt e
def Paired.mapP {α L:Type} {F G:α->L->Prop}:∀ {J:List α} {I:List L},Paired F J I->(∀ a b,F a b->G a b)->Paired G J I
 | _,_,.nil,_=>.nil
 | _,_,.cons r t,f=>.cons (f _ _ r) (Paired.mapP t f)
def bX.stay (x:bX P w H h a o) (k:∀ b u,(b=a\/H b=some (.own a))->h.get? b=some u->h'.get? b=some u)
  (J:∀ b,H b=some (.own a)->H' b=some (.own a)) (Y:∀ b xs,H b=some (.tup xs)->H' b=some (.tup xs)):bX P w H' h' a o:=by
 induction o with
 | lst xs=>obtain ⟨z,its,n,r,e⟩:=x;exact ⟨z,its,n,r,k _ _ (.inl rfl) e⟩
 | tup xs=>obtain ⟨z,its,r,I,e,c⟩:=x;exact ⟨z,its,r,I,k _ _ (.inl rfl) e,c⟩
 | dK kvs=>obtain ⟨z,y,vs,r,I,es,ep,e,c⟩:=x;exact ⟨z,y,vs,r,I,es,ep,k _ _ (.inl rfl) e,c⟩
 | dT kvs =>
  obtain ⟨z,y,xs,r,I,es,ep,e,c⟩:=x;exact ⟨z,y,xs,Paired.mapP r fun p q z=>⟨z.1,Y _ _ z.2.1,z.2.2⟩,I,es,ep,k _ _ (.inl rfl) e,c⟩
 | set S n=>obtain ⟨I,es,ep,t,e,c⟩:=x;exact ⟨I,es,ep,t,k _ _ (.inl rfl) e,c⟩
 | ins C dx fs =>
  obtain ⟨d,z,ne,e,mA,⟨od,es,ep,e2,c⟩,r⟩:=x;exact ⟨J _ d,z,ne,k _ _ (.inl rfl) e,mA,⟨od,es,ep,k _ _ (.inr d) e2,c⟩,r⟩
 | own y=>obtain ⟨I,e⟩:=x;exact ⟨I,k _ _ (.inl rfl) e⟩
 | xd fs=>obtain ⟨mA,⟨od,es,ep,e,c⟩,r⟩:=x;exact ⟨mA,⟨od,es,ep,k _ _ (.inl rfl) e,c⟩,r⟩
 | rng lo hi=>obtain ⟨t,u,v,e⟩:=x;exact ⟨t,u,v,k _ _ (.inl rfl) e⟩
 | frz I u L=>obtain ⟨e,q⟩:=x;exact ⟨k _ _ (.inl rfl) e,L q⟩
 | tbl ps =>
  have e:h.get? a=some { cls:=.none,data:=.fields ps }:=x;show h'.get? a=some { cls:=.none,data:=.fields ps };exact k a _ (.inl rfl) e
 | met f y =>
  have e:h.get? a=some (aan (.ref f) (.ref y)):=x;show h'.get? a=some (aan (.ref f) (.ref y));exact k a _ (.inl rfl) e
 | ext φ=>obtain ⟨p,⟨o,e⟩,st⟩:=x;exact ⟨st _ _ p fun o q=>k _ _ (.inl rfl) q,⟨o,k _ _ (.inl rfl) e⟩,st⟩
def pY.lt (x:pY P w H h) (e:H a=some o):a < h.objs.size:=(x a o e).lt
def pY.fresh (x:pY P w H h) (e:h.objs.size<=a):H a=none:=by
 cases q:H a with
 | none=>rfl
 | some u=>exact absurd (WE (x.lt q) e) (YC _)
def pY.kept (x:pY P w H h) (k:∀ b u,h.get? b=some u->h'.get? b=some u):pY P w H h':=fun a o e =>
 (x a o e).stay (fun b u _ q=>k b u q) (fun _ q=>q) fun _ _ q=>q
def pY.laid (x:pY P w H h) (k:∀ b u,h.get? b=some u->h'.get? b=some u) (J:h.objs.size<=a) (new:bX P w (upd H a o) h' a o):pY P w (upd H a o) h':=fun b u e=>by
 have hn:=x.fresh J;by_cases I:b=a
 .subst I;rw [aS] at e;cases e;exact new
 .rw [aP I] at e;exact (x b u e).stay (fun c v _ q=>k c v q) (fun c q=>by rw [aP (bH q hn)];exact q) fun c xs q=>by rw [aP (bH q hn)];exact q
end
def Rd (H:Hp) (a:ID) (u:HO):Prop:=H a=some u\/∃ o,H a=some (.frz o u)
theorem Rd.ok {P:Ww} {w:WU} {H:Hp} {h:Yy} {a:ID} {u:HO} (r:Rd H a u) (x:pY P w H h):bX P w H h a u:=by
 rcases r with r|⟨o,r⟩
 .exact x a u r
 .obtain ⟨_,q⟩:=x a _ r;exact q
def Po:Option HO->Prop
 | some (.lst _)=>True
 | some (.dK _)=>True
 | some (.dT _)=>True
 | some (.set _ _)=>True
 | some (.ins _ _ _)=>True
 | some (.ext _)=>True
 | _=>False
section
variable {P:Ww} {w:WU} {H:Hp} {h h':Yy} {x e:ID} {o':HO}
def pY.write (ok:pY P w H h) (mu:Po (H x)) (he:e=x\/H e=some (.own x)) (k:∀ b u,b≠e->h.get? b=some u->h'.get? b=some u) (heo:∃ u,h'.get? e=some u)
  (new:bX P w (upd H x o') h' x o'):pY P w (upd H x o') h':=fun b u q=>by
 have J:∀ c y,H c=some (.own y)->c≠x:=fun c y r z=>by subst z;rw [r] at mu;exact mu
 have L:∀ c xs,H c=some (.tup xs)->c≠x:=fun c xs r z=>by subst z;rw [r] at mu;exact mu
 by_cases Y:b=x
 .subst Y;rw [aS] at q;cases q;exact new
 .rw [aP Y] at q;by_cases I:b=e
  .have q':H b=some (.own x):=by
    rcases he with z|z
    .exact absurd (I.trans z) Y
    .rw [I];exact z
   rw [q] at q';cases q';obtain ⟨v,hv⟩:=heo;exact ⟨v,by rw [I];exact hv⟩
  .refine (ok b u q).stay (fun c v hc r=>k c v ?_ r) (fun c r=>by rw [aP (J c b r)];exact r) fun c xs r=>by rw [aP (L c xs r)];exact r
   rcases hc with rfl|hc
   .exact I
   .rintro rfl;rcases he with z|z
    .exact J c b hc z
    .rw [hc] at z;cases z;exact Y rfl
end
structure Un (fs ex:acL) (H H':Hp) (h h':Yy):Prop where
 keep:∀ b o,h.get? b=some o->H b=none->b∉fs->b∉ex->h'.get? b=some o
 slot:∀ b o,h.get? b=some o->H b=none->b∈fs->b∉ex->∃ sl,h'.get? b=some { o with slots:=sl }
 free:∀ b o,h.get? b=some o->H b=none->b∉ex->H' b=none
 there:∀ b o,h.get? b=some o->b∉ex->∃ o',h'.get? b=some o'
 tups:∀ b xs,H b=some (.tup xs)->H' b=some (.tup xs)
 frzs:∀ b o u,H b=some (.frz o u)->H' b=some (.frz o u)
 tbls:∀ b ps,H b=some (.tbl ps)->∃ more,H' b=some (.tbl (ps++more))
section
variable {fs fs' ex ex':acL} {H H1 H2:Hp} {h h1 h2 h':Yy} {a x e:ID} {o:HO}
def Un.any (u:Un fs ex H H1 h h1) {b:ID} {I:Obj} (q:h.get? b=some I) (n:H b=none) (L:b∉ex):∃ Y,h1.get? b=some { I with slots:=Y }:=by
 by_cases J:b∈fs
 .exact u.slot b I q n J L
 .exact ⟨I.slots,u.keep b I q n J L⟩
def Un.kept (k:∀ b u,h.get? b=some u->h'.get? b=some u):Un fs ex H H h h' :=
 ⟨fun b I q _ _ _=>k b I q,fun b I q _ _ _=>⟨I.slots,k b I q⟩,fun _ _ _ n _=>n,fun b I q _=>⟨I,k b I q⟩,fun _ _ q=>q,fun _ _ _ q=>q,fun _ ps q=>⟨#[],by rw [q];simp⟩⟩
def Un.refl:Un fs ex H H h h:=Un.kept fun _ _ q=>q
def Un.laid (k:∀ b u,h.get? b=some u->h'.get? b=some u) (I:h.objs.size<=a) (hn:H a=none):Un fs ex H (upd H a o) h h' where
 keep:=fun b u q _ _ _=>k b u q
 slot:=fun b u q _ _ _=>⟨u.slots,k b u q⟩
 free:=fun b u q n _=>by rw [aP (WK (WE (Wt q) I))];exact n
 there:=fun b u q _=>⟨u,k b u q⟩
 tups:=fun b xs q=>by rw [aP (bH q hn)];exact q
 frzs:=fun b u xs q=>by rw [aP (bH q hn)];exact q
 tbls:=fun b ps q=>⟨#[],by rw [aP (bH q hn),q];simp⟩
def Un.write (J:Po (H x)) (he:e=x\/H e=some (.own x)) (k:∀ b u,b≠e->h.get? b=some u->h'.get? b=some u) (Y:∃ u,h'.get? e=some u):Un fs ex H (upd H x o) h h':=by
 have hx:∀ b,H b=none->b≠x:=fun b n z=>by subst z;rw [n] at J;exact J
 have hb:∀ b,H b=none->b≠e:=fun b n z=>by
  subst z;rcases he with r|r
  .exact hx b n r
  .rw [n] at r;cases r
 have L:∀ b u,H b=some u->¬ Po (some u)->b≠x:=fun b u q nm z=>by subst z;rw [q] at J;exact nm J
 refine ⟨fun b u q n _ _=>k b u (hb b n) q,fun b u q n _ _=>⟨u.slots,k b u (hb b n) q⟩,fun b u q n _=>by rw [aP (hx b n)];exact n,fun b u q _=>?_,
  fun b xs q=>by rw [aP (L b _ q fun z=>z)];exact q,fun b u xs q=>by rw [aP (L b _ q fun z=>z)];exact q,fun b ps q=>⟨#[],by rw [aP (L b _ q fun z=>z),q];simp⟩⟩
 by_cases I:b=e
 .subst I;exact Y
 .exact ⟨u,k b u I q⟩
end
def Tm (h:Yy) (H:Hp):acL:=(Yc h.objs.size).filter fun a=>(H a).isSome
def yB (h:Yy) (H:Hp):Yy:=PySem.W.hideAll h (Tm h H)
def D3 (h:Yy) (H:Hp):(yB h H).objs.size=h.objs.size:=PySem.W.hideAll_size _ _
def Hv {h:Yy} {H:Hp} {b:ID} {o:Obj} (e:h.get? b=some o) (n:H b=none):(yB h H).get? b=some o :=
 PySem.W.hideAll_get _ e fun I=>by
  have q:(H b).isSome=true:=(Xw.mp I).2;rw [n] at q;simp at q
def J5 {h:Yy} {H:Hp} {b:ID} {o:Obj} (e:(yB h H).get? b=some o):h.get? b=some o/\H b=none:=by
 have I:h.get? b=some o:=PySem.W.of_hideAll (Tm h H) e;refine ⟨I,?_⟩;cases q:H b with
 | none=>rfl
 | some x =>
  have J:b∈Tm h H:=Xw.mpr ⟨List.mem_range.mpr (Wt I),by simp [q]⟩;have z:(yB h H).get? b=none:=PySem.W.hideAll_none (Tm h H) J;rw [z] at e;cases e
structure Mod (K:aT) (mg:acK) (base:Yy):Prop where
 kin:K.In base
 glob:base.Ns WJ mg
 blt:∃ mb,base.Ns builtinsNs mb/\∀ x:Str,x≠"__name__"->mb x=WS x
 nolimit:base.NoLimit
structure Cx where
 prog:Ww
 w:WU
 K:aT
 mg:Str->Option dO
 base:Yy
 A:WN
 N:acH
 s₀:gs
 H₀:Hp
 env:Env
 outer:List Env
 stack:List Env
 ex:acL
 fn:Str->Bool
 calm:Bool
 tn:Nat:=0
 pn:acI
 xe:dO->gs->Prop
def EU (l:List Env):acL:=l.filterMap (·.frame)
abbrev Cx.fs (X:Cx):acL:=EU X.outer
def yH (I:Scope) (x:Str):Prop:=I.names.lookup x=some .local\/I.names.lookup x=some .cell\/I.names.lookup x=some .free
def C3 (I:Scope) (x:Str):Prop:=I.names.lookup x=some .local\/I.names.lookup x=some .cell
def UJ (env:Env) (h:Yy) (m:acK) (x:Str) (u:dO):Prop :=
 (env.kindOf x=some .local/\m x=some u)\/((env.kindOf x=some .cell\/env.kindOf x=some .free)/\∃ c,env.cells.lookup x=some c/\h.IsCell c (some u))
structure Cx.Ok (X:Cx):Prop where
 mod:Mod X.K X.mg X.base
 kind:X.env.scope.kind=.function
 glob:X.env.globals=WJ
 blt:X.env.builtins=builtinsNs
 above:X.s₀.heap.objs.size<=X.env.locals
 inj:∀ x y c,X.env.cells.lookup x=some c->X.env.cells.lookup y=some c->x=y
 has:∀ x,(X.env.kindOf x=some .cell\/X.env.kindOf x=some .free)->∃ c,X.env.cells.lookup x=some c
 cab:∀ x c,X.fn x=true->X.env.cells.lookup x=some c->X.s₀.heap.objs.size<=c
 hd:X.calm=true->X.A.handled=none
 frames:X.A.frames=some X.stack
 stk:X.stack=X.outer\/(X.stack=X.env::X.outer/\X.env.frame=some X.env.locals)
 exf:∀ b∈X.ex,b≠X.env.locals/\∀ x c,X.env.cells.lookup x=some c->c≠b
 bs:∀ b o,X.base.get? b=some o->X.s₀.heap.get? b=some o/\X.H₀ b=none
 bsz:X.base.objs.size<=X.s₀.heap.objs.size
 noex:∀ b o,X.base.get? b=some o->b∉X.ex
 exfs:∀ b∈X.ex,b∉X.fs
 funs:X.s₀.heap.FunFrames X.base X.outer
 frf:∀ b∈X.fs,X.H₀ b=none
structure Inv (X:Cx) (af:acI) (Z:List (Option V)) (H:Hp) (s:gs):Prop where
 ok:X.Ok
 os:s.os=X.s₀.os
 bare:AllBare s.gens
 base:Un X.fs X.ex X.H₀ H X.s₀.heap s.heap
 loc:∃ m,s.heap.Ns X.env.locals m/\∀ (i:Nat) (x:Str) (v:V),X.N[i]?=some x->Z[i]?=some (some v)->yH X.env.scope x->∃ u,bg v u/\UJ X.env s.heap m x u
 cell:∀ x c,X.env.cells.lookup x=some c->∃ v,s.heap.IsCell c v
 free:H X.env.locals=none
 freeC:∀ x c,X.env.cells.lookup x=some c->H c=none
 pin:∀ p∈X.pn++af,s.heap.get? p.1=some p.2/\H p.1=none/\p.1≠X.env.locals/\p.1∉X.fs/\∀ v,p.2.data≠.cell v
 hok:pY X.prog X.w H s.heap
 len:Z.length=X.N.length
 tk:X.tn<=s.toks
end L2
local macro_rules | `(tactic| walk_at "tok") => `(tactic| first | assumption | exact L2.Inv.tk (by assumption) | exact Nat.le_succ_of_le (L2.Inv.tk (by assumption)) | exact Nat.le_succ_of_le (Nat.le_succ_of_le (L2.Inv.tk (by assumption))) | (have hI := L2.Inv.tk (by assumption); omega) | exact Nat.zero_le _)
namespace L2
open PySem PySem.Spec PyProof.Rows
section
variable {X:Cx} {af:acI} {Z:List (Option V)} {H H':Hp} {s:gs} {h':Yy}
def Cx.Ok.nofr (ok:X.Ok) {b:ID} {o:Obj} (e:X.base.get? b=some o):b∉X.fs:=fun I=>by
 have:=(ok.funs.mem I).1
 rw [e] at this;cases this
def Inv.bs (I:Inv X af Z H s):∀ b o,X.base.get? b=some o->s.heap.get? b=some o/\H b=none:=fun b o e =>
 ⟨I.base.keep b o (I.ok.bs b o e).1 (I.ok.bs b o e).2 (I.ok.nofr e) (I.ok.noex b o e),I.base.free b o (I.ok.bs b o e).1 (I.ok.bs b o e).2 (I.ok.noex b o e)⟩
def Inv.bk (I:Inv X af Z H s):∀ b o,X.base.get? b=some o->s.heap.get? b=some o:=fun b o e=>(I.bs b o e).1
def Inv.mod (I:Inv X af Z H s):Mod X.K X.mg X.base:=I.ok.mod
def Inv.kIn (I:Inv X af Z H s):X.K.In s.heap:=I.ok.mod.kin.keeps I.bk
def Inv.lt (I:Inv X af Z H s):X.env.locals < s.heap.objs.size:=let ⟨_,hn,_⟩:=I.loc;hn.lt
def Inv.sz (I:Inv X af Z H s):X.s₀.heap.objs.size<=s.heap.objs.size:=IF I.ok.above (ab6 I.lt)
def Inv.nofs (I:Inv X af Z H s) {a:ID} (h:s.heap.objs.size<=a):a∉X.fs:=fun J=>by
 obtain ⟨_,o,L,_⟩:=I.ok.funs.mem J;exact absurd (WE (Wt L) (IF I.sz h)) (YC _)
def Inv.cne (I:Inv X af Z H s):∀ x c,X.env.cells.lookup x=some c->c≠X.env.locals:=fun x c e z=>by
 obtain ⟨v,o,Y,hd⟩:=I.cell x c e;obtain ⟨m,⟨o',es,ep,L,J,_⟩,_⟩:=I.loc;rw [z,L] at Y;cases Y;rw [J] at hd;cases hd
def Inv.funs (I:Inv X af Z H s):s.heap.FunFrames X.base X.outer:=by
 have all:∀ (l:List Env),(∀ b∈EU l,b∈X.fs)->X.s₀.heap.FunFrames X.base l->s.heap.FunFrames X.base l:=by
  intro l;induction l with
  | nil=>intro _ _;trivial
  | cons env r ih =>
   intro hs hl;obtain ⟨hk,⟨L,o,hf,hn,ho,hd⟩,hr⟩:=hl;have Y:L∈X.fs:=hs L (by unfold EU;rw [ZO,hf];exact OR);obtain ⟨sl,e⟩:=I.base.slot L o ho (I.ok.frf L Y) Y fun z=>I.ok.exfs L z Y;exact ⟨hk,⟨L,_,hf,hn,e,hd⟩,ih (fun b J=>hs b (by unfold EU;rw [ZO,hf];exact iN _ J)) hr⟩
 exact all X.outer (fun _ J=>J) I.ok.funs
def Inv.stack (I:Inv X af Z H s):s.heap.FunFrames X.base X.stack:=by
 rcases I.ok.stk with e|⟨e,hf⟩
 .rw [e];exact I.funs
 .rw [e];obtain ⟨m,hn,_⟩:=I.loc;refine .cons (by rw [I.ok.kind];decide) hf hn ?_ I.funs;exact abp (IF I.ok.bsz I.ok.above)
def Inv.stkSub (I:Inv X af Z H s):∀ b∈EU X.stack,b∈X.env.locals::X.fs:=fun b J=>by
 rcases I.ok.stk with e|⟨e,hf⟩
 .rw [e] at J;exact iN _ J
 .rw [e] at J;unfold EU at J;rw [ZO,hf] at J;exact J
def Inv.stkFree (I:Inv X af Z H s):∀ b∈EU X.stack,H b=none:=fun b J=>by
 rcases rW.mp (I.stkSub b J) with e|J
 .rw [e];exact I.free
 .obtain ⟨_,o,L,_⟩:=I.ok.funs.mem J;exact I.base.free b o L (I.ok.frf b J) fun z=>I.ok.exfs b z J
def Inv.step {g':Array GenState} {t':Nat} {d':Drawn} {ch:acL} (I:Inv X af Z H s)
  (L:∀ b∈ch,(b∈X.ex\/X.s₀.heap.objs.size<=b)/\b≠X.env.locals/\(∀ x c,X.env.cells.lookup x=some c->c≠b)/\∀ p∈X.pn++af,p.1≠b)
  (keep:∀ b o,b≠X.env.locals->b∉X.fs->b∉ch->s.heap.get? b=some o->H b=none->h'.get? b=some o)
  (slot:∀ b o,b≠X.env.locals->b∈X.fs->b∉ch->s.heap.get? b=some o->H b=none->∃ sl,h'.get? b=some { o with slots:=sl }) (free:∀ b o,b∉ch->s.heap.get? b=some o->H b=none->H' b=none)
  (there:∀ b o,b∉ch->s.heap.get? b=some o->∃ o',h'.get? b=some o')
  (tups:∀ b xs,H b=some (.tup xs)->H' b=some (.tup xs)) (frzs:∀ b o u,H b=some (.frz o u)->H' b=some (.frz o u)) (tbls:∀ b ps,H b=some (.tbl ps)->∃ more,H' b=some (.tbl (ps++more)))
  (ns:∀ m,s.heap.Ns X.env.locals m->h'.Ns X.env.locals m) (hok:pY X.prog X.w H' h') (hg:AllBare g') (ht:X.tn<=t':=by walk_at "tok") :
  Inv X af Z H' { s with heap:=h',gens:=g',drawn:=d',toks:=t' }:=by
 have neL:∀ b o,X.s₀.heap.get? b=some o->b≠X.env.locals:=fun b o e=>WK (WE (Wt e) I.ok.above);have neC:∀ b o,X.s₀.heap.get? b=some o->b∉X.ex->b∉ch:=fun b o e J hb=>by
  rcases (L b hb).1 with z|z
  .exact J z
  .exact absurd (WE (Wt e) z) (YC _)
 have Y:∀ x c,X.env.cells.lookup x=some c->∀ v,s.heap.IsCell c v->h'.IsCell c v:=fun x c e v ⟨o,ho,hd⟩=>by
  have nch:c∉ch:=fun z=>(L c z).2.2.1 x c e rfl;by_cases hc:c∈X.fs
  .obtain ⟨sl,q⟩:=slot c o (I.cne x c e) hc nch ho (I.freeC x c e);exact ⟨_,q,hd⟩
  .exact ⟨o,keep c o (I.cne x c e) hc nch ho (I.freeC x c e),hd⟩
 refine ⟨I.ok,I.os,hg,⟨fun b o e n hb J=>?_,fun b o e n hb J=>?_,fun b o e n J=>?_,fun b o e J=>?_,fun b xs e=>tups b xs (I.base.tups b xs e),fun b o xs e=>frzs b o xs (I.base.frzs b o xs e),fun b ps e=>?_⟩,?_,fun x c e=>?_,?_,fun x c e=>?_,fun p hp=>?_,hok,I.len,ht⟩
 .exact keep b o (neL b o e) hb (neC b o e J) (I.base.keep b o e n hb J) (I.base.free b o e n J)
 .obtain ⟨sl,e1⟩:=I.base.slot b o e n hb J;obtain ⟨sl',e2⟩:=slot b _ (neL b o e) hb (neC b o e J) e1 (I.base.free b o e n J);exact ⟨sl',e2⟩
 .obtain ⟨o',e1⟩:=I.base.there b o e J;exact free b o' (neC b o e J) e1 (I.base.free b o e n J)
 .obtain ⟨o',e1⟩:=I.base.there b o e J;exact there b o' (neC b o e J) e1
 .obtain ⟨m1,e1⟩:=I.base.tbls b ps e;obtain ⟨m2,e2⟩:=tbls b _ e1;exact ⟨m1++m2,by rw [e2,Array.append_assoc]⟩
 .obtain ⟨m,hn,hl⟩:=I.loc;refine ⟨m,ns m hn,fun i x v e1 e2 e3=>?_⟩;obtain ⟨u,r,l⟩:=hl i x v e1 e2 e3;refine ⟨u,r,?_⟩;rcases l with l|⟨k,c,e,z⟩
  .exact .inl l
  .exact .inr ⟨k,c,e,Y x c e _ z⟩
 .obtain ⟨v,z⟩:=I.cell x c e;exact ⟨v,Y x c e v z⟩
 .obtain ⟨m,⟨o,_,_,ho,_⟩,_⟩:=I.loc;exact free _ o (fun z=>(L _ z).2.1 rfl) ho I.free
 .obtain ⟨v,o,ho,hd⟩:=I.cell x c e;exact free c o (fun z=>(L c z).2.2.1 x c e rfl) ho (I.freeC x c e)
 .obtain ⟨e,n,ne,nf,d⟩:=I.pin p hp;have nch:p.1∉ch:=fun z=>(L p.1 z).2.2.2 p hp rfl;exact ⟨keep p.1 p.2 ne nf nch e n,free p.1 p.2 nch e n,ne,nf,d⟩
def Inv.un {t':Nat} (I:Inv X af Z H s) (u:Un X.fs [] H H' s.heap h') (L:pY X.prog X.w H' h') (ht:X.tn<=t':=by walk_at "tok"):Inv X af Z H' { s with heap:=h',toks:=t' }:=by
 obtain ⟨m,⟨o,es,ep,ho,r⟩,_⟩:=id I.loc;obtain ⟨sl,hL⟩:=u.any ho I.free (by simp);exact I.step (g':=s.gens) (d':=s.drawn) (ch:=[]) (fun _ z=>nomatch z) (fun b o _ Y _ e n=>u.keep b o e n Y (by simp)) (fun b o _ Y _ e n=>u.slot b o e n Y (by simp)) (fun b o _ e n=>u.free b o e n (by simp)) (fun b o _ e=>u.there b o e (by simp)) u.tups u.frzs u.tbls (fun m' hm=>by
  obtain ⟨o',es',ep',J,r'⟩:=hm;rw [ho] at J;cases J;exact ⟨_,es',ep',hL,r'⟩) L I.bare
def Inv.call {g':Array GenState} {t':Nat} {d':Drawn} {ch:acL} (I:Inv X af Z H s) (u:Un (EU X.stack) ch H H' s.heap h') (hok:pY X.prog X.w H' h') (hg:AllBare g')
  (L:∀ b∈ch,(b∈X.ex\/X.s₀.heap.objs.size<=b)/\b≠X.env.locals/\(∀ x c,X.env.cells.lookup x=some c->c≠b)/\∀ p∈X.pn++af,p.1≠b) (ht:X.tn<=t':=by walk_at "tok") :
  Inv X af Z H' { s with heap:=h',gens:=g',drawn:=d',toks:=t' }:=by
 obtain ⟨m,⟨o,es,ep,ho,r⟩,_⟩:=id I.loc;obtain ⟨sl,hL⟩:=u.any ho I.free fun z=>(L _ z).2.1 rfl;exact I.step (ch:=ch) L (fun b o hL hb J e n=>u.keep b o e n (fun z=>(rW.mp (I.stkSub b z)).elim hL hb) J) (fun b o _ _ J e n=>u.any e n J) (fun b o J e n=>u.free b o e n J) (fun b o J e=>u.there b o e J) u.tups u.frzs u.tbls (fun m' hm=>by
  obtain ⟨o',es',ep',Y,r'⟩:=hm;rw [ho] at Y;cases Y;exact ⟨_,es',ep',hL,r'⟩) hok hg
def Inv.turned {t':Nat} {it:ID} (I:Inv X af Z H s) (k:∀ b o,b≠it->s.heap.get? b=some o->h'.get? b=some o) (hn:H it=none) (Y:it≠X.env.locals)
  (h1:it∈X.ex\/X.s₀.heap.objs.size<=it) (h2:∀ x c,X.env.cells.lookup x=some c->c≠it) (h3:∀ p∈X.pn++af,p.1≠it) (ht:X.tn<=t':=by walk_at "tok"):Inv X af Z H { s with heap:=h',toks:=t' }:=by
 have L:∀ b u,H b=some u->b≠it:=fun b u e z=>by rw [z,hn] at e;cases e
 refine I.step (g':=s.gens) (d':=s.drawn) (ch:=[it]) (fun b hb=>?_) (fun b o _ _ J e _=>k b o (fun z=>J (by simp [z])) e) (fun b o _ _ J e _=>⟨o.slots,k b o (fun z=>J (by simp [z])) e⟩) (fun _ _ _ _ n=>n)
  (fun b o J e=>⟨o,k b o (fun z=>J (by simp [z])) e⟩) (fun _ _ e=>e) (fun _ _ _ e=>e) (fun b ps e=>⟨#[],by rw [e];simp⟩) (fun m hm=>?_) (fun b u e=>?_) I.bare
 .have e:b=it:=by simpa using hb
  subst e;exact ⟨h1,Y,h2,h3⟩
 .obtain ⟨o,es,ep,ho,r⟩:=hm;exact ⟨o,es,ep,k _ o (aac Y) ho,r⟩
 .refine (I.hok b u e).stay (fun c v J q=>k c v ?_ q) (fun _ q=>q) fun _ _ q=>q;rcases J with z|z
  .rw [z];exact L b u e
  .exact L c _ z
def Inv.tok (I:Inv X af Z H s) (t:Nat) (J:X.tn<=t:=by walk_at "tok"):Inv X af Z H { s with toks:=t }:=I.un (h':=s.heap) (t':=t) Un.refl I.hok
def Inv.kept {t':Nat} (I:Inv X af Z H s) (k:∀ b u,s.heap.get? b=some u->h'.get? b=some u) (J:X.tn<=t':=by walk_at "tok"):Inv X af Z H { s with heap:=h',toks:=t' }:=I.un (Un.kept k) (I.hok.kept k)
def Inv.laid {a:ID} {o:HO} {t':Nat} (I:Inv X af Z H s) (k:∀ b u,s.heap.get? b=some u->h'.get? b=some u) (J:s.heap.objs.size<=a) (new:bX X.prog X.w (upd H a o) h' a o) (L:X.tn<=t':=by walk_at "tok") :
  Inv X af Z (upd H a o) { s with heap:=h',toks:=t' }:=I.un (Un.laid k J (I.hok.fresh J)) (I.hok.laid k J new)
def Inv.write {x e:ID} {o:HO} {t':Nat} (I:Inv X af Z H s) (Y:Po (H x)) (L:e=x\/H e=some (.own x)) (k:∀ b u,b≠e->s.heap.get? b=some u->h'.get? b=some u) (J:∃ u,h'.get? e=some u)
  (new:bX X.prog X.w (upd H x o) h' x o) (ht:X.tn<=t':=by walk_at "tok"):Inv X af Z (upd H x o) { s with heap:=h',toks:=t' }:=I.un (Un.write Y L k J) (I.hok.write Y L k J new)
def Inv.pins_of {J:acI} (I:Inv X af Z H s) (h:∀ p∈J,s.heap.get? p.1=some p.2/\H p.1=none/\p.1≠X.env.locals/\p.1∉X.fs/\∀ v,p.2.data≠.cell v):Inv X J Z H s :=
 ⟨I.ok,I.os,I.bare,I.base,I.loc,I.cell,I.free,I.freeC,fun p L=>(MK.mp L).elim (fun z=>I.pin p (WX _ z)) (h p),I.hok,I.len,I.tk⟩
def z7 {N:acH} (L:N.Nodup) {i j:Nat} {x:Str} (a:N[i]?=some x) (b:N[j]?=some x):i=j:=by
 obtain ⟨h1,I⟩:=WD.mp a;obtain ⟨h2,J⟩:=WD.mp b;exact (List.getElem_inj L).mp (I.trans J.symm)
def Dy {M:Model} {A:WN} {E:acJ} {i:Nat} {x:Str} {v:V} {u:dO} {Q:Unit->gs->Prop} (I:Inv X af Z H s) (hN:X.N.Nodup) (hi:X.N[i]?=some x) (hx:C3 X.env.scope x) (r:bg v u)
  (h:∀ s',Inv X af (Z.set i (some v)) H s'->(∃ a,ZA a s.heap s'.heap/\(a=X.env.locals\/X.env.cells.lookup x=some a))->Q () s') (hf:X.fn x=true\/X.env.scope.names.lookup x=some .local:=by walk_at"u"):Wv M A (storeName X.env x u) Q E s:=by
 obtain ⟨m,hn,hl⟩:=id I.loc;have hcls:(X.env.scope.kind==.class||(X.env.scope.kind==.module&&X.env.locals != X.env.globals))=false:=by rw [I.ok.kind];rfl
 have hiσ:i < Z.length:=by rw [I.len];exact (WD.mp hi).1
 have cne:=I.cne;have Y:∀ {a:ID} {h':Yy},(∃ o,s.heap.get? a=some o/\H a=none)->ZA a s.heap h'->pY X.prog X.w H h':=fun {a h'} ha J b ob e=>by
  obtain ⟨_,_,hfree⟩:=ha;refine (I.hok b ob e).stay (fun c w' hc q=>(J.2 c ?_).trans q) (fun _ q=>q) fun _ _ q=>q;rintro rfl;rcases hc with rfl|hc
  .rw [hfree] at e;cases e
  .rw [hfree] at hc;cases hc
 rcases hx with hk|hk
 .refine wpAny_storeName_local hk hn (fun h' hn' J=>?_) hcls;obtain ⟨oL,_,_,hoL,_⟩:=id hn;refine h _ ⟨I.ok,I.os,I.bare,⟨fun b o e n hb hx=>?_,fun b o e n hb hx=>?_,I.base.free,fun b o e hx=>?_,I.base.tups,I.base.frzs,I.base.tbls⟩,⟨_,hn',fun j y v' L e2 e3=>?_⟩,fun y c e=>?_,I.free,I.freeC,fun p hp=>?_,Y ⟨oL,hoL,I.free⟩ J,by simpa using I.len,by walk_at "tok"⟩ ⟨_,J,.inl rfl⟩
  .exact (J.2 b (WK (WE (Wt e) I.ok.above))).trans (I.base.keep b o e n hb hx)
  .obtain ⟨sl,L⟩:=I.base.slot b o e n hb hx;exact ⟨sl,(J.2 b (WK (WE (Wt e) I.ok.above))).trans L⟩
  .obtain ⟨o',L⟩:=I.base.there b o e hx;exact ⟨o',(J.2 b (WK (WE (Wt e) I.ok.above))).trans L⟩
  .by_cases hj:j=i
   .subst hj;rw [hi] at L;cases L;rw [aaZ hiσ] at e2;cases e2;exact ⟨u,r,.inl ⟨hk,by simp⟩⟩
   .rw [abq (aac hj)] at e2;obtain ⟨u',r',q⟩:=hl j y v' L e2 e3;refine ⟨u',r',?_⟩;rcases q with ⟨k,e⟩|⟨k,c,e,z⟩
    .refine .inl ⟨k,?_⟩
     have:y≠x:=fun e=>hj (z7 hN L (e ▸ hi))
     simp [this,e]
    .exact .inr ⟨k,c,e,z.sameBut J (cne y c e)⟩
  .obtain ⟨w',z⟩:=I.cell y c e;exact ⟨w',z.sameBut J (cne y c e)⟩
  .obtain ⟨e,n,ne,nf,d⟩:=I.pin p hp;exact ⟨(J.2 p.1 ne).trans e,n,ne,nf,d⟩
 .have hfn:X.fn x=true:=by
   rcases hf with z|z
   .exact z
   .rw [z] at hk;cases hk
  obtain ⟨c,hc⟩:=I.ok.has x (.inl hk);obtain ⟨w',z⟩:=I.cell x c hc;refine wpAny_storeName_cell I.ok.kind hk hc z (fun h' hc' J=>?_);obtain ⟨oc,hoc,hocd⟩:=id z;refine h { s with heap:=h' } ⟨I.ok,I.os,I.bare,⟨fun b o e n hb hx=>?_,fun b o e n hb hx=>?_,I.base.free,fun b o e hx=>?_,I.base.tups,I.base.frzs,I.base.tbls⟩,⟨m,hn.sameBut J (aac (cne x c hc)),fun j y v' L e2 e3=>?_⟩,fun y c' e=>?_,I.free,I.freeC,fun p hp=>?_,Y ⟨oc,hoc,I.freeC x c hc⟩ J,by simpa using I.len,I.tk⟩ ⟨c,J,.inr hc⟩
  .exact (J.2 b (WK (WE (Wt e) (I.ok.cab x c hfn hc)))).trans (I.base.keep b o e n hb hx)
  .obtain ⟨sl,L⟩:=I.base.slot b o e n hb hx;exact ⟨sl,(J.2 b (WK (WE (Wt e) (I.ok.cab x c hfn hc)))).trans L⟩
  .obtain ⟨o',L⟩:=I.base.there b o e hx;exact ⟨o',(J.2 b (WK (WE (Wt e) (I.ok.cab x c hfn hc)))).trans L⟩
  .by_cases hj:j=i
   .subst hj;rw [hi] at L;cases L;rw [aaZ hiσ] at e2;cases e2;exact ⟨u,r,.inr ⟨.inl hk,c,hc,hc'⟩⟩
   .rw [abq (aac hj)] at e2;obtain ⟨u',r',q⟩:=hl j y v' L e2 e3;refine ⟨u',r',?_⟩;rcases q with q|⟨k,c',e,z'⟩
    .exact .inl q
    .refine .inr ⟨k,c',e,z'.sameBut J ?_⟩;rintro rfl;exact hj (z7 hN L (I.ok.inj _ _ _ e hc ▸ hi))
  .by_cases hcc:c'=c
   .subst hcc;exact ⟨_,hc'⟩
   .obtain ⟨w2,z2⟩:=I.cell y c' e;exact ⟨w2,z2.sameBut J hcc⟩
  .obtain ⟨e,n,ne,nf,d⟩:=I.pin p hp;refine ⟨(J.2 p.1 ?_).trans e,n,ne,nf,d⟩;intro q;rw [q,hoc] at e;have q':oc=p.2:=WG e;exact d w' (by rw [<- q'];exact hocd)
def vi {M:Model} {A:WN} {E:acJ} {i:Nat} {x:Str} {v:V} {u:dO} {Q:Unit->gs->Prop} (I:Inv X af Z H s) (L:X.N.Nodup) (hi:X.N[i]?=some x) (Y:C3 X.env.scope x) (r:bg v u)
  (h:∀ s',Inv X af (Z.set i (some v)) H s'->Q () s') (hf:X.fn x=true\/X.env.scope.names.lookup x=some .local:=by walk_at"u"):Wv M A (storeName X.env x u) Q E s :=
 Dy I L hi Y r (fun s' J _=>h s' J) hf
def Inv.call' {s':gs} {ch:acL} (I:Inv X af Z H s) (Y:s'.os=s.os) (u:Un (EU X.stack) ch H H' s.heap s'.heap) (J:pY X.prog X.w H' s'.heap) (hg:AllBare s'.gens)
  (L:∀ b∈ch,(b∈X.ex\/X.s₀.heap.objs.size<=b)/\b≠X.env.locals/\(∀ x c,X.env.cells.lookup x=some c->c≠b)/\∀ p∈X.pn++af,p.1≠b) (ht:X.tn<=s'.toks:=by walk_at "tok"):Inv X af Z H' s':=by
 obtain ⟨h',g',d',t',o'⟩:=s';have e:o'=s.os:=Y;subst e;exact I.call (g':=g') (t':=t') (d':=d') u J hg L
end
abbrev XK:=dO->Option ID->Hp->Prop
abbrev St:=List (Option V)
abbrev VK:=V->Hp->Prop
abbrev TE:=St->Hp->VK->Prop
abbrev TT:=St->Hp->(Bool->Hp->Prop)->Prop
abbrev TA:=St->Hp->(acN->Hp->Prop)->Prop
structure Ends where
 nx:St->Hp->Prop
 rt:VK
 bk:St->Hp->Prop:=fun _ _=>False
 ct:St->Hp->Prop:=fun _ _=>False
abbrev TS:=Ends->St->Hp->Prop
def EP (X:Cx) (af:acI) (Z:St) (Q:VK) (u:dO) (s':gs):Prop:=∃ v H',Inv X af Z H' s'/\bg v u/\Q v H'
def TP (X:Cx) (af:acI) (Z:St) (Q:Bool->Hp->Prop) (b:Bool) (s':gs):Prop:=∃ H',Inv X af Z H' s'/\Q b H'
def AP (X:Cx) (af:acI) (Z:St) (Q:acN->Hp->Prop) (us:acM) (s':gs):Prop:=∃ vs H',Inv X af Z H' s'/\bf vs us/\Q vs H'
def SP (X:Cx) (af:acI) (D:Ends) (f:Flow) (s':gs):Prop :=
 match f with
 | .next=>∃ I H',Inv X af I H' s'/\D.nx I H'
 | .brk=>∃ I H',Inv X af I H' s'/\D.bk I H'
 | .cont=>∃ I H',Inv X af I H' s'/\D.ct I H'
 | .ret u=>∃ v I H',Inv X af I H' s'/\bg v u/\D.rt v H'
def PE (X:Cx) (e:W3) (t:TE):Prop :=
 ∀ (af:acI) (s:gs) (Z:St) (H:Hp) (Q:VK),Inv X af Z H s->t Z H Q->Wv (Wx X.prog X.w) X.A (eval e X.env) (EP X af Z Q) X.xe s
def PT (X:Cx) (e:W3) (t:TT):Prop :=
 ∀ (af:acI) (s:gs) (Z:St) (H:Hp) (Q:Bool->Hp->Prop),Inv X af Z H s->t Z H Q->Wv (Wx X.prog X.w) X.A (isTrue e X.env (eval e X.env)) (TP X af Z Q) X.xe s
def PW (X:Cx) (e:W3) (t:TT):Prop :=
 ∀ (I:Sem dO) (af:acI) (s:gs) (Z:St) (H:Hp) (Q:Bool->Hp->Prop),Inv X af Z H s->t Z H Q->Wv (Wx X.prog X.w) X.A (isTrue e X.env I) (TP X af Z Q) X.xe s
def PW.pt {X:Cx} {e:W3} {t:TT} (h:PW X e t):PT X e t:=h _
def PA (X:Cx) (es:List W3) (t:TA):Prop :=
 ∀ (pos:Pos) (af:acI) (s:gs) (Z:St) (H:Hp) (Q:acN->Hp->Prop),Inv X af Z H s->t Z H Q->Wv (Wx X.prog X.w) X.A (spliced (Y9 pos (WT es X.env))) (AP X af Z Q) X.xe s
def PS (X:Cx) (st:X5) (t:TS):Prop :=
 ∀ (af:acI) (s:gs) (Z:St) (H:Hp) (D:Ends),Inv X af Z H s->t D Z H->Wv (Wx X.prog X.w) X.A (exec st X.env) (SP X af D) X.xe s
def CO (X:Cx) (st:List X5) (t:TS):Prop :=
 ∀ (af:acI) (s:gs) (Z:St) (H:Hp) (D:Ends),Inv X af Z H s->t D Z H->Wv (Wx X.prog X.w) X.A (execs st X.env) (SP X af D) X.xe s
def cU {α:Type} {t:Sem α} {Q I:α->gs->Prop} {M:Model} {A:WN} {E:acJ} {s:gs} (h:Wv M A t Q E s) (hQ:∀ a s,Q a s->I a s):Wv M A t I E s:=W7 h hQ fun _ _ x=>x
section
variable {X:Cx}
def Qe (i:Nat):TE:=fun Z H Q=>∃ v,Z[i]?=some (some v)/\Q v H
def tC (v:V):TE:=fun _ H Q=>Q v H
def E6 {i:Nat} {x:Str} {pos:Pos} (hN:X.N[i]?=some x) (hv:yH X.env.scope x) (hd:acP x:=by decide) (Y:(x==("__classdict__":Str))=false:=by decide):PE X (.Name x pos) (Qe i):=by
 intro af s Z H Q I h;obtain ⟨v,e,h⟩:=h;obtain ⟨m,hn,hl⟩:=I.loc;obtain ⟨u,r,l⟩:=hl i x v hN e hv;have fin:EP X af Z Q u s:=⟨v,H,I,r,h⟩;rcases l with ⟨L,hm⟩|⟨L,c,hc,J⟩
 .exact wpAny_Name (wpAny_loadName_local I.ok.kind L hn hm fin) hd
 .rcases L with L|L
  .exact wpAny_Name (wpAny_loadName_cell I.ok.kind L hc J fin) hd
  .exact wpAny_Name (wpAny_loadName_free I.ok.kind L hc J fin Y) hd
def M3 {i j pos}:PE X (.Constant (.int i) j pos) (tC (.int i)):=fun _ _ _ H _ I h=>wpAny_Constant_int ⟨.int i,H,I.tok _,⟨_,rfl⟩,h⟩
def Oi {b j pos}:PE X (.Constant (.bool b) j pos) (tC (.bl b)):=fun _ _ _ H _ I h=>Constant_bool ⟨.bl b,H,I,rfl,h⟩
def LS {j pos}:PE X (.Constant .none j pos) (tC .non):=fun _ _ _ H _ I h=>Constant_none ⟨.non,H,I,rfl,h⟩
def NZ {x j pos}:PE X (.Constant (.str x) j pos) (tC (.str x)):=fun _ _ _ H _ I h=>Calls.Constant_str ⟨.str x,H,I.tok _,⟨_,rfl⟩,h⟩
def Gl (X:Cx) (x:Str):Prop:=X.env.kindOf x=some .globalImplicit
def qS {E:acJ} {af:acI} {s:gs} {Z:St} {H:Hp} {x:Str} {u:dO} {pos:Pos} {Q:acJ} (I:Inv X af Z H s) (hg:Gl X x) (J:X.mg x=some u) (h:Q u s)
  (hd:acP x:=by decide):Wv (Wx X.prog X.w) X.A (eval (.Name x pos) X.env) Q E s :=
 Z2 I.ok.kind hg (Calls.loadGlobal_global (by rw [I.ok.glob];exact I.mod.glob.keeps I.bk) J h) hd
def nA {E:acJ} {af:acI} {s:gs} {Z:St} {H:Hp} {x:Str} {u:dO} {pos:Pos} {Q:acJ} (I:Inv X af Z H s) (hg:Gl X x) (L:X.mg x=none) (J:WS x=some u) (h:Q u s)
  (hn:x≠"__name__":=by decide) (hd:acP x:=by decide):Wv (Wx X.prog X.w) X.A (eval (.Name x pos) X.env) Q E s:=by
 obtain ⟨Y,h1,h2⟩:=I.mod.blt;exact Z2 I.ok.kind hg (Calls.loadGlobal_builtin (by rw [I.ok.glob];exact I.mod.glob.keeps I.bk) L (by rw [I.ok.blt];exact h1.keeps I.bk) ((h2 x hn).trans J) h) hd
def Cm {x:Str} {v:V} {u:dO} {pos:Pos} (hg:Gl X x) (J:X.mg x=some u) (r:bg v u) (hd:acP x:=by decide):PE X (.Name x pos) (tC v) :=
 fun _ _ _ H _ I h=>qS I hg J ⟨v,H,I,r,h⟩ hd
def J4 {x:Str} {v:V} {u:dO} {pos:Pos} (hg:Gl X x) (J:X.mg x=none) (L:WS x=some u) (r:bg v u) (hn:x≠"__name__":=by decide) (hd:acP x:=by decide):PE X (.Name x pos) (tC v) :=
 fun _ _ _ H _ I h=>nA I hg J L ⟨v,H,I,r,h⟩ hn hd
variable {a b:W3} {ta tb:TE} {pos:Pos}
variable {tA tB':TT} {rest:List W3}
def PV (t u:TT):TT:=fun Z H Q=>t Z H fun c H1=>if c=true then u Z H1 Q else Q false H1
def Wk (t u:TT):TT:=fun Z H Q=>t Z H fun c H1=>if c=true then Q true H1 else u Z H1 Q
def QV (t:TT):TT:=fun Z H Q=>t Z H fun c H1=>Q (!c) H1
def Kr (J:PT X a tA):PW X (.BoolOp .And [a] pos) tA:=by
 intro L af s Z H Q I h;refine isTrue_and (cU (J af s Z H Q I h) fun c Y e=>?_);cases c with
 | true=>exact isTrue_and_nil e
 | false=>exact e
def MU (J:PT X a tA):PW X (.BoolOp .Or [a] pos) tA:=by
 intro L af s Z H Q I h;refine isTrue_or (cU (J af s Z H Q I h) fun c Y e=>?_);cases c with
 | false=>exact isTrue_or_nil e
 | true=>exact e
def LR (J:PT X a tA) (L:PW X (.BoolOp .And (b::rest) pos) tB'):PW X (.BoolOp .And (a::b::rest) pos) (PV tA tB'):=by
 intro Y af s Z H Q I h;refine isTrue_and (cU (J af s Z H _ I h) fun c s1 ⟨H1,I1,q1⟩=>?_);cases c with
 | true=>exact L Y af s1 Z H1 Q I1 q1
 | false=>exact ⟨H1,I1,q1⟩
def QY (J:PT X a tA) (L:PW X (.BoolOp .Or (b::rest) pos) tB'):PW X (.BoolOp .Or (a::b::rest) pos) (Wk tA tB'):=by
 intro Y af s Z H Q I h;refine isTrue_or (cU (J af s Z H _ I h) fun c s1 ⟨H1,I1,q1⟩=>?_);cases c with
 | true=>exact ⟨H1,I1,q1⟩
 | false=>exact L Y af s1 Z H1 Q I1 q1
def Mh (J:PT X a tA):PT X (.UnaryOp .Not a pos) (QV tA):=by
 intro af s Z H Q I h;exact isTrue_not (J af s Z H (fun c H1=>Q (!c) H1) I h)
def Mm {op} {t:TE} (h:PE X a t):PE X (.BoolOp op [a] pos) t:=fun af s Z H Q I hw=>BoolOp_one (h af s Z H Q I hw)
def Vg (t:TT) (ta tb:TE):TE:=fun Z H Q=>t Z H fun c H1=>if c=true then ta Z H1 Q else tb Z H1 Q
def Fx {c:W3} (Y:PT X c tA) (J:PE X a ta) (L:PE X b tb):PE X (.IfExp c a b pos) (Vg tA ta tb):=by
 intro af s Z H Q I h;refine wpAny_IfExp (cU (Y af s Z H _ I h) fun d s1 ⟨H1,I1,q1⟩=>?_);cases d with
 | true=>exact J af s1 Z H1 Q I1 q1
 | false=>exact L af s1 Z H1 Q I1 q1
end
def gp (K:aT) (H:Hp) (a:ID) (xs:acN):Prop :=
 Rd H a (.lst xs) \/
  ∃ (o:Obj) (its:Array dO) (n:Nat),K.lookup a=some o/\o.cls=.type "list"/\o.dict=none/\o.data=.seq its n/\its.size<=Wp/\bf xs its.toList
def j3 (K:aT) (H:Hp) (a:ID) (xs:acN):Prop :=
 Rd H a (.tup xs) \/
  ∃ (o:Obj) (its:Array dO) (n:Nat),K.lookup a=some o/\o.cls=.type "tuple"/\o.data=.seq its n/\its.size<=Wp/\bf xs its.toList
def Uq:dO->Option V
 | .none=>some .non
 | .bool b=>some (.bl b)
 | .int i _=>some (.int i)
 | .str x _=>some (.str x)
 | .bytes b _=>some (.byt b)
 | .float b _=>some (.flt b)
 | .ref a=>some (.ref a)
 | .type n=>some (.ty n)
 | _=>none
def bg.abs {x:V} {u:dO} (r:bg x u):Uq u=some x:=by
 cases x with
 | non=>cases r;rfl
 | bl _=>cases r;rfl
 | int _=>obtain ⟨t,rfl⟩:=r;rfl
 | str _=>obtain ⟨t,rfl⟩:=r;rfl
 | byt _=>obtain ⟨t,rfl⟩:=r;rfl
 | flt _=>obtain ⟨t,rfl⟩:=r;rfl
 | ref _=>cases r;rfl
 | ty _=>cases r;rfl
def bg.inj {x y:V} {u:dO} (r:bg x u) (q:bg y u):x=y:=WG (r.abs.symm.trans q.abs)
def bf.inj:∀ {xs ys:acN} {us:acM},bf xs us->bf ys us->xs=ys
 | _,_,_,.nil,.nil=>rfl
 | _,_,_,.cons r t,.cons r' t'=>by rw [r.inj r',bf.inj t t']
section
variable {X:Cx} {af:acI} {Z:St} {H:Hp} {s:gs} {a:ID} {xs ys:acN}
def gp.of {K:aT} (h:H a=some (.lst xs)):gp K H a xs:=.inl (.inl h)
def Inv.list (I:Inv X af Z H s) (h:gp X.K H a xs):∃ its:acM,bf xs its/\PlainL s.heap a its.toArray/\xs.length<=Wp:=by
 rcases h with h|⟨o,its,n,hk,hc,hd,hs,hz,r⟩
 .obtain ⟨z,its,n,r,e⟩:=h.ok I.hok;exact ⟨its,r,⟨_,n,e,rfl,rfl,rfl⟩,z⟩
 .refine ⟨its.toList,r,⟨o,n,I.kIn a o hk,hc,hd,by simpa using hs⟩,?_⟩;have e:=r.length;simp only [Le] at e;omega
def Inv.tuple (I:Inv X af Z H s) (h:j3 X.K H a xs):∃ its:acM,bf xs its/\Zs s.heap a its.toArray/\xs.length<=Wp:=by
 rcases h with h|⟨o,its,n,hk,hc,hs,hz,r⟩
 .obtain ⟨z,its,r,p⟩:=h.ok I.hok;exact ⟨its,r,p,z⟩
 .refine ⟨its.toList,r,⟨o,I.kIn a o hk,hc,n,by simpa using hs⟩,?_⟩;have e:=r.length;simp only [Le] at e;omega
def Inv.list_inj (I:Inv X af Z H s) (h:gp X.K H a xs) (h':gp X.K H a ys):xs=ys:=by
 obtain ⟨its,r,⟨o,n,e,_,_,d⟩,_⟩:=I.list h;obtain ⟨its',L,⟨o',Y,J,_,_,d'⟩,_⟩:=I.list h';rw [e] at J;cases J;rw [d] at d';injection d' with d1 _
 have:its=its':=by simpa using acF Array.toList d1
 subst this;exact r.inj L
def Inv.tuple_inj (I:Inv X af Z H s) (h:j3 X.K H a xs) (h':j3 X.K H a ys):xs=ys:=by
 obtain ⟨its,r,⟨o,e,_,n,d⟩,_⟩:=I.tuple h;obtain ⟨its',L,⟨o',J,_,Y,d'⟩,_⟩:=I.tuple h';rw [e] at J;cases J;rw [d] at d';injection d' with d1 _
 have:its=its':=by simpa using acF Array.toList d1
 subst this;exact r.inj L
end
abbrev Cx.wish (X:Cx) (E:acJ):Cx:={ X with xe:=E }
abbrev Cx.nox (X:Cx):Cx:=X.wish fun _ _=>False
def Cx.Ok.wish {X:Cx} (ok:X.Ok) (E:acJ):(X.wish E).Ok :=
 ⟨ok.mod,ok.kind,ok.glob,ok.blt,ok.above,ok.inj,ok.has,ok.cab,ok.hd,ok.frames,ok.stk,ok.exf,ok.bs,ok.bsz,ok.noex,ok.exfs,ok.funs,ok.frf⟩
def Cx.Ok.unwish {X:Cx} {E:acJ} (ok:(X.wish E).Ok):X.Ok :=
 ⟨ok.mod,ok.kind,ok.glob,ok.blt,ok.above,ok.inj,ok.has,ok.cab,ok.hd,ok.frames,ok.stk,ok.exf,ok.bs,ok.bsz,ok.noex,ok.exfs,ok.funs,ok.frf⟩
section
variable {X:Cx} {af:acI} {Z:St} {H:Hp} {s:gs} {E:acJ}
def Inv.wish (I:Inv X af Z H s) (E:acJ):Inv (X.wish E) af Z H s:=⟨I.ok.wish E,I.os,I.bare,I.base,I.loc,I.cell,I.free,I.freeC,I.pin,I.hok,I.len,I.tk⟩
def Inv.unwish (I:Inv (X.wish E) af Z H s):Inv X af Z H s:=⟨I.ok.unwish,I.os,I.bare,I.base,I.loc,I.cell,I.free,I.freeC,I.pin,I.hok,I.len,I.tk⟩
def SP.unwish {D:Ends} {f:Flow} {s':gs} (h:SP (X.wish E) af D f s'):SP X af D f s':=by
 cases f with
 | next=>obtain ⟨J,H',I,q⟩:=h;exact ⟨J,H',I.unwish,q⟩
 | brk=>obtain ⟨J,H',I,q⟩:=h;exact ⟨J,H',I.unwish,q⟩
 | cont=>obtain ⟨J,H',I,q⟩:=h;exact ⟨J,H',I.unwish,q⟩
 | ret u=>obtain ⟨v,J,H',I,r,q⟩:=h;exact ⟨v,J,H',I.unwish,r,q⟩
def CO.nox {st:List X5} {t:TS} (h:CO X.nox st t):CO X st t:=fun af s Z H D I hw =>
 W7 (h af s Z H D (I.wish _) hw) (fun _ _ q=>q.unwish) fun _ _ z=>XO z
end
section
variable {X:Cx} {st:X5} {rest:List X5} {t u:TS} {e:W3} {te:TE} {pos:Pos}
def Lg:TS:=fun D Z H=>D.nx Z H
def QD (t u:TS):TS:=fun D Z H=>t { D with nx:=u D } Z H
def Jq:CO X [] Lg:=fun _ _ Z H _ I h=>ZX ⟨Z,H,I,h⟩
def uo (h1:PS X st t) (h2:CO X rest u):CO X (st::rest) (QD t u):=by
 intro af s Z H D I h;refine wpAny_execs_cons (cU (h1 af s Z H { D with nx:=u D } I h) fun f Y q=>?_);cases f with
 | next =>
  obtain ⟨J,H',L,q⟩:=q;exact h2 af Y J H' D L q
 | ret v=>exact q
 | brk=>exact q
 | cont=>exact q
def CV (h1:PS X st t):CO X [st] t:=by
 intro af s Z H D I h;refine wpAny_execs_cons (cU (h1 af s Z H D I h) fun f J q=>?_);cases f with
 | next=>exact ZX q
 | ret v=>exact q
 | brk=>exact q
 | cont=>exact q
def Inv.quiet {af:acI} {Z:St} {H:Hp} {s:gs} (I:Inv X af Z H s):interactive X.env=false:=by simp [interactive,I.ok.kind]
def CH (te:TE):TS:=fun D Z H=>te Z H fun _ H1=>D.nx Z H1
def I0 (L:PE X e te) (hs:YL e none pos.line X.env=pure false:=by rfl):PS X (.Expr e pos) (CH te):=by
 intro af s Z H D I h;exact wpAny_Expr_any (cU (L af s Z H _ I h) fun v s1 J=>nY J fun x H1 I1 r1 Y=>⟨Z,H1,I1,Y⟩) I.quiet hs
def PB (te:TE):TS:=fun D Z H=>te Z H D.rt
def NG (L:PE X e te):PS X (.Return (some e) pos) (PB te):=by
 intro af s Z H D I h;exact wpAny_Return_some (cU (L af s Z H _ I h) fun v s1 J=>nY J fun x H1 I1 r1 Y=>⟨x,Z,H1,I1,r1,Y⟩)
def QQ (c:TT) (t u:TS):TS:=fun D Z H=>c Z H fun b H1=>if b=true then t D Z H1 else u D Z H1
def OT {c:W3} {a b:List X5} {tc:TT} (Y:PT X c tc) (J:CO X a t) (L:CO X b u):PS X (.If c a b pos) (QQ tc t u):=by
 intro af s Z H D I h;refine wpAny_If (cU (Y af s Z H _ I h) fun d s1 ⟨H1,I1,q1⟩=>?_);cases d with
 | true=>exact J af s1 Z H1 D I1 q1
 | false=>exact L af s1 Z H1 D I1 q1
end
abbrev TG:=V->St->Hp->(St->Hp->Prop)->Prop
abbrev ES:=acN->St->Hp->(St->Hp->Prop)->Prop
def PG (X:Cx) (I:W3) (t:TG):Prop :=
 ∀ (af:acI) (s:gs) (Z:St) (H:Hp) (v:V) (u:dO) (Q:St->Hp->Prop),Inv X af Z H s->bg v u->t v Z H Q ->
  Wv (Wx X.prog X.w) X.A (assign I X.env u) (fun _ s'=>∃ J H',Inv X af J H' s'/\Q J H') X.xe s
def OZ (X:Cx) (J:List W3) (t:ES):Prop :=
 ∀ (af:acI) (s:gs) (Z:St) (H:Hp) (vs:acN) (us:acM) (Q:St->Hp->Prop),Inv X af Z H s->bf vs us->t vs Z H Q ->
  Wv (Wx X.prog X.w) X.A (assignInOrder ((XR J X.env).map (·.2)) us) (fun _ s'=>∃ I H',Inv X af I H' s'/\Q I H') X.xe s
abbrev JX:=V->V->V->Hp->(Hp->Prop)->Prop
def NJ (X:Cx) (t:JX):Prop :=
 ∀ (af:acI) (s:gs) (Z:St) (H:Hp) (o i v:V) (ov I u:dO) (Q:Hp->Prop),Inv X af Z H s->bg o ov->bg i I->bg v u->t o i v H Q ->
  Wv (Wx X.prog X.w) X.A (setItem ov I u) (fun _ s'=>∃ H',Inv X af Z H' s'/\Q H') X.xe s
abbrev Uz:=V->V->Hp->VK->Prop
def PIp (X:Cx) (op:Operator) (t:Uz):Prop :=
 ∀ (af:acI) (s:gs) (Z:St) (H:Hp) (x y:V) (v u:dO) (Q:VK),Inv X af Z H s->bg x v->bg y u->t x y H Q ->
  Wv (Wx X.prog X.w) X.A (inplaceOp op v u) (EP X af Z Q) X.xe s
section
variable {X:Cx} {pos:Pos}
def qJ (i:Nat):TG:=fun v Z H Q=>Q (Z.set i (some v)) H
def BV {i:Nat} {x:Str} (L:X.N.Nodup) (hi:X.N[i]?=some x) (Y:C3 X.env.scope x) (hf:X.fn x=true\/X.env.scope.names.lookup x=some .local:=by walk_at"u"):PG X (.Name x pos) (qJ i):=by
 intro af s Z H v u Q I r h;exact wpAny_assign_Name (vi I L hi Y r (fun s' J=>⟨_,H,J,h⟩) hf)
def RN:ES:=fun vs Z H Q=>vs=[]/\Q Z H
def KJ (t:TG) (u:ES):ES:=fun vs Z H Q=>∃ v r,vs=v::r/\t v Z H fun I H'=>u r I H' Q
def IE:OZ X [] RN:=by
 intro af s Z H vs us Q I r h;obtain ⟨e,h⟩:=h;subst e;cases r;exact assignInOrder_nil ⟨Z,H,I,h⟩
def F8 {e:W3} {es:List W3} {t:TG} {u:ES} (h1:PG X e t) (h2:OZ X es u)
  (L:(XR (e::es) X.env).map (·.2)=assign e X.env::(XR es X.env).map (·.2):=by rfl):OZ X (e::es) (KJ t u):=by
 intro af s Z H vs us Q I r h;obtain ⟨v,vr,J,h⟩:=h;subst J;cases r with
 | cons r Y =>
  rw [L];refine assignInOrder_cons (cU (h1 af s Z H _ _ _ I r h) fun _ s1 ⟨σ1,H1,I1,q1⟩=>?_);exact h2 af s1 σ1 H1 _ _ Q I1 Y q1
def RX (K:aT) (n:Nat) (t:ES):TG:=fun v Z H Q=>∃ a xs,v=.ref a/\j3 K H a xs/\xs.length=n/\t xs Z H Q
def Mn {es:List W3} {k:Nat} {t:ES} {n:Nat} (hc:X.calm=true) (h:OZ X es t)
  (hn:(XR es X.env).length=n:=by rfl) (J:(XR es X.env).findIdx? (·.1)=none:=by rfl):PG X (.Tuple es k pos) (RX X.K n t):=by
 intro af s Z H v u Q I r hw;obtain ⟨a,xs,Y,hq,hl,hw⟩:=hw;subst Y;cases r;obtain ⟨its,L,ht,hz⟩:=I.tuple hq;refine assign_Tuple_tuple (I.ok.hd hc) ht (by simp [hn,<- hl,L.length]) J fun h' hx=>?_;have I1:Inv X af Z H { s with heap:=h' }:=I.kept (t':=s.toks) fun b o e=>hx b o (WK (Wt e)) e;exact h af _ Z H xs _ Q I1 (by simpa using L) hw
def L7 (to I:TE) (t:JX):TG:=fun v Z H Q=>to Z H fun o H1=>I Z H1 fun i H2=>t o i v H2 fun J=>Q Z J
def Mw {o i:W3} {to Y:TE} {t:JX} (ho:PE X o to) (hi:PE X i Y) (hs:NJ X t)
  (ha:∀ v,assign (.Subscript o i pos) X.env v=(do
   let ov <- holding [v] (eval o X.env)
   let J <- holding [v,ov] (eval i X.env)
   ab4 pos
   holding [v,ov,J] (setItem ov J v)
   release [v,ov,J] []):=by intro _;rfl):PG X (.Subscript o i pos) (L7 to Y t):=by
 intro af s Z H v u Q I r h;rw [ha];refine bY (Yt (cU (ho af s Z H _ I h) fun ov s1 L=>nY L fun x H1 I1 r1 q1=>?_));refine bY (Yt (cU (hi af s1 Z H1 _ I1 q1) fun J s2 L=>nY L fun y H2 I2 r2 q2=>?_));refine bY (wpAny_standAt (bY (Yt (cU (hs af s2 Z H2 x y v ov J u _ I2 r1 r2 r q2) fun _ s3 ⟨H3,I3,q3⟩=>?_))));exact wpAny_release ⟨Z,H3,I3,q3⟩
def zY (te:TE) (g:TG):TS:=fun D Z H=>te Z H fun x H1=>g x Z H1 D.nx
def Mi {tg e:W3} {te:TE} {g:TG} (L:PE X e te) (hg:PG X tg g) (Y:swapsWithSole [tg] e pos.line X.env=pure false:=by rfl) (hw:swappedStores [tg] e X.env=pure none:=by rfl)
  (h1:(XR [tg] X.env).map (·.2)=[assign tg X.env]:=by rfl):PS X (.Assign [tg] e pos) (zY te g):=by
 intro af s Z H D I h;refine wpAny_Assign_stores (cU (L af s Z H _ I h) fun v s1 hh=>nY hh fun x H1 I1 J q1=>?_) Y hw;rw [h1];exact cU (hg af s1 Z H1 x v _ I1 J q1) fun _ s2 q=>q
def LM {i:Nat} {x:Str} {e:W3} {te:TE} {pos':Pos} (hN:X.N.Nodup) (hi:X.N[i]?=some x) (L:C3 X.env.scope x) (Y:PE X e te) (hs:YL e (some (.Name x pos')) pos.line X.env=pure false:=by rfl) (hf:X.fn x=true\/X.env.scope.names.lookup x=some .local:=by walk_at"u") :
  PS X (.Assign [.Name x pos'] e pos) (zY te (qJ i)):=by
 intro af s Z H D I h;refine wpAny_Assign_Name (cU (Y af s Z H _ I h) fun v s1 hh=>nY hh fun y H1 I1 J q1=>?_) hs;exact vi I1 hN hi L J (fun s2 I2=>⟨_,H1,I2,q1⟩) hf
def UB (i:Nat) (te:TE) (I:Uz):TS:=fun D Z H=>∃ x,Z[i]?=some (some x)/\te Z H fun y H1=>I x y H1 fun z H2=>D.nx (Z.set i (some z)) H2
def Nv {i:Nat} {x:Str} {e:W3} {te:TE} {op:Operator} {ti:Uz} {pos':Pos} (hN:X.N.Nodup) (hi:X.N[i]?=some x) (hx:C3 X.env.scope x) (he:PE X e te) (ho:PIp X op ti) (hf:X.fn x=true\/X.env.scope.names.lookup x=some .local:=by walk_at"u") :
  PS X (.AugAssign (.Name x pos') op e pos) (UB i te ti):=by
 intro af s Z H D I h;obtain ⟨v,e1,h⟩:=h;obtain ⟨m,hn,hl⟩:=I.loc;have vis:yH X.env.scope x:=by rcases hx with k|k;exact .inl k;exact .inr (.inl k)
 obtain ⟨u,r,l⟩:=hl i x v hi e1 vis;refine wpAny_AugAssign_Name ?_;have go:Wv (Wx X.prog X.w) X.A (eval e X.env) (fun w Y=>Wv (Wx X.prog X.w) X.A (inplaceOp op u w) (fun r s₃=>Wv (Wx X.prog X.w) X.A (storeName X.env x r) (fun _=>SP X af D .next) X.xe s₃) X.xe Y) X.xe s:=by
  refine cU (he af s Z H _ I h) fun w s1 hh=>nY hh fun y H1 I1 r1 q1=>?_;refine cU (ho af s1 Z H1 v y u w _ I1 r r1 q1) fun z s2 hh=>nY hh fun zv H2 I2 r2 q2=>?_;exact vi I2 hN hi hx r2 (fun s3 I3=>⟨_,H2,I3,q2⟩) hf
 rcases l with ⟨J,hm⟩|⟨J,c,hc,L⟩
 .exact wpAny_loadName_local I.ok.kind J hn hm go
 .rcases J with J|J
  .exact wpAny_loadName_cell I.ok.kind J hc L go
  .rcases hx with k|k
   .have:X.env.scope.names.lookup x=some .free:=J
    rw [k] at this;cases this
   .have:X.env.scope.names.lookup x=some .free:=J
    rw [k] at this;cases this
end
section
variable {X:Cx} {pos:Pos}
def HC (c:TT) (tb:TS):TS:=fun D Z H=>∃ W:Nat->St->Hp->Prop,(∃ m,W m Z H)/\∀ m Z H,W m Z H ->
 c Z H fun b H1=>if b=true then ∃ N:St->Hp->Prop,(∀ I H',N I H'->∃ J,J < m/\W J I H')/\tb { D with nx:=N,ct:=N,bk:=D.nx } Z H1 else D.nx Z H1
def Gi {c:W3} {L:List X5} {tc:TT} {tb:TS} (hp:abi (Wx X.prog X.w) X.A X.env X.xe) (hc:PT X c tc) (hb:CO X L tb):PS X (.While c L [] pos) (HC tc tb):=by
 intro af s Z H D I h;obtain ⟨W,⟨m0,w0⟩,turn⟩:=h;refine wpAny_While (codeAny_whileLoop (fun n s'=>∃ σ' H',Inv X af σ' H' s'/\W n σ' H') ?_ m0 ⟨Z,H,I,w0⟩);rintro n s1 ⟨σ1,H1,I1,w1⟩;refine YB hp (cU (hc af s1 σ1 H1 _ I1 (turn n σ1 H1 w1)) fun b s2 ⟨H2,I2,q2⟩=>?_);cases b with
 | true =>
  obtain ⟨N,hN,q2⟩:=q2;rw [acA rfl];refine YB hp (cU (hb af s2 σ1 H2 _ I2 q2) fun f s3 q3=>?_);cases f with
  | next =>
   obtain ⟨J,Y,I3,n3⟩:=q3;obtain ⟨m',hm,w3⟩:=hN J Y n3;exact ⟨m',hm,J,Y,I3,w3⟩
  | cont =>
   obtain ⟨J,Y,I3,n3⟩:=q3;obtain ⟨m',hm,w3⟩:=hN J Y n3;exact ⟨m',hm,J,Y,I3,w3⟩
  | brk=>exact q3
  | ret v=>exact q3
 | false =>
  rw [acB iF];exact ZX ⟨σ1,H2,I2,q2⟩
end
structure It where
 go:Nat->Hp->Prop
 yld:Nat->Hp->V->Hp->Prop
 stop:Nat->Hp->Prop
def iu (X:Cx) (af:acI) (H:Hp) (b:ID):Prop :=
 H b=none/\b≠X.env.locals/\b∉X.fs/\(b∈X.ex\/X.s₀.heap.objs.size<=b)/\(∀ x c,X.env.cells.lookup x=some c->c≠b)/\∀ p∈X.pn++af,p.1≠b
def Inv.fpOk {X:Cx} {af:acI} {Z:St} {H H':Hp} {s:gs} {b:ID} (I:Inv X af Z H s) (J:s.heap.objs.size<=b) (hn:H' b=none):iu X af H' b:=by
 refine ⟨hn,Nat.ne_of_gt (WE I.lt J),I.nofs J,.inr (IF I.sz J),fun x c e z=>?_,fun p L z=>?_⟩
 .obtain ⟨v,q⟩:=I.cell x c e;exact absurd (WE q.lt (by rw [z];exact J)) (YC _)
 .exact absurd (WE (Wt (I.pin p L).1) (by rw [z];exact J)) (YC _)
structure Turn (P:Ww) (w:WU) (K:aT) (tg:W3) (J:It) (fp:acL) (it:ID) (tn:Nat->Yy->Prop):Prop where
 mem:it∈fp
 obj:∀ i h,tn i h->∀ b∈fp,∃ o,h.get? b=some o/\∀ v,o.data≠.cell v
 keep:∀ i h h',tn i h->(∀ b∈fp,∀ o,h.get? b=some o->h'.get? b=some o)->tn i h'
 item:∀ (X:Cx),X.prog=P->X.w=w->X.K=K->X.calm=true->∀ (i:Nat) (af:acI) (s:gs) (Z:St) (H:Hp) (E:acJ),Inv X af Z H s->(∀ b∈fp,iu X af H b)->tn i s.heap->J.go i H ->
  Wv (Wx P w) X.A (pyNext (.ref it)) (fun r s1=>∃ u,r=some u /\
   Wv (Wx P w) X.A (ZY tg (.ref it) u) (fun _ s2=>∃ x H',Inv X af Z H' s2/\bg x u/\J.yld i H x H'/\tn (i+1) s2.heap/\∀ b∈fp,H' b=none) E s1) E s
 done:∀ (X:Cx),X.prog=P->X.w=w->X.K=K->X.calm=true->∀ (i:Nat) (af:acI) (s:gs) (Z:St) (H:Hp) (E:acJ),Inv X af Z H s->(∀ b∈fp,iu X af H b)->tn i s.heap->J.stop i H ->
  Wv (Wx P w) X.A (pyNext (.ref it)) (fun r s1=>r=none/\Inv X af Z H s1) E s
 self:∀ (A:WN) (i:Nat) (s:gs) (Q:acJ) (E:acJ),tn i s.heap->Q (.ref it) s->Wv (Wx P w) A (acs (.ref it)) Q E s
abbrev TI:=St->Hp->(It->Hp->Prop)->Prop
def V6 (X:Cx) (af:acI) (Z:St) (tg:W3) (R:It->Hp->Prop) (I:dO) (L:gs):Prop :=
 ∃ (it:ID) (fp:acL) (tn:Nat->Yy->Prop) (J:It) (H':Hp),I=.ref it/\Inv X af Z H' L/\Turn X.prog X.w X.K tg J fp it tn/\tn 0 L.heap/\(∀ b∈fp,iu X af H' b)/\R J H'
def PI (X:Cx) (tg iter:W3) (wi:TI):Prop :=
 ∀ (af:acI) (s:gs) (Z:St) (H:Hp) (R:It->Hp->Prop),Inv X af Z H s->wi Z H R ->
  Wv (Wx X.prog X.w) X.A (eval iter X.env) (fun v I=>Wv (Wx X.prog X.w) X.A (acs v) (V6 X af Z tg R) X.xe I) X.xe s
def wJ {M:Model} {A:WN} {E:acJ} {s:gs} {tg:W3} {it:ID} {u:dO} {o:Obj} {n:String} {vs:Array dO} {Q:Unit->gs->Prop} (I:s.heap.get? it=some o) (J:o.cls=.type n) (hd:o.data=.fields vs)
    (hn:["enumerate","zip","dict_itemiterator","dict_reverseitemiterator","odict_iterator","itertools.zip_longest","itertools.pairwise"].contains n=false) (hQ:Q () s):Wv M A (ZY tg (.ref it) u) Q E s:=by
  unfold ZY;cases tg <;> first
    | exact CT hQ
    | (cases u <;> first
        | exact CT hQ
        | (refine bY (wpAny_load I ?_)
           rw [J,hd];show Wv M A (if (["enumerate","zip","dict_itemiterator","dict_reverseitemiterator","odict_iterator","itertools.zip_longest","itertools.pairwise"].contains n&&vs[0]?==some (abj _))=true then _ else _) Q E s;rw [acB (by intro h;rw [hn,Bool.false_and] at h;cases h)];exact CT hQ))
def UX (K:aT) (a:ID):It :=
 ⟨fun i H=>∃ xs x,gp K H a xs/\xs[i]?=some x,fun i H x H'=>H'=H/\∀ xs,gp K H a xs->xs[i]?=some x,fun i H=>∃ xs,gp K H a xs/\xs.length<=i⟩
def Uj (K:aT) (a:ID):It :=
 ⟨fun i H=>∃ xs x,j3 K H a xs/\xs[i]?=some x,fun i H x H'=>H'=H/\∀ xs,j3 K H a xs->xs[i]?=some x,fun i H=>∃ xs,j3 K H a xs/\xs.length<=i⟩
def Pa (lo:Int) (n:Nat):It:=⟨fun i _=>i < n,fun i H x H'=>H'=H/\x=.int (lo+i),fun i _=>n<=i⟩
def Dr {P:Ww} {w:WU} {K:aT} {tg:W3} (a it:ID):Turn P w K tg (UX K a) [it] it (fun i h=>h.IsListIter it a i) where
 mem:=by simp
 obj:=fun i h st b J=>by
  have e:b=it:=by simpa using J
  subst e;obtain ⟨o,e,c,d⟩:=st;exact ⟨o,e,fun v z=>by rw [d] at z;cases z⟩
 keep:=fun i h h' st k=>st.at fun o e=>k it (by simp) o e
 item:=by
  intro X hP hw hK hc i af s Z H E I hf st hg;subst hP hw hK;obtain ⟨xs,x,Y,hx⟩:=hg;obtain ⟨its,rv,p,hz⟩:=I.list Y;obtain ⟨u,hu,ru⟩:=rv.get hx;obtain ⟨f0,f1,f2,f3,f4,f5⟩:=hf it (by simp);refine wpAny_pyNext_list_item st p.isList (x:=u) (by simpa using hu) fun h' L sb=>?_;have I1:Inv X af Z H { s with heap:=h' }:=I.turned (t':=s.toks) (fun b o J e=>(sb.2 b J).trans e) f0 f1 f3 f4 f5;obtain ⟨o,e,c,d⟩:=id L;exact ⟨u,rfl,wJ (s:={ s with heap:=h' }) e c d (by decide) ⟨x,H,I1,ru,⟨rfl,fun ys hy=>by rw [I.list_inj hy Y];exact hx⟩,L,fun b J=>(hf b J).1⟩⟩
 done:=by
  intro X hP hw hK hc i af s Z H E I hf st hg;subst hP hw hK;obtain ⟨xs,Y,hx⟩:=hg;obtain ⟨its,rv,p,hz⟩:=I.list Y;obtain ⟨f0,f1,f2,f3,f4,f5⟩:=hf it (by simp);have hl:=rv.length;exact wpAny_pyNext_list_end (I.ok.hd hc) st p.isList (by simp;omega) fun h' eb=>⟨rfl,I.turned (t':=s.toks) (fun b o J e=>eb b o J e) f0 f1 f3 f4 f5⟩
 self:=fun _ _ _ _ _ st h=>wpAny_pyIter_listiter st h
def A9 {P:Ww} {w:WU} {K:aT} {tg:W3} (a it:ID):Turn P w K tg (Uj K a) [it] it (fun i h=>h.IsTupleIter it a i) where
 mem:=by simp
 obj:=fun i h st b J=>by
  have e:b=it:=by simpa using J
  subst e;obtain ⟨o,e,c,d⟩:=st;exact ⟨o,e,fun v z=>by rw [d] at z;cases z⟩
 keep:=fun i h h' st k=>st.at fun o e=>k it (by simp) o e
 item:=by
  intro X hP hw hK hc i af s Z H E I hf st hg;subst hP hw hK;obtain ⟨xs,x,Y,hx⟩:=hg;obtain ⟨its,rv,p,hz⟩:=I.tuple Y;obtain ⟨u,hu,ru⟩:=rv.get hx;obtain ⟨f0,f1,f2,f3,f4,f5⟩:=hf it (by simp);refine wpAny_pyNext_tuple_item st (show s.heap.IsTuple a its.toArray from p) (x:=u) (by simpa using hu) fun h' L sb=>?_;have I1:Inv X af Z H { s with heap:=h' }:=I.turned (t':=s.toks) (fun b o J e=>(sb.2 b J).trans e) f0 f1 f3 f4 f5;obtain ⟨o,e,c,d⟩:=id L;exact ⟨u,rfl,wJ (s:={ s with heap:=h' }) e c d (by decide) ⟨x,H,I1,ru,⟨rfl,fun ys hy=>by rw [I.tuple_inj hy Y];exact hx⟩,L,fun b J=>(hf b J).1⟩⟩
 done:=by
  intro X hP hw hK hc i af s Z H E I hf st hg;subst hP hw hK;obtain ⟨xs,Y,hx⟩:=hg;obtain ⟨its,rv,p,hz⟩:=I.tuple Y;obtain ⟨f0,f1,f2,f3,f4,f5⟩:=hf it (by simp);have hl:=rv.length;exact wpAny_pyNext_tuple_end (I.ok.hd hc) st (show s.heap.IsTuple a its.toArray from p) (by simp;omega) fun h' eb=>⟨rfl,I.turned (t':=s.toks) (fun b o J e=>eb b o J e) f0 f1 f3 f4 f5⟩
 self:=fun _ _ _ _ _ st h=>wpAny_pyIter_tupleiter st h
def A2 {P:Ww} {w:WU} {K:aT} {tg:W3} (it:ID) (lo:Int) (n:Nat):Turn P w K tg (Pa lo n) [it] it (fun i h=>IsRangeIter h it (lo+(i:Nat)*1) ((n:Int) - (i:Nat)) 1) where
 mem:=by simp
 obj:=fun i h st b J=>by
  have e:b=it:=by simpa using J
  subst e;exact ⟨_,st,fun v z=>by
   have z':Data.fields _=Data.cell v:=z;cases z'⟩
 keep:=fun i h h' st k=>k it (by simp) _ st
 item:=by
  intro X hP hw hK hc i af s Z H E I hf st hg;subst hP hw hK;obtain ⟨Y,f1,f2,f3,f4,f5⟩:=hf it (by simp);have W:=Walks.range (prog:=X.prog) (w:=X.w) (I.ok.hd hc) it lo 1 n;refine bo I.tk (W.item i s _ _ hg st fun v h' tk hv L kk htk=>?_);obtain ⟨t,rfl⟩:=hv;have I1:Inv X af Z H { s with heap:=h',toks:=tk }:=I.turned (fun b o J e=>kk b o (by simpa using J) e) Y f1 f3 f4 f5;refine ⟨_,rfl,wJ (s:={ s with heap:=h',toks:=tk }) (n:="range_iterator") L rfl rfl (by decide) ⟨.int (lo+i),H,I1,⟨t,?_⟩,⟨rfl,rfl⟩,L,fun b J=>(hf b J).1⟩⟩;rw [Int.mul_one]
 done:=by
  intro X hP hw hK hc i af s Z H E I hf st hg;subst hP hw hK;obtain ⟨Y,f1,f2,f3,f4,f5⟩:=hf it (by simp);exact wpAny_pyNext_range_end (I.ok.hd hc) st (by have:n<=i:=hg;omega) fun h' eb=>⟨rfl,I.turned (t':=s.toks) (fun b o J e=>eb b o J e) Y f1 f3 f4 f5⟩
 self:=fun _ _ _ _ _ st h=>wpAny_pyIter_rangeiter st h
section
variable {X:Cx} {tg:W3}
def zf {af:acI} {Z:St} {H:Hp} {s:gs} {R:It->Hp->Prop} {E:acJ} {lo hi:Int} {t u v:Tok} {tk:Nat} (I:Inv X af Z H s) (h1:-(2 ^ 62)<=lo) (h2:lo < 2 ^ 62) (h3:-(2 ^ 62)<=hi) (h4:hi < 2 ^ 62)
  (q:R (Pa lo (hi - lo).toNat) H) (ht:X.tn<=tk:=by walk_at "tok"):Wv (Wx X.prog X.w) X.A (acs (.ref s.heap.objs.size)) (V6 X af Z tg R) E { s with heap:=s.heap.push { cls:=.type "range",data:=.fields #[.int lo t,.int hi u,.int 1 v] },toks:=tk }:=by
 refine wpAny_pyIter_range (IsRange.new ..) (small_one h1 h2 h3 h4) ?_;have J:Inv X af Z H { s with heap:=s.heap.push { cls:=.type "range",data:=.fields #[.int lo t,.int hi u,.int 1 v] },toks:=tk }:=I.kept fun b o e=>lT _ e;refine ⟨(s.heap.push { cls:=.type "range",data:=.fields #[.int lo t,.int hi u,.int 1 v] }).objs.size,[(s.heap.push { cls:=.type "range",data:=.fields #[.int lo t,.int hi u,.int 1 v] }).objs.size],_,_,H,rfl,
  J.kept (t':=tk) fun b o e=>lT _ e,A2 _ lo (hi - lo).toNat,?_,fun b L=>?_,q⟩
 .have e1:lo+((0:Nat):Int)*1=lo:=by simp
  have Y:(((hi - lo).toNat:Nat):Int) - ((0:Nat):Int)=Builtin.Range.rangeSize lo hi 1:=by rw [rangeSize_one];split <;> omega
  show IsRangeIter _ _ (lo+((0:Nat):Int)*1) ((((hi - lo).toNat:Nat):Int) - ((0:Nat):Int)) 1;rw [e1,Y];exact Wr _ rfl
 .have e:b=(s.heap.push { cls:=.type "range",data:=.fields #[.int lo t,.int hi u,.int 1 v] }).objs.size:=by simpa using L
  subst e;exact J.fpOk (mK _) (J.hok.fresh (mK _))
def KC (ta:TA):TI:=fun Z H R=>ta Z H fun vs H1=>∃ i j:Int,vs=[.int i,.int j]/\(-(2 ^ 62)<=i/\i < 2 ^ 62/\-(2 ^ 62)<=j/\j < 2 ^ 62)/\R (Pa i (j - i).toNat) H1
def DZ {a b:W3} {ta:TA} {p pos:Pos} (hg:Gl X "range") (hm:X.mg "range"=none) (ha:PA X [a,b] ta) (hs:WT [a,b] X.env=[(false,eval a X.env),(false,eval b X.env)]:=by rfl) (J:WT [b] X.env=[(false,eval b X.env)]:=by rfl) :
  PI X tg (.Call (.Name "range" p) [a,b] [] pos) (KC ta):=by
 intro af s Z H R I h;refine Call_ (nA I hg hm boot_range (XH (cU (ha pos af s Z H _ I h) fun us s1 hh=>nY hh fun vs H1 I1 r1 L=>?_) (by rw [hs,J]) (by rw [J];rfl)));obtain ⟨i,j,e,⟨L,q2,q3,q4⟩,q⟩:=L;subst e;cases r1 with
 | cons r Y =>
  cases Y with
  | cons r' Y =>
   cases Y;obtain ⟨t,rfl⟩:=r;obtain ⟨t',rfl⟩:=r';exact call_range_2 (zf I1 L q2 q3 q4 q)
def Pi (wi:TI) (g:TG) (tb:TS):TS:=fun D Z H=>wi Z H fun J H1=>∃ W:Nat->Nat->St->Hp->Prop,(∃ m,W 0 m Z H1)/\∀ i m Z H,W i m Z H ->
 (J.stop i H/\D.nx Z H)\/(J.go i H/\∃ N:St->Hp->Prop,(∀ I H',N I H'->∃ Y,Y < m/\W (i+1) Y I H')/\∀ x H',J.yld i H x H'->g x Z H' fun L H2=>tb { D with nx:=N,ct:=N,bk:=D.nx } L H2)
def pO (fp:acL) (h:Yy):acI:=fp.filterMap fun b=>(h.get? b).map fun o=>(b,o)
def gK {fp:acL} {h:Yy} {b:ID} {o:Obj} (I:b∈fp) (e:h.get? b=some o):(b,o)∈pO fp h:=abJ.mpr ⟨b,I,by rw [e];rfl⟩
def Eu {fp:acL} {h:Yy} {p:ID×Obj} (L:p∈pO fp h):p.1∈fp/\h.get? p.1=some p.2:=by
 obtain ⟨b,I,e⟩:=abJ.mp L;cases q:h.get? b with
 | none=>rw [q] at e;cases e
 | some o =>
  rw [q] at e;have J:(b,o)=p:=WG e;subst J;exact ⟨I,q⟩
def Inv.pinned {af:acI} {Z:St} {H:Hp} {s:gs} {fp:acL} (I:Inv X af Z H s) (hf:∀ b∈fp,iu X af H b) (Y:∀ b∈fp,∃ o,s.heap.get? b=some o/\∀ v,o.data≠.cell v):Inv X (af++pO fp s.heap) Z H s :=
 I.pins_of fun p hp=>(MK.mp hp).elim (fun z=>I.pin p (Wu _ z)) fun z=>by
  obtain ⟨J,e⟩:=Eu z;obtain ⟨f0,f1,f2,_⟩:=hf p.1 J;obtain ⟨o,L,d⟩:=Y p.1 J;rw [e] at L;cases L;exact ⟨e,f0,f1,f2,d⟩
def Inv.unpinned {af J:acI} {Z:St} {H:Hp} {s:gs} (I:Inv X (af++J) Z H s):Inv X af Z H s:=I.pins_of fun p L=>I.pin p (Wu _ (WX _ L))
def L5 {iter:W3} {body:List X5} {wi:TI} {g:TG} {tb:TS} {pos:Pos} (hp:abi (Wx X.prog X.w) X.A X.env X.xe) (hc:X.calm=true) (hi:PI X tg iter wi) (hg:PG X tg g) (Y:CO X body tb)
  (hs:∀ x,XG iter X.env x=pure x:=by intro _;rfl):PS X (.For tg iter body [] pos) (Pi wi g tb):=by
 intro af s Z H D I h;refine wpAny_For (cU (hi af s Z H _ I h) fun v s1 h1=>cU h1 fun itv s2 h2=>?_) hs;obtain ⟨it,fp,tn,J,H2,e,I2,T,st2,f2,W,⟨m0,w0⟩,turn⟩:=h2;subst e
 have stat:∀ {H':Hp},(∀ b∈fp,H' b=none)->∀ b∈fp,iu X af H' b:=fun hn b Y=>⟨hn b Y,(f2 b Y).2⟩;refine codeAny_forLoop_any (fun n s'=>∃ i σ' H',Inv X af σ' H' s'/\tn i s'.heap/\(∀ b∈fp,H' b=none)/\W i n σ' H') ?_ m0 ⟨0,Z,H2,I2,st2,fun b Y=>(f2 b Y).1,w0⟩;rintro n s3 ⟨i,σ3,H3,I3,st3,fr3,w3⟩;rcases turn i n σ3 H3 w3 with ⟨stop,qn⟩|⟨go,N,hN,step⟩
 .refine YB hp (cU (T.done X rfl rfl rfl hc i af s3 σ3 H3 X.xe I3 (stat fr3) st3 stop) fun r s4 ⟨hr,I4⟩=>?_);subst hr;exact ZX ⟨σ3,H3,I4,qn⟩
 .refine YB hp (cU (T.item X rfl rfl rfl hc i af s3 σ3 H3 X.xe I3 (stat fr3) st3 go) fun r s4 ⟨u,hr,h4⟩=>?_);subst hr;refine YB hp (cU h4 fun _ s5 ⟨x,H5,I5,r5,y5,st5,fr5⟩=>?_);have I5':=I5.pinned (stat fr5) (T.obj _ _ st5);refine YB hp (cU (hg _ s5 σ3 H5 x u _ I5' r5 (step x H5 y5)) fun _ s6 ⟨σ6,H6,I6,q6⟩=>?_);refine YB hp (cU (Y _ s6 σ6 H6 _ I6 q6) fun f s7 q7=>?_);have again:∀ {L:St} {H7:Hp},Inv X (af++pO fp s5.heap) L H7 s7->N L H7->∃ m,m < n/\∃ i σ' H',Inv X af σ' H' s7/\tn i s7.heap/\(∀ b∈fp,H' b=none)/\W i m σ' H':=fun {L H7} I7 n7=>by
   obtain ⟨m',hm,w7⟩:=hN L H7 n7;refine ⟨m',hm,i+1,L,H7,I7.unpinned,T.keep _ _ _ st5 fun b Y o e=>(I7.pin (b,o) (Wu _ (Wu _ (gK Y e)))).1,fun b Y=>?_,w7⟩;obtain ⟨o,e,d⟩:=T.obj _ _ st5 b Y;exact (I7.pin (b,o) (Wu _ (Wu _ (gK Y e)))).2.1
  cases f with
  | next=>obtain ⟨L,H7,I7,n7⟩:=q7;exact again I7 n7
  | cont=>obtain ⟨L,H7,I7,n7⟩:=q7;exact again I7 n7
  | brk=>obtain ⟨L,H7,I7,q7⟩:=q7;exact ⟨L,H7,I7.unpinned,q7⟩
  | ret v=>obtain ⟨x7,L,H7,I7,r7,q7⟩:=q7;exact ⟨x7,L,H7,I7.unpinned,r7,q7⟩
end
abbrev R2:=V->V->Hp->VK->Prop
def fb (X:Cx) (f:dO->dO->Sem dO) (r:R2):Prop :=
 ∀ (af:acI) (s:gs) (Z:St) (H:Hp) (x y:V) (v u:dO) (Q:VK),Inv X af Z H s->bg x v->bg y u->r x y H Q ->
  Wv (Wx X.prog X.w) X.A (f v u) (EP X af Z Q) X.xe s
def Kn (X:Cx) (f:dO->Sem dO) (r:V->Hp->VK->Prop):Prop :=
 ∀ (af:acI) (s:gs) (Z:St) (H:Hp) (x:V) (v:dO) (Q:VK),Inv X af Z H s->bg x v->r x H Q ->
  Wv (Wx X.prog X.w) X.A (f v) (EP X af Z Q) X.xe s
def cj (X:Cx) (f:dO) (r:acN->Hp->VK->Prop):Prop :=
 ∀ (af:acI) (s:gs) (Z:St) (H:Hp) (xs:acN) (us:acM) (Q:VK),Inv X af Z H s->bf xs us->r xs H Q ->
  Wv (Wx X.prog X.w) X.A (call f us) (EP X af Z Q) X.xe s
def TX (X:Cx) (r:V->Hp->(Bool->Hp->Prop)->Prop):Prop :=
 ∀ (af:acI) (s:gs) (Z:St) (H:Hp) (x:V) (v:dO) (Q:Bool->Hp->Prop),Inv X af Z H s->bg x v->r x H Q ->
  Wv (Wx X.prog X.w) X.A (truthy v) (TP X af Z Q) X.xe s
def A7 (r:R2) (ta tb:TE):TE:=fun Z H Q=>ta Z H fun x H1=>tb Z H1 fun y H2=>r x y H2 Q
def VZ (r:V->Hp->VK->Prop) (ta:TE):TE:=fun Z H Q=>ta Z H fun x H1=>r x H1 Q
def rI (C:Int->Int->Prop) (g:Int->Int->V):R2:=fun x y H Q=>∃ i j,x=.int i/\y=.int j/\C i j/\Q (g i j) H
def Kt (g:Int->Int->V):R2:=fun x y H Q=>∃ i j,x=.int i/\y=.int j/\Q (g i j) H
def rU (g:Int->V):V->Hp->VK->Prop:=fun x H Q=>∃ i,x=.int i/\Q (g i) H
section
variable {X:Cx} {a b c:W3} {ta tb tc:TE} {pos:Pos}
def Ng (ha:PE X a ta) (hb:PE X b tb) {af:acI} {s:gs} {Z:St} {H:Hp} {R:V->V->Hp->Prop} (I:Inv X af Z H s)
  (h:ta Z H fun x H1=>tb Z H1 fun y H2=>R x y H2) {Q:acJ} {f:dO->dO->Sem dO}
  (hf:∀ v u Y x y H2,Inv X af Z H2 Y->bg x v->bg y u->R x y H2->Wv (Wx X.prog X.w) X.A (f v u) Q X.xe Y) :
  Wv (Wx X.prog X.w) X.A (eval a X.env) (fun v J=>Wv (Wx X.prog X.w) X.A (eval b X.env) (fun u L=>Wv (Wx X.prog X.w) X.A (f v u) Q X.xe L) X.xe J) X.xe s:=by
 refine cU (ha af s Z H _ I h) fun v s1 hh=>nY hh fun x H1 I1 r1 q1=>?_;refine cU (hb af s1 Z H1 _ I1 q1) fun u Y hh=>nY hh fun y H2 I2 r2 q2=>?_;exact hf v u Y x y H2 I2 r1 r2 q2
def Oj {op:Operator} {r:R2} (ho:fb X (X9 op) r) (L:PE X a ta) (Y:PE X b tb):PE X (.BinOp a op b pos) (A7 r ta tb):=by
 intro af s Z H Q I h;exact wpAny_BinOp (Ng L Y I h fun v u s2 x y H2 I2 rx J q=>ho af s2 Z H2 x y v u Q I2 rx J q)
def Pe {op:UnaryOp} {r:V->Hp->VK->Prop} (Y:Kn X (unaryOp op) r) (J:PE X a ta):PE X (.UnaryOp op a pos) (VZ r ta):=by
 intro af s Z H Q I h;exact UnaryOp_ (cU (J af s Z H _ I h) fun v s1 hh=>nY hh fun x H1 I1 L q1=>Y af s1 Z H1 x v Q I1 L q1)
def To {f:dO->dO->Sem dO} {C:Int->Int->Prop} {g:Int->Int->Int}
  (rule:∀ (i j:Int) (t u:Tok) (s:gs) (Q:acJ) (E:acJ),C i j->Q (.int (g i j) s.toks) { s with toks:=s.toks+1 }->Wv (Wx X.prog X.w) X.A (f (.int i t) (.int j u)) Q E s) :
  fb X f (rI C fun i j=>.int (g i j)):=by
 intro af s Z H x y v u Q I Y J h;obtain ⟨i,j,rfl,rfl,L,q⟩:=h;obtain ⟨t,rfl⟩:=Y;obtain ⟨t',rfl⟩:=J;exact rule i j t t' s _ _ L ⟨.int (g i j),H,I.tok _,⟨_,rfl⟩,q⟩
def MD {f:dO->dO->Sem dO} {g:Int->Int->Int}
  (rule:∀ (i j:Int) (t u:Tok) (s:gs) (Q:acJ) (E:acJ),Q (.int (g i j) s.toks) { s with toks:=s.toks+1 }->Wv (Wx X.prog X.w) X.A (f (.int i t) (.int j u)) Q E s) :
  fb X f (Kt fun i j=>.int (g i j)):=by
 intro af s Z H x y v u Q I L J h;obtain ⟨i,j,rfl,rfl,q⟩:=h;obtain ⟨t,rfl⟩:=L;obtain ⟨t',rfl⟩:=J;exact rule i j t t' s _ _ ⟨.int (g i j),H,I.tok _,⟨_,rfl⟩,q⟩
def Nq {f:dO->dO->Sem dO} {g:Int->Int->Bool}
  (rule:∀ (i j:Int) (t u:Tok) (s:gs) (Q:acJ) (E:acJ),Q (.bool (g i j)) s->Wv (Wx X.prog X.w) X.A (f (.int i t) (.int j u)) Q E s) :
  fb X f (Kt fun i j=>.bl (g i j)):=by
 intro af s Z H x y v u Q I L J h;obtain ⟨i,j,rfl,rfl,q⟩:=h;obtain ⟨t,rfl⟩:=L;obtain ⟨t',rfl⟩:=J;exact rule i j t t' s _ _ ⟨.bl (g i j),H,I,rfl,q⟩
def Gx (i j:Int):Prop:=0 < j/\j < 1073741824
def He (i j:Int):Prop:=0<=j/\j<=1000000/\i.natAbs < 2 ^ 64
def AE (i j:Int):Prop:=(-(2 ^ 64) < i/\i < 2 ^ 64)\/(-(2 ^ 64) < j/\j < 2 ^ 64)
theorem AE.ok {i j:Int} (h:AE i j):IntMulOk i j:=by
 rcases h with ⟨h1,h2⟩|⟨h1,h2⟩
 .exact .of_left (intBits_le_64 h1 h2)
 .exact .of_right (intBits_le_64 h1 h2)
def L8:fb X (X9 .Add) (Kt fun i j=>.int (i+j)):=MD fun _ _ _ _ _ _ _ q=>add_int q
def LO:fb X (X9 .Sub) (Kt fun i j=>.int (i - j)):=MD fun _ _ _ _ _ _ _ q=>sub_int q
def N0:fb X (X9 .Mult) (rI AE fun i j=>.int (i*j)):=To fun _ _ _ _ _ _ _ I q=>mul_int q I.ok
def Kg:fb X (X9 .FloorDiv) (rI Gx fun i j=>.int (i/j)):=To fun i j _ _ _ _ _ I q=>by
 have h1:(0:Int) < j:=I.1;have h2:j < 1073741824:=I.2;exact floordiv_int (by omega) (by rw [Int.fdiv_eq_ediv_of_nonneg i (by omega)];exact q) (.inl (PyProof.noPylong_small (by omega)))
def MN:fb X (X9 .Mod) (rI (fun _ j=>0 < j) fun i j=>.int (i % j)):=To fun i j _ _ _ _ _ I q=>by
 have h1:(0:Int) < j:=I;exact mod_int' (by omega) (by rw [Int.fmod_eq_emod_of_nonneg i (by omega)];exact q)
def LN:fb X (X9 .Pow) (rI He fun i j=>.int (i ^ j.toNat)):=To fun _ _ _ _ _ _ _ I q=>pow_int_small I.1 I.2.1 I.2.2 q
def II:fb X (inplaceOp .Add) (Kt fun i j=>.int (i+j)):=MD fun _ _ _ _ _ _ _ q=>iadd_int q
def unI {f:dO->Sem dO} {g:Int->Int}
  (rule:∀ (i:Int) (t:Tok) (s:gs) (Q:acJ) (E:acJ),Q (.int (g i) s.toks) { s with toks:=s.toks+1 }->Wv (Wx X.prog X.w) X.A (f (.int i t)) Q E s) :
  Kn X f (rU fun i=>.int (g i)):=by
 intro af s Z H x v Q I J h;obtain ⟨i,rfl,q⟩:=h;obtain ⟨t,rfl⟩:=J;exact rule i t s _ _ ⟨.int (g i),H,I.tok _,⟨_,rfl⟩,q⟩
def Mg:Kn X (unaryOp .USub) (rU fun i=>.int (-i)):=unI fun _ _ _ _ _ q=>neg_int q
end
def z9:V->V->Bool
 | .non,.non=>true|.non,.int _=>true|.int _,.non=>true|.non,.bl _=>true|.bl _,.non=>true|.non,.str _=>true|.str _,.non=>true
 | .int _,.int _=>true|.bl _,.bl _=>true|.str _,.str _=>true|.byt _,.byt _=>true
 | .int _,.str _=>true|.str _,.int _=>true|.bl _,.str _=>true|.str _,.bl _=>true
 | _,_=>false
def rEq:R2:=fun x y H Q=>z9 x y=true/\Q (.bl (decide (x=y))) H
def rNe:R2:=fun x y H Q=>z9 x y=true/\Q (.bl (!decide (x=y))) H
def BL {i j:Int}:decide (V.int i=V.int j)=(i==j):=by
 rw [YR];simp
def Hu {i j:Bool}:decide (V.bl i=V.bl j)=(i==j):=by
 rw [YR];simp
def Cq {i j:Str}:decide (V.str i=V.str j)=(i==j):=by
 rw [YR];simp
def BU {i j:Array UInt8}:decide (V.byt i=V.byt j)=(i.toList==j.toList):=by
 rw [YR];cases i;cases j;simp
section
variable {X:Cx} {a b c:W3} {ta tb tc:TE} {pos:Pos}
def aU {af:acI} {Z:St} {H:Hp} {s:gs} {Q:VK} {k J:Bool} (I:Inv X af Z H s) (q:Q (.bl k) H) (e:k=J):EP X af Z Q (.bool J) s:=by
 subst e;exact ⟨.bl k,H,I,rfl,q⟩
def Q0:fb X (WR .Eq) rEq:=by
 intro af s Z H x y v u Q I Y J h;obtain ⟨L,q⟩:=h;cases x with
 | non =>
  cases Y;cases y with
  | non=>cases J;exact PySem.EqNone.eq_none_none (aU I q (by simp))
  | bl j=>cases J;exact PySem.EqNone.eq_none_bool (aU I q (by simp))
  | int j=>obtain ⟨t',rfl⟩:=J;exact PySem.EqNone.eq_none_int (aU I q (by simp))
  | str j=>obtain ⟨t',rfl⟩:=J;exact PySem.EqNone.eq_none_str (aU I q (by simp))
  | _=>exact absurd (show false=true from L) iF
 | bl i =>
  cases Y;cases y with
  | non=>cases J;exact PySem.EqNone.eq_bool_none (aU I q (by simp))
  | bl j=>cases J;exact eq_bool (aU I q Hu)
  | str j=>obtain ⟨t',rfl⟩:=J;exact PySem.EqMixed.eq_bool_str (aU I q (by simp))
  | _=>exact absurd (show false=true from L) iF
 | int i =>
  obtain ⟨t,rfl⟩:=Y;cases y with
  | non=>cases J;exact PySem.EqNone.eq_int_none (aU I q (by simp))
  | int j=>obtain ⟨t',rfl⟩:=J;exact eq_int (aU I q BL)
  | str j=>obtain ⟨t',rfl⟩:=J;exact PySem.EqMixed.eq_int_str (aU I q (by simp))
  | _=>exact absurd (show false=true from L) iF
 | str i =>
  obtain ⟨t,rfl⟩:=Y;cases y with
  | non=>cases J;exact PySem.EqNone.eq_str_none (aU I q (by simp))
  | bl j=>cases J;exact PySem.EqMixed.eq_str_bool (aU I q (by simp))
  | int j=>obtain ⟨t',rfl⟩:=J;exact PySem.EqMixed.eq_str_int (aU I q (by simp))
  | str j=>obtain ⟨t',rfl⟩:=J;exact eq_str (aU I q Cq)
  | _=>exact absurd (show false=true from L) iF
 | byt i =>
  obtain ⟨t,rfl⟩:=Y;cases y with
  | byt j=>obtain ⟨t',rfl⟩:=J;exact PySem.W.eq_bytes (aU I q BU)
  | _=>exact absurd (show false=true from L) iF
 | _=>cases y <;> exact absurd (show false=true from L) iF
def Pj:fb X (WR .NotEq) rNe:=by
 intro af s Z H x y v u Q I Y J h;obtain ⟨L,q⟩:=h;cases x with
 | non =>
  cases Y;cases y with
  | non=>cases J;exact PySem.EqNone.ne_none_none (aU I q (by simp))
  | bl j=>cases J;exact PySem.EqNone.ne_none_bool (aU I q (by simp))
  | int j=>obtain ⟨t',rfl⟩:=J;exact PySem.EqNone.ne_none_int (aU I q (by simp))
  | str j=>obtain ⟨t',rfl⟩:=J;exact PySem.EqNone.ne_none_str (aU I q (by simp))
  | _=>exact absurd (show false=true from L) iF
 | bl i =>
  cases Y;cases y with
  | non=>cases J;exact PySem.EqNone.ne_bool_none (aU I q (by simp))
  | bl j=>cases J;exact ne_bool (aU I q (acF not Hu))
  | str j=>obtain ⟨t',rfl⟩:=J;exact PySem.EqMixed.ne_bool_str (aU I q (by simp))
  | _=>exact absurd (show false=true from L) iF
 | int i =>
  obtain ⟨t,rfl⟩:=Y;cases y with
  | non=>cases J;exact PySem.EqNone.ne_int_none (aU I q (by simp))
  | int j=>obtain ⟨t',rfl⟩:=J;exact ne_int (aU I q (acF not BL))
  | str j=>obtain ⟨t',rfl⟩:=J;exact PySem.EqMixed.ne_int_str (aU I q (by simp))
  | _=>exact absurd (show false=true from L) iF
 | str i =>
  obtain ⟨t,rfl⟩:=Y;cases y with
  | non=>cases J;exact PySem.EqNone.ne_str_none (aU I q (by simp))
  | bl j=>cases J;exact PySem.EqMixed.ne_str_bool (aU I q (by simp))
  | int j=>obtain ⟨t',rfl⟩:=J;exact PySem.EqMixed.ne_str_int (aU I q (by simp))
  | str j=>obtain ⟨t',rfl⟩:=J;exact ne_str (aU I q (acF not Cq))
  | _=>exact absurd (show false=true from L) iF
 | byt i =>
  obtain ⟨t,rfl⟩:=Y;cases y with
  | byt j=>obtain ⟨t',rfl⟩:=J;exact PySem.W.ne_bytes (aU I q (acF not BU))
  | _=>exact absurd (show false=true from L) iF
 | _=>cases y <;> exact absurd (show false=true from L) iF
def Ss:fb X (WR .Lt) (Kt fun i j=>.bl (decide (i < j))):=Nq fun _ _ _ _ _ _ _ q=>lt_int q
def Qn:fb X (WR .Gt) (Kt fun i j=>.bl (decide (j < i))):=Nq fun _ _ _ _ _ _ _ q=>gt_int q
def Ou:fb X (WR .GtE) (Kt fun i j=>.bl (decide (j<=i))):=Nq fun _ _ _ _ _ _ _ q=>ge_int q
def EK:fb X (WR .Lt) (fun x y H Q=>∃ i j,x=.str i/\y=.str j/\Q (.bl (decide (i.cps.toList < j.cps.toList))) H):=by
 intro af s Z H x y v u Q I L J h;obtain ⟨i,j,rfl,rfl,q⟩:=h;obtain ⟨t,rfl⟩:=L;obtain ⟨t',rfl⟩:=J;exact lt_str (aU I q rfl)
def Nx:fb X (WR .Is) (fun x y H Q=>y=.non/\Q (.bl (decide (x=.non))) H):=by
 intro af s Z H x y v u Q I J L h;obtain ⟨rfl,q⟩:=h;cases L;refine is_none_gen (aU I q ?_);cases x <;> first
  | (cases J;rfl)
  | (obtain ⟨t,rfl⟩:=J;rfl)
def Kq:fb X (WR .IsNot) (fun x y H Q=>y=.non/\Q (.bl (!decide (x=.non))) H):=by
 intro af s Z H x y v u Q I J L h;obtain ⟨rfl,q⟩:=h;cases L;refine isnot_none_gen (aU I q ?_);cases x <;> first
  | (cases J;rfl)
  | (obtain ⟨t,rfl⟩:=J;rfl)
def xn:fb X (WR .NotIn) (fun x y H Q=>∃ i j,x=.str i/\y=.str j/\Q (.bl (!(!(aaF j i 0 j.length 1).isEmpty))) H):=by
 intro af s Z H x y v u Q I L J h;obtain ⟨i,j,rfl,rfl,q⟩:=h;obtain ⟨t,rfl⟩:=L;obtain ⟨t',rfl⟩:=J;exact notIn_str (aU I q rfl)
def fb.or {f:dO->dO->Sem dO} {r L:R2} (h:fb X f r) (h':fb X f L):fb X f (fun x y H Q=>r x y H Q\/L x y H Q):=by
 intro af s Z H x y v u Q I Y J q;rcases q with q|q
 .exact h af s Z H x y v u Q I Y J q
 .exact h' af s Z H x y v u Q I Y J q
def aN (b:W3) {op:CmpOp} (h:op≠.In:=by decide) (h2:op≠.NotIn:=by decide):Yu op b=false:=by
 have I:(op==CmpOp.In)=false:=by cases op <;> first|rfl|exact absurd rfl h
 have J:(op==CmpOp.NotIn)=false:=by cases op <;> first|rfl|exact absurd rfl h2
 cases b <;> simp [Yu,I,J]
def HY {op:CmpOp} {r:R2} (ho:fb X (WR op) r) (L:PE X a ta) (Y:PE X b tb) (hm:Yu op b=false):PE X (.Compare a [op] [b] pos) (A7 r ta tb):=by
 intro af s Z H Q I h;exact wpAny_Compare1 (Ng L Y I h fun v u s2 x y H2 I2 rx J q=>ho af s2 Z H2 x y v u Q I2 rx J q) hm
def T9 (K:aT) (x:V) (H:Hp) (k:Bool):Prop :=
 match x with
 | .non=>k=false
 | .bl b=>k=b
 | .int i=>k=(i != 0)
 | .str y=>y.length<=Wp/\k=((y.length:Int) != 0)
 | .byt y=>y.size<=Wp/\k=((y.size:Int) != 0)
 | .ref p=>(∃ xs,gp K H p xs/\k=!xs.isEmpty)\/(∃ xs,j3 K H p xs/\k=!xs.isEmpty)\/∃ kvs,H p=some (.dK kvs)/\k=!kvs.isEmpty
 | _=>False
def AX {κ:Type} {kvs:List (κ×V)} {vs:List (κ×dO)} (r:KV kvs vs):(!vs.isEmpty)=!kvs.isEmpty:=by
 cases r <;> rfl
def uE {xs:acN} {its:acM} (r:bf xs its):(!its.toArray.isEmpty)=!xs.isEmpty:=by
 cases r <;> simp
def rY:(Wp:Nat) < 2 ^ 63:=by rw [W0];decide
def Nz:TX X (fun x H Q=>∃ k,T9 X.K x H k/\Q k H):=by
 intro af s Z H x v Q I Y h;obtain ⟨k,e,q⟩:=h;have hl:=rY;have hs:Wp=16777216:=W0;cases x with
 | non =>
  cases Y;have J:k=false:=e;subst J;exact truthy_none ⟨H,I,q⟩
 | bl b =>
  cases Y;have J:k=b:=e;subst J;exact Zt ⟨H,I,q⟩
 | int i =>
  obtain ⟨t,rfl⟩:=Y;have J:k=(i != 0):=e;subst J;exact PySem.P.truthy_int ⟨H,I,q⟩
 | str y =>
  obtain ⟨t,rfl⟩:=Y;obtain ⟨hy,J⟩:y.length<=Wp/\k=((y.length:Int) != 0):=e;subst J;exact PySem.P.truthy_str (by omega) ⟨H,I.tok _,q⟩
 | byt y =>
  obtain ⟨t,rfl⟩:=Y;obtain ⟨hy,J⟩:y.size<=Wp/\k=((y.size:Int) != 0):=e;subst J;exact PySem.W.truthy_bytes (by omega) ⟨H,I.tok _,q⟩
 | ref p =>
  cases Y;have J:(∃ xs,gp X.K H p xs/\k=!xs.isEmpty)\/(∃ xs,j3 X.K H p xs/\k=!xs.isEmpty)\/∃ kvs,H p=some (.dK kvs)/\k=!kvs.isEmpty:=e;rcases J with ⟨xs,hx,J⟩|⟨xs,hx,J⟩|⟨kvs,hx,J⟩
  .subst J;obtain ⟨its,r,pl,hz⟩:=I.list hx;have L:=r.length;exact wpAny_truthy_list pl.isList (by simp only [By];omega) ⟨H,I.tok _,by rw [uE r];exact q⟩
  .subst J;obtain ⟨its,r,pl,hz⟩:=I.tuple hx;have L:=r.length;exact truthy_tuple pl (by simp only [By];omega) ⟨H,I.tok _,by rw [uE r];exact q⟩
  .subst J;obtain ⟨hz,hS,vs,r,m⟩:kvs.length<=Wp/\(p==Yo)=false/\∃ vs,KV kvs vs/\s.heap.DictOf (b6 X.prog X.w) p vs:=I.hok p _ hx;have L:kvs.length=vs.length:=aaE r;exact wpAny_truthy_dict hS m (by omega) ⟨H,I.tok _,by rw [AX r];exact q⟩
 | _=>exact (show False from e).elim
def BD:fb X (X9 .Add) (fun x y H Q=>∃ i j,x=.str i/\y=.str j/\i.length+j.length<=Wp/\Q (.str (i++j)) H):=by
 intro af s Z H x y v u Q I Y J h;obtain ⟨i,j,rfl,rfl,hz,q⟩:=h;obtain ⟨t,rfl⟩:=Y;obtain ⟨t',rfl⟩:=J;exact bo I.tk (add_str (fun t' tk L=>⟨.str (i++j),H,I.tok _,⟨_,rfl⟩,q⟩) hz)
def jA {x:V} {us:acM} (r:bf [x] us):∃ u,us=[u]/\bg x u:=by
 cases r with
 | cons J I=>cases I;exact ⟨_,rfl,J⟩
def Ku {x y:V} {us:acM} (r:bf [x,y] us):∃ u w',us=[u,w']/\bg x u/\bg y w':=by
 cases r with
 | cons L J =>
  cases J with
  | cons I Y=>cases Y;exact ⟨_,_,rfl,L,I⟩
def EH:cj X (.type "int") (fun xs H Q=>(∃ i,xs=[.int i]/\Q (.int i) H)\/∃ k,xs=[.bl k]/\Q (.int (if k then 1 else 0)) H):=by
 intro af s Z H xs us Q I r h;rcases h with ⟨i,rfl,q⟩|⟨k,rfl,q⟩
 .obtain ⟨u,rfl,t,rfl⟩:=jA r;exact call_int_int ⟨.int i,H,I,⟨_,rfl⟩,q⟩
 .obtain ⟨u,rfl,J⟩:=jA r;cases J;exact call_int_bool ⟨.int (if k then 1 else 0),H,I.tok _,⟨_,rfl⟩,q⟩
end
structure ObjM (h:Yy) (x dx C:ID) (mA:acK):Prop where
 obj:h.get? x=some (Ye C dx)
 ns:h.Ns1 dx mA
 ne:dx≠x
def DJ {h:Yy} {dx:ID} {mA:acK} (n:h.Ns1 dx mA):∃ od,h.get? dx=some od/\∀ name,abw name od=some (mA name):=by
 obtain ⟨o,es,ep,J,hd,Y,_,L⟩:=n;refine ⟨o,J,fun name=>?_⟩;have e:=L name;unfold nsFind findBy at e;rw [<- Array.find?_toList] at e;unfold abw;rw [hd];dsimp only;split
 .rename_i y q;rw [q] at e;exact acF some e
 .rename_i q;rw [q] at e;have a:es.toList.any (·.refKey)=false:=by
   rw [abU];intro y hy;obtain ⟨z,t,I⟩:=Y y (Array.mem_toList_iff.mp hy);simp [DictEntry.refKey,I]
  have a':¬ es.toList.any (·.refKey)=true:=by rw [a];exact iF
  rw [acB a'];exact acF some e
def ObjM.look {h:Yy} {x dx C:ID} {mA:acK} (I:ObjM h x dx C mA):∃ od,PySem.W.InstAt h x (Ye C dx) C (some od)/\∀ name,abw name od=some (mA name) :=
 let ⟨od,ho,hl⟩:=DJ I.ns
 ⟨od,⟨I.obj,rfl,rfl,ho⟩,hl⟩
section
variable {prog:Ww} {w:WU} {A:WN} {E:acJ} {s:gs} {K:aT} {x dx C f:ID} {mA:acK} {name:Str} {v:dO}
def get_map {L:Bool} {Q:acJ} (X:K.In s.heap) (I:ObjM s.heap x dx C mA) (hg:aaS K C name=true) (hh:aao K C=true)
  (ha:Xx K (.ref C) name=some none) (hv:mA name=some v) (Y:acb v=true) (h:Q v { s with toks:=s.toks+1 }) :
  Wv (Wx prog w) A (getAttr (.ref x) name L) Q E s:=by
 obtain ⟨od,J,hl⟩:=I.look;exact PySem.W.get_value X J (PySem.W.plainGet_of hg).1 (PySem.W.findObj_own hh ha rfl (by rw [hl,hv])) Y h
def Kc {ns:acH} {Q:Unit->gs->Prop} (X:K.In s.heap) (I:ObjM s.heap x dx C mA)
  (hs:Xx K (.ref C) "__setattr__"=some (some (.builtin "object.__setattr__"))) (hp:abV K C=true) (ht:aa6 K C name=some none) (hh:aao K C=true)
  (hw:ab5 mA ns) (hsz:ns.length<=Wp)
  (h:∀ h',ObjM h' x dx C (fun y=>if y=name then some v else mA y)->ZA dx s.heap h'->Q () { s with heap:=h',toks:=s.toks+2 }) :
  Wv (Wx prog w) A (setAttr (.ref x) name v) Q E s:=by
 obtain ⟨od,J,hl⟩:=I.look;refine PySem.W.set_plain X J hs (PySem.W.osa_open (s:={ s with toks:=s.toks+1 }) (r:=none) X J hp ht fun b=>?_);obtain ⟨cd,hc,hd'⟩:=PySem.W.any_some hh;have hx:s.heap.get? x=some ⟨.ref C,some dx,.plain,#[]⟩:=I.obj;refine bY (CT (bY (bY (wpAny_loadPart hx (bY (PySem.W.Looks.here (s:={ s with toks:=s.toks+1 }) (PySem.W.looks_clsIn X hc) ?_))))));rw [hd'];refine CT (a:=some dx) (bY (CT (bY ?_)));refine wpAny_nsSet1 (s:={ s with toks:=s.toks+1 }) I.ns fun h' Y L=>?_;obtain ⟨oD,esD,epD,hoD,hdD,hcD⟩:=Y.count (PySem.Within.cons name v hw);refine bY (wpAny_lookBehind hoD (by rw [hdD];exact pastItsLine_dict (IF hcD (by rw [RW];omega))) ?_);exact CT (h _ ⟨(L.2 _ (aac I.ne)).trans I.obj,Y,I.ne⟩ L)
def FD {R:Result->gs->Prop} {vs:acM} {kw:List (Str×dO)} (X:K.In s.heap) (I:ack K C=true)
  (hi:Xx K (.ref C) "__init__"=some (some (.ref f))) (hf:PySem.W.typeIn K (.ref f)=some (.type "function"))
  (h:aai (Wx prog w) (A.under (.builtin "type.__call__" ⟨.ref C::vs,kw⟩)) (.call (.ref f) ⟨.ref (s.heap.objs.size+1)::vs,kw⟩) (PySem.W.InitBack (s.heap.objs.size+1) R)
   { s with heap:=(s.heap.push XD).push (Ye C s.heap.objs.size) }) :
  aai (Wx prog w) A (.call (.ref C) ⟨vs,kw⟩) R s:=by
 obtain ⟨J,g,d,t,os⟩:=s;exact PySem.W.make_core (PySem.W.makes_of X I) (PySem.W.looks_findIn X hi) (fun self=>PySem.W.bind_fn X self hf) (.inl rfl) h
end
def oV (f:Str) (v:V):List (Str×V)->List (Str×V)
 | []=>[(f,v)]
 | (g,x)::r=>if g=f then (g,v)::r else (g,x)::oV f v r
def sQ (f g:Str) (v:V):∀ fs:List (Str×V),(oV f v fs).lookup g=if g=f then some v else fs.lookup g
 | []=>by
  show Yf g [(f,v)]=_;by_cases h:g=f
  .have hb:(g==f)=true:=beq_iff_eq.mpr h;simp only [Yf,hb,acA h]
  .have hb:(g==f)=false:=beq_eq_false_iff_ne.mpr h;simp only [Yf,hb,acB h]
 | (k,x)::r=>by
  have J:=sQ f g v r;rw [show oV f v ((k,x)::r)=(if k=f then (k,v)::r else (k,x)::oV f v r) from rfl];by_cases I:k=f
  .rw [acA I];by_cases h:g=k
   .have hb:(g==k)=true:=beq_iff_eq.mpr h;simp only [Yf,hb,acA (h.trans I)]
   .have hb:(g==k)=false:=beq_eq_false_iff_ne.mpr h;simp only [Yf,hb,acB (fun e:g=f=>h (e.trans I.symm))]
  .rw [acB I];by_cases h:g=k
   .have hb:(g==k)=true:=beq_iff_eq.mpr h;simp only [Yf,hb,acB (fun e:g=f=>I (h.symm.trans e))]
   .have hb:(g==k)=false:=beq_eq_false_iff_ne.mpr h;simp only [Yf,hb];exact J
def rf (f:Str) (v:V):∀ fs:List (Str×V),f∈(oV f v fs).map (·.1)/\∀ g,g∈fs.map (·.1)->g∈(oV f v fs).map (·.1)
 | []=>⟨by simp [oV],fun g h=>by simp at h⟩
 | (k,x)::r=>by
  obtain ⟨L,J⟩:=rf f v r;rw [show oV f v ((k,x)::r)=(if k=f then (k,v)::r else (k,x)::oV f v r) from rfl];by_cases I:k=f
  .rw [acA I];subst I;exact ⟨by simp,fun g h=>by simpa using h⟩
  .rw [acB I];refine ⟨?_,fun g h=>?_⟩
   .rw [lE];exact iN _ L
   .rw [lE] at h ⊢;rcases rW.mp h with e|e
    .exact rW.mpr (.inl e)
    .exact iN _ (J g e)
def sF (f:Str) (v:V):∀ fs:List (Str×V),(oV f v fs).length<=fs.length+1
 | []=>by simp [oV]
 | (k,x)::r=>by
  have J:=sF f v r;rw [show oV f v ((k,x)::r)=(if k=f then (k,v)::r else (k,x)::oV f v r) from rfl];by_cases I:k=f
  .rw [acA I,RW,RW];omega
  .rw [acB I,RW,RW];omega
def oS.some_of {v:V} {o:Option dO} (r:oS (some v) o):∃ u,o=some u/\bg v u:=by
 cases o with
 | none=>exact (show False from r).elim
 | some u=>exact ⟨u,rfl,r⟩
def oS.none_of {o:Option dO} (r:oS none o):o=none:=by
 cases o with
 | none=>rfl
 | some u=>exact (show False from r).elim
def D7 {v:V} {u:dO} (r:bg v u):acb u=true:=by
 cases v with
 | non=>cases (show u=Xm from r);rfl
 | bl b=>cases (show u=abm b from r);rfl
 | int i=>obtain ⟨t,e⟩:=(show ∃ t,u=aam i t from r);cases e;rfl
 | str x=>obtain ⟨t,e⟩:=(show ∃ t,u=aa5 x t from r);cases e;rfl
 | byt b=>obtain ⟨t,e⟩:=(show ∃ t,u=Value.bytes b t from r);cases e;rfl
 | flt b=>obtain ⟨t,e⟩:=(show ∃ t,u=acj b t from r);cases e;rfl
 | ref a=>cases (show u=WW a from r);rfl
 | ty n=>cases (show u=ZN n from r);rfl
section
variable {P:Ww} {w:WU} {H H':Hp} {h h':Yy} {a C dx:ID} {fs fs':List (Str×V)}
def yo (I:pY P w H h) (e:H a=some (.ins C dx fs)):∃ mA,ObjM h a dx C mA/\(∀ f,oS (fs.lookup f) (mA f))/\ab5 mA (fs.map (·.1))/\fs.length<=1000/\H dx=some (.own a):=by
 obtain ⟨d,z,ne,J,mA,n,r,q⟩:=(show bX P w H h a (.ins C dx fs) from I a _ e);exact ⟨mA,⟨J,n,ne⟩,r,q,z,d⟩
end
structure Cls (K:aT) (C:ID):Prop where
 pg:aaS K C Str.empty=true
 hd:aao K C=true
 po:abV K C=true
 sa:Xx K (.ref C) "__setattr__"=some (some (.builtin "object.__setattr__"))
def Cls.get {K:aT} {C:ID} (c:Cls K C) (f:Str):aaS K C f=true:=c.pg
def gz (K:aT) (C:ID) (f:Str):Prop:=Xx K (.ref C) f=some none
def gz.taker {K:aT} {C:ID} {f:Str} (n:gz K C f):aa6 K C f=some none:=by
 unfold aa6;rw [show Xx K (.ref C) f=some none from n];rfl
section
variable {X:Cx} {af:acI} {Z:St} {H:Hp} {s:gs} {a C dx:ID} {fs:List (Str×V)} {f:Str} {v:V} {A:WN} {E:acJ}
def A0 {b:Bool} {Q:acJ} (I:Inv X af Z H s) (e:H a=some (.ins C dx fs)) (c:Cls X.K C) (n:gz X.K C f) (l:fs.lookup f=some v)
  (h:∀ u s',Inv X af Z H s'->bg v u->Q u s'):Wv (Wx X.prog X.w) A (getAttr (.ref a) f b) Q E s:=by
 obtain ⟨mA,O,r,_,_,_⟩:=yo I.hok e;obtain ⟨u,L,J⟩:=oS.some_of (v:=v) (o:=mA f) (by rw [<- l];exact r f);exact get_map I.kIn O (c.get f) c.hd n L (D7 J) (h u _ (I.tok _) J)
def AA {y:V} {u:dO} {Q:Unit->gs->Prop} (I:Inv X af Z H s) (e:H a=some (.ins C dx fs)) (c:Cls X.K C) (n:gz X.K C f) (hl:fs.length < 1000) (L:bg y u)
  (h:∀ s',Inv X af Z (upd H a (.ins C dx (oV f y fs))) s'->Q () s'):Wv (Wx X.prog X.w) A (setAttr (.ref a) f u) Q E s:=by
 obtain ⟨mA,O,r,wi,_,J⟩:=yo I.hok e;have hz:(fs.map (·.1)).length<=Wp:=by rw [eQ,W0];omega
 refine Kc I.kIn O c.sa c.po n.taker c.hd wi hz fun h' O' sb=>h _ ?_;have hd:∃ o,h'.get? dx=some o:=let ⟨o,_,_,e',_⟩:=O'.ns;⟨o,e'⟩;refine I.write (x:=a) (e:=dx) (by rw [e];exact XQ) (.inr J) (fun b q Y z=>(sb.2 b Y).trans z) hd ?_;refine ⟨by rw [aP O.ne];exact J,?_,O.ne,O'.obj,_,O'.ns,fun g=>?_,fun g hg=>?_⟩
 .have:=sF f y fs;omega
 .show oS ((oV f y fs).lookup g) (if g=f then some u else mA g);rw [sQ];by_cases q:g=f
  .rw [acA q,acA q];exact L
  .rw [acB q,acB q];exact r g
 .by_cases q:g=f
  .rw [q];exact (rf f y fs).1
  .refine (rf f y fs).2 g (wi g fun z=>hg ?_);show (if g=f then some u else mA g)=none;rw [acB q];exact z
def Inv.made (I:Inv X af Z H s):Inv X af Z (upd (upd H s.heap.objs.size (.own (s.heap.objs.size+1))) (s.heap.objs.size+1) (.ins C s.heap.objs.size []))
  { s with heap:=(s.heap.push XD).push (Ye C s.heap.objs.size) }:=by
 have J:(s.heap.push XD).get? s.heap.objs.size=some XD:=Wr s.heap rfl;have e2:((s.heap.push XD).push (Ye C s.heap.objs.size)).get? (s.heap.objs.size+1)=some (Ye C s.heap.objs.size):=by
  have:=Wr (s.heap.push XD) (o:=Ye C s.heap.objs.size) rfl
  rwa [aad] at this
 have L:(s.heap.push XD).Ns s.heap.objs.size (fun _=>none):=⟨XD,#[],_,J,rfl,(fun e Y=>absurd Y (by simp)),fun _=>rfl⟩;have I1:=I.laid (a:=s.heap.objs.size) (o:=.own (s.heap.objs.size+1)) (h':=s.heap.push XD) (t':=s.toks) (fun b u q=>lT _ q) (mK _) ⟨_,J⟩;refine I1.laid (a:=s.heap.objs.size+1) (o:=.ins C s.heap.objs.size []) (t':=s.toks) (fun b u q=>lT _ q) (Z7 (aad _ _)) ?_;have ne:s.heap.objs.size≠s.heap.objs.size+1:=WK (aaT _);refine ⟨by rw [aP ne,aS],WB _,ne,e2,fun _=>none,(Heap.Ns1.of_empty L).at fun o q=>lT _ q,fun _=>XQ,fun y hy=>absurd rfl hy⟩
def Im {prog:Ww} {w:WU} {env:Env} {e:W3} {f:Str} {pos:Pos} {s:gs} {Q:acJ} (J:Xa e f env (eval e env)=eval e env)
  (h:Wv (Wx prog w) A (eval e env) (fun o I=>Wv (Wx prog w) A (getAttr o f true) Q E I) E s):Wv (Wx prog w) A (eval (.Attribute e f pos) env) Q E s :=
 Attribute_any_ h (by rw [arm_eval_Attribute,J])
end
def Ux (K:aT) (ta:TE) (f:Str):TE:=fun Z H Q=>ta Z H fun x H1=>∃ a C dx fs v,x=.ref a/\H1 a=some (.ins C dx fs)/\Cls K C/\gz K C f/\fs.lookup f=some v/\Q v H1
def UT (K:aT) (ta tv:TE) (f:Str):TS:=fun D Z H=>tv Z H fun y H1=>ta Z H1 fun x H2=>∃ a C dx fs,x=.ref a/\H2 a=some (.ins C dx fs)/\Cls K C/\gz K C f/\fs.length < 1000 /\
 D.nx Z (upd H2 a (.ins C dx (oV f y fs)))
section
variable {X:Cx} {o e value:W3} {f:Str} {pos pos' tpos:Pos} {ta tv:TE}
def NV (J:PE X e ta) (hb:Xa e f X.env (eval e X.env)=eval e X.env):PE X (.Attribute e f pos) (Ux X.K ta f):=by
 intro af s Z H Q I h;refine Im hb (cU (J af s Z H _ I h) fun u s1 ⟨x,H1,I1,rx,a,C,dx,fs,v,ex,ea,c,n,l,q⟩=>?_);subst ex;obtain rfl:u=WW a:=rx;exact A0 I1 ea c n l fun u' s2 L Y=>⟨v,H1,L,Y,q⟩
def Bi (L:PE X o ta) (J:PE X value tv) (hs:YL value (some (.Attribute o f pos')) pos.line X.env=pure false):PS X (.Assign [.Attribute o f pos'] value pos) (UT X.K ta tv f):=by
 intro af s Z H D I h;refine plainObj_wpAny_Assign_Attribute (cU (J af s Z H _ I h) fun u s1 ⟨y,H1,I1,ry,q⟩=>cU (L af s1 Z H1 _ I1 q) fun ov s2 ⟨x,H2,I2,rx,a,C,dx,fs,ex,ea,c,n,l,q2⟩=>?_) hs;subst ex;obtain rfl:ov=WW a:=rx;exact AA I2 ea c n l ry fun s3 Y=>⟨Z,_,Y,q2⟩
end
section
variable {X:Cx} {af:acI} {Z:St} {H:Hp} {s:gs} {A:WN} {E:acJ} {Q:acJ} {c:dO} {b:Bool}
inductive TyOf (K:aT) (H:Hp):V->dO->Prop where
 | non:TyOf K H .non (.type "NoneType")
 | bl (x:Bool):TyOf K H (.bl x) (.type "bool")
 | int (i:Int):TyOf K H (.int i) (.type "int")
 | str (x:Str):TyOf K H (.str x) (.type "str")
 | flt (x:UInt64):TyOf K H (.flt x) (.type "float")
 | lst {a:ID} {xs:acN} (e:H a=some (.lst xs)):TyOf K H (.ref a) (.type "list")
 | frz {a:ID} {o:Obj} {xs:acN} (e:H a=some (.frz o (.lst xs))):TyOf K H (.ref a) (.type "list")
 | tup {a:ID} {xs:acN} (e:H a=some (.tup xs)):TyOf K H (.ref a) (.type "tuple")
 | dK {a:ID} {kvs:List (bD×V)} (e:H a=some (.dK kvs)):TyOf K H (.ref a) (.type "dict")
 | dT {a:ID} {kvs:List (List bD×V)} (e:H a=some (.dT kvs)):TyOf K H (.ref a) (.type "dict")
 | ins {a C dx:ID} {fs:List (Str×V)} (e:H a=some (.ins C dx fs)) (cl:Cls K C) (ha:Xx K (.ref C) "__class__"=some (some (.builtin "object.__class__")))
   (hn:abW K (.builtin "object.__class__") "__get__"=some (some (.builtin "getset_descriptor.__get__"))) (htk:acm K (.builtin "object.__class__")=some true)
   (hm:PySem.W.mroIn K C (.type "object")=some true):TyOf K H (.ref a) (.ref C)
def jk {x:V} {u t:dO} (I:Inv X af Z H s) (L:bg x u) (ty:TyOf X.K H x t) (e:abx X.K t c=some b) (h:∀ tk,Q (.bool b) { s with toks:=tk }) :
  Wv (Wx X.prog X.w) A (call (.builtin "isinstance") [u,c]) Q E s:=by
 cases ty with
 | non=>cases (show u=Xm from L);exact Xc PySem.W.kitx_none I.kIn XQ e (fun z=>nomatch z) h
 | bl y=>cases (show u=abm y from L);exact Xc PySem.W.kitx_bool I.kIn XQ e (fun z=>nomatch z) h
 | int i=>obtain ⟨t,q⟩:=(show ∃ t,u=aam i t from L);cases q;exact Xc PySem.W.kitx_int I.kIn XQ e (fun z=>nomatch z) h
 | str y=>obtain ⟨t,q⟩:=(show ∃ t,u=aa5 y t from L);cases q;exact Xc PySem.W.kitx_str I.kIn XQ e (fun z=>nomatch z) h
 | flt y=>obtain ⟨t,q⟩:=(show ∃ t,u=acj y t from L);cases q;exact Xc PySem.W.kitx_float I.kIn XQ e (fun z=>nomatch z) h
 | @lst a xs ea =>
  cases (show u=WW a from L);obtain ⟨_,_,n,_,h1⟩:=(show bX X.prog X.w H s.heap a (.lst xs) from I.hok a _ ea);exact Xc aap I.kIn ⟨_,h1,rfl⟩ e (fun z=>nomatch z) h
 | @frz a ob xs ea =>
  cases (show u=WW a from L);obtain ⟨_,_,_,n,_,h1⟩:=(show bX X.prog X.w H s.heap a (.frz ob (.lst xs)) from I.hok a _ ea);exact Xc aap I.kIn ⟨_,h1,rfl⟩ e (fun z=>nomatch z) h
 | @tup a xs ea =>
  cases (show u=WW a from L);obtain ⟨_,_,_,p⟩:=(show bX X.prog X.w H s.heap a (.tup xs) from I.hok a _ ea);obtain ⟨o,h1,h2,_⟩:=p;exact Xc abK I.kIn ⟨o,h1,h2⟩ e (fun z=>nomatch z) h
 | @dK a kvs ea =>
  cases (show u=WW a from L);obtain ⟨_,_,vs,_,p⟩:=(show bX X.prog X.w H s.heap a (.dK kvs) from I.hok a _ ea);obtain ⟨o,es,ep,h1,h2,_⟩:=p;exact Xc aaq I.kIn ⟨o,h1,h2.1⟩ e (fun z=>nomatch z) h
 | @dT a kvs ea =>
  cases (show u=WW a from L);obtain ⟨_,_,xs,_,o,es,ep,h1,h2,_⟩:=(show bX X.prog X.w H s.heap a (.dT kvs) from I.hok a _ ea);exact Xc aaq I.kIn ⟨o,h1,h2.1⟩ e (fun z=>nomatch z) h
 | @ins a C dx fs ea cl ha hn htk hm =>
  cases (show u=WW a from L);obtain ⟨mA,O,_⟩:=yo I.hok ea;obtain ⟨od,J,_⟩:=O.look;exact Xc (PySem.W.kitx_own (cl.get _) cl.hd ha hn htk hm) I.kIn J e (fun z=>nomatch z) h
end
structure Room (k:Nat) (A:WN):Prop where
 hd:A.handled=none
 dp:A.depth+3*k+5 < recursionLimit
 un:A.units+16*k+200 < Zu
def Room.mono {j k:Nat} {A:WN} (r:Room k A) (h:j<=k):Room j A:=⟨r.hd,by have:=r.dp;omega,by have:=r.un;omega⟩
def Room.deeper {k:Nat} {A:WN} (r:Room (k+1) A) (env:Env):Room k (A.deeper env) :=
 ⟨r.hd,by have:=r.dp;show A.depth+1+3*k+5 < _;omega,by have:=r.un;show A.units+3+16*k+200 < _;omega⟩
def Bq {A:WN} {C:ID} {us:acM} {kw:List (Str×dO)}:(A.under (.builtin "type.__call__" ⟨.ref C::us,kw⟩)).depth=A.depth+1:=by
 first|rfl|simp [ab7,Code.weight,Code.isCreation,Code.isGuard,Code.isCaller,Code.frames,ab8,guardIds]
def AW {A:WN} {C:ID} {us:acM} {kw:List (Str×dO)}:(A.under (.builtin "type.__call__" ⟨.ref C::us,kw⟩)).units=A.units+1:=by
 first|rfl|simp [ab7,Code.cUnits,Code.frames,ab8]
def Room.make {k:Nat} {A:WN} (r:Room (k+1) A) (C:ID) (us:acM) (kw:List (Str×dO)):Room k (A.under (.builtin "type.__call__" ⟨.ref C::us,kw⟩)) :=
 ⟨r.hd,by have:=r.dp;rw [Bq];omega,by have:=r.un;rw [AW];omega⟩
def Room.depth {k:Nat} {A:WN} (r:Room k A):A.depth < recursionLimit:=by have:=r.dp;omega
def Room.units {k:Nat} {A:WN} (r:Room k A):A.units+64 < Zu:=by have:=r.un;omega
def DU:TA:=fun _ H Q=>Q [] H
def wG (ta:TE) (tr:TA):TA:=fun Z H Q=>ta Z H fun x H1=>tr Z H1 fun xs H2=>Q (x::xs) H2
section
variable {X:Cx} {e:W3} {es:List W3} {te:TE} {t:TA} {pos:Pos}
def Nr:PA X [] DU:=fun _ _ _ _ H Q I h=>abX ⟨[],H,I,.nil,h⟩
def Ka (Y:PE X e te) (hr:PA X es t) (hs:WT (e::es) X.env=(false,eval e X.env)::WT es X.env:=by rfl):PA X (e::es) (wG te t):=by
 intro pos af s Z H Q I h;rw [hs];show Wv _ _ (spliced ((false,eval e X.env)::Y9 pos (WT es X.env))) _ _ s;refine abL (cU (Y af s Z H _ I h) fun u s1 J=>nY J fun x H1 I1 r1 q1=>?_);exact cU (hr pos af s1 Z H1 _ I1 q1) fun us s2 J=>nY J fun xs H2 I2 r2 L=>⟨x::xs,H2,I2,.cons r1 r2,L⟩
def Pr (t:TA):TE:=fun Z H Q=>t Z H fun xs H1=>xs.length<=Wp/\∀ p,H1 p=none->Q (.ref p) (upd H1 p (.tup xs))
def Rx (t:TA):TE:=fun Z H Q=>t Z H fun xs H1=>xs.length<=Wp/\∀ p,H1 p=none->Q (.ref p) (upd H1 p (.lst xs))
def Ms {x1} (h:PA X es t):PE X (.Tuple es x1 pos) (Pr t):=by
 intro af s Z H Q I J;refine wpAny_Tuple_spliced (cU (h pos af s Z H _ I J) fun us s1 ⟨xs,H1,I1,r,z,q⟩=>⟨by rw [<- r.length];exact z,?_⟩);have hf:H1 s1.heap.objs.size=none:=I1.hok.fresh (mK _);refine ⟨.ref s1.heap.objs.size,upd H1 s1.heap.objs.size (.tup xs),I1.laid (t':=s1.toks) (fun b u e=>lT _ e) (mK _) ?_,rfl,q _ hf⟩;exact ⟨z,us,r,⟨_,Wr _ rfl,rfl,_,rfl⟩⟩
def Lw (h:PA X es t):PE X (.List es pos) (Rx t):=by
 intro af s Z H Q I J;refine wpAny_List_spliced (cU (h pos af s Z H _ I J) fun us s1 ⟨xs,H1,I1,r,z,q⟩=>⟨by rw [<- r.length];exact z,?_⟩);have hf:H1 s1.heap.objs.size=none:=I1.hok.fresh (mK _);refine ⟨.ref s1.heap.objs.size,upd H1 s1.heap.objs.size (.lst xs),I1.laid (t':=s1.toks) (fun b u e=>lT _ e) (mK _) ?_,rfl,q _ hf⟩;exact ⟨z,us,0,r,Wr _ rfl⟩
end
abbrev Sp:=acN->Hp->VK->XK->Prop
abbrev EV:=List Env->Hp->gs->XK->dO->gs->Prop
structure Env0 (P:Ww) (w:WU) (K:aT) (mg:acK) (base:Yy) (A:WN) (outer:List Env) (s:gs) (H:Hp):Prop where
 frames:A.frames=some outer
 mod:Mod K mg base
 bs:∀ b o,base.get? b=some o->s.heap.get? b=some o/\H b=none
 bsz:base.objs.size<=s.heap.objs.size
 funs:s.heap.FunFrames base outer
 frf:∀ b∈EU outer,H b=none
 hok:pY P w H s.heap
 bare:AllBare s.gens
def CE (I:List Env) (P:Ww) (w:WU) (H:Hp) (s:gs) (Q:VK) (u:dO) (s':gs):Prop :=
 ∃ v H',s'.os=s.os/\AllBare s'.gens/\Un (EU I) [] H H' s.heap s'.heap/\pY P w H' s'.heap/\bg v u/\Q v H'
def CR (CX:EV) (I:List Env) (P:Ww) (w:WU) (H:Hp) (s:gs) (Q:VK) (E:XK) (r:Result) (s':gs):Prop :=
 match r with
 | .ok (.ret u)=>CE I P w H s Q u s'
 | .ok _=>False
 | .error e=>CX I H s E e s'
structure FnOk (P:Ww) (w:WU) (K:aT) (mg:acK) (base:Yy) (CX:EV) (k:Nat) (f:ID) (fd:W2) (ps:acH) (sp:Sp):Prop where
 len:∀ vs H Q E,sp vs H Q E->vs.length=ps.length
 run:∀ (A:WN) (outer:List Env) (s:gs) (H:Hp) (args:Args) (us:acM) (vs:acN) (Q:VK) (E:XK),Room k A->Env0 P w K mg base A outer s H->BindsTo s fd args (ps.zip us)->bf vs us->sp vs H Q E ->
  aai (Wx P w) A (.call (.ref f) args) (CR CX outer P w H s Q E) s
def FnOk.imp {P:Ww} {w:WU} {K:aT} {mg:acK} {base:Yy} {CX:EV} {k:Nat} {f:ID} {fd:W2} {ps:acH} {sp J:Sp} (F:FnOk P w K mg base CX k f fd ps sp)
  (h:∀ vs H Q E,J vs H Q E->sp vs H Q E):FnOk P w K mg base CX k f fd ps J :=
 ⟨fun vs H Q E q=>F.len vs H Q E (h _ _ _ _ q),fun A I s H L us vs Q E hr he hb Y hs=>F.run A I s H L us vs Q E hr he hb Y (h _ _ _ _ hs)⟩
def Env0.make {P:Ww} {w:WU} {K:aT} {mg:acK} {base:Yy} {A:WN} {I:List Env} {s:gs} {H:Hp} (e:Env0 P w K mg base A I s H) (C:ID) (us:acM) (kw:List (Str×dO)) :
  Env0 P w K mg base (A.under (.builtin "type.__call__" ⟨.ref C::us,kw⟩)) I s H:=⟨by first|exact e.frames|(simpa [ab7,Code.envs,ab8,pushEnvs] using e.frames),e.mod,e.bs,e.bsz,e.funs,e.frf,e.hok,e.bare⟩
def Env0.in1 {P:Ww} {w:WU} {K:aT} {mg:acK} {base:Yy} {A:WN} {I:List Env} {s:gs} {H:Hp} (e:Env0 P w K mg base A I s H) :
  Env0 P w K mg base A.in1 I s H:=⟨e.frames,e.mod,e.bs,e.bsz,e.funs,e.frf,e.hok,e.bare⟩
section
variable {X:Cx} {af:acI} {Z:St} {H:Hp} {s s':gs}
def Inv.env0 (I:Inv X af Z H s):Env0 X.prog X.w X.K X.mg X.base X.A X.stack s H :=
 ⟨I.ok.frames,I.ok.mod,I.bs,IF I.ok.bsz I.sz,I.stack,I.stkFree,I.hok,I.bare⟩
def Inv.after {Q:VK} {u:dO} (I:Inv X af Z H s) (h:CE X.stack X.prog X.w H s Q u s') (ht:X.tn<=s'.toks:=by walk_at "tok"):EP X af Z Q u s':=by
 obtain ⟨v,H',os,J,un,L,r,q⟩:=h;obtain ⟨hh,g,d,t,Y⟩:=s';obtain rfl:Y=s.os:=os;exact ⟨v,H',I.call (h':=hh) (g':=g) (d':=d) (t':=t) (ch:=[]) un L J (fun b z=>absurd z (by simp)),r,q⟩
end
def PM (sp:Sp) (dvs:acN) (E:XK) (t:TA):TE:=fun Z H Q=>t Z H fun vs H1=>sp (vs++dvs) H1 Q E
def Oy (C:ID) (sp:Sp) (dvs:acN) (E:XK) (t:TA):TE:=fun Z H Q=>t Z H fun vs H1=>∀ x dx,H1 x=none->H1 dx=none->dx≠x ->
 sp (.ref x::(vs++dvs)) (upd (upd H1 dx (.own x)) x (.ins C dx [])) (fun v H2=>v=.non/\Q (.ref x) H2) E
def kq (K:aT) (fd:W2) (ps:acH) (ds:acM):Prop :=
 ∀ (s:gs) (us:acM),K.In s.heap->(us++ds).length=ps.length->BindsTo s fd ⟨us,[]⟩ (ps.zip (us++ds))
def kq.all {K:aT} {fd:W2} {ps:acH} (h:∀ us:acM,us.length=ps.length->bindArgs fd ⟨us,[]⟩=pure (ps.zip us)):kq K fd ps []:=fun s us _ I=>by
 rw [Xn] at I ⊢;exact .of_eq (h us I)
def u8 (CX:EV) (X:Cx) (E:XK):Prop:=∀ (af:acI) (Z:St) (H:Hp) (s:gs) (e:dO) (s':gs),Inv X af Z H s->CX X.stack H s E e s'->X.xe e s'
section
variable {X:Cx} {CX:EV} {k:Nat} {f C:ID} {fd:W2} {ps:acH} {sp:Sp} {dvs:acN} {ds:acM} {E:XK} {x m:Str} {p pos apos:Pos} {e o:W3} {es:List W3} {ta:TE} {t:TA}
def FC {af:acI} {Z:St} {H:Hp} {s:gs} {Q:VK} {us:acM} {vs:acN} (F:FnOk X.prog X.w X.K X.mg X.base CX k f fd ps sp) (hr:Room k X.A) (Y:kq X.K fd ps ds) (hd:bf dvs ds) (hx:u8 CX X E)
  (I:Inv X af Z H s) (r:bf vs us) (h:sp (vs++dvs) H Q E):Wv (Wx X.prog X.w) X.A (call (.ref f) us) (EP X af Z Q) X.xe s:=by
 have L:bf (vs++dvs) (us++ds):=r.append hd;have hl:(us++ds).length=ps.length:=by rw [<- L.length];exact F.len _ _ _ _ h
 refine wpAny_call (gR I.tk (aab (F.run X.A X.stack s H ⟨us,[]⟩ (us++ds) (vs++dvs) Q E hr I.env0 (Y s us I.kIn hl) L h) fun r s' J htk=>?_));cases r with
 | error e=>exact hx af Z H s e s' I J
 | ok fl =>
  cases fl with
  | ret u=>exact I.after J
  | next=>exact XO J
  | brk=>exact XO J
  | cont=>exact XO J
def GA (F:FnOk X.prog X.w X.K X.mg X.base CX k f fd ps sp) (Y:Room k X.A) (hg:Gl X x) (L:X.mg x=some (.ref f)) (hk:Zx X.K (.ref f)=true) (hb:kq X.K fd ps ds) (hd:bf dvs ds) (hx:u8 CX X E)
  (J:acP x:=by decide):PE X (.Call (.Name x p) [] [] pos) (PM sp dvs E DU):=by
 intro af s Z H Q I h;refine XM (qS I hg L ?_ J);exact PySem.W.callWith_K0 I.kIn hk (FC (us:=[]) F Y hb hd hx I .nil h)
structure Mk (K:aT) (C f:ID):Prop where
 makes:ack K C=true
 init:Xx K (.ref C) "__init__"=some (some (.ref f))
 fn:PySem.W.isFn K (.ref f)=true
 kp:Zx K (.ref C)=true
def Fk {af:acI} {Z:St} {H:Hp} {s:gs} {Q:VK} {us:acM} {vs:acN} (M:Mk X.K C f) (F:FnOk X.prog X.w X.K X.mg X.base CX k f fd ps sp) (hr:Room (k+1) X.A) (hb:kq X.K fd ps ds) (hd:bf dvs ds)
  (hx:u8 CX X E) (I:Inv X af Z H s) (r:bf vs us)
  (h:∀ x dx,H x=none->H dx=none->dx≠x->sp (.ref x::(vs++dvs)) (upd (upd H dx (.own x)) x (.ins C dx [])) (fun v H2=>v=.non/\Q (.ref x) H2) E) :
  Wv (Wx X.prog X.w) X.A (call (.ref C) us) (EP X af Z Q) X.xe s:=by
 have Y:=h (s.heap.objs.size+1) s.heap.objs.size (I.hok.fresh (abC _)) (I.hok.fresh (mK _)) (WK (aaT _));have L:=Inv.made (C:=C) I;have r2:bf (V.ref (s.heap.objs.size+1)::(vs++dvs)) (WW (s.heap.objs.size+1)::(us++ds)):=.cons rfl (r.append hd);have hl:(WW (s.heap.objs.size+1)::us++ds).length=ps.length:=by
  have e:=r2.length;rw [F.len _ _ _ _ Y] at e;exact e.symm
 refine wpAny_call (FD (f:=f) I.kIn M.makes M.init (beq_iff_eq.mp M.fn) (gR L.tk (aab (F.run _ X.stack _ _ ⟨WW (s.heap.objs.size+1)::us,[]⟩ (WW (s.heap.objs.size+1)::(us++ds)) _ _ E (hr.make C us [])
  (L.env0.make C us []) (hb _ (WW (s.heap.objs.size+1)::us) L.kIn hl) r2 Y) fun r s' J htk=>?_)))
 cases r with
 | error e=>exact hx af Z _ _ e s' L J
 | ok fl =>
  cases fl with
  | ret u =>
   obtain ⟨v,H',I3,rv,ev,q3⟩:=L.after J;subst ev;exact ⟨rv,⟨V.ref (s.heap.objs.size+1),H',I3,rfl,q3⟩⟩
  | next=>exact XO J
  | brk=>exact XO J
  | cont=>exact XO J
def Io (M:Mk X.K C f) (F:FnOk X.prog X.w X.K X.mg X.base CX k f fd ps sp) (hr:Room (k+1) X.A) (hg:Gl X x) (hm:X.mg x=some (.ref C)) (hb:kq X.K fd ps ds) (hd:bf dvs ds) (hx:u8 CX X E)
  (ha:PA X (e::es) t) (L:acP x:=by decide) (he:WT (e::es) X.env=(false,eval e X.env)::WT es X.env:=by rfl) (J:(Y9 pos (WT es X.env)).any (·.1)=false:=by rfl) :
  PE X (.Call (.Name x p) (e::es) [] pos) (Oy C sp dvs E t):=by
 intro af s Z H Q I h;refine XM (qS I hg hm ?_ L);refine abM (h₀:=X.base) I.ok.mod.kin M.kp (cU (ha pos af s Z H _ I h) fun us s1 hh=>nY hh fun vs H1 Y r q=>⟨Y.kIn,?_⟩) he J;exact Fk M F hr hb hd hx Y r q
end
def PK (X:Cx) (kws:List ZZ) (t:TA):Prop :=
 ∀ (pos:Pos) (af:acI) (s:gs) (Z:St) (H:Hp) (Q:acN->Hp->Prop),Inv X af Z H s->t Z H Q->Wv (Wx X.prog X.w) X.A (evalAll ((backToKw pos (Zv kws X.env)).map (·.2))) (AP X af Z Q) X.xe s
section
variable {X:Cx} {CX:EV} {k:Nat} {f C:ID} {fd:W2} {ps ks:acH} {sp:Sp} {E:XK} {x m:Str} {p pos apos kpos:Pos} {e o:W3} {es:List W3} {kws:List ZZ} {te ta:TE} {t tk:TA} {nm:Option Str}
def LZ:PK X [] DU:=fun _ _ _ _ H Q I h=>wpAny_evalAll_nil ⟨[],H,I,.nil,h⟩
def HW (Y:PE X e te) (hr:PK X kws t):PK X (⟨nm,e,kpos⟩::kws) (wG te t):=by
 intro pos af s Z H Q I h;show Wv _ _ (evalAll ((do let v <- eval e X.env;ab4 pos;pure v)::(backToKw pos (Zv kws X.env)).map (·.2))) _ _ s;refine wpAny_evalAll_cons (bY (cU (Y af s Z H _ I h) fun u s1 J=>nY J fun x H1 I1 r1 q1=>bY (wpAny_standAt (CT ?_))));exact cU (hr pos af s1 Z H1 _ I1 q1) fun us s2 J=>nY J fun xs H2 I2 r2 L=>⟨x::xs,H2,I2,.cons r1 r2,L⟩
variable {g:acM->acM->acM} {gV:acN->acN->acN}
end
structure FnScope (N P:acH) (sc:Scope):Prop where
 kind:sc.kind=.function
 co:sc.isCoroutine=false
 gen:sc.isGenerator=false
 nd:N.Nodup
 pre:N.take P.length=P
 par:∀ x∈P,sc.names.lookup x=some .local\/sc.names.lookup x=some .cell
 nofree:∀ y∈sc.names,y.2≠.free
def wy {I:Str->Option Y0} {x:Str}:∀ {binds:List (Str×dO)} {m:acK},(∀ v,(x,v)∉binds)->bindL I binds m x=m x
 | [],_,_=>rfl
 | (n,v)::r,m,h=>by
  unfold bindL;rw [wy fun w hw=>h w (iN _ hw)];split
  .have:x≠n:=by rintro rfl;exact h v OR
   simp [this]
  .rfl
def wA {I:Str->Option Y0} {x:Str}:∀ {binds:List (Str×dO)} {m:acK},(∀ v,(x,v)∉binds)->bindC I binds m x=m x
 | [],_,_=>rfl
 | (n,v)::r,m,h=>by
  unfold bindC;rw [wA fun w hw=>h w (iN _ hw)];split
  .rfl
  .have:x≠n:=by rintro rfl;exact h v OR
   simp [this]
def wn {I:Str->Option Y0} {x:Str} {v:dO}:∀ {P:acH} {vs:acM} {i:Nat} {m:acK},P.Nodup->P[i]?=some x->vs[i]?=some v->I x=some .local ->
  bindL I (P.zip vs) m x=some v
 | [],_,_,_,_,h,_,_=>by simp at h
 | _::_,[],_,_,_,_,h,_=>by simp at h
 | p::P,w::vs,0,m,nd,h1,h2,hk=>by
  simp at h1 h2;subst h1;subst h2;show bindL I ((p,w)::P.zip vs) m p=_;unfold bindL;rw [wy fun v J=>(W8.mp nd).1 (WO J).1,acA hk];simp
 | p::P,w::vs,i+1,m,nd,h1,h2,hk=>by
  show bindL I ((p,w)::P.zip vs) m x=_;unfold bindL;exact wn (i:=i) (W8.mp nd).2 (by simpa using h1) (by simpa using h2) hk
def wf {I:Str->Option Y0} {x:Str} {v:dO}:∀ {P:acH} {vs:acM} {i:Nat} {m:acK},P.Nodup->P[i]?=some x->vs[i]?=some v->I x≠some .local ->
  bindC I (P.zip vs) m x=some v
 | [],_,_,_,_,h,_,_=>by simp at h
 | _::_,[],_,_,_,_,h,_=>by simp at h
 | p::P,w::vs,0,m,nd,h1,h2,hk=>by
  simp at h1 h2;subst h1;subst h2;show bindC I ((p,w)::P.zip vs) m p=_;unfold bindC;rw [wA fun v J=>(W8.mp nd).1 (WO J).1,acB hk];simp
 | p::P,w::vs,i+1,m,nd,h1,h2,hk=>by
  show bindC I ((p,w)::P.zip vs) m x=_;unfold bindC;exact wf (i:=i) (W8.mp nd).2 (by simpa using h1) (by simpa using h2) hk
def start (N:acH) (vs:acN):St:=vs.map some++aae (N.length - vs.length) none
def xa (CX:EV) (P:Ww) (w:WU) (K:aT) (mg:acK) (base:Yy) (N:acH) (I:Str) (scope:Scope) (f:ID) (L:dO) (A:WN) (outer:List Env) (s:gs) (H:Hp) (E:XK):Cx where
 prog:=P
 w:=w
 K:=K
 mg:=mg
 base:=base
 A:=A.deeper (abk I scope s.heap.objs.size f L)
 N:=N
 s₀:=s
 H₀:=H
 env:=abk I scope s.heap.objs.size f L
 outer:=outer
 stack:=abk I scope s.heap.objs.size f L::outer
 ex:=[]
 calm:=true
 fn:=fun _=>true
 pn:=[]
 xe:=fun e s'=>Wv (Wx P w) (A.deeper (abk I scope s.heap.objs.size f L)) (leaving (abk I scope s.heap.objs.size f L) e) (fun _ J=>CX outer H s E e J) (fun Y J=>CX outer H s E Y J) s'
def Aj {I:Scope} {n:Nat} {x:Str} (h:I.names.lookup x=some .cell):∃ c,(cellsFrom n I.names []).lookup x=some c:=by
 have q:=aa0 I.names n [] (.inl h);exact Option.isSome_iff_exists.mp q
def DY {CX:EV} {P:Ww} {w:WU} {K:aT} {mg:acK} {base:Yy} {N ps:acH} {J:Str} {scope:Scope} {f:ID} {cd:dO} {A:WN} {I:List Env} {s s1:gs} {H:Hp} {E:XK} {us:acM} {vs:acN}
  (S:FnScope N ps scope) (hd:A.handled=none) (L:Env0 P w K mg base A I s H) (hl:vs.length=ps.length) (r:bf vs us)
  (x:InCallC s s.heap.objs.size (bindL (abk J scope s.heap.objs.size f cd).kindOf (ps.zip us) fun _=>none) (cellsFrom (s.heap.objs.size+1) scope.names []) (bindC (abk J scope s.heap.objs.size f cd).kindOf (ps.zip us) fun _=>none) s1) :
  Inv (xa CX P w K mg base N J scope f cd A I s H E) [] (start N vs) H s1:=by
 have hpl:ps.length<=N.length:=by have:=acF acn S.pre;rw [WA] at this;omega
 obtain ⟨h1,tk,rfl,hk⟩:=x.done;have Y:∀ b:ID,b∉(xa CX P w K mg base N J scope f cd A I s H E).ex:=fun b z=>absurd (show b∈([]:acL) from z) (by simp);refine ⟨⟨L.mod,S.kind,rfl,rfl,mK _,fun y z c h1 h2=>?_,fun y hy=>?_,fun y c _ h=>?_,fun _=>hd,Around.frames_deeper L.frames,.inr ⟨rfl,rfl⟩,fun b z=>absurd z (Y b),L.bs,L.bsz,fun b _ _=>Y b,fun b z=>absurd z (Y b),L.funs,L.frf⟩,
  rfl,L.bare,Un.kept hk,⟨_,x.toInCall.ns,fun i y v h1 h2 h3=>?_⟩,fun y c h=>⟨_,x.cell y c h⟩,L.hok.fresh (mK _),fun y c h=>?_,fun p hp=>absurd (show p∈([]:acI) from hp) (by simp),L.hok.kept hk,?_,WB _⟩
 .exact name_of_addr x.apart (Yg h1) (Yg h2)
 .have hy:scope.names.lookup y=some .cell\/scope.names.lookup y=some .free:=hy;rcases hy with hy|hy
  .exact Aj hy
  .exact absurd rfl (S.nofree _ (Yg hy))
 .exact ab6 (x.above y c (Yg h))
 .have hi:i < vs.length:=by
   unfold start at h2;by_cases hi:i < vs.length
   .exact hi
   .rw [Yl (by simpa using hi)] at h2;rw [aaG] at h2;split at h2 <;> cases h2
  have ha:vs[i]?=some v:=by
   unfold start at h2;rw [XZ (by simpa using hi),W4] at h2;cases e:vs[i]? with
   | none=>rw [e] at h2;cases h2
   | some a=>rw [e] at h2;cases h2;rfl
  obtain ⟨u,hu,rv⟩:=r.get ha;have hp:ps[i]?=some y:=by
   rw [<- S.pre,aar (by omega)];exact h1
  have ndP:ps.Nodup:=by rw [<- S.pre];exact S.nd.sublist (List.take_sublist _ _)
  refine ⟨u,rv,?_⟩;rcases S.par y (Xr hp) with k|k
  .exact .inl ⟨k,wn ndP hp hu k⟩
  .obtain ⟨c,e⟩:=Aj (n:=s.heap.objs.size+1) k;refine .inr ⟨.inl k,c,e,?_⟩;have q:=x.cell y c e;rw [wf ndP hp hu (by show scope.names.lookup y≠_;rw [k];decide)] at q;exact q
 .exact L.hok.fresh (ab6 (x.above y c (Yg h)))
 .unfold start;show _=N.length;rw [Do,eQ,List.length_replicate];omega
def Sg {CX:EV} {P:Ww} {w:WU} {K:aT} {mg:acK} {base:Yy} {k:Nat} {f:ID} {name Y:Str} {params:Arguments} {body:List X5} {scope:Scope} {dV kV doc pm cdv ct oc:dO} {an od:Option ID}
  {osl:Array (Option dO)} {N ps:acH} {sp:Sp} (lk:K.lookup f=some ⟨oc,od,.func (Ya name Y params body scope dV kV doc pm an cdv ct),osl⟩) (hcd:aaf K cdv Y=true) (S:FnScope N ps scope)
  (len:∀ vs H Q E,sp vs H Q E->vs.length=ps.length)
  (hbody:∀ (A:WN) (L:List Env) (s:gs) (H:Hp) (vs:acN) (Q:VK) (E:XK),Room k (A.deeper (abk Y scope s.heap.objs.size f cdv))->sp vs H Q E ->
   ∃ t,CO (xa CX P w K mg base N Y scope f cdv A L s H E) body t/\t { nx:=fun _ H'=>Q .non H',rt:=Q } (start N vs) H) :
  FnOk P w K mg base CX (k+1) f (Ya name Y params body scope dV kV doc pm an cdv ct) ps sp:=by
 refine ⟨len,fun A L s H args us vs Q E hr e0 hb r hsp=>?_⟩;have hl:=len _ _ _ _ hsp;have KX:K.In s.heap:=e0.mod.kin.keeps fun b o e=>(e0.bs b o e).1;have lim:s.heap.NoLimit:=e0.mod.nolimit.keeps fun b o e=>(e0.bs b o e).1;have hkind:∀ y∈ps.zip us,scope.names.lookup y.1=some .local\/(scope.names.lookup y.1=some .cell/\((cellsFrom (s.heap.objs.size+1) scope.names []).lookup y.1).isSome=true):=fun ⟨n,v⟩ hy=>by
  rcases S.par n (WO hy).1 with q|q
  .exact .inl q
  .exact .inr ⟨q,aa0 _ _ _ (.inl q)⟩
 refine codeAny_call_function hr.depth (KX _ _ lk) rfl S.co S.gen rfl (PySem.W.codeRec_of KX hcd) (hb _ _ _ _ ?_);refine wpAny_newFunctionEnv_cells S.kind hkind fun env he s1 x=>?_;subst he;refine ⟨lim.keeps x.toInCall.keep,codeAny_func ?_⟩;obtain ⟨t,ht,hq⟩:=hbody A L s H vs Q E (hr.deeper _) hsp;have I:Inv (xa CX P w K mg base N Y scope f cdv A L s H E) [] (start N vs) H s1:=DY S hr.hd e0 hl r x;refine W7 (ht [] s1 (start N vs) H _ I hq) (fun fl s' hs=>?_) fun e s' hs=>hs;have fin:∀ {σ':St} {H':Hp} {v:V} {u:dO},Inv (xa CX P w K mg base N Y scope f cdv A L s H E) [] σ' H' s'->bg v u->Q v H'->CE L P w H s Q u s' :=
  fun {σ' H' v u} J rv q=>⟨v,H',J.os,J.bare,J.base,J.hok,rv,q⟩
 cases fl with
 | ret u =>
  obtain ⟨v,σ',H',J,rv,q⟩:=hs;exact fin J rv q
 | next =>
  obtain ⟨σ',H',J,q⟩:=hs;exact fin (v:=V.non) (u:=Xm) J rfl q
 | brk =>
  obtain ⟨_,_,_,q⟩:=hs;exact XO q
 | cont =>
  obtain ⟨_,_,_,q⟩:=hs;exact XO q
section
variable {X:Cx} {x:Str} {p pos:Pos} {e:W3} {es:List W3} {t:TA} {id T:String} {r:acN->Hp->VK->Prop}
def Oc (r:acN->Hp->VK->Prop) (t:TA):TE:=fun Z H Q=>t Z H fun vs H1=>r vs H1 Q
def Ff (hc:cj X (.builtin id) r) (hg:Gl X x) (hm:X.mg x=none) (Y:WS x=some (.builtin id)) (ha:PA X (e::es) t) (hn:x≠"__name__":=by decide) (L:acP x:=by decide)
  (he:WT (e::es) X.env=(false,eval e X.env)::WT es X.env:=by rfl) (J:(Y9 pos (WT es X.env)).any (·.1)=false:=by rfl):PE X (.Call (.Name x p) (e::es) [] pos) (Oc r t):=by
 intro af s Z H Q I h;refine XM (nA I hg hm Y ?_ hn L);exact PyProof.Rows.callWith_builtin1 (cU (ha pos af s Z H _ I h) fun us s1 hh=>nY hh fun vs H1 I1 r1 q1=>hc af s1 Z H1 vs us Q I1 r1 q1) he J
def DE (hc:cj X (.type T) r) (hg:Gl X x) (hm:X.mg x=none) (Y:WS x=some (.type T)) (ha:PA X (e::es) t) (hn:x≠"__name__":=by decide) (L:acP x:=by decide)
  (he:WT (e::es) X.env=(false,eval e X.env)::WT es X.env:=by rfl) (J:(Y9 pos (WT es X.env)).any (·.1)=false:=by rfl):PE X (.Call (.Name x p) (e::es) [] pos) (Oc r t):=by
 intro af s Z H Q I h;refine XM (nA I hg hm Y ?_ hn L);exact XH (cU (ha pos af s Z H _ I h) fun us s1 hh=>nY hh fun vs H1 I1 r1 q1=>hc af s1 Z H1 vs us Q I1 r1 q1) he J
end
end L2
namespace HT
open PySem PyProof.Rows
section
variable {prog:Ww} {w:WU} {A:WN} {E:acJ} {s:gs}
def Ix {t b:ID} {vs ws:acM} {Q:acJ} (ht:Zs s.heap t vs.toArray) (hb:Zs s.heap b ws.toArray) (hv:vs≠[])
  (h1:ws=[]->Q (.ref t) s) (h2:ws≠[]->Q (.ref s.heap.objs.size) { s with heap:=s.heap.push { cls:=.type "tuple",data:=.seq (vs++ws).toArray } })
  (hsz:vs.length+ws.length<=Wp):Wv (Wx prog w) A (X9 .Add (.ref t) (.ref b)) Q E s:=by
 obtain ⟨⟨cls,dd,data,sl⟩,ho,hc,n,hd⟩:=id ht;obtain ⟨⟨cls2,J,data2,L⟩,I,hc2,n2,Y⟩:=id hb;simp only at hc hd hc2 Y;subst hc hd hc2 Y;have e:vs.toArray++ws.toArray=(vs++ws).toArray:=by simp
 by_cases hw:ws=[]
 .exact concat_meets ⟨_,ho,rfl⟩ ⟨_,I,rfl⟩ noFill_tuple_add seq_tuple_add aa1 aaH (aas _ _)
   (tuple_addW1 t b vs.toArray ws.toArray n n2 dd J sl L (by simpa using hv) (by simp [hw])) ⟨ho,I,h1 hw⟩
 .refine concat_meets ⟨_,ho,rfl⟩ ⟨_,I,rfl⟩ noFill_tuple_add seq_tuple_add aa1 aaH (aas _ _)
   (tuple_addW2 t b vs.toArray ws.toArray n n2 dd J sl L (by simpa using hv) (by simpa using hw) (by rw [By,By];exact hsz)) ⟨ho,I,?_⟩
  rw [e];exact h2 hw
def sIx (n d:Nat):Option Int->Nat
 | none=>d
 | some v=>if v < 0 then (v+(n:Int)).toNat else min v.toNat n
def yX (n d:Nat):sIx n d none=d:=rfl
def oF (n d k:Nat):sIx n d (some (k:Int))=min k n:=by
 show (if (k:Int) < 0 then ((k:Int)+(n:Int)).toNat else min (k:Int).toNat n)=min k n;rw [acB (by omega),WH]
def Bd (n d:Nat) (hd:d<=n) (o:Option Int):sIx n d o<=n:=by
 cases o with
 | none=>exact hd
 | some v =>
  show (if v < 0 then (v+(n:Int)).toNat else min v.toNat n)<=n;by_cases I:v < 0
  .rw [acA I];omega
  .rw [acB I];exact Nat.min_le_right _ _
def Cj (v:Int) (n d:Nat):(if v < 0 then max (v+(n:Int)) 0 else min v (n:Int))=((sIx n d (some v):Nat):Int):=by
 show (if v < 0 then max (v+(n:Int)) 0 else min v (n:Int))=(((if v < 0 then (v+(n:Int)).toNat else min v.toNat n):Nat):Int);by_cases I:v < 0
 .simp only [acA I];omega
 .simp only [acB I];omega
def AD (lo hi:Option Int) (n:Nat):Y5 lo hi 1 (n:Int)=(((sIx n 0 lo:Nat):Int),((sIx n n hi:Nat):Int)):=by
 have h1:¬ ((1:Int) < 0):=by omega
 unfold Y5;simp only [h1,if_false];refine Prod.ext ?_ ?_
 .cases lo with
  | none=>rfl
  | some v=>exact Cj v n 0
 .cases hi with
  | none=>rfl
  | some v=>exact Cj v n n
def Bb (i j:Nat):Yv (i:Int) (j:Int) 1=j - i:=by
 unfold Yv;have h1:(1:Int) > 0:=by omega
 simp only [h1,if_true,ab9];split <;> omega
def uG {v:dO} {o:Option Int} {Q:Option Int->gs->Prop} (p:IsPart v o) (h:Q o s):Wv (Wx prog w) A (Builtin.Slice.slicePartIndex v) Q E s:=by
 cases p with
 | none=>exact slicePart_none h
 | int i t=>exact slicePart_int h
def lp {sl:ID} {Y L:dO} {lo hi:Option Int} {n:Nat} {Q:Int×Int×Nat->gs->Prop} (hs:s.heap.IsSliceOf sl Y L .none) (pl:IsPart Y lo) (pu:IsPart L hi)
  (h:Q (((sIx n 0 lo:Nat):Int),1,sIx n n hi - sIx n 0 lo) s):Wv (Wx prog w) A (Z3 (.ref sl) (pure (n:Int))) Q E s:=by
 obtain ⟨os,I,hcs,J⟩:=id hs;unfold Z3 Builtin.Slice.sliceFields;refine bY (bY (Yi I J (x:=Y) rfl (bY (Yi I J (x:=L) rfl (bY (Yi I J (x:=.none) rfl (CT ?_)))))));refine bY (slicePart_none ?_);show Wv _ _ (if ((1:Int)==0)=true then _ else _) _ _ s;rw [acB (by decide)];refine bY (uG pl (bY (uG pu (bY (CT ?_)))));show Wv _ _ (match Y5 lo hi 1 (n:Int) with|(lo,hi)=>pure (lo,(1:Int),Yv lo hi 1)) _ _ s
 rw [AD lo hi n];show Wv _ _ (pure (((sIx n 0 lo:Nat):Int),(1:Int),Yv ((sIx n 0 lo:Nat):Int) ((sIx n n hi:Nat):Int) 1)) _ _ s;rw [Bb];exact CT h
def HA (xs:Array dO) (i k:Nat):((Yc k).filterMap fun (m:Nat)=>xs[((i:Int)+(m:Int)*1).toNat]?).toArray=((xs.toList.drop i).take k).toArray:=by
 have e:(fun (m:Nat)=>xs[((i:Int)+(m:Int)*1).toNat]?)=fun m=>xs[i+m]?:=by
  funext m
  have:((i:Int)+(m:Int)*1).toNat=i+m:=by omega
  rw [this]
 rw [e]
 have:=pick_run xs i k
 rw [List.filterMap_map] at this;have I:((fun x=>xs[x]?) ∘ fun x=>i+x)=fun m=>xs[i+m]?:=rfl;rw [I] at this;rw [this]
def qV {t sl:ID} {items:Array dO} {vl vu:dO} {lo hi:Option Int} {Q:acJ} (J:Zs s.heap t items) (hs:s.heap.IsSliceOf sl vl vu .none) (pl:IsPart vl lo) (pu:IsPart vu hi)
  (hw:¬ (sIx items.size 0 lo=0/\sIx items.size items.size hi=items.size))
  (h:Q (.ref s.heap.objs.size) { s with heap:=s.heap.push { cls:=.type "tuple",data:=.seq ((items.toList.drop (sIx items.size 0 lo)).take (sIx items.size items.size hi - sIx items.size 0 lo)).toArray } })
  (hsz:items.size<=Wp):Wv (Wx prog w) A (aaj (.ref t) (.ref sl)) Q E s:=by
 have I:sizeOk (.seq ((items.toList.drop (sIx items.size 0 lo)).take (sIx items.size items.size hi - sIx items.size 0 lo)).toArray):=by
  show ((items.toList.drop (sIx items.size 0 lo)).take (sIx items.size items.size hi - sIx items.size 0 lo)).toArray.size<=Wp;rw [By,WA,WI,Le];omega
 have hj:sIx items.size items.size hi<=items.size:=Bd _ _ (mK _) hi;obtain ⟨os,hos,L,hds⟩:=id hs;have Y:s.TypeIs (.ref sl) "slice":=⟨os,hos,L⟩;unfold aaj;try with_reducible refine Yt ?_
 first|refine bY (CT ?_)|skip
 refine bY (wpAny_sequenceKey J.typeIs (by decide) ?_);refine bY (XN (name:=WV "__getitem__") J.typeIs Xd
  (Xz Xd J.typeIs entry_tuple_getitem ?_ (args_tuple_getitem _ _)))
 show Wv _ _ (Z4 (.ref t) >>= _) _ _ s;refine bY (tupleItemsOf_ J ?_);refine bY (ZF Y ?_);rw [acA (by decide)];refine bY (lp hs pl pu ?_);have hno:¬ ((((sIx items.size 0 lo:Nat):Int)==0&&(1:Int)==1&&(sIx items.size items.size hi - sIx items.size 0 lo)==items.size)=true):=by
  intro q;rw [W5,W5] at q;have q1:((sIx items.size 0 lo:Nat):Int)=0:=eq_of_beq q.1.1;have q2:sIx items.size items.size hi - sIx items.size 0 lo=items.size:=eq_of_beq q.2;exact hw ⟨by omega,by omega⟩
 show Wv _ _ (if (((sIx items.size 0 lo:Nat):Int)==0&&(1:Int)==1&&(sIx items.size items.size hi - sIx items.size 0 lo)==items.size)=true then _ else _) _ _ s;rw [acB hno,HA]
 first
  | exact bY (m:=YA _) (Xk (CT ⟨_,rfl,CT h⟩) I)
  | exact bY (m:=YA _) (Xk (bY (CT (CT ⟨_,rfl,CT h⟩))) I)
  | exact bY (bY (m:=YA _) (Xk (CT (CT ⟨_,rfl,CT h⟩)) I))
  | exact bY (bY (m:=YA _) (Xk (CT ⟨_,rfl,CT h⟩) I))
end
end HT
namespace L2
open PySem PySem.Spec PyProof.Rows
abbrev TO:=St->Hp->(Option Int->Hp->Prop)->Prop
def PO (X:Cx) (e:Option W3) (t:TO):Prop :=
 ∀ (af:acI) (s:gs) (Z:St) (H:Hp) (Q:Option Int->Hp->Prop),Inv X af Z H s->t Z H Q ->
  Wv (Wx X.prog X.w) X.A (evalPart e X.env) (fun u s'=>∃ o H',Inv X af Z H' s'/\IsPart u o/\Q o H') X.xe s
def CJ:TO:=fun _ H Q=>Q none H
section
variable {X:Cx} {e:W3} {te:TE} {lo hi:Option W3} {tl th:TO} {pos p2:Pos}
def Kb:PO X none CJ:=by
 intro af s Z H Q I h;rw [evalPart_none];exact CT ⟨none,H,I,.none,h⟩
def zU (X:Cx) (r:V->Option Int->Option Int->Hp->VK->Prop):Prop :=
 ∀ (af:acI) (s:gs) (Z:St) (H:Hp) (x:V) (v J L:dO) (lo hi:Option Int) (I:ID) (Q:VK),Inv X af Z H s->bg x v->s.heap.IsSliceOf I J L .none->IsPart J lo->IsPart L hi->r x lo hi H Q ->
  ∃ T id,typeLookup (.type T) "__getitem__"=pure (some (.builtin id))/\s.TypeIs v T/\Wv (Wx X.prog X.w) X.A (aaj v (.ref I)) (EP X af Z Q) X.xe s
def zU.or {r r':V->Option Int->Option Int->Hp->VK->Prop} (h:zU X r) (h':zU X r'):zU X (fun x lo hi H Q=>r x lo hi H Q\/r' x lo hi H Q):=by
 intro af s Z H x v vl vu lo hi L Q I rx Y pl J q;rcases q with q|q
 .exact h af s Z H x v vl vu lo hi L Q I rx Y pl J q
 .exact h' af s Z H x v vl vu lo hi L Q I rx Y pl J q
def Wj (r:V->Option Int->Option Int->Hp->VK->Prop) (te:TE) (tl th:TO):TE:=fun Z H Q=>te Z H fun x H1=>tl Z H1 fun l H2=>th Z H2 fun u I=>r x l u I Q
def Hw {r:V->Option Int->Option Int->Hp->VK->Prop} (Y:zU X r) (he:PE X e te) (hl:PO X lo tl) (L:PO X hi th):PE X (.Subscript e (.Slice lo hi none p2) pos) (Wj r te tl th):=by
 intro af s Z H Q I h;refine Subscript_ (cU (he af s Z H _ I h) fun v s1 hh=>nY hh fun x H1 I1 J q1=>?_);refine wpAny_Slice (cU (hl af s1 Z H1 _ I1 q1) fun vl s2 ⟨l,H2,I2,pl,q2⟩=>cU (L af s2 Z H2 _ I2 q2) fun vu s3 ⟨u,H3,I3,pu,q3⟩=>?_);rw [evalPart_none];refine CT ?_;have I4:Inv X af Z H3 { s3 with heap:=s3.heap.push { cls:=.type "slice",data:=.fields #[vl,vu,.none] } }:=I3.kept (t':=s3.toks) fun b ob q=>lT _ q;obtain ⟨T,id,hT,ht,hg⟩:=Y af { s3 with heap:=s3.heap.push { cls:=.type "slice",data:=.fields #[vl,vu,.none] } } Z H3 x v vl vu l u s3.heap.objs.size Q I4 J (Heap.IsSliceOf.new ..) pl pu q3;show Wv (Wx X.prog X.w) X.A (subscriptTail e (.Slice lo hi none p2) v (.ref s3.heap.objs.size)) (EP X af Z Q) X.xe { s3 with heap:=s3.heap.push { cls:=.type "slice",data:=.fields #[vl,vu,.none] } };exact tail_any (ops:=[.ref s3.heap.objs.size,v]) ht hT hg (by with_unfolding_all rfl)
def vP (xs:acN) (lo hi:Option Int):acN:=(xs.drop (HT.sIx xs.length 0 lo)).take (HT.sIx xs.length xs.length hi - HT.sIx xs.length 0 lo)
def sK (xs:acN) (lo hi:Option Int):(vP xs lo hi).length<=xs.length:=by
 unfold vP;rw [WA,WI];omega
def TF (K:aT):V->Option Int->Option Int->Hp->VK->Prop:=fun x lo hi H Q=>∃ a xs,x=.ref a/\j3 K H a xs /\
 ¬ (HT.sIx xs.length 0 lo=0/\HT.sIx xs.length xs.length hi=xs.length)/\∀ p,H p=none->Q (.ref p) (upd H p (.tup (vP xs lo hi)))
def MB:zU X (TF X.K):=by
 intro af s Z H x v vl vu lo hi sl Q I rx hs pl Y h;obtain ⟨a,xs,rfl,hx,hw,q⟩:=h;cases rx;obtain ⟨its,r,L,hz⟩:=I.tuple hx;have J:its.toArray.size=xs.length:=by rw [By];exact r.length.symm
 refine ⟨"tuple",_,Xd.lookup,L.typeIs,?_⟩;refine HT.qV L hs pl Y (by rw [J];exact hw) ?_ (by rw [J];exact hz);rw [J];refine ⟨.ref s.heap.objs.size,_,I.laid (t':=s.toks) (o:=.tup (vP xs lo hi)) (fun b ob q=>lT _ q) (mK _) ?_,rfl,q _ (I.hok.fresh (mK _))⟩;exact ⟨IF (sK xs lo hi) hz,_,(r.drop (HT.sIx xs.length 0 lo)).take (HT.sIx xs.length xs.length hi - HT.sIx xs.length 0 lo),IsTup.new _ _⟩
def Pg (K:aT):R2:=fun x y H Q=>∃ a b xs ys,x=.ref a/\y=.ref b/\j3 K H a xs/\j3 K H b ys/\xs≠[]/\xs.length+ys.length<=Wp /\
 (ys=[]->Q (.ref a) H)/\(ys≠[]->∀ p,H p=none->Q (.ref p) (upd H p (.tup (xs++ys))))
def bf.nil_iff {xs:acN} {us:acM} (r:bf xs us):us=[] ↔ xs=[]:=by
 cases r with
 | nil=>simp
 | cons _ _=>simp
def IG:fb X (X9 .Add) (Pg X.K):=by
 intro af s Z H x y v u Q I rx ry h;obtain ⟨a,b,xs,ys,rfl,rfl,ha,hb,hx,hz,q1,q2⟩:=h;cases rx;cases ry;obtain ⟨its,L,p1,_⟩:=I.tuple ha;obtain ⟨Y,J,p2,_⟩:=I.tuple hb;refine HT.Ix p1 p2 (fun z=>hx (L.nil_iff.mp z)) (fun z=>⟨.ref a,H,I,rfl,q1 (J.nil_iff.mp z)⟩) (fun z=>?_) (by rw [<- L.length,<- J.length];exact hz);refine ⟨.ref s.heap.objs.size,_,I.laid (t':=s.toks) (o:=.tup (xs++ys)) (fun b ob q=>lT _ q) (mK _) ?_,rfl,q2 (fun w=>z (J.nil_iff.mpr w)) _ (I.hok.fresh (mK _))⟩;exact ⟨by rw [Do];exact hz,_,L.append J,IsTup.new _ _⟩
end
def Jy (n:Nat) (i:Int):Option Nat:=if 0<=i then (if i < n then some i.toNat else none) else if -(n:Int)<=i then some (i+n).toNat else none
def atI {α:Type} (xs:List α) (i:Int):Option α:=(Jy xs.length i).bind fun j=>xs[j]?
def J3 {n:Nat} {i:Int} {j:Nat} (h:Jy n i=some j):seqIndex? i n=some j/\j < n/\-(n:Int)<=i/\i < n:=by
 unfold Jy at h;by_cases I:0<=i
 .rw [acA I] at h;by_cases h1:i < n
  .rw [acA h1] at h;have e:i.toNat=j:=WG h;exact ⟨by rw [seqIndex_of I h1,e],by omega,by omega,h1⟩
  .rw [acB h1] at h;cases h
 .rw [acB I] at h;by_cases h1:-(n:Int)<=i
  .rw [acA h1] at h;have e:(i+n).toNat=j:=WG h;exact ⟨by rw [seqIndex_neg (by omega) h1,e],by omega,h1,by omega⟩
  .rw [acB h1] at h;cases h
def xD {α:Type} {xs:List α} {i:Int} {v:α} (h:atI xs i=some v):∃ j,seqIndex? i xs.length=some j/\xs[j]?=some v/\j < xs.length/\-(xs.length:Int)<=i/\i < xs.length:=by
 unfold atI at h;cases e:Jy xs.length i with
 | none=>rw [e] at h;cases h
 | some j =>
  rw [e] at h;obtain ⟨h1,h2,J,I⟩:=J3 e;exact ⟨j,h1,h,h2,J,I⟩
def cz {α:Type} {xs:List α} {j:Nat} {v:α} (h:xs[j]?=some v):atI xs (j:Int)=some v:=by
 have hj:j < xs.length:=(WD.mp h).1;have e:Jy xs.length (j:Int)=some j:=by
  unfold Jy;rw [acA (by omega),acA (by omega)];simp
 unfold atI;rw [e];exact h
def qe (b:W3):Prop:=∀ o i,subscripted b false o i=operate [o,i] (aaj o i)
def Ao (X:Cx) (r:R2):Prop :=
 ∀ (value I:W3) (af:acI) (s:gs) (Z:St) (H:Hp) (x y:V) (v u:dO) (Q:VK),Inv X af Z H s->bg x v->bg y u->r x y H Q ->
  subscripted I false v u=operate [v,u] (aaj v u)->Wv (Wx X.prog X.w) X.A (subscriptTail value I v u) (EP X af Z Q) X.xe s
def Od (X:Cx) (id:String) (r:V->acN->Hp->VK->Prop):Prop :=
 ∀ (af:acI) (s:gs) (Z:St) (H:Hp) (x:V) (xs:acN) (v:dO) (us:acM) (Q:VK),Inv X af Z H s->bg x v->bf xs us->r x xs H Q ->
  Wv (Wx X.prog X.w) X.A (call (.builtin id) (v::us)) (EP X af Z Q) X.xe s
section
variable {X:Cx} {a b:W3} {ta tb:TE} {pos:Pos}
def Ao.or {r r':R2} (h:Ao X r) (h':Ao X r'):Ao X (fun x y H Q=>r x y H Q\/r' x y H Q):=by
 intro value J af s Z H x y v u Q I rx L q Y;rcases q with q|q
 .exact h value J af s Z H x y v u Q I rx L q Y
 .exact h' value J af s Z H x y v u Q I rx L q Y
def S7 {r:R2} (hr:Ao X r) (L:PE X a ta) (Y:PE X b tb) (hs:qe b):PE X (.Subscript a b pos) (A7 r ta tb):=by
 intro af s Z H Q I h;exact Subscript_ (Ng L Y I h fun v u s2 x y H2 I2 rx J q=>hr a b af s2 Z H2 x y v u Q I2 rx J q (hs _ _))
def Oe (K:aT):R2:=fun x y H Q=>∃ p xs i v,x=.ref p/\y=.int i/\gp K H p xs/\atI xs i=some v/\Q v H
def PF (K:aT):R2:=fun x y H Q=>∃ p xs i v,x=.ref p/\y=.int i/\j3 K H p xs/\atI xs i=some v/\Q v H
def OU:R2:=fun x y H Q=>∃ z i c,x=.str z/\y=.int i/\z.length<=Wp/\atI z.cps.toList i=some c/\Q (.str ⟨#[c]⟩) H
def JM:Ao X (Oe X.K):=by
 intro value Y af s Z H x y v u Q I rx ry h hs;obtain ⟨p,xs,i,z,rfl,rfl,hq,he,q⟩:=h;cases rx;obtain ⟨t,rfl⟩:=ry;obtain ⟨its,r,J,hz⟩:=I.list hq;obtain ⟨j,h1,h2,h3,h4,h5⟩:=xD he;obtain ⟨w,ew,L⟩:=r.get h2;have hl:=r.length;have hn:=rY;have fin:EP X af Z Q w s:=⟨z,H,I,L,q⟩;by_cases h0:0<=i
 .have hj:i.toNat=j:=by
   rw [seqIndex_of h0 h5] at h1;exact WG h1
  exact item_listR J.isList h0 (by omega) (by rw [hj];simpa using ew) fin hs
 .have hj:(i+(its.toArray.size:Int)).toNat=j:=by
   rw [seqIndex_neg (by omega) h4] at h1;rw [By,<- hl];exact WG h1
  exact subscriptTail_builtinR (x:=w) J.isList.typeIs slot_list_getitem.lookup
   (wpAny_getItem_list_neg (Q:=fun r s'=>r=w/\EP X af Z Q r s') J.isList (by omega) (by rw [By] <;> omega) (by omega) (by rw [hj];simpa using ew) ⟨rfl,fin⟩) hs
def Ly:Ao X (PF X.K):=by
 intro value L af s Z H x y v u Q I rx ry h hs;obtain ⟨p,xs,i,z,rfl,rfl,hq,he,q⟩:=h;cases rx;obtain ⟨t,rfl⟩:=ry;obtain ⟨its,r,Y,hz⟩:=I.tuple hq;obtain ⟨j,h1,h2,h3,h4,h5⟩:=xD he;obtain ⟨w,ew,J⟩:=r.get h2;have hl:=r.length;have hn:=rY;have fin:EP X af Z Q w s:=⟨z,H,I,J,q⟩;exact subscriptTail_builtinR (x:=w) Y.typeIs slot_tuple_getitem.lookup
  (getItem_tuple (j:=j) (Q:=fun r s'=>r=w/\EP X af Z Q r s') Y (by omega) (by omega) (by rw [By,<- hl];exact h1) (by simpa using ew) ⟨rfl,fin⟩) hs
def NF:Ao X OU:=by
 intro value J af s Z H x y v u Q I rx Y h hs;obtain ⟨z,i,c,rfl,rfl,hz,he,q⟩:=h;obtain ⟨t,rfl⟩:=rx;obtain ⟨t',rfl⟩:=Y;obtain ⟨j,h1,h2,h3,h4,h5⟩:=xD he;have hl:z.cps.toList.length=z.length:=by simp [abn]
 rw [hl] at h1 h4 h5;have hn:=rY;exact tail_any (typeIs_str s z t) slot_str_getitem.lookup (getItem_str (c:=c) (by
  have L:decide (i < -(2 ^ 63:Int))=false:=acC (by omega);have e2:decide (i ≥ 2 ^ 63)=false:=acC (by omega);rw [L,e2,Bool.or_false]) (by rw [h1];simpa using h2) ⟨.str ⟨#[c]⟩,H,I.tok _,⟨_,rfl⟩,q⟩) hs
def rIx (K:aT):R2:=fun x y H Q=>Oe K x y H Q\/PF K x y H Q\/OU x y H Q
def LH:Ao X (rIx X.K):=JM.or (Ly.or NF)
def xg (lo hi:Option Int) (n:Nat):(Zw lo hi none n).1=((HT.sIx n 0 lo:Nat):Int)/\(Zw lo hi none n).2.1=((HT.sIx n n hi:Nat):Int)/\(Zw lo hi none n).2.2=1:=by
 refine ⟨?_,?_,rfl⟩
 .cases lo with
  | none=>simp [Zw,HT.sIx]
  | some i =>
   simp only [Zw,HT.sIx,acd,show (1:Int) > 0 by decide,if_true];by_cases h:i < 0
   .simp only [h,if_true] <;> omega
   .simp only [h,if_false] <;> omega
 .cases hi with
  | none=>simp [Zw,HT.sIx]
  | some i =>
   simp only [Zw,HT.sIx,acd,show (1:Int) > 0 by decide,if_true];by_cases h:i < 0
   .simp only [h,if_true] <;> omega
   .simp only [h,if_false] <;> omega
def vN (its:acM) (lo hi:Option Int):slicePick its.toArray lo hi none=((its.drop (HT.sIx its.length 0 lo)).take (HT.sIx its.length its.length hi - HT.sIx its.length 0 lo)).toArray:=by
 obtain ⟨h1,h2,I⟩:=xg lo hi its.toArray.size;unfold slicePick;rw [h1,h2,I];simp only [sliceRange_one,pick_run,By] <;> rfl
def Vd (K:aT):V->Option Int->Option Int->Hp->VK->Prop:=fun x lo hi H Q=>∃ a xs,x=.ref a/\gp K H a xs/\∀ p,H p=none->Q (.ref p) (upd H p (.lst (vP xs lo hi)))
def IR:zU X (Vd X.K):=by
 intro af s Z H x v vl vu lo hi sl Q I rx hs pl Y h;obtain ⟨a,xs,rfl,hx,q⟩:=h;cases rx;obtain ⟨its,r,L,hz⟩:=I.list hx;have J:=r.length;refine ⟨"list",_,slot_list_getitem.lookup,L.isList.typeIs,?_⟩;refine wpAny_getItem_list_slice L.isList hs pl Y .none (by simp) ?_ (by rw [By] <;> omega);rw [vN,<- J];refine ⟨.ref s.heap.objs.size,_,I.laid (t':=s.toks) (o:=.lst (vP xs lo hi)) (fun b ob q=>lT _ q) (mK _) ?_,rfl,q _ (I.hok.fresh (mK _))⟩;exact ⟨IF (sK xs lo hi) hz,_,0,(r.drop (HT.sIx xs.length 0 lo)).take (HT.sIx xs.length xs.length hi - HT.sIx xs.length 0 lo),Wr _ rfl⟩
def fB:V->Bool
 | .non=>true
 | .bl _=>true
 | .int _=>true
 | .str _=>true
 | _=>false
def Bs:V->V->Bool
 | .non,.non=>true
 | .bl a,.bl b=>a==b
 | .bl a,.int b=>(if a then 1 else 0)==b
 | .int a,.bl b=>a==(if b then 1 else 0)
 | .int a,.int b=>a==b
 | .str a,.str b=>a==b
 | _,_=>false
def MR {A:WN} {s:gs} {y x:V} {u v:dO} (J:bg y u) (I:bg x v) (Y:fB y=true) (L:fB x=true):abY A s u v (Bs y x):=by
 cases y with
 | non =>
  cases J;cases x with
  | non=>cases I;exact SeqAt.EqAt.same _
  | bl b=>cases I;exact SeqAt.EqAt.none_bool b
  | int b=>obtain ⟨t,rfl⟩:=I;exact SeqAt.EqAt.none_int b t
  | str b=>obtain ⟨t,rfl⟩:=I;exact SeqAt.EqAt.none_str b t
  | _=>exact absurd (show false=true from L) iF
 | bl a =>
  cases J;cases x with
  | non=>cases I;exact SeqAt.EqAt.bool_none a
  | bl b=>cases I;exact SeqAt.EqAt.bool_bool a b
  | int b=>obtain ⟨t,rfl⟩:=I;exact SeqAt.EqAt.bool_int a b t
  | str b=>obtain ⟨t,rfl⟩:=I;exact SeqAt.EqAt.bool_str a b t
  | _=>exact absurd (show false=true from L) iF
 | int a =>
  obtain ⟨t',rfl⟩:=J;cases x with
  | non=>cases I;exact SeqAt.EqAt.int_none a t'
  | bl b=>cases I;exact SeqAt.EqAt.int_bool a t' b
  | int b=>obtain ⟨t,rfl⟩:=I;exact SeqAt.EqAt.int_int a t' b t
  | str b=>obtain ⟨t,rfl⟩:=I;exact abH a t' b t
  | _=>exact absurd (show false=true from L) iF
 | str a =>
  obtain ⟨t',rfl⟩:=J;cases x with
  | non=>cases I;exact SeqAt.EqAt.str_none a t'
  | bl b=>cases I;exact SeqAt.EqAt.str_bool a t' b
  | int b=>obtain ⟨t,rfl⟩:=I;exact abI a t' b t
  | str b=>obtain ⟨t,rfl⟩:=I;exact SeqAt.EqAt.str_str a t' b t
  | _=>exact absurd (show false=true from L) iF
 | _=>exact absurd (show false=true from Y) iF
def Ay (x:V) (u:dO):Bool:=match u with
 | .none=>Bs .non x
 | .bool b=>Bs (.bl b) x
 | .int i _=>Bs (.int i) x
 | .str z _=>Bs (.str z) x
 | _=>false
def uy {x y:V} {u:dO} (r:bg y u) (f:fB y=true):Ay x u=Bs y x:=by
 cases y with
 | non=>cases r;rfl
 | bl b=>cases r;rfl
 | int i=>obtain ⟨t,rfl⟩:=r;rfl
 | str z=>obtain ⟨t,rfl⟩:=r;rfl
 | _=>exact absurd (show false=true from f) iF
def xw {x:V}:∀ {xs:acN} {us:acM},bf xs us->xs.all fB=true->us.any (Ay x)=xs.any fun y=>Bs y x
 | _,_,.nil,_=>rfl
 | y::xs,u::us,.cons r t,f=>by
  rw [XI,W5] at f;rw [Zf,Zf,uy r f.1,xw t f.2]
def mY {A:WN} {s:gs} {x:V} {v:dO} (L:bg x v) (J:fB x=true):∀ {xs:acN} {us:acM},bf xs us->xs.all fB=true->∀ u∈us,abY A s u v (Ay x u)
 | _,_,.nil,_=>fun u I=>by cases I
 | y::xs,u::us,.cons r t,f=>fun Y I=>by
  rw [XI,W5] at f;rcases rW.mp I with rfl|I
  .rw [uy r f.1];exact MR r L f.1 J
  .exact mY L J t f.2 Y I
def CS (x:V) (xs:acN):Bool:=xs.any fun y=>Bs y x
def rIn (K:aT) (I:Bool):R2:=fun x y H Q=>∃ p xs,y=.ref p/\(gp K H p xs\/j3 K H p xs)/\fB x=true/\xs.all fB=true/\Q (.bl (if I then !CS x xs else CS x xs)) H
def yu:fb X (WR .NotIn) (rIn X.K true):=by
 intro af s Z H x y v u Q I rx ry h;obtain ⟨p,xs,rfl,J,Y,fs,q⟩:=h;cases ry;rcases J with J|J
 .obtain ⟨its,r,L,hz⟩:=I.list J;refine SeqAt.notIn_listAt (Ay x) L.isList (fun w hw=>mY rx Y r fs w (by simpa using hw)) ⟨.bl _,H,I,rfl,?_⟩;rw [show its.toArray.any (Ay x)=its.any (Ay x) by simp,xw r fs];exact q
 .obtain ⟨its,r,L,hz⟩:=I.tuple J;refine SeqAt.notIn_tupleAt (Ay x) L (fun w hw=>mY rx Y r fs w (by simpa using hw)) ⟨.bl _,H,I,rfl,?_⟩;rw [show its.toArray.any (Ay x)=its.any (Ay x) by simp,xw r fs];exact q
def yq:cj X (.builtin "len") (fun xs H Q=>∃ p ys,xs=[.ref p]/\(gp X.K H p ys\/j3 X.K H p ys)/\Q (.int ys.length) H):=by
 intro af s Z H xs us Q I r h;obtain ⟨p,ys,rfl,L,q⟩:=h;obtain ⟨u,rfl,rx⟩:=jA r;cases rx;have hn:=rY;rcases L with L|L
 .obtain ⟨its,Y,pl,hz⟩:=I.list L;have J:=Y.length;exact Calls.call_len_list pl.isList (by simp only [By] <;> omega) ⟨.int ys.length,H,I.tok _,⟨s.toks+1,by rw [By,J]⟩,q⟩
 .obtain ⟨its,Y,pl,hz⟩:=I.tuple L;have J:=Y.length;exact len_tuple pl (by simp only [By] <;> omega) ⟨.int ys.length,H,I.tok _,⟨s.toks+1,by rw [By,J]⟩,q⟩
def wW:cj X (.builtin "len") (fun xs H Q=>∃ z,xs=[.str z]/\z.length<=Wp/\Q (.int z.length) H):=by
 intro af s Z H xs us Q I r h;obtain ⟨z,rfl,hz,q⟩:=h;obtain ⟨u,rfl,t,rfl⟩:=jA r;have hn:=rY;exact len_str (by omega) ⟨.int z.length,H,I.tok _,⟨_,rfl⟩,q⟩
def cj.or {f:dO} {r J:acN->Hp->VK->Prop} (h:cj X f r) (h':cj X f J):cj X f (fun xs H Q=>r xs H Q\/J xs H Q):=by
 intro af s Z H xs us Q I rs q;rcases q with q|q
 .exact h af s Z H xs us Q I rs q
 .exact h' af s Z H xs us Q I rs q
def yj:cj X (.type "list") (fun xs H Q=>∃ p ys,xs=[.ref p]/\(gp X.K H p ys\/j3 X.K H p ys)/\∀ l,H l=none->Q (.ref l) (upd H l (.lst ys))):=by
 intro af s Z H xs us Q I r h;obtain ⟨p,ys,rfl,Y,q⟩:=h;obtain ⟨u,rfl,rx⟩:=jA r;cases rx;have fin:∀ (its:acM),bf ys its->ys.length<=Wp->∀ (h':Yy) (c':Nat),(∀ b o',s.heap.get? b=some o'->h'.get? b=some o') ->
   h'.get? s.heap.objs.size=some { cls:=.type "list",dict:=none,data:=.seq its.toArray c',slots:=#[] }->EP X af Z Q (.ref s.heap.objs.size) { s with heap:=h' }:=fun its J hz h' c' kp e =>
  ⟨.ref s.heap.objs.size,_,I.laid (t':=s.toks) kp (mK _) (show bX X.prog X.w _ h' _ (.lst ys) from ⟨hz,its,c',J,e⟩),rfl,q _ (I.hok.fresh (mK _))⟩
 rcases Y with Y|Y
 .obtain ⟨its,J,pl,hz⟩:=I.list Y;have L:=J.length;obtain ⟨o,ho,hc,n,hd⟩:=pl.isList;exact call_list_seq p (.inl rfl) ho hc hd (fun h' c' kp e=>fin its J hz h' c' kp e) (by simp only [By] <;> omega)
 .obtain ⟨its,J,pl,hz⟩:=I.tuple Y;have L:=J.length;obtain ⟨o,ho,hc,n,hd⟩:=pl;exact call_list_seq p (.inr rfl) ho hc hd (fun h' c' kp e=>fin its J hz h' c' kp e) (by simp only [By] <;> omega)
def vx:cj X (.type "tuple") (fun xs H Q=>∃ p ys,xs=[.ref p]/\((gp X.K H p ys/\∀ l,H l=none->Q (.ref l) (upd H l (.tup ys)))\/(j3 X.K H p ys/\Q (.ref p) H))):=by
 intro af s Z H xs us Q I r h;obtain ⟨p,ys,rfl,h⟩:=h;obtain ⟨u,rfl,rx⟩:=jA r;cases rx;rcases h with ⟨J,q⟩|⟨J,q⟩
 .obtain ⟨its,L,Y,hz⟩:=I.list J;have hlen:=L.length;refine call_tuple_list Y.isList (fun h' kp=>?_) (by simp only [By] <;> omega);have I1:Inv X af Z H { s with heap:=h' }:=I.kept (t':=s.toks) kp;have I2:Inv X af Z (upd H h'.objs.size (.tup ys)) { s with heap:=h'.push { cls:=.type "tuple",data:=.seq its.toArray } } :=
   I1.laid (t':=s.toks) (fun b o e=>lT _ e) (mK _) (show bX X.prog X.w _ _ _ (.tup ys) from ⟨hz,its,L,IsTup.new _ _⟩)
  exact ⟨.ref h'.objs.size,_,I2,rfl,q _ (I1.hok.fresh (mK _))⟩
 .obtain ⟨its,L,Y,hz⟩:=I.tuple J;exact call_tuple_same Y ⟨.ref p,H,I,rfl,q⟩
def N7 (K:aT) (T:String) (x:V) (H:Hp):Prop:=match x with
 | .str _=>T="str"
 | .int _=>T="int"
 | .ref p=>(T="list"/\∃ xs,gp K H p xs)\/(T="tuple"/\∃ o,K.lookup p=some o/\o.cls=.type "tuple"/\o.dict=none) \/
   (T="dict"/\((∃ kvs,H p=some (.dK kvs))\/∃ kvs,H p=some (.dT kvs)))\/(T="set"/\∃ S n,H p=some (.set S n))
 | _=>False
def GC {af:acI} {Z:St} {H:Hp} {s:gs} {T:String} {x:V} {v:dO} (I:Inv X af Z H s) (r:bg x v) (ty:N7 X.K T x H) :
  s.TypeIs v T/\∀ a,v=.ref a->∃ Y,s.heap.get? a=some Y/\Y.dict=none:=by
 cases x with
 | str z =>
  obtain ⟨t,rfl⟩:=r;cases (show T="str" from ty);exact ⟨typeIs_str s z t,fun _ e=>nomatch e⟩
 | int i =>
  obtain ⟨t,rfl⟩:=r;cases (show T="int" from ty);exact ⟨typeIs_int s i t,fun _ e=>nomatch e⟩
 | ref p =>
  cases r;rcases ty with ⟨rfl,xs,hq⟩|⟨rfl,o,J,hc,hd⟩|⟨rfl,J⟩|⟨rfl,S,n,J⟩
  .obtain ⟨its,_,pl,_⟩:=I.list hq;refine ⟨pl.isList.typeIs,fun a e=>?_⟩;cases e;obtain ⟨o,n,e,c,hd,_⟩:=pl;exact ⟨o,e,hd⟩
  .refine ⟨⟨o,I.kIn p o J,hc⟩,fun a e=>?_⟩;cases e;exact ⟨o,I.kIn _ o J,hd⟩
  .have z:∃ o,s.heap.get? p=some o/\o.ExactDict:=by
    rcases J with ⟨kvs,J⟩|⟨kvs,J⟩
    .obtain ⟨_,_,_,_,o,_,_,e,ex,_⟩:=I.hok p _ J;exact ⟨o,e,ex⟩
    .obtain ⟨_,_,_,_,o,_,_,e,ex,_⟩:=I.hok p _ J;exact ⟨o,e,ex⟩
   obtain ⟨o,e,ex⟩:=z;refine ⟨⟨o,e,ex.1⟩,fun a L=>?_⟩;cases L;exact ⟨o,e,ex.2.1⟩
  .obtain ⟨o,_,_,_,e,ex,_⟩:=I.hok p _ J;refine ⟨⟨o,e,ex.1⟩,fun a L=>?_⟩;cases L;exact ⟨o,e,ex.2.1⟩
 | _=>exact XO ty
def Qz (K:aT) (T:String) (r:V->acN->Hp->VK->Prop) (to:TE):TE:=fun Z H Q=>to Z H fun x H1=>N7 K T x H1/\r x [] H1 Q
def U1 (K:aT) (T:String) (r:V->acN->Hp->VK->Prop) (to:TE) (t:TA):TE:=fun Z H Q=>to Z H fun x H1=>N7 K T x H1/\t Z H1 fun xs H2=>r x xs H2 Q
variable {o e:W3} {es:List W3} {to:TE} {t:TA} {name:Str} {apos cpos:Pos} {T id:String} {r:V->acN->Hp->VK->Prop}
def NO (pa:PlainAttrs T) (Y:Slot T name id) (hty:typeOf (.builtin id)=pure (.type "method_descriptor")) (hm:Od X id r) (ho:PE X o to)
  (L:Xa o name X.env (eval o X.env)=eval o X.env:=by rfl) (J:(apos.endLine==cpos.line)=true:=by rfl):PE X (.Call (.Attribute o name apos) [] [] cpos) (Qz X.K T r to):=by
 intro af s Z H Q I h;refine wpAny_Call_method0_late L J (cU (ho af s Z H _ I h) fun v s1 ⟨x,H1,I1,r1,ty,q1⟩=>?_);obtain ⟨h1,h2⟩:=GC I1 r1 ty;exact ⟨T,id,pa,Y,hty,h1,h2,Yk rfl (abD (hm af s1 Z H1 x [] v [] Q I1 r1 .nil q1))⟩
def PN (pa:PlainAttrs T) (slot:Slot T name id) (hty:typeOf (.builtin id)=pure (.type "method_descriptor")) (hm:Od X id r) (ho:PE X o to) (ha:PA X (e::es) t)
  (L:Xa o name X.env (eval o X.env)=eval o X.env:=by rfl)
  (hfew:((Y9 cpos (WT (e::es) X.env)).all (fun x=>!x.1)&&(backToKw cpos (Zv [] X.env)).all (fun x=>x.1.isSome)
   && decide ((e::es).length+([]:List ZZ).length+(if ([]:List ZZ).isEmpty then 0 else 1) < 30))=true:=by rfl)
  (Y:(apos.endLine==cpos.line)=true:=by rfl) (hs:WT (e::es) X.env=(false,eval e X.env)::WT es X.env:=by rfl) (J:(Y9 cpos (WT es X.env)).any (·.1)=false:=by rfl) :
  PE X (.Call (.Attribute o name apos) (e::es) [] cpos) (U1 X.K T r to t):=by
 intro af s Z H Q I h;refine wpAny_Call_method_late L hfew Y rfl (cU (ho af s Z H _ I h) fun v s1 ⟨x,H1,I1,r1,ty,q1⟩=>?_);obtain ⟨h1,h2⟩:=GC I1 r1 ty;refine ⟨T,id,pa,slot,hty,h1,h2,?_⟩;have hA:=ha cpos af s1 Z H1 _ I1 q1;rw [hs] at hA ⊢;refine Yk (by show (false||(Y9 cpos (WT es X.env)).any (·.1))=false;rw [J] <;> rfl) (ZI ?_)
 exact cU hA fun us s2 hh=>nY hh fun vs H2 I2 r2 q2=>hm af s2 Z H2 x vs v us Q I2 r1 r2 q2
end
def TV (X:Cx) (id:String) (r:V->acN->Hp->VK->Prop):Prop :=
 ∀ (af:acI) (s:gs) (Z:St) (H:Hp) (x:V) (xs:acN) (v:dO) (us:acM) (Q:VK),Inv X af Z H s->bg x v->bf xs us->r x xs H Q ->
  Wv (Wx X.prog X.w) X.A (call (.builtin id) (v::us)) (EP X af Z Q) X.xe s
def bf.one:∀ {x:V} {us:acM},bf [x] us->∃ u,us=[u]/\bg x u
 | _,_,.cons r .nil=>⟨_,rfl,r⟩
def bf.zero:∀ {us:acM},bf [] us->us=[]
 | _,.nil=>rfl
def bf.dropLast {xs:acN} {us:acM} (h:bf xs us):bf xs.dropLast us.dropLast:=by
 induction h with
 | nil=>exact .nil
 | cons r t I =>
  cases t with
  | nil=>exact .nil
  | cons q t'=>exact .cons r I
def AI {α:Type} (l:List α):l.eraseIdx (l.length - 1)=l.dropLast:=by
 induction l with
 | nil=>rfl
 | cons a r I =>
  cases r with
  | nil=>rfl
  | cons b r =>
   have e:(a::b::r).length - 1=((b::r).length - 1)+1:=by
    have h1:(a::b::r).length=r.length+2:=rfl;have h2:(b::r).length=r.length+1:=rfl;omega
   rw [e,List.eraseIdx_cons_succ,I];all_goals rfl
section
variable {X:Cx} {af:acI} {Z:St} {H:Hp} {s:gs} {l b:ID} {xs ys zs:acN}
def Inv.lset {its its':acM} {n:Nat} {f:Array dO->Array dO} {t':Nat} (I:Inv X af Z H s) (L:H l=some (.lst xs))
  (e:s.heap.get? l=some { cls:=.type "list",data:=.seq its.toArray n }) (hf:f its.toArray=its'.toArray) (J:bf ys its') (hz:ys.length<=Wp) (ht:X.tn<=t':=by walk_at "tok") :
  Inv X af Z (upd H l (.lst ys)) { s with heap:=s.heap.update l (WQ f),toks:=t' }:=by
 have q:=ace e f;rw [hf] at q;refine I.write (x:=l) (e:=l) (by rw [L];exact trivial) (.inl rfl) (fun b' u Y hu=>(Zp s.heap (WQ f) (aac Y)).trans hu) ⟨_,q⟩ ?_;exact ⟨hz,its',_,J,q⟩
def Inv.lnew {its:acM} {t':Nat} (I:Inv X af Z H s) (J:bf ys its) (hz:ys.length<=Wp) (L:X.tn<=t':=by walk_at "tok") :
  Inv X af Z (upd H s.heap.objs.size (.lst ys)) { s with heap:=s.heap.push { cls:=.type "list",data:=.seq its.toArray },toks:=t' } :=
 I.laid (fun _ _ q=>lT _ q) (mK _) ⟨hz,its,0,J,Wr _ rfl⟩
def Inv.fresh (I:Inv X af Z H s):H s.heap.objs.size=none:=I.hok.fresh (mK _)
def Inv.lstM (I:Inv X af Z H s) (J:H l=some (.lst xs)):xs.length<=Wp/\∃ (its:acM) (n:Nat),bf xs its/\xs.length=its.length/\s.heap.get? l=some { cls:=.type "list",data:=.seq its.toArray n }:=by
 obtain ⟨z,its,n,r,e⟩:=I.hok l _ J;exact ⟨z,its,n,r,r.length,e⟩
def Ad {n:Nat} (h:n<=Wp):XE n=false:=by
 unfold XE;exact acC (by omega)
end
section
variable {X:Cx}
def xG:V->acN->Hp->VK->Prop:=fun x vs H Q=>∃ l xs y,x=.ref l/\vs=[y]/\H l=some (.lst xs)/\xs.length < Wp/\Q .non (upd H l (.lst (xs++[y])))
def vT:TV X "list.append" xG:=by
 intro af s Z H x vs v us Q I rx L h;obtain ⟨l,xs,y,rfl,rfl,J,hz,q⟩:=h;cases rx;obtain ⟨u,rfl,Y⟩:=L.one;obtain ⟨z,its,n,r,hl,e⟩:=I.lstM J;refine aaA F.slot_list_append ⟨_,e,rfl⟩ F.entry_list_append (F.args_list_append_2 _ _) (PySem.list_append l its.toArray n u (by rw [By];omega)) ⟨e,?_⟩;refine ⟨.non,_,I.lset (its':=its++[u]) J e (by simp) (r.append (.cons Y .nil)) ?_,rfl,q⟩;rw [Do,Yp];omega
def Pp:V->acN->Hp->VK->Prop:=fun x vs H Q=>∃ l xs y,x=.ref l/\vs=[]/\H l=some (.lst xs)/\xs[xs.length - 1]?=some y/\Q y (upd H l (.lst xs.dropLast))
def MX:TV X "list.pop" Pp:=by
 intro af s Z H x vs v us Q I rx rv h;obtain ⟨l,xs,y,rfl,rfl,Y,hy,q⟩:=h;cases rx;have L:=rv.zero;subst L;obtain ⟨z,its,n,r,hl,e⟩:=I.lstM Y;obtain ⟨u,hu,ru⟩:=r.get hy;have J:its.toArray[its.toArray.size - 1]?=some u:=by
  show its.toArray[its.length - 1]?=some u;rw [<- Xf,<- hl];exact hu
 refine aaA F.slot_list_pop ⟨_,e,rfl⟩ F.entry_list_pop (F.args_list_pop_1 _) (MeetsSeq.list_pop_last l its.toArray n u J (by rw [By];omega)) ⟨e,?_⟩;refine ⟨y,_,I.lset (its':=its.dropLast) Y e ?_ r.dropLast ?_,ru,q⟩
 .show its.toArray.eraseIdxIfInBounds (its.toArray.size - 1)=its.dropLast.toArray;rw [By,List.eraseIdxIfInBounds_toArray,AI]
 .rw [List.length_dropLast];omega
end
section
variable {prog:Ww} {w:WU} {A:WN} {E:acJ} {s:gs}
set_option maxRecDepth 100000 in
end
section
variable {κ:Type} [DecidableEq κ]
def lr (kvs:List (κ×V)) (k:κ):Option V:=(kvs.find? fun I=>decide (I.1=k)).map (·.2)
def qN (kvs:List (κ×V)) (k:κ) (v:V):List (κ×V) :=
 if (kvs.any fun I=>decide (I.1=k))=true then kvs.map (fun I=>if I.1=k then (I.1,v) else I) else kvs++[(k,v)]
def ig (kvs:List (κ×V)) (k:κ):List (κ×V):=kvs.filter fun I=>decide (I.1≠k)
theorem qP {p:κ×V} {r:List (κ×V)} {k:κ} (e:p.1=k):lr (p::r) k=some p.2:=by simp [lr,Xe,e]
def p6 {p:κ×V} {r:List (κ×V)} {k:κ} (e:¬ p.1=k):lr (p::r) k=lr r k:=by simp [lr,Xe,e]
def uK (k:κ):∀ kvs:List (κ×V),(kvs.any fun I=>decide (I.1=k))=(lr kvs k).isSome
 | []=>rfl
 | p::r=>by
  rw [Zf];by_cases e:p.1=k
  .simp only [qP e,acD e,Bool.true_or,Option.isSome_some]
  .rw [p6 e,acC e,Bool.false_or];exact uK k r
def sX (kvs:List (κ×V)) (k:κ) (v:V):(qN kvs k v).length<=kvs.length+1:=by
 unfold qN;split
 .rw [eQ];omega
 .rw [Do,RW,ZP];omega
def oS.isSome_eq {o:Option V} {u:Option dO} (r:oS o u):o.isSome=u.isSome:=by
 cases o with
 | none=>cases u with
  | none=>rfl
  | some _=>exact (show False from r).elim
 | some _=>cases u with
  | none=>exact (show False from r).elim
  | some _=>rfl
def KV.val {kvs:List (κ×V)} {vs:List (κ×dO)} (r:KV kvs vs) (k:κ):oS (lr kvs k) (valueAt vs k):=by
 unfold KV at r;induction r with
 | nil=>exact XQ
 | @cons p q ps qs h t ih =>
  obtain ⟨h1,h2⟩:=h;by_cases e:p.1=k
  .have e':q.1=k:=h1.symm.trans e;have b:valueAt (q::qs) k=some q.2:=by simp [valueAt,Xe,e']
   rw [qP e,b];exact h2
  .have e':¬ q.1=k:=fun z=>e (h1.trans z);have b:valueAt (q::qs) k=valueAt qs k:=by simp [valueAt,Xe,e']
   rw [p6 e,b];exact ih
def KV.any {kvs:List (κ×V)} {vs:List (κ×dO)} (r:KV kvs vs) (k:κ):(kvs.any fun I=>decide (I.1=k))=vs.any fun I=>decide (I.1=k):=by
 unfold KV at r;induction r with
 | nil=>rfl
 | cons h t J=>rw [Zf,Zf,J,h.1]
def KV.repl {kvs:List (κ×V)} {vs:List (κ×dO)} (r:KV kvs vs) (k:κ) {y:V} {u:dO} (J:bg y u) :
  KV (kvs.map fun I=>if I.1=k then (I.1,y) else I) (vs.map fun I=>if I.1=k then (I.1,u) else I):=by
 unfold KV at r ⊢;induction r with
 | nil=>exact .nil
 | @cons p q ps qs h t ih =>
  rw [lE,lE];refine .cons ?_ ih;obtain ⟨h1,h2⟩:=h;by_cases e:p.1=k
  .rw [acA e,acA (h1.symm.trans e)];exact ⟨h1,J⟩
  .rw [acB e,acB (fun z=>e (h1.trans z))];exact ⟨h1,h2⟩
def KV.put {kvs:List (κ×V)} {vs:List (κ×dO)} (r:KV kvs vs) (k:κ) {y:V} {u:dO} (I:bg y u):KV (qN kvs k y) (stored vs k u):=by
 unfold qN stored;rw [r.any k];by_cases e:(vs.any fun J=>decide (J.1=k))=true
 .rw [acA e,acA e];exact r.repl k I
 .rw [acB e,acB e];exact Paired.snoc r ⟨rfl,I⟩
def KV.drop {kvs:List (κ×V)} {vs:List (κ×dO)} (r:KV kvs vs) (k:κ):KV (ig kvs k) (without vs k):=by
 unfold KV at r ⊢;unfold ig without;induction r with
 | nil=>exact .nil
 | @cons p q ps qs h t ih =>
  obtain ⟨h1,h2⟩:=h;rw [Xy,Xy];by_cases e:p.1=k
  .have a:¬ decide (p.1≠k)=true:=by simp [e]
   have b:¬ decide (q.1≠k)=true:=by simp [h1.symm.trans e]
   rw [acB a,acB b];exact ih
  .have e':¬ q.1=k:=fun z=>e (h1.trans z);have a:decide (p.1≠k)=true:=by simp [e]
   have b:decide (q.1≠k)=true:=by simp [e']
   rw [acA a,acA b];exact .cons ⟨h1,h2⟩ ih
theorem KV.length {kvs:List (κ×V)} {vs:List (κ×dO)} (r:KV kvs vs):kvs.length=vs.length:=aaE r
def Hl (kvs:List (κ×V)) (k:κ):(ig kvs k).length<=kvs.length:=X1 _ _
end
def vY {P:Ww} {w:WU} {k:bD} {u:dO} (r:bg (kV k) u):(b6 P w).is k u=true:=by
 cases k with
 | inl i=>obtain ⟨t,e⟩:=(show ∃ t,u=aam i t from r);subst e;exact zw P w i t
 | inr x=>obtain ⟨t,e⟩:=(show ∃ t,u=aa5 x t from r);subst e;exact zD P w x t
def wq {P:Ww} {w:WU}:∀ {ks:List bD} {us:acM},bf (ks.map kV) us->ItemsAre (b6 P w) ks us
 | [],_,r=>by rw [aa7] at r;cases r;exact .nil
 | k::ks,_,r=>by
  rw [lE] at r;cases r with
  | cons h t=>exact .cons (vY h) (wq t)
abbrev KT (H:Hp):List (List bD×V)->List (List bD×ID×dO)->Prop:=Paired fun p q=>p.1=q.1/\H q.2.1=some (.tup (p.1.map kV))/\bg p.2 q.2.2
def KT.val {H:Hp} {kvs:List (List bD×V)} {xs:List (List bD×ID×dO)} (r:KT H kvs xs) (k:List bD):oS (lr kvs k) ((atKey xs k).map (·.2)):=by
 induction r with
 | nil=>exact XQ
 | @cons p q ps qs h t ih =>
  obtain ⟨h1,_,h2⟩:=h;by_cases e:p.1=k
  .have e':q.1=k:=h1.symm.trans e;have b:atKey (q::qs) k=some q.2:=by simp [atKey,Xe,e']
   rw [qP e,b];exact h2
  .have e':¬ q.1=k:=fun z=>e (h1.trans z);have b:atKey (q::qs) k=atKey qs k:=by simp [atKey,Xe,e']
   rw [p6 e,b];exact ih
def KT.repl {H:Hp} {kvs:List (List bD×V)} {xs:List (List bD×ID×dO)} (r:KT H kvs xs) (k:List bD) {y:V} {u:dO} (J:bg y u) :
  KT H (kvs.map fun I=>if I.1=k then (I.1,y) else I) (xs.map (putAt k u)):=by
 induction r with
 | nil=>exact .nil
 | @cons p q ps qs h t ih =>
  rw [lE,lE];refine .cons ?_ ih;obtain ⟨h1,h2,L⟩:=h;unfold putAt;by_cases e:p.1=k
  .rw [acA e,acA (h1.symm.trans e)];exact ⟨h1,h2,J⟩
  .rw [acB e,acB (fun z=>e (h1.trans z))];exact ⟨h1,h2,L⟩
def KT.put {H:Hp} {kvs:List (List bD×V)} {xs:List (List bD×ID×dO)} (r:KT H kvs xs) (k:List bD) {b:ID} {y:V} {u:dO} (L:H b=some (.tup (k.map kV))) (I:bg y u) :
  KT H (qN kvs k y) (storedH xs k b u):=by
 have e:(kvs.any fun J=>decide (J.1=k))=(atKey xs k).isSome:=by
  rw [uK,(r.val k).isSome_eq,aat]
 unfold qN storedH;rw [e];by_cases q:(atKey xs k).isSome=true
 .rw [acA q,acA q];exact r.repl k I
 .rw [acB q,acB q];exact Paired.snoc r ⟨rfl,L,I⟩
def KT.keeps {H H':Hp} {kvs:List (List bD×V)} {xs:List (List bD×ID×dO)} (r:KT H kvs xs) (I:∀ b ys,H b=some (.tup ys)->H' b=some (.tup ys)):KT H' kvs xs :=
 Paired.mapP r fun _ _ z=>⟨z.1,I _ _ z.2.1,z.2.2⟩
section
variable {P:Ww} {w:WU} {H:Hp} {h:Yy} {a:ID}
def Lc {u:HO} (ok:pY P w H h) (e:Rd H a u):bX P w H h a u:=e.ok ok
def pe {kvs:List (bD×V)} (ok:pY P w H h) (e:Rd H a (.dK kvs)):kvs.length<=Wp/\(a==Yo)=false/\∃ vs,KV kvs vs/\h.DictOf (b6 P w) a vs :=
 show bX P w H h a (.dK kvs) from Lc ok e
def Lq {kvs:List (bD×V)} (ok:pY P w H h) (e:H a=some (.dK kvs)):kvs.length<=Wp/\(a==Yo)=false/\∃ vs,KV kvs vs/\h.DictOf (b6 P w) a vs:=pe ok (.inl e)
def uM {ks:List bD} (ok:pY P w H h) (e:H a=some (.tup (ks.map kV))):(tupleKind (b6 P w)).is h ks a:=by
 obtain ⟨_,its,r,o,h1,h2,n,I⟩:=(show bX P w H h a (.tup (ks.map kV)) from ok a _ e);exact ⟨o,its.toArray,n,h1,h2,I,by simpa using wq r⟩
def wb {kvs:List (List bD×V)} (ok:pY P w H h) (e:Rd H a (.dT kvs)):kvs.length<=Wp/\(a==Yo)=false /\
  ∃ xs,KT H kvs xs/\h.DictOfH (tupleKind (b6 P w)) a xs:=by
 obtain ⟨z,y,xs,r,o,es,ep,h1,h2,Y,L,J⟩:=(show bX P w H h a (.dT kvs) from Lc ok e);refine ⟨z,y,xs,r,o,es,ep,h1,h2,Y,L,fun x I=>?_,J⟩;have all:∀ {l:List (List bD×V)} {m:List (List bD×ID×dO)},KT H l m->∀ x∈m,(tupleKind (b6 P w)).is h x.1 x.2.1:=by
  intro l m q;induction q with
  | nil=>intro x I;exact nomatch I
  | @cons p q ps qs hq t ih =>
   intro x I;rcases rW.mp I with e|I
   .subst e;exact uM ok (by rw [<- hq.1];exact hq.2.1)
   .exact ih x I
 exact all r x I
def P4 {kvs:List (List bD×V)} (ok:pY P w H h) (e:H a=some (.dT kvs)):kvs.length<=Wp/\(a==Yo)=false /\
  ∃ xs,KT H kvs xs/\h.DictOfH (tupleKind (b6 P w)) a xs:=wb ok (.inl e)
end
def tw (H:Hp) (a:ID) (y:V) (r:Option V):Prop :=
 (∃ kvs k,Rd H a (.dK kvs)/\y=kV k/\r=lr kvs k)\/∃ kvs k b,Rd H a (.dT kvs)/\y=.ref b/\H b=some (.tup (k.map kV))/\r=lr kvs k
def Ji (H:Hp) (a:ID) (y v:V) (H':Hp):Prop :=
 (∃ kvs k,H a=some (.dK kvs)/\y=kV k/\kvs.length < Wp/\H'=upd H a (.dK (qN kvs k v))) \/
 ∃ kvs k b,H a=some (.dT kvs)/\y=.ref b/\H b=some (.tup (k.map kV))/\kvs.length < Wp/\H'=upd H a (.dT (qN kvs k v))
def Ji.k {H:Hp} {a:ID} {kvs:List (bD×V)} {k:bD} {v:V} (e:H a=some (.dK kvs)) (I:kvs.length < Wp):Ji H a (kV k) v (upd H a (.dK (qN kvs k v))):=.inl ⟨kvs,k,e,rfl,I,rfl⟩
section
variable {X:Cx} {af:acI} {Z:St} {H:Hp} {s:gs} {a:ID} {y v:V} {u r:dO} {o:Option V} {A:WN} {E:acJ}
def Inv.big (I:Inv X af Z H s):Yo < s.heap.objs.size:=by
 have h:WJ < s.heap.objs.size:=(I.mod.glob.keeps I.bk).lt;exact Nat.lt_trans (by decide) h
def DN {Q:acJ} (hu:A.units+1 < Zu) (I:Inv X af Z H s) (g:tw H a y (some v)) (ry:bg y u) (h:∀ Y s',Inv X af Z H s'->bg v Y->Q Y s') :
  Wv (Wx X.prog X.w) A (aaj (.ref a) u) Q E s:=by
 rcases g with ⟨kvs,k,e,ey,l⟩|⟨kvs,k,b,e,ey,eb,l⟩
 .subst ey;obtain ⟨z,hd,vs,L,dd⟩:=pe I.hok e;obtain ⟨Y,hw,J⟩:=oS.some_of (v:=v) (o:=valueAt vs k) (by rw [l];exact L.val k);exact wpAny_getItem_of (vY ry) dd.mapOf hw (h Y _ (I.tok _) J)
 .subst ey;cases (show u=WW b from ry);obtain ⟨z,hd,xs,L,dd⟩:=wb I.hok e;obtain ⟨Y,hw,J⟩:=oS.some_of (v:=v) (o:=(atKey xs k).map (·.2)) (by rw [l];exact L.val k);obtain ⟨p,hp,hp2⟩:=Option.map_eq_some_iff.mp hw;refine wpAny_getItem_heap (Zo hu) (uM I.hok eb) dd hp ?_;rw [hp2];exact h Y _ (I.tok _) J
def UK {Q:acJ} (hu:A.units+1 < Zu) (I:Inv X af Z H s) (g:tw H a y o) (ry:bg y u) (h:∀ s',Inv X af Z H s'->Q (.bool o.isSome) s') :
  Wv (Wx X.prog X.w) A (WR .In u (.ref a)) Q E s:=by
 rcases g with ⟨kvs,k,e,Y,l⟩|⟨kvs,k,b,e,Y,eb,l⟩
 .subst Y;obtain ⟨z,hd,vs,J,L⟩:=pe I.hok e;refine wpAny_in_of (vY ry) hd L.mapOf ?_;rw [<- (J.val k).isSome_eq,<- l];exact h _ (I.tok _)
 .subst Y;cases (show u=WW b from ry);obtain ⟨z,hd,xs,J,L⟩:=wb I.hok e;refine wpAny_in_heap (Zo hu) (uM I.hok eb) hd L ?_;have q:=(J.val k).isSome_eq;rw [aat] at q;rw [<- q,<- l];exact h _ (I.tok _)
def Js {Q:acJ} (hu:A.units+1 < Zu) (I:Inv X af Z H s) (g:tw H a y o) (ry:bg y u) (h:∀ s',Inv X af Z H s'->Q (.bool (!o.isSome)) s') :
  Wv (Wx X.prog X.w) A (WR .NotIn u (.ref a)) Q E s:=by
 rcases g with ⟨kvs,k,e,Y,l⟩|⟨kvs,k,b,e,Y,eb,l⟩
 .subst Y;obtain ⟨z,hd,vs,J,L⟩:=pe I.hok e;refine wpAny_notIn_of (vY ry) hd L.mapOf ?_;rw [<- (J.val k).isSome_eq,<- l];exact h _ (I.tok _)
 .subst Y;cases (show u=WW b from ry);obtain ⟨z,hd,xs,J,L⟩:=wb I.hok e;refine wpAny_notIn_heap (Zo hu) (uM I.hok eb) hd L ?_;have q:=(J.val k).isSome_eq;rw [aat] at q;rw [<- q,<- l];exact h _ (I.tok _)
def xJ {h':Yy} {t':Nat} {J:HO} (I:Inv X af Z H s) (mu:Po (H a)) (hs:ZA a s.heap h') (L:∃ q,h'.get? a=some q) (new:bX X.prog X.w (upd H a J) h' a J) (ht:X.tn<=t':=by walk_at "tok") :
  Inv X af Z (upd H a J) { s with heap:=h',toks:=t' } :=
 I.write (x:=a) (e:=a) mu (.inl rfl) (fun b q Y z=>(hs.2 b Y).trans z) L new
def A6 {P:Ww} {w:WU} {H':Hp} {h':Yy} {kvs:List (bD×V)} {vs:List (bD×dO)} (z:kvs.length<=Wp) (hd:(a==Yo)=false) (I:KV kvs vs) (J:h'.DictOf (b6 P w) a vs) :
  bX P w H' h' a (.dK kvs):=⟨z,hd,vs,I,J⟩
def Ex {H':Hp} {Q:Unit->gs->Prop} (hu:A.units+1 < Zu) (I:Inv X af Z H s) (g:Ji H a y v H') (ry:bg y u) (rv:bg v r) (h:∀ s',Inv X af Z H' s'->Q () s') :
  Wv (Wx X.prog X.w) A (setItem (.ref a) u r) Q E s:=by
 rcases g with ⟨kvs,k,e,ey,l,eH⟩|⟨kvs,k,b,e,ey,eb,l,eH⟩
 .subst ey eH;obtain ⟨z,hd,vs,J,dd⟩:=Lq I.hok e;have hz:vs.length<=Wp:=by rw [<- J.length];exact z
  have hl:(qN kvs k v).length<=Wp:=by have:=sX kvs k v;omega
  refine wpAny_setItem_pairs (hsz:=hz) (vY ry) dd fun h' L hs=>h _ ?_;have he:∃ q,h'.get? a=some q:=let ⟨q,_,_,Y,_⟩:=L;⟨q,Y⟩;exact xJ I (by rw [e];exact XQ) hs he (A6 hl hd (J.put k rv) L)
 .subst ey eH;cases (show u=WW b from ry);obtain ⟨z,hd,xs,J,dd⟩:=P4 I.hok e;have hz:xs.length<=Wp:=by rw [<- aaE J];exact z
  have hl:(qN kvs k v).length<=Wp:=by have:=sX kvs k v;omega
  refine wpAny_setItem_heap (hsz:=hz) (Zo hu) (uM I.hok eb) dd fun h' L hs=>h _ ?_;obtain ⟨q,es,ep,Y,h2,h3,h4,_,h5⟩:=L;refine xJ I (by rw [e];exact XQ) hs ⟨q,Y⟩ ⟨hl,hd,_,(J.put k eb rv).keeps fun c ys ec=>?_,q,es,ep,Y,h2,h3,h4,h5⟩;rw [aP (SO ec e (fun z=>nomatch z))]
  exact ec
end
section
variable {X:Cx} {af:acI} {Z:St} {H:Hp} {s:gs} {a:ID} {kvs:List (bD×V)} {k:bD} {u:dO} {A:WN} {E:acJ}
def Qw {v:V} {J:acM} {Q:acJ} (I:Inv X af Z H s) (e:H a=some (.dK kvs)) (ry:bg (kV k) u) (l:lr kvs k=some v) (hm:J=[]\/∃ x,J=[x])
  (h:∀ Y s',Inv X af Z (upd H a (.dK (ig kvs k))) s'->bg v Y->Q Y s'):Wv (Wx X.prog X.w) A (call (.builtin "dict.pop") (.ref a::u::J)) Q E s:=by
 obtain ⟨z,hd,vs,L,dd⟩:=Lq I.hok e;obtain ⟨Y,hw,rw'⟩:=oS.some_of (v:=v) (o:=valueAt vs k) (by rw [<- l];exact L.val k);have hp:(keyPart u).isSome=true:=by
  cases k with
  | inl i=>obtain ⟨t,q⟩:=(show ∃ t,u=aam i t from ry);subst q;rfl
  | inr x=>obtain ⟨t,q⟩:=(show ∃ t,u=aa5 x t from ry);subst q;rfl
 have ha:argsOk "dict.pop" ⟨.ref a::u::J,[]⟩:=by
  rcases hm with q|⟨x,q⟩
  .subst q;exact PySem.F.args_dict_pop_2 _ _
  .subst q;exact PySem.F.args_dict_pop_3 _ _ _
 refine call_meetsIn aa8 dd.typeIs PySem.F.entry_dict_pop ha (meets_dict_pop_there (b6 X.prog X.w) a (vY ry) J hm hp)
  ⟨vs,Y,dd,by rw [<- L.length];exact z,hw,fun h' dd' hs=>h Y _ ?_ rw'⟩
 have he:∃ q,h'.get? a=some q:=let ⟨q,_,_,hq,_⟩:=dd';⟨q,hq⟩;exact xJ I (by rw [e];exact XQ) hs he (A6 (IF (Hl kvs k) z) hd (L.drop k) dd')
def Ra {Q:acJ} (I:Inv X af Z H s) (e:Rd H a (.dK kvs)) (h:∀ t s',Inv X af Z H s'->Q (.int kvs.length t) s'):Wv (Wx X.prog X.w) A (call (.builtin "len") [.ref a]) Q E s:=by
 obtain ⟨z,hd,vs,J,L⟩:=pe I.hok e;refine call_len_dict hd L (by rw [<- J.length];rw [W0] at z;omega) ?_;rw [<- J.length];exact h _ _ (I.tok _)
end
def IC (i:W3):Prop:=∀ ov I,subscripted i false ov I=operate [ov,I] (aaj ov I)
def Jf {prog:Ww} {w:WU} {A:WN} {E:acJ} {s:gs} {env:Env} {value I:W3} {pos:Pos} {T id:String} {Q:acJ}
  (hl:typeLookup (.type T) "__getitem__"=pure (some (.builtin id))) (hs:IC I)
  (h:Wv (Wx prog w) A (eval value env) (fun o L=>Wv (Wx prog w) A (eval I env) (fun i s₂=>s₂.TypeIs o T/\Wv (Wx prog w) A (aaj o i) Q E s₂) E L) E s) :
  Wv (Wx prog w) A (eval (.Subscript value I pos) env) Q E s:=by
 refine Subscript_ (W7 h (fun o L h₁=>W7 h₁ (fun i s₂ J=>?_) fun _ _ x=>x) fun _ _ x=>x);obtain ⟨hT,J⟩:=J;unfold subscriptTail;refine bY ?_;rw [getitemInPython_of_ne hT.not_modules];refine bY (wpAny_specialOf hT hl ?_);have fin:Wv (Wx prog w) A (subscripted I false o i) (fun r Y=>Wv (Wx prog w) A (letTemporaryGo value o r >>= fun _=>pure r) Q E Y) E s₂:=by
  rw [hs o i];exact wpAny_operating (W7 J (fun r Y h₃=>bY (wpAny_letTemporaryGo (CT h₃))) fun _ _ x=>x)
 first
  | exact CT (bY fin)
  | exact bY (CT (bY fin))
  | exact bY fin
def z6 {X:Cx} {af:acI} {Z:St} {H:Hp} {s:gs} {a:ID} {y:V} {o:Option V} (I:Inv X af Z H s) (g:tw H a y o):s.TypeIs (.ref a) "dict":=by
 rcases g with ⟨kvs,k,e,_,_⟩|⟨kvs,k,b,e,_,_,_⟩
 .obtain ⟨_,_,vs,_,J⟩:=pe I.hok e;exact J.typeIs
 .obtain ⟨_,_,xs,_,J⟩:=wb I.hok e;exact J.typeIs
def Lf (td ty:TE):TE:=fun Z H Q=>td Z H fun x H1=>ty Z H1 fun y H2=>∃ a v,x=.ref a/\tw H2 a y (some v)/\Q v H2
section
variable {X:Cx} {o i e value:W3} {pos pos' tpos:Pos} {td ty tv:TE}
def Ct (L:X.A.units+1 < Zu) (ho:PE X o td) (hi:PE X i ty) (hs:IC i):PE X (.Subscript o i pos) (Lf td ty):=by
 intro af s Z H Q I h;refine Jf PySem.F.slot_dict_getitem.lookup hs (cU (ho af s Z H _ I h) fun u s1 ⟨x,H1,I1,rx,q1⟩=>cU (hi af s1 Z H1 _ I1 q1) fun iv s2 ⟨y,H2,I2,ry,a,v,ex,g,q2⟩=>?_);subst ex;obtain rfl:u=WW a:=rx;exact ⟨z6 I2 g,DN L I2 g ry fun w' s3 Y J=>⟨v,H2,Y,J,q2⟩⟩
end
def F4 {P:Ww} {w:WU} {H:Hp} (h:Yy) (I:Yo < h.objs.size):bX P w H (h.push { cls:=.type "dict",data:=.dict #[] }) h.objs.size (.dK []) :=
 ⟨WB _,beq_eq_false_iff_ne.mpr (aac (WK I)),[],.nil,Heap.DictOf.new h⟩
def Fz:TE:=fun _ H Q=>∀ p,H p=none->Q (.ref p) (upd H p (.dK []))
section
variable {X:Cx} {pos:Pos}
def FO:PE X (.Dict [] [] pos) Fz:=fun af s Z H Q I h =>
 wpAny_Dict_empty ⟨.ref s.heap.objs.size,_,I.laid (a:=s.heap.objs.size) (o:=.dK []) (t':=s.toks) (fun _ _ q=>lT _ q) (mK _) (F4 s.heap I.big),rfl,h _ (I.hok.fresh (mK _))⟩
end
structure M1 (X:Cx) (o:W3) (m:Str) (apos:Pos) (e:W3) (cpos:Pos):Prop where
 base:Xa o m X.env (eval o X.env)=eval o X.env
 few:((Y9 cpos (WT [e] X.env)).all (fun x=>!x.1)&&(backToKw cpos (Zv [] X.env)).all (fun x=>x.1.isSome)
  && decide (([e]:List W3).length+([]:List ZZ).length+(if ([]:List ZZ).isEmpty then 0 else 1) < 30))=true
 line:(apos.endLine==cpos.line)=true
 trees:Y9 cpos (WT [e] X.env)=[(false,eval e X.env)]
def Ui (H:Hp) (a:ID):Prop:=(∃ kvs,Rd H a (.dK kvs))\/∃ kvs,Rd H a (.dT kvs)
def GY {X:Cx} {af:acI} {Z:St} {H:Hp} {s:gs} {a:ID} (I:Inv X af Z H s) (d:Ui H a) :
  s.TypeIs (.ref a) "dict"/\(∀ b,WW a=.ref b->∃ J,s.heap.get? b=some J/\J.dict=none)/\(a==Yo)=false:=by
 rcases d with ⟨kvs,e⟩|⟨kvs,e⟩
 .obtain ⟨_,hd,vs,_,L⟩:=pe I.hok e;refine ⟨L.typeIs,fun b q=>?_,hd⟩;cases q;obtain ⟨J,_,_,h1,h2,_⟩:=L;exact ⟨J,h1,h2.2.1⟩
 .obtain ⟨_,hd,xs,_,L⟩:=wb I.hok e;refine ⟨L.typeIs,fun b q=>?_,hd⟩;cases q;obtain ⟨J,_,_,h1,h2,_⟩:=L;exact ⟨J,h1,h2.2.1⟩
def Fe (td ty:TE):TE:=fun Z H Q=>td Z H fun x H1=>∃ a,x=.ref a/\Ui H1 a/\ty Z H1 fun y H2=>∃ kvs k v,H2 a=some (.dK kvs)/\y=kV k/\lr kvs k=some v/\Q v (upd H2 a (.dK (ig kvs k)))
section
variable {X:Cx} {o e f:W3} {apos cpos:Pos} {td ty tx:TE}
def Hg (ho:PE X o td) (L:PE X e ty) (m:M1 X o "pop" apos e cpos):PE X (.Call (.Attribute o "pop" apos) [e] [] cpos) (Fe td ty):=by
 intro af s Z H Q I h;refine wpAny_Call_method m.base m.few m.line aaI aa8 PySem.F.type_dict_pop (cU (ho af s Z H _ I h) fun u s1 ⟨x,H1,I1,rx,a,ex,d,q1⟩=>?_);subst ex;obtain rfl:u=WW a:=rx;obtain ⟨Y,t2,_⟩:=GY I1 d;refine ⟨Y,t2,?_⟩;rw [m.trees];refine Yk rfl (ZI (abL (cU (L af s1 Z H1 _ I1 q1) fun iv s2 ⟨y,H2,I2,ry,kvs,k,v,ea,ey,l,q2⟩=>abX ?_)));subst ey;exact Qw I2 ea ry l (.inl rfl) fun w' s3 I3 J=>⟨v,_,I3,J,q2⟩
end
section
variable {X:Cx} {af:acI} {Z:St} {H:Hp} {s:gs} {a:ID} {kvs:List (bD×V)} {A:WN} {E:acJ}
def Hr {Q:acJ} (I:Inv X af Z H s) (e:Rd H a (.dK kvs)) (h:∀ p s',H p=none->Inv X af Z (upd H p (.dK kvs)) s'->Q (.ref p) s'):Wv (Wx X.prog X.w) A (call (.type "dict") [.ref a]) Q E s:=by
 obtain ⟨z,hd,vs,J,dd⟩:=pe I.hok e;refine kt_call_dict hd dd (by rw [<- J.length];exact z) fun h' L hs=>?_;refine h _ _ (I.hok.fresh (mK _)) (I.laid (a:=s.heap.objs.size) (o:=.dK kvs) (t':=s.toks) (fun b q Y=>?_) (mK _) (A6 z (beq_eq_false_iff_ne.mpr (aac (WK I.big))) J L));exact (hs.2 b (WK (Wt Y))).trans (lT _ Y)
end
end L2
namespace Att
open PySem PySem.W PySem.Calls PyProof.Rows
def tE {P:aaB} {h:Yy}:∀ (ns:List Int) (vs:acM),WellAll P h vs (ns.map WData.int)->IntsAre vs ns:=by
 intro ns;induction ns with
 | nil =>
  intro vs w;rw [aa7] at w;cases w;exact .nil
 | cons n ns I =>
  intro vs w;rw [lE] at w;cases w with
  | cons a b =>
   cases a;exact .cons _ _ (I _ b)
def DS {l:OpenLaw} {n:Nat} (hn:l.most=some n) {P:aaB} {h:Yy} {args:List WData} {I:acM}
  (J:l.row.toRowW.claim.pre args=true) (hwl:WellAll P h I args) :
  ∃ a vs ns,I=[WW a]/\args=[WData.list (ns.map WData.int)]/\h.get? a=some { cls:=.type "list",data:=.seq vs.toArray }/\IntsAre vs ns/\ns.length<=n:=by
 have hsh:WShape.hasAll [] args [.list .int]=true:=(pre_splitW J).1;have hc:l.pre.holds [] { args:=args }=true:=(pre_splitW J).2;obtain ⟨d,r,rfl,h1,h2⟩:=hasAllW_cons hsh;obtain rfl:=hasAllW_nil h2;obtain ⟨xs,rfl,h3⟩:=hasW_list h1;obtain ⟨ns,rfl⟩:=items_int h3;have L:ns.length<=n:=by
  unfold OpenLaw.pre at hc;have h4:(WTm.not (.lt (.lit (.int (n:Int))) (.len (.arg 0)))).holds [] { args:=[.list (ns.map .int)] }=true:=by
   have h4:=(holds_andW hc).1;rw [hn] at h4;exact h4
  have h5:=condW_of h4 (w_not (w_lt w_lit (w_len_list (w_arg rfl))));rw [eQ] at h5;refine Nat.le_of_not_lt fun q=>?_;have q':(n:Int) < ((ns.length:Nat):Int):=by omega
  first
   | (rw [acD q'] at h5;exact absurd h5 (by decide))
   | (simp at h5;omega)
 cases hwl with
 | cons w1 w2 =>
  cases w2;cases w1 with
  | list ho Y=>exact ⟨_,_,ns,rfl,rfl,ho,tE ns _ Y,L⟩
def DP (l:OpenLaw) (args:List WData):l.row.toRowW.claim.post args (.bool true) args=true :=
 postW_of (r:=l.row.toRowW) (X:=(true==true))
  (show WShape.has [] (.bool true) .bool=true by first|rfl|decide|simp [WShape.has,WShape.arms,WShape.armsAll])
  (show (WTm.eq .res (.lit (.bool true))).value [] { args:=args,res:=some (.bool true),after:=args }=some (.bool (true==true)) from w_eq_bool (w_res rfl) w_lit) rfl
def zJ {l:OpenLaw} {n:Nat} {q:Ww} {loose:acH} {XP:(acK)->Yy->Prop} {YP:WU->Yy->Prop} {d:DefRec}
  (hn:l.most=some n) (hdf:d.params.defaults=[])
  (call:∀ (w:WU) (J I:gs) (mg mb:acK) (fa:ID) (o:Obj) (pm cd doc:dO) (a:ID) (vs:acM) (ns:List Int),
   Ground q loose [] XP w J mg mb I.heap->YP w I.heap ->
   I.heap.get? fa=some o->o.data=.func (docDef d.name d.params d.body d.scope pm cd doc)->I.heap.CodeRec cd d.name->mg d.name=some (.ref fa) ->
   I.heap.get? a=some { cls:=.type "list",data:=.seq vs.toArray }->IntsAre vs ns->ns.length<=n->I.gens=#[] ->
   aai (Wx l.prog w) callerA (.call (.ref fa) ⟨[.ref a],[]⟩) (fun r s'=>r=.ok (.ret (.bool true))/\OldK I.heap s'.heap/\s'.os=I.os/\AllBare s'.gens) I) :
  WalkO q loose XP YP l.row.toRowW d [] (fun f vs=>abZ f vs):=by
 intro w J I mg mb G Y fa o pm cd doc dV kV ho hd hcd hD hmg hg args vals as hpre hlay hrd hwl hlo;obtain rfl:dV=.none:=Dflts.none hD hdf;obtain rfl:kV=.none:=Dflts.noKw hD;obtain ⟨a,vs,ns,rfl,rfl,hobj,L,hlen⟩:=DS hn hpre hwl;refine enter_call (aab (call w J I mg mb fa o pm cd doc a vs ns G Y ho (fd_plain hd) hcd hmg hobj L hlen hg) fun r s' hq=>?_);obtain ⟨rfl,h2,h3,h4⟩:=hq;exact ⟨.inl ⟨.bool true,.bool true,[],rfl,fun _=>rfl,.bool true,DP l _,fun _=>⟨YX,fun _ hm=>(nomatch hm)⟩⟩,h2,h3,h4⟩
end Att
namespace L2
open PySem PySem.Spec PyProof.Rows
def wm:∀ {vs:acM} {ns:List Int},IntsAre vs ns->bf (ns.map V.int) vs
 | _,_,.nil=>.nil
 | _,_,.cons n t h=>.cons ⟨t,rfl⟩ (wm h)
def Mz (H:Hp):Prop:=∀ b,H b=none\/∃ o xs,H b=some (.frz o (.lst xs))
def Hf {P:Ww} {w:WU} {K:aT} {mg mb:acK} {CX:EV} {k:Nat} {fa a:ID} {fd:W2} {x:Str} {sp:Sp} {s₁:gs} {vs:acM} {ns:List Int}
  (KX:K.In s₁.heap) (hns:s₁.heap.Ns WJ mg) (J:s₁.heap.Ns builtinsNs mb) (hbb:∀ x:Str,x≠"__name__"->mb x=WS x) (hlim:s₁.heap.NoLimit) (hg:s₁.gens=#[])
  (ha:s₁.heap.get? a=some { cls:=.type "list",data:=.seq vs.toArray }) (hi:IntsAre vs ns) (hl:ns.length<=Wp) (hr:Room k callerA)
  (F:∀ base:Yy,K.In base->base.Ns WJ mg->FnOk P w K mg base CX k fa fd [x] sp) (hbind:∀ (s:gs) (u:dO),BindsTo s fd ⟨[u],[]⟩ [(x,u)])
  (hsp:∀ H:Hp,Mz H->gp K H a (ns.map V.int)->sp [.ref a] H (fun v _=>v=.bl true) fun _ _ _=>False)
  (hCX:∀ H e s',CX [] H s₁ (fun _ _ _=>False) e s'->False) :
  aai (Wx P w) callerA (.call (.ref fa) ⟨[.ref a],[]⟩) (fun r s'=>r=.ok (.ret (.bool true))/\OldK s₁.heap s'.heap/\s'.os=s₁.os/\AllBare s'.gens) s₁:=by
 have rv:=wm hi;have lenV:=hi.length
 have Y:∀ H:Hp,Mz H->gp K H a (ns.map V.int)->pY P w H s₁.heap->(∀ b,H b≠none->b=a)->(H a≠none->K.lookup a=none) ->
   aai (Wx P w) callerA (.call (.ref fa) ⟨[.ref a],[]⟩) (fun r s'=>r=.ok (.ret (.bool true))/\OldK s₁.heap s'.heap/\s'.os=s₁.os/\AllBare s'.gens) s₁:=by
  intro H hO hS hok hA hK;have I:∀ {b:ID} {o:Obj},s₁.heap.get? b=some o->H b=none->(yB s₁.heap H).get? b=some o:=fun e n=>Hv e n;have noA:∀ {b:ID} {o:Obj} {es:Array DictEntry} {ep:Nat},s₁.heap.get? b=some o->o.data=.dict es ep->H b=none:=fun {b o es ep} e d=>by
   cases q:H b with
   | none=>rfl
   | some u =>
    have e':b=a:=hA b (by rw [q];simp);subst e';rw [ha] at e;cases e;have d':Data.seq vs.toArray _=Data.dict es ep:=d;cases d'
  have L:∀ {b:ID} {m:acK},s₁.heap.Ns b m->(yB s₁.heap H).Ns b m:=fun {b m} ⟨o,es,ep,e,d,r⟩=>⟨o,es,ep,I e (noA e d),d,r⟩;have hKb:K.In (yB s₁.heap H):=fun b o e=>I (KX b o e) (by
   cases q:H b with
   | none=>rfl
   | some u =>
    have e':b=a:=hA b (by rw [q];simp);subst e';rw [hK (by rw [q];simp)] at e;cases e)
  have hM:Mod K mg (yB s₁.heap H):=⟨hKb,L hns,⟨mb,L J,hbb⟩,let ⟨mc,h1,h2⟩:=hlim;⟨mc,L h1,h2⟩⟩;have e0:Env0 P w K mg (yB s₁.heap H) callerA [] s₁ H:=⟨rfl,hM,fun b o e=>J5 e,Z7 (D3 _ _),trivial,fun b J=>absurd (show b∈([]:acL) from J) (by simp),hok,.of_eq hg⟩;refine aab ((F _ hKb (L hns)).run callerA [] s₁ H ⟨[.ref a],[]⟩ [.ref a] [.ref a] _ _ hr e0 (hbind s₁ (.ref a)) (.cons rfl .nil) (hsp H hO hS)) fun r s' h=>?_;cases r with
  | error e=>exact (hCX H e s' h).elim
  | ok fl =>
   cases fl with
   | next=>exact XO h
   | brk=>exact XO h
   | cont=>exact XO h
   | ret u =>
    obtain ⟨v,H',os,bare,un,hok',r',q⟩:=h;have q':v=.bl true:=q;subst q';obtain rfl:u=abm true:=r';refine ⟨rfl,OldK.of_keep fun b o e=>?_,os,bare⟩;cases q:H b with
    | none=>exact un.keep b o e q (by intro z;exact absurd (show b∈([]:acL) from z) (by simp)) (by simp)
    | some u =>
     rcases hO b with z|⟨ob,xs,z⟩
     .rw [q] at z;cases z
     .have z2:=un.frzs b ob _ z;obtain ⟨e1,_⟩:=hok b _ z;obtain ⟨e2,_⟩:=hok' b _ z2;rw [e] at e1;cases e1;exact e2
 cases hk:K.lookup a with
 | some o =>
  have e:=KX a o hk;rw [ha] at e;cases e;refine Y (fun _=>none) (fun _=>.inl rfl) (.inr ⟨_,vs.toArray,_,hk,rfl,rfl,rfl,by rw [By,lenV];exact hl,by simpa using rv⟩) (fun b u z=>by have z':(none:Option HO)=some u:=z;cases z') (fun b z=>absurd rfl z) fun z=>absurd rfl z
 | none =>
  refine Y (fun b=>if b=a then some (.frz { cls:=.type "list",data:=.seq vs.toArray } (.lst (ns.map V.int))) else none) (fun b=>?_) (.inl (.inr ⟨{ cls:=.type "list",data:=.seq vs.toArray },acA rfl⟩)) (fun b u z=>?_) (fun b z=>?_) fun _=>hk
  .by_cases J:b=a
   .exact .inr ⟨_,_,acA J⟩
   .exact .inl (acB J)
  .by_cases J:b=a
   .have z':=(acA J).symm.trans z;cases z';subst J;exact ⟨ha,by rw [eQ];exact hl,vs,_,rv,ha⟩
   .have z':=(acB J).symm.trans z;cases z'
  .by_cases J:b=a
   .exact J
   .exact absurd (acB J) z
def Kp {l:aa9} {n k:Nat} {q:Ww} {loose:acH} {XP:(acK)->Yy->Prop} {YP:WU->Yy->Prop} {d:DefRec} {K:aaB->aT} {CX:WU->EV} {sp:WU->Sp} {x:Str}
  (hn:l.most=some n) (hn2:n<=Wp) (hdf:d.params.defaults=[]) (hr:Room k callerA)
  (hY:∀ (w:WU) (h:Yy),YP w h->(K w.params).In h)
  (F:∀ (w:WU) (mg:acK) (fa:ID) (h:Yy),(K w.params).In h->h.Ns WJ mg->mg d.name=some (.ref fa) ->
   ∃ fd:W2,(∀ (s:gs) (u:dO),BindsTo s fd ⟨[u],[]⟩ [(x,u)]) /\
    ∀ base:Yy,(K w.params).In base->base.Ns WJ mg->FnOk l.prog w (K w.params) mg base (CX w) k fa fd [x] (sp w))
  (hsp:∀ (w:WU) (H:Hp) (a:ID) (ns:List Int),ns.length<=n->Mz H->gp (K w.params) H a (ns.map V.int)->sp w [.ref a] H (fun v _=>v=.bl true) fun _ _ _=>False)
  (hCX:∀ (w:WU) (H:Hp) (s:gs) (e:dO) (s':gs),CX w [] H s (fun _ _ _=>False) e s'->False) :
  PySem.W.WalkO q loose XP YP l.row.toRowW d [] (fun f vs=>abZ f vs):=by
 refine Att.zJ hn hdf fun w s₀ L mg mb fa o pm cd doc a vs ns G Y ho hd hcd hmg hobj J I hg=>?_;have KX:=hY w _ Y;obtain ⟨fd,hb,hF⟩:=F w mg fa _ KX G.T.g hmg;exact Hf KX G.T.g G.T.b G.T.builtins G.T.nolimit hg hobj J (IF I hn2) hr hF hb (fun H hO hS=>hsp w H a ns I hO hS) fun H e s'=>hCX w H L e s'
def iO (s:X5):Arguments:=match s with
 | .FunctionDef _ a _ _ _ _ _ _ _ _=>a
 | _=>{ posonlyargs:=[],args:=[],vararg:=none,kwonlyargs:=[],kw_defaults:=[],kwarg:=none,defaults:=[] }
def dR (s:X5):List X5:=match s with
 | .FunctionDef _ _ b _ _ _ _ _ _ _=>b
 | _=>[]
def ax (s:X5):Scope:=match s with
 | .FunctionDef _ _ _ _ _ _ sc _ _ _=>sc
 | _=>{ kind:=.function,names:=[],isGenerator:=false,isCoroutine:=false }
abbrev cP:EV:=fun _ _ _ _ _ _=>False
abbrev E0:XK:=fun _ _ _=>False
def GJ {X:Cx}:u8 cP X E0:=fun _ _ _ _ _ _ _ h=>h.elim
structure Fun (K:aT) (x qual:Str) (st:X5) (f:ID) (fd:W2):Prop where
 ex:∃ (oc:dO) (od:Option ID) (kV doc pm:dO) (an:Option ID) (cdv ct:dO) (osl:Array (Option dO)),
  fd=Ya x qual (iO st) (dR st) (ax st) .none kV doc pm an cdv ct/\K.lookup f=some ⟨oc,od,.func fd,osl⟩/\aaf K cdv qual=true
 kp:Zx K (.ref f)=true
section
variable {P:Ww} {w:WU} {K:aT} {mg:acK} {base:Yy}
theorem Fun.ok {x J:Str} {st:X5} {f:ID} {fd:W2} {N ps:acH} {k:Nat} {sp:Sp} (F:Fun K x J st f fd) (S:FnScope N ps (ax st)) (len:∀ vs H Q E,sp vs H Q E->vs.length=ps.length)
  (Y:∀ (L:dO) (A:WN) (I:List Env) (s:gs) (H:Hp) (vs:acN) (Q:VK) (E:XK),Room k (A.deeper (abk J (ax st) s.heap.objs.size f L))->sp vs H Q E ->
   ∃ t,CO (xa cP P w K mg base N J (ax st) f L A I s H E).nox (dR st) t/\t { nx:=fun _ H'=>Q .non H',rt:=Q } (start N vs) H):FnOk P w K mg base cP (k+1) f fd ps sp:=by
 obtain ⟨oc,od,kV,doc,pm,an,L,ct,osl,rfl,lk,hcd⟩:=F.ex;refine Sg lk hcd S len fun A I s H vs Q E hr hsp=>?_;obtain ⟨t,h,q⟩:=Y L A I s H vs Q E hr hsp;exact ⟨t,h.nox,q⟩
def Fun.binds {x I:Str} {st:X5} {f:ID} {fd:W2} {ps:acH} (F:Fun K x I st f fd)
  (h:∀ (kV L pm:dO) (an:Option ID) (J Y:dO) (us:acM),us.length=ps.length->bindArgs (Ya x I (iO st) (dR st) (ax st) .none kV L pm an J Y) ⟨us,[]⟩=pure (ps.zip us)):kq K fd ps []:=by
 obtain ⟨oc,od,kV,L,pm,an,J,Y,osl,rfl,lk,hcd⟩:=F.ex;exact .all (h kV L pm an J Y)
def Hi {x I:Str} {st:X5} {f:ID} {oc:dO} {od Y:Option ID} {osl:Array (Option dO)} {kV L pm J ct:dO} (l:K.lookup f=some ⟨oc,od,.func (Ya x I (iO st) (dR st) (ax st) .none kV L pm Y J ct),osl⟩)
  (c:aaf K J I=true) (k:Zx K (.ref f)=true):Fun K x I st f (Ya x I (iO st) (dR st) (ax st) .none kV L pm Y J ct):=⟨⟨oc,od,kV,L,pm,Y,J,ct,osl,rfl,l,c⟩,k⟩
end
section
variable {X:Cx}
def pv (i:Nat) {x:Str} {pos:Pos} (L:X.N[i]?=some x:=by rfl) (J:yH X.env.scope x:=by walk_at"v") (hd:acP x:=by decide)
  (I:(x==("__classdict__":Str))=false:=by decide):PE X (.Name x pos) (Qe i):=E6 L J hd I
end
def aC (H H':Hp):Prop:=∀ b o,H b=some o->H' b=some o
def aC.refl (H:Hp):aC H H:=fun _ _ h=>h
theorem aC.trans {H H1 H2:Hp} (a:aC H H1) (b:aC H1 H2):aC H H2:=fun c o h=>b c o (a c o h)
def aC.free {H H':Hp} (e:aC H H') {l:ID} (h:H' l=Option.none):H l=Option.none:=by
 cases q:H l with
 | none=>rfl
 | some o =>
  rw [e l o q] at h;cases h
def aC.seq {K:aT} {H H':Hp} {a:ID} {xs:acN} (e:aC H H') (h:gp K H a xs):gp K H' a xs:=by
 rcases h with (h|⟨o,h⟩)|h
 .exact .inl (.inl (e _ _ h))
 .exact .inl (.inr ⟨o,e _ _ h⟩)
 .exact .inr h
section
variable {κ:Type} [DecidableEq κ]
def Er {p:κ×V} {r:List (κ×V)} {k:κ} (e:p.1=k):ig (p::r) k=ig r k:=by
 unfold ig;rw [Xy,acB (by simp [e])]
def EI {p:κ×V} {r:List (κ×V)} {k:κ} (e:¬ p.1=k):ig (p::r) k=p::ig r k:=by
 unfold ig;rw [Xy,acA (by simp [e])]
end
end L2
namespace L2
open PySem PySem.W PySem.W.X PySem.W.ZRun
def walkX {q:Ww} {loose:acH} {XP:(acK)->Yy->Prop} {K:aaB->Frag} {as:acL} {n t:Nat} {r:RowW} {d:DefRec} {kwd:List (Str×W3)} {run:dO->acM->Sem dO}
  (e:∀ P,as=(K P).map (·.1)) (h:WalkO q loose XP (fun w h=>(K w.params).In h) r d kwd run):WalkX q loose XP (obsZ as) (valZ K n t) r d kwd run :=
 fun w I J mg mb G y a o pm cd doc dV kV h1 h2 h3 h4 h5 h6 args Y as L hp hl hr hw hs =>
  h w I J mg mb G (InK.keeps w I.heap J.heap (z_facts e y).2.1 L.keeps) a o pm cd doc dV kV h1 h2 h3 h4 h5 h6 args Y as hp hl hr hw hs
def ln0 {α:Type} {P:List α->Prop} (h:P []):∀ us:List α,us.length=0->P us:=fun us e=>by
 rw [List.length_eq_zero_iff.mp e];exact h
def yJ {α:Type} {P:List α->Prop} (h:∀ a,P [a]):∀ us:List α,us.length=1->P us:=fun us e=>by
 obtain ⟨a,rfl⟩:=XS.mp e;exact h a
def Ua {α:Type} {P:List α->Prop} {n:Nat} (h:∀ a us,us.length=n->P (a::us)):∀ us:List α,us.length=n+1->P us:=fun us e=>by
 cases us with
 | nil=>cases e
 | cons a us=>exact h a us (Nat.succ.inj e)
def yG {α:Type} {P:List α->Prop} (h:∀ a b,P [a,b]):∀ us:List α,us.length=2->P us:=Ua fun a=>yJ fun b=>h a b
def NS {α:Type} {P:List α->Prop} (h:∀ a b c,P [a,b,c]):∀ us:List α,us.length=3->P us:=Ua fun a=>yG fun b c=>h a b c
def Uy {α:Type} {P:List α->Prop} (h:∀ a b c d,P [a,b,c,d]):∀ us:List α,us.length=4->P us:=Ua fun a=>NS fun b c d=>h a b c d
end L2
namespace L2
open PySem PySem.Spec PyProof.Rows
def fF (cells:List (Str×ID)):List (Str×Y0)->List (Str×ID)->List (Str×ID)
 | [],acc=>acc
 | (n,k)::r,acc=>if k=.free then fF cells r ((n,(cells.lookup n).getD 0)::acc) else fF cells r acc
def mG {scope:Scope} {env:Env} (h:∀ y∈scope.names,y.2=.free->∃ c,env.cells.lookup y.1=some c):closureFor scope env=pure (fF env.cells scope.names []):=by
 simp only [closureFor];generalize ([]:List (Str×ID))=acc;revert h
 generalize scope.names=names;intro h;induction names generalizing acc with
 | nil=>rfl
 | cons y r ih =>
  obtain ⟨n,k⟩:=y;have I:=fun acc=>ih acc fun z hz=>h z (iN _ hz);by_cases L:k=.free
  .subst L;obtain ⟨c,J⟩:=h (n,.free) OR rfl;have J:env.cells.lookup n=some c:=J;have e1:cellOf env n=pure c:=by unfold cellOf;rw [J]
   have Y:fF env.cells ((n,.free)::r) acc=fF env.cells r ((n,c)::acc):=by
    show (if Xi=.free then _ else _)=_;rw [acA rfl,J];rfl
   rw [Y,<- I ((n,c)::acc),List.forIn_cons];simp only [beq_self_eq_true,if_true,e1];rfl
  .have hb:(k==Xi)=false:=by simpa using L
   have Y:fF env.cells ((n,k)::r) acc=fF env.cells r acc:=by
    show (if k=.free then _ else _)=_;rw [acB L]
   rw [Y,<- I acc,List.forIn_cons];simp only [hb,Xu,if_false];rfl
def xu {cells:List (Str×ID)} {x:Str} {c:ID}:∀ (I:List (Str×Y0)) (acc:List (Str×ID)),(∀ y∈I,y.2=.free->∃ c,cells.lookup y.1=some c) ->
  (fF cells I acc).lookup x=some c->cells.lookup x=some c\/acc.lookup x=some c
 | [],acc,_,e=>.inr e
 | (n,k)::r,acc,h,e=>by
  have hr:∀ y∈r,y.2=.free->∃ c,cells.lookup y.1=some c:=fun y hy=>h y (iN _ hy);by_cases hk:k=.free
  .subst hk;have Y:fF cells ((n,.free)::r) acc=fF cells r ((n,(cells.lookup n).getD 0)::acc):=by
    show (if Xi=.free then _ else _)=_;rw [acA rfl]
   rw [Y] at e;rcases xu r _ hr e with z|z
   .exact .inl z
   .rw [X3] at z;cases hx:x==n with
    | true =>
     rw [hx] at z;have L:x=n:=eq_of_beq hx;obtain ⟨c',J⟩:=h (n,.free) OR rfl;have J:cells.lookup n=some c':=J;rw [J] at z;left
     rw [L,J];exact z
    | false =>
     rw [hx] at z;exact .inr z
  .have Y:fF cells ((n,k)::r) acc=fF cells r acc:=by
    show (if k=.free then _ else _)=_;rw [acB hk]
   rw [Y] at e;exact xu r acc hr e
def qR {cells:List (Str×ID)} {x:Str}:∀ (I:List (Str×Y0)) (acc:List (Str×ID)),((x,Xi)∈I\/∃ c,acc.lookup x=some c)->∃ c,(fF cells I acc).lookup x=some c
 | [],acc,h=>by
  rcases h with h|h
  .cases h
  .exact h
 | (n,k)::r,acc,h=>by
  by_cases J:k=.free
  .subst J;have L:fF cells ((n,.free)::r) acc=fF cells r ((n,(cells.lookup n).getD 0)::acc):=by
    show (if Xi=.free then _ else _)=_;rw [acA rfl]
   rw [L];refine qR r _ ?_;rcases h with h|⟨c,h⟩
   .rcases rW.mp h with h|h
    .cases h;exact .inr ⟨_,by rw [X3,beq_self_eq_true]⟩
    .exact .inl h
   .right
    rw [X3];cases x==n with
    | true=>exact ⟨_,rfl⟩
    | false=>exact ⟨c,h⟩
  .have L:fF cells ((n,k)::r) acc=fF cells r acc:=by
    show (if k=.free then _ else _)=_;rw [acB J]
   rw [L];refine qR r acc ?_;rcases h with h|h
   .rcases rW.mp h with h|h
    .cases h;exact absurd rfl J
    .exact .inl h
   .exact .inr h
structure Bk where
 cl:List (Str×ID)
 C:ID
 s:gs
 H:Hp
 fp:acL
 af:acI
def tm (X:Cx) (N:acH) (scope:Scope) (b:Bk):Cx :=
 { X with tn:=0,N:=N,s₀:=b.s,H₀:=b.H,env:=compEnvC scope b.cl b.C X.env,outer:=X.stack,stack:=X.stack,ex:=b.fp,fn:=fun _=>false,pn:=X.pn++b.af,xe:=fun _ _=>False }
def ul (ON:acH) (I:List (Str×Y0)):List (Option Nat)->acH->Bool
 | [],[]=>true
 | none::r,_::n=>ul ON I r n
 | some j::r,x::n=>decide (ON[j]?=some x)&&decide ((x,Xi)∈I)&&ul ON I r n
 | _,_=>false
def Et (osc:Scope) (ON N:acH) (ix:List (Option Nat)) (scope:Scope):Bool :=
 decide (scope.kind=.function)&&(scope.names.all fun y=>decide (y.2≠.cell))&&(scope.names.all fun y=>decide (y.2=.local->scope.names.lookup y.1=some .local)) &&
 (scope.names.all fun y=>decide (y.2=.free->osc.names.lookup y.1=some .cell\/osc.names.lookup y.1=some .free))&&(scope.names.all fun y=>decide (y.2=.local->(y.1,Xi)∉scope.names))&&ul ON scope.names ix N
structure CScope (osc:Scope) (ON N:acH) (ix:List (Option Nat)) (scope:Scope):Prop where
 kind:scope.kind=.function
 nocell:∀ y∈scope.names,y.2≠.cell
 names:∀ y∈scope.names,y.2=.local->scope.names.lookup y.1=some .local
 outs:∀ y∈scope.names,y.2=.free->osc.names.lookup y.1=some .cell\/osc.names.lookup y.1=some .free
 nolf:∀ x,(x,NameKind.local)∈scope.names->(x,Xi)∈scope.names->False
 len:ix.length=N.length
 cap:∀ (i j:Nat) (x:Str),ix[i]?=some (some j)->N[i]?=some x->ON[j]?=some x/\(x,Xi)∈scope.names
def rO {ON:acH} {I:List (Str×Y0)}:∀ {ix:List (Option Nat)} {N:acH},ul ON I ix N=true->ix.length=N.length
 | [],[],_=>rfl
 | none::r,_::n,h=>acF Nat.succ (rO (ix:=r) (N:=n) h)
 | some j::r,x::n,h=>by
  have h':(decide (ON[j]?=some x)&&decide ((x,Xi)∈I)&&ul ON I r n)=true:=h;rw [W5] at h';exact acF Nat.succ (rO h'.2)
 | [],_::_,h=>by cases h
 | none::_,[],h=>by cases h
 | some _::_,[],h=>by cases h
def q5 {ON:acH} {I:List (Str×Y0)}:∀ {ix:List (Option Nat)} {N:acH},ul ON I ix N=true->∀ (i j:Nat) (x:Str),ix[i]?=some (some j)->N[i]?=some x->ON[j]?=some x/\(x,Xi)∈I
 | [],_,_,i,j,x,h1,_=>by simp at h1
 | none::r,y::n,h,0,j,x,h1,_=>by simp at h1
 | none::r,y::n,h,i+1,j,x,h1,h2=>q5 (ix:=r) (N:=n) h i j x (by simpa using h1) (by simpa using h2)
 | some k::r,y::n,h,i,j,x,h1,h2=>by
  have h':(decide (ON[k]?=some y)&&decide ((y,Xi)∈I)&&ul ON I r n)=true:=h;rw [W5,W5] at h';cases i with
  | zero =>
   simp only [Zg,aau] at h1 h2;subst h1 h2;exact ⟨acE h'.1.1,acE h'.1.2⟩
  | succ i=>exact q5 h'.2 i j x (by simpa using h1) (by simpa using h2)
 | none::_,[],h,_,_,_,_,_=>by cases h
 | some _::_,[],h,_,_,_,_,_=>by cases h
def Lb {osc:Scope} {ON N:acH} {ix:List (Option Nat)} {scope:Scope} (h:Et osc ON N ix scope=true):CScope osc ON N ix scope:=by
 unfold Et at h;simp only [W5] at h;obtain ⟨⟨⟨⟨⟨h1,h2⟩,h3⟩,h4⟩,L⟩,J⟩:=h;exact ⟨acE h1,fun y I=>acE (X4.mp h2 y I),fun y I=>acE (X4.mp h3 y I),fun y I=>acE (X4.mp h4 y I),
  fun x Y hf=>acE (X4.mp L (x,.local) Y) rfl hf,rO J,q5 J⟩
def nj (ix:List (Option Nat)) (Z:St):St:=ix.map fun o=>o.bind fun j=>(Z[j]?).getD none
def fW {env:Env}:∀ {I:List (Str×Y0)} {x:Str} {k:Y0},(I.map fun (n,k)=>if (k==Xi&&env.scope.kind==.function&&env.kindOf n==some .cell) then (n,acx) else (n,k)).lookup x=some k ->
  I.lookup x=some k\/(k=.cell/\I.lookup x=some .free/\env.kindOf x=some .cell)
 | [],_,_,h=>by cases h
 | (n,k')::r,x,k,h=>by
  have Y:=@fW env r x k;have h:Yf x ((if (k'==Xi&&env.scope.kind==.function&&env.kindOf n==some .cell)=true then (n,acx) else (n,k'))::_)=some k:=h;by_cases J:(k'==Xi&&env.scope.kind==.function&&env.kindOf n==some .cell)=true
  .rw [acA J] at h;rw [X3] at h;rw [X3];cases hx:x==n with
   | true =>
    rw [hx] at h;cases h;have L:x=n:=eq_of_beq hx;simp only [W5,beq_iff_eq] at J;right
    exact ⟨rfl,by rw [J.1.1],by rw [L];exact J.2⟩
   | false =>
    rw [hx] at h;exact Y h
  .rw [acB J] at h;rw [X3] at h;rw [X3];cases hx:x==n with
   | true =>
    rw [hx] at h;cases h;exact .inl rfl
   | false =>
    rw [hx] at h;exact Y h
def mem_of_lookupK {x:Str} {k:Y0}:∀ {I:List (Str×Y0)},I.lookup x=some k->(x,k)∈I:=fun h=>Yg h
def IH {X:Cx} {osc:Scope} {ON:acH} {af:acI} {Z:St} {H:Hp} {s s':gs} {N:acH} {ix:List (Option Nat)} {scope:Scope} {fp:acL} {h':Yy} {m:acK} (I:Inv X af Z H s) (hE:X.env.scope=osc) (hO:X.N=ON) (S:CScope osc ON N ix scope)
  (hfp:∀ b∈fp,iu X af H b) (hfo:∀ b∈fp,∃ o,s.heap.get? b=some o) (hn:h'.Ns s.heap.objs.size m) (hk:∀ b o,s.heap.get? b=some o->h'.get? b=some o) (he:s'={ s with heap:=h',toks:=s'.toks }) :
  Inv (tm X N scope ⟨fF X.env.cells scope.names [],s.heap.objs.size,s,H,fp,af⟩) [] (nj ix Z) H s':=by
 subst hE hO;have hcells:∀ y∈scope.names,y.2=.free->∃ c,X.env.cells.lookup y.1=some c:=fun y hy e=>I.ok.has y.1 (S.outs y hy e);have J:∀ x c,(fF X.env.cells scope.names []).lookup x=some c->X.env.cells.lookup x=some c:=fun x c e=>by
  rcases xu scope.names [] hcells e with z|z
  .exact z
  .cases z
 have old:∀ b o,s.heap.get? b=some o->b≠s.heap.objs.size:=fun b o e=>WK (Wt e);have hkind:∀ x,(compEnvC scope (fF X.env.cells scope.names []) s.heap.objs.size X.env).kindOf x=some .cell\/(compEnvC scope (fF X.env.cells scope.names []) s.heap.objs.size X.env).kindOf x=some .free->(x,Xi)∈scope.names:=fun x hx=>by
  rcases hx with hx|hx
  .rcases fW (env:=X.env) hx with z|⟨_,z,_⟩
   .exact absurd rfl (S.nocell _ (mem_of_lookupK z))
   .exact mem_of_lookupK z
  .rcases fW (env:=X.env) hx with z|⟨z,_⟩
   .exact mem_of_lookupK z
   .cases z
 have cellK:∀ x c,X.env.cells.lookup x=some c->∀ v,s.heap.IsCell c v->h'.IsCell c v:=fun x c e v ⟨o,ho,hd⟩=>⟨o,hk c o ho,hd⟩;rw [he];refine ⟨⟨I.ok.mod,S.kind,I.ok.glob,I.ok.blt,mK _,fun x y c h1 h2=>I.ok.inj x y c (J x c h1) (J y c h2),fun x hx=>qR _ _ (.inl (hkind x hx)),fun x c z _=>(nomatch z),I.ok.hd,I.ok.frames,.inl rfl,
  fun b hb=>?_,fun b o e=>I.bs b o e,IF I.ok.bsz I.sz,fun b o e hb=>?_,fun b hb hx=>?_,I.stack,fun b hb=>I.stkFree b hb⟩,
  rfl,I.bare,Un.kept hk,⟨m,hn,fun i x v h1 h2 h3=>?_⟩,fun x c e=>?_,I.hok.fresh (mK _),fun x c e=>I.freeC x c (J x c e),fun p hp=>?_,I.hok.kept hk,?_,WB _⟩
 .obtain ⟨o,ho⟩:=hfo b hb;exact ⟨old b o ho,fun x c e=>(hfp b hb).2.2.2.2.1 x c (J x c e)⟩
 .rcases (hfp b hb).2.2.2.1 with z|z
  .exact I.ok.noex b o e z
  .exact absurd (WE (Wt e) (IF I.ok.bsz z)) (YC _)
 .rcases rW.mp (I.stkSub b hx) with z|z
  .exact (hfp b hb).2.1 z
  .exact (hfp b hb).2.2.1 z
 .-- a captured name
  have L:(nj ix Z)[i]?=some (some v):=h2;unfold nj at L;rw [W4] at L;cases e:ix[i]? with
  | none=>rw [e] at L;cases L
  | some o =>
   rw [e] at L;cases o with
   | none=>cases L
   | some j =>
    obtain ⟨c1,c2⟩:=S.cap i j x e h1;have Y:(Z[j]?).getD none=some v:=WG L;have ej:Z[j]?=some (some v):=by
     cases q:Z[j]? with
     | none=>rw [q] at Y;cases Y
     | some w'=>rw [q] at Y;rw [<- Y];rfl
    have ko:=S.outs _ c2 rfl;obtain ⟨mX,hnX,hl⟩:=I.loc;have vis:yH X.env.scope x:=by
     rcases ko with k|k
     .exact .inr (.inl k)
     .exact .inr (.inr k)
    obtain ⟨u,ru,lk⟩:=hl j x v c1 ej vis;refine ⟨u,ru,.inr ?_⟩;have hcel:∃ c,X.env.cells.lookup x=some c/\s.heap.IsCell c (some u):=by
     rcases lk with ⟨k,_⟩|⟨_,c,e1,e2⟩
     .rcases ko with k'|k'
      .have:X.env.kindOf x=some .cell:=k'
       rw [k] at this;cases this
      .have:X.env.kindOf x=some .free:=k'
       rw [k] at this;cases this
     .exact ⟨c,e1,e2⟩
    obtain ⟨c,e1,e2⟩:=hcel;obtain ⟨c',e3⟩:=qR (cells:=X.env.cells) scope.names [] (.inl c2);have e4:=J x c' e3;rw [e1] at e4;cases e4;refine ⟨?_,c,e3,cellK x c e1 _ e2⟩;rcases h3 with k|k|k
    .rcases fW (env:=X.env) k with z|⟨z,_⟩
     .exact (S.nolf x (mem_of_lookupK z) c2).elim
     .cases z
    .exact .inl k
    .exact .inr k
 .obtain ⟨v,z⟩:=I.cell x c (J x c e);exact ⟨v,cellK x c (J x c e) v z⟩
 .have hp':p∈X.pn++af:=by
   rcases MK.mp hp with z|z
   .exact z
   .cases z
  obtain ⟨e,n,ne,nf,d⟩:=I.pin p hp';refine ⟨hk _ _ e,n,old _ _ e,fun z=>?_,d⟩;rcases rW.mp (I.stkSub _ z) with q|q
  .exact ne q
  .exact nf q
 .show (nj ix Z).length=N.length;unfold nj;rw [eQ];exact S.len
section
variable {prog:Ww} {w:WU} {A:WN} {R:Result->gs->Prop} {s:gs}
def ym {elt J iter:W3} {ifs:List W3} {scope:Scope} {pos:Pos} {it acc:dO} {env:Env} (I:Nat->gs->Prop)
  (turn:∀ n s,I n s->Wv (Wx prog w) A (pyNext it) (fun r L=>match r with
   | none=>R (.ok .next) L
   | some v=>Wv (Wx prog w) A (ZY J it v) (fun _ Y=>Wv (Wx prog w) A (assign J env v) (fun _ s₂ =>
     Wv (Wx prog w) A (forIn ifs true fun c r=>if r=true then do let ok <- isTrue c env (eval c env);pure (ZQ ok) else pure (ZQ r)) (fun ok s₃ =>
      if ok=true then Wv (Wx prog w) A (eval elt env) (fun x s₄ =>
       Wv (Wx prog w) A (call (.builtin "list.append") [acc,x]) (fun _ s₅=>∃ m,m < n/\I m s₅) (notedBy (Wx prog w) A env fun e s'=>R (.error e) s') s₄) (notedBy (Wx prog w) A env fun e s'=>R (.error e) s') s₃
      else ∃ m,m < n/\I m s₃) (notedBy (Wx prog w) A env fun e s'=>R (.error e) s') s₂) (notedBy (Wx prog w) A env fun e s'=>R (.error e) s') Y) (notedBy (Wx prog w) A env fun e s'=>R (.error e) s') L) (notedBy (Wx prog w) A env fun e s'=>R (.error e) s') s)
  (n:Nat) (h:I n s) :
  aai (Wx prog w) A (.compLoop (.ListComp elt [⟨J,iter,ifs,0⟩] scope pos) 0 it acc env) R s:=by
 refine codeAny_loop rfl I (fun n s hI=>?_) n h;show Wv _ A ((compTurn (.ListComp elt [⟨J,iter,ifs,0⟩] scope pos) 0 it acc env).onRaise (fun x=>do noteFrame x env;theTreesLotGoes x)) _ _ s;refine wpAny_noted ?_;rw [compTurn_list];refine bY (wpAny_standAt (bY (W7 (turn n s hI) (fun r L h₁=>?_) fun _ _ h'=>h')));cases r with
 | none=>exact CT h₁
 | some v =>
  refine bY (W7 h₁ (fun _ Y h₁'=>?_) fun _ _ h'=>h');refine bY (W7 h₁' (fun _ s₂ h₂=>bY (W7 h₂ (fun ok s₃ h₃=>?_) fun _ _ h'=>h')) fun _ _ h'=>h');cases ok with
  | false=>exact CT ⟨rfl,h₃⟩
  | true =>
   exact bY (bY (W7 h₃ (fun x s₄ h₄=>bY (W7 h₄ (fun _ s₅ h₅=>CT (CT ⟨rfl,h₅⟩)) fun _ _ h'=>h')) fun _ _ h'=>h'))
end
def LC (X:Cx) (ifs:List W3) (t:TT):Prop :=
 ∀ (af:acI) (s:gs) (Z:St) (H:Hp) (Q:Bool->Hp->Prop),Inv X af Z H s->t Z H Q ->
  Wv (Wx X.prog X.w) X.A (forIn ifs true fun c r=>if r=true then do let ok <- isTrue c X.env (eval c X.env);pure (ZQ ok) else pure (ZQ r)) (TP X af Z Q) X.xe s
def Tg:TT:=fun _ H Q=>Q true H
def Jr {X:Cx}:LC X [] Tg:=fun _ _ _ H _ I h=>wpAny_tests_nil ⟨H,I,h⟩
def IV {X:Cx} {c:W3} {t:TT} (h:PT X c t):LC X [c] t:=fun af s Z H Q I q=>wpAny_tests_one (h af s Z H Q I q)
def xO (g:TG) (tt:TT) (te:TE) (J:It) (σ0:St) (H1:Hp) (Q:VK):Prop:=∀ acc,H1 acc=none->∃ W:Nat->Nat->St->Hp->Prop,
 (∃ m,W 0 m σ0 (upd H1 acc (.lst [])))/\∀ i m L H',W i m L H' ->
  (J.stop i H'/\Q (.ref acc) H')\/(J.go i H'/\∃ M:St->Hp->Prop,(∀ Y H2,M Y H2->∃ m',m' < m/\W (i+1) m' Y H2)/\∀ x H2,J.yld i H' x H2->g x L H2 fun I H3=>tt I H3 fun b H4 =>
   if b=true then te I H4 fun v H5=>∃ xs,H5 acc=some (.lst xs)/\xs.length < Wp/\M I (upd H5 acc (.lst (xs++[v]))) else M I H4)
def BR (ix:List (Option Nat)) (wi:TI) (g:TG) (tt:TT) (te:TE):TE:=fun Z H Q=>wi Z H fun J H1=>xO g tt te J (nj ix Z) H1 Q
section
variable {X:Cx} {osc:Scope} {ON N:acH} {ix:List (Option Nat)} {scope:Scope} {tg elt iter:W3} {ifs:List W3} {pos:Pos} {wi:TI} {g:TG} {tt:TT} {te:TE}
def Gm {af:acI} {Z σ':St} {H H':Hp} {s s':gs} {fp:acL} {cl:List (Str×ID)} (I:Inv X af Z H s) (L:∀ b∈fp,iu X af H b) (J:Inv (tm X N scope ⟨cl,s.heap.objs.size,s,H,fp,af⟩) [] σ' H' s') (ht:X.tn<=s'.toks) :
  Inv X af Z H' s'/\(∃ m,s'.heap.Ns s.heap.objs.size m)/\H' s.heap.objs.size=none/\iu X af H' s.heap.objs.size:=by
 have u:Un (EU X.stack) fp H H' s.heap s'.heap:=J.base;have I1:Inv X af Z H' s':=I.call' J.os u J.hok J.bare fun b Y=>⟨(L b Y).2.2.2.1,(L b Y).2.1,(L b Y).2.2.2.2.1,(L b Y).2.2.2.2.2⟩;obtain ⟨m,hn,_⟩:=J.loc;exact ⟨I1,⟨m,hn⟩,J.free,I.fpOk (mK _) J.free⟩
def v7 {af:acI} {Z:St} {H:Hp} {s:gs} {it:ID} {fp:acL} {tn:Nat->Yy->Prop} {J:It} {Q:VK} {E:acJ} {RR:dO->ID->Result->gs->Prop}
  (S:CScope osc ON N ix scope) (hE:X.env.scope=osc) (hO:X.N=ON) (hc:X.calm=true) (hg:∀ b,PG (tm X N scope b) tg g) (ht:∀ b,LC (tm X N scope b) ifs tt)
  (he:∀ (s0:gs) (H0:Hp) (pl:acI) (s':gs) (σ':St) (H':Hp) (Q':VK) (acc:ID),Inv X af Z H0 s0->(∀ b∈fp,iu X af H0 b)->(∀ b∈fp,∃ o,(b,o)∈pl)->Inv (tm X N scope ⟨fF X.env.cells scope.names [],s0.heap.objs.size,s0,H0,fp,af⟩) ([]++pl) σ' H' s'->te σ' H' Q' ->
   Wv (Wx X.prog X.w) X.A (eval elt (compEnvC scope (fF X.env.cells scope.names []) s0.heap.objs.size X.env)) (EP (tm X N scope ⟨fF X.env.cells scope.names [],s0.heap.objs.size,s0,H0,fp,af⟩) ([]++pl) σ' Q') (notedBy (Wx X.prog X.w) X.A (compEnvC scope (fF X.env.cells scope.names []) s0.heap.objs.size X.env) fun e s''=>X.tn<=s''.toks->RR (.ref acc) s0.heap.objs.size (.error e) s'') s')
  (I:Inv X af Z H s) (T:Turn X.prog X.w X.K tg J fp it tn) (st:tn 0 s.heap) (hfp:∀ b∈fp,iu X af H b) (q:xO g tt te J (nj ix Z) H Q)
  (hRR:∀ (acc C:ID) (H':Hp) (s':gs),Inv X af Z H' s'->(∃ m,s'.heap.Ns C m)->H' C=none->iu X af H' C->Q (.ref acc) H'->RR (.ref acc) C (.ok .next) s') :
  Wv (Wx X.prog X.w) X.A (newList []) (fun acc s₃=>Wv (Wx X.prog X.w) X.A (newFunctionEnv scope X.env.globals (fF X.env.cells scope.names []) [] X.env.qual none .none (some X.env)) (fun cenv s₄ =>
   aai (Wx X.prog X.w) X.A (.compStart (.ListComp elt [⟨tg,iter,ifs,0⟩] scope pos) 0 (.ref it) acc { cenv with scope:=relabel scope X.env }) (RR acc cenv.locals) s₄) E s₃) E s:=by
 refine Xk (wpAny_newFunctionEnv S.nocell (by intro y hy;simp at hy) (fun h₁ hns₁ hsb₁=>?_) S.kind);dsimp only at hns₁ hsb₁ ⊢
 have I3:Inv X af Z (upd H s.heap.objs.size (.lst [])) { s with heap:=s.heap.push { cls:=.type "list",dict:=none,data:=.seq ([]:acM).toArray } } :=
  I.laid (t':=s.toks) (fun b o e=>lT _ e) (mK _) (show bX X.prog X.w _ _ _ (.lst []) from ⟨WB _,[],_,.nil,Wr _ rfl⟩)
 have hacc:H s.heap.objs.size=none:=I.hok.fresh (mK _);have hfo:∀ b∈fp,∃ o,s.heap.get? b=some o:=fun b L=>let ⟨o,e,_⟩:=T.obj 0 _ st b L;⟨o,e⟩;have fne:∀ b∈fp,b≠s.heap.objs.size:=fun b L=>let ⟨o,e⟩:=hfo b L;WK (Wt e);have hfp3:∀ b∈fp,iu X af (upd H s.heap.objs.size (.lst [])) b:=fun b L=>⟨by rw [aP (fne b L)];exact (hfp b L).1,(hfp b L).2⟩;obtain ⟨W,⟨m0,w0⟩,turn⟩:=q s.heap.objs.size hacc;generalize hH2:s.heap.push { cls:=.type "list",dict:=none,data:=.seq ([]:acM).toArray }=h2 at *;have hk1:∀ b o,h2.get? b=some o->h₁.get? b=some o:=fun b o e=>hsb₁.extBut b o (WK (Wt e)) (lT _ e);have old:∀ b o,s.heap.get? b=some o->h2.get? b=some o:=fun b o e=>by rw [<- hH2];exact lT _ e
 have fin:∀ s₄:gs,s₄={ s with heap:=h₁,toks:=s₄.toks }->X.tn<=s₄.toks->aai (Wx X.prog X.w) X.A (.compLoop (.ListComp elt [⟨tg,iter,ifs,0⟩] scope pos) 0 (.ref it) (.ref s.heap.objs.size) (compEnvC scope (fF X.env.cells scope.names []) h2.objs.size X.env))
   (RR (.ref s.heap.objs.size) h2.objs.size) s₄:=by
  intro s₄ e4 ht4;refine gR ht4 ?_;have J0:Inv (tm X N scope ⟨fF X.env.cells scope.names [],h2.objs.size,{ s with heap:=h2 },upd H s.heap.objs.size (.lst []),fp,af⟩) [] (nj ix Z) (upd H s.heap.objs.size (.lst [])) s₄ :=
   IH (s:={ s with heap:=h2 }) I3 hE hO S hfp3 (fun b L=>let ⟨o,e⟩:=hfo b L;⟨o,old b o e⟩) hns₁ hk1 e4
  generalize hX:tm X N scope ⟨fF X.env.cells scope.names [],h2.objs.size,{ s with heap:=h2 },upd H s.heap.objs.size (.lst []),fp,af⟩=Y at J0;have eE:compEnvC scope (fF X.env.cells scope.names []) h2.objs.size X.env=Y.env:=by rw [<- hX];rfl
  have eP:X.prog=Y.prog:=by rw [<- hX];rfl
  have eW:X.w=Y.w:=by rw [<- hX];rfl
  have eA:X.A=Y.A:=by rw [<- hX];rfl
  have eK:X.K=Y.K:=by rw [<- hX];rfl
  have eC:Y.calm=true:=by rw [<- hX];exact hc
  have T':Turn Y.prog Y.w Y.K tg J fp it tn:=by rw [<- eP,<- eW,<- eK];exact T
  have st0:tn 0 s₄.heap:=T.keep _ _ _ st fun b L o e=>by rw [e4];exact hk1 b o (old b o e)
  have fpY:∀ {H':Hp},(∀ b∈fp,H' b=none)->∀ b∈fp,iu Y [] H' b:=fun {H'} hn b L=>by
   rw [<- hX];have f:=hfp b L;refine ⟨hn b L,?_,?_,.inl L,?_,?_⟩
   .have:=J0.ok.exf b (by rw [<- hX];exact L)
    rw [<- hX] at this;exact this.1
   .have:=J0.ok.exfs b (by rw [<- hX];exact L)
    rw [<- hX] at this;exact this
   .have:=J0.ok.exf b (by rw [<- hX];exact L)
    rw [<- hX] at this;exact this.2
   .intro p hp;have hp':p∈X.pn++af:=by
     rcases MK.mp hp with z|z
     .exact z
     .cases z
    exact f.2.2.2.2.2 p hp'
  have accne:s.heap.objs.size∉fp:=fun z=>fne _ z rfl;have never:∀ e s',Y.xe e s'->False:=by rw [<- hX];exact fun _ _ z=>z
  have hgY:PG Y tg g:=by rw [<- hX];exact hg _
  have htY:LC Y ifs tt:=by rw [<- hX];exact ht _
  rw [eE,eP,eW,eA];refine ym (fun n s'=>∃ i σ' H',Inv Y [] σ' H' s'/\tn i s'.heap/\(∀ b∈fp,H' b=none)/\W i n σ' H') ?_ m0 ⟨0,nj ix Z,_,J0,st0,fun b L=>(hfp3 b L).1,w0⟩;rintro n s5 ⟨i,σ5,H5,I5,st5,fr5,w5⟩;rcases turn i n σ5 H5 w5 with ⟨stop,qn⟩|⟨go,M,hM,step⟩
  .refine cU (T'.done Y rfl rfl rfl eC i [] s5 σ5 H5 _ I5 (fpY fr5) st5 stop) fun r s6 ⟨hr,I6⟩=>?_;subst hr;have I6':=I6;rw [<- hX] at I6';intro htk;obtain ⟨a1,a2,a3,a4⟩:=Gm (s:={ s with heap:=h2 }) I3 hfp3 I6' htk;exact hRR _ _ H5 s6 a1 a2 a3 a4 qn
  .refine cU (T'.item Y rfl rfl rfl eC i [] s5 σ5 H5 _ I5 (fpY fr5) st5 go) fun r s6 ⟨u,hr,h6⟩=>?_;subst hr;refine cU h6 fun _ s7 ⟨x,H7,I7,r7,y7,st7,fr7⟩=>?_;have I7':=I7.pinned (fpY fr7) (T.obj _ _ st7);refine W7 (hgY _ s7 σ5 H7 x u _ I7' r7 (step x H7 y7)) (fun _ s8 ⟨σ8,H8,I8,q8⟩=>?_) fun e s' z=>(never e s' z).elim;refine W7 (htY _ s8 σ8 H8 _ I8 q8) (fun ok s9 ⟨H9,I9,q9⟩=>?_) fun e s' z=>(never e s' z).elim;have again:∀ {σa:St} {Ha:Hp} {sa:gs},Inv Y ([]++pO fp s7.heap) σa Ha sa->M σa Ha->∃ m,m < n/\∃ i σ' H',Inv Y [] σ' H' sa/\tn i sa.heap/\(∀ b∈fp,H' b=none)/\W i m σ' H':=fun {σa Ha sa} Ia na=>by
    obtain ⟨m',hm,wa⟩:=hM σa Ha na;refine ⟨m',hm,i+1,σa,Ha,Ia.unpinned,T.keep _ _ _ st7 fun b L o e=>(Ia.pin (b,o) (Wu _ (Wu _ (gK L e)))).1,fun b L=>?_,wa⟩;obtain ⟨o,e,d⟩:=T.obj _ _ st7 b L;exact (Ia.pin (b,o) (Wu _ (Wu _ (gK L e)))).2.1
   cases ok with
   | false =>
    rw [acB iF] at q9 ⊢;exact again I9 q9
   | true =>
    rw [acA rfl] at q9 ⊢;have I9':=I9;rw [<- hX] at I9';rw [<- eP,<- eW,<- eA,<- eE];refine W7 (he { s with heap:=h2 } _ _ s9 σ8 H9 _ _ I3 hfp3 (fun b L=>let ⟨o,e,d⟩:=T.obj _ _ st7 b L;⟨o,gK L e⟩) I9' q9) (fun y sb ⟨vb,Hb,Ib',rb,xs,hx,hz,nb⟩=>?_) fun _ _ z=>z;have Ib:Inv Y ([]++pO fp s7.heap) σ8 Hb sb:=by rw [<- hX];exact Ib'
    rw [eP,eW,eA];refine W7 (vT (X:=Y) _ sb σ8 Hb (.ref s.heap.objs.size) [vb] (.ref s.heap.objs.size) [y] (fun v H'=>M σ8 H') Ib rfl (.cons rb .nil) ⟨s.heap.objs.size,xs,vb,rfl,rfl,hx,hz,nb⟩) (fun _ sc ⟨vc,Hc,Ic,rc,nc⟩=>?_) fun e s' z=>(never e s' z).elim;exact again Ic nc
 exact codeAny_compStart_list (fin _ rfl (by walk_at "tok")) (T.self _ 0 _ _ _ (T.keep _ _ _ st fun b L o e=>hk1 b o (old b o e)) (fin _ rfl (by walk_at "tok")))
def E3 (S:CScope osc ON N ix scope) (hE:X.env.scope=osc) (hO:X.N=ON) (hc:X.calm=true) (hi:PI X tg iter wi) (hg:∀ b,PG (tm X N scope b) tg g) (ht:∀ b,LC (tm X N scope b) ifs tt) (he:∀ b,PE (tm X N scope b) elt te)
  (hs:∀ x,XG iter X.env x=pure x:=by intro _;rfl):PE X (.ListComp elt [⟨tg,iter,ifs,0⟩] scope pos) (BR ix wi g tt te):=by
 intro af s Z H Q I h;rw [eval_ListComp];have L:∀ y∈scope.names,y.2=.free->∃ c,X.env.cells.lookup y.1=some c:=fun y hy e=>I.ok.has y.1 (by subst hE;exact S.outs y hy e);refine wpAny_comprehension_free (use:=none) rfl hs (mG L) S.kind S.names (cU (hi af s Z H _ I h) fun v s1 h1=>cU h1 fun itv s2 h2=>?_);obtain ⟨it,fp,tn,J,H2,e,I2,T,st2,f2,q⟩:=h2;subst e;refine v7 (RR:=fun acc C=>compPost (Wx X.prog X.w) X.A X.xe none (EP X af Z Q) acc C) S hE hO hc hg ht (fun s0 H0 pl s' Y H' Q' acc _ _ _ I' q'=>W7 (he _ _ s' Y H' Q' I' q') (fun _ _ z=>z) fun _ _ z=>z.elim) I2 T st2 f2 q fun acc C H' s' I' hn hC fC q'=>?_;obtain ⟨m,hn⟩:=hn;refine ⟨m,hn,fun h' sb=>⟨.ref acc,H',?_,rfl,q'⟩⟩;obtain ⟨f0,f1,f2',f3,f4,f5⟩:=fC;exact I'.turned (t':=s'.toks) (fun b o hb e=>(sb.2 b hb).trans e) f0 f1 f3 f4 f5
def BE {i:Nat} {x:Str} {spos pos':Pos} (hN:X.N.Nodup) (hx:X.N[i]?=some x) (hl:C3 X.env.scope x) (S:CScope osc ON N ix scope) (hE:X.env.scope=osc) (hO:X.N=ON) (hc:X.calm=true) (hi:PI X tg iter wi) (hg:∀ b,PG (tm X N scope b) tg g) (ht:∀ b,LC (tm X N scope b) ifs tt) (he:∀ b,PE (tm X N scope b) elt te)
  (hsw:YL (.ListComp elt [⟨tg,iter,ifs,0⟩] scope pos) (some (.Name x pos')) spos.line X.env=pure true:=by rfl)
  (hf:X.fn x=true\/X.env.scope.names.lookup x=some .local:=by walk_at"u")
  (hs:∀ x,XG iter X.env x=pure x:=by intro _;rfl):PS X (.Assign [.Name x pos'] (.ListComp elt [⟨tg,iter,ifs,0⟩] scope pos) spos) (zY (BR ix wi g tt te) (qJ i)):=by
 intro af s Z H D I h;rw [exec_Assign_Name_used _ _ _ _ hsw];refine bY (wpAny_standAt (bY ?_));have L:∀ y∈scope.names,y.2=.free->∃ c,X.env.cells.lookup y.1=some c:=fun y hy e=>I.ok.has y.1 (by subst hE;exact S.outs y hy e);show Wv _ X.A (do let _ <- comprehension (.ListComp elt [⟨tg,iter,ifs,0⟩] scope pos) scope X.env _ (newList []) false (eval iter X.env) (some (assign (.Name x pos') X.env))) _ _ s;refine bY (W7 (wpAny_comprehension_free (use:=some (assign (.Name x pos') X.env)) (Q:=fun _ s'=>SP X af D .next s') rfl hs (mG L) S.kind S.names
  (cU (hi af s Z H _ I h) fun v s1 h1=>cU h1 fun itv s2 h2=>?_)) (fun _ s' hq=>CT (CT hq)) fun _ _ e=>e)
 obtain ⟨it,fp,tn,J,H2,e,I2,T,st2,f2,q⟩:=h2;subst e;refine v7 (RR:=fun acc C=>compPost (Wx X.prog X.w) X.A X.xe (some (assign (.Name x pos') X.env)) (fun _ s'=>SP X af D .next s') acc C) S hE hO hc hg ht (fun s0 H0 pl s' σ' H' Q' acc _ _ _ I' q'=>W7 (he _ _ s' σ' H' Q' I' q') (fun _ _ z=>z) fun _ _ z=>z.elim) I2 T st2 f2 q fun acc C H' s' I' hn hC fC q'=>?_;obtain ⟨m,hn⟩:=hn;have hob:∃ o,s'.heap.get? C=some o/\∀ v,o.data≠.cell v:=by
  obtain ⟨o,es,ep,ho,hd,_⟩:=hn;exact ⟨o,ho,fun v z=>by rw [hd] at z;cases z⟩
 have only:∀ b∈[C],b=C:=fun b Y=>by simpa using Y
 have I1:=I'.pinned (fp:=[C]) (fun b Y=>(only b Y) ▸ fC) (fun b Y=>(only b Y) ▸ hob);refine W7 (BV (pos:=pos') hN hx hl hf (af++pO [C] s'.heap) s' Z H' (.ref acc) (.ref acc) D.nx I1 rfl q') (fun _ s'' ⟨σ2,H2,I2',q2⟩=>?_) fun _ _ z=>z;obtain ⟨o,ho,hd⟩:=hob;have pn:=I2'.pin (C,o) (Wu _ (Wu _ (gK (by simp) ho)));refine ⟨m,hn.at' fun o' e=>by rw [ho] at e;cases e;exact pn.1,fun h' sb=>⟨σ2,H2,?_,q2⟩⟩;obtain ⟨f0,f1,f2',f3,f4,f5⟩:=fC;exact I2'.unpinned.turned (t':=s''.toks) (fun b o Y e=>(sb.2 b Y).trans e) pn.2.1 f1 f3 f4 f5
end
def uv {P:Ww} {w:WU} {K:aT} {tg:W3} {it:ID} {n:Nat} {St:Nat->Yy->Prop} {Pv:Nat->dO->Prop} {J:It} (W:∀ A:WN,A.handled=none->Walks P w A it [it] [it] n Pv St)
  (ob:∀ i h,St i h->∃ (o:Obj) (nm:String) (vs:Array dO),h.get? it=some o/\o.cls=.type nm/\o.data=.fields vs/\["enumerate","zip","dict_itemiterator","dict_reverseitemiterator","odict_iterator","itertools.zip_longest","itertools.pairwise"].contains nm=false)
  (go:∀ i H,J.go i H->i < n) (yl:∀ i H u,J.go i H->Pv i u->∃ x,bg x u/\J.yld i H x H) (dn:∀ i h H,J.stop i H->St i h->St n h)
  (self:∀ (A:WN) (i:Nat) (s:gs) (Q:acJ) (E:acJ),St i s.heap->Q (.ref it) s->Wv (Wx P w) A (acs (.ref it)) Q E s):Turn P w K tg J [it] it St where
 mem:=by simp
 obj:=fun i h st b L=>by
  have e:b=it:=by simpa using L
  subst e;obtain ⟨o,nm,vs,h1,h2,h3,h4⟩:=ob i h st;exact ⟨o,h1,fun v z=>by rw [h3] at z;cases z⟩
 keep:=fun i h h' st k=>(W {} rfl).frame i h h' st fun b L o e=>k b L o e
 item:=by
  intro X hP hw hK hc i af s Z H E I hf st hg;subst hP hw hK;obtain ⟨f0,f1,f2,f3,f4,f5⟩:=hf it (by simp);refine bo I.tk ((W X.A (I.ok.hd hc)).item i s _ _ (go i H hg) st fun v h' tk hv Y kk htk=>?_);have I1:Inv X af Z H { s with heap:=h',toks:=tk }:=I.turned (fun b o L e=>kk b o (by simpa using L) e) f0 f1 f3 f4 f5;obtain ⟨x,rx,yx⟩:=yl i H v hg hv;obtain ⟨o,nm,vs,h1,h2,h3,h4⟩:=ob (i+1) h' Y;exact ⟨v,rfl,wJ (s:={ s with heap:=h',toks:=tk }) h1 h2 h3 h4 ⟨x,H,I1,rx,yx,Y,fun b L=>(hf b L).1⟩⟩
 done:=by
  intro X hP hw hK hc i af s Z H E I hf st hg;subst hP hw hK;obtain ⟨f0,f1,f2,f3,f4,f5⟩:=hf it (by simp);exact bo I.tk ((W X.A (I.ok.hd hc)).done s _ _ (dn i s.heap H hg st) fun h' tk kk htk=>⟨rfl,I.turned (fun b o L e=>kk b o (by simpa using L) e) f0 f1 f3 f4 f5⟩)
 self:=self
def N4 (z:Str):It:=⟨fun i _=>i < z.length,fun i H x H'=>H'=H/\∃ c,z.cps[i]?=some c/\x=.str ⟨#[c]⟩,fun i _=>i=z.length⟩
def GP {z:Str} {i:Nat} {H:Hp} {u:dO} (h:SignAt z i u):∃ x,bg x u/\(N4 z).yld i H x H:=by
 obtain ⟨c,t,I,rfl⟩:=h;exact ⟨.str ⟨#[c]⟩,⟨t,rfl⟩,rfl,c,I,rfl⟩
def AG {P:Ww} {w:WU} {K:aT} {tg:W3} (it:ID) (z:Str) (t:Tok):Turn P w K tg (N4 z) [it] it (fun i h=>h.IsStrIter it "str_ascii_iterator" z t i) :=
 uv (n:=z.cps.size) (Pv:=SignAt z) (fun A J=>Walks.strAscii J it z t) (fun i h ⟨o,e,c,d⟩=>⟨o,_,_,e,c,d,by decide⟩) (fun i H h=>h) (fun i H u _ h=>GP h) (fun i h H e st=>by
  have I:i=z.cps.size:=e;rw [<- I];exact st) fun A i s Q E st h=>wpAny_pyIter_striter_ascii st h
def En {P:Ww} {w:WU} {K:aT} {tg:W3} (it:ID) (z:Str) (t:Tok):Turn P w K tg (N4 z) [it] it (fun i h=>h.IsStrIter it "str_iterator" z t i) :=
 uv (n:=z.cps.size) (Pv:=SignAt z) (fun A J=>Walks.strWide J it z t) (fun i h ⟨o,e,c,d⟩=>⟨o,_,_,e,c,d,by decide⟩) (fun i H h=>h) (fun i H u _ h=>GP h) (fun i h H e st=>by
  have I:i=z.cps.size:=e;rw [<- I];exact st) fun A i s Q E st h=>wpAny_pyIter_striter_wide st h
def PE.imp {X:Cx} {e:W3} {t t':TE} (h:PE X e t) (i:∀ Z H Q,t' Z H Q->t Z H Q):PE X e t':=fun af s Z H Q I q=>h af s Z H Q I (i Z H Q q)
def fb.imp {X:Cx} {f:dO->dO->Sem dO} {r r':R2} (h:fb X f r) (i:∀ x y H Q,r' x y H Q->r x y H Q):fb X f r':=fun af s Z H x y v u Q I a b q=>h af s Z H x y v u Q I a b (i x y H Q q)
def Kn.imp {X:Cx} {f:dO->Sem dO} {r r':V->Hp->VK->Prop} (h:Kn X f r) (i:∀ x H Q,r' x H Q->r x H Q):Kn X f r':=fun af s Z H x v Q I a q=>h af s Z H x v Q I a (i x H Q q)
def cj.imp {X:Cx} {f:dO} {r r':acN->Hp->VK->Prop} (h:cj X f r) (i:∀ xs H Q,r' xs H Q->r xs H Q):cj X f r':=fun af s Z H xs us Q I a q=>h af s Z H xs us Q I a (i xs H Q q)
def Ao.imp {X:Cx} {r r':R2} (h:Ao X r) (i:∀ x y H Q,r' x y H Q->r x y H Q):Ao X r':=fun value J af s Z H x y v u Q I rx L q Y=>h value J af s Z H x y v u Q I rx L (i x y H Q q) Y
def zU.imp {X:Cx} {r r':V->Option Int->Option Int->Hp->VK->Prop} (h:zU X r) (i:∀ x l u H Q,r' x l u H Q->r x l u H Q):zU X r':=fun af s Z H x v vl vu lo hi L Q I rx Y pl J q=>h af s Z H x v vl vu lo hi L Q I rx Y pl J (i x lo hi H Q q)
section
variable {X:Cx} {a b:W3} {ta tb:TE} {pos:Pos} {rest:List W3}
def rV (o:Option (Option V)) (H:Hp) (Q:VK):Prop:=match o with
 | some (some v)=>Q v H
 | _=>False
def vM (i:Nat):TE:=fun Z H Q=>rV Z[i]? H Q
def qv (i:Nat) {x:Str} {pos:Pos} (L:X.N[i]?=some x:=by rfl) (J:yH X.env.scope x:=by walk_at"v") (hd:acP x:=by decide)
  (I:(x==("__classdict__":Str))=false:=by decide):PE X (.Name x pos) (vM i):=(E6 L J hd I).imp fun Z H Q q=>by
 unfold vM rV at q;split at q
 .rename_i v e;exact ⟨v,e,q⟩
 .exact q.elim
def UV (tb:TE) (Z:St) (Q:VK):VK:=fun x H1=>match x with
 | .bl c=>if c=true then tb Z H1 Q else Q (.bl false) H1
 | _=>False
def OQ (ta tb:TE):TE:=fun Z H Q=>ta Z H (UV tb Z Q)
def kOr (tb:TE) (Z:St) (Q:VK):VK:=fun x H1=>match x with
 | .bl c=>if c=true then Q (.bl true) H1 else tb Z H1 Q
 | _=>False
def Wi (ta tb:TE):TE:=fun Z H Q=>ta Z H (kOr tb Z Q)
def MQ (Y:PE X a ta) (hb:PE X (.BoolOp .And (b::rest) pos) tb):PE X (.BoolOp .And (a::b::rest) pos) (OQ ta tb):=by
 intro af s Z H Q I h;refine BoolOp_and (cU (Y af s Z H _ I h) fun v s1 hh=>nY hh fun x H1 L r1 J=>?_);cases x with
 | bl c =>
  cases r1;refine Zt ?_;cases c with
  | true=>exact hb af s1 Z H1 Q L J
  | false=>exact ⟨.bl false,H1,L,rfl,J⟩
 | _=>exact J.elim
def S9 (Y:PE X a ta) (hb:PE X (.BoolOp .Or (b::rest) pos) tb):PE X (.BoolOp .Or (a::b::rest) pos) (Wi ta tb):=by
 intro af s Z H Q I h;refine BoolOp_or (cU (Y af s Z H _ I h) fun v s1 hh=>nY hh fun x H1 L r1 J=>?_);cases x with
 | bl c =>
  cases r1;refine Zt ?_;cases c with
  | false=>exact hb af s1 Z H1 Q L J
  | true=>exact ⟨.bl true,H1,L,rfl,J⟩
 | _=>exact J.elim
def Ls (Q:Bool->Hp->Prop):VK:=fun x H'=>match x with
 | .bl k=>Q k H'
 | _=>False
def K1 (t:TE):TT:=fun Z H Q=>t Z H (Ls Q)
def J9 {op:CmpOp} {r:R2} (ho:fb X (WR op) r) (ha:PE X a ta) (hb:PE X b tb) (hm:Yu op b=false):PT X (.Compare a [op] [b] pos) (K1 (A7 r ta tb)):=by
 intro af s Z H Q I h;refine wpAny_isTrue_Compare1 (cU (ha af s Z H _ I h) fun v s1 J=>nY J fun x H1 I1 r1 q1=>cU (hb af s1 Z H1 _ I1 q1) fun u s2 J=>nY J fun y H2 I2 r2 Y =>
  cU (ho af s2 Z H2 x y v u _ I2 r1 r2 Y) fun c s3 J=>nY J fun z H3 I3 r3 L=>?_) hm
 cases z with
 | bl k =>
  cases r3;exact Zt ⟨H3,I3,L⟩
 | _=>exact L.elim
def U7 (K:aT) (Q:Bool->Hp->Prop):VK:=fun x H=>match x with
 | .non=>Q false H
 | .bl b=>Q b H
 | .int i=>Q (i != 0) H
 | .str y=>y.length<=Wp/\Q ((y.length:Int) != 0) H
 | .ref p=>((∃ xs,gp K H p xs/\Q (!xs.isEmpty) H)\/(∃ xs,j3 K H p xs/\Q (!xs.isEmpty) H))\/∃ kvs,H p=some (.dK kvs)/\Q (!kvs.isEmpty) H
 | _=>False
def GG (K:aT) (ta:TE):TT:=fun Z H Q=>ta Z H (U7 K Q)
def Gk (K:aT) (Y:PE X a ta) (he:∀ J,isTrue a X.env J=(do let v <- J;ab4 a.pos;holding [v] (truthy v))) (hK:X.K=K:=by rfl) :
  PT X a (GG K ta):=by
 subst hK;intro af s Z H Q I h;refine isTrue_plain (cU (Y af s Z H _ I h) fun v s1 hh=>nY hh fun x H1 I1 r1 L=>Nz af s1 Z H1 x v Q I1 r1 ?_) (he _);cases x with
 | non=>exact ⟨_,rfl,L⟩
 | bl b=>exact ⟨_,rfl,L⟩
 | int i=>exact ⟨_,rfl,L⟩
 | str y=>exact ⟨_,⟨L.1,rfl⟩,L.2⟩
 | ref p =>
  rcases L with (⟨xs,h1,h2⟩|⟨xs,h1,h2⟩)|⟨xs,h1,h2⟩
  .exact ⟨_,.inl ⟨xs,h1,rfl⟩,h2⟩
  .exact ⟨_,.inr (.inl ⟨xs,h1,rfl⟩),h2⟩
  .exact ⟨_,.inr (.inr ⟨xs,h1,rfl⟩),h2⟩
 | _=>exact L.elim
def NX:R2:=fun x y H Q=>match x,y with
 | .int i,.int j=>Q (.int (i - j)) H
 | _,_=>False
def Ed:fb X (X9 .Sub) NX:=LO.imp fun x y H Q q=>by
 unfold NX at q;split at q
 .exact ⟨_,_,rfl,rfl,q⟩
 .exact q.elim
def NP:R2:=fun x y H Q=>match x,y with
 | .int i,.int j=>Gx i j/\Q (.int (i/j)) H
 | _,_=>False
def UF:fb X (X9 .FloorDiv) NP:=Kg.imp fun x y H Q q=>by
 unfold NP at q;split at q
 .exact ⟨_,_,rfl,rfl,q.1,q.2⟩
 .exact q.elim
def NL:R2:=fun x y H Q=>match x,y with
 | .int i,.int j=>0 < j/\Q (.int (i % j)) H
 | _,_=>False
def U4:fb X (X9 .Mod) NL:=MN.imp fun x y H Q q=>by
 unfold NL at q;split at q
 .exact ⟨_,_,rfl,rfl,q.1,q.2⟩
 .exact q.elim
def LK:R2:=fun x y H Q=>match x,y with
 | .int i,.int j=>He i j/\Q (.int (i ^ j.toNat)) H
 | _,_=>False
def Ja:fb X (X9 .Pow) LK:=LN.imp fun x y H Q q=>by
 unfold LK at q;split at q
 .exact ⟨_,_,rfl,rfl,q.1,q.2⟩
 .exact q.elim
def NY (x:V) (H:Hp) (Q:VK):Prop:=match x with
 | .int i=>Q (.int (-i)) H
 | _=>False
def Fb:Kn X (unaryOp .USub) NY:=Mg.imp fun x H Q q=>by
 unfold NY at q;split at q
 .exact ⟨_,rfl,q⟩
 .exact q.elim
def DD:fb X (WR .GtE) (fun x y H Q=>∃ i j,x=.str i/\y=.str j/\Q (.bl (!decide (i.cps.toList < j.cps.toList))) H):=by
 intro af s Z H x y v u Q I L J h;obtain ⟨i,j,rfl,rfl,q⟩:=h;obtain ⟨t,rfl⟩:=L;obtain ⟨t',rfl⟩:=J;exact P.ge_str (aU I q rfl)
def Dl:fb X (WR .Gt) (fun x y H Q=>∃ i j,x=.str i/\y=.str j/\Q (.bl (decide (j.cps.toList < i.cps.toList))) H):=by
 intro af s Z H x y v u Q I L J h;obtain ⟨i,j,rfl,rfl,q⟩:=h;obtain ⟨t,rfl⟩:=L;obtain ⟨t',rfl⟩:=J;exact P.gt_str (aU I q rfl)
def TM:R2:=fun x y H Q=>match x,y with
 | .int i,.int j=>Q (.bl (decide (i < j))) H
 | .str i,.str j=>Q (.bl (decide (i.cps.toList < j.cps.toList))) H
 | _,_=>False
def UC:R2:=fun x y H Q=>match x,y with
 | .int i,.int j=>Q (.bl (decide (j < i))) H
 | .str i,.str j=>Q (.bl (decide (j.cps.toList < i.cps.toList))) H
 | _,_=>False
def UL:R2:=fun x y H Q=>match x,y with
 | .int i,.int j=>Q (.bl (decide (j<=i))) H
 | .str i,.str j=>Q (.bl (!decide (i.cps.toList < j.cps.toList))) H
 | _,_=>False
def DH:fb X (WR .Lt) TM:=(Ss.or EK).imp fun x y H Q q=>by
 unfold TM at q;split at q
 .exact .inl ⟨_,_,rfl,rfl,q⟩
 .exact .inr ⟨_,_,rfl,rfl,q⟩
 .exact q.elim
def N3:fb X (WR .Gt) UC:=(Qn.or Dl).imp fun x y H Q q=>by
 unfold UC at q;split at q
 .exact .inl ⟨_,_,rfl,rfl,q⟩
 .exact .inr ⟨_,_,rfl,rfl,q⟩
 .exact q.elim
def oGe:fb X (WR .GtE) UL:=(Ou.or DD).imp fun x y H Q q=>by
 unfold UL at q;split at q
 .exact .inl ⟨_,_,rfl,rfl,q⟩
 .exact .inr ⟨_,_,rfl,rfl,q⟩
 .exact q.elim
def FW:fb X (WR .Is) (fun x y H Q=>∃ j,y=.bl j/\Q (.bl (decide (x=.bl j))) H):=by
 intro af s Z H x y v u Q I J L h;obtain ⟨j,rfl,q⟩:=h;cases L;cases x with
 | bl i=>cases J;exact Yx rfl (aU I q (by cases i <;> cases j <;> rfl))
 | non=>cases J;exact Yx rfl (aU I q (by simp))
 | int i=>obtain ⟨t,rfl⟩:=J;exact Yx rfl (aU I q (by simp))
 | str i=>obtain ⟨t,rfl⟩:=J;exact Yx rfl (aU I q (by simp))
 | byt i=>obtain ⟨t,rfl⟩:=J;exact Yx rfl (aU I q (by simp))
 | flt i=>obtain ⟨t,rfl⟩:=J;exact Yx rfl (aU I q (by simp))
 | ref i=>cases J;exact Yx rfl (aU I q (by simp))
 | ty i=>cases J;exact Yx rfl (aU I q (by simp))
def zG:fb X (WR .IsNot) (fun x y H Q=>∃ j,y=.bl j/\Q (.bl (!decide (x=.bl j))) H):=by
 intro af s Z H x y v u Q I J L h;obtain ⟨j,rfl,q⟩:=h;cases L;cases x with
 | bl i=>cases J;exact XY rfl (aU I q (by cases i <;> cases j <;> rfl))
 | non=>cases J;exact XY rfl (aU I q (by simp))
 | int i=>obtain ⟨t,rfl⟩:=J;exact XY rfl (aU I q (by simp))
 | str i=>obtain ⟨t,rfl⟩:=J;exact XY rfl (aU I q (by simp))
 | byt i=>obtain ⟨t,rfl⟩:=J;exact XY rfl (aU I q (by simp))
 | flt i=>obtain ⟨t,rfl⟩:=J;exact XY rfl (aU I q (by simp))
 | ref i=>cases J;exact XY rfl (aU I q (by simp))
 | ty i=>cases J;exact XY rfl (aU I q (by simp))
def Ch:V->V->Bool
 | .non,.non=>true
 | .bl i,.bl j=>i==j
 | _,_=>false
def UR:R2:=fun x y H Q=>match y with
 | .non=>Q (.bl (Ch x .non)) H
 | .bl j=>Q (.bl (Ch x (.bl j))) H
 | _=>False
def AQ:R2:=fun x y H Q=>match y with
 | .non=>Q (.bl (!Ch x .non)) H
 | .bl j=>Q (.bl (!Ch x (.bl j))) H
 | _=>False
def C5 (x:V):decide (x=.non)=Ch x .non:=by cases x <;> simp [Ch]
def FQ (x:V) (j:Bool):decide (x=.bl j)=Ch x (.bl j):=by
 cases x with
 | bl i=>cases i <;> cases j <;> rfl
 | _=>simp [Ch]
def Qk:fb X (WR .Is) UR:=(Nx.or FW).imp fun x y H Q q=>by
 unfold UR at q;split at q
 .exact .inl ⟨rfl,by rw [C5];exact q⟩
 .exact .inr ⟨_,rfl,by rw [FQ];exact q⟩
 .exact q.elim
def ND:fb X (WR .IsNot) AQ:=(Kq.or zG).imp fun x y H Q q=>by
 unfold AQ at q;split at q
 .exact .inl ⟨rfl,by rw [C5];exact q⟩
 .exact .inr ⟨_,rfl,by rw [FQ];exact q⟩
 .exact q.elim
def Oa (K:aT):R2:=fun x y H Q=>match x,y with
 | .str z,.int i=>∃ c,z.length<=Wp/\atI z.cps.toList i=some c/\Q (.str ⟨#[c]⟩) H
 | .ref p,.int i=>∃ xs v,(gp K H p xs\/j3 K H p xs)/\atI xs i=some v/\Q v H
 | _,_=>False
def UZ:Ao X (Oa X.K):=LH.imp fun x y H Q q=>by
 unfold Oa at q;split at q
 .obtain ⟨c,h1,h2,I⟩:=q;exact .inr (.inr ⟨_,_,c,rfl,rfl,h1,h2,I⟩)
 .obtain ⟨xs,v,h1|h1,h2,I⟩:=q
  .exact .inl ⟨_,xs,_,v,rfl,rfl,h1,h2,I⟩
  .exact .inr (.inl ⟨_,xs,_,v,rfl,rfl,h1,h2,I⟩)
 .exact q.elim
def Wl (K:aT) (I:X.K=K:=by rfl):Ao X (Oa K):=by
 subst I;exact UZ
def Jg (K:aT) (xs:acN) (H:Hp) (Q:VK):Prop:=match xs with
 | [.str y]=>y.length<=Wp/\Q (.int y.length) H
 | [.ref p]=>∃ ys,(gp K H p ys\/j3 K H p ys)/\Q (.int ys.length) H
 | _=>False
def Sb:cj X (.builtin "len") (Jg X.K):=(wW.or yq).imp fun xs H Q q=>by
 unfold Jg at q;split at q
 .exact .inl ⟨_,rfl,q.1,q.2⟩
 .obtain ⟨ys,h1,h2⟩:=q;exact .inr ⟨_,ys,rfl,h1,h2⟩
 .exact q.elim
def oP (K:aT) (I:X.K=K:=by rfl):cj X (.builtin "len") (Jg K):=by
 subst I;exact Sb
def Nm (xs:acN) (H:Hp) (Q:VK):Prop:=match xs with
 | [.int i]=>Q (.int i) H
 | [.bl k]=>Q (.int (if k=true then 1 else 0)) H
 | _=>False
def U6:cj X (.type "int") Nm:=EH.imp fun xs H Q q=>by
 unfold Nm at q;split at q
 .exact .inl ⟨_,rfl,q⟩
 .exact .inr ⟨_,rfl,q⟩
 .exact q.elim
end
def ba:W3->Bool
 | .Starred ..=>false
 | _=>true
def c7 {e:W3} {es:List W3} {env:Env} (h:ba e=true):WT (e::es) env=(false,eval e env)::WT es env:=by
 cases e <;> first|rfl|cases h
def fU {env:Env} {pos:Pos}:∀ {es:List W3},es.all ba=true->(Y9 pos (WT es env)).any (·.1)=false
 | [],_=>rfl
 | e::es,h=>by
  rw [XI,W5] at h;rw [c7 h.1];have I:=fU (env:=env) (pos:=pos) h.2;show (false||(Y9 pos (WT es env)).any (·.1))=false;rw [I];rfl
def JJ {X:Cx} {e:W3} {es:List W3} {te:TE} {t:TA} (I:PE X e te) (J:PA X es t) (hn:ba e=true:=by rfl):PA X (e::es) (wG te t):=Ka I J (c7 hn)
section
variable {X:Cx} {x:Str} {p pos:Pos} {e:W3} {es:List W3} {t:TA} {id T:String} {r:acN->Hp->VK->Prop}
def TY (hc:cj X (.builtin id) r) (L:X.mg x=none) (J:WS x=some (.builtin id)) (Y:PA X (e::es) t) (hg:Gl X x:=by rfl) (h1:ba e=true:=by rfl) (h2:es.all ba=true:=by rfl) (hn:x≠"__name__":=by decide) (I:acP x:=by decide) :
  PE X (.Call (.Name x p) (e::es) [] pos) (Oc r t):=Ff hc hg L J Y hn I (c7 h1) (fU h2)
def Um (hc:cj X (.type T) r) (L:X.mg x=none) (J:WS x=some (.type T)) (Y:PA X (e::es) t) (hg:Gl X x:=by rfl) (h1:ba e=true:=by rfl) (h2:es.all ba=true:=by rfl) (hn:x≠"__name__":=by decide) (I:acP x:=by decide) :
  PE X (.Call (.Name x p) (e::es) [] pos) (Oc r t):=DE hc hg L J Y hn I (c7 h1) (fU h2)
end
def dl:WS "len"=some (.builtin "len"):=by trivial
def bW:WS "isinstance"=some (.builtin "isinstance"):=by trivial
def Br:WS "str"=some (.type "str"):=by trivial
def L0:WS "int"=some (.type "int"):=by trivial
def ou:WS "list"=some (.type "list"):=by trivial
def jK:WS "tuple"=some (.type "tuple"):=by trivial
def og:WS "dict"=some (.type "dict"):=by trivial
def xP:WS "enumerate"=some (.type "enumerate"):=by trivial
def On {X:Cx} {x:Str} {n:String} {pos:Pos} (I:X.mg x=none) (J:WS x=some (.type n)) (hg:Gl X x:=by rfl) (hn:x≠"__name__":=by decide) (hd:acP x:=by decide):PE X (.Name x pos) (tC (.ty n)) :=
 J4 (v:=.ty n) hg I J rfl hn hd
def iR (T C:String):Bool:=T==C||(T=="bool"&&C=="int")
def jm (C:String):Bool:=C=="str"||C=="int"||C=="bool"||C=="list"||C=="tuple"||C=="dict"
def jR {K:aT} {T C:String} (L:T="NoneType"\/T="bool"\/T="int"\/T="str"\/T="list"\/T="tuple"\/T="dict") (I:jm C=true):abx K (.type T) (.type C)=some (iR T C):=by
 have J:C="str"\/C="int"\/C="bool"\/C="list"\/C="tuple"\/C="dict":=by
  unfold jm at I;simp only [Bool.or_eq_true,beq_iff_eq] at I;rcases I with ((((h|h)|h)|h)|h)|h <;> simp [h]
 rcases L with h|h|h|h|h|h|h <;> subst h <;> rcases J with h|h|h|h|h|h <;> subst h <;> first|rfl|decide +kernel
section
variable {X:Cx}
def SY (Q:Option Int->Hp->Prop):VK:=fun x H1=>match x with
 | .int i=>Q (some i) H1
 | _=>False
def K5 (t:TE):TO:=fun Z H Q=>t Z H (SY Q)
def IA {e:W3} {te:TE} (h:PE X e te):PO X (some e) (K5 te):=by
 intro af s Z H Q I hw;rw [evalPart_some];refine cU (h af s Z H _ I hw) fun u s1 hh=>nY hh fun x H1 Y L J=>?_;cases x with
 | int i =>
  obtain ⟨t,rfl⟩:=L;exact ⟨some i,H1,Y,.int i t,J⟩
 | _=>exact J.elim
def qK (z:Str) (lo hi:Option Int):Str:=⟨((z.cps.toList.drop (HT.sIx z.length 0 lo)).take (HT.sIx z.length z.length hi - HT.sIx z.length 0 lo)).toArray⟩
def KR (v:Int) (n d:Nat):max 0 (min (if v < 0 then v+(n:Int) else v) (n:Int))=((HT.sIx n d (some v):Nat):Int):=by
 show _=(((if v < 0 then (v+(n:Int)).toNat else min v.toNat n):Nat):Int);by_cases I:v < 0
 .simp only [acA I];omega
 .simp only [acB I];omega
def loS (lo:Option Int) (n:Nat):(match lo with|none=>(0:Int)|some i=>max 0 (min (if i < 0 then i+(n:Int) else i) (n:Int)))=((HT.sIx n 0 lo:Nat):Int):=by
 cases lo with
 | none=>rfl
 | some v=>exact KR v n 0
def hiS (hi:Option Int) (n:Nat):(match hi with|none=>(n:Int)|some i=>max 0 (min (if i < 0 then i+(n:Int) else i) (n:Int)))=((HT.sIx n n hi:Nat):Int):=by
 cases hi with
 | none=>rfl
 | some v=>exact KR v n n
def Sv (lo hi:Option Int) (n:Nat):XJ lo hi 1 n=sliceRange ((HT.sIx n 0 lo:Nat):Int) ((HT.sIx n n hi:Nat):Int) 1:=by
 have h1:((1:Int) > 0)=True:=by simp
 simp only [XJ,h1,if_true];rw [<- loS,<- hiS];cases lo <;> cases hi <;> rfl
def Tz (a b n:Nat) (I:a<=n) (J:b<=n):XJ (some (a:Int)) (some (b:Int)) 1 n=sliceRange (a:Int) (b:Int) 1:=by
 rw [Sv,HT.oF,HT.oF,Zh I,Zh J]
def Be (z:Str) (lo hi:Option Int):Txt.slice z lo hi=qK z lo hi:=by
 have L:=HT.Bd z.length 0 (WB _) lo;have I:=HT.Bd z.length z.length (mK _) hi;unfold Txt.slice;rw [Sv,<- Tz _ _ _ L I];unfold qK;generalize HT.sIx z.length 0 lo=a at L ⊢;generalize HT.sIx z.length z.length hi=b at I ⊢;by_cases J:a<=b
 .exact StrLaws.sliceText_nat z J I
 .have e:XJ (some (a:Int)) (some (b:Int)) 1 z.length=[]:=by
   have h1:((1:Int) > 0)=True:=by simp
   have n1:¬ ((a:Int) < 0):=by omega
   have Y:¬ ((b:Int) < 0):=by omega
   have e1:max (0:Int) (min (a:Int) (z.length:Int))=a:=by omega
   have e2:max (0:Int) (min (b:Int) (z.length:Int))=b:=by omega
   simp only [XJ,sliceRange,h1,if_true,acB n1,acB Y,e1,e2];rw [acB (by omega)];rfl
  have e0:b - a=0:=by omega
  rw [e,e0,Y6];split
  .rename_i h;have hz:z.length=0:=by
    have h':0=z.length:=by simpa using h
    exact h'.symm
   apply Str.ext'
   show z.cps=#[];exact Array.eq_empty_of_size_eq_zero hz
  .rfl
def xM (z:Str) (lo hi:Option Int):(qK z lo hi).length<=z.length:=by
 unfold qK;show (Array.size _)<=_;rw [By,WA,WI];simp [abn];omega
def MG:zU X (fun x lo hi H Q=>∃ z,x=.str z/\z.length<=Wp/\Q (.str (qK z lo hi)) H):=by
 intro af s Z H x v vl vu lo hi sl Q I rx J pl pu h;obtain ⟨z,rfl,hz,q⟩:=h;obtain ⟨t,rfl⟩:=rx;have fin:∀ (l u:Option (Int×Tok)),l.map (·.1)=lo->u.map (·.1)=hi->s.heap.IsSlice sl l u none->Wv (Wx X.prog X.w) X.A (aaj (.str z t) (.ref sl)) (EP X af Z Q) X.xe s:=fun l u e1 e2 L=>by
  refine bo I.tk (wpAny_getItem_str_slice L rfl ?_);subst e1 e2;refine post_val_or_str ?_;have e:(if (((none:Option (Int×Tok)).map (·.1)).getD 1==1&&(slicePicked z l u none).length==z.length)=true then z else ⟨((slicePicked z l u none).filterMap (z.cps[·]?)).toArray⟩)=Txt.slice z (l.map (·.1)) (u.map (·.1)):=rfl;rw [e,Be];exact ⟨IF (xM _ _ _) hz,fun t' k htk=>⟨.str _,H,I.tok _,⟨t',rfl⟩,q⟩⟩
 refine ⟨"str",_,F.slot_str_getitem.lookup,typeIs_str s z t,?_⟩;cases pl with
 | none =>
  cases pu with
  | none=>exact fin none none rfl rfl J
  | int j Y=>exact fin none (some (j,Y)) rfl rfl J
 | int i ti =>
  cases pu with
  | none=>exact fin (some (i,ti)) none rfl rfl J
  | int j Y=>exact fin (some (i,ti)) (some (j,Y)) rfl rfl J
def Re (K:aT) (x:V) (lo hi:Option Int) (H:Hp) (Q:VK):Prop:=match x with
 | .str z=>z.length<=Wp/\Q (.str (qK z lo hi)) H
 | .ref a=>(∃ xs,gp K H a xs/\∀ p,H p=none->Q (.ref p) (upd H p (.lst (vP xs lo hi)))) \/
  ∃ xs,j3 K H a xs/\¬ (HT.sIx xs.length 0 lo=0/\HT.sIx xs.length xs.length hi=xs.length)/\∀ p,H p=none->Q (.ref p) (upd H p (.tup (vP xs lo hi)))
 | _=>False
def Qy:zU X (Re X.K):=(MG.or (IR.or MB)).imp fun x lo hi H Q q=>by
 unfold Re at q;split at q
 .exact .inl ⟨_,rfl,q.1,q.2⟩
 .rcases q with ⟨xs,h1,h2⟩|⟨xs,h1,h2,I⟩
  .exact .inr (.inl ⟨_,xs,rfl,h1,h2⟩)
  .exact .inr (.inr ⟨_,xs,rfl,h1,h2,I⟩)
 .exact q.elim
def HS (K:aT) (I:X.K=K:=by rfl):zU X (Re K):=by
 subst I;exact Qy
variable {tg:W3}
def kIt (K:aT) (R:It->Hp->Prop):VK:=fun x H1=>match x with
 | .str z=>R (N4 z) H1
 | .ref a=>((∃ xs,gp K H1 a xs)/\R (UX K a) H1)\/((∃ xs,j3 K H1 a xs)/\R (Uj K a) H1)
 | _=>False
def Vw (K:aT) (tl:TE):TI:=fun Z H R=>tl Z H (kIt K R)
def Lv (K:aT) {l:W3} {tl:TE} (hl:PE X l tl) (hK:X.K=K:=by rfl):PI X tg l (Vw K tl):=by
 subst hK;intro af s Z H R I h;refine cU (hl af s Z H _ I h) fun v J hh=>nY hh fun x H1 Y r1 q1=>?_;cases x with
 | str z =>
  obtain ⟨t,rfl⟩:=r1;have L:∀ b∈[J.heap.objs.size],iu X af H1 b:=fun b hb=>by
   have e:b=J.heap.objs.size:=by simpa using hb
   subst e;exact Y.fpOk (mK _) (Y.hok.fresh (mK _))
  cases ha:z.cps.all (· < 128)
  .refine wpAny_pyIter_wide ha ?_;exact ⟨J.heap.objs.size,[J.heap.objs.size],_,_,H1,rfl,Y.kept (t':=J.toks) fun b o e=>lT _ e,En _ z t,⟨_,Wr _ rfl,rfl,rfl⟩,L,q1⟩
  .refine wpAny_pyIter_ascii ha ?_;exact ⟨J.heap.objs.size,[J.heap.objs.size],_,_,H1,rfl,Y.kept (t':=J.toks) fun b o e=>lT _ e,AG _ z t,⟨_,Wr _ rfl,rfl,rfl⟩,L,q1⟩
 | ref a =>
  cases r1;have L:∀ b∈[J.heap.objs.size],iu X af H1 b:=fun b hb=>by
   have e:b=J.heap.objs.size:=by simpa using hb
   subst e;exact Y.fpOk (mK _) (Y.hok.fresh (mK _))
  rcases q1 with ⟨⟨xs,hq⟩,q⟩|⟨⟨xs,hq⟩,q⟩
  .obtain ⟨its,rv,p,hz⟩:=Y.list hq;refine wpAny_pyIter_list p.isList ?_;exact ⟨J.heap.objs.size,[J.heap.objs.size],_,_,H1,rfl,Y.kept (t':=J.toks) fun b o e=>lT _ e,Dr a _,⟨_,Wr _ rfl,rfl,rfl⟩,L,q⟩
  .obtain ⟨its,rv,p,hz⟩:=Y.tuple hq;refine wpAny_pyIter_tuple (show J.heap.IsTuple a its.toArray from p) ?_;exact ⟨J.heap.objs.size,[J.heap.objs.size],_,_,H1,rfl,Y.kept (t':=J.toks) fun b o e=>lT _ e,A9 a _,⟨_,Wr _ rfl,rfl,rfl⟩,L,q⟩
 | _=>exact q1.elim
def Kv (R:It->Hp->Prop):acN->Hp->Prop:=fun vs H1=>match vs with
 | [.int j]=>(-(2 ^ 62)<=j/\j < 2 ^ 62)/\R (Pa 0 j.toNat) H1
 | _=>False
def Lp (ta:TA):TI:=fun Z H R=>ta Z H (Kv R)
def EF {a:W3} {ta:TA} {p pos:Pos} (hg:Gl X "range") (hm:X.mg "range"=none) (Y:PA X [a] ta) (hs:WT [a] X.env=[(false,eval a X.env)]:=by rfl):PI X tg (.Call (.Name "range" p) [a] [] pos) (Lp ta):=by
 intro af s Z H R I h;refine Call_ (nA I hg hm boot_range (XH (cU (Y pos af s Z H _ I h) fun us s1 hh=>nY hh fun vs H1 I1 r1 J=>?_) hs rfl));unfold Kv at J;split at J
 .obtain ⟨⟨L,q3⟩,q⟩:=J;cases r1 with
  | cons r rr =>
   cases rr;obtain ⟨t,rfl⟩:=r;exact call_range_1 (zf I1 (by omega) (by omega) L q3 (by simpa using q))
 .exact J.elim
def T2 (r:Str->acN->Hp->VK->Prop) (z:Str) (Q:VK):acN->Hp->Prop:=fun xs H2=>r z xs H2 Q
def kSM (r:Str->acN->Hp->VK->Prop) (t:TA) (Z:St) (Q:VK):VK:=fun x H1=>match x with
 | .str z=>t Z H1 (T2 r z Q)
 | _=>False
def Wm (r:Str->acN->Hp->VK->Prop) (to:TE) (t:TA):TE:=fun Z H Q=>to Z H (kSM r t Z Q)
def Tl (X:Cx) (id:String) (r:Str->acN->Hp->VK->Prop):Prop :=
 ∀ (af:acI) (s:gs) (Z:St) (H:Hp) (z:Str) (t:Tok) (xs:acN) (us:acM) (Q:VK),Inv X af Z H s->bf xs us->r z xs H Q ->
  Wv (Wx X.prog X.w) X.A (call (.builtin id) (.str z t::us)) (EP X af Z Q) X.xe s
def Rr {o e:W3} {es:List W3} {to:TE} {t:TA} {name:Str} {apos cpos:Pos} {id:String} {r:Str->acN->Hp->VK->Prop} (slot:Slot "str" name id) (hty:typeOf (.builtin id)=pure (.type "method_descriptor")) (hm:Tl X id r) (ho:PE X o to) (ha:PA X (e::es) t)
  (L:Xa o name X.env (eval o X.env)=eval o X.env:=by rfl)
  (hfew:((Y9 cpos (WT (e::es) X.env)).all (fun x=>!x.1)&&(backToKw cpos (Zv [] X.env)).all (fun x=>x.1.isSome)
   && decide ((e::es).length+([]:List ZZ).length+(if ([]:List ZZ).isEmpty then 0 else 1) < 30))=true:=by rfl)
  (Y:(apos.endLine==cpos.line)=true:=by rfl) (hs:WT (e::es) X.env=(false,eval e X.env)::WT es X.env:=by rfl) (J:(Y9 cpos (WT es X.env)).any (·.1)=false:=by rfl) :
  PE X (.Call (.Attribute o name apos) (e::es) [] cpos) (Wm r to t):=by
 intro af s Z H Q I h;refine wpAny_Call_method_late L hfew Y rfl (cU (ho af s Z H _ I h) fun v s1 hh=>nY hh fun x H1 I1 r1 q1=>?_);cases x with
 | str z =>
  obtain ⟨tk,rfl⟩:=r1;refine ⟨"str",id,PySem.F.plainAttrs_str,slot,hty,typeIs_str s1 z tk,(fun _ e=>nomatch e),?_⟩
  have hA:=ha cpos af s1 Z H1 _ I1 q1;rw [hs] at hA ⊢;refine Yk (by show (false||(Y9 cpos (WT es X.env)).any (·.1))=false;rw [J] <;> rfl) (ZI ?_);exact cU hA fun us s2 hh=>nY hh fun vs H2 I2 r2 q2=>hm af s2 Z H2 z tk vs us Q I2 r2 q2
 | _=>exact q1.elim
def Gj (K:aT) (z:Str) (xs:acN) (H:Hp) (Q:VK):Prop:=match xs with
 | [.ref p]=>∃ ys:acH,gp K H p (ys.map V.str)/\(ys.map (·.length)).sum+ys.length*z.length<=16777216/\Q (.str (abo z ys)) H
 | _=>False
def vj:∀ {ys:acH} {us:acM},bf (ys.map V.str) us->StrsAre us ys
 | [],us,r=>by cases r;exact .nil
 | y::ys,us,r=>by
  cases r with
  | cons r I =>
   obtain ⟨t,rfl⟩:=r;exact .cons y t (vj I)
def CP (K:aT) (hK:X.K=K:=by rfl):Tl X "str.join" (Gj K):=by
 subst hK;intro af s Z H z t xs us Q I r h;unfold Gj at h;split at h
 .obtain ⟨ys,Y,hz,q⟩:=h;obtain ⟨u,rfl,rx⟩:=jA r;cases rx;obtain ⟨its,J,p,hz'⟩:=I.list Y;exact bo I.tk (join_list p.isList (by simpa using vj J) hz fun t' k L=>⟨.str (abo z ys),H,I.tok _,⟨t',rfl⟩,q⟩)
 .exact h.elim
end
structure Def (K:aT) (mg:acK) (x:Str) (st:X5) (ps:acH) (f:ID) (fd:W2):Prop where
 F:Fun K x x st f fd
 b:kq K fd ps []
 m:mg x=some (.ref f)
section
variable {X:Cx} {x:Str} {st:X5} {ps:acH} {f:ID} {fd:W2} {j k:Nat} {sp:Sp} {p pos:Pos} {e:W3} {es:List W3} {t:TA}
def Ky (sp:Sp) (t:TA):TE:=fun Z H Q=>t Z H fun vs H1=>sp vs H1 Q E0
def pc (D:Def X.K X.mg x st ps f fd) (G:FnOk X.prog X.w X.K X.mg X.base cP j f fd ps sp) (hr:Room k X.A) (ha:PA X (e::es) t) (hj:j<=k:=by decide) (hg:Gl X x:=by rfl) (L:acP x:=by decide)
  (h1:ba e=true:=by rfl) (h2:es.all ba=true:=by rfl):PE X (.Call (.Name x p) (e::es) [] pos) (Ky sp t):=by
 have he:WT (e::es) X.env=(false,eval e X.env)::WT es X.env:=c7 h1;have J:(Y9 pos (WT es X.env)).any (·.1)=false:=fU h2;intro af s Z H Q I h;refine XM (qS I hg D.m ?_ L);refine abM (h₀:=X.base) I.ok.mod.kin D.F.kp (cU (ha pos af s Z H _ I h) fun us s1 hh=>nY hh fun vs H1 Y r q=>⟨Y.kIn,?_⟩) he J;exact FC (dvs:=[]) G (hr.mono hj) D.b .nil GJ Y r (by rw [Xn];exact q)
end
def aX {H:Hp} {p:ID} (h:H p=none) (o:HO):aC H (upd H p o):=fun b u q=>by rw [aP (bH q h)];exact q
def aC.seqT {K:aT} {H H':Hp} {a:ID} {xs:acN} (e:aC H H') (h:j3 K H a xs):j3 K H' a xs:=by
 rcases h with (h|⟨o,h⟩)|h
 .exact .inl (.inl (e _ _ h))
 .exact .inl (.inr ⟨o,e _ _ h⟩)
 .exact .inr h
abbrev pM (z:Str):acN:=z.cps.toList.map fun c=>V.str ⟨#[c]⟩
def Cl (a b:Str):(a++b).cps.toList=a.cps.toList++b.cps.toList:=by
 show (a.cps++b.cps).toList=_;exact YD
def str_len (a:Str):a.length=a.cps.toList.length:=by simp [abn]
def KI:∀ (sep:Str) (ys:acH),(Str.join sep ys).cps.toList=((ys.map (fun y:Str=>y.cps.toList)).intersperse sep.cps.toList).flatten
 | _,[]=>rfl
 | _,[x]=>by simp [Str.join]
 | sep,x::y::r=>by
  have I:=KI sep (y::r);show ((x++sep)++Str.join sep (y::r)).cps.toList=_;rw [Cl,Cl,I];simp [WC]
def D0 (I:Str) (ys:acH):(abo I ys).cps.toList=((ys.map (fun y:Str=>y.cps.toList)).intersperse I.cps.toList).flatten:=by
 show (Builtin.Str.glued I ys).cps.toList=_;rw [StrLaws.glued_eq_join,KI]
def vZ {α:Type}:∀ (xs:List (List α)),(xs.intersperse []).flatten=xs.flatten
 | []=>rfl
 | [x]=>rfl
 | x::y::r=>by
  have I:=vZ (y::r);rw [List.intersperse_cons_cons,W6,W6,I];rfl
def Au (ys:acH):(abo (WV "") ys).cps.toList=(ys.map (fun y:Str=>y.cps.toList)).flatten:=by
 rw [D0];have e:(WV "").cps.toList=[]:=by trivial
 rw [e,vZ]
def A3 (I:acG):(abo (WV "") (I.map fun c=>(⟨#[c]⟩:Str))).cps.toList=I:=by
 rw [Au,WL];induction I with
 | nil=>rfl
 | cons c r J =>
  rw [lE,W6,J];rfl
def Dp (I:acG):((I.map fun c=>(⟨#[c]⟩:Str)).map (·.length)).sum=I.length:=by
 induction I with
 | nil=>rfl
 | cons c r J =>
  rw [lE,lE,List.sum_cons,J];show 1+r.length=r.length+1;omega
section
variable {K:aT} {Z:St} {H H1 H2:Hp} {Q:VK} {QB R':Bool->Hp->Prop} {ta tb te:TE} {tt uu:TT} {t tr:TA} {x y v:V} {xs vs:acN} {r:R2} {c:Bool} {i j:Int}
def Ve (r:R2) (x:V) (Q:VK):VK:=fun y H2=>r x y H2 Q
def S6 (r:R2) (tb:TE) (Z:St) (Q:VK):VK:=fun x H1=>tb Z H1 (Ve r x Q)
variable {z z':Str} {c':Bool} {p:ID}
end
structure JE (X:Cx) (e:W3) (t:TE):Prop where
 out:PE X e t
structure JT (X:Cx) (e:W3) (t:TT):Prop where
 out:PT X e t
structure JW (X:Cx) (e:W3) (t:TT):Prop where
 out:PW X e t
structure JA (X:Cx) (es:List W3) (t:TA):Prop where
 out:PA X es t
structure JS (X:Cx) (st:X5) (t:TS):Prop where
 out:PS X st t
structure JB (X:Cx) (st:List X5) (t:TS):Prop where
 out:CO X st t
structure JG (X:Cx) (e:W3) (t:TG):Prop where
 out:PG X e t
structure JGs (X:Cx) (es:List W3) (t:ES):Prop where
 out:OZ X es t
structure JI (X:Cx) (tg e:W3) (t:TI):Prop where
 out:PI X tg e t
structure JO (X:Cx) (e:Option W3) (t:TO):Prop where
 out:PO X e t
structure JTs (X:Cx) (es:List W3) (t:TT):Prop where
 out:LC X es t
section
variable {X:Cx} {a b c e:W3} {ta tb tc te:TE} {tA tB':TT} {pos:Pos} {rest es:List W3} {t:TA}
def jv (i:Nat) {x:Str} {pos:Pos} (L:X.N[i]?=some x:=by rfl) (J:yH X.env.scope x:=by walk_at"v") (hd:acP x:=by decide)
  (I:(x==("__classdict__":Str))=false:=by decide):JE X (.Name x pos) (vM i):=⟨qv i L J hd I⟩
def Rq {i j pos}:JE X (.Constant (.int i) j pos) (tC (.int i)):=⟨M3⟩
def UD {b j pos}:JE X (.Constant (.bool b) j pos) (tC (.bl b)):=⟨Oi⟩
def Rj {j pos}:JE X (.Constant .none j pos) (tC .non):=⟨LS⟩
def SE {x j pos}:JE X (.Constant (.str x) j pos) (tC (.str x)):=⟨NZ⟩
def GE {x:Str} {v:V} {u:dO} {pos:Pos} (I:X.mg x=some u) (r:bg v u) (hg:Gl X x:=by rfl) (hd:acP x:=by decide):JE X (.Name x pos) (tC v):=⟨Cm hg I r hd⟩
def T6 {x:Str} {n:String} {pos:Pos} (I:X.mg x=none) (J:WS x=some (.type n)) (hg:Gl X x:=by rfl) (hn:x≠"__name__":=by decide) (hd:acP x:=by decide):JE X (.Name x pos) (tC (.ty n)):=⟨On I J hg hn hd⟩
def UP {op:Operator} {r:R2} (L:fb X (X9 op) r) (I:JE X a ta) (J:JE X b tb):JE X (.BinOp a op b pos) (A7 r ta tb):=⟨Oj L I.out J.out⟩
def Ut {op:UnaryOp} {r:V->Hp->VK->Prop} (I:Kn X (unaryOp op) r) (J:JE X a ta):JE X (.UnaryOp op a pos) (VZ r ta):=⟨Pe I J.out⟩
def P0 {op} (h:JE X a ta):JE X (.BoolOp op [a] pos) ta:=⟨Mm h.out⟩
def QH (I:JE X a ta) (J:JE X (.BoolOp .And (b::rest) pos) tb):JE X (.BoolOp .And (a::b::rest) pos) (OQ ta tb):=⟨MQ I.out J.out⟩
def Uw (I:JE X a ta) (J:JE X (.BoolOp .Or (b::rest) pos) tb):JE X (.BoolOp .Or (a::b::rest) pos) (Wi ta tb):=⟨S9 I.out J.out⟩
def OV {op:CmpOp} {r:R2} (Y:fb X (WR op) r) (J:JE X a ta) (L:JE X b tb) (I:Yu op b=false):JE X (.Compare a [op] [b] pos) (A7 r ta tb):=⟨HY Y J.out L.out I⟩
def Fj {op:CmpOp} {r:R2} (Y:fb X (WR op) r) (J:JE X a ta) (L:JE X b tb) (I:Yu op b=false):JT X (.Compare a [op] [b] pos) (K1 (A7 r ta tb)):=⟨J9 Y J.out L.out I⟩
def Pt (I:JT X c tA) (J:JE X a ta) (L:JE X b tb):JE X (.IfExp c a b pos) (Vg tA ta tb):=⟨Fx I.out J.out L.out⟩
def Je (h:JW X a tA):JT X a tA:=⟨h.out.pt⟩
def JV (I:JT X a tA):JW X (.BoolOp .And [a] pos) tA:=⟨Kr I.out⟩
def Ny (I:JT X a tA):JW X (.BoolOp .Or [a] pos) tA:=⟨MU I.out⟩
def NK (I:JT X a tA) (J:JW X (.BoolOp .And (b::rest) pos) tB'):JW X (.BoolOp .And (a::b::rest) pos) (PV tA tB'):=⟨LR I.out J.out⟩
def Pw (I:JT X a tA) (J:JW X (.BoolOp .Or (b::rest) pos) tB'):JW X (.BoolOp .Or (a::b::rest) pos) (Wk tA tB'):=⟨QY I.out J.out⟩
def LI (I:JT X a tA):JT X (.UnaryOp .Not a pos) (QV tA):=⟨Mh I.out⟩
def G2 (K:aT) (L:JE X a ta) (J:∀ I,isTrue a X.env I=(do let v <- I;ab4 a.pos;holding [v] (truthy v)):=by exact fun _=>rfl) (Y:X.K=K:=by rfl):JT X a (GG K ta):=⟨Gk K L.out J Y⟩
def rS:JA X [] DU:=⟨Nr⟩
def oB (J:JE X e te) (I:JA X es t) (hn:ba e=true:=by rfl):JA X (e::es) (wG te t):=⟨JJ J.out I.out hn⟩
def Qq (h:JA X es t):JE X (.List es pos) (Rx t):=⟨Lw h.out⟩
def PJ {x1} (h:JA X es t):JE X (.Tuple es x1 pos) (Pr t):=⟨Ms h.out⟩
def HU:JE X (.Dict [] [] pos) Fz:=⟨FO⟩
def Ov {r:R2} (I:Ao X r) (L:JE X a ta) (J:JE X b tb) (Y:qe b:=by exact fun _ _=>rfl):JE X (.Subscript a b pos) (A7 r ta tb):=⟨S7 I L.out J.out Y⟩
def Jw:JO X none CJ:=⟨Kb⟩
def Iz (h:JE X e te):JO X (some e) (K5 te):=⟨IA h.out⟩
def Ie {r:V->Option Int->Option Int->Hp->VK->Prop} {lo hi:Option W3} {tl th:TO} {p2:Pos} (J:zU X r) (I:JE X e te) (L:JO X lo tl) (Y:JO X hi th):JE X (.Subscript e (.Slice lo hi none p2) pos) (Wj r te tl th):=⟨Hw J I.out L.out Y.out⟩
end
section
variable {X:Cx} {x:Str} {st:X5} {ps:acH} {f:ID} {fd:W2} {j k:Nat} {sp:Sp} {p pos:Pos} {e:W3} {es:List W3} {t:TA} {id T:String} {r:acN->Hp->VK->Prop}
def Hz (D:Def X.K X.mg x st ps f fd) (G:FnOk X.prog X.w X.K X.mg X.base cP j f fd ps sp) (J:Room k X.A) (L:JA X (e::es) t) (hj:j<=k:=by decide) (hg:Gl X x:=by rfl) (I:acP x:=by decide)
  (h1:ba e=true:=by rfl) (h2:es.all ba=true:=by rfl):JE X (.Call (.Name x p) (e::es) [] pos) (Ky sp t):=⟨pc D G J L.out hj hg I h1 h2⟩
def xh (hc:cj X (.builtin id) r) (L:X.mg x=none) (J:WS x=some (.builtin id)) (Y:JA X (e::es) t) (hg:Gl X x:=by rfl) (h1:ba e=true:=by rfl) (h2:es.all ba=true:=by rfl) (hn:x≠"__name__":=by decide) (I:acP x:=by decide) :
  JE X (.Call (.Name x p) (e::es) [] pos) (Oc r t):=⟨TY hc L J Y.out hg h1 h2 hn I⟩
def xR (hc:cj X (.type T) r) (L:X.mg x=none) (J:WS x=some (.type T)) (Y:JA X (e::es) t) (hg:Gl X x:=by rfl) (h1:ba e=true:=by rfl) (h2:es.all ba=true:=by rfl) (hn:x≠"__name__":=by decide) (I:acP x:=by decide) :
  JE X (.Call (.Name x p) (e::es) [] pos) (Oc r t):=⟨Um hc L J Y.out hg h1 h2 hn I⟩
end
section
variable {X:Cx} {o e:W3} {es:List W3} {to:TE} {t:TA} {name:Str} {apos cpos:Pos} {id:String}
def zE {env:Env} {pos:Pos} {es:List W3} (h:es.all ba=true) (J:es.length < 29):((Y9 pos (WT es env)).all (fun x=>!x.1)&&(backToKw pos (Zv [] env)).all (fun x=>x.1.isSome)
   && decide (es.length+([]:List ZZ).length+(if ([]:List ZZ).isEmpty then 0 else 1) < 30))=true:=by
 have h1:(Y9 pos (WT es env)).all (fun x=>!x.1)=true:=by
  have:=fU (env:=env) (pos:=pos) h
  rw [abU] at this;rw [X4];intro x I
  have:=this x I
  simpa using this
 rw [h1];show (true&&true&&decide (es.length+0+0 < 30))=true;rw [acD (by omega)];rfl
def TZ {r:Str->acN->Hp->VK->Prop} (Y:Slot "str" name id) (hty:typeOf (.builtin id)=pure (.type "method_descriptor")) (hm:Tl X id r) (ho:JE X o to) (ha:JA X (e::es) t)
  (L:Xa o name X.env (eval o X.env)=eval o X.env:=by rfl) (J:(apos.endLine==cpos.line)=true:=by rfl) (h1:(e::es).all ba=true:=by rfl) (hl:(e::es).length < 29:=by decide) :
  JE X (.Call (.Attribute o name apos) (e::es) [] cpos) (Wm r to t):=by
 have I:=h1;rw [XI,W5] at I;exact ⟨Rr Y hty hm ho.out ha.out L (zE h1 hl) J (c7 I.1) (fU I.2)⟩
end
section
variable {X:Cx} {osc:Scope} {ON N:acH} {ix:List (Option Nat)} {scope:Scope} {tg elt iter:W3} {ifs:List W3} {pos:Pos} {wi:TI} {g:TG} {tt:TT} {te:TE}
def Ip:JTs X [] Tg:=⟨Jr⟩
def Jh {c:W3} (h:JT X c tt):JTs X [c] tt:=⟨IV h.out⟩
def Nb (I:Et osc ON N ix scope=true) (hi:JI X tg iter wi) (hg:∀ b,JG (tm X N scope b) tg g) (ht:∀ b,JTs (tm X N scope b) ifs tt) (J:∀ b,JE (tm X N scope b) elt te)
  (hE:X.env.scope=osc:=by rfl) (L:X.N=ON:=by rfl) (hc:X.calm=true:=by rfl) (Y:∀ x,XG iter X.env x=pure x:=by intro _;rfl):JE X (.ListComp elt [⟨tg,iter,ifs,0⟩] scope pos) (BR ix wi g tt te) :=
 ⟨E3 (Lb I) hE L hc hi.out (fun b=>(hg b).out) (fun b=>(ht b).out) (fun b=>(J b).out) Y⟩
def Bl {i:Nat} {x:Str} {spos pos':Pos} (hN:X.N.Nodup) (hl:C3 X.env.scope x) (I:Et osc ON N ix scope=true) (hi:JI X tg iter wi) (hg:∀ b,JG (tm X N scope b) tg g) (ht:∀ b,JTs (tm X N scope b) ifs tt) (he:∀ b,JE (tm X N scope b) elt te)
  (Y:X.N[i]?=some x:=by rfl) (hE:X.env.scope=osc:=by rfl) (L:X.N=ON:=by rfl) (hc:X.calm=true:=by rfl)
  (J:YL (.ListComp elt [⟨tg,iter,ifs,0⟩] scope pos) (some (.Name x pos')) spos.line X.env=pure true:=by rfl)
  (hf:X.fn x=true\/X.env.scope.names.lookup x=some .local:=by walk_at"u")
  (hs:∀ x,XG iter X.env x=pure x:=by intro _;rfl):JS X (.Assign [.Name x pos'] (.ListComp elt [⟨tg,iter,ifs,0⟩] scope pos) spos) (zY (BR ix wi g tt te) (qJ i)) :=
 ⟨BE hN Y hl (Lb I) hE L hc hi.out (fun b=>(hg b).out) (fun b=>(ht b).out) (fun b=>(he b).out) J hf hs⟩
def LP (K:aT) {l:W3} {tl:TE} (J:JE X l tl) (I:X.K=K:=by rfl):JI X tg l (Vw K tl):=⟨Lv K J.out I⟩
def Dt {a:W3} {ta:TA} {p pos:Pos} (I:X.mg "range"=none) (J:JA X [a] ta) (hg:Gl X "range":=by rfl) (hn:ba a=true:=by rfl):JI X tg (.Call (.Name "range" p) [a] [] pos) (Lp ta):=⟨EF hg I J.out (c7 hn)⟩
end
section
variable {X:Cx} {pos:Pos} {st:X5} {rest:List X5} {t u:TS} {e:W3} {te:TE}
def IK {i:Nat} {x:Str} (J:X.N.Nodup) (hi:X.N[i]?=some x) (I:C3 X.env.scope x) (hf:X.fn x=true\/X.env.scope.names.lookup x=some .local:=by walk_at"u"):JG X (.Name x pos) (qJ i):=⟨BV J hi I hf⟩
def Ks:JGs X [] RN:=⟨IE⟩
def Fg {e:W3} {es:List W3} {t:TG} {u:ES} (h1:JG X e t) (h2:JGs X es u)
  (I:(XR (e::es) X.env).map (·.2)=assign e X.env::(XR es X.env).map (·.2):=by rfl):JGs X (e::es) (KJ t u):=⟨F8 h1.out h2.out I⟩
def NM (K:aT) {es:List W3} {k:Nat} {t:ES} {n:Nat} (h:JGs X es t) (L:X.calm=true:=by rfl)
  (hn:(XR es X.env).length=n:=by rfl) (I:(XR es X.env).findIdx? (·.1)=none:=by rfl) (J:X.K=K:=by rfl):JG X (.Tuple es k pos) (RX K n t):=by
 subst J;exact ⟨Mn L h.out hn I⟩
def LW:JB X [] Lg:=⟨Jq⟩
def Ii (h1:JS X st t) (h2:JB X rest u):JB X (st::rest) (QD t u):=⟨uo h1.out h2.out⟩
def Mt (h1:JS X st t):JB X [st] t:=⟨CV h1.out⟩
def xQ (I:JE X e te) (J:YL e none pos.line X.env=pure false:=by rfl):JS X (.Expr e pos) (CH te):=⟨I0 I.out J⟩
def EZ (I:JE X e te):JS X (.Return (some e) pos) (PB te):=⟨NG I.out⟩
def R3 {c:W3} {a b:List X5} {tc:TT} (L:JT X c tc) (I:JB X a t) (J:JB X b u):JS X (.If c a b pos) (QQ tc t u):=⟨OT L.out I.out J.out⟩
def GR {i:Nat} {x:Str} {pos':Pos} (L:X.N.Nodup) (Y:C3 X.env.scope x) (I:JE X e te) (hi:X.N[i]?=some x:=by rfl) (J:YL e (some (.Name x pos')) pos.line X.env=pure false:=by rfl) (hf:X.fn x=true\/X.env.scope.names.lookup x=some .local:=by walk_at"u") :
  JS X (.Assign [.Name x pos'] e pos) (zY te (qJ i)):=⟨LM L hi Y I.out J hf⟩
def GX {tg:W3} {g:TG} (I:JE X e te) (hg:JG X tg g) (J:swapsWithSole [tg] e pos.line X.env=pure false:=by rfl) (hw:swappedStores [tg] e X.env=pure none:=by rfl)
  (h1:(XR [tg] X.env).map (·.2)=[assign tg X.env]:=by rfl):JS X (.Assign [tg] e pos) (zY te g):=⟨Mi I.out hg.out J hw h1⟩
def M7 {o i:W3} {to I:TE} {t:JX} (Y:JE X o to) (hi:JE X i I) (L:NJ X t)
  (J:∀ v,assign (.Subscript o i pos) X.env v=(do
   let ov <- holding [v] (eval o X.env)
   let iv <- holding [v,ov] (eval i X.env)
   ab4 pos
   holding [v,ov,iv] (setItem ov iv v)
   release [v,ov,iv] []):=by intro _;rfl):JG X (.Subscript o i pos) (L7 to I t):=⟨Mw Y.out hi.out L J⟩
def Mf {tg iter:W3} {I:List X5} {wi:TI} {g:TG} {tb:TS} (hp:abi (Wx X.prog X.w) X.A X.env X.xe) (hi:JI X tg iter wi) (hg:JG X tg g) (J:JB X I tb) (Y:X.calm=true:=by rfl)
  (L:∀ x,XG iter X.env x=pure x:=by intro _;rfl):JS X (.For tg iter I [] pos) (Pi wi g tb):=⟨L5 hp Y hi.out hg.out J.out L⟩
def Hx {c:W3} {I:List X5} {tc:TT} {tb:TS} (Y:abi (Wx X.prog X.w) X.A X.env X.xe) (L:JT X c tc) (J:JB X I tb):JS X (.While c I [] pos) (HC tc tb):=⟨Gi Y L.out J.out⟩
end
section
variable {P:Ww} {w:WU} {K:aT} {mg:acK} {base:Yy}
def Fun.okJ {x J:Str} {st:X5} {f:ID} {fd:W2} {N ps:acH} {k:Nat} {sp:Sp} (F:Fun K x J st f fd) (S:FnScope N ps (ax st)) (len:∀ vs H Q E,sp vs H Q E->vs.length=ps.length)
  (Y:∀ (L:dO) (A:WN) (I:List Env) (s:gs) (H:Hp) (vs:acN) (Q:VK) (E:XK),Room k (A.deeper (abk J (ax st) s.heap.objs.size f L))->sp vs H Q E ->
   ∃ t,JB (xa cP P w K mg base N J (ax st) f L A I s H E).nox (dR st) t/\t { nx:=fun _ H'=>Q .non H',rt:=Q } (start N vs) H):FnOk P w K mg base cP (k+1) f fd ps sp :=
 F.ok S len fun L A I s H vs Q E hr h=>let ⟨t,h1,h2⟩:=Y L A I s H vs Q E hr h;⟨t,h1.out,h2⟩
end
def JE.imp {X:Cx} {e:W3} {t t':TE} (h:JE X e t) (i:∀ Z H Q,t' Z H Q->t Z H Q):JE X e t':=⟨h.out.imp i⟩
def JT.imp {X:Cx} {e:W3} {t t':TT} (h:JT X e t) (i:∀ Z H Q,t' Z H Q->t Z H Q):JT X e t':=⟨fun af s Z H Q I q=>h.out af s Z H Q I (i Z H Q q)⟩
def JW.imp {X:Cx} {e:W3} {t t':TT} (h:JW X e t) (i:∀ Z H Q,t' Z H Q->t Z H Q):JW X e t':=⟨fun w af s Z H Q I q=>h.out w af s Z H Q I (i Z H Q q)⟩
def JA.imp {X:Cx} {es:List W3} {t t':TA} (h:JA X es t) (i:∀ Z H Q,t' Z H Q->t Z H Q):JA X es t':=⟨fun pos af s Z H Q I q=>h.out pos af s Z H Q I (i Z H Q q)⟩
def JS.imp {X:Cx} {st:X5} {t t':TS} (h:JS X st t) (i:∀ D Z H,t' D Z H->t D Z H):JS X st t':=⟨fun af s Z H D I q=>h.out af s Z H D I (i D Z H q)⟩
def JB.imp {X:Cx} {st:List X5} {t t':TS} (h:JB X st t) (i:∀ D Z H,t' D Z H->t D Z H):JB X st t':=⟨fun af s Z H D I q=>h.out af s Z H D I (i D Z H q)⟩
def JG.imp {X:Cx} {e:W3} {t t':TG} (h:JG X e t) (i:∀ v Z H Q,t' v Z H Q->t v Z H Q):JG X e t':=⟨fun af s Z H v u Q I r q=>h.out af s Z H v u Q I r (i v Z H Q q)⟩
def JGs.imp {X:Cx} {es:List W3} {t t':ES} (h:JGs X es t) (i:∀ v Z H Q,t' v Z H Q->t v Z H Q):JGs X es t':=⟨fun af s Z H v u Q I r q=>h.out af s Z H v u Q I r (i v Z H Q q)⟩
def JI.imp {X:Cx} {tg e:W3} {t t':TI} (h:JI X tg e t) (i:∀ Z H R,t' Z H R->t Z H R):JI X tg e t':=⟨fun af s Z H R I q=>h.out af s Z H R I (i Z H R q)⟩
def JO.imp {X:Cx} {e:Option W3} {t t':TO} (h:JO X e t) (i:∀ Z H Q,t' Z H Q->t Z H Q):JO X e t':=⟨fun af s Z H Q I q=>h.out af s Z H Q I (i Z H Q q)⟩
def JTs.imp {X:Cx} {es:List W3} {t t':TT} (h:JTs X es t) (i:∀ Z H Q,t' Z H Q->t Z H Q):JTs X es t':=⟨fun af s Z H Q I q=>h.out af s Z H Q I (i Z H Q q)⟩
inductive D where
 | non|bl (b:Bool)|int (i:Int)|str (x:Str)|ty (n:String)
 | lst (xs:List D)|tup (xs:List D)|dct (kvs:List (bD×D))|obj (x:Str) (fs:List (Str×D))
 /-- an exception that was caught,by its class's name;a class of the text -/
 | exn (x:Str)|cls (x:Str)
 /-- a list of which it is jm that it was laid anew (it may be changed) -/
 | lsm (xs:List D)
 /-- a dict that is not changed any more -/
 | dcf (kvs:List (bD×D))
abbrev acO:=List D
def Tx (a C:ID):HO:=.ext fun h=>∃ o vs,h.get? a=some o/\o.cls=.ref C/\o.dict=none/\o.data=.fields vs
section
variable (K:aT) (H:Hp)
mutual
def di:D->V->Prop
 | .non,v=>v=.non
 | .bl b,v=>v=.bl b
 | .int i,v=>v=.int i
 | .str x,v=>v=.str x
 | .ty n,v=>v=.ty n
 | .lst ds,v=>∃ a xs,v=.ref a/\gp K H a xs/\aM ds xs
 | .tup ds,v=>∃ a xs,v=.ref a/\j3 K H a xs/\aM ds xs
 | .dct ds,v=>∃ a xs,v=.ref a/\H a=some (.dK xs)/\cw ds xs
 | .obj x fs,v=>∃ a C dx xs,v=.ref a/\Xv K WJ x=some (some (.ref C))/\H a=some (.ins C dx xs)/\pF fs xs
 | .exn x,v=>∃ a C,v=.ref a/\Xv K WJ x=some (some (.ref C))/\H a=some (Tx a C)
 | .cls x,v=>∃ C,v=.ref C/\Xv K WJ x=some (some (.ref C))
 | .lsm ds,v=>∃ a xs,v=.ref a/\H a=some (.lst xs)/\aM ds xs
 | .dcf ds,v=>∃ a o xs,v=.ref a/\H a=some (.frz o (.dK xs))/\cw ds xs
def aM:acO->acN->Prop
 | [],xs=>xs=[]
 | d::ds,xs=>∃ v vs,xs=v::vs/\di d v/\aM ds vs
def cw:List (bD×D)->List (bD×V)->Prop
 | [],xs=>xs=[]
 | (k,d)::ds,xs=>∃ v vs,xs=(k,v)::vs/\di d v/\cw ds vs
def pF:List (Str×D)->List (Str×V)->Prop
 | [],xs=>xs=[]
 | (k,d)::ds,xs=>∃ v vs,xs=(k,v)::vs/\di d v/\pF ds vs
end
end
def aC.rd {H H':Hp} {a:ID} {u:HO} (s:aC H H') (h:Rd H a u):Rd H' a u:=by
 rcases h with h|⟨o,h⟩
 .exact .inl (s _ _ h)
 .exact .inr ⟨o,s _ _ h⟩
section
variable {K:aT} {H H':Hp}
mutual
def di.mono (s:aC H H'):∀ {d:D} {v:V},di K H d v->di K H' d v
 | .non,_,h=>h
 | .bl _,_,h=>h
 | .int _,_,h=>h
 | .str _,_,h=>h
 | .ty _,_,h=>h
 | .lst ds,_,⟨a,xs,e,h1,h2⟩=>⟨a,xs,e,s.seq h1,aM.mono s h2⟩
 | .tup ds,_,⟨a,xs,e,h1,h2⟩=>⟨a,xs,e,s.seqT h1,aM.mono s h2⟩
 | .dct ds,_,⟨a,xs,e,h1,h2⟩=>⟨a,xs,e,s _ _ h1,cw.mono s h2⟩
 | .obj x ds,_,⟨a,C,dx,xs,e,h0,h1,h2⟩=>⟨a,C,dx,xs,e,h0,s _ _ h1,pF.mono s h2⟩
 | .exn _,_,⟨a,C,e,h1,h2⟩=>⟨a,C,e,h1,s _ _ h2⟩
 | .cls _,_,h=>h
 | .lsm ds,_,⟨a,xs,e,h1,h2⟩=>⟨a,xs,e,s _ _ h1,aM.mono s h2⟩
 | .dcf ds,_,⟨a,o,xs,e,h1,h2⟩=>⟨a,o,xs,e,s _ _ h1,cw.mono s h2⟩
def aM.mono (s:aC H H'):∀ {d:acO} {v:acN},aM K H d v->aM K H' d v
 | [],_,h=>h
 | d::ds,_,⟨v,vs,e,h1,h2⟩=>⟨v,vs,e,di.mono s h1,aM.mono s h2⟩
def cw.mono (s:aC H H'):∀ {d:List (bD×D)} {v:List (bD×V)},cw K H d v->cw K H' d v
 | [],_,h=>h
 | (k,d)::ds,_,⟨v,vs,e,h1,h2⟩=>⟨v,vs,e,di.mono s h1,cw.mono s h2⟩
def pF.mono (s:aC H H'):∀ {d:List (Str×D)} {v:List (Str×V)},pF K H d v->pF K H' d v
 | [],_,h=>h
 | (k,d)::ds,_,⟨v,vs,e,h1,h2⟩=>⟨v,vs,e,di.mono s h1,pF.mono s h2⟩
end
theorem aM.len:∀ {ds:acO} {xs:acN},aM K H ds xs->ds.length=xs.length
 | [],_,h=>by cases h;rfl
 | d::ds,_,⟨v,vs,e,h1,h2⟩=>by subst e;simp [aM.len h2]
def aM.get:∀ {ds:acO} {xs:acN} {i:Nat} {d:D},aM K H ds xs->ds[i]?=some d->∃ v,xs[i]?=some v/\di K H d v
 | [],_,_,_,_,e=>by simp at e
 | d::ds,_,0,_,⟨v,vs,e,h1,h2⟩,q=>by
  simp at q;subst q e;exact ⟨v,rfl,h1⟩
 | d::ds,_,i+1,_,⟨v,vs,e,h1,h2⟩,q=>by
  subst e;obtain ⟨u,J,I⟩:=aM.get (i:=i) h2 (by simpa using q);exact ⟨u,by simpa using J,I⟩
def aM.got:∀ {ds:acO} {xs:acN} {i:Nat} {v:V},aM K H ds xs->xs[i]?=some v->∃ d,ds[i]?=some d/\di K H d v
 | [],_,_,_,h,e=>by cases h;simp at e
 | d::ds,_,0,_,⟨v,vs,e,h1,h2⟩,q=>by
  subst e;simp at q;subst q;exact ⟨d,rfl,h1⟩
 | d::ds,_,i+1,_,⟨v,vs,e,h1,h2⟩,q=>by
  subst e;obtain ⟨u,J,I⟩:=aM.got (i:=i) h2 (by simpa using q);exact ⟨u,by simpa using J,I⟩
def aM.nil:aM K H [] []:=rfl
def aM.cons {d:D} {ds:acO} {v:V} {xs:acN} (h:di K H d v) (t:aM K H ds xs):aM K H (d::ds) (v::xs):=⟨v,xs,rfl,h,t⟩
def aM.append:∀ {ds es:acO} {xs ys:acN},aM K H ds xs->aM K H es ys->aM K H (ds++es) (xs++ys)
 | [],_,_,_,h,t=>by cases h;exact t
 | d::ds,_,_,_,⟨v,vs,e,h1,h2⟩,t=>by subst e;exact ⟨v,_,rfl,h1,aM.append h2 t⟩
def aM.take:∀ {ds:acO} {xs:acN} (n:Nat),aM K H ds xs->aM K H (ds.take n) (xs.take n)
 | _,_,0,_=>by simp only [Y6];exact rfl
 | [],_,n+1,h=>by cases h;exact rfl
 | d::ds,_,n+1,⟨v,vs,e,h1,h2⟩=>by subst e;exact ⟨v,_,rfl,h1,aM.take n h2⟩
def aM.drop:∀ {ds:acO} {xs:acN} (n:Nat),aM K H ds xs->aM K H (ds.drop n) (xs.drop n)
 | _,_,0,h=>h
 | [],_,n+1,h=>by cases h;exact rfl
 | d::ds,_,n+1,⟨v,vs,e,h1,h2⟩=>by subst e;exact aM.drop n h2
end
def aK (as:acL) (H:Hp):Hp:=fun b=>if b∈as then none else H b
def dJ {as:acL} {H:Hp} {b:ID} (h:b∈as):aK as H b=none:=acA h
def aW {as:acL} {H:Hp} {b:ID} (h:b∉as):aK as H b=H b:=acB h
def zC {H:Hp}:aK [] H=H:=by funext b;exact acB (by simp)
def az (as:acL) (H:Hp):aC (aK as H) H:=fun b o e=>by
 unfold aK at e;split at e
 .cases e
 .exact e
def aV {as:acL} {H H':Hp} (s:aC H H'):aC (aK as H) (aK as H'):=fun b o e=>by
 unfold aK at e ⊢;split at e
 .cases e
 .rename_i h;rw [acB h];exact s b o e
def lJ (as bs:acL) (H:Hp):aK (as++bs) H=aK bs (aK as H):=by
 funext b
 unfold aK;by_cases h1:b∈as <;> by_cases h2:b∈bs <;> simp [h1,h2]
def lv {as bs:acL} {H:Hp} (h:∀ a∈bs,a∈as):aC (aK as H) (aK bs H):=fun b o e=>by
 by_cases I:b∈as
 .rw [dJ I] at e;cases e
 .rw [aW I] at e;rw [aW fun z=>I (h b z)];exact e
def Eg {as:acL} {B H:Hp} (s:aC B H) (h:∀ a∈as,B a=none):aC B (aK as H):=fun b o e=>by
 have I:b∉as:=fun z=>by rw [h b z] at e;cases e
 rw [aW I];exact s b o e
inductive R (α:Type) where
 | ok (a:α)
 | er (x:Str)
 | no
def R.bind {α β:Type} (r:R α) (f:α->R β):R β:=match r with
 | .ok a=>f a
 | .er x=>.er x
 | .no=>.no
theorem aF {α I:Type} {a:α} {f:α->R I}:(R.ok a).bind f=f a:=rfl
def bind_assoc {α I J:Type} (r:R α) (f:α->R I) (g:I->R J):(r.bind f).bind g=r.bind fun a=>(f a).bind g:=by cases r <;> rfl
structure Wd where
 K:aT
 mg:Str->Option dO
 E:XK
abbrev Sd:=List (Option D)
def cK (W:Wd) (as:acL) (H:Hp) (r:R D) (Q:VK):Prop:=match r with
 | .ok d=>∀ v H',aC H H'->di W.K (aK as H') d v->Q v H'
 | .er x=>∀ e C H',aC H H'->W.mg x=some (.ref C)->W.E e (some C) H'
 | .no=>False
def jB (W:Wd) (as:acL) (H:Hp) (r:R (acO)) (Q:acN->Hp->Prop):Prop:=match r with
 | .ok d=>∀ v H',aC H H'->aM W.K (aK as H') d v->Q v H'
 | .er x=>∀ e C H',aC H H'->W.mg x=some (.ref C)->W.E e (some C) H'
 | .no=>False
def hG {α:Type} (W:Wd) (H:Hp) (r:R α) (Q:α->Hp->Prop):Prop:=match r with
 | .ok b=>∀ H',aC H H'->Q b H'
 | .er x=>∀ e C H',aC H H'->W.mg x=some (.ref C)->W.E e (some C) H'
 | .no=>False
def ma (K:aT) (H:Hp) (o:HO):D->Prop
 | .lst ds=>∃ xs,o=.lst xs/\aM K H ds xs
 | .dct ds=>∃ xs,o=.dK xs/\cw K H ds xs
 | .obj x ds=>∃ C dx xs,o=.ins C dx xs/\Xv K WJ x=some (some (.ref C))/\pF K H ds xs
 | _=>False
def gt (W:Wd) (as:acL) (H:Hp) (r:R D) (Q:VK):Prop:=match r with
 | .ok d=>∀ p o H',aC H H'->H p=none->H' p=some o->ma W.K (aK (p::as) H') o d->Q (.ref p) H'
 | .er x=>∀ e C H',aC H H'->W.mg x=some (.ref C)->W.E e (some C) H'
 | .no=>False
def cK.mono {W:Wd} {as:acL} {H H':Hp} {r:R D} {Q:VK} (h:cK W as H r Q) (s:aC H H'):cK W as H' r Q:=by
 cases r with
 | ok d=>exact fun v H2 I=>h v H2 (s.trans I)
 | er x=>exact fun e C H2 I=>h e C H2 (s.trans I)
 | no=>exact h
def gt.mono {W:Wd} {as:acL} {H H':Hp} {r:R D} {Q:VK} (h:gt W as H r Q) (s:aC H H'):gt W as H' r Q:=by
 cases r with
 | ok d=>exact fun p o H2 I J=>h p o H2 (s.trans I) (s.free J)
 | er x=>exact fun e C H2 I=>h e C H2 (s.trans I)
 | no=>exact h
def jB.mono {W:Wd} {as:acL} {H H':Hp} {r:R (acO)} {Q:acN->Hp->Prop} (h:jB W as H r Q) (s:aC H H'):jB W as H' r Q:=by
 cases r with
 | ok d=>exact fun v H2 I=>h v H2 (s.trans I)
 | er x=>exact fun e C H2 I=>h e C H2 (s.trans I)
 | no=>exact h
def hG.mono {α:Type} {W:Wd} {H H':Hp} {r:R α} {Q:α->Hp->Prop} (h:hG W H r Q) (s:aC H H'):hG W H' r Q:=by
 cases r with
 | ok d=>exact fun H2 I=>h H2 (s.trans I)
 | er x=>exact fun e C H2 I=>h e C H2 (s.trans I)
 | no=>exact h
def ma.den {K:aT} {H:Hp} {p:ID} {as:acL} {o:HO} {d:D} (Y:p∉as) (e:H p=some o) (h:ma K (aK (p::as) H) o d):di K (aK as H) d (.ref p):=by
 have s:aC (aK (p::as) H) (aK as H):=lv fun a J=>iN _ J;have I:aK as H p=some o:=by rw [aW Y];exact e
 cases d with
 | lst ds=>obtain ⟨xs,rfl,h⟩:=h;exact ⟨p,xs,rfl,.inl (.inl I),h.mono s⟩
 | dct ds=>obtain ⟨xs,rfl,h⟩:=h;exact ⟨p,xs,rfl,I,h.mono s⟩
 | obj x ds=>obtain ⟨C,dx,xs,rfl,L,h⟩:=h;exact ⟨p,C,dx,xs,rfl,L,I,h.mono s⟩
 | _=>exact h.elim
structure DI (K:aT) (as0:acL) (B:Hp) (O:acG) (own:acL) (Z:St) (U:Sd) (H:Hp):Prop where
 len:U.length=Z.length
 olen:own.length=O.length
 nd:own.Nodup
 ond:O.Nodup
 fresh:∀ a∈own,B a=none
 ex0:∀ a∈as0,B a≠none
 same:aC B H
 var:∀ i d,i∉O->U[i]?=some (some d)->∃ v,Z[i]?=some (some v)/\di K (aK (own++as0) H) d v
 owns:∀ i a,(i,a)∈O.zip own->∃ d o,U[i]?=some (some d)/\Z[i]?=some (some (.ref a))/\H a=some o/\ma K (aK (own++as0) H) o d
section
variable {K:aT} {as0 own:acL} {B H H':Hp} {O:acG} {Z:St} {U:Sd}
def ma.mono {o:HO} {d:D} (s:aC H H') (h:ma K H o d):ma K H' o d:=by
 cases d with
 | lst ds=>obtain ⟨xs,rfl,h⟩:=h;exact ⟨xs,rfl,h.mono s⟩
 | dct ds=>obtain ⟨xs,rfl,h⟩:=h;exact ⟨xs,rfl,h.mono s⟩
 | obj x ds=>obtain ⟨C,dx,xs,rfl,I,h⟩:=h;exact ⟨C,dx,xs,rfl,I,h.mono s⟩
 | _=>exact h.elim
def wR:∀ {O:acG} {own:acL} {a:ID},own.length=O.length->a∈own->∃ i,(i,a)∈O.zip own
 | [],[],_,_,h=>by cases h
 | i::O,b::own,a,l,h=>by
  rcases rW.mp h with rfl|h
  .exact ⟨i,OR⟩
  .obtain ⟨j,hj⟩:=wR (O:=O) (own:=own) (by simpa using l) h;exact ⟨j,iN _ hj⟩
 | [],_::_,_,l,_=>by simp at l
 | _::_,[],_,_,h=>by cases h
def DI.exi (I:DI K as0 B O own Z U H):∀ a∈own++as0,H a≠none:=fun a J=>by
 rcases MK.mp J with h|h
 .obtain ⟨i,hi⟩:=wR I.olen h;obtain ⟨d,o,_,_,e,_⟩:=I.owns i a hi;rw [e];simp
 .cases e:B a with
  | none=>exact absurd e (I.ex0 a h)
  | some o=>rw [I.same a o e];simp
def DI.new (I:DI K as0 B O own Z U H) {p:ID} (h:H p=none):p∉own++as0:=fun z=>I.exi p z h
def DI.mono (I:DI K as0 B O own Z U H) (s:aC H H'):DI K as0 B O own Z U H' :=
 ⟨I.len,I.olen,I.nd,I.ond,I.fresh,I.ex0,I.same.trans s,fun i d hi e=>let ⟨v,h1,h2⟩:=I.var i d hi e;⟨v,h1,h2.mono (aV s)⟩,
  fun i a hi=>let ⟨d,o,h1,h2,h3,h4⟩:=I.owns i a hi;⟨d,o,h1,h2,s a o h3,h4.mono (aV s)⟩⟩
def DI.base {J:Hp} (I:DI K as0 J O own Z U H) (s:aC B J) (h:∀ a∈as0,B a≠none):DI K as0 B O own Z U H :=
 ⟨I.len,I.olen,I.nd,I.ond,fun a L=>s.free (I.fresh a L),h,s.trans I.same,I.var,I.owns⟩
def DI.rebase (I:DI K as0 B O own Z U H) (L:∀ a∈own,a∉as0):DI K as0 (aK own H) O own Z U H :=
 ⟨I.len,I.olen,I.nd,I.ond,fun a J=>dJ J,fun a J=>(by
  rw [aW fun z=>L a z J];cases e:B a with
  | none=>exact absurd e (I.ex0 a J)
  | some o=>rw [I.same a o e];simp),az _ _,I.var,I.owns⟩
def DI.apart (I:DI K as0 B O own Z U H):∀ a∈own,a∉as0:=fun a J z=>I.ex0 a z (I.fresh a J)
def DI.baseIn (I:DI K as0 B O own Z U H):aC B (aK own H):=Eg I.same I.fresh
end
abbrev FE:=Sd->R D
abbrev FT:=Sd->R Bool
abbrev FA:=Sd->R (acO)
def tD (W:Wd) (O:acG) (φ:FE):TE:=fun Z H Q=>∃ as0 B own U,DI W.K as0 B O own Z U H/\cK W (own++as0) H (φ U) Q
def tN (W:Wd) (O:acG) (φ:FE):TE:=fun Z H Q=>∃ as0 B own U,DI W.K as0 B O own Z U H/\gt W (own++as0) H (φ U) Q
def rZ (W:Wd) (O:acG) (φ:FT):TT:=fun Z H Q=>∃ as0 B own U,DI W.K as0 B O own Z U H/\hG W H (φ U) Q
def xC (W:Wd) (O:acG) (φ:FA):TA:=fun Z H Q=>∃ as0 B own U,DI W.K as0 B O own Z U H/\jB W (own++as0) H (φ U) Q
def Tn (W:Wd) (O:acG) (φ:Sd->R (Option Int)):TO:=fun Z H Q=>∃ as0 B own U,DI W.K as0 B O own Z U H/\hG W H (φ U) Q
section
variable {W:Wd} {as:acL} {H:Hp} {Q:VK}
def bU {r:R D} {f:D->R D} {Q':VK} (h:cK W as H (r.bind f) Q) (q:∀ d v H',aC H H'->di W.K (aK as H') d v->cK W as H' (f d) Q->Q' v H'):cK W as H r Q':=by
 cases r with
 | ok d=>exact fun v H' s I=>q d v H' s I (cK.mono h s)
 | er x=>exact h
 | no=>exact h
def gw {r:R (acO)} {f:acO->R D} {Q':acN->Hp->Prop} (h:cK W as H (r.bind f) Q) (q:∀ d v H',aC H H'->aM W.K (aK as H') d v->cK W as H' (f d) Q->Q' v H'):jB W as H r Q':=by
 cases r with
 | ok d=>exact fun v H' s I=>q d v H' s I (cK.mono h s)
 | er x=>exact h
 | no=>exact h
def ic {r:R (acO)} {f:acO->R D} {Q':acN->Hp->Prop} (h:gt W as H (r.bind f) Q) (q:∀ d v H',aC H H'->aM W.K (aK as H') d v->gt W as H' (f d) Q->Q' v H'):jB W as H r Q':=by
 cases r with
 | ok d=>exact fun v H' s I=>q d v H' s I (gt.mono h s)
 | er x=>exact h
 | no=>exact h
def pG {α:Type} {r:R α} {f:α->R D} {Q':α->Hp->Prop} (h:cK W as H (r.bind f) Q) (q:∀ d H',aC H H'->cK W as H' (f d) Q->Q' d H'):hG W H r Q':=by
 cases r with
 | ok d=>exact fun H' s=>q d H' s (cK.mono h s)
 | er x=>exact h
 | no=>exact h
def gH {α:Type} {r:R D} {f:D->R α} {Q:α->Hp->Prop} {Q':VK} (h:hG W H (r.bind f) Q) (q:∀ d v H',aC H H'->di W.K (aK as H') d v->hG W H' (f d) Q->Q' v H'):cK W as H r Q':=by
 cases r with
 | ok d=>exact fun v H' s I=>q d v H' s I (hG.mono h s)
 | er x=>exact h
 | no=>exact h
def m7 {α I:Type} {r:R α} {f:α->R I} {Q:I->Hp->Prop} {Q':α->Hp->Prop} (h:hG W H (r.bind f) Q) (q:∀ d H',aC H H'->hG W H' (f d) Q->Q' d H'):hG W H r Q':=by
 cases r with
 | ok d=>exact fun H' s=>q d H' s (hG.mono h s)
 | er x=>exact h
 | no=>exact h
def A8 {r:R D} {f:D->R (acO)} {Q:acN->Hp->Prop} {Q':VK} (h:jB W as H (r.bind f) Q) (q:∀ d v H',aC H H'->di W.K (aK as H') d v->jB W as H' (f d) Q->Q' v H'):cK W as H r Q':=by
 cases r with
 | ok d=>exact fun v H' s I=>q d v H' s I (jB.mono h s)
 | er x=>exact h
 | no=>exact h
def zd {r:R (acO)} {f:acO->R (acO)} {Q Q':acN->Hp->Prop} (h:jB W as H (r.bind f) Q) (q:∀ d v H',aC H H'->aM W.K (aK as H') d v->jB W as H' (f d) Q->Q' v H'):jB W as H r Q':=by
 cases r with
 | ok d=>exact fun v H' s I=>q d v H' s I (jB.mono h s)
 | er x=>exact h
 | no=>exact h
end
section
variable {X:Cx} {W:Wd} {O:acG} {a b c e:W3} {φ ψ χ:FE} {pos:Pos} {rest es:List W3} {α:FA}
def ah (i:Nat):FE:=fun U=>match U[i]? with
 | some (some d)=>.ok d
 | _=>.no
def vC (d:D):FE:=fun _=>.ok d
def ag (i:Nat) {x:Str} (Y:i∉O:=by decide) (hN:X.N[i]?=some x:=by rfl) (L:yH X.env.scope x:=by walk_at"v") (hd:acP x:=by decide)
  (J:(x==("__classdict__":Str))=false:=by decide):JE X (.Name x pos) (tD W O (ah i)):=(jv i hN L hd J).imp fun Z H Q hh=>eG hh fun as0 B own U I h=>by
 unfold ah at h;split at h
 .rename_i d e;obtain ⟨v,h1,h2⟩:=I.var i d Y e;show rV Z[i]? H Q;rw [h1];exact h v H (aC.refl H) h2
 .exact h.elim
def aj {i j}:JE X (.Constant (.int i) j pos) (tD W O (vC (.int i))):=Rq.imp fun Z H Q J=>eG J fun as0 B own U I h=>h _ H (aC.refl H) rfl
def D6 {b j}:JE X (.Constant (.bool b) j pos) (tD W O (vC (.bl b))):=UD.imp fun Z H Q J=>eG J fun as0 B own U I h=>h _ H (aC.refl H) rfl
def j6 {j}:JE X (.Constant .none j pos) (tD W O (vC .non)):=Rj.imp fun Z H Q J=>eG J fun as0 B own U I h=>h _ H (aC.refl H) rfl
def bK {x j}:JE X (.Constant (.str x) j pos) (tD W O (vC (.str x))):=SE.imp fun Z H Q J=>eG J fun as0 B own U I h=>h _ H (aC.refl H) rfl
def Ba {x:Str} {d:D} {v:V} {u:dO} (L:X.mg x=some u) (r:bg v u) (hd:∀ H,di W.K H d v) (hg:Gl X x:=by rfl) (J:acP x:=by decide):JE X (.Name x pos) (tD W O (vC d)) :=
 (GE L r hg J).imp fun Z H Q Y=>eG Y fun as0 B own U I h=>h _ H (aC.refl H) (hd _)
def zN {x:Str} {n:String} (L:X.mg x=none) (Y:WS x=some (.type n)) (hg:Gl X x:=by rfl) (hn:x≠"__name__":=by decide) (hd:acP x:=by decide):JE X (.Name x pos) (tD W O (vC (.ty n))) :=
 (T6 L Y hg hn hd).imp fun Z H Q J=>eG J fun as0 B own U I h=>h _ H (aC.refl H) rfl
def rH (W:Wd) (r:R2) (op:D->D->R D):Prop:=∀ (as:acL) (H:Hp) (x y:V) (a b:D) (Q:VK),(∀ p,H p=none->p∉as)->di W.K (aK as H) a x->di W.K (aK as H) b y->cK W as H (op a b) Q->r x y H Q
def aw (op:D->D->R D) (φ ψ:FE):FE:=fun U=>(φ U).bind fun x=>(ψ U).bind fun y=>op x y
def G6 {t:TE->TE->TE} {r:R2} {op:D->D->R D} (ht:∀ {ta tb:TE},JE X a ta->JE X b tb->JE X e (t ta tb)) (et:t=A7 r) (ho:rH W r op) (Y:JE X a (tD W O φ)) (hb:JE X b (tD W O ψ)):JE X e (tD W O (aw op φ ψ)):=by
 subst et;refine (ht Y hb).imp fun Z H Q hh=>eG hh fun as0 B own U I h=>⟨as0,B,own,U,I,bU h fun x v H1 L d1 h1=>⟨as0,B,own,U,I.mono L,bU h1 fun y u H2 J d2 h2=>?_⟩⟩;exact ho (own++as0) H2 v u x y Q (fun p hp=>((I.mono L).mono J).new hp) (d1.mono (aV J)) d2 h2
def ql {op:Operator} {r:R2} {g:D->D->R D} (L:fb X (X9 op) r) (hd:rH W r g) (I:JE X a (tD W O φ)) (J:JE X b (tD W O ψ)):JE X (.BinOp a op b pos) (tD W O (aw g φ ψ)) :=
 G6 (t:=A7 r) (fun h1 h2=>UP L h1 h2) rfl hd I J
def sE {op:CmpOp} {r:R2} {g:D->D->R D} (Y:fb X (WR op) r) (hd:rH W r g) (J:JE X a (tD W O φ)) (L:JE X b (tD W O ψ)) (I:Yu op b=false):JE X (.Compare a [op] [b] pos) (tD W O (aw g φ ψ)) :=
 G6 (t:=A7 r) (fun h1 h2=>OV Y h1 h2 I) rfl hd J L
def Uk {r:R2} {g:D->D->R D} (I:Ao X r) (hd:rH W r g) (J:JE X a (tD W O φ)) (L:JE X b (tD W O ψ)) (Y:qe b:=by exact fun _ _=>rfl):JE X (.Subscript a b pos) (tD W O (aw g φ ψ)) :=
 G6 (t:=A7 r) (fun h1 h2=>Ov I h1 h2 Y) rfl hd J L
def VA (W:Wd) (r:V->Hp->VK->Prop) (op:D->R D):Prop:=∀ (as:acL) (H:Hp) (x:V) (a:D) (Q:VK),di W.K (aK as H) a x->cK W as H (op a) Q->r x H Q
def JF (op:D->R D) (φ:FE):FE:=fun U=>(φ U).bind op
def FI {op:UnaryOp} {r:V->Hp->VK->Prop} {g:D->R D} (L:Kn X (unaryOp op) r) (hd:VA W r g) (J:JE X a (tD W O φ)):JE X (.UnaryOp op a pos) (tD W O (JF g φ)) :=
 (Ut L J).imp fun Z H Q Y=>eG Y fun as0 B own U I h=>⟨as0,B,own,U,I,bU h fun x v H1 s1 d1 h1=>hd (own++as0) H1 v x Q d1 h1⟩
def Jt {α:Type} (d:D) (f:Bool->R α):R α:=match d with
 | .bl b=>f b
 | _=>.no
def AZ (φ ψ:FE):FE:=fun U=>(φ U).bind fun x=>Jt x fun b=>if b=true then ψ U else .ok (.bl false)
def N6 (φ ψ:FE):FE:=fun U=>(φ U).bind fun x=>Jt x fun b=>if b=true then .ok (.bl true) else ψ U
def Gu {op} (h:JE X a (tD W O φ)):JE X (.BoolOp op [a] pos) (tD W O φ):=P0 h
def KD (J:JE X a (tD W O φ)) (L:JE X (.BoolOp .And (b::rest) pos) (tD W O ψ)):JE X (.BoolOp .And (a::b::rest) pos) (tD W O (AZ φ ψ)) :=
 (QH J L).imp fun Z H Q Y=>eG Y fun as0 B own U I h=>⟨as0,B,own,U,I,bU h fun x v H1 s1 d1 h1=>by
  cases x with
  | bl b =>
   cases d1;cases b with
   | true=>exact ⟨as0,B,own,U,I.mono s1,h1⟩
   | false=>exact h1 _ H1 (aC.refl _) rfl
  | _=>exact h1.elim⟩
def UG (J:JE X a (tD W O φ)) (L:JE X (.BoolOp .Or (b::rest) pos) (tD W O ψ)):JE X (.BoolOp .Or (a::b::rest) pos) (tD W O (N6 φ ψ)) :=
 (Uw J L).imp fun Z H Q Y=>eG Y fun as0 B own U I h=>⟨as0,B,own,U,I,bU h fun x v H1 s1 d1 h1=>by
  cases x with
  | bl b =>
   cases d1;cases b with
   | false=>exact ⟨as0,B,own,U,I.mono s1,h1⟩
   | true=>exact h1 _ H1 (aC.refl _) rfl
  | _=>exact h1.elim⟩
variable {τ υ:FT}
def bR (φ:FE):FT:=fun U=>(φ U).bind fun x=>Jt x .ok
def aO {op:CmpOp} {r:R2} {g:D->D->R D} (ho:fb X (WR op) r) (hd:rH W r g) (ha:JE X a (tD W O φ)) (hb:JE X b (tD W O ψ)) (hm:Yu op b=false):JT X (.Compare a [op] [b] pos) (rZ W O (bR (aw g φ ψ))):=by
 refine (Fj ho ha hb hm).imp fun Z H Q hh=>eG hh fun as0 B own U I h=>?_;have h':hG W H ((φ U).bind fun x=>((ψ U).bind fun y=>g x y).bind fun x=>Jt x .ok) Q:=by
  have e:bR (aw g φ ψ) U=(φ U).bind fun x=>((ψ U).bind fun y=>g x y).bind fun x=>Jt x .ok:=by
   unfold bR aw;rw [bind_assoc]
  rw [e] at h;exact h
 refine ⟨as0,B,own,U,I,gH h' fun x v H1 s1 d1 h1=>?_⟩;have J:hG W H1 ((ψ U).bind fun y=>(g x y).bind fun x=>Jt x .ok) Q:=by rw [<- bind_assoc];exact h1
 refine ⟨as0,B,own,U,I.mono s1,gH J fun y u H2 L d2 h2=>?_⟩;refine hd (own++as0) H2 v u x y _ (fun p hp=>((I.mono s1).mono L).new hp) (d1.mono (aV L)) d2 (gH h2 fun z w H3 s3 d3 Y=>?_);cases z with
 | bl k=>cases d3;exact Y H3 (aC.refl _)
 | _=>exact Y.elim
def Nj:D->R Bool
 | .non=>.ok false
 | .bl b=>.ok b
 | .int i=>.ok (i != 0)
 | .str y=>if y.length<=1000000 then .ok (y.length != 0) else .no
 | .lst xs=>.ok (!xs.isEmpty)
 | .tup xs=>.ok (!xs.isEmpty)
 | .dct kvs=>.ok (!kvs.isEmpty)
 | _=>.no
def aM.empty {K:aT} {H:Hp} {ds:acO} {xs:acN} (h:aM K H ds xs):xs.isEmpty=ds.isEmpty:=by
 cases ds with
 | nil=>cases h;rfl
 | cons d r=>obtain ⟨v,vs,rfl,_⟩:=h;rfl
def cw.empty {K:aT} {H:Hp} {ds:List (bD×D)} {xs:List (bD×V)} (h:cw K H ds xs):xs.isEmpty=ds.isEmpty:=by
 cases ds with
 | nil=>cases h;rfl
 | cons d r=>obtain ⟨k,d⟩:=d;obtain ⟨v,vs,rfl,_⟩:=h;rfl
def dL:(1000000:Nat)<=Wp:=by rw [W0];decide
def iC (φ:FE):FT:=fun U=>(φ U).bind Nj
def b9 (K:aT) (ha:JE X a (tD W O φ)) (he:∀ J,isTrue a X.env J=(do let v <- J;ab4 a.pos;holding [v] (truthy v)):=by exact fun _=>rfl) (hK:X.K=K:=by rfl) (hW:W.K=K:=by rfl):JT X a (rZ W O (iC φ)) :=
 (G2 K ha he hK).imp fun Z H Q hh=>eG hh fun as0 B own U I h=>⟨as0,B,own,U,I,gH h fun x v H1 s1 d1 h1=>by
  subst hW;cases x with
  | non=>cases d1;exact h1 H1 (aC.refl _)
  | bl b=>cases d1;exact h1 H1 (aC.refl _)
  | int i=>cases d1;exact h1 H1 (aC.refl _)
  | str y =>
   cases d1;have h2:hG W H1 (if y.length<=1000000 then R.ok (y.length != 0) else R.no) Q:=h1;split at h2
   .rename_i hl;refine ⟨IF hl dL,?_⟩;have e:((y.length:Int) != 0)=(y.length != 0):=by
     cases hy:y.length with
     | zero=>rfl
     | succ n=>simp;omega
    rw [e];exact h2 H1 (aC.refl _)
   .exact h2.elim
  | lst ds =>
   obtain ⟨p,xs,rfl,Y,L⟩:=d1;refine .inl (.inl ⟨xs,(az _ _).seq Y,?_⟩);rw [L.empty];exact h1 H1 (aC.refl _)
  | tup ds =>
   obtain ⟨p,xs,rfl,Y,L⟩:=d1;refine .inl (.inr ⟨xs,(az _ _).seqT Y,?_⟩);rw [L.empty];exact h1 H1 (aC.refl _)
  | dct ds =>
   obtain ⟨p,xs,rfl,Y,L⟩:=d1;refine .inr ⟨xs,az _ _ _ _ Y,?_⟩;rw [L.empty];exact h1 H1 (aC.refl _)
  | _=>exact h1.elim⟩
def qy (τ υ:FT):FT:=fun U=>(τ U).bind fun b=>if b=true then υ U else .ok false
def wu (τ υ:FT):FT:=fun U=>(τ U).bind fun b=>if b=true then .ok true else υ U
def mR (τ:FT):FT:=fun U=>(τ U).bind fun b=>.ok (!b)
def cp (h:JW X a (rZ W O τ)):JT X a (rZ W O τ):=Je h
def j8 (I:JT X a (rZ W O τ)):JW X (.BoolOp .And [a] pos) (rZ W O τ):=JV I
def kK (I:JT X a (rZ W O τ)):JW X (.BoolOp .Or [a] pos) (rZ W O τ):=Ny I
def mU (L:JT X a (rZ W O τ)) (Y:JW X (.BoolOp .And (b::rest) pos) (rZ W O υ)):JW X (.BoolOp .And (a::b::rest) pos) (rZ W O (qy τ υ)) :=
 (NK L Y).imp fun Z H Q J=>eG J fun as0 B own U I h=>⟨as0,B,own,U,I,m7 h fun c H1 s1 h1=>by
  cases c with
  | true=>exact ⟨as0,B,own,U,I.mono s1,h1⟩
  | false=>exact h1 H1 (aC.refl _)⟩
def j0 (L:JT X a (rZ W O τ)) (Y:JW X (.BoolOp .Or (b::rest) pos) (rZ W O υ)):JW X (.BoolOp .Or (a::b::rest) pos) (rZ W O (wu τ υ)) :=
 (Pw L Y).imp fun Z H Q J=>eG J fun as0 B own U I h=>⟨as0,B,own,U,I,m7 h fun c H1 s1 h1=>by
  cases c with
  | false=>exact ⟨as0,B,own,U,I.mono s1,h1⟩
  | true=>exact h1 H1 (aC.refl _)⟩
def kP (L:JT X a (rZ W O τ)):JT X (.UnaryOp .Not a pos) (rZ W O (mR τ)) :=
 (LI L).imp fun Z H Q J=>eG J fun as0 B own U I h=>⟨as0,B,own,U,I,m7 h fun c H1 Y h1=>h1 H1 (aC.refl _)⟩
def Lu (τ:FT) (φ ψ:FE):FE:=fun U=>(τ U).bind fun b=>if b=true then φ U else ψ U
def Co (hc:JT X c (rZ W O τ)) (Y:JE X a (tD W O φ)) (hb:JE X b (tD W O ψ)):JE X (.IfExp c a b pos) (tD W O (Lu τ φ ψ)) :=
 (Pt hc Y hb).imp fun Z H Q L=>eG L fun as0 B own U I h=>⟨as0,B,own,U,I,pG h fun c H1 J h1=>by
  cases c with
  | true=>exact ⟨as0,B,own,U,I.mono J,h1⟩
  | false=>exact ⟨as0,B,own,U,I.mono J,h1⟩⟩
def ap:FA:=fun _=>.ok []
def ae (φ:FE) (α:FA):FA:=fun U=>(φ U).bind fun d=>(α U).bind fun ds=>.ok (d::ds)
def ak:JA X [] (xC W O ap):=rS.imp fun Z H Q J=>eG J fun as0 B own U I h=>h [] H (aC.refl _) rfl
def aa (J:JE X e (tD W O φ)) (Y:JA X es (xC W O α)) (hn:ba e=true:=by rfl):JA X (e::es) (xC W O (ae φ α)) :=
 (oB J Y hn).imp fun Z H Q hh=>eG hh fun as0 B own U I h=>⟨as0,B,own,U,I,A8 h fun d v H1 s1 d1 h1=>⟨as0,B,own,U,I.mono s1,zd h1 fun ds vs H2 L d2 h2 =>
  h2 (v::vs) H2 (aC.refl _) ⟨v,vs,rfl,d1.mono (aV L),d2⟩⟩⟩
def yT (ds:acO):R D:=if ds.length<=1000000 then .ok (.lst ds) else .no
def C8 (ds:acO):R D:=if ds.length<=1000000 then .ok (.tup ds) else .no
def eR (α:FA):FE:=fun U=>(α U).bind yT
def dt (α:FA):FE:=fun U=>(α U).bind C8
def Ep {as:acL} {H:Hp} {ds:acO} {xs:acN} {Q:VK} (h:gt W as H (yT ds) Q) (hd:aM W.K (aK as H) ds xs):xs.length<=Wp/\∀ p,H p=none->Q (.ref p) (upd H p (.lst xs)):=by
 unfold yT at h;split at h
 .rename_i hl;refine ⟨by rw [<- hd.len];exact IF hl dL,fun p J=>?_⟩;refine h p (.lst xs) (upd H p (.lst xs)) (aX J _) J aS ⟨xs,rfl,hd.mono ?_⟩;intro b o e;have L:b≠p:=fun z=>by
   subst z
   have:=az _ _ _ _ e
   rw [J] at this;cases this
  by_cases I:b∈as
  .rw [dJ I] at e;cases e
  .rw [aW I] at e;rw [aW (by simp [L,I]),aP L];exact e
 .exact h.elim
def dY (h:JA X es (xC W O α)):JE X (.List es pos) (tN W O (eR α)) :=
 (Qq h).imp fun Z H Q J=>eG J fun as0 B own U I h=>⟨as0,B,own,U,I,ic h fun ds xs H1 L d1 h1=>Ep h1 d1⟩
def bZ (h:JE X e (tN W O φ)):JE X e (tD W O φ):=h.imp fun Z H Q J=>eG J fun as0 B own U I q=>by
 refine ⟨as0,B,own,U,I,?_⟩;cases hr:φ U with
 | ok d =>
  rw [hr] at q;exact fun p o H' s L e od=>q (.ref p) H' s (od.den (I.new L) e)
 | er x=>rw [hr] at q;exact q
 | no=>rw [hr] at q;exact q
def cH {x1} (h:JA X es (xC W O α)):JE X (.Tuple es x1 pos) (tD W O (dt α)) :=
 (PJ h).imp fun Z H Q L=>eG L fun as0 B own U I h=>⟨as0,B,own,U,I,gw h fun ds xs H1 Y d1 h1=>by
  unfold C8 at h1;split at h1
  .rename_i hl;refine ⟨by rw [<- d1.len];exact IF hl dL,fun p J=>?_⟩;have hn:=(I.mono Y).new J;refine h1 (.ref p) (upd H1 p (.tup xs)) (aX J _) ⟨p,xs,rfl,.inl (.inl ?_),d1.mono (aV (aX J _))⟩;rw [aW hn];exact aS
  .exact h1.elim⟩
def sJ (W:Wd) (r:acN->Hp->VK->Prop) (g:acO->R D):Prop:=∀ (as:acL) (H:Hp) (xs:acN) (ds:acO) (Q:VK),(∀ a∈as,H a≠none)->aM W.K (aK as H) ds xs->cK W as H (g ds) Q->r xs H Q
def yR (W:Wd) (r:acN->Hp->VK->Prop) (g:acO->R D):Prop:=∀ (as:acL) (H:Hp) (xs:acN) (ds:acO) (Q:VK),(∀ a∈as,H a≠none)->aM W.K (aK as H) ds xs->gt W as H (g ds) Q->r xs H Q
def ao (g:acO->R D) (α:FA):FE:=fun U=>(α U).bind g
section
variable {x:Str} {p:Pos} {id T:String} {r:acN->Hp->VK->Prop} {g:acO->R D}
def bE (hc:cj X (.builtin id) r) (hd:sJ W r g) (hm:X.mg x=none) (L:WS x=some (.builtin id)) (Y:JA X (e::es) (xC W O α)) (hg:Gl X x:=by rfl) (h1:ba e=true:=by rfl) (h2:es.all ba=true:=by rfl) (hn:x≠"__name__":=by decide) (J:acP x:=by decide) :
  JE X (.Call (.Name x p) (e::es) [] pos) (tD W O (ao g α)) :=
 (xh hc hm L Y hg h1 h2 hn J).imp fun Z H Q hh=>eG hh fun as0 B own U I h=>⟨as0,B,own,U,I,gw h fun ds xs H1 s1 d1 h1=>hd (own++as0) H1 xs ds Q (I.mono s1).exi d1 h1⟩
def qD (hc:cj X (.type T) r) (hd:sJ W r g) (hm:X.mg x=none) (L:WS x=some (.type T)) (Y:JA X (e::es) (xC W O α)) (hg:Gl X x:=by rfl) (h1:ba e=true:=by rfl) (h2:es.all ba=true:=by rfl) (hn:x≠"__name__":=by decide) (J:acP x:=by decide) :
  JE X (.Call (.Name x p) (e::es) [] pos) (tD W O (ao g α)) :=
 (xR hc hm L Y hg h1 h2 hn J).imp fun Z H Q hh=>eG hh fun as0 B own U I h=>⟨as0,B,own,U,I,gw h fun ds xs H1 s1 d1 h1=>hd (own++as0) H1 xs ds Q (I.mono s1).exi d1 h1⟩
def iV (hc:cj X (.type T) r) (hd:yR W r g) (hm:X.mg x=none) (L:WS x=some (.type T)) (Y:JA X (e::es) (xC W O α)) (hg:Gl X x:=by rfl) (h1:ba e=true:=by rfl) (h2:es.all ba=true:=by rfl) (hn:x≠"__name__":=by decide) (J:acP x:=by decide) :
  JE X (.Call (.Name x p) (e::es) [] pos) (tN W O (ao g α)) :=
 (xR hc hm L Y hg h1 h2 hn J).imp fun Z H Q hh=>eG hh fun as0 B own U I h=>⟨as0,B,own,U,I,ic h fun ds xs H1 s1 d1 h1=>hd (own++as0) H1 xs ds Q (I.mono s1).exi d1 h1⟩
end
def lf:Sd->R (Option Int):=fun _=>.ok none
def ii (φ:FE):Sd->R (Option Int):=fun U=>(φ U).bind fun d=>match d with
 | .int i=>.ok (some i)
 | _=>.no
def iP:JO X none (Tn W O lf):=Jw.imp fun Z H Q J=>eG J fun as0 B own U I h=>h H (aC.refl _)
def fT (h:JE X e (tD W O φ)):JO X (some e) (Tn W O (ii φ)):=(Iz h).imp fun Z H Q J=>eG J fun as0 B own U I h=>⟨as0,B,own,U,I,gH h fun d v H1 L d1 h1=>by
  cases d with
  | int i=>cases d1;exact h1 H1 (aC.refl _)
  | _=>exact h1.elim⟩
def UQ (W:Wd) (r:V->Option Int->Option Int->Hp->VK->Prop) (g:D->Option Int->Option Int->R D):Prop :=
 ∀ (as:acL) (H:Hp) (x:V) (lo hi:Option Int) (a:D) (Q:VK),(∀ p,H p=none->p∉as)->di W.K (aK as H) a x->cK W as H (g a lo hi) Q->r x lo hi H Q
def Ak (g:D->Option Int->Option Int->R D) (φ:FE) (l u:Sd->R (Option Int)):FE:=fun U=>(φ U).bind fun x=>(l U).bind fun lo=>(u U).bind fun hi=>g x lo hi
def gS {r:V->Option Int->Option Int->Hp->VK->Prop} {g:D->Option Int->Option Int->R D} {lo hi:Option W3} {l u:Sd->R (Option Int)} {p2:Pos} (hr:zU X r) (hd:UQ W r g) (he:JE X e (tD W O φ)) (hl:JO X lo (Tn W O l)) (hu:JO X hi (Tn W O u)) :
  JE X (.Subscript e (.Slice lo hi none p2) pos) (tD W O (Ak g φ l u)) :=
 (Ie hr he hl hu).imp fun Z H Q hh=>eG hh fun as0 B own U I h=>⟨as0,B,own,U,I,bU h fun x v H1 L d1 h1=>⟨as0,B,own,U,I.mono L,pG h1 fun lo H2 J h2=>⟨as0,B,own,U,(I.mono L).mono J,pG h2 fun hi H3 Y h3 =>
  hd (own++as0) H3 v lo hi x Q (fun p hp=>(((I.mono L).mono J).mono Y).new hp) (d1.mono (aV (J.trans Y))) h3⟩⟩⟩
def VU (W:Wd) (r:Str->acN->Hp->VK->Prop) (g:Str->acO->R D):Prop :=
 ∀ (as:acL) (H:Hp) (z:Str) (xs:acN) (ds:acO) (Q:VK),(∀ p,H p=none->p∉as)->aM W.K (aK as H) ds xs->cK W as H (g z ds) Q->r z xs H Q
def QS (g:Str->acO->R D) (φ:FE) (α:FA):FE:=fun U=>(φ U).bind fun x=>match x with
 | .str z=>(α U).bind fun ds=>g z ds
 | _=>.no
def Oo {o:W3} {name:Str} {apos cpos:Pos} {id:String} {r:Str->acN->Hp->VK->Prop} {g:Str->acO->R D} (Y:Slot "str" name id) (hty:typeOf (.builtin id)=pure (.type "method_descriptor")) (hm:Tl X id r) (hd:VU W r g) (ho:JE X o (tD W O φ)) (ha:JA X (e::es) (xC W O α))
  (J:Xa o name X.env (eval o X.env)=eval o X.env:=by rfl) (L:(apos.endLine==cpos.line)=true:=by rfl) (h1:(e::es).all ba=true:=by rfl) (hl:(e::es).length < 29:=by decide) :
  JE X (.Call (.Attribute o name apos) (e::es) [] cpos) (tD W O (QS g φ α)) :=
 (TZ Y hty hm ho ha J L h1 hl).imp fun Z H Q hh=>eG hh fun as0 B own U I h=>⟨as0,B,own,U,I,bU h fun x v H1 s1 d1 h1=>by
  cases x with
  | str z =>
   cases d1;exact ⟨as0,B,own,U,I.mono s1,gw h1 fun ds xs H2 s2 d2 h2=>hd (own++as0) H2 z xs ds Q (fun p hp=>((I.mono s1).mono s2).new hp) d2 h2⟩
  | _=>exact h1.elim⟩
end
inductive Fl where
 | nx (U:Sd)|rt (d:D)|bk (U:Sd)|ct (U:Sd)
 /-- a return of what is laid anew,and nobody else's -/
 | rn (d:D)
abbrev FS:=Sd->R Fl
def dZ (W:Wd) (as0:acL) (B:Hp) (Ob O':acG) (r:R Fl) (D:Ends):Prop:=match r with
 | .ok (.nx U)=>∀ own Z H,DI W.K as0 B O' own Z U H->D.nx Z H
 | .ok (.bk U)=>∀ own Z H,DI W.K as0 B Ob own Z U H->D.bk Z H
 | .ok (.ct U)=>∀ own Z H,DI W.K as0 B Ob own Z U H->D.ct Z H
 | .ok (.rt d)=>∀ v H,aC B H->di W.K (aK as0 H) d v->D.rt v H
 | .ok (.rn d)=>∀ p o H,aC B H->B p=none->H p=some o->ma W.K (aK (p::as0) H) o d->D.rt (.ref p) H
 | .er x=>∀ e C H,aC B H->W.mg x=some (.ref C)->W.E e (some C) H
 | .no=>False
def sD (W:Wd) (Ob O O':acG) (φ:FS):TS:=fun D Z H=>∃ as0 B own U,DI W.K as0 B O own Z U H/\dZ W as0 B Ob O' (φ U) D
section
variable {W:Wd} {as0 own:acL} {B H:Hp} {Ob O O':acG} {Z:St} {U:Sd} {D':Ends}
def dF {r:R D} {f:D->R Fl} {Q:VK} (I:DI W.K as0 B O own Z U H) (h:dZ W as0 B Ob O' (r.bind f) D') (q:∀ d v H',aC H H'->di W.K (aK (own++as0) H') d v->dZ W as0 B Ob O' (f d) D'->Q v H'):cK W (own++as0) H r Q:=by
 cases r with
 | ok d=>exact fun v H' s J=>q d v H' s J h
 | er x=>exact fun e C H' s=>h e C H' (I.same.trans s)
 | no=>exact h
def nu {r:R D} {f:D->R Fl} {Q:VK} (I:DI W.K as0 B O own Z U H) (h:dZ W as0 B Ob O' (r.bind f) D') (q:∀ d p o H',aC H H'->H p=none->H' p=some o->ma W.K (aK (p::(own++as0)) H') o d->dZ W as0 B Ob O' (f d) D'->Q (.ref p) H'):gt W (own++as0) H r Q:=by
 cases r with
 | ok d=>exact fun p o H' s h1 h2 J=>q d p o H' s h1 h2 J h
 | er x=>exact fun e C H' s=>h e C H' (I.same.trans s)
 | no=>exact h
def sU {α:Type} {r:R α} {f:α->R Fl} {Q:α->Hp->Prop} (I:DI W.K as0 B O own Z U H) (h:dZ W as0 B Ob O' (r.bind f) D') (q:∀ d H',aC H H'->dZ W as0 B Ob O' (f d) D'->Q d H'):hG W H r Q:=by
 cases r with
 | ok d=>exact fun H' s=>q d H' s h
 | er x=>exact fun e C H' s=>h e C H' (I.same.trans s)
 | no=>exact h
def dZ.base {L:Hp} {r:R Fl} (h:dZ W as0 B Ob O' r D') (s:aC B L) (J:∀ a∈as0,B a≠none):dZ W as0 L Ob O' r D':=by
 cases r with
 | ok f =>
  cases f with
  | nx U=>exact fun own Z H I=>h own Z H (I.base s J)
  | bk U=>exact fun own Z H I=>h own Z H (I.base s J)
  | ct U=>exact fun own Z H I=>h own Z H (I.base s J)
  | rt d=>exact fun v H s'=>h v H (s.trans s')
  | rn d=>exact fun p o H s' Y=>h p o H (s.trans s') (s.free Y)
 | er x=>exact fun e C H s'=>h e C H (s.trans s')
 | no=>exact h
def getElem?_set' {α:Type} {l:List α} {i j:Nat} {x:α}:(l.set i x)[j]?=if i=j then (if i < l.length then some x else none) else l[j]?:=List.getElem?_set
def DI.set {i:Nat} {d:D} {v:V} (I:DI W.K as0 B O own Z U H) (J:i∉O) (h:di W.K (aK (own++as0) H) d v):DI W.K as0 B O own (Z.set i (some v)) (U.set i (some d)) H:=by
 refine ⟨by simp [I.len],I.olen,I.nd,I.ond,I.fresh,I.ex0,I.same,fun j e hj q=>?_,fun j a hj=>?_⟩
 .rw [getElem?_set'] at q ⊢;split at q
  .rename_i hij;rw [acA hij];split at q
   .rename_i hl;rw [acA (by rw [<- I.len];exact hl)];cases q;exact ⟨v,rfl,h⟩
   .cases q
  .rename_i hij;rw [acB hij];exact I.var j e hj q
 .have hji:i≠j:=fun z=>J (by rw [z];exact (WO hj).1);obtain ⟨d',o,h1,h2,Y,L⟩:=I.owns j a hj;exact ⟨d',o,by rw [getElem?_set',acB hji];exact h1,by rw [getElem?_set',acB hji];exact h2,Y,L⟩
def zip_inj:∀ {O:acG} {own:acL} {i j:Nat} {a:ID},own.Nodup->(i,a)∈O.zip own->(j,a)∈O.zip own->i=j
 | [],_,_,_,_,_,h,_=>by simp at h
 | _::_,[],_,_,_,_,h,_=>by simp at h
 | k::O,b::own,i,j,a,nd,h1,h2=>by
  rw [Xl] at h1 h2;rw [W8] at nd;rcases rW.mp h1 with e1|h1 <;> rcases rW.mp h2 with e2|h2
  .cases e1;cases e2;rfl
  .cases e1;exact absurd (WO h2).2 nd.1
  .cases e2;exact absurd (WO h1).2 nd.1
  .exact zip_inj nd.2 h1 h2
def cJ:∀ {O:acG} {own:acL} {i:Nat},own.length=O.length->i∈O->∃ a,(i,a)∈O.zip own
 | [],_,_,_,h=>by cases h
 | k::O,[],_,l,_=>by simp at l
 | k::O,b::own,i,l,h=>by
  rcases rW.mp h with rfl|h
  .exact ⟨b,OR⟩
  .obtain ⟨a,I⟩:=cJ (O:=O) (own:=own) (by simpa using l) h;exact ⟨a,iN _ I⟩
def bM (p:Nat->Bool):acG->acL->acL
 | i::O,a::own=>if p i=true then a::bM p O own else bM p O own
 | _,_=>[]
def kl {p:Nat->Bool}:∀ {O:acG} {own:acL},(bM p O own).Sublist own
 | [],own=>by simp [bM]
 | _::_,[]=>by simp [bM]
 | i::O,a::own=>by
  unfold bM;split
  .exact (kl (O:=O)).cons_cons a
  .exact (kl (O:=O)).cons a
def nJ {p:Nat->Bool}:∀ {O:acG} {own:acL},own.length=O.length->(bM p O own).length=(O.filter p).length
 | [],[],_=>rfl
 | i::O,a::own,l=>by
  have I:=nJ (p:=p) (O:=O) (own:=own) (by simpa using l);unfold bM;rw [Xy];split
  .simp [I]
  .exact I
 | [],_::_,l=>by simp at l
 | _::_,[],l=>by simp at l
def ft {p:Nat->Bool}:∀ {O:acG} {own:acL} {i:Nat} {a:ID},(i,a)∈(O.filter p).zip (bM p O own)->(i,a)∈O.zip own/\p i=true
 | [],_,_,_,h=>by simp at h
 | _::_,[],_,_,h=>by simp [bM] at h
 | k::O,b::own,i,a,h=>by
  unfold bM at h;rw [Xy] at h;by_cases I:p k=true
  .rw [acA I,acA I,Xl] at h;rcases rW.mp h with e|h
   .cases e;exact ⟨OR,I⟩
   .exact ⟨iN _ (ft h).1,(ft h).2⟩
  .rw [acB I,acB I] at h;exact ⟨iN _ (ft h).1,(ft h).2⟩
def kf {p:Nat->Bool}:∀ {O:acG} {own:acL} {a:ID},a∈bM p O own->∃ i,(i,a)∈O.zip own/\p i=true
 | [],_,_,h=>by simp [bM] at h
 | _::_,[],_,h=>by simp [bM] at h
 | k::O,b::own,a,h=>by
  unfold bM at h;split at h
  .rename_i hp;rcases rW.mp h with e|h
   .subst e;exact ⟨k,OR,hp⟩
   .obtain ⟨i,h1,h2⟩:=kf h;exact ⟨i,iN _ h1,h2⟩
  .obtain ⟨i,h1,h2⟩:=kf h;exact ⟨i,iN _ h1,h2⟩
def DI.freeze {O2:acG} (I:DI W.K as0 B O own Z U H) (hO:O.filter (fun i=>decide (i∈O2))=O2):∃ L,DI W.K as0 B O2 L Z U H:=by
 generalize hp:(fun i=>decide (i∈O2))=p at hO;have pi:∀ i,p i=decide (i∈O2):=fun i=>by rw [<- hp]
 have Y:(bM p O own).Sublist own:=kl;have mem:∀ a∈bM p O own,a∈own:=fun a J=>Y.mem J;have s:aC (aK (own++as0) H) (aK (bM p O own++as0) H):=lv fun a J=>by
  rcases MK.mp J with h|h
  .exact WX _ (mem a h)
  .exact Wu _ h
 refine ⟨bM p O own,I.len,by rw [nJ I.olen,hO],I.nd.sublist Y,by rw [<- hO];exact I.ond.sublist ZR,fun a J=>I.fresh a (mem a J),I.ex0,I.same,fun i d hi q=>?_,fun i a hi=>?_⟩
 .by_cases h:i∈O
  .obtain ⟨a,J⟩:=cJ I.olen h;obtain ⟨d',o,h1,h2,h3,h4⟩:=I.owns i a J;rw [q] at h1;cases h1;refine ⟨.ref a,h2,ma.den ?_ h3 (h4.mono (lv fun b hb=>?_))⟩
   .intro z;rcases MK.mp z with z|z
    .obtain ⟨j,h5,h6⟩:=kf z
     have:=zip_inj I.nd J h5
     subst this;rw [pi] at h6;exact hi (acE h6)
    .exact I.apart a (WO J).2 z
   .rcases rW.mp hb with rfl|hb
    .exact WX _ (WO J).2
    .rcases MK.mp hb with h|h
     .exact WX _ (mem b h)
     .exact Wu _ h
  .obtain ⟨v,h1,h2⟩:=I.var i d h q;exact ⟨v,h1,h2.mono s⟩
 .rw [<- hO] at hi;obtain ⟨d,o,h1,h2,h3,h4⟩:=I.owns i a (ft hi).1;exact ⟨d,o,h1,h2,h3,h4.mono s⟩
def DI.own1 {i:Nat} {d:D} {p:ID} {o:HO} (I:DI W.K as0 B O own Z U H) (L:i∉O) (hp:B p=none) (hn:p∉own++as0) (e:H p=some o) (h:ma W.K (aK (p::(own++as0)) H) o d) (hi:i < U.length)
  (Y:∀ j d',j∉O->U[j]?=some (some d')->∃ v,Z[j]?=some (some v)/\di W.K (aK (p::(own++as0)) H) d' v)
  (fo:∀ j a,(j,a)∈O.zip own->∃ d o,U[j]?=some (some d)/\Z[j]?=some (some (.ref a))/\H a=some o/\ma W.K (aK (p::(own++as0)) H) o d) :
  DI W.K as0 B (i::O) (p::own) (Z.set i (some (.ref p))) (U.set i (some d)) H:=by
 refine ⟨by simp [I.len],by simp [I.olen],W8.mpr ⟨fun z=>hn (WX _ z),I.nd⟩,W8.mpr ⟨L,I.ond⟩,fun a J=>?_,I.ex0,I.same,fun j e hj q=>?_,fun j a hj=>?_⟩
 .rcases rW.mp J with rfl|J
  .exact hp
  .exact I.fresh a J
 .have hji:i≠j:=fun z=>hj (by rw [z];exact OR);rw [getElem?_set',acB hji] at q ⊢;exact Y j e (fun z=>hj (iN _ z)) q
 .rw [Xl] at hj;rcases rW.mp hj with z|hj
  .cases z;refine ⟨d,o,?_,?_,e,h⟩
   .rw [getElem?_set',acA rfl,acA hi]
   .rw [getElem?_set',acA rfl,acA (by rw [<- I.len];exact hi)]
  .have hji:i≠j:=fun z=>L (by rw [z];exact (WO hj).1);obtain ⟨d',o',h1,h2,h3,h4⟩:=fo j a hj;exact ⟨d',o',by rw [getElem?_set',acB hji];exact h1,by rw [getElem?_set',acB hji];exact h2,h3,h4⟩
end
section
variable {X:Cx} {W:Wd} {Ob O O' O1 O2:acG} {e c:W3} {φ ψ:FS} {ε:FE} {τ:FT} {pos:Pos} {st:X5} {sts rest:List X5}
def bu:FS:=fun U=>.ok (.nx U)
def aB (φ ψ:FS):FS:=fun U=>(φ U).bind fun f=>match f with
 | .nx δ'=>ψ δ'
 | f=>.ok f
def bp:JB X [] (sD W Ob O O bu):=LW.imp fun D Z H J=>eG J fun as0 B own U I h=>h own Z H I
def am (h1:JS X st (sD W Ob O O1 φ)) (h2:JB X rest (sD W Ob O1 O2 ψ)):JB X (st::rest) (sD W Ob O O2 (aB φ ψ)):=(Ii h1 h2).imp fun D Z H Y=>eG Y fun as0 B own U I h=>by
 refine ⟨as0,B,own,U,I,?_⟩;unfold aB at h;cases hr:φ U with
 | ok f =>
  rw [hr] at h;cases f with
  | nx δ'=>exact fun J L H' I'=>⟨as0,B,J,δ',I',h⟩
  | rt d=>exact h
  | rn d=>exact h
  | bk d=>exact h
  | ct d=>exact h
 | er x=>rw [hr] at h;exact h
 | no=>rw [hr] at h;exact h
def ay (h1:JS X st (sD W Ob O O1 φ)):JB X [st] (sD W Ob O O1 φ):=Mt h1
def vg (h:JB X sts (sD W Ob O2 O' φ)) (L:O.filter (fun i=>decide (i∈O2))=O2:=by decide):JB X sts (sD W Ob O O' φ):=h.imp fun D Z H J=>eG J fun as0 B own U I h =>
 let ⟨own2,I2⟩:=I.freeze L;⟨as0,B,own2,U,I2,h⟩
def bh (ε:FE):FS:=fun U=>(ε U).bind fun d=>.ok (.rt d)
def aE (h:JE X e (tD W O ε)):JS X (.Return (some e) pos) (sD W Ob O O' (bh ε)):=(EZ h).imp fun D Z H J=>eG J fun as0 B own U I h =>
 ⟨as0,B,own,U,I,dF I h fun d v H' s Y h'=>h' v H' (I.same.trans s) (Y.mono (lv fun a L=>Wu _ L))⟩
def B2 (ε:FE):FS:=fun U=>(ε U).bind fun d=>.ok (.rn d)
def JN (h:JE X e (tN W O ε)):JS X (.Return (some e) pos) (sD W Ob O O' (B2 ε)):=(EZ h).imp fun D Z H L=>eG L fun as0 B own U I h =>
 ⟨as0,B,own,U,I,nu I h fun d p o H' s Y e od h'=>h' p o H' (I.same.trans s) (I.same.free Y) e (od.mono (lv fun a J=>by
  rcases rW.mp J with rfl|J
  .exact OR
  .exact iN _ (Wu _ J)))⟩
def gm (τ:FT) (φ ψ:FS):FS:=fun U=>(τ U).bind fun b=>if b=true then φ U else ψ U
def bC {a b:List X5} (hc:JT X c (rZ W O τ)) (L:JB X a (sD W Ob O O' φ)) (Y:JB X b (sD W Ob O O' ψ)):JS X (.If c a b pos) (sD W Ob O O' (gm τ φ ψ)):=(R3 hc L Y).imp fun D Z H J=>eG J fun as0 B own U I h =>
 ⟨as0,B,own,U,I,sU I h fun b H' s h'=>by
  cases b with
  | true=>exact ⟨as0,B,own,U,I.mono s,h'⟩
  | false=>exact ⟨as0,B,own,U,I.mono s,h'⟩⟩
def aZ (i:Nat) (ε:FE):FS:=fun U=>(ε U).bind fun d=>.ok (.nx (U.set i (some d)))
def aQ {i:Nat} {x:Str} {pos':Pos} (J:i∉O) (hN:X.N.Nodup) (Y:C3 X.env.scope x) (he:JE X e (tD W O ε)) (hi:X.N[i]?=some x:=by rfl) (hs:YL e (some (.Name x pos')) pos.line X.env=pure false:=by rfl) (hf:X.fn x=true\/X.env.scope.names.lookup x=some .local:=by walk_at"u") :
  JS X (.Assign [.Name x pos'] e pos) (sD W Ob O O (aZ i ε)):=(GR hN Y he hi hs hf).imp fun D Z H hh=>eG hh fun as0 B own U I h =>
 ⟨as0,B,own,U,I,dF I h fun d v H' s L h'=>h' own _ H' ((I.mono s).set J L)⟩
def jH (i:Nat) (ε:FE):FS:=fun U=>(ε U).bind fun d=>if i < U.length then .ok (.nx (U.set i (some d))) else .no
def jC {as:acL} {H H':Hp} {p:ID} (L:H p=none) (s:aC H H'):aC (aK as H) (aK (p::as) H'):=fun b o e=>by
 by_cases I:b∈as
 .rw [dJ I] at e;cases e
 .rw [aW I] at e;have J:b≠p:=fun z=>by rw [z,L] at e;cases e
  rw [aW (by simp [I,J])];exact s b o e
def Gp {K:aT} {as0 own:acL} {B H H':Hp} {Z:St} {U:Sd} {i:Nat} {d:D} {p:ID} {o:HO} (I:DI K as0 B O own Z U H) (L:i∉O) (s:aC H H') (J:H p=none) (e:H' p=some o) (h:ma K (aK (p::(own++as0)) H') o d) (hi:i < U.length) :
  DI K as0 B (i::O) (p::own) (Z.set i (some (.ref p))) (U.set i (some d)) H':=by
 refine DI.own1 (W:=⟨K,fun _=>none,E0⟩) (I.mono s) L (I.same.free J) (I.new J) e h hi (fun j d' hj q=>?_) fun j a hj=>?_
 .obtain ⟨v,h1,h2⟩:=I.var j d' hj q;exact ⟨v,h1,h2.mono (jC J s)⟩
 .obtain ⟨d',o',h1,h2,h3,Y⟩:=I.owns j a hj;exact ⟨d',o',h1,h2,s a o' h3,Y.mono (jC J s)⟩
def eB {i:Nat} {x:Str} {pos':Pos} (J:i∉O) (hN:X.N.Nodup) (L:C3 X.env.scope x) (Y:JE X e (tN W O ε)) (hi:X.N[i]?=some x:=by rfl) (hs:YL e (some (.Name x pos')) pos.line X.env=pure false:=by rfl) (hf:X.fn x=true\/X.env.scope.names.lookup x=some .local:=by walk_at"u") :
  JS X (.Assign [.Name x pos'] e pos) (sD W Ob O (i::O) (jH i ε)):=(GR hN L Y hi hs hf).imp fun D Z H hh=>eG hh fun as0 B own U I h =>
 ⟨as0,B,own,U,I,nu I h fun d p o H' s hp e od h'=>by
  split at h'
  .rename_i hl;exact h' _ _ H' (Gp I J s hp e od hl)
  .exact h'.elim⟩
inductive TgD where
 | one (i:Nat)|tup (is:acG)
def iJ:acG->acO->Sd->Sd
 | i::is,d::ds,U=>iJ is ds (U.set i (some d))
 | _,_,U=>U
def fI:TgD->D->Sd->R Sd
 | .one i,d,U=>.ok (U.set i (some d))
 | .tup is,.tup ds,U=>if ds.length=is.length then .ok (iJ is ds U) else .no
 | _,_,_=>.no
def gD (W:Wd) (O:acG) (tg:TgD):TG:=fun v Z H Q=>∃ as0 B own U d,DI W.K as0 B O own Z U H/\di W.K (aK (own++as0) H) d v/\match fI tg d U with
 | .ok δ'=>∀ I,DI W.K as0 B O own I δ' H->Q I H
 | _=>False
def Tp (W:Wd) (O:acG) (is:acG):ES:=fun vs Z H Q=>∃ as0 B own U ds,DI W.K as0 B O own Z U H/\aM W.K (aK (own++as0) H) ds vs/\ds.length=is.length/\∀ I,DI W.K as0 B O own I (iJ is ds U) H->Q I H
def b5 {i:Nat} {x:Str} (J:i∉O) (L:X.N.Nodup) (hi:X.N[i]?=some x) (Y:C3 X.env.scope x) (hf:X.fn x=true\/X.env.scope.names.lookup x=some .local:=by walk_at"u"):JG X (.Name x pos) (gD W O (.one i)) :=
 (IK L hi Y hf).imp fun v Z H Q ⟨as0,B,own,U,d,I,dv,h⟩=>h _ (I.set J dv)
def tS:JGs X [] (Tp W O []):=Ks.imp fun vs Z H Q ⟨as0,B,own,U,ds,I,dv,hl,h⟩=>by
 cases ds with
 | nil=>cases dv;exact ⟨rfl,h Z I⟩
 | cons _ _=>simp at hl
def g7 {i:Nat} {is:acG} {e:W3} {es:List W3} (h1:JG X e (gD W O (.one i))) (h2:JGs X es (Tp W O is))
  (L:(XR (e::es) X.env).map (·.2)=assign e X.env::(XR es X.env).map (·.2):=by rfl):JGs X (e::es) (Tp W O (i::is)):=(Fg h1 h2 L).imp fun vs Z H Q ⟨as0,B,own,U,ds,I,dv,hl,h⟩=>by
 cases ds with
 | nil=>simp at hl
 | cons d ds =>
  obtain ⟨v,r,rfl,d1,d2⟩:=dv;exact ⟨v,r,rfl,as0,B,own,U,d,I,d1,fun Y J=>⟨as0,B,own,_,ds,J,d2,by simpa using hl,h⟩⟩
def w6 (K:aT) {es:List W3} {k:Nat} {is:acG} {n:Nat} (h:JGs X es (Tp W O is)) (hl:is.length=n:=by rfl) (hc:X.calm=true:=by rfl)
  (hn:(XR es X.env).length=n:=by rfl) (L:(XR es X.env).findIdx? (·.1)=none:=by rfl) (hK:X.K=K:=by rfl) (hW:W.K=K:=by rfl):JG X (.Tuple es k pos) (gD W O (.tup is)):=by
 refine (NM K h hc hn L hK).imp fun v Z H Q ⟨as0,B,own,U,d,I,dv,h⟩=>?_;cases d with
 | tup ds =>
  obtain ⟨a,xs,rfl,q1,Y⟩:=dv;have h':(match (if ds.length=is.length then R.ok (iJ is ds U) else .no) with|.ok δ'=>∀ J,DI W.K as0 B O own J δ' H->Q J H|_=>False):=h
  by_cases hd:ds.length=is.length
  .rw [acA hd] at h';subst hW;exact ⟨a,xs,rfl,(az _ _).seqT q1,by rw [<- Y.len,hd,hl],as0,B,own,U,ds,I,Y,hd,h'⟩
  .rw [acB hd] at h';exact h'.elim
 | _=>exact h.elim
structure GivesD (K:aT) (as0:acL) (B:Hp) (J:It) (xs:acO):Prop where
 go:∀ i H,aC (aK as0 B) H->i < xs.length->J.go i H
 yl:∀ i H v H2 M,aC (aK as0 B) H->(∀ a∈M,H a≠none)->(∀ a∈M,a∈as0\/B a=none)->i < xs.length->J.yld i H v H2->aC H H2/\∃ d,xs[i]?=some d/\di K (aK M H2) d v
 stop:∀ H,aC (aK as0 B) H->J.stop xs.length H
def ju (W:Wd) (as0 own:acL) (H:Hp) (r:R (acO)) (Q:It->Hp->Prop):Prop:=match r with
 | .ok xs=>∀ J H',aC H H'->GivesD W.K as0 (aK own H') J xs->Q J H'
 | .er x=>∀ e C H',aC H H'->W.mg x=some (.ref C)->W.E e (some C) H'
 | .no=>False
def iD (W:Wd) (O:acG) (ι:FA):TI:=fun Z H Q=>∃ as0 B own U,DI W.K as0 B O own Z U H/\ju W as0 own H (ι U) Q
def hJ {as0 M:acL} {B H:Hp} (s:aC (aK as0 B) H) (h:∀ a∈M,a∈as0\/B a=none):aC (aK as0 B) (aK M H):=fun b o e=>by
 have L:=e;by_cases I:b∈as0
 .rw [dJ I] at e;cases e
 .rw [aW I] at e;have J:b∉M:=fun z=>by
   rcases h b z with q|q
   .exact I q
   .rw [q] at e;cases e
  rw [aW J];exact s b o L
def EL {K:aT} {as0:acL} {B:Hp} {a:ID} {xs:acN} {ds:acO} (h1:gp K (aK as0 B) a xs) (h2:aM K (aK as0 B) ds xs):GivesD K as0 B (UX K a) ds where
 go:=fun i H s hi=>by
  have I:i < xs.length:=by rw [<- h2.len];exact hi
  exact ⟨xs,xs[i],s.seq h1,by simp [I]⟩
 yl:=fun i H v H2 M s _ hM hi ⟨e,y⟩=>by
  subst e;obtain ⟨d,L,J⟩:=h2.got (y xs (s.seq h1));exact ⟨aC.refl _,d,L,J.mono (hJ s hM)⟩
 stop:=fun H s=>⟨xs,s.seq h1,by rw [h2.len];exact mK _⟩
def Ek {K:aT} {as0:acL} {B:Hp} {a:ID} {xs:acN} {ds:acO} (h1:j3 K (aK as0 B) a xs) (h2:aM K (aK as0 B) ds xs):GivesD K as0 B (Uj K a) ds where
 go:=fun i H s hi=>by
  have I:i < xs.length:=by rw [<- h2.len];exact hi
  exact ⟨xs,xs[i],s.seqT h1,by simp [I]⟩
 yl:=fun i H v H2 M s _ hM hi ⟨e,y⟩=>by
  subst e;obtain ⟨d,L,J⟩:=h2.got (y xs (s.seqT h1));exact ⟨aC.refl _,d,L,J.mono (hJ s hM)⟩
 stop:=fun H s=>⟨xs,s.seqT h1,by rw [h2.len];exact mK _⟩
abbrev E5 (z:Str):acO:=z.cps.toList.map fun c=>D.str ⟨#[c]⟩
def AF {K:aT} {as0:acL} {B:Hp} (z:Str):GivesD K as0 B (N4 z) (E5 z) where
 go:=fun i H _ hi=>by
  rw [eQ] at hi;simpa [N4,abn] using hi
 yl:=fun i H v H2 M _ _ _ hi ⟨e,c,h1,h2⟩=>by
  subst e;refine ⟨aC.refl _,.str ⟨#[c]⟩,?_,h2⟩;rw [W4,Xf,h1];rfl
 stop:=fun H _=>by
  show _=z.length;rw [eQ];simp [abn]
def eh (lo:Int) (n:Nat):acO:=(Yc n).map fun (k:Nat)=>D.int (lo+(k:Int))
def qH {K:aT} {as0:acL} {B:Hp} (lo:Int) (n:Nat):GivesD K as0 B (Pa lo n) (eh lo n) where
 go:=fun i H _ hi=>by
  unfold eh at hi;rw [eQ,XW] at hi;exact hi
 yl:=fun i H v H2 M _ _ _ hi ⟨e,h⟩=>by
  subst e;unfold eh at hi ⊢;rw [eQ,XW] at hi;refine ⟨aC.refl _,.int (lo+(i:Int)),?_,h⟩;rw [W4,List.getElem?_range hi];rfl
 stop:=fun H _=>by
  unfold eh;show n<=_;rw [eQ,XW];exact mK _
def pN:D->R (acO)
 | .lst xs=>.ok xs
 | .tup xs=>.ok xs
 | .str z=>.ok (E5 z)
 | _=>.no
def rJ (ε:FE):FA:=fun U=>(ε U).bind pN
variable {tg:W3}
def ju.mono {as0 own:acL} {H H':Hp} {r:R (acO)} {Q:It->Hp->Prop} (h:ju W as0 own H r Q) (s:aC H H'):ju W as0 own H' r Q:=by
 cases r with
 | ok d=>exact fun J H2 I=>h J H2 (s.trans I)
 | er x=>exact fun e C H2 I=>h e C H2 (s.trans I)
 | no=>exact h
def pT {as0 own:acL} {H:Hp} {r:R D} {f:D->R (acO)} {Q:It->Hp->Prop} {Q':VK} (h:ju W as0 own H (r.bind f) Q) (q:∀ d v H',aC H H'->di W.K (aK (own++as0) H') d v->ju W as0 own H' (f d) Q->Q' v H'):cK W (own++as0) H r Q':=by
 cases r with
 | ok d=>exact fun v H' s I=>q d v H' s I (ju.mono h s)
 | er x=>exact h
 | no=>exact h
def kg {as0 own:acL} {H:Hp} {r:R (acO)} {f:acO->R (acO)} {Q:It->Hp->Prop} {Q':acN->Hp->Prop} (h:ju W as0 own H (r.bind f) Q) (q:∀ d v H',aC H H'->aM W.K (aK (own++as0) H') d v->ju W as0 own H' (f d) Q->Q' v H'):jB W (own++as0) H r Q':=by
 cases r with
 | ok d=>exact fun v H' s I=>q d v H' s I (ju.mono h s)
 | er x=>exact h
 | no=>exact h
def nM (K:aT) {l:W3} (h:JE X l (tD W O ε)) (hK:X.K=K:=by rfl) (hW:W.K=K:=by rfl):JI X tg l (iD W O (rJ ε)):=(LP K h hK).imp fun Z H Q hh=>eG hh fun as0 B own U I h =>
 ⟨as0,B,own,U,I,pT h fun d v H' s Y h'=>by
  subst hW;cases d with
  | lst ds =>
   obtain ⟨a,xs,rfl,J,L⟩:=Y;refine .inl ⟨⟨xs,(az _ _).seq J⟩,h' _ H' (aC.refl _) ?_⟩;rw [lJ] at J L;exact EL J L
  | tup ds =>
   obtain ⟨a,xs,rfl,J,L⟩:=Y;refine .inr ⟨⟨xs,(az _ _).seqT J⟩,h' _ H' (aC.refl _) ?_⟩;rw [lJ] at J L;exact Ek J L
  | str z=>cases Y;exact h' _ H' (aC.refl _) (AF z)
  | _=>exact h'.elim⟩
def IQ:acO->R (acO)
 | [.int j]=>if -(2 ^ 62)<=j/\j < 2 ^ 62 then .ok (eh 0 j.toNat) else .no
 | _=>.no
def nD (α:FA):FA:=fun U=>(α U).bind IQ
def lg {a:W3} {α:FA} {p pos:Pos} (Y:X.mg "range"=none) (J:JA X [a] (xC W O α)) (hg:Gl X "range":=by rfl) (hn:ba a=true:=by rfl):JI X tg (.Call (.Name "range" p) [a] [] pos) (iD W O (nD α)):=(Dt Y J hg hn).imp fun Z H Q hh=>eG hh fun as0 B own U I h =>
 ⟨as0,B,own,U,I,kg h fun ds vs H' s L h'=>by
  unfold IQ at h';split at h'
  .obtain ⟨v,r,rfl,d1,d2⟩:=L;cases d1;cases d2;split at h'
   .rename_i hj;exact ⟨hj,h' _ H' (aC.refl _) (qH 0 _)⟩
   .exact h'.elim
  .exact h'.elim⟩
def dm (tg:TgD) (I:FS):acO->Sd->R Fl
 | [],U=>.ok (.nx U)
 | x::r,U=>(fI tg x U).bind fun J=>(I J).bind fun f=>match f with
  | .nx δ2=>dm tg I r δ2
  | .ct δ2=>dm tg I r δ2
  | .bk δ2=>.ok (.nx δ2)
  | .rt d=>.ok (.rt d)
  | .rn d=>.ok (.rn d)
def nR (ι:FA) (t:TgD) (I:FS):FS:=fun U=>(ι U).bind fun xs=>dm t I xs U
def zq {as0 own:acL} {B H:Hp} {Z:St} {U:Sd} {D':Ends} {r:R (acO)} {f:acO->R Fl} {Q:It->Hp->Prop} (I:DI W.K as0 B O own Z U H) (h:dZ W as0 B Ob O' (r.bind f) D')
  (q:∀ d J H',aC H H'->GivesD W.K as0 (aK own H') J d->dZ W as0 B Ob O' (f d) D'->Q J H'):ju W as0 own H r Q:=by
 cases r with
 | ok d=>exact fun J H' s g=>q d J H' s g h
 | er x=>exact fun e C H' s=>h e C H' (I.same.trans s)
 | no=>exact h
def iw {iter:W3} {body:List X5} {ι:FA} {t:TgD} (hp:abi (Wx X.prog X.w) X.A X.env X.xe) (hi:JI X tg iter (iD W O ι)) (hg:JG X tg (gD W O t)) (hb:JB X body (sD W O O O φ)) (hc:X.calm=true:=by rfl)
  (hs:∀ x,XG iter X.env x=pure x:=by intro _;rfl):JS X (.For tg iter body [] pos) (sD W Ob O O (nR ι t φ)):=(Mf hp hi hg hb hc hs).imp fun D' Z H hh=>eG hh fun as0 B own U I h=>by
 refine ⟨as0,B,own,U,I,zq I h fun xs J H1 s1 G h1=>?_⟩;have I1:=I.mono s1;have I2:=I1.rebase I1.apart;have sB:aC B (aK own H1):=I1.baseIn;have h2:=h1.base sB I.ex0;generalize hB':aK own H1=B' at I2 sB h2 G;have ex':∀ a∈as0,B' a≠none:=I2.ex0;refine ⟨fun i m Z H=>m=xs.length - i/\i<=xs.length/\∃ own U,DI W.K as0 B' O own Z U H/\dZ W as0 B' Ob O (dm t φ (xs.drop i) U) D',⟨xs.length,by simp,WB _,own,U,I2,by simpa using h2⟩,?_⟩;rintro i m σ3 H3 ⟨rfl,hi,own3,δ3,I3,h3⟩;by_cases hlt:i < xs.length
 .refine .inr ⟨G.go i H3 ((az _ _).trans I3.same) hlt,fun σ' H'=>∃ own U,DI W.K as0 B' O own σ' U H'/\dZ W as0 B' Ob O (dm t φ (xs.drop (i+1)) U) D',fun σ' H' ⟨own',δ',I',h'⟩=>⟨xs.length - (i+1),by omega,rfl,hlt,own',δ',I',h'⟩,fun v H4 y=>?_⟩;obtain ⟨s4,d,hd,dv⟩:=G.yl i H3 v H4 (own3++as0) ((az _ _).trans I3.same) I3.exi (fun a ha=>by
   rcases MK.mp ha with z|z
   .exact .inr (I3.fresh a z)
   .exact .inl z) hlt y
  have ed:xs.drop i=d::xs.drop (i+1):=by
   rw [X0 hlt];rw [oR hlt] at hd;cases hd;rfl
  rw [ed] at h3;refine ⟨as0,B',own3,δ3,d,I3.mono s4,dv,?_⟩;have h3':dZ W as0 B' Ob O ((fI t d δ3).bind fun δ1=>(φ δ1).bind fun f=>match f with
   | .nx L=>dm t φ (xs.drop (i+1)) L
   | .ct L=>dm t φ (xs.drop (i+1)) L
   | .bk L=>.ok (.nx L)
   | .rt d=>.ok (.rt d)
   | .rn d=>.ok (.rn d)) D':=h3
  cases hb1:fI t d δ3 with
  | ok δ1 =>
   rw [hb1] at h3';refine fun σ' I'=>⟨as0,B',own3,δ1,I',?_⟩;have Y:dZ W as0 B' Ob O ((φ δ1).bind fun f=>match f with
    | .nx L=>dm t φ (xs.drop (i+1)) L
    | .ct L=>dm t φ (xs.drop (i+1)) L
    | .bk L=>.ok (.nx L)
    | .rt d=>.ok (.rt d)
    | .rn d=>.ok (.rn d)) D':=h3'
   cases hr:φ δ1 with
   | ok f =>
    rw [hr] at Y;cases f with
    | nx L=>exact fun own' σ' H' I'=>⟨own',L,I',Y⟩
    | ct L=>exact fun own' σ' H' I'=>⟨own',L,I',Y⟩
    | bk L=>exact Y
    | rt d=>exact Y
    | rn d=>exact Y
   | er x=>rw [hr] at Y;exact Y
   | no=>rw [hr] at Y;exact Y
  | er x=>unfold fI at hb1;split at hb1 <;> first|cases hb1|(split at hb1 <;> cases hb1)
  | no=>rw [hb1] at h3';exact h3'.elim
 .have e:i=xs.length:=by omega
  subst e;rw [List.drop_length] at h3;exact .inl ⟨G.stop H3 ((az _ _).trans I3.same),h3 own3 σ3 H3 I3⟩
def bI (τ:FT) (I:FS):Nat->Sd->R Fl
 | 0,_=>.no
 | n+1,U=>(τ U).bind fun b=>if b=true then (I U).bind fun f=>match f with
  | .nx δ2=>bI τ I n δ2
  | .ct δ2=>bI τ I n δ2
  | .bk δ2=>.ok (.nx δ2)
  | .rt d=>.ok (.rt d)
  | .rn d=>.ok (.rn d)
  else .ok (.nx U)
def n8 {body:List X5} (n:Nat) (hp:abi (Wx X.prog X.w) X.A X.env X.xe) (hc:JT X c (rZ W O τ)) (hb:JB X body (sD W O O O φ)):JS X (.While c body [] pos) (sD W Ob O O (bI τ φ n)):=(Hx hp hc hb).imp fun D' Z H hh=>eG hh fun as0 B own U I h=>by
 refine ⟨fun m Z H=>∃ own U,DI W.K as0 B O own Z U H/\dZ W as0 B Ob O (bI τ φ m U) D',⟨n,own,U,I,h⟩,?_⟩;rintro m σ3 H3 ⟨own3,δ3,I3,h3⟩;cases m with
 | zero=>exact h3.elim
 | succ m =>
  refine ⟨as0,B,own3,δ3,I3,sU I3 h3 fun b H4 s4 h4=>?_⟩;cases b with
  | false=>exact h4 own3 σ3 H4 (I3.mono s4)
  | true =>
   refine ⟨fun σ' H'=>∃ own U,DI W.K as0 B O own σ' U H'/\dZ W as0 B Ob O (bI τ φ m U) D',fun σ' H' q=>⟨m,aaT m,q⟩,as0,B,own3,δ3,I3.mono s4,?_⟩;have L:dZ W as0 B Ob O ((φ δ3).bind fun f=>match f with
    | .nx J=>bI τ φ m J
    | .ct J=>bI τ φ m J
    | .bk J=>.ok (.nx J)
    | .rt d=>.ok (.rt d)
    | .rn d=>.ok (.rn d)) D':=h4
   cases hr:φ δ3 with
   | ok f =>
    rw [hr] at L;cases f with
    | nx J=>exact fun Y σ' H' I'=>⟨Y,J,I',L⟩
    | ct J=>exact fun Y σ' H' I'=>⟨Y,J,I',L⟩
    | bk J=>exact L
    | rt d=>exact L
    | rn d=>exact L
   | er x=>rw [hr] at L;exact L
   | no=>rw [hr] at L;exact L
end
def R.calm {α:Type}:R α->R α
 | .ok a=>.ok a
 | _=>.no
def fP (ix:List (Option Nat)) (U:Sd):Sd:=ix.map fun o=>o.bind fun j=>(U[j]?).getD none
def ub:TgD->Sd->Bool
 | .one i,U=>match U[i]? with
  | some none=>true
  | _=>false
 | .tup is,U=>is.all fun i=>match U[i]? with
  | some none=>true
  | _=>false
def hU (tg:TgD) (τ:FT) (ε:FE) (I:Sd):acO->R (acO)
 | []=>.ok []
 | x::r=>(fI tg x I).bind fun J=>(τ J).bind fun b=>if b=true then (ε J).bind fun y=>(hU tg τ ε I r).bind fun ys=>.ok (y::ys) else hU tg τ ε I r
def cN (tg:TgD) (τ:FT) (ε:FE) (I:Sd) (xs:acO):R D:=if ub tg I=true/\xs.length<=1000000 then (hU tg τ ε I xs).calm.bind fun ys=>.ok (.lst ys) else .no
def iI (ix:List (Option Nat)) (ι:FA) (tg:TgD) (τ:FT) (ε:FE):FE:=fun U=>(ι U).bind fun xs=>cN tg τ ε (fP ix U) xs
def t6:FT:=fun _=>.ok true
def uQ:∀ (is:acG) (ds:acO) (I U:Sd),(∀ (i:Nat),i∈is->I[i]?=some none)->(∀ (i:Nat) (d:D),I[i]?=some (some d)->U[i]?=some (some d))->∀ (i:Nat) (d:D),I[i]?=some (some d)->(iJ is ds U)[i]?=some (some d)
 | [],_,_,_,_,h=>by intro i d e;unfold iJ;exact h i d e
 | _::_,[],_,_,_,h=>by intro i d e;unfold iJ;exact h i d e
 | j::is,x::ds,I,U,hn,h=>by
  intro i d e;unfold iJ;refine uQ is ds I _ (fun i hi=>hn i (iN _ hi)) (fun i d e=>?_) i d e;have J:j≠i:=fun z=>by
   have:=hn j OR
   rw [z,e] at this;cases this
  rw [getElem?_set',acB J];exact h i d e
def DA {tg:TgD} {x:D} {I δ1:Sd} (hf:ub tg I=true) (h:fI tg x I=.ok δ1):∀ (i:Nat) (d:D),I[i]?=some (some d)->δ1[i]?=some (some d):=by
 cases tg with
 | one j =>
  cases h;intro i d e;have L:j≠i:=fun z=>by
   subst z;have J:(match I[j]? with|some none=>true|_=>false)=true:=hf
   rw [e] at J;cases J
  rw [getElem?_set',acB L];exact e
 | tup is =>
  cases x with
  | tup ds =>
   have h':(if ds.length=is.length then R.ok (iJ is ds I) else .no)=.ok δ1:=h;split at h'
   .cases h';refine uQ is ds I I (fun i hi=>?_) fun i d e=>e;have J:(is.all fun i=>match I[i]? with|some none=>true|_=>false)=true:=hf
    have:=X4.mp J i hi
    split at this
    .assumption
    .cases this
   .cases h'
  | _=>cases h
def wN:∀ (is:acG) (ds:acO) (U:Sd),(iJ is ds U).length=U.length
 | [],_,_=>by unfold iJ;rfl
 | _::_,[],_=>by unfold iJ;rfl
 | j::is,x::ds,U=>by unfold iJ;rw [wN is ds];simp
def FF {tg:TgD} {x:D} {I δ1:Sd} (h:fI tg x I=.ok δ1):δ1.length=I.length:=by
 cases tg with
 | one j=>cases h;simp
 | tup is =>
  cases x with
  | tup ds =>
   have h':(if ds.length=is.length then R.ok (iJ is ds I) else .no)=.ok δ1:=h;split at h'
   .cases h';exact wN _ _ _
   .cases h'
  | _=>cases h
def DI.plain {K:aT} {M:acL} {H:Hp} {Z:St} {U:Sd} (L:U.length=Z.length) (ex:∀ a∈M,H a≠none) (I:∀ (i:Nat) (d:D),U[i]?=some (some d)->∃ v,Z[i]?=some (some v)/\di K (aK M H) d v):DI K M H [] [] Z U H :=
 ⟨L,rfl,Yb,Yb,fun a J=>(nomatch J),ex,aC.refl _,fun i d _ e=>I i d e,fun i a h=>(by simp at h)⟩
section
variable {X:Cx} {W Wb:Wd} {O:acG} {osc:Scope} {ON N:acH} {ix:List (Option Nat)} {scope:Scope} {tg elt iter:W3} {ifs:List W3} {pos:Pos} {ι:FA} {t:TgD} {τ:FT} {ε:FE}
def oG:JTs X [] (rZ W O t6):=Ip.imp fun Z H Q J=>eG J fun as0 B own U I h=>h H (aC.refl _)
def xl {c:W3} (h:JT X c (rZ W O τ)):JTs X [c] (rZ W O τ):=Jh h
def JD {K:aT} {as0 own:acL} {B H:Hp} {Z:St} {U:Sd} (I:DI K as0 B O own Z U H) (L:∀ j∈ix,∀ k,j=some k->k∉O):∀ (i:Nat) (d:D),(fP ix U)[i]?=some (some d)->∃ v,(nj ix Z)[i]?=some (some v)/\di K (aK (own++as0) H) d v:=by
 intro i d e;unfold fP at e;unfold nj;rw [W4] at e ⊢;cases h:ix[i]? with
 | none=>rw [h] at e;cases e
 | some o =>
  rw [h] at e;cases o with
  | none=>cases e
  | some j =>
   have J:(U[j]?).getD none=some d:=WG e;have Y:U[j]?=some (some d):=by
    cases q:U[j]? with
    | none=>rw [q] at J;cases J
    | some w=>rw [q] at J;rw [<- J];rfl
   obtain ⟨v,h1,h2⟩:=I.var j d (L _ (Xr h) j rfl) Y;exact ⟨v,by show some ((Z[j]?).getD none)=_;rw [h1];rfl,h2⟩
structure GivesC (K:aT) (M:acL) (H:Hp) (J:It) (xs:acO):Prop where
 go:∀ i H1,aC H H1->i < xs.length->J.go i H1
 yl:∀ i H1 v H2 acc,aC H H1->H acc=none->(∀ a∈acc::M,H1 a≠none)->i < xs.length->J.yld i H1 v H2->aC H1 H2/\∃ d,xs[i]?=some d/\di K (aK (acc::M) H2) d v
 stop:∀ H1,aC H H1->J.stop xs.length H1
def GivesD.comp {K:aT} {as0 own:acL} {H:Hp} {J:It} {xs:acO} (G:GivesD K as0 (aK own H) J xs):GivesC K (own++as0) H J xs where
 go:=fun i H1 s hi=>G.go i H1 ((az _ _).trans ((az _ _).trans s)) hi
 yl:=fun i H1 v H2 acc s I Y hi y=>G.yl i H1 v H2 (acc::(own++as0)) ((az _ _).trans ((az _ _).trans s)) Y (fun a L=>by
  rcases rW.mp L with rfl|L
  .right
   cases z:aK own H a with
   | none=>rfl
   | some u=>have:=az _ _ _ _ z;rw [I] at this;cases this
  .rcases MK.mp L with z|z
   .exact .inr (dJ z)
   .exact .inl z) hi y
 stop:=fun H1 s=>G.stop H1 ((az _ _).trans ((az _ _).trans s))
def x6 (tg:TgD) (τ:FT) (ε:FE) (I:Sd) (xs:acO):R D:=if ub tg I=true/\xs.length<=1000000 then (hU tg τ ε I xs).bind fun ys=>.ok (.lst ys) else .no
def Dm {tg:TgD} {d:D} {U:Sd} {x:Str} (h:fI tg d U=.er x):False:=by
 cases tg with
 | one i=>cases h
 | tup is =>
  cases d with
  | tup ds =>
   have h':(if ds.length=is.length then R.ok (iJ is ds U) else .no)=.er x:=h;split at h' <;> cases h'
  | _=>cases h
def G0 {K:aT} {as0 own:acL} {B H:Hp} {Z:St} {U:Sd} {xs:acO} {J:It} {Q:VK} (hWb:Wb.K=K) (I:DI K as0 B O own Z U H) (hO:∀ j∈ix,∀ k,j=some k->k∉O) (G:GivesC K (own++as0) H J xs)
  (hq:match x6 t τ ε (fP ix U) xs with
   | .ok d=>∀ p o H',aC H H'->H p=none->H' p=some o->ma K (aK (p::(own++as0)) H') o d->Q (.ref p) H'
   | .er x=>∀ e C H',aC H H'->Wb.mg x=some (.ref C)->Wb.E e (some C) H'
   | .no=>False):xO (gD Wb [] t) (rZ Wb [] τ) (tD Wb [] ε) J (nj ix Z) H Q:=by
 intro acc Y;unfold x6 at hq;by_cases hc:ub t (fP ix U)=true/\xs.length<=1000000
 .rw [acA hc] at hq;obtain ⟨hf,hlen⟩:=hc;generalize hall:hU t τ ε (fP ix U) xs=ra at hq;have hq':∀ (es:acO) (r:R (acO)),ra=(r.bind fun rest=>.ok (es++rest))->match r with
    | .ok rest=>∀ p o H',aC H H'->H p=none->H' p=some o->ma K (aK (p::(own++as0)) H') o (.lst (es++rest))->Q (.ref p) H'
    | .er x=>∀ e C H',aC H H'->Wb.mg x=some (.ref C)->Wb.E e (some C) H'
    | .no=>False:=fun es r e=>by
   subst e;cases r with
   | ok rest=>exact hq
   | er x=>exact hq
   | no=>exact hq
  clear hq;generalize hδ0:fP ix U=δ0 at hf hall;have cl:δ0.length=(nj ix Z).length:=by rw [<- hδ0];unfold fP nj;simp
  have cv:∀ (i:Nat) (d:D),δ0[i]?=some (some d)->∃ v,(nj ix Z)[i]?=some (some v)/\di K (aK (own++as0) H) d v:=by rw [<- hδ0];exact JD I hO
  generalize nj ix Z=σ0 at cl cv;have exM0:=I.exi;generalize hM:own++as0=M at cv hq' G exM0;have exM:∀ a∈M,H a≠none:=exM0;have naM:acc∉M:=fun z=>exM acc z Y
  have exA:∀ {H':Hp},aC H H'->(∃ o,H' acc=some o)->∀ a∈acc::M,H' a≠none:=fun {H'} s ⟨o,e⟩ a ha=>by
   rcases rW.mp ha with rfl|ha
   .rw [e];simp
   .cases q:H a with
    | none=>exact absurd q (exM a ha)
    | some u=>rw [s a u q];simp
  have s0:aC H (upd H acc (.lst [])):=aX Y _;have start:ra=((hU t τ ε δ0 (xs.drop 0)).bind fun rest=>.ok ([]++rest)):=by
   rw [<- hall,YM];cases hU t τ ε δ0 xs <;> rfl
  refine ⟨fun i m σ' H'=>m=xs.length - i/\i<=xs.length/\∃ ys es,H' acc=some (.lst ys)/\ys.length<=i/\aC H H'/\aM K (aK (acc::M) H') es ys/\ra=((hU t τ ε δ0 (xs.drop i)).bind fun rest=>.ok (es++rest))/\DI K (acc::M) H' [] [] σ' δ0 H',
   ⟨xs.length,by simp,WB _,[],[],aS,WB _,s0,rfl,start,DI.plain cl (exA s0 ⟨_,aS⟩) fun i d e=>let ⟨v,h1,h2⟩:=cv i d e;⟨v,h1,h2.mono (jC Y s0)⟩⟩,?_⟩
  rintro i m σ1 H1 ⟨rfl,hi,ys,es,e1,hl1,s1,d1,L,I1⟩;have sB:aC H H1:=s1;by_cases hlt:i < xs.length
  .refine .inr ⟨G.go i H1 sB hlt,fun σ' H'=>∃ ys es,H' acc=some (.lst ys)/\ys.length<=i+1/\aC H H'/\aM K (aK (acc::M) H') es ys/\ra=((hU t τ ε δ0 (xs.drop (i+1))).bind fun rest=>.ok (es++rest))/\DI K (acc::M) H' [] [] σ' δ0 H',
    fun σ' H' ⟨ys,es,q⟩=>⟨xs.length - (i+1),by omega,rfl,hlt,ys,es,q⟩,fun v H2 y=>?_⟩
   obtain ⟨s2,d,hd,dv⟩:=G.yl i H1 v H2 acc sB Y (exA s1 ⟨_,e1⟩) hlt y;have ed:xs.drop i=d::xs.drop (i+1):=by
    rw [X0 hlt];rw [oR hlt] at hd;cases hd;rfl
   rw [ed] at L;have L:ra=(((fI t d δ0).bind fun δ1=>(τ δ1).bind fun b=>if b=true then (ε δ1).bind fun y=>(hU t τ ε δ0 (xs.drop (i+1))).bind fun ys=>.ok (y::ys) else hU t τ ε δ0 (xs.drop (i+1))).bind fun rest=>.ok (es++rest)):=L;cases b1:fI t d δ0 with
   | er x=>exact (Dm b1).elim
   | no=>rw [b1] at L;exact (hq' es .no L).elim
   | ok δ1 =>
    rw [b1,aF] at L;have I2:DI K (acc::M) H2 [] [] σ1 δ0 H2:=DI.plain I1.len (exA (s1.trans s2) ⟨_,s2 _ _ e1⟩) fun i d e=>let ⟨v,h1,h2⟩:=I1.var i d (by simp) e;⟨v,h1,h2.mono (aV s2)⟩;have again:∀ {σ3:St} {H3 H4:Hp},DI K (acc::M) H2 [] [] σ3 δ1 H3->aC (aK (acc::M) H3) (aK (acc::M) H4)->(∀ a∈acc::M,H4 a≠none)->DI K (acc::M) H4 [] [] σ3 δ0 H4:=fun {σ3 H3 H4} I3 s34 ex4 =>
     DI.plain (by rw [<- FF b1];exact I3.len) ex4 fun i d e=>let ⟨v,h1,h2⟩:=I3.var i d (by simp) (DA hf b1 i d e);⟨v,h1,h2.mono s34⟩
    refine ⟨acc::M,H2,[],δ0,d,by rw [hWb];exact I2,by rw [hWb];exact dv,?_⟩;rw [b1];refine fun σ3 I3=>⟨acc::M,H2,[],δ1,I3,?_⟩;rw [hWb] at I3;cases b2:τ δ1 with
    | er x=>rw [b2] at L;exact fun e C H' s' hm=>hq' es (.er x) L e C H' ((s1.trans s2).trans (I3.same.trans s')) hm
    | no=>rw [b2] at L;exact (hq' es .no L).elim
    | ok b =>
     rw [b2,aF] at L;refine fun H3 s3=>?_;have I3':=I3.mono s3;have s13:aC H1 H3:=s2.trans (I3.same.trans s3);cases b with
     | false =>
      rw [acB iF] at L;exact ⟨ys,es,s13 _ _ e1,by omega,s1.trans s13,d1.mono (aV s13),L,again I3' (aC.refl _) (exA (s1.trans s13) ⟨_,s13 _ _ e1⟩)⟩
     | true =>
      rw [acA rfl] at L;refine ⟨acc::M,H2,[],δ1,by rw [hWb];exact I3',?_⟩;cases b3:ε δ1 with
      | er x=>rw [b3] at L;exact fun e C H' s' hm=>hq' es (.er x) L e C H' ((s1.trans s13).trans s') hm
      | no=>rw [b3] at L;exact (hq' es .no L).elim
      | ok y' =>
       rw [b3,aF] at L;refine fun v4 H4 s4 d4=>?_;rw [hWb] at d4;have s14:aC H1 H4:=s13.trans s4;have e4:=s14 _ _ e1;have hm:=dL;have same5:aC (aK (acc::M) H4) (aK (acc::M) (upd H4 acc (.lst (ys++[v4])))):=fun b o e=>by
        by_cases hb:b∈acc::M
        .rw [dJ hb] at e;cases e
        .rw [aW hb] at e ⊢;rw [aP (fun z=>hb (by rw [z];exact OR))];exact e
       have s5:aC H (upd H4 acc (.lst (ys++[v4]))):=fun b o e=>by
        rw [aP (bH e Y)];exact (s1.trans s14) b o e
       refine ⟨ys,e4,by omega,ys++[v4],es++[y'],aS,by simp;omega,s5,?_,?_,again I3' ((aV s4).trans same5) (exA s5 ⟨_,aS⟩)⟩
       .exact (aM.append (d1.mono (aV s14)) (aM.cons d4 aM.nil)).mono same5
       .rw [L];cases hU t τ ε δ0 (xs.drop (i+1)) with
        | ok r=>show R.ok _=R.ok _;simp
        | er x=>rfl
        | no=>rfl
  .have e':i=xs.length:=by omega
   subst e';rw [List.drop_length] at L;have this:∀ (p:ID) (o:HO) (H':Hp),aC H H'->H p=none->H' p=some o->ma K (aK (p::M) H') o (D.lst (es++[]))->Q (V.ref p) H':=hq' es (.ok []) L;rw [Xn] at this;exact .inl ⟨G.stop H1 sB,this acc _ H1 s1 Y e1 ⟨ys,rfl,d1⟩⟩
 .rw [acB hc] at hq;exact hq.elim
def eX {K:aT} {as0 own:acL} {B H:Hp} {Z:St} {U:Sd} {xs:acO} {J:It} {Q:VK} (Y:Wb.K=K) (I:DI K as0 B O own Z U H) (hO:∀ j∈ix,∀ k,j=some k->k∉O) (G:GivesC K (own++as0) H J xs)
  (L:match cN t τ ε (fP ix U) xs with
   | .ok d=>∀ p o H',aC H H'->H p=none->H' p=some o->ma K (aK (p::(own++as0)) H') o d->Q (.ref p) H'
   | _=>False):xO (gD Wb [] t) (rZ Wb [] τ) (tD Wb [] ε) J (nj ix Z) H Q:=by
 refine G0 Y I hO G ?_;unfold cN at L;unfold x6;by_cases hc:ub t (fP ix U)=true/\xs.length<=1000000
 .rw [acA hc] at L ⊢;cases hall:hU t τ ε (fP ix U) xs with
  | ok ys=>rw [hall] at L;exact L
  | er x=>rw [hall] at L;exact L.elim
  | no=>rw [hall] at L;exact L.elim
 .rw [acB hc] at L;exact L.elim
def si (L:Et osc ON N ix scope=true) (hi:JI X tg iter (iD W O ι)) (hg:∀ b,JG (tm X N scope b) tg (gD Wb [] t)) (ht:∀ b,JTs (tm X N scope b) ifs (rZ Wb [] τ)) (he:∀ b,JE (tm X N scope b) elt (tD Wb [] ε)) (hO:∀ j∈ix,∀ k,j=some k->k∉O)
  (Y:Wb.K=W.K:=by rfl) (hE:X.env.scope=osc:=by rfl) (hON:X.N=ON:=by rfl) (hc:X.calm=true:=by rfl) (hs:∀ x,XG iter X.env x=pure x:=by intro _;rfl):JE X (.ListComp elt [⟨tg,iter,ifs,0⟩] scope pos) (tN W O (iI ix ι t τ ε)) :=
 (Nb L hi hg ht he hE hON hc hs).imp fun Z H Q hh=>eG hh fun as0 B own U I h=>⟨as0,B,own,U,I,by
  unfold iI at h;cases hr:ι U with
  | no=>rw [hr] at h;exact h.elim
  | er x=>rw [hr] at h;exact h
  | ok xs =>
   rw [hr] at h;refine fun J H1 s1 G=>eX Y (I.mono s1) hO G.comp ?_;have h':gt W (own++as0) H (cN t τ ε (fP ix U) xs) Q:=h;cases hq:cN t τ ε (fP ix U) xs with
   | ok d=>rw [hq] at h';exact fun p o H' s hp=>h' p o H' (s1.trans s) (s1.free hp)
   | er x =>
    unfold cN at hq;split at hq
    .cases hc:hU t τ ε (fP ix U) xs <;> rw [hc] at hq <;> cases hq
    .cases hq
   | no=>rw [hq] at h';exact h'.elim⟩
def xY {i:Nat} {x:Str} {spos pos':Pos} (hN:X.N.Nodup) (hl:C3 X.env.scope x) (L:Et osc ON N ix scope=true) (hi:JI X tg iter (iD W O ι)) (hg:∀ b,JG (tm X N scope b) tg (gD Wb [] t)) (ht:∀ b,JTs (tm X N scope b) ifs (rZ Wb [] τ)) (he:∀ b,JE (tm X N scope b) elt (tD Wb [] ε)) (hO:∀ j∈ix,∀ k,j=some k->k∉O)
  (Y:Wb.K=W.K:=by rfl) (hx:X.N[i]?=some x:=by rfl) (hE:X.env.scope=osc:=by rfl) (hON:X.N=ON:=by rfl) (hc:X.calm=true:=by rfl)
  (hsw:YL (.ListComp elt [⟨tg,iter,ifs,0⟩] scope pos) (some (.Name x pos')) spos.line X.env=pure true:=by rfl)
  (hf:X.fn x=true\/X.env.scope.names.lookup x=some .local:=by walk_at"u")
  (hs:∀ x,XG iter X.env x=pure x:=by intro _;rfl):JS X (.Assign [.Name x pos'] (.ListComp elt [⟨tg,iter,ifs,0⟩] scope pos) spos) (zY (tN W O (iI ix ι t τ ε)) (qJ i)) :=
 (Bl hN hl L hi hg ht he hx hE hON hc hsw hf hs).imp fun D Z H hh=>eG hh fun as0 B own U I h=>⟨as0,B,own,U,I,by
  unfold iI at h;cases hr:ι U with
  | no=>rw [hr] at h;exact h.elim
  | er x=>rw [hr] at h;exact h
  | ok xs =>
   rw [hr] at h;refine fun J H1 s1 G=>eX Y (I.mono s1) hO G.comp ?_;have h':gt W (own++as0) H (cN t τ ε (fP ix U) xs) (fun x H1=>qJ i x Z H1 D.nx):=h;cases hq:cN t τ ε (fP ix U) xs with
   | ok d=>rw [hq] at h';exact fun p o H' s hp=>h' p o H' (s1.trans s) (s1.free hp)
   | er x =>
    unfold cN at hq;split at hq
    .cases hc:hU t τ ε (fP ix U) xs <;> rw [hc] at hq <;> cases hq
    .cases hq
   | no=>rw [hq] at h';exact h'.elim⟩
def xp {Ob:acG} {i:Nat} {st:X5} (J:i∉O) (h:JS X st (zY (tN W O ε) (qJ i))):JS X st (sD W Ob O O (aZ i ε)):=h.imp fun D Z H L=>eG L fun as0 B own U I h =>
 ⟨as0,B,own,U,I,nu I h fun d p o H' s Y e od h'=>h' own _ H' ((I.mono s).set J (od.den (I.new Y) e))⟩
end
def kW (N:acH) (ds:acO):Sd:=ds.map some++aae (N.length - ds.length) none
def cr (φ:FS) (N P:acH) (ds:acO):R D:=if ds.length=P.length then (φ (kW N ds)).bind fun f=>match f with
 | .rt d=>.ok d
 | .rn d=>.ok d
 | .nx _=>.ok .non
 | _=>.no
 else .no
def eF (K:aT) (mg:acK) (F:acO->R D):Sp:=fun vs H Q _=>∃ as ds,(∀ a∈as,H a≠none)/\aM K (aK as H) ds vs/\cK ⟨K,mg,E0⟩ as H (F ds) Q
section
variable {P:Ww} {w:WU} {K:aT} {mg:acK} {base:Yy}
def vd {H:Hp}:∀ {ds:acO} {vs:acN} {i:Nat} {d:D},aM K H ds vs->∀ {n:Nat},(ds.map some++aae n none)[i]?=some (some d)->∃ v,(vs.map some++aae n none)[i]?=some (some v)/\di K H d v:=by
 intro ds vs i d h n e;have I:=h.len;by_cases hi:i < ds.length
 .rw [XZ (by simpa using hi),W4] at e;rw [XZ (by rw [eQ,<- I];exact hi),W4];cases q:ds[i]? with
  | none=>rw [q] at e;cases e
  | some d' =>
   rw [q] at e;cases e;obtain ⟨v,h1,h2⟩:=h.get q;exact ⟨v,by rw [h1];rfl,h2⟩
 .rw [Yl (by simpa using hi),aaG] at e;split at e <;> cases e
def Fun.okD {x L:Str} {st:X5} {f:ID} {fd:W2} {N ps:acH} {k:Nat} {φ:FS} {O':acG} (F:Fun K x L st f fd) (S:FnScope N ps (ax st))
  (hbody:∀ (Y:dO) (A:WN) (J:List Env) (s:gs) (H:Hp) (E:XK),Room k (A.deeper (abk L (ax st) s.heap.objs.size f Y)) ->
   JB (xa cP P w K mg base N L (ax st) f Y A J s H E).nox (dR st) (sD ⟨K,mg,E0⟩ [] [] O' φ)):FnOk P w K mg base cP (k+1) f fd ps (eF K mg (cr φ N ps)):=by
 refine F.okJ S (fun vs H Q E h=>?_) fun Y A J s H vs Q E hr h=>?_
 .obtain ⟨as,ds,ex,dv,h⟩:=h;unfold cr at h;split at h
  .rename_i hl;rw [<- dv.len];exact hl
  .exact h.elim
 .obtain ⟨as,ds,ex,dv,h⟩:=h;unfold cr at h;split at h
  .rename_i hl;refine ⟨_,hbody Y A J s H E hr,as,H,[],kW N ds,⟨?_,rfl,Yb,Yb,fun a ha=>(nomatch ha),ex,aC.refl _,fun i d _ e=>?_,fun i a h=>(by simp at h)⟩,?_⟩
   .unfold kW start;simp [dv.len]
   .unfold kW at e;unfold start;rw [<- dv.len];exact vd dv e
   .cases hr:φ (kW N ds) with
    | ok fl =>
     rw [hr] at h;cases fl with
     | rt d=>exact fun v H' s dv'=>h v H' s dv'
     | rn d=>exact fun p o H' s hp e od=>h (.ref p) H' s (od.den (fun z=>ex p z hp) e)
     | nx U=>exact fun own Z H' I=>h .non H' I.same rfl
     | bk U=>exact h.elim
     | ct U=>exact h.elim
    | er x=>rw [hr] at h;exact fun e C H' s=>h e C H' s
    | no=>rw [hr] at h;exact h.elim
  .exact h.elim
section
variable {X:Cx} {O:acG} {x:Str} {st:X5} {ps:acH} {f:ID} {fd:W2} {j k:Nat} {F:acO->R D} {p pos:Pos} {e:W3} {es:List W3} {α:FA}
def aH (D:Def X.K X.mg x st ps f fd) (G:FnOk X.prog X.w X.K X.mg X.base cP j f fd ps (eF K mg F)) (Y:Room k X.A) (L:JA X (e::es) (xC ⟨K,mg,E0⟩ O α)) (hj:j<=k:=by decide) (hg:Gl X x:=by rfl) (J:acP x:=by decide)
  (h1:ba e=true:=by rfl) (h2:es.all ba=true:=by rfl):JE X (.Call (.Name x p) (e::es) [] pos) (tD ⟨K,mg,E0⟩ O (ao F α)) :=
 (Hz D G Y L hj hg J h1 h2).imp fun Z H Q hh=>eG hh fun as0 B own U I h=>⟨as0,B,own,U,I,gw h fun ds vs H1 s1 d1 h1=>⟨own++as0,ds,(I.mono s1).exi,d1,h1⟩⟩
end
def IT (φ:FS) (N P:acH) (ds:acO):R D:=if ds.length=P.length then (φ (kW N ds)).bind fun f=>match f with
 | .rn d=>.ok d
 | _=>.no
 else .no
def UN (K:aT) (mg:acK) (F:acO->R D):Sp:=fun vs H Q _=>∃ as ds,(∀ a∈as,H a≠none)/\aM K (aK as H) ds vs/\gt ⟨K,mg,E0⟩ as H (F ds) Q
def Fun.okN {P:Ww} {w:WU} {K:aT} {mg:acK} {base:Yy} {x J:Str} {st:X5} {f:ID} {fd:W2} {N ps:acH} {k:Nat} {φ:FS} {O':acG} (F:Fun K x J st f fd) (S:FnScope N ps (ax st))
  (Y:∀ (L:dO) (A:WN) (I:List Env) (s:gs) (H:Hp) (E:XK),Room k (A.deeper (abk J (ax st) s.heap.objs.size f L)) ->
   JB (xa cP P w K mg base N J (ax st) f L A I s H E).nox (dR st) (sD ⟨K,mg,E0⟩ [] [] O' φ)):FnOk P w K mg base cP (k+1) f fd ps (UN K mg (IT φ N ps)):=by
 refine F.okJ S (fun vs H Q E h=>?_) fun L A I s H vs Q E hr h=>?_
 .obtain ⟨as,ds,ex,dv,h⟩:=h;unfold IT at h;split at h
  .rename_i hl;rw [<- dv.len];exact hl
  .exact h.elim
 .obtain ⟨as,ds,ex,dv,h⟩:=h;unfold IT at h;split at h
  .rename_i hl;refine ⟨_,Y L A I s H E hr,as,H,[],kW N ds,⟨?_,rfl,Yb,Yb,fun a ha=>(nomatch ha),ex,aC.refl _,fun i d _ e=>?_,fun i a h=>(by simp at h)⟩,?_⟩
   .unfold kW start;simp [dv.len]
   .unfold kW at e;unfold start;rw [<- dv.len];exact vd dv e
   .cases hr:φ (kW N ds) with
    | ok fl =>
     rw [hr] at h;cases fl with
     | rn d=>exact fun p o H' s hp e od=>h p o H' s hp e od
     | rt d=>exact h.elim
     | nx U=>exact h.elim
     | bk U=>exact h.elim
     | ct U=>exact h.elim
    | er x=>rw [hr] at h;exact fun e C H' s=>h e C H' s
    | no=>rw [hr] at h;exact h.elim
  .exact h.elim
section
variable {K:aT} {mg:acK} {X:Cx} {O:acG} {x:Str} {st:X5} {ps:acH} {f:ID} {fd:W2} {j k:Nat} {F:acO->R D} {p pos:Pos} {e:W3} {es:List W3} {α:FA}
def sY {W:Wd} {as:acL} {H:Hp} {Q:VK} {r:R (acO)} {g:acO->R D} {Q':acN->Hp->Prop} (h:gt W as H (r.bind g) Q) (q:∀ d v H',aC H H'->aM W.K (aK as H') d v->gt W as H' (g d) Q->Q' v H'):jB W as H r Q':=ic h q
def JZ (D:Def X.K X.mg x st ps f fd) (G:FnOk X.prog X.w X.K X.mg X.base cP j f fd ps (UN K mg F)) (Y:Room k X.A) (L:JA X (e::es) (xC ⟨K,mg,E0⟩ O α)) (hj:j<=k:=by decide) (hg:Gl X x:=by rfl) (J:acP x:=by decide)
  (h1:ba e=true:=by rfl) (h2:es.all ba=true:=by rfl):JE X (.Call (.Name x p) (e::es) [] pos) (tN ⟨K,mg,E0⟩ O (ao F α)) :=
 (Hz D G Y L hj hg J h1 h2).imp fun Z H Q hh=>eG hh fun as0 B own U I h=>⟨as0,B,own,U,I,sY h fun ds vs H1 s1 d1 h1=>⟨own++as0,ds,(I.mono s1).exi,d1,h1⟩⟩
end
def Nk {a:ID} {ns:List Int} {H:Hp} {F:acO->R D} {Q:VK} {E:XK} (I:gp K H a (ns.map V.int)) (h:F [.lst (ns.map D.int)]=.ok (.bl true)) (q:∀ H',Q (.bl true) H'):eF K mg F [.ref a] H Q E:=by
 refine ⟨[],[.lst (ns.map D.int)],fun a J=>(nomatch J),⟨.ref a,[],rfl,⟨a,ns.map V.int,rfl,by rw [zC];exact I,?_⟩,rfl⟩,?_⟩
 .clear h I;induction ns with
  | nil=>exact rfl
  | cons n r Y=>exact ⟨_,_,rfl,rfl,Y⟩
 .rw [h];intro v H' s L;cases L;exact q H'
end
section
variable {W:Wd} {X:Cx}
def aR {as:acL} {H:Hp} {d:D} {v:V} {Q:VK} (h:cK W as H (.ok d) Q) (hd:di W.K (aK as H) d v):Q v H:=h v H (aC.refl _) hd
def Iw:fb X (X9 .Add) (fun x y H Q=>∃ l b xs zs,x=.ref l/\y=.ref b/\gp X.K H l xs/\gp X.K H b zs/\xs.length+zs.length<=Wp/\∀ p,H p=none->Q (.ref p) (upd H p (.lst (xs++zs)))):=by
 intro af s Z H x y v u Q I rx ry h;obtain ⟨l,b,xs,zs,rfl,rfl,hH,hB,hz,q⟩:=h;cases rx;cases ry;obtain ⟨its,r,pl,hl⟩:=I.list hH;obtain ⟨J,r2,pl2,hl2⟩:=I.list hB;obtain ⟨⟨cls,dd,data,sl⟩,ho,hc,n,hd⟩:=pl.isList;obtain ⟨⟨cls2,dd2,data2,sl2⟩,L,hc2,n2,Y⟩:=pl2.isList;simp only at hc hd hc2 Y;subst hc hd hc2 Y;have e:its.toArray++J.toArray=(its++J).toArray:=by simp
 refine concat_meets ⟨_,ho,rfl⟩ ⟨_,L,rfl⟩ noFill_list_add seq_list_add PySem.F.slot_list_add PySem.F.entry_list_add (PySem.F.args_list_add_2 _ _) (list_addW l b its.toArray J.toArray n n2 dd dd2 sl sl2 (by rw [By,By,<- r.length,<- r2.length];exact hz)) ⟨ho,L,?_⟩;rw [e];exact ⟨.ref _,_,I.lnew (t':=s.toks) (r.append r2) (by rw [Do];exact hz),rfl,q _ I.fresh⟩
def GV (K:aT):R2:=fun x y H Q=>match x,y with
 | .int i,.int j=>Q (.int (i+j)) H
 | .str i,.str j=>i.length+j.length<=Wp/\Q (.str (i++j)) H
 | .ref l,.ref b=>(∃ xs zs,gp K H l xs/\gp K H b zs/\xs.length+zs.length<=Wp/\∀ p,H p=none->Q (.ref p) (upd H p (.lst (xs++zs)))) \/
   ∃ xs zs,j3 K H l xs/\j3 K H b zs/\xs≠[]/\xs.length+zs.length<=Wp/\(zs=[]->Q (.ref l) H)/\(zs≠[]->∀ p,H p=none->Q (.ref p) (upd H p (.tup (xs++zs))))
 | _,_=>False
def SV (K:aT) (L:X.K=K:=by rfl):fb X (X9 .Add) (GV K):=by
 subst L;refine ((L8.or BD).or (Iw.or IG)).imp fun x y H Q q=>?_;unfold GV at q;split at q
 .exact .inl (.inl ⟨_,_,rfl,rfl,q⟩)
 .exact .inl (.inr ⟨_,_,rfl,rfl,q.1,q.2⟩)
 .rcases q with ⟨xs,zs,h1,h2,J,I⟩|⟨xs,zs,h1,h2,J,I,Y,h6⟩
  .exact .inr (.inl ⟨_,_,xs,zs,rfl,rfl,h1,h2,J,I⟩)
  .exact .inr (.inr ⟨_,_,xs,zs,rfl,rfl,h1,h2,J,I,Y,h6⟩)
 .exact q.elim
def bw (a b:D):R D:=match a,b with
 | .int i,.int j=>.ok (.int (i+j))
 | .str x,.str y=>if x.length+y.length<=1000000 then .ok (.str (x++y)) else .no
 | .lst xs,.lst ys=>if xs.length+ys.length<=1000000 then .ok (.lst (xs++ys)) else .no
 | .tup xs,.tup ys=>if xs.isEmpty=false/\xs.length+ys.length<=1000000 then .ok (.tup (xs++ys)) else .no
 | _,_=>.no
def TQ (K:aT) (hW:W.K=K:=by rfl):rH W (GV K) bw:=by
 subst hW;intro as H x y a b Q hn da db h;unfold bw at h;split at h
 .cases da;cases db;exact aR h rfl
 .cases da;cases db;split at h
  .rename_i I;exact ⟨IF I dL,aR h rfl⟩
  .exact h.elim
 .rename_i xs ys;obtain ⟨p,vs,rfl,q1,J⟩:=da;obtain ⟨p2,ws,rfl,q3,Y⟩:=db;split at h
  .rename_i I;rw [J.len,Y.len] at I;refine .inl ⟨vs,ws,(az _ _).seq q1,(az _ _).seq q3,IF I dL,fun p L=>?_⟩;refine h _ _ (aX L _) ⟨p,vs++ws,rfl,.inl (.inl (by rw [aW (hn p L)];exact aS)),(J.append Y).mono (aV (aX L _))⟩
  .exact h.elim
 .rename_i xs ys;obtain ⟨p,vs,rfl,q1,J⟩:=da;obtain ⟨p2,ws,rfl,q3,Y⟩:=db;split at h
  .rename_i I;obtain ⟨he,I⟩:=I;have he':vs≠[]:=fun z=>by
    have:=J.empty
    rw [he,z] at this;cases this
   rw [J.len,Y.len] at I;refine .inr ⟨vs,ws,(az _ _).seqT q1,(az _ _).seqT q3,he',IF I dL,fun z=>?_,fun z p L=>?_⟩
   .have:ys=[]:=by
     cases ys with
     | nil=>rfl
     | cons d r=>obtain ⟨_,_,e,_⟩:=Y;rw [z] at e;cases e
    subst this;rw [Xn] at h;exact aR h ⟨p,vs,rfl,q1,J⟩
   .exact h _ _ (aX L _) ⟨p,vs++ws,rfl,.inl (.inl (by rw [aW (hn p L)];exact aS)),(J.append Y).mono (aV (aX L _))⟩
  .exact h.elim
 .exact h.elim
def pP (a b:D):R D:=match a,b with
 | .int i,.int j=>.ok (.int (i - j))
 | _,_=>.no
def ED:rH W NX pP:=by
 intro as H x y a b Q hn I J h;unfold pP at h;split at h
 .cases I;cases J;exact aR h rfl
 .exact h.elim
def BG:fb X (X9 .Mult) (fun x y H Q=>∃ i n,x=.str i/\y=.int n/\MulOk i n/\Q (.str (Txt.mul i n)) H):=by
 intro af s Z H x y v u Q I rx J h;obtain ⟨i,n,rfl,rfl,Y,q⟩:=h;obtain ⟨t,rfl⟩:=rx;obtain ⟨t',rfl⟩:=J;exact bo I.tk (SB.mul Y fun t' k L=>⟨.str _,H,I.tok _,⟨t',rfl⟩,q⟩)
def Gc:R2:=fun x y H Q=>match x,y with
 | .int i,.int j=>AE i j/\Q (.int (i*j)) H
 | .str i,.int j=>MulOk i j/\Q (.str (Txt.mul i j)) H
 | _,_=>False
def Pq:fb X (X9 .Mult) Gc:=(N0.or BG).imp fun x y H Q q=>by
 unfold Gc at q;split at q
 .exact .inl ⟨_,_,rfl,rfl,q.1,q.2⟩
 .exact .inr ⟨_,_,rfl,rfl,q.1,q.2⟩
 .exact q.elim
instance (i j:Int):Decidable (AE i j):=by unfold AE;infer_instance
instance (i j:Int):Decidable (Gx i j):=by unfold Gx;infer_instance
instance (i j:Int):Decidable (He i j):=by unfold He;infer_instance
def dQ (a b:D):R D:=match a,b with
 | .int i,.int j=>if AE i j then .ok (.int (i*j)) else .no
 | .str x,.int n=>if x.length<=1000/\-1000<=n/\n<=1000 then .ok (.str (Txt.mul x n)) else .no
 | _,_=>.no
def Tw:rH W Gc dQ:=by
 intro as H x y a b Q hn I J h;unfold dQ at h;split at h
 .cases I;cases J;split at h
  .rename_i hl;exact ⟨hl,aR h rfl⟩
  .exact h.elim
 .cases I;cases J;split at h
  .rename_i hl;exact ⟨mulOk_of 1000 1000 hl.1 (by omega) (by omega) (by decide) (by decide),aR h rfl⟩
  .exact h.elim
 .exact h.elim
def cG (a b:D):R D:=match a,b with
 | .int i,.int j=>if Gx i j then .ok (.int (i/j)) else .no
 | _,_=>.no
def Vc:rH W NP cG:=by
 intro as H x y a b Q hn I J h;unfold cG at h;split at h
 .cases I;cases J;split at h
  .rename_i hl;exact ⟨hl,aR h rfl⟩
  .exact h.elim
 .exact h.elim
def bB (a b:D):R D:=match a,b with
 | .int i,.int j=>if 0 < j then .ok (.int (i % j)) else .no
 | _,_=>.no
def TD:rH W NL bB:=by
 intro as H x y a b Q hn I J h;unfold bB at h;split at h
 .cases I;cases J;split at h
  .rename_i hl;exact ⟨hl,aR h rfl⟩
  .exact h.elim
 .exact h.elim
def vo (a b:D):R D:=match a,b with
 | .int i,.int j=>if He i j then .ok (.int (i ^ j.toNat)) else .no
 | _,_=>.no
def Ju:rH W LK vo:=by
 intro as H x y a b Q hn I J h;unfold vo at h;split at h
 .cases I;cases J;split at h
  .rename_i hl;exact ⟨hl,aR h rfl⟩
  .exact h.elim
 .exact h.elim
def vS (a:D):R D:=match a with
 | .int i=>.ok (.int (-i))
 | _=>.no
def Fm:VA W NY vS:=by
 intro as H x a Q I h;unfold vS at h;split at h
 .cases I;exact aR h rfl
 .exact h.elim
def vL (a b:D):R D:=match a,b with
 | .int i,.int j=>.ok (.bl (decide (i < j)))
 | .str i,.str j=>.ok (.bl (decide (i.cps.toList < j.cps.toList)))
 | _,_=>.no
def Fy (a b:D):R D:=match a,b with
 | .int i,.int j=>.ok (.bl (decide (j < i)))
 | .str i,.str j=>.ok (.bl (decide (j.cps.toList < i.cps.toList)))
 | _,_=>.no
def QT (a b:D):R D:=match a,b with
 | .int i,.int j=>.ok (.bl (decide (j<=i)))
 | .str i,.str j=>.ok (.bl (!decide (i.cps.toList < j.cps.toList)))
 | _,_=>.no
def EC:rH W TM vL:=by
 intro as H x y a b Q hn I J h;unfold vL at h;split at h
 .cases I;cases J;exact aR h rfl
 .cases I;cases J;exact aR h rfl
 .exact h.elim
def N8:rH W UC Fy:=by
 intro as H x y a b Q hn I J h;unfold Fy at h;split at h
 .cases I;cases J;exact aR h rfl
 .cases I;cases J;exact aR h rfl
 .exact h.elim
def pGe:rH W UL QT:=by
 intro as H x y a b Q hn I J h;unfold QT at h;split at h
 .cases I;cases J;exact aR h rfl
 .cases I;cases J;exact aR h rfl
 .exact h.elim
def TK:D->Bool
 | .non=>true
 | _=>false
def LU (j:Bool):D->Bool
 | .bl i=>i==j
 | _=>false
def Mx (x:D) (y:D):R D:=match y with
 | .non=>.ok (.bl (TK x))
 | .bl j=>.ok (.bl (LU j x))
 | _=>.no
def Bw (x:D) (y:D):R D:=match y with
 | .non=>.ok (.bl (!TK x))
 | .bl j=>.ok (.bl (!LU j x))
 | _=>.no
def wH {K:aT} {H:Hp} {a:D} {x:V} (h:di K H a x):Ch x .non=TK a:=by
 cases a with
 | lst _=>obtain ⟨_,_,rfl,_⟩:=h;rfl
 | tup _=>obtain ⟨_,_,rfl,_⟩:=h;rfl
 | dct _=>obtain ⟨_,_,rfl,_⟩:=h;rfl
 | obj _ _=>obtain ⟨_,_,_,_,rfl,_⟩:=h;rfl
 | exn _=>obtain ⟨_,_,rfl,_⟩:=h;rfl
 | cls _=>obtain ⟨_,rfl,_⟩:=h;rfl
 | lsm _=>obtain ⟨_,_,rfl,_⟩:=h;rfl
 | dcf _=>obtain ⟨_,_,_,rfl,_⟩:=h;rfl
 | _=>cases h;rfl
def wP {K:aT} {H:Hp} {a:D} {x:V} {j:Bool} (h:di K H a x):Ch x (.bl j)=LU j a:=by
 cases a with
 | lst _=>obtain ⟨_,_,rfl,_⟩:=h;rfl
 | tup _=>obtain ⟨_,_,rfl,_⟩:=h;rfl
 | dct _=>obtain ⟨_,_,rfl,_⟩:=h;rfl
 | obj _ _=>obtain ⟨_,_,_,_,rfl,_⟩:=h;rfl
 | exn _=>obtain ⟨_,_,rfl,_⟩:=h;rfl
 | cls _=>obtain ⟨_,rfl,_⟩:=h;rfl
 | lsm _=>obtain ⟨_,_,rfl,_⟩:=h;rfl
 | dcf _=>obtain ⟨_,_,_,rfl,_⟩:=h;rfl
 | _=>cases h;rfl
def R7:rH W UR Mx:=by
 intro as H x y a b Q hn I J h;unfold Mx at h;split at h
 .cases J;show Q (.bl (Ch x .non)) H;rw [wH I];exact aR h rfl
 .cases J;show Q (.bl (Ch x (.bl _))) H;rw [wP I];exact aR h rfl
 .exact h.elim
def Mj:rH W AQ Bw:=by
 intro as H x y a b Q hn I J h;unfold Bw at h;split at h
 .cases J;show Q (.bl (!Ch x .non)) H;rw [wH I];exact aR h rfl
 .cases J;show Q (.bl (!Ch x (.bl _))) H;rw [wP I];exact aR h rfl
 .exact h.elim
mutual
def iG:D->Option aaY
 | .non=>some .none
 | .bl b=>some (.bool b)
 | .int i=>some (.int i)
 | .str x=>some (.str x)
 | .lst xs=>(fm xs).map .list
 | .tup xs=>(fm xs).map .tuple
 | _=>none
def fm:acO->Option (List aaY)
 | []=>some []
 | d::ds=>(iG d).bind fun p=>(fm ds).map (p::·)
end
mutual
def fK {af:acI} {Z:St} {H:Hp} {s:gs} (I:Inv X af Z H s):∀ {d:D} {v:V} {u:dO} {p:aaY},di X.K H d v->bg v u->iG d=some p->∃ as,Reads s.heap u p as
 | .non,_,_,_,h,r,e=>by cases h;cases r;cases e;exact ⟨_,.none⟩
 | .bl b,_,_,_,h,r,e=>by cases h;cases r;cases e;exact ⟨_,.bool b⟩
 | .int i,_,_,_,h,r,e=>by cases h;obtain ⟨t,rfl⟩:=r;cases e;exact ⟨_,.int i t⟩
 | .str x,_,_,_,h,r,e=>by cases h;obtain ⟨t,rfl⟩:=r;cases e;exact ⟨_,.str x t⟩
 | .lst ds,_,_,_,⟨a,xs,h0,h1,h2⟩,r,e=>by
  subst h0;cases r;unfold iG at e;cases q:fm ds with
  | none=>rw [q] at e;cases e
  | some ps =>
   rw [q] at e;cases e;obtain ⟨its,L,pl,hz⟩:=I.list h1;obtain ⟨o,Y,hc,n,hd⟩:=pl.isList;obtain ⟨as,J⟩:=nv I h2 L q;exact ⟨_,.list Y hc hd (by simpa using J)⟩
 | .tup ds,_,_,_,⟨a,xs,h0,h1,h2⟩,r,e=>by
  subst h0;cases r;unfold iG at e;cases q:fm ds with
  | none=>rw [q] at e;cases e
  | some ps =>
   rw [q] at e;cases e;obtain ⟨its,L,pl,hz⟩:=I.tuple h1;obtain ⟨o,Y,hc,n,hd⟩:=pl;obtain ⟨as,J⟩:=nv I h2 L q;exact ⟨_,.tuple Y hc hd (by simpa using J)⟩
 | .dct _,_,_,_,_,_,e=>by cases e
 | .obj _ _,_,_,_,_,_,e=>by cases e
 | .ty _,_,_,_,_,_,e=>by cases e
 | .exn _,_,_,_,_,_,e=>by cases e
 | .cls _,_,_,_,_,_,e=>by cases e
 | .lsm _,_,_,_,_,_,e=>by cases e
 | .dcf _,_,_,_,_,_,e=>by cases e
def nv {af:acI} {Z:St} {H:Hp} {s:gs} (I:Inv X af Z H s):∀ {ds:acO} {vs:acN} {us:acM} {ps:List aaY},aM X.K H ds vs->bf vs us->fm ds=some ps->∃ as,ReadsAll s.heap us ps as
 | [],_,_,_,h,r,e=>by cases h;cases r;cases e;exact ⟨_,.nil⟩
 | d::ds,_,_,_,⟨v,vs,h0,h1,h2⟩,r,e=>by
  subst h0;unfold fm at e;cases q:iG d with
  | none=>rw [q] at e;cases e
  | some p =>
   rw [q] at e;have e:(fm ds).map (p::·)=some _:=e;cases q2:fm ds with
   | none=>rw [q2] at e;cases e
   | some ps =>
    rw [q2] at e;cases e;cases r with
    | cons r1 Y =>
     obtain ⟨as,J⟩:=fK I h1 r1 q;obtain ⟨bs,L⟩:=nv I h2 Y q2;exact ⟨_,.cons J L⟩
end
def fh:D->Option V
 | .non=>some .non
 | .bl b=>some (.bl b)
 | .int i=>some (.int i)
 | .str x=>some (.str x)
 | _=>none
def fv {K:aT} {H:Hp} {d:D} {v x:V} (h:di K H d v) (e:fh d=some x):v=x:=by
 cases d with
 | non=>cases e;exact h
 | bl b=>cases e;exact h
 | int b=>cases e;exact h
 | str b=>cases e;exact h
 | _=>cases e
def mo (a b:D):Option Bool:=match iG a,iG b with
 | some p,some q=>if Xg p=true/\Xg q=true then some (YN p q) else none
 | _,_=>none
def sW (a b:D):Option Bool:=match fh a,fh b with
 | some x,some y=>if z9 x y=true then some (decide (x=y)) else none
 | _,_=>mo a b
def xy (K:aT) (f:Bool->Bool):R2:=fun x y H Q=>∃ a b k,di K H a x/\di K H b y/\sW a b=some k/\Q (.bl (f k)) H
def Ae {a b:D} {k:Bool} (h:mo a b=some k):∃ p q,iG a=some p/\iG b=some q/\Xg p=true/\Xg q=true/\k=YN p q:=by
 unfold mo at h;split at h
 .rename_i p q h1 h2;split at h
  .rename_i hs;cases h;exact ⟨p,q,h1,h2,hs.1,hs.2,rfl⟩
  .cases h
 .cases h
def iE (K:aT) (hu:X.A.units+64 < Zu) (hK:X.K=K:=by rfl):fb X (WR .Eq) (xy K fun k=>k):=by
 subst hK;intro af s Z H x y v u Q I rx J h;obtain ⟨a,b,k,L,Y,e,q⟩:=h;unfold sW at e;split at e
 .rename_i x' y' e1 e2;split at e
  .rename_i hs;cases e
   have:=fv L e1;subst this
   have:=fv Y e2;subst this
   exact Q0 af s Z H _ _ v u Q I rx J ⟨hs,q⟩
  .cases e
 .obtain ⟨p,p',h1,h2,h3,h4,rfl⟩:=Ae e;obtain ⟨as,ra⟩:=fK I L rx h1;obtain ⟨bs,rb⟩:=fK I Y J h2;exact eq_dataH ra rb h3 h4 hu ⟨.bl _,H,I,rfl,q⟩
def qQ (K:aT) (hu:X.A.units+64 < Zu) (hK:X.K=K:=by rfl):fb X (WR .NotEq) (xy K fun k=>!k):=by
 subst hK;intro af s Z H x y v u Q I rx J h;obtain ⟨a,b,k,L,Y,e,q⟩:=h;unfold sW at e;split at e
 .rename_i x' y' e1 e2;split at e
  .rename_i hs;cases e
   have:=fv L e1;subst this
   have:=fv Y e2;subst this
   exact Pj af s Z H _ _ v u Q I rx J ⟨hs,q⟩
  .cases e
 .obtain ⟨p,p',h1,h2,h3,h4,rfl⟩:=Ae e;obtain ⟨as,ra⟩:=fK I L rx h1;obtain ⟨bs,rb⟩:=fK I Y J h2;exact ne_dataH ra rb h3 h4 hu ⟨.bl _,H,I,rfl,q⟩
def gG (o:Option Bool) (f:Bool->Bool):R D:=match o with
 | some k=>.ok (.bl (f k))
 | none=>.no
def eI (a b:D):R D:=gG (sW a b) fun k=>k
def pX (a b:D):R D:=gG (sW a b) fun k=>!k
def QP (K:aT) (f:Bool->Bool) (J:W.K=K:=by rfl):rH W (xy K f) (fun a b=>gG (sW a b) f):=by
 subst J;intro as H x y a b Q hn I L h;have h:cK W as H (gG (sW a b) f) Q:=h;cases e:sW a b with
 | none=>rw [e] at h;exact h.elim
 | some k =>
  rw [e] at h;exact ⟨a,b,k,I.mono (az _ _),L.mono (az _ _),e,aR h rfl⟩
def t0 (K:aT) (I:W.K=K:=by rfl):rH W (xy K fun k=>k) eI:=QP K _ I
def Dd (K:aT) (I:W.K=K:=by rfl):rH W (xy K fun k=>!k) pX:=QP K _ I
def cX:acO->Option (acN)
 | []=>some []
 | d::ds=>(fh d).bind fun v=>(cX ds).map (v::·)
def ml {K:aT} {H:Hp}:∀ {ds:acO} {vs xs:acN},aM K H ds vs->cX ds=some xs->vs=xs/\xs.all fB=true
 | [],_,_,h,e=>by cases h;cases e;exact ⟨rfl,rfl⟩
 | d::ds,_,_,⟨v,vs,h0,h1,h2⟩,e=>by
  subst h0;unfold cX at e;cases q:fh d with
  | none=>rw [q] at e;cases e
  | some x =>
   rw [q] at e;have e:(cX ds).map (x::·)=some _:=e;cases q2:cX ds with
   | none=>rw [q2] at e;cases e
   | some xs =>
    rw [q2] at e;cases e;obtain ⟨J,I⟩:=ml h2 q2;refine ⟨by rw [fv h1 q,J],?_⟩;rw [XI,I,Bool.and_true];cases d <;> cases q <;> rfl
def pE {d:D} {x:V} (e:fh d=some x):fB x=true:=by cases d <;> cases e <;> rfl
def MM (j i:Str):Bool:=!(aaF j i 0 j.length 1).isEmpty
def G1 (K:aT) (I:Bool):R2:=fun x y H Q=>match x,y with
 | .str i,.str j=>Q (.bl (if I=true then !MM j i else MM j i)) H
 | x,.ref p=>∃ xs,(gp K H p xs\/j3 K H p xs)/\fB x=true/\xs.all fB=true/\Q (.bl (if I=true then !CS x xs else CS x xs)) H
 | _,_=>False
def Ck (K:aT) (I:X.K=K:=by rfl):fb X (WR .NotIn) (G1 K true):=by
 subst I;refine (xn.or yu).imp fun x y H Q q=>?_;unfold G1 at q;split at q
 .exact .inl ⟨_,_,rfl,rfl,q⟩
 .obtain ⟨xs,h1,h2,L,J⟩:=q;exact .inr ⟨_,xs,rfl,h1,h2,L,J⟩
 .exact q.elim
def CB (x:D) (xs:acO):Option Bool:=match fh x,cX xs with
 | some v,some vs=>some (CS v vs)
 | _,_=>none
def Wn (x y:D):Option Bool:=match y with
 | .str j=>match x with
  | .str i=>some (MM j i)
  | _=>none
 | .lst xs=>CB x xs
 | .tup xs=>CB x xs
 | _=>none
def pK (x y:D):R D:=gG (Wn x y) fun k=>if true=true then !k else k
def UM (K:aT) (I:Bool) (hW:W.K=K:=by rfl):rH W (G1 K I) (fun a b=>gG (Wn a b) fun k=>if I=true then !k else k):=by
 subst hW;intro as H x y a b Q hn da L h;have key:∀ (p:ID) (ds:acO) (vs:acN),y=.ref p->(gp W.K H p vs\/j3 W.K H p vs)->aM W.K (aK as H) ds vs->cK W as H (gG (CB a ds) fun k=>if I=true then !k else k) Q->G1 W.K I x y H Q:=by
  intro p ds vs hy hq hd h;subst hy;unfold CB at h;cases e1:fh a with
  | none=>rw [e1] at h;exact h.elim
  | some v =>
   rw [e1] at h;cases e2:cX ds with
   | none=>rw [e2] at h;exact h.elim
   | some ws =>
    rw [e2] at h
    have:=fv da e1
    subst this;obtain ⟨h3,h4⟩:=ml hd e2;subst h3;have fin:∃ xs,(gp W.K H p xs\/j3 W.K H p xs)/\fB x=true/\xs.all fB=true/\Q (.bl (if I=true then !CS x xs else CS x xs)) H:=⟨vs,hq,pE e1,h4,aR h rfl⟩;cases x <;> exact fin
 cases b with
 | str j =>
  cases a with
  | str i=>cases da;cases L;exact aR h rfl
  | _=>exact h.elim
 | lst ds=>obtain ⟨p,vs,rfl,Y,J⟩:=L;exact key p ds vs rfl (.inl ((az _ _).seq Y)) J h
 | tup ds=>obtain ⟨p,vs,rfl,Y,J⟩:=L;exact key p ds vs rfl (.inr ((az _ _).seqT Y)) J h
 | _=>exact h.elim
def FX (K:aT) (I:W.K=K:=by rfl):rH W (G1 K true) pK:=UM K true I
def bT (a b:D):R D:=match a,b with
 | .str z,.int i=>if z.length<=1000000 then (match atI z.cps.toList i with
  | some c=>.ok (.str ⟨#[c]⟩)
  | none=>.no) else .no
 | .lst xs,.int i=>match atI xs i with
  | some d=>.ok d
  | none=>.no
 | .tup xs,.int i=>match atI xs i with
  | some d=>.ok d
  | none=>.no
 | _,_=>.no
def aM.atI {K:aT} {H:Hp} {ds:acO} {xs:acN} {i:Int} {d:D} (h:aM K H ds xs) (e:atI ds i=some d):∃ v,L2.atI xs i=some v/\di K H d v:=by
 unfold L2.atI at e ⊢;rw [h.len] at e;cases q:Jy xs.length i with
 | none=>rw [q] at e;cases e
 | some j =>
  rw [q] at e;exact h.get e
def pIx (K:aT) (hW:W.K=K:=by rfl):rH W (Oa K) bT:=by
 subst hW;intro as H x y a b Q hn J L h;unfold bT at h;split at h
 .cases J;cases L;split at h
  .rename_i hl;split at h
   .rename_i c e;exact ⟨c,IF hl dL,e,aR h rfl⟩
   .exact h.elim
  .exact h.elim
 .obtain ⟨p,vs,rfl,Y,I⟩:=J;cases L;split at h
  .rename_i d e;obtain ⟨v,h1,h2⟩:=I.atI e;exact ⟨vs,v,.inl ((az _ _).seq Y),h1,aR h h2⟩
  .exact h.elim
 .obtain ⟨p,vs,rfl,Y,I⟩:=J;cases L;split at h
  .rename_i d e;obtain ⟨v,h1,h2⟩:=I.atI e;exact ⟨vs,v,.inr ((az _ _).seqT Y),h1,aR h h2⟩
  .exact h.elim
 .exact h.elim
def lu (xs:acO) (lo hi:Option Int):acO:=(xs.drop (HT.sIx xs.length 0 lo)).take (HT.sIx xs.length xs.length hi - HT.sIx xs.length 0 lo)
def aM.cut {K:aT} {H:Hp} {ds:acO} {xs:acN} (h:aM K H ds xs) (lo hi:Option Int):aM K H (lu ds lo hi) (vP xs lo hi):=by
 unfold lu vP;rw [h.len];exact (h.drop _).take _
def tR (a:D) (lo hi:Option Int):R D:=match a with
 | .str z=>if z.length<=1000000 then .ok (.str (qK z lo hi)) else .no
 | .lst xs=>.ok (.lst (lu xs lo hi))
 | .tup xs=>if HT.sIx xs.length 0 lo=0/\HT.sIx xs.length xs.length hi=xs.length then .no else .ok (.tup (lu xs lo hi))
 | _=>.no
def EY (K:aT) (hW:W.K=K:=by rfl):UQ W (Re K) tR:=by
 subst hW;intro as H x lo hi a Q hn L h;unfold tR at h;split at h
 .cases L;split at h
  .rename_i hl;exact ⟨IF hl dL,aR h rfl⟩
  .exact h.elim
 .obtain ⟨p,vs,rfl,Y,J⟩:=L;refine .inl ⟨vs,(az _ _).seq Y,fun p I=>h _ _ (aX I _) ⟨p,_,rfl,.inl (.inl (by rw [aW (hn p I)];exact aS)),(J.cut lo hi).mono (aV (aX I _))⟩⟩
 .obtain ⟨p,vs,rfl,Y,J⟩:=L;rename_i xs;split at h
  .exact h.elim
  .rename_i hc;rw [J.len] at hc;exact .inr ⟨vs,(az _ _).seqT Y,hc,fun p I=>h _ _ (aX I _) ⟨p,_,rfl,.inl (.inl (by rw [aW (hn p I)];exact aS)),(J.cut lo hi).mono (aV (aX I _))⟩⟩
 .exact h.elim
def cy (ds:acO):R D:=match ds with
 | [.str z]=>if z.length<=1000000 then .ok (.int z.length) else .no
 | [.lst xs]=>.ok (.int xs.length)
 | [.tup xs]=>.ok (.int xs.length)
 | _=>.no
def gq {K:aT} {H:Hp} {d:D} {xs:acN} (h:aM K H [d] xs):∃ v,xs=[v]/\di K H d v:=by
 obtain ⟨v,vs,rfl,h1,h2⟩:=h;cases h2;exact ⟨v,rfl,h1⟩
def La {K:aT} {H:Hp} {d e:D} {xs:acN} (h:aM K H [d,e] xs):∃ v u,xs=[v,u]/\di K H d v/\di K H e u:=by
 obtain ⟨v,vs,rfl,h1,h2⟩:=h;obtain ⟨u,rfl,I⟩:=gq h2;exact ⟨v,u,rfl,h1,I⟩
def px (K:aT) (Y:W.K=K:=by rfl):sJ W (Jg K) cy:=by
 subst Y;intro as H xs ds Q hn L h;unfold cy at h;split at h
 .obtain ⟨v,rfl,d1⟩:=gq L;cases d1;split at h
  .rename_i hl;exact ⟨IF hl dL,aR h rfl⟩
  .exact h.elim
 .obtain ⟨v,rfl,d1⟩:=gq L;obtain ⟨p,vs,rfl,J,I⟩:=d1;refine ⟨vs,.inl ((az _ _).seq J),?_⟩;rw [<- I.len];exact aR h rfl
 .obtain ⟨v,rfl,d1⟩:=gq L;obtain ⟨p,vs,rfl,J,I⟩:=d1;refine ⟨vs,.inr ((az _ _).seqT J),?_⟩;rw [<- I.len];exact aR h rfl
 .exact h.elim
def M0 (ds:acO):R D:=match ds with
 | [.int i]=>.ok (.int i)
 | [.bl k]=>.ok (.int (if k=true then 1 else 0))
 | _=>.no
def Up:sJ W Nm M0:=by
 intro as H xs ds Q hn I h;unfold M0 at h;split at h
 .obtain ⟨v,rfl,d1⟩:=gq I;cases d1;exact aR h rfl
 .obtain ⟨v,rfl,d1⟩:=gq I;cases d1;exact aR h rfl
 .exact h.elim
def Hh (K:aT) (xs:acN) (H:Hp) (Q:VK):Prop:=match xs with
 | [x,.ty C]=>jm C=true/\(match x with
  | .non=>Q (.bl (iR "NoneType" C)) H
  | .bl _=>Q (.bl (iR "bool" C)) H
  | .int _=>Q (.bl (iR "int" C)) H
  | .str _=>Q (.bl (iR "str" C)) H
  | .ref a=>(∃ xs,gp K H a xs/\Q (.bl (iR "list" C)) H)\/(∃ xs,j3 K H a xs/\Q (.bl (iR "tuple" C)) H)\/(∃ kvs,H a=some (.dK kvs)/\Q (.bl (iR "dict" C)) H)\/∃ o kvs,H a=some (.frz o (.dK kvs))/\Q (.bl (iR "dict" C)) H
  | _=>False)
 | _=>False
def sO (K:aT) (hK:X.K=K:=by rfl):cj X (.builtin "isinstance") (Hh K):=by
 subst hK;intro af s Z H xs us Q I r h;unfold Hh at h;split at h
 .rename_i x C;obtain ⟨J,h⟩:=h;obtain ⟨u,c,rfl,Y,rc⟩:=Ku r;cases rc;have fin:∀ (b:Bool),Q (.bl b) H->∀ tk,X.tn<=tk->EP X af Z Q (.bool b) { s with toks:=tk }:=fun b q tk htk=>⟨.bl b,H,I.tok tk,rfl,q⟩;refine bo I.tk ?_;cases x with
  | non=>exact jk I Y .non (jR (.inl rfl) J) (fin _ h)
  | bl b=>exact jk I Y (.bl b) (jR (.inr (.inl rfl)) J) (fin _ h)
  | int b=>exact jk I Y (.int b) (jR (.inr (.inr (.inl rfl))) J) (fin _ h)
  | str b=>exact jk I Y (.str b) (jR (.inr (.inr (.inr (.inl rfl)))) J) (fin _ h)
  | ref a =>
   cases Y;rcases h with ⟨xs,L,q⟩|⟨xs,L,q⟩|⟨kvs,L,q⟩|⟨ob,kvs,L,q⟩
   .obtain ⟨its,rv,pl,hz⟩:=I.list L;obtain ⟨o,ho,hc,n,hd⟩:=pl.isList;exact Xc aap I.kIn ⟨o,ho,hc⟩ (jR (.inr (.inr (.inr (.inr (.inl rfl))))) J) (fun z=>nomatch z) (fin _ q)
   .obtain ⟨its,rv,pl,hz⟩:=I.tuple L;obtain ⟨o,ho,hc,n,hd⟩:=pl;exact Xc abK I.kIn ⟨o,ho,hc⟩ (jR (.inr (.inr (.inr (.inr (.inr (.inl rfl)))))) J) (fun z=>nomatch z) (fin _ q)
   .exact jk (x:=.ref a) I rfl (.dK L) (jR (.inr (.inr (.inr (.inr (.inr (.inr rfl)))))) J) (fin _ q)
   .obtain ⟨_,_,_,vs,_,o,es,ep,h1,h2,_⟩:=(show bX X.prog X.w H s.heap a (.frz ob (.dK kvs)) from I.hok a _ L);exact Xc aaq I.kIn ⟨o,h1,h2.1⟩ (jR (.inr (.inr (.inr (.inr (.inr (.inr rfl)))))) J) (fun z=>nomatch z) (fin _ q)
  | _=>exact h.elim
 .exact h.elim
def nw (ds:acO):R D:=match ds with
 | [x,.ty C]=>if jm C=true then (match x with
  | .non=>.ok (.bl (iR "NoneType" C))
  | .bl _=>.ok (.bl (iR "bool" C))
  | .int _=>.ok (.bl (iR "int" C))
  | .str _=>.ok (.bl (iR "str" C))
  | .lst _=>.ok (.bl (iR "list" C))
  | .tup _=>.ok (.bl (iR "tuple" C))
  | .dct _=>.ok (.bl (iR "dict" C))
  | .dcf _=>.ok (.bl (iR "dict" C))
  | _=>.no) else .no
 | _=>.no
def zW (K:aT) (L:W.K=K:=by rfl):sJ W (Hh K) nw:=by
 subst L;intro as H xs ds Q hn Y h;unfold nw at h;split at h
 .obtain ⟨v,u,rfl,d1,d2⟩:=La Y;cases d2;split at h
  .rename_i hC;split at h
   .cases d1;exact ⟨hC,aR h rfl⟩
   .cases d1;exact ⟨hC,aR h rfl⟩
   .cases d1;exact ⟨hC,aR h rfl⟩
   .cases d1;exact ⟨hC,aR h rfl⟩
   .obtain ⟨p,vs,rfl,I,J⟩:=d1;exact ⟨hC,.inl ⟨vs,(az _ _).seq I,aR h rfl⟩⟩
   .obtain ⟨p,vs,rfl,I,J⟩:=d1;exact ⟨hC,.inr (.inl ⟨vs,(az _ _).seqT I,aR h rfl⟩)⟩
   .obtain ⟨p,vs,rfl,I,J⟩:=d1;exact ⟨hC,.inr (.inr (.inl ⟨vs,az _ _ _ _ I,aR h rfl⟩))⟩
   .obtain ⟨p,o,vs,rfl,I,J⟩:=d1;exact ⟨hC,.inr (.inr (.inr ⟨o,vs,az _ _ _ _ I,aR h rfl⟩))⟩
   .exact h.elim
  .exact h.elim
 .exact h.elim
def yC (K:aT) (xs:acN) (H:Hp) (Q:VK):Prop:=match xs with
 | [.ref p]=>(∃ ys,gp K H p ys/\∀ l,H l=none->Q (.ref l) (upd H l (.tup ys)))\/∃ ys,j3 K H p ys/\Q (.ref p) H
 | _=>False
def ur (K:aT) (I:X.K=K:=by rfl):cj X (.type "tuple") (yC K):=by
 subst I;refine vx.imp fun xs H Q q=>?_;unfold yC at q;split at q
 .rcases q with ⟨ys,h1,h2⟩|⟨ys,h1,h2⟩
  .exact ⟨_,ys,rfl,.inl ⟨h1,h2⟩⟩
  .exact ⟨_,ys,rfl,.inr ⟨h1,h2⟩⟩
 .exact q.elim
def oQ (ds:acO):R D:=match ds with
 | [.lst xs]=>.ok (.tup xs)
 | [.tup xs]=>.ok (.tup xs)
 | _=>.no
def LV {as:acL} {H:Hp} (hn:∀ a∈as,H a≠none):∀ p,H p=none->p∉as:=fun p I z=>hn p z I
def Jj (K:aT) (hW:W.K=K:=by rfl):sJ W (yC K) oQ:=by
 subst hW;intro as H xs ds Q hn Y h;unfold oQ at h;split at h
 .obtain ⟨v,rfl,d1⟩:=gq Y;obtain ⟨p,vs,rfl,I,J⟩:=d1;exact .inl ⟨vs,(az _ _).seq I,fun l L=>h _ _ (aX L _) ⟨l,vs,rfl,.inl (.inl (by rw [aW (LV hn l L)];exact aS)),J.mono (aV (aX L _))⟩⟩
 .obtain ⟨v,rfl,d1⟩:=gq Y;obtain ⟨p,vs,rfl,I,J⟩:=d1;exact .inr ⟨vs,(az _ _).seqT I,aR h ⟨p,vs,rfl,I,J⟩⟩
 .exact h.elim
def AU (K:aT) (xs:acN) (H:Hp) (Q:VK):Prop:=match xs with
 | [.ref p]=>∃ ys,(gp K H p ys\/j3 K H p ys)/\∀ l,H l=none->Q (.ref l) (upd H l (.lst ys))
 | _=>False
def GF (K:aT) (I:X.K=K:=by rfl):cj X (.type "list") (AU K):=by
 subst I;refine yj.imp fun xs H Q q=>?_;unfold AU at q;split at q
 .obtain ⟨ys,h1,h2⟩:=q;exact ⟨_,ys,rfl,h1,h2⟩
 .exact q.elim
def DB (ds:acO):R D:=match ds with
 | [.lst xs]=>.ok (.lst xs)
 | [.tup xs]=>.ok (.lst xs)
 | _=>.no
def Ox (K:aT) (hW:W.K=K:=by rfl):yR W (AU K) DB:=by
 subst hW;intro as H xs ds Q hn Y h;unfold DB at h;split at h
 .obtain ⟨v,rfl,d1⟩:=gq Y;obtain ⟨p,vs,rfl,L,J⟩:=d1;exact ⟨vs,.inl ((az _ _).seq L),fun l I=>h l _ _ (aX I _) I aS ⟨vs,rfl,J.mono (jC I (aX I _))⟩⟩
 .obtain ⟨v,rfl,d1⟩:=gq Y;obtain ⟨p,vs,rfl,L,J⟩:=d1;exact ⟨vs,.inr ((az _ _).seqT L),fun l I=>h l _ _ (aX I _) I aS ⟨vs,rfl,J.mono (jC I (aX I _))⟩⟩
 .exact h.elim
def mw {O:acG} {pos:Pos}:JE X (.Dict [] [] pos) (tN W O (vC (.dct []))):=HU.imp fun Z H Q ⟨as0,B,own,U,I,h⟩ p hp=>h p _ _ (aX hp _) hp aS ⟨[],rfl,rfl⟩
def su:acO->Option (acH)
 | []=>some []
 | .str b::ds=>(su ds).map (b::·)
 | _=>none
def ww {K:aT} {H:Hp}:∀ {ds:acO} {vs:acN} {bs:acH},aM K H ds vs->su ds=some bs->vs=bs.map V.str
 | [],_,_,h,e=>by cases h;cases e;rfl
 | d::ds,_,_,⟨v,vs,h0,h1,h2⟩,e=>by
  subst h0;cases d with
  | str b =>
   have e:(su ds).map (b::·)=some _:=e;cases q2:su ds with
   | none=>rw [q2] at e;cases e
   | some xs =>
    rw [q2] at e;cases e;cases h1;rw [ww h2 q2];rfl
  | _=>cases e
def uD (z:Str) (ds:acO):R D:=match ds with
 | [.lst xs]=>match su xs with
  | some ys=>if (ys.map (·.length)).sum+ys.length*z.length<=1000000 then .ok (.str (abo z ys)) else .no
  | none=>.no
 | _=>.no
def Lj (K:aT) (J:W.K=K:=by rfl):VU W (Gj K) uD:=by
 subst J;intro as H z xs ds Q hn Y h;unfold uD at h;split at h
 .obtain ⟨v,rfl,d1⟩:=gq Y;obtain ⟨p,vs,rfl,L,I⟩:=d1;split at h
  .rename_i ys e;split at h
   .rename_i hl;refine ⟨ys,?_,IF hl (by decide),aR h rfl⟩;rw [<- ww I e];exact (az _ _).seq L
   .exact h.elim
  .exact h.elim
 .exact h.elim
end
section
variable {X:Cx} {o e:W3} {es:List W3} {to:TE} {t:TA} {name:Str} {apos cpos:Pos} {T id:String} {r:V->acN->Hp->VK->Prop}
def JK (pa:PlainAttrs T) (Y:Slot T name id) (hty:typeOf (.builtin id)=pure (.type "method_descriptor")) (hm:Od X id r) (ho:JE X o to) (ha:JA X (e::es) t)
  (L:Xa o name X.env (eval o X.env)=eval o X.env:=by rfl) (J:(apos.endLine==cpos.line)=true:=by rfl) (h1:(e::es).all ba=true:=by rfl) (hl:(e::es).length < 29:=by decide) :
  JE X (.Call (.Attribute o name apos) (e::es) [] cpos) (U1 X.K T r to t):=by
 have I:=h1;rw [XI,W5] at I;exact ⟨PN pa Y hty hm ho.out ha.out L (zE h1 hl) J (c7 I.1) (fU I.2)⟩
def Sr (pa:PlainAttrs T) (L:Slot T name id) (Y:typeOf (.builtin id)=pure (.type "method_descriptor")) (hm:Od X id r) (ho:JE X o to)
  (J:Xa o name X.env (eval o X.env)=eval o X.env:=by rfl) (I:(apos.endLine==cpos.line)=true:=by rfl) :
  JE X (.Call (.Attribute o name apos) [] [] cpos) (Qz X.K T r to):=⟨NO pa L Y hm ho.out J I⟩
end
def BN:∀ {O:acG} {own:acL} {i:Nat} {a b:ID},O.Nodup->(i,a)∈O.zip own->(i,b)∈O.zip own->a=b
 | [],_,_,_,_,_,h,_=>by simp at h
 | _::_,[],_,_,_,_,h,_=>by simp at h
 | k::O,c::own,i,a,b,nd,h1,h2=>by
  rw [Xl] at h1 h2;rw [W8] at nd;rcases rW.mp h1 with e1|h1 <;> rcases rW.mp h2 with e2|h2
  .cases e1;cases e2;rfl
  .cases e1;exact absurd (WO h2).1 nd.1
  .cases e2;exact absurd (WO h1).1 nd.1
  .exact BN nd.2 h1 h2
def u7 {as:acL} {H:Hp} {a:ID} {o:HO} (h:a∈as):aK as (upd H a o)=aK as H:=by
 funext b
 unfold aK;split
 .rfl
 .rename_i hb;exact aP fun z=>hb (by rw [z];exact h)
def DI.mutate {K:aT} {as0 own:acL} {B H:Hp} {O:acG} {Z:St} {U:Sd} {i:Nat} {a:ID} {o':HO} {d':D} (I:DI K as0 B O own Z U H) (hi:(i,a)∈O.zip own) (h:ma K (aK (own++as0) H) o' d') :
  DI K as0 B O own Z (U.set i (some d')) (upd H a o'):=by
 have hm:a∈own++as0:=WX _ (WO hi).2;obtain ⟨d0,o0,h1,h2,h3,h4⟩:=I.owns i a hi;have Y:i < U.length:=(WD.mp h1).1;refine ⟨by simp [I.len],I.olen,I.nd,I.ond,I.fresh,I.ex0,fun b u e=>?_,fun j e hj q=>?_,fun j b hj=>?_⟩
 .have hb:b≠a:=fun z=>by
   have:=I.fresh a (WO hi).2
   rw [z,this] at e;cases e
  rw [aP hb];exact I.same b u e
 .have J:i≠j:=fun z=>hj (by rw [<- z];exact (WO hi).1);rw [getElem?_set',acB J] at q;rw [u7 hm];exact I.var j e hj q
 .rw [u7 hm];by_cases J:i=j
  .subst J
   have:=BN I.ond hi hj
   subst this;exact ⟨d',o',by rw [getElem?_set',acA rfl,acA Y],h2,aS,h⟩
  .obtain ⟨d,u,q1,q2,q3,q4⟩:=I.owns j b hj;have L:b≠a:=fun z=>J (by rw [z] at hj;exact zip_inj I.nd hi hj);exact ⟨d,u,by rw [getElem?_set',acB J];exact q1,q2,by rw [aP L];exact q3,q4⟩
section
variable {X:Cx} {W:Wd} {Ob O O':acG} {e:W3} {ε ψ:FE} {pos p1 p2 apos cpos:Pos} {x:Str}
def sw (K:aT) {i:Nat} (hi:i∈O) (hb:JE X e (tD W O ψ)) (hN:X.N[i]?=some x:=by rfl) (hs:qe e:=by exact fun _ _=>rfl) (Y:yH X.env.scope x:=by walk_at"v") (hd:acP x:=by decide)
  (hcd:(x==("__classdict__":Str))=false:=by decide) (hK:X.K=K:=by rfl) (hW:W.K=K:=by rfl):JE X (.Subscript (.Name x p1) e pos) (tD W O (aw bT (ah i) ψ)) :=
 (Ov (Wl K hK) (jv i hN Y hd hcd) hb hs).imp fun Z H Q hh=>eG hh fun as0 B own U I h=>by
  obtain ⟨a,ha⟩:=cJ I.olen hi;obtain ⟨d,o,h1,h2,h3,h4⟩:=I.owns i a ha;have e0:A7 (Oa K) (vM i) (tD W O ψ) Z H Q=rV Z[i]? H (S6 (Oa K) (tD W O ψ) Z Q):=rfl;rw [e0,h2];have Y:ah i U=.ok d:=by unfold ah;rw [h1]
  have h':cK W (own++as0) H ((ψ U).bind fun y=>bT d y) Q:=by
   have e:aw bT (ah i) ψ U=(ψ U).bind fun y=>bT d y:=by unfold aw;rw [Y];rfl
   rw [<- e];exact h
  refine ⟨as0,B,own,U,I,bU h' fun y u H2 s2 d2 L=>?_⟩;subst hW;cases d with
  | lst ds =>
   obtain ⟨xs,rfl,q⟩:=h4;cases y with
   | int k =>
    cases d2;have J:cK W (own++as0) H2 (match atI ds k with|some d=>.ok d|none=>.no) Q:=L
    cases q3:atI ds k with
    | none=>rw [q3] at J;exact J.elim
    | some d' =>
     rw [q3] at J;obtain ⟨v,e1,e2⟩:=q.atI q3;exact ⟨xs,v,.inl (gp.of (s2 _ _ h3)),e1,aR J (e2.mono (aV s2))⟩
   | _=>exact L.elim
  | _=>first|exact h4.elim|(cases y <;> exact L.elim)
def xX (K:aT) {i:Nat} (hi:i∈O) (hm:X.mg "len"=none) (hN:X.N[i]?=some x:=by rfl) (hg:Gl X "len":=by rfl) (J:yH X.env.scope x:=by walk_at"v") (hd:acP x:=by decide)
  (L:(x==("__classdict__":Str))=false:=by decide) (hK:X.K=K:=by rfl) (hW:W.K=K:=by rfl):JE X (.Call (.Name "len" p2) [.Name x p1] [] pos) (tD W O (ao cy (ae (ah i) ap))) :=
 (xh (oP K hK) hm dl (oB (jv i hN J hd L) rS) hg).imp fun Z H Q hh=>eG hh fun as0 B own U I h=>by
  obtain ⟨a,ha⟩:=cJ I.olen hi;obtain ⟨d,o,h1,h2,h3,Y⟩:=I.owns i a ha;show rV Z[i]? H _;rw [h2];have J:ah i U=.ok d:=by unfold ah;rw [h1]
  have h':cK W (own++as0) H (cy [d]) Q:=by
   have e:ao cy (ae (ah i) ap) U=cy [d]:=by unfold ao ae ap;rw [J];rfl
   rw [<- e];exact h
  cases d with
  | lst ds =>
   obtain ⟨xs,rfl,q⟩:=Y;refine ⟨xs,.inl (gp.of h3),?_⟩;rw [<- q.len];exact aR h' rfl
  | _=>first|exact Y.elim|exact h'.elim
def cZ (i:Nat) (ε:FE):FS:=fun U=>match U[i]? with
 | some (some (.lst xs))=>(ε U).bind fun d=>if xs.length < 1000000 then .ok (.nx (U.set i (some (.lst (xs++[d]))))) else .no
 | _=>.no
def dg {i:Nat} (hi:i∈O) (he:JE X e (tD W O ε)) (hN:X.N[i]?=some x:=by rfl) (hn:ba e=true:=by rfl) (L:(apos.endLine==cpos.line)=true:=by rfl) (hv:yH X.env.scope x:=by walk_at"v") (hd:acP x:=by decide)
  (hcd:(x==("__classdict__":Str))=false:=by decide) (J:Xa (.Name x p1) "append" X.env (eval (.Name x p1) X.env)=eval (.Name x p1) X.env:=by rfl)
  (hs:YL (.Call (.Attribute (.Name x p1) "append" apos) [e] [] cpos) none pos.line X.env=pure false:=by rfl) (hW:W.K=X.K:=by rfl) :
  JS X (.Expr (.Call (.Attribute (.Name x p1) "append" apos) [e] [] cpos) pos) (sD W Ob O O (cZ i ε)) :=
 (xQ (JK YE PySem.F.slot_list_append PySem.F.type_list_append vT (jv i hN hv hd hcd) (oB he rS hn) J L (by rw [XI,hn];rfl) (by show 1 < 29;decide)) hs).imp fun D Z H hh=>eG hh fun as0 B own U I h=>by
  obtain ⟨a,ha⟩:=cJ I.olen hi;obtain ⟨d,o,h1,h2,h3,h4⟩:=I.owns i a ha;have e0:CH (U1 X.K "list" xG (vM i) (wG (tD W O ε) DU)) D Z H=rV Z[i]? H (fun x H1=>N7 X.K "list" x H1/\wG (tD W O ε) DU Z H1 fun vs H2=>xG x vs H2 (fun _ H3=>D.nx Z H3)):=rfl;rw [e0,h2];unfold cZ at h;rw [h1] at h;cases d with
  | lst ds =>
   obtain ⟨xs,rfl,q⟩:=h4;refine ⟨.inl ⟨rfl,xs,gp.of h3⟩,as0,B,own,U,I,dF I h fun y v H2 Y d2 hq=>?_⟩;split at hq
   .rename_i hl;refine ⟨a,xs,v,rfl,rfl,Y _ _ h3,?_,?_⟩
    .have:=dL;rw [<- q.len];omega
    .exact hq own Z _ ((I.mono Y).mutate ha ⟨xs++[v],rfl,(q.mono (aV Y)).append (aM.cons d2 aM.nil)⟩)
   .exact hq.elim
  | _=>exact h.elim
end
end L2
namespace L2
open PySem PySem.Builtin
section
variable {prog:Ww} {w:WU} {A:WN} {E:acJ} {s:gs}
def qo {it l:ID} {i:Nat} {items} {x:dO} {Q:acJ} (I:s.heap.IsTupleIter it l i)
  (hl:s.heap.IsTuple l items) (hx:items[i]?=some x)
  (hQ:∀ h',h'.IsTupleIter it l (i+1)->ZA it s.heap h'->Q x { s with heap:=h' }) :
  Wv (Wx prog w) A (Yw (.ref it)) Q E s:=by
 obtain ⟨o,J,hc,hd⟩:=id I;obtain ⟨ol,Y,_,nl,L⟩:=hl;unfold Yw;refine bY (XN (name:=WV "__next__") I.typeIs F.slot_tuple_iterator_next
  (Xz F.slot_tuple_iterator_next I.typeIs F.entry_tuple_iterator_next ?_ (F.args_tuple_iterator_next_1 _)))
 show Wv _ _ (field (.ref it) 0 >>= _) _ _ s;refine bY (Yi J hd (x:=.ref l) rfl ?_);show Wv _ _ (if (WW l==Xm)=true then _ else _) _ _ s;rw [acB (show ¬ ((WW l==Xm)=true) from iF)];show Wv _ _ (field (.ref it) 1 >>= _) _ _ s;refine bY (Yi J hd (x:=.int i 0) rfl ?_);show Wv _ _ (seqItems? (.ref l) >>= _) _ _ s;refine bY (wpAny_seqItems Y L ?_);simp only [WH,hx];refine bY (Zy J hd (by simp) (CT ⟨x,rfl,CT (hQ _ ?_ (XX ..))⟩));exact ⟨_,ZC _ J (ZD (Yq hd _)),(Obj.cls_mapFields ..).trans hc,by
  rw [Yq hd];simp [abj]⟩
def rC {it l:ID} {i:Nat} {items} {Q:acJ} (hh:A.handled=none)
  (I:s.heap.IsTupleIter it l i) (hl:s.heap.IsTuple l items) (hx:items[i]?=none)
  (hE:∀ h' e,Heap.ExtBut it s.heap h'->(∃ o,h'.get? e=some o/\o.cls=.type "StopIteration")->E (.ref e) { s with heap:=h' }) :
  Wv (Wx prog w) A (Yw (.ref it)) Q E s:=by
 obtain ⟨o,L,hc,hd⟩:=id I;obtain ⟨ol,Y,_,nl,J⟩:=hl;unfold Yw;refine bY (XN (name:=WV "__next__") I.typeIs F.slot_tuple_iterator_next
  (Xz F.slot_tuple_iterator_next I.typeIs F.entry_tuple_iterator_next ?_ (F.args_tuple_iterator_next_1 _)))
 show Wv _ _ (field (.ref it) 0 >>= _) _ _ s;refine bY (Yi L hd (x:=.ref l) rfl ?_);show Wv _ _ (if (WW l==Xm)=true then _ else _) _ _ s;rw [acB (show ¬ ((WW l==Xm)=true) from iF)];show Wv _ _ (field (.ref it) 1 >>= _) _ _ s;refine bY (Yi L hd (x:=.int i 0) rfl ?_);show Wv _ _ (seqItems? (.ref l) >>= _) _ _ s;refine bY (wpAny_seqItems Y J ?_);simp only [WH,hx];refine bY (YO (bY (Zy L hd (by simp) ?_)));show Wv _ _ (newExc (.type "StopIteration") [] >>= _) _ _ _;refine bY ?_;simp only [newExc,newTuple];refine bY (Xk ?_ (by size_fits));refine bY (m:=aak _ _) (Zd (a:=Xm) (by first|rfl|(simp only [aak];rfl)) ?_);refine Xk ?_ (by size_fits);simp only [raiseNew];refine bY (wpAny_handled ?_)
 first|rw [show A.in1.handled=none from hh]|rw [hh]
 refine bY (CT (wpAny_throw ?_));exact hE _ _ (((XX ..).extBut.push _).push _) ⟨_,Wr _ rfl,rfl⟩
end
def zK {prog:Ww} {w:WU} {A:WN} (hh:A.handled=none) (it l:ID) (L:l≠it) (items:Array dO) :
  Draws prog w A it [it,l] items.size (fun i v=>items[i]?=some v) (fun i h=>h.IsTupleIter it l i/\h.IsTuple l items) where
 live:=fun _ _ st=>let ⟨o,ho,_⟩:=st.1;⟨o,ho⟩
 frame:=fun _ _ _ st Y=>⟨(let ⟨o,e,r⟩:=st.1;⟨o,Y it (by simp) o e,r⟩),by
  obtain ⟨o,e,r⟩:=st.2;exact ⟨o,Y l (by simp) o e,r⟩⟩
 item:=fun i s Q E hi st hQ=>by
  refine qo st.1 st.2 (x:=items[i]) (by simp [hi]) fun h' J I=>?_;refine hQ _ h' s.toks (by simp [hi]) ⟨J,?_⟩ I;obtain ⟨o,e,r⟩:=st.2;exact ⟨o,I.extBut l o L e,r⟩
 done:=fun s Q E st hE=>rC hh st.1 st.2 (by simp) hE
def FP (a:dO) (o:Obj) (h:Yy):Prop:=∀ (prog:Ww) (w:WU) (A:WN) (s:gs) (Q:acJ) (E:acJ),(∀ b u,h.get? b=some u->s.heap.get? b=some u)->Q (.ref s.heap.objs.size) { s with heap:=s.heap.push o }->Wv (Wx prog w) A (acs a) Q E s
def yW (a:dO) (I:Obj) :
  Meets (Builtin.«enumerate.__new__» ⟨[.type "enumerate",a],[]⟩) (fun _ R s=>FP a I s.heap /\
   R (.ok (.ret (.ref (s.heap.push I).objs.size))) { s with heap:=(s.heap.push I).push { cls:=.type "enumerate",data:=.fields #[.none,.bool false,.ref s.heap.objs.size,abj 0,.none,.none] } }) :=
 .of_wp fun prog w A R s h=>by
  obtain ⟨J,g,d,tk,os⟩:=s;obtain ⟨L,h⟩:=h;have Y:=sub_enumerate;have p1:∀ {A:WN} {Q:acJ} {E:acJ},Q (.ref J.objs.size) ⟨J.push I,g,d,tk,os⟩->Wv (Wx prog w) A (acs a) Q E ⟨J,g,d,tk,os⟩:=fun {A Q E} q=>L prog w A ⟨J,g,d,tk,os⟩ Q E (fun _ _ e=>e) q
  wp_walk
  refine wpAny_stack_any fun st=>CT ?_;split
  .rename_i c _ _ _ _ _;cases (c==ZN "enumerate")
   .wp_walk using p1
    exact ⟨_,rfl,h⟩
   .wp_walk using p1
    exact ⟨_,rfl,h⟩
  .wp_walk using p1
   exact ⟨_,rfl,h⟩
section
variable {prog:Ww} {w:WU} {A:WN} {E:acJ} {s:gs}
def Bp {a:dO} {I:Obj} {Q:acJ} (Y:FP a I s.heap) (f1:I.isFreed=false)
  (h:∀ h',IsEnum h' (s.heap.objs.size+1) s.heap.objs.size 0 .none->h'.get? s.heap.objs.size=some I->h'.objs.size=s.heap.objs.size+2 ->
   (∀ b o,s.heap.get? b=some o->h'.get? b=some o)->Q (.ref (s.heap.objs.size+1)) { s with heap:=h' }) :
  Wv (Wx prog w) A (call (.type "enumerate") [a]) Q E s:=by
 refine callType_new F.called_enumerate (by decide) (F.typeCall_enumerate_1 _) (F.newCall_enumerate_1 _) (fun J=>F.args_object_init_2 J _) F.entry_enumerate_new
  (yW a I) ⟨Y,?_⟩
 have hz:(s.heap.push I).objs.size=s.heap.objs.size+1:=aad ..;show _/\_;rw [hz];have L:IsEnum ((s.heap.push I).push
   { cls:=.type "enumerate",data:=.fields #[.none,.bool false,.ref s.heap.objs.size,abj 0,.none,.none] }) (s.heap.objs.size+1) s.heap.objs.size 0 .none:=by
  have:=Wr (s.heap.push I)
   (o:={ cls:=.type "enumerate",data:=.fields #[.none,.bool false,.ref s.heap.objs.size,abj 0,.none,.none] }) rfl
  rw [hz] at this;exact this
 refine ⟨⟨_,L,rfl⟩,h _ L (lT _ (Wr _ f1)) (by rw [aad,hz]) fun b o x=>lT _ (lT _ x)⟩
end
end L2
namespace L2
open PySem PySem.Spec PyProof.Rows
def fR {ix:List (Option Nat)} {O:acG} (h:(ix.all fun o=>match o with|some k=>decide (k∉O)|none=>true)=true):∀ j∈ix,∀ k,j=some k->k∉O:=fun j hj k e=>by
 have:=X4.mp h j hj
 subst e;exact acE this
def CQ {X:Cx} {af:acI} {Z:St} {H:Hp} {s:gs} {a:ID} (I:Inv X af Z H s) (h:H a≠none\/∃ o,X.K.lookup a=some o):¬ iu X af H a:=fun f=>by
 rcases h with h|⟨o,h⟩
 .exact h f.1
 .have e:=I.ok.mod.kin a o h;rcases f.2.2.2.1 with z|z
  .exact I.ok.noex a o e z
  .exact absurd (WE (Wt e) (IF I.ok.bsz z)) (YC _)
def CA {H:Hp} {a:ID} {u:HO} (h:Rd H a u):H a≠none:=by
 rcases h with h|⟨o,h⟩ <;> rw [h] <;> simp
def BX {K:aT} {H:Hp} {a:ID} {xs:acN} (h:gp K H a xs):H a≠none\/∃ o,K.lookup a=some o:=by
 rcases h with h|⟨o,_,_,h,_⟩
 .exact .inl (CA h)
 .exact .inr ⟨o,h⟩
def C0 {K:aT} {H:Hp} {a:ID} {xs:acN} (h:j3 K H a xs):H a≠none\/∃ o,K.lookup a=some o:=by
 rcases h with h|⟨o,_,_,h,_⟩
 .exact .inl (CA h)
 .exact .inr ⟨o,h⟩
structure Src (K:aT) (B:Hp) (xs:acN) (it:ID) (S:Nat->Yy->Prop):Prop where
 obj:∀ i h,S i h->∃ o,h.get? it=some o/\∀ v,o.data≠.cell v
 keep:∀ i h h',S i h->(∀ o,h.get? it=some o->h'.get? it=some o)->S i h'
 draw:∀ (X:Cx) (af:acI) (s:gs) (Z:St) (H:Hp),Inv X af Z H s->X.K=K->aC B H->iu X af H it->∀ A:WN,A.handled=none->∀ i,S i s.heap ->
  ∃ fp Pv St,Draws X.prog X.w A it fp xs.length Pv St/\St i s.heap/\it∈fp/\(∀ b∈fp,b=it\/¬ iu X af H b)/\(∀ j u,Pv j u->∃ x,xs[j]?=some x/\bg x u)/\∀ j h,St j h->S j h
def src_list {K:aT} {B:Hp} {xs:acN} {a it:ID} (hq:gp K B a xs):Src K B xs it (fun i h=>h.IsListIter it a i) where
 obj:=fun i h ⟨o,e,c,d⟩=>⟨o,e,fun v z=>by rw [d] at z;cases z⟩
 keep:=fun i h h' ⟨o,e,r⟩ k=>⟨o,k o e,r⟩
 draw:=fun X af s Z H I hK Y f A hA i st=>by
  subst hK;obtain ⟨its,L,pl,hz⟩:=I.list (Y.seq hq);have hne:a≠it:=fun z=>CQ I (BX (Y.seq hq)) (z ▸ f);have el:xs.length=its.toArray.size:=by rw [By];exact L.length
  refine ⟨_,_,_,el ▸ Draws.list hA it a hne its.toArray,⟨st,pl.isList⟩,by simp,fun b J=>?_,fun j u hu=>?_,fun j h st=>st.1⟩
  .rcases rW.mp J with e|J
   .exact .inl e
   .rw [Ws.mp J];exact .inr (CQ I (BX (Y.seq hq)))
  .have hu':its[j]?=some u:=by simpa using hu
   have hj:j < its.length:=(WD.mp hu').1;have hx:xs[j]?=some (xs[j]'(by rw [L.length];exact hj)):=by rw [oR]
   obtain ⟨u',h1,h2⟩:=L.get hx;rw [hu'] at h1;cases h1;exact ⟨_,hx,h2⟩
def src_tuple {K:aT} {B:Hp} {xs:acN} {a it:ID} (hq:j3 K B a xs):Src K B xs it (fun i h=>h.IsTupleIter it a i) where
 obj:=fun i h ⟨o,e,c,d⟩=>⟨o,e,fun v z=>by rw [d] at z;cases z⟩
 keep:=fun i h h' ⟨o,e,r⟩ k=>⟨o,k o e,r⟩
 draw:=fun X af s Z H I hK Y f A hA i st=>by
  subst hK;obtain ⟨its,L,pl,hz⟩:=I.tuple (Y.seqT hq);have hne:a≠it:=fun z=>CQ I (C0 (Y.seqT hq)) (z ▸ f);have el:xs.length=its.toArray.size:=by rw [By];exact L.length
  refine ⟨_,_,_,el ▸ zK hA it a hne its.toArray,⟨st,pl⟩,by simp,fun b J=>?_,fun j u hu=>?_,fun j h st=>st.1⟩
  .rcases rW.mp J with e|J
   .exact .inl e
   .rw [Ws.mp J];exact .inr (CQ I (C0 (Y.seqT hq)))
  .have hu':its[j]?=some u:=by simpa using hu
   have hj:j < its.length:=(WD.mp hu').1;have hx:xs[j]?=some (xs[j]'(by rw [L.length];exact hj)):=by rw [oR]
   obtain ⟨u',h1,h2⟩:=L.get hx;rw [hu'] at h1;cases h1;exact ⟨_,hx,h2⟩
def signs_get {z:Str} {j:Nat} {u:dO} (h:∃ c t,z.cps[j]?=some c/\u=.str ⟨#[c]⟩ t):∃ x,(pM z)[j]?=some x/\bg x u:=by
 obtain ⟨c,t,h1,rfl⟩:=h;refine ⟨.str ⟨#[c]⟩,?_,⟨t,rfl⟩⟩;rw [W4,Xf,h1];rfl
def EE {K:aT} {B:Hp} {z:Str} {t:Tok} {it:ID}:Src K B (pM z) it (fun i h=>h.IsStrIter it "str_ascii_iterator" z t i) where
 obj:=fun i h ⟨o,e,c,d⟩=>⟨o,e,fun v z=>by rw [d] at z;cases z⟩
 keep:=fun i h h' ⟨o,e,r⟩ k=>⟨o,k o e,r⟩
 draw:=fun X af s Z H I hK sB f A hA i st=>by
  have Y:(pM z).length=z.cps.size:=by simp
  exact ⟨_,_,_,Y ▸ Draws.strAscii hA it z t,st,by simp,fun b J=>.inl (by simpa using J),fun j u L=>signs_get L,fun j h st=>st⟩
def Gq {K:aT} {B:Hp} {z:Str} {t:Tok} {it:ID}:Src K B (pM z) it (fun i h=>h.IsStrIter it "str_iterator" z t i) where
 obj:=fun i h ⟨o,e,c,d⟩=>⟨o,e,fun v z=>by rw [d] at z;cases z⟩
 keep:=fun i h h' ⟨o,e,r⟩ k=>⟨o,k o e,r⟩
 draw:=fun X af s Z H I hK sB f A hA i st=>by
  have Y:(pM z).length=z.cps.size:=by simp
  exact ⟨_,_,_,Y ▸ Draws.strWide hA it z t,st,by simp,fun b J=>.inl (by simpa using J),fun j u L=>signs_get L,fun j h st=>st⟩
def Oz (K:aT) (H:Hp) (x:V) (xs:acN):Prop:=(∃ z,x=.str z/\xs=pM z)\/(∃ a,x=.ref a/\gp K H a xs)\/∃ a,x=.ref a/\j3 K H a xs
def L4 {X:Cx} {af:acI} {Z:St} {H B:Hp} {s:gs} {x:V} {u:dO} {xs:acN} (I:Inv X af Z H s) (r:bg x u) (Y:aC B H) (h:Oz X.K B x xs) :
  ∃ (o:Obj) (S:ID->Nat->Yy->Prop),FP u o s.heap/\o.isFreed=false/\(∀ it h,h.get? it=some o->S it 0 h)/\∀ it,Src X.K B xs it (S it):=by
 rcases h with ⟨z,rfl,rfl⟩|⟨a,rfl,J⟩|⟨a,rfl,J⟩
 .obtain ⟨t,rfl⟩:=r;cases ha:z.cps.all (· < 128)
  .exact ⟨{ cls:=.type "str_iterator",data:=.fields #[.str z t,.int 0 0] },fun it i h=>h.IsStrIter it "str_iterator" z t i,fun prog w A s Q E _ q=>wpAny_pyIter_wide ha q,rfl,fun it h e=>⟨_,e,rfl,rfl⟩,fun it=>Gq⟩
  .exact ⟨{ cls:=.type "str_ascii_iterator",data:=.fields #[.str z t,.int 0 0] },fun it i h=>h.IsStrIter it "str_ascii_iterator" z t i,fun prog w A s Q E _ q=>wpAny_pyIter_ascii ha q,rfl,fun it h e=>⟨_,e,rfl,rfl⟩,fun it=>EE⟩
 .cases r;obtain ⟨its,rv,L,hz⟩:=I.list (Y.seq J);exact ⟨{ cls:=.type "list_iterator",data:=.fields #[.ref a,.int 0 0] },fun it i h=>h.IsListIter it a i,fun prog w A s Q E k q=>wpAny_pyIter_list (L.keeps k).isList q,rfl,fun it h e=>⟨_,e,rfl,rfl⟩,fun it=>src_list J⟩
 .cases r;obtain ⟨its,rv,L,hz⟩:=I.tuple (Y.seqT J);refine ⟨{ cls:=.type "tuple_iterator",data:=.fields #[.ref a,.int 0 0] },fun it i h=>h.IsTupleIter it a i,fun prog w A s Q E k q=>?_,rfl,fun it h e=>⟨_,e,rfl,rfl⟩,fun it=>src_tuple J⟩;obtain ⟨o,e,r⟩:=L;exact wpAny_pyIter_tuple (items:=its.toArray) ⟨o,k _ _ e,r⟩ q
def Inv.turnedT {X:Cx} {af:acI} {Z:St} {H:Hp} {s:gs} {h':Yy} {t':Nat} {ch:acL} {T:ID} {ys:acN} {us:acM} (I:Inv X af Z H s) (hf:∀ b∈ch,iu X af H b) (k:∀ b o,b∉ch->s.heap.get? b=some o->h'.get? b=some o) (hT:s.heap.objs.size<=T)
  (hl:ys.length<=Wp) (rv:bf ys us) (isT:Zs h' T us.toArray) (ht:X.tn<=t':=by walk_at "tok"):Inv X af Z (upd H T (.tup ys)) { s with heap:=h',toks:=t' }:=by
 have hn:H T=none:=I.hok.fresh hT;have Y:∀ b u,H b=some u->b∉ch:=fun b u e z=>by rw [(hf b z).1] at e;cases e
 refine I.step (g':=s.gens) (d':=s.drawn) (ch:=ch) (fun b J=>⟨(hf b J).2.2.2.1,(hf b J).2.1,(hf b J).2.2.2.2.1,(hf b J).2.2.2.2.2⟩) (fun b o _ _ L e _=>k b o L e) (fun b o _ _ L e _=>⟨o.slots,k b o L e⟩) (fun b o _ e n=>?_)
  (fun b o L e=>⟨o,k b o L e⟩) (fun b xs e=>?_) (fun b o u e=>?_) (fun b ps e=>⟨#[],?_⟩) (fun m hm=>?_) (fun b u e=>?_) I.bare
 .rw [aP (WK (WE (Wt e) hT))];exact n
 .rw [aP (bH e hn)];exact e
 .rw [aP (bH e hn)];exact e
 .rw [aP (bH e hn),e];simp
 .obtain ⟨o,es,ep,ho,r⟩:=hm;exact ⟨o,es,ep,k _ o (fun z=>(hf _ z).2.1 rfl) ho,r⟩
 .by_cases J:b=T
  .subst J;rw [aS] at e;cases e;exact ⟨hl,us,rv,isT⟩
  .rw [aP J] at e;refine (I.hok b u e).stay (fun c v L q=>k c v ?_ q) (fun c q=>by rw [aP (bH q hn)];exact q) fun c xs q=>by rw [aP (bH q hn)];exact q
   rcases L with z|z
   .rw [z];exact Y b u e
   .exact Y c _ z
def K8 (B:Hp) (n:Nat) (Pv:Nat->V->V->Prop):It :=
 ⟨fun i H=>aC B H/\i < n,fun i H v H'=>∃ p x y,H p=none/\H'=upd H p (.tup [x,y])/\v=.ref p/\Pv i x y,fun i H=>aC B H/\i=n⟩
def Ef {P:Ww} {w:WU} {K:aT} {B:Hp} {xs:acN} {e it:ID} {S:Nat->Yy->Prop} {elts:List W3} {k:Nat} {pos:Pos} (s1:Src K B xs it S) (ne:e≠it) :
  Turn P w K (.Tuple elts k pos) (K8 B xs.length fun i x y=>x=.int (i:Int)/\xs[i]?=some y) [e,it] e (fun i h=>(∃ Y,IsEnum h e it (i:Int) Y)/\S i h):=by
 have nof:∀ {X:Cx} {af:acI} {H:Hp} {fp:acL},(∀ b∈[e,it],iu X af H b)->(∀ b∈fp,b=it\/¬ iu X af H b)->e∉fp:=fun hf h1 m=>(h1 e m).elim ne fun q=>q (hf e (by simp));refine ⟨by simp,fun i h st b J=>?_,fun i h h' st kk=>?_,?_,?_,fun A i s Q E st q=>let ⟨⟨Y,he⟩,_⟩:=st;wpAny_pyIter_enum he q⟩
 .obtain ⟨⟨Y,he⟩,h1⟩:=st;simp only [rW,aaU,or_false] at J;rcases J with rfl|rfl
  .exact ⟨_,he,fun v q=>by cases q⟩
  .exact s1.obj i h h1
 .obtain ⟨⟨Y,he⟩,h1⟩:=st;exact ⟨⟨Y,kk e (by simp) _ he⟩,s1.keep i h h' h1 fun o q=>kk it (by simp) o q⟩
 .intro X hP hw hK L i af s Z H E I hf st hg;subst hP hw;obtain ⟨he,h1⟩:=st;obtain ⟨sB,hi⟩:=hg;have hh:X.A.in1.handled=none:=I.ok.hd L;obtain ⟨fp1,P1,St1,D1,st1,m1,n1,p1,b1⟩:=s1.draw X af s Z H I hK sB (hf it (by simp)) X.A.in1 hh i h1;have W:=ab0 D1 e ne (nof hf n1) m1;refine bo I.tk (W.item i s _ _ hi ⟨he,st1⟩ fun T vals h' tk pt hT isT mid k1 htk=>⟨.ref T,rfl,W.go elts k pos i T { s with heap:=h',toks:=tk } _ _ mid fun h'' st'' k2=>?_⟩);obtain ⟨t,u2,q2,rfl⟩:=pt;obtain ⟨y,hy,ry⟩:=p1 i u2 q2;obtain ⟨he',st1'⟩:=st'';have kk:∀ b o,b∉[e,it]->s.heap.get? b=some o->h''.get? b=some o:=fun b o J q=>k2 b o J (k1 b o J q);have hTn:H T=none:=I.hok.fresh hT;have lt:∀ {b o},s.heap.get? b=some o->b≠T:=fun q=>WK (WE (Wt q) hT);have isT':Zs h'' T [.int i t,u2].toArray:=by
   obtain ⟨o,q,r⟩:=isT;exact ⟨o,k2 T o (W.apart i T _ mid) q,r⟩
  refine ⟨.ref T,upd H T (.tup [.int (i:Int),y]),I.turnedT (t':=tk) (ch:=[e,it]) hf kk hT (by show 2<=Wp;decide) (.cons ⟨t,rfl⟩ (.cons ry .nil)) isT',rfl,⟨T,_,y,hTn,rfl,rfl,rfl,hy⟩,⟨he',b1 _ _ st1'⟩,fun b J=>?_⟩;have hbT:b≠T:=by
   simp only [rW,aaU,or_false] at J;rcases J with rfl|rfl
   .obtain ⟨_,q⟩:=he;exact lt q
   .obtain ⟨_,q,_⟩:=s1.obj _ _ h1;exact lt q
  rw [aP hbT];exact (hf b J).1
 .intro X hP hw hK L i af s Z H E I hf st hg;subst hP hw;obtain ⟨he,h1⟩:=st;obtain ⟨sB,hi⟩:=hg;have hh:X.A.in1.handled=none:=I.ok.hd L;obtain ⟨fp1,P1,St1,D1,st1,m1,n1,p1,b1⟩:=s1.draw X af s Z H I hK sB (hf it (by simp)) X.A.in1 hh i h1;have W:=ab0 D1 e ne (nof hf n1) m1;subst hi;refine bo I.tk (W.done s _ _ ⟨he,st1⟩ fun h' tk kk htk=>⟨rfl,?_⟩);have nch:∀ b u,H b=some u->b∉[e,it]:=fun b u q m=>by
   have:=(hf b m).1
   rw [this] at q;cases q
  refine I.step (g':=s.gens) (d':=s.drawn) (ch:=[e,it]) (fun b J=>?_) (fun b o _ _ L q _=>kk b o L q) (fun b o _ _ L q _=>⟨o.slots,kk b o L q⟩) (fun _ _ _ _ n=>n)
   (fun b o L q=>⟨o,kk b o L q⟩) (fun _ _ q=>q) (fun _ _ _ q=>q) (fun b ps q=>⟨#[],by rw [q];simp⟩) (fun m hm=>?_) (fun b u q=>?_) I.bare
  .have f:=hf b J;exact ⟨f.2.2.2.1,f.2.1,f.2.2.2.2.1,f.2.2.2.2.2⟩
  .obtain ⟨o,es,ep,ho,r⟩:=hm;exact ⟨o,es,ep,kk _ o (fun q=>(hf _ q).2.1 rfl) ho,r⟩
  .refine (I.hok b u q).stay (fun c v L z=>kk c v ?_ z) (fun _ z=>z) fun _ _ z=>z;rcases L with z|z
   .rw [z];exact nch b u q
   .exact nch c _ z
def A5 {K:aT} {as0:acL} {B:Hp} {n:Nat} {Pv:Nat->V->V->Prop} {zs:acO} (hn:n=zs.length) (h:∀ i x y,i < n->Pv i x y->∃ dx I,zs[i]?=some (.tup [dx,I])/\di K (aK as0 B) dx x/\di K (aK as0 B) I y):GivesD K as0 B (K8 (aK as0 B) n Pv) zs where
 go:=fun i H s hi=>⟨s,by rw [hn];exact hi⟩
 yl:=fun i H v H2 M s hM hM2 hi ⟨p,x,y,hp,e,ev,hv⟩=>by
  subst e ev;obtain ⟨dx,I,Y,d1,d2⟩:=h i x y (by rw [hn];exact hi) hv;have J:p∉M:=fun z=>hM p z hp;have L:aC (aK as0 B) (aK M (upd H p (.tup [x,y]))):=(hJ s hM2).trans (aV (aX hp _));exact ⟨aX hp _,_,Y,p,[x,y],rfl,.inl (.inl (by rw [aW J];exact aS)),aM.cons (d1.mono L) (aM.cons (d2.mono L) aM.nil)⟩
 stop:=fun H s=>⟨s,hn.symm⟩
def Jb {K:aT} {H:Hp} {d:D} {v:V} {xs:acO} (h:di K H d v) (e:pN d=.ok xs):∃ vs,Oz K H v vs/\aM K H xs vs:=by
 cases d with
 | lst ds=>cases e;obtain ⟨a,vs,rfl,J,I⟩:=h;exact ⟨vs,.inr (.inl ⟨a,rfl,J⟩),I⟩
 | tup ds=>cases e;obtain ⟨a,vs,rfl,J,I⟩:=h;exact ⟨vs,.inr (.inr ⟨a,rfl,J⟩),I⟩
 | str z =>
  cases e;cases h;refine ⟨pM z,.inl ⟨z,rfl,rfl⟩,?_⟩;show aM K H (z.cps.toList.map fun c=>D.str ⟨#[c]⟩) (z.cps.toList.map fun c=>V.str ⟨#[c]⟩);generalize z.cps.toList=cs;induction cs with
  | nil=>exact rfl
  | cons c r L=>exact ⟨_,_,rfl,rfl,L⟩
 | _=>cases e
def cA:Nat->acO->acO
 | _,[]=>[]
 | n,x::r=>.tup [.int (n:Int),x]::cA (n+1) r
theorem qx:∀ (n:Nat) (xs:acO),(cA n xs).length=xs.length
 | _,[]=>rfl
 | n,x::r=>by unfold cA;simp [qx (n+1) r]
def qM:∀ (n:Nat) (xs:acO) (i:Nat),(cA n xs)[i]?=xs[i]?.map fun x=>.tup [.int ((n+i:Nat):Int),x]
 | _,[],i=>by simp [cA]
 | n,x::r,0=>by simp [cA]
 | n,x::r,i+1=>by
  unfold cA;rw [aaJ,qM (n+1) r i,aaJ];have e:n+1+i=n+(i+1):=by omega
  rw [e]
def wF (ds:acO):R (acO):=match ds with
 | [a]=>(pN a).bind fun xs=>.ok (cA 0 xs)
 | _=>.no
def gL (α:FA):FA:=fun U=>(α U).bind wF
section
variable {X:Cx} {W:Wd} {O:acG} {α:FA} {elts:List W3} {k:Nat} {p pos tpos:Pos}
def qd {a:W3} (hm:X.mg "enumerate"=none) (ha:JA X [a] (xC W O α)) (hg:Gl X "enumerate":=by rfl) (h1:ba a=true:=by rfl) (hW:W.K=X.K:=by rfl) :
  JI X (.Tuple elts k tpos) (.Call (.Name "enumerate" p) [a] [] pos) (iD W O (gL α)):=⟨fun af s Z H R I ⟨as0,B,own,U,DIh,h⟩=>by
 refine XM (nA I hg hm xP ?_ (by decide) (by decide));refine XH (cU (ha.out pos af s Z H (fun vs H1=>aC H H1/\∃ ds,aM W.K (aK (own++as0) H1) ds vs/\ju W as0 own H1 (wF ds) R) I ⟨as0,B,own,U,DIh,kg h fun ds vs H1 s1 d1 L=>⟨s1,ds,d1,L⟩⟩) fun us s1 hh=>nY hh fun vs H1 I1 r1 q1=>?_) (c7 h1) rfl;obtain ⟨sH,ds,dv,L⟩:=q1;unfold wF at L;split at L
 .rename_i da;obtain ⟨va,rfl,Y⟩:=gq dv;cases e1:pN da with
  | no=>rw [e1] at L;exact L.elim
  | er x=>cases da <;> cases e1
  | ok xs =>
   rw [e1] at L;have L:∀ J H',aC H1 H'->GivesD W.K as0 (aK own H') J (cA 0 xs)->R J H':=L;obtain ⟨u1,rfl,ru1⟩:=jA r1;rw [lJ] at Y;obtain ⟨xv,sv1,dn1⟩:=Jb Y e1;rw [hW] at sv1 dn1;have sB:aC (aK as0 (aK own H1)) H1:=(az _ _).trans (az _ _);obtain ⟨o1,S1,it1,fr1,st1,src1⟩:=L4 I1 ru1 sB sv1;refine Bp it1 fr1 fun h' he g1 hsz kp=>?_;refine wpAny_pyIter_enum he ?_;refine ⟨s1.heap.objs.size+1,_,_,_,H1,rfl,I1.kept (t':=s1.toks) kp,Ef (P:=X.prog) (w:=X.w) (src1 s1.heap.objs.size) (e:=s1.heap.objs.size+1) (Nat.succ_ne_self _),⟨⟨_,he⟩,st1 _ _ g1⟩,fun b hb=>?_,L _ H1 (aC.refl _) ?_⟩
   .have hb':s1.heap.objs.size<=b:=by
     simp only [rW,aaU,or_false] at hb;rcases hb with rfl|rfl <;> first|exact Nat.le_add_right _ _|exact mK _
    exact I1.fpOk hb' (I1.hok.fresh hb')
   .rw [hW];refine A5 ?_ fun i x y hi hv=>?_
    .rw [qx,dn1.len]
    .obtain ⟨rfl,hv⟩:=hv;obtain ⟨dy,q3,q4⟩:=dn1.got hv;refine ⟨.int (i:Int),dy,?_,rfl,q4⟩;rw [qM,q3,Yr];rfl
 .exact L.elim⟩
end
def F9 (K:aT) (F:acO->R D):Sp:=fun vs H Q E=>∀ mg,eF K mg F vs H Q E
def Ig {P:Ww} {w:WU} {K:aT} {mg:acK} {k:Nat} {I:ID} {ps:acH} {F:acO->R D} {C:W2->Prop}
  (h:∃ fd:W2,C fd/\∀ base:Yy,K.In base->base.Ns WJ mg->FnOk P w K mg base cP k I fd ps (eF K mg F)) :
  ∃ fd:W2,C fd/\∀ base:Yy,K.In base->base.Ns WJ mg->FnOk P w K mg base cP k I fd ps (F9 K F):=by
 obtain ⟨fd,h1,h2⟩:=h;exact ⟨fd,h1,fun base L J=>(h2 base L J).imp fun vs H Q E q=>q mg⟩
def Kl {K:aT} {a:ID} {ns:List Int} {H:Hp} {F:acO->R D} {Q:VK} {E:XK} (I:gp K H a (ns.map V.int)) (h:F [.lst (ns.map D.int)]=.ok (.bl true)) (q:∀ H',Q (.bl true) H'):F9 K F [.ref a] H Q E :=
 fun mg=>Nk I h q
def fin (r:R Fl):R D:=r.bind fun f=>match f with
 | .rt d=>.ok d
 | .rn d=>.ok d
 | .nx _=>.ok .non
 | _=>.no
section
variable {U:Sd} {d e:D} {x y:Str} {i j:Int} {b c:Bool} {φ ψ:FE} {τ υ:FT} {α:FA} {S T:FS}
def MV (T:FS) (f:Fl):R Fl:=match f with
 | .nx δ'=>T δ'
 | f=>.ok f
def KM:aB S T U=(S U).bind (MV T):=by
 unfold aB MV;cases S U with
 | ok f=>cases f <;> rfl
 | er x=>rfl
 | no=>rfl
def NQ:MV T (.nx U)=T U:=rfl
def UA (d:D):R Fl:=.ok (.rt d)
def Su:bh φ U=(φ U).bind UA:=rfl
def VR (S T:FS) (U:Sd) (b:Bool):R Fl:=if b=true then S U else T U
def Tc:gm τ S T U=(τ U).bind (VR S T U):=rfl
def OB:VR S T U b=if b=true then S U else T U:=rfl
def T3 (k:Nat) (U:Sd) (d:D):R Fl:=.ok (.nx (U.set k (some d)))
def PR {k:Nat}:aZ k φ U=(φ U).bind (T3 k U):=rfl
def Rp (k:Nat) (U:Sd) (d:D):R Fl:=if k < U.length then .ok (.nx (U.set k (some d))) else .no
def QJ {k:Nat}:jH k φ U=(φ U).bind (Rp k U):=rfl
def Rk {k:Nat}:Rp k U d=if k < U.length then .ok (.nx (U.set k (some d))) else .no:=rfl
def Sm (t:TgD) (S:FS) (U:Sd) (xs:acO):R Fl:=dm t S xs U
def Lk {t:TgD}:nR α t S U=(α U).bind (Sm t S U):=rfl
def Ld {t:TgD} {xs:acO}:Sm t S U xs=dm t S xs U:=rfl
def HF (t:TgD) (S:FS) (r:acO) (f:Fl):R Fl:=match f with
 | .nx δ2=>dm t S r δ2
 | .ct δ2=>dm t S r δ2
 | .bk δ2=>.ok (.nx δ2)
 | .rt d=>.ok (.rt d)
 | .rn d=>.ok (.rn d)
def Ll (t:TgD) (S:FS) (r:acO) (I:Sd):R Fl:=(S I).bind (HF t S r)
def zO {t:TgD} {r:acO}:dm t S (d::r) U=(fI t d U).bind (Ll t S r):=by
 show (fI t d U).bind _=_;congr 1
def Fv {t:TgD} {r:acO}:Ll t S r U=(S U).bind (HF t S r):=rfl
def Ce {t:TgD} {r:acO}:HF t S r (.nx U)=dm t S r U:=rfl
def P9 (r:R Fl):R D:=r.bind fun f=>match f with
 | .rn d=>.ok d
 | _=>.no
def Sl (d:D):R Fl:=.ok (.rn d)
def M6:B2 φ U=(φ U).bind Sl:=rfl
def Ew {k l:Nat}:fI (.tup [k,l]) (.tup [d,e]) U=.ok ((U.set k (some d)).set l (some e)):=rfl
def Ug (o:Option (Option D)):R D:=match o with
 | some (some d)=>.ok d
 | _=>.no
def v_var {k:Nat}:ah k U=Ug U[k]?:=rfl
def V3 (op:D->D->R D) (ψ:FE) (U:Sd) (x:D):R D:=(ψ U).bind (op x)
def Ue {op:D->D->R D}:aw op φ ψ U=(φ U).bind (V3 op ψ U):=rfl
def US {op:D->D->R D}:V3 op ψ U d=(ψ U).bind (op d):=rfl
def Q3 (ψ:FE) (U:Sd) (d:D):R D:=Jt d fun b=>if b=true then ψ U else .ok (.bl false)
def v_and:AZ φ ψ U=(φ U).bind (Q3 ψ U):=rfl
def Rn:Q3 ψ U (.bl b)=if b=true then ψ U else .ok (.bl false):=rfl
def Vk (ψ:FE) (U:Sd) (d:D):R D:=Jt d fun b=>if b=true then .ok (.bl true) else ψ U
def v_or:N6 φ ψ U=(φ U).bind (Vk ψ U):=rfl
def Vf:Vk ψ U (.bl b)=if b=true then .ok (.bl true) else ψ U:=rfl
def blK (d:D):R Bool:=Jt d .ok
def TL:bR φ U=(φ U).bind blK:=rfl
def OI:iC φ U=(φ U).bind Nj:=rfl
def Lh (υ:FT) (U:Sd) (b:Bool):R Bool:=if b=true then υ U else .ok false
def Lo:qy τ υ U=(τ U).bind (Lh υ U):=rfl
def Nt:Lh υ U b=if b=true then υ U else .ok false:=rfl
def SS (υ:FT) (U:Sd) (b:Bool):R Bool:=if b=true then .ok true else υ U
def RO:wu τ υ U=(τ U).bind (SS υ U):=rfl
def PZ:SS υ U b=if b=true then .ok true else υ U:=rfl
def S0 (b:Bool):R Bool:=.ok (!b)
def Qx:mR τ U=(τ U).bind S0:=rfl
def Qs (φ ψ:FE) (U:Sd) (b:Bool):R D:=if b=true then φ U else ψ U
def Ci:Lu τ φ ψ U=(τ U).bind (Qs φ ψ U):=rfl
def Dh:Qs φ ψ U b=if b=true then φ U else ψ U:=rfl
def QX:eR α U=(α U).bind yT:=rfl
def So:dt α U=(α U).bind C8:=rfl
def NH {ds:acO}:yT ds=if ds.length<=1000000 then .ok (.lst ds) else .no:=rfl
def NC {ds:acO}:C8 ds=if ds.length<=1000000 then .ok (.tup ds) else .no:=rfl
def LF {g:acO->R D}:ao g α U=(α U).bind g:=rfl
def oK (d:D):R (Option Int):=match d with
 | .int i=>.ok (some i)
 | _=>.no
def Nn:ii φ U=(φ U).bind oK:=rfl
def LL (g:D->Option Int->Option Int->R D) (d:D) (lo hi:Option Int):R D:=g d lo hi
def L6 (g:D->Option Int->Option Int->R D) (u:Sd->R (Option Int)) (U:Sd) (d:D) (lo:Option Int):R D:=(u U).bind (LL g d lo)
def RF (g:D->Option Int->Option Int->R D) (l u:Sd->R (Option Int)) (U:Sd) (d:D):R D:=(l U).bind (L6 g u U d)
def PY {g:D->Option Int->Option Int->R D} {l u:Sd->R (Option Int)}:Ak g φ l u U=(φ U).bind (RF g l u U):=rfl
def KK {g:D->Option Int->Option Int->R D} {l u:Sd->R (Option Int)}:RF g l u U d=(l U).bind (L6 g u U d):=rfl
def KQ {g:D->Option Int->Option Int->R D} {u:Sd->R (Option Int)} {lo:Option Int}:L6 g u U d lo=(u U).bind (LL g d lo):=rfl
def Lm {g:D->Option Int->Option Int->R D} {lo hi:Option Int}:LL g d lo hi=g d lo hi:=rfl
def UU (g:Str->acO->R D) (α:FA) (U:Sd) (d:D):R D:=match d with
 | .str z=>(α U).bind fun ds=>g z ds
 | _=>.no
def UH {g:Str->acO->R D}:QS g φ α U=(φ U).bind (UU g α U):=rfl
def U5 {g:Str->acO->R D}:UU g α U (.str x)=(α U).bind (g x):=rfl
def M2 {ix:List (Option Nat)} {t:TgD}:iI ix α t τ φ U=(α U).bind (cN t τ φ (fP ix U)):=rfl
def Q2:rJ φ U=(φ U).bind pN:=rfl
def Ma:nD α U=(α U).bind IQ:=rfl
def OP (h:-(2 ^ 62)<=i/\i < 2 ^ 62):IQ [.int i]=.ok (eh 0 i.toNat):=acA h
def MP:gL α U=(α U).bind wF:=rfl
def NA {xs:acO} (h1:pN d=.ok xs):wF [d]=.ok (cA 0 xs):=by
 unfold wF;simp only [h1,aF]
def E8:bw (.str x) (.str y)=if x.length+y.length<=1000000 then .ok (.str (x++y)) else .no:=rfl
def add_l {xs ys:acO}:bw (.lst xs) (.lst ys)=if xs.length+ys.length<=1000000 then .ok (.lst (xs++ys)) else .no:=rfl
def Qg:pP (.int i) (.int j)=.ok (.int (i - j)):=rfl
def mul_r (h:-(2 ^ 64) < j/\j < 2 ^ 64):dQ (.int i) (.int j)=.ok (.int (i*j)):=acA (.inr h)
def vh (h:-(2 ^ 64) < i/\i < 2 ^ 64):dQ (.int i) (.int j)=.ok (.int (i*j)):=acA (.inl h)
def PH (h:0 < j/\j < 1073741824):cG (.int i) (.int j)=.ok (.int (i/j)):=acA h
def OJ (h:0 < j):bB (.int i) (.int j)=.ok (.int (i % j)):=acA h
def Fp (h:0<=j/\j<=1000000/\-(2 ^ 64) < i/\i < 2 ^ 64):vo (.int i) (.int j)=.ok (.int (i ^ j.toNat)):=acA ⟨h.1,h.2.1,by omega⟩
def mz:vL (.int i) (.int j)=.ok (.bl (decide (i < j))):=rfl
def uX:Fy (.int i) (.int j)=.ok (.bl (decide (j < i))):=rfl
def UY:QT (.int i) (.int j)=.ok (.bl (decide (j<=i))):=rfl
def M4:vL (.str x) (.str y)=.ok (.bl (decide (x.cps.toList < y.cps.toList))):=rfl
def sS:eI (.int i) (.int j)=.ok (.bl (decide (i=j))):=by simp [eI,sW,fh,z9,gG]
def fz:eI (.str x) (.str y)=.ok (.bl (decide (x=y))):=by simp [eI,sW,fh,z9,gG]
def QC:eI .non .non=.ok (.bl true):=by simp [eI,sW,fh,z9,gG]
def B7:pX (.int i) (.int j)=.ok (.bl (!decide (i=j))):=by simp [pX,sW,fh,z9,gG]
def Dc:pX (.str x) (.str y)=.ok (.bl (!decide (x=y))):=by simp [pX,sW,fh,z9,gG]
def Mv (h:x.length<=1000000) {k:Nat} (I:atI x.cps.toList i=some k):bT (.str x) (.int i)=.ok (.str ⟨#[k]⟩):=by simp only [bT,acA h,I]
def rg {xs:acO} (I:atI xs i=some d):bT (.lst xs) (.int i)=.ok d:=by simp only [bT,I]
def Hd {xs:acO} (I:atI xs i=some d):bT (.tup xs) (.int i)=.ok d:=by simp only [bT,I]
def bb {r:acO}:bT (.tup (d::r)) (.int 0)=.ok d:=Hd (cz (j:=0) rfl)
def bj {a:D} {r:acO}:bT (.tup (a::d::r)) (.int 1)=.ok d:=Hd (cz (j:=1) rfl)
def BO {a b:D} {r:acO}:bT (.tup (a::b::d::r)) (.int 2)=.ok d:=Hd (cz (j:=2) rfl)
def tY {r:acO}:bT (.lst (d::r)) (.int 0)=.ok d:=rg (cz (j:=0) rfl)
def Ho {a:D} {r:acO}:bT (.lst (a::d::r)) (.int 1)=.ok d:=rg (cz (j:=1) rfl)
def KZ {a b:D} {r:acO}:bT (.lst (a::b::d::r)) (.int 2)=.ok d:=rg (cz (j:=2) rfl)
def Sh {a b c:D} {r:acO}:bT (.lst (a::b::c::d::r)) (.int 3)=.ok d:=rg (cz (j:=3) rfl)
def SK {J Y L I:D} {r:acO}:bT (.lst (J::Y::L::I::d::r)) (.int 4)=.ok d:=rg (cz (j:=4) rfl)
def SU {J a1 Y I L:D} {r:acO}:bT (.lst (J::a1::Y::I::L::d::r)) (.int 5)=.ok d:=rg (cz (j:=5) rfl)
def Qr {J a1 Y I L a5:D} {r:acO}:bT (.lst (J::a1::Y::I::L::a5::d::r)) (.int 6)=.ok d:=rg (cz (j:=6) rfl)
def Qa {J a1 Y I L a5 a6:D} {r:acO}:bT (.lst (J::a1::Y::I::L::a5::a6::d::r)) (.int 7)=.ok d:=rg (cz (j:=7) rfl)
def QA {lo hi:Option Int}:tR (.str x) lo hi=if x.length<=1000000 then .ok (.str (qK x lo hi)) else .no:=rfl
def Ht {xs:acO} {lo hi:Option Int}:tR (.lst xs) lo hi=.ok (.lst (lu xs lo hi)):=rfl
def uc {xs:acO}:cy [.lst xs]=.ok (.int xs.length):=rfl
def wr {xs:acO}:cy [.tup xs]=.ok (.int xs.length):=rfl
def u5 {xs:acO}:oQ [.lst xs]=.ok (.tup xs):=rfl
def Ph {xs:acO}:oQ [.tup xs]=.ok (.tup xs):=rfl
def Ln {xs:acO}:DB [.tup xs]=.ok (.lst xs):=rfl
def GD {C:String}:nw [.int i,.ty C]=if jm C=true then .ok (.bl (iR "int" C)) else .no:=rfl
def Fr {C:String}:nw [.str x,.ty C]=if jm C=true then .ok (.bl (iR "str" C)) else .no:=rfl
def Qp {C:String} {xs:acO}:nw [.lst xs,.ty C]=if jm C=true then .ok (.bl (iR "list" C)) else .no:=rfl
def KW {C:String} {xs:acO}:nw [.tup xs,.ty C]=if jm C=true then .ok (.bl (iR "tuple" C)) else .no:=rfl
def F7 {C:String} {xs:List (bD×D)}:nw [.dcf xs,.ty C]=if jm C=true then .ok (.bl (iR "dict" C)) else .no:=rfl
theorem strs_map {I:Type} (f:I->Str):∀ xs:List I,su (xs.map fun a=>D.str (f a))=some (xs.map f)
 | []=>rfl
 | a::r=>by simp only [lE,su,strs_map f r,Option.map_some]
def NU {z:Str} {xs:acO} {ys:acH} (h:su xs=some ys) (I:(ys.map (·.length)).sum+ys.length*z.length<=1000000):uD z [.lst xs]=.ok (.str (abo z ys)):=by simp only [uD,h,acA I]
def xz {t:TgD} {τ:FT} {ε:FE} {I:Sd} {xs ys:acO} (hf:ub t I=true) (J:xs.length<=1000000) (h:hU t τ ε I xs=.ok ys):cN t τ ε I xs=.ok (.lst ys):=by
 unfold cN;rw [acA ⟨hf,J⟩,h];rfl
def A4 {L:Type} {k:Nat} {ε:FE} {I:Sd} {as:List L} (u:L->D) (f:L->D) (hf:ub (.one k) I=true) (Y:as.length<=1000000) (h:∀ a∈as,ε (I.set k (some (u a)))=.ok (f a)):cN (.one k) t6 ε I (as.map u)=.ok (.lst (as.map f)):=by
 refine xz hf (by rw [eQ];exact Y) ?_;clear Y;induction as with
 | nil=>rfl
 | cons a r J =>
  have h1:=h a OR;have J:=J fun b hb=>h b (iN _ hb);show (ε (I.set k (some (u a)))).bind _=_;rw [h1];show (hU (.one k) t6 ε I (r.map u)).bind _=_;rw [J];rfl
end
def zM {J:Type} {M:Model} {A:WN} {E:acJ} {s:gs} {b:Nat} (f:Nat->J->Sem (ForInStep J)) (I:Nat->J->gs->Prop) (Q:J->gs->Prop)
  (turn:∀ i c s,i < b->I i c s->Wv M A (f i c) (fun r s'=>match r with|.yield b'=>I (i+1) b' s'|.done b'=>Q b' s') E s)
  (fin:∀ c s,I b c s->Q c s) (c:J) (h:I 0 c s):Wv M A (forIn [0:b] c f) Q E s:=by
 rw [Std.Legacy.Range.forIn_eq_forIn_range'];have hsz:([0:b]:acf).size=b:=by simp [Std.Legacy.Range.size]
 show Wv M A (forIn (aco 0 ([0:b]:acf).size 1) c f) Q E s;rw [hsz];refine wpAny_forIn_list f (fun l c st=>∃ i,i<=b/\l=aco i (b - i) 1/\I i c st) Q ?_ ?_ _ c ⟨0,WB _,rfl,h⟩
 .rintro x rest c st ⟨i,hib,hl,hI⟩;have L:i < b:=by
   rcases aca i b with h'|h'
   .exact h'
   .rw [show b - i=0 by omega] at hl;simp at hl
  obtain ⟨n,hn⟩:∃ n,b - i=n+1:=⟨b - i - 1,by omega⟩;rw [hn,aaV] at hl;obtain ⟨rfl,rfl⟩:=aaK hl;refine W7 (turn x c st (by omega) hI) (fun r Y h'=>?_) fun _ _ z=>z;cases r with
  | done c'=>exact h'
  | yield c'=>exact ⟨x+1,by omega,by congr 1;omega,h'⟩
 .rintro c st ⟨i,hib,hl,hI⟩
  have:i=b:=by
   rcases aca i b with h'|h'
   .obtain ⟨n,hn⟩:∃ n,b - i=n+1:=⟨b - i - 1,by omega⟩;rw [hn,aaV] at hl;simp at hl
   .omega
  subst this;exact fin _ _ hI
def vE (l:ID) (items:acM) (n:Nat) (dd:Option ID) (sl:Array (Option dO)) (x:dO) (e:dO->Bool) (k:Nat) :
  Meets (Builtin.«tuple.index» ⟨[.ref l,x],[]⟩)
   (fun A R s=>s.heap.get? l=some { cls:=.type "tuple",dict:=dd,data:=.seq items.toArray n,slots:=sl }/\(∀ y,y∈items->abY A.in1 s y x (e y))/\(k < items.length/\(∀ y,items[k]?=some y->e y=true)/\∀ j y,j < k->items[j]?=some y->e y=false)/\R (.ok (.ret (.int (k:Nat) s.toks))) { s with toks:=s.toks+1 }) :=
 .of_wp fun prog w A R s h=>by
  obtain ⟨hp,g,d,tk,os⟩:=s;obtain ⟨hl,he,⟨hk0,Y,J⟩,h⟩:=h
  wp_walk using Yj hl,zM _ (fun i b s'=>b.1=none/\s'=⟨hp,g,d,tk,os⟩/\i<=k) _
  case turn =>
   rintro i b s' hi ⟨hb,rfl,hik⟩;have I:i < items.length:=by omega
   have e1:items.toArray[i]?=some items[i]:=by simp [I]
   simp only [e1];refine bY (he _ (WM I) prog w _ _ ?_);by_cases L:i=k
   .subst L;rw [Y _ (oR I)]
    wp_walk
    exact ⟨_,rfl,h⟩
   .rw [J i _ (by omega) (oR I)]
    wp_walk
    exact ⟨rfl,rfl,by omega⟩
  case fin =>
   rintro ⟨b1,b2⟩ s' ⟨hb,rfl,hik⟩;simp at hik;omega
  case h =>
   exact ⟨rfl,rfl,WB _⟩
section
variable {X:Cx} {W:Wd} {O:acG}
def EN (x:V):acN->Option Nat
 | []=>none
 | y::ys=>if Bs y x=true then some 0 else (EN x ys).map (·+1)
def vW {x:V}:∀ {xs:acN} {us:acM} {k:Nat},bf xs us->xs.all fB=true->EN x xs=some k->k < us.length/\(∀ y,us[k]?=some y->Ay x y=true)/\∀ j y,j < k->us[j]?=some y->Ay x y=false
 | _,_,_,.nil,_,h=>by cases h
 | y::xs,u::us,k,.cons r t,f,h=>by
  rw [XI,W5] at f;unfold EN at h;split at h
  .rename_i e;cases h;refine ⟨by simp,fun I h'=>?_,fun j _ hj _=>absurd hj (Zi _)⟩;simp only [Zg,aau] at h';subst h';rw [uy r f.1];exact e
  .rename_i e;cases q:EN x xs with
   | none=>rw [q] at h;cases h
   | some L =>
    rw [q] at h;cases h;obtain ⟨h1,h2,J⟩:=vW t f.2 q;refine ⟨by simpa using h1,fun I h'=>h2 I (by simpa using h'),fun j I hj h'=>?_⟩;cases j with
    | zero =>
     simp only [Zg,aau] at h';subst h';rw [uy r f.1];simpa using e
    | succ j=>exact J j I (Zq hj) (by simpa using h')
def U8 (K:aT) (x:V) (xs:acN) (H:Hp) (Q:VK):Prop:=∃ p vs y k,x=.ref p/\xs=[y]/\j3 K H p vs/\fB y=true/\vs.all fB=true/\EN y vs=some k/\Q (.int (k:Nat)) H
def Es:Od X "tuple.index" (U8 X.K):=by
 intro af s Z H x xs v us Q I rx r h;obtain ⟨p,vs,y,k,rfl,rfl,hq,fy,fs,e,q⟩:=h;cases rx;obtain ⟨u,rfl,ry⟩:=jA r;obtain ⟨its,J,pl,hz⟩:=I.tuple hq;obtain ⟨⟨cls,dd,Y,sl⟩,L,hc,n,hd⟩:=id pl;simp only at hc hd;subst hc hd;exact aaA aav ⟨_,L,rfl⟩ PySem.F.entry_tuple_index (PySem.F.args_tuple_index_2 _ _) (vE p its n dd sl u (Ay y) k) ⟨L,fun z hz=>mY ry fy J fs z hz,vW J fs e,⟨.int _,H,I.tok _,⟨_,rfl⟩,q⟩⟩
def GU (k:D) (ds:acO):R D:=match k,ds with
 | .tup xs,[d]=>match fh d,cX xs with
  | some v,some vs=>match EN v vs with
   | some k=>.ok (.int (k:Nat))
   | none=>.no
  | _,_=>.no
 | _,_=>.no
def Ab (k:D) (α:FA):FE:=fun U=>(α U).bind fun ds=>GU k ds
def Px {k:D} {α:FA} {U:Sd}:Ab k α U=(α U).bind (GU k):=rfl
def ug {x:Str} {d:D} {p:ID} {e:W3} {α:FA} {apos cpos pos:Pos} (hm:X.mg x=some (.ref p)) (hd:∀ H,di W.K H d (.ref p)) (hl:∃ Y,W.K.lookup p=some Y/\Y.cls=.type "tuple"/\Y.dict=none) (ha:JA X [e] (xC W O α)) (hK:X.K=W.K:=by rfl) (hg:Gl X x:=by rfl) (hdb:acP x:=by decide)
  (J:Xa (.Name x pos) "index" X.env (eval (.Name x pos) X.env)=eval (.Name x pos) X.env:=by rfl) (L:(apos.endLine==cpos.line)=true:=by rfl) (h1:[e].all ba=true:=by rfl) (hfew:[e].length < 29:=by decide) :
  JE X (.Call (.Attribute (.Name x pos) "index" apos) [e] [] cpos) (tD W O (Ab d α)) :=
 (JK PySem.F.plainAttrs_tuple aav PySem.F.type_tuple_index Es (GE (v:=.ref p) hm rfl hg hdb) ha J L h1 hfew).imp fun Z H Q hh=>eG hh fun as0 B own U I h=>by
  obtain ⟨Y,hl,hc,hdn⟩:=hl;refine ⟨.inr (.inl ⟨rfl,Y,by rw [hK];exact hl,hc,hdn⟩),as0,B,own,U,I,gw h fun ds xs H2 s2 d2 h2=>?_⟩;have dp:=hd (aK (own++as0) H2);unfold GU at h2;split at h2
  .rename_i ks d';obtain ⟨v,rfl,dv⟩:=gq d2;obtain ⟨p',vs,e0,q1,q2⟩:=dp;cases e0;split at h2
   .rename_i w ws e1 e2;split at h2
    .rename_i k e3
     have:=fv dv e1
     subst this;obtain ⟨h3,h4⟩:=ml q2 e2;subst h3;exact ⟨p,vs,v,k,rfl,rfl,by rw [hK];exact (az _ _).seqT q1,pE e1,h4,e3,aR h2 rfl⟩
    .exact h2.elim
   .exact h2.elim
  .exact h2.elim
end
section
variable {X:Cx} {W:Wd} {O:acG} {b:W3} {ψ:FE} {x:Str} {p1 pos:Pos} {op:CmpOp}
def EO (K:aT) (f:Bool->Bool) {i:Nat} (hi:i∈O) (hW:W.K=K) {Z:St} {H:Hp} {Q:VK} {as0 own:acL} {B:Hp} {U:Sd} (I:DI W.K as0 B O own Z U H) (h:cK W (own++as0) H (aw (fun a b=>gG (sW a b) f) (ah i) ψ U) Q):A7 (xy K f) (vM i) (tD W O ψ) Z H Q:=by
 obtain ⟨a,Y⟩:=cJ I.olen hi;obtain ⟨d,o,h1,h2,h3,h4⟩:=I.owns i a Y;have hv:ah i U=.ok d:=by unfold ah;rw [h1]
 have h':cK W (own++as0) H ((ψ U).bind fun y=>gG (sW d y) f) Q:=by
  have e:aw (fun a b=>gG (sW a b) f) (ah i) ψ U=(ψ U).bind fun y=>gG (sW d y) f:=by unfold aw;rw [hv];rfl
  rw [<- e];exact h
 have e0:A7 (xy K f) (vM i) (tD W O ψ) Z H Q=rV Z[i]? H (S6 (xy K f) (tD W O ψ) Z Q):=rfl;rw [e0,h2];subst hW;refine ⟨as0,B,own,U,I,bU h' fun y u H2 s2 d2 J=>?_⟩;have L:a∈own:=(WO Y).2;have od:ma W.K (aK [a] H2) o d:=h4.mono ((lv fun b hb=>by
  rw [Ws.mp hb];exact WX _ L).trans (aV s2))
 have dd:di W.K H2 d (.ref a):=by
  have:=od.den (as:=[]) (by simp) (s2 _ _ h3)
  rwa [zC] at this
 cases e:sW d y with
 | none=>rw [e] at J;exact J.elim
 | some k =>
  rw [e] at J;exact ⟨d,y,k,dd,d2.mono (az _ _),e,aR J rfl⟩
def B0 (K:aT) (f:Bool->Bool) {i:Nat} (hi:i∈O) (ho:fb X (WR op) (xy K f)) (hb:JE X b (tD W O ψ)) (hm:Yu op b=false) (hN:X.N[i]?=some x:=by rfl) (Y:yH X.env.scope x:=by walk_at"v") (hd:acP x:=by decide)
  (J:(x==("__classdict__":Str))=false:=by decide) (hW:W.K=K:=by rfl):JT X (.Compare (.Name x p1) [op] [b] pos) (rZ W O (bR (aw (fun a b=>gG (sW a b) f) (ah i) ψ))) :=
 (Fj ho (jv i hN Y hd J) hb hm).imp fun Z H Q hh=>eG hh fun as0 B own U I h=>EO K f hi hW (Q:=Ls Q) I (gH h fun z w H3 s3 d3 L=>by
  cases z with
  | bl k=>cases d3;exact L H3 (aC.refl _)
  | _=>exact L.elim)
end
end L2
namespace LT
open PySem PyProof.Rows PySem.SeqAt
open PySem.AutoSeq1 (wpAny_loadPart')
open PySem.MeetsSeq PySem.MeetsSeq2 PySem.MeetsSeq3
def LtAt (A:WN) (s:gs) (y x:dO) (b:Bool):Prop :=
 ∀ (prog:Ww) (w:WU) (E:acJ) (Q:acJ),Q (.bool b) s->Wv (Wx prog w) A (richCompare .Lt y x) Q E s
inductive Lx (A:WN) (s:gs):acM->acM->Bool->Prop
 | nn:Lx A s [] [] false
 | nc {y:dO} {ys:acM}:Lx A s [] (y::ys) true
 | cn {x:dO} {xs:acM}:Lx A s (x::xs) [] false
 | eq {x y:dO} {xs ys:acM} {b:Bool} (h:EqAt A s x y true) (t:Lx A s xs ys b):Lx A s (x::xs) (y::ys) b
 | ne {x y:dO} {xs ys:acM} {b:Bool} (h:EqAt A s x y false) (t:LtAt A s x y b):Lx A s (x::xs) (y::ys) b
def Ft (l b:ID) (items I:Array dO) (n n2:Nat) (dd dd2:Option ID) (sl sl2:Array (Option dO)) (r:Bool) :
  Meets (Builtin.«tuple.__lt__» ⟨[.ref l,.ref b],[]⟩)
   (fun A R s=>s.heap.get? l=some { cls:=.type "tuple",dict:=dd,data:=.seq items n,slots:=sl }/\s.heap.get? b=some { cls:=.type "tuple",dict:=dd2,data:=.seq I n2,slots:=sl2 } /\
    Lx A.in1 s items.toList I.toList r/\R (.ok (.ret (.bool r))) s) :=
 .of_wp fun prog w A R s h=>by
  obtain ⟨hp,g,d,tk,os⟩:=s;obtain ⟨hl,hb,J,h⟩:=h;have f2:=AutoSeq1.sub_tuple_tuple
  wp_walk using Yj hl,Yj hb,wpAny_forIn_list _ (fun rest b s'=>b.1=none/\s'=⟨hp,g,d,tk,os⟩/\∃ (vs ws:acM) , rest=vs.zip ws /\
   Lx A.in1 ⟨hp,g,d,tk,os⟩ vs ws r/\vs.length+I.size=ws.length+items.size) _
  case turn =>
   rintro ⟨y,x⟩ rest b s' ⟨hb',rfl,vs,ws,hz,J,hlen⟩;cases J with
   | nn=>cases hz
   | nc=>cases hz
   | cn=>rw [List.zip_nil_right] at hz;cases hz
   | eq Y L =>
    rw [Xl] at hz;injection hz with hyx hrest
    injection hyx with hy J
    subst hy J;simp only [RW] at hlen;refine bY (Y prog w _ _ ?_)
    wp_walk
    exact ⟨rfl,rfl,_,_,hrest,L,by omega⟩
   | ne Y L =>
    rw [Xl] at hz;injection hz with hyx hrest
    injection hyx with hy J
    subst hy J;refine bY (Y prog w _ _ ?_);have hri:=L prog w
    wp_walk using hri
    exact ⟨_,rfl,by simpa using h⟩
  case fin =>
   rintro ⟨b1,b2⟩ s' ⟨hb',rfl,vs,ws,hz,J,hlen⟩;simp only at hb';subst hb';have hv:r=decide (items.size < I.size):=by
    cases J with
    | nn=>simp only [ZP] at hlen;exact (acC (by omega)).symm
    | nc=>simp only [ZP,RW] at hlen;exact (acD (by omega)).symm
    | cn=>simp only [ZP,RW] at hlen;exact (acC (by omega)).symm
    | eq Y L=>rw [Xl] at hz;cases hz
    | ne Y L=>rw [Xl] at hz;cases hz
   rw [hv] at h
   wp_walk
   exact ⟨_,rfl,by simpa [Builtin.Tuple.tupleCompareSizes] using h⟩
  case h =>
   exact ⟨rfl,rfl,items.toList,I.toList,rfl,J,by simp;omega⟩
def LtAt.tup {A:WN} {s:gs} {l b:ID} {items I:Array dO} {r:Bool} (hl:Zs s.heap l items) (hb:Zs s.heap b I) (hx:Lx A.in1 s items.toList I.toList r) (hu:A.units < Zu):LtAt A s (.ref l) (.ref b) r:=fun prog w E Q h=>by
 obtain ⟨⟨cls,dd,data,sl⟩,ho,hc,n,hd⟩:=id hl;obtain ⟨⟨cls2,dd2,data2,sl2⟩,J,Y,n2,L⟩:=id hb;simp only at hc hd Y L;subst hc hd Y L;exact richCompare_meets_room (op:=.Lt) ⟨_,ho,rfl⟩ ⟨_,J,rfl⟩ PySem.F.slot_tuple_lt PySem.F.entry_tuple_lt (PySem.F.args_tuple_lt_2 _ _) (Ft l b items I n n2 dd dd2 sl sl2 r)
  ⟨ho,J,hx,show abm r≠Value.notImplemented/\Q (.bool r) s from ⟨(fun x=>nomatch x),h⟩⟩ hu
def LtAt.int {A:WN} {s:gs} (a:Int) (t:Tok) (c:Int) (u:Tok):LtAt A s (.int a t) (.int c u) (decide (a < c)):=fun prog w E Q h=>(PyProof.Rows.lt_int h:Wv (Wx prog w) A (WR .Lt (.int a t) (.int c u)) Q E s)
def LtAt.str {A:WN} {s:gs} (a:Str) (t:Tok) (c:Str) (u:Tok):LtAt A s (.str a t) (.str c u) (decide (a.cps.toList < c.cps.toList)):=fun prog w E Q h=>(PyProof.Rows.lt_str h:Wv (Wx prog w) A (WR .Lt (.str a t) (.str c u)) Q E s)
end LT
namespace L2
open PySem PySem.Spec PyProof.Rows
section
variable {X:Cx} {W:Wd} {Ob O:acG} {e f:W3} {ε ψ:FE} {pos p1 p2 p3 apos cpos apos2 cpos2 apos3 cpos3 tpos:Pos} {x:Str} {tx:Nat}
def aM.dropLast {K:aT} {H:Hp} {ds:acO} {xs:acN} (h:aM K H ds xs):aM K H ds.dropLast xs.dropLast:=by
 rw [aba,aba,<- h.len];exact h.take _
end
def FnOk.void {P:Ww} {w:WU} {K:aT} {mg:acK} {base:Yy} {k:Nat} {f:ID} {fd:W2} {ps:acH}:FnOk P w K mg base cP k f fd ps (eF K mg fun _=>.no) :=
 ⟨fun vs H Q E ⟨_,_,_,_,h⟩=>h.elim,fun A outer s H args us vs Q E hr e0 hb r ⟨_,_,_,_,h⟩=>h.elim⟩
end L2
namespace LX
open PySem PySem.AutoSeq1
open PySem.MeetsSeq PySem.MeetsSeq2 PySem.MeetsSeq3
def extend_list (l:ID) (items:Array dO) (n:Nat) (b:ID) (I:Array dO) (n2:Nat) (dd:Option ID) (sl:Array (Option dO)) (hc0:¬(!items.isEmpty&&XE (items.size+I.size))=true) (J:items.size<=Wp) (L:items.size+I.size<=Wp+1) :
  Meets (Builtin.«list.extend» ⟨[.ref l,.ref b],[]⟩) (fun _ R s=>s.heap.get? l=some { cls:=.type "list",dict:=none,data:=.seq items n,slots:=#[] }/\s.heap.get? b=some { cls:=.type "list",dict:=dd,data:=.seq I n2,slots:=sl }/\R (.ok (.ret Xm)) { s with heap:=s.heap.update l (WQ fun x=>x++I),toks:=s.toks }) :=
 .of_wp fun prog w A R s h=>by
  obtain ⟨hp,g,d,tk,os⟩:=s;obtain ⟨hl,hb,h⟩:=h;have f1:=idx_int;have f2:=sub_tuple_tuple;have f3:=sub_list_list;have f4:=sub_tuple_list;have f5:=sub_list_tuple;have Y:(items++I).size<=Wp+1:=by rw [ab1];exact L
  wp_walk using (wpAny_updateSeq hl rfl (hz:=J) (_hz':=Y)),Yj hl,Yj hb;exact ⟨_,rfl,h⟩
def xB (l:ID) (items:Array dO) (n:Nat) (b:ID) (I:Array dO) (n2:Nat) (dd:Option ID) (sl:Array (Option dO)) (hc0:¬(!items.isEmpty&&XE (items.size+I.size))=true) (J:items.size<=Wp) (L:items.size+I.size<=Wp+1) :
  Meets (Builtin.«list.extend» ⟨[.ref l,.ref b],[]⟩) (fun _ R s=>s.heap.get? l=some { cls:=.type "list",dict:=none,data:=.seq items n,slots:=#[] }/\s.heap.get? b=some { cls:=.type "tuple",dict:=dd,data:=.seq I n2,slots:=sl }/\R (.ok (.ret Xm)) { s with heap:=s.heap.update l (WQ fun x=>x++I),toks:=s.toks }) :=
 .of_wp fun prog w A R s h=>by
  obtain ⟨hp,g,d,tk,os⟩:=s;obtain ⟨hl,hb,h⟩:=h;have f1:=idx_int;have f2:=sub_tuple_tuple;have f3:=sub_list_list;have f4:=sub_tuple_list;have f5:=sub_list_tuple;have Y:(items++I).size<=Wp+1:=by rw [ab1];exact L
  wp_walk using (wpAny_updateSeq hl rfl (hz:=J) (_hz':=Y)),Yj hl,Yj hb;exact ⟨_,rfl,h⟩
end LX
namespace L2
open PySem PySem.Spec PyProof.Rows
section
variable {X:Cx}
def zV (K:aT):V->acN->Hp->VK->Prop:=fun x vs H Q=>∃ l b xs zs,x=.ref l/\vs=[.ref b]/\H l=some (.lst xs)/\(gp K H b zs\/j3 K H b zs)/\xs.length+zs.length<=Wp/\Q .non (upd H l (.lst (xs++zs)))
def AJ:TV X "list.extend" (zV X.K):=by
 intro af s Z H x vs v us Q I rx rv h;obtain ⟨l,b,xs,zs,rfl,rfl,hH,hB,hz,q⟩:=h;cases rx;obtain ⟨u,rfl,ru⟩:=rv.one;cases ru;obtain ⟨z,its,n,r,hl,e⟩:=I.lstM hH;rcases hB with hB|hB
 .obtain ⟨J,r2,pl,hz2⟩:=I.list hB;obtain ⟨⟨cls,dd,Y,sl⟩,ho,hc,n2,hd⟩:=pl.isList;simp only at hc hd;subst hc hd;have hl2:=r2.length;have hsz:its.toArray.size+J.toArray.size<=Wp:=by rw [By,By];omega
  have L:¬ (!its.toArray.isEmpty&&XE (its.toArray.size+J.toArray.size))=true:=by
   rw [Ad hsz,aby];exact iF
  refine aaA F.slot_list_extend ⟨_,e,rfl⟩ F.entry_list_extend (F.args_list_extend_2 _ _) (LX.extend_list l its.toArray n b J.toArray n2 dd sl L (by rw [By];omega) (by omega)) ⟨e,ho,?_⟩;refine ⟨.non,_,I.lset (its':=its++J) hH e (by simp) (r.append r2) ?_,rfl,q⟩;rw [Do];omega
 .obtain ⟨J,r2,pl,hz2⟩:=I.tuple hB;obtain ⟨⟨cls,dd,Y,sl⟩,ho,hc,n2,hd⟩:=pl;simp only at hc hd;subst hc hd;have hl2:=r2.length;have hsz:its.toArray.size+J.toArray.size<=Wp:=by rw [By,By];omega
  have L:¬ (!its.toArray.isEmpty&&XE (its.toArray.size+J.toArray.size))=true:=by
   rw [Ad hsz,aby];exact iF
  refine aaA F.slot_list_extend ⟨_,e,rfl⟩ F.entry_list_extend (F.args_list_extend_2 _ _) (LX.xB l its.toArray n b J.toArray n2 dd sl L (by rw [By];omega) (by omega)) ⟨e,ho,?_⟩;refine ⟨.non,_,I.lset (its':=its++J) hH e (by simp) (r.append r2) ?_,rfl,q⟩;rw [Do];omega
end
section
variable {X:Cx} {W:Wd} {Ob O:acG} {e f:W3} {ε φ ψ:FE} {pos p1 p2 apos cpos:Pos} {x:Str}
def B1 (d:D):Option (acO):=match d with
 | .lst ys=>some ys
 | .tup ys=>some ys
 | _=>none
def pZ (i:Nat) (ε:FE):FS:=fun U=>match U[i]? with
 | some (some (.lst xs))=>(ε U).bind fun d=>match B1 d with
  | some ys=>if xs.length+ys.length<=1000000 then .ok (.nx (U.set i (some (.lst (xs++ys))))) else .no
  | none=>.no
 | _=>.no
def Ea {K:aT} {H:Hp} {d:D} {ys:acO} {v:V} (h:di K H d v) (e:B1 d=some ys):∃ b zs,v=.ref b/\(gp K H b zs\/j3 K H b zs)/\aM K H ys zs:=by
 cases d with
 | lst xs=>cases e;obtain ⟨a,vs,rfl,h1,h2⟩:=h;exact ⟨a,vs,rfl,.inl h1,h2⟩
 | tup xs=>cases e;obtain ⟨a,vs,rfl,h1,h2⟩:=h;exact ⟨a,vs,rfl,.inr h1,h2⟩
 | _=>cases e
def D5 {i:Nat} (hi:i∈O) (he:JE X e (tD W O ε)) (hN:X.N[i]?=some x:=by rfl) (hn:ba e=true:=by rfl) (Y:(apos.endLine==cpos.line)=true:=by rfl) (hv:yH X.env.scope x:=by walk_at"v") (hd:acP x:=by decide)
  (hcd:(x==("__classdict__":Str))=false:=by decide) (L:Xa (.Name x p1) "extend" X.env (eval (.Name x p1) X.env)=eval (.Name x p1) X.env:=by rfl)
  (hs:YL (.Call (.Attribute (.Name x p1) "extend" apos) [e] [] cpos) none pos.line X.env=pure false:=by rfl) (hW:W.K=X.K:=by rfl) :
  JS X (.Expr (.Call (.Attribute (.Name x p1) "extend" apos) [e] [] cpos) pos) (sD W Ob O O (pZ i ε)) :=
 (xQ (JK YE PySem.F.slot_list_extend PySem.F.type_list_extend AJ (jv i hN hv hd hcd) (oB he rS hn) L Y (by rw [XI,hn];rfl) (by show 1 < 29;decide)) hs).imp fun D Z H hh=>eG hh fun as0 B own U I h=>by
  obtain ⟨a,ha⟩:=cJ I.olen hi;obtain ⟨d,o,h1,h2,h3,h4⟩:=I.owns i a ha;show rV Z[i]? H (fun x H1=>N7 X.K "list" x H1/\tD W O ε Z H1 fun v H2=>zV X.K x [v] H2 (fun _ H3=>D.nx Z H3));rw [h2];unfold pZ at h;rw [h1] at h;cases d with
  | lst ds =>
   obtain ⟨xs,rfl,q⟩:=h4;refine ⟨.inl ⟨rfl,xs,gp.of h3⟩,as0,B,own,U,I,dF I h fun y v H2 s2 d2 J=>?_⟩;cases ey:B1 y with
   | none=>rw [ey] at J;exact J.elim
   | some ys =>
    rw [ey] at J;have J:dZ W as0 B Ob O (if ds.length+ys.length<=1000000 then .ok (.nx (U.set i (some (.lst (ds++ys))))) else .no) D:=J;split at J
    .rename_i hl;obtain ⟨b,zs,rfl,hb,hz⟩:=Ea d2 ey;have hm:=dL;refine ⟨a,b,xs,zs,rfl,rfl,s2 _ _ h3,?_,?_,?_⟩
     .rw [hW] at hb;exact hb.imp (fun z=>(az _ _).seq z) fun z=>(az _ _).seqT z
     .have:=q.len;have:=hz.len;omega
     .exact J own Z _ ((I.mono s2).mutate ha ⟨xs++zs,rfl,(q.mono (aV s2)).append hz⟩)
    .exact J.elim
  | _=>exact h.elim
def Gf (K:aT) {i:Nat} (hi:i∈O) (hm:X.mg "tuple"=none) (hN:X.N[i]?=some x:=by rfl) (hg:Gl X "tuple":=by rfl) (J:yH X.env.scope x:=by walk_at"v") (hd:acP x:=by decide)
  (L:(x==("__classdict__":Str))=false:=by decide) (hK:X.K=K:=by rfl) (hW:W.K=K:=by rfl):JE X (.Call (.Name "tuple" p2) [.Name x p1] [] pos) (tD W O (ao oQ (ae (ah i) ap))) :=
 (xR (ur K hK) hm jK (oB (jv i hN J hd L) rS) hg).imp fun Z H Q hh=>eG hh fun as0 B own U I h=>by
  obtain ⟨a,ha⟩:=cJ I.olen hi;obtain ⟨d,o,h1,h2,h3,h4⟩:=I.owns i a ha;show rV Z[i]? H (fun v H1=>yC K [v] H1 Q);rw [h2];have J:ah i U=.ok d:=by unfold ah;rw [h1]
  have h':cK W (own++as0) H (oQ [d]) Q:=by
   have e:ao oQ (ae (ah i) ap) U=oQ [d]:=by unfold ao ae ap;rw [J];rfl
   rw [<- e];exact h
  cases d with
  | lst ds =>
   obtain ⟨xs,rfl,q⟩:=h4;refine .inl ⟨xs,gp.of h3,fun l Y=>?_⟩;have hn:=I.new Y;exact h' _ _ (aX Y _) ⟨l,xs,rfl,.inl (.inl (by rw [aW hn];exact aS)),q.mono (aV (aX Y _))⟩
  | _=>first|exact h4.elim|exact h'.elim
end
structure Nw (X:Cx) (af:acI) (b:ID):Prop where
 base:X.s₀.heap.get? b=none
 loc:b≠X.env.locals
 fs:b∉X.fs
 cell:∀ x c,X.env.cells.lookup x=some c->c≠b
 pin:∀ p∈X.pn++af,p.1≠b
section
variable {X:Cx} {af:acI} {Z:St} {H:Hp} {s:gs}
def Inv.track {y:ID} {o:HO} (I:Inv X af Z H s) (n:Nw X af y) (hy:H y=none) (new:bX X.prog X.w (upd H y o) s.heap y o):Inv X af Z (upd H y o) s:=by
 have J:aC H (upd H y o):=aX hy o;refine ⟨I.ok,I.os,I.bare,⟨I.base.keep,I.base.slot,fun b Y e n0 hx=>?_,I.base.there,fun b xs e=>J _ _ (I.base.tups b xs e),fun b Y u e=>J _ _ (I.base.frzs b Y u e),fun b ps e=>?_⟩,I.loc,I.cell,?_,fun x c e=>?_,fun p hp=>?_,fun a u e=>?_,I.len,I.tk⟩
 .have:b≠y:=fun z=>by rw [z,n.base] at e;cases e
  rw [aP this];exact I.base.free b Y e n0 hx
 .obtain ⟨L,q⟩:=I.base.tbls b ps e;exact ⟨L,J _ _ q⟩
 .rw [aP (aac n.loc)];exact I.free
 .rw [aP (n.cell x c e)];exact I.freeC x c e
 .obtain ⟨h1,h2,h3⟩:=I.pin p hp;exact ⟨h1,by rw [aP (n.pin p hp)];exact h2,h3⟩
 .by_cases ha:a=y
  .subst ha;have e':u=o:=by unfold upd at e;rw [acA rfl] at e;exact (WG e).symm
   rw [e'];exact new
  .rw [aP ha] at e;exact (I.hok a u e).stay (fun _ _ _ q=>q) (fun b q=>J _ _ q) fun b xs q=>J _ _ q
end
abbrev Uo (K:aT) (x:Str) (C:ID):Prop:=Xv K WJ x=some (some (.ref C))
section
variable {X:Cx} {W:Wd}
def RP {O:acG} {x:Str} {C:ID} {p:Pos} (L:X.mg x=some (.ref C)) (hn:Uo W.K x C) (hg:Gl X x:=by rfl) (J:acP x:=by decide):JE X (.Name x p) (tD W O (vC (.cls x))) :=
 ⟨fun af s Z H Q I ⟨as0,B,own,U,_,h⟩=>qS I hg L ⟨.ref C,H,I,rfl,h _ H (aC.refl _) ⟨C,rfl,hn⟩⟩ J⟩
end
section
variable {X:Cx} {W:Wd} {Ob O:acG} {e:W3} {ε:FE} {pos:Pos}
def LQ (i:Nat) (U:Sd) (a:Int) (d:D):R Fl:=match d with
 | .int b=>.ok (.nx (U.set i (some (.int (a+b)))))
 | _=>.no
def oC (i:Nat) (ε:FE):FS:=fun U=>match U[i]? with
 | some (some (.int a))=>(ε U).bind (LQ i U a)
 | _=>.no
def Eo {i:Nat} {x:Str} {pos':Pos} (L:i∉O) (hN:X.N.Nodup) (hx:C3 X.env.scope x) (he:JE X e (tD W O ε)) (hi:X.N[i]?=some x:=by rfl) (hf:X.fn x=true\/X.env.scope.names.lookup x=some .local:=by walk_at"u") :
  JS X (.AugAssign (.Name x pos') .Add e pos) (sD W Ob O O (oC i ε)) :=
 (JS.mk (Nv hN hi hx he.out II hf)).imp fun D' Z H hh=>eG hh fun as0 B own U I h=>by
  unfold oC at h;split at h
  .rename_i a ha;obtain ⟨v,Y,dv⟩:=I.var i _ L ha;cases dv;refine ⟨.int a,Y,as0,B,own,U,I,dF I h fun d v H' s J h'=>?_⟩;unfold LQ at h';split at h'
   .cases J;exact ⟨_,_,rfl,rfl,h' own _ H' ((I.mono s).set L rfl)⟩
   .exact h'.elim
  .exact h.elim
def O9 {i:Nat} {U:Sd}:oC i ε U=(match U[i]? with|some (some (.int a))=>(ε U).bind (LQ i U a)|_=>.no):=rfl
end
end L2
namespace TS
open PySem PyProof.Rows
def au {m q:Nat} (h:1<=m):m - (q+1)+m - 1 - (m - 1)<=m - 1:=by
 rw [Nat.add_sub_assoc h,Nat.add_sub_cancel];exact ZS (Nat.succ_le_succ (WB q)) m
local macro_rules|`(tactic|walk_at "ja")=>`(tactic|first|exact au (by lia)|lia)
def bJ {k x l r m:Nat} (h:r - l<=k - x) (I:l<=m):r - (m+1)<=k - (x+1):=IF (ZS (Nat.add_le_add_right I 1) r) (by rw [<- acp r l 1,<- acp k x 1];exact ZJ h 1)
def bL {k x l r m:Nat} (h:r - l<=k - x) (I:m < r):m - l<=k - (x+1):=IF (ZJ (Nat.le_pred_of_lt I) l) (by rw [Nat.pred_eq_sub_one,Nat.sub_right_comm,<- acp k x 1];exact ZJ h 1)
local macro_rules|`(tactic|walk_at "jb")=>`(tactic|first|exact bJ (by assumption) (by lia)|exact bL (by assumption) (by lia)|lia)
def bq {o t l:Nat} (h:l < o) (g:l<=t):t+1 - min o (t+1)<=t - l:=IF (ZS (Nat.le_min.mpr ⟨h,Nat.succ_le_succ g⟩) _) (Z7 (Nat.add_sub_add_right t 1 l))
local macro_rules|`(tactic|walk_at "jc")=>`(tactic|first|exact bq (by assumption) (by assumption)|lia)
def Ko:Bool->Wq->Array Wq->Nat->Nat->Nat->StateT WZ Sem (Option Nat):=sortPriv% PySem.Builtin.gallop
structure Orc (M:Model) (A:WN) (E:acJ) (s:gs) (blt:Wq->Wq->Bool) (k₀:ZM) (In:Wq->Prop):Prop where
 asymm:∀ x y,blt x y=true->blt y x=false
 trans:∀ x y z,blt y x=false->blt z y=false->blt z x=false
 ask:∀ (x y:Wq) (st:WZ) (Q:Option Bool->WZ->Prop),In x->In y->kindOf st=k₀->Q (some (blt x y)) st->wpS M A E s (lt' x y) Q st
section
variable {M:Model} {A:WN} {E:acJ} {s:gs} {blt:Wq->Wq->Bool} {k₀:ZM} {In:Wq->Prop}
def Orc.lt_le (O:Orc M A E s blt k₀ In) {x y z:Wq} (h1:blt y x=false) (h2:blt y z=true):blt x z=true:=by
 cases e:blt x z with
 | true=>rfl
 | false=>rw [O.trans z x y e h1] at h2;cases h2
def Orc.le_lt (O:Orc M A E s blt k₀ In) {x y z:Wq} (h1:blt x y=true) (h2:blt z y=false):blt x z=true:=by
 cases e:blt x z with
 | true=>rfl
 | false=>rw [O.trans y z x h2 e] at h1;cases h1
def Orc.refl (O:Orc M A E s blt k₀ In) (x:Wq):blt x x=false:=by
 cases e:blt x x with
 | false=>rfl
 | true=>rw [O.asymm x x e] at e;cases e
def bm {arr:Array Wq} {i:Nat} {Q:Wq->WZ->Prop} {st:WZ} (h:i < arr.size) (I:Q arr[i] st):wpS M A E s (elem' arr i) Q st:=by
 rw [elem'_eq,getElem?_pos arr i h];exact tp I
def oy (blt:Wq->Wq->Bool) (left:Bool) (key x:Wq):Bool:=if left=true then blt x key else !(blt key x)
def KA (blt:Wq->Wq->Bool) (arr:Array Wq) (lo hi:Nat):Prop:=∀ i j (I:i < arr.size) (hj:j < arr.size),lo<=i->i<=j->j < hi->blt arr[j] arr[i]=false
def Fo (O:Orc M A E s blt k₀ In) {left:Bool} {key x y:Wq} (h:blt y x=false) (I:oy blt left key y=true):oy blt left key x=true:=by
 unfold oy at I ⊢;cases left with
 | true=>rw [acA rfl] at I ⊢;exact O.lt_le h I
 | false =>
  rw [acB iF] at I ⊢;have I:blt key y=false:=by cases e:blt key y <;> rw [e] at I <;> first|rfl|cases I
  rw [O.trans x y key h I];rfl
def uS (O:Orc M A E s blt k₀ In) {left:Bool} {key:Wq} {arr:Array Wq} {i:Nat} {Q:Option Bool->WZ->Prop} {st:WZ} (hi:i < arr.size) (Y:In key) (I:∀ j (h:j < arr.size),In arr[j]) (J:kindOf st=k₀) (L:Q (some (oy blt left key arr[i])) st) :
  wpS M A E s (do let x <- elem' arr i;if left=true then lt' x key else do let r <- lt' key x;pure (r.map fun x=>!x)) Q st:=by
 refine nE (bm hi ?_);cases left with
 | true =>
  rw [acA rfl];exact O.ask _ _ _ _ (I i hi) Y J L
 | false =>
  rw [acB iF];exact nE (O.ask _ _ _ _ Y (I i hi) J (tp L))
def fA (O:Orc M A E s blt k₀ In) {left:Bool} {key:Wq} {arr:Array Wq} {base n hint:Nat} {Q:Option Nat->WZ->Prop} {st:WZ} (hb:base+n<=arr.size) (hh:hint < n) (hk:In key) (ha:∀ j (h:j < arr.size),In arr[j]) (hst:kindOf st=k₀) (hsg:KA blt arr base (base+n))
  (hq:∀ k,k<=n->(∀ i (h:base+i < arr.size),i < k->oy blt left key arr[base+i]=true)->(∀ i (h:base+i < arr.size),k<=i->i < n->oy blt left key arr[base+i]=false)->Q (some k) st) :
  wpS M A E s (Ko left key arr base n hint) Q st:=by
 have up:∀ i j (h1:base+i < arr.size) (h2:base+j < arr.size),i<=j->j < n->oy blt left key arr[base+j]=true->oy blt left key arr[base+i]=true:=fun i j h1 h2 hij hj h=>Fo O (hsg _ _ h1 h2 (by walk_at "jc") (by walk_at "jc") (by walk_at "jc")) h;have dn:∀ i j (h1:base+i < arr.size) (h2:base+j < arr.size),i<=j->j < n->oy blt left key arr[base+i]=false->oy blt left key arr[base+j]=false:=fun i j h1 h2 hij hj h=>by
  cases e:oy blt left key arr[base+j] with
  | false=>rfl
  | true=>rw [up i j h1 h2 hij hj e] at h;cases h
 have last:∀ (lo hi:Nat),lo<=hi->hi<=n->(∀ i (h:base+i < arr.size),i < lo->oy blt left key arr[base+i]=true)->(∀ i (h:base+i < arr.size),hi<=i->i < n->oy blt left key arr[base+i]=false) ->
   ∀ (f:Nat->Option (Option Nat)×Nat×Nat->StateT WZ Sem (ForInStep (Option (Option Nat)×Nat×Nat))),
   (∀ (x lo hi:Nat) (R:ForInStep (Option (Option Nat)×Nat×Nat)->WZ->Prop),hi<=n->(lo ≥ hi->R (.done (none,lo,hi)) st) ->
    (∀ hm:base+(lo+(hi - lo)/2) < arr.size,lo < hi->oy blt left key arr[base+(lo+(hi - lo)/2)]=true->R (.yield (none,lo+(hi - lo)/2+1,hi)) st) ->
    (∀ hm:base+(lo+(hi - lo)/2) < arr.size,lo < hi->oy blt left key arr[base+(lo+(hi - lo)/2)]=false->R (.yield (none,lo,lo+(hi - lo)/2)) st)->wpS M A E s (f x (none,lo,hi)) R st) ->
   ∀ g:Option (Option Nat)×Nat×Nat->StateT WZ Sem (Option Nat),(∀ lo hi,g (none,lo,hi)=pure (some hi))->wpS M A E s (forIn [0:n] (none,lo,hi) f >>= g) Q st:=by
  intro lo hi hlh hin hlo hhi f hf g hg;refine nE (Yz (Xh (I:=fun x c L=>L=st/\∃ lo hi,c=(none,lo,hi)/\lo<=hi/\hi<=n/\hi - lo<=n - x/\(∀ i (h:base+i < arr.size),i < lo->oy blt left key arr[base+i]=true)/\(∀ i (h:base+i < arr.size),hi<=i->i < n->oy blt left key arr[base+i]=false))
   (Q:=fun c L=>L=st/\∃ lo hi,c=(none,lo,hi)/\lo=hi/\hi<=n/\(∀ i (h:base+i < arr.size),i < lo->oy blt left key arr[base+i]=true)/\(∀ i (h:base+i < arr.size),hi<=i->i < n->oy blt left key arr[base+i]=false)) ?step ?fin ⟨rfl,lo,hi,rfl,hlh,hin,by walk_at "jc",hlo,hhi⟩) ?post)
  case fin =>
   rintro c L ⟨rfl,lo,hi,rfl,h1,h2,h3,h4,h5⟩;exact ⟨rfl,lo,hi,rfl,by walk_at "jc",h2,h4,h5⟩
  case post =>
   rintro c L ⟨rfl,lo,hi,rfl,rfl,h2,h4,h5⟩;rw [hg];exact tp (hq lo h2 h4 h5)
  case step =>
   rintro x c L _ hx ⟨rfl,lo,hi,rfl,h1,h2,h3,h4,h5⟩;refine hf x lo hi _ h2 (fun hge=>⟨rfl,lo,hi,rfl,by walk_at "jc",h2,h4,h5⟩) (fun hm hl e=>?_) fun hm hl e=>?_
   .exact ⟨rfl,lo+(hi - lo)/2+1,hi,rfl,by walk_at "jc",h2,by walk_at "jc",fun i h hi'=>up i _ h hm (by walk_at "jc") (by walk_at "jc") e,h5⟩
   .exact ⟨rfl,lo,lo+(hi - lo)/2,rfl,by walk_at "jc",by walk_at "jc",by walk_at "jc",h4,fun i h h1' h2'=>dn _ i hm h h1' h2' e⟩
 refine nE (uS O (i:=base+hint) (by walk_at "jc") hk ha hst ?_);dsimp only;cases e:oy blt left key arr[base+hint] with
 | true =>
  rw [acA rfl];refine nE (Yz (Xh (I:=fun x c L=>L=st/\∃ J Y,c=(none,J,Y)/\J < Y/\x+1<=Y/\hint+J < n/\(∀ h:base+(hint+J) < arr.size,oy blt left key arr[base+(hint+J)]=true))
   (Q:=fun c L=>L=st/\∃ J Y,c=(none,J,Y)/\J < Y/\hint+J < n/\(∀ h:base+(hint+J) < arr.size,oy blt left key arr[base+(hint+J)]=true)/\(n - hint<=Y\/∀ h:base+(hint+Y) < arr.size,oy blt left key arr[base+(hint+Y)]=false)) ?step ?fin ⟨rfl,0,1,rfl,by walk_at "jc",by walk_at "jc",by walk_at "jc",fun _=>e⟩) ?post)
  case fin =>
   rintro c L ⟨rfl,l,o,rfl,h1,h2,h3,h4⟩;exact ⟨rfl,l,o,rfl,h1,h3,h4,.inl (by walk_at "jc")⟩
  case step =>
   rintro x c L _ hx ⟨rfl,l,o,rfl,h1,h2,h3,h4⟩;dsimp only;by_cases hge:o ≥ n - hint
   .rw [acA hge];exact tp ⟨rfl,l,o,rfl,h1,h3,h4,.inl hge⟩
   .rw [acB hge];have hm:base+(hint+o) < arr.size:=by walk_at "jc"
    refine nE (uS O hm hk ha hst ?_);cases e2:oy blt left key arr[base+(hint+o)] with
    | true =>
     simp only [Bool.not_true,Xu,if_false];exact tp ⟨rfl,o,2*o+1,rfl,by walk_at "jc",by walk_at "jc",by walk_at "jc",fun _=>e2⟩
    | false =>
     simp only [Bool.not_false,if_true];exact tp ⟨rfl,l,o,rfl,h1,h3,h4,.inr fun _=>e2⟩
  case post =>
   rintro c L ⟨rfl,l,o,rfl,h1,h3,h4,h5⟩;dsimp only;refine last (hint+l+1) (hint+min o (n - hint)) (by walk_at "jc") (by walk_at "jc") (fun i h hi=>up i (hint+l) h (by walk_at "jc") (by walk_at "jc") h3 (h4 (by walk_at "jc"))) (fun i h h1' h2'=>?_) _ ?hf _ ?hg
   case hf =>
    intro x lo hi R hin h1 h2 h3;dsimp only;by_cases hge:lo ≥ hi
    .rw [acA hge];exact tp (h1 hge)
    .rw [acB hge];have hm:base+(lo+(hi - lo)/2) < arr.size:=by walk_at "jc"
     refine nE (uS O hm hk ha hst ?_);cases e:oy blt left key arr[base+(lo+(hi - lo)/2)] with
     | true=>simp only [if_true];exact tp (h2 hm (by walk_at "jc") e)
     | false=>simp only [Xu,if_false];exact tp (h3 hm (by walk_at "jc") e)
   case hg=>intro lo hi;rfl
   rcases h5 with h5|h5
   .lia
   .by_cases ho:o<=n - hint
    .exact dn (hint+o) i (by walk_at "jc") h (by walk_at "jc") h2' (h5 (by walk_at "jc"))
    .lia
 | false =>
  rw [acB iF];refine nE (Yz (Xh (I:=fun x c L=>L=st/\∃ J Y,c=(none,J,Y)/\J < Y/\x+1<=Y/\J<=hint/\(∀ h:base+(hint - J) < arr.size,oy blt left key arr[base+(hint - J)]=false))
   (Q:=fun c L=>L=st/\∃ J Y,c=(none,J,Y)/\J < Y/\J<=hint/\(∀ h:base+(hint - J) < arr.size,oy blt left key arr[base+(hint - J)]=false)/\(hint+1<=Y\/∀ h:base+(hint - Y) < arr.size,oy blt left key arr[base+(hint - Y)]=true)) ?step2 ?fin2 ⟨rfl,0,1,rfl,by walk_at "jc",by walk_at "jc",by walk_at "jc",fun _=>e⟩) ?post2)
  case fin2 =>
   rintro c L ⟨rfl,l,o,rfl,h1,h2,h3,h4⟩;exact ⟨rfl,l,o,rfl,h1,h3,h4,.inl (by walk_at "jc")⟩
  case step2 =>
   rintro x c L _ hx ⟨rfl,l,o,rfl,h1,h2,h3,h4⟩;dsimp only;by_cases hge:o ≥ hint+1
   .rw [acA hge];exact tp ⟨rfl,l,o,rfl,h1,h3,h4,.inl hge⟩
   .rw [acB hge];have hm:base+(hint - o) < arr.size:=by walk_at "jc"
    refine nE (uS O hm hk ha hst ?_);cases e2:oy blt left key arr[base+(hint - o)] with
    | true =>
     simp only [if_true];exact tp ⟨rfl,l,o,rfl,h1,h3,h4,.inr fun _=>e2⟩
    | false =>
     simp only [Xu,if_false];exact tp ⟨rfl,o,2*o+1,rfl,by walk_at "jc",by walk_at "jc",by walk_at "jc",fun _=>e2⟩
  case post2 =>
   rintro c L ⟨rfl,l,o,rfl,h1,h3,h4,h5⟩;dsimp only;refine last (hint+1 - min o (hint+1)) (hint - l) (by walk_at "jc") (by walk_at "jc") (fun i h hi=>?_) (fun i h h1' h2'=>dn (hint - l) i (by walk_at "jc") h h1' h2' (h4 (by walk_at "jc"))) _ ?hf2 _ ?hg2
   case hf2 =>
    intro x lo hi R hin h1 h2 h3;dsimp only;by_cases hge:lo ≥ hi
    .rw [acA hge];exact tp (h1 hge)
    .rw [acB hge];have hm:base+(lo+(hi - lo)/2) < arr.size:=by walk_at "jc"
     refine nE (uS O hm hk ha hst ?_);cases e:oy blt left key arr[base+(lo+(hi - lo)/2)] with
     | true=>simp only [if_true];exact tp (h2 hm (by walk_at "jc") e)
     | false=>simp only [Xu,if_false];exact tp (h3 hm (by walk_at "jc") e)
   case hg2=>intro lo hi;rfl
   rcases h5 with h5|h5
   .lia
   .by_cases ho:o<=hint
    .exact up i (hint - o) h (by walk_at "jc") (by walk_at "jc") (by walk_at "jc") (h5 (by walk_at "jc"))
    .lia
end
structure MI (le:Wq->Wq->Prop) (tot o ra rb:List Wq):Prop where
 perm:(o++(ra++rb)).Perm tot
 so:o.Pairwise le
 sa:ra.Pairwise le
 sb:rb.Pairwise le
 bel:∀ x∈o,∀ y,y∈ra\/y∈rb->le x y
def Aq (le:Wq->Wq->Prop) (tot r:List Wq):Prop:=r.Perm tot/\r.Pairwise le
section
variable {le:Wq->Wq->Prop} {tot o ra rb:List Wq}
def Ca {xs:List Wq} (h:xs.Pairwise le) (k:Nat):(xs.take k).Pairwise le/\(xs.drop k).Pairwise le/\∀ x∈xs.take k,∀ y∈xs.drop k,le x y:=by
 have e:=XF k xs;rw [<- e,W1] at h;exact h
def MI.takeA (h:MI le tot o ra rb) (k:Nat) (L:∀ x∈ra.take k,∀ y∈rb,le x y):MI le tot (o++ra.take k) (ra.drop k) rb:=by
 obtain ⟨p1,p2,p3⟩:=Ca h.sa k;refine ⟨?_,?_,p2,h.sb,fun x I y J=>?_⟩
 .refine ZT ?_ h.perm;rw [WC,<- WC (ra.take k),XF]
 .rw [W1];exact ⟨h.so,p1,fun x I y J=>h.bel x I y (.inl (X6 J))⟩
 .rcases MK.mp I with I|I
  .exact h.bel x I y (J.imp X7 id)
  .rcases J with J|J
   .exact p3 x I y J
   .exact L x I y J
def MI.swap (h:MI le tot o ra rb):MI le tot o rb ra:=⟨(YS.append_left o).trans h.perm,h.so,h.sb,h.sa,fun x I y J=>h.bel x I y J.symm⟩
def MI.takeB (h:MI le tot o ra rb) (k:Nat) (I:∀ x∈rb.take k,∀ y∈ra,le x y):MI le tot (o++rb.take k) ra (rb.drop k):=(h.swap.takeA k I).swap
theorem MI.join (h:MI le tot o ra rb) (I:∀ x∈ra,∀ y∈rb,le x y):Aq le tot (o++ra++rb):=by
 refine ⟨by rw [WC];exact h.perm,?_⟩;rw [WC,W1,W1];exact ⟨h.so,⟨h.sa,h.sb,I⟩,fun x J y L=>h.bel x J y (MK.mp L)⟩
end
def jx (a:Array Wq) (i j:Nat):(a.extract i j).toList=(a.toList.drop i).take (j - i):=by
 rw [Array.toList_extract,List.extract_eq_drop_take]
def qG (a:Array Wq) (i:Nat):(a.extract i a.size).toList=a.toList.drop i:=by
 rw [jx,XT (by simp)]
def IY (a:Array Wq) {i:Nat} (h:i < a.size):a.toList.drop i=a[i]::a.toList.drop (i+1):=by
 rw [X0 (by simpa using h)];simp
def nX (a:Array Wq) {i:Nat} (h:i < a.size):(a.toList.drop i).take 1=[a[i]]:=by rw [IY a h];rfl
def mf (a:Array Wq) (i k:Nat):(a.toList.drop i).drop k=a.toList.drop (i+k):=by rw [aag]
def cR {a:Array Wq} {i:Nat} {x:Wq} (h:x∈a.toList.drop i):∃ j,∃ hj:j < a.size,i<=j/\a[j]=x:=by
 obtain ⟨j,hj,e⟩:=ZU h;rw [WI,Le] at hj;refine ⟨i+j,by omega,by omega,?_⟩;rw [<- e,aaw];simp
def j4 {a:Array Wq} {i k:Nat} {x:Wq} (h:x∈(a.toList.drop i).take k):∃ j,∃ hj:j < a.size,i<=j/\j < i+k/\a[j]=x:=by
 obtain ⟨j,hj,e⟩:=ZU h;rw [WA,WI,Le] at hj;refine ⟨i+j,by omega,by omega,by omega,?_⟩;rw [<- e,ab2,aaw];simp
def xo {blt:Wq->Wq->Bool} {a:Array Wq} (h:KA blt a 0 a.size):a.toList.Pairwise fun x y=>blt y x=false:=by
 rw [Xj];intro i j hi hj I;rw [Le] at hi hj;simpa using h i j hi hj (by omega) (by omega) hj
def E1:Array Wq->Array Wq->StateT WZ Sem (Array Wq):=sortPriv% PySem.Builtin.mergeLo
def G9:Array Wq->Array Wq->StateT WZ Sem (Array Wq):=sortPriv% PySem.Builtin.mergeHi
structure SG (st st':WZ):Prop where
 kind:kindOf st'=kindOf st
 arr:DO st'=DO st
 pend:Wz st'=Wz st
 failed:Xp st'=Xp st
def SG.refl (st:WZ):SG st st:=⟨rfl,rfl,rfl,rfl⟩
def SG.gal {st I:WZ} (h:SG st I) (g:Nat):SG st (Yn (kindOf I) (DO I) (Wz I) g (Xp I)):=⟨h.kind,h.arr,h.pend,h.failed⟩
section
variable {M:Model} {A:WN} {E:acJ} {s:gs} {blt:Wq->Wq->Bool} {k₀:ZM} {In:Wq->Prop}
abbrev iq (blt:Wq->Wq->Bool):Wq->Wq->Prop:=fun x y=>blt y x=false
def join_list (out x y:Array Wq):(out++x++y).toList=out.toList++x.toList++y.toList:=by simp
section
variable {a b:Array Wq}
def BW {out:Array Wq} {L I:Nat} {tot:List Wq} (h:MI (iq blt) tot out.toList (a.toList.drop L) (b.toList.drop I)) (hb:I < b.size) (hx:∀ j (hj:j < a.size),L<=j->blt a[j] b[I]=false) :
  MI (iq blt) tot (out.push b[I]).toList (a.toList.drop L) (b.toList.drop (I+1)):=by
 have:=h.takeB 1 (fun x J y hy=>by
  rw [nX b hb] at J;obtain ⟨j,hj,Y,rfl⟩:=cR hy;rw [Ws.mp J];exact hx j hj Y)
 rw [nX b hb,mf] at this;simpa using this
def zc {out:Array Wq} {I L:Nat} {tot:List Wq} (h:MI (iq blt) tot out.toList (a.toList.drop I) (b.toList.drop L)) (ha:I < a.size) (hx:∀ j (hj:j < b.size),L<=j->blt b[j] a[I]=false) :
  MI (iq blt) tot (out.push a[I]).toList (a.toList.drop (I+1)) (b.toList.drop L):=by
 have:=h.takeA 1 (fun x J y hy=>by
  rw [nX a ha] at J;obtain ⟨j,hj,Y,rfl⟩:=cR hy;rw [Ws.mp J];exact hx j hj Y)
 rw [nX a ha,mf] at this;simpa using this
def No {out:Array Wq} {I J k:Nat} {tot:List Wq} (h:MI (iq blt) tot out.toList (a.toList.drop I) (b.toList.drop J)) (Y:∀ i (hi:i < a.size) j (hj:j < b.size),I<=i->i < I+k->J<=j->blt b[j] a[i]=false) :
  MI (iq blt) tot (out++a.extract I (I+k)).toList (a.toList.drop (I+k)) (b.toList.drop J):=by
 have:=h.takeA k (fun x L y hy=>by
  obtain ⟨i,hi,h1,h2,rfl⟩:=j4 L;obtain ⟨j,hj,h3,rfl⟩:=cR hy;exact Y i hi j hj h1 h2 h3)
 rw [mf] at this;rw [YD,jx,show I+k - I=k by lia];exact this
def Gg {out:Array Wq} {J I k:Nat} {tot:List Wq} (h:MI (iq blt) tot out.toList (a.toList.drop J) (b.toList.drop I)) (Y:∀ i (hi:i < b.size) j (hj:j < a.size),I<=i->i < I+k->J<=j->blt a[j] b[i]=false) :
  MI (iq blt) tot (out++b.extract I (I+k)).toList (a.toList.drop J) (b.toList.drop (I+k)):=by
 have:=h.takeB k (fun x L y hy=>by
  obtain ⟨i,hi,h1,h2,rfl⟩:=j4 L;obtain ⟨j,hj,h3,rfl⟩:=cR hy;exact Y i hi j hj h1 h2 h3)
 rw [mf] at this;rw [YD,jx,show I+k - I=k by lia];exact this
end
def aG {α:Type} {c:Prop} [Decidable c] {x y:StateT WZ Sem α} {Q:α->WZ->Prop} {st:WZ} (h1:c->wpS M A E s x Q st) (h2:¬ c->wpS M A E s y Q st):wpS M A E s (if c then x else y) Q st:=by
 by_cases h:c
 .rw [acA h];exact h1 h
 .rw [acB h];exact h2 h
def v6 {key x:Wq} {r:Bool} (h:oy blt false key x=r):blt key x=!r:=by
 unfold oy at h;rw [acB iF] at h;rw [<- h,Bool.not_not]
def oW {key x:Wq} {r:Bool} (h:oy blt true key x=r):blt x key=r:=by
 unfold oy at h;rw [acA rfl] at h;exact h
def AN (O:Orc M A E s blt k₀ In) {a b:Array Wq} {Q:Array Wq->WZ->Prop} {st:WZ} (hst:kindOf st=k₀) (hA:∀ j (h:j < a.size),In a[j]) (hB:∀ j (h:j < b.size),In b[j]) (sa:KA blt a 0 a.size) (sb:KA blt b 0 b.size)
  (ha:0 < a.size) (hb:0 < b.size) (h0:blt b[0] a[0]=true) (hlast:∀ j (h:j < b.size),blt b[j] a[a.size - 1]=true)
  (hq:∀ (r:Array Wq) st',SG st st'->Aq (iq blt) (a.toList++b.toList) r.toList->Q r st'):wpS M A E s (E1 a b) Q st:=by
 have fin1:∀ (out:Array Wq) (ia ib:Nat),MI (iq blt) (a.toList++b.toList) out.toList (a.toList.drop ia) (b.toList.drop ib)->(ib=b.size\/ia=a.size)->Aq (iq blt) (a.toList++b.toList) (out++a.extract ia a.size++b.extract ib b.size).toList:=by
  intro out ia ib h he;rw [join_list,qG,qG];refine h.join fun x hx y hy=>?_;obtain ⟨i,hi,h1,_⟩:=cR hx;obtain ⟨j,hj,h2,_⟩:=cR hy;lia
 have fin2:∀ (out:Array Wq) (ia ib:Nat),MI (iq blt) (a.toList++b.toList) out.toList (a.toList.drop ia) (b.toList.drop ib)->ia+1=a.size->Aq (iq blt) (a.toList++b.toList) (out++b.extract ib b.size++a.extract ia a.size).toList:=by
  intro out ia ib h he;rw [join_list,qG,qG];refine h.swap.join fun x hx y hy=>?_;obtain ⟨i,hi,h1,rfl⟩:=cR hx;obtain ⟨j,hj,h2,rfl⟩:=cR hy
  have:j=a.size - 1:=by lia
  subst this;exact O.asymm _ _ (hlast i hi)
 have mi0:MI (iq blt) (a.toList++b.toList) (#[b[0]]:Array Wq).toList (a.toList.drop 0) (b.toList.drop (0+1)):=by
  have z:MI (iq blt) (a.toList++b.toList) (#[]:Array Wq).toList (a.toList.drop 0) (b.toList.drop 0):=⟨acu _,YX,xo sa,xo sb,fun x hx=>by cases hx⟩
  have:=BW z hb (fun j hj _=>O.asymm _ _ (O.le_lt h0 (sa 0 j ha hj (by lia) (by lia) hj)))
  simpa using this
 refine nE (Zz (YO ⟨rfl,?_⟩));dsimp only;refine nE (bm hb ?_);by_cases hb1:1=b.size
 .rw [acA (by simpa using hb1)];exact tp (hq _ _ (SG.refl st) (fin1 _ _ _ mi0 (.inl hb1)))
 rw [acB (by simpa using hb1)];by_cases ha1:0+1=a.size
 .rw [acA (by simpa using ha1)];exact tp (hq _ _ (SG.refl st) (fin2 _ _ _ mi0 ha1))
 rw [acB (by simpa using ha1)];refine nE (Ze ?_);refine nE (Yz (Xh (I:=fun x c st'=>SG st st'/\∃ out ia ib mg,c=(none,out,ia,ib,mg)/\MI (iq blt) (a.toList++b.toList) out.toList (a.toList.drop ia) (b.toList.drop ib)/\ia+1 < a.size/\ib < b.size/\x<=ia+ib)
  (Q:=fun c st'=>SG st st'/\∃ r rest,c=(some r,rest)/\Aq (iq blt) (a.toList++b.toList) r.toList) ?step ?fin ⟨SG.refl st,_,0,1,_,rfl,mi0,by lia,by lia,by lia⟩) ?post)
 case post =>
  rintro c st' ⟨hg,r,rest,rfl,hr⟩;exact tp (hq r st' hg hr)
 case fin =>
  rintro c st' ⟨hg,out,ia,ib,mg,rfl,hm,h1,h2,h3⟩;lia
 case step =>
  rintro x c st1 _ hx ⟨hg,out,ia,ib,mg,rfl,hm,h1,h2,h3⟩;dsimp only;refine nE (Yz (Xh (I:=fun y c st'=>SG st st'/\∃ out Y ib' ac bc,c=(none,out,Y,ib',ac,bc)/\MI (iq blt) (a.toList++b.toList) out.toList (a.toList.drop Y) (b.toList.drop ib')/\Y+1 < a.size/\ib' < b.size/\ia+ib+y<=Y+ib')
   (Q:=fun c st'=>SG st st'/\((∃ r rest,c=(some r,rest)/\Aq (iq blt) (a.toList++b.toList) r.toList)\/∃ out Y ib' ac bc,c=(none,out,Y,ib',ac,bc)/\MI (iq blt) (a.toList++b.toList) out.toList (a.toList.drop Y) (b.toList.drop ib')/\Y+1 < a.size/\ib' < b.size/\ia+ib+1<=Y+ib')) ?step1 ?fin1 ⟨hg,out,ia,ib,0,0,rfl,hm,h1,h2,by lia⟩) ?post1)
  case fin1 =>
   rintro c st' ⟨hg,out,Y,ib',ac,bc,rfl,hm,h1,h2,h3⟩;lia
  case step1 =>
   rintro y c st2 _ hy ⟨hg,out,Y,ib',ac,bc,rfl,hm,h1,h2,h3⟩;dsimp only;refine nE (bm h2 (nE (bm (show Y < a.size by lia) ?_)));refine nE (O.ask _ _ _ _ (hB _ _) (hA _ _) (hg.kind.trans hst) ?_);dsimp only;cases e:blt b[ib'] a[Y] with
   | true =>
    rw [acA rfl];refine nE (bm h2 ?_);have hm':=BW hm h2 (fun j hj hij=>O.asymm _ _ (O.le_lt e (sa Y j (by lia) hj (by lia) hij hj)));by_cases hbe:ib'+1=b.size
    .rw [acA (by simpa using hbe)];exact tp ⟨hg,.inl ⟨_,_,rfl,fin1 _ _ _ hm' (.inl hbe)⟩⟩
    .rw [acB (by simpa using hbe)];split
     .exact tp ⟨hg,.inr ⟨_,_,_,_,_,rfl,hm',h1,by lia,by lia⟩⟩
     .exact tp ⟨hg,_,_,_,_,_,rfl,hm',h1,by lia,by lia⟩
   | false =>
    rw [acB iF];refine nE (bm (show Y < a.size by lia) ?_);have hm':=zc hm (show Y < a.size by lia) (fun j hj hij=>O.trans _ _ _ e (sb ib' j h2 hj (by lia) hij hj));by_cases hae:Y+1+1=a.size
    .rw [acA (by simpa using hae)];exact tp ⟨hg,.inl ⟨_,_,rfl,fin2 _ _ _ hm' hae⟩⟩
    .rw [acB (by simpa using hae)];split
     .exact tp ⟨hg,.inr ⟨_,_,_,_,_,rfl,hm',by lia,h2,by lia⟩⟩
     .exact tp ⟨hg,_,_,_,_,_,rfl,hm',by lia,h2,by lia⟩
  case post1 =>
   rintro c st2 ⟨hg,h⟩;rcases h with ⟨r,rest,rfl,hr⟩|⟨out,Y,ib',ac,bc,rfl,hm,h1,h2,h4⟩
   .exact tp ⟨hg,r,_,rfl,hr⟩
   dsimp only;refine nE (Zz (YO ⟨rfl,?_⟩));refine nE (Yz (Xh (I:=fun y c st'=>SG st st'/\∃ out L J mg ac bc,c=(none,out,L,J,mg,ac,bc)/\MI (iq blt) (a.toList++b.toList) out.toList (a.toList.drop L) (b.toList.drop J)/\L+1 < a.size/\J < b.size/\Y+ib'+y<=L+J)
    (Q:=fun c st'=>SG st st'/\((∃ r rest,c=(some r,rest)/\Aq (iq blt) (a.toList++b.toList) r.toList)\/∃ out L J mg ac bc,c=(none,out,L,J,mg,ac,bc)/\MI (iq blt) (a.toList++b.toList) out.toList (a.toList.drop L) (b.toList.drop J)/\L+1 < a.size/\J < b.size/\Y+ib'<=L+J)) ?step2 ?fin2 ⟨hg,out,Y,ib',_,ac,bc,rfl,hm,h1,h2,by lia⟩) ?post2)
   case fin2 =>
    rintro c st' ⟨hg,out,L,J,mg,ac,bc,rfl,hm,h1,h2,h3⟩;lia
   case post2 =>
    rintro c st3 ⟨hg,h⟩;rcases h with ⟨r,rest,rfl,hr⟩|⟨out,L,J,mg,ac,bc,rfl,hm,h1,h2,h5⟩
    .exact tp ⟨hg,r,_,rfl,hr⟩
    .dsimp only;exact nE (Yd (tp ⟨hg.gal _,out,L,J,_,rfl,hm,h1,h2,by lia⟩))
   case step2 =>
    rintro y c st3 _ hy ⟨hg,out,L,J,mg,ac,bc,rfl,hm,h1,h2,h5⟩;refine aG (fun _=>?_) (fun _=>?_)
    all_goals
     refine nE (Yd ?_);refine nE (bm h2 ?_);refine nE (fA O (base:=L) (n:=a.size - L) (hint:=0) (by lia) (by lia) (hB _ _) hA ((hg.gal _).kind.trans hst) (fun i j hi hj p1 p2 p3=>sa i j hi hj (by lia) p2 hj) fun k hk u1 u2=>?_);have hm1:=No (k:=k) hm (fun i hi j hj p1 p2 p3=>O.trans _ _ _ (v6 (by have:=u1 (i - L) (by lia) (by lia);simpa only [show L+(i - L)=i by lia] using this)) (sb J j h2 hj (by lia) p3 hj));have u3:∀ j (hj:j < a.size),L+k<=j->blt b[J] a[j]=true:=fun j hj hij=>v6 (by have:=u2 (j - L) (by lia) (by lia) (by lia);simpa only [show L+(j - L)=j by lia] using this);refine aG (fun hk0=>?_) (fun hk0=>?_)
     .refine aG (fun hc=>tp ⟨hg.gal _,.inl ⟨_,_,rfl,fin2 _ _ _ hm1 (by simpa using hc)⟩⟩) (fun hc=>?_);refine aG (fun hd=>tp ⟨hg.gal _,.inl ⟨_,_,rfl,fin1 _ _ _ hm1 (.inr (by simpa using hd))⟩⟩) (fun hd=>?_);have hc:L+k+1≠a.size:=by simpa using hc
      have hd:L+k≠a.size:=by simpa using hd
      have hm3:=hm1;have u4:=u3;have h3a:L+k < a.size:=by lia
      refine nE (bm h2 ?_);have hm4:=BW hm3 h2 (fun j hj hij=>O.asymm _ _ (u4 j hj hij));refine aG (fun hc=>tp ⟨hg.gal _,.inl ⟨_,_,rfl,fin1 _ _ _ hm4 (.inl (by simpa using hc))⟩⟩) (fun hc=>?_);have hc:J+1≠b.size:=by simpa using hc
      refine nE (bm h3a ?_);refine nE (fA O (base:=J+1) (n:=b.size - (J+1)) (hint:=0) (by lia) (by lia) (hA _ _) hB ((hg.gal _).kind.trans hst) (fun i j hi hj p1 p2 p3=>sb i j hi hj (by lia) p2 hj) fun k2 hk2 v1 v2=>?_);have hm5:=Gg (k:=k2) hm4 (fun i hi j hj p1 p2 p3=>O.asymm _ _ (O.le_lt (oW (by have:=v1 (i - (J+1)) (by lia) (by lia);simpa only [show J+1+(i - (J+1))=i by lia] using this)) (sa _ j h3a hj (by lia) p3 hj)));have v3:∀ j (hj:j < b.size),J+1+k2<=j->blt b[j] (a[L+k]'h3a)=false:=fun j hj hij=>oW (by have:=v2 (j - (J+1)) (by lia) (by lia) (by lia);simpa only [show J+1+(j - (J+1))=j by lia] using this);refine aG (fun hk1=>?_) (fun hk1=>?_)
      .refine aG (fun hd=>tp ⟨hg.gal _,.inl ⟨_,_,rfl,fin1 _ _ _ hm5 (.inl (by simpa using hd))⟩⟩) (fun hd=>?_);have hd:J+1+k2≠b.size:=by simpa using hd
       refine nE (bm h3a ?_);have hm6:=zc hm5 h3a v3;refine aG (fun he=>tp ⟨hg.gal _,.inl ⟨_,_,rfl,fin2 _ _ _ hm6 (by simpa using he)⟩⟩) (fun he=>?_);have he:(L+k)+1+1≠a.size:=by simpa using he
       exact aG (fun hf=>tp ⟨hg.gal _,.inr ⟨_,(L+k)+1,(J+1+k2),_,_,_,rfl,hm6,by lia,by lia,by lia⟩⟩) (fun hf=>tp ⟨hg.gal _,_,(L+k)+1,(J+1+k2),_,_,_,rfl,hm6,by lia,by lia,by lia⟩)
      .refine nE (bm h3a ?_);have hm6:=zc hm4 h3a (fun j hj hij=>v3 j hj (by lia));refine aG (fun he=>tp ⟨hg.gal _,.inl ⟨_,_,rfl,fin2 _ _ _ hm6 (by simpa using he)⟩⟩) (fun he=>?_);have he:(L+k)+1+1≠a.size:=by simpa using he
       exact aG (fun hf=>tp ⟨hg.gal _,.inr ⟨_,(L+k)+1,(J+1),_,_,_,rfl,hm6,by lia,by lia,by lia⟩⟩) (fun hf=>tp ⟨hg.gal _,_,(L+k)+1,(J+1),_,_,_,rfl,hm6,by lia,by lia,by lia⟩)
     .have hm3:=hm;have u4:∀ j (hj:j < a.size),L<=j->blt b[J] a[j]=true:=fun j hj hij=>u3 j hj (by lia);have h3a:L < a.size:=by lia
      refine nE (bm h2 ?_);have hm4:=BW hm3 h2 (fun j hj hij=>O.asymm _ _ (u4 j hj hij));refine aG (fun hc=>tp ⟨hg.gal _,.inl ⟨_,_,rfl,fin1 _ _ _ hm4 (.inl (by simpa using hc))⟩⟩) (fun hc=>?_);have hc:J+1≠b.size:=by simpa using hc
      refine nE (bm h3a ?_);refine nE (fA O (base:=J+1) (n:=b.size - (J+1)) (hint:=0) (by lia) (by lia) (hA _ _) hB ((hg.gal _).kind.trans hst) (fun i j hi hj p1 p2 p3=>sb i j hi hj (by lia) p2 hj) fun k2 hk2 v1 v2=>?_);have hm5:=Gg (k:=k2) hm4 (fun i hi j hj p1 p2 p3=>O.asymm _ _ (O.le_lt (oW (by have:=v1 (i - (J+1)) (by lia) (by lia);simpa only [show J+1+(i - (J+1))=i by lia] using this)) (sa _ j h3a hj (by lia) p3 hj)));have v3:∀ j (hj:j < b.size),J+1+k2<=j->blt b[j] (a[L]'h3a)=false:=fun j hj hij=>oW (by have:=v2 (j - (J+1)) (by lia) (by lia) (by lia);simpa only [show J+1+(j - (J+1))=j by lia] using this);refine aG (fun hk1=>?_) (fun hk1=>?_)
      .refine aG (fun hd=>tp ⟨hg.gal _,.inl ⟨_,_,rfl,fin1 _ _ _ hm5 (.inl (by simpa using hd))⟩⟩) (fun hd=>?_);have hd:J+1+k2≠b.size:=by simpa using hd
       refine nE (bm h3a ?_);have hm6:=zc hm5 h3a v3;refine aG (fun he=>tp ⟨hg.gal _,.inl ⟨_,_,rfl,fin2 _ _ _ hm6 (by simpa using he)⟩⟩) (fun he=>?_);have he:L+1+1≠a.size:=by simpa using he
       exact aG (fun hf=>tp ⟨hg.gal _,.inr ⟨_,L+1,(J+1+k2),_,_,_,rfl,hm6,by lia,by lia,by lia⟩⟩) (fun hf=>tp ⟨hg.gal _,_,L+1,(J+1+k2),_,_,_,rfl,hm6,by lia,by lia,by lia⟩)
      .refine nE (bm h3a ?_);have hm6:=zc hm4 h3a (fun j hj hij=>v3 j hj (by lia));refine aG (fun he=>tp ⟨hg.gal _,.inl ⟨_,_,rfl,fin2 _ _ _ hm6 (by simpa using he)⟩⟩) (fun he=>?_);have he:L+1+1≠a.size:=by simpa using he
       exact aG (fun hf=>tp ⟨hg.gal _,.inr ⟨_,L+1,(J+1),_,_,_,rfl,hm6,by lia,by lia,by lia⟩⟩) (fun hf=>tp ⟨hg.gal _,_,L+1,(J+1),_,_,_,rfl,hm6,by lia,by lia,by lia⟩)
end
structure MJ (le:Wq->Wq->Prop) (tot o ra rb:List Wq):Prop where
 perm:(ra++rb++o).Perm tot
 so:o.Pairwise le
 sa:ra.Pairwise le
 sb:rb.Pairwise le
 bel:∀ y∈o,∀ x,x∈ra\/x∈rb->le x y
section
variable {le:Wq->Wq->Prop} {tot o ra rb:List Wq}
def MJ.swap (h:MJ le tot o ra rb):MJ le tot o rb ra:=⟨(YS.append_right o).trans h.perm,h.so,h.sb,h.sa,fun x I y J=>h.bel x I y J.symm⟩
def MJ.takeA (h:MJ le tot o ra rb) (k:Nat) (L:∀ x∈ra.drop k,∀ y∈rb,le y x):MJ le tot (ra.drop k++o) (ra.take k) rb:=by
 obtain ⟨p1,p2,p3⟩:=Ca h.sa k;refine ⟨?_,?_,p1,h.sb,fun y J x I=>?_⟩
 .refine ZT ?_ h.perm;rw [WC,WC ra];have e:ra++(rb++o)=ra.take k++(ra.drop k++(rb++o)):=by rw [<- WC (ra.take k),XF]
  rw [e,<- WC rb,<- WC (ra.drop k)];exact ((YS.append_right o)).append_left _
 .rw [W1];exact ⟨p2,h.so,fun x I y J=>h.bel y J x (.inl (X7 I))⟩
 .rcases MK.mp J with J|J
  .rcases I with I|I
   .exact p3 x I y J
   .exact L y J x I
  .exact h.bel y J x (I.imp X6 id)
def MJ.takeB (h:MJ le tot o ra rb) (k:Nat) (I:∀ x∈rb.drop k,∀ y∈ra,le y x):MJ le tot (rb.drop k++o) ra (rb.take k):=(h.swap.takeA k I).swap
theorem MJ.join (h:MJ le tot o ra rb) (I:∀ x∈ra,∀ y∈rb,le x y):Aq le tot (ra++rb++o):=by
 refine ⟨h.perm,?_⟩;rw [W1,W1];exact ⟨⟨h.sa,h.sb,I⟩,h.so,fun x J y L=>h.bel y L x (MK.mp J)⟩
end
def ot (a:Array Wq) (n:Nat):(a.extract 0 n).toList=a.toList.take n:=by
 rw [jx,YM,Z8]
def fj {a:Array Wq} {n:Nat} {x:Wq} (h:x∈a.toList.take n):∃ j,∃ hj:j < a.size,j < n/\a[j]=x:=by
 obtain ⟨j,hj,h1,h2,e⟩:=j4 (i:=0) (k:=n) (by rw [YM];exact h);exact ⟨j,hj,by lia,e⟩
def mem_mid {a:Array Wq} {n k:Nat} {x:Wq} (h:x∈(a.toList.take n).drop k):∃ j,∃ hj:j < a.size,k<=j/\j < n/\a[j]=x:=by
 obtain ⟨j,hj,e⟩:=ZU h;rw [WI,WA,Le] at hj;refine ⟨k+j,by lia,by lia,by lia,?_⟩;rw [<- e,aaw,ab2];simp
def zA (a:Array Wq) (i j:Nat):(a.extract i j).toList=(a.toList.take j).drop i:=by
 rw [jx,List.drop_take]
def qI (a:Array Wq) {n:Nat} (h:n < a.size):(a.toList.take (n+1)).drop n=[a[n]]:=by
 rw [List.drop_take,show n+1 - n=1 by lia,nX a h]
def lX (a:Array Wq) {n k:Nat} (h:k<=n):(a.toList.take n).take k=a.toList.take k:=by rw [List.take_take,show min k n=k by lia]
section
variable {M:Model} {A:WN} {E:acJ} {s:gs} {blt:Wq->Wq->Bool} {k₀:ZM} {In:Wq->Prop} {a b:Array Wq}
def GS {out:Array Wq} {na nb:Nat} {tot:List Wq} (h:MJ (iq blt) tot out.toList.reverse (a.toList.take (na+1)) (b.toList.take nb)) (L:na < a.size) (Y:∀ j (hj:j < b.size),j < nb->blt a[na] b[j]=false) :
  MJ (iq blt) tot (out.push a[na]).toList.reverse (a.toList.take na) (b.toList.take nb):=by
 have:=h.takeA na (fun x I y hy=>by
  rw [qI a L] at I;obtain ⟨j,hj,J,rfl⟩:=fj hy;rw [Ws.mp I];exact Y j hj J)
 rw [qI a L,lX a (by lia)] at this;simpa using this
def MW {out:Array Wq} {na nb:Nat} {tot:List Wq} (h:MJ (iq blt) tot out.toList.reverse (a.toList.take na) (b.toList.take (nb+1))) (L:nb < b.size) (Y:∀ j (hj:j < a.size),j < na->blt b[nb] a[j]=false) :
  MJ (iq blt) tot (out.push b[nb]).toList.reverse (a.toList.take na) (b.toList.take nb):=by
 have:=h.takeB nb (fun x I y hy=>by
  rw [qI b L] at I;obtain ⟨j,hj,J,rfl⟩:=fj hy;rw [Ws.mp I];exact Y j hj J)
 rw [qI b L,lX b (by lia)] at this;simpa using this
def JQ {out:Array Wq} {na nb k:Nat} {tot:List Wq} (h:MJ (iq blt) tot out.toList.reverse (a.toList.take na) (b.toList.take nb)) (L:k<=na) (J:∀ i (hi:i < a.size) j (hj:j < b.size),k<=i->i < na->j < nb->blt a[i] b[j]=false) :
  MJ (iq blt) tot (out++(a.extract k na).reverse).toList.reverse (a.toList.take k) (b.toList.take nb):=by
 have:=h.takeA k (fun x I y Y=>by
  obtain ⟨i,hi,h1,h2,rfl⟩:=mem_mid I;obtain ⟨j,hj,h3,rfl⟩:=fj Y;exact J i hi j hj h1 h2 h3)
 rw [lX a L] at this;rw [YD,abr,abE,ZK,zA];exact this
def CZ {out:Array Wq} {na nb k:Nat} {tot:List Wq} (h:MJ (iq blt) tot out.toList.reverse (a.toList.take na) (b.toList.take nb)) (L:k<=nb) (J:∀ i (hi:i < b.size) j (hj:j < a.size),k<=i->i < nb->j < na->blt b[i] a[j]=false) :
  MJ (iq blt) tot (out++(b.extract k nb).reverse).toList.reverse (a.toList.take na) (b.toList.take k):=by
 have:=h.takeB k (fun x I y Y=>by
  obtain ⟨i,hi,h1,h2,rfl⟩:=mem_mid I;obtain ⟨j,hj,h3,rfl⟩:=fj Y;exact J i hi j hj h1 h2 h3)
 rw [lX b L] at this;rw [YD,abr,abE,ZK,zA];exact this
def qF {out:Array Wq} {na nb:Nat} {tot:List Wq} (h:MJ (iq blt) tot out.toList.reverse (a.toList.take na) (b.toList.take nb)) (L:0 < na) (I:na - 1 < a.size) (J:∀ j (hj:j < b.size),j < nb->blt a[na - 1] b[j]=false) :
  MJ (iq blt) tot (out.push a[na - 1]).toList.reverse (a.toList.take (na - 1)) (b.toList.take nb):=by
 obtain ⟨m,rfl⟩:∃ m,na=m+1:=⟨na - 1,by lia⟩;exact GS h I J
def w8 {out:Array Wq} {na nb:Nat} {tot:List Wq} (h:MJ (iq blt) tot out.toList.reverse (a.toList.take na) (b.toList.take nb)) (L:0 < nb) (I:nb - 1 < b.size) (J:∀ j (hj:j < a.size),j < na->blt b[nb - 1] a[j]=false) :
  MJ (iq blt) tot (out.push b[nb - 1]).toList.reverse (a.toList.take na) (b.toList.take (nb - 1)):=by
 obtain ⟨m,rfl⟩:∃ m,nb=m+1:=⟨nb - 1,by lia⟩;exact MW h I J
def Am (x y out:Array Wq):(x++y++out.reverse).toList=x.toList++y.toList++out.toList.reverse:=by simp
def Ax (O:Orc M A E s blt k₀ In) {Q:Array Wq->WZ->Prop} {st:WZ} (hst:kindOf st=k₀) (hA:∀ j (h:j < a.size),In a[j]) (hB:∀ j (h:j < b.size),In b[j]) (sa:KA blt a 0 a.size) (sb:KA blt b 0 b.size)
  (ha:0 < a.size) (hb:0 < b.size) (h0:blt b[0] a[0]=true) (hlast:∀ j (h:j < b.size),blt b[j] a[a.size - 1]=true)
  (hq:∀ (r:Array Wq) st',SG st st'->Aq (iq blt) (a.toList++b.toList) r.toList->Q r st'):wpS M A E s (G9 a b) Q st:=by
 have fin1:∀ (out:Array Wq) (na nb:Nat),MJ (iq blt) (a.toList++b.toList) out.toList.reverse (a.toList.take na) (b.toList.take nb)->(na=0\/nb=0)->Aq (iq blt) (a.toList++b.toList) (a.extract 0 na++b.extract 0 nb++out.reverse).toList:=by
  intro out na nb h he;rw [Am,ot,ot];refine h.join fun x hx y hy=>?_;obtain ⟨i,hi,h1,_⟩:=fj hx;obtain ⟨j,hj,h2,_⟩:=fj hy;lia
 have fin2:∀ (out:Array Wq) (na nb:Nat),MJ (iq blt) (a.toList++b.toList) out.toList.reverse (a.toList.take na) (b.toList.take nb)->nb=1->Aq (iq blt) (a.toList++b.toList) (b.extract 0 nb++a.extract 0 na++out.reverse).toList:=by
  intro out na nb h he;rw [Am,ot,ot];refine h.swap.join fun x hx y hy=>?_;obtain ⟨i,hi,h1,rfl⟩:=fj hx;obtain ⟨j,hj,h2,rfl⟩:=fj hy
  have:i=0:=by lia
  subst this;exact O.asymm _ _ (O.le_lt h0 (sa 0 j ha hj (by lia) (by lia) hj))
 have hna:a.size - 1 < a.size:=by lia
 have mi0:MJ (iq blt) (a.toList++b.toList) (#[a[a.size - 1]]:Array Wq).toList.reverse (a.toList.take (a.size - 1)) (b.toList.take b.size):=by
  have z:MJ (iq blt) (a.toList++b.toList) (#[]:Array Wq).toList.reverse (a.toList.take (a.size - 1+1)) (b.toList.take b.size):=by
   rw [show a.size - 1+1=a.size by lia,XT (by simp),XT (by simp)];exact ⟨by simp,YX,xo sa,xo sb,fun x hx=>by cases hx⟩
  have:=GS z hna (fun j hj _=>O.asymm _ _ (hlast j hj))
  simpa using this
 refine nE (Zz (YO ⟨rfl,?_⟩));refine nE (bm hna ?_);refine aG (fun h=>tp (hq _ _ (SG.refl st) (fin1 _ _ _ mi0 (.inl (by simpa using h))))) (fun hn0=>?_);refine aG (fun h=>tp (hq _ _ (SG.refl st) (fin2 _ _ _ mi0 (by simpa using h)))) (fun hn1=>?_);have hn0:a.size - 1≠0:=by simpa using hn0
 have hn1:b.size≠1:=by simpa using hn1
 refine nE (Ze ?_);refine nE (Yz (Xh (I:=fun x c st'=>SG st st'/\∃ out na nb mg,c=(none,na,nb,out,mg)/\MJ (iq blt) (a.toList++b.toList) out.toList.reverse (a.toList.take na) (b.toList.take nb)/\0 < na/\na < a.size/\1 < nb/\nb<=b.size/\x+na+nb<=a.size+b.size)
  (Q:=fun c st'=>SG st st'/\∃ r rest,c=(some r,rest)/\Aq (iq blt) (a.toList++b.toList) r.toList) ?step ?fin ⟨SG.refl st,_,_,_,_,rfl,mi0,by lia,by lia,by lia,by lia,by lia⟩) ?post)
 case post =>
  rintro c st' ⟨hg,r,rest,rfl,hr⟩;exact tp (hq r st' hg hr)
 case fin =>
  rintro c st' ⟨hg,out,na,nb,mg,rfl,hm,h1,h2,h3,h4,h5⟩;lia
 case step =>
  rintro x c st1 _ hx ⟨hg,out,na,nb,mg,rfl,hm,h1,h2,h3,h4,h5⟩;refine nE (Yz (Xh (I:=fun y c st'=>SG st st'/\∃ out na' Y ac bc,c=(none,na',Y,out,ac,bc)/\MJ (iq blt) (a.toList++b.toList) out.toList.reverse (a.toList.take na') (b.toList.take Y)/\0 < na'/\na' < a.size/\1 < Y/\Y<=b.size/\y+na'+Y<=na+nb)
   (Q:=fun c st'=>SG st st'/\((∃ r rest,c=(some r,rest)/\Aq (iq blt) (a.toList++b.toList) r.toList)\/∃ out na' Y ac bc,c=(none,na',Y,out,ac,bc)/\MJ (iq blt) (a.toList++b.toList) out.toList.reverse (a.toList.take na') (b.toList.take Y)/\0 < na'/\na' < a.size/\1 < Y/\Y<=b.size/\1+na'+Y<=na+nb)) ?step1 ?fin1 ⟨hg,out,na,nb,0,0,rfl,hm,h1,h2,h3,h4,by lia⟩) ?post1)
  case fin1 =>
   rintro c st' ⟨hg,out,na',Y,ac,bc,rfl,hm,h1,h2,h3,h4,h5⟩;lia
  case step1 =>
   rintro y c st2 _ hy ⟨hg,out,na',Y,ac,bc,rfl,hm,h1,h2,h3,h4,h5⟩;have i1:Y - 1 < b.size:=by lia
   have i2:na' - 1 < a.size:=by lia
   refine nE (bm i1 (nE (bm i2 ?_)));refine nE (O.ask _ _ _ _ (hB _ _) (hA _ _) (hg.kind.trans hst) ?_);cases e:blt b[Y - 1] a[na' - 1] with
   | true =>
    refine nE (bm i2 ?_);have hm':=qF hm (by lia) i2 (fun j hj hij=>O.asymm _ _ (O.lt_le (sb j (Y - 1) hj i1 (by lia) (by lia) i1) e));refine aG (fun hz=>tp ⟨hg,.inl ⟨_,_,rfl,fin1 _ _ _ hm' (.inl (by simpa using hz))⟩⟩) (fun hz=>?_);have hz:na' - 1≠0:=by simpa using hz
    exact aG (fun _=>tp ⟨hg,.inr ⟨_,na' - 1,Y,_,_,rfl,hm',by lia,by lia,by lia,by lia,by lia⟩⟩) (fun _=>tp ⟨hg,_,na' - 1,Y,_,_,rfl,hm',by lia,by lia,by lia,by lia,by lia⟩)
   | false =>
    refine nE (bm i1 ?_);have hm':=w8 hm (by lia) i1 (fun j hj hij=>O.trans _ _ _ (sa j (na' - 1) hj i2 (by lia) (by lia) i2) e);refine aG (fun hz=>tp ⟨hg,.inl ⟨_,_,rfl,fin2 _ _ _ hm' (by simpa using hz)⟩⟩) (fun hz=>?_);have hz:Y - 1≠1:=by simpa using hz
    exact aG (fun _=>tp ⟨hg,.inr ⟨_,na',Y - 1,_,_,rfl,hm',by lia,by lia,by lia,by lia,by lia⟩⟩) (fun _=>tp ⟨hg,_,na',Y - 1,_,_,rfl,hm',by lia,by lia,by lia,by lia,by lia⟩)
  case post1 =>
   rintro c st2 ⟨hg,h⟩;rcases h with ⟨r,rest,rfl,hr⟩|⟨out,na',Y,ac,bc,rfl,hm,h1,h2,h3,h4,h6⟩
   .exact tp ⟨hg,r,_,rfl,hr⟩
   refine nE (Zz (YO ⟨rfl,?_⟩));refine nE (Yz (Xh (I:=fun y c st'=>SG st st'/\∃ out L J mg ac bc,c=(none,L,J,out,mg,ac,bc)/\MJ (iq blt) (a.toList++b.toList) out.toList.reverse (a.toList.take L) (b.toList.take J)/\0 < L/\L < a.size/\1 < J/\J<=b.size/\y+L+J<=na'+Y)
    (Q:=fun c st'=>SG st st'/\((∃ r rest,c=(some r,rest)/\Aq (iq blt) (a.toList++b.toList) r.toList)\/∃ out L J mg ac bc,c=(none,L,J,out,mg,ac,bc)/\MJ (iq blt) (a.toList++b.toList) out.toList.reverse (a.toList.take L) (b.toList.take J)/\0 < L/\L < a.size/\1 < J/\J<=b.size/\L+J<=na'+Y)) ?step2 ?fin2 ⟨hg,out,na',Y,_,ac,bc,rfl,hm,h1,h2,h3,h4,by lia⟩) ?post2)
   case fin2 =>
    rintro c st' ⟨hg,out,L,J,mg,ac,bc,rfl,hm,h1,h2,h3,h4,h5⟩;lia
   case post2 =>
    rintro c st3 ⟨hg,h⟩;rcases h with ⟨r,rest,rfl,hr⟩|⟨out,L,J,mg,ac,bc,rfl,hm,h1,h2,h3,h4,h7⟩
    .exact tp ⟨hg,r,_,rfl,hr⟩
    .exact nE (Yd (tp ⟨hg.gal _,out,L,J,_,rfl,hm,h1,h2,h3,h4,by lia⟩))
   case step2 =>
    rintro y c st3 _ hy ⟨hg,out,L,J,mg,ac,bc,rfl,hm,h1,h2,h3,h4,h7⟩;refine aG (fun _=>?_) (fun _=>?_)
    all_goals
     have i1:J - 1 < b.size:=by lia
     refine nE (Yd ?_);refine nE (bm i1 ?_);refine nE (fA O (base:=0) (n:=L) (hint:=L - 1) (by lia) (by lia) (hB _ _) hA ((hg.gal _).kind.trans hst) (fun i j hi hj p1 p2 p3=>sa i j hi hj (by lia) p2 hj) fun k hk u1 u2=>?_);have u1':∀ j (hj:j < a.size),j < k->blt b[J - 1] a[j]=false:=fun j hj hij=>v6 (by have:=u1 j (by lia) hij;simpa only [Yr] using this);have u2':∀ j (hj:j < a.size),k<=j->j < L->blt b[J - 1] a[j]=true:=fun j hj hij hjn=>v6 (by have:=u2 j (by lia) hij hjn;simpa only [Yr] using this);have hm1:=JQ (k:=k) hm hk (fun i hi j hj p1 p2 p3=>O.asymm _ _ (O.lt_le (sb j (J - 1) hj i1 (by lia) (by lia) i1) (u2' i hi p1 p2)));refine aG (fun hk0=>?_) (fun hk0=>?_)
     .refine aG (fun hc=>tp ⟨hg.gal _,.inl ⟨_,_,rfl,fin1 _ _ _ hm1 (.inl (by simpa using hc))⟩⟩) (fun hc=>?_);have hc0:k≠0:=by simpa using hc
      have hm3:=hm1;have u4:=u1';have h3a:k - 1 < a.size:=by lia
      have hb1:J - 1 < b.size:=by lia
      refine nE (bm hb1 ?_);have hm4:=w8 hm3 (by lia) hb1 (fun j hj hij=>u4 j hj hij);refine aG (fun hc=>tp ⟨hg.gal _,.inl ⟨_,_,rfl,fin2 _ _ _ hm4 (by simpa using hc)⟩⟩) (fun hc=>?_);have hc:J - 1≠1:=by simpa using hc
      refine nE (bm h3a ?_);refine nE (fA O (base:=0) (n:=J - 1) (hint:=J - 1 - 1) (by lia) (by lia) (hA _ _) hB ((hg.gal _).kind.trans hst) (fun i j hi hj p1 p2 p3=>sb i j hi hj (by lia) p2 hj) fun k2 hk2 v1 v2=>?_);have v1':∀ j (hj:j < b.size),j < k2->blt b[j] (a[k - 1]'h3a)=true:=fun j hj hij=>oW (by have:=v1 j (by lia) hij;simpa only [Yr] using this);have v2':∀ j (hj:j < b.size),k2<=j->j < J - 1->blt b[j] (a[k - 1]'h3a)=false:=fun j hj hij hjn=>oW (by have:=v2 j (by lia) hij hjn;simpa only [Yr] using this);have hm5:=CZ (k:=k2) hm4 hk2 (fun i hi j hj p1 p2 p3=>O.trans _ _ _ (sa j (k - 1) hj h3a (by lia) (by lia) h3a) (v2' i hi p1 p2));refine aG (fun hk1=>?_) (fun hk1=>?_)
      .refine aG (fun hd=>tp ⟨hg.gal _,.inl ⟨_,_,rfl,fin2 _ _ _ hm5 (by simpa using hd)⟩⟩) (fun hd=>?_);refine aG (fun hd'=>tp ⟨hg.gal _,.inl ⟨_,_,rfl,fin1 _ _ _ hm5 (.inr (by simpa using hd'))⟩⟩) (fun hd'=>?_);have hd:k2≠1:=by simpa using hd
       have hd':k2≠0:=by simpa using hd'
       refine nE (bm h3a ?_);have hm6:=qF hm5 (by lia) h3a (fun j hj hij=>O.asymm _ _ (v1' j hj hij));refine aG (fun he=>tp ⟨hg.gal _,.inl ⟨_,_,rfl,fin1 _ _ _ hm6 (.inl (by simpa using he))⟩⟩) (fun he=>?_);have he:k - 1≠0:=by simpa using he
       exact aG (fun hf=>tp ⟨hg.gal _,.inr ⟨_,k - 1,k2,_,_,_,rfl,hm6,by lia,by lia,by lia,by lia,by lia⟩⟩) (fun hf=>tp ⟨hg.gal _,_,k - 1,k2,_,_,_,rfl,hm6,by lia,by lia,by lia,by lia,by lia⟩)
      .refine nE (bm h3a ?_);have hkk:k2=J - 1:=by have hk1:¬ (J - 1 - k2 > 0):=hk1;lia
       have hm6:=qF hm4 (by lia) h3a (fun j hj hij=>O.asymm _ _ (v1' j hj (by lia)));refine aG (fun he=>tp ⟨hg.gal _,.inl ⟨_,_,rfl,fin1 _ _ _ hm6 (.inl (by simpa using he))⟩⟩) (fun he=>?_);have he:k - 1≠0:=by simpa using he
       exact aG (fun hf=>tp ⟨hg.gal _,.inr ⟨_,k - 1,J - 1,_,_,_,rfl,hm6,by lia,by lia,by lia,by lia,by lia⟩⟩) (fun hf=>tp ⟨hg.gal _,_,k - 1,J - 1,_,_,_,rfl,hm6,by lia,by lia,by lia,by lia,by lia⟩)
     .have hkn:k=L:=by have hk0:¬ (L - k > 0):=hk0;lia
      have hm3:=hm;have u4:∀ j (hj:j < a.size),j < L->blt b[J - 1] a[j]=false:=fun j hj hij=>u1' j hj (by lia);have h3a:L - 1 < a.size:=by lia
      have hb1:J - 1 < b.size:=by lia
      refine nE (bm hb1 ?_);have hm4:=w8 hm3 (by lia) hb1 (fun j hj hij=>u4 j hj hij);refine aG (fun hc=>tp ⟨hg.gal _,.inl ⟨_,_,rfl,fin2 _ _ _ hm4 (by simpa using hc)⟩⟩) (fun hc=>?_);have hc:J - 1≠1:=by simpa using hc
      refine nE (bm h3a ?_);refine nE (fA O (base:=0) (n:=J - 1) (hint:=J - 1 - 1) (by lia) (by lia) (hA _ _) hB ((hg.gal _).kind.trans hst) (fun i j hi hj p1 p2 p3=>sb i j hi hj (by lia) p2 hj) fun k2 hk2 v1 v2=>?_);have v1':∀ j (hj:j < b.size),j < k2->blt b[j] (a[L - 1]'h3a)=true:=fun j hj hij=>oW (by have:=v1 j (by lia) hij;simpa only [Yr] using this);have v2':∀ j (hj:j < b.size),k2<=j->j < J - 1->blt b[j] (a[L - 1]'h3a)=false:=fun j hj hij hjn=>oW (by have:=v2 j (by lia) hij hjn;simpa only [Yr] using this);have hm5:=CZ (k:=k2) hm4 hk2 (fun i hi j hj p1 p2 p3=>O.trans _ _ _ (sa j (L - 1) hj h3a (by lia) (by lia) h3a) (v2' i hi p1 p2));refine aG (fun hk1=>?_) (fun hk1=>?_)
      .refine aG (fun hd=>tp ⟨hg.gal _,.inl ⟨_,_,rfl,fin2 _ _ _ hm5 (by simpa using hd)⟩⟩) (fun hd=>?_);refine aG (fun hd'=>tp ⟨hg.gal _,.inl ⟨_,_,rfl,fin1 _ _ _ hm5 (.inr (by simpa using hd'))⟩⟩) (fun hd'=>?_);have hd:k2≠1:=by simpa using hd
       have hd':k2≠0:=by simpa using hd'
       refine nE (bm h3a ?_);have hm6:=qF hm5 (by lia) h3a (fun j hj hij=>O.asymm _ _ (v1' j hj hij));refine aG (fun he=>tp ⟨hg.gal _,.inl ⟨_,_,rfl,fin1 _ _ _ hm6 (.inl (by simpa using he))⟩⟩) (fun he=>?_);have he:L - 1≠0:=by simpa using he
       exact aG (fun hf=>tp ⟨hg.gal _,.inr ⟨_,L - 1,k2,_,_,_,rfl,hm6,by lia,by lia,by lia,by lia,by lia⟩⟩) (fun hf=>tp ⟨hg.gal _,_,L - 1,k2,_,_,_,rfl,hm6,by lia,by lia,by lia,by lia,by lia⟩)
      .refine nE (bm h3a ?_);have hkk:k2=J - 1:=by have hk1:¬ (J - 1 - k2 > 0):=hk1;lia
       have hm6:=qF hm4 (by lia) h3a (fun j hj hij=>O.asymm _ _ (v1' j hj (by lia)));refine aG (fun he=>tp ⟨hg.gal _,.inl ⟨_,_,rfl,fin1 _ _ _ hm6 (.inl (by simpa using he))⟩⟩) (fun he=>?_);have he:L - 1≠0:=by simpa using he
       exact aG (fun hf=>tp ⟨hg.gal _,.inr ⟨_,L - 1,J - 1,_,_,_,rfl,hm6,by lia,by lia,by lia,by lia,by lia⟩⟩) (fun hf=>tp ⟨hg.gal _,_,L - 1,J - 1,_,_,_,rfl,hm6,by lia,by lia,by lia,by lia,by lia⟩)
end
def G (xs:Array Wq) (i:Nat):Wq:=(xs[i]?).getD (.none,.none)
def jI {xs:Array Wq} {i:Nat} (h:i < xs.size):G xs i=xs[i]:=by unfold G;rw [getElem?_pos xs i h];rfl
def dG {xs:Array Wq} {i j:Nat} (hj:j<=xs.size) (k:Nat):G (mirror xs i j ((j - i)/2)) k=if i<=k/\k < j then G xs (i+j - 1 - k) else G xs k:=by
 unfold G;rw [getElem?_mirror_all hj];split <;> rfl
def ua {xs:Array Wq} {I d:Nat} (J:I < xs.size) (hd:d<=I) (k:Nat):G (bubble xs I d) k=if k=I - d then G xs I else if I - d < k/\k<=I then G xs (k - 1) else G xs k:=by
 unfold G;rw [getElem?_bubble J d hd]
 repeat' split
 all_goals rfl
structure SA (lo:Nat) (st st':WZ):Prop where
 kind:kindOf st'=kindOf st
 pend:Wz st'=Wz st
 failed:Xp st'=Xp st
 perm:(DO st').Perm (DO st)
 pre:∀ i,i < lo->G (DO st') i=G (DO st) i
def SA.refl (lo:Nat) (st:WZ):SA lo st st:=⟨rfl,rfl,rfl,ZV _,fun _ _=>rfl⟩
theorem SA.trans {lo:Nat} {a b c:WZ} (h:SA lo a b) (g:SA lo b c):SA lo a c:=⟨g.kind.trans h.kind,g.pend.trans h.pend,g.failed.trans h.failed,g.perm.trans h.perm,fun i hi=>(g.pre i hi).trans (h.pre i hi)⟩
theorem SA.size {lo:Nat} {a b:WZ} (h:SA lo a b):(DO b).size=(DO a).size:=h.perm.size_eq
section
variable {M:Model} {A:WN} {E:acJ} {s:gs} {blt:Wq->Wq->Bool} {k₀:ZM} {In:Wq->Prop}
def jE (In:Wq->Prop) (st:WZ):Prop:=∀ x,x∈(DO st).toList->In x
theorem jE.sa {lo:Nat} {st st':WZ} (h:jE In st) (g:SA lo st st'):jE In st':=fun x I=>h x ((Xq.mp g.perm).mem_iff.mp I)
def jE.at {st:WZ} (h:jE In st) {i:Nat} (hi:i < (DO st).size):In (DO st)[i]:=h _ (by simp)
def fV (O:Orc M A E s blt k₀ In) {st:WZ} {i j:Nat} {Q:Option Bool->WZ->Prop} (J:kindOf st=k₀) (I:jE In st) (hi:i < (DO st).size) (hj:j < (DO st).size) (h:Q (some (blt (G (DO st) i) (G (DO st) j))) st):wpS M A E s (ltAt' i j) Q st:=by
 rw [ltAt'_eq];refine nE (Ze ?_);refine nE (bm hi (nE (bm hj ?_)));rw [jI hi,jI hj] at h;exact O.ask _ _ _ _ (I.at hi) (I.at hj) J h
def mj {st:WZ} {i j:Nat} {Q:PUnit->WZ->Prop} (h:Q ⟨⟩ (setArr st (mirror (DO st) i j ((j - i)/2)))):wpS M A E s (reverseSlice' i j) Q st:=by
 rw [reverseSlice'_eq];exact Yd h
def l7 {lo:Nat} {st:WZ} {i j:Nat} (hi:lo<=i) (hj:j<=(DO st).size):SA lo st (setArr st (mirror (DO st) i j ((j - i)/2))) :=
 ⟨rfl,rfl,rfl,mirror_perm _ _ _ _,fun k I=>by
  show G (mirror (DO st) i j ((j - i)/2)) k=_;rw [dG hj,acB (by lia)]⟩
def SegG (blt:Wq->Wq->Bool) (xs:Array Wq) (lo hi:Nat):Prop:=∀ i j,lo<=i->i<=j->j < hi->blt (G xs j) (G xs i)=false
def NI (blt:Wq->Wq->Bool) (xs:Array Wq) (lo hi:Nat):Prop:=∀ i j,lo<=i->i<=j->j < hi->blt (G xs i) (G xs j)=false
def SegG.seg {xs:Array Wq} {lo hi:Nat} (h:SegG blt xs lo hi):KA blt xs lo hi:=fun i j I hj a b c=>by
 have:=h i j a b c
 rwa [jI I,jI hj] at this
def G3 (O:Orc M A E s blt k₀ In) {xs:Array Wq} {lo hi:Nat} (h:SegG blt xs lo hi) (L:lo < hi) (J:blt (G xs hi) (G xs (hi - 1))=false):SegG blt xs lo (hi+1):=fun i j a b c=>by
 by_cases hj:j < hi
 .exact h i j a b hj
 .have:j=hi:=by lia
  subst this;by_cases I:i=j
  .subst I;exact O.refl _
  .exact O.trans _ _ _ (h i (j - 1) a (by lia) (by lia)) J
def jV (O:Orc M A E s blt k₀ In) {xs:Array Wq} {lo hi:Nat} (h:NI blt xs lo hi) (L:lo < hi) (J:blt (G xs (hi - 1)) (G xs hi)=false):NI blt xs lo (hi+1):=fun i j a b c=>by
 by_cases hj:j < hi
 .exact h i j a b hj
 .have:j=hi:=by lia
  subst this;by_cases I:i=j
  .subst I;exact O.refl _
  .exact O.trans _ _ _ J (h i (j - 1) a (by lia) (by lia))
def qL (O:Orc M A E s blt k₀ In) {st:WZ} {lo n nrem:Nat} {Q:Option (Option Nat)×Nat->WZ->Prop} {f:Nat->Option (Option Nat)×Nat->StateT WZ Sem (ForInStep (Option (Option Nat)×Nat))} (hk:kindOf st=k₀) (hI:jE In st) (hn:lo+nrem<=(DO st).size) (h1:1<=n) (L:n<=nrem) (Y:SegG blt (DO st) lo (lo+n))
  (hf:∀ x n (R:ForInStep (Option (Option Nat)×Nat)->WZ->Prop),1<=n->n < nrem->(blt (G (DO st) (lo+n)) (G (DO st) (lo+n - 1))=true->R (.done (none,n)) st)->(blt (G (DO st) (lo+n)) (G (DO st) (lo+n - 1))=false->R (.yield (none,n+1)) st)->wpS M A E s (f x (none,n)) R st)
  (h:∀ m,n<=m->m<=nrem->SegG blt (DO st) lo (lo+m)->(m=nrem\/blt (G (DO st) (lo+m)) (G (DO st) (lo+m - 1))=true)->Q (none,m) st):wpS M A E s (forIn [n:nrem] (none,n) f) Q st:=by
 refine Xh (I:=fun x c J=>J=st/\c=(none,x)/\n<=x/\SegG blt (DO st) lo (lo+x)) ?step ?fin ⟨rfl,rfl,mK _,Y⟩
 case fin =>
  rintro c J ⟨rfl,rfl,h2,h3⟩;rw [show max n nrem=nrem by lia] at h3 ⊢;exact h nrem L (mK _) h3 (.inl rfl)
 case step =>
  rintro x c J hx1 hx2 ⟨rfl,rfl,h2,h3⟩;refine hf x x _ (by lia) hx2 (fun e=>h x h2 (by lia) h3 (.inr e)) fun e=>⟨rfl,rfl,by lia,?_⟩
  have:=G3 O h3 (by lia) e
  rwa [show lo+x+1=lo+(x+1) by lia] at this
def xr {st:WZ} {lo hi:Nat} (I:hi<=(DO st).size) (h:NI blt (DO st) lo hi):SegG blt (mirror (DO st) lo hi ((hi - lo)/2)) lo hi:=fun i j a b c=>by
 rw [dG I,dG I,acA (by lia),acA (by lia)];exact h _ _ (by lia) (by lia) (by lia)
def za {xs:Array Wq} {lo p hi:Nat} (J:hi<=xs.size) (Y:lo<=p) (h:NI blt xs lo hi) (L:∀ i j,p<=i->i < hi->p<=j->j < hi->blt (G xs i) (G xs j)=false):NI blt (mirror xs p hi ((hi - p)/2)) lo hi:=fun i j a b c=>by
 rw [dG J,dG J];by_cases I:p<=i/\i < hi
 .rw [acA I,acA (by lia)];exact L _ _ (by lia) (by lia) (by lia) (by lia)
 .rw [acB I];by_cases hj:p<=j/\j < hi
  .rw [acA hj];exact h _ _ a (by lia) (by lia)
  .rw [acB hj];exact h _ _ a b c
end
section
variable {M:Model} {A:WN} {E:acJ} {s:gs} {blt:Wq->Wq->Bool} {k₀:ZM} {In:Wq->Prop}
def zp (O:Orc M A E s blt k₀ In) {st:WZ} {lo nrem:Nat} {Q:Option Nat->WZ->Prop} (hk:kindOf st=k₀) (hI:jE In st) (hn:lo+nrem<=(DO st).size) (h1:1<=nrem)
  (h:∀ m J,SA lo st J->1<=m->m<=nrem->SegG blt (DO J) lo (lo+m)->Q (some m) J):wpS M A E s (countRun' lo nrem) Q st:=by
 have s1:SegG blt (DO st) lo (lo+1):=fun i j a b c=>by
  have:i=j:=by walk_at "ja"
  rw [this];exact O.refl _
 refine nE (qL O (lo:=lo) hk hI hn (mK 1) h1 s1 ?hf ?_)
 case hf =>
  intro x n R hn1 hn2 r1 r2;refine nE (fV O hk hI (by walk_at "ja") (by walk_at "ja") ?_);cases e:blt (G (DO st) (lo+n)) (G (DO st) (lo+n - 1)) with
  | true=>exact tp (r1 e)
  | false=>exact tp (r2 e)
 intro n hn1 hn2 hs hor;refine aG (fun hq=>tp (h n st (SA.refl lo st) hn1 hn2 hs)) (fun hne=>?_);have hne:n≠nrem:=by simpa using hne
 have hlt:=hor.resolve_left hne;refine aG (fun hgt=>?_) (fun hgt=>?_)
 .refine nE (fV O hk hI (show lo < _ by walk_at "ja") (show lo+n - 1 < _ by walk_at "ja") ?_);cases hrose:blt (G (DO st) lo) (G (DO st) (lo+n - 1)) with
  | true=>exact aG (fun _=>tp (h n st (SA.refl lo st) hn1 hn2 hs)) (fun z=>absurd rfl z)
  | false =>
   refine aG (fun z=>absurd z iF) (fun _=>?_);refine nE (mj ?_);have hsa1:=l7 (lo:=lo) (st:=st) (i:=lo) (j:=lo+n) (mK _) (by walk_at "ja");have hall:∀ i j,lo<=i->i < lo+n->lo<=j->j < lo+n->blt (G (DO st) i) (G (DO st) j)=false:=fun i j a b c d =>
    O.trans _ _ _ (O.trans _ _ _ (hs j (lo+n - 1) c (by walk_at "ja") (by walk_at "ja")) hrose) (hs lo i (mK _) a b)
   have hni1:NI blt (mirror (DO st) lo (lo+n) ((lo+n - lo)/2)) lo (lo+(n+1)):=by
    have n3:=za (xs:=DO st) (p:=lo) (hi:=lo+n) (by walk_at "ja") (mK _) (fun i j a b c=>hall i j a (by walk_at "ja") (by walk_at "ja") c) hall;have n4:=jV O n3 (by walk_at "ja") (by
     rw [dG (by walk_at "ja"),dG (by walk_at "ja"),acA (by walk_at "ja"),acB (by walk_at "ja")];exact O.trans _ _ _ (O.asymm _ _ hlt) (hall _ _ (by walk_at "ja") (by walk_at "ja") (by walk_at "ja") (by walk_at "ja")))
    rwa [show lo+n+1=lo+(n+1) by walk_at "ja"] at n4
   have hN:n+1<=nrem:=by walk_at "ja"
   refine nE (Zz (YO ⟨rfl,?_⟩));refine nE (Yz (Xh (I:=fun x c J=>SA lo st J/\∃ L,c=(none,x,L)/\n+1<=x/\NI blt (DO J) lo (lo+x)/\L+1<=x/\(∀ i j,lo+x - (L+1)<=i->i < lo+x->lo+x - (L+1)<=j->j < lo+x->blt (G (DO J) i) (G (DO J) j)=false))
    (Q:=fun c J=>SA lo st J/\∃ m L,c=(none,m,L)/\n+1<=m/\m<=nrem/\NI blt (DO J) lo (lo+m)/\L+1<=m/\(∀ i j,lo+m - (L+1)<=i->i < lo+m->lo+m - (L+1)<=j->j < lo+m->blt (G (DO J) i) (G (DO J) j)=false)) ?step ?fin ⟨hsa1,0,rfl,by walk_at "ja",hni1,by walk_at "ja",fun i j a b c d=>by rw [show i=j by walk_at "ja"];exact O.refl _⟩) ?post)
   case fin =>
    rintro c J ⟨hsa',L,rfl,h2,h3,h4,h5⟩;rw [show max (_+1) nrem=nrem by walk_at "ja"] at *;exact ⟨hsa',nrem,L,rfl,by walk_at "ja",mK _,h3,h4,h5⟩
   case post =>
    rintro c J ⟨hsa',m,L,rfl,hm1,hm2,hni',hq1,heq⟩;dsimp only;have sz:=hsa'.size;refine aG (fun hneq=>?_) (fun hneq=>?_)
    .refine nE (mj ?_);have hsa3:=hsa'.trans (l7 (lo:=lo) (i:=lo+m - (L+1)) (j:=lo+m) (by walk_at "ja") (by walk_at "ja"));have hni3:=za (xs:=DO J) (p:=lo+m - (L+1)) (by walk_at "ja") (by walk_at "ja") hni' (fun i j a b c d=>heq i j a b c d);have sz3:=hsa3.size;refine nE (mj ?_);have Y:=hsa3.trans (l7 (lo:=lo) (i:=lo) (j:=lo+m) (mK _) (by walk_at "ja"));have sg4:=xr (st:=setArr J (mirror (DO J) (lo+m - (L+1)) (lo+m) ((lo+m - (lo+m - (L+1)))/2))) (by walk_at "ja") hni3;have sz4:=Y.size;refine nE (qL O (lo:=lo) (n:=m) (Y.kind.trans hk) (hI.sa Y) (by walk_at "ja") (by walk_at "ja") hm2 sg4 ?hf ?_)
     case hf =>
      intro x n' R hn1' hn2' r1 r2;refine nE (fV O (Y.kind.trans hk) (hI.sa Y) (by walk_at "ja") (by walk_at "ja") ?_);split
      .rename_i smaller heq';have heq':blt _ _=smaller:=WG heq';cases smaller with
       | true=>exact tp (r1 heq')
       | false=>exact tp (r2 heq')
      .rename_i hno;exact absurd rfl (hno _)
     intro m' h1' h2' h3' _;exact tp (h m' _ Y (by walk_at "ja") h2' h3')
    .have hsa3:=hsa';have hni3:=hni';have sz3:=hsa3.size;refine nE (mj ?_);have Y:=hsa3.trans (l7 (lo:=lo) (i:=lo) (j:=lo+m) (mK _) (by walk_at "ja"));have sg4:=xr (st:=J) (by walk_at "ja") hni3;have sz4:=Y.size;refine nE (qL O (lo:=lo) (n:=m) (Y.kind.trans hk) (hI.sa Y) (by walk_at "ja") (by walk_at "ja") hm2 sg4 ?hf2 ?_)
     case hf2 =>
      intro x n' R hn1' hn2' r1 r2;refine nE (fV O (Y.kind.trans hk) (hI.sa Y) (by walk_at "ja") (by walk_at "ja") ?_);split
      .rename_i smaller heq';have heq':blt _ _=smaller:=WG heq';cases smaller with
       | true=>exact tp (r1 heq')
       | false=>exact tp (r2 heq')
      .rename_i hno;exact absurd rfl (hno _)
     intro m' h1' h2' h3' _;exact tp (h m' _ Y (by walk_at "ja") h2' h3')
   case step =>
    rintro x c J hx1 hx2 ⟨hsa',L,rfl,h2,hni',hq1,heq⟩;have sz:=hsa'.size;refine nE (fV O (hsa'.kind.trans hk) (hI.sa hsa') (show lo+x < _ by walk_at "ja") (show lo+x - 1 < _ by walk_at "ja") ?_);cases e:blt (G (DO J) (lo+x)) (G (DO J) (lo+x - 1)) with
    | true =>
     have up:=jV O hni' (by walk_at "ja") (O.asymm _ _ e);refine aG (fun _=>?_) (fun z=>absurd rfl z);refine aG (fun hneq=>?_) (fun hneq=>?_)
     .refine nE (mj ?_);refine tp ⟨hsa'.trans (l7 (i:=lo+x - (L+1)) (j:=lo+x) (by walk_at "ja") (by walk_at "ja")),0,rfl,by walk_at "ja",?_,by walk_at "ja",fun i j a b c d=>by rw [show i=j by walk_at "ja"];exact O.refl _⟩;have n3:=za (xs:=DO J) (p:=lo+x - (L+1)) (hi:=lo+x) (by walk_at "ja") (by walk_at "ja") hni' (fun i j a b c d=>heq i j a b c d);have n4:=jV O n3 (by walk_at "ja") (by
       rw [dG (by walk_at "ja"),dG (by walk_at "ja"),acA (by walk_at "ja"),acB (by walk_at "ja")];exact O.trans _ _ _ (O.asymm _ _ e) (hni' _ _ (by walk_at "ja") (by walk_at "ja") (by walk_at "ja")))
      rwa [show lo+x+1=lo+(x+1) by walk_at "ja"] at n4
     .refine tp ⟨hsa',0,rfl,by walk_at "ja",?_,by walk_at "ja",fun i j a b c d=>by rw [show i=j by walk_at "ja"];exact O.refl _⟩;rwa [show lo+x+1=lo+(x+1) by walk_at "ja"] at up
    | false =>
     refine aG (fun z=>absurd z iF) (fun _=>?_);refine nE (fV O (hsa'.kind.trans hk) (hI.sa hsa') (show lo+x - 1 < _ by walk_at "ja") (show lo+x < _ by walk_at "ja") ?_);cases e2:blt (G (DO J) (lo+x - 1)) (G (DO J) (lo+x)) with
     | true=>exact aG (fun _=>tp ⟨hsa',x,L,rfl,by walk_at "ja",by walk_at "ja",hni',hq1,heq⟩) (fun z=>absurd rfl z)
     | false =>
      refine aG (fun z=>absurd z iF) (fun _=>tp ⟨hsa',L+1,rfl,by walk_at "ja",?_,by walk_at "ja",fun i j a b c d=>?_⟩)
      .have up:=jV O hni' (by walk_at "ja") e2;rwa [show lo+x+1=lo+(x+1) by walk_at "ja"] at up
      .have q1:∀ k,lo+x - (L+1)<=k->k < lo+x->blt (G (DO J) k) (G (DO J) (lo+x))=false/\blt (G (DO J) (lo+x)) (G (DO J) k)=false:=fun k k1 k2 =>
        ⟨O.trans _ _ _ e2 (heq k (lo+x - 1) k1 k2 (by walk_at "ja") (by walk_at "ja")),O.trans _ _ _ (heq (lo+x - 1) k (by walk_at "ja") (by walk_at "ja") k1 k2) e⟩
       by_cases hi':i=lo+x
       .by_cases hj':j=lo+x
        .rw [hi',hj'];exact O.refl _
        .rw [hi'];exact (q1 j (by walk_at "ja") (by walk_at "ja")).2
       .by_cases hj':j=lo+x
        .rw [hj'];exact (q1 i (by walk_at "ja") (by walk_at "ja")).1
        .exact heq i j (by walk_at "ja") (by walk_at "ja") (by walk_at "ja") (by walk_at "ja")
 .have hgt:¬ (n > 1):=hgt;have n1:n=1:=by walk_at "ja"
  have hni1:NI blt (DO st) lo (lo+(n+1)):=by
   have:=jV O (lo:=lo) (hi:=lo+n) (xs:=DO st) (fun i j a b c=>by
    have:i=j:=by walk_at "ja"
    rw [this];exact O.refl _) (by walk_at "ja") (O.asymm _ _ hlt)
   rwa [show lo+n+1=lo+(n+1) by walk_at "ja"] at this
  have hsa1:=SA.refl lo st;have hN:n+1<=nrem:=by walk_at "ja"
  refine nE (Zz (YO ⟨rfl,?_⟩));refine nE (Yz (Xh (I:=fun x c J=>SA lo st J/\∃ L,c=(none,x,L)/\n+1<=x/\NI blt (DO J) lo (lo+x)/\L+1<=x/\(∀ i j,lo+x - (L+1)<=i->i < lo+x->lo+x - (L+1)<=j->j < lo+x->blt (G (DO J) i) (G (DO J) j)=false))
   (Q:=fun c J=>SA lo st J/\∃ m L,c=(none,m,L)/\n+1<=m/\m<=nrem/\NI blt (DO J) lo (lo+m)/\L+1<=m/\(∀ i j,lo+m - (L+1)<=i->i < lo+m->lo+m - (L+1)<=j->j < lo+m->blt (G (DO J) i) (G (DO J) j)=false)) ?step ?fin ⟨hsa1,0,rfl,by walk_at "ja",hni1,by walk_at "ja",fun i j a b c d=>by rw [show i=j by walk_at "ja"];exact O.refl _⟩) ?post)
  case fin =>
   rintro c J ⟨hsa',L,rfl,h2,h3,h4,h5⟩;rw [show max (_+1) nrem=nrem by walk_at "ja"] at *;exact ⟨hsa',nrem,L,rfl,by walk_at "ja",mK _,h3,h4,h5⟩
  case post =>
   rintro c J ⟨hsa',m,L,rfl,hm1,hm2,hni',hq1,heq⟩;dsimp only;have sz:=hsa'.size;refine aG (fun hneq=>?_) (fun hneq=>?_)
   .refine nE (mj ?_);have hsa3:=hsa'.trans (l7 (lo:=lo) (i:=lo+m - (L+1)) (j:=lo+m) (by walk_at "ja") (by walk_at "ja"));have hni3:=za (xs:=DO J) (p:=lo+m - (L+1)) (by walk_at "ja") (by walk_at "ja") hni' (fun i j a b c d=>heq i j a b c d);have sz3:=hsa3.size;refine nE (mj ?_);have Y:=hsa3.trans (l7 (lo:=lo) (i:=lo) (j:=lo+m) (mK _) (by walk_at "ja"));have sg4:=xr (st:=setArr J (mirror (DO J) (lo+m - (L+1)) (lo+m) ((lo+m - (lo+m - (L+1)))/2))) (by walk_at "ja") hni3;have sz4:=Y.size;refine nE (qL O (lo:=lo) (n:=m) (Y.kind.trans hk) (hI.sa Y) (by walk_at "ja") (by walk_at "ja") hm2 sg4 ?hf ?_)
    case hf =>
     intro x n' R hn1' hn2' r1 r2;refine nE (fV O (Y.kind.trans hk) (hI.sa Y) (by walk_at "ja") (by walk_at "ja") ?_);split
     .rename_i smaller heq';have heq':blt _ _=smaller:=WG heq';cases smaller with
      | true=>exact tp (r1 heq')
      | false=>exact tp (r2 heq')
     .rename_i hno;exact absurd rfl (hno _)
    intro m' h1' h2' h3' _;exact tp (h m' _ Y (by walk_at "ja") h2' h3')
   .have hsa3:=hsa';have hni3:=hni';have sz3:=hsa3.size;refine nE (mj ?_);have Y:=hsa3.trans (l7 (lo:=lo) (i:=lo) (j:=lo+m) (mK _) (by walk_at "ja"));have sg4:=xr (st:=J) (by walk_at "ja") hni3;have sz4:=Y.size;refine nE (qL O (lo:=lo) (n:=m) (Y.kind.trans hk) (hI.sa Y) (by walk_at "ja") (by walk_at "ja") hm2 sg4 ?hf2 ?_)
    case hf2 =>
     intro x n' R hn1' hn2' r1 r2;refine nE (fV O (Y.kind.trans hk) (hI.sa Y) (by walk_at "ja") (by walk_at "ja") ?_);split
     .rename_i smaller heq';have heq':blt _ _=smaller:=WG heq';cases smaller with
      | true=>exact tp (r1 heq')
      | false=>exact tp (r2 heq')
     .rename_i hno;exact absurd rfl (hno _)
    intro m' h1' h2' h3' _;exact tp (h m' _ Y (by walk_at "ja") h2' h3')
  case step =>
   rintro x c J hx1 hx2 ⟨hsa',L,rfl,h2,hni',hq1,heq⟩;have sz:=hsa'.size;refine nE (fV O (hsa'.kind.trans hk) (hI.sa hsa') (show lo+x < _ by walk_at "ja") (show lo+x - 1 < _ by walk_at "ja") ?_);cases e:blt (G (DO J) (lo+x)) (G (DO J) (lo+x - 1)) with
   | true =>
    have up:=jV O hni' (by walk_at "ja") (O.asymm _ _ e);refine aG (fun _=>?_) (fun z=>absurd rfl z);refine aG (fun hneq=>?_) (fun hneq=>?_)
    .refine nE (mj ?_);refine tp ⟨hsa'.trans (l7 (i:=lo+x - (L+1)) (j:=lo+x) (by walk_at "ja") (by walk_at "ja")),0,rfl,by walk_at "ja",?_,by walk_at "ja",fun i j a b c d=>by rw [show i=j by walk_at "ja"];exact O.refl _⟩;have n3:=za (xs:=DO J) (p:=lo+x - (L+1)) (hi:=lo+x) (by walk_at "ja") (by walk_at "ja") hni' (fun i j a b c d=>heq i j a b c d);have n4:=jV O n3 (by walk_at "ja") (by
      rw [dG (by walk_at "ja"),dG (by walk_at "ja"),acA (by walk_at "ja"),acB (by walk_at "ja")];exact O.trans _ _ _ (O.asymm _ _ e) (hni' _ _ (by walk_at "ja") (by walk_at "ja") (by walk_at "ja")))
     rwa [show lo+x+1=lo+(x+1) by walk_at "ja"] at n4
    .refine tp ⟨hsa',0,rfl,by walk_at "ja",?_,by walk_at "ja",fun i j a b c d=>by rw [show i=j by walk_at "ja"];exact O.refl _⟩;rwa [show lo+x+1=lo+(x+1) by walk_at "ja"] at up
   | false =>
    refine aG (fun z=>absurd z iF) (fun _=>?_);refine nE (fV O (hsa'.kind.trans hk) (hI.sa hsa') (show lo+x - 1 < _ by walk_at "ja") (show lo+x < _ by walk_at "ja") ?_);cases e2:blt (G (DO J) (lo+x - 1)) (G (DO J) (lo+x)) with
    | true=>exact aG (fun _=>tp ⟨hsa',x,L,rfl,by walk_at "ja",by walk_at "ja",hni',hq1,heq⟩) (fun z=>absurd rfl z)
    | false =>
     refine aG (fun z=>absurd z iF) (fun _=>tp ⟨hsa',L+1,rfl,by walk_at "ja",?_,by walk_at "ja",fun i j a b c d=>?_⟩)
     .have up:=jV O hni' (by walk_at "ja") e2;rwa [show lo+x+1=lo+(x+1) by walk_at "ja"] at up
     .have q1:∀ k,lo+x - (L+1)<=k->k < lo+x->blt (G (DO J) k) (G (DO J) (lo+x))=false/\blt (G (DO J) (lo+x)) (G (DO J) k)=false:=fun k k1 k2 =>
       ⟨O.trans _ _ _ e2 (heq k (lo+x - 1) k1 k2 (by walk_at "ja") (by walk_at "ja")),O.trans _ _ _ (heq (lo+x - 1) k (by walk_at "ja") (by walk_at "ja") k1 k2) e⟩
      by_cases hi':i=lo+x
      .by_cases hj':j=lo+x
       .rw [hi',hj'];exact O.refl _
       .rw [hi'];exact (q1 j (by walk_at "ja") (by walk_at "ja")).2
      .by_cases hj':j=lo+x
       .rw [hj'];exact (q1 i (by walk_at "ja") (by walk_at "ja")).1
       .exact heq i j (by walk_at "ja") (by walk_at "ja") (by walk_at "ja") (by walk_at "ja")
end
section
variable {M:Model} {A:WN} {E:acJ} {s:gs} {blt:Wq->Wq->Bool} {k₀:ZM} {In:Wq->Prop}
def LA {lo:Nat} {st:WZ} {I d:Nat} (h:lo<=I - d) (hd:d<=I) (J:I < (DO st).size):SA lo st (setArr st (bubble (DO st) I d)) :=
 ⟨rfl,rfl,rfl,bubble_perm _ _ _,fun k L=>by
  show G (bubble (DO st) I d) k=_;rw [ua J hd,acB (by walk_at "jb"),acB (by walk_at "jb")]⟩
def Dv (O:Orc M A E s blt k₀ In) {st:WZ} {lo n ok:Nat} {Q:Bool->WZ->Prop} (hk:kindOf st=k₀) (hI:jE In st) (hn:lo+n<=(DO st).size) (hok:ok<=n) (h1:1<=ok) (hs:SegG blt (DO st) lo (lo+ok))
  (h:∀ st',SA lo st st'->SegG blt (DO st') lo (lo+n)->Q true st'):wpS M A E s (binarySort' lo n ok) Q st:=by
 refine nE (Yz (Xh (I:=fun k c st'=>c=(none,())/\SA lo st st'/\SegG blt (DO st') lo (lo+k))
  (Q:=fun c st'=>c=(none,())/\SA lo st st'/\SegG blt (DO st') lo (lo+n)) ?step ?fin ⟨rfl,SA.refl lo st,by rw [show max ok 1=ok by walk_at "jb"];exact hs⟩) ?post)
 case post =>
  rintro c st' ⟨rfl,hsa,hsg⟩;exact tp (h st' hsa hsg)
 case fin =>
  rintro c st' ⟨rfl,hsa,hsg⟩;rw [show max (max ok 1) n=n by walk_at "jb"] at hsg;exact ⟨rfl,hsa,hsg⟩
 case step =>
  rintro k c st1 hk1 hk2 ⟨rfl,hsa,hsg⟩;have sz:=hsa.size;have L:lo+k < (DO st1).size:=by walk_at "jb"
  refine nE (Yz (Xh (I:=fun x c st'=>st'=st1/\∃ l r,c=(none,l,r)/\l<=r/\r<=k/\r - l<=k - x/\(∀ i,lo<=i->i < lo+l->blt (G (DO st1) (lo+k)) (G (DO st1) i)=false)/\(∀ i,lo+r<=i->i < lo+k->blt (G (DO st1) (lo+k)) (G (DO st1) i)=true))
   (Q:=fun c st'=>st'=st1/\∃ l r,c=(none,l,r)/\l=r/\r<=k/\(∀ i,lo<=i->i < lo+l->blt (G (DO st1) (lo+k)) (G (DO st1) i)=false)/\(∀ i,lo+r<=i->i < lo+k->blt (G (DO st1) (lo+k)) (G (DO st1) i)=true)) ?step1 ?fin1 ⟨rfl,0,k,rfl,by walk_at "jb",by walk_at "jb",by walk_at "jb",fun i a b=>by walk_at "jb",fun i a b=>by walk_at "jb"⟩) ?post1)
  case fin1 =>
   rintro c st' ⟨rfl,l,r,rfl,a1,a2,a3,a4,a5⟩;exact ⟨rfl,l,r,rfl,by walk_at "jb",a2,a4,a5⟩
  case step1 =>
   rintro x c st' _ hx ⟨rfl,l,r,rfl,a1,a2,a3,a4,a5⟩;refine aG (fun J=>?_) (fun J=>?_)
   .have J:l ≥ r:=J;exact tp ⟨rfl,l,r,rfl,by walk_at "jb",a2,a4,a5⟩
   .have J:¬ (l ≥ r):=J;have hm:lo+(l+r)/2 < (DO st').size:=by walk_at "jb"
    refine nE (fV O (hsa.kind.trans hk) (hI.sa hsa) L hm ?_);cases e:blt (G (DO st') (lo+k)) (G (DO st') (lo+(l+r)/2)) with
    | true =>
     refine aG (fun _=>tp ⟨rfl,l,(l+r)/2,rfl,by walk_at "jb",by walk_at "jb",by walk_at "jb",a4,fun i Y b2=>?_⟩) (fun z=>absurd rfl z);exact O.le_lt e (hsg (lo+(l+r)/2) i (by walk_at "jb") (by walk_at "jb") (by walk_at "jb"))
    | false =>
     refine aG (fun z=>absurd z iF) (fun _=>tp ⟨rfl,(l+r)/2+1,r,rfl,by walk_at "jb",by walk_at "jb",by walk_at "jb",fun i Y b2=>?_,a5⟩);exact O.trans _ _ _ (hsg i (lo+(l+r)/2) Y (by walk_at "jb") (by walk_at "jb")) e
  case post1 =>
   rintro c st' ⟨rfl,l,r,rfl,rfl,a2,a4,a5⟩;have e:(lo+k) - (lo+l)=k - l:=by walk_at "jb"
   have md:∀ (R:PUnit->WZ->Prop),R ⟨⟩ (setArr st' (bubble (DO st') (lo+k) (lo+k - (lo+l))))->wpS M A E s (moveDown' (lo+k) (lo+l)) R st':=fun R hr=>by
    rw [moveDown'_eq];exact Yd hr
   refine nE (md _ (tp ⟨rfl,hsa.trans (LA (by walk_at "jb") (by walk_at "jb") L),fun i j Y b2 b3=>?_⟩));show blt (G (bubble (DO st') (lo+k) (lo+k - (lo+l))) j) (G (bubble (DO st') (lo+k) (lo+k - (lo+l))) i)=false;rw [ua L (by walk_at "jb"),ua L (by walk_at "jb"),show lo+k - (lo+k - (lo+l))=lo+l by walk_at "jb"]
   repeat' split
   all_goals first
    | (exfalso;lia)
    | exact O.refl _
    | exact a4 _ (by walk_at "jb") (by walk_at "jb")
    | exact O.asymm _ _ (a5 _ (by walk_at "jb") (by walk_at "jb"))
    | exact hsg _ _ (by walk_at "jb") (by walk_at "jb") (by walk_at "jb")
def lY (xs:Array Wq) (I:Nat) (l:List Wq) (n:Nat):Array Wq:=(l.zipIdx n).foldl (fun a (p,j)=>a.setIfInBounds (I+j) p) xs
def m8:∀ (l:List Wq) (xs:Array Wq) (I n:Nat),I+n+l.length<=xs.size->(lY xs I l n).toList=xs.toList.take (I+n)++l++xs.toList.drop (I+n+l.length)
 | [],xs,I,n,h=>by
  show xs.toList=_;simp
 | x::r,xs,I,n,h=>by
  rw [RW] at h;have L:=m8 r (xs.setIfInBounds (I+n) x) I (n+1) (by simp;lia);show (lY (xs.setIfInBounds (I+n) x) I r (n+1)).toList=_;rw [L];have J:I+n < xs.toList.length:=by rw [Le];lia
  have e:(xs.setIfInBounds (I+n) x).toList=xs.toList.take (I+n)++x::xs.toList.drop (I+n+1):=by
   rw [Z5,List.set_eq_take_append_cons_drop,acA J]
  have Y:(xs.toList.take (I+n)).length=I+n:=by rw [WA];lia
  rw [e,show I+(n+1)=(xs.toList.take (I+n)).length+1 by walk_at "jb",List.take_length_add_append,RW];rw [show (xs.toList.take (I+n)).length+1+r.length=(xs.toList.take (I+n)).length+(1+r.length) by walk_at "jb",List.drop_length_add_append];rw [List.take_succ_cons,Y6,show 1+r.length=r.length+1 by walk_at "jb",List.drop_succ_cons,aag];simp [show I+n+1+r.length=I+n+(r.length+1) by walk_at "jb"]
end
def AM (xs:Array Wq) (i:Nat):G xs i=(xs.toList[i]?).getD (.none,.none):=by unfold G;rw [Xf]
def ui {xs:Array Wq} {I:Nat} {l:List Wq} (h:I+l.length<=xs.size) (i:Nat):G (lY xs I l 0) i=if I<=i/\i < I+l.length then (l[i - I]?).getD (.none,.none) else G xs i:=by
 rw [AM,m8 l xs I 0 (by lia),Nat.add_zero];have J:(xs.toList.take I).length=I:=by rw [WA,Le];lia
 by_cases h1:i < I
 .rw [acB (by lia),WC,XZ (by lia),aar h1,<- AM]
 .by_cases h2:i < I+l.length
  .rw [acA (by lia),XZ (by rw [Do];lia),Yl (by lia),J]
  .rw [acB (by lia),Yl (by rw [Do];lia),Do,J,abN,show I+l.length+(i - (I+l.length))=i by lia,<- AM]
def zj {xs:Array Wq} {I:Nat} {l:List Wq} (h:I+l.length<=xs.size) (J:l.Perm ((xs.toList.drop I).take l.length)):(lY xs I l 0).Perm xs:=by
 rw [Xq,m8 l xs I 0 (by lia),Nat.add_zero];have e:xs.toList=xs.toList.take I++(xs.toList.drop I).take l.length++xs.toList.drop (I+l.length):=by
  rw [WC,<- aag,XF,XF]
 refine ZT ?_ (List.Perm.of_eq e.symm);exact ((J.append_left _)).append_right _
section
variable {M:Model} {A:WN} {E:acJ} {s:gs} {blt:Wq->Wq->Bool} {k₀:ZM} {In:Wq->Prop}
def MO {x:WZ} {Q:PUnit->WZ->Prop} {st:WZ} (h:Q ⟨⟩ x):wpS M A E s (set x:StateT WZ Sem PUnit) Q st:=by
 unfold wpS;rw [StateT.run_set];exact CT ⟨rfl,h⟩
structure MA (sa hi:Nat) (P:Array (Nat×Nat×Nat)) (blt:Wq->Wq->Bool) (st st':WZ):Prop where
 kind:kindOf st'=kindOf st
 pend:Wz st'=P
 failed:Xp st'=Xp st
 perm:(DO st').Perm (DO st)
 out:∀ k,k < sa\/hi<=k->G (DO st') k=G (DO st) k
 seg:SegG blt (DO st') sa hi
def Dg {xs:Array Wq} {lo hi i j:Nat} (h:SegG blt xs lo hi) (L:hi<=xs.size) (h1:lo<=i) (h2:j<=hi):KA blt (xs.extract i j) 0 (xs.extract i j).size:=fun p q Y J _ I _=>by
 rw [Z9] at Y J;rw [X2,X2]
 have:=h (i+p) (i+q) (by lia) (by lia) (by lia)
 rwa [jI (by lia),jI (by lia)] at this
def AB (O:Orc M A E s blt k₀ In) {st:WZ} {i sa na pw sb nb qw:Nat} {Q:Bool->WZ->Prop} (h1:(Wz st)[i]?=some (sa,na,pw)) (h2:(Wz st)[i+1]?=some (sb,nb,qw)) (hk:kindOf st=k₀) (hI:jE In st) (hf:Xp st=none)
  (ha:1<=na) (hb:1<=nb) (hab:sb=sa+na) (hz:sb+nb<=(DO st).size) (Y:SegG blt (DO st) sa sb) (L:SegG blt (DO st) sb (sb+nb))
  (hq:∀ st',MA sa (sb+nb) (((Wz st).setIfInBounds i (sa,na+nb,pw)).eraseIdxIfInBounds (i+1)) blt st st'->Q true st'):wpS M A E s (mergeAt' i) Q st:=by
 have hA:∀ j (h:j < (DO st).size),In (DO st)[j]:=fun j h=>hI.at h;refine nE (Ze ?_);rw [h1,h2];refine nE (MO ?_);have ib:sb < (DO st).size:=by lia
 refine nE (bm ib ?_);refine nE (fA O (arr:=DO st) (base:=sa) (n:=na) (hint:=0) (by lia) (by lia) (hA _ _) hA hk (by rw [<- hab];exact Y.seg) fun k hkn u1 u2=>?_);have u1':∀ j,sa<=j->j < sa+k->blt (G (DO st) sb) (G (DO st) j)=false:=fun j a b=>by
  rw [jI ib,jI (show j < _ by lia)];exact v6 (by have:=u1 (j - sa) (by lia) (by lia);simpa only [show sa+(j - sa)=j by lia] using this)
 have u2':∀ j,sa+k<=j->j < sb->blt (G (DO st) sb) (G (DO st) j)=true:=fun j a b=>by
  rw [jI ib,jI (show j < _ by lia)];exact v6 (by have:=u2 (j - sa) (by lia) (by lia) (by lia);simpa only [show sa+(j - sa)=j by lia] using this)
 have same:∀ (sg:SegG blt (DO st) sa (sb+nb)),MA sa (sb+nb) (((Wz st).setIfInBounds i (sa,na+nb,pw)).eraseIdxIfInBounds (i+1)) blt st (Yn (kindOf st) (DO st) (((Wz st).setIfInBounds i (sa,na+nb,pw)).eraseIdxIfInBounds (i+1)) (gallopOf st) (Xp st)):=fun sg=>⟨rfl,rfl,rfl,ZV _,fun _ _=>rfl,sg⟩;refine aG (fun hn0=>tp (hq _ (same fun p q a b c=>?_))) (fun hn0=>?_)
 .have hn0:na - k=0:=by simpa using hn0
  by_cases hp:p < sb
  .by_cases J:q < sb
   .exact Y p q a b J
   .exact O.trans _ _ _ (u1' p a (by lia)) (L sb q (mK _) (by lia) c)
  .exact L p q (by lia) b c
 have hn0:na - k≠0:=by simpa using hn0
 have il:sa+k+(na - k) - 1 < (DO st).size:=by lia
 refine nE (bm il ?_);refine nE (fA O (arr:=DO st) (base:=sb) (n:=nb) (hint:=nb - 1) (by lia) (by lia) (hA _ _) hA hk L.seg fun m hmn v1 v2=>?_);have el:sa+k+(na - k) - 1=sb - 1:=by lia
 have v1':∀ j,sb<=j->j < sb+m->blt (G (DO st) j) (G (DO st) (sb - 1))=true:=fun j a b=>by
  rw [<- el,jI il,jI (show j < _ by lia)];exact oW (by have:=v1 (j - sb) (by lia) (by lia);simpa only [show sb+(j - sb)=j by lia] using this)
 have v2':∀ j,sb+m<=j->j < sb+nb->blt (G (DO st) j) (G (DO st) (sb - 1))=false:=fun j a b=>by
  rw [<- el,jI il,jI (show j < _ by lia)];exact oW (by have:=v2 (j - sb) (by lia) (by lia) (by lia);simpa only [show sb+(j - sb)=j by lia] using this)
 refine aG (fun hm0=>tp (hq _ (same fun p q a b c=>?_))) (fun hm0=>?_)
 .have hm0:m=0:=by simpa using hm0
  by_cases hp:p < sb
  .by_cases J:q < sb
   .exact Y p q a b J
   .exact O.trans _ _ _ (Y p (sb - 1) a (by lia) (by lia)) (v2' q (by lia) c)
  .exact L p q (by lia) b c
 have hm0:m≠0:=by simpa using hm0
 have zx:((DO st).extract (sa+k) sb).size=na - k:=by rw [Z9];lia
 have zy:((DO st).extract sb (sb+m)).size=m:=by rw [Z9];lia
 have gx:∀ j (h:j < ((DO st).extract (sa+k) sb).size),((DO st).extract (sa+k) sb)[j]=G (DO st) (sa+k+j):=fun j h=>by rw [X2,jI]
 have gy:∀ j (h:j < ((DO st).extract sb (sb+m)).size),((DO st).extract sb (sb+m))[j]=G (DO st) (sb+j):=fun j h=>by rw [X2,jI]
 have inx:∀ j (h:j < ((DO st).extract (sa+k) sb).size),In ((DO st).extract (sa+k) sb)[j]:=fun j h=>by rw [X2];exact hA _ _
 have iny:∀ j (h:j < ((DO st).extract sb (sb+m)).size),In ((DO st).extract sb (sb+m))[j]:=fun j h=>by rw [X2];exact hA _ _
 have sx:=Dg Y (by lia) (show sa<=sa+k by lia) (mK sb);have sy:=Dg L hz (mK sb) (show sb+m<=sb+nb by lia);have b0:blt (((DO st).extract sb (sb+m))[0]'(by lia)) (((DO st).extract (sa+k) sb)[0]'(by lia))=true:=by
  rw [gx,gy];exact u2' _ (by lia) (by lia)
 have bl:∀ j (h:j < ((DO st).extract sb (sb+m)).size),blt ((DO st).extract sb (sb+m))[j] (((DO st).extract (sa+k) sb)[((DO st).extract (sa+k) sb).size - 1]'(by lia))=true:=fun j h=>by
  rw [gx,gy,zx,show sa+k+(na - k - 1)=sb - 1 by lia];exact v1' _ (by lia) (by lia)
 have lx:((DO st).extract (sa+k) sb).toList++((DO st).extract sb (sb+m)).toList=((DO st).toList.drop (sa+k)).take (na - k+m):=by
  rw [jx,jx,show na - k+m=(sb - (sa+k))+m by lia,List.take_add,aag,show sa+k+(sb - (sa+k))=sb by lia,show sb+m - sb=m by lia]
 have fin:∀ (r:Array Wq) (I:WZ),SG (Yn (kindOf st) (DO st) (((Wz st).setIfInBounds i (sa,na+nb,pw)).eraseIdxIfInBounds (i+1)) (gallopOf st) (Xp st)) I->Aq (iq blt) (((DO st).extract (sa+k) sb).toList++((DO st).extract sb (sb+m)).toList) r.toList ->
   MA sa (sb+nb) (((Wz st).setIfInBounds i (sa,na+nb,pw)).eraseIdxIfInBounds (i+1)) blt st (Yn (kindOf I) (lY (DO I) (sa+k) r.toList 0) (Wz I) (gallopOf I) (Xp I)):=by
  intro r I g ⟨rp,rs⟩;have ga:DO I=DO st:=g.arr;have rl:r.toList.length=na - k+m:=by rw [rp.length_eq,Do,Le,Le,zx,zy]
  have hz2:sa+k+r.toList.length<=(DO st).size:=by lia
  rw [lx] at rp;refine ⟨g.kind,g.pend,g.failed,?_,fun p hp=>?_,fun p q a b c=>?_⟩
  .show (lY (DO I) (sa+k) r.toList 0).Perm _;rw [ga];exact zj hz2 (by rw [rl];exact rp)
  .show G (lY (DO I) (sa+k) r.toList 0) p=_;rw [ga,ui hz2,acB (by lia)]
  .show blt (G (lY (DO I) (sa+k) r.toList 0) q) (G (lY (DO I) (sa+k) r.toList 0) p)=false;rw [ga,ui hz2,ui hz2,rl]
   have old:∀ x,sa+k<=x->x < sa+k+(na - k+m)->∃ y,sa+k<=y/\y < sb+m/\(r.toList[x - (sa+k)]?).getD (.none,.none)=G (DO st) y:=fun x x1 x2=>by
    have hx:x - (sa+k) < r.toList.length:=by lia
    rw [oR hx];obtain ⟨j,hj,j1,j2,e⟩:=j4 (rp.mem_iff.mp (WM hx));exact ⟨j,j1,by lia,by rw [jI hj,e];rfl⟩
   by_cases hp:sa+k<=p/\p < sa+k+(na - k+m)
   .rw [acA hp];by_cases J:sa+k<=q/\q < sa+k+(na - k+m)
    .rw [acA J,oR (show p - (sa+k) < _ by lia),oR (show q - (sa+k) < _ by lia)];by_cases hpq:p=q
     .subst hpq;exact O.refl _
     .exact (Xj.mp rs) _ _ _ _ (by lia)
    .rw [acB J];obtain ⟨y,y1,y2,e⟩:=old p hp.1 hp.2;rw [e];by_cases hy:y < sb
     .exact O.trans _ _ _ (Y y (sb - 1) (by lia) (by lia) (by lia)) (v2' q (by lia) c)
     .exact L y q (by lia) (by lia) c
   .rw [acB hp];by_cases J:sa+k<=q/\q < sa+k+(na - k+m)
    .rw [acA J];obtain ⟨y,y1,y2,e⟩:=old q J.1 J.2;rw [e];by_cases hy:y < sb
     .exact Y p y a (by lia) hy
     .exact O.trans _ _ _ (u1' p a (by lia)) (L sb y (mK _) (by lia) (by lia))
    .rw [acB J];by_cases hps:p < sb
     .by_cases hqs:q < sb
      .exact Y p q a b hqs
      .exact O.trans _ _ _ (u1' p a (by lia)) (L sb q (mK _) (by lia) c)
     .exact L p q (by lia) b c
 refine aG (fun _=>?_) (fun _=>?_)
 .refine nE (AN O (a:=(DO st).extract (sa+k) sb) (b:=(DO st).extract sb (sb+m)) (st:=Yn (kindOf st) (DO st) (((Wz st).setIfInBounds i (sa,na+nb,pw)).eraseIdxIfInBounds (i+1)) (gallopOf st) (Xp st)) hk inx iny sx sy (by lia) (by lia) b0 bl fun r I g hr=>?_);refine nE (Yd (nE (Ze ?_)));have hfn:(Xp I).isNone=true:=by rw [show Xp I=none from g.failed.trans hf];rfl
  exact tp (by
   show Q (Xp I).isNone _;rw [hfn];exact hq _ (fin r I g hr))
 .refine nE (Ax O (a:=(DO st).extract (sa+k) sb) (b:=(DO st).extract sb (sb+m)) (st:=Yn (kindOf st) (DO st) (((Wz st).setIfInBounds i (sa,na+nb,pw)).eraseIdxIfInBounds (i+1)) (gallopOf st) (Xp st)) hk inx iny sx sy (by lia) (by lia) b0 bl fun r I g hr=>?_);refine nE (Yd (nE (Ze ?_)));have hfn:(Xp I).isNone=true:=by rw [show Xp I=none from g.failed.trans hf];rfl
  exact tp (by
   show Q (Xp I).isNone _;rw [hfn];exact hq _ (fin r I g hr))
end
def Runs (blt:Wq->Wq->Bool) (xs:Array Wq):List (Nat×Nat×Nat)->Nat->Nat->Prop
 | [],lo,hi=>lo=hi
 | t::r,lo,hi=>t.1=lo/\1<=t.2.1/\SegG blt xs lo (lo+t.2.1)/\Runs blt xs r (lo+t.2.1) hi
section
variable {blt:Wq->Wq->Bool} {xs ys:Array Wq}
def Runs.le:∀ {p:List (Nat×Nat×Nat)} {lo hi:Nat},Runs blt xs p lo hi->lo+p.length<=hi
 | [],lo,hi,h=>by
  have h:lo=hi:=h;simp [h]
 | t::r,lo,hi,⟨h1,h2,h3,h4⟩=>by
  have:=Runs.le h4
  rw [RW];lia
def Runs.congr:∀ {p:List (Nat×Nat×Nat)} {lo hi:Nat},Runs blt xs p lo hi->(∀ k,lo<=k->k < hi->G ys k=G xs k)->Runs blt ys p lo hi
 | [],lo,hi,h,_=>h
 | t::r,lo,hi,⟨h1,h2,h3,h4⟩,e=>by
  have I:=Runs.le h4;refine ⟨h1,h2,fun i j a b c=>?_,Runs.congr h4 fun k a b=>e k (by lia) b⟩;rw [e i a (by lia),e j (by lia) (by lia)];exact h3 i j a b c
def Runs.snoc:∀ {p:List (Nat×Nat×Nat)} {lo hi n w:Nat},Runs blt xs p lo hi->1<=n->SegG blt xs hi (hi+n)->Runs blt xs (p++[(hi,n,w)]) lo (hi+n)
 | [],lo,hi,n,w,h,h1,h2=>by
  have h:lo=hi:=h;subst h;exact ⟨rfl,h1,h2,rfl⟩
 | t::r,lo,hi,n,w,⟨a,b,c,d⟩,h1,h2=>⟨a,b,c,Runs.snoc d h1 h2⟩
def Runs.map {f:Nat×Nat×Nat->Nat×Nat×Nat} (hf:∀ t,(f t).1=t.1/\(f t).2.1=t.2.1):∀ {p:List (Nat×Nat×Nat)} {lo hi i:Nat},Runs blt xs p lo hi->Runs blt xs (p.modify i f) lo hi
 | [],lo,hi,i,h=>by rw [List.modify_nil];exact h
 | t::r,lo,hi,0,⟨a,b,c,d⟩=>by
  rw [List.modify_zero_cons];exact ⟨(hf t).1.trans a,by rw [(hf t).2];exact b,by rw [(hf t).2];exact c,by rw [(hf t).2];exact d⟩
 | t::r,lo,hi,i+1,⟨a,b,c,d⟩=>by
  rw [List.modify_succ_cons];exact ⟨a,b,c,Runs.map hf d⟩
def Runs.two:∀ {I post:List (Nat×Nat×Nat)} {x y:Nat×Nat×Nat} {lo hi:Nat},Runs blt xs (I++x::y::post) lo hi ->
  1<=x.2.1/\1<=y.2.1/\y.1=x.1+x.2.1/\lo<=x.1/\y.1+y.2.1<=hi/\SegG blt xs x.1 y.1/\SegG blt xs y.1 (y.1+y.2.1) /\
  ∀ (ys:Array Wq) (w:Nat),(∀ k,k < x.1\/y.1+y.2.1<=k->G ys k=G xs k)->SegG blt ys x.1 (y.1+y.2.1)->Runs blt ys (I++(x.1,x.2.1+y.2.1,w)::post) lo hi
 | [],post,x,y,lo,hi,⟨a,b,c,a2,b2,c2,d2⟩=>by
  have hle:=Runs.le d2;subst a;refine ⟨b,b2,a2,mK _,by lia,by rw [a2];exact c,by rw [a2];exact c2,fun ys w out J=>?_⟩;refine ⟨rfl,by show 1<=x.2.1+y.2.1;lia,?_,?_⟩
  .show SegG blt ys x.1 (x.1+(x.2.1+y.2.1));rwa [show x.1+(x.2.1+y.2.1)=y.1+y.2.1 by lia]
  .show Runs blt ys post (x.1+(x.2.1+y.2.1)) hi;rw [show x.1+(x.2.1+y.2.1)=x.1+x.2.1+y.2.1 by lia];exact d2.congr fun k k1 k2=>out k (by lia)
 | t::I,post,x,y,lo,hi,⟨a,b,c,d⟩=>by
  obtain ⟨L,e2,e3,e4,e5,Y,e7,e8⟩:=Runs.two d;refine ⟨L,e2,e3,by lia,e5,Y,e7,fun ys w out J=>⟨a,b,fun i j p q r=>?_,e8 ys w out J⟩⟩;rw [out i (by lia),out j (by lia)];exact c i j p q r
end
def jt {α:Type}:∀ {l:List α} {i:Nat},i+1 < l.length->∃ I x y post,l=I++x::y::post/\I.length=i
 | a::b::r,0,_=>⟨[],a,b,r,rfl,rfl⟩
 | a::r,i+1,h=>by
  rw [RW] at h;obtain ⟨I,x,y,post,e,J⟩:=jt (l:=r) (i:=i) (by lia);exact ⟨a::I,x,y,post,by rw [e];rfl,by rw [RW,J]⟩
def y6 {p:Array (Nat×Nat×Nat)} {I post:List (Nat×Nat×Nat)} {x y t:Nat×Nat×Nat} (e:p.toList=I++x::y::post):((p.setIfInBounds I.length t).eraseIdxIfInBounds (I.length+1)).toList=I++t::post:=by
 have J:I.length+1 < p.size:=by
  rw [<- Le,e];simp
 rw [Array.eraseIdxIfInBounds_eq,dif_pos (by rw [Array.size_setIfInBounds];exact J),Array.toList_eraseIdx,Z5,e];rw [List.set_append_right _ _ (mK _),Nat.sub_self,List.set_cons_zero,List.eraseIdx_append_of_length_le (by lia)];rw [show I.length+1 - I.length=1 by lia];rfl
structure SR (blt:Wq->Wq->Bool) (st st':WZ) (lo:Nat):Prop where
 kind:kindOf st'=kindOf st
 failed:Xp st'=Xp st
 perm:(DO st').Perm (DO st)
 runs:Runs blt (DO st') (Wz st').toList 0 lo
section
variable {M:Model} {A:WN} {E:acJ} {s:gs} {blt:Wq->Wq->Bool} {k₀:ZM} {In:Wq->Prop}
def jE.perm {st st':WZ} (h:jE In st) (g:(DO st').Perm (DO st)):jE In st':=fun x I=>h x ((Xq.mp g).mem_iff.mp I)
def q0 (O:Orc M A E s blt k₀ In) {st st1:WZ} {i lo:Nat} {Q:Bool->WZ->Prop} (hk:kindOf st=k₀) (hI:jE In st) (hf:Xp st=none) (h:SR blt st st1 lo) (hl:lo<=(DO st).size) (hi:i+1 < (Wz st1).size)
  (hq:∀ I,SR blt st I lo->(Wz I).size+1=(Wz st1).size->(∀ k,lo<=k->G (DO I) k=G (DO st1) k)->Q true I):wpS M A E s (mergeAt' i) Q st1:=by
 obtain ⟨J,x,y,post,e,L⟩:=jt (l:=(Wz st1).toList) (i:=i) (by rw [Le];exact hi);subst L;have Y:=h.runs;rw [e] at Y;obtain ⟨e1,e2,e3,e4,e5,e6,e7,e8⟩:=Y.two;have gx:(Wz st1)[J.length]?=some x:=by rw [<- Xf,e];simp
 have gy:(Wz st1)[J.length+1]?=some y:=by rw [<- Xf,e];simp
 have sz:(DO st1).size=(DO st).size:=h.perm.size_eq;refine AB O (sa:=x.1) (na:=x.2.1) (pw:=x.2.2) (sb:=y.1) (nb:=y.2.1) (qw:=y.2.2) gx gy (h.kind.trans hk) (hI.perm h.perm) (h.failed.trans hf) e1 e2 e3 (by lia) e6 e7 fun I m=>?_;have L:(Wz I).toList=J++(x.1,x.2.1+y.2.1,x.2.2)::post:=by rw [m.pend];exact y6 e
 refine hq I ⟨m.kind.trans h.kind,m.failed.trans h.failed,m.perm.trans h.perm,by rw [L];exact e8 _ _ m.out m.seg⟩ ?_ fun k hk'=>m.out k (.inr (by lia));rw [<- Le,<- Le,L,e];simp;lia
end
section
variable {M:Model} {A:WN} {E:acJ} {s:gs} {blt:Wq->Wq->Bool} {k₀:ZM} {In:Wq->Prop}
def nh (O:Orc M A E s blt k₀ In) {st:WZ} {Q:Unit->WZ->Prop} (hk:kindOf st=k₀) (hI:jE In st) (hf:Xp st=none) (hp:Wz st=#[]) (h2:2<=(DO st).size)
  (hq:∀ J,(DO J).Perm (DO st)->Xp J=none->SegG blt (DO J) 0 (DO st).size->Q () J):wpS M A E s sortRuns' Q st:=by
 refine nE (Ze ?_);have r0:SR blt st st 0:=⟨rfl,rfl,ZV _,by rw [hp];rfl⟩;refine nE (Yz (Xh (a:=0) (b:=(DO st).size) (I:=fun x c J=>∃ lo,c=(none,lo)/\SR blt st J lo/\lo<=(DO st).size/\min x (DO st).size<=lo)
  (Q:=fun c J=>c=(none,(DO st).size)/\SR blt st J (DO st).size) ?step ?fin ⟨0,rfl,r0,WB _,by lia⟩) ?post)
 case fin =>
  rintro c J ⟨lo,rfl,h,a,b⟩
  have:lo=(DO st).size:=by lia
  subst this;exact ⟨rfl,h⟩
 case post =>
  rintro c J ⟨rfl,h⟩;have h0:=h.runs.le;rw [Le] at h0;refine nE (Yz (Xh (a:=0) (b:=(DO st).size) (I:=fun x c J=>c=(none,())/\SR blt st J (DO st).size/\(Wz J).size<=max 1 ((DO st).size - x))
   (Q:=fun c J=>c=(none,())/\SR blt st J (DO st).size/\(Wz J).size<=1) ?stepf ?finf ⟨rfl,h,by lia⟩) ?postf)
  case finf =>
   rintro c st1 ⟨rfl,h1,e1⟩;exact ⟨rfl,h1,by lia⟩
  case stepf =>
   rintro x c st1 _ hx ⟨rfl,h1,e1⟩;refine nE (Ze ?_);refine aG (fun hle=>tp ⟨rfl,h1,hle⟩) (fun hle=>?_);have hle:¬ ((Wz st1).size<=1):=hle;refine nE (q0 O hk hI hf h1 (mK _) ?_ fun st5 h5 e5 _=>?_)
   .have ix:∀ (c:Prop) [Decidable c],(if c then (Wz st1).size - 2 - 1 else (Wz st1).size - 2)+1 < (Wz st1).size:=by
     intro c _;split <;> lia
    exact ix _
   .exact aG (fun z=>by cases z) (fun _=>tp ⟨rfl,h5,by lia⟩)
  case postf =>
   rintro c st1 ⟨rfl,h1,e1⟩;refine tp (hq st1 h1.perm (h1.failed.trans hf) ?_);have hr:=h1.runs;rw [<- Le] at e1;generalize (Wz st1).toList=l at hr e1
   match l,hr,e1 with
   | [],hr,_ =>
    have hr:0=(DO st).size:=hr;lia
   | [t],⟨_,_,sg,e⟩,_ =>
    have e:0+t.2.1=(DO st).size:=e;rw [e] at sg;exact sg
   | _::_::_,_,e1=>simp at e1
 case step =>
  rintro x c st1 _ hx ⟨lo,rfl,h,a,b⟩;refine aG (fun hge=>?_) (fun hge=>?_)
  .have hge:lo ≥ (DO st).size:=hge
   have:lo=(DO st).size:=by lia
   subst this;exact tp ⟨rfl,h⟩
  .have hge:¬ (lo ≥ (DO st).size):=hge;have sz:(DO st1).size=(DO st).size:=h.perm.size_eq;refine nE (zp O (lo:=lo) (nrem:=(DO st).size - lo) (h.kind.trans hk) (hI.perm h.perm) (by lia) (by lia) fun m st2 sa m1 m2 sg=>?_);have sz2:=sa.size;refine aG (fun hlt=>?_) (fun hlt=>?_)
   .have hlt:m < aaQ (DO st).size (DO st).size 0:=hlt;refine nE (Zz (YO ⟨rfl,?_⟩));refine nE (Dv O (lo:=lo) (n:=min ((DO st).size - lo) (aaQ (DO st).size (DO st).size 0)) (ok:=m) (sa.kind.trans (h.kind.trans hk)) ((hI.perm h.perm).sa sa) (by lia) (by lia) m1 sg fun st3 sb sg3=>?_);refine aG (fun z=>by cases z) (fun _=>?_);have Y:=sa.trans sb;have n1':1<=min ((DO st).size - lo) (aaQ (DO st).size (DO st).size 0):=by lia
    have n2':min ((DO st).size - lo) (aaQ (DO st).size (DO st).size 0)<=(DO st).size - lo:=by lia
    have L:SR blt st st3 lo:=⟨Y.kind.trans h.kind,Y.failed.trans h.failed,Y.perm.trans h.perm,by
     rw [Y.pend];exact h.runs.congr fun k _ k2=>Y.pre k k2⟩
    refine nE (Ze ?_);cases hb:(Wz st3).back? with
    | none =>
     refine nE (Yd (tp ⟨lo+min ((DO st).size - lo) (aaQ (DO st).size (DO st).size 0),rfl,⟨L.kind,L.failed,L.perm,?_⟩,by lia,by lia⟩));show Runs blt (DO st3) ((Wz st3).push (lo,min ((DO st).size - lo) (aaQ (DO st).size (DO st).size 0),0)).toList 0 (lo+min ((DO st).size - lo) (aaQ (DO st).size (DO st).size 0));rw [Zr];exact L.runs.snoc n1' sg3
    | some t =>
     obtain ⟨s1,n1,w1⟩:=t;refine nE (Yz (Xh (I:=fun _ c J=>c=(none,())/\SR blt st J lo/\∀ k,lo<=k->G (DO J) k=G (DO st3) k) (Q:=fun c J=>c=(none,())/\SR blt st J lo/\∀ k,lo<=k->G (DO J) k=G (DO st3) k) ?step1 (fun _ _ z=>z) ⟨rfl,L,fun _ _=>rfl⟩) ?post1)
     case step1 =>
      rintro y c st4 _ hy ⟨rfl,h4,g4⟩;refine nE (Ze ?_);dsimp only;by_cases hp1:(Wz st4).size > 1
      .rw [acA hp1,getElem?_pos (Wz st4) ((Wz st4).size - 2) (by lia)];refine aG (fun _=>tp ⟨rfl,h4,g4⟩) (fun _=>?_);refine nE (q0 O hk hI hf h4 a (show (Wz st4).size - 2+1 < _ by lia) fun st5 h5 _ g5=>?_);exact aG (fun z=>by cases z) (fun _=>tp ⟨rfl,h5,fun k hk=>(g5 k hk).trans (g4 k hk)⟩)
      .rw [acB hp1];exact tp ⟨rfl,h4,g4⟩
     case post1 =>
      rintro c st4 ⟨rfl,h4,g4⟩;refine nE (Yd (nE (Yd (tp ⟨lo+min ((DO st).size - lo) (aaQ (DO st).size (DO st).size 0),rfl,⟨h4.kind,h4.failed,h4.perm,?_⟩,by lia,by lia⟩))));show Runs blt (DO st4) (((Wz st4).modify ((Wz st4).size - 1) _).push (lo,min ((DO st).size - lo) (aaQ (DO st).size (DO st).size 0),0)).toList 0 (lo+min ((DO st).size - lo) (aaQ (DO st).size (DO st).size 0));rw [Zr,abF];refine Runs.snoc (Runs.map ?_ h4.runs) n1' (fun i j p q r=>?_)
      .rintro ⟨u1,u2,u3⟩;exact ⟨rfl,rfl⟩
      rw [g4 i p,g4 j (by lia)];exact sg3 i j p q r
   .have Y:=sa;have sg3:=sg;have n1':=m1;have L:SR blt st st2 lo:=⟨Y.kind.trans h.kind,Y.failed.trans h.failed,Y.perm.trans h.perm,by
     rw [Y.pend];exact h.runs.congr fun k _ k2=>Y.pre k k2⟩
    refine nE (Ze ?_);cases hb:(Wz st2).back? with
    | none =>
     refine nE (Yd (tp ⟨lo+m,rfl,⟨L.kind,L.failed,L.perm,?_⟩,by lia,by lia⟩));show Runs blt (DO st2) ((Wz st2).push (lo,m,0)).toList 0 (lo+m);rw [Zr];exact L.runs.snoc n1' sg3
    | some t =>
     obtain ⟨s1,n1,w1⟩:=t;refine nE (Yz (Xh (I:=fun _ c J=>c=(none,())/\SR blt st J lo/\∀ k,lo<=k->G (DO J) k=G (DO st2) k) (Q:=fun c J=>c=(none,())/\SR blt st J lo/\∀ k,lo<=k->G (DO J) k=G (DO st2) k) ?step2 (fun _ _ z=>z) ⟨rfl,L,fun _ _=>rfl⟩) ?post2)
     case step2 =>
      rintro y c st4 _ hy ⟨rfl,h4,g4⟩;refine nE (Ze ?_);dsimp only;by_cases hp1:(Wz st4).size > 1
      .rw [acA hp1,getElem?_pos (Wz st4) ((Wz st4).size - 2) (by lia)];refine aG (fun _=>tp ⟨rfl,h4,g4⟩) (fun _=>?_);refine nE (q0 O hk hI hf h4 a (show (Wz st4).size - 2+1 < _ by lia) fun st5 h5 _ g5=>?_);exact aG (fun z=>by cases z) (fun _=>tp ⟨rfl,h5,fun k hk=>(g5 k hk).trans (g4 k hk)⟩)
      .rw [acB hp1];exact tp ⟨rfl,h4,g4⟩
     case post2 =>
      rintro c st4 ⟨rfl,h4,g4⟩;refine nE (Yd (nE (Yd (tp ⟨lo+m,rfl,⟨h4.kind,h4.failed,h4.perm,?_⟩,by lia,by lia⟩))));show Runs blt (DO st4) (((Wz st4).modify ((Wz st4).size - 1) _).push (lo,m,0)).toList 0 (lo+m);rw [Zr,abF];refine Runs.snoc (Runs.map ?_ h4.runs) n1' (fun i j p q r=>?_)
      .rintro ⟨u1,u2,u3⟩;exact ⟨rfl,rfl⟩
      rw [g4 i p,g4 j (by lia)];exact sg3 i j p q r
end
structure TO {α:Type} (lt:α->α->Prop):Prop where
 irr:∀ a,¬ lt a a
 tr:∀ a b c,lt a b->lt b c->lt a c
 tri:∀ a b,lt a b\/a=b\/lt b a
def TO.lex {α I:Type} {l1:α->α->Prop} {l2:I->I->Prop} (h1:TO l1) (h2:TO l2):TO fun x y:α×I=>l1 x.1 y.1\/(x.1=y.1/\l2 x.2 y.2):=by
 refine ⟨fun a h=>?_,fun a b c h g=>?_,fun a b=>?_⟩
 .rcases h with h|⟨_,h⟩
  .exact h1.irr _ h
  .exact h2.irr _ h
 .rcases h with h|⟨e,h⟩ <;> rcases g with g|⟨f,g⟩
  .exact .inl (h1.tr _ _ _ h g)
  .exact .inl (f ▸ h)
  .exact .inl (e ▸ g)
  .exact .inr ⟨e.trans f,h2.tr _ _ _ h g⟩
 .rcases h1.tri a.1 b.1 with h|h|h
  .exact .inl (.inl h)
  .rcases h2.tri a.2 b.2 with g|g|g
   .exact .inl (.inr ⟨h,g⟩)
   .exact .inr (.inl (Prod.ext h g))
   .exact .inr (.inr (.inr ⟨h.symm,g⟩))
  .exact .inr (.inr (.inl h))
def xT:TO (fun a b:Int=>a < b):=⟨fun a=>Int.lt_irrefl a,fun a b c=>Int.lt_trans,fun a b=>by lia⟩
def xL:TO (fun a b:acG=>a < b):=⟨fun a=>aah a,fun a b c=>List.lt_trans,fun a b=>by
 by_cases h:a < b
 .exact .inl h
 .by_cases g:b < a
  .exact .inr (.inr g)
  .exact .inr (.inl (List.le_antisymm (List.not_lt.mp g) (List.not_lt.mp h)))⟩
abbrev K4:Type:=Int×Int×List Nat×Int
def ca (x y:K4):Prop:=x.1 < y.1\/(x.1=y.1/\(x.2.1 < y.2.1\/(x.2.1=y.2.1/\(x.2.2.1 < y.2.2.1\/(x.2.2.1=y.2.2.1/\x.2.2.2 < y.2.2.2)))))
def to4:TO ca:=xT.lex (xT.lex (xL.lex xT))
instance (x y:K4):Decidable (ca x y):=by unfold ca;infer_instance
def AC (kd:dO->K4) (x y:Wq):Bool:=decide (ca (kd x.1) (kd y.1))
def In4 (s:gs) (kd:dO->K4) (x:Wq):Prop:=∃ p o xs n a I b L z J c Y,x.1=.ref p/\s.heap.get? p=some o/\o.data=.seq xs n/\xs.toList=[.int a I,.int b L,.str z J,.int c Y]/\kd x.1=(a,b,z.cps.toList,c)
section
variable {prog:Ww} {w:WU} {A:WN} {E:acJ} {s:gs} {kd:dO->K4}
def yz {i j:Int} {t u:Tok} {Q:Bool->gs->Prop} (h:Q (decide (i < j)) s):Wv (Wx prog w) A (oneLt' false (.int i t) (.int j u)) Q E s :=
 abb _ _ (lt_int (show aaW Q (.bool (decide (i < j))) s from h))
def Km {x y:Str} {t u:Tok} {Q:Bool->gs->Prop} (h:Q (decide (x.cps.toList < y.cps.toList)) s):Wv (Wx prog w) A (oneLt' false (.str x t) (.str y u)) Q E s :=
 abb _ _ (lt_str (show aaW Q (.bool (decide (x.cps.toList < y.cps.toList))) s from h))
def F3 {x y:Str} (h:x≠y):x.cps.toList≠y.cps.toList:=fun z=>h (by cases x;cases y;congr 1;exact YJ.mp z)
def l1 {a a':Int} {k l:Int×List Nat×Int} (h:a≠a'):ca (a,k) (a',l) ↔ a < a':=by simp [ca,h]
def l2 {a b b':Int} {k l:List Nat×Int} (h:b≠b'):ca (a,b,k) (a,b',l) ↔ b < b':=by simp [ca,h]
def l3 {a b c c':Int} {m n:acG} (h:m≠n):ca (a,b,m,c) (a,b,n,c') ↔ m < n:=by simp [ca,h]
def l4 {a b c c':Int} {m:acG}:ca (a,b,m,c) (a,b,m,c') ↔ c < c':=by simp [ca,aah]
def Vb:Orc (Wx prog w) A E s (AC kd) (abl true) (In4 s kd):=by
 refine ⟨fun x y h=>?_,fun x y z h g=>?_,fun x y st Q hx hy hk hq=>?_⟩
 .have h:=acE h;exact acC fun g=>to4.irr _ (to4.tr _ _ _ h g)
 .have h:=of_decide_eq_false h;have g:=of_decide_eq_false g;refine acC fun e=>?_;rcases to4.tri (kd y.1) (kd x.1) with q|q|q
  .exact h q
  .exact g (q ▸ e)
  .exact g (to4.tr _ _ _ e q)
 .obtain ⟨p,o,xs,n,a,t1,b,t2,z,t3,c,t4,e1,e2,e3,e4,e5⟩:=hx;obtain ⟨p',o',xs',n',Y,t1',b',t2',z',t3',c',t4',f1,f2,f3,f4,f5⟩:=hy;rw [lt'_eq];refine nE (Ze ?_);rw [hk,e1,f1];have hb:AC kd x y=decide (ca (a,b,z.cps.toList,c) (Y,b',z'.cps.toList,c')):=by unfold AC;rw [e5,f5]
  rw [hb] at hq;have fin:∀ r:Bool,r=decide (ca (a,b,z.cps.toList,c) (Y,b',z'.cps.toList,c'))->(fun v s'=>s'=s/\(fun (u:Except dO Bool) (st':WZ)=>wpS (Wx prog w) A E s (match u with|.ok b=>pure (some b)|.error e=>do modify (fun s=>Yn (kindOf s) (DO s) (Wz s) (gallopOf s) (some e));pure none) Q st') (.ok v) st) r s:=fun r hr=>⟨rfl,by subst hr;exact tp hq⟩
  refine nE (Zz (YI (acv e2 e3 f2 f3 ?_)));rw [e4,f4];refine YK (Za (Y7 (fun I=>YT ?_) fun I=>Y8 (oneLt_int (fin _ ?_))))
  .refine YK (Za (Y7 (fun J=>YT ?_) fun J=>Y8 (yz (fin _ ?_))))
   .refine YK (wpAny_eqBool_str (Y7 (fun L=>YT ?_) fun L=>Y8 (Km (fin _ ?_))))
    .refine YK (Za (Y7 (fun q4=>YT ?_) fun q4=>Y8 (yz (fin _ ?_))))
     .have z1:xs.size=4:=by rw [<- Le,e4];rfl
      have z2:xs'.size=4:=by rw [<- Le,f4];rfl
      refine acq (fin _ ?_);have I:a=Y:=by simpa using I
      have J:b=b':=by simpa using J
      have L:z=z':=by simpa using L
      have q4:c=c':=by simpa using q4
      subst I;subst J;subst L;subst q4;rw [z1,z2,acC (to4.irr _)];rfl
     .have I:a=Y:=by simpa using I
      have J:b=b':=by simpa using J
      have L:z=z':=by simpa using L
      subst I;subst J;subst L;exact decide_eq_decide.mpr l4.symm
    .have I:a=Y:=by simpa using I
     have J:b=b':=by simpa using J
     have L:z≠z':=by simpa using L
     subst I;subst J;exact decide_eq_decide.mpr (l3 (F3 L)).symm
   .have I:a=Y:=by simpa using I
    have J:b≠b':=by simpa using J
    subst I;exact decide_eq_decide.mpr (l2 J).symm
  .have I:a≠Y:=by simpa using I
   exact decide_eq_decide.mpr (l1 I).symm
end
section
variable {prog:Ww} {w:WU} {A:WN} {E:acJ} {s:gs} {kd:dO->K4} {a kS:ID} {ks vs:acM}
def behind (h:Yy) (kS a:ID) (out:acM):Yy:=(h.update kS (WQ fun _=>(#[]:Array dO))).update a (WQ fun _=>out.toArray)
def xi {st:WZ} {e L:Nat} {out:acM} {P:Zj->gs->Prop} (na:s.heap.get? a=some (Xb "list" #[] L)) (nk:s.heap.get? kS=some (Xb "list" ks.toArray e)) (Y:a≠kS)
  (I:(DO st).map (·.2)=out.toArray) (hz:out.length<=1000000) (hkz:ks.length<=1000000) (hf:Xp st=none) (h:P (.done (.ret .none)) { s with heap:=behind s.heap kS a out }):Wv (Wx prog w) A (ksk_tail a false L (.ref kS) st) P E s:=by
 have J:(s.heap.update kS (WQ fun _=>(#[]:Array dO))).get? a=some (Xb "list" #[] L):=((XX s.heap kS (WQ fun _=>(#[]:Array dO))).2 a Y).trans na;unfold ksk_tail;try dsimp only
 rw [I];refine bY (Y1 nk rfl ?_ (by rw [By,W0];omega) (WB _));refine bY (wpAny_letGo ?_);refine bY (seqEpoch_at J rfl ?_);refine bY (Y1 J rfl ?_ (WB _) (by simp only [Xu,if_false,By,W0];omega));rw [hf];simp only [bne_self_eq_false,Xu,if_false];exact CT h
def Key4 (s:gs) (kd:dO->K4) (k:dO):Prop:=∃ p o xs n a I b L z J c Y,k=.ref p/\s.heap.get? p=some o/\o.cls=.type "tuple"/\o.data=.seq xs n/\xs.toList=[.int a I,.int b L,.str z J,.int c Y]/\kd k=(a,b,z.cps.toList,c)
def BP:∀ {ks:acM},(∀ k∈ks,Key4 s kd k)->∃ fs,acr s.heap ks fs/\fs.length=ks.length/\∀ v∈fs,∃ a t,v=aam a t
 | [],_=>⟨[],abG,rfl,fun v I=>nomatch I⟩
 | k::r,h=>by
  obtain ⟨p,o,xs,n,a,J,b,t2,z,t3,c,t4,rfl,L,e2,e3,Y,_⟩:=h k (by simp);obtain ⟨fs,f1,f2,f3⟩:=BP (ks:=r) fun x hx=>h x (iN _ hx);refine ⟨.int a J::fs,abt L e2 e3 (by rw [<- Xf,Y];rfl) f1,by simp [f2],fun v I=>?_⟩;rcases rW.mp I with rfl|I
  .exact ⟨a,J,rfl⟩
  .exact f3 v I
def LD {e e1:Nat} {P:Zj->gs->Prop} (hl:ks.length=vs.length) (h2:2<=vs.length) (hz:vs.length<=1000000) (na:s.heap.get? a=some (Xb "list" #[] e1)) (nk:s.heap.get? kS=some (Xb "list" ks.toArray e)) (hne:a≠kS) (J:∀ k∈ks,Key4 s kd k)
  (h:∀ ps:List Wq,ps.Perm (ks.zip vs)->ps.Pairwise (fun x y=>¬ ca (kd y.1) (kd x.1))->P (.done (.ret .none)) { s with heap:=behind s.heap kS a (ps.map (·.2)) }) :
  Wv (Wx prog w) A (aaR a false vs.toArray e1 (.ref kS) ks.toArray) P E s:=by
 obtain ⟨fs,f1,f2,f3⟩:=BP J;have Y:¬ vs.toArray.size < 2:=by rw [By];omega
 unfold aaR;try dsimp only
 rw [acB iF,acB Y,acB Y];refine bY (acg (T:=.type "int") f1 (by omega) (fun v hv=>?_) (by trivial) ?_)
 .obtain ⟨x,t,rfl⟩:=f3 v hv;exact PySem.W.Looks.of_pure rfl
 rw [acB iF];have zl:(ks.toArray.zip vs.toArray).toList=ks.zip vs:=by simp
 have zs:(ks.toArray.zip vs.toArray).size=vs.length:=by rw [<- Le,zl,YU];omega
 have ek:abl ((ZN "int") != ZN "tuple")=abl true:=by rfl
 rw [ek];refine bY (W7 (nh (Vb (kd:=kd)) (st:=Yn (abl true) (ks.toArray.zip vs.toArray) #[] 7 none)
  (Q:=fun _ I=>(DO I).Perm (ks.toArray.zip vs.toArray)/\Xp I=none/\SegG (AC kd) (DO I) 0 (ks.toArray.zip vs.toArray).size) rfl (fun x hx=>?_) rfl rfl (by show 2<=(ks.toArray.zip vs.toArray).size;omega) fun I a1 a2 a3=>⟨a1,a2,a3⟩) ?_ fun _ _ z=>z)
 .have hx:x∈ks.zip vs:=by rw [<- zl];exact hx
  obtain ⟨p,o,xs,n,a,t1,b,t2,z,t3,c,t4,e0,e1,e2,e3,e4,e5⟩:=J x.1 (WO hx).1;exact ⟨p,o,xs,n,a,t1,b,t2,z,t3,c,t4,e0,e1,e3,e4,e5⟩
 rintro ⟨⟨⟩,I⟩ s' ⟨rfl,hp,hf,hs⟩;have L:(DO I).toList.Perm (ks.zip vs):=by rw [<- zl];exact Xq.mp hp
 refine xi (out:=(DO I).toList.map (·.2)) na nk hne (by apply YJ.mp;rw [ZH]) (by rw [eQ,L.length_eq,YU];omega) (by omega) hf (h _ L ?_);rw [Xj];intro i j hi hj hij;rw [Le] at hi hj
 have:=hs i j (by omega) (by omega) (by rw [<- hp.size_eq];exact hj)
 rw [jI hi,jI hj] at this;simpa using of_decide_eq_false this
end
end TS
namespace L2
open PySem PySem.Spec PyProof.Rows
open TS (K4 ca)
def lq {α:Type} {a:α} {P:Prop} (h:(none:Option α)=some a):P:=by cases h
def Fs:D->Option Int
 | .int n=>some n
 | _=>none
def Ul:D->Option Str
 | .str z=>some z
 | _=>none
def oh {d:D} {n:Int} (h:Fs d=some n):d=.int n:=by
 cases d with
 | int i=>exact acF D.int (WG h)
 | _=>exact lq (a:=n) h
def J2 {d:D} {z:Str} (h:Ul d=some z):d=.str z:=by
 cases d with
 | str i=>exact acF D.str (WG h)
 | _=>exact lq (a:=z) h
def Rl (v:D) (n:Int):Option K4:=match v with
 | .non=>some (0,0,[],n)
 | .int i=>some (1,i,[],n)
 | .str z=>some (2,0,z.cps.toList,n)
 | _=>none
def Uh (xs:acO):Option K4:=match xs with
 | [v,w]=>(Fs w).bind (Rl v)
 | _=>none
def jF (d:D):Option K4:=match d with
 | .tup xs=>Uh xs
 | _=>none
def ar (k:K4):D:=if k.1=0 then .tup [.non,.int k.2.2.2] else if k.1=1 then .tup [.int k.2.1,.int k.2.2.2] else .tup [.str ⟨k.2.2.1.toArray⟩,.int k.2.2.2]
def nt {d:D} {k:K4} (h:jF d=some k):ar k=d:=by
 cases d with
 | tup xs =>
  match xs,h with
  | [],h=>exact lq (a:=k) h
  | [v],h=>exact lq (a:=k) h
  | [v,w],h =>
   have h:(Fs w).bind (Rl v)=some k:=h;obtain ⟨n,J,I⟩:=W9.mp h;rw [oh J];cases v with
   | non=>cases I;rfl
   | int i=>cases I;rfl
   | str z=>cases I;rfl
   | _=>exact lq (a:=k) I
  | v::w::u::r,h=>exact lq (a:=k) h
 | _=>exact lq (a:=k) h
def T5 (xs:acO):Option K4:=match xs with
 | [a,b,z,c]=>(Fs a).bind fun a=>(Fs b).bind fun b=>(Ul z).bind fun z=>(Fs c).bind fun c=>some (a,b,z.cps.toList,c)
 | _=>none
def UE (d:D):Option K4:=match d with
 | .tup xs=>T5 xs
 | _=>none
def Du (r:R D):Option K4:=match r with
 | .ok d=>UE d
 | _=>none
def Af {r:R D} {k:K4} (h:Du r=some k):∃ a b z c,r=.ok (.tup [.int a,.int b,.str z,.int c])/\k=(a,b,z.cps.toList,c):=by
 cases r with
 | ok d =>
  cases d with
  | tup xs =>
   match xs,h with
   | [],h=>exact lq (a:=k) h
   | [_],h=>exact lq (a:=k) h
   | [_,_],h=>exact lq (a:=k) h
   | [_,_,_],h=>exact lq (a:=k) h
   | [a,b,z,c],h =>
    have h:((Fs a).bind fun a=>(Fs b).bind fun b=>(Ul z).bind fun z=>(Fs c).bind fun c=>some (a,b,z.cps.toList,c))=some k:=h;obtain ⟨a',J,h⟩:=W9.mp h;obtain ⟨b',Y,h⟩:=W9.mp h;obtain ⟨z',I,h⟩:=W9.mp h;obtain ⟨c',L,h⟩:=W9.mp h;rw [oh J,oh Y,J2 I,oh L];exact ⟨_,_,_,_,rfl,(WG h).symm⟩
   | _::_::_::_::_::_,h=>exact lq (a:=k) h
  | _=>exact lq (a:=k) h
 | _=>exact lq (a:=k) h
def iK (κ:R D->Option K4) (F:acO->R D):acO->Option (List K4)
 | []=>some []
 | d::r=>match jF d,iK κ F r with
  | some k,some ks=>if κ (F [d])=some k then some (k::ks) else none
  | _,_=>none
def tX {κ:R D->Option K4} {F:acO->R D} {d:D} {r:acO} {l:List K4} (h:iK κ F (d::r)=some l):∃ k ks,l=k::ks/\jF d=some k/\κ (F [d])=some k/\iK κ F r=some ks:=by
 unfold iK at h;split at h
 .rename_i k ks h1 h2;split at h
  .rename_i h3;cases h;exact ⟨k,ks,rfl,h1,h3,h2⟩
  .cases h
 .cases h
def wj {κ:R D->Option K4} {F:acO->R D}:∀ {xs:acO} {l:List K4},iK κ F xs=some l->∀ d∈xs,∃ k,jF d=some k/\κ (F [d])=some k
 | [],_,_,_,h=>by cases h
 | d::r,l,h,x,hx=>by
  obtain ⟨k,ks,_,h1,h2,I⟩:=tX h;rcases rW.mp hx with rfl|hx
  .exact ⟨k,h1,h2⟩
  .exact wj I x hx
def vq (a b:K4):Bool:=!decide (ca b a)
def tf (κ:R D->Option K4) (F:acO->R D) (ds:acO):R D:=match ds with
 | [.lst xs]=>if xs.length<=1000000 then (match iK κ F xs with
  | some ks=>.ok (.lst ((ks.mergeSort vq).map ar))
  | none=>.no) else .no
 | _=>.no
abbrev Fi (F:acO->R D):acO->R D:=tf Du F
def qq (F:acO->R D) (d:D):D:=match F [d] with
 | .ok k=>k
 | _=>.non
def Ah {α β:Type} {f:α->β} {l m:List β} (h:l.Perm m):∀ {xs:List α},m=xs.map f->∃ ys:List α,ys.Perm xs/\l=ys.map f:=by
 induction h with
 | nil=>intro xs e;cases xs with
  | nil=>exact ⟨[],.nil,rfl⟩
  | cons _ _=>cases e
 | cons x _ ih=>intro xs e;cases xs with
  | nil=>cases e
  | cons a as =>
   rw [lE] at e;obtain ⟨I,Y⟩:=aaK e;obtain ⟨ys,h1,h2⟩:=ih Y;exact ⟨a::ys,.cons _ h1,by rw [lE,h2,I]⟩
 | swap x y l=>intro xs e;cases xs with
  | nil=>cases e
  | cons a as=>cases as with
   | nil=>cases e
   | cons b bs =>
    rw [lE,lE] at e;obtain ⟨I,Y⟩:=aaK e;obtain ⟨e3,e4⟩:=aaK Y;exact ⟨b::a::bs,.swap _ _ _,by rw [lE,lE,I,e3,e4]⟩
 | trans _ _ J L =>
  intro xs e;obtain ⟨ys,h1,h2⟩:=L e;obtain ⟨zs,h3,h4⟩:=J h2;exact ⟨zs,h3.trans h1,h4⟩
def uz (m:List K4):(m.mergeSort vq).Pairwise fun x y=>¬ ca y x:=by
 have:=aaL (le:=vq) (fun a b c h1 h2=>?_) (fun a b=>?_) m
 .exact this.imp fun h=>by unfold vq at h;simpa using h
 .unfold vq at h1 h2 ⊢;rw [Bool.not_eq_true',decide_eq_false_iff_not] at h1 h2 ⊢;intro q;rcases TS.to4.tri a b with z|z|z
  .exact h2 (TS.to4.tr _ _ _ q z)
  .exact h2 (z ▸ q)
  .exact h1 z
 .unfold vq;by_cases h1:ca b a
  .have h2:¬ ca a b:=fun z=>TS.to4.irr _ (TS.to4.tr _ _ _ h1 z);simp [h2]
  .simp [h1]
def wv {l m:List K4} (h:l.Perm m) (I:l.Pairwise fun x y=>¬ ca y x):l=m.mergeSort vq:=by
 refine aax (le:=fun x y=>¬ ca y x) (fun a b _ _ h1 h2=>?_) I ?_ (h.trans (YF _ _).symm)
 .rcases TS.to4.tri a b with q|q|q
  .exact absurd q h2
  .exact q
  .exact absurd q h1
 .exact uz m
def Jx (h:Yy) (v:dO):K4:=match v with
 | .ref p=>(match h.get? p with
  | some o=>(match o.data with
   | .seq xs _=>(match xs.toList with
    | [.int a _,.int b _,.str z _,.int c _]=>(a,b,z.cps.toList,c)
    | _=>(0,0,[],0))
   | _=>(0,0,[],0))
  | none=>(0,0,[],0))
 | _=>(0,0,[],0)
structure It4 where
 k:dO
 u:dO
 x:V
 d:D
def Gh {K:aT} {H:Hp} {kd:dO->K4}:∀ {ks us:acM} {xs:acN} {ds:acO},bf xs us->aM K H ds xs->Paired (fun k d=>jF d=some (kd k)) ks ds ->
  ∃ m:List It4,m.map (fun q=>(q.k,q.u))=ks.zip us/\m.map It4.d=ds/\∀ q∈m,bg q.x q.u/\di K H q.d q.x/\jF q.d=some (kd q.k)
 | _,_,_,[],r,dn,p=>by
  cases dn;cases r;cases p;exact ⟨[],rfl,rfl,fun q I=>nomatch I⟩
 | _,_,_,d::ds,r,⟨v,vs,e,d1,d2⟩,p=>by
  subst e;cases r with
  | @cons _ u _ us r1 r2 =>
   cases p with
   | @cons k _ ks _ p1 p2 =>
    obtain ⟨m,h1,h2,J⟩:=Gh r2 d2 p2;refine ⟨⟨k,u,v,d⟩::m,by rw [lE,h1];rfl,by rw [lE,h2],fun q I=>?_⟩;rcases rW.mp I with rfl|I
    .exact ⟨r1,d1,p1⟩
    .exact J q I
def uA {K:aT} {H:Hp}:∀ {m:List It4},(∀ q∈m,bg q.x q.u/\di K H q.d q.x)->bf (m.map It4.x) (m.map It4.u)/\aM K H (m.map It4.d) (m.map It4.x)
 | [],_=>⟨.nil,aM.nil⟩
 | q::m,h=>by
  obtain ⟨h1,h2⟩:=uA (m:=m) fun z hz=>h z (iN _ hz);obtain ⟨J,I⟩:=h q OR;exact ⟨.cons J h1,aM.cons I h2⟩
def My {K:aT} {H:Hp} {i:Int} {ds:acO} {vs:acN} {us:acM} (Y:aM K H (.int i::ds) vs) (r:bf vs us):∃ t I us',us=.int i t::us'/\aM K H ds I/\bf I us':=by
 obtain ⟨v,I,rfl,d1,d2⟩:=Y;cases d1;cases r with
 | cons L J=>obtain ⟨t,rfl⟩:=L;exact ⟨t,_,_,rfl,d2,J⟩
def TU {K:aT} {H:Hp} {i:Str} {ds:acO} {vs:acN} {us:acM} (Y:aM K H (.str i::ds) vs) (r:bf vs us):∃ t I us',us=.str i t::us'/\aM K H ds I/\bf I us':=by
 obtain ⟨v,I,rfl,d1,d2⟩:=Y;cases d1;cases r with
 | cons L J=>obtain ⟨t,rfl⟩:=L;exact ⟨t,_,_,rfl,d2,J⟩
def Jp {K:aT} {H:Hp} {a b c:Int} {z:Str} {vs:acN} {us:acM} (I:aM K H [.int a,.int b,.str z,.int c] vs) (r:bf vs us):∃ J Y L t4,us=[.int a J,.int b Y,.str z L,.int c t4]:=by
 obtain ⟨J,_,_,rfl,I,r⟩:=My I r;obtain ⟨Y,_,_,rfl,I,r⟩:=My I r;obtain ⟨L,_,_,rfl,I,r⟩:=TU I r;obtain ⟨t4,_,_,rfl,I,r⟩:=My I r;cases I;cases r;exact ⟨J,Y,L,t4,rfl⟩
section
variable {X:Cx} {af:acI} {Z:St} {κ:R D->Option K4} {F:acO->R D} {k:Nat} {f a kS:ID} {fd:W2} {ps:acH} {mg:acK} {E:acJ}
def J1 {H:Hp} {s:gs} {Q:VK} {us:acM} {vs:acN} {sp:Sp} (G:FnOk X.prog X.w X.K X.mg X.base cP k f fd ps sp) (hr:Room k X.A.in1.in1) (L:kq X.K fd ps [])
  (I:Inv X af Z H s) (r:bf vs us) (h:sp vs H Q E0):Wv (Wx X.prog X.w) X.A.in1.in1 (call (.ref f) us) (EP X af Z Q) E s:=by
 have hl:(us++[]).length=ps.length:=by rw [Xn,<- r.length];exact G.len _ _ _ _ h
 have b:=L s us I.kIn hl;rw [Xn] at b;refine wpAny_call (gR I.tk (aab (G.run X.A.in1.in1 X.stack s H ⟨us,[]⟩ us vs Q E0 hr I.env0.in1.in1 b r h) fun r s' J Y=>?_));cases r with
 | error e=>exact XO J
 | ok fl =>
  cases fl with
  | ret u=>exact I.after J
  | next=>exact XO J
  | brk=>exact XO J
  | cont=>exact XO J
def D4 (kS:ID) (H H':Hp):Prop:=∀ b o,b≠kS->H b=some o->H' b=some o
def D4.masked {H H':Hp} {as:acL} (h:D4 kS H H'):aC (aK (kS::as) H) (aK (kS::as) H'):=fun b o e=>by
 by_cases I:b∈kS::as
 .rw [dJ I] at e;cases e
 .rw [aW I] at e ⊢;exact h b o (fun z=>I (z ▸ OR)) e
def D4.upd {H:Hp} {o:HO}:D4 kS H (upd H kS o):=fun b u I e=>by rw [aP I];exact e
theorem D4.trans {H H1 H2:Hp} (h:D4 kS H H1) (g:D4 kS H1 H2):D4 kS H H2:=fun b o I e=>g b o I (h b o I e)
def U3 (X:Cx) (af:acI) (Z:St) (kS:ID) (as:acL) (H:Hp) (ks:acO) (s':gs):Prop :=
 ∃ H' kvs,Inv X af Z H' s'/\D4 kS H H'/\H' kS=some (.lst kvs)/\aM X.K (aK (kS::as) H') ks kvs
def DV {H:Hp} {s:gs} {as:acL} {us:acM} {xs:acN} {ds:acO} {l:List K4} {e1:Nat} {P:Zj->gs->Prop}
  (G:FnOk X.prog X.w X.K X.mg X.base cP k f fd ps (eF X.K mg F)) (hr:Room k X.A.in1.in1) (Y:kq X.K fd ps []) (I:Inv X af Z H s) (hk:H kS=some (.lst [])) (has:∀ b∈as,H b≠none) (hks:kS∉as)
  (r:bf xs us) (dn:aM X.K (aK (kS::as) H) ds xs) (hv:∀ r k,κ r=some k->∃ d,r=.ok d) (hl:iK κ F ds=some l) (hz:ds.length<=1000000)
  (h:∀ H' kvs its n s',Inv X af Z H' s'->D4 kS H H'->H' kS=some (.lst kvs)->aM X.K (aK (kS::as) H') (ds.map (qq F)) kvs->bf kvs its->s'.heap.get? kS=some (Xb "list" its.toArray n) ->
   Wv (Wx X.prog X.w) X.A.in1.in1 (aaR a false us.toArray e1 (.ref kS) its.toArray) P E s') :
  Wv (Wx X.prog X.w) X.A.in1.in1 (ksk_rest a (.ref f) false us.toArray e1 (.ref kS)) P E s:=by
 have hlen:ds.length=us.length:=dn.len.trans r.length;unfold ksk_rest;refine bY (YO ?_);rw [List.forIn_toArray];refine bY (ksk_fold (fun j s'=>U3 X af Z kS as H ((ds.map (qq F)).take j) s') us 0 s ⟨H,[],I,fun b o _ e=>e,hk,by rw [Y6];exact aM.nil⟩ (fun j x s' hx hI=>?_) fun s' hd=>?_)
 .obtain ⟨H1,kvs,I1,b1,k1,d1⟩:=hI;rw [Yr] at d1 ⊢;have hj:j < us.length:=by
   have:=WD.mp hx
   exact this.1
  have hjx:j < xs.length:=by rw [r.length];exact hj
  obtain ⟨u,hu,ru⟩:=r.get (i:=j) (oR hjx);rw [hx] at hu;cases hu;obtain ⟨d,hd,dd⟩:=dn.got (i:=j) (oR hjx);obtain ⟨kk,q1,q2⟩:=wj hl d (Xr hd);obtain ⟨kk',q3⟩:=hv _ _ q2;have ekd:qq F d=kk':=by unfold qq;rw [q3]
  have hkl:kvs.length<=j:=by rw [<- d1.len,WA];omega
  refine bY (YI (W7 (J1 (us:=[x]) (vs:=[xs[j]]) (Q:=fun v H2=>aC H1 H2/\di X.K (aK (kS::as) H2) (qq F d) v) (E:=fun _ _=>False) G hr Y I1 (.cons ru .nil) ⟨kS::as,[d],fun b Y=>?_,aM.cons (dd.mono b1.masked) aM.nil,?_⟩) (fun u s2 hq=>?_) fun _ _ hF=>hF.elim))
  .rcases rW.mp Y with rfl|Y
   .rw [k1];simp
   .cases e:H b with
    | none=>exact absurd e (has b Y)
    | some o=>rw [b1 b o (fun z=>hks (z ▸ Y)) e];simp
  .rw [q3];exact fun v H' s dv=>⟨s,by rw [ekd];exact dv⟩
  .obtain ⟨v,H2,I2,rv,J,dv⟩:=hq;have k2:=J _ _ k1;obtain ⟨z2,its,n,ri,L,e2⟩:=I2.lstM k2;try dsimp only
   refine bY (Y1 e2 rfl ?_ (by rw [By,<- L,W0];omega) (IF (Z7 (Array.size_push ..)) (by rw [By,<- L,W0];omega)));refine CT ⟨rfl,?_⟩;have I3:=I2.lset (its':=its++[u]) (f:=(·.push u)) (t':=s2.toks) k2 e2 (by simp) (ri.append (.cons rv .nil)) (by rw [Do,Yp,W0];omega) (by walk_at "tok");refine ⟨_,_,I3,(b1.trans fun b o _ e=>J b o e).trans D4.upd,aS,?_⟩;have e:(ds.map (qq F)).take (j+1)=(ds.map (qq F)).take j++[qq F d]:=by
    rw [List.take_add_one,W4,hd];rfl
   rw [e];refine ((d1.mono (aV J)).append (aM.cons dv aM.nil)).mono (D4.upd (kS:=kS) (H:=H2)).masked
 .obtain ⟨H1,kvs,I1,b1,k1,d1⟩:=hd;have e:(ds.map (qq F)).take (0+us.length)=ds.map (qq F):=by rw [Yr];exact XT (by rw [eQ,hlen];exact mK _)
  rw [e] at d1;obtain ⟨z2,its,n,ri,L,e2⟩:=I1.lstM k1;refine bY (listItems_at e2 rfl ?_);exact h H1 kvs its n s' I1 b1 k1 d1 ri e2
end
end L2
namespace TS
open PySem PyProof.Rows PySem.SeqAt
section
variable {prog:Ww} {w:WU} {A:WN} {E:acJ} {s:gs} {kd:dO->K4} {a kS:ID} {ks vs:acM}
def xF {p q:ID} {xs ys:Array dO} {l:Bool} (Y:Zs s.heap p xs) (J:Zs s.heap q ys) (L:LT.Lx A.in1 s xs.toList ys.toList l) (I:A.units < Zu) {Q:Bool->gs->Prop} (h:Q l s):Wv (Wx prog w) A (oneLt' false (.ref p) (.ref q)) Q E s :=
 abb _ _ (LT.LtAt.tup Y J L I prog w E _ (show aaW Q (.bool l) s from h))
def yt {p q:ID} {x y Y y':dO} {I L:Bool} (hp:Zs s.heap p #[x,y]) (hq:Zs s.heap q #[Y,y']) (hu:A.units < Zu) (h1:EqAt A.in1 s x Y I) (h2:EqAt A.in1 s y y' L) (hs:p=q->(I&&L)=true):EqAt A s (.ref p) (.ref q) (I&&L):=by
 by_cases J:p=q
 .rw [hs J,J];exact EqAt.same _
 .have:=RcAt.tuples (e:=fun j=>if j=0 then I else L) hp hq hu fun j g1 g2=>by
   match j,g1,g2 with
   | 0,_,_=>exact h1
   | 1,_,_=>exact h2
   | j+2,g1,_=>exact absurd g1 (by simp)
  refine EqAt.of_refs J ?_;have e:((Yc (min (#[x,y]:Array dO).size (#[Y,y']:Array dO).size)).all (fun j=>if j=0 then I else L)&&(#[x,y]:Array dO).size==(#[Y,y']:Array dO).size)=(I&&L):=by
   cases I <;> cases L <;> rfl
  rw [e] at this;exact this
def Key2 (s:gs) (kd:dO->K4) (v:dO):Prop:=∃ p q a t y c u,v=.ref p/\Zs s.heap p #[.ref q,.int c u]/\Zs s.heap q #[.int a t,y] /\
 ((∃ b r,y=.int b r/\a≠2/\kd v=(a,b,[],c))\/∃ z r,y=.str z r/\a=2/\kd v=(2,0,z.cps.toList,c))
def In2 (s:gs) (kd:dO->K4) (x:Wq):Prop:=Key2 s kd x.1
def qg {p:ID} {xs ys:Array dO} (h:Zs s.heap p xs) (g:Zs s.heap p ys):xs=ys:=by
 obtain ⟨o,I,_,n,J⟩:=h;obtain ⟨o',f1,_,m,f2⟩:=g;rw [I] at f1;cases f1;rw [J] at f2;cases f2;rfl
def JY {x y:Wq} {st:WZ} {Q:Option Bool->WZ->Prop} {p q Y J:ID} {c c':Int} {u u':Tok} {e l:Bool} (hx:x.1=.ref p) (hy:y.1=.ref Y) (h1:Zs s.heap p #[.ref q,.int c u]) (h2:Zs s.heap Y #[.ref J,.int c' u'])
  (he:EqAt A s (.ref q) (.ref J) e) (hl:e=false->∀ (Q:Bool->gs->Prop),Q l s->Wv (Wx prog w) A (oneLt' false (.ref q) (.ref J)) Q (fun _ _=>False) s) (hk:kindOf st=abl false)
  (hq:Q (some (if e=true then decide (c < c') else l)) st):wpS (Wx prog w) A E s (lt' x y) Q st:=by
 obtain ⟨o,e1,_,n,e2⟩:=h1;obtain ⟨o',f1,_,m,f2⟩:=h2;rw [lt'_eq];refine nE (Ze ?_);rw [hk,hx,hy];have fin:∀ r:Bool,r=(if e=true then decide (c < c') else l)->(fun v s'=>s'=s/\(fun (u:Except dO Bool) (L:WZ)=>wpS (Wx prog w) A E s (match u with|.ok b=>pure (some b)|.error e=>do modify (fun s=>Yn (kindOf s) (DO s) (Wz s) (gallopOf s) (some e));pure none) Q L) v st) (.ok r) s:=fun r hr=>⟨rfl,by rw [hr];exact tp hq⟩
 refine nE (Zz (YI (acv e1 e2 f1 f2 ?_)));refine YK (he prog w _ _ (Y7 (fun z=>YT ?_) fun z=>Y8 (hl z _ (fin _ (by rw [z];rfl)))));refine YK (Za (Y7 (fun I=>YT ?_) fun I=>Y8 (yz (fin _ (by rw [acA z])))));refine acq (fin _ ?_);have I:c=c':=by simpa using I
 rw [acA z,I,acC (Int.lt_irrefl c')];rfl
def U2 (hu:A.units+2 < Zu):Orc (Wx prog w) A E s (AC kd) (abl false) (In2 s kd):=by
 refine ⟨fun x y h=>?_,fun x y z h g=>?_,fun x y st Q hx hy hk Y=>?_⟩
 .have h:=acE h;exact acC fun g=>to4.irr _ (to4.tr _ _ _ h g)
 .have h:=of_decide_eq_false h;have g:=of_decide_eq_false g;refine acC fun e=>?_;rcases to4.tri (kd y.1) (kd x.1) with q|q|q
  .exact h q
  .exact g (q ▸ e)
  .exact g (to4.tr _ _ _ e q)
 .obtain ⟨p,q,a,t,yy,c,u,e1,e2,L,e4⟩:=hx;obtain ⟨p',q',I,t',yy',c',u',f1,f2,f3,f4⟩:=hy;have J:A.units < Zu:=by omega
  have hb:AC kd x y=decide (ca (kd x.1) (kd y.1)):=rfl;rw [hb] at Y;have i0:EqAt A.in1 s (.int a t) (.int I t') (a==I):=EqAt.int_int _ _ _ _;rcases e4 with ⟨b,r,rfl,a2,e5⟩|⟨z,r,rfl,a2,e5⟩ <;> rcases f4 with ⟨b',r',rfl,a2',f5⟩|⟨z',r',rfl,a2',f5⟩
  .rw [e5,f5] at Y;have hs:q=q'->((a==I)&&(b==b'))=true:=fun z=>by
    have:=qg L (z ▸ f3)
    simp at this;simp [this.1.1,this.2.1]
   refine JY (l:=if a=I then decide (b < b') else decide (a < I)) e1 f1 e2 f2 (yt L f3 J i0 (EqAt.int_int _ _ _ _) hs) (fun z Q h=>xF L f3 ?_ J h) hk ?_
   .by_cases h1:a=I
    .subst h1;rw [acA rfl];refine .eq (by have:=i0;rwa [beq_self_eq_true] at this) (.ne ?_ (LT.LtAt.int _ _ _ _));have e:(b==b')=false:=by rw [beq_self_eq_true,Bool.true_and] at z;exact z
     rw [<- e];exact EqAt.int_int _ _ _ _
    .rw [acB h1];exact .ne (by rw [<- beq_eq_false_iff_ne.mpr h1];exact i0) (LT.LtAt.int _ _ _ _)
   .have e:(if ((a==I)&&(b==b'))=true then decide (c < c') else if a=I then decide (b < b') else decide (a < I))=decide (ca (a,b,[],c) (I,b',[],c')):=by
     by_cases h1:a=I
     .subst h1;by_cases h2:b=b'
      .subst h2;rw [acA (by simp)];exact decide_eq_decide.mpr l4.symm
      .rw [acB (by simp [h2]),acA rfl];exact decide_eq_decide.mpr (l2 h2).symm
     .rw [acB (by simp [h1]),acB h1];exact decide_eq_decide.mpr (l1 h1).symm
    rw [e];exact Y
  .rw [e5,f5] at Y;subst a2';have h1:¬ a=2:=a2;have hs:q=q'->((a==2)&&false)=true:=fun z=>by
    have:=qg L (z ▸ f3)
    simp at this
   refine JY (l:=decide (a < 2)) e1 f1 e2 f2 (yt L f3 J i0 (EqAt.int_str _ _ _ _) hs) (fun z Q h=>xF L f3 (.ne (by rw [<- beq_eq_false_iff_ne.mpr h1];exact i0) (LT.LtAt.int _ _ _ _)) J h) hk ?_;have e:(if ((a==2)&&false)=true then decide (c < c') else decide (a < 2))=decide (ca (a,b,[],c) (2,0,z'.cps.toList,c')):=by
    rw [acB (by simp)];exact decide_eq_decide.mpr (l1 h1).symm
   rw [e];exact Y
  .rw [e5,f5] at Y;subst a2;have h1:¬ (2:Int)=I:=fun z=>a2' z.symm;have hs:q=q'->(((2:Int)==I)&&false)=true:=fun z=>by
    have:=qg L (z ▸ f3)
    simp at this
   refine JY (l:=decide ((2:Int) < I)) e1 f1 e2 f2 (yt L f3 J i0 (EqAt.str_int _ _ _ _) hs) (fun z Q h=>xF L f3 (.ne (by rw [<- beq_eq_false_iff_ne.mpr h1];exact i0) (LT.LtAt.int _ _ _ _)) J h) hk ?_;have e:(if (((2:Int)==I)&&false)=true then decide (c < c') else decide ((2:Int) < I))=decide (ca (2,0,z.cps.toList,c) (I,b',[],c')):=by
    rw [acB (by simp)];exact decide_eq_decide.mpr (l1 h1).symm
   rw [e];exact Y
  .rw [e5,f5] at Y;subst a2 a2';have hs:q=q'->(((2:Int)==2)&&(z==z'))=true:=fun w=>by
    have:=qg L (w ▸ f3)
    simp at this;simp [this.2.1]
   refine JY (l:=decide (z.cps.toList < z'.cps.toList)) e1 f1 e2 f2 (yt L f3 J i0 (EqAt.str_str _ _ _ _) hs) (fun w Q h=>xF L f3 ?_ J h) hk ?_
   .refine .eq (by have:=i0;rwa [beq_self_eq_true] at this) (.ne ?_ (LT.LtAt.str _ _ _ _));have e:(z==z')=false:=by rw [beq_self_eq_true,Bool.true_and] at w;exact w
    rw [<- e];exact EqAt.str_str _ _ _ _
   .have e:(if (((2:Int)==2)&&(z==z'))=true then decide (c < c') else decide (z.cps.toList < z'.cps.toList))=decide (ca (2,0,z.cps.toList,c) (2,0,z'.cps.toList,c')):=by
     by_cases h2:z=z'
     .subst h2;rw [acA (by simp)];exact decide_eq_decide.mpr l4.symm
     .rw [acB (by simp [h2])];exact decide_eq_decide.mpr (l3 (F3 h2)).symm
    rw [e];exact Y
end
section
variable {prog:Ww} {w:WU} {A:WN} {E:acJ} {s:gs} {kd:dO->K4} {a kS:ID} {ks vs:acM}
def Cp:∀ {ks:acM},(∀ k∈ks,Key2 s kd k)->∃ fs,acr s.heap ks fs/\fs.length=ks.length/\∀ v∈fs,∃ q xs,v=WW q/\Zs s.heap q xs
 | [],_=>⟨[],abG,rfl,fun v I=>nomatch I⟩
 | k::r,h=>by
  obtain ⟨p,q,a,t,y,c,u,rfl,⟨o,J,e2,n,L⟩,h2,_⟩:=h k (by simp);obtain ⟨fs,f1,f2,f3⟩:=Cp (ks:=r) fun x Y=>h x (iN _ Y);refine ⟨.ref q::fs,abt J e2 L rfl f1,by simp [f2],fun v I=>?_⟩;rcases rW.mp I with rfl|I
  .exact ⟨q,_,rfl,h2⟩
  .exact f3 v I
def Ij {e e1:Nat} {P:Zj->gs->Prop} (hu:A.units+2 < Zu) (hl:ks.length=vs.length) (h2:2<=vs.length) (hz:vs.length<=1000000) (na:s.heap.get? a=some (Xb "list" #[] e1)) (nk:s.heap.get? kS=some (Xb "list" ks.toArray e)) (hne:a≠kS) (J:∀ k∈ks,Key2 s kd k)
  (h:∀ ps:List Wq,ps.Perm (ks.zip vs)->ps.Pairwise (fun x y=>¬ ca (kd y.1) (kd x.1))->P (.done (.ret .none)) { s with heap:=behind s.heap kS a (ps.map (·.2)) }) :
  Wv (Wx prog w) A (aaR a false vs.toArray e1 (.ref kS) ks.toArray) P E s:=by
 obtain ⟨fs,f1,f2,f3⟩:=Cp J;have Y:¬ vs.toArray.size < 2:=by rw [By];omega
 unfold aaR;try dsimp only
 rw [acB iF,acB Y,acB Y];refine bY (acg (T:=.type "tuple") f1 (by omega) (fun v hv=>?_) (by trivial) ?_)
 .obtain ⟨x,xs,rfl,⟨o,g1,g2,_⟩⟩:=f3 v hv;exact g2 ▸ (PySem.W.Looks.ld g1).andThen .now
 rw [acB iF];have zl:(ks.toArray.zip vs.toArray).toList=ks.zip vs:=by simp
 have zs:(ks.toArray.zip vs.toArray).size=vs.length:=by rw [<- Le,zl,YU];omega
 have ek:abl ((ZN "tuple") != ZN "tuple")=abl false:=by rfl
 rw [ek];refine bY (W7 (nh (U2 (kd:=kd) hu) (st:=Yn (abl false) (ks.toArray.zip vs.toArray) #[] 7 none)
  (Q:=fun _ I=>(DO I).Perm (ks.toArray.zip vs.toArray)/\Xp I=none/\SegG (AC kd) (DO I) 0 (ks.toArray.zip vs.toArray).size) rfl (fun x hx=>?_) rfl rfl (by show 2<=(ks.toArray.zip vs.toArray).size;omega) fun I a1 a2 a3=>⟨a1,a2,a3⟩) ?_ fun _ _ z=>z)
 .have hx:x∈ks.zip vs:=by rw [<- zl];exact hx
  exact J x.1 (WO hx).1
 rintro ⟨⟨⟩,I⟩ s' ⟨rfl,hp,hf,hs⟩;have L:(DO I).toList.Perm (ks.zip vs):=by rw [<- zl];exact Xq.mp hp
 refine xi (out:=(DO I).toList.map (·.2)) na nk hne (by apply YJ.mp;rw [ZH]) (by rw [eQ,L.length_eq,YU];omega) (by omega) hf (h _ L ?_);rw [Xj];intro i j hi hj hij;rw [Le] at hi hj
 have:=hs i j (by omega) (by omega) (by rw [<- hp.size_eq];exact hj)
 rw [jI hi,jI hj] at this;simpa using of_decide_eq_false this
end
end TS
namespace TS
open PySem PyProof.Rows
section
variable {prog:Ww} {w:WU} {A:WN} {E:acJ} {s:gs} {kd:dO->K4} {a kS:ID} {ks vs:acM}
def JC {e Y:Nat} {P:Zj->gs->Prop} (hl:ks.length=vs.length) (h2:vs.length < 2) (na:s.heap.get? a=some (Xb "list" #[] Y)) (nk:s.heap.get? kS=some (Xb "list" ks.toArray e)) (L:a≠kS)
  (h:∀ ps:List Wq,ps.Perm (ks.zip vs)->ps.Pairwise (fun x y=>¬ ca (kd y.1) (kd x.1))->P (.done (.ret .none)) { s with heap:=behind s.heap kS a (ps.map (·.2)) }) :
  Wv (Wx prog w) A (aaR a false vs.toArray Y (.ref kS) ks.toArray) P E s:=by
 have J:vs.toArray.size < 2:=by rw [By];omega
 unfold aaR;try dsimp only
 rw [acB iF,acA J,acA J];refine bY (CT ?_);rw [acB iF];have zl:(ks.toArray.zip vs.toArray).toList=ks.zip vs:=by simp
 have I:(ks.zip vs).length < 2:=by rw [YU];omega
 refine bY (CT ?_);refine xi (st:=Yn general' (ks.toArray.zip vs.toArray) #[] 7 none) (out:=(ks.zip vs).map (·.2)) na nk L ?_ (by rw [eQ];omega) (by omega) rfl (h _ (acu _) ?_)
 .show (ks.toArray.zip vs.toArray).map (·.2)=_;apply YJ.mp
  rw [ZH,zl]
 .match hq:ks.zip vs with
  | []=>exact YX
  | [x]=>exact aaM _ _
  | x::y::r=>rw [hq] at I;simp at I;omega
end
end TS
namespace L2
open PySem PySem.Spec PyProof.Rows
open TS (K4 ca)
section
variable {X:Cx} {af:acI} {Z:St} {F:acO->R D} {k:Nat} {f a kS:ID} {fd:W2} {ps:acH} {mg:acK} {E:acJ}
structure KF (κ:R D->Option K4) where
 kd:Yy->dO->K4
 At:gs->dO->Prop
 val:∀ r k,κ r=some k->∃ d,r=.ok d
 laid:∀ {X:Cx} {af:acI} {Z:St} {H Hm:Hp} {s:gs} {d:D} {k:K4} {v:V} {u:dO},Inv X af Z H s->aC Hm H->κ (.ok d)=some k->di X.K Hm d v->bg v u->At s u/\kd s.heap u=k
 fin:∀ {prog:Ww} {w:WU} {A:WN} {E:acJ} {s:gs} {a kS:ID} {ks vs:acM} {e e1:Nat} {P:Zj->gs->Prop},A.units+2 < Zu->ks.length=vs.length->2<=vs.length->vs.length<=1000000->s.heap.get? a=some (Xb "list" #[] e1)->s.heap.get? kS=some (Xb "list" ks.toArray e)->a≠kS->(∀ k∈ks,At s k) ->
  (∀ ps:List Wq,ps.Perm (ks.zip vs)->ps.Pairwise (fun x y=>¬ ca (kd s.heap y.1) (kd s.heap x.1))->P (.done (.ret .none)) { s with heap:=TS.behind s.heap kS a (ps.map (·.2)) }) ->
  Wv (Wx prog w) A (aaR a false vs.toArray e1 (.ref kS) ks.toArray) P E s
def kf4:KF Du where
 kd:=Jx
 At:=fun s v=>TS.Key4 s (Jx s.heap) v
 val:=fun r k h=>by
  obtain ⟨a,b,z,c,e,_⟩:=Af h;exact ⟨_,e⟩
 laid:=fun {X af Z H Hm s d k v u} I hm h dn ru=>by
  obtain ⟨ka,kb,kz,kc,q3,q4⟩:=Af h;cases q3;obtain ⟨p,ys,rfl,hq,dy⟩:=dn;cases ru;obtain ⟨its2,ri,⟨o,L,e2,n,Y⟩,_⟩:=I.tuple (hm.seqT hq);obtain ⟨t1,t2,t3,t4,rfl⟩:=Jp dy ri;have ek:Jx s.heap (.ref p)=(ka,kb,kz.cps.toList,kc):=by
   unfold Jx;dsimp only;rw [L];dsimp only;rw [Y]
  exact ⟨⟨p,o,_,n,ka,t1,kb,t2,kz,t3,kc,t4,rfl,L,e2,Y,rfl,ek⟩,by rw [ek,q4]⟩
 fin:=fun _ hl h2 hz na nk J hk h=>TS.LD hl h2 hz na nk J hk h
def Of (xs:acO):Option (D×D):=match xs with
 | [x,y]=>some (x,y)
 | _=>none
def HE (d:D):Option (D×D):=match d with
 | .tup xs=>Of xs
 | _=>none
def Ih {xs:acO} {p:D×D} (h:Of xs=some p):xs=[p.1,p.2]:=by
 match xs,h with
 | [],h=>exact lq h
 | [x],h=>exact lq h
 | [x,y],h=>cases h;rfl
 | x::y::z::r,h=>exact lq h
def wx {d:D} {p:D×D} (h:HE d=some p):d=.tup [p.1,p.2]:=by
 cases d with
 | tup xs=>exact acF D.tup (Ih h)
 | _=>exact lq (a:=p) h
def RK (a c:Int) (y:D):Option K4:=match y with
 | .int b=>if a=2 then none else some (a,b,[],c)
 | .str z=>if a=2 then some (2,0,z.cps.toList,c) else none
 | _=>none
def keyN (r:R D):Option K4:=match r with
 | .ok d=>(HE d).bind fun p=>(Fs p.2).bind fun c=>(HE p.1).bind fun q=>(Fs q.1).bind fun a=>RK a c q.2
 | _=>none
def yY {r:R D} {k:K4} (h:keyN r=some k):∃ a y c,r=.ok (.tup [.tup [.int a,y],.int c])/\RK a c y=some k:=by
 cases r with
 | ok d =>
  obtain ⟨p,J,h⟩:=W9.mp h;obtain ⟨c,Y,h⟩:=W9.mp h;obtain ⟨q,I,h⟩:=W9.mp h;obtain ⟨a,L,h⟩:=W9.mp h;exact ⟨a,q.2,c,by rw [wx J,oh Y,wx I,oh L],h⟩
 | _=>exact lq (a:=k) h
def CW (h:Yy) (v:dO):acM:=match v with
 | .ref p=>(match h.get? p with
  | some o=>(match o.data with
   | .seq xs _=>xs.toList
   | _=>[])
  | none=>[])
 | _=>[]
def zB {h:Yy} {p:ID} {xs:Array dO} (t:Zs h p xs):CW h (.ref p)=xs.toList:=by
 obtain ⟨o,I,_,n,J⟩:=t;unfold CW;dsimp only;rw [I];dsimp only;rw [J]
def Rf (xs:acM) (c:Int):K4:=match xs with
 | [.int a _,.int b _]=>(a,b,[],c)
 | [_,.str z _]=>(2,0,z.cps.toList,c)
 | _=>(0,0,[],0)
def Tt (h:Yy) (v:dO):K4:=match CW h v with
 | [x,.int c _]=>Rf (CW h x) c
 | _=>(0,0,[],0)
def kfN:KF keyN where
 kd:=Tt
 At:=fun s v=>TS.Key2 s (Tt s.heap) v
 val:=fun r k h=>by
  obtain ⟨a,y,c,e,_⟩:=yY h;exact ⟨_,e⟩
 laid:=fun {X af Z H Hm s d k v u} I hm h dn ru=>by
  obtain ⟨a,y,c,q3,J⟩:=yY h;cases q3;obtain ⟨p,ys,rfl,hq,dy⟩:=dn;cases ru;obtain ⟨its,ri,L,_⟩:=I.tuple (hm.seqT hq);obtain ⟨v1,vs1,rfl,d1,v2,vs2,rfl,d2,rfl⟩:=dy;cases d2;obtain ⟨q,zs,rfl,hq2,dz⟩:=d1;obtain ⟨its2,Y,t2,_⟩:=I.tuple (hm.seqT hq2);obtain ⟨w1,ws1,rfl,g1,w2,ws2,rfl,g2,rfl⟩:=dz;cases g1;cases ri with
  | cons r1 rr =>
   cases r1;cases rr with
   | cons r2 rr2 =>
    obtain ⟨tc,rfl⟩:=r2;cases rr2;cases Y with
    | cons r3 rr3 =>
     obtain ⟨ta,rfl⟩:=r3;cases rr3 with
     | cons r4 rr4 =>
      cases rr4;have ek:∀ yv,yv=_->Tt s.heap (.ref p)=Rf [.int a ta,yv] c:=fun yv hy=>by
       unfold Tt;rw [zB L];dsimp only;rw [zB t2,hy]
      cases y with
      | int b =>
       cases g2;obtain ⟨tb,rfl⟩:=r4;have e:=ek _ rfl;have J:(if a=2 then none else some (a,b,[],c))=some k:=J;by_cases h2:a=2
       .rw [acA h2] at J;cases J
       .rw [acB h2] at J;cases J;exact ⟨⟨p,q,a,ta,_,c,tc,rfl,L,t2,.inl ⟨b,tb,rfl,h2,e⟩⟩,e⟩
      | str z =>
       cases g2;obtain ⟨tb,rfl⟩:=r4;have e:=ek _ rfl;have J:(if a=2 then some (2,0,z.cps.toList,c) else none)=some k:=J;by_cases h2:a=2
       .rw [acA h2] at J;cases J;exact ⟨⟨p,q,a,ta,_,c,tc,rfl,L,t2,.inr ⟨z,tb,rfl,h2,e⟩⟩,e⟩
       .rw [acB h2] at J;cases J
      | _=>exact lq (a:=k) J
 fin:=fun hu hl h2 hz na nk hne hk h=>TS.Ij hu hl h2 hz na nk hne hk h
def KF.finA {κ:R D->Option K4} (C:KF κ) {prog:Ww} {w:WU} {A:WN} {E:acJ} {s:gs} {a kS:ID} {ks vs:acM} {e J:Nat} {P:Zj->gs->Prop} (hu:A.units+2 < Zu) (Y:ks.length=vs.length) (hz:vs.length<=1000000)
  (na:s.heap.get? a=some (Xb "list" #[] J)) (L:s.heap.get? kS=some (Xb "list" ks.toArray e)) (I:a≠kS) (hk:∀ k∈ks,C.At s k)
  (h:∀ ps:List Wq,ps.Perm (ks.zip vs)->ps.Pairwise (fun x y=>¬ ca (C.kd s.heap y.1) (C.kd s.heap x.1))->P (.done (.ret .none)) { s with heap:=TS.behind s.heap kS a (ps.map (·.2)) }) :
  Wv (Wx prog w) A (aaR a false vs.toArray J (.ref kS) ks.toArray) P E s:=by
 by_cases h2:vs.length < 2
 .exact TS.JC (kd:=C.kd s.heap) Y h2 na L I h
 .exact C.fin hu Y (by omega) hz na L I hk h
def KB {κ:R D->Option K4} (C:KF κ) {H Hm:Hp} {s:gs} (I:Inv X af Z H s) (hm:aC Hm H):∀ {ds:acO} {kvs:acN} {its:acM} {l:List K4},aM X.K Hm (ds.map (qq F)) kvs->bf kvs its->iK κ F ds=some l ->
  (∀ v∈its,C.At s v)/\Paired (fun v d=>jF d=some (C.kd s.heap v)) its ds/\its.map (C.kd s.heap)=l
 | [],_,_,_,dn,r,h=>by cases dn;cases r;cases h;exact ⟨fun v J=>(nomatch J),.nil,rfl⟩
 | d::ds,_,_,_,⟨v,vs,e,d1,d2⟩,r,h=>by
  subst e;obtain ⟨q,qs,rfl,h1,h2,h3⟩:=tX h;cases r with
  | @cons _ u _ us r1 r2 =>
   obtain ⟨i1,i2,i3⟩:=KB C I hm d2 r2 h3;obtain ⟨kk,Y⟩:=C.val _ _ h2;have L:qq F d=kk:=by unfold qq;rw [Y]
   rw [L] at d1;rw [Y] at h2;obtain ⟨a1,a2⟩:=C.laid I hm h2 d1 r1;refine ⟨fun v J=>?_,.cons (by rw [h1,a2]) i2,by rw [lE,i3,a2]⟩;rcases rW.mp J with rfl|J
   .exact a1
   .exact i1 v J
def EM {κ:R D->Option K4} (C:KF κ) {H0 H H':Hp} {s':gs} {as:acL} {us its:acM} {xs kvs:acN} {ds:acO} {l:List K4} {e1 n:Nat} {P:Zj->gs->Prop} {oa:Obj}
  (I:Inv X (af++[(a,Xb "list" #[] e1)]) Z H' s') (fa:iu X af H' a) (h0:aC H0 H) (h0k:H0 kS=none) (h0a:H0 a=none) (b:D4 kS H H') (hk:H' kS=some (.lst kvs)) (dk:aM X.K (aK (kS::as) H') (ds.map (qq F)) kvs) (rk:bf kvs its)
  (ek:s'.heap.get? kS=some (Xb "list" its.toArray n)) (has:a∉as) (hks:kS∉as) (hne:a≠kS)
  (r:bf xs us) (dn:aM X.K (aK (kS::as) H) ds xs) (hl:iK κ F ds=some l) (hu:X.A.in1.in1.units+2 < Zu) (hz:ds.length<=1000000) (hbase:X.s₀.heap.get? a=none)
  (h:∀ L s'' outV,Inv X af Z L s''->aC H0 L->L a=some (.lst outV)->aM X.K (aK (a::as) L) ((l.mergeSort vq).map ar) outV->P (.done (.ret .none)) s'') :
  Wv (Wx X.prog X.w) X.A.in1.in1 (aaR a false us.toArray e1 (.ref kS) its.toArray) P E s':=by
 have pa:=I.pin (a,Xb "list" #[] e1) (by simp);have hlu:ds.length=us.length:=dn.len.trans r.length;have hlk:its.length=us.length:=by rw [<- rk.length,<- dk.len,eQ,hlu]
 obtain ⟨k1,k2,k3⟩:=KB C I (az _ _) dk rk hl;refine C.finA hu hlk (by omega) pa.1 ek hne k1 fun qs hp hs=>?_;obtain ⟨m,m1,m2,m3⟩:=Gh r (dn.mono b.masked) k2;rw [<- m1] at hp;obtain ⟨J,p1,p2⟩:=Ah hp rfl;subst p2;have m3':∀ q∈J,bg q.x q.u/\di X.K (aK (kS::as) H') q.d q.x/\jF q.d=some (C.kd s'.heap q.k):=fun q hq=>m3 q (p1.mem_iff.mp hq);obtain ⟨v1,v2⟩:=uA (m:=J) fun q hq=>⟨(m3' q hq).1,(m3' q hq).2.1⟩;have eo:(J.map fun q=>(q.k,q.u)).map (·.2)=J.map It4.u:=by rw [WL];rfl
 rw [eo];have ed:J.map It4.d=(l.mergeSort vq).map ar:=by
  have e1:J.map It4.d=(J.map fun q=>C.kd s'.heap q.k).map ar:=by
   rw [WL];exact XA fun q hq=>(nt (m3' q hq).2.2).symm
  have e2:J.map (fun q=>C.kd s'.heap q.k)=l.mergeSort vq:=by
   refine wv ?_ ?_
   .have e3:m.map (fun q=>C.kd s'.heap q.k)=l:=by
     rw [<- k3]
     have:m.map (fun q=>q.k)=its:=by
      have:=acF (List.map BY) m1
      rw [WL,List.map_fst_zip (by omega)] at this;exact this
     rw [<- this,WL];rfl
    rw [<- e3];exact p1.map _
   .rw [YY] at hs ⊢;exact hs
  rw [e1,e2]
 rw [ed] at v2;have hol:(J.map It4.x).length<=Wp:=by
  rw [v1.length,eQ,p1.length_eq,<- eQ (as:=m) (f:=It4.d),m2,W0];omega
 have I1:=I.lset (its':=[]) (ys:=[]) (f:=fun _=>(#[]:Array dO)) (t':=s'.toks) hk ek rfl .nil (WB _) (by walk_at "tok");have I2:Inv X af Z (upd H' kS (.lst [])) { s' with heap:=s'.heap.update kS (WQ fun _=>(#[]:Array dO)) }:=I1.unpinned;obtain ⟨f0,f1,f2,f3,f4,f5⟩:=fa;have f0':upd H' kS (.lst []) a=none:=by rw [aP hne];exact f0
 have na:(s'.heap.update kS (WQ fun _=>(#[]:Array dO))).get? a=some (Xb "list" #[] e1):=((XX s'.heap kS (WQ fun _=>(#[]:Array dO))).2 a hne).trans pa.1;have I3:=I2.turned (t':=s'.toks) (h':=(s'.heap.update kS (WQ fun _=>(#[]:Array dO))).update a (WQ fun _=>(J.map It4.u).toArray)) (it:=a) (fun Y u hb hu=>(Zp _ _ (aac hb)).trans hu) f0' f1 f3 f4 f5 (by walk_at "tok");have I4:=I3.track (y:=a) (o:=.lst (J.map It4.x)) ⟨hbase,f1,f2,f4,f5⟩ f0' ⟨hol,_,_,v1,ace na _⟩;refine h _ _ (J.map It4.x) I4 (fun Y o e=>?_) aS (v2.mono fun Y o e=>?_)
 .have n1:Y≠a:=fun z=>by rw [z,h0a] at e;cases e
  have n2:Y≠kS:=fun z=>by rw [z,h0k] at e;cases e
  rw [aP n1,aP n2];exact b Y o n2 (h0 Y o e)
 .by_cases hb:Y∈kS::as
  .rw [dJ hb] at e;cases e
  .rw [aW hb] at e;have n1:Y≠a:=fun z=>by rw [z,f0] at e;cases e
   have n2:Y≠kS:=fun z=>hb (z ▸ OR);rw [aW (fun z=>(rW.mp z).elim n1 fun z=>hb (iN _ z)),aP n1,aP n2];exact e
end
section
variable {X:Cx} {af:acI} {Z:St} {F:acO->R D} {k:Nat} {f a:ID} {fd:W2} {ps:acH} {mg:acK} {E:acJ}
def DL {κ:R D->Option K4} (C:KF κ) {H:Hp} {s:gs} {as:acL} {us:acM} {xs:acN} {ds:acO} {l:List K4} {n:Nat} {P:Zj->gs->Prop}
  (G:FnOk X.prog X.w X.K X.mg X.base cP k f fd ps (eF X.K mg F)) (hr:Room k X.A.in1.in1) (J:kq X.K fd ps []) (I:Inv X af Z H s) (fa:iu X af H a) (ho:s.heap.get? a=some (Xb "list" us.toArray n)) (has:∀ b∈as,H b≠none)
  (r:bf xs us) (dn:aM X.K (aK as H) ds xs) (hl:iK κ F ds=some l) (hz:ds.length<=1000000) (hbase:X.s₀.heap.get? a=none)
  (h:∀ L s'' outV,Inv X af Z L s''->aC H L->L a=some (.lst outV)->aM X.K (aK (a::as) L) ((l.mergeSort vq).map ar) outV->P (.done (.ret .none)) s'') :
  Wv (Wx X.prog X.w) X.A.in1.in1 (ksk_tree a (.ref f) false) P E s:=by
 have hlu:ds.length=us.length:=dn.len.trans r.length;have ha:a < s.heap.objs.size:=Wt ho;obtain ⟨e1,ho1⟩:∃ e1,(s.heap.update a (WQ fun _=>(#[]:Array dO))).get? a=some (Xb "list" #[] e1):=⟨_,Z0 ho fun _=>#[]⟩;obtain ⟨f0,f1,f2,f3,f4,f5⟩:=id fa;have I1:=I.turned (t':=s.toks) (h':=s.heap.update a (WQ fun _=>(#[]:Array dO))) (it:=a) (fun b' u J hu=>(Zp _ _ (aac J)).trans hu) f0 f1 f3 f4 f5 (by walk_at "tok");have I2:=I1.kept (t':=s.toks) (h':=(s.heap.update a (WQ fun _=>(#[]:Array dO))).push (Xb "tuple" us.toArray 0)) (fun _ _ q=>lT _ q) (by walk_at "tok");have I3:=I2.lnew (its:=[]) (ys:=[]) (t':=s.toks) .nil (WB _) (by walk_at "tok");have hkS:((s.heap.update a (WQ fun _=>(#[]:Array dO))).push (Xb "tuple" us.toArray 0)).objs.size=s.heap.objs.size+1:=by rw [size_push',Heap.size_update]
 have Y:H ((s.heap.update a (WQ fun _=>(#[]:Array dO))).push (Xb "tuple" us.toArray 0)).objs.size=none:=I2.fresh;have ho3:(((s.heap.update a (WQ fun _=>(#[]:Array dO))).push (Xb "tuple" us.toArray 0)).push (Xb "list" #[] 0)).get? a=some (Xb "list" #[] e1):=lT _ (lT _ ho1);unfold ksk_tree;refine bY (listItems_at ho rfl ?_);refine bY (Y1 ho rfl ?_ (by rw [By,W0];omega) (WB _));refine bY (seqEpoch_at ho1 rfl ?_);refine bY (wpAny_newTuple ?_ (by show us.length<=_;rw [W0];omega));refine bY (wpAny_newList ?_ (WB _));refine Yt ?_;have hne:a≠((s.heap.update a (WQ fun _=>(#[]:Array dO))).push (Xb "tuple" us.toArray 0)).objs.size:=by rw [hkS];exact WK (Nat.lt_succ_of_lt ha)
 generalize hq:((s.heap.update a (WQ fun _=>(#[]:Array dO))).push (Xb "tuple" us.toArray 0)).objs.size=kS at *;have hkas:kS∉as:=fun z=>has _ z Y;have haas:a∉as:=fun z=>has _ z f0;have I4:Inv X (af++[(a,Xb "list" #[] e1)]) Z (upd H kS (.lst [])) { s with heap:=((s.heap.update a (WQ fun _=>(#[]:Array dO))).push (Xb "tuple" us.toArray 0)).push (Xb "list" #[] 0) }:=by
  have I3':Inv X af Z (upd H kS (.lst [])) { s with heap:=((s.heap.update a (WQ fun _=>(#[]:Array dO))).push (Xb "tuple" us.toArray 0)).push (Xb "list" #[] 0) }:=I3;refine I3'.pins_of fun p hp=>?_;rcases MK.mp hp with hp|hp
  .exact I3'.pin p (Wu _ hp)
  .obtain rfl:p=_:=by simpa using hp
   exact ⟨ho3,by rw [aP hne];exact f0,f1,f2,fun v z=>by cases z⟩
 have up:aC H (upd H kS (.lst [])):=aX Y _;have dn':aM X.K (aK (kS::as) (upd H kS (.lst []))) ds xs:=dn.mono fun b o e=>by
  by_cases J:b∈as
  .rw [dJ J] at e;cases e
  .rw [aW J] at e;have n1:b≠kS:=fun z=>by rw [z,Y] at e;cases e
   rw [aW (fun z=>(rW.mp z).elim n1 J)];exact up b o e
 refine DV (a:=a) (kS:=kS) (as:=as) (mg:=mg) (F:=F) G hr J I4 aS (fun b J=>by
  cases e:H b with
  | none=>exact absurd e (has b J)
  | some o=>rw [up b o e];simp) hkas r dn' C.val hl hz fun H' kvs its n' s' I' b' k' d' r' e'=>?_
 have pa:=I'.pin (a,Xb "list" #[] e1) (by simp);exact EM C (oa:=Xb "list" #[] e1) (F:=F) (as:=as) (n:=n') (H0:=H) I' ⟨pa.2.1,f1,f2,f3,f4,f5⟩ up Y f0 b' k' d' r' e' haas hkas hne r dn' hl (by have:=hr.un;omega) hz hbase h
def z0 {κ:R D->Option K4} (C:KF κ) {H:Hp} {s:gs} {as:acL} {us:acM} {xs:acN} {ds:acO} {l:List K4} {lA:ID} {Q:VK}
  (G:FnOk X.prog X.w X.K X.mg X.base cP k f fd ps (eF X.K mg F)) (hr:Room k X.A.in1.in1) (hb:kq X.K fd ps []) (I:Inv X af Z H s) (hp:s.heap.IsList lA us.toArray) (has:∀ b∈as,H b≠none)
  (r:bf xs us) (dn:aM X.K (aK as H) ds xs) (hl:iK κ F ds=some l) (hz:ds.length<=1000000)
  (h:∀ p H' J,aC H H'->H p=none->H' p=some (.lst J)->aM X.K (aK (p::as) H') ((l.mergeSort vq).map ar) J->Q (.ref p) H') :
  Wv (Wx X.prog X.w) X.A (call (.builtin "sorted") [.ref lA] [(WV "key",.ref f)]) (EP X af Z Q) E s:=by
 have hlu:ds.length=us.length:=dn.len.trans r.length;refine call_function_entry_kw kind_sorted plain_sorted entry_sorted (ksk_s1 _ _) ?_;unfold Builtin.«sorted»;refine bY (m:=checkCount "sorted" 1 1 _) (CT ?_);refine bY (collect_list hp ?_ (by rw [W0];omega));refine bY (wpAny_newList ?_ (by rw [W0];omega));have hsz:((s.heap.push (Xb "list" #[] 0)).update s.heap.objs.size (WQ (·++us.toArray))).objs.size=s.heap.objs.size+1:=by
  rw [Heap.size_update,size_push']
 have hoL:(((s.heap.push (Xb "list" #[] 0)).update s.heap.objs.size (WQ (·++us.toArray))).push (Xb "list" us.toArray 0)).get? (s.heap.objs.size+1)=some (Xb "list" us.toArray 0):=by
  rw [<- hsz];exact Wr _ rfl
 have keep:∀ b o,s.heap.get? b=some o->(((s.heap.push (Xb "list" #[] 0)).update s.heap.objs.size (WQ (·++us.toArray))).push (Xb "list" us.toArray 0)).get? b=some o:=fun b o q=>by
  have L:b < s.heap.objs.size:=Wt q;rw [aay _ _ _ (by rw [hsz];exact WK (Nat.lt_succ_of_lt L)),Zb _ _ _ _ (WK L),aay _ _ _ (WK L)];exact q
 have hfr:H (s.heap.objs.size+1)=none:=I.hok.fresh (abC _);have I1:=I.kept (t':=s.toks) keep (by walk_at "tok");show Wv _ _ _ _ _ { s with heap:=((s.heap.push (Xb "list" #[] 0)).update s.heap.objs.size (WQ (·++us.toArray))).push (Xb "list" us.toArray 0) };rw [hsz];refine bY (Yt (wpAny_call_entry_kw slot_list_sort ⟨_,hoL,rfl⟩ entry_list_sort ?body (ksk_l1 _ _)));show Wv (Wx X.prog X.w) X.A.in1.in1 (Builtin.«list.sort» ⟨[.ref (s.heap.objs.size+1)],[(WV "key",.ref f)]⟩) _ _ _;rw [ksk_t1];refine DL C (a:=s.heap.objs.size+1) (mg:=mg) (F:=F) (as:=as) G hr hb I1 (I.fpOk (abC _) hfr) hoL has r dn hl hz (abp (IF I.sz (abC _))) fun Y s'' J I'' s0 e'' d''=>⟨_,rfl,?_⟩;exact CT ⟨_,rfl,.ref (s.heap.objs.size+1),Y,I'',rfl,h _ Y J s0 hfr e'' d''⟩
end
def wD {κ:R D->Option K4} (C:KF κ) {X:Cx} {K:aT} {mg:acK} {O:acG} {F:acO->R D} {x:Str} {st:X5} {ps:acH} {f:ID} {fd:W2} {j k:Nat} {e:W3} {φ:FE} {p p2 p3 pos:Pos}
  (Df:Def X.K X.mg x st ps f fd) (G:FnOk X.prog X.w X.K X.mg X.base cP j f fd ps (eF K mg F)) (hr:Room k X.A) (hm:X.mg "sorted"=none) (ha:JE X e (tD ⟨K,mg,E0⟩ O φ)) (hj:j+1<=k:=by decide) (hg:Gl X "sorted":=by rfl) (hgx:Gl X x:=by rfl) (hdb:acP x:=by decide)
  (h1:ba e=true:=by rfl) (hK:X.K=K:=by rfl):JE X (.Call (.Name "sorted" p) [e] [⟨some "key",.Name x p2,p3⟩] pos) (tN ⟨K,mg,E0⟩ O (ao (tf κ F) (ae φ ap))):=by
 subst hK;refine ⟨fun af s Z H Q I h=>?_⟩;obtain ⟨as0,B,own,U,J,h⟩:=h;have hA:JA X [e] (xC ⟨X.K,mg,E0⟩ O (ae φ ap)):=aa ha ak (hn:=h1);refine XM (nA I hg hm (u:=.builtin "sorted") (by with_unfolding_all rfl) ?_ (by decide) (by decide));have he:Y9 pos (WT [e] X.env)=(false,eval e X.env)::Y9 pos (WT [] X.env):=by rw [c7 h1];rfl
 refine callWith_kw (cU (hA.out pos af s Z H (fun vs H1=>aC H H1/\∃ ds,aM X.K (aK (own++as0) H1) ds vs/\gt ⟨X.K,mg,E0⟩ (own++as0) H1 (tf κ F ds) Q) I ⟨as0,B,own,U,J,sY h fun ds vs H1 s1 d1 h1=>⟨s1,ds,d1,h1⟩⟩) fun us s1 ⟨vs,H1,I1,r,sm,ds,dn,q⟩ =>
  cU (HW (nm:=some "key") (kpos:=p3) (Cm (pos:=p2) (v:=.ref f) hgx Df.m rfl hdb) LZ pos af s1 Z H1 (fun zs H2=>zs=[.ref f]/\H2=H1) I1 ⟨rfl,rfl⟩) fun ws s2 ⟨zs,H2,I2,rz,e1,e2⟩=>?_) he ?_ rfl rfl
 .subst e1 e2;obtain ⟨w0,rfl,rw0⟩:=rz.one;cases rw0;have exi:∀ b∈own++as0,H2 b≠none:=(J.mono sm).exi;unfold tf at q;split at q
  .rename_i ys;split at q
   .rename_i hz;split at q
    .rename_i l hl;obtain ⟨v0,_,rfl,d0,d00⟩:=dn;cases d00;obtain ⟨lA,xs,rfl,hS,dx⟩:=d0;obtain ⟨u0,rfl,ru⟩:=r.one;cases ru;obtain ⟨its,ri,hp,_⟩:=I2.list ((az _ _).seq hS);have rm:Room j X.A.in1.in1:=⟨hr.hd,by have:=hr.dp;show X.A.depth+3*j+5 < _;omega,by have:=hr.un;show X.A.units+1+1+16*j+200 < _;omega⟩;refine z0 C (mg:=mg) (F:=F) (as:=own++as0) G rm Df.b I2 hp.isList exi ri dx hl hz fun p H' L s' hn Y dd=>?_;exact q p _ H' s' hn Y ⟨L,rfl,dd⟩
    .exact q.elim
   .exact q.elim
  .exact q.elim
 .exact fU (es:=[e]) (by rw [XI,h1];rfl)
def E2 {X:Cx} {K:aT} {mg:acK} {O:acG} {F:acO->R D} {x:Str} {st:X5} {ps:acH} {f:ID} {fd:W2} {j k:Nat} {e:W3} {φ:FE} {p p2 p3 pos:Pos}
  (L:Def X.K X.mg x st ps f fd) (G:FnOk X.prog X.w X.K X.mg X.base cP j f fd ps (eF K mg F)) (hr:Room k X.A) (hm:X.mg "sorted"=none) (Y:JE X e (tD ⟨K,mg,E0⟩ O φ)) (hj:j+1<=k:=by decide) (hg:Gl X "sorted":=by rfl) (J:Gl X x:=by rfl) (I:acP x:=by decide)
  (h1:ba e=true:=by rfl) (hK:X.K=K:=by rfl):JE X (.Call (.Name "sorted" p) [e] [⟨some "key",.Name x p2,p3⟩] pos) (tN ⟨K,mg,E0⟩ O (ao (Fi F) (ae φ ap))) :=
 wD kf4 L G hr hm Y hj hg J I h1 hK
end L2
namespace L2
open PySem PySem.Spec PyProof.Rows
section
variable {W:Wd} {X:Cx}
def kt (p:aaY):List aaY->Option Bool
 | []=>some false
 | q::r=>if Xg q=true/\q.depth<=32 then (kt p r).map fun b=>YN q p||b else none
def rX (x:D) (xs:acO):Option Bool:=match iG x,fm xs with
 | some p,some ps=>if Xg p=true then kt p ps else none
 | _,_=>none
def Ow (K:aT):R2:=fun x y H Q=>∃ p a ds xs k,y=.ref p/\j3 K H p xs/\di K H a x/\aM K H ds xs/\rX a ds=some k/\Q (.bl k) H
open Classical in
noncomputable def uj (s:gs) (p:aaY) (u:dO):Bool:=decide (∃ q bs,Reads s.heap u q bs/\q.canLay0=true/\YN q p=true)
def G8 {s:gs} {p q:aaY} {u:dO} {bs:acL} (r:Reads s.heap u q bs) (J:q.canLay0=true):uj s p u=YN q p:=by
 classical
 unfold uj;cases e:YN q p with
 | true=>exact @acD _ (_) ⟨q,bs,r,J,e⟩
 | false =>
  refine @acC _ (_) fun ⟨q',I,Y,_,L⟩=>?_
  have:=SeqAt.Reads.unique q q' u bs I J r Y
  subst this;rw [e] at L;cases L
def zr {af:acI} {Z:St} {H:Hp} {s:gs} (I:Inv X af Z H s) (J:X.A.units+64 < Zu) {v:dO} {p:aaY} {as:acL} (rv:Reads s.heap v p as) (hp:Xg p=true):∀ {ds:acO} {vs:acN} {us:acM} {ps:List aaY} {k:Bool},aM X.K H ds vs->bf vs us->fm ds=some ps->kt p ps=some k ->
  (∀ u∈us,abY X.A.in1 s u v (uj s p u))/\us.any (uj s p)=k
 | [],_,_,_,_,h,r,e,q=>by
  cases h;cases r;cases e;cases q;exact ⟨fun u J=>(nomatch J),rfl⟩
 | d::ds,_,_,_,k,⟨w1,ws,h0,h1,h2⟩,r,e,q=>by
  subst h0;unfold fm at e;cases q1:iG d with
  | none=>rw [q1] at e;cases e
  | some x =>
   rw [q1] at e;have e:(fm ds).map (x::·)=some _:=e;cases q2:fm ds with
   | none=>rw [q2] at e;cases e
   | some xs =>
    rw [q2] at e;cases e;unfold kt at q;split at q
    .rename_i hs;cases q3:kt p xs with
     | none=>rw [q3] at q;cases q
     | some k2 =>
      rw [q3] at q;cases q;cases r with
      | @cons _ u _ us r1 r2 =>
       obtain ⟨bs,Y⟩:=fK I h1 r1 q1;obtain ⟨i1,i2⟩:=zr I J rv hp h2 r2 q2 q3;have hq:=YQ hs.1;have ef:=G8 (p:=p) Y hq;refine ⟨fun u' L=>?_,by rw [Zf,ef,i2]⟩;rcases rW.mp L with z|z
       .subst z;rw [ef];refine ach x p X.A.in1 s _ v bs as Y rv hq (YQ hp) ?_;have h1:=Nat.min_le_left x.depth p.depth;have h2:=hs.2;have h3:X.A.in1.units=X.A.units+1:=rfl;omega
       .exact i1 u' z
    .cases q
def MF {x:D} {xs:acO} {k:Bool} (h:rX x xs=some k):∃ p ps,iG x=some p/\fm xs=some ps/\Xg p=true/\kt p ps=some k:=by
 unfold rX at h;split at h
 .rename_i p ps h1 h2;split at h
  .rename_i hs;exact ⟨p,ps,h1,h2,hs,h⟩
  .cases h
 .cases h
def TN (K:aT) (hu:X.A.units+64 < Zu) (hK:X.K=K:=by rfl):fb X (WR .In) (Ow K):=by
 subst hK;intro af s Z H x y v u Q I rx L h;obtain ⟨p,a,ds,xs,k,rfl,hl,da,Y,e,q⟩:=h;cases L;obtain ⟨J,ps,h1,h2,h3,h4⟩:=MF e;obtain ⟨as,ra⟩:=fK I da rx h1;obtain ⟨its,r,pl,hz⟩:=I.tuple hl;obtain ⟨i1,i2⟩:=zr I hu ra h3 Y r h2 h4;refine SeqAt.in_tupleAt (uj s J) pl (fun y hy=>i1 y (by simpa using hy)) ⟨.bl k,H,I,?_,q⟩;rw [show (its.toArray.any (uj s J))=its.any (uj s J) by simp,i2];rfl
def Md (x y:D):Option Bool:=match y with
 | .tup ds=>rX x ds
 | _=>none
def GW (x y:D):R D:=gG (Md x y) fun k=>k
def T7 (K:aT) (I:W.K=K:=by rfl):rH W (Ow K) GW:=by
 subst I;intro as H x y a b Q hn J L h;unfold GW at h;cases e:Md a b with
 | none=>rw [e] at h;exact h.elim
 | some k =>
  rw [e] at h;have fin:=aR h (show di W.K (aK as H) (.bl k) (.bl k) from rfl);cases b with
  | tup ds =>
   obtain ⟨p,xs,rfl,h1,h2⟩:=L;exact ⟨p,a,_,xs,k,rfl,(az _ _).seqT h1,J.mono (az _ _),h2.mono (az _ _),e,fin⟩
  | _=>cases e
end
def Ke {X:Cx} {K:aT} {mg:acK} {O:acG} {F:acO->R D} {x:Str} {st:X5} {ps:acH} {f:ID} {fd:W2} {j k:Nat} {p pos:Pos}
  (J:Def X.K X.mg x st ps f fd) (G:FnOk X.prog X.w X.K X.mg X.base cP j f fd ps (eF K mg F)) (Y:Room k X.A) (hj:j<=k:=by decide) (hg:Gl X x:=by rfl) (L:acP x:=by decide) :
  JE X (.Call (.Name x p) [] [] pos) (tD ⟨K,mg,E0⟩ O (ao F ap)) :=
 (JE.mk (GA (dvs:=[]) G (Y.mono hj) hg J.m J.F.kp J.b .nil GJ L)).imp fun Z H Q hh=>eG hh fun as0 B own U I h=>⟨own++as0,[],I.exi,aM.nil,h⟩
end L2
namespace HT
open PySem PySem.Spec PyProof.Rows L2
section
variable {prog:Ww} {w:WU} {A:WN} {E:acJ} {s:gs}
def oU {t sl:ID} {items:Array dO} {vl vu:dO} {lo hi:Option Int} {Q:acJ} (J:Zs s.heap t items) (hs:s.heap.IsSliceOf sl vl vu .none) (pl:IsPart vl lo) (pu:IsPart vu hi)
  (hw:sIx items.size 0 lo=0/\sIx items.size items.size hi=items.size) (h:Q (.ref t) s):Wv (Wx prog w) A (aaj (.ref t) (.ref sl)) Q E s:=by
 obtain ⟨os,hos,L,hds⟩:=id hs;have Y:s.TypeIs (.ref sl) "slice":=⟨os,hos,L⟩;unfold aaj;try with_reducible refine Yt ?_
 first|refine bY (CT ?_)|skip
 refine bY (wpAny_sequenceKey J.typeIs (by decide) ?_);refine bY (XN (name:=WV "__getitem__") J.typeIs Xd
  (Xz Xd J.typeIs entry_tuple_getitem ?_ (args_tuple_getitem _ _)))
 show Wv _ _ (Z4 (.ref t) >>= _) _ _ s;refine bY (tupleItemsOf_ J ?_);refine bY (ZF Y ?_);rw [acA (by decide)];refine bY (lp hs pl pu ?_);have I:(((sIx items.size 0 lo:Nat):Int)==0&&(1:Int)==1&&(sIx items.size items.size hi - sIx items.size 0 lo)==items.size)=true:=by
  rw [hw.1,hw.2];simp
 show Wv _ _ (if (((sIx items.size 0 lo:Nat):Int)==0&&(1:Int)==1&&(sIx items.size items.size hi - sIx items.size 0 lo)==items.size)=true then _ else _) _ _ s;rw [acA I];refine bY (m:=Z6 (.ref t)) ?_;unfold Z6;refine bY (ZF J.typeIs (CT ?_));rw [acA (by decide)]
 first
  | exact CT ⟨_,rfl,CT h⟩
  | exact bY (CT (CT ⟨_,rfl,CT h⟩))
  | exact bY (m:=rule _) (CT (CT ⟨_,rfl,CT h⟩))
  | exact bY (YO (CT ⟨_,rfl,CT h⟩))
end
end HT
namespace L2
open PySem PySem.Spec PyProof.Rows
section
variable {X:Cx} {W:Wd}
def S5 (K:aT):V->Option Int->Option Int->Hp->VK->Prop:=fun x lo hi H Q=>∃ a xs,x=.ref a/\j3 K H a xs/\(HT.sIx xs.length 0 lo=0/\HT.sIx xs.length xs.length hi=xs.length)/\Q (.ref a) H
def FK:zU X (S5 X.K):=by
 intro af s Z H x v vl vu lo hi sl Q I rx hs pl Y h;obtain ⟨a,xs,rfl,hx,hw,q⟩:=h;cases rx;obtain ⟨its,r,L,hz⟩:=I.tuple hx;have J:its.toArray.size=xs.length:=by rw [By];exact r.length.symm
 refine ⟨"tuple",_,Xd.lookup,L.typeIs,?_⟩;exact HT.oU L hs pl Y (by rw [J];exact hw) ⟨.ref a,H,I,rfl,q⟩
def OA (K:aT) (x:V) (lo hi:Option Int) (H:Hp) (Q:VK):Prop:=Re K x lo hi H Q\/S5 K x lo hi H Q
def T4 (K:aT) (I:X.K=K:=by rfl):zU X (OA K):=by
 subst I;exact Qy.or FK
def Dj (a:D) (lo hi:Option Int):R D:=match a with
 | .tup xs=>if HT.sIx xs.length 0 lo=0/\HT.sIx xs.length xs.length hi=xs.length then .ok (.tup xs) else .ok (.tup (lu xs lo hi))
 | d=>tR d lo hi
def TW (K:aT) (L:W.K=K:=by rfl):UQ W (OA K) Dj:=by
 subst L;intro as H x lo hi a Q hn I h;unfold Dj at h;split at h
 .rename_i xs;split at h
  .rename_i hc;have hd:=I;obtain ⟨p,vs,rfl,Y,J⟩:=I;rw [J.len] at hc;exact .inr ⟨p,vs,rfl,(az _ _).seqT Y,hc,aR h hd⟩
  .rename_i hc;refine .inl (EY W.K rfl as H x lo hi _ Q hn I ?_);unfold tR;dsimp only;rw [acB hc];exact h
 .exact .inl (EY W.K rfl as H x lo hi _ Q hn I h)
def RA {xs:acO} {lo hi:Option Int}:Dj (.tup xs) lo hi=.ok (.tup (lu xs lo hi)):=by
 unfold Dj;dsimp only;split
 .rename_i h;unfold lu;rw [h.1,h.2,YM,Z8,aaX]
 .rfl
end
section
variable {X:Cx} {W:Wd} {Ob O O2:acG} {e ie:W3} {φ ε:FE} {pos p1 spos:Pos} {x:Str}
abbrev FG:Type:=D->Sd->R Sd
def gF (W:Wd) (O:acG) (f:FG):TG:=fun v Z H Q=>∃ as0 B own U d,DI W.K as0 B O own Z U H/\di W.K (aK (own++as0) H) d v/\match f d U with
 | .ok δ'=>∀ I H',aC (aK (own++as0) H) (aK (own++as0) H')->DI W.K as0 B O own I δ' H'->Q I H'
 | _=>False
def Nu {t:W3} {tg:TgD} (h:JG X t (gD W O tg)):JG X t (gF W O (fI tg)):=h.imp fun v Z H Q ⟨as0,B,own,U,d,I,dv,h⟩=>by
 refine ⟨as0,B,own,U,d,I,dv,?_⟩;cases q:fI tg d U with
 | ok δ'=>rw [q] at h;exact fun J L=>h J H (fun _ _ e=>e) L
 | er y=>rw [q] at h;exact h
 | no=>rw [q] at h;exact h
end
section
variable {X:Cx} {W:Wd} {O:acG} {tg:W3}
def NN:acO->R (acO)
 | [.int i,.int j]=>if -(2 ^ 62)<=i/\i < 2 ^ 62/\-(2 ^ 62)<=j/\j < 2 ^ 62 then .ok (eh i (j - i).toNat) else .no
 | _=>.no
def BJ (α:FA):FA:=fun U=>(α U).bind NN
def Ee {a b:W3} {α:FA} {p pos:Pos} (hm:X.mg "range"=none) (L:JA X [a,b] (xC W O α)) (hg:Gl X "range":=by rfl) (hs:WT [a,b] X.env=[(false,eval a X.env),(false,eval b X.env)]:=by rfl) (J:WT [b] X.env=[(false,eval b X.env)]:=by rfl):JI X tg (.Call (.Name "range" p) [a,b] [] pos) (iD W O (BJ α)) :=
 (⟨DZ hg hm L.out hs J⟩:JI X tg (.Call (.Name "range" p) [a,b] [] pos) (KC (xC W O α))).imp fun Z H Q hh=>eG hh fun as0 B own U I h =>
 ⟨as0,B,own,U,I,kg h fun ds vs H' s Y h'=>by
  unfold NN at h';split at h'
  .obtain ⟨v,r,rfl,d1,v2,r2,rfl,d2,d3⟩:=Y;cases d1;cases d2;cases d3;split at h'
   .rename_i hj;exact ⟨_,_,rfl,hj,h' _ H' (aC.refl _) (qH _ _)⟩
   .exact h'.elim
  .exact h'.elim⟩
variable {o e:W3} {φ ψ:FE} {apos cpos:Pos}
end
section
variable {X:Cx} {af:acI} {Z:St} {H:Hp} {s:gs} {a:ID} {kvs:List (bD×V)}
def Inv.frzD (I:Inv X af Z H s) (e:H a=some (.dK kvs)):∃ o,Inv X af Z (upd H a (.frz o (.dK kvs))) s:=by
 have ok:bX X.prog X.w H s.heap a (.dK kvs):=I.hok a _ e;obtain ⟨z,y,vs,r,J,es,ep,Y,c⟩:=id ok;refine ⟨J,?_⟩;have ne:∀ b u,H b=some u->u≠.dK kvs->b≠a:=fun b u q n z=>by subst z;rw [e] at q;cases q;exact n rfl
 refine I.step (h':=s.heap) (H':=upd H a (.frz J (.dK kvs))) (g':=s.gens) (d':=s.drawn) (t':=s.toks) (ch:=[]) (fun _ z=>nomatch z) (fun b o _ _ _ q _=>q) (fun b o _ _ _ q _=>⟨o.slots,q⟩)
  (fun b o _ _ n=>by rw [aP (fun z=>by subst z;rw [e] at n;cases n)];exact n) (fun b o _ q=>⟨o,q⟩)
  (fun b xs q=>by rw [aP (ne b _ q (fun z=>nomatch z))];exact q) (fun b o u q=>by rw [aP (ne b _ q (fun z=>nomatch z))];exact q) (fun b ps q=>⟨#[],by rw [aP (ne b _ q (fun z=>nomatch z)),q];simp⟩) (fun m h=>h) ?_ I.bare
 intro b u q;have st:∀ {b:ID} {u:HO},bX X.prog X.w H s.heap b u->bX X.prog X.w (upd H a (.frz J (.dK kvs))) s.heap b u:=fun {b u} x =>
  x.stay (fun c v _ q=>q) (fun c q=>by rw [aP (ne c _ q (fun z=>nomatch z))];exact q) fun c xs q=>by rw [aP (ne c _ q (fun z=>nomatch z))];exact q
 by_cases L:b=a
 .subst L;rw [aS] at q;cases q;exact ⟨Y,st ok⟩
 .rw [aP L] at q;exact st (I.hok b u q)
end
def fzD:D->R D
 | .dct ds=>.ok (.dcf ds)
 | _=>.no
def JH (φ:FE):FE:=fun U=>(φ U).bind fzD
section
variable {X:Cx} {W:Wd} {Ob O O2 O':acG} {e:W3} {φ:FE} {ψ:FS} {st:X5} {sts:List X5}
def w9 (h:JE X e (tN W O φ)):JE X e (tD W O (JH φ)):=by
 refine ⟨fun af s Z H Q I q=>?_⟩;obtain ⟨as0,B,own,U,J,q⟩:=q;have q':gt W (own++as0) H (φ U) fun v H1=>∃ p kvs,v=.ref p/\H1 p=some (.dK kvs)/\∀ o,Q v (upd H1 p (.frz o (.dK kvs))):=by
  unfold JH at q;cases hr:φ U with
  | er x=>rw [hr] at q;exact q
  | no=>rw [hr] at q;exact q
  | ok d =>
   rw [hr] at q;cases d with
   | dct ds =>
    intro p o H' L Y ho od;obtain ⟨xs,rfl,od⟩:=od;refine ⟨p,xs,rfl,ho,fun ob=>?_⟩;have hn:=J.new Y;have q:cK W (own++as0) H (.ok (.dcf ds)) Q:=q;refine q (.ref p) _ (fun b u z=>?_) ⟨p,ob,xs,rfl,?_,od.mono fun b u z=>?_⟩
    .rw [aP (bH z Y)];exact L b u z
    .rw [aW hn];exact aS
    .by_cases hb:b∈p::(own++as0)
     .rw [dJ hb] at z;cases z
     .rw [aW hb] at z;have h1:=fun w=>hb (rW.mpr (.inl w));have h2:=fun w=>hb (rW.mpr (.inr w));rw [aW h2,aP h1];exact z
   | _=>exact q.elim
 refine W7 (h.out af s Z H _ I ⟨as0,B,own,U,J,q'⟩) (fun u L ⟨x,H1,I1,rx,p,kvs,e1,e2,hq⟩=>by
  obtain ⟨o,I2⟩:=I1.frzD e2;exact ⟨x,_,I2,rx,hq o⟩) fun _ _ h=>h
def DI.frzO {K:aT} {as0 own:acL} {B H:Hp} {Z:St} {U:Sd} {i:Nat} {a:ID} {ds:List (bD×D)} {xs:List (bD×V)} (I:DI K as0 B O own Z U H) (hi:(i,a)∈O.zip own) (h1:U[i]?=some (some (.dct ds))) (h2:Z[i]?=some (some (.ref a)))
  (h4:cw K (aK (own++as0) H) ds xs) (ob:Obj):∃ own2,DI K as0 B (O.filter fun k=>decide (k≠i)) own2 Z (U.set i (some (.dcf ds))) (upd H a (.frz ob (.dK xs))):=by
 generalize hp:(fun k:Nat=>decide (k≠i))=p;have pi:∀ k,p k=decide (k≠i):=fun k=>by rw [<- hp]
 have sub:(bM p O own).Sublist own:=kl;have mem:∀ a∈bM p O own,a∈own:=fun a J=>sub.mem J;have J:a∈own:=(WO hi).2;have hil:i < U.length:=(WD.mp h1).1;have nota:a∉bM p O own:=fun z=>by
  obtain ⟨j,h5,h6⟩:=kf z
  have:=zip_inj I.nd hi h5
  subst this;rw [pi] at h6;exact acE h6 rfl
 have s:aC (aK (own++as0) H) (aK (bM p O own++as0) (upd H a (.frz ob (.dK xs)))):=fun b u z=>by
  by_cases hb:b∈own++as0
  .rw [dJ hb] at z;cases z
  .rw [aW hb] at z;rw [aW fun w=>hb ?_,aP fun w=>hb ?_]
   .exact z
   .rw [w];exact WX _ J
   .rcases MK.mp w with w|w
    .exact WX _ (mem b w)
    .exact Wu _ w
 refine ⟨bM p O own,by simp [I.len],nJ I.olen,I.nd.sublist sub,I.ond.sublist ZR,fun a J=>I.fresh a (mem a J),I.ex0,fun b u z=>?_,fun j d hj q=>?_,fun j b hj=>?_⟩
 .rw [aP (fun w=>by rw [w,I.fresh a J] at z;cases z)];exact I.same b u z
 .rw [getElem?_set'] at q;split at q
  .rename_i hij;subst hij;cases q;refine ⟨.ref a,h2,a,ob,xs,rfl,?_,h4.mono s⟩;rw [aW fun w=>?_]
   .exact aS
   .rcases MK.mp w with w|w
    .exact nota w
    .exact I.apart a J w
  .rename_i hij;have hO:j∉O:=fun w=>hj (Xw.mpr ⟨w,by rw [pi];exact acD fun z=>hij z.symm⟩);obtain ⟨v,q1,q2⟩:=I.var j d hO q;exact ⟨v,q1,q2.mono s⟩
 .obtain ⟨hz,L⟩:=ft hj;obtain ⟨d,o,q1,q2,q3,q4⟩:=I.owns j b hz;have Y:i≠j:=fun z=>by rw [pi] at L;exact acE L z.symm
  have hba:b≠a:=fun z=>Y (zip_inj I.nd hi (z ▸ hz));exact ⟨d,o,by rw [getElem?_set',acB Y];exact q1,q2,by rw [aP hba];exact q3,q4.mono s⟩
def Ap (i:Nat) (ψ:FS):FS:=fun U=>match U[i]? with
 | some (some (.dct ds))=>ψ (U.set i (some (.dcf ds)))
 | _=>.no
def Na {i:Nat} {af:acI} {s:gs} {Z:St} {H:Hp} {D:Ends} (hi:i∈O) (I:Inv X af Z H s) (q:sD W Ob O O' (Ap i ψ) D Z H):∃ H',Inv X af Z H' s/\sD W Ob (O.filter fun k=>decide (k≠i)) O' ψ D Z H':=by
 obtain ⟨as0,B,own,U,J,q⟩:=q;obtain ⟨a,ha⟩:=cJ J.olen hi;obtain ⟨d,o,h1,h2,h3,Y⟩:=J.owns i a ha;unfold Ap at q;rw [h1] at q;cases d with
 | dct ds =>
  obtain ⟨xs,rfl,Y⟩:=Y;obtain ⟨ob,I'⟩:=I.frzD h3;obtain ⟨L,D2⟩:=J.frzO ha h1 h2 Y ob;exact ⟨_,I',as0,B,L,_,D2,q⟩
 | _=>exact q.elim
def qT {i:Nat} (h:JB X sts (sD W Ob O2 O' ψ)) (hi:i∈O:=by decide) (J:O.filter (fun k=>decide (k≠i))=O2:=by decide):JB X sts (sD W Ob O O' (Ap i ψ)):=by
 subst J;refine ⟨fun af s Z H D I q=>?_⟩;obtain ⟨H',L,Y⟩:=Na hi I q;exact h.out af s Z H' D L Y
end
def se:D->Option bD
 | .int i=>some (.inl i)
 | .str x=>some (.inr x)
 | _=>none
def mS:bD->D
 | .inl i=>.int i
 | .inr x=>.str x
def n5 {K:aT} {H:Hp} {d:D} {v:V} {k:bD} (h:di K H d v) (e:se d=some k):v=kV k:=by
 cases d with
 | int i=>cases e;exact h
 | str x=>cases e;exact h
 | _=>cases e
def uR {K:aT} {H:Hp}:∀ k:bD,di K H (mS k) (kV k)
 | .inl i=>rfl
 | .inr x=>rfl
def fc (kvs:List (bD×D)) (k:bD):Option D:=(kvs.find? fun I=>decide (I.1=k)).map (·.2)
def nQ (kvs:List (bD×D)) (k:bD) (d:D):List (bD×D) :=
 if (fc kvs k).isSome=true then kvs.map fun q=>if q.1=k then (q.1,d) else q else kvs++[(k,d)]
section
variable {K:aT} {H:Hp}
def cw.val:∀ {ds:List (bD×D)} {xs:List (bD×V)} (k:bD),cw K H ds xs->(fc ds k=none/\lr xs k=none)\/∃ d v,fc ds k=some d/\lr xs k=some v/\di K H d v
 | [],_,k,h=>by cases h;exact .inl ⟨rfl,rfl⟩
 | (k',d)::r,_,k,⟨v,vs,e,h1,h⟩=>by
  subst e;by_cases q:k'=k
  .exact .inr ⟨d,v,by simp [fc,Xe,q],qP q,h1⟩
  .rw [p6 (p:=(k',v)) q,show fc ((k',d)::r) k=fc r k by simp [fc,Xe,q]];exact cw.val k h
theorem cw.len:∀ {ds:List (bD×D)} {xs:List (bD×V)},cw K H ds xs->ds.length=xs.length
 | [],_,h=>by cases h;rfl
 | (k',d)::r,_,⟨v,vs,e,_,h⟩=>by subst e;simp [cw.len h]
def cw.snoc:∀ {ds:List (bD×D)} {xs:List (bD×V)} {k:bD} {d:D} {v:V},cw K H ds xs->di K H d v->cw K H (ds++[(k,d)]) (xs++[(k,v)])
 | [],_,k,d,v,h,hd=>by cases h;exact ⟨v,[],rfl,hd,rfl⟩
 | (k',d')::r,_,k,d,v,⟨v',vs,e,h1,h⟩,hd=>by subst e;exact ⟨v',_,rfl,h1,cw.snoc h hd⟩
def cw.repl:∀ {ds:List (bD×D)} {xs:List (bD×V)} (k:bD) {d:D} {v:V},cw K H ds xs->di K H d v ->
  cw K H (ds.map fun q=>if q.1=k then (q.1,d) else q) (xs.map fun q=>if q.1=k then (q.1,v) else q)
 | [],_,k,d,v,h,hd=>by cases h;exact rfl
 | (k',d')::r,_,k,d,v,⟨v',vs,e,h1,h⟩,hd=>by
  subst e;rw [lE,lE];have I:=cw.repl k h hd;by_cases q:k'=k
  .rw [acA q,acA q];exact ⟨v,_,rfl,hd,I⟩
  .rw [acB q,acB q];exact ⟨v',_,rfl,h1,I⟩
def cw.put {ds:List (bD×D)} {xs:List (bD×V)} {k:bD} {d:D} {v:V} (h:cw K H ds xs) (hd:di K H d v):cw K H (nQ ds k d) (qN xs k v):=by
 have e:(fc ds k).isSome=(lr xs k).isSome:=by
  rcases h.val k with ⟨a,b⟩|⟨a,b,J,I,_⟩
  .rw [a,b];rfl
  .rw [J,I];rfl
 unfold nQ qN;rw [uK,e];split
 .exact h.repl k hd
 .exact h.snoc hd
end
section
variable {X:Cx} {W:Wd} {Ob O O':acG} {a b e:W3} {φ ψ χ ε:FE} {pos p1 p2 apos cpos:Pos} {x:Str}
def Ge:V->V->V->Hp->(Hp->Prop)->Prop:=fun o i v H Q=>∃ p kvs k,o=.ref p/\i=kV k/\H p=some (.dK kvs)/\kvs.length < Wp/\Q (upd H p (.dK (qN kvs k v)))
def Eb (L:X.A.units+1 < Zu):NJ X Ge:=by
 intro af s Z H o i v ov iv u Q I ro Y J h;obtain ⟨p,kvs,k,rfl,rfl,hp,hl,q⟩:=h;cases ro;exact Ex L I (Ji.k hp hl) Y J fun s' I'=>⟨_,I',q⟩
def mH (i:Nat) (ψ ε:FE):FS:=fun U=>match U[i]? with
 | some (some (.dct kvs))=>(ε U).bind fun d=>(ψ U).bind fun k=>match se k with
  | some k=>if kvs.length < 1000000 then .ok (.nx (U.set i (some (.dct (nQ kvs k d))))) else .no
  | none=>.no
 | _=>.no
def on {i:Nat} {ie:W3} {spos:Pos} (hu:X.A.units+64 < Zu) (hi:i∈O) (he:JE X e (tD W O ε)) (hie:JE X ie (tD W O ψ)) (hN:X.N[i]?=some x:=by rfl) (hv:yH X.env.scope x:=by walk_at"v") (hd:acP x:=by decide)
  (hcd:(x==("__classdict__":Str))=false:=by decide) (hs:swapsWithSole [.Subscript (.Name x p1) ie spos] e pos.line X.env=pure false:=by rfl) (hw:swappedStores [.Subscript (.Name x p1) ie spos] e X.env=pure none:=by rfl)
  (h1:(XR [.Subscript (.Name x p1) ie spos] X.env).map (·.2)=[assign (.Subscript (.Name x p1) ie spos) X.env]:=by rfl)
  (ha:∀ v,assign (.Subscript (.Name x p1) ie spos) X.env v=(do
   let ov <- holding [v] (eval (.Name x p1) X.env)
   let iv <- holding [v,ov] (eval ie X.env)
   ab4 spos
   holding [v,ov,iv] (setItem ov iv v)
   release [v,ov,iv] []):=by intro _;rfl) :
  JS X (.Assign [.Subscript (.Name x p1) ie spos] e pos) (sD W Ob O O (mH i ψ ε)) :=
 (GX he (M7 (jv i hN hv hd hcd) hie (Eb (by omega)) ha) hs hw h1).imp fun D Z H hh=>eG hh fun as0 B own U I h=>by
  obtain ⟨a,Y⟩:=cJ I.olen hi;obtain ⟨d,o,h1,h2,h3,h4⟩:=I.owns i a Y;unfold mH at h;rw [h1] at h;cases d with
  | dct ds =>
   obtain ⟨xs,rfl,q⟩:=h4;refine ⟨as0,B,own,U,I,dF I h fun y v H2 L d2 hq=>?_⟩;have e0:L7 (vM i) (tD W O ψ) Ge v Z H2 D.nx=rV Z[i]? H2 (fun o H1=>tD W O ψ Z H1 fun i H2=>Ge o i v H2 fun H3=>D.nx Z H3):=rfl;rw [e0,h2];refine ⟨as0,B,own,U,I.mono L,dF (I.mono L) hq fun k u H3 s3 d3 J=>?_⟩;cases e:se k with
   | none=>rw [e] at J;exact J.elim
   | some ks =>
    rw [e] at J;have J:dZ W as0 B Ob O (if ds.length < 1000000 then .ok (.nx (U.set i (some (.dct (nQ ds ks y))))) else .no) D:=J;split at J
    .rename_i hl;have hu:=n5 d3 e;subst hu;have hm:=dL;refine ⟨a,xs,ks,rfl,rfl,(L.trans s3) _ _ h3,by rw [<- q.len];omega,?_⟩;exact J own Z _ (((I.mono L).mono s3).mutate Y ⟨_,rfl,(q.mono (aV (L.trans s3))).put (d2.mono (aV s3))⟩)
    .exact J.elim
  | _=>exact h.elim
def gJ (kvs:List (bD×D)) (k:bD):List (bD×D):=kvs.filter fun I=>decide (I.1≠k)
def cw.drop {K:aT} {H:Hp}:∀ {ds:List (bD×D)} {xs:List (bD×V)} (k:bD),cw K H ds xs->cw K H (gJ ds k) (ig xs k)
 | [],_,k,h=>by cases h;exact rfl
 | (k',d')::r,_,k,⟨v',vs,e,h1,h⟩=>by
  subst e;have I:=cw.drop k h;by_cases q:k'=k
  .rw [show ig ((k',v')::vs) k=ig vs k from Er q,show gJ ((k',d')::r) k=gJ r k by simp [gJ,Xy,q]];exact I
  .rw [show ig ((k',v')::vs) k=(k',v')::ig vs k from EI q,show gJ ((k',d')::r) k=(k',d')::gJ r k by simp [gJ,Xy,q]];exact ⟨v',_,rfl,h1,I⟩
def v9 (i:Nat) (ψ:FE):FS:=fun U=>match U[i]? with
 | some (some (.dct kvs))=>(ψ U).bind fun k=>match se k with
  | some k=>if (fc kvs k).isSome=true then .ok (.nx (U.set i (some (.dct (gJ kvs k))))) else .no
  | none=>.no
 | _=>.no
def Cb {i:Nat} (hi:i∈O) (he:JE X e (tD W O ε)) (hN:X.N[i]?=some x:=by rfl) (hn:ba e=true:=by rfl) (Y:(apos.endLine==cpos.line)=true:=by rfl) (hv:yH X.env.scope x:=by walk_at"v") (hd:acP x:=by decide)
  (hcd:(x==("__classdict__":Str))=false:=by decide) (L:Xa (.Name x p1) "pop" X.env (eval (.Name x p1) X.env)=eval (.Name x p1) X.env:=by rfl)
  (hs:YL (.Call (.Attribute (.Name x p1) "pop" apos) [e] [] cpos) none pos.line X.env=pure false:=by rfl)
  (hfew:((Y9 cpos (WT [e] X.env)).all (fun x=>!x.1)&&(backToKw cpos (Zv [] X.env)).all (fun x=>x.1.isSome)&&decide (([e]:List W3).length+([]:List ZZ).length+(if ([]:List ZZ).isEmpty then 0 else 1) < 30))=true:=by rfl)
  (htr:Y9 cpos (WT [e] X.env)=[(false,eval e X.env)]:=by rfl) :
  JS X (.Expr (.Call (.Attribute (.Name x p1) "pop" apos) [e] [] cpos) pos) (sD W Ob O O (v9 i ε)) :=
 (xQ ⟨Hg (jv i hN hv hd hcd).out he.out ⟨L,hfew,Y,htr⟩⟩ hs).imp fun D Z H hh=>eG hh fun as0 B own U I h=>by
  obtain ⟨a,ha⟩:=cJ I.olen hi;obtain ⟨d,o,h1,h2,h3,h4⟩:=I.owns i a ha;have e0:CH (Fe (vM i) (tD W O ε)) D Z H=rV Z[i]? H (fun x H1=>∃ a,x=.ref a/\Ui H1 a/\tD W O ε Z H1 fun y H2=>∃ kvs k v,H2 a=some (.dK kvs)/\y=kV k/\lr kvs k=some v/\D.nx Z (upd H2 a (.dK (ig kvs k)))):=rfl;rw [e0,h2];unfold v9 at h;rw [h1] at h;cases d with
  | dct ds =>
   obtain ⟨xs,rfl,q⟩:=h4;refine ⟨a,rfl,.inl ⟨xs,.inl h3⟩,as0,B,own,U,I,dF I h fun y v H2 s2 d2 J=>?_⟩;cases e:se y with
   | none=>rw [e] at J;exact J.elim
   | some k =>
    rw [e] at J;have J:dZ W as0 B Ob O (if (fc ds k).isSome=true then .ok (.nx (U.set i (some (.dct (gJ ds k))))) else .no) D:=J;have hy:=n5 d2 e;subst hy;rcases q.val k with ⟨c1,c2⟩|⟨d',v',c1,c2,_⟩
    .rw [c1] at J;exact J.elim
    .rw [c1,acA (show (some d').isSome=true from rfl)] at J;exact ⟨xs,k,v',s2 _ _ h3,rfl,c2,J own Z _ ((I.mono s2).mutate ha ⟨_,rfl,(q.mono (aV s2)).drop k⟩)⟩
  | _=>exact h.elim
def oY:D->Option (List (bD×D))
 | .dct k=>some k
 | .dcf k=>some k
 | _=>none
def lD {K:aT} {H:Hp} {d:D} {v:V} {ds:List (bD×D)} (h:di K H d v) (e:oY d=some ds):∃ p xs,v=.ref p/\Rd H p (.dK xs)/\cw K H ds xs:=by
 cases d with
 | dct k=>cases e;obtain ⟨p,xs,rfl,h1,h2⟩:=h;exact ⟨p,xs,rfl,.inl h1,h2⟩
 | dcf k=>cases e;obtain ⟨p,o,xs,rfl,h1,h2⟩:=h;exact ⟨p,xs,rfl,.inr ⟨o,h1⟩,h2⟩
 | _=>cases e
def tw.rd {H:Hp} {p:ID} {xs:List (bD×V)} {k:bD} (h:Rd H p (.dK xs)):tw H p (kV k) (lr xs k):=.inl ⟨xs,k,h,rfl,rfl⟩
def Hy (I:Bool):R2:=fun x y H Q=>∃ p kvs k,x=kV k/\y=.ref p/\Rd H p (.dK kvs)/\Q (.bl (if I=true then !(lr kvs k).isSome else (lr kvs k).isSome)) H
def LG (hu:X.A.units+64 < Zu):fb X (WR .In) (Hy false):=by
 intro af s Z H x y v u Q I Y J h;obtain ⟨p,kvs,k,rfl,rfl,hp,q⟩:=h;cases J;exact UK (by omega) I (tw.rd hp) Y fun s' L=>⟨.bl _,H,L,rfl,q⟩
def EG (hu:X.A.units+64 < Zu):fb X (WR .NotIn) (Hy true):=by
 intro af s Z H x y v u Q I Y J h;obtain ⟨p,kvs,k,rfl,rfl,hp,q⟩:=h;cases J;exact Js (by omega) I (tw.rd hp) Y fun s' L=>⟨.bl _,H,L,rfl,q⟩
def Fd (a b:D):Option Bool:=(oY b).bind fun kvs=>(se a).map fun k=>(fc kvs k).isSome
def Kk (a b:D):R D:=gG (Fd a b) fun k=>k
def w4 (a b:D):R D:=gG (Fd a b) fun k=>!k
def Ej {K:aT} {H:Hp} {ds:List (bD×D)} {xs:List (bD×V)} (h:cw K H ds xs) (k:bD):(fc ds k).isSome=(lr xs k).isSome:=by
 rcases h.val k with ⟨a,b⟩|⟨a,b,J,I,_⟩
 .rw [a,b];rfl
 .rw [J,I];rfl
def Lr (I:Bool):rH W (Hy I) (fun a b=>gG (Fd a b) fun k=>if I=true then !k else k):=by
 intro as H x y a b Q hn L Y h;have h:cK W as H (gG (Fd a b) fun k=>if I=true then !k else k) Q:=h;unfold Fd at h;cases e:oY b with
 | none=>rw [e] at h;exact h.elim
 | some kvs =>
  cases e2:se a with
  | none=>rw [e,e2] at h;exact h.elim
  | some k =>
   rw [e,e2] at h;obtain ⟨p,xs,rfl,h1,h2⟩:=lD Y e;have J:=n5 L e2;subst J;refine ⟨p,xs,k,rfl,rfl,(az _ _).rd h1,?_⟩;rw [<- Ej h2 k];exact aR (d:=.bl (if I=true then !(fc kvs k).isSome else (fc kvs k).isSome)) h rfl
def UO:rH W (Hy false) Kk:=Lr false
def Ik:rH W (Hy true) w4:=Lr true
def mO (a b:D):R D:=match oY a with
 | some kvs=>(match se b with
  | some k=>(match fc kvs k with
   | some d=>.ok d
   | none=>.no)
  | none=>.no)
 | none=>.no
def zQ (hu:X.A.units+64 < Zu) (ha:JE X a (tD W O φ)) (hb:JE X b (tD W O ψ)) (hs:IC b:=by exact fun _ _=>rfl):JE X (.Subscript a b pos) (tD W O (aw mO φ ψ)) :=
 JE.imp ⟨Ct (by omega) ha.out hb.out hs⟩ fun Z H Q hh=>eG hh fun as0 B own U I h=>⟨as0,B,own,U,I,bU h fun x v H1 s1 d1 h1=>⟨as0,B,own,U,I.mono s1,bU h1 fun y u H2 Y d2 h2=>by
  unfold mO at h2;cases e0:oY x with
  | none=>rw [e0] at h2;exact h2.elim
  | some kvs =>
   rw [e0] at h2;dsimp only at h2;obtain ⟨p,xs,rfl,q1,q2⟩:=lD d1 e0;cases e:se y with
   | none=>rw [e] at h2;exact h2.elim
   | some k =>
    rw [e] at h2;dsimp only at h2;have hy:=n5 d2 e;subst hy;rcases (q2.mono (aV Y)).val k with ⟨J,L⟩|⟨d,v,J,L,c3⟩
    .rw [J] at h2;exact h2.elim
    .rw [J] at h2;exact ⟨p,v,rfl,L ▸ tw.rd (Y.rd ((az _ _).rd q1)),aR h2 c3⟩⟩⟩
def N2 (hu:X.A.units+64 < Zu) {i:Nat} (hi:i∈O) (hb:JE X b (tD W O ψ)) (hN:X.N[i]?=some x:=by rfl) (hs:IC b:=by exact fun _ _=>rfl) (L:yH X.env.scope x:=by walk_at"v") (hd:acP x:=by decide)
  (hcd:(x==("__classdict__":Str))=false:=by decide):JE X (.Subscript (.Name x p1) b pos) (tD W O (aw mO (ah i) ψ)) :=
 JE.imp ⟨Ct (by omega) (jv i hN L hd hcd).out hb.out hs⟩ fun Z H Q hh=>eG hh fun as0 B own U I h=>by
  obtain ⟨a,ha⟩:=cJ I.olen hi;obtain ⟨d,o,h1,h2,h3,h4⟩:=I.owns i a ha;have e0:Lf (vM i) (tD W O ψ) Z H Q=rV Z[i]? H (fun x H1=>tD W O ψ Z H1 fun y H2=>∃ a v,x=.ref a/\tw H2 a y (some v)/\Q v H2):=rfl;rw [e0,h2];have L:ah i U=.ok d:=by unfold ah;rw [h1]
  have h':cK W (own++as0) H ((ψ U).bind fun y=>mO d y) Q:=by
   have e:aw mO (ah i) ψ U=(ψ U).bind fun y=>mO d y:=by unfold aw;rw [L];rfl
   rw [<- e];exact h
  refine ⟨as0,B,own,U,I,bU h' fun y u H2 s2 d2 J=>?_⟩;cases d with
  | dct ds =>
   obtain ⟨xs,rfl,q⟩:=h4;have J:cK W (own++as0) H2 (match se y with
    | some k=>(match fc ds k with
     | some d=>.ok d
     | none=>.no)
    | none=>.no) Q:=J
   cases e:se y with
   | none=>rw [e] at J;exact J.elim
   | some k =>
    rw [e] at J;dsimp only at J;have hy:=n5 d2 e;subst hy;rcases (q.mono (aV s2)).val k with ⟨Y,c2⟩|⟨d,v,Y,c2,c3⟩
    .rw [Y] at J;exact J.elim
    .rw [Y] at J;exact ⟨a,v,rfl,c2 ▸ tw.rd (.inl (s2 _ _ h3)),aR J c3⟩
  | obj _ _=>exact J.elim
  | lst _=>exact J.elim
  | _=>exact h4.elim
def Gs (xs:acN) (H:Hp) (Q:VK):Prop:=∃ p kvs,xs=[.ref p]/\Rd H p (.dK kvs)/\∀ l,H l=none->Q (.ref l) (upd H l (.dK kvs))
def iX:cj X (.type "dict") Gs:=by
 intro af s Z H xs us Q I r h;obtain ⟨p,kvs,rfl,hp,q⟩:=h;obtain ⟨u,rfl,Y⟩:=jA r;cases Y;exact Hr I hp fun l s' J L=>⟨.ref l,_,L,rfl,q l J⟩
def zo (ds:acO):R D:=match ds with
 | [d]=>(match oY d with
  | some kvs=>.ok (.dct kvs)
  | none=>.no)
 | _=>.no
def Kf:yR W Gs zo:=by
 intro as H xs ds Q hn Y h;unfold zo at h;split at h
 .obtain ⟨v,rfl,d1⟩:=gq Y;split at h
  .rename_i kvs e;obtain ⟨p,vs,rfl,L,J⟩:=lD d1 e;exact ⟨p,vs,rfl,(az _ _).rd L,fun l I=>h l _ _ (aX I _) I aS ⟨vs,rfl,J.mono (jC I (aX I _))⟩⟩
  .exact h.elim
 .exact h.elim
end
def sI (a b:D):Option Bool:=match iG a,iG b with
 | some p,some q=>if Xg p=true/\p.depth<=32/\Xg q=true then some (YN p q) else none
 | _,_=>none
def EJ {a b:D} {k:Bool} (h:sI a b=some k):∃ p q,iG a=some p/\iG b=some q/\Xg p=true/\p.depth<=32/\Xg q=true/\k=YN p q:=by
 unfold sI at h;split at h
 .rename_i p q h1 h2;split at h
  .rename_i hs;cases h;exact ⟨p,q,h1,h2,hs.1,hs.2.1,hs.2.2,rfl⟩
  .cases h
 .cases h
def qO (I:List (bD×D)):List (bD×D)->Option Bool
 | []=>some true
 | (k,d)::r=>match fc I k with
  | none=>some false
  | some y=>(sI d y).bind fun e=>(qO I r).map fun b=>e&&b
def IS (I J:List (bD×D)):Option Bool:=if I.length=J.length then qO J I else some false
def Gw (a b:D):Option Bool:=(oY a).bind fun I=>(oY b).bind fun J=>IS I J
def Jv (a b:D):R D:=gG (Gw a b) fun k=>!k
section
variable {X:Cx} {W:Wd}
def B8 {af:acI} {Z:St} {H:Hp} {s:gs} (I:Inv X af Z H s) (hu:X.A.units+64 < Zu) {Y:List (bD×D)} {yb:List (bD×V)} {vb:List (bD×dO)} (hb:cw X.K H Y yb) (rb:KV yb vb) :
  ∀ {J:List (bD×D)} {ya:List (bD×V)} {va:List (bD×dO)} {r:Bool},cw X.K H J ya->KV ya va->qO Y J=some r->PySem.W.KeqHits X.A.in1 s vb va r
 | [],_,_,_,h,rv,e=>by
  cases h;cases rv;cases e;exact .nil
 | (k,d)::J,_,_,r,⟨v,vs,e0,h1,h2⟩,rv,e=>by
  subst e0;cases rv with
  | @cons _ u _ us r1 r2 =>
   obtain ⟨ku,vu⟩:=u;obtain ⟨e1,r1⟩:=r1;have e1:k=ku:=e1;subst e1;unfold qO at e;have L:=KV.val rb k;rcases hb.val k with ⟨c1,c2⟩|⟨y,w,c1,c2,c3⟩
   .rw [c1] at e;cases e;rw [c2] at L;exact .miss L.none_of
   .rw [c1] at e;rw [c2] at L;obtain ⟨w',e2,rw'⟩:=L.some_of;dsimp only at e;cases q1:sI d y with
    | none=>rw [q1] at e;cases e
    | some b1 =>
     rw [q1] at e;have e:(qO Y J).map (fun b=>b1&&b)=some r:=e;cases q2:qO Y J with
     | none=>rw [q2] at e;cases e
     | some b2 =>
      rw [q2] at e;cases e;obtain ⟨p,q,t1,t2,t3,t4,t5,rfl⟩:=EJ q1;obtain ⟨as,ra⟩:=fK I h1 r1 t1;obtain ⟨bs,rb'⟩:=fK I c3 rw' t2;refine .hit e2 (ach p q X.A.in1 s _ _ as bs ra rb' (YQ t3) (YQ t5) ?_) (B8 I hu hb rb h2 r2 q2);have h1:=Nat.min_le_left p.depth q.depth;have h3:X.A.in1.units=X.A.units+1:=rfl;omega
def Sy (K:aT):R2:=fun x y H Q=>∃ p q a b xs ys k,x=.ref p/\y=.ref q/\Rd H p (.dK xs)/\Rd H q (.dK ys)/\cw K H a xs/\cw K H b ys/\IS a b=some k/\Q (.bl (!k)) H
def L9 (K:aT) (hu:X.A.units+64 < Zu) (hK:X.K=K:=by rfl):fb X (WR .NotEq) (Sy K):=by
 subst hK;intro af s Z H x y v u Q I rx ry h;obtain ⟨p,q,a,b,xs,ys,k,rfl,rfl,hp,hq,da,db,e,hQ⟩:=h;cases rx;cases ry;obtain ⟨_,h1,Y,ra,d1⟩:=pe I.hok hp;obtain ⟨_,h2,vb,rb,d2⟩:=pe I.hok hq;have l1:a.length=Y.length:=da.len.trans (show Paired _ _ _ from ra).length;have l2:b.length=vb.length:=db.len.trans (show Paired _ _ _ from rb).length;have J:(if a.length=b.length then qO b a else some false)=some k:=e;by_cases L:a.length=b.length
 .rw [acA L] at J;refine acw (r:=k) h1 h2 d1 d2 (by omega) (fun _=>B8 I hu db rb da ra J) ⟨.bl (!k),H,I,?_,hQ⟩
  have:(Y.length==vb.length)=true:=by rw [<- l1,<- l2,L];exact beq_self_eq_true _
  rw [this];rfl
 .rw [acB L] at J;cases J;refine acw (r:=false) h1 h2 d1 d2 (by omega) (fun z=>absurd (l1.trans (z.trans l2.symm)) L) ⟨.bl (!false),H,I,?_,hQ⟩;rw [aby];rfl
def Ud (K:aT) (I:W.K=K:=by rfl):rH W (Sy K) Jv:=by
 subst I;intro as H x y a b Q hn J L h;have h:cK W as H (gG (Gw a b) fun k=>!k) Q:=h;cases e:Gw a b with
 | none=>rw [e] at h;exact h.elim
 | some k =>
  rw [e] at h;have h':cK W as H (.ok (.bl (!k))) Q:=h;unfold Gw at e;cases ea:oY a with
  | none=>rw [ea] at e;cases e
  | some ka =>
   cases eb:oY b with
   | none=>rw [ea,eb] at e;cases e
   | some Y =>
    rw [ea,eb] at e;obtain ⟨p,xs,rfl,h1,h2⟩:=lD J ea;obtain ⟨q,ys,rfl,h3,h4⟩:=lD L eb;exact ⟨p,q,ka,Y,xs,ys,k,rfl,rfl,(az _ _).rd h1,(az _ _).rd h3,h2.mono (az _ _),h4.mono (az _ _),e,aR h' rfl⟩
end
def rM {k:bD} {u:dO} (h:sN k u=true):bg (kV k) u:=by
 cases k with
 | inl i =>
  have h:abz i u=true:=h;unfold abz at h;split at h
  .have e:=eq_of_beq h;subst e;exact ⟨_,rfl⟩
  .cases h
 | inr x =>
  have h:aaD x u=true:=h;unfold aaD at h;split at h
  .have e:=eq_of_beq h;subst e;exact ⟨_,rfl⟩
  .cases h
structure FzAt (X:Cx) (H:Hp) (h:Yy) (a:ID) (ep:Nat) (xs:List (bD×V)) (vs:List (bD×dO)):Prop where
 at_:Heap.DictAt (b6 X.prog X.w) h a vs ep
 rel:KV xs vs
def Iu (o:Obj):Nat:=match o.data with
 | .dict _ ep=>ep
 | _=>0
def qC {X:Cx} {af:acI} {Z:St} {H:Hp} {s:gs} {a:ID} {o:Obj} {xs:List (bD×V)} (I:Inv X af Z H s) (e:H a=some (.frz o (.dK xs))) :
  xs.length<=Wp/\(a==Yo)=false/\∃ vs,FzAt X H s.heap a (Iu o) xs vs:=by
 obtain ⟨J,z,hd,vs,r,ob,es,ep,h1,h2,L,Y⟩:=(show bX X.prog X.w H s.heap a (.frz o (.dK xs)) from I.hok a _ e);rw [J] at h1;cases h1
 have:Iu o=ep:=by unfold Iu;rw [L]
 rw [this];exact ⟨z,hd,vs,⟨o,es,J,h2,L,Y⟩,r⟩
def F1:entryFor table "dict_itemiterator.__iter__"=some Builtin.«dict_keyiterator.__iter__»:=entryFor_alias (id':="dict_keyiterator.__iter__") (by kernel_rfl) (by kernel_rfl) (by kernel_rfl) (by kernel_rfl)
def mQ {prog:Ww} {w:WU} {A:WN} {E:acJ} {s:gs} {it d:ID} {i n ep:Nat} {ok ov:dO} {Q:acJ} (st:IsItemIter s.heap it d i n ep ok ov) (hQ:Q (.ref it) s):Wv (Wx prog w) A (acs (.ref it)) Q E s:=by
 have I:s.TypeIs (.ref it) "dict_itemiterator":=⟨_,st,rfl⟩;refine wpAny_pyIter_slot I F.slot_dict_itemiterator_iter (Xz F.slot_dict_itemiterator_iter I F1 ?_ (F.args_dict_itemiterator_iter_1 _));unfold Builtin.«dict_keyiterator.__iter__»;refine bY (Zd (a:=(WW it,[])) rfl ?_);exact CT ⟨_,rfl,"dict_itemiterator",_,I,F.slot_dict_itemiterator_next.lookup,hQ⟩
def HH {xs:List (bD×V)} {vs:List (bD×dO)} (r:KV xs vs) {i:Nat} {k:bD} {u:dO} (h:vs[i]?=some (k,u)):∃ v,xs[i]?=some (k,v)/\bg v u:=by
 unfold KV at r;induction r generalizing i with
 | nil=>simp at h
 | @cons p q ps qs hq t ih =>
  cases i with
  | zero=>simp at h;subst h;exact ⟨p.2,by obtain ⟨p1,p2⟩:=p;simp at hq ⊢;exact hq.1,hq.2⟩
  | succ i=>simpa using ih (by simpa using h)
def ItK (a:ID) (o:Obj) (xs:List (bD×V)):It :=
 ⟨fun i H=>H a=some (.frz o (.dK xs))/\i < xs.length,fun i H v H'=>H'=H/\∃ k x,xs[i]?=some (k,x)/\v=kV k,fun i H=>H a=some (.frz o (.dK xs))/\i=xs.length⟩
def DM {P:Ww} {w:WU} {K:aT} {tg:W3} (it a:ID) (o:Obj) (xs:List (bD×V)):Turn P w K tg (ItK a o xs) [it] it (fun i h=>h.IsKeyIter it a i xs.length (Iu o)) where
 mem:=by simp
 obj:=fun i h st b J=>by
  have e:b=it:=by simpa using J
  subst e;obtain ⟨o,e,c,d⟩:=st;exact ⟨o,e,fun v z=>by rw [d] at z;cases z⟩
 keep:=fun i h h' st k=>by obtain ⟨o,e,c,d⟩:=st;exact ⟨o,k it (by simp) o e,c,d⟩
 item:=by
  intro X hP hw hK hc i af s Z H E I hf st hg;subst hP hw;obtain ⟨L,hi⟩:=hg;obtain ⟨z,hd,vs,F⟩:=qC I L;obtain ⟨f0,f1,f2,f3,f4,f5⟩:=hf it (by simp);have hl:=F.rel.length;have hne:a≠it:=fun z=>by rw [z,f0] at L;cases L
  have W:=Walks.dictKeys (knd:=b6 X.prog X.w) (I.ok.hd hc) it a hne vs (Iu o);rw [hl] at st;refine bo I.tk (W.item i s _ _ (by rw [<- hl];exact hi) ⟨st,F.at_⟩ fun v h' tk hv st' kk htk=>?_);obtain ⟨k,x,h1,h2⟩:=hv;obtain ⟨y,h3,_⟩:=HH F.rel h1;have I1:Inv X af Z H { s with heap:=h',toks:=tk }:=I.turned (fun b o J e=>kk b o (by simpa using J) e) f0 f1 f3 f4 f5;have Y:=st'.1;obtain ⟨o2,e,c,d⟩:=id Y;rw [<- hl] at Y;exact ⟨v,rfl,wJ (s:={ s with heap:=h',toks:=tk }) e c d (by decide) ⟨kV k,H,I1,rM h2,⟨rfl,k,y,h3,rfl⟩,Y,fun b J=>(hf b J).1⟩⟩
 done:=by
  intro X hP hw hK hc i af s Z H E I hf st hg;subst hP hw;obtain ⟨L,hi⟩:=hg;obtain ⟨z,hd,vs,F⟩:=qC I L;obtain ⟨f0,f1,f2,f3,f4,f5⟩:=hf it (by simp);have hl:=F.rel.length;have hne:a≠it:=fun z=>by rw [z,f0] at L;cases L
  have W:=Walks.dictKeys (knd:=b6 X.prog X.w) (I.ok.hd hc) it a hne vs (Iu o);rw [hi,hl] at st;exact bo I.tk (W.done s _ _ ⟨st,F.at_⟩ fun h' tk kk htk=>⟨rfl,I.turned (fun b o J e=>kk b o (by simpa using J) e) f0 f1 f3 f4 f5⟩)
 self:=fun _ _ _ _ _ st h=>wpAny_pyIter_keyiter st h
def ItP (a:ID) (o:Obj) (xs:List (bD×V)):It :=
 ⟨fun i H=>H a=some (.frz o (.dK xs))/\i < xs.length,fun i H v H'=>∃ p k x,xs[i]?=some (k,x)/\H p=none/\H'=upd H p (.tup [kV k,x])/\v=.ref p,fun i H=>H a=some (.frz o (.dK xs))/\i=xs.length⟩
def Bx {P:Ww} {w:WU} {K:aT} {elts:List W3} {k:Nat} {pos:Pos} (it a:ID) (o:Obj) (xs:List (bD×V)) :
  Turn P w K (.Tuple elts k pos) (ItP a o xs) [it] it (fun i h=>∃ ok ov,IsItemIter h it a i xs.length (Iu o) ok ov) where
 mem:=by simp
 obj:=fun i h st b J=>by
  have e:b=it:=by simpa using J
  subst e;obtain ⟨ok,ov,e⟩:=st;exact ⟨_,e,fun v z=>by cases z⟩
 keep:=fun i h h' st k=>by obtain ⟨ok,ov,e⟩:=st;exact ⟨ok,ov,k it (by simp) _ e⟩
 item:=by
  intro X hP hw hK hc i af s Z H E I hf st hg;subst hP hw;obtain ⟨hq,hi⟩:=hg;obtain ⟨ok,ov,st⟩:=st;obtain ⟨z,hd,vs,F⟩:=qC I hq;obtain ⟨f0,f1,f2,f3,f4,f5⟩:=hf it (by simp);have hl:=F.rel.length;rw [hl] at st;have hi':i < vs.length:=by rw [<- hl];exact hi
  obtain ⟨⟨kk,u⟩,hv⟩:∃ q,vs[i]?=some q:=⟨vs[i],oR hi'⟩;refine wpAny_pyNext_items_item st F.at_ hv fun key h' hk so ht hsz kp=>?_;obtain ⟨y,h3,ry⟩:=HH F.rel hv;refine ⟨_,rfl,wpAny_letOwnedTupleGo_items so fun h'' st'' sb=>?_⟩;have hTn:H s.heap.objs.size=none:=I.hok.fresh (mK _);have L:s.heap.objs.size≠it:=fun z=>absurd (Wt (show s.heap.get? it=some _ from st)) (by rw [z];exact YC _);have Y:Zs h'' s.heap.objs.size [key,u].toArray:=⟨_,(sb.2 _ L).trans ht,rfl,_,rfl⟩;refine ⟨.ref s.heap.objs.size,upd H s.heap.objs.size (.tup [kV kk,y]),I.turnedT (t':=s.toks) (ch:=[it]) (fun b J=>by rw [Ws.mp J];exact hf it (by simp)) (fun b o J e=>(sb.2 b (by simpa using J)).trans (kp b o (by simpa using J) e)) (mK _) (by show 2<=Wp;decide) (.cons (rM hk) (.cons ry .nil)) Y,rfl,
   ⟨s.heap.objs.size,kk,y,h3,hTn,rfl,rfl⟩,⟨key,u,by rw [hl];exact st''⟩,fun b J=>?_⟩
  have e:b=it:=by simpa using J
  rw [e,aP L.symm];exact f0
 done:=by
  intro X hP hw hK hc i af s Z H E I hf st hg;subst hP hw;obtain ⟨hq,hi⟩:=hg;obtain ⟨ok,ov,st⟩:=st;obtain ⟨z,hd,vs,F⟩:=qC I hq;obtain ⟨f0,f1,f2,f3,f4,f5⟩:=hf it (by simp);have hl:=F.rel.length;rw [hl] at st;exact wpAny_pyNext_items_end (I.ok.hd hc) st F.at_ (ZE (by omega)) fun h' eb=>⟨rfl,I.turned (t':=s.toks) (fun b o J e=>eb b o J e) f0 f1 f3 f4 f5⟩
 self:=fun _ _ _ _ _ st h=>let ⟨_,_,st⟩:=st;mQ st h
def cw.get {K:aT} {H:Hp}:∀ {ds:List (bD×D)} {xs:List (bD×V)} {i:Nat} {k:bD} {v:V},cw K H ds xs->xs[i]?=some (k,v)->∃ d,ds[i]?=some (k,d)/\di K H d v
 | [],_,i,k,v,h,e=>by cases h;simp at e
 | (k',d)::r,_,0,k,v,⟨v',vs,e,h1,h⟩,q=>by subst e;simp at q;obtain ⟨rfl,rfl⟩:=q;exact ⟨d,rfl,h1⟩
 | (k',d)::r,_,i+1,k,v,⟨v',vs,e,h1,h⟩,q=>by
  subst e;obtain ⟨d',J,I⟩:=cw.get (i:=i) h (by simpa using q);exact ⟨d',by simpa using J,I⟩
section
variable {X:Cx} {W:Wd} {O:acG} {l:W3} {tg:W3} {ε:FE} {apos cpos:Pos} {elts:List W3} {k:Nat} {tpos:Pos}
def K3 (d:D):R (acO):=match d with
 | .dcf kvs=>.ok (kvs.map fun q=>mS q.1)
 | _=>.no
def wU (ε:FE):FA:=fun U=>(ε U).bind K3
def ye (h:JE X l (tD W O ε)):JI X tg l (iD W O (wU ε)):=⟨fun af s Z H R I ⟨as0,B,own,U,DIh,q⟩=>by
 refine cU (h.out af s Z H (fun v H1=>∃ d,di W.K (aK (own++as0) H1) d v/\ju W as0 own H1 (K3 d) R) I ⟨as0,B,own,U,DIh,pT q fun d v H1 J d1 Y=>⟨d,d1,Y⟩⟩) fun u J ⟨x,H1,I1,rx,d,dv,Y⟩=>?_;cases d with
 | dcf ds =>
  obtain ⟨a,o,xs,rfl,h1,h2⟩:=dv;cases rx;have h1':=az _ _ _ _ h1;obtain ⟨z,hd,vs,F⟩:=qC I1 h1';have hl:=F.rel.length;refine wpAny_pyIter_dict hd F.at_ ?_;refine ⟨J.heap.objs.size,[J.heap.objs.size],_,_,H1,rfl,I1.kept (t':=J.toks) fun b o e=>lT _ e,DM J.heap.objs.size a o xs,⟨_,Wr _ rfl,rfl,by rw [hl];rfl⟩,fun b hb=>?_,Y _ H1 (aC.refl _) ?_⟩
  .have e:b=J.heap.objs.size:=by simpa using hb
   subst e;exact I1.fpOk (mK _) (I1.hok.fresh (mK _))
  .rw [lJ] at h1 h2;have ll:(ds.map fun q=>mS q.1).length=xs.length:=by rw [eQ];exact h2.len
   refine ⟨fun i H2 L hi=>⟨L _ _ h1,by rw [<- ll];exact hi⟩,fun i H2 v H3 M L _ hM hi hy=>?_,fun H2 L=>⟨L _ _ h1,ll⟩⟩;obtain ⟨rfl,k,y,e1,rfl⟩:=hy;obtain ⟨d,e2,_⟩:=h2.get e1;exact ⟨aC.refl _,mS k,by rw [W4,e2];rfl,uR k⟩
 | _=>exact Y.elim⟩
def AV {prog:Ww} {w:WU} {A:WN} {E:acJ} {s:gs} {d:ID} {Q:acJ} (I:s.TypeIs (.ref d) "dict") (hd:(d==Yo)=false)
  (hQ:Q (.ref s.heap.objs.size) { s with heap:=s.heap.push { cls:=.type "dict_items",data:=.fields #[.ref d] } }):Wv (Wx prog w) A (call (.builtin "dict.items") [.ref d]) Q E s:=by
 refine Xz F.slot_dict_items I F.entry_dict_items ?_ (F.args_dict_items_1 _);unfold Builtin.«dict.items»;refine bY ?_;unfold Builtin.Dict.noArgs;refine bY (wpAny_notOrdered_dict I ?_);refine bY (Zd (a:=()) (by first|rfl|(simp [Builtin.Dict.nameIsSure];rfl)) ?_);show Wv _ _ (pure (WW d) >>= _) _ _ s;refine bY (CT ?_);show Wv _ _ (pure d) _ _ s;refine CT ?_;unfold Builtin.Dict.showsAll;rw [acB (by rw [hd];exact iF)];refine bY (CT ?_);unfold newFields;refine bY (Xk ?_);exact CT ⟨_,rfl,hQ⟩
def E9 (d:D):R (acO):=match d with
 | .dcf kvs=>.ok (kvs.map fun q=>D.tup [mS q.1,q.2])
 | _=>.no
def xb (ε:FE):FA:=fun U=>(ε U).bind E9
def F6 (h:JE X l (tD W O ε)) (L:Xa l "items" X.env (eval l X.env)=eval l X.env:=by rfl) (Y:(apos.endLine==cpos.line)=true:=by rfl) :
  JI X (.Tuple elts k tpos) (.Call (.Attribute l "items" apos) [] [] cpos) (iD W O (xb ε)):=⟨fun af s Z H R I ⟨as0,B,own,U,DIh,q⟩=>by
 refine wpAny_Call_method0_late L Y (cU (h.out af s Z H (fun v H1=>∃ d,di W.K (aK (own++as0) H1) d v/\ju W as0 own H1 (E9 d) R) I ⟨as0,B,own,U,DIh,pT q fun d v H1 s1 d1 hq=>⟨d,d1,hq⟩⟩) fun u s1 ⟨x,H1,I1,rx,d,dv,hq⟩=>?_);cases d with
 | dcf ds =>
  obtain ⟨a,o,xs,rfl,h1,h2⟩:=dv;cases rx;have J:=az _ _ _ _ h1;obtain ⟨z,hd,vs,F⟩:=qC I1 J;have hl:=F.rel.length;obtain ⟨t1,t2,_⟩:=GY I1 (.inl ⟨xs,.inr ⟨o,J⟩⟩);refine ⟨"dict","dict.items",aaI,PySem.F.slot_dict_items,PySem.F.type_dict_items,t1,t2,Yk rfl (abD (AV t1 hd ?_))⟩;have I2:=I1.kept (t':=s1.toks) (h':=s1.heap.push { cls:=.type "dict_items",data:=.fields #[.ref a] }) fun b o e=>lT _ e;obtain ⟨z,hd,vs,F⟩:=qC I2 J;have hl:=F.rel.length;refine wpAny_pyIter_items ⟨_,Wr _ rfl,rfl,rfl⟩ F.at_ ?_;have hb0:∀ {b:ID},b=(s1.heap.push { cls:=.type "dict_items",data:=.fields #[.ref a] }).objs.size->iu X af H1 b:=fun {b} e=>by
   subst e;exact I2.fpOk (mK _) (I2.hok.fresh (mK _))
  refine ⟨_,[_],_,_,H1,rfl,I2.kept (t':=s1.toks) fun b o e=>lT _ e,Bx _ a o xs,⟨.none,.none,by rw [hl];exact Wr _ rfl⟩,fun b hb=>hb0 (by simpa using hb),hq _ H1 (aC.refl _) ?_⟩;rw [lJ] at h1 h2;have ll:(ds.map fun q=>D.tup [mS q.1,q.2]).length=xs.length:=by rw [eQ];exact h2.len
  refine ⟨fun i H2 s2 hi=>⟨s2 _ _ h1,by rw [<- ll];exact hi⟩,fun i H2 v H3 M s2 hM1 hM hi hy=>?_,fun H2 s2=>⟨s2 _ _ h1,ll⟩⟩;obtain ⟨p,k,y,e1,hp,rfl,rfl⟩:=hy;obtain ⟨d,e2,dd⟩:=h2.get e1;have hpM:p∉M:=fun z=>hM1 p z hp;refine ⟨aX hp _,.tup [mS k,d],by rw [W4,e2];rfl,p,[kV k,y],rfl,.inl (.inl (by rw [aW hpM];exact aS)),aM.cons (uR k) (aM.cons (dd.mono ((hJ s2 hM).trans (aV (aX hp _)))) aM.nil)⟩
 | _=>exact hq.elim⟩
end
def pF.look {K:aT} {H:Hp} {f:Str}:∀ {fs:List (Str×D)} {xs:List (Str×V)} {d:D},pF K H fs xs->fs.lookup f=some d->∃ v,xs.lookup f=some v/\di K H d v
 | [],_,_,h,e=>by cases e
 | (g,d')::r,_,d,⟨v,vs,e0,h1,h⟩,e=>by
  subst e0;rw [X3] at e ⊢;cases q:f==g with
  | true=>rw [q] at e;cases e;exact ⟨v,rfl,h1⟩
  | false=>rw [q] at e;exact pF.look h e
def tO (n f:Str) (d:D):R D:=match d with
 | .obj m fs=>if m=n then (match fs.lookup f with
  | some d=>.ok d
  | none=>.no) else .no
 | _=>.no
def fY (n f:Str) (φ:FE):FE:=fun U=>(φ U).bind (tO n f)
section
variable {X:Cx} {W:Wd} {O:acG} {e:W3} {es:List W3} {φ:FE} {α:FA} {pos p:Pos} {n f:Str} {C:ID}
def dq (K:aT) (hn:Xv K WJ n=some (some (.ref C))) (hc:Cls K C) (hf:gz K C f) (he:JE X e (tD W O φ)) (Y:Xa e f X.env (eval e X.env)=eval e X.env:=by rfl) (hK:X.K=K:=by rfl) (J:W.K=K:=by rfl) :
  JE X (.Attribute e f pos) (tD W O (fY n f φ)) :=
 JE.imp ⟨NV he.out Y⟩ fun Z H Q hh=>eG hh fun as0 B own U I h=>⟨as0,B,own,U,I,bU h fun x v H1 s1 d1 h1=>by
  subst hK;cases x with
  | obj m fs =>
   by_cases e:m=n
   .subst e;have h1:cK W (own++as0) H1 (tO m f (.obj m fs)) Q:=h1;unfold tO at h1;dsimp only at h1;rw [acA rfl] at h1;rw [J] at d1;obtain ⟨a,C',dx,xs,rfl,h2,h3,h4⟩:=d1;rw [hn] at h2;cases h2;cases e2:fs.lookup f with
    | none=>rw [e2] at h1;exact h1.elim
    | some d =>
     rw [e2] at h1;obtain ⟨v,q1,L⟩:=h4.look e2;exact ⟨a,C,dx,xs,v,rfl,az _ _ _ _ h3,hc,hf,q1,aR h1 (by rw [J];exact L)⟩
   .have h1:cK W (own++as0) H1 (tO n f (.obj m fs)) Q:=h1;unfold tO at h1;dsimp only at h1;rw [acB e] at h1;exact h1.elim
  | _=>exact h1.elim⟩
def FY (C:ID) (ns:acH):Sp:=fun vs H Q _=>∃ x dx us,vs=.ref x::us/\us.length=ns.length/\H x=some (.ins C dx [])/\Q .non (upd H x (.ins C dx (ns.zip us)))
def GQ (n:Str) (ns:acH) (ds:acO):R D:=if ds.length=ns.length then .ok (.obj n (ns.zip ds)) else .no
def Mq (n:Str) (ns:acH) (α:FA):FE:=fun U=>(α U).bind (GQ n ns)
def pF.zip {K:aT} {H:Hp}:∀ {ns:acH} {ds:acO} {vs:acN},aM K H ds vs->pF K H (ns.zip ds) (ns.zip vs)
 | [],_,_,h=>rfl
 | f::r,[],_,h=>by cases h;exact rfl
 | f::r,d::ds,_,⟨v,vs,e,h1,h2⟩=>by subst e;exact ⟨v,_,rfl,h1,pF.zip h2⟩
def wX {K:aT} {mg:acK} {g:ID} {fd:W2} {ps ns:acH} {j k:Nat} (hn:Xv K WJ n=some (some (.ref C))) (hm:X.mg n=some (.ref C)) (M:Mk K C g) (G:FnOk X.prog X.w X.K X.mg X.base cP j g fd ps (FY C ns)) (b:kq K fd ps []) (hr:Room k X.A)
  (ha:JA X (e::es) (xC ⟨K,mg,E0⟩ O α)) (hj:j+1<=k:=by decide) (hg:Gl X n:=by rfl) (hdb:(n==("__debug__":Str))=false:=by decide) (h1:ba e=true:=by rfl) (h2:es.all ba=true:=by rfl) (hK:X.K=K:=by rfl) :
  JE X (.Call (.Name n p) (e::es) [] pos) (tN ⟨K,mg,E0⟩ O (Mq n ns α)):=by
 subst hK;refine JE.imp ⟨Io (E:=E0) (dvs:=[]) (ds:=[]) M G (hr.mono hj) hg hm b .nil GJ ha.out hdb (c7 h1) (fU h2)⟩ fun Z H Q hh=>eG hh fun as0 B own U I h=>?_;refine ⟨as0,B,own,U,I,ic h fun ds vs H1 s1 d1 h1 x dx Y L hne=>?_⟩;unfold GQ at h1;split at h1
 .rename_i hl;rw [Xn];have sm:aC H1 (upd (upd H1 dx (.own x)) x (.ins C dx (ns.zip vs))):=fun c o e=>by
   rw [aP (bH e Y),aP (bH e L)];exact e
  refine ⟨x,dx,vs,rfl,by rw [<- d1.len];exact hl,aS,rfl,?_⟩;rw [x9];refine h1 x _ _ sm Y aS ⟨C,dx,_,rfl,hn,pF.zip (d1.mono fun c o e=>?_)⟩;by_cases J:c∈own++as0
  .rw [dJ J] at e;cases e
  .rw [aW J] at e;have n1:c≠x:=fun z=>by rw [z,Y] at e;cases e
   rw [aW (fun z=>(rW.mp z).elim n1 J)];exact sm c o e
 .exact h1.elim
end
abbrev K2:Type:=Int×acG
def y0 (x y:K2):Prop:=x.1 < y.1\/(x.1=y.1/\x.2 < y.2)
instance (x y:K2):Decidable (y0 x y):=by unfold y0;infer_instance
def HR:_root_.TS.TO y0:=_root_.TS.xT.lex _root_.TS.xL
def oT:dO->K2
 | .int i _=>(i,[])
 | .str z _=>(0,z.cps.toList)
 | _=>(0,[])
def qh (x y:Wq):Bool:=decide (y0 (oT x.1) (oT y.1))
def O0 (x:Wq):Prop:=∃ i t,x.1=.int i t
def Pn (x:Wq):Prop:=∃ z t,x.1=.str z t
section
variable {prog:Ww} {w:WU} {A:WN} {E:acJ} {s:gs}
def uq (x y:Wq) (h:qh x y=true):qh y x=false:=by
 have h:=acE h;exact acC fun g=>HR.irr _ (HR.tr _ _ _ h g)
def ue (x y z:Wq) (h:qh y x=false) (g:qh z y=false):qh z x=false:=by
 have h:=of_decide_eq_false h;have g:=of_decide_eq_false g;refine acC fun e=>?_;rcases HR.tri (oT y.1) (oT x.1) with q|q|q
 .exact h q
 .exact g (q ▸ e)
 .exact g (HR.tr _ _ _ e q)
def Ub:_root_.TS.Orc (Wx prog w) A E s qh oneType' O0:=by
 refine ⟨uq,ue,fun x y st Q hx hy hk L=>?_⟩;obtain ⟨i,t,I⟩:=hx;obtain ⟨j,u,J⟩:=hy;rw [lt'_eq];refine nE (Ze ?_);rw [hk];have Y:qh x y=decide (i < j):=by unfold qh;rw [I,J];simp [oT,y0,aah]
 rw [Y] at L;rw [I,J];refine nE (Zz (YI (show Wv (Wx prog w) A (oneLt' true (.int i t) (.int j u)) _ _ s from oneLt_int ?_)));exact ⟨rfl,tp L⟩
def TC:_root_.TS.Orc (Wx prog w) A E s qh oneType' Pn:=by
 refine ⟨uq,ue,fun x y st Q hx hy hk L=>?_⟩;obtain ⟨i,t,I⟩:=hx;obtain ⟨j,u,J⟩:=hy;rw [lt'_eq];refine nE (Ze ?_);rw [hk];have Y:qh x y=decide (i.cps.toList < j.cps.toList):=by unfold qh;rw [I,J];simp [oT,y0]
 rw [Y] at L;rw [I,J];refine nE (Zz (YI (show Wv (Wx prog w) A (oneLt' true (.str i t) (.str j u)) _ _ s from oneLt_str ?_)));exact ⟨rfl,tp L⟩
def nW:∀ {vs:acM} {x:dO×dO},x∈vs.zip vs->x.1=x.2/\x.1∈vs
 | [],_,h=>by simp at h
 | v::r,x,h=>by
  rw [Xl] at h;rcases rW.mp h with e|h
  .subst e;exact ⟨rfl,OR⟩
  .exact ⟨(nW h).1,iN _ (nW h).2⟩
def tQ:∀ (vs:acM),(vs.zip vs).map (·.2)=vs
 | []=>rfl
 | v::r=>by rw [Xl,lE,tQ r]
def zi {In:Wq->Prop} {a:ID} {vs:acM} {n:Nat} {P:Zj->gs->Prop} (ho:s.heap.get? a=some (Xb "list" vs.toArray n)) (hz:vs.length<=1000000)
  (O':∀ s',_root_.TS.Orc (Wx prog w) A E s' qh oneType' In) (hk:2<=vs.length->keyKind' vs.toArray=pure oneType') (hI:∀ v∈vs,In (v,v))
  (h:∀ out:acM,out.Perm vs->out.Pairwise (fun x y=>¬ y0 (oT y) (oT x))->P (.done (.ret .none)) { s with heap:=sortedHeap s.heap a vs out.toArray }) :
  Wv (Wx prog w) A (Builtin.«list.sort» ⟨[.ref a],[]⟩) P E s:=by
 obtain ⟨e1,Y⟩:∃ e1,(s.heap.update a (WQ fun _=>(#[]:Array dO))).get? a=some (Xb "list" #[] e1):=⟨_,Z0 ho fun _=>#[]⟩;have J:(((s.heap.update a (WQ fun _=>(#[]:Array dO))).push (Xb "tuple" vs.toArray 0)).push (Xb "list" #[] 0)).get? a=some (Xb "list" #[] e1):=lT _ (lT _ Y);have zl:(vs.toArray.zip vs.toArray).toList=vs.zip vs:=by simp
 have zs:(vs.toArray.zip vs.toArray).size=vs.length:=by rw [<- Le,zl,YU];omega
 unfold Builtin.«list.sort»;dsimp only;rw [acB (by decide),acB (by decide)];refine bY (CT ?_);show Wv _ _ (Builtin.List.listItems (.ref a) >>= _) _ _ _;refine bY (listItems_at ho rfl ?_);refine bY (Y1 ho rfl ?_ (by rw [By,W0];omega) (WB _));refine bY (seqEpoch_at Y rfl ?_);refine bY (wpAny_newTuple ?_ (by show vs.length<=_;rw [W0];omega));refine bY (wpAny_newList ?_ (WB _));refine Yt ?_;rw [acB (show ¬ ((Yf (WV "key") []).getD Xm != Xm)=true from iF),acB (show ¬ ((Yf (WV "key") []).getD Xm != Xm)=true from iF)];show Wv _ _ _ _ _ { s with heap:=((s.heap.update a (WQ fun _=>(#[]:Array dO))).push (Xb "tuple" vs.toArray 0)).push (Xb "list" #[] 0) };refine bY (CT ?_);rw [acB iF];have fin:∀ I:WZ,(DO I).Perm (vs.toArray.zip vs.toArray)->_root_.TS.SegG qh (DO I) 0 (vs.toArray.zip vs.toArray).size->P (.done (.ret .none)) { s with heap:=sortedHeap s.heap a vs (Array.map (fun x=>x.snd) (DO I)) }/\(Array.map (fun x=>x.snd) (DO I)).size<=Wp:=fun I hp hs=>by
  have L:(DO I).toList.Perm (vs.zip vs):=by rw [<- zl];exact Xq.mp hp
  have e:Array.map (fun x=>x.snd) (DO I)=((DO I).toList.map (·.2)).toArray:=by apply YJ.mp;rw [ZH]
  refine ⟨?_,?_⟩
  .rw [e];refine h _ (by rw [<- tQ vs];rw [tQ vs];exact (L.map _).trans (by rw [tQ])) ?_;rw [YY,Xj];intro i j hi hj hij;have qi:=(nW (L.mem_iff.mp (WM hi))).1;have qj:=(nW (L.mem_iff.mp (WM hj))).1;rw [Le] at hi hj
   have:=hs i j (WB _) (by omega) (by rw [<- hp.size_eq];exact hj)
   rw [_root_.TS.jI hi,_root_.TS.jI hj] at this;have h1:=of_decide_eq_false this;rw [<- qi,<- qj];simpa using h1
  .rw [Array.size_map,hp.size_eq,zs,W0];omega
 by_cases h2:vs.length < 2
 .have hn2:vs.toArray.size < 2:=by rw [By];omega
  rw [acA hn2];refine bY (CT ?_);rw [acA hn2];refine bY (CT ?_);rw [acB (show ¬ ((Yf (WV "key") []).getD Xm != Xm)=true from iF)];obtain ⟨q1,q2⟩:=fin (Yn general' (vs.toArray.zip vs.toArray) #[] 7 none) (ZV _) fun i j _ hij hj=>by
   have e:i=j:=by omega
   subst e;exact acC (HR.irr _)
  refine bY (seqEpoch_at J rfl ?_);refine bY (Y1 J rfl ?_ (WB _) (XU q2));dsimp only;simp only [bne_self_eq_false,Xu,if_false];exact CT q1
 .have hn2:¬ vs.toArray.size < 2:=by rw [By];omega
  rw [acB hn2];show Wv _ _ (keyKind' vs.toArray >>= _) _ _ _;rw [hk (by omega)];refine bY (CT ?_);rw [acB hn2];refine bY (W7 (_root_.TS.nh (O' _) (st:=Yn oneType' (vs.toArray.zip vs.toArray) #[] 7 none)
   (Q:=fun _ I=>(DO I).Perm (vs.toArray.zip vs.toArray)/\Xp I=none/\_root_.TS.SegG qh (DO I) 0 (vs.toArray.zip vs.toArray).size) rfl (fun x hx=>?_) rfl rfl (by show 2<=(vs.toArray.zip vs.toArray).size;omega) fun I a1 a2 a3=>⟨a1,a2,a3⟩) ?_ fun _ _ z=>z)
  .have hx:x∈(vs.toArray.zip vs.toArray).toList:=hx;rw [zl] at hx;obtain ⟨z1,z2⟩:=nW hx
   have:x=(x.1,x.1):=by obtain ⟨a,b⟩:=x;simp at z1;rw [z1]
   rw [this];exact hI _ z2
  rintro ⟨⟨⟩,I⟩ s' ⟨rfl,hp,hf,hs⟩;rw [acB (show ¬ ((Yf (WV "key") []).getD Xm != Xm)=true from iF)];obtain ⟨q1,q2⟩:=fin I hp hs;refine bY (seqEpoch_at J rfl ?_);refine bY (Y1 J rfl ?_ (WB _) (XU q2));dsimp only;simp only [bne_self_eq_false,Xu,if_false];split
  .rename_i e he;exact absurd (hf.symm.trans he) (by simp)
  .exact CT q1
end
def Va:D->Option (Bool×K2)
 | .int i=>some (true,(i,[]))
 | .str z=>some (false,(0,z.cps.toList))
 | _=>none
def A1 (b:Bool):acO->Option (List K2)
 | []=>some []
 | d::r=>match Va d with
  | some (c,k)=>if c=b then (A1 b r).map (k::·) else none
  | none=>none
def uf (b:Bool) (k:K2):D:=if b=true then .int k.1 else .str ⟨k.2.toArray⟩
def tB (x y:K2):Bool:=!decide (y0 y x)
def xK (xs:acO):R D:=if xs.length<=1000000 then (match A1 true xs with
 | some l=>.ok (.lst ((l.mergeSort tB).map (uf true)))
 | none=>(match A1 false xs with
  | some l=>.ok (.lst ((l.mergeSort tB).map (uf false)))
  | none=>.no)) else .no
def CM:D->Option (acO)
 | .lst xs=>some xs
 | .dcf kvs=>some (kvs.map fun q=>mS q.1)
 | _=>none
def tK (ds:acO):R D:=match ds with
 | [d]=>(match CM d with
  | some xs=>xK xs
  | none=>.no)
 | _=>.no
def Hs {K:aT} {H:Hp} {b:Bool}:∀ {ds:acO} {xs:acN} {us:acM} {l:List K2},aM K H ds xs->bf xs us->A1 b ds=some l->us.map oT=l/\(∀ v∈us,(if b=true then O0 (v,v) else Pn (v,v))/\bg (if b=true then .int (oT v).1 else .str ⟨(oT v).2.toArray⟩) v)
 | [],_,_,_,h,r,e=>by cases h;cases r;cases e;exact ⟨rfl,fun v I=>nomatch I⟩
 | d::ds,_,_,l,⟨v,vs,e0,h1,h2⟩,r,e=>by
  subst e0;cases r with
  | @cons _ u _ us r1 r2 =>
   unfold A1 at e;cases q:Va d with
   | none=>rw [q] at e;cases e
   | some p =>
    obtain ⟨c,k⟩:=p;rw [q] at e;dsimp only at e;split at e
    .rename_i hc;subst hc;cases q2:A1 c ds with
     | none=>rw [q2] at e;cases e
     | some Y =>
      rw [q2] at e;cases e;obtain ⟨J,L⟩:=Hs h2 r2 q2;have key:oT u=k/\(if c=true then O0 (u,u) else Pn (u,u))/\bg (if c=true then .int (oT u).1 else .str ⟨(oT u).2.toArray⟩) u:=by
       cases d with
       | int i=>cases q;cases h1;obtain ⟨t,rfl⟩:=r1;exact ⟨rfl,⟨i,t,rfl⟩,⟨t,rfl⟩⟩
       | str z=>cases q;cases h1;obtain ⟨t,rfl⟩:=r1;exact ⟨rfl,⟨z,t,rfl⟩,⟨t,by simp [oT]⟩⟩
       | _=>cases q
      refine ⟨by rw [lE,key.1,J],fun v I=>?_⟩;rcases rW.mp I with rfl|I
      .exact key.2
      .exact L v I
    .cases e
def D9 (a b c:K2) (h:tB a b=true) (g:tB b c=true):tB a c=true:=by
 have h:¬ y0 b a:=of_decide_eq_false (by simpa [tB] using h);have g:¬ y0 c b:=of_decide_eq_false (by simpa [tB] using g)
 have:¬ y0 c a:=fun e=>by
  rcases HR.tri b a with q|q|q
  .exact h q
  .exact g (q ▸ e)
  .exact g (HR.tr _ _ _ e q)
 simp [tB,this]
def Ey (a b:K2):(tB a b||tB b a)=true:=by
 by_cases h:y0 b a
 .have:¬ y0 a b:=fun g=>HR.irr _ (HR.tr _ _ _ h g)
  simp [tB,this]
 .simp [tB,h]
def Iy {us out:acM} (J:out.Perm us) (I:out.Pairwise (fun x y=>¬ y0 (oT y) (oT x))):out.map oT=(us.map oT).mergeSort tB:=by
 refine aax (le:=fun a b=>tB a b=true) (fun a b _ _ h g=>?_) ?_ (aaL D9 Ey _) ((J.map _).trans (YF _ _).symm)
 .have h:¬ y0 b a:=of_decide_eq_false (by simpa [tB] using h);have g:¬ y0 a b:=of_decide_eq_false (by simpa [tB] using g);rcases HR.tri a b with q|q|q
  .exact absurd q g
  .exact q
  .exact absurd q h
 .rw [YY];exact I.imp fun h=>by simp [tB,h]
def KL {b:Bool} {vs:acM} (h:∀ v∈vs,if b=true then O0 (v,v) else Pn (v,v)) (h2:2<=vs.length):keyKind' vs.toArray=pure oneType':=by
 match vs,h2 with
 | v1::v2::r,_ =>
  cases b with
  | true =>
   have:∀ {l:acM},(∀ v∈l,O0 (v,v))->∃ ns,IntsAre l ns:=fun {l}=>by
    induction l with
    | nil=>exact fun _=>⟨[],.nil⟩
    | cons v r J=>intro h;obtain ⟨ns,q⟩:=J fun x I=>h x (iN _ I);obtain ⟨i,t,e⟩:=h v OR;exact ⟨i::ns,by rw [show v=.int i t from e];exact .cons i t q⟩
   obtain ⟨ns,q⟩:=this h;exact keyKind_ints q
  | false =>
   have:∀ {l:acM},(∀ v∈l,Pn (v,v))->∃ ns,StrsAre l ns:=fun {l}=>by
    induction l with
    | nil=>exact fun _=>⟨[],.nil⟩
    | cons v r J=>intro h;obtain ⟨ns,q⟩:=J fun x I=>h x (iN _ I);obtain ⟨i,t,e⟩:=h v OR;exact ⟨i::ns,by rw [show v=.str i t from e];exact .cons i t q⟩
   obtain ⟨ns,q⟩:=this h;exact keyKind_strs q
def CD {b:Bool}:∀ {out:acM},(∀ v∈out,bg (if b=true then .int (oT v).1 else .str ⟨(oT v).2.toArray⟩) v)->bf (out.map fun v=>if b=true then V.int (oT v).1 else .str ⟨(oT v).2.toArray⟩) out
 | [],_=>.nil
 | v::r,h=>.cons (h v OR) (CD fun x I=>h x (iN _ I))
def B4 {K:aT} {H:Hp} {b:Bool}:∀ (out:acM),aM K H ((out.map oT).map (uf b)) (out.map fun v=>if b=true then V.int (oT v).1 else .str ⟨(oT v).2.toArray⟩)
 | []=>rfl
 | v::r=>⟨_,_,rfl,by unfold uf;cases b <;> exact rfl,B4 r⟩
section
variable {X:Cx} {af:acI} {Z:St} {H:Hp} {s:gs} {Q:VK} {W:Wd} {O:acG}
def uZ {E:acJ} {b:Bool} {us:acM} {xs:acN} {ds:acO} {l:List K2} (I:Inv X af Z H s) (r:bf xs us) (dn:aM X.K H ds xs) (hl:A1 b ds=some l) (hz:ds.length<=1000000) (hok:∀ p L,H p=none->aM X.K (fun _=>none) ((l.mergeSort tB).map (uf b)) L->Q (.ref p) (upd H p (.lst L))) :
  Wv (Wx X.prog X.w) X.A.in1 (newList us >>= fun l=>holding [l] (call (.builtin "list.sort") [l]) >>= fun _=>ret l) (fun fin s'=>∃ v,fin=acy (acz v)/\EP X af Z Q v s') E s:=by
 have hlu:ds.length=us.length:=dn.len.trans r.length;obtain ⟨a1,a2⟩:=Hs dn r hl;refine bY (wpAny_newList ?_ (by rw [W0];omega));have ho:(s.heap.push (Xb "list" us.toArray 0)).get? s.heap.objs.size=some (Xb "list" us.toArray 0):=Wr _ rfl;refine bY (Yt (Xz slot_list_sort ⟨_,ho,rfl⟩ entry_list_sort ?_ (PySem.F.args_list_sort_1 _)));have fin:∀ out:acM,out.Perm us->out.Pairwise (fun x y=>¬ y0 (oT y) (oT x))->∃ v,acy (acz Xm)=acy (acz v) /\
   Wv (Wx X.prog X.w) X.A.in1 (ret (WW s.heap.objs.size)) (fun fin s'=>∃ v,fin=acy (acz v)/\EP X af Z Q v s') E { s with heap:=sortedHeap (s.heap.push (Xb "list" us.toArray 0)) s.heap.objs.size us out.toArray }:=fun out hp hs=>by
  refine ⟨_,rfl,CT ⟨_,rfl,?_⟩⟩;have Y:∀ v∈out,bg (if b=true then .int (oT v).1 else .str ⟨(oT v).2.toArray⟩) v:=fun v J=>(a2 v (hp.mem_iff.mp J)).2;have rv:=CD Y;refine ⟨.ref s.heap.objs.size,upd H s.heap.objs.size (.lst (out.map fun v=>if b=true then V.int (oT v).1 else .str ⟨(oT v).2.toArray⟩)),I.laid (t':=s.toks) (fun c o q=>?_) (mK _) ?_,rfl,hok _ _ (I.hok.fresh (mK _)) ?_⟩
  .have hlt:c < s.heap.objs.size:=Wt q;unfold sortedHeap;rw [Zb _ _ _ _ (WK hlt)];refine lT _ (lT _ ?_);rw [Zb _ _ _ _ (WK hlt)];exact lT _ q
  .obtain ⟨e1,g1⟩:∃ e1,((s.heap.push (Xb "list" us.toArray 0)).update s.heap.objs.size (WQ fun _=>(#[]:Array dO))).get? s.heap.objs.size=some (Xb "list" #[] e1):=⟨_,Z0 ho fun _=>#[]⟩;have g2:=Z0 (lT (Xb "list" #[] 0) (lT (Xb "tuple" us.toArray 0) g1)) fun _=>out.toArray;exact ⟨by rw [eQ,hp.length_eq,W0];omega,out,_,rv,g2⟩
  .have e:(l.mergeSort tB)=out.map oT:=by rw [<- a1];exact (Iy hp hs).symm
   rw [e];exact B4 out
 cases b with
 | true=>exact zi (s:={ s with heap:=s.heap.push (Xb "list" us.toArray 0) }) ho (by omega) (fun _=>Ub) (KL (b:=true) fun v J=>(a2 v J).1) (fun v J=>(a2 v J).1) fin
 | false=>exact zi (s:={ s with heap:=s.heap.push (Xb "list" us.toArray 0) }) ho (by omega) (fun _=>TC) (KL (b:=false) fun v J=>(a2 v J).1) (fun v J=>(a2 v J).1) fin
end
section
variable {X:Cx} {W:Wd} {O:acG} {e:W3} {es:List W3} {φ:FE} {α:FA} {pos p p1 p2:Pos} {x:Str}
def Jc (kvs:List (bD×V)):acN:=kvs.map fun q=>kV q.1
def Ol (K:aT) (xs:acN) (H:Hp) (Q:VK):Prop:=∃ a ds ys b l,xs=[.ref a]/\(gp K H a ys\/∃ o kvs,H a=some (.frz o (.dK kvs))/\ys=Jc kvs)/\aM K H ds ys/\A1 b ds=some l/\ds.length<=1000000 /\
 ∀ q I,H q=none->aM K (fun _=>none) ((l.mergeSort tB).map (uf b)) I->Q (.ref q) (upd H q (.lst I))
def vV {P:Ww} {w:WU} {xs:List (bD×V)} {vs:List (bD×dO)} (r:KV xs vs) {acc:acM} (I:acc.length=vs.length) (h:∀ (j:Nat) (v:dO),acc[j]?=some v->∃ (k:bD) (x:dO),vs[j]?=some (k,x)/\sN k v=true):bf (Jc xs) acc:=by
 unfold KV at r;induction r generalizing acc with
 | nil=>cases acc with
  | nil=>exact .nil
  | cons _ _=>simp at I
 | @cons p q ps qs hq t ih =>
  cases acc with
  | nil=>simp at I
  | cons v acc =>
   obtain ⟨k,x,J,e2⟩:=h 0 v rfl;simp at J;subst J;refine .cons (show bg (kV p.1) v by rw [hq.1];exact rM e2) (ih (by simpa using I) fun j u hj=>?_);obtain ⟨k',x',Y,L⟩:=h (j+1) u (by simpa using hj);exact ⟨k',x',by simpa using Y,L⟩
def xc (K:aT) (hc:X.calm=true) (hK:X.K=K:=by rfl):cj X (.builtin "sorted") (Ol K):=by
 subst hK;intro af s Z H xs us Q I r h;obtain ⟨a,ds,ys,b,l,rfl,src,dn,hl,hz,L⟩:=h;obtain ⟨u,rfl,ru⟩:=jA r;cases ru;refine PySem.Calls.call_function_entry kind_sorted plain_sorted entry_sorted (args_sorted1 _) ?_;unfold Builtin.«sorted»;refine bY (m:=checkCount "sorted" 1 1 _) (CT ?_);rcases src with hS|⟨o,kvs,hD,rfl⟩
 .obtain ⟨its,ri,hp,_⟩:=I.list hS;refine bY (collect_list hp.isList ?_ (by rw [<- ri.length,<- dn.len,W0];omega));have keep:∀ c o,s.heap.get? c=some o->((s.heap.push (Xb "list" #[] 0)).update s.heap.objs.size (WQ (·++its.toArray))).get? c=some o:=fun c o q=>by
   have hlt:c < s.heap.objs.size:=Wt q;rw [Zb _ _ _ _ (WK hlt),aay _ _ _ (WK hlt)];exact q
  have I1:=I.kept (t':=s.toks) keep (by walk_at "tok");exact uZ (b:=b) I1 ri dn hl hz L
 .obtain ⟨z,hd,vs,F⟩:=qC I hD;have Y:=F.rel.length;refine bY (bo I.tk (PySem.W.kdu_collect (aci (knd:=b6 X.prog X.w) (kvs:=vs) (ep:=Iu o) hd) (I.ok.hd hc) F.at_ (by rw [<- Y];exact z) fun h' tk acc kp J htk=>?_));have I1:=I.kept (t':=tk) (h':=h') kp htk;exact uZ (b:=b) I1 (vV (P:=X.prog) (w:=X.w) F.rel (by rw [Le];exact J.1) fun j v hj=>J.2 j v (by rw [<- Xf];exact hj)) dn hl hz L
def rD {K:aT} {H:Hp}:∀ {ds:List (bD×D)} {kvs:List (bD×V)},cw K H ds kvs->aM K H (ds.map fun q=>mS q.1) (Jc kvs)
 | [],_,h=>by cases h;exact rfl
 | (k,d)::r,_,⟨v,vs,e,_,h⟩=>by subst e;exact ⟨kV k,_,rfl,uR k,rD h⟩
def zL {K:aT} {H:Hp} {d:D} {v:V} {xs:acO} (h:di K H d v) (e:CM d=some xs):∃ a ys,v=.ref a/\(gp K H a ys\/∃ o kvs,H a=some (.frz o (.dK kvs))/\ys=Jc kvs)/\aM K H xs ys:=by
 cases d with
 | lst ds=>cases e;obtain ⟨a,ys,rfl,h1,h2⟩:=h;exact ⟨a,ys,rfl,.inl h1,h2⟩
 | dcf ds =>
  cases e;obtain ⟨a,o,kvs,rfl,h1,h2⟩:=h;exact ⟨a,Jc kvs,rfl,.inr ⟨o,kvs,h1,rfl⟩,rD h2⟩
 | _=>cases e
def Uf (K:aT) (hW:W.K=K:=by rfl):yR W (Ol K) tK:=by
 subst hW;intro as H xs ds Q hn dv h;unfold tK at h;split at h
 .obtain ⟨v,rfl,d1⟩:=gq dv;split at h
  .rename_i d zs e;obtain ⟨a,ys,rfl,L,dn⟩:=zL d1 e;have J:gp W.K H a ys\/∃ o kvs,H a=some (.frz o (.dK kvs))/\ys=Jc kvs:=by
    rcases L with q|⟨o,kvs,q,r⟩
    .exact .inl ((az _ _).seq q)
    .exact .inr ⟨o,kvs,az _ _ _ _ q,r⟩
   unfold xK at h;split at h
   .rename_i hz;have fin:∀ (b:Bool) (l:List K2),gt W as H (.ok (.lst ((l.mergeSort tB).map (uf b)))) Q->∀ q I,H q=none->aM W.K (fun _=>none) ((l.mergeSort tB).map (uf b)) I->Q (.ref q) (upd H q (.lst I)):=fun b l h q I Y hd =>
     h q _ _ (aX Y _) Y aS ⟨I,rfl,hd.mono fun b o z=>by cases z⟩
    split at h
    .rename_i l hl;exact ⟨a,zs,ys,true,l,rfl,J,dn.mono (az _ _),hl,hz,fin true l h⟩
    .split at h
     .rename_i l hl;exact ⟨a,zs,ys,false,l,rfl,J,dn.mono (az _ _),hl,hz,fin false l h⟩
     .exact h.elim
   .exact h.elim
  .exact h.elim
 .exact h.elim
def lF (K:aT) (hc:X.calm=true) (Y:X.mg "sorted"=none) (J:JE X e (tD W O φ)) (hg:Gl X "sorted":=by rfl) (h1:ba e=true:=by rfl) (hK:X.K=K:=by rfl) (L:W.K=K:=by rfl) :
  JE X (.Call (.Name "sorted" p) [e] [] pos) (tN W O (ao tK (ae φ ap))) :=
 (xh (xc K hc hK) Y (by with_unfolding_all rfl) (aa J ak (hn:=h1)) hg h1 rfl).imp fun Z H Q hh=>eG hh fun as0 B own U I h=>⟨as0,B,own,U,I,ic h fun ds xs H1 s1 d1 h1=>Uf K L (own++as0) H1 xs ds Q (I.mono s1).exi d1 h1⟩
def KO (xs:acN) (H:Hp) (Q:VK):Prop:=∃ a o kvs,xs=[.ref a]/\H a=some (.frz o (.dK kvs))/\∀ l,H l=none->Q (.ref l) (upd H l (.lst (Jc kvs)))
def pR (hc:X.calm=true):cj X (.type "list") KO:=by
 intro af s Z H xs us Q I r h;obtain ⟨a,o,kvs,rfl,hD,hok⟩:=h;obtain ⟨u,rfl,ru⟩:=jA r;cases ru;obtain ⟨z,hd,vs,F⟩:=qC I hD;have L:=F.rel.length;refine bo I.tk (PySem.W.kdl_call (aci (knd:=b6 X.prog X.w) (kvs:=vs) (ep:=Iu o) hd) (I.ok.hd hc) F.at_ (by rw [<- L];exact z) fun h' tk acc c kp hg J Y=>?_);have rv:=vV (P:=X.prog) (w:=X.w) F.rel (acc:=acc.toList) (by rw [Le];exact J.1) fun j v hj=>J.2 j v (by rw [<- Xf];exact hj);exact ⟨.ref s.heap.objs.size,_,I.laid (t':=tk) kp (mK _) (show bX X.prog X.w _ h' _ (.lst (Jc kvs)) from ⟨by unfold Jc;rw [eQ];exact z,acc.toList,c,rv,by simpa using hg⟩) Y,rfl,hok _ (I.hok.fresh (mK _))⟩
def vp (ds:acO):R D:=match ds with
 | [.dcf kvs]=>.ok (.lst (kvs.map fun q=>mS q.1))
 | _=>.no
def Gz:yR W KO vp:=by
 intro as H xs ds Q hn J h;unfold vp at h;split at h
 .obtain ⟨v,rfl,d1⟩:=gq J;obtain ⟨a,o,kvs,rfl,h1,h2⟩:=d1;exact ⟨a,o,kvs,rfl,az _ _ _ _ h1,fun l I=>h l _ _ (aX I _) I aS ⟨_,rfl,(rD h2).mono (jC I (aX I _))⟩⟩
 .exact h.elim
structure IsC (K:aT) (C:ID):Prop where
 cl:Cls K C
 ha:Xx K (.ref C) "__class__"=some (some (.builtin "object.__class__"))
 hn:abW K (.builtin "object.__class__") "__get__"=some (some (.builtin "getset_descriptor.__get__"))
 htk:acm K (.builtin "object.__class__")=some true
 hm:PySem.W.mroIn K C (.type "object")=some true
 k:abx K (.ref C) (.ref C)=some true
def Oh (C:ID) (xs:acN) (H:Hp) (Q:VK):Prop:=∃ a dx fs,xs=[.ref a,.ref C]/\H a=some (.ins C dx fs)/\Q (.bl true) H
def Uu {K:aT} {C:ID} (c:IsC K C) (Y:X.K=K:=by rfl):cj X (.builtin "isinstance") (Oh C):=by
 subst Y;intro af s Z H xs us Q I r h;obtain ⟨a,dx,fs,rfl,J,q⟩:=h;obtain ⟨u,v,rfl,L,r2⟩:=Ku r;cases L;cases r2;exact bo I.tk (jk (x:=.ref a) I rfl (.ins J c.cl c.ha c.hn c.htk c.hm) c.k fun tk htk=>⟨.bl true,H,I.tok tk,rfl,q⟩)
def Jo (n:Str) (ds:acO):R D:=match ds with
 | [.obj m _,.cls k]=>if m=n/\k=n then .ok (.bl true) else .no
 | _=>.no
def UW {n:Str} {C:ID} (hn:Xv W.K WJ n=some (some (.ref C))):sJ W (Oh C) (Jo n):=by
 intro as H xs ds Q hx Y h;unfold Jo at h;split at h
 .obtain ⟨v,u,rfl,d1,d2⟩:=La Y;split at h
  .rename_i e;obtain ⟨rfl,rfl⟩:=e;obtain ⟨a,C1,dx,xs,rfl,J,L,q3⟩:=d1;obtain ⟨C2,rfl,I⟩:=d2;rw [hn] at J I;cases J;cases I;exact ⟨a,dx,xs,rfl,az _ _ _ _ L,aR h rfl⟩
  .exact h.elim
 .exact h.elim
end
section
variable {X:Cx} {W:Wd} {O:acG} {o e:W3} {φ ψ:FE} {apos cpos:Pos}
def ir (x:V):acN->Option Nat
 | []=>none
 | y::r=>if Bs y x then some 0 else (ir x r).map (·+1)
def wS {x:V}:∀ {xs:acN} {us:acM} {j:Nat},bf xs us->xs.all fB=true->ir x xs=some j->∃ h:j < us.length,Ay x us[j]=true/\∀ m (I:m < us.length),m < j->Ay x us[m]=false
 | _,_,_,.nil,_,e=>by cases e
 | y::xs,u::us,j,.cons r t,f,e=>by
  rw [XI,W5] at f;unfold ir at e;have J:=uy (x:=x) r f.1;by_cases h:Bs y x=true
  .rw [acA h] at e;cases e;exact ⟨Nat.succ_pos _,J.trans h,fun m I z=>absurd z (Zi _)⟩
  .rw [acB h] at e;cases q:ir x xs with
   | none=>rw [q] at e;cases e
   | some i =>
    rw [q] at e;cases e;obtain ⟨h1,h2,L⟩:=wS t f.2 q;refine ⟨Nat.succ_lt_succ h1,h2,fun m I z=>?_⟩;cases m with
    | zero=>exact J.trans (Bool.eq_false_iff.mpr h)
    | succ m=>exact L m (Zq I) (Zq z)
def TH (K:aT):V->acN->Hp->VK->Prop:=fun x vs H Q=>∃ p xs y j,x=.ref p/\vs=[y]/\gp K H p xs/\fB y=true/\xs.all fB=true/\ir y xs=some j/\Q (.int (j:Nat)) H
def Gv (K:aT) (hK:X.K=K:=by rfl):Od X "list.index" (TH K):=by
 subst hK;intro af s Z H x vs v us Q I rx Y h;obtain ⟨p,xs,y,j,rfl,rfl,hl,fy,fs,hj,q⟩:=h;cases rx;obtain ⟨u,rfl,ru⟩:=jA Y;obtain ⟨its,r,⟨ob,n,e,hc,hd,hs⟩,hz⟩:=I.list hl;obtain ⟨c,dd,da,sl⟩:=ob;cases hc;cases hd;cases hs;obtain ⟨h1,h2,h3⟩:=wS r fs hj;have L:j < Wp:=WE h1 (by rw [<- r.length];exact hz);have J:(j:Int) < 2 ^ 63 - 1:=by
  rw [W0] at L;omega
 exact aaA aaN ⟨_,e,rfl⟩ PySem.F.entry_list_index (PySem.F.args_list_index_2 _ _) (SeqAt.list_indexAt p its.toArray n _ _ u (Ay y) j (by simpa using h1) J (by simpa using h2) (fun m J z=>by simpa using h3 m (by simpa using J) z))
  ⟨e,fun w hw=>mY ru fy r fs w (by simpa using hw),.int _,H,I.tok _,⟨_,rfl⟩,q⟩
def JR (a b:D):R D:=match a with
 | .lst ds=>(match fh b,cX ds with
  | some v,some vs=>(match ir v vs with
   | some j=>.ok (.int (j:Nat))
   | none=>.no)
  | _,_=>.no)
 | _=>.no
def JL (φ ψ:FE):FE:=fun U=>(φ U).bind fun x=>match x with
 | .lst ds=>(ψ U).bind fun y=>JR (.lst ds) y
 | _=>.no
def GZ (K:aT) (ho:JE X o (tD W O φ)) (ha:JE X e (tD W O ψ)) (hK:X.K=K:=by rfl) (hW:W.K=K:=by rfl) (J:Xa o "index" X.env (eval o X.env)=eval o X.env:=by rfl) (L:(apos.endLine==cpos.line)=true:=by rfl) (hn:ba e=true:=by rfl) :
  JE X (.Call (.Attribute o "index" apos) [e] [] cpos) (tD W O (JL φ ψ)) :=
 (JK YE aaN PySem.F.type_list_index (Gv K hK) ho (oB ha rS hn) J L (by rw [XI,hn];rfl) (by show 1 < 29;decide)).imp fun Z H Q hh=>eG hh fun as0 B own U I h=>⟨as0,B,own,U,I,bU h fun x v H1 s1 d1 h1=>by
  subst hK;cases x with
  | lst ds =>
   obtain ⟨p,xs,rfl,q1,q2⟩:=d1;have Y:gp X.K H1 p xs:=by rw [<- hW];exact (az _ _).seq q1
   refine ⟨.inl ⟨rfl,xs,Y⟩,?_⟩;refine ⟨as0,B,own,U,I.mono s1,bU h1 fun y u H2 s2 d2 h2=>?_⟩;unfold JR at h2;dsimp only at h2;cases e1:fh y with
   | none=>rw [e1] at h2;exact h2.elim
   | some v =>
    rw [e1] at h2;cases e2:cX ds with
    | none=>rw [e2] at h2;exact h2.elim
    | some ws =>
     rw [e2] at h2;dsimp only at h2;cases e3:ir v ws with
     | none=>rw [e3] at h2;exact h2.elim
     | some j =>
      rw [e3] at h2
      have:=fv d2 e1
      subst this;obtain ⟨h3,h4⟩:=ml q2 e2;subst h3;exact ⟨p,xs,u,j,rfl,rfl,s2.seq Y,pE e1,h4,e3,aR h2 rfl⟩
  | _=>exact h1.elim⟩
end
section
variable {X:Cx} {W:Wd} {Ob O:acG} {e:W3} {φ ε:FE} {pos p1 apos cpos:Pos} {x:Str}
def qU (i:Nat) (f:FG):FS:=fun U=>match U[i]? with
 | some (some (.lst xs))=>(match xs[xs.length - 1]? with
  | some d=>(match f d (U.set i (some (.lst xs.dropLast))) with
   | .ok δ'=>.ok (.nx δ')
   | _=>.no)
  | none=>.no)
 | _=>.no
def Ds {t:W3} {f:FG} {i:Nat} (hi:i∈O) (hg:JG X t (gF W O f)) (hN:X.N[i]?=some x:=by rfl) (L:(apos.endLine==cpos.line)=true:=by rfl) (hv:yH X.env.scope x:=by walk_at"v") (hd:acP x:=by decide)
  (hcd:(x==("__classdict__":Str))=false:=by decide) (J:Xa (.Name x p1) "pop" X.env (eval (.Name x p1) X.env)=eval (.Name x p1) X.env:=by rfl)
  (hs:swapsWithSole [t] (.Call (.Attribute (.Name x p1) "pop" apos) [] [] cpos) pos.line X.env=pure false:=by rfl) (hw:swappedStores [t] (.Call (.Attribute (.Name x p1) "pop" apos) [] [] cpos) X.env=pure none:=by rfl)
  (h1:(XR [t] X.env).map (·.2)=[assign t X.env]:=by rfl) (hW:W.K=X.K:=by rfl):JS X (.Assign [t] (.Call (.Attribute (.Name x p1) "pop" apos) [] [] cpos) pos) (sD W Ob O O (qU i f)) :=
 (GX (Sr YE PySem.F.slot_list_pop PySem.F.type_list_pop MX (jv i hN hv hd hcd) J L) hg hs hw h1).imp fun D Z H hh=>eG hh fun as0 B own U I h=>by
  obtain ⟨a,Y⟩:=cJ I.olen hi;obtain ⟨d,o,h1,h2,h3,h4⟩:=I.owns i a Y;show rV Z[i]? H (fun x H1=>N7 X.K "list" x H1/\Pp x [] H1 fun v H2=>gF W O f v Z H2 D.nx);rw [h2];unfold qU at h;rw [h1] at h;cases d with
  | lst ds =>
   obtain ⟨xs,rfl,q⟩:=h4;dsimp only at h;cases e:ds[ds.length - 1]? with
   | none=>rw [e] at h;exact h.elim
   | some y =>
    rw [e] at h;dsimp only at h;obtain ⟨v,ev,dv⟩:=q.get e;rw [q.len] at ev;have hm:a∈own++as0:=WX _ (WO Y).2;have I2:=I.mutate (o':=.lst xs.dropLast) (d':=.lst ds.dropLast) Y ⟨_,rfl,q.dropLast⟩;refine ⟨.inl ⟨rfl,xs,gp.of h3⟩,a,xs,v,rfl,rfl,h3,ev,as0,B,own,_,y,I2,by rw [u7 hm];exact dv,?_⟩;cases e1:f y (U.set i (some (.lst ds.dropLast))) with
    | ok δ'=>rw [e1] at h;exact fun σ' H2 _ I2=>h own σ' H2 I2
    | er y=>rw [e1] at h;exact h.elim
    | no=>rw [e1] at h;exact h.elim
  | _=>exact h.elim
end
def GL:entryFor table "reversed.__iter__"=some Builtin.«dict_keyiterator.__iter__»:=entryFor_alias (id':="dict_keyiterator.__iter__") (by kernel_rfl) (by kernel_rfl) (by kernel_rfl) (by kernel_rfl)
def zF:entryFor table "reversed.__next__"=some Builtin.«reversed.__next__»:=entryFor_of_tree (by kernel_rfl)
def B6:Slot "reversed" (WV "__iter__") "reversed.__iter__":=Slot.of (owner:="reversed") (n:="__iter__") (by rw [Z1,YW];kernel_rfl) (by kernel_rfl) (by kernel_rfl) (by kernel_rfl) (.inl (by kernel_rfl)) (by rw [aal];kernel_rfl) (by kernel_rfl)
def qf:Slot "reversed" (WV "__next__") "reversed.__next__":=Slot.of (owner:="reversed") (n:="__next__") (by rw [Z1,YW];kernel_rfl) (by kernel_rfl) (by kernel_rfl) (by kernel_rfl) (.inl (by kernel_rfl)) (by rw [aal];kernel_rfl) (by kernel_rfl)
def Bf:Slot "reversed" (WV "__init__") "object.__init__":=Slot.of (owner:="object") (n:="__init__") (by rw [Z1,YW];kernel_rfl) (by kernel_rfl) (by kernel_rfl) (by kernel_rfl) (.inl (by kernel_rfl)) (by rw [aal];kernel_rfl) (by kernel_rfl)
def BF:TypeCalled "reversed" "reversed.__new__" "object.__init__":=⟨by kernel_rfl,by kernel_rfl,⟨_,_,F.mro_reversed⟩,F.made_reversed,F.plain_reversed_new,F.sub_reversed_self,Bf⟩
def Nc:typeLookup (.type "tuple") (WV "__reversed__")=pure none:=by rw [Z1,YW];kernel_rfl
def IW (a:dO):argsOk "reversed.__iter__" { pos:=[a] }:=by unfold argsOk;kernel_rfl
def Cw (a:dO):argsOk "reversed.__next__" { pos:=[a] }:=by unfold argsOk;kernel_rfl
def GM (a:ID) (i:Int):Obj:={ cls:=.type "reversed",data:=.fields #[.ref a,abj i] }
def DX (a:ID) (its:Array dO):Meets (Builtin.«reversed.__new__» ⟨[.type "reversed",.ref a],[]⟩) (fun _ R s=>Zs s.heap a its/\its.size<=Wp/\∀ tk,R (.ok (.ret (.ref s.heap.objs.size))) { s with heap:=s.heap.push (GM a ((its.size:Int) - 1)),toks:=tk }) :=
 .of_wp fun prog w A R s h=>by
  obtain ⟨J,hz,h⟩:=h;have ty:s.TypeIs (.ref a) "tuple":=by obtain ⟨o,e,c,_⟩:=id J;exact ⟨o,e,c⟩
  unfold Builtin.«reversed.__new__»;rw [newClass_reversed];refine bY (CT ?_);dsimp only;refine bY (Zd (a:=()) rfl ?_);refine bY (m:=checkCount "reversed" 1 1 _) (CT ?_);refine bY ?_;unfold specialOf;refine bY (ZF ty ?_);rw [Nc];refine CT ?_;dsimp only;refine bY (bY (wpAny_isInstance (b:=false) ty (by rw [aal];kernel_rfl) ?_));rw [acB iF];refine bY ?_;unfold specialOf;refine bY (ZF ty ?_);rw [F.slot_tuple_getitem.lookup];refine CT ?_;dsimp only;rw [acA (by trivial)];refine CT ?_;rw [acB (by decide)];have I:((its.size:Nat):Int) < 2 ^ 63:=by rw [W0] at hz;omega
  refine bY (len_tuple J I ?_);refine bY (CT ?_);dsimp only;show Wv _ _ (newObj (.type "reversed") (.fields #[.ref a,abj ((its.size:Int) - 1)]) >>= _) _ _ _;refine bY (Xk ?_);exact CT ⟨_,rfl,h _⟩
def FJ {prog:Ww} {w:WU} {A:WN} {E:acJ} {s:gs} {a:ID} {its:Array dO} {Q:acJ} (J:Zs s.heap a its) (hz:its.size<=Wp)
  (h:∀ tk,Q (.ref s.heap.objs.size) { s with heap:=s.heap.push (GM a ((its.size:Int) - 1)),toks:=tk }):Wv (Wx prog w) A (call (.type "reversed") [.ref a]) Q E s :=
 callType_new BF (by decide) (F.typeCall_reversed_1 _) (F.newCall_reversed_1 _) (fun I=>F.args_object_init_2 I _) F.entry_reversed_new (DX a its) ⟨J,hz,fun tk=>⟨⟨_,Wr _ rfl,rfl⟩,h tk⟩⟩
def jq (h:Yy) (it a:ID) (i:Int):Prop:=∃ o,h.get? it=some o/\o.cls=.type "reversed"/\o.data=.fields #[.ref a,abj i]
def jq.ty {s:gs} {it a:ID} {i:Int} (h:jq s.heap it a i):s.TypeIs (.ref it) "reversed":=let ⟨o,e,c,_⟩:=h;⟨o,e,c⟩
def zh {prog:Ww} {w:WU} {A:WN} {E:acJ} {s:gs} {it a:ID} {i:Int} {Q:acJ} (st:jq s.heap it a i) (hQ:Q (.ref it) s):Wv (Wx prog w) A (acs (.ref it)) Q E s:=by
 refine wpAny_pyIter_slot st.ty B6 (Xz B6 st.ty GL ?_ (IW _));unfold Builtin.«dict_keyiterator.__iter__»;refine bY (Zd (a:=(WW it,[])) rfl ?_);exact CT ⟨_,rfl,"reversed",_,st.ty,qf.lookup,hQ⟩
def FU {prog:Ww} {w:WU} {A:WN} {E:acJ} {s:gs} {it a:ID} {its:Array dO} {i:Nat} {x:dO} {Q:Option dO->gs->Prop} (st:jq s.heap it a (i:Nat)) (J:Zs s.heap a its) (hz:its.size<=Wp) (I:its[i]?=some x)
  (hQ:∀ h' tk,jq h' it a ((i:Int) - 1)->ZA it s.heap h'->Q (some x) { s with heap:=h',toks:=tk }):Wv (Wx prog w) A (pyNext (.ref it)) Q E s:=by
 obtain ⟨o,e,c,d⟩:=id st;have ty:s.TypeIs (.ref a) "tuple":=by obtain ⟨o,e,c,_⟩:=id J;exact ⟨o,e,c⟩
 have hi:i < its.size:=(Array.getElem?_eq_some_iff.mp I).1;unfold pyNext;refine bY (YI (XN (name:=WV "__next__") st.ty qf (Xz qf st.ty zF ?_ (Cw _))));unfold Builtin.«reversed.__next__»;refine bY (Zd (a:=(WW it,[])) rfl ?_);dsimp only;refine bY (Yi (x:=.ref a) e d rfl ?_);refine bY (Yi (x:=.int (i:Nat) 0) e d rfl ?_);dsimp only;rw [acB (by omega)];refine bY ?_;unfold specialOf;refine bY (ZF ty ?_);rw [F.slot_tuple_getitem.lookup];refine CT ?_;rw [acB (by decide)];refine bY (wpAny_mkInt ?_);refine bY (YI (getItem_tuple (s:={ s with toks:=s.toks+1 }) J (by omega) (by rw [W0] at hz;omega) (j:=i) (by
  have Y:¬ ((i:Int) < 0):=by omega
  unfold seqIndex?;simp only [Y,if_false];rw [acA (by simp;omega)];simp) I ?_))
 dsimp only;refine bY (Yi (s:={ s with toks:=s.toks+1 }) (x:=.int (i:Nat) 0) e d rfl ?_);dsimp only;refine bY (Zy (s:={ s with toks:=s.toks+1 }) e d (by simp) ?_);have L:jq (s.heap.update it (abO (·.setIfInBounds 1 (abj ((i:Int) - 1))))) it a ((i:Int) - 1):=⟨_,ZC _ e (ZD (Yq d _)),(Obj.cls_mapFields ..).trans c,by rw [Yq d];simp [abj]⟩;exact CT ⟨_,rfl,CT (hQ _ _ L (XX ..))⟩
def IB {prog:Ww} {w:WU} {A:WN} {E:acJ} {s:gs} {it a:ID} {Q:Option dO->gs->Prop} (I:A.handled=none) (st:jq s.heap it a (-1))
  (hQ:∀ h',Heap.ExtBut it s.heap h'->Q none { s with heap:=h' }):Wv (Wx prog w) A (pyNext (.ref it)) Q E s:=by
 obtain ⟨o,e,c,d⟩:=id st;unfold pyNext;refine bY (YI (XN (name:=WV "__next__") st.ty qf (Xz qf st.ty zF ?_ (Cw _))));unfold Builtin.«reversed.__next__»;refine bY (Zd (a:=(WW it,[])) rfl ?_);dsimp only;refine bY (Yi (x:=.ref a) e d rfl ?_);refine bY (Yi (x:=.int (-1) 0) e d rfl ?_);dsimp only;rw [acA (by decide)];refine bY (YO ?_);refine bY (bY (Zy e d (by simp) ?_));have J:(s.heap.update it (abO (·.setIfInBounds 1 (abj (-1))))).get? it=some _:=ZC _ e (ZD (Yq d _));refine Zy (s:={ s with heap:=s.heap.update it (abO (·.setIfInBounds 1 (abj (-1)))) }) J (Yq d _) (by simp) ?_;refine bY ?_;unfold abT;refine bY ?_;simp only [newExc,newTuple];refine bY (Xk ?_ (by size_fits));refine bY (m:=aak _ _) (Zd (a:=Xm) (by first|rfl|(simp only [aak];rfl)) ?_);refine Xk ?_ (by size_fits);simp only [raiseNew];refine bY (wpAny_handled ?_);rw [show A.in1.handled=none from I];refine bY (CT (wpAny_throw ?_));refine bY (wpAny_isInstance (T:="StopIteration") (b:=true) ⟨_,Wr _ rfl,rfl⟩ isSubtype_stop ?_);exact CT (hQ _ ((((XX ..).extBut.trans (XX ..).extBut).push _).push _))
def ItR (K:aT) (a:ID) (xs:acN):It :=
 ⟨fun i H=>j3 K H a xs/\i < xs.length,fun i H v H'=>H'=H/\xs[xs.length - 1 - i]?=some v,fun i H=>j3 K H a xs/\i=xs.length⟩
def Hk {P:Ww} {w:WU} {K:aT} {tg:W3} (it a:ID) (xs:acN):Turn P w K tg (ItR K a xs) [it] it (fun i h=>jq h it a ((xs.length:Int) - 1 - (i:Nat))) where
 mem:=by simp
 obj:=fun i h st b J=>by
  have e:b=it:=by simpa using J
  subst e;obtain ⟨o,e,c,d⟩:=st;exact ⟨o,e,fun v z=>by rw [d] at z;cases z⟩
 keep:=fun i h h' st k=>by obtain ⟨o,e,c,d⟩:=st;exact ⟨o,k it (by simp) o e,c,d⟩
 item:=by
  intro X hP hw hK hc i af s Z H E I hf st hg;subst hP hw hK;obtain ⟨hq,hi⟩:=hg;obtain ⟨its,rv,p,hz⟩:=I.tuple hq;obtain ⟨Y,f1,f2,f3,f4,f5⟩:=hf it (by simp);have hl:=rv.length;have hx:xs[xs.length - 1 - i]?=some (xs[xs.length - 1 - i]'(by omega)):=oR _;obtain ⟨u,hu,ru⟩:=rv.get hx;have L:jq s.heap it a ((xs.length - 1 - i:Nat):Int):=by
   have:((xs.length - 1 - i:Nat):Int)=(xs.length:Int) - 1 - (i:Nat):=by omega
   rw [this];exact st
  refine bo I.tk (FU L (show Zs s.heap a its.toArray from p) (by simpa using hl ▸ hz) (x:=u) (by simpa using hu) fun h' tk nx sb htk=>?_);have I1:Inv X af Z H { s with heap:=h',toks:=tk }:=I.turned (fun b o J e=>(sb.2 b J).trans e) Y f1 f3 f4 f5;obtain ⟨o,e,c,d⟩:=id nx;refine ⟨u,rfl,wJ (s:={ s with heap:=h',toks:=tk }) e c d (by decide) ⟨_,H,I1,ru,⟨rfl,hx⟩,?_,fun b J=>(hf b J).1⟩⟩
  have:(xs.length:Int) - 1 - ((i+1:Nat):Int)=((xs.length - 1 - i:Nat):Int) - 1:=by omega
  rw [this];exact nx
 done:=by
  intro X hP hw hK hc i af s Z H E I hf st hg;subst hP hw hK;obtain ⟨hq,hi⟩:=hg;obtain ⟨Y,f1,f2,f3,f4,f5⟩:=hf it (by simp);have L:jq s.heap it a (-1):=by
   have:(xs.length:Int) - 1 - (i:Nat)=-1:=by omega
   rw [this] at st;exact st
  exact IB (I.ok.hd hc) L fun h' eb=>⟨rfl,I.turned (t':=s.toks) (fun b o J e=>eb b o J e) Y f1 f3 f4 f5⟩
 self:=fun _ _ _ _ _ st h=>zh st h
section
variable {X:Cx} {W:Wd} {O:acG} {tg:W3} {α:FA} {p pos:Pos}
def LJ (ds:acO):R (acO):=match ds with
 | [.tup xs]=>.ok xs.reverse
 | _=>.no
def FV (α:FA):FA:=fun U=>(α U).bind LJ
def Kh {a:W3} (K:aT) (hc:X.calm=true) (hm:X.mg "reversed"=none) (ha:JA X [a] (xC W O α)) (hg:Gl X "reversed":=by rfl) (h1:ba a=true:=by rfl) (hK:X.K=K:=by rfl) (hW:W.K=K:=by rfl) :
  JI X tg (.Call (.Name "reversed" p) [a] [] pos) (iD W O (FV α)):=⟨fun af s Z H R I ⟨as0,B,own,U,DIh,h⟩=>by
 subst hK;refine XM (nA I hg hm boot_reversed ?_ (by decide) (by decide));refine XH (cU (ha.out pos af s Z H (fun vs H1=>aC H H1/\∃ ds,aM W.K (aK (own++as0) H1) ds vs/\ju W as0 own H1 (LJ ds) R) I ⟨as0,B,own,U,DIh,kg h fun ds vs H1 J d1 Y=>⟨J,ds,d1,Y⟩⟩) fun us J hh=>nY hh fun vs H1 I1 r1 q1=>?_) (c7 h1) rfl;obtain ⟨sH,ds,dv,Y⟩:=q1;unfold LJ at Y;split at Y
 .rename_i zs;obtain ⟨va,rfl,L⟩:=gq dv;rw [hW] at L;obtain ⟨b,xs,rfl,q1,q2⟩:=L;obtain ⟨u1,rfl,ru1⟩:=jA r1;cases ru1;obtain ⟨its,rv,pl,hz⟩:=I1.tuple ((az _ _).seqT q1);have hl:=rv.length;refine bo I1.tk (FJ (show Zs J.heap b its.toArray from pl) (by simpa using hl ▸ hz) fun tk htk=>?_);have hst:jq (J.heap.push (GM b ((its.toArray.size:Int) - 1))) J.heap.objs.size b ((xs.length:Int) - 1 - ((0:Nat):Int)):=⟨_,Wr _ rfl,rfl,by simp [GM,hl]⟩;refine zh (s:={ J with heap:=J.heap.push (GM b ((its.toArray.size:Int) - 1)),toks:=tk }) hst ?_;refine ⟨J.heap.objs.size,[J.heap.objs.size],_,_,H1,rfl,I1.kept (t':=tk) (fun b o e=>lT _ e) htk,Hk J.heap.objs.size b xs,hst,fun c hb=>?_,Y _ H1 (aC.refl _) ?_⟩
  .have e:c=J.heap.objs.size:=by simpa using hb
   subst e;exact I1.fpOk (mK _) (I1.hok.fresh (mK _))
  .rw [lJ] at q1 q2;rw [hW];have ll:=q2.len;refine ⟨fun i H2 s2 hi=>⟨s2.seqT q1,by rw [<- ll];simpa using hi⟩,fun i H2 v H3 M s2 _ hM hi hy=>?_,fun H2 s2=>⟨s2.seqT q1,by rw [<- ll];simp⟩⟩;obtain ⟨rfl,e1⟩:=hy;obtain ⟨d,e2,dd⟩:=q2.got e1;rw [<- ll] at e2;refine ⟨aC.refl _,d,?_,dd.mono (hJ s2 hM)⟩;rw [List.getElem?_reverse (by simpa using hi)];exact e2
 .exact Y.elim⟩
def Kz (xs:acN) (H:Hp) (Q:VK):Prop:=∃ a kvs,xs=[.ref a]/\Rd H a (.dK kvs)/\Q (.int (kvs.length:Int)) H
def wc:cj X (.builtin "len") Kz:=by
 intro af s Z H xs us Q I r h;obtain ⟨a,kvs,rfl,J,q⟩:=h;obtain ⟨u,rfl,L⟩:=jA r;cases L;exact Ra I J fun t s' Y=>⟨.int (kvs.length:Int),H,Y,⟨t,rfl⟩,q⟩
def wC (ds:acO):R D:=match ds with
 | [.dcf kvs]=>.ok (.int (kvs.length:Int))
 | _=>.no
def KU:sJ W Kz wC:=by
 intro as H xs ds Q J I h;unfold wC at h;split at h
 .obtain ⟨v,rfl,d1⟩:=gq I;obtain ⟨a,o,kvs,rfl,h1,h2⟩:=d1;refine ⟨a,kvs,rfl,.inr ⟨o,az _ _ _ _ h1⟩,?_⟩;rw [<- h2.len];exact aR h rfl
 .exact h.elim
end
end L2
namespace T30
open PySem L2
def l6:D:=(.tup [(.str "none"),(.str "number"),(.str "text")])
def uJ:D:=(.int 4)
def lR:D:=(.int 8)
abbrev uI (i:Nat) (n:Int):FE:=aw bT (ah i) (vC (.int n))
abbrev i4:FE:=vC (.int 0)
abbrev cQ:FE:=vC (.int 1)
abbrev tF:FE:=vC (.int 2)
abbrev CI:FE:=vC (.int 3)
abbrev ET:FE:=vC (.int 4)
abbrev rP:FE:=vC (.int 5)
abbrev Mo:FE:=vC (.int 7)
abbrev Cc:FE:=vC (.int 8)
abbrev Ts:FE:=vC (.int 9)
abbrev zI:FE:=vC (.int 10)
abbrev IP:FE:=vC (.int 12)
abbrev vD:FE:=vC (.int 16)
abbrev Dw:FE:=vC (.int 60)
abbrev i7:FE:=vC (.int 48271)
abbrev jl:FE:=vC (.int 1000003)
abbrev iW:FE:=vC (.int 2147483647)
abbrev cY:FE:=vC (.str "leaf")
abbrev dU:FE:=vC (.str "branch")
abbrev wk:acH:=["value"]
abbrev lh:acH:=["value"]
def oi:FS:=(aB (gm (bR (aw Mx (ah 0) (vC .non))) (bh (vC (.str "none"))) bu) (bh (Lu (iC (ao nw (ae (ah 0) (ae (vC (.ty "str")) ap)))) (vC (.str "text")) (vC (.str "number")))))
def cq:acO->R D:=cr oi wk lh
def DQ (I:D):cq [I]=fin (oi [some I]):=rfl
abbrev wE:acH:=["one","other"]
abbrev lc:acH:=["one","other"]
def ox:FS:=(aB (gm (bR (aw pX (ao cq (ae (ah 0) ap)) (ao cq (ae (ah 1) ap)))) (bh (Lu (bR (aw vL (Ab l6 (ae (ao cq (ae (ah 0) ap)) ap)) (Ab l6 (ae (ao cq (ae (ah 1) ap)) ap)))) (JF vS cQ) cQ)) bu) (aB (gm (bR (aw eI (ah 0) (ah 1))) (bh i4) bu) (bh (Lu (bR (aw vL (ah 0) (ah 1))) (JF vS cQ) cQ))))
def oo:acO->R D:=cr ox wE lc
def Ec (I J:D):oo [I,J]=fin (ox [some I,some J]):=rfl
abbrev sG:acH:=["value"]
abbrev ik:acH:=["value"]
def jU:FS:=(aB (gm (bR (aw Mx (ah 0) (vC .non))) (bh (dt (ae i4 (ae i4 ap)))) bu) (bh (dt (ae (Ab l6 (ae (ao cq (ae (ah 0) ap)) ap)) (ae (ah 0) ap)))))
def kj:acO->R D:=cr jU sG ik
def zk (I:D):kj [I]=fin (jU [some I]):=rfl
abbrev ph:acH:=["one","other","told"]
abbrev df:acH:=["one","other"]
def gT:FS:=(aB (aZ 2 (ao oo (ae (uI 0 0) (ae (uI 1 0) ap)))) (bh (N6 (aw vL (ah 2) i4) (AZ (aw eI (ah 2) i4) (aw vL (uI 0 1) (uI 1 1))))))
def bG:acO->R D:=cr gT ph df
def vR (I J:D):bG [I,J]=fin (gT [some I,some J,none]):=rfl
abbrev pd:acH:=[]
abbrev eM:acH:=[]
def gP:FS:=(bh (dt (ae cY (ae (dt ap) ap))))
def gO:acO->R D:=cr gP pd eM
def vK:gO []=fin (gP []):=rfl
abbrev qW:acH:=["parts","entry","place"]
abbrev cW:acH:=["parts","entry"]
abbrev lQ:FT:=(qy (bR (aw vL (aw bw (ah 2) cQ) (ao cy (ae (ah 0) ap)))) (mR (iC (ao bG (ae (ah 1) (ae (aw bT (aw bT (ah 0) (aw bw (ah 2) cQ)) i4) ap))))))
def jb:FS:=(aB (aZ 2 i4) (aB (bI lQ (oC 2 cQ) 1000) (bh (ah 2))))
def cc:acO->R D:=cr jb qW cW
def yi (I J:D):cc [I,J]=fin (jb [some I,some J,none]):=rfl
abbrev sR:acH:=["index","value","number","entry","cell","parts"]
abbrev g8:acH:=["index","value","number"]
abbrev hQ:FT:=(bR (aw eI (uI 4 0) dU))
abbrev hB:FS:=(aB (aZ 5 (uI 4 1)) (aZ 4 (aw bT (aw bT (ah 5) (ao cc (ae (ah 5) (ae (ah 3) ap)))) cQ)))
def ki:FS:=(aB (aZ 3 (dt (ae (ah 1) (ae (ah 2) ap)))) (aB (aZ 4 (ah 0)) (aB (bI hQ hB 1000) (bh (aw GW (ah 3) (uI 4 1))))))
def fw:acO->R D:=cr ki sR g8
def yU (I L J:D):fw [I,L,J]=fin (ki [some I,some L,some J,none,none,none]):=rfl
abbrev uT:acH:=["cell"]
abbrev jG:acH:=["cell"]
def lV:FS:=(bh (Lu (bR (aw eI (uI 0 0) cY)) (aw bT (uI 0 1) i4) (aw bT (aw bT (uI 0 1) i4) i4)))
def lW:acO->R D:=cr lV uT jG
def Bc (I:D):lW [I]=fin (lV [some I]):=rfl
abbrev uw:acH:=["word","things","many","cells","place","start","end"]
abbrev gB:acH:=["word","things"]
abbrev cB:FS:=(aB (aZ 5 (aw cG (aw dQ (ah 4) (ao cy (ae (ah 1) ap))) (ah 2))) (aB (aZ 6 (aw cG (aw dQ (aw bw (ah 4) cQ) (ao cy (ae (ah 1) ap))) (ah 2))) (cZ 3 (dt (ae (ah 0) (ae (ao oQ (ae (Ak Dj (ah 1) (ii (ah 5)) (ii (ah 6))) ap)) ap))))))
def gI:FS:=(aB (aZ 2 (aw cG (aw pP (aw bw (ao cy (ae (ah 1) ap)) (vC lR)) cQ) (vC lR))) (aB (jH 3 (eR ap)) (aB (nR (nD (ae (ah 2) ap)) (.one 4) cB) (bh (ah 3)))))
def bv:acO->R D:=cr gI uw gB
def pH (I J:D):bv [I,J]=fin (gI [some I,some J,none,none,none,none,none]):=rfl
abbrev pq:acH:=["cells"]
abbrev e9:acH:=["cells"]
def mm:FS:=(bh (iI [none] (rJ (ah 0)) (.one 0) t6 (dt (ae (ao lW (ae (ah 0) ap)) (ae (ah 0) ap)))))
def cC:acO->R D:=cr mm pq e9
def Bn (I:D):cC [I]=fin (mm [some I]):=rfl
abbrev Ac:acH:=["cells","level"]
abbrev mW:acH:=["cells"]
abbrev rQ:FT:=(bR (aw Fy (ao cy (ae (ah 1) ap)) cQ))
abbrev rB:FS:=(aZ 1 (ao bv (ae dU (ae (ao cC (ae (ah 1) ap)) ap))))
def nG:FS:=(aB (aZ 1 (ah 0)) (aB (bI rQ rB 1000) (bh (uI 1 0))))
def lj:acO->R D:=cr nG Ac mW
def yN (I:D):lj [I]=fin (nG [some I,none]):=rfl
abbrev iY:acH:=["cell","entry","ahead","behind","parts","place","fresh"]
abbrev cV:acH:=["cell","entry"]
def fX (ja:acO->R D):FS:=(aB (gm (bR (aw eI (uI 0 0) cY)) (aB (aZ 2 (iI [none,some 1] (rJ (uI 0 1)) (.one 0) (iC (ao bG (ae (ah 0) (ae (ah 1) ap)))) (ah 0))) (aB (aZ 3 (iI [none,some 1] (rJ (uI 0 1)) (.one 0) (iC (ao bG (ae (ah 1) (ae (ah 0) ap)))) (ah 0))) (bh (ao bv (ae cY (ae (aw bw (aw bw (ah 2) (eR (ae (ah 1) ap))) (ah 3)) ap)))))) bu) (aB (aZ 4 (ao DB (ae (uI 0 1) ap))) (aB (aZ 5 (ao cc (ae (ah 4) (ae (ah 1) ap)))) (aB (aZ 6 (ao ja (ae (aw bT (aw bT (ah 4) (ah 5)) cQ) (ae (ah 1) ap)))) (bh (ao bv (ae dU (ae (aw bw (aw bw (Ak tR (ah 4) lf (ii (ah 5))) (ao cC (ae (ah 6) ap))) (Ak tR (ah 4) (ii (aw bw (ah 5) cQ)) lf)) ap))))))))
def cx:Nat->(acO->R D)
 | 0=>(fun _=>.no)
 | n+1=>(cr (fX ((cx n))) iY cV)
def ja:acO->R D:=(cx 10)
def p4 (n:Nat) (J I:D):(cx (n+1)) [J,I]=fin (fX ((cx n)) [some J,some I,none,none,none,none,none]):=rfl
abbrev qA:acH:=["index","value","number"]
abbrev fO:acH:=["index","value","number"]
def i8:FS:=(aB (gm (iC (ao fw (ae (ah 0) (ae (ah 1) (ae (ah 2) ap))))) (bh (ah 0)) bu) (bh (ao lj (ae (ao ja (ae (ah 0) (ae (dt (ae (ah 1) (ae (ah 2) ap))) ap))) ap))))
def gh:acO->R D:=cr i8 qA fO
def xV (I L J:D):gh [I,L,J]=fin (i8 [some I,some L,some J]):=rfl
abbrev y9:acH:=["parts","place","smaller","start","things","fresh"]
abbrev lB:acH:=["parts","place","smaller"]
def qz:FS:=(aB (gm (bR (aw eI (ah 1) i4)) (aB (aZ 3 i4) (aZ 4 (aw bw (uI 2 1) (aw bT (aw bT (uI 0 1) cQ) cQ)))) (aB (aZ 3 (aw pP (ah 1) cQ)) (aZ 4 (aw bw (aw bT (aw bT (aw bT (ah 0) (ah 3)) cQ) cQ) (uI 2 1))))) (aB (aZ 5 (ao bv (ae (uI 2 0) (ae (ah 4) ap)))) (bh (dt (ae dU (ae (ao oQ (ae (aw bw (aw bw (Ak tR (ah 0) lf (ii (ah 3))) (ao cC (ae (ah 5) ap))) (Ak tR (ah 0) (ii (aw bw (ah 3) tF)) lf)) ap)) ap))))))
def nI:acO->R D:=cr qz y9 lB
def EX (I L J:D):nI [I,L,J]=fin (qz [some I,some L,some J,none,none,none]):=rfl
abbrev jJ:acH:=["cell","entry","parts","place","smaller"]
abbrev ck:acH:=["cell","entry"]
def du (dD:acO->R D):FS:=(aB (gm (bR (aw eI (uI 0 0) cY)) (bh (dt (ae cY (ae (ao oQ (ae (iI [none,some 1] (rJ (uI 0 1)) (.one 0) (bR (aw pX (ah 0) (ah 1))) (ah 0)) ap)) ap)))) bu) (aB (aZ 2 (ao DB (ae (uI 0 1) ap))) (aB (aZ 3 (ao cc (ae (ah 2) (ae (ah 1) ap)))) (aB (aZ 4 (ao dD (ae (aw bT (aw bT (ah 2) (ah 3)) cQ) (ae (ah 1) ap)))) (aB (gm (bR (aw QT (ao cy (ae (uI 4 1) ap)) (vC uJ))) (bh (dt (ae dU (ae (ao oQ (ae (aw bw (aw bw (Ak tR (ah 2) lf (ii (ah 3))) (ao cC (ae (eR (ae (ah 4) ap)) ap))) (Ak tR (ah 2) (ii (aw bw (ah 3) cQ)) lf)) ap)) ap)))) bu) (bh (ao nI (ae (ah 2) (ae (ah 3) (ae (ah 4) ap))))))))))
def bQ:Nat->(acO->R D)
 | 0=>(fun _=>.no)
 | n+1=>(cr (du ((bQ n))) jJ ck)
def dD:acO->R D:=(bQ 10)
def np (n:Nat) (J I:D):(bQ (n+1)) [J,I]=fin (du ((bQ n)) [some J,some I,none,none,none]):=rfl
abbrev mL:acH:=["index","value","number","root"]
abbrev c4:acH:=["index","value","number"]
def eV:FS:=(aB (gm (mR (iC (ao fw (ae (ah 0) (ae (ah 1) (ae (ah 2) ap)))))) (bh (ah 0)) bu) (aB (aZ 3 (ao dD (ae (ah 0) (ae (dt (ae (ah 1) (ae (ah 2) ap))) ap)))) (aB (gm (qy (bR (aw eI (uI 3 0) dU)) (bR (aw eI (ao cy (ae (uI 3 1) ap)) cQ))) (bh (aw bT (aw bT (uI 3 1) i4) cQ)) bu) (bh (ah 3)))))
def c5:acO->R D:=cr eV mL c4
def tM (I L J:D):c5 [I,L,J]=fin (eV [some I,some L,some J,none]):=rfl
abbrev sP:acH:=["entry"]
abbrev im:acH:=["entry"]
def jT:FS:=(bh (dt (ae (ao kj (ae (uI 0 0) ap)) (ae (uI 0 1) ap))))
def cS:acO->R D:=cr jT sP im
def zg (I:D):cS [I]=fin (jT [some I]):=rfl
abbrev qB:acH:=["entries","once","entry"]
abbrev gk:acH:=["entries"]
abbrev nB:FS:=(gm (wu (bR (aw eI (ah 1) (eR ap))) (bR (aw pX (aw bT (ah 1) (JF vS cQ)) (ah 2)))) (cZ 1 (ah 2)) bu)
def i6:FS:=(aB (jH 1 (eR ap)) (aB (nR (rJ (ao (tf keyN cS) (ae (ah 0) ap))) (.one 2) nB) (aB (gm (bR (aw eI (ah 1) (eR ap))) (bh (ao gO ap)) bu) (bh (ao lj (ae (ao bv (ae cY (ae (ah 1) ap))) ap))))))
def iQ:acO->R D:=cr i6 qB gk
def yp (I:D):iQ [I]=fin (i6 [some I,none,none]):=rfl
abbrev ng:acH:=["shape","column","place","pair"]
abbrev dE:acH:=["shape","column"]
abbrev VY:FS:=(gm (bR (aw eI (uI 3 0) (ah 1))) (bh (ah 2)) bu)
def gb:FS:=(aB (nR (gL (ae (uI 0 1) ap)) (.tup [2,3]) VY) (bh (vC .non)))
def cM:acO->R D:=cr gb ng dE
def vm (I J:D):cM [I,J]=fin (gb [some I,some J,none,none]):=rfl
abbrev sv:acH:=["shape"]
abbrev hZ:acH:=["shape"]
def jX:FS:=(bh (Mq "Table" ["shape","rows","indexes"] (ae (ah 0) (ae (JH (vC (.dct []))) (ae (JH (vC (.dct []))) ap)))))
def dw:acO->R D:=cr jX sv hZ
def zH (I:D):dw [I]=fin (jX [some I]):=rfl
abbrev mJ:acH:=["table","column","number","index"]
abbrev c8:acH:=["table","column","number"]
def eU:FS:=(aB (aZ 3 (aw mO (fY "Table" "indexes" (ah 0)) (ah 1))) (aB (gm (bR (aw w4 (ah 2) (fY "Table" "rows" (ah 0)))) (bh (ah 3)) bu) (bh (ao c5 (ae (ah 3) (ae (aw bT (aw mO (fY "Table" "rows" (ah 0)) (ah 2)) (ao cM (ae (fY "Table" "shape" (ah 0)) (ae (ah 1) ap)))) (ae (ah 2) ap)))))))
def c6:acO->R D:=cr eU mJ c8
def tP (I L J:D):c6 [I,L,J]=fin (eU [some I,some L,some J,none]):=rfl
abbrev uV:acH:=["table","number","row","rows","indexes","column","index"]
abbrev jw:acH:=["table","number","row"]
abbrev Ty:FS:=(aB (aZ 6 (ao c6 (ae (ah 0) (ae (ah 5) (ae (ah 1) ap))))) (mH 4 (ah 5) (ao gh (ae (ah 6) (ae (aw bT (ah 2) (ao cM (ae (fY "Table" "shape" (ah 0)) (ae (ah 5) ap)))) (ae (ah 1) ap))))))
def mi:FS:=(aB (jH 3 (ao zo (ae (fY "Table" "rows" (ah 0)) ap))) (aB (mH 3 (ah 1) (ah 2)) (aB (jH 4 (vC (.dct []))) (aB (nR (wU (fY "Table" "indexes" (ah 0))) (.one 5) Ty) (Ap 4 (Ap 3 (bh (Mq "Table" ["shape","rows","indexes"] (ae (fY "Table" "shape" (ah 0)) (ae (ah 3) (ae (ah 4) ap)))))))))))
def gA:acO->R D:=cr mi uV jw
def Bo (I L J:D):gA [I,L,J]=fin (mi [some I,some L,some J,none,none,none,none]):=rfl
abbrev oZ:acH:=["table","number","rows","indexes","column"]
abbrev eN:acH:=["table","number"]
abbrev U0:FS:=(mH 3 (ah 4) (ao c6 (ae (ah 0) (ae (ah 4) (ae (ah 1) ap)))))
def gN:FS:=(aB (jH 2 (ao zo (ae (fY "Table" "rows" (ah 0)) ap))) (aB (v9 2 (ah 1)) (aB (jH 3 (vC (.dct []))) (aB (nR (wU (fY "Table" "indexes" (ah 0))) (.one 4) U0) (Ap 3 (Ap 2 (bh (Mq "Table" ["shape","rows","indexes"] (ae (fY "Table" "shape" (ah 0)) (ae (ah 2) (ae (ah 3) ap)))))))))))
def gM:acO->R D:=cr gN oZ eN
def vv (I J:D):gM [I,J]=fin (gN [some I,some J,none,none,none]):=rfl
abbrev lZ:acH:=["table","column","place"]
abbrev fS:acH:=["table","column"]
def iU:FS:=(aB (aZ 2 (ao cM (ae (fY "Table" "shape" (ah 0)) (ae (ah 1) ap)))) (bh (iI [none,none,some 2] (xb (fY "Table" "rows" (ah 0))) (.tup [0,1]) t6 (dt (ae (aw bT (ah 1) (ah 2)) (ae (ah 0) ap))))))
def iT:acO->R D:=cr iU lZ fS
def wY (I J:D):iT [I,J]=fin (iU [some I,some J,none]):=rfl
abbrev qu:acH:=["table","column","indexes"]
abbrev gd:acH:=["table","column"]
def i9:FS:=(aB (jH 2 (ao zo (ae (fY "Table" "indexes" (ah 0)) ap))) (aB (mH 2 (ah 1) (ao iQ (ae (ao iT (ae (ah 0) (ae (ah 1) ap))) ap))) (Ap 2 (bh (Mq "Table" ["shape","rows","indexes"] (ae (fY "Table" "shape" (ah 0)) (ae (fY "Table" "rows" (ah 0)) (ae (ah 2) ap))))))))
def gg:acO->R D:=cr i9 qu gd
def xA (I J:D):gg [I,J]=fin (i9 [some I,some J,none]):=rfl
abbrev qt:acH:=["table"]
abbrev gc:acH:=["table"]
def iZ:FS:=(bh (ao tK (ae (fY "Table" "rows" (ah 0)) ap)))
def iM:acO->R D:=cr iZ qt gc
def yw (I:D):iM [I]=fin (iZ [some I]):=rfl
abbrev sC:acH:=["_law_script","_law_k"]
abbrev hV:acH:=["_law_script","_law_k"]
def ky:FS:=(aB (gm (bR (aw vL (ah 1) (ao cy (ae (ah 0) ap)))) (bh (aw bT (ah 0) (ah 1))) bu) (bh i4))
def bF:acO->R D:=cr ky sC hV
def zz (I J:D):bF [I,J]=fin (ky [some I,some J]):=rfl
abbrev yK:acH:=["_law_value"]
abbrev nH:acH:=["_law_value"]
def qE:FS:=(aB (gm (bR (aw Mx (ah 0) (vC .non))) (bh i4) bu) (aB (gm (iC (ao nw (ae (ah 0) (ae (vC (.ty "str")) ap)))) (bh tF) bu) (bh cQ)))
def fQ:acO->R D:=cr qE yK nH
def FH (I:D):fQ [I]=fin (qE [some I]):=rfl
abbrev wl:acH:=["_law_one","_law_other"]
abbrev lH:acH:=["_law_one","_law_other"]
def om:FS:=(aB (gm (bR (aw pX (ao fQ (ae (uI 0 0) ap)) (ao fQ (ae (uI 1 0) ap)))) (bh (aw vL (ao fQ (ae (uI 0 0) ap)) (ao fQ (ae (uI 1 0) ap)))) bu) (aB (gm (wu (bR (aw Mx (uI 0 0) (vC .non))) (bR (aw eI (uI 0 0) (uI 1 0)))) (bh (aw vL (uI 0 1) (uI 1 1))) bu) (bh (aw vL (uI 0 0) (uI 1 0)))))
def oE:acO->R D:=cr om wl lH
def DW (I J:D):oE [I,J]=fin (om [some I,some J]):=rfl
abbrev v8:acH:=["_law_cell"]
abbrev lK:acH:=["_law_cell"]
def oq:FS:=(aB (gm (bR (aw eI (uI 0 0) cY)) (bh (aw bT (uI 0 1) i4)) bu) (bh (aw bT (aw bT (uI 0 1) i4) i4)))
def oe:acO->R D:=cr oq v8 lK
def Dx (I:D):oe [I]=fin (oq [some I]):=rfl
abbrev sr:acH:=["_law_index","_law_found","_law_deep","_law_todo","_law_cell","_law_depth","_law_part","_law_k"]
abbrev g6:acH:=["_law_index"]
abbrev pB:FS:=(aB (gm (wu (bR (aw pX (ao cy (ae (ah 6) ap)) tF)) (bR (aw pX (uI 6 0) (ao oe (ae (uI 6 1) ap))))) (bh (vC .non)) bu) (cZ 3 (dt (ae (uI 6 1) (ae (aw bw (ah 5) cQ) ap)))))
abbrev wK:FT:=(wu (mR (iC (ao nw (ae (ah 4) (ae (vC (.ty "tuple")) ap))))) (wu (bR (aw pX (ao cy (ae (ah 4) ap)) tF)) (wu (mR (iC (ao nw (ae (uI 4 1) (ae (vC (.ty "tuple")) ap))))) (bR (aw Fy (ao cy (ae (uI 4 1) ap)) Cc)))))
abbrev wL:FT:=(wu (qy (bR (aw Fy (ah 5) i4)) (bR (aw vL (ao cy (ae (uI 4 1) ap)) ET))) (qy (bR (aw Bw (ah 2) (vC .non))) (bR (aw pX (ah 2) (ah 5)))))
abbrev wM:FT:=(wu (bR (aw pX (uI 4 0) dU)) (bR (aw vL (ao cy (ae (uI 4 1) ap)) (aw bw tF (aw dQ tF (ao M0 (ae (aw Fy (ah 5) i4) ap)))))))
abbrev wQ:FT:=(bR (aw Fy (ao cy (ae (ah 3) ap)) i4))
abbrev wB:FS:=(aB (qU 3 (fI (.tup [4,5]))) (aB (gm wK (bh (vC .non)) bu) (gm (bR (aw eI (uI 4 0) cY)) (aB (gm wL (bh (vC .non)) bu) (aB (aZ 2 (ah 5)) (pZ 1 (uI 4 1)))) (gm wM (bh (vC .non)) (nR (FV (ae (uI 4 1) ap)) (.one 6) pB)))))
abbrev vB:FS:=(gm (mR (iC (ao oE (ae (aw bT (ah 1) (aw pP (ah 7) cQ)) (ae (aw bT (ah 1) (ah 7)) ap))))) (bh (vC .non)) bu)
def j9:FS:=(aB (jH 1 (eR ap)) (aB (aZ 2 (vC .non)) (aB (jH 3 (eR (ae (dt (ae (ah 0) (ae i4 ap))) ap))) (aB (bI wQ wB 1000) (aB (nR (BJ (ae cQ (ae (ao cy (ae (ah 1) ap)) ap))) (.one 7) vB) (bh (ah 1)))))))
def j5:acO->R D:=cr j9 sr g6
def zS (I:D):j5 [I]=fin (j9 [some I,none,none,none,none,none,none,none]):=rfl
abbrev pf:acH:=["_law_entry","_law_value"]
abbrev eJ:acH:=["_law_entry"]
def gQ:FS:=(aB (aZ 1 (uI 0 0)) (aB (gm (bR (aw Mx (ah 1) (vC .non))) (bh (dt (ae i4 (ae i4 (ae (vC (.str "")) (ae (uI 0 1) ap)))))) bu) (aB (gm (iC (ao nw (ae (ah 1) (ae (vC (.ty "str")) ap)))) (bh (dt (ae tF (ae i4 (ae (ah 1) (ae (uI 0 1) ap)))))) bu) (bh (dt (ae cQ (ae (ah 1) (ae (vC (.str "")) (ae (uI 0 1) ap)))))))))
def ci:acO->R D:=cr gQ pf eJ
def vQ (I:D):ci [I]=fin (gQ [some I,none]):=rfl
abbrev yf:acH:=["_law_table","_law_shape","_law_rows","_law_columns","_law_column","_law_at","_law_entries_here"]
abbrev uY:acH:=["_law_table","_law_shape","_law_rows","_law_columns"]
abbrev LU:FS:=(aB (aZ 5 (JL (iI [none] (rJ (uI 1 1)) (.one 0) t6 (uI 0 0)) (ah 4))) (aB (aZ 6 (iI [none,some 5,some 2] (wU (ah 2)) (.one 0) t6 (dt (ae (aw bT (aw mO (ah 2) (ah 0)) (ah 1)) (ae (ah 0) ap))))) (gm (bR (aw pX (ao j5 (ae (aw mO (fY "Table" "indexes" (ah 0)) (ah 4)) ap)) (ao (Fi ci) (ae (ah 6) ap)))) (bh (vC (.bl false))) bu)))
def xH:FS:=(aB (gm (wu (mR (iC (ao (Jo "Table") (ae (ah 0) (ae (vC (.cls "Table")) ap))))) (wu (bR (aw pX (fY "Table" "shape" (ah 0)) (ah 1))) (wu (mR (iC (ao nw (ae (fY "Table" "rows" (ah 0)) (ae (vC (.ty "dict")) ap))))) (bR (aw Jv (fY "Table" "rows" (ah 0)) (ah 2)))))) (bh (vC (.bl false))) bu) (aB (gm (wu (mR (iC (ao nw (ae (fY "Table" "indexes" (ah 0)) (ae (vC (.ty "dict")) ap))))) (bR (aw pX (ao tK (ae (ao vp (ae (fY "Table" "indexes" (ah 0)) ap)) ap)) (ao tK (ae (ah 3) ap))))) (bh (vC (.bl false))) bu) (aB (nR (rJ (ah 3)) (.one 4) LU) (bh (vC (.bl true))))))
def nP:acO->R D:=cr xH yf uY
def Lz (J Y L I:D):nP [J,Y,L,I]=fin (xH [some J,some Y,some L,some I,none,none,none]):=rfl
abbrev rh:acH:=["_law_cell","_law_many","_law_size","_law_row","_law_at","_law_found","_law_k","_law_sign","_law_name","_law_some"]
abbrev lw:acH:=["_law_cell","_law_many"]
abbrev NB:FS:=(aB (aZ 7 (aw bT (vC (.str "abcdefghijklmnopqrstuvwxyz")) (aw bB (aw bw (aw cG (ah 0) (vC (.int 1638))) (aw dQ Mo (ah 6))) (vC (.int 26))))) (aB (aZ 8 (aw bw (aw bw (Ak tR (ah 3) lf (ii (ah 4))) (ah 7)) (Ak tR (ah 3) (ii (aw bw (ah 4) cQ)) lf))) (aB (aZ 9 (eR (ae (vC (.str "and")) (ae (vC (.str "by")) (ae (vC (.str "down")) (ae (vC (.str "from")) (ae (vC (.str "none")) (ae (vC (.str "not")) (ae (vC (.str "or")) (ae (vC (.str "order")) (ae (vC (.str "show")) (ae (vC (.str "take")) ap)))))))))))) (aB (gm (qy (bR (aw pX (ah 8) (vC (.str "where")))) (bR (aw pK (ah 8) (ah 9)))) (cZ 5 (ah 8)) bu) (aZ 6 (aw bw (ah 6) cQ))))))
abbrev NR:FE:=(QS uD (vC (.str "")) (ae (iI [none,some 0] (nD (ae (ah 2) ap)) (.one 0) t6 (aw bT (vC (.str "abcdefghijklmnopqrstuvwxyz")) (aw bB (aw bw (aw cG (ah 1) Mo) (aw dQ rP (ah 0))) (vC (.int 26))))) ap))
abbrev NT:FT:=(bR (aw vL (ao cy (ae (ah 5) ap)) (ah 1)))
def oj:FS:=(aB (aZ 2 (aw bw tF (aw bB (ah 0) Mo))) (aB (aZ 3 NR) (aB (aZ 4 (aw bB (aw cG (ah 0) (vC (.int 182))) (ah 2))) (aB (jH 5 (eR ap)) (aB (aZ 6 i4) (aB (bI NT NB 1000) (bh (ah 5))))))))
def jj:acO->R D:=cr oj rh lw
def Dq (I J:D):jj [I,J]=fin (oj [some I,some J,none,none,none,none,none,none,none,none]):=rfl
abbrev sT:acH:=["_law_cell","_law_some"]
abbrev g9:acH:=["_law_cell"]
def kh:FS:=(aB (aZ 1 (vC (.str " !\"#$&'()*+,-./0123456789:;<=>?@ABCDEFGHIJKLMNOPQRSTUVWXYZ[\\]^_`"))) (aB (aZ 1 (aw bw (ah 1) (vC (.str "abcdefghijklmnopqrstuvwxyz{|}~")))) (bh (aw bT (ah 1) (aw bB (ah 0) (vC (.int 94)))))))
def kn:acO->R D:=cr kh sT g9
def Ag (I:D):kn [I]=fin (kh [some I,none]):=rfl
abbrev mZ:acH:=["_law_cell","_law_size","_law_step_here"]
abbrev gZ:acH:=["_law_cell"]
abbrev TJ:FE:=(QS uD (vC (.str "")) (ae (iI [none,some 0,some 2] (nD (ae (ah 1) ap)) (.one 0) t6 (ao kn (ae (aw bw (aw cG (ah 1) (vC (.int 1476))) (aw dQ (ah 2) (ah 0))) ap))) ap))
def jS:FS:=(aB (aZ 1 (aw bB (ah 0) ET)) (aB (gm (bR (aw eI (aw bB (aw cG (ah 0) ET) CI) cQ)) (aZ 1 (aw bB (aw cG (ah 0) IP) (vC (.int 41)))) bu) (aB (aZ 2 (aw bT (eR (ae i4 (ae cQ (ae Mo ap)))) (aw bB (aw cG (ah 0) (vC (.int 492))) CI))) (bh TJ))))
def jZ:acO->R D:=cr jS mZ gZ
def zb (I:D):jZ [I]=fin (jS [some I,none,none]):=rfl
abbrev qk:acH:=["_law_name","_law_cell","_law_names_here","_law_columns","_law_k","_law_kind"]
abbrev fZ:acH:=["_law_name","_law_cell"]
abbrev SB:FS:=(aB (aZ 5 (aw bT (eR (ae (vC (.str "number")) (ae (vC (.str "text")) ap))) (aw bB (aw cG (ah 1) (aw bT (eR (ae ET (ae Cc (ae vD (ae (vC (.int 32)) (ae (vC (.int 64)) (ae (vC (.int 128)) (ae (vC (.int 256)) (ae (vC (.int 512)) ap))))))))) (ah 4))) tF))) (cZ 3 (dt (ae (aw bT (ah 2) (ah 4)) (ae (ah 5) ap)))))
def iS:FS:=(aB (aZ 2 (ao jj (ae (aw cG (ah 1) vD) (ae (aw bT (eR (ae cQ (ae tF (ae CI (ae ET (ae cQ (ae tF (ae Cc (ae rP ap))))))))) (aw bB (ah 1) Cc)) ap)))) (aB (jH 3 (eR ap)) (aB (nR (nD (ae (ao cy (ae (ah 2) ap)) ap)) (.one 4) SB) (bh (dt (ae (ah 0) (ae (ao oQ (ae (ah 3) ap)) ap)))))))
def gj:acO->R D:=cr iS qk fZ
def yk (I J:D):gj [I,J]=fin (iS [some I,some J,none,none,none,none]):=rfl
abbrev uh:acH:=["_law_shape","_law_cell","_law_row","_law_drawn","_law_column","_law_mix"]
abbrev jn:acH:=["_law_shape","_law_cell"]
abbrev RB:FS:=(aB (aZ 3 (aw bB (aw bw (aw dQ (ah 3) i7) (vC (.int 11))) iW)) (aB (aZ 5 (aw cG (ah 3) (vC (.int 641)))) (gm (wu (bR (aw eI (aw bB (ah 5) rP) i4)) (bR (aw eI (aw bB (ah 1) vD) rP))) (cZ 2 (vC .non)) (gm (bR (aw eI (uI 4 1) (vC (.str "text")))) (cZ 2 (ao jZ (ae (aw cG (ah 5) rP) ap))) (gm (bR (aw eI (aw bB (aw cG (ah 5) rP) CI) i4)) (cZ 2 (aw bw (aw pP (aw bB (aw dQ (ah 5) (aw bw (aw vo zI IP) (vC (.int 39)))) (aw pP (aw dQ tF (aw vo zI (vC (.int 18)))) cQ)) (aw vo zI (vC (.int 18)))) cQ)) (cZ 2 (aw pP (aw bB (aw cG (ah 5) (vC (.int 15))) Ts) ET)))))))
def mx:FS:=(aB (jH 2 (eR ap)) (aB (aZ 3 (aw bB (aw bw (aw dQ (ah 1) (vC (.int 69621))) Mo) iW)) (aB (nR (rJ (uI 0 1)) (.one 4) RB) (bh (ao oQ (ae (ah 2) ap))))))
def fe:acO->R D:=cr mx uh jn
def AR (I J:D):fe [I,J]=fin (mx [some I,some J,none,none,none,none]):=rfl
abbrev ut:acH:=["_law_cell","_law_rows"]
abbrev jp:acH:=["_law_cell","_law_rows"]
def l5:FS:=(aB (gm (qy (bR (aw Fy (ao wC (ae (ah 1) ap)) i4)) (bR (aw vL (aw bB (ah 0) rP) tF))) (bh (aw bT (ao tK (ae (ao vp (ae (ah 1) ap)) ap)) (aw bB (aw cG (ah 0) rP) (ao wC (ae (ah 1) ap))))) bu) (aB (gm (bR (aw eI (aw bB (ah 0) rP) tF)) (bh (aw bw cQ (aw bB (aw cG (ah 0) rP) (aw vo zI Ts)))) bu) (bh (aw bw cQ (aw bB (aw cG (ah 0) rP) Dw)))))
def jz:acO->R D:=cr l5 ut jp
def Bh (I J:D):jz [I,J]=fin (l5 [some I,some J]):=rfl
abbrev zu:acH:=["_law_table","_law_rows","_law_columns","_law_cell","_law_shape","_law_number_here","_law_others","_law_column"]
abbrev m9:acH:=["_law_table","_law_rows","_law_columns","_law_cell"]
abbrev SP:FS:=(aB (mH 6 (ah 5) (ao fe (ae (ah 4) (ae (ah 3) ap)))) (Ap 6 (bh (dt (ae (ao gA (ae (ah 0) (ae (ah 5) (ae (aw mO (ah 6) (ah 5)) ap)))) (ae (ah 6) (ae (ah 2) ap)))))))
def qp:FS:=(aB (aZ 4 (fY "Table" "shape" (ah 0))) (aB (aZ 5 (ao jz (ae (aw cG (ah 3) Cc) (ae (ah 1) ap)))) (aB (jH 6 (ao zo (ae (ah 1) ap))) (aB (gm (qy (bR (aw eI (aw bB (ah 3) Cc) i4)) (bR (aw Kk (ah 5) (ah 1)))) (aB (v9 6 (ah 5)) (Ap 6 (bh (dt (ae (ao gM (ae (ah 0) (ae (ah 5) ap))) (ae (ah 6) (ae (ah 2) ap))))))) bu) (aB (gm (bR (aw eI (aw bB (ah 3) Cc) cQ)) (aB (aZ 7 (aw bT (aw bT (uI 4 1) (aw bB (aw cG (ah 3) Cc) (ao cy (ae (uI 4 1) ap)))) i4)) (gm (bR (aw pK (ah 7) (ah 2))) (Ap 6 (bh (dt (ae (ao gg (ae (ah 0) (ae (ah 7) ap))) (ae (ah 6) (ae (aw bw (ah 2) (eR (ae (ah 7) ap))) ap)))))) bu)) bu) SP)))))
def ni:acO->R D:=cr qp zu m9
def Fu (J Y L I:D):ni [J,Y,L,I]=fin (qp [some J,some Y,some L,some I,none,none,none,none]):=rfl
abbrev vf:acH:=["_law_shape","_law_many","_law_table","_law_rows","_law_k"]
abbrev jr:acH:=["_law_shape","_law_many"]
abbrev FB:FS:=(aB (mH 3 (aw bw (aw dQ CI (ah 4)) cQ) (ao fe (ae (ah 0) (ae (aw dQ (vC (.int 7919)) (ah 4)) ap)))) (aZ 2 (ao gA (ae (ah 2) (ae (aw bw (aw dQ CI (ah 4)) cQ) (ae (aw mO (ah 3) (aw bw (aw dQ CI (ah 4)) cQ)) ap))))))
def mh:FS:=(aB (aZ 2 (ao dw (ae (ah 0) ap))) (aB (jH 3 (vC (.dct []))) (aB (nR (nD (ae (ah 1) ap)) (.one 4) FB) (Ap 3 (B2 (eR (ae (dt (ae (ao dw (ae (ah 0) ap)) (ae (JH (vC (.dct []))) (ae (eR ap) ap)))) (ae (dt (ae (ah 2) (ae (ah 3) (ae (eR ap) ap)))) ap))))))))
def jy:acO->R D:=IT mh vf jr
def Bj (I J:D):jy [I,J]=P9 (mh [some I,some J,none,none,none]):=rfl
abbrev K9:acH:=["_law_script","_law_name","_law_shape","_law_steps","_law_at","_law_cell","_law_last","_law_found"]
abbrev ve:acH:=["_law_script"]
abbrev LB:FS:=(aB (aZ 6 (aw bT (ah 3) (JF vS cQ))) (aB (cZ 3 (ao ni (ae (uI 6 0) (ae (uI 6 1) (ae (uI 6 2) (ae (aw bB (aw dQ (aw bw (ah 5) (aw dQ (vC (.int 31)) (ah 4))) i7) jl) ap)))))) (gm (qy (bR (aw eI (aw bB (ah 4) rP) ET)) (mR (iC (ao nP (ae (uI 6 0) (ae (ah 2) (ae (uI 6 1) (ae (uI 6 2) ap)))))))) (bh (vC (.bl false))) bu)))
def Cr:FS:=(aB (aZ 1 (aw bT (ao jj (ae (aw bB (aw dQ (ao bF (ae (ah 0) (ae i4 ap))) i7) jl) (ae cQ ap))) i4)) (aB (aZ 2 (ao gj (ae (ah 1) (ae (aw bB (aw dQ (ao bF (ae (ah 0) (ae cQ ap))) i7) jl) ap)))) (aB (jH 3 (eR (ae (dt (ae (ao dw (ae (ah 2) ap)) (ae (JH (vC (.dct []))) (ae (eR ap) ap)))) ap))) (aB (gm (bR (aw eI (aw bB (ao bF (ae (ah 0) (ae tF ap))) vD) rP)) (jH 3 (ao jy (ae (ah 2) (ae (aw bw Dw (aw bB (aw cG (ao bF (ae (ah 0) (ae tF ap))) vD) Dw)) ap)))) bu) (aB (nR (gL (ae (Ak tR (ah 0) (ii CI) lf) ap)) (.tup [4,5]) LB) (aB (aZ 6 (aw bT (ah 3) (JF vS cQ))) (aB (aZ 7 (ao iM (ae (uI 6 0) ap))) (aB (gm (wu (mR (iC (ao nw (ae (ah 7) (ae (vC (.ty "list")) ap))))) (bR (aw pX (ah 7) (ao tK (ae (ao vp (ae (uI 6 1) ap)) ap))))) (bh (vC (.bl false))) bu) (aB (aZ 4 (aw bB (ao bF (ae (ah 0) (ae tF ap))) (ao cy (ae (ah 3) ap)))) (bh (AZ (ao nP (ae (uI 6 0) (ae (ah 2) (ae (uI 6 1) (ae (uI 6 2) ap))))) (ao nP (ae (aw bT (aw bT (ah 3) (ah 4)) i4) (ae (ah 2) (ae (aw bT (aw bT (ah 3) (ah 4)) cQ) (ae (aw bT (aw bT (ah 3) (ah 4)) tF) ap))))))))))))))))
def vU:acO->R D:=cr Cr K9 ve
def RH (I:D):vU [I]=fin (Cr [some I,none,none,none,none,none,none,none]):=rfl
def kR (i:Nat):X5:=PySem.Challenge.pw_tablestore_k30_one_table.main.body.getD i (.Pass ⟨0,0,0,0⟩)
abbrev rK:X5:=kR 2
local macro_rules | `(tactic| walk_at "sc") => `(tactic| exact ⟨rfl, rfl, rfl, by trivial, rfl, by trivial, by trivial⟩)
def BB:FnScope wk lh (ax rK):=by walk_at "sc"
abbrev r6:X5:=kR 3
def BC:FnScope wE lc (ax r6):=by walk_at "sc"
abbrev n6:X5:=kR 4
def yh:FnScope sG ik (ax n6):=by walk_at "sc"
abbrev kT:X5:=kR 8
def ny:FnScope ph df (ax kT):=by walk_at "sc"
abbrev kO:X5:=kR 9
def uk:FnScope pd eM (ax kO):=by walk_at "sc"
abbrev l0:X5:=kR 11
def kN:FnScope qW cW (ax l0):=by walk_at "sc"
abbrev nO:X5:=kR 10
def fL:FnScope sR g8 (ax nO):=by walk_at "sc"
abbrev pQ:X5:=kR 12
def Al:FnScope uT jG (ax pQ):=by walk_at "sc"
abbrev pz:X5:=kR 16
def fg:FnScope uw gB (ax pz):=by walk_at "sc"
abbrev l9:X5:=kR 17
def z8:FnScope pq e9 (ax l9):=by walk_at "sc"
abbrev uF:X5:=kR 18
def rq:FnScope Ac mW (ax uF):=by walk_at "sc"
abbrev fN:X5:=kR 15
def dc:FnScope iY cV (ax fN):=by walk_at "sc"
abbrev mv:X5:=kR 14
def vI:FnScope qA fO (ax mv):=by walk_at "sc"
abbrev uW:X5:=kR 21
def ji:FnScope y9 lB (ax uW):=by walk_at "sc"
abbrev fM:X5:=kR 20
def eY:FnScope jJ ck (ax fM):=by walk_at "sc"
abbrev iB:X5:=kR 19
def kX:FnScope mL c4 (ax iB):=by walk_at "sc"
abbrev nU:X5:=kR 23
def xj:FnScope sP im (ax nU):=by walk_at "sc"
abbrev lS:X5:=kR 22
def kG:FnScope qB gk (ax lS):=by walk_at "sc"
abbrev jD:X5:=kR 25
def iy:FnScope ng dE (ax jD):=by walk_at "sc"
abbrev nS:X5:=kR 28
def wZ:FnScope sv hZ (ax nS):=by walk_at "sc"
abbrev iH:X5:=kR 31
def lI:FnScope mJ c8 (ax iH):=by walk_at "sc"
abbrev pS:X5:=kR 29
def io:FnScope uV jw (ax pS):=by walk_at "sc"
abbrev kU:X5:=kR 30
def ge:FnScope oZ eN (ax kU):=by walk_at "sc"
abbrev i5:X5:=kR 33
def pp:FnScope lZ fS (ax i5):=by walk_at "sc"
abbrev mn:X5:=kR 32
def oX:FnScope qu gd (ax mn):=by walk_at "sc"
abbrev lU:X5:=kR 34
def vy:FnScope qt gc (ax lU):=by walk_at "sc"
abbrev nq:X5:=kR 36
def xZ:FnScope sC hV (ax nq):=by walk_at "sc"
abbrev uO:X5:=kR 37
def DK:FnScope yK nH (ax uO):=by walk_at "sc"
abbrev rT:X5:=kR 38
def Ar:FnScope wl lH (ax rT):=by walk_at "sc"
abbrev rj:X5:=kR 39
def Av:FnScope v8 lK (ax rj):=by walk_at "sc"
abbrev nC:X5:=kR 40
def ce:FnScope sr g6 (ax nC):=by walk_at "sc"
abbrev kQ:X5:=kR 41
def nZ:FnScope pf eJ (ax kQ):=by walk_at "sc"
abbrev uP:X5:=kR 42
def tU:FnScope yf uY (ax uP):=by walk_at "sc"
abbrev oI:X5:=kR 43
def cD:FnScope rh lw (ax oI):=by walk_at "sc"
abbrev mT:X5:=kR 44
def mr:FnScope sT g9 (ax mT):=by walk_at "sc"
abbrev kr:X5:=kR 45
def iL:FnScope mZ gZ (ax kr):=by walk_at "sc"
abbrev ms:X5:=kR 46
def eO:FnScope qk fZ (ax ms):=by walk_at "sc"
abbrev pA:X5:=kR 47
def fk:FnScope uh jn (ax pA):=by walk_at "sc"
abbrev pU:X5:=kR 48
def yV:FnScope ut jp (ax pU):=by walk_at "sc"
abbrev tW:X5:=kR 49
def lz:FnScope zu m9 (ax tW):=by walk_at "sc"
abbrev pV:X5:=kR 50
def gY:FnScope vf jr (ax pV):=by walk_at "sc"
abbrev wV:X5:=kR 51
def jL:FnScope K9 ve (ax wV):=by walk_at "sc"
abbrev lG:X5:=match kR 27 with
 | .ClassDef _ _ _ (st::_) _ _ _ _ _ _ _=>st
 | st=>st
def Dk:FnScope ["self","shape","rows","indexes"] ["self","shape","rows","indexes"] (ax lG):=by walk_at "sc"
section
variable {X:Cx} {W:Wd} {O:acG} {φ ψ:FE} {a b:W3} {pos:Pos}
def aA (K:aT) (I:JE X a (tD W O φ)) (J:JE X b (tD W O ψ)) (hs:qe b:=by exact fun _ _=>rfl) (Y:X.K=K:=by rfl) (L:W.K=K:=by rfl):JE X (.Subscript a b pos) (tD W O (aw bT φ ψ)):=Uk (Wl K Y) (pIx K L) I J hs
def bO (K:aT) (I:JE X a (tD W O φ)) (J:JE X b (tD W O ψ)) (Y:X.K=K:=by rfl) (L:W.K=K:=by rfl):JE X (.BinOp a .Add b pos) (tD W O (aw bw φ ψ)):=ql (SV K Y) (TQ K L) I J
def b8 (I:JE X a (tD W O φ)) (J:JE X b (tD W O ψ)):JE X (.BinOp a .Mod b pos) (tD W O (aw bB φ ψ)):=ql U4 TD I J
def dX (I:JE X a (tD W O φ)) (J:JE X b (tD W O ψ)):JE X (.BinOp a .FloorDiv b pos) (tD W O (aw cG φ ψ)):=ql UF Vc I J
def gr (I:JE X a (tD W O φ)) (J:JE X b (tD W O ψ)):JE X (.BinOp a .Mult b pos) (tD W O (aw dQ φ ψ)):=ql Pq Tw I J
end
structure Txt (w:WU) (K:aT) (mg:acK) (f1 f2 f3 f4 f5 f6 f7 f8 f9 f10 f11 f12 f13 f14 f15 f16 f17 f18 f19 f20 f21 f22 f23 f24 f25 f26 f27 f28 f29 f30 f31 f32 f33 f34 f35 f36 f37 f38 f39 f40 f41 f42:ID) (d1 d2 d3 d4 d5 d6 d7 d8 d9 d10 d11 d12 d13 d14 d15 d16 d17 d18 d19 d20 d21 d22 d23 d24 d25 d26 d27 d28 d29 d30 d31 d32 d33 d34 d35 d36 d37 d38 d39 d40 d41 d42:W2) (a_KINDS:ID) (tk_FEWEST:Tok) (tk_MOST:Tok) (a_Table:ID) (fi_Table:ID) (di_Table:W2):Prop where
 fD:Def K mg "kind_of" rK lh f1 d1
 oJ:Def K mg "compare" r6 lc f2 d2
 kA:Def K mg "order_key" n6 ik f3 d3
 dh:Def K mg "comes_ahead" kT df f4 d4
 gU:Def K mg "empty_index" kO eM f5 d5
 dW:Def K mg "part_place" l0 cW f6 d6
 ip:Def K mg "has_entry" nO g8 f7 d7
 mB:Def K mg "first_of" pQ jG f8 d8
 dH:Def K mg "cells_of" pz gB f9 d9
 ff:Def K mg "parts_of" l9 e9 f10 d10
 n9:Def K mg "rooted" uF mW f11 d11
 gn:Def K mg "cells_with" fN cV f12 d12
 jc:Def K mg "with_entry" mv fO f13 d13
 qX:Def K mg "mended" uW lB f14 d14
 dI:Def K mg "cell_without" fM ck f15 d15
 eZ:Def K mg "without_entry" iB c4 f16 d16
 kB:Def K mg "entry_key" nU im f17 d17
 jd:Def K mg "index_from" lS gk f18 d18
 cO:Def K mg "column_place" jD dE f19 d19
 fE:Def K mg "new_table" nS hZ f20 d20
 c9:Def K mg "index_without" iH c8 f21 d21
 jM:Def K mg "with_row" pS jw f22 d22
 gW:Def K mg "without_row" kU eN f23 d23
 je:Def K mg "entries_by" i5 fS f24 d24
 jf:Def K mg "with_index" mn gd f25 d25
 jg:Def K mg "numbers_of" lU gc f26 d26
 cT:Def K mg "_law_cell_at" nq hV f27 d27
 jN:Def K mg "_law_rank" uO nH f28 d28
 oM:Def K mg "_law_ahead" rT lH f29 d29
 oN:Def K mg "_law_first" rj lK f30 d30
 kC:Def K mg "_law_entries" nC g6 f31 d31
 gX:Def K mg "_law_entry_key" kQ eJ f32 d32
 sj:Def K mg "_law_is" uP uY f33 d33
 lM:Def K mg "_law_names" oI lw f34 d34
 kD:Def K mg "_law_sign_by" mT g9 f35 d35
 kE:Def K mg "_law_text_by" kr gZ f36 d36
 jh:Def K mg "_law_shape_by" ms fZ f37 d37
 jO:Def K mg "_law_row_by" pA jn f38 d38
 mC:Def K mg "_law_number" pU jp f39 d39
 qY:Def K mg "_law_step" tW m9 f40 d40
 mD:Def K mg "_law_filled" pV jr f41 d41
 HI:Def K mg "law" wV ve f42 d42
 yD:∃ ob,K.lookup a_KINDS=some ob/\ob.cls=.type "tuple"/\ob.dict=none
 yE:mg "KINDS"=some (.ref a_KINDS)
 Tv:bg (.ref a_KINDS) (.ref a_KINDS)
 yF:∀ H,di K H l6 (.ref a_KINDS)
 HJ:mg "FEWEST"=some (.int 4 tk_FEWEST)
 HK:bg (.int 4) (.int 4 tk_FEWEST)
 HL:∀ H,di K H uJ (.int 4)
 HM:mg "MOST"=some (.int 8 tk_MOST)
 HN:bg (.int 8) (.int 8 tk_MOST)
 HP:∀ H,di K H lR (.int 8)
 mE:mg "Table"=some (.ref a_Table)
 aY:Uo K "Table" a_Table
 a9:IsC K a_Table
 lN:Mk K a_Table fi_Table
 qZ:Fun K "__init__" "Table.__init__" lG fi_Table di_Table
 lO:kq K di_Table ["self","shape","rows","indexes"] []
 bx:gz K a_Table "shape"
 bz:gz K a_Table "rows"
 bt:gz K a_Table "indexes"
 cg:mg "isinstance"=none
 HQ:mg "str"=none
 eT:mg "len"=none
 sk:mg "list"=none
 oO:mg "range"=none
 kF:mg "tuple"=none
 jP:mg "sorted"=none
 tq:mg "enumerate"=none
 sn:mg "dict"=none
 Tk:mg "int"=none
 BK:mg "reversed"=none
section
variable {P:Ww} {w:WU} {K:aT} {mg:acK} {base:Yy} {f1 f2 f3 f4 f5 f6 f7 f8 f9 f10 f11 f12 f13 f14 f15 f16 f17 f18 f19 f20 f21 f22 f23 f24 f25 f26 f27 f28 f29 f30 f31 f32 f33 f34 f35 f36 f37 f38 f39 f40 f41 f42:ID} {d1 d2 d3 d4 d5 d6 d7 d8 d9 d10 d11 d12 d13 d14 d15 d16 d17 d18 d19 d20 d21 d22 d23 d24 d25 d26 d27 d28 d29 d30 d31 d32 d33 d34 d35 d36 d37 d38 d39 d40 d41 d42:W2} {a_KINDS:ID} {tk_FEWEST:Tok} {tk_MOST:Tok} {a_Table:ID} {fi_Table:ID} {di_Table:W2}
variable (T:Txt w K mg f1 f2 f3 f4 f5 f6 f7 f8 f9 f10 f11 f12 f13 f14 f15 f16 f17 f18 f19 f20 f21 f22 f23 f24 f25 f26 f27 f28 f29 f30 f31 f32 f33 f34 f35 f36 f37 f38 f39 f40 f41 f42 d1 d2 d3 d4 d5 d6 d7 d8 d9 d10 d11 d12 d13 d14 d15 d16 d17 d18 d19 d20 d21 d22 d23 d24 d25 d26 d27 d28 d29 d30 d31 d32 d33 d34 d35 d36 d37 d38 d39 d40 d41 d42 a_KINDS tk_FEWEST tk_MOST a_Table fi_Table di_Table)
include T
def p5:FnOk P w K mg base cP 1 fi_Table di_Table ["self","shape","rows","indexes"] (FY a_Table ["shape","rows","indexes"]):=by
 refine T.qZ.ok (k:=0) Dk (fun vs H Q E h=>?_) fun L A I s H vs Q E Y h=>?_
 .obtain ⟨x,dx,us,rfl,h1,h2,J⟩:=h;exact acF (·+1) h1
 .refine ⟨_,(uo (Bi (pv 0) (pv 1) rfl) (uo (Bi (pv 0) (pv 2) rfl) (CV (Bi (pv 0) (pv 3) rfl)))),?_⟩;obtain ⟨x,dx,us,rfl,h1,h2,J⟩:=h
  match us,h1 with
  | [u0,u1,u2],_ =>
   refine ⟨_,rfl,_,rfl,x,_,dx,_,rfl,h2,T.a9.cl,T.bx,(by show (0:Nat) < 1000;decide),_,rfl,_,rfl,x,_,dx,_,rfl,aS,T.a9.cl,T.bz,(by show (1:Nat) < 1000;decide),_,rfl,_,rfl,x,_,dx,_,rfl,aS,T.a9.cl,T.bt,(by show (2:Nat) < 1000;decide),?_⟩;rw [x9,x9];exact J
def jo:FnOk P w K mg base cP 1 f1 d1 lh (eF K mg cq):=by
 exact T.fD.F.okD (φ:=oi) (O':=[]) BB (fun J A I s H E L=>(am (bC (aO Qk R7 (ag 0) j6 (aN _)) (ay (aE bK)) bp) (ay (aE (Co (b9 K (bE (sO K) (zW K) T.cg bW (aa (ag 0) (aa (zN T.HQ Br) ak)))) bK bK)))))
def BI:FnOk P w K mg base cP 2 f2 d2 lc (eF K mg oo):=by
 exact T.oJ.F.okD (φ:=ox) (O':=[]) BC (fun L A J s H E I=>(am (bC (aO (qQ K I.units) (Dd K) (aH T.fD (jo T) I (aa (ag 0) ak)) (aH T.fD (jo T) I (aa (ag 1) ak)) (aN _)) (ay (aE (Co (aO DH EC (ug T.yE T.yF T.yD (aa (aH T.fD (jo T) I (aa (ag 0) ak)) ak)) (ug T.yE T.yF T.yD (aa (aH T.fD (jo T) I (aa (ag 1) ak)) ak)) (aN _)) (FI Fb Fm aj) aj))) bp) (am (bC (aO (iE K I.units) (t0 K) (ag 0) (ag 1) (aN _)) (ay (aE aj)) bp) (ay (aE (Co (aO DH EC (ag 0) (ag 1) (aN _)) (FI Fb Fm aj) aj))))))
def yr:FnOk P w K mg base cP 2 f3 d3 ik (eF K mg kj):=by
 exact T.kA.F.okD (φ:=jU) (O':=[]) yh (fun J A I s H E L=>(am (bC (aO Qk R7 (ag 0) j6 (aN _)) (ay (aE (cH (aa aj (aa aj ak))))) bp) (ay (aE (cH (aa (ug T.yE T.yF T.yD (aa (aH T.fD (jo T) L (aa (ag 0) ak)) ak)) (aa (ag 0) ak)))))))
def nF:FnOk P w K mg base cP 3 f4 d4 df (eF K mg bG):=by
 exact T.dh.F.okD (φ:=gT) (O':=[]) ny (fun L A I s H E J=>(am (aQ (i:=2) (by decide) ny.nd (Wo rfl) (aH T.oJ (BI T) J (aa (aA K (ag 0) aj) (aa (aA K (ag 1) aj) ak)))) (ay (aE (UG (sE DH EC (ag 2) aj (aN _)) (Gu (KD (sE (iE K J.units) (t0 K) (ag 2) aj (aN _)) (Gu (sE DH EC (aA K (ag 0) aj) (aA K (ag 1) aj) (aN _))))))))))
def uL:FnOk P w K mg base cP 1 f5 d5 eM (eF K mg gO):=by
 exact T.gU.F.okD (φ:=gP) (O':=[]) uk (fun J A I s H E L=>(ay (aE (cH (aa bK (aa (cH ak) ak))))))
def kJ:FnOk P w K mg base cP 4 f6 d6 cW (eF K mg cc):=by
 exact T.dW.F.okD (φ:=jb) (O':=[]) kN (fun J A I s H E L=>(am (aQ (i:=2) (by decide) kN.nd (Wo rfl) aj) (am (n8 1000 WY (cp (mU (aO DH EC (bO K (ag 2) aj) (bE (oP K) (px K) T.eT dl (aa (ag 0) ak)) (aN _)) (j8 (kP (b9 K (aH T.dh (nF T) L (aa (ag 1) (aa (aA K (aA K (ag 0) (bO K (ag 2) aj)) aj) ak)))))))) (ay (Eo (i:=2) (by decide) kN.nd (Wo rfl) aj))) (ay (aE (ag 2))))))
def qr:FnOk P w K mg base cP 5 f7 d7 g8 (eF K mg fw):=by
 exact T.ip.F.okD (φ:=ki) (O':=[]) fL (fun L A J s H E I=>(am (aQ (i:=3) (by decide) fL.nd (Wo rfl) (cH (aa (ag 1) (aa (ag 2) ak)))) (am (aQ (i:=4) (by decide) fL.nd (Wo rfl) (ag 0)) (am (n8 1000 WY (aO (iE K I.units) (t0 K) (aA K (ag 4) aj) bK (aN _)) (am (aQ (i:=5) (by decide) fL.nd (Wo rfl) (aA K (ag 4) aj)) (ay (aQ (i:=4) (by decide) fL.nd (Wo rfl) (aA K (aA K (ag 5) (aH T.dW (kJ T) I (aa (ag 5) (aa (ag 3) ak)))) aj))))) (ay (aE (sE (TN K I.units) (T7 K) (ag 3) (aA K (ag 4) aj) (by with_unfolding_all rfl))))))))
def z3:FnOk P w K mg base cP 1 f8 d8 jG (eF K mg lW):=by
 exact T.mB.F.okD (φ:=lV) (O':=[]) Al (fun J A I s H E L=>(ay (aE (Co (aO (iE K L.units) (t0 K) (aA K (ag 0) aj) bK (aN _)) (aA K (aA K (ag 0) aj) aj) (aA K (aA K (aA K (ag 0) aj) aj) aj)))))
def jY:FnOk P w K mg base cP 1 f9 d9 gB (eF K mg bv):=by
 exact T.dH.F.okD (φ:=gI) (O':=[]) fg (fun J A I s H E L=>(am (aQ (i:=2) (by decide) fg.nd (Wo rfl) (dX (ql Ed ED (bO K (bE (oP K) (px K) T.eT dl (aa (ag 1) ak)) (Ba T.HM T.HN T.HP)) aj) (Ba T.HM T.HN T.HP))) (am (eB (i:=3) (by decide) fg.nd (Wo rfl) (dY ak)) (am (iw WY (lg T.oO (aa (ag 2) ak)) (b5 (i:=4) (by decide) fg.nd rfl (Wo rfl)) (am (aQ (i:=5) (by decide) fg.nd (Wo rfl) (dX (gr (ag 4) (bE (oP K) (px K) T.eT dl (aa (ag 1) ak))) (ag 2))) (am (aQ (i:=6) (by decide) fg.nd (Wo rfl) (dX (gr (bO K (ag 4) aj) (bE (oP K) (px K) T.eT dl (aa (ag 1) ak))) (ag 2))) (ay (dg (i:=3) (by decide) (cH (aa (ag 0) (aa (qD (ur K) (Jj K) T.kF jK (aa (gS (T4 K) (TW K) (ag 1) (fT (ag 5)) (fT (ag 6))) ak)) ak)))))))) (vg (O:=[3]) (O2:=[]) (ay (aE (ag 3))))))))
def km:FnOk P w K mg base cP 2 f10 d10 e9 (eF K mg cC):=by
 exact T.ff.F.okD (φ:=mm) (O':=[]) z8 (fun J A I s H E L=>(ay (aE (bZ (si (Wb:=⟨K,mg,E0⟩) (osc:=ax l9) (ON:=pq) (N:=["cell"]) (ix:=[none]) (by trivial) (nM K (ag 0)) (fun _=>(b5 (i:=0) (by decide) (by trivial:(["cell"]:acH).Nodup) rfl (Wo rfl))) (fun _=>oG) (fun _=>(cH (aa (aH T.mB (z3 T) L (aa (ag 0) ak)) (aa (ag 0) ak)))) (fR (by decide)))))))
def wz:FnOk P w K mg base cP 3 f11 d11 mW (eF K mg lj):=by
 exact T.n9.F.okD (φ:=nG) (O':=[]) rq (fun L A I s H E J=>(am (aQ (i:=1) (by decide) rq.nd (Wo rfl) (ag 0)) (am (n8 1000 WY (aO N3 N8 (bE (oP K) (px K) T.eT dl (aa (ag 1) ak)) aj (aN _)) (ay (aQ (i:=1) (by decide) rq.nd (Wo rfl) (aH T.dH (jY T) J (aa bK (aa (aH T.ff (km T) J (aa (ag 1) ak)) ak)))))) (ay (aE (aA K (ag 1) aj))))))
def pj:∀ n:Nat,FnOk P w K mg base cP (5+n) f12 d12 cV (eF K mg (cx n))
 | 0=>FnOk.void
 | n+1=>by
  have ih:=pj n;have L:FnOk P w K mg base cP (5+n) f12 d12 cV (eF K mg (cx n)):=ih;have I:FnOk P w K mg base cP 3 f4 d4 df (eF K mg bG):=nF T;have J:FnOk P w K mg base cP 1 f9 d9 gB (eF K mg bv):=jY T;have Y:FnOk P w K mg base cP 4 f6 d6 cW (eF K mg cc):=kJ T;have G_parts_of:FnOk P w K mg base cP 2 f10 d10 e9 (eF K mg cC):=km T;exact T.gn.F.okD (k:=5+n) (φ:=fX ((cx n))) (O':=[]) dc (fun cdv A outer s H E hr=>(am (bC (aO (iE K hr.units) (t0 K) (aA K (ag 0) aj) bK (aN _)) (am (xp (by decide) (xY (i:=2) dc.nd (Wo rfl) (Wb:=⟨K,mg,E0⟩) (osc:=ax fN) (ON:=iY) (N:=["other","entry"]) (ix:=[none,some 1]) (by trivial) (nM K (aA K (ag 0) aj)) (fun _=>(b5 (i:=0) (by decide) (by trivial:(["other","entry"]:acH).Nodup) rfl (Wo rfl))) (fun _=>(xl (b9 K (aH T.dh I hr (aa (ag 0) (aa (ag 1) ak)) (hj:=by omega))))) (fun _=>(ag 0)) (fR (by decide)))) (am (xp (by decide) (xY (i:=3) dc.nd (Wo rfl) (Wb:=⟨K,mg,E0⟩) (osc:=ax fN) (ON:=iY) (N:=["other","entry"]) (ix:=[none,some 1]) (by trivial) (nM K (aA K (ag 0) aj)) (fun _=>(b5 (i:=0) (by decide) (by trivial:(["other","entry"]:acH).Nodup) rfl (Wo rfl))) (fun _=>(xl (b9 K (aH T.dh I hr (aa (ag 1) (aa (ag 0) ak)) (hj:=by omega))))) (fun _=>(ag 0)) (fR (by decide)))) (ay (aE (aH T.dH J hr (aa bK (aa (bO K (bO K (ag 2) (bZ (dY (aa (ag 1) ak)))) (ag 3)) ak)) (hj:=by omega)))))) bp) (am (aQ (i:=4) (by decide) dc.nd (Wo rfl) (bZ (iV (GF K) (Ox K) T.sk ou (aa (aA K (ag 0) aj) ak)))) (am (aQ (i:=5) (by decide) dc.nd (Wo rfl) (aH T.dW Y hr (aa (ag 4) (aa (ag 1) ak)) (hj:=by omega))) (am (aQ (i:=6) (by decide) dc.nd (Wo rfl) (aH T.gn L hr (aa (aA K (aA K (ag 4) (ag 5)) aj) (aa (ag 1) ak)) (hj:=by omega))) (ay (aE (aH T.dH J hr (aa bK (aa (bO K (bO K (gS (HS K) (EY K) (ag 4) iP (fT (ag 5))) (aH T.ff G_parts_of hr (aa (ag 6) ak) (hj:=by omega))) (gS (HS K) (EY K) (ag 4) (fT (bO K (ag 5) aj)) iP)) ak)) (hj:=by omega)))))))))
def vz:FnOk P w K mg base cP 15 f12 d12 cV (eF K mg ja):=(pj T 10)
def vO:FnOk P w K mg base cP 16 f13 d13 fO (eF K mg gh):=by
 exact T.jc.F.okD (φ:=i8) (O':=[]) vI (fun L A J s H E I=>(am (bC (b9 K (aH T.ip (qr T) I (aa (ag 0) (aa (ag 1) (aa (ag 2) ak))))) (ay (aE (ag 0))) bp) (ay (aE (aH T.n9 (wz T) I (aa (aH T.gn (vz T) I (aa (ag 0) (aa (cH (aa (ag 1) (aa (ag 2) ak))) ak))) ak))))))
def DT:FnOk P w K mg base cP 3 f14 d14 lB (eF K mg nI):=by
 exact T.qX.F.okD (φ:=qz) (O':=[]) ji (fun L A J s H E I=>(am (bC (aO (iE K I.units) (t0 K) (ag 1) aj (aN _)) (am (aQ (i:=3) (by decide) ji.nd (Wo rfl) aj) (ay (aQ (i:=4) (by decide) ji.nd (Wo rfl) (bO K (aA K (ag 2) aj) (aA K (aA K (aA K (ag 0) aj) aj) aj))))) (am (aQ (i:=3) (by decide) ji.nd (Wo rfl) (ql Ed ED (ag 1) aj)) (ay (aQ (i:=4) (by decide) ji.nd (Wo rfl) (bO K (aA K (aA K (aA K (ag 0) (ag 3)) aj) aj) (aA K (ag 2) aj)))))) (am (aQ (i:=5) (by decide) ji.nd (Wo rfl) (aH T.dH (jY T) I (aa (aA K (ag 2) aj) (aa (ag 4) ak)))) (ay (aE (cH (aa bK (aa (qD (ur K) (Jj K) T.kF jK (aa (bO K (bO K (gS (HS K) (EY K) (ag 0) iP (fT (ag 3))) (aH T.ff (km T) I (aa (ag 5) ak))) (gS (HS K) (EY K) (ag 0) (fT (bO K (ag 3) aj)) iP)) ak)) ak))))))))
def mI:∀ n:Nat,FnOk P w K mg base cP (5+n) f15 d15 ck (eF K mg (bQ n))
 | 0=>FnOk.void
 | n+1=>by
  have ih:=mI n;have I:FnOk P w K mg base cP (5+n) f15 d15 ck (eF K mg (bQ n)):=ih;have J:FnOk P w K mg base cP 4 f6 d6 cW (eF K mg cc):=kJ T;have L:FnOk P w K mg base cP 2 f10 d10 e9 (eF K mg cC):=km T;have Y:FnOk P w K mg base cP 3 f14 d14 lB (eF K mg nI):=DT T;exact T.dI.F.okD (k:=5+n) (φ:=du ((bQ n))) (O':=[]) eY (fun cdv A outer s H E hr=>(am (bC (aO (iE K hr.units) (t0 K) (aA K (ag 0) aj) bK (aN _)) (ay (aE (cH (aa bK (aa (qD (ur K) (Jj K) T.kF jK (aa (bZ (si (Wb:=⟨K,mg,E0⟩) (osc:=ax fM) (ON:=jJ) (N:=["other","entry"]) (ix:=[none,some 1]) (by trivial) (nM K (aA K (ag 0) aj)) (fun _=>(b5 (i:=0) (by decide) (by trivial:(["other","entry"]:acH).Nodup) rfl (Wo rfl))) (fun _=>(xl (aO (qQ K hr.units) (Dd K) (ag 0) (ag 1) (aN _)))) (fun _=>(ag 0)) (fR (by decide)))) ak)) ak))))) bp) (am (aQ (i:=2) (by decide) eY.nd (Wo rfl) (bZ (iV (GF K) (Ox K) T.sk ou (aa (aA K (ag 0) aj) ak)))) (am (aQ (i:=3) (by decide) eY.nd (Wo rfl) (aH T.dW J hr (aa (ag 2) (aa (ag 1) ak)) (hj:=by omega))) (am (aQ (i:=4) (by decide) eY.nd (Wo rfl) (aH T.dI I hr (aa (aA K (aA K (ag 2) (ag 3)) aj) (aa (ag 1) ak)) (hj:=by omega))) (am (bC (aO oGe pGe (bE (oP K) (px K) T.eT dl (aa (aA K (ag 4) aj) ak)) (Ba T.HJ T.HK T.HL) (aN _)) (ay (aE (cH (aa bK (aa (qD (ur K) (Jj K) T.kF jK (aa (bO K (bO K (gS (HS K) (EY K) (ag 2) iP (fT (ag 3))) (aH T.ff L hr (aa (bZ (dY (aa (ag 4) ak))) ak) (hj:=by omega))) (gS (HS K) (EY K) (ag 2) (fT (bO K (ag 3) aj)) iP)) ak)) ak))))) bp) (ay (aE (aH T.qX Y hr (aa (ag 2) (aa (ag 3) (aa (ag 4) ak))) (hj:=by omega))))))))))
def tI:FnOk P w K mg base cP 15 f15 d15 ck (eF K mg dD):=(mI T 10)
def rR:FnOk P w K mg base cP 16 f16 d16 c4 (eF K mg c5):=by
 exact T.eZ.F.okD (φ:=eV) (O':=[]) kX (fun L A J s H E I=>(am (bC (kP (b9 K (aH T.ip (qr T) I (aa (ag 0) (aa (ag 1) (aa (ag 2) ak)))))) (ay (aE (ag 0))) bp) (am (aQ (i:=3) (by decide) kX.nd (Wo rfl) (aH T.dI (tI T) I (aa (ag 0) (aa (cH (aa (ag 1) (aa (ag 2) ak))) ak)))) (am (bC (cp (mU (aO (iE K I.units) (t0 K) (aA K (ag 3) aj) bK (aN _)) (j8 (aO (iE K I.units) (t0 K) (bE (oP K) (px K) T.eT dl (aa (aA K (ag 3) aj) ak)) aj (aN _))))) (ay (aE (aA K (aA K (aA K (ag 3) aj) aj) aj))) bp) (ay (aE (ag 3)))))))
def x4:FnOk P w K mg base cP 3 f17 d17 im (eF K mg cS):=by
 exact T.kB.F.okD (φ:=jT) (O':=[]) xj (fun J A I s H E L=>(ay (aE (cH (aa (aH T.kA (yr T) L (aa (aA K (ag 0) aj) ak)) (aa (aA K (ag 0) aj) ak))))))
def vw:FnOk P w K mg base cP 5 f18 d18 gk (eF K mg iQ):=by
 exact T.jd.F.okD (φ:=i6) (O':=[]) kG (fun L A J s H E I=>(am (eB (i:=1) (by decide) kG.nd (Wo rfl) (dY ak)) (am (iw WY (nM K (bZ (wD kfN T.kB (x4 T) I T.jP (ag 0)))) (b5 (i:=2) (by decide) kG.nd rfl (Wo rfl)) (ay (bC (cp (j0 (B0 K (fun k=>k) (i:=1) (by decide) (iE K I.units) (bZ (dY ak)) (aN _)) (kK (aO (qQ K I.units) (Dd K) (sw K (i:=1) (by decide) (FI Fb Fm aj)) (ag 2) (aN _))))) (ay (dg (i:=1) (by decide) (ag 2))) bp))) (am (bC (B0 K (fun k=>k) (i:=1) (by decide) (iE K I.units) (bZ (dY ak)) (aN _)) (ay (aE (Ke T.gU (uL T) I))) bp) (vg (O:=[1]) (O2:=[]) (ay (aE (aH T.n9 (wz T) I (aa (aH T.dH (jY T) I (aa bK (aa (ag 1) ak))) ak)))))))))
def iA:FnOk P w K mg base cP 1 f19 d19 dE (eF K mg cM):=by
 exact T.cO.F.okD (φ:=gb) (O':=[]) iy (fun J A I s H E L=>(am (iw WY (qd T.tq (aa (aA K (ag 0) aj) ak)) (w6 K (g7 (b5 (i:=2) (by decide) iy.nd rfl (Wo rfl)) (g7 (b5 (i:=3) (by decide) iy.nd rfl (Wo rfl)) tS))) (ay (bC (aO (iE K L.units) (t0 K) (aA K (ag 3) aj) (ag 1) (aN _)) (ay (aE (ag 2))) bp))) (ay (aE j6))))
def my:FnOk P w K mg base cP 3 f20 d20 hZ (eF K mg dw):=by
 exact T.fE.F.okD (φ:=jX) (O':=[]) wZ (fun J A I s H E L=>(ay (aE (bZ (wX T.aY T.mE T.lN (p5 T) T.lO L (aa (ag 0) (aa (w9 mw) (aa (w9 mw) ak))))))))
def lm:FnOk P w K mg base cP 17 f21 d21 c8 (eF K mg c6):=by
 exact T.c9.F.okD (φ:=eU) (O':=[]) lI (fun L A J s H E I=>(am (aQ (i:=3) (by decide) lI.nd (Wo rfl) (zQ I.units (dq K T.aY T.a9.cl T.bt (ag 0)) (ag 1))) (am (bC (aO (EG I.units) Ik (ag 2) (dq K T.aY T.a9.cl T.bz (ag 0)) (by with_unfolding_all rfl)) (ay (aE (ag 3))) bp) (ay (aE (aH T.eZ (rR T) I (aa (ag 3) (aa (aA K (zQ I.units (dq K T.aY T.a9.cl T.bz (ag 0)) (ag 2)) (aH T.cO (iA T) I (aa (dq K T.aY T.a9.cl T.bx (ag 0)) (aa (ag 1) ak)))) (aa (ag 2) ak)))))))))
def sM:FnOk P w K mg base cP 18 f22 d22 jw (eF K mg gA):=by
 exact T.jM.F.okD (φ:=mi) (O':=[]) io (fun L A J s H E I=>(am (eB (i:=3) (by decide) io.nd (Wo rfl) (iV iX Kf T.sn og (aa (dq K T.aY T.a9.cl T.bz (ag 0)) ak))) (am (on (i:=3) I.units (by decide) (ag 2) (ag 1)) (am (eB (i:=4) (by decide) io.nd (Wo rfl) mw) (am (iw WY (ye (dq K T.aY T.a9.cl T.bt (ag 0))) (b5 (i:=5) (by decide) io.nd rfl (Wo rfl)) (am (aQ (i:=6) (by decide) io.nd (Wo rfl) (aH T.c9 (lm T) I (aa (ag 0) (aa (ag 5) (aa (ag 1) ak))))) (ay (on (i:=4) I.units (by decide) (aH T.jc (vO T) I (aa (ag 6) (aa (aA K (ag 2) (aH T.cO (iA T) I (aa (dq K T.aY T.a9.cl T.bx (ag 0)) (aa (ag 5) ak)))) (aa (ag 1) ak)))) (ag 5))))) (qT (i:=4) (O:=[4,3]) (O2:=[3]) (qT (i:=3) (O:=[3]) (O2:=[]) (ay (aE (bZ (wX T.aY T.mE T.lN (p5 T) T.lO I (aa (dq K T.aY T.a9.cl T.bx (ag 0)) (aa (ag 3) (aa (ag 4) ak))))))))))))))
def t9:FnOk P w K mg base cP 18 f23 d23 eN (eF K mg gM):=by
 exact T.gW.F.okD (φ:=gN) (O':=[]) ge (fun L A J s H E I=>(am (eB (i:=2) (by decide) ge.nd (Wo rfl) (iV iX Kf T.sn og (aa (dq K T.aY T.a9.cl T.bz (ag 0)) ak))) (am (Cb (i:=2) (by decide) (ag 1)) (am (eB (i:=3) (by decide) ge.nd (Wo rfl) mw) (am (iw WY (ye (dq K T.aY T.a9.cl T.bt (ag 0))) (b5 (i:=4) (by decide) ge.nd rfl (Wo rfl)) (ay (on (i:=3) I.units (by decide) (aH T.c9 (lm T) I (aa (ag 0) (aa (ag 4) (aa (ag 1) ak)))) (ag 4)))) (qT (i:=3) (O:=[3,2]) (O2:=[2]) (qT (i:=2) (O:=[2]) (O2:=[]) (ay (aE (bZ (wX T.aY T.mE T.lN (p5 T) T.lO I (aa (dq K T.aY T.a9.cl T.bx (ag 0)) (aa (ag 2) (aa (ag 3) ak))))))))))))))
def vF:FnOk P w K mg base cP 2 f24 d24 fS (eF K mg iT):=by
 exact T.je.F.okD (φ:=iU) (O':=[]) pp (fun J A I s H E L=>(am (aQ (i:=2) (by decide) pp.nd (Xs rfl) (aH T.cO (iA T) L (aa (dq K T.aY T.a9.cl T.bx (ag 0)) (aa (ag 1) ak)))) (ay (aE (bZ (si (Wb:=⟨K,mg,E0⟩) (osc:=ax i5) (ON:=lZ) (N:=["number","row","place"]) (ix:=[none,none,some 2]) (by trivial) (F6 (dq K T.aY T.a9.cl T.bz (ag 0))) (fun _=>(w6 K (g7 (b5 (i:=0) (by decide) (by trivial:(["number","row","place"]:acH).Nodup) rfl (Wo rfl)) (g7 (b5 (i:=1) (by decide) (by trivial:(["number","row","place"]:acH).Nodup) rfl (Wo rfl)) tS)))) (fun _=>oG) (fun _=>(cH (aa (aA K (ag 1) (ag 2)) (aa (ag 0) ak)))) (fR (by decide))))))))
def vH:FnOk P w K mg base cP 6 f25 d25 gd (eF K mg gg):=by
 exact T.jf.F.okD (φ:=i9) (O':=[]) oX (fun L A J s H E I=>(am (eB (i:=2) (by decide) oX.nd (Wo rfl) (iV iX Kf T.sn og (aa (dq K T.aY T.a9.cl T.bt (ag 0)) ak))) (am (on (i:=2) I.units (by decide) (aH T.jd (vw T) I (aa (aH T.je (vF T) I (aa (ag 0) (aa (ag 1) ak))) ak)) (ag 1)) (qT (i:=2) (O:=[2]) (O2:=[]) (ay (aE (bZ (wX T.aY T.mE T.lN (p5 T) T.lO I (aa (dq K T.aY T.a9.cl T.bx (ag 0)) (aa (dq K T.aY T.a9.cl T.bz (ag 0)) (aa (ag 2) ak)))))))))))
def vA:FnOk P w K mg base cP 1 f26 d26 gc (eF K mg iM):=by
 exact T.jg.F.okD (φ:=iZ) (O':=[]) vy (fun J A I s H E L=>(ay (aE (bZ (lF K rfl T.jP (dq K T.aY T.a9.cl T.bz (ag 0)))))))
def fH:FnOk P w K mg base cP 1 f27 d27 hV (eF K mg bF):=by
 exact T.cT.F.okD (φ:=ky) (O':=[]) xZ (fun J A I s H E L=>(am (bC (aO DH EC (ag 1) (bE (oP K) (px K) T.eT dl (aa (ag 0) ak)) (aN _)) (ay (aE (aA K (ag 0) (ag 1)))) bp) (ay (aE aj))))
def ow:FnOk P w K mg base cP 1 f28 d28 nH (eF K mg fQ):=by
 exact T.jN.F.okD (φ:=qE) (O':=[]) DK (fun J A I s H E L=>(am (bC (aO Qk R7 (ag 0) j6 (aN _)) (ay (aE aj)) bp) (am (bC (b9 K (bE (sO K) (zW K) T.cg bW (aa (ag 0) (aa (zN T.HQ Br) ak)))) (ay (aE aj)) bp) (ay (aE aj)))))
def Aw:FnOk P w K mg base cP 2 f29 d29 lH (eF K mg oE):=by
 exact T.oM.F.okD (φ:=om) (O':=[]) Ar (fun L A J s H E I=>(am (bC (aO (qQ K I.units) (Dd K) (aH T.jN (ow T) I (aa (aA K (ag 0) aj) ak)) (aH T.jN (ow T) I (aa (aA K (ag 1) aj) ak)) (aN _)) (ay (aE (sE DH EC (aH T.jN (ow T) I (aa (aA K (ag 0) aj) ak)) (aH T.jN (ow T) I (aa (aA K (ag 1) aj) ak)) (aN _)))) bp) (am (bC (cp (j0 (aO Qk R7 (aA K (ag 0) aj) j6 (aN _)) (kK (aO (iE K I.units) (t0 K) (aA K (ag 0) aj) (aA K (ag 1) aj) (aN _))))) (ay (aE (sE DH EC (aA K (ag 0) aj) (aA K (ag 1) aj) (aN _)))) bp) (ay (aE (sE DH EC (aA K (ag 0) aj) (aA K (ag 1) aj) (aN _)))))))
def BH:FnOk P w K mg base cP 1 f30 d30 lK (eF K mg oe):=by
 exact T.oN.F.okD (φ:=oq) (O':=[]) Av (fun J A I s H E L=>(am (bC (aO (iE K L.units) (t0 K) (aA K (ag 0) aj) bK (aN _)) (ay (aE (aA K (aA K (ag 0) aj) aj))) bp) (ay (aE (aA K (aA K (aA K (ag 0) aj) aj) aj)))))
def xf:FnOk P w K mg base cP 3 f31 d31 g6 (eF K mg j5):=by
 exact T.kC.F.okD (φ:=j9) (O':=[]) ce (fun L A J s H E I=>(am (eB (i:=1) (by decide) ce.nd (Wo rfl) (dY ak)) (am (aQ (i:=2) (by decide) ce.nd (Wo rfl) j6) (am (eB (i:=3) (by decide) ce.nd (Wo rfl) (dY (aa (cH (aa (ag 0) (aa aj ak))) ak))) (am (n8 1000 WY (aO N3 N8 (xX K (i:=3) (by decide) T.eT) aj (aN _)) (am (Ds (i:=3) (by decide) (Nu (w6 K (g7 (b5 (i:=4) (by decide) ce.nd rfl (Wo rfl)) (g7 (b5 (i:=5) (by decide) ce.nd rfl (Wo rfl)) tS))))) (am (bC (cp (j0 (kP (b9 K (bE (sO K) (zW K) T.cg bW (aa (ag 4) (aa (zN T.kF jK) ak))))) (j0 (aO (qQ K I.units) (Dd K) (bE (oP K) (px K) T.eT dl (aa (ag 4) ak)) aj (aN _)) (j0 (kP (b9 K (bE (sO K) (zW K) T.cg bW (aa (aA K (ag 4) aj) (aa (zN T.kF jK) ak))))) (kK (aO N3 N8 (bE (oP K) (px K) T.eT dl (aa (aA K (ag 4) aj) ak)) aj (aN _))))))) (ay (aE j6)) bp) (ay (bC (aO (iE K I.units) (t0 K) (aA K (ag 4) aj) bK (aN _)) (am (bC (cp (j0 (cp (mU (aO N3 N8 (ag 5) aj (aN _)) (j8 (aO DH EC (bE (oP K) (px K) T.eT dl (aa (aA K (ag 4) aj) ak)) aj (aN _))))) (kK (cp (mU (aO ND Mj (ag 2) j6 (aN _)) (j8 (aO (qQ K I.units) (Dd K) (ag 2) (ag 5) (aN _)))))))) (ay (aE j6)) bp) (am (aQ (i:=2) (by decide) ce.nd (Wo rfl) (ag 5)) (ay (D5 (i:=1) (by decide) (aA K (ag 4) aj))))) (ay (bC (cp (j0 (aO (qQ K I.units) (Dd K) (aA K (ag 4) aj) bK (aN _)) (kK (aO DH EC (bE (oP K) (px K) T.eT dl (aa (aA K (ag 4) aj) ak)) (bO K aj (gr aj (qD U6 Up T.Tk L0 (aa (sE N3 N8 (ag 5) aj (aN _)) ak)))) (aN _))))) (ay (aE j6)) (ay (iw WY (Kh K rfl T.BK (aa (aA K (ag 4) aj) ak)) (b5 (i:=6) (by decide) ce.nd rfl (Wo rfl)) (am (bC (cp (j0 (aO (qQ K I.units) (Dd K) (bE (oP K) (px K) T.eT dl (aa (ag 6) ak)) aj (aN _)) (kK (aO (qQ K I.units) (Dd K) (aA K (ag 6) aj) (aH T.oN (BH T) I (aa (aA K (ag 6) aj) ak)) (aN _))))) (ay (aE j6)) bp) (ay (dg (i:=3) (by decide) (cH (aa (aA K (ag 6) aj) (aa (bO K (ag 5) aj) ak))))))))))))))) (am (iw WY (Ee T.oO (aa aj (aa (xX K (i:=1) (by decide) T.eT) ak))) (b5 (i:=7) (by decide) ce.nd rfl (Wo rfl)) (ay (bC (kP (b9 K (aH T.oM (Aw T) I (aa (sw K (i:=1) (by decide) (ql Ed ED (ag 7) aj)) (aa (sw K (i:=1) (by decide) (ag 7)) ak))))) (ay (aE j6)) bp))) (vg (O:=[3,1]) (O2:=[3]) (ay (aE (ag 1))))))))))
def uH:FnOk P w K mg base cP 1 f32 d32 eJ (eF K mg ci):=by
 exact T.gX.F.okD (φ:=gQ) (O':=[]) nZ (fun J A I s H E L=>(am (aQ (i:=1) (by decide) nZ.nd (Wo rfl) (aA K (ag 0) aj)) (am (bC (aO Qk R7 (ag 1) j6 (aN _)) (ay (aE (cH (aa aj (aa aj (aa bK (aa (aA K (ag 0) aj) ak))))))) bp) (am (bC (b9 K (bE (sO K) (zW K) T.cg bW (aa (ag 1) (aa (zN T.HQ Br) ak)))) (ay (aE (cH (aa aj (aa aj (aa (ag 1) (aa (aA K (ag 0) aj) ak))))))) bp) (ay (aE (cH (aa aj (aa (ag 1) (aa bK (aa (aA K (ag 0) aj) ak)))))))))))
def xI:FnOk P w K mg base cP 4 f33 d33 uY (eF K mg nP):=by
 exact T.sj.F.okD (φ:=xH) (O':=[]) tU (fun L A J s H E I=>(am (bC (cp (j0 (kP (b9 K (bE (Uu T.a9) (UW T.aY) T.cg bW (aa (ag 0) (aa (RP T.mE T.aY) ak))))) (j0 (aO (qQ K I.units) (Dd K) (dq K T.aY T.a9.cl T.bx (ag 0)) (ag 1) (aN _)) (j0 (kP (b9 K (bE (sO K) (zW K) T.cg bW (aa (dq K T.aY T.a9.cl T.bz (ag 0)) (aa (zN T.sn og) ak))))) (kK (aO (L9 K I.units) (Ud K) (dq K T.aY T.a9.cl T.bz (ag 0)) (ag 2) (aN _))))))) (ay (aE D6)) bp) (am (bC (cp (j0 (kP (b9 K (bE (sO K) (zW K) T.cg bW (aa (dq K T.aY T.a9.cl T.bt (ag 0)) (aa (zN T.sn og) ak))))) (kK (aO (qQ K I.units) (Dd K) (bZ (lF K rfl T.jP (bZ (iV (pR rfl) Gz T.sk ou (aa (dq K T.aY T.a9.cl T.bt (ag 0)) ak))))) (bZ (lF K rfl T.jP (ag 3))) (aN _))))) (ay (aE D6)) bp) (am (iw WY (nM K (ag 3)) (b5 (i:=4) (by decide) tU.nd rfl (Wo rfl)) (am (aQ (i:=5) (by decide) tU.nd (Xs rfl) (GZ K (bZ (si (Wb:=⟨K,mg,E0⟩) (osc:=ax uP) (ON:=yf) (N:=["_law_one"]) (ix:=[none]) (by trivial) (nM K (aA K (ag 1) aj)) (fun _=>(b5 (i:=0) (by decide) (by trivial:(["_law_one"]:acH).Nodup) rfl (Wo rfl))) (fun _=>oG) (fun _=>(aA K (ag 0) aj)) (fR (by decide)))) (ag 4))) (am (xp (by decide) (xY (i:=6) tU.nd (Wo rfl) (Wb:=⟨K,mg,E0⟩) (osc:=ax uP) (ON:=yf) (N:=["_law_number_here","_law_at","_law_rows"]) (ix:=[none,some 5,some 2]) (by trivial) (ye (ag 2)) (fun _=>(b5 (i:=0) (by decide) (by trivial:(["_law_number_here","_law_at","_law_rows"]:acH).Nodup) rfl (Wo rfl))) (fun _=>oG) (fun _=>(cH (aa (aA K (zQ I.units (ag 2) (ag 0)) (ag 1)) (aa (ag 0) ak)))) (fR (by decide)))) (ay (bC (aO (qQ K I.units) (Dd K) (aH T.kC (xf T) I (aa (zQ I.units (dq K T.aY T.a9.cl T.bt (ag 0)) (ag 4)) ak)) (bZ (E2 T.gX (uH T) I T.jP (ag 6))) (aN _)) (ay (aE D6)) bp))))) (ay (aE D6))))))
def ud:FnOk P w K mg base cP 1 f34 d34 lw (eF K mg jj):=by
 exact T.lM.F.okD (φ:=oj) (O':=[]) cD (fun J A I s H E L=>(am (aQ (i:=2) (by decide) cD.nd (Wo rfl) (bO K aj (b8 (ag 0) aj))) (am (aQ (i:=3) (by decide) cD.nd (Wo rfl) (Oo abc abd (CP K) (Lj K) bK (aa (bZ (si (Wb:=⟨K,mg,E0⟩) (osc:=ax oI) (ON:=rh) (N:=["_law_n","_law_cell"]) (ix:=[none,some 0]) (by trivial) (lg T.oO (aa (ag 2) ak)) (fun _=>(b5 (i:=0) (by decide) (by trivial:(["_law_n","_law_cell"]:acH).Nodup) rfl (Wo rfl))) (fun _=>oG) (fun _=>(aA K bK (b8 (bO K (dX (ag 1) aj) (gr aj (ag 0))) aj))) (fR (by decide)))) ak))) (am (aQ (i:=4) (by decide) cD.nd (Wo rfl) (b8 (dX (ag 0) aj) (ag 2))) (am (eB (i:=5) (by decide) cD.nd (Wo rfl) (dY ak)) (am (aQ (i:=6) (by decide) cD.nd (Wo rfl) aj) (am (n8 1000 WY (aO DH EC (xX K (i:=5) (by decide) T.eT) (ag 1) (aN _)) (am (aQ (i:=7) (by decide) cD.nd (Wo rfl) (aA K bK (b8 (bO K (dX (ag 0) aj) (gr aj (ag 6))) aj))) (am (aQ (i:=8) (by decide) cD.nd (Wo rfl) (bO K (bO K (gS (HS K) (EY K) (ag 3) iP (fT (ag 4))) (ag 7)) (gS (HS K) (EY K) (ag 3) (fT (bO K (ag 4) aj)) iP))) (am (aQ (i:=9) (by decide) cD.nd (Wo rfl) (bZ (dY (aa bK (aa bK (aa bK (aa bK (aa bK (aa bK (aa bK (aa bK (aa bK (aa bK ak))))))))))))) (am (bC (cp (mU (aO (qQ K L.units) (Dd K) (ag 8) bK (aN _)) (j8 (aO (Ck K) (FX K) (ag 8) (ag 9) (by with_unfolding_all rfl))))) (ay (dg (i:=5) (by decide) (ag 8))) bp) (ay (aQ (i:=6) (by decide) cD.nd (Wo rfl) (bO K (ag 6) aj)))))))) (vg (O:=[5]) (O2:=[]) (ay (aE (ag 5)))))))))))
def xW:FnOk P w K mg base cP 1 f35 d35 g9 (eF K mg kn):=by
 exact T.kD.F.okD (φ:=kh) (O':=[]) mr (fun J A I s H E L=>(am (aQ (i:=1) (by decide) mr.nd (Wo rfl) bK) (am (aQ (i:=1) (by decide) mr.nd (Wo rfl) (bO K (ag 1) bK)) (ay (aE (aA K (ag 1) (b8 (ag 0) aj)))))))
def yd:FnOk P w K mg base cP 2 f36 d36 gZ (eF K mg jZ):=by
 exact T.kE.F.okD (φ:=jS) (O':=[]) iL (fun L A I s H E J=>(am (aQ (i:=1) (by decide) iL.nd (Wo rfl) (b8 (ag 0) aj)) (am (bC (aO (iE K J.units) (t0 K) (b8 (dX (ag 0) aj) aj) aj (aN _)) (ay (aQ (i:=1) (by decide) iL.nd (Wo rfl) (b8 (dX (ag 0) aj) aj))) bp) (am (aQ (i:=2) (by decide) iL.nd (Xs rfl) (aA K (bZ (dY (aa aj (aa aj (aa aj ak))))) (b8 (dX (ag 0) aj) aj))) (ay (aE (Oo abc abd (CP K) (Lj K) bK (aa (bZ (si (Wb:=⟨K,mg,E0⟩) (osc:=ax kr) (ON:=mZ) (N:=["_law_k","_law_cell","_law_step_here"]) (ix:=[none,some 0,some 2]) (by trivial) (lg T.oO (aa (ag 1) ak)) (fun _=>(b5 (i:=0) (by decide) (by trivial:(["_law_k","_law_cell","_law_step_here"]:acH).Nodup) rfl (Wo rfl))) (fun _=>oG) (fun _=>(aH T.kD (xW T) J (aa (bO K (dX (ag 1) aj) (gr (ag 2) (ag 0))) ak))) (fR (by decide)))) ak))))))))
def vG:FnOk P w K mg base cP 2 f37 d37 fZ (eF K mg gj):=by
 exact T.jh.F.okD (φ:=iS) (O':=[]) eO (fun J A I s H E L=>(am (aQ (i:=2) (by decide) eO.nd (Wo rfl) (aH T.lM (ud T) L (aa (dX (ag 1) aj) (aa (aA K (bZ (dY (aa aj (aa aj (aa aj (aa aj (aa aj (aa aj (aa aj (aa aj ak)))))))))) (b8 (ag 1) aj)) ak)))) (am (eB (i:=3) (by decide) eO.nd (Wo rfl) (dY ak)) (am (iw WY (lg T.oO (aa (bE (oP K) (px K) T.eT dl (aa (ag 2) ak)) ak)) (b5 (i:=4) (by decide) eO.nd rfl (Wo rfl)) (am (aQ (i:=5) (by decide) eO.nd (Wo rfl) (aA K (bZ (dY (aa bK (aa bK ak)))) (b8 (dX (ag 1) (aA K (bZ (dY (aa aj (aa aj (aa aj (aa aj (aa aj (aa aj (aa aj (aa aj ak)))))))))) (ag 4))) aj))) (ay (dg (i:=3) (by decide) (cH (aa (aA K (ag 2) (ag 4)) (aa (ag 5) ak))))))) (ay (aE (cH (aa (ag 0) (aa (Gf K (i:=3) (by decide) T.kF) ak)))))))))
def sA:FnOk P w K mg base cP 3 f38 d38 jn (eF K mg fe):=by
 exact T.jO.F.okD (φ:=mx) (O':=[]) fk (fun L A J s H E I=>(am (eB (i:=2) (by decide) fk.nd (Wo rfl) (dY ak)) (am (aQ (i:=3) (by decide) fk.nd (Wo rfl) (b8 (bO K (gr (ag 1) aj) aj) aj)) (am (iw WY (nM K (aA K (ag 0) aj)) (b5 (i:=4) (by decide) fk.nd rfl (Wo rfl)) (am (aQ (i:=3) (by decide) fk.nd (Wo rfl) (b8 (bO K (gr (ag 3) aj) aj) aj)) (am (aQ (i:=5) (by decide) fk.nd (Wo rfl) (dX (ag 3) aj)) (ay (bC (cp (j0 (aO (iE K I.units) (t0 K) (b8 (ag 5) aj) aj (aN _)) (kK (aO (iE K I.units) (t0 K) (b8 (ag 1) aj) aj (aN _))))) (ay (dg (i:=2) (by decide) j6)) (ay (bC (aO (iE K I.units) (t0 K) (aA K (ag 4) aj) bK (aN _)) (ay (dg (i:=2) (by decide) (aH T.kE (yd T) I (aa (dX (ag 5) aj) ak)))) (ay (bC (aO (iE K I.units) (t0 K) (b8 (dX (ag 5) aj) aj) aj (aN _)) (ay (dg (i:=2) (by decide) (bO K (ql Ed ED (b8 (gr (ag 5) (bO K (ql Ja Ju aj aj) aj)) (ql Ed ED (gr aj (ql Ja Ju aj aj)) aj)) (ql Ja Ju aj aj)) aj))) (ay (dg (i:=2) (by decide) (ql Ed ED (b8 (dX (ag 5) aj) aj) aj)))))))))))) (ay (aE (Gf K (i:=2) (by decide) T.kF)))))))
def zZ:FnOk P w K mg base cP 1 f39 d39 jp (eF K mg jz):=by
 exact T.mC.F.okD (φ:=l5) (O':=[]) yV (fun J A I s H E L=>(am (bC (cp (mU (aO N3 N8 (bE wc KU T.eT dl (aa (ag 1) ak)) aj (aN _)) (j8 (aO DH EC (b8 (ag 0) aj) aj (aN _))))) (ay (aE (aA K (bZ (lF K rfl T.jP (bZ (iV (pR rfl) Gz T.sk ou (aa (ag 1) ak))))) (b8 (dX (ag 0) aj) (bE wc KU T.eT dl (aa (ag 1) ak)))))) bp) (am (bC (aO (iE K L.units) (t0 K) (b8 (ag 0) aj) aj (aN _)) (ay (aE (bO K aj (b8 (dX (ag 0) aj) (ql Ja Ju aj aj))))) bp) (ay (aE (bO K aj (b8 (dX (ag 0) aj) aj)))))))
def Em:FnOk P w K mg base cP 19 f40 d40 m9 (eF K mg ni):=by
 exact T.qY.F.okD (φ:=qp) (O':=[]) lz (fun L A J s H E I=>(am (aQ (i:=4) (by decide) lz.nd (Wo rfl) (dq K T.aY T.a9.cl T.bx (ag 0))) (am (aQ (i:=5) (by decide) lz.nd (Wo rfl) (aH T.mC (zZ T) I (aa (dX (ag 3) aj) (aa (ag 1) ak)))) (am (eB (i:=6) (by decide) lz.nd (Wo rfl) (iV iX Kf T.sn og (aa (ag 1) ak))) (am (bC (cp (mU (aO (iE K I.units) (t0 K) (b8 (ag 3) aj) aj (aN _)) (j8 (aO (LG I.units) UO (ag 5) (ag 1) (by with_unfolding_all rfl))))) (am (Cb (i:=6) (by decide) (ag 5)) (qT (i:=6) (O:=[6]) (O2:=[]) (ay (aE (cH (aa (aH T.gW (t9 T) I (aa (ag 0) (aa (ag 5) ak))) (aa (ag 6) (aa (ag 2) ak)))))))) bp) (am (bC (aO (iE K I.units) (t0 K) (b8 (ag 3) aj) aj (aN _)) (am (aQ (i:=7) (by decide) lz.nd (Wo rfl) (aA K (aA K (aA K (ag 4) aj) (b8 (dX (ag 3) aj) (bE (oP K) (px K) T.eT dl (aa (aA K (ag 4) aj) ak)))) aj)) (ay (bC (aO (Ck K) (FX K) (ag 7) (ag 2) (by with_unfolding_all rfl)) (qT (i:=6) (O:=[6]) (O2:=[]) (ay (aE (cH (aa (aH T.jf (vH T) I (aa (ag 0) (aa (ag 7) ak))) (aa (ag 6) (aa (bO K (ag 2) (bZ (dY (aa (ag 7) ak)))) ak))))))) bp))) bp) (am (on (i:=6) I.units (by decide) (aH T.jO (sA T) I (aa (ag 4) (aa (ag 3) ak))) (ag 5)) (qT (i:=6) (O:=[6]) (O2:=[]) (ay (aE (cH (aa (aH T.jM (sM T) I (aa (ag 0) (aa (ag 5) (aa (zQ I.units (ag 6) (ag 5)) ak)))) (aa (ag 6) (aa (ag 2) ak))))))))))))))
def y3:FnOk P w K mg base cP 19 f41 d41 jr (UN K mg jy):=by
 exact T.mD.F.okN (φ:=mh) (O':=[]) gY (fun L A J s H E I=>(am (aQ (i:=2) (by decide) gY.nd (Wo rfl) (aH T.fE (my T) I (aa (ag 0) ak))) (am (eB (i:=3) (by decide) gY.nd (Wo rfl) mw) (am (iw WY (lg T.oO (aa (ag 1) ak)) (b5 (i:=4) (by decide) gY.nd rfl (Wo rfl)) (am (on (i:=3) I.units (by decide) (aH T.jO (sA T) I (aa (ag 0) (aa (gr aj (ag 4)) ak))) (bO K (gr aj (ag 4)) aj)) (ay (aQ (i:=2) (by decide) gY.nd (Wo rfl) (aH T.jM (sM T) I (aa (ag 2) (aa (bO K (gr aj (ag 4)) aj) (aa (N2 I.units (i:=3) (by decide) (bO K (gr aj (ag 4)) aj)) ak)))))))) (qT (i:=3) (O:=[3]) (O2:=[]) (ay (JN (dY (aa (cH (aa (aH T.fE (my T) I (aa (ag 0) ak)) (aa (w9 mw) (aa (bZ (dY ak)) ak)))) (aa (cH (aa (ag 2) (aa (ag 3) (aa (bZ (dY ak)) ak)))) ak))))))))))
def MY:FnOk P w K mg base cP 20 f42 d42 ve (eF K mg vU):=by
 exact T.HI.F.okD (φ:=Cr) (O':=[]) jL (fun L A J s H E I=>(am (aQ (i:=1) (by decide) jL.nd (Wo rfl) (aA K (aH T.lM (ud T) I (aa (b8 (gr (aH T.cT (fH T) I (aa (ag 0) (aa aj ak))) aj) aj) (aa aj ak))) aj)) (am (aQ (i:=2) (by decide) jL.nd (Wo rfl) (aH T.jh (vG T) I (aa (ag 1) (aa (b8 (gr (aH T.cT (fH T) I (aa (ag 0) (aa aj ak))) aj) aj) ak)))) (am (eB (i:=3) (by decide) jL.nd (Wo rfl) (dY (aa (cH (aa (aH T.fE (my T) I (aa (ag 2) ak)) (aa (w9 mw) (aa (bZ (dY ak)) ak)))) ak))) (am (bC (aO (iE K I.units) (t0 K) (b8 (aH T.cT (fH T) I (aa (ag 0) (aa aj ak))) aj) aj (aN _)) (vg (O:=[3]) (O2:=[]) (ay (eB (i:=3) (by decide) jL.nd (Wo rfl) (JZ T.mD (y3 T) I (aa (ag 2) (aa (bO K aj (b8 (dX (aH T.cT (fH T) I (aa (ag 0) (aa aj ak))) aj) aj)) ak)))))) bp) (am (iw WY (qd T.tq (aa (gS (HS K) (EY K) (ag 0) (fT aj) iP) ak)) (w6 K (g7 (b5 (i:=4) (by decide) jL.nd rfl (Wo rfl)) (g7 (b5 (i:=5) (by decide) jL.nd rfl (Wo rfl)) tS))) (am (aQ (i:=6) (by decide) jL.nd (Wo rfl) (sw K (i:=3) (by decide) (FI Fb Fm aj))) (am (dg (i:=3) (by decide) (aH T.qY (Em T) I (aa (aA K (ag 6) aj) (aa (aA K (ag 6) aj) (aa (aA K (ag 6) aj) (aa (b8 (gr (bO K (ag 5) (gr aj (ag 4))) aj) aj) ak)))))) (ay (bC (cp (mU (aO (iE K I.units) (t0 K) (b8 (ag 4) aj) aj (aN _)) (j8 (kP (b9 K (aH T.sj (xI T) I (aa (aA K (ag 6) aj) (aa (ag 2) (aa (aA K (ag 6) aj) (aa (aA K (ag 6) aj) ak)))))))))) (ay (aE D6)) bp))))) (am (aQ (i:=6) (by decide) jL.nd (Wo rfl) (sw K (i:=3) (by decide) (FI Fb Fm aj))) (am (aQ (i:=7) (by decide) jL.nd (Wo rfl) (aH T.jg (vA T) I (aa (aA K (ag 6) aj) ak))) (am (bC (cp (j0 (kP (b9 K (bE (sO K) (zW K) T.cg bW (aa (ag 7) (aa (zN T.sk ou) ak))))) (kK (aO (qQ K I.units) (Dd K) (ag 7) (bZ (lF K rfl T.jP (bZ (iV (pR rfl) Gz T.sk ou (aa (aA K (ag 6) aj) ak))))) (aN _))))) (ay (aE D6)) bp) (am (aQ (i:=4) (by decide) jL.nd (Wo rfl) (b8 (aH T.cT (fH T) I (aa (ag 0) (aa aj ak))) (xX K (i:=3) (by decide) T.eT))) (ay (aE (KD (aH T.sj (xI T) I (aa (aA K (ag 6) aj) (aa (ag 2) (aa (aA K (ag 6) aj) (aa (aA K (ag 6) aj) ak))))) (Gu (aH T.sj (xI T) I (aa (aA K (sw K (i:=3) (by decide) (ag 4)) aj) (aa (ag 2) (aa (aA K (sw K (i:=3) (by decide) (ag 4)) aj) (aa (aA K (sw K (i:=3) (by decide) (ag 4)) aj) ak)))))))))))))))))))
end
open TS (K4 ca)
def br {τ:FT} {S T:FS} {U:Sd} (h:τ U=.ok true):gm τ S T U=S U:=by rw [Tc,h,aF,OB,acA rfl]
def jW {τ:FT} {S T:FS} {U:Sd} (h:τ U=.ok false):gm τ S T U=T U:=by rw [Tc,h,aF,OB,acB iF]
def av {S T:FS} {U δ':Sd} (h:S U=.ok (.nx δ')):aB S T U=T δ':=by rw [KM,h,aF,NQ]
def bV {S T:FS} {U:Sd} {d:D} (h:S U=.ok (.rt d)):aB S T U=.ok (.rt d):=by rw [KM,h];rfl
def aD {φ:FE} {U:Sd} {d:D} (h:φ U=.ok d):bh φ U=.ok (.rt d):=by rw [Su,h];rfl
def HZ {φ:FE} {U:Sd} {d:D} (h:φ U=.ok d):B2 φ U=.ok (.rn d):=by rw [M6,h];rfl
def aI {k:Nat} {φ:FE} {U:Sd} {d:D} (h:φ U=.ok d):aZ k φ U=.ok (.nx (U.set k (some d))):=by rw [PR,h];rfl
def dj {k:Nat} {φ:FE} {U:Sd} {d:D} (h:φ U=.ok d) (I:k < U.length:=by simp):jH k φ U=.ok (.nx (U.set k (some d))):=by rw [QJ,h,aF,Rk,acA I]
def aL {r:R Fl} {d:D} (h:r=.ok (.rt d)):fin r=.ok d:=by rw [h];rfl
def J8 {r:R Fl} {d:D} (h:r=.ok (.rn d)):P9 r=.ok d:=by rw [h];rfl
def skip {τ:FT} {S T:FS} {U:Sd} (h:τ U=.ok false):aB (gm τ S bu) T U=T U:=av ((jW h).trans rfl)
def ac {φ:FE} {α:FA} {U:Sd} {d:D} {ds:acO} (h:φ U=.ok d) (h2:α U=.ok ds):ae φ α U=.ok (d::ds):=by unfold ae;rw [h,aF,h2];rfl
def bN {α:FA} {U:Sd} {ds:acO} (h:α U=.ok ds) (I:ds.length<=100:=by simp):dt α U=.ok (.tup ds):=by rw [So,h,aF,NC,acA (by lia)]
def cf {α:FA} {U:Sd} {ds:acO} (h:α U=.ok ds) (I:ds.length<=100:=by simp):eR α U=.ok (.lst ds):=by rw [QX,h,aF,NH,acA (by lia)]
def ai {f:D->D->R D} {φ ψ:FE} {U:Sd} {a b c:D} (h1:φ U=.ok a) (h2:ψ U=.ok b) (h:f a b=.ok c):aw f φ ψ U=.ok c:=by rw [Ue,h1,aF,US,h2,aF,h]
def aJ {φ:FE} {U:Sd} {b:Bool} (h:φ U=.ok (.bl b)):bR φ U=.ok b:=by rw [TL,h];rfl
def aq {F:acO->R D} {α:FA} {U:Sd} {ds:acO} {r:R D} (h:α U=.ok ds) (hf:F ds=r):ao F α U=r:=by rw [LF,h,aF,hf]
def dr {i:Nat} {B:FS} {x:D} {r:acO} {U δ':Sd} (h:B (U.set i (some x))=.ok (.nx δ')):dm (.one i) B (x::r) U=dm (.one i) B r δ':=by
 rw [zO];have e:fI (.one i) x U=.ok (U.set i (some x)):=rfl;rw [e,aF,Fv,h,aF,Ce]
def gE {ι:FA} {g:TgD} {B:FS} {U δ':Sd} {xs:acO} (h:ι U=.ok xs) (hf:dm g B xs U=.ok (.nx δ')):nR ι g B U=.ok (.nx δ'):=by rw [Lk,h,aF,Ld,hf]
def nK {τ:FT} {B:FS} {n:Nat} {U δ':Sd} (h:τ U=.ok true) (I:B U=.ok (.nx δ')):bI τ B (n+1) U=bI τ B n δ':=by
 rw [bI,h,aF,acA rfl,I];rfl
def sZ {τ:FT} {B:FS} {n:Nat} {U:Sd} (h:τ U=.ok false):bI τ B (n+1) U=.ok (.nx U):=by
 rw [bI,h,aF,acB iF]
def gC {φ:FE} {U:Sd} {d:D} {b:Bool} (h:φ U=.ok d) (I:Nj d=.ok b):iC φ U=.ok b:=by rw [OI,h,aF,I]
def HB {τ:FT} {U:Sd} {b:Bool} (h:τ U=.ok b):mR τ U=.ok (!b):=by rw [Qx,h];rfl
def Ga {τ:FT} {U:Sd} (h:τ U=.ok true):mR τ U=.ok false:=HB h
def Mp {τ υ:FT} {U:Sd} (h:τ U=.ok true):wu τ υ U=.ok true:=by rw [RO,h];rfl
def mP {τ υ:FT} {U:Sd} {b:Bool} (h:τ U=.ok false) (h2:υ U=.ok b):wu τ υ U=.ok b:=by rw [RO,h,aF,PZ,acB iF,h2]
def mF {τ υ:FT} {U:Sd} {b:Bool} (h:τ U=.ok true) (h2:υ U=.ok b):qy τ υ U=.ok b:=by rw [Lo,h,aF,Nt,acA rfl,h2]
def sL {τ υ:FT} {U:Sd} (h:τ U=.ok false):qy τ υ U=.ok false:=by rw [Lo,h];rfl
def Gn {φ ψ:FE} {U:Sd} {d:D} (h:φ U=.ok (.bl true)) (h2:ψ U=.ok d):AZ φ ψ U=.ok d:=by rw [v_and,h,aF,Rn,acA rfl,h2]
def ME {φ ψ:FE} {U:Sd} (h:φ U=.ok (.bl false)):AZ φ ψ U=.ok (.bl false):=by rw [v_and,h];rfl
def O7 {φ ψ:FE} {U:Sd} (h:φ U=.ok (.bl true)):N6 φ ψ U=.ok (.bl true):=by rw [v_or,h];rfl
def Pd {φ ψ:FE} {U:Sd} {d:D} (h:φ U=.ok (.bl false)) (h2:ψ U=.ok d):N6 φ ψ U=.ok d:=by rw [v_or,h,aF,Vf,acB iF,h2]
def kM {i:Nat} {ε:FE} {U:Sd} {xs:acO} {d:D} (h:U[i]?=some (some (.lst xs))) (I:ε U=.ok d) (J:xs.length < 1000):cZ i ε U=.ok (.nx (U.set i (some (.lst (xs++[d]))))):=by
 unfold cZ;rw [h];dsimp only;rw [I,aF,acA (by lia)]
def L3 {i:Nat} {ε:FE} {U:Sd} {xs ys:acO} {d:D} (h:U[i]?=some (some (.lst xs))) (I:ε U=.ok d) (hd:B1 d=some ys) (J:xs.length+ys.length<=1000000):pZ i ε U=.ok (.nx (U.set i (some (.lst (xs++ys))))):=by
 unfold pZ;rw [h];dsimp only;rw [I,aF,hd];dsimp only;rw [acA J]
def Nf {i:Nat} {ε:FE} {U:Sd} {a b:Int} (h:U[i]?=some (some (.int a))) (I:ε U=.ok (.int b)):oC i ε U=.ok (.nx (U.set i (some (.int (a+b))))):=by
 rw [O9,h];dsimp only;rw [I];rfl
def mV {φ:FE} {l u:Sd->R (Option Int)} {U:Sd} {a d:D} {lo hi:Option Int} (h:φ U=.ok a) (h1:l U=.ok lo) (h2:u U=.ok hi) (hd:tR a lo hi=.ok d):Ak tR φ l u U=.ok d:=by
 rw [PY,h,aF,KK,h1,aF,KQ,h2,aF,Lm,hd]
def dM {φ:FE} {U:Sd} {i:Int} (h:φ U=.ok (.int i)):ii φ U=.ok (some i):=by rw [Nn,h];rfl
def m5 {φ:FE} {U:Sd} {d:D} {xs:acO} (h:φ U=.ok d) (I:pN d=.ok xs):rJ φ U=.ok xs:=by rw [Q2,h,aF,I]
def pD {φ:FE} {U:Sd} {n:Nat} (h:φ U=.ok (.int (n:Int))) (hn:n<=1000000):nD (ae φ ap) U=.ok (eh 0 n):=by
 rw [Ma,ac h rfl,aF,OP (by lia),WH]
def eX {ix:List (Option Nat)} {ι:FA} {t:TgD} {τ:FT} {ε:FE} {U:Sd} {xs:acO} {d:D} (h:ι U=.ok xs) (I:cN t τ ε (fP ix U) xs=.ok d):iI ix ι t τ ε U=.ok d:=by rw [M2,h,aF,I]
def vn {I:Type} {ε:FE} {rest:Sd} (u f:I->D) (xs:List I) (h:∀ x∈xs,ε (some (u x)::rest)=.ok (f x)) (J:xs.length<=1000):cN (.one 0) t6 ε (none::rest) (xs.map u)=.ok (.lst (xs.map f)) :=
 A4 u f rfl (by lia) h
def xm {I:Type} {τ:FT} {ε:FE} {rest:Sd} (u f:I->D) (p:I->Bool) (xs:List I) (h:∀ x∈xs,τ (some (u x)::rest)=.ok (p x)) (h2:∀ x∈xs,p x=true->ε (some (u x)::rest)=.ok (f x)) (hl:xs.length<=1000):cN (.one 0) τ ε (none::rest) (xs.map u)=.ok (.lst ((xs.filter p).map f)):=by
 refine xz rfl (by rw [eQ];lia) ?_;clear hl;induction xs with
 | nil=>rfl
 | cons x r Y =>
  have h1:=h x (by simp);have h3:=h2 x (by simp);have L:=Y (fun y J=>h y (iN _ J)) fun y J=>h2 y (iN _ J);show (τ (some (u x)::rest)).bind _=_;rw [h1,aF];cases e:p x with
  | true =>
   rw [acA rfl,YG e];show (ε (some (u x)::rest)).bind _=_;rw [h3 e,aF,L];rfl
  | false=>rw [acB iF,YH (by rw [e];exact iF)];exact L
def bS {φ:FE} {U:Sd} {a d:D} (h:φ U=.ok a) (I:cy [a]=.ok d):ao cy (ae φ ap) U=.ok d:=aq (ac h rfl) I
def tG {I:Type} (f:I->D) (xs:List I) {i:Nat} {x:I} (h:xs[i]?=some x):bT (.lst (xs.map f)) (.int (i:Int))=.ok (f x):=rg (cz (by rw [W4,h];rfl))
def Nl {I:Type} (f:I->D) (xs:List I) {i:Nat} {x:I} (h:xs[i]?=some x):bT (.tup (xs.map f)) (.int (i:Int))=.ok (f x):=Hd (cz (by rw [W4,h];rfl))
def m6 {I:Type} (f:I->D) (xs:List I):cy [.lst (xs.map f)]=.ok (.int (xs.length:Int)):=by rw [uc,eQ]
def rN {I:Type} (f:I->D) (xs:List I):cy [.tup (xs.map f)]=.ok (.int (xs.length:Int)):=by rw [wr,eQ]
def kH {φ ψ:FE} {U:Sd} {i j:Int} (h1:φ U=.ok (.int i)) (h2:ψ U=.ok (.int j)) (h:-(2 ^ 64) < j/\j < 2 ^ 64:=by decide):aw dQ φ ψ U=.ok (.int (i*j)):=ai h1 h2 (mul_r h)
def bA {φ ψ:FE} {U:Sd} {i j:Int} (h1:φ U=.ok (.int i)) (h2:ψ U=.ok (.int j)) (h:0 < j:=by decide):aw bB φ ψ U=.ok (.int (i % j)):=ai h1 h2 (OJ h)
def cb {φ ψ:FE} {U:Sd} {i j:Int} (h1:φ U=.ok (.int i)) (h2:ψ U=.ok (.int j)) (h:0 < j/\j < 1073741824:=by decide):aw cG φ ψ U=.ok (.int (i/j)):=ai h1 h2 (PH h)
def bP {φ ψ:FE} {U:Sd} {i j:Int} (h1:φ U=.ok (.int i)) (h2:ψ U=.ok (.int j)):aw bw φ ψ U=.ok (.int (i+j)):=ai h1 h2 rfl
def pC {φ ψ:FE} {U:Sd} {i j:Int} (h1:φ U=.ok (.int i)) (h2:ψ U=.ok (.int j)):aw pP φ ψ U=.ok (.int (i - j)):=ai h1 h2 rfl
def kI {φ ψ:FE} {U:Sd} {i j:Int} (h1:φ U=.ok (.int i)) (h2:ψ U=.ok (.int j)):bR (aw eI φ ψ) U=.ok (decide (i=j)):=aJ (ai h1 h2 sS)
def Cv {τ:FT} {φ ψ:FE} {U:Sd} {d:D} (h:τ U=.ok true) (h2:φ U=.ok d):Lu τ φ ψ U=.ok d:=by rw [Ci,h,aF,Dh,acA rfl,h2]
def CF {τ:FT} {φ ψ:FE} {U:Sd} {d:D} (h:τ U=.ok false) (h2:ψ U=.ok d):Lu τ φ ψ U=.ok d:=by rw [Ci,h,aF,Dh,acB iF,h2]
def Rs {φ ψ:FE} {U:Sd} {a b:Bool} (h:φ U=.ok (.bl a)) (h2:ψ U=.ok (.bl b)):N6 φ ψ U=.ok (.bl (a||b)):=by
 cases a with
 | true=>exact O7 h
 | false=>exact Pd h h2
def M9 {φ ψ:FE} {U:Sd} {a b:Bool} (h:φ U=.ok (.bl a)) (h2:ψ U=.ok (.bl b)):AZ φ ψ U=.ok (.bl (a&&b)):=by
 cases a with
 | true=>exact Gn h h2
 | false=>exact ME h
def nV {φ:FE} {U:Sd} {d:D} {C:String} {b:Bool} (h:φ U=.ok d) (hd:nw [d,.ty C]=.ok (.bl b)):ao nw (ae φ (ae (vC (.ty C)) ap)) U=.ok (.bl b):=aq (ac h (ac rfl rfl)) hd
def vk {T C:String} {b:Bool} (h:jm C=true/\iR T C=b):(if jm C=true then R.ok (D.bl (iR T C)) else .no)=.ok (.bl b):=by rw [acA h.1,h.2]
def cell (ns:List Int) (k:Int):Int:=ns.getD k.toNat 0
def Kd (ns:List Int) (k:Int) (J:0<=k):bF [.lst (ns.map D.int),.int k]=.ok (.int (cell ns k)):=by
 rw [zz,ky];obtain ⟨n,rfl⟩:∃ n:Nat,k=(n:Int):=⟨k.toNat,by lia⟩;have I:bR (aw vL (ah 1) (ao cy (ae (ah 0) ap))) [some (.lst (ns.map D.int)),some (.int (n:Int))]=.ok (decide ((n:Int) < (ns.length:Int))):=aJ (ai rfl (bS rfl (m6 _ _)) mz);unfold cell;rw [WH,Ym];by_cases h:n < ns.length
 .rw [acD (by lia)] at I;rw [oR h];exact aL (bV ((br I).trans (aD (ai rfl rfl (tG _ _ (oR h))))))
 .rw [acC (by lia)] at I;rw [ZE (by lia)];exact aL ((skip I).trans (aD rfl))
abbrev UI:Str:=WV " !\"#$&'()*+,-./0123456789:;<=>?@ABCDEFGHIJKLMNOPQRSTUVWXYZ[\\]^_`"
abbrev OK:Str:=UI++WV "abcdefghijklmnopqrstuvwxyz{|}~"
def ER:acG:=OK.cps.toList
def HV:ER.length=94:=by trivial
def rL (i:Int):Nat:=ER.getD (i % 94).toNat 0
def GO (i:Int):ER[(i % 94).toNat]?=some (rL i):=by
 have I:(i % 94).toNat < ER.length:=by rw [HV];lia
 unfold rL;rw [Ym,oR I];rfl
def MT (i:Int):atI OK.cps.toList (i % 94)=some (rL i):=by
 have h:=cz (xs:=ER) (GO i);rw [show (((i % 94).toNat:Nat):Int)=i % 94 by lia] at h;exact h
def Ki (i:Int):rL i∈ER:=Xr (GO i)
def Vl (n:Nat):D->Prop
 | .non=>True
 | .int _=>True
 | .str z=>z.length<=n/\∀ c∈z.cps.toList,c∈ER
 | _=>False
def Vl.mono {n m:Nat} {d:D} (h:Vl n d) (I:n<=m):Vl m d:=by
 cases d with
 | str z=>exact ⟨IF h.1 I,h.2⟩
 | non=>exact XQ
 | int _=>exact XQ
 | _=>exact h.elim
def Ez (a b:Int):Int:=if a=b then 0 else if a < b then -1 else 1
def Eh (a b:acG):Int:=if a=b then 0 else if a < b then -1 else 1
def N9:D->D->Int
 | .non,.non=>0
 | .non,_=>-1
 | _,.non=>1
 | .int a,.int b=>Ez a b
 | .int _,_=>-1
 | _,.int _=>1
 | .str a,.str b=>Eh a.cps.toList b.cps.toList
 | _,_=>0
def kx:D->Int
 | .non=>0
 | .int _=>1
 | _=>2
def kw (i:Int):Str:=if i=0 then "none" else if i=1 then "number" else "text"
theorem kind {d:D} (h:Vl 100 d):cq [d]=.ok (.str (kw (kx d))):=by
 rw [DQ,oi];cases d with
 | non=>exact aL (bV ((br (aJ (ai rfl rfl rfl))).trans (aD rfl)))
 | int i=>exact aL ((skip (aJ (ai rfl rfl rfl))).trans (aD (CF (gC (nV rfl (GD.trans (vk (by trivial)))) rfl) rfl)))
 | str z=>exact aL ((skip (aJ (ai rfl rfl rfl))).trans (aD (Cv (gC (nV rfl (Fr.trans (vk (by trivial)))) rfl) rfl)))
 | _=>exact h.elim
def wd (d:D):kx d=0\/kx d=1\/kx d=2:=by
 unfold kx;split
 .exact .inl rfl
 .exact .inr (.inl rfl)
 .exact .inr (.inr rfl)
def Iv (i:Int) (h:i=0\/i=1\/i=2):GU l6 [.str (kw i)]=.ok (.int i):=by
 rcases h with rfl|rfl|rfl <;> with_unfolding_all rfl
def Ry {i j:Int} (h:i=0\/i=1\/i=2) (g:j=0\/j=1\/j=2):decide (kw i=kw j)=decide (i=j):=by
 rcases h with rfl|rfl|rfl <;> rcases g with rfl|rfl|rfl <;> decide +kernel
def B5 {a b:Str} (h:a.cps.toList=b.cps.toList):a=b:=by
 cases a;cases b;congr 1;exact YJ.mp h
def yn {φ:FE} {U:Sd} {k d r:D} (h:φ U=.ok d) (I:GU k [d]=.ok r):Ab k (ae φ ap) U=.ok r:=by rw [Px,ac h rfl,aF,I]
def Hj {d e:D} (hd:Vl 100 d) (I:Vl 100 e) (h:¬ kx d=kx e):N9 d e=if kx d < kx e then -1 else 1:=by
 cases d with
 | non=>cases e with
  | non=>exact absurd rfl h
  | int j=>rfl
  | str z=>rfl
  | _=>exact I.elim
 | int i=>cases e with
  | non=>rfl
  | int j=>exact absurd rfl h
  | str z=>rfl
  | _=>exact I.elim
 | str x=>cases e with
  | non=>rfl
  | int j=>rfl
  | str z=>exact absurd rfl h
  | _=>exact I.elim
 | _=>exact hd.elim
def Jz (d e:D) (hd:Vl 100 d) (J:Vl 100 e):oo [d,e]=.ok (.int (N9 d e)):=by
 rw [Ec,ox];have L:bR (aw pX (ao cq (ae (ah 0) ap)) (ao cq (ae (ah 1) ap))) [some d,some e]=.ok (!decide (kx d=kx e)):=aJ (ai (aq (ac rfl rfl) (kind hd)) (aq (ac rfl rfl) (kind J)) (Dc.trans (by rw [Ry (wd d) (wd e)])));by_cases h:kx d=kx e
 .rw [acD h] at L;refine aL ((skip L).trans ?_);cases d with
  | non=>cases e with
   | non=>exact bV ((br (aJ (ai rfl rfl QC))).trans (aD rfl))
   | int j=>cases h
   | str z=>cases h
   | _=>exact J.elim
  | int i=>cases e with
   | non=>cases h
   | int j =>
    show _=R.ok (Fl.rt (.int (Ez i j)));unfold Ez;by_cases q:i=j
    .rw [acA q];exact bV ((br (aJ (ai rfl rfl (sS.trans (by rw [acD q]))))).trans (aD rfl))
    .rw [acB q];refine (skip (aJ (ai rfl rfl (sS.trans (by rw [acC q]))))).trans (aD ?_);by_cases I:i < j
     .rw [acA I];exact Cv (aJ (ai rfl rfl (mz.trans (by rw [acD I])))) rfl
     .rw [acB I];exact CF (aJ (ai rfl rfl (mz.trans (by rw [acC I])))) rfl
   | str z=>cases h
   | _=>exact J.elim
  | str x=>cases e with
   | non=>cases h
   | int j=>cases h
   | str z =>
    show _=R.ok (Fl.rt (.int (Eh x.cps.toList z.cps.toList)));unfold Eh;by_cases q:x=z
    .rw [acA (by rw [q])];exact bV ((br (aJ (ai rfl rfl (fz.trans (by rw [acD q]))))).trans (aD rfl))
    .rw [acB fun w=>q (B5 w)];refine (skip (aJ (ai rfl rfl (fz.trans (by rw [acC q]))))).trans (aD ?_);by_cases I:x.cps.toList < z.cps.toList
     .rw [acA I];exact Cv (aJ (ai rfl rfl (M4.trans (by rw [acD I])))) rfl
     .rw [acB I];exact CF (aJ (ai rfl rfl (M4.trans (by rw [acC I])))) rfl
   | _=>exact J.elim
  | _=>exact hd.elim
 .rw [acC h] at L;refine aL (bV ((br L).trans (aD ?_)));rw [Hj hd J h];have Y:bR (aw vL (Ab l6 (ae (ao cq (ae (ah 0) ap)) ap)) (Ab l6 (ae (ao cq (ae (ah 1) ap)) ap))) [some d,some e]=.ok (decide (kx d < kx e)):=aJ (ai (yn (aq (ac rfl rfl) (kind hd)) (Iv _ (wd d))) (yn (aq (ac rfl rfl) (kind J)) (Iv _ (wd e))) mz);by_cases q:kx d < kx e
  .rw [acD q] at Y;rw [acA q];exact Cv Y rfl
  .rw [acC q] at Y;rw [acB q];exact CF Y rfl
def K0 {U:Sd}:aw vo zI (vC (.int 18)) U=.ok (.int 1000000000000000000):=ai rfl rfl ((Fp (by decide)).trans rfl)
def Uv {U:Sd}:aw vo zI Ts U=.ok (.int 1000000000):=ai rfl rfl ((Fp (by decide)).trans rfl)
def ahead (d:D) (n:Int) (e:D) (m:Int):Bool:=decide (N9 d e < 0)||(decide (N9 d e=0)&&decide (n < m))
def yQ (d e:D) (n m:Int) (hd:Vl 40 d) (I:Vl 40 e):bG [.tup [d,.int n],.tup [e,.int m]]=.ok (.bl (ahead d n e m)):=by
 rw [vR,gT];exact aL ((av (aI (aq (ac (ai rfl rfl bb) (ac (ai rfl rfl bb) rfl)) (Jz d e (hd.mono (by decide)) (I.mono (by decide)))))).trans (aD (Rs (ai rfl rfl mz) (M9 (ai rfl rfl sS) (ai (ai rfl rfl bj) (ai rfl rfl bj) mz)))))
def Q7:D->Int->acO
 | .non,n=>[.int 0,.int 0,.str "",.int n]
 | .str z,n=>[.int 2,.int 0,.str z,.int n]
 | .int i,n=>[.int 1,.int i,.str "",.int n]
 | _,_=>[]
def VJ (x:Str) (h:∀ c∈x.cps.toList,c∈ER):PyData.strOk x=true:=by
 have I:∀ c∈ER,32<=c/\c<=126:=by trivial
 show x.cps.all (· < 0x110000)=true;rw [<- Array.all_toList,X4];intro c J
 have:=I c (h c J)
 simp;lia
def cI (k:K4):D:=if k.1=0 then .non else if k.1=1 then .int k.2.1 else .str ⟨k.2.2.1.toArray⟩
def un (k:K4):ar k=.tup [cI k,.int k.2.2.2]:=by
 unfold ar cI;split
 .rfl
 .split <;> rfl
structure Ok (k:K4):Prop where
 v:Vl 40 (cI k)
 e:jF (ar k)=some k
def Ok.of {v:D} {n:Int} {k:K4} (h:jF (.tup [v,.int n])=some k) (J:Vl 40 v):Ok k:=by
 have e:=nt h;have I:=e;rw [un] at I
 have:cI k=v:=by injection I with e3;injection e3
 exact ⟨this ▸ J,e ▸ h⟩
def Ok.inj {k l:K4} (h:Ok k) (g:Ok l) (e:ar k=ar l):k=l:=WG (h.e.symm.trans ((acF jF e).trans g.e))
def IJ:D->aaY
 | .int i=>.int i
 | .str z=>.str z
 | _=>.none
def Fw {v:D} (h:Vl 40 v):iG v=some (IJ v):=by
 cases v with
 | non=>rfl
 | int i=>rfl
 | str z=>rfl
 | _=>exact h.elim
def GN {v:D} (h:Vl 40 v):(IJ v).canLay0=true/\(IJ v).depth=0:=by
 cases v with
 | non=>exact ⟨rfl,rfl⟩
 | int i=>exact ⟨rfl,rfl⟩
 | str z=>exact ⟨VJ z h.2,rfl⟩
 | _=>exact h.elim
def Bs:D->D->Bool
 | .non,.non=>true
 | .int i,.int j=>decide (i=j)
 | .str x,.str z=>decide (x=z)
 | _,_=>false
def R4 {v w:D} (h:Vl 40 v) (g:Vl 40 w):YN (IJ v) (IJ w)=Bs v w:=by
 cases v with
 | non=>cases w with
  | non=>rfl
  | int i=>rfl
  | str z=>rfl
  | _=>exact g.elim
 | int i=>cases w with
  | non=>rfl
  | int j=>show (i==j)=decide (i=j);first|rfl|(rw [YR];simp)
  | str z=>rfl
  | _=>exact g.elim
 | str x=>cases w with
  | non=>rfl
  | int i=>rfl
  | str z=>show (x==z)=decide (x=z);first|rfl|(rw [YR];simp)
  | _=>exact g.elim
 | _=>exact h.elim
def Fa {v:D} (h:Vl 40 v):Bs v v=true:=by
 cases v with
 | non=>rfl
 | int i=>exact acD rfl
 | str z=>exact acD rfl
 | _=>exact h.elim
def M8 {v w:D} (I:Vl 40 v) (hw:Vl 40 w) (h:v≠w):Bs v w=false:=by
 cases v with
 | non=>cases w with
  | non=>exact absurd rfl h
  | int i=>rfl
  | str z=>rfl
  | _=>exact hw.elim
 | int i=>cases w with
  | non=>rfl
  | int j=>exact acC fun z=>h (acF D.int z)
  | str z=>rfl
  | _=>exact hw.elim
 | str x=>cases w with
  | non=>rfl
  | int i=>rfl
  | str z=>exact acC fun q=>h (acF D.str q)
  | _=>exact hw.elim
 | _=>exact I.elim
def AK (k:K4):aaY:=.tuple [IJ (cI k),.int k.2.2.2]
def Ok.py {k:K4} (h:Ok k):iG (ar k)=some (AK k):=by
 rw [un,iG,fm,Fw h.v];rfl
def Ok.lay {k:K4} (h:Ok k):(AK k).canLay0=true/\(AK k).depth=1:=by
 obtain ⟨h1,h2⟩:=GN h.v;unfold AK;rw [PyData.canLay0,YZ,h1,abe,Zk,h2];exact ⟨rfl,rfl⟩
def Ok.shaped {k:K4} (h:Ok k):Xg (AK k)=true:=by
 unfold Xg;rw [h.lay.1,acD (by rw [h.lay.2];lia)];rfl
def Ok.eqv {k l:K4} (h:Ok k) (g:Ok l):YN (AK k) (AK l)=decide (k=l):=by
 show (YN (IJ (cI k)) (IJ (cI l))&&((k.2.2.2==l.2.2.2)&&true))=_;rw [R4 h.v g.v];by_cases e:k=l
 .subst e;rw [Fa h.v];simp
 .rw [acC e];by_cases q:cI k=cI l
  .by_cases q2:k.2.2.2=l.2.2.2
   .exact absurd (h.inj g (by rw [un,un,q,q2])) e
   .simp [q2]
  .rw [M8 h.v g.v q];rfl
def Ok.deep {k l:K4} (h:Ok k) (g:Ok l):sW (ar k) (ar l)=some (decide (k=l)):=by
 have e:sW (ar k) (ar l)=mo (ar k) (ar l):=by rw [un,un];rfl
 rw [e,mo,h.py,g.py];dsimp only;rw [acA ⟨h.shaped,g.shaped⟩,h.eqv g]
def Ok.ne {k l:K4} (h:Ok k) (g:Ok l):pX (ar k) (ar l)=.ok (.bl (!decide (k=l))):=by
 unfold pX;rw [h.deep g];rfl
def TR:∀ {I:List K4},(∀ k∈I,Ok k)->fm (I.map ar)=some (I.map AK)
 | [],_=>rfl
 | k::r,h=>by
  rw [lE,fm,(h k (by simp)).py,TR fun x J=>h x (iN _ J)];rfl
def KH {k:K4} (h:Ok k):∀ {I:List K4},(∀ k∈I,Ok k)->kt (AK k) (I.map AK)=some (decide (k∈I))
 | [],_=>rfl
 | l::r,g=>by
  have J:=g l (by simp);rw [lE,kt,acA ⟨J.shaped,by rw [J.lay.2];lia⟩,KH h fun x L=>g x (iN _ L),J.eqv h];show some _=some _;congr 1;by_cases e:l=k
  .subst e;simp
  .have e':¬ k=l:=fun z=>e z.symm;simp [e,e']
def Ok.mem {k:K4} (h:Ok k) {I:List K4} (g:∀ k∈I,Ok k):GW (ar k) (.tup (I.map ar))=.ok (.bl (decide (k∈I))):=by
 have e:Md (ar k) (.tup (I.map ar))=some (decide (k∈I)):=by
  show rX _ _=_;rw [rX,h.py,TR g];dsimp only;rw [acA h.shaped,KH h g]
 unfold GW;rw [e];rfl
def FZ:∀ {I:List K4},(∀ k∈I,Ok k)->YZ (I.map AK)=true/\Zk (I.map AK)<=1
 | [],_=>⟨rfl,WB _⟩
 | k::r,h=>by
  have J:=(h k (by simp)).lay;obtain ⟨h1,h2⟩:=FZ fun x L=>h x (iN (a:=x) _ L);rw [lE,YZ,Zk,J.1,h1,J.2];exact ⟨rfl,Nat.max_le.mpr ⟨mK _,h2⟩⟩
def Fq {I:List K4} (h:∀ k∈I,Ok k):sW (.lst (I.map ar)) (.lst [])=some (decide (I=[])):=by
 have e:sW (.lst (I.map ar)) (.lst [])=mo (.lst (I.map ar)) (.lst []):=rfl;have J:iG (.lst (I.map ar))=some (.list (I.map AK)):=by rw [iG,TR h];rfl
 have Y:iG (.lst [])=some (.list []):=rfl;obtain ⟨h1,h2⟩:=FZ h;have L:Xg (.list (I.map AK))=true:=by
  unfold Xg;rw [PyData.canLay0,h1,abe,acD (by lia)];rfl
 rw [e,mo,J,Y];dsimp only;rw [acA ⟨L,by decide⟩];cases I with
 | nil=>rfl
 | cons k r=>rfl
def eq_nil {I:List K4} (h:∀ k∈I,Ok k):eI (.lst (I.map ar)) (.lst [])=.ok (.bl (decide (I=[]))):=by
 unfold eI;rw [Fq h];rfl
def u0 (k:K4):bT (ar k) (.int 0)=.ok (cI k):=by rw [un];exact bb
def u1 (k:K4):bT (ar k) (.int 1)=.ok (.int k.2.2.2):=by rw [un];exact bj
def j7 {k:K4} (h:Ok k) (e:cI k=.non):k=(0,0,[],k.2.2.2):=by
 have:=h.e;rw [un,e] at this;exact (WG this).symm
def l8 {k:K4} (h:Ok k) {i:Int} (e:cI k=.int i):k=(1,i,[],k.2.2.2):=by
 have:=h.e;rw [un,e] at this;exact (WG this).symm
def me {k:K4} (h:Ok k) {z:Str} (e:cI k=.str z):k=(2,0,z.cps.toList,k.2.2.2):=by
 have:=h.e;rw [un,e] at this;exact (WG this).symm
def lt0 (n m:Int):ahead .non n .non m=decide (ca (0,0,[],n) (0,0,[],m)):=by simp [ahead,N9,ca]
def lt1 (i j n m:Int):ahead (.int i) n (.int j) m=decide (ca (1,i,[],n) (1,j,[],m)):=by
 show (decide (Ez i j < 0)||(decide (Ez i j=0)&&decide (n < m)))=_;unfold Ez;by_cases h:i=j
 .simp [h,ca]
 .by_cases h2:i < j
  .simp [h,h2,ca]
  .simp [h,h2,ca]
def lt2 (x z:Str) (n m:Int):ahead (.str x) n (.str z) m=decide (ca (2,0,x.cps.toList,n) (2,0,z.cps.toList,m)):=by
 show (decide (Eh x.cps.toList z.cps.toList < 0)||(decide (Eh x.cps.toList z.cps.toList=0)&&decide (n < m)))=_;unfold Eh;generalize x.cps.toList=a;generalize z.cps.toList=b;by_cases h:a=b
 .subst h
  have:=TS.xL.irr a
  simp [ca,this]
 .by_cases h2:a < b
  .simp [h,h2,ca]
  .simp [h,h2,ca]
def Ok.kx {k:K4} (h:Ok k):kx (cI k)=k.1:=by
 have I:=h.v;cases q:cI k with
 | non=>rw [j7 h q];rfl
 | int i=>rw [l8 h q];rfl
 | str z=>rw [me h q];rfl
 | _=>rw [q] at I;exact I.elim
theorem Ok.ahead {k l:K4} (h:Ok k) (g:Ok l):bG [ar k,ar l]=.ok (.bl (decide (ca k l))):=by
 have J:=h.v;have I:=g.v;rw [un,un,yQ _ _ _ _ J I];congr 2;by_cases e:k.1=l.1
 .rw [<- h.kx,<- g.kx] at e;cases q:cI k with
  | non=>cases p:cI l with
   | non=>rw [j7 h q,j7 g p];exact lt0 _ _
   | int j=>rw [q,p] at e;cases e
   | str z=>rw [q,p] at e;cases e
   | _=>rw [p] at I;exact I.elim
  | int i=>cases p:cI l with
   | non=>rw [q,p] at e;cases e
   | int j=>rw [l8 h q,l8 g p];exact lt1 _ _ _ _
   | str z=>rw [q,p] at e;cases e
   | _=>rw [p] at I;exact I.elim
  | str x=>cases p:cI l with
   | non=>rw [q,p] at e;cases e
   | int j=>rw [q,p] at e;cases e
   | str z=>rw [me h q,me g p];exact lt2 _ _ _ _
   | _=>rw [p] at I;exact I.elim
  | _=>rw [q] at J;exact J.elim
 .obtain ⟨a,k⟩:=k;obtain ⟨b,l⟩:=l;have c:=Hj (J.mono (by decide)) (I.mono (by decide)) (by rw [h.kx,g.kx];exact e);rw [h.kx,g.kx] at c;have e:a≠b:=e;have c:N9 (cI (a,k)) (cI (b,l))=if a < b then -1 else 1:=c;have L:decide (ca (a,k) (b,l))=decide (a < b):=decide_eq_decide.mpr (TS.l1 e);rw [L];unfold T30.ahead;rw [c];by_cases q:a < b
  .simp [q]
  .simp [q]
def uN {φ:FE} {U:Sd} {b:Bool} (h:φ U=.ok (.bl b)):mR (iC φ) U=.ok (!b):=HB (gC h rfl)
def Gr (n:Nat):eh 0 n=(Yc n).map fun (k:Nat)=>D.int (k:Int):=by
 unfold eh;refine XA fun k _=>?_;rw [Int.zero_add]
structure Rows (rs:List K4):Prop where
 s:rs.Pairwise ca
 o:∀ k∈rs,Ok k
def Ai {xs:acO} {i:Int} (h:0<=i):lu xs none (some i)=xs.take i.toNat:=by
 obtain ⟨n,rfl⟩:∃ n:Nat,i=(n:Int):=⟨i.toNat,by lia⟩;unfold lu;rw [HT.yX,HT.oF,WH,YM,Z8,List.take_eq_take_iff];lia
def yI {xs:acO} {i:Int} (h:0<=i):lu xs (some i) none=xs.drop i.toNat:=by
 obtain ⟨n,rfl⟩:∃ n:Nat,i=(n:Int):=⟨i.toNat,by lia⟩;unfold lu;rw [HT.yX,HT.oF,WH];by_cases q:n<=xs.length
 .rw [Zh q,XT (by rw [WI];lia)]
 .rw [Nat.min_eq_right (by lia),aa2 (mK _),aa2 (by lia),List.take_nil]
def hd (ks:List K4):K4:=ks.headD (0,0,[],0)
def bi (p:List K4×D):D:=.tup [ar (hd p.1),p.2]
def nz (q:List (List K4×D)):List K4×D:=((q.map BY).flatten,.tup [.str "branch",.tup (q.map bi)])
def wo (ks:List K4):List K4×D:=(ks,.tup [.str "leaf",.tup (ks.map ar)])
def Nd:Nat->Nat->List K4×D->Prop
 | 0,lo,q=>lo<=q.1.length/\q.1.length<=8/\q=wo q.1
 | h+1,lo,q=>∃ ps:List (List K4×D),lo<=ps.length/\ps.length<=8/\(∀ p∈ps,Nd h 4 p)/\q=nz ps
def rt:Nat->Nat
 | 0=>0
 | _+1=>2
def C7 {c:Nat}:∀ {ps:List (List K4×D)},(∀ p∈ps,c<=p.1.length)->ps.length*c<=((ps.map BY).flatten).length
 | [],_=>by simp
 | p::r,h=>by
  have h1:=h p (by simp);have h2:=C7 fun x I=>h x (iN (a:=x) _ I);rw [lE,W6,Do,RW,Nat.add_mul,Nat.one_mul];lia
def Nd.many:∀ {h lo:Nat} {q:List K4×D},Nd h lo q->lo*4 ^ h<=q.1.length
 | 0,lo,q,hq=>by rw [Nat.pow_zero,Nat.mul_one];exact hq.1
 | h+1,lo,q,⟨ps,h1,h2,h3,h4⟩=>by
  subst h4
  have:=C7 fun p I=>(h3 p I).many
  refine IF ?_ this;rw [Nat.pow_succ,Nat.mul_comm (4 ^ h) 4];exact abu _ h1
def Nd.pos {h lo:Nat} {q:List K4×D} (I:Nd h lo q) (J:1<=lo):q.1≠[]:=fun z=>by
 have:=I.many
 rw [z] at this;have h2:1<=lo*4 ^ h:=Nat.mul_pos J (Nat.pow_pos (by decide));simp at this;lia
def Nd.mono:∀ {h lo I:Nat} {q:List K4×D},Nd h lo q->I<=lo->Nd h I q
 | 0,_,_,_,⟨a,b,c⟩,hl=>⟨IF hl a,b,c⟩
 | _+1,_,_,_,⟨ps,a,b,c,d⟩,hl=>⟨ps,IF hl a,b,c,d⟩
def Cs {p:List K4×D} {r:List (List K4×D)} (h:p.1≠[]):hd (nz (p::r)).1=hd p.1:=by
 cases ep:p.1 with
 | nil=>exact absurd ep h
 | cons k ks=>show hd ((p.1::r.map BY).flatten)=_;rw [ep];rfl
def IM (I:List (List (List K4×D))):((I.map nz).map BY).flatten=(I.flatten.map BY).flatten:=by
 rw [List.map_flatten,List.flatten_flatten,WL,WL];rfl
def Tr:Nat->List K4->D->Prop
 | 0,ks,d=>d=.tup [.str "leaf",.tup (ks.map ar)]
 | h+1,ks,d=>∃ ps:List (List K4×D),ps≠[]/\(∀ p∈ps,p.1≠[]/\Tr h p.1 p.2)/\ks=(ps.map BY).flatten/\d=.tup [.str "branch",.tup (ps.map bi)]
def Nd.tr:∀ {h lo:Nat} {q:List K4×D},Nd h lo q->(h=0\/1<=lo)->Tr h q.1 q.2
 | 0,_,q,⟨_,_,e⟩,_=>by rw [e];rfl
 | h+1,lo,q,⟨ps,h1,_,h3,e⟩,hl=>by
  subst e;refine ⟨ps,fun z=>?_,fun p I=>⟨(h3 p I).pos (by decide),(h3 p I).tr (.inr (by decide))⟩,rfl,rfl⟩;rw [z] at h1;simp at h1;lia
def GH (h:Nat):h=0\/1<=rt h:=by
 cases h with
 | zero=>exact .inl rfl
 | succ h=>exact .inr (by show 1<=2;lia)
def VB:decide (("leaf":Str)="branch")=false:=by trivial
def Qd:decide (("branch":Str)="leaf")=false:=by trivial
def yM:∀ {ps:List (List K4×D)},(∀ p∈ps,p.1≠[])->ps.length<=((ps.map BY).flatten).length
 | [],_=>WB _
 | p::r,h=>by
  have h1:0 < p.1.length:=ZW.mpr (h p (by simp));have h2:=yM fun x I=>h x (iN (a:=x) _ I);rw [lE,W6,Do,RW];lia
structure Place (k:K4) (ps:List (List K4×D)) (j:Nat):Prop where
 l:j < ps.length
 b:∀ p,ps[j]?=some p->j=0\/¬ ca k (hd p.1)
 a:∀ p,ps[j+1]?=some p->ca k (hd p.1)
def Fh {k:K4} {ps:List (List K4×D)} {c:D} (hk:Ok k) (hp:∀ p∈ps,Ok (hd p.1)) (hc:cy [c]=.ok (.int (ps.length:Int))) (hx:∀ (i:Nat) p,ps[i]?=some p->bT c (.int (i:Int))=.ok (bi p)):∀ (n j:Nat),j < ps.length->ps.length<=j+n->(∀ p,ps[j]?=some p->j=0\/¬ ca k (hd p.1)) ->
  ∃ i:Nat,bI lQ (oC 2 cQ) n [some c,some (ar k),some (.int (j:Int))]=.ok (.nx [some c,some (ar k),some (.int (i:Int))])/\Place k ps i
 | 0,j,h1,h2,_=>absurd h1 (by lia)
 | n+1,j,h1,h2,h3=>by
  have ej:(j:Int)+1=((j+1:Nat):Int):=by lia
  have J:bR (aw vL (aw bw (ah 2) cQ) (ao cy (ae (ah 0) ap))) [some c,some (ar k),some (.int (j:Int))]=.ok (decide ((j:Int)+1 < (ps.length:Int))):=aJ (ai (bP rfl rfl) (bS rfl hc) mz);by_cases hj:j+1 < ps.length
  .rw [acD (by lia)] at J;have eg:=oR hj;have Y:mR (iC (ao bG (ae (ah 1) (ae (aw bT (aw bT (ah 0) (aw bw (ah 2) cQ)) i4) ap)))) [some c,some (ar k),some (.int (j:Int))]=.ok (!decide (ca k (hd ps[j+1].1))) :=
    uN (aq (ac rfl (ac (ai (ai rfl (bP rfl rfl) (by rw [ej];exact hx _ _ eg)) rfl bb) rfl)) (hk.ahead (hp _ (WM hj))))
   by_cases L:ca k (hd ps[j+1].1)
   .rw [acD L] at Y;refine ⟨j,sZ (mF J Y),h1,h3,fun p I=>?_⟩;rw [eg] at I;cases I;exact L
   .rw [acC L] at Y;obtain ⟨i,e,hi⟩:=Fh hk hp hc hx n (j+1) hj (by lia) (fun p I=>by
     rw [eg] at I;cases I;exact .inr L)
    rw [<- ej] at e;exact ⟨i,(nK (mF J Y) (Nf rfl rfl)).trans e,hi⟩
  .rw [acC (by lia)] at J;refine ⟨j,sZ (sL J),h1,h3,fun p I=>?_⟩;rw [ZE (by lia)] at I;cases I
def pJ {k:K4} {ps:List (List K4×D)} {c:D} (L:Ok k) (Y:∀ p∈ps,Ok (hd p.1)) (J:cy [c]=.ok (.int (ps.length:Int))) (I:∀ (i:Nat) p,ps[i]?=some p->bT c (.int (i:Int))=.ok (bi p)) (hn:ps≠[]) (hl:ps.length<=1000):∃ i:Nat,cc [c,ar k]=.ok (.int (i:Int))/\Place k ps i:=by
 obtain ⟨i,e,hi⟩:=Fh L Y J I 1000 0 (ZW.mpr hn) (by lia) (fun _ _=>.inl rfl);refine ⟨i,?_,hi⟩;rw [yi,jb];exact aL ((av (aI rfl)).trans ((av e).trans (aD rfl)))
def nT {ks:List K4} (h:ks≠[]):hd ks∈ks:=by
 cases ks with
 | nil=>exact absurd rfl h
 | cons k r=>exact OR
def Kx {ks:List K4} (I:ks.Pairwise ca) {k:K4} (h:k∈ks):¬ ca k (hd ks):=by
 cases ks with
 | nil=>cases h
 | cons x r =>
  show ¬ ca k x;rcases rW.mp h with z|z
  .subst z;exact TS.to4.irr _
  .exact fun q=>TS.to4.irr _ (TS.to4.tr _ _ _ q ((Ys.mp I).1 k z))
def OF {k:K4} {ps:List (List K4×D)} {j:Nat} {p:List K4×D} (hs:((ps.map BY).flatten).Pairwise ca) (hn:∀ p∈ps,p.1≠[]) (hj:Place k ps j) (hp:ps[j]?=some p):k∈(ps.map BY).flatten ↔ k∈p.1:=by
 obtain ⟨s1,s2⟩:=abf.mp hs;rw [YY] at s2;have s3:=Xj.mp s2;have J:=hj.l;have ep:ps[j]=p:=by rw [oR J] at hp;exact WG hp
 constructor
 .intro hk;obtain ⟨l,hl,I⟩:=Xo.mp hk;obtain ⟨q,hq,rfl⟩:=P2.mp hl;obtain ⟨i,hi,Y⟩:=List.mem_iff_getElem.mp hq;rcases Nat.lt_trichotomy i j with h|h|h
  .rcases hj.b p hp with z|z
   .lia
   .refine absurd (s3 i j hi J h k (by rw [Y];exact I) (hd p.1) (by rw [ep];exact nT (hn p (ep ▸ WM J)))) z
  .subst h;rw [<- ep,Y];exact I
  .have hj1:j+1 < ps.length:=by lia
   have L:=hj.a _ (oR hj1);by_cases h2:i=j+1
   .subst h2;rw [Y] at L;exact absurd L (Kx (s1 _ hl) I)
   .have:=s3 (j+1) i hj1 hi (by lia) (hd ps[j+1].1) (nT (hn _ (WM hj1))) k (by rw [Y];exact I)
    exact absurd (TS.to4.tr _ _ _ L this) (TS.to4.irr _)
 .intro hk;exact Xo.mpr ⟨p.1,P2.mpr ⟨p,Xr hp,rfl⟩,hk⟩
def HG {k:K4} {a b c:D} (hk:Ok k):∀ (h n:Nat) (ks:List K4) (d:D) (o:Option D),h < n->Tr h ks d->Rows ks->ks.length<=601 ->
  ∃ (I:List K4) (o':Option D),bI hQ hB n [some a,some b,some c,some (ar k),some d,o]=.ok (.nx [some a,some b,some c,some (ar k),some (.tup [.str "leaf",.tup (I.map ar)]),o'])/\(k∈ks ↔ k∈I)/\∀ l∈I,Ok l
 | _,0,_,_,_,hn,_,_,_=>absurd hn (Zi _)
 | 0,n+1,ks,d,o,hn,ht,hr,hl=>by
  have e:d=_:=ht;subst e;exact ⟨ks,o,sZ (aJ (ai (ai rfl rfl bb) rfl (fz.trans (by rw [VB])))),Iff.rfl,hr.o⟩
 | h+1,n+1,ks,d,o,hn,ht,hr,hl=>by
  obtain ⟨ps,h1,h2,rfl,rfl⟩:=ht;have L:∀ p∈ps,p.1≠[]:=fun p Y=>(h2 p Y).1;have hin:∀ p∈ps,∀ x∈p.1,x∈(ps.map BY).flatten:=fun p Y x hx=>Xo.mpr ⟨p.1,P2.mpr ⟨p,Y,rfl⟩,hx⟩;have hfl:=yM L;obtain ⟨i,e,hi⟩:=pJ hk (fun p Y=>hr.o _ (hin p Y _ (nT (L p Y)))) (rN _ _) (fun i p h=>Nl _ _ h) h1 (by lia);have hil:=hi.l;have eg:=oR hil;have hm:ps[i]∈ps:=WM hi.l;have J:(ps[i].1).Sublist ((ps.map BY).flatten):=YV (P2.mpr ⟨_,hm,rfl⟩);obtain ⟨I,o',e2,q1,q2⟩:=HG (a:=a) (b:=b) (c:=c) hk h n ps[i].1 ps[i].2 (some (.tup (ps.map bi))) (by lia) (h2 _ hm).2 ⟨hr.s.sublist J,fun x hx=>hr.o x (hin _ hm x hx)⟩ (IF J.length_le hl);refine ⟨I,o',(nK (aJ (ai (ai rfl rfl bb) rfl (fz.trans (by rw [acD rfl])))) ?_).trans e2,(OF hr.s L hi eg).trans q1,q2⟩;exact (av (aI (ai rfl rfl bj))).trans (aI (ai (ai rfl (aq (ac rfl (ac rfl rfl)) e) (Nl _ _ eg)) rfl bj))
def we {h:Nat} {k:K4} {ks:List K4} {d:D} (L:Ok k) (ht:Tr h ks d) (hh:h<=700) (hr:Rows ks) (hl:ks.length<=601):fw [d,cI k,.int k.2.2.2]=.ok (.bl (decide (k∈ks))):=by
 obtain ⟨I,o',e,q1,Y⟩:=HG (a:=d) (b:=cI k) (c:=.int k.2.2.2) L h 1000 ks d none (by lia) ht hr hl;rw [un] at e;have em:decide (k∈ks)=decide (k∈I):=decide_eq_decide.mpr q1;have J:=L.mem Y;rw [un] at J;rw [yU,ki,em];exact aL ((av (aI (bN (ac rfl (ac rfl rfl))))).trans ((av (aI rfl)).trans ((av e).trans (aD (ai rfl (ai rfl rfl bj) J)))))
def MC {g:D->Option Int->Option Int->R D} {φ:FE} {l u:Sd->R (Option Int)} {U:Sd} {a d:D} {lo hi:Option Int} (h:φ U=.ok a) (h1:l U=.ok lo) (h2:u U=.ok hi) (hd:g a lo hi=.ok d):Ak g φ l u U=.ok d:=by
 rw [PY,h,aF,KK,h1,aF,KQ,h2,aF,Lm,hd]
def tT {xs:acO} {i j:Int} (I:0<=i) (h1:i<=j) (h2:j<=(xs.length:Int)):lu xs (some i) (some j)=(xs.drop i.toNat).take (j.toNat - i.toNat):=by
 obtain ⟨n,rfl⟩:∃ n:Nat,i=(n:Int):=⟨i.toNat,by lia⟩;obtain ⟨m,rfl⟩:∃ n:Nat,j=(n:Int):=⟨j.toNat,by lia⟩;unfold lu;rw [HT.oF,HT.oF,WH,WH,Zh (by lia),Zh (by lia)]
structure Rw (c:D) (xs:acO):Prop where
 l:cy [c]=.ok (.int (xs.length:Int))
 s:∀ lo hi,∃ y,Dj c lo hi=.ok y/\oQ [y]=.ok (.tup (lu xs lo hi))
def Ev (xs:acO):Rw (.lst xs) xs:=⟨uc,fun lo hi=>⟨_,Ht,u5⟩⟩
def Q8 (xs:acO):Rw (.tup xs) xs:=⟨wr,fun lo hi=>⟨_,RA,Ph⟩⟩
def xq {w c:D} {xs zs:acO} {m p:Int} {o5 o6:Option D} (I:Rw c xs) (hx:xs.length<=1000) (hz:zs.length < 100) (Y:0 < m/\m < 100) :
  cB [some w,some c,some (.int m),some (.lst zs),some (.int p),o5,o6]=.ok (.nx [some w,some c,some (.int m),some (.lst (zs++[.tup [w,.tup (lu xs (some (p*(xs.length:Int)/m)) (some ((p+1)*(xs.length:Int)/m)))]])),some (.int p),some (.int (p*(xs.length:Int)/m)),some (.int ((p+1)*(xs.length:Int)/m))]):=by
 obtain ⟨y,J,L⟩:=I.s (some (p*(xs.length:Int)/m)) (some ((p+1)*(xs.length:Int)/m));exact (av (aI (cb (kH rfl (bS rfl I.l) (by lia)) rfl (by lia)))).trans ((av (aI (cb (kH (bP rfl rfl) (bS rfl I.l) (by lia)) rfl (by lia)))).trans (kM (xs:=zs) rfl (bN (ac rfl (ac (aq (ac (MC rfl (dM rfl) (dM rfl) J) rfl) L) rfl))) (by lia)))
def ly {I:Type} (f:I->D) (w:D) {c:D} {xs:List I} (J:Rw c (xs.map f)) (h0:1<=xs.length) (h1:xs.length<=8):bv [w,c]=.ok (.lst [.tup [w,.tup (xs.map f)]]):=by
 rw [pH,gI];have el:(xs.map f).length=xs.length:=eQ _;have Y:(((xs.map f).length:Int)+8 - 1)/8=1:=by lia
 have t:=xq (w:=w) (zs:=[]) (m:=1) (p:=0) (o5:=none) (o6:=none) J (by lia) (by simp) (by decide);have ec:lu (xs.map f) (some (0*((xs.map f).length:Int)/1)) (some ((0+1)*((xs.map f).length:Int)/1))=xs.map f:=by
  rw [ab9,ab9,Int.zero_mul,Int.zero_add,Int.one_mul,tT (by lia) (by lia) (by lia),Int.toNat_zero,YM,WH,Z8,aaX]
 rw [ec] at t;have L:aw cG (aw pP (aw bw (ao cy (ae (ah 1) ap)) (vC lR)) cQ) (vC lR) [some w,some c,none,none,none,none,none]=.ok (.int 1) :=
  (cb (pC (bP (bS rfl J.l) rfl) rfl) rfl (by decide)).trans (by rw [Y])
 exact aL ((av (aI L)).trans ((av (dj (cf rfl))).trans ((av (gE (pD (n:=1) rfl (by decide)) ((dr t).trans rfl))).trans (aD rfl))))
def wt {β:Type} (f:β->D) (w:D) {c:D} {xs:List β} (L:Rw c (xs.map f)) (h0:9<=xs.length) (h1:xs.length<=16):bv [w,c]=.ok (.lst [.tup [w,.tup ((xs.take (xs.length/2)).map f)],.tup [w,.tup ((xs.drop (xs.length/2)).map f)]]):=by
 rw [pH,gI];have el:(xs.map f).length=xs.length:=eQ _;have e1:(((xs.map f).length:Int)+8 - 1)/8=2:=by lia
 have t1:=xq (w:=w) (zs:=[]) (m:=2) (p:=0) (o5:=none) (o6:=none) L (by lia) (by simp) (by decide);have J:lu (xs.map f) (some (0*((xs.map f).length:Int)/2)) (some ((0+1)*((xs.map f).length:Int)/2))=(xs.take (xs.length/2)).map f:=by
  have h2:(0*((xs.map f).length:Int)/2)=0:=by rw [Int.zero_mul];rfl
  have Y:((0+1)*((xs.map f).length:Int)/2)=((xs.length/2:Nat):Int):=by lia
  rw [h2,Y,tT (by lia) (by lia) (by lia),Int.toNat_zero,YM,WH,Z8,aaO]
 rw [J] at t1;have t2:=xq (w:=w) (zs:=[.tup [w,.tup ((xs.take (xs.length/2)).map f)]]) (m:=2) (p:=1) (o5:=some (.int (0*((xs.map f).length:Int)/2))) (o6:=some (.int ((0+1)*((xs.map f).length:Int)/2))) L (by lia) (by simp) (by decide);have I:lu (xs.map f) (some (1*((xs.map f).length:Int)/2)) (some ((1+1)*((xs.map f).length:Int)/2))=(xs.drop (xs.length/2)).map f:=by
  have h2:(1*((xs.map f).length:Int)/2)=((xs.length/2:Nat):Int):=by lia
  have Y:((1+1)*((xs.map f).length:Int)/2)=((xs.length:Nat):Int):=by lia
  rw [h2,Y,tT (by lia) (by lia) (by lia),WH,WH,XT (by rw [WI,eQ];lia),aaP]
 rw [I] at t2;have hm:aw cG (aw pP (aw bw (ao cy (ae (ah 1) ap)) (vC lR)) cQ) (vC lR) [some w,some c,none,none,none,none,none]=.ok (.int 2) :=
  (cb (pC (bP (bS rfl L.l) rfl) rfl) rfl (by decide)).trans (by rw [e1])
 exact aL ((av (aI hm)).trans ((av (dj (cf rfl))).trans ((av (gE (pD (n:=2) rfl (by decide)) ((dr t1).trans ((dr t2).trans rfl)))).trans (aD rfl))))
def F5 {h:Nat} {q:List K4×D} (I:Tr h q.1 q.2) (hn:q.1≠[]):lW [q.2]=.ok (ar (hd q.1)):=by
 rw [Bc,lV];cases h with
 | zero =>
  have e:q.2=_:=I;rw [e];cases eq:q.1 with
  | nil=>exact absurd eq hn
  | cons k r =>
   refine aL (aD ?_);rw [Ci,aJ (b:=true) (ai (ai rfl rfl bb) rfl (fz.trans (by rw [acD rfl]))),aF,Dh,acA rfl];exact ai (ai rfl rfl bj) rfl bb
 | succ h =>
  obtain ⟨ps,h1,h2,L,J⟩:=I;rw [J,L];cases ps with
  | nil=>exact absurd rfl h1
  | cons p r =>
   refine aL (aD ?_);rw [Ci,aJ (b:=false) (ai (ai rfl rfl bb) rfl (fz.trans (by rw [Qd]))),aF,Dh,acB iF]
   have:=Cs (r:=r) (h2 p (by simp)).1
   rw [show ((p::r).map BY).flatten=(nz (p::r)).1 from rfl,this];exact ai (ai (ai rfl rfl bj) rfl bb) rfl bb
def kZ {qs:List (List K4×D)} (h:∀ q∈qs,(∃ h,Tr h q.1 q.2)/\q.1≠[]) (L:qs.length<=100):cC [.lst (qs.map X8)]=.ok (.lst (qs.map bi)):=by
 rw [Bn,mm];refine aL (aD (eX (m5 rfl rfl) (vn _ _ _ (fun q I=>?_) (by lia))));obtain ⟨⟨g,J⟩,hn⟩:=h q I;exact bN (ac (aq (ac rfl rfl) (F5 J hn)) (ac rfl rfl))
def ins (k:K4) (ks:List K4):List K4:=ks.filter (fun l=>decide (ca l k))++k::ks.filter (fun l=>decide (ca k l))
def Di {k:K4} {A B C:List K4} (J:∀ l∈A,ca l k) (L:∀ l∈C,ca k l):ins k (A++B++C)=A++ins k B++C:=by
 have a1:A.filter (fun l=>decide (ca l k))=A:=Yh.mpr fun l I=>acD (J l I);have a2:A.filter (fun l=>decide (ca k l))=[]:=aa3.mpr fun l I z=>TS.to4.irr _ (TS.to4.tr _ _ _ (J l I) (acE z));have c1:C.filter (fun l=>decide (ca k l))=C:=Yh.mpr fun l I=>acD (L l I);have Y:C.filter (fun l=>decide (ca l k))=[]:=aa3.mpr fun l I z=>TS.to4.irr _ (TS.to4.tr _ _ _ (L l I) (acE z));unfold ins;simp only [abP,a1,a2,c1,Y,Xn,Zl,WC,List.cons_append]
def B3 {k:K4}:∀ {ks:List K4},k∉ks->(ins k ks).length=ks.length+1
 | [],_=>rfl
 | l::r,h=>by
  have J:=B3 (k:=k) (ks:=r) fun z=>h (iN _ z);have I:l≠k:=fun z=>h (by rw [z];simp);unfold ins at J ⊢;rw [Do,RW] at J ⊢;rw [RW];rcases TS.to4.tri l k with q|q|q
  .have q2:¬ ca k l:=fun z=>TS.to4.irr _ (TS.to4.tr _ _ _ q z);rw [YG (by exact acD q),YH (by simpa using q2),RW];lia
  .exact absurd q I
  .have q2:¬ ca l k:=fun z=>TS.to4.irr _ (TS.to4.tr _ _ _ q z);rw [YH (by simpa using q2),YG (by exact acD q),RW];lia
def Cu {k:K4} {ks:List K4} (x:K4):x∈ins k ks ↔ x=k\/x∈ks:=by
 unfold ins;rw [MK,rW,Xw,Xw];constructor
 .rintro (⟨h,_⟩|h|⟨h,_⟩)
  .exact .inr h
  .exact .inl h
  .exact .inr h
 .rintro (h|h)
  .exact .inr (.inl h)
  .rcases TS.to4.tri x k with q|q|q
   .exact .inl ⟨h,acD q⟩
   .exact .inr (.inl q)
   .exact .inr (.inr ⟨h,acD q⟩)
def z5 {k:K4} {ks:List K4} (Y:Ok k) (I:Rows ks):Rows (ins k ks):=by
 refine ⟨?_,fun x J=>?_⟩
 .unfold ins;rw [W1];refine ⟨I.s.filter _,Ys.mpr ⟨fun y L=>acE (Xw.mp L).2,I.s.filter _⟩,fun x J y L=>?_⟩;have h1:=acE (Xw.mp J).2;rcases rW.mp L with z|z
  .rw [z];exact h1
  .exact TS.to4.tr _ _ _ h1 (acE (Xw.mp z).2)
 .rcases (Cu x).mp J with z|z
  .rw [z];exact Y
  .exact I.o x z
def tH (k:K4) (ks:List K4):List K4:=ks.filter (fun l=>!decide (l=k))
def yc {k:K4} {ks:List K4} (h:k∉ks):tH k ks=ks:=Yh.mpr fun l I=>by
 rw [acC (show ¬ l=k from fun z=>h (z ▸ I))];rfl
def Cg {k x:K4} {ks:List K4}:x∈tH k ks ↔ x∈ks/\x≠k:=by
 unfold tH;rw [Xw];simp
def BM (k:K4) (A B:List K4):tH k (A++B)=tH k A++tH k B:=abP ..
def Cy {k:K4}:∀ {ks:List K4},ks.Pairwise ca->k∈ks->(tH k ks).length+1=ks.length
 | [],_,h=>by cases h
 | l::r,hs,h=>by
  obtain ⟨h1,h2⟩:=Ys.mp hs;by_cases e:l=k
  .subst e;have hn:l∉r:=fun z=>TS.to4.irr _ (h1 l z)
   have:tH l (l::r)=r:=by
    unfold tH;rw [YH (by simp)];exact yc hn
   rw [this,RW]
  .have hk:k∈r:=(rW.mp h).resolve_left fun z=>e z.symm;have I:=Cy h2 hk
   have:tH k (l::r)=l::tH k r:=by
    unfold tH;rw [YG (by simp [e])]
   rw [this,RW,RW,I]
def yP {k:K4} {ks:List K4} (I:Rows ks):Rows (tH k ks):=⟨I.s.filter _,fun x J=>I.o x (Cg.mp J).1⟩
structure Fresh (h:Nat) (ks:List K4) (qs:List (List K4×D)):Prop where
 n:∀ q∈qs,Nd h 4 q
 f:(qs.map BY).flatten=ks
 a:1<=qs.length
 b:qs.length<=2
def t8 {c:D} {ks:List K4} (J:Rw c (ks.map ar)) (L:4<=ks.length) (Y:ks.length<=16):∃ qs:List (List K4×D),bv [.str "leaf",c]=.ok (.lst (qs.map X8))/\Fresh 0 ks qs:=by
 by_cases h:ks.length<=8
 .refine ⟨[wo ks],ly ar _ J (by lia) h,fun q I=>?_,by simp [wo],by simp,by simp⟩;obtain rfl:q=wo ks:=by simpa using I
  exact ⟨L,h,rfl⟩
 .refine ⟨[wo (ks.take (ks.length/2)),wo (ks.drop (ks.length/2))],wt ar _ J (by lia) (by lia),fun q I=>?_,by simp [wo],by simp,by simp⟩;rcases rW.mp I with z|z
  .subst z;refine ⟨?_,?_,rfl⟩
   .show 4<=(ks.take _).length;rw [WA];lia
   .show (ks.take _).length<=8;rw [WA];lia
  .obtain rfl:q=wo (ks.drop (ks.length/2)):=by simpa using z
   refine ⟨?_,?_,rfl⟩
   .show 4<=(ks.drop _).length;rw [WI];lia
   .show (ks.drop _).length<=8;rw [WI];lia
def qc {c:D} {h:Nat} {ps:List (List K4×D)} (L:Rw c (ps.map bi)) (I:∀ p∈ps,Nd h 4 p) (h0:4<=ps.length) (h9:ps.length<=16):∃ qs:List (List K4×D),bv [.str "branch",c]=.ok (.lst (qs.map X8))/\Fresh (h+1) ((ps.map BY).flatten) qs:=by
 by_cases Y:ps.length<=8
 .refine ⟨[nz ps],ly bi _ L (by lia) Y,fun q J=>?_,by simp [nz],by simp,by simp⟩;obtain rfl:q=nz ps:=by simpa using J
  exact ⟨ps,h0,Y,I,rfl⟩
 .refine ⟨[nz (ps.take (ps.length/2)),nz (ps.drop (ps.length/2))],wt bi _ L (by lia) (by lia),fun q J=>?_,?_,by simp,by simp⟩
  .rcases rW.mp J with z|z
   .subst z;exact ⟨_,by rw [WA];lia,by rw [WA];lia,fun p h=>I p (X6 h),rfl⟩
   .obtain rfl:q=nz (ps.drop (ps.length/2)):=by simpa using z
    exact ⟨_,by rw [WI];lia,by rw [WI];lia,fun p h=>I p (X7 h),rfl⟩
  .show (((ps.take (ps.length/2)).map BY).flatten::[((ps.drop (ps.length/2)).map BY).flatten]).flatten=_;rw [W6,W6,List.flatten_nil,Xn,<- XB,<- Wy,XF]
def DG (h lo:Nat) (ks:List K4) (qs:List (List K4×D)):Prop:=(∃ q,qs=[q]/\q.1=ks/\Nd h lo q)\/Fresh h ks qs
def Dz {lo:Nat} {ks:List K4} (I:1<=ks.length) (h1:lo<=ks.length) (J:ks.length<=9):∃ qs:List (List K4×D),bv [.str "leaf",.lst (ks.map ar)]=.ok (.lst (qs.map X8))/\DG 0 lo ks qs:=by
 by_cases h:ks.length<=8
 .exact ⟨[wo ks],ly ar _ (Ev _) I h,.inl ⟨_,rfl,rfl,h1,h,rfl⟩⟩
 .obtain ⟨qs,e,f⟩:=t8 (Ev (ks.map ar)) (by lia) (by lia);exact ⟨qs,e,.inr f⟩
def zP {h lo:Nat} {ps:List (List K4×D)} (I:∀ p∈ps,Nd h 4 p) (L:1<=ps.length) (h1:lo<=ps.length) (Y:ps.length<=9):∃ qs:List (List K4×D),bv [.str "branch",.lst (ps.map bi)]=.ok (.lst (qs.map X8))/\DG (h+1) lo ((ps.map BY).flatten) qs:=by
 by_cases J:ps.length<=8
 .exact ⟨[nz ps],ly bi _ (Ev _) L J,.inl ⟨_,rfl,rfl,ps,h1,J,I,rfl⟩⟩
 .obtain ⟨qs,e,f⟩:=qc (Ev (ps.map bi)) I (by lia) (by lia);exact ⟨qs,e,.inr f⟩
def DG.fresh {h:Nat} {ks:List K4} {qs:List (List K4×D)} (I:DG h 4 ks qs):Fresh h ks qs:=by
 rcases I with ⟨q,rfl,f,n⟩|f
 .exact ⟨fun x J=>by rw [Ws.mp J];exact n,by simpa using f,by simp,by simp⟩
 .exact f
def iz:Nat->D
 | 0=>.str "leaf"
 | _+1=>.str "branch"
def Nd.things:∀ {h lo:Nat} {q:List K4×D},Nd h lo q->∃ xs:acO,q.2=.tup [iz h,.tup xs]/\lo<=xs.length/\xs.length<=8/\∀ I,I<=xs.length->Nd h I q
 | 0,lo,q,⟨a,b,c⟩=>⟨q.1.map ar,by rw [c];rfl,by rw [eQ];exact a,by rw [eQ];exact b,fun I h=>⟨by rw [eQ] at h;exact h,b,c⟩⟩
 | h+1,lo,q,⟨ps,a,b,c,d⟩=>⟨ps.map bi,by rw [d];rfl,by rw [eQ];exact a,by rw [eQ];exact b,fun I h=>⟨ps,by rw [eQ] at h;exact h,b,c,d⟩⟩
def AY:∀ {h:Nat} {a b:List K4×D} {xs ys:acO},Nd h 3 a->Nd h 3 b->a.2=.tup [iz h,.tup xs]->b.2=.tup [iz h,.tup ys]->∃ qs:List (List K4×D),bv [iz h,.tup (xs++ys)]=.ok (.lst (qs.map X8))/\Fresh h (a.1++b.1) qs
 | 0,a,b,xs,ys,⟨a1,a2,a3⟩,⟨b1,b2,b3⟩,ea,eb=>by
  have I:D.tup [iz 0,.tup xs]=D.tup [.str "leaf",.tup (a.1.map ar)]:=ea.symm.trans (acF X8 a3);have J:D.tup [iz 0,.tup ys]=D.tup [.str "leaf",.tup (b.1.map ar)]:=eb.symm.trans (acF X8 b3);obtain rfl:xs=a.1.map ar:=by injection I with e;injection e with _ e;injection e with e;injection e
  obtain rfl:ys=b.1.map ar:=by injection J with e;injection e with _ e;injection e with e;injection e
  rw [<- Wy];exact t8 (Q8 _) (by rw [Do];lia) (by rw [Do];lia)
 | h+1,a,b,xs,ys,⟨ps,a1,a2,a4,a3⟩,⟨qs,b1,b2,b4,b3⟩,ea,eb=>by
  have I:D.tup [iz (h+1),.tup xs]=D.tup [.str "branch",.tup (ps.map bi)]:=ea.symm.trans (acF X8 a3);have J:D.tup [iz (h+1),.tup ys]=D.tup [.str "branch",.tup (qs.map bi)]:=eb.symm.trans (acF X8 b3);obtain rfl:xs=ps.map bi:=by injection I with e;injection e with _ e;injection e with e;injection e
  obtain rfl:ys=qs.map bi:=by injection J with e;injection e with _ e;injection e with e;injection e
  subst a3 b3;rw [<- Wy,show (nz ps).1++(nz qs).1=((ps++qs).map BY).flatten by rw [Wy,XB];rfl];exact qc (Q8 _) (fun p L=>(MK.mp L).elim (a4 p) (b4 p)) (by rw [Do];lia) (by rw [Do];lia)
def nL {h:Nat} {ks:List K4} {qs:List (List K4×D)} (I:Fresh h ks qs):∀ q∈qs,(∃ h,Tr h q.1 q.2)/\q.1≠[] :=
 fun q J=>⟨⟨h,(I.n q J).tr (.inr (by decide))⟩,(I.n q J).pos (by decide)⟩
def jt {α:Type} {ps:List α} {j:Nat} {p:α} (I:ps[j]?=some p):ps=ps.take j++p::ps.drop (j+1):=by
 obtain ⟨hj,e⟩:=WD.mp I;rw [<- e,<- X0 hj,XF]
def apart {k:K4} {ps:List (List K4×D)} {j:Nat} {p:List K4×D} (hs:((ps.map BY).flatten).Pairwise ca) (hn:∀ p∈ps,p.1≠[]) (hj:Place k ps j) (hp:ps[j]?=some p) :
  (∀ l∈((ps.take j).map BY).flatten,ca l k)/\(∀ l∈((ps.drop (j+1)).map BY).flatten,ca k l):=by
 obtain ⟨s1,s2⟩:=abf.mp hs;rw [YY] at s2;have hsp:=jt hp;rw [hsp] at s2;obtain ⟨_,sc,sa⟩:=W1.mp s2;obtain ⟨_,sd⟩:=Ys.mp sc;have Y:p∈ps:=Xr hp;constructor
 .intro l hl;obtain ⟨x,hx,I⟩:=Xo.mp hl;obtain ⟨a,ha,rfl⟩:=P2.mp hx;have h1:ca l (hd p.1):=sa a ha p OR l I _ (nT (hn p Y));rcases hj.b p hp with z|z
  .subst z;rw [Y6] at ha;cases ha
  .rcases TS.to4.tri k (hd p.1) with q|q|q
   .exact absurd q z
   .rw [q];exact h1
   .exact TS.to4.tr _ _ _ h1 q
 .intro l hl;obtain ⟨x,hx,I⟩:=Xo.mp hl;obtain ⟨c,L,rfl⟩:=P2.mp hx;cases ed:ps.drop (j+1) with
  | nil=>rw [ed] at L;cases L
  | cons c0 r =>
   have e0:ps[j+1]?=some c0:=by
    have:=acF (fun l=>l[0]?) ed
    simpa [abN] using this
   have h1:=hj.a c0 e0;have J:c0∈ps:=Xr e0;rw [ed] at L sd;rcases rW.mp L with z|z
   .subst z;have h2:=Kx (s1 _ (P2.mpr ⟨c,J,rfl⟩)) I;rcases TS.to4.tri l (hd c.1) with q|q|q
    .exact absurd q h2
    .rw [q];exact h1
    .exact TS.to4.tr _ _ _ h1 q
   .exact TS.to4.tr _ _ _ h1 ((Ys.mp sd).1 c z _ (nT (hn c0 J)) l I)
def BZ (A B C:List (List K4×D)):((A++B++C).map BY).flatten=(A.map BY).flatten++(B.map BY).flatten++(C.map BY).flatten:=by
 rw [Wy,Wy,XB,XB]
def R6 {xs ys:acO} (h:1<=xs.length) (I:xs.length+ys.length<=1000000):bw (.tup xs) (.tup ys)=.ok (.tup (xs++ys)):=by
 cases xs with
 | nil=>simp at h
 | cons x r=>exact acA ⟨rfl,I⟩
def AH {I:Type} (f:I->D) {xs ys:List I} (J:xs.length+ys.length<=1000):bw (.lst (xs.map f)) (.lst (ys.map f))=.ok (.lst ((xs++ys).map f)):=by
 rw [Wy];exact add_l.trans (acA (by rw [eQ,eQ];lia))
def U9 {I:Type} (f:I->D) (xs:List I) (j:Nat):tR (.lst (xs.map f)) none (some (j:Int))=.ok (.lst ((xs.take j).map f)):=by
 rw [Ht,Ai (by lia),WH,aaO]
def Tq {I:Type} (f:I->D) (xs:List I) {j:Nat} {i:Int} (h:i=(j:Int)):tR (.lst (xs.map f)) (some i) none=.ok (.lst ((xs.drop j).map f)):=by
 rw [h,Ht,yI (by lia),WH,aaP]
def xx {h:Nat} {lo s t:Nat} {ps qs:List (List K4×D)} {ks:List K4} (J:∀ p∈ps,Nd h 4 p) (hf:Fresh h ks qs) (Y:ps.length<=8) (hs:s<=t) (ht:t<=ps.length) (hn:lo<=s+qs.length+(ps.length - t)) (L:s+qs.length+(ps.length - t)<=8) :
  Nd (h+1) lo (nz (ps.take s++qs++ps.drop t)):=by
 refine ⟨_,?_,?_,fun x I=>?_,rfl⟩
 .rw [Do,Do,WA,WI];lia
 .rw [Do,Do,WA,WI];lia
 .rcases MK.mp I with I|I
  .rcases MK.mp I with I|I
   .exact J x (X6 I)
   .exact hf.n x I
  .exact J x (X7 I)
def M5 {h j:Nat} {ps:List (List K4×D)} {p q:List K4×D} (L:∀ p∈ps,Nd h 4 p) (h2:2<=ps.length) (h8:ps.length<=8) (hj:ps[j]?=some p) (hq:Nd h 3 q) :
  ∃ q':List K4×D,nI [.lst (ps.map bi),.int (j:Int),q.2]=.ok q'.2/\q'.1=((ps.take j).map BY).flatten++q.1++((ps.drop (j+1)).map BY).flatten/\Nd (h+1) (ps.length - 1) q':=by
 obtain ⟨hjl,_⟩:=WD.mp hj;obtain ⟨xs,ex,x3,x8,_⟩:=hq.things;rw [EX,qz];cases j with
 | zero =>
  have I:=oR (show 1 < ps.length by lia);have J:ps[1]∈ps:=WM _;generalize ps[1]=s at I J;obtain ⟨ys,Y,y4,y8,_⟩:=(L s J).things;obtain ⟨qs,ec,hf⟩:=AY hq ((L s J).mono (by decide)) ex Y;refine ⟨nz (ps.take 0++qs++ps.drop 2),?_,?_,xx L hf h8 (by lia) (by lia) (by have:=hf.a;lia) (by have:=hf.b;lia)⟩
  .have eS:bT (.lst (ps.map bi)) (.int 1)=.ok (bi s):=tG (i:=1) _ _ I;rw [ex];have st:gm (bR (aw eI (ah 1) i4)) (aB (aZ 3 i4) (aZ 4 (aw bw (uI 2 1) (aw bT (aw bT (uI 0 1) cQ) cQ)))) (aB (aZ 3 (aw pP (ah 1) cQ)) (aZ 4 (aw bw (aw bT (aw bT (aw bT (ah 0) (ah 3)) cQ) cQ) (uI 2 1)))) [some (.lst (ps.map bi)),some (.int ((0:Nat):Int)),some (.tup [iz h,.tup xs]),none,none,none]=.ok (.nx [some (.lst (ps.map bi)),some (.int ((0:Nat):Int)),some (.tup [iz h,.tup xs]),some (.int ((0:Nat):Int)),some (.tup (xs++ys)),none]) :=
    (br (aJ (ai rfl rfl (sS.trans rfl)))).trans ((av (aI rfl)).trans (aI (ai (ai rfl rfl bj) (ai (ai (ai rfl rfl eS) rfl bj) rfl (by rw [Y];exact bj)) (R6 (by lia) (by lia)))))
   refine aL ((av st).trans ((av (aI (aq (ac (ai rfl rfl bb) (ac rfl rfl)) ec))).trans (aD (bN (ac rfl (ac (aq (ac (ai (ai (mV rfl rfl (dM rfl) (U9 bi ps 0)) (aq (ac rfl rfl) (kZ (nL hf) (by have:=hf.b;lia))) (AH bi (by rw [WA];have:=hf.b;lia))) (mV rfl (dM (bP rfl rfl)) rfl (Tq bi ps (j:=2) rfl)) (AH bi (by rw [Do,WA,WI];have:=hf.b;lia))) rfl) u5) rfl))))))
  .show ((ps.take 0++qs++ps.drop 2).map BY).flatten=_;rw [BZ,hf.f,Y6]
   have:=jt I
   have e2:ps.drop (0+1)=s::ps.drop 2:=by
    obtain ⟨hj,e⟩:=WD.mp I;rw [<- e];exact X0 hj
   rw [e2,lE,W6];simp
 | succ j =>
  have I:=oR (show j < ps.length by lia);have J:ps[j]∈ps:=WM _;generalize ps[j]=s at I J;obtain ⟨ys,Y,y4,y8,_⟩:=(L s J).things;obtain ⟨qs,ec,hf⟩:=AY ((L s J).mono (by decide)) hq Y ex;refine ⟨nz (ps.take j++qs++ps.drop (j+2)),?_,?_,xx L hf h8 (by lia) (by lia) (by have:=hf.a;lia) (by have:=hf.b;lia)⟩
  .have eS:bT (.lst (ps.map bi)) (.int (j:Int))=.ok (bi s):=tG _ _ I;have ej:((j+1:Nat):Int) - 1=(j:Int):=by lia
   rw [ex];have st:gm (bR (aw eI (ah 1) i4)) (aB (aZ 3 i4) (aZ 4 (aw bw (uI 2 1) (aw bT (aw bT (uI 0 1) cQ) cQ)))) (aB (aZ 3 (aw pP (ah 1) cQ)) (aZ 4 (aw bw (aw bT (aw bT (aw bT (ah 0) (ah 3)) cQ) cQ) (uI 2 1)))) [some (.lst (ps.map bi)),some (.int ((j+1:Nat):Int)),some (.tup [iz h,.tup xs]),none,none,none]=.ok (.nx [some (.lst (ps.map bi)),some (.int ((j+1:Nat):Int)),some (.tup [iz h,.tup xs]),some (.int (j:Int)),some (.tup (ys++xs)),none]) :=
    (jW (aJ (ai rfl rfl (sS.trans (by rw [acC (by lia)]))))).trans ((av (aI (ai rfl rfl (Qg.trans (by rw [ej]))))).trans (aI (ai (ai (ai (ai rfl rfl eS) rfl bj) rfl (by rw [Y];exact bj)) (ai rfl rfl bj) (R6 (by lia) (by lia)))))
   refine aL ((av st).trans ((av (aI (aq (ac (ai rfl rfl bb) (ac rfl rfl)) ec))).trans (aD (bN (ac rfl (ac (aq (ac (ai (ai (mV rfl rfl (dM rfl) (U9 bi ps j)) (aq (ac rfl rfl) (kZ (nL hf) (by have:=hf.b;lia))) (AH bi (by rw [WA];have:=hf.b;lia))) (mV rfl (dM (bP rfl rfl)) rfl (Tq bi ps (j:=j+2) (by lia))) (AH bi (by rw [Do,WA,WI];have:=hf.b;lia))) rfl) u5) rfl))))))
  .show ((ps.take j++qs++ps.drop (j+2)).map BY).flatten=_;rw [BZ,hf.f];have e2:ps.take (j+1)=ps.take j++[s]:=by
    obtain ⟨hj,e⟩:=WD.mp I;rw [<- e];exact List.take_succ_eq_append_getElem hj
   rw [e2,Wy,XB];simp
def um {k:K4} (hk:Ok k):∀ (h n lo:Nat) (q:List K4×D),h < n->Nd h lo q->(h=0\/1<=lo)->Rows q.1->k∉q.1 ->
  ∃ qs:List (List K4×D),cx n [q.2,ar k]=.ok (.lst (qs.map X8))/\DG h lo (ins k q.1) qs
 | _,0,_,_,hn,_,_,_,_=>absurd hn (Zi _)
 | 0,n+1,lo,q,hn,⟨h1,h2,h3⟩,hlo,hr,hnk=>by
  obtain ⟨ks,d⟩:=q;obtain rfl:d=(wo ks).2:=acF X8 h3;have L:=B3 hnk;have h1:lo<=ks.length:=h1;have h2:ks.length<=8:=h2;have L:(ins k ks).length=ks.length+1:=L;obtain ⟨qs,e,m⟩:=Dz (lo:=lo) (ks:=ins k ks) (by lia) (by lia) (by lia);refine ⟨qs,?_,m⟩;rw [p4,fX];have la:=X1 (fun l=>decide (ca l k)) ks;have lb:=X1 (fun l=>decide (ca k l)) ks;have ea:cN (.one 0) (iC (ao bG (ae (ah 0) (ae (ah 1) ap)))) (ah 0) [none,some (ar k)] (ks.map ar)=.ok (.lst ((ks.filter fun l=>decide (ca l k)).map ar)) :=
   xm ar ar _ ks (fun l hl=>gC (aq (ac rfl (ac rfl rfl)) ((hr.o l hl).ahead hk)) rfl) (fun _ _ _=>rfl) (by lia)
  have eb:cN (.one 0) (iC (ao bG (ae (ah 1) (ae (ah 0) ap)))) (ah 0) [none,some (ar k)] (ks.map ar)=.ok (.lst ((ks.filter fun l=>decide (ca k l)).map ar)) :=
   xm ar ar _ ks (fun l hl=>gC (aq (ac rfl (ac rfl rfl)) (hk.ahead (hr.o l hl))) rfl) (fun _ _ _=>rfl) (by lia)
  have I:bR (aw eI (uI 0 0) cY) [some (wo ks).2,some (ar k),none,none,none,none,none]=.ok true:=aJ (ai (ai rfl rfl bb) rfl (fz.trans (by rw [acD rfl])));have es:(ins k ks).map ar=((ks.filter fun l=>decide (ca l k)).map ar++[ar k])++(ks.filter fun l=>decide (ca k l)).map ar:=by
   unfold ins;rw [Wy,lE,WC];rfl
  rw [es] at e;exact aL (bV ((br I).trans ((av (aI (eX (m5 (ai rfl rfl bj) rfl) ea))).trans ((av (aI (eX (m5 (ai rfl rfl bj) rfl) eb))).trans (aD (aq (ac rfl (ac (ai (ai rfl (cf (ac rfl rfl)) (add_l.trans (acA (by rw [eQ];simp;lia)))) rfl (add_l.trans (acA (by rw [Do,eQ,eQ];simp;lia)))) rfl)) e))))))
 | h+1,n+1,lo,q,hn,⟨ps,h1,h2,h3,h4⟩,hlo,hr,hnk=>by
  subst h4;have hlo:1<=lo:=by lia
  have hne:∀ p∈ps,p.1≠[]:=fun p hp=>(h3 p hp).pos (by decide);have Y:∀ p∈ps,∀ x∈p.1,x∈(ps.map BY).flatten:=fun p hp x J=>Xo.mpr ⟨p.1,P2.mpr ⟨p,hp,rfl⟩,J⟩;have hpn:ps≠[]:=fun z=>by rw [z] at h1;simp at h1;lia
  obtain ⟨j,ej,hj⟩:=pJ (c:=.lst (ps.map bi)) hk (fun p hp=>hr.o _ (Y p hp _ (nT (hne p hp)))) (m6 _ _) (fun i p h=>tG _ _ h) hpn (by lia);have hjl:=hj.l;have eg:=oR hjl;have hm:ps[j]∈ps:=WM hj.l;generalize ps[j]=p at eg hm;have hsub:p.1.Sublist ((ps.map BY).flatten):=YV (P2.mpr ⟨_,hm,rfl⟩);obtain ⟨qs,e1,m1⟩:=um hk h n 4 p (by lia) (h3 p hm) (.inr (by decide)) ⟨hr.s.sublist hsub,fun x J=>hr.o x (Y _ hm x J)⟩ (fun z=>hnk (Y p hm k z));have hf:=m1.fresh;have q2:=hf.a;have q3:=hf.b;obtain ⟨ha,hc⟩:=apart hr.s hne hj eg;have hsp:=jt eg;have ltk:(ps.take j).length=j:=by rw [WA];have:=hj.l;lia
  have ldr:(ps.drop (j+1)).length=ps.length - (j+1):=WI;have hjl:=hj.l;have L:(ps.take j++qs++ps.drop (j+1)).length=ps.length - 1+qs.length:=by rw [Do,Do,ltk,ldr];lia
  obtain ⟨rs,e,m⟩:=zP (lo:=lo) (h:=h) (ps:=ps.take j++qs++ps.drop (j+1)) (fun x J=>by
   rcases MK.mp J with J|J
   .rcases MK.mp J with J|J
    .exact h3 x (X6 J)
    .exact hf.n x J
   .exact h3 x (X7 J)) (by lia) (by lia) (by lia)
  have em:((ps.take j++qs++ps.drop (j+1)).map BY).flatten=ins k (nz ps).1:=by
   rw [BZ,hf.f,<- Di ha hc];show ins k _=ins k ((ps.map BY).flatten);congr 1
   conv=>rhs;rw [hsp]
   rw [Wy,lE,XB,W6,WC]
  rw [em] at m;refine ⟨rs,?_,m⟩
  .rw [p4,fX];have I:bR (aw eI (uI 0 0) cY) [some (nz ps).2,some (ar k),none,none,none,none,none]=.ok false:=aJ (ai (ai rfl rfl bb) rfl (fz.trans (by rw [Qd])));rw [Wy,Wy] at e;have j1:(j:Int)+1=((j+1:Nat):Int):=by lia
   have s1:tR (.lst (ps.map bi)) none (some (j:Int))=.ok (.lst ((ps.take j).map bi)):=by rw [Ht,Ai (by lia),WH,aaO]
   have s2:tR (.lst (ps.map bi)) (some ((j:Int)+1)) none=.ok (.lst ((ps.drop (j+1)).map bi)):=by rw [j1,Ht,yI (by lia),WH,aaP]
   exact aL ((skip I).trans ((av (aI (aq (ac (ai rfl rfl bj) rfl) Ln))).trans ((av (aI (aq (ac rfl (ac rfl rfl)) ej))).trans ((av (aI (aq (ac (ai (ai rfl rfl (tG _ _ eg)) rfl bj) (ac rfl rfl)) e1))).trans (aD (aq (ac rfl (ac (ai (ai (mV rfl rfl (dM rfl) s1) (aq (ac rfl rfl) (kZ (nL hf) (by lia))) (add_l.trans (acA (by rw [eQ,eQ];lia)))) (mV rfl (dM (bP rfl rfl)) rfl s2) (add_l.trans (acA (by rw [Do,eQ,eQ,eQ];lia)))) rfl)) e))))))
def qm {k:K4} (hk:Ok k):∀ (h n lo:Nat) (q:List K4×D),h < n->Nd h lo q->(h=0\/2<=lo)->Rows q.1->k∈q.1 ->
  ∃ q':List K4×D,bQ n [q.2,ar k]=.ok q'.2/\q'.1=tH k q.1/\Nd h (lo - 1) q'
 | _,0,_,_,hn,_,_,_,_=>absurd hn (Zi _)
 | 0,n+1,lo,q,hn,⟨h1,h2,h3⟩,hlo,hr,hnk=>by
  obtain ⟨ks,d⟩:=q;obtain rfl:d=(wo ks).2:=acF X8 h3;have h1:lo<=ks.length:=h1;have h2:ks.length<=8:=h2;have hlen:(tH k ks).length+1=ks.length:=Cy hr.s hnk;refine ⟨wo (tH k ks),?_,rfl,?_,?_,rfl⟩
  .rw [np,du];have ea:cN (.one 0) (bR (aw pX (ah 0) (ah 1))) (ah 0) [none,some (ar k)] (ks.map ar)=.ok (.lst ((tH k ks).map ar)) :=
    xm ar ar _ ks (fun l hl=>aJ (ai rfl rfl ((hr.o l hl).ne hk))) (fun _ _ _=>rfl) (by lia)
   have I:bR (aw eI (uI 0 0) cY) [some (wo ks).2,some (ar k),none,none,none]=.ok true:=aJ (ai (ai rfl rfl bb) rfl (fz.trans (by rw [acD rfl])));exact aL (bV ((br I).trans (aD (bN (ac rfl (ac (aq (ac (eX (m5 (ai rfl rfl bj) rfl) ea) rfl) u5) rfl))))))
  .show lo - 1<=(tH k ks).length;lia
  .show (tH k ks).length<=8;lia
 | h+1,n+1,lo,q,hn,⟨ps,h1,h2,h3,h4⟩,hlo,hr,hnk=>by
  subst h4;have hlo:2<=lo:=by lia
  have J:∀ p∈ps,p.1≠[]:=fun p Y=>(h3 p Y).pos (by decide);have hin:∀ p∈ps,∀ x∈p.1,x∈(ps.map BY).flatten:=fun p Y x hx=>Xo.mpr ⟨p.1,P2.mpr ⟨p,Y,rfl⟩,hx⟩;have hpn:ps≠[]:=fun z=>by rw [z] at h1;simp at h1;lia
  obtain ⟨j,ej,hj⟩:=pJ (c:=.lst (ps.map bi)) hk (fun p Y=>hr.o _ (hin p Y _ (nT (J p Y)))) (m6 _ _) (fun i p h=>tG _ _ h) hpn (by lia);have hjl:=hj.l;have L:=oR hjl;have hm:ps[j]∈ps:=WM hj.l;generalize ps[j]=p at L hm;have hsub:p.1.Sublist ((ps.map BY).flatten):=YV (P2.mpr ⟨_,hm,rfl⟩);obtain ⟨q,e1,f1,m1⟩:=qm hk h n 4 p (by lia) (h3 p hm) (.inr (by decide)) ⟨hr.s.sublist hsub,fun x hx=>hr.o x (hin _ hm x hx)⟩ ((OF hr.s J hj L).mp hnk);obtain ⟨ha,hc⟩:=apart hr.s J hj L;have hjl:=hj.l;have eA:tH k (((ps.take j).map BY).flatten)=((ps.take j).map BY).flatten:=yc fun z=>TS.to4.irr _ (ha k z);have eC:tH k (((ps.drop (j+1)).map BY).flatten)=((ps.drop (j+1)).map BY).flatten:=yc fun z=>TS.to4.irr _ (hc k z);have ef:((ps.take j).map BY).flatten++q.1++((ps.drop (j+1)).map BY).flatten=tH k ((ps.map BY).flatten):=by
   have hsp:=jt L
   conv=>rhs;rw [hsp]
   rw [Wy,lE,XB,W6,BM,BM,eA,eC,f1,WC]
  obtain ⟨xs,ex,x3,x8,xN⟩:=m1.things;have x3:3<=xs.length:=x3;have I:bR (aw eI (uI 0 0) cY) [some (nz ps).2,some (ar k),none,none,none]=.ok false:=aJ (ai (ai rfl rfl bb) rfl (fz.trans (by rw [Qd])));have start:∀ T:FS,aB (gm (bR (aw eI (uI 0 0) cY)) (bh (dt (ae cY (ae (ao oQ (ae (iI [none,some 1] (rJ (uI 0 1)) (.one 0) (bR (aw pX (ah 0) (ah 1))) (ah 0)) ap)) ap)))) bu) (aB (aZ 2 (ao DB (ae (uI 0 1) ap))) (aB (aZ 3 (ao cc (ae (ah 2) (ae (ah 1) ap)))) (aB (aZ 4 (ao (bQ n) (ae (aw bT (aw bT (ah 2) (ah 3)) cQ) (ae (ah 1) ap)))) T))) [some (nz ps).2,some (ar k),none,none,none]=T [some (nz ps).2,some (ar k),some (.lst (ps.map bi)),some (.int (j:Int)),some q.2]:=fun T =>
   (skip I).trans ((av (aI (aq (ac (ai rfl rfl bj) rfl) Ln))).trans ((av (aI (aq (ac rfl (ac rfl rfl)) ej))).trans (av (aI (aq (ac (ai (ai rfl rfl (tG _ _ L)) rfl bj) (ac rfl rfl)) e1)))))
  have hq:bR (aw QT (ao cy (ae (uI 4 1) ap)) (vC uJ)) [some (nz ps).2,some (ar k),some (.lst (ps.map bi)),some (.int (j:Int)),some q.2]=.ok (decide ((4:Int)<=(xs.length:Int))):=aJ (ai (bS (ai rfl rfl (by rw [ex];exact bj)) wr) rfl UY);rw [np,du];by_cases h4:4<=xs.length
  .rw [acD (by lia)] at hq;have hF:Fresh h q.1 [q]:=⟨fun x hx=>by rw [Ws.mp hx];exact xN 4 h4,by simp,by simp,by simp⟩;refine ⟨nz (ps.take j++[q]++ps.drop (j+1)),aL ((start _).trans (bV ((br hq).trans (aD (bN (ac rfl (ac (aq (ac (ai (ai (mV rfl rfl (dM rfl) (U9 bi ps j)) (aq (ac (cf (ac rfl rfl)) rfl) (kZ (qs:=[q]) (nL hF) (by simp))) (AH bi (by rw [WA];simp;lia))) (mV rfl (dM (bP rfl rfl)) rfl (Tq bi ps (j:=j+1) (by lia))) (AH bi (by rw [Do,WA,WI];simp;lia))) rfl) u5) rfl))))))),?_,?_⟩
   .show ((ps.take j++[q]++ps.drop (j+1)).map BY).flatten=_;rw [BZ,hF.f];exact ef
   .exact xx h3 hF h2 (by lia) (by lia) (by simp;lia) (by simp;lia)
  .rw [acC (by lia)] at hq;obtain ⟨q',e2,f2,n2⟩:=M5 h3 (by lia) h2 L m1;exact ⟨q',aL ((start _).trans ((skip hq).trans (aD (aq (ac rfl (ac rfl (ac rfl rfl))) e2)))),f2.trans ef,n2.mono (by lia)⟩
def NW {h:Nat} {ks:List K4} {qs:List (List K4×D)} (I:DG h (rt h) ks qs):∃ h' d,lj [.lst (qs.map X8)]=.ok d/\Nd h' (rt h') (ks,d):=by
 rw [yN,nG];have one:∀ q:List K4×D,q.1=ks->Nd h (rt h) q->∃ h' d,fin ((aB (aZ 1 (ah 0)) (aB (bI (bR (aw Fy (ao cy (ae (ah 1) ap)) cQ)) (aZ 1 (ao bv (ae dU (ae (ao cC (ae (ah 1) ap)) ap)))) 1000) (bh (uI 1 0)))) [some (.lst [q.2]),none])=.ok d/\Nd h' (rt h') (ks,d):=fun q e n=>by
  refine ⟨h,q.2,aL ((av (aI rfl)).trans ((av (sZ (aJ (ai (bS rfl uc) rfl (uX.trans rfl))))).trans (aD (ai rfl rfl tY)))),?_⟩;rw [<- e];exact n
 rcases I with ⟨q,rfl,f,n⟩|f
 .exact one q f n
 .have ha:=f.a;have L:=f.b;rcases (show qs.length=1\/qs.length=2 by lia) with z|z
  .obtain ⟨q,rfl⟩:=XS.mp z;exact one q (by simpa using f.f) ((f.n q (by simp)).mono (by cases h with|zero=>exact WB _|succ h=>show 2<=4;lia))
  .have hp:=kZ (nL f) (by lia);have J:=ly bi (.str "branch") (Ev (qs.map bi)) (by lia) (by lia);refine ⟨h+1,(nz qs).2,aL ((av (aI rfl)).trans ((av ((nK (aJ (ai (bS rfl (m6 _ _)) rfl (uX.trans (by rw [z];rfl)))) (aI (aq (ac rfl (ac (aq (ac rfl rfl) hp) rfl)) J))).trans (sZ (aJ (ai (bS rfl uc) rfl (uX.trans rfl)))))).trans (aD (ai rfl rfl tY)))),qs,by show 2<=qs.length;lia,by lia,f.n,?_⟩;rw [<- f.f];rfl
def low {h:Nat} {q:List K4×D} (I:Nd h (rt h) q) (J:q.1.length<=700):h<=5:=by
 cases h with
 | zero=>lia
 | succ h =>
  have h1:=I.many;have h2:rt (h+1)=2:=rfl;rw [h2] at h1;rcases aca h 5 with z|z
  .lia
  .have:4 ^ 6<=4 ^ (h+1):=Nat.pow_le_pow_right (by decide) (by lia)
   lia
def Bt {h:Nat} {k:K4} {ks:List K4} {d:D} (Y:Ok k) (I:Nd h (rt h) (ks,d)) (L:Rows ks) (hl:ks.length<=600) (hn:k∉ks):∃ h' d',gh [d,cI k,.int k.2.2.2]=.ok d'/\Nd h' (rt h') (ins k ks,d'):=by
 have h5:=low I (by show ks.length<=700;lia);obtain ⟨qs,e,m⟩:=um Y h 10 (rt h) (ks,d) (by lia) I (GH h) L hn;obtain ⟨h',d',e2,n2⟩:=NW m;refine ⟨h',d',?_,n2⟩;have J:=we Y (I.tr (GH h)) (by lia) L (by show ks.length<=601;lia);rw [acC hn] at J;rw [un] at e;rw [xV,i8];exact aL ((skip (gC (aq (ac rfl (ac rfl (ac rfl rfl))) J) rfl)).trans (aD (aq (ac (aq (ac rfl (ac (bN (ac rfl (ac rfl rfl))) rfl)) e) rfl) e2)))
def vt {h:Nat} {k:K4} {ks:List K4} {d:D} (hk:Ok k) (Y:Nd h (rt h) (ks,d)) (hr:Rows ks) (hl:ks.length<=601) (hn:k∈ks):∃ h' d',c5 [d,cI k,.int k.2.2.2]=.ok d'/\Nd h' (rt h') (tH k ks,d'):=by
 have h5:=low Y (by show ks.length<=700;lia);obtain ⟨q,e,f,m⟩:=qm hk h 10 (rt h) (ks,d) (by lia) Y (by cases h with|zero=>exact .inl rfl|succ h=>exact .inr (mK _)) hr hn;have f:q.1=tH k ks:=f;have hh:=we hk (Y.tr (GH h)) (by lia) hr (by show ks.length<=601;lia);rw [acD hn] at hh;rw [un] at e;rw [tM,eV];have start:∀ T:FS,aB (gm (mR (iC (ao fw (ae (ah 0) (ae (ah 1) (ae (ah 2) ap)))))) (bh (ah 0)) bu) (aB (aZ 3 (ao dD (ae (ah 0) (ae (dt (ae (ah 1) (ae (ah 2) ap))) ap)))) T) [some d,some (cI k),some (.int k.2.2.2),none]=T [some d,some (cI k),some (.int k.2.2.2),some q.2]:=fun T =>
  (skip (uN (b:=true) (aq (ac rfl (ac rfl (ac rfl rfl))) hh))).trans (av (aI (aq (ac rfl (ac (bN (ac rfl (ac rfl rfl))) rfl)) e)))
 cases h with
 | zero =>
  obtain ⟨m1,L,I⟩:=m;refine ⟨0,q.2,aL ((start _).trans ((skip (sL (aJ (ai (ai rfl rfl (by rw [I];exact bb)) rfl (fz.trans (by rw [VB])))))).trans (aD rfl))),?_⟩;rw [<- f];exact ⟨WB _,L,I⟩
 | succ h =>
  obtain ⟨ps,m1,L,I,m4⟩:=m;subst m4;have m1:1<=ps.length:=m1;have q1:bR (aw eI (uI 3 0) dU) [some d,some (cI k),some (.int k.2.2.2),some (nz ps).2]=.ok true:=aJ (ai (ai rfl rfl bb) rfl (fz.trans (by rw [acD rfl])));have J:bR (aw eI (ao cy (ae (uI 3 1) ap)) cQ) [some d,some (cI k),some (.int k.2.2.2),some (nz ps).2]=.ok (decide ((ps.length:Int)=1)):=kI (bS (ai rfl rfl bj) (rN _ _)) rfl;by_cases h1:ps.length=1
  .rw [acD (by lia)] at J;obtain ⟨p,rfl⟩:=XS.mp h1;refine ⟨h,p.2,aL ((start _).trans (bV ((br (mF q1 J)).trans (aD (ai (ai (ai rfl rfl bj) rfl bb) rfl bj))))),?_⟩;have e6:p.1=tH k ks:=by rw [<- f];show p.1=([p.1]:List (List K4)).flatten;simp
   rw [<- e6];exact (I p (by simp)).mono (by cases h with|zero=>exact WB _|succ h=>show 2<=4;lia)
  .rw [acC (by lia)] at J;refine ⟨h+1,(nz ps).2,aL ((start _).trans ((skip (mF q1 J)).trans (aD rfl))),?_⟩;rw [<- f];exact ⟨ps,by show 2<=ps.length;lia,L,I,rfl⟩
def Py (k:Nat) (d:D):Prop:=∃ p,iG d=some p/\p.canLay0=true/\p.depth<=k
def Py.list {k:Nat}:∀ {ds:acO},(∀ d∈ds,Py k d)->∃ ps,fm ds=some ps/\YZ ps=true/\Zk ps<=k/\ps.length=ds.length
 | [],_=>⟨[],rfl,rfl,WB _,rfl⟩
 | d::r,h=>by
  obtain ⟨p,h1,h2,h3⟩:=h d (by simp);obtain ⟨ps,J,L,I,e4⟩:=Py.list fun x Y=>h x (iN _ Y);refine ⟨p::ps,?_,?_,?_,by simp [e4]⟩
  .rw [fm,h1,J];rfl
  .rw [YZ,h2,L];rfl
  .rw [Zk];exact Nat.max_le.mpr ⟨h3,I⟩
def Py.tup {k:Nat} {ds:acO} (h:∀ d∈ds,Py k d):Py (k+1) (.tup ds):=by
 obtain ⟨ps,I,J,L,Y⟩:=Py.list h;exact ⟨.tuple ps,by rw [iG,I];rfl,J,by rw [abe];lia⟩
def Py.lst {k:Nat} {ds:acO} (h:∀ d∈ds,Py k d):Py (k+1) (.lst ds):=by
 obtain ⟨ps,I,J,L,Y⟩:=Py.list h;exact ⟨.list ps,by rw [iG,I];rfl,J,by rw [abe];lia⟩
def Py.mono {k l:Nat} {d:D} (h:Py k d) (I:k<=l):Py l d:=let ⟨p,a,b,c⟩:=h;⟨p,a,b,IF c I⟩
def Py.two {k:Nat} {a b:D} (I:Py k a) (J:Py k b):Py (k+1) (.tup [a,b]):=Py.tup fun d hd=>by
 rcases rW.mp hd with z|z
 .rw [z];exact I
 .obtain rfl:d=b:=by simpa using z
  exact J
def Py.int (i:Int):Py 0 (.int i):=⟨.int i,rfl,rfl,mK _⟩
def Ok.laid {k:K4} (h:Ok k):Py 1 (ar k):=⟨AK k,h.py,h.lay.1,Z7 h.lay.2⟩
def Py.shaped {k:Nat} {p:aaY} (h1:p.canLay0=true) (h2:p.depth<=k) (I:k<=60):Xg p=true:=by
 unfold Xg;rw [h1,acD (by lia)];rfl
def Py.self {k:Nat} {d:D} (h:Py k d) (hk:k<=60) (Y:fh d=none):sW d d=some true:=by
 obtain ⟨p,L,I,J⟩:=h;have e:sW d d=mo d d:=by unfold sW;rw [Y]
 have s:=Py.shaped I J hk;rw [e,mo,L];dsimp only;rw [acA ⟨s,s⟩,SeqAt.eqv_refl _ I]
def Py.ne {k:Nat} {d:D} (h:Py k d) (J:k<=60) (I:fh d=none):pX d d=.ok (.bl false):=by
 unfold pX;rw [h.self J I];rfl
def C9 {i j:Nat} {B:FS} {a b:D} {r:acO} {U δ':Sd} (h:B ((U.set i (some a)).set j (some b))=.ok (.nx δ')):dm (.tup [i,j]) B (.tup [a,b]::r) U=dm (.tup [i,j]) B r δ':=by
 rw [zO,Ew,aF,Fv,h,aF,Ce]
def ov:D->D
 | .non=>.int 0
 | d=>d
def DR {d:D} (h:Vl 40 d):kj [d]=.ok (.tup [.int (kx d),ov d]):=by
 rw [zk,jU];cases d with
 | non=>exact aL (bV ((br (aJ (ai rfl rfl rfl))).trans (aD (bN (ac rfl (ac rfl rfl))))))
 | int i=>exact aL ((skip (aJ (ai rfl rfl rfl))).trans (aD (bN (ac (yn (aq (ac rfl rfl) (kind (d:=.int i) (h.mono (by decide)))) (Iv _ (wd _))) (ac rfl rfl)))))
 | str z=>exact aL ((skip (aJ (ai rfl rfl rfl))).trans (aD (bN (ac (yn (aq (ac rfl rfl) (kind (d:=.str z) (h.mono (by decide)))) (Iv _ (wd _))) (ac rfl rfl)))))
 | _=>exact h.elim
def Ok.keyN {k:K4} (h:Ok k):keyN (cS [ar k])=some k:=by
 have e:cS [ar k]=.ok (.tup [.tup [.int (T30.kx (cI k)),ov (cI k)],.int k.2.2.2]):=by
  rw [zg,jT];exact aL (aD (bN (ac (aq (ac (ai rfl rfl (u0 k)) rfl) (DR h.v)) (ac (ai rfl rfl (u1 k)) rfl))))
 rw [e];have I:=h.v;cases q:cI k with
 | non=>exact acF some (j7 h q).symm
 | int i=>exact acF some (l8 h q).symm
 | str z=>exact acF some (me h q).symm
 | _=>rw [q] at I;exact I.elim
def KY:∀ {l:List K4},(∀ k∈l,Ok k)->iK L2.keyN cS (l.map ar)=some l
 | [],_=>rfl
 | k::r,h=>by
  have I:=h k (by simp);rw [lE,iK,I.e,KY fun x J=>h x (iN _ J)];dsimp only;rw [acA I.keyN]
def Us {n m p:Nat} (I:0 < m) (Y:n<=8*m):p*n/m<=(p+1)*n/m/\(p+1)*n/m<=p*n/m+8/\(4*m<=n->p*n/m+4<=(p+1)*n/m):=by
 have e:(p+1)*n=p*n+n:=Nat.succ_mul p n;rw [e];have J:(p*n+8*m)/m=p*n/m+8:=abg _ _ I;have L:(p*n+4*m)/m=p*n/m+4:=abg _ _ I;refine ⟨ZL (by lia),?_,fun h=>?_⟩
 .rw [<- J];exact ZL (by lia)
 .rw [<- L];exact ZL (by lia)
def K6 {β:Type} (f:β->D) (w:D) {xs:List β} {m:Nat} (hl:xs.length<=1000) (hm:0 < m) (hm9:m < 100) (h8:xs.length<=8*m):∀ (k p:Nat) (I:List (List β)) (o4 o5 o6:Option D),p+k=m->I.length=p->I.flatten=xs.take (p*xs.length/m)->(∀ r∈I,r.length<=8/\(4*m<=xs.length->4<=r.length)) ->
  ∃ (J:List (List β)) (L o5' Y:Option D),dm (.one 4) cB ((aco p k).map fun (j:Nat)=>D.int (j:Int)) [some w,some (.lst (xs.map f)),some (.int (m:Int)),some (.lst (I.map fun r=>D.tup [w,.tup (r.map f)])),o4,o5,o6]=.ok (.nx [some w,some (.lst (xs.map f)),some (.int (m:Int)),some (.lst (J.map fun r=>D.tup [w,.tup (r.map f)])),L,o5',Y]) /\
   J.length=m/\J.flatten=xs/\∀ r∈J,r.length<=8/\(4*m<=xs.length->4<=r.length)
 | 0,p,I,o4,o5,o6,hk,hr,hf,hb=>by
  obtain rfl:p=m:=by lia
  refine ⟨I,o4,o5,o6,rfl,hr,?_,hb⟩;rw [hf,Nat.mul_div_cancel_left _ hm,aaX]
 | k+1,p,I,o4,o5,o6,hk,hr,hf,hb=>by
  obtain ⟨c1,c2,c3⟩:=Us (p:=p) hm h8;have cm:(p+1)*xs.length/m<=xs.length:=by
   have:(p+1)*xs.length<=m*xs.length:=abu _ (by lia)
   exact Nat.div_le_of_le_mul this
  have el:(xs.map f).length=xs.length:=eQ _;have t:=xq (w:=w) (zs:=I.map fun r=>D.tup [w,.tup (r.map f)]) (m:=(m:Int)) (p:=(p:Int)) (o5:=o5) (o6:=o6) (Ev (xs.map f)) (by lia) (by rw [eQ];lia) (by lia);have e1:((p:Int)*((xs.map f).length:Int)/(m:Int))=((p*xs.length/m:Nat):Int):=by rw [el,Int.natCast_ediv,Int.natCast_mul]
  have e2:(((p:Int)+1)*((xs.map f).length:Int)/(m:Int))=(((p+1)*xs.length/m:Nat):Int):=by rw [el,Int.natCast_ediv,Int.natCast_mul];rfl
  rw [e1,e2] at t;have ec:lu (xs.map f) (some ((p*xs.length/m:Nat):Int)) (some (((p+1)*xs.length/m:Nat):Int))=(((xs.drop (p*xs.length/m)).take ((p+1)*xs.length/m - p*xs.length/m))).map f:=by
   rw [tT (Int.natCast_nonneg _) (Int.ofNat_le.mpr c1) (by rw [el];exact Int.ofNat_le.mpr cm),WH,WH,aaO,aaP]
  rw [ec] at t;have ea:(I.map fun r=>D.tup [w,.tup (r.map f)])++[.tup [w,.tup (((xs.drop (p*xs.length/m)).take ((p+1)*xs.length/m - p*xs.length/m)).map f)]]=(I++[(xs.drop (p*xs.length/m)).take ((p+1)*xs.length/m - p*xs.length/m)]).map fun r=>D.tup [w,.tup (r.map f)]:=by
   rw [Wy];rfl
  rw [ea] at t;have hln:((xs.drop (p*xs.length/m)).take ((p+1)*xs.length/m - p*xs.length/m)).length=(p+1)*xs.length/m - p*xs.length/m:=by
   rw [WA,WI];lia
  obtain ⟨J,L,o5',Y,g1,g2,g3,g4⟩:=K6 f w hl hm hm9 h8 k (p+1) (I++[(xs.drop (p*xs.length/m)).take ((p+1)*xs.length/m - p*xs.length/m)]) (some (.int (p:Int))) (some (.int ((p*xs.length/m:Nat):Int))) (some (.int (((p+1)*xs.length/m:Nat):Int))) (by lia) (by rw [Do,hr];rfl) (by
   rw [XB,hf,List.flatten_singleton]
   have:(p+1)*xs.length/m=p*xs.length/m+((p+1)*xs.length/m - p*xs.length/m):=by lia
   rw [show xs.take ((p+1)*xs.length/m)=xs.take (p*xs.length/m+((p+1)*xs.length/m - p*xs.length/m)) by rw [<- this],List.take_add]) (fun r hr'=>by
    rcases MK.mp hr' with z|z
    .exact hb r z
    .rw [Ws.mp z,hln];exact ⟨by lia,fun q=>by have:=c3 q;lia⟩)
  refine ⟨J,L,o5',Y,?_,g2,g3,g4⟩;rw [aaV,lE];have t':cB (Zm [some w,some (.lst (xs.map f)),some (.int (m:Int)),some (.lst (I.map fun r=>D.tup [w,.tup (r.map f)])),o4,o5,o6] 4 (some (.int (p:Int))))=_:=t;rw [dr t'];exact g1
def wT {L:Type} (f:L->D) (w:D) {xs:List L} (h0:1<=xs.length) (h1:xs.length<=700):∃ I:List (List L),bv [w,.lst (xs.map f)]=.ok (.lst (I.map fun r=>D.tup [w,.tup (r.map f)]))/\I.flatten=xs/\I.length=(xs.length+7)/8/\∀ r∈I,r.length<=8/\(9<=xs.length->4<=r.length):=by
 rw [pH,gI];have el:(xs.map f).length=xs.length:=eQ _;have hq:(((xs.map f).length:Int)+8 - 1)/8=(((xs.length+7)/8:Nat):Int):=by rw [el];lia
 have hm:aw cG (aw pP (aw bw (ao cy (ae (ah 1) ap)) (vC lR)) cQ) (vC lR) [some w,some (.lst (xs.map f)),none,none,none,none,none]=.ok (.int (((xs.length+7)/8:Nat):Int)) :=
  (cb (pC (bP (bS rfl uc) rfl) rfl) rfl (by decide)).trans (by rw [hq])
 obtain ⟨I,o4,o5,o6,g1,g2,g3,Y⟩:=K6 f w (xs:=xs) (m:=(xs.length+7)/8) (by lia) (by lia) (by lia) (by lia) ((xs.length+7)/8) 0 [] none none none (by lia) rfl (by simp) (fun r J=>by cases J);refine ⟨I,aL ((av (aI hm)).trans ((av (dj (cf rfl))).trans ((av (gE (δ':=[some w,some (.lst (xs.map f)),some (.int (((xs.length+7)/8:Nat):Int)),some (.lst (I.map fun r=>D.tup [w,.tup (r.map f)])),o4,o5,o6]) (pD (n:=(xs.length+7)/8) rfl (by lia)) ?_)).trans (aD rfl)))),g3,g2,fun r J=>⟨(Y r J).1,fun h9=>(Y r J).2 (by lia)⟩⟩;rw [Gr,List.range_eq_range'];exact g1
structure Lev (h:Nat) (ks:List K4) (qs:List (List K4×D)):Prop where
 f:(qs.map BY).flatten=ks
 a:1<=qs.length
 b:qs.length<=100
 o:qs.length=1->∀ q∈qs,Nd h (rt h) q
 n:2<=qs.length->∀ q∈qs,Nd h 4 q
def Hq {ks:List K4} {a:D}:∀ (n h:Nat) (qs:List (List K4×D)),qs.length<=n->Lev h ks qs->∃ h' q,bI rQ rB (n+1) [some a,some (.lst (qs.map X8))]=.ok (.nx [some a,some (.lst [q.2])])/\Nd h' (rt h') q/\q.1=ks
 | 0,h,qs,hn,L=>absurd L.a (by lia)
 | n+1,h,qs,hn,L=>by
  have hq:rQ [some a,some (.lst (qs.map X8))]=.ok (decide ((1:Int) < (qs.length:Int))):=aJ (ai (bS rfl (m6 _ _)) rfl uX);by_cases h1:qs.length=1
  .obtain ⟨q,rfl⟩:=XS.mp h1;rw [acC (by simp)] at hq;exact ⟨h,q,sZ hq,L.o h1 q (by simp),by simpa using L.f⟩
  .have h2:2<=qs.length:=by have:=L.a;lia
   rw [acD (by lia)] at hq;have hN:=L.n h2;have hp:=kZ (qs:=qs) (fun q hq=>⟨⟨h,(hN q hq).tr (.inr (by decide))⟩,(hN q hq).pos (by decide)⟩) L.b;obtain ⟨I,e,r1,r2,r3⟩:=wT bi (.str "branch") (xs:=qs) (by lia) (by have:=L.b;lia);have ed:(I.map fun r=>D.tup [.str "branch",.tup (r.map bi)])=(I.map nz).map X8:=by rw [WL];rfl
   rw [ed] at e;have Y:∀ r∈I,∀ q∈r,Nd h 4 q:=fun r hr q J=>hN q (by rw [<- r1];exact Xo.mpr ⟨r,hr,J⟩);have L':Lev (h+1) ks (I.map nz):=by
    refine ⟨by rw [IM,r1];exact L.f,by rw [eQ];lia,by rw [eQ];have:=L.b;lia,fun o q J=>?_,fun o q J=>?_⟩
    .obtain ⟨r,hr,rfl⟩:=P2.mp J;rw [eQ] at o;obtain ⟨r0,rfl⟩:=XS.mp o;obtain rfl:=Ws.mp hr
     have:r.length=qs.length:=by rw [<- r1];simp
     exact ⟨r,by show 2<=r.length;lia,(r3 r (by simp)).1,Y r (by simp),rfl⟩
    .obtain ⟨r,hr,rfl⟩:=P2.mp J;rw [eQ] at o;exact ⟨r,(r3 r hr).2 (by lia),(r3 r hr).1,Y r hr,rfl⟩
   obtain ⟨h',q,g1,g2,g3⟩:=Hq (a:=a) n (h+1) (I.map nz) (by rw [eQ];lia) L';exact ⟨h',q,(nK hq (aI (aq (ac rfl (ac (aq (ac rfl rfl) hp) rfl)) e))).trans g1,g2,g3⟩
def BA {h:Nat} {ks:List K4} {qs:List (List K4×D)} (L:Lev h ks qs):∃ h' d,lj [.lst (qs.map X8)]=.ok d/\Nd h' (rt h') (ks,d):=by
 rw [yN,nG];obtain ⟨h',q,e,n,f⟩:=Hq (a:=.lst (qs.map X8)) 999 h qs (by have:=L.b;lia) L;exact ⟨h',q.2,aL ((av (aI rfl)).trans ((av e).trans (aD (ai rfl rfl tY)))),by rw [<- f];exact n⟩
def xU {xs:acO} {x:D}:atI (xs++[x]) (-1)=some x:=by
 have e:Jy (xs++[x]).length (-1)=some xs.length:=by
  unfold Jy;rw [acB (by decide),Do,Yp,acA (by lia)];congr 1;lia
 unfold atI;rw [e];show (xs++[x])[xs.length]?=some x;simp
def P6 {a k:K4} (h:¬ ca k a) (hn:a≠k):ca a k:=by
 rcases TS.to4.tri a k with z|z|z
 .exact z
 .exact absurd z hn
 .exact absurd z h
def Az {a:D}:∀ (rest acc:List K4) (o:Option D),(∀ x∈acc,∀ y∈rest,¬ ca y x)->rest.Pairwise (fun x y=>¬ ca y x)->acc.Pairwise ca->(∀ k∈acc,Ok k)->(∀ k∈rest,Ok k)->acc.length+rest.length<=900 ->
  ∃ (I:List K4) (o':Option D),dm (.one 2) nB (rest.map ar) [some a,some (.lst (acc.map ar)),o]=.ok (.nx [some a,some (.lst (I.map ar)),o'])/\I.Pairwise ca/\(∀ k,k∈I ↔ k∈acc\/k∈rest)/\I.length<=acc.length+rest.length
 | [],acc,o,_,_,hp,_,_,_=>⟨acc,o,rfl,hp,fun k=>by simp,by simp⟩
 | k::rest,acc,o,hs,hr,hp,oa,orr,hl=>by
  have ok:=orr k (by simp);rw [RW] at hl;have hr':=Ys.mp hr;have L:bR (aw eI (ah 1) (eR ap)) [some a,some (.lst (acc.map ar)),some (ar k)]=.ok (decide (acc=[])):=aJ (ai rfl (cf rfl) (eq_nil oa));have more:(∀ x∈acc,ca x k)->wu (bR (aw eI (ah 1) (eR ap))) (bR (aw pX (aw bT (ah 1) (JF vS cQ)) (ah 2))) [some a,some (.lst (acc.map ar)),some (ar k)]=.ok true ->
    ∃ (I:List K4) (o':Option D),dm (.one 2) nB ((k::rest).map ar) [some a,some (.lst (acc.map ar)),o]=.ok (.nx [some a,some (.lst (I.map ar)),o'])/\I.Pairwise ca/\(∀ x,x∈I ↔ x∈acc\/x∈k::rest)/\I.length<=acc.length+(k::rest).length:=fun hlt hq=>by
   obtain ⟨I,o',e,p1,p2,p3⟩:=Az (a:=a) rest (acc++[k]) (some (ar k)) (fun x J y hy=>by
    rcases MK.mp J with z|z
    .exact hs x z y (iN _ hy)
    .rw [Ws.mp z];exact hr'.1 y hy) hr'.2 (W1.mpr ⟨hp,aaM _ _,fun x J y hy=>by rw [Ws.mp hy];exact hlt x J⟩) (fun x J=>by
    rcases MK.mp J with z|z
    .exact oa x z
    .rw [Ws.mp z];exact ok) (fun x J=>orr x (iN _ J)) (by rw [Do,Yp];lia)
   refine ⟨I,o',?_,p1,fun x=>?_,by rw [Do,Yp] at p3;rw [RW];lia⟩
   .have t:nB (Zm [some a,some (.lst (acc.map ar)),o] 2 (some (ar k)))=.ok (.nx [some a,some (.lst ((acc++[k]).map ar)),some (ar k)]):=by
     rw [Wy];exact (br hq).trans (kM rfl rfl (by rw [eQ];lia))
    rw [lE,dr t];exact e
   .rw [p2,MK,Ws,rW,or_assoc]
  cases hacc:acc.reverse with
  | nil =>
   have:acc=[]:=List.reverse_eq_nil_iff.mp hacc
   subst this;exact more (fun x J=>by cases J) (Mp L)
  | cons l r =>
   have ea:acc=r.reverse++[l]:=by rw [<- ZK acc,hacc,ab3]
   have hne:¬ acc=[]:=fun z=>by rw [z] at hacc;cases hacc
   rw [acC hne] at L;have hlm:l∈acc:=by rw [ea];simp
   have hix:bT (.lst (acc.map ar)) (.int (-1))=.ok (ar l):=rg (by rw [ea,Wy];exact xU);have Y:bR (aw pX (aw bT (ah 1) (JF vS cQ)) (ah 2)) [some a,some (.lst (acc.map ar)),some (ar k)]=.ok (!decide (l=k)):=aJ (ai (ai rfl rfl hix) rfl ((oa l hlm).ne ok));by_cases hlk:l=k
   .rw [acD hlk] at Y;obtain ⟨I,o',e,p1,p2,p3⟩:=Az (a:=a) rest acc (some (ar k)) (fun x J y hy=>hs x J y (iN _ hy)) hr'.2 hp oa (fun x J=>orr x (iN _ J)) (by lia);refine ⟨I,o',?_,p1,fun x=>?_,by rw [RW];lia⟩
    .have t:nB (Zm [some a,some (.lst (acc.map ar)),o] 2 (some (ar k)))=.ok (.nx [some a,some (.lst (acc.map ar)),some (ar k)]):=(jW (mP L Y)).trans rfl;rw [lE,dr t];exact e
    .rw [p2,rW];constructor
     .rintro (z|z)
      .exact .inl z
      .exact .inr (.inr z)
     .rintro (z|z|z)
      .exact .inl z
      .exact .inl (by rw [z,<- hlk];exact hlm)
      .exact .inr z
   .rw [acC hlk] at Y;refine more (fun x J=>?_) (mP L Y);have hkx:=hs x J k (by simp);refine P6 hkx fun z=>?_;subst z;rw [ea] at hp J;rcases MK.mp J with q|q
    .exact hs l hlm x (by simp) ((W1.mp hp).2.2 x q l (by simp))
    .exact hlk (Ws.mp q).symm
def Bg {xs:List K4} (ho:∀ k∈xs,Ok k) (hl:xs.length<=600):∃ h ks d,iQ [.lst (xs.map ar)]=.ok d/\Nd h (rt h) (ks,d)/\Rows ks/\ks.length<=xs.length/\∀ k,k∈ks ↔ k∈xs:=by
 have e1:tf L2.keyN cS [.lst (xs.map ar)]=.ok (.lst ((xs.mergeSort vq).map ar)):=by
  unfold tf;dsimp only;rw [acA (by rw [eQ];lia),KY ho]
 have hp:=YF xs vq;have hs:(xs.mergeSort vq).Pairwise fun x y=>¬ ca y x:=uz xs;have ho':∀ k∈xs.mergeSort vq,Ok k:=fun k Y=>ho k (hp.mem_iff.mp Y);have hln:(xs.mergeSort vq).length=xs.length:=hp.length_eq;have hmem:∀ k,k∈xs.mergeSort vq ↔ k∈xs:=fun k=>hp.mem_iff;generalize xs.mergeSort vq=ss at *;obtain ⟨ks,o,e,p1,p2,p3⟩:=Az (a:=.lst (xs.map ar)) ss [] none (fun x hx=>by cases hx) hs YX (fun x hx=>by cases hx) ho' (by simp;lia);have Y:∀ k,k∈ks ↔ k∈xs:=fun k=>by rw [p2,hmem];simp
 have hR:Rows ks:=⟨p1,fun k hk'=>ho k ((Y k).mp hk')⟩;have hkl:ks.length<=xs.length:=by simpa [hln] using p3
 rw [yp,i6];have start:∀ T:FS,(aB (jH 1 (eR ap)) (aB (nR (rJ (ao (tf L2.keyN cS) (ae (ah 0) ap))) (.one 2) nB) T)) [some (.lst (xs.map ar)),none,none]=T [some (.lst (xs.map ar)),some (.lst (ks.map ar)),o]:=fun T =>
  (av (dj (cf rfl))).trans (av (gE (m5 (aq (ac rfl rfl) e1) rfl) e))
 have hq:bR (aw eI (ah 1) (eR ap)) [some (.lst (xs.map ar)),some (.lst (ks.map ar)),o]=.ok (decide (ks=[])):=aJ (ai rfl (cf rfl) (eq_nil hR.o));by_cases h0:ks=[]
 .rw [acD h0] at hq;have ee:gO []=.ok (.tup [.str "leaf",.tup []]):=by
   rw [vK,gP];exact aL (aD (bN (ac rfl (ac (bN rfl) rfl))))
  refine ⟨0,ks,_,aL ((start _).trans (bV ((br hq).trans (aD (aq rfl ee))))),?_,hR,hkl,Y⟩;subst h0;exact ⟨WB _,WB _,rfl⟩
 .rw [acC h0] at hq;have hk1:1<=ks.length:=ZW.mpr h0;obtain ⟨I,ec,r1,r2,r3⟩:=wT ar (.str "leaf") (xs:=ks) hk1 (by lia);have ed:(I.map fun r=>D.tup [.str "leaf",.tup (r.map ar)])=(I.map wo).map X8:=by rw [WL];rfl
  rw [ed] at ec;have ef:((I.map wo).map BY).flatten=ks:=by rw [WL,<- r1];congr 1;exact List.map_id' I
  have L:Lev 0 ks (I.map wo):=by
   refine ⟨ef,by rw [eQ];lia,by rw [eQ];lia,fun _ q J=>?_,fun o2 q J=>?_⟩
   .obtain ⟨r,hr,rfl⟩:=P2.mp J;exact ⟨WB _,(r3 r hr).1,rfl⟩
   .obtain ⟨r,hr,rfl⟩:=P2.mp J;rw [eQ] at o2;exact ⟨(r3 r hr).2 (by lia),(r3 r hr).1,rfl⟩
  obtain ⟨h,d,er,nr⟩:=BA L;exact ⟨h,ks,d,aL ((start _).trans ((skip hq).trans (aD (aq (ac (aq (ac rfl (ac rfl rfl)) ec) rfl) er)))),nr,hR,hkl,Y⟩
def key (d:D) (n:Int) (hd:Vl 40 d):ci [.tup [d,.int n]]=.ok (.tup (Q7 d n)):=by
 rw [vQ,gQ];refine aL ((av (aI (ai rfl rfl bb))).trans ?_);cases d with
 | non=>exact bV ((br (aJ (ai rfl rfl rfl))).trans (aD (bN (ds:=[.int 0,.int 0,.str "",.int n]) (ac rfl (ac rfl (ac rfl (ac (ai rfl rfl bj) rfl)))))))
 | int i=>exact (skip (aJ (ai rfl rfl rfl))).trans ((skip (gC (nV rfl (GD.trans (vk (by trivial)))) rfl)).trans (aD (bN (ds:=[.int 1,.int i,.str "",.int n]) (ac rfl (ac rfl (ac rfl (ac (ai rfl rfl bj) rfl)))))))
 | str z=>exact (skip (aJ (ai rfl rfl rfl))).trans (bV ((br (gC (nV rfl (Fr.trans (vk (by trivial)))) rfl)).trans (aD (bN (ds:=[.int 2,.int 0,.str z,.int n]) (ac rfl (ac rfl (ac rfl (ac (ai rfl rfl bj) rfl))))))))
 | _=>exact hd.elim
def Ok.key {k:K4} (h:Ok k):Du (ci [ar k])=some k:=by
 have e:=h.e;rw [un] at e ⊢;rw [T30.key _ _ h.v];rw [<- e];have I:=h.v;cases q:cI k with
 | non=>rfl
 | int i=>rfl
 | str z=>rfl
 | _=>rw [q] at I;exact I.elim
def E4:∀ {l:List K4},(∀ k∈l,Ok k)->iK Du ci (l.map ar)=some l
 | [],_=>rfl
 | k::r,h=>by
  have I:=h k (by simp);rw [lE,iK,I.e,E4 fun x J=>h x (iN _ J)];dsimp only;rw [acA I.key]
def Il (d:D) (hd:Vl 40 d):fQ [d]=.ok (.int (kx d)):=by
 rw [FH,qE];cases d with
 | non=>exact aL (bV ((br (aJ (ai rfl rfl rfl))).trans (aD rfl)))
 | int i=>exact aL ((skip (aJ (ai rfl rfl rfl))).trans ((skip (gC (nV rfl (GD.trans (vk (by trivial)))) rfl)).trans (aD rfl)))
 | str z=>exact aL ((skip (aJ (ai rfl rfl rfl))).trans (bV ((br (gC (nV rfl (Fr.trans (vk (by trivial)))) rfl)).trans (aD rfl))))
 | _=>exact hd.elim
def Kj {k l:K4} (h:Ok k) (g:Ok l):oE [ar k,ar l]=.ok (.bl (decide (ca k l))):=by
 have hv:=h.v;have gv:=g.v;have hx:=h.kx;have gx:=g.kx;rw [un,un,DW,om];have r1:aw pX (ao fQ (ae (uI 0 0) ap)) (ao fQ (ae (uI 1 0) ap)) [some (.tup [cI k,.int k.2.2.2]),some (.tup [cI l,.int l.2.2.2])]=.ok (.bl (!decide (k.1=l.1))):=by
  rw [<- hx,<- gx];exact ai (aq (ac (ai rfl rfl bb) rfl) (Il _ hv)) (aq (ac (ai rfl rfl bb) rfl) (Il _ gv)) B7
 refine aL ?_;by_cases e:k.1=l.1
 .refine (skip (aJ (by rw [r1,acD e];rfl))).trans ?_;cases q:cI k with
  | non =>
   have L:=j7 h q;rw [L] at e;have J:cI l=.non:=by unfold cI;rw [<- e];rfl
   have I:=j7 g J;rw [J];refine bV ((br (Mp (aJ (ai (ai rfl rfl bb) rfl rfl)))).trans (aD (ai (ai rfl rfl bj) (ai rfl rfl bj) (mz.trans ?_))))
   have:ca k l ↔ k.2.2.2 < l.2.2.2:=by rw [L,I];simp [ca]
   rw [decide_eq_decide.mpr this]
  | int i =>
   have L:=l8 h q;rw [L] at e;have e:1=l.1:=e;cases J:cI l with
   | int j =>
    have I:=l8 g J;by_cases Y:i=j
    .refine bV ((br (mP (aJ (ai (ai rfl rfl bb) rfl rfl)) (aJ (ai (ai rfl rfl bb) (ai rfl rfl bb) (sS.trans (by rw [acD Y])))))).trans (aD (ai (ai rfl rfl bj) (ai rfl rfl bj) (mz.trans ?_))))
     have:ca k l ↔ k.2.2.2 < l.2.2.2:=by rw [L,I,Y];simp [ca]
     rw [decide_eq_decide.mpr this]
    .refine (skip (mP (aJ (ai (ai rfl rfl bb) rfl rfl)) (aJ (ai (ai rfl rfl bb) (ai rfl rfl bb) (sS.trans (by rw [acC Y])))))).trans (aD (ai (ai rfl rfl bb) (ai rfl rfl bb) (mz.trans ?_)))
     have:ca k l ↔ i < j:=by rw [L,I];simp [ca,Y]
     rw [decide_eq_decide.mpr this]
   | non=>have I:=j7 g J;rw [I] at e;exact absurd e (by simp)
   | str z=>have I:=me g J;rw [I] at e;exact absurd e (by simp)
   | _=>rw [J] at gv;exact gv.elim
  | str x =>
   have L:=me h q;rw [L] at e;have e:2=l.1:=e;cases J:cI l with
   | str y =>
    have I:=me g J;by_cases Y:x=y
    .refine bV ((br (mP (aJ (ai (ai rfl rfl bb) rfl rfl)) (aJ (ai (ai rfl rfl bb) (ai rfl rfl bb) (fz.trans (by rw [acD Y])))))).trans (aD (ai (ai rfl rfl bj) (ai rfl rfl bj) (mz.trans ?_))))
     have:ca k l ↔ k.2.2.2 < l.2.2.2:=by rw [L,I,Y];simp [ca,aah]
     rw [decide_eq_decide.mpr this]
    .refine (skip (mP (aJ (ai (ai rfl rfl bb) rfl rfl)) (aJ (ai (ai rfl rfl bb) (ai rfl rfl bb) (fz.trans (by rw [acC Y])))))).trans (aD (ai (ai rfl rfl bb) (ai rfl rfl bb) (M4.trans ?_)));have nn:x.cps.toList≠y.cps.toList:=fun z=>Y (B5 z)
     have:ca k l ↔ x.cps.toList < y.cps.toList:=by rw [L,I];simp [ca,nn]
     rw [decide_eq_decide.mpr this]
   | non=>have I:=j7 g J;rw [I] at e;exact absurd e (by simp)
   | int z=>have I:=l8 g J;rw [I] at e;exact absurd e (by simp)
   | _=>rw [J] at gv;exact gv.elim
  | _=>rw [q] at hv;exact hv.elim
 .refine bV ((br (aJ (by rw [r1,acC e];rfl))).trans (aD (ai (aq (ac (ai rfl rfl bb) rfl) (Il _ hv)) (aq (ac (ai rfl rfl bb) rfl) (Il _ gv)) (mz.trans ?_))));rw [hx,gx]
  have:ca k l ↔ k.1 < l.1:=by
   constructor
   .rintro (z|⟨z,_⟩)
    .exact z
    .exact absurd z e
   .exact .inl
  rw [decide_eq_decide.mpr this]
def JP {h:Nat} {q:List K4×D} (I:Tr h q.1 q.2) (hn:q.1≠[]):oe [q.2]=.ok (ar (hd q.1)):=by
 rw [Dx,oq];cases h with
 | zero =>
  have e:q.2=_:=I;rw [e];cases eq:q.1 with
  | nil=>exact absurd eq hn
  | cons k r=>exact aL (bV ((br (aJ (b:=true) (ai (ai rfl rfl bb) rfl (fz.trans (by rw [acD rfl]))))).trans (aD (ai (ai rfl rfl bj) rfl bb))))
 | succ h =>
  obtain ⟨ps,h1,h2,L,J⟩:=I;rw [J,L];cases ps with
  | nil=>exact absurd rfl h1
  | cons p r =>
   have:=Cs (r:=r) (h2 p (by simp)).1
   rw [show ((p::r).map BY).flatten=(nz (p::r)).1 from rfl,this];exact aL ((skip (aJ (b:=false) (ai (ai rfl rfl bb) rfl (fz.trans (by rw [Qd]))))).trans (aD (ai (ai (ai rfl rfl bj) rfl bb) rfl bb)))
def Bz (dep:Int) (q:List K4×D):D:=.tup [q.2,.int dep]
def Gb {i:Nat} {f:FG} {U δ':Sd} {S:acO} {x:D} (h:U[i]?=some (some (.lst (S++[x])))) (hf:f x (U.set i (some (.lst S)))=.ok δ'):qU i f U=.ok (.nx δ'):=by
 have h1:(S++[x])[(S++[x]).length - 1]?=some x:=by simp
 have h2:(S++[x]).dropLast=S:=by simp
 unfold qU;rw [h];dsimp only;rw [h1];dsimp only;rw [h2,hf]
def E7 {a f de c:D} {dep:Int} {o7:Option D}:∀ (ps:List (List K4×D)) (S:acO) (o6:Option D),(∀ p∈ps,(∃ h,Tr h p.1 p.2)/\p.1≠[]/\Ok (hd p.1))->S.length+ps.length < 1000 ->
  ∃ I,dm (.one 6) pB (ps.map bi) [some a,some f,some de,some (.lst S),some c,some (.int dep),o6,o7]=.ok (.nx [some a,some f,some de,some (.lst (S++ps.map (Bz (dep+1)))),some c,some (.int dep),I,o7])
 | [],S,o6,_,_=>⟨o6,by rw [aa7,aa7,Xn];rfl⟩
 | p::r,S,o6,hp,hl=>by
  obtain ⟨⟨h,Y⟩,hn,J⟩:=hp p (by simp);obtain ⟨I,e⟩:=E7 (a:=a) (f:=f) (de:=de) (c:=c) (dep:=dep) (o7:=o7) r (S++[Bz (dep+1) p]) (some (bi p)) (fun x L=>hp x (iN _ L)) (by simp at hl ⊢;omega);refine ⟨I,?_⟩;have t:pB (Zm [some a,some f,some de,some (.lst S),some c,some (.int dep),o6,o7] 6 (some (bi p)))=.ok (.nx [some a,some f,some de,some (.lst (S++[Bz (dep+1) p])),some c,some (.int dep),some (bi p),o7]) :=
   (skip (mP (aJ (ai (bS rfl wr) rfl (B7.trans rfl))) (aJ (ai (ai rfl rfl bb) (aq (ac (ai rfl rfl bj) rfl) (JP Y hn)) ((J.ne J).trans (by rw [acD rfl];rfl)))))).trans (kM rfl (bN (ac (ai rfl rfl bj) (ac (bP rfl rfl) rfl))) (by simp at hl;omega))
  rw [lE,dr t,e,WC];rfl
def Hn {a f de t dep:D} {w:D} {xs:acO} {o6 o7:Option D} (I:xs.length<=8):wK [some a,some f,some de,some t,some (.tup [w,.tup xs]),some dep,o6,o7]=.ok false :=
 mP (uN (b:=true) (nV rfl (KW.trans (vk (by trivial))))) (mP (aJ (ai (bS rfl wr) rfl (B7.trans rfl))) (mP (uN (b:=true) (nV (ai rfl rfl bj) (KW.trans (vk (by trivial))))) (aJ (ai (bS (ai rfl rfl bj) wr) rfl (uX.trans (by rw [acC (by omega)]))))))
def El (H:Int) (de:D):Prop:=de=.non\/de=.int H
def Nh {a f de t:D} {dep:Int} {ks:List K4} {o6 o7:Option D} (hd:El dep de) (I:dep<=0\/4<=ks.length):wL [some a,some f,some de,some t,some (.tup [.str "leaf",.tup (ks.map ar)]),some (.int dep),o6,o7]=.ok false:=by
 refine mP ?_ ?_
 .by_cases h:0 < dep
  .exact mF (aJ (ai rfl rfl (uX.trans (by rw [acD h])))) (aJ (ai (bS (ai rfl rfl bj) (rN _ _)) rfl (mz.trans (by rw [acC (by omega)]))))
  .exact sL (aJ (ai rfl rfl (uX.trans (by rw [acC h]))))
 .rcases hd with rfl|rfl
  .exact sL (aJ (ai rfl rfl rfl))
  .exact mF (aJ (ai rfl rfl rfl)) (aJ (ai rfl rfl (B7.trans (by rw [acD rfl];rfl))))
def Mb {a f de t:D} {dep:Int} {ps:List (List K4×D)} {o6 o7:Option D} (h2:2<=ps.length) (I:dep<=0\/4<=ps.length):wM [some a,some f,some de,some t,some (.tup [.str "branch",.tup (ps.map bi)]),some (.int dep),o6,o7]=.ok false:=by
 refine mP (aJ (ai (ai rfl rfl bb) rfl (Dc.trans (by rw [acD rfl];rfl)))) ?_;by_cases h:0 < dep
 .exact aJ (ai (bS (ai rfl rfl bj) (rN _ _)) (bP (i:=2) (j:=2*1) rfl (kH (i:=2) (j:=1) rfl (aq (ac (ai (c:=.bl true) rfl rfl (uX.trans (by rw [acD h]))) rfl) rfl))) (mz.trans (by rw [acC (by omega)])))
 .exact aJ (ai (bS (ai rfl rfl bj) (rN _ _)) (bP (i:=2) (j:=2*0) rfl (kH (i:=2) (j:=0) rfl (aq (ac (ai (c:=.bl false) rfl rfl (uX.trans (by rw [acC h]))) rfl) rfl))) (mz.trans (by rw [acC (by omega)])))
def KP {a f de:D} {S:acO} {x:D} {o4 o5 o6 o7:Option D}:wQ [some a,some f,some de,some (.lst (S++[x])),o4,o5,o6,o7]=.ok true :=
 aJ (ai (bS rfl uc) rfl (uX.trans (by rw [acD (by simp)])))
def EB {a de:D} {S:acO} {I ks:List K4} {dep:Int} {n:Nat} {o4 o5 o6 o7:Option D} (hd:El dep de) (J:ks.length<=8) (L:dep<=0\/4<=ks.length) (Y:I.length+ks.length<=1000) :
  bI wQ wB (n+1) [some a,some (.lst (I.map ar)),some de,some (.lst (S++[Bz dep (wo ks)])),o4,o5,o6,o7]=bI wQ wB n [some a,some (.lst ((I++ks).map ar)),some (.int dep),some (.lst S),some (wo ks).2,some (.int dep),o6,o7]:=by
 refine nK KP ((av (Gb rfl rfl)).trans ((skip (Hn (by rw [eQ];exact J))).trans ((br (aJ (ai (ai rfl rfl bb) rfl (fz.trans (by rw [acD rfl]))))).trans ((skip (Nh hd L)).trans ((av (aI rfl)).trans ?_)))));rw [Wy];exact L3 rfl (ai rfl rfl bj) rfl (by rw [eQ,eQ];omega)
def sq {a de f:D} {S:acO} {ps:List (List K4×D)} {dep:Int} {n:Nat} {o4 o5 o6 o7:Option D} (Y:∀ p∈ps,(∃ h,Tr h p.1 p.2)/\p.1≠[]/\Ok (hd p.1)) (h2:2<=ps.length) (J:ps.length<=8) (L:dep<=0\/4<=ps.length) (hS:S.length<=900) :
  ∃ I,bI wQ wB (n+1) [some a,some f,some de,some (.lst (S++[Bz dep (nz ps)])),o4,o5,o6,o7]=bI wQ wB n [some a,some f,some de,some (.lst (S++ps.reverse.map (Bz (dep+1)))),some (nz ps).2,some (.int dep),I,o7]:=by
 obtain ⟨I,e⟩:=E7 (a:=a) (f:=f) (de:=de) (c:=(nz ps).2) (dep:=dep) (o7:=o7) ps.reverse S o6 (fun p h=>Y p (List.mem_reverse.mp h)) (by simp;omega);refine ⟨I,nK KP ((av (Gb rfl rfl)).trans ((skip (Hn (by rw [eQ];exact J))).trans ((jW (aJ (ai (ai rfl rfl bb) rfl (fz.trans (by rw [Qd]))))).trans ((jW (Mb h2 L)).trans (gE ?_ e)))))⟩;unfold FV;rw [ac (ai rfl rfl bj) rfl,aF];show R.ok (ps.map bi).reverse=_;rw [List.map_reverse]
def J7 (b:Nat) (H:Int) (a:D) (o7:Option D) (c:Nat) (ks:List K4) (J:acO):Prop :=
 ∀ (n:Nat) (S:acO) (I:List K4) (de:D) (o4 o5 o6:Option D),El H de->I.length+ks.length<=1000->S.length+8*b<=800 ->
  ∃ L o4' o5' Y,El H L/\bI wQ wB (n+c) [some a,some (.lst (I.map ar)),some de,some (.lst (S++J)),o4,o5,o6,o7]=bI wQ wB n [some a,some (.lst ((I++ks).map ar)),some L,some (.lst S),o4',o5',Y,o7]
def wg {H dep:Int} {a:D} {o7:Option D} {ks:List K4} (hd:dep=H) (L:ks.length<=8) (Y:dep<=0\/4<=ks.length):J7 0 H a o7 1 ks [Bz dep (wo ks)]:=by
 subst hd;intro n S I de o4 o5 o6 J hl hS;exact ⟨.int dep,_,_,_,.inr rfl,EB J L Y hl⟩
def pW {H:Int} {a:D} {o7:Option D} {dep:Int} {h:Nat} (hN:∀ p:List K4×D,Nd h 4 p->(∀ k∈p.1,Ok k)->∃ c,3*c+1<=p.1.length/\J7 h H a o7 c p.1 [Bz dep p]) :
  ∀ ps:List (List K4×D),(∀ p∈ps,Nd h 4 p/\∀ k∈p.1,Ok k)->8*h<=700->ps.length<=8->∃ c,3*c+ps.length<=((ps.map BY).flatten).length /\
   ∀ (n:Nat) (S:acO) (I:List K4) (de:D) (o4 o5 o6:Option D),El H de->I.length+((ps.map BY).flatten).length<=1000->S.length+ps.length+8*h<=800 ->
    ∃ L o4' o5' o6',El H L/\bI wQ wB (n+c) [some a,some (.lst (I.map ar)),some de,some (.lst (S++ps.reverse.map (Bz dep))),o4,o5,o6,o7]=bI wQ wB n [some a,some (.lst ((I++(ps.map BY).flatten).map ar)),some L,some (.lst S),o4',o5',o6',o7]
 | [],_,_,_=>⟨0,by simp,fun n S I de o4 o5 o6 J _ _=>⟨de,o4,o5,o6,J,by simp⟩⟩
 | p::r,hp,h7,h8=>by
  obtain ⟨h1,h2⟩:=hp p (by simp);obtain ⟨c1,hc1,g1⟩:=hN p h1 h2;obtain ⟨Y,hc2,g2⟩:=pW hN r (fun x hx=>hp x (iN _ hx)) h7 (by simp at h8;omega);refine ⟨c1+Y,?_,fun n S I de o4 o5 o6 J hl hS=>?_⟩
  .rw [lE,W6,Do,RW];omega
  .rw [lE,W6,Do] at hl;obtain ⟨de1,a1,a2,a3,d1,e1⟩:=g1 (n+Y) (S++r.reverse.map (Bz dep)) I de o4 o5 o6 J (by omega) (by simp at hS ⊢;omega);obtain ⟨de2,b1,b2,b3,d2,e2⟩:=g2 n S (I++p.1) de1 a1 a2 a3 d1 (by rw [Do];omega) (by simp at hS;omega);refine ⟨de2,b1,b2,b3,d2,?_⟩;have ef:I++((p::r).map BY).flatten=I++p.1++(r.map BY).flatten:=by rw [lE,W6,WC]
   have es:S++(p::r).reverse.map (Bz dep)=S++r.reverse.map (Bz dep)++[Bz dep p]:=by rw [ab3,Wy,<- WC];rfl
   rw [ef,es,<- e2,<- e1,abQ n Y c1,Nat.add_comm Y c1]
def C4 {h:Nat} {ps:List (List K4×D)} (J:∀ p∈ps,Nd h 4 p) (L:∀ k∈(nz ps).1,Ok k):∀ p∈ps,(∃ h,Tr h p.1 p.2)/\p.1≠[]/\Ok (hd p.1):=fun p I =>
 have hn:=(J p I).pos (by decide)
 ⟨⟨h,(J p I).tr (.inr (by decide))⟩,hn,L _ (Xo.mpr ⟨p.1,P2.mpr ⟨p,I,rfl⟩,nT hn⟩)⟩
def vX {H:Int} {a:D} {o7:Option D}:∀ (h:Nat) (dep:Int) (q:List K4×D),dep+h=H->0 < dep->Nd h 4 q->(∀ k∈q.1,Ok k)->8*h<=700->∃ c,3*c+1<=q.1.length/\J7 h H a o7 c q.1 [Bz dep q]
 | 0,dep,q,hH,hd,⟨h1,h2,h3⟩,ho,_=>by
  rw [h3];exact ⟨1,h1,wg (by omega) h2 (.inr h1)⟩
 | h+1,dep,q,hH,hd,⟨ps,h1,h2,h3,h4⟩,ho,h7=>by
  subst h4;have L:∀ p∈ps,Nd h 4 p/\∀ k∈p.1,Ok k:=fun p J=>⟨h3 p J,fun x hx=>ho x (Xo.mpr ⟨p.1,P2.mpr ⟨p,J,rfl⟩,hx⟩)⟩;obtain ⟨c,hc,g⟩:=pW (H:=H) (a:=a) (o7:=o7) (dep:=dep+1) (h:=h) (fun p J hk=>by
   obtain ⟨c,hc,g⟩:=vX (H:=H) (a:=a) (o7:=o7) h (dep+1) p (by omega) (by omega) J hk (by omega);exact ⟨c,hc,g⟩) ps L (by omega) h2
  refine ⟨c+1,?_,fun n S I de o4 o5 o6 Y hl hS=>?_⟩
  .show 3*(c+1)+1<=((ps.map BY).flatten).length;omega
  .obtain ⟨o6',e⟩:=sq (a:=a) (de:=de) (f:=.lst (I.map ar)) (S:=S) (ps:=ps) (dep:=dep) (n:=n+c) (o4:=o4) (o5:=o5) (o6:=o6) (o7:=o7) (C4 h3 ho) (by omega) h2 (.inr h1) (by omega);obtain ⟨de2,b1,b2,b3,d2,e2⟩:=g n S I de _ _ o6' Y hl (by omega);exact ⟨de2,b1,b2,b3,d2,by rw [<- abQ,e,e2];rfl⟩
def Dn {a:D} {o7:Option D} {h:Nat} {q:List K4×D} (hq:Nd h (rt h) q) (ho:∀ k∈q.1,Ok k) (h7:8*h<=700):∃ c,c<=q.1.length+1/\J7 h (h:Int) a o7 c q.1 [Bz 0 q]:=by
 cases h with
 | zero =>
  obtain ⟨h1,h2,J⟩:=hq;rw [J];exact ⟨1,by omega,wg rfl h2 (.inl (by omega))⟩
 | succ h =>
  obtain ⟨ps,h1,h2,J,h4⟩:=hq;subst h4;have h1:2<=ps.length:=h1;have Y:∀ p∈ps,Nd h 4 p/\∀ k∈p.1,Ok k:=fun p L=>⟨J p L,fun x hx=>ho x (Xo.mpr ⟨p.1,P2.mpr ⟨p,L,rfl⟩,hx⟩)⟩;obtain ⟨c,hc,g⟩:=pW (H:=((h+1:Nat):Int)) (a:=a) (o7:=o7) (dep:=0+1) (h:=h) (fun p L hk=>by
   obtain ⟨c,hc,g⟩:=vX (H:=((h+1:Nat):Int)) (a:=a) (o7:=o7) h (0+1) p (by omega) (by omega) L hk (by omega);exact ⟨c,hc,g⟩) ps Y (by omega) h2
  refine ⟨c+1,?_,fun n S I de o4 o5 o6 hde hl hS=>?_⟩
  .show c+1<=((ps.map BY).flatten).length+1;omega
  .obtain ⟨o6',e⟩:=sq (a:=a) (de:=de) (f:=.lst (I.map ar)) (S:=S) (ps:=ps) (dep:=0) (n:=n+c) (o4:=o4) (o5:=o5) (o6:=o6) (o7:=o7) (C4 J ho) h1 h2 (.inl (by omega)) (by omega);obtain ⟨de2,b1,b2,b3,d2,e2⟩:=g n S I de _ _ o6' hde hl (by omega);exact ⟨de2,b1,b2,b3,d2,by rw [<- abQ,e,e2];rfl⟩
def FL {ks:List K4} {a b c:Option D} {o4 o5 o6:Option D} (L:Rows ks):∀ (m j:Nat) (o7:Option D),1<=j->j+m=ks.length ->
  ∃ I,dm (.one 7) vB ((Yc m).map fun (i:Nat)=>D.int ((j+i:Nat):Int)) [a,some (.lst (ks.map ar)),b,c,o4,o5,o6,o7]=.ok (.nx [a,some (.lst (ks.map ar)),b,c,o4,o5,o6,I])
 | 0,j,o7,_,_=>⟨o7,rfl⟩
 | m+1,j,o7,h1,h2=>by
  obtain ⟨I,e⟩:=FL (ks:=ks) (a:=a) (b:=b) (c:=c) (o4:=o4) (o5:=o5) (o6:=o6) L m (j+1) (some (.int (j:Int))) (by omega) (by omega);refine ⟨I,?_⟩;have hj:j < ks.length:=by omega
  have J:j - 1 < ks.length:=by omega
  have g1:=oR hj;have Y:=oR J;have lt:ca ks[j - 1] ks[j]:=Xj.mp L.s (j - 1) j J hj (by omega);have ej:(j:Int) - 1=((j - 1:Nat):Int):=by omega
  have t:vB (Zm [a,some (.lst (ks.map ar)),b,c,o4,o5,o6,o7] 7 (some (.int (j:Int))))=.ok (.nx [a,some (.lst (ks.map ar)),b,c,o4,o5,o6,some (.int (j:Int))]) :=
   (jW (Ga (gC (aq (ac (ai rfl (pC rfl rfl) (by rw [ej];exact tG _ _ Y)) (ac (ai rfl rfl (tG _ _ g1)) rfl)) (Kj (L.o _ (WM J)) (L.o _ (WM hj)))) (by rw [acD lt];rfl)))).trans rfl
  have er:(Yc (m+1)).map (fun (i:Nat)=>D.int ((j+i:Nat):Int))=D.int (j:Int)::(Yc m).map fun (i:Nat)=>D.int ((j+1+i:Nat):Int):=by
   rw [aa4,lE,WL];congr 1;apply XA
   intro i _;show D.int ((j+(i+1):Nat):Int)=_;congr 2;omega
  rw [er,dr t,e]
def EA {h:Nat} {ks:List K4} {d:D} (L:Nd h (rt h) (ks,d)) (J:Rows ks) (hl:ks.length<=601):j5 [d]=.ok (.lst (ks.map ar)):=by
 have h5:=low L (by show ks.length<=700;omega);obtain ⟨c,Y,g⟩:=Dn (a:=d) (o7:=none) L J.o (by omega);have Y:c<=ks.length+1:=Y;obtain ⟨de,o4,o5,o6,_,e⟩:=g (1000 - c) [] [] .non none none none (.inl rfl) (by simpa using (by omega:ks.length<=1000)) (by simp;omega);rw [Nat.sub_add_cancel (by omega),Zl,Zl] at e;have e2:bI wQ wB (1000 - c) [some d,some (.lst (ks.map ar)),some de,some (.lst []),o4,o5,o6,none]=.ok (.nx [some d,some (.lst (ks.map ar)),some de,some (.lst []),o4,o5,o6,none]):=by
  obtain ⟨m,em⟩:∃ m,1000 - c=m+1:=⟨999 - c,by omega⟩;rw [em];exact sZ (aJ (ai (bS rfl uc) rfl (uX.trans rfl)))
 obtain ⟨o7,I⟩:∃ o7,dm (.one 7) vB (eh 1 (ks.length - 1)) [some d,some (.lst (ks.map ar)),some de,some (.lst []),o4,o5,o6,none]=.ok (.nx [some d,some (.lst (ks.map ar)),some de,some (.lst []),o4,o5,o6,o7]):=by
  by_cases h0:ks.length=0
  .rw [h0];exact ⟨none,rfl⟩
  .obtain ⟨o7,I⟩:=FL (ks:=ks) (a:=some d) (b:=some de) (c:=some (.lst [])) (o4:=o4) (o5:=o5) (o6:=o6) J (ks.length - 1) 1 none (by omega) (by omega);refine ⟨o7,?_⟩;rw [<- I];congr 1
 rw [zS,j9];refine aL ((av (dj (cf rfl))).trans ((av (aI rfl)).trans ((av (dj (cf (ac (bN (ac rfl (ac rfl rfl))) rfl)))).trans ((av (e.trans e2)).trans ((av (gE ?_ I)).trans (aD rfl))))));unfold BJ;rw [ac (d:=.int 1) rfl (ac (bS rfl (m6 _ _)) rfl),aF];unfold NN;dsimp only;rw [acA (by omega)];congr 2;omega
def jQ (c:Str×Str):D:=.tup [.str c.1,.str c.2]
def vJ (nm:Str) (I:List (Str×Str)):D:=.tup [.str nm,.tup (I.map jQ)]
def eD (c:Str):List (Str×Str)->Nat
 | []=>0
 | q::r=>if q.1=c then 0 else eD c r+1
def fG {c:Str}:∀ {I:List (Str×Str)},c∈I.map BY->eD c I < I.length
 | [],h=>by simp at h
 | q::r,h=>by
  unfold eD;split
  .simp
  .rename_i e;rw [lE] at h;rcases rW.mp h with z|z
   .exact absurd z.symm e
   .have:=fG z;simp;omega
def G5 {i j:Nat} {B:FS} {a b d:D} {r:acO} {U:Sd} (h:B ((U.set i (some a)).set j (some b))=.ok (.rt d)):dm (.tup [i,j]) B (.tup [a,b]::r) U=.ok (.rt d):=by
 show ((fI (.tup [i,j]) (.tup [a,b]) U).bind _)=_;show ((R.ok (iJ [i,j] [a,b] U)).bind _)=_;rw [aF];show ((B ((U.set i (some a)).set j (some b))).bind _)=_;rw [h];rfl
def Jd {ι:FA} {g:TgD} {B:FS} {U:Sd} {xs:acO} {d:D} (h:ι U=.ok xs) (hf:dm g B xs U=.ok (.rt d)):nR ι g B U=.ok (.rt d):=by rw [Lk,h,aF,Ld,hf]
def Cf {a:D} {c:Str}:∀ (I:List (Str×Str)) (j:Nat) (J L:Option D),c∈I.map BY ->
  dm (.tup [2,3]) VY (cA j (I.map jQ)) [some a,some (.str c),J,L]=.ok (.rt (.int ((j+eD c I:Nat):Int)))
 | [],_,_,_,h=>by simp at h
 | q::r,j,J,L,h=>by
  have t:bR (aw eI (uI 3 0) (ah 1)) [some a,some (.str c),some (.int (j:Int)),some (jQ q)]=.ok (decide (q.1=c)):=aJ (ai (ai rfl rfl bb) rfl fz);by_cases e:q.1=c
  .rw [acD e] at t
   have:eD c (q::r)=0:=by unfold eD;rw [acA e]
   rw [this];exact G5 ((br t).trans (aD rfl))
  .rw [acC e] at t;have ef:eD c (q::r)=eD c r+1:=acB e;rw [ef];rw [lE] at h;have h':c∈r.map BY:=by
    rcases rW.mp h with z|z
    .exact absurd z.symm e
    .exact z
   have ih:=Cf (a:=a) r (j+1) (some (.int (j:Int))) (some (jQ q)) h';have Y:((j+(eD c r+1):Nat):Int)=((j+1+eD c r:Nat):Int):=by congr 1;omega
   rw [Y,<- ih];exact C9 ((jW t).trans rfl)
def mq {nm c:Str} {I:List (Str×Str)} (h:c∈I.map BY):cM [vJ nm I,.str c]=.ok (.int (eD c I:Int)):=by
 have e:=Cf (a:=vJ nm I) I 0 none none h;rw [Yr] at e;rw [vm,gb];refine aL (bV (Jd ?_ e));unfold gL;rw [ac (ai rfl rfl bj) rfl,aF];rfl
abbrev dC:=Int×acO
def a7 (rs:List dC):List (bD×D):=rs.map fun q=>(abA q.1,D.tup q.2)
def tL (ids:List (Str×D)):List (bD×D):=ids.map fun q=>(abB q.1,q.2)
def lP (nm:Str) (I:List (Str×Str)) (rs:List dC) (ids:List (Str×D)):D:=.obj "Table" [("shape",vJ nm I),("rows",.dcf (a7 rs)),("indexes",.dcf (tL ids))]
def sV {nm:Str} {I:List (Str×Str)} {rs:List dC} {ids:List (Str×D)}:tO "Table" "shape" (lP nm I rs ids)=.ok (vJ nm I):=by
 unfold tO lP;dsimp only;rw [acA rfl];rfl
def pb {nm:Str} {I:List (Str×Str)} {rs:List dC} {ids:List (Str×D)}:tO "Table" "rows" (lP nm I rs ids)=.ok (.dcf (a7 rs)):=by
 unfold tO lP;dsimp only;rw [acA rfl];rfl
def u9 {nm:Str} {I:List (Str×Str)} {rs:List dC} {ids:List (Str×D)}:tO "Table" "indexes" (lP nm I rs ids)=.ok (.dcf (tL ids)):=by
 unfold tO lP;dsimp only;rw [acA rfl];rfl
def b7 {n f:Str} {φ:FE} {U:Sd} {d e:D} (h:φ U=.ok d) (hf:tO n f d=.ok e):fY n f φ U=.ok e:=by unfold fY;rw [h,aF,hf]
def CC {n:Str} {ns:acH} {α:FA} {U:Sd} {ds:acO} (h:α U=.ok ds) (I:ds.length=ns.length:=by rfl):Mq n ns α U=.ok (.obj n (ns.zip ds)):=by unfold Mq;rw [h,aF];unfold GQ;rw [acA I]
def CY {φ:FE} {U:Sd} {ds:List (bD×D)} (h:φ U=.ok (.dct ds)):JH φ U=.ok (.dcf ds):=by unfold JH;rw [h];rfl
def mt {i:Nat} {ψ:FS} {U:Sd} {ds:List (bD×D)} (h:U[i]?=some (some (.dct ds))):Ap i ψ U=ψ (U.set i (some (.dcf ds))):=by unfold Ap;rw [h]
def rE {nm:Str} {I:List (Str×Str)}:dw [vJ nm I]=.ok (lP nm I [] []):=by
 rw [zH,jX];exact aL (aD (CC (ac rfl (ac (CY rfl) (ac (CY rfl) rfl)))))
def cL (rs:List dC) (n:Int):Option (acO):=(rs.find? fun q=>decide (q.1=n)).map (·.2)
def mN (rs:List dC) (n:Int) (r:acO):List dC:=if (cL rs n).isSome=true then rs.map fun q=>if q.1=n then (q.1,r) else q else rs++[(n,r)]
def gu (rs:List dC) (n:Int):List dC:=rs.filter fun q=>decide (q.1≠n)
def fJ (n:Int):∀ rs:List dC,fc (a7 rs) (.inl n)=(cL rs n).map D.tup
 | []=>rfl
 | q::r=>by
  by_cases e:q.1=n
  .simp [a7,fc,cL,Xe,e]
  .have:=fJ n r
   simp [a7,fc,cL,Xe,e] at this ⊢;exact this
def p0 (n:Int) (x:acO) (rs:List dC):nQ (a7 rs) (.inl n) (.tup x)=a7 (mN rs n x):=by
 unfold nQ mN;rw [fJ]
 have:((cL rs n).map D.tup).isSome=(cL rs n).isSome:=by cases cL rs n <;> rfl
 rw [this];split
 .unfold a7;rw [WL,WL];apply XA
  intro q _;by_cases e:q.1=n
  .simp [e]
  .simp [e]
 .unfold a7;rw [Wy];rfl
def v5 (n:Int) (rs:List dC):gJ (a7 rs) (.inl n)=a7 (gu rs n):=by
 unfold gJ gu a7;rw [List.filter_map];congr 1;apply List.filter_congr
 intro q _;simp
def tV {rs:List dC} {n:Int} {x:acO} (h:cL rs n=some x):(n,x)∈rs:=by
 unfold cL at h;cases e:rs.find? fun q=>decide (q.1=n) with
 | none=>rw [e] at h;cases h
 | some q =>
  rw [e] at h;cases h;have h1:=List.find?_some e;have h2:=List.mem_of_find?_eq_some e
  have:q.1=n:=acE h1
  rw [<- this];exact h2
def rG {rs:List dC} {n:Int} (h:cL rs n=none):∀ q∈rs,q.1≠n:=fun q I e=>by
 unfold cL at h
 have:=abR.mp (Option.map_eq_none_iff.mp h) q I
 exact this (acD e)
def oA {rs:List dC} {q:dC} (hn:(rs.map BY).Nodup) (h:q∈rs):cL rs q.1=some q.2:=by
 cases e:cL rs q.1 with
 | none=>exact absurd rfl (rG e q h)
 | some x =>
  have h2:=tV e
  have:∀ {l:List dC} {a b:dC},(l.map BY).Nodup->a∈l->b∈l->a.1=b.1->a=b:=fun {l}=>by
   induction l with
   | nil=>intro a b _ h;cases h
   | cons c r Y =>
    intro a b nd I J L;rw [lE,W8] at nd;rcases rW.mp I with ea|I <;> rcases rW.mp J with eb|J
    .rw [ea,eb]
    .exact absurd (P2.mpr ⟨b,J,by rw [<- L,ea]⟩) nd.1
    .exact absurd (P2.mpr ⟨a,I,by rw [L,eb]⟩) nd.1
    .exact Y nd.2 I J L
  have:=this hn h h2 rfl
  rw [this]
def EW (v:D) (n:Int):K4:=match v with
 | .int i=>(1,i,[],n)
 | .str z=>(2,0,z.cps.toList,n)
 | _=>(0,0,[],n)
theorem ze (v:D) (n:Int):(EW v n).2.2.2=n:=by unfold EW;split <;> rfl
def u6 {v:D} {n:Int} (h:Vl 40 v):Ok (EW v n)/\ar (EW v n)=.tup [v,.int n]/\cI (EW v n)=v:=by
 cases v with
 | non=>exact ⟨Ok.of rfl h,nt rfl,rfl⟩
 | int i=>exact ⟨Ok.of rfl h,nt rfl,rfl⟩
 | str z=>exact ⟨Ok.of rfl h,nt rfl,by simp [EW,cI]⟩
 | _=>exact h.elim
structure RowOk (m:Nat) (r:acO):Prop where
 len:r.length=m
 v:∀ v∈r,Vl 40 v
def eK (p:Nat) (q:dC):K4:=EW (q.2.getD p .non) q.1
def RowOk.at_ {m p:Nat} {r:acO} (h:RowOk m r) (J:p < m):Vl 40 (r.getD p .non)/\r[p]?=some (r.getD p .non):=by
 have I:p < r.length:=by rw [h.len];exact J
 have e:r[p]?=some r[p]:=oR I
 have:r.getD p .non=r[p]:=by rw [Ym,e];rfl
 rw [this];exact ⟨h.v _ (WM I),e⟩
structure RsOk (m:Nat) (rs:List dC):Prop where
 nd:(rs.map BY).Nodup
 r:∀ q∈rs,RowOk m q.2
def Rows.nodup {ks:List K4} (h:Rows ks):ks.Nodup:=List.Pairwise.imp (S:=fun a b=>a≠b) (fun {a b} g (e:a=b)=>TS.to4.irr _ (by rw [e] at g;exact g)) h.s
def wO {α I:Type} (f:α->I):∀ {l:List α},(l.map f).Nodup->l.Nodup
 | [],_=>Yb
 | a::r,h=>by
  rw [lE,W8] at h;exact W8.mpr ⟨fun z=>h.1 (P2.mpr ⟨a,z,rfl⟩),wO f h.2⟩
def ux {m p:Nat} {rs:List dC} (h:RsOk m rs):(rs.map (eK p)).Nodup:=by
 have:(rs.map (eK p)).map (fun k=>k.2.2.2)=rs.map BY:=by
  rw [WL];apply XA
  intro q _;exact ze _ _
 have h2:=h.nd;rw [<- this] at h2;exact wO _ h2
def uB (rs:List dC) (p:Nat) (d:D):Prop:=∃ h ks,Nd h (rt h) (ks,d)/\Rows ks/\ks.Perm (rs.map (eK p))
def lC {m:Nat} {rs:List dC} (h:RsOk m rs) (n:Int) (x:acO):(mN rs n x).Perm ((n,x)::gu rs n):=by
 unfold mN;cases e:cL rs n with
 | none =>
  rw [acB (by simp)];have hd:gu rs n=rs:=Yh.mpr fun q hq=>acD (rG e q hq);rw [hd];exact YS
 | some Y =>
  rw [acA (show (some Y).isSome=true from rfl)];have J:=tV e;have nd:=h.nd;clear h e;unfold gu;induction rs with
  | nil=>cases J
  | cons q r ih =>
   rw [lE,W8] at nd;by_cases I:q.1=n
   .have hr:∀ z∈r,z.1≠n:=fun z hz ez=>nd.1 (P2.mpr ⟨z,hz,by rw [ez,I]⟩);have e1:(r.map fun q=>if q.1=n then (q.1,x) else q)=r:=by
     conv=>rhs;rw [<- List.map_id r]
     apply XA
     intro z hz;rw [acB (hr z hz)];rfl
    have e2:(r.filter fun q=>decide (q.1≠n))=r:=Yh.mpr fun z hz=>acD (hr z hz);rw [lE,acA I,e1,Xy,acB (by simp [I]),e2,I]
   .rw [lE,acB I,Xy,acA (by simp [I])];have L:(n,Y)∈r:=by
     rcases rW.mp J with z|z
     .exact absurd (acF BY z).symm I
     .exact z
    exact ((ih L nd.2).cons q).trans (List.Perm.swap _ _ _)
def J6 {m:Nat} {rs:List dC} {n:Int} {I:acO} (h:RsOk m rs) (e:cL rs n=some I):rs.Perm ((n,I)::gu rs n):=by
 have J:=lC h n I
 have:mN rs n I=rs:=by
  unfold mN;rw [e,acA (show (some I).isSome=true from rfl)]
  conv=>rhs;rw [<- List.map_id rs]
  apply XA
  intro q L;by_cases en:q.1=n
  .rw [acA en]
   have:=oA h.nd L
   rw [en,e] at this;cases this;rfl
  .rw [acB en];rfl
 rw [this] at J;exact J
def nN {m:Nat} {rs:List dC} (h:RsOk m rs) (n:Int):RsOk m (gu rs n) :=
 ⟨h.nd.sublist (ZR.map _),fun q I=>h.r q (Xw.mp I).1⟩
def uC (rs:List dC) (n:Int):∀ q∈gu rs n,q.1≠n:=fun q I=>acE (Xw.mp I).2
def BQ {m:Nat} {rs:List dC} (h:RsOk m rs) {n:Int} {x:acO} (L:RowOk m x):RsOk m (mN rs n x):=by
 have J:=lC h n x;refine ⟨?_,fun q I=>?_⟩
 .refine (J.map BY).nodup_iff.mpr ?_;rw [lE,W8];refine ⟨fun z=>?_,(nN h n).nd⟩;obtain ⟨q,I,e⟩:=P2.mp z;exact uC rs n q I e
 .rcases rW.mp (J.mem_iff.mp I) with rfl|z
  .exact L
  .exact (nN h n).r q z
def yL {m:Nat} {rs:List dC} (h:RsOk m rs) (n:Int) (x:acO):(mN rs n x).length<=rs.length+1:=by
 rw [(lC h n x).length_eq,RW]
 have:(gu rs n).length<=rs.length:=X1 _ _
 omega
def KG {m p:Nat} {rs:List dC} (h:RsOk m rs) (L:p < m):∀ k∈rs.map (eK p),Ok k:=fun k J=>by
 obtain ⟨q,I,rfl⟩:=P2.mp J;exact (u6 ((h.r q I).at_ L).1).1
def Me {m p:Nat} {rs:List dC} {n:Int} {x:acO} {d:D} (h:RsOk m rs) (hx:RowOk m x) (hp:p < m) (hl:rs.length<=600) (hd:uB rs p d) (hn:∀ q∈rs,q.1≠n) :
  ∃ d',gh [d,x.getD p .non,.int n]=.ok d'/\∀ I,I.Perm ((n,x)::rs)->uB I p d':=by
 obtain ⟨hh,ks,hN,hr,hP⟩:=hd;obtain ⟨o,_,ev⟩:=u6 (n:=n) (hx.at_ hp).1;have hk:EW (x.getD p .non) n∉ks:=fun z=>by
  obtain ⟨q,J,e⟩:=P2.mp (hP.mem_iff.mp z);refine hn q J ?_
  have:=acF (fun k:K4=>k.2.2.2) e
  simpa [eK,ze] using this
 obtain ⟨h',d',e,L⟩:=Bt o hN hr (by rw [hP.length_eq,eQ];exact hl) hk;rw [ev,ze] at e;refine ⟨d',e,fun I Y=>⟨h',_,L,z5 o hr,?_⟩⟩;have h2:RsOk m ((n,x)::rs):=⟨by rw [lE,W8];exact ⟨fun z=>by obtain ⟨q,J,e⟩:=P2.mp z;exact hn q J e,h.nd⟩,fun q J=>by
  rcases rW.mp J with rfl|z
  .exact hx
  .exact h.r q z⟩
 refine ZT ?_ (Y.map (eK p)).symm;refine (Y3 (z5 o hr).nodup (ux h2)).mpr fun k=>?_;rw [Cu,lE,rW,hP.mem_iff];rfl
def JU {m p:Nat} {rs:List dC} {n:Int} {x0:acO} {d:D} (h:RsOk m rs) (hp:p < m) (hl:rs.length<=600) (hd:uB rs p d) (e0:cL rs n=some x0) :
  ∃ d',c5 [d,x0.getD p .non,.int n]=.ok d'/\uB (gu rs n) p d':=by
 obtain ⟨hh,ks,hN,Y,hP⟩:=hd;have hin:=tV e0;have L:RowOk m x0:=h.r _ hin;obtain ⟨o,_,ev⟩:=u6 (n:=n) (L.at_ hp).1;have I:ks.Perm (EW (x0.getD p .non) n::(gu rs n).map (eK p)):=hP.trans ((J6 h e0).map (eK p));have hk:EW (x0.getD p .non) n∈ks:=I.mem_iff.mpr OR;obtain ⟨h',d',e,J⟩:=vt o hN Y (by rw [hP.length_eq,eQ];omega) hk;rw [ev,ze] at e;refine ⟨d',e,h',_,J,yP Y,?_⟩;refine (Y3 (yP Y).nodup (ux (nN h n))).mpr fun k=>?_;rw [Cg,I.mem_iff,rW];constructor
 .rintro ⟨z|z,hne⟩
  .exact absurd z hne
  .exact z
 .intro z;refine ⟨.inr z,fun ek=>?_⟩;obtain ⟨q,hq,e1⟩:=P2.mp z;refine uC rs n q hq ?_
  have:=acF (fun k:K4=>k.2.2.2) (e1.trans ek)
  simpa [eK,ze] using this
def mM (ids:List (Str×D)) (c:Str):Option D:=(ids.find? fun q=>decide (q.1=c)).map (·.2)
def yg (c:Str):∀ ids:List (Str×D),fc (tL ids) (.inr c)=mM ids c
 | []=>rfl
 | q::r=>by
  have I:=yg c r;by_cases e:q.1=c
  .simp [tL,fc,mM,Xe,e]
  .simp [tL,fc,mM,Xe,e] at I ⊢;exact I
def AL {ids:List (Str×D)} {c:Str} (h:c∉ids.map BY):mM ids c=none:=by
 unfold mM;rw [abR.mpr fun q I z=>h (P2.mpr ⟨q,I,acE z⟩)];rfl
def t7 {ids:List (Str×D)} (hn:(ids.map BY).Nodup):∀ {q:Str×D},q∈ids->mM ids q.1=some q.2:=by
 induction ids with
 | nil=>intro q h;cases h
 | cons a r I =>
  intro q h;rw [lE,W8] at hn;rcases rW.mp h with rfl|h
  .simp [mM,Xe]
  .have:a.1≠q.1:=fun e=>hn.1 (P2.mpr ⟨q,h,e.symm⟩)
   have I:=I hn.2 h;simp [mM,Xe,this] at I ⊢;exact I
def xS {c:Str} {d:D} {ids:List (Str×D)} (h:c∉ids.map BY):nQ (tL ids) (.inr c) d=tL (ids++[(c,d)]):=by
 unfold nQ;rw [yg,AL h,acB (by simp)];unfold tL;rw [Wy];rfl
def Fn {ids:List (Str×D)} {c:Str} {d:D} (h:mM ids c=some d):mO (.dcf (tL ids)) (.str c)=.ok d:=by
 show (match fc (tL ids) (.inr c) with|some d=>R.ok d|none=>.no)=_
 rw [yg,h]
def xk {rs:List dC} {n:Int} {x:acO} (h:cL rs n=some x):mO (.dcf (a7 rs)) (.int n)=.ok (.tup x):=by
 show (match fc (a7 rs) (.inl n) with|some d=>R.ok d|none=>.no)=_
 rw [fJ,h];rfl
def HX {rs:List dC} {n:Int}:Kk (.int n) (.dcf (a7 rs))=.ok (.bl (cL rs n).isSome):=by
 show gG (some (fc (a7 rs) (.inl n)).isSome) _=_;rw [fJ];cases cL rs n <;> rfl
def zX {rs:List dC} {n:Int}:w4 (.int n) (.dcf (a7 rs))=.ok (.bl (!(cL rs n).isSome)):=by
 show gG (some (fc (a7 rs) (.inl n)).isSome) _=_;rw [fJ];cases cL rs n <;> rfl
structure TbOk (cs:List (Str×Str)) (rs:List dC) (ids:List (Str×D)):Prop where
 r:RsOk cs.length rs
 nd:(ids.map BY).Nodup
 i:∀ q∈ids,q.1∈cs.map BY/\uB rs (eD q.1 cs) q.2
def xE {m p:Nat} {x:acO} (h:RowOk m x) (I:p < m):bT (.tup x) (.int (p:Int))=.ok (x.getD p .non):=Hd (cz (h.at_ I).2)
def pk {nm c:Str} {I:List (Str×Str)} {rs:List dC} {ids:List (Str×D)} {n:Int} {d:D} (h:RsOk I.length rs) (hl:rs.length<=600) (Y:c∈I.map BY) (hd:mM ids c=some d) (hi:uB rs (eD c I) d) :
  ∃ d',c6 [lP nm I rs ids,.str c,.int n]=.ok d'/\uB (gu rs n) (eD c I) d':=by
 rw [tP,eU];have s1:aw mO (fY "Table" "indexes" (ah 0)) (ah 1) [some (lP nm I rs ids),some (.str c),some (.int n),none]=.ok d:=ai (b7 rfl u9) rfl (Fn hd);cases e:cL rs n with
 | none =>
  have L:gu rs n=rs:=Yh.mpr fun q hq=>acD (rG e q hq);refine ⟨d,?_,by rw [L];exact hi⟩;exact aL ((av (aI s1)).trans (bV ((br (aJ (ai rfl (b7 rfl pb) (zX.trans (by rw [e];rfl))))).trans (aD rfl))))
 | some x0 =>
  have J:RowOk I.length x0:=h.r _ (tV e);obtain ⟨d',e1,h1⟩:=JU (p:=eD c I) h (fG Y) hl hi e;refine ⟨d',?_,h1⟩;exact aL ((av (aI s1)).trans ((skip (aJ (ai rfl (b7 rfl pb) (zX.trans (by rw [e];rfl))))).trans (aD (aq (ac rfl (ac (ai (ai (b7 rfl pb) rfl (xk e)) (aq (ac (b7 rfl sV) (ac rfl rfl)) (mq Y)) (xE J (fG Y))) (ac rfl rfl))) e1))))
def oz {i:Nat} {ψ ε:FE} {U:Sd} {kvs:List (bD×D)} {d k:D} {I:bD} (h:U[i]?=some (some (.dct kvs))) (J:ε U=.ok d) (Y:ψ U=.ok k) (L:se k=some I) (hl:kvs.length < 1000):mH i ψ ε U=.ok (.nx (U.set i (some (.dct (nQ kvs I d))))):=by
 unfold mH;rw [h];show ((ε U).bind _)=_;rw [J,aF];show ((ψ U).bind _)=_;rw [Y,aF,L];dsimp only;rw [acA (by omega)]
def C6 {i:Nat} {ψ:FE} {U:Sd} {kvs:List (bD×D)} {k:D} {I:bD} (h:U[i]?=some (some (.dct kvs))) (L:ψ U=.ok k) (J:se k=some I) (Y:(fc kvs I).isSome=true):v9 i ψ U=.ok (.nx (U.set i (some (.dct (gJ kvs I))))):=by
 unfold v9;rw [h];show ((ψ U).bind _)=_;rw [L,aF,J];dsimp only;rw [acA Y]
def De {nm:Str} {J:List (Str×Str)} {rs:List dC} {ids:List (Str×D)} {n:Int} {x:acO} {rd:D} (h:RsOk J.length rs) (hx:RowOk J.length x) (hl:rs.length<=600) :
  ∀ (I acc:List (Str×D)) (o5 o6:Option D),(∀ q∈I,mM ids q.1=some q.2/\q.1∈J.map BY/\uB rs (eD q.1 J) q.2)->((acc++I).map BY).Nodup->acc.length+I.length < 1000 ->
   ∃ (out:List (Str×D)) (Y L:Option D),dm (.one 5) Ty (I.map fun q=>D.str q.1) [some (lP nm J rs ids),some (.int n),some (.tup x),some rd,some (.dct (tL acc)),o5,o6]=.ok (.nx [some (lP nm J rs ids),some (.int n),some (.tup x),some rd,some (.dct (tL (acc++out))),Y,L])/\out.map BY=I.map BY/\∀ q∈out,uB (mN rs n x) (eD q.1 J) q.2
 | [],acc,o5,o6,_,_,_=>⟨[],o5,o6,by rw [Xn];rfl,rfl,fun q hq=>nomatch hq⟩
 | q::r,acc,o5,o6,hq,nd,hln=>by
  obtain ⟨q1,q2,q3⟩:=hq q (by simp);obtain ⟨d1,e1,i1⟩:=pk (nm:=nm) (n:=n) h hl q2 q1 q3;obtain ⟨d2,e2,i2⟩:=Me (nN h n) hx (fG q2) (IF (X1 _ _) hl) i1 (uC rs n);have hni:q.1∉acc.map BY:=fun z=>by
   rw [Wy,lE,aaz] at nd;exact nd.2.2 _ z _ OR rfl
  obtain ⟨out,Y,L,e,eo,hi⟩:=De (nm:=nm) (ids:=ids) (n:=n) (rd:=rd) h hx hl r (acc++[(q.1,d2)]) (some (.str q.1)) (some d1) (fun z hz=>hq z (iN _ hz)) (by simpa using nd) (by simp at hln ⊢;omega);refine ⟨(q.1,d2)::out,Y,L,?_,by rw [lE,lE,eo],fun z hz=>?_⟩
  .have t:Ty (Zm [some (lP nm J rs ids),some (.int n),some (.tup x),some rd,some (.dct (tL acc)),o5,o6] 5 (some (.str q.1)))=.ok (.nx [some (lP nm J rs ids),some (.int n),some (.tup x),some rd,some (.dct (tL (acc++[(q.1,d2)]))),some (.str q.1),some d1]):=by
    rw [<- xS hni];exact (av (aI (aq (ac rfl (ac rfl (ac rfl rfl))) e1))).trans (oz rfl (aq (ac rfl (ac (ai rfl (aq (ac (b7 rfl sV) (ac rfl rfl)) (mq q2)) (xE hx (fG q2))) (ac rfl rfl))) e2) rfl rfl (by unfold tL;rw [eQ];omega))
   rw [lE,dr t,e,WC];rfl
  .rcases rW.mp hz with rfl|hz
   .exact i2 _ (lC h n x)
   .exact hi z hz
def x5 {φ:FE} {U:Sd} {kvs:List (bD×D)} (h:φ U=.ok (.dcf kvs)):wU φ U=.ok (kvs.map fun q=>mS q.1):=by unfold wU;rw [h];rfl
def uU (ids:List (Str×D)):(tL ids).map (fun q=>mS q.1)=ids.map fun q=>D.str q.1:=by unfold tL;rw [WL];rfl
def re (rs:List dC):(a7 rs).map (fun q=>mS q.1)=rs.map fun q=>D.int q.1:=by unfold a7;rw [WL];rfl
def yA {kvs:List (bD×D)}:zo [.dcf kvs]=.ok (.dct kvs):=rfl
def zm {nm:Str} {J:List (Str×Str)} {rs:List dC} {ids:List (Str×D)} {n:Int} {x:acO} (h:TbOk J rs ids) (hx:RowOk J.length x) (hl:rs.length<=600) (hi:ids.length<=100) :
  ∃ ids',gA [lP nm J rs ids,.int n,.tup x]=.ok (lP nm J (mN rs n x) ids')/\ids'.map BY=ids.map BY/\TbOk J (mN rs n x) ids':=by
 obtain ⟨out,o5,o6,e,L,Y⟩:=De (nm:=nm) (ids:=ids) (n:=n) (x:=x) (rd:=.dct (a7 (mN rs n x))) h.r hx hl ids [] none none (fun q I=>⟨t7 h.nd I,h.i q I⟩) (by simpa using h.nd) (by simp;omega);refine ⟨out,?_,L,BQ h.r hx,by rw [L];exact h.nd,fun q I=>⟨?_,Y q I⟩⟩
 .rw [Bo,mi];refine aL ((av (dj (aq (ac (b7 rfl pb) rfl) yA))).trans ((av (oz rfl rfl rfl rfl (by unfold a7;rw [eQ];omega))).trans ?_));rw [p0];refine (av (dj rfl)).trans ((av (gE ((x5 (b7 rfl u9)).trans (by rw [uU])) e)).trans ?_);rw [Zl];refine (mt rfl).trans ((mt rfl).trans (aD (CC (ac (b7 rfl sV) (ac rfl (ac rfl rfl))))))
 .have:q.1∈ids.map BY:=by rw [<- L];exact P2.mpr ⟨q,I,rfl⟩
  obtain ⟨z,hz,ez⟩:=P2.mp this;rw [<- ez];exact (h.i z hz).1
def B9 {nm:Str} {J:List (Str×Str)} {rs:List dC} {ids:List (Str×D)} {n:Int} {rd:D} (h:RsOk J.length rs) (hl:rs.length<=600) :
  ∀ (I acc:List (Str×D)) (o4:Option D),(∀ q∈I,mM ids q.1=some q.2/\q.1∈J.map BY/\uB rs (eD q.1 J) q.2)->((acc++I).map BY).Nodup->acc.length+I.length < 1000 ->
   ∃ (out:List (Str×D)) (L:Option D),dm (.one 4) U0 (I.map fun q=>D.str q.1) [some (lP nm J rs ids),some (.int n),some rd,some (.dct (tL acc)),o4]=.ok (.nx [some (lP nm J rs ids),some (.int n),some rd,some (.dct (tL (acc++out))),L])/\out.map BY=I.map BY/\∀ q∈out,uB (gu rs n) (eD q.1 J) q.2
 | [],acc,o4,_,_,_=>⟨[],o4,by rw [Xn];rfl,rfl,fun q Y=>nomatch Y⟩
 | q::r,acc,o4,Y,nd,hln=>by
  obtain ⟨q1,q2,q3⟩:=Y q (by simp);obtain ⟨d1,e1,i1⟩:=pk (nm:=nm) (n:=n) h hl q2 q1 q3;have hni:q.1∉acc.map BY:=fun z=>by
   rw [Wy,lE,aaz] at nd;exact nd.2.2 _ z _ OR rfl
  obtain ⟨out,L,e,eo,hi⟩:=B9 (nm:=nm) (ids:=ids) (n:=n) (rd:=rd) h hl r (acc++[(q.1,d1)]) (some (.str q.1)) (fun z hz=>Y z (iN _ hz)) (by simpa using nd) (by simp at hln ⊢;omega);refine ⟨(q.1,d1)::out,L,?_,by rw [lE,lE,eo],fun z hz=>?_⟩
  .have t:U0 (Zm [some (lP nm J rs ids),some (.int n),some rd,some (.dct (tL acc)),o4] 4 (some (.str q.1)))=.ok (.nx [some (lP nm J rs ids),some (.int n),some rd,some (.dct (tL (acc++[(q.1,d1)]))),some (.str q.1)]):=by
    rw [<- xS hni];exact oz rfl (aq (ac rfl (ac rfl (ac rfl rfl))) e1) rfl rfl (by unfold tL;rw [eQ];omega)
   rw [lE,dr t,e,WC];rfl
  .rcases rW.mp hz with rfl|hz
   .exact i1
   .exact hi z hz
def yS {nm:Str} {J:List (Str×Str)} {rs:List dC} {ids:List (Str×D)} {n:Int} {x0:acO} (h:TbOk J rs ids) (hl:rs.length<=600) (hi:ids.length<=100) (e0:cL rs n=some x0) :
  ∃ ids',gM [lP nm J rs ids,.int n]=.ok (lP nm J (gu rs n) ids')/\ids'.map BY=ids.map BY/\TbOk J (gu rs n) ids':=by
 obtain ⟨out,o4,e,L,Y⟩:=B9 (nm:=nm) (ids:=ids) (n:=n) (rd:=.dct (a7 (gu rs n))) h.r hl ids [] none (fun q I=>⟨t7 h.nd I,h.i q I⟩) (by simpa using h.nd) (by simp;omega);refine ⟨out,?_,L,nN h.r n,by rw [L];exact h.nd,fun q I=>⟨?_,Y q I⟩⟩
 .rw [vv,gN];refine aL ((av (dj (aq (ac (b7 rfl pb) rfl) yA))).trans ((av (C6 rfl rfl rfl (by rw [fJ,e0];rfl))).trans ?_));rw [v5];refine (av (dj rfl)).trans ((av (gE ((x5 (b7 rfl u9)).trans (by rw [uU])) e)).trans ?_);rw [Zl];refine (mt rfl).trans ((mt rfl).trans (aD (CC (ac (b7 rfl sV) (ac rfl (ac rfl rfl))))))
 .have:q.1∈ids.map BY:=by rw [<- L];exact P2.mpr ⟨q,I,rfl⟩
  obtain ⟨z,hz,ez⟩:=P2.mp this;rw [<- ez];exact (h.i z hz).1
def map_two {I:Type} {ε:FE} {rest:Sd} (u v f:I->D) (xs:List I) (h:∀ x∈xs,ε (some (u x)::some (v x)::rest)=.ok (f x)) (Y:xs.length<=1000):cN (.tup [0,1]) t6 ε (none::none::rest) (xs.map fun x=>D.tup [u x,v x])=.ok (.lst (xs.map f)):=by
 refine xz rfl (by rw [eQ];omega) ?_;clear Y;induction xs with
 | nil=>rfl
 | cons x r L =>
  have h1:=h x (by simp);have J:=L (fun y hy=>h y (iN _ hy));show (ε (some (u x)::some (v x)::rest)).bind _=_;rw [h1,aF,J];rfl
def GT {φ:FE} {U:Sd} {kvs:List (bD×D)} (h:φ U=.ok (.dcf kvs)):xb φ U=.ok (kvs.map fun q=>D.tup [mS q.1,q.2]):=by unfold xb;rw [h];rfl
def Bm (rs:List dC):(a7 rs).map (fun q=>D.tup [mS q.1,q.2])=rs.map fun q=>D.tup [.int q.1,.tup q.2]:=by unfold a7;rw [WL];rfl
def AS {nm c:Str} {I:List (Str×Str)} {rs:List dC} {ids:List (Str×D)} (h:RsOk I.length rs) (hl:rs.length<=600) (J:c∈I.map BY):iT [lP nm I rs ids,.str c]=.ok (.lst ((rs.map (eK (eD c I))).map ar)):=by
 rw [wY,iU,WL];refine aL ((av (aI (aq (ac (b7 rfl sV) (ac rfl rfl)) (mq J)))).trans (aD (eX ((GT (b7 rfl pb)).trans (by rw [Bm])) (map_two (fun q:dC=>D.int q.1) (fun q=>D.tup q.2) _ rs (fun q L=>?_) (by omega)))));have Y:=(h.r q L).at_ (fG J)
 have:=(u6 (n:=q.1) Y.1).2.1
 show _=R.ok (ar (EW (q.2.getD (eD c I) .non) q.1));rw [this];exact bN (ac (ai rfl rfl (xE (h.r q L) (fG J))) (ac rfl rfl))
def AO {nm c:Str} {I:List (Str×Str)} {rs:List dC} {ids:List (Str×D)} (h:TbOk I rs ids) (hl:rs.length<=600) (hi:ids.length<=100) (L:c∈I.map BY) (hn:c∉ids.map BY) :
  ∃ d,gg [lP nm I rs ids,.str c]=.ok (lP nm I rs (ids++[(c,d)]))/\TbOk I rs (ids++[(c,d)]):=by
 obtain ⟨hh,ks,d,e,hN,Y,hle,hm⟩:=Bg (xs:=rs.map (eK (eD c I))) (KG h.r (fG L)) (by rw [eQ];exact hl);refine ⟨d,?_,h.r,?_,fun q hq=>?_⟩
 .rw [xA,i9];refine aL ((av (dj (aq (ac (b7 rfl u9) rfl) yA))).trans ((av (oz rfl (aq (ac (aq (ac rfl (ac rfl rfl)) (AS h.r hl L)) rfl) e) rfl rfl (by unfold tL;rw [eQ];omega))).trans ?_));rw [xS hn];exact (mt rfl).trans (aD (CC (ac (b7 rfl sV) (ac (b7 rfl pb) (ac rfl rfl)))))
 .rw [Wy,aaz];refine ⟨h.nd,by simp,fun a ha b hb J=>?_⟩;obtain rfl:b=c:=by simpa using hb
  exact hn (J ▸ ha)
 .rcases MK.mp hq with z|z
  .exact h.i q z
  .obtain rfl:q=(c,d):=by simpa using z
   exact ⟨L,hh,ks,hN,Y,(Y3 Y.nodup (ux h.r)).mpr hm⟩
def js (z:Str):Prop:=∀ c∈z.cps.toList,c∈ER
def Py.str {z:Str} (h:js z):Py 0 (.str z):=⟨.str z,rfl,VJ z h,mK _⟩
structure ShOk (nm:Str) (cs:List (Str×Str)):Prop where
 nm:js nm
 c:∀ q∈cs,js q.1/\js q.2
def Pf {nm:Str} {J:List (Str×Str)} (h:ShOk nm J):Py 3 (vJ nm J):=by
 refine Py.two ((Py.str h.nm).mono (by omega)) (Py.tup fun d hd=>?_);obtain ⟨q,I,rfl⟩:=P2.mp hd;exact (Py.two (Py.str (h.c q I).1) (Py.str (h.c q I).2))
def Ot {v:D} (h:Vl 40 v):Py 0 v:=⟨IJ v,Fw h,(GN h).1,by rw [(GN h).2];exact mK _⟩
def MZ {m:Nat} {r:acO} (h:RowOk m r):Py 1 (.tup r):=Py.tup fun d hd=>Ot (h.v d hd)
def DF {k:Nat} {d:D} (h:Py k d) (Y:k<=30):sI d d=some true:=by
 obtain ⟨p,L,I,J⟩:=h;have s:=Py.shaped I J (by omega);unfold sI;rw [L];dsimp only;rw [acA ⟨s,by omega,s⟩,SeqAt.eqv_refl _ I]
def wI {I:List (bD×D)}:∀ {J:List (bD×D)},(∀ q∈J,fc I q.1=some q.2/\sI q.2 q.2=some true)->qO I J=some true
 | [],_=>rfl
 | (k,d)::r,h=>by
  obtain ⟨h1,h2⟩:=h (k,d) (by simp);have h1:fc I k=some d:=h1;have h2:sI d d=some true:=h2;unfold qO;rw [h1];dsimp only;rw [h2,wI fun q L=>h q (iN _ L)];rfl
def IO {m:Nat} {rs:List dC} (h:RsOk m rs):Jv (.dcf (a7 rs)) (.dcf (a7 rs))=.ok (.bl false):=by
 have:Gw (.dcf (a7 rs)) (.dcf (a7 rs))=some true:=by
  show IS (a7 rs) (a7 rs)=some true;unfold IS;rw [acA rfl];refine wI fun q I=>?_;obtain ⟨z,hz,rfl⟩:=P2.mp I;exact ⟨by rw [fJ,oA h.nd hz];rfl,DF (MZ (h.r z hz)) (by decide)⟩
 unfold Jv;rw [this];rfl
def Db:∀ ns:List Int,A1 true (ns.map D.int)=some (ns.map fun i=>(i,[]))
 | []=>rfl
 | i::r=>by
  rw [lE,lE];show (match Va (.int i) with|some (c,k)=>if c=true then (A1 true (r.map D.int)).map (k::·) else none|none=>none)=_
  show (if true=true then (A1 true (r.map D.int)).map ((i,[])::·) else none)=_;rw [acA rfl,Db r];rfl
def Da:∀ ss:acH,A1 false (ss.map D.str)=some (ss.map fun z=>(0,z.cps.toList))
 | []=>rfl
 | z::r=>by
  rw [lE,lE];show (if false=false then (A1 false (r.map D.str)).map ((0,z.cps.toList)::·) else none)=_;rw [acA rfl,Da r];rfl
def yZ {ns:List Int} (I:ns.length<=1000):∃ L:List Int,xK (ns.map D.int)=.ok (.lst (L.map D.int))/\L.Perm ns:=by
 refine ⟨((ns.map fun i=>((i,[]):K2)).mergeSort tB).map BY,?_,?_⟩
 .unfold xK;rw [acA (by rw [eQ];omega),Db,WL];rfl
 .have:=(YF (ns.map fun i=>((i,[]):K2)) tB).map BY
  rw [WL] at this;have e:ns.map (BY ∘ fun i=>((i,[]):K2))=ns:=by simp [Function.comp_def]
  rw [e] at this;exact this
def G7 {ss:acH} (hl:ss.length<=1000) (J:∀ z∈ss,js z):∃ L:acO,xK (ss.map D.str)=.ok (.lst L)/\∀ d∈L,Py 0 d:=by
 cases ss with
 | nil=>exact ⟨[],by simp [xK,A1],fun d hd=>nomatch hd⟩
 | cons z r =>
  refine ⟨(((z::r).map fun z=>((0,z.cps.toList):K2)).mergeSort tB).map (uf false),?_,fun d hd=>?_⟩
  .unfold xK;have h1:A1 true ((z::r).map D.str)=none:=rfl;rw [acA (by rw [eQ];omega),h1];dsimp only;rw [Da]
  .obtain ⟨k,I,rfl⟩:=P2.mp hd;obtain ⟨y,Y,rfl⟩:=P2.mp ((YF _ _).mem_iff.mp I)
   have:uf false (0,y.cps.toList)=.str y:=by simp [uf]
   rw [this];exact Py.str (J y Y)
def Ei {ks l:List K4} (I:Rows ks) (J:ks.Perm l):l.mergeSort vq=ks :=
 (wv J (I.s.imp fun {a b} h g=>TS.to4.irr _ (TS.to4.tr _ _ _ h g))).symm
def Gy (c:Str):∀ {I:List (Str×Str)},c∈I.map BY->∃ vs,cX (I.map fun q=>D.str q.1)=some vs/\ir (.str c) vs=some (eD c I)
 | [],h=>by simp at h
 | q::r,h=>by
  by_cases e:q.1=c
  .have:∃ ws,cX (r.map fun q=>D.str q.1)=some ws:=by
    clear h;induction r with
    | nil=>exact ⟨[],rfl⟩
    | cons a r Y=>obtain ⟨ws,e⟩:=Y;exact ⟨_,by rw [lE,cX,e];rfl⟩
   obtain ⟨ws,J⟩:=this;refine ⟨.str q.1::ws,by rw [lE,cX,J];rfl,?_⟩
   have:eD c (q::r)=0:=acA e
   rw [this];unfold ir;rw [acA (by rw [e];show (c==c)=true;exact beq_self_eq_true c)]
  .rw [lE] at h;have h':c∈r.map BY:=by
    rcases rW.mp h with z|z
    .exact absurd z.symm e
    .exact z
   obtain ⟨vs,L,J⟩:=Gy c h';refine ⟨.str q.1::vs,by rw [lE,cX,L];rfl,?_⟩
   have:eD c (q::r)=eD c r+1:=acB e
   rw [this];unfold ir;rw [acB (by show ¬ (q.1==c)=true;simpa using e),J];rfl
def Mr {c:Str} {I:List (Str×Str)} (h:c∈I.map BY):JR (.lst (I.map fun q=>D.str q.1)) (.str c)=.ok (.int (eD c I:Int)):=by
 obtain ⟨vs,J,L⟩:=Gy c h;show (match fh (.str c),cX (I.map fun q=>D.str q.1) with
  | some v,some vs=>(match ir v vs with
   | some j=>R.ok (D.int (j:Nat))
   | none=>.no)
  | _,_=>.no)=_
 rw [J];show (match ir (.str c) vs with
   | some j=>R.ok (D.int (j:Nat))
   | none=>.no)=_
 rw [L]
def MS {φ ψ:FE} {U:Sd} {xs:acO} {y d:D} (h:φ U=.ok (.lst xs)) (h2:ψ U=.ok y) (hd:JR (.lst xs) y=.ok d):JL φ ψ U=.ok d:=by
 unfold JL;rw [h,aF];dsimp only;rw [h2,aF,hd]
def GB {l:List K4} (I:∀ k∈l,Ok k) (J:l.length<=1000):Fi ci [.lst (l.map ar)]=.ok (.lst ((l.mergeSort vq).map ar)):=by
 show (if (l.map ar).length<=1000000 then (match iK Du ci (l.map ar) with
  | some ks=>R.ok (D.lst ((ks.mergeSort vq).map ar))
  | none=>.no) else .no)=_
 rw [acA (by rw [eQ];omega),E4 I]
def IL {ks:List K4} (h:∀ k∈ks,Ok k):Py 2 (.lst (ks.map ar)):=Py.lst fun d hd=>by
 obtain ⟨k,I,rfl⟩:=P2.mp hd;exact (h k I).laid
def CK {nm:Str} {I:List (Str×Str)} {rs:List dC} {ids:List (Str×D)} {cl:D} (h:TbOk I rs ids) (hl:rs.length<=600) (hcs:I.length<=100):∀ (J:List (Str×D)) (o4 o5 o6:Option D),(∀ q∈J,q∈ids) ->
  ∃ L o5' Y:Option D,dm (.one 4) LU (J.map fun q=>D.str q.1) [some (lP nm I rs ids),some (vJ nm I),some (.dcf (a7 rs)),some cl,o4,o5,o6]=.ok (.nx [some (lP nm I rs ids),some (vJ nm I),some (.dcf (a7 rs)),some cl,L,o5',Y])
 | [],o4,o5,o6,_=>⟨o4,o5,o6,rfl⟩
 | q::r,o4,o5,o6,hq=>by
  have hin:=hq q (by simp);obtain ⟨hc,hh,ks,hN,hr,hP⟩:=h.i q hin;have hks:ks.length<=600:=by rw [hP.length_eq,eQ];exact hl
  obtain ⟨L,o5',Y,e⟩:=CK (nm:=nm) (cl:=cl) h hl hcs r (some (.str q.1)) (some (.int (eD q.1 I:Int))) (some (.lst ((rs.map (eK (eD q.1 I))).map ar))) fun z hz=>hq z (iN _ hz);refine ⟨L,o5',Y,?_⟩;have t:LU (Zm [some (lP nm I rs ids),some (vJ nm I),some (.dcf (a7 rs)),some cl,o4,o5,o6] 4 (some (.str q.1)))=.ok (.nx [some (lP nm I rs ids),some (vJ nm I),some (.dcf (a7 rs)),some cl,some (.str q.1),some (.int (eD q.1 I:Int)),some (.lst ((rs.map (eK (eD q.1 I))).map ar))]):=by
   refine (av (aI (MS (eX (m5 (ai rfl rfl bj) rfl) (vn jQ (fun q=>D.str q.1) I (fun c _=>ai rfl rfl bb) (by omega))) rfl (Mr hc)))).trans ((av (aI (d:=.lst ((rs.map (eK (eD q.1 I))).map ar)) (eX ((x5 rfl).trans (by rw [re])) ?_))).trans ?_)
   .rw [WL];refine vn (fun q:dC=>D.int q.1) _ rs (fun z hz=>?_) (by omega);have ha:=(h.r.r z hz).at_ (fG hc)
    have:=(u6 (n:=z.1) ha.1).2.1
    show _=R.ok (ar (EW (z.2.getD (eD q.1 I) .non) z.1));rw [this];exact bN (ac (ai (ai rfl rfl (xk (oA h.r.nd hz))) rfl (xE (h.r.r z hz) (fG hc))) (ac rfl rfl))
   .refine (jW (aJ (ai (aq (ac (ai (b7 rfl u9) rfl (Fn (t7 h.nd hin))) rfl) (EA hN hr (by omega))) (aq (ac rfl rfl) (GB (KG h.r (fG hc)) (by rw [eQ];omega))) ?_))).trans rfl;rw [Ei hr hP];exact (IL hr.o).ne (by decide) rfl
  rw [lE,dr t,e]
def OO {nm:Str} {I:List (Str×Str)} {rs:List dC} {ids:List (Str×D)} (hs:ShOk nm I) (h:TbOk I rs ids) (hl:rs.length<=600) (J:I.length<=100) (hi:ids.length<=100) :
  nP [lP nm I rs ids,vJ nm I,.dcf (a7 rs),.lst ((ids.map BY).map D.str)]=.ok (.bl true):=by
 obtain ⟨o4,o5,o6,e⟩:=CK (nm:=nm) (cl:=.lst ((ids.map BY).map D.str)) h hl J ids none none none fun q hq=>hq;have hn:∀ z∈ids.map BY,js z:=fun z hz=>by
  obtain ⟨q,hq,rfl⟩:=P2.mp hz;obtain ⟨c,hc,Y⟩:=P2.mp (h.i q hq).1;rw [<- Y];exact (hs.c c hc).1
 obtain ⟨L,eL,pL⟩:=G7 (ss:=ids.map BY) (by rw [eQ];omega) hn;have Y:(tL ids).map (fun q=>mS q.1)=(ids.map BY).map D.str:=by rw [uU,WL];rfl
 rw [Lz,xH];refine aL ((skip (mP (uN (b:=true) (aq (ac rfl (ac rfl rfl)) ?_)) (mP (aJ (ai (b7 rfl sV) rfl ((Pf hs).ne (by decide) rfl))) (mP (uN (b:=true) (nV (b7 rfl pb) (F7.trans (vk (by trivial))))) (aJ (ai (b7 rfl pb) rfl (IO h.r))))))).trans ((skip (mP (uN (b:=true) (nV (b7 rfl u9) (F7.trans (vk (by trivial))))) (aJ (ai (aq (ac (aq (ac (b7 rfl u9) rfl) (show vp [.dcf (tL ids)]=.ok (.lst ((ids.map BY).map D.str)) by rw [<- Y];rfl)) rfl) (show tK [.lst ((ids.map BY).map D.str)]=.ok (.lst L) from eL)) (aq (ac rfl rfl) (show tK [.lst ((ids.map BY).map D.str)]=.ok (.lst L) from eL)) ((Py.lst pL).ne (by decide) rfl))))).trans ((av (gE (m5 rfl (by rw [WL];rfl)) e)).trans (aD rfl))));unfold Jo lP;dsimp only;rw [acA ⟨rfl,rfl⟩]
abbrev Wa:Str:=WV "abcdefghijklmnopqrstuvwxyz"
def al:acG:=Wa.cps.toList
def Mu:al.length=26:=by trivial
def An (i:Int):Nat:=al.getD (i % 26).toNat 0
def Li (i:Int):al[(i % 26).toNat]?=some (An i):=by
 have I:(i % 26).toNat < al.length:=by rw [Mu];lia
 unfold An;rw [Ym,oR I];rfl
def K7 (i:Int):atI Wa.cps.toList (i % 26)=some (An i):=by
 have h:=cz (xs:=al) (Li i);rw [show (((i % 26).toNat:Nat):Int)=i % 26 by lia] at h;exact h
def CN (i:Int):An i∈ER:=(show ∀ c∈al,c∈ER by trivial) _ (Xr (Li i))
def F2 (i:Int):An (i+7)≠An i:=by
 have key:∀ j < 26,al.getD ((j+7) % 26) 0≠al.getD j 0:=by trivial
 have:((i+7) % 26).toNat=((i % 26).toNat+7) % 26:=by lia
 unfold An;rw [this];exact key _ (by lia)
def ws:acH:=["and","by","down","from","none","not","or","order","show","take"]
def N5:List (acG):=(ws++([("where":Str)]:acH)).map fun z=>z.cps.toList
def Jm:∀ a∈N5,∀ b∈N5,∀ i < 6,(a.take i=b.take i/\a.drop (i+1)=b.drop (i+1)/\i < a.length/\i < b.length)->a=b:=by trivial
def Jn {a b:acG} {s t:Nat} (h1:a++s::b∈N5) (h2:a++t::b∈N5):s=t:=by
 have I:∀ w∈N5,w.length < 6:=by trivial
 have:=I _ h1
 have e:=Jm _ h1 _ h2 a.length (by simp at this;lia) ⟨by simp,by simp [List.drop_append],by simp,by simp⟩;simpa using e
def okN (z:Str):Bool:=!decide (z="where")&&!CS (.str z) (ws.map V.str)
def Go {z:Str} (h:okN z=false):z.cps.toList∈N5:=by
 unfold okN at h;by_cases e:z="where"
 .rw [e];decide +kernel
 .rw [acC e] at h;have h:CS (.str z) (ws.map V.str)=true:=by simpa using h
  unfold CS at h;rw [List.any_map,List.any_eq_true] at h;obtain ⟨y,I,e⟩:=h;have e:(y==z)=true:=e;rw [beq_iff_eq] at e;rw [<- e];exact P2.mpr ⟨y,WX _ I,rfl⟩
def pI (a b:Str):(a++b).cps.toList=a.cps.toList++b.cps.toList:=by
 show (a.cps++b.cps).toList=_;simp
def Jl (a b:Str):(a++b).length=a.length+b.length:=by
 rw [str_len,str_len,str_len,pI,Do]
def BS {z:Str} {lo hi:Option Int} {c:Nat} (h:c∈(qK z lo hi).cps.toList):c∈z.cps.toList:=by
 unfold qK at h;exact X7 (X6 (by simpa using h))
def kL (z:Str) (p c:Int) (k:Nat):Str:=qK z none (some p)++(⟨#[An (c/1638+7*(k:Int))]⟩:Str)++qK z (some (p+1)) none
def KS (z:Str) (p c:Int) (k:Nat):(kL z p c k).cps.toList=(qK z none (some p)).cps.toList++An (c/1638+7*(k:Int))::(qK z (some (p+1)) none).cps.toList:=by
 unfold kL;rw [pI,pI];simp
def Pk {z:Str} (h:js z) (p c:Int) (k:Nat):js (kL z p c k):=fun x I=>by
 rw [KS] at I;rcases MK.mp I with q|q
 .exact h x (BS q)
 .rcases rW.mp q with q|q
  .rw [q];exact CN _
  .exact h x (BS q)
def Ni {z:Str} {p c:Int} {k:Nat} (h:okN (kL z p c k)=false):okN (kL z p c (k+1))=true:=by
 cases e:okN (kL z p c (k+1)) with
 | true=>rfl
 | false =>
  have h1:=Go h;have h2:=Go e;rw [KS] at h1 h2;have I:=Jn h2 h1;rw [show c/1638+7*(((k+1:Nat):Int))=(c/1638+7*(k:Int))+7 by push_cast;lia] at I;exact absurd I (F2 _)
abbrev FN (c:Int) (m z4:D) (z:Str) (p:Int) (fs:acH) (k:Nat) (o7 I J:Option D):Sd:=[some (.int c),some m,some z4,some (.str z),some (.int p),some (.lst (fs.map D.str)),some (.int (k:Int)),o7,I,J]
def F0 {c p:Int} {m z4:D} {z:Str} (hz:z.length<=8) (fs:acH) (k:Nat) (hf:fs.length < 100) (o7 J I:Option D):∃ Y p8 p9,NB (FN c m z4 z p fs k o7 J I)=.ok (.nx (FN c m z4 z p (if okN (kL z p c k)=true then fs++[kL z p c k] else fs) (k+1) Y p8 p9)):=by
 have l1:=xM z none (some p);have l2:=xM z (some (p+1)) none;have l3:(⟨#[An (c/1638+7*(k:Int))]⟩:Str).length=1:=rfl;refine ⟨some (.str ⟨#[An (c/1638+7*(k:Int))]⟩),some (.str (kL z p c k)),some (.lst (ws.map D.str)),?_⟩;have L:aZ 7 (aw bT (vC (.str "abcdefghijklmnopqrstuvwxyz")) (aw bB (aw bw (aw cG (ah 0) (vC (.int 1638))) (aw dQ Mo (ah 6))) (vC (.int 26)))) (FN c m z4 z p fs k o7 J I)=.ok (.nx (FN c m z4 z p fs k (some (.str ⟨#[An (c/1638+7*(k:Int))]⟩)) J I)) :=
  aI (ai rfl (bA (bP (cb rfl rfl) (ai rfl rfl (vh (by decide)))) rfl) (Mv (by trivial) (K7 _)))
 have e8:aZ 8 (aw bw (aw bw (Ak tR (ah 3) lf (ii (ah 4))) (ah 7)) (Ak tR (ah 3) (ii (aw bw (ah 4) cQ)) lf)) (FN c m z4 z p fs k (some (.str ⟨#[An (c/1638+7*(k:Int))]⟩)) J I)=.ok (.nx (FN c m z4 z p fs k (some (.str ⟨#[An (c/1638+7*(k:Int))]⟩)) (some (.str (kL z p c k))) I)) :=
  aI (ai (ai (mV rfl rfl (dM rfl) (QA.trans (acA (by lia)))) rfl (E8.trans (acA (by lia)))) (mV rfl (dM (bP rfl rfl)) rfl (QA.trans (acA (by lia)))) (E8.trans (acA (by rw [Jl];lia))))
 refine (av L).trans ((av e8).trans ((av (aI (cf (ac rfl (ac rfl (ac rfl (ac rfl (ac rfl (ac rfl (ac rfl (ac rfl (ac rfl (ac rfl rfl))))))))))))).trans ?_));have q:(qy (bR (aw pX (ah 8) (vC (.str "where")))) (bR (aw pK (ah 8) (ah 9)))) (FN c m z4 z p fs k (some (.str ⟨#[An (c/1638+7*(k:Int))]⟩)) (some (.str (kL z p c k))) (some (.lst (ws.map D.str))))=.ok (okN (kL z p c k)):=by
  unfold okN;by_cases e:kL z p c k="where"
  .refine (sL (aJ (ai rfl rfl (Dc.trans (by rw [acD e];rfl))))).trans ?_;rw [acD e];rfl
  .refine (mF (aJ (ai rfl rfl (Dc.trans (by rw [acC e];rfl)))) (aJ (ai rfl rfl rfl))).trans ?_;rw [acC e];rfl
 cases e:okN (kL z p c k) with
 | true =>
  rw [e] at q;rw [acA rfl];refine (av ((br q).trans (kM rfl rfl (by rw [eQ];lia)))).trans ((aI (bP rfl rfl)).trans ?_);show R.ok (Fl.nx [_,_,_,_,_,some (D.lst (fs.map D.str++[D.str (kL z p c k)])),_,_,_,_])=_;rw [show fs.map D.str++[D.str (kL z p c k)]=(fs++[kL z p c k]).map D.str by simp];rfl
 | false =>
  rw [e] at q;rw [acB iF];exact (av ((jW q).trans rfl)).trans ((aI (bP rfl rfl)).trans rfl)
def xt {c p:Int} {m:Nat} {z4:D} {z:Str} (hz:z.length<=8) (hk:js z) (hm:m<=8):∀ (r f:Nat) (fs:acH) (k:Nat) (o7 J I:Option D),fs.length+r=m->2*r < f->(∀ y∈fs,js y) ->
  ∃ ns k' Y p8 p9,bI NT NB f (FN c (.int (m:Int)) z4 z p fs k o7 J I)=.ok (.nx (FN c (.int (m:Int)) z4 z p ns k' Y p8 p9))/\ns.length=m/\∀ y∈ns,js y
 | 0,f+1,fs,k,o7,J,I,e,_,hy=>⟨fs,k,o7,J,I,sZ (aJ (ai (bS rfl (m6 _ _)) rfl (mz.trans (by rw [acC (by lia)])))),e,hy⟩
 | r+1,f+2,fs,k,o7,J,I,e,hf,hy=>by
  have q:NT (FN c (.int (m:Int)) z4 z p fs k o7 J I)=.ok true:=aJ (ai (bS rfl (m6 _ _)) rfl (mz.trans (by rw [acD (by lia)])));obtain ⟨Y,p8,p9,t⟩:=F0 (c:=c) (p:=p) (m:=.int (m:Int)) (z4:=z4) hz fs k (by lia) o7 J I;rw [nK q t];have L:∀ j,∀ y∈fs++[kL z p c j],js y:=fun j y h=>by
   rcases MK.mp h with h|h
   .exact hy y h
   .rw [Ws.mp h];exact Pk hk _ _ _
  cases ho:okN (kL z p c k) with
  | true =>
   rw [acA rfl];exact xt hz hk hm r (f+1) (fs++[kL z p c k]) (k+1) Y p8 p9 (by simp;lia) (by lia) (L k)
  | false =>
   rw [acB iF];have q:NT (FN c (.int (m:Int)) z4 z p fs (k+1) Y p8 p9)=.ok true:=aJ (ai (bS rfl (m6 _ _)) rfl (mz.trans (by rw [acD (by lia)])));obtain ⟨r7,r8,r9,t⟩:=F0 (c:=c) (p:=p) (m:=.int (m:Int)) (z4:=z4) hz fs (k+1) (by lia) Y p8 p9;rw [nK q t,acA (Ni ho)];exact xt hz hk hm r f (fs++[kL z p c (k+1)]) (k+1+1) r7 r8 r9 (by simp;lia) (by lia) (L (k+1))
def Kw {α:FA} {U:Sd} {ds:acO} {g:Str->acO->R D} {z:Str} {r:R D} (h:α U=.ok ds) (hj:g z ds=r):QS g (vC (.str z)) α U=r:=by
 rw [UH];show (UU g _ _ (.str z))=_;rw [U5,h,aF,hj]
def FR (f:Nat->Nat) (n:Nat) (hn:n<=1000):∃ z:Str,uD "" [.lst ((Yc n).map fun (k:Nat)=>D.str ⟨#[f k]⟩)]=.ok (.str z)/\z.cps.toList=(Yc n).map f:=by
 have I:((Yc n).map fun (k:Nat)=>(⟨#[f k]⟩:Str))=(((Yc n).map f).map fun c=>(⟨#[c]⟩:Str)):=by rw [WL];rfl
 have J:(WV "").length=0:=by trivial
 refine ⟨_,NU (z:="") (strs_map (fun (k:Nat)=>(⟨#[f k]⟩:Str)) (Yc n)) (by rw [I,Dp,J,eQ,eQ,XW];lia),?_⟩;rw [I,A3]
def Cz (c:Int) (m:Nat) (hm:m<=8):∃ ns:acH,jj [.int c,.int (m:Int)]=.ok (.lst (ns.map D.str))/\ns.length=m/\∀ y∈ns,js y:=by
 rw [Dq,oj];obtain ⟨n,en,hn,hn0⟩:∃ n:Nat,2+c % 7=(n:Int)/\n<=8/\0 < n:=⟨(2+c % 7).toNat,by lia,by lia,by lia⟩;obtain ⟨z,L,J⟩:=FR (fun k=>An (c/7+5*(0+(k:Int)))) n (by lia);have hz:z.length<=8:=by rw [str_len,J,eQ,XW];exact hn
 have I:js z:=fun d hd=>by
  rw [J] at hd;obtain ⟨k,_,rfl⟩:=P2.mp hd;exact CN _
 have e2:aZ 2 (aw bw tF (aw bB (ah 0) Mo)) [some (.int c),some (.int (m:Int)),none,none,none,none,none,none,none,none]=.ok (.nx [some (.int c),some (.int (m:Int)),some (.int (n:Int)),none,none,none,none,none,none,none]) :=
  (aI (bP rfl (bA rfl rfl))).trans (by rw [en];rfl)
 have Y:aZ 3 NR [some (.int c),some (.int (m:Int)),some (.int (n:Int)),none,none,none,none,none,none,none]=.ok (.nx [some (.int c),some (.int (m:Int)),some (.int (n:Int)),some (.str z),none,none,none,none,none,none]):=by
  refine aI (Kw (ac (eX (pD (n:=n) rfl (by lia)) (vn _ _ _ (fun k I=>?_) (by rw [XW];lia))) rfl) L);exact ai rfl (bA (bP (cb rfl rfl) (ai rfl rfl (vh (by decide)))) rfl) (Mv (by trivial) (K7 _))
 obtain ⟨ns,k',p7,p8,p9,e,h1,h2⟩:=xt (c:=c) (p:=c/182 % (n:Int)) (z4:=.int (n:Int)) hz I hm m 1000 [] 0 none none none (by simp) (by lia) (fun y hy=>nomatch hy)
 refine ⟨ns,aL ((av e2).trans ((av Y).trans ((av (aI (bA (cb rfl rfl) rfl (by lia)))).trans ((av (dj (cf rfl))).trans ((av (aI rfl)).trans ((av e).trans (aD rfl))))))),h1,h2⟩
def Ir (c:Int):kn [.int c]=.ok (.str ⟨#[rL c]⟩):=by
 rw [Ag,kh];exact aL ((av (aI rfl)).trans ((av (aI (ai rfl rfl (E8.trans (acA (by trivial)))))).trans (aD (ai rfl (bA rfl rfl) (Mv (by trivial) (MT c))))))
def IZ (c st:Int) (n:Nat) (hn:n<=40) (J:-(2 ^ 64) < st/\st < 2 ^ 64):∃ z:Str,TJ [some (.int c),some (.int (n:Int)),some (.int st)]=.ok (.str z)/\Vl 40 (.str z):=by
 obtain ⟨z,L,I⟩:=FR (fun k=>rL (c/1476+st*(0+(k:Int)))) n (by lia);refine ⟨z,Kw (ac (eX (pD (n:=n) rfl (by lia)) (vn _ _ _ (fun k Y=>?_) (by rw [XW];lia))) rfl) L,by rw [str_len,I,eQ,XW];exact hn,fun d hd=>?_⟩
 .exact aq (ac (bP (cb rfl rfl) (ai rfl rfl (vh J))) rfl) (Ir _)
 .rw [I] at hd;obtain ⟨k,_,rfl⟩:=P2.mp hd;exact Ki _
def Jk (c:Int):∃ z:Str,jZ [.int c]=.ok (.str z)/\Vl 40 (.str z):=by
 rw [zb,jS];obtain ⟨st,Y,J⟩:∃ st:Int,bT (.lst [.int 0,.int 1,.int 7]) (.int (c/492 % 3))=.ok (.int st)/\(-(2 ^ 64) < st/\st < 2 ^ 64):=by
  rcases (show c/492 % 3=0\/c/492 % 3=1\/c/492 % 3=2 by lia) with e|e|e <;> rw [e]
  .exact ⟨_,tY,by decide⟩
  .exact ⟨_,Ho,by decide⟩
  .exact ⟨_,KZ,by decide⟩
 have q:bR (aw eI (aw bB (aw cG (ah 0) ET) CI) cQ) [some (.int c),some (.int (c % 4)),none]=.ok (decide (c/4 % 3=1)):=kI (bA (cb rfl rfl) rfl) rfl;obtain ⟨n,hn,I⟩:∃ n:Nat,n<=40/\∀ T:FS,aB (aZ 1 (aw bB (ah 0) ET)) (aB (gm (bR (aw eI (aw bB (aw cG (ah 0) ET) CI) cQ)) (aZ 1 (aw bB (aw cG (ah 0) IP) (vC (.int 41)))) bu) T) [some (.int c),none,none]=T [some (.int c),some (.int (n:Int)),none]:=by
  by_cases h:c/4 % 3=1
  .rw [acD h] at q;refine ⟨(c/12 % 41).toNat,by lia,fun T=>?_⟩;rw [show (((c/12 % 41).toNat:Nat):Int)=c/12 % 41 by lia];exact (av (aI (bA rfl rfl))).trans (av ((br q).trans (aI (bA (cb rfl rfl) rfl))))
  .rw [acC h] at q;refine ⟨(c % 4).toNat,by lia,fun T=>?_⟩;rw [show (((c % 4).toNat:Nat):Int)=c % 4 by lia];exact (av (aI (bA rfl rfl))).trans (skip q)
 obtain ⟨z,L,hz⟩:=IZ c st n hn J;exact ⟨z,aL ((I _).trans ((av (aI (ai (cf (ac rfl (ac rfl (ac rfl rfl)))) (bA (cb rfl rfl) rfl) Y))).trans (aD L))),hz⟩
def zT (lo:Int) (n:Nat):eh lo (n+1)=.int lo::eh (lo+1) n:=by
 unfold eh;rw [aa4,lE,WL];refine congr (acF List.cons (by simp)) (XA fun k _=>?_);show D.int (lo+((k+1:Nat):Int))=_;congr 1
 push_cast
 lia
def TB {k:Nat} (h:k < 8):∃ j:Int,bT (.lst [.int 4,.int 8,.int 16,.int 32,.int 64,.int 128,.int 256,.int 512]) (.int (k:Int))=.ok (.int j)/\0 < j/\j < 1073741824:=by
 rcases (show k=0\/k=1\/k=2\/k=3\/k=4\/k=5\/k=6\/k=7 by lia) with rfl|rfl|rfl|rfl|rfl|rfl|rfl|rfl <;> exact ⟨_,rg (cz rfl),by decide⟩
def RS {i:Int} (I:0<=i) (h1:i < 8):∃ m:Nat,bT (.lst [.int 1,.int 2,.int 3,.int 4,.int 1,.int 2,.int 8,.int 5]) (.int i)=.ok (.int (m:Int))/\1<=m/\m<=8:=by
 rcases (show i=0\/i=1\/i=2\/i=3\/i=4\/i=5\/i=6\/i=7 by lia) with rfl|rfl|rfl|rfl|rfl|rfl|rfl|rfl
 .exact ⟨1,tY,by decide⟩
 .exact ⟨2,Ho,by decide⟩
 .exact ⟨3,KZ,by decide⟩
 .exact ⟨4,Sh,by decide⟩
 .exact ⟨1,SK,by decide⟩
 .exact ⟨2,SU,by decide⟩
 .exact ⟨8,Qr,by decide⟩
 .exact ⟨5,Qa,by decide⟩
def OL {i:Int} (I:0<=i) (h1:i < 2):∃ z:Str,bT (.lst [.str "number",.str "text"]) (.int i)=.ok (.str z)/\js z:=by
 rcases (show i=0\/i=1 by lia) with rfl|rfl
 .exact ⟨_,tY,by unfold js;decide +kernel⟩
 .exact ⟨_,Ho,by unfold js;decide +kernel⟩
def CG {nm:D} {c:Int} {ns:acH} (hn:ns.length<=8) (ht:∀ y∈ns,js y):∀ (n k:Nat) (J:List (Str×Str)) (o4 o5:Option D),k+n=ns.length->J.length=k->(∀ q∈J,js q.1/\js q.2) ->
  ∃ (I:List (Str×Str)) (L Y:Option D),dm (.one 4) SB (eh (k:Int) n) [some nm,some (.int c),some (.lst (ns.map D.str)),some (.lst (J.map jQ)),o4,o5]=.ok (.nx [some nm,some (.int c),some (.lst (ns.map D.str)),some (.lst (I.map jQ)),L,Y])/\I.length=ns.length/\∀ q∈I,js q.1/\js q.2
 | 0,k,J,o4,o5,e,l,h=>⟨J,o4,o5,rfl,by lia,h⟩
 | n+1,k,J,o4,o5,e,l,h=>by
  obtain ⟨j,ej,h1,h2⟩:=TB (k:=k) (by lia);obtain ⟨z,ez,hz⟩:=OL (i:=c/j % 2) (by lia) (by lia);have hk:k < ns.length:=by lia
  have ey:ns[k]?=some ns[k]:=oR hk;obtain ⟨I,L,Y,e',l',h'⟩:=CG (nm:=nm) (c:=c) hn ht n (k+1) (J++[(ns[k],z)]) (some (.int (k:Int))) (some (.str z)) (by lia) (by simp;lia) fun q hq=>by
   rcases MK.mp hq with g|g
   .exact h q g
   .rw [Ws.mp g];exact ⟨ht _ (WM hk),hz⟩
  refine ⟨I,L,Y,?_,l',h'⟩;have t:SB (Zm [some nm,some (.int c),some (.lst (ns.map D.str)),some (.lst (J.map jQ)),o4,o5] 4 (some (.int (k:Int))))=.ok (.nx [some nm,some (.int c),some (.lst (ns.map D.str)),some (.lst (J.map jQ++[jQ (ns[k],z)])),some (.int (k:Int)),some (.str z)]) :=
   (av (aI (ai (cf (ac rfl (ac rfl rfl))) (bA (cb rfl (ai (cf (ac rfl (ac rfl (ac rfl (ac rfl (ac rfl (ac rfl (ac rfl (ac rfl rfl))))))))) rfl ej) ⟨h1,h2⟩) rfl) ez))).trans
    ((kM rfl (bN (ac (ai rfl rfl (tG _ _ ey)) (ac rfl rfl))) (by rw [eQ];lia)).trans rfl)
  rw [zT,dr t,show J.map jQ++[jQ (ns[k],z)]=(J++[(ns[k],z)]).map jQ by simp,show (k:Int)+1=((k+1:Nat):Int) by push_cast;rfl];exact e'
def Bv {nm:Str} (hn:js nm) (c:Int):∃ I:List (Str×Str),gj [.str nm,.int c]=.ok (vJ nm I)/\ShOk nm I/\1<=I.length/\I.length<=8:=by
 rw [yk,iS];obtain ⟨m,L,h1,h2⟩:=RS (i:=c % 8) (by lia) (by lia);obtain ⟨ns,en,Y,tn⟩:=Cz (c/16) m h2;obtain ⟨I,o4,o5,e,l,h⟩:=CG (nm:=.str nm) (c:=c) (ns:=ns) (by lia) tn ns.length 0 [] none none (by lia) rfl fun q J=>nomatch J
 refine ⟨I,aL ((av (aI (aq (ac (cb rfl rfl) (ac (ai (cf (ac rfl (ac rfl (ac rfl (ac rfl (ac rfl (ac rfl (ac rfl (ac rfl rfl))))))))) (bA rfl rfl) L) rfl)) en))).trans ((av (dj (cf rfl))).trans ((av (gE (pD (n:=ns.length) (bS rfl (m6 _ _)) (by lia)) e)).trans (aD (bN (ac rfl (ac (aq (ac rfl rfl) u5) rfl))))))),⟨hn,h⟩,by lia,by lia⟩
def p12 {U:Sd}:aw vo zI IP U=.ok (.int 1000000000000):=ai rfl rfl ((Fp (by decide)).trans rfl)
def Np {φ ψ:FE} {U:Sd} {a b:Str} (h1:φ U=.ok (.str a)) (h2:ψ U=.ok (.str b)):bR (aw eI φ ψ) U=.ok (decide (a=b)):=aJ (ai h1 h2 fz)
abbrev Qo (s:D) (c:Int) (rw_:acO) (I:Int) (q:Str×Str) (x:Int):Sd:=[some s,some (.int c),some (.lst rw_),some (.int I),some (jQ q),some (.int x)]
def IU {s:D} {c w:Int} {rw_:acO} {q:Str×Str} {o5:Option D} (hl:rw_.length < 1000):∃ v I o5',Vl 40 v/\RB [some s,some (.int c),some (.lst rw_),some (.int w),some (jQ q),o5]=.ok (.nx [some s,some (.int c),some (.lst (rw_++[v])),some (.int I),some (jQ q),o5']):=by
 have hd:∀ T:FS,aB (aZ 3 (aw bB (aw bw (aw dQ (ah 3) i7) (vC (.int 11))) iW)) (aB (aZ 5 (aw cG (ah 3) (vC (.int 641)))) T) [some s,some (.int c),some (.lst rw_),some (.int w),some (jQ q),o5]=T [some s,some (.int c),some (.lst rw_),some (.int ((w*48271+11) % 2147483647)),some (jQ q),some (.int ((w*48271+11) % 2147483647/641))]:=fun T =>
  (av (aI (bA (bP (kH rfl rfl) rfl) rfl))).trans (av (aI (cb rfl rfl)))
 rw [show RB=aB (aZ 3 (aw bB (aw bw (aw dQ (ah 3) i7) (vC (.int 11))) iW)) (aB (aZ 5 (aw cG (ah 3) (vC (.int 641)))) _) from rfl,hd];generalize (w*48271+11) % 2147483647=I;generalize I/641=x;have q1:wu (bR (aw eI (aw bB (ah 5) rP) i4)) (bR (aw eI (aw bB (ah 1) vD) rP)) (Qo s c rw_ I q x)=.ok (decide (x % 5=0)||decide (c % 16=5)):=by
  have Y:bR (aw eI (aw bB (ah 5) rP) i4) (Qo s c rw_ I q x)=.ok (decide (x % 5=0)):=kI (bA rfl rfl) rfl;have a2:bR (aw eI (aw bB (ah 1) vD) rP) (Qo s c rw_ I q x)=.ok (decide (c % 16=5)):=kI (bA rfl rfl) rfl;cases e:decide (x % 5=0) with
  | true=>rw [e] at Y;exact Mp Y
  | false=>rw [e] at Y;exact mP Y a2
 cases e1:(decide (x % 5=0)||decide (c % 16=5)) with
 | true=>rw [e1] at q1;exact ⟨.non,I,some (.int x),XQ,(br q1).trans (kM rfl rfl hl)⟩
 | false =>
  rw [e1] at q1;rw [jW q1];have J:bR (aw eI (uI 4 1) (vC (.str "text"))) (Qo s c rw_ I q x)=.ok (decide (q.2="text")):=Np (ai rfl rfl bj) rfl;cases e2:decide (q.2="text") with
  | true =>
   rw [e2] at J;obtain ⟨z,ez,hz⟩:=Jk (x/5);exact ⟨.str z,I,some (.int x),hz,(br J).trans (kM rfl (aq (ac (cb rfl rfl) rfl) ez) hl)⟩
  | false =>
   rw [e2] at J;rw [jW J];have L:bR (aw eI (aw bB (aw cG (ah 5) rP) CI) i4) (Qo s c rw_ I q x)=.ok (decide (x/5 % 3=0)):=kI (bA (cb rfl rfl) rfl) rfl;cases e3:decide (x/5 % 3=0) with
   | true =>
    rw [e3] at L;exact ⟨.int _,I,some (.int x),XQ,(br L).trans (kM rfl (bP (pC (bA (kH rfl (bP p12 rfl)) (pC (ai rfl K0 (vh (by decide))) rfl)) K0) rfl) hl)⟩
   | false =>
    rw [e3] at L;exact ⟨.int _,I,some (.int x),XQ,(jW L).trans (kM rfl (pC (bA (cb rfl rfl) rfl) rfl) hl)⟩
def Cd {s:D} {c:Int}:∀ (Y:List (Str×Str)) (r:acO) (w:Int) (o4 o5:Option D),r.length+Y.length<=8->(∀ v∈r,Vl 40 v) ->
  ∃ L w' I J,dm (.one 4) RB (Y.map jQ) [some s,some (.int c),some (.lst r),some (.int w),o4,o5]=.ok (.nx [some s,some (.int c),some (.lst L),some (.int w'),I,J])/\L.length=r.length+Y.length/\∀ v∈L,Vl 40 v
 | [],r,w,o4,o5,_,h=>⟨r,w,o4,o5,rfl,rfl,h⟩
 | q::Y,r,w,o4,o5,hl,h=>by
  rw [RW] at hl;obtain ⟨v,w',J,hv,t⟩:=IU (s:=s) (c:=c) (w:=w) (rw_:=r) (q:=q) (o5:=o5) (by lia);obtain ⟨L,w2,I,o52,e,l,h'⟩:=Cd (s:=s) (c:=c) Y (r++[v]) w' (some (jQ q)) J (by simp;lia) fun x hx=>by
   rcases MK.mp hx with g|g
   .exact h x g
   .rw [Ws.mp g];exact hv
  refine ⟨L,w2,I,o52,?_,by rw [l];simp;lia,h'⟩;have t:RB (Zm [some s,some (.int c),some (.lst r),some (.int w),o4,o5] 4 (some (jQ q)))=_:=t;rw [lE,dr t];exact e
def yO {nm:Str} {I:List (Str×Str)} (L:I.length<=8) (c:Int):∃ r,fe [vJ nm I,.int c]=.ok (.tup r)/\RowOk I.length r:=by
 rw [AR,mx];obtain ⟨r,w,o4,o5,e,l,h⟩:=Cd (s:=vJ nm I) (c:=c) I [] ((c*69621+7) % 2147483647) none none (by simpa using L) fun v J=>nomatch J
 exact ⟨r,aL ((av (dj (cf rfl))).trans ((av (aI (bA (bP (kH rfl rfl) rfl) rfl))).trans ((av (gE (m5 (ai rfl rfl bj) rfl) e)).trans (aD (aq (ac rfl rfl) u5))))),by simpa using l,h⟩
def zt (rs:List dC):vp [.dcf (a7 rs)]=.ok (.lst ((rs.map BY).map D.int)):=by
 show R.ok (D.lst ((a7 rs).map fun q=>mS q.1))=_;rw [re,WL];rfl
def zR (rs:List dC):wC [.dcf (a7 rs)]=.ok (.int (rs.length:Int)):=by
 show R.ok (D.int ((a7 rs).length:Int))=_;unfold a7;rw [eQ]
def GK {rs:List dC} (hl:rs.length<=600) (c:Int):∃ n:Int,jz [.int c,.dcf (a7 rs)]=.ok (.int n):=by
 rw [Bh,l5];have I:bR (aw Fy (ao wC (ae (ah 1) ap)) i4) [some (.int c),some (.dcf (a7 rs))]=.ok (decide ((rs.length:Int) > 0)):=aJ (ai (aq (ac rfl rfl) (zR rs)) rfl rfl);have J:bR (aw vL (aw bB (ah 0) rP) tF) [some (.int c),some (.dcf (a7 rs))]=.ok (decide (c % 5 < 2)):=aJ (ai (bA rfl rfl) rfl mz);have Y:bR (aw eI (aw bB (ah 0) rP) tF) [some (.int c),some (.dcf (a7 rs))]=.ok (decide (c % 5=2)):=kI (bA rfl rfl) rfl;have no:∃ n:Int,fin (aB (gm (bR (aw eI (aw bB (ah 0) rP) tF)) (bh (aw bw cQ (aw bB (aw cG (ah 0) rP) (aw vo zI Ts)))) bu) (bh (aw bw cQ (aw bB (aw cG (ah 0) rP) Dw))) [some (.int c),some (.dcf (a7 rs))])=.ok (.int n):=by
  cases e3:decide (c % 5=2) with
  | true=>rw [e3] at Y;exact ⟨_,aL (bV ((br Y).trans (aD (bP rfl (bA (cb rfl rfl) Uv)))))⟩
  | false=>rw [e3] at Y;exact ⟨_,aL ((skip Y).trans (aD (bP rfl (bA (cb rfl rfl) rfl))))⟩
 cases e1:decide ((rs.length:Int) > 0) with
 | false=>rw [e1] at I;rw [skip (sL I)];exact no
 | true =>
  rw [e1] at I;cases e2:decide (c % 5 < 2) with
  | false=>rw [e2] at J;rw [skip (mF I J)];exact no
  | true =>
   rw [e2] at J;have hp:(0:Int) < (rs.length:Int):=acE e1;obtain ⟨L,eL,hL⟩:=yZ (ns:=rs.map BY) (by rw [eQ];lia);have lL:L.length=rs.length:=by rw [hL.length_eq,eQ]
   have g0:=abh (c/5) (show (rs.length:Int)≠0 by lia);have g1:=aaa (c/5) hp;obtain ⟨j,ej⟩:∃ j:Nat,c/5 % (rs.length:Int)=(j:Int):=⟨(c/5 % (rs.length:Int)).toNat,by lia⟩;have hj:j < L.length:=by lia
   refine ⟨L[j],aL (bV ((br (mF I J)).trans (aD (ai (aq (ac (aq (ac rfl rfl) (zt rs)) rfl) (show tK [_]=_ from eL)) ((bA (cb rfl rfl) (aq (ac rfl rfl) (zR rs)) hp).trans (by rw [ej])) (tG D.int L (oR hj))))))⟩
abbrev SI:FS:=(aB (gm (bR (aw eI (aw bB (ah 3) Cc) cQ)) (aB (aZ 7 (aw bT (aw bT (uI 4 1) (aw bB (aw cG (ah 3) Cc) (ao cy (ae (uI 4 1) ap)))) i4)) (gm (bR (aw pK (ah 7) (ah 2))) (Ap 6 (bh (dt (ae (ao gg (ae (ah 0) (ae (ah 7) ap))) (ae (ah 6) (ae (aw bw (ah 2) (eR (ae (ah 7) ap))) ap)))))) bu)) bu) (aB (mH 6 (ah 5) (ao fe (ae (ah 4) (ae (ah 3) ap)))) (Ap 6 (bh (dt (ae (ao gA (ae (ah 0) (ae (ah 5) (ae (aw mO (ah 6) (ah 5)) ap)))) (ae (ah 6) (ae (ah 2) ap))))))))
def Aa {m:Nat} {rs:List dC} (h:RsOk m rs) (n:Int) {x:acO} (I:RowOk m x):cL (mN rs n x) n=some x :=
 oA (q:=(n,x)) (BQ h I).nd ((lC h n x).mem_iff.mpr OR)
def tZ:∀ ss:acH,cX (ss.map D.str)=some (ss.map V.str)
 | []=>rfl
 | z::r=>by
  rw [lE,cX,tZ r];rfl
def CL (z:Str):∀ ss:acH,CS (.str z) (ss.map V.str)=decide (z∈ss)
 | []=>rfl
 | y::r=>by
  have e:CS (.str z) ((y::r).map V.str)=((y==z)||CS (.str z) (r.map V.str)):=rfl;rw [e,CL z r];by_cases h:z=y
  .subst h;simp
  .have h':¬ y=z:=fun e=>h e.symm;simp [h,h']
def G4 (z:Str) (ss:acH):pK (.str z) (.lst (ss.map D.str))=.ok (.bl (!decide (z∈ss))):=by
 rw [<- CL];show gG (match fh (.str z),cX (ss.map D.str) with
  | some v,some vs=>some (CS v vs)
  | _,_=>none) _=_
 rw [tZ];rfl
def tJ (nm:Str) (I:List (Str×Str)) (p:List dC×List (Str×D)):D:=.tup [lP nm I p.1 p.2,.dcf (a7 p.1),.lst ((p.2.map BY).map D.str)]
structure Gd (k:Nat) (cs:List (Str×Str)) (p:List dC×List (Str×D)):Prop where
 t:TbOk cs p.1 p.2
 r:p.1.length<=k
 i:p.2.length<=k
def Gd.mono {k m:Nat} {J:List (Str×Str)} {p:List dC×List (Str×D)} (h:Gd k J p) (I:k<=m):Gd m J p:=⟨h.t,IF h.r I,IF h.i I⟩
abbrev IX (nm:Str) (I:List (Str×Str)) (p:List dC×List (Str×D)) (c n:Int) (o:Option D):Sd:=[some (lP nm I p.1 p.2),some (.dcf (a7 p.1)),some (.lst ((p.2.map BY).map D.str)),some (.int c),some (vJ nm I),some (.int n),some (.dct (a7 p.1)),o]
def MH {nm:Str} {J:List (Str×Str)} {p:List dC×List (Str×D)} {k:Nat} {n c:Int} {o7:Option D} (h:Gd k J p) (hk:k<=600) (hi:p.2.length<=100) (hc:J.length<=8) :
  ∃ L,SP (IX nm J p c n o7)=.ok (.rt (tJ nm J L))/\Gd (k+1) J L/\L.2.length=p.2.length:=by
 obtain ⟨x,ex,Y⟩:=yO (nm:=nm) hc c;have hr:=h.r;obtain ⟨I,ew,ei,ho⟩:=zm (nm:=nm) (n:=n) h.t Y (by lia) hi;have li:I.length=p.2.length:=by have:=acF acn ei;simpa using this
 refine ⟨(mN p.1 n x,I),?_,⟨ho,IF (yL h.t.r n x) (by lia),by show I.length<=_;have:=h.i;lia⟩,li⟩;refine (av (oz rfl (aq (ac rfl (ac rfl rfl)) ex) rfl rfl (by unfold a7;rw [eQ];lia))).trans ((mt rfl).trans ?_);refine (aD (bN (ac (aq (ac rfl (ac rfl (ac (ai rfl rfl ?_) rfl))) ew) (ac rfl (ac rfl rfl))))).trans ?_
 .show mO (.dcf (nQ (a7 p.1) (.inl n) (.tup x))) (.int n)=_;rw [p0];exact xk (Aa h.t.r n Y)
 .show R.ok (Fl.rt (.tup [_,.dcf (nQ (a7 p.1) (.inl n) (.tup x)),.lst ((p.2.map BY).map D.str)]))=_;rw [p0,<- ei];rfl
def ML {nm:Str} {I:List (Str×Str)} {p:List dC×List (Str×D)} {k:Nat} (c:Int) (h:Gd k I p) (hk:k<=600) (hi:p.2.length < 100) (hc:I.length<=8) (hc0:1<=I.length) :
  ∃ J,ni [lP nm I p.1 p.2,.dcf (a7 p.1),.lst ((p.2.map BY).map D.str),.int c]=.ok (tJ nm I J)/\Gd (k+1) I J/\J.2.length<=p.2.length+1:=by
 rw [Fu,qp];have hr:=h.r;obtain ⟨n,en⟩:=GK (rs:=p.1) (by lia) (c/8);have s1:∀ T:FS,aB (aZ 4 (fY "Table" "shape" (ah 0))) (aB (aZ 5 (ao jz (ae (aw cG (ah 3) Cc) (ae (ah 1) ap)))) (aB (jH 6 (ao zo (ae (ah 1) ap))) T))
   [some (lP nm I p.1 p.2),some (.dcf (a7 p.1)),some (.lst ((p.2.map BY).map D.str)),some (.int c),none,none,none,none]=T (IX nm I p c n none):=fun T =>
  (av (aI (b7 rfl sV))).trans ((av (aI (aq (ac (cb rfl rfl) (ac rfl rfl)) en))).trans (av (dj (aq (ac rfl rfl) yA))))
 have put:∀ o7:Option D,∃ J,fin (SP (IX nm I p c n o7))=.ok (tJ nm I J)/\Gd (k+1) I J/\J.2.length<=p.2.length+1:=fun o7=>by
  obtain ⟨J,e,g,l⟩:=MH (nm:=nm) (n:=n) (c:=c) (o7:=o7) h hk (by lia) hc;exact ⟨J,aL e,g,by lia⟩
 rw [s1];have ix:∃ J,fin (SI (IX nm I p c n none))=.ok (tJ nm I J)/\Gd (k+1) I J/\J.2.length<=p.2.length+1:=by
  have q:bR (aw eI (aw bB (ah 3) Cc) cQ) (IX nm I p c n none)=.ok (decide (c % 8=1)):=kI (bA rfl rfl) rfl;cases e1:decide (c % 8=1) with
  | false=>rw [e1] at q;rw [SI,skip q];exact put none
  | true =>
   rw [e1] at q;have hp:(0:Int) < (I.length:Int):=by lia
   have g0:=abh (c/8) (show (I.length:Int)≠0 by lia);have g1:=aaa (c/8) hp;obtain ⟨j,ej⟩:∃ j:Nat,c/8 % (I.length:Int)=(j:Int):=⟨(c/8 % (I.length:Int)).toNat,by lia⟩;have hj:j < I.length:=by lia
   have e7:aw bT (aw bT (uI 4 1) (aw bB (aw cG (ah 3) Cc) (ao cy (ae (uI 4 1) ap)))) i4 (IX nm I p c n none)=.ok (.str I[j].1) :=
    ai (ai (ai rfl rfl bj) ((bA (cb rfl rfl) (bS (ai rfl rfl bj) (rN _ _)) hp).trans (by rw [ej])) (Nl jQ I (oR hj))) rfl bb
   have hm:I[j].1∈I.map BY:=P2.mpr ⟨I[j],WM hj,rfl⟩;generalize I[j].1=cn at e7 hm;have q2:bR (aw pK (ah 7) (ah 2)) (IX nm I p c n (some (.str cn)))=.ok (!decide (cn∈p.2.map BY)):=aJ (ai rfl rfl (G4 _ _));by_cases Y:cn∈p.2.map BY
   .rw [acD Y] at q2;obtain ⟨J,e,g,l⟩:=put (some (.str cn));exact ⟨J,(acF fin (av ((br q).trans ((av (aI e7)).trans ((jW q2).trans rfl))))).trans e,g,l⟩
   .rw [acC Y] at q2;obtain ⟨d,ew,ho⟩:=AO (nm:=nm) h.t (by lia) (by lia) hm Y;refine ⟨(p.1,p.2++[(cn,d)]),aL (bV ((br q).trans ((av (aI e7)).trans ((br q2).trans ((mt rfl).trans ?_))))),⟨ho,XU hr,by simp;exact h.i⟩,by simp⟩;refine (aD (bN (ac (aq (ac rfl (ac rfl rfl)) ew) (ac rfl (ac (ai rfl (cf (ac rfl rfl)) (AH D.str (ys:=[cn]) (by rw [eQ];simp;lia))) rfl))))).trans ?_;unfold tJ;simp
 have qa:bR (aw eI (aw bB (ah 3) Cc) i4) (IX nm I p c n none)=.ok (decide (c % 8=0)):=kI (bA rfl rfl) rfl;have qb:bR (aw Kk (ah 5) (ah 1)) (IX nm I p c n none)=.ok (cL p.1 n).isSome:=aJ (ai rfl rfl HX);cases ea:decide (c % 8=0) with
 | false=>rw [ea] at qa;rw [skip (sL qa)];exact ix
 | true =>
  rw [ea] at qa;cases eb:cL p.1 n with
  | none=>rw [eb] at qb;rw [skip (mF qa qb)];exact ix
  | some x0 =>
   rw [eb] at qb;obtain ⟨L,ew,ei,ho⟩:=yS (nm:=nm) h.t (by lia) (by lia) eb;have li:L.length=p.2.length:=by have:=acF acn ei;simpa using this
   refine ⟨(gu p.1 n,L),aL (bV ((br (mF qa qb)).trans ((av (C6 rfl rfl rfl (by rw [fJ,eb];rfl))).trans ((mt rfl).trans ((aD (bN (ac (aq (ac rfl (ac rfl rfl)) ew) (ac rfl (ac rfl rfl))))).trans ?_))))),⟨ho,?_,by show L.length<=_;have:=h.i;lia⟩,by show L.length<=_;lia⟩
   .show R.ok (Fl.rt (.tup [_,.dcf (gJ (a7 p.1) (.inl n)),.lst ((p.2.map BY).map D.str)]))=_;rw [v5,<- ei];rfl
   .exact IF (X1 _ _) (by lia)
def GI {rs:List dC} {n:Int} {x:acO} (h:cL rs n=some x):mO (.dct (a7 rs)) (.int n)=.ok (.tup x):=by
 show (match fc (a7 rs) (.inl n) with|some d=>R.ok d|none=>.no)=_
 rw [fJ,h];rfl
abbrev Tu (nm:Str) (I:List (Str×Str)) (m:D) (rs:List dC) (o:Option D):Sd:=[some (vJ nm I),some m,some (lP nm I rs []),some (.dct (a7 rs)),o]
def Cn {nm:Str} {J:List (Str×Str)} {m:D} (hc:J.length<=8):∀ (n k:Nat) (rs:List dC) (o4:Option D),k+n<=200->rs.length<=k->TbOk J rs [] ->
  ∃ I L,dm (.one 4) FB (eh (k:Int) n) (Tu nm J m rs o4)=.ok (.nx (Tu nm J m I L))/\I.length<=k+n/\TbOk J I []
 | 0,k,rs,o4,e,l,h=>⟨rs,o4,rfl,l,h⟩
 | n+1,k,rs,o4,e,l,h=>by
  obtain ⟨x,ex,hx⟩:=yO (nm:=nm) hc (7919*(k:Int));obtain ⟨Y,ew,ei,ho⟩:=zm (nm:=nm) (n:=3*(k:Int)+1) h hx (by lia) (by decide)
  have:Y=[]:=List.map_eq_nil_iff.mp ei
  subst this;obtain ⟨I,L,e',l',h'⟩:=Cn (nm:=nm) (m:=m) hc n (k+1) (mN rs (3*(k:Int)+1) x) (some (.int (k:Int))) (by lia) (IF (yL h.r _ x) (by lia)) ho;refine ⟨I,L,?_,by lia,h'⟩;have k3:∀ U:Sd,U[4]?=some (some (.int (k:Int)))->aw bw (aw dQ CI (ah 4)) cQ U=.ok (.int (3*(k:Int)+1)):=fun U hδ=>bP (ai rfl (by rw [v_var,hδ];rfl) (vh (by decide))) rfl;have a1:mH 3 (aw bw (aw dQ CI (ah 4)) cQ) (ao fe (ae (ah 0) (ae (aw dQ (vC (.int 7919)) (ah 4)) ap))) (Tu nm J m rs (some (.int (k:Int))))=.ok (.nx [some (vJ nm J),some m,some (lP nm J rs []),some (.dct (a7 (mN rs (3*(k:Int)+1) x))),some (.int (k:Int))]):=by
   refine (oz rfl (aq (ac rfl (ac (ai rfl rfl (vh (by decide))) rfl)) ex) (k3 _ rfl) rfl (by unfold a7;rw [eQ];lia)).trans ?_;rw [p0];rfl
  have t:FB (Zm (Tu nm J m rs o4) 4 (some (.int (k:Int))))=.ok (.nx [some (vJ nm J),some m,some (lP nm J (mN rs (3*(k:Int)+1) x) []),some (.dct (a7 (mN rs (3*(k:Int)+1) x))),some (.int (k:Int))]) :=
   (av a1).trans ((aI (aq (ac rfl (ac (k3 _ rfl) (ac (ai rfl (k3 _ rfl) (GI (Aa h.r _ hx))) rfl))) ew)).trans rfl)
  rw [zT,dr t,show (k:Int)+1=((k+1:Nat):Int) by push_cast;rfl];exact e'
def Fc {J:List (Str×Str)}:TbOk J [] []:=⟨⟨Yb,fun q I=>nomatch I⟩,Yb,fun q I=>nomatch I⟩
def FM {nm:Str} {I:List (Str×Str)} (J:I.length<=8) {n:Nat} (hn:n<=120):∃ rs,jy [vJ nm I,.int (n:Int)]=.ok (.lst [tJ nm I ([],[]),tJ nm I (rs,[])])/\Gd 200 I (rs,[]):=by
 rw [Bj,mh];obtain ⟨rs,o4,e,l,h⟩:=Cn (nm:=nm) (m:=.int (n:Int)) J n 0 [] none (by lia) (mK _) Fc;refine ⟨rs,J8 ((av (aI (aq (ac rfl rfl) rE))).trans ((av (dj rfl)).trans ((av (gE (pD (n:=n) rfl (by lia)) e)).trans ((mt rfl).trans (HZ ?_))))),⟨h,by show rs.length<=_;lia,WB _⟩⟩;exact cf (ac (bN (ac (aq (ac rfl rfl) rE) (ac (CY rfl) (ac (cf rfl) rfl)))) (ac (bN (ac rfl (ac rfl (ac (cf rfl) rfl)))) rfl))
abbrev As (s:D) (nm:Str) (I:List (Str×Str)) (ps:List (List dC×List (Str×D))) (o4 o5 o6:Option D):Sd:=[some s,some (.str nm),some (vJ nm I),some (.lst (ps.map (tJ nm I))),o4,o5,o6,none]
def CU {s:D} {nm:Str} {I:List (Str×Str)} (hs:ShOk nm I) (hc:I.length<=8) (hc0:1<=I.length):∀ (xs:List Int) (j k i:Nat) (ps:List (List dC×List (Str×D))) (p:List dC×List (Str×D)) (o4 o5 o6:Option D),(∀ q∈ps++[p],Gd k I q/\q.2.length<=i)->k+xs.length<=600->i+xs.length<=99->ps.length+xs.length<=900 ->
  ∃ (J:List (List dC×List (Str×D))) (p':List dC×List (Str×D)) (L o5' Y:Option D),dm (.tup [4,5]) LB (cA j (xs.map D.int)) (As s nm I (ps++[p]) o4 o5 o6)=.ok (.nx (As s nm I (J++[p']) L o5' Y))/\∀ q∈J++[p'],Gd 600 I q/\q.2.length<=99
 | [],j,k,i,ps,p,o4,o5,o6,h,h1,h2,_=>⟨ps,p,o4,o5,o6,rfl,fun q hq=>⟨(h q hq).1.mono (by simpa using h1),IF (h q hq).2 (by simpa using h2)⟩⟩
 | x::xs,j,k,i,ps,p,o4,o5,o6,h,h1,h2,h3=>by
  rw [RW] at h1 h2 h3;obtain ⟨g,gi⟩:=h p (by simp);obtain ⟨p1,e1,g1,l1⟩:=ML (nm:=nm) ((x+31*(j:Int))*48271 % 1000003) g (by lia) (by lia) hc hc0;have ei:=OO (nm:=nm) hs g.t (IF g.r (by lia)) (by lia) (by lia);obtain ⟨J,p',L,o5',Y,e,h'⟩:=CU (s:=s) hs hc hc0 xs (j+1) (k+1) (i+1) (ps++[p]) p1 (some (.int (j:Int))) (some (.int x)) (some (tJ nm I p)) (fun q hq=>by
   rcases MK.mp hq with z|z
   .exact ⟨(h q z).1.mono (by lia),XU (h q z).2⟩
   .rw [Ws.mp z];exact ⟨g1,by lia⟩) (by lia) (by lia) (by simp;lia)
  refine ⟨J,p',L,o5',Y,?_,h'⟩;have hix:bT (.lst ((ps++[p]).map (tJ nm I))) (.int (-1))=.ok (tJ nm I p):=rg (by rw [Wy];exact xU);have a1:aZ 6 (aw bT (ah 3) (JF vS cQ)) (As s nm I (ps++[p]) (some (.int (j:Int))) (some (.int x)) o6)=.ok (.nx (As s nm I (ps++[p]) (some (.int (j:Int))) (some (.int x)) (some (tJ nm I p)))):=aI (ai rfl rfl hix);have a2:cZ 3 (ao ni (ae (uI 6 0) (ae (uI 6 1) (ae (uI 6 2) (ae (aw bB (aw dQ (aw bw (ah 5) (aw dQ (vC (.int 31)) (ah 4))) i7) jl) ap))))) (As s nm I (ps++[p]) (some (.int (j:Int))) (some (.int x)) (some (tJ nm I p)))=.ok (.nx (As s nm I (ps++[p]++[p1]) (some (.int (j:Int))) (some (.int x)) (some (tJ nm I p)))):=by
   refine (kM rfl (aq (ac (ai rfl rfl bb) (ac (ai rfl rfl bj) (ac (ai rfl rfl BO) (ac (bA (kH (bP rfl (ai rfl rfl (vh (by decide)))) rfl) rfl) rfl)))) e1) (by simp;lia)).trans ?_;show R.ok (Fl.nx [_,_,_,some (.lst ((ps++[p]).map (tJ nm I)++[tJ nm I p1])),_,_,_,_])=_;rw [show (ps++[p]).map (tJ nm I)++[tJ nm I p1]=(ps++[p]++[p1]).map (tJ nm I) by simp]
  have qa:bR (aw eI (aw bB (ah 4) rP) ET) (As s nm I (ps++[p]++[p1]) (some (.int (j:Int))) (some (.int x)) (some (tJ nm I p)))=.ok (decide ((j:Int) % 5=4)):=kI (bA rfl rfl) rfl;have q:(qy (bR (aw eI (aw bB (ah 4) rP) ET)) (mR (iC (ao nP (ae (uI 6 0) (ae (ah 2) (ae (uI 6 1) (ae (uI 6 2) ap)))))))) (As s nm I (ps++[p]++[p1]) (some (.int (j:Int))) (some (.int x)) (some (tJ nm I p)))=.ok false:=by
   cases eq:decide ((j:Int) % 5=4) with
   | false=>rw [eq] at qa;exact sL qa
   | true=>rw [eq] at qa;exact mF qa (Ga (gC (aq (ac (ai rfl rfl bb) (ac rfl (ac (ai rfl rfl bj) (ac (ai rfl rfl BO) rfl)))) ei) rfl))
  have t:LB ((Zm (As s nm I (ps++[p]) o4 o5 o6) 4 (some (.int (j:Int)))).set 5 (some (.int x)))=.ok (.nx (As s nm I (ps++[p]++[p1]) (some (.int (j:Int))) (some (.int x)) (some (tJ nm I p)))):=(av a1).trans ((av a2).trans ((jW q).trans rfl));show dm (.tup [4,5]) LB (.tup [.int (j:Int),.int x]::cA (j+1) (xs.map D.int)) _=_;rw [C9 t];exact e
def Iq {nm:Str} {I:List (Str×Str)} {rs:List dC} {ids:List (Str×D)} {d:D} (e:xK ((rs.map BY).map D.int)=.ok d):iM [lP nm I rs ids]=.ok d:=by
 rw [yw,iZ];refine aL (aD (aq (ac (b7 rfl pb) rfl) ?_));show xK ((a7 rs).map fun q=>mS q.1)=_;rw [re,<- e,WL];rfl
def law_true (ns:List Int) (h:ns.length<=63):vU [.lst (ns.map D.int)]=.ok (.bl true):=by
 rw [RH,Cr];have I:∀ (j:Nat) (U:Sd),U[0]?=some (some (.lst (ns.map D.int)))->ao bF (ae (ah 0) (ae (vC (.int (j:Int))) ap)) U=.ok (.int (cell ns j)):=fun j U hδ=>aq (ac (by rw [v_var,hδ];rfl) (ac rfl rfl)) (Kd ns j (by lia));obtain ⟨n1,en,ln,tn⟩:=Cz (cell ns (0:Nat)*48271 % 1000003) 1 (by decide);obtain ⟨nm,rfl⟩:∃ nm,n1=[nm]:=XS.mp ln;obtain ⟨J,ec,hs,hc0,hc⟩:=Bv (tn nm (by simp)) (cell ns (1:Nat)*48271 % 1000003);have s1:∀ T:FS,aB (aZ 1 (aw bT (ao jj (ae (aw bB (aw dQ (ao bF (ae (ah 0) (ae i4 ap))) i7) jl) (ae cQ ap))) i4)) (aB (aZ 2 (ao gj (ae (ah 1) (ae (aw bB (aw dQ (ao bF (ae (ah 0) (ae cQ ap))) i7) jl) ap)))) (aB (jH 3 (eR (ae (dt (ae (ao dw (ae (ah 2) ap)) (ae (JH (vC (.dct []))) (ae (eR ap) ap)))) ap))) T)) [some (.lst (ns.map D.int)),none,none,none,none,none,none,none]=T (As (.lst (ns.map D.int)) nm J [([],[])] none none none):=fun T =>
  (av (aI (ai (aq (ac (bA (kH (I 0 _ rfl) rfl) rfl) (ac rfl rfl)) en) rfl tY))).trans
   ((av (aI (aq (ac rfl (ac (bA (kH (I 1 _ rfl) rfl) rfl) rfl)) ec))).trans
    ((av (dj (cf (ac (bN (ac (aq (ac rfl rfl) rE) (ac (CY rfl) (ac (cf rfl) rfl)))) rfl)))).trans rfl))
 rw [s1];have g0:Gd 200 J ([],[]):=⟨Fc,WB _,WB _⟩;obtain ⟨ps,p,hp,s2⟩:∃ (ps:List (List dC×List (Str×D))) (p:List dC×List (Str×D)),((∀ q∈ps++[p],Gd 200 J q/\q.2.length<=0)/\ps.length<=1)/\∀ T:FS,aB (gm (bR (aw eI (aw bB (ao bF (ae (ah 0) (ae tF ap))) vD) rP)) (jH 3 (ao jy (ae (ah 2) (ae (aw bw Dw (aw bB (aw cG (ao bF (ae (ah 0) (ae tF ap))) vD) Dw)) ap)))) bu) T (As (.lst (ns.map D.int)) nm J [([],[])] none none none)=T (As (.lst (ns.map D.int)) nm J (ps++[p]) none none none):=by
  have q:bR (aw eI (aw bB (ao bF (ae (ah 0) (ae tF ap))) vD) rP) (As (.lst (ns.map D.int)) nm J [([],[])] none none none)=.ok (decide (cell ns (2:Nat) % 16=5)):=kI (bA (I 2 _ rfl) rfl) rfl;cases e:decide (cell ns (2:Nat) % 16=5) with
  | false =>
   rw [e] at q;refine ⟨[],([],[]),⟨fun q hq=>?_,by decide⟩,fun T=>skip q⟩;rw [Ws.mp hq];exact ⟨g0,mK _⟩
  | true =>
   rw [e] at q;obtain ⟨n,en,hn⟩:∃ n:Nat,60+cell ns (2:Nat)/16 % 60=(n:Int)/\n<=120:=⟨(60+cell ns (2:Nat)/16 % 60).toNat,by lia,by lia⟩;obtain ⟨rs,ef,gf⟩:=FM (nm:=nm) hc hn;refine ⟨[([],[])],(rs,[]),⟨fun q hq=>?_,by decide⟩,fun T=>(av ((br q).trans (dj (aq (ac rfl (ac ((bP rfl (bA (cb (I 2 _ rfl) rfl) rfl)).trans (by rw [en])) rfl)) ef)))).trans rfl⟩;simp only [MK,Ws] at hq;rcases hq with rfl|rfl
   .exact ⟨g0,mK _⟩
   .exact ⟨gf,mK _⟩
 rw [s2];have hd:(ns.drop 3).length<=63:=by rw [WI];lia
 obtain ⟨ps',p',o4,o5,o6,ea,hg⟩:=CU (s:=.lst (ns.map D.int)) hs hc hc0 (ns.drop 3) 0 200 0 ps p none none none hp.1 (by lia) (by lia) (by have:=hp.2;lia);have hi:gL (ae (Ak tR (ah 0) (ii CI) lf) ap) (As (.lst (ns.map D.int)) nm J (ps++[p]) none none none)=.ok (cA 0 ((ns.drop 3).map D.int)):=by
  rw [MP,ac (mV rfl (dM rfl) rfl (Tq D.int ns (j:=3) rfl)) rfl,aF];exact NA rfl
 obtain ⟨g,gi⟩:=hg p' (by simp);obtain ⟨L,eL,_⟩:=yZ (ns:=p'.1.map BY) (by have:=g.r;rw [eQ];lia);have hix:bT (.lst ((ps'++[p']).map (tJ nm J))) (.int (-1))=.ok (tJ nm J p'):=rg (by rw [Wy];exact xU);have ei:∀ q∈ps'++[p'],nP [lP nm J q.1 q.2,vJ nm J,.dcf (a7 q.1),.lst ((q.2.map BY).map D.str)]=.ok (.bl true):=fun q hq=>OO hs (hg q hq).1.t (hg q hq).1.r (by lia) (IF (hg q hq).2 (by decide));generalize eall:ps'++[p']=al at ea hix ei;have hp0:(0:Int) < (al.length:Int):=by rw [<- eall];simp
 have hpm:p'∈al:=by rw [<- eall];simp
 have b0:=abh (cell ns (2:Nat)) (show (al.length:Int)≠0 by lia);have b1:=aaa (cell ns (2:Nat)) hp0;obtain ⟨j,ej⟩:∃ j:Nat,cell ns (2:Nat) % (al.length:Int)=(j:Int):=⟨(cell ns (2:Nat) % (al.length:Int)).toNat,by lia⟩;have hj:j < al.length:=by lia
 have Y:=tG (tJ nm J) al (oR hj);have hel:=ei _ (WM hj);generalize al[j]=qj at Y hel;refine aL ((av (gE hi ea)).trans ((av (aI (ai rfl rfl hix))).trans ((av (aI (aq (ac (ai rfl rfl bb) rfl) (Iq eL)))).trans ((skip (mP (Ga (gC (nV rfl (Qp.trans (vk (by trivial)))) rfl)) (aJ (ai rfl (aq (ac (aq (ac (ai rfl rfl bj) rfl) (zt _)) rfl) (show tK [_]=_ from eL)) ((Py.lst fun d hd=>?_:Py 1 _).ne (by decide) rfl))))).trans ((av (aI ((bA (I 2 _ rfl) (bS rfl (m6 _ _)) hp0).trans (by rw [ej])))).trans (aD (Gn (aq (ac (ai rfl rfl bb) (ac rfl (ac (ai rfl rfl bj) (ac (ai rfl rfl BO) rfl)))) (ei p' hpm)) (aq (ac (ai (ai rfl rfl Y) rfl bb) (ac rfl (ac (ai (ai rfl rfl Y) rfl bj) (ac (ai (ai rfl rfl Y) rfl BO) rfl)))) hel))))))));obtain ⟨i,_,rfl⟩:=P2.mp hd;exact Py.int i
end T30
noncomputable section
namespace HD
open PySem PySem.W PySem.Calls PyProof.Rows
abbrev p:Ww:=PySem.Challenge.pw_tablestore_k30_one_table
def bd:List X5:=behindTheImports p
def S (i:Nat):X5:=match p.main.body[i]? with|some s=>s|none=>.Pass default
def Sc (i j:Nat):X5:=match S i with
 | .ClassDef _ _ _ b _ _ _ _ _ _ _=>(match b[j]? with|some s=>s|none=>.Pass default)
 | s=>s
def dA (s:X5):Arguments:=match s with
 | .FunctionDef _ a _ _ _ _ _ _ _ _=>a
 | _=>⟨[],[],none,[],[],none,[]⟩
def dB (s:X5):List X5:=match s with
 | .FunctionDef _ _ b _ _ _ _ _ _ _=>b
 | _=>[]
def dS (s:X5):Scope:=match s with
 | .FunctionDef _ _ _ _ _ _ sc _ _ _=>sc
 | _=>{ kind:=.function,names:=[],isGenerator:=false,isCoroutine:=false }
def fn (s:X5) (n J:Str) (g:ID) (cl:List (Str×ID)) (d kd I Y:dO) (an:Option ID) (cd L:dO) (bl:ID):W2:=⟨n,J,dA s,.stmts (dB s),dS s,g,cl,d,kd,I,Y,an,cd,L,bl⟩
def dN (s:X5):Str:=match s with
 | .FunctionDef n _ _ _ _ _ _ _ _ _=>n
 | _=>""
def tu (l:acM):Obj:=⟨.type "tuple",none,.seq l.toArray 0,#[]⟩
def tn (t:Nat):acH->acM
 | []=>[]
 | x::r=>.str x t::tn (t+1) r
def tr (k:Int):List (Int×Nat)->acM
 | []=>[]
 | x::r=>.int x.1 0::.int k 0::.ref x.2::tr k r
def fi (l:acM):Obj:=⟨.none,none,.fields l.toArray,#[]⟩
def fu (s:X5) (m:dO) (c:Nat):Obj:=⟨.type "function",none,.func (fn s (dN s) (dN s) 3 [] .none .none .none m none (.ref c) .none 0),#[]⟩
def pr (s:X5):Obj:=⟨.none,none,.func (fn s (dN s) (dN s) 0 [] .none .none .none .none none .none .none 0),#[]⟩
def co (n q:Str) (t:Nat) (l a b c d:Int) (v:Nat) (o:Bool) (u:Nat) (x y z:dO) (k:Nat):Obj:=⟨.type "code",none,.fields #[.str n t,.str q (t+1),.str "/claim/cut.py" (t+2),.int l 0,.int a 0,.int b 0,.int c 0,.int d 0,.ref v,.bool o,.int 181 0,.ref u,.none,x,y,z,.int k 0,.int l 0,.str "/claim/cut.py" (k+1)],#[]⟩
abbrev nd:=BT.node
def ke (P:aaB) (x:Str) (t:Nat) (v:dO):DictEntry:=⟨PyData.keyHash P x,.str x t,v⟩
def en:Env:={ scope:=p.main.scope,locals:=mainNs,globals:=mainNs,cells:=[],code:=(.ref 13),frame:=some 14 }
def cE:Code:=.body bd en
abbrev fq:Pos:=⟨0,0,0,0⟩
def bn:Obj:=tu []
def cF:Obj:=fi []
def Uc:Obj:=co "<module>" "<module>" 182 1 0 0 0 0 11 false 12 .none .none .none 185
def Ur:Obj:=⟨(.type "frame"),none,.plain,#[(some (.ref 13)),(some (.ref 3)),(some (.ref 3)),none,(some (.str "__main__" 164)),none,(some (.ref 0))]⟩
abbrev acQ x:=nd x .nil .nil
def T0 (P:aaB):BT:=nd (boot_o_0 P) (nd (boot_o_1 P) (nd (boot_o_3 P) (nd (boot_o_7 P) .nil .nil) (acQ bn)) (nd (boot_o_5 P) (nd (boot_o_9 P) .nil .nil) (acQ Uc))) (nd (boot_o_2 P) (nd (boot_o_4 P) (nd (boot_o_8 P) .nil .nil) (acQ cF)) (nd (boot_o_6 P) (nd (boot_o_10 P) .nil .nil) (acQ Ur)))
def rA (w:WU) (os:Y4):topGo aaC p w 11 (some (.ref 6)) 12 ⟨ZG w.params,abS [],boot_drawn,boot_toks,os⟩ (topStub p)=some ((⟨T0 w.params,15,{},#[],{},187,os⟩:SharedT).abs,⟨denote aaC cE,cE,⟨0,0,0,0⟩,[topFrame fq]⟩):=by
 rw [PySem.W.Fast.te15667345088766844465,XC,PySem.W.Fast.te11892475500146522536];kernel_rfl
def rB (w:WU) (os:Y4):segRunT aaC p w 11 (some (.ref 6)) 1 1 (⟨T0 w.params,15,{},#[],{},187,os⟩:SharedT) (blockOf bd en cE ⟨0,0,0,0⟩ [topFrame fq])=some (.next,(⟨T0 w.params,15,{},#[],{},187,os⟩:SharedT),cE,⟨0,0,0,0⟩):=by
 rw [Zc,XC];kernel_rfl
def Rm (P:aaB):Obj:=⟨(.type "dict"),none,(.dict #[ke P "__name__" 165 (.str "law_tablestore_k30_one_table" 462),ke P "__doc__" 166 .none,ke P "__package__" 167 .none,ke P "__loader__" 168 (.builtin "__main__.__loader__#opaque"),ke P "__spec__" 169 .none,ke P "__annotations__" 170 (.ref 6),ke P "__builtins__" 171 (.ref 4),ke P "__file__" 173 (.str "/claim/cut.py" 172),ke P "__cached__" 174 .none,ke P "KINDS" 192 (.ref 15),ke P "kind_of" 199 (.ref 22),ke P "compare" 207 (.ref 29),ke P "order_key" 214 (.ref 36),ke P "FEWEST" 218 (.int 4 217),ke P "MOST" 220 (.int 8 219),ke P "comes_ahead" 229 (.ref 43),ke P "empty_index" 235 (.ref 50),ke P "has_entry" 247 (.ref 57),ke P "part_place" 256 (.ref 64),ke P "first_of" 263 (.ref 71),ke P "with_entry" 274 (.ref 78),ke P "cells_with" 280 (.ref 83),ke P "cells_of" 293 (.ref 90),ke P "parts_of" 299 (.ref 95),ke P "rooted" 307 (.ref 102),ke P "without_entry" 317 (.ref 109),ke P "cell_without" 323 (.ref 114),ke P "mended" 335 (.ref 121),ke P "index_from" 344 (.ref 128),ke P "entry_key" 351 (.ref 135),ke P "column_place" 363 (.ref 142),ke P "Table" 398 (.ref 159),ke P "new_table" 405 (.ref 170),ke P "with_row" 418 (.ref 177),ke P "without_row" 429 (.ref 184),ke P "index_without" 439 (.ref 191),ke P "with_index" 448 (.ref 198),ke P "entries_by" 454 (.ref 203),ke P "numbers_of" 461 (.ref 210),ke P "_law_cell_at" 471 (.ref 217),ke P "_law_rank" 478 (.ref 224),ke P "_law_ahead" 486 (.ref 231),ke P "_law_first" 493 (.ref 238),ke P "_law_entries" 507 (.ref 245),ke P "_law_entry_key" 515 (.ref 252),ke P "_law_is" 521 (.ref 257),ke P "_law_names" 527 (.ref 262),ke P "_law_sign_by" 535 (.ref 269),ke P "_law_text_by" 541 (.ref 274),ke P "_law_shape_by" 553 (.ref 281),ke P "_law_row_by" 565 (.ref 288),ke P "_law_number" 573 (.ref 295),ke P "_law_step" 587 (.ref 302),ke P "_law_filled" 598 (.ref 309),ke P "law" 612 (.ref 316)] 55),#[]⟩
def KN:Obj:=fi (tr 0 [(3,21),(7,28),(13,35),(20,42),(23,49),(25,56),(32,63),(37,70),(40,77),(44,82),(53,89),(61,94),(63,101),(68,108),(75,113),(84,120),(93,127),(101,134),(104,141),(110,148),(116,169),(118,176),(126,183),(133,190),(138,197),(142,202),(145,209),(148,216),(152,223),(158,230),(164,237),(168,244),(192,251),(199,256),(210,261),(224,268),(228,273),(234,280),(241,287),(256,294),(262,301),(275,308),(282,315)])
def Wf:Obj:=tu (tn 189 ["none","number","text"])
def VG:Obj:=tu (tn 196 ["value"])
def Vq:Obj:=pr (S 2)
def VD:Obj:=co "kind_of" "kind_of" 193 3 1 0 0 3 16 true 17 (.ref 18) (.ref 19) (.ref 20) 197
def m187:dO:=.str "tablestore.values" 187
def VO:Obj:=fu (S 2) m187 21
def Vh:Obj:=tu (tn 203 ["one","other"])
def Wg:Obj:=pr (S 3)
def VP:Obj:=co "compare" "compare" 200 7 2 0 0 3 23 true 24 (.ref 25) (.ref 26) (.ref 27) 205
def VV:Obj:=fu (S 3) m187 28
def Vn:Obj:=tu (tn 211 ["value"])
def We:Obj:=pr (S 4)
def Vj:Obj:=co "order_key" "order_key" 208 13 1 0 0 3 30 true 31 (.ref 32) (.ref 33) (.ref 34) 212
def Wh:Obj:=fu (S 4) m187 35
def Vz:Obj:=tu (tn 224 ["one","other","told"])
def VS:Obj:=pr (S 8)
def Vu:Obj:=co "comes_ahead" "comes_ahead" 221 20 2 0 0 3 37 true 38 (.ref 39) (.ref 40) (.ref 41) 227
def m215:dO:=.str "tablestore.ordered" 215
def V4:Obj:=fu (S 8) m215 42
def Vo:Obj:=pr (S 9)
def V0:Obj:=co "empty_index" "empty_index" 230 23 0 0 0 3 44 true 45 (.ref 46) (.ref 47) (.ref 48) 233
def Wc:Obj:=fu (S 9) m215 49
def VH:Obj:=tu (tn 239 ["index","value","number","entry","cell","parts"])
def V2:Obj:=pr (S 10)
def V9:Obj:=co "has_entry" "has_entry" 236 25 3 0 0 3 51 true 52 (.ref 53) (.ref 54) (.ref 55) 245
def VI:Obj:=fu (S 10) m215 56
def V8:Obj:=tu (tn 251 ["parts","entry","place"])
def V7:Obj:=pr (S 11)
def V5:Obj:=co "part_place" "part_place" 248 32 2 0 0 3 58 true 59 (.ref 60) (.ref 61) (.ref 62) 254
def VQ:Obj:=fu (S 11) m215 63
def V1:Obj:=tu (tn 260 ["cell"])
def Vt:Obj:=pr (S 12)
def VT:Obj:=co "first_of" "first_of" 257 37 1 0 0 3 65 true 66 (.ref 67) (.ref 68) (.ref 69) 261
def VL:Obj:=fu (S 12) m215 70
def VC:Obj:=tu (tn 269 ["index","value","number"])
def Vs:Obj:=pr (S 14)
def Vm:Obj:=co "with_entry" "with_entry" 266 40 3 0 0 3 72 true 73 (.ref 74) (.ref 75) (.ref 76) 272
def m264:dO:=.str "tablestore.balance" 264
def VE:Obj:=fu (S 14) m264 77
def VX:Obj:=pr (S 15)
def Vr:Obj:=co "cells_with" "cells_with" 275 44 2 0 0 3 79 true 80 .none .none (.ref 81) 278
def VW:Obj:=fu (S 15) m264 82
def Vi:Obj:=tu (tn 284 ["word","things","many","cells","place","start","end"])
def Vv:Obj:=pr (S 16)
def Vx:Obj:=co "cells_of" "cells_of" 281 53 2 0 0 3 84 true 85 (.ref 86) (.ref 87) (.ref 88) 291
def VM:Obj:=fu (S 16) m264 89
def VN:Obj:=pr (S 17)
def Vp:Obj:=co "parts_of" "parts_of" 294 61 1 0 0 3 91 true 92 .none .none (.ref 93) 297
def Vy:Obj:=fu (S 17) m264 94
def VF:Obj:=tu (tn 303 ["cells","level"])
def Rg:Obj:=pr (S 18)
def P5:Obj:=co "rooted" "rooted" 300 63 1 0 0 3 96 true 97 (.ref 98) (.ref 99) (.ref 100) 305
def OY:Obj:=fu (S 18) m264 101
def OS:Obj:=tu (tn 311 ["index","value","number","root"])
def Rz:Obj:=pr (S 19)
def Ps:Obj:=co "without_entry" "without_entry" 308 68 3 0 0 3 103 true 104 (.ref 105) (.ref 106) (.ref 107) 315
def QO:Obj:=fu (S 19) m264 108
def O5:Obj:=pr (S 20)
def QN:Obj:=co "cell_without" "cell_without" 318 75 2 0 0 3 110 true 111 .none .none (.ref 112) 321
def SJ:Obj:=fu (S 20) m264 113
def O3:Obj:=tu (tn 327 ["parts","place","smaller","start","things","fresh"])
def SQ:Obj:=pr (S 21)
def OW:Obj:=co "mended" "mended" 324 84 3 0 0 3 115 true 116 (.ref 117) (.ref 118) (.ref 119) 333
def S4:Obj:=fu (S 21) m264 120
def Pc:Obj:=tu (tn 339 ["entries","once","entry"])
def RE:Obj:=pr (S 22)
def Sf:Obj:=co "index_from" "index_from" 336 93 1 0 0 3 122 true 123 (.ref 124) (.ref 125) (.ref 126) 342
def PQ:Obj:=fu (S 22) m264 127
def Qu:Obj:=tu (tn 348 ["entry"])
def QU:Obj:=pr (S 23)
def Rb:Obj:=co "entry_key" "entry_key" 345 101 1 0 0 3 129 true 130 (.ref 131) (.ref 132) (.ref 133) 349
def PX:Obj:=fu (S 23) m264 134
def QE:Obj:=tu (tn 357 ["shape","column","place","pair"])
def RJ:Obj:=pr (S 25)
def PD:Obj:=co "column_place" "column_place" 354 104 2 0 0 3 136 true 137 (.ref 138) (.ref 139) (.ref 140) 361
def m352:dO:=.str "tablestore.shapes" 352
def OC:Obj:=fu (S 25) m352 141
def Sw:Obj:=⟨(.type "builtin_function_or_method"),none,(.fields #[(.builtin "type.__prepare__"),(.type "type")]),#[]⟩
def Ta (P:aaB):Obj:=⟨(.type "dict"),none,(.dict #[ke P "__module__" 373 (.str "tablestore.tables" 364),ke P "__qualname__" 375 (.str "Table" 374),ke P "__firstlineno__" 377 (.int 110 376),ke P "__init__" 387 (.ref 156),ke P "__static_attributes__" 391 (.ref 157)] 5),#[]⟩
def RT:Obj:=fi (tr 4 [(112,155)])
def QZ:Obj:=co "Table" "Table" 368 110 0 0 0 0 146 false 147 .none .none .none 371
def O4:Obj:=⟨(.type "frame"),none,.plain,#[(some (.ref 148)),(some (.ref 3)),(some (.ref 145)),none,(some (.str "tablestore.tables" 364)),none,(some (.ref 0))]⟩
def Qi:Obj:=tu (tn 381 ["self","shape","rows","indexes"])
def RG:Obj:=⟨.none,none,(.func (fn (Sc 27 0) "__init__" "Table.__init__" 0 [] .none .none .none .none none .none .none 0)),#[]⟩
def Oq:Obj:=co "__init__" "Table.__init__" 378 112 4 0 0 3 150 true 151 (.ref 152) (.ref 153) (.ref 154) 385
def RY:Obj:=⟨(.type "function"),none,(.func (fn (Sc 27 0) "__init__" "Table.__init__" 3 [] .none .none .none (.str "tablestore.tables" 364) none (.ref 155) .none 0)),#[]⟩
def Tb:Obj:=tu (tn 388 ["indexes","rows","shape"])
def Q6 (P:aaB):Obj:=⟨(.type "dict"),none,(.dict #[ke P "__module__" 373 (.str "tablestore.tables" 364),ke P "__firstlineno__" 377 (.int 110 376),ke P "__init__" 387 (.ref 156),ke P "__static_attributes__" 391 (.ref 157),ke P "__dict__" 393 (.ref 160),ke P "__weakref__" 395 (.ref 161),ke P "__doc__" 396 .none] 4),#[]⟩
def PU:Obj:=⟨(.type "type"),none,(.cls { name:="Table",bases:=[(.type "object")],mro:=[(.ref 159),(.type "object")],ns:=158,qualname:="Table",hasDict:=true,slotNames:=[],subclasses:=[],abstract:=false,collection:=none,hasDel:=false }),#[none,none,(some (.str "Table" 366)),(some (.str "Table" 374)),(some (.builtin "object.__new__")),(some (.bool true))]⟩
def Sz:Obj:=⟨(.type "getset_descriptor"),none,(.fields #[(.str "__dict__" 392),(.ref 159),(.builtin "function.__dict__"),(.builtin "function.__dict__#set")]),#[]⟩
def PL:Obj:=⟨(.type "getset_descriptor"),none,(.fields #[(.str "__weakref__" 394),(.ref 159),(.builtin "ExceptionGroup.__weakref__"),.none]),#[]⟩
def Qb:Obj:=⟨(.type "super"),none,(.fields #[(.ref 159),(.ref 159),(.ref 159)]),#[]⟩
def SM:Obj:=⟨(.type "builtin_function_or_method"),none,(.fields #[(.builtin "object.__init_subclass__"),(.ref 159)]),#[]⟩
def Rh:Obj:=tu (tn 402 ["shape"])
def Sk:Obj:=pr (S 28)
def Tf:Obj:=co "new_table" "new_table" 399 116 1 0 0 3 164 true 165 (.ref 166) (.ref 167) (.ref 168) 403
def m364:dO:=.str "tablestore.tables" 364
def RL:Obj:=fu (S 28) m364 169
def Om:Obj:=tu (tn 409 ["table","number","row","rows","indexes","column","index"])
def QI:Obj:=pr (S 29)
def RU:Obj:=co "with_row" "with_row" 406 118 3 0 0 3 171 true 172 (.ref 173) (.ref 174) (.ref 175) 416
def QM:Obj:=fu (S 29) m364 176
def Pm:Obj:=tu (tn 422 ["table","number","rows","indexes","column"])
def SF:Obj:=pr (S 30)
def QG:Obj:=co "without_row" "without_row" 419 126 2 0 0 3 178 true 179 (.ref 180) (.ref 181) (.ref 182) 427
def Qc:Obj:=fu (S 30) m364 183
def O6:Obj:=tu (tn 433 ["table","column","number","index"])
def Q1:Obj:=pr (S 31)
def Pb:Obj:=co "index_without" "index_without" 430 133 3 0 0 3 185 true 186 (.ref 187) (.ref 188) (.ref 189) 437
def PP:Obj:=fu (S 31) m364 190
def RQ:Obj:=tu (tn 443 ["table","column","indexes"])
def SC:Obj:=pr (S 32)
def P8:Obj:=co "with_index" "with_index" 440 138 2 0 0 3 192 true 193 (.ref 194) (.ref 195) (.ref 196) 446
def Rc:Obj:=fu (S 32) m364 197
def R9:Obj:=pr (S 33)
def SH:Obj:=co "entries_by" "entries_by" 449 142 2 0 0 3 199 true 200 .none .none (.ref 201) 452
def P3:Obj:=fu (S 33) m364 202
def Sa:Obj:=tu (tn 458 ["table"])
def S3:Obj:=pr (S 34)
def Pu:Obj:=co "numbers_of" "numbers_of" 455 145 1 0 0 3 204 true 205 (.ref 206) (.ref 207) (.ref 208) 459
def R1:Obj:=fu (S 34) m364 209
def RM:Obj:=tu (tn 467 ["_law_script","_law_k"])
def RV:Obj:=pr (S 36)
def Ro:Obj:=co "_law_cell_at" "_law_cell_at" 464 148 2 0 0 3 211 true 212 (.ref 213) (.ref 214) (.ref 215) 469
def m462:dO:=.str "law_tablestore_k30_one_table" 462
def PC:Obj:=fu (S 36) m462 216
def Ql:Obj:=tu (tn 475 ["_law_value"])
def QL:Obj:=pr (S 37)
def SN:Obj:=co "_law_rank" "_law_rank" 472 152 1 0 0 3 218 true 219 (.ref 220) (.ref 221) (.ref 222) 476
def Pz:Obj:=fu (S 37) m462 223
def Qh:Obj:=tu (tn 482 ["_law_one","_law_other"])
def SX:Obj:=pr (S 38)
def Td:Obj:=co "_law_ahead" "_law_ahead" 479 158 2 0 0 3 225 true 226 (.ref 227) (.ref 228) (.ref 229) 484
def Qm:Obj:=fu (S 38) m462 230
def Q9:Obj:=tu (tn 490 ["_law_cell"])
def OM:Obj:=pr (S 39)
def Qv:Obj:=co "_law_first" "_law_first" 487 164 1 0 0 3 232 true 233 (.ref 234) (.ref 235) (.ref 236) 491
def OE:Obj:=fu (S 39) m462 237
def Tj:Obj:=tu (tn 497 ["_law_index","_law_found","_law_deep","_law_todo","_law_cell","_law_depth","_law_part","_law_k"])
def Os:Obj:=pr (S 40)
def QR:Obj:=co "_law_entries" "_law_entries" 494 168 1 0 0 3 239 true 240 (.ref 241) (.ref 242) (.ref 243) 505
def Th:Obj:=fu (S 40) m462 244
def O8:Obj:=tu (tn 511 ["_law_entry","_law_value"])
def SL:Obj:=pr (S 41)
def RC:Obj:=co "_law_entry_key" "_law_entry_key" 508 192 1 0 0 3 246 true 247 (.ref 248) (.ref 249) (.ref 250) 513
def R5:Obj:=fu (S 41) m462 251
def S2:Obj:=pr (S 42)
def S8:Obj:=co "_law_is" "_law_is" 516 199 4 0 0 3 253 true 254 .none .none (.ref 255) 519
def P7:Obj:=fu (S 42) m462 256
def Se:Obj:=pr (S 43)
def R0:Obj:=co "_law_names" "_law_names" 522 210 2 0 0 3 258 true 259 .none .none (.ref 260) 525
def SD:Obj:=fu (S 43) m462 261
def OX:Obj:=tu (tn 531 ["_law_cell","_law_some"])
def Q5:Obj:=pr (S 44)
def QW:Obj:=co "_law_sign_by" "_law_sign_by" 528 224 1 0 0 3 263 true 264 (.ref 265) (.ref 266) (.ref 267) 533
def RD:Obj:=fu (S 44) m462 268
def Ri:Obj:=pr (S 45)
def ST:Obj:=co "_law_text_by" "_law_text_by" 536 228 1 0 0 3 270 true 271 .none .none (.ref 272) 539
def Rt:Obj:=fu (S 45) m462 273
def Si:Obj:=tu (tn 545 ["_law_name","_law_cell","_law_names_here","_law_columns","_law_k","_law_kind"])
def RZ:Obj:=pr (S 46)
def Sj:Obj:=co "_law_shape_by" "_law_shape_by" 542 234 2 0 0 3 275 true 276 (.ref 277) (.ref 278) (.ref 279) 551
def Qt:Obj:=fu (S 46) m462 280
def SW:Obj:=tu (tn 557 ["_law_shape","_law_cell","_law_row","_law_drawn","_law_column","_law_mix"])
def Sn:Obj:=pr (S 47)
def Sx:Obj:=co "_law_row_by" "_law_row_by" 554 241 2 0 0 3 282 true 283 (.ref 284) (.ref 285) (.ref 286) 563
def RI:Obj:=fu (S 47) m462 287
def Sq:Obj:=tu (tn 569 ["_law_cell","_law_rows"])
def QK:Obj:=pr (S 48)
def OG:Obj:=co "_law_number" "_law_number" 566 256 2 0 0 3 289 true 290 (.ref 291) (.ref 292) (.ref 293) 571
def QF:Obj:=fu (S 48) m462 294
def Q4:Obj:=tu (tn 577 ["_law_table","_law_rows","_law_columns","_law_cell","_law_shape","_law_number_here","_law_others","_law_column"])
def OH:Obj:=pr (S 49)
def Rv:Obj:=co "_law_step" "_law_step" 574 262 4 0 0 3 296 true 297 (.ref 298) (.ref 299) (.ref 300) 585
def Ti:Obj:=fu (S 49) m462 301
def SZ:Obj:=tu (tn 591 ["_law_shape","_law_many","_law_table","_law_rows","_law_k"])
def Pl:Obj:=pr (S 50)
def Og:Obj:=co "_law_filled" "_law_filled" 588 275 2 0 0 3 303 true 304 (.ref 305) (.ref 306) (.ref 307) 596
def Ru:Obj:=fu (S 50) m462 308
def Op:Obj:=tu (tn 602 ["_law_script","_law_name","_law_shape","_law_steps","_law_at","_law_cell","_law_last","_law_found"])
def R8:Obj:=pr (S 51)
def Qj:Obj:=co "law" "law" 599 282 1 0 0 3 310 true 311 (.ref 312) (.ref 313) (.ref 314) 610
def Qf:Obj:=fu (S 51) m462 315
def g0:List X5:=(bd.drop 0).take 52
def T1 (P:aaB):BT:=nd (boot_o_0 P) (nd (boot_o_1 P) (nd (Rm P) (nd (boot_o_7 P) (nd Wf (nd cF (nd V5 (nd Sf (acQ S2) .nil) (acQ PP)) (nd Vy (nd PU (acQ Sx) .nil) (acQ SN))) (nd bn (nd bn (nd bn (acQ cF) .nil) (acQ bn)) (nd cF (nd QI (acQ bn) .nil) (acQ bn)))) (nd bn (nd Vz (nd VL (nd PX (acQ bn) .nil) (acQ bn)) (nd bn (nd bn (acQ QF) .nil) (acQ Qm))) (nd V2 (nd bn (nd cF (acQ RZ) .nil) (acQ RV)) (nd SQ (nd QG (acQ cF) .nil) (acQ cF))))) (nd bn (nd bn (nd Vj (nd V1 (nd Qu (acQ cF) .nil) (acQ bn)) (nd bn (nd SM (acQ Sq) .nil) (acQ Qh))) (nd bn (nd VW (nd RT (acQ bn) .nil) (acQ bn)) (nd bn (nd cF (acQ Pl) .nil) (acQ Os)))) (nd Wg (nd V4 (nd bn (nd bn (acQ Q5) .nil) (acQ P3)) (nd Rz (nd bn (acQ bn) .nil) (acQ bn))) (nd cF (nd bn (nd Oq (acQ cF) .nil) (acQ cF)) (nd cF (nd O6 (acQ Qj) .nil) (acQ RC)))))) (nd (boot_o_5 P) (nd (boot_o_9 P) (nd cF (nd bn (nd bn (nd bn (acQ P7) .nil) (acQ cF)) (nd cF (nd PL (acQ bn) .nil) (acQ bn))) (nd V0 (nd VX (nd (Ta P) (acQ ST) .nil) (acQ Pu)) (nd QN (nd QM (acQ SZ) .nil) (acQ Tj)))) (nd Vh (nd VS (nd cF (nd cF (acQ OX) .nil) (acQ R9)) (nd OS (nd Tf (acQ cF) .nil) (acQ cF))) (nd VI (nd Vx (nd bn (acQ Qt) .nil) (acQ PC)) (nd S4 (nd bn (acQ bn) .nil) (acQ bn))))) (nd Uc (nd VD (nd bn (nd Vt (nd QU (acQ R0) .nil) (acQ P8)) (nd P5 (nd cF (acQ QK) .nil) (acQ SX))) (nd VH (nd cF (nd O4 (acQ Si) .nil) (acQ RM)) (nd O3 (nd bn (acQ Ru) .nil) (acQ Th)))) (nd VV (nd cF (nd Vm (nd PD (acQ RD) .nil) (acQ cF)) (nd QO (nd Om (acQ Rv) .nil) (acQ Qv))) (nd bn (nd VN (nd Tb (acQ bn) .nil) (acQ bn)) (nd bn (acQ Q1) (acQ bn))))))) (nd (boot_o_2 P) (nd (boot_o_4 P) (nd (boot_o_8 P) (nd bn (nd Vn (nd VQ (nd PQ (acQ S8) .nil) (acQ bn)) (nd bn (nd Sz (acQ RI) .nil) (acQ Pz))) (nd Vo (nd cF (nd Sw (acQ Ri) .nil) (acQ S3)) (nd O5 (nd RU (acQ cF) .nil) (acQ cF)))) (nd cF (nd bn (nd bn (nd bn (acQ cF) .nil) (acQ cF)) (nd cF (nd Sk (acQ bn) .nil) (acQ bn))) (nd V9 (nd Vv (nd Qi (acQ Sj) .nil) (acQ Ro)) (nd OW (nd Qc (acQ Op) .nil) (acQ O8))))) (nd KN (nd Vq (nd Wh (nd bn (nd bn (acQ Se) .nil) (acQ SC)) (nd Rg (nd bn (acQ bn) .nil) (acQ bn))) (nd cF (nd bn (nd QZ (acQ cF) .nil) (acQ cF)) (nd cF (nd Pm (acQ Og) .nil) (acQ QR)))) (nd VP (nd bn (nd Vs (nd RJ (acQ QW) .nil) (acQ bn)) (nd Ps (nd cF (acQ OH) .nil) (acQ OM))) (nd V8 (nd cF (nd RY (acQ SW) .nil) (acQ Ql)) (nd Pc (nd bn (acQ Qf) .nil) (acQ R5)))))) (nd (boot_o_6 P) (nd (boot_o_10 P) (nd VG (nd We (nd cF (nd cF (acQ bn) .nil) (acQ RQ)) (nd VF (nd Qb (acQ cF) .nil) (acQ cF))) (nd Wc (nd Vr (nd bn (acQ Rt) .nil) (acQ R1)) (nd SJ (nd bn (acQ bn) .nil) (acQ bn)))) (nd bn (nd Vu (nd VC (nd QE (acQ bn) .nil) (acQ SH)) (nd bn (nd RL (acQ Q4) .nil) (acQ Q9))) (nd bn (nd VM (nd RG (acQ bn) .nil) (acQ bn)) (nd bn (nd cF (acQ R8) .nil) (acQ SL))))) (nd Ur (nd VO (nd cF (nd VT (nd Rb (acQ SD) .nil) (acQ Rc)) (nd OY (nd Rh (acQ OG) .nil) (acQ Td))) (nd bn (nd Vi (nd bn (acQ bn) .nil) (acQ bn)) (nd bn (nd SF (acQ bn) .nil) (acQ bn)))) (nd bn (nd bn (nd VE (nd OC (acQ bn) .nil) (acQ Sa)) (nd bn (nd bn (acQ Ti) .nil) (acQ OE))) (nd V7 (nd Vp (nd (Q6 P) (acQ Sn) .nil) (acQ QL)) (nd RE (acQ Pb) (acQ cF)))))))
def rG0 (w:WU) (os:Y4):segRunT aaC p w 11 (some (.ref 6)) 1 1595 (⟨T0 w.params,15,{},#[],{},187,os⟩:SharedT) (piecesOf g0 en cE ⟨0,0,0,0⟩ [topFrame fq])=some (.next,(⟨T1 w.params,317,{},#[],{},613,os⟩:SharedT),cE,⟨282,0,298,168⟩):=by
 rw [Zc,XC];kernel_rfl
def L1 (P:aaB):List Obj:=[boot_o_0 P,boot_o_1 P,boot_o_2 P,Rm P,boot_o_4 P,boot_o_5 P,boot_o_6 P,boot_o_7 P,boot_o_8 P,boot_o_9 P,boot_o_10 P,bn,KN,Uc,Ur,Wf,bn,cF,VG,bn,Vq,VD,VO,bn,cF,Vh,bn,Wg,VP,VV,bn,cF,Vn,bn,We,Vj,Wh,bn,cF,Vz,bn,VS,Vu,V4,bn,cF,bn,bn,Vo,V0,Wc,bn,cF,VH,bn,V2,V9,VI,bn,cF,V8,bn,V7,V5,VQ,bn,cF,V1,bn,Vt,VT,VL,bn,cF,VC,bn,Vs,Vm,VE,bn,cF,VX,Vr,VW,bn,cF,Vi,bn,Vv,Vx,VM,bn,cF,VN,Vp,Vy,bn,cF,VF,bn,Rg,P5,OY,bn,cF,OS,bn,Rz,Ps,QO,bn,cF,O5,QN,SJ,bn,cF,O3,bn,SQ,OW,S4,bn,cF,Pc,bn,RE,Sf,PQ,bn,cF,Qu,bn,QU,Rb,PX,bn,cF,QE,bn,RJ,PD,OC,bn,Sw,Ta P,bn,RT,QZ,O4,bn,cF,Qi,bn,RG,Oq,RY,Tb,Q6 P,PU,Sz,PL,Qb,SM,bn,cF,Rh,bn,Sk,Tf,RL,bn,cF,Om,bn,QI,RU,QM,bn,cF,Pm,bn,SF,QG,Qc,bn,cF,O6,bn,Q1,Pb,PP,bn,cF,RQ,bn,SC,P8,Rc,bn,cF,R9,SH,P3,bn,cF,Sa,bn,S3,Pu,R1,bn,cF,RM,bn,RV,Ro,PC,bn,cF,Ql,bn,QL,SN,Pz,bn,cF,Qh,bn,SX,Td,Qm,bn,cF,Q9,bn,OM,Qv,OE,bn,cF,Tj,bn,Os,QR,Th,bn,cF,O8,bn,SL,RC,R5,bn,cF,S2,S8,P7,bn,cF,Se,R0,SD,bn,cF,OX,bn,Q5,QW,RD,bn,cF,Ri,ST,Rt,bn,cF,Si,bn,RZ,Sj,Qt,bn,cF,SW,bn,Sn,Sx,RI,bn,cF,Sq,bn,QK,OG,QF,bn,cF,Q4,bn,OH,Rv,Ti,bn,cF,SZ,bn,Pl,Og,Ru,bn,cF,Op,bn,R8,Qj,Qf]
def H1 (P:aaB):Yy:=⟨abS (L1 P),{}⟩
abbrev sf (w:WU) (os:Y4):gs:=⟨H1 w.params,#[],{},613,os⟩
def rF (w:WU) (os:Y4):topRun aaC p w 11 (some (.ref 6)) 2 (⟨T1 w.params,317,{},#[],{},613,os⟩:SharedT).abs ⟨doneF .next,cE,⟨282,0,298,168⟩,[topFrame fq]⟩=some (sf w os):=by
 rw [PySem.W.Fast.te14082659384304107361,XC];kernel_rfl
def OD:bd=g0++([]):=by kernel_rfl
def run (w:WU) (os:Y4):topRun aaC p w 11 (some (.ref 6)) (12+(1+(1595+2))) ⟨ZG w.params,abS [],boot_drawn,boot_toks,os⟩ (topStub p)=some (sf w os) :=
 go_top (n:=12) (rA w os) (piece_block (n:=1) (segRun_of (rB w os)) (OD ▸ piece_app (n:=1595) (l:=g0) (segRun_of (rG0 w os)) (piece_nil (rF w os))))
def q:Ww:=view p [1,2,3,4,6,7,8,9,10,11,12,14,15,16,17,18,19,20,21,22,23,25,27,28,29,30,31,32,33,34,36,37,38,39,40,41,42,43,44,45,46,47,48,49,50,51]
def Te (w:WU):(fencedOpening aaC p w 3314).map (fun s=>(s.heap,s.gens,s.drawn,s.toks))=some (ZG w.params,abS [],boot_drawn,boot_toks) :=
 boot_open (by kernel_rfl) (by decide) (fun s=>by kernel_rfl) w
theorem size (w:WU):((ZG w.params).isNs WJ&&(abS []:Array GenState).size==0,(ZG w.params).objs.size,(ZG w.params).nsMap WJ "__annotations__")=(true,11,(some (.ref 6))):=by
 kernel_rfl
def k0 (w:WU) (os:Y4):(staticsOk (importedModules p.main.body) (ZG w.params) (H1 w.params)&&namesBound p (H1 w.params)&&gensDone (sf w os)&&laidKept (ZG w.params) (H1 w.params))=true:=by kernel_rfl
def k1 (w:WU) (os:Y4):seen ((recsOf q).map (·.name)) (ownsOf q) [] { (sf w os) with gens:=#[] }=expectedOf q:=by
 kernel_rfl
def k2 (w:WU) (os:Y4):(sf w os).heap.bltView=bltViewBooted:=by
 kernel_rfl
def k3 (w:WU) (os:Y4):((sf w os).heap.keysOk (looseW q []) ((recsOf q).map (·.name)) ((litsOf q).map (·.1)) ((clssOf q (looseW q [])).map (·.name))&&(sf w os).heap.accountedOkI (importedModules p.main.body)&&(sf w os).heap.isNs WJ&&(sf w os).heap.isNs builtinsNs&&tablesOk q (sf w os).heap&&(xlAt q [] (sf w os)&&recOk [] (sf w os))&&(if true then (sf w os).gens.size==0 else !leftWithCleanup (sf w os).gens))=true:=by
 kernel_rfl
def k4 (w:WU) (os:Y4):tabsOk q (sf w os)=true:=by
 kernel_rfl
def k5 (w:WU) (os:Y4):pinSeenD q (drecsOf q) (sf w os)=pinGoodD (drecsOf q):=by
 kernel_rfl
def k6 (w:WU) (os:Y4):plainSeenE q (looseW q []) (sf w os)=plainGoodE q (looseW q []):=by
 kernel_rfl
def k7 (w:WU) (os:Y4):plainSeenD q [] (sf w os)=plainGoodD q []:=by
 kernel_rfl
def k8 (w:WU) (os:Y4):wideSeen q (sf w os)=wideGood q:=by
 kernel_rfl
def k9 (w:WU) (os:Y4):clsSeenW q [] (sf w os)=clsGoodW q []:=by
 kernel_rfl
def ad:acL:=Yc 317
def K (P:aaB):Frag:=ad.zip (L1 P)
def kY (w:WU) (os:Y4):X.obsZ ad (sf w os)=X.valZ K 317 613 w:=by kernel_rfl
def left:LeftO p q [] (fun s=>xlAt q [] s&&recOk [] s) (X.obsZ ad) (X.valZ K 317 613) 3314 :=
 LeftO.of_pieces (H₀:=ZG) (H₁:=H1) (gs₀:=abS []) (gs₁:=#[]) (d₀:=boot_drawn) (d₁:={}) (k₀:=boot_toks) (k₁:=613) (m₀:=11) (ann:=(some (.ref 6))) (M:=(12+(1+(1595+2)))) Te size run (by decide) fun w=>funext fun os=>Y2 (k0 w os) (Y2 (Y2 (k1 w os) (Y2 (k2 w os) (Y2 (k3 w os) (Y2 (k4 w os) (Y2 (k5 w os) (Y2 (k6 w os) (Y2 (k7 w os) (Y2 (k8 w os) (k9 w os))))))))) (kY w os))
def dP (s:X5):Pos:=match s with
 | .FunctionDef _ _ _ _ _ _ _ _ _ x=>x
 | _=>default
def d:DefRec:=⟨"law",dA (S 51),dB (S 51),dS (S 51),dP (S 51)⟩
def ws:PySem.Challenge.rw_tablestore_k30_one_table.wellSaid=true:=by kernel_rfl
def hold (J:WalkX q [] (XL q []) (X.obsZ ad) (X.valZ K 317 613) PySem.Challenge.rw_tablestore_k30_one_table.row.toRowW d [] fun f vs=>abZ f vs):PySem.Challenge.rw_tablestore_k30_one_table.Holds:=by
 refine holds_law ws fun I=>?_;refine holds_openX (q:=q) (loose:=[]) (Xt:=fun s=>xlAt q [] s&&recOk [] s) (XP:=XL q []) (N:=3314) left (fun s e=>xl_of s (abv.mp e).1) XL.keeps (d:=d) (kwd:=[]) (by kernel_rfl) (by kernel_rfl) (by kernel_rfl) (fun s e=>recFacts_of (abv.mp e).2) (by rfl) I (by trivial) ⟨rfl,rfl,rfl,rfl,rfl,by trivial⟩ ?hw J
 case hw=>w_witness2
end HD
end
namespace T30
open PySem L2
def dk {w:WU} {h:Yy} {mg:acK} (X:(HD.K w.params).In h) (G:h.Ns WJ mg) {n:Str} {st:X5} {f:Nat} (c:Nat) (m:dO) {ps:acH}
  (a:Xv (HD.K w.params) WJ n=some (some (.ref f))/\(HD.K w.params).lookup f=some ⟨.type "function",none,.func (Ya n n (iO st) (dR st) (ax st) .none .none .none m none (.ref c) .none),#[]⟩/\aaf (HD.K w.params) (.ref c) n=true/\Zx (HD.K w.params) (.ref f)=true)
  (b:∀ (kV J Y:dO) (an:Option ID) (I L:dO) (us:acM),us.length=ps.length->bindArgs (Ya n n (iO st) (dR st) (ax st) .none kV J Y an I L) ⟨us,[]⟩=pure (ps.zip us)) :
  Def (HD.K w.params) mg n st ps f (Ya n n (iO st) (dR st) (ax st) .none .none .none m none (.ref c) .none) :=
 have F:=Hi (st:=st) a.2.1 a.2.2.1 a.2.2.2
 ⟨F,F.binds b,Zn X G a.1⟩
local macro_rules | `(tactic| walk_at"kk") => `(tactic| exact ⟨by kernel_rfl, by kernel_rfl, by kernel_rfl, by kernel_rfl⟩)
local macro_rules | `(tactic| walk_at "kz") => `(tactic| kernel_rfl)
def all_mk {l:aa9} {w:WU} {h:Yy} {mg:acK} {fa:ID} (X:(HD.K w.params).In h) (G:h.Ns WJ mg) (hfa:mg "law"=some (.ref fa)) :
  ∃ fd:W2,(∀ (s:gs) (v:dO),BindsTo s fd ⟨[v],[]⟩ [("_law_script",v)])/\∀ base:Yy,(HD.K w.params).In base->base.Ns WJ mg->FnOk l.prog w (HD.K w.params) mg base cP 20 fa fd ve (eF (HD.K w.params) mg vU):=by
 have a42:Xv (HD.K w.params) WJ "law"=some (some (.ref 316)):=by kernel_rfl
 have Y:Xv (HD.K w.params) WJ "KINDS"=some (some (.ref 15)):=by kernel_rfl
 have I:(HD.K w.params).lookup 15=some ⟨.type "tuple",none,.seq #[.str "none" 189,.str "number" 190,.str "text" 191] 0,#[]⟩:=by kernel_rfl
 have J:Xv (HD.K w.params) WJ "FEWEST"=some (some (.int 4 217)):=by kernel_rfl
 have v_MOST:Xv (HD.K w.params) WJ "MOST"=some (some (.int 8 219)):=by kernel_rfl
 have L:∀ {n:Str},Xv (HD.K w.params) WJ n=some none->mg n=none:=fun e=>PySem.W.mg_none_of X G e;have e:=hfa.symm.trans (Zn X G a42);cases e;have fD:Def _ mg "kind_of" rK lh 22 _:=dk X G 21 HD.m187 (by walk_at"kk") fun _ _ _ _ _ _=>yJ (fun _=>rfl);have oJ:Def _ mg "compare" r6 lc 29 _:=dk X G 28 HD.m187 (by walk_at"kk") fun _ _ _ _ _ _=>yG (fun _ _=>rfl);have kA:Def _ mg "order_key" n6 ik 36 _:=dk X G 35 HD.m187 (by walk_at"kk") fun _ _ _ _ _ _=>yJ (fun _=>rfl);have dh:Def _ mg "comes_ahead" kT df 43 _:=dk X G 42 HD.m215 (by walk_at"kk") fun _ _ _ _ _ _=>yG (fun _ _=>rfl);have gU:Def _ mg "empty_index" kO eM 50 _:=dk X G 49 HD.m215 (by walk_at"kk") fun _ _ _ _ _ _=>ln0 (rfl);have dW:Def _ mg "part_place" l0 cW 64 _:=dk X G 63 HD.m215 (by walk_at"kk") fun _ _ _ _ _ _=>yG (fun _ _=>rfl);have ip:Def _ mg "has_entry" nO g8 57 _:=dk X G 56 HD.m215 (by walk_at"kk") fun _ _ _ _ _ _=>NS (fun _ _ _=>rfl);have mB:Def _ mg "first_of" pQ jG 71 _:=dk X G 70 HD.m215 (by walk_at"kk") fun _ _ _ _ _ _=>yJ (fun _=>rfl);have dH:Def _ mg "cells_of" pz gB 90 _:=dk X G 89 HD.m264 (by walk_at"kk") fun _ _ _ _ _ _=>yG (fun _ _=>rfl);have ff:Def _ mg "parts_of" l9 e9 95 _:=dk X G 94 HD.m264 (by walk_at"kk") fun _ _ _ _ _ _=>yJ (fun _=>rfl);have n9:Def _ mg "rooted" uF mW 102 _:=dk X G 101 HD.m264 (by walk_at"kk") fun _ _ _ _ _ _=>yJ (fun _=>rfl);have gn:Def _ mg "cells_with" fN cV 83 _:=dk X G 82 HD.m264 (by walk_at"kk") fun _ _ _ _ _ _=>yG (fun _ _=>rfl);have jc:Def _ mg "with_entry" mv fO 78 _:=dk X G 77 HD.m264 (by walk_at"kk") fun _ _ _ _ _ _=>NS (fun _ _ _=>rfl);have qX:Def _ mg "mended" uW lB 121 _:=dk X G 120 HD.m264 (by walk_at"kk") fun _ _ _ _ _ _=>NS (fun _ _ _=>rfl);have dI:Def _ mg "cell_without" fM ck 114 _:=dk X G 113 HD.m264 (by walk_at"kk") fun _ _ _ _ _ _=>yG (fun _ _=>rfl);have eZ:Def _ mg "without_entry" iB c4 109 _:=dk X G 108 HD.m264 (by walk_at"kk") fun _ _ _ _ _ _=>NS (fun _ _ _=>rfl);have kB:Def _ mg "entry_key" nU im 135 _:=dk X G 134 HD.m264 (by walk_at"kk") fun _ _ _ _ _ _=>yJ (fun _=>rfl);have jd:Def _ mg "index_from" lS gk 128 _:=dk X G 127 HD.m264 (by walk_at"kk") fun _ _ _ _ _ _=>yJ (fun _=>rfl);have cO:Def _ mg "column_place" jD dE 142 _:=dk X G 141 HD.m352 (by walk_at"kk") fun _ _ _ _ _ _=>yG (fun _ _=>rfl);have fE:Def _ mg "new_table" nS hZ 170 _:=dk X G 169 HD.m364 (by walk_at"kk") fun _ _ _ _ _ _=>yJ (fun _=>rfl);have c9:Def _ mg "index_without" iH c8 191 _:=dk X G 190 HD.m364 (by walk_at"kk") fun _ _ _ _ _ _=>NS (fun _ _ _=>rfl);have jM:Def _ mg "with_row" pS jw 177 _:=dk X G 176 HD.m364 (by walk_at"kk") fun _ _ _ _ _ _=>NS (fun _ _ _=>rfl);have gW:Def _ mg "without_row" kU eN 184 _:=dk X G 183 HD.m364 (by walk_at"kk") fun _ _ _ _ _ _=>yG (fun _ _=>rfl);have je:Def _ mg "entries_by" i5 fS 203 _:=dk X G 202 HD.m364 (by walk_at"kk") fun _ _ _ _ _ _=>yG (fun _ _=>rfl);have jf:Def _ mg "with_index" mn gd 198 _:=dk X G 197 HD.m364 (by walk_at"kk") fun _ _ _ _ _ _=>yG (fun _ _=>rfl);have jg:Def _ mg "numbers_of" lU gc 210 _:=dk X G 209 HD.m364 (by walk_at"kk") fun _ _ _ _ _ _=>yJ (fun _=>rfl);have cT:Def _ mg "_law_cell_at" nq hV 217 _:=dk X G 216 HD.m462 (by walk_at"kk") fun _ _ _ _ _ _=>yG (fun _ _=>rfl);have jN:Def _ mg "_law_rank" uO nH 224 _:=dk X G 223 HD.m462 (by walk_at"kk") fun _ _ _ _ _ _=>yJ (fun _=>rfl);have oM:Def _ mg "_law_ahead" rT lH 231 _:=dk X G 230 HD.m462 (by walk_at"kk") fun _ _ _ _ _ _=>yG (fun _ _=>rfl);have oN:Def _ mg "_law_first" rj lK 238 _:=dk X G 237 HD.m462 (by walk_at"kk") fun _ _ _ _ _ _=>yJ (fun _=>rfl);have kC:Def _ mg "_law_entries" nC g6 245 _:=dk X G 244 HD.m462 (by walk_at"kk") fun _ _ _ _ _ _=>yJ (fun _=>rfl);have gX:Def _ mg "_law_entry_key" kQ eJ 252 _:=dk X G 251 HD.m462 (by walk_at"kk") fun _ _ _ _ _ _=>yJ (fun _=>rfl);have sj:Def _ mg "_law_is" uP uY 257 _:=dk X G 256 HD.m462 (by walk_at"kk") fun _ _ _ _ _ _=>Uy (fun _ _ _ _=>rfl);have lM:Def _ mg "_law_names" oI lw 262 _:=dk X G 261 HD.m462 (by walk_at"kk") fun _ _ _ _ _ _=>yG (fun _ _=>rfl);have kD:Def _ mg "_law_sign_by" mT g9 269 _:=dk X G 268 HD.m462 (by walk_at"kk") fun _ _ _ _ _ _=>yJ (fun _=>rfl);have kE:Def _ mg "_law_text_by" kr gZ 274 _:=dk X G 273 HD.m462 (by walk_at"kk") fun _ _ _ _ _ _=>yJ (fun _=>rfl);have jh:Def _ mg "_law_shape_by" ms fZ 281 _:=dk X G 280 HD.m462 (by walk_at"kk") fun _ _ _ _ _ _=>yG (fun _ _=>rfl);have jO:Def _ mg "_law_row_by" pA jn 288 _:=dk X G 287 HD.m462 (by walk_at"kk") fun _ _ _ _ _ _=>yG (fun _ _=>rfl);have mC:Def _ mg "_law_number" pU jp 295 _:=dk X G 294 HD.m462 (by walk_at"kk") fun _ _ _ _ _ _=>yG (fun _ _=>rfl);have qY:Def _ mg "_law_step" tW m9 302 _:=dk X G 301 HD.m462 (by walk_at"kk") fun _ _ _ _ _ _=>Uy (fun _ _ _ _=>rfl);have mD:Def _ mg "_law_filled" pV jr 309 _:=dk X G 308 HD.m462 (by walk_at"kk") fun _ _ _ _ _ _=>yG (fun _ _=>rfl);have HI:Def _ mg "law" wV ve 316 _:=dk X G 315 HD.m462 (by walk_at"kk") fun _ _ _ _ _ _=>yJ (fun _=>rfl);have mE:mg "Table"=some (.ref 159):=Zn X G (by kernel_rfl);have aY:Uo (HD.K w.params) "Table" 159:=(by kernel_rfl:Xv (HD.K w.params) WJ "Table"=some (some (.ref 159)));have a9:IsC (HD.K w.params) 159:=⟨⟨by kernel_rfl,by kernel_rfl,by kernel_rfl,by kernel_rfl⟩,by kernel_rfl,by kernel_rfl,by kernel_rfl,by kernel_rfl,by kernel_rfl⟩;have lN:Mk (HD.K w.params) 159 156:=⟨by kernel_rfl,by kernel_rfl,by kernel_rfl,by kernel_rfl⟩;have qZ:Fun (HD.K w.params) "__init__" "Table.__init__" lG 156 (Ya "__init__" "Table.__init__" (iO lG) (dR lG) (ax lG) .none .none .none HD.m364 none (.ref 155) .none):=Hi (oc:=.type "function") (od:=none) (osl:=#[]) (by kernel_rfl) (by kernel_rfl) (by kernel_rfl);have lO:=qZ.binds (ps:=["self","shape","rows","indexes"]) fun _ _ _ _ _ _=>Uy (fun _ _ _ _=>rfl);have bx:gz (HD.K w.params) 159 "shape":=(by kernel_rfl:Xx (HD.K w.params) (.ref 159) "shape"=some none);have bz:gz (HD.K w.params) 159 "rows":=(by kernel_rfl:Xx (HD.K w.params) (.ref 159) "rows"=some none);have bt:gz (HD.K w.params) 159 "indexes":=(by kernel_rfl:Xx (HD.K w.params) (.ref 159) "indexes"=some none);refine ⟨Ya "law" "law" (iO wV) (dR wV) (ax wV) .none .none .none (.str "law_tablestore_k30_one_table" 462) none (.ref 315) .none,fun s v=>.of_eq rfl,fun base _ _=>?_⟩;exact MY ⟨fD,oJ,kA,dh,gU,dW,ip,mB,dH,ff,n9,gn,jc,qX,dI,eZ,kB,jd,cO,fE,c9,jM,gW,je,jf,jg,cT,jN,oM,oN,kC,gX,sj,lM,kD,kE,jh,jO,mC,qY,mD,HI,⟨_,I,rfl,rfl⟩,Zn X G Y,rfl,fun H=>⟨15,[V.str "none",V.str "number",V.str "text"],rfl,.inr ⟨_,_,_,I,rfl,rfl,(by rw [W0];exact IF (show 3<=1000 by decide) (by decide)),(.cons ⟨_,rfl⟩ (.cons ⟨_,rfl⟩ (.cons ⟨_,rfl⟩ .nil)))⟩,(aM.cons rfl (aM.cons rfl (aM.cons rfl aM.nil)))⟩,Zn X G J,⟨_,rfl⟩,fun H=>rfl,Zn X G v_MOST,⟨_,rfl⟩,fun H=>rfl,mE,aY,a9,lN,qZ,lO,bx,bz,bt,L (by kernel_rfl),L (by kernel_rfl),L (by kernel_rfl),L (by kernel_rfl),L (by kernel_rfl),L (by kernel_rfl),L (by kernel_rfl),L (by kernel_rfl),L (by kernel_rfl),L (by kernel_rfl),L (by kernel_rfl)⟩
def walk {l:aa9} {q:Ww} {loose:acH} {XP:(acK)->Yy->Prop} {L:WU->Yy->Prop} {d:DefRec} {K:aaB->aT} (hn:l.most=some 63) (J:d.params.defaults=[])
  (Y:∀ (w:WU) (h:Yy),L w h->(K w.params).In h)
  (F:∀ (w:WU) (mg:acK) (I:ID) (h:Yy),(K w.params).In h->h.Ns WJ mg->mg d.name=some (.ref I) ->
   ∃ fd:W2,(∀ (s:gs) (u:dO),BindsTo s fd ⟨[u],[]⟩ [("_law_script",u)])/\∀ base:Yy,(K w.params).In base->base.Ns WJ mg->FnOk l.prog w (K w.params) mg base cP 20 I fd ve (eF (K w.params) mg vU)) :
  PySem.W.WalkO q loose XP L l.row.toRowW d [] (fun f vs=>abZ f vs) :=
 L2.Kp (n:=63) (k:=20) (x:="_law_script") (CX:=fun _=>cP) (sp:=fun w=>F9 (K w.params) vU) hn (by decide) J ⟨rfl,by decide,by decide⟩ Y (fun w mg I h h1 h2 h3=>Ig (F w mg I h h1 h2 h3)) (fun _ _ a ns hl _ hS=>Kl hS (law_true ns hl) fun _=>rfl) fun _ _ _ _ _ z=>z
end T30
open PySem PySem.W PyProof.Rows
set_option maxRecDepth 100000 in
set_option maxHeartbeats 0 in
theorem PySem.Challenge.cw_tablestore_k30_one_table_holds : PySem.Challenge.rw_tablestore_k30_one_table.Holds := by
 refine HD.hold (L2.walkX (fun _=>by kernel_rfl) ?_);exact T30.walk (l:=PySem.Challenge.rw_tablestore_k30_one_table) (K:=HD.K) rfl (by kernel_rfl) (fun w h Y=>Y) fun w mg fa h KX G hmg=>T30.all_mk KX G hmg
