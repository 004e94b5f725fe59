import PyProof.Rows.All
import Wide.All
import OpenK.AllK
import Wide.FinOn
import Lean
import PyProof.EqAt
import PyProof.EqKinds
import PyProof.TupleCall
import PyProof.ZipIter
import PyProof.Draws
import PyProof.EnumMake
import PyProof.Rows.SetFrom
import KE.KIntText
import KE.IntTextLaws
import KE.KSortTup
import PyProof.StrLawsChain
import PyProof.StrCalls6
import PyProof.ExcAttrAll.ValueError
import PySem.Challenge.RW_tablestore_k32_changes_told
set_option maxHeartbeats 4000000
set_option maxRecDepth 100000
set_option linter.all false
set_option compiler.extract_closed false
open Array renaming length_toList->X8,getElem?_toList->Zk,perm_iff_toList_perm->Zt,toList_inj->aal,getElem?_eq_some_iff->aaJ,toList_map->abc,find?_toList->ab2,mk->ab7
open Array.Perm renaming refl->acK
open Bool renaming false_ne_true->nE,and_eq_true->Xe,false_eq_true->Yo,eq_iff_iff->ZN,and_eq_true_iff->abE,and_false->abJ,not_eq_true'->acj
open False renaming elim->Yv
open ForInStep renaming yield->aau
open Int renaming toNat_natCast->XN,emod_nonneg->abu
open List renaming mem_cons->iN,length_map->lE,mem_cons_of_mem->lT,getElem?_eq_getElem->rW,map_cons->By,length_append->BY,size_toArray->Do,mem_append->DO,mem_singleton->OR,mem_cons_self->W6,not_mem_nil->W7,mem_append_right->Xc,mem_append_left->Xf,mem_map->Xi,length_cons->Xq,getElem?_eq_some_iff->Xu,getElem?_map->Xw,of_mem_zip->XA,find?_cons->XB,length_singleton->XF,length_take->XH,nodup_cons->XI,map_map->XU,all_eq_true->XW,getElem_mem->XX,append_nil->XY,zip_cons_cons->X7,length_drop->Ya,nodup_nil->Ye,map_append->Yf,map_congr_left->Yh,all_cons->Yn,mem_of_getElem?->Yx,lookup_cons->Yz,mem_filter->YF,forall_mem_cons->YI,range->YN,length_range->YO,lookup->YR,drop_eq_getElem_cons->YZ,mem_of_mem_take->Y1,append_assoc->Y3,pairwise_singleton->Zb,length_eq_one_iff->Zg,take_of_length_le->Zh,length_filter_le->Zm,nodup_append->Zo,getD_eq_getElem?_getD->Zu,mem_of_mem_drop->Zv,pairwise_append->Zw,replicate->Zx,getElem?_append_left->Zy,mem_of_find?_eq_some->ZD,filterMap_cons->ZF,mergeSort_perm->ZH,any_cons->ZR,getElem?_cons_zero->ZS,find?_eq_none->ZV,take_succ_eq_append_getElem->ZX,pairwise_map->Z2,drop_zero->Z8,filter_cons->aah,drop_length->aai,take_length->aak,length_nil->aas,forIn_cons->aat,filter_sublist->aav,length_zip->aay,getElem?_append_right->aaG,set->aaM,pairwise_iff_getElem->aaP,flatten_cons->aaX,foldl_append->aaZ,getElem?_replicate->aa4,getElem?_cons_succ->aa5,pairwise_mergeSort->aa7,range'_succ->abb,getElem?_set_self->abe,drop_eq_nil_of_le->abh,map_nil->abk,find?_some->abo,getElem?_eq_none->abp,nil_append->abq,getElem?_set_ne->abC,mem_range->abF,take_zero->abI,lt_irrefl->abL,length->abQ,filter_eq_self->abT,mem_filterMap->ab1,any_eq_false->acb,take_sublist->acf,range'->acH
open List.Pairwise renaming nil->Z1
open List.Perm renaming eq_of_pairwise->aa0
open List.cons renaming inj->aa6,injEq->acN
open Nat renaming le_refl->mK,le_trans->IF,lt_of_lt_of_le->W5,ne_of_lt->Xb,zero_le->Xk,le_succ_of_le->YM,lt_succ_of_lt->Y5,lt_irrefl->Y9,lt_succ_self->Ze,le_succ->Zj,min_eq_left->ZT,le_add_right->aaj,sub_le_sub_right->aap,div_le_div_right->aaq,not_lt_zero->aaw,ne_of_gt->aaL,min_le_left->abm,zero_add->abn,add_mul_div_right->abt,sub_le_sub_left->abS,le_of_lt->acn,le_of_eq->aco,lt_or_ge->acr,sub_sub->acJ
open Ne renaming symm->YU
open Option renaming bind_eq_some_iff->Ys,isSome_map->Z0,map_eq_some_iff->abg,getD_none->acu,bind_some->acy,map_some->acG
open Option.some renaming inj->Xp,injEq->aaW
open Or renaming inl->W8,inr->YH
open Prod renaming fst->Xo
open PyProof.Rows renaming arrOf->Xj,wpS_bind->Xm,wpS_pure->XM,seqObj->XT,slot_tuple_getitem->XZ,callWith_type1->Ym,SortSt->YB,Keyed->YL,pendingOf->Y8,listUpdate_at->Zq,wpS_forRange->ZL,failedOf->aac,callWith_builtin1->aad,IsTup->aam,get?_update_seq->aaD,envOfC->abd,SortKind->abB,wpS_get->abV,ksk_end->abW,wpS_lift->ab9,wpS_mono->aca,wpS_modify->ack
open PyProof.Rows.SortSt renaming mk'->abA
open PySem renaming wpAny_bind->bY,Value->eQ,Shared->iF,wpAny_pure->oR,Addr->Le,wpAny->RW,mainGlobals->W9,model->Xa,sizeLine->Xd,Program->Xh,bootBuiltins->Xl,compareOp->Xn,Around->Xs,World->Xv,starEach->Xy,FuncData->Xz,wpAny_mono->XC,sizeLine_eq->XJ,wpAny_Call_Name_kw->XR,wpAny_field->X4,foldedSetIterable->X5,Expr->Yb,wpAny_holding->Yc,Stmt->Yj,assignEach->Yk,wpAny_newObj_type->Yl,wpAny_callSpecial?_slot->Yu,wpAny_call_entry->YA,sysModules->YC,binaryOp->YD,attributeBase->YE,Heap->YG,behindInMarks->YK,mem_of_lookup->YS,codeAny_mono->YW,wpAny_is_plain->Y0,wpAny_passesOwn->Y6,wpAny_truthy_bool->Y7,wpAny_attempt->Zc,OsState->Zd,swapsWith->Zf,backTo->ZK,cLine->ZM,tupleKind_room_in1->ZW,codeAny->Z3,sliceBounds->Z4,wpAny_rule->Z5,NameKind->aaa,wpAny_setField->aab,Fin->aae,rawInt->aaf,wpAny_execs_nil->aaz,PassesOwn->aaA,letOwnedTupleGo->aaB,wpAny_loadPart'->aaC,treeTable->aaE,Params->aaN,getItem->aaQ,keywordEach->aa9,standAt->abv,PyData->abw,Keyword->abU,pyIter->ab8,call->ach,Within->acm
open PySem.Around renaming under_plainId->abD,under->acp
open PySem.Builtin.Slice renaming slicePlaces->YY,sliceAdjust->Zz,sliceApplied->aaH
open PySem.Builtin.SmallTypes renaming nextOf->XS,ownedTupleIsFree->Yg,ownedTupleHandOut->ZC
open PySem.Builtin.Str renaming strSliceIndices->Yp,occurrences->ZO
open PySem.Builtin.Tuple renaming tupleExact->Y2,tupleItemsOf->aaI,tupleIsExact->aaK
open PySem.Calls renaming callWith_builtin->ZZ,evalArgs_plain->aao,Name_function_global->aaF,spliced_cons->ab4,spliced_nil->ace
open PySem.Code renaming isFrame->acq
open PySem.EntryCells renaming newEntry->abR
open PySem.F renaming called_set->Yr,excBase_ValueError->Zs,args_tuple_add_2->ZJ,entry_tuple_add->ZQ,slot_tuple_add->ZY,slot_dict_getitem->aaO,slot_tuple_index->aaY
open PySem.Fin renaming done->acU
open PySem.Flow renaming ret->acV
open PySem.Heap renaming get?_push_of_some->dO,get?_push_size->ID,lt_size->MK,SameBut->X6,size_push->X9,get?_update_other->Yd,get?_update_self->Zl,get?_update_ne->ZI,get?_none_of_le->aan,get?_push_ne->aa1,ExtBut->acF
open PySem.Heap.SameBut renaming update->ZG
open PySem.IsL renaming update->acw
open PySem.NameKind renaming free->X2,cell->acT
open PySem.Obj renaming mapSeq->Xx,data_mapFields->Yq,mapFields->YJ,isFreed_of_fields->YV
open PySem.Paired renaming length->aa2
open PySem.PassesOwn renaming never->Yt
open PySem.PyData renaming eqv->Y4,canLayAll0->Zp,depthAll->ZU,eqvAll->aa8,depth->abr
open PySem.SeqAt renaming shaped->X1,canLay_of_shaped->Zi,eqv_refl->abM,notIn_listAt->ab5,EqAt->acg,in_tupleAt->acv,eqAt_reads->acB
open PySem.SeqAt.EqAt renaming int_str->abZ,str_int->ab0
open PySem.Str renaming ofString->XD,length->aby
open PySem.Txt renaming join->abz
open PySem.Value renaming ref->Xr,none->XG,isStrOf->Zn,type->aar,bool->abx,isInt->abN,int->abX,str->abY,builtin->ab6,float->acD
open PySem.W renaming Frag->aT,nsIn->Xg,kia_one->XO,mg_of->XQ,findIn->X0,emptyDict->Yi,fnOf->Yy,instObj->YQ,kitOne->YX,excIn->Za,looks_pair->Zr,callWith_K->ZP,keepIn->Z6,codeIn->Z7,exmOne->Z9,boot_heap->aag,KeysLit->aax,methodObj->aaR,hasDictIn->aaS,specialIn->aaT,kitx_list->aaU,kitx_dict->aaV,mroIn->aa3,plainGet->aba,cellsFrom_some->abf,takerIn->abi,takesIn->abj,OpenLaw->abl,lookIn->abG,InstAt->abH,kitAny->abK,kitx_tuple->ab3,plainOver->acd,handedIn->acs,BoolBack->acz,kat_cons->acA,kdl_dict->acC,makesIn->acE,mapOf_K->acI,kat_one->acL,kat_yes->acM,notCls->acO,kat_go->acP,kat_no->acQ,keq_ne->acR,keq_eq->acS
open PySem.W.Fast renaming te14364793385576792824->X3,te10110043849684766642->YT
open PySem.WalksT renaming enumerateD->aci
open Std.Legacy renaming Range->acx
open Sum renaming inr->ZE,inl->abO
open Sum.inr renaming inj->abP
open True renaming intro->Yw
def acW:=@if_pos
def acX:=@if_neg
def acY:=@decide_eq_false
def acZ:=@decide_eq_true
def ac0:=@of_decide_eq_true
def ac1:=@congrArg
abbrev ac2:=List Nat
abbrev ac3:=List PySem.Str
abbrev ac4:=List (PySem.Addr×PySem.Obj)
abbrev ac5:=PySem.Value->PySem.Shared->Prop
abbrev ac6:=PySem.Str->Option PySem.Value
abbrev ac7:=List PySem.Addr
abbrev ac8:=List PySem.Value
abbrev adb (x:PySem.Str):Prop:=(x==("__debug__":PySem.Str))=false
local macro_rules|`(tactic|walk_at "v")=>`(tactic|first|exact Or.inl rfl|exact Or.inr (Or.inl rfl)|exact Or.inr (Or.inr rfl))
local macro_rules|`(tactic|walk_at "u")=>`(tactic|first|exact Or.inl rfl|exact Or.inr rfl|assumption)
local macro_rules|`(tactic|trivial)=>`(tactic|decide +kernel)
namespace L2
def fH {α β J ε:Type} {p q:α->β->J->ε->Prop} {r:Prop} (h:∃ a b c d,p a b c d/\q a b c d) (k:∀ a b c d,p a b c d->q a b c d->r):r:=by
 obtain ⟨a,b,c,d,x,y⟩:=h;exact k a b c d x y
def n6 {α β:Type} {p q r:α->β->Prop} {z:Prop} (h:∃ a b,p a b/\q a b/\r a b) (k:∀ a b,p a b->q a b->r a b->z):z:=by
 obtain ⟨a,b,x,y,w⟩:=h;exact k a b x y w
end L2
set_option Elab.async false
namespace L2
open PySem Sem
def qc {M:Model} {Γ:Ctx} {p:Pos} {t:Sem Fin} {fs:List Frame} {s:iF} {e:End} {s':iF} (h:Runs M Γ p t fs s e s'):s.toks<=s'.toks:=by
 induction h <;> first
  | exact mK _
  | assumption
  | (rename_i Y;exact Nat.le_of_succ_le Y)
  | (rename_i L J;exact IF L J)
  | (rename_i h1 h2 h3 L J;exact IF L J)
def D3 {M:Model} {L:Ctx} {p:Pos} {g:Nat} {r:Resume} {s:iF} {J:GenResult} {s':iF} (h:Wakes M L p g r s J s'):s.toks<=s'.toks:=by
 unfold Wakes at h;split at h
 .exact h.elim
 .split at h
  .obtain ⟨e1,s1,h1,_,_,rfl⟩:=h;have q:=qc h1;exact q
  .rw [h.2];exact mK _
  .rw [h.2];exact mK _
 .obtain ⟨e1,s1,h1,_,_,rfl⟩:=h;have q:=qc h1;exact q
 .rw [h.2];exact mK _
 .rw [h.2];exact mK _
def wp_toks {X:Type} {n:Nat} {post:X->Pos->iF->Prop} {Y:eQ->Pos->iF->Prop} (M:Model) (Γ:Ctx) (L:Sem X) (pos:Pos) (sh:iF) (hn:n<=sh.toks)
  (mY:wp M Γ L (fun x p s=>n<=s.toks->post x p s) (fun x p s=>n<=s.toks->Y x p s) pos sh):wp M Γ L post Y pos sh:=by
 revert mY hn
 induction L generalizing pos sh with
 | pure x=>exact fun hn h=>h hn
 | raise v=>exact fun hn h=>h hn
 | unsupported|finish|yield|fork|await|register=>exact fun _ h=>h
 | rule _ k J|«at» _ k J|alloc _ k J|loadIfAlive _ k J|point _ k J|ask k J|os _ _ k J|handled _ k J|newGen _ k J|stack k J|thread k J=>exact fun hn h=>J _ _ _ hn h
 | fresh k J=>exact fun hn h=>J _ _ _ (YM hn) h
 | load a _ k J|genState a k J=>exact fun hn ⟨o,ho,h⟩=>⟨o,ho,J _ _ _ hn h⟩
 | update a _ f k J|choose _ _ k J=>exact fun hn ⟨ha,h⟩=>⟨ha,J _ _ _ hn h⟩
 | call c h g l k J=>exact fun hn ⟨r,s',hr,hk⟩=>⟨r,s',hr,J r pos s' (IF hn (qc hr)) hk⟩
 | resume g r l k J=>exact fun hn ⟨res,s',hw,h⟩=>⟨res,s',hw,J _ _ _ (IF hn (D3 hw)) h⟩
def bf {α:Type} {M:Model} {A:Xs} {t:Sem α} {Q:α->iF->Prop} {E:ac5} {s:iF} {n:Nat} (hn:n<=s.toks)
  (h:RW M A t (fun v s'=>n<=s'.toks->Q v s') (fun e s'=>n<=s'.toks->E e s') s):RW M A t Q E s:=fun L p J=>wp_toks M L t p s hn (h L p J)
def fM {M:Model} {A:Xs} {c:Code} {R:Result->iF->Prop} {s:iF} {n:Nat} (hn:n<=s.toks) (h:Z3 M A c (fun r s'=>n<=s'.toks->R r s') s):Z3 M A c R s:=fun L p e J =>
 let ⟨r,s',hr,hR⟩:=h L p e J
 ⟨r,s',hr,hR (IF hn (qc hr))⟩
end L2
namespace L2
open PySem PySem.Spec PyProof.Rows
abbrev bC:=Sum Int Str
def vf:bC->eQ->Bool
 | .inl k,v=>abN k v
 | .inr x,v=>Zn x v
def We (w:Xv):bC->Int
 | .inl k=>hashInt k
 | .inr x=>hashStr w x
def cK:∀ {k:bC} {v:eQ},vf k v=true->(∃ i t,k=abO i/\v=abX i t)\/(∃ x t,k=ZE x/\v=abY x t)
 | .inl i,v,h=>by
  obtain ⟨t,e⟩:=Value.isInt_shape (k:=i) (v:=v) h;exact .inl ⟨i,t,rfl,e⟩
 | .inr x,v,h=>by
  obtain ⟨t,e⟩:=Value.isStrOf_shape (x:=x) (v:=v) h;exact .inr ⟨x,t,rfl,e⟩
def Ga (i:Int) (t:Tok):vf (.inl i) (.int i t)=true:=by simp [vf,abN]
def GZ (x:Str) (t:Tok):vf (.inr x) (.str x t)=true:=by simp [vf,Zn]
def Rj (a b:Int):decide ((abO a:bC)=abO b)=(a==b):=by
 by_cases e:a=b
 .subst e;simp
 .have h:¬ (abO a:bC)=abO b:=fun q=>e (Sum.inl.inj q);rw [acY h];exact (beq_eq_false_iff_ne.mpr e).symm
def Q4 (a b:Str):decide ((ZE a:bC)=ZE b)=decide (a=b):=by
 by_cases e:a=b
 .subst e;simp
 .have h:¬ (ZE a:bC)=ZE b:=fun q=>e (abP q);rw [acY h,acY e]
def OH (a:Int) (b:Str):decide ((abO a:bC)=ZE b)=false:=acY (fun q=>nomatch q)
def Pj (a:Str) (b:Int):decide ((ZE a:bC)=abO b)=false:=acY (fun q=>nomatch q)
def cb (prog:Xh) (w:Xv):PySem.KeyKind prog w bC where
 is:=vf
 hash:=We w
 inj:=fun v a b Y L=>by
  rcases cK Y with ⟨i,t,rfl,rfl⟩|⟨x,t,rfl,rfl⟩
  .rcases cK L with ⟨j,u,rfl,e⟩|⟨y,u,rfl,e⟩
   .injection e with e1 _;rw [e1]
   .exact nomatch e
  .rcases cK L with ⟨j,u,rfl,e⟩|⟨y,u,rfl,e⟩
   .exact nomatch e
   .injection e with e1 _;rw [e1]
 byValue:=fun k v h=>by
  rcases cK h with ⟨i,t,rfl,rfl⟩|⟨x,t,rfl,rfl⟩ <;> rfl
 pyHash:=fun J h=>by
  rcases cK J with ⟨i,t,rfl,rfl⟩|⟨x,t,rfl,rfl⟩
  .exact wpAny_pyHash_int h
  .exact wpAny_pyHash_str h
 eqBool:=fun hu J h=>by
  rcases cK hu with ⟨i,t,rfl,rfl⟩|⟨x,t,rfl,rfl⟩
  .rcases cK J with ⟨j,u,rfl,rfl⟩|⟨y,u,rfl,rfl⟩
   .rw [Rj] at h;exact wpAny_eqBool_int h
   .rw [OH] at h;exact abZ i t y u _ _ _ _ h
  .rcases cK J with ⟨j,u,rfl,rfl⟩|⟨y,u,rfl,rfl⟩
   .rw [Pj] at h;exact ab0 x t j u _ _ _ _ h
   .rw [Q4] at h;exact wpAny_eqBool_str h
 «strs»:=fun k x t v h=>by
  rcases cK h with ⟨i,u,rfl,e⟩|⟨y,u,rfl,e⟩
  .exact nomatch e
  .injection e with e1 _
   subst e1;cases v <;> rfl
def Bw (prog:Xh) (w:Xv) (i:Int) (t:Tok):(cb prog w).is (.inl i) (.int i t)=true:=Ga i t
def Bb (prog:Xh) (w:Xv) (x:Str) (t:Tok):(cb prog w).is (.inr x) (.str x t)=true:=GZ x t
inductive V where
 | non|bl (b:Bool)|int (i:Int)|str (x:Str)|byt (b:Array UInt8)|flt (b:UInt64)|ref (a:Le)|ty (n:String)
 deriving DecidableEq
abbrev ac9:=List V
def ba:V->eQ->Prop
 | .non,u=>u=XG
 | .bl b,u=>u=abx b
 | .int i,u=>∃ t,u=abX i t
 | .str x,u=>∃ t,u=abY x t
 | .byt b,u=>∃ t,u=Value.bytes b t
 | .flt b,u=>∃ t,u=acD b t
 | .ref a,u=>u=Xr a
 | .ty n,u=>u=aar n
abbrev br:ac9->ac8->Prop:=Paired ba
theorem br.length {xs:ac9} {us:ac8} (r:br xs us):xs.length=us.length:=aa2 r
def br.get:∀ {xs:ac9} {us:ac8} {i:Nat} {x:V},br xs us->xs[i]?=some x->∃ u,us[i]?=some u/\ba x u
 | _,_,_,_,.nil,e=>by simp at e
 | _,_,0,_,.cons r _,e=>by simp at e;subst e;exact ⟨_,rfl,r⟩
 | _,_,i+1,x,.cons _ t,e=>by
  obtain ⟨u,h1,h2⟩:=br.get (i:=i) (x:=x) t (by simpa using e);exact ⟨u,by simpa using h1,h2⟩
def br.append:∀ {xs ys:ac9} {us ws:ac8},br xs us->br ys ws->br (xs++ys) (us++ws)
 | _,_,_,_,.nil,s=>s
 | _,_,_,_,.cons r t,s=>.cons r (br.append t s)
def br.take:∀ {xs:ac9} {us:ac8} (n:Nat),br xs us->br (xs.take n) (us.take n)
 | _,_,0,_=>.nil
 | _,_,_+1,.nil=>.nil
 | _,_,n+1,.cons r t=>.cons r (br.take n t)
def br.drop:∀ {xs:ac9} {us:ac8} (n:Nat),br xs us->br (xs.drop n) (us.drop n)
 | _,_,0,r=>r
 | _,_,_+1,.nil=>.nil
 | _,_,n+1,.cons _ t=>br.drop n t
def qW:Option V->Option eQ->Prop
 | some v,some u=>ba v u
 | none,none=>True
 | _,_=>False
def KV {κ:Type}:List (κ×V)->List (κ×eQ)->Prop:=Paired fun (p:κ×V) (q:κ×eQ)=>p.1=q.1/\ba p.2 q.2
def kV:bC->V
 | .inl i=>.int i
 | .inr x=>.str x
inductive HO where
 /-- a list -/
 | lst (xs:ac9)
 /-- a tuple (never changes) -/
 | tup (xs:ac9)
 /-- a dict whose keys are ints and texts;one whose keys are tuples of ints and texts (the empty one is both) -/
 | dK (kvs:List (bC×V))|dT (kvs:List (List bC×V))
 /-- a set of ints: its members,its size -/
 | set (S:Int->Bool) (n:Nat)
 /-- an instance of the class at C,its dict at dx,its attributes -/
 | ins (C dx:Le) (fs:List (Str×V))
 /-- the dict of the instance at x -/
 | own (x:Le)
 /-- the dict of an exception -/
 | xd (fs:List (Str×V))
 /-- a bound method,f of x -/
 | met (f x:Le)
 /-- a range object lo,lo+1,.. below hi -/
 | rng (lo hi:Int)
 /-- a thing that is mY to the object (the script;a dict while a loop walks it): read,never written while it is so -/
 | frz (o:Obj) (u:HO)
 /-- a code object's table -/
 | tbl (ps:Array eQ)
 /-- any other thing,by what is true of its one object (a def of one's own: SetO a S n:=HO.ext fun h=>..) -/
 | ext (φ:YG->Prop)
abbrev Hp:=Le->Option HO
def upd (H:Hp) (a:Le) (o:HO):Hp:=fun b=>if b=a then some o else H b
def aS {H:Hp} {a:Le} {o:HO}:upd H a o a=some o:=by unfold upd;rw [acW rfl]
def aM {H:Hp} {a b:Le} {o:HO} (h:b≠a):upd H a o b=H b:=by unfold upd;rw [acX h]
def Av {H:Hp} {a:Le} {o u:HO}:upd (upd H a o) a u=upd H a u:=by
 funext b;unfold upd;split <;> rfl
def Um {H:Hp} {a b:Le} {o u:HO} (h:H a=some o) (h':H b=some u) (d:o≠u):a≠b:=by
 intro e;subst e;rw [h] at h';exact d (Xp h')
def bB {H:Hp} {a b:Le} {o:HO} (h:H a=some o) (h':H b=none):a≠b:=by
 intro e;subst e;rw [h] at h';cases h'
section
variable (P:Xh) (w:Xv)
def bT (H:Hp) (h:YG) (a:Le):HO->Prop
 | .lst xs=>xs.length<=Xd/\∃ (its:ac8) (n:Nat),br xs its/\h.get? a=some { cls:=.type "list",data:=.seq its.toArray n }
 | .tup xs=>xs.length<=Xd/\∃ its:ac8,br xs its/\aam h a its.toArray
 | .dK kvs=>kvs.length<=Xd/\(a==YC)=false/\∃ vs,KV kvs vs/\h.DictOf (cb P w) a vs
 | .dT kvs=>kvs.length<=Xd/\(a==YC)=false/\∃ xs:List (List bC×Le×eQ),
   Paired (fun (p:List bC×V) (q:List bC×Le×eQ)=>p.1=q.1/\H q.2.1=some (.tup (p.1.map kV))/\ba p.2 q.2.2) kvs xs /\
   ∃ o es ep,h.get? a=some o/\o.ExactDict/\o.data=.dict es ep/\es.toList=xs.map (entryOfKey (tupleKind (cb P w)))/\(xs.map (·.1)).Nodup
 | .set S n=>h.SetOf (intKind P w) a S n
 | .ins C dx fs=>H dx=some (.own a)/\fs.length<=1000/\dx≠a/\h.get? a=some (YQ C dx) /\
   ∃ mA,h.Ns1 dx mA/\(∀ f,qW (fs.lookup f) (mA f))/\acm mA (fs.map (·.1))
 | .own _=>∃ o,h.get? a=some o
 | .xd fs=>∃ mA,h.Ns1 a mA/\∀ f,qW (fs.lookup f) (mA f)
 | .rng lo hi=>∃ t u v,h.get? a=some { cls:=.type "range",data:=.fields #[.int lo t,.int hi u,.int 1 v] }
 | .frz o u=>h.get? a=some o/\bT H h a u
 | .tbl ps=>h.get? a=some { cls:=.none,data:=.fields ps }
 | .met f x=>h.get? a=some (aaR (.ref f) (.ref x))
 | .ext φ=>φ h/\(∃ o,h.get? a=some o)/\∀ h1 h2:YG,φ h1->(∀ o,h1.get? a=some o->h2.get? a=some o)->φ h2
def qF (H:Hp) (h:YG):Prop:=∀ a o,H a=some o->bT P w H h a o
end
section
variable {P:Xh} {w:Xv} {H H':Hp} {h h':YG} {a:Le} {o:HO}
def bT.lt (x:bT P w H h a o):a < h.objs.size:=by
 cases o with
 | lst xs=>obtain ⟨_,_,_,_,e⟩:=x;exact MK e
 | tup xs=>obtain ⟨_,_,_,p⟩:=x;exact p.lt
 | dK kvs=>obtain ⟨_,_,_,_,o,_,_,e,_⟩:=x;exact MK e
 | dT kvs=>obtain ⟨_,_,_,_,o,_,_,e,_⟩:=x;exact MK e
 | set S n=>obtain ⟨o,_,_,_,e,_⟩:=x;exact MK e
 | ins C dx fs=>obtain ⟨_,_,_,e,_⟩:=x;exact MK e
 | own y=>obtain ⟨_,e⟩:=x;exact MK e
 | xd fs=>obtain ⟨_,⟨_,_,_,e,_⟩,_⟩:=x;exact MK e
 | rng lo hi=>obtain ⟨_,_,_,e⟩:=x;exact MK e
 | frz J u=>obtain ⟨e,_⟩:=x;exact MK e
 | tbl ps=>exact MK (show h.get? a=some _ from x)
 | met f y=>exact MK (show h.get? a=some _ from x)
 | ext φ=>obtain ⟨_,⟨_,e⟩,_⟩:=x;exact MK e
def Paired.mapP {α β:Type} {F G:α->β->Prop}:∀ {L:List α} {J:List β},Paired F L J->(∀ a b,F a b->G a b)->Paired G L J
 | _,_,.nil,_=>.nil
 | _,_,.cons r t,f=>.cons (f _ _ r) (Paired.mapP t f)
def bT.stay (x:bT P w H h a o) (k:∀ b u,(b=a\/H b=some (.own a))->h.get? b=some u->h'.get? b=some u)
  (Y:∀ b,H b=some (.own a)->H' b=some (.own a)) (L:∀ b xs,H b=some (.tup xs)->H' b=some (.tup xs)):bT P w H' h' a o:=by
 induction o with
 | lst xs=>obtain ⟨z,its,n,r,e⟩:=x;exact ⟨z,its,n,r,k _ _ (.inl rfl) e⟩
 | tup xs=>obtain ⟨z,its,r,J,e,c⟩:=x;exact ⟨z,its,r,J,k _ _ (.inl rfl) e,c⟩
 | dK kvs=>obtain ⟨z,y,vs,r,J,es,ep,e,c⟩:=x;exact ⟨z,y,vs,r,J,es,ep,k _ _ (.inl rfl) e,c⟩
 | dT kvs =>
  obtain ⟨z,y,xs,r,J,es,ep,e,c⟩:=x;exact ⟨z,y,xs,Paired.mapP r fun p q z=>⟨z.1,L _ _ z.2.1,z.2.2⟩,J,es,ep,k _ _ (.inl rfl) e,c⟩
 | set S n=>obtain ⟨J,es,ep,t,e,c⟩:=x;exact ⟨J,es,ep,t,k _ _ (.inl rfl) e,c⟩
 | ins C dx fs =>
  obtain ⟨d,z,ne,e,mA,⟨od,es,ep,e2,c⟩,r⟩:=x;exact ⟨Y _ d,z,ne,k _ _ (.inl rfl) e,mA,⟨od,es,ep,k _ _ (.inr d) e2,c⟩,r⟩
 | own y=>obtain ⟨J,e⟩:=x;exact ⟨J,k _ _ (.inl rfl) e⟩
 | xd fs=>obtain ⟨mA,⟨od,es,ep,e,c⟩,r⟩:=x;exact ⟨mA,⟨od,es,ep,k _ _ (.inl rfl) e,c⟩,r⟩
 | rng lo hi=>obtain ⟨t,u,v,e⟩:=x;exact ⟨t,u,v,k _ _ (.inl rfl) e⟩
 | frz J u ih=>obtain ⟨e,q⟩:=x;exact ⟨k _ _ (.inl rfl) e,ih q⟩
 | tbl ps =>
  have e:h.get? a=some { cls:=.none,data:=.fields ps }:=x;show h'.get? a=some { cls:=.none,data:=.fields ps };exact k a _ (.inl rfl) e
 | met f y =>
  have e:h.get? a=some (aaR (.ref f) (.ref y)):=x;show h'.get? a=some (aaR (.ref f) (.ref y));exact k a _ (.inl rfl) e
 | ext φ=>obtain ⟨p,⟨o,e⟩,st⟩:=x;exact ⟨st _ _ p fun o q=>k _ _ (.inl rfl) q,⟨o,k _ _ (.inl rfl) e⟩,st⟩
def qF.lt (x:qF P w H h) (e:H a=some o):a < h.objs.size:=(x a o e).lt
def qF.fresh (x:qF P w H h) (e:h.objs.size<=a):H a=none:=by
 cases q:H a with
 | none=>rfl
 | some u=>exact absurd (W5 (x.lt q) e) (Y9 _)
def qF.kept (x:qF P w H h) (k:∀ b u,h.get? b=some u->h'.get? b=some u):qF P w H h':=fun a o e =>
 (x a o e).stay (fun b u _ q=>k b u q) (fun _ q=>q) fun _ _ q=>q
def qF.laid (x:qF P w H h) (k:∀ b u,h.get? b=some u->h'.get? b=some u) (L:h.objs.size<=a) (new:bT P w (upd H a o) h' a o):qF P w (upd H a o) h':=fun b u e=>by
 have hn:=x.fresh L;by_cases J:b=a
 .subst J;rw [aS] at e;cases e;exact new
 .rw [aM J] at e;exact (x b u e).stay (fun c v _ q=>k c v q) (fun c q=>by rw [aM (bB q hn)];exact q) fun c xs q=>by rw [aM (bB q hn)];exact q
end
def Rd (H:Hp) (a:Le) (u:HO):Prop:=H a=some u\/∃ o,H a=some (.frz o u)
theorem Rd.ok {P:Xh} {w:Xv} {H:Hp} {h:YG} {a:Le} {u:HO} (r:Rd H a u) (x:qF P w H h):bT P w H h a u:=by
 rcases r with r|⟨o,r⟩
 .exact x a u r
 .obtain ⟨_,q⟩:=x a _ r;exact q
def Tt:Option HO->Prop
 | some (.lst _)=>True
 | some (.dK _)=>True
 | some (.dT _)=>True
 | some (.set _ _)=>True
 | some (.ins _ _ _)=>True
 | some (.ext _)=>True
 | _=>False
section
variable {P:Xh} {w:Xv} {H:Hp} {h h':YG} {x e:Le} {o':HO}
def qF.write (ok:qF P w H h) (mu:Tt (H x)) (he:e=x\/H e=some (.own x)) (k:∀ b u,b≠e->h.get? b=some u->h'.get? b=some u) (heo:∃ u,h'.get? e=some u)
  (new:bT P w (upd H x o') h' x o'):qF P w (upd H x o') h':=fun b u q=>by
 have L:∀ c y,H c=some (.own y)->c≠x:=fun c y r z=>by subst z;rw [r] at mu;exact mu
 have Y:∀ c xs,H c=some (.tup xs)->c≠x:=fun c xs r z=>by subst z;rw [r] at mu;exact mu
 by_cases hb:b=x
 .subst hb;rw [aS] at q;cases q;exact new
 .rw [aM hb] at q;by_cases J:b=e
  .have q':H b=some (.own x):=by
    rcases he with z|z
    .exact absurd (J.trans z) hb
    .rw [J];exact z
   rw [q] at q';cases q';obtain ⟨v,hv⟩:=heo;exact ⟨v,by rw [J];exact hv⟩
  .refine (ok b u q).stay (fun c v hc r=>k c v ?_ r) (fun c r=>by rw [aM (L c b r)];exact r) fun c xs r=>by rw [aM (Y c xs r)];exact r
   rcases hc with rfl|hc
   .exact J
   .rintro rfl;rcases he with z|z
    .exact L c b hc z
    .rw [hc] at z;cases z;exact hb rfl
end
structure Un (fs ex:ac7) (H H':Hp) (h h':YG):Prop where
 keep:∀ b o,h.get? b=some o->H b=none->b∉fs->b∉ex->h'.get? b=some o
 slot:∀ b o,h.get? b=some o->H b=none->b∈fs->b∉ex->∃ sl,h'.get? b=some { o with slots:=sl }
 free:∀ b o,h.get? b=some o->H b=none->b∉ex->H' b=none
 there:∀ b o,h.get? b=some o->b∉ex->∃ o',h'.get? b=some o'
 tups:∀ b xs,H b=some (.tup xs)->H' b=some (.tup xs)
 frzs:∀ b o u,H b=some (.frz o u)->H' b=some (.frz o u)
 tbls:∀ b ps,H b=some (.tbl ps)->∃ more,H' b=some (.tbl (ps++more))
section
variable {fs fs' ex ex':ac7} {H H1 H2:Hp} {h h1 h2 h':YG} {a x e:Le} {o:HO}
def Un.any (u:Un fs ex H H1 h h1) {b:Le} {J:Obj} (q:h.get? b=some J) (n:H b=none) (Y:b∉ex):∃ sl,h1.get? b=some { J with slots:=sl }:=by
 by_cases L:b∈fs
 .exact u.slot b J q n L Y
 .exact ⟨J.slots,u.keep b J q n L Y⟩
def Un.kept (k:∀ b u,h.get? b=some u->h'.get? b=some u):Un fs ex H H h h' :=
 ⟨fun b J q _ _ _=>k b J q,fun b J q _ _ _=>⟨J.slots,k b J q⟩,fun _ _ _ n _=>n,fun b J q _=>⟨J,k b J q⟩,fun _ _ q=>q,fun _ _ _ q=>q,fun _ ps q=>⟨#[],by rw [q];simp⟩⟩
def Un.refl:Un fs ex H H h h:=Un.kept fun _ _ q=>q
def Un.laid (k:∀ b u,h.get? b=some u->h'.get? b=some u) (J:h.objs.size<=a) (hn:H a=none):Un fs ex H (upd H a o) h h' where
 keep:=fun b u q _ _ _=>k b u q
 slot:=fun b u q _ _ _=>⟨u.slots,k b u q⟩
 free:=fun b u q n _=>by rw [aM (Xb (W5 (MK q) J))];exact n
 there:=fun b u q _=>⟨u,k b u q⟩
 tups:=fun b xs q=>by rw [aM (bB q hn)];exact q
 frzs:=fun b u xs q=>by rw [aM (bB q hn)];exact q
 tbls:=fun b ps q=>⟨#[],by rw [aM (bB q hn),q];simp⟩
def Un.write (L:Tt (H x)) (he:e=x\/H e=some (.own x)) (k:∀ b u,b≠e->h.get? b=some u->h'.get? b=some u) (heo:∃ u,h'.get? e=some u):Un fs ex H (upd H x o) h h':=by
 have hx:∀ b,H b=none->b≠x:=fun b n z=>by subst z;rw [n] at L;exact L
 have hb:∀ b,H b=none->b≠e:=fun b n z=>by
  subst z;rcases he with r|r
  .exact hx b n r
  .rw [n] at r;cases r
 have Y:∀ b u,H b=some u->¬ Tt (some u)->b≠x:=fun b u q nm z=>by subst z;rw [q] at L;exact nm L
 refine ⟨fun b u q n _ _=>k b u (hb b n) q,fun b u q n _ _=>⟨u.slots,k b u (hb b n) q⟩,fun b u q n _=>by rw [aM (hx b n)];exact n,fun b u q _=>?_,
  fun b xs q=>by rw [aM (Y b _ q fun z=>z)];exact q,fun b u xs q=>by rw [aM (Y b _ q fun z=>z)];exact q,fun b ps q=>⟨#[],by rw [aM (Y b _ q fun z=>z),q];simp⟩⟩
 by_cases J:b=e
 .subst J;exact heo
 .exact ⟨u,k b u J q⟩
end
def UL (h:YG) (H:Hp):ac7:=(YN h.objs.size).filter fun a=>(H a).isSome
def zk (h:YG) (H:Hp):YG:=PySem.W.hideAll h (UL h H)
def FX (h:YG) (H:Hp):(zk h H).objs.size=h.objs.size:=PySem.W.hideAll_size _ _
def Iw {h:YG} {H:Hp} {b:Le} {o:Obj} (e:h.get? b=some o) (n:H b=none):(zk h H).get? b=some o :=
 PySem.W.hideAll_get _ e fun J=>by
  have q:(H b).isSome=true:=(YF.mp J).2;rw [n] at q;simp at q
def Lu {h:YG} {H:Hp} {b:Le} {o:Obj} (e:(zk h H).get? b=some o):h.get? b=some o/\H b=none:=by
 have J:h.get? b=some o:=PySem.W.of_hideAll (UL h H) e;refine ⟨J,?_⟩;cases q:H b with
 | none=>rfl
 | some x =>
  have L:b∈UL h H:=YF.mpr ⟨abF.mpr (MK J),by simp [q]⟩;have z:(zk h H).get? b=none:=PySem.W.hideAll_none (UL h H) L;rw [z] at e;cases e
def No (g h:YG) (L:Le):ac4:=(YN h.objs.size).filterMap fun a=>if a=L\/(g.get? a).isSome=true then none else (h.get? a).map fun o=>(a,o)
def rest (g h:YG) (L d:Le):ac4:=(No g h L).filter fun p=>decide (p.1≠d)
structure Mod (K:aT) (mg:ac6) (base:YG):Prop where
 kin:K.In base
 glob:base.Ns W9 mg
 blt:∃ mb,base.Ns builtinsNs mb/\∀ x:Str,x≠"__name__"->mb x=Xl x
 nolimit:base.NoLimit
structure Cx where
 prog:Xh
 w:Xv
 K:aT
 mg:Str->Option eQ
 base:YG
 A:Xs
 N:ac3
 s₀:iF
 H₀:Hp
 env:Env
 outer:List Env
 stack:List Env
 ex:ac7
 fn:Str->Bool
 calm:Bool
 tn:Nat:=0
 pn:ac4
 xe:eQ->iF->Prop
def Hi (l:List Env):ac7:=l.filterMap (·.frame)
abbrev Cx.fs (X:Cx):ac7:=Hi X.outer
def Cz (J:Scope) (x:Str):Prop:=J.names.lookup x=some .local\/J.names.lookup x=some .cell\/J.names.lookup x=some .free
def Bv (J:Scope) (x:Str):Prop:=J.names.lookup x=some .local\/J.names.lookup x=some .cell
def VB (env:Env) (h:YG) (m:ac6) (x:Str) (u:eQ):Prop :=
 (env.kindOf x=some .local/\m x=some u)\/((env.kindOf x=some .cell\/env.kindOf x=some .free)/\∃ c,env.cells.lookup x=some c/\h.IsCell c (some u))
structure Cx.Ok (X:Cx):Prop where
 mod:Mod X.K X.mg X.base
 kind:X.env.scope.kind=.function
 glob:X.env.globals=W9
 blt:X.env.builtins=builtinsNs
 above:X.s₀.heap.objs.size<=X.env.locals
 inj:∀ x y c,X.env.cells.lookup x=some c->X.env.cells.lookup y=some c->x=y
 has:∀ x,(X.env.kindOf x=some .cell\/X.env.kindOf x=some .free)->∃ c,X.env.cells.lookup x=some c
 cab:∀ x c,X.fn x=true->X.env.cells.lookup x=some c->X.s₀.heap.objs.size<=c
 hd:X.calm=true->X.A.handled=none
 frames:X.A.frames=some X.stack
 stk:X.stack=X.outer\/(X.stack=X.env::X.outer/\X.env.frame=some X.env.locals)
 exf:∀ b∈X.ex,b≠X.env.locals/\∀ x c,X.env.cells.lookup x=some c->c≠b
 bs:∀ b o,X.base.get? b=some o->X.s₀.heap.get? b=some o/\X.H₀ b=none
 bsz:X.base.objs.size<=X.s₀.heap.objs.size
 noex:∀ b o,X.base.get? b=some o->b∉X.ex
 exfs:∀ b∈X.ex,b∉X.fs
 funs:X.s₀.heap.FunFrames X.base X.outer
 frf:∀ b∈X.fs,X.H₀ b=none
structure Inv (X:Cx) (af:ac4) (Z:List (Option V)) (H:Hp) (s:iF):Prop where
 ok:X.Ok
 os:s.os=X.s₀.os
 bare:AllBare s.gens
 base:Un X.fs X.ex X.H₀ H X.s₀.heap s.heap
 loc:∃ m,s.heap.Ns X.env.locals m/\∀ (i:Nat) (x:Str) (v:V),X.N[i]?=some x->Z[i]?=some (some v)->Cz X.env.scope x->∃ u,ba v u/\VB X.env s.heap m x u
 cell:∀ x c,X.env.cells.lookup x=some c->∃ v,s.heap.IsCell c v
 free:H X.env.locals=none
 freeC:∀ x c,X.env.cells.lookup x=some c->H c=none
 pin:∀ p∈X.pn++af,s.heap.get? p.1=some p.2/\H p.1=none/\p.1≠X.env.locals/\p.1∉X.fs/\∀ v,p.2.data≠.cell v
 hok:qF X.prog X.w H s.heap
 len:Z.length=X.N.length
 tk:X.tn<=s.toks
end L2
local macro_rules | `(tactic| walk_at "tok") => `(tactic| first | assumption | exact L2.Inv.tk (by assumption) | exact Nat.le_succ_of_le (L2.Inv.tk (by assumption)) | exact Nat.le_succ_of_le (Nat.le_succ_of_le (L2.Inv.tk (by assumption))) | (have hI := L2.Inv.tk (by assumption); omega) | exact Nat.zero_le _)
namespace L2
open PySem PySem.Spec PyProof.Rows
section
variable {X:Cx} {af:ac4} {Z:List (Option V)} {H H':Hp} {s:iF} {h':YG}
def Cx.Ok.nofr (ok:X.Ok) {b:Le} {o:Obj} (e:X.base.get? b=some o):b∉X.fs:=fun J=>by
 have:=(ok.funs.mem J).1
 rw [e] at this;cases this
def Inv.bs (I:Inv X af Z H s):∀ b o,X.base.get? b=some o->s.heap.get? b=some o/\H b=none:=fun b o e =>
 ⟨I.base.keep b o (I.ok.bs b o e).1 (I.ok.bs b o e).2 (I.ok.nofr e) (I.ok.noex b o e),I.base.free b o (I.ok.bs b o e).1 (I.ok.bs b o e).2 (I.ok.noex b o e)⟩
def Inv.bk (I:Inv X af Z H s):∀ b o,X.base.get? b=some o->s.heap.get? b=some o:=fun b o e=>(I.bs b o e).1
def Inv.mod (I:Inv X af Z H s):Mod X.K X.mg X.base:=I.ok.mod
def Inv.kIn (I:Inv X af Z H s):X.K.In s.heap:=I.ok.mod.kin.keeps I.bk
def Inv.fr (I:Inv X af Z H s):∃ m,Fr X.base X.env.locals s.heap m :=
 let ⟨m,hn,_⟩:=I.loc
 ⟨m,hn,I.bk,IF I.ok.bsz I.ok.above⟩
def Inv.lt (I:Inv X af Z H s):X.env.locals < s.heap.objs.size:=let ⟨_,hn,_⟩:=I.loc;hn.lt
def Inv.sz (I:Inv X af Z H s):X.s₀.heap.objs.size<=s.heap.objs.size:=IF I.ok.above (acn I.lt)
def Inv.nofs (I:Inv X af Z H s) {a:Le} (h:s.heap.objs.size<=a):a∉X.fs:=fun J=>by
 obtain ⟨_,o,L,_⟩:=I.ok.funs.mem J;exact absurd (W5 (MK L) (IF I.sz h)) (Y9 _)
def Inv.cne (I:Inv X af Z H s):∀ x c,X.env.cells.lookup x=some c->c≠X.env.locals:=fun x c e z=>by
 obtain ⟨v,o,ho,Y⟩:=I.cell x c e;obtain ⟨m,⟨o',es,ep,J,L,_⟩,_⟩:=I.loc;rw [z,J] at ho;cases ho;rw [L] at Y;cases Y
def Inv.funs (I:Inv X af Z H s):s.heap.FunFrames X.base X.outer:=by
 have all:∀ (l:List Env),(∀ b∈Hi l,b∈X.fs)->X.s₀.heap.FunFrames X.base l->s.heap.FunFrames X.base l:=by
  intro l;induction l with
  | nil=>intro _ _;trivial
  | cons env r ih =>
   intro hs hl;obtain ⟨hk,⟨L,o,hf,hn,ho,hd⟩,hr⟩:=hl;have Y:L∈X.fs:=hs L (by unfold Hi;rw [ZF,hf];exact W6);obtain ⟨sl,e⟩:=I.base.slot L o ho (I.ok.frf L Y) Y fun z=>I.ok.exfs L z Y;exact ⟨hk,⟨L,_,hf,hn,e,hd⟩,ih (fun b J=>hs b (by unfold Hi;rw [ZF,hf];exact lT _ J)) hr⟩
 exact all X.outer (fun _ J=>J) I.ok.funs
def Inv.stack (I:Inv X af Z H s):s.heap.FunFrames X.base X.stack:=by
 rcases I.ok.stk with e|⟨e,hf⟩
 .rw [e];exact I.funs
 .rw [e];obtain ⟨m,hn,_⟩:=I.loc;refine .cons (by rw [I.ok.kind];decide) hf hn ?_ I.funs;exact aan (IF I.ok.bsz I.ok.above)
def Inv.stkSub (I:Inv X af Z H s):∀ b∈Hi X.stack,b∈X.env.locals::X.fs:=fun b J=>by
 rcases I.ok.stk with e|⟨e,hf⟩
 .rw [e] at J;exact lT _ J
 .rw [e] at J;unfold Hi at J;rw [ZF,hf] at J;exact J
def Inv.stkFree (I:Inv X af Z H s):∀ b∈Hi X.stack,H b=none:=fun b J=>by
 rcases iN.mp (I.stkSub b J) with e|J
 .rw [e];exact I.free
 .obtain ⟨_,o,L,_⟩:=I.ok.funs.mem J;exact I.base.free b o L (I.ok.frf b J) fun z=>I.ok.exfs b z J
def Inv.step {g':Array GenState} {t':Nat} {d':Drawn} {ch:ac7} (I:Inv X af Z H s)
  (Y:∀ b∈ch,(b∈X.ex\/X.s₀.heap.objs.size<=b)/\b≠X.env.locals/\(∀ x c,X.env.cells.lookup x=some c->c≠b)/\∀ p∈X.pn++af,p.1≠b)
  (keep:∀ b o,b≠X.env.locals->b∉X.fs->b∉ch->s.heap.get? b=some o->H b=none->h'.get? b=some o)
  (slot:∀ b o,b≠X.env.locals->b∈X.fs->b∉ch->s.heap.get? b=some o->H b=none->∃ sl,h'.get? b=some { o with slots:=sl }) (free:∀ b o,b∉ch->s.heap.get? b=some o->H b=none->H' b=none)
  (there:∀ b o,b∉ch->s.heap.get? b=some o->∃ o',h'.get? b=some o')
  (tups:∀ b xs,H b=some (.tup xs)->H' b=some (.tup xs)) (frzs:∀ b o u,H b=some (.frz o u)->H' b=some (.frz o u)) (tbls:∀ b ps,H b=some (.tbl ps)->∃ more,H' b=some (.tbl (ps++more)))
  (ns:∀ m,s.heap.Ns X.env.locals m->h'.Ns X.env.locals m) (hok:qF X.prog X.w H' h') (hg:AllBare g') (ht:X.tn<=t':=by walk_at "tok") :
  Inv X af Z H' { s with heap:=h',gens:=g',drawn:=d',toks:=t' }:=by
 have neL:∀ b o,X.s₀.heap.get? b=some o->b≠X.env.locals:=fun b o e=>Xb (W5 (MK e) I.ok.above);have neC:∀ b o,X.s₀.heap.get? b=some o->b∉X.ex->b∉ch:=fun b o e J hb=>by
  rcases (Y b hb).1 with z|z
  .exact J z
  .exact absurd (W5 (MK e) z) (Y9 _)
 have cellK:∀ x c,X.env.cells.lookup x=some c->∀ v,s.heap.IsCell c v->h'.IsCell c v:=fun x c e v ⟨o,ho,hd⟩=>by
  have L:c∉ch:=fun z=>(Y c z).2.2.1 x c e rfl;by_cases hc:c∈X.fs
  .obtain ⟨sl,q⟩:=slot c o (I.cne x c e) hc L ho (I.freeC x c e);exact ⟨_,q,hd⟩
  .exact ⟨o,keep c o (I.cne x c e) hc L ho (I.freeC x c e),hd⟩
 refine ⟨I.ok,I.os,hg,⟨fun b o e n hb J=>?_,fun b o e n hb J=>?_,fun b o e n J=>?_,fun b o e J=>?_,fun b xs e=>tups b xs (I.base.tups b xs e),fun b o xs e=>frzs b o xs (I.base.frzs b o xs e),fun b ps e=>?_⟩,?_,fun x c e=>?_,?_,fun x c e=>?_,fun p hp=>?_,hok,I.len,ht⟩
 .exact keep b o (neL b o e) hb (neC b o e J) (I.base.keep b o e n hb J) (I.base.free b o e n J)
 .obtain ⟨sl,e1⟩:=I.base.slot b o e n hb J;obtain ⟨sl',e2⟩:=slot b _ (neL b o e) hb (neC b o e J) e1 (I.base.free b o e n J);exact ⟨sl',e2⟩
 .obtain ⟨o',e1⟩:=I.base.there b o e J;exact free b o' (neC b o e J) e1 (I.base.free b o e n J)
 .obtain ⟨o',e1⟩:=I.base.there b o e J;exact there b o' (neC b o e J) e1
 .obtain ⟨m1,e1⟩:=I.base.tbls b ps e;obtain ⟨m2,e2⟩:=tbls b _ e1;exact ⟨m1++m2,by rw [e2,Array.append_assoc]⟩
 .obtain ⟨m,hn,hl⟩:=I.loc;refine ⟨m,ns m hn,fun i x v e1 e2 e3=>?_⟩;obtain ⟨u,r,l⟩:=hl i x v e1 e2 e3;refine ⟨u,r,?_⟩;rcases l with l|⟨k,c,e,z⟩
  .exact .inl l
  .exact .inr ⟨k,c,e,cellK x c e _ z⟩
 .obtain ⟨v,z⟩:=I.cell x c e;exact ⟨v,cellK x c e v z⟩
 .obtain ⟨m,⟨o,_,_,ho,_⟩,_⟩:=I.loc;exact free _ o (fun z=>(Y _ z).2.1 rfl) ho I.free
 .obtain ⟨v,o,ho,hd⟩:=I.cell x c e;exact free c o (fun z=>(Y c z).2.2.1 x c e rfl) ho (I.freeC x c e)
 .obtain ⟨e,n,ne,nf,d⟩:=I.pin p hp;have L:p.1∉ch:=fun z=>(Y p.1 z).2.2.2 p hp rfl;exact ⟨keep p.1 p.2 ne nf L e n,free p.1 p.2 L e n,ne,nf,d⟩
def Inv.un {t':Nat} (I:Inv X af Z H s) (u:Un X.fs [] H H' s.heap h') (hok:qF X.prog X.w H' h') (ht:X.tn<=t':=by walk_at "tok"):Inv X af Z H' { s with heap:=h',toks:=t' }:=by
 obtain ⟨m,⟨o,es,ep,ho,r⟩,_⟩:=id I.loc;obtain ⟨sl,hL⟩:=u.any ho I.free (by simp);exact I.step (g':=s.gens) (d':=s.drawn) (ch:=[]) (fun _ z=>nomatch z) (fun b o _ Y _ e n=>u.keep b o e n Y (by simp)) (fun b o _ Y _ e n=>u.slot b o e n Y (by simp)) (fun b o _ e n=>u.free b o e n (by simp)) (fun b o _ e=>u.there b o e (by simp)) u.tups u.frzs u.tbls (fun m' hm=>by
  obtain ⟨o',es',L,J,r'⟩:=hm;rw [ho] at J;cases J;exact ⟨_,es',L,hL,r'⟩) hok I.bare
def Inv.call {g':Array GenState} {t':Nat} {d':Drawn} {ch:ac7} (I:Inv X af Z H s) (u:Un (Hi X.stack) ch H H' s.heap h') (hok:qF X.prog X.w H' h') (hg:AllBare g')
  (L:∀ b∈ch,(b∈X.ex\/X.s₀.heap.objs.size<=b)/\b≠X.env.locals/\(∀ x c,X.env.cells.lookup x=some c->c≠b)/\∀ p∈X.pn++af,p.1≠b) (ht:X.tn<=t':=by walk_at "tok") :
  Inv X af Z H' { s with heap:=h',gens:=g',drawn:=d',toks:=t' }:=by
 obtain ⟨m,⟨o,es,ep,ho,r⟩,_⟩:=id I.loc;obtain ⟨sl,hL⟩:=u.any ho I.free fun z=>(L _ z).2.1 rfl;exact I.step (ch:=ch) L (fun b o hL hb J e n=>u.keep b o e n (fun z=>(iN.mp (I.stkSub b z)).elim hL hb) J) (fun b o _ _ J e n=>u.any e n J) (fun b o J e n=>u.free b o e n J) (fun b o J e=>u.there b o e J) u.tups u.frzs u.tbls (fun m' hm=>by
  obtain ⟨o',es',ep',Y,r'⟩:=hm;rw [ho] at Y;cases Y;exact ⟨_,es',ep',hL,r'⟩) hok hg
def Inv.turned {t':Nat} {it:Le} (I:Inv X af Z H s) (k:∀ b o,b≠it->s.heap.get? b=some o->h'.get? b=some o) (hn:H it=none) (Y:it≠X.env.locals)
  (h1:it∈X.ex\/X.s₀.heap.objs.size<=it) (h2:∀ x c,X.env.cells.lookup x=some c->c≠it) (h3:∀ p∈X.pn++af,p.1≠it) (ht:X.tn<=t':=by walk_at "tok"):Inv X af Z H { s with heap:=h',toks:=t' }:=by
 have L:∀ b u,H b=some u->b≠it:=fun b u e z=>by rw [z,hn] at e;cases e
 refine I.step (g':=s.gens) (d':=s.drawn) (ch:=[it]) (fun b hb=>?_) (fun b o _ _ J e _=>k b o (fun z=>J (by simp [z])) e) (fun b o _ _ J e _=>⟨o.slots,k b o (fun z=>J (by simp [z])) e⟩) (fun _ _ _ _ n=>n)
  (fun b o J e=>⟨o,k b o (fun z=>J (by simp [z])) e⟩) (fun _ _ e=>e) (fun _ _ _ e=>e) (fun b ps e=>⟨#[],by rw [e];simp⟩) (fun m hm=>?_) (fun b u e=>?_) I.bare
 .have e:b=it:=by simpa using hb
  subst e;exact ⟨h1,Y,h2,h3⟩
 .obtain ⟨o,es,ep,ho,r⟩:=hm;exact ⟨o,es,ep,k _ o (YU Y) ho,r⟩
 .refine (I.hok b u e).stay (fun c v J q=>k c v ?_ q) (fun _ q=>q) fun _ _ q=>q;rcases J with z|z
  .rw [z];exact L b u e
  .exact L c _ z
def Inv.tok (I:Inv X af Z H s) (t:Nat) (J:X.tn<=t:=by walk_at "tok"):Inv X af Z H { s with toks:=t }:=I.un (h':=s.heap) (t':=t) Un.refl I.hok
def Inv.kept {t':Nat} (I:Inv X af Z H s) (k:∀ b u,s.heap.get? b=some u->h'.get? b=some u) (J:X.tn<=t':=by walk_at "tok"):Inv X af Z H { s with heap:=h',toks:=t' }:=I.un (Un.kept k) (I.hok.kept k)
def Inv.laid {a:Le} {o:HO} {t':Nat} (I:Inv X af Z H s) (k:∀ b u,s.heap.get? b=some u->h'.get? b=some u) (J:s.heap.objs.size<=a) (new:bT X.prog X.w (upd H a o) h' a o) (L:X.tn<=t':=by walk_at "tok") :
  Inv X af Z (upd H a o) { s with heap:=h',toks:=t' }:=I.un (Un.laid k J (I.hok.fresh J)) (I.hok.laid k J new)
def Inv.write {x e:Le} {o:HO} {t':Nat} (I:Inv X af Z H s) (L:Tt (H x)) (Y:e=x\/H e=some (.own x)) (k:∀ b u,b≠e->s.heap.get? b=some u->h'.get? b=some u) (J:∃ u,h'.get? e=some u)
  (new:bT X.prog X.w (upd H x o) h' x o) (ht:X.tn<=t':=by walk_at "tok"):Inv X af Z (upd H x o) { s with heap:=h',toks:=t' }:=I.un (Un.write L Y k J) (I.hok.write L Y k J new)
def Inv.pins_of {J:ac4} (I:Inv X af Z H s) (h:∀ p∈J,s.heap.get? p.1=some p.2/\H p.1=none/\p.1≠X.env.locals/\p.1∉X.fs/\∀ v,p.2.data≠.cell v):Inv X J Z H s :=
 ⟨I.ok,I.os,I.bare,I.base,I.loc,I.cell,I.free,I.freeC,fun p L=>(DO.mp L).elim (fun z=>I.pin p (Xf _ z)) (h p),I.hok,I.len,I.tk⟩
def Cc {N:ac3} (J:N.Nodup) {i j:Nat} {x:Str} (a:N[i]?=some x) (b:N[j]?=some x):i=j:=by
 obtain ⟨h1,e1⟩:=Xu.mp a;obtain ⟨h2,e2⟩:=Xu.mp b;exact (List.getElem_inj J).mp (e1.trans e2.symm)
def Gi {M:Model} {A:Xs} {E:ac5} {i:Nat} {x:Str} {v:V} {u:eQ} {Q:Unit->iF->Prop} (I:Inv X af Z H s) (hN:X.N.Nodup) (hi:X.N[i]?=some x) (hx:Bv X.env.scope x) (r:ba v u)
  (h:∀ s',Inv X af (Z.set i (some v)) H s'->(∃ a,X6 a s.heap s'.heap/\(a=X.env.locals\/X.env.cells.lookup x=some a))->Q () s') (hf:X.fn x=true\/X.env.scope.names.lookup x=some .local:=by walk_at"u"):RW M A (storeName X.env x u) Q E s:=by
 obtain ⟨m,hn,hl⟩:=id I.loc;have hcls:(X.env.scope.kind==.class||(X.env.scope.kind==.module&&X.env.locals != X.env.globals))=false:=by rw [I.ok.kind];rfl
 have hiσ:i < Z.length:=by rw [I.len];exact (Xu.mp hi).1
 have cne:=I.cne;have L:∀ {a:Le} {h':YG},(∃ o,s.heap.get? a=some o/\H a=none)->X6 a s.heap h'->qF X.prog X.w H h':=fun {a h'} ha J b ob e=>by
  obtain ⟨_,_,hfree⟩:=ha;refine (I.hok b ob e).stay (fun c w' Y q=>(J.2 c ?_).trans q) (fun _ q=>q) fun _ _ q=>q;rintro rfl;rcases Y with rfl|Y
  .rw [hfree] at e;cases e
  .rw [hfree] at Y;cases Y
 rcases hx with hk|hk
 .refine wpAny_storeName_local hk hn (fun h' hn' J=>?_) hcls;obtain ⟨oL,_,_,hoL,_⟩:=id hn;refine h _ ⟨I.ok,I.os,I.bare,⟨fun b o e n hb hx=>?_,fun b o e n hb hx=>?_,I.base.free,fun b o e hx=>?_,I.base.tups,I.base.frzs,I.base.tbls⟩,⟨_,hn',fun j y v' e1 e2 e3=>?_⟩,fun y c e=>?_,I.free,I.freeC,fun p hp=>?_,L ⟨oL,hoL,I.free⟩ J,by simpa using I.len,by walk_at "tok"⟩ ⟨_,J,.inl rfl⟩
  .exact (J.2 b (Xb (W5 (MK e) I.ok.above))).trans (I.base.keep b o e n hb hx)
  .obtain ⟨sl,e1⟩:=I.base.slot b o e n hb hx;exact ⟨sl,(J.2 b (Xb (W5 (MK e) I.ok.above))).trans e1⟩
  .obtain ⟨o',e1⟩:=I.base.there b o e hx;exact ⟨o',(J.2 b (Xb (W5 (MK e) I.ok.above))).trans e1⟩
  .by_cases hj:j=i
   .subst hj;rw [hi] at e1;cases e1;rw [abe hiσ] at e2;cases e2;exact ⟨u,r,.inl ⟨hk,by simp⟩⟩
   .rw [abC (YU hj)] at e2;obtain ⟨u',r',q⟩:=hl j y v' e1 e2 e3;refine ⟨u',r',?_⟩;rcases q with ⟨k,e⟩|⟨k,c,e,z⟩
    .refine .inl ⟨k,?_⟩
     have:y≠x:=fun e=>hj (Cc hN e1 (e ▸ hi))
     simp [this,e]
    .exact .inr ⟨k,c,e,z.sameBut J (cne y c e)⟩
  .obtain ⟨w',z⟩:=I.cell y c e;exact ⟨w',z.sameBut J (cne y c e)⟩
  .obtain ⟨e,n,ne,nf,d⟩:=I.pin p hp;exact ⟨(J.2 p.1 ne).trans e,n,ne,nf,d⟩
 .have hfn:X.fn x=true:=by
   rcases hf with z|z
   .exact z
   .rw [z] at hk;cases hk
  obtain ⟨c,Y⟩:=I.ok.has x (.inl hk);obtain ⟨w',z⟩:=I.cell x c Y;refine wpAny_storeName_cell I.ok.kind hk Y z (fun h' hc' J=>?_);obtain ⟨oc,hoc,hocd⟩:=id z;refine h { s with heap:=h' } ⟨I.ok,I.os,I.bare,⟨fun b o e n hb hx=>?_,fun b o e n hb hx=>?_,I.base.free,fun b o e hx=>?_,I.base.tups,I.base.frzs,I.base.tbls⟩,⟨m,hn.sameBut J (YU (cne x c Y)),fun j y v' e1 e2 e3=>?_⟩,fun y c' e=>?_,I.free,I.freeC,fun p hp=>?_,L ⟨oc,hoc,I.freeC x c Y⟩ J,by simpa using I.len,I.tk⟩ ⟨c,J,.inr Y⟩
  .exact (J.2 b (Xb (W5 (MK e) (I.ok.cab x c hfn Y)))).trans (I.base.keep b o e n hb hx)
  .obtain ⟨sl,e1⟩:=I.base.slot b o e n hb hx;exact ⟨sl,(J.2 b (Xb (W5 (MK e) (I.ok.cab x c hfn Y)))).trans e1⟩
  .obtain ⟨o',e1⟩:=I.base.there b o e hx;exact ⟨o',(J.2 b (Xb (W5 (MK e) (I.ok.cab x c hfn Y)))).trans e1⟩
  .by_cases hj:j=i
   .subst hj;rw [hi] at e1;cases e1;rw [abe hiσ] at e2;cases e2;exact ⟨u,r,.inr ⟨.inl hk,c,Y,hc'⟩⟩
   .rw [abC (YU hj)] at e2;obtain ⟨u',r',q⟩:=hl j y v' e1 e2 e3;refine ⟨u',r',?_⟩;rcases q with q|⟨k,c',e,z'⟩
    .exact .inl q
    .refine .inr ⟨k,c',e,z'.sameBut J ?_⟩;rintro rfl;exact hj (Cc hN e1 (I.ok.inj _ _ _ e Y ▸ hi))
  .by_cases hcc:c'=c
   .subst hcc;exact ⟨_,hc'⟩
   .obtain ⟨w2,z2⟩:=I.cell y c' e;exact ⟨w2,z2.sameBut J hcc⟩
  .obtain ⟨e,n,ne,nf,d⟩:=I.pin p hp;refine ⟨(J.2 p.1 ?_).trans e,n,ne,nf,d⟩;intro q;rw [q,hoc] at e;have q':oc=p.2:=Xp e;exact d w' (by rw [<- q'];exact hocd)
def tm {M:Model} {A:Xs} {E:ac5} {i:Nat} {x:Str} {v:V} {u:eQ} {Q:Unit->iF->Prop} (I:Inv X af Z H s) (L:X.N.Nodup) (hi:X.N[i]?=some x) (Y:Bv X.env.scope x) (r:ba v u)
  (h:∀ s',Inv X af (Z.set i (some v)) H s'->Q () s') (hf:X.fn x=true\/X.env.scope.names.lookup x=some .local:=by walk_at"u"):RW M A (storeName X.env x u) Q E s :=
 Gi I L hi Y r (fun s' J _=>h s' J) hf
def Inv.call' {s':iF} {ch:ac7} (I:Inv X af Z H s) (Y:s'.os=s.os) (u:Un (Hi X.stack) ch H H' s.heap s'.heap) (L:qF X.prog X.w H' s'.heap) (hg:AllBare s'.gens)
  (J:∀ b∈ch,(b∈X.ex\/X.s₀.heap.objs.size<=b)/\b≠X.env.locals/\(∀ x c,X.env.cells.lookup x=some c->c≠b)/\∀ p∈X.pn++af,p.1≠b) (ht:X.tn<=s'.toks:=by walk_at "tok"):Inv X af Z H' s':=by
 obtain ⟨h',g',d',t',o'⟩:=s';have e:o'=s.os:=Y;subst e;exact I.call (g':=g') (t':=t') (d':=d') u L hg J
end
abbrev XK:=eQ->Option Le->Hp->Prop
abbrev St:=List (Option V)
abbrev VK:=V->Hp->Prop
abbrev TE:=St->Hp->VK->Prop
abbrev TT:=St->Hp->(Bool->Hp->Prop)->Prop
abbrev TA:=St->Hp->(ac9->Hp->Prop)->Prop
structure Ends where
 nx:St->Hp->Prop
 rt:VK
 bk:St->Hp->Prop:=fun _ _=>False
 ct:St->Hp->Prop:=fun _ _=>False
abbrev TS:=Ends->St->Hp->Prop
def EP (X:Cx) (af:ac4) (Z:St) (Q:VK) (u:eQ) (s':iF):Prop:=∃ v H',Inv X af Z H' s'/\ba v u/\Q v H'
def TP (X:Cx) (af:ac4) (Z:St) (Q:Bool->Hp->Prop) (b:Bool) (s':iF):Prop:=∃ H',Inv X af Z H' s'/\Q b H'
def AP (X:Cx) (af:ac4) (Z:St) (Q:ac9->Hp->Prop) (us:ac8) (s':iF):Prop:=∃ vs H',Inv X af Z H' s'/\br vs us/\Q vs H'
def SP (X:Cx) (af:ac4) (D:Ends) (f:Flow) (s':iF):Prop :=
 match f with
 | .next=>∃ J H',Inv X af J H' s'/\D.nx J H'
 | .brk=>∃ J H',Inv X af J H' s'/\D.bk J H'
 | .cont=>∃ J H',Inv X af J H' s'/\D.ct J H'
 | .ret u=>∃ v J H',Inv X af J H' s'/\ba v u/\D.rt v H'
def PE (X:Cx) (e:Yb) (t:TE):Prop :=
 ∀ (af:ac4) (s:iF) (Z:St) (H:Hp) (Q:VK),Inv X af Z H s->t Z H Q->RW (Xa X.prog X.w) X.A (eval e X.env) (EP X af Z Q) X.xe s
def PT (X:Cx) (e:Yb) (t:TT):Prop :=
 ∀ (af:ac4) (s:iF) (Z:St) (H:Hp) (Q:Bool->Hp->Prop),Inv X af Z H s->t Z H Q->RW (Xa X.prog X.w) X.A (isTrue e X.env (eval e X.env)) (TP X af Z Q) X.xe s
def PW (X:Cx) (e:Yb) (t:TT):Prop :=
 ∀ (J:Sem eQ) (af:ac4) (s:iF) (Z:St) (H:Hp) (Q:Bool->Hp->Prop),Inv X af Z H s->t Z H Q->RW (Xa X.prog X.w) X.A (isTrue e X.env J) (TP X af Z Q) X.xe s
def PW.pt {X:Cx} {e:Yb} {t:TT} (h:PW X e t):PT X e t:=h _
def PA (X:Cx) (es:List Yb) (t:TA):Prop :=
 ∀ (pos:Pos) (af:ac4) (s:iF) (Z:St) (H:Hp) (Q:ac9->Hp->Prop),Inv X af Z H s->t Z H Q->RW (Xa X.prog X.w) X.A (spliced (ZK pos (Xy es X.env))) (AP X af Z Q) X.xe s
def PS (X:Cx) (st:Yj) (t:TS):Prop :=
 ∀ (af:ac4) (s:iF) (Z:St) (H:Hp) (D:Ends),Inv X af Z H s->t D Z H->RW (Xa X.prog X.w) X.A (exec st X.env) (SP X af D) X.xe s
def D4 (X:Cx) (st:List Yj) (t:TS):Prop :=
 ∀ (af:ac4) (s:iF) (Z:St) (H:Hp) (D:Ends),Inv X af Z H s->t D Z H->RW (Xa X.prog X.w) X.A (execs st X.env) (SP X af D) X.xe s
def dg {α:Type} {t:Sem α} {Q J:α->iF->Prop} {M:Model} {A:Xs} {E:ac5} {s:iF} (h:RW M A t Q E s) (hQ:∀ a s,Q a s->J a s):RW M A t J E s:=XC h hQ fun _ _ x=>x
section
variable {X:Cx}
def TJ (i:Nat):TE:=fun Z H Q=>∃ v,Z[i]?=some (some v)/\Q v H
def tC (v:V):TE:=fun _ H Q=>Q v H
def IG {i:Nat} {x:Str} {pos:Pos} (hN:X.N[i]?=some x) (hv:Cz X.env.scope x) (Y:adb x:=by decide) (hcd:(x==("__classdict__":Str))=false:=by decide):PE X (.Name x pos) (TJ i):=by
 intro af s Z H Q I h;obtain ⟨v,e,h⟩:=h;obtain ⟨m,hn,hl⟩:=I.loc;obtain ⟨u,r,l⟩:=hl i x v hN e hv;have fin:EP X af Z Q u s:=⟨v,H,I,r,h⟩;rcases l with ⟨L,hm⟩|⟨L,c,hc,J⟩
 .exact wpAny_Name (wpAny_loadName_local I.ok.kind L hn hm fin) Y
 .rcases L with L|L
  .exact wpAny_Name (wpAny_loadName_cell I.ok.kind L hc J fin) Y
  .exact wpAny_Name (wpAny_loadName_free I.ok.kind L hc J fin hcd) Y
def O4 {i j pos}:PE X (.Constant (.int i) j pos) (tC (.int i)):=fun _ _ _ H _ I h=>wpAny_Constant_int ⟨.int i,H,I.tok _,⟨_,rfl⟩,h⟩
def Ud {b j pos}:PE X (.Constant (.bool b) j pos) (tC (.bl b)):=fun _ _ _ H _ I h=>Constant_bool ⟨.bl b,H,I,rfl,h⟩
def OY {j pos}:PE X (.Constant .none j pos) (tC .non):=fun _ _ _ H _ I h=>Constant_none ⟨.non,H,I,rfl,h⟩
def Ql {x j pos}:PE X (.Constant (.str x) j pos) (tC (.str x)):=fun _ _ _ H _ I h=>Calls.Constant_str ⟨.str x,H,I.tok _,⟨_,rfl⟩,h⟩
def Gl (X:Cx) (x:Str):Prop:=X.env.kindOf x=some .globalImplicit
def iK {E:ac5} {af:ac4} {s:iF} {Z:St} {H:Hp} {x:Str} {u:eQ} {pos:Pos} {Q:ac5} (I:Inv X af Z H s) (L:Gl X x) (J:X.mg x=some u) (h:Q u s)
  (Y:adb x:=by decide):RW (Xa X.prog X.w) X.A (eval (.Name x pos) X.env) Q E s :=
 aaF I.ok.kind L (Calls.loadGlobal_global (by rw [I.ok.glob];exact I.mod.glob.keeps I.bk) J h) Y
def m8 {E:ac5} {af:ac4} {s:iF} {Z:St} {H:Hp} {x:Str} {u:eQ} {pos:Pos} {Q:ac5} (I:Inv X af Z H s) (L:Gl X x) (Y:X.mg x=none) (hv:Xl x=some u) (h:Q u s)
  (hn:x≠"__name__":=by decide) (J:adb x:=by decide):RW (Xa X.prog X.w) X.A (eval (.Name x pos) X.env) Q E s:=by
 obtain ⟨mb,h1,h2⟩:=I.mod.blt;exact aaF I.ok.kind L (Calls.loadGlobal_builtin (by rw [I.ok.glob];exact I.mod.glob.keeps I.bk) Y (by rw [I.ok.blt];exact h1.keeps I.bk) ((h2 x hn).trans hv) h) J
def Fu {x:Str} {v:V} {u:eQ} {pos:Pos} (L:Gl X x) (J:X.mg x=some u) (r:ba v u) (Y:adb x:=by decide):PE X (.Name x pos) (tC v) :=
 fun _ _ _ H _ I h=>iK I L J ⟨v,H,I,r,h⟩ Y
def LB {x:Str} {v:V} {u:eQ} {pos:Pos} (L:Gl X x) (J:X.mg x=none) (Y:Xl x=some u) (r:ba v u) (hn:x≠"__name__":=by decide) (hd:adb x:=by decide):PE X (.Name x pos) (tC v) :=
 fun _ _ _ H _ I h=>m8 I L J Y ⟨v,H,I,r,h⟩ hn hd
variable {a b:Yb} {ta tb:TE} {pos:Pos}
variable {tA tB':TT} {rest:List Yb}
def Tw (t u:TT):TT:=fun Z H Q=>t Z H fun c H1=>if c=true then u Z H1 Q else Q false H1
def WF (t u:TT):TT:=fun Z H Q=>t Z H fun c H1=>if c=true then Q true H1 else u Z H1 Q
def T2 (t:TT):TT:=fun Z H Q=>t Z H fun c H1=>Q (!c) H1
def NC (J:PT X a tA):PW X (.BoolOp .And [a] pos) tA:=by
 intro L af s Z H Q I h;refine isTrue_and (dg (J af s Z H Q I h) fun c s1 e=>?_);cases c with
 | true=>exact isTrue_and_nil e
 | false=>exact e
def Pm (J:PT X a tA):PW X (.BoolOp .Or [a] pos) tA:=by
 intro L af s Z H Q I h;refine isTrue_or (dg (J af s Z H Q I h) fun c s1 e=>?_);cases c with
 | false=>exact isTrue_or_nil e
 | true=>exact e
def PN (Y:PT X a tA) (L:PW X (.BoolOp .And (b::rest) pos) tB'):PW X (.BoolOp .And (a::b::rest) pos) (Tw tA tB'):=by
 intro J af s Z H Q I h;refine isTrue_and (dg (Y af s Z H _ I h) fun c s1 ⟨H1,I1,q1⟩=>?_);cases c with
 | true=>exact L J af s1 Z H1 Q I1 q1
 | false=>exact ⟨H1,I1,q1⟩
def Sb (Y:PT X a tA) (L:PW X (.BoolOp .Or (b::rest) pos) tB'):PW X (.BoolOp .Or (a::b::rest) pos) (WF tA tB'):=by
 intro J af s Z H Q I h;refine isTrue_or (dg (Y af s Z H _ I h) fun c s1 ⟨H1,I1,q1⟩=>?_);cases c with
 | true=>exact ⟨H1,I1,q1⟩
 | false=>exact L J af s1 Z H1 Q I1 q1
def Qm (J:PT X a tA):PT X (.UnaryOp .Not a pos) (T2 tA):=by
 intro af s Z H Q I h;exact isTrue_not (J af s Z H (fun c H1=>Q (!c) H1) I h)
def PQ {op} {t:TE} (h:PE X a t):PE X (.BoolOp op [a] pos) t:=fun af s Z H Q I hw=>BoolOp_one (h af s Z H Q I hw)
def WV (t:TT) (ta tb:TE):TE:=fun Z H Q=>t Z H fun c H1=>if c=true then ta Z H1 Q else tb Z H1 Q
def Ke {c:Yb} (J:PT X c tA) (Y:PE X a ta) (L:PE X b tb):PE X (.IfExp c a b pos) (WV tA ta tb):=by
 intro af s Z H Q I h;refine wpAny_IfExp (dg (J af s Z H _ I h) fun d s1 ⟨H1,I1,q1⟩=>?_);cases d with
 | true=>exact Y af s1 Z H1 Q I1 q1
 | false=>exact L af s1 Z H1 Q I1 q1
end
def il (K:aT) (H:Hp) (a:Le) (xs:ac9):Prop :=
 Rd H a (.lst xs) \/
  ∃ (o:Obj) (its:Array eQ) (n:Nat),K.lookup a=some o/\o.cls=.type "list"/\o.dict=none/\o.data=.seq its n/\its.size<=Xd/\br xs its.toList
def l6 (K:aT) (H:Hp) (a:Le) (xs:ac9):Prop :=
 Rd H a (.tup xs) \/
  ∃ (o:Obj) (its:Array eQ) (n:Nat),K.lookup a=some o/\o.cls=.type "tuple"/\o.data=.seq its n/\its.size<=Xd/\br xs its.toList
def VG:eQ->Option V
 | .none=>some .non
 | .bool b=>some (.bl b)
 | .int i _=>some (.int i)
 | .str x _=>some (.str x)
 | .bytes b _=>some (.byt b)
 | .float b _=>some (.flt b)
 | .ref a=>some (.ref a)
 | .type n=>some (.ty n)
 | _=>none
def ba.abs {x:V} {u:eQ} (r:ba x u):VG u=some x:=by
 cases x with
 | non=>cases r;rfl
 | bl _=>cases r;rfl
 | int _=>obtain ⟨t,rfl⟩:=r;rfl
 | str _=>obtain ⟨t,rfl⟩:=r;rfl
 | byt _=>obtain ⟨t,rfl⟩:=r;rfl
 | flt _=>obtain ⟨t,rfl⟩:=r;rfl
 | ref _=>cases r;rfl
 | ty _=>cases r;rfl
def ba.inj {x y:V} {u:eQ} (r:ba x u) (q:ba y u):x=y:=Xp (r.abs.symm.trans q.abs)
def br.inj:∀ {xs ys:ac9} {us:ac8},br xs us->br ys us->xs=ys
 | _,_,_,.nil,.nil=>rfl
 | _,_,_,.cons r t,.cons r' t'=>by rw [r.inj r',br.inj t t']
section
variable {X:Cx} {af:ac4} {Z:St} {H:Hp} {s:iF} {a:Le} {xs ys:ac9}
def il.of {K:aT} (h:H a=some (.lst xs)):il K H a xs:=.inl (.inl h)
def Inv.list (I:Inv X af Z H s) (h:il X.K H a xs):∃ its:ac8,br xs its/\PlainL s.heap a its.toArray/\xs.length<=Xd:=by
 rcases h with h|⟨o,its,n,hk,hc,hd,hs,hz,r⟩
 .obtain ⟨z,its,n,r,e⟩:=h.ok I.hok;exact ⟨its,r,⟨_,n,e,rfl,rfl,rfl⟩,z⟩
 .refine ⟨its.toList,r,⟨o,n,I.kIn a o hk,hc,hd,by simpa using hs⟩,?_⟩;have e:=r.length;simp only [X8] at e;omega
def Inv.tuple (I:Inv X af Z H s) (h:l6 X.K H a xs):∃ its:ac8,br xs its/\aam s.heap a its.toArray/\xs.length<=Xd:=by
 rcases h with h|⟨o,its,n,hk,hc,hs,hz,r⟩
 .obtain ⟨z,its,r,p⟩:=h.ok I.hok;exact ⟨its,r,p,z⟩
 .refine ⟨its.toList,r,⟨o,I.kIn a o hk,hc,n,by simpa using hs⟩,?_⟩;have e:=r.length;simp only [X8] at e;omega
def Inv.list_inj (I:Inv X af Z H s) (h:il X.K H a xs) (h':il X.K H a ys):xs=ys:=by
 obtain ⟨its,r,⟨o,n,e,_,_,d⟩,_⟩:=I.list h;obtain ⟨its',L,⟨o',Y,J,_,_,d'⟩,_⟩:=I.list h';rw [e] at J;cases J;rw [d] at d';injection d' with d1 _
 have:its=its':=by simpa using ac1 Array.toList d1
 subst this;exact r.inj L
def Inv.tuple_inj (I:Inv X af Z H s) (h:l6 X.K H a xs) (h':l6 X.K H a ys):xs=ys:=by
 obtain ⟨its,r,⟨o,e,_,n,d⟩,_⟩:=I.tuple h;obtain ⟨its',L,⟨o',J,_,Y,d'⟩,_⟩:=I.tuple h';rw [e] at J;cases J;rw [d] at d';injection d' with d1 _
 have:its=its':=by simpa using ac1 Array.toList d1
 subst this;exact r.inj L
end
abbrev Cx.wish (X:Cx) (E:ac5):Cx:={ X with xe:=E }
abbrev Cx.nox (X:Cx):Cx:=X.wish fun _ _=>False
def Cx.Ok.wish {X:Cx} (ok:X.Ok) (E:ac5):(X.wish E).Ok :=
 ⟨ok.mod,ok.kind,ok.glob,ok.blt,ok.above,ok.inj,ok.has,ok.cab,ok.hd,ok.frames,ok.stk,ok.exf,ok.bs,ok.bsz,ok.noex,ok.exfs,ok.funs,ok.frf⟩
def Cx.Ok.unwish {X:Cx} {E:ac5} (ok:(X.wish E).Ok):X.Ok :=
 ⟨ok.mod,ok.kind,ok.glob,ok.blt,ok.above,ok.inj,ok.has,ok.cab,ok.hd,ok.frames,ok.stk,ok.exf,ok.bs,ok.bsz,ok.noex,ok.exfs,ok.funs,ok.frf⟩
section
variable {X:Cx} {af:ac4} {Z:St} {H:Hp} {s:iF} {E:ac5}
def Inv.wish (I:Inv X af Z H s) (E:ac5):Inv (X.wish E) af Z H s:=⟨I.ok.wish E,I.os,I.bare,I.base,I.loc,I.cell,I.free,I.freeC,I.pin,I.hok,I.len,I.tk⟩
def Inv.unwish (I:Inv (X.wish E) af Z H s):Inv X af Z H s:=⟨I.ok.unwish,I.os,I.bare,I.base,I.loc,I.cell,I.free,I.freeC,I.pin,I.hok,I.len,I.tk⟩
def SP.unwish {D:Ends} {f:Flow} {s':iF} (h:SP (X.wish E) af D f s'):SP X af D f s':=by
 cases f with
 | next=>obtain ⟨J,H',I,q⟩:=h;exact ⟨J,H',I.unwish,q⟩
 | brk=>obtain ⟨J,H',I,q⟩:=h;exact ⟨J,H',I.unwish,q⟩
 | cont=>obtain ⟨J,H',I,q⟩:=h;exact ⟨J,H',I.unwish,q⟩
 | ret u=>obtain ⟨v,J,H',I,r,q⟩:=h;exact ⟨v,J,H',I.unwish,r,q⟩
def D4.nox {st:List Yj} {t:TS} (h:D4 X.nox st t):D4 X st t:=fun af s Z H D I hw =>
 XC (h af s Z H D (I.wish _) hw) (fun _ _ q=>q.unwish) fun _ _ z=>Yv z
end
section
variable {X:Cx} {st:Yj} {rest:List Yj} {t u:TS} {e:Yb} {te:TE} {pos:Pos}
def J4:TS:=fun D Z H=>D.nx Z H
def PP (t u:TS):TS:=fun D Z H=>t { D with nx:=u D } Z H
def Ma:D4 X [] J4:=fun _ _ Z H _ I h=>aaz ⟨Z,H,I,h⟩
def wD (h1:PS X st t) (h2:D4 X rest u):D4 X (st::rest) (PP t u):=by
 intro af s Z H D I h;refine wpAny_execs_cons (dg (h1 af s Z H { D with nx:=u D } I h) fun f s1 q=>?_);cases f with
 | next =>
  obtain ⟨J,H',L,q⟩:=q;exact h2 af s1 J H' D L q
 | ret v=>exact q
 | brk=>exact q
 | cont=>exact q
def Fc (h1:PS X st t):D4 X [st] t:=by
 intro af s Z H D I h;refine wpAny_execs_cons (dg (h1 af s Z H D I h) fun f s1 q=>?_);cases f with
 | next=>exact aaz q
 | ret v=>exact q
 | brk=>exact q
 | cont=>exact q
def Inv.quiet {af:ac4} {Z:St} {H:Hp} {s:iF} (I:Inv X af Z H s):interactive X.env=false:=by simp [interactive,I.ok.kind]
def Ig (te:TE):TS:=fun D Z H=>te Z H fun _ H1=>D.nx Z H1
def MQ (J:PE X e te) (hs:Zf e none pos.line X.env=pure false:=by rfl):PS X (.Expr e pos) (Ig te):=by
 intro af s Z H D I h;exact wpAny_Expr_any (dg (J af s Z H _ I h) fun v s1 L=>n6 L fun x H1 Y r1 q1=>⟨Z,H1,Y,q1⟩) I.quiet hs
def S5 (te:TE):TS:=fun D Z H=>te Z H D.rt
def Q1 (J:PE X e te):PS X (.Return (some e) pos) (S5 te):=by
 intro af s Z H D I h;exact wpAny_Return_some (dg (J af s Z H _ I h) fun v s1 L=>n6 L fun x H1 Y r1 q1=>⟨x,Z,H1,Y,r1,q1⟩)
def NL (c:TT) (t u:TS):TS:=fun D Z H=>c Z H fun b H1=>if b=true then t D Z H1 else u D Z H1
def Uw {c:Yb} {a b:List Yj} {tc:TT} (J:PT X c tc) (Y:D4 X a t) (L:D4 X b u):PS X (.If c a b pos) (NL tc t u):=by
 intro af s Z H D I h;refine wpAny_If (dg (J af s Z H _ I h) fun d s1 ⟨H1,I1,q1⟩=>?_);cases d with
 | true=>exact Y af s1 Z H1 D I1 q1
 | false=>exact L af s1 Z H1 D I1 q1
end
abbrev TG:=V->St->Hp->(St->Hp->Prop)->Prop
abbrev Ht:=ac9->St->Hp->(St->Hp->Prop)->Prop
def PG (X:Cx) (J:Yb) (t:TG):Prop :=
 ∀ (af:ac4) (s:iF) (Z:St) (H:Hp) (v:V) (u:eQ) (Q:St->Hp->Prop),Inv X af Z H s->ba v u->t v Z H Q ->
  RW (Xa X.prog X.w) X.A (assign J X.env u) (fun _ s'=>∃ L H',Inv X af L H' s'/\Q L H') X.xe s
def R5 (X:Cx) (L:List Yb) (t:Ht):Prop :=
 ∀ (af:ac4) (s:iF) (Z:St) (H:Hp) (vs:ac9) (us:ac8) (Q:St->Hp->Prop),Inv X af Z H s->br vs us->t vs Z H Q ->
  RW (Xa X.prog X.w) X.A (assignInOrder ((Yk L X.env).map (·.2)) us) (fun _ s'=>∃ J H',Inv X af J H' s'/\Q J H') X.xe s
abbrev MI:=V->V->V->Hp->(Hp->Prop)->Prop
def P9 (X:Cx) (t:MI):Prop :=
 ∀ (af:ac4) (s:iF) (Z:St) (H:Hp) (o i v:V) (ov J u:eQ) (Q:Hp->Prop),Inv X af Z H s->ba o ov->ba i J->ba v u->t o i v H Q ->
  RW (Xa X.prog X.w) X.A (setItem ov J u) (fun _ s'=>∃ H',Inv X af Z H' s'/\Q H') X.xe s
abbrev VV:=V->V->Hp->VK->Prop
def PIp (X:Cx) (op:Operator) (t:VV):Prop :=
 ∀ (af:ac4) (s:iF) (Z:St) (H:Hp) (x y:V) (v u:eQ) (Q:VK),Inv X af Z H s->ba x v->ba y u->t x y H Q ->
  RW (Xa X.prog X.w) X.A (inplaceOp op v u) (EP X af Z Q) X.xe s
section
variable {X:Cx} {pos:Pos}
def lw (i:Nat):TG:=fun v Z H Q=>Q (Z.set i (some v)) H
def Ee {i:Nat} {x:Str} (L:X.N.Nodup) (hi:X.N[i]?=some x) (Y:Bv X.env.scope x) (hf:X.fn x=true\/X.env.scope.names.lookup x=some .local:=by walk_at"u"):PG X (.Name x pos) (lw i):=by
 intro af s Z H v u Q I r h;exact wpAny_assign_Name (tm I L hi Y r (fun s' J=>⟨_,H,J,h⟩) hf)
def Tk:Ht:=fun vs Z H Q=>vs=[]/\Q Z H
def Oo (t:TG) (u:Ht):Ht:=fun vs Z H Q=>∃ v r,vs=v::r/\t v Z H fun J H'=>u r J H' Q
def LA:R5 X [] Tk:=by
 intro af s Z H vs us Q I r h;obtain ⟨e,h⟩:=h;subst e;cases r;exact assignInOrder_nil ⟨Z,H,I,h⟩
def Jn {e:Yb} {es:List Yb} {t:TG} {u:Ht} (h1:PG X e t) (h2:R5 X es u)
  (L:(Yk (e::es) X.env).map (·.2)=assign e X.env::(Yk es X.env).map (·.2):=by rfl):R5 X (e::es) (Oo t u):=by
 intro af s Z H vs us Q I r h;obtain ⟨v,Y,e1,h⟩:=h;subst e1;cases r with
 | cons r J =>
  rw [L];refine assignInOrder_cons (dg (h1 af s Z H _ _ _ I r h) fun _ s1 ⟨σ1,H1,I1,q1⟩=>?_);exact h2 af s1 σ1 H1 _ _ Q I1 J q1
def Sg (K:aT) (n:Nat) (t:Ht):TG:=fun v Z H Q=>∃ a xs,v=.ref a/\l6 K H a xs/\xs.length=n/\t xs Z H Q
def Qy {es:List Yb} {k:Nat} {t:Ht} {n:Nat} (hc:X.calm=true) (h:R5 X es t)
  (hn:(Yk es X.env).length=n:=by rfl) (J:(Yk es X.env).findIdx? (·.1)=none:=by rfl):PG X (.Tuple es k pos) (Sg X.K n t):=by
 intro af s Z H v u Q I r hw;obtain ⟨a,xs,e1,hq,hl,hw⟩:=hw;subst e1;cases r;obtain ⟨its,L,Y,hz⟩:=I.tuple hq;refine assign_Tuple_tuple (I.ok.hd hc) Y (by simp [hn,<- hl,L.length]) J fun h' hx=>?_;have I1:Inv X af Z H { s with heap:=h' }:=I.kept (t':=s.toks) fun b o e=>hx b o (Xb (MK e)) e;exact h af _ Z H xs _ Q I1 (by simpa using L) hw
def Gf (to L:TE) (t:MI):TG:=fun v Z H Q=>to Z H fun o H1=>L Z H1 fun i H2=>t o i v H2 fun J=>Q Z J
def Qn {o i:Yb} {to Y:TE} {t:MI} (ho:PE X o to) (hi:PE X i Y) (hs:P9 X t)
  (ha:∀ v,assign (.Subscript o i pos) X.env v=(do
   let ov <- holding [v] (eval o X.env)
   let J <- holding [v,ov] (eval i X.env)
   abv pos
   holding [v,ov,J] (setItem ov J v)
   release [v,ov,J] []):=by intro _;rfl):PG X (.Subscript o i pos) (Gf to Y t):=by
 intro af s Z H v u Q I r h;rw [ha];refine bY (Yc (dg (ho af s Z H _ I h) fun ov s1 L=>n6 L fun x H1 I1 r1 q1=>?_));refine bY (Yc (dg (hi af s1 Z H1 _ I1 q1) fun J s2 L=>n6 L fun y H2 I2 r2 q2=>?_));refine bY (wpAny_standAt (bY (Yc (dg (hs af s2 Z H2 x y v ov J u _ I2 r1 r2 r q2) fun _ s3 ⟨H3,I3,q3⟩=>?_))));exact wpAny_release ⟨Z,H3,I3,q3⟩
def x8 (te:TE) (g:TG):TS:=fun D Z H=>te Z H fun x H1=>g x Z H1 D.nx
def OZ {tg e:Yb} {te:TE} {g:TG} (he:PE X e te) (L:PG X tg g) (hs:swapsWithSole [tg] e pos.line X.env=pure false:=by rfl) (hw:swappedStores [tg] e X.env=pure none:=by rfl)
  (h1:(Yk [tg] X.env).map (·.2)=[assign tg X.env]:=by rfl):PS X (.Assign [tg] e pos) (x8 te g):=by
 intro af s Z H D I h;refine wpAny_Assign_stores (dg (he af s Z H _ I h) fun v s1 Y=>n6 Y fun x H1 J r1 q1=>?_) hs hw;rw [h1];exact dg (L af s1 Z H1 x v _ J r1 q1) fun _ s2 q=>q
def O3 {i:Nat} {x:Str} {e:Yb} {te:TE} {pos':Pos} (J:X.N.Nodup) (hi:X.N[i]?=some x) (Y:Bv X.env.scope x) (he:PE X e te) (hs:Zf e (some (.Name x pos')) pos.line X.env=pure false:=by rfl) (hf:X.fn x=true\/X.env.scope.names.lookup x=some .local:=by walk_at"u") :
  PS X (.Assign [.Name x pos'] e pos) (x8 te (lw i)):=by
 intro af s Z H D I h;refine wpAny_Assign_Name (dg (he af s Z H _ I h) fun v s1 hh=>n6 hh fun y H1 L r1 q1=>?_) hs;exact tm L J hi Y r1 (fun s2 I2=>⟨_,H1,I2,q1⟩) hf
def U5 (i:Nat) (te:TE) (J:VV):TS:=fun D Z H=>∃ x,Z[i]?=some (some x)/\te Z H fun y H1=>J x y H1 fun z H2=>D.nx (Z.set i (some z)) H2
def OM {i:Nat} {x:Str} {e:Yb} {te:TE} {op:Operator} {ti:VV} {pos':Pos} (hN:X.N.Nodup) (hi:X.N[i]?=some x) (hx:Bv X.env.scope x) (he:PE X e te) (ho:PIp X op ti) (hf:X.fn x=true\/X.env.scope.names.lookup x=some .local:=by walk_at"u") :
  PS X (.AugAssign (.Name x pos') op e pos) (U5 i te ti):=by
 intro af s Z H D I h;obtain ⟨v,e1,h⟩:=h;obtain ⟨m,hn,hl⟩:=I.loc;have vis:Cz X.env.scope x:=by rcases hx with k|k;exact .inl k;exact .inr (.inl k)
 obtain ⟨u,r,l⟩:=hl i x v hi e1 vis;refine wpAny_AugAssign_Name ?_;have go:RW (Xa X.prog X.w) X.A (eval e X.env) (fun w Y=>RW (Xa X.prog X.w) X.A (inplaceOp op u w) (fun r s₃=>RW (Xa X.prog X.w) X.A (storeName X.env x r) (fun _=>SP X af D .next) X.xe s₃) X.xe Y) X.xe s:=by
  refine dg (he af s Z H _ I h) fun w s1 hh=>n6 hh fun y H1 I1 r1 q1=>?_;refine dg (ho af s1 Z H1 v y u w _ I1 r r1 q1) fun z s2 hh=>n6 hh fun zv H2 I2 r2 q2=>?_;exact tm I2 hN hi hx r2 (fun s3 I3=>⟨_,H2,I3,q2⟩) hf
 rcases l with ⟨J,hm⟩|⟨J,c,hc,L⟩
 .exact wpAny_loadName_local I.ok.kind J hn hm go
 .rcases J with J|J
  .exact wpAny_loadName_cell I.ok.kind J hc L go
  .rcases hx with k|k
   .have:X.env.scope.names.lookup x=some .free:=J
    rw [k] at this;cases this
   .have:X.env.scope.names.lookup x=some .free:=J
    rw [k] at this;cases this
end
section
variable {X:Cx} {pos:Pos}
def JN (c:TT) (tb:TS):TS:=fun D Z H=>∃ W:Nat->St->Hp->Prop,(∃ m,W m Z H)/\∀ m Z H,W m Z H ->
 c Z H fun b H1=>if b=true then ∃ N:St->Hp->Prop,(∀ J H',N J H'->∃ L,L < m/\W L J H')/\tb { D with nx:=N,ct:=N,bk:=D.nx } Z H1 else D.nx Z H1
def Js {c:Yb} {L:List Yj} {tc:TT} {tb:TS} (hp:aaA (Xa X.prog X.w) X.A X.env X.xe) (hc:PT X c tc) (hb:D4 X L tb):PS X (.While c L [] pos) (JN tc tb):=by
 intro af s Z H D I h;obtain ⟨W,⟨m0,w0⟩,turn⟩:=h;refine wpAny_While (codeAny_whileLoop (fun n s'=>∃ σ' H',Inv X af σ' H' s'/\W n σ' H') ?_ m0 ⟨Z,H,I,w0⟩);rintro n s1 ⟨σ1,H1,I1,w1⟩;refine Y6 hp (dg (hc af s1 σ1 H1 _ I1 (turn n σ1 H1 w1)) fun b s2 ⟨H2,I2,q2⟩=>?_);cases b with
 | true =>
  obtain ⟨N,hN,q2⟩:=q2;rw [acW rfl];refine Y6 hp (dg (hb af s2 σ1 H2 _ I2 q2) fun f s3 q3=>?_);cases f with
  | next =>
   obtain ⟨J,Y,I3,n3⟩:=q3;obtain ⟨m',hm,w3⟩:=hN J Y n3;exact ⟨m',hm,J,Y,I3,w3⟩
  | cont =>
   obtain ⟨J,Y,I3,n3⟩:=q3;obtain ⟨m',hm,w3⟩:=hN J Y n3;exact ⟨m',hm,J,Y,I3,w3⟩
  | brk=>exact q3
  | ret v=>exact q3
 | false =>
  rw [acX nE];exact aaz ⟨σ1,H2,I2,q2⟩
end
structure It where
 go:Nat->Hp->Prop
 yld:Nat->Hp->V->Hp->Prop
 stop:Nat->Hp->Prop
def ib (X:Cx) (af:ac4) (H:Hp) (b:Le):Prop :=
 H b=none/\b≠X.env.locals/\b∉X.fs/\(b∈X.ex\/X.s₀.heap.objs.size<=b)/\(∀ x c,X.env.cells.lookup x=some c->c≠b)/\∀ p∈X.pn++af,p.1≠b
def Inv.fpOk {X:Cx} {af:ac4} {Z:St} {H H':Hp} {s:iF} {b:Le} (I:Inv X af Z H s) (J:s.heap.objs.size<=b) (hn:H' b=none):ib X af H' b:=by
 refine ⟨hn,aaL (W5 I.lt J),I.nofs J,.inr (IF I.sz J),fun x c e z=>?_,fun p L z=>?_⟩
 .obtain ⟨v,q⟩:=I.cell x c e;exact absurd (W5 q.lt (by rw [z];exact J)) (Y9 _)
 .exact absurd (W5 (MK (I.pin p L).1) (by rw [z];exact J)) (Y9 _)
structure Turn (P:Xh) (w:Xv) (K:aT) (tg:Yb) (J:It) (fp:ac7) (it:Le) (tn:Nat->YG->Prop):Prop where
 mem:it∈fp
 obj:∀ i h,tn i h->∀ b∈fp,∃ o,h.get? b=some o/\∀ v,o.data≠.cell v
 keep:∀ i h h',tn i h->(∀ b∈fp,∀ o,h.get? b=some o->h'.get? b=some o)->tn i h'
 item:∀ (X:Cx),X.prog=P->X.w=w->X.K=K->X.calm=true->∀ (i:Nat) (af:ac4) (s:iF) (Z:St) (H:Hp) (E:ac5),Inv X af Z H s->(∀ b∈fp,ib X af H b)->tn i s.heap->J.go i H ->
  RW (Xa P w) X.A (pyNext (.ref it)) (fun r s1=>∃ u,r=some u /\
   RW (Xa P w) X.A (aaB tg (.ref it) u) (fun _ s2=>∃ x H',Inv X af Z H' s2/\ba x u/\J.yld i H x H'/\tn (i+1) s2.heap/\∀ b∈fp,H' b=none) E s1) E s
 done:∀ (X:Cx),X.prog=P->X.w=w->X.K=K->X.calm=true->∀ (i:Nat) (af:ac4) (s:iF) (Z:St) (H:Hp) (E:ac5),Inv X af Z H s->(∀ b∈fp,ib X af H b)->tn i s.heap->J.stop i H ->
  RW (Xa P w) X.A (pyNext (.ref it)) (fun r s1=>r=none/\Inv X af Z H s1) E s
 self:∀ (A:Xs) (i:Nat) (s:iF) (Q:ac5) (E:ac5),tn i s.heap->Q (.ref it) s->RW (Xa P w) A (ab8 (.ref it)) Q E s
abbrev TI:=St->Hp->(It->Hp->Prop)->Prop
def WW (X:Cx) (af:ac4) (Z:St) (tg:Yb) (R:It->Hp->Prop) (L:eQ) (Y:iF):Prop :=
 ∃ (it:Le) (fp:ac7) (tn:Nat->YG->Prop) (J:It) (H':Hp),L=.ref it/\Inv X af Z H' Y/\Turn X.prog X.w X.K tg J fp it tn/\tn 0 Y.heap/\(∀ b∈fp,ib X af H' b)/\R J H'
def PI (X:Cx) (tg iter:Yb) (wi:TI):Prop :=
 ∀ (af:ac4) (s:iF) (Z:St) (H:Hp) (R:It->Hp->Prop),Inv X af Z H s->wi Z H R ->
  RW (Xa X.prog X.w) X.A (eval iter X.env) (fun v s1=>RW (Xa X.prog X.w) X.A (ab8 v) (WW X af Z tg R) X.xe s1) X.xe s
def BN {M:Model} {A:Xs} {E:ac5} {s:iF} {tg:Yb} {it:Le} {u:eQ} {o:Obj} {n:String} {vs:Array eQ} {Q:Unit->iF->Prop} (L:s.heap.get? it=some o) (J:o.cls=.type n) (Y:o.data=.fields vs)
    (hn:["enumerate","zip","dict_itemiterator","dict_reverseitemiterator","odict_iterator","itertools.zip_longest","itertools.pairwise"].contains n=false) (hQ:Q () s):RW M A (aaB tg (.ref it) u) Q E s:=by
  unfold aaB;cases tg <;> first
    | exact oR hQ
    | (cases u <;> first
        | exact oR hQ
        | (refine bY (wpAny_load L ?_)
           rw [J,Y];show RW M A (if (["enumerate","zip","dict_itemiterator","dict_reverseitemiterator","odict_iterator","itertools.zip_longest","itertools.pairwise"].contains n&&vs[0]?==some (aaf _))=true then _ else _) Q E s;rw [acX (by intro h;rw [hn,Bool.false_and] at h;cases h)];exact oR hQ))
def V5 (K:aT) (a:Le):It :=
 ⟨fun i H=>∃ xs x,il K H a xs/\xs[i]?=some x,fun i H x H'=>H'=H/\∀ xs,il K H a xs->xs[i]?=some x,fun i H=>∃ xs,il K H a xs/\xs.length<=i⟩
def V8 (K:aT) (a:Le):It :=
 ⟨fun i H=>∃ xs x,l6 K H a xs/\xs[i]?=some x,fun i H x H'=>H'=H/\∀ xs,l6 K H a xs->xs[i]?=some x,fun i H=>∃ xs,l6 K H a xs/\xs.length<=i⟩
def UV (lo:Int) (n:Nat):It:=⟨fun i _=>i < n,fun i H x H'=>H'=H/\x=.int (lo+i),fun i _=>n<=i⟩
def GA {P:Xh} {w:Xv} {K:aT} {tg:Yb} (a it:Le):Turn P w K tg (V5 K a) [it] it (fun i h=>h.IsListIter it a i) where
 mem:=by simp
 obj:=fun i h st b J=>by
  have e:b=it:=by simpa using J
  subst e;obtain ⟨o,e,c,d⟩:=st;exact ⟨o,e,fun v z=>by rw [d] at z;cases z⟩
 keep:=fun i h h' st k=>st.at fun o e=>k it (by simp) o e
 item:=by
  intro X hP hw hK hc i af s Z H E I hf st hg;subst hP hw hK;obtain ⟨xs,x,Y,hx⟩:=hg;obtain ⟨its,rv,p,hz⟩:=I.list Y;obtain ⟨u,hu,ru⟩:=rv.get hx;obtain ⟨f0,f1,f2,f3,f4,f5⟩:=hf it (by simp);refine wpAny_pyNext_list_item st p.isList (x:=u) (by simpa using hu) fun h' L sb=>?_;have I1:Inv X af Z H { s with heap:=h' }:=I.turned (t':=s.toks) (fun b o J e=>(sb.2 b J).trans e) f0 f1 f3 f4 f5;obtain ⟨o,e,c,d⟩:=id L;exact ⟨u,rfl,BN (s:={ s with heap:=h' }) e c d (by decide) ⟨x,H,I1,ru,⟨rfl,fun ys hy=>by rw [I.list_inj hy Y];exact hx⟩,L,fun b J=>(hf b J).1⟩⟩
 done:=by
  intro X hP hw hK hc i af s Z H E I hf st hg;subst hP hw hK;obtain ⟨xs,Y,hx⟩:=hg;obtain ⟨its,rv,p,hz⟩:=I.list Y;obtain ⟨f0,f1,f2,f3,f4,f5⟩:=hf it (by simp);have hl:=rv.length;exact wpAny_pyNext_list_end (I.ok.hd hc) st p.isList (by simp;omega) fun h' eb=>⟨rfl,I.turned (t':=s.toks) (fun b o J e=>eb b o J e) f0 f1 f3 f4 f5⟩
 self:=fun _ _ _ _ _ st h=>wpAny_pyIter_listiter st h
def CM {P:Xh} {w:Xv} {K:aT} {tg:Yb} (a it:Le):Turn P w K tg (V8 K a) [it] it (fun i h=>h.IsTupleIter it a i) where
 mem:=by simp
 obj:=fun i h st b J=>by
  have e:b=it:=by simpa using J
  subst e;obtain ⟨o,e,c,d⟩:=st;exact ⟨o,e,fun v z=>by rw [d] at z;cases z⟩
 keep:=fun i h h' st k=>st.at fun o e=>k it (by simp) o e
 item:=by
  intro X hP hw hK hc i af s Z H E I hf st hg;subst hP hw hK;obtain ⟨xs,x,Y,hx⟩:=hg;obtain ⟨its,rv,p,hz⟩:=I.tuple Y;obtain ⟨u,hu,ru⟩:=rv.get hx;obtain ⟨f0,f1,f2,f3,f4,f5⟩:=hf it (by simp);refine wpAny_pyNext_tuple_item st (show s.heap.IsTuple a its.toArray from p) (x:=u) (by simpa using hu) fun h' L sb=>?_;have I1:Inv X af Z H { s with heap:=h' }:=I.turned (t':=s.toks) (fun b o J e=>(sb.2 b J).trans e) f0 f1 f3 f4 f5;obtain ⟨o,e,c,d⟩:=id L;exact ⟨u,rfl,BN (s:={ s with heap:=h' }) e c d (by decide) ⟨x,H,I1,ru,⟨rfl,fun ys hy=>by rw [I.tuple_inj hy Y];exact hx⟩,L,fun b J=>(hf b J).1⟩⟩
 done:=by
  intro X hP hw hK hc i af s Z H E I hf st hg;subst hP hw hK;obtain ⟨xs,Y,hx⟩:=hg;obtain ⟨its,rv,p,hz⟩:=I.tuple Y;obtain ⟨f0,f1,f2,f3,f4,f5⟩:=hf it (by simp);have hl:=rv.length;exact wpAny_pyNext_tuple_end (I.ok.hd hc) st (show s.heap.IsTuple a its.toArray from p) (by simp;omega) fun h' eb=>⟨rfl,I.turned (t':=s.toks) (fun b o J e=>eb b o J e) f0 f1 f3 f4 f5⟩
 self:=fun _ _ _ _ _ st h=>wpAny_pyIter_tupleiter st h
def Dw {P:Xh} {w:Xv} {K:aT} {tg:Yb} (it:Le) (lo:Int) (n:Nat):Turn P w K tg (UV lo n) [it] it (fun i h=>IsRangeIter h it (lo+(i:Nat)*1) ((n:Int) - (i:Nat)) 1) where
 mem:=by simp
 obj:=fun i h st b J=>by
  have e:b=it:=by simpa using J
  subst e;exact ⟨_,st,fun v z=>by
   have z':Data.fields _=Data.cell v:=z;cases z'⟩
 keep:=fun i h h' st k=>k it (by simp) _ st
 item:=by
  intro X hP hw Y hc i af s Z H E I hf st hg;subst hP hw Y;obtain ⟨f0,f1,f2,f3,f4,f5⟩:=hf it (by simp);have W:=Walks.range (prog:=X.prog) (w:=X.w) (I.ok.hd hc) it lo 1 n;refine bf I.tk (W.item i s _ _ hg st fun v h' tk hv L kk htk=>?_);obtain ⟨t,rfl⟩:=hv;have I1:Inv X af Z H { s with heap:=h',toks:=tk }:=I.turned (fun b o J e=>kk b o (by simpa using J) e) f0 f1 f3 f4 f5;refine ⟨_,rfl,BN (s:={ s with heap:=h',toks:=tk }) (n:="range_iterator") L rfl rfl (by decide) ⟨.int (lo+i),H,I1,⟨t,?_⟩,⟨rfl,rfl⟩,L,fun b J=>(hf b J).1⟩⟩;rw [Int.mul_one]
 done:=by
  intro X hP hw Y hc i af s Z H E I hf st hg;subst hP hw Y;obtain ⟨f0,f1,f2,f3,f4,f5⟩:=hf it (by simp);exact wpAny_pyNext_range_end (I.ok.hd hc) st (by have:n<=i:=hg;omega) fun h' eb=>⟨rfl,I.turned (t':=s.toks) (fun b o J e=>eb b o J e) f0 f1 f3 f4 f5⟩
 self:=fun _ _ _ _ _ st h=>wpAny_pyIter_rangeiter st h
section
variable {X:Cx} {tg:Yb}
def Km {af:ac4} {Z:St} {H:Hp} {s:iF} {R:It->Hp->Prop} {E:ac5} {lo hi:Int} {t u v:Tok} {tk:Nat} (I:Inv X af Z H s) (h1:-(2 ^ 62)<=lo) (h2:lo < 2 ^ 62) (L:-(2 ^ 62)<=hi) (Y:hi < 2 ^ 62)
  (q:R (UV lo (hi - lo).toNat) H) (ht:X.tn<=tk:=by walk_at "tok"):RW (Xa X.prog X.w) X.A (ab8 (.ref s.heap.objs.size)) (WW X af Z tg R) E { s with heap:=s.heap.push { cls:=.type "range",data:=.fields #[.int lo t,.int hi u,.int 1 v] },toks:=tk }:=by
 refine wpAny_pyIter_range (IsRange.new ..) (small_one h1 h2 L Y) ?_;have J:Inv X af Z H { s with heap:=s.heap.push { cls:=.type "range",data:=.fields #[.int lo t,.int hi u,.int 1 v] },toks:=tk }:=I.kept fun b o e=>dO _ e;refine ⟨(s.heap.push { cls:=.type "range",data:=.fields #[.int lo t,.int hi u,.int 1 v] }).objs.size,[(s.heap.push { cls:=.type "range",data:=.fields #[.int lo t,.int hi u,.int 1 v] }).objs.size],_,_,H,rfl,
  J.kept (t':=tk) fun b o e=>dO _ e,Dw _ lo (hi - lo).toNat,?_,fun b hb=>?_,q⟩
 .have e1:lo+((0:Nat):Int)*1=lo:=by simp
  have e2:(((hi - lo).toNat:Nat):Int) - ((0:Nat):Int)=Builtin.Range.rangeSize lo hi 1:=by rw [rangeSize_one];split <;> omega
  show IsRangeIter _ _ (lo+((0:Nat):Int)*1) ((((hi - lo).toNat:Nat):Int) - ((0:Nat):Int)) 1;rw [e1,e2];exact ID _ rfl
 .have e:b=(s.heap.push { cls:=.type "range",data:=.fields #[.int lo t,.int hi u,.int 1 v] }).objs.size:=by simpa using hb
  subst e;exact J.fpOk (mK _) (J.hok.fresh (mK _))
def OP (wi:TI) (g:TG) (tb:TS):TS:=fun D Z H=>wi Z H fun J H1=>∃ W:Nat->Nat->St->Hp->Prop,(∃ m,W 0 m Z H1)/\∀ i m Z H,W i m Z H ->
 (J.stop i H/\D.nx Z H)\/(J.go i H/\∃ N:St->Hp->Prop,(∀ L H',N L H'->∃ m',m' < m/\W (i+1) m' L H')/\∀ x H',J.yld i H x H'->g x Z H' fun Y H2=>tb { D with nx:=N,ct:=N,bk:=D.nx } Y H2)
def re (fp:ac7) (h:YG):ac4:=fp.filterMap fun b=>(h.get? b).map fun o=>(b,o)
def ip {fp:ac7} {h:YG} {b:Le} {o:Obj} (J:b∈fp) (e:h.get? b=some o):(b,o)∈re fp h:=ab1.mpr ⟨b,J,by rw [e];rfl⟩
def G9 {fp:ac7} {h:YG} {p:Le×Obj} (J:p∈re fp h):p.1∈fp/\h.get? p.1=some p.2:=by
 obtain ⟨b,L,e⟩:=ab1.mp J;cases q:h.get? b with
 | none=>rw [q] at e;cases e
 | some o =>
  rw [q] at e;have Y:(b,o)=p:=Xp e;subst Y;exact ⟨L,q⟩
def Inv.pinned {af:ac4} {Z:St} {H:Hp} {s:iF} {fp:ac7} (I:Inv X af Z H s) (hf:∀ b∈fp,ib X af H b) (Y:∀ b∈fp,∃ o,s.heap.get? b=some o/\∀ v,o.data≠.cell v):Inv X (af++re fp s.heap) Z H s :=
 I.pins_of fun p hp=>(DO.mp hp).elim (fun z=>I.pin p (Xc _ z)) fun z=>by
  obtain ⟨J,e⟩:=G9 z;obtain ⟨f0,f1,f2,_⟩:=hf p.1 J;obtain ⟨o,L,d⟩:=Y p.1 J;rw [e] at L;cases L;exact ⟨e,f0,f1,f2,d⟩
def Inv.unpinned {af L:ac4} {Z:St} {H:Hp} {s:iF} (I:Inv X (af++L) Z H s):Inv X af Z H s:=I.pins_of fun p J=>I.pin p (Xc _ (Xf _ J))
def Pi {iter:Yb} {body:List Yj} {wi:TI} {g:TG} {tb:TS} {pos:Pos} (hp:aaA (Xa X.prog X.w) X.A X.env X.xe) (hc:X.calm=true) (hi:PI X tg iter wi) (hg:PG X tg g) (hb:D4 X body tb)
  (hs:∀ x,X5 iter X.env x=pure x:=by intro _;rfl):PS X (.For tg iter body [] pos) (OP wi g tb):=by
 intro af s Z H D I h;refine wpAny_For (dg (hi af s Z H _ I h) fun v s1 h1=>dg h1 fun itv s2 h2=>?_) hs;obtain ⟨it,fp,tn,J,H2,e,I2,T,st2,f2,W,⟨m0,w0⟩,turn⟩:=h2;subst e
 have stat:∀ {H':Hp},(∀ b∈fp,H' b=none)->∀ b∈fp,ib X af H' b:=fun hn b hb=>⟨hn b hb,(f2 b hb).2⟩;refine codeAny_forLoop_any (fun n s'=>∃ i σ' H',Inv X af σ' H' s'/\tn i s'.heap/\(∀ b∈fp,H' b=none)/\W i n σ' H') ?_ m0 ⟨0,Z,H2,I2,st2,fun b hb=>(f2 b hb).1,w0⟩;rintro n s3 ⟨i,σ3,H3,I3,st3,fr3,w3⟩;rcases turn i n σ3 H3 w3 with ⟨stop,qn⟩|⟨go,N,hN,step⟩
 .refine Y6 hp (dg (T.done X rfl rfl rfl hc i af s3 σ3 H3 X.xe I3 (stat fr3) st3 stop) fun r s4 ⟨hr,I4⟩=>?_);subst hr;exact aaz ⟨σ3,H3,I4,qn⟩
 .refine Y6 hp (dg (T.item X rfl rfl rfl hc i af s3 σ3 H3 X.xe I3 (stat fr3) st3 go) fun r s4 ⟨u,hr,h4⟩=>?_);subst hr;refine Y6 hp (dg h4 fun _ s5 ⟨x,H5,I5,r5,y5,st5,fr5⟩=>?_);have I5':=I5.pinned (stat fr5) (T.obj _ _ st5);refine Y6 hp (dg (hg _ s5 σ3 H5 x u _ I5' r5 (step x H5 y5)) fun _ s6 ⟨σ6,H6,I6,q6⟩=>?_);refine Y6 hp (dg (hb _ s6 σ6 H6 _ I6 q6) fun f s7 q7=>?_);have again:∀ {L:St} {Y:Hp},Inv X (af++re fp s5.heap) L Y s7->N L Y->∃ m,m < n/\∃ i σ' H',Inv X af σ' H' s7/\tn i s7.heap/\(∀ b∈fp,H' b=none)/\W i m σ' H':=fun {L Y} I7 n7=>by
   obtain ⟨m',hm,w7⟩:=hN L Y n7;refine ⟨m',hm,i+1,L,Y,I7.unpinned,T.keep _ _ _ st5 fun b hb o e=>(I7.pin (b,o) (Xc _ (Xc _ (ip hb e)))).1,fun b hb=>?_,w7⟩;obtain ⟨o,e,d⟩:=T.obj _ _ st5 b hb;exact (I7.pin (b,o) (Xc _ (Xc _ (ip hb e)))).2.1
  cases f with
  | next=>obtain ⟨L,Y,I7,n7⟩:=q7;exact again I7 n7
  | cont=>obtain ⟨L,Y,I7,n7⟩:=q7;exact again I7 n7
  | brk=>obtain ⟨L,Y,I7,q7⟩:=q7;exact ⟨L,Y,I7.unpinned,q7⟩
  | ret v=>obtain ⟨x7,L,Y,I7,r7,q7⟩:=q7;exact ⟨x7,L,Y,I7.unpinned,r7,q7⟩
end
abbrev R2:=V->V->Hp->VK->Prop
def eZ (X:Cx) (f:eQ->eQ->Sem eQ) (r:R2):Prop :=
 ∀ (af:ac4) (s:iF) (Z:St) (H:Hp) (x y:V) (v u:eQ) (Q:VK),Inv X af Z H s->ba x v->ba y u->r x y H Q ->
  RW (Xa X.prog X.w) X.A (f v u) (EP X af Z Q) X.xe s
def MF (X:Cx) (f:eQ->Sem eQ) (r:V->Hp->VK->Prop):Prop :=
 ∀ (af:ac4) (s:iF) (Z:St) (H:Hp) (x:V) (v:eQ) (Q:VK),Inv X af Z H s->ba x v->r x H Q ->
  RW (Xa X.prog X.w) X.A (f v) (EP X af Z Q) X.xe s
def cg (X:Cx) (f:eQ) (r:ac9->Hp->VK->Prop):Prop :=
 ∀ (af:ac4) (s:iF) (Z:St) (H:Hp) (xs:ac9) (us:ac8) (Q:VK),Inv X af Z H s->br xs us->r xs H Q ->
  RW (Xa X.prog X.w) X.A (call f us) (EP X af Z Q) X.xe s
def Vf (X:Cx) (r:V->Hp->(Bool->Hp->Prop)->Prop):Prop :=
 ∀ (af:ac4) (s:iF) (Z:St) (H:Hp) (x:V) (v:eQ) (Q:Bool->Hp->Prop),Inv X af Z H s->ba x v->r x H Q ->
  RW (Xa X.prog X.w) X.A (truthy v) (TP X af Z Q) X.xe s
def Dv (r:R2) (ta tb:TE):TE:=fun Z H Q=>ta Z H fun x H1=>tb Z H1 fun y H2=>r x y H2 Q
def WK (r:V->Hp->VK->Prop) (ta:TE):TE:=fun Z H Q=>ta Z H fun x H1=>r x H1 Q
def rI (C:Int->Int->Prop) (g:Int->Int->V):R2:=fun x y H Q=>∃ i j,x=.int i/\y=.int j/\C i j/\Q (g i j) H
def LY (g:Int->Int->V):R2:=fun x y H Q=>∃ i j,x=.int i/\y=.int j/\Q (g i j) H
def rU (g:Int->V):V->Hp->VK->Prop:=fun x H Q=>∃ i,x=.int i/\Q (g i) H
section
variable {X:Cx} {a b c:Yb} {ta tb tc:TE} {pos:Pos}
def Pl (ha:PE X a ta) (hb:PE X b tb) {af:ac4} {s:iF} {Z:St} {H:Hp} {R:V->V->Hp->Prop} (I:Inv X af Z H s)
  (h:ta Z H fun x H1=>tb Z H1 fun y H2=>R x y H2) {Q:ac5} {f:eQ->eQ->Sem eQ}
  (hf:∀ v u Y x y H2,Inv X af Z H2 Y->ba x v->ba y u->R x y H2->RW (Xa X.prog X.w) X.A (f v u) Q X.xe Y) :
  RW (Xa X.prog X.w) X.A (eval a X.env) (fun v L=>RW (Xa X.prog X.w) X.A (eval b X.env) (fun u J=>RW (Xa X.prog X.w) X.A (f v u) Q X.xe J) X.xe L) X.xe s:=by
 refine dg (ha af s Z H _ I h) fun v s1 hh=>n6 hh fun x H1 I1 r1 q1=>?_;refine dg (hb af s1 Z H1 _ I1 q1) fun u Y hh=>n6 hh fun y H2 I2 r2 q2=>?_;exact hf v u Y x y H2 I2 r1 r2 q2
def SM {op:Operator} {r:R2} (J:eZ X (YD op) r) (ha:PE X a ta) (Y:PE X b tb):PE X (.BinOp a op b pos) (Dv r ta tb):=by
 intro af s Z H Q I h;exact wpAny_BinOp (Pl ha Y I h fun v u s2 x y H2 I2 rx L q=>J af s2 Z H2 x y v u Q I2 rx L q)
def SN {op:UnaryOp} {r:V->Hp->VK->Prop} (J:MF X (unaryOp op) r) (ha:PE X a ta):PE X (.UnaryOp op a pos) (WK r ta):=by
 intro af s Z H Q I h;exact UnaryOp_ (dg (ha af s Z H _ I h) fun v s1 Y=>n6 Y fun x H1 L r1 q1=>J af s1 Z H1 x v Q L r1 q1)
def UX {f:eQ->eQ->Sem eQ} {C:Int->Int->Prop} {g:Int->Int->Int}
  (rule:∀ (i j:Int) (t u:Tok) (s:iF) (Q:ac5) (E:ac5),C i j->Q (.int (g i j) s.toks) { s with toks:=s.toks+1 }->RW (Xa X.prog X.w) X.A (f (.int i t) (.int j u)) Q E s) :
  eZ X f (rI C fun i j=>.int (g i j)):=by
 intro af s Z H x y v u Q I Y L h;obtain ⟨i,j,rfl,rfl,J,q⟩:=h;obtain ⟨t,rfl⟩:=Y;obtain ⟨t',rfl⟩:=L;exact rule i j t t' s _ _ J ⟨.int (g i j),H,I.tok _,⟨_,rfl⟩,q⟩
def PR {f:eQ->eQ->Sem eQ} {g:Int->Int->Int}
  (rule:∀ (i j:Int) (t u:Tok) (s:iF) (Q:ac5) (E:ac5),Q (.int (g i j) s.toks) { s with toks:=s.toks+1 }->RW (Xa X.prog X.w) X.A (f (.int i t) (.int j u)) Q E s) :
  eZ X f (LY fun i j=>.int (g i j)):=by
 intro af s Z H x y v u Q I L J h;obtain ⟨i,j,rfl,rfl,q⟩:=h;obtain ⟨t,rfl⟩:=L;obtain ⟨t',rfl⟩:=J;exact rule i j t t' s _ _ ⟨.int (g i j),H,I.tok _,⟨_,rfl⟩,q⟩
def LD {f:eQ->eQ->Sem eQ} {g:Int->Int->Bool}
  (rule:∀ (i j:Int) (t u:Tok) (s:iF) (Q:ac5) (E:ac5),Q (.bool (g i j)) s->RW (Xa X.prog X.w) X.A (f (.int i t) (.int j u)) Q E s) :
  eZ X f (LY fun i j=>.bl (g i j)):=by
 intro af s Z H x y v u Q I L J h;obtain ⟨i,j,rfl,rfl,q⟩:=h;obtain ⟨t,rfl⟩:=L;obtain ⟨t',rfl⟩:=J;exact rule i j t t' s _ _ ⟨.bl (g i j),H,I,rfl,q⟩
def Jt (i j:Int):Prop:=0 < j/\j < 1073741824
def Il (i j:Int):Prop:=0<=j/\j<=1000000/\i.natAbs < 2 ^ 64
def Da (i j:Int):Prop:=(-(2 ^ 64) < i/\i < 2 ^ 64)\/(-(2 ^ 64) < j/\j < 2 ^ 64)
theorem Da.ok {i j:Int} (h:Da i j):IntMulOk i j:=by
 rcases h with ⟨h1,h2⟩|⟨h1,h2⟩
 .exact .of_left (intBits_le_64 h1 h2)
 .exact .of_right (intBits_le_64 h1 h2)
def QZ:eZ X (YD .Add) (LY fun i j=>.int (i+j)):=PR fun _ _ _ _ _ _ _ q=>add_int q
def Px:eZ X (YD .Sub) (LY fun i j=>.int (i - j)):=PR fun _ _ _ _ _ _ _ q=>sub_int q
def OO:eZ X (YD .Mult) (rI Da fun i j=>.int (i*j)):=UX fun _ _ _ _ _ _ _ J q=>mul_int q J.ok
def Nk:eZ X (YD .FloorDiv) (rI Jt fun i j=>.int (i/j)):=UX fun i j _ _ _ _ _ J q=>by
 have h1:(0:Int) < j:=J.1;have h2:j < 1073741824:=J.2;exact floordiv_int (by omega) (by rw [Int.fdiv_eq_ediv_of_nonneg i (by omega)];exact q) (.inl (PyProof.noPylong_small (by omega)))
def Qp:eZ X (YD .Mod) (rI (fun _ j=>0 < j) fun i j=>.int (i % j)):=UX fun i j _ _ _ _ _ J q=>by
 have h1:(0:Int) < j:=J;exact mod_int' (by omega) (by rw [Int.fmod_eq_emod_of_nonneg i (by omega)];exact q)
def QE:eZ X (YD .Pow) (rI Il fun i j=>.int (i ^ j.toNat)):=UX fun _ _ _ _ _ _ _ J q=>pow_int_small J.1 J.2.1 J.2.2 q
def Mi:eZ X (inplaceOp .Add) (LY fun i j=>.int (i+j)):=PR fun _ _ _ _ _ _ _ q=>iadd_int q
def unI {f:eQ->Sem eQ} {g:Int->Int}
  (rule:∀ (i:Int) (t:Tok) (s:iF) (Q:ac5) (E:ac5),Q (.int (g i) s.toks) { s with toks:=s.toks+1 }->RW (Xa X.prog X.w) X.A (f (.int i t)) Q E s) :
  MF X f (rU fun i=>.int (g i)):=by
 intro af s Z H x v Q I J h;obtain ⟨i,rfl,q⟩:=h;obtain ⟨t,rfl⟩:=J;exact rule i t s _ _ ⟨.int (g i),H,I.tok _,⟨_,rfl⟩,q⟩
def P3:MF X (unaryOp .USub) (rU fun i=>.int (-i)):=unI fun _ _ _ _ _ q=>neg_int q
end
def B7:V->V->Bool
 | .non,.non=>true|.non,.int _=>true|.int _,.non=>true|.non,.bl _=>true|.bl _,.non=>true|.non,.str _=>true|.str _,.non=>true
 | .int _,.int _=>true|.bl _,.bl _=>true|.str _,.str _=>true|.byt _,.byt _=>true
 | .int _,.str _=>true|.str _,.int _=>true|.bl _,.str _=>true|.str _,.bl _=>true
 | _,_=>false
def rEq:R2:=fun x y H Q=>B7 x y=true/\Q (.bl (decide (x=y))) H
def rNe:R2:=fun x y H Q=>B7 x y=true/\Q (.bl (!decide (x=y))) H
def Eg {i j:Int}:decide (V.int i=V.int j)=(i==j):=by
 rw [ZN];simp
def HU {i j:Bool}:decide (V.bl i=V.bl j)=(i==j):=by
 rw [ZN];simp
def EH {i j:Str}:decide (V.str i=V.str j)=(i==j):=by
 rw [ZN];simp
def EY {i j:Array UInt8}:decide (V.byt i=V.byt j)=(i.toList==j.toList):=by
 rw [ZN];cases i;cases j;simp
section
variable {X:Cx} {a b c:Yb} {ta tb tc:TE} {pos:Pos}
def bh {af:ac4} {Z:St} {H:Hp} {s:iF} {Q:VK} {k J:Bool} (I:Inv X af Z H s) (q:Q (.bl k) H) (e:k=J):EP X af Z Q (.bool J) s:=by
 subst e;exact ⟨.bl k,H,I,rfl,q⟩
def RU:eZ X (Xn .Eq) rEq:=by
 intro af s Z H x y v u Q I Y J h;obtain ⟨L,q⟩:=h;cases x with
 | non =>
  cases Y;cases y with
  | non=>cases J;exact PySem.EqNone.eq_none_none (bh I q (by simp))
  | bl j=>cases J;exact PySem.EqNone.eq_none_bool (bh I q (by simp))
  | int j=>obtain ⟨t',rfl⟩:=J;exact PySem.EqNone.eq_none_int (bh I q (by simp))
  | str j=>obtain ⟨t',rfl⟩:=J;exact PySem.EqNone.eq_none_str (bh I q (by simp))
  | _=>exact absurd (show false=true from L) nE
 | bl i =>
  cases Y;cases y with
  | non=>cases J;exact PySem.EqNone.eq_bool_none (bh I q (by simp))
  | bl j=>cases J;exact eq_bool (bh I q HU)
  | str j=>obtain ⟨t',rfl⟩:=J;exact PySem.EqMixed.eq_bool_str (bh I q (by simp))
  | _=>exact absurd (show false=true from L) nE
 | int i =>
  obtain ⟨t,rfl⟩:=Y;cases y with
  | non=>cases J;exact PySem.EqNone.eq_int_none (bh I q (by simp))
  | int j=>obtain ⟨t',rfl⟩:=J;exact eq_int (bh I q Eg)
  | str j=>obtain ⟨t',rfl⟩:=J;exact PySem.EqMixed.eq_int_str (bh I q (by simp))
  | _=>exact absurd (show false=true from L) nE
 | str i =>
  obtain ⟨t,rfl⟩:=Y;cases y with
  | non=>cases J;exact PySem.EqNone.eq_str_none (bh I q (by simp))
  | bl j=>cases J;exact PySem.EqMixed.eq_str_bool (bh I q (by simp))
  | int j=>obtain ⟨t',rfl⟩:=J;exact PySem.EqMixed.eq_str_int (bh I q (by simp))
  | str j=>obtain ⟨t',rfl⟩:=J;exact eq_str (bh I q EH)
  | _=>exact absurd (show false=true from L) nE
 | byt i =>
  obtain ⟨t,rfl⟩:=Y;cases y with
  | byt j=>obtain ⟨t',rfl⟩:=J;exact PySem.W.eq_bytes (bh I q EY)
  | _=>exact absurd (show false=true from L) nE
 | _=>cases y <;> exact absurd (show false=true from L) nE
def Ss:eZ X (Xn .NotEq) rNe:=by
 intro af s Z H x y v u Q I Y J h;obtain ⟨L,q⟩:=h;cases x with
 | non =>
  cases Y;cases y with
  | non=>cases J;exact PySem.EqNone.ne_none_none (bh I q (by simp))
  | bl j=>cases J;exact PySem.EqNone.ne_none_bool (bh I q (by simp))
  | int j=>obtain ⟨t',rfl⟩:=J;exact PySem.EqNone.ne_none_int (bh I q (by simp))
  | str j=>obtain ⟨t',rfl⟩:=J;exact PySem.EqNone.ne_none_str (bh I q (by simp))
  | _=>exact absurd (show false=true from L) nE
 | bl i =>
  cases Y;cases y with
  | non=>cases J;exact PySem.EqNone.ne_bool_none (bh I q (by simp))
  | bl j=>cases J;exact ne_bool (bh I q (ac1 not HU))
  | str j=>obtain ⟨t',rfl⟩:=J;exact PySem.EqMixed.ne_bool_str (bh I q (by simp))
  | _=>exact absurd (show false=true from L) nE
 | int i =>
  obtain ⟨t,rfl⟩:=Y;cases y with
  | non=>cases J;exact PySem.EqNone.ne_int_none (bh I q (by simp))
  | int j=>obtain ⟨t',rfl⟩:=J;exact ne_int (bh I q (ac1 not Eg))
  | str j=>obtain ⟨t',rfl⟩:=J;exact PySem.EqMixed.ne_int_str (bh I q (by simp))
  | _=>exact absurd (show false=true from L) nE
 | str i =>
  obtain ⟨t,rfl⟩:=Y;cases y with
  | non=>cases J;exact PySem.EqNone.ne_str_none (bh I q (by simp))
  | bl j=>cases J;exact PySem.EqMixed.ne_str_bool (bh I q (by simp))
  | int j=>obtain ⟨t',rfl⟩:=J;exact PySem.EqMixed.ne_str_int (bh I q (by simp))
  | str j=>obtain ⟨t',rfl⟩:=J;exact ne_str (bh I q (ac1 not EH))
  | _=>exact absurd (show false=true from L) nE
 | byt i =>
  obtain ⟨t,rfl⟩:=Y;cases y with
  | byt j=>obtain ⟨t',rfl⟩:=J;exact PySem.W.ne_bytes (bh I q (ac1 not EY))
  | _=>exact absurd (show false=true from L) nE
 | _=>cases y <;> exact absurd (show false=true from L) nE
def Tn:eZ X (Xn .Lt) (LY fun i j=>.bl (decide (i < j))):=LD fun _ _ _ _ _ _ _ q=>lt_int q
def Si:eZ X (Xn .LtE) (LY fun i j=>.bl (decide (i<=j))):=LD fun _ _ _ _ _ _ _ q=>le_int q
def Uf:eZ X (Xn .Gt) (LY fun i j=>.bl (decide (j < i))):=LD fun _ _ _ _ _ _ _ q=>gt_int q
def RN:eZ X (Xn .GtE) (LY fun i j=>.bl (decide (j<=i))):=LD fun _ _ _ _ _ _ _ q=>ge_int q
def G3:eZ X (Xn .Lt) (fun x y H Q=>∃ i j,x=.str i/\y=.str j/\Q (.bl (decide (i.cps.toList < j.cps.toList))) H):=by
 intro af s Z H x y v u Q I L J h;obtain ⟨i,j,rfl,rfl,q⟩:=h;obtain ⟨t,rfl⟩:=L;obtain ⟨t',rfl⟩:=J;exact lt_str (bh I q rfl)
def Gq:eZ X (Xn .In) (fun x y H Q=>∃ i j,x=.str i/\y=.str j/\Q (.bl (!(ZO j i 0 j.length 1).isEmpty)) H):=by
 intro af s Z H x y v u Q I L J h;obtain ⟨i,j,rfl,rfl,q⟩:=h;obtain ⟨t,rfl⟩:=L;obtain ⟨t',rfl⟩:=J;exact in_str (bh I q rfl)
def Qg:eZ X (Xn .Is) (fun x y H Q=>y=.non/\Q (.bl (decide (x=.non))) H):=by
 intro af s Z H x y v u Q I J L h;obtain ⟨rfl,q⟩:=h;cases L;refine is_none_gen (bh I q ?_);cases x <;> first
  | (cases J;rfl)
  | (obtain ⟨t,rfl⟩:=J;rfl)
def zI:eZ X (Xn .NotIn) (fun x y H Q=>∃ i j,x=.str i/\y=.str j/\Q (.bl (!(!(ZO j i 0 j.length 1).isEmpty))) H):=by
 intro af s Z H x y v u Q I L J h;obtain ⟨i,j,rfl,rfl,q⟩:=h;obtain ⟨t,rfl⟩:=L;obtain ⟨t',rfl⟩:=J;exact notIn_str (bh I q rfl)
def eZ.or {f:eQ->eQ->Sem eQ} {r Y:R2} (h:eZ X f r) (h':eZ X f Y):eZ X f (fun x y H Q=>r x y H Q\/Y x y H Q):=by
 intro af s Z H x y v u Q I J L q;rcases q with q|q
 .exact h af s Z H x y v u Q I J L q
 .exact h' af s Z H x y v u Q I J L q
def aL (b:Yb) {op:CmpOp} (h:op≠.In:=by decide) (h2:op≠.NotIn:=by decide):YK op b=false:=by
 have e1:(op==CmpOp.In)=false:=by cases op <;> first|rfl|exact absurd rfl h
 have e2:(op==CmpOp.NotIn)=false:=by cases op <;> first|rfl|exact absurd rfl h2
 cases b <;> simp [YK,e1,e2]
def L7 {op:CmpOp} {r:R2} (J:eZ X (Xn op) r) (ha:PE X a ta) (Y:PE X b tb) (hm:YK op b=false):PE X (.Compare a [op] [b] pos) (Dv r ta tb):=by
 intro af s Z H Q I h;exact wpAny_Compare1 (Pl ha Y I h fun v u s2 x y H2 I2 rx L q=>J af s2 Z H2 x y v u Q I2 rx L q) hm
def Vd (K:aT) (x:V) (H:Hp) (k:Bool):Prop :=
 match x with
 | .non=>k=false
 | .bl b=>k=b
 | .int i=>k=(i != 0)
 | .str y=>y.length<=Xd/\k=((y.length:Int) != 0)
 | .byt y=>y.size<=Xd/\k=((y.size:Int) != 0)
 | .ref p=>(∃ xs,il K H p xs/\k=!xs.isEmpty)\/(∃ xs,l6 K H p xs/\k=!xs.isEmpty)\/∃ kvs,H p=some (.dK kvs)/\k=!kvs.isEmpty
 | _=>False
def Di {κ:Type} {kvs:List (κ×V)} {vs:List (κ×eQ)} (r:KV kvs vs):(!vs.isEmpty)=!kvs.isEmpty:=by
 cases r <;> rfl
def wx {xs:ac9} {its:ac8} (r:br xs its):(!its.toArray.isEmpty)=!xs.isEmpty:=by
 cases r <;> simp
def uy:(Xd:Nat) < 2 ^ 63:=by rw [XJ];decide
def Qd:Vf X (fun x H Q=>∃ k,Vd X.K x H k/\Q k H):=by
 intro af s Z H x v Q I Y h;obtain ⟨k,e,q⟩:=h;have hl:=uy;have hs:Xd=16777216:=XJ;cases x with
 | non =>
  cases Y;have J:k=false:=e;subst J;exact truthy_none ⟨H,I,q⟩
 | bl b =>
  cases Y;have J:k=b:=e;subst J;exact Y7 ⟨H,I,q⟩
 | int i =>
  obtain ⟨t,rfl⟩:=Y;have J:k=(i != 0):=e;subst J;exact PySem.P.truthy_int ⟨H,I,q⟩
 | str y =>
  obtain ⟨t,rfl⟩:=Y;obtain ⟨hy,J⟩:y.length<=Xd/\k=((y.length:Int) != 0):=e;subst J;exact PySem.P.truthy_str (by omega) ⟨H,I.tok _,q⟩
 | byt y =>
  obtain ⟨t,rfl⟩:=Y;obtain ⟨hy,J⟩:y.size<=Xd/\k=((y.size:Int) != 0):=e;subst J;exact PySem.W.truthy_bytes (by omega) ⟨H,I.tok _,q⟩
 | ref p =>
  cases Y;have J:(∃ xs,il X.K H p xs/\k=!xs.isEmpty)\/(∃ xs,l6 X.K H p xs/\k=!xs.isEmpty)\/∃ kvs,H p=some (.dK kvs)/\k=!kvs.isEmpty:=e;rcases J with ⟨xs,hx,J⟩|⟨xs,hx,J⟩|⟨kvs,hx,J⟩
  .subst J;obtain ⟨its,r,pl,hz⟩:=I.list hx;have L:=r.length;exact wpAny_truthy_list pl.isList (by simp only [Do];omega) ⟨H,I.tok _,by rw [wx r];exact q⟩
  .subst J;obtain ⟨its,r,pl,hz⟩:=I.tuple hx;have L:=r.length;exact truthy_tuple pl (by simp only [Do];omega) ⟨H,I.tok _,by rw [wx r];exact q⟩
  .subst J;obtain ⟨hz,hS,vs,r,m⟩:kvs.length<=Xd/\(p==YC)=false/\∃ vs,KV kvs vs/\s.heap.DictOf (cb X.prog X.w) p vs:=I.hok p _ hx;have L:kvs.length=vs.length:=aa2 r;exact wpAny_truthy_dict hS m (by omega) ⟨H,I.tok _,by rw [Di r];exact q⟩
 | _=>exact (show False from e).elim
def CV:eZ X (YD .Add) (fun x y H Q=>∃ i j,x=.str i/\y=.str j/\i.length+j.length<=Xd/\Q (.str (i++j)) H):=by
 intro af s Z H x y v u Q I rx L h;obtain ⟨i,j,rfl,rfl,J,q⟩:=h;obtain ⟨t,rfl⟩:=rx;obtain ⟨t',rfl⟩:=L;exact bf I.tk (add_str (fun t' tk Y=>⟨.str (i++j),H,I.tok _,⟨_,rfl⟩,q⟩) J)
def mz {x:V} {us:ac8} (r:br [x] us):∃ u,us=[u]/\ba x u:=by
 cases r with
 | cons r1 r2=>cases r2;exact ⟨_,rfl,r1⟩
def HB {x y:V} {us:ac8} (r:br [x,y] us):∃ u w',us=[u,w']/\ba x u/\ba y w':=by
 cases r with
 | cons r1 r2 =>
  cases r2 with
  | cons r3 r4=>cases r4;exact ⟨_,_,rfl,r1,r3⟩
def HW:cg X (.builtin "abs") (fun xs H Q=>∃ i,xs=[.int i]/\Q (.int (if i < 0 then -i else i)) H):=by
 intro af s Z H xs us Q I r h;obtain ⟨i,rfl,q⟩:=h;obtain ⟨u,rfl,t,rfl⟩:=mz r;exact bf I.tk (call_abs_int fun u tk J=>⟨.int (if i < 0 then -i else i),H,I.tok _,⟨_,rfl⟩,q⟩)
end
structure ObjM (h:YG) (x dx C:Le) (mA:ac6):Prop where
 obj:h.get? x=some (YQ C dx)
 ns:h.Ns1 dx mA
 ne:dx≠x
def FF {h:YG} {dx:Le} {mA:ac6} (n:h.Ns1 dx mA):∃ od,h.get? dx=some od/\∀ name,abG name od=some (mA name):=by
 obtain ⟨o,es,ep,Y,L,hk,_,hm⟩:=n;refine ⟨o,Y,fun name=>?_⟩;have e:=hm name;unfold nsFind findBy at e;rw [<- ab2] at e;unfold abG;rw [L];dsimp only;split
 .rename_i y q;rw [q] at e;exact ac1 some e
 .rename_i q;rw [q] at e;have a:es.toList.any (·.refKey)=false:=by
   rw [acb];intro y hy;obtain ⟨z,t,J⟩:=hk y (Array.mem_toList_iff.mp hy);simp [DictEntry.refKey,J]
  have a':¬ es.toList.any (·.refKey)=true:=by rw [a];exact nE
  rw [acX a'];exact ac1 some e
def ObjM.look {h:YG} {x dx C:Le} {mA:ac6} (I:ObjM h x dx C mA):∃ od,abH h x (YQ C dx) C (some od)/\∀ name,abG name od=some (mA name) :=
 let ⟨od,ho,hl⟩:=FF I.ns
 ⟨od,⟨I.obj,rfl,rfl,ho⟩,hl⟩
section
variable {prog:Xh} {w:Xv} {A:Xs} {E:ac5} {s:iF} {K:aT} {x dx C f:Le} {mA:ac6} {name:Str} {v:eQ}
def get_map {L:Bool} {Q:ac5} (X:K.In s.heap) (I:ObjM s.heap x dx C mA) (hg:aba K C name=true) (hh:aaS K C=true)
  (ha:X0 K (.ref C) name=some none) (hv:mA name=some v) (Y:acs v=true) (h:Q v { s with toks:=s.toks+1 }) :
  RW (Xa prog w) A (getAttr (.ref x) name L) Q E s:=by
 obtain ⟨od,J,hl⟩:=I.look;exact PySem.W.get_value X J (PySem.W.plainGet_of hg).1 (PySem.W.findObj_own hh ha rfl (by rw [hl,hv])) Y h
def MR {ns:ac3} {Q:Unit->iF->Prop} (X:K.In s.heap) (I:ObjM s.heap x dx C mA)
  (hs:X0 K (.ref C) "__setattr__"=some (some (.builtin "object.__setattr__"))) (hp:acd K C=true) (ht:abi K C name=some none) (hh:aaS K C=true)
  (hw:acm mA ns) (hsz:ns.length<=Xd)
  (h:∀ h',ObjM h' x dx C (fun y=>if y=name then some v else mA y)->X6 dx s.heap h'->Q () { s with heap:=h',toks:=s.toks+2 }) :
  RW (Xa prog w) A (setAttr (.ref x) name v) Q E s:=by
 obtain ⟨od,J,hl⟩:=I.look;refine PySem.W.set_plain X J hs (PySem.W.osa_open (s:={ s with toks:=s.toks+1 }) (r:=none) X J hp ht fun b=>?_);obtain ⟨cd,hc,hd'⟩:=PySem.W.any_some hh;have hx:s.heap.get? x=some ⟨.ref C,some dx,.plain,#[]⟩:=I.obj;refine bY (oR (bY (bY (wpAny_loadPart hx (bY (PySem.W.Looks.here (s:={ s with toks:=s.toks+1 }) (PySem.W.looks_clsIn X hc) ?_))))));rw [hd'];refine oR (a:=some dx) (bY (oR (bY ?_)));refine wpAny_nsSet1 (s:={ s with toks:=s.toks+1 }) I.ns fun h' Y L=>?_;obtain ⟨oD,esD,epD,hoD,hdD,hcD⟩:=Y.count (PySem.Within.cons name v hw);refine bY (wpAny_lookBehind hoD (by rw [hdD];exact pastItsLine_dict (IF hcD (by rw [Xq];omega))) ?_);exact oR (h _ ⟨(L.2 _ (YU I.ne)).trans I.obj,Y,I.ne⟩ L)
def J9 {R:Result->iF->Prop} {vs:ac8} {kw:List (Str×eQ)} (X:K.In s.heap) (J:acE K C=true)
  (hi:X0 K (.ref C) "__init__"=some (some (.ref f))) (hf:PySem.W.typeIn K (.ref f)=some (.type "function"))
  (h:Z3 (Xa prog w) (A.under (.builtin "type.__call__" ⟨.ref C::vs,kw⟩)) (.call (.ref f) ⟨.ref (s.heap.objs.size+1)::vs,kw⟩) (PySem.W.InitBack (s.heap.objs.size+1) R)
   { s with heap:=(s.heap.push Yi).push (YQ C s.heap.objs.size) }) :
  Z3 (Xa prog w) A (.call (.ref C) ⟨vs,kw⟩) R s:=by
 obtain ⟨L,g,d,t,os⟩:=s;exact PySem.W.make_core (PySem.W.makes_of X J) (PySem.W.looks_findIn X hi) (fun self=>PySem.W.bind_fn X self hf) (.inl rfl) h
end
def qr (f:Str) (v:V):List (Str×V)->List (Str×V)
 | []=>[(f,v)]
 | (g,x)::r=>if g=f then (g,v)::r else (g,x)::qr f v r
def uX (f g:Str) (v:V):∀ fs:List (Str×V),(qr f v fs).lookup g=if g=f then some v else fs.lookup g
 | []=>by
  show YR g [(f,v)]=_;by_cases h:g=f
  .have hb:(g==f)=true:=beq_iff_eq.mpr h;simp only [YR,hb,acW h]
  .have hb:(g==f)=false:=beq_eq_false_iff_ne.mpr h;simp only [YR,hb,acX h]
 | (k,x)::r=>by
  have L:=uX f g v r;rw [show qr f v ((k,x)::r)=(if k=f then (k,v)::r else (k,x)::qr f v r) from rfl];by_cases J:k=f
  .rw [acW J];by_cases h:g=k
   .have hb:(g==k)=true:=beq_iff_eq.mpr h;simp only [YR,hb,acW (h.trans J)]
   .have hb:(g==k)=false:=beq_eq_false_iff_ne.mpr h;simp only [YR,hb,acX (fun e:g=f=>h (e.trans J.symm))]
  .rw [acX J];by_cases h:g=k
   .have hb:(g==k)=true:=beq_iff_eq.mpr h;simp only [YR,hb,acX (fun e:g=f=>J (h.symm.trans e))]
   .have hb:(g==k)=false:=beq_eq_false_iff_ne.mpr h;simp only [YR,hb];exact L
def t8 (f:Str) (v:V):∀ fs:List (Str×V),f∈(qr f v fs).map (·.1)/\∀ g,g∈fs.map (·.1)->g∈(qr f v fs).map (·.1)
 | []=>⟨by simp [qr],fun g h=>by simp at h⟩
 | (k,x)::r=>by
  obtain ⟨i1,i2⟩:=t8 f v r;rw [show qr f v ((k,x)::r)=(if k=f then (k,v)::r else (k,x)::qr f v r) from rfl];by_cases J:k=f
  .rw [acW J];subst J;exact ⟨by simp,fun g h=>by simpa using h⟩
  .rw [acX J];refine ⟨?_,fun g h=>?_⟩
   .rw [By];exact lT _ i1
   .rw [By] at h ⊢;rcases iN.mp h with e|e
    .exact iN.mpr (.inl e)
    .exact lT _ (i2 g e)
def uJ (f:Str) (v:V):∀ fs:List (Str×V),(qr f v fs).length<=fs.length+1
 | []=>by simp [qr]
 | (k,x)::r=>by
  have L:=uJ f v r;rw [show qr f v ((k,x)::r)=(if k=f then (k,v)::r else (k,x)::qr f v r) from rfl];by_cases J:k=f
  .rw [acW J,Xq,Xq];omega
  .rw [acX J,Xq,Xq];omega
def qW.some_of {v:V} {o:Option eQ} (r:qW (some v) o):∃ u,o=some u/\ba v u:=by
 cases o with
 | none=>exact (show False from r).elim
 | some u=>exact ⟨u,rfl,r⟩
def qW.none_of {o:Option eQ} (r:qW none o):o=none:=by
 cases o with
 | none=>rfl
 | some u=>exact (show False from r).elim
def FW {v:V} {u:eQ} (r:ba v u):acs u=true:=by
 cases v with
 | non=>cases (show u=XG from r);rfl
 | bl b=>cases (show u=abx b from r);rfl
 | int i=>obtain ⟨t,e⟩:=(show ∃ t,u=abX i t from r);cases e;rfl
 | str x=>obtain ⟨t,e⟩:=(show ∃ t,u=abY x t from r);cases e;rfl
 | byt b=>obtain ⟨t,e⟩:=(show ∃ t,u=Value.bytes b t from r);cases e;rfl
 | flt b=>obtain ⟨t,e⟩:=(show ∃ t,u=acD b t from r);cases e;rfl
 | ref a=>cases (show u=Xr a from r);rfl
 | ty n=>cases (show u=aar n from r);rfl
section
variable {P:Xh} {w:Xv} {H H':Hp} {h h':YG} {a C dx:Le} {fs fs':List (Str×V)}
def z6 (J:qF P w H h) (e:H a=some (.ins C dx fs)):∃ mA,ObjM h a dx C mA/\(∀ f,qW (fs.lookup f) (mA f))/\acm mA (fs.map (·.1))/\fs.length<=1000/\H dx=some (.own a):=by
 obtain ⟨d,z,ne,L,mA,n,r,q⟩:=(show bT P w H h a (.ins C dx fs) from J a _ e);exact ⟨mA,⟨L,n,ne⟩,r,q,z,d⟩
end
structure Cls (K:aT) (C:Le):Prop where
 pg:aba K C Str.empty=true
 hd:aaS K C=true
 po:acd K C=true
 sa:X0 K (.ref C) "__setattr__"=some (some (.builtin "object.__setattr__"))
def Cls.get {K:aT} {C:Le} (c:Cls K C) (f:Str):aba K C f=true:=c.pg
def iz (K:aT) (C:Le) (f:Str):Prop:=X0 K (.ref C) f=some none
def iz.taker {K:aT} {C:Le} {f:Str} (n:iz K C f):abi K C f=some none:=by
 unfold abi;rw [show X0 K (.ref C) f=some none from n];rfl
section
variable {X:Cx} {af:ac4} {Z:St} {H:Hp} {s:iF} {a C dx:Le} {fs:List (Str×V)} {f:Str} {v:V} {A:Xs} {E:ac5}
def D6 {b:Bool} {Q:ac5} (I:Inv X af Z H s) (e:H a=some (.ins C dx fs)) (c:Cls X.K C) (n:iz X.K C f) (l:fs.lookup f=some v)
  (h:∀ u s',Inv X af Z H s'->ba v u->Q u s'):RW (Xa X.prog X.w) A (getAttr (.ref a) f b) Q E s:=by
 obtain ⟨mA,O,r,_,_,_⟩:=z6 I.hok e;obtain ⟨u,L,J⟩:=qW.some_of (v:=v) (o:=mA f) (by rw [<- l];exact r f);exact get_map I.kIn O (c.get f) c.hd n L (FW J) (h u _ (I.tok _) J)
def DN {y:V} {u:eQ} {Q:Unit->iF->Prop} (I:Inv X af Z H s) (e:H a=some (.ins C dx fs)) (c:Cls X.K C) (n:iz X.K C f) (hl:fs.length < 1000) (ry:ba y u)
  (h:∀ s',Inv X af Z (upd H a (.ins C dx (qr f y fs))) s'->Q () s'):RW (Xa X.prog X.w) A (setAttr (.ref a) f u) Q E s:=by
 obtain ⟨mA,O,r,wi,_,J⟩:=z6 I.hok e;have Y:(fs.map (·.1)).length<=Xd:=by rw [lE,XJ];omega
 refine MR I.kIn O c.sa c.po n.taker c.hd wi Y fun h' O' L=>h _ ?_;have hd:∃ o,h'.get? dx=some o:=let ⟨o,_,_,e',_⟩:=O'.ns;⟨o,e'⟩;refine I.write (x:=a) (e:=dx) (by rw [e];exact Yw) (.inr J) (fun b q hb z=>(L.2 b hb).trans z) hd ?_;refine ⟨by rw [aM O.ne];exact J,?_,O.ne,O'.obj,_,O'.ns,fun g=>?_,fun g hg=>?_⟩
 .have:=uJ f y fs;omega
 .show qW ((qr f y fs).lookup g) (if g=f then some u else mA g);rw [uX];by_cases q:g=f
  .rw [acW q,acW q];exact ry
  .rw [acX q,acX q];exact r g
 .by_cases q:g=f
  .rw [q];exact (t8 f y fs).1
  .refine (t8 f y fs).2 g (wi g fun z=>hg ?_);show (if g=f then some u else mA g)=none;rw [acX q];exact z
def Inv.made (I:Inv X af Z H s):Inv X af Z (upd (upd H s.heap.objs.size (.own (s.heap.objs.size+1))) (s.heap.objs.size+1) (.ins C s.heap.objs.size []))
  { s with heap:=(s.heap.push Yi).push (YQ C s.heap.objs.size) }:=by
 have e1:(s.heap.push Yi).get? s.heap.objs.size=some Yi:=ID s.heap rfl;have e2:((s.heap.push Yi).push (YQ C s.heap.objs.size)).get? (s.heap.objs.size+1)=some (YQ C s.heap.objs.size):=by
  have:=ID (s.heap.push Yi) (o:=YQ C s.heap.objs.size) rfl
  rwa [X9] at this
 have e3:(s.heap.push Yi).Ns s.heap.objs.size (fun _=>none):=⟨Yi,#[],_,e1,rfl,(fun e Y=>absurd Y (by simp)),fun _=>rfl⟩;have J:=I.laid (a:=s.heap.objs.size) (o:=.own (s.heap.objs.size+1)) (h':=s.heap.push Yi) (t':=s.toks) (fun b u q=>dO _ q) (mK _) ⟨_,e1⟩;refine J.laid (a:=s.heap.objs.size+1) (o:=.ins C s.heap.objs.size []) (t':=s.toks) (fun b u q=>dO _ q) (aco (X9 _ _)) ?_;have ne:s.heap.objs.size≠s.heap.objs.size+1:=Xb (Ze _);refine ⟨by rw [aM ne,aS],Xk _,ne,e2,fun _=>none,(Heap.Ns1.of_empty e3).at fun o q=>dO _ q,fun _=>Yw,fun y L=>absurd rfl L⟩
def Lm {prog:Xh} {w:Xv} {env:Env} {e:Yb} {f:Str} {pos:Pos} {s:iF} {Q:ac5} (L:YE e f env (eval e env)=eval e env)
  (h:RW (Xa prog w) A (eval e env) (fun o J=>RW (Xa prog w) A (getAttr o f true) Q E J) E s):RW (Xa prog w) A (eval (.Attribute e f pos) env) Q E s :=
 Attribute_any_ h (by rw [arm_eval_Attribute,L])
end
def Wr (K:aT) (ta:TE) (f:Str):TE:=fun Z H Q=>ta Z H fun x H1=>∃ a C dx fs v,x=.ref a/\H1 a=some (.ins C dx fs)/\Cls K C/\iz K C f/\fs.lookup f=some v/\Q v H1
def Vp (K:aT) (ta tv:TE) (f:Str):TS:=fun D Z H=>tv Z H fun y H1=>ta Z H1 fun x H2=>∃ a C dx fs,x=.ref a/\H2 a=some (.ins C dx fs)/\Cls K C/\iz K C f/\fs.length < 1000 /\
 D.nx Z (upd H2 a (.ins C dx (qr f y fs)))
section
variable {X:Cx} {o e value:Yb} {f:Str} {pos pos' tpos:Pos} {ta tv:TE}
def OI (J:PE X e ta) (hb:YE e f X.env (eval e X.env)=eval e X.env):PE X (.Attribute e f pos) (Wr X.K ta f):=by
 intro af s Z H Q I h;refine Lm hb (dg (J af s Z H _ I h) fun u s1 ⟨x,H1,I1,rx,a,C,dx,fs,v,ex,ea,c,n,l,q⟩=>?_);subst ex;obtain rfl:u=Xr a:=rx;exact D6 I1 ea c n l fun u' s2 L Y=>⟨v,H1,L,Y,q⟩
def Dy (ha:PE X o ta) (L:PE X value tv) (Y:Zf value (some (.Attribute o f pos')) pos.line X.env=pure false):PS X (.Assign [.Attribute o f pos'] value pos) (Vp X.K ta tv f):=by
 intro af s Z H D I h;refine plainObj_wpAny_Assign_Attribute (dg (L af s Z H _ I h) fun u s1 ⟨y,H1,I1,ry,q⟩=>dg (ha af s1 Z H1 _ I1 q) fun ov s2 ⟨x,H2,I2,rx,a,C,dx,fs,ex,ea,c,n,l,q2⟩=>?_) Y;subst ex;obtain rfl:ov=Xr a:=rx;exact DN I2 ea c n l ry fun s3 J=>⟨Z,_,J,q2⟩
end
section
variable {X:Cx} {af:ac4} {Z:St} {H:Hp} {s:iF} {A:Xs} {E:ac5} {Q:ac5} {c:eQ} {b:Bool}
inductive TyOf (K:aT) (H:Hp):V->eQ->Prop where
 | non:TyOf K H .non (.type "NoneType")
 | bl (x:Bool):TyOf K H (.bl x) (.type "bool")
 | int (i:Int):TyOf K H (.int i) (.type "int")
 | str (x:Str):TyOf K H (.str x) (.type "str")
 | flt (x:UInt64):TyOf K H (.flt x) (.type "float")
 | lst {a:Le} {xs:ac9} (e:H a=some (.lst xs)):TyOf K H (.ref a) (.type "list")
 | frz {a:Le} {o:Obj} {xs:ac9} (e:H a=some (.frz o (.lst xs))):TyOf K H (.ref a) (.type "list")
 | tup {a:Le} {xs:ac9} (e:H a=some (.tup xs)):TyOf K H (.ref a) (.type "tuple")
 | dK {a:Le} {kvs:List (bC×V)} (e:H a=some (.dK kvs)):TyOf K H (.ref a) (.type "dict")
 | dT {a:Le} {kvs:List (List bC×V)} (e:H a=some (.dT kvs)):TyOf K H (.ref a) (.type "dict")
 | ins {a C dx:Le} {fs:List (Str×V)} (e:H a=some (.ins C dx fs)) (cl:Cls K C) (ha:X0 K (.ref C) "__class__"=some (some (.builtin "object.__class__")))
   (hn:aaT K (.builtin "object.__class__") "__get__"=some (some (.builtin "getset_descriptor.__get__"))) (htk:abj K (.builtin "object.__class__")=some true)
   (hm:aa3 K C (.type "object")=some true):TyOf K H (.ref a) (.ref C)
def mx {x:V} {u t:eQ} (I:Inv X af Z H s) (L:ba x u) (ty:TyOf X.K H x t) (e:YX X.K t c=some b) (h:∀ tk,Q (.bool b) { s with toks:=tk }) :
  RW (Xa X.prog X.w) A (call (.builtin "isinstance") [u,c]) Q E s:=by
 cases ty with
 | non=>cases (show u=XG from L);exact XO PySem.W.kitx_none I.kIn Yw e (fun z=>nomatch z) h
 | bl y=>cases (show u=abx y from L);exact XO PySem.W.kitx_bool I.kIn Yw e (fun z=>nomatch z) h
 | int i=>obtain ⟨t,q⟩:=(show ∃ t,u=abX i t from L);cases q;exact XO PySem.W.kitx_int I.kIn Yw e (fun z=>nomatch z) h
 | str y=>obtain ⟨t,q⟩:=(show ∃ t,u=abY y t from L);cases q;exact XO PySem.W.kitx_str I.kIn Yw e (fun z=>nomatch z) h
 | flt y=>obtain ⟨t,q⟩:=(show ∃ t,u=acD y t from L);cases q;exact XO PySem.W.kitx_float I.kIn Yw e (fun z=>nomatch z) h
 | @lst a xs ea =>
  cases (show u=Xr a from L);obtain ⟨_,_,n,_,h1⟩:=(show bT X.prog X.w H s.heap a (.lst xs) from I.hok a _ ea);exact XO aaU I.kIn ⟨_,h1,rfl⟩ e (fun z=>nomatch z) h
 | @frz a ob xs ea =>
  cases (show u=Xr a from L);obtain ⟨_,_,_,n,_,h1⟩:=(show bT X.prog X.w H s.heap a (.frz ob (.lst xs)) from I.hok a _ ea);exact XO aaU I.kIn ⟨_,h1,rfl⟩ e (fun z=>nomatch z) h
 | @tup a xs ea =>
  cases (show u=Xr a from L);obtain ⟨_,_,_,p⟩:=(show bT X.prog X.w H s.heap a (.tup xs) from I.hok a _ ea);obtain ⟨o,h1,h2,_⟩:=p;exact XO ab3 I.kIn ⟨o,h1,h2⟩ e (fun z=>nomatch z) h
 | @dK a kvs ea =>
  cases (show u=Xr a from L);obtain ⟨_,_,vs,_,p⟩:=(show bT X.prog X.w H s.heap a (.dK kvs) from I.hok a _ ea);obtain ⟨o,es,ep,h1,h2,_⟩:=p;exact XO aaV I.kIn ⟨o,h1,h2.1⟩ e (fun z=>nomatch z) h
 | @dT a kvs ea =>
  cases (show u=Xr a from L);obtain ⟨_,_,xs,_,o,es,ep,h1,h2,_⟩:=(show bT X.prog X.w H s.heap a (.dT kvs) from I.hok a _ ea);exact XO aaV I.kIn ⟨o,h1,h2.1⟩ e (fun z=>nomatch z) h
 | @ins a C dx fs ea cl ha hn htk hm =>
  cases (show u=Xr a from L);obtain ⟨mA,O,_⟩:=z6 I.hok ea;obtain ⟨od,J,_⟩:=O.look;exact XO (PySem.W.kitx_own (cl.get _) cl.hd ha hn htk hm) I.kIn J e (fun z=>nomatch z) h
end
structure Room (k:Nat) (A:Xs):Prop where
 hd:A.handled=none
 dp:A.depth+3*k+5 < recursionLimit
 un:A.units+16*k+200 < ZM
def Room.mono {j k:Nat} {A:Xs} (r:Room k A) (h:j<=k):Room j A:=⟨r.hd,by have:=r.dp;omega,by have:=r.un;omega⟩
def Room.deeper {k:Nat} {A:Xs} (r:Room (k+1) A) (env:Env):Room k (A.deeper env) :=
 ⟨r.hd,by have:=r.dp;show A.depth+1+3*k+5 < _;omega,by have:=r.un;show A.units+3+16*k+200 < _;omega⟩
def DQ {A:Xs} {C:Le} {us:ac8} {kw:List (Str×eQ)}:(A.under (.builtin "type.__call__" ⟨.ref C::us,kw⟩)).depth=A.depth+1:=by
 first|rfl|simp [acp,Code.weight,Code.isCreation,Code.isGuard,Code.isCaller,Code.frames,acq,guardIds]
def CL {A:Xs} {C:Le} {us:ac8} {kw:List (Str×eQ)}:(A.under (.builtin "type.__call__" ⟨.ref C::us,kw⟩)).units=A.units+1:=by
 first|rfl|simp [acp,Code.cUnits,Code.frames,acq]
def Room.make {k:Nat} {A:Xs} (r:Room (k+1) A) (C:Le) (us:ac8) (kw:List (Str×eQ)):Room k (A.under (.builtin "type.__call__" ⟨.ref C::us,kw⟩)) :=
 ⟨r.hd,by have:=r.dp;rw [DQ];omega,by have:=r.un;rw [CL];omega⟩
def Room.depth {k:Nat} {A:Xs} (r:Room k A):A.depth < recursionLimit:=by have:=r.dp;omega
def Room.units {k:Nat} {A:Xs} (r:Room k A):A.units+64 < ZM:=by have:=r.un;omega
def FK:TA:=fun _ H Q=>Q [] H
def yo (ta:TE) (tr:TA):TA:=fun Z H Q=>ta Z H fun x H1=>tr Z H1 fun xs H2=>Q (x::xs) H2
section
variable {X:Cx} {e:Yb} {es:List Yb} {te:TE} {t:TA} {pos:Pos}
def Qc:PA X [] FK:=fun _ _ _ _ H Q I h=>ace ⟨[],H,I,.nil,h⟩
def MN (ha:PE X e te) (L:PA X es t) (hs:Xy (e::es) X.env=(false,eval e X.env)::Xy es X.env:=by rfl):PA X (e::es) (yo te t):=by
 intro pos af s Z H Q I h;rw [hs];show RW _ _ (spliced ((false,eval e X.env)::ZK pos (Xy es X.env))) _ _ s;refine ab4 (dg (ha af s Z H _ I h) fun u s1 J=>n6 J fun x H1 Y r1 q1=>?_);exact dg (L pos af s1 Z H1 _ Y q1) fun us s2 J=>n6 J fun xs H2 I2 r2 q2=>⟨x::xs,H2,I2,.cons r1 r2,q2⟩
def R3 (t:TA):TE:=fun Z H Q=>t Z H fun xs H1=>xs.length<=Xd/\∀ p,H1 p=none->Q (.ref p) (upd H1 p (.tup xs))
def SJ (t:TA):TE:=fun Z H Q=>t Z H fun xs H1=>xs.length<=Xd/\∀ p,H1 p=none->Q (.ref p) (upd H1 p (.lst xs))
def Pg {x1} (h:PA X es t):PE X (.Tuple es x1 pos) (R3 t):=by
 intro af s Z H Q I J;refine wpAny_Tuple_spliced (dg (h pos af s Z H _ I J) fun us s1 ⟨xs,H1,I1,r,z,q⟩=>⟨by rw [<- r.length];exact z,?_⟩);have hf:H1 s1.heap.objs.size=none:=I1.hok.fresh (mK _);refine ⟨.ref s1.heap.objs.size,upd H1 s1.heap.objs.size (.tup xs),I1.laid (t':=s1.toks) (fun b u e=>dO _ e) (mK _) ?_,rfl,q _ hf⟩;exact ⟨z,us,r,⟨_,ID _ rfl,rfl,_,rfl⟩⟩
def Rb (h:PA X es t):PE X (.List es pos) (SJ t):=by
 intro af s Z H Q I J;refine wpAny_List_spliced (dg (h pos af s Z H _ I J) fun us s1 ⟨xs,H1,I1,r,z,q⟩=>⟨by rw [<- r.length];exact z,?_⟩);have hf:H1 s1.heap.objs.size=none:=I1.hok.fresh (mK _);refine ⟨.ref s1.heap.objs.size,upd H1 s1.heap.objs.size (.lst xs),I1.laid (t':=s1.toks) (fun b u e=>dO _ e) (mK _) ?_,rfl,q _ hf⟩;exact ⟨z,us,0,r,ID _ rfl⟩
end
abbrev Sp:=ac9->Hp->VK->XK->Prop
abbrev FR:=List Env->Hp->iF->XK->eQ->iF->Prop
structure Env0 (P:Xh) (w:Xv) (K:aT) (mg:ac6) (base:YG) (A:Xs) (outer:List Env) (s:iF) (H:Hp):Prop where
 frames:A.frames=some outer
 mod:Mod K mg base
 bs:∀ b o,base.get? b=some o->s.heap.get? b=some o/\H b=none
 bsz:base.objs.size<=s.heap.objs.size
 funs:s.heap.FunFrames base outer
 frf:∀ b∈Hi outer,H b=none
 hok:qF P w H s.heap
 bare:AllBare s.gens
def CE (J:List Env) (P:Xh) (w:Xv) (H:Hp) (s:iF) (Q:VK) (u:eQ) (s':iF):Prop :=
 ∃ v H',s'.os=s.os/\AllBare s'.gens/\Un (Hi J) [] H H' s.heap s'.heap/\qF P w H' s'.heap/\ba v u/\Q v H'
def CR (CX:FR) (J:List Env) (P:Xh) (w:Xv) (H:Hp) (s:iF) (Q:VK) (E:XK) (r:Result) (s':iF):Prop :=
 match r with
 | .ok (.ret u)=>CE J P w H s Q u s'
 | .ok _=>False
 | .error e=>CX J H s E e s'
structure FnOk (P:Xh) (w:Xv) (K:aT) (mg:ac6) (base:YG) (CX:FR) (k:Nat) (f:Le) (fd:Xz) (ps:ac3) (sp:Sp):Prop where
 len:∀ vs H Q E,sp vs H Q E->vs.length=ps.length
 run:∀ (A:Xs) (outer:List Env) (s:iF) (H:Hp) (args:Args) (us:ac8) (vs:ac9) (Q:VK) (E:XK),Room k A->Env0 P w K mg base A outer s H->BindsTo s fd args (ps.zip us)->br vs us->sp vs H Q E ->
  Z3 (Xa P w) A (.call (.ref f) args) (CR CX outer P w H s Q E) s
def FnOk.imp {P:Xh} {w:Xv} {K:aT} {mg:ac6} {base:YG} {CX:FR} {k:Nat} {f:Le} {fd:Xz} {ps:ac3} {sp L:Sp} (F:FnOk P w K mg base CX k f fd ps sp)
  (h:∀ vs H Q E,L vs H Q E->sp vs H Q E):FnOk P w K mg base CX k f fd ps L :=
 ⟨fun vs H Q E q=>F.len vs H Q E (h _ _ _ _ q),fun A J s H Y us vs Q E hr he hb hv hs=>F.run A J s H Y us vs Q E hr he hb hv (h _ _ _ _ hs)⟩
def Env0.make {P:Xh} {w:Xv} {K:aT} {mg:ac6} {base:YG} {A:Xs} {J:List Env} {s:iF} {H:Hp} (e:Env0 P w K mg base A J s H) (C:Le) (us:ac8) (kw:List (Str×eQ)) :
  Env0 P w K mg base (A.under (.builtin "type.__call__" ⟨.ref C::us,kw⟩)) J s H:=⟨by first|exact e.frames|(simpa [acp,Code.envs,acq,pushEnvs] using e.frames),e.mod,e.bs,e.bsz,e.funs,e.frf,e.hok,e.bare⟩
def Env0.in1 {P:Xh} {w:Xv} {K:aT} {mg:ac6} {base:YG} {A:Xs} {J:List Env} {s:iF} {H:Hp} (e:Env0 P w K mg base A J s H) :
  Env0 P w K mg base A.in1 J s H:=⟨e.frames,e.mod,e.bs,e.bsz,e.funs,e.frf,e.hok,e.bare⟩
section
variable {X:Cx} {af:ac4} {Z:St} {H:Hp} {s s':iF}
def Inv.env0 (I:Inv X af Z H s):Env0 X.prog X.w X.K X.mg X.base X.A X.stack s H :=
 ⟨I.ok.frames,I.ok.mod,I.bs,IF I.ok.bsz I.sz,I.stack,I.stkFree,I.hok,I.bare⟩
def Inv.after {Q:VK} {u:eQ} (I:Inv X af Z H s) (h:CE X.stack X.prog X.w H s Q u s') (ht:X.tn<=s'.toks:=by walk_at "tok"):EP X af Z Q u s':=by
 obtain ⟨v,H',os,J,un,Y,r,q⟩:=h;obtain ⟨hh,g,d,t,L⟩:=s';obtain rfl:L=s.os:=os;exact ⟨v,H',I.call (h':=hh) (g':=g) (d':=d) (t':=t) (ch:=[]) un Y J (fun b z=>absurd z (by simp)),r,q⟩
end
def Uq (sp:Sp) (dvs:ac9) (E:XK) (t:TA):TE:=fun Z H Q=>t Z H fun vs H1=>sp (vs++dvs) H1 Q E
def Ux (C:Le) (sp:Sp) (dvs:ac9) (E:XK) (t:TA):TE:=fun Z H Q=>t Z H fun vs H1=>∀ x dx,H1 x=none->H1 dx=none->dx≠x ->
 sp (.ref x::(vs++dvs)) (upd (upd H1 dx (.own x)) x (.ins C dx [])) (fun v H2=>v=.non/\Q (.ref x) H2) E
def kg (K:aT) (fd:Xz) (ps:ac3) (ds:ac8):Prop :=
 ∀ (s:iF) (us:ac8),K.In s.heap->(us++ds).length=ps.length->BindsTo s fd ⟨us,[]⟩ (ps.zip (us++ds))
def kg.all {K:aT} {fd:Xz} {ps:ac3} (h:∀ us:ac8,us.length=ps.length->bindArgs fd ⟨us,[]⟩=pure (ps.zip us)):kg K fd ps []:=fun s us _ J=>by
 rw [XY] at J ⊢;exact .of_eq (h us J)
def wP (CX:FR) (X:Cx) (E:XK):Prop:=∀ (af:ac4) (Z:St) (H:Hp) (s:iF) (e:eQ) (s':iF),Inv X af Z H s->CX X.stack H s E e s'->X.xe e s'
section
variable {X:Cx} {CX:FR} {k:Nat} {f C:Le} {fd:Xz} {ps:ac3} {sp:Sp} {dvs:ac9} {ds:ac8} {E:XK} {x m:Str} {p pos apos:Pos} {e o:Yb} {es:List Yb} {ta:TE} {t:TA}
def IP {af:ac4} {Z:St} {H:Hp} {s:iF} {Q:VK} {us:ac8} {vs:ac9} (F:FnOk X.prog X.w X.K X.mg X.base CX k f fd ps sp) (L:Room k X.A) (hb:kg X.K fd ps ds) (Y:br dvs ds) (hx:wP CX X E)
  (I:Inv X af Z H s) (r:br vs us) (h:sp (vs++dvs) H Q E):RW (Xa X.prog X.w) X.A (call (.ref f) us) (EP X af Z Q) X.xe s:=by
 have r2:br (vs++dvs) (us++ds):=r.append Y;have hl:(us++ds).length=ps.length:=by rw [<- r2.length];exact F.len _ _ _ _ h
 refine wpAny_call (fM I.tk (YW (F.run X.A X.stack s H ⟨us,[]⟩ (us++ds) (vs++dvs) Q E L I.env0 (hb s us I.kIn hl) r2 h) fun r s' J htk=>?_));cases r with
 | error e=>exact hx af Z H s e s' I J
 | ok fl =>
  cases fl with
  | ret u=>exact I.after J
  | next=>exact Yv J
  | brk=>exact Yv J
  | cont=>exact Yv J
def IK (F:FnOk X.prog X.w X.K X.mg X.base CX k f fd ps sp) (hr:Room k X.A) (Y:Gl X x) (L:X.mg x=some (.ref f)) (hk:Z6 X.K (.ref f)=true) (hb:kg X.K fd ps ds) (hd:br dvs ds) (hx:wP CX X E)
  (J:adb x:=by decide):PE X (.Call (.Name x p) [] [] pos) (Uq sp dvs E FK):=by
 intro af s Z H Q I h;refine XR (iK I Y L ?_ J);exact PySem.W.callWith_K0 I.kIn hk (IP (us:=[]) F hr hb hd hx I .nil h)
structure Mk (K:aT) (C f:Le):Prop where
 makes:acE K C=true
 init:X0 K (.ref C) "__init__"=some (some (.ref f))
 fn:PySem.W.isFn K (.ref f)=true
 kp:Z6 K (.ref C)=true
def Im {af:ac4} {Z:St} {H:Hp} {s:iF} {Q:VK} {us:ac8} {vs:ac9} (M:Mk X.K C f) (F:FnOk X.prog X.w X.K X.mg X.base CX k f fd ps sp) (hr:Room (k+1) X.A) (hb:kg X.K fd ps ds) (hd:br dvs ds)
  (hx:wP CX X E) (I:Inv X af Z H s) (r:br vs us)
  (h:∀ x dx,H x=none->H dx=none->dx≠x->sp (.ref x::(vs++dvs)) (upd (upd H dx (.own x)) x (.ins C dx [])) (fun v H2=>v=.non/\Q (.ref x) H2) E) :
  RW (Xa X.prog X.w) X.A (call (.ref C) us) (EP X af Z Q) X.xe s:=by
 have Y:=h (s.heap.objs.size+1) s.heap.objs.size (I.hok.fresh (Zj _)) (I.hok.fresh (mK _)) (Xb (Ze _));have L:=Inv.made (C:=C) I;have r2:br (V.ref (s.heap.objs.size+1)::(vs++dvs)) (Xr (s.heap.objs.size+1)::(us++ds)):=.cons rfl (r.append hd);have hl:(Xr (s.heap.objs.size+1)::us++ds).length=ps.length:=by
  have e:=r2.length;rw [F.len _ _ _ _ Y] at e;exact e.symm
 refine wpAny_call (J9 (f:=f) I.kIn M.makes M.init (beq_iff_eq.mp M.fn) (fM L.tk (YW (F.run _ X.stack _ _ ⟨Xr (s.heap.objs.size+1)::us,[]⟩ (Xr (s.heap.objs.size+1)::(us++ds)) _ _ E (hr.make C us [])
  (L.env0.make C us []) (hb _ (Xr (s.heap.objs.size+1)::us) L.kIn hl) r2 Y) fun r s' J htk=>?_)))
 cases r with
 | error e=>exact hx af Z _ _ e s' L J
 | ok fl =>
  cases fl with
  | ret u =>
   obtain ⟨v,H',I3,rv,ev,q3⟩:=L.after J;subst ev;exact ⟨rv,⟨V.ref (s.heap.objs.size+1),H',I3,rfl,q3⟩⟩
  | next=>exact Yv J
  | brk=>exact Yv J
  | cont=>exact Yv J
def Nx (M:Mk X.K C f) (F:FnOk X.prog X.w X.K X.mg X.base CX k f fd ps sp) (hr:Room (k+1) X.A) (hg:Gl X x) (hm:X.mg x=some (.ref C)) (hb:kg X.K fd ps ds) (hd:br dvs ds) (hx:wP CX X E)
  (ha:PA X (e::es) t) (J:adb x:=by decide) (he:Xy (e::es) X.env=(false,eval e X.env)::Xy es X.env:=by rfl) (L:(ZK pos (Xy es X.env)).any (·.1)=false:=by rfl) :
  PE X (.Call (.Name x p) (e::es) [] pos) (Ux C sp dvs E t):=by
 intro af s Z H Q I h;refine XR (iK I hg hm ?_ J);refine ZP (h₀:=X.base) I.ok.mod.kin M.kp (dg (ha pos af s Z H _ I h) fun us s1 hh=>n6 hh fun vs H1 Y r q=>⟨Y.kIn,?_⟩) he L;exact Im M F hr hb hd hx Y r q
end
def PK (X:Cx) (kws:List abU) (t:TA):Prop :=
 ∀ (pos:Pos) (af:ac4) (s:iF) (Z:St) (H:Hp) (Q:ac9->Hp->Prop),Inv X af Z H s->t Z H Q->RW (Xa X.prog X.w) X.A (evalAll ((backToKw pos (aa9 kws X.env)).map (·.2))) (AP X af Z Q) X.xe s
section
variable {X:Cx} {CX:FR} {k:Nat} {f C:Le} {fd:Xz} {ps ks:ac3} {sp:Sp} {E:XK} {x m:Str} {p pos apos kpos:Pos} {e o:Yb} {es:List Yb} {kws:List abU} {te ta:TE} {t tk:TA} {nm:Option Str}
def Rn:PK X [] FK:=fun _ _ _ _ H Q I h=>wpAny_evalAll_nil ⟨[],H,I,.nil,h⟩
def LW (ha:PE X e te) (L:PK X kws t):PK X (⟨nm,e,kpos⟩::kws) (yo te t):=by
 intro pos af s Z H Q I h;show RW _ _ (evalAll ((do let v <- eval e X.env;abv pos;pure v)::(backToKw pos (aa9 kws X.env)).map (·.2))) _ _ s;refine wpAny_evalAll_cons (bY (dg (ha af s Z H _ I h) fun u s1 J=>n6 J fun x H1 Y r1 q1=>bY (wpAny_standAt (oR ?_))));exact dg (L pos af s1 Z H1 _ Y q1) fun us s2 J=>n6 J fun xs H2 I2 r2 q2=>⟨x::xs,H2,I2,.cons r1 r2,q2⟩
variable {g:ac8->ac8->ac8} {gV:ac9->ac9->ac9}
end
structure FnScope (N P:ac3) (sc:Scope):Prop where
 kind:sc.kind=.function
 co:sc.isCoroutine=false
 gen:sc.isGenerator=false
 nd:N.Nodup
 pre:N.take P.length=P
 par:∀ x∈P,sc.names.lookup x=some .local\/sc.names.lookup x=some .cell
 nofree:∀ y∈sc.names,y.2≠.free
def yu {J:Str->Option aaa} {x:Str}:∀ {binds:List (Str×eQ)} {m:ac6},(∀ v,(x,v)∉binds)->bindL J binds m x=m x
 | [],_,_=>rfl
 | (n,v)::r,m,h=>by
  unfold bindL;rw [yu fun w hw=>h w (lT _ hw)];split
  .have:x≠n:=by rintro rfl;exact h v W6
   simp [this]
  .rfl
def yY {J:Str->Option aaa} {x:Str}:∀ {binds:List (Str×eQ)} {m:ac6},(∀ v,(x,v)∉binds)->bindC J binds m x=m x
 | [],_,_=>rfl
 | (n,v)::r,m,h=>by
  unfold bindC;rw [yY fun w hw=>h w (lT _ hw)];split
  .rfl
  .have:x≠n:=by rintro rfl;exact h v W6
   simp [this]
def yk {J:Str->Option aaa} {x:Str} {v:eQ}:∀ {P:ac3} {vs:ac8} {i:Nat} {m:ac6},P.Nodup->P[i]?=some x->vs[i]?=some v->J x=some .local ->
  bindL J (P.zip vs) m x=some v
 | [],_,_,_,_,h,_,_=>by simp at h
 | _::_,[],_,_,_,_,h,_=>by simp at h
 | p::P,w::vs,0,m,nd,h1,h2,hk=>by
  simp at h1 h2;subst h1;subst h2;show bindL J ((p,w)::P.zip vs) m p=_;unfold bindL;rw [yu fun v L=>(XI.mp nd).1 (XA L).1,acW hk];simp
 | p::P,w::vs,i+1,m,nd,h1,h2,hk=>by
  show bindL J ((p,w)::P.zip vs) m x=_;unfold bindL;exact yk (i:=i) (XI.mp nd).2 (by simpa using h1) (by simpa using h2) hk
def yN {J:Str->Option aaa} {x:Str} {v:eQ}:∀ {P:ac3} {vs:ac8} {i:Nat} {m:ac6},P.Nodup->P[i]?=some x->vs[i]?=some v->J x≠some .local ->
  bindC J (P.zip vs) m x=some v
 | [],_,_,_,_,h,_,_=>by simp at h
 | _::_,[],_,_,_,_,h,_=>by simp at h
 | p::P,w::vs,0,m,nd,h1,h2,hk=>by
  simp at h1 h2;subst h1;subst h2;show bindC J ((p,w)::P.zip vs) m p=_;unfold bindC;rw [yY fun v L=>(XI.mp nd).1 (XA L).1,acX hk];simp
 | p::P,w::vs,i+1,m,nd,h1,h2,hk=>by
  show bindC J ((p,w)::P.zip vs) m x=_;unfold bindC;exact yN (i:=i) (XI.mp nd).2 (by simpa using h1) (by simpa using h2) hk
def start (N:ac3) (vs:ac9):St:=vs.map some++Zx (N.length - vs.length) none
def vR (CX:FR) (P:Xh) (w:Xv) (K:aT) (mg:ac6) (base:YG) (N:ac3) (J:Str) (scope:Scope) (f:Le) (Y:eQ) (A:Xs) (outer:List Env) (s:iF) (H:Hp) (E:XK):Cx where
 prog:=P
 w:=w
 K:=K
 mg:=mg
 base:=base
 A:=A.deeper (abd J scope s.heap.objs.size f Y)
 N:=N
 s₀:=s
 H₀:=H
 env:=abd J scope s.heap.objs.size f Y
 outer:=outer
 stack:=abd J scope s.heap.objs.size f Y::outer
 ex:=[]
 calm:=true
 fn:=fun _=>true
 pn:=[]
 xe:=fun e s'=>RW (Xa P w) (A.deeper (abd J scope s.heap.objs.size f Y)) (leaving (abd J scope s.heap.objs.size f Y) e) (fun _ L=>CX outer H s E e L) (fun e' L=>CX outer H s E e' L) s'
def BD {J:Scope} {n:Nat} {x:Str} (h:J.names.lookup x=some .cell):∃ c,(cellsFrom n J.names []).lookup x=some c:=by
 have q:=abf J.names n [] (.inl h);exact Option.isSome_iff_exists.mp q
def Gp {CX:FR} {P:Xh} {w:Xv} {K:aT} {mg:ac6} {base:YG} {N ps:ac3} {L:Str} {scope:Scope} {f:Le} {cd:eQ} {A:Xs} {J:List Env} {s s1:iF} {H:Hp} {E:XK} {us:ac8} {vs:ac9}
  (S:FnScope N ps scope) (hd:A.handled=none) (Y:Env0 P w K mg base A J s H) (hl:vs.length=ps.length) (r:br vs us)
  (x:InCallC s s.heap.objs.size (bindL (abd L scope s.heap.objs.size f cd).kindOf (ps.zip us) fun _=>none) (cellsFrom (s.heap.objs.size+1) scope.names []) (bindC (abd L scope s.heap.objs.size f cd).kindOf (ps.zip us) fun _=>none) s1) :
  Inv (vR CX P w K mg base N L scope f cd A J s H E) [] (start N vs) H s1:=by
 have hpl:ps.length<=N.length:=by have:=ac1 abQ S.pre;rw [XH] at this;omega
 obtain ⟨h1,tk,rfl,hk⟩:=x.done;have noA:∀ b:Le,b∉(vR CX P w K mg base N L scope f cd A J s H E).ex:=fun b z=>absurd (show b∈([]:ac7) from z) (by simp);refine ⟨⟨Y.mod,S.kind,rfl,rfl,mK _,fun y z c h1 h2=>?_,fun y hy=>?_,fun y c _ h=>?_,fun _=>hd,Around.frames_deeper Y.frames,.inr ⟨rfl,rfl⟩,fun b z=>absurd z (noA b),Y.bs,Y.bsz,fun b _ _=>noA b,fun b z=>absurd z (noA b),Y.funs,Y.frf⟩,
  rfl,Y.bare,Un.kept hk,⟨_,x.toInCall.ns,fun i y v h1 h2 h3=>?_⟩,fun y c h=>⟨_,x.cell y c h⟩,Y.hok.fresh (mK _),fun y c h=>?_,fun p hp=>absurd (show p∈([]:ac4) from hp) (by simp),Y.hok.kept hk,?_,Xk _⟩
 .exact name_of_addr x.apart (YS h1) (YS h2)
 .have hy:scope.names.lookup y=some .cell\/scope.names.lookup y=some .free:=hy;rcases hy with hy|hy
  .exact BD hy
  .exact absurd rfl (S.nofree _ (YS hy))
 .exact acn (x.above y c (YS h))
 .have hi:i < vs.length:=by
   unfold start at h2;by_cases hi:i < vs.length
   .exact hi
   .rw [aaG (by simpa using hi)] at h2;rw [aa4] at h2;split at h2 <;> cases h2
  have ha:vs[i]?=some v:=by
   unfold start at h2;rw [Zy (by simpa using hi),Xw] at h2;cases e:vs[i]? with
   | none=>rw [e] at h2;cases h2
   | some a=>rw [e] at h2;cases h2;rfl
  obtain ⟨u,hu,rv⟩:=r.get ha;have hp:ps[i]?=some y:=by
   rw [<- S.pre,List.getElem?_take_of_lt (by omega)];exact h1
  have ndP:ps.Nodup:=by rw [<- S.pre];exact S.nd.sublist (acf _ _)
  refine ⟨u,rv,?_⟩;rcases S.par y (Yx hp) with k|k
  .exact .inl ⟨k,yk ndP hp hu k⟩
  .obtain ⟨c,e⟩:=BD (n:=s.heap.objs.size+1) k;refine .inr ⟨.inl k,c,e,?_⟩;have q:=x.cell y c e;rw [yN ndP hp hu (by show scope.names.lookup y≠_;rw [k];decide)] at q;exact q
 .exact Y.hok.fresh (acn (x.above y c (YS h)))
 .unfold start;show _=N.length;rw [BY,lE,List.length_replicate];omega
def Of {CX:FR} {P:Xh} {w:Xv} {K:aT} {mg:ac6} {base:YG} {k:Nat} {f:Le} {name Y:Str} {params:Arguments} {body:List Yj} {scope:Scope} {dV kV doc pm cdv ct oc:eQ} {an od:Option Le}
  {osl:Array (Option eQ)} {N ps:ac3} {sp:Sp} (lk:K.lookup f=some ⟨oc,od,.func (Yy name Y params body scope dV kV doc pm an cdv ct),osl⟩) (hcd:Z7 K cdv Y=true) (S:FnScope N ps scope)
  (len:∀ vs H Q E,sp vs H Q E->vs.length=ps.length)
  (hbody:∀ (A:Xs) (L:List Env) (s:iF) (H:Hp) (vs:ac9) (Q:VK) (E:XK),Room k (A.deeper (abd Y scope s.heap.objs.size f cdv))->sp vs H Q E ->
   ∃ t,D4 (vR CX P w K mg base N Y scope f cdv A L s H E) body t/\t { nx:=fun _ H'=>Q .non H',rt:=Q } (start N vs) H) :
  FnOk P w K mg base CX (k+1) f (Yy name Y params body scope dV kV doc pm an cdv ct) ps sp:=by
 refine ⟨len,fun A L s H args us vs Q E hr e0 hb r hsp=>?_⟩;have hl:=len _ _ _ _ hsp;have KX:K.In s.heap:=e0.mod.kin.keeps fun b o e=>(e0.bs b o e).1;have lim:s.heap.NoLimit:=e0.mod.nolimit.keeps fun b o e=>(e0.bs b o e).1;have hkind:∀ y∈ps.zip us,scope.names.lookup y.1=some .local\/(scope.names.lookup y.1=some .cell/\((cellsFrom (s.heap.objs.size+1) scope.names []).lookup y.1).isSome=true):=fun ⟨n,v⟩ hy=>by
  rcases S.par n (XA hy).1 with q|q
  .exact .inl q
  .exact .inr ⟨q,abf _ _ _ (.inl q)⟩
 refine codeAny_call_function hr.depth (KX _ _ lk) rfl S.co S.gen rfl (PySem.W.codeRec_of KX hcd) (hb _ _ _ _ ?_);refine wpAny_newFunctionEnv_cells S.kind hkind fun env he s1 x=>?_;subst he;refine ⟨lim.keeps x.toInCall.keep,codeAny_func ?_⟩;obtain ⟨t,ht,hq⟩:=hbody A L s H vs Q E (hr.deeper _) hsp;have I:Inv (vR CX P w K mg base N Y scope f cdv A L s H E) [] (start N vs) H s1:=Gp S hr.hd e0 hl r x;refine XC (ht [] s1 (start N vs) H _ I hq) (fun fl s' hs=>?_) fun e s' hs=>hs;have fin:∀ {σ':St} {H':Hp} {v:V} {u:eQ},Inv (vR CX P w K mg base N Y scope f cdv A L s H E) [] σ' H' s'->ba v u->Q v H'->CE L P w H s Q u s' :=
  fun {σ' H' v u} J rv q=>⟨v,H',J.os,J.bare,J.base,J.hok,rv,q⟩
 cases fl with
 | ret u =>
  obtain ⟨v,σ',H',J,rv,q⟩:=hs;exact fin J rv q
 | next =>
  obtain ⟨σ',H',J,q⟩:=hs;exact fin (v:=V.non) (u:=XG) J rfl q
 | brk =>
  obtain ⟨_,_,_,q⟩:=hs;exact Yv q
 | cont =>
  obtain ⟨_,_,_,q⟩:=hs;exact Yv q
section
variable {X:Cx} {x:Str} {p pos:Pos} {e:Yb} {es:List Yb} {t:TA} {id T:String} {r:ac9->Hp->VK->Prop}
def Rt (r:ac9->Hp->VK->Prop) (t:TA):TE:=fun Z H Q=>t Z H fun vs H1=>r vs H1 Q
def JR (hc:cg X (.builtin id) r) (hg:Gl X x) (hm:X.mg x=none) (hv:Xl x=some (.builtin id)) (ha:PA X (e::es) t) (hn:x≠"__name__":=by decide) (J:adb x:=by decide)
  (he:Xy (e::es) X.env=(false,eval e X.env)::Xy es X.env:=by rfl) (L:(ZK pos (Xy es X.env)).any (·.1)=false:=by rfl):PE X (.Call (.Name x p) (e::es) [] pos) (Rt r t):=by
 intro af s Z H Q I h;refine XR (m8 I hg hm hv ?_ hn J);exact aad (dg (ha pos af s Z H _ I h) fun us s1 hh=>n6 hh fun vs H1 Y r1 q1=>hc af s1 Z H1 vs us Q Y r1 q1) he L
def He (hc:cg X (.type T) r) (hg:Gl X x) (hm:X.mg x=none) (hv:Xl x=some (.type T)) (ha:PA X (e::es) t) (hn:x≠"__name__":=by decide) (J:adb x:=by decide)
  (he:Xy (e::es) X.env=(false,eval e X.env)::Xy es X.env:=by rfl) (L:(ZK pos (Xy es X.env)).any (·.1)=false:=by rfl):PE X (.Call (.Name x p) (e::es) [] pos) (Rt r t):=by
 intro af s Z H Q I h;refine XR (m8 I hg hm hv ?_ hn J);exact Ym (dg (ha pos af s Z H _ I h) fun us s1 hh=>n6 hh fun vs H1 Y r1 q1=>hc af s1 Z H1 vs us Q Y r1 q1) he L
end
end L2
namespace HT
open PySem PyProof.Rows
section
variable {prog:Xh} {w:Xv} {A:Xs} {E:ac5} {s:iF}
def Mb {t b:Le} {vs ws:ac8} {Q:ac5} (ht:aam s.heap t vs.toArray) (hb:aam s.heap b ws.toArray) (hv:vs≠[])
  (h1:ws=[]->Q (.ref t) s) (h2:ws≠[]->Q (.ref s.heap.objs.size) { s with heap:=s.heap.push { cls:=.type "tuple",data:=.seq (vs++ws).toArray } })
  (hsz:vs.length+ws.length<=Xd):RW (Xa prog w) A (YD .Add (.ref t) (.ref b)) Q E s:=by
 obtain ⟨⟨cls,dd,data,sl⟩,ho,hc,n,hd⟩:=id ht;obtain ⟨⟨cls2,dd2,data2,Y⟩,J,hc2,n2,L⟩:=id hb;simp only at hc hd hc2 L;subst hc hd hc2 L;have e:vs.toArray++ws.toArray=(vs++ws).toArray:=by simp
 by_cases hw:ws=[]
 .exact concat_meets ⟨_,ho,rfl⟩ ⟨_,J,rfl⟩ noFill_tuple_add seq_tuple_add ZY ZQ (ZJ _ _)
   (tuple_addW1 t b vs.toArray ws.toArray n n2 dd dd2 sl Y (by simpa using hv) (by simp [hw])) ⟨ho,J,h1 hw⟩
 .refine concat_meets ⟨_,ho,rfl⟩ ⟨_,J,rfl⟩ noFill_tuple_add seq_tuple_add ZY ZQ (ZJ _ _)
   (tuple_addW2 t b vs.toArray ws.toArray n n2 dd dd2 sl Y (by simpa using hv) (by simpa using hw) (by rw [Do,Do];exact hsz)) ⟨ho,J,?_⟩
  rw [e];exact h2 hw
def sIx (n d:Nat):Option Int->Nat
 | none=>d
 | some v=>if v < 0 then (v+(n:Int)).toNat else min v.toNat n
def Bu (n d:Nat):sIx n d none=d:=rfl
def pY (n d k:Nat):sIx n d (some (k:Int))=min k n:=by
 show (if (k:Int) < 0 then ((k:Int)+(n:Int)).toNat else min (k:Int).toNat n)=min k n;rw [acX (by omega),XN]
def Db (n d:Nat) (L:d<=n) (o:Option Int):sIx n d o<=n:=by
 cases o with
 | none=>exact L
 | some v =>
  show (if v < 0 then (v+(n:Int)).toNat else min v.toNat n)<=n;by_cases J:v < 0
  .rw [acW J];omega
  .rw [acX J];exact Nat.min_le_right _ _
def EK (v:Int) (n d:Nat):(if v < 0 then max (v+(n:Int)) 0 else min v (n:Int))=((sIx n d (some v):Nat):Int):=by
 show (if v < 0 then max (v+(n:Int)) 0 else min v (n:Int))=(((if v < 0 then (v+(n:Int)).toNat else min v.toNat n):Nat):Int);by_cases J:v < 0
 .simp only [acW J];omega
 .simp only [acX J];omega
def DW (lo hi:Option Int) (n:Nat):Zz lo hi 1 (n:Int)=(((sIx n 0 lo:Nat):Int),((sIx n n hi:Nat):Int)):=by
 have h1:¬ ((1:Int) < 0):=by omega
 unfold Zz;simp only [h1,if_false];refine Prod.ext ?_ ?_
 .cases lo with
  | none=>rfl
  | some v=>exact EK v n 0
 .cases hi with
  | none=>rfl
  | some v=>exact EK v n n
def C3 (i j:Nat):YY (i:Int) (j:Int) 1=j - i:=by
 unfold YY;have h1:(1:Int) > 0:=by omega
 simp only [h1,if_true,Int.ediv_one];split <;> omega
def wO {v:eQ} {o:Option Int} {Q:Option Int->iF->Prop} (p:IsPart v o) (h:Q o s):RW (Xa prog w) A (Builtin.Slice.slicePartIndex v) Q E s:=by
 cases p with
 | none=>exact slicePart_none h
 | int i t=>exact slicePart_int h
def mD {sl:Le} {vl Y:eQ} {lo hi:Option Int} {n:Nat} {Q:Int×Int×Nat->iF->Prop} (hs:s.heap.IsSliceOf sl vl Y .none) (pl:IsPart vl lo) (pu:IsPart Y hi)
  (h:Q (((sIx n 0 lo:Nat):Int),1,sIx n n hi - sIx n 0 lo) s):RW (Xa prog w) A (aaH (.ref sl) (pure (n:Int))) Q E s:=by
 obtain ⟨os,L,hcs,J⟩:=id hs;unfold aaH Builtin.Slice.sliceFields;refine bY (bY (X4 L J (x:=vl) rfl (bY (X4 L J (x:=Y) rfl (bY (X4 L J (x:=.none) rfl (oR ?_)))))));refine bY (slicePart_none ?_);show RW _ _ (if ((1:Int)==0)=true then _ else _) _ _ s;rw [acX (by decide)];refine bY (wO pl (bY (wO pu (bY (oR ?_)))));show RW _ _ (match Zz lo hi 1 (n:Int) with|(lo,hi)=>pure (lo,(1:Int),YY lo hi 1)) _ _ s
 rw [DW lo hi n];show RW _ _ (pure (((sIx n 0 lo:Nat):Int),(1:Int),YY ((sIx n 0 lo:Nat):Int) ((sIx n n hi:Nat):Int) 1)) _ _ s;rw [C3];exact oR h
def KM (xs:Array eQ) (i k:Nat):((YN k).filterMap fun (m:Nat)=>xs[((i:Int)+(m:Int)*1).toNat]?).toArray=((xs.toList.drop i).take k).toArray:=by
 have e:(fun (m:Nat)=>xs[((i:Int)+(m:Int)*1).toNat]?)=fun m=>xs[i+m]?:=by
  funext m
  have:((i:Int)+(m:Int)*1).toNat=i+m:=by omega
  rw [this]
 rw [e]
 have:=pick_run xs i k
 rw [List.filterMap_map] at this;have e2:((fun x=>xs[x]?) ∘ fun x=>i+x)=fun m=>xs[i+m]?:=rfl;rw [e2] at this;rw [this]
def rY {t sl:Le} {items:Array eQ} {vl vu:eQ} {lo hi:Option Int} {Q:ac5} (L:aam s.heap t items) (hs:s.heap.IsSliceOf sl vl vu .none) (pl:IsPart vl lo) (pu:IsPart vu hi)
  (hw:¬ (sIx items.size 0 lo=0/\sIx items.size items.size hi=items.size))
  (h:Q (.ref s.heap.objs.size) { s with heap:=s.heap.push { cls:=.type "tuple",data:=.seq ((items.toList.drop (sIx items.size 0 lo)).take (sIx items.size items.size hi - sIx items.size 0 lo)).toArray } })
  (hsz:items.size<=Xd):RW (Xa prog w) A (aaQ (.ref t) (.ref sl)) Q E s:=by
 have J:sizeOk (.seq ((items.toList.drop (sIx items.size 0 lo)).take (sIx items.size items.size hi - sIx items.size 0 lo)).toArray):=by
  show ((items.toList.drop (sIx items.size 0 lo)).take (sIx items.size items.size hi - sIx items.size 0 lo)).toArray.size<=Xd;rw [Do,XH,Ya,X8];omega
 have hj:sIx items.size items.size hi<=items.size:=Db _ _ (mK _) hi;obtain ⟨os,Y,hcs,hds⟩:=id hs;have hTs:s.TypeIs (.ref sl) "slice":=⟨os,Y,hcs⟩;unfold aaQ;try with_reducible refine Yc ?_
 first|refine bY (oR ?_)|skip
 refine bY (wpAny_sequenceKey L.typeIs (by decide) ?_);refine bY (Yu (name:=XD "__getitem__") L.typeIs XZ
  (YA XZ L.typeIs entry_tuple_getitem ?_ (args_tuple_getitem _ _)))
 show RW _ _ (aaI (.ref t) >>= _) _ _ s;refine bY (tupleItemsOf_ L ?_);refine bY (wpAny_typeOf hTs ?_);rw [acW (by decide)];refine bY (mD hs pl pu ?_);have hno:¬ ((((sIx items.size 0 lo:Nat):Int)==0&&(1:Int)==1&&(sIx items.size items.size hi - sIx items.size 0 lo)==items.size)=true):=by
  intro q;rw [Xe,Xe] at q;have q1:((sIx items.size 0 lo:Nat):Int)=0:=eq_of_beq q.1.1;have q2:sIx items.size items.size hi - sIx items.size 0 lo=items.size:=eq_of_beq q.2;exact hw ⟨by omega,by omega⟩
 show RW _ _ (if (((sIx items.size 0 lo:Nat):Int)==0&&(1:Int)==1&&(sIx items.size items.size hi - sIx items.size 0 lo)==items.size)=true then _ else _) _ _ s;rw [acX hno,KM]
 first
  | exact bY (m:=Y2 _) (Yl (oR ⟨_,rfl,oR h⟩) J)
  | exact bY (m:=Y2 _) (Yl (bY (oR (oR ⟨_,rfl,oR h⟩))) J)
  | exact bY (bY (m:=Y2 _) (Yl (oR (oR ⟨_,rfl,oR h⟩)) J))
  | exact bY (bY (m:=Y2 _) (Yl (oR ⟨_,rfl,oR h⟩) J))
end
end HT
namespace L2
open PySem PySem.Spec PyProof.Rows
abbrev TO:=St->Hp->(Option Int->Hp->Prop)->Prop
def PO (X:Cx) (e:Option Yb) (t:TO):Prop :=
 ∀ (af:ac4) (s:iF) (Z:St) (H:Hp) (Q:Option Int->Hp->Prop),Inv X af Z H s->t Z H Q ->
  RW (Xa X.prog X.w) X.A (evalPart e X.env) (fun u s'=>∃ o H',Inv X af Z H' s'/\IsPart u o/\Q o H') X.xe s
def EE:TO:=fun _ H Q=>Q none H
section
variable {X:Cx} {e:Yb} {te:TE} {lo hi:Option Yb} {tl th:TO} {pos p2:Pos}
def Ly:PO X none EE:=by
 intro af s Z H Q I h;rw [evalPart_none];exact oR ⟨none,H,I,.none,h⟩
def Bm (X:Cx) (r:V->Option Int->Option Int->Hp->VK->Prop):Prop :=
 ∀ (af:ac4) (s:iF) (Z:St) (H:Hp) (x:V) (v L J:eQ) (lo hi:Option Int) (Y:Le) (Q:VK),Inv X af Z H s->ba x v->s.heap.IsSliceOf Y L J .none->IsPart L lo->IsPart J hi->r x lo hi H Q ->
  ∃ T id,typeLookup (.type T) "__getitem__"=pure (some (.builtin id))/\s.TypeIs v T/\RW (Xa X.prog X.w) X.A (aaQ v (.ref Y)) (EP X af Z Q) X.xe s
def Bm.or {r r':V->Option Int->Option Int->Hp->VK->Prop} (h:Bm X r) (h':Bm X r'):Bm X (fun x lo hi H Q=>r x lo hi H Q\/r' x lo hi H Q):=by
 intro af s Z H x v vl J lo hi sl Q I rx hs Y L q;rcases q with q|q
 .exact h af s Z H x v vl J lo hi sl Q I rx hs Y L q
 .exact h' af s Z H x v vl J lo hi sl Q I rx hs Y L q
def WD (r:V->Option Int->Option Int->Hp->VK->Prop) (te:TE) (tl th:TO):TE:=fun Z H Q=>te Z H fun x H1=>tl Z H1 fun l H2=>th Z H2 fun u J=>r x l u J Q
def KH {r:V->Option Int->Option Int->Hp->VK->Prop} (L:Bm X r) (he:PE X e te) (hl:PO X lo tl) (hu:PO X hi th):PE X (.Subscript e (.Slice lo hi none p2) pos) (WD r te tl th):=by
 intro af s Z H Q I h;refine Subscript_ (dg (he af s Z H _ I h) fun v s1 hh=>n6 hh fun x H1 Y r1 q1=>?_);refine wpAny_Slice (dg (hl af s1 Z H1 _ Y q1) fun vl s2 ⟨l,H2,I2,pl,q2⟩=>dg (hu af s2 Z H2 _ I2 q2) fun vu s3 ⟨u,H3,I3,pu,q3⟩=>?_);rw [evalPart_none];refine oR ?_;have I4:Inv X af Z H3 { s3 with heap:=s3.heap.push { cls:=.type "slice",data:=.fields #[vl,vu,.none] } }:=I3.kept (t':=s3.toks) fun b ob q=>dO _ q;obtain ⟨T,id,hT,J,hg⟩:=L af { s3 with heap:=s3.heap.push { cls:=.type "slice",data:=.fields #[vl,vu,.none] } } Z H3 x v vl vu l u s3.heap.objs.size Q I4 r1 (Heap.IsSliceOf.new ..) pl pu q3;show RW (Xa X.prog X.w) X.A (subscriptTail e (.Slice lo hi none p2) v (.ref s3.heap.objs.size)) (EP X af Z Q) X.xe { s3 with heap:=s3.heap.push { cls:=.type "slice",data:=.fields #[vl,vu,.none] } };exact tail_any (ops:=[.ref s3.heap.objs.size,v]) J hT hg (by with_unfolding_all rfl)
def xY (xs:ac9) (lo hi:Option Int):ac9:=(xs.drop (HT.sIx xs.length 0 lo)).take (HT.sIx xs.length xs.length hi - HT.sIx xs.length 0 lo)
def u3 (xs:ac9) (lo hi:Option Int):(xY xs lo hi).length<=xs.length:=by
 unfold xY;rw [XH,Ya];omega
def VI (K:aT):V->Option Int->Option Int->Hp->VK->Prop:=fun x lo hi H Q=>∃ a xs,x=.ref a/\l6 K H a xs /\
 ¬ (HT.sIx xs.length 0 lo=0/\HT.sIx xs.length xs.length hi=xs.length)/\∀ p,H p=none->Q (.ref p) (upd H p (.tup (xY xs lo hi)))
def Pt:Bm X (VI X.K):=by
 intro af s Z H x v vl vu lo hi sl Q I rx hs pl pu h;obtain ⟨a,xs,rfl,hx,hw,q⟩:=h;cases rx;obtain ⟨its,r,L,Y⟩:=I.tuple hx;have J:its.toArray.size=xs.length:=by rw [Do];exact r.length.symm
 refine ⟨"tuple",_,XZ.lookup,L.typeIs,?_⟩;refine HT.rY L hs pl pu (by rw [J];exact hw) ?_ (by rw [J];exact Y);rw [J];refine ⟨.ref s.heap.objs.size,_,I.laid (t':=s.toks) (o:=.tup (xY xs lo hi)) (fun b ob q=>dO _ q) (mK _) ?_,rfl,q _ (I.hok.fresh (mK _))⟩;exact ⟨IF (u3 xs lo hi) Y,_,(r.drop (HT.sIx xs.length 0 lo)).take (HT.sIx xs.length xs.length hi - HT.sIx xs.length 0 lo),IsTup.new _ _⟩
def Uo (K:aT):R2:=fun x y H Q=>∃ a b xs ys,x=.ref a/\y=.ref b/\l6 K H a xs/\l6 K H b ys/\xs≠[]/\xs.length+ys.length<=Xd /\
 (ys=[]->Q (.ref a) H)/\(ys≠[]->∀ p,H p=none->Q (.ref p) (upd H p (.tup (xs++ys))))
def br.nil_iff {xs:ac9} {us:ac8} (r:br xs us):us=[] ↔ xs=[]:=by
 cases r with
 | nil=>simp
 | cons _ _=>simp
def Md:eZ X (YD .Add) (Uo X.K):=by
 intro af s Z H x y v u Q I rx Y h;obtain ⟨a,b,xs,ys,rfl,rfl,ha,hb,hx,J,q1,q2⟩:=h;cases rx;cases Y;obtain ⟨its,r1,p1,_⟩:=I.tuple ha;obtain ⟨L,r2,p2,_⟩:=I.tuple hb;refine HT.Mb p1 p2 (fun z=>hx (r1.nil_iff.mp z)) (fun z=>⟨.ref a,H,I,rfl,q1 (r2.nil_iff.mp z)⟩) (fun z=>?_) (by rw [<- r1.length,<- r2.length];exact J);refine ⟨.ref s.heap.objs.size,_,I.laid (t':=s.toks) (o:=.tup (xs++ys)) (fun b ob q=>dO _ q) (mK _) ?_,rfl,q2 (fun w=>z (r2.nil_iff.mpr w)) _ (I.hok.fresh (mK _))⟩;exact ⟨by rw [BY];exact J,_,r1.append r2,IsTup.new _ _⟩
end
def MT (n:Nat) (i:Int):Option Nat:=if 0<=i then (if i < n then some i.toNat else none) else if -(n:Int)<=i then some (i+n).toNat else none
def atI {α:Type} (xs:List α) (i:Int):Option α:=(MT xs.length i).bind fun j=>xs[j]?
def LH {n:Nat} {i:Int} {j:Nat} (h:MT n i=some j):seqIndex? i n=some j/\j < n/\-(n:Int)<=i/\i < n:=by
 unfold MT at h;by_cases J:0<=i
 .rw [acW J] at h;by_cases h1:i < n
  .rw [acW h1] at h;have e:i.toNat=j:=Xp h;exact ⟨by rw [seqIndex_of J h1,e],by omega,by omega,h1⟩
  .rw [acX h1] at h;cases h
 .rw [acX J] at h;by_cases h1:-(n:Int)<=i
  .rw [acW h1] at h;have e:(i+n).toNat=j:=Xp h;exact ⟨by rw [seqIndex_neg (by omega) h1,e],by omega,h1,by omega⟩
  .rw [acX h1] at h;cases h
def zJ {α:Type} {xs:List α} {i:Int} {v:α} (h:atI xs i=some v):∃ j,seqIndex? i xs.length=some j/\xs[j]?=some v/\j < xs.length/\-(xs.length:Int)<=i/\i < xs.length:=by
 unfold atI at h;cases e:MT xs.length i with
 | none=>rw [e] at h;cases h
 | some j =>
  rw [e] at h;obtain ⟨h1,h2,L,J⟩:=LH e;exact ⟨j,h1,h,h2,L,J⟩
def cI {α:Type} {xs:List α} {j:Nat} {v:α} (h:xs[j]?=some v):atI xs (j:Int)=some v:=by
 have hj:j < xs.length:=(Xu.mp h).1;have e:MT xs.length (j:Int)=some j:=by
  unfold MT;rw [acW (by omega),acW (by omega)];simp
 unfold atI;rw [e];exact h
def sM (b:Yb):Prop:=∀ o i,subscripted b false o i=operate [o,i] (aaQ o i)
def Cu (X:Cx) (r:R2):Prop :=
 ∀ (value J:Yb) (af:ac4) (s:iF) (Z:St) (H:Hp) (x y:V) (v u:eQ) (Q:VK),Inv X af Z H s->ba x v->ba y u->r x y H Q ->
  subscripted J false v u=operate [v,u] (aaQ v u)->RW (Xa X.prog X.w) X.A (subscriptTail value J v u) (EP X af Z Q) X.xe s
def Wu (X:Cx) (id:String) (r:V->ac9->Hp->VK->Prop):Prop :=
 ∀ (af:ac4) (s:iF) (Z:St) (H:Hp) (x:V) (xs:ac9) (v:eQ) (us:ac8) (Q:VK),Inv X af Z H s->ba x v->br xs us->r x xs H Q ->
  RW (Xa X.prog X.w) X.A (call (.builtin id) (v::us)) (EP X af Z Q) X.xe s
section
variable {X:Cx} {a b:Yb} {ta tb:TE} {pos:Pos}
def Cu.or {r r':R2} (h:Cu X r) (h':Cu X r'):Cu X (fun x y H Q=>r x y H Q\/r' x y H Q):=by
 intro value J af s Z H x y v u Q I rx L q Y;rcases q with q|q
 .exact h value J af s Z H x y v u Q I rx L q Y
 .exact h' value J af s Z H x y v u Q I rx L q Y
def Sk {r:R2} (J:Cu X r) (ha:PE X a ta) (Y:PE X b tb) (hs:sM b):PE X (.Subscript a b pos) (Dv r ta tb):=by
 intro af s Z H Q I h;exact Subscript_ (Pl ha Y I h fun v u s2 x y H2 I2 rx L q=>J a b af s2 Z H2 x y v u Q I2 rx L q (hs _ _))
def Sm (K:aT):R2:=fun x y H Q=>∃ p xs i v,x=.ref p/\y=.int i/\il K H p xs/\atI xs i=some v/\Q v H
def RL (K:aT):R2:=fun x y H Q=>∃ p xs i v,x=.ref p/\y=.int i/\l6 K H p xs/\atI xs i=some v/\Q v H
def T8:R2:=fun x y H Q=>∃ z i c,x=.str z/\y=.int i/\z.length<=Xd/\atI z.cps.toList i=some c/\Q (.str ⟨#[c]⟩) H
def Nj:Cu X (Sm X.K):=by
 intro value Y af s Z H x y v u Q I rx ry h hs;obtain ⟨p,xs,i,z,rfl,rfl,hq,he,q⟩:=h;cases rx;obtain ⟨t,rfl⟩:=ry;obtain ⟨its,r,L,hz⟩:=I.list hq;obtain ⟨j,h1,h2,h3,h4,h5⟩:=zJ he;obtain ⟨w,ew,J⟩:=r.get h2;have hl:=r.length;have hn:=uy;have fin:EP X af Z Q w s:=⟨z,H,I,J,q⟩;by_cases h0:0<=i
 .have hj:i.toNat=j:=by
   rw [seqIndex_of h0 h5] at h1;exact Xp h1
  exact item_listR L.isList h0 (by omega) (by rw [hj];simpa using ew) fin hs
 .have hj:(i+(its.toArray.size:Int)).toNat=j:=by
   rw [seqIndex_neg (by omega) h4] at h1;rw [Do,<- hl];exact Xp h1
  exact subscriptTail_builtinR (x:=w) L.isList.typeIs slot_list_getitem.lookup
   (wpAny_getItem_list_neg (Q:=fun r s'=>r=w/\EP X af Z Q r s') L.isList (by omega) (by rw [Do] <;> omega) (by omega) (by rw [hj];simpa using ew) ⟨rfl,fin⟩) hs
def Rh:Cu X (RL X.K):=by
 intro value L af s Z H x y v u Q I rx ry h hs;obtain ⟨p,xs,i,z,rfl,rfl,hq,he,q⟩:=h;cases rx;obtain ⟨t,rfl⟩:=ry;obtain ⟨its,r,Y,hz⟩:=I.tuple hq;obtain ⟨j,h1,h2,h3,h4,h5⟩:=zJ he;obtain ⟨w,ew,J⟩:=r.get h2;have hl:=r.length;have hn:=uy;have fin:EP X af Z Q w s:=⟨z,H,I,J,q⟩;exact subscriptTail_builtinR (x:=w) Y.typeIs slot_tuple_getitem.lookup
  (getItem_tuple (j:=j) (Q:=fun r s'=>r=w/\EP X af Z Q r s') Y (by omega) (by omega) (by rw [Do,<- hl];exact h1) (by simpa using ew) ⟨rfl,fin⟩) hs
def Pq:Cu X T8:=by
 intro value J af s Z H x y v u Q I rx Y h hs;obtain ⟨z,i,c,rfl,rfl,hz,he,q⟩:=h;obtain ⟨t,rfl⟩:=rx;obtain ⟨t',rfl⟩:=Y;obtain ⟨j,h1,h2,h3,L,h5⟩:=zJ he;have hl:z.cps.toList.length=z.length:=by simp [aby]
 rw [hl] at h1 L h5;have hn:=uy;exact tail_any (typeIs_str s z t) slot_str_getitem.lookup (getItem_str (c:=c) (by
  have e1:decide (i < -(2 ^ 63:Int))=false:=acY (by omega);have e2:decide (i ≥ 2 ^ 63)=false:=acY (by omega);rw [e1,e2,Bool.or_false]) (by rw [h1];simpa using h2) ⟨.str ⟨#[c]⟩,H,I.tok _,⟨_,rfl⟩,q⟩) hs
def rIx (K:aT):R2:=fun x y H Q=>Sm K x y H Q\/RL K x y H Q\/T8 x y H Q
def Pc:Cu X (rIx X.K):=Nj.or (Rh.or Pq)
def Ax (lo hi:Option Int) (n:Nat):(Z4 lo hi none n).1=((HT.sIx n 0 lo:Nat):Int)/\(Z4 lo hi none n).2.1=((HT.sIx n n hi:Nat):Int)/\(Z4 lo hi none n).2.2=1:=by
 refine ⟨?_,?_,rfl⟩
 .cases lo with
  | none=>simp [Z4,HT.sIx]
  | some i =>
   simp only [Z4,HT.sIx,acu,show (1:Int) > 0 by decide,if_true];by_cases h:i < 0
   .simp only [h,if_true] <;> omega
   .simp only [h,if_false] <;> omega
 .cases hi with
  | none=>simp [Z4,HT.sIx]
  | some i =>
   simp only [Z4,HT.sIx,acu,show (1:Int) > 0 by decide,if_true];by_cases h:i < 0
   .simp only [h,if_true] <;> omega
   .simp only [h,if_false] <;> omega
def xZ (its:ac8) (lo hi:Option Int):slicePick its.toArray lo hi none=((its.drop (HT.sIx its.length 0 lo)).take (HT.sIx its.length its.length hi - HT.sIx its.length 0 lo)).toArray:=by
 obtain ⟨h1,h2,J⟩:=Ax lo hi its.toArray.size;unfold slicePick;rw [h1,h2,J];simp only [sliceRange_one,pick_run,Do] <;> rfl
def Wh (K:aT):V->Option Int->Option Int->Hp->VK->Prop:=fun x lo hi H Q=>∃ a xs,x=.ref a/\il K H a xs/\∀ p,H p=none->Q (.ref p) (upd H p (.lst (xY xs lo hi)))
def MD:Bm X (Wh X.K):=by
 intro af s Z H x v vl vu lo hi sl Q I rx hs pl pu h;obtain ⟨a,xs,rfl,hx,q⟩:=h;cases rx;obtain ⟨its,r,L,Y⟩:=I.list hx;have J:=r.length;refine ⟨"list",_,slot_list_getitem.lookup,L.isList.typeIs,?_⟩;refine wpAny_getItem_list_slice L.isList hs pl pu .none (by simp) ?_ (by rw [Do] <;> omega);rw [xZ,<- J];refine ⟨.ref s.heap.objs.size,_,I.laid (t':=s.toks) (o:=.lst (xY xs lo hi)) (fun b ob q=>dO _ q) (mK _) ?_,rfl,q _ (I.hok.fresh (mK _))⟩;exact ⟨IF (u3 xs lo hi) Y,_,0,(r.drop (HT.sIx xs.length 0 lo)).take (HT.sIx xs.length xs.length hi - HT.sIx xs.length 0 lo),ID _ rfl⟩
def jk:V->Bool
 | .non=>true
 | .bl _=>true
 | .int _=>true
 | .str _=>true
 | _=>false
def eqV:V->V->Bool
 | .non,.non=>true
 | .bl a,.bl b=>a==b
 | .bl a,.int b=>(if a then 1 else 0)==b
 | .int a,.bl b=>a==(if b then 1 else 0)
 | .int a,.int b=>a==b
 | .str a,.str b=>a==b
 | _,_=>false
def PB {A:Xs} {s:iF} {y x:V} {u v:eQ} (Y:ba y u) (J:ba x v) (fy:jk y=true) (L:jk x=true):acg A s u v (eqV y x):=by
 cases y with
 | non =>
  cases Y;cases x with
  | non=>cases J;exact SeqAt.EqAt.same _
  | bl b=>cases J;exact SeqAt.EqAt.none_bool b
  | int b=>obtain ⟨t,rfl⟩:=J;exact SeqAt.EqAt.none_int b t
  | str b=>obtain ⟨t,rfl⟩:=J;exact SeqAt.EqAt.none_str b t
  | _=>exact absurd (show false=true from L) nE
 | bl a =>
  cases Y;cases x with
  | non=>cases J;exact SeqAt.EqAt.bool_none a
  | bl b=>cases J;exact SeqAt.EqAt.bool_bool a b
  | int b=>obtain ⟨t,rfl⟩:=J;exact SeqAt.EqAt.bool_int a b t
  | str b=>obtain ⟨t,rfl⟩:=J;exact SeqAt.EqAt.bool_str a b t
  | _=>exact absurd (show false=true from L) nE
 | int a =>
  obtain ⟨t',rfl⟩:=Y;cases x with
  | non=>cases J;exact SeqAt.EqAt.int_none a t'
  | bl b=>cases J;exact SeqAt.EqAt.int_bool a t' b
  | int b=>obtain ⟨t,rfl⟩:=J;exact SeqAt.EqAt.int_int a t' b t
  | str b=>obtain ⟨t,rfl⟩:=J;exact abZ a t' b t
  | _=>exact absurd (show false=true from L) nE
 | str a =>
  obtain ⟨t',rfl⟩:=Y;cases x with
  | non=>cases J;exact SeqAt.EqAt.str_none a t'
  | bl b=>cases J;exact SeqAt.EqAt.str_bool a t' b
  | int b=>obtain ⟨t,rfl⟩:=J;exact ab0 a t' b t
  | str b=>obtain ⟨t,rfl⟩:=J;exact SeqAt.EqAt.str_str a t' b t
  | _=>exact absurd (show false=true from L) nE
 | _=>exact absurd (show false=true from fy) nE
def AX (x:V) (u:eQ):Bool:=match u with
 | .none=>eqV .non x
 | .bool b=>eqV (.bl b) x
 | .int i _=>eqV (.int i) x
 | .str z _=>eqV (.str z) x
 | _=>false
def Ah {x y:V} {u:eQ} (r:ba y u) (f:jk y=true):AX x u=eqV y x:=by
 cases y with
 | non=>cases r;rfl
 | bl b=>cases r;rfl
 | int i=>obtain ⟨t,rfl⟩:=r;rfl
 | str z=>obtain ⟨t,rfl⟩:=r;rfl
 | _=>exact absurd (show false=true from f) nE
def tG {x:V}:∀ {xs:ac9} {us:ac8},br xs us->xs.all jk=true->us.any (AX x)=xs.any fun y=>eqV y x
 | _,_,.nil,_=>rfl
 | y::xs,u::us,.cons r t,f=>by
  rw [Yn,Xe] at f;rw [ZR,ZR,Ah r f.1,tG t f.2]
def mO {A:Xs} {s:iF} {x:V} {v:eQ} (L:ba x v) (Y:jk x=true):∀ {xs:ac9} {us:ac8},br xs us->xs.all jk=true->∀ u∈us,acg A s u v (AX x u)
 | _,_,.nil,_=>fun u J=>by cases J
 | y::xs,u::us,.cons r t,f=>fun u' J=>by
  rw [Yn,Xe] at f;rcases iN.mp J with rfl|J
  .rw [Ah r f.1];exact PB r L f.1 Y
  .exact mO L Y t f.2 u' J
def Ho (x:V) (xs:ac9):Bool:=xs.any fun y=>eqV y x
def WJ (K:aT) (neg:Bool):R2:=fun x y H Q=>∃ p xs,y=.ref p/\(il K H p xs\/l6 K H p xs)/\jk x=true/\xs.all jk=true/\Q (.bl (if neg then !Ho x xs else Ho x xs)) H
def GY:eZ X (Xn .In) (WJ X.K false):=by
 intro af s Z H x y v u Q I Y ry h;obtain ⟨p,xs,rfl,J,fx,fs,q⟩:=h;cases ry;rcases J with J|J
 .obtain ⟨its,r,L,hz⟩:=I.list J;refine SeqAt.in_listAt (AX x) L.isList (fun w hw=>mO Y fx r fs w (by simpa using hw)) ⟨.bl _,H,I,rfl,?_⟩;rw [show its.toArray.any (AX x)=its.any (AX x) by simp,tG r fs];exact q
 .obtain ⟨its,r,L,hz⟩:=I.tuple J;refine acv (AX x) L (fun w hw=>mO Y fx r fs w (by simpa using hw)) ⟨.bl _,H,I,rfl,?_⟩;rw [show its.toArray.any (AX x)=its.any (AX x) by simp,tG r fs];exact q
def Ay:eZ X (Xn .NotIn) (WJ X.K true):=by
 intro af s Z H x y v u Q I Y ry h;obtain ⟨p,xs,rfl,J,fx,fs,q⟩:=h;cases ry;rcases J with J|J
 .obtain ⟨its,r,L,hz⟩:=I.list J;refine ab5 (AX x) L.isList (fun w hw=>mO Y fx r fs w (by simpa using hw)) ⟨.bl _,H,I,rfl,?_⟩;rw [show its.toArray.any (AX x)=its.any (AX x) by simp,tG r fs];exact q
 .obtain ⟨its,r,L,hz⟩:=I.tuple J;refine SeqAt.notIn_tupleAt (AX x) L (fun w hw=>mO Y fx r fs w (by simpa using hw)) ⟨.bl _,H,I,rfl,?_⟩;rw [show its.toArray.any (AX x)=its.any (AX x) by simp,tG r fs];exact q
def zT:cg X (.builtin "len") (fun xs H Q=>∃ p ys,xs=[.ref p]/\(il X.K H p ys\/l6 X.K H p ys)/\Q (.int ys.length) H):=by
 intro af s Z H xs us Q I r h;obtain ⟨p,ys,rfl,L,q⟩:=h;obtain ⟨u,rfl,rx⟩:=mz r;cases rx;have hn:=uy;rcases L with L|L
 .obtain ⟨its,r',Y,hz⟩:=I.list L;have J:=r'.length;exact Calls.call_len_list Y.isList (by simp only [Do] <;> omega) ⟨.int ys.length,H,I.tok _,⟨s.toks+1,by rw [Do,J]⟩,q⟩
 .obtain ⟨its,r',Y,hz⟩:=I.tuple L;have J:=r'.length;exact len_tuple Y (by simp only [Do] <;> omega) ⟨.int ys.length,H,I.tok _,⟨s.toks+1,by rw [Do,J]⟩,q⟩
def zE:cg X (.builtin "len") (fun xs H Q=>∃ z,xs=[.str z]/\z.length<=Xd/\Q (.int z.length) H):=by
 intro af s Z H xs us Q I r h;obtain ⟨z,rfl,J,q⟩:=h;obtain ⟨u,rfl,t,rfl⟩:=mz r;have hn:=uy;exact len_str (by omega) ⟨.int z.length,H,I.tok _,⟨_,rfl⟩,q⟩
def cg.or {f:eQ} {r L:ac9->Hp->VK->Prop} (h:cg X f r) (h':cg X f L):cg X f (fun xs H Q=>r xs H Q\/L xs H Q):=by
 intro af s Z H xs us Q I J q;rcases q with q|q
 .exact h af s Z H xs us Q I J q
 .exact h' af s Z H xs us Q I J q
def zg:cg X (.type "list") (fun xs H Q=>∃ p ys,xs=[.ref p]/\(il X.K H p ys\/l6 X.K H p ys)/\∀ l,H l=none->Q (.ref l) (upd H l (.lst ys))):=by
 intro af s Z H xs us Q I r h;obtain ⟨p,ys,rfl,hq,q⟩:=h;obtain ⟨u,rfl,rx⟩:=mz r;cases rx;have fin:∀ (its:ac8),br ys its->ys.length<=Xd->∀ (h':YG) (c':Nat),(∀ b o',s.heap.get? b=some o'->h'.get? b=some o') ->
   h'.get? s.heap.objs.size=some { cls:=.type "list",dict:=none,data:=.seq its.toArray c',slots:=#[] }->EP X af Z Q (.ref s.heap.objs.size) { s with heap:=h' }:=fun its J Y h' c' L e =>
  ⟨.ref s.heap.objs.size,_,I.laid (t':=s.toks) L (mK _) (show bT X.prog X.w _ h' _ (.lst ys) from ⟨Y,its,c',J,e⟩),rfl,q _ (I.hok.fresh (mK _))⟩
 rcases hq with hq|hq
 .obtain ⟨its,J,pl,Y⟩:=I.list hq;have hlen:=J.length;obtain ⟨o,ho,hc,n,hd⟩:=pl.isList;exact call_list_seq p (.inl rfl) ho hc hd (fun h' c' L e=>fin its J Y h' c' L e) (by simp only [Do] <;> omega)
 .obtain ⟨its,J,pl,Y⟩:=I.tuple hq;have hlen:=J.length;obtain ⟨o,ho,hc,n,hd⟩:=pl;exact call_list_seq p (.inr rfl) ho hc hd (fun h' c' L e=>fin its J Y h' c' L e) (by simp only [Do] <;> omega)
def xU:cg X (.type "tuple") (fun xs H Q=>∃ p ys,xs=[.ref p]/\((il X.K H p ys/\∀ l,H l=none->Q (.ref l) (upd H l (.tup ys)))\/(l6 X.K H p ys/\Q (.ref p) H))):=by
 intro af s Z H xs us Q I r h;obtain ⟨p,ys,rfl,h⟩:=h;obtain ⟨u,rfl,rx⟩:=mz r;cases rx;rcases h with ⟨Y,q⟩|⟨Y,q⟩
 .obtain ⟨its,L,J,hz⟩:=I.list Y;have hlen:=L.length;refine call_tuple_list J.isList (fun h' kp=>?_) (by simp only [Do] <;> omega);have I1:Inv X af Z H { s with heap:=h' }:=I.kept (t':=s.toks) kp;have I2:Inv X af Z (upd H h'.objs.size (.tup ys)) { s with heap:=h'.push { cls:=.type "tuple",data:=.seq its.toArray } } :=
   I1.laid (t':=s.toks) (fun b o e=>dO _ e) (mK _) (show bT X.prog X.w _ _ _ (.tup ys) from ⟨hz,its,L,IsTup.new _ _⟩)
  exact ⟨.ref h'.objs.size,_,I2,rfl,q _ (I1.hok.fresh (mK _))⟩
 .obtain ⟨its,L,J,hz⟩:=I.tuple Y;exact call_tuple_same J ⟨.ref p,H,I,rfl,q⟩
def VA (K:aT) (T:String) (x:V) (H:Hp):Prop:=match x with
 | .str _=>T="str"
 | .int _=>T="int"
 | .ref p=>(T="list"/\∃ xs,il K H p xs)\/(T="tuple"/\∃ o,K.lookup p=some o/\o.cls=.type "tuple"/\o.dict=none) \/
   (T="dict"/\((∃ kvs,H p=some (.dK kvs))\/∃ kvs,H p=some (.dT kvs)))\/(T="set"/\∃ S n,H p=some (.set S n))
 | _=>False
def QO {af:ac4} {Z:St} {H:Hp} {s:iF} {T:String} {x:V} {v:eQ} (I:Inv X af Z H s) (r:ba x v) (ty:VA X.K T x H) :
  s.TypeIs v T/\∀ a,v=.ref a->∃ ob,s.heap.get? a=some ob/\ob.dict=none:=by
 cases x with
 | str z =>
  obtain ⟨t,rfl⟩:=r;cases (show T="str" from ty);exact ⟨typeIs_str s z t,fun _ e=>nomatch e⟩
 | int i =>
  obtain ⟨t,rfl⟩:=r;cases (show T="int" from ty);exact ⟨typeIs_int s i t,fun _ e=>nomatch e⟩
 | ref p =>
  cases r;rcases ty with ⟨rfl,xs,hq⟩|⟨rfl,o,J,hc,L⟩|⟨rfl,J⟩|⟨rfl,S,n,J⟩
  .obtain ⟨its,_,Y,_⟩:=I.list hq;refine ⟨Y.isList.typeIs,fun a e=>?_⟩;cases e;obtain ⟨o,n,e,c,L,_⟩:=Y;exact ⟨o,e,L⟩
  .refine ⟨⟨o,I.kIn p o J,hc⟩,fun a e=>?_⟩;cases e;exact ⟨o,I.kIn _ o J,L⟩
  .have z:∃ o,s.heap.get? p=some o/\o.ExactDict:=by
    rcases J with ⟨kvs,J⟩|⟨kvs,J⟩
    .obtain ⟨_,_,_,_,o,_,_,e,ex,_⟩:=I.hok p _ J;exact ⟨o,e,ex⟩
    .obtain ⟨_,_,_,_,o,_,_,e,ex,_⟩:=I.hok p _ J;exact ⟨o,e,ex⟩
   obtain ⟨o,e,ex⟩:=z;refine ⟨⟨o,e,ex.1⟩,fun a e2=>?_⟩;cases e2;exact ⟨o,e,ex.2.1⟩
  .obtain ⟨o,_,_,_,e,ex,_⟩:=I.hok p _ J;refine ⟨⟨o,e,ex.1⟩,fun a e2=>?_⟩;cases e2;exact ⟨o,e,ex.2.1⟩
 | _=>exact Yv ty
def VJ (K:aT) (T:String) (r:V->ac9->Hp->VK->Prop) (to:TE) (t:TA):TE:=fun Z H Q=>to Z H fun x H1=>VA K T x H1/\t Z H1 fun xs H2=>r x xs H2 Q
variable {o e:Yb} {es:List Yb} {to:TE} {t:TA} {name:Str} {apos cpos:Pos} {T id:String} {r:V->ac9->Hp->VK->Prop}
def Sv (pa:PlainAttrs T) (slot:Slot T name id) (hty:typeOf (.builtin id)=pure (.type "method_descriptor")) (hm:Wu X id r) (ho:PE X o to) (ha:PA X (e::es) t)
  (Y:YE o name X.env (eval o X.env)=eval o X.env:=by rfl)
  (hfew:((ZK cpos (Xy (e::es) X.env)).all (fun x=>!x.1)&&(backToKw cpos (aa9 [] X.env)).all (fun x=>x.1.isSome)
   && decide ((e::es).length+([]:List abU).length+(if ([]:List abU).isEmpty then 0 else 1) < 30))=true:=by rfl)
  (L:(apos.endLine==cpos.line)=true:=by rfl) (hs:Xy (e::es) X.env=(false,eval e X.env)::Xy es X.env:=by rfl) (J:(ZK cpos (Xy es X.env)).any (·.1)=false:=by rfl) :
  PE X (.Call (.Attribute o name apos) (e::es) [] cpos) (VJ X.K T r to t):=by
 intro af s Z H Q I h;refine wpAny_Call_method_late Y hfew L rfl (dg (ho af s Z H _ I h) fun v s1 ⟨x,H1,I1,r1,ty,q1⟩=>?_);obtain ⟨h1,h2⟩:=QO I1 r1 ty;refine ⟨T,id,pa,slot,hty,h1,h2,?_⟩;have hA:=ha cpos af s1 Z H1 _ I1 q1;rw [hs] at hA ⊢;refine ZZ (by show (false||(ZK cpos (Xy es X.env)).any (·.1))=false;rw [J] <;> rfl) (aao ?_)
 exact dg hA fun us s2 hh=>n6 hh fun vs H2 I2 r2 q2=>hm af s2 Z H2 x vs v us Q I2 r1 r2 q2
end
def MtM (X:Cx) (id:String) (r:V->ac9->Hp->VK->Prop):Prop :=
 ∀ (af:ac4) (s:iF) (Z:St) (H:Hp) (x:V) (xs:ac9) (v:eQ) (us:ac8) (Q:VK),Inv X af Z H s->ba x v->br xs us->r x xs H Q ->
  RW (Xa X.prog X.w) X.A (call (.builtin id) (v::us)) (EP X af Z Q) X.xe s
def br.one:∀ {x:V} {us:ac8},br [x] us->∃ u,us=[u]/\ba x u
 | _,_,.cons r .nil=>⟨_,rfl,r⟩
section
variable {X:Cx} {af:ac4} {Z:St} {H:Hp} {s:iF} {l b:Le} {xs ys zs:ac9}
def Inv.lset {its its':ac8} {n:Nat} {f:Array eQ->Array eQ} {t':Nat} (I:Inv X af Z H s) (hH:H l=some (.lst xs))
  (e:s.heap.get? l=some { cls:=.type "list",data:=.seq its.toArray n }) (hf:f its.toArray=its'.toArray) (Y:br ys its') (J:ys.length<=Xd) (ht:X.tn<=t':=by walk_at "tok") :
  Inv X af Z (upd H l (.lst ys)) { s with heap:=s.heap.update l (Xx f),toks:=t' }:=by
 have q:=acw e f;rw [hf] at q;refine I.write (x:=l) (e:=l) (by rw [hH];exact trivial) (.inl rfl) (fun b' u hb L=>(Yd s.heap (Xx f) (YU hb)).trans L) ⟨_,q⟩ ?_;exact ⟨J,its',_,Y,q⟩
def Inv.lnew {its:ac8} {t':Nat} (I:Inv X af Z H s) (L:br ys its) (J:ys.length<=Xd) (Y:X.tn<=t':=by walk_at "tok") :
  Inv X af Z (upd H s.heap.objs.size (.lst ys)) { s with heap:=s.heap.push { cls:=.type "list",data:=.seq its.toArray },toks:=t' } :=
 I.laid (fun _ _ q=>dO _ q) (mK _) ⟨J,its,0,L,ID _ rfl⟩
def Inv.fresh (I:Inv X af Z H s):H s.heap.objs.size=none:=I.hok.fresh (mK _)
def Inv.lstM (I:Inv X af Z H s) (J:H l=some (.lst xs)):xs.length<=Xd/\∃ (its:ac8) (n:Nat),br xs its/\xs.length=its.length/\s.heap.get? l=some { cls:=.type "list",data:=.seq its.toArray n }:=by
 obtain ⟨z,its,n,r,e⟩:=I.hok l _ J;exact ⟨z,its,n,r,r.length,e⟩
end
section
variable {X:Cx}
def Ai:V->ac9->Hp->VK->Prop:=fun x vs H Q=>∃ l xs y,x=.ref l/\vs=[y]/\H l=some (.lst xs)/\xs.length < Xd/\Q .non (upd H l (.lst (xs++[y])))
def yT:MtM X "list.append" Ai:=by
 intro af s Z H x vs v us Q I rx L h;obtain ⟨l,xs,y,rfl,rfl,J,hz,q⟩:=h;cases rx;obtain ⟨u,rfl,Y⟩:=L.one;obtain ⟨z,its,n,r,hl,e⟩:=I.lstM J;refine call_meets F.slot_list_append ⟨_,e,rfl⟩ F.entry_list_append (F.args_list_append_2 _ _) (PySem.list_append l its.toArray n u (by rw [Do];omega)) ⟨e,?_⟩;refine ⟨.non,_,I.lset (its':=its++[u]) J e (by simp) (r.append (.cons Y .nil)) ?_,rfl,q⟩;rw [BY,XF];omega
end
section
variable {prog:Xh} {w:Xv} {A:Xs} {E:ac5} {s:iF}
set_option maxRecDepth 100000 in
end
section
variable {κ:Type} [DecidableEq κ]
def ky (kvs:List (κ×V)) (k:κ):Option V:=(kvs.find? fun J=>decide (J.1=k)).map (·.2)
def oE (kvs:List (κ×V)) (k:κ) (v:V):List (κ×V) :=
 if (kvs.any fun J=>decide (J.1=k))=true then kvs.map (fun J=>if J.1=k then (J.1,v) else J) else kvs++[(k,v)]
theorem mj {p:κ×V} {r:List (κ×V)} {k:κ} (e:p.1=k):ky (p::r) k=some p.2:=by simp [ky,XB,e]
def ml {p:κ×V} {r:List (κ×V)} {k:κ} (e:¬ p.1=k):ky (p::r) k=ky r k:=by simp [ky,XB,e]
def sT (k:κ):∀ kvs:List (κ×V),(kvs.any fun J=>decide (J.1=k))=(ky kvs k).isSome
 | []=>rfl
 | p::r=>by
  rw [ZR];by_cases e:p.1=k
  .simp only [mj e,acZ e,Bool.true_or,Option.isSome_some]
  .rw [ml e,acY e,Bool.false_or];exact sT k r
def uN (kvs:List (κ×V)) (k:κ) (v:V):(oE kvs k v).length<=kvs.length+1:=by
 unfold oE;split
 .rw [lE];omega
 .rw [BY,Xq,aas];omega
def IU {kvs:List (κ×V)} {k:κ} (v:V) (h:ky kvs k=none):oE kvs k v=kvs++[(k,v)]:=by
 unfold oE;rw [sT,h];exact acX (by decide)
def qW.isSome_eq {o:Option V} {u:Option eQ} (r:qW o u):o.isSome=u.isSome:=by
 cases o with
 | none=>cases u with
  | none=>rfl
  | some _=>exact (show False from r).elim
 | some _=>cases u with
  | none=>exact (show False from r).elim
  | some _=>rfl
def KV.val {kvs:List (κ×V)} {vs:List (κ×eQ)} (r:KV kvs vs) (k:κ):qW (ky kvs k) (valueAt vs k):=by
 unfold KV at r;induction r with
 | nil=>exact Yw
 | @cons p q ps qs h t ih =>
  obtain ⟨h1,h2⟩:=h;by_cases e:p.1=k
  .have e':q.1=k:=h1.symm.trans e;have b:valueAt (q::qs) k=some q.2:=by simp [valueAt,XB,e']
   rw [mj e,b];exact h2
  .have e':¬ q.1=k:=fun z=>e (h1.trans z);have b:valueAt (q::qs) k=valueAt qs k:=by simp [valueAt,XB,e']
   rw [ml e,b];exact ih
def KV.any {kvs:List (κ×V)} {vs:List (κ×eQ)} (r:KV kvs vs) (k:κ):(kvs.any fun J=>decide (J.1=k))=vs.any fun J=>decide (J.1=k):=by
 unfold KV at r;induction r with
 | nil=>rfl
 | cons h t L=>rw [ZR,ZR,L,h.1]
def KV.repl {kvs:List (κ×V)} {vs:List (κ×eQ)} (r:KV kvs vs) (k:κ) {y:V} {u:eQ} (L:ba y u) :
  KV (kvs.map fun J=>if J.1=k then (J.1,y) else J) (vs.map fun J=>if J.1=k then (J.1,u) else J):=by
 unfold KV at r ⊢;induction r with
 | nil=>exact .nil
 | @cons p q ps qs h t ih =>
  rw [By,By];refine .cons ?_ ih;obtain ⟨h1,h2⟩:=h;by_cases e:p.1=k
  .rw [acW e,acW (h1.symm.trans e)];exact ⟨h1,L⟩
  .rw [acX e,acX (fun z=>e (h1.trans z))];exact ⟨h1,h2⟩
def KV.put {kvs:List (κ×V)} {vs:List (κ×eQ)} (r:KV kvs vs) (k:κ) {y:V} {u:eQ} (J:ba y u):KV (oE kvs k y) (stored vs k u):=by
 unfold oE stored;rw [r.any k];by_cases e:(vs.any fun L=>decide (L.1=k))=true
 .rw [acW e,acW e];exact r.repl k J
 .rw [acX e,acX e];exact Paired.snoc r ⟨rfl,J⟩
theorem KV.length {kvs:List (κ×V)} {vs:List (κ×eQ)} (r:KV kvs vs):kvs.length=vs.length:=aa2 r
end
def A4 {P:Xh} {w:Xv} {k:bC} {u:eQ} (r:ba (kV k) u):(cb P w).is k u=true:=by
 cases k with
 | inl i=>obtain ⟨t,e⟩:=(show ∃ t,u=abX i t from r);subst e;exact Bw P w i t
 | inr x=>obtain ⟨t,e⟩:=(show ∃ t,u=abY x t from r);subst e;exact Bb P w x t
def yW {P:Xh} {w:Xv}:∀ {ks:List bC} {us:ac8},br (ks.map kV) us->ItemsAre (cb P w) ks us
 | [],_,r=>by rw [abk] at r;cases r;exact .nil
 | k::ks,_,r=>by
  rw [By] at r;cases r with
  | cons h t=>exact .cons (A4 h) (yW t)
abbrev KT (H:Hp):List (List bC×V)->List (List bC×Le×eQ)->Prop:=Paired fun p q=>p.1=q.1/\H q.2.1=some (.tup (p.1.map kV))/\ba p.2 q.2.2
def KT.val {H:Hp} {kvs:List (List bC×V)} {xs:List (List bC×Le×eQ)} (r:KT H kvs xs) (k:List bC):qW (ky kvs k) ((atKey xs k).map (·.2)):=by
 induction r with
 | nil=>exact Yw
 | @cons p q ps qs h t ih =>
  obtain ⟨h1,_,h2⟩:=h;by_cases e:p.1=k
  .have e':q.1=k:=h1.symm.trans e;have b:atKey (q::qs) k=some q.2:=by simp [atKey,XB,e']
   rw [mj e,b];exact h2
  .have e':¬ q.1=k:=fun z=>e (h1.trans z);have b:atKey (q::qs) k=atKey qs k:=by simp [atKey,XB,e']
   rw [ml e,b];exact ih
def KT.repl {H:Hp} {kvs:List (List bC×V)} {xs:List (List bC×Le×eQ)} (r:KT H kvs xs) (k:List bC) {y:V} {u:eQ} (L:ba y u) :
  KT H (kvs.map fun J=>if J.1=k then (J.1,y) else J) (xs.map (putAt k u)):=by
 induction r with
 | nil=>exact .nil
 | @cons p q ps qs h t ih =>
  rw [By,By];refine .cons ?_ ih;obtain ⟨h1,h2,Y⟩:=h;unfold putAt;by_cases e:p.1=k
  .rw [acW e,acW (h1.symm.trans e)];exact ⟨h1,h2,L⟩
  .rw [acX e,acX (fun z=>e (h1.trans z))];exact ⟨h1,h2,Y⟩
def KT.put {H:Hp} {kvs:List (List bC×V)} {xs:List (List bC×Le×eQ)} (r:KT H kvs xs) (k:List bC) {b:Le} {y:V} {u:eQ} (Y:H b=some (.tup (k.map kV))) (J:ba y u) :
  KT H (oE kvs k y) (storedH xs k b u):=by
 have e:(kvs.any fun L=>decide (L.1=k))=(atKey xs k).isSome:=by
  rw [sT,(r.val k).isSome_eq,Z0]
 unfold oE storedH;rw [e];by_cases q:(atKey xs k).isSome=true
 .rw [acW q,acW q];exact r.repl k J
 .rw [acX q,acX q];exact Paired.snoc r ⟨rfl,Y,J⟩
def KT.keeps {H H':Hp} {kvs:List (List bC×V)} {xs:List (List bC×Le×eQ)} (r:KT H kvs xs) (J:∀ b ys,H b=some (.tup ys)->H' b=some (.tup ys)):KT H' kvs xs :=
 Paired.mapP r fun _ _ z=>⟨z.1,J _ _ z.2.1,z.2.2⟩
section
variable {P:Xh} {w:Xv} {H:Hp} {h:YG} {a:Le}
def Oc {u:HO} (ok:qF P w H h) (e:Rd H a u):bT P w H h a u:=e.ok ok
def oV {kvs:List (bC×V)} (ok:qF P w H h) (e:Rd H a (.dK kvs)):kvs.length<=Xd/\(a==YC)=false/\∃ vs,KV kvs vs/\h.DictOf (cb P w) a vs :=
 show bT P w H h a (.dK kvs) from Oc ok e
def S4 {kvs:List (bC×V)} (ok:qF P w H h) (e:H a=some (.dK kvs)):kvs.length<=Xd/\(a==YC)=false/\∃ vs,KV kvs vs/\h.DictOf (cb P w) a vs:=oV ok (.inl e)
def rf {ks:List bC} (ok:qF P w H h) (e:H a=some (.tup (ks.map kV))):(tupleKind (cb P w)).is h ks a:=by
 obtain ⟨_,its,r,o,h1,h2,n,J⟩:=(show bT P w H h a (.tup (ks.map kV)) from ok a _ e);exact ⟨o,its.toArray,n,h1,h2,J,by simpa using yW r⟩
def yQ {kvs:List (List bC×V)} (ok:qF P w H h) (e:Rd H a (.dT kvs)):kvs.length<=Xd/\(a==YC)=false /\
  ∃ xs,KT H kvs xs/\h.DictOfH (tupleKind (cb P w)) a xs:=by
 obtain ⟨z,y,xs,r,o,es,ep,h1,h2,L,Y,h5⟩:=(show bT P w H h a (.dT kvs) from Oc ok e);refine ⟨z,y,xs,r,o,es,ep,h1,h2,L,Y,fun x J=>?_,h5⟩;have all:∀ {l:List (List bC×V)} {m:List (List bC×Le×eQ)},KT H l m->∀ x∈m,(tupleKind (cb P w)).is h x.1 x.2.1:=by
  intro l m q;induction q with
  | nil=>intro x J;exact nomatch J
  | @cons p q ps qs hq t ih =>
   intro x J;rcases iN.mp J with e|J
   .subst e;exact rf ok (by rw [<- hq.1];exact hq.2.1)
   .exact ih x J
 exact all r x J
def RH {kvs:List (List bC×V)} (ok:qF P w H h) (e:H a=some (.dT kvs)):kvs.length<=Xd/\(a==YC)=false /\
  ∃ xs,KT H kvs xs/\h.DictOfH (tupleKind (cb P w)) a xs:=yQ ok (.inl e)
end
def wA (H:Hp) (a:Le) (y:V) (r:Option V):Prop :=
 (∃ kvs k,Rd H a (.dK kvs)/\y=kV k/\r=ky kvs k)\/∃ kvs k b,Rd H a (.dT kvs)/\y=.ref b/\H b=some (.tup (k.map kV))/\r=ky kvs k
def LI (H:Hp) (a:Le) (y v:V) (H':Hp):Prop :=
 (∃ kvs k,H a=some (.dK kvs)/\y=kV k/\kvs.length < Xd/\H'=upd H a (.dK (oE kvs k v))) \/
 ∃ kvs k b,H a=some (.dT kvs)/\y=.ref b/\H b=some (.tup (k.map kV))/\kvs.length < Xd/\H'=upd H a (.dT (oE kvs k v))
def LI.k {H:Hp} {a:Le} {kvs:List (bC×V)} {k:bC} {v:V} (e:H a=some (.dK kvs)) (J:kvs.length < Xd):LI H a (kV k) v (upd H a (.dK (oE kvs k v))):=.inl ⟨kvs,k,e,rfl,J,rfl⟩
section
variable {X:Cx} {af:ac4} {Z:St} {H:Hp} {s:iF} {a:Le} {y v:V} {u r:eQ} {o:Option V} {A:Xs} {E:ac5}
def Inv.big (I:Inv X af Z H s):YC < s.heap.objs.size:=by
 have h:W9 < s.heap.objs.size:=(I.mod.glob.keeps I.bk).lt;exact Nat.lt_trans (by decide) h
def Hg {Q:ac5} (hu:A.units+1 < ZM) (I:Inv X af Z H s) (g:wA H a y (some v)) (ry:ba y u) (h:∀ Y s',Inv X af Z H s'->ba v Y->Q Y s') :
  RW (Xa X.prog X.w) A (aaQ (.ref a) u) Q E s:=by
 rcases g with ⟨kvs,k,e,ey,l⟩|⟨kvs,k,b,e,ey,eb,l⟩
 .subst ey;obtain ⟨z,hd,vs,J,dd⟩:=oV I.hok e;obtain ⟨Y,hw,L⟩:=qW.some_of (v:=v) (o:=valueAt vs k) (by rw [l];exact J.val k);exact wpAny_getItem_of (A4 ry) dd.mapOf hw (h Y _ (I.tok _) L)
 .subst ey;cases (show u=Xr b from ry);obtain ⟨z,hd,xs,J,dd⟩:=yQ I.hok e;obtain ⟨Y,hw,L⟩:=qW.some_of (v:=v) (o:=(atKey xs k).map (·.2)) (by rw [l];exact J.val k);obtain ⟨p,hp,hp2⟩:=abg.mp hw;refine wpAny_getItem_heap (ZW hu) (rf I.hok eb) dd hp ?_;rw [hp2];exact h Y _ (I.tok _) L
def Vv {Q:ac5} (hu:A.units+1 < ZM) (I:Inv X af Z H s) (g:wA H a y o) (ry:ba y u) (h:∀ s',Inv X af Z H s'->Q (.bool o.isSome) s') :
  RW (Xa X.prog X.w) A (Xn .In u (.ref a)) Q E s:=by
 rcases g with ⟨kvs,k,e,Y,l⟩|⟨kvs,k,b,e,Y,eb,l⟩
 .subst Y;obtain ⟨z,L,vs,J,dd⟩:=oV I.hok e;refine wpAny_in_of (A4 ry) L dd.mapOf ?_;rw [<- (J.val k).isSome_eq,<- l];exact h _ (I.tok _)
 .subst Y;cases (show u=Xr b from ry);obtain ⟨z,L,xs,J,dd⟩:=yQ I.hok e;refine wpAny_in_heap (ZW hu) (rf I.hok eb) L dd ?_;have q:=(J.val k).isSome_eq;rw [Z0] at q;rw [<- q,<- l];exact h _ (I.tok _)
def Nh {Q:ac5} (hu:A.units+1 < ZM) (I:Inv X af Z H s) (g:wA H a y o) (ry:ba y u) (h:∀ s',Inv X af Z H s'->Q (.bool (!o.isSome)) s') :
  RW (Xa X.prog X.w) A (Xn .NotIn u (.ref a)) Q E s:=by
 rcases g with ⟨kvs,k,e,Y,l⟩|⟨kvs,k,b,e,Y,eb,l⟩
 .subst Y;obtain ⟨z,L,vs,J,dd⟩:=oV I.hok e;refine wpAny_notIn_of (A4 ry) L dd.mapOf ?_;rw [<- (J.val k).isSome_eq,<- l];exact h _ (I.tok _)
 .subst Y;cases (show u=Xr b from ry);obtain ⟨z,L,xs,J,dd⟩:=yQ I.hok e;refine wpAny_notIn_heap (ZW hu) (rf I.hok eb) L dd ?_;have q:=(J.val k).isSome_eq;rw [Z0] at q;rw [<- q,<- l];exact h _ (I.tok _)
def Ey {h':YG} {t':Nat} {J:HO} (I:Inv X af Z H s) (L:Tt (H a)) (Y:X6 a s.heap h') (he:∃ q,h'.get? a=some q) (new:bT X.prog X.w (upd H a J) h' a J) (ht:X.tn<=t':=by walk_at "tok") :
  Inv X af Z (upd H a J) { s with heap:=h',toks:=t' } :=
 I.write (x:=a) (e:=a) L (.inl rfl) (fun b q hb z=>(Y.2 b hb).trans z) he new
def HR {P:Xh} {w:Xv} {H':Hp} {h':YG} {kvs:List (bC×V)} {vs:List (bC×eQ)} (z:kvs.length<=Xd) (L:(a==YC)=false) (J:KV kvs vs) (dd:h'.DictOf (cb P w) a vs) :
  bT P w H' h' a (.dK kvs):=⟨z,L,vs,J,dd⟩
def GF {H':Hp} {Q:Unit->iF->Prop} (hu:A.units+1 < ZM) (I:Inv X af Z H s) (g:LI H a y v H') (ry:ba y u) (rv:ba v r) (h:∀ s',Inv X af Z H' s'->Q () s') :
  RW (Xa X.prog X.w) A (setItem (.ref a) u r) Q E s:=by
 rcases g with ⟨kvs,k,e,ey,l,eH⟩|⟨kvs,k,b,e,ey,eb,l,eH⟩
 .subst ey eH;obtain ⟨z,hd,vs,J,dd⟩:=S4 I.hok e;have hz:vs.length<=Xd:=by rw [<- J.length];exact z
  have hl:(oE kvs k v).length<=Xd:=by have:=uN kvs k v;omega
  refine wpAny_setItem_pairs (hsz:=hz) (A4 ry) dd fun h' L hs=>h _ ?_;have he:∃ q,h'.get? a=some q:=let ⟨q,_,_,Y,_⟩:=L;⟨q,Y⟩;exact Ey I (by rw [e];exact Yw) hs he (HR hl hd (J.put k rv) L)
 .subst ey eH;cases (show u=Xr b from ry);obtain ⟨z,hd,xs,J,dd⟩:=RH I.hok e;have hz:xs.length<=Xd:=by rw [<- aa2 J];exact z
  have hl:(oE kvs k v).length<=Xd:=by have:=uN kvs k v;omega
  refine wpAny_setItem_heap (hsz:=hz) (ZW hu) (rf I.hok eb) dd fun h' L hs=>h _ ?_;obtain ⟨q,es,ep,Y,h2,h3,h4,_,h5⟩:=L;refine Ey I (by rw [e];exact Yw) hs ⟨q,Y⟩ ⟨hl,hd,_,(J.put k eb rv).keeps fun c ys ec=>?_,q,es,ep,Y,h2,h3,h4,h5⟩;rw [aM (Um ec e (fun z=>nomatch z))]
  exact ec
end
def J5 (i:Yb):Prop:=∀ ov J,subscripted i false ov J=operate [ov,J] (aaQ ov J)
def EU {prog:Xh} {w:Xv} {A:Xs} {E:ac5} {s:iF} {env:Env} {value J:Yb} {pos:Pos} {T id:String} {Q:ac5}
  (hl:typeLookup (.type T) "__getitem__"=pure (some (.builtin id))) (hs:J5 J)
  (h:RW (Xa prog w) A (eval value env) (fun o s₁=>RW (Xa prog w) A (eval J env) (fun i s₂=>s₂.TypeIs o T/\RW (Xa prog w) A (aaQ o i) Q E s₂) E s₁) E s) :
  RW (Xa prog w) A (eval (.Subscript value J pos) env) Q E s:=by
 refine Subscript_ (XC h (fun o s₁ h₁=>XC h₁ (fun i s₂ L=>?_) fun _ _ x=>x) fun _ _ x=>x);obtain ⟨hT,L⟩:=L;unfold subscriptTail;refine bY ?_;rw [getitemInPython_of_ne hT.not_modules];refine bY (wpAny_specialOf hT hl ?_);have fin:RW (Xa prog w) A (subscripted J false o i) (fun r Y=>RW (Xa prog w) A (letTemporaryGo value o r >>= fun _=>pure r) Q E Y) E s₂:=by
  rw [hs o i];exact wpAny_operating (XC L (fun r Y h₃=>bY (wpAny_letTemporaryGo (oR h₃))) fun _ _ x=>x)
 first
  | exact oR (bY fin)
  | exact bY (oR (bY fin))
  | exact bY fin
def B0 {X:Cx} {af:ac4} {Z:St} {H:Hp} {s:iF} {a:Le} {y:V} {o:Option V} (I:Inv X af Z H s) (g:wA H a y o):s.TypeIs (.ref a) "dict":=by
 rcases g with ⟨kvs,k,e,_,_⟩|⟨kvs,k,b,e,_,_,_⟩
 .obtain ⟨_,_,vs,_,dd⟩:=oV I.hok e;exact dd.typeIs
 .obtain ⟨_,_,xs,_,dd⟩:=yQ I.hok e;exact dd.typeIs
def JV (td ty:TE):TE:=fun Z H Q=>td Z H fun x H1=>ty Z H1 fun y H2=>∃ a v,x=.ref a/\wA H2 a y (some v)/\Q v H2
section
variable {X:Cx} {o i e value:Yb} {pos pos' tpos:Pos} {td ty tv:TE}
def Fd (Y:X.A.units+1 < ZM) (ho:PE X o td) (hi:PE X i ty) (hs:J5 i):PE X (.Subscript o i pos) (JV td ty):=by
 intro af s Z H Q I h;refine EU aaO.lookup hs (dg (ho af s Z H _ I h) fun u s1 ⟨x,H1,I1,rx,q1⟩=>dg (hi af s1 Z H1 _ I1 q1) fun iv s2 ⟨y,H2,I2,ry,a,v,ex,g,q2⟩=>?_);subst ex;obtain rfl:u=Xr a:=rx;exact ⟨B0 I2 g,Hg Y I2 g ry fun w' s3 L J=>⟨v,H2,L,J,q2⟩⟩
end
def Jz {P:Xh} {w:Xv} {H:Hp} (h:YG) (J:YC < h.objs.size):bT P w H (h.push { cls:=.type "dict",data:=.dict #[] }) h.objs.size (.dK []) :=
 ⟨Xk _,beq_eq_false_iff_ne.mpr (YU (Xb J)),[],.nil,Heap.DictOf.new h⟩
def JY:TE:=fun _ H Q=>∀ p,H p=none->Q (.ref p) (upd H p (.dK []))
section
variable {X:Cx} {pos:Pos}
def KA:PE X (.Dict [] [] pos) JY:=fun af s Z H Q I h =>
 wpAny_Dict_empty ⟨.ref s.heap.objs.size,_,I.laid (a:=s.heap.objs.size) (o:=.dK []) (t':=s.toks) (fun _ _ q=>dO _ q) (mK _) (Jz s.heap I.big),rfl,h _ (I.hok.fresh (mK _))⟩
end
def IsD (H:Hp) (a:Le):Prop:=(∃ kvs,Rd H a (.dK kvs))\/∃ kvs,Rd H a (.dT kvs)
def Qt {X:Cx} {af:ac4} {Z:St} {H:Hp} {s:iF} {a:Le} (I:Inv X af Z H s) (d:IsD H a) :
  s.TypeIs (.ref a) "dict"/\(∀ b,Xr a=.ref b->∃ J,s.heap.get? b=some J/\J.dict=none)/\(a==YC)=false:=by
 rcases d with ⟨kvs,e⟩|⟨kvs,e⟩
 .obtain ⟨_,L,vs,_,dd⟩:=oV I.hok e;refine ⟨dd.typeIs,fun b q=>?_,L⟩;cases q;obtain ⟨J,_,_,h1,h2,_⟩:=dd;exact ⟨J,h1,h2.2.1⟩
 .obtain ⟨_,L,xs,_,dd⟩:=yQ I.hok e;refine ⟨dd.typeIs,fun b q=>?_,L⟩;cases q;obtain ⟨J,_,_,h1,h2,_⟩:=dd;exact ⟨J,h1,h2.2.1⟩
section
variable {X:Cx} {af:ac4} {Z:St} {H:Hp} {s:iF} {a:Le} {kvs:List (bC×V)} {A:Xs} {E:ac5}
def HI {Q:ac5} (I:Inv X af Z H s) (e:Rd H a (.dK kvs)) (h:∀ p s',H p=none->Inv X af Z (upd H p (.dK kvs)) s'->Q (.ref p) s'):RW (Xa X.prog X.w) A (call (.type "dict") [.ref a]) Q E s:=by
 obtain ⟨z,hd,vs,J,dd⟩:=oV I.hok e;refine kt_call_dict hd dd (by rw [<- J.length];exact z) fun h' L hs=>?_;refine h _ _ (I.hok.fresh (mK _)) (I.laid (a:=s.heap.objs.size) (o:=.dK kvs) (t':=s.toks) (fun b q Y=>?_) (mK _) (HR z (beq_eq_false_iff_ne.mpr (YU (Xb I.big))) J L));exact (hs.2 b (Xb (MK Y))).trans (dO _ Y)
end
end L2
namespace Att
open PySem PySem.W PySem.Calls PyProof.Rows
def vx {P:aaN} {h:YG}:∀ (ns:List Int) (vs:ac8),WellAll P h vs (ns.map WData.int)->IntsAre vs ns:=by
 intro ns;induction ns with
 | nil =>
  intro vs w;rw [abk] at w;cases w;exact .nil
 | cons n ns J =>
  intro vs w;rw [By] at w;cases w with
  | cons a b =>
   cases a;exact .cons _ _ (J _ b)
def FV {l:OpenLaw} {n:Nat} (hn:l.most=some n) {P:aaN} {h:YG} {args:List WData} {Y:ac8}
  (L:l.row.toRowW.claim.pre args=true) (hwl:WellAll P h Y args) :
  ∃ a vs J,Y=[Xr a]/\args=[WData.list (J.map WData.int)]/\h.get? a=some { cls:=.type "list",data:=.seq vs.toArray }/\IntsAre vs J/\J.length<=n:=by
 have hsh:WShape.hasAll [] args [.list .int]=true:=(pre_splitW L).1;have hc:l.pre.holds [] { args:=args }=true:=(pre_splitW L).2;obtain ⟨d,r,rfl,h1,h2⟩:=hasAllW_cons hsh;obtain rfl:=hasAllW_nil h2;obtain ⟨xs,rfl,h3⟩:=hasW_list h1;obtain ⟨J,rfl⟩:=items_int h3;have hlen:J.length<=n:=by
  unfold OpenLaw.pre at hc;have h4:(WTm.not (.lt (.lit (.int (n:Int))) (.len (.arg 0)))).holds [] { args:=[.list (J.map .int)] }=true:=by
   have h4:=(holds_andW hc).1;rw [hn] at h4;exact h4
  have h5:=condW_of h4 (w_not (w_lt w_lit (w_len_list (w_arg rfl))));rw [lE] at h5;refine Nat.le_of_not_lt fun q=>?_;have q':(n:Int) < ((J.length:Nat):Int):=by omega
  first
   | (rw [acZ q'] at h5;exact absurd h5 (by decide))
   | (simp at h5;omega)
 cases hwl with
 | cons w1 w2 =>
  cases w2;cases w1 with
  | list ho hall=>exact ⟨_,_,J,rfl,rfl,ho,vx J _ hall,hlen⟩
def FO (l:OpenLaw) (args:List WData):l.row.toRowW.claim.post args (.bool true) args=true :=
 postW_of (r:=l.row.toRowW) (X:=(true==true))
  (show WShape.has [] (.bool true) .bool=true by first|rfl|decide|simp [WShape.has,WShape.arms,WShape.armsAll])
  (show (WTm.eq .res (.lit (.bool true))).value [] { args:=args,res:=some (.bool true),after:=args }=some (.bool (true==true)) from w_eq_bool (w_res rfl) w_lit) rfl
def BG {l:OpenLaw} {n:Nat} {q:Xh} {loose:ac3} {XP:(ac6)->YG->Prop} {YP:Xv->YG->Prop} {d:DefRec}
  (hn:l.most=some n) (hdf:d.params.defaults=[])
  (call:∀ (w:Xv) (L J:iF) (mg mb:ac6) (fa:Le) (o:Obj) (pm cd doc:eQ) (a:Le) (vs:ac8) (ns:List Int),
   Ground q loose [] XP w L mg mb J.heap->YP w J.heap ->
   J.heap.get? fa=some o->o.data=.func (docDef d.name d.params d.body d.scope pm cd doc)->J.heap.CodeRec cd d.name->mg d.name=some (.ref fa) ->
   J.heap.get? a=some { cls:=.type "list",data:=.seq vs.toArray }->IntsAre vs ns->ns.length<=n->J.gens=#[] ->
   Z3 (Xa l.prog w) callerA (.call (.ref fa) ⟨[.ref a],[]⟩) (fun r s'=>r=.ok (.ret (.bool true))/\OldK J.heap s'.heap/\s'.os=J.os/\AllBare s'.gens) J) :
  WalkO q loose XP YP l.row.toRowW d [] (fun f vs=>ach f vs):=by
 intro w L J mg mb G Y fa o pm cd doc dV kV ho hd hcd hD hmg hg args vals as hpre hlay hrd hwl hlo;obtain rfl:dV=.none:=Dflts.none hD hdf;obtain rfl:kV=.none:=Dflts.noKw hD;obtain ⟨a,vs,ns,rfl,rfl,hobj,hints,hlen⟩:=FV hn hpre hwl;refine enter_call (YW (call w L J mg mb fa o pm cd doc a vs ns G Y ho (fd_plain hd) hcd hmg hobj hints hlen hg) fun r s' hq=>?_);obtain ⟨rfl,h2,h3,h4⟩:=hq;exact ⟨.inl ⟨.bool true,.bool true,[],rfl,fun _=>rfl,.bool true,FO l _,fun _=>⟨Z1,fun _ hm=>(nomatch hm)⟩⟩,h2,h3,h4⟩
end Att
namespace L2
open PySem PySem.Spec PyProof.Rows
def yh:∀ {vs:ac8} {J:List Int},IntsAre vs J->br (J.map V.int) vs
 | _,_,.nil=>.nil
 | _,_,.cons n t h=>.cons ⟨t,rfl⟩ (yh h)
def OQ (H:Hp):Prop:=∀ b,H b=none\/∃ o xs,H b=some (.frz o (.lst xs))
def Kb {P:Xh} {w:Xv} {K:aT} {mg mb:ac6} {CX:FR} {k:Nat} {fa a:Le} {fd:Xz} {x:Str} {sp:Sp} {s₁:iF} {vs:ac8} {ns:List Int}
  (KX:K.In s₁.heap) (hns:s₁.heap.Ns W9 mg) (L:s₁.heap.Ns builtinsNs mb) (hbb:∀ x:Str,x≠"__name__"->mb x=Xl x) (hlim:s₁.heap.NoLimit) (hg:s₁.gens=#[])
  (ha:s₁.heap.get? a=some { cls:=.type "list",data:=.seq vs.toArray }) (hi:IntsAre vs ns) (hl:ns.length<=Xd) (hr:Room k callerA)
  (F:∀ base:YG,K.In base->base.Ns W9 mg->FnOk P w K mg base CX k fa fd [x] sp) (hbind:∀ (s:iF) (u:eQ),BindsTo s fd ⟨[u],[]⟩ [(x,u)])
  (hsp:∀ H:Hp,OQ H->il K H a (ns.map V.int)->sp [.ref a] H (fun v _=>v=.bl true) fun _ _ _=>False)
  (hCX:∀ H e s',CX [] H s₁ (fun _ _ _=>False) e s'->False) :
  Z3 (Xa P w) callerA (.call (.ref fa) ⟨[.ref a],[]⟩) (fun r s'=>r=.ok (.ret (.bool true))/\OldK s₁.heap s'.heap/\s'.os=s₁.os/\AllBare s'.gens) s₁:=by
 have rv:=yh hi;have lenV:=hi.length
 have core:∀ H:Hp,OQ H->il K H a (ns.map V.int)->qF P w H s₁.heap->(∀ b,H b≠none->b=a)->(H a≠none->K.lookup a=none) ->
   Z3 (Xa P w) callerA (.call (.ref fa) ⟨[.ref a],[]⟩) (fun r s'=>r=.ok (.ret (.bool true))/\OldK s₁.heap s'.heap/\s'.os=s₁.os/\AllBare s'.gens) s₁:=by
  intro H hO hS hok hA hK;have J:∀ {b:Le} {o:Obj},s₁.heap.get? b=some o->H b=none->(zk s₁.heap H).get? b=some o:=fun e n=>Iw e n;have noA:∀ {b:Le} {o:Obj} {es:Array DictEntry} {ep:Nat},s₁.heap.get? b=some o->o.data=.dict es ep->H b=none:=fun {b o es ep} e d=>by
   cases q:H b with
   | none=>rfl
   | some u =>
    have e':b=a:=hA b (by rw [q];simp);subst e';rw [ha] at e;cases e;have d':Data.seq vs.toArray _=Data.dict es ep:=d;cases d'
  have Y:∀ {b:Le} {m:ac6},s₁.heap.Ns b m->(zk s₁.heap H).Ns b m:=fun {b m} ⟨o,es,ep,e,d,r⟩=>⟨o,es,ep,J e (noA e d),d,r⟩;have hKb:K.In (zk s₁.heap H):=fun b o e=>J (KX b o e) (by
   cases q:H b with
   | none=>rfl
   | some u =>
    have e':b=a:=hA b (by rw [q];simp);subst e';rw [hK (by rw [q];simp)] at e;cases e)
  have hM:Mod K mg (zk s₁.heap H):=⟨hKb,Y hns,⟨mb,Y L,hbb⟩,let ⟨mc,h1,h2⟩:=hlim;⟨mc,Y h1,h2⟩⟩;have e0:Env0 P w K mg (zk s₁.heap H) callerA [] s₁ H:=⟨rfl,hM,fun b o e=>Lu e,aco (FX _ _),trivial,fun b L=>absurd (show b∈([]:ac7) from L) (by simp),hok,.of_eq hg⟩;refine YW ((F _ hKb (Y hns)).run callerA [] s₁ H ⟨[.ref a],[]⟩ [.ref a] [.ref a] _ _ hr e0 (hbind s₁ (.ref a)) (.cons rfl .nil) (hsp H hO hS)) fun r s' h=>?_;cases r with
  | error e=>exact (hCX H e s' h).elim
  | ok fl =>
   cases fl with
   | next=>exact Yv h
   | brk=>exact Yv h
   | cont=>exact Yv h
   | ret u =>
    obtain ⟨v,H',os,bare,un,hok',r',q⟩:=h;have q':v=.bl true:=q;subst q';obtain rfl:u=abx true:=r';refine ⟨rfl,OldK.of_keep fun b o e=>?_,os,bare⟩;cases q:H b with
    | none=>exact un.keep b o e q (by intro z;exact absurd (show b∈([]:ac7) from z) (by simp)) (by simp)
    | some u =>
     rcases hO b with z|⟨ob,xs,z⟩
     .rw [q] at z;cases z
     .have z2:=un.frzs b ob _ z;obtain ⟨e1,_⟩:=hok b _ z;obtain ⟨e2,_⟩:=hok' b _ z2;rw [e] at e1;cases e1;exact e2
 cases hk:K.lookup a with
 | some o =>
  have e:=KX a o hk;rw [ha] at e;cases e;refine core (fun _=>none) (fun _=>.inl rfl) (.inr ⟨_,vs.toArray,_,hk,rfl,rfl,rfl,by rw [Do,lenV];exact hl,by simpa using rv⟩) (fun b u z=>by have z':(none:Option HO)=some u:=z;cases z') (fun b z=>absurd rfl z) fun z=>absurd rfl z
 | none =>
  refine core (fun b=>if b=a then some (.frz { cls:=.type "list",data:=.seq vs.toArray } (.lst (ns.map V.int))) else none) (fun b=>?_) (.inl (.inr ⟨{ cls:=.type "list",data:=.seq vs.toArray },acW rfl⟩)) (fun b u z=>?_) (fun b z=>?_) fun _=>hk
  .by_cases L:b=a
   .exact .inr ⟨_,_,acW L⟩
   .exact .inl (acX L)
  .by_cases L:b=a
   .have z':=(acW L).symm.trans z;cases z';subst L;exact ⟨ha,by rw [lE];exact hl,vs,_,rv,ha⟩
   .have z':=(acX L).symm.trans z;cases z'
  .by_cases L:b=a
   .exact L
   .exact absurd (acX L) z
def LU {l:abl} {n k:Nat} {q:Xh} {loose:ac3} {XP:(ac6)->YG->Prop} {YP:Xv->YG->Prop} {d:DefRec} {K:aaN->aT} {CX:Xv->FR} {sp:Xv->Sp} {x:Str}
  (hn:l.most=some n) (hn2:n<=Xd) (hdf:d.params.defaults=[]) (hr:Room k callerA)
  (hY:∀ (w:Xv) (h:YG),YP w h->(K w.params).In h)
  (F:∀ (w:Xv) (mg:ac6) (fa:Le) (h:YG),(K w.params).In h->h.Ns W9 mg->mg d.name=some (.ref fa) ->
   ∃ fd:Xz,(∀ (s:iF) (u:eQ),BindsTo s fd ⟨[u],[]⟩ [(x,u)]) /\
    ∀ base:YG,(K w.params).In base->base.Ns W9 mg->FnOk l.prog w (K w.params) mg base (CX w) k fa fd [x] (sp w))
  (hsp:∀ (w:Xv) (H:Hp) (a:Le) (ns:List Int),ns.length<=n->OQ H->il (K w.params) H a (ns.map V.int)->sp w [.ref a] H (fun v _=>v=.bl true) fun _ _ _=>False)
  (hCX:∀ (w:Xv) (H:Hp) (s:iF) (e:eQ) (s':iF),CX w [] H s (fun _ _ _=>False) e s'->False) :
  PySem.W.WalkO q loose XP YP l.row.toRowW d [] (fun f vs=>ach f vs):=by
 refine Att.BG hn hdf fun w s₀ s₁ mg mb fa o pm cd doc a vs ns G Y ho hd hcd hmg hobj L J hg=>?_;have KX:=hY w _ Y;obtain ⟨fd,hb,hF⟩:=F w mg fa _ KX G.T.g hmg;exact Kb KX G.T.g G.T.b G.T.builtins G.T.nolimit hg hobj L (IF J hn2) hr hF hb (fun H hO hS=>hsp w H a ns J hO hS) fun H e s'=>hCX w H s₁ e s'
def jK (s:Yj):Arguments:=match s with
 | .FunctionDef _ a _ _ _ _ _ _ _ _=>a
 | _=>{ posonlyargs:=[],args:=[],vararg:=none,kwonlyargs:=[],kw_defaults:=[],kwarg:=none,defaults:=[] }
def e9 (s:Yj):List Yj:=match s with
 | .FunctionDef _ _ b _ _ _ _ _ _ _=>b
 | _=>[]
def au (s:Yj):Scope:=match s with
 | .FunctionDef _ _ _ _ _ _ sc _ _ _=>sc
 | _=>{ kind:=.function,names:=[],isGenerator:=false,isCoroutine:=false }
abbrev cQ:FR:=fun _ _ _ _ _ _=>False
abbrev E0:XK:=fun _ _ _=>False
def Ju {X:Cx}:wP cQ X E0:=fun _ _ _ _ _ _ _ h=>h.elim
structure Fun (K:aT) (x qual:Str) (st:Yj) (f:Le) (fd:Xz):Prop where
 ex:∃ (oc:eQ) (od:Option Le) (kV doc pm:eQ) (an:Option Le) (cdv ct:eQ) (osl:Array (Option eQ)),
  fd=Yy x qual (jK st) (e9 st) (au st) .none kV doc pm an cdv ct/\K.lookup f=some ⟨oc,od,.func fd,osl⟩/\Z7 K cdv qual=true
 kp:Z6 K (.ref f)=true
section
variable {P:Xh} {w:Xv} {K:aT} {mg:ac6} {base:YG}
theorem Fun.ok {x L:Str} {st:Yj} {f:Le} {fd:Xz} {N ps:ac3} {k:Nat} {sp:Sp} (F:Fun K x L st f fd) (S:FnScope N ps (au st)) (len:∀ vs H Q E,sp vs H Q E->vs.length=ps.length)
  (hbody:∀ (Y:eQ) (A:Xs) (J:List Env) (s:iF) (H:Hp) (vs:ac9) (Q:VK) (E:XK),Room k (A.deeper (abd L (au st) s.heap.objs.size f Y))->sp vs H Q E ->
   ∃ t,D4 (vR cQ P w K mg base N L (au st) f Y A J s H E).nox (e9 st) t/\t { nx:=fun _ H'=>Q .non H',rt:=Q } (start N vs) H):FnOk P w K mg base cQ (k+1) f fd ps sp:=by
 obtain ⟨oc,od,kV,doc,pm,an,Y,ct,osl,rfl,lk,hcd⟩:=F.ex;refine Of lk hcd S len fun A J s H vs Q E hr hsp=>?_;obtain ⟨t,h,q⟩:=hbody Y A J s H vs Q E hr hsp;exact ⟨t,h.nox,q⟩
def Fun.binds {x J:Str} {st:Yj} {f:Le} {fd:Xz} {ps:ac3} (F:Fun K x J st f fd)
  (h:∀ (kV Y pm:eQ) (an:Option Le) (L ct:eQ) (us:ac8),us.length=ps.length->bindArgs (Yy x J (jK st) (e9 st) (au st) .none kV Y pm an L ct) ⟨us,[]⟩=pure (ps.zip us)):kg K fd ps []:=by
 obtain ⟨oc,od,kV,Y,pm,an,L,ct,osl,rfl,lk,hcd⟩:=F.ex;exact .all (h kV Y pm an L ct)
def Jb {x J:Str} {st:Yj} {f:Le} {oc:eQ} {od an:Option Le} {osl:Array (Option eQ)} {kV Y pm L ct:eQ} (l:K.lookup f=some ⟨oc,od,.func (Yy x J (jK st) (e9 st) (au st) .none kV Y pm an L ct),osl⟩)
  (c:Z7 K L J=true) (k:Z6 K (.ref f)=true):Fun K x J st f (Yy x J (jK st) (e9 st) (au st) .none kV Y pm an L ct):=⟨⟨oc,od,kV,Y,pm,an,L,ct,osl,rfl,l,c⟩,k⟩
end
section
variable {X:Cx}
def pv (i:Nat) {x:Str} {pos:Pos} (L:X.N[i]?=some x:=by rfl) (Y:Cz X.env.scope x:=by walk_at"v") (hd:adb x:=by decide)
  (J:(x==("__classdict__":Str))=false:=by decide):PE X (.Name x pos) (TJ i):=IG L Y hd J
end
def az (H H':Hp):Prop:=∀ b o,H b=some o->H' b=some o
def az.refl (H:Hp):az H H:=fun _ _ h=>h
theorem az.trans {H H1 H2:Hp} (a:az H H1) (b:az H1 H2):az H H2:=fun c o h=>b c o (a c o h)
def az.free {H H':Hp} (e:az H H') {l:Le} (h:H' l=Option.none):H l=Option.none:=by
 cases q:H l with
 | none=>rfl
 | some o =>
  rw [e l o q] at h;cases h
def az.seq {K:aT} {H H':Hp} {a:Le} {xs:ac9} (e:az H H') (h:il K H a xs):il K H' a xs:=by
 rcases h with (h|⟨o,h⟩)|h
 .exact .inl (.inl (e _ _ h))
 .exact .inl (.inr ⟨o,e _ _ h⟩)
 .exact .inr h
end L2
namespace L2
open PySem PySem.W PySem.W.X PySem.W.ZRun
def walkX {XP:(ac6)->YG->Prop} {K:aaN->Frag} {run:eQ->ac8->Sem eQ}
  (e:∀ P,as=(K P).map (·.1)) (h:WalkO q loose XP (fun w h=>(K w.params).In h) r d kwd run):WalkX q loose XP (obsZ as) (valZ K n t) r d kwd run :=
 fun w J Y mg mb G y a o pm cd doc dV kV h1 h2 h3 h4 h5 h6 args vals as L hp hl hr hw hs =>
  h w J Y mg mb G (InK.keeps w J.heap Y.heap (z_facts e y).2.1 L.keeps) a o pm cd doc dV kV h1 h2 h3 h4 h5 h6 args vals as hp hl hr hw hs
def ln0 {α:Type} {P:List α->Prop} (h:P []):∀ us:List α,us.length=0->P us:=fun us e=>by
 rw [List.length_eq_zero_iff.mp e];exact h
def wc {α:Type} {P:List α->Prop} (h:∀ a,P [a]):∀ us:List α,us.length=1->P us:=fun us e=>by
 obtain ⟨a,rfl⟩:=Zg.mp e;exact h a
def Vg {α:Type} {P:List α->Prop} (h:∀ a us,us.length=n->P (a::us)):∀ us:List α,us.length=n+1->P us:=fun us e=>by
 cases us with
 | nil=>cases e
 | cons a us=>exact h a us (Nat.succ.inj e)
def wF {α:Type} {P:List α->Prop} (h:∀ a b,P [a,b]):∀ us:List α,us.length=2->P us:=Vg fun a=>wc fun b=>h a b
def K8 {α:Type} {P:List α->Prop} (h:∀ a b c,P [a,b,c]):∀ us:List α,us.length=3->P us:=Vg fun a=>wF fun b c=>h a b c
def W1 {α:Type} {P:List α->Prop} (h:∀ a b c d,P [a,b,c,d]):∀ us:List α,us.length=4->P us:=Vg fun a=>K8 fun b c d=>h a b c d
end L2
namespace L2
open PySem PySem.Spec PyProof.Rows
def gG (cells:List (Str×Le)):List (Str×aaa)->List (Str×Le)->List (Str×Le)
 | [],acc=>acc
 | (n,k)::r,acc=>if k=.free then gG cells r ((n,(cells.lookup n).getD 0)::acc) else gG cells r acc
def oA (h:∀ y∈scope.names,y.2=.free->∃ c,env.cells.lookup y.1=some c):closureFor scope env=pure (gG env.cells scope.names []):=by
 simp only [closureFor];generalize ([]:List (Str×Le))=acc;revert h
 generalize scope.names=names;intro h;induction names generalizing acc with
 | nil=>rfl
 | cons y r ih =>
  obtain ⟨n,k⟩:=y;have J:=fun acc=>ih acc fun z hz=>h z (lT _ hz);by_cases Y:k=.free
  .subst Y;obtain ⟨c,L⟩:=h (n,.free) W6 rfl;have L:env.cells.lookup n=some c:=L;have e1:cellOf env n=pure c:=by unfold cellOf;rw [L]
   have e2:gG env.cells ((n,.free)::r) acc=gG env.cells r ((n,c)::acc):=by
    show (if X2=.free then _ else _)=_;rw [acW rfl,L];rfl
   rw [e2,<- J ((n,c)::acc),aat];simp only [beq_self_eq_true,if_true,e1];rfl
  .have hb:(k==X2)=false:=by simpa using Y
   have e2:gG env.cells ((n,k)::r) acc=gG env.cells r acc:=by
    show (if k=.free then _ else _)=_;rw [acX Y]
   rw [e2,<- J acc,aat];simp only [hb,Yo,if_false];rfl
def Ak:∀ (J:List (Str×aaa)) (acc:List (Str×Le)),(∀ y∈J,y.2=.free->∃ c,cells.lookup y.1=some c) ->
  (gG cells J acc).lookup x=some c->cells.lookup x=some c\/acc.lookup x=some c
 | [],acc,_,e=>.inr e
 | (n,k)::r,acc,h,e=>by
  have hr:∀ y∈r,y.2=.free->∃ c,cells.lookup y.1=some c:=fun y hy=>h y (lT _ hy);by_cases hk:k=.free
  .subst hk;have e2:gG cells ((n,.free)::r) acc=gG cells r ((n,(cells.lookup n).getD 0)::acc):=by
    show (if X2=.free then _ else _)=_;rw [acW rfl]
   rw [e2] at e;rcases Ak r _ hr e with z|z
   .exact .inl z
   .rw [Yz] at z;cases hx:x==n with
    | true =>
     rw [hx] at z;have Y:x=n:=eq_of_beq hx;obtain ⟨c',L⟩:=h (n,.free) W6 rfl;have L:cells.lookup n=some c':=L;rw [L] at z;left
     rw [Y,L];exact z
    | false =>
     rw [hx] at z;exact .inr z
  .have e2:gG cells ((n,k)::r) acc=gG cells r acc:=by
    show (if k=.free then _ else _)=_;rw [acX hk]
   rw [e2] at e;exact Ak r acc hr e
def sr:∀ (J:List (Str×aaa)) (acc:List (Str×Le)),((x,X2)∈J\/∃ c,acc.lookup x=some c)->∃ c,(gG cells J acc).lookup x=some c
 | [],acc,h=>by
  rcases h with h|h
  .cases h
  .exact h
 | (n,k)::r,acc,h=>by
  by_cases L:k=.free
  .subst L;have e2:gG cells ((n,.free)::r) acc=gG cells r ((n,(cells.lookup n).getD 0)::acc):=by
    show (if X2=.free then _ else _)=_;rw [acW rfl]
   rw [e2];refine sr r _ ?_;rcases h with h|⟨c,h⟩
   .rcases iN.mp h with h|h
    .cases h;exact .inr ⟨_,by rw [Yz,beq_self_eq_true]⟩
    .exact .inl h
   .right
    rw [Yz];cases x==n with
    | true=>exact ⟨_,rfl⟩
    | false=>exact ⟨c,h⟩
  .have e2:gG cells ((n,k)::r) acc=gG cells r acc:=by
    show (if k=.free then _ else _)=_;rw [acX L]
   rw [e2];refine sr r acc ?_;rcases h with h|h
   .rcases iN.mp h with h|h
    .cases h;exact absurd rfl L
    .exact .inl h
   .exact .inr h
structure Bk where
 cl:List (Str×Le)
 C:Le
 s:iF
 H:Hp
 fp:ac7
 af:ac4
def u4 (X:Cx) (N:ac3) (scope:Scope) (b:Bk):Cx :=
 { X with tn:=0,N:=N,s₀:=b.s,H₀:=b.H,env:=compEnvC scope b.cl b.C X.env,outer:=X.stack,stack:=X.stack,ex:=b.fp,fn:=fun _=>false,pn:=X.pn++b.af,xe:=fun _ _=>False }
def xn (ON:ac3) (J:List (Str×aaa)):List (Option Nat)->ac3->Bool
 | [],[]=>true
 | none::r,_::n=>xn ON J r n
 | some j::r,x::n=>decide (ON[j]?=some x)&&decide ((x,X2)∈J)&&xn ON J r n
 | _,_=>false
def GM (osc:Scope) (ON N:ac3) (ix:List (Option Nat)) (scope:Scope):Bool :=
 decide (scope.kind=.function)&&(scope.names.all fun y=>decide (y.2≠.cell))&&(scope.names.all fun y=>decide (y.2=.local->scope.names.lookup y.1=some .local)) &&
 (scope.names.all fun y=>decide (y.2=.free->osc.names.lookup y.1=some .cell\/osc.names.lookup y.1=some .free))&&(scope.names.all fun y=>decide (y.2=.local->(y.1,X2)∉scope.names))&&xn ON scope.names ix N
structure CScope (osc:Scope) (ON N:ac3) (ix:List (Option Nat)) (scope:Scope):Prop where
 kind:scope.kind=.function
 nocell:∀ y∈scope.names,y.2≠.cell
 names:∀ y∈scope.names,y.2=.local->scope.names.lookup y.1=some .local
 outs:∀ y∈scope.names,y.2=.free->osc.names.lookup y.1=some .cell\/osc.names.lookup y.1=some .free
 nolf:∀ x,(x,NameKind.local)∈scope.names->(x,X2)∈scope.names->False
 len:ix.length=N.length
 cap:∀ (i j:Nat) (x:Str),ix[i]?=some (some j)->N[i]?=some x->ON[j]?=some x/\(x,X2)∈scope.names
def uz:∀ {ix:List (Option Nat)} {N:ac3},xn ON names ix N=true->ix.length=N.length
 | [],[],_=>rfl
 | none::r,_::n,h=>ac1 Nat.succ (uz (ix:=r) (N:=n) h)
 | some j::r,x::n,h=>by
  have h':(decide (ON[j]?=some x)&&decide ((x,X2)∈names)&&xn ON names r n)=true:=h;rw [Xe] at h';exact ac1 Nat.succ (uz h'.2)
 | [],_::_,h=>by cases h
 | none::_,[],h=>by cases h
 | some _::_,[],h=>by cases h
def ub:∀ {ix:List (Option Nat)} {N:ac3},xn ON names ix N=true->∀ (i j:Nat) (x:Str),ix[i]?=some (some j)->N[i]?=some x->ON[j]?=some x/\(x,X2)∈names
 | [],_,_,i,j,x,h1,_=>by simp at h1
 | none::r,y::n,h,0,j,x,h1,_=>by simp at h1
 | none::r,y::n,h,i+1,j,x,h1,h2=>ub (ix:=r) (N:=n) h i j x (by simpa using h1) (by simpa using h2)
 | some k::r,y::n,h,i,j,x,h1,h2=>by
  have h':(decide (ON[k]?=some y)&&decide ((y,X2)∈names)&&xn ON names r n)=true:=h;rw [Xe,Xe] at h';cases i with
  | zero =>
   simp only [ZS,aaW] at h1 h2;subst h1 h2;exact ⟨ac0 h'.1.1,ac0 h'.1.2⟩
  | succ i=>exact ub h'.2 i j x (by simpa using h1) (by simpa using h2)
 | none::_,[],h,_,_,_,_,_=>by cases h
 | some _::_,[],h,_,_,_,_,_=>by cases h
def NZ (h:GM osc ON N ix scope=true):CScope osc ON N ix scope:=by
 unfold GM at h;simp only [Xe] at h;obtain ⟨⟨⟨⟨⟨h1,h2⟩,h3⟩,L⟩,Y⟩,h6⟩:=h;exact ⟨ac0 h1,fun y J=>ac0 (XW.mp h2 y J),fun y J=>ac0 (XW.mp h3 y J),fun y J=>ac0 (XW.mp L y J),
  fun x hx hf=>ac0 (XW.mp Y (x,.local) hx) rfl hf,uz h6,ub h6⟩
def oU (ix:List (Option Nat)) (Z:St):St:=ix.map fun o=>o.bind fun j=>(Z[j]?).getD none
def gX {env:Env}:∀ {J:List (Str×aaa)} {x:Str} {k:aaa},(J.map fun (n,k)=>if (k==X2&&env.scope.kind==.function&&env.kindOf n==some .cell) then (n,acT) else (n,k)).lookup x=some k ->
  J.lookup x=some k\/(k=.cell/\J.lookup x=some .free/\env.kindOf x=some .cell)
 | [],_,_,h=>by cases h
 | (n,k')::r,x,k,h=>by
  have ih:=@gX env r x k;have h:YR x ((if (k'==X2&&env.scope.kind==.function&&env.kindOf n==some .cell)=true then (n,acT) else (n,k'))::_)=some k:=h;by_cases L:(k'==X2&&env.scope.kind==.function&&env.kindOf n==some .cell)=true
  .rw [acW L] at h;rw [Yz] at h;rw [Yz];cases hx:x==n with
   | true =>
    rw [hx] at h;cases h;have Y:x=n:=eq_of_beq hx;simp only [Xe,beq_iff_eq] at L;right
    exact ⟨rfl,by rw [L.1.1],by rw [Y];exact L.2⟩
   | false =>
    rw [hx] at h;exact ih h
  .rw [acX L] at h;rw [Yz] at h;rw [Yz];cases hx:x==n with
   | true =>
    rw [hx] at h;cases h;exact .inl rfl
   | false =>
    rw [hx] at h;exact ih h
def mem_of_lookupK:∀ {J:List (Str×aaa)},J.lookup x=some k->(x,k)∈J:=fun h=>YS h
def My {X:Cx} {osc:Scope} {ON:ac3} {af:ac4} {Z:St} {H:Hp} {s s':iF} {N:ac3} {ix:List (Option Nat)} {scope:Scope} {fp:ac7} {h':YG} {m:ac6} (I:Inv X af Z H s) (hE:X.env.scope=osc) (hO:X.N=ON) (S:CScope osc ON N ix scope)
  (hfp:∀ b∈fp,ib X af H b) (hfo:∀ b∈fp,∃ o,s.heap.get? b=some o) (hn:h'.Ns s.heap.objs.size m) (hk:∀ b o,s.heap.get? b=some o->h'.get? b=some o) (he:s'={ s with heap:=h',toks:=s'.toks }) :
  Inv (u4 X N scope ⟨gG X.env.cells scope.names [],s.heap.objs.size,s,H,fp,af⟩) [] (oU ix Z) H s':=by
 subst hE hO;have hcells:∀ y∈scope.names,y.2=.free->∃ c,X.env.cells.lookup y.1=some c:=fun y hy e=>I.ok.has y.1 (S.outs y hy e);have J:∀ x c,(gG X.env.cells scope.names []).lookup x=some c->X.env.cells.lookup x=some c:=fun x c e=>by
  rcases Ak scope.names [] hcells e with z|z
  .exact z
  .cases z
 have old:∀ b o,s.heap.get? b=some o->b≠s.heap.objs.size:=fun b o e=>Xb (MK e);have hkind:∀ x,(compEnvC scope (gG X.env.cells scope.names []) s.heap.objs.size X.env).kindOf x=some .cell\/(compEnvC scope (gG X.env.cells scope.names []) s.heap.objs.size X.env).kindOf x=some .free->(x,X2)∈scope.names:=fun x hx=>by
  rcases hx with hx|hx
  .rcases gX (env:=X.env) hx with z|⟨_,z,_⟩
   .exact absurd rfl (S.nocell _ (mem_of_lookupK z))
   .exact mem_of_lookupK z
  .rcases gX (env:=X.env) hx with z|⟨z,_⟩
   .exact mem_of_lookupK z
   .cases z
 have cellK:∀ x c,X.env.cells.lookup x=some c->∀ v,s.heap.IsCell c v->h'.IsCell c v:=fun x c e v ⟨o,ho,hd⟩=>⟨o,hk c o ho,hd⟩;rw [he];refine ⟨⟨I.ok.mod,S.kind,I.ok.glob,I.ok.blt,mK _,fun x y c h1 h2=>I.ok.inj x y c (J x c h1) (J y c h2),fun x hx=>sr _ _ (.inl (hkind x hx)),fun x c z _=>(nomatch z),I.ok.hd,I.ok.frames,.inl rfl,
  fun b hb=>?_,fun b o e=>I.bs b o e,IF I.ok.bsz I.sz,fun b o e hb=>?_,fun b hb hx=>?_,I.stack,fun b hb=>I.stkFree b hb⟩,
  rfl,I.bare,Un.kept hk,⟨m,hn,fun i x v h1 h2 h3=>?_⟩,fun x c e=>?_,I.hok.fresh (mK _),fun x c e=>I.freeC x c (J x c e),fun p hp=>?_,I.hok.kept hk,?_,Xk _⟩
 .obtain ⟨o,ho⟩:=hfo b hb;exact ⟨old b o ho,fun x c e=>(hfp b hb).2.2.2.2.1 x c (J x c e)⟩
 .rcases (hfp b hb).2.2.2.1 with z|z
  .exact I.ok.noex b o e z
  .exact absurd (W5 (MK e) (IF I.ok.bsz z)) (Y9 _)
 .rcases iN.mp (I.stkSub b hx) with z|z
  .exact (hfp b hb).2.1 z
  .exact (hfp b hb).2.2.1 z
 .-- a captured name
  have L:(oU ix Z)[i]?=some (some v):=h2;unfold oU at L;rw [Xw] at L;cases e:ix[i]? with
  | none=>rw [e] at L;cases L
  | some o =>
   rw [e] at L;cases o with
   | none=>cases L
   | some j =>
    obtain ⟨c1,c2⟩:=S.cap i j x e h1;have Y:(Z[j]?).getD none=some v:=Xp L;have ej:Z[j]?=some (some v):=by
     cases q:Z[j]? with
     | none=>rw [q] at Y;cases Y
     | some w'=>rw [q] at Y;rw [<- Y];rfl
    have ko:=S.outs _ c2 rfl;obtain ⟨mX,hnX,hl⟩:=I.loc;have vis:Cz X.env.scope x:=by
     rcases ko with k|k
     .exact .inr (.inl k)
     .exact .inr (.inr k)
    obtain ⟨u,ru,lk⟩:=hl j x v c1 ej vis;refine ⟨u,ru,.inr ?_⟩;have hcel:∃ c,X.env.cells.lookup x=some c/\s.heap.IsCell c (some u):=by
     rcases lk with ⟨k,_⟩|⟨_,c,e1,e2⟩
     .rcases ko with k'|k'
      .have:X.env.kindOf x=some .cell:=k'
       rw [k] at this;cases this
      .have:X.env.kindOf x=some .free:=k'
       rw [k] at this;cases this
     .exact ⟨c,e1,e2⟩
    obtain ⟨c,e1,e2⟩:=hcel;obtain ⟨c',e3⟩:=sr (cells:=X.env.cells) scope.names [] (.inl c2);have e4:=J x c' e3;rw [e1] at e4;cases e4;refine ⟨?_,c,e3,cellK x c e1 _ e2⟩;rcases h3 with k|k|k
    .rcases gX (env:=X.env) k with z|⟨z,_⟩
     .exact (S.nolf x (mem_of_lookupK z) c2).elim
     .cases z
    .exact .inl k
    .exact .inr k
 .obtain ⟨v,z⟩:=I.cell x c (J x c e);exact ⟨v,cellK x c (J x c e) v z⟩
 .have hp':p∈X.pn++af:=by
   rcases DO.mp hp with z|z
   .exact z
   .cases z
  obtain ⟨e,n,ne,nf,d⟩:=I.pin p hp';refine ⟨hk _ _ e,n,old _ _ e,fun z=>?_,d⟩;rcases iN.mp (I.stkSub _ z) with q|q
  .exact ne q
  .exact nf q
 .show (oU ix Z).length=N.length;unfold oU;rw [lE];exact S.len
section
variable {prog:Xh} {w:Xv} {A:Xs} {R:Result->iF->Prop} {s:iF}
def AB (I:Nat->iF->Prop)
  (turn:∀ n s,I n s->RW (Xa prog w) A (pyNext it) (fun r Y=>match r with
   | none=>R (.ok .next) Y
   | some v=>RW (Xa prog w) A (aaB target it v) (fun _ L=>RW (Xa prog w) A (assign target env v) (fun _ s₂ =>
     RW (Xa prog w) A (forIn ifs true fun c r=>if r=true then do let ok <- isTrue c env (eval c env);pure (aau ok) else pure (aau r)) (fun ok J =>
      if ok=true then RW (Xa prog w) A (eval elt env) (fun x s₄ =>
       RW (Xa prog w) A (call (.builtin "list.append") [acc,x]) (fun _ s₅=>∃ m,m < n/\I m s₅) (notedBy (Xa prog w) A env fun e s'=>R (.error e) s') s₄) (notedBy (Xa prog w) A env fun e s'=>R (.error e) s') J
      else ∃ m,m < n/\I m J) (notedBy (Xa prog w) A env fun e s'=>R (.error e) s') s₂) (notedBy (Xa prog w) A env fun e s'=>R (.error e) s') L) (notedBy (Xa prog w) A env fun e s'=>R (.error e) s') Y) (notedBy (Xa prog w) A env fun e s'=>R (.error e) s') s)
  (n:Nat) (h:I n s) :
  Z3 (Xa prog w) A (.compLoop (.ListComp elt [⟨target,iter,ifs,0⟩] scope pos) 0 it acc env) R s:=by
 refine codeAny_loop rfl I (fun n s hI=>?_) n h;show RW _ A ((compTurn (.ListComp elt [⟨target,iter,ifs,0⟩] scope pos) 0 it acc env).onRaise (fun x=>do noteFrame x env;theTreesLotGoes x)) _ _ s;refine wpAny_noted ?_;rw [compTurn_list];refine bY (wpAny_standAt (bY (XC (turn n s hI) (fun r Y h₁=>?_) fun _ _ h'=>h')));cases r with
 | none=>exact oR h₁
 | some v =>
  refine bY (XC h₁ (fun _ L h₁'=>?_) fun _ _ h'=>h');refine bY (XC h₁' (fun _ s₂ h₂=>bY (XC h₂ (fun ok J h₃=>?_) fun _ _ h'=>h')) fun _ _ h'=>h');cases ok with
  | false=>exact oR ⟨rfl,h₃⟩
  | true =>
   exact bY (bY (XC h₃ (fun x s₄ h₄=>bY (XC h₄ (fun _ s₅ h₅=>oR (oR ⟨rfl,h₅⟩)) fun _ _ h'=>h')) fun _ _ h'=>h'))
end
def QR (X:Cx) (ifs:List Yb) (t:TT):Prop :=
 ∀ (af:ac4) (s:iF) (Z:St) (H:Hp) (Q:Bool->Hp->Prop),Inv X af Z H s->t Z H Q ->
  RW (Xa X.prog X.w) X.A (forIn ifs true fun c r=>if r=true then do let ok <- isTrue c X.env (eval c X.env);pure (aau ok) else pure (aau r)) (TP X af Z Q) X.xe s
def SK:TT:=fun _ H Q=>Q true H
def Nf:QR X [] SK:=fun _ _ _ H _ I h=>wpAny_tests_nil ⟨H,I,h⟩
def NK {t:TT} (h:PT X c t):QR X [c] t:=fun af s Z H Q I q=>wpAny_tests_one (h af s Z H Q I q)
def zH (g:TG) (tt:TT) (te:TE) (J:It) (σ0:St) (H1:Hp) (Q:VK):Prop:=∀ acc,H1 acc=none->∃ W:Nat->Nat->St->Hp->Prop,
 (∃ m,W 0 m σ0 (upd H1 acc (.lst [])))/\∀ i m σ' H',W i m σ' H' ->
  (J.stop i H'/\Q (.ref acc) H')\/(J.go i H'/\∃ M:St->Hp->Prop,(∀ Y H2,M Y H2->∃ m',m' < m/\W (i+1) m' Y H2)/\∀ x H2,J.yld i H' x H2->g x σ' H2 fun L H3=>tt L H3 fun b H4 =>
   if b=true then te L H4 fun v H5=>∃ xs,H5 acc=some (.lst xs)/\xs.length < Xd/\M L (upd H5 acc (.lst (xs++[v]))) else M L H4)
def E6 (ix:List (Option Nat)) (wi:TI) (g:TG) (tt:TT) (te:TE):TE:=fun Z H Q=>wi Z H fun J H1=>zH g tt te J (oU ix Z) H1 Q
section
variable {X:Cx} {osc:Scope} {ON N:ac3} {ix:List (Option Nat)} {scope:Scope} {tg elt iter:Yb} {ifs:List Yb} {pos:Pos} {wi:TI} {g:TG} {tt:TT} {te:TE}
def KJ {H H':Hp} (I:Inv X af Z H s) (L:∀ b∈fp,ib X af H b) (J:Inv (u4 X N scope ⟨cl,s.heap.objs.size,s,H,fp,af⟩) [] σ' H' s') (ht:X.tn<=s'.toks) :
  Inv X af Z H' s'/\(∃ m,s'.heap.Ns s.heap.objs.size m)/\H' s.heap.objs.size=none/\ib X af H' s.heap.objs.size:=by
 have u:Un (Hi X.stack) fp H H' s.heap s'.heap:=J.base;have I1:Inv X af Z H' s':=I.call' J.os u J.hok J.bare fun b Y=>⟨(L b Y).2.2.2.1,(L b Y).2.1,(L b Y).2.2.2.2.1,(L b Y).2.2.2.2.2⟩;obtain ⟨m,hn,_⟩:=J.loc;exact ⟨I1,⟨m,hn⟩,J.free,I.fpOk (mK _) J.free⟩
def yJ {H:Hp} {tn:Nat->YG->Prop} {Q:VK} {E:ac5} {RR:eQ->Le->Result->iF->Prop}
  (S:CScope osc ON N ix scope) (hE:X.env.scope=osc) (hO:X.N=ON) (hc:X.calm=true) (hg:∀ b,PG (u4 X N scope b) tg g) (ht:∀ b,QR (u4 X N scope b) ifs tt)
  (he:∀ (s0:iF) (H0:Hp) (pl:ac4) (s':iF) (σ':St) (H':Hp) (Q':VK) (acc:Le),Inv X af Z H0 s0->(∀ b∈fp,ib X af H0 b)->(∀ b∈fp,∃ o,(b,o)∈pl)->Inv (u4 X N scope ⟨gG X.env.cells scope.names [],s0.heap.objs.size,s0,H0,fp,af⟩) ([]++pl) σ' H' s'->te σ' H' Q' ->
   RW (Xa X.prog X.w) X.A (eval elt (compEnvC scope (gG X.env.cells scope.names []) s0.heap.objs.size X.env)) (EP (u4 X N scope ⟨gG X.env.cells scope.names [],s0.heap.objs.size,s0,H0,fp,af⟩) ([]++pl) σ' Q') (notedBy (Xa X.prog X.w) X.A (compEnvC scope (gG X.env.cells scope.names []) s0.heap.objs.size X.env) fun e s''=>X.tn<=s''.toks->RR (.ref acc) s0.heap.objs.size (.error e) s'') s')
  (I:Inv X af Z H s) (T:Turn X.prog X.w X.K tg J fp it tn) (st:tn 0 s.heap) (hfp:∀ b∈fp,ib X af H b) (q:zH g tt te J (oU ix Z) H Q)
  (hRR:∀ (acc C:Le) (H':Hp) (s':iF),Inv X af Z H' s'->(∃ m,s'.heap.Ns C m)->H' C=none->ib X af H' C->Q (.ref acc) H'->RR (.ref acc) C (.ok .next) s') :
  RW (Xa X.prog X.w) X.A (newList []) (fun acc s₃=>RW (Xa X.prog X.w) X.A (newFunctionEnv scope X.env.globals (gG X.env.cells scope.names []) [] X.env.qual none .none (some X.env)) (fun cenv s₄ =>
   Z3 (Xa X.prog X.w) X.A (.compStart (.ListComp elt [⟨tg,iter,ifs,0⟩] scope pos) 0 (.ref it) acc { cenv with scope:=relabel scope X.env }) (RR acc cenv.locals) s₄) E s₃) E s:=by
 refine Yl (wpAny_newFunctionEnv S.nocell (by intro y hy;simp at hy) (fun h₁ hns₁ hsb₁=>?_) S.kind);dsimp only at hns₁ hsb₁ ⊢
 have I3:Inv X af Z (upd H s.heap.objs.size (.lst [])) { s with heap:=s.heap.push { cls:=.type "list",dict:=none,data:=.seq ([]:ac8).toArray } } :=
  I.laid (t':=s.toks) (fun b o e=>dO _ e) (mK _) (show bT X.prog X.w _ _ _ (.lst []) from ⟨Xk _,[],_,.nil,ID _ rfl⟩)
 have hacc:H s.heap.objs.size=none:=I.hok.fresh (mK _);have hfo:∀ b∈fp,∃ o,s.heap.get? b=some o:=fun b L=>let ⟨o,e,_⟩:=T.obj 0 _ st b L;⟨o,e⟩;have fne:∀ b∈fp,b≠s.heap.objs.size:=fun b L=>let ⟨o,e⟩:=hfo b L;Xb (MK e);have hfp3:∀ b∈fp,ib X af (upd H s.heap.objs.size (.lst [])) b:=fun b L=>⟨by rw [aM (fne b L)];exact (hfp b L).1,(hfp b L).2⟩;obtain ⟨W,⟨m0,w0⟩,turn⟩:=q s.heap.objs.size hacc;generalize hH2:s.heap.push { cls:=.type "list",dict:=none,data:=.seq ([]:ac8).toArray }=h2 at *;have hk1:∀ b o,h2.get? b=some o->h₁.get? b=some o:=fun b o e=>hsb₁.extBut b o (Xb (MK e)) (dO _ e);have old:∀ b o,s.heap.get? b=some o->h2.get? b=some o:=fun b o e=>by rw [<- hH2];exact dO _ e
 have fin:∀ s₄:iF,s₄={ s with heap:=h₁,toks:=s₄.toks }->X.tn<=s₄.toks->Z3 (Xa X.prog X.w) X.A (.compLoop (.ListComp elt [⟨tg,iter,ifs,0⟩] scope pos) 0 (.ref it) (.ref s.heap.objs.size) (compEnvC scope (gG X.env.cells scope.names []) h2.objs.size X.env))
   (RR (.ref s.heap.objs.size) h2.objs.size) s₄:=by
  intro s₄ e4 ht4;refine fM ht4 ?_;have J0:Inv (u4 X N scope ⟨gG X.env.cells scope.names [],h2.objs.size,{ s with heap:=h2 },upd H s.heap.objs.size (.lst []),fp,af⟩) [] (oU ix Z) (upd H s.heap.objs.size (.lst [])) s₄ :=
   My (s:={ s with heap:=h2 }) I3 hE hO S hfp3 (fun b L=>let ⟨o,e⟩:=hfo b L;⟨o,old b o e⟩) hns₁ hk1 e4
  generalize hX:u4 X N scope ⟨gG X.env.cells scope.names [],h2.objs.size,{ s with heap:=h2 },upd H s.heap.objs.size (.lst []),fp,af⟩=Y at J0;have eE:compEnvC scope (gG X.env.cells scope.names []) h2.objs.size X.env=Y.env:=by rw [<- hX];rfl
  have eP:X.prog=Y.prog:=by rw [<- hX];rfl
  have eW:X.w=Y.w:=by rw [<- hX];rfl
  have eA:X.A=Y.A:=by rw [<- hX];rfl
  have eK:X.K=Y.K:=by rw [<- hX];rfl
  have eC:Y.calm=true:=by rw [<- hX];exact hc
  have T':Turn Y.prog Y.w Y.K tg J fp it tn:=by rw [<- eP,<- eW,<- eK];exact T
  have P5:tn 0 s₄.heap:=T.keep _ _ _ st fun b L o e=>by rw [e4];exact hk1 b o (old b o e)
  have fpY:∀ {H':Hp},(∀ b∈fp,H' b=none)->∀ b∈fp,ib Y [] H' b:=fun {H'} hn b L=>by
   rw [<- hX];have f:=hfp b L;refine ⟨hn b L,?_,?_,.inl L,?_,?_⟩
   .have:=J0.ok.exf b (by rw [<- hX];exact L)
    rw [<- hX] at this;exact this.1
   .have:=J0.ok.exfs b (by rw [<- hX];exact L)
    rw [<- hX] at this;exact this
   .have:=J0.ok.exf b (by rw [<- hX];exact L)
    rw [<- hX] at this;exact this.2
   .intro p hp;have hp':p∈X.pn++af:=by
     rcases DO.mp hp with z|z
     .exact z
     .cases z
    exact f.2.2.2.2.2 p hp'
  have accne:s.heap.objs.size∉fp:=fun z=>fne _ z rfl;have never:∀ e s',Y.xe e s'->False:=by rw [<- hX];exact fun _ _ z=>z
  have hgY:PG Y tg g:=by rw [<- hX];exact hg _
  have htY:QR Y ifs tt:=by rw [<- hX];exact ht _
  rw [eE,eP,eW,eA];refine AB (fun n s'=>∃ i σ' H',Inv Y [] σ' H' s'/\tn i s'.heap/\(∀ b∈fp,H' b=none)/\W i n σ' H') ?_ m0 ⟨0,oU ix Z,_,J0,P5,fun b L=>(hfp3 b L).1,w0⟩;rintro n s5 ⟨i,σ5,H5,I5,st5,fr5,w5⟩;rcases turn i n σ5 H5 w5 with ⟨stop,qn⟩|⟨go,M,hM,step⟩
  .refine dg (T'.done Y rfl rfl rfl eC i [] s5 σ5 H5 _ I5 (fpY fr5) st5 stop) fun r s6 ⟨hr,I6⟩=>?_;subst hr;have I6':=I6;rw [<- hX] at I6';intro htk;obtain ⟨a1,a2,a3,a4⟩:=KJ (s:={ s with heap:=h2 }) I3 hfp3 I6' htk;exact hRR _ _ H5 s6 a1 a2 a3 a4 qn
  .refine dg (T'.item Y rfl rfl rfl eC i [] s5 σ5 H5 _ I5 (fpY fr5) st5 go) fun r s6 ⟨u,hr,h6⟩=>?_;subst hr;refine dg h6 fun _ s7 ⟨x,H7,I7,r7,y7,st7,fr7⟩=>?_;have I7':=I7.pinned (fpY fr7) (T.obj _ _ st7);refine XC (hgY _ s7 σ5 H7 x u _ I7' r7 (step x H7 y7)) (fun _ s8 ⟨σ8,H8,I8,q8⟩=>?_) fun e s' z=>(never e s' z).elim;refine XC (htY _ s8 σ8 H8 _ I8 q8) (fun ok s9 ⟨H9,I9,q9⟩=>?_) fun e s' z=>(never e s' z).elim;have again:∀ {σa:St} {Ha:Hp} {sa:iF},Inv Y ([]++re fp s7.heap) σa Ha sa->M σa Ha->∃ m,m < n/\∃ i σ' H',Inv Y [] σ' H' sa/\tn i sa.heap/\(∀ b∈fp,H' b=none)/\W i m σ' H':=fun {σa Ha sa} Ia na=>by
    obtain ⟨m',hm,wa⟩:=hM σa Ha na;refine ⟨m',hm,i+1,σa,Ha,Ia.unpinned,T.keep _ _ _ st7 fun b L o e=>(Ia.pin (b,o) (Xc _ (Xc _ (ip L e)))).1,fun b L=>?_,wa⟩;obtain ⟨o,e,d⟩:=T.obj _ _ st7 b L;exact (Ia.pin (b,o) (Xc _ (Xc _ (ip L e)))).2.1
   cases ok with
   | false =>
    rw [acX nE] at q9 ⊢;exact again I9 q9
   | true =>
    rw [acW rfl] at q9 ⊢;have I9':=I9;rw [<- hX] at I9';rw [<- eP,<- eW,<- eA,<- eE];refine XC (he { s with heap:=h2 } _ _ s9 σ8 H9 _ _ I3 hfp3 (fun b L=>let ⟨o,e,d⟩:=T.obj _ _ st7 b L;⟨o,ip L e⟩) I9' q9) (fun y sb ⟨vb,Hb,Ib',rb,xs,hx,hz,nb⟩=>?_) fun _ _ z=>z;have Ib:Inv Y ([]++re fp s7.heap) σ8 Hb sb:=by rw [<- hX];exact Ib'
    rw [eP,eW,eA];refine XC (yT (X:=Y) _ sb σ8 Hb (.ref s.heap.objs.size) [vb] (.ref s.heap.objs.size) [y] (fun v H'=>M σ8 H') Ib rfl (.cons rb .nil) ⟨s.heap.objs.size,xs,vb,rfl,rfl,hx,hz,nb⟩) (fun _ sc ⟨vc,Hc,Ic,rc,nc⟩=>?_) fun e s' z=>(never e s' z).elim;exact again Ic nc
 exact codeAny_compStart_list (fin _ rfl (by walk_at "tok")) (T.self _ 0 _ _ _ (T.keep _ _ _ st fun b L o e=>hk1 b o (old b o e)) (fin _ rfl (by walk_at "tok")))
def Kr (S:CScope osc ON N ix scope) (hE:X.env.scope=osc) (hO:X.N=ON) (hc:X.calm=true) (hi:PI X tg iter wi) (hg:∀ b,PG (u4 X N scope b) tg g) (ht:∀ b,QR (u4 X N scope b) ifs tt) (he:∀ b,PE (u4 X N scope b) elt te)
  (hs:∀ x,X5 iter X.env x=pure x:=by intro _;rfl):PE X (.ListComp elt [⟨tg,iter,ifs,0⟩] scope pos) (E6 ix wi g tt te):=by
 intro af s Z H Q I h;rw [eval_ListComp];have L:∀ y∈scope.names,y.2=.free->∃ c,X.env.cells.lookup y.1=some c:=fun y hy e=>I.ok.has y.1 (by subst hE;exact S.outs y hy e);refine wpAny_comprehension_free (use:=none) rfl hs (oA L) S.kind S.names (dg (hi af s Z H _ I h) fun v s1 h1=>dg h1 fun itv s2 h2=>?_);obtain ⟨it,fp,tn,J,H2,e,I2,T,Y,f2,q⟩:=h2;subst e;refine yJ (RR:=fun acc C=>compPost (Xa X.prog X.w) X.A X.xe none (EP X af Z Q) acc C) S hE hO hc hg ht (fun s0 H0 pl s' σ' H' Q' acc _ _ _ I' q'=>XC (he _ _ s' σ' H' Q' I' q') (fun _ _ z=>z) fun _ _ z=>z.elim) I2 T Y f2 q fun acc C H' s' I' hn hC fC q'=>?_;obtain ⟨m,hn⟩:=hn;refine ⟨m,hn,fun h' sb=>⟨.ref acc,H',?_,rfl,q'⟩⟩;obtain ⟨f0,f1,f2',f3,f4,f5⟩:=fC;exact I'.turned (t':=s'.toks) (fun b o hb e=>(sb.2 b hb).trans e) f0 f1 f3 f4 f5
def Ds (hN:X.N.Nodup) (hx:X.N[i]?=some x) (hl:Bv X.env.scope x) (S:CScope osc ON N ix scope) (hE:X.env.scope=osc) (hO:X.N=ON) (hc:X.calm=true) (hi:PI X tg iter wi) (hg:∀ b,PG (u4 X N scope b) tg g) (ht:∀ b,QR (u4 X N scope b) ifs tt) (he:∀ b,PE (u4 X N scope b) elt te)
  (hsw:Zf (.ListComp elt [⟨tg,iter,ifs,0⟩] scope pos) (some (.Name x pos')) spos.line X.env=pure true:=by rfl)
  (hf:X.fn x=true\/X.env.scope.names.lookup x=some .local:=by walk_at"u")
  (hs:∀ x,X5 iter X.env x=pure x:=by intro _;rfl):PS X (.Assign [.Name x pos'] (.ListComp elt [⟨tg,iter,ifs,0⟩] scope pos) spos) (x8 (E6 ix wi g tt te) (lw i)):=by
 intro af s Z H D I h;rw [exec_Assign_Name_used _ _ _ _ hsw];refine bY (wpAny_standAt (bY ?_));have L:∀ y∈scope.names,y.2=.free->∃ c,X.env.cells.lookup y.1=some c:=fun y hy e=>I.ok.has y.1 (by subst hE;exact S.outs y hy e);show RW _ X.A (do let _ <- comprehension (.ListComp elt [⟨tg,iter,ifs,0⟩] scope pos) scope X.env _ (newList []) false (eval iter X.env) (some (assign (.Name x pos') X.env))) _ _ s;refine bY (XC (wpAny_comprehension_free (use:=some (assign (.Name x pos') X.env)) (Q:=fun _ s'=>SP X af D .next s') rfl hs (oA L) S.kind S.names
  (dg (hi af s Z H _ I h) fun v s1 h1=>dg h1 fun itv s2 h2=>?_)) (fun _ s' hq=>oR (oR hq)) fun _ _ e=>e)
 obtain ⟨it,fp,tn,J,H2,e,I2,T,st2,f2,q⟩:=h2;subst e;refine yJ (RR:=fun acc C=>compPost (Xa X.prog X.w) X.A X.xe (some (assign (.Name x pos') X.env)) (fun _ s'=>SP X af D .next s') acc C) S hE hO hc hg ht (fun s0 H0 pl s' σ' H' Q' acc _ _ _ I' q'=>XC (he _ _ s' σ' H' Q' I' q') (fun _ _ z=>z) fun _ _ z=>z.elim) I2 T st2 f2 q fun acc C H' s' I' hn hC fC q'=>?_;obtain ⟨m,hn⟩:=hn;have hob:∃ o,s'.heap.get? C=some o/\∀ v,o.data≠.cell v:=by
  obtain ⟨o,es,ep,ho,hd,_⟩:=hn;exact ⟨o,ho,fun v z=>by rw [hd] at z;cases z⟩
 have only:∀ b∈[C],b=C:=fun b Y=>by simpa using Y
 have I1:=I'.pinned (fp:=[C]) (fun b Y=>(only b Y) ▸ fC) (fun b Y=>(only b Y) ▸ hob);refine XC (Ee (pos:=pos') hN hx hl hf (af++re [C] s'.heap) s' Z H' (.ref acc) (.ref acc) D.nx I1 rfl q') (fun _ s'' ⟨σ2,H2,I2',q2⟩=>?_) fun _ _ z=>z;obtain ⟨o,ho,hd⟩:=hob;have pn:=I2'.pin (C,o) (Xc _ (Xc _ (ip (by simp) ho)));refine ⟨m,hn.at' fun o' e=>by rw [ho] at e;cases e;exact pn.1,fun h' sb=>⟨σ2,H2,?_,q2⟩⟩;obtain ⟨f0,f1,f2',f3,f4,f5⟩:=fC;exact I2'.unpinned.turned (t':=s''.toks) (fun b o Y e=>(sb.2 b Y).trans e) pn.2.1 f1 f3 f4 f5
end
def wV {P:Xh} {w:Xv} {K:aT} {tg:Yb} {it:Le} {n:Nat} {St:Nat->YG->Prop} {Pv:Nat->eQ->Prop} {J:It} (W:∀ A:Xs,A.handled=none->Walks P w A it [it] [it] n Pv St)
  (ob:∀ i h,St i h->∃ (o:Obj) (nm:String) (vs:Array eQ),h.get? it=some o/\o.cls=.type nm/\o.data=.fields vs/\["enumerate","zip","dict_itemiterator","dict_reverseitemiterator","odict_iterator","itertools.zip_longest","itertools.pairwise"].contains nm=false)
  (go:∀ i H,J.go i H->i < n) (yl:∀ i H u,J.go i H->Pv i u->∃ x,ba x u/\J.yld i H x H) (dn:∀ i h H,J.stop i H->St i h->St n h)
  (self:∀ (A:Xs) (i:Nat) (s:iF) (Q:ac5) (E:ac5),St i s.heap->Q (.ref it) s->RW (Xa P w) A (ab8 (.ref it)) Q E s):Turn P w K tg J [it] it St where
 mem:=by simp
 obj:=fun i h st b L=>by
  have e:b=it:=by simpa using L
  subst e;obtain ⟨o,nm,vs,h1,h2,h3,h4⟩:=ob i h st;exact ⟨o,h1,fun v z=>by rw [h3] at z;cases z⟩
 keep:=fun i h h' st k=>(W {} rfl).frame i h h' st fun b L o e=>k b L o e
 item:=by
  intro X hP hw hK hc i af s Z H E I hf st hg;subst hP hw hK;obtain ⟨f0,f1,f2,f3,f4,f5⟩:=hf it (by simp);refine bf I.tk ((W X.A (I.ok.hd hc)).item i s _ _ (go i H hg) st fun v h' tk hv Y kk htk=>?_);have I1:Inv X af Z H { s with heap:=h',toks:=tk }:=I.turned (fun b o L e=>kk b o (by simpa using L) e) f0 f1 f3 f4 f5;obtain ⟨x,rx,yx⟩:=yl i H v hg hv;obtain ⟨o,nm,vs,h1,h2,h3,h4⟩:=ob (i+1) h' Y;exact ⟨v,rfl,BN (s:={ s with heap:=h',toks:=tk }) h1 h2 h3 h4 ⟨x,H,I1,rx,yx,Y,fun b L=>(hf b L).1⟩⟩
 done:=by
  intro X hP hw hK hc i af s Z H E I hf st hg;subst hP hw hK;obtain ⟨f0,f1,f2,f3,f4,f5⟩:=hf it (by simp);exact bf I.tk ((W X.A (I.ok.hd hc)).done s _ _ (dn i s.heap H hg st) fun h' tk kk htk=>⟨rfl,I.turned (fun b o L e=>kk b o (by simpa using L) e) f0 f1 f3 f4 f5⟩)
 self:=self
def Rx (z:Str):It:=⟨fun i _=>i < z.length,fun i H x H'=>H'=H/\∃ c,z.cps[i]?=some c/\x=.str ⟨#[c]⟩,fun i _=>i=z.length⟩
def IM {H:Hp} (h:SignAt z i u):∃ x,ba x u/\(Rx z).yld i H x H:=by
 obtain ⟨c,t,e1,rfl⟩:=h;exact ⟨.str ⟨#[c]⟩,⟨t,rfl⟩,rfl,c,e1,rfl⟩
def CJ {P:Xh} {w:Xv} {K:aT} {tg:Yb} (it:Le) (z:Str) (t:Tok):Turn P w K tg (Rx z) [it] it (fun i h=>h.IsStrIter it "str_ascii_iterator" z t i) :=
 wV (n:=z.cps.size) (Pv:=SignAt z) (fun A J=>Walks.strAscii J it z t) (fun i h ⟨o,e,c,d⟩=>⟨o,_,_,e,c,d,by decide⟩) (fun i H h=>h) (fun i H u _ h=>IM h) (fun i h H e st=>by
  have L:i=z.cps.size:=e;rw [<- L];exact st) fun A i s Q E st h=>wpAny_pyIter_striter_ascii st h
def F0 {P:Xh} {w:Xv} {K:aT} {tg:Yb} (it:Le) (z:Str) (t:Tok):Turn P w K tg (Rx z) [it] it (fun i h=>h.IsStrIter it "str_iterator" z t i) :=
 wV (n:=z.cps.size) (Pv:=SignAt z) (fun A J=>Walks.strWide J it z t) (fun i h ⟨o,e,c,d⟩=>⟨o,_,_,e,c,d,by decide⟩) (fun i H h=>h) (fun i H u _ h=>IM h) (fun i h H e st=>by
  have L:i=z.cps.size:=e;rw [<- L];exact st) fun A i s Q E st h=>wpAny_pyIter_striter_wide st h
def MU (bs:List Bool):(YN bs.length).all (fun i=>(bs[i]?).getD true)=bs.all id:=by
 rw [ZN,XW,XW];constructor
 .intro h b hb;obtain ⟨i,hi,e⟩:=List.getElem_of_mem hb
  have:=h i (abF.mpr hi)
  rw [rW hi,e] at this;exact this
 .intro h i hi;have J:=abF.mp hi;rw [rW J];exact h _ (XX J)
section
variable {X:Cx}
def Q5 (K:aT) (xs:ac9) (H:Hp) (Q:VK):Prop:=match xs with
 | [.ref p]=>∃ bs:List Bool,il K H p (bs.map V.bl)/\Q (.bl (bs.all id)) H
 | _=>False
def sI (K:aT) (hc:X.calm=true) (hK:X.K=K:=by rfl):cg X (.builtin "all") (Q5 K):=by
 subst hK;intro af s Z H xs us Q I r h;unfold Q5 at h;split at h
 case h_2=>exact h.elim
 rename_i p;obtain ⟨bs,hq,q⟩:=h;obtain ⟨u,rfl,rx⟩:=mz r;cases rx;obtain ⟨its,Y,pl,hz⟩:=I.list hq;have hh:X.A.in1.handled=none:=I.ok.hd hc;refine bf I.tk (call_all_walk (wpAny_pyIter_list pl.isList ?_));have hne:p≠s.heap.objs.size:=by
  obtain ⟨o,ho,_⟩:=pl.isList;exact Xb (MK ho)
 refine ⟨s.heap.objs.size,[s.heap.objs.size,p],[s.heap.objs.size],its.toArray.size,_,_,fun i=>(bs[i]?).getD true,rfl,Walks.list hh _ p hne its.toArray,⟨⟨_,ID _ rfl,rfl,rfl⟩,Heap.IsList.push pl.isList _⟩,?_,?_⟩
 .intro i v s' Q' E' hv hQ';have J:its[i]?=some v:=by simpa using hv
  have hi:i < its.length:=(Xu.mp J).1;have L:=Y.length;rw [lE] at L;have hb:(bs.map V.bl)[i]?=some (V.bl bs[i]):=by
   rw [Xw,rW (by omega)];rfl
  obtain ⟨u,hu,ru⟩:=Y.get hb;rw [J] at hu;cases hu;cases ru;have hQ2:Q' bs[i] s':=by
   have e:(bs[i]?).getD true=bs[i]:=by rw [rW (by omega)];rfl
   rw [<- e];exact hQ'
  exact Y7 hQ2
 .intro h' tk hk;have I1:Inv X af Z H { s with heap:=s.heap.push { cls:=.type "list_iterator",data:=.fields #[.ref p,.int 0 0] } }:=I.kept (t':=s.toks) fun b o e=>dO _ e;have e1:(YN its.toArray.size).all (fun i=>(bs[i]?).getD true)=bs.all id:=by
   have L:=Y.length;rw [lE] at L;rw [Do,<- L];exact MU bs
  rw [e1];obtain ⟨f0,f1,f2,f3,f4,f5⟩:=I.fpOk (b:=s.heap.objs.size) (mK _) (I.hok.fresh (mK _));exact fun htk=>⟨.bl (bs.all id),H,I1.turned (fun b o hb e=>hk b o (by simpa using hb) e) f0 f1 f3 f4 f5,rfl,q⟩
end
def PE.imp {t t':TE} (h:PE X e t) (i:∀ Z H Q,t' Z H Q->t Z H Q):PE X e t':=fun af s Z H Q I q=>h af s Z H Q I (i Z H Q q)
def eZ.imp {f:eQ->eQ->Sem eQ} {r r':R2} (h:eZ X f r) (i:∀ x y H Q,r' x y H Q->r x y H Q):eZ X f r':=fun af s Z H x y v u Q I a b q=>h af s Z H x y v u Q I a b (i x y H Q q)
def MF.imp {f:eQ->Sem eQ} {r r':V->Hp->VK->Prop} (h:MF X f r) (i:∀ x H Q,r' x H Q->r x H Q):MF X f r':=fun af s Z H x v Q I a q=>h af s Z H x v Q I a (i x H Q q)
def cg.imp {r r':ac9->Hp->VK->Prop} (h:cg X f r) (i:∀ xs H Q,r' xs H Q->r xs H Q):cg X f r':=fun af s Z H xs us Q I a q=>h af s Z H xs us Q I a (i xs H Q q)
def Cu.imp {r r':R2} (h:Cu X r) (i:∀ x y H Q,r' x y H Q->r x y H Q):Cu X r':=fun value J af s Z H x y v u Q I rx L q Y=>h value J af s Z H x y v u Q I rx L (i x y H Q q) Y
def Bm.imp {r r':V->Option Int->Option Int->Hp->VK->Prop} (h:Bm X r) (i:∀ x l u H Q,r' x l u H Q->r x l u H Q):Bm X r':=fun af s Z H x v vl J lo hi sl Q I rx hs Y L q=>h af s Z H x v vl J lo hi sl Q I rx hs Y L (i x lo hi H Q q)
section
variable {X:Cx} {a b:Yb} {ta tb:TE} {pos:Pos} {rest:List Yb}
def zF (o:Option (Option V)) (H:Hp) (Q:VK):Prop:=match o with
 | some (some v)=>Q v H
 | _=>False
def xc (i:Nat):TE:=fun Z H Q=>zF Z[i]? H Q
def qv (i:Nat) (L:X.N[i]?=some x:=by rfl) (Y:Cz X.env.scope x:=by walk_at"v") (hd:adb x:=by decide)
  (J:(x==("__classdict__":Str))=false:=by decide):PE X (.Name x pos) (xc i):=(IG L Y hd J).imp fun Z H Q q=>by
 unfold xc zF at q;split at q
 .rename_i v e;exact ⟨v,e,q⟩
 .exact q.elim
def Ws (tb:TE) (Z:St) (Q:VK):VK:=fun x H1=>match x with
 | .bl c=>if c=true then tb Z H1 Q else Q (.bl false) H1
 | _=>False
def Sx (ta tb:TE):TE:=fun Z H Q=>ta Z H (Ws tb Z Q)
def kOr (tb:TE) (Z:St) (Q:VK):VK:=fun x H1=>match x with
 | .bl c=>if c=true then Q (.bl true) H1 else tb Z H1 Q
 | _=>False
def WS (ta tb:TE):TE:=fun Z H Q=>ta Z H (kOr tb Z Q)
def Wl (Q:VK):VK:=fun x H1=>match x with
 | .bl c=>Q (.bl (!c)) H1
 | _=>False
def Sw (ta:TE):TE:=fun Z H Q=>ta Z H (Wl Q)
def Re (ha:PE X a ta) (L:PE X (.BoolOp .And (b::rest) pos) tb):PE X (.BoolOp .And (a::b::rest) pos) (Sx ta tb):=by
 intro af s Z H Q I h;refine BoolOp_and (dg (ha af s Z H _ I h) fun v s1 Y=>n6 Y fun x H1 J r1 q1=>?_);cases x with
 | bl c =>
  cases r1;refine Y7 ?_;cases c with
  | true=>exact L af s1 Z H1 Q J q1
  | false=>exact ⟨.bl false,H1,J,rfl,q1⟩
 | _=>exact q1.elim
def S6 (ha:PE X a ta) (L:PE X (.BoolOp .Or (b::rest) pos) tb):PE X (.BoolOp .Or (a::b::rest) pos) (WS ta tb):=by
 intro af s Z H Q I h;refine BoolOp_or (dg (ha af s Z H _ I h) fun v s1 Y=>n6 Y fun x H1 J r1 q1=>?_);cases x with
 | bl c =>
  cases r1;refine Y7 ?_;cases c with
  | false=>exact L af s1 Z H1 Q J q1
  | true=>exact ⟨.bl true,H1,J,rfl,q1⟩
 | _=>exact q1.elim
def Ps (Y:PE X a ta):PE X (.UnaryOp .Not a pos) (Sw ta):=by
 intro af s Z H Q I h;refine UnaryOp_ (dg (Y af s Z H _ I h) fun v s1 J=>n6 J fun x H1 L r1 q1=>?_);cases x with
 | bl c =>
  cases r1;exact not_of (Y7 ⟨.bl (!c),H1,L,rfl,q1⟩)
 | _=>exact q1.elim
def NU (Q:Bool->Hp->Prop):VK:=fun x H'=>match x with
 | .bl k=>Q k H'
 | _=>False
def N4 (t:TE):TT:=fun Z H Q=>t Z H (NU Q)
def Mg {r:R2} (Y:eZ X (Xn op) r) (ha:PE X a ta) (hb:PE X b tb) (hm:YK op b=false):PT X (.Compare a [op] [b] pos) (N4 (Dv r ta tb)):=by
 intro af s Z H Q I h;refine wpAny_isTrue_Compare1 (dg (ha af s Z H _ I h) fun v s1 J=>n6 J fun x H1 I1 r1 q1=>dg (hb af s1 Z H1 _ I1 q1) fun u s2 J=>n6 J fun y H2 I2 r2 q2 =>
  dg (Y af s2 Z H2 x y v u _ I2 r1 r2 q2) fun c s3 J=>n6 J fun z H3 L r3 q3=>?_) hm
 cases z with
 | bl k =>
  cases r3;exact Y7 ⟨H3,L,q3⟩
 | _=>exact q3.elim
def V4 (K:aT) (Q:Bool->Hp->Prop):VK:=fun x H=>match x with
 | .non=>Q false H
 | .bl b=>Q b H
 | .int i=>Q (i != 0) H
 | .str y=>y.length<=Xd/\Q ((y.length:Int) != 0) H
 | .ref p=>((∃ xs,il K H p xs/\Q (!xs.isEmpty) H)\/(∃ xs,l6 K H p xs/\Q (!xs.isEmpty) H))\/∃ kvs,H p=some (.dK kvs)/\Q (!kvs.isEmpty) H
 | _=>False
def IW (K:aT) (ta:TE):TT:=fun Z H Q=>ta Z H (V4 K Q)
def Kx (K:aT) (ha:PE X a ta) (he:∀ J,isTrue a X.env J=(do let v <- J;abv a.pos;holding [v] (truthy v))) (L:X.K=K:=by rfl) :
  PT X a (IW K ta):=by
 subst L;intro af s Z H Q I h;refine isTrue_plain (dg (ha af s Z H _ I h) fun v s1 hh=>n6 hh fun x H1 Y r1 q1=>Qd af s1 Z H1 x v Q Y r1 ?_) (he _);cases x with
 | non=>exact ⟨_,rfl,q1⟩
 | bl b=>exact ⟨_,rfl,q1⟩
 | int i=>exact ⟨_,rfl,q1⟩
 | str y=>exact ⟨_,⟨q1.1,rfl⟩,q1.2⟩
 | ref p =>
  rcases q1 with (⟨xs,h1,h2⟩|⟨xs,h1,h2⟩)|⟨xs,h1,h2⟩
  .exact ⟨_,.inl ⟨xs,h1,rfl⟩,h2⟩
  .exact ⟨_,.inr (.inl ⟨xs,h1,rfl⟩),h2⟩
  .exact ⟨_,.inr (.inr ⟨xs,h1,rfl⟩),h2⟩
 | _=>exact q1.elim
def O9:R2:=fun x y H Q=>match x,y with
 | .int i,.int j=>Q (.int (i - j)) H
 | _,_=>False
def OL:eZ X (YD .Sub) O9:=Px.imp fun x y H Q q=>by
 unfold O9 at q;split at q
 .exact ⟨_,_,rfl,rfl,q⟩
 .exact q.elim
def PU:R2:=fun x y H Q=>match x,y with
 | .int i,.int j=>Jt i j/\Q (.int (i/j)) H
 | _,_=>False
def Wv:eZ X (YD .FloorDiv) PU:=Nk.imp fun x y H Q q=>by
 unfold PU at q;split at q
 .exact ⟨_,_,rfl,rfl,q.1,q.2⟩
 .exact q.elim
def O6:R2:=fun x y H Q=>match x,y with
 | .int i,.int j=>0 < j/\Q (.int (i % j)) H
 | _,_=>False
def Wo:eZ X (YD .Mod) O6:=Qp.imp fun x y H Q q=>by
 unfold O6 at q;split at q
 .exact ⟨_,_,rfl,rfl,q.1,q.2⟩
 .exact q.elim
def OS:R2:=fun x y H Q=>match x,y with
 | .int i,.int j=>Il i j/\Q (.int (i ^ j.toNat)) H
 | _,_=>False
def Pn:eZ X (YD .Pow) OS:=QE.imp fun x y H Q q=>by
 unfold OS at q;split at q
 .exact ⟨_,_,rfl,rfl,q.1,q.2⟩
 .exact q.elim
def QM (x:V) (H:Hp) (Q:VK):Prop:=match x with
 | .int i=>Q (.int (-i)) H
 | _=>False
def QN:MF X (unaryOp .USub) QM:=P3.imp fun x H Q q=>by
 unfold QM at q;split at q
 .exact ⟨_,rfl,q⟩
 .exact q.elim
def F7:eZ X (Xn .LtE) (fun x y H Q=>∃ i j,x=.str i/\y=.str j/\Q (.bl (!decide (j.cps.toList < i.cps.toList))) H):=by
 intro af s Z H x y v u Q I L J h;obtain ⟨i,j,rfl,rfl,q⟩:=h;obtain ⟨t,rfl⟩:=L;obtain ⟨t',rfl⟩:=J;exact P.le_str (bh I q rfl)
def GS:eZ X (Xn .GtE) (fun x y H Q=>∃ i j,x=.str i/\y=.str j/\Q (.bl (!decide (i.cps.toList < j.cps.toList))) H):=by
 intro af s Z H x y v u Q I L J h;obtain ⟨i,j,rfl,rfl,q⟩:=h;obtain ⟨t,rfl⟩:=L;obtain ⟨t',rfl⟩:=J;exact P.ge_str (bh I q rfl)
def Hh:eZ X (Xn .Gt) (fun x y H Q=>∃ i j,x=.str i/\y=.str j/\Q (.bl (decide (j.cps.toList < i.cps.toList))) H):=by
 intro af s Z H x y v u Q I L J h;obtain ⟨i,j,rfl,rfl,q⟩:=h;obtain ⟨t,rfl⟩:=L;obtain ⟨t',rfl⟩:=J;exact P.gt_str (bh I q rfl)
def Vr:R2:=fun x y H Q=>match x,y with
 | .int i,.int j=>Q (.bl (decide (i < j))) H
 | .str i,.str j=>Q (.bl (decide (i.cps.toList < j.cps.toList))) H
 | _,_=>False
def VQ:R2:=fun x y H Q=>match x,y with
 | .int i,.int j=>Q (.bl (decide (i<=j))) H
 | .str i,.str j=>Q (.bl (!decide (j.cps.toList < i.cps.toList))) H
 | _,_=>False
def VC:R2:=fun x y H Q=>match x,y with
 | .int i,.int j=>Q (.bl (decide (j < i))) H
 | .str i,.str j=>Q (.bl (decide (j.cps.toList < i.cps.toList))) H
 | _,_=>False
def Wf:R2:=fun x y H Q=>match x,y with
 | .int i,.int j=>Q (.bl (decide (j<=i))) H
 | .str i,.str j=>Q (.bl (!decide (i.cps.toList < j.cps.toList))) H
 | _,_=>False
def Lk:eZ X (Xn .Lt) Vr:=(Tn.or G3).imp fun x y H Q q=>by
 unfold Vr at q;split at q
 .exact .inl ⟨_,_,rfl,rfl,q⟩
 .exact .inr ⟨_,_,rfl,rfl,q⟩
 .exact q.elim
def US:eZ X (Xn .LtE) VQ:=(Si.or F7).imp fun x y H Q q=>by
 unfold VQ at q;split at q
 .exact .inl ⟨_,_,rfl,rfl,q⟩
 .exact .inr ⟨_,_,rfl,rfl,q⟩
 .exact q.elim
def VH:eZ X (Xn .Gt) VC:=(Uf.or Hh).imp fun x y H Q q=>by
 unfold VC at q;split at q
 .exact .inl ⟨_,_,rfl,rfl,q⟩
 .exact .inr ⟨_,_,rfl,rfl,q⟩
 .exact q.elim
def UW:eZ X (Xn .GtE) Wf:=(RN.or GS).imp fun x y H Q q=>by
 unfold Wf at q;split at q
 .exact .inl ⟨_,_,rfl,rfl,q⟩
 .exact .inr ⟨_,_,rfl,rfl,q⟩
 .exact q.elim
def Jp:eZ X (Xn .Is) (fun x y H Q=>∃ j,y=.bl j/\Q (.bl (decide (x=.bl j))) H):=by
 intro af s Z H x y v u Q I J L h;obtain ⟨j,rfl,q⟩:=h;cases L;cases x with
 | bl i=>cases J;exact Y0 rfl (bh I q (by cases i <;> cases j <;> rfl))
 | non=>cases J;exact Y0 rfl (bh I q (by simp))
 | int i=>obtain ⟨t,rfl⟩:=J;exact Y0 rfl (bh I q (by simp))
 | str i=>obtain ⟨t,rfl⟩:=J;exact Y0 rfl (bh I q (by simp))
 | byt i=>obtain ⟨t,rfl⟩:=J;exact Y0 rfl (bh I q (by simp))
 | flt i=>obtain ⟨t,rfl⟩:=J;exact Y0 rfl (bh I q (by simp))
 | ref i=>cases J;exact Y0 rfl (bh I q (by simp))
 | ty i=>cases J;exact Y0 rfl (bh I q (by simp))
def K3:V->V->Bool
 | .non,.non=>true
 | .bl i,.bl j=>i==j
 | _,_=>false
def U4:R2:=fun x y H Q=>match y with
 | .non=>Q (.bl (K3 x .non)) H
 | .bl j=>Q (.bl (K3 x (.bl j))) H
 | _=>False
def MM (x:V):decide (x=.non)=K3 x .non:=by cases x <;> simp [K3]
def QS (x:V) (j:Bool):decide (x=.bl j)=K3 x (.bl j):=by
 cases x with
 | bl i=>cases i <;> cases j <;> rfl
 | _=>simp [K3]
def SH:eZ X (Xn .Is) U4:=(Qg.or Jp).imp fun x y H Q q=>by
 unfold U4 at q;split at q
 .exact .inl ⟨rfl,by rw [MM];exact q⟩
 .exact .inr ⟨_,rfl,by rw [QS];exact q⟩
 .exact q.elim
def Rz (K:aT):R2:=fun x y H Q=>match x,y with
 | .str z,.int i=>∃ c,z.length<=Xd/\atI z.cps.toList i=some c/\Q (.str ⟨#[c]⟩) H
 | .ref p,.int i=>∃ xs v,(il K H p xs\/l6 K H p xs)/\atI xs i=some v/\Q v H
 | _,_=>False
def VX:Cu X (Rz X.K):=Pc.imp fun x y H Q q=>by
 unfold Rz at q;split at q
 .obtain ⟨c,h1,h2,J⟩:=q;exact .inr (.inr ⟨_,_,c,rfl,rfl,h1,h2,J⟩)
 .obtain ⟨xs,v,h1|h1,h2,J⟩:=q
  .exact .inl ⟨_,xs,_,v,rfl,rfl,h1,h2,J⟩
  .exact .inr (.inl ⟨_,xs,_,v,rfl,rfl,h1,h2,J⟩)
 .exact q.elim
def WP (K:aT) (J:X.K=K:=by rfl):Cu X (Rz K):=by
 subst J;exact VX
def M5 (K:aT) (xs:ac9) (H:Hp) (Q:VK):Prop:=match xs with
 | [.str y]=>y.length<=Xd/\Q (.int y.length) H
 | [.ref p]=>∃ ys,(il K H p ys\/l6 K H p ys)/\Q (.int ys.length) H
 | _=>False
def Se:cg X (.builtin "len") (M5 X.K):=(zE.or zT).imp fun xs H Q q=>by
 unfold M5 at q;split at q
 .exact .inl ⟨_,rfl,q.1,q.2⟩
 .obtain ⟨ys,h1,h2⟩:=q;exact .inr ⟨_,ys,rfl,h1,h2⟩
 .exact q.elim
def mJ (K:aT) (J:X.K=K:=by rfl):cg X (.builtin "len") (M5 K):=by
 subst J;exact Se
def Rl (xs:ac9) (H:Hp) (Q:VK):Prop:=match xs with
 | [.int i]=>Q (.int (if i < 0 then -i else i)) H
 | _=>False
def Vh:cg X (.builtin "abs") Rl:=HW.imp fun xs H Q q=>by
 unfold Rl at q;split at q
 .exact ⟨_,rfl,q⟩
 .exact q.elim
end
def aX:Yb->Bool
 | .Starred ..=>false
 | _=>true
def b8 (h:aX e=true):Xy (e::es) env=(false,eval e env)::Xy es env:=by
 cases e <;> first|rfl|cases h
def df:∀ {es:List Yb},es.all aX=true->(ZK pos (Xy es env)).any (·.1)=false
 | [],_=>rfl
 | e::es,h=>by
  rw [Yn,Xe] at h;rw [b8 h.1];have J:=df (env:=env) (pos:=pos) h.2;show (false||(ZK pos (Xy es env)).any (·.1))=false;rw [J];rfl
def Mz {te:TE} {t:TA} (L:PE X e te) (J:PA X es t) (hn:aX e=true:=by rfl):PA X (e::es) (yo te t):=MN L J (b8 hn)
section
variable {X:Cx} {x:Str} {p pos:Pos} {e:Yb} {es:List Yb} {t:TA} {id T:String} {r:ac9->Hp->VK->Prop}
def Vu (Y:cg X (.builtin id) r) (L:X.mg x=none) (hv:Xl x=some (.builtin id)) (ha:PA X (e::es) t) (hg:Gl X x:=by rfl) (h1:aX e=true:=by rfl) (h2:es.all aX=true:=by rfl) (hn:x≠"__name__":=by decide) (J:adb x:=by decide) :
  PE X (.Call (.Name x p) (e::es) [] pos) (Rt r t):=JR Y hg L hv ha hn J (b8 h1) (df h2)
def VW (Y:cg X (.type T) r) (L:X.mg x=none) (hv:Xl x=some (.type T)) (ha:PA X (e::es) t) (hg:Gl X x:=by rfl) (h1:aX e=true:=by rfl) (h2:es.all aX=true:=by rfl) (hn:x≠"__name__":=by decide) (J:adb x:=by decide) :
  PE X (.Call (.Name x p) (e::es) [] pos) (Rt r t):=He Y hg L hv ha hn J (b8 h1) (df h2)
end
def cL:Xl "len"=some (.builtin "len"):=by trivial
def zQ:Xl "all"=some (.builtin "all"):=by trivial
def OK:Xl "abs"=some (.builtin "abs"):=by trivial
def a8:Xl "isinstance"=some (.builtin "isinstance"):=by trivial
def qZ:Xl "str"=some (.type "str"):=by trivial
def IE:Xl "int"=some (.type "int"):=by trivial
def ER:Xl "bool"=some (.type "bool"):=by trivial
def vI:Xl "list"=some (.type "list"):=by trivial
def iZ:Xl "tuple"=some (.type "tuple"):=by trivial
def zP:Xl "dict"=some (.type "dict"):=by trivial
def QL:Xl "zip"=some (.type "zip"):=by trivial
def zG:Xl "enumerate"=some (.type "enumerate"):=by trivial
def Qj:Xl "set"=some (.type "set"):=by trivial
def Tj (J:X.mg x=none) (Y:Xl x=some (.type n)) (L:Gl X x:=by rfl) (hn:x≠"__name__":=by decide) (hd:adb x:=by decide):PE X (.Name x pos) (tC (.ty n)) :=
 LB (v:=.ty n) L J Y rfl hn hd
def kH (T C:String):Bool:=T==C||(T=="bool"&&C=="int")
def mY (C:String):Bool:=C=="str"||C=="int"||C=="bool"||C=="list"||C=="tuple"||C=="dict"
def kP {K:aT} {T C:String} (Y:T="NoneType"\/T="bool"\/T="int"\/T="str"\/T="list"\/T="tuple"\/T="dict") (L:mY C=true):YX K (.type T) (.type C)=some (kH T C):=by
 have J:C="str"\/C="int"\/C="bool"\/C="list"\/C="tuple"\/C="dict":=by
  unfold mY at L;simp only [Bool.or_eq_true,beq_iff_eq] at L;rcases L with ((((h|h)|h)|h)|h)|h <;> simp [h]
 rcases Y with h|h|h|h|h|h|h <;> subst h <;> rcases J with h|h|h|h|h|h <;> subst h <;> first|rfl|decide +kernel
section
variable {X:Cx}
def SS (Q:Option Int->Hp->Prop):VK:=fun x H1=>match x with
 | .int i=>Q (some i) H1
 | _=>False
def NN (t:TE):TO:=fun Z H Q=>t Z H (SS Q)
def Nd {te:TE} (h:PE X e te):PO X (some e) (NN te):=by
 intro af s Z H Q I hw;rw [evalPart_some];refine dg (h af s Z H _ I hw) fun u s1 L=>n6 L fun x H1 J r1 q1=>?_;cases x with
 | int i =>
  obtain ⟨t,rfl⟩:=r1;exact ⟨some i,H1,J,.int i t,q1⟩
 | _=>exact q1.elim
def oC (z:Str) (lo hi:Option Int):Str:=⟨((z.cps.toList.drop (HT.sIx z.length 0 lo)).take (HT.sIx z.length z.length hi - HT.sIx z.length 0 lo)).toArray⟩
def NM (v:Int) (n d:Nat):max 0 (min (if v < 0 then v+(n:Int) else v) (n:Int))=((HT.sIx n d (some v):Nat):Int):=by
 show _=(((if v < 0 then (v+(n:Int)).toNat else min v.toNat n):Nat):Int);by_cases J:v < 0
 .simp only [acW J];omega
 .simp only [acX J];omega
def loS (lo:Option Int) (n:Nat):(match lo with|none=>(0:Int)|some i=>max 0 (min (if i < 0 then i+(n:Int) else i) (n:Int)))=((HT.sIx n 0 lo:Nat):Int):=by
 cases lo with
 | none=>rfl
 | some v=>exact NM v n 0
def hiS (hi:Option Int) (n:Nat):(match hi with|none=>(n:Int)|some i=>max 0 (min (if i < 0 then i+(n:Int) else i) (n:Int)))=((HT.sIx n n hi:Nat):Int):=by
 cases hi with
 | none=>rfl
 | some v=>exact NM v n n
def Sh (lo hi:Option Int) (n:Nat):Yp lo hi 1 n=sliceRange ((HT.sIx n 0 lo:Nat):Int) ((HT.sIx n n hi:Nat):Int) 1:=by
 have h1:((1:Int) > 0)=True:=by simp
 simp only [Yp,h1,if_true];rw [<- loS,<- hiS];cases lo <;> cases hi <;> rfl
def VR (a b n:Nat) (L:a<=n) (J:b<=n):Yp (some (a:Int)) (some (b:Int)) 1 n=sliceRange (a:Int) (b:Int) 1:=by
 rw [Sh,HT.pY,HT.pY,ZT L,ZT J]
def Dr (z:Str) (lo hi:Option Int):Txt.slice z lo hi=oC z lo hi:=by
 have Y:=HT.Db z.length 0 (Xk _) lo;have L:=HT.Db z.length z.length (mK _) hi;unfold Txt.slice;rw [Sh,<- VR _ _ _ Y L];unfold oC;generalize HT.sIx z.length 0 lo=a at Y ⊢;generalize HT.sIx z.length z.length hi=b at L ⊢;by_cases J:a<=b
 .exact StrLaws.sliceText_nat z J L
 .have e:Yp (some (a:Int)) (some (b:Int)) 1 z.length=[]:=by
   have h1:((1:Int) > 0)=True:=by simp
   have n1:¬ ((a:Int) < 0):=by omega
   have n2:¬ ((b:Int) < 0):=by omega
   have e1:max (0:Int) (min (a:Int) (z.length:Int))=a:=by omega
   have e2:max (0:Int) (min (b:Int) (z.length:Int))=b:=by omega
   simp only [Yp,sliceRange,h1,if_true,acX n1,acX n2,e1,e2];rw [acX (by omega)];rfl
  have e0:b - a=0:=by omega
  rw [e,e0,abI];split
  .rename_i h;have hz:z.length=0:=by
    have h':0=z.length:=by simpa using h
    exact h'.symm
   apply Str.ext'
   show z.cps=#[];exact Array.eq_empty_of_size_eq_zero hz
  .rfl
def se (z:Str) (lo hi:Option Int):(oC z lo hi).length<=z.length:=by
 unfold oC;show (Array.size _)<=_;rw [Do,XH,Ya];simp [aby];omega
def OV:Bm X (fun x lo hi H Q=>∃ z,x=.str z/\z.length<=Xd/\Q (.str (oC z lo hi)) H):=by
 intro af s Z H x v vl vu lo hi sl Q I rx J pl pu h;obtain ⟨z,rfl,hz,q⟩:=h;obtain ⟨t,rfl⟩:=rx;have fin:∀ (l u:Option (Int×Tok)),l.map (·.1)=lo->u.map (·.1)=hi->s.heap.IsSlice sl l u none->RW (Xa X.prog X.w) X.A (aaQ (.str z t) (.ref sl)) (EP X af Z Q) X.xe s:=fun l u e1 e2 Y=>by
  refine bf I.tk (wpAny_getItem_str_slice Y rfl ?_);subst e1 e2;refine post_val_or_str ?_;have e:(if (((none:Option (Int×Tok)).map (·.1)).getD 1==1&&(slicePicked z l u none).length==z.length)=true then z else ⟨((slicePicked z l u none).filterMap (z.cps[·]?)).toArray⟩)=Txt.slice z (l.map (·.1)) (u.map (·.1)):=rfl;rw [e,Dr];exact ⟨IF (se _ _ _) hz,fun t' k htk=>⟨.str _,H,I.tok _,⟨t',rfl⟩,q⟩⟩
 refine ⟨"str",_,F.slot_str_getitem.lookup,typeIs_str s z t,?_⟩;cases pl with
 | none =>
  cases pu with
  | none=>exact fin none none rfl rfl J
  | int j L=>exact fin none (some (j,L)) rfl rfl J
 | int i ti =>
  cases pu with
  | none=>exact fin (some (i,ti)) none rfl rfl J
  | int j L=>exact fin (some (i,ti)) (some (j,L)) rfl rfl J
def Tq (K:aT) (x:V) (lo hi:Option Int) (H:Hp) (Q:VK):Prop:=match x with
 | .str z=>z.length<=Xd/\Q (.str (oC z lo hi)) H
 | .ref a=>(∃ xs,il K H a xs/\∀ p,H p=none->Q (.ref p) (upd H p (.lst (xY xs lo hi)))) \/
  ∃ xs,l6 K H a xs/\¬ (HT.sIx xs.length 0 lo=0/\HT.sIx xs.length xs.length hi=xs.length)/\∀ p,H p=none->Q (.ref p) (upd H p (.tup (xY xs lo hi)))
 | _=>False
def RM:Bm X (Tq X.K):=(OV.or (MD.or Pt)).imp fun x lo hi H Q q=>by
 unfold Tq at q;split at q
 .exact .inl ⟨_,rfl,q.1,q.2⟩
 .rcases q with ⟨xs,h1,h2⟩|⟨xs,h1,h2,J⟩
  .exact .inr (.inl ⟨_,xs,rfl,h1,h2⟩)
  .exact .inr (.inr ⟨_,xs,rfl,h1,h2,J⟩)
 .exact q.elim
def FZ (K:aT) (J:X.K=K:=by rfl):Bm X (Tq K):=by
 subst J;exact RM
variable {tg:Yb}
def kIt (K:aT) (R:It->Hp->Prop):VK:=fun x H1=>match x with
 | .str z=>R (Rx z) H1
 | .ref a=>((∃ xs,il K H1 a xs)/\R (V5 K a) H1)\/((∃ xs,l6 K H1 a xs)/\R (V8 K a) H1)
 | _=>False
def W3 (K:aT) (tl:TE):TI:=fun Z H R=>tl Z H (kIt K R)
def Qs (K:aT) {tl:TE} (hl:PE X l tl) (hK:X.K=K:=by rfl):PI X tg l (W3 K tl):=by
 subst hK;intro af s Z H R I h;refine dg (hl af s Z H _ I h) fun v s1 hh=>n6 hh fun x H1 J r1 q1=>?_;cases x with
 | str z =>
  obtain ⟨t,rfl⟩:=r1;have fp1:∀ b∈[s1.heap.objs.size],ib X af H1 b:=fun b L=>by
   have e:b=s1.heap.objs.size:=by simpa using L
   subst e;exact J.fpOk (mK _) (J.hok.fresh (mK _))
  cases ha:z.cps.all (· < 128)
  .refine wpAny_pyIter_wide ha ?_;exact ⟨s1.heap.objs.size,[s1.heap.objs.size],_,_,H1,rfl,J.kept (t':=s1.toks) fun b o e=>dO _ e,F0 _ z t,⟨_,ID _ rfl,rfl,rfl⟩,fp1,q1⟩
  .refine wpAny_pyIter_ascii ha ?_;exact ⟨s1.heap.objs.size,[s1.heap.objs.size],_,_,H1,rfl,J.kept (t':=s1.toks) fun b o e=>dO _ e,CJ _ z t,⟨_,ID _ rfl,rfl,rfl⟩,fp1,q1⟩
 | ref a =>
  cases r1;have fp1:∀ b∈[s1.heap.objs.size],ib X af H1 b:=fun b L=>by
   have e:b=s1.heap.objs.size:=by simpa using L
   subst e;exact J.fpOk (mK _) (J.hok.fresh (mK _))
  rcases q1 with ⟨⟨xs,Y⟩,q⟩|⟨⟨xs,Y⟩,q⟩
  .obtain ⟨its,rv,p,hz⟩:=J.list Y;refine wpAny_pyIter_list p.isList ?_;exact ⟨s1.heap.objs.size,[s1.heap.objs.size],_,_,H1,rfl,J.kept (t':=s1.toks) fun b o e=>dO _ e,GA a _,⟨_,ID _ rfl,rfl,rfl⟩,fp1,q⟩
  .obtain ⟨its,rv,p,hz⟩:=J.tuple Y;refine wpAny_pyIter_tuple (show s1.heap.IsTuple a its.toArray from p) ?_;exact ⟨s1.heap.objs.size,[s1.heap.objs.size],_,_,H1,rfl,J.kept (t':=s1.toks) fun b o e=>dO _ e,CM a _,⟨_,ID _ rfl,rfl,rfl⟩,fp1,q⟩
 | _=>exact q1.elim
def On (R:It->Hp->Prop):ac9->Hp->Prop:=fun vs H1=>match vs with
 | [.int j]=>(-(2 ^ 62)<=j/\j < 2 ^ 62)/\R (UV 0 j.toNat) H1
 | _=>False
def Ox (ta:TA):TI:=fun Z H R=>ta Z H (On R)
def GX {ta:TA} (L:Gl X "range") (hm:X.mg "range"=none) (ha:PA X [a] ta) (hs:Xy [a] X.env=[(false,eval a X.env)]:=by rfl):PI X tg (.Call (.Name "range" p) [a] [] pos) (Ox ta):=by
 intro af s Z H R I h;refine Call_ (m8 I L hm boot_range (Ym (dg (ha pos af s Z H _ I h) fun us s1 Y=>n6 Y fun vs H1 J r1 q1=>?_) hs rfl));unfold On at q1;split at q1
 .obtain ⟨⟨q2,q3⟩,q⟩:=q1;cases r1 with
  | cons r rr =>
   cases rr;obtain ⟨t,rfl⟩:=r;exact call_range_1 (Km J (by omega) (by omega) q2 q3 (by simpa using q))
 .exact q1.elim
def Vk (r:Str->ac9->Hp->VK->Prop) (z:Str) (Q:VK):ac9->Hp->Prop:=fun xs H2=>r z xs H2 Q
def kSM (r:Str->ac9->Hp->VK->Prop) (t:TA) (Z:St) (Q:VK):VK:=fun x H1=>match x with
 | .str z=>t Z H1 (Vk r z Q)
 | _=>False
def WI (r:Str->ac9->Hp->VK->Prop) (to:TE) (t:TA):TE:=fun Z H Q=>to Z H (kSM r t Z Q)
def UJ (X:Cx) (id:String) (r:Str->ac9->Hp->VK->Prop):Prop :=
 ∀ (af:ac4) (s:iF) (Z:St) (H:Hp) (z:Str) (t:Tok) (xs:ac9) (us:ac8) (Q:VK),Inv X af Z H s->br xs us->r z xs H Q ->
  RW (Xa X.prog X.w) X.A (call (.builtin id) (.str z t::us)) (EP X af Z Q) X.xe s
def RK {o e:Yb} {es:List Yb} {to:TE} {t:TA} {name:Str} {apos cpos:Pos} {id:String} {r:Str->ac9->Hp->VK->Prop} (slot:Slot "str" name id) (hty:typeOf (.builtin id)=pure (.type "method_descriptor")) (hm:UJ X id r) (ho:PE X o to) (ha:PA X (e::es) t)
  (Y:YE o name X.env (eval o X.env)=eval o X.env:=by rfl)
  (hfew:((ZK cpos (Xy (e::es) X.env)).all (fun x=>!x.1)&&(backToKw cpos (aa9 [] X.env)).all (fun x=>x.1.isSome)
   && decide ((e::es).length+([]:List abU).length+(if ([]:List abU).isEmpty then 0 else 1) < 30))=true:=by rfl)
  (L:(apos.endLine==cpos.line)=true:=by rfl) (hs:Xy (e::es) X.env=(false,eval e X.env)::Xy es X.env:=by rfl) (J:(ZK cpos (Xy es X.env)).any (·.1)=false:=by rfl) :
  PE X (.Call (.Attribute o name apos) (e::es) [] cpos) (WI r to t):=by
 intro af s Z H Q I h;refine wpAny_Call_method_late Y hfew L rfl (dg (ho af s Z H _ I h) fun v s1 hh=>n6 hh fun x H1 I1 r1 q1=>?_);cases x with
 | str z =>
  obtain ⟨tk,rfl⟩:=r1;refine ⟨"str",id,PySem.F.plainAttrs_str,slot,hty,typeIs_str s1 z tk,(fun _ e=>nomatch e),?_⟩
  have hA:=ha cpos af s1 Z H1 _ I1 q1;rw [hs] at hA ⊢;refine ZZ (by show (false||(ZK cpos (Xy es X.env)).any (·.1))=false;rw [J] <;> rfl) (aao ?_);exact dg hA fun us s2 hh=>n6 hh fun vs H2 I2 r2 q2=>hm af s2 Z H2 z tk vs us Q I2 r2 q2
 | _=>exact q1.elim
def JU (K:aT) (z:Str) (xs:ac9) (H:Hp) (Q:VK):Prop:=match xs with
 | [.ref p]=>∃ ys:ac3,il K H p (ys.map V.str)/\(ys.map (·.length)).sum+ys.length*z.length<=16777216/\Q (.str (abz z ys)) H
 | _=>False
def wI:∀ {ys:ac3} {us:ac8},br (ys.map V.str) us->StrsAre us ys
 | [],us,r=>by cases r;exact .nil
 | y::ys,us,r=>by
  cases r with
  | cons r J =>
   obtain ⟨t,rfl⟩:=r;exact .cons y t (wI J)
def Ls (K:aT) (L:X.K=K:=by rfl):UJ X "str.join" (JU K):=by
 subst L;intro af s Z H z t xs us Q I r h;unfold JU at h;split at h
 .obtain ⟨ys,hq,Y,q⟩:=h;obtain ⟨u,rfl,rx⟩:=mz r;cases rx;obtain ⟨its,J,p,hz'⟩:=I.list hq;exact bf I.tk (join_list p.isList (by simpa using wI J) Y fun t' k htk=>⟨.str (abz z ys),H,I.tok _,⟨t',rfl⟩,q⟩)
 .exact h.elim
end
structure Def (K:aT) (mg:ac6) (x:Str) (st:Yj) (ps:ac3) (f:Le) (fd:Xz):Prop where
 F:Fun K x x st f fd
 b:kg K fd ps []
 m:mg x=some (.ref f)
section
variable {X:Cx} {x:Str} {st:Yj} {ps:ac3} {f:Le} {fd:Xz} {j k:Nat} {sp:Sp} {p pos:Pos} {e:Yb} {es:List Yb} {t:TA}
def OE (sp:Sp) (t:TA):TE:=fun Z H Q=>t Z H fun vs H1=>sp vs H1 Q E0
def pc (D:Def X.K X.mg x st ps f fd) (G:FnOk X.prog X.w X.K X.mg X.base cQ j f fd ps sp) (hr:Room k X.A) (ha:PA X (e::es) t) (hj:j<=k:=by decide) (hg:Gl X x:=by rfl) (J:adb x:=by decide)
  (h1:aX e=true:=by rfl) (h2:es.all aX=true:=by rfl):PE X (.Call (.Name x p) (e::es) [] pos) (OE sp t):=by
 have he:Xy (e::es) X.env=(false,eval e X.env)::Xy es X.env:=b8 h1;have L:(ZK pos (Xy es X.env)).any (·.1)=false:=df h2;intro af s Z H Q I h;refine XR (iK I hg D.m ?_ J);refine ZP (h₀:=X.base) I.ok.mod.kin D.F.kp (dg (ha pos af s Z H _ I h) fun us s1 hh=>n6 hh fun vs H1 Y r q=>⟨Y.kIn,?_⟩) he L;exact IP (dvs:=[]) G (hr.mono hj) D.b .nil Ju Y r (by rw [XY];exact q)
end
def aU {H:Hp} (h:H p=none) (o:HO):az H (upd H p o):=fun b u q=>by rw [aM (bB q h)];exact q
def az.seqT {K:aT} {H H':Hp} {a:Le} {xs:ac9} (e:az H H') (h:l6 K H a xs):l6 K H' a xs:=by
 rcases h with (h|⟨o,h⟩)|h
 .exact .inl (.inl (e _ _ h))
 .exact .inl (.inr ⟨o,e _ _ h⟩)
 .exact .inr h
abbrev rC (z:Str):ac9:=z.cps.toList.map fun c=>V.str ⟨#[c]⟩
def E5 (a b:Str):(a++b).cps.toList=a.cps.toList++b.cps.toList:=by
 show (a.cps++b.cps).toList=_;exact Array.toList_append
theorem str_len (a:Str):a.length=a.cps.toList.length:=by simp [aby]
def N1:∀ (sep:Str) (ys:ac3),(Str.join sep ys).cps.toList=((ys.map (fun y:Str=>y.cps.toList)).intersperse sep.cps.toList).flatten
 | _,[]=>rfl
 | _,[x]=>by simp [Str.join]
 | sep,x::y::r=>by
  have J:=N1 sep (y::r);show ((x++sep)++Str.join sep (y::r)).cps.toList=_;rw [E5,E5,J];simp [Y3]
def FI (J:Str) (ys:ac3):(abz J ys).cps.toList=((ys.map (fun y:Str=>y.cps.toList)).intersperse J.cps.toList).flatten:=by
 show (Builtin.Str.glued J ys).cps.toList=_;rw [StrLaws.glued_eq_join,N1]
def ym {α:Type}:∀ (xs:List (List α)),(xs.intersperse []).flatten=xs.flatten
 | []=>rfl
 | [x]=>rfl
 | x::y::r=>by
  have J:=ym (y::r);rw [List.intersperse_cons_cons,aaX,aaX,J];rfl
def CZ (ys:ac3):(abz (XD "") ys).cps.toList=(ys.map (fun y:Str=>y.cps.toList)).flatten:=by
 rw [FI];have e:(XD "").cps.toList=[]:=by trivial
 rw [e,ym]
def DY (J:ac2):(abz (XD "") (J.map fun c=>(⟨#[c]⟩:Str))).cps.toList=J:=by
 rw [CZ,XU];induction J with
 | nil=>rfl
 | cons c r L =>
  rw [By,aaX,L];rfl
def FQ (J:ac2):((J.map fun c=>(⟨#[c]⟩:Str)).map (·.length)).sum=J.length:=by
 induction J with
 | nil=>rfl
 | cons c r L =>
  rw [By,By,List.sum_cons,L];show 1+r.length=r.length+1;omega
section
variable {K:aT} {Z:St} {H H1 H2:Hp} {Q:VK} {QB R':Bool->Hp->Prop} {ta tb te:TE} {tt uu:TT} {t tr:TA} {x y v:V} {xs vs:ac9} {r:R2} {c:Bool} {i j:Int}
def V0 (r:R2) (x:V) (Q:VK):VK:=fun y H2=>r x y H2 Q
def RP (r:R2) (tb:TE) (Z:St) (Q:VK):VK:=fun x H1=>tb Z H1 (V0 r x Q)
variable {z z':Str} {c':Bool} {p:Le}
end
structure JE (X:Cx) (e:Yb) (t:TE):Prop where
 out:PE X e t
structure JT (X:Cx) (e:Yb) (t:TT):Prop where
 out:PT X e t
structure JW (X:Cx) (e:Yb) (t:TT):Prop where
 out:PW X e t
structure JA (X:Cx) (es:List Yb) (t:TA):Prop where
 out:PA X es t
structure JS (X:Cx) (st:Yj) (t:TS):Prop where
 out:PS X st t
structure JB (X:Cx) (st:List Yj) (t:TS):Prop where
 out:D4 X st t
structure JG (X:Cx) (e:Yb) (t:TG):Prop where
 out:PG X e t
structure JGs (X:Cx) (es:List Yb) (t:Ht):Prop where
 out:R5 X es t
structure JI (X:Cx) (tg e:Yb) (t:TI):Prop where
 out:PI X tg e t
structure JO (X:Cx) (e:Option Yb) (t:TO):Prop where
 out:PO X e t
structure JTs (X:Cx) (es:List Yb) (t:TT):Prop where
 out:QR X es t
section
variable {X:Cx} {a b c e:Yb} {ta tb tc te:TE} {tA tB':TT} {pos:Pos} {rest es:List Yb} {t:TA}
def jv (i:Nat) (L:X.N[i]?=some x:=by rfl) (Y:Cz X.env.scope x:=by walk_at"v") (hd:adb x:=by decide)
  (J:(x==("__classdict__":Str))=false:=by decide):JE X (.Name x pos) (xc i):=⟨qv i L Y hd J⟩
def TB {i j pos}:JE X (.Constant (.int i) j pos) (tC (.int i)):=⟨O4⟩
def Wt {b j pos}:JE X (.Constant (.bool b) j pos) (tC (.bl b)):=⟨Ud⟩
def TW {j pos}:JE X (.Constant .none j pos) (tC .non):=⟨OY⟩
def TF {x j pos}:JE X (.Constant (.str x) j pos) (tC (.str x)):=⟨Ql⟩
def JL (J:X.mg x=some u) (r:ba v u) (Y:Gl X x:=by rfl) (L:adb x:=by decide):JE X (.Name x pos) (tC v):=⟨Fu Y J r L⟩
def VU (J:X.mg x=none) (Y:Xl x=some (.type n)) (L:Gl X x:=by rfl) (hn:x≠"__name__":=by decide) (hd:adb x:=by decide):JE X (.Name x pos) (tC (.ty n)):=⟨Tj J Y L hn hd⟩
def Vi {r:R2} (L:eZ X (YD op) r) (J:JE X a ta) (Y:JE X b tb):JE X (.BinOp a op b pos) (Dv r ta tb):=⟨SM L J.out Y.out⟩
def Vt {r:V->Hp->VK->Prop} (L:MF X (unaryOp op) r) (J:JE X a ta):JE X (.UnaryOp op a pos) (WK r ta):=⟨SN L J.out⟩
def Sq (J:JE X a ta):JE X (.UnaryOp .Not a pos) (Sw ta):=⟨Ps J.out⟩
def Sa {op} (h:JE X a ta):JE X (.BoolOp op [a] pos) ta:=⟨PQ h.out⟩
def SX (J:JE X a ta) (L:JE X (.BoolOp .And (b::rest) pos) tb):JE X (.BoolOp .And (a::b::rest) pos) (Sx ta tb):=⟨Re J.out L.out⟩
def UZ (J:JE X a ta) (L:JE X (.BoolOp .Or (b::rest) pos) tb):JE X (.BoolOp .Or (a::b::rest) pos) (WS ta tb):=⟨S6 J.out L.out⟩
def RJ {r:R2} (L:eZ X (Xn op) r) (ha:JE X a ta) (Y:JE X b tb) (J:YK op b=false):JE X (.Compare a [op] [b] pos) (Dv r ta tb):=⟨L7 L ha.out Y.out J⟩
def DZ {r:R2} (L:eZ X (Xn op) r) (ha:JE X a ta) (Y:JE X b tb) (J:YK op b=false):JT X (.Compare a [op] [b] pos) (N4 (Dv r ta tb)):=⟨Mg L ha.out Y.out J⟩
def Sz (Y:JT X c tA) (J:JE X a ta) (L:JE X b tb):JE X (.IfExp c a b pos) (WV tA ta tb):=⟨Ke Y.out J.out L.out⟩
def Ml (h:JW X a tA):JT X a tA:=⟨h.out.pt⟩
def Mx (J:JT X a tA):JW X (.BoolOp .And [a] pos) tA:=⟨NC J.out⟩
def OX (J:JT X a tA):JW X (.BoolOp .Or [a] pos) tA:=⟨Pm J.out⟩
def QH (J:JT X a tA) (L:JW X (.BoolOp .And (b::rest) pos) tB'):JW X (.BoolOp .And (a::b::rest) pos) (Tw tA tB'):=⟨PN J.out L.out⟩
def Tr (J:JT X a tA) (L:JW X (.BoolOp .Or (b::rest) pos) tB'):JW X (.BoolOp .Or (a::b::rest) pos) (WF tA tB'):=⟨Sb J.out L.out⟩
def OU (J:JT X a tA):JT X (.UnaryOp .Not a pos) (T2 tA):=⟨Qm J.out⟩
def Ko (K:aT) (L:JE X a ta) (Y:∀ J,isTrue a X.env J=(do let v <- J;abv a.pos;holding [v] (truthy v)):=by exact fun _=>rfl) (hK:X.K=K:=by rfl):JT X a (IW K ta):=⟨Kx K L.out Y hK⟩
def DV:JA X [] FK:=⟨Qc⟩
def Am (J:JE X e te) (L:JA X es t) (hn:aX e=true:=by rfl):JA X (e::es) (yo te t):=⟨Mz J.out L.out hn⟩
def Ui (h:JA X es t):JE X (.List es pos) (SJ t):=⟨Rb h.out⟩
def Sj {x1} (h:JA X es t):JE X (.Tuple es x1 pos) (R3 t):=⟨Pg h.out⟩
def zh:JE X (.Dict [] [] pos) JY:=⟨KA⟩
def Su {r:R2} (J:Cu X r) (ha:JE X a ta) (Y:JE X b tb) (L:sM b:=by exact fun _ _=>rfl):JE X (.Subscript a b pos) (Dv r ta tb):=⟨Sk J ha.out Y.out L⟩
def LV:JO X none EE:=⟨Ly⟩
def Lq (h:JE X e te):JO X (some e) (NN te):=⟨Nd h.out⟩
def M0 {r:V->Option Int->Option Int->Hp->VK->Prop} {lo hi:Option Yb} {tl th:TO} {p2:Pos} (Y:Bm X r) (J:JE X e te) (L:JO X lo tl) (hu:JO X hi th):JE X (.Subscript e (.Slice lo hi none p2) pos) (WD r te tl th):=⟨KH Y J.out L.out hu.out⟩
end
section
variable {X:Cx} {x:Str} {st:Yj} {ps:ac3} {f:Le} {fd:Xz} {j k:Nat} {sp:Sp} {p pos:Pos} {e:Yb} {es:List Yb} {t:TA} {id T:String} {r:ac9->Hp->VK->Prop}
def Rc (D:Def X.K X.mg x st ps f fd) (G:FnOk X.prog X.w X.K X.mg X.base cQ j f fd ps sp) (Y:Room k X.A) (ha:JA X (e::es) t) (hj:j<=k:=by decide) (L:Gl X x:=by rfl) (J:adb x:=by decide)
  (h1:aX e=true:=by rfl) (h2:es.all aX=true:=by rfl):JE X (.Call (.Name x p) (e::es) [] pos) (OE sp t):=⟨pc D G Y ha.out hj L J h1 h2⟩
def zd (Y:cg X (.builtin id) r) (L:X.mg x=none) (hv:Xl x=some (.builtin id)) (ha:JA X (e::es) t) (hg:Gl X x:=by rfl) (h1:aX e=true:=by rfl) (h2:es.all aX=true:=by rfl) (hn:x≠"__name__":=by decide) (J:adb x:=by decide) :
  JE X (.Call (.Name x p) (e::es) [] pos) (Rt r t):=⟨Vu Y L hv ha.out hg h1 h2 hn J⟩
def Ei (Y:cg X (.type T) r) (L:X.mg x=none) (hv:Xl x=some (.type T)) (ha:JA X (e::es) t) (hg:Gl X x:=by rfl) (h1:aX e=true:=by rfl) (h2:es.all aX=true:=by rfl) (hn:x≠"__name__":=by decide) (J:adb x:=by decide) :
  JE X (.Call (.Name x p) (e::es) [] pos) (Rt r t):=⟨VW Y L hv ha.out hg h1 h2 hn J⟩
end
section
variable {X:Cx} {o e:Yb} {es:List Yb} {to:TE} {t:TA} {name:Str} {apos cpos:Pos} {id:String}
def BE (h:es.all aX=true) (L:es.length < 29):((ZK pos (Xy es env)).all (fun x=>!x.1)&&(backToKw pos (aa9 [] env)).all (fun x=>x.1.isSome)
   && decide (es.length+([]:List abU).length+(if ([]:List abU).isEmpty then 0 else 1) < 30))=true:=by
 have h1:(ZK pos (Xy es env)).all (fun x=>!x.1)=true:=by
  have:=df (env:=env) (pos:=pos) h
  rw [acb] at this;rw [XW];intro x J
  have:=this x J
  simpa using this
 rw [h1];show (true&&true&&decide (es.length+0+0 < 30))=true;rw [acZ (by omega)];rfl
def Vx {r:Str->ac9->Hp->VK->Prop} (slot:Slot "str" name id) (hty:typeOf (.builtin id)=pure (.type "method_descriptor")) (hm:UJ X id r) (ho:JE X o to) (ha:JA X (e::es) t)
  (Y:YE o name X.env (eval o X.env)=eval o X.env:=by rfl) (L:(apos.endLine==cpos.line)=true:=by rfl) (h1:(e::es).all aX=true:=by rfl) (hl:(e::es).length < 29:=by decide) :
  JE X (.Call (.Attribute o name apos) (e::es) [] cpos) (WI r to t):=by
 have J:=h1;rw [Yn,Xe] at J;exact ⟨RK slot hty hm ho.out ha.out Y (BE h1 hl) L (b8 J.1) (df J.2)⟩
end
section
variable {X:Cx} {osc:Scope} {ON N:ac3} {ix:List (Option Nat)} {scope:Scope} {tg elt iter:Yb} {ifs:List Yb} {pos:Pos} {wi:TI} {g:TG} {tt:TT} {te:TE}
def MB:JTs X [] SK:=⟨Nf⟩
def Nu (h:JT X c tt):JTs X [c] tt:=⟨NK h.out⟩
def P0 (J:GM osc ON N ix scope=true) (hi:JI X tg iter wi) (Y:∀ b,JG (u4 X N scope b) tg g) (ht:∀ b,JTs (u4 X N scope b) ifs tt) (he:∀ b,JE (u4 X N scope b) elt te)
  (hE:X.env.scope=osc:=by rfl) (L:X.N=ON:=by rfl) (hc:X.calm=true:=by rfl) (hs:∀ x,X5 iter X.env x=pure x:=by intro _;rfl):JE X (.ListComp elt [⟨tg,iter,ifs,0⟩] scope pos) (E6 ix wi g tt te) :=
 ⟨Kr (NZ J) hE L hc hi.out (fun b=>(Y b).out) (fun b=>(ht b).out) (fun b=>(he b).out) hs⟩
def CQ (hN:X.N.Nodup) (hl:Bv X.env.scope x) (L:GM osc ON N ix scope=true) (hi:JI X tg iter wi) (hg:∀ b,JG (u4 X N scope b) tg g) (ht:∀ b,JTs (u4 X N scope b) ifs tt) (he:∀ b,JE (u4 X N scope b) elt te)
  (hx:X.N[i]?=some x:=by rfl) (hE:X.env.scope=osc:=by rfl) (Y:X.N=ON:=by rfl) (hc:X.calm=true:=by rfl)
  (J:Zf (.ListComp elt [⟨tg,iter,ifs,0⟩] scope pos) (some (.Name x pos')) spos.line X.env=pure true:=by rfl)
  (hf:X.fn x=true\/X.env.scope.names.lookup x=some .local:=by walk_at"u")
  (hs:∀ x,X5 iter X.env x=pure x:=by intro _;rfl):JS X (.Assign [.Name x pos'] (.ListComp elt [⟨tg,iter,ifs,0⟩] scope pos) spos) (x8 (E6 ix wi g tt te) (lw i)) :=
 ⟨Ds hN hx hl (NZ L) hE Y hc hi.out (fun b=>(hg b).out) (fun b=>(ht b).out) (fun b=>(he b).out) J hf hs⟩
def PH (K:aT) {tl:TE} (J:JE X l tl) (L:X.K=K:=by rfl):JI X tg l (W3 K tl):=⟨Qs K J.out L⟩
def GT {ta:TA} (J:X.mg "range"=none) (Y:JA X [a] ta) (L:Gl X "range":=by rfl) (hn:aX a=true:=by rfl):JI X tg (.Call (.Name "range" p) [a] [] pos) (Ox ta):=⟨GX L J Y.out (b8 hn)⟩
end
section
variable {X:Cx} {pos:Pos} {st:Yj} {rest:List Yj} {t u:TS} {e:Yb} {te:TE}
def Af (L:X.N.Nodup) (hi:X.N[i]?=some x) (J:Bv X.env.scope x) (hf:X.fn x=true\/X.env.scope.names.lookup x=some .local:=by walk_at"u"):JG X (.Name x pos) (lw i):=⟨Ee L hi J hf⟩
def LP:JGs X [] Tk:=⟨LA⟩
def Jq {t:TG} {u:Ht} (h1:JG X e t) (h2:JGs X es u)
  (J:(Yk (e::es) X.env).map (·.2)=assign e X.env::(Yk es X.env).map (·.2):=by rfl):JGs X (e::es) (Oo t u):=⟨Jn h1.out h2.out J⟩
def Pe (K:aT) {t:Ht} (h:JGs X es t) (L:X.calm=true:=by rfl)
  (hn:(Yk es X.env).length=n:=by rfl) (J:(Yk es X.env).findIdx? (·.1)=none:=by rfl) (Y:X.K=K:=by rfl):JG X (.Tuple es k pos) (Sg K n t):=by
 subst Y;exact ⟨Qy L h.out hn J⟩
def Jv:JB X [] J4:=⟨Ma⟩
def vG (h1:JS X st t) (h2:JB X rest u):JB X (st::rest) (PP t u):=⟨wD h1.out h2.out⟩
def zo (h1:JS X st t):JB X [st] t:=⟨Fc h1.out⟩
def Fv (L:JE X e te) (J:Zf e none pos.line X.env=pure false:=by rfl):JS X (.Expr e pos) (Ig te):=⟨MQ L.out J⟩
def Po (J:JE X e te):JS X (.Return (some e) pos) (S5 te):=⟨Q1 J.out⟩
def N0 {tc:TT} (Y:JT X c tc) (J:JB X a t) (L:JB X b u):JS X (.If c a b pos) (NL tc t u):=⟨Uw Y.out J.out L.out⟩
def Dd (J:X.N.Nodup) (Y:Bv X.env.scope x) (he:JE X e te) (hi:X.N[i]?=some x:=by rfl) (L:Zf e (some (.Name x pos')) pos.line X.env=pure false:=by rfl) (hf:X.fn x=true\/X.env.scope.names.lookup x=some .local:=by walk_at"u") :
  JS X (.Assign [.Name x pos'] e pos) (x8 te (lw i)):=⟨O3 J hi Y he.out L hf⟩
def C6 {g:TG} (Y:JE X e te) (J:JG X tg g) (L:swapsWithSole [tg] e pos.line X.env=pure false:=by rfl) (hw:swappedStores [tg] e X.env=pure none:=by rfl)
  (h1:(Yk [tg] X.env).map (·.2)=[assign tg X.env]:=by rfl):JS X (.Assign [tg] e pos) (x8 te g):=⟨OZ Y.out J.out L hw h1⟩
def Dp {to J:TE} {t:MI} (Y:JE X o to) (hi:JE X i J) (L:P9 X t)
  (ha:∀ v,assign (.Subscript o i pos) X.env v=(do
   let ov <- holding [v] (eval o X.env)
   let iv <- holding [v,ov] (eval i X.env)
   abv pos
   holding [v,ov,iv] (setItem ov iv v)
   release [v,ov,iv] []):=by intro _;rfl):JG X (.Subscript o i pos) (Gf to J t):=⟨Qn Y.out hi.out L ha⟩
def CA {wi:TI} {g:TG} {tb:TS} (Y:aaA (Xa X.prog X.w) X.A X.env X.xe) (hi:JI X tg iter wi) (J:JG X tg g) (hb:JB X body tb) (L:X.calm=true:=by rfl)
  (hs:∀ x,X5 iter X.env x=pure x:=by intro _;rfl):JS X (.For tg iter body [] pos) (OP wi g tb):=⟨Pi Y L hi.out J.out hb.out hs⟩
def HZ {tc:TT} {tb:TS} (L:aaA (Xa X.prog X.w) X.A X.env X.xe) (J:JT X c tc) (Y:JB X body tb):JS X (.While c body [] pos) (JN tc tb):=⟨Js L J.out Y.out⟩
end
section
variable {P:Xh} {w:Xv} {K:aT} {mg:ac6} {base:YG}
def Fun.okJ {x L:Str} {st:Yj} {f:Le} {fd:Xz} {N ps:ac3} {k:Nat} {sp:Sp} (F:Fun K x L st f fd) (S:FnScope N ps (au st)) (len:∀ vs H Q E,sp vs H Q E->vs.length=ps.length)
  (hbody:∀ (Y:eQ) (A:Xs) (J:List Env) (s:iF) (H:Hp) (vs:ac9) (Q:VK) (E:XK),Room k (A.deeper (abd L (au st) s.heap.objs.size f Y))->sp vs H Q E ->
   ∃ t,JB (vR cQ P w K mg base N L (au st) f Y A J s H E).nox (e9 st) t/\t { nx:=fun _ H'=>Q .non H',rt:=Q } (start N vs) H):FnOk P w K mg base cQ (k+1) f fd ps sp :=
 F.ok S len fun Y A J s H vs Q E hr h=>let ⟨t,h1,h2⟩:=hbody Y A J s H vs Q E hr h;⟨t,h1.out,h2⟩
end
def JE.imp {t t':TE} (h:JE X e t) (i:∀ Z H Q,t' Z H Q->t Z H Q):JE X e t':=⟨h.out.imp i⟩
def JT.imp {t t':TT} (h:JT X e t) (i:∀ Z H Q,t' Z H Q->t Z H Q):JT X e t':=⟨fun af s Z H Q I q=>h.out af s Z H Q I (i Z H Q q)⟩
def JW.imp {t t':TT} (h:JW X e t) (i:∀ Z H Q,t' Z H Q->t Z H Q):JW X e t':=⟨fun w af s Z H Q I q=>h.out w af s Z H Q I (i Z H Q q)⟩
def JA.imp {t t':TA} (h:JA X es t) (i:∀ Z H Q,t' Z H Q->t Z H Q):JA X es t':=⟨fun pos af s Z H Q I q=>h.out pos af s Z H Q I (i Z H Q q)⟩
def JS.imp {X:Cx} {st:Yj} {t t':TS} (h:JS X st t) (i:∀ D Z H,t' D Z H->t D Z H):JS X st t':=⟨fun af s Z H D I q=>h.out af s Z H D I (i D Z H q)⟩
def JB.imp {X:Cx} {st:List Yj} {t t':TS} (h:JB X st t) (i:∀ D Z H,t' D Z H->t D Z H):JB X st t':=⟨fun af s Z H D I q=>h.out af s Z H D I (i D Z H q)⟩
def JG.imp {t t':TG} (h:JG X e t) (i:∀ v Z H Q,t' v Z H Q->t v Z H Q):JG X e t':=⟨fun af s Z H v u Q I r q=>h.out af s Z H v u Q I r (i v Z H Q q)⟩
def JGs.imp {t t':Ht} (h:JGs X es t) (i:∀ v Z H Q,t' v Z H Q->t v Z H Q):JGs X es t':=⟨fun af s Z H v u Q I r q=>h.out af s Z H v u Q I r (i v Z H Q q)⟩
def JI.imp {t t':TI} (h:JI X tg e t) (i:∀ Z H R,t' Z H R->t Z H R):JI X tg e t':=⟨fun af s Z H R I q=>h.out af s Z H R I (i Z H R q)⟩
def JO.imp {t t':TO} (h:JO X e t) (i:∀ Z H Q,t' Z H Q->t Z H Q):JO X e t':=⟨fun af s Z H Q I q=>h.out af s Z H Q I (i Z H Q q)⟩
def JTs.imp {t t':TT} (h:JTs X es t) (i:∀ Z H Q,t' Z H Q->t Z H Q):JTs X es t':=⟨fun af s Z H Q I q=>h.out af s Z H Q I (i Z H Q q)⟩
inductive D where
 | non|bl (b:Bool)|int (i:Int)|str (x:Str)|ty (n:String)
 | lst (xs:List D)|tup (xs:List D)|dct (kvs:List (bC×D))|obj (x:Str) (fs:List (Str×D))
 /-- an exception that was caught,by its class's name;a class of the text -/
 | exn (x:Str)|cls (x:Str)
 /-- a list of which it is mY that it was laid anew (it may be changed) -/
 | lsm (xs:List D)
 /-- a dict that is not changed any more -/
 | dcf (kvs:List (bC×D))
abbrev ada:=List D
def F8 (a C:Le):HO:=.ext fun h=>∃ o vs,h.get? a=some o/\o.cls=.ref C/\o.dict=none/\o.data=.fields vs
section
variable (K:aT) (H:Hp)
mutual
def cS:D->V->Prop
 | .non,v=>v=.non
 | .bl b,v=>v=.bl b
 | .int i,v=>v=.int i
 | .str x,v=>v=.str x
 | .ty n,v=>v=.ty n
 | .lst ds,v=>∃ a xs,v=.ref a/\il K H a xs/\aJ ds xs
 | .tup ds,v=>∃ a xs,v=.ref a/\l6 K H a xs/\aJ ds xs
 | .dct ds,v=>∃ a xs,v=.ref a/\H a=some (.dK xs)/\cr ds xs
 | .obj x fs,v=>∃ a C dx xs,v=.ref a/\Xg K W9 x=some (some (.ref C))/\H a=some (.ins C dx xs)/\qS fs xs
 | .exn x,v=>∃ a C,v=.ref a/\Xg K W9 x=some (some (.ref C))/\H a=some (F8 a C)
 | .cls x,v=>∃ C,v=.ref C/\Xg K W9 x=some (some (.ref C))
 | .lsm ds,v=>∃ a xs,v=.ref a/\H a=some (.lst xs)/\aJ ds xs
 | .dcf ds,v=>∃ a o xs,v=.ref a/\H a=some (.frz o (.dK xs))/\cr ds xs
def aJ:ada->ac9->Prop
 | [],xs=>xs=[]
 | d::ds,xs=>∃ v vs,xs=v::vs/\cS d v/\aJ ds vs
def cr:List (bC×D)->List (bC×V)->Prop
 | [],xs=>xs=[]
 | (k,d)::ds,xs=>∃ v vs,xs=(k,v)::vs/\cS d v/\cr ds vs
def qS:List (Str×D)->List (Str×V)->Prop
 | [],xs=>xs=[]
 | (k,d)::ds,xs=>∃ v vs,xs=(k,v)::vs/\cS d v/\qS ds vs
end
end
def az.rd {H H':Hp} {a:Le} {u:HO} (s:az H H') (h:Rd H a u):Rd H' a u:=by
 rcases h with h|⟨o,h⟩
 .exact .inl (s _ _ h)
 .exact .inr ⟨o,s _ _ h⟩
section
variable {K:aT} {H H':Hp}
mutual
def cS.mono (s:az H H'):∀ {d:D} {v:V},cS K H d v->cS K H' d v
 | .non,_,h=>h
 | .bl _,_,h=>h
 | .int _,_,h=>h
 | .str _,_,h=>h
 | .ty _,_,h=>h
 | .lst ds,_,⟨a,xs,e,h1,h2⟩=>⟨a,xs,e,s.seq h1,aJ.mono s h2⟩
 | .tup ds,_,⟨a,xs,e,h1,h2⟩=>⟨a,xs,e,s.seqT h1,aJ.mono s h2⟩
 | .dct ds,_,⟨a,xs,e,h1,h2⟩=>⟨a,xs,e,s _ _ h1,cr.mono s h2⟩
 | .obj x ds,_,⟨a,C,dx,xs,e,h0,h1,h2⟩=>⟨a,C,dx,xs,e,h0,s _ _ h1,qS.mono s h2⟩
 | .exn _,_,⟨a,C,e,h1,h2⟩=>⟨a,C,e,h1,s _ _ h2⟩
 | .cls _,_,h=>h
 | .lsm ds,_,⟨a,xs,e,h1,h2⟩=>⟨a,xs,e,s _ _ h1,aJ.mono s h2⟩
 | .dcf ds,_,⟨a,o,xs,e,h1,h2⟩=>⟨a,o,xs,e,s _ _ h1,cr.mono s h2⟩
def aJ.mono (s:az H H'):∀ {d:ada} {v:ac9},aJ K H d v->aJ K H' d v
 | [],_,h=>h
 | d::ds,_,⟨v,vs,e,h1,h2⟩=>⟨v,vs,e,cS.mono s h1,aJ.mono s h2⟩
def cr.mono (s:az H H'):∀ {d:List (bC×D)} {v:List (bC×V)},cr K H d v->cr K H' d v
 | [],_,h=>h
 | (k,d)::ds,_,⟨v,vs,e,h1,h2⟩=>⟨v,vs,e,cS.mono s h1,cr.mono s h2⟩
def qS.mono (s:az H H'):∀ {d:List (Str×D)} {v:List (Str×V)},qS K H d v->qS K H' d v
 | [],_,h=>h
 | (k,d)::ds,_,⟨v,vs,e,h1,h2⟩=>⟨v,vs,e,cS.mono s h1,qS.mono s h2⟩
end
theorem aJ.len:∀ {ds:ada} {xs:ac9},aJ K H ds xs->ds.length=xs.length
 | [],_,h=>by cases h;rfl
 | d::ds,_,⟨v,vs,e,h1,h2⟩=>by subst e;simp [aJ.len h2]
def aJ.get:∀ {ds:ada} {xs:ac9} {i:Nat} {d:D},aJ K H ds xs->ds[i]?=some d->∃ v,xs[i]?=some v/\cS K H d v
 | [],_,_,_,_,e=>by simp at e
 | d::ds,_,0,_,⟨v,vs,e,h1,h2⟩,q=>by
  simp at q;subst q e;exact ⟨v,rfl,h1⟩
 | d::ds,_,i+1,_,⟨v,vs,e,h1,h2⟩,q=>by
  subst e;obtain ⟨u,L,J⟩:=aJ.get (i:=i) h2 (by simpa using q);exact ⟨u,by simpa using L,J⟩
def aJ.got:∀ {ds:ada} {xs:ac9} {i:Nat} {v:V},aJ K H ds xs->xs[i]?=some v->∃ d,ds[i]?=some d/\cS K H d v
 | [],_,_,_,h,e=>by cases h;simp at e
 | d::ds,_,0,_,⟨v,vs,e,h1,h2⟩,q=>by
  subst e;simp at q;subst q;exact ⟨d,rfl,h1⟩
 | d::ds,_,i+1,_,⟨v,vs,e,h1,h2⟩,q=>by
  subst e;obtain ⟨u,L,J⟩:=aJ.got (i:=i) h2 (by simpa using q);exact ⟨u,by simpa using L,J⟩
def aJ.nil:aJ K H [] []:=rfl
theorem aJ.cons {d:D} {ds:ada} {v:V} {xs:ac9} (h:cS K H d v) (t:aJ K H ds xs):aJ K H (d::ds) (v::xs):=⟨v,xs,rfl,h,t⟩
def aJ.append:∀ {ds es:ada} {xs ys:ac9},aJ K H ds xs->aJ K H es ys->aJ K H (ds++es) (xs++ys)
 | [],_,_,_,h,t=>by cases h;exact t
 | d::ds,_,_,_,⟨v,vs,e,h1,h2⟩,t=>by subst e;exact ⟨v,_,rfl,h1,aJ.append h2 t⟩
def aJ.take:∀ {ds:ada} {xs:ac9} (n:Nat),aJ K H ds xs->aJ K H (ds.take n) (xs.take n)
 | _,_,0,_=>by simp only [abI];exact rfl
 | [],_,n+1,h=>by cases h;exact rfl
 | d::ds,_,n+1,⟨v,vs,e,h1,h2⟩=>by subst e;exact ⟨v,_,rfl,h1,aJ.take n h2⟩
def aJ.drop:∀ {ds:ada} {xs:ac9} (n:Nat),aJ K H ds xs->aJ K H (ds.drop n) (xs.drop n)
 | _,_,0,h=>h
 | [],_,n+1,h=>by cases h;exact rfl
 | d::ds,_,n+1,⟨v,vs,e,h1,h2⟩=>by subst e;exact aJ.drop n h2
end
def aH (as:ac7) (H:Hp):Hp:=fun b=>if b∈as then none else H b
def cU {as:ac7} {H:Hp} {b:Le} (h:b∈as):aH as H b=none:=acW h
def aO {as:ac7} {H:Hp} {b:Le} (h:b∉as):aH as H b=H b:=acX h
def sv {H:Hp}:aH [] H=H:=by funext b;exact acX (by simp)
def ax (as:ac7) (H:Hp):az (aH as H) H:=fun b o e=>by
 unfold aH at e;split at e
 .cases e
 .exact e
def aW {as:ac7} {H H':Hp} (s:az H H'):az (aH as H) (aH as H'):=fun b o e=>by
 unfold aH at e ⊢;split at e
 .cases e
 .rename_i h;rw [acX h];exact s b o e
def mG (as bs:ac7) (H:Hp):aH (as++bs) H=aH bs (aH as H):=by
 funext b
 unfold aH;by_cases h1:b∈as <;> by_cases h2:b∈bs <;> simp [h1,h2]
def mf {as bs:ac7} {H:Hp} (h:∀ a∈bs,a∈as):az (aH as H) (aH bs H):=fun b o e=>by
 by_cases J:b∈as
 .rw [cU J] at e;cases e
 .rw [aO J] at e;rw [aO fun z=>J (h b z)];exact e
def Gx {as:ac7} {B H:Hp} (s:az B H) (h:∀ a∈as,B a=none):az B (aH as H):=fun b o e=>by
 have J:b∉as:=fun z=>by rw [h b z] at e;cases e
 rw [aO J];exact s b o e
inductive R (α:Type) where
 | ok (a:α)
 | er (x:Str)
 | no
def R.bind {α β:Type} (r:R α) (f:α->R β):R β:=match r with
 | .ok a=>f a
 | .er x=>.er x
 | .no=>.no
theorem aD {α β:Type} {a:α} {f:α->R β}:(R.ok a).bind f=f a:=rfl
def bind_assoc {α β J:Type} (r:R α) (f:α->R β) (g:β->R J):(r.bind f).bind g=r.bind fun a=>(f a).bind g:=by cases r <;> rfl
structure Wd where
 K:aT
 mg:Str->Option eQ
 E:XK
abbrev Sd:=List (Option D)
def cO (W:Wd) (as:ac7) (H:Hp) (r:R D) (Q:VK):Prop:=match r with
 | .ok d=>∀ v H',az H H'->cS W.K (aH as H') d v->Q v H'
 | .er x=>∀ e C H',az H H'->W.mg x=some (.ref C)->W.E e (some C) H'
 | .no=>False
def jA (W:Wd) (as:ac7) (H:Hp) (r:R (ada)) (Q:ac9->Hp->Prop):Prop:=match r with
 | .ok d=>∀ v H',az H H'->aJ W.K (aH as H') d v->Q v H'
 | .er x=>∀ e C H',az H H'->W.mg x=some (.ref C)->W.E e (some C) H'
 | .no=>False
def ig {α:Type} (W:Wd) (H:Hp) (r:R α) (Q:α->Hp->Prop):Prop:=match r with
 | .ok b=>∀ H',az H H'->Q b H'
 | .er x=>∀ e C H',az H H'->W.mg x=some (.ref C)->W.E e (some C) H'
 | .no=>False
def nY (K:aT) (H:Hp) (o:HO):D->Prop
 | .lst ds=>∃ xs,o=.lst xs/\aJ K H ds xs
 | .dct ds=>∃ xs,o=.dK xs/\cr K H ds xs
 | .obj x ds=>∃ C dx xs,o=.ins C dx xs/\Xg K W9 x=some (some (.ref C))/\qS K H ds xs
 | _=>False
def iS (W:Wd) (as:ac7) (H:Hp) (r:R D) (Q:VK):Prop:=match r with
 | .ok d=>∀ p o H',az H H'->H p=none->H' p=some o->nY W.K (aH (p::as) H') o d->Q (.ref p) H'
 | .er x=>∀ e C H',az H H'->W.mg x=some (.ref C)->W.E e (some C) H'
 | .no=>False
def cO.mono {W:Wd} {as:ac7} {H H':Hp} {r:R D} {Q:VK} (h:cO W as H r Q) (s:az H H'):cO W as H' r Q:=by
 cases r with
 | ok d=>exact fun v H2 J=>h v H2 (s.trans J)
 | er x=>exact fun e C H2 J=>h e C H2 (s.trans J)
 | no=>exact h
def iS.mono {W:Wd} {as:ac7} {H H':Hp} {r:R D} {Q:VK} (h:iS W as H r Q) (s:az H H'):iS W as H' r Q:=by
 cases r with
 | ok d=>exact fun p o H2 J L=>h p o H2 (s.trans J) (s.free L)
 | er x=>exact fun e C H2 J=>h e C H2 (s.trans J)
 | no=>exact h
def jA.mono {W:Wd} {as:ac7} {H H':Hp} {r:R (ada)} {Q:ac9->Hp->Prop} (h:jA W as H r Q) (s:az H H'):jA W as H' r Q:=by
 cases r with
 | ok d=>exact fun v H2 J=>h v H2 (s.trans J)
 | er x=>exact fun e C H2 J=>h e C H2 (s.trans J)
 | no=>exact h
def ig.mono {α:Type} {W:Wd} {H H':Hp} {r:R α} {Q:α->Hp->Prop} (h:ig W H r Q) (s:az H H'):ig W H' r Q:=by
 cases r with
 | ok d=>exact fun H2 J=>h H2 (s.trans J)
 | er x=>exact fun e C H2 J=>h e C H2 (s.trans J)
 | no=>exact h
def nY.den {K:aT} {H:Hp} {p:Le} {as:ac7} {o:HO} {d:D} (hp:p∉as) (e:H p=some o) (h:nY K (aH (p::as) H) o d):cS K (aH as H) d (.ref p):=by
 have s:az (aH (p::as) H) (aH as H):=mf fun a L=>lT _ L;have J:aH as H p=some o:=by rw [aO hp];exact e
 cases d with
 | lst ds=>obtain ⟨xs,rfl,h⟩:=h;exact ⟨p,xs,rfl,.inl (.inl J),h.mono s⟩
 | dct ds=>obtain ⟨xs,rfl,h⟩:=h;exact ⟨p,xs,rfl,J,h.mono s⟩
 | obj x ds=>obtain ⟨C,dx,xs,rfl,Y,h⟩:=h;exact ⟨p,C,dx,xs,rfl,Y,J,h.mono s⟩
 | _=>exact h.elim
structure DI (K:aT) (as0:ac7) (B:Hp) (O:ac2) (own:ac7) (Z:St) (U:Sd) (H:Hp):Prop where
 len:U.length=Z.length
 olen:own.length=O.length
 nd:own.Nodup
 ond:O.Nodup
 fresh:∀ a∈own,B a=none
 ex0:∀ a∈as0,B a≠none
 same:az B H
 var:∀ i d,i∉O->U[i]?=some (some d)->∃ v,Z[i]?=some (some v)/\cS K (aH (own++as0) H) d v
 owns:∀ i a,(i,a)∈O.zip own->∃ d o,U[i]?=some (some d)/\Z[i]?=some (some (.ref a))/\H a=some o/\nY K (aH (own++as0) H) o d
section
variable {K:aT} {as0 own:ac7} {B H H':Hp} {O:ac2} {Z:St} {U:Sd}
def nY.mono {o:HO} {d:D} (s:az H H') (h:nY K H o d):nY K H' o d:=by
 cases d with
 | lst ds=>obtain ⟨xs,rfl,h⟩:=h;exact ⟨xs,rfl,h.mono s⟩
 | dct ds=>obtain ⟨xs,rfl,h⟩:=h;exact ⟨xs,rfl,h.mono s⟩
 | obj x ds=>obtain ⟨C,dx,xs,rfl,J,h⟩:=h;exact ⟨C,dx,xs,rfl,J,h.mono s⟩
 | _=>exact h.elim
def yt:∀ {O:ac2} {own:ac7} {a:Le},own.length=O.length->a∈own->∃ i,(i,a)∈O.zip own
 | [],[],_,_,h=>by cases h
 | i::O,b::own,a,l,h=>by
  rcases iN.mp h with rfl|h
  .exact ⟨i,W6⟩
  .obtain ⟨j,hj⟩:=yt (O:=O) (own:=own) (by simpa using l) h;exact ⟨j,lT _ hj⟩
 | [],_::_,_,l,_=>by simp at l
 | _::_,[],_,_,h=>by cases h
def DI.exi (I:DI K as0 B O own Z U H):∀ a∈own++as0,H a≠none:=fun a J=>by
 rcases DO.mp J with h|h
 .obtain ⟨i,hi⟩:=yt I.olen h;obtain ⟨d,o,_,_,e,_⟩:=I.owns i a hi;rw [e];simp
 .cases e:B a with
  | none=>exact absurd e (I.ex0 a h)
  | some o=>rw [I.same a o e];simp
def DI.new (I:DI K as0 B O own Z U H) {p:Le} (h:H p=none):p∉own++as0:=fun z=>I.exi p z h
def DI.mono (I:DI K as0 B O own Z U H) (s:az H H'):DI K as0 B O own Z U H' :=
 ⟨I.len,I.olen,I.nd,I.ond,I.fresh,I.ex0,I.same.trans s,fun i d hi e=>let ⟨v,h1,h2⟩:=I.var i d hi e;⟨v,h1,h2.mono (aW s)⟩,
  fun i a hi=>let ⟨d,o,h1,h2,h3,h4⟩:=I.owns i a hi;⟨d,o,h1,h2,s a o h3,h4.mono (aW s)⟩⟩
def DI.base {J:Hp} (I:DI K as0 J O own Z U H) (s:az B J) (h:∀ a∈as0,B a≠none):DI K as0 B O own Z U H :=
 ⟨I.len,I.olen,I.nd,I.ond,fun a L=>s.free (I.fresh a L),h,s.trans I.same,I.var,I.owns⟩
def DI.rebase (I:DI K as0 B O own Z U H) (L:∀ a∈own,a∉as0):DI K as0 (aH own H) O own Z U H :=
 ⟨I.len,I.olen,I.nd,I.ond,fun a J=>cU J,fun a J=>(by
  rw [aO fun z=>L a z J];cases e:B a with
  | none=>exact absurd e (I.ex0 a J)
  | some o=>rw [I.same a o e];simp),ax _ _,I.var,I.owns⟩
def DI.apart (I:DI K as0 B O own Z U H):∀ a∈own,a∉as0:=fun a J z=>I.ex0 a z (I.fresh a J)
def DI.baseIn (I:DI K as0 B O own Z U H):az B (aH own H):=Gx I.same I.fresh
end
abbrev FE:=Sd->R D
abbrev FT:=Sd->R Bool
abbrev FA:=Sd->R (ada)
def tD (W:Wd) (O:ac2) (φ:FE):TE:=fun Z H Q=>∃ as0 B own U,DI W.K as0 B O own Z U H/\cO W (own++as0) H (φ U) Q
def tN (W:Wd) (O:ac2) (φ:FE):TE:=fun Z H Q=>∃ as0 B own U,DI W.K as0 B O own Z U H/\iS W (own++as0) H (φ U) Q
def rS (W:Wd) (O:ac2) (φ:FT):TT:=fun Z H Q=>∃ as0 B own U,DI W.K as0 B O own Z U H/\ig W H (φ U) Q
def xG (W:Wd) (O:ac2) (φ:FA):TA:=fun Z H Q=>∃ as0 B own U,DI W.K as0 B O own Z U H/\jA W (own++as0) H (φ U) Q
def UT (W:Wd) (O:ac2) (φ:Sd->R (Option Int)):TO:=fun Z H Q=>∃ as0 B own U,DI W.K as0 B O own Z U H/\ig W H (φ U) Q
section
variable {W:Wd} {as:ac7} {H:Hp} {Q:VK}
def bZ {r:R D} {f:D->R D} {Q':VK} (h:cO W as H (r.bind f) Q) (q:∀ d v H',az H H'->cS W.K (aH as H') d v->cO W as H' (f d) Q->Q' v H'):cO W as H r Q':=by
 cases r with
 | ok d=>exact fun v H' s J=>q d v H' s J (cO.mono h s)
 | er x=>exact h
 | no=>exact h
def eI {r:R (ada)} {f:ada->R D} {Q':ac9->Hp->Prop} (h:cO W as H (r.bind f) Q) (q:∀ d v H',az H H'->aJ W.K (aH as H') d v->cO W as H' (f d) Q->Q' v H'):jA W as H r Q':=by
 cases r with
 | ok d=>exact fun v H' s J=>q d v H' s J (cO.mono h s)
 | er x=>exact h
 | no=>exact h
def i6 {r:R (ada)} {f:ada->R D} {Q':ac9->Hp->Prop} (h:iS W as H (r.bind f) Q) (q:∀ d v H',az H H'->aJ W.K (aH as H') d v->iS W as H' (f d) Q->Q' v H'):jA W as H r Q':=by
 cases r with
 | ok d=>exact fun v H' s J=>q d v H' s J (iS.mono h s)
 | er x=>exact h
 | no=>exact h
def rD {α:Type} {r:R α} {f:α->R D} {Q':α->Hp->Prop} (h:cO W as H (r.bind f) Q) (q:∀ d H',az H H'->cO W as H' (f d) Q->Q' d H'):ig W H r Q':=by
 cases r with
 | ok d=>exact fun H' s=>q d H' s (cO.mono h s)
 | er x=>exact h
 | no=>exact h
def gf {α:Type} {r:R D} {f:D->R α} {Q:α->Hp->Prop} {Q':VK} (h:ig W H (r.bind f) Q) (q:∀ d v H',az H H'->cS W.K (aH as H') d v->ig W H' (f d) Q->Q' v H'):cO W as H r Q':=by
 cases r with
 | ok d=>exact fun v H' s J=>q d v H' s J (ig.mono h s)
 | er x=>exact h
 | no=>exact h
def pd {α β:Type} {r:R α} {f:α->R β} {Q:β->Hp->Prop} {Q':α->Hp->Prop} (h:ig W H (r.bind f) Q) (q:∀ d H',az H H'->ig W H' (f d) Q->Q' d H'):ig W H r Q':=by
 cases r with
 | ok d=>exact fun H' s=>q d H' s (ig.mono h s)
 | er x=>exact h
 | no=>exact h
def Dg {r:R D} {f:D->R (ada)} {Q:ac9->Hp->Prop} {Q':VK} (h:jA W as H (r.bind f) Q) (q:∀ d v H',az H H'->cS W.K (aH as H') d v->jA W as H' (f d) Q->Q' v H'):cO W as H r Q':=by
 cases r with
 | ok d=>exact fun v H' s J=>q d v H' s J (jA.mono h s)
 | er x=>exact h
 | no=>exact h
def Cn {r:R (ada)} {f:ada->R (ada)} {Q Q':ac9->Hp->Prop} (h:jA W as H (r.bind f) Q) (q:∀ d v H',az H H'->aJ W.K (aH as H') d v->jA W as H' (f d) Q->Q' v H'):jA W as H r Q':=by
 cases r with
 | ok d=>exact fun v H' s J=>q d v H' s J (jA.mono h s)
 | er x=>exact h
 | no=>exact h
end
section
variable {X:Cx} {W:Wd} {O:ac2} {a b c e:Yb} {φ ψ χ:FE} {pos:Pos} {rest es:List Yb} {α:FA}
def ai (i:Nat):FE:=fun U=>match U[i]? with
 | some (some d)=>.ok d
 | _=>.no
def vC (d:D):FE:=fun _=>.ok d
def ag (i:Nat) {x:Str} (hO:i∉O:=by decide) (L:X.N[i]?=some x:=by rfl) (hv:Cz X.env.scope x:=by walk_at"v") (Y:adb x:=by decide)
  (J:(x==("__classdict__":Str))=false:=by decide):JE X (.Name x pos) (tD W O (ai i)):=(jv i L hv Y J).imp fun Z H Q hh=>fH hh fun as0 B own U I h=>by
 unfold ai at h;split at h
 .rename_i d e;obtain ⟨v,h1,h2⟩:=I.var i d hO e;show zF Z[i]? H Q;rw [h1];exact h v H (az.refl H) h2
 .exact h.elim
def ar {i j}:JE X (.Constant (.int i) j pos) (tD W O (vC (.int i))):=TB.imp fun Z H Q J=>fH J fun as0 B own U I h=>h _ H (az.refl H) rfl
def sx {b j}:JE X (.Constant (.bool b) j pos) (tD W O (vC (.bl b))):=Wt.imp fun Z H Q J=>fH J fun as0 B own U I h=>h _ H (az.refl H) rfl
def uQ {j}:JE X (.Constant .none j pos) (tD W O (vC .non)):=TW.imp fun Z H Q J=>fH J fun as0 B own U I h=>h _ H (az.refl H) rfl
def aQ {x j}:JE X (.Constant (.str x) j pos) (tD W O (vC (.str x))):=TF.imp fun Z H Q J=>fH J fun as0 B own U I h=>h _ H (az.refl H) rfl
def m9 {x:Str} {d:D} {v:V} {u:eQ} (hm:X.mg x=some u) (r:ba v u) (L:∀ H,cS W.K H d v) (Y:Gl X x:=by rfl) (J:adb x:=by decide):JE X (.Name x pos) (tD W O (vC d)) :=
 (JL hm r Y J).imp fun Z H Q hh=>fH hh fun as0 B own U I h=>h _ H (az.refl H) (L _)
def qy {x:Str} {n:String} (J:X.mg x=none) (Y:Xl x=some (.type n)) (L:Gl X x:=by rfl) (hn:x≠"__name__":=by decide) (hd:adb x:=by decide):JE X (.Name x pos) (tD W O (vC (.ty n))) :=
 (VU J Y L hn hd).imp fun Z H Q hh=>fH hh fun as0 B own U I h=>h _ H (az.refl H) rfl
def rE (W:Wd) (r:R2) (op:D->D->R D):Prop:=∀ (as:ac7) (H:Hp) (x y:V) (a b:D) (Q:VK),(∀ p,H p=none->p∉as)->cS W.K (aH as H) a x->cS W.K (aH as H) b y->cO W as H (op a b) Q->r x y H Q
def aE (op:D->D->R D) (φ ψ:FE):FE:=fun U=>(φ U).bind fun x=>(ψ U).bind fun y=>op x y
def HY {t:TE->TE->TE} {r:R2} {op:D->D->R D} (L:∀ {ta tb:TE},JE X a ta->JE X b tb->JE X e (t ta tb)) (et:t=Dv r) (Y:rE W r op) (ha:JE X a (tD W O φ)) (hb:JE X b (tD W O ψ)):JE X e (tD W O (aE op φ ψ)):=by
 subst et;refine (L ha hb).imp fun Z H Q hh=>fH hh fun as0 B own U I h=>⟨as0,B,own,U,I,bZ h fun x v H1 s1 d1 h1=>⟨as0,B,own,U,I.mono s1,bZ h1 fun y u H2 J d2 h2=>?_⟩⟩;exact Y (own++as0) H2 v u x y Q (fun p hp=>((I.mono s1).mono J).new hp) (d1.mono (aW J)) d2 h2
def qV {op:Operator} {r:R2} {g:D->D->R D} (L:eZ X (YD op) r) (J:rE W r g) (ha:JE X a (tD W O φ)) (Y:JE X b (tD W O ψ)):JE X (.BinOp a op b pos) (tD W O (aE g φ ψ)) :=
 HY (t:=Dv r) (fun h1 h2=>Vi L h1 h2) rfl J ha Y
def eJ {op:CmpOp} {r:R2} {g:D->D->R D} (Y:eZ X (Xn op) r) (L:rE W r g) (ha:JE X a (tD W O φ)) (hb:JE X b (tD W O ψ)) (J:YK op b=false):JE X (.Compare a [op] [b] pos) (tD W O (aE g φ ψ)) :=
 HY (t:=Dv r) (fun h1 h2=>RJ Y h1 h2 J) rfl L ha hb
def VL {r:R2} {g:D->D->R D} (J:Cu X r) (L:rE W r g) (ha:JE X a (tD W O φ)) (hb:JE X b (tD W O ψ)) (Y:sM b:=by exact fun _ _=>rfl):JE X (.Subscript a b pos) (tD W O (aE g φ ψ)) :=
 HY (t:=Dv r) (fun h1 h2=>Su J h1 h2 Y) rfl L ha hb
def WH (W:Wd) (r:V->Hp->VK->Prop) (op:D->R D):Prop:=∀ (as:ac7) (H:Hp) (x:V) (a:D) (Q:VK),cS W.K (aH as H) a x->cO W as H (op a) Q->r x H Q
def Ld (op:D->R D) (φ:FE):FE:=fun U=>(φ U).bind op
def Pb {op:UnaryOp} {r:V->Hp->VK->Prop} {g:D->R D} (L:MF X (unaryOp op) r) (J:WH W r g) (ha:JE X a (tD W O φ)):JE X (.UnaryOp op a pos) (tD W O (Ld g φ)) :=
 (Vt L ha).imp fun Z H Q Y=>fH Y fun as0 B own U I h=>⟨as0,B,own,U,I,bZ h fun x v H1 s1 d1 h1=>J (own++as0) H1 v x Q d1 h1⟩
def GJ {α:Type} (d:D) (f:Bool->R α):R α:=match d with
 | .bl b=>f b
 | _=>.no
def LJ (φ:FE):FE:=fun U=>(φ U).bind fun x=>GJ x fun b=>.ok (.bl (!b))
def kI (φ ψ:FE):FE:=fun U=>(φ U).bind fun x=>GJ x fun b=>if b=true then ψ U else .ok (.bl false)
def QU (φ ψ:FE):FE:=fun U=>(φ U).bind fun x=>GJ x fun b=>if b=true then .ok (.bl true) else ψ U
def S0 (J:JE X a (tD W O φ)):JE X (.UnaryOp .Not a pos) (tD W O (LJ φ)) :=
 (Sq J).imp fun Z H Q L=>fH L fun as0 B own U I h=>⟨as0,B,own,U,I,bZ h fun x v H1 s1 d1 h1=>by
  cases x with
  | bl b=>cases d1;exact h1 _ H1 (az.refl _) rfl
  | _=>exact h1.elim⟩
def kD {op} (h:JE X a (tD W O φ)):JE X (.BoolOp op [a] pos) (tD W O φ):=Sa h
def jb (Y:JE X a (tD W O φ)) (J:JE X (.BoolOp .And (b::rest) pos) (tD W O ψ)):JE X (.BoolOp .And (a::b::rest) pos) (tD W O (kI φ ψ)) :=
 (SX Y J).imp fun Z H Q L=>fH L fun as0 B own U I h=>⟨as0,B,own,U,I,bZ h fun x v H1 s1 d1 h1=>by
  cases x with
  | bl b =>
   cases d1;cases b with
   | true=>exact ⟨as0,B,own,U,I.mono s1,h1⟩
   | false=>exact h1 _ H1 (az.refl _) rfl
  | _=>exact h1.elim⟩
def Ul (Y:JE X a (tD W O φ)) (J:JE X (.BoolOp .Or (b::rest) pos) (tD W O ψ)):JE X (.BoolOp .Or (a::b::rest) pos) (tD W O (QU φ ψ)) :=
 (UZ Y J).imp fun Z H Q L=>fH L fun as0 B own U I h=>⟨as0,B,own,U,I,bZ h fun x v H1 s1 d1 h1=>by
  cases x with
  | bl b =>
   cases d1;cases b with
   | false=>exact ⟨as0,B,own,U,I.mono s1,h1⟩
   | true=>exact h1 _ H1 (az.refl _) rfl
  | _=>exact h1.elim⟩
variable {τ υ:FT}
def bS (φ:FE):FT:=fun U=>(φ U).bind fun x=>GJ x .ok
def aV {op:CmpOp} {r:R2} {g:D->D->R D} (ho:eZ X (Xn op) r) (hd:rE W r g) (ha:JE X a (tD W O φ)) (hb:JE X b (tD W O ψ)) (hm:YK op b=false):JT X (.Compare a [op] [b] pos) (rS W O (bS (aE g φ ψ))):=by
 refine (DZ ho ha hb hm).imp fun Z H Q hh=>fH hh fun as0 B own U I h=>?_;have h':ig W H ((φ U).bind fun x=>((ψ U).bind fun y=>g x y).bind fun x=>GJ x .ok) Q:=by
  have e:bS (aE g φ ψ) U=(φ U).bind fun x=>((ψ U).bind fun y=>g x y).bind fun x=>GJ x .ok:=by
   unfold bS aE;rw [bind_assoc]
  rw [e] at h;exact h
 refine ⟨as0,B,own,U,I,gf h' fun x v H1 s1 d1 h1=>?_⟩;have J:ig W H1 ((ψ U).bind fun y=>(g x y).bind fun x=>GJ x .ok) Q:=by rw [<- bind_assoc];exact h1
 refine ⟨as0,B,own,U,I.mono s1,gf J fun y u H2 Y d2 h2=>?_⟩;refine hd (own++as0) H2 v u x y _ (fun p hp=>((I.mono s1).mono Y).new hp) (d1.mono (aW Y)) d2 (gf h2 fun z w H3 s3 d3 L=>?_);cases z with
 | bl k=>cases d3;exact L H3 (az.refl _)
 | _=>exact L.elim
def PJ:D->R Bool
 | .non=>.ok false
 | .bl b=>.ok b
 | .int i=>.ok (i != 0)
 | .str y=>if y.length<=1000000 then .ok (y.length != 0) else .no
 | .lst xs=>.ok (!xs.isEmpty)
 | .tup xs=>.ok (!xs.isEmpty)
 | .dct kvs=>.ok (!kvs.isEmpty)
 | _=>.no
def aJ.empty {K:aT} {H:Hp} {ds:ada} {xs:ac9} (h:aJ K H ds xs):xs.isEmpty=ds.isEmpty:=by
 cases ds with
 | nil=>cases h;rfl
 | cons d r=>obtain ⟨v,vs,rfl,_⟩:=h;rfl
def cr.empty {K:aT} {H:Hp} {ds:List (bC×D)} {xs:List (bC×V)} (h:cr K H ds xs):xs.isEmpty=ds.isEmpty:=by
 cases ds with
 | nil=>cases h;rfl
 | cons d r=>obtain ⟨k,d⟩:=d;obtain ⟨v,vs,rfl,_⟩:=h;rfl
def eG:(1000000:Nat)<=Xd:=by rw [XJ];decide
def gE (φ:FE):FT:=fun U=>(φ U).bind PJ
def bD (K:aT) (ha:JE X a (tD W O φ)) (he:∀ J,isTrue a X.env J=(do let v <- J;abv a.pos;holding [v] (truthy v)):=by exact fun _=>rfl) (L:X.K=K:=by rfl) (hW:W.K=K:=by rfl):JT X a (rS W O (gE φ)) :=
 (Ko K ha he L).imp fun Z H Q Y=>fH Y fun as0 B own U I h=>⟨as0,B,own,U,I,gf h fun x v H1 s1 d1 h1=>by
  subst hW;cases x with
  | non=>cases d1;exact h1 H1 (az.refl _)
  | bl b=>cases d1;exact h1 H1 (az.refl _)
  | int i=>cases d1;exact h1 H1 (az.refl _)
  | str y =>
   cases d1;have h2:ig W H1 (if y.length<=1000000 then R.ok (y.length != 0) else R.no) Q:=h1;split at h2
   .rename_i hl;refine ⟨IF hl eG,?_⟩;have e:((y.length:Int) != 0)=(y.length != 0):=by
     cases hy:y.length with
     | zero=>rfl
     | succ n=>simp;omega
    rw [e];exact h2 H1 (az.refl _)
   .exact h2.elim
  | lst ds =>
   obtain ⟨p,xs,rfl,q1,q2⟩:=d1;refine .inl (.inl ⟨xs,(ax _ _).seq q1,?_⟩);rw [q2.empty];exact h1 H1 (az.refl _)
  | tup ds =>
   obtain ⟨p,xs,rfl,q1,q2⟩:=d1;refine .inl (.inr ⟨xs,(ax _ _).seqT q1,?_⟩);rw [q2.empty];exact h1 H1 (az.refl _)
  | dct ds =>
   obtain ⟨p,xs,rfl,q1,q2⟩:=d1;refine .inr ⟨xs,ax _ _ _ _ q1,?_⟩;rw [q2.empty];exact h1 H1 (az.refl _)
  | _=>exact h1.elim⟩
def wH (τ υ:FT):FT:=fun U=>(τ U).bind fun b=>if b=true then υ U else .ok false
def xN (τ υ:FT):FT:=fun U=>(τ U).bind fun b=>if b=true then .ok true else υ U
def j6 (τ:FT):FT:=fun U=>(τ U).bind fun b=>.ok (!b)
def cW (h:JW X a (rS W O τ)):JT X a (rS W O τ):=Ml h
def rZ (J:JT X a (rS W O τ)):JW X (.BoolOp .And [a] pos) (rS W O τ):=Mx J
def j5 (J:JT X a (rS W O τ)):JW X (.BoolOp .Or [a] pos) (rS W O τ):=OX J
def vU (L:JT X a (rS W O τ)) (J:JW X (.BoolOp .And (b::rest) pos) (rS W O υ)):JW X (.BoolOp .And (a::b::rest) pos) (rS W O (wH τ υ)) :=
 (QH L J).imp fun Z H Q Y=>fH Y fun as0 B own U I h=>⟨as0,B,own,U,I,pd h fun c H1 s1 h1=>by
  cases c with
  | true=>exact ⟨as0,B,own,U,I.mono s1,h1⟩
  | false=>exact h1 H1 (az.refl _)⟩
def kW (L:JT X a (rS W O τ)) (J:JW X (.BoolOp .Or (b::rest) pos) (rS W O υ)):JW X (.BoolOp .Or (a::b::rest) pos) (rS W O (xN τ υ)) :=
 (Tr L J).imp fun Z H Q Y=>fH Y fun as0 B own U I h=>⟨as0,B,own,U,I,pd h fun c H1 s1 h1=>by
  cases c with
  | false=>exact ⟨as0,B,own,U,I.mono s1,h1⟩
  | true=>exact h1 H1 (az.refl _)⟩
def gt (J:JT X a (rS W O τ)):JT X (.UnaryOp .Not a pos) (rS W O (j6 τ)) :=
 (OU J).imp fun Z H Q L=>fH L fun as0 B own U I h=>⟨as0,B,own,U,I,pd h fun c H1 s1 h1=>h1 H1 (az.refl _)⟩
def Lc (τ:FT) (φ ψ:FE):FE:=fun U=>(τ U).bind fun b=>if b=true then φ U else ψ U
def EG (J:JT X c (rS W O τ)) (Y:JE X a (tD W O φ)) (L:JE X b (tD W O ψ)):JE X (.IfExp c a b pos) (tD W O (Lc τ φ ψ)) :=
 (Sz J Y L).imp fun Z H Q hh=>fH hh fun as0 B own U I h=>⟨as0,B,own,U,I,rD h fun c H1 s1 h1=>by
  cases c with
  | true=>exact ⟨as0,B,own,U,I.mono s1,h1⟩
  | false=>exact ⟨as0,B,own,U,I.mono s1,h1⟩⟩
def ap:FA:=fun _=>.ok []
def ae (φ:FE) (α:FA):FA:=fun U=>(φ U).bind fun d=>(α U).bind fun ds=>.ok (d::ds)
def aj:JA X [] (xG W O ap):=DV.imp fun Z H Q J=>fH J fun as0 B own U I h=>h [] H (az.refl _) rfl
def aa (Y:JE X e (tD W O φ)) (J:JA X es (xG W O α)) (hn:aX e=true:=by rfl):JA X (e::es) (xG W O (ae φ α)) :=
 (Am Y J hn).imp fun Z H Q L=>fH L fun as0 B own U I h=>⟨as0,B,own,U,I,Dg h fun d v H1 s1 d1 h1=>⟨as0,B,own,U,I.mono s1,Cn h1 fun ds vs H2 s2 d2 h2 =>
  h2 (v::vs) H2 (az.refl _) ⟨v,vs,rfl,d1.mono (aW s2),d2⟩⟩⟩
def Bd (ds:ada):R D:=if ds.length<=1000000 then .ok (.lst ds) else .no
def Fn (ds:ada):R D:=if ds.length<=1000000 then .ok (.tup ds) else .no
def ia (α:FA):FE:=fun U=>(α U).bind Bd
def bN (α:FA):FE:=fun U=>(α U).bind Fn
def Hl {as:ac7} {H:Hp} {ds:ada} {xs:ac9} {Q:VK} (h:iS W as H (Bd ds) Q) (hd:aJ W.K (aH as H) ds xs):xs.length<=Xd/\∀ p,H p=none->Q (.ref p) (upd H p (.lst xs)):=by
 unfold Bd at h;split at h
 .rename_i hl;refine ⟨by rw [<- hd.len];exact IF hl eG,fun p L=>?_⟩;refine h p (.lst xs) (upd H p (.lst xs)) (aU L _) L aS ⟨xs,rfl,hd.mono ?_⟩;intro b o e;have Y:b≠p:=fun z=>by
   subst z
   have:=ax _ _ _ _ e
   rw [L] at this;cases this
  by_cases J:b∈as
  .rw [cU J] at e;cases e
  .rw [aO J] at e;rw [aO (by simp [Y,J]),aM Y];exact e
 .exact h.elim
def gN (h:JA X es (xG W O α)):JE X (.List es pos) (tN W O (ia α)) :=
 (Ui h).imp fun Z H Q J=>fH J fun as0 B own U I h=>⟨as0,B,own,U,I,i6 h fun ds xs H1 s1 d1 h1=>Hl h1 d1⟩
def bV (h:JE X e (tN W O φ)):JE X e (tD W O φ):=h.imp fun Z H Q J=>fH J fun as0 B own U I q=>by
 refine ⟨as0,B,own,U,I,?_⟩;cases hr:φ U with
 | ok d =>
  rw [hr] at q;exact fun p o H' s L e od=>q (.ref p) H' s (od.den (I.new L) e)
 | er x=>rw [hr] at q;exact q
 | no=>rw [hr] at q;exact q
def bz {x1} (h:JA X es (xG W O α)):JE X (.Tuple es x1 pos) (tD W O (bN α)) :=
 (Sj h).imp fun Z H Q L=>fH L fun as0 B own U I h=>⟨as0,B,own,U,I,eI h fun ds xs H1 s1 d1 h1=>by
  unfold Fn at h1;split at h1
  .rename_i hl;refine ⟨by rw [<- d1.len];exact IF hl eG,fun p J=>?_⟩;have hn:=(I.mono s1).new J;refine h1 (.ref p) (upd H1 p (.tup xs)) (aU J _) ⟨p,xs,rfl,.inl (.inl ?_),d1.mono (aW (aU J _))⟩;rw [aO hn];exact aS
  .exact h1.elim⟩
def uW (W:Wd) (r:ac9->Hp->VK->Prop) (g:ada->R D):Prop:=∀ (as:ac7) (H:Hp) (xs:ac9) (ds:ada) (Q:VK),(∀ a∈as,H a≠none)->aJ W.K (aH as H) ds xs->cO W as H (g ds) Q->r xs H Q
def B2 (W:Wd) (r:ac9->Hp->VK->Prop) (g:ada->R D):Prop:=∀ (as:ac7) (H:Hp) (xs:ac9) (ds:ada) (Q:VK),(∀ a∈as,H a≠none)->aJ W.K (aH as H) ds xs->iS W as H (g ds) Q->r xs H Q
def ao (g:ada->R D) (α:FA):FE:=fun U=>(α U).bind g
section
variable {x:Str} {p:Pos} {id T:String} {r:ac9->Hp->VK->Prop} {g:ada->R D}
def aZ (Y:cg X (.builtin id) r) (L:uW W r g) (hm:X.mg x=none) (hv:Xl x=some (.builtin id)) (ha:JA X (e::es) (xG W O α)) (hg:Gl X x:=by rfl) (h1:aX e=true:=by rfl) (h2:es.all aX=true:=by rfl) (hn:x≠"__name__":=by decide) (J:adb x:=by decide) :
  JE X (.Call (.Name x p) (e::es) [] pos) (tD W O (ao g α)) :=
 (zd Y hm hv ha hg h1 h2 hn J).imp fun Z H Q hh=>fH hh fun as0 B own U I h=>⟨as0,B,own,U,I,eI h fun ds xs H1 s1 d1 h1=>L (own++as0) H1 xs ds Q (I.mono s1).exi d1 h1⟩
def vy (Y:cg X (.type T) r) (L:uW W r g) (hm:X.mg x=none) (hv:Xl x=some (.type T)) (ha:JA X (e::es) (xG W O α)) (hg:Gl X x:=by rfl) (h1:aX e=true:=by rfl) (h2:es.all aX=true:=by rfl) (hn:x≠"__name__":=by decide) (J:adb x:=by decide) :
  JE X (.Call (.Name x p) (e::es) [] pos) (tD W O (ao g α)) :=
 (Ei Y hm hv ha hg h1 h2 hn J).imp fun Z H Q hh=>fH hh fun as0 B own U I h=>⟨as0,B,own,U,I,eI h fun ds xs H1 s1 d1 h1=>L (own++as0) H1 xs ds Q (I.mono s1).exi d1 h1⟩
def nH (Y:cg X (.type T) r) (L:B2 W r g) (hm:X.mg x=none) (hv:Xl x=some (.type T)) (ha:JA X (e::es) (xG W O α)) (hg:Gl X x:=by rfl) (h1:aX e=true:=by rfl) (h2:es.all aX=true:=by rfl) (hn:x≠"__name__":=by decide) (J:adb x:=by decide) :
  JE X (.Call (.Name x p) (e::es) [] pos) (tN W O (ao g α)) :=
 (Ei Y hm hv ha hg h1 h2 hn J).imp fun Z H Q hh=>fH hh fun as0 B own U I h=>⟨as0,B,own,U,I,i6 h fun ds xs H1 s1 d1 h1=>L (own++as0) H1 xs ds Q (I.mono s1).exi d1 h1⟩
end
def fJ:Sd->R (Option Int):=fun _=>.ok none
def dU (φ:FE):Sd->R (Option Int):=fun U=>(φ U).bind fun d=>match d with
 | .int i=>.ok (some i)
 | _=>.no
def e6:JO X none (UT W O fJ):=LV.imp fun Z H Q J=>fH J fun as0 B own U I h=>h H (az.refl _)
def dm (h:JE X e (tD W O φ)):JO X (some e) (UT W O (dU φ)):=(Lq h).imp fun Z H Q J=>fH J fun as0 B own U I h=>⟨as0,B,own,U,I,gf h fun d v H1 s1 d1 h1=>by
  cases d with
  | int i=>cases d1;exact h1 H1 (az.refl _)
  | _=>exact h1.elim⟩
def Wa (W:Wd) (r:V->Option Int->Option Int->Hp->VK->Prop) (g:D->Option Int->Option Int->R D):Prop :=
 ∀ (as:ac7) (H:Hp) (x:V) (lo hi:Option Int) (a:D) (Q:VK),(∀ p,H p=none->p∉as)->cS W.K (aH as H) a x->cO W as H (g a lo hi) Q->r x lo hi H Q
def vm (g:D->Option Int->Option Int->R D) (φ:FE) (l u:Sd->R (Option Int)):FE:=fun U=>(φ U).bind fun x=>(l U).bind fun lo=>(u U).bind fun hi=>g x lo hi
def eF {r:V->Option Int->Option Int->Hp->VK->Prop} {g:D->Option Int->Option Int->R D} {lo hi:Option Yb} {l u:Sd->R (Option Int)} {p2:Pos} (Y:Bm X r) (hd:Wa W r g) (he:JE X e (tD W O φ)) (hl:JO X lo (UT W O l)) (hu:JO X hi (UT W O u)) :
  JE X (.Subscript e (.Slice lo hi none p2) pos) (tD W O (vm g φ l u)) :=
 (M0 Y he hl hu).imp fun Z H Q hh=>fH hh fun as0 B own U I h=>⟨as0,B,own,U,I,bZ h fun x v H1 s1 d1 h1=>⟨as0,B,own,U,I.mono s1,rD h1 fun lo H2 J h2=>⟨as0,B,own,U,(I.mono s1).mono J,rD h2 fun hi H3 L h3 =>
  hd (own++as0) H3 v lo hi x Q (fun p hp=>(((I.mono s1).mono J).mono L).new hp) (d1.mono (aW (J.trans L))) h3⟩⟩⟩
def W0 (W:Wd) (r:Str->ac9->Hp->VK->Prop) (g:Str->ada->R D):Prop :=
 ∀ (as:ac7) (H:Hp) (z:Str) (xs:ac9) (ds:ada) (Q:VK),(∀ p,H p=none->p∉as)->aJ W.K (aH as H) ds xs->cO W as H (g z ds) Q->r z xs H Q
def UR (g:Str->ada->R D) (φ:FE) (α:FA):FE:=fun U=>(φ U).bind fun x=>match x with
 | .str z=>(α U).bind fun ds=>g z ds
 | _=>.no
def Wp {o:Yb} {name:Str} {apos cpos:Pos} {id:String} {r:Str->ac9->Hp->VK->Prop} {g:Str->ada->R D} (Y:Slot "str" name id) (hty:typeOf (.builtin id)=pure (.type "method_descriptor")) (hm:UJ X id r) (hd:W0 W r g) (ho:JE X o (tD W O φ)) (ha:JA X (e::es) (xG W O α))
  (L:YE o name X.env (eval o X.env)=eval o X.env:=by rfl) (J:(apos.endLine==cpos.line)=true:=by rfl) (h1:(e::es).all aX=true:=by rfl) (hl:(e::es).length < 29:=by decide) :
  JE X (.Call (.Attribute o name apos) (e::es) [] cpos) (tD W O (UR g φ α)) :=
 (Vx Y hty hm ho ha L J h1 hl).imp fun Z H Q hh=>fH hh fun as0 B own U I h=>⟨as0,B,own,U,I,bZ h fun x v H1 s1 d1 h1=>by
  cases x with
  | str z =>
   cases d1;exact ⟨as0,B,own,U,I.mono s1,eI h1 fun ds xs H2 s2 d2 h2=>hd (own++as0) H2 z xs ds Q (fun p hp=>((I.mono s1).mono s2).new hp) d2 h2⟩
  | _=>exact h1.elim⟩
end
inductive Fl where
 | nx (U:Sd)|rt (d:D)|bk (U:Sd)|ct (U:Sd)
 /-- a return of what is laid anew,and nobody else's -/
 | rn (d:D)
abbrev FS:=Sd->R Fl
def bI (W:Wd) (as0:ac7) (B:Hp) (Ob O':ac2) (r:R Fl) (D:Ends):Prop:=match r with
 | .ok (.nx U)=>∀ own Z H,DI W.K as0 B O' own Z U H->D.nx Z H
 | .ok (.bk U)=>∀ own Z H,DI W.K as0 B Ob own Z U H->D.bk Z H
 | .ok (.ct U)=>∀ own Z H,DI W.K as0 B Ob own Z U H->D.ct Z H
 | .ok (.rt d)=>∀ v H,az B H->cS W.K (aH as0 H) d v->D.rt v H
 | .ok (.rn d)=>∀ p o H,az B H->B p=none->H p=some o->nY W.K (aH (p::as0) H) o d->D.rt (.ref p) H
 | .er x=>∀ e C H,az B H->W.mg x=some (.ref C)->W.E e (some C) H
 | .no=>False
def sD (W:Wd) (Ob O O':ac2) (φ:FS):TS:=fun D Z H=>∃ as0 B own U,DI W.K as0 B O own Z U H/\bI W as0 B Ob O' (φ U) D
section
variable {W:Wd} {as0 own:ac7} {B H:Hp} {Ob O O':ac2} {Z:St} {U:Sd} {D':Ends}
def gk {f:D->R Fl} {Q:VK} (I:DI W.K as0 B O own Z U H) (h:bI W as0 B Ob O' (r.bind f) D') (q:∀ d v H',az H H'->cS W.K (aH (own++as0) H') d v->bI W as0 B Ob O' (f d) D'->Q v H'):cO W (own++as0) H r Q:=by
 cases r with
 | ok d=>exact fun v H' s J=>q d v H' s J h
 | er x=>exact fun e C H' s=>h e C H' (I.same.trans s)
 | no=>exact h
def oJ {f:D->R Fl} {Q:VK} (I:DI W.K as0 B O own Z U H) (h:bI W as0 B Ob O' (r.bind f) D') (q:∀ d p o H',az H H'->H p=none->H' p=some o->nY W.K (aH (p::(own++as0)) H') o d->bI W as0 B Ob O' (f d) D'->Q (.ref p) H'):iS W (own++as0) H r Q:=by
 cases r with
 | ok d=>exact fun p o H' s h1 h2 J=>q d p o H' s h1 h2 J h
 | er x=>exact fun e C H' s=>h e C H' (I.same.trans s)
 | no=>exact h
def uL {α:Type} {r:R α} {f:α->R Fl} {Q:α->Hp->Prop} (I:DI W.K as0 B O own Z U H) (h:bI W as0 B Ob O' (r.bind f) D') (q:∀ d H',az H H'->bI W as0 B Ob O' (f d) D'->Q d H'):ig W H r Q:=by
 cases r with
 | ok d=>exact fun H' s=>q d H' s h
 | er x=>exact fun e C H' s=>h e C H' (I.same.trans s)
 | no=>exact h
def bI.base {L:Hp} (h:bI W as0 B Ob O' r D') (s:az B L) (J:∀ a∈as0,B a≠none):bI W as0 L Ob O' r D':=by
 cases r with
 | ok f =>
  cases f with
  | nx U=>exact fun own Z H I=>h own Z H (I.base s J)
  | bk U=>exact fun own Z H I=>h own Z H (I.base s J)
  | ct U=>exact fun own Z H I=>h own Z H (I.base s J)
  | rt d=>exact fun v H s'=>h v H (s.trans s')
  | rn d=>exact fun p o H s' Y=>h p o H (s.trans s') (s.free Y)
 | er x=>exact fun e C H s'=>h e C H (s.trans s')
 | no=>exact h
def getElem?_set' {α:Type} {l:List α} {i j:Nat} {x:α}:(l.set i x)[j]?=if i=j then (if i < l.length then some x else none) else l[j]?:=List.getElem?_set
def DI.set {i:Nat} {d:D} {v:V} (I:DI W.K as0 B O own Z U H) (L:i∉O) (h:cS W.K (aH (own++as0) H) d v):DI W.K as0 B O own (Z.set i (some v)) (U.set i (some d)) H:=by
 refine ⟨by simp [I.len],I.olen,I.nd,I.ond,I.fresh,I.ex0,I.same,fun j e hj q=>?_,fun j a hj=>?_⟩
 .rw [getElem?_set'] at q ⊢;split at q
  .rename_i hij;rw [acW hij];split at q
   .rename_i hl;rw [acW (by rw [<- I.len];exact hl)];cases q;exact ⟨v,rfl,h⟩
   .cases q
  .rename_i hij;rw [acX hij];exact I.var j e hj q
 .have hji:i≠j:=fun z=>L (by rw [z];exact (XA hj).1);obtain ⟨d',o,h1,h2,J,Y⟩:=I.owns j a hj;exact ⟨d',o,by rw [getElem?_set',acX hji];exact h1,by rw [getElem?_set',acX hji];exact h2,J,Y⟩
def zip_inj:∀ {O:ac2} {own:ac7} {i j:Nat} {a:Le},own.Nodup->(i,a)∈O.zip own->(j,a)∈O.zip own->i=j
 | [],_,_,_,_,_,h,_=>by simp at h
 | _::_,[],_,_,_,_,h,_=>by simp at h
 | k::O,b::own,i,j,a,nd,h1,h2=>by
  rw [X7] at h1 h2;rw [XI] at nd;rcases iN.mp h1 with e1|h1 <;> rcases iN.mp h2 with e2|h2
  .cases e1;cases e2;rfl
  .cases e1;exact absurd (XA h2).2 nd.1
  .cases e2;exact absurd (XA h1).2 nd.1
  .exact zip_inj nd.2 h1 h2
def gR:∀ {O:ac2} {own:ac7} {i:Nat},own.length=O.length->i∈O->∃ a,(i,a)∈O.zip own
 | [],_,_,_,h=>by cases h
 | k::O,[],_,l,_=>by simp at l
 | k::O,b::own,i,l,h=>by
  rcases iN.mp h with rfl|h
  .exact ⟨b,W6⟩
  .obtain ⟨a,J⟩:=gR (O:=O) (own:=own) (by simpa using l) h;exact ⟨a,lT _ J⟩
def bK (p:Nat->Bool):ac2->ac7->ac7
 | i::O,a::own=>if p i=true then a::bK p O own else bK p O own
 | _,_=>[]
def lc {p:Nat->Bool}:∀ {O:ac2} {own:ac7},(bK p O own).Sublist own
 | [],own=>by simp [bK]
 | _::_,[]=>by simp [bK]
 | i::O,a::own=>by
  unfold bK;split
  .exact (lc (O:=O)).cons_cons a
  .exact (lc (O:=O)).cons a
def pJ {p:Nat->Bool}:∀ {O:ac2} {own:ac7},own.length=O.length->(bK p O own).length=(O.filter p).length
 | [],[],_=>rfl
 | i::O,a::own,l=>by
  have J:=pJ (p:=p) (O:=O) (own:=own) (by simpa using l);unfold bK;rw [aah];split
  .simp [J]
  .exact J
 | [],_::_,l=>by simp at l
 | _::_,[],l=>by simp at l
def gz {p:Nat->Bool}:∀ {O:ac2} {own:ac7} {i:Nat} {a:Le},(i,a)∈(O.filter p).zip (bK p O own)->(i,a)∈O.zip own/\p i=true
 | [],_,_,_,h=>by simp at h
 | _::_,[],_,_,h=>by simp [bK] at h
 | k::O,b::own,i,a,h=>by
  unfold bK at h;rw [aah] at h;by_cases J:p k=true
  .rw [acW J,acW J,X7] at h;rcases iN.mp h with e|h
   .cases e;exact ⟨W6,J⟩
   .exact ⟨lT _ (gz h).1,(gz h).2⟩
  .rw [acX J,acX J] at h;exact ⟨lT _ (gz h).1,(gz h).2⟩
def kQ {p:Nat->Bool}:∀ {O:ac2} {own:ac7} {a:Le},a∈bK p O own->∃ i,(i,a)∈O.zip own/\p i=true
 | [],_,_,h=>by simp [bK] at h
 | _::_,[],_,h=>by simp [bK] at h
 | k::O,b::own,a,h=>by
  unfold bK at h;split at h
  .rename_i hp;rcases iN.mp h with e|h
   .subst e;exact ⟨k,W6,hp⟩
   .obtain ⟨i,h1,h2⟩:=kQ h;exact ⟨i,lT _ h1,h2⟩
  .obtain ⟨i,h1,h2⟩:=kQ h;exact ⟨i,lT _ h1,h2⟩
def DI.freeze (I:DI W.K as0 B O own Z U H) (Y:O.filter (fun i=>decide (i∈O2))=O2):∃ L,DI W.K as0 B O2 L Z U H:=by
 generalize hp:(fun i=>decide (i∈O2))=p at Y;have pi:∀ i,p i=decide (i∈O2):=fun i=>by rw [<- hp]
 have sub:(bK p O own).Sublist own:=lc;have mem:∀ a∈bK p O own,a∈own:=fun a J=>sub.mem J;have s:az (aH (own++as0) H) (aH (bK p O own++as0) H):=mf fun a J=>by
  rcases DO.mp J with h|h
  .exact Xf _ (mem a h)
  .exact Xc _ h
 refine ⟨bK p O own,I.len,by rw [pJ I.olen,Y],I.nd.sublist sub,by rw [<- Y];exact I.ond.sublist aav,fun a J=>I.fresh a (mem a J),I.ex0,I.same,fun i d hi q=>?_,fun i a hi=>?_⟩
 .by_cases h:i∈O
  .obtain ⟨a,J⟩:=gR I.olen h;obtain ⟨d',o,h1,h2,h3,h4⟩:=I.owns i a J;rw [q] at h1;cases h1;refine ⟨.ref a,h2,nY.den ?_ h3 (h4.mono (mf fun b hb=>?_))⟩
   .intro z;rcases DO.mp z with z|z
    .obtain ⟨j,h5,h6⟩:=kQ z
     have:=zip_inj I.nd J h5
     subst this;rw [pi] at h6;exact hi (ac0 h6)
    .exact I.apart a (XA J).2 z
   .rcases iN.mp hb with rfl|hb
    .exact Xf _ (XA J).2
    .rcases DO.mp hb with h|h
     .exact Xf _ (mem b h)
     .exact Xc _ h
  .obtain ⟨v,h1,h2⟩:=I.var i d h q;exact ⟨v,h1,h2.mono s⟩
 .rw [<- Y] at hi;obtain ⟨d,o,h1,h2,h3,h4⟩:=I.owns i a (gz hi).1;exact ⟨d,o,h1,h2,h3,h4.mono s⟩
def DI.own1 {i:Nat} {d:D} {p:Le} {o:HO} (I:DI W.K as0 B O own Z U H) (L:i∉O) (hp:B p=none) (hn:p∉own++as0) (e:H p=some o) (h:nY W.K (aH (p::(own++as0)) H) o d) (hi:i < U.length)
  (fr:∀ j d',j∉O->U[j]?=some (some d')->∃ v,Z[j]?=some (some v)/\cS W.K (aH (p::(own++as0)) H) d' v)
  (fo:∀ j a,(j,a)∈O.zip own->∃ d o,U[j]?=some (some d)/\Z[j]?=some (some (.ref a))/\H a=some o/\nY W.K (aH (p::(own++as0)) H) o d) :
  DI W.K as0 B (i::O) (p::own) (Z.set i (some (.ref p))) (U.set i (some d)) H:=by
 refine ⟨by simp [I.len],by simp [I.olen],XI.mpr ⟨fun z=>hn (Xf _ z),I.nd⟩,XI.mpr ⟨L,I.ond⟩,fun a J=>?_,I.ex0,I.same,fun j e hj q=>?_,fun j a hj=>?_⟩
 .rcases iN.mp J with rfl|J
  .exact hp
  .exact I.fresh a J
 .have hji:i≠j:=fun z=>hj (by rw [z];exact W6);rw [getElem?_set',acX hji] at q ⊢;exact fr j e (fun z=>hj (lT _ z)) q
 .rw [X7] at hj;rcases iN.mp hj with z|hj
  .cases z;refine ⟨d,o,?_,?_,e,h⟩
   .rw [getElem?_set',acW rfl,acW hi]
   .rw [getElem?_set',acW rfl,acW (by rw [<- I.len];exact hi)]
  .have hji:i≠j:=fun z=>L (by rw [z];exact (XA hj).1);obtain ⟨d',o',h1,h2,Y,h4⟩:=fo j a hj;exact ⟨d',o',by rw [getElem?_set',acX hji];exact h1,by rw [getElem?_set',acX hji];exact h2,Y,h4⟩
end
section
variable {X:Cx} {W:Wd} {Ob O O' O1 O2:ac2} {e c:Yb} {φ ψ:FS} {ε:FE} {τ:FT} {pos:Pos} {st:Yj} {sts rest:List Yj}
def bu:FS:=fun U=>.ok (.nx U)
def aK (φ ψ:FS):FS:=fun U=>(φ U).bind fun f=>match f with
 | .nx δ'=>ψ δ'
 | f=>.ok f
def bi:JB X [] (sD W Ob O O bu):=Jv.imp fun D Z H J=>fH J fun as0 B own U I h=>h own Z H I
def am (h1:JS X st (sD W Ob O O1 φ)) (h2:JB X rest (sD W Ob O1 O2 ψ)):JB X (st::rest) (sD W Ob O O2 (aK φ ψ)):=(vG h1 h2).imp fun D Z H L=>fH L fun as0 B own U I h=>by
 refine ⟨as0,B,own,U,I,?_⟩;unfold aK at h;cases hr:φ U with
 | ok f =>
  rw [hr] at h;cases f with
  | nx δ'=>exact fun J Y H' I'=>⟨as0,B,J,δ',I',h⟩
  | rt d=>exact h
  | rn d=>exact h
  | bk d=>exact h
  | ct d=>exact h
 | er x=>rw [hr] at h;exact h
 | no=>rw [hr] at h;exact h
def aw (h1:JS X st (sD W Ob O O1 φ)):JB X [st] (sD W Ob O O1 φ):=zo h1
def An (h:JB X sts (sD W Ob O2 O' φ)) (J:O.filter (fun i=>decide (i∈O2))=O2:=by decide):JB X sts (sD W Ob O O' φ):=h.imp fun D Z H L=>fH L fun as0 B own U I h =>
 let ⟨own2,I2⟩:=I.freeze J;⟨as0,B,own2,U,I2,h⟩
def a9 (ε:FE):FS:=fun U=>(ε U).bind fun d=>.ok (.rt d)
def aB (h:JE X e (tD W O ε)):JS X (.Return (some e) pos) (sD W Ob O O' (a9 ε)):=(Po h).imp fun D Z H Y=>fH Y fun as0 B own U I h =>
 ⟨as0,B,own,U,I,gk I h fun d v H' s J h'=>h' v H' (I.same.trans s) (J.mono (mf fun a L=>Xc _ L))⟩
def A5 (ε:FE):FS:=fun U=>(ε U).bind fun _=>.ok (.nx U)
def Lv (h:JE X e (tD W O ε)) (J:Zf e none pos.line X.env=pure false:=by rfl):JS X (.Expr e pos) (sD W Ob O O (A5 ε)):=(Fv h J).imp fun D Z H L=>fH L fun as0 B own U I h =>
 ⟨as0,B,own,U,I,gk I h fun d v H' s Y h'=>h' own Z H' (I.mono s)⟩
def iq (τ:FT) (φ ψ:FS):FS:=fun U=>(τ U).bind fun b=>if b=true then φ U else ψ U
def bw {a b:List Yj} (J:JT X c (rS W O τ)) (L:JB X a (sD W Ob O O' φ)) (Y:JB X b (sD W Ob O O' ψ)):JS X (.If c a b pos) (sD W Ob O O' (iq τ φ ψ)):=(N0 J L Y).imp fun D Z H hh=>fH hh fun as0 B own U I h =>
 ⟨as0,B,own,U,I,uL I h fun b H' s h'=>by
  cases b with
  | true=>exact ⟨as0,B,own,U,I.mono s,h'⟩
  | false=>exact ⟨as0,B,own,U,I.mono s,h'⟩⟩
def bq (i:Nat) (ε:FE):FS:=fun U=>(ε U).bind fun d=>.ok (.nx (U.set i (some d)))
def aR (hO:i∉O) (J:X.N.Nodup) (L:Bv X.env.scope x) (he:JE X e (tD W O ε)) (hi:X.N[i]?=some x:=by rfl) (hs:Zf e (some (.Name x pos')) pos.line X.env=pure false:=by rfl) (hf:X.fn x=true\/X.env.scope.names.lookup x=some .local:=by walk_at"u") :
  JS X (.Assign [.Name x pos'] e pos) (sD W Ob O O (bq i ε)):=(Dd J L he hi hs hf).imp fun D Z H Y=>fH Y fun as0 B own U I h =>
 ⟨as0,B,own,U,I,gk I h fun d v H' s dv h'=>h' own _ H' ((I.mono s).set hO dv)⟩
def um (i:Nat) (ε:FE):FS:=fun U=>(ε U).bind fun d=>if i < U.length then .ok (.nx (U.set i (some d))) else .no
def ji {H H':Hp} (Y:H p=none) (s:az H H'):az (aH as H) (aH (p::as) H'):=fun b o e=>by
 by_cases L:b∈as
 .rw [cU L] at e;cases e
 .rw [aO L] at e;have J:b≠p:=fun z=>by rw [z,Y] at e;cases e
  rw [aO (by simp [L,J])];exact s b o e
def Cg {K:aT} {as0 own:ac7} {B H H':Hp} {Z:St} {U:Sd} {i:Nat} {d:D} {p:Le} {o:HO} (I:DI K as0 B O own Z U H) (hO:i∉O) (s:az H H') (J:H p=none) (e:H' p=some o) (h:nY K (aH (p::(own++as0)) H') o d) (hi:i < U.length) :
  DI K as0 B (i::O) (p::own) (Z.set i (some (.ref p))) (U.set i (some d)) H':=by
 refine DI.own1 (W:=⟨K,fun _=>none,E0⟩) (I.mono s) hO (I.same.free J) (I.new J) e h hi (fun j d' hj q=>?_) fun j a hj=>?_
 .obtain ⟨v,h1,h2⟩:=I.var j d' hj q;exact ⟨v,h1,h2.mono (ji J s)⟩
 .obtain ⟨d',o',h1,h2,L,Y⟩:=I.owns j a hj;exact ⟨d',o',h1,h2,s a o' L,Y.mono (ji J s)⟩
def q0 {i:Nat} {x:Str} {pos':Pos} (hO:i∉O) (J:X.N.Nodup) (L:Bv X.env.scope x) (he:JE X e (tN W O ε)) (hi:X.N[i]?=some x:=by rfl) (hs:Zf e (some (.Name x pos')) pos.line X.env=pure false:=by rfl) (hf:X.fn x=true\/X.env.scope.names.lookup x=some .local:=by walk_at"u") :
  JS X (.Assign [.Name x pos'] e pos) (sD W Ob O (i::O) (um i ε)):=(Dd J L he hi hs hf).imp fun D Z H Y=>fH Y fun as0 B own U I h =>
 ⟨as0,B,own,U,I,oJ I h fun d p o H' s hp e od h'=>by
  split at h'
  .rename_i hl;exact h' _ _ H' (Cg I hO s hp e od hl)
  .exact h'.elim⟩
inductive TgD where
 | one (i:Nat)|tup (is:ac2)
def jC:ac2->ada->Sd->Sd
 | i::is,d::ds,U=>jC is ds (U.set i (some d))
 | _,_,U=>U
def jd:TgD->D->Sd->R Sd
 | .one i,d,U=>.ok (U.set i (some d))
 | .tup is,.tup ds,U=>if ds.length=is.length then .ok (jC is ds U) else .no
 | _,_,_=>.no
def gD (W:Wd) (O:ac2) (tg:TgD):TG:=fun v Z H Q=>∃ as0 B own U d,DI W.K as0 B O own Z U H/\cS W.K (aH (own++as0) H) d v/\match jd tg d U with
 | .ok δ'=>∀ J,DI W.K as0 B O own J δ' H->Q J H
 | _=>False
def UM (W:Wd) (O:ac2) (is:ac2):Ht:=fun vs Z H Q=>∃ as0 B own U ds,DI W.K as0 B O own Z U H/\aJ W.K (aH (own++as0) H) ds vs/\ds.length=is.length/\∀ J,DI W.K as0 B O own J (jC is ds U) H->Q J H
def b7 (J:i∉O) (L:X.N.Nodup) (hi:X.N[i]?=some x) (Y:Bv X.env.scope x) (hf:X.fn x=true\/X.env.scope.names.lookup x=some .local:=by walk_at"u"):JG X (.Name x pos) (gD W O (.one i)) :=
 (Af L hi Y hf).imp fun v Z H Q ⟨as0,B,own,U,d,I,dv,h⟩=>h _ (I.set J dv)
def vL:JGs X [] (UM W O []):=LP.imp fun vs Z H Q ⟨as0,B,own,U,ds,I,dv,hl,h⟩=>by
 cases ds with
 | nil=>cases dv;exact ⟨rfl,h Z I⟩
 | cons _ _=>simp at hl
def i9 (h1:JG X e (gD W O (.one i))) (h2:JGs X es (UM W O is))
  (Y:(Yk (e::es) X.env).map (·.2)=assign e X.env::(Yk es X.env).map (·.2):=by rfl):JGs X (e::es) (UM W O (i::is)):=(Jq h1 h2 Y).imp fun vs Z H Q ⟨as0,B,own,U,ds,I,dv,hl,h⟩=>by
 cases ds with
 | nil=>simp at hl
 | cons d ds =>
  obtain ⟨v,r,rfl,d1,d2⟩:=dv;exact ⟨v,r,rfl,as0,B,own,U,d,I,d1,fun J L=>⟨as0,B,own,_,ds,L,d2,by simpa using hl,h⟩⟩
def zZ (K:aT) (h:JGs X es (UM W O is)) (hl:is.length=n:=by rfl) (hc:X.calm=true:=by rfl)
  (hn:(Yk es X.env).length=n:=by rfl) (Y:(Yk es X.env).findIdx? (·.1)=none:=by rfl) (hK:X.K=K:=by rfl) (hW:W.K=K:=by rfl):JG X (.Tuple es k pos) (gD W O (.tup is)):=by
 refine (Pe K h hc hn Y hK).imp fun v Z H Q ⟨as0,B,own,U,d,I,dv,h⟩=>?_;cases d with
 | tup ds =>
  obtain ⟨a,xs,rfl,q1,q2⟩:=dv;have h':(match (if ds.length=is.length then R.ok (jC is ds U) else .no) with|.ok δ'=>∀ J,DI W.K as0 B O own J δ' H->Q J H|_=>False):=h
  by_cases L:ds.length=is.length
  .rw [acW L] at h';subst hW;exact ⟨a,xs,rfl,(ax _ _).seqT q1,by rw [<- q2.len,L,hl],as0,B,own,U,ds,I,q2,L,h'⟩
  .rw [acX L] at h';exact h'.elim
 | _=>exact h.elim
structure GivesD (K:aT) (as0:ac7) (B:Hp) (J:It) (xs:ada):Prop where
 go:∀ i H,az (aH as0 B) H->i < xs.length->J.go i H
 yl:∀ i H v H2 M,az (aH as0 B) H->(∀ a∈M,H a≠none)->(∀ a∈M,a∈as0\/B a=none)->i < xs.length->J.yld i H v H2->az H H2/\∃ d,xs[i]?=some d/\cS K (aH M H2) d v
 stop:∀ H,az (aH as0 B) H->J.stop xs.length H
def jD (W:Wd) (as0 own:ac7) (H:Hp) (r:R (ada)) (Q:It->Hp->Prop):Prop:=match r with
 | .ok xs=>∀ J H',az H H'->GivesD W.K as0 (aH own H') J xs->Q J H'
 | .er x=>∀ e C H',az H H'->W.mg x=some (.ref C)->W.E e (some C) H'
 | .no=>False
def iD (W:Wd) (O:ac2) (ι:FA):TI:=fun Z H Q=>∃ as0 B own U,DI W.K as0 B O own Z U H/\jD W as0 own H (ι U) Q
def kM {B H:Hp} (s:az (aH as0 B) H) (h:∀ a∈M,a∈as0\/B a=none):az (aH as0 B) (aH M H):=fun b o e=>by
 have Y:=e;by_cases J:b∈as0
 .rw [cU J] at e;cases e
 .rw [aO J] at e;have L:b∉M:=fun z=>by
   rcases h b z with q|q
   .exact J q
   .rw [q] at e;cases e
  rw [aO L];exact s b o Y
def G4 {K:aT} {as0:ac7} {B:Hp} {a:Le} {xs:ac9} {ds:ada} (h1:il K (aH as0 B) a xs) (h2:aJ K (aH as0 B) ds xs):GivesD K as0 B (V5 K a) ds where
 go:=fun i H s hi=>by
  have J:i < xs.length:=by rw [<- h2.len];exact hi
  exact ⟨xs,xs[i],s.seq h1,by simp [J]⟩
 yl:=fun i H v H2 M s _ hM hi ⟨e,y⟩=>by
  subst e;obtain ⟨d,q1,q2⟩:=h2.got (y xs (s.seq h1));exact ⟨az.refl _,d,q1,q2.mono (kM s hM)⟩
 stop:=fun H s=>⟨xs,s.seq h1,by rw [h2.len];exact mK _⟩
def F2 {K:aT} {as0:ac7} {B:Hp} {a:Le} {xs:ac9} {ds:ada} (h1:l6 K (aH as0 B) a xs) (h2:aJ K (aH as0 B) ds xs):GivesD K as0 B (V8 K a) ds where
 go:=fun i H s hi=>by
  have J:i < xs.length:=by rw [<- h2.len];exact hi
  exact ⟨xs,xs[i],s.seqT h1,by simp [J]⟩
 yl:=fun i H v H2 M s _ hM hi ⟨e,y⟩=>by
  subst e;obtain ⟨d,q1,q2⟩:=h2.got (y xs (s.seqT h1));exact ⟨az.refl _,d,q1,q2.mono (kM s hM)⟩
 stop:=fun H s=>⟨xs,s.seqT h1,by rw [h2.len];exact mK _⟩
abbrev CG (z:Str):ada:=z.cps.toList.map fun c=>D.str ⟨#[c]⟩
def CN {K:aT} {as0:ac7} {B:Hp} (z:Str):GivesD K as0 B (Rx z) (CG z) where
 go:=fun i H _ hi=>by
  rw [lE] at hi;simpa [Rx,aby] using hi
 yl:=fun i H v H2 M _ _ _ hi ⟨e,c,h1,h2⟩=>by
  subst e;refine ⟨az.refl _,.str ⟨#[c]⟩,?_,h2⟩;rw [Xw,Zk,h1];rfl
 stop:=fun H _=>by
  show _=z.length;rw [lE];simp [aby]
def nh (lo:Int) (n:Nat):ada:=(YN n).map fun (k:Nat)=>D.int (lo+(k:Int))
def Ag {K:aT} {as0:ac7} {B:Hp} (lo:Int) (n:Nat):GivesD K as0 B (UV lo n) (nh lo n) where
 go:=fun i H _ hi=>by
  unfold nh at hi;rw [lE,YO] at hi;exact hi
 yl:=fun i H v H2 M _ _ _ hi ⟨e,h⟩=>by
  subst e;unfold nh at hi ⊢;rw [lE,YO] at hi;refine ⟨az.refl _,.int (lo+(i:Int)),?_,h⟩;rw [Xw,List.getElem?_range hi];rfl
 stop:=fun H _=>by
  unfold nh;show n<=_;rw [lE,YO];exact mK _
def gZ:D->R (ada)
 | .lst xs=>.ok xs
 | .tup xs=>.ok xs
 | .str z=>.ok (CG z)
 | _=>.no
def jq (ε:FE):FA:=fun U=>(ε U).bind gZ
variable {tg:Yb}
def jD.mono {H H':Hp} {Q:It->Hp->Prop} (h:jD W as0 own H r Q) (s:az H H'):jD W as0 own H' r Q:=by
 cases r with
 | ok d=>exact fun J H2 L=>h J H2 (s.trans L)
 | er x=>exact fun e C H2 L=>h e C H2 (s.trans L)
 | no=>exact h
def qT {H:Hp} {f:D->R (ada)} {Q:It->Hp->Prop} {Q':VK} (h:jD W as0 own H (r.bind f) Q) (q:∀ d v H',az H H'->cS W.K (aH (own++as0) H') d v->jD W as0 own H' (f d) Q->Q' v H'):cO W (own++as0) H r Q':=by
 cases r with
 | ok d=>exact fun v H' s J=>q d v H' s J (jD.mono h s)
 | er x=>exact h
 | no=>exact h
def pN {H:Hp} {f:ada->R (ada)} {Q:It->Hp->Prop} {Q':ac9->Hp->Prop} (h:jD W as0 own H (r.bind f) Q) (q:∀ d v H',az H H'->aJ W.K (aH (own++as0) H') d v->jD W as0 own H' (f d) Q->Q' v H'):jA W (own++as0) H r Q':=by
 cases r with
 | ok d=>exact fun v H' s J=>q d v H' s J (jD.mono h s)
 | er x=>exact h
 | no=>exact h
def fE (K:aT) (h:JE X l (tD W O ε)) (L:X.K=K:=by rfl) (hW:W.K=K:=by rfl):JI X tg l (iD W O (jq ε)):=(PH K h L).imp fun Z H Q Y=>fH Y fun as0 B own U I h =>
 ⟨as0,B,own,U,I,qT h fun d v H' s J h'=>by
  subst hW;cases d with
  | lst ds =>
   obtain ⟨a,xs,rfl,q1,q2⟩:=J;refine .inl ⟨⟨xs,(ax _ _).seq q1⟩,h' _ H' (az.refl _) ?_⟩;rw [mG] at q1 q2;exact G4 q1 q2
  | tup ds =>
   obtain ⟨a,xs,rfl,q1,q2⟩:=J;refine .inr ⟨⟨xs,(ax _ _).seqT q1⟩,h' _ H' (az.refl _) ?_⟩;rw [mG] at q1 q2;exact F2 q1 q2
  | str z=>cases J;exact h' _ H' (az.refl _) (CN z)
  | _=>exact h'.elim⟩
def M3:ada->R (ada)
 | [.int j]=>if -(2 ^ 62)<=j/\j < 2 ^ 62 then .ok (nh 0 j.toNat) else .no
 | _=>.no
def wg (α:FA):FA:=fun U=>(α U).bind M3
def yf {α:FA} (Y:X.mg "range"=none) (ha:JA X [a] (xG W O α)) (J:Gl X "range":=by rfl) (hn:aX a=true:=by rfl):JI X tg (.Call (.Name "range" p) [a] [] pos) (iD W O (wg α)):=(GT Y ha J hn).imp fun Z H Q L=>fH L fun as0 B own U I h =>
 ⟨as0,B,own,U,I,pN h fun ds vs H' s dv h'=>by
  unfold M3 at h';split at h'
  .obtain ⟨v,r,rfl,d1,d2⟩:=dv;cases d1;cases d2;split at h'
   .rename_i hj;exact ⟨hj,h' _ H' (az.refl _) (Ag 0 _)⟩
   .exact h'.elim
  .exact h'.elim⟩
def fc (tg:TgD) (J:FS):ada->Sd->R Fl
 | [],U=>.ok (.nx U)
 | x::r,U=>(jd tg x U).bind fun L=>(J L).bind fun f=>match f with
  | .nx δ2=>fc tg J r δ2
  | .ct δ2=>fc tg J r δ2
  | .bk δ2=>.ok (.nx δ2)
  | .rt d=>.ok (.rt d)
  | .rn d=>.ok (.rn d)
def uk (ι:FA) (t:TgD) (J:FS):FS:=fun U=>(ι U).bind fun xs=>fc t J xs U
def BP {B H:Hp} {f:ada->R Fl} {Q:It->Hp->Prop} (I:DI W.K as0 B O own Z U H) (h:bI W as0 B Ob O' (r.bind f) D')
  (q:∀ d J H',az H H'->GivesD W.K as0 (aH own H') J d->bI W as0 B Ob O' (f d) D'->Q J H'):jD W as0 own H r Q:=by
 cases r with
 | ok d=>exact fun J H' s g=>q d J H' s g h
 | er x=>exact fun e C H' s=>h e C H' (I.same.trans s)
 | no=>exact h
def pb {ι:FA} (hp:aaA (Xa X.prog X.w) X.A X.env X.xe) (hi:JI X tg iter (iD W O ι)) (hg:JG X tg (gD W O t)) (hb:JB X body (sD W O O O φ)) (hc:X.calm=true:=by rfl)
  (hs:∀ x,X5 iter X.env x=pure x:=by intro _;rfl):JS X (.For tg iter body [] pos) (sD W Ob O O (uk ι t φ)):=(CA hp hi hg hb hc hs).imp fun D' Z H hh=>fH hh fun as0 B own U I h=>by
 refine ⟨as0,B,own,U,I,BP I h fun xs J H1 s1 G h1=>?_⟩;have I1:=I.mono s1;have I2:=I1.rebase I1.apart;have sB:az B (aH own H1):=I1.baseIn;have h2:=h1.base sB I.ex0;generalize hB':aH own H1=B' at I2 sB h2 G;have ex':∀ a∈as0,B' a≠none:=I2.ex0;refine ⟨fun i m Z H=>m=xs.length - i/\i<=xs.length/\∃ own U,DI W.K as0 B' O own Z U H/\bI W as0 B' Ob O (fc t φ (xs.drop i) U) D',⟨xs.length,by simp,Xk _,own,U,I2,by simpa using h2⟩,?_⟩;rintro i m σ3 H3 ⟨rfl,hi,own3,δ3,I3,h3⟩;by_cases hlt:i < xs.length
 .refine .inr ⟨G.go i H3 ((ax _ _).trans I3.same) hlt,fun σ' H'=>∃ own U,DI W.K as0 B' O own σ' U H'/\bI W as0 B' Ob O (fc t φ (xs.drop (i+1)) U) D',fun σ' H' ⟨own',δ',I',h'⟩=>⟨xs.length - (i+1),by omega,rfl,hlt,own',δ',I',h'⟩,fun v H4 y=>?_⟩;obtain ⟨s4,d,hd,dv⟩:=G.yl i H3 v H4 (own3++as0) ((ax _ _).trans I3.same) I3.exi (fun a ha=>by
   rcases DO.mp ha with z|z
   .exact .inr (I3.fresh a z)
   .exact .inl z) hlt y
  have ed:xs.drop i=d::xs.drop (i+1):=by
   rw [YZ hlt];rw [rW hlt] at hd;cases hd;rfl
  rw [ed] at h3;refine ⟨as0,B',own3,δ3,d,I3.mono s4,dv,?_⟩;have h3':bI W as0 B' Ob O ((jd t d δ3).bind fun δ1=>(φ δ1).bind fun f=>match f with
   | .nx L=>fc t φ (xs.drop (i+1)) L
   | .ct L=>fc t φ (xs.drop (i+1)) L
   | .bk L=>.ok (.nx L)
   | .rt d=>.ok (.rt d)
   | .rn d=>.ok (.rn d)) D':=h3
  cases hb1:jd t d δ3 with
  | ok δ1 =>
   rw [hb1] at h3';refine fun σ' I'=>⟨as0,B',own3,δ1,I',?_⟩;have Y:bI W as0 B' Ob O ((φ δ1).bind fun f=>match f with
    | .nx L=>fc t φ (xs.drop (i+1)) L
    | .ct L=>fc t φ (xs.drop (i+1)) L
    | .bk L=>.ok (.nx L)
    | .rt d=>.ok (.rt d)
    | .rn d=>.ok (.rn d)) D':=h3'
   cases hr:φ δ1 with
   | ok f =>
    rw [hr] at Y;cases f with
    | nx L=>exact fun own' σ' H' I'=>⟨own',L,I',Y⟩
    | ct L=>exact fun own' σ' H' I'=>⟨own',L,I',Y⟩
    | bk L=>exact Y
    | rt d=>exact Y
    | rn d=>exact Y
   | er x=>rw [hr] at Y;exact Y
   | no=>rw [hr] at Y;exact Y
  | er x=>unfold jd at hb1;split at hb1 <;> first|cases hb1|(split at hb1 <;> cases hb1)
  | no=>rw [hb1] at h3';exact h3'.elim
 .have e:i=xs.length:=by omega
  subst e;rw [aai] at h3;exact .inl ⟨G.stop H3 ((ax _ _).trans I3.same),h3 own3 σ3 H3 I3⟩
def dr (τ:FT) (J:FS):Nat->Sd->R Fl
 | 0,_=>.no
 | n+1,U=>(τ U).bind fun b=>if b=true then (J U).bind fun f=>match f with
  | .nx δ2=>dr τ J n δ2
  | .ct δ2=>dr τ J n δ2
  | .bk δ2=>.ok (.nx δ2)
  | .rt d=>.ok (.rt d)
  | .rn d=>.ok (.rn d)
  else .ok (.nx U)
def tI {body:List Yj} (n:Nat) (hp:aaA (Xa X.prog X.w) X.A X.env X.xe) (hc:JT X c (rS W O τ)) (hb:JB X body (sD W O O O φ)):JS X (.While c body [] pos) (sD W Ob O O (dr τ φ n)):=(HZ hp hc hb).imp fun D' Z H hh=>fH hh fun as0 B own U I h=>by
 refine ⟨fun m Z H=>∃ own U,DI W.K as0 B O own Z U H/\bI W as0 B Ob O (dr τ φ m U) D',⟨n,own,U,I,h⟩,?_⟩;rintro m σ3 H3 ⟨own3,δ3,I3,h3⟩;cases m with
 | zero=>exact h3.elim
 | succ m =>
  refine ⟨as0,B,own3,δ3,I3,uL I3 h3 fun b H4 s4 h4=>?_⟩;cases b with
  | false=>exact h4 own3 σ3 H4 (I3.mono s4)
  | true =>
   refine ⟨fun σ' H'=>∃ own U,DI W.K as0 B O own σ' U H'/\bI W as0 B Ob O (dr τ φ m U) D',fun σ' H' q=>⟨m,Ze m,q⟩,as0,B,own3,δ3,I3.mono s4,?_⟩;have L:bI W as0 B Ob O ((φ δ3).bind fun f=>match f with
    | .nx J=>dr τ φ m J
    | .ct J=>dr τ φ m J
    | .bk J=>.ok (.nx J)
    | .rt d=>.ok (.rt d)
    | .rn d=>.ok (.rn d)) D':=h4
   cases hr:φ δ3 with
   | ok f =>
    rw [hr] at L;cases f with
    | nx J=>exact fun Y σ' H' I'=>⟨Y,J,I',L⟩
    | ct J=>exact fun Y σ' H' I'=>⟨Y,J,I',L⟩
    | bk J=>exact L
    | rt d=>exact L
    | rn d=>exact L
   | er x=>rw [hr] at L;exact L
   | no=>rw [hr] at L;exact L
end
def R.calm {α:Type}:R α->R α
 | .ok a=>.ok a
 | _=>.no
def gM (ix:List (Option Nat)) (U:Sd):Sd:=ix.map fun o=>o.bind fun j=>(U[j]?).getD none
def xo:TgD->Sd->Bool
 | .one i,U=>match U[i]? with
  | some none=>true
  | _=>false
 | .tup is,U=>is.all fun i=>match U[i]? with
  | some none=>true
  | _=>false
def iT (tg:TgD) (τ:FT) (ε:FE) (J:Sd):ada->R (ada)
 | []=>.ok []
 | x::r=>(jd tg x J).bind fun L=>(τ L).bind fun b=>if b=true then (ε L).bind fun y=>(iT tg τ ε J r).bind fun ys=>.ok (y::ys) else iT tg τ ε J r
def cC (tg:TgD) (τ:FT) (ε:FE) (J:Sd) (xs:ada):R D:=if xo tg J=true/\xs.length<=1000000 then (iT tg τ ε J xs).calm.bind fun ys=>.ok (.lst ys) else .no
def fv (ix:List (Option Nat)) (ι:FA) (tg:TgD) (τ:FT) (ε:FE):FE:=fun U=>(ι U).bind fun xs=>cC tg τ ε (gM ix U) xs
def n9:FT:=fun _=>.ok true
def vQ:∀ (is:ac2) (ds:ada) (J U:Sd),(∀ (i:Nat),i∈is->J[i]?=some none)->(∀ (i:Nat) (d:D),J[i]?=some (some d)->U[i]?=some (some d))->∀ (i:Nat) (d:D),J[i]?=some (some d)->(jC is ds U)[i]?=some (some d)
 | [],_,_,_,_,h=>by intro i d e;unfold jC;exact h i d e
 | _::_,[],_,_,_,h=>by intro i d e;unfold jC;exact h i d e
 | j::is,x::ds,J,U,hn,h=>by
  intro i d e;unfold jC;refine vQ is ds J _ (fun i hi=>hn i (lT _ hi)) (fun i d e=>?_) i d e;have L:j≠i:=fun z=>by
   have:=hn j W6
   rw [z,e] at this;cases this
  rw [getElem?_set',acX L];exact h i d e
def Gk (hf:xo tg δ0=true) (h:jd tg x δ0=.ok δ1):∀ (i:Nat) (d:D),δ0[i]?=some (some d)->δ1[i]?=some (some d):=by
 cases tg with
 | one j =>
  cases h;intro i d e;have L:j≠i:=fun z=>by
   subst z;have J:(match δ0[j]? with|some none=>true|_=>false)=true:=hf
   rw [e] at J;cases J
  rw [getElem?_set',acX L];exact e
 | tup is =>
  cases x with
  | tup ds =>
   have h':(if ds.length=is.length then R.ok (jC is ds δ0) else .no)=.ok δ1:=h;split at h'
   .cases h';refine vQ is ds δ0 δ0 (fun i hi=>?_) fun i d e=>e;have J:(is.all fun i=>match δ0[i]? with|some none=>true|_=>false)=true:=hf
    have:=XW.mp J i hi
    split at this
    .assumption
    .cases this
   .cases h'
  | _=>cases h
def yc:∀ (is:ac2) (ds:ada) (U:Sd),(jC is ds U).length=U.length
 | [],_,_=>by unfold jC;rfl
 | _::_,[],_=>by unfold jC;rfl
 | j::is,x::ds,U=>by unfold jC;rw [yc is ds];simp
def JK (h:jd tg x δ0=.ok δ1):δ1.length=δ0.length:=by
 cases tg with
 | one j=>cases h;simp
 | tup is =>
  cases x with
  | tup ds =>
   have h':(if ds.length=is.length then R.ok (jC is ds δ0) else .no)=.ok δ1:=h;split at h'
   .cases h';exact yc _ _ _
   .cases h'
  | _=>cases h
def DI.plain {K:aT} {M:ac7} {H:Hp} {Z:St} {U:Sd} (L:U.length=Z.length) (ex:∀ a∈M,H a≠none) (J:∀ (i:Nat) (d:D),U[i]?=some (some d)->∃ v,Z[i]?=some (some v)/\cS K (aH M H) d v):DI K M H [] [] Z U H :=
 ⟨L,rfl,Ye,Ye,fun a Y=>(nomatch Y),ex,az.refl _,fun i d _ e=>J i d e,fun i a h=>(by simp at h)⟩
section
variable {X:Cx} {W Wb:Wd} {O:ac2} {osc:Scope} {ON N:ac3} {ix:List (Option Nat)} {scope:Scope} {tg elt iter:Yb} {ifs:List Yb} {pos:Pos} {ι:FA} {t:TgD} {τ:FT} {ε:FE}
def iJ:JTs X [] (rS W O n9):=MB.imp fun Z H Q J=>fH J fun as0 B own U I h=>h H (az.refl _)
def zM (h:JT X c (rS W O τ)):JTs X [c] (rS W O τ):=Nu h
def M2 {K:aT} {as0 own:ac7} {B H:Hp} {Z:St} {U:Sd} (I:DI K as0 B O own Z U H) (L:∀ j∈ix,∀ k,j=some k->k∉O):∀ (i:Nat) (d:D),(gM ix U)[i]?=some (some d)->∃ v,(oU ix Z)[i]?=some (some v)/\cS K (aH (own++as0) H) d v:=by
 intro i d e;unfold gM at e;unfold oU;rw [Xw] at e ⊢;cases h:ix[i]? with
 | none=>rw [h] at e;cases e
 | some o =>
  rw [h] at e;cases o with
  | none=>cases e
  | some j =>
   have J:(U[j]?).getD none=some d:=Xp e;have Y:U[j]?=some (some d):=by
    cases q:U[j]? with
    | none=>rw [q] at J;cases J
    | some w=>rw [q] at J;rw [<- J];rfl
   obtain ⟨v,h1,h2⟩:=I.var j d (L _ (Yx h) j rfl) Y;exact ⟨v,by show some ((Z[j]?).getD none)=_;rw [h1];rfl,h2⟩
structure GivesC (K:aT) (M:ac7) (H:Hp) (J:It) (xs:ada):Prop where
 go:∀ i H1,az H H1->i < xs.length->J.go i H1
 yl:∀ i H1 v H2 acc,az H H1->H acc=none->(∀ a∈acc::M,H1 a≠none)->i < xs.length->J.yld i H1 v H2->az H1 H2/\∃ d,xs[i]?=some d/\cS K (aH (acc::M) H2) d v
 stop:∀ H1,az H H1->J.stop xs.length H1
def GivesD.comp {K:aT} {as0 own:ac7} {H:Hp} {J:It} {xs:ada} (G:GivesD K as0 (aH own H) J xs):GivesC K (own++as0) H J xs where
 go:=fun i H1 s hi=>G.go i H1 ((ax _ _).trans ((ax _ _).trans s)) hi
 yl:=fun i H1 v H2 acc s L hex hi y=>G.yl i H1 v H2 (acc::(own++as0)) ((ax _ _).trans ((ax _ _).trans s)) hex (fun a Y=>by
  rcases iN.mp Y with rfl|Y
  .right
   cases z:aH own H a with
   | none=>rfl
   | some u=>have:=ax _ _ _ _ z;rw [L] at this;cases this
  .rcases DO.mp Y with z|z
   .exact .inr (cU z)
   .exact .inl z) hi y
 stop:=fun H1 s=>G.stop H1 ((ax _ _).trans ((ax _ _).trans s))
def As (tg:TgD) (τ:FT) (ε:FE) (J:Sd) (xs:ada):R D:=if xo tg J=true/\xs.length<=1000000 then (iT tg τ ε J xs).bind fun ys=>.ok (.lst ys) else .no
def FU {tg:TgD} {d:D} {U:Sd} {x:Str} (h:jd tg d U=.er x):False:=by
 cases tg with
 | one i=>cases h
 | tup is =>
  cases d with
  | tup ds =>
   have h':(if ds.length=is.length then R.ok (jC is ds U) else .no)=.er x:=h;split at h' <;> cases h'
  | _=>cases h
def Kp {K:aT} {as0 own:ac7} {B H:Hp} {Z:St} {U:Sd} {xs:ada} {J:It} {Q:VK} (hWb:Wb.K=K) (I:DI K as0 B O own Z U H) (hO:∀ j∈ix,∀ k,j=some k->k∉O) (G:GivesC K (own++as0) H J xs)
  (hq:match As t τ ε (gM ix U) xs with
   | .ok d=>∀ p o H',az H H'->H p=none->H' p=some o->nY K (aH (p::(own++as0)) H') o d->Q (.ref p) H'
   | .er x=>∀ e C H',az H H'->Wb.mg x=some (.ref C)->Wb.E e (some C) H'
   | .no=>False):zH (gD Wb [] t) (rS Wb [] τ) (tD Wb [] ε) J (oU ix Z) H Q:=by
 intro acc Y;unfold As at hq;by_cases hc:xo t (gM ix U)=true/\xs.length<=1000000
 .rw [acW hc] at hq;obtain ⟨hf,hlen⟩:=hc;generalize hall:iT t τ ε (gM ix U) xs=ra at hq;have hq':∀ (es:ada) (r:R (ada)),ra=(r.bind fun rest=>.ok (es++rest))->match r with
    | .ok rest=>∀ p o H',az H H'->H p=none->H' p=some o->nY K (aH (p::(own++as0)) H') o (.lst (es++rest))->Q (.ref p) H'
    | .er x=>∀ e C H',az H H'->Wb.mg x=some (.ref C)->Wb.E e (some C) H'
    | .no=>False:=fun es r e=>by
   subst e;cases r with
   | ok rest=>exact hq
   | er x=>exact hq
   | no=>exact hq
  clear hq;generalize hδ0:gM ix U=δ0 at hf hall;have cl:δ0.length=(oU ix Z).length:=by rw [<- hδ0];unfold gM oU;simp
  have cv:∀ (i:Nat) (d:D),δ0[i]?=some (some d)->∃ v,(oU ix Z)[i]?=some (some v)/\cS K (aH (own++as0) H) d v:=by rw [<- hδ0];exact M2 I hO
  generalize oU ix Z=σ0 at cl cv;have exM0:=I.exi;generalize hM:own++as0=M at cv hq' G exM0;have exM:∀ a∈M,H a≠none:=exM0;have naM:acc∉M:=fun z=>exM acc z Y
  have exA:∀ {H':Hp},az H H'->(∃ o,H' acc=some o)->∀ a∈acc::M,H' a≠none:=fun {H'} s ⟨o,e⟩ a ha=>by
   rcases iN.mp ha with rfl|ha
   .rw [e];simp
   .cases q:H a with
    | none=>exact absurd q (exM a ha)
    | some u=>rw [s a u q];simp
  have s0:az H (upd H acc (.lst [])):=aU Y _;have start:ra=((iT t τ ε δ0 (xs.drop 0)).bind fun rest=>.ok ([]++rest)):=by
   rw [<- hall,Z8];cases iT t τ ε δ0 xs <;> rfl
  refine ⟨fun i m σ' H'=>m=xs.length - i/\i<=xs.length/\∃ ys es,H' acc=some (.lst ys)/\ys.length<=i/\az H H'/\aJ K (aH (acc::M) H') es ys/\ra=((iT t τ ε δ0 (xs.drop i)).bind fun rest=>.ok (es++rest))/\DI K (acc::M) H' [] [] σ' δ0 H',
   ⟨xs.length,by simp,Xk _,[],[],aS,Xk _,s0,rfl,start,DI.plain cl (exA s0 ⟨_,aS⟩) fun i d e=>let ⟨v,h1,h2⟩:=cv i d e;⟨v,h1,h2.mono (ji Y s0)⟩⟩,?_⟩
  rintro i m σ1 H1 ⟨rfl,hi,ys,es,e1,hl1,s1,d1,L,I1⟩;have sB:az H H1:=s1;by_cases hlt:i < xs.length
  .refine .inr ⟨G.go i H1 sB hlt,fun σ' H'=>∃ ys es,H' acc=some (.lst ys)/\ys.length<=i+1/\az H H'/\aJ K (aH (acc::M) H') es ys/\ra=((iT t τ ε δ0 (xs.drop (i+1))).bind fun rest=>.ok (es++rest))/\DI K (acc::M) H' [] [] σ' δ0 H',
    fun σ' H' ⟨ys,es,q⟩=>⟨xs.length - (i+1),by omega,rfl,hlt,ys,es,q⟩,fun v H2 y=>?_⟩
   obtain ⟨s2,d,hd,dv⟩:=G.yl i H1 v H2 acc sB Y (exA s1 ⟨_,e1⟩) hlt y;have ed:xs.drop i=d::xs.drop (i+1):=by
    rw [YZ hlt];rw [rW hlt] at hd;cases hd;rfl
   rw [ed] at L;have L:ra=(((jd t d δ0).bind fun δ1=>(τ δ1).bind fun b=>if b=true then (ε δ1).bind fun y=>(iT t τ ε δ0 (xs.drop (i+1))).bind fun ys=>.ok (y::ys) else iT t τ ε δ0 (xs.drop (i+1))).bind fun rest=>.ok (es++rest)):=L;cases b1:jd t d δ0 with
   | er x=>exact (FU b1).elim
   | no=>rw [b1] at L;exact (hq' es .no L).elim
   | ok δ1 =>
    rw [b1,aD] at L;have I2:DI K (acc::M) H2 [] [] σ1 δ0 H2:=DI.plain I1.len (exA (s1.trans s2) ⟨_,s2 _ _ e1⟩) fun i d e=>let ⟨v,h1,h2⟩:=I1.var i d (by simp) e;⟨v,h1,h2.mono (aW s2)⟩;have again:∀ {σ3:St} {H3 H4:Hp},DI K (acc::M) H2 [] [] σ3 δ1 H3->az (aH (acc::M) H3) (aH (acc::M) H4)->(∀ a∈acc::M,H4 a≠none)->DI K (acc::M) H4 [] [] σ3 δ0 H4:=fun {σ3 H3 H4} I3 s34 ex4 =>
     DI.plain (by rw [<- JK b1];exact I3.len) ex4 fun i d e=>let ⟨v,h1,h2⟩:=I3.var i d (by simp) (Gk hf b1 i d e);⟨v,h1,h2.mono s34⟩
    refine ⟨acc::M,H2,[],δ0,d,by rw [hWb];exact I2,by rw [hWb];exact dv,?_⟩;rw [b1];refine fun σ3 I3=>⟨acc::M,H2,[],δ1,I3,?_⟩;rw [hWb] at I3;cases b2:τ δ1 with
    | er x=>rw [b2] at L;exact fun e C H' s' hm=>hq' es (.er x) L e C H' ((s1.trans s2).trans (I3.same.trans s')) hm
    | no=>rw [b2] at L;exact (hq' es .no L).elim
    | ok b =>
     rw [b2,aD] at L;refine fun H3 s3=>?_;have I3':=I3.mono s3;have s13:az H1 H3:=s2.trans (I3.same.trans s3);cases b with
     | false =>
      rw [acX nE] at L;exact ⟨ys,es,s13 _ _ e1,by omega,s1.trans s13,d1.mono (aW s13),L,again I3' (az.refl _) (exA (s1.trans s13) ⟨_,s13 _ _ e1⟩)⟩
     | true =>
      rw [acW rfl] at L;refine ⟨acc::M,H2,[],δ1,by rw [hWb];exact I3',?_⟩;cases b3:ε δ1 with
      | er x=>rw [b3] at L;exact fun e C H' s' hm=>hq' es (.er x) L e C H' ((s1.trans s13).trans s') hm
      | no=>rw [b3] at L;exact (hq' es .no L).elim
      | ok y' =>
       rw [b3,aD] at L;refine fun v4 H4 s4 d4=>?_;rw [hWb] at d4;have s14:az H1 H4:=s13.trans s4;have e4:=s14 _ _ e1;have hm:=eG;have same5:az (aH (acc::M) H4) (aH (acc::M) (upd H4 acc (.lst (ys++[v4])))):=fun b o e=>by
        by_cases hb:b∈acc::M
        .rw [cU hb] at e;cases e
        .rw [aO hb] at e ⊢;rw [aM (fun z=>hb (by rw [z];exact W6))];exact e
       have s5:az H (upd H4 acc (.lst (ys++[v4]))):=fun b o e=>by
        rw [aM (bB e Y)];exact (s1.trans s14) b o e
       refine ⟨ys,e4,by omega,ys++[v4],es++[y'],aS,by simp;omega,s5,?_,?_,again I3' ((aW s4).trans same5) (exA s5 ⟨_,aS⟩)⟩
       .exact (aJ.append (d1.mono (aW s14)) (aJ.cons d4 aJ.nil)).mono same5
       .rw [L];cases iT t τ ε δ0 (xs.drop (i+1)) with
        | ok r=>show R.ok _=R.ok _;simp
        | er x=>rfl
        | no=>rfl
  .have e':i=xs.length:=by omega
   subst e';rw [aai] at L;have this:∀ (p:Le) (o:HO) (H':Hp),az H H'->H p=none->H' p=some o->nY K (aH (p::M) H') o (D.lst (es++[]))->Q (V.ref p) H':=hq' es (.ok []) L;rw [XY] at this;exact .inl ⟨G.stop H1 sB,this acc _ H1 s1 Y e1 ⟨ys,rfl,d1⟩⟩
 .rw [acX hc] at hq;exact hq.elim
def fb {K:aT} {as0 own:ac7} {B H:Hp} {Z:St} {U:Sd} {xs:ada} {J:It} {Q:VK} (Y:Wb.K=K) (I:DI K as0 B O own Z U H) (hO:∀ j∈ix,∀ k,j=some k->k∉O) (G:GivesC K (own++as0) H J xs)
  (L:match cC t τ ε (gM ix U) xs with
   | .ok d=>∀ p o H',az H H'->H p=none->H' p=some o->nY K (aH (p::(own++as0)) H') o d->Q (.ref p) H'
   | _=>False):zH (gD Wb [] t) (rS Wb [] τ) (tD Wb [] ε) J (oU ix Z) H Q:=by
 refine Kp Y I hO G ?_;unfold cC at L;unfold As;by_cases hc:xo t (gM ix U)=true/\xs.length<=1000000
 .rw [acW hc] at L ⊢;cases hall:iT t τ ε (gM ix U) xs with
  | ok ys=>rw [hall] at L;exact L
  | er x=>rw [hall] at L;exact L.elim
  | no=>rw [hall] at L;exact L.elim
 .rw [acX hc] at L;exact L.elim
def oG (Y:GM osc ON N ix scope=true) (hi:JI X tg iter (iD W O ι)) (hg:∀ b,JG (u4 X N scope b) tg (gD Wb [] t)) (ht:∀ b,JTs (u4 X N scope b) ifs (rS Wb [] τ)) (he:∀ b,JE (u4 X N scope b) elt (tD Wb [] ε)) (hO:∀ j∈ix,∀ k,j=some k->k∉O)
  (hWb:Wb.K=W.K:=by rfl) (hE:X.env.scope=osc:=by rfl) (L:X.N=ON:=by rfl) (hc:X.calm=true:=by rfl) (hs:∀ x,X5 iter X.env x=pure x:=by intro _;rfl):JE X (.ListComp elt [⟨tg,iter,ifs,0⟩] scope pos) (tN W O (fv ix ι t τ ε)) :=
 (P0 Y hi hg ht he hE L hc hs).imp fun Z H Q hh=>fH hh fun as0 B own U I h=>⟨as0,B,own,U,I,by
  unfold fv at h;cases hr:ι U with
  | no=>rw [hr] at h;exact h.elim
  | er x=>rw [hr] at h;exact h
  | ok xs =>
   rw [hr] at h;refine fun J H1 s1 G=>fb hWb (I.mono s1) hO G.comp ?_;have h':iS W (own++as0) H (cC t τ ε (gM ix U) xs) Q:=h;cases hq:cC t τ ε (gM ix U) xs with
   | ok d=>rw [hq] at h';exact fun p o H' s hp=>h' p o H' (s1.trans s) (s1.free hp)
   | er x =>
    unfold cC at hq;split at hq
    .cases hc:iT t τ ε (gM ix U) xs <;> rw [hc] at hq <;> cases hq
    .cases hq
   | no=>rw [hq] at h';exact h'.elim⟩
def tJ (hN:X.N.Nodup) (hl:Bv X.env.scope x) (Y:GM osc ON N ix scope=true) (hi:JI X tg iter (iD W O ι)) (hg:∀ b,JG (u4 X N scope b) tg (gD Wb [] t)) (ht:∀ b,JTs (u4 X N scope b) ifs (rS Wb [] τ)) (he:∀ b,JE (u4 X N scope b) elt (tD Wb [] ε)) (hO:∀ j∈ix,∀ k,j=some k->k∉O)
  (hWb:Wb.K=W.K:=by rfl) (hx:X.N[i]?=some x:=by rfl) (hE:X.env.scope=osc:=by rfl) (L:X.N=ON:=by rfl) (hc:X.calm=true:=by rfl)
  (hsw:Zf (.ListComp elt [⟨tg,iter,ifs,0⟩] scope pos) (some (.Name x pos')) spos.line X.env=pure true:=by rfl)
  (hf:X.fn x=true\/X.env.scope.names.lookup x=some .local:=by walk_at"u")
  (hs:∀ x,X5 iter X.env x=pure x:=by intro _;rfl):JS X (.Assign [.Name x pos'] (.ListComp elt [⟨tg,iter,ifs,0⟩] scope pos) spos) (x8 (tN W O (fv ix ι t τ ε)) (lw i)) :=
 (CQ hN hl Y hi hg ht he hx hE L hc hsw hf hs).imp fun D Z H hh=>fH hh fun as0 B own U I h=>⟨as0,B,own,U,I,by
  unfold fv at h;cases hr:ι U with
  | no=>rw [hr] at h;exact h.elim
  | er x=>rw [hr] at h;exact h
  | ok xs =>
   rw [hr] at h;refine fun J H1 s1 G=>fb hWb (I.mono s1) hO G.comp ?_;have h':iS W (own++as0) H (cC t τ ε (gM ix U) xs) (fun x H1=>lw i x Z H1 D.nx):=h;cases hq:cC t τ ε (gM ix U) xs with
   | ok d=>rw [hq] at h';exact fun p o H' s hp=>h' p o H' (s1.trans s) (s1.free hp)
   | er x =>
    unfold cC at hq;split at hq
    .cases hc:iT t τ ε (gM ix U) xs <;> rw [hc] at hq <;> cases hq
    .cases hq
   | no=>rw [hq] at h';exact h'.elim⟩
def Lg {Ob:ac2} {i:Nat} {st:Yj} (L:i∉O) (h:JS X st (x8 (tN W O ε) (lw i))):JS X st (sD W Ob O (i::O) (um i ε)):=h.imp fun D Z H J=>fH J fun as0 B own U I h =>
 ⟨as0,B,own,U,I,oJ I h fun d p o H' s Y e od h'=>by
  split at h'
  .rename_i hl;exact h' _ _ H' (Cg I L s Y e od hl)
  .exact h'.elim⟩
def vJ {Ob:ac2} {i:Nat} {st:Yj} (L:i∉O) (h:JS X st (x8 (tN W O ε) (lw i))):JS X st (sD W Ob O O (bq i ε)):=h.imp fun D Z H J=>fH J fun as0 B own U I h =>
 ⟨as0,B,own,U,I,oJ I h fun d p o H' s Y e od h'=>h' own _ H' ((I.mono s).set L (od.den (I.new Y) e))⟩
end
def nV (N:ac3) (ds:ada):Sd:=ds.map some++Zx (N.length - ds.length) none
def bG (φ:FS) (N P:ac3) (ds:ada):R D:=if ds.length=P.length then (φ (nV N ds)).bind fun f=>match f with
 | .rt d=>.ok d
 | .rn d=>.ok d
 | .nx _=>.ok .non
 | _=>.no
 else .no
def dQ (K:aT) (mg:ac6) (F:ada->R D):Sp:=fun vs H Q _=>∃ as ds,(∀ a∈as,H a≠none)/\aJ K (aH as H) ds vs/\cO ⟨K,mg,E0⟩ as H (F ds) Q
section
variable {P:Xh} {w:Xv} {K:aT} {mg:ac6} {base:YG}
def wd {H:Hp}:∀ {ds:ada} {vs:ac9} {i:Nat} {d:D},aJ K H ds vs->∀ {n:Nat},(ds.map some++Zx n none)[i]?=some (some d)->∃ v,(vs.map some++Zx n none)[i]?=some (some v)/\cS K H d v:=by
 intro ds vs i d h n e;have J:=h.len;by_cases hi:i < ds.length
 .rw [Zy (by simpa using hi),Xw] at e;rw [Zy (by rw [lE,<- J];exact hi),Xw];cases q:ds[i]? with
  | none=>rw [q] at e;cases e
  | some d' =>
   rw [q] at e;cases e;obtain ⟨v,h1,h2⟩:=h.get q;exact ⟨v,by rw [h1];rfl,h2⟩
 .rw [aaG (by simpa using hi),aa4] at e;split at e <;> cases e
def Fun.okD {x L:Str} {st:Yj} {f:Le} {fd:Xz} {N ps:ac3} {k:Nat} {φ:FS} {O':ac2} (F:Fun K x L st f fd) (S:FnScope N ps (au st))
  (hbody:∀ (Y:eQ) (A:Xs) (J:List Env) (s:iF) (H:Hp) (E:XK),Room k (A.deeper (abd L (au st) s.heap.objs.size f Y)) ->
   JB (vR cQ P w K mg base N L (au st) f Y A J s H E).nox (e9 st) (sD ⟨K,mg,E0⟩ [] [] O' φ)):FnOk P w K mg base cQ (k+1) f fd ps (dQ K mg (bG φ N ps)):=by
 refine F.okJ S (fun vs H Q E h=>?_) fun Y A J s H vs Q E hr h=>?_
 .obtain ⟨as,ds,ex,dv,h⟩:=h;unfold bG at h;split at h
  .rename_i hl;rw [<- dv.len];exact hl
  .exact h.elim
 .obtain ⟨as,ds,ex,dv,h⟩:=h;unfold bG at h;split at h
  .rename_i hl;refine ⟨_,hbody Y A J s H E hr,as,H,[],nV N ds,⟨?_,rfl,Ye,Ye,fun a ha=>(nomatch ha),ex,az.refl _,fun i d _ e=>?_,fun i a h=>(by simp at h)⟩,?_⟩
   .unfold nV start;simp [dv.len]
   .unfold nV at e;unfold start;rw [<- dv.len];exact wd dv e
   .cases hr:φ (nV N ds) with
    | ok fl =>
     rw [hr] at h;cases fl with
     | rt d=>exact fun v H' s dv'=>h v H' s dv'
     | rn d=>exact fun p o H' s hp e od=>h (.ref p) H' s (od.den (fun z=>ex p z hp) e)
     | nx U=>exact fun own Z H' I=>h .non H' I.same rfl
     | bk U=>exact h.elim
     | ct U=>exact h.elim
    | er x=>rw [hr] at h;exact fun e C H' s=>h e C H' s
    | no=>rw [hr] at h;exact h.elim
  .exact h.elim
section
variable {X:Cx} {O:ac2} {x:Str} {st:Yj} {ps:ac3} {f:Le} {fd:Xz} {j k:Nat} {F:ada->R D} {p pos:Pos} {e:Yb} {es:List Yb} {α:FA}
def aN (D:Def X.K X.mg x st ps f fd) (G:FnOk X.prog X.w X.K X.mg X.base cQ j f fd ps (dQ K mg F)) (L:Room k X.A) (ha:JA X (e::es) (xG ⟨K,mg,E0⟩ O α)) (hj:j<=k:=by decide) (Y:Gl X x:=by rfl) (J:adb x:=by decide)
  (h1:aX e=true:=by rfl) (h2:es.all aX=true:=by rfl):JE X (.Call (.Name x p) (e::es) [] pos) (tD ⟨K,mg,E0⟩ O (ao F α)) :=
 (Rc D G L ha hj Y J h1 h2).imp fun Z H Q hh=>fH hh fun as0 B own U I h=>⟨as0,B,own,U,I,eI h fun ds vs H1 s1 d1 h1=>⟨own++as0,ds,(I.mono s1).exi,d1,h1⟩⟩
end
section
variable {K:aT} {mg:ac6} {X:Cx} {O:ac2} {x:Str} {st:Yj} {ps:ac3} {f:Le} {fd:Xz} {j k:Nat} {F:ada->R D} {p pos:Pos} {e:Yb} {es:List Yb} {α:FA}
def Co {H:Hp} {Q:VK} {g:ada->R D} {Q':ac9->Hp->Prop} (h:iS W as H (r.bind g) Q) (q:∀ d v H',az H H'->aJ W.K (aH as H') d v->iS W as H' (g d) Q->Q' v H'):jA W as H r Q':=i6 h q
end
def PF {a:Le} {J:List Int} {H:Hp} {F:ada->R D} {Q:VK} {E:XK} (L:il K H a (J.map V.int)) (h:F [.lst (J.map D.int)]=.ok (.bl true)) (q:∀ H',Q (.bl true) H'):dQ K mg F [.ref a] H Q E:=by
 refine ⟨[],[.lst (J.map D.int)],fun a ha=>(nomatch ha),⟨.ref a,[],rfl,⟨a,J.map V.int,rfl,by rw [sv];exact L,?_⟩,rfl⟩,?_⟩
 .clear h L;induction J with
  | nil=>exact rfl
  | cons n r ih=>exact ⟨_,_,rfl,rfl,ih⟩
 .rw [h];intro v H' s Y;cases Y;exact q H'
end
section
variable {W:Wd} {X:Cx}
def aP {H:Hp} {Q:VK} (h:cO W as H (.ok d) Q) (J:cS W.K (aH as H) d v):Q v H:=h v H (az.refl _) J
def NF:eZ X (YD .Add) (fun x y H Q=>∃ l b xs zs,x=.ref l/\y=.ref b/\il X.K H l xs/\il X.K H b zs/\xs.length+zs.length<=Xd/\∀ p,H p=none->Q (.ref p) (upd H p (.lst (xs++zs)))):=by
 intro af s Z H x y v u Q I rx ry h;obtain ⟨l,b,xs,zs,rfl,rfl,hH,hB,hz,q⟩:=h;cases rx;cases ry;obtain ⟨its,r,pl,hl⟩:=I.list hH;obtain ⟨J,r2,pl2,hl2⟩:=I.list hB;obtain ⟨⟨cls,dd,data,sl⟩,ho,hc,n,hd⟩:=pl.isList;obtain ⟨⟨cls2,dd2,data2,sl2⟩,ho2,Y,n2,L⟩:=pl2.isList;simp only at hc hd Y L;subst hc hd Y L;have e:its.toArray++J.toArray=(its++J).toArray:=by simp
 refine concat_meets ⟨_,ho,rfl⟩ ⟨_,ho2,rfl⟩ noFill_list_add seq_list_add PySem.F.slot_list_add PySem.F.entry_list_add (PySem.F.args_list_add_2 _ _) (list_addW l b its.toArray J.toArray n n2 dd dd2 sl sl2 (by rw [Do,Do,<- r.length,<- r2.length];exact hz)) ⟨ho,ho2,?_⟩;rw [e];exact ⟨.ref _,_,I.lnew (t':=s.toks) (r.append r2) (by rw [BY];exact hz),rfl,q _ I.fresh⟩
def El (K:aT):R2:=fun x y H Q=>match x,y with
 | .int i,.int j=>Q (.int (i+j)) H
 | .str i,.str j=>i.length+j.length<=Xd/\Q (.str (i++j)) H
 | .ref l,.ref b=>(∃ xs zs,il K H l xs/\il K H b zs/\xs.length+zs.length<=Xd/\∀ p,H p=none->Q (.ref p) (upd H p (.lst (xs++zs)))) \/
   ∃ xs zs,l6 K H l xs/\l6 K H b zs/\xs≠[]/\xs.length+zs.length<=Xd/\(zs=[]->Q (.ref l) H)/\(zs≠[]->∀ p,H p=none->Q (.ref p) (upd H p (.tup (xs++zs))))
 | _,_=>False
def Op (K:aT) (hK:X.K=K:=by rfl):eZ X (YD .Add) (El K):=by
 subst hK;refine ((QZ.or CV).or (NF.or Md)).imp fun x y H Q q=>?_;unfold El at q;split at q
 .exact .inl (.inl ⟨_,_,rfl,rfl,q⟩)
 .exact .inl (.inr ⟨_,_,rfl,rfl,q.1,q.2⟩)
 .rcases q with ⟨xs,zs,h1,h2,L,J⟩|⟨xs,zs,h1,h2,L,J,Y,h6⟩
  .exact .inr (.inl ⟨_,_,xs,zs,rfl,rfl,h1,h2,L,J⟩)
  .exact .inr (.inr ⟨_,_,xs,zs,rfl,rfl,h1,h2,L,J,Y,h6⟩)
 .exact q.elim
def cj (a b:D):R D:=match a,b with
 | .int i,.int j=>.ok (.int (i+j))
 | .str x,.str y=>if x.length+y.length<=1000000 then .ok (.str (x++y)) else .no
 | .lst xs,.lst ys=>if xs.length+ys.length<=1000000 then .ok (.lst (xs++ys)) else .no
 | .tup xs,.tup ys=>if xs.isEmpty=false/\xs.length+ys.length<=1000000 then .ok (.tup (xs++ys)) else .no
 | _,_=>.no
def RI (K:aT) (hW:W.K=K:=by rfl):rE W (El K) cj:=by
 subst hW;intro as H x y a b Q hn Y db h;unfold cj at h;split at h
 .cases Y;cases db;exact aP h rfl
 .cases Y;cases db;split at h
  .rename_i J;exact ⟨IF J eG,aP h rfl⟩
  .exact h.elim
 .rename_i xs ys;obtain ⟨p,vs,rfl,q1,q2⟩:=Y;obtain ⟨p2,ws,rfl,q3,q4⟩:=db;split at h
  .rename_i J;rw [q2.len,q4.len] at J;refine .inl ⟨vs,ws,(ax _ _).seq q1,(ax _ _).seq q3,IF J eG,fun p L=>?_⟩;refine h _ _ (aU L _) ⟨p,vs++ws,rfl,.inl (.inl (by rw [aO (hn p L)];exact aS)),(q2.append q4).mono (aW (aU L _))⟩
  .exact h.elim
 .rename_i xs ys;obtain ⟨p,vs,rfl,q1,q2⟩:=Y;obtain ⟨p2,ws,rfl,q3,q4⟩:=db;split at h
  .rename_i J;obtain ⟨he,J⟩:=J;have he':vs≠[]:=fun z=>by
    have:=q2.empty
    rw [he,z] at this;cases this
   rw [q2.len,q4.len] at J;refine .inr ⟨vs,ws,(ax _ _).seqT q1,(ax _ _).seqT q3,he',IF J eG,fun z=>?_,fun z p L=>?_⟩
   .have:ys=[]:=by
     cases ys with
     | nil=>rfl
     | cons d r=>obtain ⟨_,_,e,_⟩:=q4;rw [z] at e;cases e
    subst this;rw [XY] at h;exact aP h ⟨p,vs,rfl,q1,q2⟩
   .exact h _ _ (aU L _) ⟨p,vs++ws,rfl,.inl (.inl (by rw [aO (hn p L)];exact aS)),(q2.append q4).mono (aW (aU L _))⟩
  .exact h.elim
 .exact h.elim
def zL (a b:D):R D:=match a,b with
 | .int i,.int j=>.ok (.int (i - j))
 | _,_=>.no
def Q0:rE W O9 zL:=by
 intro as H x y a b Q hn L J h;unfold zL at h;split at h
 .cases L;cases J;exact aP h rfl
 .exact h.elim
def DU:eZ X (YD .Mult) (fun x y H Q=>∃ i n,x=.str i/\y=.int n/\MulOk i n/\Q (.str (Txt.mul i n)) H):=by
 intro af s Z H x y v u Q I rx J h;obtain ⟨i,n,rfl,rfl,L,q⟩:=h;obtain ⟨t,rfl⟩:=rx;obtain ⟨t',rfl⟩:=J;exact bf I.tk (SB.mul L fun t' k Y=>⟨.str _,H,I.tok _,⟨t',rfl⟩,q⟩)
def Je:R2:=fun x y H Q=>match x,y with
 | .int i,.int j=>Da i j/\Q (.int (i*j)) H
 | .str i,.int j=>MulOk i j/\Q (.str (Txt.mul i j)) H
 | _,_=>False
def So:eZ X (YD .Mult) Je:=(OO.or DU).imp fun x y H Q q=>by
 unfold Je at q;split at q
 .exact .inl ⟨_,_,rfl,rfl,q.1,q.2⟩
 .exact .inr ⟨_,_,rfl,rfl,q.1,q.2⟩
 .exact q.elim
instance (i j:Int):Decidable (Da i j):=by unfold Da;infer_instance
instance (i j:Int):Decidable (Jt i j):=by unfold Jt;infer_instance
instance (i j:Int):Decidable (Il i j):=by unfold Il;infer_instance
def oF (a b:D):R D:=match a,b with
 | .int i,.int j=>if Da i j then .ok (.int (i*j)) else .no
 | .str x,.int n=>if x.length<=1000/\-1000<=n/\n<=1000 then .ok (.str (Txt.mul x n)) else .no
 | _,_=>.no
def VF:rE W Je oF:=by
 intro as H x y a b Q hn L J h;unfold oF at h;split at h
 .cases L;cases J;split at h
  .rename_i hl;exact ⟨hl,aP h rfl⟩
  .exact h.elim
 .cases L;cases J;split at h
  .rename_i hl;exact ⟨mulOk_of 1000 1000 hl.1 (by omega) (by omega) (by decide) (by decide),aP h rfl⟩
  .exact h.elim
 .exact h.elim
def lR (a b:D):R D:=match a,b with
 | .int i,.int j=>if Jt i j then .ok (.int (i/j)) else .no
 | _,_=>.no
def V9:rE W PU lR:=by
 intro as H x y a b Q hn L J h;unfold lR at h;split at h
 .cases L;cases J;split at h
  .rename_i hl;exact ⟨hl,aP h rfl⟩
  .exact h.elim
 .exact h.elim
def iC (a b:D):R D:=match a,b with
 | .int i,.int j=>if 0 < j then .ok (.int (i % j)) else .no
 | _,_=>.no
def Wq:rE W O6 iC:=by
 intro as H x y a b Q hn L J h;unfold iC at h;split at h
 .cases L;cases J;split at h
  .rename_i hl;exact ⟨hl,aP h rfl⟩
  .exact h.elim
 .exact h.elim
def xK (a b:D):R D:=match a,b with
 | .int i,.int j=>if Il i j then .ok (.int (i ^ j.toNat)) else .no
 | _,_=>.no
def QT:rE W OS xK:=by
 intro as H x y a b Q hn L J h;unfold xK at h;split at h
 .cases L;cases J;split at h
  .rename_i hl;exact ⟨hl,aP h rfl⟩
  .exact h.elim
 .exact h.elim
def B4 (a:D):R D:=match a with
 | .int i=>.ok (.int (-i))
 | _=>.no
def Rf:WH W QM B4:=by
 intro as H x a Q J h;unfold B4 at h;split at h
 .cases J;exact aP h rfl
 .exact h.elim
def AD (a b:D):R D:=match a,b with
 | .int i,.int j=>.ok (.bl (decide (i < j)))
 | .str i,.str j=>.ok (.bl (decide (i.cps.toList < j.cps.toList)))
 | _,_=>.no
def L5 (a b:D):R D:=match a,b with
 | .int i,.int j=>.ok (.bl (decide (i<=j)))
 | .str i,.str j=>.ok (.bl (!decide (j.cps.toList < i.cps.toList)))
 | _,_=>.no
def Qb (a b:D):R D:=match a,b with
 | .int i,.int j=>.ok (.bl (decide (j < i)))
 | .str i,.str j=>.ok (.bl (decide (j.cps.toList < i.cps.toList)))
 | _,_=>.no
def Lb (a b:D):R D:=match a,b with
 | .int i,.int j=>.ok (.bl (decide (j<=i)))
 | .str i,.str j=>.ok (.bl (!decide (i.cps.toList < j.cps.toList)))
 | _,_=>.no
def L4:rE W Vr AD:=by
 intro as H x y a b Q hn L J h;unfold AD at h;split at h
 .cases L;cases J;exact aP h rfl
 .cases L;cases J;exact aP h rfl
 .exact h.elim
def UU:rE W VQ L5:=by
 intro as H x y a b Q hn L J h;unfold L5 at h;split at h
 .cases L;cases J;exact aP h rfl
 .cases L;cases J;exact aP h rfl
 .exact h.elim
def Wm:rE W VC Qb:=by
 intro as H x y a b Q hn L J h;unfold Qb at h;split at h
 .cases L;cases J;exact aP h rfl
 .cases L;cases J;exact aP h rfl
 .exact h.elim
def UQ:rE W Wf Lb:=by
 intro as H x y a b Q hn L J h;unfold Lb at h;split at h
 .cases L;cases J;exact aP h rfl
 .cases L;cases J;exact aP h rfl
 .exact h.elim
def WG:D->Bool
 | .non=>true
 | _=>false
def WZ (j:Bool):D->Bool
 | .bl i=>i==j
 | _=>false
def QJ (x:D) (y:D):R D:=match y with
 | .non=>.ok (.bl (WG x))
 | .bl j=>.ok (.bl (WZ j x))
 | _=>.no
def G5 {K:aT} {H:Hp} {a:D} {x:V} (h:cS K H a x):K3 x .non=WG a:=by
 cases a with
 | lst _=>obtain ⟨_,_,rfl,_⟩:=h;rfl
 | tup _=>obtain ⟨_,_,rfl,_⟩:=h;rfl
 | dct _=>obtain ⟨_,_,rfl,_⟩:=h;rfl
 | obj _ _=>obtain ⟨_,_,_,_,rfl,_⟩:=h;rfl
 | exn _=>obtain ⟨_,_,rfl,_⟩:=h;rfl
 | cls _=>obtain ⟨_,rfl,_⟩:=h;rfl
 | lsm _=>obtain ⟨_,_,rfl,_⟩:=h;rfl
 | dcf _=>obtain ⟨_,_,_,rfl,_⟩:=h;rfl
 | _=>cases h;rfl
def GV {K:aT} {H:Hp} {a:D} {x:V} {j:Bool} (h:cS K H a x):K3 x (.bl j)=WZ j a:=by
 cases a with
 | lst _=>obtain ⟨_,_,rfl,_⟩:=h;rfl
 | tup _=>obtain ⟨_,_,rfl,_⟩:=h;rfl
 | dct _=>obtain ⟨_,_,rfl,_⟩:=h;rfl
 | obj _ _=>obtain ⟨_,_,_,_,rfl,_⟩:=h;rfl
 | exn _=>obtain ⟨_,_,rfl,_⟩:=h;rfl
 | cls _=>obtain ⟨_,rfl,_⟩:=h;rfl
 | lsm _=>obtain ⟨_,_,rfl,_⟩:=h;rfl
 | dcf _=>obtain ⟨_,_,_,rfl,_⟩:=h;rfl
 | _=>cases h;rfl
def TH:rE W U4 QJ:=by
 intro as H x y a b Q hn L J h;unfold QJ at h;split at h
 .cases J;show Q (.bl (K3 x .non)) H;rw [G5 L];exact aP h rfl
 .cases J;show Q (.bl (K3 x (.bl _))) H;rw [GV L];exact aP h rfl
 .exact h.elim
mutual
def iW:D->Option abw
 | .non=>some .none
 | .bl b=>some (.bool b)
 | .int i=>some (.int i)
 | .str x=>some (.str x)
 | .lst xs=>(fz xs).map .list
 | .tup xs=>(fz xs).map .tuple
 | _=>none
def fz:ada->Option (List abw)
 | []=>some []
 | d::ds=>(iW d).bind fun p=>(fz ds).map (p::·)
end
mutual
def fI {af:ac4} {Z:St} {H:Hp} {s:iF} (I:Inv X af Z H s):∀ {d:D} {v:V} {u:eQ} {p:abw},cS X.K H d v->ba v u->iW d=some p->∃ as,Reads s.heap u p as
 | .non,_,_,_,h,r,e=>by cases h;cases r;cases e;exact ⟨_,.none⟩
 | .bl b,_,_,_,h,r,e=>by cases h;cases r;cases e;exact ⟨_,.bool b⟩
 | .int i,_,_,_,h,r,e=>by cases h;obtain ⟨t,rfl⟩:=r;cases e;exact ⟨_,.int i t⟩
 | .str x,_,_,_,h,r,e=>by cases h;obtain ⟨t,rfl⟩:=r;cases e;exact ⟨_,.str x t⟩
 | .lst ds,_,_,_,⟨a,xs,h0,h1,h2⟩,r,e=>by
  subst h0;cases r;unfold iW at e;cases q:fz ds with
  | none=>rw [q] at e;cases e
  | some ps =>
   rw [q] at e;cases e;obtain ⟨its,J,pl,hz⟩:=I.list h1;obtain ⟨o,Y,hc,n,L⟩:=pl.isList;obtain ⟨as,ha⟩:=pL I h2 J q;exact ⟨_,.list Y hc L (by simpa using ha)⟩
 | .tup ds,_,_,_,⟨a,xs,h0,h1,h2⟩,r,e=>by
  subst h0;cases r;unfold iW at e;cases q:fz ds with
  | none=>rw [q] at e;cases e
  | some ps =>
   rw [q] at e;cases e;obtain ⟨its,J,pl,hz⟩:=I.tuple h1;obtain ⟨o,Y,hc,n,L⟩:=pl;obtain ⟨as,ha⟩:=pL I h2 J q;exact ⟨_,.tuple Y hc L (by simpa using ha)⟩
 | .dct _,_,_,_,_,_,e=>by cases e
 | .obj _ _,_,_,_,_,_,e=>by cases e
 | .ty _,_,_,_,_,_,e=>by cases e
 | .exn _,_,_,_,_,_,e=>by cases e
 | .cls _,_,_,_,_,_,e=>by cases e
 | .lsm _,_,_,_,_,_,e=>by cases e
 | .dcf _,_,_,_,_,_,e=>by cases e
def pL {af:ac4} {Z:St} {H:Hp} {s:iF} (I:Inv X af Z H s):∀ {ds:ada} {vs:ac9} {us:ac8} {ps:List abw},aJ X.K H ds vs->br vs us->fz ds=some ps->∃ as,ReadsAll s.heap us ps as
 | [],_,_,_,h,r,e=>by cases h;cases r;cases e;exact ⟨_,.nil⟩
 | d::ds,_,_,_,⟨v,vs,h0,h1,h2⟩,r,e=>by
  subst h0;unfold fz at e;cases q:iW d with
  | none=>rw [q] at e;cases e
  | some p =>
   rw [q] at e;have e:(fz ds).map (p::·)=some _:=e;cases q2:fz ds with
   | none=>rw [q2] at e;cases e
   | some ps =>
    rw [q2] at e;cases e;cases r with
    | cons r1 r2 =>
     obtain ⟨as,L⟩:=fI I h1 r1 q;obtain ⟨bs,J⟩:=pL I h2 r2 q2;exact ⟨_,.cons L J⟩
end
def hV:D->Option V
 | .non=>some .non
 | .bl b=>some (.bl b)
 | .int i=>some (.int i)
 | .str x=>some (.str x)
 | _=>none
def iw {K:aT} {H:Hp} {d:D} {v x:V} (h:cS K H d v) (e:hV d=some x):v=x:=by
 cases d with
 | non=>cases e;exact h
 | bl b=>cases e;exact h
 | int b=>cases e;exact h
 | str b=>cases e;exact h
 | _=>cases e
def kA (a b:D):Option Bool:=match iW a,iW b with
 | some p,some q=>if X1 p=true/\X1 q=true then some (Y4 p q) else none
 | _,_=>none
def t0 (a b:D):Option Bool:=match hV a,hV b with
 | some x,some y=>if B7 x y=true then some (decide (x=y)) else none
 | _,_=>kA a b
def AC (K:aT) (f:Bool->Bool):R2:=fun x y H Q=>∃ a b k,cS K H a x/\cS K H b y/\t0 a b=some k/\Q (.bl (f k)) H
def BK {a b:D} {k:Bool} (h:kA a b=some k):∃ p q,iW a=some p/\iW b=some q/\X1 p=true/\X1 q=true/\k=Y4 p q:=by
 unfold kA at h;split at h
 .rename_i p q h1 h2;split at h
  .rename_i hs;cases h;exact ⟨p,q,h1,h2,hs.1,hs.2,rfl⟩
  .cases h
 .cases h
def gF (K:aT) (hu:X.A.units+64 < ZM) (hK:X.K=K:=by rfl):eZ X (Xn .Eq) (AC K fun k=>k):=by
 subst hK;intro af s Z H x y v u Q I rx L h;obtain ⟨a,b,k,J,Y,e,q⟩:=h;unfold t0 at e;split at e
 .rename_i x' y' e1 e2;split at e
  .rename_i hs;cases e
   have:=iw J e1;subst this
   have:=iw Y e2;subst this
   exact RU af s Z H _ _ v u Q I rx L ⟨hs,q⟩
  .cases e
 .obtain ⟨p,p',h1,h2,h3,h4,rfl⟩:=BK e;obtain ⟨as,ra⟩:=fI I J rx h1;obtain ⟨bs,rb⟩:=fI I Y L h2;exact eq_dataH ra rb h3 h4 hu ⟨.bl _,H,I,rfl,q⟩
def xX (K:aT) (hu:X.A.units+64 < ZM) (hK:X.K=K:=by rfl):eZ X (Xn .NotEq) (AC K fun k=>!k):=by
 subst hK;intro af s Z H x y v u Q I rx L h;obtain ⟨a,b,k,J,Y,e,q⟩:=h;unfold t0 at e;split at e
 .rename_i x' y' e1 e2;split at e
  .rename_i hs;cases e
   have:=iw J e1;subst this
   have:=iw Y e2;subst this
   exact Ss af s Z H _ _ v u Q I rx L ⟨hs,q⟩
  .cases e
 .obtain ⟨p,p',h1,h2,h3,h4,rfl⟩:=BK e;obtain ⟨as,ra⟩:=fI I J rx h1;obtain ⟨bs,rb⟩:=fI I Y L h2;exact ne_dataH ra rb h3 h4 hu ⟨.bl _,H,I,rfl,q⟩
def gH (o:Option Bool) (f:Bool->Bool):R D:=match o with
 | some k=>.ok (.bl (f k))
 | none=>.no
def eY (a b:D):R D:=gH (t0 a b) fun k=>k
def sA (a b:D):R D:=gH (t0 a b) fun k=>!k
def Ut (K:aT) (f:Bool->Bool) (Y:W.K=K:=by rfl):rE W (AC K f) (fun a b=>gH (t0 a b) f):=by
 subst Y;intro as H x y a b Q hn L J h;have h:cO W as H (gH (t0 a b) f) Q:=h;cases e:t0 a b with
 | none=>rw [e] at h;exact h.elim
 | some k =>
  rw [e] at h;exact ⟨a,b,k,L.mono (ax _ _),J.mono (ax _ _),e,aP h rfl⟩
def tZ (K:aT) (J:W.K=K:=by rfl):rE W (AC K fun k=>k) eY:=Ut K _ J
def K6 (K:aT) (J:W.K=K:=by rfl):rE W (AC K fun k=>!k) sA:=Ut K _ J
def pH:ada->Option (ac9)
 | []=>some []
 | d::ds=>(hV d).bind fun v=>(pH ds).map (v::·)
def rH {K:aT} {H:Hp}:∀ {ds:ada} {vs xs:ac9},aJ K H ds vs->pH ds=some xs->vs=xs/\xs.all jk=true
 | [],_,_,h,e=>by cases h;cases e;exact ⟨rfl,rfl⟩
 | d::ds,_,_,⟨v,vs,h0,h1,h2⟩,e=>by
  subst h0;unfold pH at e;cases q:hV d with
  | none=>rw [q] at e;cases e
  | some x =>
   rw [q] at e;have e:(pH ds).map (x::·)=some _:=e;cases q2:pH ds with
   | none=>rw [q2] at e;cases e
   | some xs =>
    rw [q2] at e;cases e;obtain ⟨L,J⟩:=rH h2 q2;refine ⟨by rw [iw h1 q,L],?_⟩;rw [Yn,J,Bool.and_true];cases d <;> cases q <;> rfl
def xi {d:D} {x:V} (e:hV d=some x):jk x=true:=by cases d <;> cases e <;> rfl
def PD (j i:Str):Bool:=!(ZO j i 0 j.length 1).isEmpty
def BB (K:aT) (neg:Bool):R2:=fun x y H Q=>match x,y with
 | .str i,.str j=>Q (.bl (if neg=true then !PD j i else PD j i)) H
 | x,.ref p=>∃ xs,(il K H p xs\/l6 K H p xs)/\jk x=true/\xs.all jk=true/\Q (.bl (if neg=true then !Ho x xs else Ho x xs)) H
 | _,_=>False
def U7 (K:aT) (Y:X.K=K:=by rfl):eZ X (Xn .In) (BB K false):=by
 subst Y;refine (Gq.or GY).imp fun x y H Q q=>?_;unfold BB at q;split at q
 .exact .inl ⟨_,_,rfl,rfl,q⟩
 .obtain ⟨xs,h1,h2,L,J⟩:=q;exact .inr ⟨_,xs,rfl,h1,h2,L,J⟩
 .exact q.elim
def Fp (K:aT) (Y:X.K=K:=by rfl):eZ X (Xn .NotIn) (BB K true):=by
 subst Y;refine (zI.or Ay).imp fun x y H Q q=>?_;unfold BB at q;split at q
 .exact .inl ⟨_,_,rfl,rfl,q⟩
 .obtain ⟨xs,h1,h2,L,J⟩:=q;exact .inr ⟨_,xs,rfl,h1,h2,L,J⟩
 .exact q.elim
def EF (x:D) (xs:ada):Option Bool:=match hV x,pH xs with
 | some v,some vs=>some (Ho v vs)
 | _,_=>none
def VE (x y:D):Option Bool:=match y with
 | .str j=>match x with
  | .str i=>some (PD j i)
  | _=>none
 | .lst xs=>EF x xs
 | .tup xs=>EF x xs
 | _=>none
def WO (x y:D):R D:=gH (VE x y) fun k=>if false=true then !k else k
def ux (x y:D):R D:=gH (VE x y) fun k=>if true=true then !k else k
def To (K:aT) (neg:Bool) (hW:W.K=K:=by rfl):rE W (BB K neg) (fun a b=>gH (VE a b) fun k=>if neg=true then !k else k):=by
 subst hW;intro as H x y a b Q hn Y L h;have J:∀ (p:Le) (ds:ada) (vs:ac9),y=.ref p->(il W.K H p vs\/l6 W.K H p vs)->aJ W.K (aH as H) ds vs->cO W as H (gH (EF a ds) fun k=>if neg=true then !k else k) Q->BB W.K neg x y H Q:=by
  intro p ds vs hy hq hd h;subst hy;unfold EF at h;cases e1:hV a with
  | none=>rw [e1] at h;exact h.elim
  | some v =>
   rw [e1] at h;cases e2:pH ds with
   | none=>rw [e2] at h;exact h.elim
   | some ws =>
    rw [e2] at h
    have:=iw Y e1
    subst this;obtain ⟨h3,h4⟩:=rH hd e2;subst h3;have fin:∃ xs,(il W.K H p xs\/l6 W.K H p xs)/\jk x=true/\xs.all jk=true/\Q (.bl (if neg=true then !Ho x xs else Ho x xs)) H:=⟨vs,hq,xi e1,h4,aP h rfl⟩;cases x <;> exact fin
 cases b with
 | str j =>
  cases a with
  | str i=>cases Y;cases L;exact aP h rfl
  | _=>exact h.elim
 | lst ds=>obtain ⟨p,vs,rfl,q1,q2⟩:=L;exact J p ds vs rfl (.inl ((ax _ _).seq q1)) q2 h
 | tup ds=>obtain ⟨p,vs,rfl,q1,q2⟩:=L;exact J p ds vs rfl (.inr ((ax _ _).seqT q1)) q2 h
 | _=>exact h.elim
def pIn (K:aT) (J:W.K=K:=by rfl):rE W (BB K false) WO:=To K false J
def Ja (K:aT) (J:W.K=K:=by rfl):rE W (BB K true) ux:=To K true J
def fA (a b:D):R D:=match a,b with
 | .str z,.int i=>if z.length<=1000000 then (match atI z.cps.toList i with
  | some c=>.ok (.str ⟨#[c]⟩)
  | none=>.no) else .no
 | .lst xs,.int i=>match atI xs i with
  | some d=>.ok d
  | none=>.no
 | .tup xs,.int i=>match atI xs i with
  | some d=>.ok d
  | none=>.no
 | _,_=>.no
def aJ.atI {K:aT} {H:Hp} {ds:ada} {xs:ac9} {i:Int} {d:D} (h:aJ K H ds xs) (e:atI ds i=some d):∃ v,L2.atI xs i=some v/\cS K H d v:=by
 unfold L2.atI at e ⊢;rw [h.len] at e;cases q:MT xs.length i with
 | none=>rw [q] at e;cases e
 | some j =>
  rw [q] at e;exact h.get e
def pIx (K:aT) (Y:W.K=K:=by rfl):rE W (Rz K) fA:=by
 subst Y;intro as H x y a b Q hn J L h;unfold fA at h;split at h
 .cases J;cases L;split at h
  .rename_i hl;split at h
   .rename_i c e;exact ⟨c,IF hl eG,e,aP h rfl⟩
   .exact h.elim
  .exact h.elim
 .obtain ⟨p,vs,rfl,q1,q2⟩:=J;cases L;split at h
  .rename_i d e;obtain ⟨v,h1,h2⟩:=q2.atI e;exact ⟨vs,v,.inl ((ax _ _).seq q1),h1,aP h h2⟩
  .exact h.elim
 .obtain ⟨p,vs,rfl,q1,q2⟩:=J;cases L;split at h
  .rename_i d e;obtain ⟨v,h1,h2⟩:=q2.atI e;exact ⟨vs,v,.inr ((ax _ _).seqT q1),h1,aP h h2⟩
  .exact h.elim
 .exact h.elim
def qz (xs:ada) (lo hi:Option Int):ada:=(xs.drop (HT.sIx xs.length 0 lo)).take (HT.sIx xs.length xs.length hi - HT.sIx xs.length 0 lo)
def aJ.cut {K:aT} {H:Hp} {ds:ada} {xs:ac9} (h:aJ K H ds xs) (lo hi:Option Int):aJ K H (qz ds lo hi) (xY xs lo hi):=by
 unfold qz xY;rw [h.len];exact (h.drop _).take _
def qN (a:D) (lo hi:Option Int):R D:=match a with
 | .str z=>if z.length<=1000000 then .ok (.str (oC z lo hi)) else .no
 | .lst xs=>.ok (.lst (qz xs lo hi))
 | .tup xs=>if HT.sIx xs.length 0 lo=0/\HT.sIx xs.length xs.length hi=xs.length then .no else .ok (.tup (qz xs lo hi))
 | _=>.no
def C9 (K:aT) (Y:W.K=K:=by rfl):Wa W (Tq K) qN:=by
 subst Y;intro as H x lo hi a Q hn L h;unfold qN at h;split at h
 .cases L;split at h
  .rename_i hl;exact ⟨IF hl eG,aP h rfl⟩
  .exact h.elim
 .obtain ⟨p,vs,rfl,q1,q2⟩:=L;refine .inl ⟨vs,(ax _ _).seq q1,fun p J=>h _ _ (aU J _) ⟨p,_,rfl,.inl (.inl (by rw [aO (hn p J)];exact aS)),(q2.cut lo hi).mono (aW (aU J _))⟩⟩
 .obtain ⟨p,vs,rfl,q1,q2⟩:=L;rename_i xs;split at h
  .exact h.elim
  .rename_i hc;rw [q2.len] at hc;exact .inr ⟨vs,(ax _ _).seqT q1,hc,fun p J=>h _ _ (aU J _) ⟨p,_,rfl,.inl (.inl (by rw [aO (hn p J)];exact aS)),(q2.cut lo hi).mono (aW (aU J _))⟩⟩
 .exact h.elim
def cz (ds:ada):R D:=match ds with
 | [.str z]=>if z.length<=1000000 then .ok (.int z.length) else .no
 | [.lst xs]=>.ok (.int xs.length)
 | [.tup xs]=>.ok (.int xs.length)
 | _=>.no
def ja {K:aT} {H:Hp} {d:D} {xs:ac9} (h:aJ K H [d] xs):∃ v,xs=[v]/\cS K H d v:=by
 obtain ⟨v,vs,rfl,h1,h2⟩:=h;cases h2;exact ⟨v,rfl,h1⟩
def Cm {K:aT} {H:Hp} {d e:D} {xs:ac9} (h:aJ K H [d,e] xs):∃ v u,xs=[v,u]/\cS K H d v/\cS K H e u:=by
 obtain ⟨v,vs,rfl,h1,h2⟩:=h;obtain ⟨u,rfl,J⟩:=ja h2;exact ⟨v,u,rfl,h1,J⟩
def ny (K:aT) (L:W.K=K:=by rfl):uW W (M5 K) cz:=by
 subst L;intro as H xs ds Q hn J h;unfold cz at h;split at h
 .obtain ⟨v,rfl,d1⟩:=ja J;cases d1;split at h
  .rename_i hl;exact ⟨IF hl eG,aP h rfl⟩
  .exact h.elim
 .obtain ⟨v,rfl,d1⟩:=ja J;obtain ⟨p,vs,rfl,q1,q2⟩:=d1;refine ⟨vs,.inl ((ax _ _).seq q1),?_⟩;rw [<- q2.len];exact aP h rfl
 .obtain ⟨v,rfl,d1⟩:=ja J;obtain ⟨p,vs,rfl,q1,q2⟩:=d1;refine ⟨vs,.inr ((ax _ _).seqT q1),?_⟩;rw [<- q2.len];exact aP h rfl
 .exact h.elim
def Mm (ds:ada):R D:=match ds with
 | [.int i]=>.ok (.int (if i < 0 then -i else i))
 | _=>.no
def U2:uW W Rl Mm:=by
 intro as H xs ds Q hn J h;unfold Mm at h;split at h
 .obtain ⟨v,rfl,d1⟩:=ja J;cases d1;exact aP h rfl
 .exact h.elim
def Cj:ada->Option (List Bool)
 | []=>some []
 | .bl b::ds=>(Cj ds).map (b::·)
 | _=>none
def Bl {K:aT} {H:Hp}:∀ {ds:ada} {vs:ac9} {bs:List Bool},aJ K H ds vs->Cj ds=some bs->vs=bs.map V.bl
 | [],_,_,h,e=>by cases h;cases e;rfl
 | d::ds,_,_,⟨v,vs,h0,h1,h2⟩,e=>by
  subst h0;cases d with
  | bl b =>
   have e:(Cj ds).map (b::·)=some _:=e;cases q2:Cj ds with
   | none=>rw [q2] at e;cases e
   | some xs =>
    rw [q2] at e;cases e;cases h1;rw [Bl h2 q2];rfl
  | _=>cases e
def zu (ds:ada):R D:=match ds with
 | [.lst xs]=>match Cj xs with
  | some bs=>.ok (.bl (bs.all id))
  | none=>.no
 | _=>.no
def MA (K:aT) (L:W.K=K:=by rfl):uW W (Q5 K) zu:=by
 subst L;intro as H xs ds Q hn J h;unfold zu at h;split at h
 .obtain ⟨v,rfl,d1⟩:=ja J;obtain ⟨p,vs,rfl,q1,q2⟩:=d1;split at h
  .rename_i bs e;refine ⟨bs,?_,aP h rfl⟩;rw [<- Bl q2 e];exact (ax _ _).seq q1
  .exact h.elim
 .exact h.elim
def Kt (K:aT) (xs:ac9) (H:Hp) (Q:VK):Prop:=match xs with
 | [x,.ty C]=>mY C=true/\(match x with
  | .non=>Q (.bl (kH "NoneType" C)) H
  | .bl _=>Q (.bl (kH "bool" C)) H
  | .int _=>Q (.bl (kH "int" C)) H
  | .str _=>Q (.bl (kH "str" C)) H
  | .ref a=>(∃ xs,il K H a xs/\Q (.bl (kH "list" C)) H)\/(∃ xs,l6 K H a xs/\Q (.bl (kH "tuple" C)) H)\/(∃ kvs,H a=some (.dK kvs)/\Q (.bl (kH "dict" C)) H)\/∃ o kvs,H a=some (.frz o (.dK kvs))/\Q (.bl (kH "dict" C)) H
  | _=>False)
 | _=>False
def j3 (K:aT) (hK:X.K=K:=by rfl):cg X (.builtin "isinstance") (Kt K):=by
 subst hK;intro af s Z H xs us Q I r h;unfold Kt at h;split at h
 .rename_i x C;obtain ⟨J,h⟩:=h;obtain ⟨u,c,rfl,Y,rc⟩:=HB r;cases rc;have fin:∀ (b:Bool),Q (.bl b) H->∀ tk,X.tn<=tk->EP X af Z Q (.bool b) { s with toks:=tk }:=fun b q tk htk=>⟨.bl b,H,I.tok tk,rfl,q⟩;refine bf I.tk ?_;cases x with
  | non=>exact mx I Y .non (kP (.inl rfl) J) (fin _ h)
  | bl b=>exact mx I Y (.bl b) (kP (.inr (.inl rfl)) J) (fin _ h)
  | int b=>exact mx I Y (.int b) (kP (.inr (.inr (.inl rfl))) J) (fin _ h)
  | str b=>exact mx I Y (.str b) (kP (.inr (.inr (.inr (.inl rfl)))) J) (fin _ h)
  | ref a =>
   cases Y;rcases h with ⟨xs,L,q⟩|⟨xs,L,q⟩|⟨kvs,L,q⟩|⟨ob,kvs,L,q⟩
   .obtain ⟨its,rv,pl,hz⟩:=I.list L;obtain ⟨o,ho,hc,n,hd⟩:=pl.isList;exact XO aaU I.kIn ⟨o,ho,hc⟩ (kP (.inr (.inr (.inr (.inr (.inl rfl))))) J) (fun z=>nomatch z) (fin _ q)
   .obtain ⟨its,rv,pl,hz⟩:=I.tuple L;obtain ⟨o,ho,hc,n,hd⟩:=pl;exact XO ab3 I.kIn ⟨o,ho,hc⟩ (kP (.inr (.inr (.inr (.inr (.inr (.inl rfl)))))) J) (fun z=>nomatch z) (fin _ q)
   .exact mx (x:=.ref a) I rfl (.dK L) (kP (.inr (.inr (.inr (.inr (.inr (.inr rfl)))))) J) (fin _ q)
   .obtain ⟨_,_,_,vs,_,o,es,ep,h1,h2,_⟩:=(show bT X.prog X.w H s.heap a (.frz ob (.dK kvs)) from I.hok a _ L);exact XO aaV I.kIn ⟨o,h1,h2.1⟩ (kP (.inr (.inr (.inr (.inr (.inr (.inr rfl)))))) J) (fun z=>nomatch z) (fin _ q)
  | _=>exact h.elim
 .exact h.elim
def jV (ds:ada):R D:=match ds with
 | [x,.ty C]=>if mY C=true then (match x with
  | .non=>.ok (.bl (kH "NoneType" C))
  | .bl _=>.ok (.bl (kH "bool" C))
  | .int _=>.ok (.bl (kH "int" C))
  | .str _=>.ok (.bl (kH "str" C))
  | .lst _=>.ok (.bl (kH "list" C))
  | .tup _=>.ok (.bl (kH "tuple" C))
  | .dct _=>.ok (.bl (kH "dict" C))
  | .dcf _=>.ok (.bl (kH "dict" C))
  | _=>.no) else .no
 | _=>.no
def rO (K:aT) (J:W.K=K:=by rfl):uW W (Kt K) jV:=by
 subst J;intro as H xs ds Q hn L h;unfold jV at h;split at h
 .obtain ⟨v,u,rfl,d1,d2⟩:=Cm L;cases d2;split at h
  .rename_i hC;split at h
   .cases d1;exact ⟨hC,aP h rfl⟩
   .cases d1;exact ⟨hC,aP h rfl⟩
   .cases d1;exact ⟨hC,aP h rfl⟩
   .cases d1;exact ⟨hC,aP h rfl⟩
   .obtain ⟨p,vs,rfl,q1,q2⟩:=d1;exact ⟨hC,.inl ⟨vs,(ax _ _).seq q1,aP h rfl⟩⟩
   .obtain ⟨p,vs,rfl,q1,q2⟩:=d1;exact ⟨hC,.inr (.inl ⟨vs,(ax _ _).seqT q1,aP h rfl⟩)⟩
   .obtain ⟨p,vs,rfl,q1,q2⟩:=d1;exact ⟨hC,.inr (.inr (.inl ⟨vs,ax _ _ _ _ q1,aP h rfl⟩))⟩
   .obtain ⟨p,o,vs,rfl,q1,q2⟩:=d1;exact ⟨hC,.inr (.inr (.inr ⟨o,vs,ax _ _ _ _ q1,aP h rfl⟩))⟩
   .exact h.elim
  .exact h.elim
 .exact h.elim
def DD (K:aT) (xs:ac9) (H:Hp) (Q:VK):Prop:=match xs with
 | [.ref p]=>(∃ ys,il K H p ys/\∀ l,H l=none->Q (.ref l) (upd H l (.tup ys)))\/∃ ys,l6 K H p ys/\Q (.ref p) H
 | _=>False
def y8 (K:aT) (J:X.K=K:=by rfl):cg X (.type "tuple") (DD K):=by
 subst J;refine xU.imp fun xs H Q q=>?_;unfold DD at q;split at q
 .rcases q with ⟨ys,h1,h2⟩|⟨ys,h1,h2⟩
  .exact ⟨_,ys,rfl,.inl ⟨h1,h2⟩⟩
  .exact ⟨_,ys,rfl,.inr ⟨h1,h2⟩⟩
 .exact q.elim
def wE (ds:ada):R D:=match ds with
 | [.lst xs]=>.ok (.tup xs)
 | [.tup xs]=>.ok (.tup xs)
 | _=>.no
def Qk {as:ac7} {H:Hp} (hn:∀ a∈as,H a≠none):∀ p,H p=none->p∉as:=fun p J z=>hn p z J
def M4 (K:aT) (Y:W.K=K:=by rfl):uW W (DD K) wE:=by
 subst Y;intro as H xs ds Q hn L h;unfold wE at h;split at h
 .obtain ⟨v,rfl,d1⟩:=ja L;obtain ⟨p,vs,rfl,q1,q2⟩:=d1;exact .inl ⟨vs,(ax _ _).seq q1,fun l J=>h _ _ (aU J _) ⟨l,vs,rfl,.inl (.inl (by rw [aO (Qk hn l J)];exact aS)),q2.mono (aW (aU J _))⟩⟩
 .obtain ⟨v,rfl,d1⟩:=ja L;obtain ⟨p,vs,rfl,q1,q2⟩:=d1;exact .inr ⟨vs,(ax _ _).seqT q1,aP h ⟨p,vs,rfl,q1,q2⟩⟩
 .exact h.elim
def CO (K:aT) (xs:ac9) (H:Hp) (Q:VK):Prop:=match xs with
 | [.ref p]=>∃ ys,(il K H p ys\/l6 K H p ys)/\∀ l,H l=none->Q (.ref l) (upd H l (.lst ys))
 | _=>False
def C1 (K:aT) (J:X.K=K:=by rfl):cg X (.type "list") (CO K):=by
 subst J;refine zg.imp fun xs H Q q=>?_;unfold CO at q;split at q
 .obtain ⟨ys,h1,h2⟩:=q;exact ⟨_,ys,rfl,h1,h2⟩
 .exact q.elim
def BW (ds:ada):R D:=match ds with
 | [.lst xs]=>.ok (.lst xs)
 | [.tup xs]=>.ok (.lst xs)
 | _=>.no
def PY (K:aT) (Y:W.K=K:=by rfl):B2 W (CO K) BW:=by
 subst Y;intro as H xs ds Q hn L h;unfold BW at h;split at h
 .obtain ⟨v,rfl,d1⟩:=ja L;obtain ⟨p,vs,rfl,q1,q2⟩:=d1;exact ⟨vs,.inl ((ax _ _).seq q1),fun l J=>h l _ _ (aU J _) J aS ⟨vs,rfl,q2.mono (ji J (aU J _))⟩⟩
 .obtain ⟨v,rfl,d1⟩:=ja L;obtain ⟨p,vs,rfl,q1,q2⟩:=d1;exact ⟨vs,.inr ((ax _ _).seqT q1),fun l J=>h l _ _ (aU J _) J aS ⟨vs,rfl,q2.mono (ji J (aU J _))⟩⟩
 .exact h.elim
def pU {O:ac2} {pos:Pos}:JE X (.Dict [] [] pos) (tN W O (vC (.dct []))):=zh.imp fun Z H Q ⟨as0,B,own,U,I,h⟩ p hp=>h p _ _ (aU hp _) hp aS ⟨[],rfl,rfl⟩
def sP:ada->Option (ac3)
 | []=>some []
 | .str b::ds=>(sP ds).map (b::·)
 | _=>none
def uB {K:aT} {H:Hp}:∀ {ds:ada} {vs:ac9} {bs:ac3},aJ K H ds vs->sP ds=some bs->vs=bs.map V.str
 | [],_,_,h,e=>by cases h;cases e;rfl
 | d::ds,_,_,⟨v,vs,h0,h1,h2⟩,e=>by
  subst h0;cases d with
  | str b =>
   have e:(sP ds).map (b::·)=some _:=e;cases q2:sP ds with
   | none=>rw [q2] at e;cases e
   | some xs =>
    rw [q2] at e;cases e;cases h1;rw [uB h2 q2];rfl
  | _=>cases e
def yz (z:Str) (ds:ada):R D:=match ds with
 | [.lst xs]=>match sP xs with
  | some ys=>if (ys.map (·.length)).sum+ys.length*z.length<=1000000 then .ok (.str (abz z ys)) else .no
  | none=>.no
 | _=>.no
def Tm (K:aT) (L:W.K=K:=by rfl):W0 W (JU K) yz:=by
 subst L;intro as H z xs ds Q hn J h;unfold yz at h;split at h
 .obtain ⟨v,rfl,d1⟩:=ja J;obtain ⟨p,vs,rfl,q1,q2⟩:=d1;split at h
  .rename_i ys e;split at h
   .rename_i hl;refine ⟨ys,?_,IF hl (by decide),aP h rfl⟩;rw [<- uB q2 e];exact (ax _ _).seq q1
   .exact h.elim
  .exact h.elim
 .exact h.elim
end
section
variable {X:Cx} {o e:Yb} {es:List Yb} {to:TE} {t:TA} {name:Str} {apos cpos:Pos} {T id:String} {r:V->ac9->Hp->VK->Prop}
def ST (pa:PlainAttrs T) (slot:Slot T name id) (hty:typeOf (.builtin id)=pure (.type "method_descriptor")) (hm:Wu X id r) (ho:JE X o to) (ha:JA X (e::es) t)
  (Y:YE o name X.env (eval o X.env)=eval o X.env:=by rfl) (L:(apos.endLine==cpos.line)=true:=by rfl) (h1:(e::es).all aX=true:=by rfl) (hl:(e::es).length < 29:=by decide) :
  JE X (.Call (.Attribute o name apos) (e::es) [] cpos) (VJ X.K T r to t):=by
 have J:=h1;rw [Yn,Xe] at J;exact ⟨Sv pa slot hty hm ho.out ha.out Y (BE h1 hl) L (b8 J.1) (df J.2)⟩
end
def EZ:∀ {O:ac2} {own:ac7} {i:Nat} {a b:Le},O.Nodup->(i,a)∈O.zip own->(i,b)∈O.zip own->a=b
 | [],_,_,_,_,_,h,_=>by simp at h
 | _::_,[],_,_,_,_,h,_=>by simp at h
 | k::O,c::own,i,a,b,nd,h1,h2=>by
  rw [X7] at h1 h2;rw [XI] at nd;rcases iN.mp h1 with e1|h1 <;> rcases iN.mp h2 with e2|h2
  .cases e1;cases e2;rfl
  .cases e1;exact absurd (XA h2).1 nd.1
  .cases e2;exact absurd (XA h1).1 nd.1
  .exact EZ nd.2 h1 h2
def sK {H:Hp} (h:a∈as):aH as (upd H a o)=aH as H:=by
 funext b
 unfold aH;split
 .rfl
 .rename_i hb;exact aM fun z=>hb (by rw [z];exact h)
def DI.mutate {K:aT} {as0 own:ac7} {B H:Hp} {O:ac2} {Z:St} {U:Sd} {i:Nat} {a:Le} {o':HO} {d':D} (I:DI K as0 B O own Z U H) (hi:(i,a)∈O.zip own) (h:nY K (aH (own++as0) H) o' d') :
  DI K as0 B O own Z (U.set i (some d')) (upd H a o'):=by
 have hm:a∈own++as0:=Xf _ (XA hi).2;obtain ⟨d0,o0,h1,h2,h3,h4⟩:=I.owns i a hi;have L:i < U.length:=(Xu.mp h1).1;refine ⟨by simp [I.len],I.olen,I.nd,I.ond,I.fresh,I.ex0,fun b u e=>?_,fun j e hj q=>?_,fun j b hj=>?_⟩
 .have hb:b≠a:=fun z=>by
   have:=I.fresh a (XA hi).2
   rw [z,this] at e;cases e
  rw [aM hb];exact I.same b u e
 .have J:i≠j:=fun z=>hj (by rw [<- z];exact (XA hi).1);rw [getElem?_set',acX J] at q;rw [sK hm];exact I.var j e hj q
 .rw [sK hm];by_cases J:i=j
  .subst J
   have:=EZ I.ond hi hj
   subst this;exact ⟨d',o',by rw [getElem?_set',acW rfl,acW L],h2,aS,h⟩
  .obtain ⟨d,u,q1,q2,q3,q4⟩:=I.owns j b hj;have Y:b≠a:=fun z=>J (by rw [z] at hj;exact zip_inj I.nd hi hj);exact ⟨d,u,by rw [getElem?_set',acX J];exact q1,q2,by rw [aM Y];exact q3,q4⟩
section
variable {X:Cx} {W:Wd} {Ob O O':ac2} {e:Yb} {ε ψ:FE} {pos p1 p2 apos cpos:Pos} {x:Str}
def TM (K:aT) (hi:i∈O) (hb:JE X e (tD W O ψ)) (hN:X.N[i]?=some x:=by rfl) (hs:sM e:=by exact fun _ _=>rfl) (hv:Cz X.env.scope x:=by walk_at"v") (hd:adb x:=by decide)
  (Y:(x==("__classdict__":Str))=false:=by decide) (hK:X.K=K:=by rfl) (hW:W.K=K:=by rfl):JE X (.Subscript (.Name x p1) e pos) (tD W O (aE fA (ai i) ψ)) :=
 (Su (WP K hK) (jv i hN hv hd Y) hb hs).imp fun Z H Q hh=>fH hh fun as0 B own U I h=>by
  obtain ⟨a,ha⟩:=gR I.olen hi;obtain ⟨d,o,h1,h2,h3,h4⟩:=I.owns i a ha;have e0:Dv (Rz K) (xc i) (tD W O ψ) Z H Q=zF Z[i]? H (RP (Rz K) (tD W O ψ) Z Q):=rfl;rw [e0,h2];have hv:ai i U=.ok d:=by unfold ai;rw [h1]
  have h':cO W (own++as0) H ((ψ U).bind fun y=>fA d y) Q:=by
   have e:aE fA (ai i) ψ U=(ψ U).bind fun y=>fA d y:=by unfold aE;rw [hv];rfl
   rw [<- e];exact h
  refine ⟨as0,B,own,U,I,bZ h' fun y u H2 s2 d2 L=>?_⟩;subst hW;cases d with
  | lst ds =>
   obtain ⟨xs,rfl,q⟩:=h4;cases y with
   | int k =>
    cases d2;have J:cO W (own++as0) H2 (match atI ds k with|some d=>.ok d|none=>.no) Q:=L
    cases q3:atI ds k with
    | none=>rw [q3] at J;exact J.elim
    | some d' =>
     rw [q3] at J;obtain ⟨v,e1,e2⟩:=q.atI q3;exact ⟨xs,v,.inl (il.of (s2 _ _ h3)),e1,aP J (e2.mono (aW s2))⟩
   | _=>exact L.elim
  | _=>first|exact h4.elim|(cases y <;> exact L.elim)
def QD (K:aT) (hi:i∈O) (hm:X.mg "len"=none) (hN:X.N[i]?=some x:=by rfl) (hg:Gl X "len":=by rfl) (L:Cz X.env.scope x:=by walk_at"v") (hd:adb x:=by decide)
  (J:(x==("__classdict__":Str))=false:=by decide) (hK:X.K=K:=by rfl) (hW:W.K=K:=by rfl):JE X (.Call (.Name "len" p2) [.Name x p1] [] pos) (tD W O (ao cz (ae (ai i) ap))) :=
 (zd (mJ K hK) hm cL (Am (jv i hN L hd J) DV) hg).imp fun Z H Q hh=>fH hh fun as0 B own U I h=>by
  obtain ⟨a,ha⟩:=gR I.olen hi;obtain ⟨d,o,h1,h2,h3,Y⟩:=I.owns i a ha;show zF Z[i]? H _;rw [h2];have L:ai i U=.ok d:=by unfold ai;rw [h1]
  have h':cO W (own++as0) H (cz [d]) Q:=by
   have e:ao cz (ae (ai i) ap) U=cz [d]:=by unfold ao ae ap;rw [L];rfl
   rw [<- e];exact h
  cases d with
  | lst ds =>
   obtain ⟨xs,rfl,q⟩:=Y;refine ⟨xs,.inl (il.of h3),?_⟩;rw [<- q.len];exact aP h' rfl
  | _=>first|exact Y.elim|exact h'.elim
def jN (i:Nat) (ε:FE):FS:=fun U=>match U[i]? with
 | some (some (.lst xs))=>(ε U).bind fun d=>if xs.length < 1000000 then .ok (.nx (U.set i (some (.lst (xs++[d]))))) else .no
 | _=>.no
def mQ (hi:i∈O) (he:JE X e (tD W O ε)) (hN:X.N[i]?=some x:=by rfl) (hn:aX e=true:=by rfl) (J:(apos.endLine==cpos.line)=true:=by rfl) (hv:Cz X.env.scope x:=by walk_at"v") (hd:adb x:=by decide)
  (Y:(x==("__classdict__":Str))=false:=by decide) (L:YE (.Name x p1) "append" X.env (eval (.Name x p1) X.env)=eval (.Name x p1) X.env:=by rfl)
  (hs:Zf (.Call (.Attribute (.Name x p1) "append" apos) [e] [] cpos) none pos.line X.env=pure false:=by rfl) (hW:W.K=X.K:=by rfl) :
  JS X (.Expr (.Call (.Attribute (.Name x p1) "append" apos) [e] [] cpos) pos) (sD W Ob O O (jN i ε)) :=
 (Fv (ST PySem.F.plainAttrs_list PySem.F.slot_list_append PySem.F.type_list_append yT (jv i hN hv hd Y) (Am he DV hn) L J (by rw [Yn,hn];rfl) (by show 1 < 29;decide)) hs).imp fun D Z H hh=>fH hh fun as0 B own U I h=>by
  obtain ⟨a,ha⟩:=gR I.olen hi;obtain ⟨d,o,h1,h2,h3,h4⟩:=I.owns i a ha;have e0:Ig (VJ X.K "list" Ai (xc i) (yo (tD W O ε) FK)) D Z H=zF Z[i]? H (fun x H1=>VA X.K "list" x H1/\yo (tD W O ε) FK Z H1 fun vs H2=>Ai x vs H2 (fun _ H3=>D.nx Z H3)):=rfl;rw [e0,h2];unfold jN at h;rw [h1] at h;cases d with
  | lst ds =>
   obtain ⟨xs,rfl,q⟩:=h4;refine ⟨.inl ⟨rfl,xs,il.of h3⟩,as0,B,own,U,I,gk I h fun y v H2 s2 d2 hq=>?_⟩;split at hq
   .rename_i hl;refine ⟨a,xs,v,rfl,rfl,s2 _ _ h3,?_,?_⟩
    .have:=eG;rw [<- q.len];omega
    .exact hq own Z _ ((I.mono s2).mutate ha ⟨xs++[v],rfl,(q.mono (aW s2)).append (aJ.cons d2 aJ.nil)⟩)
   .exact hq.elim
  | _=>exact h.elim
end
end L2
namespace L2
open PySem PySem.Builtin
section
variable {prog:Xh} {w:Xv} {A:Xs} {E:ac5} {s:iF}
def sX {items} {Q:ac5} (J:s.heap.IsTupleIter it l i)
  (hl:s.heap.IsTuple l items) (hx:items[i]?=some x)
  (hQ:∀ h',h'.IsTupleIter it l (i+1)->X6 it s.heap h'->Q x { s with heap:=h' }) :
  RW (Xa prog w) A (XS (.ref it)) Q E s:=by
 obtain ⟨o,Y,hc,L⟩:=id J;obtain ⟨ol,hol,_,nl,hdl⟩:=hl;unfold XS;refine bY (Yu (name:=XD "__next__") J.typeIs F.slot_tuple_iterator_next
  (YA F.slot_tuple_iterator_next J.typeIs F.entry_tuple_iterator_next ?_ (F.args_tuple_iterator_next_1 _)))
 show RW _ _ (field (.ref it) 0 >>= _) _ _ s;refine bY (X4 Y L (x:=.ref l) rfl ?_);show RW _ _ (if (Xr l==XG)=true then _ else _) _ _ s;rw [acX (show ¬ ((Xr l==XG)=true) from nE)];show RW _ _ (field (.ref it) 1 >>= _) _ _ s;refine bY (X4 Y L (x:=.int i 0) rfl ?_);show RW _ _ (seqItems? (.ref l) >>= _) _ _ s;refine bY (wpAny_seqItems hol hdl ?_);simp only [XN,hx];refine bY (aab Y L (by simp) (oR ⟨x,rfl,oR (hQ _ ?_ (ZG ..))⟩));exact ⟨_,Zl _ Y (YV (Yq L _)),(Obj.cls_mapFields ..).trans hc,by
  rw [Yq L];simp [aaf]⟩
def uA {items} {Q:ac5} (hh:A.handled=none)
  (J:s.heap.IsTupleIter it l i) (hl:s.heap.IsTuple l items) (hx:items[i]?=none)
  (hE:∀ h' e,acF it s.heap h'->(∃ o,h'.get? e=some o/\o.cls=.type "StopIteration")->E (.ref e) { s with heap:=h' }) :
  RW (Xa prog w) A (XS (.ref it)) Q E s:=by
 obtain ⟨o,ho,hc,hd⟩:=id J;obtain ⟨ol,L,_,nl,Y⟩:=hl;unfold XS;refine bY (Yu (name:=XD "__next__") J.typeIs F.slot_tuple_iterator_next
  (YA F.slot_tuple_iterator_next J.typeIs F.entry_tuple_iterator_next ?_ (F.args_tuple_iterator_next_1 _)))
 show RW _ _ (field (.ref it) 0 >>= _) _ _ s;refine bY (X4 ho hd (x:=.ref l) rfl ?_);show RW _ _ (if (Xr l==XG)=true then _ else _) _ _ s;rw [acX (show ¬ ((Xr l==XG)=true) from nE)];show RW _ _ (field (.ref it) 1 >>= _) _ _ s;refine bY (X4 ho hd (x:=.int i 0) rfl ?_);show RW _ _ (seqItems? (.ref l) >>= _) _ _ s;refine bY (wpAny_seqItems L Y ?_);simp only [XN,hx];refine bY (Z5 (bY (aab ho hd (by simp) ?_)));show RW _ _ (newExc (.type "StopIteration") [] >>= _) _ _ _;refine bY ?_;simp only [newExc,newTuple];refine bY (Yl ?_ (by size_fits));refine bY (m:=firstArgMember _ _) (wpAny_of_eq (a:=XG) (by first|rfl|(simp only [firstArgMember];rfl)) ?_);refine Yl ?_ (by size_fits);simp only [raiseNew];refine bY (wpAny_handled ?_)
 first|rw [show A.in1.handled=none from hh]|rw [hh]
 refine bY (oR (wpAny_throw ?_));exact hE _ _ (((ZG ..).extBut.push _).push _) ⟨_,ID _ rfl,rfl⟩
end
def Bs (hh:A.handled=none) (it l:Le) (Y:l≠it) (items:Array eQ) :
  Draws prog w A it [it,l] items.size (fun i v=>items[i]?=some v) (fun i h=>h.IsTupleIter it l i/\h.IsTuple l items) where
 live:=fun _ _ st=>let ⟨o,ho,_⟩:=st.1;⟨o,ho⟩
 frame:=fun _ _ _ st hk=>⟨(let ⟨o,e,r⟩:=st.1;⟨o,hk it (by simp) o e,r⟩),by
  obtain ⟨o,e,r⟩:=st.2;exact ⟨o,hk l (by simp) o e,r⟩⟩
 item:=fun i s Q E hi st hQ=>by
  refine sX st.1 st.2 (x:=items[i]) (by simp [hi]) fun h' J L=>?_;refine hQ _ h' s.toks (by simp [hi]) ⟨J,?_⟩ L;obtain ⟨o,e,r⟩:=st.2;exact ⟨o,L.extBut l o Y e,r⟩
 done:=fun s Q E st hE=>uA hh st.1 st.2 (by simp) hE
structure ZA (z TI TO i1 i2:Le) (fp1 fp2:ac7):Prop where
 TIz:TI≠z
 TOz:TO≠z
 TITO:TI≠TO
 TIi1:TI≠i1
 TIi2:TI≠i2
 TOi1:TO≠i1
 TOi2:TO≠i2
 i1z:i1≠z
 i2z:i2≠z
 i12:i1≠i2
 z1:z∉fp1
 z2:z∉fp2
 TO1:TO∉fp1
 TO2:TO∉fp2
 i1f:i1∉fp2
 i2f:i2∉fp1
section
variable {prog:Xh} {w:Xv} {A:Xs} {E:ac5} {s:iF} {z TI TO i1 i2:Le} {fp1 fp2:ac7} {n1 n2 k:Nat} {P1 P2:Nat->eQ->Prop} {St1 St2:Nat->YG->Prop}
def cx {St:Nat->YG->Prop} {P:Nat->eQ->Prop} (D:Draws prog w A it fp n P St) (st:St k h) (J:X6 c h h') (L:c∉fp):St k h' :=
 D.frame _ _ _ st fun b Y o e=>J.extBut b o (fun q=>L (q ▸ Y)) e
def G2 {Q:ac5} (D1:Draws prog w A i1 fp1 n1 P1 St1) (D2:Draws prog w A i2 fp2 n2 P2 St2) (D:ZA z TI TO i1 i2 fp1 fp2)
  (hz:IsZip s.heap z TI TO .none) (hTI:IsPair s.heap TI (.ref i1) (.ref i2)) (hTO:IsPair s.heap TO a b) (h1:St1 k s.heap) (h2:St2 k s.heap) (l1:k < n1) (l2:k < n2)
  (hQ:∀ x y h' tk,P1 k x->P2 k y->IsZip h' z TI TO (aaf s.heap.objs.size)->IsPair h' TO x y->St1 (k+1) h'->St2 (k+1) h'->IsPair h' s.heap.objs.size x y->h'.objs.size=s.heap.objs.size+1 ->
   (∀ c o,c≠z->c≠TO->c≠i1->c≠i2->s.heap.get? c=some o->h'.get? c=some o)->Q (.ref s.heap.objs.size) { s with heap:=h',toks:=tk }) :
  RW (Xa prog w) A (Builtin.«zip.__next__» ⟨[.ref z],[]⟩) (fun fin s'=>∃ v,fin=.done (.ret v)/\Q v s') E s:=by
 obtain ⟨hp,g,d,tk0,os⟩:=s;show RW _ _ (field (.ref z) 2 >>= _) _ _ _;refine bY (X4 hz rfl (x:=.bool false) rfl ?_);show RW _ _ (field (.ref z) 3 >>= _) _ _ _;refine bY (X4 hz rfl (x:=.ref TI) rfl ?_);refine bY (wpAny_seqItems hTI rfl ?_);show RW _ _ (Yg (.ref z) >>= _) _ _ _;refine bY ?_;unfold Yg;refine bY (X4 hz rfl (x:=.none) rfl (oR ?_));simp only [if_true];refine bY (Z5 ?_);refine bY (X4 hz rfl (x:=.ref TO) rfl ?_);refine bY (wpAny_setField_rec hz (by simp) fun h₁ hz₁ L=>?_)
 replace hz₁:IsZip h₁ z TI TO .ellipsis:=hz₁
 replace L:X6 z hp h₁:=L
 refine bY ?_;simp only [List.zipIdx_cons,List.zipIdx_nil,aat,List.forIn_nil];refine bY (bY (wpAny_onRaise ?_));show RW _ _ (XS (.ref i1) >>= _) _ _ _;refine bY (D1.item k ⟨h₁,g,d,tk0,os⟩ _ _ l1 (cx D1 h1 L D.z1) fun x h₂ tk2 px h1₂ J=>oR ?_)
 replace J:X6 i1 h₁ h₂:=J
 have hTO₂:IsPair h₂ TO a b:=J.extBut _ _ D.TOi1 (L.extBut _ _ D.TOz hTO);show RW _ _ _ _ _ ⟨h₂,g,d,tk2,os⟩;refine bY (wpAny_seqItems hTO₂ rfl ?_);refine bY (wpAny_updateSeq_pair hTO₂ fun h₃ hTO₃ hs₃=>?_)
 replace hTO₃:IsPair h₃ TO x b:=hTO₃
 replace hs₃:X6 TO h₂ h₃:=hs₃
 refine bY (wpAny_letGo (oR ?_));refine bY (bY (wpAny_onRaise ?_));show RW _ _ (XS (.ref i2) >>= _) _ _ _;refine bY (D2.item k ⟨h₃,g,d,tk2,os⟩ _ _ l2 (cx D2 (cx D2 (cx D2 h2 L D.z2) J D.i1f) hs₃ D.TO2) fun y h₄ tk4 py h2₄ hs₄=>oR ?_)
 replace hs₄:X6 i2 h₃ h₄:=hs₄
 have hTO₄:IsPair h₄ TO x b:=hs₄.extBut _ _ D.TOi2 hTO₃;show RW _ _ _ _ _ ⟨h₄,g,d,tk4,os⟩;refine bY (wpAny_seqItems hTO₄ rfl ?_);refine bY (wpAny_updateSeq_pair hTO₄ fun h₅ hTO₅ Y=>?_)
 replace hTO₅:IsPair h₅ TO x y:=hTO₅
 replace Y:X6 TO h₄ h₅:=Y
 refine bY (wpAny_letGo (oR (oR ?_)));refine bY (wpAny_seqItems hTO₅ rfl ?_);refine bY (wpAny_newTuple ?_);have hsz:h₅.objs.size=hp.objs.size:=by rw [Y.1,hs₄.1,hs₃.1,J.1,L.1]
 have hz₅:IsZip h₅ z TI TO .ellipsis:=Y.extBut _ _ D.TOz.symm (hs₄.extBut _ _ D.i2z.symm (hs₃.extBut _ _ D.TOz.symm (J.extBut _ _ D.i1z.symm hz₁)));have hk₅:∀ c o,c≠z->c≠TO->c≠i1->c≠i2->hp.get? c=some o->h₅.get? c=some o:=fun c o c1 c2 c3 c4 e =>
  Y.extBut _ _ c2 (hs₄.extBut _ _ c4 (hs₃.extBut _ _ c2 (J.extBut _ _ c3 (L.extBut _ _ c1 e))))
 have h1₅:St1 (k+1) h₅:=cx D1 (cx D1 (cx D1 h1₂ hs₃ D.TO1) hs₄ D.i2f) Y D.TO1;have h2₅:St2 (k+1) h₅:=cx D2 h2₄ Y D.TO2;have hzlt:z < h₅.objs.size:=MK hz₅;show RW _ _ (ZC (.ref z) (.ref h₅.objs.size) >>= _) _ _ _;refine bY ?_;unfold ZC;have hz₆:IsZip (h₅.push { cls:=.type "tuple",data:=.seq #[x,y] }) z TI TO .ellipsis:=dO _ hz₅;refine bY (wpAny_setField_rec hz₆ (by simp) fun h₇ hz₇ hs₇=>?_)
 replace hz₇:IsZip h₇ z TI TO (aaf h₅.objs.size):=hz₇
 replace hs₇:X6 z (h₅.push { cls:=.type "tuple",data:=.seq #[x,y] }) h₇:=hs₇
 refine wpAny_setField_rec hz₇ (by simp) fun h₈ hz₈ hs₈=>?_
 replace hz₈:IsZip h₈ z TI TO (aaf h₅.objs.size):=hz₈
 replace hs₈:X6 z h₇ h₈:=hs₈
 have up:∀ c o,c≠z->h₅.get? c=some o->h₈.get? c=some o:=fun c o c1 e=>hs₈.extBut _ _ c1 (hs₇.extBut _ _ c1 (dO _ e));have hT₈:IsPair h₈ h₅.objs.size x y:=hs₈.extBut _ _ (aaL hzlt) (hs₇.extBut _ _ (aaL hzlt) (ID _ rfl));have hz8:h₈.objs.size=h₅.objs.size+1:=by rw [hs₈.1,hs₇.1,X9]
 rw [hsz] at hz₈ hT₈ hz8;refine oR ⟨_,rfl,?_⟩;show Q (.ref h₅.objs.size) ⟨h₈,g,d,tk4,os⟩;rw [hsz];exact hQ x y h₈ tk4 px py hz₈ (up _ _ D.TOz hTO₅) (D1.frame _ _ _ h1₅ fun b hb o e=>up b o (fun q=>D.z1 (q ▸ hb)) e) (D2.frame _ _ _ h2₅ fun b hb o e=>up b o (fun q=>D.z2 (q ▸ hb)) e) hT₈ hz8
  fun c o c1 c2 c3 c4 e=>up c o c1 (hk₅ c o c1 c2 c3 c4 e)
def Jr {Q:Fin->iF->Prop} (D1:Draws prog w A i1 fp1 n1 P1 St1) (D2:Draws prog w A i2 fp2 n2 P2 St2) (D:ZA z TI TO i1 i2 fp1 fp2)
  (hz:IsZip s.heap z TI TO .none) (hTI:IsPair s.heap TI (.ref i1) (.ref i2)) (hTO:IsPair s.heap TO a b) (h1:St1 k s.heap) (h2:St2 k s.heap) (hend:k=n1\/(k < n1/\k=n2))
  (hE:∀ h' tk e,(∀ c o,c≠z->c≠TO->c≠i1->c≠i2->s.heap.get? c=some o->h'.get? c=some o)->(∃ o,h'.get? e=some o/\o.cls=.type "StopIteration")->E (.ref e) { s with heap:=h',toks:=tk }) :
  RW (Xa prog w) A (Builtin.«zip.__next__» ⟨[.ref z],[]⟩) Q E s:=by
 obtain ⟨hp,g,d,tk0,os⟩:=s;show RW _ _ (field (.ref z) 2 >>= _) _ _ _;refine bY (X4 hz rfl (x:=.bool false) rfl ?_);show RW _ _ (field (.ref z) 3 >>= _) _ _ _;refine bY (X4 hz rfl (x:=.ref TI) rfl ?_);refine bY (wpAny_seqItems hTI rfl ?_);show RW _ _ (Yg (.ref z) >>= _) _ _ _;refine bY ?_;unfold Yg;refine bY (X4 hz rfl (x:=.none) rfl (oR ?_));simp only [if_true];refine bY (Z5 ?_);refine bY (X4 hz rfl (x:=.ref TO) rfl ?_);refine bY (wpAny_setField_rec hz (by simp) fun h₁ hz₁ L=>?_)
 replace hz₁:IsZip h₁ z TI TO .ellipsis:=hz₁
 replace L:X6 z hp h₁:=L
 refine bY ?_;simp only [List.zipIdx_cons,List.zipIdx_nil,aat,List.forIn_nil];refine bY (bY (wpAny_onRaise ?_));show RW _ _ (XS (.ref i1) >>= _) _ _ _;rcases hend with rfl|⟨l1,rfl⟩
 .refine bY (D1.done ⟨h₁,g,d,tk0,os⟩ _ _ (cx D1 h1 L D.z1) fun h₂ e J he=>?_)
  replace J:acF i1 h₁ h₂:=J
  obtain ⟨oe,hoe,hce⟩:=he;have hz₂:IsZip h₂ z TI TO .ellipsis:=J _ _ D.i1z.symm hz₁;have hez:e≠z:=fun x=>by subst x;rw [hz₂] at hoe;cases hoe;simp at hce
  refine wpAny_setField_rec hz₂ (by simp) fun h₃ _ Y=>hE h₃ tk0 e (fun c o c1 _ c3 _ x=>Y.extBut _ _ c1 (J _ _ c3 (L.extBut _ _ c1 x))) ⟨oe,Y.extBut _ _ hez hoe,hce⟩
 .refine bY (D1.item k ⟨h₁,g,d,tk0,os⟩ _ _ l1 (cx D1 h1 L D.z1) fun x h₂ tk2 px h1₂ J=>oR ?_)
  replace J:X6 i1 h₁ h₂:=J
  have hTO₂:IsPair h₂ TO a b:=J.extBut _ _ D.TOi1 (L.extBut _ _ D.TOz hTO);show RW _ _ _ _ _ ⟨h₂,g,d,tk2,os⟩;refine bY (wpAny_seqItems hTO₂ rfl ?_);refine bY (wpAny_updateSeq_pair hTO₂ fun h₃ hTO₃ Y=>?_)
  replace Y:X6 TO h₂ h₃:=Y
  refine bY (wpAny_letGo (oR ?_));refine bY (bY (wpAny_onRaise ?_));show RW _ _ (XS (.ref i2) >>= _) _ _ _;refine bY (D2.done ⟨h₃,g,d,tk2,os⟩ _ _ (cx D2 (cx D2 (cx D2 h2 L D.z2) J D.i1f) Y D.TO2) fun h₄ e hs₄ he=>?_)
  replace hs₄:acF i2 h₃ h₄:=hs₄
  obtain ⟨oe,hoe,hce⟩:=he;have hz₄:IsZip h₄ z TI TO .ellipsis:=hs₄ _ _ D.i2z.symm (Y.extBut _ _ D.TOz.symm (J.extBut _ _ D.i1z.symm hz₁));have hez:e≠z:=fun x=>by subst x;rw [hz₄] at hoe;cases hoe;simp at hce
  refine wpAny_setField_rec hz₄ (by simp) fun h₅ _ hs₅=>hE h₅ tk2 e (fun c o c1 c2 c3 c4 x=>hs₅.extBut _ _ c1 (hs₄ _ _ c4 (Y.extBut _ _ c2 (J.extBut _ _ c3 (L.extBut _ _ c1 x))))) ⟨oe,hs₅.extBut _ _ hez hoe,hce⟩
end
def WalksT.zipD {z TI TO i1 i2:Le} {P1 P2:Nat->eQ->Prop} {St1 St2:Nat->YG->Prop}
  (D1:Draws prog w A.in1 i1 fp1 n1 P1 St1) (D2:Draws prog w A.in1 i2 fp2 n2 P2 St2) (D:ZA z TI TO i1 i2 fp1 fp2) (m1:i1∈fp1) (m2:i2∈fp2) :
  WalksT prog w A z (z::TI::TO::(fp1++fp2)) [z,TO,i1,i2] (min n1 n2)
   (fun i vals=>∃ x y,P1 i x/\P2 i y/\vals=#[x,y])
   (fun i h=>IsZip h z TI TO .none/\IsPair h TI (.ref i1) (.ref i2)/\(∃ a b,IsPair h TO a b)/\St1 i h/\St2 i h)
   (fun i T h=>IsZip h z TI TO (aaf T)/\IsPair h TI (.ref i1) (.ref i2)/\(∃ a b,IsPair h TO a b)/\St1 (i+1) h/\St2 (i+1) h/\T≠z/\T≠TO/\T≠i1/\T≠i2) where
 sub:=fun c Y=>by simp at Y ⊢;rcases Y with rfl|rfl|rfl|rfl <;> simp [m1,m2]
 frame:=fun i h h' hst hk=>by
  obtain ⟨hz,L,⟨a,b,J⟩,h1,h2⟩:=hst;exact ⟨hk z (by simp) _ hz,hk TI (by simp) _ L,⟨a,b,hk TO (by simp) _ J⟩,D1.frame _ _ _ h1 fun b hb o e=>hk b (by simp [hb]) o e,D2.frame _ _ _ h2 fun b hb o e=>hk b (by simp [hb]) o e⟩
 item:=fun i s Q E hi hst hQ=>by
  obtain ⟨hz,L,⟨a,b,J⟩,h1,h2⟩:=hst;have hix:i < n1:=W5 hi (abm ..);have hiy:i < n2:=W5 hi (Nat.min_le_right ..);have hT:s.TypeIs (.ref z) "zip":=⟨_,hz,rfl⟩;unfold pyNext;refine bY (Zc (Yu (name:=XD "__next__") hT F.slot_zip_next
   (YA F.slot_zip_next hT F.entry_zip_next (G2 D1 D2 D hz L J h1 h2 hix hiy fun x y h' tk px py a1 a2 a3 a4 a5 a6 hk=>oR ?_) (F.args_zip_next_1 _))))
  have lt:∀ {c o},s.heap.get? c=some o->s.heap.objs.size≠c:=fun e=>aaL (MK e);exact hQ s.heap.objs.size #[x,y] h' tk ⟨_,_,px,py,rfl⟩ (mK _) ⟨_,a5,rfl,_,rfl⟩
   ⟨a1,hk _ _ D.TIz D.TITO D.TIi1 D.TIi2 L,⟨_,_,a2⟩,a3,a4,lt hz,lt J,(by obtain ⟨_,e⟩:=D1.live _ _ h1;exact lt e),(by obtain ⟨_,e⟩:=D2.live _ _ h2;exact lt e)⟩
   fun c o Y e=>hk c o (fun x=>Y (by simp [x])) (fun x=>Y (by simp [x])) (fun x=>Y (by simp [x])) (fun x=>Y (by simp [x])) e
 go:=fun elts k pos i T s Q E hm hQ=>by
  obtain ⟨hz,L,⟨a,b,J⟩,h1,h2,_⟩:=hm;refine wpAny_letOwnedTupleGo_zip hz fun h' hz' hs'=>hQ h' ⟨hz',hs'.extBut _ _ D.TIz L,⟨a,b,hs'.extBut _ _ D.TOz J⟩,cx D1 h1 hs' D.z1,cx D2 h2 hs' D.z2⟩ fun c o Y e=>hs'.extBut _ _ (fun x=>Y (by simp [x])) e
 apart:=fun i T h hm hT=>by
  obtain ⟨_,_,_,_,_,t1,t2,t3,t4⟩:=hm;simp at hT;rcases hT with rfl|rfl|rfl|rfl
  .exact t1 rfl
  .exact t2 rfl
  .exact t3 rfl
  .exact t4 rfl
 done:=fun s Q E hst hQ=>by
  obtain ⟨hz,L,⟨a,b,J⟩,h1,h2⟩:=hst;have hend:min n1 n2=n1\/(min n1 n2 < n1/\min n1 n2=n2):=by omega
  have hT:s.TypeIs (.ref z) "zip":=⟨_,hz,rfl⟩;unfold pyNext;refine bY (Zc (Yu (name:=XD "__next__") hT F.slot_zip_next
   (YA F.slot_zip_next hT F.entry_zip_next (Jr D1 D2 D hz L J h1 h2 hend fun h' tk e hk he=>?_) (F.args_zip_next_1 _))))
  obtain ⟨o,ho,Y⟩:=he;refine bY (wpAny_isInstance (T:="StopIteration") (b:=true) ⟨o,ho,Y⟩ isSubtype_stop ?_);exact oR (hQ h' tk fun c o Y e=>hk c o (fun x=>Y (by simp [x])) (fun x=>Y (by simp [x])) (fun x=>Y (by simp [x])) (fun x=>Y (by simp [x])) e)
 self:=fun i s Q E hst hQ=>wpAny_pyIter_zip hst.1 hQ
def vW (a:eQ) (o:Obj) (h:YG):Prop:=∀ (prog:Xh) (w:Xv) (A:Xs) (s:iF) (Q:ac5) (E:ac5),(∀ b u,h.get? b=some u->s.heap.get? b=some u)->Q (.ref s.heap.objs.size) { s with heap:=s.heap.push o }->RW (Xa prog w) A (ab8 a) Q E s
abbrev UN (h:YG) (J L:Obj):YG:=((h.push J).push L).push { cls:=.type "tuple",data:=.seq #[.ref h.objs.size,.ref (h.push J).objs.size] }
abbrev UP (h:YG) (J L:Obj):YG:=(UN h J L).push { cls:=.type "tuple",data:=.seq #[.none,.none] }
abbrev Qo (h:YG) (J L:Obj):YG:=(UP h J L).push { cls:=.type "zip",data:=.fields #[.none,.bool false,.bool false,.ref ((h.push J).push L).objs.size,.ref (UN h J L).objs.size] }
def C8 (a b:eQ) (J Y:Obj) :
  Meets (Builtin.«zip.__new__» ⟨[.type "zip",a,b],[]⟩) (fun _ R s=>vW a J s.heap/\vW b Y s.heap/\R (.ok (.ret (.ref (UP s.heap J Y).objs.size))) { s with heap:=Qo s.heap J Y }) :=
 .of_wp fun prog w A R s h=>by
  obtain ⟨L,g,d,tk,os⟩:=s;obtain ⟨hl1,hl2,h⟩:=h;have hsub:=sub_zip;have p1:∀ {A:Xs} {Q:ac5} {E:ac5},Q (.ref L.objs.size) ⟨L.push J,g,d,tk,os⟩->RW (Xa prog w) A (ab8 a) Q E ⟨L,g,d,tk,os⟩:=fun {A Q E} q=>hl1 prog w A ⟨L,g,d,tk,os⟩ Q E (fun _ _ e=>e) q;have p2:∀ {A:Xs} {Q:ac5} {E:ac5},Q (.ref (L.push J).objs.size) ⟨(L.push J).push Y,g,d,tk,os⟩->RW (Xa prog w) A (ab8 b) Q E ⟨L.push J,g,d,tk,os⟩:=fun {A Q E} q=>hl2 prog w A ⟨L.push J,g,d,tk,os⟩ Q E (fun _ _ e=>dO _ e) q
  wp_walk using p1,p2
  exact ⟨_,rfl,h⟩
section
variable {prog:Xh} {w:Xv} {A:Xs} {E:ac5} {s:iF}
def Ge {Q:ac5} (i1:vW a o1 s.heap) (i2:vW b o2 s.heap) (f1:o1.isFreed=false) (f2:o2.isFreed=false)
  (h:∀ h',IsZip h' (s.heap.objs.size+4) (s.heap.objs.size+2) (s.heap.objs.size+3) .none->IsPair h' (s.heap.objs.size+2) (.ref s.heap.objs.size) (.ref (s.heap.objs.size+1)) ->
   IsPair h' (s.heap.objs.size+3) .none .none->h'.get? s.heap.objs.size=some o1->h'.get? (s.heap.objs.size+1)=some o2->h'.objs.size=s.heap.objs.size+5 ->
   (∀ c o,s.heap.get? c=some o->h'.get? c=some o)->Q (.ref (s.heap.objs.size+4)) { s with heap:=h' }) :
  RW (Xa prog w) A (call (.type "zip") [a,b]) Q E s:=by
 refine callType_new F.called_zip (by decide) (F.typeCall_zip_2 _ _) (F.newCall_zip_2 _ _) (fun obj=>F.args_object_init_3 obj _ _) F.entry_zip_new
  (C8 a b o1 o2) ⟨i1,i2,?_⟩
 have J:(s.heap.push o1).objs.size=s.heap.objs.size+1:=X9 ..;have L:((s.heap.push o1).push o2).objs.size=s.heap.objs.size+2:=by rw [X9,J]
 have Y:(UN s.heap o1 o2).objs.size=s.heap.objs.size+3:=by rw [X9,L]
 have z4:(UP s.heap o1 o2).objs.size=s.heap.objs.size+4:=by rw [X9,Y]
 have z5:(Qo s.heap o1 o2).objs.size=s.heap.objs.size+5:=by rw [X9,z4]
 have g5:(Qo s.heap o1 o2).get? (UP s.heap o1 o2).objs.size=some _:=ID _ rfl;have g4:(Qo s.heap o1 o2).get? (UN s.heap o1 o2).objs.size=some _:=dO _ (ID _ rfl);have g3:(Qo s.heap o1 o2).get? ((s.heap.push o1).push o2).objs.size=some _:=dO _ (dO _ (ID _ rfl));have g2:(Qo s.heap o1 o2).get? (s.heap.push o1).objs.size=some o2:=dO _ (dO _ (dO _ (ID _ f2)));have g1:(Qo s.heap o1 o2).get? s.heap.objs.size=some o1:=dO _ (dO _ (dO _ (dO _ (ID _ f1))));show _/\_;rw [L,Y,z4] at g5;rw [J,L] at g3;rw [Y] at g4;rw [J] at g2;rw [z4];exact ⟨⟨_,g5,rfl⟩,h _ g5 g3 g4 g1 g2 z5 fun c o x =>
  dO _ (dO _ (dO _ (dO _ (dO _ x))))⟩
end
def Ci (a:eQ) (J:Obj) :
  Meets (Builtin.«enumerate.__new__» ⟨[.type "enumerate",a],[]⟩) (fun _ R s=>vW a J s.heap /\
   R (.ok (.ret (.ref (s.heap.push J).objs.size))) { s with heap:=(s.heap.push J).push { cls:=.type "enumerate",data:=.fields #[.none,.bool false,.ref s.heap.objs.size,aaf 0,.none,.none] } }) :=
 .of_wp fun prog w A R s h=>by
  obtain ⟨L,g,d,tk,os⟩:=s;obtain ⟨Y,h⟩:=h;have hsub:=sub_enumerate;have p1:∀ {A:Xs} {Q:ac5} {E:ac5},Q (.ref L.objs.size) ⟨L.push J,g,d,tk,os⟩->RW (Xa prog w) A (ab8 a) Q E ⟨L,g,d,tk,os⟩:=fun {A Q E} q=>Y prog w A ⟨L,g,d,tk,os⟩ Q E (fun _ _ e=>e) q
  wp_walk
  refine wpAny_stack_any fun st=>oR ?_;split
  .rename_i c _ _ _ _ _;cases (c==aar "enumerate")
   .wp_walk using p1
    exact ⟨_,rfl,h⟩
   .wp_walk using p1
    exact ⟨_,rfl,h⟩
  .wp_walk using p1
   exact ⟨_,rfl,h⟩
section
variable {prog:Xh} {w:Xv} {A:Xs} {E:ac5} {s:iF}
def C7 {Q:ac5} (i1:vW a o1 s.heap) (f1:o1.isFreed=false)
  (h:∀ h',IsEnum h' (s.heap.objs.size+1) s.heap.objs.size 0 .none->h'.get? s.heap.objs.size=some o1->h'.objs.size=s.heap.objs.size+2 ->
   (∀ b o,s.heap.get? b=some o->h'.get? b=some o)->Q (.ref (s.heap.objs.size+1)) { s with heap:=h' }) :
  RW (Xa prog w) A (call (.type "enumerate") [a]) Q E s:=by
 refine callType_new F.called_enumerate (by decide) (F.typeCall_enumerate_1 _) (F.newCall_enumerate_1 _) (fun obj=>F.args_object_init_2 obj _) F.entry_enumerate_new
  (Ci a o1) ⟨i1,?_⟩
 have J:(s.heap.push o1).objs.size=s.heap.objs.size+1:=X9 ..;show _/\_;rw [J];have L:IsEnum ((s.heap.push o1).push
   { cls:=.type "enumerate",data:=.fields #[.none,.bool false,.ref s.heap.objs.size,aaf 0,.none,.none] }) (s.heap.objs.size+1) s.heap.objs.size 0 .none:=by
  have:=ID (s.heap.push o1)
   (o:={ cls:=.type "enumerate",data:=.fields #[.none,.bool false,.ref s.heap.objs.size,aaf 0,.none,.none] }) rfl
  rw [J] at this;exact this
 refine ⟨⟨_,L,rfl⟩,h _ L (dO _ (ID _ f1)) (by rw [X9,J]) fun b o x=>dO _ (dO _ x)⟩
end
end L2
namespace L2
open PySem PySem.Spec PyProof.Rows
def c8 {ix:List (Option Nat)} {O:ac2} (h:(ix.all fun o=>match o with|some k=>decide (k∉O)|none=>true)=true):∀ j∈ix,∀ k,j=some k->k∉O:=fun j hj k e=>by
 have:=XW.mp h j hj
 subst e;exact ac0 this
def Fw {H:Hp} (I:Inv X af Z H s) (h:H a≠none\/∃ o,X.K.lookup a=some o):¬ ib X af H a:=fun f=>by
 rcases h with h|⟨o,h⟩
 .exact h f.1
 .have e:=I.ok.mod.kin a o h;rcases f.2.2.2.1 with z|z
  .exact I.ok.noex a o e z
  .exact absurd (W5 (MK e) (IF I.ok.bsz z)) (Y9 _)
def Et {H:Hp} (h:Rd H a u):H a≠none:=by
 rcases h with h|⟨o,h⟩ <;> rw [h] <;> simp
def EL {K:aT} {H:Hp} {a:Le} {xs:ac9} (h:il K H a xs):H a≠none\/∃ o,K.lookup a=some o:=by
 rcases h with h|⟨o,_,_,h,_⟩
 .exact .inl (Et h)
 .exact .inr ⟨o,h⟩
def Fj {K:aT} {H:Hp} {a:Le} {xs:ac9} (h:l6 K H a xs):H a≠none\/∃ o,K.lookup a=some o:=by
 rcases h with h|⟨o,_,_,h,_⟩
 .exact .inl (Et h)
 .exact .inr ⟨o,h⟩
structure Src (K:aT) (B:Hp) (xs:ac9) (it:Le) (S:Nat->YG->Prop):Prop where
 obj:∀ i h,S i h->∃ o,h.get? it=some o/\∀ v,o.data≠.cell v
 keep:∀ i h h',S i h->(∀ o,h.get? it=some o->h'.get? it=some o)->S i h'
 draw:∀ (X:Cx) (af:ac4) (s:iF) (Z:St) (H:Hp),Inv X af Z H s->X.K=K->az B H->ib X af H it->∀ A:Xs,A.handled=none->∀ i,S i s.heap ->
  ∃ fp Pv St,Draws X.prog X.w A it fp xs.length Pv St/\St i s.heap/\it∈fp/\(∀ b∈fp,b=it\/¬ ib X af H b)/\(∀ j u,Pv j u->∃ x,xs[j]?=some x/\ba x u)/\∀ j h,St j h->S j h
def src_list {K:aT} {B:Hp} {xs:ac9} {a it:Le} (hq:il K B a xs):Src K B xs it (fun i h=>h.IsListIter it a i) where
 obj:=fun i h ⟨o,e,c,d⟩=>⟨o,e,fun v z=>by rw [d] at z;cases z⟩
 keep:=fun i h h' ⟨o,e,r⟩ k=>⟨o,k o e,r⟩
 draw:=fun X af s Z H I hK sB f A hA i st=>by
  subst hK;obtain ⟨its,J,pl,hz⟩:=I.list (sB.seq hq);have L:a≠it:=fun z=>Fw I (EL (sB.seq hq)) (z ▸ f);have el:xs.length=its.toArray.size:=by rw [Do];exact J.length
  refine ⟨_,_,_,el ▸ Draws.list hA it a L its.toArray,⟨st,pl.isList⟩,by simp,fun b Y=>?_,fun j u hu=>?_,fun j h st=>st.1⟩
  .rcases iN.mp Y with e|Y
   .exact .inl e
   .rw [OR.mp Y];exact .inr (Fw I (EL (sB.seq hq)))
  .have hu':its[j]?=some u:=by simpa using hu
   have hj:j < its.length:=(Xu.mp hu').1;have hx:xs[j]?=some (xs[j]'(by rw [J.length];exact hj)):=by rw [rW]
   obtain ⟨u',h1,h2⟩:=J.get hx;rw [hu'] at h1;cases h1;exact ⟨_,hx,h2⟩
def src_tuple {K:aT} {B:Hp} {xs:ac9} {a it:Le} (hq:l6 K B a xs):Src K B xs it (fun i h=>h.IsTupleIter it a i) where
 obj:=fun i h ⟨o,e,c,d⟩=>⟨o,e,fun v z=>by rw [d] at z;cases z⟩
 keep:=fun i h h' ⟨o,e,r⟩ k=>⟨o,k o e,r⟩
 draw:=fun X af s Z H I hK sB f A hA i st=>by
  subst hK;obtain ⟨its,J,pl,hz⟩:=I.tuple (sB.seqT hq);have L:a≠it:=fun z=>Fw I (Fj (sB.seqT hq)) (z ▸ f);have el:xs.length=its.toArray.size:=by rw [Do];exact J.length
  refine ⟨_,_,_,el ▸ Bs hA it a L its.toArray,⟨st,pl⟩,by simp,fun b Y=>?_,fun j u hu=>?_,fun j h st=>st.1⟩
  .rcases iN.mp Y with e|Y
   .exact .inl e
   .rw [OR.mp Y];exact .inr (Fw I (Fj (sB.seqT hq)))
  .have hu':its[j]?=some u:=by simpa using hu
   have hj:j < its.length:=(Xu.mp hu').1;have hx:xs[j]?=some (xs[j]'(by rw [J.length];exact hj)):=by rw [rW]
   obtain ⟨u',h1,h2⟩:=J.get hx;rw [hu'] at h1;cases h1;exact ⟨_,hx,h2⟩
def signs_get {z:Str} {j:Nat} {u:eQ} (h:∃ c t,z.cps[j]?=some c/\u=.str ⟨#[c]⟩ t):∃ x,(rC z)[j]?=some x/\ba x u:=by
 obtain ⟨c,t,h1,rfl⟩:=h;refine ⟨.str ⟨#[c]⟩,?_,⟨t,rfl⟩⟩;rw [Xw,Zk,h1];rfl
def GI {K:aT} {B:Hp} {z:Str} {t:Tok} {it:Le}:Src K B (rC z) it (fun i h=>h.IsStrIter it "str_ascii_iterator" z t i) where
 obj:=fun i h ⟨o,e,c,d⟩=>⟨o,e,fun v z=>by rw [d] at z;cases z⟩
 keep:=fun i h h' ⟨o,e,r⟩ k=>⟨o,k o e,r⟩
 draw:=fun X af s Z H I hK sB f A Y i st=>by
  have J:(rC z).length=z.cps.size:=by simp
  exact ⟨_,_,_,J ▸ Draws.strAscii Y it z t,st,by simp,fun b L=>.inl (by simpa using L),fun j u hu=>signs_get hu,fun j h st=>st⟩
def JH {K:aT} {B:Hp} {z:Str} {t:Tok} {it:Le}:Src K B (rC z) it (fun i h=>h.IsStrIter it "str_iterator" z t i) where
 obj:=fun i h ⟨o,e,c,d⟩=>⟨o,e,fun v z=>by rw [d] at z;cases z⟩
 keep:=fun i h h' ⟨o,e,r⟩ k=>⟨o,k o e,r⟩
 draw:=fun X af s Z H I hK sB f A Y i st=>by
  have J:(rC z).length=z.cps.size:=by simp
  exact ⟨_,_,_,J ▸ Draws.strWide Y it z t,st,by simp,fun b L=>.inl (by simpa using L),fun j u hu=>signs_get hu,fun j h st=>st⟩
def RG (K:aT) (H:Hp) (x:V) (xs:ac9):Prop:=(∃ z,x=.str z/\xs=rC z)\/(∃ a,x=.ref a/\il K H a xs)\/∃ a,x=.ref a/\l6 K H a xs
def DR {H B:Hp} (I:Inv X af Z H s) (r:ba x u) (Y:az B H) (h:RG X.K B x xs) :
  ∃ (o:Obj) (S:Le->Nat->YG->Prop),vW u o s.heap/\o.isFreed=false/\(∀ it h,h.get? it=some o->S it 0 h)/\∀ it,Src X.K B xs it (S it):=by
 rcases h with ⟨z,rfl,rfl⟩|⟨a,rfl,J⟩|⟨a,rfl,J⟩
 .obtain ⟨t,rfl⟩:=r;cases ha:z.cps.all (· < 128)
  .exact ⟨{ cls:=.type "str_iterator",data:=.fields #[.str z t,.int 0 0] },fun it i h=>h.IsStrIter it "str_iterator" z t i,fun prog w A s Q E _ q=>wpAny_pyIter_wide ha q,rfl,fun it h e=>⟨_,e,rfl,rfl⟩,fun it=>JH⟩
  .exact ⟨{ cls:=.type "str_ascii_iterator",data:=.fields #[.str z t,.int 0 0] },fun it i h=>h.IsStrIter it "str_ascii_iterator" z t i,fun prog w A s Q E _ q=>wpAny_pyIter_ascii ha q,rfl,fun it h e=>⟨_,e,rfl,rfl⟩,fun it=>GI⟩
 .cases r;obtain ⟨its,rv,L,hz⟩:=I.list (Y.seq J);exact ⟨{ cls:=.type "list_iterator",data:=.fields #[.ref a,.int 0 0] },fun it i h=>h.IsListIter it a i,fun prog w A s Q E k q=>wpAny_pyIter_list (L.keeps k).isList q,rfl,fun it h e=>⟨_,e,rfl,rfl⟩,fun it=>src_list J⟩
 .cases r;obtain ⟨its,rv,L,hz⟩:=I.tuple (Y.seqT J);refine ⟨{ cls:=.type "tuple_iterator",data:=.fields #[.ref a,.int 0 0] },fun it i h=>h.IsTupleIter it a i,fun prog w A s Q E k q=>?_,rfl,fun it h e=>⟨_,e,rfl,rfl⟩,fun it=>src_tuple J⟩;obtain ⟨o,e,r⟩:=L;exact wpAny_pyIter_tuple (items:=its.toArray) ⟨o,k _ _ e,r⟩ q
def Inv.turnedT {X:Cx} {af:ac4} {Z:St} {H:Hp} {s:iF} {h':YG} {t':Nat} {ch:ac7} {T:Le} {ys:ac9} {us:ac8} (I:Inv X af Z H s) (hf:∀ b∈ch,ib X af H b) (k:∀ b o,b∉ch->s.heap.get? b=some o->h'.get? b=some o) (hT:s.heap.objs.size<=T)
  (hl:ys.length<=Xd) (rv:br ys us) (isT:aam h' T us.toArray) (ht:X.tn<=t':=by walk_at "tok"):Inv X af Z (upd H T (.tup ys)) { s with heap:=h',toks:=t' }:=by
 have hn:H T=none:=I.hok.fresh hT;have Y:∀ b u,H b=some u->b∉ch:=fun b u e z=>by rw [(hf b z).1] at e;cases e
 refine I.step (g':=s.gens) (d':=s.drawn) (ch:=ch) (fun b L=>⟨(hf b L).2.2.2.1,(hf b L).2.1,(hf b L).2.2.2.2.1,(hf b L).2.2.2.2.2⟩) (fun b o _ _ J e _=>k b o J e) (fun b o _ _ J e _=>⟨o.slots,k b o J e⟩) (fun b o _ e n=>?_)
  (fun b o J e=>⟨o,k b o J e⟩) (fun b xs e=>?_) (fun b o u e=>?_) (fun b ps e=>⟨#[],?_⟩) (fun m hm=>?_) (fun b u e=>?_) I.bare
 .rw [aM (Xb (W5 (MK e) hT))];exact n
 .rw [aM (bB e hn)];exact e
 .rw [aM (bB e hn)];exact e
 .rw [aM (bB e hn),e];simp
 .obtain ⟨o,es,ep,ho,r⟩:=hm;exact ⟨o,es,ep,k _ o (fun z=>(hf _ z).2.1 rfl) ho,r⟩
 .by_cases L:b=T
  .subst L;rw [aS] at e;cases e;exact ⟨hl,us,rv,isT⟩
  .rw [aM L] at e;refine (I.hok b u e).stay (fun c v J q=>k c v ?_ q) (fun c q=>by rw [aM (bB q hn)];exact q) fun c xs q=>by rw [aM (bB q hn)];exact q
   rcases J with z|z
   .rw [z];exact Y b u e
   .exact Y c _ z
def Jm (B:Hp) (n:Nat) (Pv:Nat->V->V->Prop):It :=
 ⟨fun i H=>az B H/\i < n,fun i H v H'=>∃ p x y,H p=none/\H'=upd H p (.tup [x,y])/\v=.ref p/\Pv i x y,fun i H=>az B H/\i=n⟩
def Ji {P:Xh} {w:Xv} {K:aT} {B:Hp} {xs ys:ac9} {z TI TO i1 i2:Le} {S1 S2:Nat->YG->Prop} {elts:List Yb} {k:Nat} {pos:Pos} (s1:Src K B xs i1 S1) (s2:Src K B ys i2 S2) (nd:[z,TI,TO,i1,i2].Nodup) :
    Turn P w K (.Tuple elts k pos) (Jm B (min xs.length ys.length) fun i x y=>xs[i]?=some x/\ys[i]?=some y) [z,TI,TO,i1,i2] z
      (fun i h=>IsZip h z TI TO .none/\IsPair h TI (.ref i1) (.ref i2)/\(∃ a b,IsPair h TO a b)/\S1 i h/\S2 i h):=by
  simp only [XI,iN,W7,or_false,not_or,Ye,and_true,not_false_eq_true] at nd;obtain ⟨⟨zTI,zTO,zi1,zi2⟩,⟨TITO,TIi1,TIi2⟩,⟨TOi1,TOi2⟩,i12⟩:=nd;have za:∀ {X:Cx} {af:ac4} {H:Hp} {fp1 fp2:ac7},(∀ b∈[z,TI,TO,i1,i2],ib X af H b)->(∀ b∈fp1,b=i1\/¬ ib X af H b)->(∀ b∈fp2,b=i2\/¬ ib X af H b)->ZA z TI TO i1 i2 fp1 fp2:=fun {X af H fp1 fp2} hf h1 h2 =>
    { TIz:=YU zTI,TOz:=YU zTO,TITO:=TITO,TIi1:=TIi1,TIi2:=TIi2,TOi1:=TOi1,TOi2:=TOi2,i1z:=YU zi1,i2z:=YU zi2,i12:=i12,
      z1:=fun m=>(h1 z m).elim zi1 fun q=>q (hf z (by simp)),z2:=fun m=>(h2 z m).elim zi2 fun q=>q (hf z (by simp)),TO1:=fun m=>(h1 TO m).elim TOi1 fun q=>q (hf TO (by simp)),TO2:=fun m=>(h2 TO m).elim TOi2 fun q=>q (hf TO (by simp)),
      i1f:=fun m=>(h2 i1 m).elim i12 fun q=>q (hf i1 (by simp)),i2f:=fun m=>(h1 i2 m).elim (YU i12) fun q=>q (hf i2 (by simp)) }
  refine ⟨by simp,fun i h st b Y=>?_,fun i h h' st kk=>?_,?_,?_,fun A i s Q E st q=>wpAny_pyIter_zip st.1 q⟩
  . obtain ⟨hz,L,⟨a,b',J⟩,h1,h2⟩:=st;simp only [iN,W7,or_false] at Y;rcases Y with rfl|rfl|rfl|rfl|rfl
    . exact ⟨_,hz,fun v q=>by cases q⟩
    . exact ⟨_,L,fun v q=>by cases q⟩
    . exact ⟨_,J,fun v q=>by cases q⟩
    . exact s1.obj i h h1
    . exact s2.obj i h h2
  . obtain ⟨hz,L,⟨a,b',J⟩,h1,h2⟩:=st;exact ⟨kk z (by simp) _ hz,kk TI (by simp) _ L,⟨a,b',kk TO (by simp) _ J⟩,s1.keep i h h' h1 fun o e=>kk i1 (by simp) o e,s2.keep i h h' h2 fun o e=>kk i2 (by simp) o e⟩
  . intro X hP hw hK hc i af s Z H E I hf st hg;subst hP hw;obtain ⟨hz,L,J,h1,h2⟩:=st;obtain ⟨sB,hi⟩:=hg;have hh:X.A.in1.handled=none:=I.ok.hd hc;obtain ⟨fp1,P1,St1,D1,st1,m1,n1,p1,b1⟩:=s1.draw X af s Z H I hK sB (hf i1 (by simp)) X.A.in1 hh i h1;obtain ⟨fp2,P2,St2,D2,st2,m2,n2,p2,b2⟩:=s2.draw X af s Z H I hK sB (hf i2 (by simp)) X.A.in1 hh i h2;have W:=WalksT.zipD D1 D2 (za hf n1 n2) m1 m2;refine bf I.tk (W.item i s _ _ hi ⟨hz,L,J,st1,st2⟩ fun T vals h' tk pt hT isT mid k1 htk=>⟨.ref T,rfl,W.go elts k pos i T { s with heap:=h',toks:=tk } _ _ mid fun h'' st'' k2=>?_⟩);obtain ⟨u1,u2,q1,q2,rfl⟩:=pt;obtain ⟨x,hx,rx⟩:=p1 i u1 q1;obtain ⟨y,hy,ry⟩:=p2 i u2 q2;obtain ⟨hz',hTI',hTO',st1',st2'⟩:=st'';have kk:∀ b o,b∉[z,TO,i1,i2]->s.heap.get? b=some o->h''.get? b=some o:=fun b o Y e=>k2 b o Y (k1 b o Y e);have hTn:H T=none:=I.hok.fresh hT;have lt:∀ {b o},s.heap.get? b=some o->b≠T:=fun e=>Xb (W5 (MK e) hT);have isT':aam h'' T [u1,u2].toArray:=by
      obtain ⟨o,e,r⟩:=isT;exact ⟨o,k2 T o (W.apart i T _ mid) e,r⟩
    refine ⟨.ref T,upd H T (.tup [x,y]),I.turnedT (t':=tk) (ch:=[z,TO,i1,i2]) (fun b Y=>hf b (by simp only [iN,W7,or_false] at Y ⊢;rcases Y with h|h|h|h <;> simp [h])) kk hT (by show 2<=Xd;decide) (.cons rx (.cons ry .nil)) isT',rfl,⟨T,x,y,hTn,rfl,rfl,hx,hy⟩,
      ⟨hz',hTI',hTO',b1 _ _ st1',b2 _ _ st2'⟩,fun b Y=>?_⟩
    have hbT:b≠T:=by
      simp only [iN,W7,or_false] at Y;rcases Y with rfl|rfl|rfl|rfl|rfl
      . exact lt hz
      . exact lt L
      . obtain ⟨_,_,e⟩:=J;exact lt e
      . obtain ⟨_,e,_⟩:=s1.obj _ _ h1;exact lt e
      . obtain ⟨_,e,_⟩:=s2.obj _ _ h2;exact lt e
    rw [aM hbT];exact (hf b Y).1
  . intro X hP hw hK hc i af s Z H E I hf st hg;subst hP hw;obtain ⟨hz,L,J,h1,h2⟩:=st;obtain ⟨sB,hi⟩:=hg;have hh:X.A.in1.handled=none:=I.ok.hd hc;obtain ⟨fp1,P1,St1,D1,st1,m1,n1,p1,b1⟩:=s1.draw X af s Z H I hK sB (hf i1 (by simp)) X.A.in1 hh i h1;obtain ⟨fp2,P2,St2,D2,st2,m2,n2,p2,b2⟩:=s2.draw X af s Z H I hK sB (hf i2 (by simp)) X.A.in1 hh i h2;have W:=WalksT.zipD D1 D2 (za hf n1 n2) m1 m2;subst hi;refine bf I.tk (W.done s _ _ ⟨hz,L,J,st1,st2⟩ fun h' tk kk htk=>⟨rfl,?_⟩)
    have nch:∀ b u,H b=some u->b∉[z,TO,i1,i2]:=fun b u e q=>by
      have:=(hf b (by simp only [iN,W7,or_false] at q ⊢;rcases q with h|h|h|h <;> simp [h])).1
      rw [this] at e;cases e
    refine I.step (g':=s.gens) (d':=s.drawn) (ch:=[z,TO,i1,i2]) (fun b Y=>?_) (fun b o _ _ hc e _=>kk b o hc e) (fun b o _ _ hc e _=>⟨o.slots,kk b o hc e⟩) (fun _ _ _ _ n=>n)
      (fun b o hc e=>⟨o,kk b o hc e⟩) (fun _ _ e=>e) (fun _ _ _ e=>e) (fun b ps e=>⟨#[],by rw [e];simp⟩) (fun m hm=>?_) (fun b u e=>?_) I.bare
    . have f:=hf b (by simp only [iN,W7,or_false] at Y ⊢;rcases Y with h|h|h|h <;> simp [h]);exact ⟨f.2.2.2.1,f.2.1,f.2.2.2.2.1,f.2.2.2.2.2⟩
    . obtain ⟨o,es,ep,ho,r⟩:=hm;refine ⟨o,es,ep,kk _ o (fun q=>?_) ho,r⟩;exact (hf _ (by simp only [iN,W7,or_false] at q ⊢;rcases q with h|h|h|h <;> simp [h])).2.1 rfl
    . refine (I.hok b u e).stay (fun c v hc q=>kk c v ?_ q) (fun _ q=>q) fun _ _ q=>q;rcases hc with z|z
      . rw [z];exact nch b u e
      . exact nch c _ z
def Hj {P:Xh} {w:Xv} {K:aT} {B:Hp} {xs:ac9} {e it:Le} {S:Nat->YG->Prop} {elts:List Yb} {k:Nat} {pos:Pos} (s1:Src K B xs it S) (ne:e≠it) :
  Turn P w K (.Tuple elts k pos) (Jm B xs.length fun i x y=>x=.int (i:Int)/\xs[i]?=some y) [e,it] e (fun i h=>(∃ L,IsEnum h e it (i:Int) L)/\S i h):=by
 have nof:∀ {X:Cx} {af:ac4} {H:Hp} {fp:ac7},(∀ b∈[e,it],ib X af H b)->(∀ b∈fp,b=it\/¬ ib X af H b)->e∉fp:=fun hf h1 m=>(h1 e m).elim ne fun q=>q (hf e (by simp));refine ⟨by simp,fun i h st b J=>?_,fun i h h' st kk=>?_,?_,?_,fun A i s Q E st q=>let ⟨⟨L,he⟩,_⟩:=st;wpAny_pyIter_enum he q⟩
 .obtain ⟨⟨L,he⟩,h1⟩:=st;simp only [iN,W7,or_false] at J;rcases J with rfl|rfl
  .exact ⟨_,he,fun v q=>by cases q⟩
  .exact s1.obj i h h1
 .obtain ⟨⟨L,he⟩,h1⟩:=st;exact ⟨⟨L,kk e (by simp) _ he⟩,s1.keep i h h' h1 fun o q=>kk it (by simp) o q⟩
 .intro X hP hw hK Y i af s Z H E I hf st hg;subst hP hw;obtain ⟨he,h1⟩:=st;obtain ⟨sB,hi⟩:=hg;have hh:X.A.in1.handled=none:=I.ok.hd Y;obtain ⟨fp1,P1,St1,D1,st1,m1,n1,p1,b1⟩:=s1.draw X af s Z H I hK sB (hf it (by simp)) X.A.in1 hh i h1;have W:=aci D1 e ne (nof hf n1) m1;refine bf I.tk (W.item i s _ _ hi ⟨he,st1⟩ fun T vals h' tk pt hT isT mid k1 htk=>⟨.ref T,rfl,W.go elts k pos i T { s with heap:=h',toks:=tk } _ _ mid fun h'' st'' k2=>?_⟩);obtain ⟨t,u2,q2,rfl⟩:=pt;obtain ⟨y,hy,ry⟩:=p1 i u2 q2;obtain ⟨he',st1'⟩:=st'';have kk:∀ b o,b∉[e,it]->s.heap.get? b=some o->h''.get? b=some o:=fun b o J q=>k2 b o J (k1 b o J q);have hTn:H T=none:=I.hok.fresh hT;have lt:∀ {b o},s.heap.get? b=some o->b≠T:=fun q=>Xb (W5 (MK q) hT);have isT':aam h'' T [.int i t,u2].toArray:=by
   obtain ⟨o,q,r⟩:=isT;exact ⟨o,k2 T o (W.apart i T _ mid) q,r⟩
  refine ⟨.ref T,upd H T (.tup [.int (i:Int),y]),I.turnedT (t':=tk) (ch:=[e,it]) hf kk hT (by show 2<=Xd;decide) (.cons ⟨t,rfl⟩ (.cons ry .nil)) isT',rfl,⟨T,_,y,hTn,rfl,rfl,rfl,hy⟩,⟨he',b1 _ _ st1'⟩,fun b J=>?_⟩;have hbT:b≠T:=by
   simp only [iN,W7,or_false] at J;rcases J with rfl|rfl
   .obtain ⟨_,q⟩:=he;exact lt q
   .obtain ⟨_,q,_⟩:=s1.obj _ _ h1;exact lt q
  rw [aM hbT];exact (hf b J).1
 .intro X hP hw hK Y i af s Z H E I hf st hg;subst hP hw;obtain ⟨he,h1⟩:=st;obtain ⟨sB,hi⟩:=hg;have hh:X.A.in1.handled=none:=I.ok.hd Y;obtain ⟨fp1,P1,St1,D1,st1,m1,n1,p1,b1⟩:=s1.draw X af s Z H I hK sB (hf it (by simp)) X.A.in1 hh i h1;have W:=aci D1 e ne (nof hf n1) m1;subst hi;refine bf I.tk (W.done s _ _ ⟨he,st1⟩ fun h' tk kk htk=>⟨rfl,?_⟩);have nch:∀ b u,H b=some u->b∉[e,it]:=fun b u q m=>by
   have:=(hf b m).1
   rw [this] at q;cases q
  refine I.step (g':=s.gens) (d':=s.drawn) (ch:=[e,it]) (fun b J=>?_) (fun b o _ _ Y q _=>kk b o Y q) (fun b o _ _ Y q _=>⟨o.slots,kk b o Y q⟩) (fun _ _ _ _ n=>n)
   (fun b o Y q=>⟨o,kk b o Y q⟩) (fun _ _ q=>q) (fun _ _ _ q=>q) (fun b ps q=>⟨#[],by rw [q];simp⟩) (fun m hm=>?_) (fun b u q=>?_) I.bare
  .have f:=hf b J;exact ⟨f.2.2.2.1,f.2.1,f.2.2.2.2.1,f.2.2.2.2.2⟩
  .obtain ⟨o,es,ep,ho,r⟩:=hm;exact ⟨o,es,ep,kk _ o (fun q=>(hf _ q).2.1 rfl) ho,r⟩
  .refine (I.hok b u q).stay (fun c v Y z=>kk c v ?_ z) (fun _ z=>z) fun _ _ z=>z;rcases Y with z|z
   .rw [z];exact nch b u q
   .exact nch c _ z
def v5 {K:aT} {as0:ac7} {B:Hp} {n:Nat} {Pv:Nat->V->V->Prop} {zs:ada} (hn:n=zs.length) (h:∀ i x y,i < n->Pv i x y->∃ dx J,zs[i]?=some (.tup [dx,J])/\cS K (aH as0 B) dx x/\cS K (aH as0 B) J y):GivesD K as0 B (Jm (aH as0 B) n Pv) zs where
 go:=fun i H s hi=>⟨s,by rw [hn];exact hi⟩
 yl:=fun i H v H2 M s hM hM2 hi ⟨p,x,y,hp,e,ev,hv⟩=>by
  subst e ev;obtain ⟨dx,J,e1,d1,d2⟩:=h i x y (by rw [hn];exact hi) hv;have L:p∉M:=fun z=>hM p z hp;have Y:az (aH as0 B) (aH M (upd H p (.tup [x,y]))):=(kM s hM2).trans (aW (aU hp _));exact ⟨aU hp _,_,e1,p,[x,y],rfl,.inl (.inl (by rw [aO L];exact aS)),aJ.cons (d1.mono Y) (aJ.cons (d2.mono Y) aJ.nil)⟩
 stop:=fun H s=>⟨s,hn.symm⟩
def zf {K:aT} {H:Hp} {d:D} {v:V} {xs:ada} (h:cS K H d v) (e:gZ d=.ok xs):∃ vs,RG K H v vs/\aJ K H xs vs:=by
 cases d with
 | lst ds=>cases e;obtain ⟨a,vs,rfl,q1,q2⟩:=h;exact ⟨vs,.inr (.inl ⟨a,rfl,q1⟩),q2⟩
 | tup ds=>cases e;obtain ⟨a,vs,rfl,q1,q2⟩:=h;exact ⟨vs,.inr (.inr ⟨a,rfl,q1⟩),q2⟩
 | str z =>
  cases e;cases h;refine ⟨rC z,.inl ⟨z,rfl,rfl⟩,?_⟩;show aJ K H (z.cps.toList.map fun c=>D.str ⟨#[c]⟩) (z.cps.toList.map fun c=>V.str ⟨#[c]⟩);generalize z.cps.toList=cs;induction cs with
  | nil=>exact rfl
  | cons c r J=>exact ⟨_,_,rfl,rfl,J⟩
 | _=>cases e
def ur (xs ys:ada):ada:=List.zipWith (fun x y=>D.tup [x,y]) xs ys
def GL (ds:ada):R (ada):=match ds with
 | [a,b]=>(gZ a).bind fun xs=>(gZ b).bind fun ys=>.ok (ur xs ys)
 | _=>.no
def MH (α:FA):FA:=fun U=>(α U).bind GL
def dM:Nat->ada->ada
 | _,[]=>[]
 | n,x::r=>.tup [.int (n:Int),x]::dM (n+1) r
theorem tw:∀ (n:Nat) (xs:ada),(dM n xs).length=xs.length
 | _,[]=>rfl
 | n,x::r=>by unfold dM;simp [tw (n+1) r]
def tE:∀ (n:Nat) (xs:ada) (i:Nat),(dM n xs)[i]?=xs[i]?.map fun x=>.tup [.int ((n+i:Nat):Int),x]
 | _,[],i=>by simp [dM]
 | n,x::r,0=>by simp [dM]
 | n,x::r,i+1=>by
  unfold dM;rw [aa5,tE (n+1) r i,aa5];have e:n+1+i=n+(i+1):=by omega
  rw [e]
def IS (ds:ada):R (ada):=match ds with
 | [a]=>(gZ a).bind fun xs=>.ok (dM 0 xs)
 | _=>.no
def kf (α:FA):FA:=fun U=>(α U).bind IS
section
variable {X:Cx} {W:Wd} {O:ac2} {α:FA} {elts:List Yb} {k:Nat} {p pos tpos:Pos}
def QV (hm:X.mg "zip"=none) (ha:JA X [a,b] (xG W O α)) (hg:Gl X "zip":=by rfl) (h1:aX a=true:=by rfl) (h2:aX b=true:=by rfl) (hW:W.K=X.K:=by rfl) :
  JI X (.Tuple elts k tpos) (.Call (.Name "zip" p) [a,b] [] pos) (iD W O (MH α)):=⟨fun af s Z H R I ⟨as0,B,own,U,DIh,h⟩=>by
 refine XR (m8 I hg hm QL ?_ (by decide) (by decide));refine Ym (dg (ha.out pos af s Z H (fun vs H1=>az H H1/\∃ ds,aJ W.K (aH (own++as0) H1) ds vs/\jD W as0 own H1 (GL ds) R) I ⟨as0,B,own,U,DIh,pN h fun ds vs H1 s1 d1 L=>⟨s1,ds,d1,L⟩⟩) fun us s1 hh=>n6 hh fun vs H1 I1 r1 q1=>?_) (b8 h1) (df (by rw [Yn,h2];rfl));obtain ⟨sH,ds,dv,L⟩:=q1;unfold GL at L;split at L
 .rename_i da db;obtain ⟨va,vb,rfl,Y,den2⟩:=Cm dv;cases e1:gZ da with
  | no=>rw [e1] at L;exact L.elim
  | er x=>cases da <;> cases e1
  | ok xs =>
   rw [e1] at L;have L:jD W as0 own H1 ((gZ db).bind fun ys=>.ok (ur xs ys)) R:=L;cases e2:gZ db with
   | no=>rw [e2] at L;exact L.elim
   | er x=>cases db <;> cases e2
   | ok ys =>
    rw [e2] at L;have L:∀ J H',az H1 H'->GivesD W.K as0 (aH own H') J (ur xs ys)->R J H':=L;obtain ⟨u1,u2,rfl,ru1,ru2⟩:=HB r1;rw [mG] at Y den2;obtain ⟨xv,sv1,dn1⟩:=zf Y e1;obtain ⟨yv,sv2,dn2⟩:=zf den2 e2;rw [hW] at sv1 sv2 dn1 dn2;have sB:az (aH as0 (aH own H1)) H1:=(ax _ _).trans (ax _ _);obtain ⟨o1,S1,it1,fr1,st1,src1⟩:=DR I1 ru1 sB sv1;obtain ⟨o2,S2,it2,fr2,st2,src2⟩:=DR I1 ru2 sB sv2;refine Ge it1 it2 fr1 fr2 fun h' hz hTI hTO g1 g2 hsz kp=>?_;refine wpAny_pyIter_zip hz ?_;have nw:∀ j,j < 5->H1 (s1.heap.objs.size+j)=none:=fun j _=>I1.hok.fresh (aaj _ _);refine ⟨s1.heap.objs.size+4,_,_,_,H1,rfl,I1.kept (t':=s1.toks) kp,Ji (P:=X.prog) (w:=X.w) (src1 s1.heap.objs.size) (src2 (s1.heap.objs.size+1)) (z:=s1.heap.objs.size+4) (TI:=s1.heap.objs.size+2) (TO:=s1.heap.objs.size+3) ?_,⟨hz,hTI,⟨_,_,hTO⟩,st1 _ _ g1,st2 _ _ g2⟩,fun b hb=>?_,L _ H1 (az.refl _) ?_⟩
    .simp only [XI,iN,W7,or_false,not_or,Ye,and_true,not_false_eq_true];refine ⟨⟨?_,?_,?_,?_⟩,⟨?_,?_,?_⟩,⟨?_,?_⟩,?_⟩ <;> (intro q;have q':(_:Nat)=_:=q;omega)
    .have hb':s1.heap.objs.size<=b:=by
      simp only [iN,W7,or_false] at hb;rcases hb with rfl|rfl|rfl|rfl|rfl <;> first|exact aaj _ _|exact mK _
     exact I1.fpOk hb' (I1.hok.fresh hb')
    .rw [hW];refine v5 ?_ fun i x y hi hv=>?_
     .unfold ur;rw [List.length_zipWith,dn1.len,dn2.len]
     .obtain ⟨dx,q1,q2⟩:=dn1.got hv.1;obtain ⟨dy,q3,q4⟩:=dn2.got hv.2;refine ⟨dx,dy,?_,q2,q4⟩;unfold ur;rw [List.getElem?_zipWith,q1,q3]
 .exact L.elim⟩
def sj (hm:X.mg "enumerate"=none) (ha:JA X [a] (xG W O α)) (hg:Gl X "enumerate":=by rfl) (h1:aX a=true:=by rfl) (hW:W.K=X.K:=by rfl) :
  JI X (.Tuple elts k tpos) (.Call (.Name "enumerate" p) [a] [] pos) (iD W O (kf α)):=⟨fun af s Z H R I ⟨as0,B,own,U,DIh,h⟩=>by
 refine XR (m8 I hg hm zG ?_ (by decide) (by decide));refine Ym (dg (ha.out pos af s Z H (fun vs H1=>az H H1/\∃ ds,aJ W.K (aH (own++as0) H1) ds vs/\jD W as0 own H1 (IS ds) R) I ⟨as0,B,own,U,DIh,pN h fun ds vs H1 s1 d1 L=>⟨s1,ds,d1,L⟩⟩) fun us s1 hh=>n6 hh fun vs H1 I1 r1 q1=>?_) (b8 h1) rfl;obtain ⟨sH,ds,dv,L⟩:=q1;unfold IS at L;split at L
 .rename_i da;obtain ⟨va,rfl,Y⟩:=ja dv;cases e1:gZ da with
  | no=>rw [e1] at L;exact L.elim
  | er x=>cases da <;> cases e1
  | ok xs =>
   rw [e1] at L;have L:∀ J H',az H1 H'->GivesD W.K as0 (aH own H') J (dM 0 xs)->R J H':=L;obtain ⟨u1,rfl,ru1⟩:=mz r1;rw [mG] at Y;obtain ⟨xv,sv1,dn1⟩:=zf Y e1;rw [hW] at sv1 dn1;have sB:az (aH as0 (aH own H1)) H1:=(ax _ _).trans (ax _ _);obtain ⟨o1,S1,it1,fr1,st1,src1⟩:=DR I1 ru1 sB sv1;refine C7 it1 fr1 fun h' he g1 hsz kp=>?_;refine wpAny_pyIter_enum he ?_;refine ⟨s1.heap.objs.size+1,_,_,_,H1,rfl,I1.kept (t':=s1.toks) kp,Hj (P:=X.prog) (w:=X.w) (src1 s1.heap.objs.size) (e:=s1.heap.objs.size+1) (Nat.succ_ne_self _),⟨⟨_,he⟩,st1 _ _ g1⟩,fun b hb=>?_,L _ H1 (az.refl _) ?_⟩
   .have hb':s1.heap.objs.size<=b:=by
     simp only [iN,W7,or_false] at hb;rcases hb with rfl|rfl <;> first|exact aaj _ _|exact mK _
    exact I1.fpOk hb' (I1.hok.fresh hb')
   .rw [hW];refine v5 ?_ fun i x y hi hv=>?_
    .rw [tw,dn1.len]
    .obtain ⟨rfl,hv⟩:=hv;obtain ⟨dy,q3,q4⟩:=dn1.got hv;refine ⟨.int (i:Int),dy,?_,rfl,q4⟩;rw [tE,q3,abn];rfl
 .exact L.elim⟩
end
def IH (K:aT) (F:ada->R D):Sp:=fun vs H Q E=>∀ mg,dQ K mg F vs H Q E
def L8 {P:Xh} {w:Xv} {K:aT} {mg:ac6} {k:Nat} {J:Le} {ps:ac3} {F:ada->R D} {C:Xz->Prop}
  (h:∃ fd:Xz,C fd/\∀ base:YG,K.In base->base.Ns W9 mg->FnOk P w K mg base cQ k J fd ps (dQ K mg F)) :
  ∃ fd:Xz,C fd/\∀ base:YG,K.In base->base.Ns W9 mg->FnOk P w K mg base cQ k J fd ps (IH K F):=by
 obtain ⟨fd,h1,h2⟩:=h;exact ⟨fd,h1,fun base L Y=>(h2 base L Y).imp fun vs H Q E q=>q mg⟩
def Nq {K:aT} {a:Le} {J:List Int} {H:Hp} {F:ada->R D} {Q:VK} {E:XK} (L:il K H a (J.map V.int)) (h:F [.lst (J.map D.int)]=.ok (.bl true)) (q:∀ H',Q (.bl true) H'):IH K F [.ref a] H Q E :=
 fun mg=>PF L h q
def fin (r:R Fl):R D:=r.bind fun f=>match f with
 | .rt d=>.ok d
 | .rn d=>.ok d
 | .nx _=>.ok .non
 | _=>.no
section
variable {U:Sd} {d e:D} {x y:Str} {i j:Int} {b c:Bool} {φ ψ:FE} {τ υ:FT} {α:FA} {S T:FS}
def Qr (T:FS) (f:Fl):R Fl:=match f with
 | .nx δ'=>T δ'
 | f=>.ok f
def BA:aK S T U=(S U).bind (Qr T):=by
 unfold aK Qr;cases S U with
 | ok f=>cases f <;> rfl
 | er x=>rfl
 | no=>rfl
def OJ:Qr T (.nx U)=T U:=rfl
def VN (d:D):R Fl:=.ok (.rt d)
def NP:a9 φ U=(φ U).bind VN:=rfl
def WB (S T:FS) (U:Sd) (b:Bool):R Fl:=if b=true then S U else T U
def Tp:iq τ S T U=(τ U).bind (WB S T U):=rfl
def SZ:WB S T U b=if b=true then S U else T U:=rfl
def Ve (k:Nat) (U:Sd) (d:D):R Fl:=.ok (.nx (U.set k (some d)))
def Jd:bq k φ U=(φ U).bind (Ve k U):=rfl
def Tu (k:Nat) (U:Sd) (d:D):R Fl:=if k < U.length then .ok (.nx (U.set k (some d))) else .no
def S7:um k φ U=(φ U).bind (Tu k U):=rfl
def R0:Tu k U d=if k < U.length then .ok (.nx (U.set k (some d))) else .no:=rfl
def RS (t:TgD) (S:FS) (U:Sd) (xs:ada):R Fl:=fc t S xs U
def HH:uk α t S U=(α U).bind (RS t S U):=rfl
def HC:RS t S U xs=fc t S xs U:=rfl
def Ir (t:TgD) (S:FS) (r:ada) (f:Fl):R Fl:=match f with
 | .nx δ2=>fc t S r δ2
 | .ct δ2=>fc t S r δ2
 | .bk δ2=>.ok (.nx δ2)
 | .rt d=>.ok (.rt d)
 | .rn d=>.ok (.rn d)
def OA (t:TgD) (S:FS) (r:ada) (J:Sd):R Fl:=(S J).bind (Ir t S r)
def wR:fc t S (d::r) U=(jd t d U).bind (OA t S r):=by
 show (jd t d U).bind _=_;congr 1
def DG:OA t S r U=(S U).bind (Ir t S r):=rfl
def EI:Ir t S r (.nx U)=fc t S r U:=rfl
def Gm:jd (.tup [k,l]) (.tup [d,e]) U=.ok ((U.set k (some d)).set l (some e)):=rfl
def VZ (o:Option (Option D)):R D:=match o with
 | some (some d)=>.ok d
 | _=>.no
def v_var:ai k U=VZ U[k]?:=rfl
def WY (op:D->D->R D) (ψ:FE) (U:Sd) (x:D):R D:=(ψ U).bind (op x)
def U3 {op:D->D->R D}:aE op φ ψ U=(φ U).bind (WY op ψ U):=rfl
def Wz {op:D->D->R D}:WY op ψ U d=(ψ U).bind (op d):=rfl
def Wi (d:D):R D:=GJ d fun b=>.ok (.bl (!b))
def v_not:LJ φ U=(φ U).bind Wi:=rfl
def S9 (ψ:FE) (U:Sd) (d:D):R D:=GJ d fun b=>if b=true then ψ U else .ok (.bl false)
def v_and:kI φ ψ U=(φ U).bind (S9 ψ U):=rfl
def TQ:S9 ψ U (.bl b)=if b=true then ψ U else .ok (.bl false):=rfl
def WX (ψ:FE) (U:Sd) (d:D):R D:=GJ d fun b=>if b=true then .ok (.bl true) else ψ U
def v_or:QU φ ψ U=(φ U).bind (WX ψ U):=rfl
def Vm:WX ψ U (.bl b)=if b=true then .ok (.bl true) else ψ U:=rfl
def blK (d:D):R Bool:=GJ d .ok
def Wj:bS φ U=(φ U).bind blK:=rfl
def T6:gE φ U=(φ U).bind PJ:=rfl
def Oh (υ:FT) (U:Sd) (b:Bool):R Bool:=if b=true then υ U else .ok false
def Oy:wH τ υ U=(τ U).bind (Oh υ U):=rfl
def QQ:Oh υ U b=if b=true then υ U else .ok false:=rfl
def Tf (υ:FT) (U:Sd) (b:Bool):R Bool:=if b=true then .ok true else υ U
def TC:xN τ υ U=(τ U).bind (Tf υ U):=rfl
def Ty:Tf υ U b=if b=true then .ok true else υ U:=rfl
def Uj (b:Bool):R Bool:=.ok (!b)
def TR:j6 τ U=(τ U).bind Uj:=rfl
def TU (φ ψ:FE) (U:Sd) (b:Bool):R D:=if b=true then φ U else ψ U
def Oz:Lc τ φ ψ U=(τ U).bind (TU φ ψ U):=rfl
def Ou:TU φ ψ U b=if b=true then φ U else ψ U:=rfl
def T4:ia α U=(α U).bind Bd:=rfl
def Uk:bN α U=(α U).bind Fn:=rfl
def Qq:Bd ds=if ds.length<=1000000 then .ok (.lst ds) else .no:=rfl
def Qu:Fn ds=if ds.length<=1000000 then .ok (.tup ds) else .no:=rfl
def OW {g:ada->R D}:ao g α U=(α U).bind g:=rfl
def oK (d:D):R (Option Int):=match d with
 | .int i=>.ok (some i)
 | _=>.no
def PV:dU φ U=(φ U).bind oK:=rfl
def QA (g:D->Option Int->Option Int->R D) (d:D) (lo hi:Option Int):R D:=g d lo hi
def Qh (g:D->Option Int->Option Int->R D) (u:Sd->R (Option Int)) (U:Sd) (d:D) (lo:Option Int):R D:=(u U).bind (QA g d lo)
def Sl (g:D->Option Int->Option Int->R D) (l u:Sd->R (Option Int)) (U:Sd) (d:D):R D:=(l U).bind (Qh g u U d)
def SI {g:D->Option Int->Option Int->R D} {l u:Sd->R (Option Int)}:vm g φ l u U=(φ U).bind (Sl g l u U):=rfl
def Om {g:D->Option Int->Option Int->R D} {l u:Sd->R (Option Int)}:Sl g l u U d=(l U).bind (Qh g u U d):=rfl
def OD {g:D->Option Int->Option Int->R D} {u:Sd->R (Option Int)} {lo:Option Int}:Qh g u U d lo=(u U).bind (QA g d lo):=rfl
def N9 {g:D->Option Int->Option Int->R D} {lo hi:Option Int}:QA g d lo hi=g d lo hi:=rfl
def Wk (g:Str->ada->R D) (α:FA) (U:Sd) (d:D):R D:=match d with
 | .str z=>(α U).bind fun ds=>g z ds
 | _=>.no
def Vz {g:Str->ada->R D}:UR g φ α U=(φ U).bind (Wk g α U):=rfl
def V7 {g:Str->ada->R D}:Wk g α U (.str x)=(α U).bind (g x):=rfl
def Ro:fv ix α t τ φ U=(α U).bind (cC t τ φ (gM ix U)):=rfl
def SR:jq φ U=(φ U).bind gZ:=rfl
def LC:gZ (.str x)=.ok (CG x):=rfl
def Qv:wg α U=(α U).bind M3:=rfl
def RF (h:-(2 ^ 62)<=i/\i < 2 ^ 62):M3 [.int i]=.ok (nh 0 i.toNat):=acW h
def SU:MH α U=(α U).bind GL:=rfl
def UB (h1:gZ d=.ok xs) (h2:gZ e=.ok ys):GL [d,e]=.ok (ur xs ys):=by
 unfold GL;simp only [h1,h2,aD]
def NO:cj (.str x) (.str y)=if x.length+y.length<=1000000 then .ok (.str (x++y)) else .no:=rfl
def add_l:cj (.lst xs) (.lst ys)=if xs.length+ys.length<=1000000 then .ok (.lst (xs++ys)) else .no:=rfl
def RC:zL (.int i) (.int j)=.ok (.int (i - j)):=rfl
def mul_r (h:-(2 ^ 64) < j/\j < 2 ^ 64):oF (.int i) (.int j)=.ok (.int (i*j)):=acW (.inr h)
def IB (h:-(2 ^ 64) < i/\i < 2 ^ 64):oF (.int i) (.int j)=.ok (.int (i*j)):=acW (.inl h)
def Ua (h:0 < j/\j < 1073741824):lR (.int i) (.int j)=.ok (.int (i/j)):=acW h
def SD (h:0 < j):iC (.int i) (.int j)=.ok (.int (i % j)):=acW h
def N2 (h:0<=j/\j<=1000000/\-(2 ^ 64) < i/\i < 2 ^ 64):xK (.int i) (.int j)=.ok (.int (i ^ j.toNat)):=acW ⟨h.1,h.2.1,by omega⟩
def xT:AD (.int i) (.int j)=.ok (.bl (decide (i < j))):=rfl
def Wn:L5 (.int i) (.int j)=.ok (.bl (decide (i<=j))):=rfl
def Lj:Qb (.int i) (.int j)=.ok (.bl (decide (j < i))):=rfl
def TN:Lb (.int i) (.int j)=.ok (.bl (decide (j<=i))):=rfl
def U6:AD (.str x) (.str y)=.ok (.bl (decide (x.cps.toList < y.cps.toList))):=rfl
def Vj:L5 (.str x) (.str y)=.ok (.bl (!decide (y.cps.toList < x.cps.toList))):=rfl
def Vy:Lb (.str x) (.str y)=.ok (.bl (!decide (x.cps.toList < y.cps.toList))):=rfl
def vP:eY (.int i) (.int j)=.ok (.bl (decide (i=j))):=by simp [eY,t0,hV,B7,gH]
def fN:eY (.str x) (.str y)=.ok (.bl (decide (x=y))):=by simp [eY,t0,hV,B7,gH]
def Tx:eY .non .non=.ok (.bl true):=by simp [eY,t0,hV,B7,gH]
def RZ:sA (.int i) (.int j)=.ok (.bl (!decide (i=j))):=by simp [sA,t0,hV,B7,gH]
def JD:sA (.str x) (.str y)=.ok (.bl (!decide (x=y))):=by simp [sA,t0,hV,B7,gH]
def RX (h:x.length<=1000000) (J:atI x.cps.toList i=some k):fA (.str x) (.int i)=.ok (.str ⟨#[k]⟩):=by simp only [fA,acW h,J]
def xL (J:atI xs i=some d):fA (.lst xs) (.int i)=.ok d:=by simp only [fA,J]
def DX (J:atI xs i=some d):fA (.tup xs) (.int i)=.ok d:=by simp only [fA,J]
def bW:fA (.tup (d::r)) (.int 0)=.ok d:=DX (cI (j:=0) rfl)
def bL:fA (.tup (a::d::r)) (.int 1)=.ok d:=DX (cI (j:=1) rfl)
def wv {a b:D} {r:ada}:fA (.tup (a::b::d::r)) (.int 2)=.ok d:=DX (cI (j:=2) rfl)
def Oq {a b c:D} {r:ada}:fA (.tup (a::b::c::d::r)) (.int 3)=.ok d:=DX (cI (j:=3) rfl)
def Ii:fA (.lst (d::r)) (.int 0)=.ok d:=xL (cI (j:=0) rfl)
def Ub {lo hi:Option Int}:qN (.str x) lo hi=if x.length<=1000000 then .ok (.str (oC x lo hi)) else .no:=rfl
def Qi {xs:ada} {lo hi:Option Int}:qN (.lst xs) lo hi=.ok (.lst (qz xs lo hi)):=rfl
def Sn:cz [.str x]=if x.length<=1000000 then .ok (.int x.length) else .no:=rfl
def wz:cz [.lst xs]=.ok (.int xs.length):=rfl
def sO:cz [.tup xs]=.ok (.int xs.length):=rfl
def T3:Mm [.int i]=.ok (.int (if i < 0 then -i else i)):=rfl
def ET:wE [.lst xs]=.ok (.tup xs):=rfl
def Sf:wE [.tup xs]=.ok (.tup xs):=rfl
def SQ:BW [.lst xs]=.ok (.lst xs):=rfl
def Oa:BW [.tup xs]=.ok (.lst xs):=rfl
def y6:jV [.int i,.ty C]=if mY C=true then .ok (.bl (kH "int" C)) else .no:=rfl
def B8:jV [.str x,.ty C]=if mY C=true then .ok (.bl (kH "str" C)) else .no:=rfl
def KO:jV [.tup xs,.ty C]=if mY C=true then .ok (.bl (kH "tuple" C)) else .no:=rfl
def NX (h:Cj xs=some bs):zu [.lst xs]=.ok (.bl (bs.all id)):=by simp only [zu,h]
theorem Ff {β:Type} (f:β->Bool):∀ xs:List β,Cj (xs.map fun a=>D.bl (f a))=some (xs.map f)
 | []=>rfl
 | a::r=>by simp only [By,Cj,Ff f r,acG]
theorem strs_map {β:Type} (f:β->Str):∀ xs:List β,sP (xs.map fun a=>D.str (f a))=some (xs.map f)
 | []=>rfl
 | a::r=>by simp only [By,sP,strs_map f r,acG]
def QW (h:sP xs=some ys) (J:(ys.map (·.length)).sum+ys.length*z.length<=1000000):yz z [.lst xs]=.ok (.str (abz z ys)):=by simp only [yz,h,acW J]
def Ap {τ:FT} {ε:FE} (hf:xo t δ0=true) (J:xs.length<=1000000) (h:iT t τ ε δ0 xs=.ok ys):cC t τ ε δ0 xs=.ok (.lst ys):=by
 unfold cC;rw [acW ⟨hf,J⟩,h];rfl
def CF {β:Type} {k:Nat} {ε:FE} {J:Sd} {as:List β} (u:β->D) (f:β->D) (hf:xo (.one k) J=true) (Y:as.length<=1000000) (h:∀ a∈as,ε (J.set k (some (u a)))=.ok (f a)):cC (.one k) n9 ε J (as.map u)=.ok (.lst (as.map f)):=by
 refine Ap hf (by rw [lE];exact Y) ?_;clear Y;induction as with
 | nil=>rfl
 | cons a r L =>
  have h1:=h a W6;have L:=L fun b hb=>h b (lT _ hb);show (ε (J.set k (some (u a)))).bind _=_;rw [h1];show (iT (.one k) n9 ε J (r.map u)).bind _=_;rw [L];rfl
end
def A2 {β:Type} {E:ac5} (f:Nat->β->Sem (ForInStep β)) (I:Nat->β->iF->Prop) (Q:β->iF->Prop)
  (turn:∀ i c s,i < b->I i c s->RW M A (f i c) (fun r s'=>match r with|.yield b'=>I (i+1) b' s'|.done b'=>Q b' s') E s)
  (fin:∀ c s,I b c s->Q c s) (c:β) (h:I 0 c s):RW M A (forIn [0:b] c f) Q E s:=by
 rw [Std.Legacy.Range.forIn_eq_forIn_range'];have hsz:([0:b]:acx).size=b:=by simp [Std.Legacy.Range.size]
 show RW M A (forIn (acH 0 ([0:b]:acx).size 1) c f) Q E s;rw [hsz];refine wpAny_forIn_list f (fun l c st=>∃ i,i<=b/\l=acH i (b - i) 1/\I i c st) Q ?_ ?_ _ c ⟨0,Xk _,rfl,h⟩
 .rintro x rest c st ⟨i,hib,hl,hI⟩;have L:i < b:=by
   rcases acr i b with h'|h'
   .exact h'
   .rw [show b - i=0 by omega] at hl;simp at hl
  obtain ⟨n,hn⟩:∃ n,b - i=n+1:=⟨b - i - 1,by omega⟩;rw [hn,abb] at hl;obtain ⟨rfl,rfl⟩:=aa6 hl;refine XC (turn x c st (by omega) hI) (fun r J h'=>?_) fun _ _ z=>z;cases r with
  | done c'=>exact h'
  | yield c'=>exact ⟨x+1,by omega,by congr 1;omega,h'⟩
 .rintro c st ⟨i,hib,hl,hI⟩
  have:i=b:=by
   rcases acr i b with h'|h'
   .obtain ⟨n,hn⟩:∃ n,b - i=n+1:=⟨b - i - 1,by omega⟩;rw [hn,abb] at hl;simp at hl
   .omega
  subst this;exact fin _ _ hI
def x5 (l:Le) (items:ac8) (n:Nat) (dd:Option Le) (sl:Array (Option eQ)) (x:eQ) (e:eQ->Bool) (k:Nat) :
  Meets (Builtin.«tuple.index» ⟨[.ref l,x],[]⟩)
   (fun A R s=>s.heap.get? l=some { cls:=.type "tuple",dict:=dd,data:=.seq items.toArray n,slots:=sl }/\(∀ y,y∈items->acg A.in1 s y x (e y))/\(k < items.length/\(∀ y,items[k]?=some y->e y=true)/\∀ j y,j < k->items[j]?=some y->e y=false)/\R (.ok (.ret (.int (k:Nat) s.toks))) { s with toks:=s.toks+1 }) :=
 .of_wp fun prog w A R s h=>by
  obtain ⟨hp,g,d,tk,os⟩:=s;obtain ⟨hl,he,⟨hk0,L,hk2⟩,h⟩:=h
  wp_walk using aaC hl,A2 _ (fun i b s'=>b.1=none/\s'=⟨hp,g,d,tk,os⟩/\i<=k) _
  case turn =>
   rintro i b s' hi ⟨hb,rfl,hik⟩;have J:i < items.length:=by omega
   have e1:items.toArray[i]?=some items[i]:=by simp [J]
   simp only [e1];refine bY (he _ (XX J) prog w _ _ ?_);by_cases Y:i=k
   .subst Y;rw [L _ (rW J)]
    wp_walk
    exact ⟨_,rfl,h⟩
   .rw [hk2 i _ (by omega) (rW J)]
    wp_walk
    exact ⟨rfl,rfl,by omega⟩
  case fin =>
   rintro ⟨b1,b2⟩ s' ⟨hb,rfl,hik⟩;simp at hik;omega
  case h =>
   exact ⟨rfl,rfl,Xk _⟩
section
variable {X:Cx} {W:Wd} {O:ac2}
def Gc (x:V):ac9->Option Nat
 | []=>none
 | y::ys=>if eqV y x=true then some 0 else (Gc x ys).map (·+1)
def yM:∀ {xs:ac9} {us:ac8} {k:Nat},br xs us->xs.all jk=true->Gc x xs=some k->k < us.length/\(∀ y,us[k]?=some y->AX x y=true)/\∀ j y,j < k->us[j]?=some y->AX x y=false
 | _,_,_,.nil,_,h=>by cases h
 | y::xs,u::us,k,.cons r t,f,h=>by
  rw [Yn,Xe] at f;unfold Gc at h;split at h
  .rename_i e;cases h;refine ⟨by simp,fun J h'=>?_,fun j _ hj _=>absurd hj (aaw _)⟩;simp only [ZS,aaW] at h';subst h';rw [Ah r f.1];exact e
  .rename_i e;cases q:Gc x xs with
   | none=>rw [q] at h;cases h
   | some Y =>
    rw [q] at h;cases h;obtain ⟨h1,h2,L⟩:=yM t f.2 q;refine ⟨by simpa using h1,fun J h'=>h2 J (by simpa using h'),fun j J hj h'=>?_⟩;cases j with
    | zero =>
     simp only [ZS,aaW] at h';subst h';rw [Ah r f.1];simpa using e
    | succ j=>exact L j J (Nat.lt_of_succ_lt_succ hj) (by simpa using h')
def U8 (K:aT) (x:V) (xs:ac9) (H:Hp) (Q:VK):Prop:=∃ p vs y k,x=.ref p/\xs=[y]/\l6 K H p vs/\jk y=true/\vs.all jk=true/\Gc y vs=some k/\Q (.int (k:Nat)) H
def G8:Wu X "tuple.index" (U8 X.K):=by
 intro af s Z H x xs v us Q I rx r h;obtain ⟨p,vs,y,k,rfl,rfl,hq,fy,fs,e,q⟩:=h;cases rx;obtain ⟨u,rfl,ry⟩:=mz r;obtain ⟨its,J,pl,hz⟩:=I.tuple hq;obtain ⟨⟨cls,dd,L,sl⟩,ho,hc,n,Y⟩:=id pl;simp only at hc Y;subst hc Y;exact call_meets aaY ⟨_,ho,rfl⟩ PySem.F.entry_tuple_index (PySem.F.args_tuple_index_2 _ _) (x5 p its n dd sl u (AX y) k) ⟨ho,fun z hz=>mO ry fy J fs z hz,yM J fs e,⟨.int _,H,I.tok _,⟨_,rfl⟩,q⟩⟩
def KB (k:D) (ds:ada):R D:=match k,ds with
 | .tup xs,[d]=>match hV d,pH xs with
  | some v,some vs=>match Gc v vs with
   | some k=>.ok (.int (k:Nat))
   | none=>.no
  | _,_=>.no
 | _,_=>.no
def Bn (k:D) (α:FA):FE:=fun U=>(α U).bind fun ds=>KB k ds
def UC {α:FA}:Bn k α U=(α U).bind (KB k):=rfl
def wG {α:FA} (hm:X.mg x=some (.ref p)) (hd:∀ H,cS W.K H d (.ref p)) (hl:∃ ob,W.K.lookup p=some ob/\ob.cls=.type "tuple"/\ob.dict=none) (ha:JA X [e] (xG W O α)) (hK:X.K=W.K:=by rfl) (hg:Gl X x:=by rfl) (hdb:adb x:=by decide)
  (L:YE (.Name x pos) "index" X.env (eval (.Name x pos) X.env)=eval (.Name x pos) X.env:=by rfl) (J:(apos.endLine==cpos.line)=true:=by rfl) (h1:[e].all aX=true:=by rfl) (Y:[e].length < 29:=by decide) :
  JE X (.Call (.Attribute (.Name x pos) "index" apos) [e] [] cpos) (tD W O (Bn d α)) :=
 (ST PySem.F.plainAttrs_tuple aaY PySem.F.type_tuple_index G8 (JL (v:=.ref p) hm rfl hg hdb) ha L J h1 Y).imp fun Z H Q hh=>fH hh fun as0 B own U I h=>by
  obtain ⟨ob,hl,hc,hdn⟩:=hl;refine ⟨.inr (.inl ⟨rfl,ob,by rw [hK];exact hl,hc,hdn⟩),as0,B,own,U,I,eI h fun ds xs H2 s2 d2 h2=>?_⟩;have dp:=hd (aH (own++as0) H2);unfold KB at h2;split at h2
  .rename_i ks d';obtain ⟨v,rfl,dv⟩:=ja d2;obtain ⟨p',vs,e0,q1,q2⟩:=dp;cases e0;split at h2
   .rename_i w ws e1 e2;split at h2
    .rename_i k e3
     have:=iw dv e1
     subst this;obtain ⟨h3,h4⟩:=rH q2 e2;subst h3;exact ⟨p,vs,v,k,rfl,rfl,by rw [hK];exact (ax _ _).seqT q1,xi e1,h4,e3,aP h2 rfl⟩
    .exact h2.elim
   .exact h2.elim
  .exact h2.elim
end
def iy {α:Type} [DecidableEq α] (ks:List α):List α:=ks.foldl (fun acc k=>if k∈acc then acc else acc++[k]) []
section
variable {α:Type} [DecidableEq α]
def yC (ks:List α) (k:α):iy (ks++[k])=if k∈iy ks then iy ks else iy ks++[k]:=by unfold iy;rw [aaZ];rfl
def M6 (ks:List α):(iy ks).length<=ks.length:=by
 have J:∀ n,(iy (ks.take n)).length<=n:=by
  intro n;induction n with
  | zero=>simp [iy]
  | succ n L =>
   rcases acr n ks.length with h|h
   .rw [ZX h,yC];split
    .omega
    .rw [BY,XF];omega
   .rw [Zh (by omega)] at L ⊢;omega
 have:=J ks.length
 rwa [aak] at this
end
section
variable {prog:Xh} {w:Xv} {A:Xs} {R:Result->iF->Prop} {I:Le} {fp wr:ac7} {G:Array GenState->Array GenState->Prop} {n:Nat} {P:Nat->eQ->Prop} {St:Nat->iF->Prop}
variable {α:Type} [DecidableEq α] {knd:KeyKind prog w α}
def BV {h:YG} {a:Le} {S J:α->Bool} {n n':Nat} (L:h.SetOf knd a S n) (e:∀ k,S k=J k) (en:n=n'):h.SetOf knd a J n':=by
 have:S=J:=funext e
 subst this;subst en;exact L
def F1 (W:WalksS prog w A.in1 I fp wr G n P St) (S:Le) (hSf:S∉fp) (ks:List α) (hlen:ks.length=n)
  (hval:∀ i v,P i v->∀ k,ks[i]?=some k->knd.is k v=true/\v.scannable=true) (hb:n+1 < scanBound) :
  ∀ (m i:Nat) (s:iF),n - i=m->i<=n->St i s ->
   s.heap.SetOf knd S (fun J=>decide (J∈iy (ks.take i))) (iy (ks.take i)).length ->
   (∀ s',Moved (S::wr) G s s'->s'.heap.SetOf knd S (fun J=>decide (J∈iy ks)) (iy ks).length->R (.ok (.ret .none)) s') ->
   Z3 (Xa prog w) A (.builtin "set.update.loop" ⟨[.ref S,.ref I],[]⟩) R s:=by
 have hSw:S∉wr:=fun h=>hSf (W.sub _ h);have L:∀ b∈wr,b∈S::wr:=fun b hb=>lT _ hb;intro m;induction m with
 | zero =>
  intro i s Y hi hst hS hR;have hin:i=n:=by omega
  subst hin;rw [<- hlen,aak] at hS;refine codeAny_builtin F.entry_set_update_loop ?_;rw [abD F.plain_set_update_loop _];show RW _ A.in1 (pyNext (.ref I) >>= _) _ _ s;refine bY (W.done s _ _ hst fun s' hm=>?_);show RW _ A.in1 (ret XG) _ _ s';refine oR (hR s' (hm.mono L) ?_);obtain ⟨o,es,ep,t,ho,rest⟩:=hS;exact ⟨o,es,ep,t,hm.heap S _ hSw ho,rest⟩
 | succ m ih =>
  intro i s Y hi hst hS hR;have hlt:i < n:=by omega
  have hik:i < ks.length:=by omega
  refine codeAny_builtin F.entry_set_update_loop ?_;rw [abD F.plain_set_update_loop _];show RW _ A.in1 (pyNext (.ref I) >>= _) _ _ s;refine bY (W.item i s _ _ hlt hst fun v s' hP hst' hm=>?_);obtain ⟨hv1,hv2⟩:=hval i v hP ks[i] (rW hik);have hS':s'.heap.SetOf knd S (fun J=>decide (J∈iy (ks.take i))) (iy (ks.take i)).length:=by
   obtain ⟨o,es,ep,tb,ho,rest⟩:=hS;exact ⟨o,es,ep,tb,hm.heap S _ hSw ho,rest⟩
  show RW _ A.in1 (holding [v] (setAdd S v) >>= _) _ _ s';refine bY (Yc ?_);unfold setAdd;refine Yc ?_;refine bY (knd.pyHash hv1 ?_);have hroom:(iy (ks.take i)).length+1 < scanBound:=by
   have:=M6 (ks.take i)
   rw [XH] at this;omega
  refine wpAny_setAddHashed_of (knd:=knd) (s:={ s' with toks:=s'.toks+1 }) hv1 hv2 hS' hroom fun h' hsb hS2=>?_;have hSi:h'.SetOf knd S (fun J=>decide (J∈iy (ks.take (i+1)))) (iy (ks.take (i+1))).length:=by
   rw [ZX hik,yC];refine BV hS2 (fun J=>?_) ?_
   .by_cases Y:ks[i]∈iy (ks.take i)
    .rw [acW Y];by_cases e:J=ks[i]
     .subst e;simp [Y]
     .simp [e]
    .rw [acX Y];simp [DO,Bool.decide_or]
   .by_cases Y:ks[i]∈iy (ks.take i)
    .simp [Y]
    .simp [Y]
  refine oR ⟨plainId_quiet F.plain_set_update_loop _,ih (i+1) _ (by omega) hlt (W.frame _ s' _ _ hst' (Zj _) fun b hb o e=>?_) hSi fun s'' hm'' hS''=>?_⟩
  .rw [hsb.2 b (fun h:b=S=>hSf (by rw [<- h];exact hb))];exact e
  .refine hR s'' (Moved.trans W.gtrans ((hm.mono L).then_heap (Zj _) fun b o hb e=>?_) hm'') hS'';rw [hsb.2 b (fun h:b=S=>hb (by rw [h];exact W6))];exact e
def xh {E:ac5} {s:iF} {l:Le} {items:Array eQ} {ks:List α} {Q:ac5}
  (hh:A.handled=none) (hl:s.heap.IsList l items) (hlen:ks.length=items.size) (hi:∀ (i:Nat) v,items[i]?=some v->∀ k,ks[i]?=some k->knd.is k v=true/\v.scannable=true) (hb:items.size+1 < scanBound)
  (h:∀ (h':YG) (tk:Nat),h'.SetOf knd s.heap.objs.size (fun k'=>decide (k'∈iy ks)) (iy ks).length ->
   (∀ b o,b < s.heap.objs.size->s.heap.get? b=some o->h'.get? b=some o)->Q (.ref s.heap.objs.size) { s with heap:=h',toks:=tk }) :
  RW (Xa prog w) A (call (.type "set") [.ref l]) Q E s:=by
 obtain ⟨c,tl,hmro⟩:=Yr.mro;have hmade:=Yr.made;have hsub:=Yr.sub;refine wpAny_call (codeAny_of_tree ?_);show RW _ _ (callAny (.type "set") _) _ _ _;refine oR ⟨Code.quiet_builtin _ (by trivial),codeAny_builtin PySem.F.entry_type_call ?_⟩;rw [Around.under_plain (weight_type_call_type "set" [.ref l] []) rfl];have h1:=Yr.notType;have h2:=Yr.canCreate;have hct:=PySem.F.typeCall_set_1 (.ref l);repeat (any_goals (first|assumption|wp_step))
 refine YW (code_set_new_1 (.ref l) (E:=E) (Q₁:=fun obj s₁=>∃ J:Bool,obj=.ref s.heap.objs.size/\s₁={ s with heap:=s.heap.push { cls:=.type "set",dict:=none,data:=.set #[] 0 (.fresh 0 0 J) } }) fun J=>⟨J,rfl,rfl⟩) fun r s₁ hr=>?_;cases r with
 | error e=>exact hr
 | ok fl =>
  cases fl with
  | ret obj =>
   obtain ⟨J,rfl,rfl⟩:=hr;have hS:(s.heap.push { cls:=.type "set",dict:=none,data:=.set #[] 0 (.fresh 0 0 J) }).get? s.heap.objs.size=some { cls:=.type "set",dict:=none,data:=.set #[] 0 (.fresh 0 0 J) }:=ID _ rfl;have hT:Shared.TypeIs { s with heap:=s.heap.push { cls:=.type "set",dict:=none,data:=.set #[] 0 (.fresh 0 0 J) } } (.ref s.heap.objs.size) "set":=⟨_,hS,rfl⟩;have hli:=Yr.init.lookup;have hbi:=Yr.init.bind (.ref s.heap.objs.size);repeat (any_goals (first|assumption|wp_step))
   refine YW (codeAny_call_builtin (R:=wants (fun r s₂=>r=.none/\∃ h' tk,s₂={ s with heap:=h',toks:=tk } /\
     h'.SetOf knd s.heap.objs.size (fun k'=>decide (k'∈iy ks)) (iy ks).length /\
     (∀ b o,b < s.heap.objs.size->s.heap.get? b=some o->h'.get? b=some o)) E) Yr.init.plain PySem.F.entry_set_init (check_set_init_1 hT ?_)) fun r₂ s₂ L=>?_
   .obtain ⟨ol,hol,hcl,nl,hdl⟩:=hl;obtain ⟨ocls,odict,odata,Y⟩:=ol;simp only at hcl hdl;subst hcl;subst hdl;have hol':(s.heap.push { cls:=.type "set",dict:=none,data:=.set #[] 0 (.fresh 0 0 J) }).get? l=some { cls:=.type "list",dict:=odict,data:=.seq items nl,slots:=Y }:=dO _ hol;have hsls:=PySem.F.sub_list_set;have hslf:=PySem.F.sub_list_frozenset;have hne:(aar "list"==aar "dict")=false:=by decide
    have hl1:(s.heap.push { cls:=.type "set",dict:=none,data:=.set #[] 0 (.fresh 0 0 J) }).IsList l items:=⟨_,hol',rfl,nl,rfl⟩;unfold Builtin.«set.__init__» noKeywords Builtin.Frozenset.updateFrom;generalize hPI:ab8=PI
    wp_walk
    subst hPI;refine wpAny_pyIter_list hl1 ?_;refine bY (wpAny_runValue ?_);have hlS:l < s.heap.objs.size:=MK hol;have hh3:A.in1.in1.in1.handled=none:=by simp [hh]
    have hneI:l≠(s.heap.push { cls:=.type "set",dict:=none,data:=.set #[] 0 (.fresh 0 0 J) }).objs.size:=by
     rw [X9];exact Xb (Y5 hlS)
    have hSf:s.heap.objs.size∉[(s.heap.push { cls:=.type "set",dict:=none,data:=.set #[] 0 (.fresh 0 0 J) }).objs.size,l]:=by
     rw [X9];simp only [iN,OR,W7,or_false,not_or];exact ⟨Xb (Ze _),aaL hlS⟩
    refine F1 (knd:=knd) ((Walks.list hh3 _ l hneI items).toS) s.heap.objs.size
     hSf ks hlen hi hb (items.size - 0) 0 _ (by omega) (Xk _)
     ⟨⟨_,ID _ rfl,rfl,rfl⟩,(hl1.push _)⟩ ?hS0 ?hR
    case hS0 =>
     have hget:((s.heap.push { cls:=.type "set",dict:=none,data:=.set #[] 0 (.fresh 0 0 J) }).push { cls:=.type "list_iterator",data:=.fields #[.ref l,.int 0 0] }).get? s.heap.objs.size
       = some { cls:=.type "set",dict:=none,data:=.set #[] 0 (.fresh 0 0 J) }:=dO _ hS
     exact BV ((setObjOf_fresh (knd:=knd) J).setOf hget (by unfold scanBound;omega)) (fun _=>by simp [iy]) (by simp [iy])
    case hR =>
     intro s' hm hS';obtain ⟨h',g',d',tk',os'⟩:=s';have eg:g'=s.gens:=hm.gens;have ed:d'=s.drawn:=hm.drawn;have eo:os'=s.os:=hm.os;subst eg;subst ed;subst eo;show RW _ _ _ _ _ _;refine oR ?_;show RW _ _ (ret XG) _ _ _;refine oR ⟨rfl,h',tk',rfl,hS',fun b o hb e=>?_⟩;have hb1:b≠s.heap.objs.size:=Xb hb;have hb2:b≠(s.heap.push { cls:=.type "set",dict:=none,data:=.set #[] 0 (.fresh 0 0 J) }).objs.size:=by
      rw [X9];exact Xb (Y5 hb)
     exact hm.heap b o (by simp only [iN,OR,W7,or_false,not_or];exact ⟨hb1,hb2⟩) (dO _ (dO _ e))
   .cases r₂ with
    | error e=>exact L
    | ok fl₂ =>
     cases fl₂ with
     | ret r =>
      obtain ⟨rfl,h',tk,rfl,hS',hk'⟩:=L;repeat (any_goals (first|assumption|wp_step))
      exact h _ _ hS' hk'
     | _=>exact L.elim
  | _=>exact hr.elim
end
section
variable {X:Cx} {W:Wd} {O:ac2}
def Np (K:aT) (t:TA):TE:=fun Z H Q=>t Z H fun vs H1=>∃ a ys,vs=[.ref a]/\il K H1 a (ys.map V.str)/\ys.length<=1000/\Q (.int ((iy ys).length:Nat)) H1
def GN {t:TA} (hc:X.calm=true) (hm1:X.mg "len"=none) (hm2:X.mg "set"=none) (ha:PA X [e] t) (hg1:Gl X "len":=by rfl) (hg2:Gl X "set":=by rfl)
  (he:Xy [e] X.env=(false,eval e X.env)::Xy [] X.env:=by rfl) (hpl:(ZK pos1 (Xy [] X.env)).any (·.1)=false:=by rfl)
  (Y:Xy [.Call (.Name "set" p2) [e] [] pos1] X.env=(false,eval (.Call (.Name "set" p2) [e] [] pos1) X.env)::Xy [] X.env:=by rfl) (L:(ZK pos (Xy [] X.env)).any (·.1)=false:=by rfl) :
  PE X (.Call (.Name "len" p1) [.Call (.Name "set" p2) [e] [] pos1] [] pos) (Np X.K t):=by
 intro af s Z H Q I h;refine XR (m8 I hg1 hm1 cL ?_ (by decide) (by decide));refine aad ?_ Y L;rw [Y];show RW _ _ (spliced ((false,eval (.Call (.Name "set" p2) [e] [] pos1) X.env)::ZK pos (Xy [] X.env))) _ _ s;refine ab4 ?_;refine XR (m8 I hg2 hm2 Qj ?_ (by decide) (by decide));refine Ym (dg (ha pos1 af s Z H _ I h) fun us s1 hh=>n6 hh fun vs H1 I1 r1 q1=>?_) he hpl;obtain ⟨a,ys,rfl,hq,hl,q⟩:=q1;obtain ⟨u,rfl,ru⟩:=mz r1;cases ru;obtain ⟨its,rv,pl,hz⟩:=I1.list hq;have hlen:its.length=ys.length:=by rw [<- rv.length,lE]
 have hsb:scanBound=4096:=rfl;refine bf I1.tk (xh (knd:=strKind X.prog X.w) (ks:=ys) (I1.ok.hd hc) pl.isList (by simp [hlen]) (fun i v hv k hk=>?_) (by rw [hsb];simp;omega) fun h' tk hS J htk=>?_)
 .have hv':its[i]?=some v:=by simpa using hv
  obtain ⟨u,hu,ru⟩:=rv.get (show (ys.map V.str)[i]?=some (.str k) by rw [Xw,hk];rfl);rw [hv'] at hu;cases hu;obtain ⟨t',rfl⟩:=ru;exact ⟨strKind_is _ _ _ _,rfl⟩
 .refine ace ?_;obtain ⟨o,es,ep,t',ho,hex,hd,hel,hmem,hb',hf,hn⟩:=hS;have I2:Inv X af Z H1 { s1 with heap:=h',toks:=tk }:=I1.kept fun b u e=>J b u (MK e) e;refine call_len_set ho hex hd hf (by rw [hsb] at hb';omega) ⟨.int _,H1,I2.tok _,⟨_,rfl⟩,?_⟩;rw [hn];exact q
def zR (ds:ada):R D:=match ds with
 | [.lst xs]=>match sP xs with
  | some ys=>if ys.length<=1000 then .ok (.int ((iy ys).length:Nat)) else .no
  | none=>.no
 | _=>.no
def II {α:FA} (Y:X.mg "len"=none) (hm2:X.mg "set"=none) (ha:JA X [e] (xG W O α)) (hK:X.K=W.K:=by rfl) (hc:X.calm=true:=by rfl) (J:Gl X "len":=by rfl) (L:Gl X "set":=by rfl) (h1:aX e=true:=by rfl) :
  JE X (.Call (.Name "len" p1) [.Call (.Name "set" p2) [e] [] pos1] [] pos) (tD W O (ao zR α)) :=
 (JE.mk (GN (p1:=p1) (p2:=p2) (pos1:=pos1) (pos:=pos) hc Y hm2 ha.out J L (b8 h1) rfl rfl rfl)).imp fun Z H Q hh=>fH hh fun as0 B own U I h=>⟨as0,B,own,U,I,eI h fun ds xs H2 s2 d2 h2=>by
  unfold zR at h2;split at h2
  .obtain ⟨v,rfl,d1⟩:=ja d2;obtain ⟨p,vs,rfl,q1,q2⟩:=d1;split at h2
   .rename_i ys e;split at h2
    .rename_i hl;refine ⟨p,ys,rfl,?_,hl,aP h2 rfl⟩;rw [<- uB q2 e,hK];exact (ax _ _).seq q1
    .exact h2.elim
   .exact h2.elim
  .exact h2.elim⟩
end
section
variable {X:Cx} {W:Wd} {O:ac2} {b:Yb} {ψ:FE} {x:Str} {p1 pos:Pos} {op:CmpOp}
def F4 (K:aT) (f:Bool->Bool) (hi:i∈O) (hW:W.K=K) {H:Hp} {Q:VK} {B:Hp} (I:DI W.K as0 B O own Z U H) (h:cO W (own++as0) H (aE (fun a b=>gH (t0 a b) f) (ai i) ψ U) Q):Dv (AC K f) (xc i) (tD W O ψ) Z H Q:=by
 obtain ⟨a,Y⟩:=gR I.olen hi;obtain ⟨d,o,h1,h2,h3,h4⟩:=I.owns i a Y;have hv:ai i U=.ok d:=by unfold ai;rw [h1]
 have h':cO W (own++as0) H ((ψ U).bind fun y=>gH (t0 d y) f) Q:=by
  have e:aE (fun a b=>gH (t0 a b) f) (ai i) ψ U=(ψ U).bind fun y=>gH (t0 d y) f:=by unfold aE;rw [hv];rfl
  rw [<- e];exact h
 have e0:Dv (AC K f) (xc i) (tD W O ψ) Z H Q=zF Z[i]? H (RP (AC K f) (tD W O ψ) Z Q):=rfl;rw [e0,h2];subst hW;refine ⟨as0,B,own,U,I,bZ h' fun y u H2 s2 d2 J=>?_⟩;have L:a∈own:=(XA Y).2;have od:nY W.K (aH [a] H2) o d:=h4.mono ((mf fun b hb=>by
  rw [OR.mp hb];exact Xf _ L).trans (aW s2))
 have dd:cS W.K H2 d (.ref a):=by
  have:=od.den (as:=[]) (by simp) (s2 _ _ h3)
  rwa [sv] at this
 cases e:t0 d y with
 | none=>rw [e] at J;exact J.elim
 | some k =>
  rw [e] at J;exact ⟨d,y,k,dd,d2.mono (ax _ _),e,aP J rfl⟩
def E4 (K:aT) (f:Bool->Bool) (hi:i∈O) (ho:eZ X (Xn op) (AC K f)) (hb:JE X b (tD W O ψ)) (hm:YK op b=false) (Y:X.N[i]?=some x:=by rfl) (hv:Cz X.env.scope x:=by walk_at"v") (hd:adb x:=by decide)
  (J:(x==("__classdict__":Str))=false:=by decide) (hW:W.K=K:=by rfl):JT X (.Compare (.Name x p1) [op] [b] pos) (rS W O (bS (aE (fun a b=>gH (t0 a b) f) (ai i) ψ))) :=
 (DZ ho (jv i Y hv hd J) hb hm).imp fun Z H Q hh=>fH hh fun as0 B own U I h=>F4 K f hi hW (Q:=NU Q) I (gf h fun z w H3 s3 d3 L=>by
  cases z with
  | bl k=>cases d3;exact L H3 (az.refl _)
  | _=>exact L.elim)
end
end L2
namespace LT
open PySem PyProof.Rows PySem.SeqAt
open PySem.AutoSeq1 (wpAny_loadPart')
open PySem.MeetsSeq PySem.MeetsSeq2 PySem.MeetsSeq3
def LtAt (A:Xs) (s:iF) (y x:eQ) (b:Bool):Prop :=
 ∀ (prog:Xh) (w:Xv) (E:ac5) (Q:ac5),Q (.bool b) s->RW (Xa prog w) A (richCompare .Lt y x) Q E s
inductive Lx (A:Xs) (s:iF):ac8->ac8->Bool->Prop
 | nn:Lx A s [] [] false
 | nc {y:eQ} {ys:ac8}:Lx A s [] (y::ys) true
 | cn {x:eQ} {xs:ac8}:Lx A s (x::xs) [] false
 | eq {x y:eQ} {xs ys:ac8} {b:Bool} (h:EqAt A s x y true) (t:Lx A s xs ys b):Lx A s (x::xs) (y::ys) b
 | ne {x y:eQ} {xs ys:ac8} {b:Bool} (h:EqAt A s x y false) (t:LtAt A s x y b):Lx A s (x::xs) (y::ys) b
def J1 (l b:Le) (items J:Array eQ) (n n2:Nat) (dd dd2:Option Le) (sl sl2:Array (Option eQ)) (r:Bool) :
  Meets (Builtin.«tuple.__lt__» ⟨[.ref l,.ref b],[]⟩)
   (fun A R s=>s.heap.get? l=some { cls:=.type "tuple",dict:=dd,data:=.seq items n,slots:=sl }/\s.heap.get? b=some { cls:=.type "tuple",dict:=dd2,data:=.seq J n2,slots:=sl2 } /\
    Lx A.in1 s items.toList J.toList r/\R (.ok (.ret (.bool r))) s) :=
 .of_wp fun prog w A R s h=>by
  obtain ⟨hp,g,d,tk,os⟩:=s;obtain ⟨hl,hb,L,h⟩:=h;have f2:=AutoSeq1.sub_tuple_tuple
  wp_walk using aaC hl,aaC hb,wpAny_forIn_list _ (fun rest b s'=>b.1=none/\s'=⟨hp,g,d,tk,os⟩/\∃ (vs ws:ac8) , rest=vs.zip ws /\
   Lx A.in1 ⟨hp,g,d,tk,os⟩ vs ws r/\vs.length+J.size=ws.length+items.size) _
  case turn =>
   rintro ⟨y,x⟩ rest b s' ⟨hb',rfl,vs,ws,hz,L,hlen⟩;cases L with
   | nn=>cases hz
   | nc=>cases hz
   | cn=>rw [List.zip_nil_right] at hz;cases hz
   | eq he Y =>
    rw [X7] at hz;injection hz with hyx hrest
    injection hyx with hy L
    subst hy L;simp only [Xq] at hlen;refine bY (he prog w _ _ ?_)
    wp_walk
    exact ⟨rfl,rfl,_,_,hrest,Y,by omega⟩
   | ne he Y =>
    rw [X7] at hz;injection hz with hyx hrest
    injection hyx with hy L
    subst hy L;refine bY (he prog w _ _ ?_);have hri:=Y prog w
    wp_walk using hri
    exact ⟨_,rfl,by simpa using h⟩
  case fin =>
   rintro ⟨b1,b2⟩ s' ⟨hb',rfl,vs,ws,hz,L,hlen⟩;simp only at hb';subst hb';have hv:r=decide (items.size < J.size):=by
    cases L with
    | nn=>simp only [aas] at hlen;exact (acY (by omega)).symm
    | nc=>simp only [aas,Xq] at hlen;exact (acZ (by omega)).symm
    | cn=>simp only [aas,Xq] at hlen;exact (acY (by omega)).symm
    | eq he Y=>rw [X7] at hz;cases hz
    | ne he Y=>rw [X7] at hz;cases hz
   rw [hv] at h
   wp_walk
   exact ⟨_,rfl,by simpa [Builtin.Tuple.tupleCompareSizes] using h⟩
  case h =>
   exact ⟨rfl,rfl,items.toList,J.toList,rfl,L,by simp;omega⟩
def LtAt.tup (hl:aam s.heap l items) (hb:aam s.heap b items2) (hx:Lx A.in1 s items.toList items2.toList r) (hu:A.units < ZM):LtAt A s (.ref l) (.ref b) r:=fun prog w E Q h=>by
 obtain ⟨⟨cls,dd,data,sl⟩,ho,hc,n,hd⟩:=id hl;obtain ⟨⟨cls2,dd2,data2,sl2⟩,Y,L,n2,J⟩:=id hb;simp only at hc hd L J;subst hc hd L J;exact richCompare_meets_room (op:=.Lt) ⟨_,ho,rfl⟩ ⟨_,Y,rfl⟩ PySem.F.slot_tuple_lt PySem.F.entry_tuple_lt (PySem.F.args_tuple_lt_2 _ _) (J1 l b items items2 n n2 dd dd2 sl sl2 r)
  ⟨ho,Y,hx,show abx r≠Value.notImplemented/\Q (.bool r) s from ⟨(fun x=>nomatch x),h⟩⟩ hu
def LtAt.int (a:Int) (t:Tok) (c:Int) (u:Tok):LtAt A s (.int a t) (.int c u) (decide (a < c)):=fun prog w E Q h=>(PyProof.Rows.lt_int h:RW (Xa prog w) A (Xn .Lt (.int a t) (.int c u)) Q E s)
def LtAt.str (a:Str) (t:Tok) (c:Str) (u:Tok):LtAt A s (.str a t) (.str c u) (decide (a.cps.toList < c.cps.toList)):=fun prog w E Q h=>(PyProof.Rows.lt_str h:RW (Xa prog w) A (Xn .Lt (.str a t) (.str c u)) Q E s)
end LT
namespace L2
open PySem PySem.Spec PyProof.Rows
def Rs (tab:List (Str×D)) (d:D):R D:=match d with
 | .str x=>(match tab.lookup x with
  | some d=>.ok d
  | none=>.no)
 | _=>.no
section
variable {X:Cx} {W:Wd} {O Ob:ac2} {e:Yb} {φ:FE} {pos p1:Pos}
def Mw (tab:List (Str×D)) (hm:X.mg x=some (.ref a)) (L:X.K.lookup a=some ⟨.type "dict",none,.dict es n,#[]⟩) (Y:aax X.w.params es.toList)
  (hv:∀ y d,tab.lookup y=some d->∃ v u,Xg X.K a y=some (some u)/\ba v u/\∀ H,cS W.K H d v) (he:JE X e (tD W O φ)) (hg:Gl X x:=by rfl) (J:adb x:=by decide) (hs:J5 e:=by exact fun _ _=>rfl) :
  JE X (.Subscript (.Name x p1) e pos) (tD W O (Ld (Rs tab) φ)):=⟨by
 intro af s Z H Q I0 ⟨as0,B,own,U,I,h⟩;refine EU aaO.lookup hs (iK I0 hg hm (dg (he.out af s Z H (fun v H1=>∃ y d,v=.str y/\tab.lookup y=some d/\cO W (own++as0) H1 (.ok d) Q) I0 ⟨as0,B,own,U,I,bZ h fun y v H2 s2 d2 h2=>?_⟩) fun iv s2 ⟨yv,H2,I2,ry,y,d,ey,q1,q2⟩=>?_) J)
 .unfold Rs at h2;cases y with
  | str x =>
   cases d2;simp only at h2;cases q:tab.lookup x with
   | none=>rw [q] at h2;exact h2.elim
   | some d=>rw [q] at h2;exact ⟨x,d,rfl,q,h2⟩
  | _=>exact h2.elim
 .subst ey;obtain ⟨t,rfl⟩:=ry;obtain ⟨v,u,h1,h2,h3⟩:=hv y d q1;obtain ⟨m,F⟩:=I2.fr;refine ⟨(acI (prog:=X.prog) (w:=X.w) I2.kIn L Y).typeIs,PySem.W.topGetDict_K F I2.mod.kin L Y h1 ⟨v,H2,I2.tok _,h2,q2 v H2 (az.refl _) (h3 _)⟩⟩⟩
end
def tab_of {P:Str->D->Prop}:∀ {tab:List (Str×D)},(∀ p∈tab,P p.1 p.2)->∀ {y:Str} {d:D},tab.lookup y=some d->P y d
 | [],_,_,_,e=>by cases e
 | p::r,h,y,d,e=>by
  rw [Yz] at e;cases hb:y==p.1 with
  | true =>
   rw [hb] at e;have e:some p.2=some d:=e;cases e
   have:y=p.1:=eq_of_beq hb
   rw [this];exact h p W6
  | false=>rw [hb] at e;exact tab_of (fun q J=>h q (lT _ J)) e
def FnOk.void {P:Xh} {w:Xv} {K:aT} {mg:ac6} {base:YG} {k:Nat} {f:Le} {fd:Xz} {ps:ac3}:FnOk P w K mg base cQ k f fd ps (dQ K mg fun _=>.no) :=
 ⟨fun vs H Q E ⟨_,_,_,_,h⟩=>h.elim,fun A outer s H args us vs Q E hr e0 hb r ⟨_,_,_,_,h⟩=>h.elim⟩
structure Nw (X:Cx) (af:ac4) (b:Le):Prop where
 base:X.s₀.heap.get? b=none
 loc:b≠X.env.locals
 fs:b∉X.fs
 cell:∀ x c,X.env.cells.lookup x=some c->c≠b
 pin:∀ p∈X.pn++af,p.1≠b
section
variable {X:Cx} {af:ac4} {Z:St} {H:Hp} {s:iF}
def Mn {h:YG} {b:Le} (k:h.objs.size<=b):h.get? b=none:=aan k
def Nw.new (I:Inv X af Z H s) {b:Le} (J:s.heap.objs.size<=b):Nw X af b:=by
 obtain ⟨_,f1,f2,_,f4,f5⟩:=I.fpOk J (I.hok.fresh J);exact ⟨Mn (IF I.sz J),f1,f2,f4,f5⟩
def t9 (X:Cx):Prop:=∀ b∈X.ex,∃ o,(b,o)∈X.pn
def Nw.gone (I:Inv X af Z H s) (hx:t9 X) (L:s.heap.get? b=none):Nw X af b:=by
 have Y:b∉X.ex:=fun z=>by
  obtain ⟨o,J⟩:=hx b z
  have:=(I.pin (b,o) (Xf _ J)).1
  rw [L] at this;cases this
 refine ⟨?_,?_,fun z=>?_,fun x c e z=>?_,fun p hp z=>?_⟩
 .cases q:X.s₀.heap.get? b with
  | none=>rfl
  | some o =>
   obtain ⟨o',e⟩:=I.base.there b o q Y;rw [L] at e;cases e
 .intro z;obtain ⟨m,⟨o,_,_,J,_⟩,_⟩:=I.loc;rw [<- z,L] at J;cases J
 .obtain ⟨_,o,J,_⟩:=I.ok.funs.mem z;obtain ⟨o',e⟩:=I.base.there b o J Y;rw [L] at e;cases e
 .obtain ⟨v,o,J,_⟩:=I.cell x c e;rw [z,L] at J;cases J
 .have:=(I.pin p hp).1
  rw [z,L] at this;cases this
def t9.nil (h:X.ex=[]):t9 X:=fun b z=>by rw [h] at z;cases z
def Nw.less (n:Nw X af b):Nw X [] b:=⟨n.base,n.loc,n.fs,n.cell,fun p J=>n.pin p (by
 rcases DO.mp J with z|z
 .exact Xf _ z
 .cases z)⟩
def Inv.less (I:Inv X af Z H s):Inv X [] Z H s:=⟨I.ok,I.os,I.bare,I.base,I.loc,I.cell,I.free,I.freeC,fun p J=>I.pin p (by
 rcases DO.mp J with z|z
 .exact Xf _ z
 .cases z),I.hok,I.len,I.tk⟩
def Inv.recs {h':YG} {ch:ac7} (I:Inv X af Z H s) (J:∀ b∈ch,Nw X af b/\H b=none)
  (k:∀ b o,b≠X.env.locals->b∉X.fs->b∉ch->s.heap.get? b=some o->h'.get? b=some o)
  (sl:∀ b o,b∉ch->s.heap.get? b=some o->∃ l,h'.get? b=some { o with slots:=l }):Inv X af Z H { s with heap:=h' }:=by
 have nL:X.env.locals∉ch:=fun z=>(J _ z).1.loc rfl;have nC:∀ x c,X.env.cells.lookup x=some c->c∉ch:=fun x c e z=>(J c z).1.cell x c e rfl;have nB:∀ b o,X.s₀.heap.get? b=some o->b∉ch:=fun b o e z=>by rw [(J b z).1.base] at e;cases e
 have neL:∀ b o,X.s₀.heap.get? b=some o->b≠X.env.locals:=fun b o e=>Xb (W5 (MK e) I.ok.above);have frH:∀ b∈X.fs,H b=none:=fun b hb=>by
  obtain ⟨_,o,ho,_⟩:=I.ok.funs.mem hb;exact I.base.free b o ho (I.ok.frf b hb) fun z=>I.ok.exfs b z hb
 have Y:∀ b u o,H b=some u->s.heap.get? b=some o->h'.get? b=some o:=fun b u o e q=>by
  refine k b o (fun z=>?_) (fun z=>?_) (fun z=>?_) q
  .rw [z,I.free] at e;cases e
  .rw [frH b z] at e;cases e
  .rw [(J b z).2] at e;cases e
 have L:∀ x c,X.env.cells.lookup x=some c->∀ v,s.heap.IsCell c v->h'.IsCell c v:=fun x c e v ⟨o,ho,hd⟩=>by
  obtain ⟨l,q⟩:=sl c o (nC x c e) ho;exact ⟨_,q,hd⟩
 refine ⟨I.ok,I.os,I.bare,⟨fun b o e n hb hx=>?_,fun b o e n hb hx=>?_,I.base.free,fun b o e hx=>?_,I.base.tups,I.base.frzs,I.base.tbls⟩,?_,fun x c e=>?_,I.free,I.freeC,fun p hp=>?_,fun a u e=>?_,I.len,I.tk⟩
 .exact k b o (neL b o e) hb (nB b o e) (I.base.keep b o e n hb hx)
 .obtain ⟨l,e1⟩:=I.base.slot b o e n hb hx;obtain ⟨l',e2⟩:=sl b _ (nB b o e) e1;exact ⟨l',e2⟩
 .obtain ⟨o',e1⟩:=I.base.there b o e hx;obtain ⟨l',e2⟩:=sl b _ (nB b o e) e1;exact ⟨_,e2⟩
 .obtain ⟨m,⟨o,es,ep,ho,hd,r⟩,hl⟩:=I.loc;obtain ⟨l,q⟩:=sl _ o nL ho;refine ⟨m,⟨_,es,ep,q,hd,r⟩,fun i x v e1 e2 e3=>?_⟩;obtain ⟨u,r,z⟩:=hl i x v e1 e2 e3;refine ⟨u,r,?_⟩;rcases z with z|⟨k',c,e,z⟩
  .exact .inl z
  .exact .inr ⟨k',c,e,L x c e _ z⟩
 .obtain ⟨v,z⟩:=I.cell x c e;exact ⟨v,L x c e v z⟩
 .obtain ⟨e,n,ne,nf,d⟩:=I.pin p hp;exact ⟨k p.1 p.2 ne nf (fun z=>(J p.1 z).1.pin p hp rfl) e,n,ne,nf,d⟩
 .refine (I.hok a u e).stay (fun b v hb q=>?_) (fun _ z=>z) fun _ _ z=>z;rcases hb with z|z
  .rw [z] at q ⊢;exact Y a u v e q
  .exact Y b _ v z q
def FG (f:Array eQ->Array eQ) (o:Obj):(YJ f o).dict=o.dict:=by
 unfold YJ;split <;> rfl
def N7:Str:="BadLog"
structure ExcAt (X:Cx) (af:ac4) (H:Hp) (h:YG) (x C:Le) (fl:Option eQ):Prop where
 nx:Nw X af x
 hx:H x=none
 ob:∃ oe vs,h.get? x=some oe/\(oe.cls=.ref C/\oe.dict=none)/\oe.data=.fields vs/\(1 < vs.size/\(X.mg N7≠some (.ref C)->vs[2]?=some .none))/\(fl=none->vs[1]?=some .none) /\
  ∀ v,fl=some v->∃ T oT ts,vs[1]?=some (.ref T)/\Nw X af T/\H T=none/\T≠x/\h.get? T=some oT/\oT.data=.fields ts/\ts[3]?=some v
def nI {A:Xs} {E:ac5} {Q:Unit->iF->Prop} {x C:Le} {v:eQ} (I:Inv X af Z H s) (e:ExcAt X af H s.heap x C (some v)) (f:Option Le)
  (q:∀ h',Inv X af Z H { s with heap:=h' }->ExcAt X af H h' x C (some (f.elim .none fun a=>aaf a))->Q () { s with heap:=h' }):RW (Xa X.prog X.w) A (setFlight (.ref x) f) Q E s:=by
 obtain ⟨oe,vs,h1,h2,h3,h4,_,h6⟩:=e.ob;obtain ⟨T,oT,ts,a1,a2,a3,a4,a5,a6,a7⟩:=h6 v rfl;have hz:3 < ts.size:=(aaJ.mp a7).1;unfold setFlight;refine bY (X4 h1 h3 a1 ?_);have Y:(Xr T != XG)=true:=by simp
 rw [acW Y];refine aab a5 a6 hz ?_;generalize hv:(f.elim XG fun a=>aaf a)=nv at q;have hT:=Zl (YJ (·.setIfInBounds 3 nv)) a5 (YV (Yq a6 _));have J:∀ b o,b≠T->s.heap.get? b=some o->(s.heap.update T (YJ (·.setIfInBounds 3 nv))).get? b=some o:=fun b o L z=>by
  rw [Yd _ _ (YU L)];exact z
 refine q _ (I.recs (ch:=[T]) (fun b L=>?_) (fun b o _ _ L z=>J b o (fun y=>L (by simp [y])) z) (fun b o L z=>⟨o.slots,J b o (fun y=>L (by simp [y])) z⟩)) ⟨e.nx,e.hx,oe,vs,J x oe (YU a4) h1,h2,h3,h4,fun z=>(by cases z),fun v' z=>?_⟩
 .rw [OR.mp L];exact ⟨a2,a3⟩
 .cases z;exact ⟨T,_,_,a1,a2,a3,a4,hT,Yq a6 _,by simp [hz]⟩
def GW {M:Model} {A:Xs} {E:ac5} {s:iF} {b0:YG} {e1 e2:Env} {os:List Env} {L:Le} {Q:ac5} (k1:A.frames=some (e1::os)) (k2:s.heap.FunFrames b0 (e1::os)) (k3:e1.frame=some L) (k4:e2.frame=some L)
  (k5:∀ g,Heap.SlotsOnly ((e1::os).filterMap (·.frame)) s.heap g->Q (.ref L) { s with heap:=g }):RW M A (PySem.frameOf e2) Q E s:=by
 have J:((e1::os).dropWhile fun y=>y.frame != e2.frame)=e1::os:=by simp [List.dropWhile,k3,k4]
 unfold PySem.frameOf;refine bY (wpAny_frameEnvs k1 ?_);rw [J];unfold frameObject;refine bY (bY (wpAny_readyFrames_fun k2 fun g Y=>oR ?_));rw [k3];exact oR (k5 g Y)
def yL {E:ac5} {Q:Unit->iF->Prop} (hev:ev.frame=some X.env.locals) (hfr:A.frames=some (X.env::X.outer)) (hst:X.stack=X.env::X.outer) (hf:X.env.frame=some X.env.locals)
  (I:Inv X af Z H s) (e:ExcAt X af H s.heap x C fl)
  (q:∀ h',Inv X af Z H { s with heap:=h' }->ExcAt X af H h' x C (some (aaf X.env.locals))->Q () { s with heap:=h' }) :
  RW (Xa X.prog X.w) A (do let a <- frameOf ev;let pl <- entryPlaceOf X.env.locals hn;let b <- abR hd a .none (aaf X.env.locals) .none pl;setField (.ref x) 1 b) Q E s:=by
 obtain ⟨oe,vs,h1,h2,h3,h4,_,_⟩:=e.ob;have F:s.heap.FunFrames X.base (X.env::X.outer):=by rw [<- hst];exact I.stack
 have Y:∀ b,b∈(X.env::X.outer).filterMap (·.frame)->b=X.env.locals\/b∈X.fs:=fun b J=>by
  rw [ZF,hf] at J;rcases iN.mp J with z|z
  .exact .inl z
  .exact .inr z
 have hxf:x∉(X.env::X.outer).filterMap (·.frame):=fun z=>(Y x z).elim e.nx.loc e.nx.fs;refine bY (GW hfr F hf hev fun g hg=>?_);obtain ⟨g1,g2,g3⟩:=hg;refine bY (wpAny_entryPlaceOf fun pl hpl=>?_);unfold abR newFields;refine bY (Yl ?_ (hpl.sizeOk5 _ _ _ _ _));generalize hts:([hd,.ref X.env.locals,.none,aaf X.env.locals,.none]++(if pl.isEmpty then Zx 6 XG else pl))=ts;have t3:ts[3]?=some (aaf X.env.locals):=by rw [<- hts];rfl
 have x1:g.get? x=some oe:=(g2 x hxf).trans h1;generalize hto:({ cls:=.type "traceback",dict:=none,data:=.fields ts.toArray }:Obj)=tob;have dob:tob.data=.fields ts.toArray:=by rw [<- hto]
 have nfr:tob.isFreed=false:=YV dob;have x2:=dO (h:=g) tob x1;refine aab x2 h3 h4.1 ?_;have sz:g.objs.size=s.heap.objs.size:=g1;have ne:x≠g.objs.size:=Xb (MK x1);have x3:=Zl (YJ (·.setIfInBounds 1 (Xr g.objs.size))) x2 (YV (Yq h3 _));have tg:((g.push tob).update x (YJ (·.setIfInBounds 1 (Xr g.objs.size)))).get? g.objs.size=some tob:=by
  rw [Yd _ _ ne];exact ID _ nfr
 have L:∀ b o,b≠x->g.get? b=some o->((g.push tob).update x (YJ (·.setIfInBounds 1 (Xr g.objs.size)))).get? b=some o:=fun b o J z=>by
  rw [Yd _ _ (YU J)];exact dO _ z
 have I2:=I.recs (ch:=[x]) (h':=(g.push tob).update x (YJ (·.setIfInBounds 1 (Xr g.objs.size)))) (fun b J=>by rw [OR.mp J];exact ⟨e.nx,e.hx⟩)
  (fun b o J hb' hc z=>L b o (fun y=>hc (by simp [y])) ((g2 b fun y=>(Y b y).elim J hb').trans z))
  (fun b o hc z=>by
   obtain ⟨l,y⟩:=g3 b o z;exact ⟨l,L b _ (fun y=>hc (by simp [y])) y⟩)
 have nt:Nw X af g.objs.size:=Nw.new I (by rw [sz];exact mK _);exact q _ I2 ⟨e.nx,e.hx,_,_,x3,⟨(Obj.cls_mapFields _ _).trans h2.1,(FG _ _).trans h2.2⟩,Yq h3 _,⟨by simp;exact h4.1,fun z=>by simp;exact h4.2 z⟩,fun z=>(by cases z),fun v z=>by
  cases z;exact ⟨g.objs.size,tob,ts.toArray,by simp [h4.1],nt,I.hok.fresh (by rw [sz];exact mK _),YU ne,tg,dob,by simpa using t3⟩⟩
def wU {A:Xs} {E:ac5} {Q:Unit->iF->Prop} {x C:Le} {fl:Option eQ} {ev:Env} (J:ev.frame=some X.env.locals) (hfr:A.frames=some (X.env::X.outer)) (hst:X.stack=X.env::X.outer) (hf:X.env.frame=some X.env.locals)
  (I:Inv X af Z H s) (e:ExcAt X af H s.heap x C fl)
  (q:∀ h',Inv X af Z H { s with heap:=h' }->ExcAt X af H h' x C (some (aaf X.env.locals))->Q () { s with heap:=h' }):RW (Xa X.prog X.w) A (noteFrame (.ref x) ev) Q E s:=by
 obtain ⟨oe,vs,h1,h2,h3,h4,h5,h6⟩:=e.ob;cases fl with
 | none =>
  unfold noteFrame;simp only [J];refine bY (X4 h1 h3 (h5 rfl) ?_);rw [acX (by decide)];exact yL J hfr hst hf I e q
 | some v =>
  obtain ⟨T,oT,ts,a1,a2,a3,a4,a5,a6,a7⟩:=h6 _ rfl;by_cases hv:v=aaf X.env.locals
  .subst hv;exact wpAny_noteFrame_inFlight J h1 h3 a1 a5 a6 a7 (q s.heap I e)
  .unfold noteFrame;simp only [J];refine bY (X4 h1 h3 a1 ?_);have hne:(Xr T != XG)=true:=by simp
   rw [acW hne];refine bY (X4 a5 a6 a7 ?_);have hnr:¬ ((v==aaf X.env.locals)=true):=fun z=>hv (beq_iff_eq.mp z);rw [acX hnr];have hz:3 < ts.size:=(aaJ.mp a7).1;refine bY (aab a5 a6 hz ?_);have hT:=Zl (YJ (·.setIfInBounds 3 XG)) a5 (YV (Yq a6 _));have L:∀ b o,b≠T->s.heap.get? b=some o->(s.heap.update T (YJ (·.setIfInBounds 3 XG))).get? b=some o:=fun b o Y z=>by
    rw [Yd _ _ (YU Y)];exact z
   refine yL (fl:=some .none) J hfr hst hf (I.recs (ch:=[T]) (fun b Y=>?_) (fun b o _ _ Y z=>L b o (fun y=>Y (by simp [y])) z) (fun b o Y z=>⟨o.slots,L b o (fun y=>Y (by simp [y])) z⟩)) ⟨e.nx,e.hx,oe,vs,L x oe (YU a4) h1,h2,h3,h4,fun z=>(by cases z),fun v' z=>?_⟩ q
   .rw [OR.mp Y];exact ⟨a2,a3⟩
   .cases z;exact ⟨T,_,_,a1,a2,a3,a4,hT,Yq a6 _,by simp [hz]⟩
end
def XE (X:Cx) (E:XK) (e:eQ) (s':iF):Prop:=∃ Z H x C fl,e=.ref x/\Inv X [] Z H s'/\ExcAt X [] H s'.heap x C fl/\E (.ref x) (some C) H
def Fly (mg:ac6) (Y h:YG) (H:Hp) (x C:Le):Prop:=Y.get? x=none/\H x=none/\∃ J vs,h.get? x=some J/\(J.cls=.ref C/\J.dict=none)/\J.data=.fields vs/\(1 < vs.size/\(mg N7≠some (.ref C)->vs[2]?=some .none)) /\
 ∃ T L ts,vs[1]?=some (.ref T)/\Y.get? T=none/\H T=none/\T≠x/\h.get? T=some L/\L.data=.fields ts/\ts[3]?=some XG
def xF (P:Xh) (w:Xv) (mg:ac6):FR:=fun J H s E e s'=>∃ x C H',e=.ref x/\s'.os=s.os/\AllBare s'.gens/\Un (Hi J) [] H H' s.heap s'.heap/\qF P w H' s'.heap/\Fly mg s.heap s'.heap H' x C/\E (.ref x) (some C) H'
section
variable {P:Xh} {w:Xv} {K:aT} {mg:ac6} {base:YG}
def DP {E:XK} (L:X.stack=X.env::X.outer) (hf:X.env.frame=some X.env.locals) (hx:X.ex=[]) (h:XE X E e s') :
  RW (Xa X.prog X.w) X.A (leaving X.env e) (fun _ J=>xF X.prog X.w X.mg X.outer X.H₀ X.s₀ E e J) (fun e' J=>xF X.prog X.w X.mg X.outer X.H₀ X.s₀ E e' J) s':=by
 obtain ⟨Z,H',x,C,fl,rfl,I,ea,hE⟩:=h;have hfr:X.A.frames=some (X.env::X.outer):=by rw [<- L];exact I.ok.frames
 unfold leaving;refine bY (wU hf hfr L hf I ea fun h1 I1 e1=>?_);refine nI I1 e1 none fun h2 Y e2=>?_;obtain ⟨oe,vs,a1,a2,a3,a4,_,a6⟩:=e2.ob;obtain ⟨T,oT,ts,b1,b2,b3,b4⟩:=a6 _ rfl;have un:=Y.base;rw [hx] at un;exact ⟨x,C,H',rfl,Y.os,Y.bare,un,Y.hok,⟨e2.nx.base,e2.hx,oe,vs,a1,a2,a3,a4,T,oT,ts,b1,b2.base,b3,b4⟩,hE⟩
abbrev Cx.may (X:Cx) (E:XK):Cx:=X.wish (XE X E)
def Pu {k:Nat} {f:Le} {name J:Str} {Y:Arguments} {body:List Yj} {scope:Scope} {dV kV doc pm cdv ct oc:eQ} {an od:Option Le}
  {osl:Array (Option eQ)} {N ps:ac3} {sp:Sp} (lk:K.lookup f=some ⟨oc,od,.func (Yy name J Y body scope dV kV doc pm an cdv ct),osl⟩) (hcd:Z7 K cdv J=true) (S:FnScope N ps scope)
  (len:∀ vs H Q E,sp vs H Q E->vs.length=ps.length)
  (hbody:∀ (A:Xs) (L:List Env) (s:iF) (H:Hp) (vs:ac9) (Q:VK) (E:XK),Room k (A.deeper (abd J scope s.heap.objs.size f cdv))->sp vs H Q E ->
   ∃ t,D4 ((vR (xF P w mg) P w K mg base N J scope f cdv A L s H E).may E) body t/\t { nx:=fun _ H'=>Q .non H',rt:=Q } (start N vs) H) :
  FnOk P w K mg base (xF P w mg) (k+1) f (Yy name J Y body scope dV kV doc pm an cdv ct) ps sp:=by
 refine Of lk hcd S len fun A L s H vs Q E hr hsp=>?_;obtain ⟨t,h1,h2⟩:=hbody A L s H vs Q E hr hsp;exact ⟨t,fun af s1 Z H1 D I hw=>XC (h1 af s1 Z H1 D (I.wish _) hw) (fun _ _ q=>q.unwish) fun e s2 z=>DP (X:=vR (xF P w mg) P w K mg base N J scope f cdv A L s H E) rfl rfl rfl z,h2⟩
end
section
variable {X:Cx} {af:ac4} {Z:St} {H:Hp} {s s':iF} {E:XK} {e:eQ}
def Kc (I:Inv X af Z H s) (Y:t9 X) (h:xF X.prog X.w X.mg X.stack H s E e s') (ht:X.tn<=s'.toks):XE X E e s':=by
 obtain ⟨x,C,H',rfl,os,J,un,L,⟨f1,f2,oe,vs,a1,a2,a3,a4,T,oT,ts,b1,b2,b3,b4⟩,hE⟩:=h;have I1:Inv X af Z H' s':=I.call' os un L J (ch:=[]) (fun b z=>nomatch z) ht
 exact ⟨Z,H',x,C,some .none,rfl,I1.less,⟨(Nw.gone I Y f1).less,f2,oe,vs,a1,a2,a3,a4,fun z=>(by cases z),fun v z=>(by cases z;exact ⟨T,oT,ts,b1,(Nw.gone I Y b2).less,b3,b4⟩)⟩,hE⟩
def Ek {sp:Sp} {Q:VK} (F:FnOk X.prog X.w X.K X.mg X.base (xF X.prog X.w X.mg) k f fd ps sp) (hr:Room k X.A) (hb:kg X.K fd ps [])
  {E':ac5} (hE:∀ e s',X.tn<=s'.toks->xF X.prog X.w X.mg X.stack H s E e s'->E' e s') (I:Inv X af Z H s) (r:br vs us) (h:sp vs H Q E):RW (Xa X.prog X.w) X.A (call (.ref f) us) (EP X af Z Q) E' s:=by
 have hl:(us++[]).length=ps.length:=by rw [XY,<- r.length];exact F.len _ _ _ _ h
 have J:=hb s us I.kIn hl;rw [XY] at J;refine wpAny_call (fM I.tk (YW (F.run X.A X.stack s H ⟨us,[]⟩ us vs Q E hr I.env0 J r h) fun r s' L Y=>?_));cases r with
 | error e=>exact hE e s' Y L
 | ok fl =>
  cases fl with
  | ret u=>exact I.after L
  | next=>exact L.elim
  | brk=>exact L.elim
  | cont=>exact L.elim
end
section
variable {X:Cx} {x:Str} {st:Yj} {ps:ac3} {f:Le} {fd:Xz} {j k:Nat} {sp:Sp} {p pos:Pos} {e:Yb} {es:List Yb} {t:TA} {E:XK}
def Ph (E:XK) (sp:Sp) (t:TA):TE:=fun Z H Q=>t Z H fun vs H1=>sp vs H1 Q E
def pcX (D:Def X.K X.mg x st ps f fd) (G:FnOk X.prog X.w X.K X.mg X.base (xF X.prog X.w X.mg) j f fd ps sp) (hr:Room k X.A) (ha:PA (X.may E) (e::es) t) (hx:t9 X) (hj:j<=k) (hg:Gl X x) (L:adb x)
  (h1:aX e=true) (h2:es.all aX=true):PE (X.may E) (.Call (.Name x p) (e::es) [] pos) (Ph E sp t):=by
 intro af s Z H Q I h;refine XR (iK I hg D.m ?_ L);refine ZP (h₀:=X.base) I.ok.mod.kin D.F.kp (dg (ha pos af s Z H _ I h) fun us s1 hh=>n6 hh fun vs H1 I1 r q=>⟨I1.kIn,?_⟩) (b8 h1) (df h2);have I2:=I1.unwish;exact dg (Ek (E:=E) (E':=XE X E) G (hr.mono hj) D.b (fun e s' ht Y=>Kc I2 hx Y ht) I2 r q) fun u s2 ⟨v,H',J,rv,Y⟩=>⟨v,H',J.wish _,rv,Y⟩
end
section
variable {X:Cx} {E:XK}
def Lp {K:aT} {h:YG} {C:Le} {bmB:ac8} {J:String} (KX:K.In h) (q:Za K C bmB J=true) :
  ∃ bm N nm qn bs hdct sn sub ab col dd k0 k1 k2 k3 k5 mN,h.get? C=some (excClassObj nm qn C N bs bm hdct sn sub ab col dd k0 k1 k2 k3 k5 J)/\h.Ns N mN/\mN "__init__"=none/\OwnTail h bmB bm:=by
 unfold Za at q;split at q
 .rename_i dd cd sl ho;split at q
  .rename_i C' bm k0 k1 k2 k3 n k5 hm hs;simp only [Xe,beq_iff_eq,acj] at q;obtain ⟨⟨⟨⟨⟨e1,e2⟩,L⟩,ht⟩,Y⟩,hni⟩:=q;subst e1 e2;cases cd;dsimp only at hm L Y hni;subst hm L;have hsl:sl=⟨[k0,k1,k2,k3,some (.builtin n),k5]⟩:=by rw [<- hs]
   subst hsl;exact ⟨bm,_,_,_,_,_,_,_,_,_,dd,k0,k1,k2,k3,k5,_,KX _ _ ho,.of_isNs (PySem.W.isNs_of_in KX Y),PySem.W.nsMap_none_of_in KX Y hni,PySem.W.tail_of_in KX ht⟩
  .cases q
 .cases q
abbrev Gb:ac8:=[.type "ValueError",.type "Exception",.type "BaseException",.type "object"]
def tRz (C:Le) (E:XK) (t:TA):TS:=fun _ Z H=>t Z H fun vs H1=>vs.length<=10/\∀ x,E (.ref x) (some C) H1
def GH {cn:Str} {C:Le} {np cpos pos:Pos} {a:Yb} {as:List Yb} {t:TA} (hm:X.mg cn=some (.ref C)) (hq:Za X.K C Gb "ValueError.__new__"=true) (hc:X.calm=true) (hx:t9 X) (ha:PA (X.may E) (a::as) t)
  (hg:Gl X cn) (hdb:(cn==("__debug__":Str))=false) (h1:(a::as).all aX=true):PS (X.may E) (.Raise (some (.Call (.Name cn np) (a::as) [] cpos)) none pos) (tRz C E t):=by
 intro af s Z H D I h;have n1:aX a=true:=by simp only [Yn,Xe] at h1;exact h1.1
 have n2:as.all aX=true:=by simp only [Yn,Xe] at h1;exact h1.2
 obtain ⟨bm,N,nm,qn,bs,hdct,sn,sub,ab,col,dd,k0,k1,k2,k3,k5,mN,hC,hN,hni,TL⟩:=Lp I.ok.mod.kin hq;have kp:∀ {s2:iF} {σ2:St} {H2:Hp},Inv (X.may E) af σ2 H2 s2->∀ b o,X.base.get? b=some o->s2.heap.get? b=some o:=fun J b o e=>(J.bs b o e).1;refine wpAny_Raise_call_subU (C:=C) (nm:=nm) (q:=qn) (N:=N) (bs:=bs) (bm:=bm) (hdct:=hdct) (sn:=sn) (sub:=sub) (ab:=ab) (col:=col) (dd:=dd) (k0:=k0) (k1:=k1) (k2:=k2) (k3:=k3) (k5:=k5) (mN:=mN)
  Zs (by trivial) Zs (TL.hasType Zs.hasBase) (I.ok.hd hc) (df h1) hni (iK I hg hm ⟨rfl,?_⟩ hdb)
 have hs:=ha cpos af s Z H _ I h;rw [b8 n1] at hs ⊢;refine aao (XC hs (fun us s2 ⟨vs,H2,I2,r2,hl,hE⟩=>?_) fun _ _ z=>z);refine ⟨rfl,?_,kp I2 _ _ hC,hN.keeps (kp I2),TL.keeps (kp I2),fun h' x mk=>?_⟩
 .show us.length<=Xd;rw [<- r2.length,XJ];exact IF hl (by decide)
 .have J:=I2.unwish;have J3:Inv X af Z H2 { s2 with heap:=h' }:=J.kept (t':=s2.toks) fun b o e=>mk.keeps b o e;obtain ⟨tp,ob,_,_⟩:=mk.there;have Y:H2 x=none:=by
   cases q:H2 x with
   | none=>rfl
   | some u =>
    have L:=J.hok x u q;obtain ⟨o,eo⟩:∃ o,s2.heap.get? x=some o:=by
     cases u <;> first
      | (obtain ⟨_,_,_,_,e⟩:=L;exact ⟨_,e⟩)
      | (obtain ⟨_,_,_,o,e,_⟩:=L;exact ⟨o,e⟩)
      | (obtain ⟨_,_,_,_,o,_,_,e,_⟩:=L;exact ⟨o,e⟩)
      | (obtain ⟨o,_,_,_,e,_⟩:=L;exact ⟨o,e⟩)
      | (obtain ⟨_,_,_,e,_⟩:=L;exact ⟨_,e⟩)
      | (obtain ⟨o,e⟩:=L;exact ⟨o,e⟩)
      | (obtain ⟨_,⟨o,_,_,e,_⟩,_⟩:=L;exact ⟨o,e⟩)
      | (obtain ⟨_,_,_,e⟩:=L;exact ⟨_,e⟩)
      | (obtain ⟨e,_⟩:=L;exact ⟨_,e⟩)
      | exact ⟨_,L⟩
      | (obtain ⟨_,⟨o,e⟩,_⟩:=L;exact ⟨o,e⟩)
    rw [mk.new] at eo;cases eo
  exact ⟨Z,H2,x,C,none,rfl,J3.less,⟨(Nw.gone J hx mk.new).less,Y,_,_,ob,⟨rfl,rfl⟩,rfl,⟨by simp,fun _=>rfl⟩,fun _=>rfl,fun v z=>(by cases z)⟩,hE x⟩
end
def B6 (K:aT) (mg:ac6) (F:ada->R D):Sp:=fun vs H Q E=>∃ as ds,(∀ a∈as,H a≠none)/\aJ K (aH as H) ds vs/\cO ⟨K,mg,E⟩ as H (F ds) Q
section
variable {P:Xh} {w:Xv} {K:aT} {mg:ac6} {base:YG}
def MC {φ:FS}:∀ vs H Q E,B6 K mg (bG φ N ps) vs H Q E->vs.length=ps.length:=fun vs H Q E h=>by
 obtain ⟨as,ds,ex,J,h⟩:=h;unfold bG at h;split at h
 .rename_i hl;rw [<- J.len];exact hl
 .exact h.elim
def MZ {φ:FS} {H:Hp} {Q:VK} {E:XK} (h:B6 K mg (bG φ N ps) vs H Q E):sD ⟨K,mg,E⟩ [] [] O' φ { nx:=fun _ H'=>Q .non H',rt:=Q } (start N vs) H:=by
 obtain ⟨as,ds,ex,L,h⟩:=h;unfold bG at h;split at h
 .rename_i hl;refine ⟨as,H,[],nV N ds,⟨?_,rfl,Ye,Ye,fun a Y=>(nomatch Y),ex,az.refl _,fun i d _ e=>?_,fun i a h=>(by simp at h)⟩,?_⟩
  .unfold nV start;simp [L.len]
  .unfold nV at e;unfold start;rw [<- L.len];exact wd L e
  .cases hr:φ (nV N ds) with
   | ok fl =>
    rw [hr] at h;cases fl with
    | rt d=>exact fun v H' s J=>h v H' s J
    | rn d=>exact fun p o H' s hp e od=>h (.ref p) H' s (od.den (fun z=>ex p z hp) e)
    | nx U=>exact fun own Z H' I=>h .non H' I.same rfl
    | bk U=>exact h.elim
    | ct U=>exact h.elim
   | er x=>rw [hr] at h;exact fun e C H' s=>h e C H' s
   | no=>rw [hr] at h;exact h.elim
 .exact h.elim
def Fun.okX {x L:Str} {st:Yj} {f:Le} {fd:Xz} {N ps:ac3} {k:Nat} {φ:FS} {O':ac2} (F:Fun K x L st f fd) (S:FnScope N ps (au st))
  (hbody:∀ (Y:eQ) (A:Xs) (J:List Env) (s:iF) (H:Hp) (E:XK),Room k (A.deeper (abd L (au st) s.heap.objs.size f Y)) ->
   JB ((vR (xF P w mg) P w K mg base N L (au st) f Y A J s H E).may E) (e9 st) (sD ⟨K,mg,E⟩ [] [] O' φ)):FnOk P w K mg base (xF P w mg) (k+1) f fd ps (B6 K mg (bG φ N ps)):=by
 obtain ⟨oc,od,kV,doc,pm,an,Y,ct,osl,rfl,lk,hcd⟩:=F.ex;exact Pu lk hcd S MC fun A J s H vs Q E hr hsp=>⟨_,(hbody Y A J s H E hr).out,MZ hsp⟩
def cR (F:ada->R D):ada->R D:=fun ds=>(F ds).calm
def FnOk.mayX {F:ada->R D} (G:FnOk P w K mg base cQ k f fd ps (dQ K mg F)):FnOk P w K mg base (xF P w mg) k f fd ps (B6 K mg (cR F)):=by
 have im:∀ vs H Q E,B6 K mg (cR F) vs H Q E->dQ K mg F vs H Q E:=fun vs H Q E ⟨as,ds,ex,dv,h⟩=>by
  refine ⟨as,ds,ex,dv,?_⟩;unfold cR at h;cases L:F ds with
  | ok d=>rw [L] at h;exact h
  | er x=>rw [L] at h;exact h.elim
  | no=>rw [L] at h;exact h.elim
 refine ⟨fun vs H Q E h=>G.len vs H Q E (im _ _ _ _ h),fun A J s H Y us vs Q E L he hb hv hs=>YW (G.run A J s H Y us vs Q E L he hb hv (im _ _ _ _ hs)) fun r s' hq=>?_⟩;cases r with
 | error e=>exact hq.elim
 | ok fl=>cases fl <;> exact hq
end
section
variable {X:Cx} {K:aT} {mg:ac6} {E:XK} {O:ac2} {x:Str} {st:Yj} {ps:ac3} {f:Le} {fd:Xz} {j k:Nat} {F:ada->R D} {p pos:Pos} {e:Yb} {es:List Yb} {α:FA}
def bJ (D:Def X.K X.mg x st ps f fd) (G:FnOk X.prog X.w X.K X.mg X.base (xF X.prog X.w X.mg) j f fd ps (B6 K mg F)) (L:Room k X.A) (ha:JA (X.may E) (e::es) (xG ⟨K,mg,E⟩ O α)) (hj:j<=k:=by decide) (hx:t9 X:=by first|assumption|exact t9.nil rfl) (Y:Gl X x:=by rfl) (J:adb x:=by decide)
  (h1:aX e=true:=by rfl) (h2:es.all aX=true:=by rfl):JE (X.may E) (.Call (.Name x p) (e::es) [] pos) (tD ⟨K,mg,E⟩ O (ao F α)) :=
 (JE.mk (pcX D G L ha.out hx hj Y J h1 h2)).imp fun Z H Q hh=>fH hh fun as0 B own U I h=>⟨as0,B,own,U,I,eI h fun ds vs H1 s1 d1 h1=>⟨own++as0,ds,(I.mono s1).exi,d1,h1⟩⟩
variable {Ob O':ac2} {cn:Str} {C:Le} {np cpos:Pos}
def Ta (cn:Str) (α:FA):FS:=fun U=>(α U).bind fun ds=>if ds.length<=10 then .er cn else .no
def uH (L:X.mg cn=some (.ref C)) (hq:Za X.K C Gb "ValueError.__new__"=true) (ha:JA (X.may E) (e::es) (xG ⟨K,X.mg,E⟩ O α)) (Y:X.calm=true:=by rfl) (hx:t9 X:=by first|assumption|exact t9.nil rfl) (hg:Gl X cn:=by rfl) (J:(cn==("__debug__":Str))=false:=by decide)
  (h1:(e::es).all aX=true:=by rfl):JS (X.may E) (.Raise (some (.Call (.Name cn np) (e::es) [] cpos)) none pos) (sD ⟨K,X.mg,E⟩ Ob O O' (Ta cn α)) :=
 (JS.mk (GH L hq Y hx ha.out hg J h1)).imp fun D' Z H hh=>fH hh fun as0 B own U I h=>⟨as0,B,own,U,I,by
  unfold Ta at h;cases hr:α U with
  | ok ds =>
   rw [hr,aD] at h;intro vs H' s dv;split at h
   .rename_i hl;exact ⟨by rw [<- dv.len];exact hl,fun x=>h _ C H' (I.same.trans s) L⟩
   .exact h.elim
  | er y=>rw [hr] at h;exact fun e C' H' s hy=>h e C' H' (I.same.trans s) hy
  | no=>rw [hr] at h;exact h.elim⟩
end
section
variable {X:Cx} {x:Str} {st:Yj} {ps:ac3} {f:Le} {fd:Xz} {j k:Nat} {sp:Sp} {p pos:Pos} {e:Yb} {es:List Yb} {t:TA} {E:XK}
def Me {H:Hp} {Q:VK} {E':ac5} (D:Def X.K X.mg x st ps f fd) (G:FnOk X.prog X.w X.K X.mg X.base (xF X.prog X.w X.mg) j f fd ps sp) (hr:Room k X.A) (ha:PA (X.wish E') (e::es) t) (hx:t9 X) (hj:j<=k) (hg:Gl X x) (hdb:adb x)
  (h1:aX e=true) (h2:es.all aX=true) (I:Inv X af Z H s) (h:t Z H fun vs H1=>sp vs H1 Q E)
  (hE:∀ y C H' s',Inv X af Z H' s'->ExcAt X af H' s'.heap y C (some .none)->E (.ref y) (some C) H'->E' (.ref y) s') :
  RW (Xa X.prog X.w) X.A (eval (.Call (.Name x p) (e::es) [] pos) X.env) (EP X af Z Q) E' s:=by
 have I0:Inv (X.wish E') af Z H s:=I.wish E';refine XR (iK I hg D.m ?_ hdb);refine ZP (h₀:=X.base) I.ok.mod.kin D.F.kp (dg (ha pos af s Z H _ I0 h) fun us s1 hh=>n6 hh fun vs H1 I1 r q=>⟨I1.kIn,?_⟩) (b8 h1) (df h2);have L:=I1.unwish;refine Ek (E:=E) G (hr.mono hj) D.b (fun e s' ht hq=>?_) L r q;obtain ⟨y,C,H',rfl,os,J,un,hok,⟨f1,f2,oe,Y,a1,a2,a3,a4,T,oT,ts,b1,b2,b3,b4⟩,hE0⟩:=hq;have I3:Inv X af Z H' s':=L.call' os un hok J (ch:=[]) (fun b z=>nomatch z) ht
 exact hE y C H' s' I3 ⟨Nw.gone L hx f1,f2,oe,Y,a1,a2,a3,a4,fun z=>(by cases z),fun v z=>(by cases z;exact ⟨T,oT,ts,b1,Nw.gone L hx b2,b3,b4⟩)⟩ hE0
end
abbrev Cx.hand (X:Cx) (e:eQ):Cx:={ X with A:=X.A.mark (some e),calm:=false }
section
variable {X:Cx} {af:ac4} {Z:St} {H:Hp} {s:iF} {e:eQ}
def Inv.hand (I:Inv X af Z H s) (e:eQ):Inv (X.hand e) af Z H s :=
 ⟨⟨I.ok.mod,I.ok.kind,I.ok.glob,I.ok.blt,I.ok.above,I.ok.inj,I.ok.has,I.ok.cab,(fun z=>nomatch z),I.ok.frames,I.ok.stk,I.ok.exf,I.ok.bs,I.ok.bsz,I.ok.noex,I.ok.exfs,I.ok.funs,I.ok.frf⟩,I.os,I.bare,I.base,I.loc,I.cell,I.free,I.freeC,I.pin,I.hok,I.len,I.tk⟩
def Inv.unhand (ok:X.Ok) (I:Inv (X.hand e) af Z H s):Inv X af Z H s:=⟨ok,I.os,I.bare,I.base,I.loc,I.cell,I.free,I.freeC,I.pin,I.hok,I.len,I.tk⟩
def SP.unhand (ok:X.Ok) {D:Ends} {f:Flow} {s':iF} (h:SP (X.hand e) af D f s'):SP X af D f s':=by
 cases f with
 | next=>obtain ⟨J,H',I,q⟩:=h;exact ⟨J,H',I.unhand ok,q⟩
 | brk=>obtain ⟨J,H',I,q⟩:=h;exact ⟨J,H',I.unhand ok,q⟩
 | cont=>obtain ⟨J,H',I,q⟩:=h;exact ⟨J,H',I.unhand ok,q⟩
 | ret u=>obtain ⟨v,J,H',I,r,q⟩:=h;exact ⟨v,J,H',I.unhand ok,r,q⟩
end
section
variable {X:Cx} {af:ac4} {Z:St} {H:Hp} {s:iF}
def Inv.track (I:Inv X af Z H s) (n:Nw X af y) (hy:H y=none) (new:bT X.prog X.w (upd H y o) s.heap y o):Inv X af Z (upd H y o) s:=by
 have J:az H (upd H y o):=aU hy o;refine ⟨I.ok,I.os,I.bare,⟨I.base.keep,I.base.slot,fun b L e n0 hx=>?_,I.base.there,fun b xs e=>J _ _ (I.base.tups b xs e),fun b L u e=>J _ _ (I.base.frzs b L u e),fun b ps e=>?_⟩,I.loc,I.cell,?_,fun x c e=>?_,fun p Y=>?_,fun a u e=>?_,I.len,I.tk⟩
 .have:b≠y:=fun z=>by rw [z,n.base] at e;cases e
  rw [aM this];exact I.base.free b L e n0 hx
 .obtain ⟨more,q⟩:=I.base.tbls b ps e;exact ⟨more,J _ _ q⟩
 .rw [aM (YU n.loc)];exact I.free
 .rw [aM (n.cell x c e)];exact I.freeC x c e
 .obtain ⟨h1,h2,h3⟩:=I.pin p Y;exact ⟨h1,by rw [aM (n.pin p Y)];exact h2,h3⟩
 .by_cases ha:a=y
  .subst ha;have e':u=o:=by unfold upd at e;rw [acW rfl] at e;exact (Xp e).symm
   rw [e'];exact new
  .rw [aM ha] at e;exact (I.hok a u e).stay (fun _ _ _ q=>q) (fun b q=>J _ _ q) fun b xs q=>J _ _ q
def Inv.locGone {m':ac6} (I:Inv X af Z H s) (hn':h'.Ns X.env.locals m') (Y:X6 X.env.locals s.heap h'):Inv X af (Z.map fun _=>none) H { s with heap:=h',toks:=s.toks+1 }:=by
 obtain ⟨m,hn,hl⟩:=id I.loc;have cne:=I.cne;obtain ⟨oL,_,_,hoL,_⟩:=id hn;have J:qF X.prog X.w H h':=fun b ob e=>by
  refine (I.hok b ob e).stay (fun c w' L q=>(Y.2 c ?_).trans q) (fun _ q=>q) fun _ _ q=>q;rintro rfl;rcases L with L|L
  .rw [<- L,I.free] at e;cases e
  .rw [I.free] at L;cases L
 refine ⟨I.ok,I.os,I.bare,⟨fun b o e n hb hx=>?_,fun b o e n hb hx=>?_,I.base.free,fun b o e hx=>?_,I.base.tups,I.base.frzs,I.base.tbls⟩,⟨_,hn',fun j y v' e1 e2 e3=>?_⟩,fun y c e=>?_,I.free,I.freeC,fun p hp=>?_,J,by simpa using I.len,by walk_at "tok"⟩
 .exact (Y.2 b (Xb (W5 (MK e) I.ok.above))).trans (I.base.keep b o e n hb hx)
 .obtain ⟨sl,e1⟩:=I.base.slot b o e n hb hx;exact ⟨sl,(Y.2 b (Xb (W5 (MK e) I.ok.above))).trans e1⟩
 .obtain ⟨o',e1⟩:=I.base.there b o e hx;exact ⟨o',(Y.2 b (Xb (W5 (MK e) I.ok.above))).trans e1⟩
 .rw [Xw] at e2;cases q:Z[j]? <;> rw [q] at e2 <;> cases e2
 .obtain ⟨w',z⟩:=I.cell y c e;exact ⟨w',z.sameBut Y (cne y c e)⟩
 .obtain ⟨e,n,ne,nf,d⟩:=I.pin p hp;exact ⟨(Y.2 p.1 ne).trans e,n,ne,nf,d⟩
def ExcAt.inst (e:ExcAt X af H h y C fl):∃ ox,abH h y ox C none:=by
 obtain ⟨L,vs,h1,⟨h2,J⟩,Y,_⟩:=e.ob;exact ⟨L,h1,h2,by unfold acO;rw [Y],by rw [J];trivial⟩
def ExcAt.obj (e:ExcAt X af H s.heap y C fl):bT X.prog X.w (upd H y (F8 y C)) s.heap y (F8 y C):=by
 obtain ⟨L,vs,h1,⟨h2,J⟩,Y,_⟩:=e.ob;exact ⟨⟨L,vs,h1,h2,J,Y⟩,⟨_,h1⟩,fun a b ⟨o,us,q1,q⟩ k=>⟨o,us,k _ q1,q⟩⟩
end
section
variable {X:Cx} {af:ac4} {Z:St} {H:Hp} {s:iF} {Q:Flow->iF->Prop} {y C CT:Le} {T:Str} {tp hpos:Pos} {b₀:Yj} {bs:List Yj}
def Mf {E:ac5} {fl:Option eQ} {n:Str} {i:Nat} (hst:X.stack=X.env::X.outer) (hf:X.env.frame=some X.env.locals) (hm:X.mg T=some (.ref CT)) (hq:Z9 X.K (.ref C) (.ref CT)=some true) (hg:Gl X T) (hdb:(T==("__debug__":Str))=false)
  (hN:X.N.Nodup) (hi:X.N[i]?=some n) (hl:X.env.scope.names.lookup n=some .local) {D:Ends}
  (I:Inv X af Z H s) (e:ExcAt X af H s.heap y C fl)
  (J:∀ s',Inv X af (Z.set i (some (.ref y))) (upd H y (F8 y C)) s'->RW (Xa X.prog X.w) (X.A.mark (some (.ref y))) (execs (b₀::bs) X.env) (fun f s2=>∃ u v σ' H',f=.ret u/\Inv X af σ' H' s2/\ba v u/\D.rt v H') (fun _ _=>False) s') :
  RW (Xa X.prog X.w) X.A (noteFrame (.ref y) X.env) (fun _ L=>RW (Xa X.prog X.w) X.A (setFlight (.ref y) none) (fun _ Y=>RW (Xa X.prog X.w) X.A (handleBy (.ref y) X.env [.ExceptHandler (some (.Name T tp)) (some n) (b₀::bs) hpos]) (SP X af D) E Y) E L) E s:=by
 have hfr:X.A.frames=some (X.env::X.outer):=by rw [<- hst];exact I.ok.frames
 refine wU hf hfr hst hf I e fun h1 I1 e1=>?_;refine nI I1 e1 none fun h2 I2 e2=>?_;have I2h:=I2.hand (.ref y);refine wpAny_handleBy_cons (codeAny_handlers_test (iK I2h hg hm ?_ hdb)) (by intro q;cases q);obtain ⟨ox,IA⟩:=e2.inst;refine (PySem.W.exm_one (M:=Xa X.prog X.w) I2.kIn IA.type hq).at ?_;show Z3 _ _ _ _ _;refine codeAny_handlers_suite_as ?_;refine nI (A:=X.A.mark (some (.ref y))) I2 e2 none fun h3 I3 e3=>?_;have I4:=I3.track e3.nx e3.hx e3.obj;refine tm (v:=.ref y) I4 hN hi (.inl hl) rfl (fun s5 I5=>?_) (.inr hl);refine XC (J s5 I5) (fun f s6 ⟨u,v,σ',H',hu,I6,rv,hD⟩=>?_) fun _ _ z=>z.elim;subst hu;obtain ⟨m,hn,_⟩:=id I6.loc;have hcls:(X.env.scope.kind==.class||(X.env.scope.kind==.module&&X.env.locals != X.env.globals))=false:=by rw [I.ok.kind];rfl
 refine wpAny_nameGoes hl hn hcls fun h' m' hn' hs=>?_;exact ⟨v,_,H',I6.locGone hn' hs,rv,hD⟩
end
def rtOnly:R Fl->R Fl
 | .ok (.rt d)=>.ok (.rt d)
 | _=>.no
section
variable {as0 own:ac7} {B H:Hp} {Ob O O':ac2} {Z:St} {U:Sd} {D':Ends}
def bI.rtOnly (J:W.K=W'.K) (h:bI W as0 B Ob O' (rtOnly r) D'):bI W' as0 B Ob O' r { nx:=fun _ _=>False,bk:=fun _ _=>False,ct:=fun _ _=>False,rt:=D'.rt }:=by
 cases r with
 | ok fl =>
  cases fl with
  | rt d=>unfold L2.rtOnly at h;unfold bI at h ⊢;rw [<- J];exact h
  | _=>exact h.elim
 | er x=>exact h.elim
 | no=>exact h.elim
end
section
variable {X:Cx} {K:aT} {mg:ac6} {E1:XK} {Ob O O':ac2} {fn:Str} {st:Yj} {ps:ac3} {f:Le} {fd:Xz} {j k i n:Nat} {F:ada->R D} {p pos apos xp tp hpos tpos:Pos} {e:Yb} {es:List Yb} {α:FA} {x T nm:Str} {CT:Le} {mt:Str->Bool}
 {b₀:Yj} {bs:List Yj} {ψ:FS}
def Pw (K:aT) (mg:ac6) (mt:Str->Bool) (CT:Le):Prop:=∀ x C,mt x=true->mg x=some (.ref C)->Xg K W9 x=some (some (.ref C))/\Z9 K (.ref C) (.ref CT)=some true
end
end L2
namespace L2
open PySem PySem.Spec PySem.W PyProof.Rows
structure ExcC (K:Frag) (C:Le):Prop where
 ga:findIn K (.ref C) "__getattribute__"=some (some (.builtin "BaseException.__getattribute__"))
 gh:findIn K (.ref C) "__getattr__"=some none
 cl:findIn K (.ref C) "__class__"=some (some (.builtin "object.__class__"))
 sp:specialIn K (.builtin "object.__class__") "__get__"=some (some (.builtin "getset_descriptor.__get__"))
 tk:takesIn K (.builtin "object.__class__")=some true
 ob:mroIn K C (.type "object")=some true
 be:mroIn K C (.type "BaseException")=some true
section
variable {prog:Xh} {w:Xv} {A:Xs} {E:ac5} {s:iF} {K:Frag} {x C:Le} {ox:Obj}
def ExcC.cls (c:ExcC K C):∃ cd,clsIn K C=some cd:=by
 obtain ⟨cd,h,_⟩:=Ys.mp c.ob;exact ⟨cd,h⟩
def ExcC.found (c:ExcC K C):findObj K C none "__class__"=some (.bind (.builtin "getset_descriptor.__get__") (.builtin "object.__class__")):=by
 obtain ⟨L,J⟩:=c.cls;unfold findObj;rw [J,acy,c.cl,acy];simp [c.sp,c.tk]
def J2 {Q:Fin->iF->Prop} (c:ExcC K C) (X:K.In s.heap) (I:InstAt s.heap x ox C none) (h:Q (.done (.ret (.ref C))) s) :
  RW (Xa prog w) A (Builtin.«object.__getattribute__» ⟨[.ref x,.str "__class__" tk],[]⟩) Q E s:=by
 obtain ⟨Y,L,d,t,os⟩:=s;have J:=I.type (M:=Xa prog w);have L1:=looks_find (M:=Xa prog w) X I c.found;unfold Builtin.«object.__getattribute__»;refine bY (oR (bY (oR (bY (J.at (bY (L1.at ?_)))))));show RW _ _ (holding [ab6 "object.__class__"] (call (.builtin "getset_descriptor.__get__") [.builtin "object.__class__",.ref x,.ref C]) >>= ret) _ _ _;refine bY (Yc (wpAny_call (class_get (ox:=ox) (od:=none) X I c.ob ?_)));exact oR h
def Ie {R:Result->iF->Prop} (c:ExcC K C) (X:K.In s.heap) (I:InstAt s.heap x ox C none) (h:R (.ok (.ret (.ref C))) s) :
  Z3 (Xa prog w) A (.call (.builtin "BaseException.__getattribute__") ⟨[.ref x,.str "__class__" tk],[]⟩) R s:=by
 have L0:=I.type (M:=Xa prog w);have L1:=looks_mroIn (M:=Xa prog w) X c.be;refine codeAny_call_builtin F.attr_ValueError.ga.plain F.entry_bexc_ga ?_;have hk:builtinKind "BaseException.__getattribute__"=some .slot:=by trivial
 have J:splitId "BaseException.__getattribute__"=some ("BaseException","__getattribute__"):=by trivial
 have L:=F.args_bexc_ga (.ref x) (.str "__class__" tk);simp only [checkBuiltinCall,hk,J];refine bY ?_;unfold isInstance;refine bY (L0.at (L1.at ?_));simp only [Bool.not_true,Yo,if_false];unfold argsOk at L;generalize Manifest.signature? "BaseException.__getattribute__"=sg at L ⊢;cases sg with
 | none=>exact oR (J2 c X I h)
 | some Y =>
  dsimp only at L ⊢;rw [L];exact oR (J2 c X I h)
def G6 {Q:Option eQ->iF->Prop} (c:ExcC K C) (X:K.In s.heap) (I:InstAt s.heap x ox C none) (h:Q (some (.ref C)) { s with toks:=s.toks+1 }) :
  RW (Xa prog w) A (getAttr? (.ref x) "__class__") Q E s:=by
 obtain ⟨hh,g,d,t,os⟩:=s;have Y:=I.type (M:=Xa prog w);have L1:=looks_findIn (M:=Xa prog w) X c.ga;have L2:=looks_findIn (M:=Xa prog w) X c.gh;unfold getAttr? getAttrBy? getAttrBy;refine bY (wpAny_mkText (bY (Zc (Yc (bY (Y.at (bY (L1.at ?_))))))));have J:(ab6 "BaseException.__getattribute__"==ab6 "object.__getattribute__")=false:=by trivial
 simp only [J,abJ,Yo,if_false];unfold getAttrByItsOwn hookBefore;have L:onTheHeap (.ref C)=true:=rfl;simp only [L,if_true];refine bY (L2.at (bY (Zc (Yc ?_))));unfold callGetattribute;simp only [Bool.false_and,Yo,if_false];unfold boundAndCalled;rw [F.attr_ValueError.ga.bind];refine bY (oR (wpAny_call (Ie c X I ?_)));exact handed_on rfl (oR h)
def Pp (c:ExcC K C) (X:K.In h):Looks M h (isType (.ref C)) true:=by
 obtain ⟨cd,J⟩:=c.cls;unfold clsIn at J;split at J
 .rename_i c' d' cd' sl' ho;intro L Y E' s' k q;unfold isType loadHead;exact bY (wpAny_loadPart (k _ _ (X _ _ ho)) (oR q))
 .cases J
def En (c:ExcC K C):KitX K (.ref x) (.ref C) (fun h=>∃ o,InstAt h x o C none) where
 ty:=fun M h _ ⟨o,I⟩=>I.type
 it:=fun M h X _=>Pp c X
 ne:=fun h tp dd its n L X e=>by
  refine Bool.eq_false_iff.mpr fun q=>?_
  have:C=tp:=by have:=beq_iff_eq.mp q;cases this;rfl
  subst this;obtain ⟨Y,J⟩:=c.cls;unfold clsIn at J;split at J
  .rename_i c' d' cd' sl' ho;rw [X _ _ ho] at e;cases e
  .cases J
 ca:=fun X ⟨o,I⟩ h=>G6 c X I h
end
end L2
namespace L2
open PySem PySem.Spec PyProof.Rows
abbrev z7:=List (Str×Str×Bool)
def Uh (l:z7) (x c:Str):Option Bool:=(l.find? fun p=>decide (p.1=x)&&decide (p.2.1=c)).map (·.2.2)
def IV (l:z7) (x:Str):ada->Option Bool
 | []=>some false
 | .cls c::r=>match Uh l x c with
  | some true=>some true
  | some false=>IV l x r
  | none=>none
 | _::_=>none
def R8:Option Bool->R D
 | some b=>.ok (.bl b)
 | none=>.no
def Jc (l:z7) (J:ac3) (ds:ada):R D:=match ds with
 | [.exn x,.cls c]=>R8 (Uh l x c)
 | [.exn x,.ty C]=>if C="ValueError"/\x∈J then .ok (.bl true) else .no
 | [.exn x,.tup cs]=>if x∈J then R8 (IV l x cs) else .no
 | _=>.no
abbrev Cq (K:aT) (x:Str) (C:Le):Prop:=Xg K W9 x=some (some (.ref C))
structure TabOk (K:aT) (l:z7) (ve:ac3):Prop where
 cl:∀ p∈l,∀ C C2,Cq K p.1 C->Cq K p.2.1 C2->YX K (.ref C) (.ref C2)=some p.2.2
 ec:∀ p∈l,∀ C,Cq K p.1 C->ExcC K C
 ve:∀ x∈ve,∀ C,Cq K x C->ExcC K C/\YX K (.ref C) (.type "ValueError")=some true
def Uu (K:aT) (xs:ac9) (H:Hp) (Q:VK):Prop:=∃ a C J b,xs=[.ref a,J]/\H a=some (F8 a C)/\ExcC K C/\Q (.bl b) H /\
 ((∃ u:eQ,(∀ w,ba J w->w=u)/\YX K (.ref C) u=some b)\/∃ tp vs,J=.ref tp/\l6 K H tp vs/\∀ us,br vs us->abK K (.ref C) us=some b)
def vF (h:Uh l x c=some b):(x,c,b)∈l:=by
 unfold Uh at h;obtain ⟨p,e,rfl⟩:=abg.mp h;have h1:=abo e;simp only [Xe,decide_eq_true_eq] at h1;obtain ⟨rfl,rfl⟩:=h1;exact ZD e
section
variable {X:Cx} {W:Wd}
def P8 (K:aT) (hK:X.K=K:=by rfl):cg X (.builtin "isinstance") (Uu K):=by
 subst hK;intro af s Z H xs us Q I r ⟨a,C,v2,b,hxs,ha,hC,hQ,h⟩;subst hxs;obtain ⟨u1,u2,rfl,r1,r2⟩:=HB r;cases r1;obtain ⟨⟨o,vs,h1,h2,h3,h4⟩,_,_⟩:=I.hok a _ ha;have hI:∃ o,abH s.heap a o C none:=⟨o,h1,h2,by unfold acO;rw [h4],by rw [h3];trivial⟩;refine bf I.tk ?_;rcases h with ⟨u,hu,L⟩|⟨tp,ws,rfl,hs,L⟩
 .rw [hu u2 r2];exact XO (En hC) I.kIn hI L (fun z=>nomatch z) fun tk J=>⟨.bl b,H,I.tok tk,rfl,hQ⟩
 .cases r2;obtain ⟨its,rv,⟨o2,g1,g2,n,Y⟩,_⟩:=I.tuple hs;obtain ⟨oc,od,odt,osl⟩:=o2;dsimp only at g2 Y;subst g2 Y;exact PySem.W.kia_tup (En hC) I.kIn hI g1 (L its rv) (fun z=>nomatch z) fun tk J=>⟨.bl b,H,I.tok tk,rfl,hQ⟩
def Ex {K:aT} {l:z7} {ve:ac3} (T:TabOk K l ve) {x:Str} {C:Le} (L:Cq K x C) {H:Hp}:∀ {J:ada} {vs:ac9} {us:ac8} {b:Bool},aJ K H J vs->br vs us->IV l x J=some b->abK K (.ref C) us=some b
 | [],_,_,_,d,r,e=>by cases d;cases r;exact e
 | c::J,_,_,b,⟨v,vs,rfl,d1,d2⟩,.cons r1 r2,e=>by
  unfold IV at e;split at e
  .rename_i h;cases h
  .rename_i c' r' h;cases h;obtain ⟨Y,rfl,hc⟩:=d1;cases r1;unfold abK;split at e
   .rename_i q;rw [T.cl _ (vF q) C Y L hc];exact e
   .rename_i q;rw [T.cl _ (vF q) C Y L hc];exact Ex T L d2 r2 e
   .cases e
  .cases e
def Q8 {K:aT} {l:z7} {ve:ac3} (T:TabOk K l ve) (hW:W.K=K:=by rfl):uW W (Uu K) (Jc l ve):=by
 subst hW;intro as H xs ds Q hn J h;unfold Jc at h;split at h
 .rename_i x c;obtain ⟨v,u,rfl,d1,d2⟩:=Cm J;obtain ⟨a,C,rfl,h1,h2⟩:=d1;obtain ⟨Y,rfl,h3⟩:=d2;cases hl:Uh l x c with
  | none=>rw [hl] at h;exact h.elim
  | some b =>
   rw [hl] at h;exact ⟨a,C,_,b,rfl,ax _ _ _ _ h2,T.ec _ (vF hl) C h1,aP h rfl,.inl ⟨.ref Y,fun w r=>r,T.cl _ (vF hl) C Y h1 h3⟩⟩
 .rename_i x C0;obtain ⟨v,u,rfl,d1,d2⟩:=Cm J;obtain ⟨a,C,rfl,h1,h2⟩:=d1;cases d2;split at h
  .rename_i hc;obtain ⟨rfl,L⟩:=hc;obtain ⟨q1,q2⟩:=T.ve _ L C h1;exact ⟨a,C,_,true,rfl,ax _ _ _ _ h2,q1,aP h rfl,.inl ⟨.type "ValueError",fun w r=>r,q2⟩⟩
  .exact h.elim
 .rename_i x cs;obtain ⟨v,u,rfl,d1,d2⟩:=Cm J;obtain ⟨a,C,rfl,h1,h2⟩:=d1;obtain ⟨tp,vs,rfl,q1,q2⟩:=d2;split at h
  .rename_i L;cases hl:IV l x cs with
   | none=>rw [hl] at h;exact h.elim
   | some b =>
    rw [hl] at h;exact ⟨a,C,_,b,rfl,ax _ _ _ _ h2,(T.ve _ L C h1).1,aP h rfl,.inr ⟨tp,vs,rfl,(ax _ _).seqT q1,fun us r=>Ex T h1 q2 r hl⟩⟩
  .exact h.elim
 .exact h.elim
def Ky (L:X.mg x=some (.ref C)) (hn:Cq W.K x C) (Y:Gl X x:=by rfl) (J:adb x:=by decide):JE X (.Name x p) (tD W O (vC (.cls x))) :=
 ⟨fun af s Z H Q I ⟨as0,B,own,U,_,h⟩=>iK I Y L ⟨.ref C,H,I,rfl,h _ H (az.refl _) ⟨C,rfl,hn⟩⟩ J⟩
end
def Ng (l:ac3):Str->Bool:=fun x=>decide (x∈l)
section
variable {K:aT} {mg:ac6}
def TV (h:∀ x∈l,∃ C,Cq K x C/\mg x=some (.ref C)/\Z9 K (.ref C) (.ref CT)=some true):Pw K mg (Ng l) CT:=fun x C L J=>by
 obtain ⟨C',h1,h2,Y⟩:=h x (ac0 L);rw [h2] at J;cases J;exact ⟨h1,Y⟩
def xV:Xl "ValueError"=some (.type "ValueError"):=by trivial
end
section
variable {X:Cx} {W:Wd} {Ob O:ac2} {e:Yb} {ε:FE} {pos:Pos}
def Pd (i:Nat) (U:Sd) (a:Int) (d:D):R Fl:=match d with
 | .int b=>.ok (.nx (U.set i (some (.int (a+b)))))
 | _=>.no
def qe (i:Nat) (ε:FE):FS:=fun U=>match U[i]? with
 | some (some (.int a))=>(ε U).bind (Pd i U a)
 | _=>.no
def F3 (L:i∉O) (Y:X.N.Nodup) (hx:Bv X.env.scope x) (he:JE X e (tD W O ε)) (hi:X.N[i]?=some x:=by rfl) (hf:X.fn x=true\/X.env.scope.names.lookup x=some .local:=by walk_at"u") :
  JS X (.AugAssign (.Name x pos') .Add e pos) (sD W Ob O O (qe i ε)) :=
 (JS.mk (OM Y hi hx he.out Mi hf)).imp fun D' Z H hh=>fH hh fun as0 B own U I h=>by
  unfold qe at h;split at h
  .rename_i a ha;obtain ⟨v,hv,dv⟩:=I.var i _ L ha;cases dv;refine ⟨.int a,hv,as0,B,own,U,I,gk I h fun d v H' s J h'=>?_⟩;unfold Pd at h';split at h'
   .cases J;exact ⟨_,_,rfl,rfl,h' own _ H' ((I.mono s).set L rfl)⟩
   .exact h'.elim
  .exact h.elim
def Td:qe i ε U=(match U[i]? with|some (some (.int a))=>(ε U).bind (Pd i U a)|_=>.no):=rfl
end
end L2
namespace TS
open PySem PyProof.Rows
def av (h:1<=m):m - (q+1)+m - 1 - (m - 1)<=m - 1:=by
 rw [Nat.add_sub_assoc h,Nat.add_sub_cancel];exact abS (Nat.succ_le_succ (Xk q)) m
local macro_rules|`(tactic|walk_at "ja")=>`(tactic|first|exact av (by lia)|lia)
def bP (h:r - l<=k - x) (J:l<=m):r - (m+1)<=k - (x+1):=IF (abS (Nat.add_le_add_right J 1) r) (by rw [<- acJ r l 1,<- acJ k x 1];exact aap h 1)
def bO (h:r - l<=k - x) (J:m < r):m - l<=k - (x+1):=IF (aap (Nat.le_pred_of_lt J) l) (by rw [Nat.pred_eq_sub_one,Nat.sub_right_comm,<- acJ k x 1];exact aap h 1)
local macro_rules|`(tactic|walk_at "jb")=>`(tactic|first|exact bP (by assumption) (by lia)|exact bO (by assumption) (by lia)|lia)
structure Orc (M:Model) (A:Xs) (E:ac5) (s:iF) (blt:YL->YL->Bool) (k₀:abB) (In:YL->Prop):Prop where
 asymm:∀ x y,blt x y=true->blt y x=false
 trans:∀ x y z,blt y x=false->blt z y=false->blt z x=false
 ask:∀ (x y:YL) (st:YB) (Q:Option Bool->YB->Prop),In x->In y->kindOf st=k₀->Q (some (blt x y)) st->wpS M A E s (lt' x y) Q st
section
variable {M:Model} {A:Xs} {E:ac5} {s:iF} {blt:YL->YL->Bool} {k₀:abB} {In:YL->Prop}
def Orc.le_lt (O:Orc M A E s blt k₀ In) (h1:blt x y=true) (h2:blt z y=false):blt x z=true:=by
 cases e:blt x z with
 | true=>rfl
 | false=>rw [O.trans y z x h2 e] at h1;cases h1
def Orc.refl (O:Orc M A E s blt k₀ In) (x:YL):blt x x=false:=by
 cases e:blt x x with
 | false=>rfl
 | true=>rw [O.asymm x x e] at e;cases e
def E3 {Q:YL->YB->Prop} {st:YB} (h:i < arr.size) (J:Q arr[i] st):wpS M A E s (elem' arr i) Q st:=by
 rw [elem'_eq,getElem?_pos arr i h];exact XM J
end
structure SG (st st':YB):Prop where
 kind:kindOf st'=kindOf st
 arr:Xj st'=Xj st
 pend:Y8 st'=Y8 st
 failed:aac st'=aac st
section
variable {M:Model} {A:Xs} {E:ac5} {s:iF} {blt:YL->YL->Bool} {k₀:abB} {In:YL->Prop}
def cc {α:Type} {c:Prop} [Decidable c] {x y:StateT YB Sem α} {Q:α->YB->Prop} {st:YB} (h1:c->wpS M A E s x Q st) (h2:¬ c->wpS M A E s y Q st):wpS M A E s (if c then x else y) Q st:=by
 by_cases h:c
 .rw [acW h];exact h1 h
 .rw [acX h];exact h2 h
end
def G (xs:Array YL) (i:Nat):YL:=(xs[i]?).getD (.none,.none)
def Gd (h:i < xs.size):G xs i=xs[i]:=by unfold G;rw [getElem?_pos xs i h];rfl
def eM (hj:j<=xs.size) (k:Nat):G (mirror xs i j ((j - i)/2)) k=if i<=k/\k < j then G xs (i+j - 1 - k) else G xs k:=by
 unfold G;rw [getElem?_mirror_all hj];split <;> rfl
def vV (L:src < xs.size) (J:d<=src) (k:Nat):G (bubble xs src d) k=if k=src - d then G xs src else if src - d < k/\k<=src then G xs (k - 1) else G xs k:=by
 unfold G;rw [getElem?_bubble L d J]
 repeat' split
 all_goals rfl
structure SA (lo:Nat) (st st':YB):Prop where
 kind:kindOf st'=kindOf st
 pend:Y8 st'=Y8 st
 failed:aac st'=aac st
 perm:(Xj st').Perm (Xj st)
 pre:∀ i,i < lo->G (Xj st') i=G (Xj st) i
def SA.refl (lo:Nat) (st:YB):SA lo st st:=⟨rfl,rfl,rfl,acK _,fun _ _=>rfl⟩
theorem SA.trans {lo:Nat} {a b c:YB} (h:SA lo a b) (g:SA lo b c):SA lo a c:=⟨g.kind.trans h.kind,g.pend.trans h.pend,g.failed.trans h.failed,g.perm.trans h.perm,fun i hi=>(g.pre i hi).trans (h.pre i hi)⟩
theorem SA.size {lo:Nat} {a b:YB} (h:SA lo a b):(Xj b).size=(Xj a).size:=h.perm.size_eq
section
variable {M:Model} {A:Xs} {E:ac5} {s:iF} {blt:YL->YL->Bool} {k₀:abB} {In:YL->Prop}
def qL (In:YL->Prop) (st:YB):Prop:=∀ x,x∈(Xj st).toList->In x
def qL.sa {lo:Nat} {st st':YB} (h:qL In st) (g:SA lo st st'):qL In st':=fun x J=>h x ((Zt.mp g.perm).mem_iff.mp J)
def qL.at {st:YB} (h:qL In st) (hi:i < (Xj st).size):In (Xj st)[i]:=h _ (by simp)
def gY (O:Orc M A E s blt k₀ In) {st:YB} {Q:Option Bool->YB->Prop} (L:kindOf st=k₀) (J:qL In st) (hi:i < (Xj st).size) (hj:j < (Xj st).size) (h:Q (some (blt (G (Xj st) i) (G (Xj st) j))) st):wpS M A E s (ltAt' i j) Q st:=by
 rw [ltAt'_eq];refine Xm (abV ?_);refine Xm (E3 hi (Xm (E3 hj ?_)));rw [Gd hi,Gd hj] at h;exact O.ask _ _ _ _ (J.at hi) (J.at hj) L h
def nz {st:YB} {Q:PUnit->YB->Prop} (h:Q ⟨⟩ (setArr st (mirror (Xj st) i j ((j - i)/2)))):wpS M A E s (reverseSlice' i j) Q st:=by
 rw [reverseSlice'_eq];exact ack h
def nM {lo:Nat} {st:YB} {i j:Nat} (hi:lo<=i) (hj:j<=(Xj st).size):SA lo st (setArr st (mirror (Xj st) i j ((j - i)/2))) :=
 ⟨rfl,rfl,rfl,mirror_perm _ _ _ _,fun k J=>by
  show G (mirror (Xj st) i j ((j - i)/2)) k=_;rw [eM hj,acX (by lia)]⟩
def SegG (blt:YL->YL->Bool) (xs:Array YL) (lo hi:Nat):Prop:=∀ i j,lo<=i->i<=j->j < hi->blt (G xs j) (G xs i)=false
def NI (blt:YL->YL->Bool) (xs:Array YL) (lo hi:Nat):Prop:=∀ i j,lo<=i->i<=j->j < hi->blt (G xs i) (G xs j)=false
def HN (O:Orc M A E s blt k₀ In) {xs:Array YL} {lo hi:Nat} (h:SegG blt xs lo hi) (Y:lo < hi) (L:blt (G xs hi) (G xs (hi - 1))=false):SegG blt xs lo (hi+1):=fun i j a b c=>by
 by_cases hj:j < hi
 .exact h i j a b hj
 .have:j=hi:=by lia
  subst this;by_cases J:i=j
  .subst J;exact O.refl _
  .exact O.trans _ _ _ (h i (j - 1) a (by lia) (by lia)) L
def lg (O:Orc M A E s blt k₀ In) {xs:Array YL} {lo hi:Nat} (h:NI blt xs lo hi) (Y:lo < hi) (L:blt (G xs (hi - 1)) (G xs hi)=false):NI blt xs lo (hi+1):=fun i j a b c=>by
 by_cases hj:j < hi
 .exact h i j a b hj
 .have:j=hi:=by lia
  subst this;by_cases J:i=j
  .subst J;exact O.refl _
  .exact O.trans _ _ _ L (h i (j - 1) a (by lia) (by lia))
def rX (O:Orc M A E s blt k₀ In) {st:YB} {lo n nrem:Nat} {Q:Option (Option Nat)×Nat->YB->Prop} {f:Nat->Option (Option Nat)×Nat->StateT YB Sem (ForInStep (Option (Option Nat)×Nat))} (hk:kindOf st=k₀) (hI:qL In st) (hn:lo+nrem<=(Xj st).size) (h1:1<=n) (L:n<=nrem) (Y:SegG blt (Xj st) lo (lo+n))
  (hf:∀ x n (R:ForInStep (Option (Option Nat)×Nat)->YB->Prop),1<=n->n < nrem->(blt (G (Xj st) (lo+n)) (G (Xj st) (lo+n - 1))=true->R (.done (none,n)) st)->(blt (G (Xj st) (lo+n)) (G (Xj st) (lo+n - 1))=false->R (.yield (none,n+1)) st)->wpS M A E s (f x (none,n)) R st)
  (h:∀ m,n<=m->m<=nrem->SegG blt (Xj st) lo (lo+m)->(m=nrem\/blt (G (Xj st) (lo+m)) (G (Xj st) (lo+m - 1))=true)->Q (none,m) st):wpS M A E s (forIn [n:nrem] (none,n) f) Q st:=by
 refine ZL (I:=fun x c J=>J=st/\c=(none,x)/\n<=x/\SegG blt (Xj st) lo (lo+x)) ?step ?fin ⟨rfl,rfl,mK _,Y⟩
 case fin =>
  rintro c J ⟨rfl,rfl,h2,h3⟩;rw [show max n nrem=nrem by lia] at h3 ⊢;exact h nrem L (mK _) h3 (.inl rfl)
 case step =>
  rintro x c J hx1 hx2 ⟨rfl,rfl,h2,h3⟩;refine hf x x _ (by lia) hx2 (fun e=>h x h2 (by lia) h3 (.inr e)) fun e=>⟨rfl,rfl,by lia,?_⟩
  have:=HN O h3 (by lia) e
  rwa [show lo+x+1=lo+(x+1) by lia] at this
def zm {st:YB} {lo hi:Nat} (J:hi<=(Xj st).size) (h:NI blt (Xj st) lo hi):SegG blt (mirror (Xj st) lo hi ((hi - lo)/2)) lo hi:=fun i j a b c=>by
 rw [eM J,eM J,acW (by lia),acW (by lia)];exact h _ _ (by lia) (by lia) (by lia)
def A0 {xs:Array YL} {lo p hi:Nat} (L:hi<=xs.size) (hp:lo<=p) (h:NI blt xs lo hi) (Y:∀ i j,p<=i->i < hi->p<=j->j < hi->blt (G xs i) (G xs j)=false):NI blt (mirror xs p hi ((hi - p)/2)) lo hi:=fun i j a b c=>by
 rw [eM L,eM L];by_cases J:p<=i/\i < hi
 .rw [acW J,acW (by lia)];exact Y _ _ (by lia) (by lia) (by lia) (by lia)
 .rw [acX J];by_cases hj:p<=j/\j < hi
  .rw [acW hj];exact h _ _ a (by lia) (by lia)
  .rw [acX hj];exact h _ _ a b c
end
section
variable {M:Model} {A:Xs} {E:ac5} {s:iF} {blt:YL->YL->Bool} {k₀:abB} {In:YL->Prop}
def BL (O:Orc M A E s blt k₀ In) {st:YB} {lo nrem:Nat} {Q:Option Nat->YB->Prop} (hk:kindOf st=k₀) (hI:qL In st) (hn:lo+nrem<=(Xj st).size) (h1:1<=nrem)
  (h:∀ m J,SA lo st J->1<=m->m<=nrem->SegG blt (Xj J) lo (lo+m)->Q (some m) J):wpS M A E s (countRun' lo nrem) Q st:=by
 have s1:SegG blt (Xj st) lo (lo+1):=fun i j a b c=>by
  have:i=j:=by walk_at "ja"
  rw [this];exact O.refl _
 refine Xm (rX O (lo:=lo) hk hI hn (mK 1) h1 s1 ?hf ?_)
 case hf =>
  intro x n R hn1 hn2 r1 r2;refine Xm (gY O hk hI (by walk_at "ja") (by walk_at "ja") ?_);cases e:blt (G (Xj st) (lo+n)) (G (Xj st) (lo+n - 1)) with
  | true=>exact XM (r1 e)
  | false=>exact XM (r2 e)
 intro n hn1 hn2 hs hor;refine cc (fun hq=>XM (h n st (SA.refl lo st) hn1 hn2 hs)) (fun hne=>?_);have hne:n≠nrem:=by simpa using hne
 have hlt:=hor.resolve_left hne;refine cc (fun hgt=>?_) (fun hgt=>?_)
 .refine Xm (gY O hk hI (show lo < _ by walk_at "ja") (show lo+n - 1 < _ by walk_at "ja") ?_);cases hrose:blt (G (Xj st) lo) (G (Xj st) (lo+n - 1)) with
  | true=>exact cc (fun _=>XM (h n st (SA.refl lo st) hn1 hn2 hs)) (fun z=>absurd rfl z)
  | false =>
   refine cc (fun z=>absurd z nE) (fun _=>?_);refine Xm (nz ?_);have hsa1:=nM (lo:=lo) (st:=st) (i:=lo) (j:=lo+n) (mK _) (by walk_at "ja");have hall:∀ i j,lo<=i->i < lo+n->lo<=j->j < lo+n->blt (G (Xj st) i) (G (Xj st) j)=false:=fun i j a b c d =>
    O.trans _ _ _ (O.trans _ _ _ (hs j (lo+n - 1) c (by walk_at "ja") (by walk_at "ja")) hrose) (hs lo i (mK _) a b)
   have hni1:NI blt (mirror (Xj st) lo (lo+n) ((lo+n - lo)/2)) lo (lo+(n+1)):=by
    have n3:=A0 (xs:=Xj st) (p:=lo) (hi:=lo+n) (by walk_at "ja") (mK _) (fun i j a b c=>hall i j a (by walk_at "ja") (by walk_at "ja") c) hall;have n4:=lg O n3 (by walk_at "ja") (by
     rw [eM (by walk_at "ja"),eM (by walk_at "ja"),acW (by walk_at "ja"),acX (by walk_at "ja")];exact O.trans _ _ _ (O.asymm _ _ hlt) (hall _ _ (by walk_at "ja") (by walk_at "ja") (by walk_at "ja") (by walk_at "ja")))
    rwa [show lo+n+1=lo+(n+1) by walk_at "ja"] at n4
   have hN:n+1<=nrem:=by walk_at "ja"
   refine Xm (ab9 (Z5 ⟨rfl,?_⟩));refine Xm (aca (ZL (I:=fun x c J=>SA lo st J/\∃ L,c=(none,x,L)/\n+1<=x/\NI blt (Xj J) lo (lo+x)/\L+1<=x/\(∀ i j,lo+x - (L+1)<=i->i < lo+x->lo+x - (L+1)<=j->j < lo+x->blt (G (Xj J) i) (G (Xj J) j)=false))
    (Q:=fun c J=>SA lo st J/\∃ m L,c=(none,m,L)/\n+1<=m/\m<=nrem/\NI blt (Xj J) lo (lo+m)/\L+1<=m/\(∀ i j,lo+m - (L+1)<=i->i < lo+m->lo+m - (L+1)<=j->j < lo+m->blt (G (Xj J) i) (G (Xj J) j)=false)) ?step ?fin ⟨hsa1,0,rfl,by walk_at "ja",hni1,by walk_at "ja",fun i j a b c d=>by rw [show i=j by walk_at "ja"];exact O.refl _⟩) ?post)
   case fin =>
    rintro c J ⟨hsa',L,rfl,h2,h3,h4,h5⟩;rw [show max (_+1) nrem=nrem by walk_at "ja"] at *;exact ⟨hsa',nrem,L,rfl,by walk_at "ja",mK _,h3,h4,h5⟩
   case post =>
    rintro c J ⟨hsa',m,L,rfl,hm1,hm2,hni',hq1,heq⟩;dsimp only;have sz:=hsa'.size;refine cc (fun hneq=>?_) (fun hneq=>?_)
    .refine Xm (nz ?_);have hsa3:=hsa'.trans (nM (lo:=lo) (i:=lo+m - (L+1)) (j:=lo+m) (by walk_at "ja") (by walk_at "ja"));have hni3:=A0 (xs:=Xj J) (p:=lo+m - (L+1)) (by walk_at "ja") (by walk_at "ja") hni' (fun i j a b c d=>heq i j a b c d);have sz3:=hsa3.size;refine Xm (nz ?_);have Y:=hsa3.trans (nM (lo:=lo) (i:=lo) (j:=lo+m) (mK _) (by walk_at "ja"));have sg4:=zm (st:=setArr J (mirror (Xj J) (lo+m - (L+1)) (lo+m) ((lo+m - (lo+m - (L+1)))/2))) (by walk_at "ja") hni3;have sz4:=Y.size;refine Xm (rX O (lo:=lo) (n:=m) (Y.kind.trans hk) (hI.sa Y) (by walk_at "ja") (by walk_at "ja") hm2 sg4 ?hf ?_)
     case hf =>
      intro x n' R hn1' hn2' r1 r2;refine Xm (gY O (Y.kind.trans hk) (hI.sa Y) (by walk_at "ja") (by walk_at "ja") ?_);split
      .rename_i smaller heq';have heq':blt _ _=smaller:=Xp heq';cases smaller with
       | true=>exact XM (r1 heq')
       | false=>exact XM (r2 heq')
      .rename_i hno;exact absurd rfl (hno _)
     intro m' h1' h2' h3' _;exact XM (h m' _ Y (by walk_at "ja") h2' h3')
    .have hsa3:=hsa';have hni3:=hni';have sz3:=hsa3.size;refine Xm (nz ?_);have Y:=hsa3.trans (nM (lo:=lo) (i:=lo) (j:=lo+m) (mK _) (by walk_at "ja"));have sg4:=zm (st:=J) (by walk_at "ja") hni3;have sz4:=Y.size;refine Xm (rX O (lo:=lo) (n:=m) (Y.kind.trans hk) (hI.sa Y) (by walk_at "ja") (by walk_at "ja") hm2 sg4 ?hf2 ?_)
     case hf2 =>
      intro x n' R hn1' hn2' r1 r2;refine Xm (gY O (Y.kind.trans hk) (hI.sa Y) (by walk_at "ja") (by walk_at "ja") ?_);split
      .rename_i smaller heq';have heq':blt _ _=smaller:=Xp heq';cases smaller with
       | true=>exact XM (r1 heq')
       | false=>exact XM (r2 heq')
      .rename_i hno;exact absurd rfl (hno _)
     intro m' h1' h2' h3' _;exact XM (h m' _ Y (by walk_at "ja") h2' h3')
   case step =>
    rintro x c J hx1 hx2 ⟨hsa',L,rfl,h2,hni',hq1,heq⟩;have sz:=hsa'.size;refine Xm (gY O (hsa'.kind.trans hk) (hI.sa hsa') (show lo+x < _ by walk_at "ja") (show lo+x - 1 < _ by walk_at "ja") ?_);cases e:blt (G (Xj J) (lo+x)) (G (Xj J) (lo+x - 1)) with
    | true =>
     have up:=lg O hni' (by walk_at "ja") (O.asymm _ _ e);refine cc (fun _=>?_) (fun z=>absurd rfl z);refine cc (fun hneq=>?_) (fun hneq=>?_)
     .refine Xm (nz ?_);refine XM ⟨hsa'.trans (nM (i:=lo+x - (L+1)) (j:=lo+x) (by walk_at "ja") (by walk_at "ja")),0,rfl,by walk_at "ja",?_,by walk_at "ja",fun i j a b c d=>by rw [show i=j by walk_at "ja"];exact O.refl _⟩;have n3:=A0 (xs:=Xj J) (p:=lo+x - (L+1)) (hi:=lo+x) (by walk_at "ja") (by walk_at "ja") hni' (fun i j a b c d=>heq i j a b c d);have n4:=lg O n3 (by walk_at "ja") (by
       rw [eM (by walk_at "ja"),eM (by walk_at "ja"),acW (by walk_at "ja"),acX (by walk_at "ja")];exact O.trans _ _ _ (O.asymm _ _ e) (hni' _ _ (by walk_at "ja") (by walk_at "ja") (by walk_at "ja")))
      rwa [show lo+x+1=lo+(x+1) by walk_at "ja"] at n4
     .refine XM ⟨hsa',0,rfl,by walk_at "ja",?_,by walk_at "ja",fun i j a b c d=>by rw [show i=j by walk_at "ja"];exact O.refl _⟩;rwa [show lo+x+1=lo+(x+1) by walk_at "ja"] at up
    | false =>
     refine cc (fun z=>absurd z nE) (fun _=>?_);refine Xm (gY O (hsa'.kind.trans hk) (hI.sa hsa') (show lo+x - 1 < _ by walk_at "ja") (show lo+x < _ by walk_at "ja") ?_);cases e2:blt (G (Xj J) (lo+x - 1)) (G (Xj J) (lo+x)) with
     | true=>exact cc (fun _=>XM ⟨hsa',x,L,rfl,by walk_at "ja",by walk_at "ja",hni',hq1,heq⟩) (fun z=>absurd rfl z)
     | false =>
      refine cc (fun z=>absurd z nE) (fun _=>XM ⟨hsa',L+1,rfl,by walk_at "ja",?_,by walk_at "ja",fun i j a b c d=>?_⟩)
      .have up:=lg O hni' (by walk_at "ja") e2;rwa [show lo+x+1=lo+(x+1) by walk_at "ja"] at up
      .have q1:∀ k,lo+x - (L+1)<=k->k < lo+x->blt (G (Xj J) k) (G (Xj J) (lo+x))=false/\blt (G (Xj J) (lo+x)) (G (Xj J) k)=false:=fun k k1 k2 =>
        ⟨O.trans _ _ _ e2 (heq k (lo+x - 1) k1 k2 (by walk_at "ja") (by walk_at "ja")),O.trans _ _ _ (heq (lo+x - 1) k (by walk_at "ja") (by walk_at "ja") k1 k2) e⟩
       by_cases hi':i=lo+x
       .by_cases hj':j=lo+x
        .rw [hi',hj'];exact O.refl _
        .rw [hi'];exact (q1 j (by walk_at "ja") (by walk_at "ja")).2
       .by_cases hj':j=lo+x
        .rw [hj'];exact (q1 i (by walk_at "ja") (by walk_at "ja")).1
        .exact heq i j (by walk_at "ja") (by walk_at "ja") (by walk_at "ja") (by walk_at "ja")
 .have hgt:¬ (n > 1):=hgt;have n1:n=1:=by walk_at "ja"
  have hni1:NI blt (Xj st) lo (lo+(n+1)):=by
   have:=lg O (lo:=lo) (hi:=lo+n) (xs:=Xj st) (fun i j a b c=>by
    have:i=j:=by walk_at "ja"
    rw [this];exact O.refl _) (by walk_at "ja") (O.asymm _ _ hlt)
   rwa [show lo+n+1=lo+(n+1) by walk_at "ja"] at this
  have hsa1:=SA.refl lo st;have hN:n+1<=nrem:=by walk_at "ja"
  refine Xm (ab9 (Z5 ⟨rfl,?_⟩));refine Xm (aca (ZL (I:=fun x c J=>SA lo st J/\∃ L,c=(none,x,L)/\n+1<=x/\NI blt (Xj J) lo (lo+x)/\L+1<=x/\(∀ i j,lo+x - (L+1)<=i->i < lo+x->lo+x - (L+1)<=j->j < lo+x->blt (G (Xj J) i) (G (Xj J) j)=false))
   (Q:=fun c J=>SA lo st J/\∃ m L,c=(none,m,L)/\n+1<=m/\m<=nrem/\NI blt (Xj J) lo (lo+m)/\L+1<=m/\(∀ i j,lo+m - (L+1)<=i->i < lo+m->lo+m - (L+1)<=j->j < lo+m->blt (G (Xj J) i) (G (Xj J) j)=false)) ?step ?fin ⟨hsa1,0,rfl,by walk_at "ja",hni1,by walk_at "ja",fun i j a b c d=>by rw [show i=j by walk_at "ja"];exact O.refl _⟩) ?post)
  case fin =>
   rintro c J ⟨hsa',L,rfl,h2,h3,h4,h5⟩;rw [show max (_+1) nrem=nrem by walk_at "ja"] at *;exact ⟨hsa',nrem,L,rfl,by walk_at "ja",mK _,h3,h4,h5⟩
  case post =>
   rintro c J ⟨hsa',m,L,rfl,hm1,hm2,hni',hq1,heq⟩;dsimp only;have sz:=hsa'.size;refine cc (fun hneq=>?_) (fun hneq=>?_)
   .refine Xm (nz ?_);have hsa3:=hsa'.trans (nM (lo:=lo) (i:=lo+m - (L+1)) (j:=lo+m) (by walk_at "ja") (by walk_at "ja"));have hni3:=A0 (xs:=Xj J) (p:=lo+m - (L+1)) (by walk_at "ja") (by walk_at "ja") hni' (fun i j a b c d=>heq i j a b c d);have sz3:=hsa3.size;refine Xm (nz ?_);have Y:=hsa3.trans (nM (lo:=lo) (i:=lo) (j:=lo+m) (mK _) (by walk_at "ja"));have sg4:=zm (st:=setArr J (mirror (Xj J) (lo+m - (L+1)) (lo+m) ((lo+m - (lo+m - (L+1)))/2))) (by walk_at "ja") hni3;have sz4:=Y.size;refine Xm (rX O (lo:=lo) (n:=m) (Y.kind.trans hk) (hI.sa Y) (by walk_at "ja") (by walk_at "ja") hm2 sg4 ?hf ?_)
    case hf =>
     intro x n' R hn1' hn2' r1 r2;refine Xm (gY O (Y.kind.trans hk) (hI.sa Y) (by walk_at "ja") (by walk_at "ja") ?_);split
     .rename_i smaller heq';have heq':blt _ _=smaller:=Xp heq';cases smaller with
      | true=>exact XM (r1 heq')
      | false=>exact XM (r2 heq')
     .rename_i hno;exact absurd rfl (hno _)
    intro m' h1' h2' h3' _;exact XM (h m' _ Y (by walk_at "ja") h2' h3')
   .have hsa3:=hsa';have hni3:=hni';have sz3:=hsa3.size;refine Xm (nz ?_);have Y:=hsa3.trans (nM (lo:=lo) (i:=lo) (j:=lo+m) (mK _) (by walk_at "ja"));have sg4:=zm (st:=J) (by walk_at "ja") hni3;have sz4:=Y.size;refine Xm (rX O (lo:=lo) (n:=m) (Y.kind.trans hk) (hI.sa Y) (by walk_at "ja") (by walk_at "ja") hm2 sg4 ?hf2 ?_)
    case hf2 =>
     intro x n' R hn1' hn2' r1 r2;refine Xm (gY O (Y.kind.trans hk) (hI.sa Y) (by walk_at "ja") (by walk_at "ja") ?_);split
     .rename_i smaller heq';have heq':blt _ _=smaller:=Xp heq';cases smaller with
      | true=>exact XM (r1 heq')
      | false=>exact XM (r2 heq')
     .rename_i hno;exact absurd rfl (hno _)
    intro m' h1' h2' h3' _;exact XM (h m' _ Y (by walk_at "ja") h2' h3')
  case step =>
   rintro x c J hx1 hx2 ⟨hsa',L,rfl,h2,hni',hq1,heq⟩;have sz:=hsa'.size;refine Xm (gY O (hsa'.kind.trans hk) (hI.sa hsa') (show lo+x < _ by walk_at "ja") (show lo+x - 1 < _ by walk_at "ja") ?_);cases e:blt (G (Xj J) (lo+x)) (G (Xj J) (lo+x - 1)) with
   | true =>
    have up:=lg O hni' (by walk_at "ja") (O.asymm _ _ e);refine cc (fun _=>?_) (fun z=>absurd rfl z);refine cc (fun hneq=>?_) (fun hneq=>?_)
    .refine Xm (nz ?_);refine XM ⟨hsa'.trans (nM (i:=lo+x - (L+1)) (j:=lo+x) (by walk_at "ja") (by walk_at "ja")),0,rfl,by walk_at "ja",?_,by walk_at "ja",fun i j a b c d=>by rw [show i=j by walk_at "ja"];exact O.refl _⟩;have n3:=A0 (xs:=Xj J) (p:=lo+x - (L+1)) (hi:=lo+x) (by walk_at "ja") (by walk_at "ja") hni' (fun i j a b c d=>heq i j a b c d);have n4:=lg O n3 (by walk_at "ja") (by
      rw [eM (by walk_at "ja"),eM (by walk_at "ja"),acW (by walk_at "ja"),acX (by walk_at "ja")];exact O.trans _ _ _ (O.asymm _ _ e) (hni' _ _ (by walk_at "ja") (by walk_at "ja") (by walk_at "ja")))
     rwa [show lo+x+1=lo+(x+1) by walk_at "ja"] at n4
    .refine XM ⟨hsa',0,rfl,by walk_at "ja",?_,by walk_at "ja",fun i j a b c d=>by rw [show i=j by walk_at "ja"];exact O.refl _⟩;rwa [show lo+x+1=lo+(x+1) by walk_at "ja"] at up
   | false =>
    refine cc (fun z=>absurd z nE) (fun _=>?_);refine Xm (gY O (hsa'.kind.trans hk) (hI.sa hsa') (show lo+x - 1 < _ by walk_at "ja") (show lo+x < _ by walk_at "ja") ?_);cases e2:blt (G (Xj J) (lo+x - 1)) (G (Xj J) (lo+x)) with
    | true=>exact cc (fun _=>XM ⟨hsa',x,L,rfl,by walk_at "ja",by walk_at "ja",hni',hq1,heq⟩) (fun z=>absurd rfl z)
    | false =>
     refine cc (fun z=>absurd z nE) (fun _=>XM ⟨hsa',L+1,rfl,by walk_at "ja",?_,by walk_at "ja",fun i j a b c d=>?_⟩)
     .have up:=lg O hni' (by walk_at "ja") e2;rwa [show lo+x+1=lo+(x+1) by walk_at "ja"] at up
     .have q1:∀ k,lo+x - (L+1)<=k->k < lo+x->blt (G (Xj J) k) (G (Xj J) (lo+x))=false/\blt (G (Xj J) (lo+x)) (G (Xj J) k)=false:=fun k k1 k2 =>
       ⟨O.trans _ _ _ e2 (heq k (lo+x - 1) k1 k2 (by walk_at "ja") (by walk_at "ja")),O.trans _ _ _ (heq (lo+x - 1) k (by walk_at "ja") (by walk_at "ja") k1 k2) e⟩
      by_cases hi':i=lo+x
      .by_cases hj':j=lo+x
       .rw [hi',hj'];exact O.refl _
       .rw [hi'];exact (q1 j (by walk_at "ja") (by walk_at "ja")).2
      .by_cases hj':j=lo+x
       .rw [hj'];exact (q1 i (by walk_at "ja") (by walk_at "ja")).1
       .exact heq i j (by walk_at "ja") (by walk_at "ja") (by walk_at "ja") (by walk_at "ja")
end
section
variable {M:Model} {A:Xs} {E:ac5} {s:iF} {blt:YL->YL->Bool} {k₀:abB} {In:YL->Prop}
def Pk {lo:Nat} {st:YB} {J d:Nat} (h:lo<=J - d) (L:d<=J) (Y:J < (Xj st).size):SA lo st (setArr st (bubble (Xj st) J d)) :=
 ⟨rfl,rfl,rfl,bubble_perm _ _ _,fun k hk=>by
  show G (bubble (Xj st) J d) k=_;rw [vV Y L,acX (by walk_at "jb"),acX (by walk_at "jb")]⟩
def FL (O:Orc M A E s blt k₀ In) {st:YB} {lo n ok:Nat} {Q:Bool->YB->Prop} (hk:kindOf st=k₀) (hI:qL In st) (hn:lo+n<=(Xj st).size) (hok:ok<=n) (h1:1<=ok) (hs:SegG blt (Xj st) lo (lo+ok))
  (h:∀ st',SA lo st st'->SegG blt (Xj st') lo (lo+n)->Q true st'):wpS M A E s (binarySort' lo n ok) Q st:=by
 refine Xm (aca (ZL (I:=fun k c st'=>c=(none,())/\SA lo st st'/\SegG blt (Xj st') lo (lo+k))
  (Q:=fun c st'=>c=(none,())/\SA lo st st'/\SegG blt (Xj st') lo (lo+n)) ?step ?fin ⟨rfl,SA.refl lo st,by rw [show max ok 1=ok by walk_at "jb"];exact hs⟩) ?post)
 case post =>
  rintro c st' ⟨rfl,hsa,hsg⟩;exact XM (h st' hsa hsg)
 case fin =>
  rintro c st' ⟨rfl,hsa,hsg⟩;rw [show max (max ok 1) n=n by walk_at "jb"] at hsg;exact ⟨rfl,hsa,hsg⟩
 case step =>
  rintro k c st1 hk1 hk2 ⟨rfl,hsa,hsg⟩;have sz:=hsa.size;have L:lo+k < (Xj st1).size:=by walk_at "jb"
  refine Xm (aca (ZL (I:=fun x c st'=>st'=st1/\∃ l r,c=(none,l,r)/\l<=r/\r<=k/\r - l<=k - x/\(∀ i,lo<=i->i < lo+l->blt (G (Xj st1) (lo+k)) (G (Xj st1) i)=false)/\(∀ i,lo+r<=i->i < lo+k->blt (G (Xj st1) (lo+k)) (G (Xj st1) i)=true))
   (Q:=fun c st'=>st'=st1/\∃ l r,c=(none,l,r)/\l=r/\r<=k/\(∀ i,lo<=i->i < lo+l->blt (G (Xj st1) (lo+k)) (G (Xj st1) i)=false)/\(∀ i,lo+r<=i->i < lo+k->blt (G (Xj st1) (lo+k)) (G (Xj st1) i)=true)) ?step1 ?fin1 ⟨rfl,0,k,rfl,by walk_at "jb",by walk_at "jb",by walk_at "jb",fun i a b=>by walk_at "jb",fun i a b=>by walk_at "jb"⟩) ?post1)
  case fin1 =>
   rintro c st' ⟨rfl,l,r,rfl,a1,a2,a3,a4,a5⟩;exact ⟨rfl,l,r,rfl,by walk_at "jb",a2,a4,a5⟩
  case step1 =>
   rintro x c st' _ hx ⟨rfl,l,r,rfl,a1,a2,a3,a4,a5⟩;refine cc (fun J=>?_) (fun J=>?_)
   .have J:l ≥ r:=J;exact XM ⟨rfl,l,r,rfl,by walk_at "jb",a2,a4,a5⟩
   .have J:¬ (l ≥ r):=J;have hm:lo+(l+r)/2 < (Xj st').size:=by walk_at "jb"
    refine Xm (gY O (hsa.kind.trans hk) (hI.sa hsa) L hm ?_);cases e:blt (G (Xj st') (lo+k)) (G (Xj st') (lo+(l+r)/2)) with
    | true =>
     refine cc (fun _=>XM ⟨rfl,l,(l+r)/2,rfl,by walk_at "jb",by walk_at "jb",by walk_at "jb",a4,fun i Y b2=>?_⟩) (fun z=>absurd rfl z);exact O.le_lt e (hsg (lo+(l+r)/2) i (by walk_at "jb") (by walk_at "jb") (by walk_at "jb"))
    | false =>
     refine cc (fun z=>absurd z nE) (fun _=>XM ⟨rfl,(l+r)/2+1,r,rfl,by walk_at "jb",by walk_at "jb",by walk_at "jb",fun i Y b2=>?_,a5⟩);exact O.trans _ _ _ (hsg i (lo+(l+r)/2) Y (by walk_at "jb") (by walk_at "jb")) e
  case post1 =>
   rintro c st' ⟨rfl,l,r,rfl,rfl,a2,a4,a5⟩;have e:(lo+k) - (lo+l)=k - l:=by walk_at "jb"
   have md:∀ (R:PUnit->YB->Prop),R ⟨⟩ (setArr st' (bubble (Xj st') (lo+k) (lo+k - (lo+l))))->wpS M A E s (moveDown' (lo+k) (lo+l)) R st':=fun R hr=>by
    rw [moveDown'_eq];exact ack hr
   refine Xm (md _ (XM ⟨rfl,hsa.trans (Pk (by walk_at "jb") (by walk_at "jb") L),fun i j Y b2 b3=>?_⟩));show blt (G (bubble (Xj st') (lo+k) (lo+k - (lo+l))) j) (G (bubble (Xj st') (lo+k) (lo+k - (lo+l))) i)=false;rw [vV L (by walk_at "jb"),vV L (by walk_at "jb"),show lo+k - (lo+k - (lo+l))=lo+l by walk_at "jb"]
   repeat' split
   all_goals first
    | (exfalso;lia)
    | exact O.refl _
    | exact a4 _ (by walk_at "jb") (by walk_at "jb")
    | exact O.asymm _ _ (a5 _ (by walk_at "jb") (by walk_at "jb"))
    | exact hsg _ _ (by walk_at "jb") (by walk_at "jb") (by walk_at "jb")
end
def Nb:∀ n < 64,minRun' n n 0=n:=by trivial
structure SO (blt:YL->YL->Bool) (st st':YB):Prop where
 failed:aac st'=aac st
 perm:(Xj st').Perm (Xj st)
 seg:SegG blt (Xj st') 0 (Xj st).size
 one:(Y8 st').size<=1
section
variable {M:Model} {A:Xs} {E:ac5} {s:iF} {blt:YL->YL->Bool} {k₀:abB} {In:YL->Prop}
def xg (O:Orc M A E s blt k₀ In) {st:YB} {Q:Unit->YB->Prop} (hk:kindOf st=k₀) (hI:qL In st) (hf:aac st=none) (hp:Y8 st=#[]) (h2:2<=(Xj st).size) (h6:(Xj st).size<=63)
  (hq:∀ J,(Xj J).Perm (Xj st)->aac J=none->SegG blt (Xj J) 0 (Xj st).size->Q () J):wpS M A E s sortRuns' Q st:=by
 have hm:=Nb (Xj st).size (by lia);refine Xm (abV ?_);refine Xm (aca (ZL (a:=0) (b:=(Xj st).size) (I:=fun x c J=>(x=0/\c=(none,0)/\J=st)\/(c=(none,(Xj st).size)/\SO blt st J))
  (Q:=fun c J=>c=(none,(Xj st).size)/\SO blt st J) ?step ?fin (.inl ⟨rfl,rfl,rfl⟩)) ?post)
 case fin =>
  rintro c J (⟨e,_⟩|h)
  .lia
  .exact h
 case post =>
  rintro c J ⟨rfl,h⟩;refine Xm (aca (ZL (a:=0) (b:=(Xj st).size) (I:=fun x c J=>c=(none,())/\SO blt st J)
   (Q:=fun c J=>c=(none,())/\SO blt st J) ?stepf (fun _ _ z=>z) ⟨rfl,h⟩) ?postf)
  case stepf =>
   rintro x c st1 _ hx ⟨rfl,h1⟩;refine Xm (abV ?_);refine cc (fun hle=>XM ⟨rfl,h1⟩) (fun hle=>?_);have hle:¬ ((Y8 st1).size<=1):=hle;exact absurd h1.one hle
  case postf =>
   rintro c st1 ⟨rfl,h1⟩;exact XM (hq st1 h1.perm (h1.failed.trans hf) h1.seg)
 case step =>
  rintro x c st1 _ hx (⟨rfl,rfl,rfl⟩|⟨rfl,h⟩)
  .refine cc (fun L=>?_) (fun L=>?_)
   .have L:0 ≥ (Xj st1).size:=L;lia
   .refine Xm (BL O (lo:=0) (nrem:=(Xj st1).size - 0) hk hI (by lia) (by lia) fun m st2 sa m1 m2 sg=>?_);have sz2:=sa.size;refine cc (fun Y=>?_) (fun Y=>?_)
    .have Y:m < minRun' (Xj st1).size (Xj st1).size 0:=Y;refine Xm (ab9 (Z5 ⟨rfl,?_⟩));refine Xm (FL O (lo:=0) (n:=min ((Xj st1).size - 0) (minRun' (Xj st1).size (Xj st1).size 0)) (ok:=m) (sa.kind.trans hk) (hI.sa sa) (by lia) (by lia) m1 sg fun st3 sb sg3=>?_);refine cc (fun z=>by cases z) (fun _=>?_);have sa3:=sa.trans sb;have e0:Y8 st3=#[]:=sa3.pend.trans hp;have em:0+min ((Xj st1).size - 0) (minRun' (Xj st1).size (Xj st1).size 0)=(Xj st1).size:=by lia
     rw [em] at sg3;refine Xm (abV ?_);have hb:(Y8 st3).back?=none:=by rw [e0];rfl
     rw [hb];refine Xm (ack (XM (.inr ⟨ac1 (Prod.mk none) em,sa3.failed,sa3.perm,sg3,?_⟩)));show ((Y8 st3).push _).size<=1;rw [e0];exact mK _
    .have Y:¬ (m < minRun' (Xj st1).size (Xj st1).size 0):=Y;have e0:Y8 st2=#[]:=sa.pend.trans hp;have em:0+m=(Xj st1).size:=by lia
     rw [em] at sg;refine Xm (abV ?_);have hb:(Y8 st2).back?=none:=by rw [e0];rfl
     rw [hb];refine Xm (ack (XM (.inr ⟨ac1 (Prod.mk none) em,sa.failed,sa.perm,sg,?_⟩)));show ((Y8 st2).push _).size<=1;rw [e0];exact mK _
  .refine cc (fun L=>XM ⟨rfl,h⟩) (fun L=>?_);have L:¬ ((Xj st).size ≥ (Xj st).size):=L;lia
end
structure TO {α:Type} (lt:α->α->Prop):Prop where
 irr:∀ a,¬ lt a a
 tr:∀ a b c,lt a b->lt b c->lt a c
 tri:∀ a b,lt a b\/a=b\/lt b a
def TO.lex {α β:Type} {l1:α->α->Prop} {l2:β->β->Prop} (h1:TO l1) (h2:TO l2):TO fun x y:α×β=>l1 x.1 y.1\/(x.1=y.1/\l2 x.2 y.2):=by
 refine ⟨fun a h=>?_,fun a b c h g=>?_,fun a b=>?_⟩
 .rcases h with h|⟨_,h⟩
  .exact h1.irr _ h
  .exact h2.irr _ h
 .rcases h with h|⟨e,h⟩ <;> rcases g with g|⟨f,g⟩
  .exact .inl (h1.tr _ _ _ h g)
  .exact .inl (f ▸ h)
  .exact .inl (e ▸ g)
  .exact .inr ⟨e.trans f,h2.tr _ _ _ h g⟩
 .rcases h1.tri a.1 b.1 with h|h|h
  .exact .inl (.inl h)
  .rcases h2.tri a.2 b.2 with g|g|g
   .exact .inl (.inr ⟨h,g⟩)
   .exact .inr (.inl (Prod.ext h g))
   .exact .inr (.inr (.inr ⟨h.symm,g⟩))
  .exact .inr (.inr (.inl h))
def zS:TO (fun a b:Int=>a < b):=⟨fun a=>Int.lt_irrefl a,fun a b c=>Int.lt_trans,fun a b=>by lia⟩
def Fm:TO (fun a b:ac2=>a < b):=⟨fun a=>abL a,fun a b c=>List.lt_trans,fun a b=>by
 by_cases h:a < b
 .exact .inl h
 .by_cases g:b < a
  .exact .inr (.inr g)
  .exact .inr (.inl (List.le_antisymm (List.not_lt.mp g) (List.not_lt.mp h)))⟩
abbrev K4:Type:=Int×Int×List Nat×Int
def qE (x y:K4):Prop:=x.1 < y.1\/(x.1=y.1/\(x.2.1 < y.2.1\/(x.2.1=y.2.1/\(x.2.2.1 < y.2.2.1\/(x.2.2.1=y.2.2.1/\x.2.2.2 < y.2.2.2)))))
def to4:TO qE:=zS.lex (zS.lex (Fm.lex zS))
instance (x y:K4):Decidable (qE x y):=by unfold qE;infer_instance
def Pr (kd:eQ->K4) (x y:YL):Bool:=decide (qE (kd x.1) (kd y.1))
section
variable {prog:Xh} {w:Xv} {A:Xs} {E:ac5} {s:iF} {kd:eQ->K4}
def Li {Q:Bool->iF->Prop} (h:Q (decide (i < j)) s):RW (Xa prog w) A (oneLt' false (.int i t) (.int j u)) Q E s :=
 acL _ _ (lt_int (show acz Q (.bool (decide (i < j))) s from h))
def O0 {x y:Str} (h:x≠y):x.cps.toList≠y.cps.toList:=fun z=>h (by cases x;cases y;congr 1;exact aal.mp z)
def l1 (h:a≠a'):qE (a,k) (a',l) ↔ a < a':=by simp [qE,h]
def l2 (h:b≠b'):qE (a,b,k) (a,b',l) ↔ b < b':=by simp [qE,h]
def l3 (h:m≠n):qE (a,b,m,c) (a,b,n,c') ↔ m < n:=by simp [qE,h]
def l4:qE (a,b,m,c) (a,b,m,c') ↔ c < c':=by simp [qE,abL]
end
section
variable {prog:Xh} {w:Xv} {A:Xs} {E:ac5} {s:iF} {kd:eQ->K4} {a kS:Le} {ks vs:ac8}
def behind (h:YG) (kS a:Le) (out:ac8):YG:=(h.update kS (Xx fun _=>(#[]:Array eQ))).update a (Xx fun _=>out.toArray)
def ES {st:YB} {P:aae->iF->Prop} (na:s.heap.get? a=some (XT "list" #[] e1)) (nk:s.heap.get? kS=some (XT "list" ks.toArray e)) (Y:a≠kS)
  (L:(Xj st).map (·.2)=out.toArray) (hz:out.length<=1000000) (hkz:ks.length<=1000000) (hf:aac st=none) (h:P (.done (.ret .none)) { s with heap:=behind s.heap kS a out }):RW (Xa prog w) A (ksk_tail a false e1 (.ref kS) st) P E s:=by
 have J:(s.heap.update kS (Xx fun _=>(#[]:Array eQ))).get? a=some (XT "list" #[] e1):=((ZG s.heap kS (Xx fun _=>(#[]:Array eQ))).2 a Y).trans na;unfold ksk_tail;try dsimp only
 rw [L];refine bY (Zq nk rfl ?_ (by rw [Do,XJ];omega) (Xk _));refine bY (wpAny_letGo ?_);refine bY (seqEpoch_at J rfl ?_);refine bY (Zq J rfl ?_ (Xk _) (by simp only [Yo,if_false,Do,XJ];omega));rw [hf];simp only [bne_self_eq_false,Yo,if_false];exact oR h
end
end TS
namespace L2
open PySem PySem.Spec PyProof.Rows
open TS (K4 qE)
def vq {α:Type} {a:α} {P:Prop} (h:(none:Option α)=some a):P:=by cases h
def TD:D->Option Int
 | .int n=>some n
 | _=>none
def Ao {d:D} {n:Int} (h:TD d=some n):d=.int n:=by
 cases d with
 | int i=>exact ac1 D.int (Xp h)
 | _=>exact vq (a:=n) h
def S8 (v:D) (n:Int):Option K4:=match v with
 | .non=>some (0,0,[],n)
 | .int i=>some (1,i,[],n)
 | .str z=>some (2,0,z.cps.toList,n)
 | _=>none
def Ww (xs:ada):Option K4:=match xs with
 | [v,w]=>(TD w).bind (S8 v)
 | _=>none
def lZ (d:D):Option K4:=match d with
 | .tup xs=>Ww xs
 | _=>none
def aA (k:K4):D:=if k.1=0 then .tup [.non,.int k.2.2.2] else if k.1=1 then .tup [.int k.2.1,.int k.2.2.2] else .tup [.str ⟨k.2.2.1.toArray⟩,.int k.2.2.2]
def pK {d:D} {k:K4} (h:lZ d=some k):aA k=d:=by
 cases d with
 | tup xs =>
  match xs,h with
  | [],h=>exact vq (a:=k) h
  | [v],h=>exact vq (a:=k) h
  | [v,w],h =>
   have h:(TD w).bind (S8 v)=some k:=h;obtain ⟨n,e1,e2⟩:=Ys.mp h;rw [Ao e1];cases v with
   | non=>cases e2;rfl
   | int i=>cases e2;rfl
   | str z=>cases e2;rfl
   | _=>exact vq (a:=k) e2
  | v::w::u::r,h=>exact vq (a:=k) h
 | _=>exact vq (a:=k) h
def mP (κ:R D->Option K4) (F:ada->R D):ada->Option (List K4)
 | []=>some []
 | d::r=>match lZ d,mP κ F r with
  | some k,some ks=>if κ (F [d])=some k then some (k::ks) else none
  | _,_=>none
def wf {κ:R D->Option K4} {F:ada->R D} (h:mP κ F (d::r)=some l):∃ k ks,l=k::ks/\lZ d=some k/\κ (F [d])=some k/\mP κ F r=some ks:=by
 unfold mP at h;split at h
 .rename_i k ks h1 h2;split at h
  .rename_i h3;cases h;exact ⟨k,ks,rfl,h1,h3,h2⟩
  .cases h
 .cases h
def yS {κ:R D->Option K4} {F:ada->R D}:∀ {xs:ada} {l:List K4},mP κ F xs=some l->∀ d∈xs,∃ k,lZ d=some k/\κ (F [d])=some k
 | [],_,_,_,h=>by cases h
 | d::r,l,h,x,hx=>by
  obtain ⟨k,ks,_,h1,h2,J⟩:=wf h;rcases iN.mp hx with rfl|hx
  .exact ⟨k,h1,h2⟩
  .exact yS J x hx
def A1 (a b:K4):Bool:=!decide (qE b a)
def wN (κ:R D->Option K4) (F:ada->R D) (ds:ada):R D:=match ds with
 | [.lst xs]=>if xs.length<=63 then (match mP κ F xs with
  | some ks=>.ok (.lst ((ks.mergeSort A1).map aA))
  | none=>.no) else .no
 | _=>.no
def sk (F:ada->R D) (d:D):D:=match F [d] with
 | .ok k=>k
 | _=>.non
def A6 {α β:Type} {f:α->β} {l m:List β} (h:l.Perm m):∀ {xs:List α},m=xs.map f->∃ ys:List α,ys.Perm xs/\l=ys.map f:=by
 induction h with
 | nil=>intro xs e;cases xs with
  | nil=>exact ⟨[],.nil,rfl⟩
  | cons _ _=>cases e
 | cons x _ ih=>intro xs e;cases xs with
  | nil=>cases e
  | cons a as =>
   rw [By] at e;obtain ⟨e1,e2⟩:=aa6 e;obtain ⟨ys,h1,h2⟩:=ih e2;exact ⟨a::ys,.cons _ h1,by rw [By,h2,e1]⟩
 | swap x y l=>intro xs e;cases xs with
  | nil=>cases e
  | cons a as=>cases as with
   | nil=>cases e
   | cons b bs =>
    rw [By,By] at e;obtain ⟨e1,e2⟩:=aa6 e;obtain ⟨e3,e4⟩:=aa6 e2;exact ⟨b::a::bs,.swap _ _ _,by rw [By,By,e1,e3,e4]⟩
 | trans _ _ L J =>
  intro xs e;obtain ⟨ys,h1,h2⟩:=J e;obtain ⟨zs,Y,h4⟩:=L h2;exact ⟨zs,Y.trans h1,h4⟩
def Du (m:List K4):(m.mergeSort A1).Pairwise fun x y=>¬ qE y x:=by
 have:=aa7 (le:=A1) (fun a b c h1 h2=>?_) (fun a b=>?_) m
 .exact this.imp fun h=>by unfold A1 at h;simpa using h
 .unfold A1 at h1 h2 ⊢;rw [acj,decide_eq_false_iff_not] at h1 h2 ⊢;intro q;rcases TS.to4.tri a b with z|z|z
  .exact h2 (TS.to4.tr _ _ _ q z)
  .exact h2 (z ▸ q)
  .exact h1 z
 .unfold A1;by_cases h1:qE b a
  .have h2:¬ qE a b:=fun z=>TS.to4.irr _ (TS.to4.tr _ _ _ h1 z);simp [h2]
  .simp [h1]
def FJ {l m:List K4} (h:l.Perm m) (J:l.Pairwise fun x y=>¬ qE y x):l=m.mergeSort A1:=by
 refine aa0 (le:=fun x y=>¬ qE y x) (fun a b _ _ h1 h2=>?_) J ?_ (h.trans (ZH _ _).symm)
 .rcases TS.to4.tri a b with q|q|q
  .exact absurd q h2
  .exact q
  .exact absurd q h1
 .exact Du m
structure It4 where
 k:eQ
 u:eQ
 x:V
 d:D
def IY {K:aT} {H:Hp} {kd:eQ->K4}:∀ {ks us:ac8} {xs:ac9} {ds:ada},br xs us->aJ K H ds xs->Paired (fun k d=>lZ d=some (kd k)) ks ds ->
  ∃ m:List It4,m.map (fun q=>(q.k,q.u))=ks.zip us/\m.map It4.d=ds/\∀ q∈m,ba q.x q.u/\cS K H q.d q.x/\lZ q.d=some (kd q.k)
 | _,_,_,[],r,dn,p=>by
  cases dn;cases r;cases p;exact ⟨[],rfl,rfl,fun q J=>nomatch J⟩
 | _,_,_,d::ds,r,⟨v,vs,e,d1,d2⟩,p=>by
  subst e;cases r with
  | @cons _ u _ us r1 r2 =>
   cases p with
   | @cons k _ ks _ p1 p2 =>
    obtain ⟨m,h1,h2,L⟩:=IY r2 d2 p2;refine ⟨⟨k,u,v,d⟩::m,by rw [By,h1];rfl,by rw [By,h2],fun q J=>?_⟩;rcases iN.mp J with rfl|J
    .exact ⟨r1,d1,p1⟩
    .exact L q J
def wj {K:aT} {H:Hp}:∀ {m:List It4},(∀ q∈m,ba q.x q.u/\cS K H q.d q.x)->br (m.map It4.x) (m.map It4.u)/\aJ K H (m.map It4.d) (m.map It4.x)
 | [],_=>⟨.nil,aJ.nil⟩
 | q::m,h=>by
  obtain ⟨h1,h2⟩:=wj (m:=m) fun z J=>h z (lT _ J);obtain ⟨Y,L⟩:=h q W6;exact ⟨.cons Y h1,aJ.cons L h2⟩
section
variable {X:Cx} {af:ac4} {Z:St} {κ:R D->Option K4} {F:ada->R D} {k:Nat} {f a kS:Le} {fd:Xz} {ps:ac3} {mg:ac6} {E:ac5}
def ND {H:Hp} {Q:VK} {sp:Sp} (G:FnOk X.prog X.w X.K X.mg X.base cQ k f fd ps sp) (hr:Room k X.A.in1.in1) (hb:kg X.K fd ps [])
  (I:Inv X af Z H s) (r:br vs us) (h:sp vs H Q E0):RW (Xa X.prog X.w) X.A.in1.in1 (call (.ref f) us) (EP X af Z Q) E s:=by
 have Y:(us++[]).length=ps.length:=by rw [XY,<- r.length];exact G.len _ _ _ _ h
 have b:=hb s us I.kIn Y;rw [XY] at b;refine wpAny_call (fM I.tk (YW (G.run X.A.in1.in1 X.stack s H ⟨us,[]⟩ us vs Q E0 hr I.env0.in1.in1 b r h) fun r s' J L=>?_));cases r with
 | error e=>exact Yv J
 | ok fl =>
  cases fl with
  | ret u=>exact I.after J
  | next=>exact Yv J
  | brk=>exact Yv J
  | cont=>exact Yv J
def Gv (kS:Le) (H H':Hp):Prop:=∀ b o,b≠kS->H b=some o->H' b=some o
def Gv.masked {H H':Hp} (h:Gv kS H H'):az (aH (kS::as) H) (aH (kS::as) H'):=fun b o e=>by
 by_cases J:b∈kS::as
 .rw [cU J] at e;cases e
 .rw [aO J] at e ⊢;exact h b o (fun z=>J (z ▸ W6)) e
def Gv.upd {H:Hp}:Gv kS H (upd H kS o):=fun b u J e=>by rw [aM J];exact e
theorem Gv.trans {H H1 H2:Hp} (h:Gv kS H H1) (g:Gv kS H1 H2):Gv kS H H2:=fun b o J e=>g b o J (h b o J e)
def Va (X:Cx) (af:ac4) (Z:St) (kS:Le) (as:ac7) (H:Hp) (ks:ada) (s':iF):Prop :=
 ∃ H' kvs,Inv X af Z H' s'/\Gv kS H H'/\H' kS=some (.lst kvs)/\aJ X.K (aH (kS::as) H') ks kvs
def Hk {H:Hp} {P:aae->iF->Prop}
  (G:FnOk X.prog X.w X.K X.mg X.base cQ k f fd ps (dQ X.K mg F)) (hr:Room k X.A.in1.in1) (Y:kg X.K fd ps []) (I:Inv X af Z H s) (hk:H kS=some (.lst [])) (has:∀ b∈as,H b≠none) (hks:kS∉as)
  (r:br xs us) (dn:aJ X.K (aH (kS::as) H) ds xs) (hv:∀ r k,κ r=some k->∃ d,r=.ok d) (hl:mP κ F ds=some l) (hz:ds.length<=63)
  (h:∀ H' kvs its n s',Inv X af Z H' s'->Gv kS H H'->H' kS=some (.lst kvs)->aJ X.K (aH (kS::as) H') (ds.map (sk F)) kvs->br kvs its->s'.heap.get? kS=some (XT "list" its.toArray n) ->
   RW (Xa X.prog X.w) X.A.in1.in1 (abW a false us.toArray e1 (.ref kS) its.toArray) P E s') :
  RW (Xa X.prog X.w) X.A.in1.in1 (ksk_rest a (.ref f) false us.toArray e1 (.ref kS)) P E s:=by
 have hlen:ds.length=us.length:=dn.len.trans r.length;unfold ksk_rest;refine bY (Z5 ?_);rw [List.forIn_toArray];refine bY (ksk_fold (fun j s'=>Va X af Z kS as H ((ds.map (sk F)).take j) s') us 0 s ⟨H,[],I,fun b o _ e=>e,hk,by rw [abI];exact aJ.nil⟩ (fun j x s' hx hI=>?_) fun s' hd=>?_)
 .obtain ⟨H1,kvs,I1,b1,k1,d1⟩:=hI;rw [abn] at d1 ⊢;have hj:j < us.length:=by
   have:=Xu.mp hx
   exact this.1
  have hjx:j < xs.length:=by rw [r.length];exact hj
  obtain ⟨u,hu,ru⟩:=r.get (i:=j) (rW hjx);rw [hx] at hu;cases hu;obtain ⟨d,hd,dd⟩:=dn.got (i:=j) (rW hjx);obtain ⟨kk,q1,q2⟩:=yS hl d (Yx hd);obtain ⟨kk',q3⟩:=hv _ _ q2;have ekd:sk F d=kk':=by unfold sk;rw [q3]
  have hkl:kvs.length<=j:=by rw [<- d1.len,XH];omega
  refine bY (Zc (XC (ND (us:=[x]) (vs:=[xs[j]]) (Q:=fun v H2=>az H1 H2/\cS X.K (aH (kS::as) H2) (sk F d) v) (E:=fun _ _=>False) G hr Y I1 (.cons ru .nil) ⟨kS::as,[d],fun b Y=>?_,aJ.cons (dd.mono b1.masked) aJ.nil,?_⟩) (fun u s2 hq=>?_) fun _ _ hF=>hF.elim))
  .rcases iN.mp Y with rfl|Y
   .rw [k1];simp
   .cases e:H b with
    | none=>exact absurd e (has b Y)
    | some o=>rw [b1 b o (fun z=>hks (z ▸ Y)) e];simp
  .rw [q3];exact fun v H' s dv=>⟨s,by rw [ekd];exact dv⟩
  .obtain ⟨v,H2,I2,rv,L,dv⟩:=hq;have k2:=L _ _ k1;obtain ⟨z2,its,n,ri,J,e2⟩:=I2.lstM k2;try dsimp only
   refine bY (Zq e2 rfl ?_ (by rw [Do,<- J,XJ];omega) (IF (aco (Array.size_push ..)) (by rw [Do,<- J,XJ];omega)));refine oR ⟨rfl,?_⟩;have I3:=I2.lset (its':=its++[u]) (f:=(·.push u)) (t':=s2.toks) k2 e2 (by simp) (ri.append (.cons rv .nil)) (by rw [BY,XF,XJ];omega) (by walk_at "tok");refine ⟨_,_,I3,(b1.trans fun b o _ e=>L b o e).trans Gv.upd,aS,?_⟩;have e:(ds.map (sk F)).take (j+1)=(ds.map (sk F)).take j++[sk F d]:=by
    rw [List.take_add_one,Xw,hd];rfl
   rw [e];refine ((d1.mono (aW L)).append (aJ.cons dv aJ.nil)).mono (Gv.upd (kS:=kS) (H:=H2)).masked
 .obtain ⟨H1,kvs,I1,b1,k1,d1⟩:=hd;have e:(ds.map (sk F)).take (0+us.length)=ds.map (sk F):=by rw [abn];exact Zh (by rw [lE,hlen];exact mK _)
  rw [e] at d1;obtain ⟨z2,its,n,ri,J,e2⟩:=I1.lstM k1;refine bY (listItems_at e2 rfl ?_);exact h H1 kvs its n s' I1 b1 k1 d1 ri e2
end
end L2
namespace TS
open PySem PyProof.Rows PySem.SeqAt
section
variable {prog:Xh} {w:Xv} {A:Xs} {E:ac5} {s:iF} {kd:eQ->K4} {a kS:Le} {ks vs:ac8}
def zz (L:aam s.heap p xs) (hq:aam s.heap q ys) (Y:LT.Lx A.in1 s xs.toList ys.toList l) (J:A.units < ZM) {Q:Bool->iF->Prop} (h:Q l s):RW (Xa prog w) A (oneLt' false (.ref p) (.ref q)) Q E s :=
 acL _ _ (LT.LtAt.tup L hq Y J prog w E _ (show acz Q (.bool l) s from h))
def AF (hp:aam s.heap p #[x,y]) (hq:aam s.heap q #[x',y']) (Y:A.units < ZM) (h1:EqAt A.in1 s x x' e1) (h2:EqAt A.in1 s y y' e2) (hs:p=q->(e1&&e2)=true):EqAt A s (.ref p) (.ref q) (e1&&e2):=by
 by_cases J:p=q
 .rw [hs J,J];exact EqAt.same _
 .have:=RcAt.tuples (e:=fun j=>if j=0 then e1 else e2) hp hq Y fun j L g2=>by
   match j,L,g2 with
   | 0,_,_=>exact h1
   | 1,_,_=>exact h2
   | j+2,L,_=>exact absurd L (by simp)
  refine EqAt.of_refs J ?_;have e:((YN (min (#[x,y]:Array eQ).size (#[x',y']:Array eQ).size)).all (fun j=>if j=0 then e1 else e2)&&(#[x,y]:Array eQ).size==(#[x',y']:Array eQ).size)=(e1&&e2):=by
   cases e1 <;> cases e2 <;> rfl
  rw [e] at this;exact this
def Key2 (s:iF) (kd:eQ->K4) (v:eQ):Prop:=∃ p q a t y c u,v=.ref p/\aam s.heap p #[.ref q,.int c u]/\aam s.heap q #[.int a t,y] /\
 ((∃ b r,y=.int b r/\a≠2/\kd v=(a,b,[],c))\/∃ z r,y=.str z r/\a=2/\kd v=(2,0,z.cps.toList,c))
def In2 (s:iF) (kd:eQ->K4) (x:YL):Prop:=Key2 s kd x.1
def tP (h:aam s.heap p xs) (g:aam s.heap p ys):xs=ys:=by
 obtain ⟨o,e1,_,n,e2⟩:=h;obtain ⟨o',f1,_,m,f2⟩:=g;rw [e1] at f1;cases f1;rw [e2] at f2;cases f2;rfl
def LG {st:YB} {Q:Option Bool->YB->Prop} (Y:x.1=.ref p) (hy:y.1=.ref p') (h1:aam s.heap p #[.ref q,.int c u]) (h2:aam s.heap p' #[.ref q',.int c' u'])
  (he:EqAt A s (.ref q) (.ref q') e) (hl:e=false->∀ (Q:Bool->iF->Prop),Q l s->RW (Xa prog w) A (oneLt' false (.ref q) (.ref q')) Q (fun _ _=>False) s) (hk:kindOf st=tuples' false)
  (hq:Q (some (if e=true then decide (c < c') else l)) st):wpS (Xa prog w) A E s (lt' x y) Q st:=by
 obtain ⟨o,e1,_,n,e2⟩:=h1;obtain ⟨o',f1,_,m,f2⟩:=h2;rw [lt'_eq];refine Xm (abV ?_);rw [hk,Y,hy];have fin:∀ r:Bool,r=(if e=true then decide (c < c') else l)->(fun v s'=>s'=s/\(fun (u:Except eQ Bool) (J:YB)=>wpS (Xa prog w) A E s (match u with|.ok b=>pure (some b)|.error e=>do modify (fun s=>abA (kindOf s) (Xj s) (Y8 s) (gallopOf s) (some e));pure none) Q J) v st) (.ok r) s:=fun r L=>⟨rfl,by rw [L];exact XM hq⟩
 refine Xm (ab9 (Zc (PySem.W.kat_lt e1 e2 f1 f2 ?_)));refine acA (he prog w _ _ (acP (fun z=>acM ?_) fun z=>acQ (hl z _ (fin _ (by rw [z];rfl)))));refine acA (wpAny_eqBool_int (acP (fun q4=>acM ?_) fun q4=>acQ (Li (fin _ (by rw [acW z])))));refine PySem.W.kat_nil (fin _ ?_);have q4:c=c':=by simpa using q4
 rw [acW z,q4,acY (Int.lt_irrefl c')];rfl
def Vq (hu:A.units+2 < ZM):Orc (Xa prog w) A E s (Pr kd) (tuples' false) (In2 s kd):=by
 refine ⟨fun x y h=>?_,fun x y z h g=>?_,fun x y st Q hx hy hk hq=>?_⟩
 .have h:=ac0 h;exact acY fun g=>to4.irr _ (to4.tr _ _ _ h g)
 .have h:=of_decide_eq_false h;have g:=of_decide_eq_false g;refine acY fun e=>?_;rcases to4.tri (kd y.1) (kd x.1) with q|q|q
  .exact h q
  .exact g (q ▸ e)
  .exact g (to4.tr _ _ _ e q)
 .obtain ⟨p,q,a,t,yy,c,u,e1,e2,e3,e4⟩:=hx;obtain ⟨p',q',L,t',yy',c',u',f1,f2,f3,f4⟩:=hy;have J:A.units < ZM:=by omega
  have hb:Pr kd x y=decide (qE (kd x.1) (kd y.1)):=rfl;rw [hb] at hq;have Y:EqAt A.in1 s (.int a t) (.int L t') (a==L):=EqAt.int_int _ _ _ _;rcases e4 with ⟨b,r,rfl,a2,e5⟩|⟨z,r,rfl,a2,e5⟩ <;> rcases f4 with ⟨b',r',rfl,a2',f5⟩|⟨z',r',rfl,a2',f5⟩
  .rw [e5,f5] at hq;have hs:q=q'->((a==L)&&(b==b'))=true:=fun z=>by
    have:=tP e3 (z ▸ f3)
    simp at this;simp [this.1.1,this.2.1]
   refine LG (l:=if a=L then decide (b < b') else decide (a < L)) e1 f1 e2 f2 (AF e3 f3 J Y (EqAt.int_int _ _ _ _) hs) (fun z Q h=>zz e3 f3 ?_ J h) hk ?_
   .by_cases h1:a=L
    .subst h1;rw [acW rfl];refine .eq (by have:=Y;rwa [beq_self_eq_true] at this) (.ne ?_ (LT.LtAt.int _ _ _ _));have e:(b==b')=false:=by rw [beq_self_eq_true,Bool.true_and] at z;exact z
     rw [<- e];exact EqAt.int_int _ _ _ _
    .rw [acX h1];exact .ne (by rw [<- beq_eq_false_iff_ne.mpr h1];exact Y) (LT.LtAt.int _ _ _ _)
   .have e:(if ((a==L)&&(b==b'))=true then decide (c < c') else if a=L then decide (b < b') else decide (a < L))=decide (qE (a,b,[],c) (L,b',[],c')):=by
     by_cases h1:a=L
     .subst h1;by_cases h2:b=b'
      .subst h2;rw [acW (by simp)];exact decide_eq_decide.mpr l4.symm
      .rw [acX (by simp [h2]),acW rfl];exact decide_eq_decide.mpr (l2 h2).symm
     .rw [acX (by simp [h1]),acX h1];exact decide_eq_decide.mpr (l1 h1).symm
    rw [e];exact hq
  .rw [e5,f5] at hq;subst a2';have h1:¬ a=2:=a2;have hs:q=q'->((a==2)&&false)=true:=fun z=>by
    have:=tP e3 (z ▸ f3)
    simp at this
   refine LG (l:=decide (a < 2)) e1 f1 e2 f2 (AF e3 f3 J Y (EqAt.int_str _ _ _ _) hs) (fun z Q h=>zz e3 f3 (.ne (by rw [<- beq_eq_false_iff_ne.mpr h1];exact Y) (LT.LtAt.int _ _ _ _)) J h) hk ?_;have e:(if ((a==2)&&false)=true then decide (c < c') else decide (a < 2))=decide (qE (a,b,[],c) (2,0,z'.cps.toList,c')):=by
    rw [acX (by simp)];exact decide_eq_decide.mpr (l1 h1).symm
   rw [e];exact hq
  .rw [e5,f5] at hq;subst a2;have h1:¬ (2:Int)=L:=fun z=>a2' z.symm;have hs:q=q'->(((2:Int)==L)&&false)=true:=fun z=>by
    have:=tP e3 (z ▸ f3)
    simp at this
   refine LG (l:=decide ((2:Int) < L)) e1 f1 e2 f2 (AF e3 f3 J Y (EqAt.str_int _ _ _ _) hs) (fun z Q h=>zz e3 f3 (.ne (by rw [<- beq_eq_false_iff_ne.mpr h1];exact Y) (LT.LtAt.int _ _ _ _)) J h) hk ?_;have e:(if (((2:Int)==L)&&false)=true then decide (c < c') else decide ((2:Int) < L))=decide (qE (2,0,z.cps.toList,c) (L,b',[],c')):=by
    rw [acX (by simp)];exact decide_eq_decide.mpr (l1 h1).symm
   rw [e];exact hq
  .rw [e5,f5] at hq;subst a2 a2';have hs:q=q'->(((2:Int)==2)&&(z==z'))=true:=fun w=>by
    have:=tP e3 (w ▸ f3)
    simp at this;simp [this.2.1]
   refine LG (l:=decide (z.cps.toList < z'.cps.toList)) e1 f1 e2 f2 (AF e3 f3 J Y (EqAt.str_str _ _ _ _) hs) (fun w Q h=>zz e3 f3 ?_ J h) hk ?_
   .refine .eq (by have:=Y;rwa [beq_self_eq_true] at this) (.ne ?_ (LT.LtAt.str _ _ _ _));have e:(z==z')=false:=by rw [beq_self_eq_true,Bool.true_and] at w;exact w
    rw [<- e];exact EqAt.str_str _ _ _ _
   .have e:(if (((2:Int)==2)&&(z==z'))=true then decide (c < c') else decide (z.cps.toList < z'.cps.toList))=decide (qE (2,0,z.cps.toList,c) (2,0,z'.cps.toList,c')):=by
     by_cases h2:z=z'
     .subst h2;rw [acW (by simp)];exact decide_eq_decide.mpr l4.symm
     .rw [acX (by simp [h2])];exact decide_eq_decide.mpr (l3 (O0 h2)).symm
    rw [e];exact hq
end
section
variable {prog:Xh} {w:Xv} {A:Xs} {E:ac5} {s:iF} {kd:eQ->K4} {a kS:Le} {ks vs:ac8}
def EB:∀ {ks:ac8},(∀ k∈ks,Key2 s kd k)->∃ fs,PySem.W.KatTups s.heap ks fs/\fs.length=ks.length/\∀ v∈fs,∃ q xs,v=Xr q/\aam s.heap q xs
 | [],_=>⟨[],PySem.W.KatTups.nil,rfl,fun v J=>nomatch J⟩
 | k::r,h=>by
  obtain ⟨p,q,a,t,y,c,u,rfl,⟨o,e1,e2,n,e3⟩,h2,_⟩:=h k (by simp);obtain ⟨fs,f1,f2,f3⟩:=EB (ks:=r) fun x L=>h x (lT _ L);refine ⟨.ref q::fs,PySem.W.KatTups.cons e1 e2 e3 rfl f1,by simp [f2],fun v J=>?_⟩;rcases iN.mp J with rfl|J
  .exact ⟨q,_,rfl,h2⟩
  .exact f3 v J
def L9 {P:aae->iF->Prop} (hu:A.units+2 < ZM) (hl:ks.length=vs.length) (h2:2<=vs.length) (hz:vs.length<=63) (na:s.heap.get? a=some (XT "list" #[] e1)) (nk:s.heap.get? kS=some (XT "list" ks.toArray e)) (hne:a≠kS) (L:∀ k∈ks,Key2 s kd k)
  (h:∀ ps:List YL,ps.Perm (ks.zip vs)->ps.Pairwise (fun x y=>¬ qE (kd y.1) (kd x.1))->P (.done (.ret .none)) { s with heap:=behind s.heap kS a (ps.map (·.2)) }) :
  RW (Xa prog w) A (abW a false vs.toArray e1 (.ref kS) ks.toArray) P E s:=by
 obtain ⟨fs,f1,f2,f3⟩:=EB L;have Y:¬ vs.toArray.size < 2:=by rw [Do];omega
 unfold abW;try dsimp only
 rw [acX nE,acX Y,acX Y];refine bY (PySem.W.kat_kind (T:=.type "tuple") f1 (by omega) (fun v hv=>?_) (by trivial) ?_)
 .obtain ⟨x,xs,rfl,⟨o,g1,g2,_⟩⟩:=f3 v hv;exact g2 ▸ (PySem.W.Looks.ld g1).andThen .now
 rw [acX nE];have zl:(ks.toArray.zip vs.toArray).toList=ks.zip vs:=by simp
 have zs:(ks.toArray.zip vs.toArray).size=vs.length:=by rw [<- X8,zl,aay];omega
 have ek:tuples' ((aar "tuple") != aar "tuple")=tuples' false:=by rfl
 rw [ek];refine bY (XC (xg (Vq (kd:=kd) hu) (st:=abA (tuples' false) (ks.toArray.zip vs.toArray) #[] 7 none)
  (Q:=fun _ J=>(Xj J).Perm (ks.toArray.zip vs.toArray)/\aac J=none/\SegG (Pr kd) (Xj J) 0 (ks.toArray.zip vs.toArray).size) rfl (fun x hx=>?_) rfl rfl (by show 2<=(ks.toArray.zip vs.toArray).size;omega) (by show (ks.toArray.zip vs.toArray).size<=63;omega) fun J a1 a2 a3=>⟨a1,a2,a3⟩) ?_ fun _ _ z=>z)
 .have hx:x∈ks.zip vs:=by rw [<- zl];exact hx
  exact L x.1 (XA hx).1
 rintro ⟨⟨⟩,J⟩ s' ⟨rfl,hp,hf,hs⟩;have hpl:(Xj J).toList.Perm (ks.zip vs):=by rw [<- zl];exact Zt.mp hp
 refine ES (out:=(Xj J).toList.map (·.2)) na nk hne (by apply aal.mp;rw [abc]) (by rw [lE,hpl.length_eq,aay];omega) (by omega) hf (h _ hpl ?_);rw [aaP];intro i j hi hj hij;rw [X8] at hi hj
 have:=hs i j (by omega) (by omega) (by rw [<- hp.size_eq];exact hj)
 rw [Gd hi,Gd hj] at this;simpa using of_decide_eq_false this
end
end TS
namespace TS
open PySem PyProof.Rows
section
variable {prog:Xh} {w:Xv} {A:Xs} {E:ac5} {s:iF} {kd:eQ->K4} {a kS:Le} {ks vs:ac8}
def Nm {P:aae->iF->Prop} (hl:ks.length=vs.length) (h2:vs.length < 2) (na:s.heap.get? a=some (XT "list" #[] e1)) (nk:s.heap.get? kS=some (XT "list" ks.toArray e)) (Y:a≠kS)
  (h:∀ ps:List YL,ps.Perm (ks.zip vs)->ps.Pairwise (fun x y=>¬ qE (kd y.1) (kd x.1))->P (.done (.ret .none)) { s with heap:=behind s.heap kS a (ps.map (·.2)) }) :
  RW (Xa prog w) A (abW a false vs.toArray e1 (.ref kS) ks.toArray) P E s:=by
 have L:vs.toArray.size < 2:=by rw [Do];omega
 unfold abW;try dsimp only
 rw [acX nE,acW L,acW L];refine bY (oR ?_);rw [acX nE];have zl:(ks.toArray.zip vs.toArray).toList=ks.zip vs:=by simp
 have J:(ks.zip vs).length < 2:=by rw [aay];omega
 refine bY (oR ?_);refine ES (st:=abA general' (ks.toArray.zip vs.toArray) #[] 7 none) (out:=(ks.zip vs).map (·.2)) na nk Y ?_ (by rw [lE];omega) (by omega) rfl (h _ (List.Perm.refl _) ?_)
 .show (ks.toArray.zip vs.toArray).map (·.2)=_;apply aal.mp
  rw [abc,zl]
 .match hq:ks.zip vs with
  | []=>exact Z1
  | [x]=>exact Zb _ _
  | x::y::r=>rw [hq] at J;simp at J;omega
end
end TS
namespace L2
open PySem PySem.Spec PyProof.Rows
open TS (K4 qE)
section
variable {X:Cx} {af:ac4} {Z:St} {F:ada->R D} {k:Nat} {f a kS:Le} {fd:Xz} {ps:ac3} {mg:ac6} {E:ac5}
structure KF (κ:R D->Option K4) where
 kd:YG->eQ->K4
 At:iF->eQ->Prop
 val:∀ r k,κ r=some k->∃ d,r=.ok d
 laid:∀ {X:Cx} {af:ac4} {Z:St} {H Hm:Hp} {s:iF} {d:D} {k:K4} {v:V} {u:eQ},Inv X af Z H s->az Hm H->κ (.ok d)=some k->cS X.K Hm d v->ba v u->At s u/\kd s.heap u=k
 fin:∀ {prog:Xh} {w:Xv} {A:Xs} {E:ac5} {s:iF} {a kS:Le} {ks vs:ac8} {e e1:Nat} {P:aae->iF->Prop},A.units+2 < ZM->ks.length=vs.length->2<=vs.length->vs.length<=63->s.heap.get? a=some (XT "list" #[] e1)->s.heap.get? kS=some (XT "list" ks.toArray e)->a≠kS->(∀ k∈ks,At s k) ->
  (∀ ps:List YL,ps.Perm (ks.zip vs)->ps.Pairwise (fun x y=>¬ qE (kd s.heap y.1) (kd s.heap x.1))->P (.done (.ret .none)) { s with heap:=TS.behind s.heap kS a (ps.map (·.2)) }) ->
  RW (Xa prog w) A (abW a false vs.toArray e1 (.ref kS) ks.toArray) P E s
def R6 (xs:ada):Option (D×D):=match xs with
 | [x,y]=>some (x,y)
 | _=>none
def Kj (d:D):Option (D×D):=match d with
 | .tup xs=>R6 xs
 | _=>none
def LZ (h:R6 xs=some p):xs=[p.1,p.2]:=by
 match xs,h with
 | [],h=>exact vq h
 | [x],h=>exact vq h
 | [x,y],h=>cases h;rfl
 | x::y::z::r,h=>exact vq h
def yp (h:Kj d=some p):d=.tup [p.1,p.2]:=by
 cases d with
 | tup xs=>exact ac1 D.tup (LZ h)
 | _=>exact vq (a:=p) h
def Te (a c:Int) (y:D):Option K4:=match y with
 | .int b=>if a=2 then none else some (a,b,[],c)
 | .str z=>if a=2 then some (2,0,z.cps.toList,c) else none
 | _=>none
def keyN (r:R D):Option K4:=match r with
 | .ok d=>(Kj d).bind fun p=>(TD p.2).bind fun c=>(Kj p.1).bind fun q=>(TD q.1).bind fun a=>Te a c q.2
 | _=>none
def Ck {r:R D} {k:K4} (h:keyN r=some k):∃ a y c,r=.ok (.tup [.tup [.int a,y],.int c])/\Te a c y=some k:=by
 cases r with
 | ok d =>
  obtain ⟨p,e1,h⟩:=Ys.mp h;obtain ⟨c,e2,h⟩:=Ys.mp h;obtain ⟨q,e3,h⟩:=Ys.mp h;obtain ⟨a,e4,h⟩:=Ys.mp h;exact ⟨a,q.2,c,by rw [yp e1,Ao e2,yp e3,Ao e4],h⟩
 | _=>exact vq (a:=k) h
def EJ (h:YG) (v:eQ):ac8:=match v with
 | .ref p=>(match h.get? p with
  | some o=>(match o.data with
   | .seq xs _=>xs.toList
   | _=>[])
  | none=>[])
 | _=>[]
def BJ (t:aam h p xs):EJ h (.ref p)=xs.toList:=by
 obtain ⟨o,e1,_,n,e2⟩:=t;unfold EJ;dsimp only;rw [e1];dsimp only;rw [e2]
def TX (xs:ac8) (c:Int):K4:=match xs with
 | [.int a _,.int b _]=>(a,b,[],c)
 | [_,.str z _]=>(2,0,z.cps.toList,c)
 | _=>(0,0,[],0)
def UH (h:YG) (v:eQ):K4:=match EJ h v with
 | [x,.int c _]=>TX (EJ h x) c
 | _=>(0,0,[],0)
def kfN:KF keyN where
 kd:=UH
 At:=fun s v=>TS.Key2 s (UH s.heap) v
 val:=fun r k h=>by
  obtain ⟨a,y,c,e,_⟩:=Ck h;exact ⟨_,e⟩
 laid:=fun {X af Z H Hm s d k v u} I hm h dn ru=>by
  obtain ⟨a,y,c,q3,q4⟩:=Ck h;cases q3;obtain ⟨p,ys,rfl,hq,dy⟩:=dn;cases ru;obtain ⟨its,ri,L,_⟩:=I.tuple (hm.seqT hq);obtain ⟨v1,vs1,rfl,d1,v2,vs2,rfl,d2,rfl⟩:=dy;cases d2;obtain ⟨q,zs,rfl,J,dz⟩:=d1;obtain ⟨its2,ri2,t2,_⟩:=I.tuple (hm.seqT J);obtain ⟨w1,ws1,rfl,g1,w2,ws2,rfl,g2,rfl⟩:=dz;cases g1;cases ri with
  | cons r1 rr =>
   cases r1;cases rr with
   | cons r2 rr2 =>
    obtain ⟨tc,rfl⟩:=r2;cases rr2;cases ri2 with
    | cons r3 rr3 =>
     obtain ⟨ta,rfl⟩:=r3;cases rr3 with
     | cons r4 rr4 =>
      cases rr4;have ek:∀ yv,yv=_->UH s.heap (.ref p)=TX [.int a ta,yv] c:=fun yv hy=>by
       unfold UH;rw [BJ L];dsimp only;rw [BJ t2,hy]
      cases y with
      | int b =>
       cases g2;obtain ⟨tb,rfl⟩:=r4;have e:=ek _ rfl;have q4:(if a=2 then none else some (a,b,[],c))=some k:=q4;by_cases h2:a=2
       .rw [acW h2] at q4;cases q4
       .rw [acX h2] at q4;cases q4;exact ⟨⟨p,q,a,ta,_,c,tc,rfl,L,t2,.inl ⟨b,tb,rfl,h2,e⟩⟩,e⟩
      | str z =>
       cases g2;obtain ⟨tb,rfl⟩:=r4;have e:=ek _ rfl;have q4:(if a=2 then some (2,0,z.cps.toList,c) else none)=some k:=q4;by_cases h2:a=2
       .rw [acW h2] at q4;cases q4;exact ⟨⟨p,q,a,ta,_,c,tc,rfl,L,t2,.inr ⟨z,tb,rfl,h2,e⟩⟩,e⟩
       .rw [acX h2] at q4;cases q4
      | _=>exact vq (a:=k) q4
 fin:=fun hu hl h2 hz na nk Y hk h=>TS.L9 hu hl h2 hz na nk Y hk h
def KF.finA {κ:R D->Option K4} (C:KF κ) {prog:Xh} {w:Xv} {A:Xs} {E:ac5} {s:iF} {a kS:Le} {ks vs:ac8} {e e1:Nat} {P:aae->iF->Prop} (hu:A.units+2 < ZM) (L:ks.length=vs.length) (hz:vs.length<=63)
  (Y:s.heap.get? a=some (XT "list" #[] e1)) (nk:s.heap.get? kS=some (XT "list" ks.toArray e)) (J:a≠kS) (hk:∀ k∈ks,C.At s k)
  (h:∀ ps:List YL,ps.Perm (ks.zip vs)->ps.Pairwise (fun x y=>¬ qE (C.kd s.heap y.1) (C.kd s.heap x.1))->P (.done (.ret .none)) { s with heap:=TS.behind s.heap kS a (ps.map (·.2)) }) :
  RW (Xa prog w) A (abW a false vs.toArray e1 (.ref kS) ks.toArray) P E s:=by
 by_cases h2:vs.length < 2
 .exact TS.Nm (kd:=C.kd s.heap) L h2 Y nk J h
 .exact C.fin hu L (by omega) hz Y nk J hk h
def Oi {κ:R D->Option K4} (C:KF κ) {H Y:Hp} (I:Inv X af Z H s) (hm:az Y H):∀ {ds:ada} {kvs:ac9} {its:ac8} {l:List K4},aJ X.K Y (ds.map (sk F)) kvs->br kvs its->mP κ F ds=some l ->
  (∀ v∈its,C.At s v)/\Paired (fun v d=>lZ d=some (C.kd s.heap v)) its ds/\its.map (C.kd s.heap)=l
 | [],_,_,_,dn,r,h=>by cases dn;cases r;cases h;exact ⟨fun v J=>(nomatch J),.nil,rfl⟩
 | d::ds,_,_,_,⟨v,vs,e,d1,d2⟩,r,h=>by
  subst e;obtain ⟨q,qs,rfl,h1,h2,h3⟩:=wf h;cases r with
  | @cons _ u _ us r1 r2 =>
   obtain ⟨i1,i2,i3⟩:=Oi C I hm d2 r2 h3;obtain ⟨kk,q3⟩:=C.val _ _ h2;have L:sk F d=kk:=by unfold sk;rw [q3]
   rw [L] at d1;rw [q3] at h2;obtain ⟨a1,a2⟩:=C.laid I hm h2 d1 r1;refine ⟨fun v J=>?_,.cons (by rw [h1,a2]) i2,by rw [By,i3,a2]⟩;rcases iN.mp J with rfl|J
   .exact a1
   .exact i1 v J
def GD {κ:R D->Option K4} (C:KF κ) {H0 H H':Hp} {s':iF} {as:ac7} {us its:ac8} {xs kvs:ac9} {ds:ada} {l:List K4} {e1 n:Nat} {P:aae->iF->Prop} {oa:Obj}
  (I:Inv X (af++[(a,XT "list" #[] e1)]) Z H' s') (fa:ib X af H' a) (h0:az H0 H) (h0k:H0 kS=none) (h0a:H0 a=none) (b:Gv kS H H') (hk:H' kS=some (.lst kvs)) (dk:aJ X.K (aH (kS::as) H') (ds.map (sk F)) kvs) (rk:br kvs its)
  (ek:s'.heap.get? kS=some (XT "list" its.toArray n)) (has:a∉as) (hks:kS∉as) (hne:a≠kS)
  (r:br xs us) (dn:aJ X.K (aH (kS::as) H) ds xs) (hl:mP κ F ds=some l) (hu:X.A.in1.in1.units+2 < ZM) (hz:ds.length<=63) (hbase:X.s₀.heap.get? a=none)
  (h:∀ Y s'' outV,Inv X af Z Y s''->az H0 Y->Y a=some (.lst outV)->aJ X.K (aH (a::as) Y) ((l.mergeSort A1).map aA) outV->P (.done (.ret .none)) s'') :
  RW (Xa X.prog X.w) X.A.in1.in1 (abW a false us.toArray e1 (.ref kS) its.toArray) P E s':=by
 have pa:=I.pin (a,XT "list" #[] e1) (by simp);have hlu:ds.length=us.length:=dn.len.trans r.length;have hlk:its.length=us.length:=by rw [<- rk.length,<- dk.len,lE,hlu]
 obtain ⟨k1,k2,k3⟩:=Oi C I (ax _ _) dk rk hl;refine C.finA hu hlk (by omega) pa.1 ek hne k1 fun qs hp hs=>?_;obtain ⟨m,m1,m2,m3⟩:=IY r (dn.mono b.masked) k2;rw [<- m1] at hp;obtain ⟨J,p1,p2⟩:=A6 hp rfl;subst p2;have m3':∀ q∈J,ba q.x q.u/\cS X.K (aH (kS::as) H') q.d q.x/\lZ q.d=some (C.kd s'.heap q.k):=fun q hq=>m3 q (p1.mem_iff.mp hq);obtain ⟨v1,v2⟩:=wj (m:=J) fun q hq=>⟨(m3' q hq).1,(m3' q hq).2.1⟩;have eo:(J.map fun q=>(q.k,q.u)).map (·.2)=J.map It4.u:=by rw [XU];rfl
 rw [eo];have ed:J.map It4.d=(l.mergeSort A1).map aA:=by
  have e1:J.map It4.d=(J.map fun q=>C.kd s'.heap q.k).map aA:=by
   rw [XU];exact Yh fun q hq=>(pK (m3' q hq).2.2).symm
  have e2:J.map (fun q=>C.kd s'.heap q.k)=l.mergeSort A1:=by
   refine FJ ?_ ?_
   .have e3:m.map (fun q=>C.kd s'.heap q.k)=l:=by
     rw [<- k3]
     have:m.map (fun q=>q.k)=its:=by
      have:=ac1 (List.map Xo) m1
      rw [XU,List.map_fst_zip (by omega)] at this;exact this
     rw [<- this,XU];rfl
    rw [<- e3];exact p1.map _
   .rw [Z2] at hs ⊢;exact hs
  rw [e1,e2]
 rw [ed] at v2;have hol:(J.map It4.x).length<=Xd:=by
  rw [v1.length,lE,p1.length_eq,<- lE (as:=m) (f:=It4.d),m2,XJ];omega
 have I1:=I.lset (its':=[]) (ys:=[]) (f:=fun _=>(#[]:Array eQ)) (t':=s'.toks) hk ek rfl .nil (Xk _) (by walk_at "tok");have I2:Inv X af Z (upd H' kS (.lst [])) { s' with heap:=s'.heap.update kS (Xx fun _=>(#[]:Array eQ)) }:=I1.unpinned;obtain ⟨f0,f1,f2,f3,f4,f5⟩:=fa;have f0':upd H' kS (.lst []) a=none:=by rw [aM hne];exact f0
 have na:(s'.heap.update kS (Xx fun _=>(#[]:Array eQ))).get? a=some (XT "list" #[] e1):=((ZG s'.heap kS (Xx fun _=>(#[]:Array eQ))).2 a hne).trans pa.1;have I3:=I2.turned (t':=s'.toks) (h':=(s'.heap.update kS (Xx fun _=>(#[]:Array eQ))).update a (Xx fun _=>(J.map It4.u).toArray)) (it:=a) (fun L u hb hu=>(Yd _ _ (YU hb)).trans hu) f0' f1 f3 f4 f5 (by walk_at "tok");have I4:=I3.track (y:=a) (o:=.lst (J.map It4.x)) ⟨hbase,f1,f2,f4,f5⟩ f0' ⟨hol,_,_,v1,acw na _⟩;refine h _ _ (J.map It4.x) I4 (fun L o e=>?_) aS (v2.mono fun L o e=>?_)
 .have n1:L≠a:=fun z=>by rw [z,h0a] at e;cases e
  have n2:L≠kS:=fun z=>by rw [z,h0k] at e;cases e
  rw [aM n1,aM n2];exact b L o n2 (h0 L o e)
 .by_cases hb:L∈kS::as
  .rw [cU hb] at e;cases e
  .rw [aO hb] at e;have n1:L≠a:=fun z=>by rw [z,f0] at e;cases e
   have n2:L≠kS:=fun z=>hb (z ▸ W6);rw [aO (fun z=>(iN.mp z).elim n1 fun z=>hb (lT _ z)),aM n1,aM n2];exact e
end
section
variable {X:Cx} {af:ac4} {Z:St} {F:ada->R D} {k:Nat} {f a:Le} {fd:Xz} {ps:ac3} {mg:ac6} {E:ac5}
def FN {κ:R D->Option K4} (C:KF κ) {H:Hp} {P:aae->iF->Prop}
  (G:FnOk X.prog X.w X.K X.mg X.base cQ k f fd ps (dQ X.K mg F)) (hr:Room k X.A.in1.in1) (J:kg X.K fd ps []) (I:Inv X af Z H s) (fa:ib X af H a) (ho:s.heap.get? a=some (XT "list" us.toArray n)) (has:∀ b∈as,H b≠none)
  (r:br xs us) (dn:aJ X.K (aH as H) ds xs) (hl:mP κ F ds=some l) (hz:ds.length<=63) (hbase:X.s₀.heap.get? a=none)
  (h:∀ Y s'' outV,Inv X af Z Y s''->az H Y->Y a=some (.lst outV)->aJ X.K (aH (a::as) Y) ((l.mergeSort A1).map aA) outV->P (.done (.ret .none)) s'') :
  RW (Xa X.prog X.w) X.A.in1.in1 (ksk_tree a (.ref f) false) P E s:=by
 have hlu:ds.length=us.length:=dn.len.trans r.length;have ha:a < s.heap.objs.size:=MK ho;obtain ⟨e1,ho1⟩:∃ e1,(s.heap.update a (Xx fun _=>(#[]:Array eQ))).get? a=some (XT "list" #[] e1):=⟨_,aaD ho fun _=>#[]⟩;obtain ⟨f0,f1,f2,f3,f4,f5⟩:=id fa;have I1:=I.turned (t':=s.toks) (h':=s.heap.update a (Xx fun _=>(#[]:Array eQ))) (it:=a) (fun b' u J hu=>(Yd _ _ (YU J)).trans hu) f0 f1 f3 f4 f5 (by walk_at "tok");have I2:=I1.kept (t':=s.toks) (h':=(s.heap.update a (Xx fun _=>(#[]:Array eQ))).push (XT "tuple" us.toArray 0)) (fun _ _ q=>dO _ q) (by walk_at "tok");have I3:=I2.lnew (its:=[]) (ys:=[]) (t':=s.toks) .nil (Xk _) (by walk_at "tok");have hkS:((s.heap.update a (Xx fun _=>(#[]:Array eQ))).push (XT "tuple" us.toArray 0)).objs.size=s.heap.objs.size+1:=by rw [size_push',Heap.size_update]
 have L:H ((s.heap.update a (Xx fun _=>(#[]:Array eQ))).push (XT "tuple" us.toArray 0)).objs.size=none:=I2.fresh;have ho3:(((s.heap.update a (Xx fun _=>(#[]:Array eQ))).push (XT "tuple" us.toArray 0)).push (XT "list" #[] 0)).get? a=some (XT "list" #[] e1):=dO _ (dO _ ho1);unfold ksk_tree;refine bY (listItems_at ho rfl ?_);refine bY (Zq ho rfl ?_ (by rw [Do,XJ];omega) (Xk _));refine bY (seqEpoch_at ho1 rfl ?_);refine bY (wpAny_newTuple ?_ (by show us.length<=_;rw [XJ];omega));refine bY (wpAny_newList ?_ (Xk _));refine Yc ?_;have hne:a≠((s.heap.update a (Xx fun _=>(#[]:Array eQ))).push (XT "tuple" us.toArray 0)).objs.size:=by rw [hkS];exact Xb (Y5 ha)
 generalize hq:((s.heap.update a (Xx fun _=>(#[]:Array eQ))).push (XT "tuple" us.toArray 0)).objs.size=kS at *;have hkas:kS∉as:=fun z=>has _ z L;have haas:a∉as:=fun z=>has _ z f0;have I4:Inv X (af++[(a,XT "list" #[] e1)]) Z (upd H kS (.lst [])) { s with heap:=((s.heap.update a (Xx fun _=>(#[]:Array eQ))).push (XT "tuple" us.toArray 0)).push (XT "list" #[] 0) }:=by
  have I3':Inv X af Z (upd H kS (.lst [])) { s with heap:=((s.heap.update a (Xx fun _=>(#[]:Array eQ))).push (XT "tuple" us.toArray 0)).push (XT "list" #[] 0) }:=I3;refine I3'.pins_of fun p hp=>?_;rcases DO.mp hp with hp|hp
  .exact I3'.pin p (Xc _ hp)
  .obtain rfl:p=_:=by simpa using hp
   exact ⟨ho3,by rw [aM hne];exact f0,f1,f2,fun v z=>by cases z⟩
 have up:az H (upd H kS (.lst [])):=aU L _;have dn':aJ X.K (aH (kS::as) (upd H kS (.lst []))) ds xs:=dn.mono fun b o e=>by
  by_cases J:b∈as
  .rw [cU J] at e;cases e
  .rw [aO J] at e;have n1:b≠kS:=fun z=>by rw [z,L] at e;cases e
   rw [aO (fun z=>(iN.mp z).elim n1 J)];exact up b o e
 refine Hk (a:=a) (kS:=kS) (as:=as) (mg:=mg) (F:=F) G hr J I4 aS (fun b J=>by
  cases e:H b with
  | none=>exact absurd e (has b J)
  | some o=>rw [up b o e];simp) hkas r dn' C.val hl hz fun H' kvs its n' s' I' b' k' d' r' e'=>?_
 have pa:=I'.pin (a,XT "list" #[] e1) (by simp);exact GD C (oa:=XT "list" #[] e1) (F:=F) (as:=as) (n:=n') (H0:=H) I' ⟨pa.2.1,f1,f2,f3,f4,f5⟩ up L f0 b' k' d' r' e' haas hkas hne r dn' hl (by have:=hr.un;omega) hz hbase h
def Ca {κ:R D->Option K4} (C:KF κ) {H:Hp} {Q:VK}
  (G:FnOk X.prog X.w X.K X.mg X.base cQ k f fd ps (dQ X.K mg F)) (hr:Room k X.A.in1.in1) (hb:kg X.K fd ps []) (I:Inv X af Z H s) (hp:s.heap.IsList lA us.toArray) (has:∀ b∈as,H b≠none)
  (r:br xs us) (dn:aJ X.K (aH as H) ds xs) (hl:mP κ F ds=some l) (hz:ds.length<=63)
  (h:∀ p H' J,az H H'->H p=none->H' p=some (.lst J)->aJ X.K (aH (p::as) H') ((l.mergeSort A1).map aA) J->Q (.ref p) H') :
  RW (Xa X.prog X.w) X.A (call (.builtin "sorted") [.ref lA] [(XD "key",.ref f)]) (EP X af Z Q) E s:=by
 have hlu:ds.length=us.length:=dn.len.trans r.length;refine call_function_entry_kw kind_sorted plain_sorted entry_sorted (ksk_s1 _ _) ?_;unfold Builtin.«sorted»;refine bY (m:=checkCount "sorted" 1 1 _) (oR ?_);refine bY (collect_list hp ?_ (by rw [XJ];omega));refine bY (wpAny_newList ?_ (by rw [XJ];omega));have hsz:((s.heap.push (XT "list" #[] 0)).update s.heap.objs.size (Xx (·++us.toArray))).objs.size=s.heap.objs.size+1:=by
  rw [Heap.size_update,size_push']
 have hoL:(((s.heap.push (XT "list" #[] 0)).update s.heap.objs.size (Xx (·++us.toArray))).push (XT "list" us.toArray 0)).get? (s.heap.objs.size+1)=some (XT "list" us.toArray 0):=by
  rw [<- hsz];exact ID _ rfl
 have Y:∀ b o,s.heap.get? b=some o->(((s.heap.push (XT "list" #[] 0)).update s.heap.objs.size (Xx (·++us.toArray))).push (XT "list" us.toArray 0)).get? b=some o:=fun b o q=>by
  have L:b < s.heap.objs.size:=MK q;rw [aa1 _ _ _ (by rw [hsz];exact Xb (Y5 L)),ZI _ _ _ _ (Xb L),aa1 _ _ _ (Xb L)];exact q
 have hfr:H (s.heap.objs.size+1)=none:=I.hok.fresh (Zj _);have I1:=I.kept (t':=s.toks) Y (by walk_at "tok");show RW _ _ _ _ _ { s with heap:=((s.heap.push (XT "list" #[] 0)).update s.heap.objs.size (Xx (·++us.toArray))).push (XT "list" us.toArray 0) };rw [hsz];refine bY (Yc (wpAny_call_entry_kw slot_list_sort ⟨_,hoL,rfl⟩ entry_list_sort ?body (ksk_l1 _ _)));show RW (Xa X.prog X.w) X.A.in1.in1 (Builtin.«list.sort» ⟨[.ref (s.heap.objs.size+1)],[(XD "key",.ref f)]⟩) _ _ _;rw [ksk_t1];refine FN C (a:=s.heap.objs.size+1) (mg:=mg) (F:=F) (as:=as) G hr hb I1 (I.fpOk (Zj _) hfr) hoL has r dn hl hz (aan (IF I.sz (Zj _))) fun H'' s'' J I'' s0 e'' d''=>⟨_,rfl,?_⟩;exact oR ⟨_,rfl,.ref (s.heap.objs.size+1),H'',I'',rfl,h _ H'' J s0 hfr e'' d''⟩
end
def Gu {κ:R D->Option K4} (C:KF κ) {X:Cx} {K:aT} {mg:ac6} {O:ac2} {F:ada->R D} {x:Str} {st:Yj} {ps:ac3} {f:Le} {fd:Xz} {j k:Nat} {e:Yb} {φ:FE} {p p2 p3 pos:Pos}
  (Df:Def X.K X.mg x st ps f fd) (G:FnOk X.prog X.w X.K X.mg X.base cQ j f fd ps (dQ K mg F)) (Y:Room k X.A) (hm:X.mg "sorted"=none) (ha:JE X e (tD ⟨K,mg,E0⟩ O φ)) (hj:j+1<=k:=by decide) (hg:Gl X "sorted":=by rfl) (hgx:Gl X x:=by rfl) (hdb:adb x:=by decide)
  (h1:aX e=true:=by rfl) (hK:X.K=K:=by rfl):JE X (.Call (.Name "sorted" p) [e] [⟨some "key",.Name x p2,p3⟩] pos) (tN ⟨K,mg,E0⟩ O (ao (wN κ F) (ae φ ap))):=by
 subst hK;refine ⟨fun af s Z H Q I h=>?_⟩;obtain ⟨as0,B,own,U,J,h⟩:=h;have hA:JA X [e] (xG ⟨X.K,mg,E0⟩ O (ae φ ap)):=aa ha aj (hn:=h1);refine XR (m8 I hg hm (u:=.builtin "sorted") (by with_unfolding_all rfl) ?_ (by decide) (by decide));have he:ZK pos (Xy [e] X.env)=(false,eval e X.env)::ZK pos (Xy [] X.env):=by rw [b8 h1];rfl
 refine callWith_kw (dg (hA.out pos af s Z H (fun vs H1=>az H H1/\∃ ds,aJ X.K (aH (own++as0) H1) ds vs/\iS ⟨X.K,mg,E0⟩ (own++as0) H1 (wN κ F ds) Q) I ⟨as0,B,own,U,J,Co h fun ds vs H1 s1 d1 h1=>⟨s1,ds,d1,h1⟩⟩) fun us s1 ⟨vs,H1,I1,r,sm,ds,dn,q⟩ =>
  dg (LW (nm:=some "key") (kpos:=p3) (Fu (pos:=p2) (v:=.ref f) hgx Df.m rfl hdb) Rn pos af s1 Z H1 (fun zs H2=>zs=[.ref f]/\H2=H1) I1 ⟨rfl,rfl⟩) fun ws s2 ⟨zs,H2,I2,rz,e1,e2⟩=>?_) he ?_ rfl rfl
 .subst e1 e2;obtain ⟨w0,rfl,rw0⟩:=rz.one;cases rw0;have exi:∀ b∈own++as0,H2 b≠none:=(J.mono sm).exi;unfold wN at q;split at q
  .rename_i ys;split at q
   .rename_i hz;split at q
    .rename_i l hl;obtain ⟨v0,_,rfl,d0,d00⟩:=dn;cases d00;obtain ⟨lA,xs,rfl,hS,dx⟩:=d0;obtain ⟨u0,rfl,ru⟩:=r.one;cases ru;obtain ⟨its,ri,hp,_⟩:=I2.list ((ax _ _).seq hS);have rm:Room j X.A.in1.in1:=⟨Y.hd,by have:=Y.dp;show X.A.depth+3*j+5 < _;omega,by have:=Y.un;show X.A.units+1+1+16*j+200 < _;omega⟩;refine Ca C (mg:=mg) (F:=F) (as:=own++as0) G rm Df.b I2 hp.isList exi ri dx hl hz fun p H' L s' hn hp' dd=>?_;exact q p _ H' s' hn hp' ⟨L,rfl,dd⟩
    .exact q.elim
   .exact q.elim
  .exact q.elim
 .exact df (es:=[e]) (by rw [Yn,h1];rfl)
end L2
namespace L2
open PySem PySem.Spec PyProof.Rows
section
variable {W:Wd} {X:Cx}
def iI (p:abw):List abw->Option Bool
 | []=>some false
 | q::r=>if X1 q=true/\q.depth<=32 then (iI p r).map fun b=>Y4 q p||b else none
def lW (x:D) (xs:ada):Option Bool:=match iW x,fz xs with
 | some p,some ps=>if X1 p=true then iI p ps else none
 | _,_=>none
def TZ (K:aT):R2:=fun x y H Q=>∃ p a ds xs k,y=.ref p/\l6 K H p xs/\cS K H a x/\aJ K H ds xs/\lW a ds=some k/\Q (.bl k) H
open Classical in
noncomputable def qD (s:iF) (p:abw) (u:eQ):Bool:=decide (∃ q bs,Reads s.heap u q bs/\q.canLay0=true/\Y4 q p=true)
def Kz (r:Reads s.heap u q bs) (Y:q.canLay0=true):qD s p u=Y4 q p:=by
 classical
 unfold qD;cases e:Y4 q p with
 | true=>exact @acZ _ (_) ⟨q,bs,r,Y,e⟩
 | false =>
  refine @acY _ (_) fun ⟨q',J,r',_,L⟩=>?_
  have:=SeqAt.Reads.unique q q' u bs J Y r r'
  subst this;rw [e] at L;cases L
def w4 {H:Hp} (I:Inv X af Z H s) (L:X.A.units+64 < ZM) (Y:Reads s.heap v p as) (hp:X1 p=true):∀ {ds:ada} {vs:ac9} {us:ac8} {ps:List abw} {k:Bool},aJ X.K H ds vs->br vs us->fz ds=some ps->iI p ps=some k ->
  (∀ u∈us,acg X.A.in1 s u v (qD s p u))/\us.any (qD s p)=k
 | [],_,_,_,_,h,r,e,q=>by
  cases h;cases r;cases e;cases q;exact ⟨fun u L=>(nomatch L),rfl⟩
 | d::ds,_,_,_,k,⟨w1,ws,h0,h1,h2⟩,r,e,q=>by
  subst h0;unfold fz at e;cases q1:iW d with
  | none=>rw [q1] at e;cases e
  | some x =>
   rw [q1] at e;have e:(fz ds).map (x::·)=some _:=e;cases q2:fz ds with
   | none=>rw [q2] at e;cases e
   | some xs =>
    rw [q2] at e;cases e;unfold iI at q;split at q
    .rename_i hs;cases q3:iI p xs with
     | none=>rw [q3] at q;cases q
     | some k2 =>
      rw [q3] at q;cases q;cases r with
      | @cons _ u _ us r1 r2 =>
       obtain ⟨bs,hb⟩:=fI I h1 r1 q1;obtain ⟨i1,i2⟩:=w4 I L Y hp h2 r2 q2 q3;have hq:=Zi hs.1;have ef:=Kz (p:=p) hb hq;refine ⟨fun u' J=>?_,by rw [ZR,ef,i2]⟩;rcases iN.mp J with z|z
       .subst z;rw [ef];refine acB x p X.A.in1 s _ v bs as hb Y hq (Zi hp) ?_;have h1:=abm x.depth p.depth;have h2:=hs.2;have h3:X.A.in1.units=X.A.units+1:=rfl;omega
       .exact i1 u' z
    .cases q
def JJ (h:lW x xs=some k):∃ p ps,iW x=some p/\fz xs=some ps/\X1 p=true/\iI p ps=some k:=by
 unfold lW at h;split at h
 .rename_i p ps h1 h2;split at h
  .rename_i hs;exact ⟨p,ps,h1,h2,hs,h⟩
  .cases h
 .cases h
def U9 (K:aT) (hu:X.A.units+64 < ZM) (Y:X.K=K:=by rfl):eZ X (Xn .In) (TZ K):=by
 subst Y;intro af s Z H x y v u Q I rx ry h;obtain ⟨p,a,ds,xs,k,rfl,hl,da,dd,e,q⟩:=h;cases ry;obtain ⟨J,ps,h1,h2,L,h4⟩:=JJ e;obtain ⟨as,ra⟩:=fI I da rx h1;obtain ⟨its,r,pl,hz⟩:=I.tuple hl;obtain ⟨i1,i2⟩:=w4 I hu ra L dd r h2 h4;refine acv (qD s J) pl (fun y hy=>i1 y (by simpa using hy)) ⟨.bl k,H,I,?_,q⟩;rw [show (its.toArray.any (qD s J))=its.any (qD s J) by simp,i2];rfl
def QK (x y:D):Option Bool:=match y with
 | .tup ds=>lW x ds
 | _=>none
def JQ (x y:D):R D:=gH (QK x y) fun k=>k
def Wx (K:aT) (Y:W.K=K:=by rfl):rE W (TZ K) JQ:=by
 subst Y;intro as H x y a b Q hn J L h;unfold JQ at h;cases e:QK a b with
 | none=>rw [e] at h;exact h.elim
 | some k =>
  rw [e] at h;have fin:=aP h (show cS W.K (aH as H) (.bl k) (.bl k) from rfl);cases b with
  | tup ds =>
   obtain ⟨p,xs,rfl,h1,h2⟩:=L;exact ⟨p,a,_,xs,k,rfl,(ax _ _).seqT h1,J.mono (ax _ _),h2.mono (ax _ _),e,fin⟩
  | _=>cases e
end
def MY {X:Cx} {K:aT} {mg:ac6} {O:ac2} {F:ada->R D} {x:Str} {st:Yj} {ps:ac3} {f:Le} {fd:Xz} {j k:Nat} {p pos:Pos}
  (J:Def X.K X.mg x st ps f fd) (G:FnOk X.prog X.w X.K X.mg X.base cQ j f fd ps (dQ K mg F)) (Y:Room k X.A) (hj:j<=k:=by decide) (hg:Gl X x:=by rfl) (L:adb x:=by decide) :
  JE X (.Call (.Name x p) [] [] pos) (tD ⟨K,mg,E0⟩ O (ao F ap)) :=
 (JE.mk (IK (dvs:=[]) G (Y.mono hj) hg J.m J.F.kp J.b .nil Ju L)).imp fun Z H Q hh=>fH hh fun as0 B own U I h=>⟨own++as0,[],I.exi,aJ.nil,h⟩
end L2
namespace HT
open PySem PySem.Spec PyProof.Rows L2
section
variable {prog:Xh} {w:Xv} {A:Xs} {E:ac5} {s:iF}
def qB {t sl:Le} {items:Array eQ} {vl vu:eQ} {lo hi:Option Int} {Q:ac5} (J:aam s.heap t items) (hs:s.heap.IsSliceOf sl vl vu .none) (pl:IsPart vl lo) (pu:IsPart vu hi)
  (hw:sIx items.size 0 lo=0/\sIx items.size items.size hi=items.size) (h:Q (.ref t) s):RW (Xa prog w) A (aaQ (.ref t) (.ref sl)) Q E s:=by
 obtain ⟨os,Y,hcs,hds⟩:=id hs;have hTs:s.TypeIs (.ref sl) "slice":=⟨os,Y,hcs⟩;unfold aaQ;try with_reducible refine Yc ?_
 first|refine bY (oR ?_)|skip
 refine bY (wpAny_sequenceKey J.typeIs (by decide) ?_);refine bY (Yu (name:=XD "__getitem__") J.typeIs XZ
  (YA XZ J.typeIs entry_tuple_getitem ?_ (args_tuple_getitem _ _)))
 show RW _ _ (aaI (.ref t) >>= _) _ _ s;refine bY (tupleItemsOf_ J ?_);refine bY (wpAny_typeOf hTs ?_);rw [acW (by decide)];refine bY (mD hs pl pu ?_);have L:(((sIx items.size 0 lo:Nat):Int)==0&&(1:Int)==1&&(sIx items.size items.size hi - sIx items.size 0 lo)==items.size)=true:=by
  rw [hw.1,hw.2];simp
 show RW _ _ (if (((sIx items.size 0 lo:Nat):Int)==0&&(1:Int)==1&&(sIx items.size items.size hi - sIx items.size 0 lo)==items.size)=true then _ else _) _ _ s;rw [acW L];refine bY (m:=aaK (.ref t)) ?_;unfold aaK;refine bY (wpAny_typeOf J.typeIs (oR ?_));rw [acW (by decide)]
 first
  | exact oR ⟨_,rfl,oR h⟩
  | exact bY (oR (oR ⟨_,rfl,oR h⟩))
  | exact bY (m:=rule _) (oR (oR ⟨_,rfl,oR h⟩))
  | exact bY (Z5 (oR ⟨_,rfl,oR h⟩))
end
end HT
namespace L2
open PySem PySem.Spec PyProof.Rows
section
variable {X:Cx} {W:Wd}
def TY (K:aT):V->Option Int->Option Int->Hp->VK->Prop:=fun x lo hi H Q=>∃ a xs,x=.ref a/\l6 K H a xs/\(HT.sIx xs.length 0 lo=0/\HT.sIx xs.length xs.length hi=xs.length)/\Q (.ref a) H
def Kn:Bm X (TY X.K):=by
 intro af s Z H x v vl vu lo hi sl Q I rx hs pl Y h;obtain ⟨a,xs,rfl,hx,hw,q⟩:=h;cases rx;obtain ⟨its,r,L,hz⟩:=I.tuple hx;have J:its.toArray.size=xs.length:=by rw [Do];exact r.length.symm
 refine ⟨"tuple",_,XZ.lookup,L.typeIs,?_⟩;exact HT.qB L hs pl Y (by rw [J];exact hw) ⟨.ref a,H,I,rfl,q⟩
def RA (K:aT) (x:V) (lo hi:Option Int) (H:Hp) (Q:VK):Prop:=Tq K x lo hi H Q\/TY K x lo hi H Q
def Vb (K:aT) (J:X.K=K:=by rfl):Bm X (RA K):=by
 subst J;exact RM.or Kn
def G0 (a:D) (lo hi:Option Int):R D:=match a with
 | .tup xs=>if HT.sIx xs.length 0 lo=0/\HT.sIx xs.length xs.length hi=xs.length then .ok (.tup xs) else .ok (.tup (qz xs lo hi))
 | d=>qN d lo hi
def U0 (K:aT) (L:W.K=K:=by rfl):Wa W (RA K) G0:=by
 subst L;intro as H x lo hi a Q hn J h;unfold G0 at h;split at h
 .rename_i xs;split at h
  .rename_i hc;have Y:=J;obtain ⟨p,vs,rfl,q1,q2⟩:=J;rw [q2.len] at hc;exact .inr ⟨p,vs,rfl,(ax _ _).seqT q1,hc,aP h Y⟩
  .rename_i hc;refine .inl (C9 W.K rfl as H x lo hi _ Q hn J ?_);unfold qN;dsimp only;rw [acX hc];exact h
 .exact .inl (C9 W.K rfl as H x lo hi _ Q hn J h)
def SY {xs:ada} {lo hi:Option Int}:G0 (.tup xs) lo hi=.ok (.tup (qz xs lo hi)):=by
 unfold G0;dsimp only;split
 .rename_i h;unfold qz;rw [h.1,h.2,Z8,Nat.sub_zero,aak]
 .rfl
end
section
variable {X:Cx} {W:Wd} {O:ac2} {tg:Yb}
def HK {prog:Xh} {w:Xv} {A:Xs} {E:ac5} {s:iF} {t b:Le} {ws:ac8} {Q:ac5} (ht:aam s.heap t #[]) (hb:aam s.heap b ws.toArray) (h:Q (.ref b) s):RW (Xa prog w) A (YD .Add (.ref t) (.ref b)) Q E s:=by
 obtain ⟨⟨cls,dd,data,sl⟩,ho,hc,n,hd⟩:=id ht;obtain ⟨⟨cls2,dd2,data2,sl2⟩,Y,L,n2,J⟩:=id hb;simp only at hc hd L J;subst hc hd L J;exact concat_meets ⟨_,ho,rfl⟩ ⟨_,Y,rfl⟩ noFill_tuple_add seq_tuple_add ZY ZQ (ZJ _ _) (tuple_addW0 t b #[] ws.toArray n n2 dd dd2 sl sl2 rfl) ⟨ho,Y,h⟩
def HP (K:aT):R2:=fun x y H Q=>El K x y H Q\/∃ l b zs,x=.ref l/\y=.ref b/\l6 K H l []/\l6 K H b zs/\Q (.ref b) H
def vX (K:aT) (L:X.K=K:=by rfl):eZ X (YD .Add) (HP K):=by
 subst L;refine (Op X.K).or ?_;intro af s Z H x y v u Q I rx Y h;obtain ⟨l,b,zs,rfl,rfl,h1,h2,q⟩:=h;cases rx;cases Y;obtain ⟨its,r1,p1,_⟩:=I.tuple h1;obtain ⟨J,r2,p2,_⟩:=I.tuple h2;cases r1;exact HK p1 p2 ⟨.ref b,H,I,rfl,q⟩
def oq (a b:D):R D:=match a with
 | .tup []=>(match b with
  | .tup ys=>.ok (.tup ys)
  | _=>.no)
 | a=>cj a b
def A7 (K:aT) (Y:W.K=K:=by rfl):rE W (HP K) oq:=by
 intro as H x y a b Q hn J L h;unfold oq at h;split at h
 .split at h
  .obtain ⟨p,vs,rfl,q1,q2⟩:=J;cases q2;obtain ⟨p2,ws,rfl,q3,q4⟩:=L;subst Y;exact .inr ⟨p,p2,ws,rfl,rfl,(ax _ _).seqT q1,(ax _ _).seqT q3,aP h ⟨p2,ws,rfl,q3,q4⟩⟩
  .exact h.elim
 .exact .inl (RI K Y as H x y a b Q hn J L h)
variable {o e:Yb} {φ ψ:FE} {apos cpos:Pos}
end
end L2
namespace L2
open PySem PySem.Spec PyProof.Rows PySem.Builtin PySem.Builtin.Str
def xm (F:ada->R D) (α:FA) (mt:Str->Bool) (n:Nat) (ψ:FS):FS:=fun U=>match α U with
 | .ok ds=>match F ds with
  | .ok _=>.no
  | .er x=>if mt x then rtOnly (ψ (U.set n (some (.exn x)))) else .no
  | .no=>.no
 | _=>.no
section
variable {X:Cx} {K:aT} {mg:ac6} {E1:XK} {Ob O O':ac2} {fn:Str} {st:Yj} {ps:ac3} {f:Le} {fd:Xz} {j k i n:Nat} {F:ada->R D} {p pos apos xp tp hpos tpos:Pos} {e:Yb} {es:List Yb} {α:FA} {x T nm:Str} {CT:Le} {mt:Str->Bool}
 {b₀:Yj} {bs:List Yj} {ψ:FS}
def Mr (Df:Def X.K X.mg fn st ps f fd) (G:FnOk X.prog X.w X.K X.mg X.base (xF X.prog X.w X.mg) j f fd ps (B6 K mg F)) (hr:Room k X.A) (hnO:n∉O) (hN:X.N.Nodup) (ha:∀ E',JA (X.wish E') (e::es) (xG ⟨K,mg,E0⟩ O α))
  (hm:X.mg T=some (.ref CT)) (hmt:Pw X.K mg mt CT) (hs:∀ y,JB ((X.hand y).nox) (b₀::bs) (sD ⟨K,mg,fun _ _ _=>False⟩ Ob O O ψ))
  (hKK:X.K=K:=by rfl) (hin:X.N[n]?=some nm:=by rfl) (hln:X.env.scope.names.lookup nm=some .local:=by rfl)
  (hj:j<=k:=by decide) (hex:t9 X:=by first|assumption|exact t9.nil rfl) (hg:Gl X fn:=by rfl) (hdb:(fn==("__debug__":Str))=false:=by decide)
  (h1:aX e=true:=by rfl) (h2:es.all aX=true:=by rfl) (hst:X.stack=X.env::X.outer:=by rfl) (hfr:X.env.frame=some X.env.locals:=by rfl) (hgT:Gl X T:=by rfl) (hdT:(T==("__debug__":Str))=false:=by decide) :
  JS X (.Try [.Expr (.Call (.Name fn p) (e::es) [] pos) apos] [.ExceptHandler (some (.Name T tp)) (some nm) (b₀::bs) hpos] [] [] tpos) (sD ⟨K,mg,E1⟩ Ob O O (xm F α mt n ψ)):=by
 subst hKK;refine ⟨fun af s Z H D' I ⟨as0,B,own,U,DIh,h⟩=>?_⟩;refine wpAny_Try_except (wpAny_execs_cons (wpAny_Expr ?_ I.quiet));cases hα:α U with
 | er y=>unfold xm at h;rw [hα] at h;exact h.elim
 | no=>unfold xm at h;rw [hα] at h;exact h.elim
 | ok ds =>
  unfold xm at h;rw [hα] at h;dsimp only at h;have hth:∀ (Q:VK) (E:XK),(∀ vs H1,az H H1->aJ X.K (aH (own++as0) H1) ds vs->B6 X.K mg F vs H1 Q E)->xG ⟨X.K,mg,E0⟩ O α Z H fun vs H1=>B6 X.K mg F vs H1 Q E:=fun Q E q=>⟨as0,B,own,U,DIh,by
   unfold jA;rw [hα];exact fun v H' s1 dv=>q v H' s1 dv⟩
  cases hF:F ds with
  | no=>rw [hF] at h;exact h.elim
  | ok d=>rw [hF] at h;exact h.elim
  | er y =>
   rw [hF] at h;dsimp only at h;by_cases hy:mt y=true
   .rw [acW hy] at h;refine dg (Me (E:=fun _ C H'=>az H H'/\∃ C',C=some C'/\mg y=some (.ref C')) (Q:=fun _ _=>False) Df G hr (ha _).out hex hj hg hdb h1 h2 I (hth _ _ fun vs H1 s1 dv=>⟨own++as0,ds,(DIh.mono s1).exi,dv,by
     unfold cO;rw [hF];exact fun e C H' s2 L=>⟨s1.trans s2,C,rfl,L⟩⟩) fun z C H' s' I' ea ⟨sm,C',eC,L⟩=>?_) fun v s1 hh=>n6 hh fun y H1 I1 r1 q=>q.elim
    cases eC;obtain ⟨hns,J⟩:=hmt y C hy L;refine Mf (D:=D') hst hfr hm J hgT hdT hN hin hln I' ea fun s2 I2=>?_;have su:az H' (upd H' z (F8 z C)):=aU ea.hx _;have dI:=((DIh.mono (sm.trans su)).set (W:=⟨X.K,mg,E1⟩) (i:=n) (d:=.exn y) (v:=.ref z) hnO ⟨z,C,rfl,hns,by
     rw [aO fun q=>(DIh.mono sm).exi z q ea.hx];unfold upd;rw [acW rfl]⟩)
    have Y:=(hs (.ref z)).out af _ _ _ _ ((I2.hand (.ref z)).wish _) ⟨as0,B,own,_,dI,bI.rtOnly (W:=⟨X.K,mg,E1⟩) (W':=⟨X.K,mg,fun _ _ _=>False⟩) rfl h⟩;refine XC Y (fun f s3 q=>?_) fun _ _ z=>z;have q2:=q.unwish.unhand I.ok;cases f with
    | ret u=>obtain ⟨v,σ',H2,I3,rv,hD⟩:=q2;exact ⟨u,v,σ',H2,rfl,I3,rv,hD⟩
    | next=>obtain ⟨_,_,_,z⟩:=q2;exact z.elim
    | brk=>obtain ⟨_,_,_,z⟩:=q2;exact z.elim
    | cont=>obtain ⟨_,_,_,z⟩:=q2;exact z.elim
   .rw [acX hy] at h;exact h.elim
end
def zq {X:Cx} {E:XK} (J:X.stack=X.env::X.outer:=by rfl) (hf:X.env.frame=some X.env.locals:=by rfl):aaA (Xa (X.may E).prog (X.may E).w) (X.may E).A (X.may E).env (X.may E).xe:=by
 rintro e s' ⟨Z,H,x,C,fl,rfl,I,ea,hE⟩;have Y:X.A.frames=some (X.env::X.outer):=by rw [<- J];exact I.ok.frames
 show notedBy (Xa X.prog X.w) X.A X.env (cameBackBy (Xa X.prog X.w) X.A X.env (XE X E)) (.ref x) s';refine wU (X:=X) hf Y J hf I ea fun h1 I1 e1=>?_;obtain ⟨oe,vs,b1,b2,b3,b4,b5,b6⟩:=e1.ob;obtain ⟨T',oT,ts,c1,c2,c3,c4,c5,c6,c7⟩:=b6 _ rfl;refine bY (X4 (s:={ s' with heap:=h1 }) b1 b3 c1 ?_);have L:¬ ((Xr T'==XG)=true):=by simp
 rw [acX L];exact nI (s:={ s' with heap:=h1 }) I1 e1 X.env.frame fun h4 I4 e4=>⟨Z,H,x,C,_,rfl,I4,e4,hE⟩
end L2
namespace L2
open PySem PySem.Spec PyProof.Rows
def FnOk.still {P:Xh} {w:Xv} {K:aT} {mg:ac6} {base:YG} {k:Nat} {f:Le} {fd:Xz} {ps:ac3} {F:ada->R D} (G:FnOk P w K mg base (xF P w mg) k f fd ps (B6 K mg F)):FnOk P w K mg base cQ k f fd ps (dQ K mg (cR F)):=by
 have im:∀ vs H Q E,dQ K mg (cR F) vs H Q E->B6 K mg F vs H Q (fun _ _ _=>False):=fun vs H Q E ⟨as,ds,ex,dv,h⟩=>by
  refine ⟨as,ds,ex,dv,?_⟩;unfold cR at h;cases L:F ds with
  | ok d=>rw [L] at h;exact h
  | er x=>rw [L] at h;exact h.elim
  | no=>rw [L] at h;exact h.elim
 refine ⟨fun vs H Q E h=>G.len vs H Q _ (im _ _ _ _ h),fun A J s H Y us vs Q E L he hb hv hs=>YW (G.run A J s H Y us vs Q _ L he hb hv (im _ _ _ _ hs)) fun r s' hq=>?_⟩;cases r with
 | error e =>
  obtain ⟨_,_,_,_,_,_,_,_,_,z⟩:=hq;exact z.elim
 | ok fl=>cases fl <;> exact hq
def UA (K:aT) (x:Str) (f:Le->Bool):Bool:=match Xg K W9 x with
 | some (some (.ref C))=>f C
 | _=>false
def zw {K:aT} {x:Str} {f:Le->Bool} {C:Le} (h:UA K x f=true) (e:Cq K x C):f C=true:=by
 unfold UA at h;unfold Cq at e;rw [e] at h;exact h
def LK (K:aT) (C:Le):Bool :=
 (X0 K (.ref C) "__getattribute__"==some (some (.builtin "BaseException.__getattribute__")))&&((X0 K (.ref C) "__getattr__"==some none)&&((X0 K (.ref C) "__class__"==some (some (.builtin "object.__class__"))) &&
 ((aaT K (.builtin "object.__class__") "__get__"==some (some (.builtin "getset_descriptor.__get__")))&&((abj K (.builtin "object.__class__")==some true)&&((aa3 K C (.type "object")==some true)&&(aa3 K C (.type "BaseException")==some true))))))
def Es {K:aT} {C:Le} (h:LK K C=true):ExcC K C:=by
 unfold LK at h;simp only [Xe,beq_iff_eq] at h;exact ⟨h.1,h.2.1,h.2.2.1,h.2.2.2.1,h.2.2.2.2.1,h.2.2.2.2.2.1,h.2.2.2.2.2.2⟩
def Qw (K:aT) (l:z7) (L:ac3):Bool :=
 (l.all fun p=>UA K p.1 fun C=>LK K C&&UA K p.2.1 fun J=>YX K (.ref C) (.ref J)==some p.2.2)&&L.all fun x=>UA K x fun C=>LK K C&&(YX K (.ref C) (.type "ValueError")==some true)
def Ln {K:aT} {l:z7} {ve:ac3} (h:Qw K l ve=true):TabOk K l ve:=by
 unfold Qw at h;rw [Xe,XW,XW] at h;refine ⟨fun p J C Y e e2=>?_,fun p J C e=>?_,fun x L C e=>?_⟩
 .have:=zw (h.1 p J) e
  rw [Xe] at this;exact beq_iff_eq.mp (zw this.2 e2)
 .have:=zw (h.1 p J) e
  rw [Xe] at this;exact Es this.1
 .have:=zw (h.2 x L) e
  rw [Xe,beq_iff_eq] at this;exact ⟨Es this.1,this.2⟩
section
variable {X:Cx} {af:ac4} {Z:St} {H:Hp} {s:iF} {a:Le} {kvs:List (bC×V)}
def Inv.frzD (I:Inv X af Z H s) (e:H a=some (.dK kvs)):∃ o,Inv X af Z (upd H a (.frz o (.dK kvs))) s:=by
 have ok:bT X.prog X.w H s.heap a (.dK kvs):=I.hok a _ e;obtain ⟨z,y,vs,r,J,es,ep,e1,c⟩:=id ok;refine ⟨J,?_⟩;have ne:∀ b u,H b=some u->u≠.dK kvs->b≠a:=fun b u q n z=>by subst z;rw [e] at q;cases q;exact n rfl
 refine I.step (h':=s.heap) (H':=upd H a (.frz J (.dK kvs))) (g':=s.gens) (d':=s.drawn) (t':=s.toks) (ch:=[]) (fun _ z=>nomatch z) (fun b o _ _ _ q _=>q) (fun b o _ _ _ q _=>⟨o.slots,q⟩)
  (fun b o _ _ n=>by rw [aM (fun z=>by subst z;rw [e] at n;cases n)];exact n) (fun b o _ q=>⟨o,q⟩)
  (fun b xs q=>by rw [aM (ne b _ q (fun z=>nomatch z))];exact q) (fun b o u q=>by rw [aM (ne b _ q (fun z=>nomatch z))];exact q) (fun b ps q=>⟨#[],by rw [aM (ne b _ q (fun z=>nomatch z)),q];simp⟩) (fun m h=>h) ?_ I.bare
 intro b u q;have st:∀ {b:Le} {u:HO},bT X.prog X.w H s.heap b u->bT X.prog X.w (upd H a (.frz J (.dK kvs))) s.heap b u:=fun {b u} x =>
  x.stay (fun c v _ q=>q) (fun c q=>by rw [aM (ne c _ q (fun z=>nomatch z))];exact q) fun c xs q=>by rw [aM (ne c _ q (fun z=>nomatch z))];exact q
 by_cases L:b=a
 .subst L;rw [aS] at q;cases q;exact ⟨e1,st ok⟩
 .rw [aM L] at q;exact st (I.hok b u q)
end
def fzD:D->R D
 | .dct ds=>.ok (.dcf ds)
 | _=>.no
def LM (φ:FE):FE:=fun U=>(φ U).bind fzD
section
variable {X:Cx} {W:Wd} {Ob O O2 O':ac2} {e:Yb} {φ:FE} {ψ:FS} {st:Yj} {sts:List Yj}
def xf (h:JE X e (tN W O φ)):JE X e (tD W O (LM φ)):=by
 refine ⟨fun af s Z H Q I q=>?_⟩;obtain ⟨as0,B,own,U,J,q⟩:=q;have q':iS W (own++as0) H (φ U) fun v H1=>∃ p kvs,v=.ref p/\H1 p=some (.dK kvs)/\∀ o,Q v (upd H1 p (.frz o (.dK kvs))):=by
  unfold LM at q;cases hr:φ U with
  | er x=>rw [hr] at q;exact q
  | no=>rw [hr] at q;exact q
  | ok d =>
   rw [hr] at q;cases d with
   | dct ds =>
    intro p o H' s1 L Y od;obtain ⟨xs,rfl,od⟩:=od;refine ⟨p,xs,rfl,Y,fun ob=>?_⟩;have hn:=J.new L;have q:cO W (own++as0) H (.ok (.dcf ds)) Q:=q;refine q (.ref p) _ (fun b u z=>?_) ⟨p,ob,xs,rfl,?_,od.mono fun b u z=>?_⟩
    .rw [aM (bB z L)];exact s1 b u z
    .rw [aO hn];exact aS
    .by_cases hb:b∈p::(own++as0)
     .rw [cU hb] at z;cases z
     .rw [aO hb] at z;have h1:=fun w=>hb (iN.mpr (.inl w));have h2:=fun w=>hb (iN.mpr (.inr w));rw [aO h2,aM h1];exact z
   | _=>exact q.elim
 refine XC (h.out af s Z H _ I ⟨as0,B,own,U,J,q'⟩) (fun u s1 ⟨x,H1,I1,rx,p,kvs,e1,e2,hq⟩=>by
  obtain ⟨o,I2⟩:=I1.frzD e2;exact ⟨x,_,I2,rx,hq o⟩) fun _ _ h=>h
def DI.frzO {K:aT} {as0 own:ac7} {B H:Hp} {Z:St} {U:Sd} {i:Nat} {a:Le} {ds:List (bC×D)} {xs:List (bC×V)} (I:DI K as0 B O own Z U H) (hi:(i,a)∈O.zip own) (h1:U[i]?=some (some (.dct ds))) (h2:Z[i]?=some (some (.ref a)))
  (h4:cr K (aH (own++as0) H) ds xs) (ob:Obj):∃ own2,DI K as0 B (O.filter fun k=>decide (k≠i)) own2 Z (U.set i (some (.dcf ds))) (upd H a (.frz ob (.dK xs))):=by
 generalize hp:(fun k:Nat=>decide (k≠i))=p;have pi:∀ k,p k=decide (k≠i):=fun k=>by rw [<- hp]
 have sub:(bK p O own).Sublist own:=lc;have mem:∀ a∈bK p O own,a∈own:=fun a J=>sub.mem J;have J:a∈own:=(XA hi).2;have hil:i < U.length:=(Xu.mp h1).1;have nota:a∉bK p O own:=fun z=>by
  obtain ⟨j,h5,h6⟩:=kQ z
  have:=zip_inj I.nd hi h5
  subst this;rw [pi] at h6;exact ac0 h6 rfl
 have s:az (aH (own++as0) H) (aH (bK p O own++as0) (upd H a (.frz ob (.dK xs)))):=fun b u z=>by
  by_cases hb:b∈own++as0
  .rw [cU hb] at z;cases z
  .rw [aO hb] at z;rw [aO fun w=>hb ?_,aM fun w=>hb ?_]
   .exact z
   .rw [w];exact Xf _ J
   .rcases DO.mp w with w|w
    .exact Xf _ (mem b w)
    .exact Xc _ w
 refine ⟨bK p O own,by simp [I.len],pJ I.olen,I.nd.sublist sub,I.ond.sublist aav,fun a J=>I.fresh a (mem a J),I.ex0,fun b u z=>?_,fun j d hj q=>?_,fun j b hj=>?_⟩
 .rw [aM (fun w=>by rw [w,I.fresh a J] at z;cases z)];exact I.same b u z
 .rw [getElem?_set'] at q;split at q
  .rename_i hij;subst hij;cases q;refine ⟨.ref a,h2,a,ob,xs,rfl,?_,h4.mono s⟩;rw [aO fun w=>?_]
   .exact aS
   .rcases DO.mp w with w|w
    .exact nota w
    .exact I.apart a J w
  .rename_i hij;have hO:j∉O:=fun w=>hj (YF.mpr ⟨w,by rw [pi];exact acZ fun z=>hij z.symm⟩);obtain ⟨v,q1,q2⟩:=I.var j d hO q;exact ⟨v,q1,q2.mono s⟩
 .obtain ⟨hz,Y⟩:=gz hj;obtain ⟨d,o,q1,q2,q3,q4⟩:=I.owns j b hz;have L:i≠j:=fun z=>by rw [pi] at Y;exact ac0 Y z.symm
  have hba:b≠a:=fun z=>L (zip_inj I.nd hi (z ▸ hz));exact ⟨d,o,by rw [getElem?_set',acX L];exact q1,q2,by rw [aM hba];exact q3,q4.mono s⟩
def Mu (i:Nat) (ψ:FS):FS:=fun U=>match U[i]? with
 | some (some (.dct ds))=>ψ (U.set i (some (.dcf ds)))
 | _=>.no
def Qx {i:Nat} {af:ac4} {s:iF} {Z:St} {H:Hp} {D:Ends} (hi:i∈O) (I:Inv X af Z H s) (q:sD W Ob O O' (Mu i ψ) D Z H):∃ H',Inv X af Z H' s/\sD W Ob (O.filter fun k=>decide (k≠i)) O' ψ D Z H':=by
 obtain ⟨as0,B,own,U,J,q⟩:=q;obtain ⟨a,ha⟩:=gR J.olen hi;obtain ⟨d,o,h1,h2,h3,Y⟩:=J.owns i a ha;unfold Mu at q;rw [h1] at q;cases d with
 | dct ds =>
  obtain ⟨xs,rfl,Y⟩:=Y;obtain ⟨ob,I'⟩:=I.frzD h3;obtain ⟨L,D2⟩:=J.frzO ha h1 h2 Y ob;exact ⟨_,I',as0,B,L,_,D2,q⟩
 | _=>exact q.elim
def Ez (h:JB X sts (sD W Ob O2 O' ψ)) (hi:i∈O:=by decide) (J:O.filter (fun k=>decide (k≠i))=O2:=by decide):JB X sts (sD W Ob O O' (Mu i ψ)):=by
 subst J;refine ⟨fun af s Z H D I q=>?_⟩;obtain ⟨H',Y,L⟩:=Qx hi I q;exact h.out af s Z H' D Y L
end
def kG:D->Option bC
 | .int i=>some (.inl i)
 | .str x=>some (.inr x)
 | _=>none
def rG:bC->D
 | .inl i=>.int i
 | .inr x=>.str x
def mR {K:aT} {H:Hp} {d:D} {v:V} {k:bC} (h:cS K H d v) (e:kG d=some k):v=kV k:=by
 cases d with
 | int i=>cases e;exact h
 | str x=>cases e;exact h
 | _=>cases e
def we {K:aT} {H:Hp}:∀ k:bC,cS K H (rG k) (kV k)
 | .inl i=>rfl
 | .inr x=>rfl
def cF (kvs:List (bC×D)) (k:bC):Option D:=(kvs.find? fun J=>decide (J.1=k)).map (·.2)
def fw (kvs:List (bC×D)) (k:bC) (d:D):List (bC×D) :=
 if (cF kvs k).isSome=true then kvs.map fun q=>if q.1=k then (q.1,d) else q else kvs++[(k,d)]
section
variable {K:aT} {H:Hp}
def cr.val:∀ {ds:List (bC×D)} {xs:List (bC×V)} (k:bC),cr K H ds xs->(cF ds k=none/\ky xs k=none)\/∃ d v,cF ds k=some d/\ky xs k=some v/\cS K H d v
 | [],_,k,h=>by cases h;exact .inl ⟨rfl,rfl⟩
 | (k',d)::r,_,k,⟨v,vs,e,h1,h⟩=>by
  subst e;by_cases q:k'=k
  .exact .inr ⟨d,v,by simp [cF,XB,q],mj q,h1⟩
  .rw [ml (p:=(k',v)) q,show cF ((k',d)::r) k=cF r k by simp [cF,XB,q]];exact cr.val k h
theorem cr.len:∀ {ds:List (bC×D)} {xs:List (bC×V)},cr K H ds xs->ds.length=xs.length
 | [],_,h=>by cases h;rfl
 | (k',d)::r,_,⟨v,vs,e,_,h⟩=>by subst e;simp [cr.len h]
def cr.snoc:∀ {ds:List (bC×D)} {xs:List (bC×V)} {k:bC} {d:D} {v:V},cr K H ds xs->cS K H d v->cr K H (ds++[(k,d)]) (xs++[(k,v)])
 | [],_,k,d,v,h,hd=>by cases h;exact ⟨v,[],rfl,hd,rfl⟩
 | (k',d')::r,_,k,d,v,⟨v',vs,e,h1,h⟩,hd=>by subst e;exact ⟨v',_,rfl,h1,cr.snoc h hd⟩
def cr.repl:∀ {ds:List (bC×D)} {xs:List (bC×V)} (k:bC) {d:D} {v:V},cr K H ds xs->cS K H d v ->
  cr K H (ds.map fun q=>if q.1=k then (q.1,d) else q) (xs.map fun q=>if q.1=k then (q.1,v) else q)
 | [],_,k,d,v,h,hd=>by cases h;exact rfl
 | (k',d')::r,_,k,d,v,⟨v',vs,e,h1,h⟩,hd=>by
  subst e;rw [By,By];have J:=cr.repl k h hd;by_cases q:k'=k
  .rw [acW q,acW q];exact ⟨v,_,rfl,hd,J⟩
  .rw [acX q,acX q];exact ⟨v',_,rfl,h1,J⟩
def cr.put (h:cr K H ds xs) (J:cS K H d v):cr K H (fw ds k d) (oE xs k v):=by
 have e:(cF ds k).isSome=(ky xs k).isSome:=by
  rcases h.val k with ⟨a,b⟩|⟨a,b,Y,L,_⟩
  .rw [a,b];rfl
  .rw [Y,L];rfl
 unfold fw oE;rw [sT,e];split
 .exact h.repl k J
 .exact h.snoc J
end
section
variable {X:Cx} {W:Wd} {Ob O O':ac2} {a b e:Yb} {φ ψ χ ε:FE} {pos p1 p2 apos cpos:Pos} {x:Str}
def EV:V->V->V->Hp->(Hp->Prop)->Prop:=fun o i v H Q=>∃ p kvs k,o=.ref p/\i=kV k/\H p=some (.dK kvs)/\kvs.length < Xd/\Q (upd H p (.dK (oE kvs k v)))
def uq (hu:X.A.units+1 < ZM):P9 X EV:=by
 intro af s Z H o i v ov iv u Q I ro ri J h;obtain ⟨p,kvs,k,rfl,rfl,hp,L,q⟩:=h;cases ro;exact GF hu I (LI.k hp L) ri J fun s' Y=>⟨_,Y,q⟩
def u9 (i:Nat) (ψ ε:FE):FS:=fun U=>match U[i]? with
 | some (some (.dct kvs))=>(ε U).bind fun d=>(ψ U).bind fun k=>match kG k with
  | some k=>if kvs.length < 1000000 then .ok (.nx (U.set i (some (.dct (fw kvs k d))))) else .no
  | none=>.no
 | _=>.no
def vE {i:Nat} {Y:Yb} {J:Pos} (hu:X.A.units+64 < ZM) (hi:i∈O) (he:JE X e (tD W O ε)) (hie:JE X Y (tD W O ψ)) (hN:X.N[i]?=some x:=by rfl) (hv:Cz X.env.scope x:=by walk_at"v") (hd:adb x:=by decide)
  (hcd:(x==("__classdict__":Str))=false:=by decide) (hs:swapsWithSole [.Subscript (.Name x p1) Y J] e pos.line X.env=pure false:=by rfl) (hw:swappedStores [.Subscript (.Name x p1) Y J] e X.env=pure none:=by rfl)
  (h1:(Yk [.Subscript (.Name x p1) Y J] X.env).map (·.2)=[assign (.Subscript (.Name x p1) Y J) X.env]:=by rfl)
  (ha:∀ v,assign (.Subscript (.Name x p1) Y J) X.env v=(do
   let ov <- holding [v] (eval (.Name x p1) X.env)
   let iv <- holding [v,ov] (eval Y X.env)
   abv J
   holding [v,ov,iv] (setItem ov iv v)
   release [v,ov,iv] []):=by intro _;rfl) :
  JS X (.Assign [.Subscript (.Name x p1) Y J] e pos) (sD W Ob O O (u9 i ψ ε)) :=
 (C6 he (Dp (jv i hN hv hd hcd) hie (uq (by omega)) ha) hs hw h1).imp fun D Z H hh=>fH hh fun as0 B own U I h=>by
  obtain ⟨a,hza⟩:=gR I.olen hi;obtain ⟨d,o,h1,h2,h3,h4⟩:=I.owns i a hza;unfold u9 at h;rw [h1] at h;cases d with
  | dct ds =>
   obtain ⟨xs,rfl,q⟩:=h4;refine ⟨as0,B,own,U,I,gk I h fun y v H2 s2 d2 hq=>?_⟩;have e0:Gf (xc i) (tD W O ψ) EV v Z H2 D.nx=zF Z[i]? H2 (fun o H1=>tD W O ψ Z H1 fun i H2=>EV o i v H2 fun H3=>D.nx Z H3):=rfl;rw [e0,h2];refine ⟨as0,B,own,U,I.mono s2,gk (I.mono s2) hq fun k u H3 s3 d3 L=>?_⟩;cases e:kG k with
   | none=>rw [e] at L;exact L.elim
   | some ks =>
    rw [e] at L;have L:bI W as0 B Ob O (if ds.length < 1000000 then .ok (.nx (U.set i (some (.dct (fw ds ks y))))) else .no) D:=L;split at L
    .rename_i hl;have hu:=mR d3 e;subst hu;have hm:=eG;refine ⟨a,xs,ks,rfl,rfl,(s2.trans s3) _ _ h3,by rw [<- q.len];omega,?_⟩;exact L own Z _ (((I.mono s2).mono s3).mutate hza ⟨_,rfl,(q.mono (aW (s2.trans s3))).put (d2.mono (aW s3))⟩)
    .exact L.elim
  | _=>exact h.elim
def ik:D->Option (List (bC×D))
 | .dct k=>some k
 | .dcf k=>some k
 | _=>none
def iG {K:aT} {H:Hp} {d:D} {v:V} {ds:List (bC×D)} (h:cS K H d v) (e:ik d=some ds):∃ p xs,v=.ref p/\Rd H p (.dK xs)/\cr K H ds xs:=by
 cases d with
 | dct k=>cases e;obtain ⟨p,xs,rfl,h1,h2⟩:=h;exact ⟨p,xs,rfl,.inl h1,h2⟩
 | dcf k=>cases e;obtain ⟨p,o,xs,rfl,h1,h2⟩:=h;exact ⟨p,xs,rfl,.inr ⟨o,h1⟩,h2⟩
 | _=>cases e
def wA.rd {H:Hp} {p:Le} {xs:List (bC×V)} {k:bC} (h:Rd H p (.dK xs)):wA H p (kV k) (ky xs k):=.inl ⟨xs,k,h,rfl,rfl⟩
def IZ (neg:Bool):R2:=fun x y H Q=>∃ p kvs k,x=kV k/\y=.ref p/\Rd H p (.dK kvs)/\Q (.bl (if neg=true then !(ky kvs k).isSome else (ky kvs k).isSome)) H
def Cy (hu:X.A.units+64 < ZM):eZ X (Xn .In) (IZ false):=by
 intro af s Z H x y v u Q I L J h;obtain ⟨p,kvs,k,rfl,rfl,hp,q⟩:=h;cases J;exact Vv (by omega) I (wA.rd hp) L fun s' Y=>⟨.bl _,H,Y,rfl,q⟩
def uh (hu:X.A.units+64 < ZM):eZ X (Xn .NotIn) (IZ true):=by
 intro af s Z H x y v u Q I L J h;obtain ⟨p,kvs,k,rfl,rfl,hp,q⟩:=h;cases J;exact Nh (by omega) I (wA.rd hp) L fun s' Y=>⟨.bl _,H,Y,rfl,q⟩
def Hz (a b:D):Option Bool:=(ik b).bind fun kvs=>(kG a).map fun k=>(cF kvs k).isSome
def DC (a b:D):R D:=gH (Hz a b) fun k=>k
def pX (a b:D):R D:=gH (Hz a b) fun k=>!k
def FH {K:aT} {H:Hp} {ds:List (bC×D)} {xs:List (bC×V)} (h:cr K H ds xs) (k:bC):(cF ds k).isSome=(ky xs k).isSome:=by
 rcases h.val k with ⟨a,b⟩|⟨a,b,L,J,_⟩
 .rw [a,b];rfl
 .rw [L,J];rfl
def N5 (neg:Bool):rE W (IZ neg) (fun a b=>gH (Hz a b) fun k=>if neg=true then !k else k):=by
 intro as H x y a b Q hn J Y h;have h:cO W as H (gH (Hz a b) fun k=>if neg=true then !k else k) Q:=h;unfold Hz at h;cases e:ik b with
 | none=>rw [e] at h;exact h.elim
 | some kvs =>
  cases e2:kG a with
  | none=>rw [e,e2] at h;exact h.elim
  | some k =>
   rw [e,e2] at h;obtain ⟨p,xs,rfl,h1,h2⟩:=iG Y e;have L:=mR J e2;subst L;refine ⟨p,xs,k,rfl,rfl,(ax _ _).rd h1,?_⟩;rw [<- FH h2 k];exact aP (d:=.bl (if neg=true then !(cF kvs k).isSome else (cF kvs k).isSome)) h rfl
def O8:rE W (IZ false) DC:=N5 false
def Al:rE W (IZ true) pX:=N5 true
def j8 (a b:D):R D:=match ik a with
 | some kvs=>(match kG b with
  | some k=>(match cF kvs k with
   | some d=>.ok d
   | none=>.no)
  | none=>.no)
 | none=>.no
def on (hu:X.A.units+64 < ZM) (ha:JE X a (tD W O φ)) (hb:JE X b (tD W O ψ)) (hs:J5 b:=by exact fun _ _=>rfl):JE X (.Subscript a b pos) (tD W O (aE j8 φ ψ)) :=
 JE.imp ⟨Fd (by omega) ha.out hb.out hs⟩ fun Z H Q hh=>fH hh fun as0 B own U I h=>⟨as0,B,own,U,I,bZ h fun x v H1 s1 d1 h1=>⟨as0,B,own,U,I.mono s1,bZ h1 fun y u H2 Y d2 h2=>by
  unfold j8 at h2;cases e0:ik x with
  | none=>rw [e0] at h2;exact h2.elim
  | some kvs =>
   rw [e0] at h2;dsimp only at h2;obtain ⟨p,xs,rfl,q1,q2⟩:=iG d1 e0;cases e:kG y with
   | none=>rw [e] at h2;exact h2.elim
   | some k =>
    rw [e] at h2;dsimp only at h2;have hy:=mR d2 e;subst hy;rcases (q2.mono (aW Y)).val k with ⟨J,L⟩|⟨d,v,J,L,c3⟩
    .rw [J] at h2;exact h2.elim
    .rw [J] at h2;exact ⟨p,v,rfl,L ▸ wA.rd (Y.rd ((ax _ _).rd q1)),aP h2 c3⟩⟩⟩
def Jy (xs:ac9) (H:Hp) (Q:VK):Prop:=∃ p kvs,xs=[.ref p]/\Rd H p (.dK kvs)/\∀ l,H l=none->Q (.ref l) (upd H l (.dK kvs))
def nT:cg X (.type "dict") Jy:=by
 intro af s Z H xs us Q I r h;obtain ⟨p,kvs,rfl,hp,q⟩:=h;obtain ⟨u,rfl,L⟩:=mz r;cases L;exact HI I hp fun l s' J Y=>⟨.ref l,_,Y,rfl,q l J⟩
def FP (ds:ada):R D:=match ds with
 | [d]=>(match ik d with
  | some kvs=>.ok (.dct kvs)
  | none=>.no)
 | _=>.no
def Qf:B2 W Jy FP:=by
 intro as H xs ds Q hn L h;unfold FP at h;split at h
 .obtain ⟨v,rfl,d1⟩:=ja L;split at h
  .rename_i kvs e;obtain ⟨p,vs,rfl,q1,q2⟩:=iG d1 e;exact ⟨p,vs,rfl,(ax _ _).rd q1,fun l J=>h l _ _ (aU J _) J aS ⟨vs,rfl,q2.mono (ji J (aU J _))⟩⟩
  .exact h.elim
 .exact h.elim
end
def uT (a b:D):Option Bool:=match iW a,iW b with
 | some p,some q=>if X1 p=true/\p.depth<=32/\X1 q=true then some (Y4 p q) else none
 | _,_=>none
def GO (h:uT a b=some k):∃ p q,iW a=some p/\iW b=some q/\X1 p=true/\p.depth<=32/\X1 q=true/\k=Y4 p q:=by
 unfold uT at h;split at h
 .rename_i p q h1 h2;split at h
  .rename_i hs;cases h;exact ⟨p,q,h1,h2,hs.1,hs.2.1,hs.2.2,rfl⟩
  .cases h
 .cases h
def qG (J:List (bC×D)):List (bC×D)->Option Bool
 | []=>some true
 | (k,d)::r=>match cF J k with
  | none=>some false
  | some y=>(uT d y).bind fun e=>(qG J r).map fun b=>e&&b
def Ku (J L:List (bC×D)):Option Bool:=if J.length=L.length then qG L J else some false
def xH (a b:D):Option Bool:=(ik a).bind fun J=>(ik b).bind fun L=>Ku J L
def Lz (a b:D):R D:=gH (xH a b) fun k=>!k
section
variable {X:Cx} {W:Wd}
def z9 {H:Hp} (I:Inv X af Z H s) (hu:X.A.units+64 < ZM) (hb:cr X.K H kb yb) (rb:KV yb vb) :
  ∀ {J:List (bC×D)} {ya:List (bC×V)} {va:List (bC×eQ)} {r:Bool},cr X.K H J ya->KV ya va->qG kb J=some r->PySem.W.KeqHits X.A.in1 s vb va r
 | [],_,_,_,h,rv,e=>by
  cases h;cases rv;cases e;exact .nil
 | (k,d)::J,_,_,r,⟨v,vs,e0,h1,h2⟩,rv,e=>by
  subst e0;cases rv with
  | @cons _ u _ us r1 r2 =>
   obtain ⟨ku,vu⟩:=u;obtain ⟨e1,r1⟩:=r1;have e1:k=ku:=e1;subst e1;unfold qG at e;have L:=KV.val rb k;rcases hb.val k with ⟨c1,Y⟩|⟨y,w,c1,Y,c3⟩
   .rw [c1] at e;cases e;rw [Y] at L;exact .miss L.none_of
   .rw [c1] at e;rw [Y] at L;obtain ⟨w',e2,rw'⟩:=L.some_of;dsimp only at e;cases q1:uT d y with
    | none=>rw [q1] at e;cases e
    | some b1 =>
     rw [q1] at e;have e:(qG kb J).map (fun b=>b1&&b)=some r:=e;cases q2:qG kb J with
     | none=>rw [q2] at e;cases e
     | some b2 =>
      rw [q2] at e;cases e;obtain ⟨p,q,t1,t2,t3,t4,t5,rfl⟩:=GO q1;obtain ⟨as,ra⟩:=fI I h1 r1 t1;obtain ⟨bs,rb'⟩:=fI I c3 rw' t2;refine .hit e2 (acB p q X.A.in1 s _ _ as bs ra rb' (Zi t3) (Zi t5) ?_) (z9 I hu hb rb h2 r2 q2);have h1:=abm p.depth q.depth;have h3:X.A.in1.units=X.A.units+1:=rfl;omega
def SC (K:aT):R2:=fun x y H Q=>∃ p q a b xs ys k,x=.ref p/\y=.ref q/\Rd H p (.dK xs)/\Rd H q (.dK ys)/\cr K H a xs/\cr K H b ys/\Ku a b=some k/\Q (.bl (!k)) H
def QY (K:aT) (hu:X.A.units+64 < ZM) (hK:X.K=K:=by rfl):eZ X (Xn .NotEq) (SC K):=by
 subst hK;intro af s Z H x y v u Q I rx ry h;obtain ⟨p,q,a,b,xs,ys,k,rfl,rfl,hp,hq,da,db,e,hQ⟩:=h;cases rx;cases ry;obtain ⟨_,h1,va,ra,d1⟩:=oV I.hok hp;obtain ⟨_,h2,vb,Y,d2⟩:=oV I.hok hq;have l1:a.length=va.length:=da.len.trans (show Paired _ _ _ from ra).length;have l2:b.length=vb.length:=db.len.trans (show Paired _ _ _ from Y).length;have L:(if a.length=b.length then qG b a else some false)=some k:=e;by_cases J:a.length=b.length
 .rw [acW J] at L;refine acR (r:=k) h1 h2 d1 d2 (by omega) (fun _=>z9 I hu db Y da ra L) ⟨.bl (!k),H,I,?_,hQ⟩
  have:(va.length==vb.length)=true:=by rw [<- l1,<- l2,J];exact beq_self_eq_true _
  rw [this];rfl
 .rw [acX J] at L;cases L;refine acR (r:=false) h1 h2 d1 d2 (by omega) (fun z=>absurd (l1.trans (z.trans l2.symm)) J) ⟨.bl (!false),H,I,?_,hQ⟩;rw [abJ];rfl
def VS (K:aT) (hW:W.K=K:=by rfl):rE W (SC K) Lz:=by
 subst hW;intro as H x y a b Q hn da db h;have h:cO W as H (gH (xH a b) fun k=>!k) Q:=h;cases e:xH a b with
 | none=>rw [e] at h;exact h.elim
 | some k =>
  rw [e] at h;have h':cO W as H (.ok (.bl (!k))) Q:=h;unfold xH at e;cases ea:ik a with
  | none=>rw [ea] at e;cases e
  | some ka =>
   cases eb:ik b with
   | none=>rw [ea,eb] at e;cases e
   | some J =>
    rw [ea,eb] at e;obtain ⟨p,xs,rfl,h1,h2⟩:=iG da ea;obtain ⟨q,ys,rfl,L,Y⟩:=iG db eb;exact ⟨p,q,ka,J,xs,ys,k,rfl,rfl,(ax _ _).rd h1,(ax _ _).rd L,h2.mono (ax _ _),Y.mono (ax _ _),e,aP h' rfl⟩
end
def t7 (h:vf k u=true):ba (kV k) u:=by
 cases k with
 | inl i =>
  have h:abN i u=true:=h;unfold abN at h;split at h
  .have e:=eq_of_beq h;subst e;exact ⟨_,rfl⟩
  .cases h
 | inr x =>
  have h:Zn x u=true:=h;unfold Zn at h;split at h
  .have e:=eq_of_beq h;subst e;exact ⟨_,rfl⟩
  .cases h
structure FzAt (X:Cx) (H:Hp) (h:YG) (a:Le) (ep:Nat) (xs:List (bC×V)) (vs:List (bC×eQ)):Prop where
 at_:Heap.DictAt (cb X.prog X.w) h a vs ep
 rel:KV xs vs
def Nt (o:Obj):Nat:=match o.data with
 | .dict _ ep=>ep
 | _=>0
def rV {H:Hp} (I:Inv X af Z H s) (e:H a=some (.frz o (.dK xs))) :
  xs.length<=Xd/\(a==YC)=false/\∃ vs,FzAt X H s.heap a (Nt o) xs vs:=by
 obtain ⟨e1,z,Y,vs,r,ob,es,ep,h1,h2,J,L⟩:=(show bT X.prog X.w H s.heap a (.frz o (.dK xs)) from I.hok a _ e);rw [e1] at h1;cases h1
 have:Nt o=ep:=by unfold Nt;rw [J]
 rw [this];exact ⟨z,Y,vs,⟨o,es,e1,h2,J,L⟩,r⟩
def Ih:entryFor table "dict_itemiterator.__iter__"=some Builtin.«dict_keyiterator.__iter__»:=entryFor_alias (id':="dict_keyiterator.__iter__") (by kernel_rfl) (by kernel_rfl) (by kernel_rfl) (by kernel_rfl)
def oB {E:ac5} {Q:ac5} (st:IsItemIter s.heap it d i n ep ok ov) (hQ:Q (.ref it) s):RW (Xa prog w) A (ab8 (.ref it)) Q E s:=by
 have J:s.TypeIs (.ref it) "dict_itemiterator":=⟨_,st,rfl⟩;refine wpAny_pyIter_slot J F.slot_dict_itemiterator_iter (YA F.slot_dict_itemiterator_iter J Ih ?_ (F.args_dict_itemiterator_iter_1 _));unfold Builtin.«dict_keyiterator.__iter__»;refine bY (wpAny_of_eq (a:=(Xr it,[])) rfl ?_);exact oR ⟨_,rfl,"dict_itemiterator",_,J,F.slot_dict_itemiterator_next.lookup,hQ⟩
def HL {xs:List (bC×V)} {vs:List (bC×eQ)} (r:KV xs vs) {i:Nat} {k:bC} {u:eQ} (h:vs[i]?=some (k,u)):∃ v,xs[i]?=some (k,v)/\ba v u:=by
 unfold KV at r;induction r generalizing i with
 | nil=>simp at h
 | @cons p q ps qs hq t ih =>
  cases i with
  | zero=>simp at h;subst h;exact ⟨p.2,by obtain ⟨p1,p2⟩:=p;simp at hq ⊢;exact hq.1,hq.2⟩
  | succ i=>simpa using ih (by simpa using h)
def ItK (a:Le) (o:Obj) (xs:List (bC×V)):It :=
 ⟨fun i H=>H a=some (.frz o (.dK xs))/\i < xs.length,fun i H v H'=>H'=H/\∃ k x,xs[i]?=some (k,x)/\v=kV k,fun i H=>H a=some (.frz o (.dK xs))/\i=xs.length⟩
def Gy {P:Xh} {w:Xv} {K:aT} {tg:Yb} (it a:Le) (o:Obj) (xs:List (bC×V)):Turn P w K tg (ItK a o xs) [it] it (fun i h=>h.IsKeyIter it a i xs.length (Nt o)) where
 mem:=by simp
 obj:=fun i h st b Y=>by
  have e:b=it:=by simpa using Y
  subst e;obtain ⟨o,e,c,d⟩:=st;exact ⟨o,e,fun v z=>by rw [d] at z;cases z⟩
 keep:=fun i h h' st k=>by obtain ⟨o,e,c,d⟩:=st;exact ⟨o,k it (by simp) o e,c,d⟩
 item:=by
  intro X hP hw hK hc i af s Z H E I hf st hg;subst hP hw;obtain ⟨hq,hi⟩:=hg;obtain ⟨z,hd,vs,F⟩:=rV I hq;obtain ⟨f0,f1,f2,f3,f4,f5⟩:=hf it (by simp);have hl:=F.rel.length;have L:a≠it:=fun z=>by rw [z,f0] at hq;cases hq
  have W:=Walks.dictKeys (knd:=cb X.prog X.w) (I.ok.hd hc) it a L vs (Nt o);rw [hl] at st;refine bf I.tk (W.item i s _ _ (by rw [<- hl];exact hi) ⟨st,F.at_⟩ fun v h' tk hv st' kk htk=>?_);obtain ⟨k,x,h1,h2⟩:=hv;obtain ⟨y,h3,_⟩:=HL F.rel h1;have I1:Inv X af Z H { s with heap:=h',toks:=tk }:=I.turned (fun b o Y e=>kk b o (by simpa using Y) e) f0 f1 f3 f4 f5;have J:=st'.1;obtain ⟨o2,e,c,d⟩:=id J;rw [<- hl] at J;exact ⟨v,rfl,BN (s:={ s with heap:=h',toks:=tk }) e c d (by decide) ⟨kV k,H,I1,t7 h2,⟨rfl,k,y,h3,rfl⟩,J,fun b Y=>(hf b Y).1⟩⟩
 done:=by
  intro X hP hw hK hc i af s Z H E I hf st hg;subst hP hw;obtain ⟨hq,hi⟩:=hg;obtain ⟨z,hd,vs,F⟩:=rV I hq;obtain ⟨f0,f1,f2,f3,f4,f5⟩:=hf it (by simp);have hl:=F.rel.length;have L:a≠it:=fun z=>by rw [z,f0] at hq;cases hq
  have W:=Walks.dictKeys (knd:=cb X.prog X.w) (I.ok.hd hc) it a L vs (Nt o);rw [hi,hl] at st;exact bf I.tk (W.done s _ _ ⟨st,F.at_⟩ fun h' tk kk htk=>⟨rfl,I.turned (fun b o Y e=>kk b o (by simpa using Y) e) f0 f1 f3 f4 f5⟩)
 self:=fun _ _ _ _ _ st h=>wpAny_pyIter_keyiter st h
def ItP (a:Le) (o:Obj) (xs:List (bC×V)):It :=
 ⟨fun i H=>H a=some (.frz o (.dK xs))/\i < xs.length,fun i H v H'=>∃ p k x,xs[i]?=some (k,x)/\H p=none/\H'=upd H p (.tup [kV k,x])/\v=.ref p,fun i H=>H a=some (.frz o (.dK xs))/\i=xs.length⟩
def Dx {P:Xh} {w:Xv} {K:aT} {elts:List Yb} {k:Nat} {pos:Pos} (it a:Le) (o:Obj) (xs:List (bC×V)) :
  Turn P w K (.Tuple elts k pos) (ItP a o xs) [it] it (fun i h=>∃ ok ov,IsItemIter h it a i xs.length (Nt o) ok ov) where
 mem:=by simp
 obj:=fun i h st b J=>by
  have e:b=it:=by simpa using J
  subst e;obtain ⟨ok,ov,e⟩:=st;exact ⟨_,e,fun v z=>by cases z⟩
 keep:=fun i h h' st k=>by obtain ⟨ok,ov,e⟩:=st;exact ⟨ok,ov,k it (by simp) _ e⟩
 item:=by
  intro X hP hw hK hc i af s Z H E I hf st hg;subst hP hw;obtain ⟨hq,hi⟩:=hg;obtain ⟨ok,ov,st⟩:=st;obtain ⟨z,hd,vs,F⟩:=rV I hq;obtain ⟨f0,f1,f2,f3,f4,f5⟩:=hf it (by simp);have hl:=F.rel.length;rw [hl] at st;have hi':i < vs.length:=by rw [<- hl];exact hi
  obtain ⟨⟨kk,u⟩,hv⟩:∃ q,vs[i]?=some q:=⟨vs[i],rW hi'⟩;refine wpAny_pyNext_items_item st F.at_ hv fun key h' hk so ht hsz kp=>?_;obtain ⟨y,h3,ry⟩:=HL F.rel hv;refine ⟨_,rfl,wpAny_letOwnedTupleGo_items so fun h'' st'' sb=>?_⟩;have hTn:H s.heap.objs.size=none:=I.hok.fresh (mK _);have Y:s.heap.objs.size≠it:=fun z=>absurd (MK (show s.heap.get? it=some _ from st)) (by rw [z];exact Y9 _);have L:aam h'' s.heap.objs.size [key,u].toArray:=⟨_,(sb.2 _ Y).trans ht,rfl,_,rfl⟩;refine ⟨.ref s.heap.objs.size,upd H s.heap.objs.size (.tup [kV kk,y]),I.turnedT (t':=s.toks) (ch:=[it]) (fun b J=>by rw [OR.mp J];exact hf it (by simp)) (fun b o J e=>(sb.2 b (by simpa using J)).trans (kp b o (by simpa using J) e)) (mK _) (by show 2<=Xd;decide) (.cons (t7 hk) (.cons ry .nil)) L,rfl,
   ⟨s.heap.objs.size,kk,y,h3,hTn,rfl,rfl⟩,⟨key,u,by rw [hl];exact st''⟩,fun b J=>?_⟩
  have e:b=it:=by simpa using J
  rw [e,aM Y.symm];exact f0
 done:=by
  intro X hP hw hK hc i af s Z H E I hf st hg;subst hP hw;obtain ⟨hq,hi⟩:=hg;obtain ⟨ok,ov,st⟩:=st;obtain ⟨z,hd,vs,F⟩:=rV I hq;obtain ⟨f0,f1,f2,f3,f4,f5⟩:=hf it (by simp);have hl:=F.rel.length;rw [hl] at st;exact wpAny_pyNext_items_end (I.ok.hd hc) st F.at_ (abp (by omega)) fun h' eb=>⟨rfl,I.turned (t':=s.toks) (fun b o J e=>eb b o J e) f0 f1 f3 f4 f5⟩
 self:=fun _ _ _ _ _ st h=>let ⟨_,_,st⟩:=st;oB st h
def cr.get {K:aT} {H:Hp}:∀ {ds:List (bC×D)} {xs:List (bC×V)} {i:Nat} {k:bC} {v:V},cr K H ds xs->xs[i]?=some (k,v)->∃ d,ds[i]?=some (k,d)/\cS K H d v
 | [],_,i,k,v,h,e=>by cases h;simp at e
 | (k',d)::r,_,0,k,v,⟨v',vs,e,h1,h⟩,q=>by subst e;simp at q;obtain ⟨rfl,rfl⟩:=q;exact ⟨d,rfl,h1⟩
 | (k',d)::r,_,i+1,k,v,⟨v',vs,e,h1,h⟩,q=>by
  subst e;obtain ⟨d',q1,q2⟩:=cr.get (i:=i) h (by simpa using q);exact ⟨d',by simpa using q1,q2⟩
section
variable {X:Cx} {W:Wd} {O:ac2} {l:Yb} {tg:Yb} {ε:FE} {apos cpos:Pos} {elts:List Yb} {k:Nat} {tpos:Pos}
def N8 (d:D):R (ada):=match d with
 | .dcf kvs=>.ok (kvs.map fun q=>rG q.1)
 | _=>.no
def Em (ε:FE):FA:=fun U=>(ε U).bind N8
def MJ (h:JE X l (tD W O ε)):JI X tg l (iD W O (Em ε)):=⟨fun af s Z H R I ⟨as0,B,own,U,DIh,q⟩=>by
 refine dg (h.out af s Z H (fun v H1=>∃ d,cS W.K (aH (own++as0) H1) d v/\jD W as0 own H1 (N8 d) R) I ⟨as0,B,own,U,DIh,qT q fun d v H1 s1 d1 L=>⟨d,d1,L⟩⟩) fun u s1 ⟨x,H1,I1,rx,d,dv,L⟩=>?_;cases d with
 | dcf ds =>
  obtain ⟨a,o,xs,rfl,h1,h2⟩:=dv;cases rx;have Y:=ax _ _ _ _ h1;obtain ⟨z,hd,vs,F⟩:=rV I1 Y;have hl:=F.rel.length;refine wpAny_pyIter_dict hd F.at_ ?_;refine ⟨s1.heap.objs.size,[s1.heap.objs.size],_,_,H1,rfl,I1.kept (t':=s1.toks) fun b o e=>dO _ e,Gy s1.heap.objs.size a o xs,⟨_,ID _ rfl,rfl,by rw [hl];rfl⟩,fun b hb=>?_,L _ H1 (az.refl _) ?_⟩
  .have e:b=s1.heap.objs.size:=by simpa using hb
   subst e;exact I1.fpOk (mK _) (I1.hok.fresh (mK _))
  .rw [mG] at h1 h2;have ll:(ds.map fun q=>rG q.1).length=xs.length:=by rw [lE];exact h2.len
   refine ⟨fun i H2 J hi=>⟨J _ _ h1,by rw [<- ll];exact hi⟩,fun i H2 v H3 M J _ hM hi hy=>?_,fun H2 J=>⟨J _ _ h1,ll⟩⟩;obtain ⟨rfl,k,y,e1,rfl⟩:=hy;obtain ⟨d,e2,_⟩:=h2.get e1;exact ⟨az.refl _,rG k,by rw [Xw,e2];rfl,we k⟩
 | _=>exact L.elim⟩
def Dc {E:ac5} {Q:ac5} (J:s.TypeIs (.ref d) "dict") (L:(d==YC)=false)
  (hQ:Q (.ref s.heap.objs.size) { s with heap:=s.heap.push { cls:=.type "dict_items",data:=.fields #[.ref d] } }):RW (Xa prog w) A (call (.builtin "dict.items") [.ref d]) Q E s:=by
 refine YA F.slot_dict_items J F.entry_dict_items ?_ (F.args_dict_items_1 _);unfold Builtin.«dict.items»;refine bY ?_;unfold Builtin.Dict.noArgs;refine bY (wpAny_notOrdered_dict J ?_);refine bY (wpAny_of_eq (a:=()) (by first|rfl|(simp [Builtin.Dict.nameIsSure];rfl)) ?_);show RW _ _ (pure (Xr d) >>= _) _ _ s;refine bY (oR ?_);show RW _ _ (pure d) _ _ s;refine oR ?_;unfold Builtin.Dict.showsAll;rw [acX (by rw [L];exact nE)];refine bY (oR ?_);unfold newFields;refine bY (Yl ?_);exact oR ⟨_,rfl,hQ⟩
def IL (d:D):R (ada):=match d with
 | .dcf kvs=>.ok (kvs.map fun q=>D.tup [rG q.1,q.2])
 | _=>.no
def zK (ε:FE):FA:=fun U=>(ε U).bind IL
def HM (h:JE X l (tD W O ε)) (Y:YE l "items" X.env (eval l X.env)=eval l X.env:=by rfl) (L:(apos.endLine==cpos.line)=true:=by rfl) :
  JI X (.Tuple elts k tpos) (.Call (.Attribute l "items" apos) [] [] cpos) (iD W O (zK ε)):=⟨fun af s Z H R I ⟨as0,B,own,U,DIh,q⟩=>by
 refine wpAny_Call_method0_late Y L (dg (h.out af s Z H (fun v H1=>∃ d,cS W.K (aH (own++as0) H1) d v/\jD W as0 own H1 (IL d) R) I ⟨as0,B,own,U,DIh,qT q fun d v H1 s1 d1 hq=>⟨d,d1,hq⟩⟩) fun u s1 ⟨x,H1,I1,rx,d,dv,hq⟩=>?_);cases d with
 | dcf ds =>
  obtain ⟨a,o,xs,rfl,h1,h2⟩:=dv;cases rx;have J:=ax _ _ _ _ h1;obtain ⟨z,hd,vs,F⟩:=rV I1 J;have hl:=F.rel.length;obtain ⟨t1,t2,_⟩:=Qt I1 (.inl ⟨xs,.inr ⟨o,J⟩⟩);refine ⟨"dict","dict.items",PySem.F.plainAttrs_dict,PySem.F.slot_dict_items,PySem.F.type_dict_items,t1,t2,ZZ rfl (PySem.evalArgs_none (Dc t1 hd ?_))⟩;have I2:=I1.kept (t':=s1.toks) (h':=s1.heap.push { cls:=.type "dict_items",data:=.fields #[.ref a] }) fun b o e=>dO _ e;obtain ⟨z,hd,vs,F⟩:=rV I2 J;have hl:=F.rel.length;refine wpAny_pyIter_items ⟨_,ID _ rfl,rfl,rfl⟩ F.at_ ?_;have hb0:∀ {b:Le},b=(s1.heap.push { cls:=.type "dict_items",data:=.fields #[.ref a] }).objs.size->ib X af H1 b:=fun {b} e=>by
   subst e;exact I2.fpOk (mK _) (I2.hok.fresh (mK _))
  refine ⟨_,[_],_,_,H1,rfl,I2.kept (t':=s1.toks) fun b o e=>dO _ e,Dx _ a o xs,⟨.none,.none,by rw [hl];exact ID _ rfl⟩,fun b hb=>hb0 (by simpa using hb),hq _ H1 (az.refl _) ?_⟩;rw [mG] at h1 h2;have ll:(ds.map fun q=>D.tup [rG q.1,q.2]).length=xs.length:=by rw [lE];exact h2.len
  refine ⟨fun i H2 s2 hi=>⟨s2 _ _ h1,by rw [<- ll];exact hi⟩,fun i H2 v H3 M s2 hM1 hM hi hy=>?_,fun H2 s2=>⟨s2 _ _ h1,ll⟩⟩;obtain ⟨p,k,y,e1,hp,rfl,rfl⟩:=hy;obtain ⟨d,e2,dd⟩:=h2.get e1;have hpM:p∉M:=fun z=>hM1 p z hp;refine ⟨aU hp _,.tup [rG k,d],by rw [Xw,e2];rfl,p,[kV k,y],rfl,.inl (.inl (by rw [aO hpM];exact aS)),aJ.cons (we k) (aJ.cons (dd.mono ((kM s2 hM).trans (aW (aU hp _)))) aJ.nil)⟩
 | _=>exact hq.elim⟩
end
def qS.look {K:aT} {H:Hp} {f:Str}:∀ {fs:List (Str×D)} {xs:List (Str×V)} {d:D},qS K H fs xs->fs.lookup f=some d->∃ v,xs.lookup f=some v/\cS K H d v
 | [],_,_,h,e=>by cases e
 | (g,d')::r,_,d,⟨v,vs,e0,h1,h⟩,e=>by
  subst e0;rw [Yz] at e ⊢;cases q:f==g with
  | true=>rw [q] at e;cases e;exact ⟨v,rfl,h1⟩
  | false=>rw [q] at e;exact qS.look h e
def vw (n f:Str) (d:D):R D:=match d with
 | .obj m fs=>if m=n then (match fs.lookup f with
  | some d=>.ok d
  | none=>.no) else .no
 | _=>.no
def ic (n f:Str) (φ:FE):FE:=fun U=>(φ U).bind (vw n f)
section
variable {X:Cx} {W:Wd} {O:ac2} {e:Yb} {es:List Yb} {φ:FE} {α:FA} {pos p:Pos} {n f:Str} {C:Le}
def fB (K:aT) (hn:Xg K W9 n=some (some (.ref C))) (hc:Cls K C) (hf:iz K C f) (he:JE X e (tD W O φ)) (hb:YE e f X.env (eval e X.env)=eval e X.env:=by rfl) (Y:X.K=K:=by rfl) (J:W.K=K:=by rfl) :
  JE X (.Attribute e f pos) (tD W O (ic n f φ)) :=
 JE.imp ⟨OI he.out hb⟩ fun Z H Q hh=>fH hh fun as0 B own U I h=>⟨as0,B,own,U,I,bZ h fun x v H1 s1 d1 h1=>by
  subst Y;cases x with
  | obj m fs =>
   by_cases e:m=n
   .subst e;have h1:cO W (own++as0) H1 (vw m f (.obj m fs)) Q:=h1;unfold vw at h1;dsimp only at h1;rw [acW rfl] at h1;rw [J] at d1;obtain ⟨a,C',dx,xs,rfl,h2,L,h4⟩:=d1;rw [hn] at h2;cases h2;cases e2:fs.lookup f with
    | none=>rw [e2] at h1;exact h1.elim
    | some d =>
     rw [e2] at h1;obtain ⟨v,q1,q2⟩:=h4.look e2;exact ⟨a,C,dx,xs,v,rfl,ax _ _ _ _ L,hc,hf,q1,aP h1 (by rw [J];exact q2)⟩
   .have h1:cO W (own++as0) H1 (vw n f (.obj m fs)) Q:=h1;unfold vw at h1;dsimp only at h1;rw [acX e] at h1;exact h1.elim
  | _=>exact h1.elim⟩
def Iu (C:Le) (J:ac3):Sp:=fun vs H Q _=>∃ x dx us,vs=.ref x::us/\us.length=J.length/\H x=some (.ins C dx [])/\Q .non (upd H x (.ins C dx (J.zip us)))
def JX (n:Str) (J:ac3) (ds:ada):R D:=if ds.length=J.length then .ok (.obj n (J.zip ds)) else .no
def Rv (n:Str) (J:ac3) (α:FA):FE:=fun U=>(α U).bind (JX n J)
def qS.zip {K:aT} {H:Hp}:∀ {J:ac3} {ds:ada} {vs:ac9},aJ K H ds vs->qS K H (J.zip ds) (J.zip vs)
 | [],_,_,h=>rfl
 | f::r,[],_,h=>by cases h;exact rfl
 | f::r,d::ds,_,⟨v,vs,e,h1,h2⟩=>by subst e;exact ⟨v,_,rfl,h1,qS.zip h2⟩
def CW {K:aT} {mg:ac6} {g:Le} {fd:Xz} {ps J:ac3} {j k:Nat} (hn:Xg K W9 n=some (some (.ref C))) (hm:X.mg n=some (.ref C)) (M:Mk K C g) (G:FnOk X.prog X.w X.K X.mg X.base cQ j g fd ps (Iu C J)) (b:kg K fd ps []) (hr:Room k X.A)
  (ha:JA X (e::es) (xG ⟨K,mg,E0⟩ O α)) (hj:j+1<=k:=by decide) (hg:Gl X n:=by rfl) (hdb:(n==("__debug__":Str))=false:=by decide) (h1:aX e=true:=by rfl) (h2:es.all aX=true:=by rfl) (hK:X.K=K:=by rfl) :
  JE X (.Call (.Name n p) (e::es) [] pos) (tN ⟨K,mg,E0⟩ O (Rv n J α)):=by
 subst hK;refine JE.imp ⟨Nx (E:=E0) (dvs:=[]) (ds:=[]) M G (hr.mono hj) hg hm b .nil Ju ha.out hdb (b8 h1) (df h2)⟩ fun Z H Q hh=>fH hh fun as0 B own U I h=>?_;refine ⟨as0,B,own,U,I,i6 h fun ds vs H1 s1 d1 h1 x dx Y hdx hne=>?_⟩;unfold JX at h1;split at h1
 .rename_i hl;rw [XY];have sm:az H1 (upd (upd H1 dx (.own x)) x (.ins C dx (J.zip vs))):=fun c o e=>by
   rw [aM (bB e Y),aM (bB e hdx)];exact e
  refine ⟨x,dx,vs,rfl,by rw [<- d1.len];exact hl,aS,rfl,?_⟩;rw [Av];refine h1 x _ _ sm Y aS ⟨C,dx,_,rfl,hn,qS.zip (d1.mono fun c o e=>?_)⟩;by_cases L:c∈own++as0
  .rw [cU L] at e;cases e
  .rw [aO L] at e;have n1:c≠x:=fun z=>by rw [z,Y] at e;cases e
   rw [aO (fun z=>(iN.mp z).elim n1 L)];exact sm c o e
 .exact h1.elim
end
abbrev K2:Type:=Int×ac2
def BI (x y:K2):Prop:=x.1 < y.1\/(x.1=y.1/\x.2 < y.2)
instance (x y:K2):Decidable (BI x y):=by unfold BI;infer_instance
def K9:_root_.TS.TO BI:=_root_.TS.zS.lex _root_.TS.Fm
def qA:eQ->K2
 | .int i _=>(i,[])
 | .str z _=>(0,z.cps.toList)
 | _=>(0,[])
def sW (x y:YL):Bool:=decide (BI (qA x.1) (qA y.1))
def Th (x:YL):Prop:=∃ i t,x.1=.int i t
def Uz (x:YL):Prop:=∃ z t,x.1=.str z t
section
variable {prog:Xh} {w:Xv} {A:Xs} {E:ac5} {s:iF}
def wo (x y:YL) (h:sW x y=true):sW y x=false:=by
 have h:=ac0 h;exact acY fun g=>K9.irr _ (K9.tr _ _ _ h g)
def wk (x y z:YL) (h:sW y x=false) (g:sW z y=false):sW z x=false:=by
 have h:=of_decide_eq_false h;have g:=of_decide_eq_false g;refine acY fun e=>?_;rcases K9.tri (qA y.1) (qA x.1) with q|q|q
 .exact h q
 .exact g (q ▸ e)
 .exact g (K9.tr _ _ _ e q)
def U1:_root_.TS.Orc (Xa prog w) A E s sW oneType' Th:=by
 refine ⟨wo,wk,fun x y st Q hx L hk J=>?_⟩;obtain ⟨i,t,e1⟩:=hx;obtain ⟨j,u,e2⟩:=L;rw [lt'_eq];refine Xm (abV ?_);rw [hk];have Y:sW x y=decide (i < j):=by unfold sW;rw [e1,e2];simp [qA,BI,abL]
 rw [Y] at J;rw [e1,e2];refine Xm (ab9 (Zc (show RW (Xa prog w) A (oneLt' true (.int i t) (.int j u)) _ _ s from oneLt_int ?_)));exact ⟨rfl,XM J⟩
def VT:_root_.TS.Orc (Xa prog w) A E s sW oneType' Uz:=by
 refine ⟨wo,wk,fun x y st Q hx L hk J=>?_⟩;obtain ⟨i,t,e1⟩:=hx;obtain ⟨j,u,e2⟩:=L;rw [lt'_eq];refine Xm (abV ?_);rw [hk];have Y:sW x y=decide (i.cps.toList < j.cps.toList):=by unfold sW;rw [e1,e2];simp [qA,BI]
 rw [Y] at J;rw [e1,e2];refine Xm (ab9 (Zc (show RW (Xa prog w) A (oneLt' true (.str i t) (.str j u)) _ _ s from oneLt_str ?_)));exact ⟨rfl,XM J⟩
def oQ:∀ {vs:ac8} {x:eQ×eQ},x∈vs.zip vs->x.1=x.2/\x.1∈vs
 | [],_,h=>by simp at h
 | v::r,x,h=>by
  rw [X7] at h;rcases iN.mp h with e|h
  .subst e;exact ⟨rfl,W6⟩
  .exact ⟨(oQ h).1,lT _ (oQ h).2⟩
def vD:∀ (vs:ac8),(vs.zip vs).map (·.2)=vs
 | []=>rfl
 | v::r=>by rw [X7,By,vD r]
def Bt {In:YL->Prop} {P:aae->iF->Prop} (ho:s.heap.get? a=some (XT "list" vs.toArray n)) (hz:vs.length<=63)
  (O':∀ s',_root_.TS.Orc (Xa prog w) A E s' sW oneType' In) (hk:2<=vs.length->keyKind' vs.toArray=pure oneType') (hI:∀ v∈vs,In (v,v))
  (h:∀ out:ac8,out.Perm vs->out.Pairwise (fun x y=>¬ BI (qA y) (qA x))->P (.done (.ret .none)) { s with heap:=sortedHeap s.heap a vs out.toArray }) :
  RW (Xa prog w) A (Builtin.«list.sort» ⟨[.ref a],[]⟩) P E s:=by
 obtain ⟨e1,ho1⟩:∃ e1,(s.heap.update a (Xx fun _=>(#[]:Array eQ))).get? a=some (XT "list" #[] e1):=⟨_,aaD ho fun _=>#[]⟩;have L:(((s.heap.update a (Xx fun _=>(#[]:Array eQ))).push (XT "tuple" vs.toArray 0)).push (XT "list" #[] 0)).get? a=some (XT "list" #[] e1):=dO _ (dO _ ho1);have zl:(vs.toArray.zip vs.toArray).toList=vs.zip vs:=by simp
 have zs:(vs.toArray.zip vs.toArray).size=vs.length:=by rw [<- X8,zl,aay];omega
 unfold Builtin.«list.sort»;dsimp only;rw [acX (by decide),acX (by decide)];refine bY (oR ?_);show RW _ _ (Builtin.List.listItems (.ref a) >>= _) _ _ _;refine bY (listItems_at ho rfl ?_);refine bY (Zq ho rfl ?_ (by rw [Do,XJ];omega) (Xk _));refine bY (seqEpoch_at ho1 rfl ?_);refine bY (wpAny_newTuple ?_ (by show vs.length<=_;rw [XJ];omega));refine bY (wpAny_newList ?_ (Xk _));refine Yc ?_;rw [acX (show ¬ ((YR (XD "key") []).getD XG != XG)=true from nE),acX (show ¬ ((YR (XD "key") []).getD XG != XG)=true from nE)];show RW _ _ _ _ _ { s with heap:=((s.heap.update a (Xx fun _=>(#[]:Array eQ))).push (XT "tuple" vs.toArray 0)).push (XT "list" #[] 0) };refine bY (oR ?_);rw [acX nE];have fin:∀ J:YB,(Xj J).Perm (vs.toArray.zip vs.toArray)->_root_.TS.SegG sW (Xj J) 0 (vs.toArray.zip vs.toArray).size->P (.done (.ret .none)) { s with heap:=sortedHeap s.heap a vs (Array.map (fun x=>x.snd) (Xj J)) }/\(Array.map (fun x=>x.snd) (Xj J)).size<=Xd:=fun J hp hs=>by
  have Y:(Xj J).toList.Perm (vs.zip vs):=by rw [<- zl];exact Zt.mp hp
  have e:Array.map (fun x=>x.snd) (Xj J)=((Xj J).toList.map (·.2)).toArray:=by apply aal.mp;rw [abc]
  refine ⟨?_,?_⟩
  .rw [e];refine h _ (by rw [<- vD vs];rw [vD vs];exact (Y.map _).trans (by rw [vD])) ?_;rw [Z2,aaP];intro i j hi hj hij;have qi:=(oQ (Y.mem_iff.mp (XX hi))).1;have qj:=(oQ (Y.mem_iff.mp (XX hj))).1;rw [X8] at hi hj
   have:=hs i j (Xk _) (by omega) (by rw [<- hp.size_eq];exact hj)
   rw [_root_.TS.Gd hi,_root_.TS.Gd hj] at this;have h1:=of_decide_eq_false this;rw [<- qi,<- qj];simpa using h1
  .rw [Array.size_map,hp.size_eq,zs,XJ];omega
 by_cases h2:vs.length < 2
 .have hn2:vs.toArray.size < 2:=by rw [Do];omega
  rw [acW hn2];refine bY (oR ?_);rw [acW hn2];refine bY (oR ?_);rw [acX (show ¬ ((YR (XD "key") []).getD XG != XG)=true from nE)];obtain ⟨q1,q2⟩:=fin (abA general' (vs.toArray.zip vs.toArray) #[] 7 none) (acK _) fun i j _ hij hj=>by
   have e:i=j:=by omega
   subst e;exact acY (K9.irr _)
  refine bY (seqEpoch_at L rfl ?_);refine bY (Zq L rfl ?_ (Xk _) (YM q2));dsimp only;simp only [bne_self_eq_false,Yo,if_false];exact oR q1
 .have hn2:¬ vs.toArray.size < 2:=by rw [Do];omega
  rw [acX hn2];show RW _ _ (keyKind' vs.toArray >>= _) _ _ _;rw [hk (by omega)];refine bY (oR ?_);rw [acX hn2];refine bY (XC (_root_.TS.xg (O' _) (st:=abA oneType' (vs.toArray.zip vs.toArray) #[] 7 none)
   (Q:=fun _ J=>(Xj J).Perm (vs.toArray.zip vs.toArray)/\aac J=none/\_root_.TS.SegG sW (Xj J) 0 (vs.toArray.zip vs.toArray).size) rfl (fun x hx=>?_) rfl rfl (by show 2<=(vs.toArray.zip vs.toArray).size;omega) (by show (vs.toArray.zip vs.toArray).size<=63;omega) fun J a1 a2 a3=>⟨a1,a2,a3⟩) ?_ fun _ _ z=>z)
  .have hx:x∈(vs.toArray.zip vs.toArray).toList:=hx;rw [zl] at hx;obtain ⟨z1,z2⟩:=oQ hx
   have:x=(x.1,x.1):=by obtain ⟨a,b⟩:=x;simp at z1;rw [z1]
   rw [this];exact hI _ z2
  rintro ⟨⟨⟩,J⟩ s' ⟨rfl,hp,hf,hs⟩;rw [acX (show ¬ ((YR (XD "key") []).getD XG != XG)=true from nE)];obtain ⟨q1,q2⟩:=fin J hp hs;refine bY (seqEpoch_at L rfl ?_);refine bY (Zq L rfl ?_ (Xk _) (YM q2));dsimp only;simp only [bne_self_eq_false,Yo,if_false];split
  .rename_i e he;exact absurd (hf.symm.trans he) (by simp)
  .exact oR q1
end
def WL:D->Option (Bool×K2)
 | .int i=>some (true,(i,[]))
 | .str z=>some (false,(0,z.cps.toList))
 | _=>none
def Hs (b:Bool):ada->Option (List K2)
 | []=>some []
 | d::r=>match WL d with
  | some (c,k)=>if c=b then (Hs b r).map (k::·) else none
  | none=>none
def ww (b:Bool) (k:K2):D:=if b=true then .int k.1 else .str ⟨k.2.toArray⟩
def wB (x y:K2):Bool:=!decide (BI y x)
def Jx (xs:ada):R D:=if xs.length<=63 then (match Hs true xs with
 | some l=>.ok (.lst ((l.mergeSort wB).map (ww true)))
 | none=>(match Hs false xs with
  | some l=>.ok (.lst ((l.mergeSort wB).map (ww false)))
  | none=>.no)) else .no
def EA:D->Option (ada)
 | .lst xs=>some xs
 | .dcf kvs=>some (kvs.map fun q=>rG q.1)
 | _=>none
def zi (ds:ada):R D:=match ds with
 | [d]=>(match EA d with
  | some xs=>Jx xs
  | none=>.no)
 | _=>.no
def IR {K:aT} {H:Hp} {b:Bool}:∀ {ds:ada} {xs:ac9} {us:ac8} {l:List K2},aJ K H ds xs->br xs us->Hs b ds=some l->us.map qA=l/\(∀ v∈us,(if b=true then Th (v,v) else Uz (v,v))/\ba (if b=true then .int (qA v).1 else .str ⟨(qA v).2.toArray⟩) v)
 | [],_,_,_,h,r,e=>by cases h;cases r;cases e;exact ⟨rfl,fun v L=>nomatch L⟩
 | d::ds,_,_,l,⟨v,vs,e0,h1,h2⟩,r,e=>by
  subst e0;cases r with
  | @cons _ u _ us r1 r2 =>
   unfold Hs at e;cases q:WL d with
   | none=>rw [q] at e;cases e
   | some p =>
    obtain ⟨c,k⟩:=p;rw [q] at e;dsimp only at e;split at e
    .rename_i hc;subst hc;cases q2:Hs c ds with
     | none=>rw [q2] at e;cases e
     | some l' =>
      rw [q2] at e;cases e;obtain ⟨Y,a2⟩:=IR h2 r2 q2;have J:qA u=k/\(if c=true then Th (u,u) else Uz (u,u))/\ba (if c=true then .int (qA u).1 else .str ⟨(qA u).2.toArray⟩) u:=by
       cases d with
       | int i=>cases q;cases h1;obtain ⟨t,rfl⟩:=r1;exact ⟨rfl,⟨i,t,rfl⟩,⟨t,rfl⟩⟩
       | str z=>cases q;cases h1;obtain ⟨t,rfl⟩:=r1;exact ⟨rfl,⟨z,t,rfl⟩,⟨t,by simp [qA]⟩⟩
       | _=>cases q
      refine ⟨by rw [By,J.1,Y],fun v L=>?_⟩;rcases iN.mp L with rfl|L
      .exact J.2
      .exact a2 v L
    .cases e
def Gw (a b c:K2) (h:wB a b=true) (g:wB b c=true):wB a c=true:=by
 have h:¬ BI b a:=of_decide_eq_false (by simpa [wB] using h);have g:¬ BI c b:=of_decide_eq_false (by simpa [wB] using g)
 have:¬ BI c a:=fun e=>by
  rcases K9.tri b a with q|q|q
  .exact h q
  .exact g (q ▸ e)
  .exact g (K9.tr _ _ _ e q)
 simp [wB,this]
def FY (a b:K2):(wB a b||wB b a)=true:=by
 by_cases h:BI b a
 .have:¬ BI a b:=fun g=>K9.irr _ (K9.tr _ _ _ h g)
  simp [wB,this]
 .simp [wB,h]
def MW {us out:ac8} (J:out.Perm us) (L:out.Pairwise (fun x y=>¬ BI (qA y) (qA x))):out.map qA=(us.map qA).mergeSort wB:=by
 refine aa0 (le:=fun a b=>wB a b=true) (fun a b _ _ h g=>?_) ?_ (aa7 Gw FY _) ((J.map _).trans (ZH _ _).symm)
 .have h:¬ BI b a:=of_decide_eq_false (by simpa [wB] using h);have g:¬ BI a b:=of_decide_eq_false (by simpa [wB] using g);rcases K9.tri a b with q|q|q
  .exact absurd q g
  .exact q
  .exact absurd q h
 .rw [Z2];exact L.imp fun h=>by simp [wB,h]
def Ol {b:Bool} {vs:ac8} (h:∀ v∈vs,if b=true then Th (v,v) else Uz (v,v)) (h2:2<=vs.length):keyKind' vs.toArray=pure oneType':=by
 match vs,h2 with
 | v1::v2::r,_ =>
  cases b with
  | true =>
   have:∀ {l:ac8},(∀ v∈l,Th (v,v))->∃ ns,IntsAre l ns:=fun {l}=>by
    induction l with
    | nil=>exact fun _=>⟨[],.nil⟩
    | cons v r J=>intro h;obtain ⟨ns,q⟩:=J fun x L=>h x (lT _ L);obtain ⟨i,t,e⟩:=h v W6;exact ⟨i::ns,by rw [show v=.int i t from e];exact .cons i t q⟩
   obtain ⟨ns,q⟩:=this h;exact keyKind_ints q
  | false =>
   have:∀ {l:ac8},(∀ v∈l,Uz (v,v))->∃ ns,StrsAre l ns:=fun {l}=>by
    induction l with
    | nil=>exact fun _=>⟨[],.nil⟩
    | cons v r J=>intro h;obtain ⟨ns,q⟩:=J fun x L=>h x (lT _ L);obtain ⟨i,t,e⟩:=h v W6;exact ⟨i::ns,by rw [show v=.str i t from e];exact .cons i t q⟩
   obtain ⟨ns,q⟩:=this h;exact keyKind_strs q
def Ef:∀ {out:ac8},(∀ v∈out,ba (if b=true then .int (qA v).1 else .str ⟨(qA v).2.toArray⟩) v)->br (out.map fun v=>if b=true then V.int (qA v).1 else .str ⟨(qA v).2.toArray⟩) out
 | [],_=>.nil
 | v::r,h=>.cons (h v W6) (Ef fun x J=>h x (lT _ J))
def Fb {K:aT} {H:Hp} {b:Bool}:∀ (out:ac8),aJ K H ((out.map qA).map (ww b)) (out.map fun v=>if b=true then V.int (qA v).1 else .str ⟨(qA v).2.toArray⟩)
 | []=>rfl
 | v::r=>⟨_,_,rfl,by unfold ww;cases b <;> exact rfl,Fb r⟩
section
variable {X:Cx} {af:ac4} {Z:St} {H:Hp} {s:iF} {Q:VK} {W:Wd} {O:ac2}
def xl {E:ac5} {b:Bool} {us:ac8} {xs:ac9} {ds:ada} {l:List K2} (I:Inv X af Z H s) (r:br xs us) (dn:aJ X.K H ds xs) (hl:Hs b ds=some l) (hz:ds.length<=63) (hok:∀ p L,H p=none->aJ X.K (fun _=>none) ((l.mergeSort wB).map (ww b)) L->Q (.ref p) (upd H p (.lst L))) :
  RW (Xa X.prog X.w) X.A.in1 (newList us >>= fun l=>holding [l] (call (.builtin "list.sort") [l]) >>= fun _=>ret l) (fun fin s'=>∃ v,fin=acU (acV v)/\EP X af Z Q v s') E s:=by
 have hlu:ds.length=us.length:=dn.len.trans r.length;obtain ⟨a1,a2⟩:=IR dn r hl;refine bY (wpAny_newList ?_ (by rw [XJ];omega));have ho:(s.heap.push (XT "list" us.toArray 0)).get? s.heap.objs.size=some (XT "list" us.toArray 0):=ID _ rfl;refine bY (Yc (YA slot_list_sort ⟨_,ho,rfl⟩ entry_list_sort ?_ (PySem.F.args_list_sort_1 _)));have fin:∀ out:ac8,out.Perm us->out.Pairwise (fun x y=>¬ BI (qA y) (qA x))->∃ v,acU (acV XG)=acU (acV v) /\
   RW (Xa X.prog X.w) X.A.in1 (ret (Xr s.heap.objs.size)) (fun fin s'=>∃ v,fin=acU (acV v)/\EP X af Z Q v s') E { s with heap:=sortedHeap (s.heap.push (XT "list" us.toArray 0)) s.heap.objs.size us out.toArray }:=fun out hp hs=>by
  refine ⟨_,rfl,oR ⟨_,rfl,?_⟩⟩;have Y:∀ v∈out,ba (if b=true then .int (qA v).1 else .str ⟨(qA v).2.toArray⟩) v:=fun v J=>(a2 v (hp.mem_iff.mp J)).2;have rv:=Ef Y;refine ⟨.ref s.heap.objs.size,upd H s.heap.objs.size (.lst (out.map fun v=>if b=true then V.int (qA v).1 else .str ⟨(qA v).2.toArray⟩)),I.laid (t':=s.toks) (fun c o q=>?_) (mK _) ?_,rfl,hok _ _ (I.hok.fresh (mK _)) ?_⟩
  .have hlt:c < s.heap.objs.size:=MK q;unfold sortedHeap;rw [ZI _ _ _ _ (Xb hlt)];refine dO _ (dO _ ?_);rw [ZI _ _ _ _ (Xb hlt)];exact dO _ q
  .obtain ⟨e1,g1⟩:∃ e1,((s.heap.push (XT "list" us.toArray 0)).update s.heap.objs.size (Xx fun _=>(#[]:Array eQ))).get? s.heap.objs.size=some (XT "list" #[] e1):=⟨_,aaD ho fun _=>#[]⟩;have g2:=aaD (dO (XT "list" #[] 0) (dO (XT "tuple" us.toArray 0) g1)) fun _=>out.toArray;exact ⟨by rw [lE,hp.length_eq,XJ];omega,out,_,rv,g2⟩
  .have e:(l.mergeSort wB)=out.map qA:=by rw [<- a1];exact (MW hp hs).symm
   rw [e];exact Fb out
 cases b with
 | true=>exact Bt (s:={ s with heap:=s.heap.push (XT "list" us.toArray 0) }) ho (by omega) (fun _=>U1) (Ol (b:=true) fun v J=>(a2 v J).1) (fun v J=>(a2 v J).1) fin
 | false=>exact Bt (s:={ s with heap:=s.heap.push (XT "list" us.toArray 0) }) ho (by omega) (fun _=>VT) (Ol (b:=false) fun v J=>(a2 v J).1) (fun v J=>(a2 v J).1) fin
end
section
variable {X:Cx} {W:Wd} {O:ac2} {e:Yb} {es:List Yb} {φ:FE} {α:FA} {pos p p1 p2:Pos} {x:Str}
def Mp (kvs:List (bC×V)):ac9:=kvs.map fun q=>kV q.1
def RQ (K:aT) (xs:ac9) (H:Hp) (Q:VK):Prop:=∃ a ds ys b l,xs=[.ref a]/\(il K H a ys\/∃ o kvs,H a=some (.frz o (.dK kvs))/\ys=Mp kvs)/\aJ K H ds ys/\Hs b ds=some l/\ds.length<=63 /\
 ∀ q J,H q=none->aJ K (fun _=>none) ((l.mergeSort wB).map (ww b)) J->Q (.ref q) (upd H q (.lst J))
def yg {P:Xh} {w:Xv} {xs:List (bC×V)} {vs:List (bC×eQ)} (r:KV xs vs) {acc:ac8} (J:acc.length=vs.length) (h:∀ (j:Nat) (v:eQ),acc[j]?=some v->∃ (k:bC) (x:eQ),vs[j]?=some (k,x)/\vf k v=true):br (Mp xs) acc:=by
 unfold KV at r;induction r generalizing acc with
 | nil=>cases acc with
  | nil=>exact .nil
  | cons _ _=>simp at J
 | @cons p q ps qs hq t ih =>
  cases acc with
  | nil=>simp at J
  | cons v acc =>
   obtain ⟨k,x,e1,e2⟩:=h 0 v rfl;simp at e1;subst e1;refine .cons (show ba (kV p.1) v by rw [hq.1];exact t7 e2) (ih (by simpa using J) fun j u hj=>?_);obtain ⟨Y,L,e3,e4⟩:=h (j+1) u (by simpa using hj);exact ⟨Y,L,by simpa using e3,e4⟩
def Ac (K:aT) (hc:X.calm=true) (hK:X.K=K:=by rfl):cg X (.builtin "sorted") (RQ K):=by
 subst hK;intro af s Z H xs us Q I r h;obtain ⟨a,ds,ys,b,l,rfl,src,dn,hl,hz,hok⟩:=h;obtain ⟨u,rfl,ru⟩:=mz r;cases ru;refine PySem.Calls.call_function_entry kind_sorted plain_sorted entry_sorted (args_sorted1 _) ?_;unfold Builtin.«sorted»;refine bY (m:=checkCount "sorted" 1 1 _) (oR ?_);rcases src with hS|⟨o,kvs,hD,rfl⟩
 .obtain ⟨its,ri,hp,_⟩:=I.list hS;refine bY (collect_list hp.isList ?_ (by rw [<- ri.length,<- dn.len,XJ];omega));have L:∀ c o,s.heap.get? c=some o->((s.heap.push (XT "list" #[] 0)).update s.heap.objs.size (Xx (·++its.toArray))).get? c=some o:=fun c o q=>by
   have Y:c < s.heap.objs.size:=MK q;rw [ZI _ _ _ _ (Xb Y),aa1 _ _ _ (Xb Y)];exact q
  have I1:=I.kept (t':=s.toks) L (by walk_at "tok");exact xl (b:=b) I1 ri dn hl hz hok
 .obtain ⟨z,hd,vs,F⟩:=rV I hD;have hlen:=F.rel.length;refine bY (bf I.tk (PySem.W.kdu_collect (acC (knd:=cb X.prog X.w) (kvs:=vs) (ep:=Nt o) hd) (I.ok.hd hc) F.at_ (by rw [<- hlen];exact z) fun h' tk acc kp J htk=>?_));have I1:=I.kept (t':=tk) (h':=h') kp htk;exact xl (b:=b) I1 (yg (P:=X.prog) (w:=X.w) F.rel (by rw [X8];exact J.1) fun j v hj=>J.2 j v (by rw [<- Zk];exact hj)) dn hl hz hok
def uv {K:aT} {H:Hp}:∀ {ds:List (bC×D)} {kvs:List (bC×V)},cr K H ds kvs->aJ K H (ds.map fun q=>rG q.1) (Mp kvs)
 | [],_,h=>by cases h;exact rfl
 | (k,d)::r,_,⟨v,vs,e,_,h⟩=>by subst e;exact ⟨kV k,_,rfl,we k,uv h⟩
def BZ {K:aT} {H:Hp} {d:D} {v:V} {xs:ada} (h:cS K H d v) (e:EA d=some xs):∃ a ys,v=.ref a/\(il K H a ys\/∃ o kvs,H a=some (.frz o (.dK kvs))/\ys=Mp kvs)/\aJ K H xs ys:=by
 cases d with
 | lst ds=>cases e;obtain ⟨a,ys,rfl,h1,h2⟩:=h;exact ⟨a,ys,rfl,.inl h1,h2⟩
 | dcf ds =>
  cases e;obtain ⟨a,o,kvs,rfl,h1,h2⟩:=h;exact ⟨a,Mp kvs,rfl,.inr ⟨o,kvs,h1,rfl⟩,uv h2⟩
 | _=>cases e
def Vs (K:aT) (hW:W.K=K:=by rfl):B2 W (RQ K) zi:=by
 subst hW;intro as H xs ds Q hn dv h;unfold zi at h;split at h
 .obtain ⟨v,rfl,d1⟩:=ja dv;split at h
  .rename_i d zs e;obtain ⟨a,ys,rfl,Y,dn⟩:=BZ d1 e;have L:il W.K H a ys\/∃ o kvs,H a=some (.frz o (.dK kvs))/\ys=Mp kvs:=by
    rcases Y with q|⟨o,kvs,q,r⟩
    .exact .inl ((ax _ _).seq q)
    .exact .inr ⟨o,kvs,ax _ _ _ _ q,r⟩
   unfold Jx at h;split at h
   .rename_i hz;have fin:∀ (b:Bool) (l:List K2),iS W as H (.ok (.lst ((l.mergeSort wB).map (ww b)))) Q->∀ q J,H q=none->aJ W.K (fun _=>none) ((l.mergeSort wB).map (ww b)) J->Q (.ref q) (upd H q (.lst J)):=fun b l h q J hq hd =>
     h q _ _ (aU hq _) hq aS ⟨J,rfl,hd.mono fun b o z=>by cases z⟩
    split at h
    .rename_i l hl;exact ⟨a,zs,ys,true,l,rfl,L,dn.mono (ax _ _),hl,hz,fin true l h⟩
    .split at h
     .rename_i l hl;exact ⟨a,zs,ys,false,l,rfl,L,dn.mono (ax _ _),hl,hz,fin false l h⟩
     .exact h.elim
   .exact h.elim
  .exact h.elim
 .exact h.elim
def yU (K:aT) (L:X.calm=true) (hm:X.mg "sorted"=none) (ha:JE X e (tD W O φ)) (Y:Gl X "sorted":=by rfl) (h1:aX e=true:=by rfl) (J:X.K=K:=by rfl) (hW:W.K=K:=by rfl) :
  JE X (.Call (.Name "sorted" p) [e] [] pos) (tN W O (ao zi (ae φ ap))) :=
 (zd (Ac K L J) hm (by with_unfolding_all rfl) (aa ha aj (hn:=h1)) Y h1 rfl).imp fun Z H Q hh=>fH hh fun as0 B own U I h=>⟨as0,B,own,U,I,i6 h fun ds xs H1 s1 d1 h1=>Vs K hW (own++as0) H1 xs ds Q (I.mono s1).exi d1 h1⟩
def Os (xs:ac9) (H:Hp) (Q:VK):Prop:=∃ a o kvs,xs=[.ref a]/\H a=some (.frz o (.dK kvs))/\∀ l,H l=none->Q (.ref l) (upd H l (.lst (Mp kvs)))
def DT (hc:X.calm=true):cg X (.type "list") Os:=by
 intro af s Z H xs us Q I r h;obtain ⟨a,o,kvs,rfl,hD,hok⟩:=h;obtain ⟨u,rfl,ru⟩:=mz r;cases ru;obtain ⟨z,hd,vs,F⟩:=rV I hD;have L:=F.rel.length;refine bf I.tk (PySem.W.kdl_call (acC (knd:=cb X.prog X.w) (kvs:=vs) (ep:=Nt o) hd) (I.ok.hd hc) F.at_ (by rw [<- L];exact z) fun h' tk acc c kp hg J Y=>?_);have rv:=yg (P:=X.prog) (w:=X.w) F.rel (acc:=acc.toList) (by rw [X8];exact J.1) fun j v hj=>J.2 j v (by rw [<- Zk];exact hj);exact ⟨.ref s.heap.objs.size,_,I.laid (t':=tk) kp (mK _) (show bT X.prog X.w _ h' _ (.lst (Mp kvs)) from ⟨by unfold Mp;rw [lE];exact z,acc.toList,c,rv,by simpa using hg⟩) Y,rfl,hok _ (I.hok.fresh (mK _))⟩
def B9 (ds:ada):R D:=match ds with
 | [.dcf kvs]=>.ok (.lst (kvs.map fun q=>rG q.1))
 | _=>.no
def T7:B2 W Os B9:=by
 intro as H xs ds Q hn L h;unfold B9 at h;split at h
 .obtain ⟨v,rfl,d1⟩:=ja L;obtain ⟨a,o,kvs,rfl,h1,h2⟩:=d1;exact ⟨a,o,kvs,rfl,ax _ _ _ _ h1,fun l J=>h l _ _ (aU J _) J aS ⟨_,rfl,(uv h2).mono (ji J (aU J _))⟩⟩
 .exact h.elim
structure IsC (K:aT) (C:Le):Prop where
 cl:Cls K C
 ha:X0 K (.ref C) "__class__"=some (some (.builtin "object.__class__"))
 hn:aaT K (.builtin "object.__class__") "__get__"=some (some (.builtin "getset_descriptor.__get__"))
 htk:abj K (.builtin "object.__class__")=some true
 hm:aa3 K C (.type "object")=some true
 k:YX K (.ref C) (.ref C)=some true
end
section
variable {X:Cx} {W:Wd}
def V6 (K:aT) (neg:Bool):R2:=fun x y H Q=>∃ p a ds xs k,y=.ref p/\il K H p xs/\cS K H a x/\aJ K H ds xs/\lW a ds=some k/\Q (.bl (if neg=true then !k else k)) H
def LS (K:aT) (hu:X.A.units+64 < ZM) (Y:X.K=K:=by rfl):eZ X (Xn .NotIn) (V6 K true):=by
 subst Y;intro af s Z H x y v u Q I rx ry h;obtain ⟨p,a,ds,xs,k,rfl,hl,da,dd,e,q⟩:=h;cases ry;obtain ⟨J,ps,h1,h2,L,h4⟩:=JJ e;obtain ⟨as,ra⟩:=fI I da rx h1;obtain ⟨its,r,pl,hz⟩:=I.list hl;obtain ⟨i1,i2⟩:=w4 I hu ra L dd r h2 h4;refine ab5 (qD s J) pl.isList (fun y hy=>i1 y (by simpa using hy)) ⟨.bl (!k),H,I,?_,q⟩;rw [show (its.toArray.any (qD s J))=its.any (qD s J) by simp,i2];rfl
def NJ (x y:D):Option Bool:=match y with
 | .lst ds=>lW x ds
 | _=>none
def jQ (x y:D):R D:=gH (NJ x y) fun k=>!k
end
section
variable {X:Cx} {W:Wd} {O:ac2} {e:Yb} {φ:FE} {pos p1:Pos} {x:Str}
def Gr (K:aT) (hi:i∈O) (hu:X.A.units+64 < ZM) (ha:JE X e (tD W O φ)) (hm:YK .NotIn (.Name x p1)=false) (hN:X.N[i]?=some x:=by rfl) (hv:Cz X.env.scope x:=by walk_at"v") (hd:adb x:=by decide)
  (Y:(x==("__classdict__":Str))=false:=by decide) (hK:X.K=K:=by rfl) (hW:W.K=K:=by rfl):JT X (.Compare e [.NotIn] [.Name x p1] pos) (rS W O (bS (aE jQ φ (ai i)))) :=
 (DZ (LS K hu hK) ha (jv i hN hv hd Y) hm).imp fun Z H Q hh=>fH hh fun as0 B own U I h=>by
  obtain ⟨a,L⟩:=gR I.olen hi;obtain ⟨d,o,h1,h2,h3,h4⟩:=I.owns i a L;have hv:ai i U=.ok d:=by unfold ai;rw [h1]
  have h':ig W H ((φ U).bind fun x=>(jQ x d).bind fun x=>GJ x .ok) Q:=by
   have e:bS (aE jQ φ (ai i)) U=(φ U).bind fun x=>(jQ x d).bind fun x=>GJ x .ok:=by
    unfold bS aE;rw [bind_assoc,hv];rfl
   rw [<- e];exact h
  refine ⟨as0,B,own,U,I,gf h' fun y v H1 s1 d1 J=>?_⟩;show zF Z[i]? H1 _;rw [h2];subst hW;cases e:NJ y d with
  | none=>unfold jQ at J;rw [e] at J;exact J.elim
  | some k =>
   unfold jQ at J;rw [e] at J;unfold NJ at e;split at e
   .obtain ⟨xs,rfl,q⟩:=h4;exact ⟨a,y,_,xs,k,rfl,il.of (s1 _ _ h3),d1.mono (ax _ _),(q.mono (aW s1)).mono (ax _ _),e,J H1 (az.refl _)⟩
   .cases e
end
def Mq:eQ->Option Str
 | .str x _=>some x
 | _=>none
def yF (k:Str):∀ (es:List DictEntry) (ks:ac3),es.map (fun e=>Mq e.key)=ks.map some->(es.find? fun e=>Zn k e.key).isSome=ks.contains k
 | [],[],_=>rfl
 | [],_::_,h=>by cases h
 | _::_,[],h=>by cases h
 | e::es,x::ks,h=>by
  rw [By,By,acN] at h;obtain ⟨h1,h2⟩:=h;have J:=yF k es ks h2;have L:Zn k e.key=(k==x):=by
   cases q:e.key with
   | str y t =>
    rw [q] at h1;have h1:some y=some x:=h1;rw [<- Xp h1];show (y==k)=(k==y);exact Bool.beq_comm
   | _=>rw [q] at h1;cases h1
  rw [XB,L,List.contains_cons];cases (k==x) with
  | true=>rfl
  | false=>exact J
def Up (a:Le) (ks:ac3):R2:=fun x y H Q=>∃ k,x=.str k/\y=.ref a/\Q (.bl (!ks.contains k)) H
def MP (ks:ac3) (x:Str) (a b:D):R D:=match a,b with
 | .str k,.cls y=>if y=x then .ok (.bl (!ks.contains k)) else .no
 | _,_=>.no
section
variable {X:Cx} {W:Wd}
def QI (L:X.K.lookup a=some ⟨.type "dict",none,.dict es n,#[]⟩) (hk:aax X.w.params es.toList) (he:es.toList.map (fun e=>Mq e.key)=ks.map some) (Y:(a==YC)=false) :
  eZ X (Xn .NotIn) (Up a ks):=by
 intro af s Z H x y v u Q I rx J h;obtain ⟨k,rfl,rfl,q⟩:=h;cases J;obtain ⟨t,rfl⟩:=rx;refine wpAny_notIn_of (knd:=strKind X.prog X.w) (k:=k) (show (k==k)=true from beq_self_eq_true k) Y (acI (prog:=X.prog) (w:=X.w) I.kIn L hk) ?_;have e:(findBy Zn es k).isSome=ks.contains k:=by
  unfold findBy;rw [Z0,<- ab2];exact yF k es.toList ks he
 rw [e];exact ⟨.bl _,H,I.tok _,rfl,q⟩
def V1 (hn:Cq W.K x a):rE W (Up a ks) (MP ks x):=by
 intro as H v u d b Q hq Y L h;unfold MP at h;split at h
 .split at h
  .rename_i e;subst e;cases Y;obtain ⟨C,rfl,J⟩:=L;rw [show Xg W.K W9 _=_ from hn] at J;cases J;exact ⟨_,rfl,rfl,aP h rfl⟩
  .exact h.elim
 .exact h.elim
end
abbrev KD:=bC×List (bC×D)
def InK (K:aT) (M H:Hp):List KD->ac7->List (bC×V)->Prop
 | [],bs,kvs=>bs=[]/\kvs=[]
 | (k,ds)::r,bs,kvs=>∃ b L J xs,bs=b::L/\kvs=(k,.ref b)::J/\H b=some (.dK xs)/\cr K M ds xs/\InK K M H r L J
def ij (k:bC):List KD->Option (List (bC×D))
 | []=>none
 | q::r=>if q.1=k then some q.2 else ij k r
def lu (k:bC) (ds:List (bC×D)):List KD->List KD
 | []=>[]
 | q::r=>if q.1=k then (q.1,ds)::r else q::lu k ds r
section
variable {K:aT} {M M' H H':Hp}
def InK.mono (s:az M M'):∀ {dd:List KD} {bs:ac7} {kvs:List (bC×V)},(∀ b∈bs,∀ o,H b=some o->H' b=some o)->InK K M H dd bs kvs->InK K M' H' dd bs kvs
 | [],_,_,_,h=>h
 | (k,ds)::r,_,_,hb,⟨b,bs',kvs',xs,e1,e2,e3,e4,e5⟩=>by
  subst e1;exact ⟨b,bs',kvs',xs,rfl,e2,hb b (by simp) _ e3,e4.mono s,e5.mono s fun c J=>hb c (by simp [J])⟩
theorem InK.len:∀ {dd:List KD} {bs:ac7} {kvs:List (bC×V)},InK K M H dd bs kvs->dd.length=kvs.length
 | [],_,_,⟨_,e⟩=>by rw [e];rfl
 | (k,ds)::r,_,_,⟨b,bs',kvs',xs,e1,e2,e3,e4,e5⟩=>by rw [e2];simp [e5.len]
def InK.val (k:bC):∀ {dd:List KD} {bs:ac7} {kvs:List (bC×V)},InK K M H dd bs kvs->(ij k dd=none/\ky kvs k=none)\/∃ ds b xs,ij k dd=some ds/\ky kvs k=some (.ref b)/\b∈bs/\H b=some (.dK xs)/\cr K M ds xs
 | [],_,_,⟨_,e⟩=>by rw [e];exact .inl ⟨rfl,rfl⟩
 | (k',ds)::r,_,_,⟨b,bs',kvs',xs,e1,e2,e3,e4,e5⟩=>by
  subst e1 e2;by_cases q:k'=k
  .exact .inr ⟨ds,b,xs,acW q,mj q,by simp,e3,e4⟩
  .rw [ml (p:=(k',V.ref b)) q,show ij k ((k',ds)::r)=ij k r from acX q];rcases e5.val k with h|⟨ds',b',xs',h1,h2,h3,h4,h5⟩
   .exact .inl h
   .exact .inr ⟨ds',b',xs',h1,h2,by simp [h3],h4,h5⟩
def InK.snoc (J:H b=some (.dK [])):∀ {dd:List KD} {bs:ac7} {kvs:List (bC×V)},InK K M H dd bs kvs->InK K M H (dd++[(k,[])]) (bs++[b]) (kvs++[(k,.ref b)])
 | [],_,_,⟨e1,e2⟩=>by subst e1 e2;exact ⟨b,[],[],[],rfl,rfl,J,rfl,rfl,rfl⟩
 | (k',ds)::r,_,_,⟨b',bs',kvs',xs,e1,e2,e3,e4,e5⟩=>by
  subst e1 e2;exact ⟨b',bs'++[b],kvs'++[(k,.ref b)],xs,rfl,rfl,e3,e4,e5.snoc J⟩
def InK.put (J:cr K M ds' xs'):∀ {dd:List KD} {bs:ac7} {kvs:List (bC×V)},bs.Nodup->InK K M H dd bs kvs->ky kvs k=some (.ref b)->InK K M (upd H b (.dK xs')) (lu k ds' dd) bs kvs
 | [],_,_,_,⟨_,e⟩,h=>by rw [e] at h;cases h
 | (k',ds)::r,_,_,nd,⟨b',bs',kvs',xs,e1,e2,e3,e4,e5⟩,h=>by
  subst e1 e2;rw [XI] at nd;by_cases q:k'=k
  .rw [mj (p:=(k',V.ref b')) q] at h;cases h;rw [show lu k ds' ((k',ds)::r)=(k',ds')::r from acW q];exact ⟨_,bs',kvs',xs',rfl,rfl,aS,J,e5.mono (az.refl M) fun c Y o e=>by rw [aM (fun z=>nd.1 (by rw [<- z];exact Y))];exact e⟩
  .rw [ml (p:=(k',V.ref b')) q] at h;rw [show lu k ds' ((k',ds)::r)=(k',ds)::lu k ds' r from acX q];have hb:b∈bs':=by
    rcases e5.val k with ⟨_,z⟩|⟨_,b2,_,_,z,L,_⟩
    .rw [z] at h;cases h
    .rw [z] at h;cases h;exact L
   exact ⟨b',bs',kvs',xs,rfl,rfl,by rw [aM (fun z=>nd.1 (by rw [z];exact hb))];exact e3,e4,e5.put J nd.2 h⟩
def InK.den (s:az M M'):∀ {dd:List KD} {bs:ac7} {kvs:List (bC×V)},(∀ b∈bs,∀ o,H b=some o->M' b=some o)->InK K M H dd bs kvs->cr K M' (dd.map fun q=>(q.1,D.dct q.2)) kvs
 | [],_,_,_,⟨_,e⟩=>e
 | (k,ds)::r,_,_,hb,⟨b,bs',kvs',xs,e1,e2,e3,e4,e5⟩=>by
  subst e1 e2;exact ⟨.ref b,kvs',rfl,⟨b,xs,rfl,hb b (by simp) _ e3,e4.mono s⟩,e5.den s fun c J=>hb c (by simp [J])⟩
end
structure GR (K:aT) (as0:ac7) (B:Hp) (i:Nat) (p:Le) (bs:ac7) (dd:List KD) (Z:St) (U:Sd) (H:Hp):Prop where
 len:U.length=Z.length
 var:∀ (k:Nat) (d:D),U[k]?=some (some d)->∃ v,Z[k]?=some (some v)/\cS K (aH (p::(bs++as0)) H) d v
 hi:Z[i]?=some (some (.ref p))
 bs_:az B H
 bp:B p=none
 bb:∀ b∈bs,B b=none
 pn:p∉bs
 nd:bs.Nodup
 ex:∀ a∈as0,B a≠none
 hp:∃ kvs,H p=some (.dK kvs)/\InK K (aH (p::(bs++as0)) H) H dd bs kvs
section
variable {K:aT} {as0 bs:ac7} {B H H':Hp} {i k:Nat} {p:Le} {dd:List KD} {Z:St} {U:Sd} {d:D} {v:V}
def InK.exi {M:Hp}:∀ {dd:List KD} {bs:ac7} {kvs:List (bC×V)},InK K M H dd bs kvs->∀ b∈bs,H b≠none
 | [],_,_,⟨e,_⟩,b,hb=>by rw [e] at hb;cases hb
 | (k,ds)::r,_,_,⟨b',bs',kvs',xs,e1,e2,e3,e4,e5⟩,b,hb=>by
  subst e1;rcases iN.mp hb with rfl|hb
  .rw [e3];simp
  .exact e5.exi b hb
def GR.exi (g:GR K as0 B i p bs dd Z U H):∀ a∈p::(bs++as0),H a≠none:=fun a J=>by
 obtain ⟨kvs,e1,e2⟩:=g.hp;rcases iN.mp J with rfl|J
 .rw [e1];simp
 .rcases DO.mp J with J|J
  .exact e2.exi a J
  .cases e:B a with
   | none=>exact absurd e (g.ex a J)
   | some o=>rw [g.bs_ a o e];simp
def GR.di (g:GR K as0 B i p bs dd Z U H):DI K (p::(bs++as0)) H [] [] Z U H:=DI.plain g.len g.exi g.var
def GR.mono (g:GR K as0 B i p bs dd Z U H) (s:az H H'):GR K as0 B i p bs dd Z U H' :=
 ⟨g.len,fun k d e=>let ⟨v,h1,h2⟩:=g.var k d e;⟨v,h1,h2.mono (aW s)⟩,g.hi,g.bs_.trans s,g.bp,g.bb,g.pn,g.nd,g.ex,let ⟨kvs,h1,h2⟩:=g.hp;⟨kvs,s _ _ h1,h2.mono (aW s) fun b _ o e=>s b o e⟩⟩
def GR.set (g:GR K as0 B i p bs dd Z U H) (L:k≠i) (J:cS K (aH (p::(bs++as0)) H) d v):GR K as0 B i p bs dd (Z.set k (some v)) (U.set k (some d)) H :=
 let I:=g.di.set (W:=⟨K,fun _=>none,E0⟩) (i:=k) (by simp) J
 ⟨I.len,fun j e q=>I.var j e (by simp) q,by rw [getElem?_set',acX L];exact g.hi,g.bs_,g.bp,g.bb,g.pn,g.nd,g.ex,g.hp⟩
def qg (h:az B H) (J:B a=none):az B (upd H a o):=fun b u e=>by rw [aM (bB e J)];exact h b u e
def GR.more (g:GR K as0 B i p bs dd Z U H) {q:Le} (hq:H q=none) (s:az (upd H q (.dK [])) H') {kvs:List (bC×V)} (hx:H' p=some (.dK kvs)) {k:bC} (hk:ij k dd=none) :
  GR K as0 B i p (bs++[q]) (dd++[(k,[])]) Z U (upd H' p (.dK (oE kvs k (.ref q)))):=by
 have ex:=g.exi;have L:∀ a∈p::(bs++as0),a≠q:=fun a ha z=>ex a ha (by rw [z];exact hq);have s0:az H H':=(aU hq _).trans s;have Y:p≠q:=L p (by simp);obtain ⟨kvs',h1,h2⟩:=g.hp;have e0:=s0 _ _ h1;rw [hx] at e0;cases e0;have hq':H' q=some (.dK []):=s q _ aS;have sm:az (aH (p::(bs++as0)) H) (aH (p::(bs++[q]++as0)) (upd H' p (.dK (oE kvs k (.ref q))))):=fun b o e=>by
  by_cases J:b∈p::(bs++as0)
  .rw [cU J] at e;cases e
  .rw [aO J] at e;have hbq:b≠q:=fun z=>by rw [z,hq] at e;cases e
   simp only [iN,DO,not_or] at J;rw [aO (by simp [J.1,J.2.1,J.2.2,hbq]),aM J.1];exact s0 b o e
 refine ⟨g.len,fun j d e=>let ⟨v,a1,a2⟩:=g.var j d e;⟨v,a1,a2.mono sm⟩,g.hi,qg (g.bs_.trans s0) g.bp,g.bp,fun b J=>?_,fun z=>?_,?_,g.ex,_,aS,?_⟩
 .rcases DO.mp J with h|h
  .exact g.bb b h
  .rw [OR.mp h];exact g.bs_.free hq
 .rcases DO.mp z with h|h
  .exact g.pn h
  .exact Y (OR.mp h)
 .refine Zo.mpr ⟨g.nd,by simp,fun a ha b J=>?_⟩;rw [OR.mp J];exact L a (by simp [ha])
 .have hv:ky kvs k=none:=by
   rcases h2.val k with z|⟨ds,b,xs,z,_⟩
   .exact z.2
   .rw [hk] at z;cases z
  rw [IU _ hv] at sm ⊢;refine InK.snoc (by rw [aM (YU Y)];exact hq') (h2.mono sm fun b J o e=>?_);rw [aM (fun z=>g.pn (by rw [<- z];exact J))];exact s0 b o e
def GR.put (g:GR K as0 B i p bs dd Z U H) {kvs:List (bC×V)} (hx:H p=some (.dK kvs)) {k:bC} {b:Le} (hv:ky kvs k=some (.ref b)) (hb:b∈bs) {L:List (bC×D)} {J:List (bC×V)} (hd:cr K (aH (p::(bs++as0)) H) L J) :
  GR K as0 B i p bs (lu k L dd) Z U (upd H b (.dK J)):=by
 have hm:b∈p::(bs++as0):=by simp [hb]
 obtain ⟨kvs',h1,h2⟩:=g.hp;rw [hx] at h1;cases h1;have Y:p≠b:=fun z=>g.pn (by rw [z];exact hb);exact ⟨g.len,by rw [sK hm];exact g.var,g.hi,qg g.bs_ (g.bb b hb),g.bp,g.bb,g.pn,g.nd,g.ex,kvs,by rw [aM Y];exact hx,by rw [sK hm];exact h2.put hd g.nd hv⟩
def GR.done (g:GR K as0 B i p bs dd Z U H):DI K as0 B [] [] Z (U.set i (some (.dct (dd.map fun q=>(q.1,D.dct q.2))))) H:=by
 obtain ⟨kvs,h1,h2⟩:=g.hp;have s:az (aH (p::(bs++as0)) H) (aH as0 H):=mf fun a J=>by simp [J]
 refine ⟨by simp [g.len],rfl,Ye,Ye,fun a J=>(nomatch J),g.ex,g.bs_,fun k e _ r=>?_,fun j a h=>(by simp at h)⟩
 rw [abq];rw [getElem?_set'] at r;split at r
 .rename_i hk;subst hk;split at r
  .cases r;refine ⟨_,g.hi,p,kvs,rfl,by rw [aO fun z=>g.ex p z g.bp];exact h1,h2.den s fun b Y o e=>?_⟩;rw [aO fun z=>g.ex b z (g.bb b Y)];exact e
  .cases r
 .obtain ⟨v,L,a2⟩:=g.var k e r;exact ⟨v,L,a2.mono s⟩
end
def J6 (a:Nat) (ε:FE):ada->Sd->List KD->R (Sd×List KD)
 | [],U,dd=>.ok (U,dd)
 | x::r,U,dd=>(ε (U.set a (some x))).bind fun k=>match kG k with
  | some k=>if ij k dd=none/\dd.length < 1000000 then J6 a ε r (U.set a (some x)) (dd++[(k,[])]) else .no
  | none=>.no
def sF (τ:FT) (ε2 ε3 ε4:FE) (dd:List KD) (U:Sd):R (List KD):=(τ U).bind fun c=>if c=true then (ε4 U).bind fun d=>(ε2 U).bind fun k=>match kG k with
 | some k=>(match ij k dd with
  | some ds=>(ε3 U).bind fun n=>match kG n with
   | some n=>if ds.length < 1000000 then .ok (lu k (fw ds n d) dd) else .no
   | none=>.no
  | none=>.no)
 | none=>.no else .ok dd
def Hr (b:Nat) (τ:FT) (ε2 ε3 ε4:FE):ada->Sd->List KD->R (Sd×List KD)
 | [],U,dd=>.ok (U,dd)
 | x::r,U,dd=>(sF τ ε2 ε3 ε4 dd (U.set b (some x))).bind fun J=>Hr b τ ε2 ε3 ε4 r (U.set b (some x)) J
def Lr (i:Nat) (q:Sd×List KD):R Fl:=.ok (.nx (q.1.set i (some (.dct (q.2.map fun q=>(q.1,D.dct q.2))))))
def CK (i b:Nat) (ι2:FA) (τ:FT) (ε2 ε3 ε4:FE) (q:Sd×List KD):R Fl:=(ι2 q.1).bind fun ys=>(Hr b τ ε2 ε3 ε4 ys q.1 q.2).bind (Lr i)
def Ce (i a b:Nat) (ι1:FA) (ε1:FE) (ι2:FA) (τ:FT) (ε2 ε3 ε4:FE):FS:=fun U=>if i < U.length then (ι1 (U.set i none)).bind fun xs=>(J6 a ε1 xs (U.set i none) []).bind (CK i b ι2 τ ε2 ε3 ε4) else .no
section
variable {X:Cx} {W:Wd} {Ob O2:ac2} {x xa xb:Str} {i a b:Nat} {it1 it2 e1 e2 e3 e4 c:Yb} {ι1 ι2:FA} {ε1 ε2 ε3 ε4:FE} {τ:FT} {ψ:FS} {rest:List Yj} {p1 p2 p3 q1 q2 q3 q4 q5 f1 r1 r2 r3 r4 r5 r6 f2:Pos}
def kR (i b:Nat) (ι2:FA) (τ:FT) (ε2 ε3 ε4:FE) (ψ:FS) (r:R (Sd×List KD)):R Fl:=(r.bind (CK i b ι2 τ ε2 ε3 ε4)).bind fun f=>match f with|.nx δ'=>ψ δ'|f=>.ok f
def kE (i:Nat) (ψ:FS) (r:R (Sd×List KD)):R Fl:=(r.bind (Lr i)).bind fun f=>match f with|.nx δ'=>ψ δ'|f=>.ok f
def Bz {K:aT} {D':Ends} {as0 bs:ac7} {B H:Hp} {p:Le} {dd:List KD} {Z:St} {U:Sd} {tr:TS} (hb:b≠i) (hW:W.K=K)
  (hr:∀ as0 B Z U H,DI W.K as0 B [] [] Z U H->bI W as0 B Ob O2 (ψ U) D'->tr D' Z H) (g:GR W.K as0 B i p bs dd Z U H) (h:bI W as0 B Ob O2 (kR i b ι2 τ ε2 ε3 ε4 ψ (.ok (U,dd))) D') :
  PP (OP (iD W [] ι2) (lw b) (NL (rS W [] τ) (x8 (tD W [] ε4) (Gf (JV (xc i) (tD W [] ε2)) (tD W [] ε3) EV)) J4)) tr D' Z H:=by
 refine ⟨p::(bs++as0),H,[],U,g.di,?_⟩;have h:bI W as0 B Ob O2 (((ι2 U).bind fun ys=>(Hr b τ ε2 ε3 ε4 ys U dd).bind (Lr i)).bind fun f=>match f with|.nx δ'=>ψ δ'|f=>.ok f) D':=h
 cases hι:ι2 U with
 | er z=>rw [hι] at h;exact fun e C H' s=>h e C H' (g.bs_.trans s)
 | no=>rw [hι] at h;exact h
 | ok xs =>
 rw [hι] at h;have h:bI W as0 B Ob O2 (kE i ψ (Hr b τ ε2 ε3 ε4 xs U dd)) D':=h;intro J H3 s3 G;rw [sv] at G;have g3:=g.mono s3;refine ⟨fun n m σ' H'=>m=xs.length - n/\n<=xs.length/\∃ δ' L,GR W.K as0 B i p bs L σ' δ' H'/\az (aH (p::(bs++as0)) H3) H'/\bI W as0 B Ob O2 (kE i ψ (Hr b τ ε2 ε3 ε4 (xs.drop n) δ' L)) D',
  ⟨xs.length,by simp,Xk _,U,dd,g3,ax _ _,by rw [Z8];exact h⟩,?_⟩
 rintro n m σ4 H4 ⟨rfl,hn,δ4,dd4,g4,sG,h4⟩;by_cases hlt:n < xs.length
 .refine .inr ⟨G.go n H4 sG hlt,fun σ' H'=>∃ δ' L,GR W.K as0 B i p bs L σ' δ' H'/\az (aH (p::(bs++as0)) H3) H'/\bI W as0 B Ob O2 (kE i ψ (Hr b τ ε2 ε3 ε4 (xs.drop (n+1)) δ' L)) D',
   fun σ' H' z=>⟨xs.length - (n+1),by omega,rfl,hlt,z⟩,fun v H5 y=>?_⟩
  obtain ⟨s5,d,hd5,dv⟩:=G.yl n H4 v H5 (p::(bs++as0)) sG g4.exi (fun u hu=>.inl hu) hlt y;have ed:xs.drop n=d::xs.drop (n+1):=by
   rw [YZ hlt];rw [rW hlt] at hd5;cases hd5;rfl
  rw [ed] at h4;have g5:=(g4.mono s5).set hb dv;have sG5:=sG.trans s5;have h5:bI W as0 B Ob O2 (kE i ψ ((sF τ ε2 ε3 ε4 dd4 (δ4.set b (some d))).bind fun L=>Hr b τ ε2 ε3 ε4 (xs.drop (n+1)) (δ4.set b (some d)) L)) D':=h4;dsimp only [lw];generalize σ4.set b (some v)=σ5 at g5;generalize δ4.set b (some d)=δ5 at g5 h5;dsimp only [NL];refine ⟨_,_,[],δ5,g5.di,?_⟩;unfold sF at h5;cases hτ:τ δ5 with
  | er z=>rw [hτ] at h5;exact fun e C H' s=>h5 e C H' (g5.bs_.trans s)
  | no=>rw [hτ] at h5;exact h5
  | ok c =>
  rw [hτ] at h5;intro H6 s6;have g6:=g5.mono s6;have sG6:=sG5.trans s6;cases c with
  | false=>exact ⟨δ5,dd4,g6,sG6,h5⟩
  | true =>
   rw [acW rfl];have h6:bI W as0 B Ob O2 (kE i ψ (((ε4 δ5).bind fun d=>(ε2 δ5).bind fun k=>match kG k with
    | some k=>(match ij k dd4 with
     | some ds=>(ε3 δ5).bind fun n=>match kG n with
      | some n=>if ds.length < 1000000 then .ok (lu k (fw ds n d) dd4) else .no
      | none=>.no
     | none=>.no)
    | none=>.no).bind fun L=>Hr b τ ε2 ε3 ε4 (xs.drop (n+1)) δ5 L)) D':=h5
   refine ⟨_,_,[],δ5,g6.di,?_⟩;cases hε:ε4 δ5 with
   | er z=>rw [hε] at h6;exact fun e C H' s=>h6 e C H' (g6.bs_.trans s)
   | no=>rw [hε] at h6;exact h6
   | ok d7 =>
   rw [hε] at h6;intro v7 H7 s7 dv7;have g7:=g6.mono s7;unfold Gf JV xc;rw [g7.hi];refine ⟨_,_,[],δ5,g7.di,?_⟩;cases hε2:ε2 δ5 with
   | er z=>rw [hε2] at h6;exact fun e C H' s=>h6 e C H' (g7.bs_.trans s)
   | no=>rw [hε2] at h6;exact h6
   | ok k8 =>
   rw [hε2] at h6;intro v8 H8 s8 dv8;have g8:=g7.mono s8;have Y:bI W as0 B Ob O2 (kE i ψ ((match kG k8 with
    | some k=>(match ij k dd4 with
     | some ds=>(ε3 δ5).bind fun n=>match kG n with
      | some n=>if ds.length < 1000000 then .ok (lu k (fw ds n d7) dd4) else .no
      | none=>.no
     | none=>.no)
    | none=>.no).bind fun L=>Hr b τ ε2 ε3 ε4 (xs.drop (n+1)) δ5 L)) D':=h6
   cases hk:kG k8 with
   | none=>rw [hk] at Y;exact Y.elim
   | some k =>
   rw [hk] at Y;have hv8:=mR dv8 hk;subst hv8;obtain ⟨kvs,e1,e2⟩:=g8.hp;rcases e2.val k with ⟨z,_⟩|⟨ds,bb,xs0,z1,z2,z3,z4,z5⟩
   .dsimp only at Y;rw [z] at Y;exact Y.elim
   dsimp only at Y;rw [z1] at Y;refine ⟨p,.ref bb,rfl,z2 ▸ wA.rd (.inl e1),?_⟩;refine ⟨_,_,[],δ5,g8.di,?_⟩;cases hε3:ε3 δ5 with
   | er z=>rw [hε3] at Y;exact fun e C H' s=>Y e C H' (g8.bs_.trans s)
   | no=>rw [hε3] at Y;exact Y
   | ok k9 =>
   rw [hε3] at Y;intro v9 H9 s9 dv9;have g9:=g8.mono s9;have h9:bI W as0 B Ob O2 (kE i ψ ((match kG k9 with
      | some n=>if ds.length < 1000000 then R.ok (lu k (fw ds n d7) dd4) else .no
      | none=>.no).bind fun L=>Hr b τ ε2 ε3 ε4 (xs.drop (n+1)) δ5 L)) D':=Y
   cases hk9:kG k9 with
   | none=>rw [hk9] at h9;exact h9.elim
   | some kn =>
   rw [hk9] at h9;have hv9:=mR dv9 hk9;subst hv9;by_cases hz:ds.length < 1000000
   case neg=>dsimp only at h9;rw [acX hz] at h9;exact h9.elim
   dsimp only at h9;rw [acW hz] at h9;have hm:=eG;have z4':=s9 _ _ z4;have z5':=z5.mono (aW (as:=p::(bs++as0)) s9);refine ⟨bb,xs0,kn,rfl,rfl,z4',by rw [<- z5'.len];omega,?_⟩;have e1':=s9 _ _ e1;refine ⟨δ5,lu k (fw ds kn d7) dd4,g9.put e1' z2 z3 (z5'.put (dv7.mono (aW (s8.trans s9)))),qg (sG6.trans (s7.trans (s8.trans s9))) (cU (by simp [z3])),h9⟩
 .have e:n=xs.length:=by omega
  subst e;rw [aai] at h4;exact .inl ⟨G.stop H4 sG,hr as0 B _ _ _ g4.done h4⟩
def ML (K:aT) (hp:aaA (Xa X.prog X.w) X.A X.env X.xe) (hu:X.A.units+64 < ZM) (hN:X.N.Nodup) (hx:Bv X.env.scope x) (hxa:Bv X.env.scope xa) (hxb:Bv X.env.scope xb)
  (hi1:JI X (.Name xa q5) it1 (iD W [] ι1)) (h1:JE X e1 (tD W [] ε1)) (hi2:JI X (.Name xb r6) it2 (iD W [] ι2)) (hc:JT X c (rS W [] τ)) (h2:JE X e2 (tD W [] ε2)) (h3:JE X e3 (tD W [] ε3)) (h4:JE X e4 (tD W [] ε4)) (hr:JB X rest (sD W Ob [] O2 ψ))
  (hai:a≠i:=by decide) (hbi:b≠i:=by decide) (hXi:X.N[i]?=some x:=by rfl) (hXa:X.N[a]?=some xa:=by rfl) (hXb:X.N[b]?=some xb:=by rfl) (hv:Cz X.env.scope x:=by walk_at"v") (hd:adb x:=by decide) (hcd:(x==("__classdict__":Str))=false:=by decide)
  (hf:X.fn x=true\/X.env.scope.names.lookup x=some .local:=by walk_at"u") (hfa:X.fn xa=true\/X.env.scope.names.lookup xa=some .local:=by walk_at"u") (hfb:X.fn xb=true\/X.env.scope.names.lookup xb=some .local:=by walk_at"u")
  (hs0:Zf (.Dict [] [] p2) (some (.Name x p1)) p3.line X.env=pure false:=by rfl) (hn2:J5 e2:=by exact fun _ _=>rfl)
  (hs1:swapsWithSole [.Subscript (.Name x q1) e1 q2] (.Dict [] [] q3) q4.line X.env=pure false:=by rfl) (hw1:swappedStores [.Subscript (.Name x q1) e1 q2] (.Dict [] [] q3) X.env=pure none:=by rfl)
  (h11:(Yk [.Subscript (.Name x q1) e1 q2] X.env).map (·.2)=[assign (.Subscript (.Name x q1) e1 q2) X.env]:=by rfl)
  (ha1:∀ v,assign (.Subscript (.Name x q1) e1 q2) X.env v=(do
   let ov <- holding [v] (eval (.Name x q1) X.env)
   let iv <- holding [v,ov] (eval e1 X.env)
   abv q2
   holding [v,ov,iv] (setItem ov iv v)
   release [v,ov,iv] []):=by intro _;rfl)
  (hs2:swapsWithSole [.Subscript (.Subscript (.Name x r1) e2 r2) e3 r3] e4 r4.line X.env=pure false:=by rfl) (hw2:swappedStores [.Subscript (.Subscript (.Name x r1) e2 r2) e3 r3] e4 X.env=pure none:=by rfl)
  (h12:(Yk [.Subscript (.Subscript (.Name x r1) e2 r2) e3 r3] X.env).map (·.2)=[assign (.Subscript (.Subscript (.Name x r1) e2 r2) e3 r3) X.env]:=by rfl)
  (ha2:∀ v,assign (.Subscript (.Subscript (.Name x r1) e2 r2) e3 r3) X.env v=(do
   let ov <- holding [v] (eval (.Subscript (.Name x r1) e2 r2) X.env)
   let iv <- holding [v,ov] (eval e3 X.env)
   abv r3
   holding [v,ov,iv] (setItem ov iv v)
   release [v,ov,iv] []):=by intro _;rfl)
  (hW:W.K=K:=by rfl) (hcm:X.calm=true:=by rfl) (hsi1:∀ x,X5 it1 X.env x=pure x:=by intro _;rfl) (hsi2:∀ x,X5 it2 X.env x=pure x:=by intro _;rfl) :
  JB X (.Assign [.Name x p1] (.Dict [] [] p2) p3::.For (.Name xa q5) it1 [.Assign [.Subscript (.Name x q1) e1 q2] (.Dict [] [] q3) q4] [] f1::.For (.Name xb r6) it2 [.If c [.Assign [.Subscript (.Subscript (.Name x r1) e2 r2) e3 r3] e4 r4] [] r5] [] f2::rest) (sD W Ob [] O2 (aK (Ce i a b ι1 ε1 ι2 τ ε2 ε3 ε4) ψ)):=by
 refine JB.imp (vG (Dd hN hx zh hXi hs0 hf) (vG (CA hp hi1 (Af hN hXa hxa hfa) (zo (C6 zh (Dp (jv i hXi hv hd hcd) h1 (uq (by omega)) ha1) hs1 hw1 h11)) hcm hsi1)
  (vG (CA hp hi2 (Af hN hXb hxb hfb) (zo (N0 hc (zo (C6 h4 (Dp ⟨Fd (by omega) (jv i hXi hv hd hcd).out h2.out hn2⟩ h3 (uq (by omega)) ha2) hs2 hw2 h12)) Jv)) hcm hsi2) hr))) fun D' Z H hh=>fH hh fun as0 B own U I h=>?_
 have eown:own=[]:=List.eq_nil_of_length_eq_zero I.olen;subst eown;have hrr:∀ as0 B Z U H,DI W.K as0 B [] [] Z U H->bI W as0 B Ob O2 (ψ U) D'->sD W Ob [] O2 ψ D' Z H:=fun as0 B Z U H I h=>⟨as0,B,[],U,I,h⟩;generalize sD W Ob [] O2 ψ=tr at hrr;unfold aK Ce at h;by_cases hil:i < U.length
 case neg=>rw [acX hil] at h;exact h.elim
 rw [acW hil] at h;intro p L;have g0:GR W.K as0 B i p [] [] (Z.set i (some (.ref p))) (U.set i none) (upd H p (.dK [])):=by
  have sm:az (aH as0 H) (aH (p::as0) (upd H p (.dK []))):=ji L (aU L _);refine ⟨by simp [I.len],fun k d e=>?_,by rw [getElem?_set',acW rfl,acW (by rw [<- I.len];exact hil)],I.same.trans (aU L _),I.same.free L,fun b hb=>(nomatch hb),by simp,by simp,I.ex0,[],aS,rfl,rfl⟩
  rw [getElem?_set'] at e ⊢;split at e
  .first|cases e|(split at e <;> cases e)
  .rename_i hk;rw [acX hk];obtain ⟨v,a1,a2⟩:=I.var k d (by simp) e;exact ⟨v,a1,a2.mono sm⟩
 dsimp only [lw];generalize (upd H p (.dK []))=H2 at g0;generalize Z.set i (some (.ref p))=σ2 at g0;generalize U.set i none=δ2 at g0 h;clear L I hil;refine ⟨p::([]++as0),H2,[],δ2,g0.di,?_⟩;cases hι:ι1 δ2 with
 | er z=>rw [hι] at h;exact fun e C H' s=>h e C H' (g0.bs_.trans s)
 | no=>rw [hι] at h;exact h
 | ok xs =>
 rw [hι] at h;have h:bI W as0 B Ob O2 (kR i b ι2 τ ε2 ε3 ε4 ψ (J6 a ε1 xs δ2 [])) D':=h;intro J H3 s3 G;rw [sv] at G;have g3:=g0.mono s3;refine ⟨fun n m σ' H'=>m=xs.length - n/\n<=xs.length/\∃ bs δ' Y,GR W.K as0 B i p bs Y σ' δ' H'/\az (aH (p::as0) H3) H'/\(∀ b∈bs,H3 b=none)/\bI W as0 B Ob O2 (kR i b ι2 τ ε2 ε3 ε4 ψ (J6 a ε1 (xs.drop n) δ' Y)) D',
  ⟨xs.length,by simp,Xk _,[],δ2,[],g3,ax _ _,fun b hb=>(nomatch hb),by rw [Z8];exact h⟩,?_⟩
 rintro n m σ4 H4 ⟨rfl,hn,bs,δ4,dd4,g4,sG,hbs,h4⟩;by_cases hlt:n < xs.length
 .refine .inr ⟨G.go n H4 sG hlt,fun σ' H'=>∃ bs δ' Y,GR W.K as0 B i p bs Y σ' δ' H'/\az (aH (p::as0) H3) H'/\(∀ b∈bs,H3 b=none)/\bI W as0 B Ob O2 (kR i b ι2 τ ε2 ε3 ε4 ψ (J6 a ε1 (xs.drop (n+1)) δ' Y)) D',
   fun σ' H' z=>⟨xs.length - (n+1),by omega,rfl,hlt,z⟩,fun v H5 y=>?_⟩
  obtain ⟨s5,d,hd5,dv⟩:=G.yl n H4 v H5 (p::(bs++as0)) sG g4.exi (fun u hu=>by
   rcases iN.mp hu with rfl|hu
   .exact .inl (by simp)
   .rcases DO.mp hu with hu|hu
    .exact .inr (hbs u hu)
    .exact .inl (by simp [hu])) hlt y
  have ed:xs.drop n=d::xs.drop (n+1):=by
   rw [YZ hlt];rw [rW hlt] at hd5;cases hd5;rfl
  rw [ed] at h4;have g5:=(g4.mono s5).set hai dv;have sG5:=sG.trans s5;have h5:bI W as0 B Ob O2 (kR i b ι2 τ ε2 ε3 ε4 ψ ((ε1 (δ4.set a (some d))).bind fun k=>match kG k with
   | some k=>if ij k dd4=none/\dd4.length < 1000000 then J6 a ε1 (xs.drop (n+1)) (δ4.set a (some d)) (dd4++[(k,[])]) else .no
   | none=>.no)) D':=h4
  dsimp only [lw];generalize σ4.set a (some v)=σ5 at g5;generalize δ4.set a (some d)=δ5 at g5 h5;intro q hq;unfold Gf xc;rw [g5.hi];have g6:=g5.mono (aU hq (.dK []));refine ⟨_,_,[],δ5,g6.di,?_⟩;cases hε:ε1 δ5 with
  | er z=>rw [hε] at h5;exact fun e C H' s=>h5 e C H' (g6.bs_.trans s)
  | no=>rw [hε] at h5;exact h5
  | ok k7 =>
  rw [hε] at h5;intro v7 H7 s7 dv7;have h7:bI W as0 B Ob O2 (kR i b ι2 τ ε2 ε3 ε4 ψ (match kG k7 with
   | some k=>if ij k dd4=none/\dd4.length < 1000000 then J6 a ε1 (xs.drop (n+1)) δ5 (dd4++[(k,[])]) else .no
   | none=>.no)) D':=h5
  cases hk:kG k7 with
  | none=>rw [hk] at h7;exact h7.elim
  | some k =>
  rw [hk] at h7;dsimp only at h7;have hv7:=mR dv7 hk;subst hv7;by_cases hz:ij k dd4=none/\dd4.length < 1000000
  case neg=>rw [acX hz] at h7;exact h7.elim
  rw [acW hz] at h7;obtain ⟨kvs,e1,e2⟩:=(g6.mono s7).hp;have hm:=eG;refine ⟨p,kvs,k,rfl,rfl,e1,by rw [<- e2.len];omega,bs++[q],δ5,_,g5.more hq s7 e1 hz.1,qg (sG5.trans ((aU hq _).trans s7)) (cU (by simp)),fun c hc=>?_,h7⟩;rcases DO.mp hc with hc|hc
  .exact hbs c hc
  .rw [OR.mp hc];cases e:H3 q with
   | none=>rfl
   | some o =>
    by_cases hqm:q∈p::as0
    .rcases iN.mp hqm with rfl|hqm
     .obtain ⟨kv,e3,_⟩:=g5.hp;rw [e3] at hq;cases hq
     .exact absurd (g5.bs_.free hq) (g5.ex q hqm)
    .have:=sG5 q o (by rw [aO hqm];exact e)
     rw [hq] at this;cases this
 .have e:n=xs.length:=by omega
  subst e;rw [aai] at h4;exact .inl ⟨G.stop H4 sG,Bz hbi hW hrr g4 h4⟩
end
def D7 (a b:D):R D:=gH (xH a b) fun k=>k
section
variable {X:Cx} {W:Wd}
def Uv (K:aT):R2:=fun x y H Q=>∃ p q a b xs ys k,x=.ref p/\y=.ref q/\Rd H p (.dK xs)/\Rd H q (.dK ys)/\cr K H a xs/\cr K H b ys/\Ku a b=some k/\Q (.bl k) H
def Iq (K:aT) (hu:X.A.units+64 < ZM) (hK:X.K=K:=by rfl):eZ X (Xn .Eq) (Uv K):=by
 subst hK;intro af s Z H x y v u Q I rx ry h;obtain ⟨p,q,a,b,xs,ys,k,rfl,rfl,hp,hq,da,db,e,hQ⟩:=h;cases rx;cases ry;obtain ⟨_,h1,va,ra,d1⟩:=oV I.hok hp;obtain ⟨_,h2,vb,Y,d2⟩:=oV I.hok hq;have l1:a.length=va.length:=da.len.trans (show Paired _ _ _ from ra).length;have l2:b.length=vb.length:=db.len.trans (show Paired _ _ _ from Y).length;have L:(if a.length=b.length then qG b a else some false)=some k:=e;by_cases J:a.length=b.length
 .rw [acW J] at L;refine acS (r:=k) h1 h2 d1 d2 (by omega) (fun _=>z9 I hu db Y da ra L) ⟨.bl k,H,I,?_,hQ⟩
  have:(va.length==vb.length)=true:=by rw [<- l1,<- l2,J];exact beq_self_eq_true _
  rw [this];rfl
 .rw [acX J] at L;cases L;refine acS (r:=false) h1 h2 d1 d2 (by omega) (fun z=>absurd (l1.trans (z.trans l2.symm)) J) ⟨.bl false,H,I,?_,hQ⟩;rw [abJ];rfl
def R4 (K:aT) (hW:W.K=K:=by rfl):rE W (Uv K) D7:=by
 subst hW;intro as H x y a b Q hn da db h;have h:cO W as H (gH (xH a b) fun k=>k) Q:=h;cases e:xH a b with
 | none=>rw [e] at h;exact h.elim
 | some k =>
  rw [e] at h;have h':cO W as H (.ok (.bl k)) Q:=h;unfold xH at e;cases ea:ik a with
  | none=>rw [ea] at e;cases e
  | some ka =>
   cases eb:ik b with
   | none=>rw [ea,eb] at e;cases e
   | some J =>
    rw [ea,eb] at e;obtain ⟨p,xs,rfl,h1,h2⟩:=iG da ea;obtain ⟨q,ys,rfl,L,Y⟩:=iG db eb;exact ⟨p,q,ka,J,xs,ys,k,rfl,rfl,(ax _ _).rd h1,(ax _ _).rd L,h2.mono (ax _ _),Y.mono (ax _ _),e,aP h' rfl⟩
end
section
variable {X:Cx} {W:Wd} {Ob O O':ac2} {st:Yj} {e:Yb}
def Ni:FS:=fun _=>.no
def uR:JS X st (sD W Ob O O' Ni):=⟨fun af s Z H D I q=>let ⟨_,_,_,_,_,h⟩:=q;h.elim⟩
end
end L2
namespace T32
open PySem L2
def nJ:D:=(.tup [(.str "none"),(.str "number"),(.str "text")])
def tM:D:=(.int 40)
def wW:D:=(.int 4)
def w9:D:=(.int 8)
def lb:D:=(.int 1000000000)
def n8:D:=(.tup [(.str "and"),(.str "by"),(.str "down"),(.str "from"),(.str "none"),(.str "not"),(.str "or"),(.str "order"),(.str "show"),(.str "take"),(.str "where")])
def oW:D:=(.tup [(.str "number"),(.str "text")])
def kC:D:=(.int 8)
def pD:D:=(.int 8)
def gU:List (Str×D):=[("table",(.int 2)),("index",(.int 3)),("put",(.int 4)),("drop",(.int 3))]
def Be:z7:=[(("BadChange":Str),("BadChange":Str),true),(("BadChange":Str),("NoRow":Str),false),(("NoRow":Str),("BadChange":Str),false),(("NoRow":Str),("NoRow":Str),true)]
def KL:ac3:=["BadChange","NoRow"]
abbrev uI (i:Nat) (n:Int):FE:=aE fA (ai i) (vC (.int n))
abbrev uc:FE:=vC (.int 0)
abbrev kJ:FE:=vC (.int 1)
abbrev Hq:FE:=vC (.int 2)
abbrev QX:FE:=vC (.int 3)
abbrev PX:FE:=vC (.int 5)
abbrev LO:FE:=vC (.int 7)
abbrev SW:FE:=vC (.int 9)
abbrev DF:FE:=vC (.int 10)
abbrev Io:FE:=vC (.int 99)
abbrev fU:FE:=vC (.str "leaf")
abbrev gy:FE:=vC (.str "branch")
abbrev iY:FE:=vC (.str "table")
abbrev mZ:FE:=vC (.str "index")
abbrev oY:FE:=vC (.str "put")
abbrev sR:FE:=vC (.str "drop")
abbrev ye:ac3:=["sign"]
abbrev mq:ac3:=["sign"]
def yV:FS:=(a9 (kI (aE Lb (ai 0) (vC (.str " "))) (aE L5 (ai 0) (vC (.str "~")))))
def yq:ada->R D:=bG yV ye mq
abbrev qX:ac3:=["thing"]
abbrev ki:ac3:=["thing"]
def nQ:FS:=(aK (iq (gE (ao jV (ae (ai 0) (ae (vC (.ty "str")) ap)))) (a9 (kI (aE L5 (ao cz (ae (ai 0) ap)) (vC tM)) (ao zu (ae (fv [none] (jq (ai 0)) (.one 0) n9 (ao yq (ae (ai 0) ap))) ap)))) bu) (aK (iq (wH (gE (ao jV (ae (ai 0) (ae (vC (.ty "int")) ap)))) (j6 (gE (ao jV (ae (ai 0) (ae (vC (.ty "bool")) ap)))))) (a9 (aE AD (ao Mm (ae (ai 0) ap)) (aE xK DF (vC (.int 18))))) bu) (a9 (aE QJ (ai 0) (vC .non)))))
def nO:ada->R D:=bG nQ qX ki
def Cv (J:D):nO [J]=fin (nQ [some J]):=rfl
abbrev yX:ac3:=["value"]
abbrev mI:ac3:=["value"]
def p4:FS:=(aK (iq (bS (aE QJ (ai 0) (vC .non))) (a9 (vC (.str "none"))) bu) (a9 (Lc (gE (ao jV (ae (ai 0) (ae (vC (.ty "str")) ap)))) (vC (.str "text")) (vC (.str "number")))))
def ci:ada->R D:=bG p4 yX mI
def Gz (J:D):ci [J]=fin (p4 [some J]):=rfl
abbrev yH:ac3:=["one","other"]
abbrev mE:ac3:=["one","other"]
def pT:FS:=(aK (iq (bS (aE sA (ao ci (ae (ai 0) ap)) (ao ci (ae (ai 1) ap)))) (a9 (Lc (bS (aE AD (Bn nJ (ae (ao ci (ae (ai 0) ap)) ap)) (Bn nJ (ae (ao ci (ae (ai 1) ap)) ap)))) (Ld B4 kJ) kJ)) bu) (aK (iq (bS (aE eY (ai 0) (ai 1))) (a9 uc) bu) (a9 (Lc (bS (aE AD (ai 0) (ai 1))) (Ld B4 kJ) kJ))))
def qh:ada->R D:=bG pT yH mE
def F9 (L J:D):qh [L,J]=fin (pT [some L,some J]):=rfl
abbrev uU:ac3:=["value"]
abbrev jm:ac3:=["value"]
def lm:FS:=(aK (iq (bS (aE QJ (ai 0) (vC .non))) (a9 (bN (ae uc (ae uc ap)))) bu) (a9 (bN (ae (Bn nJ (ae (ao ci (ae (ai 0) ap)) ap)) (ae (ai 0) ap)))))
def lf:ada->R D:=bG lm uU jm
def Ba (J:D):lf [J]=fin (lm [some J]):=rfl
abbrev qJ:ac3:=["one","other","told"]
abbrev eh:ac3:=["one","other"]
def iL:FS:=(aK (bq 2 (ao qh (ae (uI 0 0) (ae (uI 1 0) ap)))) (a9 (QU (aE AD (ai 2) uc) (kI (aE eY (ai 2) uc) (aE AD (uI 0 1) (uI 1 1))))))
def bx:ada->R D:=bG iL qJ eh
def xW (L J:D):bx [L,J]=fin (iL [some L,some J,none]):=rfl
abbrev qI:ac3:=[]
abbrev fP:ac3:=[]
def iO:FS:=(a9 (bN (ae fU (ae (bN ap) ap))))
def iP:ada->R D:=bG iO qI fP
def xJ:iP []=fin (iO []):=rfl
abbrev tL:ac3:=["parts","entry","place"]
abbrev du:ac3:=["parts","entry"]
abbrev lQ:FT:=(wH (bS (aE AD (aE cj (ai 2) kJ) (ao cz (ae (ai 0) ap)))) (j6 (gE (ao bx (ae (ai 1) (ae (aE fA (aE fA (ai 0) (aE cj (ai 2) kJ)) uc) ap))))))
def jJ:FS:=(aK (bq 2 uc) (aK (dr lQ (qe 2 kJ) 1000) (a9 (ai 2))))
def ce:ada->R D:=bG jJ tL du
def zc (L J:D):ce [L,J]=fin (jJ [some L,some J,none]):=rfl
abbrev uK:ac3:=["index","value","number","entry","cell","parts"]
abbrev i5:ac3:=["index","value","number"]
abbrev hQ:FT:=(bS (aE eY (uI 4 0) gy))
abbrev hB:FS:=(aK (bq 5 (uI 4 1)) (bq 4 (aE fA (aE fA (ai 5) (ao ce (ae (ai 5) (ae (ai 3) ap)))) kJ)))
def lv:FS:=(aK (bq 3 (bN (ae (ai 1) (ae (ai 2) ap)))) (aK (bq 4 (ai 0)) (aK (dr hQ hB 1000) (a9 (aE JQ (ai 3) (uI 4 1))))))
def gA:ada->R D:=bG lv uK i5
def BU (L J Y:D):gA [L,J,Y]=fin (lv [some L,some J,some Y,none,none,none]):=rfl
abbrev v3:ac3:=["cell"]
abbrev kF:ac3:=["cell"]
def nR:FS:=(a9 (Lc (bS (aE eY (uI 0 0) fU)) (aE fA (uI 0 1) uc) (aE fA (aE fA (uI 0 1) uc) uc)))
def kj:ada->R D:=bG nR v3 kF
def Dl (J:D):kj [J]=fin (nR [some J]):=rfl
abbrev ou:ac3:=["thing"]
abbrev dH:ac3:=["thing"]
def fZ:FS:=(a9 (kI (ao jV (ae (ai 0) (ae (vC (.ty "int")) ap))) (kI (LJ (ao jV (ae (ai 0) (ae (vC (.ty "bool")) ap)))) (kI (aE Lb (ai 0) kJ) (aE L5 (ai 0) (vC lb))))))
def dW:ada->R D:=bG fZ ou dH
def vk (J:D):dW [J]=fin (fZ [some J]):=rfl
abbrev u8:ac3:=["sign"]
abbrev i7:ac3:=["sign"]
def lj:FS:=(a9 (kI (aE Lb (ai 0) (vC (.str "a"))) (aE L5 (ai 0) (vC (.str "z")))))
def jg:ada->R D:=bG lj u8 i7
def Bc (J:D):jg [J]=fin (lj [some J]):=rfl
abbrev uf:ac3:=["thing"]
abbrev ma:ac3:=["thing"]
def p0:FS:=(aK (iq (xN (j6 (gE (ao jV (ae (ai 0) (ae (vC (.ty "str")) ap))))) (xN (bS (aE eY (ai 0) (vC (.str "")))) (bS (aE Qb (ao cz (ae (ai 0) ap)) (vC kC))))) (a9 (vC (.bl false))) bu) (a9 (kI (ao zu (ae (fv [none] (jq (ai 0)) (.one 0) n9 (ao jg (ae (ai 0) ap))) ap)) (aE ux (ai 0) (vC n8)))))
def mB:ada->R D:=bG p0 uf ma
def Hn (J:D):mB [J]=fin (p0 [some J]):=rfl
abbrev mT:ac3:=["thing"]
abbrev cY:ac3:=["thing"]
def mL:FS:=(a9 (kI (ao jV (ae (ai 0) (ae (vC (.ty "str")) ap))) (aE WO (ai 0) (vC oW))))
def mW:ada->R D:=bG mL mT cY
abbrev yK:ac3:=["thing"]
abbrev mr:ac3:=["thing"]
def qb:FS:=(a9 (kI (ao jV (ae (ai 0) (ae (vC (.ty "tuple")) ap))) (aE eY (ao cz (ae (ai 0) ap)) Hq)))
def mh:ada->R D:=bG qb yK mr
def GG (J:D):mh [J]=fin (qb [some J]):=rfl
abbrev vg:ac3:=["thing"]
abbrev jl:ac3:=["thing"]
def uS:FS:=(a9 (kI (ao mh (ae (ai 0) ap)) (kI (ao mB (ae (uI 0 0) ap)) (ao mW (ae (uI 0 1) ap)))))
def u6:ada->R D:=bG uS vg jl
abbrev iM:ac3:=["thing","names"]
abbrev fG:ac3:=["thing"]
def qQ:FS:=(aK (iq (xN (j6 (gE (ao jV (ae (ai 0) (ae (vC (.ty "tuple")) ap))))) (xN (bS (aE AD (ao cz (ae (ai 0) ap)) kJ)) (bS (aE Qb (ao cz (ae (ai 0) ap)) (vC pD))))) (a9 (vC (.bl false))) bu) (aK (iq (j6 (gE (ao zu (ae (fv [none] (jq (ai 0)) (.one 0) n9 (ao u6 (ae (ai 0) ap))) ap)))) (a9 (vC (.bl false))) bu) (aK (bq 1 (fv [none] (jq (ai 0)) (.one 0) n9 (uI 0 0))) (a9 (aE eY (ao zR (ae (ai 1) ap)) (ao cz (ae (ai 1) ap)))))))
def lY:ada->R D:=bG qQ iM fG
abbrev wC:ac3:=["thing"]
abbrev j4:ac3:=["thing"]
def nZ:FS:=(a9 (kI (ao mh (ae (ai 0) ap)) (kI (ao mB (ae (uI 0 0) ap)) (ao lY (ae (uI 0 1) ap)))))
def nP:ada->R D:=bG nZ wC j4
def DK (J:D):nP [J]=fin (nZ [some J]):=rfl
abbrev pE:ac3:=["shape","column","place","pair"]
abbrev eS:ac3:=["shape","column"]
abbrev WM:FS:=(iq (bS (aE eY (uI 3 0) (ai 1))) (a9 (ai 2)) bu)
def gL:FS:=(aK (uk (kf (ae (uI 0 1) ap)) (.tup [2,3]) WM) (a9 (vC .non)))
def cp:ada->R D:=bG gL pE eS
def wJ (L J:D):cp [L,J]=fin (gL [some L,some J,none,none]):=rfl
abbrev uZ:ac3:=["thing","kind"]
abbrev jf:ac3:=["thing","kind"]
def lr:FS:=(a9 (QU (aE QJ (ai 0) (vC .non)) (kI (ao nO (ae (ai 0) ap)) (aE eY (ao ci (ae (ai 0) ap)) (ai 1)))))
def gx:ada->R D:=bG lr uZ jf
def B3 (L J:D):gx [L,J]=fin (lr [some L,some J]):=rfl
abbrev CI:ac3:=["shape","row","columns"]
abbrev wl:ac3:=["shape","row"]
def Ae:FS:=(aK (bq 2 (uI 0 1)) (aK (iq (xN (j6 (gE (ao jV (ae (ai 1) (ae (vC (.ty "tuple")) ap))))) (bS (aE sA (ao cz (ae (ai 1) ap)) (ao cz (ae (ai 2) ap))))) (a9 (vC (.bl false))) bu) (a9 (ao zu (ae (fv [none,none] (MH (ae (ai 1) (ae (ai 2) ap))) (.tup [0,1]) n9 (ao gx (ae (ai 0) (ae (uI 1 1) ap)))) ap)))))
def xj:ada->R D:=bG Ae CI wl
def Qz (L J:D):xj [L,J]=fin (Ae [some L,some J,none]):=rfl
abbrev wu:ac3:=["word","things","many","cells","place","start","end"]
abbrev iE:ac3:=["word","things"]
abbrev cB:FS:=(aK (bq 5 (aE lR (aE oF (ai 4) (ao cz (ae (ai 1) ap))) (ai 2))) (aK (bq 6 (aE lR (aE oF (aE cj (ai 4) kJ) (ao cz (ae (ai 1) ap))) (ai 2))) (jN 3 (bN (ae (ai 0) (ae (ao wE (ae (vm G0 (ai 1) (dU (ai 5)) (dU (ai 6))) ap)) ap))))))
def nj:FS:=(aK (bq 2 (aE lR (aE zL (aE cj (ao cz (ae (ai 1) ap)) (vC w9)) kJ) (vC w9))) (aK (um 3 (ia ap)) (aK (uk (wg (ae (ai 2) ap)) (.one 4) cB) (a9 (ai 3)))))
def cN:ada->R D:=bG nj wu iE
def Dk (L J:D):cN [L,J]=fin (nj [some L,some J,none,none,none,none,none]):=rfl
abbrev rR:ac3:=["cells"]
abbrev gq:ac3:=["cells"]
def nN:FS:=(a9 (fv [none] (jq (ai 0)) (.one 0) n9 (bN (ae (ao kj (ae (ai 0) ap)) (ae (ai 0) ap)))))
def cP:ada->R D:=bG nN rR gq
def C5 (J:D):cP [J]=fin (nN [some J]):=rfl
abbrev BQ:ac3:=["cells","level"]
abbrev pz:ac3:=["cells"]
abbrev rQ:FT:=(bS (aE Qb (ao cz (ae (ai 1) ap)) kJ))
abbrev rB:FS:=(bq 1 (ao cN (ae gy (ae (ao cP (ae (ai 1) ap)) ap))))
def sd:FS:=(aK (bq 1 (ai 0)) (aK (dr rQ rB 1000) (a9 (uI 1 0))))
def oZ:ada->R D:=bG sd BQ pz
def J7 (J:D):oZ [J]=fin (sd [some J,none]):=rfl
abbrev jP:ac3:=["cell","entry","ahead","behind","parts","place","fresh"]
abbrev dE:ac3:=["cell","entry"]
def gQ (jU:ada->R D):FS:=(aK (iq (bS (aE eY (uI 0 0) fU)) (aK (bq 2 (fv [none,some 1] (jq (uI 0 1)) (.one 0) (gE (ao bx (ae (ai 0) (ae (ai 1) ap)))) (ai 0))) (aK (bq 3 (fv [none,some 1] (jq (uI 0 1)) (.one 0) (gE (ao bx (ae (ai 1) (ae (ai 0) ap)))) (ai 0))) (a9 (ao cN (ae fU (ae (aE cj (aE cj (ai 2) (ia (ae (ai 1) ap))) (ai 3)) ap)))))) bu) (aK (bq 4 (ao BW (ae (uI 0 1) ap))) (aK (bq 5 (ao ce (ae (ai 4) (ae (ai 1) ap)))) (aK (bq 6 (ao jU (ae (aE fA (aE fA (ai 4) (ai 5)) kJ) (ae (ai 1) ap)))) (a9 (ao cN (ae gy (ae (aE cj (aE cj (vm qN (ai 4) fJ (dU (ai 5))) (ao cP (ae (ai 6) ap))) (vm qN (ai 4) (dU (aE cj (ai 5) kJ)) fJ)) ap))))))))
def cJ:Nat->(ada->R D)
 | 0=>(fun _=>.no)
 | n+1=>(bG (gQ ((cJ n))) jP dE)
def jU:ada->R D:=(cJ 40)
def tq (n:Nat) (L J:D):(cJ (n+1)) [L,J]=fin (gQ ((cJ n)) [some L,some J,none,none,none,none,none]):=rfl
abbrev tF:ac3:=["index","value","number"]
abbrev gI:ac3:=["index","value","number"]
def jT:FS:=(aK (iq (gE (ao gA (ae (ai 0) (ae (ai 1) (ae (ai 2) ap))))) (a9 (ai 0)) bu) (a9 (ao oZ (ae (ao jU (ae (ai 0) (ae (bN (ae (ai 1) (ae (ai 2) ap))) ap))) ap))))
def gP:ada->R D:=bG jT tF gI
def Aw (L J Y:D):gP [L,J,Y]=fin (jT [some L,some J,some Y]):=rfl
abbrev Bg:ac3:=["parts","place","smaller","start","things","fresh"]
abbrev mC:ac3:=["parts","place","smaller"]
def sY:FS:=(aK (iq (bS (aE eY (ai 1) uc)) (aK (bq 3 uc) (bq 4 (aE oq (uI 2 1) (aE fA (aE fA (uI 0 1) kJ) kJ)))) (aK (bq 3 (aE zL (ai 1) kJ)) (bq 4 (aE oq (aE fA (aE fA (aE fA (ai 0) (ai 3)) kJ) kJ) (uI 2 1))))) (aK (bq 5 (ao cN (ae (uI 2 0) (ae (ai 4) ap)))) (a9 (bN (ae gy (ae (ao wE (ae (aE oq (aE oq (vm qN (ai 0) fJ (dU (ai 3))) (ao cP (ae (ai 5) ap))) (vm qN (ai 0) (dU (aE oq (ai 3) Hq)) fJ)) ap)) ap))))))
def oH:ada->R D:=bG sY Bg mC
def JC (L J Y:D):oH [L,J,Y]=fin (sY [some L,some J,some Y,none,none,none]):=rfl
abbrev kh:ac3:=["cell","entry","parts","place","smaller"]
abbrev ck:ac3:=["cell","entry"]
def eN (eT:ada->R D):FS:=(aK (iq (bS (aE eY (uI 0 0) fU)) (a9 (bN (ae fU (ae (ao wE (ae (fv [none,some 1] (jq (uI 0 1)) (.one 0) (bS (aE sA (ai 0) (ai 1))) (ai 0)) ap)) ap)))) bu) (aK (bq 2 (ao BW (ae (uI 0 1) ap))) (aK (bq 3 (ao ce (ae (ai 2) (ae (ai 1) ap)))) (aK (bq 4 (ao eT (ae (aE fA (aE fA (ai 2) (ai 3)) kJ) (ae (ai 1) ap)))) (aK (iq (bS (aE Lb (ao cz (ae (uI 4 1) ap)) (vC wW))) (a9 (bN (ae gy (ae (ao wE (ae (aE cj (aE cj (vm qN (ai 2) fJ (dU (ai 3))) (ao cP (ae (ia (ae (ai 4) ap)) ap))) (vm qN (ai 2) (dU (aE cj (ai 3) kJ)) fJ)) ap)) ap)))) bu) (a9 (ao oH (ae (ai 2) (ae (ai 3) (ae (ai 4) ap))))))))))
def bM:Nat->(ada->R D)
 | 0=>(fun _=>.no)
 | n+1=>(bG (eN ((bM n))) kh ck)
def eT:ada->R D:=(bM 40)
def pA (n:Nat) (L J:D):(bM (n+1)) [L,J]=fin (eN ((bM n)) [some L,some J,none,none,none]):=rfl
abbrev ot:ac3:=["index","value","number","root"]
abbrev dR:ac3:=["index","value","number"]
def fX:FS:=(aK (iq (j6 (gE (ao gA (ae (ai 0) (ae (ai 1) (ae (ai 2) ap)))))) (a9 (ai 0)) bu) (aK (bq 3 (ao eT (ae (ai 0) (ae (bN (ae (ai 1) (ae (ai 2) ap))) ap)))) (aK (iq (wH (bS (aE eY (uI 3 0) gy)) (bS (aE eY (ao cz (ae (uI 3 1) ap)) kJ))) (a9 (aE fA (aE fA (uI 3 1) uc) kJ)) bu) (a9 (ai 3)))))
def dL:ada->R D:=bG fX ot dR
def vj (L J Y:D):dL [L,J,Y]=fin (fX [some L,some J,some Y,none]):=rfl
abbrev uY:ac3:=["entry"]
abbrev jh:ac3:=["entry"]
def kK:FS:=(a9 (bN (ae (ao lf (ae (uI 0 0) ap)) (ae (uI 0 1) ap))))
def dj:ada->R D:=bG kK uY jh
def BX (J:D):dj [J]=fin (kK [some J]):=rfl
abbrev sN:ac3:=["entries","once","entry"]
abbrev gJ:ac3:=["entries"]
abbrev nB:FS:=(iq (xN (bS (aE eY (ai 1) (ia ap))) (bS (aE sA (aE fA (ai 1) (Ld B4 kJ)) (ai 2)))) (jN 1 (ai 2)) bu)
def jR:FS:=(aK (um 1 (ia ap)) (aK (uk (jq (ao (wN keyN dj) (ae (ai 0) ap))) (.one 2) nB) (aK (iq (bS (aE eY (ai 1) (ia ap))) (a9 (ao iP ap)) bu) (a9 (ao oZ (ae (ao cN (ae fU (ae (ai 1) ap))) ap))))))
def jM:ada->R D:=bG jR sN gJ
def zN (J:D):jM [J]=fin (jR [some J,none,none]):=rfl
abbrev u5:ac3:=["shape"]
abbrev iV:ac3:=["shape"]
def lq:FS:=(a9 (Rv "Table" ["shape","rows","indexes"] (ae (ai 0) (ae (LM (vC (.dct []))) (ae (LM (vC (.dct []))) ap)))))
def kX:ada->R D:=bG lq u5 iV
def A9 (J:D):kX [J]=fin (lq [some J]):=rfl
abbrev oy:ac3:=["table","column","number","index"]
abbrev dJ:ac3:=["table","column","number"]
def fR:FS:=(aK (bq 3 (aE j8 (ic "Table" "indexes" (ai 0)) (ai 1))) (aK (iq (bS (aE pX (ai 2) (ic "Table" "rows" (ai 0)))) (a9 (ai 3)) bu) (a9 (ao dL (ae (ai 3) (ae (aE fA (aE j8 (ic "Table" "rows" (ai 0)) (ai 2)) (ao cp (ae (ic "Table" "shape" (ai 0)) (ae (ai 1) ap)))) (ae (ai 2) ap)))))))
def fS:ada->R D:=bG fR oy dJ
def vv (L J Y:D):fS [L,J,Y]=fin (fR [some L,some J,some Y,none]):=rfl
abbrev wZ:ac3:=["table","number","row","rows","indexes","column","index"]
abbrev kr:ac3:=["table","number","row"]
abbrev VO:FS:=(aK (bq 6 (ao fS (ae (ai 0) (ae (ai 5) (ae (ai 1) ap))))) (u9 4 (ai 5) (ao gP (ae (ai 6) (ae (aE fA (ai 2) (ao cp (ae (ic "Table" "shape" (ai 0)) (ae (ai 5) ap)))) (ae (ai 1) ap))))))
def nU:FS:=(aK (um 3 (ao FP (ae (ic "Table" "rows" (ai 0)) ap))) (aK (u9 3 (ai 1) (ai 2)) (aK (um 4 (vC (.dct []))) (aK (uk (Em (ic "Table" "indexes" (ai 0))) (.one 5) VO) (Mu 4 (Mu 3 (a9 (Rv "Table" ["shape","rows","indexes"] (ae (ic "Table" "shape" (ai 0)) (ae (ai 3) (ae (ai 4) ap)))))))))))
def nW:ada->R D:=bG nU wZ kr
def Dm (L J Y:D):nW [L,J,Y]=fin (nU [some L,some J,some Y,none,none,none,none]):=rfl
abbrev nq:ac3:=["table","column","place"]
abbrev hJ:ac3:=["table","column"]
def jI:FS:=(aK (bq 2 (ao cp (ae (ic "Table" "shape" (ai 0)) (ae (ai 1) ap)))) (a9 (fv [none,none,some 2] (zK (ic "Table" "rows" (ai 0))) (.tup [0,1]) n9 (bN (ae (aE fA (ai 1) (ai 2)) (ae (ai 0) ap))))))
def jH:ada->R D:=bG jI nq hJ
def zA (L J:D):jH [L,J]=fin (jI [some L,some J,none]):=rfl
abbrev tB:ac3:=["table","column","indexes"]
abbrev gK:ac3:=["table","column"]
def jW:FS:=(aK (um 2 (ao FP (ae (ic "Table" "indexes" (ai 0)) ap))) (aK (u9 2 (ai 1) (ao jM (ae (ao jH (ae (ai 0) (ae (ai 1) ap))) ap))) (Mu 2 (a9 (Rv "Table" ["shape","rows","indexes"] (ae (ic "Table" "shape" (ai 0)) (ae (ic "Table" "rows" (ai 0)) (ae (ai 2) ap))))))))
def jL:ada->R D:=bG jW tB gK
def zp (L J:D):jL [L,J]=fin (jW [some L,some J,none]):=rfl
abbrev yd:ac3:=["change"]
abbrev mo:ac3:=["change"]
def p5:FS:=(aK (iq (xN (j6 (gE (ao jV (ae (ai 0) (ae (vC (.ty "tuple")) ap))))) (xN (bS (aE eY (ao cz (ae (ai 0) ap)) uc)) (j6 (gE (ao jV (ae (uI 0 0) (ae (vC (.ty "str")) ap))))))) (Ta "BadChange" (ae (vC (.str "no tuple with a word")) ap)) bu) (aK (iq (xN (bS (aE (MP (gU.map (·.1)) "FORMS") (uI 0 0) (vC (.cls "FORMS")))) (bS (aE sA (ao cz (ae (ai 0) ap)) (Ld (Rs gU) (uI 0 0))))) (Ta "BadChange" (ae (vC (.str "another word, or more or fewer things than it has")) ap)) bu) (a9 (uI 0 0))))
def j1:ada->R D:=bG p5 yd mo
def F5 (J:D):j1 [J]=fin (p5 [some J]):=rfl
abbrev sE:ac3:=["state","name","table","behind"]
abbrev hU:ac3:=["state","name","table"]
def jS:FS:=(aK (um 3 (ao FP (ae (ai 0) ap))) (aK (u9 3 (ai 1) (ai 2)) (Mu 3 (a9 (ai 3)))))
def fe:ada->R D:=bG jS sE hU
def zC (L J Y:D):fe [L,J,Y]=fin (jS [some L,some J,some Y,none]):=rfl
abbrev j9:ac3:=["state","shape"]
abbrev cu:ac3:=["state","shape"]
def dC:FS:=(aK (iq (j6 (gE (ao nP (ae (ai 1) ap)))) Ni bu) (aK (iq (bS (aE DC (uI 1 0) (ai 0))) Ni bu) (a9 (ao fe (ae (ai 0) (ae (uI 1 0) (ae (ao kX (ae (ai 1) ap)) ap)))))))
def cq:ada->R D:=bG dC j9 cu
def rh (L J:D):cq [L,J]=fin (dC [some L,some J]):=rfl
abbrev w6:ac3:=["state","name"]
abbrev km:ac3:=["state","name"]
def nD:FS:=(aK (iq (xN (j6 (gE (ao jV (ae (ai 1) (ae (vC (.ty "str")) ap))))) (bS (aE pX (ai 1) (ai 0)))) Ni bu) (a9 (aE j8 (ai 0) (ai 1))))
def iB:ada->R D:=bG nD w6 km
def CD (L J:D):iB [L,J]=fin (nD [some L,some J]):=rfl
abbrev kc:ac3:=["state","name","column","table"]
abbrev cm:ac3:=["state","name","column"]
def dt:FS:=(aK (bq 3 (ao iB (ae (ai 0) (ae (ai 1) ap)))) (aK (iq (xN (j6 (gE (ao jV (ae (ai 2) (ae (vC (.ty "str")) ap))))) (bS (aE QJ (ao cp (ae (ic "Table" "shape" (ai 3)) (ae (ai 2) ap))) (vC .non)))) Ni bu) (aK (iq (bS (aE DC (ai 2) (ic "Table" "indexes" (ai 3)))) Ni bu) (a9 (ao fe (ae (ai 0) (ae (ai 1) (ae (ao jL (ae (ai 3) (ae (ai 2) ap))) ap))))))))
def cw:ada->R D:=bG dt kc cm
def rq (L J Y:D):cw [L,J,Y]=fin (dt [some L,some J,some Y,none]):=rfl
abbrev mU:ac3:=["state","name","number","row","table"]
abbrev cZ:ac3:=["state","name","number","row"]
def dc:FS:=(aK (bq 4 (ao iB (ae (ai 0) (ae (ai 1) ap)))) (aK (iq (j6 (gE (ao dW (ae (ai 2) ap)))) Ni bu) (aK (iq (j6 (gE (ao xj (ae (ic "Table" "shape" (ai 4)) (ae (ai 3) ap))))) Ni bu) (a9 (ao fe (ae (ai 0) (ae (ai 1) (ae (ao nW (ae (ai 4) (ae (ai 2) (ae (ai 3) ap)))) ap))))))))
def de:ada->R D:=bG dc mU cZ
def ms (Y J a2 L:D):de [Y,J,a2,L]=fin (dc [some Y,some J,some a2,some L,none]):=rfl
abbrev oo:ac3:=["table","number"]
abbrev dY:ac3:=["table","number"]
def fT:FS:=(iq (xN (j6 (gE (ao (cR dW) (ae (ai 1) ap)))) (bS (aE pX (ai 1) (ic "Table" "rows" (ai 0))))) (Ta "NoRow" (ae (vC (.str "no number of a row that is there")) ap)) bu)
def cG:ada->R D:=bG fT oo dY
def vn (L J:D):cG [L,J]=fin (fT [some L,some J]):=rfl
abbrev jF:ac3:=["state","name","number","table"]
abbrev b9:ac3:=["state","name","number"]
def cT:FS:=(aK (bq 3 (ao (cR iB) (ae (ai 0) (ae (ai 1) ap)))) (aK (A5 (ao cG (ae (ai 3) (ae (ai 2) ap)))) Ni))
def cV:ada->R D:=bG cT jF b9
def qx (L J Y:D):cV [L,J,Y]=fin (cT [some L,some J,some Y,none]):=rfl
abbrev yD:ac3:=["state","change","word"]
abbrev mH:ac3:=["state","change"]
def gw:FS:=(aK (bq 2 (ao j1 (ae (ai 1) ap))) (aK (iq (bS (aE eY (ai 2) iY)) (a9 (ao (cR cq) (ae (ai 0) (ae (uI 1 1) ap)))) bu) (aK (iq (bS (aE eY (ai 2) mZ)) (a9 (ao (cR cw) (ae (ai 0) (ae (uI 1 1) (ae (uI 1 2) ap))))) bu) (aK (iq (bS (aE eY (ai 2) oY)) (a9 (ao (cR de) (ae (ai 0) (ae (uI 1 1) (ae (uI 1 2) (ae (uI 1 3) ap)))))) bu) (a9 (ao cV (ae (ai 0) (ae (uI 1 1) (ae (uI 1 2) ap)))))))))
def bv:ada->R D:=bG gw yD mH
def l9 (L J:D):bv [L,J]=fin (gw [some L,some J,none]):=rfl
abbrev qO:ac3:=["state","changes","behind","change"]
abbrev fL:ac3:=["state","changes"]
abbrev Rq:FS:=bq 2 (ao bv (ae (ai 2) (ae (ai 3) ap)))
def fO:FS:=(aK (bq 2 (ai 0)) (aK (uk (jq (ai 1)) (.one 3) (Rq)) (a9 (ai 2))))
def bt:ada->R D:=bG fO qO fL
def qM (L J:D):bt [L,J]=fin (fO [some L,some J,none,none]):=rfl
abbrev A3:ac3:=["change"]
abbrev pp:ac3:=["change"]
def sy:FS:=(aK (iq (bS (aE eY (uI 0 0) iY)) (a9 (bN (ae iY (ae (aE fA (uI 0 1) uc) ap)))) bu) (aK (iq (bS (aE eY (uI 0 0) mZ)) (a9 (ai 0)) bu) (a9 (bN (ae (vC (.str "row")) (ae (uI 0 1) (ae (uI 0 2) ap)))))))
def sC:ada->R D:=bG sy A3 pp
def IJ (J:D):sC [J]=fin (sy [some J]):=rfl
abbrev vh:ac3:=["_law_script","_law_k"]
abbrev i4:ac3:=["_law_script","_law_k"]
def kO:FS:=(aK (iq (bS (aE AD (ai 1) (ao cz (ae (ai 0) ap)))) (a9 (aE fA (ai 0) (ai 1))) bu) (a9 uc))
def eR:ada->R D:=bG kO vh i4
def BM (L J:D):eR [L,J]=fin (kO [some L,some J]):=rfl
abbrev ue:ac3:=["_law_cell","_law_many","_law_size","_law_row","_law_at","_law_found","_law_k","_law_sign","_law_name","_law_some"]
abbrev mS:ac3:=["_law_cell","_law_many"]
abbrev NB:FS:=(aK (bq 7 (aE fA (vC (.str "abcdefghijklmnopqrstuvwxyz")) (aE iC (aE cj (aE lR (ai 0) (vC (.int 1638))) (aE oF LO (ai 6))) (vC (.int 26))))) (aK (bq 8 (aE cj (aE cj (vm qN (ai 3) fJ (dU (ai 4))) (ai 7)) (vm qN (ai 3) (dU (aE cj (ai 4) kJ)) fJ))) (aK (bq 9 (ia (ae (vC (.str "and")) (ae (vC (.str "by")) (ae (vC (.str "down")) (ae (vC (.str "from")) (ae (vC (.str "none")) (ae (vC (.str "not")) (ae (vC (.str "or")) (ae (vC (.str "order")) (ae (vC (.str "show")) (ae (vC (.str "take")) ap)))))))))))) (aK (iq (wH (bS (aE sA (ai 8) (vC (.str "where")))) (bS (aE ux (ai 8) (ai 9)))) (jN 5 (ai 8)) bu) (bq 6 (aE cj (ai 6) kJ))))))
abbrev NR:FE:=(UR yz (vC (.str "")) (ae (fv [none,some 0] (wg (ae (ai 2) ap)) (.one 0) n9 (aE fA (vC (.str "abcdefghijklmnopqrstuvwxyz")) (aE iC (aE cj (aE lR (ai 1) LO) (aE oF PX (ai 0))) (vC (.int 26))))) ap))
abbrev NT:FT:=(bS (aE AD (ao cz (ae (ai 5) ap)) (ai 1)))
def qa:FS:=(aK (bq 2 (aE cj Hq (aE iC (ai 0) LO))) (aK (bq 3 NR) (aK (bq 4 (aE iC (aE lR (ai 0) (vC (.int 182))) (ai 2))) (aK (um 5 (ia ap)) (aK (bq 6 uc) (aK (dr NT NB 1000) (a9 (ai 5))))))))
def qf:ada->R D:=bG qa ue mS
def GC (L J:D):qf [L,J]=fin (qa [some L,some J,none,none,none,none,none,none,none,none]):=rfl
abbrev kU:ac3:=["_law_names_here","_law_script","_law_shapes","_law_changes_here","_law_at","_law_cell","_law_mix","_law_name"]
abbrev iX:ac3:=["_law_names_here","_law_script"]
abbrev Wg:FE:=(bN (ae mZ (ae (ai 7) (ae (aE fA (vC (.str "ab")) (aE iC (aE lR (ai 6) (vC (.int 15))) Hq)) ap))))
abbrev Ti:FE:=(bN (ae oY (ae (ai 7) (ae (aE cj kJ (aE iC (aE lR (ai 6) (vC (.int 15))) (vC (.int 40)))) (ae (bN (ae (aE iC (aE lR (ai 6) (vC (.int 600))) (vC (.int 100))) (ae (aE oF (vC (.str "x")) (aE iC (ai 6) (vC (.int 4)))) ap))) ap)))))
abbrev Wc:FT:=(wH (bS (aE eY (aE iC (aE lR (ai 6) QX) PX) uc)) (bS (aE jQ Wg (ai 3))))
abbrev Us:FS:=(aK (bq 6 (aE iC (aE oF (aE cj (ai 5) (aE oF (vC (.int 31)) (ai 4))) (vC (.int 48271))) (vC (.int 1000003)))) (aK (bq 7 (aE fA (ai 0) (aE iC (ai 6) QX))) (iq Wc (jN 3 Wg) (jN 3 Ti))))
def lh:FS:=(aK (bq 2 (fv [none] (jq (ai 0)) (.one 0) n9 (bN (ae (ai 0) (ae (bN (ae (bN (ae (vC (.str "a")) (ae (vC (.str "number")) ap))) (ae (bN (ae (vC (.str "b")) (ae (vC (.str "text")) ap))) ap))) ap))))) (aK (um 3 (fv [none] (jq (ai 2)) (.one 0) n9 (bN (ae iY (ae (ai 0) ap))))) (aK (uk (kf (ae (vm qN (ai 1) fJ (dU (vC (.int 27)))) ap)) (.tup [4,5]) Us) (a9 (ai 3)))))
def lC:ada->R D:=bG lh kU iX
def Bo (L J:D):lC [L,J]=fin (lh [some L,some J,none,none,none,none,none,none]):=rfl
abbrev Ep:ac3:=["_law_change"]
abbrev tH:ac3:=["_law_change"]
def vH:FS:=(aK (iq (bS (aE eY (uI 0 0) iY)) (a9 (bN (ae iY (ae (aE fA (uI 0 1) uc) ap)))) bu) (aK (iq (bS (aE eY (uI 0 0) mZ)) (a9 (bN (ae mZ (ae (uI 0 1) (ae (uI 0 2) ap))))) bu) (a9 (bN (ae (vC (.str "row")) (ae (uI 0 1) (ae (uI 0 2) ap)))))))
def vz:ada->R D:=bG vH Ep tH
def M1 (J:D):vz [J]=fin (vH [some J]):=rfl
abbrev y4:ac3:=["_law_names_here","_law_cell","_law_row","_law_some"]
abbrev mV:ac3:=["_law_names_here","_law_cell"]
def pZ:FS:=(aK (bq 2 (bN (ae kJ (ae (vC (.str "x")) ap)))) (aK (bq 3 (ia (ae (bN (ae (vC (.str "tables")) (ae (bN (ae (uI 0 0) (ae (bN (ae (bN (ae (vC (.str "a")) (ae (vC (.str "text")) ap))) ap)) ap))) ap))) (ae (bN (ae oY (ae (uI 0 0) (ae PX ap)))) (ae (bN (ae oY (ae (uI 0 0) (ae PX (ae (ai 2) (ae (ai 2) ap)))))) ap))))) (aK (bq 3 (aE cj (ai 3) (ia (ae (bN (ae mZ (ae (uI 0 0) ap))) (ae (ia (ae oY (ae (uI 0 0) (ae PX (ae (ai 2) ap))))) (ae oY (ae (vC .non) (ae (bN (ae sR (ae (uI 0 0) ap))) ap)))))))) (aK (bq 3 (aE cj (ai 3) (ia (ae (bN (ae iY ap)) (ae (bN ap) (ae (bN (ae (vC (.str "row")) (ae (uI 0 0) (ae PX ap)))) (ae LO ap))))))) (a9 (aE fA (aE cj (ai 3) (ia (ae (bN (ae (vC .non) (ae (uI 0 0) ap))) (ae (bN (ae sR (ae (uI 0 0) (ae (aE xK DF SW) ap)))) ap)))) (aE iC (ai 1) (vC (.int 14)))))))))
def my:ada->R D:=bG pZ y4 mV
def Gh (L J:D):my [L,J]=fin (pZ [some L,some J,none,none]):=rfl
abbrev Bx:ac3:=["_law_names_here","_law_changes_here","_law_found","_law_name","_law_change"]
abbrev oN:ac3:=["_law_names_here","_law_changes_here"]
abbrev rT:FT:=bS (aE eY (uI 4 0) oY)
def sQ:FS:=(aK (Ce 2 3 4 (jq (ai 0)) (ai 3) (jq (ai 1)) (rT) (uI 4 1) (uI 4 2) (uI 4 3)) (a9 (ai 2)))
def sU:ada->R D:=bG sQ Bx oN
def IT (L J:D):sU [L,J]=fin (sQ [some L,some J,none,none,none]):=rfl
abbrev uM:ac3:=["_law_state","_law_changes_here","error"]
abbrev jc:ac3:=["_law_state","_law_changes_here"]
def lx:FS:=(aK (xm bt (ae (ai 0) (ae (ai 1) ap)) (Ng ["BadChange","NoRow"]) 2 (a9 (ia (ae (ao (Jc Be KL) (ae (ai 2) (ae (vC (.cls "BadChange")) ap))) (ae (ao (Jc Be KL) (ae (ai 2) (ae (vC (.cls "NoRow")) ap))) (ae (ao (Jc Be KL) (ae (ai 2) (ae (vC (.ty "ValueError")) ap))) ap)))))) (a9 (ia ap)))
def jn:ada->R D:=bG lx uM jc
def Br (L J:D):jn [L,J]=fin (lx [some L,some J,none]):=rfl
abbrev NW:ac3:=["_law_script","_law_names_here","_law_changes_here","_law_change","_law_wrong_here","_law_at","_law_handed","_law_due","_law_state","_law_name","_law_more"]
abbrev xq:ac3:=["_law_script"]
abbrev kB:FS:=(iq (bS (aE sA (ao (cR sC) (ae (ai 3) ap)) (ao (cR vz) (ae (ai 3) ap)))) (a9 (vC (.bl false))) bu)
abbrev Vn:FS:=(iq (bS (aE Lz (ic "Table" "rows" (aE j8 (ai 8) (ai 9))) (aE j8 (ai 7) (ai 9)))) (a9 (vC (.bl false))) bu)
abbrev Ry:FE:=(ao (cR eR) (ae (ai 0) (ae kJ ap)))
abbrev Ow:FS:=(aK (bq 6 (ao BW (ae (ai 2) ap))) (aK (bq 8 (ao bt (ae (LM (vC (.dct []))) (ae (ai 6) ap)))) (aK (iq (xN (bS (aE sA (ai 6) (ai 2))) (bS (aE sA (ao zi (ae (ao B9 (ae (ai 8) ap)) ap)) (ao zi (ae (ai 1) ap))))) (a9 (vC (.bl false))) bu) (aK (bq 7 (ao (cR sU) (ae (ai 1) (ae (ai 2) ap)))) (aK (uk (jq (ai 1)) (.one 9) Vn) (aK (bq 10 (ao bv (ae (ai 8) (ae (bN (ae oY (ae (uI 1 0) (ae Io (ae (bN (ae LO (ae (vC (.str "seven")) ap))) ap))))) ap)))) (aK (iq (xN (bS (aE DC Io (ic "Table" "rows" (aE j8 (ai 8) (uI 1 0))))) (bS (aE sA (aE j8 (ic "Table" "rows" (aE j8 (ai 10) (uI 1 0))) Io) (bN (ae LO (ae (vC (.str "seven")) ap)))))) (a9 (vC (.bl false))) bu) (a9 (kI (aE D7 (ic "Table" "rows" (aE j8 (ai 10) (uI 1 1))) (aE j8 (ai 7) (uI 1 1))) (aE D7 (ic "Table" "rows" (aE j8 (ai 8) (uI 1 0))) (aE j8 (ai 7) (uI 1 0))))))))))))
abbrev RY:FS:=(aK (bq 4 (ao (cR my) (ae (ai 1) (ae (aE lR Ry Hq) ap)))) (aK (bq 5 (aE cj QX (aE iC (aE lR Ry (vC (.int 28))) (aE zL (ao cz (ae (ai 2) ap)) Hq)))) (aK (bq 6 (aE cj (aE cj (vm qN (ai 2) fJ (dU (ai 5))) (ia (ae (ai 4) ap))) (vm qN (ai 2) (dU (ai 5)) fJ))) (aK (bq 7 (ia (ae (vC (.bl true)) (ae (vC (.bl false)) (ae (vC (.bl true)) ap))))) (aK (iq (bS (aE eY (ai 4) (bN (ae sR (ae (uI 1 0) (ae (aE xK DF SW) ap)))))) (bq 7 (ia (ae (vC (.bl false)) (ae (vC (.bl true)) (ae (vC (.bl true)) ap))))) bu) (aK (bq 8 (ao bt (ae (LM (vC (.dct []))) (ae (vm qN (ai 2) fJ (dU (ai 5))) ap)))) (a9 (kI (aE eY (ao (cR jn) (ae (LM (vC (.dct []))) (ae (ai 6) ap))) (ai 7)) (aE eY (ao (cR jn) (ae (ai 8) (ae (ia (ae (ai 4) ap)) ap))) (ai 7))))))))))
def Eu:FS:=(aK (bq 1 (ao (cR qf) (ae (aE iC (aE oF (ao (cR eR) (ae (ai 0) (ae uc ap))) (vC (.int 48271))) (vC (.int 1000003))) (ae QX ap)))) (aK (bq 2 (ao (cR lC) (ae (ai 1) (ae (vm qN (ai 0) (dU Hq) fJ) ap)))) (aK (uk (jq (ai 2)) (.one 3) kB) (aK (iq (bS (aE eY (aE iC Ry Hq) kJ)) RY bu) Ow))))
def yn:ada->R D:=bG Eu NW xq
def RB (J:D):yn [J]=fin (Eu [some J,none,none,none,none,none,none,none,none,none,none]):=rfl
def ii (i:Nat):Yj:=PySem.Challenge.pw_tablestore_k32_changes_told.main.body.getD i (.Pass ⟨0,0,0,0⟩)
local macro_rules | `(tactic| walk_at "sc") => `(tactic| exact ⟨rfl, rfl, rfl, by trivial, rfl, by trivial, by trivial⟩)
abbrev uo:Yj:=ii 14
def De:FnScope ye mq (au uo):=by walk_at "sc"
abbrev nF:Yj:=ii 13
def BF:FnScope qX ki (au nF):=by walk_at "sc"
abbrev ug:Yj:=ii 15
def DS:FnScope yX mI (au ug):=by walk_at "sc"
abbrev ua:Yj:=ii 16
def Dq:FnScope yH mE (au ua):=by walk_at "sc"
abbrev pk:Yj:=ii 17
def zb:FnScope uU jm (au pk):=by walk_at "sc"
abbrev lS:Yj:=ii 22
def pC:FnScope qJ eh (au lS):=by walk_at "sc"
abbrev lP:Yj:=ii 23
def wb:FnScope qI fP (au lP):=by walk_at "sc"
abbrev ng:Yj:=ii 25
def lO:FnScope tL du (au ng):=by walk_at "sc"
abbrev pB:Yj:=ii 24
def gS:FnScope uK i5 (au pB):=by walk_at "sc"
abbrev rg:Yj:=ii 26
def BS:FnScope v3 kF (au rg):=by walk_at "sc"
abbrev jy:Yj:=ii 27
def ud:FnScope ou dH (au jy):=by walk_at "sc"
abbrev oO:Yj:=ii 34
def AG:FnScope u8 i7 (au oO):=by walk_at "sc"
abbrev pS:Yj:=ii 33
def CP:FnScope uf ma (au pS):=by walk_at "sc"
abbrev ir:Yj:=ii 39
def tf:FnScope mT cY (au ir):=by walk_at "sc"
abbrev uw:Yj:=ii 36
def CS:FnScope yK mr (au uw):=by walk_at "sc"
abbrev pF:Yj:=ii 38
def Ar:FnScope vg jl (au pF):=by walk_at "sc"
abbrev fK:Yj:=ii 37
def oX:FnScope iM fG (au fK):=by walk_at "sc"
abbrev rp:Yj:=ii 35
def BC:FnScope wC j4 (au rp):=by walk_at "sc"
abbrev j7:Yj:=ii 40
def jz:FnScope pE eS (au j7):=by walk_at "sc"
abbrev oS:Yj:=ii 42
def zW:FnScope uZ jf (au oS):=by walk_at "sc"
abbrev Aq:Yj:=ii 41
def Ed:FnScope CI wl (au Aq):=by walk_at "sc"
abbrev rJ:Yj:=ii 46
def gB:FnScope wu iE (au rJ):=by walk_at "sc"
abbrev nS:Yj:=ii 47
def BH:FnScope rR gq (au nS):=by walk_at "sc"
abbrev wT:Yj:=ii 48
def uD:FnScope BQ pz (au wT):=by walk_at "sc"
abbrev gW:Yj:=ii 45
def eu:FnScope jP dE (au gW):=by walk_at "sc"
abbrev nA:Yj:=ii 44
def xI:FnScope tF gI (au nA):=by walk_at "sc"
abbrev wm:Yj:=ii 51
def j2:FnScope Bg mC (au wm):=by walk_at "sc"
abbrev gO:Yj:=ii 50
def fV:FnScope kh ck (au gO):=by walk_at "sc"
abbrev jx:Yj:=ii 49
def mw:FnScope ot dR (au jx):=by walk_at "sc"
abbrev pI:Yj:=ii 53
def zD:FnScope uY jh (au pI):=by walk_at "sc"
abbrev nG:Yj:=ii 52
def lU:FnScope sN gJ (au nG):=by walk_at "sc"
abbrev pe:Yj:=ii 56
def zO:FnScope u5 iV (au pe):=by walk_at "sc"
abbrev jr:Yj:=ii 59
def me:FnScope oy dJ (au jr):=by walk_at "sc"
abbrev rP:Yj:=ii 57
def jj:FnScope wZ kr (au rP):=by walk_at "sc"
abbrev jO:Yj:=ii 61
def qK:FnScope nq hJ (au jO):=by walk_at "sc"
abbrev nu:Yj:=ii 60
def qP:FnScope tB gK (au nu):=by walk_at "sc"
abbrev uG:Yj:=ii 66
def CY:FnScope yd mo (au uG):=by walk_at "sc"
abbrev nX:Yj:=ii 73
def qH:FnScope sE hU (au nX):=by walk_at "sc"
abbrev gi:Yj:=ii 67
def qt:FnScope j9 cu (au gi):=by walk_at "sc"
abbrev qU:Yj:=ii 71
def Bf:FnScope w6 km (au qU):=by walk_at "sc"
abbrev gr:Yj:=ii 68
def jE:FnScope kc cm (au gr):=by walk_at "sc"
abbrev iA:Yj:=ii 69
def kZ:FnScope mU cZ (au iA):=by walk_at "sc"
abbrev jt:Yj:=ii 72
def ui:FnScope oo dY (au jt):=by walk_at "sc"
abbrev fF:Yj:=ii 70
def je:FnScope jF b9 (au fF):=by walk_at "sc"
abbrev uC:Yj:=ii 64
def wK:FnScope yD mH (au uC):=by walk_at "sc"
abbrev lV:Yj:=ii 65
def gT:FnScope qO fL (au lV):=by walk_at "sc"
abbrev wQ:Yj:=ii 74
def GP:FnScope A3 pp (au wQ):=by walk_at "sc"
abbrev pG:Yj:=ii 76
def zt:FnScope vh i4 (au pG):=by walk_at "sc"
abbrev pW:Yj:=ii 77
def cM:FnScope ue mS (au pW):=by walk_at "sc"
abbrev iU:Yj:=ii 78
def dl:FnScope kU iX (au iU):=by walk_at "sc"
abbrev Aa:Yj:=ii 79
def Jh:FnScope Ep tH (au Aa):=by walk_at "sc"
abbrev t6:Yj:=ii 80
def kq:FnScope y4 mV (au t6):=by walk_at "sc"
abbrev wt:Yj:=ii 81
def yZ:FnScope Bx oN (au wt):=by walk_at "sc"
abbrev pj:Yj:=ii 82
def sV:FnScope uM jc (au pj):=by walk_at "sc"
abbrev yi:Yj:=ii 83
def gn:FnScope NW xq (au yi):=by walk_at "sc"
abbrev l8:Yj:=match ii 55 with
 | .ClassDef _ _ _ (st::_) _ _ _ _ _ _ _=>st
 | st=>st
def FM:FnScope ["self","shape","rows","indexes"] ["self","shape","rows","indexes"] (au l8):=by walk_at "sc"
section
variable {X:Cx} {W:Wd} {O:ac2} {φ ψ:FE} {a b:Yb} {pos:Pos}
def aC (K:aT) (Y:JE X a (tD W O φ)) (L:JE X b (tD W O ψ)) (J:sM b:=by exact fun _ _=>rfl) (hX:X.K=K:=by rfl) (hW:W.K=K:=by rfl):JE X (.Subscript a b pos) (tD W O (aE fA φ ψ)):=VL (WP K hX) (pIx K hW) Y L J
def c9 (K:aT) (L:JE X a (tD W O φ)) (J:JE X b (tD W O ψ)) (hX:X.K=K:=by rfl) (Y:W.K=K:=by rfl):JE X (.BinOp a .Add b pos) (tD W O (aE cj φ ψ)):=qV (Op K hX) (RI K Y) L J
def jB (J:JE X a (tD W O φ)) (L:JE X b (tD W O ψ)):JE X (.BinOp a .Mod b pos) (tD W O (aE iC φ ψ)):=qV Wo Wq J L
def mM (J:JE X a (tD W O φ)) (L:JE X b (tD W O ψ)):JE X (.BinOp a .FloorDiv b pos) (tD W O (aE lR φ ψ)):=qV Wv V9 J L
def uV (J:JE X a (tD W O φ)) (L:JE X b (tD W O ψ)):JE X (.BinOp a .Mult b pos) (tD W O (aE oF φ ψ)):=qV So VF J L
end
structure Txt (w:Xv) (K:aT) (mg:ac6) (f1 f2 f3 f4 f5 f6 f7 f8 f9 f10 f11 f12 f13 f14 f15 f16 f17 f18 f19 f20 f21 f22 f23 f24 f25 f26 f27 f28 f29 f30 f31 f32 f33 f34 f35 f36 f37 f38 f39 f40 f41 f42 f43 f44 f45 f46 f47 f48 f49 f50 f51 f52 f53 f54 f55:Le) (d1 d2 d3 d4 d5 d6 d7 d8 d9 d10 d11 d12 d13 d14 d15 d16 d17 d18 d19 d20 d21 d22 d23 d24 d25 d26 d27 d28 d29 d30 d31 d32 d33 d34 d35 d36 d37 d38 d39 d40 d41 d42 d43 d44 d45 d46 d47 d48 d49 d50 d51 d52 d53 d54 d55:Xz) (a_KINDS:Le) (tk_MOST_SIGNS:Tok) (tk_FEWEST:Tok) (tk_MOST:Tok) (tk_MOST_ROW_NUMBER:Tok) (a_NO_NAMES:Le) (a_COLUMN_KINDS:Le) (tk_MOST_LETTERS:Tok) (tk_MOST_COLUMNS:Tok) (a_FORMS:Le) (es_FORMS:Array DictEntry) (n_FORMS:Nat) (a_BadChange:Le) (a_NoRow:Le) (a_TableError:Le) (a_Table:Le) (fi_Table:Le) (di_Table:Xz):Prop where
 qk:Def K mg "is_sign" uo mq f1 d1
 og:Def K mg "is_value" nF ki f2 d2
 fg:Def K mg "kind_of" ug mI f3 d3
 ql:Def K mg "compare" ua mE f4 d4
 lD:Def K mg "order_key" pk jm f5 d5
 eB:Def K mg "comes_ahead" lS eh f6 d6
 iQ:Def K mg "empty_index" lP fP f7 d7
 fh:Def K mg "part_place" ng du f8 d8
 jo:Def K mg "has_entry" pB i5 f9 d9
 oh:Def K mg "first_of" rg kF f10 d10
 dZ:Def K mg "is_row_number" jy dH f11 d11
 lF:Def K mg "is_letter" oO i7 f12 d12
 m4:Def K mg "is_name" pS ma f13 d13
 fj:Def K mg "is_column_kind" ir cY f14 d14
 m5:Def K mg "is_pair" uw mr f15 d15
 lG:Def K mg "is_column" pF jl f16 d16
 iR:Def K mg "are_columns" fK fG f17 d17
 oi:Def K mg "is_shape" rp j4 f18 d18
 cy:Def K mg "column_place" j7 eS f19 d19
 lH:Def K mg "fits_kind" oS jf f20 d20
 AH:Def K mg "fits" Aq wl f21 d21
 eU:Def K mg "cells_of" rJ iE f22 d22
 gv:Def K mg "parts_of" nS gq f23 d23
 pO:Def K mg "rooted" wT pz f24 d24
 hZ:Def K mg "cells_with" gW dE f25 d25
 jX:Def K mg "with_entry" nA gI f26 d26
 tR:Def K mg "mended" wm mC f27 d27
 eV:Def K mg "cell_without" gO ck f28 d28
 gc:Def K mg "without_entry" jx dR f29 d29
 lI:Def K mg "entry_key" pI jh f30 d30
 jY:Def K mg "index_from" nG gJ f31 d31
 lJ:Def K mg "new_table" pe iV f32 d32
 gd:Def K mg "index_without" jr dJ f33 d33
 oj:Def K mg "with_row" rP kr f34 d34
 jZ:Def K mg "entries_by" jO hJ f35 d35
 j0:Def K mg "with_index" nu gK f36 d36
 qm:Def K mg "word_of" uG mo f37 d37
 fk:Def K mg "state_with" nX hU f38 d38
 dF:Def K mg "state_with_table" gi cu f39 d39
 iH:Def K mg "table_in" qU km f40 d40
 dG:Def K mg "state_with_index" gr cm f41 d41
 fm:Def K mg "state_with_row" iA cZ f42 d42
 ge:Def K mg "refuse_no_row" jt dY f43 d43
 cX:Def K mg "state_without_row" fF b9 f44 d44
 m6:Def K mg "changed" uC mH f45 d45
 eD:Def K mg "all_changed" lV fL f46 d46
 tS:Def K mg "key_of" wQ pp f47 d47
 eX:Def K mg "_law_cell_at" pG i4 f48 d48
 qo:Def K mg "_law_names" pW mS f49 d49
 lK:Def K mg "_law_changes" iU iX f50 d50
 vN:Def K mg "_law_key" Aa tH f51 d51
 qp:Def K mg "_law_wrong" t6 mV f52 d52
 tT:Def K mg "_law_rows" wt oN f53 d53
 jp:Def K mg "_law_refused" pj jc f54 d54
 KP:Def K mg "law" yi xq f55 d55
 AI:∃ ob,K.lookup a_KINDS=some ob/\ob.cls=.type "tuple"/\ob.dict=none
 AJ:mg "KINDS"=some (.ref a_KINDS)
 UY:ba (.ref a_KINDS) (.ref a_KINDS)
 AK:∀ H,cS K H nJ (.ref a_KINDS)
 AL:mg "MOST_SIGNS"=some (.int 40 tk_MOST_SIGNS)
 AM:ba (.int 40) (.int 40 tk_MOST_SIGNS)
 AN:∀ H,cS K H tM (.int 40)
 KQ:mg "FEWEST"=some (.int 4 tk_FEWEST)
 KR:ba (.int 4) (.int 4 tk_FEWEST)
 KS:∀ H,cS K H wW (.int 4)
 KU:mg "MOST"=some (.int 8 tk_MOST)
 KW:ba (.int 8) (.int 8 tk_MOST)
 KY:∀ H,cS K H w9 (.int 8)
 tU:mg "MOST_ROW_NUMBER"=some (.int 1000000000 tk_MOST_ROW_NUMBER)
 tV:ba (.int 1000000000) (.int 1000000000 tk_MOST_ROW_NUMBER)
 tW:∀ H,cS K H lb (.int 1000000000)
 Rp:∃ ob,K.lookup a_NO_NAMES=some ob/\ob.cls=.type "tuple"/\ob.dict=none
 D8:mg "NO_NAMES"=some (.ref a_NO_NAMES)
 D9:ba (.ref a_NO_NAMES) (.ref a_NO_NAMES)
 Ea:∀ H,cS K H n8 (.ref a_NO_NAMES)
 KZ:∃ ob,K.lookup a_COLUMN_KINDS=some ob/\ob.cls=.type "tuple"/\ob.dict=none
 xr:mg "COLUMN_KINDS"=some (.ref a_COLUMN_KINDS)
 xt:ba (.ref a_COLUMN_KINDS) (.ref a_COLUMN_KINDS)
 xu:∀ H,cS K H oW (.ref a_COLUMN_KINDS)
 xw:mg "MOST_LETTERS"=some (.int 8 tk_MOST_LETTERS)
 xx:ba (.int 8) (.int 8 tk_MOST_LETTERS)
 xy:∀ H,cS K H kC (.int 8)
 xz:mg "MOST_COLUMNS"=some (.int 8 tk_MOST_COLUMNS)
 xA:ba (.int 8) (.int 8 tk_MOST_COLUMNS)
 xB:∀ H,cS K H pD (.int 8)
 Fx:mg "FORMS"=some (.ref a_FORMS)
 Fy:K.lookup a_FORMS=some ⟨.type "dict",none,.dict es_FORMS n_FORMS,#[]⟩
 Fz:aax w.params es_FORMS.toList
 vO:∀ y d,gU.lookup y=some d->∃ v u,Xg K a_FORMS y=some (some u)/\ba v u/\∀ H,cS K H d v
 Cp:Cq K "FORMS" a_FORMS
 AO:es_FORMS.toList.map (fun e=>Mq e.key)=(gU.map (·.1)).map some
 AQ:(a_FORMS==YC)=false
 pP:mg "BadChange"=some (.ref a_BadChange)
 ft:Cq K "BadChange" a_BadChange
 FB:mg "NoRow"=some (.ref a_NoRow)
 m7:Cq K "NoRow" a_NoRow
 AR:mg "TableError"=some (.ref a_TableError)
 l7:Cq K "TableError" a_TableError
 lM:Za K a_BadChange Gb "ValueError.__new__"=true
 AS:Za K a_NoRow Gb "ValueError.__new__"=true
 AU:Pw K mg (Ng ["BadChange","NoRow"]) a_TableError
 Eb:TabOk K Be KL
 tX:mg "Table"=some (.ref a_Table)
 bj:Cq K "Table" a_Table
 bn:IsC K a_Table
 pQ:Mk K a_Table fi_Table
 tY:Fun K "__init__" "Table.__init__" l8 fi_Table di_Table
 pR:kg K di_Table ["self","shape","rows","indexes"] []
 bE:iz K a_Table "shape"
 bo:iz K a_Table "rows"
 bR:iz K a_Table "indexes"
 bc:mg "isinstance"=none
 xC:mg "str"=none
 FC:mg "all"=none
 fQ:mg "len"=none
 K0:mg "bool"=none
 OF:mg "int"=none
 UD:mg "abs"=none
 lN:mg "tuple"=none
 UE:mg "set"=none
 vi:mg "enumerate"=none
 UF:mg "zip"=none
 AV:mg "list"=none
 FD:mg "range"=none
 xD:mg "sorted"=none
 Ec:mg "dict"=none
 AW:mg "ValueError"=none
section
variable {P:Xh} {w:Xv} {K:aT} {mg:ac6} {base:YG} {f1 f2 f3 f4 f5 f6 f7 f8 f9 f10 f11 f12 f13 f14 f15 f16 f17 f18 f19 f20 f21 f22 f23 f24 f25 f26 f27 f28 f29 f30 f31 f32 f33 f34 f35 f36 f37 f38 f39 f40 f41 f42 f43 f44 f45 f46 f47 f48 f49 f50 f51 f52 f53 f54 f55:Le} {d1 d2 d3 d4 d5 d6 d7 d8 d9 d10 d11 d12 d13 d14 d15 d16 d17 d18 d19 d20 d21 d22 d23 d24 d25 d26 d27 d28 d29 d30 d31 d32 d33 d34 d35 d36 d37 d38 d39 d40 d41 d42 d43 d44 d45 d46 d47 d48 d49 d50 d51 d52 d53 d54 d55:Xz} {a_KINDS:Le} {tk_MOST_SIGNS:Tok} {tk_FEWEST:Tok} {tk_MOST:Tok} {tk_MOST_ROW_NUMBER:Tok} {a_NO_NAMES:Le} {a_COLUMN_KINDS:Le} {tk_MOST_LETTERS:Tok} {tk_MOST_COLUMNS:Tok} {a_FORMS:Le} {es_FORMS:Array DictEntry} {n_FORMS:Nat} {a_BadChange:Le} {a_NoRow:Le} {a_TableError:Le} {a_Table:Le} {fi_Table:Le} {di_Table:Xz}
variable (T:Txt w K mg f1 f2 f3 f4 f5 f6 f7 f8 f9 f10 f11 f12 f13 f14 f15 f16 f17 f18 f19 f20 f21 f22 f23 f24 f25 f26 f27 f28 f29 f30 f31 f32 f33 f34 f35 f36 f37 f38 f39 f40 f41 f42 f43 f44 f45 f46 f47 f48 f49 f50 f51 f52 f53 f54 f55 d1 d2 d3 d4 d5 d6 d7 d8 d9 d10 d11 d12 d13 d14 d15 d16 d17 d18 d19 d20 d21 d22 d23 d24 d25 d26 d27 d28 d29 d30 d31 d32 d33 d34 d35 d36 d37 d38 d39 d40 d41 d42 d43 d44 d45 d46 d47 d48 d49 d50 d51 d52 d53 d54 d55 a_KINDS tk_MOST_SIGNS tk_FEWEST tk_MOST tk_MOST_ROW_NUMBER a_NO_NAMES a_COLUMN_KINDS tk_MOST_LETTERS tk_MOST_COLUMNS a_FORMS es_FORMS n_FORMS a_BadChange a_NoRow a_TableError a_Table fi_Table di_Table)
include T
def wS:FnOk P w K mg base cQ 1 fi_Table di_Table ["self","shape","rows","indexes"] (Iu a_Table ["shape","rows","indexes"]):=by
 refine T.tY.ok (k:=0) FM (fun vs H Q E h=>?_) fun Y A J s H vs Q E hr h=>?_
 .obtain ⟨x,dx,us,rfl,h1,h2,L⟩:=h;exact ac1 (·+1) h1
 .refine ⟨_,(wD (Dy (pv 0) (pv 1) rfl) (wD (Dy (pv 0) (pv 2) rfl) (Fc (Dy (pv 0) (pv 3) rfl)))),?_⟩;obtain ⟨x,dx,us,rfl,h1,h2,L⟩:=h
  match us,h1 with
  | [u0,u1,u2],_ =>
   refine ⟨_,rfl,_,rfl,x,_,dx,_,rfl,h2,T.bn.cl,T.bE,(by show (0:Nat) < 1000;decide),_,rfl,_,rfl,x,_,dx,_,rfl,aS,T.bn.cl,T.bo,(by show (1:Nat) < 1000;decide),_,rfl,_,rfl,x,_,dx,_,rfl,aS,T.bn.cl,T.bR,(by show (2:Nat) < 1000;decide),?_⟩;rw [Av,Av];exact L
def DL:FnOk P w K mg base cQ 1 f1 d1 mq (dQ K mg yq):=by
 exact T.qk.F.okD (φ:=yV) (O':=[]) De (fun L A J s H E Y=>(aw (aB (jb (eJ UW UQ (ag 0) aQ (aL _)) (kD (eJ US UU (ag 0) aQ (aL _)))))))
def Cf:FnOk P w K mg base cQ 2 f2 d2 ki (dQ K mg nO):=by
 exact T.og.F.okD (φ:=nQ) (O':=[]) BF (fun Y A J s H E L=>(am (bw (bD K (aZ (j3 K) (rO K) T.bc a8 (aa (ag 0) (aa (qy T.xC qZ) aj)))) (aw (aB (jb (eJ US UU (aZ (mJ K) (ny K) T.fQ cL (aa (ag 0) aj)) (m9 T.AL T.AM T.AN) (aL _)) (kD (aZ (sI K rfl) (MA K) T.FC zQ (aa (bV (oG (Wb:=⟨K,mg,E0⟩) (osc:=au nF) (ON:=qX) (N:=["sign"]) (ix:=[none]) (by trivial) (fE K (ag 0)) (fun _=>(b7 (i:=0) (by decide) (by trivial:(["sign"]:ac3).Nodup) rfl (W8 rfl))) (fun _=>iJ) (fun _=>(aN T.qk (DL T) L (aa (ag 0) aj))) (c8 (by decide)))) aj)))))) bi) (am (bw (cW (vU (bD K (aZ (j3 K) (rO K) T.bc a8 (aa (ag 0) (aa (qy T.OF IE) aj)))) (rZ (gt (bD K (aZ (j3 K) (rO K) T.bc a8 (aa (ag 0) (aa (qy T.K0 ER) aj)))))))) (aw (aB (eJ Lk L4 (aZ Vh U2 T.UD OK (aa (ag 0) aj)) (qV Pn QT ar ar) (aL _)))) bi) (aw (aB (eJ SH TH (ag 0) uQ (aL _)))))))
def io:FnOk P w K mg base cQ 1 f3 d3 mI (dQ K mg ci):=by
 exact T.fg.F.okD (φ:=p4) (O':=[]) DS (fun L A J s H E Y=>(am (bw (aV SH TH (ag 0) uQ (aL _)) (aw (aB aQ)) bi) (aw (aB (EG (bD K (aZ (j3 K) (rO K) T.bc a8 (aa (ag 0) (aa (qy T.xC qZ) aj)))) aQ aQ)))))
def DA:FnOk P w K mg base cQ 2 f4 d4 mE (dQ K mg qh):=by
 exact T.ql.F.okD (φ:=pT) (O':=[]) Dq (fun Y A L s H E J=>(am (bw (aV (xX K J.units) (K6 K) (aN T.fg (io T) J (aa (ag 0) aj)) (aN T.fg (io T) J (aa (ag 1) aj)) (aL _)) (aw (aB (EG (aV Lk L4 (wG T.AJ T.AK T.AI (aa (aN T.fg (io T) J (aa (ag 0) aj)) aj)) (wG T.AJ T.AK T.AI (aa (aN T.fg (io T) J (aa (ag 1) aj)) aj)) (aL _)) (Pb QN Rf ar) ar))) bi) (am (bw (aV (gF K J.units) (tZ K) (ag 0) (ag 1) (aL _)) (aw (aB ar)) bi) (aw (aB (EG (aV Lk L4 (ag 0) (ag 1) (aL _)) (Pb QN Rf ar) ar))))))
def ze:FnOk P w K mg base cQ 2 f5 d5 jm (dQ K mg lf):=by
 exact T.lD.F.okD (φ:=lm) (O':=[]) zb (fun Y A J s H E L=>(am (bw (aV SH TH (ag 0) uQ (aL _)) (aw (aB (bz (aa ar (aa ar aj))))) bi) (aw (aB (bz (aa (wG T.AJ T.AK T.AI (aa (aN T.fg (io T) L (aa (ag 0) aj)) aj)) (aa (ag 0) aj)))))))
def pq:FnOk P w K mg base cQ 3 f6 d6 eh (dQ K mg bx):=by
 exact T.eB.F.okD (φ:=iL) (O':=[]) pC (fun Y A J s H E L=>(am (aR (i:=2) (by decide) pC.nd (W8 rfl) (aN T.ql (DA T) L (aa (aC K (ag 0) ar) (aa (aC K (ag 1) ar) aj)))) (aw (aB (Ul (eJ Lk L4 (ag 2) ar (aL _)) (kD (jb (eJ (gF K L.units) (tZ K) (ag 2) ar (aL _)) (kD (eJ Lk L4 (aC K (ag 0) ar) (aC K (ag 1) ar) (aL _))))))))))
def wn:FnOk P w K mg base cQ 1 f7 d7 fP (dQ K mg iP):=by
 exact T.iQ.F.okD (φ:=iO) (O':=[]) wb (fun L A J s H E Y=>(aw (aB (bz (aa aQ (aa (bz aj) aj))))))
def l5:FnOk P w K mg base cQ 4 f8 d8 du (dQ K mg ce):=by
 exact T.fh.F.okD (φ:=jJ) (O':=[]) lO (fun Y A J s H E L=>(am (aR (i:=2) (by decide) lO.nd (W8 rfl) ar) (am (tI 1000 Yt (cW (vU (aV Lk L4 (c9 K (ag 2) ar) (aZ (mJ K) (ny K) T.fQ cL (aa (ag 0) aj)) (aL _)) (rZ (gt (bD K (aN T.eB (pq T) L (aa (ag 1) (aa (aC K (aC K (ag 0) (c9 K (ag 2) ar)) ar) aj)))))))) (aw (F3 (i:=2) (by decide) lO.nd (W8 rfl) ar))) (aw (aB (ag 2))))))
def sL:FnOk P w K mg base cQ 5 f9 d9 i5 (dQ K mg gA):=by
 exact T.jo.F.okD (φ:=lv) (O':=[]) gS (fun Y A J s H E L=>(am (aR (i:=3) (by decide) gS.nd (W8 rfl) (bz (aa (ag 1) (aa (ag 2) aj)))) (am (aR (i:=4) (by decide) gS.nd (W8 rfl) (ag 0)) (am (tI 1000 Yt (aV (gF K L.units) (tZ K) (aC K (ag 4) ar) aQ (aL _)) (am (aR (i:=5) (by decide) gS.nd (W8 rfl) (aC K (ag 4) ar)) (aw (aR (i:=4) (by decide) gS.nd (W8 rfl) (aC K (aC K (ag 5) (aN T.fh (l5 T) L (aa (ag 5) (aa (ag 3) aj)))) ar))))) (aw (aB (eJ (U9 K L.units) (Wx K) (ag 3) (aC K (ag 4) ar) (by with_unfolding_all rfl))))))))
def Bh:FnOk P w K mg base cQ 1 f10 d10 kF (dQ K mg kj):=by
 exact T.oh.F.okD (φ:=nR) (O':=[]) BS (fun Y A J s H E L=>(aw (aB (EG (aV (gF K L.units) (tZ K) (aC K (ag 0) ar) aQ (aL _)) (aC K (aC K (ag 0) ar) ar) (aC K (aC K (aC K (ag 0) ar) ar) ar)))))
def mi:FnOk P w K mg base cQ 1 f11 d11 dH (dQ K mg dW):=by
 exact T.dZ.F.okD (φ:=fZ) (O':=[]) ud (fun L A J s H E Y=>(aw (aB (jb (aZ (j3 K) (rO K) T.bc a8 (aa (ag 0) (aa (qy T.OF IE) aj))) (jb (S0 (aZ (j3 K) (rO K) T.bc a8 (aa (ag 0) (aa (qy T.K0 ER) aj)))) (jb (eJ UW UQ (ag 0) ar (aL _)) (kD (eJ US UU (ag 0) (m9 T.tU T.tV T.tW) (aL _)))))))))
def zU:FnOk P w K mg base cQ 1 f12 d12 i7 (dQ K mg jg):=by
 exact T.lF.F.okD (φ:=lj) (O':=[]) AG (fun L A J s H E Y=>(aw (aB (jb (eJ UW UQ (ag 0) aQ (aL _)) (kD (eJ US UU (ag 0) aQ (aL _)))))))
def v6:FnOk P w K mg base cQ 2 f13 d13 ma (dQ K mg mB):=by
 exact T.m4.F.okD (φ:=p0) (O':=[]) CP (fun Y A J s H E L=>(am (bw (cW (kW (gt (bD K (aZ (j3 K) (rO K) T.bc a8 (aa (ag 0) (aa (qy T.xC qZ) aj))))) (kW (aV (gF K L.units) (tZ K) (ag 0) aQ (aL _)) (j5 (aV VH Wm (aZ (mJ K) (ny K) T.fQ cL (aa (ag 0) aj)) (m9 T.xw T.xx T.xy) (aL _)))))) (aw (aB sx)) bi) (aw (aB (jb (aZ (sI K rfl) (MA K) T.FC zQ (aa (bV (oG (Wb:=⟨K,mg,E0⟩) (osc:=au pS) (ON:=uf) (N:=["sign"]) (ix:=[none]) (by trivial) (fE K (ag 0)) (fun _=>(b7 (i:=0) (by decide) (by trivial:(["sign"]:ac3).Nodup) rfl (W8 rfl))) (fun _=>iJ) (fun _=>(aN T.lF (zU T) L (aa (ag 0) aj))) (c8 (by decide)))) aj)) (kD (eJ (Fp K) (Ja K) (ag 0) (m9 T.D8 T.D9 T.Ea) (by with_unfolding_all rfl))))))))
def sq:FnOk P w K mg base cQ 1 f14 d14 cY (dQ K mg mW):=by
 exact T.fj.F.okD (φ:=mL) (O':=[]) tf (fun L A J s H E Y=>(aw (aB (jb (aZ (j3 K) (rO K) T.bc a8 (aa (ag 0) (aa (qy T.xC qZ) aj))) (kD (eJ (U7 K) (pIn K) (ag 0) (m9 T.xr T.xt T.xu) (by with_unfolding_all rfl)))))))
def wy:FnOk P w K mg base cQ 1 f15 d15 mr (dQ K mg mh):=by
 exact T.m5.F.okD (φ:=qb) (O':=[]) CS (fun Y A J s H E L=>(aw (aB (jb (aZ (j3 K) (rO K) T.bc a8 (aa (ag 0) (aa (qy T.lN iZ) aj))) (kD (eJ (gF K L.units) (tZ K) (aZ (mJ K) (ny K) T.fQ cL (aa (ag 0) aj)) ar (aL _)))))))
def Ab:FnOk P w K mg base cQ 3 f16 d16 jl (dQ K mg u6):=by
 exact T.lG.F.okD (φ:=uS) (O':=[]) Ar (fun Y A J s H E L=>(aw (aB (jb (aN T.m5 (wy T) L (aa (ag 0) aj)) (jb (aN T.m4 (v6 T) L (aa (aC K (ag 0) ar) aj)) (kD (aN T.fj (sq T) L (aa (aC K (ag 0) ar) aj))))))))
def vT:FnOk P w K mg base cQ 4 f17 d17 fG (dQ K mg lY):=by
 exact T.iR.F.okD (φ:=qQ) (O':=[]) oX (fun Y A J s H E L=>(am (bw (cW (kW (gt (bD K (aZ (j3 K) (rO K) T.bc a8 (aa (ag 0) (aa (qy T.lN iZ) aj))))) (kW (aV Lk L4 (aZ (mJ K) (ny K) T.fQ cL (aa (ag 0) aj)) ar (aL _)) (j5 (aV VH Wm (aZ (mJ K) (ny K) T.fQ cL (aa (ag 0) aj)) (m9 T.xz T.xA T.xB) (aL _)))))) (aw (aB sx)) bi) (am (bw (gt (bD K (aZ (sI K rfl) (MA K) T.FC zQ (aa (bV (oG (Wb:=⟨K,mg,E0⟩) (osc:=au fK) (ON:=iM) (N:=["column"]) (ix:=[none]) (by trivial) (fE K (ag 0)) (fun _=>(b7 (i:=0) (by decide) (by trivial:(["column"]:ac3).Nodup) rfl (W8 rfl))) (fun _=>iJ) (fun _=>(aN T.lG (Ab T) L (aa (ag 0) aj))) (c8 (by decide)))) aj)))) (aw (aB sx)) bi) (am (vJ (by decide) (tJ (i:=1) oX.nd (W8 rfl) (Wb:=⟨K,mg,E0⟩) (osc:=au fK) (ON:=iM) (N:=["column"]) (ix:=[none]) (by trivial) (fE K (ag 0)) (fun _=>(b7 (i:=0) (by decide) (by trivial:(["column"]:ac3).Nodup) rfl (W8 rfl))) (fun _=>iJ) (fun _=>(aC K (ag 0) ar)) (c8 (by decide)))) (aw (aB (eJ (gF K L.units) (tZ K) (II T.fQ T.UE (aa (ag 1) aj)) (aZ (mJ K) (ny K) T.fQ cL (aa (ag 1) aj)) (aL _))))))))
def Bi:FnOk P w K mg base cQ 5 f18 d18 j4 (dQ K mg nP):=by
 exact T.oi.F.okD (φ:=nZ) (O':=[]) BC (fun Y A J s H E L=>(aw (aB (jb (aN T.m5 (wy T) L (aa (ag 0) aj)) (jb (aN T.m4 (v6 T) L (aa (aC K (ag 0) ar) aj)) (kD (aN T.iR (vT T) L (aa (aC K (ag 0) ar) aj))))))))
def gb:FnOk P w K mg base cQ 1 f19 d19 eS (dQ K mg cp):=by
 exact T.cy.F.okD (φ:=gL) (O':=[]) jz (fun Y A J s H E L=>(am (pb Yt (sj T.vi (aa (aC K (ag 0) ar) aj)) (zZ K (i9 (b7 (i:=2) (by decide) jz.nd rfl (W8 rfl)) (i9 (b7 (i:=3) (by decide) jz.nd rfl (W8 rfl)) vL))) (aw (bw (aV (gF K L.units) (tZ K) (aC K (ag 3) ar) (ag 1) (aL _)) (aw (aB (ag 2))) bi))) (aw (aB uQ))))
def z8:FnOk P w K mg base cQ 3 f20 d20 jf (dQ K mg gx):=by
 exact T.lH.F.okD (φ:=lr) (O':=[]) zW (fun Y A J s H E L=>(aw (aB (Ul (eJ SH TH (ag 0) uQ (aL _)) (kD (jb (aN T.og (Cf T) L (aa (ag 0) aj)) (kD (eJ (gF K L.units) (tZ K) (aN T.fg (io T) L (aa (ag 0) aj)) (ag 1) (aL _)))))))))
def M9:FnOk P w K mg base cQ 4 f21 d21 wl (dQ K mg xj):=by
 exact T.AH.F.okD (φ:=Ae) (O':=[]) Ed (fun Y A J s H E L=>(am (aR (i:=2) (by decide) Ed.nd (W8 rfl) (aC K (ag 0) ar)) (am (bw (cW (kW (gt (bD K (aZ (j3 K) (rO K) T.bc a8 (aa (ag 1) (aa (qy T.lN iZ) aj))))) (j5 (aV (xX K L.units) (K6 K) (aZ (mJ K) (ny K) T.fQ cL (aa (ag 1) aj)) (aZ (mJ K) (ny K) T.fQ cL (aa (ag 2) aj)) (aL _))))) (aw (aB sx)) bi) (aw (aB (aZ (sI K rfl) (MA K) T.FC zQ (aa (bV (oG (Wb:=⟨K,mg,E0⟩) (osc:=au Aq) (ON:=CI) (N:=["thing","column"]) (ix:=[none,none]) (by trivial) (QV T.UF (aa (ag 1) (aa (ag 2) aj))) (fun _=>(zZ K (i9 (b7 (i:=0) (by decide) (by trivial:(["thing","column"]:ac3).Nodup) rfl (W8 rfl)) (i9 (b7 (i:=1) (by decide) (by trivial:(["thing","column"]:ac3).Nodup) rfl (W8 rfl)) vL)))) (fun _=>iJ) (fun _=>(aN T.lH (z8 T) L (aa (ag 0) (aa (aC K (ag 1) ar) aj)))) (c8 (by decide)))) aj)))))))
def kN:FnOk P w K mg base cQ 1 f22 d22 iE (dQ K mg cN):=by
 exact T.eU.F.okD (φ:=nj) (O':=[]) gB (fun L A J s H E Y=>(am (aR (i:=2) (by decide) gB.nd (W8 rfl) (mM (qV OL Q0 (c9 K (aZ (mJ K) (ny K) T.fQ cL (aa (ag 1) aj)) (m9 T.KU T.KW T.KY)) ar) (m9 T.KU T.KW T.KY))) (am (q0 (i:=3) (by decide) gB.nd (W8 rfl) (gN aj)) (am (pb Yt (yf T.FD (aa (ag 2) aj)) (b7 (i:=4) (by decide) gB.nd rfl (W8 rfl)) (am (aR (i:=5) (by decide) gB.nd (W8 rfl) (mM (uV (ag 4) (aZ (mJ K) (ny K) T.fQ cL (aa (ag 1) aj))) (ag 2))) (am (aR (i:=6) (by decide) gB.nd (W8 rfl) (mM (uV (c9 K (ag 4) ar) (aZ (mJ K) (ny K) T.fQ cL (aa (ag 1) aj))) (ag 2))) (aw (mQ (i:=3) (by decide) (bz (aa (ag 0) (aa (vy (y8 K) (M4 K) T.lN iZ (aa (eF (Vb K) (U0 K) (ag 1) (dm (ag 5)) (dm (ag 6))) aj)) aj)))))))) (An (O:=[3]) (O2:=[]) (aw (aB (ag 3))))))))
def kL:FnOk P w K mg base cQ 2 f23 d23 gq (dQ K mg cP):=by
 exact T.gv.F.okD (φ:=nN) (O':=[]) BH (fun Y A J s H E L=>(aw (aB (bV (oG (Wb:=⟨K,mg,E0⟩) (osc:=au nS) (ON:=rR) (N:=["cell"]) (ix:=[none]) (by trivial) (fE K (ag 0)) (fun _=>(b7 (i:=0) (by decide) (by trivial:(["cell"]:ac3).Nodup) rfl (W8 rfl))) (fun _=>iJ) (fun _=>(bz (aa (aN T.oh (Bh T) L (aa (ag 0) aj)) (aa (ag 0) aj)))) (c8 (by decide)))))))
def yr:FnOk P w K mg base cQ 3 f24 d24 pz (dQ K mg oZ):=by
 exact T.pO.F.okD (φ:=sd) (O':=[]) uD (fun Y A J s H E L=>(am (aR (i:=1) (by decide) uD.nd (W8 rfl) (ag 0)) (am (tI 1000 Yt (aV VH Wm (aZ (mJ K) (ny K) T.fQ cL (aa (ag 1) aj)) ar (aL _)) (aw (aR (i:=1) (by decide) uD.nd (W8 rfl) (aN T.eU (kN T) L (aa aQ (aa (aN T.gv (kL T) L (aa (ag 1) aj)) aj)))))) (aw (aB (aC K (ag 1) ar))))))
def qR:∀ n:Nat,FnOk P w K mg base cQ (5+n) f25 d25 dE (dQ K mg (cJ n))
 | 0=>FnOk.void
 | n+1=>by
  have ih:=qR n;have G_cells_with:FnOk P w K mg base cQ (5+n) f25 d25 dE (dQ K mg (cJ n)):=ih;have J:FnOk P w K mg base cQ 3 f6 d6 eh (dQ K mg bx):=pq T;have L:FnOk P w K mg base cQ 1 f22 d22 iE (dQ K mg cN):=kN T;have Y:FnOk P w K mg base cQ 4 f8 d8 du (dQ K mg ce):=l5 T;have G_parts_of:FnOk P w K mg base cQ 2 f23 d23 gq (dQ K mg cP):=kL T;exact T.hZ.F.okD (k:=5+n) (φ:=gQ ((cJ n))) (O':=[]) eu (fun cdv A outer s H E hr=>(am (bw (aV (gF K hr.units) (tZ K) (aC K (ag 0) ar) aQ (aL _)) (am (vJ (by decide) (tJ (i:=2) eu.nd (W8 rfl) (Wb:=⟨K,mg,E0⟩) (osc:=au gW) (ON:=jP) (N:=["other","entry"]) (ix:=[none,some 1]) (by trivial) (fE K (aC K (ag 0) ar)) (fun _=>(b7 (i:=0) (by decide) (by trivial:(["other","entry"]:ac3).Nodup) rfl (W8 rfl))) (fun _=>(zM (bD K (aN T.eB J hr (aa (ag 0) (aa (ag 1) aj)) (hj:=by omega))))) (fun _=>(ag 0)) (c8 (by decide)))) (am (vJ (by decide) (tJ (i:=3) eu.nd (W8 rfl) (Wb:=⟨K,mg,E0⟩) (osc:=au gW) (ON:=jP) (N:=["other","entry"]) (ix:=[none,some 1]) (by trivial) (fE K (aC K (ag 0) ar)) (fun _=>(b7 (i:=0) (by decide) (by trivial:(["other","entry"]:ac3).Nodup) rfl (W8 rfl))) (fun _=>(zM (bD K (aN T.eB J hr (aa (ag 1) (aa (ag 0) aj)) (hj:=by omega))))) (fun _=>(ag 0)) (c8 (by decide)))) (aw (aB (aN T.eU L hr (aa aQ (aa (c9 K (c9 K (ag 2) (bV (gN (aa (ag 1) aj)))) (ag 3)) aj)) (hj:=by omega)))))) bi) (am (aR (i:=4) (by decide) eu.nd (W8 rfl) (bV (nH (C1 K) (PY K) T.AV vI (aa (aC K (ag 0) ar) aj)))) (am (aR (i:=5) (by decide) eu.nd (W8 rfl) (aN T.fh Y hr (aa (ag 4) (aa (ag 1) aj)) (hj:=by omega))) (am (aR (i:=6) (by decide) eu.nd (W8 rfl) (aN T.hZ G_cells_with hr (aa (aC K (aC K (ag 4) (ag 5)) ar) (aa (ag 1) aj)) (hj:=by omega))) (aw (aB (aN T.eU L hr (aa aQ (aa (c9 K (c9 K (eF (FZ K) (C9 K) (ag 4) e6 (dm (ag 5))) (aN T.gv G_parts_of hr (aa (ag 6) aj) (hj:=by omega))) (eF (FZ K) (C9 K) (ag 4) (dm (c9 K (ag 5) ar)) e6)) aj)) (hj:=by omega)))))))))
def x9:FnOk P w K mg base cQ 45 f25 d25 dE (dQ K mg jU):=(qR T 40)
def xP:FnOk P w K mg base cQ 46 f26 d26 gI (dQ K mg gP):=by
 exact T.jX.F.okD (φ:=jT) (O':=[]) xI (fun Y A J s H E L=>(am (bw (bD K (aN T.jo (sL T) L (aa (ag 0) (aa (ag 1) (aa (ag 2) aj))))) (aw (aB (ag 0))) bi) (aw (aB (aN T.pO (yr T) L (aa (aN T.hZ (x9 T) L (aa (ag 0) (aa (bz (aa (ag 1) (aa (ag 2) aj))) aj))) aj))))))
def GK:FnOk P w K mg base cQ 3 f27 d27 mC (dQ K mg oH):=by
 exact T.tR.F.okD (φ:=sY) (O':=[]) j2 (fun Y A J s H E L=>(am (bw (aV (gF K L.units) (tZ K) (ag 1) ar (aL _)) (am (aR (i:=3) (by decide) j2.nd (W8 rfl) ar) (aw (aR (i:=4) (by decide) j2.nd (W8 rfl) (qV (vX K) (A7 K) (aC K (ag 2) ar) (aC K (aC K (aC K (ag 0) ar) ar) ar))))) (am (aR (i:=3) (by decide) j2.nd (W8 rfl) (qV OL Q0 (ag 1) ar)) (aw (aR (i:=4) (by decide) j2.nd (W8 rfl) (qV (vX K) (A7 K) (aC K (aC K (aC K (ag 0) (ag 3)) ar) ar) (aC K (ag 2) ar)))))) (am (aR (i:=5) (by decide) j2.nd (W8 rfl) (aN T.eU (kN T) L (aa (aC K (ag 2) ar) (aa (ag 4) aj)))) (aw (aB (bz (aa aQ (aa (vy (y8 K) (M4 K) T.lN iZ (aa (qV (vX K) (A7 K) (qV (vX K) (A7 K) (eF (FZ K) (C9 K) (ag 0) e6 (dm (ag 3))) (aN T.gv (kL T) L (aa (ag 5) aj))) (eF (FZ K) (C9 K) (ag 0) (dm (qV (vX K) (A7 K) (ag 3) ar)) e6)) aj)) aj))))))))
def ow:∀ n:Nat,FnOk P w K mg base cQ (5+n) f28 d28 ck (dQ K mg (bM n))
 | 0=>FnOk.void
 | n+1=>by
  have ih:=ow n;have J:FnOk P w K mg base cQ (5+n) f28 d28 ck (dQ K mg (bM n)):=ih;have L:FnOk P w K mg base cQ 4 f8 d8 du (dQ K mg ce):=l5 T;have Y:FnOk P w K mg base cQ 2 f23 d23 gq (dQ K mg cP):=kL T;have G_mended:FnOk P w K mg base cQ 3 f27 d27 mC (dQ K mg oH):=GK T;exact T.eV.F.okD (k:=5+n) (φ:=eN ((bM n))) (O':=[]) fV (fun cdv A outer s H E hr=>(am (bw (aV (gF K hr.units) (tZ K) (aC K (ag 0) ar) aQ (aL _)) (aw (aB (bz (aa aQ (aa (vy (y8 K) (M4 K) T.lN iZ (aa (bV (oG (Wb:=⟨K,mg,E0⟩) (osc:=au gO) (ON:=kh) (N:=["other","entry"]) (ix:=[none,some 1]) (by trivial) (fE K (aC K (ag 0) ar)) (fun _=>(b7 (i:=0) (by decide) (by trivial:(["other","entry"]:ac3).Nodup) rfl (W8 rfl))) (fun _=>(zM (aV (xX K hr.units) (K6 K) (ag 0) (ag 1) (aL _)))) (fun _=>(ag 0)) (c8 (by decide)))) aj)) aj))))) bi) (am (aR (i:=2) (by decide) fV.nd (W8 rfl) (bV (nH (C1 K) (PY K) T.AV vI (aa (aC K (ag 0) ar) aj)))) (am (aR (i:=3) (by decide) fV.nd (W8 rfl) (aN T.fh L hr (aa (ag 2) (aa (ag 1) aj)) (hj:=by omega))) (am (aR (i:=4) (by decide) fV.nd (W8 rfl) (aN T.eV J hr (aa (aC K (aC K (ag 2) (ag 3)) ar) (aa (ag 1) aj)) (hj:=by omega))) (am (bw (aV UW UQ (aZ (mJ K) (ny K) T.fQ cL (aa (aC K (ag 4) ar) aj)) (m9 T.KQ T.KR T.KS) (aL _)) (aw (aB (bz (aa aQ (aa (vy (y8 K) (M4 K) T.lN iZ (aa (c9 K (c9 K (eF (FZ K) (C9 K) (ag 2) e6 (dm (ag 3))) (aN T.gv Y hr (aa (bV (gN (aa (ag 4) aj))) aj) (hj:=by omega))) (eF (FZ K) (C9 K) (ag 2) (dm (c9 K (ag 3) ar)) e6)) aj)) aj))))) bi) (aw (aB (aN T.tR G_mended hr (aa (ag 2) (aa (ag 3) (aa (ag 4) aj))) (hj:=by omega))))))))))
def vo:FnOk P w K mg base cQ 45 f28 d28 ck (dQ K mg eT):=(ow T 40)
def uF:FnOk P w K mg base cQ 46 f29 d29 dR (dQ K mg dL):=by
 exact T.gc.F.okD (φ:=fX) (O':=[]) mw (fun Y A L s H E J=>(am (bw (gt (bD K (aN T.jo (sL T) J (aa (ag 0) (aa (ag 1) (aa (ag 2) aj)))))) (aw (aB (ag 0))) bi) (am (aR (i:=3) (by decide) mw.nd (W8 rfl) (aN T.eV (vo T) J (aa (ag 0) (aa (bz (aa (ag 1) (aa (ag 2) aj))) aj)))) (am (bw (cW (vU (aV (gF K J.units) (tZ K) (aC K (ag 3) ar) aQ (aL _)) (rZ (aV (gF K J.units) (tZ K) (aZ (mJ K) (ny K) T.fQ cL (aa (aC K (ag 3) ar) aj)) ar (aL _))))) (aw (aB (aC K (aC K (aC K (ag 3) ar) ar) ar))) bi) (aw (aB (ag 3)))))))
def y9:FnOk P w K mg base cQ 3 f30 d30 jh (dQ K mg dj):=by
 exact T.lI.F.okD (φ:=kK) (O':=[]) zD (fun Y A J s H E L=>(aw (aB (bz (aa (aN T.lD (ze T) L (aa (aC K (ag 0) ar) aj)) (aa (aC K (ag 0) ar) aj))))))
def xQ:FnOk P w K mg base cQ 5 f31 d31 gJ (dQ K mg jM):=by
 exact T.jY.F.okD (φ:=jR) (O':=[]) lU (fun Y A L s H E J=>(am (q0 (i:=1) (by decide) lU.nd (W8 rfl) (gN aj)) (am (pb Yt (fE K (bV (Gu kfN T.lI (y9 T) J T.xD (ag 0)))) (b7 (i:=2) (by decide) lU.nd rfl (W8 rfl)) (aw (bw (cW (kW (E4 K (fun k=>k) (i:=1) (by decide) (gF K J.units) (bV (gN aj)) (aL _)) (j5 (aV (xX K J.units) (K6 K) (TM K (i:=1) (by decide) (Pb QN Rf ar)) (ag 2) (aL _))))) (aw (mQ (i:=1) (by decide) (ag 2))) bi))) (am (bw (E4 K (fun k=>k) (i:=1) (by decide) (gF K J.units) (bV (gN aj)) (aL _)) (aw (aB (MY T.iQ (wn T) J))) bi) (An (O:=[1]) (O2:=[]) (aw (aB (aN T.pO (yr T) J (aa (aN T.eU (kN T) J (aa aQ (aa (ag 1) aj))) aj)))))))))
def zY:FnOk P w K mg base cQ 3 f32 d32 iV (dQ K mg kX):=by
 exact T.lJ.F.okD (φ:=lq) (O':=[]) zO (fun Y A J s H E L=>(aw (aB (bV (CW T.bj T.tX T.pQ (wS T) T.pR L (aa (ag 0) (aa (xf pU) (aa (xf pU) aj))))))))
def uE:FnOk P w K mg base cQ 47 f33 d33 dJ (dQ K mg fS):=by
 exact T.gd.F.okD (φ:=fR) (O':=[]) me (fun Y A L s H E J=>(am (aR (i:=3) (by decide) me.nd (W8 rfl) (on J.units (fB K T.bj T.bn.cl T.bR (ag 0)) (ag 1))) (am (bw (aV (uh J.units) Al (ag 2) (fB K T.bj T.bn.cl T.bo (ag 0)) (by with_unfolding_all rfl)) (aw (aB (ag 3))) bi) (aw (aB (aN T.gc (uF T) J (aa (ag 3) (aa (aC K (on J.units (fB K T.bj T.bn.cl T.bo (ag 0)) (ag 2)) (aN T.cy (gb T) J (aa (fB K T.bj T.bn.cl T.bE (ag 0)) (aa (ag 1) aj)))) (aa (ag 2) aj)))))))))
def A8:FnOk P w K mg base cQ 48 f34 d34 kr (dQ K mg nW):=by
 exact T.oj.F.okD (φ:=nU) (O':=[]) jj (fun Y A L s H E J=>(am (q0 (i:=3) (by decide) jj.nd (W8 rfl) (nH nT Qf T.Ec zP (aa (fB K T.bj T.bn.cl T.bo (ag 0)) aj))) (am (vE (i:=3) J.units (by decide) (ag 2) (ag 1)) (am (q0 (i:=4) (by decide) jj.nd (W8 rfl) pU) (am (pb Yt (MJ (fB K T.bj T.bn.cl T.bR (ag 0))) (b7 (i:=5) (by decide) jj.nd rfl (W8 rfl)) (am (aR (i:=6) (by decide) jj.nd (W8 rfl) (aN T.gd (uE T) J (aa (ag 0) (aa (ag 5) (aa (ag 1) aj))))) (aw (vE (i:=4) J.units (by decide) (aN T.jX (xP T) J (aa (ag 6) (aa (aC K (ag 2) (aN T.cy (gb T) J (aa (fB K T.bj T.bn.cl T.bE (ag 0)) (aa (ag 5) aj)))) (aa (ag 1) aj)))) (ag 5))))) (Ez (i:=4) (O:=[4,3]) (O2:=[3]) (Ez (i:=3) (O:=[3]) (O2:=[]) (aw (aB (bV (CW T.bj T.tX T.pQ (wS T) T.pR J (aa (fB K T.bj T.bn.cl T.bE (ag 0)) (aa (ag 3) (aa (ag 4) aj))))))))))))))
def x6:FnOk P w K mg base cQ 2 f35 d35 hJ (dQ K mg jH):=by
 exact T.jZ.F.okD (φ:=jI) (O':=[]) qK (fun Y A J s H E L=>(am (aR (i:=2) (by decide) qK.nd (YH rfl) (aN T.cy (gb T) L (aa (fB K T.bj T.bn.cl T.bE (ag 0)) (aa (ag 1) aj)))) (aw (aB (bV (oG (Wb:=⟨K,mg,E0⟩) (osc:=au jO) (ON:=nq) (N:=["number","row","place"]) (ix:=[none,none,some 2]) (by trivial) (HM (fB K T.bj T.bn.cl T.bo (ag 0))) (fun _=>(zZ K (i9 (b7 (i:=0) (by decide) (by trivial:(["number","row","place"]:ac3).Nodup) rfl (W8 rfl)) (i9 (b7 (i:=1) (by decide) (by trivial:(["number","row","place"]:ac3).Nodup) rfl (W8 rfl)) vL)))) (fun _=>iJ) (fun _=>(bz (aa (aC K (ag 1) (ag 2)) (aa (ag 0) aj)))) (c8 (by decide))))))))
def xR:FnOk P w K mg base cQ 6 f36 d36 gK (dQ K mg jL):=by
 exact T.j0.F.okD (φ:=jW) (O':=[]) qP (fun Y A L s H E J=>(am (q0 (i:=2) (by decide) qP.nd (W8 rfl) (nH nT Qf T.Ec zP (aa (fB K T.bj T.bn.cl T.bR (ag 0)) aj))) (am (vE (i:=2) J.units (by decide) (aN T.jY (xQ T) J (aa (aN T.jZ (x6 T) J (aa (ag 0) (aa (ag 1) aj))) aj)) (ag 1)) (Ez (i:=2) (O:=[2]) (O2:=[]) (aw (aB (bV (CW T.bj T.tX T.pQ (wS T) T.pR J (aa (fB K T.bj T.bn.cl T.bE (ag 0)) (aa (fB K T.bj T.bn.cl T.bo (ag 0)) (aa (ag 2) aj)))))))))))
def C4:FnOk P w K mg base (xF P w mg) 1 f37 d37 mo (B6 K mg j1):=by
 exact T.qm.F.okX (φ:=p5) (O':=[]) CY (fun Y A J s H E L=>(am (bw (cW (kW (gt (bD K (aZ (j3 K) (rO K) T.bc a8 (aa (ag 0) (aa (qy T.lN iZ) aj))))) (kW (aV (gF K L.units) (tZ K) (aZ (mJ K) (ny K) T.fQ cL (aa (ag 0) aj)) ar (aL _)) (j5 (gt (bD K (aZ (j3 K) (rO K) T.bc a8 (aa (aC K (ag 0) ar) (aa (qy T.xC qZ) aj))))))))) (aw (uH T.pP T.lM (aa aQ aj))) bi) (am (bw (cW (kW (aV (QI T.Fy T.Fz T.AO T.AQ) (V1 T.Cp) (aC K (ag 0) ar) (Ky T.Fx T.Cp) (by with_unfolding_all rfl)) (j5 (aV (xX K L.units) (K6 K) (aZ (mJ K) (ny K) T.fQ cL (aa (ag 0) aj)) (Mw gU T.Fx T.Fy T.Fz T.vO (aC K (ag 0) ar)) (aL _))))) (aw (uH T.pP T.lM (aa aQ aj))) bi) (aw (aB (aC K (ag 0) ar))))))
def lX:FnOk P w K mg base cQ 1 f38 d38 hU (dQ K mg fe):=by
 exact T.fk.F.okD (φ:=jS) (O':=[]) qH (fun Y A J s H E L=>(am (q0 (i:=3) (by decide) qH.nd (W8 rfl) (nH nT Qf T.Ec zP (aa (ag 0) aj))) (am (vE (i:=3) L.units (by decide) (ag 2) (ag 1)) (Ez (i:=3) (O:=[3]) (O2:=[]) (aw (aB (ag 3)))))))
def qq:FnOk P w K mg base cQ 6 f39 d39 cu (dQ K mg cq):=by
 exact T.dF.F.okD (φ:=dC) (O':=[]) qt (fun Y A L s H E J=>(am (bw (gt (bD K (aN T.oi (Bi T) J (aa (ag 1) aj)))) (aw uR) bi) (am (bw (aV (Cy J.units) O8 (aC K (ag 1) ar) (ag 0) (by with_unfolding_all rfl)) (aw uR) bi) (aw (aB (aN T.fk (lX T) J (aa (ag 0) (aa (aC K (ag 1) ar) (aa (aN T.lJ (zY T) J (aa (ag 1) aj)) aj)))))))))
def pM:FnOk P w K mg base cQ 1 f40 d40 km (dQ K mg iB):=by
 exact T.iH.F.okD (φ:=nD) (O':=[]) Bf (fun Y A J s H E L=>(am (bw (cW (kW (gt (bD K (aZ (j3 K) (rO K) T.bc a8 (aa (ag 1) (aa (qy T.xC qZ) aj))))) (j5 (aV (uh L.units) Al (ag 1) (ag 0) (by with_unfolding_all rfl))))) (aw uR) bi) (aw (aB (on L.units (ag 0) (ag 1))))))
def qC:FnOk P w K mg base cQ 7 f41 d41 cm (dQ K mg cw):=by
 exact T.dG.F.okD (φ:=dt) (O':=[]) jE (fun Y A L s H E J=>(am (aR (i:=3) (by decide) jE.nd (W8 rfl) (aN T.iH (pM T) J (aa (ag 0) (aa (ag 1) aj)))) (am (bw (cW (kW (gt (bD K (aZ (j3 K) (rO K) T.bc a8 (aa (ag 2) (aa (qy T.xC qZ) aj))))) (j5 (aV SH TH (aN T.cy (gb T) J (aa (fB K T.bj T.bn.cl T.bE (ag 3)) (aa (ag 2) aj))) uQ (aL _))))) (aw uR) bi) (am (bw (aV (Cy J.units) O8 (ag 2) (fB K T.bj T.bn.cl T.bR (ag 3)) (by with_unfolding_all rfl)) (aw uR) bi) (aw (aB (aN T.fk (lX T) J (aa (ag 0) (aa (ag 1) (aa (aN T.j0 (xR T) J (aa (ag 3) (aa (ag 2) aj))) aj))))))))))
def sZ:FnOk P w K mg base cQ 49 f42 d42 cZ (dQ K mg de):=by
 exact T.fm.F.okD (φ:=dc) (O':=[]) kZ (fun Y A L s H E J=>(am (aR (i:=4) (by decide) kZ.nd (W8 rfl) (aN T.iH (pM T) J (aa (ag 0) (aa (ag 1) aj)))) (am (bw (gt (bD K (aN T.dZ (mi T) J (aa (ag 2) aj)))) (aw uR) bi) (am (bw (gt (bD K (aN T.AH (M9 T) J (aa (fB K T.bj T.bn.cl T.bE (ag 4)) (aa (ag 3) aj))))) (aw uR) bi) (aw (aB (aN T.fk (lX T) J (aa (ag 0) (aa (ag 1) (aa (aN T.oj (A8 T) J (aa (ag 4) (aa (ag 2) (aa (ag 3) aj)))) aj))))))))))
def uj:FnOk P w K mg base (xF P w mg) 2 f43 d43 dY (B6 K mg cG):=by
 have J:=(mi (P:=P) (base:=base) T).mayX;exact T.ge.F.okX (φ:=fT) (O':=[]) ui (fun cdv A L s H E Y=>(aw (bw (cW (kW (gt (bD K (bJ T.dZ J Y (aa (ag 1) aj)))) (j5 (aV (uh Y.units) Al (ag 1) (fB K T.bj T.bn.cl T.bo (ag 0)) (by with_unfolding_all rfl))))) (aw (uH T.FB T.AS (aa aQ aj))) bi)))
def oM:FnOk P w K mg base (xF P w mg) 3 f44 d44 b9 (B6 K mg cV):=by
 have L:=(pM (P:=P) (base:=base) T).mayX;have J:=uj (P:=P) (base:=base) T;exact T.cX.F.okX (φ:=cT) (O':=[]) je (fun cdv A Y s H E hr=>(am (aR (i:=3) (by decide) je.nd (W8 rfl) (bJ T.iH L hr (aa (ag 0) (aa (ag 1) aj)))) (am (Lv (bJ T.ge J hr (aa (ag 3) (aa (ag 2) aj)))) (aw uR))))
def wM:FnOk P w K mg base (xF P w mg) 50 f45 d45 mH (B6 K mg bv):=by
 have GX_word_of:=C4 (P:=P) (base:=base) T;have L:=(qq (P:=P) (base:=base) T).mayX;have Y:=(qC (P:=P) (base:=base) T).mayX;have GX_state_with_row:=(sZ (P:=P) (base:=base) T).mayX;have J:=oM (P:=P) (base:=base) T;exact T.m6.F.okX (φ:=gw) (O':=[]) wK (fun cdv A outer s H E hr=>(am (aR (i:=2) (by decide) wK.nd (W8 rfl) (bJ T.qm GX_word_of hr (aa (ag 1) aj))) (am (bw (aV (gF K hr.units) (tZ K) (ag 2) aQ (aL _)) (aw (aB (bJ T.dF L hr (aa (ag 0) (aa (aC K (ag 1) ar) aj))))) bi) (am (bw (aV (gF K hr.units) (tZ K) (ag 2) aQ (aL _)) (aw (aB (bJ T.dG Y hr (aa (ag 0) (aa (aC K (ag 1) ar) (aa (aC K (ag 1) ar) aj)))))) bi) (am (bw (aV (gF K hr.units) (tZ K) (ag 2) aQ (aL _)) (aw (aB (bJ T.fm GX_state_with_row hr (aa (ag 0) (aa (aC K (ag 1) ar) (aa (aC K (ag 1) ar) (aa (aC K (ag 1) ar) aj))))))) bi) (aw (aB (bJ T.cX J hr (aa (ag 0) (aa (aC K (ag 1) ar) (aa (aC K (ag 1) ar) aj)))))))))))
def ph:FnOk P w K mg base (xF P w mg) 51 f46 d46 fL (B6 K mg bt):=by
 have J:=wM (P:=P) (base:=base) T;exact T.eD.F.okX (φ:=fO) (O':=[]) gT (fun cdv A L s H E Y=>(am (aR (i:=2) (by decide) gT.nd (W8 rfl) (ag 0)) (am (pb zq (fE K (ag 1)) (b7 (i:=3) (by decide) gT.nd rfl (W8 rfl)) (aw (aR (i:=2) (by decide) gT.nd (W8 rfl) (bJ T.m6 J Y (aa (ag 2) (aa (ag 3) aj)))))) (aw (aB (ag 2))))))
def F6:FnOk P w K mg base cQ 1 f47 d47 pp (dQ K mg sC):=by
 exact T.tS.F.okD (φ:=sy) (O':=[]) GP (fun Y A J s H E L=>(am (bw (aV (gF K L.units) (tZ K) (aC K (ag 0) ar) aQ (aL _)) (aw (aB (bz (aa aQ (aa (aC K (aC K (ag 0) ar) ar) aj))))) bi) (am (bw (aV (gF K L.units) (tZ K) (aC K (ag 0) ar) aQ (aL _)) (aw (aB (ag 0))) bi) (aw (aB (bz (aa aQ (aa (aC K (ag 0) ar) (aa (aC K (ag 0) ar) aj)))))))))
def Aj:FnOk P w K mg base cQ 1 f48 d48 i4 (dQ K mg eR):=by
 exact T.eX.F.okD (φ:=kO) (O':=[]) zt (fun L A J s H E Y=>(am (bw (aV Lk L4 (ag 1) (aZ (mJ K) (ny K) T.fQ cL (aa (ag 0) aj)) (aL _)) (aw (aB (aC K (ag 0) (ag 1)))) bi) (aw (aB ar))))
def DM:FnOk P w K mg base cQ 1 f49 d49 mS (dQ K mg qf):=by
 exact T.qo.F.okD (φ:=qa) (O':=[]) cM (fun Y A J s H E L=>(am (aR (i:=2) (by decide) cM.nd (W8 rfl) (c9 K ar (jB (ag 0) ar))) (am (aR (i:=3) (by decide) cM.nd (W8 rfl) (Wp PySem.F.slot_str_join PySem.F.type_str_join (Ls K) (Tm K) aQ (aa (bV (oG (Wb:=⟨K,mg,E0⟩) (osc:=au pW) (ON:=ue) (N:=["_law_n","_law_cell"]) (ix:=[none,some 0]) (by trivial) (yf T.FD (aa (ag 2) aj)) (fun _=>(b7 (i:=0) (by decide) (by trivial:(["_law_n","_law_cell"]:ac3).Nodup) rfl (W8 rfl))) (fun _=>iJ) (fun _=>(aC K aQ (jB (c9 K (mM (ag 1) ar) (uV ar (ag 0))) ar))) (c8 (by decide)))) aj))) (am (aR (i:=4) (by decide) cM.nd (W8 rfl) (jB (mM (ag 0) ar) (ag 2))) (am (q0 (i:=5) (by decide) cM.nd (W8 rfl) (gN aj)) (am (aR (i:=6) (by decide) cM.nd (W8 rfl) ar) (am (tI 1000 Yt (aV Lk L4 (QD K (i:=5) (by decide) T.fQ) (ag 1) (aL _)) (am (aR (i:=7) (by decide) cM.nd (W8 rfl) (aC K aQ (jB (c9 K (mM (ag 0) ar) (uV ar (ag 6))) ar))) (am (aR (i:=8) (by decide) cM.nd (W8 rfl) (c9 K (c9 K (eF (FZ K) (C9 K) (ag 3) e6 (dm (ag 4))) (ag 7)) (eF (FZ K) (C9 K) (ag 3) (dm (c9 K (ag 4) ar)) e6))) (am (aR (i:=9) (by decide) cM.nd (W8 rfl) (bV (gN (aa aQ (aa aQ (aa aQ (aa aQ (aa aQ (aa aQ (aa aQ (aa aQ (aa aQ (aa aQ aj))))))))))))) (am (bw (cW (vU (aV (xX K L.units) (K6 K) (ag 8) aQ (aL _)) (rZ (aV (Fp K) (Ja K) (ag 8) (ag 9) (by with_unfolding_all rfl))))) (aw (mQ (i:=5) (by decide) (ag 8))) bi) (aw (aR (i:=6) (by decide) cM.nd (W8 rfl) (c9 K (ag 6) ar)))))))) (An (O:=[5]) (O2:=[]) (aw (aB (ag 5)))))))))))
def Ad:FnOk P w K mg base cQ 1 f50 d50 iX (dQ K mg lC):=by
 exact T.lK.F.okD (φ:=lh) (O':=[]) dl (fun Y A J s H E L=>(am (vJ (by decide) (tJ (i:=2) dl.nd (W8 rfl) (Wb:=⟨K,mg,E0⟩) (osc:=au iU) (ON:=kU) (N:=["_law_name"]) (ix:=[none]) (by trivial) (fE K (ag 0)) (fun _=>(b7 (i:=0) (by decide) (by trivial:(["_law_name"]:ac3).Nodup) rfl (W8 rfl))) (fun _=>iJ) (fun _=>(bz (aa (ag 0) (aa (bz (aa (bz (aa aQ (aa aQ aj))) (aa (bz (aa aQ (aa aQ aj))) aj))) aj)))) (c8 (by decide)))) (am (Lg (by decide) (tJ (i:=3) dl.nd (W8 rfl) (Wb:=⟨K,mg,E0⟩) (osc:=au iU) (ON:=kU) (N:=["_law_shape"]) (ix:=[none]) (by trivial) (fE K (ag 2)) (fun _=>(b7 (i:=0) (by decide) (by trivial:(["_law_shape"]:ac3).Nodup) rfl (W8 rfl))) (fun _=>iJ) (fun _=>(bz (aa aQ (aa (ag 0) aj)))) (c8 (by decide)))) (am (pb Yt (sj T.vi (aa (eF (FZ K) (C9 K) (ag 1) e6 (dm ar)) aj)) (zZ K (i9 (b7 (i:=4) (by decide) dl.nd rfl (W8 rfl)) (i9 (b7 (i:=5) (by decide) dl.nd rfl (W8 rfl)) vL))) (am (aR (i:=6) (by decide) dl.nd (W8 rfl) (jB (uV (c9 K (ag 5) (uV ar (ag 4))) ar) ar)) (am (aR (i:=7) (by decide) dl.nd (W8 rfl) (aC K (ag 0) (jB (ag 6) ar))) (aw (bw (cW (vU (aV (gF K L.units) (tZ K) (jB (mM (ag 6) ar) ar) ar (aL _)) (rZ (Gr K (i:=3) (by decide) L.units (bz (aa aQ (aa (ag 7) (aa (aC K aQ (jB (mM (ag 6) ar) ar)) aj)))) (by with_unfolding_all rfl))))) (aw (mQ (i:=3) (by decide) (bz (aa aQ (aa (ag 7) (aa (aC K aQ (jB (mM (ag 6) ar) ar)) aj)))))) (aw (mQ (i:=3) (by decide) (bz (aa aQ (aa (ag 7) (aa (c9 K ar (jB (mM (ag 6) ar) ar)) (aa (bz (aa (jB (mM (ag 6) ar) ar) (aa (uV aQ (jB (ag 6) ar)) aj))) aj)))))))))))) (An (O:=[3]) (O2:=[]) (aw (aB (ag 3))))))))
def KK:FnOk P w K mg base cQ 1 f51 d51 tH (dQ K mg vz):=by
 exact T.vN.F.okD (φ:=vH) (O':=[]) Jh (fun Y A J s H E L=>(am (bw (aV (gF K L.units) (tZ K) (aC K (ag 0) ar) aQ (aL _)) (aw (aB (bz (aa aQ (aa (aC K (aC K (ag 0) ar) ar) aj))))) bi) (am (bw (aV (gF K L.units) (tZ K) (aC K (ag 0) ar) aQ (aL _)) (aw (aB (bz (aa aQ (aa (aC K (ag 0) ar) (aa (aC K (ag 0) ar) aj)))))) bi) (aw (aB (bz (aa aQ (aa (aC K (ag 0) ar) (aa (aC K (ag 0) ar) aj)))))))))
def Dn:FnOk P w K mg base cQ 1 f52 d52 mV (dQ K mg my):=by
 exact T.qp.F.okD (φ:=pZ) (O':=[]) kq (fun L A J s H E Y=>(am (aR (i:=2) (by decide) kq.nd (W8 rfl) (bz (aa ar (aa aQ aj)))) (am (aR (i:=3) (by decide) kq.nd (W8 rfl) (bV (gN (aa (bz (aa aQ (aa (bz (aa (aC K (ag 0) ar) (aa (bz (aa (bz (aa aQ (aa aQ aj))) aj)) aj))) aj))) (aa (bz (aa aQ (aa (aC K (ag 0) ar) (aa ar aj)))) (aa (bz (aa aQ (aa (aC K (ag 0) ar) (aa ar (aa (ag 2) (aa (ag 2) aj)))))) aj)))))) (am (aR (i:=3) (by decide) kq.nd (W8 rfl) (c9 K (ag 3) (bV (gN (aa (bz (aa aQ (aa (aC K (ag 0) ar) aj))) (aa (bV (gN (aa aQ (aa (aC K (ag 0) ar) (aa ar (aa (ag 2) aj)))))) (aa aQ (aa uQ (aa (bz (aa aQ (aa (aC K (ag 0) ar) aj))) aj))))))))) (am (aR (i:=3) (by decide) kq.nd (W8 rfl) (c9 K (ag 3) (bV (gN (aa (bz (aa aQ aj)) (aa (bz aj) (aa (bz (aa aQ (aa (aC K (ag 0) ar) (aa ar aj)))) (aa ar aj)))))))) (aw (aB (aC K (c9 K (ag 3) (bV (gN (aa (bz (aa uQ (aa (aC K (ag 0) ar) aj))) (aa (bz (aa aQ (aa (aC K (ag 0) ar) (aa (qV Pn QT ar ar) aj)))) aj))))) (jB (ag 1) ar)))))))))
def Gg:FnOk P w K mg base cQ 1 f53 d53 oN (dQ K mg sU):=by
 exact T.tT.F.okD (φ:=sQ) (O':=[]) yZ (fun Y A J s H E L=>ML (i:=2) (a:=3) (b:=4) K Yt L.units yZ.nd (W8 rfl) (W8 rfl) (W8 rfl) (fE K (ag 0)) (ag 3) (fE K (ag 1)) (aV (gF K L.units) (tZ K) (aC K (ag 4) ar) aQ (aL _)) (aC K (ag 4) ar) (aC K (ag 4) ar) (aC K (ag 4) ar) (aw (aB (ag 2))))
def zr:FnOk P w K mg base cQ 52 f54 d54 jc (dQ K mg jn):=by
 have J:=ph (P:=P) (base:=base) T;exact T.jp.F.okD (φ:=lx) (O':=[]) sV (fun cdv A L s H E Y=>(am (Mr (n:=2) (F:=bt) (mt:=Ng ["BadChange","NoRow"]) T.eD J Y (by decide) sV.nd (fun _=>(aa (ag 0) (aa (ag 1) aj))) T.AR T.AU (fun y=>(aw (aB (bV (gN (aa (aZ (P8 K) (Q8 T.Eb) T.bc a8 (aa (ag 2) (aa (Ky T.pP T.ft) aj))) (aa (aZ (P8 K) (Q8 T.Eb) T.bc a8 (aa (ag 2) (aa (Ky T.FB T.m7) aj))) (aa (aZ (P8 K) (Q8 T.Eb) T.bc a8 (aa (ag 2) (aa (qy T.AW xV) aj))) aj))))))))) (aw (aB (bV (gN aj))))))
def Rm:FnOk P w K mg base (xF P w mg) 53 f55 d55 xq (B6 K mg yn):=by
 have GX_l_names:=(DM (P:=P) (base:=base) T).mayX;have J:=(Aj (P:=P) (base:=base) T).mayX;have GX_l_changes:=(Ad (P:=P) (base:=base) T).mayX;have GX_key_of:=(F6 (P:=P) (base:=base) T).mayX;have GX_l_key:=(KK (P:=P) (base:=base) T).mayX;have GX_l_wrong:=(Dn (P:=P) (base:=base) T).mayX;have L:=ph (P:=P) (base:=base) T;have GX_l_refused:=(zr (P:=P) (base:=base) T).mayX;have GX_l_rows:=(Gg (P:=P) (base:=base) T).mayX;have GX_changed:=wM (P:=P) (base:=base) T;exact T.KP.F.okX (φ:=Eu) (O':=[]) gn (fun cdv A outer s H E Y=>(am (aR (i:=1) (by decide) gn.nd (W8 rfl) (bJ T.qo GX_l_names Y (aa (jB (uV (bJ T.eX J Y (aa (ag 0) (aa ar aj))) ar) ar) (aa ar aj)))) (am (aR (i:=2) (by decide) gn.nd (W8 rfl) (bJ T.lK GX_l_changes Y (aa (ag 1) (aa (eF (FZ K) (C9 K) (ag 0) (dm ar) e6) aj)))) (am (pb zq (fE K (ag 2)) (b7 (i:=3) (by decide) gn.nd rfl (W8 rfl)) (aw (bw (aV (xX K Y.units) (K6 K) (bJ T.tS GX_key_of Y (aa (ag 3) aj)) (bJ T.vN GX_l_key Y (aa (ag 3) aj)) (aL _)) (aw (aB sx)) bi))) (am (bw (aV (gF K Y.units) (tZ K) (jB (bJ T.eX J Y (aa (ag 0) (aa ar aj))) ar) ar (aL _)) (am (aR (i:=4) (by decide) gn.nd (W8 rfl) (bJ T.qp GX_l_wrong Y (aa (ag 1) (aa (mM (bJ T.eX J Y (aa (ag 0) (aa ar aj))) ar) aj)))) (am (aR (i:=5) (by decide) gn.nd (W8 rfl) (c9 K ar (jB (mM (bJ T.eX J Y (aa (ag 0) (aa ar aj))) ar) (qV OL Q0 (aZ (mJ K) (ny K) T.fQ cL (aa (ag 2) aj)) ar)))) (am (aR (i:=6) (by decide) gn.nd (W8 rfl) (c9 K (c9 K (eF (FZ K) (C9 K) (ag 2) e6 (dm (ag 5))) (bV (gN (aa (ag 4) aj)))) (eF (FZ K) (C9 K) (ag 2) (dm (ag 5)) e6))) (am (aR (i:=7) (by decide) gn.nd (W8 rfl) (bV (gN (aa sx (aa sx (aa sx aj)))))) (am (bw (aV (gF K Y.units) (tZ K) (ag 4) (bz (aa aQ (aa (aC K (ag 1) ar) (aa (qV Pn QT ar ar) aj)))) (aL _)) (aw (aR (i:=7) (by decide) gn.nd (W8 rfl) (bV (gN (aa sx (aa sx (aa sx aj))))))) bi) (am (aR (i:=8) (by decide) gn.nd (W8 rfl) (bJ T.eD L Y (aa (xf pU) (aa (eF (FZ K) (C9 K) (ag 2) e6 (dm (ag 5))) aj)))) (aw (aB (jb (eJ (gF K Y.units) (tZ K) (bJ T.jp GX_l_refused Y (aa (xf pU) (aa (ag 6) aj))) (ag 7) (aL _)) (kD (eJ (gF K Y.units) (tZ K) (bJ T.jp GX_l_refused Y (aa (ag 8) (aa (bV (gN (aa (ag 4) aj))) aj))) (ag 7) (aL _)))))))))))) bi) (am (aR (i:=6) (by decide) gn.nd (W8 rfl) (bV (nH (C1 K) (PY K) T.AV vI (aa (ag 2) aj)))) (am (aR (i:=8) (by decide) gn.nd (W8 rfl) (bJ T.eD L Y (aa (xf pU) (aa (ag 6) aj)))) (am (bw (cW (kW (aV (xX K Y.units) (K6 K) (ag 6) (ag 2) (aL _)) (j5 (aV (xX K Y.units) (K6 K) (bV (yU K rfl T.xD (bV (nH (DT rfl) T7 T.AV vI (aa (ag 8) aj))))) (bV (yU K rfl T.xD (ag 1))) (aL _))))) (aw (aB sx)) bi) (am (aR (i:=7) (by decide) gn.nd (W8 rfl) (bJ T.tT GX_l_rows Y (aa (ag 1) (aa (ag 2) aj)))) (am (pb zq (fE K (ag 1)) (b7 (i:=9) (by decide) gn.nd rfl (W8 rfl)) (aw (bw (aV (QY K Y.units) (VS K) (fB K T.bj T.bn.cl T.bo (on Y.units (ag 8) (ag 9))) (on Y.units (ag 7) (ag 9)) (aL _)) (aw (aB sx)) bi))) (am (aR (i:=10) (by decide) gn.nd (W8 rfl) (bJ T.m6 GX_changed Y (aa (ag 8) (aa (bz (aa aQ (aa (aC K (ag 1) ar) (aa ar (aa (bz (aa ar (aa aQ aj))) aj))))) aj)))) (am (bw (cW (kW (aV (Cy Y.units) O8 ar (fB K T.bj T.bn.cl T.bo (on Y.units (ag 8) (aC K (ag 1) ar))) (by with_unfolding_all rfl)) (j5 (aV (xX K Y.units) (K6 K) (on Y.units (fB K T.bj T.bn.cl T.bo (on Y.units (ag 10) (aC K (ag 1) ar))) ar) (bz (aa ar (aa aQ aj))) (aL _))))) (aw (aB sx)) bi) (aw (aB (jb (eJ (Iq K Y.units) (R4 K) (fB K T.bj T.bn.cl T.bo (on Y.units (ag 10) (aC K (ag 1) ar))) (on Y.units (ag 7) (aC K (ag 1) ar)) (aL _)) (kD (eJ (Iq K Y.units) (R4 K) (fB K T.bj T.bn.cl T.bo (on Y.units (ag 8) (aC K (ag 1) ar))) (on Y.units (ag 7) (aC K (ag 1) ar)) (aL _))))))))))))))))))
end
open TS (K4 qE)
def bF {τ:FT} {S T:FS} (h:τ U=.ok true):iq τ S T U=S U:=by rw [Tp,h,aD,SZ,acW rfl]
def uP {τ:FT} {S T:FS} (h:τ U=.ok false):iq τ S T U=T U:=by rw [Tp,h,aD,SZ,acX nE]
def ay {S T:FS} (h:S U=.ok (.nx δ')):aK S T U=T δ':=by rw [BA,h,aD,OJ]
def bU {S T:FS} (h:S U=.ok (.rt d)):aK S T U=.ok (.rt d):=by rw [BA,h];rfl
def aF {φ:FE} (h:φ U=.ok d):a9 φ U=.ok (.rt d):=by rw [NP,h];rfl
def aI {φ:FE} (h:φ U=.ok d):bq k φ U=.ok (.nx (U.set k (some d))):=by rw [Jd,h];rfl
def pf {φ:FE} (h:φ U=.ok d) (J:k < U.length:=by simp):um k φ U=.ok (.nx (U.set k (some d))):=by rw [S7,h,aD,R0,acW J]
def aG (h:r=.ok (.rt d)):fin r=.ok d:=by rw [h];rfl
def skip {τ:FT} {S T:FS} (h:τ U=.ok false):aK (iq τ S bu) T U=T U:=ay ((uP h).trans rfl)
def ac {φ:FE} {α:FA} (h:φ U=.ok d) (h2:α U=.ok ds):ae φ α U=.ok (d::ds):=by unfold ae;rw [h,aD,h2];rfl
def bg {α:FA} (h:α U=.ok ds) (J:ds.length<=100:=by simp):bN α U=.ok (.tup ds):=by rw [Uk,h,aD,Qu,acW (by lia)]
def eO {α:FA} (h:α U=.ok ds) (J:ds.length<=100:=by simp):ia α U=.ok (.lst ds):=by rw [T4,h,aD,Qq,acW (by lia)]
def ak {f:D->D->R D} {φ ψ:FE} (h1:φ U=.ok a) (h2:ψ U=.ok b) (h:f a b=.ok c):aE f φ ψ U=.ok c:=by rw [U3,h1,aD,Wz,h2,aD,h]
def aY {φ:FE} (h:φ U=.ok (.bl b)):bS φ U=.ok b:=by rw [Wj,h];rfl
def aq {F:ada->R D} {α:FA} (h:α U=.ok ds) (hf:F ds=r):ao F α U=r:=by rw [OW,h,aD,hf]
def kT {B:FS} (h:B (U.set i (some x))=.ok (.nx δ')):fc (.one i) B (x::r) U=fc (.one i) B r δ':=by
 rw [wR];have e:jd (.one i) x U=.ok (U.set i (some x)):=rfl;rw [e,aD,DG,h,aD,EI]
def rl {ι:FA} {B:FS} (h:ι U=.ok xs) (hf:fc g B xs U=.ok (.nx δ')):uk ι g B U=.ok (.nx δ'):=by rw [HH,h,aD,HC,hf]
def wq {τ:FT} {B:FS} (h:τ U=.ok true) (J:B U=.ok (.nx δ')):dr τ B (n+1) U=dr τ B n δ':=by
 rw [dr,h,aD,acW rfl,J];rfl
def yE {τ:FT} {B:FS} (h:τ U=.ok false):dr τ B (n+1) U=.ok (.nx U):=by
 rw [dr,h,aD,acX nE]
def cD {φ:FE} (h:φ U=.ok d) (J:PJ d=.ok b):gE φ U=.ok b:=by rw [T6,h,aD,J]
def D0 {τ:FT} (h:τ U=.ok b):j6 τ U=.ok (!b):=by rw [TR,h];rfl
def om {τ:FT} (h:τ U=.ok true):j6 τ U=.ok false:=D0 h
def RE {τ:FT} (h:τ U=.ok false):j6 τ U=.ok true:=D0 h
def VY {τ υ:FT} (h:τ U=.ok true):xN τ υ U=.ok true:=by rw [TC,h];rfl
def vt {τ υ:FT} (h:τ U=.ok false) (h2:υ U=.ok b):xN τ υ U=.ok b:=by rw [TC,h,aD,Ty,acX nE,h2]
def w8 {τ υ:FT} (h:τ U=.ok true) (h2:υ U=.ok b):wH τ υ U=.ok b:=by rw [Oy,h,aD,QQ,acW rfl,h2]
def ED {τ υ:FT} (h:τ U=.ok false):wH τ υ U=.ok false:=by rw [Oy,h];rfl
def js {φ ψ:FE} (h:φ U=.ok (.bl true)) (h2:ψ U=.ok d):kI φ ψ U=.ok d:=by rw [v_and,h,aD,TQ,acW rfl,h2]
def PL {φ ψ:FE} (h:φ U=.ok (.bl false)):kI φ ψ U=.ok (.bl false):=by rw [v_and,h];rfl
def Tz {φ ψ:FE} (h:φ U=.ok (.bl true)):QU φ ψ U=.ok (.bl true):=by rw [v_or,h];rfl
def N3 {φ ψ:FE} (h:φ U=.ok (.bl false)) (h2:ψ U=.ok d):QU φ ψ U=.ok d:=by rw [v_or,h,aD,Vm,acX nE,h2]
def Mc {φ:FE} (h:φ U=.ok (.bl b)):LJ φ U=.ok (.bl (!b)):=by rw [v_not,h];rfl
def wL {ε:FE} (h:U[i]?=some (some (.lst xs))) (J:ε U=.ok d) (L:xs.length < 1000):jN i ε U=.ok (.nx (U.set i (some (.lst (xs++[d]))))):=by
 unfold jN;rw [h];dsimp only;rw [J,aD,acW (by lia)]
def Q3 {ε:FE} (h:U[i]?=some (some (.int a))) (J:ε U=.ok (.int b)):qe i ε U=.ok (.nx (U.set i (some (.int (a+b))))):=by
 rw [Td,h];dsimp only;rw [J];rfl
def mv {φ:FE} {l u:Sd->R (Option Int)} (h:φ U=.ok a) (h1:l U=.ok lo) (h2:u U=.ok hi) (J:qN a lo hi=.ok d):vm qN φ l u U=.ok d:=by
 rw [SI,h,aD,Om,h1,aD,OD,h2,aD,N9,J]
def dq {φ:FE} (h:φ U=.ok (.int i)):dU φ U=.ok (some i):=by rw [PV,h];rfl
def ju {φ:FE} (h:φ U=.ok d) (J:gZ d=.ok xs):jq φ U=.ok xs:=by rw [SR,h,aD,J]
def JM {φ:FE} {U:Sd} {n:Nat} (h:φ U=.ok (.int (n:Int))) (hn:n<=1000000):wg (ae φ ap) U=.ok (nh 0 n):=by
 rw [Qv,ac h rfl,aD,RF (by lia),XN]
def fb {ι:FA} {τ:FT} {ε:FE} (h:ι U=.ok xs) (J:cC t τ ε (gM ix U) xs=.ok d):fv ix ι t τ ε U=.ok d:=by rw [Ro,h,aD,J]
def ut {β:Type} {ε:FE} {rest:Sd} (u f:β->D) (xs:List β) (h:∀ x∈xs,ε (some (u x)::rest)=.ok (f x)) (J:xs.length<=1000):cC (.one 0) n9 ε (none::rest) (xs.map u)=.ok (.lst (xs.map f)) :=
 CF u f rfl (by lia) h
def z0 {β:Type} {τ:FT} {ε:FE} {rest:Sd} (u f:β->D) (p:β->Bool) (xs:List β) (h:∀ x∈xs,τ (some (u x)::rest)=.ok (p x)) (h2:∀ x∈xs,p x=true->ε (some (u x)::rest)=.ok (f x)) (hl:xs.length<=1000):cC (.one 0) τ ε (none::rest) (xs.map u)=.ok (.lst ((xs.filter p).map f)):=by
 refine Ap rfl (by rw [lE];lia) ?_;clear hl;induction xs with
 | nil=>rfl
 | cons x r ih =>
  have h1:=h x (by simp);have Y:=h2 x (by simp);have L:=ih (fun y J=>h y (lT _ J)) fun y J=>h2 y (lT _ J);show (τ (some (u x)::rest)).bind _=_;rw [h1,aD];cases e:p x with
  | true =>
   rw [acW rfl,List.filter_cons_of_pos e];show (ε (some (u x)::rest)).bind _=_;rw [Y e,aD,L];rfl
  | false=>rw [acX nE,List.filter_cons_of_neg (by rw [e];exact nE)];exact L
def c0 {φ:FE} (h:φ U=.ok a) (J:cz [a]=.ok d):ao cz (ae φ ap) U=.ok d:=aq (ac h rfl) J
def xO {β:Type} (f:β->D) (xs:List β) {i:Nat} {x:β} (h:xs[i]?=some x):fA (.lst (xs.map f)) (.int (i:Int))=.ok (f x):=xL (cI (by rw [Xw,h];rfl))
def Cb {β:Type} (f:β->D) (xs:List β):cz [.lst (xs.map f)]=.ok (.int (xs.length:Int)):=by rw [wz,lE]
def zy {φ ψ:FE} (h1:φ U=.ok (.int i)) (h2:ψ U=.ok (.int j)) (h:-(2 ^ 64) < j/\j < 2 ^ 64:=by decide):aE oF φ ψ U=.ok (.int (i*j)):=ak h1 h2 (mul_r h)
def gm {φ ψ:FE} (h1:φ U=.ok (.int i)) (h2:ψ U=.ok (.int j)) (h:0 < j:=by decide):aE iC φ ψ U=.ok (.int (i % j)):=ak h1 h2 (SD h)
def jw {φ ψ:FE} (h1:φ U=.ok (.int i)) (h2:ψ U=.ok (.int j)) (h:0 < j/\j < 1073741824:=by decide):aE lR φ ψ U=.ok (.int (i/j)):=ak h1 h2 (Ua h)
def gu {φ ψ:FE} (h1:φ U=.ok (.int i)) (h2:ψ U=.ok (.int j)):aE cj φ ψ U=.ok (.int (i+j)):=ak h1 h2 rfl
def Jo {φ ψ:FE} (h1:φ U=.ok (.int i)) (h2:ψ U=.ok (.int j)):aE zL φ ψ U=.ok (.int (i - j)):=ak h1 h2 rfl
def CH {φ ψ:FE} (h1:φ U=.ok (.int i)) (h2:ψ U=.ok (.int j)):bS (aE eY φ ψ) U=.ok (decide (i=j)):=aY (ak h1 h2 vP)
def Ft {τ:FT} {φ ψ:FE} (h:τ U=.ok true) (h2:φ U=.ok d):Lc τ φ ψ U=.ok d:=by rw [Oz,h,aD,Ou,acW rfl,h2]
def Fa {τ:FT} {φ ψ:FE} (h:τ U=.ok false) (h2:ψ U=.ok d):Lc τ φ ψ U=.ok d:=by rw [Oz,h,aD,Ou,acX nE,h2]
def Uy {φ ψ:FE} (h:φ U=.ok (.bl a)) (h2:ψ U=.ok (.bl b)):QU φ ψ U=.ok (.bl (a||b)):=by
 cases a with
 | true=>exact Tz h
 | false=>exact N3 h h2
def PZ {φ ψ:FE} (h:φ U=.ok (.bl a)) (h2:ψ U=.ok (.bl b)):kI φ ψ U=.ok (.bl (a&&b)):=by
 cases a with
 | true=>exact js h h2
 | false=>exact PL h
def li {φ:FE} (h:φ U=.ok d) (J:jV [d,.ty C]=.ok (.bl b)):ao jV (ae φ (ae (vC (.ty C)) ap)) U=.ok (.bl b):=aq (ac h (ac rfl rfl)) J
def sw (h:mY C=true/\kH T C=b):(if mY C=true then R.ok (D.bl (kH T C)) else .no)=.ok (.bl b):=by rw [acW h.1,h.2]
def cell (J:List Int) (k:Int):Int:=J.getD k.toNat 0
def LX (J:List Int) (k:Int) (Y:0<=k):eR [.lst (J.map D.int),.int k]=.ok (.int (cell J k)):=by
 rw [BM,kO];obtain ⟨n,rfl⟩:∃ n:Nat,k=(n:Int):=⟨k.toNat,by lia⟩;have L:bS (aE AD (ai 1) (ao cz (ae (ai 0) ap))) [some (.lst (J.map D.int)),some (.int (n:Int))]=.ok (decide ((n:Int) < (J.length:Int))):=aY (ak rfl (c0 rfl (Cb _ _)) xT);unfold cell;rw [XN,Zu];by_cases h:n < J.length
 .rw [acZ (by lia)] at L;rw [rW h];exact aG (bU ((bF L).trans (aF (ak rfl rfl (xO _ _ (rW h))))))
 .rw [acY (by lia)] at L;rw [abp (by lia)];exact aG ((skip L).trans (aF rfl))
abbrev Vw:Str:=XD " !\"#$&'()*+,-./0123456789:;<=>?@ABCDEFGHIJKLMNOPQRSTUVWXYZ[\\]^_`"
abbrev V2:Str:=Vw++XD "abcdefghijklmnopqrstuvwxyz{|}~"
def tab:ac2:=V2.cps.toList
def Vl (n:Nat):D->Prop
 | .non=>True
 | .int _=>True
 | .str z=>z.length<=n/\∀ c∈z.cps.toList,c∈tab
 | _=>False
def Vl.mono (h:Vl n d) (J:n<=m):Vl m d:=by
 cases d with
 | str z=>exact ⟨IF h.1 J,h.2⟩
 | non=>exact Yw
 | int _=>exact Yw
 | _=>exact h.elim
def kx:D->Int
 | .non=>0
 | .int _=>1
 | _=>2
def kw (i:Int):Str:=if i=0 then "none" else if i=1 then "number" else "text"
theorem kind (h:Vl 100 d):ci [d]=.ok (.str (kw (kx d))):=by
 rw [Gz,p4];cases d with
 | non=>exact aG (bU ((bF (aY (ak rfl rfl rfl))).trans (aF rfl)))
 | int i=>exact aG ((skip (aY (ak rfl rfl rfl))).trans (aF (Fa (cD (li rfl (y6.trans (sw (by trivial)))) rfl) rfl)))
 | str z=>exact aG ((skip (aY (ak rfl rfl rfl))).trans (aF (Ft (cD (li rfl (B8.trans (sw (by trivial)))) rfl) rfl)))
 | _=>exact h.elim
def E9 (d:D):kx d=0\/kx d=1\/kx d=2:=by
 unfold kx;split
 .exact .inl rfl
 .exact .inr (.inl rfl)
 .exact .inr (.inr rfl)
def Mj (i:Int) (h:i=0\/i=1\/i=2):KB nJ [.str (kw i)]=.ok (.int i):=by
 rcases h with rfl|rfl|rfl <;> with_unfolding_all rfl
def zX {φ:FE} (h:φ U=.ok d) (J:KB k [d]=.ok r):Bn k (ae φ ap) U=.ok r:=by rw [UC,ac h rfl,aD,J]
def B5 (h:bS (aE eY (ai 0) (ai 1)) U=.ok b) (g:bS (aE AD (ai 0) (ai 1)) U=.ok c):∃ i,(aK (iq (bS (aE eY (ai 0) (ai 1))) (a9 uc) bu) (a9 (Lc (bS (aE AD (ai 0) (ai 1))) (Ld B4 kJ) kJ))) U=.ok (.rt (.int i)):=by
 cases b with
 | true=>exact ⟨_,bU ((bF h).trans (aF rfl))⟩
 | false=>cases c with
  | true=>exact ⟨_,(skip h).trans (aF (Ft g rfl))⟩
  | false=>exact ⟨_,(skip h).trans (aF (Fa g rfl))⟩
def M8 (d e:D) (hd:Vl 100 d) (L:Vl 100 e):∃ i,qh [d,e]=.ok (.int i):=by
 rw [F9,pT];have J:bS (aE sA (ao ci (ae (ai 0) ap)) (ao ci (ae (ai 1) ap))) [some d,some e]=.ok (!decide (kw (kx d)=kw (kx e))):=aY (ak (aq (ac rfl rfl) (kind hd)) (aq (ac rfl rfl) (kind L)) JD);have Y:bS (aE AD (Bn nJ (ae (ao ci (ae (ai 0) ap)) ap)) (Bn nJ (ae (ao ci (ae (ai 1) ap)) ap))) [some d,some e]=.ok (decide (kx d < kx e)):=aY (ak (zX (aq (ac rfl rfl) (kind hd)) (Mj _ (E9 d))) (zX (aq (ac rfl rfl) (kind L)) (Mj _ (E9 e))) xT);cases hb:!decide (kw (kx d)=kw (kx e)) with
 | true =>
  rw [hb] at J;cases hc:decide (kx d < kx e) with
  | true=>rw [hc] at Y;exact ⟨_,aG (bU ((bF J).trans (aF (Ft Y rfl))))⟩
  | false=>rw [hc] at Y;exact ⟨_,aG (bU ((bF J).trans (aF (Fa Y rfl))))⟩
 | false =>
  rw [hb] at J;suffices go:∃ i,(aK (iq (bS (aE eY (ai 0) (ai 1))) (a9 uc) bu) (a9 (Lc (bS (aE AD (ai 0) (ai 1))) (Ld B4 kJ) kJ))) [some d,some e]=.ok (.rt (.int i)) from let ⟨i,h⟩:=go;⟨i,aG ((skip J).trans h)⟩
  cases d with
  | non=>cases e with
   | non=>exact ⟨_,bU ((bF (aY (ak rfl rfl Tx))).trans (aF rfl))⟩
   | int j=>exact absurd hb (by show ¬ (!decide (kw 0=kw 1))=false;decide +kernel)
   | str z=>exact absurd hb (by show ¬ (!decide (kw 0=kw 2))=false;decide +kernel)
   | _=>exact L.elim
  | int i=>cases e with
   | non=>exact absurd hb (by show ¬ (!decide (kw 1=kw 0))=false;decide +kernel)
   | int j=>exact B5 (aY (ak rfl rfl vP)) (aY (ak rfl rfl xT))
   | str z=>exact absurd hb (by show ¬ (!decide (kw 1=kw 2))=false;decide +kernel)
   | _=>exact L.elim
  | str x=>cases e with
   | non=>exact absurd hb (by show ¬ (!decide (kw 2=kw 0))=false;decide +kernel)
   | int j=>exact absurd hb (by show ¬ (!decide (kw 2=kw 1))=false;decide +kernel)
   | str z=>exact B5 (aY (ak rfl rfl fN)) (aY (ak rfl rfl U6))
   | _=>exact L.elim
  | _=>exact hd.elim
def R1:aE xK DF (vC (.int 18)) U=.ok (.int 1000000000000000000):=ak rfl rfl ((N2 (by decide)).trans rfl)
def Ts:aE xK DF SW U=.ok (.int 1000000000):=ak rfl rfl ((N2 (by decide)).trans rfl)
def Cl (d e:D) (n m:Int) (J:Vl 40 d) (L:Vl 40 e):∃ b,bx [.tup [d,.int n],.tup [e,.int m]]=.ok (.bl b):=by
 obtain ⟨i,hi⟩:=M8 d e (J.mono (by decide)) (L.mono (by decide));rw [xW,iL];exact ⟨_,aG ((ay (aI (aq (ac (ak rfl rfl bW) (ac (ak rfl rfl bW) rfl)) hi))).trans (aF (Uy (ak rfl rfl xT) (PZ (ak rfl rfl vP) (ak (ak rfl rfl bL) (ak rfl rfl bL) xT)))))⟩
def WT (x:Str) (h:∀ c∈x.cps.toList,c∈tab):PyData.strOk x=true:=by
 have L:∀ c∈tab,32<=c/\c<=126:=by trivial
 show x.cps.all (· < 0x110000)=true;rw [<- Array.all_toList,XW];intro c J
 have:=L c (h c J)
 simp;lia
def kl (k:K4):D:=if k.1=0 then .non else if k.1=1 then .int k.2.1 else .str ⟨k.2.2.1.toArray⟩
def un (k:K4):aA k=.tup [kl k,.int k.2.2.2]:=by
 unfold aA kl;split
 .rfl
 .split <;> rfl
structure Ok (k:K4):Prop where
 v:Vl 40 (kl k)
 e:lZ (aA k)=some k
def Ok.of {v:D} {n:Int} {k:K4} (h:lZ (.tup [v,.int n])=some k) (J:Vl 40 v):Ok k:=by
 have e:=pK h;have e2:=e;rw [un] at e2
 have:kl k=v:=by injection e2 with e3;injection e3
 exact ⟨this ▸ J,e ▸ h⟩
def TK:D->abw
 | .int i=>.int i
 | .str z=>.str z
 | _=>.none
def Kq (h:Vl 40 v):iW v=some (TK v):=by
 cases v with
 | non=>rfl
 | int i=>rfl
 | str z=>rfl
 | _=>exact h.elim
def Ij (h:Vl 40 v):(TK v).canLay0=true/\(TK v).depth=0:=by
 cases v with
 | non=>exact ⟨rfl,rfl⟩
 | int i=>exact ⟨rfl,rfl⟩
 | str z=>exact ⟨WT z h.2,rfl⟩
 | _=>exact h.elim
def xE (k:K4):abw:=.tuple [TK (kl k),.int k.2.2.2]
def Ok.py (h:Ok k):iW (aA k)=some (xE k):=by
 rw [un,iW,fz,Kq h.v];rfl
def Ok.lay (h:Ok k):(xE k).canLay0=true/\(xE k).depth=1:=by
 obtain ⟨h1,h2⟩:=Ij h.v;unfold xE;rw [PyData.canLay0,Zp,h1,abr,ZU,h2];exact ⟨rfl,rfl⟩
def Ok.shaped (h:Ok k):X1 (xE k)=true:=by
 unfold X1;rw [h.lay.1,acZ (by rw [h.lay.2];lia)];rfl
def Ok.deep (h:Ok k) (g:Ok l):t0 (aA k) (aA l)=some (Y4 (xE k) (xE l)):=by
 have e:t0 (aA k) (aA l)=kA (aA k) (aA l):=by rw [un,un];rfl
 rw [e,kA,h.py,g.py];dsimp only;rw [acW ⟨h.shaped,g.shaped⟩]
def Ok.ne (h:Ok k) (g:Ok l):sA (aA k) (aA l)=.ok (.bl (!PyData.eqv (xE k) (xE l))):=by
 unfold sA;rw [h.deep g];rfl
def VP:∀ {J:List K4},(∀ k∈J,Ok k)->fz (J.map aA)=some (J.map xE)
 | [],_=>rfl
 | k::r,h=>by
  rw [By,fz,(h k (by simp)).py,VP fun x L=>h x (lT _ L)];rfl
def Od:∀ {J:List K4},(∀ k∈J,Ok k)->∃ b,iI p (J.map xE)=some b
 | [],_=>⟨_,rfl⟩
 | l::r,g=>by
  have L:=g l (by simp);obtain ⟨b,e⟩:=Od (p:=p) fun x Y=>g x (lT _ Y);exact ⟨_,by rw [By,iI,acW ⟨L.shaped,by rw [L.lay.2];lia⟩,e];rfl⟩
def Ok.mem {k:K4} (h:Ok k) {J:List K4} (g:∀ k∈J,Ok k):∃ b,JQ (aA k) (.tup (J.map aA))=.ok (.bl b):=by
 obtain ⟨b,L⟩:=Od (p:=xE k) g;have e:QK (aA k) (.tup (J.map aA))=some b:=by
  show lW _ _=_;rw [lW,h.py,VP g];dsimp only;rw [acW h.shaped,L]
 exact ⟨b,by unfold JQ;rw [e];rfl⟩
def Ka:∀ {J:List K4},(∀ k∈J,Ok k)->Zp (J.map xE)=true/\ZU (J.map xE)<=1
 | [],_=>⟨rfl,Xk _⟩
 | k::r,h=>by
  have L:=(h k (by simp)).lay;obtain ⟨h1,h2⟩:=Ka fun x Y=>h x (lT (a:=x) _ Y);rw [By,Zp,ZU,L.1,h1,L.2];exact ⟨rfl,Nat.max_le.mpr ⟨mK _,h2⟩⟩
def Iy (h:∀ k∈ls,Ok k):t0 (.lst (ls.map aA)) (.lst [])=some (decide (ls=[])):=by
 have e:t0 (.lst (ls.map aA)) (.lst [])=kA (.lst (ls.map aA)) (.lst []):=rfl;have e1:iW (.lst (ls.map aA))=some (.list (ls.map xE)):=by rw [iW,VP h];rfl
 have e2:iW (.lst [])=some (.list []):=rfl;obtain ⟨h1,h2⟩:=Ka h;have J:X1 (.list (ls.map xE))=true:=by
  unfold X1;rw [PyData.canLay0,h1,abr,acZ (by lia)];rfl
 rw [e,kA,e1,e2];dsimp only;rw [acW ⟨J,by decide⟩];cases ls with
 | nil=>rfl
 | cons k r=>rfl
def eq_nil (h:∀ k∈ls,Ok k):eY (.lst (ls.map aA)) (.lst [])=.ok (.bl (decide (ls=[]))):=by
 unfold eY;rw [Iy h];rfl
def u0 (k:K4):fA (aA k) (.int 0)=.ok (kl k):=by rw [un];exact bW
def u1 (k:K4):fA (aA k) (.int 1)=.ok (.int k.2.2.2):=by rw [un];exact bL
def Na (h:Ok k) (e:kl k=.non):k=(0,0,[],k.2.2.2):=by
 have:=h.e;rw [un,e] at this;exact (Xp this).symm
def MS (h:Ok k) (e:kl k=.int i):k=(1,i,[],k.2.2.2):=by
 have:=h.e;rw [un,e] at this;exact (Xp this).symm
def Nn (h:Ok k) (e:kl k=.str z):k=(2,0,z.cps.toList,k.2.2.2):=by
 have:=h.e;rw [un,e] at this;exact (Xp this).symm
def ah (k l:K4):Bool:=match bx [aA k,aA l] with
 | .ok (.bl b)=>b
 | _=>false
def Ok.ahead (h:Ok k) (g:Ok l):bx [aA k,aA l]=.ok (.bl (ah k l)):=by
 obtain ⟨b,e⟩:=Cl (kl k) (kl l) k.2.2.2 l.2.2.2 h.v g.v;rw [<- un,<- un] at e;unfold ah;rw [e]
def Iv {φ:FE} (h:φ U=.ok (.bl b)):j6 (gE φ) U=.ok (!b):=D0 (cD h rfl)
def Kh (n:Nat):nh 0 n=(YN n).map fun (k:Nat)=>D.int (k:Int):=by
 unfold nh;refine Yh fun k _=>?_;rw [Int.zero_add]
def Ix (h:0<=i):qz xs none (some i)=xs.take i.toNat:=by
 obtain ⟨n,rfl⟩:∃ n:Nat,i=(n:Int):=⟨i.toNat,by lia⟩;unfold qz;rw [HT.Bu,HT.pY,XN,Z8,Nat.sub_zero,List.take_eq_take_iff];lia
def Jw (h:0<=i):qz xs (some i) none=xs.drop i.toNat:=by
 obtain ⟨n,rfl⟩:∃ n:Nat,i=(n:Int):=⟨i.toNat,by lia⟩;unfold qz;rw [HT.Bu,HT.pY,XN];by_cases q:n<=xs.length
 .rw [ZT q,Zh (by rw [Ya];lia)]
 .rw [Nat.min_eq_right (by lia),abh (mK _),abh (by lia),List.take_nil]
def cA:Nat->D
 | 0=>.str "leaf"
 | _+1=>.str "branch"
def mn:Nat->Nat
 | 0=>1
 | _+1=>2
def rt:Nat->Nat
 | 0=>0
 | _+1=>2
def Tg:Nat->D->Prop
 | 0,x=>∃ k,Ok k/\x=aA k
 | h+1,x=>∃ k xs,Ok k/\x=.tup [aA k,.tup [cA h,.tup xs]]/\mn h<=xs.length/\xs.length<=8/\∀ y∈xs,Tg h y
def WN (h lo:Nat) (d:D):Prop:=∃ xs,d=.tup [cA h,.tup xs]/\lo<=xs.length/\xs.length<=8/\∀ x∈xs,Tg h x
def Lo (h:Nat):1<=mn h:=by cases h <;> unfold mn <;> lia
def S3 (h:Nat):mn h<=2:=by cases h <;> unfold mn <;> lia
def Hx (h:Nat):rt h<=mn h:=by cases h <;> unfold mn rt <;> lia
def WN.mono (g:WN h lo d) (J:lo'<=lo):WN h lo' d:=let ⟨xs,a,b,c⟩:=g;⟨xs,a,IF J b,c⟩
def W4:decide (("leaf":Str)="branch")=false:=by trivial
def VM:decide (("branch":Str)="leaf")=false:=by trivial
def Jg {h:Nat} {k:K4} {xs:ada} {c:D} (hk:Ok k) (hp:∀ x∈xs,Tg (h+1) x) (hc:cz [c]=.ok (.int (xs.length:Int))) (hx:∀ (i:Nat) x,xs[i]?=some x->fA c (.int (i:Int))=.ok x):∀ (n j:Nat),j < xs.length->xs.length<=j+n ->
  ∃ i:Nat,dr lQ (qe 2 kJ) n [some c,some (aA k),some (.int (j:Int))]=.ok (.nx [some c,some (aA k),some (.int (i:Int))])/\i < xs.length
 | 0,j,h1,h2=>absurd h1 (by lia)
 | n+1,j,h1,h2=>by
  have ej:(j:Int)+1=((j+1:Nat):Int):=by lia
  have J:bS (aE AD (aE cj (ai 2) kJ) (ao cz (ae (ai 0) ap))) [some c,some (aA k),some (.int (j:Int))]=.ok (decide ((j:Int)+1 < (xs.length:Int))):=aY (ak (gu rfl rfl) (c0 rfl hc) xT);by_cases hj:j+1 < xs.length
  .rw [acZ (by lia)] at J;have Y:=rW hj;obtain ⟨l,ys,hl,e,_⟩:=hp _ (XX hj);rw [e] at Y;have L:j6 (gE (ao bx (ae (ai 1) (ae (aE fA (aE fA (ai 0) (aE cj (ai 2) kJ)) uc) ap)))) [some c,some (aA k),some (.int (j:Int))]=.ok (!ah k l) :=
    Iv (aq (ac rfl (ac (ak (ak rfl (gu rfl rfl) (by rw [ej];exact hx _ _ Y)) rfl bW) rfl)) (hk.ahead hl))
   cases hb:ah k l with
   | true=>rw [hb] at L;exact ⟨j,yE (w8 J L),h1⟩
   | false =>
    rw [hb] at L;obtain ⟨i,e,hi⟩:=Jg hk hp hc hx n (j+1) hj (by lia);rw [<- ej] at e;exact ⟨i,(wq (w8 J L) (Q3 rfl rfl)).trans e,hi⟩
  .rw [acY (by lia)] at J;exact ⟨j,yE (ED J),h1⟩
def rK {h:Nat} {k:K4} {xs:ada} {c:D} (hk:Ok k) (L:∀ x∈xs,Tg (h+1) x) (J:cz [c]=.ok (.int (xs.length:Int))) (Y:∀ (i:Nat) x,xs[i]?=some x->fA c (.int (i:Int))=.ok x) (hn:1<=xs.length) (hl:xs.length<=1000):∃ i:Nat,ce [c,aA k]=.ok (.int (i:Int))/\i < xs.length:=by
 obtain ⟨i,e,hi⟩:=Jg hk L J Y 1000 0 hn (by lia);refine ⟨i,?_,hi⟩;rw [zc,jJ];exact aG ((ay (aI rfl)).trans ((ay e).trans (aF rfl)))
def UO:∀ {xs:ada},(∀ x∈xs,Tg 0 x)->∃ ks:List K4,xs=ks.map aA/\∀ k∈ks,Ok k
 | [],_=>⟨[],rfl,fun k J=>nomatch J⟩
 | x::r,h=>by
  obtain ⟨k,J,e⟩:=h x (by simp);obtain ⟨ks,e2,h2⟩:=UO fun y Y=>h y (lT _ Y);refine ⟨k::ks,by rw [e,e2];rfl,fun l L=>?_⟩;rcases iN.mp L with z|z
  .rw [z];exact J
  .exact h2 l z
def KN {k:K4} {a b c:D} (L:Ok k):∀ (h n lo:Nat) (d:D) (o:Option D),h < n->WN h lo d->(h=0\/1<=lo) ->
  ∃ (ks:List K4) (o':Option D),dr hQ hB n [some a,some b,some c,some (aA k),some d,o]=.ok (.nx [some a,some b,some c,some (aA k),some (.tup [.str "leaf",.tup (ks.map aA)]),o'])/\∀ l∈ks,Ok l
 | _,0,_,_,_,hn,_,_=>absurd hn (aaw _)
 | 0,n+1,lo,d,o,hn,⟨xs,e,_,_,hx⟩,_=>by
  subst e;obtain ⟨ks,rfl,ho⟩:=UO hx;exact ⟨ks,o,yE (aY (ak (ak rfl rfl bW) rfl (fN.trans (by rw [W4])))),ho⟩
 | h+1,n+1,lo,d,o,hn,⟨xs,e,h1,h2,hx⟩,hlo=>by
  subst e;obtain ⟨i,ei,hi⟩:=rK (c:=.tup xs) L hx sO (fun i x h=>DX (cI h)) (by lia) (by lia);have J:=rW hi;obtain ⟨l,ys,hl,e,y1,y2,Y⟩:=hx _ (XX hi);rw [e] at J;obtain ⟨ks,o',e2,q2⟩:=KN (a:=a) (b:=b) (c:=c) L h n (mn h) (.tup [cA h,.tup ys]) (some (.tup xs)) (by lia) ⟨ys,rfl,y1,y2,Y⟩ (.inr (Lo h));refine ⟨ks,o',(wq (aY (ak (ak rfl rfl bW) rfl (fN.trans (by rw [acZ rfl])))) ?_).trans e2,q2⟩;exact (ay (aI (ak rfl rfl bL))).trans (aI (ak (ak rfl (aq (ac rfl (ac rfl rfl)) ei) (DX (cI J))) rfl bL))
def SE (h:Nat):h=0\/1<=rt h:=by
 cases h with
 | zero=>exact .inl rfl
 | succ h=>exact .inr (by show 1<=2;lia)
def yP (L:Ok k) (Y:WN h (rt h) d) (hh:h<=700):∃ b,gA [d,kl k,.int k.2.2.2]=.ok (.bl b):=by
 obtain ⟨ks,o',e,q2⟩:=KN (a:=d) (b:=kl k) (c:=.int k.2.2.2) L h 1000 (rt h) d none (by lia) Y (SE h);rw [un] at e;obtain ⟨b,J⟩:=L.mem q2;rw [un] at J;rw [BU,lv];exact ⟨b,aG ((ay (aI (bg (ac rfl (ac rfl rfl))))).trans ((ay (aI rfl)).trans ((ay e).trans (aF (ak rfl (ak rfl rfl bL) J)))))⟩
def PC {g:D->Option Int->Option Int->R D} {φ:FE} {l u:Sd->R (Option Int)} (h:φ U=.ok a) (h1:l U=.ok lo) (h2:u U=.ok hi) (J:g a lo hi=.ok d):vm g φ l u U=.ok d:=by
 rw [SI,h,aD,Om,h1,aD,OD,h2,aD,N9,J]
def LQ (J:0<=i) (h1:i<=j) (h2:j<=(xs.length:Int)):qz xs (some i) (some j)=(xs.drop i.toNat).take (j.toNat - i.toNat):=by
 obtain ⟨n,rfl⟩:∃ n:Nat,i=(n:Int):=⟨i.toNat,by lia⟩;obtain ⟨m,rfl⟩:∃ n:Nat,j=(n:Int):=⟨j.toNat,by lia⟩;unfold qz;rw [HT.pY,HT.pY,XN,XN,ZT (by lia),ZT (by lia)]
structure Rw (c:D) (xs:ada):Prop where
 l:cz [c]=.ok (.int (xs.length:Int))
 s:∀ lo hi,∃ y,G0 c lo hi=.ok y/\wE [y]=.ok (.tup (qz xs lo hi))
def MO (xs:ada):Rw (.lst xs) xs:=⟨wz,fun lo hi=>⟨_,Qi,ET⟩⟩
def Vo (xs:ada):Rw (.tup xs) xs:=⟨sO,fun lo hi=>⟨_,SY,Sf⟩⟩
def P7 (J:Rw c xs) (hx:xs.length<=1000) (Y:zs.length < 100) (L:0 < m/\m < 100) :
  cB [some w,some c,some (.int m),some (.lst zs),some (.int p),o5,o6]=.ok (.nx [some w,some c,some (.int m),some (.lst (zs++[.tup [w,.tup (qz xs (some (p*(xs.length:Int)/m)) (some ((p+1)*(xs.length:Int)/m)))]])),some (.int p),some (.int (p*(xs.length:Int)/m)),some (.int ((p+1)*(xs.length:Int)/m))]):=by
 obtain ⟨y,e1,e2⟩:=J.s (some (p*(xs.length:Int)/m)) (some ((p+1)*(xs.length:Int)/m));exact (ay (aI (jw (zy rfl (c0 rfl J.l) (by lia)) rfl (by lia)))).trans ((ay (aI (jw (zy (gu rfl rfl) (c0 rfl J.l) (by lia)) rfl (by lia)))).trans (wL (xs:=zs) rfl (bg (ac rfl (ac (aq (ac (PC rfl (dq rfl) (dq rfl) e1) rfl) e2) rfl))) (by lia)))
def V3 (J:0 < m) (L:n<=8*m):p*n/m<=(p+1)*n/m/\(p+1)*n/m<=p*n/m+8/\(4*m<=n->p*n/m+4<=(p+1)*n/m):=by
 have e:(p+1)*n=p*n+n:=Nat.succ_mul p n;rw [e];refine ⟨aaq (aaj _ _),?_,fun Y=>?_⟩
 .rw [<- abt _ _ J];exact aaq (by lia)
 .rw [<- abt _ _ J];exact aaq (by lia)
def OC (hc:Rw c xs) (hl:xs.length<=700) (hm:0 < m) (hm9:m<=90) (h8:xs.length<=8*m) (h4:m=1\/4*m<=xs.length):∀ (k p:Nat) (J:List (ada)) (o4 o5 o6:Option D),p+k=m->J.length=p->(∀ r∈J,r.length<=8/\(m=1->r=xs)/\(m≠1->4<=r.length)/\∀ x∈r,x∈xs) ->
  ∃ (L:List (ada)) (o4' o5' o6':Option D),fc (.one 4) cB ((acH p k).map fun (k:Nat)=>D.int (k:Int)) [some w,some c,some (.int (m:Int)),some (.lst (J.map fun r=>D.tup [w,.tup r])),o4,o5,o6]=.ok (.nx [some w,some c,some (.int (m:Int)),some (.lst (L.map fun r=>D.tup [w,.tup r])),o4',o5',o6'])/\L.length=m/\∀ r∈L,r.length<=8/\(m=1->r=xs)/\(m≠1->4<=r.length)/\∀ x∈r,x∈xs
 | 0,p,J,o4,o5,o6,hp,hr,hb=>⟨J,o4,o5,o6,rfl,by lia,hb⟩
 | k+1,p,J,o4,o5,o6,hp,hr,hb=>by
  obtain ⟨c1,c2,c3⟩:=V3 (n:=xs.length) (p:=p) hm h8;have c4:(p+1)*xs.length/m<=xs.length:=by
   refine Nat.div_le_of_le_mul ?_;exact Nat.mul_le_mul_right _ (by lia)
  have t:=P7 (w:=w) (zs:=J.map fun r=>D.tup [w,.tup r]) (m:=(m:Int)) (p:=(p:Int)) (o5:=o5) (o6:=o6) hc (by lia) (by rw [lE];lia) (by lia);have z1:((p:Int)*(xs.length:Int)/(m:Int))=((p*xs.length/m:Nat):Int):=by rw [<- Int.natCast_mul];rfl
  have z2:(((p:Int)+1)*(xs.length:Int)/(m:Int))=(((p+1)*xs.length/m:Nat):Int):=by
   rw [show (p:Int)+1=((p+1:Nat):Int) by lia,<- Int.natCast_mul];rfl
  rw [z1,z2,LQ (by lia) (by lia) (by lia),XN,XN] at t;have hln:((xs.drop (p*xs.length/m)).take ((p+1)*xs.length/m - p*xs.length/m)).length=(p+1)*xs.length/m - p*xs.length/m:=by
   rw [XH,Ya];lia
  have Y:m=1->(xs.drop (p*xs.length/m)).take ((p+1)*xs.length/m - p*xs.length/m)=xs:=fun h1=>by
   have:p=0:=by lia
   subst this;rw [h1];simp
  have hmem:∀ x∈(xs.drop (p*xs.length/m)).take ((p+1)*xs.length/m - p*xs.length/m),x∈xs:=fun x hx=>Zv (Y1 hx);generalize (xs.drop (p*xs.length/m)).take ((p+1)*xs.length/m - p*xs.length/m)=r0 at t hln Y hmem;rw [show (J.map fun r=>D.tup [w,.tup r])++[.tup [w,.tup r0]]=(J++[r0]).map fun r=>D.tup [w,.tup r] by simp] at t;obtain ⟨L,o4',o5',o6',g1,g2,g3⟩:=OC hc hl hm hm9 h8 h4 k (p+1) (J++[r0]) (some (.int (p:Int))) (some (.int ((p*xs.length/m:Nat):Int))) (some (.int (((p+1)*xs.length/m:Nat):Int))) (by lia) (by rw [BY,hr];rfl) (fun r hr'=>by
    rcases DO.mp hr' with z|z
    .exact hb r z
    .rw [OR.mp z];exact ⟨by lia,Y,fun q=>by have:=c3 (h4.resolve_left q);lia,hmem⟩)
  refine ⟨L,o4',o5',o6',?_,g2,g3⟩;rw [abb,By];have t':cB (aaM [some w,some c,some (.int (m:Int)),some (.lst (J.map fun r=>D.tup [w,.tup r])),o4,o5,o6] 4 (some (.int (p:Int))))=_:=t;rw [kT t'];exact g1
structure Fr (h:Nat) (qs:ada) (m:Nat):Prop where
 n:∀ q∈qs,WN h (mn h) q
 l:qs.length=(m+7)/8
def fresh (hc:Rw c xs) (hx:∀ x∈xs,Tg h x) (h0:mn h<=xs.length) (h1:xs.length<=700):∃ qs:ada,cN [cA h,c]=.ok (.lst qs)/\Fr h qs xs.length:=by
 have m1:=Lo h;have m2:=S3 h;have hq:((xs.length:Int)+8 - 1)/8=(((xs.length+7)/8:Nat):Int):=by lia
 have hm:aE lR (aE zL (aE cj (ao cz (ae (ai 1) ap)) (vC w9)) kJ) (vC w9) [some (cA h),some c,none,none,none,none,none]=.ok (.int (((xs.length+7)/8:Nat):Int)) :=
  (jw (Jo (gu (c0 rfl hc.l) rfl) rfl) rfl (by decide)).trans (by rw [hq])
 obtain ⟨J,o4,o5,o6,g1,g2,g4⟩:=OC (w:=cA h) (m:=(xs.length+7)/8) hc h1 (by lia) (by lia) (by lia) (by lia) ((xs.length+7)/8) 0 [] none none none (by lia) rfl (fun r Y=>by cases Y);refine ⟨J.map fun r=>D.tup [cA h,.tup r],?_,fun q L=>?_,by rw [lE,g2]⟩
 .rw [Dk,nj];refine aG ((ay (aI hm)).trans ((ay (pf (eO rfl))).trans ((ay (rl (δ':=[some (cA h),some c,some (.int (((xs.length+7)/8:Nat):Int)),some (.lst (J.map fun r=>D.tup [cA h,.tup r])),o4,o5,o6]) (JM (n:=(xs.length+7)/8) rfl (by lia)) ?_)).trans (aF rfl))));rw [Kh,List.range_eq_range'];exact g1
 .obtain ⟨r,Y,rfl⟩:=Xi.mp L;obtain ⟨a,b,e,f⟩:=g4 r Y;refine ⟨r,rfl,?_,a,fun x hx'=>hx x (f x hx')⟩;by_cases one:(xs.length+7)/8=1
  .rw [b one];exact h0
  .have:=e one;lia
def HS (Y:WN h lo d) (hl:1<=lo):∃ k,kj [d]=.ok (aA k)/\Ok k:=by
 obtain ⟨xs,rfl,h1,h2,L⟩:=Y;rw [Dl,nR];cases xs with
 | nil=>simp at h1;lia
 | cons x r =>
  cases h with
  | zero =>
   obtain ⟨k,J,rfl⟩:=L x (by simp);exact ⟨k,aG (aF (Ft (aY (ak (ak rfl rfl bW) rfl (fN.trans (by rw [acZ rfl])))) (ak (ak rfl rfl bL) rfl bW))),J⟩
  | succ h =>
   obtain ⟨k,ys,J,rfl,_⟩:=L x (by simp);exact ⟨k,aG (aF (Fa (aY (ak (ak rfl rfl bW) rfl (fN.trans (by rw [VM])))) (ak (ak (ak rfl rfl bL) rfl bW) rfl bW))),J⟩
def yj:∀ {qs:ada},(∀ q∈qs,WN h (mn h) q)->∃ ps:List (K4×D),qs=ps.map Prod.snd/\∀ p∈ps,kj [p.2]=.ok (aA p.1)/\Ok p.1
 | [],_=>⟨[],rfl,fun p J=>nomatch J⟩
 | q::r,hq=>by
  obtain ⟨k,e,Y⟩:=HS (hq q (by simp)) (Lo h);obtain ⟨ps,e2,h2⟩:=yj fun x L=>hq x (lT _ L);refine ⟨(k,q)::ps,by rw [e2];rfl,fun p J=>?_⟩;rcases iN.mp J with z|z
  .rw [z];exact ⟨e,Y⟩
  .exact h2 p z
def tK (Y:∀ q∈qs,WN h (mn h) q) (hl:qs.length<=100):∃ xs,cP [.lst qs]=.ok (.lst xs)/\xs.length=qs.length/\∀ x∈xs,Tg (h+1) x:=by
 obtain ⟨ps,rfl,L⟩:=yj Y;refine ⟨ps.map fun p=>.tup [aA p.1,p.2],?_,by rw [lE,lE],fun x hx=>?_⟩
 .rw [C5,nN];exact aG (aF (fb (ju rfl rfl) (ut _ _ _ (fun p J=>bg (ac (aq (ac rfl rfl) (L p J).1) (ac rfl rfl))) (by rw [lE] at hl;lia))))
 .obtain ⟨p,J,rfl⟩:=Xi.mp hx;obtain ⟨ys,e,y1,y2,y3⟩:=Y p.2 (Xi.mpr ⟨p,J,rfl⟩);exact ⟨p.1,ys,(L p J).2,by rw [e],y1,y2,y3⟩
def Ue (J:xs.length+ys.length<=1000):oq (.tup xs) (.tup ys)=.ok (.tup (xs++ys)):=by
 cases xs with
 | nil=>rfl
 | cons x r=>exact acW ⟨rfl,by lia⟩
def Dh (J:xs.length+ys.length<=1000):cj (.lst xs) (.lst ys)=.ok (.lst (xs++ys)):=add_l.trans (acW (by lia))
def Sr (J:xs.length+ys.length<=1000):oq (.lst xs) (.lst ys)=.ok (.lst (xs++ys)):=Dh J
def UK (xs:ada) (j:Nat):qN (.lst xs) none (some (j:Int))=.ok (.lst (xs.take j)):=by rw [Qi,Ix (by lia),XN]
def UG (xs:ada) {j:Nat} {i:Int} (h:i=(j:Int)):qN (.lst xs) (some i) none=.ok (.lst (xs.drop j)):=by rw [h,Qi,Jw (by lia),XN]
def VD {β:Type} (f:β->D) (xs:List β) (j:Nat):qN (.lst (xs.map f)) none (some (j:Int))=.ok (.lst ((xs.take j).map f)):=by rw [UK,List.map_take]
def WA {β:Type} (f:β->D) (xs:List β) {j:Nat} {i:Int} (h:i=(j:Int)):qN (.lst (xs.map f)) (some i) none=.ok (.lst ((xs.drop j).map f)):=by rw [UG _ h,List.map_drop]
def EM {h lo s t:Nat} {xs ps:ada} (L:∀ x∈xs,Tg (h+1) x) (hf:∀ x∈ps,Tg (h+1) x) (hs:s<=t) (ht:t<=xs.length) (hn:lo<=s+ps.length+(xs.length - t)) (Y:s+ps.length+(xs.length - t)<=8) :
  WN (h+1) lo (.tup [.str "branch",.tup (xs.take s++ps++xs.drop t)]):=by
 refine ⟨_,rfl,?_,?_,fun x J=>?_⟩
 .rw [BY,BY,XH,Ya];lia
 .rw [BY,BY,XH,Ya];lia
 .rcases DO.mp J with J|J
  .rcases DO.mp J with J|J
   .exact L x (Y1 J)
   .exact hf x J
  .exact L x (Zv J)
def Q7 {h j:Nat} {xs zs:ada} (hp:∀ x∈xs,Tg (h+1) x) (h2:2<=xs.length) (h8:xs.length<=8) (hj:j < xs.length) (hz:zs.length<=8) (hq:∀ z∈zs,Tg h z) :
  ∃ d',oH [.lst xs,.int (j:Int),.tup [cA h,.tup zs]]=.ok d'/\WN (h+1) (xs.length - 1) d':=by
 have m1:=Lo h;rw [JC,sY];have fin1:∀ (s:Nat) (J:ada),s+2<=xs.length->(∀ y∈J,Tg h y)->mn h<=J.length->J.length<=16->∃ d',(aK (bq 5 (ao cN (ae (uI 2 0) (ae (ai 4) ap)))) (a9 (bN (ae gy (ae (ao wE (ae (aE oq (aE oq (vm qN (ai 0) fJ (dU (ai 3))) (ao cP (ae (ai 5) ap))) (vm qN (ai 0) (dU (aE oq (ai 3) Hq)) fJ)) ap)) ap))))) [some (.lst xs),some (.int (j:Int)),some (.tup [cA h,.tup zs]),some (.int (s:Int)),some (.tup J),none]=.ok (.rt d')/\WN (h+1) (xs.length - 1) d':=fun s J hs ht t1 t2=>by
  obtain ⟨qs,ec,hf⟩:=fresh (Vo J) ht t1 (by lia);have hl:=hf.l;obtain ⟨ps,ep,lp,hps⟩:=tK hf.n (by lia);refine ⟨_,(ay (aI (aq (ac (ak rfl rfl bW) (ac rfl rfl)) ec))).trans (aF (bg (ac rfl (ac (aq (ac (ak (ak (mv rfl rfl (dq rfl) (UK xs s)) (aq (ac rfl rfl) ep) (Sr (by rw [XH];lia))) (mv rfl (dq (ak (c:=.int ((s:Int)+2)) rfl rfl rfl)) rfl (UG xs (j:=s+2) (by lia))) (Sr (by rw [BY,XH,Ya];lia))) rfl) ET) rfl)))),EM hp hps (by lia) (by lia) (by lia) (by lia)⟩
 cases j with
 | zero =>
  have e1:=rW (show 1 < xs.length by lia);obtain ⟨l,ys,_,e,y1,y2,L⟩:=hp _ (XX (show 1 < xs.length by lia));rw [e] at e1;obtain ⟨d',ed,Y⟩:=fin1 0 (zs++ys) (by lia) (fun y hy=>(DO.mp hy).elim (hq y) (L y)) (by rw [BY];lia) (by rw [BY];lia);exact ⟨d',aG ((ay ((bF (aY (ak rfl rfl (vP.trans rfl)))).trans ((ay (aI rfl)).trans (aI (ak (ak rfl rfl bL) (ak (ak (ak rfl rfl (xL (cI e1))) rfl bL) rfl bL) (Ue (by lia))))))).trans ed),Y⟩
 | succ j =>
  have e1:=rW (show j < xs.length by lia);obtain ⟨l,ys,_,e,y1,y2,L⟩:=hp _ (XX (show j < xs.length by lia));rw [e] at e1;have ej:((j+1:Nat):Int) - 1=(j:Int):=by lia
  obtain ⟨d',ed,Y⟩:=fin1 j (ys++zs) (by lia) (fun y hy=>(DO.mp hy).elim (L y) (hq y)) (by rw [BY];lia) (by rw [BY];lia);exact ⟨d',aG ((ay ((uP (aY (ak rfl rfl (vP.trans (by rw [acY (by lia)]))))).trans ((ay (aI (ak rfl rfl (RC.trans (by rw [ej]))))).trans (aI (ak (ak (ak (ak rfl rfl (xL (cI e1))) rfl bL) rfl bL) (ak rfl rfl bL) (Ue (by lia))))))).trans ed),Y⟩
def WU (h1:h=0\/2<=lo):h=0\/2<=mn h:=by
 cases h with
 | zero=>exact .inl rfl
 | succ h=>exact .inr (mK _)
def vZ (hk:Ok k):∀ (h n lo:Nat) (d:D),h < n->WN h lo d->(h=0\/2<=lo)->∃ qs:ada,cJ n [d,aA k]=.ok (.lst qs)/\(∀ q∈qs,WN h (mn h) q)/\1<=qs.length/\qs.length<=3
 | _,0,_,_,hn,_,_=>absurd hn (aaw _)
 | 0,n+1,lo,d,hn,⟨xs,e,h1,h2,L⟩,hlo=>by
  subst e;obtain ⟨ks,rfl,ho⟩:=UO L;rw [lE] at h1 h2;have tA1:=Zm (fun l=>ah l k) ks;have tB1:=Zm (fun l=>ah k l) ks;have ea:cC (.one 0) (gE (ao bx (ae (ai 0) (ae (ai 1) ap)))) (ai 0) [none,some (aA k)] (ks.map aA)=.ok (.lst ((ks.filter fun l=>ah l k).map aA)) :=
   z0 aA aA _ ks (fun l hl=>cD (aq (ac rfl (ac rfl rfl)) ((ho l hl).ahead hk)) rfl) (fun _ _ _=>rfl) (by lia)
  have eb:cC (.one 0) (gE (ao bx (ae (ai 1) (ae (ai 0) ap)))) (ai 0) [none,some (aA k)] (ks.map aA)=.ok (.lst ((ks.filter fun l=>ah k l).map aA)) :=
   z0 aA aA _ ks (fun l hl=>cD (aq (ac rfl (ac rfl rfl)) (hk.ahead (ho l hl))) rfl) (fun _ _ _=>rfl) (by lia)
  have lA:((ks.filter fun l=>ah l k).map aA).length=(ks.filter fun l=>ah l k).length:=lE _;have lB:((ks.filter fun l=>ah k l).map aA).length=(ks.filter fun l=>ah k l).length:=lE _;have tA:∀ x∈(ks.filter fun l=>ah l k).map aA++[aA k]++(ks.filter fun l=>ah k l).map aA,Tg 0 x:=fun x L=>by
   rcases DO.mp L with L|L
   .rcases DO.mp L with L|L
    .obtain ⟨l,hl,rfl⟩:=Xi.mp L;exact ⟨l,ho l (YF.mp hl).1,rfl⟩
    .exact ⟨k,hk,OR.mp L⟩
   .obtain ⟨l,hl,rfl⟩:=Xi.mp L;exact ⟨l,ho l (YF.mp hl).1,rfl⟩
  generalize (ks.filter fun l=>ah l k).map aA=A at ea lA tA;generalize (ks.filter fun l=>ah k l).map aA=B at eb lB tA;have lL:(A++[aA k]++B).length=A.length+1+B.length:=by rw [BY,BY];rfl
  obtain ⟨qs,e,f⟩:=fresh (h:=0) (MO (A++[aA k]++B)) tA (by show 1<=_;lia) (by lia);have fl:=f.l;refine ⟨qs,?_,f.n,by lia,by lia⟩;rw [tq,gQ];have Y:bS (aE eY (uI 0 0) fU) [some (.tup [cA 0,.tup (ks.map aA)]),some (aA k),none,none,none,none,none]=.ok true:=aY (ak (ak rfl rfl bW) rfl (fN.trans (by rw [acZ rfl])));exact aG (bU ((bF Y).trans ((ay (aI (fb (ju (ak rfl rfl bL) rfl) ea))).trans ((ay (aI (fb (ju (ak rfl rfl bL) rfl) eb))).trans (aF (aq (ac rfl (ac (ak (ak rfl (eO (ac rfl rfl)) (Dh (by simp;lia))) rfl (Dh (by rw [BY];simp;lia))) rfl)) e))))))
 | h+1,n+1,lo,d,hn,⟨xs,e,h1,h2,L⟩,hlo=>by
  subst e;have hlo:2<=lo:=by lia
  obtain ⟨j,ej,hj⟩:=rK (c:=.lst xs) hk L wz (fun i x h=>xL (cI h)) (by lia) (by lia);have eg:=rW hj;obtain ⟨l,ys,_,e,y1,y2,y3⟩:=L _ (XX hj);rw [e] at eg;obtain ⟨qs,e1,f1,a1,b1⟩:=vZ hk h n (mn h) (.tup [cA h,.tup ys]) (by lia) ⟨ys,rfl,y1,y2,y3⟩ (WU (lo:=2) (.inr (mK _)));obtain ⟨ps,ep,lp,hps⟩:=tK f1 (by lia);have ltk:(xs.take j).length=j:=by rw [XH];lia
  have ldr:(xs.drop (j+1)).length=xs.length - (j+1):=Ya;have lL:(xs.take j++ps++xs.drop (j+1)).length=xs.length - 1+ps.length:=by rw [BY,BY,ltk,ldr];lia
  obtain ⟨rs,e,f⟩:=fresh (h:=h+1) (MO (xs.take j++ps++xs.drop (j+1))) (fun x J=>by
   rcases DO.mp J with J|J
   .rcases DO.mp J with J|J
    .exact L x (Y1 J)
    .exact hps x J
   .exact L x (Zv J)) (by show 2<=_;lia) (by lia)
  have fl:=f.l;refine ⟨rs,?_,f.n,by lia,by lia⟩;rw [tq,gQ];have Y:bS (aE eY (uI 0 0) fU) [some (.tup [cA (h+1),.tup xs]),some (aA k),none,none,none,none,none]=.ok false:=aY (ak (ak rfl rfl bW) rfl (fN.trans (by rw [VM])));exact aG ((skip Y).trans ((ay (aI (aq (ac (ak rfl rfl bL) rfl) Oa))).trans ((ay (aI (aq (ac rfl (ac rfl rfl)) ej))).trans ((ay (aI (aq (ac (ak (ak rfl rfl (xL (cI eg))) rfl bL) (ac rfl rfl)) e1))).trans (aF (aq (ac rfl (ac (ak (ak (mv rfl rfl (dq rfl) (UK xs j)) (aq (ac rfl rfl) ep) (Dh (by lia))) (mv rfl (dq (gu rfl rfl)) rfl (UG xs (j:=j+1) (by lia))) (Dh (by rw [BY];lia))) rfl)) e))))))
def sJ {k:K4} (hk:Ok k):∀ (h n lo:Nat) (d:D),h < n->WN h lo d->(h=0\/2<=lo)->∃ d',bM n [d,aA k]=.ok d'/\WN h (mn h - 1) d'
 | _,0,_,_,hn,_,_=>absurd hn (aaw _)
 | 0,n+1,lo,d,hn,⟨xs,e,h1,h2,hx⟩,Y=>by
  subst e;obtain ⟨ks,rfl,ho⟩:=UO hx;rw [lE] at h1 h2;have la:=Zm (fun l=>!PyData.eqv (xE l) (xE k)) ks;refine ⟨.tup [.str "leaf",.tup ((ks.filter fun l=>!PyData.eqv (xE l) (xE k)).map aA)],?_,_,rfl,Xk _,by rw [lE];lia,fun x hx'=>?_⟩
  .rw [pA,eN];have ea:cC (.one 0) (bS (aE sA (ai 0) (ai 1))) (ai 0) [none,some (aA k)] (ks.map aA)=.ok (.lst ((ks.filter fun l=>!PyData.eqv (xE l) (xE k)).map aA)) :=
    z0 aA aA _ ks (fun l hl=>aY (ak rfl rfl ((ho l hl).ne hk))) (fun _ _ _=>rfl) (by lia)
   have J:bS (aE eY (uI 0 0) fU) [some (.tup [cA 0,.tup (ks.map aA)]),some (aA k),none,none,none]=.ok true:=aY (ak (ak rfl rfl bW) rfl (fN.trans (by rw [acZ rfl])));exact aG (bU ((bF J).trans (aF (bg (ac rfl (ac (aq (ac (fb (ju (ak rfl rfl bL) rfl) ea) rfl) ET) rfl))))))
  .obtain ⟨l,hl,rfl⟩:=Xi.mp hx';exact ⟨l,ho l (YF.mp hl).1,rfl⟩
 | h+1,n+1,lo,d,hn,⟨xs,e,h1,h2,hx⟩,Y=>by
  subst e;have Y:2<=lo:=by lia
  obtain ⟨j,ej,hj⟩:=rK (c:=.lst xs) hk hx wz (fun i x h=>xL (cI h)) (by lia) (by lia);have eg:=rW hj;obtain ⟨l,ys,_,e,y1,y2,y3⟩:=hx _ (XX hj);rw [e] at eg;obtain ⟨d1,e1,zs,rfl,z1,z2,z3⟩:=sJ hk h n (mn h) (.tup [cA h,.tup ys]) (by lia) ⟨ys,rfl,y1,y2,y3⟩ (WU (lo:=2) (.inr (mK _)));rw [pA,eN];have J:bS (aE eY (uI 0 0) fU) [some (.tup [cA (h+1),.tup xs]),some (aA k),none,none,none]=.ok false:=aY (ak (ak rfl rfl bW) rfl (fN.trans (by rw [VM])));have L:bS (aE Lb (ao cz (ae (uI 4 1) ap)) (vC wW)) [some (.tup [cA (h+1),.tup xs]),some (aA k),some (.lst xs),some (.int (j:Int)),some (.tup [cA h,.tup zs])]=.ok (decide ((4:Int)<=(zs.length:Int))):=aY (ak (c0 (ak rfl rfl bL) sO) rfl TN);have start:=fun T:FS=>(skip (S:=a9 (bN (ae fU (ae (ao wE (ae (fv [none,some 1] (jq (uI 0 1)) (.one 0) (bS (aE sA (ai 0) (ai 1))) (ai 0)) ap)) ap)))) (T:=aK (bq 2 (ao BW (ae (uI 0 1) ap))) (aK (bq 3 (ao ce (ae (ai 2) (ae (ai 1) ap)))) (aK (bq 4 (ao (bM n) (ae (aE fA (aE fA (ai 2) (ai 3)) kJ) (ae (ai 1) ap)))) T))) J).trans
   ((ay (aI (aq (ac (ak rfl rfl bL) rfl) Oa))).trans ((ay (aI (aq (ac rfl (ac rfl rfl)) ej))).trans (ay (aI (aq (ac (ak (ak rfl rfl (xL (cI eg))) rfl bL) (ac rfl rfl)) e1)))))
  by_cases h4:4<=zs.length
  .rw [acZ (by lia)] at L;have m2:=S3 h;obtain ⟨ps,ep,lp,hps⟩:=tK (h:=h) (qs:=[.tup [cA h,.tup zs]]) (fun q L=>by rw [OR.mp L];exact ⟨zs,rfl,by lia,z2,z3⟩) (by simp);have lp:ps.length=1:=lp;exact ⟨_,aG ((start _).trans (bU ((bF L).trans (aF (bg (ac rfl (ac (aq (ac (ak (ak (mv rfl rfl (dq rfl) (UK xs j)) (aq (ac (eO (ac rfl rfl)) rfl) ep) (Dh (by rw [XH];lia))) (mv rfl (dq (gu rfl rfl)) rfl (UG xs (j:=j+1) (by lia))) (Dh (by rw [BY,XH,Ya];lia))) rfl) ET) rfl))))))),EM hx hps (by lia) (by lia) (by show 1<=_;lia) (by lia)⟩
  .rw [acY (by lia)] at L;obtain ⟨d',e2,n2⟩:=Q7 hx (by lia) h2 hj z2 z3;exact ⟨d',aG ((start _).trans ((skip L).trans (aF (aq (ac rfl (ac rfl (ac rfl rfl))) e2)))),n2.mono (by show 1<=_;lia)⟩
def Kd (L:∀ q∈qs,WN h (mn h) q) (h1:1<=qs.length) (h8:qs.length<=8):∃ h' d,h'<=h+1/\oZ [.lst qs]=.ok d/\WN h' (rt h') d:=by
 rw [J7,sd];by_cases o:qs.length=1
 .obtain ⟨q,rfl⟩:=Zg.mp o;exact ⟨h,q,by lia,aG ((ay (aI rfl)).trans ((ay (yE (aY (ak (c0 rfl wz) rfl (Lj.trans rfl))))).trans (aF (ak rfl rfl Ii)))),(L q (by simp)).mono (Hx h)⟩
 .obtain ⟨ps,ep,lp,J⟩:=tK L (by lia);obtain ⟨Y,e,f⟩:=fresh (h:=h+1) (MO ps) J (by show 2<=_;lia) (by lia);have fl:=f.l;obtain ⟨r,rfl⟩:=Zg.mp (show Y.length=1 by lia);exact ⟨h+1,r,mK _,aG ((ay (aI rfl)).trans ((ay ((wq (aY (ak (c0 rfl wz) rfl (Lj.trans (by rw [acZ (by lia)])))) (aI (aq (ac rfl (ac (aq (ac rfl rfl) ep) rfl)) e))).trans (yE (aY (ak (c0 rfl wz) rfl (Lj.trans rfl)))))).trans (aF (ak rfl rfl Ii)))),(f.n r (by simp)).mono (Hx (h+1))⟩
def WE (h:Nat):h=0\/2<=rt h:=by
 cases h with
 | zero=>exact .inl rfl
 | succ h=>exact .inr (mK _)
def DB (Y:Ok k) (J:WN h (rt h) d) (hl:h < 40):∃ h' d',h'<=h+1/\gP [d,kl k,.int k.2.2.2]=.ok d'/\WN h' (rt h') d':=by
 obtain ⟨b,L⟩:=yP Y J (by lia);obtain ⟨qs,e,f,a1,b1⟩:=vZ Y h 40 (rt h) d hl J (WE h);obtain ⟨h',d',hb,e2,n2⟩:=Kd f a1 (by lia);rw [un] at e;rw [Aw,jT];cases b with
 | true=>exact ⟨h,d,by lia,aG (bU ((bF (cD (aq (ac rfl (ac rfl (ac rfl rfl))) L) rfl)).trans (aF rfl))),J⟩
 | false=>exact ⟨h',d',hb,aG ((skip (cD (aq (ac rfl (ac rfl (ac rfl rfl))) L) rfl)).trans (aF (aq (ac (aq (ac rfl (ac (bg (ac rfl (ac rfl rfl))) rfl)) e) rfl) e2))),n2⟩
def xM (hk:Ok k) (J:WN h (rt h) d) (hl:h < 40):∃ h' d',h'<=h/\dL [d,kl k,.int k.2.2.2]=.ok d'/\WN h' (rt h') d':=by
 obtain ⟨b,hh⟩:=yP hk J (by lia);obtain ⟨q,e,xs,rfl,m1,Y,L⟩:=sJ hk h 40 (rt h) d hl J (WE h);rw [un] at e;rw [vj,fX];cases b with
 | false=>exact ⟨h,d,mK _,aG (bU ((bF (Iv (b:=false) (aq (ac rfl (ac rfl (ac rfl rfl))) hh))).trans (aF rfl))),J⟩
 | true =>
  have start:=fun T:FS=>(skip (S:=a9 (ai 0)) (T:=aK (bq 3 (ao eT (ae (ai 0) (ae (bN (ae (ai 1) (ae (ai 2) ap))) ap)))) T) (U:=[some d,some (kl k),some (.int k.2.2.2),none]) (Iv (φ:=ao gA (ae (ai 0) (ae (ai 1) (ae (ai 2) ap)))) (b:=true) (aq (ac rfl (ac rfl (ac rfl rfl))) hh))).trans (ay (aI (aq (ac rfl (ac (bg (ac rfl (ac rfl rfl))) rfl)) e)));cases h with
  | zero=>exact ⟨0,_,mK _,aG ((start _).trans ((skip (ED (aY (ak (ak rfl rfl bW) rfl (fN.trans (by rw [W4])))))).trans (aF rfl))),xs,rfl,Xk _,Y,L⟩
  | succ h =>
   have m1:1<=xs.length:=m1;have q1:bS (aE eY (uI 3 0) gy) [some d,some (kl k),some (.int k.2.2.2),some (.tup [cA (h+1),.tup xs])]=.ok true:=aY (ak (ak rfl rfl bW) rfl (fN.trans (by rw [acZ rfl])));have q2:bS (aE eY (ao cz (ae (uI 3 1) ap)) kJ) [some d,some (kl k),some (.int k.2.2.2),some (.tup [cA (h+1),.tup xs])]=.ok (decide ((xs.length:Int)=1)):=CH (c0 (ak rfl rfl bL) sO) rfl;by_cases h1:xs.length=1
   .rw [acZ (by lia)] at q2;obtain ⟨x,rfl⟩:=Zg.mp h1;obtain ⟨l,ys,_,rfl,y1,y2,y3⟩:=L x (by simp);exact ⟨h,_,by lia,aG ((start _).trans (bU ((bF (w8 q1 q2)).trans (aF (ak (ak (ak rfl rfl bL) rfl bW) rfl bL))))),ys,rfl,IF (Hx h) y1,y2,y3⟩
   .rw [acY (by lia)] at q2;exact ⟨h+1,_,mK _,aG ((start _).trans ((skip (w8 q1 q2)).trans (aF rfl))),xs,rfl,by show 2<=_;lia,Y,L⟩
def Py (k:Nat) (d:D):Prop:=∃ p,iW d=some p/\p.canLay0=true/\p.depth<=k
def Py.list:∀ {ds:ada},(∀ d∈ds,Py k d)->∃ ps,fz ds=some ps/\Zp ps=true/\ZU ps<=k/\ps.length=ds.length
 | [],_=>⟨[],rfl,rfl,Xk _,rfl⟩
 | d::r,h=>by
  obtain ⟨p,h1,h2,L⟩:=h d (by simp);obtain ⟨ps,e1,e2,e3,e4⟩:=Py.list fun x J=>h x (lT _ J);refine ⟨p::ps,?_,?_,?_,by simp [e4]⟩
  .rw [fz,h1,e1];rfl
  .rw [Zp,h2,e2];rfl
  .rw [ZU];exact Nat.max_le.mpr ⟨L,e3⟩
def Py.tup (h:∀ d∈ds,Py k d):Py (k+1) (.tup ds):=by
 obtain ⟨ps,e1,e2,e3,e4⟩:=Py.list h;exact ⟨.tuple ps,by rw [iW,e1];rfl,e2,by rw [abr];lia⟩
def Py.lst (h:∀ d∈ds,Py k d):Py (k+1) (.lst ds):=by
 obtain ⟨ps,e1,e2,e3,e4⟩:=Py.list h;exact ⟨.list ps,by rw [iW,e1];rfl,e2,by rw [abr];lia⟩
def Py.mono (h:Py k d) (J:k<=l):Py l d:=let ⟨p,a,b,c⟩:=h;⟨p,a,b,IF c J⟩
def Py.two (J:Py k a) (Y:Py k b):Py (k+1) (.tup [a,b]):=Py.tup fun d L=>by
 rcases iN.mp L with z|z
 .rw [z];exact J
 .obtain rfl:d=b:=by simpa using z
  exact Y
def Py.int (i:Int):Py 0 (.int i):=⟨.int i,rfl,rfl,mK _⟩
def Py.shaped (h1:p.canLay0=true) (h2:p.depth<=k) (J:k<=60):X1 p=true:=by
 unfold X1;rw [h1,acZ (by lia)];rfl
def Py.self (h:Py k d) (L:k<=60) (J:hV d=none):t0 d d=some true:=by
 obtain ⟨p,e1,e2,e3⟩:=h;have e:t0 d d=kA d d:=by unfold t0;rw [J]
 have s:=Py.shaped e2 e3 L;rw [e,kA,e1];dsimp only;rw [acW ⟨s,s⟩,abM _ e2]
def Py.ne (h:Py k d) (L:k<=60) (J:hV d=none):sA d d=.ok (.bl false):=by
 unfold sA;rw [h.self L J];rfl
theorem Py.eq (h:Py k d) (L:k<=60) (J:hV d=none):eY d d=.ok (.bl true):=by
 unfold eY;rw [h.self L J];rfl
def Fs {B:FS} (h:B ((U.set i (some a)).set j (some b))=.ok (.nx δ')):fc (.tup [i,j]) B (.tup [a,b]::r) U=fc (.tup [i,j]) B r δ':=by
 rw [wR,Gm,aD,DG,h,aD,EI]
def ov:D->D
 | .non=>.int 0
 | d=>d
def G1 (h:Vl 40 d):lf [d]=.ok (.tup [.int (kx d),ov d]):=by
 rw [Ba,lm];cases d with
 | non=>exact aG (bU ((bF (aY (ak rfl rfl rfl))).trans (aF (bg (ac rfl (ac rfl rfl))))))
 | int i=>exact aG ((skip (aY (ak rfl rfl rfl))).trans (aF (bg (ac (zX (aq (ac rfl rfl) (kind (d:=.int i) (h.mono (by decide)))) (Mj _ (E9 _))) (ac rfl rfl)))))
 | str z=>exact aG ((skip (aY (ak rfl rfl rfl))).trans (aF (bg (ac (zX (aq (ac rfl rfl) (kind (d:=.str z) (h.mono (by decide)))) (Mj _ (E9 _))) (ac rfl rfl)))))
 | _=>exact h.elim
def Ok.keyN (h:Ok k):keyN (dj [aA k])=some k:=by
 have e:dj [aA k]=.ok (.tup [.tup [.int (T32.kx (kl k)),ov (kl k)],.int k.2.2.2]):=by
  rw [BX,kK];exact aG (aF (bg (ac (aq (ac (ak rfl rfl (u0 k)) rfl) (G1 h.v)) (ac (ak rfl rfl (u1 k)) rfl))))
 rw [e];have J:=h.v;cases q:kl k with
 | non=>exact ac1 some (Na h q).symm
 | int i=>exact ac1 some (MS h q).symm
 | str z=>exact ac1 some (Nn h q).symm
 | _=>rw [q] at J;exact J.elim
def Og:∀ {l:List K4},(∀ k∈l,Ok k)->mP L2.keyN dj (l.map aA)=some l
 | [],_=>rfl
 | k::r,h=>by
  have J:=h k (by simp);rw [By,mP,J.e,Og fun x L=>h x (lT _ L)];dsimp only;rw [acW J.keyN]
def Mv:atI (xs++[x]) (-1)=some x:=by
 have e:MT (xs++[x]).length (-1)=some xs.length:=by
  unfold MT;rw [acX (by decide),BY,XF,acW (by lia)];congr 1;lia
 unfold atI;rw [e];show (xs++[x])[xs.length]?=some x;simp
def DE:∀ (rest acc:List K4) (o:Option D),(∀ k∈acc,Ok k)->(∀ k∈rest,Ok k)->acc.length+rest.length<=900 ->
  ∃ (J:List K4) (o':Option D),fc (.one 2) nB (rest.map aA) [some a,some (.lst (acc.map aA)),o]=.ok (.nx [some a,some (.lst (J.map aA)),o'])/\(∀ k∈J,Ok k)/\J.length<=acc.length+rest.length
 | [],acc,o,oa,_,_=>⟨acc,o,rfl,oa,by simp⟩
 | k::rest,acc,o,oa,orr,hl=>by
  have ok:=orr k (by simp);rw [Xq] at hl;have L:bS (aE eY (ai 1) (ia ap)) [some a,some (.lst (acc.map aA)),some (aA k)]=.ok (decide (acc=[])):=aY (ak rfl (eO rfl) (eq_nil oa));obtain ⟨b,hq⟩:∃ b,xN (bS (aE eY (ai 1) (ia ap))) (bS (aE sA (aE fA (ai 1) (Ld B4 kJ)) (ai 2))) [some a,some (.lst (acc.map aA)),some (aA k)]=.ok b:=by
   by_cases Y:acc=[]
   .rw [acZ Y] at L;exact ⟨_,VY L⟩
   .rw [acY Y] at L;obtain ⟨r,l,ea⟩:∃ r l,acc=r++[l]:=by
     cases hacc:acc.reverse with
     | nil=>exact absurd (List.reverse_eq_nil_iff.mp hacc) Y
     | cons l r=>exact ⟨r.reverse,l,by rw [<- List.reverse_reverse acc,hacc,List.reverse_cons]⟩
    have hix:fA (.lst (acc.map aA)) (.int (-1))=.ok (aA l):=xL (by rw [ea,Yf];exact Mv);exact ⟨_,vt L (aY (ak (ak rfl rfl hix) rfl ((oa l (by rw [ea];simp)).ne ok)))⟩
  have or2:∀ x∈rest,Ok x:=fun x hx=>orr x (lT _ hx);cases b with
  | true =>
   obtain ⟨J,o',e,p2,p3⟩:=DE (a:=a) rest (acc++[k]) (some (aA k)) (fun x hx=>by
    rcases DO.mp hx with z|z
    .exact oa x z
    .rw [OR.mp z];exact ok) or2 (by rw [BY,XF];lia)
   refine ⟨J,o',?_,p2,by rw [BY,XF] at p3;rw [Xq];lia⟩;have t:nB (aaM [some a,some (.lst (acc.map aA)),o] 2 (some (aA k)))=.ok (.nx [some a,some (.lst ((acc++[k]).map aA)),some (aA k)]):=by
    rw [Yf];exact (bF hq).trans (wL rfl rfl (by rw [lE];lia))
   rw [By,kT t];exact e
  | false =>
   obtain ⟨J,o',e,p2,p3⟩:=DE (a:=a) rest acc (some (aA k)) oa or2 (by lia);refine ⟨J,o',?_,p2,by rw [Xq];lia⟩;have t:nB (aaM [some a,some (.lst (acc.map aA)),o] 2 (some (aA k)))=.ok (.nx [some a,some (.lst (acc.map aA)),some (aA k)]):=(uP hq).trans rfl;rw [By,kT t];exact e
def CB {xs:List K4} (ho:∀ k∈xs,Ok k) (hl:xs.length<=63):∃ h d,h<=1/\jM [.lst (xs.map aA)]=.ok d/\WN h (rt h) d:=by
 have e1:wN L2.keyN dj [.lst (xs.map aA)]=.ok (.lst ((xs.mergeSort A1).map aA)):=by
  unfold wN;dsimp only;rw [acW (by rw [lE];lia),Og ho]
 have hp:=ZH xs A1;have Y:∀ k∈xs.mergeSort A1,Ok k:=fun k hk=>ho k (hp.mem_iff.mp hk);have hln:(xs.mergeSort A1).length=xs.length:=hp.length_eq;generalize xs.mergeSort A1=ss at *;obtain ⟨ks,o,e,p2,p3⟩:=DE (a:=.lst (xs.map aA)) ss [] none (fun x J=>by cases J) Y (by simp;lia);have hkl:ks.length<=xs.length:=by simpa [hln] using p3
 rw [zN,jR];have start:∀ T:FS,(aK (um 1 (ia ap)) (aK (uk (jq (ao (wN L2.keyN dj) (ae (ai 0) ap))) (.one 2) nB) T)) [some (.lst (xs.map aA)),none,none]=T [some (.lst (xs.map aA)),some (.lst (ks.map aA)),o]:=fun T =>
  (ay (pf (eO rfl))).trans (ay (rl (ju (aq (ac rfl rfl) e1) rfl) e))
 have L:bS (aE eY (ai 1) (ia ap)) [some (.lst (xs.map aA)),some (.lst (ks.map aA)),o]=.ok (decide (ks=[])):=aY (ak rfl (eO rfl) (eq_nil p2));by_cases h0:ks=[]
 .rw [acZ h0] at L;have ee:iP []=.ok (.tup [.str "leaf",.tup []]):=by
   rw [xJ,iO];exact aG (aF (bg (ac rfl (ac (bg rfl) rfl))))
  exact ⟨0,_,by lia,aG ((start _).trans (bU ((bF L).trans (aF (aq rfl ee))))),[],rfl,Xk _,Xk _,fun x J=>nomatch J⟩
 .rw [acY h0] at L;have hk1:1<=ks.length:=List.length_pos_iff.mpr h0;obtain ⟨qs,ec,f⟩:=fresh (h:=0) (MO (ks.map aA)) (fun x J=>by
   obtain ⟨k,hk,rfl⟩:=Xi.mp J;exact ⟨k,p2 k hk,rfl⟩) (by rw [lE];exact hk1) (by rw [lE];lia)
  have fl:=f.l;rw [lE] at fl;obtain ⟨h,d,hb,er,nr⟩:=Kd f.n (by lia) (by lia);exact ⟨h,d,hb,aG ((start _).trans ((skip L).trans (aF (aq (ac (aq (ac rfl (ac rfl rfl)) ec) rfl) er)))),nr⟩
def rM (c:Str×Str):D:=.tup [.str c.1,.str c.2]
def Cr (nm:Str) (J:List (Str×Str)):D:=.tup [.str nm,.tup (J.map rM)]
def qY (c:Str):List (Str×Str)->Nat
 | []=>0
 | q::r=>if q.1=c then 0 else qY c r+1
def lz:∀ {J:List (Str×Str)},c∈J.map Xo->qY c J < J.length
 | [],h=>by simp at h
 | q::r,h=>by
  unfold qY;split
  .simp
  .rename_i e;rw [By] at h;rcases iN.mp h with z|z
   .exact absurd z.symm e
   .have:=lz z;simp;omega
def Jl {B:FS} (h:B ((U.set i (some a)).set j (some b))=.ok (.rt d)):fc (.tup [i,j]) B (.tup [a,b]::r) U=.ok (.rt d):=by
 show ((jd (.tup [i,j]) (.tup [a,b]) U).bind _)=_;show ((R.ok (jC [i,j] [a,b] U)).bind _)=_;rw [aD];show ((B ((U.set i (some a)).set j (some b))).bind _)=_;rw [h];rfl
def Mt {ι:FA} {B:FS} (h:ι U=.ok xs) (hf:fc g B xs U=.ok (.rt d)):uk ι g B U=.ok (.rt d):=by rw [HH,h,aD,HC,hf]
def Eo:∀ (J:List (Str×Str)) (j:Nat) (L o3:Option D),c∈J.map Xo ->
  fc (.tup [2,3]) WM (dM j (J.map rM)) [some a,some (.str c),L,o3]=.ok (.rt (.int ((j+qY c J:Nat):Int)))
 | [],_,_,_,h=>by simp at h
 | q::r,j,L,o3,h=>by
  have t:bS (aE eY (uI 3 0) (ai 1)) [some a,some (.str c),some (.int (j:Int)),some (rM q)]=.ok (decide (q.1=c)):=aY (ak (ak rfl rfl bW) rfl fN);by_cases e:q.1=c
  .rw [acZ e] at t
   have:qY c (q::r)=0:=by unfold qY;rw [acW e]
   rw [this];exact Jl ((bF t).trans (aF rfl))
  .rw [acY e] at t;have ef:qY c (q::r)=qY c r+1:=acX e;rw [ef];rw [By] at h;have h':c∈r.map Xo:=by
    rcases iN.mp h with z|z
    .exact absurd z.symm e
    .exact z
   have Y:=Eo (a:=a) r (j+1) (some (.int (j:Int))) (some (rM q)) h';have ej:((j+(qY c r+1):Nat):Int)=((j+1+qY c r:Nat):Int):=by congr 1;omega
   rw [ej,<- Y];exact Fs ((uP t).trans rfl)
def jG (h:c∈J.map Xo):cp [Cr nm J,.str c]=.ok (.int (qY c J:Int)):=by
 have e:=Eo (a:=Cr nm J) J 0 none none h;rw [abn] at e;rw [wJ,gL];refine aG (bU (Mt ?_ e));unfold kf;rw [ac (ak rfl rfl bL) rfl,aD];rfl
abbrev tQ:=Int×ada
def bA (J:List tQ):List (bC×D):=J.map fun q=>(abO q.1,D.tup q.2)
def AZ (ids:List (Str×D)):List (bC×D):=ids.map fun q=>(ZE q.1,q.2)
def qu (nm:Str) (J:List (Str×Str)) (L:List tQ) (ids:List (Str×D)):D:=.obj "Table" [("shape",Cr nm J),("rows",.dcf (bA L)),("indexes",.dcf (AZ ids))]
def u7:vw "Table" "shape" (qu nm cs rs ids)=.ok (Cr nm cs):=by
 unfold vw qu;dsimp only;rw [acW rfl];rfl
def oz:vw "Table" "rows" (qu nm cs rs ids)=.ok (.dcf (bA rs)):=by
 unfold vw qu;dsimp only;rw [acW rfl];rfl
def E8:vw "Table" "indexes" (qu nm cs rs ids)=.ok (.dcf (AZ ids)):=by
 unfold vw qu;dsimp only;rw [acW rfl];rfl
def cf {φ:FE} (h:φ U=.ok d) (hf:vw n f d=.ok e):ic n f φ U=.ok e:=by unfold ic;rw [h,aD,hf]
def Jf {α:FA} (h:α U=.ok ds) (J:ds.length=ns.length:=by rfl):Rv n ns α U=.ok (.obj n (ns.zip ds)):=by unfold Rv;rw [h,aD];unfold JX;rw [acW J]
def BR {φ:FE} (h:φ U=.ok (.dct ds)):LM φ U=.ok (.dcf ds):=by unfold LM;rw [h];rfl
def zx {ψ:FS} (h:U[i]?=some (some (.dct ds))):Mu i ψ U=ψ (U.set i (some (.dcf ds))):=by unfold Mu;rw [h]
def GB:kX [Cr nm cs]=.ok (qu nm cs [] []):=by
 rw [A9,lq];exact aG (aF (Jf (ac rfl (ac (BR rfl) (ac (BR rfl) rfl)))))
def dh (J:List tQ) (n:Int):Option (ada):=(J.find? fun q=>decide (q.1=n)).map (·.2)
def hG (J:List tQ) (n:Int) (r:ada):List tQ:=if (dh J n).isSome=true then J.map fun q=>if q.1=n then (q.1,r) else q else J++[(n,r)]
def yB (J:List tQ) (n:Int):List tQ:=J.filter fun q=>decide (q.1≠n)
def mF (n:Int):∀ rs:List tQ,cF (bA rs) (.inl n)=(dh rs n).map D.tup
 | []=>rfl
 | q::r=>by
  by_cases e:q.1=n
  .simp [bA,cF,dh,XB,e]
  .have:=mF n r
   simp [bA,cF,dh,XB,e] at this ⊢;exact this
def Bq (n:Int) (x:ada) (J:List tQ):fw (bA J) (.inl n) (.tup x)=bA (hG J n x):=by
 unfold fw hG;rw [mF]
 have:((dh J n).map D.tup).isSome=(dh J n).isSome:=by cases dh J n <;> rfl
 rw [this];split
 .unfold bA;rw [XU,XU];apply Yh
  intro q _;by_cases e:q.1=n
  .simp [e]
  .simp [e]
 .unfold bA;rw [Yf];rfl
def vK (h:dh rs n=some x):(n,x)∈rs:=by
 unfold dh at h;cases e:rs.find? fun q=>decide (q.1=n) with
 | none=>rw [e] at h;cases h
 | some q =>
  rw [e] at h;cases h;have h1:=abo e;have h2:=ZD e
  have:q.1=n:=ac0 h1
  rw [<- this];exact h2
def yR (h:dh rs n=none):∀ q∈rs,q.1≠n:=fun q J e=>by
 unfold dh at h
 have:=ZV.mp (Option.map_eq_none_iff.mp h) q J
 exact this (acZ e)
def yA (hn:(rs.map Xo).Nodup) (h:q∈rs):dh rs q.1=some q.2:=by
 cases e:dh rs q.1 with
 | none=>exact absurd rfl (yR e q h)
 | some x =>
  have h2:=vK e
  have:∀ {l:List tQ} {a b:tQ},(l.map Xo).Nodup->a∈l->b∈l->a.1=b.1->a=b:=fun {l}=>by
   induction l with
   | nil=>intro a b _ h;cases h
   | cons c r ih =>
    intro a b J Y L ab;rw [By,XI] at J;rcases iN.mp Y with ea|Y <;> rcases iN.mp L with eb|L
    .rw [ea,eb]
    .exact absurd (Xi.mpr ⟨b,L,by rw [<- ab,ea]⟩) J.1
    .exact absurd (Xi.mpr ⟨a,Y,by rw [ab,eb]⟩) J.1
    .exact ih J.2 Y L ab
  have:=this hn h h2 rfl
  rw [this]
def Ot (v:D) (n:Int):K4:=match v with
 | .int i=>(1,i,[],n)
 | .str z=>(2,0,z.cps.toList,n)
 | _=>(0,0,[],n)
def NY (v:D) (n:Int):(Ot v n).2.2.2=n:=by unfold Ot;split <;> rfl
def Au (h:Vl 40 v):Ok (Ot v n)/\aA (Ot v n)=.tup [v,.int n]/\kl (Ot v n)=v:=by
 cases v with
 | non=>exact ⟨Ok.of rfl h,pK rfl,rfl⟩
 | int i=>exact ⟨Ok.of rfl h,pK rfl,rfl⟩
 | str z=>exact ⟨Ok.of rfl h,pK rfl,by simp [Ot,kl]⟩
 | _=>exact h.elim
structure RowOk (m:Nat) (r:ada):Prop where
 len:r.length=m
 v:∀ v∈r,Vl 40 v
def eK (p:Nat) (q:tQ):K4:=Ot (q.2.getD p .non) q.1
def RowOk.at_ (h:RowOk m r) (L:p < m):Vl 40 (r.getD p .non)/\r[p]?=some (r.getD p .non):=by
 have J:p < r.length:=by rw [h.len];exact L
 have e:r[p]?=some r[p]:=rW J
 have:r.getD p .non=r[p]:=by rw [Zu,e];rfl
 rw [this];exact ⟨h.v _ (XX J),e⟩
structure RsOk (m:Nat) (rs:List tQ):Prop where
 nd:(rs.map Xo).Nodup
 r:∀ q∈rs,RowOk m q.2
def AA (B:Nat) (d:D):Prop:=∃ h,h<=B/\WN h (rt h) d
def pV (h:RsOk m rs) (n:Int) (x:ada):(hG rs n x).Perm ((n,x)::yB rs n):=by
 unfold hG;cases e:dh rs n with
 | none =>
  rw [acX (by simp)];have hd:yB rs n=rs:=abT.mpr fun q hq=>acZ (yR e q hq);rw [hd];exact List.perm_append_comm
 | some x0 =>
  rw [acW (show (some x0).isSome=true from rfl)];have L:=vK e;have nd:=h.nd;clear h e;unfold yB;induction rs with
  | nil=>cases L
  | cons q r ih =>
   rw [By,XI] at nd;by_cases eq:q.1=n
   .have hr:∀ z∈r,z.1≠n:=fun z J ez=>nd.1 (Xi.mpr ⟨z,J,by rw [ez,eq]⟩);have e1:(r.map fun q=>if q.1=n then (q.1,x) else q)=r:=by
     conv=>rhs;rw [<- List.map_id r]
     apply Yh
     intro z J;rw [acX (hr z J)];rfl
    have e2:(r.filter fun q=>decide (q.1≠n))=r:=abT.mpr fun z J=>acZ (hr z J);rw [By,acW eq,e1,aah,acX (by simp [eq]),e2,eq]
   .rw [By,acX eq,aah,acW (by simp [eq])];have Y:(n,x0)∈r:=by
     rcases iN.mp L with z|z
     .exact absurd (ac1 Xo z).symm eq
     .exact z
    exact ((ih Y nd.2).cons q).trans (List.Perm.swap _ _ _)
def Cd (h:RsOk m rs) (n:Int):RsOk m (yB rs n) :=
 ⟨h.nd.sublist (aav.map _),fun q J=>h.r q (YF.mp J).1⟩
def Ik (L:List tQ) (n:Int):∀ q∈yB L n,q.1≠n:=fun q J=>ac0 (YF.mp J).2
def EN (h:RsOk m rs) (Y:RowOk m x):RsOk m (hG rs n x):=by
 have L:=pV h n x;refine ⟨?_,fun q J=>?_⟩
 .refine (L.map Xo).nodup_iff.mpr ?_;rw [By,XI];refine ⟨fun z=>?_,(Cd h n).nd⟩;obtain ⟨q,J,e⟩:=Xi.mp z;exact Ik rs n q J e
 .rcases iN.mp (L.mem_iff.mp J) with rfl|z
  .exact Y
  .exact (Cd h n).r q z
def Kf (h:RsOk m rs) (n:Int) (x:ada):(hG rs n x).length<=rs.length+1:=by
 rw [(pV h n x).length_eq,Xq]
 have:(yB rs n).length<=rs.length:=Zm _ _
 omega
def SL (h:RsOk m rs) (J:p < m):∀ k∈rs.map (eK p),Ok k:=fun k Y=>by
 obtain ⟨q,L,rfl⟩:=Xi.mp Y;exact (Au ((h.r q L).at_ J).1).1
def OT (hx:RowOk m x) (hp:p < m) (hB:B < 40) (hd:AA B d):∃ d',gP [d,x.getD p .non,.int n]=.ok d'/\AA (B+1) d':=by
 obtain ⟨h,hb,L⟩:=hd;obtain ⟨o,_,ev⟩:=Au (n:=n) (hx.at_ hp).1;obtain ⟨h',d',Y,e,J⟩:=DB o L (by lia);rw [ev,NY] at e;exact ⟨d',e,h',by lia,J⟩
def Nc (hx:RowOk m x) (hp:p < m) (hB:B < 40) (hd:AA B d):∃ d',dL [d,x.getD p .non,.int n]=.ok d'/\AA B d':=by
 obtain ⟨h,hb,L⟩:=hd;obtain ⟨o,_,ev⟩:=Au (n:=n) (hx.at_ hp).1;obtain ⟨h',d',Y,e,J⟩:=xM o L (by lia);rw [ev,NY] at e;exact ⟨d',e,h',by lia,J⟩
def oI (ids:List (Str×D)) (c:Str):Option D:=(ids.find? fun q=>decide (q.1=c)).map (·.2)
def vB (c:Str):∀ ids:List (Str×D),cF (AZ ids) (.inr c)=oI ids c
 | []=>rfl
 | q::r=>by
  have J:=vB c r;by_cases e:q.1=c
  .simp [AZ,cF,oI,XB,e]
  .simp [AZ,cF,oI,XB,e] at J ⊢;exact J
def wY (h:c∉ids.map Xo):oI ids c=none:=by
 unfold oI;rw [ZV.mpr fun q J z=>h (Xi.mpr ⟨q,J,ac0 z⟩)];rfl
def HX (hn:(ids.map Xo).Nodup):∀ {q:Str×D},q∈ids->oI ids q.1=some q.2:=by
 induction ids with
 | nil=>intro q h;cases h
 | cons a r J =>
  intro q h;rw [By,XI] at hn;rcases iN.mp h with rfl|h
  .simp [oI,XB]
  .have:a.1≠q.1:=fun e=>hn.1 (Xi.mpr ⟨q,h,e.symm⟩)
   have J:=J hn.2 h;simp [oI,XB,this] at J ⊢;exact J
def Eh (h:c∉ids.map Xo):fw (AZ ids) (.inr c) d=AZ (ids++[(c,d)]):=by
 unfold fw;rw [vB,wY h,acX (by simp)];unfold AZ;rw [Yf];rfl
def Ra (h:oI ids c=some d):j8 (.dcf (AZ ids)) (.str c)=.ok d:=by
 show (match cF (AZ ids) (.inr c) with|some d=>R.ok d|none=>.no)=_
 rw [vB,h]
def Fh (h:dh rs n=some x):j8 (.dcf (bA rs)) (.int n)=.ok (.tup x):=by
 show (match cF (bA rs) (.inl n) with|some d=>R.ok d|none=>.no)=_
 rw [mF,h];rfl
def LL:DC (.int n) (.dcf (bA rs))=.ok (.bl (dh rs n).isSome):=by
 show gH (some (cF (bA rs) (.inl n)).isSome) _=_;rw [mF];cases dh rs n <;> rfl
def wX:pX (.int n) (.dcf (bA rs))=.ok (.bl (!(dh rs n).isSome)):=by
 show gH (some (cF (bA rs) (.inl n)).isSome) _=_;rw [mF];cases dh rs n <;> rfl
structure TbOk (B:Nat) (cs:List (Str×Str)) (rs:List tQ) (ids:List (Str×D)):Prop where
 r:RsOk cs.length rs
 nd:(ids.map Xo).Nodup
 i:∀ q∈ids,q.1∈cs.map Xo/\AA B q.2
def Dj (h:RowOk m x) (J:p < m):fA (.tup x) (.int (p:Int))=.ok (x.getD p .non):=DX (cI (h.at_ J).2)
def xS (h:RsOk cs.length rs) (hB:B < 40) (L:c∈cs.map Xo) (Y:oI ids c=some d) (hi:AA B d) :
  ∃ d',fS [qu nm cs rs ids,.str c,.int n]=.ok d'/\AA B d':=by
 rw [vv,fR];have s1:aE j8 (ic "Table" "indexes" (ai 0)) (ai 1) [some (qu nm cs rs ids),some (.str c),some (.int n),none]=.ok d:=ak (cf rfl E8) rfl (Ra Y);cases e:dh rs n with
 | none =>
  refine ⟨d,?_,hi⟩;exact aG ((ay (aI s1)).trans (bU ((bF (aY (ak rfl (cf rfl oz) (wX.trans (by rw [e];rfl))))).trans (aF rfl))))
 | some x0 =>
  have J:RowOk cs.length x0:=h.r _ (vK e);obtain ⟨d',e1,h1⟩:=Nc (p:=qY c cs) (n:=n) J (lz L) hB hi;refine ⟨d',?_,h1⟩;exact aG ((ay (aI s1)).trans ((skip (aY (ak rfl (cf rfl oz) (wX.trans (by rw [e];rfl))))).trans (aF (aq (ac rfl (ac (ak (ak (cf rfl oz) rfl (Fh e)) (aq (ac (cf rfl u7) (ac rfl rfl)) (jG L)) (Dj J (lz L))) (ac rfl rfl))) e1))))
def vM {ψ ε:FE} (h:U[i]?=some (some (.dct kvs))) (Y:ε U=.ok d) (J:ψ U=.ok k) (L:kG k=some kk) (hl:kvs.length < 1000):u9 i ψ ε U=.ok (.nx (U.set i (some (.dct (fw kvs kk d))))):=by
 unfold u9;rw [h];show ((ε U).bind _)=_;rw [Y,aD];show ((ψ U).bind _)=_;rw [J,aD,L];dsimp only;rw [acW (by omega)]
def Fe (h:RsOk cs.length rs) (hx:RowOk cs.length x) (hB:B < 40) :
  ∀ (J acc:List (Str×D)) (o5 o6:Option D),(∀ q∈J,oI ids q.1=some q.2/\q.1∈cs.map Xo/\AA B q.2)->((acc++J).map Xo).Nodup->acc.length+J.length < 1000 ->
   ∃ (out:List (Str×D)) (Y L:Option D),fc (.one 5) VO (J.map fun q=>D.str q.1) [some (qu nm cs rs ids),some (.int n),some (.tup x),some rd,some (.dct (AZ acc)),o5,o6]=.ok (.nx [some (qu nm cs rs ids),some (.int n),some (.tup x),some rd,some (.dct (AZ (acc++out))),Y,L])/\out.map Xo=J.map Xo/\∀ q∈out,AA (B+1) q.2
 | [],acc,o5,o6,_,_,_=>⟨[],o5,o6,by rw [XY];rfl,rfl,fun q hq=>nomatch hq⟩
 | q::r,acc,o5,o6,hq,nd,hln=>by
  obtain ⟨q1,q2,q3⟩:=hq q (by simp);obtain ⟨d1,e1,i1⟩:=xS (nm:=nm) (n:=n) h hB q2 q1 q3;obtain ⟨d2,e2,i2⟩:=OT (n:=n) hx (lz q2) hB i1;have hni:q.1∉acc.map Xo:=fun z=>by
   rw [Yf,By,Zo] at nd;exact nd.2.2 _ z _ W6 rfl
  obtain ⟨out,Y,L,e,eo,hi⟩:=Fe (nm:=nm) (ids:=ids) (n:=n) (rd:=rd) h hx hB r (acc++[(q.1,d2)]) (some (.str q.1)) (some d1) (fun z hz=>hq z (lT _ hz)) (by simpa using nd) (by simp at hln ⊢;omega);refine ⟨(q.1,d2)::out,Y,L,?_,by rw [By,By,eo],fun z hz=>?_⟩
  .have t:VO (aaM [some (qu nm cs rs ids),some (.int n),some (.tup x),some rd,some (.dct (AZ acc)),o5,o6] 5 (some (.str q.1)))=.ok (.nx [some (qu nm cs rs ids),some (.int n),some (.tup x),some rd,some (.dct (AZ (acc++[(q.1,d2)]))),some (.str q.1),some d1]):=by
    rw [<- Eh hni];exact (ay (aI (aq (ac rfl (ac rfl (ac rfl rfl))) e1))).trans (vM rfl (aq (ac rfl (ac (ak rfl (aq (ac (cf rfl u7) (ac rfl rfl)) (jG q2)) (Dj hx (lz q2))) (ac rfl rfl))) e2) rfl rfl (by unfold AZ;rw [lE];omega))
   rw [By,kT t,e,Y3];rfl
  .rcases iN.mp hz with rfl|hz
   .exact i2
   .exact hi z hz
def NH {φ:FE} (h:φ U=.ok (.dcf kvs)):Em φ U=.ok (kvs.map fun q=>rG q.1):=by unfold Em;rw [h];rfl
def IQ (ids:List (Str×D)):(AZ ids).map (fun q=>rG q.1)=ids.map fun q=>D.str q.1:=by unfold AZ;rw [XU];rfl
def Dz:FP [.dcf kvs]=.ok (.dct kvs):=rfl
def Bp (h:TbOk B cs rs ids) (hx:RowOk cs.length x) (hl:rs.length<=600) (hi:ids.length<=100) (hB:B < 40) :
  ∃ ids',nW [qu nm cs rs ids,.int n,.tup x]=.ok (qu nm cs (hG rs n x) ids')/\ids'.map Xo=ids.map Xo/\TbOk (B+1) cs (hG rs n x) ids':=by
 obtain ⟨out,o5,o6,e,Y,L⟩:=Fe (nm:=nm) (ids:=ids) (n:=n) (x:=x) (rd:=.dct (bA (hG rs n x))) h.r hx hB ids [] none none (fun q J=>⟨HX h.nd J,h.i q J⟩) (by simpa using h.nd) (by simp;omega);refine ⟨out,?_,Y,EN h.r hx,by rw [Y];exact h.nd,fun q J=>⟨?_,L q J⟩⟩
 .rw [Dm,nU];refine aG ((ay (pf (aq (ac (cf rfl oz) rfl) Dz))).trans ((ay (vM rfl rfl rfl rfl (by unfold bA;rw [lE];omega))).trans ?_));rw [Bq];refine (ay (pf rfl)).trans ((ay (rl ((NH (cf rfl E8)).trans (by rw [IQ])) e)).trans ?_);rw [abq];refine (zx rfl).trans ((zx rfl).trans (aF (Jf (ac (cf rfl u7) (ac rfl (ac rfl rfl))))))
 .have:q.1∈ids.map Xo:=by rw [<- Y];exact Xi.mpr ⟨q,J,rfl⟩
  obtain ⟨z,hz,ez⟩:=Xi.mp this;rw [<- ez];exact (h.i z hz).1
def map_two {β:Type} {ε:FE} {rest:Sd} (u v f:β->D) (xs:List β) (h:∀ x∈xs,ε (some (u x)::some (v x)::rest)=.ok (f x)) (Y:xs.length<=1000):cC (.tup [0,1]) n9 ε (none::none::rest) (xs.map fun x=>D.tup [u x,v x])=.ok (.lst (xs.map f)):=by
 refine Ap rfl (by rw [lE];omega) ?_;clear Y;induction xs with
 | nil=>rfl
 | cons x r L =>
  have h1:=h x (by simp);have J:=L (fun y hy=>h y (lT _ hy));show (ε (some (u x)::some (v x)::rest)).bind _=_;rw [h1,aD,J];rfl
def JF {φ:FE} (h:φ U=.ok (.dcf kvs)):zK φ U=.ok (kvs.map fun q=>D.tup [rG q.1,q.2]):=by unfold zK;rw [h];rfl
def CU (J:List tQ):(bA J).map (fun q=>D.tup [rG q.1,q.2])=J.map fun q=>D.tup [.int q.1,.tup q.2]:=by unfold bA;rw [XU];rfl
def Dt (h:RsOk cs.length rs) (hl:rs.length<=600) (J:c∈cs.map Xo):jH [qu nm cs rs ids,.str c]=.ok (.lst ((rs.map (eK (qY c cs))).map aA)):=by
 rw [zA,jI,XU];refine aG ((ay (aI (aq (ac (cf rfl u7) (ac rfl rfl)) (jG J)))).trans (aF (fb ((JF (cf rfl oz)).trans (by rw [CU])) (map_two (fun q:tQ=>D.int q.1) (fun q=>D.tup q.2) _ rs (fun q L=>?_) (by omega)))));have Y:=(h.r q L).at_ (lz J)
 have:=(Au (n:=q.1) Y.1).2.1
 show _=R.ok (aA (Ot (q.2.getD (qY c cs) .non) q.1));rw [this];exact bg (ac (ak rfl rfl (Dj (h.r q L) (lz J))) (ac rfl rfl))
def D5 (h:TbOk B cs rs ids) (hB:1<=B) (hl:rs.length<=63) (hi:ids.length<=100) (L:c∈cs.map Xo) (hn:c∉ids.map Xo) :
  ∃ d,jL [qu nm cs rs ids,.str c]=.ok (qu nm cs rs (ids++[(c,d)]))/\TbOk B cs rs (ids++[(c,d)]):=by
 obtain ⟨hh,d,Y,e,hN⟩:=CB (xs:=rs.map (eK (qY c cs))) (SL h.r (lz L)) (by rw [lE];exact hl);refine ⟨d,?_,h.r,?_,fun q hq=>?_⟩
 .rw [zp,jW];refine aG ((ay (pf (aq (ac (cf rfl E8) rfl) Dz))).trans ((ay (vM rfl (aq (ac (aq (ac rfl (ac rfl rfl)) (Dt h.r (IF hl (by decide)) L)) rfl) e) rfl rfl (by unfold AZ;rw [lE];omega))).trans ?_));rw [Eh hn];exact (zx rfl).trans (aF (Jf (ac (cf rfl u7) (ac (cf rfl oz) (ac rfl rfl)))))
 .rw [Yf,Zo];refine ⟨h.nd,by simp,fun a ha b Y J=>?_⟩;obtain rfl:b=c:=by simpa using Y
  exact hn (J ▸ ha)
 .rcases DO.mp hq with z|z
  .exact h.i q z
  .obtain rfl:q=(c,d):=by simpa using z
   exact ⟨L,hh,IF Y hB,hN⟩
def mm (z:Str):Prop:=∀ c∈z.cps.toList,c∈tab
def Py.str (h:mm z):Py 0 (.str z):=⟨.str z,rfl,WT z h,mK _⟩
structure ShOk (nm:Str) (cs:List (Str×Str)):Prop where
 nm:mm nm
 c:∀ q∈cs,mm q.1/\mm q.2
def RO (h:ShOk nm cs):Py 3 (Cr nm cs):=by
 refine Py.two ((Py.str h.nm).mono (by omega)) (Py.tup fun d L=>?_);obtain ⟨q,J,rfl⟩:=Xi.mp L;exact (Py.two (Py.str (h.c q J).1) (Py.str (h.c q J).2))
def Ur (h:Vl 40 v):Py 0 v:=⟨TK v,Kq h,(Ij h).1,by rw [(Ij h).2];exact mK _⟩
def KI (h:RowOk m r):Py 1 (.tup r):=Py.tup fun d J=>Ur (h.v d J)
def GU (h:Py k d) (J:k<=30):uT d d=some true:=by
 obtain ⟨p,e1,e2,e3⟩:=h;have s:=Py.shaped e2 e3 (by omega);unfold uT;rw [e1];dsimp only;rw [acW ⟨s,by omega,s⟩,abM _ e2]
def yI:∀ {J:List (bC×D)},(∀ q∈J,cF kb q.1=some q.2/\uT q.2 q.2=some true)->qG kb J=some true
 | [],_=>rfl
 | (k,d)::r,h=>by
  obtain ⟨h1,h2⟩:=h (k,d) (by simp);have h1:cF kb k=some d:=h1;have h2:uT d d=some true:=h2;unfold qG;rw [h1];dsimp only;rw [h2,yI fun q L=>h q (lT _ L)];rfl
def EX:∀ ss:ac3,Hs false (ss.map D.str)=some (ss.map fun z=>(0,z.cps.toList))
 | []=>rfl
 | z::r=>by
  rw [By,By];show (if false=false then (Hs false (r.map D.str)).map ((0,z.cps.toList)::·) else none)=_;rw [acW rfl,EX r];rfl
def J8 {ss:ac3} (hl:ss.length<=63) (Y:∀ z∈ss,mm z):∃ L:ada,Jx (ss.map D.str)=.ok (.lst L)/\∀ d∈L,Py 0 d:=by
 cases ss with
 | nil=>exact ⟨[],by simp [Jx,Hs],fun d J=>nomatch J⟩
 | cons z r =>
  refine ⟨(((z::r).map fun z=>((0,z.cps.toList):K2)).mergeSort wB).map (ww false),?_,fun d J=>?_⟩
  .unfold Jx;have h1:Hs true ((z::r).map D.str)=none:=rfl;rw [acW (by rw [lE];omega),h1];dsimp only;rw [EX]
  .obtain ⟨k,hk,rfl⟩:=Xi.mp J;obtain ⟨y,hy,rfl⟩:=Xi.mp ((ZH _ _).mem_iff.mp hk)
   have:ww false (0,y.cps.toList)=.str y:=by simp [ww]
   rw [this];exact Py.str (Y y hy)
abbrev WQ:Str:=XD "abcdefghijklmnopqrstuvwxyz"
def al:ac2:=WQ.cps.toList
def O5:al.length=26:=by trivial
def BO (i:Int):Nat:=al.getD (i % 26).toNat 0
def Oj (i:Int):al[(i % 26).toNat]?=some (BO i):=by
 have J:(i % 26).toNat < al.length:=by rw [O5];lia
 unfold BO;rw [Zu,rW J];rfl
def NS (i:Int):atI WQ.cps.toList (i % 26)=some (BO i):=by
 have h:=cI (xs:=al) (Oj i);rw [show (((i % 26).toNat:Nat):Int)=i % 26 by lia] at h;exact h
def Jj (i:Int):BO (i+7)≠BO i:=by
 have J:∀ j < 26,al.getD ((j+7) % 26) 0≠al.getD j 0:=by trivial
 have:((i+7) % 26).toNat=((i % 26).toNat+7) % 26:=by lia
 unfold BO;rw [this];exact J _ (by lia)
def ws:ac3:=["and","by","down","from","none","not","or","order","show","take"]
def Rr:List (ac2):=(ws++([("where":Str)]:ac3)).map fun z=>z.cps.toList
def LN:∀ a∈Rr,∀ b∈Rr,∀ i < 6,(a.take i=b.take i/\a.drop (i+1)=b.drop (i+1)/\i < a.length/\i < b.length)->a=b:=by trivial
def Mo (h1:a++s::b∈Rr) (h2:a++t::b∈Rr):s=t:=by
 have J:∀ w∈Rr,w.length < 6:=by trivial
 have:=J _ h1
 have e:=LN _ h1 _ h2 a.length (by simp at this;lia) ⟨by simp,by simp [List.drop_append],by simp,by simp⟩;simpa using e
def Er (z:Str):Bool:=!decide (z="where")&&!Ho (.str z) (ws.map V.str)
def Iz (h:Er z=false):z.cps.toList∈Rr:=by
 unfold Er at h;by_cases e:z="where"
 .rw [e];decide +kernel
 .rw [acY e] at h;have h:Ho (.str z) (ws.map V.str)=true:=by simpa using h
  unfold Ho at h;rw [List.any_map,List.any_eq_true] at h;obtain ⟨y,J,e⟩:=h;have e:(y==z)=true:=e;rw [beq_iff_eq] at e;rw [<- e];exact Xi.mpr ⟨y,Xf _ J,rfl⟩
def rN (a b:Str):(a++b).cps.toList=a.cps.toList++b.cps.toList:=by
 show (a.cps++b.cps).toList=_;simp
def Nz (a b:Str):(a++b).length=a.length+b.length:=by
 rw [str_len,str_len,str_len,rN,BY]
def Fi (h:c∈(oC z lo hi).cps.toList):c∈z.cps.toList:=by
 unfold oC at h;exact Zv (Y1 (by simpa using h))
def ff (z:Str) (p c:Int) (k:Nat):Str:=oC z none (some p)++(⟨#[BO (c/1638+7*(k:Int))]⟩:Str)++oC z (some (p+1)) none
theorem Ki (z:Str) (p c:Int) (k:Nat):(ff z p c k).cps.toList=(oC z none (some p)).cps.toList++BO (c/1638+7*(k:Int))::(oC z (some (p+1)) none).cps.toList:=by
 unfold ff;rw [rN,rN];simp
def KG (h:Er (ff z p c k)=false):Er (ff z p c (k+1))=true:=by
 cases e:Er (ff z p c (k+1)) with
 | true=>rfl
 | false =>
  have h1:=Iz h;have h2:=Iz e;rw [Ki] at h1 h2;have J:=Mo h2 h1;rw [show c/1638+7*(((k+1:Nat):Int))=(c/1638+7*(k:Int))+7 by push_cast;lia] at J;exact absurd J (Jj _)
abbrev KC (c:Int) (m z4:D) (z:Str) (p:Int) (fs:ac3) (k:Nat) (J Y L:Option D):Sd:=[some (.int c),some m,some z4,some (.str z),some (.int p),some (.lst (fs.map D.str)),some (.int (k:Int)),J,Y,L]
def HG (hz:z.length<=8) (fs:ac3) (k:Nat) (hf:fs.length < 100) (Y L J:Option D):∃ p7 p8 p9,NB (KC c m z4 z p fs k Y L J)=.ok (.nx (KC c m z4 z p (if Er (ff z p c k)=true then fs++[ff z p c k] else fs) (k+1) p7 p8 p9)):=by
 have l1:=se z none (some p);have l2:=se z (some (p+1)) none;have l3:(⟨#[BO (c/1638+7*(k:Int))]⟩:Str).length=1:=rfl;refine ⟨some (.str ⟨#[BO (c/1638+7*(k:Int))]⟩),some (.str (ff z p c k)),some (.lst (ws.map D.str)),?_⟩;have e7:bq 7 (aE fA (vC (.str "abcdefghijklmnopqrstuvwxyz")) (aE iC (aE cj (aE lR (ai 0) (vC (.int 1638))) (aE oF LO (ai 6))) (vC (.int 26)))) (KC c m z4 z p fs k Y L J)=.ok (.nx (KC c m z4 z p fs k (some (.str ⟨#[BO (c/1638+7*(k:Int))]⟩)) L J)) :=
  aI (ak rfl (gm (gu (jw rfl rfl) (ak rfl rfl (IB (by decide)))) rfl) (RX (by trivial) (NS _)))
 have e8:bq 8 (aE cj (aE cj (vm qN (ai 3) fJ (dU (ai 4))) (ai 7)) (vm qN (ai 3) (dU (aE cj (ai 4) kJ)) fJ)) (KC c m z4 z p fs k (some (.str ⟨#[BO (c/1638+7*(k:Int))]⟩)) L J)=.ok (.nx (KC c m z4 z p fs k (some (.str ⟨#[BO (c/1638+7*(k:Int))]⟩)) (some (.str (ff z p c k))) J)) :=
  aI (ak (ak (mv rfl rfl (dq rfl) (Ub.trans (acW (by lia)))) rfl (NO.trans (acW (by lia)))) (mv rfl (dq (gu rfl rfl)) rfl (Ub.trans (acW (by lia)))) (NO.trans (acW (by rw [Nz];lia))))
 refine (ay e7).trans ((ay e8).trans ((ay (aI (eO (ac rfl (ac rfl (ac rfl (ac rfl (ac rfl (ac rfl (ac rfl (ac rfl (ac rfl (ac rfl rfl))))))))))))).trans ?_));have q:(wH (bS (aE sA (ai 8) (vC (.str "where")))) (bS (aE ux (ai 8) (ai 9)))) (KC c m z4 z p fs k (some (.str ⟨#[BO (c/1638+7*(k:Int))]⟩)) (some (.str (ff z p c k))) (some (.lst (ws.map D.str))))=.ok (Er (ff z p c k)):=by
  unfold Er;by_cases e:ff z p c k="where"
  .refine (ED (aY (ak rfl rfl (JD.trans (by rw [acZ e];rfl))))).trans ?_;rw [acZ e];rfl
  .refine (w8 (aY (ak rfl rfl (JD.trans (by rw [acY e];rfl)))) (aY (ak rfl rfl rfl))).trans ?_;rw [acY e];rfl
 cases e:Er (ff z p c k) with
 | true =>
  rw [e] at q;rw [acW rfl];refine (ay ((bF q).trans (wL rfl rfl (by rw [lE];lia)))).trans ((aI (gu rfl rfl)).trans ?_);show R.ok (Fl.nx [_,_,_,_,_,some (D.lst (fs.map D.str++[D.str (ff z p c k)])),_,_,_,_])=_;rw [show fs.map D.str++[D.str (ff z p c k)]=(fs++[ff z p c k]).map D.str by simp];rfl
 | false =>
  rw [e] at q;rw [acX nE];exact (ay ((uP q).trans rfl)).trans ((aI (gu rfl rfl)).trans rfl)
def zj (hz:z.length<=8) (hm:m<=8):∀ (r f:Nat) (ks:ac2) (k:Nat) (L o8 Y:Option D),ks.length+r=m->2*r < f->k<=2*ks.length->ks.Pairwise (· < ·)->(∀ j∈ks,j < k/\Er (ff z p c j)=true) ->
  ∃ (J:ac2) (k':Nat) (p7 p8 p9:Option D),dr NT NB f (KC c (.int (m:Int)) z4 z p (ks.map (ff z p c)) k L o8 Y)=.ok (.nx (KC c (.int (m:Int)) z4 z p (J.map (ff z p c)) k' p7 p8 p9))/\J.length=m/\J.Pairwise (· < ·)/\∀ j∈J,j < 2*m/\Er (ff z p c j)=true
 | 0,f+1,ks,k,L,o8,Y,e,_,h1,h2,h3=>⟨ks,k,L,o8,Y,yE (aY (ak (c0 rfl (Cb _ _)) rfl (xT.trans (by rw [lE,acY (by lia)])))),e,h2,fun j hj=>⟨by have:=(h3 j hj).1;lia,(h3 j hj).2⟩⟩
 | r+1,f+2,ks,k,L,o8,Y,e,hf,h1,h2,h3=>by
  have q:NT (KC c (.int (m:Int)) z4 z p (ks.map (ff z p c)) k L o8 Y)=.ok true:=aY (ak (c0 rfl (Cb _ _)) rfl (xT.trans (by rw [lE,acZ (by lia)])));obtain ⟨p7,p8,p9,t⟩:=HG (c:=c) (p:=p) (m:=.int (m:Int)) (z4:=z4) hz (ks.map (ff z p c)) k (by rw [lE];lia) L o8 Y;rw [wq q t];have pw:∀ n,(∀ j∈ks,j < n)->(ks++[n]).Pairwise (· < ·):=fun n hn=>Zw.mpr ⟨h2,Zb _ _,fun a ha b hb=>by rw [OR.mp hb];exact hn a ha⟩;cases ho:Er (ff z p c k) with
  | true =>
   rw [acW rfl,show ks.map (ff z p c)++[ff z p c k]=(ks++[k]).map (ff z p c) by simp];exact zj hz hm r (f+1) (ks++[k]) (k+1) p7 p8 p9 (by simp;lia) (by lia) (by simp;lia) (pw k fun j hj=>(h3 j hj).1) fun j hj=>by
    rcases DO.mp hj with g|g
    .exact ⟨Y5 (h3 j g).1,(h3 j g).2⟩
    .rw [OR.mp g];exact ⟨Ze _,ho⟩
  | false =>
   rw [acX nE];have q:NT (KC c (.int (m:Int)) z4 z p (ks.map (ff z p c)) (k+1) p7 p8 p9)=.ok true:=aY (ak (c0 rfl (Cb _ _)) rfl (xT.trans (by rw [lE,acZ (by lia)])));obtain ⟨r7,r8,r9,t⟩:=HG (c:=c) (p:=p) (m:=.int (m:Int)) (z4:=z4) hz (ks.map (ff z p c)) (k+1) (by rw [lE];lia) p7 p8 p9;rw [wq q t,acW (KG ho),show ks.map (ff z p c)++[ff z p c (k+1)]=(ks++[k+1]).map (ff z p c) by simp];exact zj hz hm r f (ks++[k+1]) (k+1+1) r7 r8 r9 (by simp;lia) (by lia) (by simp;lia) (pw (k+1) fun j hj=>Y5 (h3 j hj).1) fun j hj=>by
    rcases DO.mp hj with g|g
    .exact ⟨by have:=(h3 j g).1;lia,(h3 j g).2⟩
    .rw [OR.mp g];exact ⟨Ze _,KG ho⟩
def Ug {α:FA} {g:Str->ada->R D} (h:α U=.ok ds) (hj:g z ds=r):UR g (vC (.str z)) α U=r:=by
 rw [Vz];show (Wk g _ _ (.str z))=_;rw [V7,h,aD,hj]
def Qe (f:Nat->Nat) (n:Nat) (hn:n<=1000):∃ z:Str,yz "" [.lst ((YN n).map fun (k:Nat)=>D.str ⟨#[f k]⟩)]=.ok (.str z)/\z.cps.toList=(YN n).map f:=by
 have J:((YN n).map fun (k:Nat)=>(⟨#[f k]⟩:Str))=(((YN n).map f).map fun c=>(⟨#[c]⟩:Str)):=by rw [XU];rfl
 have L:(XD "").length=0:=by trivial
 refine ⟨_,QW (z:="") (strs_map (fun (k:Nat)=>(⟨#[f k]⟩:Str)) (YN n)) (by rw [J,FQ,L,lE,lE,YO];lia),?_⟩;rw [J,DY]
structure NmOk (y:Str):Prop where
 l0:1<=y.length
 l1:y.length<=8
 al:∀ c∈y.cps.toList,c∈al
 ok:Er y=true
def Pa:∀ c∈al,c∈tab:=by trivial
def NmOk.tx (h:NmOk y):mm y:=fun c J=>Pa c (h.al c J)
def P4:∀ a < 26,∀ d < 26,0 < d->al.getD ((a+7*d) % 26) 0≠al.getD a 0:=by trivial
def R9 (h:i < j) (hj:j < 26):ff z p c i≠ff z p c j:=fun e=>by
 have e:=ac1 (fun y:Str=>y.cps.toList) e;simp only [Ki,List.append_cancel_left_eq,acN] at e;obtain ⟨e,_⟩:=e;have k:=P4 ((c/1638+7*(i:Int)) % 26).toNat (by lia) (j - i) (by lia) (by lia);unfold BO at e;rw [show ((c/1638+7*(j:Int)) % 26).toNat=(((c/1638+7*(i:Int)) % 26).toNat+7*(j - i)) % 26 by lia] at e;exact k e.symm
def SF (h:0<=p):(oC z none (some p)).cps.toList.length=min p.toNat z.length:=by
 unfold oC;simp [HT.sIx,str_len];lia
def T5 (h:0<=p):(oC z (some (p+1)) none).cps.toList.length=z.length - (p.toNat+1):=by
 unfold oC;simp [HT.sIx,str_len];lia
def MG (c:Int) (m:Nat) (hm:m<=8):∃ ns:ac3,qf [.int c,.int (m:Int)]=.ok (.lst (ns.map D.str))/\ns.length=m/\ns.Nodup/\∀ y∈ns,NmOk y:=by
 rw [GC,qa];obtain ⟨n,en,hn,hn0⟩:∃ n:Nat,2+c % 7=(n:Int)/\n<=8/\0 < n:=⟨(2+c % 7).toNat,by lia,by lia,by lia⟩;obtain ⟨z,ez,Y⟩:=Qe (fun k=>BO (c/7+5*(0+(k:Int)))) n (by lia);have hz:z.length<=8:=by rw [str_len,Y,lE,YO];exact hn
 have ha:∀ i,BO i∈al:=fun i=>Yx (Oj i);have hk:∀ d∈z.cps.toList,d∈al:=fun d J=>by
  rw [Y] at J;obtain ⟨k,_,rfl⟩:=Xi.mp J;exact ha _
 have e2:bq 2 (aE cj Hq (aE iC (ai 0) LO)) [some (.int c),some (.int (m:Int)),none,none,none,none,none,none,none,none]=.ok (.nx [some (.int c),some (.int (m:Int)),some (.int (n:Int)),none,none,none,none,none,none,none]) :=
  (aI (gu rfl (gm rfl rfl))).trans (by rw [en];rfl)
 have e3:bq 3 NR [some (.int c),some (.int (m:Int)),some (.int (n:Int)),none,none,none,none,none,none,none]=.ok (.nx [some (.int c),some (.int (m:Int)),some (.int (n:Int)),some (.str z),none,none,none,none,none,none]):=by
  refine aI (Ug (ac (fb (JM (n:=n) rfl (by lia)) (ut _ _ _ (fun k hk=>?_) (by rw [YO];lia))) rfl) ez);exact ak rfl (gm (gu (jw rfl rfl) (ak rfl rfl (IB (by decide)))) rfl) (RX (by trivial) (NS _))
 obtain ⟨ks,k',p7,p8,p9,e,h1,h2,h3⟩:=zj (c:=c) (p:=c/182 % (n:Int)) (m:=m) (z4:=.int (n:Int)) hz hm m 1000 [] 0 none none none (by simp) (by lia) (by simp) Z1 (fun y L=>nomatch L)
 refine ⟨ks.map (ff z (c/182 % (n:Int)) c),aG ((ay e2).trans ((ay e3).trans ((ay (aI (gm (jw rfl rfl) rfl (by lia)))).trans ((ay (pf (eO rfl))).trans ((ay (aI rfl)).trans ((ay e).trans (aF rfl))))))),by rw [lE,h1],?_,fun y L=>?_⟩
 .rw [List.nodup_iff_pairwise_ne,Z2];exact h2.imp_of_mem fun {a b} _ hb g=>R9 g (by have:=(h3 b hb).1;lia)
 .obtain ⟨k,hk',rfl⟩:=Xi.mp L;have l1:=se z none (some (c/182 % (n:Int)));have l2:=se z (some (c/182 % (n:Int)+1)) none;have tl:=Ki z (c/182 % (n:Int)) c k;refine ⟨by rw [str_len,tl];simp;lia,?_,fun d J=>?_,(h3 k hk').2⟩
  .have b0:0<=c/182 % (n:Int):=abu _ (by lia);have b1:c/182 % (n:Int) < (n:Int):=Int.emod_lt_of_pos _ (by lia);have zl:z.length=n:=by rw [str_len,Y,lE,YO]
   rw [str_len,tl,BY,Xq,SF b0,T5 b0,zl];lia
  .rw [tl] at J;rcases DO.mp J with q|q
   .exact hk d (Fi q)
   .rcases iN.mp q with q|q
    .rw [q];exact ha _
    .exact hk d (Fi q)
theorem Kv (a b:Nat):(([a]:ac2) < [b]) ↔ a < b:=by
 constructor
 .intro h;cases h with
  | rel h=>exact h
  | cons h=>cases h
 .exact fun h=>List.Lex.rel h
def RT:∀ c∈al,97<=c/\c<=122:=by trivial
def Tv (c:Nat) (h:97<=c):Lb (.str ⟨#[c]⟩) (.str "a")=.ok (.bl true):=by
 have e1:(XD "a").cps.toList=[97]:=by trivial
 rw [Vy,e1];show R.ok (D.bl _)=_;simp only [Kv];simp [h]
def T9 (c:Nat) (h:c<=122):L5 (.str ⟨#[c]⟩) (.str "z")=.ok (.bl true):=by
 have e1:(XD "z").cps.toList=[122]:=by trivial
 rw [Vj,e1];show R.ok (D.bl _)=_;simp only [Kv];simp [h]
def yw (h:c∈al):jg [.str ⟨#[c]⟩]=.ok (.bl true):=by
 rw [Bc,lj];obtain ⟨h1,h2⟩:=RT c h;exact aG (aF (js (ak rfl rfl (Tv c h1)) (ak rfl rfl (T9 c h2))))
def Ri {β:Type} {ε:FE} {rest:Sd} {u:β->D} {xs:List β} (h:∀ x∈xs,ε (some (u x)::rest)=.ok (.bl true)) (J:xs.length<=1000) {d:D} (L:cC (.one 0) n9 ε (none::rest) (xs.map u)=.ok d):zu [d]=.ok (.bl true):=by
 rw [ut u (fun _=>D.bl true) xs h J] at L;cases L;rw [NX (Ff (fun _=>true) xs)];congr 2;induction xs with
 | nil=>rfl
 | cons x r Y=>exact Y (fun y hy=>h y (lT _ hy)) (by rw [Xq] at J;lia)
def Lw {y:Str} (h:NmOk y):mB [.str y]=.ok (.bl true):=by
 rw [Hn,p0];have hl:=h.l1;have l0:=h.l0;have ne:¬ y="":=fun e=>by
  rw [e] at l0;exact absurd l0 (by trivial)
 have Y:=ut (ε:=ao jg (ae (ai 0) ap)) (rest:=[]) (fun c:Nat=>D.str ⟨#[c]⟩) (fun _=>D.bl true) y.cps.toList (fun c J=>aq (ac rfl rfl) (yw (h.al c J))) (by rw [<- str_len];lia);have q1:bS (aE eY (ai 0) (vC (.str ""))) [some (.str y)]=.ok false:=aY (ak rfl rfl (fN.trans (by rw [acY ne])));have q2:bS (aE Qb (ao cz (ae (ai 0) ap)) (vC kC)) [some (.str y)]=.ok false:=aY (ak (c0 rfl (Sn.trans (acW (by lia)))) rfl (Lj.trans (by rw [acY (by lia)])));have ni:ux (.str y) n8=.ok (.bl true):=by
  have:ux (.str y) n8=.ok (.bl (!Ho (.str y) ((ws++[("where":Str)]).map V.str))):=rfl
  rw [this];have L:=h.ok;unfold Er at L;rw [Xe] at L;obtain ⟨k1,k2⟩:=L;unfold Ho at k2 ⊢;rw [Yf,List.any_append];have k1:¬ y="where":=by simpa using k1
  have k2:((ws.map V.str).any fun z=>L2.eqV z (.str y))=false:=by simpa using k2
  rw [k2]
  have:([("where":Str)].map V.str).any (fun z=>L2.eqV z (.str y))=false:=by
   show ((XD "where"==y)||false)=false;rw [Bool.or_false,beq_eq_false_iff_ne];exact fun e=>k1 e.symm
  rw [this];rfl
 exact aG ((skip (vt (om (cD (li rfl (B8.trans (sw (by trivial)))) rfl)) (vt q1 q2))).trans (aF (js (aq (ac (fb (ju rfl LC) Y) rfl) (Ri (fun c J=>aq (ac rfl rfl) (yw (h.al c J))) (by rw [<- str_len];lia) Y)) (ak rfl rfl ni))))
def bQ:List (Str×Str):=[("a","number"),("b","text")]
def LF:lY [.tup (bQ.map rM)]=.ok (.bl true):=by kernel_rfl
def MV:mh [.tup [a,b]]=.ok (.bl true):=by
 rw [GG,qb];exact aG (aF (js (li rfl (KO.trans (sw (by trivial)))) (ak (c0 rfl sO) rfl (vP.trans (by rw [acZ (by rfl)])))))
def Hu (h:NmOk y):nP [Cr y bQ]=.ok (.bl true):=by
 rw [DK,nZ];exact aG (aF (js (aq (ac rfl rfl) MV) (js (aq (ac (ak rfl rfl bW) rfl) (Lw h)) (aq (ac (ak rfl rfl bL) rfl) LF))))
def rj (J:1<=n) (h1:n<=1000000000):dW [.int n]=.ok (.bl true):=by
 rw [vk,fZ];exact aG (aF (js (li rfl (y6.trans (sw (by trivial)))) (js (Mc (b:=false) (li rfl (y6.trans (sw (by trivial))))) (js (ak rfl rfl (TN.trans (by rw [acZ J]))) (ak rfl rfl (Wn.trans (by rw [acZ h1])))))))
def La (k:Nat):Str:=⟨(Zx k 120).toArray⟩
def Gj (J:0<=a) (h1:a < 1000000000000000000):nO [.int a]=.ok (.bl true):=by
 rw [Cv,nQ];have q:(wH (gE (ao jV (ae (ai 0) (ae (vC (.ty "int")) ap)))) (j6 (gE (ao jV (ae (ai 0) (ae (vC (.ty "bool")) ap)))))) [some (.int a)]=.ok true :=
  w8 (cD (li rfl (y6.trans (sw (b:=true) (by trivial)))) rfl) (RE (cD (li rfl (y6.trans (sw (b:=false) (by trivial)))) rfl))
 exact aG ((skip (cD (li rfl (y6.trans (sw (b:=false) (by trivial)))) rfl)).trans (bU ((bF q).trans (aF (ak (aq (ac rfl rfl) T3) R1 (xT.trans (by rw [acX (by lia),acZ h1])))))))
def JP (J:0<=a) (h1:a < 1000000000000000000):gx [.int a,.str "number"]=.ok (.bl true):=by
 rw [B3,lr];exact aG (aF (N3 (ak rfl rfl rfl) (js (aq (ac rfl rfl) (Gj J h1)) (ak (aq (ac rfl rfl) (kind (d:=.int a) Yw)) rfl (fN.trans (by rw [acZ (by rfl)]))))))
def QG (h:k < 4):gx [.str (La k),.str "text"]=.ok (.bl true):=by
 rcases (show k=0\/k=1\/k=2\/k=3 by lia) with rfl|rfl|rfl|rfl <;> kernel_rfl
def dX (a:Int) (k:Nat):ada:=[.int a,.str (La k)]
def N6:∀ c∈(La k).cps.toList,c∈tab:=fun c J=>by
 have:c=120:=by
  unfold La at J;simp at J;exact J.2
 rw [this];decide +kernel
def QP (h:k < 4):RowOk bQ.length (dX a k):=⟨rfl,fun v J=>by
 unfold dX at J;simp only [iN,W7,or_false] at J;rcases J with rfl|rfl
 .exact Yw
 .refine ⟨?_,N6⟩;unfold La;rw [str_len];simp;lia⟩
def HE (Y:0<=a) (h1:a < 1000000000000000000) (h:k < 4):xj [Cr y bQ,.tup (dX a k)]=.ok (.bl true):=by
 rw [Qz,Ae];have ec:cC (.tup [0,1]) n9 (ao gx (ae (ai 0) (ae (uI 1 1) ap))) [none,none] [.tup [.int a,rM ("a","number")],.tup [.str (La k),rM ("b","text")]]=.ok (.lst [.bl true,.bl true]):=by
  refine map_two (rest:=[]) (β:=D×(Str×Str)) (fun q=>q.1) (fun q=>rM q.2) (fun _=>D.bl true) [(.int a,("a","number")),(.str (La k),("b","text"))] (fun q J=>?_) (by simp);simp only [iN,W7,or_false] at J;rcases J with rfl|rfl
  .exact aq (ac rfl (ac (ak rfl rfl bL) rfl)) (JP Y h1)
  .exact aq (ac rfl (ac (ak rfl rfl bL) rfl)) (QG h)
 have q2:bS (aE sA (ao cz (ae (ai 1) ap)) (ao cz (ae (ai 2) ap))) [some (Cr y bQ),some (.tup (dX a k)),some (.tup (bQ.map rM))]=.ok false:=aY (ak (c0 rfl sO) (c0 rfl sO) rfl);have L:MH (ae (ai 1) (ae (ai 2) ap)) [some (Cr y bQ),some (.tup (dX a k)),some (.tup (bQ.map rM))]=.ok [.tup [.int a,rM ("a","number")],.tup [.str (La k),rM ("b","text")]]:=by
  rw [SU,ac rfl (ac rfl rfl),aD];exact UB (d:=.tup (dX a k)) (e:=.tup (bQ.map rM)) (xs:=dX a k) (ys:=bQ.map rM) rfl rfl
 exact aG ((ay (aI (ak rfl rfl bL))).trans ((skip (vt (om (cD (li rfl (KO.trans (sw (b:=true) (by trivial)))) rfl)) q2)).trans (aF (aq (ac (fb L ec) rfl) (NX (xs:=[.bl true,.bl true]) (bs:=[true,true]) rfl)))))
def dD {F:ada->R D} (h:F ds=.ok d):cR F ds=.ok d:=by
 unfold cR;rw [h];rfl
def nK (J:kvs.length < 1000):fe [.dcf kvs,.str n,d]=.ok (.dcf (fw kvs (.inr n) d)):=by
 rw [zC,jS];exact aG ((ay (pf (aq (ac rfl rfl) Dz))).trans ((ay (vM rfl rfl rfl rfl J)).trans ((zx rfl).trans (aF rfl))))
def OB (h:cF kvs (.inr n)=some d):j8 (.dcf kvs) (.str n)=.ok d:=by
 show (match cF kvs (.inr n) with|some d=>R.ok d|none=>.no)=_
 rw [h]
def OG:pX (.str n) (.dcf kvs)=.ok (.bl (!(cF kvs (.inr n)).isSome)):=rfl
def Oe:DC (.str n) (.dcf kvs)=.ok (.bl (cF kvs (.inr n)).isSome):=rfl
def si (h:cF kvs (.inr n)=some d):iB [.dcf kvs,.str n]=.ok d:=by
 rw [CD,nD];exact aG ((skip (vt (om (cD (li rfl (B8.trans (sw (b:=true) (by trivial)))) rfl)) (aY (ak rfl rfl (OG.trans (by rw [h];rfl)))))).trans (aF (ak rfl rfl (OB h))))
def CC (h:NmOk y) (hn:cF kvs (.inr y)=none) (J:kvs.length < 1000):cq [.dcf kvs,Cr y bQ]=.ok (.dcf (fw kvs (.inr y) (qu y bQ [] []))):=by
 rw [rh,dC];exact aG ((skip (om (cD (aq (ac rfl rfl) (Hu h)) rfl))).trans ((skip (aY (ak (ak rfl rfl bW) rfl (Oe.trans (by rw [hn];rfl))))).trans (aF (aq (ac rfl (ac (ak rfl rfl bW) (ac (aq (ac rfl rfl) GB) rfl))) (nK J)))))
def Kw (hv:cF kvs (.inr y)=some (qu y bQ rs ids)) (h:TbOk B bQ rs ids) (hr:rs.length<=600) (hi:ids.length<=100) (Y:kvs.length < 1000) (hB:B < 40) (L:1<=n) (n1:n<=1000000000) (h0:0<=a) (h1:a < 1000000000000000000) (J:k < 4) :
  ∃ ids',de [.dcf kvs,.str y,.int n,.tup (dX a k)]=.ok (.dcf (fw kvs (.inr y) (qu y bQ (hG rs n (dX a k)) ids')))/\ids'.map Xo=ids.map Xo/\TbOk (B+1) bQ (hG rs n (dX a k)) ids':=by
 obtain ⟨ids',e,e1,e2⟩:=Bp (nm:=y) (n:=n) h (QP (a:=a) J) hr hi hB;refine ⟨ids',?_,e1,e2⟩;rw [ms,dc];exact aG ((ay (aI (aq (ac rfl (ac rfl rfl)) (si hv)))).trans ((skip (om (cD (aq (ac rfl rfl) (rj L n1)) rfl))).trans ((skip (om (cD (aq (ac (cf rfl u7) (ac rfl rfl)) (HE h0 h1 J)) rfl))).trans (aF (aq (ac rfl (ac rfl (ac (aq (ac rfl (ac rfl (ac rfl rfl))) e) rfl))) (nK Y))))))
def LR (Y:cF kvs (.inr y)=some (qu y bQ rs ids)) (h:TbOk B bQ rs ids) (hB:1<=B) (hr:rs.length<=63) (hi:ids.length<=100) (L:kvs.length < 1000) (J:c∈bQ.map Xo) (hn:c∉ids.map Xo) :
  ∃ d,cw [.dcf kvs,.str y,.str c]=.ok (.dcf (fw kvs (.inr y) (qu y bQ rs (ids++[(c,d)]))))/\TbOk B bQ rs (ids++[(c,d)]):=by
 obtain ⟨d,e,e2⟩:=D5 (nm:=y) h hB hr hi J hn;refine ⟨d,?_,e2⟩;rw [rq,dt];exact aG ((ay (aI (aq (ac rfl (ac rfl rfl)) (si Y)))).trans ((skip (vt (om (cD (li rfl (B8.trans (sw (b:=true) (by trivial)))) rfl)) (aY (ak (aq (ac (cf rfl u7) (ac rfl rfl)) (jG J)) rfl rfl)))).trans ((skip (aY (ak rfl (cf rfl E8) (Oe.trans (by rw [vB,wY hn];rfl))))).trans (aF (aq (ac rfl (ac rfl (ac (aq (ac rfl (ac rfl rfl)) e) rfl))) (nK L))))))
def vA (J:MP (gU.map (·.1)) "FORMS" (.str w) (.cls "FORMS")=.ok (.bl false)) (L:Rs gU (.str w)=.ok (.int ((r.length+1:Nat):Int))):j1 [.tup (.str w::r)]=.ok (.str w):=by
 rw [F5,p5];have q1:bS (aE eY (ao cz (ae (ai 0) ap)) uc) [some (.tup (.str w::r))]=.ok false:=aY (ak (c0 rfl sO) rfl (vP.trans (by rw [acY (by simp;lia)])));have q2:bS (aE sA (ao cz (ae (ai 0) ap)) (Ld (Rs gU) (uI 0 0))) [some (.tup (.str w::r))]=.ok false:=by
  refine aY (ak (c0 rfl sO) (show (aE fA (ai 0) uc [some (.tup (.str w::r))]).bind (Rs gU)=.ok _ from ?_) (RZ.trans (by rw [acZ (show ((D.str w::r).length:Int)=((r.length+1:Nat):Int) by simp)];rfl)));rw [ak (c:=.str w) rfl rfl bW,aD,L]
 exact aG ((skip (vt (om (cD (li rfl (KO.trans (sw (b:=true) (by trivial)))) rfl)) (vt q1 (om (cD (li (ak rfl rfl bW) (B8.trans (sw (b:=true) (by trivial)))) rfl))))).trans ((skip (vt (aY (ak (ak rfl rfl bW) rfl J)) q2)).trans (aF (ak rfl rfl bW))))
def GQ (h:U[2]?=some (some (.str a))) (hn:¬ a=b):bS (aE eY (ai 2) (vC (.str b))) U=.ok false:=aY (ak (by rw [v_var,h];rfl) rfl (fN.trans (by rw [acY hn])))
def QC (h:U[2]?=some (some (.str a))):bS (aE eY (ai 2) (vC (.str a))) U=.ok true:=aY (ak (by rw [v_var,h];rfl) rfl (fN.trans (by rw [acZ rfl])))
def Ip (h:cq [st,sh]=.ok d):bv [st,.tup [.str "table",sh]]=.ok d:=by
 rw [l9,gw];exact aG ((ay (aI (aq (ac rfl rfl) (vA (by kernel_rfl) (by kernel_rfl))))).trans (bU ((bF (QC rfl)).trans (aF (aq (ac rfl (ac (ak rfl rfl bL) rfl)) (dD h))))))
def Kg (h:cw [st,a,b]=.ok d):bv [st,.tup [.str "index",a,b]]=.ok d:=by
 rw [l9,gw];exact aG ((ay (aI (aq (ac rfl rfl) (vA (by kernel_rfl) (by kernel_rfl))))).trans ((skip (GQ rfl (by trivial))).trans (bU ((bF (QC rfl)).trans (aF (aq (ac rfl (ac (ak rfl rfl bL) (ac (ak rfl rfl wv) rfl))) (dD h)))))))
def Hv (h:de [st,a,b,c]=.ok d):bv [st,.tup [.str "put",a,b,c]]=.ok d:=by
 rw [l9,gw];exact aG ((ay (aI (aq (ac rfl rfl) (vA (by kernel_rfl) (by kernel_rfl))))).trans ((skip (GQ rfl (by trivial))).trans ((skip (GQ rfl (by trivial))).trans (bU ((bF (QC rfl)).trans (aF (aq (ac rfl (ac (ak rfl rfl bL) (ac (ak rfl rfl wv) (ac (ak rfl rfl Oq) rfl)))) (dD h))))))))
inductive Ch where
 | tab (y:Str)
 | ix (y c:Str)
 | put (y:Str) (n a:Int) (k:Nat)
def bX:Ch->D
 | .tab y=>.tup [.str "table",Cr y bQ]
 | .ix y c=>.tup [.str "index",.str y,.str c]
 | .put y n a k=>.tup [.str "put",.str y,.int n,.tup (dX a k)]
def Sy:Ch->D
 | .tab y=>.tup [.str "table",.str y]
 | .ix y c=>.tup [.str "index",.str y,.str c]
 | .put y n _ _=>.tup [.str "row",.str y,.int n]
def eq_0 {x:D} {r:ada} {a b:Str} (h:¬ a=b):bS (aE eY (uI 0 0) (vC (.str b))) [some (.tup (.str a::r))]=.ok false:=aY (ak (ak rfl rfl bW) rfl (fN.trans (by rw [acY h])))
def eq_1 {r:ada} {a:Str}:bS (aE eY (uI 0 0) (vC (.str a))) [some (.tup (.str a::r))]=.ok true:=aY (ak (ak rfl rfl bW) rfl (fN.trans (by rw [acZ rfl])))
def rf (x:Ch):sC [bX x]=.ok (Sy x):=by
 rw [IJ,sy];cases x with
 | tab y=>exact aG (bU ((bF eq_1).trans (aF (bg (ac rfl (ac (ak (ak rfl rfl bL) rfl bW) rfl))))))
 | ix y c=>exact aG ((skip (eq_0 (x:=.non) (by trivial))).trans (bU ((bF eq_1).trans (aF rfl))))
 | put y n a k=>exact aG ((skip (eq_0 (x:=.non) (by trivial))).trans ((skip (eq_0 (x:=.non) (by trivial))).trans (aF (bg (ac rfl (ac (ak rfl rfl bL) (ac (ak rfl rfl wv) rfl)))))))
def R7 (x:Ch):vz [bX x]=.ok (Sy x):=by
 rw [M1,vH];cases x with
 | tab y=>exact aG (bU ((bF eq_1).trans (aF (bg (ac rfl (ac (ak (ak rfl rfl bL) rfl bW) rfl))))))
 | ix y c=>exact aG ((skip (eq_0 (x:=.non) (by trivial))).trans (bU ((bF eq_1).trans (aF (bg (ac rfl (ac (ak rfl rfl bL) (ac (ak rfl rfl wv) rfl))))))))
 | put y n a k=>exact aG ((skip (eq_0 (x:=.non) (by trivial))).trans ((skip (eq_0 (x:=.non) (by trivial))).trans (aF (bg (ac rfl (ac (ak rfl rfl bL) (ac (ak rfl rfl wv) rfl)))))))
abbrev Tb:Type:=Str×List tQ×List (Str×D)
def NA (q:Tb):D:=qu q.1 bQ q.2.1 q.2.2
def gC (s:List Tb):List (bC×D):=s.map fun q=>(ZE q.1,NA q)
def cH (s:List Tb) (y:Str):Option Tb:=s.find? fun q=>decide (q.1=y)
def oP (y:Str):∀ s:List Tb,cF (gC s) (.inr y)=(cH s y).map NA
 | []=>rfl
 | q::r=>by
  have J:=oP y r;by_cases h:q.1=y
  .have e:cH (q::r) y=some q:=by unfold cH;rw [List.find?_cons_of_pos (by simpa using h)]
   rw [e];unfold gC cF;rw [By];simp [h]
  .have e:cH (q::r) y=cH r y:=by unfold cH;rw [List.find?_cons_of_neg (by simpa using h)]
   rw [e,<- J];unfold gC cF;rw [By];simp [h]
def sS (s:List Tb) (q:Tb):List Tb:=if (cH s q.1).isSome=true then s.map fun r=>if r.1=q.1 then q else r else s++[q]
def zB (q:Tb) (s:List Tb):fw (gC s) (.inr q.1) (NA q)=gC (sS s q):=by
 unfold fw sS;rw [oP]
 have:((cH s q.1).map NA).isSome=(cH s q.1).isSome:=by cases cH s q.1 <;> rfl
 rw [this];split
 .unfold gC;rw [XU,XU];apply Yh
  intro r _;by_cases e:r.1=q.1
  .simp [e]
  .simp [e]
 .unfold gC;rw [Yf];rfl
def Az (s:List Tb):(gC s).length=s.length:=by unfold gC;rw [lE]
def Nl (h:cH s y=some q):q∈s/\q.1=y:=by
 unfold cH at h;have h1:=abo h;exact ⟨ZD h,ac0 h1⟩
def Rk (e:cH s y=some (y,rs,ids)) (h:TbOk B bQ rs ids) (hr:rs.length<=600) (hi:ids.length<=100) (L:s.length < 1000) (hB:B < 40) (J:1<=n) (n1:n<=1000000000) (h0:0<=a) (h1:a < 1000000000000000000) (hk:k < 4) :
  ∃ ids',bv [.dcf (gC s),bX (.put y n a k)]=.ok (.dcf (gC (sS s (y,hG rs n (dX a k),ids'))))/\ids'.map Xo=ids.map Xo/\TbOk (B+1) bQ (hG rs n (dX a k)) ids':=by
 have Y:cF (gC s) (.inr y)=some (qu y bQ rs ids):=by rw [oP,e];rfl
 obtain ⟨ids',e1,e2,e3⟩:=Kw (n:=n) (a:=a) (k:=k) Y h hr hi (by rw [Az];exact L) hB J n1 h0 h1 hk;refine ⟨ids',(Hv e1).trans ?_,e2,e3⟩;rw [<- zB (y,hG rs n (dX a k),ids')];rfl
def Tl (e:cH s y=some (y,rs,ids)) (h:TbOk B bQ rs ids) (hB:1<=B) (hr:rs.length<=63) (hi:ids.length<=100) (J:s.length < 1000) (L:c∈bQ.map Xo) (hn:c∉ids.map Xo) :
  ∃ d,bv [.dcf (gC s),bX (.ix y c)]=.ok (.dcf (gC (sS s (y,rs,ids++[(c,d)]))))/\TbOk B bQ rs (ids++[(c,d)]):=by
 have Y:cF (gC s) (.inr y)=some (qu y bQ rs ids):=by rw [oP,e];rfl
 obtain ⟨d,e1,e2⟩:=LR Y h hB hr hi (by rw [Az];exact J) L hn;refine ⟨d,(Kg e1).trans ?_,e2⟩;rw [<- zB (y,rs,ids++[(c,d)])];rfl
def Q2 (h:NmOk y) (e:cH s y=none) (J:s.length < 1000):bv [.dcf (gC s),bX (.tab y)]=.ok (.dcf (gC (s++[(y,[],[])]))):=by
 refine (Ip (CC h (by rw [oP,e];rfl) (by rw [Az];exact J))).trans ?_
 have:=zB (y,[],[]) s
 have e2:sS s (y,[],[])=s++[(y,[],[])]:=by unfold sS;rw [e];rfl
 rw [e2] at this;rw [<- this];rfl
inductive Go:List Tb->List Ch->List Tb->Prop where
 | nil (s:List Tb):Go s [] s
 | cons {s s1 s2:List Tb} {x:Ch} {xs:List Ch}:bv [.dcf (gC s),bX x]=.ok (.dcf (gC s1))->Go s1 xs s2->Go s (x::xs) s2
def Go.app (h:Go s xs s1) (g:Go s1 ys s2):Go s (xs++ys) s2:=by
 induction h with
 | nil=>exact g
 | cons e _ J=>exact .cons e (J g)
def Ny (h:Go s xs s'):∀ o3:Option D,∃ J,fc (.one 3) (bq 2 (ao bv (ae (ai 2) (ae (ai 3) ap)))) (xs.map bX) [some a,some b,some (.dcf (gC s)),o3]=.ok (.nx [some a,some b,some (.dcf (gC s')),J]):=by
 induction h with
 | nil s=>exact fun o3=>⟨o3,rfl⟩
 | cons e _ L =>
  rename_i s s1 s2 x xs _;intro o3;obtain ⟨o,Y⟩:=L (some (bX x));refine ⟨o,?_⟩;have t:bq 2 (ao bv (ae (ai 2) (ae (ai 3) ap))) (aaM [some a,some b,some (.dcf (gC s)),o3] 3 (some (bX x)))=.ok (.nx [some a,some b,some (.dcf (gC s1)),some (bX x)]):=aI (aq (ac rfl (ac rfl rfl)) e);rw [By,kT t];exact Y
def vd (h:Go s xs s'):bt [.dcf (gC s),.lst (xs.map bX)]=.ok (.dcf (gC s')):=by
 rw [qM,fO];obtain ⟨o,e⟩:=Ny (a:=.dcf (gC s)) (b:=.lst (xs.map bX)) h none;exact aG ((ay (aI rfl)).trans ((ay (rl (ju rfl rfl) e)).trans (aF rfl)))
def RD (h:j1 [d]=.er x):bv [st,d]=.er x:=by
 rw [l9,gw,BA,Jd,aq (ac rfl rfl) h];rfl
def MX:D:=.tup [.int 1,.str "x"]
def rL (y:Str):ada:=[.tup [.str "tables",.tup [.str y,.tup [.tup [.str "a",.str "text"]]]],.tup [.str "put",.str y,.int 5],.tup [.str "put",.str y,.int 5,MX,MX],
 .tup [.str "index",.str y],.lst [.str "put",.str y,.int 5,MX],.str "put",.non,.tup [.str "drop",.str y],
 .tup [.str "table"],.tup [],.tup [.str "row",.str y,.int 5],.int 7,.tup [.non,.str y]]
def Ks (y:Str):∀ d∈rL y,j1 [d]=.er "BadChange":=by
 intro d J;unfold rL at J;simp only [iN,W7,or_false] at J;rcases J with rfl|rfl|rfl|rfl|rfl|rfl|rfl|rfl|rfl|rfl|rfl|rfl|rfl <;> kernel_rfl
def Q9 {B:FS} (h:B (U.set i (some x))=.er e):fc (.one i) B (x::r) U=.er e:=by
 rw [wR];have e1:jd (.one i) x U=.ok (U.set i (some x)):=rfl;rw [e1,aD,DG,h];rfl
def Ms {a b d:D} {rest:ada} {e:Str} {s s':List Tb} {xs:List Ch} (h:Go s xs s') (J:bv [.dcf (gC s'),d]=.er e):∀ o3:Option D,fc (.one 3) Rq (xs.map bX++d::rest) [some a,some b,some (.dcf (gC s)),o3]=.er e:=by
 induction h with
 | nil s =>
  intro o3;have t:Rq (aaM [some a,some b,some (.dcf (gC s)),o3] 3 (some d))=.er e:=by
   rw [Rq,Jd,aq (ac rfl (ac rfl rfl)) J];rfl
  exact Q9 t
 | cons e1 _ L =>
  rename_i s s1 Y x xs _;intro o3;have t:Rq (aaM [some a,some b,some (.dcf (gC s)),o3] 3 (some (bX x)))=.ok (.nx [some a,some b,some (.dcf (gC s1)),some (bX x)]):=aI (aq (ac rfl (ac rfl rfl)) e1);rw [By,List.cons_append,kT t];exact L J (some (bX x))
def IC {d:D} {rest:ada} {e:Str} {s s':List Tb} {xs:List Ch} (h:Go s xs s') (J:bv [.dcf (gC s'),d]=.er e):bt [.dcf (gC s),.lst (xs.map bX++d::rest)]=.er e:=by
 rw [qM,fO];have l:=Ms (a:=.dcf (gC s)) (b:=.lst (xs.map bX++d::rest)) (rest:=rest) h J none;rw [ay (aI rfl),BA,HH,ju (d:=.lst (xs.map bX++d::rest)) rfl rfl,aD,HC];show fin ((fc (.one 3) Rq (xs.map bX++d::rest) [some (.dcf (gC s)),some (.lst (xs.map bX++d::rest)),some (.dcf (gC s)),none]).bind _)=_;rw [l];rfl
def Pf (J:1<=n) (h1:n<=1000000000) (hn:dh rs n=none):cG [qu y bQ rs ids,.int n]=.er "NoRow":=by
 rw [vn,fT,bF (vt (om (cD (aq (ac rfl rfl) (dD (rj J h1))) rfl)) (aY (ak rfl (cf rfl oz) (wX.trans (by rw [hn];rfl)))))];rfl
def Lh (e:cH s y=some (y,rs,ids)) (L:1<=n) (h1:n<=1000000000) (hn:dh rs n=none):bv [.dcf (gC s),.tup [.str "drop",.str y,.int n]]=.er "NoRow":=by
 have J:cF (gC s) (.inr y)=some (qu y bQ rs ids):=by rw [oP,e];rfl
 have hw:cV [.dcf (gC s),.str y,.int n]=.er "NoRow":=by
  rw [qx,cT,ay (aI (aq (ac rfl (ac rfl rfl)) (dD (si J)))),BA]
  have:A5 (ao cG (ae (ai 3) (ae (ai 2) ap))) [some (.dcf (gC s)),some (.str y),some (.int n),some (qu y bQ rs ids)]=.er "NoRow":=by
   unfold A5;rw [aq (ac rfl (ac rfl rfl)) (Pf L h1 hn)];rfl
  show fin ((A5 (ao cG (ae (ai 3) (ae (ai 2) ap))) [some (.dcf (gC s)),some (.str y),some (.int n),some (qu y bQ rs ids)]).bind _)=_;rw [this];rfl
 rw [l9,gw,ay (aI (aq (ac rfl rfl) (vA (by kernel_rfl) (by kernel_rfl)))),skip (GQ rfl (by trivial)),skip (GQ rfl (by trivial)),skip (GQ rfl (by trivial)),NP,aq (ac rfl (ac (ak rfl rfl bL) (ac (ak rfl rfl wv) rfl))) hw];rfl
def UI:Ch->Str
 | .tab y=>y
 | .ix y _=>y
 | .put y _ _ _=>y
def P6 (J:ac3):Ch->Prop
 | .tab _=>False
 | .ix y c=>y∈J/\c∈bQ.map Xo
 | .put y n a k=>y∈J/\1<=n/\n<=40/\0<=a/\a < 100/\k < 4
structure Cs (ns:ac3) (ys:List Ch):Prop where
 v:∀ x∈ys,P6 ns x
 u:ys.Pairwise fun x x'=>∀ y c,x=.ix y c->x'≠.ix y c
def Gn (h:(z.cps.toList.all fun c=>decide (c∈tab))=true):mm z:=fun c J=>ac0 (XW.mp h c J)
def Uc (h:mm y):ShOk y bQ:=⟨h,fun q J=>by
 unfold bQ at J;simp only [iN,W7,or_false] at J;rcases J with rfl|rfl <;> exact ⟨Gn (by trivial),Gn (by trivial)⟩⟩
def Vc:mm (La k):=N6
def Nv:Py 1 (.tup (dX a k)):=Py.two (Py.int a) (Py.str Vc)
def py4 (ha:Py k a) (hb:Py k b) (L:Py k c) (Y:Py k d):Py (k+1) (.tup [a,b,c,d]):=Py.tup fun x J=>by
 simp only [iN,W7,or_false] at J;rcases J with rfl|rfl|rfl|rfl <;> assumption
def Ru (ha:Py k a) (Y:Py k b) (L:Py k c):Py (k+1) (.tup [a,b,c]):=Py.tup fun x J=>by
 simp only [iN,W7,or_false] at J;rcases J with rfl|rfl|rfl <;> assumption
def n5 (h:(z.cps.toList.all fun c=>decide (c∈tab))=true) (k:Nat):Py k (.str z):=(Py.str (Gn h)).mono (Xk _)
def Bj (J:mm (UI x)) (L:∀ y c,x=.ix y c->c∈bQ.map Xo):Py 4 (bX x):=by
 cases x with
 | tab y=>exact Py.two (n5 (by trivial) 3) (RO (Uc J))
 | ix y c =>
  have:mm c:=by
   have:=L y c rfl
   simp only [bQ,By,abk,iN,W7,or_false] at this;rcases this with rfl|rfl <;> exact Gn (by trivial)
  exact (Ru (n5 (by trivial) 0) (Py.str J) (Py.str this)).mono (by decide)
 | put y n a k=>exact (py4 (n5 (by trivial) 1) ((Py.str J).mono (by decide)) ((Py.int n).mono (by decide)) Nv).mono (by decide)
def HA:∀ {ds:ada},(∀ d∈ds,Py 20 d)->∃ ps b,fz ds=some ps/\iI p ps=some b/\∀ d∈ds,iW d=some p->b=true
 | [],_=>⟨[],false,rfl,rfl,fun d Y=>nomatch Y⟩
 | d::r,h=>by
  obtain ⟨q,h1,h2,L⟩:=h d (by simp);obtain ⟨ps,b,e1,e2,e3⟩:=HA (p:=p) (ds:=r) fun x J=>h x (lT _ J);refine ⟨q::ps,Y4 q p||b,by rw [fz,h1,e1];rfl,?_,fun x J ex=>?_⟩
  .rw [iI,acW ⟨Py.shaped h2 L (by decide),IF L (by decide)⟩,e2];rfl
  .rcases iN.mp J with rfl|J
   .rw [h1] at ex;cases ex;rw [abM _ h2];rfl
   .rw [e3 x J ex,Bool.or_true]
def QF {x:Ch} {xs:List Ch} (h:∀ z∈xs,Py 4 (bX z)) (hx:Py 4 (bX x)):∃ b,jQ (bX x) (.lst (xs.map bX))=.ok (.bl b)/\(b=true->x∉xs):=by
 obtain ⟨p,p1,p2,p3⟩:=hx;obtain ⟨ps,b,e1,e2,e3⟩:=HA (p:=p) (ds:=xs.map bX) fun d L=>by
  obtain ⟨z,Y,rfl⟩:=Xi.mp L;exact (h z Y).mono (by decide)
 refine ⟨!b,?_,fun J hm=>?_⟩
 .have:NJ (bX x) (.lst (xs.map bX))=some b:=by
   show lW (bX x) (xs.map bX)=some b;unfold lW;rw [p1,e1];dsimp only;rw [acW (Py.shaped p2 p3 (by decide)),e2]
  unfold jQ;rw [this];rfl
 .rw [e3 (bX x) (Xi.mpr ⟨x,hm,rfl⟩) p1] at J;cases J
def vp (j:Nat) (x:Int):Int:=(x+31*(j:Int))*48271 % 1000003
def HQ (i:Int):Str:=if i=0 then "a" else "b"
def Q6 (m:Int):fA (.str "ab") (.int (m/15 % 2))=.ok (.str (HQ (m/15 % 2))):=by
 rcases (show m/15 % 2=0\/m/15 % 2=1 by lia) with e|e <;> rw [e] <;> kernel_rfl
def Jk (i:Int):HQ i∈bQ.map Xo:=by unfold HQ;split <;> decide +kernel
def M7 (m:Int):oF (.str "x") (.int (m % 4))=.ok (.str (La (m % 4).toNat)):=by
 rcases (show m % 4=0\/m % 4=1\/m % 4=2\/m % 4=3 by lia) with e|e|e|e <;> rw [e] <;> kernel_rfl
abbrev AY (N S Q:D) (xs:List Ch) (L o5 o6 J:Option D):Sd:=[some N,some S,some Q,some (.lst (xs.map bX)),L,o5,o6,J]
def NG {J:ac3} {S Q:D} (hn:∀ y∈J,NmOk y) (hl:J.length=3) (j:Nat) (x:Int) (L ys:List Ch) (ht:∀ z∈L,Py 4 (bX z)) (hy:Cs J ys) (hz:(L++ys).length < 900) (o6 o7:Option D) :
  ∃ y o6' o7',Us (AY (.lst (J.map D.str)) S Q (L++ys) (some (.int (j:Int))) (some (.int x)) o6 o7)=.ok (.nx (AY (.lst (J.map D.str)) S Q (L++(ys++[y])) (some (.int (j:Int))) (some (.int x)) o6' o7'))/\Cs J (ys++[y]):=by
 have hk:(vp j x % 3).toNat < J.length:=by rw [hl];lia
 have hnm:fA (.lst (J.map D.str)) (.int (vp j x % 3))=.ok (.str J[(vp j x % 3).toNat]):=by
  have:=xO D.str J (rW hk)
  rwa [show (((vp j x % 3).toNat:Nat):Int)=vp j x % 3 by lia] at this
 have hm:J[(vp j x % 3).toNat]∈J:=XX hk;generalize J[(vp j x % 3).toNat]=y at hnm hm;have s6:bq 6 (aE iC (aE oF (aE cj (ai 5) (aE oF (vC (.int 31)) (ai 4))) (vC (.int 48271))) (vC (.int 1000003))) (AY (.lst (J.map D.str)) S Q (L++ys) (some (.int (j:Int))) (some (.int x)) o6 o7)=.ok (.nx (AY (.lst (J.map D.str)) S Q (L++ys) (some (.int (j:Int))) (some (.int x)) (some (.int (vp j x))) o7)):=aI (gm (zy (gu rfl (ak rfl rfl (IB (by decide)))) rfl) rfl);have s7:bq 7 (aE fA (ai 0) (aE iC (ai 6) QX)) (AY (.lst (J.map D.str)) S Q (L++ys) (some (.int (j:Int))) (some (.int x)) (some (.int (vp j x))) o7)=.ok (.nx (AY (.lst (J.map D.str)) S Q (L++ys) (some (.int (j:Int))) (some (.int x)) (some (.int (vp j x))) (some (.str y)))):=aI (ak rfl (gm rfl rfl) hnm);have hb:0<=vp j x:=abu _ (by decide);generalize vp j x=m at s6 s7 hb;have hix:Wg (AY (.lst (J.map D.str)) S Q (L++ys) (some (.int (j:Int))) (some (.int x)) (some (.int m)) (some (.str y)))=.ok (bX (.ix y (HQ (m/15 % 2)))):=bg (ac rfl (ac rfl (ac (ak rfl (gm (jw rfl rfl) rfl) (Q6 m)) rfl)));have hpu:Ti (AY (.lst (J.map D.str)) S Q (L++ys) (some (.int (j:Int))) (some (.int x)) (some (.int m)) (some (.str y)))=.ok (bX (.put y (1+m/15 % 40) (m/600 % 100) (m % 4).toNat)) :=
  bg (ac rfl (ac rfl (ac (gu rfl (gm (jw rfl rfl) rfl)) (ac (bg (ds:=dX (m/600 % 100) (m % 4).toNat) (ac (gm (jw rfl rfl) rfl) (ac (ak rfl (gm rfl rfl) (M7 m)) rfl)) (show 2<=100 by decide)) rfl))))
 have gp:Cs J (ys++[.put y (1+m/15 % 40) (m/600 % 100) (m % 4).toNat]):=⟨fun z hz=>by
  rcases DO.mp hz with h|h
  .exact hy.v z h
  .rw [OR.mp h];exact ⟨hm,by lia,by lia,by lia,by lia,by lia⟩,Zw.mpr ⟨hy.u,Zb _ _,fun a _ b hb=>by
  rw [OR.mp hb];intro _ _ _ e;cases e⟩⟩
 have hpy:∀ z∈L++ys,Py 4 (bX z):=fun z hz=>by
  rcases DO.mp hz with h|h
  .exact ht z h
  .have hv:=hy.v z h;cases z with
   | tab y=>exact hv.elim
   | ix y c=>exact Bj ((hn y hv.1).tx) fun _ _ e=>by cases e;exact hv.2
   | put y n a k=>exact Bj ((hn y hv.1).tx) fun _ _ e=>nomatch e
 obtain ⟨b,eb,hnb⟩:=QF hpy (Bj (x:=.ix y (HQ (m/15 % 2))) ((hn y hm).tx) fun _ _ e=>by cases e;exact Jk _);have q1:bS (aE eY (aE iC (aE lR (ai 6) QX) PX) uc) (AY (.lst (J.map D.str)) S Q (L++ys) (some (.int (j:Int))) (some (.int x)) (some (.int m)) (some (.str y)))=.ok (decide (m/3 % 5=0)):=CH (gm (jw rfl rfl) rfl) rfl;have fin1:∀ z,(AY (.lst (J.map D.str)) S Q (L++ys) (some (.int (j:Int))) (some (.int x)) (some (.int m)) (some (.str y))).set 3 (some (.lst ((L++ys).map bX++[bX z])))=AY (.lst (J.map D.str)) S Q (L++(ys++[z])) (some (.int (j:Int))) (some (.int x)) (some (.int m)) (some (.str y)):=fun z=>by
  rw [show (L++ys).map bX++[bX z]=(L++(ys++[z])).map bX by simp];rfl
 have Y:Wc (AY (.lst (J.map D.str)) S Q (L++ys) (some (.int (j:Int))) (some (.int x)) (some (.int m)) (some (.str y)))=.ok false->∃ z o6' o7',Us (AY (.lst (J.map D.str)) S Q (L++ys) (some (.int (j:Int))) (some (.int x)) o6 o7)=.ok (.nx (AY (.lst (J.map D.str)) S Q (L++(ys++[z])) (some (.int (j:Int))) (some (.int x)) o6' o7'))/\Cs J (ys++[z]):=fun q=>⟨_,_,_,(ay s6).trans ((ay s7).trans ((uP q).trans ((wL rfl hpu (by rw [lE];lia)).trans (by rw [fin1])))),gp⟩;cases e1:decide (m/3 % 5=0) with
 | false=>rw [e1] at q1;exact Y (ED q1)
 | true =>
  rw [e1] at q1;have q2:Wc (AY (.lst (J.map D.str)) S Q (L++ys) (some (.int (j:Int))) (some (.int x)) (some (.int m)) (some (.str y)))=.ok b:=w8 q1 (aY (ak hix rfl eb));cases b with
  | false=>exact Y q2
  | true =>
   refine ⟨_,_,_,(ay s6).trans ((ay s7).trans ((bF q2).trans ((wL rfl hix (by rw [lE];lia)).trans (by rw [fin1])))),⟨fun z hz=>?_,Zw.mpr ⟨hy.u,Zb _ _,fun a ha b hb=>?_⟩⟩⟩
   .rcases DO.mp hz with h|h
    .exact hy.v z h
    .rw [OR.mp h];exact ⟨hm,Jk _⟩
   .rw [OR.mp hb];intro y' c' e e';rw [<- e'] at e;exact hnb rfl (Xc _ (by rw [<- e];exact ha))
def Ev (hn:∀ y∈ns,NmOk y) (hl:ns.length=3) (L:List Ch) (ht:∀ z∈L,Py 4 (bX z)):∀ (xs:List Int) (j:Nat) (ys:List Ch) (o4 o5 o6 Y:Option D),Cs ns ys->(L++ys).length+xs.length<=900 ->
  ∃ J o4' o5' o6' o7',fc (.tup [4,5]) Us (dM j (xs.map D.int)) (AY (.lst (ns.map D.str)) S Q (L++ys) o4 o5 o6 Y)=.ok (.nx (AY (.lst (ns.map D.str)) S Q (L++J) o4' o5' o6' o7'))/\Cs ns J/\J.length=ys.length+xs.length
 | [],j,ys,o4,o5,o6,Y,h,_=>⟨ys,o4,o5,o6,Y,rfl,h,rfl⟩
 | x::xs,j,ys,o4,o5,o6,Y,h,hz=>by
  rw [Xq] at hz;obtain ⟨y,p6,p7,t,h'⟩:=NG (S:=S) (Q:=Q) hn hl j x L ys ht h (by lia) o6 Y;obtain ⟨J,a4,a5,a6,a7,e,g,l⟩:=Ev (S:=S) (Q:=Q) hn hl L ht xs (j+1) (ys++[y]) (some (.int (j:Int))) (some (.int x)) p6 p7 h' (by simp at hz ⊢;lia);refine ⟨J,a4,a5,a6,a7,?_,g,by rw [l];simp;lia⟩;show fc (.tup [4,5]) Us (.tup [.int (j:Int),.int x]::dM (j+1) (xs.map D.int)) _=_;rw [Fs (δ':=AY (.lst (ns.map D.str)) S Q (L++(ys++[y])) (some (.int (j:Int))) (some (.int x)) p6 p7) t];exact e
def Gs (hn:∀ y∈ns,NmOk y) (L:ns.length=3) (xs:List Int):∃ ys,lC [.lst (ns.map D.str),.lst (xs.map D.int)]=.ok (.lst ((ns.map Ch.tab++ys).map bX))/\Cs ns ys/\ys.length<=27:=by
 rw [Bo,lh];have Y:fv [none] (jq (ai 0)) (.one 0) n9 (bN (ae (ai 0) (ae (bN (ae (bN (ae (vC (.str "a")) (ae (vC (.str "number")) ap))) (ae (bN (ae (vC (.str "b")) (ae (vC (.str "text")) ap))) ap))) ap))) [some (.lst (ns.map D.str)),some (.lst (xs.map D.int)),none,none,none,none,none,none]=.ok (.lst (ns.map fun y=>Cr y bQ)) :=
  fb (ju rfl rfl) (ut _ _ _ (fun y _=>bg (ac rfl (ac (bg (ds:=bQ.map rM) (ac (bg (ac rfl (ac rfl rfl))) (ac (bg (ac rfl (ac rfl rfl))) rfl)) (show 2<=100 by decide)) rfl))) (by lia))
 have s3:fv [none] (jq (ai 2)) (.one 0) n9 (bN (ae iY (ae (ai 0) ap))) [some (.lst (ns.map D.str)),some (.lst (xs.map D.int)),some (.lst (ns.map fun y=>Cr y bQ)),none,none,none,none,none]=.ok (.lst ((ns.map Ch.tab).map bX)):=by
  rw [XU];exact fb (ju rfl rfl) (ut _ _ _ (fun y _=>bg (ac rfl (ac rfl rfl))) (by lia))
 obtain ⟨ys,a4,a5,a6,a7,e,g,l⟩:=Ev (S:=.lst (xs.map D.int)) (Q:=.lst (ns.map fun y=>Cr y bQ)) hn L (ns.map Ch.tab) (fun z J=>by
  obtain ⟨y,hy,rfl⟩:=Xi.mp J;exact Bj ((hn y hy).tx) fun _ _ e=>nomatch e) (xs.take 27) 0 [] none none none none ⟨fun z J=>(nomatch J),Z1⟩ (by simp [L];lia)
 rw [XY] at e;refine ⟨ys,aG ((ay (aI Y)).trans ((ay (pf s3)).trans ((ay (rl ?_ e)).trans (aF rfl)))),g,by rw [l];simp;lia⟩;unfold kf;rw [ac (mv rfl rfl (dq rfl) (VD D.int xs 27)) rfl,aD];rfl
def fW (y:Str) (J:List tQ):Ch->List tQ
 | .put z n a k=>if z=y then hG J n (dX a k) else J
 | _=>J
def iu (y:Str) (zs:List Ch):List tQ:=zs.foldl (fW y) []
def yG (y:Str) (zs:List Ch) (x:Ch):iu y (zs++[x])=fW y (iu y zs) x:=by unfold iu;rw [aaZ];rfl
structure St (ns:ac3) (s:List Tb) (zs:List Ch):Prop where
 nm:s.map Xo=ns
 t:∀ q∈s,TbOk (zs.length+1) bQ q.2.1 q.2.2
 r:∀ q∈s,q.2.1=iu q.1 zs
 l:∀ q∈s,q.2.1.length<=zs.length/\q.2.2.length<=zs.length
 i:∀ q∈s,∀ c∈q.2.2.map Xo,Ch.ix q.1 c∈zs
 n:∀ q∈s,∀ z∈q.2.1,z.1<=40
def TbOk.mono (h:TbOk B cs rs ids) (L:B<=B'):TbOk B' cs rs ids:=⟨h.r,h.nd,fun q J=>⟨(h.i q J).1,let ⟨k,a,b⟩:=(h.i q J).2;⟨k,IF a L,b⟩⟩⟩
def kt (h:y∈s.map Xo):∃ J ids,cH s y=some (y,J,ids)/\(y,J,ids)∈s:=by
 cases e:cH s y with
 | none =>
  obtain ⟨q,L,eq⟩:=Xi.mp h
  have:=ZV.mp e q L
  exact absurd (acZ eq) this
 | some q =>
  obtain ⟨h1,h2⟩:=Nl e;obtain ⟨a,b,c⟩:=q;have h2:a=y:=h2;subst h2;exact ⟨b,c,rfl,h1⟩
def vS (h:(cH s q.1).isSome=true):(sS s q).map Xo=s.map Xo:=by
 unfold sS;rw [acW h,XU];apply Yh
 intro r _;by_cases e:r.1=q.1
 .simp [e]
 .simp [e]
def fY (J:(cH s q.1).isSome=true) (h:r∈sS s q):r=q\/(r∈s/\r.1≠q.1):=by
 unfold sS at h;rw [acW J] at h;obtain ⟨x,L,e⟩:=Xi.mp h;by_cases z:x.1=q.1
 .rw [acW z] at e;exact .inl e.symm
 .rw [acX z] at e;rw [<- e];exact .inr ⟨L,z⟩
def St.one (h:St ns s zs) (hx:P6 ns x) (hu:∀ y c,x=.ix y c->Ch.ix y c∉zs) (hz:zs.length<=30) (hn:ns.length<=60) :
  ∃ s',bv [.dcf (gC s),bX x]=.ok (.dcf (gC s'))/\St ns s' (zs++[x]):=by
 have hs:s.length < 1000:=by have:=ac1 abQ h.nm;simp at this;lia
 cases x with
 | tab y=>exact hx.elim
 | ix y c =>
  obtain ⟨rs,ids,e,hm⟩:=kt (s:=s) (y:=y) (by rw [h.nm];exact hx.1);have hl:=h.l _ hm;have hnc:c∉ids.map Xo:=fun z=>hu y c rfl (h.i _ hm c z);obtain ⟨d,e1,e2⟩:=Tl e (h.t _ hm) (by lia) (IF hl.1 (by lia)) (IF hl.2 (by lia)) hs hx.2 hnc;have J:(cH s (y,rs,ids++[(c,d)]).1).isSome=true:=by show (cH s y).isSome=true;rw [e];rfl
  refine ⟨_,e1,?_,fun q Y=>?_,fun q Y=>?_,fun q Y=>?_,fun q Y c' L=>?_,fun q Y=>?_⟩
  .rw [vS J];exact h.nm
  .rcases fY J Y with rfl|⟨g,_⟩
   .rw [BY];exact e2.mono (by simp)
   .rw [BY];exact (h.t q g).mono (by simp)
  .rw [yG];rcases fY J Y with rfl|⟨g,_⟩
   .exact h.r (y,rs,ids) hm
   .exact h.r q g
  .rw [BY,XF];rcases fY J Y with rfl|⟨g,_⟩
   .have h1:rs.length<=zs.length:=hl.1;have h2:ids.length<=zs.length:=hl.2;exact ⟨YM h1,by show (ids++[(c,d)]).length<=_;rw [BY,XF];lia⟩
   .have:=h.l q g;lia
  .rcases fY J Y with rfl|⟨g,_⟩
   .have L:c'∈(ids++[(c,d)]).map Xo:=L;rw [Yf] at L;rcases DO.mp L with z|z
    .exact Xf _ (h.i _ hm c' z)
    .have:c'=c:=by simpa using z
     rw [this];exact Xc _ (OR.mpr rfl)
   .exact Xf _ (h.i q g c' L)
  .rcases fY J Y with rfl|⟨g,_⟩
   .exact h.n (y,rs,ids) hm
   .exact h.n q g
 | put y n a k =>
  obtain ⟨hy,n0,n1,a0,a1,hk⟩:=hx;obtain ⟨rs,ids,e,hm⟩:=kt (s:=s) (y:=y) (by rw [h.nm];exact hy);have hl:=h.l _ hm;obtain ⟨ids',e1,e2,e3⟩:=Rk (n:=n) (a:=a) (k:=k) e (h.t _ hm) (IF hl.1 (by lia)) (IF hl.2 (by lia)) hs (by lia) n0 (by lia) a0 (by lia) hk;have J:(cH s (y,hG rs n (dX a k),ids').1).isSome=true:=by show (cH s y).isSome=true;rw [e];rfl
  refine ⟨_,e1,?_,fun q Y=>?_,fun q Y=>?_,fun q Y=>?_,fun q Y c' L=>?_,fun q Y=>?_⟩
  .rw [vS J];exact h.nm
  .rcases fY J Y with rfl|⟨g,_⟩
   .rw [BY];exact e3
   .rw [BY];exact (h.t q g).mono (by simp)
  .rw [yG];rcases fY J Y with rfl|⟨g,g2⟩
   .show hG rs n (dX a k)=if y=y then _ else _;rw [acW rfl,<- h.r _ hm]
   .show q.2.1=if y=q.1 then _ else _;rw [acX (fun z=>g2 z.symm)];exact h.r q g
  .rw [BY,XF];rcases fY J Y with rfl|⟨g,_⟩
   .have h1:=Kf (h.t _ hm).r n (dX a k);have h2:rs.length<=zs.length:=hl.1;have h3:ids.length<=zs.length:=hl.2;have h4:=ac1 abQ e2;simp at h4;exact ⟨by show (hG rs n (dX a k)).length<=_;exact IF h1 (by show rs.length+1<=_;lia),by show ids'.length<=_;lia⟩
   .have:=h.l q g;lia
  .rcases fY J Y with rfl|⟨g,_⟩
   .have L:c'∈ids'.map Xo:=L;rw [e2] at L;exact Xf _ (h.i _ hm c' L)
   .exact Xf _ (h.i q g c' L)
  .rcases fY J Y with rfl|⟨g,_⟩
   .intro z hz;rcases iN.mp ((pV (h.t _ hm).r n (dX a k)).mem_iff.mp hz) with rfl|z2
    .exact n1
    .exact h.n _ hm z (YF.mp z2).1
   .exact h.n q g
def St.many (hn:ns.length<=60):∀ (ys zs:List Ch) (s:List Tb),St ns s zs->(∀ x∈ys,P6 ns x)->(zs++ys).Pairwise (fun x J=>∀ y c,x=Ch.ix y c->J≠.ix y c)->(zs++ys).length<=30->∃ s',Go s ys s'/\St ns s' (zs++ys)
 | [],zs,s,h,_,_,_=>⟨s,.nil s,by rw [XY];exact h⟩
 | x::ys,zs,s,h,hv,hu,hl=>by
  obtain ⟨s1,e1,h1⟩:=h.one (hv x (by simp)) (fun y c e Y=>by
   rw [Zw] at hu;exact hu.2.2 _ Y x (by simp) y c rfl e) (by simp at hl;lia) hn
  obtain ⟨s2,e2,h2⟩:=St.many hn ys (zs++[x]) s1 h1 (fun z L=>hv z (lT _ L)) (by rw [Y3];exact hu) (by rw [Y3];exact hl);exact ⟨s2,.cons e1 e2,by rw [Y3] at h2;exact h2⟩
def Rg (y:Str):Tb:=(y,[],[])
def E2:∀ (J done:ac3),(done++J).Nodup->(∀ y∈J,NmOk y)->(done++J).length < 1000->Go (done.map Rg) (J.map Ch.tab) ((done++J).map Rg)
 | [],done,_,_,_=>by rw [XY];exact .nil _
 | y::r,done,nd,h,hl=>by
  have hn:cH (done.map Rg) y=none:=ZV.mpr fun q hq z=>by
   obtain ⟨w,hw,rfl⟩:=Xi.mp hq
   have:w=y:=ac0 z
   rw [Zo] at nd;exact nd.2.2 w hw y (by simp) this
  have e:=Q2 (s:=done.map Rg) (h y (by simp)) hn (by simp at hl ⊢;lia);have Y:=E2 r (done++[y]) (by simpa using nd) (fun z L=>h z (lT _ L)) (by simpa using hl);rw [show done++y::r=done++[y]++r by simp,By];refine .cons (s1:=(done++[y]).map Rg) ?_ Y;rw [e,Yf];rfl
def St.zero (L:ac3):St L (L.map Rg) []:=by
 refine ⟨by rw [XU];exact List.map_id _,fun q J=>?_,fun q J=>?_,fun q J=>?_,fun q J=>?_,fun q J=>?_⟩ <;> obtain ⟨y,Y,rfl⟩:=Xi.mp J
 .exact ⟨⟨Ye,fun q J=>nomatch J⟩,Ye,fun q J=>nomatch J⟩
 .rfl
 .exact ⟨mK _,mK _⟩
 .intro c hc;cases hc
 .intro z hz;cases hz
def IO (hn:∀ y∈ns,NmOk y) (hl:ns.length=3) (J:ns.Nodup) (h:Cs ns ys) (hz:ys.length<=27) (t:Nat):∃ s,Go [] (ns.map Ch.tab++ys.take t) s/\St ns s (ys.take t):=by
 have Y:=E2 ns [] J hn (by simp;lia);obtain ⟨s,L,h2⟩:=St.many (by lia) (ys.take t) [] (ns.map Rg) (St.zero ns) (fun x hx=>h.v x (Y1 hx)) (by rw [abq];exact h.u.sublist (acf _ _)) (by simp;lia);exact ⟨s,Y.app L,h2⟩
def uO (y:Str):D:=.tup [.str "drop",.str y,.int 1000000000]
def GE (y:Str):ada:=rL y++[uO y]
def xk (J:xs.length+ys.length<=1000):cj (.lst xs) (.lst ys)=.ok (.lst (xs++ys)):=by rw [add_l,acW (by omega)]
def Ll (c:Int):∃ d,my [.lst ((y::r).map D.str),.int c]=.ok d/\d∈GE y:=by
 have hk:(c % 14).toNat < (GE y).length:=by show (c % 14).toNat < 14;lia
 have L:fA (.lst (GE y)) (.int (c % 14))=.ok (GE y)[(c % 14).toNat]:=by
  have:=xL (cI (rW hk))
  rwa [show (((c % 14).toNat:Nat):Int)=c % 14 by lia] at this
 refine ⟨(GE y)[(c % 14).toNat],?_,XX hk⟩;rw [Gh,pZ];have J:∀ Y o3,aE fA (ai 0) uc [some (.lst ((y::r).map D.str)),some (.int c),Y,o3]=.ok (.str y):=fun Y o3=>ak rfl rfl Ii;refine aG ((ay (aI (bg (ac rfl (ac rfl rfl))))).trans ((ay (aI (eO (ac (bg (ac rfl (ac (bg (ac (J _ _) (ac (bg (ac (bg (ac rfl (ac rfl rfl))) rfl)) rfl))) rfl))) (ac (bg (ac rfl (ac (J _ _) (ac rfl rfl)))) (ac (bg (ac rfl (ac (J _ _) (ac rfl (ac rfl (ac rfl rfl)))))) rfl)))))).trans
  ((ay (aI (ak rfl (eO (ac (bg (ac rfl (ac (J _ _) rfl))) (ac (eO (ac rfl (ac (J _ _) (ac rfl (ac rfl rfl))))) (ac rfl (ac rfl (ac (bg (ac rfl (ac (J _ _) rfl))) rfl)))))) (xk (by simp))))).trans
   ((ay (aI (ak rfl (eO (ac (bg (ac rfl rfl)) (ac (bg rfl) (ac (bg (ac rfl (ac (J _ _) (ac rfl rfl)))) (ac rfl rfl))))) (xk (by simp))))).trans (aF (ak (ak rfl (eO (ac (bg (ac rfl (ac (J _ _) rfl))) (ac (bg (ac rfl (ac (J _ _) (ac Ts rfl)))) rfl))) (xk (by simp))) (gm rfl rfl) L))))))
def vY:∀ {xs ys:List abw},aa8 xs ys=true->xs.length=ys.length
 | [],[],_=>rfl
 | x::xs,y::ys,h=>by
  rw [aa8,Xe] at h;rw [Xq,Xq,vY h.2]
 | [],_::_,h=>by rw [aa8] at h;cases h
 | _::_,[],h=>by rw [aa8] at h;cases h
def Fk (h:mm y):Py 1 (uO y):=Ru (n5 (by trivial) 0) (Py.str h) (Py.int _)
def L6 (h:mm y):eY (uO y) (uO y)=.ok (.bl true):=(Fk h).eq (by decide) rfl
def W2 (L:Py k a):Py (k+1) (.tup [a]):=Py.tup fun x J=>by
 simp only [iN,W7,or_false] at J;rw [J];exact L
def Py.non:Py 0 .non:=⟨.none,rfl,rfl,mK _⟩
def zV:Py 1 MX:=Py.two (Py.int 1) (n5 (by trivial) 0)
def Kl (h:mm y):∀ d∈rL y,Py 5 d:=by
 have s:=Py.str h;intro d L;unfold rL at L;simp only [iN,W7,or_false] at L;rcases L with rfl|rfl|rfl|rfl|rfl|rfl|rfl|rfl|rfl|rfl|rfl|rfl|rfl
 .exact (Py.two (n5 (by trivial) 3) (Py.two (s.mono (by decide)) (W2 (Py.two (n5 (by trivial) 0) (n5 (by trivial) 0))))).mono (by decide)
 .exact (Ru (n5 (by trivial) 0) s (Py.int _)).mono (by decide)
 .refine (Py.tup (k:=1) fun x J=>?_).mono (by decide);simp only [iN,W7,or_false] at J;rcases J with rfl|rfl|rfl|rfl|rfl
  .exact n5 (by trivial) 1
  .exact s.mono (by decide)
  .exact (Py.int _).mono (by decide)
  .exact zV
  .exact zV
 .exact (Py.two (n5 (by trivial) 0) s).mono (by decide)
 .refine (Py.lst (k:=1) fun x J=>?_).mono (by decide);simp only [iN,W7,or_false] at J;rcases J with rfl|rfl|rfl|rfl
  .exact n5 (by trivial) 1
  .exact s.mono (by decide)
  .exact (Py.int _).mono (by decide)
  .exact zV
 .exact n5 (by trivial) 5
 .exact Py.non.mono (by decide)
 .exact (Py.two (n5 (by trivial) 0) s).mono (by decide)
 .exact (W2 (n5 (by trivial) 0)).mono (by decide)
 .exact (Py.tup (k:=0) fun x J=>absurd J (by simp)).mono (by decide)
 .exact (Ru (n5 (by trivial) 0) s (Py.int _)).mono (by decide)
 .exact (Py.int _).mono (by decide)
 .exact (Py.two Py.non s).mono (by decide)
def Cw (y:Str):abw:=.tuple [.str "drop",.str y,.int 1000000000]
def Nr (h:mm y):∀ d∈rL y,eY d (uO y)=.ok (.bl false):=by
 intro d J;obtain ⟨p,p1,p2,p3⟩:=Kl h d J;have L:Y4 p (Cw y)=false:=by
  unfold rL at J;simp only [iN,W7,or_false] at J;rcases J with rfl|rfl|rfl|rfl|rfl|rfl|rfl|rfl|rfl|rfl|rfl|rfl|rfl <;> cases p1 <;> first|rfl|decide +kernel|(
   cases e:Y4 _ (Cw y) with
   | false=>rfl
   | true=>exact absurd (vY e) (by simp))
 obtain ⟨q,q1,q2,q3⟩:=Fk h;have Y:q=Cw y:=by cases q1;rfl
 subst Y;have e:t0 d (uO y)=kA d (uO y):=by
  unfold t0;cases hV d <;> rfl
 unfold eY;rw [e,kA,p1,q1];dsimp only;rw [acW ⟨Py.shaped p2 p3 (by decide),Py.shaped q2 q3 (by decide)⟩,L];rfl
def Lf {F:ada->R D} {α:FA} {mt:Str->Bool} {ψ:FS} (Y:α U=.ok ds) (L:F ds=.er x) (J:mt x=true):xm F α mt n ψ U=rtOnly (ψ (U.set n (some (.exn x)))):=by
 unfold xm;rw [Y];dsimp only;rw [L];dsimp only;rw [acW J]
def DH (b:Bool):D:=.lst [.bl b,.bl (!b),.bl true]
def Ew (b:Bool):Str:=if b=true then "BadChange" else "NoRow"
def EO (b:Bool) (h:bt [s,c]=.er (Ew b)):jn [s,c]=.ok (DH b):=by
 rw [Br,lx];refine aG (bU ((Lf (ac rfl (ac rfl rfl)) h (by cases b <;> decide +kernel)).trans ?_));cases b <;> kernel_rfl
def IX (b:Bool):eY (DH b) (DH b)=.ok (.bl true):=by cases b <;> kernel_rfl
def gj (J:ac3) (R:Str->List tQ):List KD:=J.map fun y=>(ZE y,bA (R y))
def EC {R:Str->List tQ}:∀ {J:ac3},y∈J->ij (.inr y) (gj J R)=some (bA (R y))
 | [],h=>nomatch h
 | z::r,h=>by
  by_cases e:z=y
  .subst e;exact acW rfl
  .have h':y∈r:=by
    rcases iN.mp h with g|g
    .exact absurd g.symm e
    .exact g
   exact (acX (fun w=>e (abP w))).trans (EC h')
def Fo {R:Str->List tQ}:∀ {J:ac3},y∉J->ij (.inr y) (gj J R)=none
 | [],_=>rfl
 | z::r,h=>by
  have e:z≠y:=fun e=>h (by rw [e];exact W6);exact (acX (fun w=>e (abP w))).trans (Fo fun g=>h (lT _ g))
def HJ {R R':Str->List tQ} (hR:∀ z,z≠y->R' z=R z):∀ {J:ac3},J.Nodup->y∈J->lu (.inr y) (bA (R' y)) (gj J R)=gj J R'
 | [],_,h=>nomatch h
 | z::r,nd,h=>by
  rw [XI] at nd;by_cases e:z=y
  .subst e;refine (acW rfl).trans ?_;show _=(ZE z,bA (R' z))::gj r R';congr 1;exact Yh fun w hw=>by rw [hR w fun e=>nd.1 (by rw [<- e];exact hw)]
  .have h':y∈r:=by
    rcases iN.mp h with g|g
    .exact absurd g.symm e
    .exact g
   refine (acX (fun w=>e (abP w))).trans ?_;show (ZE z,bA (R z))::lu (.inr y) (bA (R' y)) (gj r R)=_;rw [HJ hR nd.2 h'];show (ZE z,bA (R z))::gj r R'=(ZE z,bA (R' z))::gj r R';rw [hR z e]
def Pz (J:List tQ) (n:Int) (x:ada):(hG J n x).length<=J.length+1:=by
 unfold hG;split
 .rw [lE];exact Zj _
 .rw [BY];exact mK _
def Hf (y:Str) (J:List tQ) (x:Ch):(fW y J x).length<=J.length+1:=by
 cases x with
 | put z n a k =>
  show (if z=y then hG J n (dX a k) else J).length<=J.length+1;by_cases e:z=y
  .rw [acW e];exact Pz _ _ _
  .rw [acX e];exact Zj _
 | _=>exact Zj _
def JZ:∀ (J done:ac3) (o3:Option D),(done++J).Nodup->(done++J).length<=900->∃ L,J6 3 (ai 3) (J.map D.str) [some a,some b,none,o3,none] (gj done fun _=>[])=.ok ([some a,some b,none,L,none],gj (done++J) fun _=>[])
 | [],done,o3,_,_=>⟨o3,by rw [XY];rfl⟩
 | y::r,done,o3,nd,hl=>by
  obtain ⟨L,e⟩:=JZ (a:=a) (b:=b) r (done++[y]) (some (.str y)) (by simpa using nd) (by simpa using hl);refine ⟨L,?_⟩;have Y:y∉done:=fun z=>by
   rw [Zo] at nd;exact nd.2.2 y z y (by simp) rfl
  show (match kG (.str y) with|some k=>if ij k (gj done fun _=>[])=none/\(gj done fun _=>[]).length < 1000000 then J6 3 (ai 3) (r.map D.str) [some a,some b,none,some (.str y),none] ((gj done fun _=>[])++[(k,[])]) else .no|none=>.no)=_
  show (if ij (.inr y) (gj done fun _=>[])=none/\(gj done fun _=>[]).length < 1000000 then J6 3 (ai 3) (r.map D.str) [some a,some b,none,some (.str y),none] ((gj done fun _=>[])++[(.inr y,[])]) else .no)=_;rw [acW ⟨Fo Y,by unfold gj;rw [lE];simp at hl;lia⟩];rw [show done++y::r=done++[y]++r by simp,<- e];unfold gj;rw [Yf];rfl
def HF {R:Str->List tQ} (Y:ns.Nodup) (J:y∈ns) (hl:(R y).length < 900) :
  sF rT (uI 4 1) (uI 4 2) (uI 4 3) (gj ns R) [some N,some S,none,o3,some (bX (.put y n a k))]=.ok (gj ns fun z=>fW z (R z) (.put y n a k)):=by
 have q:rT [some N,some S,none,o3,some (bX (.put y n a k))]=.ok true:=aY (ak (ak rfl rfl bW) rfl (fN.trans (by rw [acZ rfl])));have e4:uI 4 3 [some N,some S,none,o3,some (bX (.put y n a k))]=.ok (.tup (dX a k)):=ak rfl rfl Oq;have e3:uI 4 2 [some N,some S,none,o3,some (bX (.put y n a k))]=.ok (.int n):=ak rfl rfl wv;have e2:uI 4 1 [some N,some S,none,o3,some (bX (.put y n a k))]=.ok (.str y):=ak rfl rfl bL;unfold sF;rw [q,aD,acW rfl,e4,aD,e2,aD];show (match ij (.inr y) (gj ns R) with|some ds=>_|none=>_)=_
 rw [EC J];dsimp only;rw [e3,aD];show (if (bA (R y)).length < 1000000 then L2.R.ok (lu (.inr y) (fw (bA (R y)) (.inl n) (.tup (dX a k))) (gj ns R)) else .no)=_;rw [acW (by unfold bA;rw [lE];lia),Bq];congr 1
 have:=HJ (y:=y) (R:=R) (R':=fun z=>fW z (R z) (.put y n a k)) (fun z L=>acX (fun e=>L e.symm)) Y J
 rw [<- this];congr 2;exact (acW rfl).symm
def Fg (J:∀ y n a k,x≠.put y n a k) {ε2 ε3 ε4:FE}:sF rT ε2 ε3 ε4 dd [some N,some S,none,o3,some (bX x)]=.ok dd:=by
 have q:rT [some N,some S,none,o3,some (bX x)]=.ok false:=by
  cases x with
  | tab y=>exact aY (ak (ak rfl rfl bW) rfl (fN.trans (by rw [acY (by trivial)])))
  | ix y c=>exact aY (ak (ak rfl rfl bW) rfl (fN.trans (by rw [acY (by trivial)])))
  | put y n a k=>exact absurd rfl (J y n a k)
 unfold sF;rw [q,aD,acX nE]
def Kk (Y:ns.Nodup):∀ (xs:List Ch) (R:Str->List tQ) (L:Option D),(∀ y n a k,Ch.put y n a k∈xs->y∈ns)->(∀ y,(R y).length+xs.length < 900) ->
  ∃ J,Hr 4 rT (uI 4 1) (uI 4 2) (uI 4 3) (xs.map bX) [some N,some S,none,o3,L] (gj ns R)=.ok ([some N,some S,none,o3,J],gj ns fun z=>xs.foldl (fW z) (R z))
 | [],R,L,_,_=>⟨L,rfl⟩
 | x::r,R,L,hx,hl=>by
  obtain ⟨J,e⟩:=Kk (N:=N) (S:=S) (o3:=o3) Y r (fun z=>fW z (R z) x) (some (bX x)) (fun y n a k h=>hx y n a k (lT _ h)) (fun y=>by have:=Hf y (R y) x;have:=hl y;simp at this;lia);refine ⟨J,?_⟩;have t:sF rT (uI 4 1) (uI 4 2) (uI 4 3) (gj ns R) [some N,some S,none,o3,some (bX x)]=.ok (gj ns fun z=>fW z (R z) x):=by
   cases x with
   | tab y=>exact Fg fun _ _ _ _ e=>(by cases e)
   | ix y c=>exact Fg fun _ _ _ _ e=>(by cases e)
   | put y n a k=>exact HF Y (hx y n a k (by simp)) (by have:=hl y;simp at this;lia)
  show ((sF rT (uI 4 1) (uI 4 2) (uI 4 3) (gj ns R) [some N,some S,none,o3,some (bX x)]).bind _)=_;rw [t,aD];exact e
def ul (J:ac3) (ys:List Ch):List (bC×D):=J.map fun y=>(ZE y,D.dct (bA (iu y ys)))
def O7 (J:ns.Nodup) (hl:ns.length<=60) (h:Cs ns ys) (hz:ys.length<=27):sU [.lst (ns.map D.str),.lst ((ns.map Ch.tab++ys).map bX)]=.ok (.dct (ul ns ys)):=by
 rw [IT,sQ];obtain ⟨o3,e1⟩:=JZ (a:=.lst (ns.map D.str)) (b:=.lst ((ns.map Ch.tab++ys).map bX)) ns [] none J (by simp;lia);obtain ⟨Y,e2⟩:=Kk (N:=.lst (ns.map D.str)) (S:=.lst ((ns.map Ch.tab++ys).map bX)) (o3:=o3) J (ns.map Ch.tab++ys) (fun _=>[]) none (fun y n a k L=>by
  rcases DO.mp L with g|g
  .obtain ⟨_,_,e⟩:=Xi.mp g;cases e
  .exact (h.v _ g).1) (fun y=>by simp;lia)
 have e3:∀ y,(ns.map Ch.tab++ys).foldl (fW y) []=iu y ys:=fun y=>by
  rw [aaZ]
  have:∀ l:ac3,(l.map Ch.tab).foldl (fW y) []=[]:=fun l=>by
   induction l with
   | nil=>rfl
   | cons _ _ ih=>exact ih
  rw [this];rfl
 have e:Ce 2 3 4 (jq (ai 0)) (ai 3) (jq (ai 1)) rT (uI 4 1) (uI 4 2) (uI 4 3) [some (.lst (ns.map D.str)),some (.lst ((ns.map Ch.tab++ys).map bX)),none,none,none]=.ok (.nx [some (.lst (ns.map D.str)),some (.lst ((ns.map Ch.tab++ys).map bX)),some (.dct (ul ns ys)),o3,Y]):=by
  unfold Ce;rw [acW (by simp)];show ((R.ok (ns.map D.str)).bind fun xs=>(J6 3 (ai 3) xs [some (.lst (ns.map D.str)),some (.lst ((ns.map Ch.tab++ys).map bX)),none,none,none] (gj [] fun _=>[])).bind _)=_;rw [aD,e1,aD];unfold CK;show ((R.ok ((ns.map Ch.tab++ys).map bX)).bind fun xs=>(Hr 4 rT _ _ _ xs [some (.lst (ns.map D.str)),some (.lst ((ns.map Ch.tab++ys).map bX)),none,o3,none] (gj ns fun _=>[])).bind _)=_;rw [aD,e2,aD];unfold Lr;show R.ok (Fl.nx [_,_,some (.dct ((gj ns fun z=>(ns.map Ch.tab++ys).foldl (fW z) []).map _)),_,_])=_;unfold gj ul;rw [XU];congr 7;apply Yh
  intro y _;show (ZE y,D.dct (bA ((ns.map Ch.tab++ys).foldl (fW y) [])))=_;rw [e3]
 exact aG ((ay e).trans (aF rfl))
def B1 (h:∀ z∈rs,z.1<=40) (hn:40 < n):dh rs n=none:=by
 cases e:dh rs n with
 | none=>rfl
 | some x=>have:=h _ (vK e);exact absurd this (by show ¬ n<=40;lia)
def qw:ada:=[.int 7,.str "seven"]
def Tc:xj [Cr y bQ,.tup qw]=.ok (.bl true):=by kernel_rfl
def Wy:RowOk bQ.length qw:=⟨rfl,fun v J=>by
 unfold qw at J;simp only [iN,W7,or_false] at J;rcases J with rfl|rfl
 .exact Yw
 .exact ⟨by trivial,Gn (by trivial)⟩⟩
def HV (e:cH s y=some (y,rs,ids)) (h:TbOk B bQ rs ids) (hr:rs.length<=600) (hi:ids.length<=100) (L:s.length < 1000) (hB:B < 40) :
  ∃ J,bv [.dcf (gC s),.tup [.str "put",.str y,.int 99,.tup qw]]=.ok (.dcf (gC (sS s (y,hG rs 99 qw,J)))):=by
 have Y:cF (gC s) (.inr y)=some (qu y bQ rs ids):=by rw [oP,e];rfl
 obtain ⟨J,e1,_,_⟩:=Bp (nm:=y) (n:=99) h Wy hr hi hB;refine ⟨J,(Hv (d:=.dcf (fw (gC s) (.inr y) (qu y bQ (hG rs 99 qw) J))) ?_).trans ?_⟩
 .rw [ms,dc];exact aG ((ay (aI (aq (ac rfl (ac rfl rfl)) (si Y)))).trans ((skip (om (cD (aq (ac rfl rfl) (rj (n:=99) (by decide) (by decide))) rfl))).trans ((skip (om (cD (aq (ac (cf rfl u7) (ac rfl rfl)) Tc) rfl))).trans (aF (aq (ac rfl (ac rfl (ac (aq (ac rfl (ac rfl (ac rfl rfl))) e1) rfl))) (nK (by rw [Az];exact L)))))))
 .rw [<- zB (y,hG rs 99 qw,J)];rfl
def yO (h:RsOk m rs) (Y:ik a=some (bA rs)) (L:ik b=some (bA rs)):xH a b=some true:=by
 unfold xH;rw [Y,L];show Ku (bA rs) (bA rs)=some true;unfold Ku;rw [acW rfl];refine yI fun q hq=>?_;obtain ⟨z,J,rfl⟩:=Xi.mp hq;exact ⟨by rw [mF,yA h.nd J];rfl,GU (KI (h.r z J)) (by decide)⟩
def L3 (h:RsOk m rs) (J:ik a=some (bA rs)) (L:ik b=some (bA rs)):Lz a b=.ok (.bl false):=by unfold Lz;rw [yO h J L];rfl
def EW (h:RsOk m rs) (J:ik a=some (bA rs)) (L:ik b=some (bA rs)):D7 a b=.ok (.bl true):=by unfold D7;rw [yO h J L];rfl
def Fq:∀ {L:ac3},y∈L->cF (ul L ys) (.inr y)=some (.dct (bA (iu y ys)))
 | [],h=>nomatch h
 | z::r,h=>by
  by_cases e:z=y
  .subst e;simp [ul,cF,XB]
  .have h':y∈r:=by
    rcases iN.mp h with g|g
    .exact absurd g.symm e
    .exact g
   have J:=Fq (ys:=ys) h';simp [ul,cF,XB,e] at J ⊢;exact J
def DJ (h:y∈ns):j8 (.dct (ul ns ys)) (.str y)=.ok (.dct (bA (iu y ys))):=by
 show (match cF (ul ns ys) (.inr y) with|some d=>R.ok d|none=>.no)=_
 rw [Fq h]
def E7 (e:cH s y=some (y,rs,ids)):j8 (.dcf (gC s)) (.str y)=.ok (qu y bQ rs ids):=OB (by rw [oP,e];rfl)
def PM (h:mm (UI x)) (J:∀ y c,x=.ix y c->c∈bQ.map Xo):Py 1 (Sy x):=by
 cases x with
 | tab y=>exact Py.two (n5 (by trivial) 0) (Py.str h)
 | ix y c =>
  have:mm c:=by
   have:=J y c rfl
   simp only [bQ,By,abk,iN,W7,or_false] at this;rcases this with rfl|rfl <;> exact Gn (by trivial)
  exact Ru (n5 (by trivial) 0) (Py.str h) (Py.str this)
 | put y n a k=>exact Ru (n5 (by trivial) 0) (Py.str h) (Py.int n)
abbrev AE (S N C:D) (o3 o4 o5 o6 L o8 Y J:Option D):Sd:=[some S,some N,some C,o3,o4,o5,o6,L,o8,Y,J]
def Hw:∀ (xs:List Ch) (o3:Option D),(∀ x∈xs,Py 1 (Sy x))->∃ J,fc (.one 3) kB (xs.map bX) (AE S N C o3 none none none none none none none)=.ok (.nx (AE S N C J none none none none none none none))
 | [],o3,_=>⟨o3,rfl⟩
 | x::r,o3,h=>by
  obtain ⟨o,e⟩:=Hw (S:=S) (N:=N) (C:=C) r (some (bX x)) fun y Y=>h y (lT _ Y);refine ⟨o,?_⟩;have L:hV (Sy x)=none:=by cases x <;> rfl
  have t:kB (aaM (AE S N C o3 none none none none none none none) 3 (some (bX x)))=.ok (.nx (AE S N C (some (bX x)) none none none none none none none)):=(uP (aY (ak (aq (ac rfl rfl) (dD (rf x))) (aq (ac rfl rfl) (dD (R7 x))) ((h x (by simp)).ne (by decide) L)))).trans rfl;rw [By,kT t];exact e
def Ej (L:St ns s ys):∀ (ts:ac3) (J:Option D),(∀ y∈ts,y∈ns)->∃ Y,fc (.one 9) Vn (ts.map D.str) (AE S N C o3 none none (some h6) (some (.dct (ul ns ys))) (some (.dcf (gC s))) J none)=.ok (.nx (AE S N C o3 none none (some h6) (some (.dct (ul ns ys))) (some (.dcf (gC s))) Y none))
 | [],J,_=>⟨J,rfl⟩
 | y::r,J,h=>by
  obtain ⟨o,e⟩:=Ej (S:=S) (N:=N) (C:=C) (o3:=o3) (h6:=h6) L r (some (.str y)) fun z hz=>h z (lT _ hz);refine ⟨o,?_⟩;have hy:=h y (by simp);obtain ⟨rs,ids,el,hm⟩:=kt (s:=s) (y:=y) (by rw [L.nm];exact hy);have er:rs=iu y ys:=L.r _ hm;have t:Vn (aaM (AE S N C o3 none none (some h6) (some (.dct (ul ns ys))) (some (.dcf (gC s))) J none) 9 (some (.str y)))=.ok (.nx (AE S N C o3 none none (some h6) (some (.dct (ul ns ys))) (some (.dcf (gC s))) (some (.str y)) none)) :=
   (uP (aY (ak (cf (ak rfl rfl (E7 el)) oz) (ak rfl rfl (DJ hy)) (L3 (L.t _ hm).r rfl (by rw [<- er];rfl))))).trans rfl
  rw [By,kT t];exact e
def Qa {nm:ac3} {y:Str} (h:nm[0]?=some y) (c:Int):∃ d,my [.lst (nm.map D.str),.int c]=.ok d/\d∈GE y:=by
 cases nm with
 | nil=>cases h
 | cons a r=>cases h;exact Ll c
def ME {J:List Int} {nm:ac3} {y0:Str} {C:List Ch} {ys:List Ch} {o3:Option D} (h0:nm[0]?=some y0) (ln:nm.length=3) (nd:nm.Nodup) (tn:∀ y∈nm,NmOk y) (hy:Cs nm ys) (ly:ys.length<=27) (hC:nm.map Ch.tab++ys=C) 
  (c1:∀ U:Sd,U[0]?=some (some (.lst (J.map D.int)))->Ry U=.ok (.int (cell J (1:Nat)))) :
  RY (AE (.lst (J.map D.int)) (.lst (nm.map D.str)) (.lst (C.map bX)) o3 none none none none none none none)=.ok (.rt (.bl true)):=by
 have lch:C.length=3+ys.length:=by rw [<- hC];simp [ln]
 obtain ⟨w,ew,hw⟩:=Qa h0 (cell J (1:Nat)/2);obtain ⟨t,ht⟩:∃ t:Nat,cell J (1:Nat)/28 % (((3+ys.length:Nat):Int) - 2)=(t:Int):=⟨(cell J (1:Nat)/28 % (((3+ys.length:Nat):Int) - 2)).toNat,(Int.toNat_of_nonneg (abu _ (by lia))).symm⟩;obtain ⟨s,gs,hs⟩:=IO tn ln nd hy ly t;have m0:y0∈nm:=Yx h0;have Y:mm y0:=(tn y0 m0).tx;obtain ⟨b,hb,hbd⟩:∃ b:Bool,bv [.dcf (gC s),w]=.er (Ew b)/\eY w (uO y0)=.ok (.bl (!b)):=by
  rcases DO.mp hw with g|g
  .exact ⟨true,RD (Ks y0 w g),Nr Y w g⟩
  .rw [OR.mp g];obtain ⟨rs,ids,el,hm⟩:=kt (s:=s) (y:=y0) (by rw [hs.nm];exact m0);exact ⟨false,Lh el (by decide) (by decide) (B1 (hs.n _ hm) (by decide)),L6 Y⟩
 have L:C.take (3+t)=nm.map Ch.tab++ys.take t:=by
  rw [<- hC,List.take_append,lE,ln,Zh (by rw [lE,ln];lia),show 3+t - 3=t by lia]
 obtain ⟨p,hp⟩:∃ p:Nat,p=3+t:=⟨_,rfl⟩;rw [<- hp] at L;have s5:aE cj QX (aE iC (aE lR Ry (vC (.int 28))) (aE zL (ao cz (ae (ai 2) ap)) Hq)) (AE (.lst (J.map D.int)) (.lst (nm.map D.str)) (.lst (C.map bX)) o3 (some w) none none none none none none)=.ok (.int (p:Int)):=by
  refine (gu rfl (gm (jw (c1 _ rfl) rfl) (Jo ((c0 rfl (Cb _ _)).trans (by rw [lch])) rfl) (by lia))).trans ?_;rw [ht,hp,Int.natCast_add];rfl
 have s8:bt [.dcf [],.lst ((C.take p).map bX)]=.ok (.dcf (gC s)):=by
  rw [L]
  have:=vd gs
  exact this
 have lt:((C.take p).map bX).length<=100:=by rw [lE,XH];lia
 have ld:((C.drop p).map bX).length<=100:=by rw [lE,Ya];lia
 have f1:bt [.dcf [],.lst ((C.take p).map bX++[w]++(C.drop p).map bX)]=.er (Ew b):=by
  rw [L,Y3]
  have:=IC (rest:=(C.drop p).map bX) gs hb
  exact this
 have f2:bt [.dcf (gC s),.lst [w]]=.er (Ew b):=IC (rest:=[]) (Go.nil s) hb;have s6:aE cj (aE cj (vm qN (ai 2) fJ (dU (ai 5))) (ia (ae (ai 4) ap))) (vm qN (ai 2) (dU (ai 5)) fJ) (AE (.lst (J.map D.int)) (.lst (nm.map D.str)) (.lst (C.map bX)) o3 (some w) (some (.int (p:Int))) none none none none none)=.ok (.lst ((C.take p).map bX++[w]++(C.drop p).map bX)) :=
  ak (ak (mv rfl rfl (dq rfl) (VD bX C p)) (eO (ac rfl rfl)) (xk (by rw [XF];lia))) (mv rfl (dq rfl) rfl (WA bX C rfl)) (xk (by rw [BY,XF];lia))
 have s9:vm qN (ai 2) fJ (dU (ai 5)) (AE (.lst (J.map D.int)) (.lst (nm.map D.str)) (.lst (C.map bX)) o3 (some w) (some (.int (p:Int))) (some (.lst ((C.take p).map bX++[w]++(C.drop p).map bX))) (some (DH b)) none none none)=.ok (.lst ((C.take p).map bX)):=mv rfl rfl (dq rfl) (VD bX C p);generalize (C.take p).map bX++[w]++(C.drop p).map bX=Hd at s6 f1 s9;generalize (C.take p).map bX=Ct at s8 s9;have hif:∀ T:FS,aK (iq (bS (aE eY (ai 4) (bN (ae sR (ae (uI 1 0) (ae (aE xK DF SW) ap)))))) (bq 7 (ia (ae (vC (.bl false)) (ae (vC (.bl true)) (ae (vC (.bl true)) ap))))) bu) T (AE (.lst (J.map D.int)) (.lst (nm.map D.str)) (.lst (C.map bX)) o3 (some w) (some (.int (p:Int))) (some (.lst Hd)) (some (DH true)) none none none)
   = T (AE (.lst (J.map D.int)) (.lst (nm.map D.str)) (.lst (C.map bX)) o3 (some w) (some (.int (p:Int))) (some (.lst Hd)) (some (DH b)) none none none):=fun T=>by
  have qd:bS (aE eY (ai 4) (bN (ae sR (ae (uI 1 0) (ae (aE xK DF SW) ap))))) (AE (.lst (J.map D.int)) (.lst (nm.map D.str)) (.lst (C.map bX)) o3 (some w) (some (.int (p:Int))) (some (.lst Hd)) (some (DH true)) none none none)=.ok (!b):=aY (ak rfl (bg (ac rfl (ac (ak rfl rfl (xO D.str nm h0)) (ac Ts rfl)))) hbd);cases b with
  | true=>exact skip qd
  | false=>exact ay ((bF qd).trans (aI (eO (ac rfl (ac rfl (ac rfl rfl))))))
 refine (ay (aI (aq (ac rfl (ac (jw (c1 _ rfl) rfl) rfl)) (dD ew)))).trans ((ay (aI s5)).trans ((ay (aI s6)).trans ((ay (aI (eO (ac rfl (ac rfl (ac rfl rfl)))))).trans ((hif _).trans ?_))));refine (ay (aI (aq (ac (BR rfl) (ac s9 rfl)) s8))).trans ?_;exact aF (js (ak (aq (ac (BR rfl) (ac rfl rfl)) (dD (EO b f1))) rfl (IX b)) (ak (aq (ac rfl (ac (eO (ac rfl rfl)) rfl)) (dD (EO b f2))) rfl (IX b)))
def G7 {ns:List Int} {nm:ac3} {y0 y1:Str} {C:List Ch} {ys:List Ch} {o3:Option D} (h0:nm[0]?=some y0) (h1:nm[1]?=some y1) (n01:y1≠y0) (ln:nm.length=3) (nd:nm.Nodup) (tn:∀ y∈nm,NmOk y) (hy:Cs nm ys) (ly:ys.length<=27) (hC:nm.map Ch.tab++ys=C)
  (hok:∀ x∈C,mm (UI x)/\∀ y c,x=Ch.ix y c->c∈bQ.map Xo) :
  Ow (AE (.lst (ns.map D.int)) (.lst (nm.map D.str)) (.lst (C.map bX)) o3 none none none none none none none)=.ok (.rt (.bl true)):=by
 obtain ⟨s,gs,Y⟩:=IO tn ln nd hy ly ys.length;rw [aak] at gs Y;have m0:y0∈nm:=Yx h0;have m1:y1∈nm:=Yx h1;have lrows:=O7 nd (by lia) hy ly;rw [hC] at gs lrows;have s8:bt [.dcf [],.lst (C.map bX)]=.ok (.dcf (gC s)):=by
  have:=vd gs
  exact this
 have cpy:Py 5 (.lst (C.map bX)):=Py.lst fun d hd=>by
  obtain ⟨x,hx,rfl⟩:=Xi.mp hd;exact Bj (hok x hx).1 (hok x hx).2
 obtain ⟨L,eL,hL⟩:=J8 (ss:=nm) (by lia) fun z hz=>(tn z hz).tx;have lk:B9 [.dcf (gC s)]=.ok (.lst (nm.map D.str)):=by
  show R.ok (D.lst ((gC s).map fun q=>rG q.1))=_;rw [<- Y.nm];unfold gC;rw [XU,XU];rfl
 obtain ⟨o9,er⟩:=Ej (S:=.lst (ns.map D.int)) (N:=.lst (nm.map D.str)) (C:=.lst (C.map bX)) (o3:=o3) (h6:=.lst (C.map bX)) Y nm none fun y hy=>hy;obtain ⟨rs,ids,el,hm⟩:=kt (s:=s) (y:=y0) (by rw [Y.nm];exact m0);have hl:=Y.l _ hm;have sl:s.length < 1000:=by have:=ac1 abQ Y.nm;simp at this;lia
 obtain ⟨ids',e7⟩:=HV el (Y.t _ hm) (IF hl.1 (by lia)) (IF hl.2 (by lia)) sl (by lia);have J:(cH s (y0,hG rs 99 qw,ids').1).isSome=true:=by show (cH s y0).isSome=true;rw [el];rfl
 have nm2:=vS J;rw [Y.nm] at nm2;obtain ⟨rs2,ids2,el2,hm2⟩:=kt (s:=sS s (y0,hG rs 99 qw,ids')) (y:=y0) (by rw [nm2];exact m0);have er2:rs2=hG rs 99 qw:=by
  rcases fY J hm2 with g|g
  .exact ac1 (fun q:Tb=>q.2.1) g
  .exact absurd rfl g.2
 obtain ⟨rs3,ids3,el3,hm3⟩:=kt (s:=sS s (y0,hG rs 99 qw,ids')) (y:=y1) (by rw [nm2];exact m1);have hm4:(y1,rs3,ids3)∈s:=by
  rcases fY J hm3 with g|g
  .exact absurd (ac1 (fun q:Tb=>q.1) g) n01
  .exact g.1
 have er3:rs3=iu y1 ys:=Y.r _ hm4;have er1:rs=iu y0 ys:=Y.r _ hm;have l99:dh rs2 99=some qw:=by
  rw [er2];exact yA (q:=(99,qw)) (EN (Y.t _ hm).r Wy).nd ((pV (Y.t _ hm).r 99 qw).mem_iff.mpr W6)
 have d0:=DJ (ys:=ys) m0;have d1:=DJ (ys:=ys) m1;have g1:D7 (.dcf (bA rs3)) (.dct (bA (iu y1 ys)))=.ok (.bl true):=EW (Y.t _ hm4).r rfl (by rw [<- er3];rfl);have g0:D7 (.dcf (bA rs)) (.dct (bA (iu y0 ys)))=.ok (.bl true):=EW (Y.t _ hm).r rfl (by rw [<- er1];rfl);have i8:=E7 el;have i10:=E7 el2;have i11:=E7 el3;have b99:dh rs 99=none:=B1 (Y.n _ hm) (by decide);generalize ul nm ys=dk at *;generalize gC (sS s (y0,hG rs 99 qw,ids'))=s2 at *;generalize gC s=s1 at *;have qn:(xN (bS (aE sA (ai 6) (ai 2))) (bS (aE sA (ao zi (ae (ao B9 (ae (ai 8) ap)) ap)) (ao zi (ae (ai 1) ap))))) (AE (.lst (ns.map D.int)) (.lst (nm.map D.str)) (.lst (C.map bX)) o3 none none (some (.lst (C.map bX))) none (some (.dcf s1)) none none)=.ok false :=
  vt (aY (ak rfl rfl (cpy.ne (by decide) rfl))) (aY (ak (aq (ac (aq (ac rfl rfl) lk) rfl) (show zi [_]=_ from eL)) (aq (ac rfl rfl) (show zi [_]=_ from eL)) ((Py.lst hL).ne (by decide) rfl)))
 have q99:(xN (bS (aE DC Io (ic "Table" "rows" (aE j8 (ai 8) (uI 1 0))))) (bS (aE sA (aE j8 (ic "Table" "rows" (aE j8 (ai 10) (uI 1 0))) Io) (bN (ae LO (ae (vC (.str "seven")) ap)))))) (AE (.lst (ns.map D.int)) (.lst (nm.map D.str)) (.lst (C.map bX)) o3 none none (some (.lst (C.map bX))) (some (.dct dk)) (some (.dcf s1)) o9 (some (.dcf s2)))=.ok false :=
  vt (aY (ak rfl (cf (ak rfl (ak rfl rfl (xO D.str nm h0)) i8) oz) (LL.trans (by rw [b99];rfl)))) (aY (ak (ak (cf (ak rfl (ak rfl rfl (xO D.str nm h0)) i10) oz) rfl (Fh l99)) (bg (ac rfl (ac rfl rfl))) ((KI Wy).ne (by decide) rfl)))
 refine (ay (aI (aq (ac rfl rfl) SQ))).trans ((ay (aI (aq (ac (BR rfl) (ac rfl rfl)) s8))).trans ((skip qn).trans ((ay (aI (aq (ac rfl (ac rfl rfl)) (dD lrows)))).trans ((ay (rl (ju rfl rfl) er)).trans ?_))));refine (ay (aI (aq (ac rfl (ac (bg (ac rfl (ac (ak rfl rfl (xO D.str nm h0)) (ac rfl (ac (bg (ds:=qw) (ac rfl (ac rfl rfl)) (show 2<=100 by decide)) rfl))))) rfl)) e7))).trans ((skip q99).trans ?_);exact aF (js (ak (cf (ak rfl (ak rfl rfl (xO D.str nm h1)) i11) oz) (ak rfl (ak rfl rfl (xO D.str nm h1)) d1) g1) (ak (cf (ak rfl (ak rfl rfl (xO D.str nm h0)) i8) oz) (ak rfl (ak rfl rfl (xO D.str nm h0)) d0) g0))
def law_true (L:List Int) (h:L.length<=63):yn [.lst (L.map D.int)]=.ok (.bl true):=by
 rw [RB,Eu];have J:∀ (j:Nat) (U:Sd),U[0]?=some (some (.lst (L.map D.int)))->ao (cR eR) (ae (ai 0) (ae (vC (.int (j:Int))) ap)) U=.ok (.int (cell L j)):=fun j U hδ=>aq (ac (by rw [v_var,hδ];rfl) (ac rfl rfl)) (dD (LX L j (by lia)));obtain ⟨nm,en,ln,nd,tn⟩:=MG (cell L (0:Nat)*48271 % 1000003) 3 (by decide);obtain ⟨ys,ey,hy,ly⟩:=Gs tn ln (L.drop 2);obtain ⟨y0,y1,h0,h1,n01⟩:∃ y0 y1,nm[0]?=some y0/\nm[1]?=some y1/\y1≠y0:=by
  match nm,ln with
  | [a,b,c],_=>exact ⟨a,b,rfl,rfl,fun e=>by simp [e] at nd⟩
 have Y:∀ x∈nm.map Ch.tab++ys,mm (UI x)/\∀ y c,x=.ix y c->c∈bQ.map Xo:=fun x hx=>by
  rcases DO.mp hx with g|g
  .obtain ⟨y,hm,rfl⟩:=Xi.mp g;exact ⟨(tn y hm).tx,fun _ _ e=>nomatch e⟩
  .have hv:=hy.v x g;cases x with
   | tab y=>exact hv.elim
   | ix y c=>exact ⟨(tn y hv.1).tx,fun _ _ e=>by cases e;exact hv.2⟩
   | put y n a k=>exact ⟨(tn y hv.1).tx,fun _ _ e=>nomatch e⟩
 generalize hC:nm.map Ch.tab++ys=C at Y ey;obtain ⟨o3,ek⟩:=Hw (S:=.lst (L.map D.int)) (N:=.lst (nm.map D.str)) (C:=.lst (C.map bX)) C none fun x hx=>PM (Y x hx).1 (Y x hx).2;refine aG ((ay (aI (aq (ac (gm (zy (J 0 _ rfl) rfl) rfl) (ac rfl rfl)) (dD en)))).trans ((ay (aI (aq (ac rfl (ac (mv rfl (dq rfl) rfl (WA D.int L (j:=2) rfl)) rfl)) (dD ey)))).trans ((ay (rl (ju rfl rfl) ek)).trans ?_)));have q:bS (aE eY (aE iC (ao (cR eR) (ae (ai 0) (ae kJ ap))) Hq) kJ) (AE (.lst (L.map D.int)) (.lst (nm.map D.str)) (.lst (C.map bX)) o3 none none none none none none none)=.ok (decide (cell L (1:Nat) % 2=1)):=CH (gm (J 1 _ rfl) rfl) rfl;have c1:∀ U:Sd,U[0]?=some (some (.lst (L.map D.int)))->Ry U=.ok (.int (cell L (1:Nat))):=fun U hδ=>J 1 U hδ;cases e1:decide (cell L (1:Nat) % 2=1) with
 | true =>
  rw [e1] at q;exact bU ((bF q).trans (ME h0 ln nd tn hy ly hC c1))
 | false =>
  rw [e1] at q;exact (skip q).trans (G7 h0 h1 n01 ln nd tn hy ly hC Y)
end T32
noncomputable section
namespace HD
open PySem PySem.W PySem.Calls PyProof.Rows
abbrev p:Xh:=PySem.Challenge.pw_tablestore_k32_changes_told
def bd:List Yj:=behindTheImports p
def S (i:Nat):Yj:=match p.main.body[i]? with|some s=>s|none=>.Pass default
def Sc (i j:Nat):Yj:=match S i with
 | .ClassDef _ _ _ b _ _ _ _ _ _ _=>(match b[j]? with|some s=>s|none=>.Pass default)
 | s=>s
def dA (s:Yj):Arguments:=match s with
 | .FunctionDef _ a _ _ _ _ _ _ _ _=>a
 | _=>⟨[],[],none,[],[],none,[]⟩
def dB (s:Yj):List Yj:=match s with
 | .FunctionDef _ _ b _ _ _ _ _ _ _=>b
 | _=>[]
def dS (s:Yj):Scope:=match s with
 | .FunctionDef _ _ _ _ _ _ sc _ _ _=>sc
 | _=>{ kind:=.function,names:=[],isGenerator:=false,isCoroutine:=false }
def fn (s:Yj) (n L:Str) (g:Le) (cl:List (Str×Le)) (d kd J pm:eQ) (an:Option Le) (cd ct:eQ) (Y:Le):Xz:=⟨n,L,dA s,.stmts (dB s),dS s,g,cl,d,kd,J,pm,an,cd,ct,Y⟩
def dN (s:Yj):Str:=match s with
 | .FunctionDef n _ _ _ _ _ _ _ _ _=>n
 | _=>""
def tu (l:ac8):Obj:=⟨.type "tuple",none,.seq l.toArray 0,#[]⟩
def tn (t:Nat):ac3->ac8
 | []=>[]
 | x::r=>.str x t::tn (t+1) r
def tr (k:Int):List (Int×Nat)->ac8
 | []=>[]
 | x::r=>.int x.1 0::.int k 0::.ref x.2::tr k r
def fi (l:ac8):Obj:=⟨.none,none,.fields l.toArray,#[]⟩
def fu (s:Yj) (m:eQ) (c:Nat):Obj:=⟨.type "function",none,.func (fn s (dN s) (dN s) 3 [] .none .none .none m none (.ref c) .none 0),#[]⟩
def pr (s:Yj):Obj:=⟨.none,none,.func (fn s (dN s) (dN s) 0 [] .none .none .none .none none .none .none 0),#[]⟩
def co (n q:Str) (t:Nat) (l a b c d:Int) (v:Nat) (o:Bool) (u:Nat) (x y z:eQ) (k:Nat):Obj:=⟨.type "code",none,.fields #[.str n t,.str q (t+1),.str "/claim/cut.py" (t+2),.int l 0,.int a 0,.int b 0,.int c 0,.int d 0,.ref v,.bool o,.int 181 0,.ref u,.none,x,y,z,.int k 0,.int l 0,.str "/claim/cut.py" (k+1)],#[]⟩
def tO (l:List Obj) (n:Nat):Nat->Nat->Nat->BT
 | 0,_,_=>.nil
 | f+1,a,b=>if b < n then .node (l.getD b ⟨.none,none,.plain,#[]⟩) (tO l n f (2*a) (a+b)) (tO l n f (2*a) (2*a+b)) else .nil
def ke (P:aaN) (x:Str) (t:Nat) (v:eQ):DictEntry:=⟨PyData.keyHash P x,.str x t,v⟩
def en:Env:={ scope:=p.main.scope,locals:=mainNs,globals:=mainNs,cells:=[],code:=(.ref 13),frame:=some 14 }
def cE:Code:=.body bd en
abbrev fq:Pos:=⟨0,0,0,0⟩
def bH:Obj:=tu []
def fD:Obj:=fi []
def Hy (Y:Nat) (L:Nat) (J:Str) (x3:Nat):Obj:=⟨(.type "frame"),none,.plain,#[(some (.ref Y)),(some (.ref 3)),(some (.ref L)),none,(some (.str J x3)),none,(some (.ref 0))]⟩
def WR (P:aaN):List Obj:=[boot_o_0 P,boot_o_1 P,boot_o_2 P,boot_o_3 P,boot_o_4 P,boot_o_5 P,boot_o_6 P,boot_o_7 P,boot_o_8 P,boot_o_9 P,boot_o_10 P,bH,fD,co "<module>" "<module>" 182 1 0 0 0 0 11 false 12 .none .none .none 185,Hy 13 3 "__main__" 164]
def T0 (P:aaN):BT:=tO (WR P) 15 12 1 0
def rA (w:Xv) (os:Zd):topGo aaE p w 11 (some (.ref 6)) 12 ⟨aag w.params,ab7 [],boot_drawn,boot_toks,os⟩ (topStub p)=some ((⟨T0 w.params,15,{},#[],{},187,os⟩:SharedT).abs,⟨denote aaE cE,cE,⟨0,0,0,0⟩,[topFrame fq]⟩):=by
 rw [PySem.W.Fast.te15667345088766844465,X3,PySem.W.Fast.te11892475500146522536];kernel_rfl
def rB (w:Xv) (os:Zd):segRunT aaE p w 11 (some (.ref 6)) 1 1 (⟨T0 w.params,15,{},#[],{},187,os⟩:SharedT) (blockOf bd en cE ⟨0,0,0,0⟩ [topFrame fq])=some (.next,(⟨T0 w.params,15,{},#[],{},187,os⟩:SharedT),cE,⟨0,0,0,0⟩):=by
 rw [YT,X3];kernel_rfl
def K5:Obj:=⟨(.type "builtin_function_or_method"),none,(.fields #[(.builtin "type.__prepare__"),(.type "type")]),#[]⟩
def Mh (P:aaN) (J:Nat) (Y:Str) (L:Int) (x3:Nat):Obj:=⟨(.type "dict"),none,(.dict #[ke P "__module__" J (.str "tablestore.errors" 187),ke P "__qualname__" (J+2) (.str Y (J+1)),ke P "__firstlineno__" (J+4) (.int L (J+3)),ke P "__static_attributes__" (J+5) (.ref x3)] 4),#[]⟩
def K7 (J:Nat):Obj:=⟨(.type "super"),none,(.fields #[(.ref J),(.ref J),(.ref J)]),#[]⟩
def K1 (J:Nat):Obj:=⟨(.type "builtin_function_or_method"),none,(.fields #[(.builtin "object.__init_subclass__"),(.ref J)]),#[]⟩
def NQ:Obj:=tu [.ref 24]
def Ov (P:aaN) (J:Nat) (Y:Int) (L:Nat):Obj:=⟨(.type "dict"),none,(.dict #[ke P "__module__" J (.str "tablestore.errors" 187),ke P "__firstlineno__" (J+4) (.int Y (J+3)),ke P "__static_attributes__" (J+5) (.ref L),ke P "__doc__" (J+6) .none] 2),#[]⟩
def NV (J:Str) (x1:Nat) (Y:Nat) (x3:Nat) (L:Nat):Obj:=⟨(.type "type"),none,(.cls { name:=J,bases:=[(.ref 24)],mro:=[(.ref x1),(.ref 24),(.type "ValueError"),(.type "Exception"),(.type "BaseException"),(.type "object")],ns:=Y,qualname:=J,hasDict:=true,slotNames:=[],subclasses:=[],abstract:=false,collection:=none,hasDel:=false }),#[(some (.ref x3)),none,(some (.str J L)),(some (.str J (L+8))),(some (.builtin "ValueError.__new__")),(some (.bool true))]⟩
def m335:eQ:=.str "tablestore.values" 335
def m378:eQ:=.str "tablestore.ordered" 378
def m436:eQ:=.str "tablestore.shapes" 436
def m528:eQ:=.str "tablestore.balance" 528
def m616:eQ:=.str "tablestore.tables" 616
def m707:eQ:=.str "tablestore.states" 707
def m820:eQ:=.str "law_tablestore_k32_changes_told" 820
def g0:List Yj:=(bd.drop 0).take 84
def WC (P:aaN):List Obj:=((WR P).set 3 (⟨(.type "dict"),none,(.dict #[ke P "__name__" 165 (.str "law_tablestore_k32_changes_told" 820),ke P "__doc__" 166 .none,ke P "__package__" 167 .none,ke P "__loader__" 168 (.builtin "__main__.__loader__#opaque"),ke P "__spec__" 169 .none,ke P "__annotations__" 170 (.ref 6),ke P "__builtins__" 171 (.ref 4),ke P "__file__" 173 (.str "/claim/cut.py" 172),ke P "__cached__" 174 .none,ke P "TableError" 206 (.ref 24),ke P "BadShape" 222 (.ref 37),ke P "BadChange" 238 (.ref 49),ke P "BadRow" 254 (.ref 61),ke P "NoTable" 270 (.ref 73),ke P "TableThere" 286 (.ref 85),ke P "NoColumn" 302 (.ref 97),ke P "IndexThere" 318 (.ref 109),ke P "NoRow" 334 (.ref 121),ke P "KINDS" 340 (.ref 124),ke P "MOST_SIGNS" 342 (.int 40 341),ke P "is_value" 348 (.ref 129),ke P "is_sign" 355 (.ref 136),ke P "kind_of" 362 (.ref 143),ke P "compare" 370 (.ref 150),ke P "order_key" 377 (.ref 157),ke P "FEWEST" 381 (.int 4 380),ke P "MOST" 383 (.int 8 382),ke P "MOST_ROW_NUMBER" 385 (.int 1000000000 384),ke P "comes_ahead" 394 (.ref 164),ke P "empty_index" 400 (.ref 171),ke P "has_entry" 412 (.ref 178),ke P "part_place" 421 (.ref 185),ke P "first_of" 428 (.ref 192),ke P "is_row_number" 435 (.ref 199),ke P "NO_NAMES" 449 (.ref 200),ke P "COLUMN_KINDS" 452 (.ref 201),ke P "MOST_LETTERS" 454 (.int 8 453),ke P "MOST_COLUMNS" 456 (.int 8 455),ke P "is_name" 462 (.ref 206),ke P "is_letter" 469 (.ref 213),ke P "is_shape" 476 (.ref 220),ke P "is_pair" 483 (.ref 227),ke P "are_columns" 489 (.ref 232),ke P "is_column" 496 (.ref 239),ke P "is_column_kind" 503 (.ref 246),ke P "column_place" 513 (.ref 253),ke P "fits" 519 (.ref 258),ke P "fits_kind" 527 (.ref 265),ke P "with_entry" 538 (.ref 272),ke P "cells_with" 544 (.ref 277),ke P "cells_of" 557 (.ref 284),ke P "parts_of" 563 (.ref 289),ke P "rooted" 571 (.ref 296),ke P "without_entry" 581 (.ref 303),ke P "cell_without" 587 (.ref 308),ke P "mended" 599 (.ref 315),ke P "index_from" 608 (.ref 322),ke P "entry_key" 615 (.ref 329),ke P "Table" 650 (.ref 346),ke P "new_table" 657 (.ref 357),ke P "with_row" 670 (.ref 364),ke P "without_row" 681 (.ref 371),ke P "index_without" 691 (.ref 378),ke P "with_index" 700 (.ref 385),ke P "entries_by" 706 (.ref 390),ke P "FORMS" 721 (.ref 391),ke P "changed" 730 (.ref 398),ke P "all_changed" 740 (.ref 405),ke P "word_of" 747 (.ref 412),ke P "state_with_table" 755 (.ref 419),ke P "state_with_index" 765 (.ref 426),ke P "state_with_row" 776 (.ref 433),ke P "state_without_row" 786 (.ref 440),ke P "table_in" 794 (.ref 447),ke P "refuse_no_row" 802 (.ref 454),ke P "state_with" 812 (.ref 461),ke P "key_of" 819 (.ref 468),ke P "_law_cell_at" 829 (.ref 475),ke P "_law_names" 835 (.ref 480),ke P "_law_changes" 841 (.ref 485),ke P "_law_key" 848 (.ref 492),ke P "_law_wrong" 858 (.ref 499),ke P "_law_rows" 869 (.ref 506),ke P "_law_refused" 878 (.ref 513),ke P "law" 895 (.ref 520)] 85),#[]⟩)).set 12 (fi (tr 0 [(2,20),(4,33),(6,45),(8,57),(10,69),(12,81),(14,93),(16,105),(18,117),(23,128),(29,135),(31,142),(35,149),(41,156),(49,163),(52,170),(54,177),(61,184),(66,191),(68,198),(75,205),(79,212),(81,219),(83,226),(85,231),(92,238),(94,245),(96,252),(101,257),(106,264),(109,271),(113,276),(122,283),(130,288),(132,295),(137,302),(144,307),(153,314),(162,321),(170,328),(173,335),(179,356),(181,363),(189,370),(196,377),(201,384),(205,389),(210,397),(219,404),(224,411),(230,418),(236,425),(243,432),(250,439),(254,446),(258,453),(261,460),(265,467),(272,474),(276,479),(290,484),(301,491),(307,498),(313,505),(321,512),(327,519)]))++[tu [.type "ValueError"],K5,Mh P 196 "TableError" 2 22,bH,fD,co "TableError" "TableError" 191 2 0 0 0 0 18 false 19 .none .none .none 194,Hy 20 17 "tablestore.errors" 187,bH,⟨(.type "dict"),none,(.dict #[ke P "__module__" 196 (.str "tablestore.errors" 187),ke P "__firstlineno__" 200 (.int 2 199),ke P "__static_attributes__" 201 (.ref 22),ke P "__weakref__" 203 (.ref 25),ke P "__doc__" 204 .none] 3),#[]⟩,⟨(.type "type"),none,(.cls { name:="TableError",bases:=[(.type "ValueError")],mro:=[(.ref 24),(.type "ValueError"),(.type "Exception"),(.type "BaseException"),(.type "object")],ns:=23,qualname:="TableError",hasDict:=true,slotNames:=[],subclasses:=[(.ref 37),(.ref 49),(.ref 61),(.ref 73),(.ref 85),(.ref 97),(.ref 109),(.ref 121)],abstract:=false,collection:=none,hasDel:=false }),#[(some (.ref 15)),none,(some (.str "TableError" 189)),(some (.str "TableError" 197)),(some (.builtin "ValueError.__new__")),(some (.bool true))]⟩,⟨(.type "getset_descriptor"),none,(.fields #[(.str "__weakref__" 202),(.ref 24),(.builtin "ExceptionGroup.__weakref__"),.none]),#[]⟩,K7 24,K1 24,NQ,K5,Mh P 214 "BadShape" 4 35,bH,fD,co "BadShape" "BadShape" 209 4 0 0 0 0 31 false 32 .none .none .none 212,Hy 33 30 "tablestore.errors" 187,bH,Ov P 214 4 35,NV "BadShape" 37 36 28 207,K7 37,K1 37,NQ,K5,Mh P 230 "BadChange" 6 47,bH,fD,co "BadChange" "BadChange" 225 6 0 0 0 0 43 false 44 .none .none .none 228,Hy 45 42 "tablestore.errors" 187,bH,Ov P 230 6 47,NV "BadChange" 49 48 40 223,K7 49,K1 49,NQ,K5,Mh P 246 "BadRow" 8 59,bH,fD,co "BadRow" "BadRow" 241 8 0 0 0 0 55 false 56 .none .none .none 244,Hy 57 54 "tablestore.errors" 187,bH,Ov P 246 8 59,NV "BadRow" 61 60 52 239,K7 61,K1 61,NQ,K5,Mh P 262 "NoTable" 10 71,bH,fD,co "NoTable" "NoTable" 257 10 0 0 0 0 67 false 68 .none .none .none 260,Hy 69 66 "tablestore.errors" 187,bH,Ov P 262 10 71,NV "NoTable" 73 72 64 255,K7 73,K1 73,NQ,K5,Mh P 278 "TableThere" 12 83,bH,fD,co "TableThere" "TableThere" 273 12 0 0 0 0 79 false 80 .none .none .none 276,Hy 81 78 "tablestore.errors" 187,bH,Ov P 278 12 83,NV "TableThere" 85 84 76 271,K7 85,K1 85,NQ,K5,Mh P 294 "NoColumn" 14 95,bH,fD,co "NoColumn" "NoColumn" 289 14 0 0 0 0 91 false 92 .none .none .none 292,Hy 93 90 "tablestore.errors" 187,bH,Ov P 294 14 95,NV "NoColumn" 97 96 88 287,K7 97,K1 97,NQ,K5,Mh P 310 "IndexThere" 16 107,bH,fD,co "IndexThere" "IndexThere" 305 16 0 0 0 0 103 false 104 .none .none .none 308,Hy 105 102 "tablestore.errors" 187,bH,Ov P 310 16 107,NV "IndexThere" 109 108 100 303,K7 109,K1 109,NQ,K5,Mh P 326 "NoRow" 18 119,bH,fD,co "NoRow" "NoRow" 321 18 0 0 0 0 115 false 116 .none .none .none 324,Hy 117 114 "tablestore.errors" 187,bH,Ov P 326 18 119,NV "NoRow" 121 120 112 319,K7 121,K1 121,tu (tn 337 ["none","number","text"]),bH,fD,pr (S 13),co "is_value" "is_value" 343 23 1 0 0 3 125 true 126 .none .none (.ref 127) 346,fu (S 13) m335 128,bH,fD,tu (tn 352 ["sign"]),bH,pr (S 14),co "is_sign" "is_sign" 349 29 1 0 0 3 130 true 131 (.ref 132) (.ref 133) (.ref 134) 353,fu (S 14) m335 135,bH,fD,tu (tn 359 ["value"]),bH,pr (S 15),co "kind_of" "kind_of" 356 31 1 0 0 3 137 true 138 (.ref 139) (.ref 140) (.ref 141) 360,fu (S 15) m335 142,bH,fD,tu (tn 366 ["one","other"]),bH,pr (S 16),co "compare" "compare" 363 35 2 0 0 3 144 true 145 (.ref 146) (.ref 147) (.ref 148) 368,fu (S 16) m335 149,bH,fD,tu (tn 374 ["value"]),bH,pr (S 17),co "order_key" "order_key" 371 41 1 0 0 3 151 true 152 (.ref 153) (.ref 154) (.ref 155) 375,fu (S 17) m335 156,bH,fD,tu (tn 389 ["one","other","told"]),bH,pr (S 22),co "comes_ahead" "comes_ahead" 386 49 2 0 0 3 158 true 159 (.ref 160) (.ref 161) (.ref 162) 392,fu (S 22) m378 163,bH,fD,bH,bH,pr (S 23),co "empty_index" "empty_index" 395 52 0 0 0 3 165 true 166 (.ref 167) (.ref 168) (.ref 169) 398,fu (S 23) m378 170,bH,fD,tu (tn 404 ["index","value","number","entry","cell","parts"]),bH,pr (S 24),co "has_entry" "has_entry" 401 54 3 0 0 3 172 true 173 (.ref 174) (.ref 175) (.ref 176) 410,fu (S 24) m378 177,bH,fD,tu (tn 416 ["parts","entry","place"]),bH,pr (S 25),co "part_place" "part_place" 413 61 2 0 0 3 179 true 180 (.ref 181) (.ref 182) (.ref 183) 419,fu (S 25) m378 184,bH,fD,tu (tn 425 ["cell"]),bH,pr (S 26),co "first_of" "first_of" 422 66 1 0 0 3 186 true 187 (.ref 188) (.ref 189) (.ref 190) 426,fu (S 26) m378 191,bH,fD,tu (tn 432 ["thing"]),bH,pr (S 27),co "is_row_number" "is_row_number" 429 68 1 0 0 3 193 true 194 (.ref 195) (.ref 196) (.ref 197) 433,fu (S 27) m378 198,tu (tn 438 ["and","by","down","from","none","not","or","order","show","take","where"]),tu (tn 450 ["number","text"]),bH,fD,pr (S 33),co "is_name" "is_name" 457 75 1 0 0 3 202 true 203 .none .none (.ref 204) 460,fu (S 33) m436 205,bH,fD,tu (tn 466 ["sign"]),bH,pr (S 34),co "is_letter" "is_letter" 463 79 1 0 0 3 207 true 208 (.ref 209) (.ref 210) (.ref 211) 467,fu (S 34) m436 212,bH,fD,tu (tn 473 ["thing"]),bH,pr (S 35),co "is_shape" "is_shape" 470 81 1 0 0 3 214 true 215 (.ref 216) (.ref 217) (.ref 218) 474,fu (S 35) m436 219,bH,fD,tu (tn 480 ["thing"]),bH,pr (S 36),co "is_pair" "is_pair" 477 83 1 0 0 3 221 true 222 (.ref 223) (.ref 224) (.ref 225) 481,fu (S 36) m436 226,bH,fD,pr (S 37),co "are_columns" "are_columns" 484 85 1 0 0 3 228 true 229 .none .none (.ref 230) 487,fu (S 37) m436 231,bH,fD,tu (tn 493 ["thing"]),bH,pr (S 38),co "is_column" "is_column" 490 92 1 0 0 3 233 true 234 (.ref 235) (.ref 236) (.ref 237) 494,fu (S 38) m436 238,bH,fD,tu (tn 500 ["thing"]),bH,pr (S 39),co "is_column_kind" "is_column_kind" 497 94 1 0 0 3 240 true 241 (.ref 242) (.ref 243) (.ref 244) 501,fu (S 39) m436 245,bH,fD,tu (tn 507 ["shape","column","place","pair"]),bH,pr (S 40),co "column_place" "column_place" 504 96 2 0 0 3 247 true 248 (.ref 249) (.ref 250) (.ref 251) 511,fu (S 40) m436 252,bH,fD,pr (S 41),co "fits" "fits" 514 101 2 0 0 3 254 true 255 .none .none (.ref 256) 517,fu (S 41) m436 257,bH,fD,tu (tn 523 ["thing","kind"]),bH,pr (S 42),co "fits_kind" "fits_kind" 520 106 2 0 0 3 259 true 260 (.ref 261) (.ref 262) (.ref 263) 525,fu (S 42) m436 264,bH,fD,tu (tn 533 ["index","value","number"]),bH,pr (S 44),co "with_entry" "with_entry" 530 109 3 0 0 3 266 true 267 (.ref 268) (.ref 269) (.ref 270) 536,fu (S 44) m528 271,bH,fD,pr (S 45),co "cells_with" "cells_with" 539 113 2 0 0 3 273 true 274 .none .none (.ref 275) 542,fu (S 45) m528 276,bH,fD,tu (tn 548 ["word","things","many","cells","place","start","end"]),bH,pr (S 46),co "cells_of" "cells_of" 545 122 2 0 0 3 278 true 279 (.ref 280) (.ref 281) (.ref 282) 555,fu (S 46) m528 283,bH,fD,pr (S 47),co "parts_of" "parts_of" 558 130 1 0 0 3 285 true 286 .none .none (.ref 287) 561,fu (S 47) m528 288,bH,fD,tu (tn 567 ["cells","level"]),bH,pr (S 48),co "rooted" "rooted" 564 132 1 0 0 3 290 true 291 (.ref 292) (.ref 293) (.ref 294) 569,fu (S 48) m528 295,bH,fD,tu (tn 575 ["index","value","number","root"]),bH,pr (S 49),co "without_entry" "without_entry" 572 137 3 0 0 3 297 true 298 (.ref 299) (.ref 300) (.ref 301) 579,fu (S 49) m528 302,bH,fD,pr (S 50),co "cell_without" "cell_without" 582 144 2 0 0 3 304 true 305 .none .none (.ref 306) 585,fu (S 50) m528 307,bH,fD,tu (tn 591 ["parts","place","smaller","start","things","fresh"]),bH,pr (S 51),co "mended" "mended" 588 153 3 0 0 3 309 true 310 (.ref 311) (.ref 312) (.ref 313) 597,fu (S 51) m528 314,bH,fD,tu (tn 603 ["entries","once","entry"]),bH,pr (S 52),co "index_from" "index_from" 600 162 1 0 0 3 316 true 317 (.ref 318) (.ref 319) (.ref 320) 606,fu (S 52) m528 321,bH,fD,tu (tn 612 ["entry"]),bH,pr (S 53),co "entry_key" "entry_key" 609 170 1 0 0 3 323 true 324 (.ref 325) (.ref 326) (.ref 327) 613,fu (S 53) m528 328,bH,K5,⟨(.type "dict"),none,(.dict #[ke P "__module__" 625 (.str "tablestore.tables" 616),ke P "__qualname__" 627 (.str "Table" 626),ke P "__firstlineno__" 629 (.int 173 628),ke P "__init__" 639 (.ref 343),ke P "__static_attributes__" 643 (.ref 344)] 5),#[]⟩,bH,fi (tr 4 [(175,342)]),co "Table" "Table" 620 173 0 0 0 0 333 false 334 .none .none .none 623,Hy 335 332 "tablestore.tables" 616,bH,fD,tu (tn 633 ["self","shape","rows","indexes"]),bH,⟨.none,none,(.func (fn (Sc 55 0) "__init__" "Table.__init__" 0 [] .none .none .none .none none .none .none 0)),#[]⟩,co "__init__" "Table.__init__" 630 175 4 0 0 3 337 true 338 (.ref 339) (.ref 340) (.ref 341) 637,⟨(.type "function"),none,(.func (fn (Sc 55 0) "__init__" "Table.__init__" 3 [] .none .none .none (.str "tablestore.tables" 616) none (.ref 342) .none 0)),#[]⟩,tu (tn 640 ["indexes","rows","shape"]),⟨(.type "dict"),none,(.dict #[ke P "__module__" 625 (.str "tablestore.tables" 616),ke P "__firstlineno__" 629 (.int 173 628),ke P "__init__" 639 (.ref 343),ke P "__static_attributes__" 643 (.ref 344),ke P "__dict__" 645 (.ref 347),ke P "__weakref__" 647 (.ref 348),ke P "__doc__" 648 .none] 4),#[]⟩,⟨(.type "type"),none,(.cls { name:="Table",bases:=[(.type "object")],mro:=[(.ref 346),(.type "object")],ns:=345,qualname:="Table",hasDict:=true,slotNames:=[],subclasses:=[],abstract:=false,collection:=none,hasDel:=false }),#[none,none,(some (.str "Table" 618)),(some (.str "Table" 626)),(some (.builtin "object.__new__")),(some (.bool true))]⟩,⟨(.type "getset_descriptor"),none,(.fields #[(.str "__dict__" 644),(.ref 346),(.builtin "function.__dict__"),(.builtin "function.__dict__#set")]),#[]⟩,⟨(.type "getset_descriptor"),none,(.fields #[(.str "__weakref__" 646),(.ref 346),(.builtin "ExceptionGroup.__weakref__"),.none]),#[]⟩,K7 346,K1 346,bH,fD,tu (tn 654 ["shape"]),bH,pr (S 56),co "new_table" "new_table" 651 179 1 0 0 3 351 true 352 (.ref 353) (.ref 354) (.ref 355) 655,fu (S 56) m616 356,bH,fD,tu (tn 661 ["table","number","row","rows","indexes","column","index"]),bH,pr (S 57),co "with_row" "with_row" 658 181 3 0 0 3 358 true 359 (.ref 360) (.ref 361) (.ref 362) 668,fu (S 57) m616 363,bH,fD,tu (tn 674 ["table","number","rows","indexes","column"]),bH,pr (S 58),co "without_row" "without_row" 671 189 2 0 0 3 365 true 366 (.ref 367) (.ref 368) (.ref 369) 679,fu (S 58) m616 370,bH,fD,tu (tn 685 ["table","column","number","index"]),bH,pr (S 59),co "index_without" "index_without" 682 196 3 0 0 3 372 true 373 (.ref 374) (.ref 375) (.ref 376) 689,fu (S 59) m616 377,bH,fD,tu (tn 695 ["table","column","indexes"]),bH,pr (S 60),co "with_index" "with_index" 692 201 2 0 0 3 379 true 380 (.ref 381) (.ref 382) (.ref 383) 698,fu (S 60) m616 384,bH,fD,pr (S 61),co "entries_by" "entries_by" 701 205 2 0 0 3 386 true 387 .none .none (.ref 388) 704,fu (S 61) m616 389,⟨(.type "dict"),none,(.dict #[ke P "table" 709 (.int 2 710),ke P "index" 711 (.int 3 712),ke P "put" 713 (.int 4 714),ke P "drop" 715 (.int 3 716)] 4),#[]⟩,bH,fD,tu (tn 725 ["state","change","word"]),bH,pr (S 64),co "changed" "changed" 722 210 2 0 0 3 392 true 393 (.ref 394) (.ref 395) (.ref 396) 728,fu (S 64) m707 397,bH,fD,tu (tn 734 ["state","changes","behind","change"]),bH,pr (S 65),co "all_changed" "all_changed" 731 219 2 0 0 3 399 true 400 (.ref 401) (.ref 402) (.ref 403) 738,fu (S 65) m707 404,bH,fD,tu (tn 744 ["change"]),bH,pr (S 66),co "word_of" "word_of" 741 224 1 0 0 3 406 true 407 (.ref 408) (.ref 409) (.ref 410) 745,fu (S 66) m707 411,bH,fD,tu (tn 751 ["state","shape"]),bH,pr (S 67),co "state_with_table" "state_with_table" 748 230 2 0 0 3 413 true 414 (.ref 415) (.ref 416) (.ref 417) 753,fu (S 67) m707 418,bH,fD,tu (tn 759 ["state","name","column","table"]),bH,pr (S 68),co "state_with_index" "state_with_index" 756 236 3 0 0 3 420 true 421 (.ref 422) (.ref 423) (.ref 424) 763,fu (S 68) m707 425,bH,fD,tu (tn 769 ["state","name","number","row","table"]),bH,pr (S 69),co "state_with_row" "state_with_row" 766 243 4 0 0 3 427 true 428 (.ref 429) (.ref 430) (.ref 431) 774,fu (S 69) m707 432,bH,fD,tu (tn 780 ["state","name","number","table"]),bH,pr (S 70),co "state_without_row" "state_without_row" 777 250 3 0 0 3 434 true 435 (.ref 436) (.ref 437) (.ref 438) 784,fu (S 70) m707 439,bH,fD,tu (tn 790 ["state","name"]),bH,pr (S 71),co "table_in" "table_in" 787 254 2 0 0 3 441 true 442 (.ref 443) (.ref 444) (.ref 445) 792,fu (S 71) m707 446,bH,fD,tu (tn 798 ["table","number"]),bH,pr (S 72),co "refuse_no_row" "refuse_no_row" 795 258 2 0 0 3 448 true 449 (.ref 450) (.ref 451) (.ref 452) 800,fu (S 72) m707 453,bH,fD,tu (tn 806 ["state","name","table","behind"]),bH,pr (S 73),co "state_with" "state_with" 803 261 3 0 0 3 455 true 456 (.ref 457) (.ref 458) (.ref 459) 810,fu (S 73) m707 460,bH,fD,tu (tn 816 ["change"]),bH,pr (S 74),co "key_of" "key_of" 813 265 1 0 0 3 462 true 463 (.ref 464) (.ref 465) (.ref 466) 817,fu (S 74) m707 467,bH,fD,tu (tn 825 ["_law_script","_law_k"]),bH,pr (S 76),co "_law_cell_at" "_law_cell_at" 822 272 2 0 0 3 469 true 470 (.ref 471) (.ref 472) (.ref 473) 827,fu (S 76) m820 474,bH,fD,pr (S 77),co "_law_names" "_law_names" 830 276 2 0 0 3 476 true 477 .none .none (.ref 478) 833,fu (S 77) m820 479,bH,fD,pr (S 78),co "_law_changes" "_law_changes" 836 290 2 0 0 3 481 true 482 .none .none (.ref 483) 839,fu (S 78) m820 484,bH,fD,tu (tn 845 ["_law_change"]),bH,pr (S 79),co "_law_key" "_law_key" 842 301 1 0 0 3 486 true 487 (.ref 488) (.ref 489) (.ref 490) 846,fu (S 79) m820 491,bH,fD,tu (tn 852 ["_law_names_here","_law_cell","_law_row","_law_some"]),bH,pr (S 80),co "_law_wrong" "_law_wrong" 849 307 2 0 0 3 493 true 494 (.ref 495) (.ref 496) (.ref 497) 856,fu (S 80) m820 498,bH,fD,tu (tn 862 ["_law_names_here","_law_changes_here","_law_found","_law_name","_law_change"]),bH,pr (S 81),co "_law_rows" "_law_rows" 859 313 2 0 0 3 500 true 501 (.ref 502) (.ref 503) (.ref 504) 867,fu (S 81) m820 505,bH,fD,tu (tn 873 ["_law_state","_law_changes_here","error"]),bH,pr (S 82),co "_law_refused" "_law_refused" 870 321 2 0 0 3 507 true 508 (.ref 509) (.ref 510) (.ref 511) 876,fu (S 82) m820 512,bH,fD,tu (tn 882 ["_law_script","_law_names_here","_law_changes_here","_law_change","_law_wrong_here","_law_at","_law_handed","_law_due","_law_state","_law_name","_law_more"]),bH,pr (S 83),co "law" "law" 879 327 1 0 0 3 514 true 515 (.ref 516) (.ref 517) (.ref 518) 893,fu (S 83) m820 519]
def T1 (P:aaN):BT:=tO (WC P) 521 12 1 0
def P5 (w:Xv) (os:Zd):Prop:=segRunT aaE p w 11 (some (.ref 6)) 1 4041 (⟨T0 w.params,15,{},#[],{},187,os⟩:SharedT) (piecesOf g0 en cE ⟨0,0,0,0⟩ [topFrame fq])=some (.next,(⟨T1 w.params,521,{},#[],{},896,os⟩:SharedT),cE,⟨327,0,353,149⟩)
def rf0 (w:Xv) (os:Zd):P5 (w.withFollow "special-get-raises" false) os:=by
 unfold P5;rw [YT,X3];kernel_rfl
def rt0 (w:Xv) (os:Zd):P5 (w.withFollow "special-get-raises" true) os:=by
 unfold P5;rw [YT,X3];kernel_rfl
def rG0 (w:Xv) (os:Zd):segRunT aaE p w 11 (some (.ref 6)) 1 4041 (⟨T0 w.params,15,{},#[],{},187,os⟩:SharedT) (piecesOf g0 en cE ⟨0,0,0,0⟩ [topFrame fq])=some (.next,(⟨T1 w.params,521,{},#[],{},896,os⟩:SharedT),cE,⟨327,0,353,149⟩):=byRow2 "special-get-raises" (P:=fun w=>P5 w os) (fun w=>rf0 w os) (fun w=>rt0 w os) w
abbrev L1 (P:aaN):List Obj:=WC P
def H1 (P:aaN):YG:=⟨ab7 (L1 P),{}⟩
abbrev sf (w:Xv) (os:Zd):iF:=⟨H1 w.params,#[],{},896,os⟩
def rF (w:Xv) (os:Zd):topRun aaE p w 11 (some (.ref 6)) 2 (⟨T1 w.params,521,{},#[],{},896,os⟩:SharedT).abs ⟨doneF .next,cE,⟨327,0,353,149⟩,[topFrame fq]⟩=some (sf w os):=by
 rw [PySem.W.Fast.te14082659384304107361,X3];kernel_rfl
def SV:bd=g0++([]):=by kernel_rfl
def run (w:Xv) (os:Zd):topRun aaE p w 11 (some (.ref 6)) (12+(1+(4041+2))) ⟨aag w.params,ab7 [],boot_drawn,boot_toks,os⟩ (topStub p)=some (sf w os) :=
 go_top (n:=12) (rA w os) (piece_block (n:=1) (segRun_of (rB w os)) (SV ▸ piece_app (n:=4041) (l:=g0) (segRun_of (rG0 w os)) (piece_nil (rF w os))))
def q:Xh:=view p [1,2,3,4,5,6,7,8,9,11,12,13,14,15,16,17,19,20,21,22,23,24,25,26,27,29,30,31,32,33,34,35,36,37,38,39,40,41,42,44,45,46,47,48,49,50,51,52,53,55,56,57,58,59,60,61,63,64,65,66,67,68,69,70,71,72,73,74,76,77,78,79,80,81,82,83]
def RV (w:Xv):(fencedOpening aaE p w 8206).map (fun s=>(s.heap,s.gens,s.drawn,s.toks))=some (aag w.params,ab7 [],boot_drawn,boot_toks) :=
 boot_open (by kernel_rfl) (by decide) (fun s=>by kernel_rfl) w
theorem size (w:Xv):((aag w.params).isNs W9&&(ab7 []:Array GenState).size==0,(aag w.params).objs.size,(aag w.params).nsMap W9 "__annotations__")=(true,11,(some (.ref 6))):=by
 kernel_rfl
def k0 (w:Xv) (os:Zd):(staticsOk (importedModules p.main.body) (aag w.params) (H1 w.params)&&namesBound p (H1 w.params)&&gensDone (sf w os)&&laidKept (aag w.params) (H1 w.params))=true:=by kernel_rfl
def k1 (w:Xv) (os:Zd):seen ((recsOf q).map (·.name)) (ownsOf q) [] { (sf w os) with gens:=#[] }=expectedOf q:=by
 kernel_rfl
def k2 (w:Xv) (os:Zd):(sf w os).heap.bltView=bltViewBooted:=by
 kernel_rfl
theorem k3 (w:Xv) (os:Zd):((sf w os).heap.keysOk (looseW q ["FORMS"]) ((recsOf q).map (·.name)) ((litsOf q).map (·.1)) ((clssOf q (looseW q ["FORMS"])).map (·.name))&&(sf w os).heap.accountedOkI (importedModules p.main.body)&&(sf w os).heap.isNs W9&&(sf w os).heap.isNs builtinsNs&&tablesOk q (sf w os).heap&&(xlAt q [] (sf w os)&&recOk [] (sf w os))&&(if true then (sf w os).gens.size==0 else !leftWithCleanup (sf w os).gens))=true:=by
 kernel_rfl
theorem k4 (w:Xv) (os:Zd):tabsOk q (sf w os)=true:=by
 kernel_rfl
def k5 (w:Xv) (os:Zd):pinSeenD q (drecsOf q) (sf w os)=pinGoodD (drecsOf q):=by
 kernel_rfl
def k6 (w:Xv) (os:Zd):plainSeenE q (looseW q ["FORMS"]) (sf w os)=plainGoodE q (looseW q ["FORMS"]):=by
 kernel_rfl
def k7 (w:Xv) (os:Zd):plainSeenD q ["FORMS"] (sf w os)=plainGoodD q ["FORMS"]:=by
 kernel_rfl
def k8 (w:Xv) (os:Zd):wideSeen q (sf w os)=wideGood q:=by
 kernel_rfl
def k9 (w:Xv) (os:Zd):clsSeenW q ["FORMS"] (sf w os)=clsGoodW q ["FORMS"]:=by
 kernel_rfl
def ad:ac7:=YN 521
def K (P:aaN):Frag:=ad.zip (L1 P)
def kY (w:Xv) (os:Zd):X.obsZ ad (sf w os)=X.valZ K 521 896 w:=by kernel_rfl
def left:LeftO p q ["FORMS"] (fun s=>xlAt q [] s&&recOk [] s) (X.obsZ ad) (X.valZ K 521 896) 8206 :=
 LeftO.of_pieces (H₀:=aag) (H₁:=H1) (gs₀:=ab7 []) (gs₁:=#[]) (d₀:=boot_drawn) (d₁:={}) (k₀:=boot_toks) (k₁:=896) (m₀:=11) (ann:=(some (.ref 6))) (M:=(12+(1+(4041+2)))) RV size run (by decide) fun w=>funext fun os=>Zr (k0 w os) (Zr (Zr (k1 w os) (Zr (k2 w os) (Zr (k3 w os) (Zr (k4 w os) (Zr (k5 w os) (Zr (k6 w os) (Zr (k7 w os) (Zr (k8 w os) (k9 w os))))))))) (kY w os))
def dP (s:Yj):Pos:=match s with
 | .FunctionDef _ _ _ _ _ _ _ _ _ x=>x
 | _=>default
def d:DefRec:=⟨"law",dA (S 83),dB (S 83),dS (S 83),dP (S 83)⟩
def ws:PySem.Challenge.rw_tablestore_k32_changes_told.wellSaid=true:=by kernel_rfl
def hold (L:WalkX q ["FORMS"] (XL q []) (X.obsZ ad) (X.valZ K 521 896) PySem.Challenge.rw_tablestore_k32_changes_told.row.toRowW d [] fun f vs=>ach f vs):PySem.Challenge.rw_tablestore_k32_changes_told.Holds:=by
 refine holds_law ws fun J=>?_;refine holds_openX (q:=q) (loose:=["FORMS"]) (Xt:=fun s=>xlAt q [] s&&recOk [] s) (XP:=XL q []) (N:=8206) left (fun s e=>xl_of s (abE.mp e).1) XL.keeps (d:=d) (kwd:=[]) (by kernel_rfl) (by kernel_rfl) (by kernel_rfl) (fun s e=>recFacts_of (abE.mp e).2) (by rfl) J (by trivial) ⟨rfl,rfl,rfl,rfl,rfl,by trivial⟩ ?hw L
 case hw=>w_witness2
end HD
end
namespace T32
open PySem L2
def dk {w:Xv} {h:YG} {mg:ac6} (X:(HD.K w.params).In h) (G:h.Ns W9 mg) {n:Str} {st:Yj} {f:Nat} (c:Nat) (m:eQ) {ps:ac3}
  (a:Xg (HD.K w.params) W9 n=some (some (.ref f))/\(HD.K w.params).lookup f=some ⟨.type "function",none,.func (Yy n n (jK st) (e9 st) (au st) .none .none .none m none (.ref c) .none),#[]⟩/\Z7 (HD.K w.params) (.ref c) n=true/\Z6 (HD.K w.params) (.ref f)=true)
  (b:∀ (kV L Y:eQ) (an:Option Le) (J ct:eQ) (us:ac8),us.length=ps.length->bindArgs (Yy n n (jK st) (e9 st) (au st) .none kV L Y an J ct) ⟨us,[]⟩=pure (ps.zip us)) :
  Def (HD.K w.params) mg n st ps f (Yy n n (jK st) (e9 st) (au st) .none .none .none m none (.ref c) .none) :=
 have F:=Jb (st:=st) a.2.1 a.2.2.1 a.2.2.2
 ⟨F,F.binds b,XQ X G a.1⟩
local macro_rules | `(tactic| walk_at"kk") => `(tactic| exact ⟨by kernel_rfl, by kernel_rfl, by kernel_rfl, by kernel_rfl⟩)
local macro_rules | `(tactic| walk_at "kz") => `(tactic| kernel_rfl)
def all_mk {l:abl} {w:Xv} {h:YG} {mg:ac6} {fa:Le} (X:(HD.K w.params).In h) (G:h.Ns W9 mg) (hfa:mg "law"=some (.ref fa)) :
  ∃ fd:Xz,(∀ (s:iF) (v:eQ),BindsTo s fd ⟨[v],[]⟩ [("_law_script",v)])/\∀ base:YG,(HD.K w.params).In base->base.Ns W9 mg->FnOk l.prog w (HD.K w.params) mg base cQ 53 fa fd xq (dQ (HD.K w.params) mg (cR yn)):=by
 have a55:Xg (HD.K w.params) W9 "law"=some (some (.ref 520)):=by kernel_rfl
 have v_KINDS:Xg (HD.K w.params) W9 "KINDS"=some (some (.ref 124)):=by kernel_rfl
 have w_KINDS:(HD.K w.params).lookup 124=some ⟨.type "tuple",none,.seq #[.str "none" 337,.str "number" 338,.str "text" 339] 0,#[]⟩:=by kernel_rfl
 have v_MOST_SIGNS:Xg (HD.K w.params) W9 "MOST_SIGNS"=some (some (.int 40 341)):=by kernel_rfl
 have v_FEWEST:Xg (HD.K w.params) W9 "FEWEST"=some (some (.int 4 380)):=by kernel_rfl
 have v_MOST:Xg (HD.K w.params) W9 "MOST"=some (some (.int 8 382)):=by kernel_rfl
 have v_MOST_ROW_NUMBER:Xg (HD.K w.params) W9 "MOST_ROW_NUMBER"=some (some (.int 1000000000 384)):=by kernel_rfl
 have v_NO_NAMES:Xg (HD.K w.params) W9 "NO_NAMES"=some (some (.ref 200)):=by kernel_rfl
 have w_NO_NAMES:(HD.K w.params).lookup 200=some ⟨.type "tuple",none,.seq #[.str "and" 438,.str "by" 439,.str "down" 440,.str "from" 441,.str "none" 442,.str "not" 443,.str "or" 444,.str "order" 445,.str "show" 446,.str "take" 447,.str "where" 448] 0,#[]⟩:=by kernel_rfl
 have v_COLUMN_KINDS:Xg (HD.K w.params) W9 "COLUMN_KINDS"=some (some (.ref 201)):=by kernel_rfl
 have L:(HD.K w.params).lookup 201=some ⟨.type "tuple",none,.seq #[.str "number" 450,.str "text" 451] 0,#[]⟩:=by kernel_rfl
 have v_MOST_LETTERS:Xg (HD.K w.params) W9 "MOST_LETTERS"=some (some (.int 8 453)):=by kernel_rfl
 have v_MOST_COLUMNS:Xg (HD.K w.params) W9 "MOST_COLUMNS"=some (some (.int 8 455)):=by kernel_rfl
 have vO:Xg (HD.K w.params) W9 "FORMS"=some (some (.ref 391)):=by kernel_rfl
 have w_FORMS:(HD.K w.params).lookup 391=some ⟨.type "dict",none,.dict #[HD.ke w.params "table" 709 (.int 2 710),HD.ke w.params "index" 711 (.int 3 712),HD.ke w.params "put" 713 (.int 4 714),HD.ke w.params "drop" 715 (.int 3 716)] 4,#[]⟩:=by kernel_rfl
 have kk_FORMS:aax w.params #[HD.ke w.params "table" 709 (.int 2 710),HD.ke w.params "index" 711 (.int 3 712),HD.ke w.params "put" 713 (.int 4 714),HD.ke w.params "drop" 715 (.int 3 716)].toList:=⟨⟨_,_,rfl,rfl⟩,⟨⟨_,_,rfl,rfl⟩,⟨⟨_,_,rfl,rfl⟩,⟨⟨_,_,rfl,rfl⟩,Yw⟩⟩⟩⟩;have i_FORMS_3:Xg (HD.K w.params) 391 "drop"=some (some (.int 3 716)):=by kernel_rfl
 have i_FORMS_2:Xg (HD.K w.params) 391 "put"=some (some (.int 4 714)):=by kernel_rfl
 have i_FORMS_1:Xg (HD.K w.params) 391 "index"=some (some (.int 3 712)):=by kernel_rfl
 have i_FORMS_0:Xg (HD.K w.params) 391 "table"=some (some (.int 2 710)):=by kernel_rfl
 have AO:#[HD.ke w.params "table" 709 (.int 2 710),HD.ke w.params "index" 711 (.int 3 712),HD.ke w.params "put" 713 (.int 4 714),HD.ke w.params "drop" 715 (.int 3 716)].toList.map (fun e=>Mq e.key)=(gU.map (·.1)).map some:=by kernel_rfl
 have AQ:(391==YC)=false:=by kernel_rfl
 have ft:Xg (HD.K w.params) W9 "BadChange"=some (some (.ref 49)):=by kernel_rfl
 have m7:Xg (HD.K w.params) W9 "NoRow"=some (some (.ref 121)):=by kernel_rfl
 have l7:Xg (HD.K w.params) W9 "TableError"=some (some (.ref 24)):=by kernel_rfl
 have lM:Za (HD.K w.params) 49 Gb "ValueError.__new__"=true:=by kernel_rfl
 have AS:Za (HD.K w.params) 121 Gb "ValueError.__new__"=true:=by kernel_rfl
 have Y:Z9 (HD.K w.params) (.ref 121) (.ref 24)=some true:=by kernel_rfl
 have J:Z9 (HD.K w.params) (.ref 49) (.ref 24)=some true:=by kernel_rfl
 have tb_x:Qw (HD.K w.params) Be KL=true:=by kernel_rfl
 have zn:∀ {n:Str},Xg (HD.K w.params) W9 n=some none->mg n=none:=fun e=>PySem.W.mg_none_of X G e;have e:=hfa.symm.trans (XQ X G a55);cases e;have qk:Def _ mg "is_sign" uo mq 136 _:=dk X G 135 HD.m335 (by walk_at"kk") fun _ _ _ _ _ _=>wc (fun _=>rfl);have og:Def _ mg "is_value" nF ki 129 _:=dk X G 128 HD.m335 (by walk_at"kk") fun _ _ _ _ _ _=>wc (fun _=>rfl);have fg:Def _ mg "kind_of" ug mI 143 _:=dk X G 142 HD.m335 (by walk_at"kk") fun _ _ _ _ _ _=>wc (fun _=>rfl);have ql:Def _ mg "compare" ua mE 150 _:=dk X G 149 HD.m335 (by walk_at"kk") fun _ _ _ _ _ _=>wF (fun _ _=>rfl);have lD:Def _ mg "order_key" pk jm 157 _:=dk X G 156 HD.m335 (by walk_at"kk") fun _ _ _ _ _ _=>wc (fun _=>rfl);have eB:Def _ mg "comes_ahead" lS eh 164 _:=dk X G 163 HD.m378 (by walk_at"kk") fun _ _ _ _ _ _=>wF (fun _ _=>rfl);have iQ:Def _ mg "empty_index" lP fP 171 _:=dk X G 170 HD.m378 (by walk_at"kk") fun _ _ _ _ _ _=>ln0 (rfl);have fh:Def _ mg "part_place" ng du 185 _:=dk X G 184 HD.m378 (by walk_at"kk") fun _ _ _ _ _ _=>wF (fun _ _=>rfl);have jo:Def _ mg "has_entry" pB i5 178 _:=dk X G 177 HD.m378 (by walk_at"kk") fun _ _ _ _ _ _=>K8 (fun _ _ _=>rfl);have oh:Def _ mg "first_of" rg kF 192 _:=dk X G 191 HD.m378 (by walk_at"kk") fun _ _ _ _ _ _=>wc (fun _=>rfl);have dZ:Def _ mg "is_row_number" jy dH 199 _:=dk X G 198 HD.m378 (by walk_at"kk") fun _ _ _ _ _ _=>wc (fun _=>rfl);have lF:Def _ mg "is_letter" oO i7 213 _:=dk X G 212 HD.m436 (by walk_at"kk") fun _ _ _ _ _ _=>wc (fun _=>rfl);have m4:Def _ mg "is_name" pS ma 206 _:=dk X G 205 HD.m436 (by walk_at"kk") fun _ _ _ _ _ _=>wc (fun _=>rfl);have fj:Def _ mg "is_column_kind" ir cY 246 _:=dk X G 245 HD.m436 (by walk_at"kk") fun _ _ _ _ _ _=>wc (fun _=>rfl);have m5:Def _ mg "is_pair" uw mr 227 _:=dk X G 226 HD.m436 (by walk_at"kk") fun _ _ _ _ _ _=>wc (fun _=>rfl);have lG:Def _ mg "is_column" pF jl 239 _:=dk X G 238 HD.m436 (by walk_at"kk") fun _ _ _ _ _ _=>wc (fun _=>rfl);have iR:Def _ mg "are_columns" fK fG 232 _:=dk X G 231 HD.m436 (by walk_at"kk") fun _ _ _ _ _ _=>wc (fun _=>rfl);have oi:Def _ mg "is_shape" rp j4 220 _:=dk X G 219 HD.m436 (by walk_at"kk") fun _ _ _ _ _ _=>wc (fun _=>rfl);have cy:Def _ mg "column_place" j7 eS 253 _:=dk X G 252 HD.m436 (by walk_at"kk") fun _ _ _ _ _ _=>wF (fun _ _=>rfl);have lH:Def _ mg "fits_kind" oS jf 265 _:=dk X G 264 HD.m436 (by walk_at"kk") fun _ _ _ _ _ _=>wF (fun _ _=>rfl);have AH:Def _ mg "fits" Aq wl 258 _:=dk X G 257 HD.m436 (by walk_at"kk") fun _ _ _ _ _ _=>wF (fun _ _=>rfl);have eU:Def _ mg "cells_of" rJ iE 284 _:=dk X G 283 HD.m528 (by walk_at"kk") fun _ _ _ _ _ _=>wF (fun _ _=>rfl);have gv:Def _ mg "parts_of" nS gq 289 _:=dk X G 288 HD.m528 (by walk_at"kk") fun _ _ _ _ _ _=>wc (fun _=>rfl);have pO:Def _ mg "rooted" wT pz 296 _:=dk X G 295 HD.m528 (by walk_at"kk") fun _ _ _ _ _ _=>wc (fun _=>rfl);have hZ:Def _ mg "cells_with" gW dE 277 _:=dk X G 276 HD.m528 (by walk_at"kk") fun _ _ _ _ _ _=>wF (fun _ _=>rfl);have jX:Def _ mg "with_entry" nA gI 272 _:=dk X G 271 HD.m528 (by walk_at"kk") fun _ _ _ _ _ _=>K8 (fun _ _ _=>rfl);have tR:Def _ mg "mended" wm mC 315 _:=dk X G 314 HD.m528 (by walk_at"kk") fun _ _ _ _ _ _=>K8 (fun _ _ _=>rfl);have eV:Def _ mg "cell_without" gO ck 308 _:=dk X G 307 HD.m528 (by walk_at"kk") fun _ _ _ _ _ _=>wF (fun _ _=>rfl);have gc:Def _ mg "without_entry" jx dR 303 _:=dk X G 302 HD.m528 (by walk_at"kk") fun _ _ _ _ _ _=>K8 (fun _ _ _=>rfl);have lI:Def _ mg "entry_key" pI jh 329 _:=dk X G 328 HD.m528 (by walk_at"kk") fun _ _ _ _ _ _=>wc (fun _=>rfl);have jY:Def _ mg "index_from" nG gJ 322 _:=dk X G 321 HD.m528 (by walk_at"kk") fun _ _ _ _ _ _=>wc (fun _=>rfl);have lJ:Def _ mg "new_table" pe iV 357 _:=dk X G 356 HD.m616 (by walk_at"kk") fun _ _ _ _ _ _=>wc (fun _=>rfl);have gd:Def _ mg "index_without" jr dJ 378 _:=dk X G 377 HD.m616 (by walk_at"kk") fun _ _ _ _ _ _=>K8 (fun _ _ _=>rfl);have oj:Def _ mg "with_row" rP kr 364 _:=dk X G 363 HD.m616 (by walk_at"kk") fun _ _ _ _ _ _=>K8 (fun _ _ _=>rfl);have jZ:Def _ mg "entries_by" jO hJ 390 _:=dk X G 389 HD.m616 (by walk_at"kk") fun _ _ _ _ _ _=>wF (fun _ _=>rfl);have j0:Def _ mg "with_index" nu gK 385 _:=dk X G 384 HD.m616 (by walk_at"kk") fun _ _ _ _ _ _=>wF (fun _ _=>rfl);have qm:Def _ mg "word_of" uG mo 412 _:=dk X G 411 HD.m707 (by walk_at"kk") fun _ _ _ _ _ _=>wc (fun _=>rfl);have fk:Def _ mg "state_with" nX hU 461 _:=dk X G 460 HD.m707 (by walk_at"kk") fun _ _ _ _ _ _=>K8 (fun _ _ _=>rfl);have dF:Def _ mg "state_with_table" gi cu 419 _:=dk X G 418 HD.m707 (by walk_at"kk") fun _ _ _ _ _ _=>wF (fun _ _=>rfl);have iH:Def _ mg "table_in" qU km 447 _:=dk X G 446 HD.m707 (by walk_at"kk") fun _ _ _ _ _ _=>wF (fun _ _=>rfl);have dG:Def _ mg "state_with_index" gr cm 426 _:=dk X G 425 HD.m707 (by walk_at"kk") fun _ _ _ _ _ _=>K8 (fun _ _ _=>rfl);have fm:Def _ mg "state_with_row" iA cZ 433 _:=dk X G 432 HD.m707 (by walk_at"kk") fun _ _ _ _ _ _=>W1 (fun _ _ _ _=>rfl);have ge:Def _ mg "refuse_no_row" jt dY 454 _:=dk X G 453 HD.m707 (by walk_at"kk") fun _ _ _ _ _ _=>wF (fun _ _=>rfl);have cX:Def _ mg "state_without_row" fF b9 440 _:=dk X G 439 HD.m707 (by walk_at"kk") fun _ _ _ _ _ _=>K8 (fun _ _ _=>rfl);have m6:Def _ mg "changed" uC mH 398 _:=dk X G 397 HD.m707 (by walk_at"kk") fun _ _ _ _ _ _=>wF (fun _ _=>rfl);have eD:Def _ mg "all_changed" lV fL 405 _:=dk X G 404 HD.m707 (by walk_at"kk") fun _ _ _ _ _ _=>wF (fun _ _=>rfl);have tS:Def _ mg "key_of" wQ pp 468 _:=dk X G 467 HD.m707 (by walk_at"kk") fun _ _ _ _ _ _=>wc (fun _=>rfl);have eX:Def _ mg "_law_cell_at" pG i4 475 _:=dk X G 474 HD.m820 (by walk_at"kk") fun _ _ _ _ _ _=>wF (fun _ _=>rfl);have qo:Def _ mg "_law_names" pW mS 480 _:=dk X G 479 HD.m820 (by walk_at"kk") fun _ _ _ _ _ _=>wF (fun _ _=>rfl);have lK:Def _ mg "_law_changes" iU iX 485 _:=dk X G 484 HD.m820 (by walk_at"kk") fun _ _ _ _ _ _=>wF (fun _ _=>rfl);have vN:Def _ mg "_law_key" Aa tH 492 _:=dk X G 491 HD.m820 (by walk_at"kk") fun _ _ _ _ _ _=>wc (fun _=>rfl);have qp:Def _ mg "_law_wrong" t6 mV 499 _:=dk X G 498 HD.m820 (by walk_at"kk") fun _ _ _ _ _ _=>wF (fun _ _=>rfl);have tT:Def _ mg "_law_rows" wt oN 506 _:=dk X G 505 HD.m820 (by walk_at"kk") fun _ _ _ _ _ _=>wF (fun _ _=>rfl);have jp:Def _ mg "_law_refused" pj jc 513 _:=dk X G 512 HD.m820 (by walk_at"kk") fun _ _ _ _ _ _=>wF (fun _ _=>rfl);have KP:Def _ mg "law" yi xq 520 _:=dk X G 519 HD.m820 (by walk_at"kk") fun _ _ _ _ _ _=>wc (fun _=>rfl);have tX:mg "Table"=some (.ref 346):=XQ X G (by kernel_rfl);have bj:Cq (HD.K w.params) "Table" 346:=(by kernel_rfl:Xg (HD.K w.params) W9 "Table"=some (some (.ref 346)));have bn:IsC (HD.K w.params) 346:=⟨⟨by kernel_rfl,by kernel_rfl,by kernel_rfl,by kernel_rfl⟩,by kernel_rfl,by kernel_rfl,by kernel_rfl,by kernel_rfl,by kernel_rfl⟩;have pQ:Mk (HD.K w.params) 346 343:=⟨by kernel_rfl,by kernel_rfl,by kernel_rfl,by kernel_rfl⟩;have tY:Fun (HD.K w.params) "__init__" "Table.__init__" l8 343 (Yy "__init__" "Table.__init__" (jK l8) (e9 l8) (au l8) .none .none .none HD.m616 none (.ref 342) .none):=Jb (oc:=.type "function") (od:=none) (osl:=#[]) (by kernel_rfl) (by kernel_rfl) (by kernel_rfl);have pR:=tY.binds (ps:=["self","shape","rows","indexes"]) fun _ _ _ _ _ _=>W1 (fun _ _ _ _=>rfl);have bE:iz (HD.K w.params) 346 "shape":=(by kernel_rfl:X0 (HD.K w.params) (.ref 346) "shape"=some none);have bo:iz (HD.K w.params) 346 "rows":=(by kernel_rfl:X0 (HD.K w.params) (.ref 346) "rows"=some none);have bR:iz (HD.K w.params) 346 "indexes":=(by kernel_rfl:X0 (HD.K w.params) (.ref 346) "indexes"=some none);refine ⟨Yy "law" "law" (jK yi) (e9 yi) (au yi) .none .none .none (.str "law_tablestore_k32_changes_told" 820) none (.ref 519) .none,fun s v=>.of_eq rfl,fun base _ _=>?_⟩;exact (Rm ⟨qk,og,fg,ql,lD,eB,iQ,fh,jo,oh,dZ,lF,m4,fj,m5,lG,iR,oi,cy,lH,AH,eU,gv,pO,hZ,jX,tR,eV,gc,lI,jY,lJ,gd,oj,jZ,j0,qm,fk,dF,iH,dG,fm,ge,cX,m6,eD,tS,eX,qo,lK,vN,qp,tT,jp,KP,⟨_,w_KINDS,rfl,rfl⟩,XQ X G v_KINDS,rfl,fun H=>⟨124,[V.str "none",V.str "number",V.str "text"],rfl,.inr ⟨_,_,_,w_KINDS,rfl,rfl,(by rw [XJ];exact IF (show 3<=1000 by decide) (by decide)),(.cons ⟨_,rfl⟩ (.cons ⟨_,rfl⟩ (.cons ⟨_,rfl⟩ .nil)))⟩,(aJ.cons rfl (aJ.cons rfl (aJ.cons rfl aJ.nil)))⟩,XQ X G v_MOST_SIGNS,⟨_,rfl⟩,fun H=>rfl,XQ X G v_FEWEST,⟨_,rfl⟩,fun H=>rfl,XQ X G v_MOST,⟨_,rfl⟩,fun H=>rfl,XQ X G v_MOST_ROW_NUMBER,⟨_,rfl⟩,fun H=>rfl,⟨_,w_NO_NAMES,rfl,rfl⟩,XQ X G v_NO_NAMES,rfl,fun H=>⟨200,[V.str "and",V.str "by",V.str "down",V.str "from",V.str "none",V.str "not",V.str "or",V.str "order",V.str "show",V.str "take",V.str "where"],rfl,.inr ⟨_,_,_,w_NO_NAMES,rfl,rfl,(by rw [XJ];exact IF (show 11<=1000 by decide) (by decide)),(.cons ⟨_,rfl⟩ (.cons ⟨_,rfl⟩ (.cons ⟨_,rfl⟩ (.cons ⟨_,rfl⟩ (.cons ⟨_,rfl⟩ (.cons ⟨_,rfl⟩ (.cons ⟨_,rfl⟩ (.cons ⟨_,rfl⟩ (.cons ⟨_,rfl⟩ (.cons ⟨_,rfl⟩ (.cons ⟨_,rfl⟩ .nil)))))))))))⟩,(aJ.cons rfl (aJ.cons rfl (aJ.cons rfl (aJ.cons rfl (aJ.cons rfl (aJ.cons rfl (aJ.cons rfl (aJ.cons rfl (aJ.cons rfl (aJ.cons rfl (aJ.cons rfl aJ.nil)))))))))))⟩,⟨_,L,rfl,rfl⟩,XQ X G v_COLUMN_KINDS,rfl,fun H=>⟨201,[V.str "number",V.str "text"],rfl,.inr ⟨_,_,_,L,rfl,rfl,(by rw [XJ];exact IF (show 2<=1000 by decide) (by decide)),(.cons ⟨_,rfl⟩ (.cons ⟨_,rfl⟩ .nil))⟩,(aJ.cons rfl (aJ.cons rfl aJ.nil))⟩,XQ X G v_MOST_LETTERS,⟨_,rfl⟩,fun H=>rfl,XQ X G v_MOST_COLUMNS,⟨_,rfl⟩,fun H=>rfl,XQ X G vO,w_FORMS,kk_FORMS,fun y d e=>tab_of (tab:=gU) (P:=fun y d=>∃ v u,Xg (HD.K w.params) 391 y=some (some u)/\ba v u/\∀ H,cS (HD.K w.params) H d v) (YI.mpr ⟨⟨.int 2,.int 2 710,i_FORMS_0,⟨_,rfl⟩,fun H=>rfl⟩,(YI.mpr ⟨⟨.int 3,.int 3 712,i_FORMS_1,⟨_,rfl⟩,fun H=>rfl⟩,(YI.mpr ⟨⟨.int 4,.int 4 714,i_FORMS_2,⟨_,rfl⟩,fun H=>rfl⟩,(YI.mpr ⟨⟨.int 3,.int 3 716,i_FORMS_3,⟨_,rfl⟩,fun H=>rfl⟩,(fun _ h=>nomatch h)⟩)⟩)⟩)⟩) e,vO,AO,AQ,XQ X G ft,ft,XQ X G m7,m7,XQ X G l7,l7,lM,AS,TV (YI.mpr ⟨⟨49,ft,XQ X G ft,J⟩,(YI.mpr ⟨⟨121,m7,XQ X G m7,Y⟩,(fun _ h=>nomatch h)⟩)⟩),Ln tb_x,tX,bj,bn,pQ,tY,pR,bE,bo,bR,zn (by kernel_rfl),zn (by kernel_rfl),zn (by kernel_rfl),zn (by kernel_rfl),zn (by kernel_rfl),zn (by kernel_rfl),zn (by kernel_rfl),zn (by kernel_rfl),zn (by kernel_rfl),zn (by kernel_rfl),zn (by kernel_rfl),zn (by kernel_rfl),zn (by kernel_rfl),zn (by kernel_rfl),zn (by kernel_rfl),zn (by kernel_rfl)⟩).still
def walk {l:abl} {q:Xh} {loose:ac3} {XP:(ac6)->YG->Prop} {Y:Xv->YG->Prop} {d:DefRec} {K:aaN->aT} (hn:l.most=some 63) (L:d.params.defaults=[])
  (hY:∀ (w:Xv) (h:YG),Y w h->(K w.params).In h)
  (F:∀ (w:Xv) (mg:ac6) (J:Le) (h:YG),(K w.params).In h->h.Ns W9 mg->mg d.name=some (.ref J) ->
   ∃ fd:Xz,(∀ (s:iF) (u:eQ),BindsTo s fd ⟨[u],[]⟩ [("_law_script",u)])/\∀ base:YG,(K w.params).In base->base.Ns W9 mg->FnOk l.prog w (K w.params) mg base cQ 53 J fd xq (dQ (K w.params) mg (cR yn))) :
  PySem.W.WalkO q loose XP Y l.row.toRowW d [] (fun f vs=>ach f vs) :=
 L2.LU (n:=63) (k:=53) (x:="_law_script") (CX:=fun _=>cQ) (sp:=fun w=>IH (K w.params) (cR yn)) hn (by decide) L ⟨rfl,by decide,by decide⟩ hY (fun w mg J h h1 h2 h3=>L8 (F w mg J h h1 h2 h3)) (fun _ _ a ns hl _ hS=>Nq hS (dD (law_true ns hl)) fun _=>rfl) fun _ _ _ _ _ z=>z
end T32
open PySem PySem.W PyProof.Rows
set_option maxRecDepth 100000 in
set_option maxHeartbeats 0 in
theorem PySem.Challenge.cw_tablestore_k32_changes_told_holds : PySem.Challenge.rw_tablestore_k32_changes_told.Holds := by
 refine HD.hold (L2.walkX (fun _=>by kernel_rfl) ?_);exact T32.walk (l:=PySem.Challenge.rw_tablestore_k32_changes_told) (K:=HD.K) rfl (by kernel_rfl) (fun w h Y=>Y) fun w mg fa h KX G hmg=>T32.all_mk KX G hmg
