import PyProof.Rows.All
import Wide.All
import OpenK.AllK
import Wide.FinOn
import Lean
import PyProof.EqAt
import PyProof.EqKinds
import PyProof.TupleCall
import PyProof.ZipIter
import PyProof.Draws
import PyProof.EnumMake
import PyProof.Rows.SetFrom
import KE.KIntText
import KE.IntTextLaws
import KE.KSortTup
import KE.KDictSum
import KE.KSortedM
import PyProof.ListRange
import PyProof.StrLawsChain
import PyProof.StrCalls6
import PyProof.ExcAttrAll.ValueError
import PySem.Challenge.RW_tablestore_k63_read
set_option maxHeartbeats 4000000
set_option genSizeOf false
set_option bootstrap.genMatcherCode false
set_option maxRecDepth 100000
set_option linter.all false
set_option compiler.extract_closed false
open Array renaming getElem?_eq_some_iff->adE,mk->aeQ
open Bool renaming and_eq_true->oR,false_ne_true->MK,eq_false_iff->aaM,not_eq_true'->abg,and_eq_true_iff->ab7,eq_iff_iff->aca,or_eq_false_iff->acK,or_eq_true->ac1,not_eq_false'->aeN
open Char renaming toNat->aeX
open False renaming elim->abD
open ForInStep renaming yield->adw
open Int renaming emod_lt_of_pos->aaR,emod_nonneg->aba,le_refl->abU,toNat_natCast->adW
open List renaming mem_cons->eQ,mem_cons_of_mem->ie,getElem?_eq_some_iff->rW,mem_append->BY,mem_of_getElem?->Do,mem_singleton->IF,mem_append_left->Le,length_append->LX,mem_append_right->OR,mem_cons_self->aax,not_mem_nil->aaz,replicate->aaA,getElem?_eq_getElem->aaC,append_assoc->aaE,all_eq_true->aaH,getElem?_append_right->aaI,append_nil->aaJ,nodup_cons->aaK,lookup_cons->aaQ,length_cons->aaS,length_map->aaU,map_cons->aaV,getElem?_append_left->aaX,of_mem_zip->aaZ,getElem?_map->aa4,all_cons->aa5,drop_eq_getElem_cons->aa6,dropLast_concat_getLast->aa7,map_inj_left->aa9,length_drop->abq,mem_iff_getElem?->abu,mem_map->abv,nodup_nil->aby,length_nil->abz,getElem?_set_ne->abC,size_toArray->abG,find?_cons->abS,mem_flatten->abZ,length_replicate->ab5,mem_filter->ab9,replicate_append_replicate->acf,getElem?_replicate->ack,mem_map_of_mem->acm,getElem?_set_self->acr,mem_filterMap->acv,lookup->acx,map_append->acA,length_singleton->acC,drop_drop->acN,length->acR,takeWhile_cons->acS,head?->acU,forIn_cons->acZ,findIdx?_eq_some_iff_getElem->ac0,take_of_length_le->ac6,flatten_cons->ac8,map_nil->adg,getElem?_eq_none->adj,mem_of_mem_drop->ado,mem_zipIdx_iff_getElem?->adp,range->ads,filterMap_cons->adt,intersperse_cons_cons->adF,getD_eq_getElem?_getD->adG,reverse_cons->adX,cons_append->ad2,getElem_mem->ad3,isEmpty_iff->ad4,dropLast_eq_take->ad9,length_dropLast->aem,drop_eq_nil_iff->aen,dropLast_concat->aep,mem_range->aeq,drop_zero->aer,map_congr_left->aeA,range'->aeB,any_cons->aeH,getElem?_drop->aeK,mem_replicate->aeO,ext_getElem?->aeW,headD->aeY,set_set->ae4,map_map->ae5,map->ae8,drop->aff
open List.Pairwise renaming nil->aeT
open Nat renaming le_refl->mK,lt_of_lt_of_le->Rw,le_trans->RW,ne_of_lt->aa0,zero_le->aa2,le_succ_of_le->aa3,le_of_ble_eq_true->ab4,lt_irrefl->acE,strongRecOn->ac2,lt_succ_self->adm,le_add_right->adn,ne_of_gt->adH,eq_zero_or_pos->adL,sub_self->adM,reduceAdd->adZ,succ_le_succ->ad1,min_eq_left->ad8,toDigits->aed,not_lt_zero->aef,zero_add->aeg,one_ne_zero->aeh,pow_le_pow_right->ael,add_sub_cancel->aeM,le_of_lt->ae3
open Ne renaming symm->aci
open Option renaming bind_eq_some_iff->bY,map_eq_some_iff->dO,isSome_iff_exists->acd,map_some->ace,isNone_iff_eq_none->adR,isSome->adY,bind_some->ae7,none->afc,any_some->afg
open Option.some renaming inj->acw
open Or renaming inr->ab0,inl->acY
open Prod renaming snd->abd
open Prod.mk renaming inj->ac9
open PyProof.Rows renaming callWith_type1->acy,envOfC->ac4
open PySem renaming wpAny_bind->iF,Value->nE,mainGlobals->By,Shared->ID,Addr->aaB,attributeBase->aaF,wpAny_pure->aaG,sizeLine->aaL,wpAny->aaN,model->aaO,wpAny_mono->aaP,bootBuiltins->aaT,compareOp->aaY,Expr->aa1,starEach->abb,wpAny_Call_Name_kw->abc,Program->abf,World->abh,foldedSetIterable->abl,swapsWith->abm,wpAny_field->abn,sizeLine_eq->abB,assignEach->abE,Around->abF,wpAny_isNot_plain->abH,FuncData->abI,Stmt->abN,mem_of_lookup->abR,wpAny_is_plain->ab6,wpAny_passesOwn->acg,wpAny_truthy_bool->ach,Heap->acn,binaryOp->aco,wpAny_callSpecial?_slot->acp,OsState->acq,wpAny_execs_nil->acD,wpAny_call_entry->acQ,codeAny_mono->acV,sysModules->ada,wpAny_newObj_type->adb,NameKind->ade,wpAny_setField->adf,behindInMarks->adq,backTo->adz,PassesOwn->adA,keywordEach->adB,treeTable->adC,rawInt->adN,Params->adO,recursionLimit->adS,codeAny->ad0,letOwnedTupleGo->aei,evalArgs_none->aex,Keyword->aeD,call->aeS,getItem->ae1,Within->ae2,standAt->afh
open PySem.Builtin.SmallTypes renaming nextOf->abo,ownedTupleIsFree->abr,ownedTupleHandOut->acM
open PySem.Builtin.Str renaming strSliceIndices->abT,occurrences->acj,strSub->aeP
open PySem.Calls renaming callWith_builtin->abW,Constant_str->acu,evalArgs_plain->acJ,Name_function_global->adD,spliced_cons->adJ,spliced_nil->aeU
open PySem.EntryCells renaming newEntry->aez
open PySem.F renaming plainAttrs_list->aaW,slot_list_append->abL,type_list_append->abM,slot_NoneType_hash->abY,slot_list_pop->ab2,type_list_pop->ab3,slot_str_startswith->acB,excBase_ValueError->acI,plainAttrs_str->ac5,type_str_startswith->ady,slot_dict_getitem->adQ,slot_str_join->aea,type_str_join->aeb,slot_str_find->aee
open PySem.Heap renaming get?_push_of_some->iN,lt_size->aay,get?_push_size->aaD,SameBut->abj,size_push->abx,get?_update_other->abX,get?_update_self->acz,get?_none_of_le->aek,ExtBut->afd
open PySem.Heap.SameBut renaming update->aey
open PySem.NameKind renaming free->abp,cell->aeI
open PySem.NumText renaming digitsVal->ae0
open PySem.Obj renaming data_mapFields->abA,mapFields->abO,isFreed_of_fields->ab1
open PySem.PassesOwn renaming never->afe
open PySem.PyData renaming eqv->aeV,canLayAll0->aeZ,depth->ae6
open PySem.SeqAt renaming shaped->adi
open PySem.SeqAt.EqAt renaming int_none->aet,str_none->aeu,none_int->aev,none_str->aew,int_str->aeE,str_int->aeF,same->afa
open PySem.Str renaming ofString->lE,length->acT,empty->acX,ofString_eq_toList->ad5,join->aeJ
open PySem.StrLaws renaming subAt_one->ac3,strSub_toList->aeR
open PySem.Txt renaming startswith->abQ,join->acP,endswith->adh,rstrip->aej,replace->aeC
open PySem.Value renaming ref->abJ,none->ab8,int->ae9
open PySem.W renaming Frag->aT,nsIn->DO,kia_one->aa8,fnOf->abi,keepIn->abk,findIn->abw,callWith_K->abK,codeIn->abP,emptyDict->acb,cellsFrom_some->acs,excIn->acF,mg_of->acG,looks_pair->acH,tabObj->acL,plainGet->acO,instObj->acW,hasDictIn->ac7,boot_heap->adk,codeHdIn->adl,plainGet_of->adu,callWith_K0->adv,KeysLit->adx,isFn->adI,codeRec_of->adK,lookIn->adP,plainOver->adT,kitx_list->adU,kitx_dict->adV,takerIn->ad6,OpenLaw->ad7,methodCall_KW->aec,exmOne->aes,kitx_tuple->aeG,makesIn->afb,InstAt->afi,kitOne->afj
open PySem.W.Fast renaming te14364793385576792824->abe,te10110043849684766642->abV
open String renaming toList_ofList->aeo,ofList->aeL
open True renaming intro->abt
open Option renaming some->J,none->U
open Bool renaming true->G,false->η
def afk:=@if_pos
def afl:=@if_neg
def afm:=@decide_eq_false
def afn:=@decide_eq_true
def afo:=@of_decide_eq_true
def afp:=@congrArg
abbrev afq:=List Nat
abbrev afr:=List PySem.Str
abbrev afs:=List<|PySem.Addr×PySem.Obj
abbrev aft:=PySem.Value->PySem.Shared->Prop
abbrev afu:=PySem.Str->Option PySem.Value
abbrev afv:=List PySem.Addr
abbrev afw:=List PySem.Value
abbrev afz(x:PySem.Str):Prop:=(x==("__debug__":PySem.Str))=η
local macro_rules|`(tactic|walk_at "v")=>`(tactic|first|exact Or.inl rfl|exact Or.inr (Or.inl rfl)|exact Or.inr (Or.inr rfl))
local macro_rules|`(tactic|walk_at "u")=>`(tactic|first|exact Or.inl rfl|exact Or.inr rfl|assumption)
local macro_rules|`(tactic|trivial)=>`(tactic|decide +kernel)
namespace L2
theorem dQ{α β e ε:Type}{p q:α->β->e->ε->Prop}{r:Prop}(h:∃a b c d,p a b c d/\q a b c d)(k:∀a b c d,p a b c d->q a b c d->r):r:=by
 obtain⟨a,b,c,d,x,y⟩:=h;exact k a b c d x y
theorem jZ{α β:Type}{p q r:α->β->Prop}{z:Prop}(h:∃a b,p a b/\q a b/\r a b)(k:∀a b,p a b->q a b->r a b->z):z:=by
 obtain⟨a,b,x,y,w⟩:=h;exact k a b x y w
end L2
set_option Elab.async false
noncomputable section
namespace HD
open PySem PySem.W PySem.Calls PyProof.Rows
abbrev p:abf:=PySem.Challenge.pw_tablestore_k63_read
def bd:List abN:=behindTheImports p
noncomputable def S(i:Nat):abN:=match p.main.body[i]? with|some s=>s|none=>.Pass default
def Sc(i j:Nat):abN:=match S i with
 |.ClassDef _ _ _ b _ _ _ _ _ _ _=>(match b[j]? with|some s=>s|none=>.Pass default)
 |s=>s
def dA(s:abN):Arguments:=match s with
 |.FunctionDef _ a _ _ _ _ _ _ _ _=>a
 |_=>⟨[],[],U,[],[],U,[]⟩
def dB(s:abN):List abN:=match s with
 |.FunctionDef _ _ b _ _ _ _ _ _ _=>b
 |_=>[]
noncomputable def dS(s:abN):Scope:=match s with
 |.FunctionDef _ _ _ _ _ _ sc _ _ _=>sc
 |_=>{kind:=.function,names:=[],isGenerator:=η,isCoroutine:=η}
def fn(s:abN)(n qn:Str)(g:aaB)(cl:List<|Str×aaB)(d f a b:nE)(c:Option aaB)(h e:nE)(bl:aaB):abI:=⟨n,qn,dA s,.stmts<|dB s,dS s,g,cl,d,f,a,b,c,h,e,bl⟩
def dN(s:abN):Str:=match s with
 |.FunctionDef n _ _ _ _ _ _ _ _ _=>n
 |_=>""
def tu(l:afw):Obj:=⟨.type "tuple",U,.seq l.toArray 0,#[]⟩
def tn(t:Nat):afr->afw
 |[]=>[]
 |x::r=>.str x t::tn (t+1) r
noncomputable def tr(k:Int):List (Int×Nat)->afw
 |[]=>[]
 |x::r=>.int x.1 0::.int k 0::.ref x.2::tr k r
def fi(l:afw):Obj:=⟨.none,U,.fields l.toArray,#[]⟩
def fu(s:abN)(m:nE)(c:Nat):Obj:=⟨.type "function",U,.func<|fn s (dN s) (dN s) 3 [] .none .none .none m U (.ref c) .none 0,#[]⟩
def pr(s:abN):Obj:=⟨.none,U,.func<|fn s (dN s) (dN s) 0 [] .none .none .none .none U .none .none 0,#[]⟩
noncomputable def co(n q:Str)(t:Nat)(l a b c d:Int)(v:Nat)(o:Bool)(u:Nat)(x y z:nE)(k:Nat):Obj:=⟨.type "code",U,.fields #[.str n t,.str q<|t+1,.str "/claim/cut.py"<|t+2,.int l 0,.int a 0,.int b 0,.int c 0,.int d 0,.ref v,.bool o,.int 181 0,.ref u,.none,x,y,z,.int k 0,.int l 0,.str "/claim/cut.py"<|k+1],#[]⟩
noncomputable def tO(l:List Obj)(n:Nat):Nat->Nat->Nat->BT
 |0,_,_=>.nil
 |f+1,a,b=>if b<n then .node (l.getD b ⟨.none,U,.plain,#[]⟩) (tO l n f (2*a)<|a+b) (tO l n f (2*a)<|2*a+b)else .nil
noncomputable def ke(P:adO)(x:Str)(t:Nat)(v:nE):DictEntry:=⟨PyData.keyHash P x,.str x t,v⟩
def en:Env:={scope:=p.main.scope,locals:=mainNs,globals:=mainNs,cells:=[],code:=(.ref 13),frame:=J 14}
def cE:Code:=.body bd en
abbrev fq:Pos:=⟨0,0,0,0⟩
def j8:Obj:=tu []
def zi:Obj:=fi []
noncomputable def RG(d:Nat)(a:Nat)(b:Str)(c:Nat):Obj:=⟨(.type "frame"),U,.plain,#[(J<|.ref d),(J<|.ref 3),(J<|.ref a),U,(J<|.str b c),U,(J<|.ref 0)]⟩
def Z1(P:adO):List Obj:=[boot_o_0 P,boot_o_1 P,boot_o_2 P,boot_o_3 P,boot_o_4 P,boot_o_5 P,boot_o_6 P,boot_o_7 P,boot_o_8 P,boot_o_9 P,boot_o_10 P,j8,zi,co "<module>" "<module>" 182 1 0 0 0 0 11 η 12 .none .none .none 185,RG 13 3 "__main__" 164]
def T0(P:adO):BT:=tO (Z1 P) 15 12 1 0
theorem rA(w:abh)(os:acq):topGo adC p w 11 (J<|.ref 6) 12 ⟨adk w.params,aeQ [],boot_drawn,boot_toks,os⟩ (topStub p)=J ((⟨T0 w.params,15,{},#[],{},187,os⟩:SharedT).abs,⟨denote adC cE,cE,⟨0,0,0,0⟩,[topFrame fq]⟩):=by
 rw[PySem.W.Fast.te15667345088766844465,abe,PySem.W.Fast.te11892475500146522536];kernel_rfl
theorem rB(w:abh)(os:acq):segRunT adC p w 11 (J<|.ref 6) 1 1 (⟨T0 w.params,15,{},#[],{},187,os⟩:SharedT) (blockOf bd en cE ⟨0,0,0,0⟩ [topFrame fq])=J (.next,(⟨T0 w.params,15,{},#[],{},187,os⟩:SharedT),cE,⟨0,0,0,0⟩):=by
 rw[abV,abe];kernel_rfl
def UT:Obj:=⟨(.type "builtin_function_or_method"),U,(.fields #[(.builtin "type.__prepare__"),(.type "type")]),#[]⟩
def Yn(P:adO)(a:Nat)(d:Str)(b:Int)(c:Nat):Obj:=⟨(.type "dict"),U,(.dict #[ke P "__module__" a<|.str "tablestore.errors" 187,ke P "__qualname__" (a+2)<|.str d<|a+1,ke P "__firstlineno__" (a+4)<|.int b<|a+3,ke P "__static_attributes__" (a+5)<|.ref c] 4),#[]⟩
def W0(b:Nat)(a:Nat):Obj:=⟨(.type "getset_descriptor"),U,(.fields #[(.str "__weakref__" b),(.ref a),(.builtin "ExceptionGroup.__weakref__"),.none]),#[]⟩
def Vb(a:Nat):Obj:=⟨(.type "super"),U,(.fields #[(.ref a),(.ref a),(.ref a)]),#[]⟩
def SE(a:Nat):Obj:=⟨(.type "builtin_function_or_method"),U,(.fields #[(.builtin "object.__init_subclass__"),(.ref a)]),#[]⟩
def Za:Obj:=tu [.ref 24]
def HA(d:Nat)(a:Nat)(b:Str)(c:Str):Obj:=⟨.none,U,(.func<|fn (Sc d a) b c 0 [] .none .none .none .none U .none .none 0),#[]⟩
def Jh(e:Nat)(f:Nat)(b:Str)(d:Str)(a:Str)(g:Nat)(c:Nat):Obj:=⟨(.type "function"),U,(.func<|fn (Sc e f) b d 3 [] .none .none .none (.str a g) U (.ref c) .none 0),#[]⟩
def m339:nE:=.str "tablestore.values" 339
def m389:nE:=.str "tablestore.shapes" 389
def m418:nE:=.str "tablestore.words" 418
def m495:nE:=.str "tablestore.asking" 495
def m714:nE:=.str "tablestore.showing" 714
def m778:nE:=.str "law_tablestore_k63_read" 778
def g0:List abN:=(bd.drop 0).take 88
def lN(i:Nat):Option<|List Str×afr:=localNames (dA<|S i) (dS<|S i)<|.stmts<|dB<|S i
def dL(i:Nat):Nat:=match S i with
 |.FunctionDef _ _ _ _ _ _ _ _ _ x=>x.line
 |_=>0
def gA(m:nE)(q:Nat×Nat×Nat):List Obj:=let s:=S q.1;let a:=q.2.1;let t:=q.2.2;match lN q.1 with
 |some l=>[j8,zi,tu<|tn (t+3) l.1,j8,pr s,co (dN s) (dN s) t (dL q.1) (dA s).args.length 0 0 3 a G (a+1) (.ref<|a+2) (.ref<|a+3) (.ref<|a+4)<|t+3+l.1.length,fu s m<|a+5]
 |none=>[j8,zi,pr s,co (dN s) (dN s) t (dL q.1) (dA s).args.length 0 0 3 a G (a+1) .none .none (.ref<|a+2)<|t+3,fu s m<|a+3]
def gb(i:Nat):Nat×Nat:=match lN i with
 |some l=>(7,6+l.1.length)
 |none=>(5,6)
def ru:Nat->Nat->Nat->Nat->List (Nat×Nat×Nat)
 |0,_,_,_=>[]
 |n+1,i,a,t=>(i,a,t)::ru n (i+1) (a+(gb i).1) (t+(gb i).2)
def gK(P:adO)(q:Nat×Nat×Nat):DictEntry:=ke P (dN<|S q.1) (q.2.2+(gb q.1).2-1)<|.ref<|q.2.1+(gb q.1).1-1
def gR(q:Nat×Nat×Nat):Int×Nat:=(dL q.1,q.2.1+(gb q.1).1-2)
def r0:=ru 6 11 123 347
def r1:=ru 2 20 162 405
def r2:=ru 7 24 175 431
def r3:=ru 18 39 260 562
def r4:=ru 6 59 392 733
def r5:=ru 22 66 432 780
def aah(P:adO):List Obj:=((Z1 P).set 3<|⟨(.type "dict"),U,(.dict ([ke P "__name__" 165<|.str "law_tablestore_k63_read" 778,ke P "__doc__" 166 .none,ke P "__package__" 167 .none,ke P "__loader__" 168<|.builtin "__main__.__loader__#opaque",ke P "__spec__" 169 .none,ke P "__annotations__" 170<|.ref 6,ke P "__builtins__" 171<|.ref 4,ke P "__file__" 173<|.str "/claim/cut.py" 172,ke P "__cached__" 174 .none,ke P "TableError" 206<|.ref 24,ke P "BadValue" 222<|.ref 37,ke P "BadQuestion" 238<|.ref 49,ke P "BINDING" 253<|.ref 52,ke P "Piles" 338<|.ref 118,ke P "FIGURES" 342<|.str "0123456789" 341,ke P "MOST_SIGNS_values" 344<|.int 40 343,ke P "MOST_FIGURES" 346<|.int 18 345]++r0.map (gK P)++[ke P "NO_NAMES" 402<|.ref 161,ke P "MOST_LETTERS" 404<|.int 8 403]++r1.map (gK P)++[ke P "SIGNS" 430<|.ref 174]++r2.map (gK P)++[ke P "MOST_SIGNS_asking" 498<|.int 900 497,ke P "MOST_SOURCES" 500<|.int 3 499,ke P "MOST_COLUMNS" 502<|.int 8 501,ke P "MOST_TESTS" 504<|.int 20 503,ke P "MOST_NESTED" 506<|.int 20 505,ke P "TEST_SIGNS" 513<|.ref 224,ke P "Reader" 561<|.ref 255]++r3.map (gK P)++[ke P "BRACKETS" 732<|.ref 386]++r4.map (gK P)++r5.map (gK P)).toArray 89),#[]⟩).set 12 (fi<|tr 0<|[(2,20),(4,33),(6,45),(10,58)]++r0.map gR++r1.map gR++r2.map gR++[(151,230)]++r3.map gR++r4.map gR++r5.map gR)++([tu [.type "ValueError"],UT,Yn P 196 "TableError" 2 22,j8,zi,co "TableError" "TableError" 191 2 0 0 0 0 18 η 19 .none .none .none 194,RG 20 17 "tablestore.errors" 187,j8,⟨(.type "dict"),U,(.dict #[ke P "__module__" 196<|.str "tablestore.errors" 187,ke P "__firstlineno__" 200<|.int 2 199,ke P "__static_attributes__" 201<|.ref 22,ke P "__weakref__" 203<|.ref 25,ke P "__doc__" 204 .none] 3),#[]⟩,⟨(.type "type"),U,(.cls {name:="TableError",bases:=[(.type "ValueError")],mro:=[(.ref 24),(.type "ValueError"),(.type "Exception"),(.type "BaseException"),(.type "object")],ns:=23,qualname:="TableError",hasDict:=G,slotNames:=[],subclasses:=[(.ref 37),(.ref 49)],abstract:=η,collection:=U,hasDel:=η}),#[(J<|.ref 15),U,(J<|.str "TableError" 189),(J<|.str "TableError" 197),(J<|.builtin "ValueError.__new__"),(J<|.bool G)]⟩,W0 202 24,Vb 24,SE 24,Za,UT,Yn P 214 "BadValue" 4 35,j8,zi,co "BadValue" "BadValue" 209 4 0 0 0 0 31 η 32 .none .none .none 212,RG 33 30 "tablestore.errors" 187,j8,⟨(.type "dict"),U,(.dict #[ke P "__module__" 214<|.str "tablestore.errors" 187,ke P "__firstlineno__" 218<|.int 4 217,ke P "__static_attributes__" 219<|.ref 35,ke P "__doc__" 220 .none] 2),#[]⟩,⟨(.type "type"),U,(.cls {name:="BadValue",bases:=[(.ref 24)],mro:=[(.ref 37),(.ref 24),(.type "ValueError"),(.type "Exception"),(.type "BaseException"),(.type "object")],ns:=36,qualname:="BadValue",hasDict:=G,slotNames:=[],subclasses:=[],abstract:=η,collection:=U,hasDel:=η}),#[(J<|.ref 28),U,(J<|.str "BadValue" 207),(J<|.str "BadValue" 215),(J<|.builtin "ValueError.__new__"),(J<|.bool G)]⟩,Vb 37,SE 37,Za,UT,Yn P 230 "BadQuestion" 6 47,j8,zi,co "BadQuestion" "BadQuestion" 225 6 0 0 0 0 43 η 44 .none .none .none 228,RG 45 42 "tablestore.errors" 187,j8,⟨(.type "dict"),U,(.dict #[ke P "__module__" 230<|.str "tablestore.errors" 187,ke P "__firstlineno__" 234<|.int 6 233,ke P "__static_attributes__" 235<|.ref 47,ke P "__doc__" 236 .none] 2),#[]⟩,⟨(.type "type"),U,(.cls {name:="BadQuestion",bases:=[(.ref 24)],mro:=[(.ref 49),(.ref 24),(.type "ValueError"),(.type "Exception"),(.type "BaseException"),(.type "object")],ns:=48,qualname:="BadQuestion",hasDict:=G,slotNames:=[],subclasses:=[],abstract:=η,collection:=U,hasDel:=η}),#[(J<|.ref 40),U,(J<|.str "BadQuestion" 223),(J<|.str "BadQuestion" 231),(J<|.builtin "ValueError.__new__"),(J<|.bool G)]⟩,Vb 49,SE 49,⟨(.type "dict"),U,(.dict #[ke P "(" 241<|.int 0 242,ke P "or" 243<|.int 1 244,ke P "and" 245<|.int 2 246,ke P "not" 247<|.int 3 248] 4),#[]⟩,j8,UT,⟨(.type "dict"),U,(.dict #[ke P "__module__" 261<|.str "tablestore.piles" 239,ke P "__qualname__" 263<|.str "Piles" 262,ke P "__firstlineno__" 265<|.int 10 264,ke P "__init__" 272<|.ref 66,ke P "add_word" 280<|.ref 73,ke P "add_tree" 288<|.ref 80,ke P "add_joint" 296<|.ref 87,ke P "close_bracket" 303<|.ref 94,ke P "has_bracket" 310<|.ref 101,ke P "whole" 317<|.ref 108,ke P "settle" 328<|.ref 115,ke P "__static_attributes__" 331<|.ref 116] 12),#[]⟩,j8,fi<|tr 4 [(12,65),(16,72),(19,79),(22,86),(26,93),(30,100),(33,107),(37,114)],co "Piles" "Piles" 256 10 0 0 0 0 56 η 57 .none .none .none 259,RG 58 55 "tablestore.piles" 239,j8,zi,tu<|tn 269 ["self"],j8,HA 6 0 "__init__" "Piles.__init__",co "__init__" "Piles.__init__" 266 12 1 0 0 3 60 G 61 (.ref 62) (.ref 63) (.ref 64) 270,Jh 6 0 "__init__" "Piles.__init__" "tablestore.piles" 239 65,j8,zi,tu<|tn 276 ["self","word"],j8,HA 6 1 "add_word" "Piles.add_word",co "add_word" "Piles.add_word" 273 16 2 0 0 3 67 G 68 (.ref 69) (.ref 70) (.ref 71) 278,Jh 6 1 "add_word" "Piles.add_word" "tablestore.piles" 239 72,j8,zi,tu<|tn 284 ["self","tree"],j8,HA 6 2 "add_tree" "Piles.add_tree",co "add_tree" "Piles.add_tree" 281 19 2 0 0 3 74 G 75 (.ref 76) (.ref 77) (.ref 78) 286,Jh 6 2 "add_tree" "Piles.add_tree" "tablestore.piles" 239 79,j8,zi,tu<|tn 292 ["self","word"],j8,HA 6 3 "add_joint" "Piles.add_joint",co "add_joint" "Piles.add_joint" 289 22 2 0 0 3 81 G 82 (.ref 83) (.ref 84) (.ref 85) 294,Jh 6 3 "add_joint" "Piles.add_joint" "tablestore.piles" 239 86,j8,zi,tu<|tn 300 ["self"],j8,HA 6 4 "close_bracket" "Piles.close_bracket",co "close_bracket" "Piles.close_bracket" 297 26 1 0 0 3 88 G 89 (.ref 90) (.ref 91) (.ref 92) 301,Jh 6 4 "close_bracket" "Piles.close_bracket" "tablestore.piles" 239 93,j8,zi,tu<|tn 307 ["self"],j8,HA 6 5 "has_bracket" "Piles.has_bracket",co "has_bracket" "Piles.has_bracket" 304 30 1 0 0 3 95 G 96 (.ref 97) (.ref 98) (.ref 99) 308,Jh 6 5 "has_bracket" "Piles.has_bracket" "tablestore.piles" 239 100,j8,zi,tu<|tn 314 ["self"],j8,HA 6 6 "whole" "Piles.whole",co "whole" "Piles.whole" 311 33 1 0 0 3 102 G 103 (.ref 104) (.ref 105) (.ref 106) 315,Jh 6 6 "whole" "Piles.whole" "tablestore.piles" 239 107,j8,zi,tu<|tn 321 ["self","binding","word","tree","first"],j8,HA 6 7 "settle" "Piles.settle",co "settle" "Piles.settle" 318 37 2 0 0 3 109 G 110 (.ref 111) (.ref 112) (.ref 113) 326,Jh 6 7 "settle" "Piles.settle" "tablestore.piles" 239 114,tu<|tn 329 ["trees","waiting"],⟨(.type "dict"),U,(.dict #[ke P "__module__" 261<|.str "tablestore.piles" 239,ke P "__firstlineno__" 265<|.int 10 264,ke P "__init__" 272<|.ref 66,ke P "add_word" 280<|.ref 73,ke P "add_tree" 288<|.ref 80,ke P "add_joint" 296<|.ref 87,ke P "close_bracket" 303<|.ref 94,ke P "has_bracket" 310<|.ref 101,ke P "whole" 317<|.ref 108,ke P "settle" 328<|.ref 115,ke P "__static_attributes__" 331<|.ref 116,ke P "__dict__" 333<|.ref 119,ke P "__weakref__" 335<|.ref 120,ke P "__doc__" 336 .none] 4),#[]⟩,⟨(.type "type"),U,(.cls {name:="Piles",bases:=[(.type "object")],mro:=[(.ref 118),(.type "object")],ns:=117,qualname:="Piles",hasDict:=G,slotNames:=[],subclasses:=[],abstract:=η,collection:=U,hasDel:=η}),#[U,U,(J<|.str "Piles" 254),(J<|.str "Piles" 262),(J<|.builtin "object.__new__"),(J<|.bool G)]⟩,⟨(.type "getset_descriptor"),U,(.fields #[(.str "__dict__" 332),(.ref 118),(.builtin "function.__dict__"),(.builtin "function.__dict__#set")]),#[]⟩,W0 334 118,Vb 118,SE 118]++(r0.flatMap (gA m339)++([tu<|tn 391 ["and","by","down","from","none","not","or","order","show","take","where"]]++(r1.flatMap (gA m389)++([tu<|tn 420 ["<>","<=",">=","<",">","=",",",".","(",")"]]++(r2.flatMap (gA m418)++([tu<|tn 507 ["=","<>","<","<=",">",">="],j8,UT,⟨(.type "dict"),U,(.dict #[ke P "__module__" 521<|.str "tablestore.asking" 495,ke P "__qualname__" 523<|.str "Reader" 522,ke P "__firstlineno__" 525<|.int 151 524,ke P "__init__" 533<|.ref 238,ke P "step" 540<|.ref 245,ke P "stands" 549<|.ref 252,ke P "__static_attributes__" 554<|.ref 253] 7),#[]⟩,j8,fi<|tr 4 [(153,237),(159,244),(162,251)],co "Reader" "Reader" 516 151 0 0 0 0 228 η 229 .none .none .none 519,RG 230 227 "tablestore.asking" 495,j8,zi,tu<|tn 529 ["self","text"],j8,HA 38 0 "__init__" "Reader.__init__",co "__init__" "Reader.__init__" 526 153 2 0 0 3 232 G 233 (.ref 234) (.ref 235) (.ref 236) 531,Jh 38 0 "__init__" "Reader.__init__" "tablestore.asking" 495 237,j8,zi,tu<|tn 537 ["self"],j8,HA 38 1 "step" "Reader.step",co "step" "Reader.step" 534 159 1 0 0 3 239 G 240 (.ref 241) (.ref 242) (.ref 243) 538,Jh 38 1 "step" "Reader.step" "tablestore.asking" 495 244,j8,zi,tu<|tn 544 ["self","kind","value"],j8,HA 38 2 "stands" "Reader.stands",co "stands" "Reader.stands" 541 162 3 0 0 3 246 G 247 (.ref 248) (.ref 249) (.ref 250) 547,Jh 38 2 "stands" "Reader.stands" "tablestore.asking" 495 251,tu<|tn 550 ["nested","tests","text","word"],⟨(.type "dict"),U,(.dict #[ke P "__module__" 521<|.str "tablestore.asking" 495,ke P "__firstlineno__" 525<|.int 151 524,ke P "__init__" 533<|.ref 238,ke P "step" 540<|.ref 245,ke P "stands" 549<|.ref 252,ke P "__static_attributes__" 554<|.ref 253,ke P "__dict__" 556<|.ref 256,ke P "__weakref__" 558<|.ref 257,ke P "__doc__" 559 .none] 4),#[]⟩,⟨(.type "type"),U,(.cls {name:="Reader",bases:=[(.type "object")],mro:=[(.ref 255),(.type "object")],ns:=254,qualname:="Reader",hasDict:=G,slotNames:=[],subclasses:=[],abstract:=η,collection:=U,hasDel:=η}),#[U,U,(J<|.str "Reader" 514),(J<|.str "Reader" 522),(J<|.builtin "object.__new__"),(J<|.bool G)]⟩,⟨(.type "getset_descriptor"),U,(.fields #[(.str "__dict__" 555),(.ref 255),(.builtin "function.__dict__"),(.builtin "function.__dict__#set")]),#[]⟩,W0 557 255,Vb 255,SE 255]++(r3.flatMap (gA m495)++([⟨(.type "dict"),U,(.dict #[ke P "not" 716<|.ref 387,ke P "and first" 719<|.ref 388,ke P "and second" 721<|.ref 389,ke P "or first" 724<|.ref 390,ke P "or second" 725<|.ref 391] 5),#[]⟩,tu<|tn 717 ["and","or"],tu<|tn 720 ["or"],tu<|tn 722 ["and","or"],j8,tu<|tn 726 ["or"]]++(r4.flatMap (gA m714)++(r5.flatMap<|gA m778)))))))))))
def T1(P:adO):BT:=tO (aah P) 582 12 1 0
def PR(w:abh)(os:acq):Prop:=segRunT adC p w 11 (J<|.ref 6) 1 3559 (⟨T0 w.params,15,{},#[],{},187,os⟩:SharedT) (piecesOf g0 en cE ⟨0,0,0,0⟩ [topFrame fq])=J (.next,(⟨T1 w.params,582,{},#[],{},969,os⟩:SharedT),cE,⟨459,0,476,15⟩)
theorem rf0(w:abh)(os:acq):PR (w.withFollow "special-get-raises" η) os:=by
 unfold PR;rw[abV,abe];kernel_rfl
theorem rt0(w:abh)(os:acq):PR (w.withFollow "special-get-raises" G) os:=by
 unfold PR;rw[abV,abe];kernel_rfl
theorem rG0(w:abh)(os:acq):segRunT adC p w 11 (J<|.ref 6) 1 3559 (⟨T0 w.params,15,{},#[],{},187,os⟩:SharedT) (piecesOf g0 en cE ⟨0,0,0,0⟩ [topFrame fq])=J (.next,(⟨T1 w.params,582,{},#[],{},969,os⟩:SharedT),cE,⟨459,0,476,15⟩):=byRow2 "special-get-raises" (P:=fun w=>PR w os) (fun w=>rf0 w os) (fun w=>rt0 w os) w
abbrev L1(P:adO):List Obj:=aah P
def H1(P:adO):acn:=⟨aeQ<|L1 P,{}⟩
abbrev sf(w:abh)(os:acq):ID:=⟨H1 w.params,#[],{},969,os⟩
theorem rF(w:abh)(os:acq):topRun adC p w 11 (J<|.ref 6) 2 (⟨T1 w.params,582,{},#[],{},969,os⟩:SharedT).abs ⟨doneF .next,cE,⟨459,0,476,15⟩,[topFrame fq]⟩=J (sf w os):=by
 rw[PySem.W.Fast.te14082659384304107361,abe];kernel_rfl
theorem S8:bd=g0++([]):=by kernel_rfl
theorem run(w:abh)(os:acq):topRun adC p w 11 (J<|.ref 6) (12+(1+(3559+2))) ⟨adk w.params,aeQ [],boot_drawn,boot_toks,os⟩ (topStub p)=J (sf w os):=
 go_top (n:=12) (rA w os) (piece_block (n:=1) (segRun_of<|rB w os)<|S8▸piece_app (n:=3559) (l:=g0) (segRun_of<|rG0 w os) (piece_nil<|rF w os))
noncomputable def q:abf:=view p [1,2,3,5,6,8,9,10,11,12,13,14,15,16,18,19,20,21,23,24,25,26,27,28,29,30,32,33,34,35,36,37,38,39,40,41,42,43,44,45,46,47,48,49,50,51,52,53,54,55,56,58,59,60,61,62,63,64,66,67,68,69,70,71,72,73,74,75,76,77,78,79,80,81,82,83,84,85,86,87]
theorem U2(w:abh):(fencedOpening adC p w 7242).map (fun s=>(s.heap,s.gens,s.drawn,s.toks))=J (adk w.params,aeQ [],boot_drawn,boot_toks):=
 boot_open (by kernel_rfl) (by decide) (fun s=>by kernel_rfl) w
theorem size(w:abh):((adk w.params).isNs By&&(aeQ []:Array GenState).size==0,(adk w.params).objs.size,(adk w.params).nsMap By "__annotations__")=(G,11,(J<|.ref 6)):=by
 kernel_rfl
theorem k0(w:abh)(os:acq):(staticsOk (importedModules p.main.body) (adk w.params) (H1 w.params)&&namesBound p (H1 w.params)&&gensDone (sf w os)&&laidKept (adk w.params) (H1 w.params))=G:=by kernel_rfl
theorem k1(w:abh)(os:acq):seen ((recsOf q).map (·.name)) (ownsOf q) [] {(sf w os)with gens:=#[]}=expectedOf q:=by
 kernel_rfl
theorem k2(w:abh)(os:acq):(sf w os).heap.bltView=bltViewBooted:=by
 kernel_rfl
theorem k3(w:abh)(os:acq):((sf w os).heap.keysOk (looseW q ["BINDING","BRACKETS"]) ((recsOf q).map (·.name)) ((litsOf q).map (·.1)) ((clssOf q<|looseW q ["BINDING","BRACKETS"]).map (·.name))&&(sf w os).heap.accountedOkI (importedModules p.main.body)&&(sf w os).heap.isNs By&&(sf w os).heap.isNs builtinsNs&&tablesOk q (sf w os).heap&&(xlAt q [] (sf w os)&&recOk [] (sf w os))&&(if G then(sf w os).gens.size==0 else !leftWithCleanup (sf w os).gens))=G:=by
 kernel_rfl
theorem k4(w:abh)(os:acq):tabsOk q (sf w os)=G:=by
 kernel_rfl
theorem k5(w:abh)(os:acq):pinSeenD q (drecsOf q) (sf w os)=pinGoodD (drecsOf q):=by
 kernel_rfl
theorem k6(w:abh)(os:acq):plainSeenE q (looseW q ["BINDING","BRACKETS"]) (sf w os)=plainGoodE q (looseW q ["BINDING","BRACKETS"]):=by
 kernel_rfl
theorem k7(w:abh)(os:acq):plainSeenD q ["BINDING","BRACKETS"] (sf w os)=plainGoodD q ["BINDING","BRACKETS"]:=by
 kernel_rfl
theorem k8(w:abh)(os:acq):wideSeen q (sf w os)=wideGood q:=by
 kernel_rfl
theorem k9(w:abh)(os:acq):clsSeenW q ["BINDING","BRACKETS"] (sf w os)=clsGoodW q ["BINDING","BRACKETS"]:=by
 kernel_rfl
def ad:afv:=ads 582
def K(P:adO):Frag:=ad.zip<|L1 P
theorem kY(w:abh)(os:acq):X.obsZ ad (sf w os)=X.valZ K 582 969 w:=by kernel_rfl
theorem left:LeftO p q ["BINDING","BRACKETS"] (fun s=>xlAt q [] s&&recOk [] s) (X.obsZ ad) (X.valZ K 582 969) 7242:=
 LeftO.of_pieces (H₀:=adk) (H₁:=H1) (gs₀:=aeQ []) (gs₁:=#[]) (d₀:=boot_drawn) (d₁:={}) (k₀:=boot_toks) (k₁:=969) (m₀:=11) (ann:=(J<|.ref 6)) (M:=(12+(1+(3559+2)))) U2 size run (by decide) fun w=>funext fun os=>acH (k0 w os)<|acH (acH (k1 w os)<|acH (k2 w os)<|acH (k3 w os)<|acH (k4 w os)<|acH (k5 w os)<|acH (k6 w os)<|acH (k7 w os)<|acH (k8 w os)<|k9 w os)<|kY w os
def dP(s:abN):Pos:=match s with
 |.FunctionDef _ _ _ _ _ _ _ _ _ x=>x
 |_=>default
def d:DefRec:=⟨"law",dA<|S 87,dB<|S 87,dS<|S 87,dP<|S 87⟩
theorem wa:namesResolve p=G:=by kernel_rfl
theorem wb:namesMeet p p.main.body (fun _ n=>attrL n)=G:=by kernel_rfl
theorem lo:looksOpen p=G:=by
 unfold looksOpen;rw[wa,wb,Bool.and_true];kernel_rfl
theorem wd:PySem.Challenge.rw_tablestore_k63_read.row.partSaid=G:=by
 unfold OpenRow.partSaid;rw[show looksOpen PySem.Challenge.rw_tablestore_k63_read.row.toRowW.prog=G from lo];kernel_rfl
theorem ws:PySem.Challenge.rw_tablestore_k63_read.wellSaid=G:=by
 unfold OpenLaw.wellSaid OpenRow.wellSaid;rw[wd];kernel_rfl
theorem hold(b:WalkX q ["BINDING","BRACKETS"] (XL q []) (X.obsZ ad) (X.valZ K 582 969) PySem.Challenge.rw_tablestore_k63_read.row.toRowW d [] fun f vs=>aeS f vs):PySem.Challenge.rw_tablestore_k63_read.Holds:=by
 refine holds_law ws fun a=>?_;refine holds_openX (q:=q) (loose:=["BINDING","BRACKETS"]) (Xt:=fun s=>xlAt q [] s&&recOk [] s) (XP:=XL q []) (N:=7242) left (fun s e=>xl_of s (ab7.mp e).1) XL.keeps (d:=d) (kwd:=[]) (by kernel_rfl) (by kernel_rfl) (by kernel_rfl) (fun s e=>recFacts_of (ab7.mp e).2) (by rfl) a (by trivial) ⟨rfl,rfl,rfl,rfl,rfl,by trivial⟩ ?hw b
 case hw=>w_witness2
end HD
end
noncomputable section
set_option hygiene false
local macro_rules|`(tactic|left)=>`(tactic|refine Classical.byContradiction fun q_=>?_)
local macro_rules|`(tactic|right)=>`(tactic|refine q_ ?_)
local macro_rules|`(tactic|cbv)=>`(tactic|split at h)
local macro_rules|`(tactic|nofun)=>`(tactic|cases h)
local macro_rules|`(tactic|mleft)=>`(tactic|exact h.elim)
local macro_rules|`(tactic|mstop)=>`(tactic|replace h:=bY.mp h)
local macro_rules|`(tactic|mright)=>`(tactic|simp_all)
open scoped Lean.Order
local macro_rules|`(∅)=>`(by simp)
local macro_rules|`(⊥)=>`(by lia)
local macro_rules|`(⊤)=>`(by trivial)
local macro_rules|`(∎)=>`(by decide)
set_option hygiene true
theorem Z04{a b c d:Prop}{r:Prop}(h:a/\b/\c/\d)(k:a->b->c->d->r):r:=by grind
theorem Z05{a b c d e:Prop}{r:Prop}(h:a/\b/\c/\d/\e)(k:a->b->c->d->e->r):r:=by grind
theorem Z06{a b c d e f:Prop}{r:Prop}(h:a/\b/\c/\d/\e/\f)(k:a->b->c->d->e->f->r):r:=by grind
theorem Z08{a b c d e f g i:Prop}{r:Prop}(h:a/\b/\c/\d/\e/\f/\g/\i)(k:a->b->c->d->e->f->g->i->r):r:=by grind
theorem Z09{a b c d e f g i j:Prop}{r:Prop}(h:a/\b/\c/\d/\e/\f/\g/\i/\j)(k:a->b->c->d->e->f->g->i->j->r):r:=by grind
theorem Z13{α}{a b c:α->Prop}{r:Prop}(h:∃x,a x/\b x/\c x)(k:∀x,a x->b x->c x->r):r:=by grind
theorem Z14{α}{a b c d:α->Prop}{r:Prop}(h:∃x,a x/\b x/\c x/\d x)(k:∀x,a x->b x->c x->d x->r):r:=by grind
theorem Z15{α}{a b c d e:α->Prop}{r:Prop}(h:∃x,a x/\b x/\c x/\d x/\e x)(k:∀x,a x->b x->c x->d x->e x->r):r:=by grind
theorem Z16{α}{a b c d e f:α->Prop}{r:Prop}(h:∃x,a x/\b x/\c x/\d x/\e x/\f x)(k:∀x,a x->b x->c x->d x->e x->f x->r):r:=by grind
theorem Z22{α β}{a b:α->β->Prop}{r:Prop}(h:∃x y,a x y/\b x y)(k:∀x y,a x y->b x y->r):r:=by grind
theorem Z23{α β}{a b c:α->β->Prop}{r:Prop}(h:∃x y,a x y/\b x y/\c x y)(k:∀x y,a x y->b x y->c x y->r):r:=by grind
theorem Z24{α β}{a b c d:α->β->Prop}{r:Prop}(h:∃x y,a x y/\b x y/\c x y/\d x y)(k:∀x y,a x y->b x y->c x y->d x y->r):r:=by grind
theorem Z25{α β}{a b c d e:α->β->Prop}{r:Prop}(h:∃x y,a x y/\b x y/\c x y/\d x y/\e x y)(k:∀x y,a x y->b x y->c x y->d x y->e x y->r):r:=by grind
theorem Z26{α β}{a b c d e f:α->β->Prop}{r:Prop}(h:∃x y,a x y/\b x y/\c x y/\d x y/\e x y/\f x y)(k:∀x y,a x y->b x y->c x y->d x y->e x y->f x y->r):r:=by grind
theorem Z31{α β γ}{a:α->β->γ->Prop}{r:Prop}(h:∃x y z,a x y z)(k:∀x y z,a x y z->r):r:=by grind
theorem Z33{α β γ}{a b c:α->β->γ->Prop}{r:Prop}(h:∃x y z,a x y z/\b x y z/\c x y z)(k:∀x y z,a x y z->b x y z->c x y z->r):r:=by grind
theorem Z34{α β γ}{a b c d:α->β->γ->Prop}{r:Prop}(h:∃x y z,a x y z/\b x y z/\c x y z/\d x y z)(k:∀x y z,a x y z->b x y z->c x y z->d x y z->r):r:=by grind
theorem Z35{α β γ}{a b c d e:α->β->γ->Prop}{r:Prop}(h:∃x y z,a x y z/\b x y z/\c x y z/\d x y z/\e x y z)(k:∀x y z,a x y z->b x y z->c x y z->d x y z->e x y z->r):r:=by grind
theorem Z36{α β γ}{a b c d e f:α->β->γ->Prop}{r:Prop}(h:∃x y z,a x y z/\b x y z/\c x y z/\d x y z/\e x y z/\f x y z)(k:∀x y z,a x y z->b x y z->c x y z->d x y z->e x y z->f x y z->r):r:=by grind
theorem Z37{α β γ}{a b c d e f g:α->β->γ->Prop}{r:Prop}(h:∃x y z,a x y z/\b x y z/\c x y z/\d x y z/\e x y z/\f x y z/\g x y z)(k:∀x y z,a x y z->b x y z->c x y z->d x y z->e x y z->f x y z->g x y z->r):r:=by grind
theorem Z42{α β γ δ}{a b:α->β->γ->δ->Prop}{r:Prop}(h:∃x y z u,a x y z u/\b x y z u)(k:∀x y z u,a x y z u->b x y z u->r):r:=by grind
theorem Z44{α β γ δ}{a b c d:α->β->γ->δ->Prop}{r:Prop}(h:∃x y z u,a x y z u/\b x y z u/\c x y z u/\d x y z u)(k:∀x y z u,a x y z u->b x y z u->c x y z u->d x y z u->r):r:=by grind
theorem Z54{α β γ δ ε}{a b c d:α->β->γ->δ->ε->Prop}{r:Prop}(h:∃x y z u v,a x y z u v/\b x y z u v/\c x y z u v/\d x y z u v)(k:∀x y z u v,a x y z u v->b x y z u v->c x y z u v->d x y z u v->r):r:=by grind
theorem Z56{α β γ δ ε}{a b c d e f:α->β->γ->δ->ε->Prop}{r:Prop}(h:∃x y z u v,a x y z u v/\b x y z u v/\c x y z u v/\d x y z u v/\e x y z u v/\f x y z u v)(k:∀x y z u v,a x y z u v->b x y z u v->c x y z u v->d x y z u v->e x y z u v->f x y z u v->r):r:=by grind
theorem Z62{α β γ δ ε ζ}{a b:α->β->γ->δ->ε->ζ->Prop}{r:Prop}(h:∃x y z u v w,a x y z u v w/\b x y z u v w)(k:∀x y z u v w,a x y z u v w->b x y z u v w->r):r:=by grind
theorem Z63{α β γ δ ε ζ}{a b c:α->β->γ->δ->ε->ζ->Prop}{r:Prop}(h:∃x y z u v w,a x y z u v w/\b x y z u v w/\c x y z u v w)(k:∀x y z u v w,a x y z u v w->b x y z u v w->c x y z u v w->r):r:=by grind
theorem Xaq(h:True:=by rfl):True:=h
def Xaz:Lean.Syntax:=Xaq._auto_1
theorem Xaj(h:True:=by decide):True:=h
def Xax:Lean.Syntax:=Xaj._auto_1
theorem Xbq(h:True:=by walk_at "tok"):True:=h
def Xbz:Lean.Syntax:=Xbq._auto_1
theorem Xbj(h:True:=by walk_at"u"):True:=h
def Xbx:Lean.Syntax:=Xbj._auto_1
theorem Xcq(h:True:=by walk_at"v"):True:=h
def Xcz:Lean.Syntax:=Xcq._auto_1
theorem Xcj(h:True:=by intro _;rfl):True:=h
def Xcx:Lean.Syntax:=Xcj._auto_1
theorem Xdq(h:True:=by exact fun _=>rfl):True:=h
def Xdz:Lean.Syntax:=Xdq._auto_1
theorem Xdj(h:True:=by exact fun _ _=>rfl):True:=h
def Xdx:Lean.Syntax:=Xdj._auto_1
theorem Xeq(h:True:=by simp):True:=h
def Xez:Lean.Syntax:=Xeq._auto_1
theorem Xej(h:True:=by exact⟨rfl,rfl⟩):True:=h
def Xex:Lean.Syntax:=Xej._auto_1
namespace L2
open PySem Sem
theorem lI(h:Runs M Γ p t fs s e s'):s.toks<=s'.toks:=by
 induction h<;>first
  |rfl
  |assumption
  |(rename_i c;exact Nat.le_of_succ_le c)
  |(rename_i a b;exact RW a b)
  |grind
theorem wp_toks{i:X->Pos->ID->Prop}(M:Model)(j:Ctx)(e:Sem X)(pos:Pos)(sh:ID)(d:n<=sh.toks)
  (qm:wp M j e (fun x p s=>n<=s.toks->i x p s) (fun x p s=>n<=s.toks->exc x p s) pos sh):wp M j e i exc pos sh:=by
 revert qm d
 induction e generalizing pos sh with
 |pure x=>mright
 |raise v=>mright
 |unsupported|finish|yield|fork|await|register=>exact fun _ h=>h
 |rule _ k b|«at» _ k b|alloc _ k b|loadIfAlive _ k b|point _ k b|ask k b|os _ _ k b|handled _ k b|newGen _ k b|stack k b|thread k b=>mright
 |fresh k b=>exact fun d h=>b _ _ _ (aa3 d) h
 |load a _ k b|genState a k b=>exact fun d⟨o,ho,h⟩=>⟨o,ho,b _ _ _ d h⟩
 |update a _ f k b|choose _ _ k b=>exact fun d⟨ha,h⟩=>⟨ha,b _ _ _ d h⟩
 |call c h g l k b=>exact fun d q_=>Z22 q_ fun r s' hr hk=>⟨r,s',hr,b r pos s' (RW d<|lI hr) hk⟩
 | resume g r l k b=>exact fun d  q_=>Z22 q_ fun res s' hw h=>⟨res,s',hw,b _ _ _ (RW d ((by
   unfold Wakes at hw;split at hw
   .exact hw.elim
   .split at hw
    .obtain⟨e1,m,h1,_,_,rfl⟩:=hw;have q:=lI h1;exact q
    .mright
    .rw[hw.2];exact mK _
   .obtain⟨e1,m,h1,_,_,rfl⟩:=hw;have q:=lI h1;exact q
   .mright
   grind))) h⟩
theorem aO{t:Sem α}{Q:α->ID->Prop}(c:n<=s.toks)
  (h:aaN M A t (fun v s'=>n<=s'.toks->Q v s') (fun e s'=>n<=s'.toks->E e s') s):aaN M A t Q E s:=fun b p a=>wp_toks M b t p s c<|h b p a
theorem dk(b:n<=s.toks)(h:ad0 M A c (fun r s'=>n<=s'.toks->R r s') s):ad0 M A c R s:=fun d p e a=>
 let⟨r,s',hr,hR⟩:=h d p e a
 ⟨r,s',hr,hR<|RW b<|lI hr⟩
end L2
namespace L2
open PySem PySem.Spec PyProof.Rows
inductive Key where
 |inl (i:Int)|inr (x:Str)|nn
 deriving DecidableEq
def vn:Key->nE->Bool
 |.inl k,v=>Value.isInt k v
 |.inr x,v=>Value.isStrOf x v
 |.nn,v=>match v with
  |.none=>G
  |_=>η
def Wr(w:abh):Key->Int
 |.inl k=>hashInt k
 |.inr x=>hashStr w x
 |.nn=>4238894112
theorem bS:∀{k:Key}{v:nE},vn k v=G->(∃i t,k=Key.inl i/\v=ae9 i t)\/(∃x t,k=Key.inr x/\v=Value.str x t)\/(k=Key.nn/\v=ab8)
 |.inl i,v,h=>by
  obtain⟨t,e⟩:=Value.isInt_shape h
  exact .inl ⟨i,t,rfl,e⟩
 |.inr x,v,h=>by
  obtain⟨t,e⟩:=Value.isStrOf_shape h
  exact .inr (.inl ⟨x,t,rfl,e⟩)
 |.nn,v,h=>by
  cases v with
  |none=>grind
  |_=>exact nomatch h
theorem DJ(i:Int)(t:Tok):vn (.inl i) (.int i t)=G:=by simp[vn,Value.isInt]
theorem D5(x:Str)(t:Tok):vn (.inr x) (.str x t)=G:=by simp[vn,Value.isStrOf]
theorem Q8(a b:Int):decide ((Key.inl a:Key)=Key.inl b)=(a==b):=by
 grind
theorem Ry(a b:Str):decide ((Key.inr a:Key)=Key.inr b)=decide (a=b):=by
 mright
theorem Rn(a:Int)(b:Str):decide ((Key.inl a:Key)=Key.inr b)=η:=afm (fun q=>nomatch q)
theorem PQ(a:Str)(b:Int):decide ((Key.inr a:Key)=Key.inl b)=η:=afm (fun q=>nomatch q)
theorem II(h:Q 4238894112 {s with toks:=s.toks+1}):aaN (aaO prog w) A (PySem.pyHash .none) Q E s:=by
 refine iF ?_;refine aaG ?_;have a:s.TypeIs .none "NoneType":=rfl;refine iF<|wpAny_specialOf a abY.lookup ?_;refine iF<|wpAny_specialOf a abY.lookup ?_;refine iF (wpAny_callSpecialIfBoundUnlessNone?_slot a abY
  (acQ abY a PySem.F.entry_NoneType_hash
   ((wpAny_ret_mkInt ?_)) (PySem.F.args_NoneType_hash_1 _)))
 exact aaG h
def dE(prog:abf)(w:abh):PySem.KeyKind prog w Key where
 is:=vn
 hash:=Wr w
 inj:=fun v a b f g=>by
  rcases bS f with⟨i,t,rfl,rfl⟩|⟨x,t,rfl,rfl⟩|⟨rfl,rfl⟩<;>rcases bS g with⟨j,u,rfl,e⟩|⟨y,u,rfl,e⟩|⟨rfl,e⟩<;>first|rfl|(cases e;rfl)|cases e
 byValue:=fun k v h=>by
  rcases bS h with⟨i,t,rfl,rfl⟩|⟨x,t,rfl,rfl⟩|⟨rfl,rfl⟩<;>rfl
 pyHash:=fun c h=>by
  rcases bS c with⟨i,t,rfl,rfl⟩|⟨x,t,rfl,rfl⟩|⟨rfl,rfl⟩
  .exact wpAny_pyHash_int h
  .exact wpAny_pyHash_str h
  .exact II h
 eqBool:=fun d c h=>by
  rcases bS d with⟨i,t,rfl,rfl⟩|⟨x,t,rfl,rfl⟩|⟨rfl,rfl⟩
  .rcases bS c with⟨j,u,rfl,rfl⟩|⟨y,u,rfl,rfl⟩|⟨rfl,rfl⟩
   .rw[Q8]at h;exact wpAny_eqBool_int h
   .rw[Rn]at h;exact aeE i t y u _ _ _ _ h
   .exact aet i t _ _ _ _ h
  .rcases bS c with⟨j,u,rfl,rfl⟩|⟨y,u,rfl,rfl⟩|⟨rfl,rfl⟩
   .rw[PQ]at h;exact aeF x t j u _ _ _ _ h
   .rw[Ry]at h;exact wpAny_eqBool_str h
   .exact aeu x t _ _ _ _ h
  .rcases bS c with⟨j,u,rfl,rfl⟩|⟨y,u,rfl,rfl⟩|⟨rfl,rfl⟩
   .exact aev j u _ _ _ _ h
   .exact aew y u _ _ _ _ h
   .exact afa _ _ _ _ _ h
 «strs»:=fun k x t v h=>by
  rcases bS h with⟨i,u,rfl,e⟩|⟨y,u,rfl,e⟩|⟨rfl,e⟩
  .exact nomatch e
  .injection e with e1 _
   subst e1;cases v<;>rfl
  .exact nomatch e
inductive V where
 |non|bl (b:Bool)|int (i:Int)|str (x:Str)|byt (b:Array UInt8)|flt (b:UInt64)|ref (a:aaB)|ty (n:String)
 deriving DecidableEq
abbrev afx:=List V
def aP:V->nE->Prop
 |.non,u=>u=ab8
 |.bl b,u=>u=Value.bool b
 |.int i,u=>∃t,u=ae9 i t
 |.str x,u=>∃t,u=Value.str x t
 |.byt b,u=>∃t,u=Value.bytes b t
 |.flt b,u=>∃t,u=Value.float b t
 |.ref a,u=>u=abJ a
 |.ty n,u=>u=Value.type n
abbrev aU:afx->afw->Prop:=Paired aP
theorem aU.length(r:aU xs us):xs.length=us.length:=Paired.length r
theorem aU.get:∀{xs:afx}{us:afw}{i:Nat}{x:V},aU xs us->xs[i]?=J x->∃u,us[i]?=J u/\aP x u
 |_,_,_,_,.nil,e=>by simp at e
 |_,_,0,_,.cons r _,e=>by grind
 |_,_,i+1,x,.cons _ t,e=>by
  obtain⟨u,h1,h2⟩:=aU.get t (by simpa using e);mright
theorem aU.append:∀{xs ys:afx}{us ws:afw},aU xs us->aU ys ws->aU (xs++ys) (us++ws)
 |_,_,_,_,.nil,s=>s
 |_,_,_,_,.cons r t,s=>.cons r<|aU.append t s
def pE:Option V->Option nE->Prop
 |some v,J u=>aP v u
 |none,U=>True
 |_,_=>False
def KV{κ:Type}:List (κ×V)->List (κ×nE)->Prop:=Paired fun(p:κ×V)(q:κ×nE)=>p.1=q.1/\aP p.2 q.2
noncomputable def kV:Key->V
 |.inl i=>.int i
 |.inr x=>.str x
 |.nn=>.non
inductive HO where
 /-- a list -/
 |lst (xs:afx)
 /-- a tuple (never changes) -/
 |tup (xs:afx)
 /-- a dict whose keys are ints and BF;one whose keys are tuples of ints and BF (the empty one is both) -/
 |dK (kvs:List<|Key×V)|dT (kvs:List<|List Key×V)
 /-- a set of ints: aV members,aV size -/
 |set (S:Int->Bool) (n:Nat)
 /-- an instance of the class at C,aV dict at dx,aV attributes -/
 |ins (C dx:aaB) (fs:List<|Str×V)
 /-- the dict of the instance at x -/
 |own (x:aaB)
 /-- the dict of an exception -/
 |xd (fs:List<|Str×V)
 /-- a bound method,f of x -/
 |met (f x:aaB)
 /-- a range object lo,lo+1,.. below hi -/
 |rng (lo hi:Int)
 /-- a thing that is qm to the object (the script;a dict while a loop walks it): read,never Bt while it is so -/
 |frz (o:Obj) (u:HO)
 /-- a code object's table -/
 |tbl (q:Str)
 /-- any other thing,by what is G of aV one object (a def of one's own: SetO a S n:=HO.ext fun h=>..) -/
 |ext (φ:acn->Prop)
abbrev Hp:=aaB->Option HO
def br(H:Hp)(a:aaB)(o:HO):Hp:=fun b=>if b=a then J o else H b
theorem aE:br H a o a=J o:=by unfold br;rw[afk rfl]
theorem aG(h:b≠a):br H a o b=H b:=by unfold br;rw[afl h]
theorem bc{H:Hp}(h:H a=J o)(h':H b=U):a≠b:=by
 grind
section
variable(P:abf)(w:abh)
def fK(H:Hp)(h:acn)(a:aaB):HO->Prop
 |.lst xs=>xs.length<=aaL/\∃(aV:afw)(n:Nat),aU xs aV/\h.get? a=J {cls:=.type "list",data:=.seq aV.toArray n}
 |.tup xs=>xs.length<=aaL/\∃aV:afw,aU xs aV/\IsTup h a aV.toArray
 |.dK kvs=>kvs.length<=aaL/\(a==ada)=η/\∃vs,KV kvs vs/\h.DictOf (dE P w) a vs
 | .dT kvs=>kvs.length<=aaL/\(a==ada)=η/\∃ xs:List (List Key×aaB×nE),
   Paired (fun(p:List Key×V)(q:List Key×aaB×nE)=>p.1=q.1/\H q.2.1=J (.tup<|p.1.map kV)/\aP p.2 q.2.2) kvs xs /\
   ∃o es e,h.get? a=J o/\o.ExactDict/\o.data=.dict es e/\es.toList=xs.map (entryOfKey<|tupleKind<|dE P w)/\(xs.map (·.1)).Nodup
 |.set S n=>h.SetOf (intKind P w) a S n
 | .ins C dx fs=>H dx=J (.own a)/\fs.length<=1000/\dx≠a/\h.get? a=J (acW C dx) /\
   ∃mA,h.Ns1 dx mA/\(∀f,pE (fs.lookup f)<|mA f)/\ae2 mA (fs.map (·.1))
 |.own _=>∃o,h.get? a=J o
 |.xd fs=>∃mA,h.Ns1 a mA/\∀f,pE (fs.lookup f)<|mA f
 |.rng lo hi=>∃t u v,h.get? a=J {cls:=.type "range",data:=.fields #[.int lo t,.int hi u,.int 1 v]}
 |.frz o u=>h.get? a=J o/\fK H h a u
 |.tbl q=>∃ps,h.get? a=J (acL ps)/\TriplesOk ps.toList/\∀pos b,codeAmong pos ps.toList=J b->∃c d vs t,b=.ref c/\H c=J (.frz d<|.own a)/\d.data=.fields vs/\vs[1]?=J (.str q t)
 |.met f x=>h.get? a=J (PySem.W.methodObj (.ref f)<|.ref x)
 |.ext φ=>φ h/\(∃o,h.get? a=J o)/\∀h1 h2:acn,φ h1->(∀o,h1.get? a=J o->h2.get? a=J o)->φ h2
def nW(H:Hp)(h:acn):Prop:=∀a o,H a=J o->fK P w H h a o
end
section
variable{a:aaB}
theorem fK.lt(x:fK P w H h a o):a<h.objs.size:=by
 cases o with
 |lst xs=>obtain⟨_,_,_,_,e⟩:=x;exact aay e
 |tup xs=>obtain⟨_,_,_,p⟩:=x;exact p.lt
 |dK b=>obtain⟨_,_,_,_,o,_,_,e,_⟩:=x;exact aay e
 |dT b=>obtain⟨_,_,_,_,o,_,_,e,_⟩:=x;exact aay e
 |set S n=>refine Z42 x fun o _ _ _ e _=>?_;exact aay e
 |ins C c fs=>refine Z05 x fun _ _ _ e _=>?_;exact aay e
 |own y=>obtain⟨_,e⟩:=x;exact aay e
 |xd fs=>obtain⟨_,⟨_,_,_,e,_⟩,_⟩:=x;exact aay e
 |rng lo d=>obtain⟨_,_,_,e⟩:=x;exact aay e
 |frz g u=>obtain⟨e,_⟩:=x;exact aay e
 |tbl q=>obtain⟨_,e,_⟩:=x;exact aay e
 |met f y=>exact aay<|(x)
 |ext φ=>obtain⟨_,⟨_,e⟩,_⟩:=x;exact aay e
theorem Paired.mapP{F Gq0:α->β->Prop}:∀{d:List α}{c:List β},Paired F d c->(∀a b,F a b->Gq0 a b)->Paired Gq0 d c
 |_,_,.nil,_=>.nil
 |_,_,.cons r t,f=>.cons (f _ _ r)<|Paired.mapP t f
def Hl(H:Hp)(b:aaB)(u:HO):Prop:=H b=J u/\match u with
 |.tup _=>True
 |.frz _ _=>True
 |_=>False
theorem fK.stay(x:fK P w H h a o)(k:∀b u,(b=a\/H b=J (.own a))->h.get? b=J u->h'.get? b=J u)
  (M:∀b,H b=J (.own a)->H' b=J (.own a)) (s:∀b u,Hl H b u->Hl H' b u):fK P w H' h' a o:=by
 induction o with
 |lst xs=>obtain⟨z,aV,n,r,e⟩:=x;exact⟨z,aV,n,r,k _ _ (.inl rfl) e⟩
 |tup xs=>obtain⟨z,aV,r,g,e,c⟩:=x;exact⟨z,aV,r,g,k _ _ (.inl rfl) e,c⟩
 |dK j=>obtain⟨z,y,vs,r,g,es,i,e,c⟩:=x;exact⟨z,y,vs,r,g,es,i,k _ _ (.inl rfl) e,c⟩
 |dT j=>
  obtain⟨z,y,xs,r,g,es,i,e,c⟩:=x;exact⟨z,y,xs,Paired.mapP r fun p q z=>⟨z.1,(s _ _ ⟨z.2.1,trivial⟩).1,z.2.2⟩,g,es,i,k _ _ (.inl rfl) e,c⟩
 |set S n=>refine Z42 x fun g es i t e c=>?_;exact⟨g,es,i,t,k _ _ (.inl rfl) e,c⟩
 |ins C N fs=>
  obtain⟨d,z,A,e,mA,⟨l,es,i,m,c⟩,r⟩:=x;exact⟨M _ d,z,A,k _ _ (.inl rfl) e,mA,⟨l,es,i,k _ _ (.inr d) m,c⟩,r⟩
 |own y=>obtain⟨g,e⟩:=x;exact⟨g,k _ _ (.inl rfl) e⟩
 |xd fs=>obtain⟨mA,⟨l,es,i,e,c⟩,r⟩:=x;exact⟨mA,⟨l,es,i,k _ _ (.inl rfl) e,c⟩,r⟩
 |rng lo O=>obtain⟨t,u,v,e⟩:=x;exact⟨t,u,v,k _ _ (.inl rfl) e⟩
 |frz g u I=>obtain⟨e,q⟩:=x;exact⟨k _ _ (.inl rfl) e,I q⟩
 |tbl q=>
  refine Z13 x fun ps e tr r=>?_;refine⟨ps,k a _ (.inl rfl) e,tr,fun pos B F=>?_⟩;obtain⟨c,K,vs,E,e1,m,D⟩:=r pos B F;exact⟨c,K,vs,E,e1,(s _ _ ⟨m,trivial⟩).1,D⟩
 |met f y=>
  have e  := x;exact k a _ (.inl rfl) e
 |ext φ=>obtain⟨p,⟨o,e⟩,st⟩:=x;exact⟨st _ _ p fun o q=>k _ _ (.inl rfl) q,⟨o,k _ _ (.inl rfl) e⟩,st⟩
theorem nW.lt(x:nW P w H h)(e:H a=J o):a<h.objs.size:=(x a o e).lt
theorem nW.fresh(x:nW P w H h)(e:h.objs.size<=a):H a=U:=by
 cases q:H a with
 |none=>rfl
 |some u=>exact absurd (Rw (x.lt q) e)<|acE _
theorem nW.kept(x:nW P w H h)(k:∀b u,h.get? b=J u->h'.get? b=J u):nW P w H h':=fun a o e=>
 (x a o e).stay (fun b u _ q=>k b u q) (fun _ q=>q) fun _ _ q=>q
theorem nW.laid(x:nW P w H h)(k:∀b u,h.get? b=J u->h'.get? b=J u)(g:h.objs.size<=a)(new:fK P w (br H a o) h' a o):nW P w (br H a o) h':=fun b u e=>by
 have d:=x.fresh g;by_cases f:b=a
 .subst f;rw[aE]at e;cases e;exact new
 .rw[aG f]at e;exact(x b u e).stay (fun c v _ q=>k c v q) (fun c q=>by rw[aG<|bc q d];exact q) fun c xs q=>⟨by rw[aG<|bc q.1 d];exact q.1,q.2⟩
end
def Rd(H:Hp)(a:aaB)(u:HO):Prop:=H a=J u\/∃o,H a=J (.frz o u)
theorem Rd.ok(r:Rd H a u)(x:nW P w H h):fK P w H h a u:=by
 rcases r with r|⟨o,r⟩
 .exact x a u r
 .obtain⟨_,q⟩:=x a _ r;exact q
def Sk:Option HO->Prop
 |some (.lst _)=>True
 |some (.dK _)=>True
 |some (.dT _)=>True
 |some (.set _ _)=>True
 |some (.ins _ _ _)=>True
 |some (.ext _)=>True
 |_=>False
section
theorem nW.write(ok:nW P w H h)(f:Sk<|H x)(m:e=x\/H e=J (.own x))(k:∀b u,b≠e->h.get? b=J u->h'.get? b=J u)(g:∃u,h'.get? e=J u)
  (new:fK P w (br H x o') h' x o'):nW P w (br H x o') h':=fun b u q=>by
 have d:∀c y,H c=J (.own y)->c≠x:=fun c y r z=>by subst z;rw[r]at f;exact f
 have a:∀c u,Hl H c u->c≠x:=fun c u r z=>by subst z;rw[r.1]at f;have:=r.2;cases u<;>first|exact f|exact this
 by_cases i:b=x
 .subst i;rw[aE]at q;cases q;exact new
 .rw[aG i]at q;by_cases j:b=e
  .have q':H b=J (.own x):=by
    mright
   rw[q]at q';cases q';obtain⟨v,hv⟩:=g
   exact⟨v,⊥⟩
  .refine(ok b u q).stay (fun c v l r=>k c v ?_ r) (fun c r=>by rw[aG<|d c b r];exact r) fun c xs r=>⟨by rw[aG<|a c xs r];exact r.1,r.2⟩
   grind
end
structure Un(fs ex:afv)(H H':Hp)(h h':acn):Prop where
 keep:∀b o,h.get? b=J o->H b=U->b∉fs->b∉ex->h'.get? b=J o
 slot:∀b o,h.get? b=J o->H b=U->b∈fs->b∉ex->∃sl,h'.get? b=J {o with slots:=sl}
 free:∀b o,h.get? b=J o->H b=U->b∉ex->H' b=U
 there:∀b o,h.get? b=J o->b∉ex->∃o',h'.get? b=J o'
 tups:∀b xs,H b=J (.tup xs)->H' b=J (.tup xs)
 frzs:∀b o u,H b=J (.frz o u)->H' b=J (.frz o u)
 tbls:∀b q,H b=J (.tbl q)->H' b=J (.tbl q)
section
variable{h h1 h2:acn}{a x:aaB}
theorem Un.any(u:Un fs ex H H1 h h1)(q:h.get? b=J ob)(n:H b=U)(c:b∉ex):∃d,h1.get? b=J {ob with slots:=d}:=by
 by_cases a:b∈fs
 .exact u.slot b ob q n a c
 .exact⟨ob.slots,u.keep b ob q n a c⟩
theorem Un.kept(k:∀b u,h.get? b=J u->h'.get? b=J u):Un fs ex H H h h':=
 ⟨fun b a q _ _ _=>k b a q,fun b a q _ _ _=>⟨a.slots,k b a q⟩,fun _ _ _ n _=>n,fun b a q _=>⟨a,k b a q⟩,fun _ _ q=>q,fun _ _ _ q=>q,fun _ _ q=>q⟩
theorem Un.laid(k:∀b u,h.get? b=J u->h'.get? b=J u)(d:h.objs.size<=a)(c:H a=U):Un fs ex H (br H a o) h h' where
 keep:=fun b u q _ _ _=>k b u q
 slot:=fun b u q _ _ _=>⟨u.slots,k b u q⟩
 free:=fun b u q n _=>by rw[aG<|aa0<|Rw (aay q) d];exact n
 there:=fun b u q _=>⟨u,k b u q⟩
 tups:=fun b xs q=>by rw[aG<|bc q c];exact q
 frzs:=fun b u xs q=>by rw[aG<|bc q c];exact q
 tbls:=fun b ps q=>by rw[aG<|bc q c];exact q
theorem Un.write(c:Sk<|H x)(i:e=x\/H e=J (.own x))(k:∀b u,b≠e->h.get? b=J u->h'.get? b=J u)(f:∃u,h'.get? e=J u):Un fs ex H (br H x o) h h':=by
 have g:∀b,H b=U->b≠x:=fun b n z=>by subst z;rw[n]at c;exact c
 have d:∀b,H b=U->b≠e:=fun b n z=>by
  mright
 have a:∀b u,H b=J u->¬Sk (J u)->b≠x:=fun b u q nm z=>by mright
 refine⟨fun b u q n _ _=>k b u (d b n) q,fun b u q n _ _=>⟨u.slots,k b u (d b n) q⟩,fun b u q n _=>by rw[aG<|g b n];exact n,fun b u q _=>?_,
  fun b xs q=>by rw[aG (a b _ q fun z=>z)];exact q,fun b u xs q=>by rw[aG (a b _ q fun z=>z)];exact q,fun b ps q=>by rw[aG (a b _ q fun z=>z)];exact q⟩
 grind
end
def VO(h:acn)(H:Hp):afv:=(ads h.objs.size).filter fun a=>(H a).isSome
def yU(h:acn)(H:Hp):acn:=PySem.W.hideAll h<|VO h H
theorem F1(e:h.get? b=J o)(n:H b=U):(yU h H).get? b=J o:=
 PySem.W.hideAll_get _ e fun a=>by
  have q:(H b).isSome=G:=(ab9.mp a).2;rw[n]at q;mright
theorem JH(e:(yU h H).get? b=J o):h.get? b=J o/\H b=U:=by
 have a:h.get? b=J o:=PySem.W.of_hideAll (VO h H) e;refine⟨a,?_⟩;cases q:H b with
 |none=>rfl
 |some x=>
  have c:b∈VO h H:=ab9.mpr ⟨aeq.mpr<|aay a,by simp[q]⟩;have z:(yU h H).get? b=U:=PySem.W.hideAll_none (VO h H) c;rw[z]at e;cases e
structure Mod(K:aT)(mg:afu)(base:acn):Prop where
 kin:K.In base
 glob:base.Ns By mg
 blt:∃mb,base.Ns builtinsNs mb/\∀x:Str,x≠"__name__"->mb x=aaT x
 nolimit:base.NoLimit
structure Cx where
 prog:abf
 w:abh
 K:aT
 mg:Str->Option nE
 base:acn
 A:abF
 N:afr
 s₀:ID
 H₀:Hp
 env:Env
 outer:List Env
 stack:List Env
 ex:afv
 fn:Str->Bool
 calm:Bool
 tn:Nat:=0
 pn:afs
 xe:nE->ID->Prop
def Ec(l:List Env):afv:=l.filterMap (·.frame)
abbrev Cx.fs(X:Cx):afv:=Ec X.outer
def m6(a:Scope)(x:Str):Prop:=a.names.lookup x=J .local\/a.names.lookup x=J .cell\/a.names.lookup x=J .free
def Loc(a:Scope)(x:Str):Prop:=a.names.lookup x=J .local\/a.names.lookup x=J .cell
def Wq(env:Env)(h:acn)(m:afu)(x:Str)(u:nE):Prop:=
 (env.kindOf x=J .local/\m x=J u)\/((env.kindOf x=J .cell\/env.kindOf x=J .free)/\∃c,env.cells.lookup x=J c/\h.IsCell c (J u))
noncomputable def g6(K:aT)(p:aaB×Obj):Option<|aaB×Str:=match p.2.data with
 |.fields vs=>match(vs[1]?:Option nE),(vs[11]?:Option nE)with
  |some (.str q _),J (.ref P)=>if(K.lookup P).isNone&&adl K p.1 P then J (P,q++".<locals>."++"<lambda>")else U
  |_,_=>U
 |_=>U
def RJ(K:aT)(H:Hp):Prop:=∀p∈K,∀x,g6 K p=J x->H x.1=J (.tbl x.2)
structure Cx.Ok(X:Cx):Prop where
 mod:Mod X.K X.mg X.base
 kind:X.env.scope.kind=.function
 glob:X.env.globals=By
 blt:X.env.builtins=builtinsNs
 above:X.s₀.heap.objs.size<=X.env.locals
 inj:∀x y c,X.env.cells.lookup x=J c->X.env.cells.lookup y=J c->x=y
 has:∀x,(X.env.kindOf x=J .cell\/X.env.kindOf x=J .free)->∃c,X.env.cells.lookup x=J c
 cab:∀x c,X.fn x=G->X.env.cells.lookup x=J c->X.s₀.heap.objs.size<=c
 hd:X.calm=G->X.A.handled=U
 frames:X.A.frames=J X.stack
 stk:X.stack=X.outer\/(X.stack=X.env::X.outer/\X.env.frame=J X.env.locals)
 exf:∀b∈X.ex,b≠X.env.locals/\∀x c,X.env.cells.lookup x=J c->c≠b
 bs:∀b o,X.base.get? b=J o->X.s₀.heap.get? b=J o/\X.H₀ b=U
 bsz:X.base.objs.size<=X.s₀.heap.objs.size
 noex:∀b o,X.base.get? b=J o->b∉X.ex
 exfs:∀b∈X.ex,b∉X.fs
 funs:X.s₀.heap.FunFrames X.base X.outer
 frf:(∀b∈X.fs,X.H₀ b=U)/\RJ X.K X.H₀
structure Inv(X:Cx)(aa:afs)(Z:List (Option V))(H:Hp)(s:ID):Prop where
 ok:X.Ok
 os:s.os=X.s₀.os
 bare:AllBare s.gens
 base:Un X.fs X.ex X.H₀ H X.s₀.heap s.heap
 loc:∃m,s.heap.Ns X.env.locals m/\∀(i:Nat)(x:Str)(v:V),X.N[i]?=J x->Z[i]?=J (J v)->m6 X.env.scope x->∃u,aP v u/\Wq X.env s.heap m x u
 cell:∀x c,X.env.cells.lookup x=J c->∃v,s.heap.IsCell c v
 free:H X.env.locals=U
 freeC:∀x c,X.env.cells.lookup x=J c->H c=U
 pin:∀p∈X.pn++aa,s.heap.get? p.1=J p.2/\H p.1=U/\p.1≠X.env.locals/\p.1∉X.fs/\∀v,p.2.data≠.cell v
 hok:nW X.prog X.w H s.heap
 len:Z.length=X.N.length
 tk:X.tn<=s.toks
end L2
local macro_rules | `(tactic| walk_at "tok") => `(tactic| first | assumption | exact L2.Inv.tk (by assumption) | exact Nat.le_succ_of_le (L2.Inv.tk (by assumption)) | exact Nat.le_succ_of_le (Nat.le_succ_of_le (L2.Inv.tk (by assumption))) | (have hI := L2.Inv.tk (by assumption); lia) | exact Nat.zero_le _)
namespace L2
open PySem PySem.Spec PyProof.Rows
section
variable{X:Cx}
theorem Cx.Ok.nofr(ok:X.Ok)(e:X.base.get? b=J o):b∉X.fs:=fun a=>by
 have:=(ok.funs.mem a).1
 rw[e]at this;cases this
theorem Inv.bs(I:Inv X aa Z H s):∀b o,X.base.get? b=J o->s.heap.get? b=J o/\H b=U:=fun b o e=>
 ⟨I.base.keep b o (I.ok.bs b o e).1 (I.ok.bs b o e).2 (I.ok.nofr e)<|I.ok.noex b o e,I.base.free b o (I.ok.bs b o e).1 (I.ok.bs b o e).2<|I.ok.noex b o e⟩
theorem Inv.bk(I:Inv X aa Z H s):∀b o,X.base.get? b=J o->s.heap.get? b=J o:=fun b o e=>(I.bs b o e).1
theorem Inv.mod(I:Inv X aa Z H s):Mod X.K X.mg X.base:=I.ok.mod
theorem Inv.tb(I:Inv X aa Z H s):RJ X.K H:=fun p a x e=>I.base.tbls _ _<|I.ok.frf.2 p a x e
theorem Inv.kIn(I:Inv X aa Z H s):X.K.In s.heap:=I.ok.mod.kin.keeps I.bk
theorem Inv.fr(I:Inv X aa Z H s):∃m,Fr X.base X.env.locals s.heap m:=
 let⟨m,hn,_⟩:=I.loc
 ⟨m,hn,I.bk,RW I.ok.bsz I.ok.above⟩
theorem Inv.lt(I:Inv X aa Z H s):X.env.locals<s.heap.objs.size:=let⟨_,hn,_⟩:=I.loc;hn.lt
theorem Inv.sz(I:Inv X aa Z H s):X.s₀.heap.objs.size<=s.heap.objs.size:=RW I.ok.above<|ae3 I.lt
theorem Inv.nofs(I:Inv X aa Z H s){a:aaB}(h:s.heap.objs.size<=a):a∉X.fs:=fun c=>by
 obtain⟨_,o,b,_⟩:=I.ok.funs.mem c;exact absurd (Rw (aay b)<|RW I.sz h)<|acE _
theorem Inv.cne(I:Inv X aa Z H s):∀x c,X.env.cells.lookup x=J c->c≠X.env.locals:=fun x c e z=>by
 obtain⟨v,o,ho,hd⟩:=I.cell x c e
 obtain⟨m,⟨o',es,d,a,b,_⟩,_⟩:=I.loc
 mright
theorem Inv.funs(I:Inv X aa Z H s):s.heap.FunFrames X.base X.outer:=by
 have all:∀(l:List Env),(∀b∈Ec l,b∈X.fs)->X.s₀.heap.FunFrames X.base l->s.heap.FunFrames X.base l:=by
  intro l;induction l with
  |nil=>intro _ _;trivial
  |cons env r f=>
   intro hs j;obtain⟨h,⟨Lq0,o,c,g,i,hd⟩,d⟩:=j;have hL  := hs Lq0 (by delta Ec;mright);obtain⟨sl,e⟩:=I.base.slot Lq0 o i (I.ok.frf.1 Lq0 hL) hL fun z=>I.ok.exfs Lq0 z hL
   exact⟨h,⟨Lq0,_,c,g,e,hd⟩,f (fun b a=>hs b<|by delta Ec;rw[adt,c];exact ie _ a) d⟩
 exact all X.outer (fun _ a=>a) I.ok.funs
theorem Inv.stack(I:Inv X aa Z H s):s.heap.FunFrames X.base X.stack:=by
 rcases I.ok.stk with e|⟨e,hf⟩
 .rw[e];exact I.funs
 .rw[e];obtain⟨m,hn,_⟩:=I.loc
  refine .cons (by rw[I.ok.kind];decide) hf hn ?_ I.funs;exact aek<|RW I.ok.bsz I.ok.above
theorem Inv.stkSub(I:Inv X aa Z H s):∀b∈Ec X.stack,b∈X.env.locals::X.fs:=fun b a=>by
 rcases I.ok.stk with e|⟨e,hf⟩
 .mright
 .rw[e]at a;delta Ec at a;rw[adt,hf]at a;exact a
theorem Inv.stkFree(I:Inv X aa Z H s):∀b∈Ec X.stack,H b=U:=fun b a=>by
 rcases eQ.mp (I.stkSub b a)with e|a
 .rw[e];exact I.free
 .obtain⟨_,o,c,_⟩:=I.ok.funs.mem a;exact I.base.free b o c (I.ok.frf.1 b a) fun z=>I.ok.exfs b z a
theorem Inv.step{ch:afv}(I:Inv X aa Z H s)
  (f:∀b∈ch,(b∈X.ex\/X.s₀.heap.objs.size<=b)/\b≠X.env.locals/\(∀x c,X.env.cells.lookup x=J c->c≠b)/\∀p∈X.pn++aa,p.1≠b)
  (keep:∀b o,b≠X.env.locals->b∉X.fs->b∉ch->s.heap.get? b=J o->H b=U->h'.get? b=J o)
  (slot:∀b o,b≠X.env.locals->b∈X.fs->b∉ch->s.heap.get? b=J o->H b=U->∃C,h'.get? b=J {o with slots:=C}) (free:∀b o,b∉ch->s.heap.get? b=J o->H b=U->H' b=U)
  (there:∀b o,b∉ch->s.heap.get? b=J o->∃o',h'.get? b=J o')
  (tups:∀b xs,H b=J (.tup xs)->H' b=J (.tup xs)) (frzs:∀b o u,H b=J (.frz o u)->H' b=J (.frz o u)) (tbls:∀b q,H b=J (.tbl q)->H' b=J (.tbl q))
  (N:∀m,s.heap.Ns X.env.locals m->h'.Ns X.env.locals m) (E:nW X.prog X.w H' h') (O:AllBare g') (M:autoParam (X.tn<=t') Xbz):
  Inv X aa Z H' {s with heap:=h',gens:=g',drawn:=d',toks:=t'}:=by
 have A:∀b o,X.s₀.heap.get? b=J o->b≠X.env.locals:=fun b o e=>aa0<|Rw (aay e) I.ok.above;have h:∀b o,X.s₀.heap.get? b=J o->b∉X.ex->b∉ch:=fun b o e a t=>by
  rcases(f b t).1 with z|z
  .exact a z
  .exact absurd (Rw (aay e) z) (acE _)
 have g:∀x c,X.env.cells.lookup x=J c->∀v,s.heap.IsCell c v->h'.IsCell c v:=fun x c e v⟨o,y,hd⟩=>by
  have j:c∉ch:=fun z=>(f c z).2.2.1 x c e rfl;by_cases K:c∈X.fs
  .obtain⟨C,q⟩:=slot c o (I.cne x c e) K j y<|I.freeC x c e;exact⟨_,q,hd⟩
  .exact⟨o,keep c o (I.cne x c e) K j y<|I.freeC x c e,hd⟩
 refine⟨I.ok,I.os,O,⟨fun b o e n t a=>?_,fun b o e n t a=>?_,fun b o e n a=>?_,fun b o e a=>?_,fun b xs e=>tups b xs<|I.base.tups b xs e,fun b o xs e=>frzs b o xs<|I.base.frzs b o xs e,fun b ps e=>?_⟩,?_,fun x c e=>?_,?_,fun x c e=>?_,fun p F=>?_,E,I.len,M⟩
 .exact keep b o (A b o e) t (h b o e a) (I.base.keep b o e n t a) (I.base.free b o e n a)
 .obtain⟨C,e1⟩:=I.base.slot b o e n t a
  obtain⟨B,D⟩:=slot b _ (A b o e) t (h b o e a) e1<|I.base.free b o e n a;exact⟨B,D⟩
 .obtain⟨o',e1⟩:=I.base.there b o e a
  exact free b o' (h b o e a) e1<|I.base.free b o e n a
 .obtain⟨o',e1⟩:=I.base.there b o e a
  exact there b o' (h b o e a) e1
 .exact tbls b ps (I.base.tbls b ps e)
 .obtain⟨m,hn,hl⟩:=I.loc
  refine⟨m,N m hn,fun i x v e1 D P=>?_⟩;obtain⟨u,r,l⟩:=hl i x v e1 D P
  refine⟨u,r,?_⟩;rcases l with l|⟨k,c,e,z⟩
  .exact .inl l
  .exact .inr ⟨k,c,e,g x c e _ z⟩
 .obtain⟨v,z⟩:=I.cell x c e
  exact⟨v,g x c e v z⟩
 .obtain⟨m,⟨o,_,_,y,_⟩,_⟩:=I.loc;exact free _ o (fun z=>(f _ z).2.1 rfl) y I.free
 .obtain⟨v,o,y,hd⟩:=I.cell x c e
  exact free c o (fun z=>(f c z).2.2.1 x c e rfl) y<|I.freeC x c e
 .refine Z05 (I.pin p F) fun e n ne nf d=>?_
  have j:p.1∉ch:=fun z=>(f p.1 z).2.2.2 p F rfl;mright
theorem Inv.un(I:Inv X aa Z H s)(u:Un X.fs [] H H' s.heap h')(a:nW X.prog X.w H' h')(h:autoParam (X.tn<=t') Xbz):Inv X aa Z H' {s with heap:=h',toks:=t'}:=by
 obtain⟨m,⟨o,es,j,d,r⟩,_⟩:=id I.loc;obtain⟨i,g⟩:=u.any d I.free ∅;exact I.step (ch:=[]) (fun _ z=>nomatch z) (fun b o _ c _ e n=>u.keep b o e n c<|∅) (fun b o _ c _ e n=>u.slot b o e n c<|∅) (fun b o _ e n=>u.free b o e n<|∅) (fun b o _ e=>u.there b o e<|∅) u.tups u.frzs u.tbls (fun k f=>by
  obtain⟨o',es',ep',ho',r'⟩:=f
  rw[d]at ho';cases ho';exact⟨_,es',ep',g,r'⟩) a I.bare
theorem Inv.call(I:Inv X aa Z H s)(u:Un (Ec X.stack) ch H H' s.heap h')(j:nW X.prog X.w H' h')(q:AllBare g')
  (f:∀b∈ch,(b∈X.ex\/X.s₀.heap.objs.size<=b)/\b≠X.env.locals/\(∀x c,X.env.cells.lookup x=J c->c≠b)/\∀p∈X.pn++aa,p.1≠b) (y:autoParam (X.tn<=t') Xbz):
  Inv X aa Z H' {s with heap:=h',gens:=g',drawn:=d',toks:=t'}:=by
 obtain⟨m,⟨o,es,A,k,r⟩,_⟩:=id I.loc;obtain⟨sl,h⟩:=u.any k I.free fun z=>(f _ z).2.1 rfl
 exact I.step f (fun b o h v a e n=>u.keep b o e n (fun z=>(eQ.mp<|I.stkSub b z).elim h v) a) (fun b o _ _ a e n=>u.any e n a) (fun b o a e n=>u.free b o e n a) (fun b o a e=>u.there b o e a) u.tups u.frzs u.tbls (fun B l=>by
  obtain⟨o',i,g,d,t⟩:=l;rw[k]at d;cases d;exact⟨_,i,g,h,t⟩) j q
theorem Inv.turned(I:Inv X aa Z H s)(k:∀b o,b≠it->s.heap.get? b=J o->h'.get? b=J o)(j:H it=U)(d:it≠X.env.locals)
  (h1:it∈X.ex\/X.s₀.heap.objs.size<=it) (h2:∀x c,X.env.cells.lookup x=J c->c≠it) (g:∀p∈X.pn++aa,p.1≠it) (i:autoParam (X.tn<=t') Xbz):Inv X aa Z H {s with heap:=h',toks:=t'}:=by
 refine I.step (ch:=[it]) (fun b h=>?_) (fun b o _ _ a e _=>k b o (fun z=>a<|by simp[z]) e) (fun b o _ _ a e _=>⟨o.slots,k b o (fun z=>a<|by simp[z]) e⟩) (fun _ _ _ _ n=>n)
  (fun b o a e=>⟨o,k b o (fun z=>a<|by simp[z]) e⟩) (fun _ _ e=>e) (fun _ _ _ e=>e) (fun _ _ e=>e) (fun m f=>?_) (fun b u e=>?_) I.bare
 .have e  := by simpa using h
  subst e;exact⟨h1,d,h2,g⟩
 .obtain⟨o,es,ep,ho,r⟩:=f
  exact⟨o,es,ep,k _ o (aci d) ho,r⟩
 .refine(I.hok b u e).stay (fun c v a q=>k c v ?_ q) (fun _ q=>q) fun _ _ q=>q
  lia
theorem Inv.tok(I:Inv X aa Z H s)(t:Nat)(a:autoParam (X.tn<=t) Xbz):Inv X aa Z H {s with toks:=t}:=I.un (Un.kept fun _ _ q=>q) I.hok
theorem Inv.kept(I:Inv X aa Z H s)(k:∀b u,s.heap.get? b=J u->h'.get? b=J u)(a:autoParam (X.tn<=t') Xbz):Inv X aa Z H {s with heap:=h',toks:=t'}:=I.un (Un.kept k)<|I.hok.kept k
theorem Inv.laid{a:aaB}(I:Inv X aa Z H s)(k:∀b u,s.heap.get? b=J u->h'.get? b=J u)(c:s.heap.objs.size<=a)(new:fK X.prog X.w (br H a o) h' a o)(d:autoParam (X.tn<=t') Xbz):
  Inv X aa Z (br H a o) {s with heap:=h',toks:=t'}:=I.un (Un.laid k c<|I.hok.fresh c)<|I.hok.laid k c new
theorem Inv.write(I:Inv X aa Z H s)(d:Sk<|H x)(c:e=x\/H e=J (.own x))(k:∀b u,b≠e->s.heap.get? b=J u->h'.get? b=J u)(a:∃u,h'.get? e=J u)
  (new:fK X.prog X.w (br H x o) h' x o) (f:autoParam (X.tn<=t') Xbz):Inv X aa Z (br H x o) {s with heap:=h',toks:=t'}:=I.un (Un.write d c k a)<|I.hok.write d c k a new
theorem Inv.pins_of(I:Inv X aa Z H s)(h:∀p∈pins',s.heap.get? p.1=J p.2/\H p.1=U/\p.1≠X.env.locals/\p.1∉X.fs/\∀v,p.2.data≠.cell v):Inv X pins' Z H s:=
 ⟨I.ok,I.os,I.bare,I.base,I.loc,I.cell,I.free,I.freeC,fun p a=>(BY.mp a).elim (fun z=>I.pin p<|Le _ z)<|h p,I.hok,I.len,I.tk⟩
theorem yX{N:afr}(c:N.Nodup){i j:Nat}(a:N[i]?=J x)(b:N[j]?=J x):i=j:=by
 obtain⟨h1,e1⟩:=rW.mp a
 obtain⟨h2,e2⟩:=rW.mp b
 exact(List.getElem_inj c).mp<|e1.trans e2.symm
theorem DL(I:Inv X aa Z H s)(W:X.N.Nodup)(D:X.N[i]?=J x)(l:Loc X.env.scope x)(r:aP v u)
  (h:∀s',Inv X aa (Z.set i<|J v) H s'->(∃a,abj a s.heap s'.heap/\(a=X.env.locals\/X.env.cells.lookup x=J a))->Q () s') (hf:autoParam (X.fn x=G\/X.env.scope.names.lookup x=J .local) Xbx):aaN M A (storeName X.env x u) Q E s:=by
 obtain⟨m,hn,hl⟩:=id I.loc
 have F:(X.env.scope.kind==.class||(X.env.scope.kind==.module&&X.env.locals != X.env.globals))=η:=by rw[I.ok.kind];rfl
 have B:i<Z.length:=by rw[I.len];exact(rW.mp D).1
 have cne:=I.cne;have f:∀{a:aaB}{h':acn},(∃o,s.heap.get? a=J o/\H a=U)->abj a s.heap h'->nW X.prog X.w H h':=fun{a h'}ha hs b ob e=>by
  obtain⟨_,_,hfree⟩:=ha
  refine(I.hok b ob e).stay (fun c T g q=>(hs.2 c ?_).trans q) (fun _ q=>q) fun _ _ q=>q;rintro rfl;rcases g with rfl|g
  .rw[hfree]at e;cases e
  .rw[hfree]at g;cases g
 rcases l with hk|hk
 .refine wpAny_storeName_local hk hn (fun h' P hs=>?_) F;obtain⟨oL,_,_,hoL,_⟩:=id hn
  refine h _ ⟨I.ok,I.os,I.bare,⟨fun b o e n C l=>?_,fun b o e n C l=>?_,I.base.free,fun b o e l=>?_,I.base.tups,I.base.frzs,I.base.tbls⟩,⟨_,P,fun j y V e1 t S=>?_⟩,fun y c e=>?_,I.free,I.freeC,fun p R=>?_,f ⟨oL,hoL,I.free⟩ hs,by simpa using I.len,by walk_at "tok"⟩ ⟨_,hs,.inl rfl⟩
  .exact(hs.2 b<|aa0<|Rw (aay e) I.ok.above).trans (I.base.keep b o e n C l)
  .obtain⟨sl,e1⟩:=I.base.slot b o e n C l
   exact⟨sl,(hs.2 b<|aa0<|Rw (aay e) I.ok.above).trans e1⟩
  .obtain⟨o',e1⟩:=I.base.there b o e l
   exact⟨o',(hs.2 b<|aa0<|Rw (aay e) I.ok.above).trans e1⟩
  .by_cases hj:j=i
   .subst hj;rw[D]at e1;cases e1;rw[acr B]at t;cases t;exact⟨u,r,.inl ⟨hk,∅⟩⟩
   .rw[abC<|aci hj]at t;obtain⟨u',r',q⟩:=hl j y V e1 t S
    refine⟨u',r',?_⟩;rcases q with⟨k,e⟩|⟨k,c,e,z⟩
    .refine .inl ⟨k,?_⟩
     have:y≠x:=fun e=>hj<|yX W e1<|e▸D
     simp[this,e]
    .exact .inr ⟨k,c,e,z.sameBut hs<|cne y c e⟩
  .obtain⟨T,z⟩:=I.cell y c e
   exact⟨T,z.sameBut hs<|cne y c e⟩
  .obtain⟨e,n,ne,nf,d⟩:=I.pin p R
   exact⟨(hs.2 p.1 ne).trans e,n,ne,nf,d⟩
 .have hfn:X.fn x=G:=by
   rcases hf with z|z
   .exact z
   .rw[z]at hk;cases hk
  obtain⟨c,g⟩:=I.ok.has x<|.inl hk
  obtain⟨T,z⟩:=I.cell x c g
  refine wpAny_storeName_cell I.ok.kind hk g z fun h' K hs=>?_;let⟨oc,hoc,hocd⟩:=id z
  refine h {s with heap:=h'} ⟨I.ok,I.os,I.bare,⟨fun b o e n C l=>?_,fun b o e n C l=>?_,I.base.free,fun b o e l=>?_,I.base.tups,I.base.frzs,I.base.tbls⟩,⟨m,hn.sameBut hs<|aci<|cne x c g,fun j y V e1 t S=>?_⟩,fun y O e=>?_,I.free,I.freeC,fun p R=>?_,f ⟨oc,hoc,I.freeC x c g⟩ hs,by simpa using I.len,I.tk⟩ ⟨c,hs,.inr g⟩
  .exact(hs.2 b<|aa0<|Rw (aay e)<|I.ok.cab x c hfn g).trans (I.base.keep b o e n C l)
  .obtain⟨sl,e1⟩:=I.base.slot b o e n C l
   exact⟨sl,(hs.2 b<|aa0<|Rw (aay e)<|I.ok.cab x c hfn g).trans e1⟩
  .obtain⟨o',e1⟩:=I.base.there b o e l
   exact⟨o',(hs.2 b<|aa0<|Rw (aay e)<|I.ok.cab x c hfn g).trans e1⟩
  .by_cases hj:j=i
   .subst hj;rw[D]at e1;cases e1;rw[acr B]at t;cases t;exact⟨u,r,.inr ⟨.inl hk,c,g,K⟩⟩
   .rw[abC<|aci hj]at t;obtain⟨u',r',q⟩:=hl j y V e1 t S
    refine⟨u',r',?_⟩;rcases q with q|⟨k,O,e,z'⟩
    .exact .inl q
    .refine .inr ⟨k,O,e,z'.sameBut hs ?_⟩;rintro rfl;exact hj<|yX W e1<|I.ok.inj _ _ _ e g▸D
  .by_cases hcc:O=c
   .subst hcc;exact⟨_,K⟩
   .obtain⟨w2,z2⟩:=I.cell y O e
    exact⟨w2,z2.sameBut hs hcc⟩
  .obtain⟨e,n,ne,nf,d⟩:=I.pin p R
   refine⟨(hs.2 p.1 ?_).trans e,n,ne,nf,d⟩
   grind
theorem tZ(I:Inv X aa Z H s)(a:X.N.Nodup)(c:X.N[i]?=J x)(e:Loc X.env.scope x)(r:aP v u)
  (h:∀s',Inv X aa (Z.set i<|J v) H s'->Q () s') (b:autoParam (X.fn x=G\/X.env.scope.names.lookup x=J .local) Xbx):aaN M A (storeName X.env x u) Q E s:=
 DL I a c e r (fun s' d _=>h s' d) b
theorem Inv.call'(I:Inv X aa Z H s)(f:s'.os=s.os)(u:Un (Ec X.stack) ch H H' s.heap s'.heap)(d:nW X.prog X.w H' s'.heap)(g:AllBare s'.gens)
  (a:∀b∈ch,(b∈X.ex\/X.s₀.heap.objs.size<=b)/\b≠X.env.locals/\(∀x c,X.env.cells.lookup x=J c->c≠b)/\∀p∈X.pn++aa,p.1≠b) (h:autoParam (X.tn<=s'.toks) Xbz):Inv X aa Z H' s':=by
 obtain⟨h',g',d',t',o'⟩:=s';have e  := f;subst e;exact I.call u d g a
end
abbrev XK:=nE->Option aaB->Hp->Prop
abbrev St:=List<|Option V
abbrev VK:=V->Hp->Prop
abbrev TE:=St->Hp->VK->Prop
abbrev TT:=St->Hp->(Bool->Hp->Prop)->Prop
abbrev TA:=St->Hp->(afx->Hp->Prop)->Prop
structure Ends where
 nx:St->Hp->Prop
 rt:VK
 bk:St->Hp->Prop:=fun _ _=>False
 ct:St->Hp->Prop:=fun _ _=>False
abbrev TS:=Ends->St->Hp->Prop
def EP(X:Cx)(aa:afs)(Z:St)(Q:VK)(u:nE)(s':ID):Prop:=∃v H',Inv X aa Z H' s'/\aP v u/\Q v H'
def TP(X:Cx)(aa:afs)(Z:St)(Q:Bool->Hp->Prop)(b:Bool)(s':ID):Prop:=∃H',Inv X aa Z H' s'/\Q b H'
def AP(X:Cx)(aa:afs)(Z:St)(Q:afx->Hp->Prop)(us:afw)(s':ID):Prop:=∃vs H',Inv X aa Z H' s'/\aU vs us/\Q vs H'
def SP(X:Cx)(aa:afs)(D:Ends)(f:Flow)(s':ID):Prop:=
 match f with
 |.next=>∃a H',Inv X aa a H' s'/\D.nx a H'
 |.brk=>∃a H',Inv X aa a H' s'/\D.bk a H'
 |.cont=>∃a H',Inv X aa a H' s'/\D.ct a H'
 |.ret u=>∃v a H',Inv X aa a H' s'/\aP v u/\D.rt v H'
def PE(X:Cx)(e:aa1)(t:TE):Prop:=
 ∀(aa:afs)(s:ID)(Z:St)(H:Hp)(Q:VK),Inv X aa Z H s->t Z H Q->aaN (aaO X.prog X.w) X.A (eval e X.env) (EP X aa Z Q) X.xe s
def PT(X:Cx)(e:aa1)(t:TT):Prop:=
 ∀(aa:afs)(s:ID)(Z:St)(H:Hp)(Q:Bool->Hp->Prop),Inv X aa Z H s->t Z H Q->aaN (aaO X.prog X.w) X.A (isTrue e X.env<|eval e X.env) (TP X aa Z Q) X.xe s
def PW(X:Cx)(e:aa1)(t:TT):Prop:=
 ∀(a:Sem nE)(aa:afs)(s:ID)(Z:St)(H:Hp)(Q:Bool->Hp->Prop),Inv X aa Z H s->t Z H Q->aaN (aaO X.prog X.w) X.A (isTrue e X.env a) (TP X aa Z Q) X.xe s
theorem PW.pt(h:PW X e t):PT X e t:=h _
def PA(X:Cx)(es:List aa1)(t:TA):Prop:=
 ∀(pos:Pos)(aa:afs)(s:ID)(Z:St)(H:Hp)(Q:afx->Hp->Prop),Inv X aa Z H s->t Z H Q->aaN (aaO X.prog X.w) X.A (spliced<|adz pos<|abb es X.env) (AP X aa Z Q) X.xe s
def PS(X:Cx)(st:abN)(t:TS):Prop:=
 ∀(aa:afs)(s:ID)(Z:St)(H:Hp)(D:Ends),Inv X aa Z H s->t D Z H->aaN (aaO X.prog X.w) X.A (exec st X.env) (SP X aa D) X.xe s
def IR(X:Cx)(st:List abN)(t:TS):Prop:=
 ∀(aa:afs)(s:ID)(Z:St)(H:Hp)(D:Ends),Inv X aa Z H s->t D Z H->aaN (aaO X.prog X.w) X.A (execs st X.env) (SP X aa D) X.xe s
theorem bP{t:Sem α}{Q b:α->ID->Prop}(h:aaN M A t Q E s)(c:∀a s,Q a s->b a s):aaN M A t b E s:=aaP h c fun _ _ x=>x
section
variable{X:Cx}
def Xv(i:Nat):TE:=fun Z H Q=>∃v,Z[i]?=J (J v)/\Q v H
def tC(v:V):TE:=fun _ H Q=>Q v H
theorem O9{pos:Pos}(j:X.N[i]?=J x)(o:m6 X.env.scope x)(hd:autoParam (afz x) Xax)(d:autoParam ((x==("__classdict__":Str))=η) Xax):PE X (.Name x pos)<|Xv i:=by
 intro aa s Z H Q I h;obtain⟨v,e,h⟩:=h
 obtain⟨m,k,n⟩:=I.loc;obtain⟨u,r,l⟩:=n i x v j e o
 have fin:EP X aa Z Q u s:=⟨v,H,I,r,h⟩;rcases l with⟨b,g⟩|⟨b,c,f,a⟩
 .exact wpAny_Name (wpAny_loadName_local I.ok.kind b k g fin) hd
 .rcases b with b|b
  .exact wpAny_Name (wpAny_loadName_cell I.ok.kind b f a fin) hd
  .exact wpAny_Name (wpAny_loadName_free I.ok.kind b f a fin d) hd
theorem AE:PE X (.Constant (.int i) j pos)<|tC<|.int i:=fun _ _ _ H _ I h=>wpAny_Constant_int ⟨.int i,H,I.tok _,⟨_,rfl⟩,h⟩
theorem Jg:PE X (.Constant (.str x) j pos)<|tC<|.str x:=fun _ _ _ H _ I h=>acu ⟨.str x,H,I.tok _,⟨_,rfl⟩,h⟩
def Gl(X:Cx)(x:Str):Prop:=X.env.kindOf x=J .globalImplicit
theorem dD{Z:St}(I:Inv X aa Z H s)(b:Gl X x)(a:X.mg x=J u)(h:Q u s)
  (hd:autoParam (afz x) Xax):aaN (aaO X.prog X.w) X.A (eval (.Name x pos) X.env) Q E s:=
 adD I.ok.kind b (Calls.loadGlobal_global (by rw[I.ok.glob];exact I.mod.glob.keeps I.bk) a h) hd
theorem tw{E:aft}{Z:St}{pos:Pos}(I:Inv X aa Z H s)(b:Gl X x)(a:X.mg x=U)(c:aaT x=J u)(h:Q u s)
  (d:autoParam (x≠"__name__") Xax) (hd:autoParam (afz x) Xax):aaN (aaO X.prog X.w) X.A (eval (.Name x pos) X.env) Q E s:=by
 obtain⟨mb,h1,h2⟩:=I.mod.blt
 exact adD I.ok.kind b (Calls.loadGlobal_builtin (by rw[I.ok.glob];exact I.mod.glob.keeps I.bk) a (by rw[I.ok.blt];exact h1.keeps I.bk) ((h2 x d).trans c) h) hd
theorem JN(b:Gl X x)(a:X.mg x=J u)(r:aP v u)(hd:autoParam (afz x) Xax):PE X (.Name x pos)<|tC v:=
 fun _ _ _ H _ I h=>dD I b a ⟨v,H,I,r,h⟩ hd
theorem Ks{pos:Pos}(b:Gl X x)(a:X.mg x=U)(c:aaT x=J u)(r:aP v u)(d:autoParam (x≠"__name__") Xax)(hd:autoParam (afz x) Xax):PE X (.Name x pos)<|tC v:=
 fun _ _ _ H _ I h=>tw I b a c ⟨v,H,I,r,h⟩ d hd
def tB(t:TE):TT:=fun Z H Q=>t Z H fun x H1=>∃c,x=.bl c/\Q c H1
variable{rest:List aa1}
def Xl(t u:TT):TT:=fun Z H Q=>t Z H fun c H1=>if c=G then u Z H1 Q else Q η H1
def tOr(t u:TT):TT:=fun Z H Q=>t Z H fun c H1=>if c=G then Q G H1 else u Z H1 Q
def WY(t:TT):TT:=fun Z H Q=>t Z H fun c H1=>Q (!c) H1
theorem O4(h:PE X a t):PE X (.BoolOp op [a] pos) t:=fun aa s Z H Q I hw=>BoolOp_one<|h aa s Z H Q I hw
def tIf(t:TT)(ta tb:TE):TE:=fun Z H Q=>t Z H fun c H1=>if c=G then ta Z H1 Q else tb Z H1 Q
end
def gr(K:aT)(H:Hp)(a:aaB)(xs:afx):Prop:=
 Rd H a (.lst xs) \/
  ∃(o:Obj)(aV:Array nE)(n:Nat),K.lookup a=J o/\o.cls=.type "list"/\o.dict=U/\o.data=.seq aV n/\aV.size<=aaL/\aU xs aV.toList
def m7(K:aT)(H:Hp)(a:aaB)(xs:afx):Prop:=
 Rd H a (.tup xs) \/
  ∃(o:Obj)(aV:Array nE)(n:Nat),K.lookup a=J o/\o.cls=.type "tuple"/\o.data=.seq aV n/\aV.size<=aaL/\aU xs aV.toList
noncomputable def WA:nE->Option V
 |.none=>J .non
 |.bool b=>J<|.bl b
 |.int i _=>J<|.int i
 |.str x _=>J<|.str x
 |.bytes b _=>J<|.byt b
 |.float b _=>J<|.flt b
 |.ref a=>J<|.ref a
 |.type n=>J<|.ty n
 |_=>U
theorem aP.abs(r:aP x u):WA u=J x:=by
 cases x with
 |non=>subst r;rfl
 |bl _=>subst r;rfl
 |int _=>obtain⟨t,rfl⟩:=r;rfl
 |str _=>obtain⟨t,rfl⟩:=r;rfl
 |byt _=>obtain⟨t,rfl⟩:=r;rfl
 |flt _=>obtain⟨t,rfl⟩:=r;rfl
 |ref _=>subst r;rfl
 |ty _=>subst r;rfl
theorem aP.inj(r:aP x u)(q:aP y u):x=y:=acw<|r.abs.symm.trans q.abs
theorem aU.inj:∀{xs ys:afx}{us:afw},aU xs us->aU ys us->xs=ys
 |_,_,_,.nil,.nil=>rfl
 |_,_,_,.cons r t,.cons r' t'=>by rw[r.inj r',aU.inj t t']
section
variable{Z:St}
theorem gr.of{K:aT}(h:H a=J (.lst xs)):gr K H a xs:=.inl<|.inl h
theorem Inv.list(I:Inv X aa Z H s)(h:gr X.K H a xs):∃aV:afw,aU xs aV/\PlainL s.heap a aV.toArray/\xs.length<=aaL:=by
 rcases h with h|⟨o,aV,n,hk,hc,hd,hs,hz,r⟩
 .obtain⟨z,aV,n,r,e⟩:=h.ok I.hok;exact⟨aV,r,⟨_,n,e,rfl,rfl,rfl⟩,z⟩
 .refine⟨aV.toList,r,⟨o,n,I.kIn a o hk,hc,hd,⊤⟩,?_⟩;have e:=r.length;mright
theorem Inv.tuple(I:Inv X aa Z H s)(h:m7 X.K H a xs):∃aV:afw,aU xs aV/\IsTup s.heap a aV.toArray/\xs.length<=aaL:=by
 rcases h with h|⟨o,aV,n,hk,hc,hs,hz,r⟩
 .obtain⟨z,aV,r,p⟩:=h.ok I.hok
  exact⟨aV,r,p,z⟩
 .refine⟨aV.toList,r,⟨o,I.kIn a o hk,hc,n,⊤⟩,?_⟩;have e:=r.length;mright
theorem Inv.list_inj(I:Inv X aa Z H s)(h:gr X.K H a xs)(h':gr X.K H a ys):xs=ys:=by
 obtain⟨aV,r,⟨o,n,e,_,_,d⟩,_⟩:=I.list h;obtain⟨its',b,⟨o',c,f,_,_,d'⟩,_⟩:=I.list h'
 have:aV=its':=by mright
 subst this;exact r.inj b
theorem Inv.tuple_inj(I:Inv X aa Z H s)(h:m7 X.K H a xs)(h':m7 X.K H a ys):xs=ys:=by
 obtain⟨aV,r,⟨o,e,_,n,d⟩,_⟩:=I.tuple h;obtain⟨its',b,⟨o',f,_,c,d'⟩,_⟩:=I.tuple h'
 have:aV=its':=by mright
 subst this;exact r.inj b
end
noncomputable abbrev Cx.wish(X:Cx)(E:aft):Cx:={X with xe:=E}
noncomputable abbrev Cx.nox(X:Cx):Cx:=X.wish fun _ _=>False
theorem Cx.Ok.wish{X:Cx}(ok:X.Ok)(E:aft):(X.wish E).Ok:=
 ⟨ok.mod,ok.kind,ok.glob,ok.blt,ok.above,ok.inj,ok.has,ok.cab,ok.hd,ok.frames,ok.stk,ok.exf,ok.bs,ok.bsz,ok.noex,ok.exfs,ok.funs,ok.frf⟩
theorem Cx.Ok.unwish{X:Cx}(ok:(X.wish E).Ok):X.Ok:=
 ⟨ok.mod,ok.kind,ok.glob,ok.blt,ok.above,ok.inj,ok.has,ok.cab,ok.hd,ok.frames,ok.stk,ok.exf,ok.bs,ok.bsz,ok.noex,ok.exfs,ok.funs,ok.frf⟩
section
variable{Z:St}
theorem Inv.wish(I:Inv X aa Z H s)(E:aft):Inv (X.wish E) aa Z H s:=⟨I.ok.wish E,I.os,I.bare,I.base,I.loc,I.cell,I.free,I.freeC,I.pin,I.hok,I.len,I.tk⟩
theorem Inv.unwish(I:Inv (X.wish E) aa Z H s):Inv X aa Z H s:=⟨I.ok.unwish,I.os,I.bare,I.base,I.loc,I.cell,I.free,I.freeC,I.pin,I.hok,I.len,I.tk⟩
theorem SP.unwish(h:SP (X.wish E) aa D f s'):SP X aa D f s':=by
 cases f with
 |next=>obtain⟨a,H',I,q⟩:=h;exact⟨a,H',I.unwish,q⟩
 |brk=>obtain⟨a,H',I,q⟩:=h;exact⟨a,H',I.unwish,q⟩
 |cont=>obtain⟨a,H',I,q⟩:=h;exact⟨a,H',I.unwish,q⟩
 |ret u=>obtain⟨v,a,H',I,r,q⟩:=h;exact⟨v,a,H',I.unwish,r,q⟩
theorem IR.nox{st:List abN}(h:IR X.nox st t):IR X st t:=fun aa s Z H D I hw=>
 aaP (h aa s Z H D (I.wish _) hw) (fun _ _ q=>q.unwish) fun _ _ z=>abD z
end
section
variable{st:abN}{rest:List abN}
def NV:TS:=fun D Z H=>D.nx Z H
def Xd(t u:TS):TS:=fun D Z H=>t {D with nx:=u D} Z H
theorem Inv.quiet{aa:afs}{Z:St}{H:Hp}{s:ID}(I:Inv X aa Z H s):interactive X.env=η:=by simp[interactive,I.ok.kind]
def GP(a:TE):TS:=fun D Z H=>a Z H fun _ H1=>D.nx Z H1
theorem L9(a:PE X e te)(hs:autoParam (abm e U pos.line X.env=pure η) Xaz):PS X (.Expr e pos)<|GP te:=by
 intro aa s Z H D I h;exact wpAny_Expr_any (bP (a aa s Z H _ I h) fun v d c=>jZ c fun x H1 b r1 q1=>⟨Z,H1,b,q1⟩) I.quiet hs
def XC(a:TE):TS:=fun D Z H=>a Z H D.rt
def Ul:TS:=fun D _ H=>D.rt .non H
def Yp(c:TT)(t u:TS):TS:=fun D Z H=>c Z H fun b H1=>if b=G then t D Z H1 else u D Z H1
end
abbrev TG:=V->St->Hp->(St->Hp->Prop)->Prop
abbrev Mg:=afx->St->Hp->(St->Hp->Prop)->Prop
def PG(X:Cx)(a:aa1)(t:TG):Prop:=
 ∀(aa:afs)(s:ID)(Z:St)(H:Hp)(v:V)(u:nE)(Q:St->Hp->Prop),Inv X aa Z H s->aP v u->t v Z H Q ->
  aaN (aaO X.prog X.w) X.A (assign a X.env u) (fun _ s'=>∃b H',Inv X aa b H' s'/\Q b H') X.xe s
def VP(X:Cx)(b:List aa1)(t:Mg):Prop:=
 ∀(aa:afs)(s:ID)(Z:St)(H:Hp)(vs:afx)(us:afw)(Q:St->Hp->Prop),Inv X aa Z H s->aU vs us->t vs Z H Q ->
  aaN (aaO X.prog X.w) X.A (assignInOrder ((abE b X.env).map (·.2)) us) (fun _ s'=>∃a H',Inv X aa a H' s'/\Q a H') X.xe s
abbrev aad:=V->V->Hp->VK->Prop
def PIp(X:Cx)(a:Operator)(t:aad):Prop:=
 ∀(aa:afs)(s:ID)(Z:St)(H:Hp)(x y:V)(v u:nE)(Q:VK),Inv X aa Z H s->aP x v->aP y u->t x y H Q ->
  aaN (aaO X.prog X.w) X.A (inplaceOp a v u) (EP X aa Z Q) X.xe s
section
variable{pos:Pos}
def ml(i:Nat):TG:=fun v Z H Q=>Q (Z.set i<|J v) H
theorem B4(a:X.N.Nodup)(e:X.N[i]?=J x)(c:Loc X.env.scope x)(b:autoParam (X.fn x=G\/X.env.scope.names.lookup x=J .local) Xbx):PG X (.Name x pos)<|ml i:=by
 intro aa s Z H v u Q I r h;exact wpAny_assign_Name<|tZ I a e c r (fun s' d=>⟨_,H,d,h⟩) b
def WE:Mg:=fun vs Z H Q=>vs=[]/\Q Z H
def My(t:TG)(u:Mg):Mg:=fun vs Z H Q=>∃v r,vs=v::r/\t v Z H fun a H'=>u r a H' Q
theorem E7(h1:PG X e t)(h2:VP X es u)
  (hs:autoParam ((abE (e::es) X.env).map (·.2)=assign e X.env::(abE es X.env).map (·.2)) Xaz):VP X (e::es)<|My t u:=by
 intro aa s Z H vs us Q I r h;obtain⟨v,b,e1,h⟩:=h;subst e1;cases r with
 |cons r a=>
  rw[hs];refine assignInOrder_cons<|bP (h1 aa s Z H _ _ _ I r h) ?_;rintro _ s1⟨σ1,H1,I1,q1⟩;exact h2 aa s1 σ1 H1 _ _ Q I1 a q1
def SF(K:aT)(n:Nat)(t:Mg):TG:=fun v Z H Q=>∃a xs,v=.ref a/\m7 K H a xs/\xs.length=n/\t xs Z H Q
theorem PM{k:Nat}(g:X.calm=G)(h:VP X es t)
  (i:autoParam ((abE es X.env).length=n) Xaz) (c:autoParam ((abE es X.env).findIdx? (·.1)=U) Xaz):PG X (.Tuple es k pos)<|SF X.K n t:=by
 intro aa s Z H v u Q I r hw;obtain⟨a,xs,e1,d,j,hw⟩:=hw;subst e1;subst r;obtain⟨aV,rv,ht,hz⟩:=I.tuple d
 refine assign_Tuple_tuple (I.ok.hd g) ht (by simp[i,<-j,rv.length]) c fun h' f=>?_;have I1  := I.kept fun b o e=>f b o (aa0<|aay e) e;exact h aa _ Z H xs _ Q I1 (by omega) hw
def AL(a:TE)(g:TG):TS:=fun D Z H=>a Z H fun x H1=>g x Z H1 D.nx
theorem Rc(d:X.N.Nodup)(b:X.N[i]?=J x)(g:Loc X.env.scope x)(j:PE X e te)(hs:autoParam (abm e (J<|.Name x pos') pos.line X.env=pure η) Xaz)(k:autoParam (X.fn x=G\/X.env.scope.names.lookup x=J .local) Xbx):
  PS X (.Assign [.Name x pos'] e pos) (AL te<|ml i):=by
 intro aa s Z H D I h;refine wpAny_Assign_Name (bP (j aa s Z H _ I h) fun v l c=>jZ c fun y H1 a r1 q1=>?_) hs;exact tZ a d b g r1 (fun m f=>⟨_,H1,f,q1⟩) k
def Xs(i:Nat)(c:TE)(a:aad):TS:=fun D Z H=>∃x,Z[i]?=J (J x)/\c Z H fun y H1=>a x y H1 fun z b=>D.nx (Z.set i<|J z) b
theorem Og(B:X.N.Nodup)(o:X.N[i]?=J x)(n:Loc X.env.scope x)(O:PE X e te)(Q:PIp X op ti)(P:autoParam (X.fn x=G\/X.env.scope.names.lookup x=J .local) Xbx):
  PS X (.AugAssign (.Name x pos') op e pos) (Xs i te ti):=by
 intro aa s Z H D I h;obtain⟨v,e1,h⟩:=h
 obtain⟨m,hn,hl⟩:=I.loc
 have j:m6 X.env.scope x:=by rcases n with k|k;exact .inl k;exact .inr (.inl k)
 obtain⟨u,r,l⟩:=hl i x v o e1 j
 refine wpAny_AugAssign_Name ?_;have p:aaN (aaO X.prog X.w) X.A (eval e X.env) (fun w f=>aaN (aaO X.prog X.w) X.A (inplaceOp op u w) (fun r d=>aaN (aaO X.prog X.w) X.A (storeName X.env x r) (fun _=>SP X aa D .next) X.xe d) X.xe f) X.xe s:=by
  refine bP (O aa s Z H _ I h) fun w C g=>jZ g fun y H1 t r1 q1=>?_;refine bP (Q aa C Z H1 v y u w _ t r r1 q1) fun z T g=>jZ g fun S F E r2 q2=>?_;exact tZ E B o n r2 (fun R K=>⟨_,F,K,q2⟩) P
 rcases l with⟨a,q⟩|⟨a,c,M,b⟩
 .exact wpAny_loadName_local I.ok.kind a hn q p
 .rcases a with a|a
  .exact wpAny_loadName_cell I.ok.kind a M b p
  .rcases n with k|k
   .have:X.env.scope.names.lookup x=J .free:=a
    rw[k]at this;cases this
   .have:X.env.scope.names.lookup x=J .free:=a
    rw[k]at this;cases this
end
section
def Rk(c:TT)(tb:TS):TS:=fun D Z H=>∃W:Nat->St->Hp->Prop,(∃m,W m Z H)/\∀m Z H,W m Z H ->
 c Z H fun b H1=>if b=G then ∃N:St->Hp->Prop,(∀a H',N a H'->∃d,d<m/\W d a H')/\tb {D with nx:=N,ct:=N,bk:=D.nx} Z H1 else D.nx Z H1
end
structure It where
 go:Nat->Hp->Prop
 yld:Nat->Hp->V->Hp->Prop
 stop:Nat->Hp->Prop
def gE(X:Cx)(aa:afs)(H:Hp)(b:aaB):Prop:=
 H b=U/\b≠X.env.locals/\b∉X.fs/\(b∈X.ex\/X.s₀.heap.objs.size<=b)/\(∀x c,X.env.cells.lookup x=J c->c≠b)/\∀p∈X.pn++aa,p.1≠b
theorem Inv.fpOk{Z:St}{b:aaB}(I:Inv X aa Z H s)(a:s.heap.objs.size<=b)(d:H' b=U):gE X aa H' b:=by
 refine⟨d,adH<|Rw I.lt a,I.nofs a,.inr<|RW I.sz a,fun x c e z=>?_,fun p f z=>?_⟩
 .obtain⟨v,q⟩:=I.cell x c e
  exact absurd (Rw q.lt<|by rw[z];exact a)<|acE _
 .exact absurd (Rw (aay (I.pin p f).1)<|by rw[z];exact a) (acE _)
structure Turn(P:abf)(w:abh)(K:aT)(tg:aa1)(Jq0:It)(fp:afv)(it:aaB)(tn:Nat->acn->Prop):Prop where
 mem:it∈fp
 obj:∀i h,tn i h->∀b∈fp,∃o,h.get? b=J o/\∀v,o.data≠.cell v
 keep:∀i h h',tn i h->(∀b∈fp,∀o,h.get? b=J o->h'.get? b=J o)->tn i h'
 item:∀(X:Cx),X.prog=P->X.w=w->X.K=K->X.calm=G->∀(i:Nat)(aa:afs)(s:ID)(Z:St)(H:Hp)(E:aft),Inv X aa Z H s->(∀b∈fp,gE X aa H b)->tn i s.heap->Jq0.go i H ->
  aaN (aaO P w) X.A (pyNext<|.ref it) (fun r s1=>∃u,r=J u /\
   aaN (aaO P w) X.A (aei tg (.ref it) u) (fun _ s2=>∃x H',Inv X aa Z H' s2/\aP x u/\Jq0.yld i H x H'/\tn (i+1) s2.heap/\∀b∈fp,H' b=U) E s1) E s
 done:∀(X:Cx),X.prog=P->X.w=w->X.K=K->X.calm=G->∀(i:Nat)(aa:afs)(s:ID)(Z:St)(H:Hp)(E:aft),Inv X aa Z H s->(∀b∈fp,gE X aa H b)->tn i s.heap->Jq0.stop i H ->
  aaN (aaO P w) X.A (pyNext<|.ref it) (fun r s1=>r=U/\Inv X aa Z H s1) E s
 self:∀(A:abF)(i:Nat)(s:ID)(Q:aft)(E:aft),tn i s.heap->Q (.ref it) s->aaN (aaO P w) A (pyIter<|.ref it) Q E s
abbrev TI:=St->Hp->(It->Hp->Prop)->Prop
def Z4(X:Cx)(aa:afs)(Z:St)(tg:aa1)(R:It->Hp->Prop)(c:nE)(d:ID):Prop:=
 ∃(it:aaB)(e:afv)(tn:Nat->acn->Prop)(a:It)(H':Hp),c=.ref it/\Inv X aa Z H' d/\Turn X.prog X.w X.K tg a e it tn/\tn 0 d.heap/\(∀b∈e,gE X aa H' b)/\R a H'
def PI(X:Cx)(tg iter:aa1)(b:TI):Prop:=
 ∀(aa:afs)(s:ID)(Z:St)(H:Hp)(R:It->Hp->Prop),Inv X aa Z H s->b Z H R ->
  aaN (aaO X.prog X.w) X.A (eval iter X.env) (fun v a=>aaN (aaO X.prog X.w) X.A (pyIter v) (Z4 X aa Z tg R) X.xe a) X.xe s
theorem BJ(b:s.heap.get? it=J o)(c:o.cls=.type n)(hd:o.data=.fields vs)
    (d:["enumerate","zip","dict_itemiterator","dict_reverseitemiterator","odict_iterator","itertools.zip_longest","itertools.pairwise"].contains n=η) (a:Q () s):aaN M A (aei tg (.ref it) u) Q E s:=by
  cases tg<;>first
    |exact aaG a
    |(cases u<;>first
        |exact aaG a
        | (refine iF (wpAny_load b ?_)
           rw[c,hd];show aaN M A (if(["enumerate","zip","dict_itemiterator","dict_reverseitemiterator","odict_iterator","itertools.zip_longest","itertools.pairwise"].contains n&&vs[0]?==J (adN _))=G then _ else _) Q E s;rw[afl ⊥];exact aaG a))
def XI(K:aT)(a:aaB):It:=
 ⟨fun i H=>∃xs x,gr K H a xs/\xs[i]?=J x,fun i H x H'=>H'=H/\∀xs,gr K H a xs->xs[i]?=J x,fun i H=>∃xs,gr K H a xs/\xs.length<=i⟩
def WQ(K:aT)(a:aaB):It:=
 ⟨fun i H=>∃xs x,m7 K H a xs/\xs[i]?=J x,fun i H x H'=>H'=H/\∀xs,m7 K H a xs->xs[i]?=J x,fun i H=>∃xs,m7 K H a xs/\xs.length<=i⟩
def V5(lo:Int)(n:Nat):It:=⟨fun i _=>i<n,fun i H x H'=>H'=H/\x=.int (lo+i),fun i _=>n<=i⟩
theorem D0{K:aT}(a it:aaB):Turn P w K tg (XI K a) [it] it (fun i h=>h.IsListIter it a i) where
 mem:=∅
 obj:=fun i h st b f=>by
  obtain⟨o,e,c,d⟩:=st
  mright
 keep:=fun i h h' st k=>st.at fun o e=>k it ∅ o e
 item:=by
  intro X m hw n q i aa s Z H E I j st l;subst m hw n;left;obtain⟨xs,x,hq,hx⟩:=l
  obtain⟨aV,rv,p,hz⟩:=I.list hq
  obtain⟨u,hu,ru⟩:=rv.get hx
  refine Z06 (j it ∅) fun f0 f1 f2 f3 f4 f5=>?_
  right;refine wpAny_pyNext_list_item st p.isList (by simpa using hu) fun h' g t=>?_;have I1  := I.turned (fun b o f e=>(t.2 b f).trans e) f0 f1 f3 f4 f5;let⟨o,e,c,d⟩:=id g
  exact⟨u,rfl,BJ e c d (by rfl) ⟨x,H,I1,ru,⟨rfl,fun ys r=>by rw[I.list_inj r hq];exact hx⟩,g,fun b f=>(j b f).1⟩⟩
 done:=by
  intro X m hw n q i aa s Z H E I j st l;subst m hw n;obtain⟨xs,hq,hx⟩:=l
  obtain⟨aV,rv,p,hz⟩:=I.list hq
  refine Z06 (j it ∅) fun f0 f1 f2 f3 f4 f5=>?_
  have y:=rv.length;exact wpAny_pyNext_list_end (I.ok.hd q) st p.isList (by simp;mright) fun h' v=>⟨rfl,I.turned (fun b o f e=>v b o f e) f0 f1 f3 f4 f5⟩
 self:=fun _ _ _ _ _ st h=>wpAny_pyIter_listiter st h
theorem AI{K:aT}(a it:aaB):Turn P w K tg (WQ K a) [it] it (fun i h=>h.IsTupleIter it a i) where
 mem:=∅
 obj:=fun i h st b f=>by
  have e:b=it:=by simpa using f
  subst e;obtain⟨o,e,c,d⟩:=st
  mright
 keep:=fun i h h' st k=>st.at fun o e=>k it ∅ o e
 item:=by
  intro X m hw n q i aa s Z H E I j st l;subst m hw n;left;obtain⟨xs,x,hq,hx⟩:=l
  obtain⟨aV,rv,p,hz⟩:=I.tuple hq
  obtain⟨u,hu,ru⟩:=rv.get hx
  refine Z06 (j it ∅) fun f0 f1 f2 f3 f4 f5=>?_
  right;refine wpAny_pyNext_tuple_item st ((p)) (by simpa using hu) fun h' g t=>?_;have I1  := I.turned (fun b o f e=>(t.2 b f).trans e) f0 f1 f3 f4 f5;let⟨o,e,c,d⟩:=id g
  exact⟨u,rfl,BJ e c d (by rfl) ⟨x,H,I1,ru,⟨rfl,fun ys r=>by rw[I.tuple_inj r hq];exact hx⟩,g,fun b f=>(j b f).1⟩⟩
 done:=by
  intro X m hw n q i aa s Z H E I j st l;subst m hw n;obtain⟨xs,hq,hx⟩:=l
  obtain⟨aV,rv,p,hz⟩:=I.tuple hq
  refine Z06 (j it ∅) fun f0 f1 f2 f3 f4 f5=>?_
  have y:=rv.length;exact wpAny_pyNext_tuple_end (I.ok.hd q) st ((p)) (by simp;mright) fun h' v=>⟨rfl,I.turned (fun b o f e=>v b o f e) f0 f1 f3 f4 f5⟩
 self:=fun _ _ _ _ _ st h=>wpAny_pyIter_tupleiter st h
theorem Az{K:aT}(it:aaB)(lo:Int)(n:Nat):Turn P w K tg (V5 lo n) [it] it (fun i h=>IsRangeIter h it (lo+(i:Nat)*1) ((n:Int)-(i:Nat)) 1) where
 mem:=∅
 obj:=fun i h st b a=>by
  mright
 keep:=fun i h h' st k=>k it ∅ _ st
 item:=by
  intro X j hw l g i aa s Z H E I d st f;subst j hw l;refine Z06 (d it ∅) fun f0 f1 f2 f3 f4 f5=>?_
  have W:=Walks.range (prog:=X.prog) (w:=X.w) (I.ok.hd g) it lo 1 n;refine aO I.tk<|W.item i s _ _ f st fun v h' tk r c q p=>?_;obtain⟨t,rfl⟩:=r;have I1  := I.turned (fun b o a e=>q b o (by simpa using a) e) f0 f1 f3 f4 f5;refine⟨_,rfl,BJ c rfl rfl (by rfl) ⟨.int<|lo+i,H,I1,⟨t,?_⟩,⟨rfl,rfl⟩,c,fun b a=>(d b a).1⟩⟩;rw[Int.mul_one]
 done:=by
  intro X j hw l g i aa s Z H E I d st f;obtain⟨f0,f1,f2,f3,f4,f5⟩:=d it ∅
  exact wpAny_pyNext_range_end (I.ok.hd g) st (by have:n<=i:=f;lia) fun h' m=>⟨rfl,I.turned (fun b o a e=>m b o a e) f0 f1 f3 f4 f5⟩
 self:=fun _ _ _ _ _ st h=>wpAny_pyIter_rangeiter st h
section
variable{tg:aa1}
theorem G8{Z:St}{lo a:Int}(I:Inv X aa Z H s)(h1:-(2^62)<=lo)(h2:lo<2^62)(g:-(2^62)<=a)(f:a<2^62)
  (q:R (V5 lo (a-lo).toNat) H) (i:autoParam (X.tn<=tk) Xbz):aaN (aaO X.prog X.w) X.A (pyIter<|.ref s.heap.objs.size) (Z4 X aa Z tg R) E {s with heap:=s.heap.push {cls:=.type "range",data:=.fields #[.int lo t,.int a u,.int 1 v]},toks:=tk}:=by
 refine wpAny_pyIter_range (IsRange.new ..) (small_one h1 h2 g f) ?_;have c:Inv X aa Z H {s with heap:=s.heap.push {cls:=.type "range",data:=.fields #[.int lo t,.int a u,.int 1 v]},toks:=tk}:=I.kept fun b o e=>iN _ e;refine⟨(s.heap.push {cls:=.type "range",data:=.fields #[.int lo t,.int a u,.int 1 v]}).objs.size,[(s.heap.push {cls:=.type "range",data:=.fields #[.int lo t,.int a u,.int 1 v]}).objs.size],_,_,H,rfl,
  c.kept fun b o e=>iN _ e,Az _ lo (a-lo).toNat,?_,fun b h=>?_,q⟩
 .have e1:lo+((0:Nat))*1=lo:=∅
  have d:(((a-lo).toNat))-((0:Nat))=Builtin.Range.rangeSize lo a 1:=by rw[rangeSize_one];split<;>grind
  rw[e1,d];exact aaD _ rfl
 .have e:b=(s.heap.push {cls:=.type "range",data:=.fields #[.int lo t,.int a u,.int 1 v]}).objs.size:=by simpa using h
  subst e;exact c.fpOk (mK _)<|c.hok.fresh<|mK _
def Uz(e:TI)(g:TG)(tb:TS):TS:=fun D Z H=>e Z H fun a H1=>∃W:Nat->Nat->St->Hp->Prop,(∃m,W 0 m Z H1)/\∀i m Z H,W i m Z H ->
 (a.stop i H/\D.nx Z H)\/(a.go i H/\∃N:St->Hp->Prop,(∀b H',N b H'->∃d,d<m/\W (i+1) d b H')/\∀x H',a.yld i H x H'->g x Z H' fun c f=>tb {D with nx:=N,ct:=N,bk:=D.nx} c f)
def mL(a:afv)(h:acn):afs:=a.filterMap fun b=>(h.get? b).map fun o=>(b,o)
theorem ff(a:b∈fp)(e:h.get? b=J o):(b,o)∈mL fp h:=acv.mpr ⟨b,a,by rw[e];rfl⟩
theorem DR(a:p∈mL fp h):p.1∈fp/\h.get? p.1=J p.2:=by
 obtain⟨b,hb,e⟩:=acv.mp a
 cases q:h.get? b with
 |none=>mright
 |some o=>
  rw[q]at e;have e'  := acw e;subst e';exact⟨hb,q⟩
theorem Inv.pinned{Z:St}(I:Inv X aa Z H s)(c:∀b∈fp,gE X aa H b)(f:∀b∈fp,∃o,s.heap.get? b=J o/\∀v,o.data≠.cell v):Inv X (aa++mL fp s.heap) Z H s:=
 I.pins_of fun p g=>(BY.mp g).elim (fun z=>I.pin p<|OR _ z) fun z=>by
  obtain⟨a,e⟩:=DR z;refine Z04 (c p.1 a) fun f0 f1 f2 _=>?_
  obtain⟨o,e',d⟩:=f p.1 a
  mright
theorem Inv.unpinned{Z:St}(I:Inv X (aa++pl) Z H s):Inv X aa Z H s:=I.pins_of fun p a=>I.pin p<|OR _<|Le _ a
theorem OL(q:adA (aaO X.prog X.w) X.A X.env X.xe)(C:X.calm=G)(M:PI X tg iter wi)(K:PG X tg g)(l:IR X body tb)
  (hs:autoParam (∀x,abl iter X.env x=pure x) Xcx):PS X (.For tg iter body [] pos)<|Uz wi g tb:=by
 intro aa s Z H D I h;refine wpAny_For (bP (M aa s Z H _ I h) fun v s1 h1=>bP h1 fun itv s2 h2=>?_) hs;left;obtain⟨it,t,tn,F,R,e,Q,T,z,E,W,⟨S,O⟩,oO⟩:=h2;right;subst e
 have k:∀{H':Hp},(∀b∈t,H' b=U)->∀b∈t,gE X aa H' b:=fun hn b l=>⟨hn b l,(E b l).2⟩;refine codeAny_forLoop_any (fun n s'=>∃i c H',Inv X aa c H' s'/\tn i s'.heap/\(∀b∈t,H' b=U)/\W i n c H') ?_ S ⟨0,Z,R,Q,z,fun b l=>(E b l).1,O⟩;intro n s3 q_;refine Z34 q_ fun i σ3 H3 I3 st3 fr3 w3=>?_;left;rcases oO i n σ3 H3 w3 with⟨y,qn⟩|⟨V,N,P,step⟩
 .right;refine acg q (bP (T.done X rfl rfl rfl C i aa s3 σ3 H3 X.xe I3 (k fr3) st3 y) fun r s4⟨hr,I4⟩=>?_);subst hr;exact acD ⟨σ3,H3,I4,qn⟩
 .right;refine acg q (bP (T.item X rfl rfl rfl C i aa s3 σ3 H3 X.xe I3 (k fr3) st3 V) fun r s4⟨u,hr,h4⟩=>?_);subst hr;refine acg q<|bP h4 ?_;intro _ s5 q_;refine Z25 q_ fun x H5 I5 r5 y5 st5 fr5=>?_;have B:=I5.pinned (k fr5)<|T.obj _ _ st5;refine acg q<|bP (K _ s5 σ3 H5 x u _ B r5<|step x H5 y5) ?_;rintro _ s6⟨σ6,H6,I6,q6⟩;refine acg q<|bP (l _ s6 σ6 H6 _ I6 q6) fun f s7 p=>?_;have again:∀{a:St}{j:Hp},Inv X (aa++mL t s5.heap) a j s7->N a j->∃m,m<n/\∃i c H',Inv X aa c H' s7/\tn i s7.heap/\(∀b∈t,H' b=U)/\W i m c H':=fun{a j}I7 n7=>by
   obtain⟨m',hm,w7⟩:=P a j n7
   refine⟨m',hm,i+1,a,j,I7.unpinned,T.keep _ _ _ st5 fun b l o e=>(I7.pin (b,o)<|OR _<|OR _<|ff l e).1,fun b l=>?_,w7⟩;obtain⟨o,e,d⟩:=T.obj _ _ st5 b l
   exact(I7.pin (b,o)<|OR _<|OR _<|ff l e).2.1
  cases f with
  |next=>obtain⟨a,j,I7,n7⟩:=p;exact again I7 n7
  |cont=>obtain⟨a,j,I7,n7⟩:=p;exact again I7 n7
  |brk=>obtain⟨a,j,I7,p⟩:=p;exact⟨a,j,I7.unpinned,p⟩
  |ret v=>left;refine Z33 p fun x7 a j I7 r7 p=>?_;right;exact⟨x7,a,j,I7.unpinned,r7,p⟩
end
abbrev R2:=V->V->Hp->VK->Prop
def eJ(X:Cx)(f:nE->nE->Sem nE)(r:R2):Prop:=
 ∀(aa:afs)(s:ID)(Z:St)(H:Hp)(x y:V)(v u:nE)(Q:VK),Inv X aa Z H s->aP x v->aP y u->r x y H Q ->
  aaN (aaO X.prog X.w) X.A (f v u) (EP X aa Z Q) X.xe s
def KD(X:Cx)(f:nE->Sem nE)(r:V->Hp->VK->Prop):Prop:=
 ∀(aa:afs)(s:ID)(Z:St)(H:Hp)(x:V)(v:nE)(Q:VK),Inv X aa Z H s->aP x v->r x H Q ->
  aaN (aaO X.prog X.w) X.A (f v) (EP X aa Z Q) X.xe s
def bI(X:Cx)(f:nE)(r:afx->Hp->VK->Prop):Prop:=
 ∀(aa:afs)(s:ID)(Z:St)(H:Hp)(xs:afx)(us:afw)(Q:VK),Inv X aa Z H s->aU xs us->r xs H Q ->
  aaN (aaO X.prog X.w) X.A (call f us) (EP X aa Z Q) X.xe s
def X4(X:Cx)(r:V->Hp->(Bool->Hp->Prop)->Prop):Prop:=
 ∀(aa:afs)(s:ID)(Z:St)(H:Hp)(x:V)(v:nE)(Q:Bool->Hp->Prop),Inv X aa Z H s->aP x v->r x H Q ->
  aaN (aaO X.prog X.w) X.A (truthy v) (TP X aa Z Q) X.xe s
def NB(r:R2)(ta tb:TE):TE:=fun Z H Q=>ta Z H fun x H1=>tb Z H1 fun y a=>r x y a Q
def tUn(r:V->Hp->VK->Prop)(ta:TE):TE:=fun Z H Q=>ta Z H fun x H1=>r x H1 Q
def rI(C:Int->Int->Prop)(g:Int->Int->V):R2:=fun x y H Q=>∃i j,x=.int i/\y=.int j/\C i j/\Q (g i j) H
def Nm(g:Int->Int->V):R2:=fun x y H Q=>∃i j,x=.int i/\y=.int j/\Q (g i j) H
def rU(g:Int->V):V->Hp->VK->Prop:=fun x H Q=>∃i,x=.int i/\Q (g i) H
section
theorem Ou(n:PE X a ta)(o:PE X b tb){Z:St}{R:V->V->Hp->Prop}(I:Inv X aa Z H s)
  (h:ta Z H fun x H1=>tb Z H1 fun y c=>R x y c) {f:nE->nE->Sem nE}
  (m:∀v u g x y c,Inv X aa Z c g->aP x v->aP y u->R x y c->aaN (aaO X.prog X.w) X.A (f v u) Q X.xe g):
  aaN (aaO X.prog X.w) X.A (eval a X.env) (fun v d=>aaN (aaO X.prog X.w) X.A (eval b X.env) (fun u e=>aaN (aaO X.prog X.w) X.A (f v u) Q X.xe e) X.xe d) X.xe s:=by
 refine bP (n aa s Z H _ I h) fun v k i=>jZ i fun x H1 j r1 q1=>?_;refine bP (o aa k Z H1 _ j q1) fun u g i=>jZ i fun y c l r2 q2=>?_;exact m v u g x y c l r1 r2 q2
theorem UK(e:eJ X (aco op) r)(g:PE X a ta)(k:PE X b tb):PE X (.BinOp a op b pos)<|NB r ta tb:=by
 intro aa s Z H Q I h;exact wpAny_BinOp<|Ou g k I h fun v u i x y d c j f q=>e aa i Z d x y v u Q c j f q
theorem VE{g:Int->Int->Int}
  (rule:∀(i j:Int)(t u:Tok)(s:ID)(Q:aft)(E:aft),C i j->Q (.int (g i j) s.toks) {s with toks:=s.toks+1}->aaN (aaO X.prog X.w) X.A (f (.int i t)<|.int j u) Q E s):
  eJ X f (rI C fun i j=>.int<|g i j):=by
 intro aa s Z H x y v u Q I c b h;obtain⟨i,j,rfl,rfl,a,q⟩:=h;obtain⟨t,rfl⟩:=c;obtain⟨t',rfl⟩:=b;exact rule i j t t' s _ _ a ⟨.int<|g i j,H,I.tok _,⟨_,rfl⟩,q⟩
theorem Qx{g:Int->Int->Int}
  (rule:∀(i j:Int)(t u:Tok)(s:ID)(Q:aft)(E:aft),Q (.int (g i j) s.toks) {s with toks:=s.toks+1}->aaN (aaO X.prog X.w) X.A (f (.int i t)<|.int j u) Q E s):
  eJ X f (Nm fun i j=>.int<|g i j):=by
 intro aa s Z H x y v u Q I b a h;obtain⟨i,j,rfl,rfl,q⟩:=h;obtain⟨t,rfl⟩:=b;obtain⟨t',rfl⟩:=a;exact rule i j t t' s _ _ ⟨.int<|g i j,H,I.tok _,⟨_,rfl⟩,q⟩
theorem L6{g:Int->Int->Bool}
  (rule:∀(i j:Int)(t u:Tok)(s:ID)(Q:aft)(E:aft),Q (.bool<|g i j) s->aaN (aaO X.prog X.w) X.A (f (.int i t)<|.int j u) Q E s):
  eJ X f (Nm fun i j=>.bl<|g i j):=by
 intro aa s Z H x y v u Q I b a h;obtain⟨i,j,rfl,rfl,q⟩:=h;obtain⟨t,rfl⟩:=b;obtain⟨t',rfl⟩:=a;exact rule i j t t' s _ _ ⟨.bl<|g i j,H,I,rfl,q⟩
def ET(i j:Int):Prop:=0<j/\j<1073741824
def Iy(i j:Int):Prop:=0<=j/\j<=1000000/\i.natAbs<2^64
def y3(i j:Int):Prop:=(-(2^64)<i/\i<2^64)\/(-(2^64)<j/\j<2^64)
theorem y3.ok(h:y3 i j):IntMulOk i j:=by
 rcases h with⟨h1,h2⟩|⟨h1,h2⟩
 .exact .of_left (intBits_le_64 h1 h2)
 .exact .of_right (intBits_le_64 h1 h2)
theorem OX:eJ X (aco .Add)<|Nm fun i j=>.int<|i+j:=Qx fun _ _ _ _ _ _ _ q=>add_int q
theorem Ru:eJ X (aco .Sub)<|Nm fun i j=>.int<|i-j:=Qx fun _ _ _ _ _ _ _ q=>sub_int q
theorem Q0:eJ X (aco .Mult)<|rI y3 fun i j=>.int<|i*j:=VE fun _ _ _ _ _ _ _ a q=>mul_int q a.ok
theorem Mb:eJ X (aco .FloorDiv)<|rI ET fun i j=>.int<|i/j:=VE fun i j _ _ _ _ _ a q=>by
 have h1  := a.1;have h2  := a.2;exact floordiv_int ⊥ (by grind) (.inl<|PyProof.noPylong_small<|by grind)
theorem Ot:eJ X (aco .Mod)<|rI (fun _ j=>0<j) fun i j=>.int<|i%j:=VE fun i j _ _ _ _ _ a q=>by
 exact mod_int' ⊥ (by rw[Int.fmod_eq_emod_of_nonneg i<|⊥];exact q)
theorem Qw:eJ X (aco .Pow)<|rI Iy fun i j=>.int<|i^j.toNat:=VE fun _ _ _ _ _ _ _ a q=>pow_int_small a.1 a.2.1 a.2.2 q
theorem unI{g:Int->Int}
  (rule:∀(i:Int)(t:Tok)(s:ID)(Q:aft)(E:aft),Q (.int (g i) s.toks) {s with toks:=s.toks+1}->aaN (aaO X.prog X.w) X.A (f<|.int i t) Q E s):
  KD X f (rU fun i=>.int<|g i):=by
 intro aa s Z H x v Q I a h;obtain⟨i,rfl,q⟩:=h;obtain⟨t,rfl⟩:=a;exact rule i t s _ _ ⟨.int<|g i,H,I.tok _,⟨_,rfl⟩,q⟩
theorem Qs:KD X (unaryOp .USub)<|rU fun i=>.int<|-i:=unI fun _ _ _ _ _ q=>neg_int q
end
noncomputable def wI:V->V->Bool
 |.non,.non=>G|.non,.int _=>G|.int _,.non=>G|.non,.bl _=>G|.bl _,.non=>G|.non,.str _=>G|.str _,.non=>G
 |.int _,.int _=>G|.bl _,.bl _=>G|.str _,.str _=>G|.byt _,.byt _=>G
 |.int _,.str _=>G|.str _,.int _=>G|.bl _,.str _=>G|.str _,.bl _=>G
 |_,_=>η
def rEq:R2:=fun x y H Q=>wI x y=G/\Q (.bl<|decide (x=y)) H
def rNe:R2:=fun x y H Q=>wI x y=G/\Q (.bl<|!decide (x=y)) H
theorem Ba:decide (V.int i=V.int j)=(i==j):=by
 rw[aca];simp
theorem EC:decide (V.bl i=V.bl j)=(i==j):=by
 rw[aca];simp
theorem BQ:decide (V.str i=V.str j)=(i==j):=by
 rw[aca];simp
theorem Cs:decide (V.byt i=V.byt j)=(i.toList==j.toList):=by
 rw[aca];cases i;cases j;simp
section
variable{X:Cx}{a b c:aa1}{ta tb tc:TE}{pos:Pos}
theorem aB{Z:St}(I:Inv X aa Z H s)(q:Q (.bl k) H)(e:k=k'):EP X aa Z Q (.bool k') s:=by
 subst e;exact⟨.bl k,H,I,rfl,q⟩
theorem Vc:eJ X (aaY .Eq) rEq:=by
 intro aa s Z H x y v u Q I b a h;obtain⟨hs,q⟩:=h
 cases x with
 |non=>
  cases b;cases y with
  |non=>cases a;exact PySem.EqNone.eq_none_none (aB I q<|∅)
  |bl j=>cases a;exact PySem.EqNone.eq_none_bool (aB I q<|∅)
  |int j=>obtain⟨t',rfl⟩:=a;exact PySem.EqNone.eq_none_int (aB I q<|∅)
  |str j=>obtain⟨t',rfl⟩:=a;exact PySem.EqNone.eq_none_str (aB I q<|∅)
  |_=>exact absurd (show η=G from hs) MK
 |bl i=>
  cases b;cases y with
  |non=>cases a;exact PySem.EqNone.eq_bool_none (aB I q<|∅)
  |bl j=>cases a;exact eq_bool<|aB I q EC
  |str j=>obtain⟨t',rfl⟩:=a;exact PySem.EqMixed.eq_bool_str (aB I q<|∅)
  |_=>exact absurd (show η=G from hs) MK
 |int i=>
  obtain⟨t,rfl⟩:=b;cases y with
  |non=>cases a;exact PySem.EqNone.eq_int_none (aB I q<|∅)
  |int j=>obtain⟨t',rfl⟩:=a;exact eq_int<|aB I q Ba
  |str j=>obtain⟨t',rfl⟩:=a;exact PySem.EqMixed.eq_int_str (aB I q<|∅)
  |_=>exact absurd (show η=G from hs) MK
 |str i=>
  obtain⟨t,rfl⟩:=b;cases y with
  |non=>cases a;exact PySem.EqNone.eq_str_none (aB I q<|∅)
  |bl j=>cases a;exact PySem.EqMixed.eq_str_bool (aB I q<|∅)
  |int j=>obtain⟨t',rfl⟩:=a;exact PySem.EqMixed.eq_str_int (aB I q<|∅)
  |str j=>obtain⟨t',rfl⟩:=a;exact eq_str<|aB I q BQ
  |_=>exact absurd ((hs)) MK
 |byt i=>
  obtain⟨t,rfl⟩:=b;cases y with
  |byt j=>obtain⟨t',rfl⟩:=a;exact PySem.W.eq_bytes<|aB I q Cs
  |_=>exact absurd ((hs)) MK
 |_=>cases y<;>exact absurd ((hs)) MK
theorem UB:eJ X (aaY .NotEq) rNe:=by
 intro aa s Z H x y v u Q I b a h;obtain⟨hs,q⟩:=h
 cases x with
 |non=>
  cases b;cases y with
  |non=>cases a;exact PySem.EqNone.ne_none_none (aB I q<|∅)
  |bl j=>cases a;exact PySem.EqNone.ne_none_bool (aB I q<|∅)
  |int j=>obtain⟨t',rfl⟩:=a;exact PySem.EqNone.ne_none_int (aB I q<|∅)
  |str j=>obtain⟨t',rfl⟩:=a;exact PySem.EqNone.ne_none_str (aB I q<|∅)
  |_=>exact absurd (show η=G from hs) MK
 |bl i=>
  cases b;cases y with
  |non=>cases a;exact PySem.EqNone.ne_bool_none (aB I q<|∅)
  |bl j=>cases a;exact ne_bool<|aB I q<|afp not EC
  |str j=>obtain⟨t',rfl⟩:=a;exact PySem.EqMixed.ne_bool_str (aB I q<|∅)
  |_=>exact absurd (show η=G from hs) MK
 |int i=>
  obtain⟨t,rfl⟩:=b;cases y with
  |non=>cases a;exact PySem.EqNone.ne_int_none (aB I q<|∅)
  |int j=>obtain⟨t',rfl⟩:=a;exact ne_int<|aB I q<|afp not Ba
  |str j=>obtain⟨t',rfl⟩:=a;exact PySem.EqMixed.ne_int_str (aB I q<|∅)
  |_=>exact absurd (show η=G from hs) MK
 |str i=>
  obtain⟨t,rfl⟩:=b;cases y with
  |non=>cases a;exact PySem.EqNone.ne_str_none (aB I q<|∅)
  |bl j=>cases a;exact PySem.EqMixed.ne_str_bool (aB I q<|∅)
  |int j=>obtain⟨t',rfl⟩:=a;exact PySem.EqMixed.ne_str_int (aB I q<|∅)
  |str j=>obtain⟨t',rfl⟩:=a;exact ne_str<|aB I q<|afp not BQ
  |_=>exact absurd ((hs)) MK
 |byt i=>
  obtain⟨t,rfl⟩:=b;cases y with
  |byt j=>obtain⟨t',rfl⟩:=a;exact PySem.W.ne_bytes<|aB I q<|afp not Cs
  |_=>exact absurd ((hs)) MK
 |_=>cases y<;>exact absurd ((hs)) MK
theorem TW:eJ X (aaY .Lt)<|Nm fun i j=>.bl<|decide (i<j):=L6 fun _ _ _ _ _ _ _ q=>lt_int q
theorem Ts:eJ X (aaY .LtE)<|Nm fun i j=>.bl<|decide (i<=j):=L6 fun _ _ _ _ _ _ _ q=>le_int q
theorem Su:eJ X (aaY .Gt)<|Nm fun i j=>.bl<|decide (j<i):=L6 fun _ _ _ _ _ _ _ q=>gt_int q
theorem UI:eJ X (aaY .GtE)<|Nm fun i j=>.bl<|decide (j<=i):=L6 fun _ _ _ _ _ _ _ q=>ge_int q
theorem Dt:eJ X (aaY .Lt) (fun x y H Q=>∃i j,x=.str i/\y=.str j/\Q (.bl<|decide (i.cps.toList<j.cps.toList)) H):=by
 intro aa s Z H x y v u Q I b a h;obtain⟨i,j,rfl,rfl,q⟩:=h;obtain⟨t,rfl⟩:=b;obtain⟨t',rfl⟩:=a;exact lt_str<|aB I q rfl
theorem Dp:eJ X (aaY .In) (fun x y H Q=>∃i j,x=.str i/\y=.str j/\Q (.bl<|!(acj j i 0 j.length 1).isEmpty) H):=by
 intro aa s Z H x y v u Q I b a h;obtain⟨i,j,rfl,rfl,q⟩:=h;obtain⟨t,rfl⟩:=b;obtain⟨t',rfl⟩:=a;exact in_str<|aB I q rfl
theorem Qr:eJ X (aaY .Is) (fun x y H Q=>y=.non/\Q (.bl<|decide (x=.non)) H):=by
 intro aa s Z H x y v u Q I b a h;obtain⟨rfl,q⟩:=h;subst a;refine is_none_gen<|aB I q ?_;cases x<;>first
  |(rfl)
  |(obtain⟨t,rfl⟩:=b;rfl)
theorem Lc:eJ X (aaY .IsNot) (fun x y H Q=>y=.non/\Q (.bl<|!decide (x=.non)) H):=by
 intro aa s Z H x y v u Q I a b h;obtain⟨rfl,q⟩:=h;subst b;refine isnot_none_gen<|aB I q ?_;cases x<;>first
  |(subst a;rfl)
  |(obtain⟨t,rfl⟩:=a;rfl)
theorem wS:eJ X (aaY .NotIn) (fun x y H Q=>∃i j,x=.str i/\y=.str j/\Q (.bl<|!(!(acj j i 0 j.length 1).isEmpty)) H):=by
 intro aa s Z H x y v u Q I b a h;obtain⟨i,j,rfl,rfl,q⟩:=h;obtain⟨t,rfl⟩:=b;obtain⟨t',rfl⟩:=a;exact notIn_str<|aB I q rfl
theorem eJ.or(h:eJ X f r)(h':eJ X f r'):eJ X f (fun x y H Q=>r x y H Q\/r' x y H Q):=by
 intro aa s Z H x y v u Q I b a q;rcases q with q|q
 .exact h aa s Z H x y v u Q I b a q
 .exact h' aa s Z H x y v u Q I b a q
theorem JK(f:eJ X (aaY op) r)(i:PE X a ta)(l:PE X b tb)(c:adq op b=η):PE X (.Compare a [op] [b] pos)<|NB r ta tb:=by
 intro aa s Z H Q I h;exact wpAny_Compare1 (Ou i l I h fun v u j x y e d k g q=>f aa j Z e x y v u Q d k g q) c
def Xc(K:aT)(x:V)(H:Hp)(k:Bool):Prop:=
 match x with
 |.non=>k=η
 |.bl b=>k=b
 |.int i=>k=(i != 0)
 |.str y=>y.length<=aaL/\k=((y.length:Int) != 0)
 |.byt y=>y.size<=aaL/\k=((y.size:Int) != 0)
 |.ref p=>(∃xs,gr K H p xs/\k=!xs.isEmpty)\/(∃xs,m7 K H p xs/\k=!xs.isEmpty)\/∃a,H p=J (.dK a)/\k=!a.isEmpty
 |_=>False
theorem z9{a:List<|κ×V}{vs:List<|κ×nE}(r:KV a vs):(!vs.isEmpty)=!a.isEmpty:=by
 cases r<;>rfl
theorem sy(r:aU xs aV):(!aV.toArray.isEmpty)=!xs.isEmpty:=by
 cases r<;>rfl
theorem pM:(aaL:Nat)<2^63:=by rw[abB];decide
theorem Qg:X4 X (fun x H Q=>∃k,Xc X.K x H k/\Q k H):=by
 intro aa s Z H x v Q I f h;obtain⟨k,e,q⟩:=h
 have j:=pM;have hs:aaL=16777216:=abB;cases x with
 |non=>
  cases f;have a:k=η:=e;subst a;exact truthy_none ⟨H,I,q⟩
 |bl b=>
  cases f;have a:k=b:=e;subst a;exact ach ⟨H,I,q⟩
 |int i=>
  obtain⟨t,rfl⟩:=f;have a:k=(i != 0):=e;subst a;exact PySem.P.truthy_int ⟨H,I,q⟩
 |str y=>
  obtain⟨t,rfl⟩:=f;obtain⟨hy,a⟩:y.length<=aaL/\k=((y.length:Int) != 0):=e
  subst a;exact PySem.P.truthy_str ⊥ ⟨H,I.tok _,q⟩
 |byt y=>
  obtain⟨t,rfl⟩:=f;obtain⟨hy,a⟩:y.size<=aaL/\k=((y.size:Int) != 0):=e
  subst a;exact PySem.W.truthy_bytes ⊥ ⟨H,I.tok _,q⟩
 |ref p=>
  cases f;have a:(∃xs,gr X.K H p xs/\k=!xs.isEmpty)\/(∃xs,m7 X.K H p xs/\k=!xs.isEmpty)\/∃c,H p=J (.dK c)/\k=!c.isEmpty:=e;rcases a with⟨xs,g,a⟩|⟨xs,g,a⟩|⟨c,g,a⟩
  .subst a;obtain⟨aV,r,pl,hz⟩:=I.list g
   have d:=r.length;exact wpAny_truthy_list pl.isList (by simp only[abG];lia) ⟨H,I.tok _,by rw[sy r];exact q⟩
  .subst a;obtain⟨aV,r,pl,hz⟩:=I.tuple g
   have d:=r.length;exact truthy_tuple pl (by simp only[abG];lia) ⟨H,I.tok _,by rw[sy r];exact q⟩
  .subst a;obtain⟨hz,hS,vs,r,m⟩:c.length<=aaL/\(p==ada)=η/\∃vs,KV c vs/\s.heap.DictOf (dE X.prog X.w) p vs:=I.hok p _ g
   have d  := Paired.length r;exact wpAny_truthy_dict hS m ⊥ ⟨H,I.tok _,by rw[z9 r];exact q⟩
 |_=>exact((e)).elim
theorem Ak:eJ X (aco .Add) (fun x y H Q=>∃i j,x=.str i/\y=.str j/\i.length+j.length<=aaL/\Q (.str<|i++j) H):=by
 intro aa s Z H x y v u Q I c b h;obtain⟨i,j,rfl,rfl,a,q⟩:=h;obtain⟨t,rfl⟩:=c;obtain⟨t',rfl⟩:=b;exact aO I.tk<|add_str (fun t' tk d=>⟨.str<|i++j,H,I.tok _,⟨_,rfl⟩,q⟩) a
theorem jV(r:aU [x] us):∃u,us=[u]/\aP x u:=by
 cases r with
 |cons r1 r2=>cases r2;exact⟨_,rfl,r1⟩
theorem ya(r:aU [x,y] us):∃u w',us=[u,w']/\aP x u/\aP y w':=by
 cases r with
 |cons r1 r2=>
  cases r2 with
  |cons r3 r4=>cases r4;exact⟨_,_,rfl,r1,r3⟩
theorem Hz:bI X (.builtin "abs") (fun xs H Q=>∃i,xs=[.int i]/\Q (.int<|if i<0 then -i else i) H):=by
 intro aa s Z H xs us Q I r h;obtain⟨i,rfl,q⟩:=h;obtain⟨u,rfl,t,rfl⟩:=jV r;exact aO I.tk<|call_abs_int fun u tk a=>⟨.int<|if i<0 then -i else i,H,I.tok _,⟨_,rfl⟩,q⟩
theorem DB(b:X.calm=G):bI X (.builtin "max") (fun xs H Q=>∃i j,xs=[.int i,.int j]/\Q (.int<|if j > i then j else i) H):=by
 intro aa s Z H xs us Q I r h;obtain⟨i,j,rfl,q⟩:=h;obtain⟨u,d,rfl,⟨t,rfl⟩,⟨t',rfl⟩⟩:=ya r;refine aO I.tk<|max_two_ints (I.ok.hd b) fun h' tk k c=>⟨_,H,I.kept k,?_,q⟩;by_cases a:j > i
 .rw[afk a,afk a];exact⟨_,rfl⟩
 .rw[afl a,afl a];exact⟨_,rfl⟩
theorem DM:bI X (.type "int") (fun xs H Q=>(∃i,xs=[.int i]/\Q (.int i) H)\/∃k,xs=[.bl k]/\Q (.int<|if k then 1 else 0) H):=by
 intro aa s Z H xs us Q I r h;rcases h with⟨i,rfl,q⟩|⟨k,rfl,q⟩
 .obtain⟨u,rfl,t,rfl⟩:=jV r;exact call_int_int ⟨.int i,H,I,⟨_,rfl⟩,q⟩
 .obtain⟨u,rfl,r1⟩:=jV r;subst r1;exact call_int_bool ⟨.int<|if k then 1 else 0,H,I.tok _,⟨_,rfl⟩,q⟩
end
structure ObjM(h:acn)(x dx C:aaB)(mA:afu):Prop where
 obj:h.get? x=J (acW C dx)
 ns:h.Ns1 dx mA
 ne:dx≠x
theorem DW{h:acn}(n:h.Ns1 dx mA):∃b,h.get? dx=J b/\∀name,adP name b=J (mA name):=by
 refine Z35 n fun o es i d hd c _ f=>?_;refine⟨o,d,fun name=>?_⟩;have e:=f name;unfold nsFind findBy at e;delta adP;rw[hd];dsimp only;split
 .mright
 .have a:es.toList.any (·.refKey)=η:=by
   rw[List.any_eq_false];intro y g;obtain⟨z,t,hkey⟩:=c y<|Array.mem_toList_iff.mp g
   simp[DictEntry.refKey,hkey]
  grind
theorem ObjM.look(I:ObjM h x dx C mA):∃a,afi h x (acW C dx) C (J a)/\∀name,adP name a=J (mA name):=
 let⟨a,ho,hl⟩:=DW I.ns
 ⟨a,⟨I.obj,rfl,rfl,ho⟩,hl⟩
section
variable{s:ID}{K:aT}
theorem get_map(X:K.In s.heap)(I:ObjM s.heap x dx C mA)(d:acO K C name=G)(g:ac7 K C=G)
  (c:abw K (.ref C) name=J U) (f:mA name=J v) (b:PySem.W.handedIn v=G) (h:Q v {s with toks:=s.toks+1}):
  aaN (aaO prog w) A (getAttr (.ref x) name expr) Q E s:=by
 obtain⟨i,a,e⟩:=I.look;exact PySem.W.get_value X a (adu d).1 (PySem.W.findObj_own g c rfl (by rw[e,f])) b h
theorem EY{pl:Sem Bool}{Q:nE×afw->ID->Prop}(X:K.In s.heap)(I:ObjM s.heap x dx C mA)(b:acO K C name=G)
  (c:abw K (.ref C) name=J (J<|.ref f)) (e:adI K (.ref f)=G) (i:mA name=U) (h:Q (.ref f,[.ref x]) s):
  aaN (aaO prog w) A (getMethod (.ref x) name pl) Q E s:=by
 obtain⟨d,a,g⟩:=I.look;exact PySem.W.method_fn X a (adu b).1 (adu b).2 c (beq_iff_eq.mp e) (by show(adP name d).map (·.isSome)=J η;rw[g,i];rfl) h
theorem JF(X:K.In s.heap)(I:ObjM s.heap x dx C mA)
  (hs:abw K (.ref C) "__setattr__"=J (J<|.builtin "object.__setattr__")) (g:adT K C=G) (d:ad6 K C name=J U) (f:ac7 K C=G)
  (hw:ae2 mA ns) (e:ns.length<=aaL)
  (h:∀h',ObjM h' x dx C (fun y=>if y=name then J v else mA y)->abj dx s.heap h'->Q () {s with heap:=h',toks:=s.toks+2}):
  aaN (aaO prog w) A (setAttr (.ref x) name v) Q E s:=by
 obtain⟨od,Jq0,hl⟩:=I.look
 refine PySem.W.set_plain X Jq0 hs<|PySem.W.osa_open X Jq0 g d fun b=>?_;let⟨cd,hc,hd'⟩:=PySem.W.any_some f
 have hx  := I.obj;refine iF<|aaG<|iF<|iF<|wpAny_loadPart hx<|iF<|PySem.W.Looks.here (PySem.W.looks_clsIn X hc) ?_;rw[hd'];refine aaG<|iF<|aaG<|iF ?_;refine wpAny_nsSet1 I.ns fun h' c a=>?_;let⟨oD,esD,epD,hoD,hdD,hcD⟩:=c.count<|PySem.Within.cons name v hw
 refine iF<|wpAny_lookBehind hoD (by rw[hdD];exact pastItsLine_dict<|RW hcD<|by mright) ?_;exact aaG<|h _ ⟨(a.2 _<|aci I.ne).trans I.obj,c,I.ne⟩ a
end
noncomputable def f9(f:Str)(v:V):List (Str×V)->List (Str×V)
 |[]=>[(f,v)]
 |(g,x)::r=>if g=f then(g,v)::r else(g,x)::f9 f v r
theorem qu(f g:Str)(v:V):∀fs:List<|Str×V,(f9 f v fs).lookup g=if g=f then J v else fs.lookup g
 |[]=>by
  show acx g [(f,v)]=_;by_cases h:g=f
  .mright
  mright
 |(k,x)::r=>by
  have b:=qu f g v r;rw[show f9 f v ((k,x)::r)=(if k=f then(k,v)::r else(k,x)::f9 f v r)from rfl];by_cases a:k=f
  .rw[afk a];by_cases h:g=k
   .mright
   .have hb  := beq_eq_false_iff_ne.mpr h;simp only[acx,hb,afl fun e:g=f=>h<|e.trans a.symm]
  .rw[afl a];by_cases h:g=k
   .mright
   .have hb  := beq_eq_false_iff_ne.mpr h;simp only[acx,hb];exact b
theorem oJ(f:Str)(v:V):∀fs:List<|Str×V,f∈(f9 f v fs).map (·.1)/\∀g,g∈fs.map (·.1)->g∈(f9 f v fs).map (·.1)
 |[]=>⟨by simp[f9],fun g h=>by mright⟩
 |(k,x)::r=>by
  obtain⟨i1,i2⟩:=oJ f v r
  rw[show f9 f v ((k,x)::r)=(if k=f then(k,v)::r else(k,x)::f9 f v r)from rfl]
  grind
theorem qq(f:Str)(v:V):∀fs:List<|Str×V,(f9 f v fs).length<=fs.length+1
 |[]=>by simp[f9]
 |(k,x)::r=>by
  have a:=qq f v r;rw[show f9 f v ((k,x)::r)=(if k=f then(k,v)::r else(k,x)::f9 f v r)from rfl]
  grind
theorem pE.some_of(r:pE (J v) o):∃u,o=J u/\aP v u:=by
 cases o with
 |none=>exact((r)).elim
 |some u=>exact⟨u,rfl,r⟩
theorem pE.none_of(r:pE U o):o=U:=by
 cases o with
 |none=>rfl
 |some u=>exact((r)).elim
section
theorem rK(b:nW P w H h)(e:H a=J (.ins C dx fs)):∃mA,ObjM h a dx C mA/\(∀f,pE (fs.lookup f)<|mA f)/\ae2 mA (fs.map (·.1))/\fs.length<=1000/\H dx=J (.own a):=by
 obtain⟨d,z,c,g,mA,n,r,q⟩:=((b a _ e));exact⟨mA,⟨g,n,c⟩,r,q,z,d⟩
end
structure Cls(K:aT)(C:aaB):Prop where
 pg:acO K C acX=G
 hd:ac7 K C=G
 po:adT K C=G
 sa:abw K (.ref C) "__setattr__"=J (J<|.builtin "object.__setattr__")
theorem Cls.get{K:aT}(c:Cls K C)(f:Str):acO K C f=G:=c.pg
def a9(K:aT)(C:aaB)(f:Str):Prop:=abw K (.ref C) f=J U
theorem a9.taker{K:aT}(n:a9 K C f):ad6 K C f=J U:=by
 delta ad6;rw[(n)];rfl
structure Meth(K:aT)(C:aaB)(m:Str)(f:aaB):Prop where
 at_:abw K (.ref C) m=J (J<|.ref f)
 fn:adI K (.ref f)=G
 kp:abk K (.ref f)=G
section
variable{Z:St}
theorem tR(I:Inv X aa Z H s)(e:H a=J (.ins C dx fs))(c:Cls X.K C)(n:a9 X.K C f)(l:fs.lookup f=J v)
  (h:∀u s',Inv X aa Z H s'->aP v u->Q u s'):aaN (aaO X.prog X.w) A (getAttr (.ref a) f b) Q E s:=by
 refine Z15 (rK I.hok e) fun mA O r _ _ _=>?_;obtain⟨u,hu,ru⟩:=pE.some_of (v:=v) (o:=mA f) (by grind)
 exact get_map I.kIn O (c.get f) c.hd n hu ((by
   cases v with
   |non=>cases((ru));rfl
   |bl b=>cases((ru));rfl
   |int i=>obtain⟨t,e⟩:=((ru));subst e;rfl
   |str x=>obtain⟨t,e⟩:=((ru));subst e;rfl
   |byt b=>obtain⟨t,e⟩:=((ru));subst e;rfl
   |flt b=>obtain⟨t,e⟩:=((ru));subst e;rfl
   |ref a=>cases((ru));rfl
   |ty n=>cases((ru));rfl)) (h u _ (I.tok _) ru)
theorem ua{m:Str}{g:aaB}{pl:Sem Bool}{Q:nE×afw->ID->Prop}(I:Inv X aa Z H s)(e:H a=J (.ins C dx fs))(c:Cls X.K C)(k:Meth X.K C m g)(l:fs.lookup m=U)
  (h:Q (.ref g,[.ref a]) s):aaN (aaO X.prog X.w) A (getMethod (.ref a) m pl) Q E s:=by
 obtain⟨mA,O,r,_,_,_⟩:=rK I.hok e;have b:mA m=U:=pE.none_of (by rw[<-l];exact r m);exact EY I.kIn O (c.get m) k.at_ k.fn b h
theorem si(I:Inv X aa Z H s)(e:H a=J (.ins C dx fs))(c:Cls X.K C)(n:a9 X.K C f)(m:fs.length<1000)(k:aP y u)
  (h:∀s',Inv X aa Z (br H a<|.ins C dx<|f9 f y fs) s'->Q () s'):aaN (aaO X.prog X.w) A (setAttr (.ref a) f u) Q E s:=by
 refine Z15 (rK I.hok e) fun mA O r wi _ ho=>?_
 have i:(fs.map (·.1)).length<=aaL:=by rw[aaU,abB];lia
 refine JF I.kIn O c.sa c.po n.taker c.hd wi i fun h' O' j=>h _ ?_;have hd:∃o,h'.get? dx=J o:=let⟨o,_,_,e',_⟩:=O'.ns;⟨o,e'⟩;refine I.write (by rw[e];exact abt) (.inr ho) (fun b q l z=>(j.2 b l).trans z) hd ?_;refine⟨by rw[aG O.ne];exact ho,?_,O.ne,O'.obj,_,O'.ns,fun g=>?_,fun g d=>?_⟩
 .have:=qq f y fs;lia
 .rw[qu];by_cases q:g=f
  .rw[afk q,afk q];exact k
  mright
 .by_cases q:g=f
  .rw[q];exact(oJ f y fs).1
  .refine(oJ f y fs).2 g (wi g fun z=>d ?_);mright
theorem Inv.made(I:Inv X aa Z H s):Inv X aa Z (br (br H s.heap.objs.size<|.own<|s.heap.objs.size+1) (s.heap.objs.size+1)<|.ins C s.heap.objs.size [])
  {s with heap:=(s.heap.push acb).push<|acW C s.heap.objs.size}:=by
 have e1:(s.heap.push acb).get? s.heap.objs.size=J acb:=aaD s.heap rfl;have e2  := by
  have:=aaD (s.heap.push acb) (o:=acW C s.heap.objs.size) rfl
  rwa [abx]at this
 have g:(s.heap.push acb).Ns s.heap.objs.size (fun _=>U):=⟨acb,#[],_,e1,rfl,(fun e c=>absurd c<|∅),fun _=>rfl⟩;have d:=I.laid (o:=.own<|s.heap.objs.size+1) (fun b u q=>iN _ q) (mK _) ⟨_,e1⟩;refine d.laid (fun b u q=>iN _ q) (Nat.le_of_eq<|abx _ _) ?_;have a:s.heap.objs.size≠s.heap.objs.size+1:=aa0<|adm _;refine⟨by rw[aG a,aE],aa2 _,a,e2,fun _=>U,(Heap.Ns1.of_empty g).at fun o q=>iN _ q,fun _=>abt,fun y f=>absurd rfl f⟩
end
def Vz(K:aT)(ta:TE)(f:Str):TE:=fun Z H Q=>ta Z H fun x H1=>∃a C b fs v,x=.ref a/\H1 a=J (.ins C b fs)/\Cls K C/\a9 K C f/\fs.lookup f=J v/\Q v H1
def XY(K:aT)(ta tv:TE)(f:Str):TS:=fun D Z H=>tv Z H fun y H1=>ta Z H1 fun x c=>∃a C b fs,x=.ref a/\c a=J (.ins C b fs)/\Cls K C/\a9 K C f/\fs.length<1000 /\
 D.nx Z (br c a<|.ins C b<|f9 f y fs)
def SW(X:Cx)(a:Operator)(rd:V->V->Hp->VK->Prop):Prop:=
 ∀(aa:afs)(s:ID)(Z:St)(H:Hp)(x y:V)(u v:nE)(Q:VK),Inv X aa Z H s->aP x u->aP y v->rd x y H Q->aaN (aaO X.prog X.w) X.A (inplaceOp a u v) (EP X aa Z Q) X.xe s
def Ls(K:aT)(ta tv:TE)(rd:V->V->Hp->VK->Prop)(f:Str):TS:=fun D Z H=>ta Z H fun x H1=>∃a C e fs v,x=.ref a/\H1 a=J (.ins C e fs)/\Cls K C/\a9 K C f/\fs.lookup f=J v /\
 tv Z H1 fun y g=>rd v y g fun z d=>∃c b,d a=J (.ins C c b)/\b.length<1000/\D.nx Z (br d a<|.ins C c<|f9 f z b)
section
variable{X:Cx}{o e value:aa1}{f:Str}{pos pos' tpos:Pos}{ta tv:TE}
theorem AO(d:PE X e ta)(b:aaF e f X.env (eval e X.env)=eval e X.env):PE X (.Attribute e f pos)<|Vz X.K ta f:=by
 intro aa s Z H Q I h;refine(fun b h =>  Attribute_any_ h<|by rw[arm_eval_Attribute,b]) b<|bP (d aa s Z H _ I h) ?_;rintro u s1⟨x,H1,I1,rx,a,C,dx,fs,v,ex,ea,c,n,l,q⟩;subst ex;obtain rfl:u=abJ a:=rx;exact tR I1 ea c n l fun j i g ru=>⟨v,H1,g,ru,q⟩
theorem GB(d:PE X o ta)(e:PE X value tv)(hs:abm value (J<|.Attribute o f pos') pos.line X.env=pure η):PS X (.Assign [.Attribute o f pos'] value pos)<|XY X.K ta tv f:=by
 intro aa s Z H D I h;refine plainObj_wpAny_Assign_Attribute (bP (e aa s Z H _ I h) fun u s1 q_=>Z23 q_ fun y H1 I1 ry q=>bP (d aa s1 Z H1 _ I1 q) fun ov s2⟨x,H2,I2,rx,a,C,dx,fs,ex,ea,c,n,l,q2⟩=>?_) hs;subst ex;obtain rfl:ov=abJ a:=rx;exact si I2 ea c n l ry fun g b=>⟨Z,_,b,q2⟩
theorem D6{d:Operator}{rd:V->V->Hp->VK->Prop}(i:PE X o ta)(k:PE X value tv)(b:SW X d rd):PS X (.AugAssign (.Attribute o f tpos) d value pos)<|Ls X.K ta tv rd f:=by
 intro aa s Z H D I h;refine wpAny_AugAssign_AttributeAny<|bP (i aa s Z H _ I h) ?_;rintro ov s1⟨x,H1,I1,rx,a,C,dx,fs,v,ex,ea,c,n,l,q⟩;subst ex;obtain rfl:ov=abJ a:=rx;refine tR I1 ea c n l fun u g e ru=>bP (k aa g Z H1 _ e q) ?_;rintro w3 s3⟨y,H2,I3,ry,q3⟩;refine bP (b aa s3 Z H2 v y u w3 _ I3 ru ry q3) ?_;rintro w4 s4⟨z,H3,I4,rz,dx',fs',ea',l',q4⟩;exact si I4 ea' c n l' rz fun m j=>⟨Z,_,j,q4⟩
def WT:V->V->Hp->VK->Prop:=fun x y H Q=>∃i j,x=.int i/\y=.int j/\Q (.int<|i+j) H
theorem OH:SW X .Add WT:=by
 rintro aa s Z H x y u v Q I rx ry ⟨i,j,rfl,rfl,q⟩;obtain⟨t,rfl⟩:=(show ∃t,u=ae9 i t from rx);obtain⟨t',rfl⟩:=(show ∃t',v=ae9 j t' from ry);exact PyProof.Rows.iadd_int ⟨.int<|i+j,H,I.tok _,⟨_,rfl⟩,q⟩
end
section
variable{Z:St}
inductive TyOf(K:aT)(H:Hp):V->nE->Prop where
 |non:TyOf K H .non (.type "NoneType")
 |bl (x:Bool):TyOf K H (.bl x) (.type "bool")
 |int (i:Int):TyOf K H (.int i) (.type "int")
 |str (x:Str):TyOf K H (.str x) (.type "str")
 |flt (x:UInt64):TyOf K H (.flt x) (.type "float")
 |lst {a:aaB} {xs:afx} (e:H a=J (.lst xs)):TyOf K H (.ref a) (.type "list")
 |frz {a:aaB} {o:Obj} {xs:afx} (e:H a=J (.frz o<|.lst xs)):TyOf K H (.ref a) (.type "list")
 |tup {a:aaB} {xs:afx} (e:H a=J (.tup xs)):TyOf K H (.ref a) (.type "tuple")
 |dK {a:aaB} {kvs:List<|Key×V} (e:H a=J (.dK kvs)):TyOf K H (.ref a) (.type "dict")
 |dT {a:aaB} {kvs:List<|List Key×V} (e:H a=J (.dT kvs)):TyOf K H (.ref a) (.type "dict")
 | ins {a C dx:aaB} {fs:List (Str×V)} (e:H a=J (.ins C dx fs)) (cl:Cls K C) (ha:abw K (.ref C) "__class__"=J (J (.builtin "object.__class__")))
   (hn:PySem.W.specialIn K (.builtin "object.__class__") "__get__"=J (J<|.builtin "getset_descriptor.__get__")) (htk:PySem.W.takesIn K (.builtin "object.__class__")=J G)
   (hm:PySem.W.mroIn K C (.type "object")=J G):TyOf K H (.ref a)<|.ref C
theorem iP(I:Inv X aa Z H s)(d:aP x u)(f:TyOf X.K H x t)(e:afj X.K t c=J b)(h:∀g,Q (.bool b) {s with toks:=g}):
  aaN (aaO X.prog X.w) A (call (.builtin "isinstance") [u,c]) Q E s:=by
 cases f with
 |non=>cases(show u=ab8 from d);exact aa8 PySem.W.kitx_none I.kIn abt e (fun z=>nomatch z) h
 |bl y=>cases((d));exact aa8 PySem.W.kitx_bool I.kIn abt e (fun z=>nomatch z) h
 |int i=>obtain⟨t,q⟩:=((d));subst q;exact aa8 PySem.W.kitx_int I.kIn abt e (fun z=>nomatch z) h
 |str y=>obtain⟨t,q⟩:=((d));subst q;exact aa8 PySem.W.kitx_str I.kIn abt e (fun z=>nomatch z) h
 |flt y=>obtain⟨t,q⟩:=((d));subst q;exact aa8 PySem.W.kitx_float I.kIn abt e (fun z=>nomatch z) h
 |@lst a xs ea=>
  cases((d));obtain⟨_,_,n,_,h1⟩:=((I.hok a _ ea));exact aa8 adU I.kIn ⟨_,h1,rfl⟩ e (fun z=>nomatch z) h
 |@frz a ob xs ea=>
  cases((d));obtain⟨_,_,_,n,_,h1⟩:=((I.hok a _ ea));exact aa8 adU I.kIn ⟨_,h1,rfl⟩ e (fun z=>nomatch z) h
 |@tup a xs ea=>
  cases((d));obtain⟨_,_,_,p⟩:=((I.hok a _ ea));obtain⟨o,h1,h2,_⟩:=p
  exact aa8 aeG I.kIn ⟨o,h1,h2⟩ e (fun z=>nomatch z) h
 |@dK a kvs ea=>
  cases((d));obtain⟨_,_,vs,_,p⟩:=((I.hok a _ ea))
  obtain⟨o,es,j,h1,h2,_⟩:=p;exact aa8 adV I.kIn ⟨o,h1,h2.1⟩ e (fun z=>nomatch z) h
 |@dT a kvs ea=>
  cases((d));obtain⟨_,_,xs,_,o,es,j,h1,h2,_⟩:=((I.hok a _ ea));exact aa8 adV I.kIn ⟨o,h1,h2.1⟩ e (fun z=>nomatch z) h
 |@ins a C dx fs ea cl ha hn htk hm=>
  cases((d));obtain⟨mA,O,_⟩:=rK I.hok ea
  obtain⟨od,Jq0,_⟩:=O.look
  exact aa8 (PySem.W.kitx_own (cl.get _) cl.hd ha hn htk hm) I.kIn Jq0 e (fun z=>nomatch z) h
end
structure Room(k:Nat)(A:abF):Prop where
 hd:A.handled=U
 dp:A.depth+3*k+5<adS
 un:A.units+16*k+200<cLine
theorem Room.mono(r:Room k A)(h:j<=k):Room j A:=⟨r.hd,by have:=r.dp;lia,by have:=r.un;lia⟩
theorem Room.deeper(r:Room (k+1) A)(env:Env):Room k<|A.deeper env:=
 ⟨r.hd,by have:=r.dp;show A.depth+1+3*k+5<_;lia,by have:=r.un;show A.units+3+16*k+200<_;lia⟩
theorem Ag{A:abF}:(A.under<|.builtin "type.__call__" ⟨.ref C::us,kw⟩).depth=A.depth+1:=by
 rfl
theorem Ar{A:abF}:(A.under<|.builtin "type.__call__" ⟨.ref C::us,kw⟩).units=A.units+1:=by
 rfl
theorem Room.make(r:Room (k+1) A)(C:aaB)(us:afw)(a:List<|Str×nE):Room k<|A.under<|.builtin "type.__call__" ⟨.ref C::us,a⟩:=
 ⟨r.hd,by have:=r.dp;rw[Ag];lia,by have:=r.un;rw[Ar];lia⟩
theorem Room.depth(r:Room k A):A.depth<adS:=by have:=r.dp;lia
theorem Room.units(r:Room k A):A.units+64<cLine:=by have:=r.un;lia
def DG:TA:=fun _ H Q=>Q [] H
def uM(ta:TE)(tr:TA):TA:=fun Z H Q=>ta Z H fun x H1=>tr Z H1 fun xs a=>Q (x::xs) a
section
theorem Kz(i:PE X e te)(c:PA X es t)(hs:autoParam (abb (e::es) X.env=(η,eval e X.env)::abb es X.env) Xaz):PA X (e::es)<|uM te t:=by
 intro pos aa s Z H Q I h;rw[hs];refine adJ<|bP (i aa s Z H _ I h) fun u d a=>jZ a fun x H1 b r1 q1=>?_;exact bP (c pos aa d Z H1 _ b q1) fun us j a=>jZ a fun xs g f r2 q2=>⟨x::xs,g,f,.cons r1 r2,q2⟩
def WI(t:TA):TE:=fun Z H Q=>t Z H fun xs H1=>xs.length<=aaL/\∀p,H1 p=U->Q (.ref p) (br H1 p<|.tup xs)
def V9(t:TA):TE:=fun Z H Q=>t Z H fun xs H1=>xs.length<=aaL/\∀p,H1 p=U->Q (.ref p) (br H1 p<|.lst xs)
end
abbrev Sp:=afx->Hp->VK->XK->Prop
abbrev Ee:=List Env->Hp->ID->XK->nE->ID->Prop
structure Env0(P:abf)(w:abh)(K:aT)(mg:afu)(base:acn)(A:abF)(outer:List Env)(s:ID)(H:Hp):Prop where
 frames:A.frames=J outer
 mod:Mod K mg base
 bs:∀b o,base.get? b=J o->s.heap.get? b=J o/\H b=U
 bsz:base.objs.size<=s.heap.objs.size
 funs:s.heap.FunFrames base outer
 frf:(∀b∈Ec outer,H b=U)/\RJ K H
 hok:nW P w H s.heap
 bare:AllBare s.gens
def CE(a:List Env)(P:abf)(w:abh)(H:Hp)(s:ID)(Q:VK)(u:nE)(s':ID):Prop:=
 ∃v H',s'.os=s.os/\AllBare s'.gens/\Un (Ec a) [] H H' s.heap s'.heap/\nW P w H' s'.heap/\aP v u/\Q v H'
def CR(CX:Ee)(a:List Env)(P:abf)(w:abh)(H:Hp)(s:ID)(Q:VK)(E:XK)(r:Result)(s':ID):Prop:=
 match r with
 |.ok (.ret u)=>CE a P w H s Q u s'
 |.ok _=>False
 |.error e=>CX a H s E e s'
structure FnOk(P:abf)(w:abh)(K:aT)(mg:afu)(base:acn)(CX:Ee)(k:Nat)(f:aaB)(fd:abI)(ps:afr)(sp:Sp):Prop where
 len:∀vs H Q E,sp vs H Q E->vs.length=ps.length
 run:∀(A:abF)(outer:List Env)(s:ID)(H:Hp)(args:Args)(us:afw)(vs:afx)(Q:VK)(E:XK),Room k A->Env0 P w K mg base A outer s H->BindsTo s fd args (ps.zip us)->aU vs us->sp vs H Q E ->
  ad0 (aaO P w) A (.call (.ref f) args) (CR CX outer P w H s Q E) s
theorem FnOk.mono{P:abf}{w:abh}{K:aT}{mg:afu}{base:acn}{CX:Ee}{j k:Nat}{f:aaB}{fd:abI}{ps:afr}{sp:Sp}(F:FnOk P w K mg base CX j f fd ps sp)(h:j<=k):
  FnOk P w K mg base CX k f fd ps sp:=⟨F.len,fun A a s H b us vs Q E c=>F.run A a s H b us vs Q E<|c.mono h⟩
theorem FnOk.imp{K:aT}(F:FnOk P w K mg base CX k f fd ps sp)
  (h:∀vs H Q E,sp' vs H Q E->sp vs H Q E):FnOk P w K mg base CX k f fd ps sp':=
 ⟨fun vs H Q E q=>F.len vs H Q E<|h _ _ _ _ q,fun A a s H b us vs Q E d c g e hs=>F.run A a s H b us vs Q E d c g e<|h _ _ _ _ hs⟩
theorem Env0.make{K:aT}(e:Env0 P w K mg base A outer s H)(C:aaB)(us:afw)(a:List<|Str×nE):
  Env0 P w K mg base (A.under<|.builtin "type.__call__" ⟨.ref C::us,a⟩) outer s H:=⟨by first|exact e.frames|assumption,e.mod,e.bs,e.bsz,e.funs,e.frf,e.hok,e.bare⟩
section
variable{Z:St}
theorem Inv.env0(I:Inv X aa Z H s):Env0 X.prog X.w X.K X.mg X.base X.A X.stack s H:=
 ⟨I.ok.frames,I.ok.mod,I.bs,RW I.ok.bsz I.sz,I.stack,⟨I.stkFree,I.tb⟩,I.hok,I.bare⟩
theorem Inv.after(I:Inv X aa Z H s)(h:CE X.stack X.prog X.w H s Q u s')(i:autoParam (X.tn<=s'.toks) Xbz):EP X aa Z Q u s':=by
 refine Z26 h fun v H' os a un e r q=>?_;obtain⟨f,g,d,t,c⟩:=s';obtain rfl:c=s.os:=os;exact⟨v,H',I.call un e a fun b z=>absurd z<|∅,r,q⟩
end
def Tg(sp:Sp)(a:afx)(E:XK)(t:TA):TE:=fun Z H Q=>t Z H fun vs H1=>sp (vs++a) H1 Q E
def Ew(C:aaB)(sp:Sp)(b:afx)(E:XK)(t:TA):TE:=fun Z H Q=>t Z H fun vs H1=>∀x a,H1 x=U->H1 a=U->a≠x ->
 sp (.ref x::(vs++b)) (br (br H1 a<|.own x) x<|.ins C a []) (fun v c=>v=.non/\Q (.ref x) c) E
def cf(K:aT)(fd:abI)(ps:afr)(ds:afw):Prop:=
 ∀(s:ID)(us:afw),K.In s.heap->(us++ds).length=ps.length->BindsTo s fd ⟨us,[]⟩ (ps.zip<|us++ds)
theorem cf.all{K:aT}(h:∀us:afw,us.length=ps.length->bindArgs fd ⟨us,[]⟩=pure (ps.zip us)):cf K fd ps []:=fun s us _ a=>by
 rw[aaJ]at a⊢;exact .of_eq (h us a)
def m5(CX:Ee)(X:Cx)(E:XK):Prop:=∀(aa:afs)(Z:St)(H:Hp)(s:ID)(e:nE)(s':ID),Inv X aa Z H s->CX X.stack H s E e s'->X.xe e s'
section
variable{p pos apos:Pos}
theorem IV{Z:St}(F:FnOk X.prog X.w X.K X.mg X.base CX k f fd ps sp)(c:Room k X.A)(b:cf X.K fd ps ds)(hd:aU dvs ds)(i:m5 CX X E)
  (I:Inv X aa Z H s) (r:aU vs us) (h:sp (vs++dvs) H Q E):aaN (aaO X.prog X.w) X.A (call (.ref f) us) (EP X aa Z Q) X.xe s:=by
 have r2  := r.append hd;have d:(us++ds).length=ps.length:=by rw[<-r2.length];exact F.len _ _ _ _ h
 refine wpAny_call<|dk I.tk<|acV (F.run X.A X.stack s H ⟨us,[]⟩ (us++ds) (vs++dvs) Q E c I.env0 (b s us I.kIn d) r2 h) fun r s' a g=>?_;cases r with
 |error e=>exact i aa Z H s e s' I a
 |ok fl=>
  cases fl with
  |ret u=>exact I.after a
  |next=>exact abD a
  |brk=>exact abD a
  |cont=>exact abD a
theorem Ei(F:FnOk X.prog X.w X.K X.mg X.base CX k f fd ps sp)(e:Room k X.A)(g:Gl X x)(c:X.mg x=J (.ref f))(b:abk X.K (.ref f)=G)(i:cf X.K fd ps ds)(hd:aU dvs ds)(d:m5 CX X E)
  (a:autoParam (afz x) Xax):PE X (.Call (.Name x p) [] [] pos)<|Tg sp dvs E DG:=by
 intro aa s Z H Q I h;refine abc<|dD I g c ?_ a;exact adv I.kIn b<|IV F e i hd d I .nil h
structure Mk(K:aT)(C f:aaB):Prop where
 makes:afb K C=G
 init:abw K (.ref C) "__init__"=J (J<|.ref f)
 fn:adI K (.ref f)=G
 kp:abk K (.ref C)=G
theorem yQ{Z:St}(M:Mk X.K C f)(F:FnOk X.prog X.w X.K X.mg X.base CX k f fd ps sp)(i:Room (k+1) X.A)(l:cf X.K fd ps ds)(hd:aU dvs ds)
  (n:m5 CX X E) (I:Inv X aa Z H s) (r:aU vs us)
  (h:∀x c,H x=U->H c=U->c≠x->sp (.ref x::(vs++dvs)) (br (br H c<|.own x) x<|.ins C c []) (fun v m=>v=.non/\Q (.ref x) m) E):
  aaN (aaO X.prog X.w) X.A (call (.ref C) us) (EP X aa Z Q) X.xe s:=by
 have d:=h (s.heap.objs.size+1) s.heap.objs.size (I.hok.fresh<|Nat.le_succ _) (I.hok.fresh<|mK _)<|aa0<|adm _;have b:=Inv.made (C:=C) I;have r2:aU (V.ref (s.heap.objs.size+1)::(vs++dvs))<|abJ (s.heap.objs.size+1)::(us++ds):=.cons rfl (r.append hd);have hl  := by
  have e:=r2.length;rw[F.len _ _ _ _ d]at e;exact e.symm
 refine wpAny_call ((fun X g j o h=>by
   exact PySem.W.make_core (PySem.W.makes_of X g) (PySem.W.looks_findIn X j) (fun self=>PySem.W.bind_fn X self o) (.inl rfl) h) I.kIn M.makes M.init (beq_iff_eq.mp M.fn) (dk b.tk (acV (F.run _ X.stack _ _ ⟨abJ (s.heap.objs.size+1)::us,[]⟩ (abJ (s.heap.objs.size+1)::(us++ds)) _ _ E (i.make C us [])
  (b.env0.make C us []) (l _ (abJ (s.heap.objs.size+1)::us) b.kIn hl) r2 d) fun r s' a p=>?_)))
 cases r with
 |error e=>exact n aa Z _ _ e s' b a
 |ok fl=>
  cases fl with
  |ret u=>
   refine Z24 (b.after a) fun v H' I3 rv ev q3=>?_
   subst ev;exact⟨rv,⟨V.ref<|s.heap.objs.size+1,H',I3,rfl,q3⟩⟩
  |next=>exact abD a
  |brk=>exact abD a
  |cont=>exact abD a
theorem Cb(M:Mk X.K C f)(F:FnOk X.prog X.w X.K X.mg X.base CX k f fd ps sp)(g:Room (k+1) X.A)(i:Gl X x)(d:X.mg x=J (.ref C))(o:cf X.K fd ps ds)(hd:aU dvs ds)(l:m5 CX X E)
  (n:PA X (e::es) t) (a:autoParam (afz x) Xax) (m:autoParam (abb (e::es) X.env=(η,eval e X.env)::abb es X.env) Xaz) (b:autoParam ((adz pos<|abb es X.env).any (·.1)=η) Xaz):
  PE X (.Call (.Name x p) (e::es) [] pos) (Ew C sp dvs E t):=by
 intro aa s Z H Q I h;refine abc<|dD I i d ?_ a;refine abK I.ok.mod.kin M.kp (bP (n pos aa s Z H _ I h) fun us u j=>jZ j fun vs H1 c r q=>⟨c.kIn,?_⟩) m b;exact yQ M F g o hd l c r q
theorem IB(M:Mk X.K C f)(F:FnOk X.prog X.w X.K X.mg X.base CX k f fd ps sp)(e:Room (k+1) X.A)(g:Gl X x)(c:X.mg x=J (.ref C))(b:cf X.K fd ps ds)(hd:aU dvs ds)(d:m5 CX X E)
  (a:autoParam (afz x) Xax):PE X (.Call (.Name x p) [] [] pos)<|Ew C sp dvs E DG:=by
 intro aa s Z H Q I h;refine abc<|dD I g c ?_ a;exact adv I.kIn M.kp<|yQ (us:=[]) M F e b hd d I .nil h
end
structure FnScope(N P:afr)(sc:Scope):Prop where
 kind:sc.kind=.function
 co:sc.isCoroutine=η
 gen:sc.isGenerator=η
 nd:N.Nodup
 pre:N.take P.length=P
 par:∀x∈P,sc.names.lookup x=J .local\/sc.names.lookup x=J .cell
 nofree:∀y∈sc.names,y.2≠.free
theorem vB{a:Str->Option ade}:∀{binds:List<|Str×nE}{m:afu},(∀v,(x,v)∉binds)->bindL a binds m x=m x
 |[],_,_=>rfl
 |(n,v)::r,m,h=>by
  unfold bindL;rw[vB fun w hw=>h w<|ie _ hw];split
  .grind
  .rfl
theorem vH{a:Str->Option ade}:∀{binds:List<|Str×nE}{m:afu},(∀v,(x,v)∉binds)->bindC a binds m x=m x
 |[],_,_=>rfl
 |(n,v)::r,m,h=>by
  unfold bindC;rw[vH fun w hw=>h w<|ie _ hw];split
  .rfl
  grind
theorem vz{a:Str->Option ade}:∀{P:afr}{vs:afw}{i:Nat}{m:afu},P.Nodup->P[i]?=J x->vs[i]?=J v->a x=J .local ->
  bindL a (P.zip vs) m x=J v
 |[],_,_,_,_,h,_,_=>by mright
 |_::_,[],_,_,_,_,h,_=>by mright
 |p::P,w::vs,0,m,nd,h1,h2,hk=>by
  simp at h1 h2;subst h1;subst h2;show bindL a ((p,w)::P.zip vs) m p=_;unfold bindL;rw[vB fun v b=>(aaK.mp nd).1 (aaZ b).1,afk hk];simp
 |p::P,w::vs,i+1,m,nd,h1,h2,hk=>by
  show bindL a ((p,w)::P.zip vs) m x=_;exact vz (aaK.mp nd).2 ⊤ ⊤ hk
theorem vG{a:Str->Option ade}:∀{P:afr}{vs:afw}{i:Nat}{m:afu},P.Nodup->P[i]?=J x->vs[i]?=J v->a x≠J .local ->
  bindC a (P.zip vs) m x=J v
 |[],_,_,_,_,h,_,_=>by mright
 |_::_,[],_,_,_,_,h,_=>by mright
 |p::P,w::vs,0,m,nd,h1,h2,hk=>by
  simp at h1 h2;subst h1;subst h2;show bindC a ((p,w)::P.zip vs) m p=_;unfold bindC;rw[vH fun v b=>(aaK.mp nd).1 (aaZ b).1,afl hk];simp
 |p::P,w::vs,i+1,m,nd,h1,h2,hk=>by
  show bindC a ((p,w)::P.zip vs) m x=_;exact vG (aaK.mp nd).2 ⊤ ⊤ hk
def start(N:afr)(vs:afx):St:=vs.map J++aaA (N.length-vs.length) U
noncomputable def gw(CX:Ee)(P:abf)(w:abh)(K:aT)(mg:afu)(base:acn)(N:afr)(a:Str)(scope:Scope)(f:aaB)(c:nE)(A:abF)(outer:List Env)(s:ID)(H:Hp)(E:XK):Cx where
 prog:=P
 w:=w
 K:=K
 mg:=mg
 base:=base
 A:=A.deeper<|ac4 a scope s.heap.objs.size f c
 N:=N
 s₀:=s
 H₀:=H
 env:=ac4 a scope s.heap.objs.size f c
 outer:=outer
 stack:=ac4 a scope s.heap.objs.size f c::outer
 ex:=[]
 calm:=G
 fn:=fun _=>G
 pn:=[]
 xe:=fun e s'=>aaN (aaO P w) (A.deeper<|ac4 a scope s.heap.objs.size f c) (leaving (ac4 a scope s.heap.objs.size f c) e) (fun _ b=>CX outer H s E e b) (fun d b=>CX outer H s E d b) s'
theorem yd{a:Scope}(h:a.names.lookup x=J .cell):∃c,(cellsFrom n a.names []).lookup x=J c:=by
 have q:=acs a.names n []<|.inl h;exact acd.mp q
theorem oQ{K:aT}
  (S:FnScope N ps scope) (hd:A.handled=U) (e0:Env0 P w K mg base A outer s H) (D:vs.length=ps.length) (r:aU vs us)
  (x:InCallC s s.heap.objs.size (bindL (ac4 qual scope s.heap.objs.size f cd).kindOf (ps.zip us) fun _=>U) (cellsFrom (s.heap.objs.size+1) scope.names []) (bindC (ac4 qual scope s.heap.objs.size f cd).kindOf (ps.zip us) fun _=>U) s1):
  Inv (gw CX P w K mg base N qual scope f cd A outer s H E) [] (start N vs) H s1:=by
 have t:ps.length<=N.length:=by have:=afp acR S.pre;rw[List.length_take]at this;lia
 obtain⟨h1,B,rfl,n⟩:=x.done;have g:∀b:aaB,b∉(gw CX P w K mg base N qual scope f cd A outer s H E).ex:=fun b z=>absurd (show b∈([]:afv)from z) ∅;refine⟨⟨e0.mod,S.kind,rfl,rfl,mK _,fun y z c h1 h2=>?_,fun y d=>?_,fun y c _ h=>?_,fun _=>hd,Around.frames_deeper e0.frames,.inr ⟨rfl,rfl⟩,fun b z=>absurd z<|g b,e0.bs,e0.bsz,fun b _ _=>g b,fun b z=>absurd z<|g b,e0.funs,e0.frf⟩,
  rfl,e0.bare,Un.kept n,⟨_,x.toInCall.ns,fun i y v h1 h2 C=>?_⟩,fun y c h=>⟨_,x.cell y c h⟩,e0.hok.fresh (mK _),fun y c h=>?_,fun p j=>absurd (show p∈([]:afs)from j) ∅,e0.hok.kept n,?_,aa2 _⟩
 .exact name_of_addr x.apart (abR h1) (abR h2)
 .have d:scope.names.lookup y=J .cell\/scope.names.lookup y=J .free:=d;rcases d with d|d
  .exact yd d
  .exact absurd rfl (S.nofree _<|abR d)
 .exact ae3 (x.above y c<|abR h)
 .have m:i<vs.length:=by
   unfold start at h2;by_cases m:i<vs.length
   .exact m
   .rw[aaI<|by simpa using m]at h2;rw[ack]at h2;split at h2<;>cases h2
  have o:vs[i]?=J v:=by
   unfold start at h2;rw[aaX<|by simpa using m,aa4]at h2;cases e:vs[i]? with
   |none=>rw[e]at h2;cases h2
   |some a=>rw[e]at h2;cases h2;rfl
  obtain⟨u,hu,rv⟩:=r.get o
  have j:ps[i]?=J y:=by
   rw[<-S.pre,List.getElem?_take_of_lt<|by simp_all];exact h1
  have l:ps.Nodup:=by rw[<-S.pre];exact S.nd.sublist<|List.take_sublist _ _
  refine⟨u,rv,?_⟩;rcases S.par y (Do j)with k|k
  .exact .inl ⟨k,vz l j hu k⟩
  .obtain⟨c,e⟩:=yd k;refine .inr ⟨.inl k,c,e,?_⟩;have q:=x.cell y c e;rw[vG l j hu (by show scope.names.lookup y≠_;rw[k];decide)]at q;exact q
 .exact e0.hok.fresh (ae3<|x.above y c<|abR h)
 .delta start;show _=N.length;mright
theorem NP{K:aT}{C kV j F d D R:nE}
  (lk:K.lookup f=J ⟨R,od,.func<|abi name qual params body scope C kV j F an d D,osl⟩) (p:abP K d qual=G) (S:FnScope N ps scope)
  (len:∀vs H Q E,sp vs H Q E->vs.length=ps.length)
  (h:∀(A:abF)(a:List Env)(s:ID)(H:Hp)(vs:afx)(Q:VK)(E:XK),Room k (A.deeper<|ac4 qual scope s.heap.objs.size f d)->sp vs H Q E ->
   ∃t,IR (gw CX P w K mg base N qual scope f d A a s H E) body t/\t {nx:=fun _ H'=>Q .non H',rt:=Q} (start N vs) H):
  FnOk P w K mg base CX (k+1) f (abi name qual params body scope C kV j F an d D) ps sp:=by
 refine⟨len,fun A a s H B us vs Q E m e0 X r l=>?_⟩;have W:=len _ _ _ _ l;have KX  := e0.mod.kin.keeps fun b o e=>(e0.bs b o e).1;have lim  := e0.mod.nolimit.keeps fun b o e=>(e0.bs b o e).1;have i:∀y∈ps.zip us,scope.names.lookup y.1=J .local\/(scope.names.lookup y.1=J .cell/\((cellsFrom (s.heap.objs.size+1) scope.names []).lookup y.1).isSome=G):=fun⟨n,v⟩hy=>by
  rcases S.par n (aaZ hy).1 with q|q
  .exact .inl q
  .exact .inr ⟨q,acs _ _ _<|.inl q⟩
 refine codeAny_call_function m.depth (KX _ _ lk) rfl S.co S.gen rfl (adK KX p) (X _ _ _ _ ?_);refine wpAny_newFunctionEnv_cells S.kind i fun env T s1 x=>?_;subst T;refine⟨lim.keeps x.toInCall.keep,codeAny_func ?_⟩;obtain⟨t,M,O⟩:=h A a s H vs Q E (m.deeper _) l;have I:Inv (gw CX P w K mg base N qual scope f d A a s H E) [] (start N vs) H s1:=oQ S m.hd e0 W r x;refine aaP (M [] s1 (start N vs) H _ I O) (fun fl s' hs=>?_) fun e s' hs=>hs;have fin:∀{g:St}{H':Hp}{v:V}{u:nE},Inv (gw CX P w K mg base N qual scope f d A a s H E) [] g H' s'->aP v u->Q v H'->CE a P w H s Q u s':=
  fun{g H' v u}c z q=>⟨v,H',c.os,c.bare,c.base,c.hok,z,q⟩
 cases fl with
 |ret u=>
  refine Z33 hs fun v g H' c z q=>?_;exact fin c z q
 |next=>
  obtain⟨g,H',c,q⟩:=hs;exact fin (v:=V.non) c rfl q
 |brk=>
  obtain⟨_,_,_,q⟩:=hs;exact abD q
 |cont=>
  obtain⟨_,_,_,q⟩:=hs
  exact abD q
section
variable{p pos:Pos}{id:String}
def RD(r:afx->Hp->VK->Prop)(t:TA):TE:=fun Z H Q=>t Z H fun vs H1=>r vs H1 Q
theorem GF(j:bI X (.builtin id) r)(f:Gl X x)(c:X.mg x=U)(n:aaT x=J (.builtin id))(m:PA X (e::es) t)(k:autoParam (x≠"__name__") Xax)(a:autoParam (afz x) Xax)
  (l:autoParam (abb (e::es) X.env=(η,eval e X.env)::abb es X.env) Xaz) (b:autoParam ((adz pos<|abb es X.env).any (·.1)=η) Xaz):PE X (.Call (.Name x p) (e::es) [] pos)<|RD r t:=by
 intro aa s Z H Q I h;refine abc<|tw I f c n ?_ k a;exact PyProof.Rows.callWith_builtin1 (bP (m pos aa s Z H _ I h) fun us i g=>jZ g fun vs H1 d r1 q1=>j aa i Z H1 vs us Q d r1 q1) l b
theorem Dw(j:bI X (.type T) r)(f:Gl X x)(c:X.mg x=U)(n:aaT x=J (.type T))(m:PA X (e::es) t)(k:autoParam (x≠"__name__") Xax)(a:autoParam (afz x) Xax)
  (l:autoParam (abb (e::es) X.env=(η,eval e X.env)::abb es X.env) Xaz) (b:autoParam ((adz pos<|abb es X.env).any (·.1)=η) Xaz):PE X (.Call (.Name x p) (e::es) [] pos)<|RD r t:=by
 intro aa s Z H Q I h;refine abc<|tw I f c n ?_ k a;exact acy (bP (m pos aa s Z H _ I h) fun us i g=>jZ g fun vs H1 d r1 q1=>j aa i Z H1 vs us Q d r1 q1) l b
end
end L2
namespace HT
open PySem PyProof.Rows
section
variable{prog:abf}{w:abh}{A:abF}{E:aft}{s:ID}
noncomputable def sIx(n d:Nat):Option Int->Nat
 |none=>d
 |some v=>if v<0 then(v+(n:Int)).toNat else min v.toNat n
theorem rG(n d k:Nat):sIx n d (J (k:Int))=min k n:=by
 rfl
theorem G6(n d:Nat)(hd:d<=n)(o:Option Int):sIx n d o<=n:=by
 cases o with
 |none=>exact hd
 |some v=>
  show(if v<0 then(v+n).toNat else min v.toNat n)<=n
  lia
end
end HT
namespace L2
open PySem PySem.Spec PyProof.Rows
abbrev TO:=St->Hp->(Option Int->Hp->Prop)->Prop
def PO(X:Cx)(e:Option aa1)(t:TO):Prop:=
 ∀(aa:afs)(s:ID)(Z:St)(H:Hp)(Q:Option Int->Hp->Prop),Inv X aa Z H s->t Z H Q ->
  aaN (aaO X.prog X.w) X.A (evalPart e X.env) (fun u s'=>∃o H',Inv X aa Z H' s'/\IsPart u o/\Q o H') X.xe s
def J2:TO:=fun _ H Q=>Q U H
section
variable{lo:Option aa1}
def V2(X:Cx)(r:V->Option Int->Option Int->Hp->VK->Prop):Prop:=
 ∀(aa:afs)(s:ID)(Z:St)(H:Hp)(x:V)(v a c:nE)(lo b:Option Int)(d:aaB)(Q:VK),Inv X aa Z H s->aP x v->s.heap.IsSliceOf d a c .none->IsPart a lo->IsPart c b->r x lo b H Q ->
  ∃T id,typeLookup (.type T) "__getitem__"=pure (J<|.builtin id)/\s.TypeIs v T/\aaN (aaO X.prog X.w) X.A (ae1 v<|.ref d) (EP X aa Z Q) X.xe s
def tSl(r:V->Option Int->Option Int->Hp->VK->Prop)(c:TE)(tl a:TO):TE:=fun Z H Q=>c Z H fun x H1=>tl Z H1 fun l b=>a Z b fun u d=>r x l u d Q
end
noncomputable def C5(n:Nat)(i:Int):Option Nat:=if 0<=i then(if i<n then J i.toNat else U)else if -(n:Int)<=i then J (i+n).toNat else U
def atI{α:Type}(xs:List α)(i:Int):Option α:=(C5 xs.length i).bind fun j=>xs[j]?
theorem Br(h:C5 n i=J j):seqIndex? i n=J j/\j<n/\-(n:Int)<=i/\i<n:=by
 delta C5 at h;by_cases a:0<=i
 .rw[afk a]at h;by_cases h1:i<n
  .rw[afk h1]at h;have e  := acw h;exact⟨by rw[seqIndex_of a h1,e],⊥,⊥,h1⟩
  mright
 .rw[afl a]at h;by_cases h1:-n<=i
  .rw[afk h1]at h;have e  := acw h;exact⟨by rw[seqIndex_neg (by mright) h1,e],⊥,h1,⊥⟩
  mright
theorem xl{xs:List α}{v:α}(h:atI xs i=J v):∃j,seqIndex? i xs.length=J j/\xs[j]?=J v/\j<xs.length/\-(xs.length:Int)<=i/\i<xs.length:=by
 delta atI at h;cases e:C5 xs.length i with
 |none=>rw[e]at h;nofun
 |some j=>
  rw[e]at h;obtain⟨h1,h2,h3,h4⟩:=Br e
  exact⟨j,h1,h,h2,h3,h4⟩
theorem xu{xs:List α}{j:Nat}{v:α}(h:xs[j]?=J v):atI xs (j:Int)=J v:=by
 have hj  := (rW.mp h).1;have e:C5 xs.length j=J j:=by
  delta C5;mright
 delta atI;rw[e];exact h
def rh(b:aa1):Prop:=∀o i,subscripted b η o i=operate [o,i] (ae1 o i)
def DX(X:Cx)(r:R2):Prop:=
 ∀(value a:aa1)(aa:afs)(s:ID)(Z:St)(H:Hp)(x y:V)(v u:nE)(Q:VK),Inv X aa Z H s->aP x v->aP y u->r x y H Q ->
  subscripted a η v u=operate [v,u] (ae1 v u)->aaN (aaO X.prog X.w) X.A (subscriptTail value a v u) (EP X aa Z Q) X.xe s
def VG(X:Cx)(id:String)(r:V->afx->Hp->VK->Prop):Prop:=
 ∀(aa:afs)(s:ID)(Z:St)(H:Hp)(x:V)(xs:afx)(v:nE)(us:afw)(Q:VK),Inv X aa Z H s->aP x v->aU xs us->r x xs H Q ->
  aaN (aaO X.prog X.w) X.A (call (.builtin id)<|v::us) (EP X aa Z Q) X.xe s
section
variable{X:Cx}{a b:aa1}{ta tb:TE}{pos:Pos}
theorem DX.or(h:DX X r)(h':DX X r'):DX X (fun x y H Q=>r x y H Q\/r' x y H Q):=by
 intro value a aa s Z H x y v u Q I c b q hs;rcases q with q|q
 .exact h value a aa s Z H x y v u Q I c b q hs
 .exact h' value a aa s Z H x y v u Q I c b q hs
def U6(K:aT):R2:=fun x y H Q=>∃p xs i v,x=.ref p/\y=.int i/\gr K H p xs/\atI xs i=J v/\Q v H
def U8(K:aT):R2:=fun x y H Q=>∃p xs i v,x=.ref p/\y=.int i/\m7 K H p xs/\atI xs i=J v/\Q v H
def XB:R2:=fun x y H Q=>∃z i c,x=.str z/\y=.int i/\z.length<=aaL/\atI z.cps.toList i=J c/\Q (.str ⟨#[c]⟩) H
theorem LM:DX X<|U6 X.K:=by
 intro value a aa s Z H x y v u Q I f e h hs;left;obtain⟨p,xs,i,z,rfl,rfl,c,d,q⟩:=h;subst f;obtain⟨t,rfl⟩:=e;obtain⟨aV,r,pl,hz⟩:=I.list c
 refine Z15 (xl d) fun j h1 h2 h3 h4 h5=>?_
 obtain⟨w,ew,rw'⟩:=r.get h2
 have k:=r.length;have g:=pM;have fin:EP X aa Z Q w s:=⟨z,H,I,rw',q⟩;by_cases b:0<=i
 .right;have hj  := by
   rw[seqIndex_of b h5]at h1;exact acw h1
  exact item_listR pl.isList b ⊥ (by mright) fin hs
 .right;have hj:(i+aV.toArray.size).toNat=j:=by
   rw[seqIndex_neg ⊥ h4]at h1
   mright
  exact subscriptTail_builtinR pl.isList.typeIs slot_list_getitem.lookup
   (wpAny_getItem_list_neg pl.isList ⊥ (by mright) ⊥ (by mright) ⟨rfl,fin⟩) hs
theorem Qj:DX X<|U8 X.K:=by
 intro value a aa s Z H x y v u Q I e d h hs;left;obtain⟨p,xs,i,z,rfl,rfl,b,c,q⟩:=h;subst e;obtain⟨t,rfl⟩:=d;obtain⟨aV,r,pl,hz⟩:=I.tuple b
 refine Z15 (xl c) fun j h1 h2 h3 h4 h5=>?_
 obtain⟨w,ew,rw'⟩:=r.get h2
 right;have g:=r.length;have f:=pM;have fin:EP X aa Z Q w s:=⟨z,H,I,rw',q⟩;exact subscriptTail_builtinR pl.typeIs slot_tuple_getitem.lookup
  (getItem_tuple (j:=j) pl ⊥ ⊥ (by mright) (by simpa using ew) ⟨rfl,fin⟩) hs
def rIx(K:aT):R2:=fun x y H Q=>U6 K x y H Q\/U8 K x y H Q\/XB x y H Q
theorem OP:DX X<|rIx X.K:=LM.or (Qj.or (by
  intro value a aa s Z H x y v u Q I e d h hs;left;obtain⟨z,i,c,rfl,rfl,f,b,q⟩:=h;obtain⟨t,rfl⟩:=e;obtain⟨t',rfl⟩:=d;refine Z15 (xl b) fun j h1 h2 h3 h4 h5=>?_
  right;have k:z.cps.toList.length=z.length:=by rfl
  have g:=pM;exact tail_any (typeIs_str s z t) slot_str_getitem.lookup (getItem_str (by
   lia) (by mright) ⟨.str ⟨#[c]⟩,H,I.tok _,⟨_,rfl⟩,q⟩) hs))
def ic:V->Bool
 |.non=>G
 |.bl _=>G
 |.int _=>G
 |.str _=>G
 |_=>η
noncomputable def Mj:V->V->Bool
 |.non,.non=>G
 |.bl a,.bl b=>a==b
 |.bl a,.int b=>(if a then 1 else 0)==b
 |.int a,.bl b=>a==(if b then 1 else 0)
 |.int a,.int b=>a==b
 |.str a,.str b=>a==b
 |_,_=>η
theorem QK(d:aP y u)(c:aP x v)(f:ic y=G)(e:ic x=G):SeqAt.EqAt A s u v<|Mj y x:=by
 cases y with
 |non=>
  cases d;cases x with
  |non=>subst c;exact afa _
  |bl b=>subst c;exact SeqAt.EqAt.none_bool b
  |int b=>obtain⟨t,rfl⟩:=c;exact aev b t
  |str b=>obtain⟨t,rfl⟩:=c;exact aew b t
  |_=>exact absurd (show η=G from e) MK
 |bl a=>
  subst d;cases x with
  |non=>subst c;exact SeqAt.EqAt.bool_none a
  |bl b=>subst c;exact SeqAt.EqAt.bool_bool a b
  |int b=>obtain⟨t,rfl⟩:=c;exact SeqAt.EqAt.bool_int a b t
  |str b=>obtain⟨t,rfl⟩:=c;exact SeqAt.EqAt.bool_str a b t
  |_=>exact absurd (show η=G from e) MK
 |int a=>
  obtain⟨t',rfl⟩:=d;cases x with
  |non=>subst c;exact aet a t'
  |bl b=>subst c;exact SeqAt.EqAt.int_bool a t' b
  |int b=>obtain⟨t,rfl⟩:=c;exact SeqAt.EqAt.int_int a t' b t
  |str b=>obtain⟨t,rfl⟩:=c;exact aeE a t' b t
  |_=>exact absurd (show η=G from e) MK
 |str a=>
  obtain⟨t',rfl⟩:=d;cases x with
  |non=>subst c;exact aeu a t'
  |bl b=>subst c;exact SeqAt.EqAt.str_bool a t' b
  |int b=>obtain⟨t,rfl⟩:=c;exact aeF a t' b t
  |str b=>obtain⟨t,rfl⟩:=c;exact SeqAt.EqAt.str_str a t' b t
  |_=>exact absurd ((e)) MK
 |_=>exact absurd ((f)) MK
def AJ(x:V)(u:nE):Bool:=match u with
 |.none=>Mj .non x
 |.bool b=>Mj (.bl b) x
 |.int i _=>Mj (.int i) x
 |.str z _=>Mj (.str z) x
 |_=>η
theorem Jd(r:aP y u)(f:ic y=G):AJ x u=Mj y x:=by
 cases y with
 |non=>subst r;rfl
 |bl b=>subst r;rfl
 |int i=>obtain⟨t,rfl⟩:=r;rfl
 |str z=>obtain⟨t,rfl⟩:=r;rfl
 |_=>exact absurd ((f)) MK
theorem nQ:∀{xs:afx}{us:afw},aU xs us->xs.all ic=G->us.any (AJ x)=xs.any fun y=>Mj y x
 |_,_,.nil,_=>rfl
 |y::xs,u::us,.cons r t,f=>by
  rw[aa5,oR]at f;rw[aeH,aeH,Jd r f.1,nQ t f.2]
theorem kt(b:aP x v)(c:ic x=G):∀{xs:afx}{us:afw},aU xs us->xs.all ic=G->∀u∈us,SeqAt.EqAt A s u v (AJ x u)
 |_,_,.nil,_=>fun u a=>by cases a
 |y::xs,u::us,.cons r t,f=>fun d a=>by
  rw[aa5,oR]at f;rcases eQ.mp a with rfl|a
  .rw[Jd r f.1];exact QK r b f.1 c
  .exact kt b c t f.2 d a
def Eh(x:V)(xs:afx):Bool:=xs.any fun y=>Mj y x
def Z3(K:aT)(a:Bool):R2:=fun x y H Q=>∃p xs,y=.ref p/\(gr K H p xs\/m7 K H p xs)/\ic x=G/\xs.all ic=G/\Q (.bl<|if a then !Eh x xs else Eh x xs) H
theorem Dh:eJ X (aaY .In)<|Z3 X.K η:=by
 intro aa s Z H x y v u Q I c e h;refine Z25 h fun p xs r0_ a b fs q=>?_;subst r0_;subst e;rcases a with a|a
 .obtain⟨aV,r,pl,d⟩:=I.list a
  refine SeqAt.in_listAt (AJ x) pl.isList (fun w hw=>kt c b r fs w<|by simpa using hw) ⟨.bl _,H,I,rfl,?_⟩;rw[show aV.toArray.any (AJ x)=aV.any (AJ x) by simp,nQ r fs];exact q
 .obtain⟨aV,r,pl,d⟩:=I.tuple a;refine SeqAt.in_tupleAt (AJ x) pl (fun w hw=>kt c b r fs w<|by simpa using hw) ⟨.bl _,H,I,rfl,?_⟩;rw[show aV.toArray.any (AJ x)=aV.any (AJ x) by simp,nQ r fs];exact q
theorem wn:eJ X (aaY .NotIn)<|Z3 X.K G:=by
 intro aa s Z H x y v u Q I c e h;refine Z25 h fun p xs r0_ a b fs q=>?_;subst r0_;subst e;rcases a with a|a
 .obtain⟨aV,r,pl,d⟩:=I.list a
  refine SeqAt.notIn_listAt (AJ x) pl.isList (fun w hw=>kt c b r fs w<|by simpa using hw) ⟨.bl _,H,I,rfl,?_⟩;rw[show aV.toArray.any (AJ x)=aV.any (AJ x) by simp,nQ r fs];exact q
 .obtain⟨aV,r,pl,d⟩:=I.tuple a;refine SeqAt.notIn_tupleAt (AJ x) pl (fun w hw=>kt c b r fs w<|by simpa using hw) ⟨.bl _,H,I,rfl,?_⟩;rw[show aV.toArray.any (AJ x)=aV.any (AJ x) by simp,nQ r fs];exact q
theorem xq:bI X (.builtin "len") (fun xs H Q=>∃p ys,xs=[.ref p]/\(gr X.K H p ys\/m7 X.K H p ys)/\Q (.int ys.length) H):=by
 intro aa s Z H xs us Q I r h;obtain⟨p,ys,rfl,b,q⟩:=h;obtain⟨u,rfl,c⟩:=jV r;subst c;have d:=pM;rcases b with b|b
 .obtain⟨aV,r',pl,hz⟩:=I.list b
  have a:=r'.length;exact Calls.call_len_list pl.isList (by simp only[abG]<;>lia) ⟨.int ys.length,H,I.tok _,⟨s.toks+1,by mright⟩,q⟩
 .obtain⟨aV,r',pl,hz⟩:=I.tuple b
  have a:=r'.length;exact len_tuple pl (by simp only[abG]<;>lia) ⟨.int ys.length,H,I.tok _,⟨s.toks+1,by mright⟩,q⟩
theorem wz:bI X (.builtin "len") (fun xs H Q=>∃z,xs=[.str z]/\z.length<=aaL/\Q (.int z.length) H):=by
 intro aa s Z H xs us Q I r h;obtain⟨z,rfl,a,q⟩:=h;obtain⟨u,rfl,t,rfl⟩:=jV r;have b:=pM;exact len_str ⊥ ⟨.int z.length,H,I.tok _,⟨_,rfl⟩,q⟩
theorem bI.or(h:bI X f r)(h':bI X f r'):bI X f (fun xs H Q=>r xs H Q\/r' xs H Q):=by
 intro aa s Z H xs us Q I rs q;rcases q with q|q
 .exact h aa s Z H xs us Q I rs q
 .exact h' aa s Z H xs us Q I rs q
theorem uq:bI X (.type "tuple") (fun xs H Q=>∃p ys,xs=[.ref p]/\((gr X.K H p ys/\∀l,H l=U->Q (.ref l) (br H l<|.tup ys))\/(m7 X.K H p ys/\Q (.ref p) H))):=by
 intro aa s Z H xs us Q I r h;obtain⟨p,ys,rfl,h⟩:=h;obtain⟨u,rfl,g⟩:=jV r;subst g;rcases h with⟨a,q⟩|⟨a,q⟩
 .obtain⟨aV,r',pl,hz⟩:=I.list a
  have c:=r'.length;refine call_tuple_list pl.isList (fun h' f=>?_) (by mright);have I1  := I.kept f;have d:Inv X aa Z (br H h'.objs.size<|.tup ys) {s with heap:=h'.push {cls:=.type "tuple",data:=.seq aV.toArray}}:=
   I1.laid (fun b o e=>iN _ e) (mK _) ((⟨hz,aV,r',IsTup.new _ _⟩))
  exact⟨.ref h'.objs.size,_,d,rfl,q _<|I1.hok.fresh<|mK _⟩
 .obtain⟨aV,r',pl,hz⟩:=I.tuple a
  exact call_tuple_same pl ⟨.ref p,H,I,rfl,q⟩
def KU(K:aT)(T:String)(x:V)(H:Hp):Prop:=match x with
 |.str _=>T="str"
 |.int _=>T="int"
 | .ref p=>(T="list"/\∃ xs,gr K H p xs)\/(T="tuple"/\∃ o,K.lookup p=J o/\o.cls=.type "tuple"/\o.dict=U) \/
   (T="dict"/\((∃a,H p=J (.dK a))\/∃a,H p=J (.dT a)))\/(T="set"/\∃S n,H p=J (.set S n))
 |_=>False
theorem Fo{Z:St}(I:Inv X aa Z H s)(r:aP x v)(d:KU X.K T x H):
  s.TypeIs v T/\∀a,v=.ref a->∃h,s.heap.get? a=J h/\h.dict=U:=by
 cases x with
 |str z=>
  obtain⟨t,rfl⟩:=r;cases((d));exact⟨typeIs_str s z t,fun _ e=>nomatch e⟩
 |int i=>
  obtain⟨t,rfl⟩:=r;cases((d));exact⟨typeIs_int s i t,fun _ e=>nomatch e⟩
 |ref p=>
  subst r;rcases d with⟨rfl,xs,j⟩|⟨rfl,o,b,k,hd⟩|⟨rfl,b⟩|⟨rfl,S,n,b⟩
  .obtain⟨aV,_,pl,_⟩:=I.list j
   refine⟨pl.isList.typeIs,fun a e=>?_⟩;cases e;refine Z24 pl fun o n e c hd _=>?_
   exact⟨o,e,hd⟩
  .refine⟨⟨o,I.kIn p o b,k⟩,fun a e=>?_⟩;cases e;exact⟨o,I.kIn _ o b,hd⟩
  .have z:∃o,s.heap.get? p=J o/\o.ExactDict:=by
    rcases b with⟨f,b⟩|⟨f,b⟩
    .obtain⟨_,_,_,_,o,_,_,e,ex,_⟩:=I.hok p _ b;exact⟨o,e,ex⟩
    .obtain⟨_,_,_,_,o,_,_,e,ex,_⟩:=I.hok p _ b;exact⟨o,e,ex⟩
   obtain⟨o,e,ex⟩:=z
   refine⟨⟨o,e,ex.1⟩,fun a g=>?_⟩;cases g;exact⟨o,e,ex.2.1⟩
  .obtain⟨o,_,_,_,e,ex,_⟩:=I.hok p _ b;refine⟨⟨o,e,ex.1⟩,fun a g=>?_⟩;cases g;exact⟨o,e,ex.2.1⟩
 |_=>exact abD d
def T4(K:aT)(T:String)(r:V->afx->Hp->VK->Prop)(a:TE):TE:=fun Z H Q=>a Z H fun x H1=>KU K T x H1/\r x [] H1 Q
def Yd(K:aT)(T:String)(r:V->afx->Hp->VK->Prop)(a:TE)(t:TA):TE:=fun Z H Q=>a Z H fun x H1=>KU K T x H1/\t Z H1 fun xs b=>r x xs b Q
variable{apos cpos:Pos}{id:String}
theorem Rm(e:PlainAttrs T)(c:Slot T name id)(d:typeOf (.builtin id)=pure (.type "method_descriptor"))(g:VG X id r)(f:PE X o to)
  (a:autoParam (aaF o name X.env (eval o X.env)=eval o X.env) Xaz) (b:autoParam ((apos.endLine==cpos.line)=G) Xaz):PE X (.Call (.Attribute o name apos) [] [] cpos)<|T4 X.K T r to:=by
 intro aa s Z H Q I h;refine wpAny_Call_method0_late a b<|bP (f aa s Z H _ I h) ?_;rintro v s1⟨x,H1,I1,r1,ty,q1⟩;let⟨h1,h2⟩:=Fo I1 r1 ty
 exact⟨T,id,e,c,d,h1,h2,abW rfl (aex<|g aa s1 Z H1 x [] v [] Q I1 r1 .nil q1)⟩
theorem TB(n:PlainAttrs T)(c:Slot T name id)(g:typeOf (.builtin id)=pure (.type "method_descriptor"))(j:VG X id r)(p:PE X o to)(q:PA X (e::es) t)
  (b:autoParam (aaF o name X.env (eval o X.env)=eval o X.env) Xaz)
  (d:((adz cpos<|abb (e::es) X.env).all (fun x=>!x.1)&&(backToKw cpos<|adB [] X.env).all (fun x=>x.1.isSome)
   && decide ((e::es).length+([]:List aeD).length+(if([]:List aeD).isEmpty then 0 else 1)<30))=G:=by rfl)
  (a:autoParam ((apos.endLine==cpos.line)=G) Xaz) (hs:autoParam (abb (e::es) X.env=(η,eval e X.env)::abb es X.env) Xaz) (f:autoParam ((adz cpos<|abb es X.env).any (·.1)=η) Xaz):
  PE X (.Call (.Attribute o name apos) (e::es) [] cpos) (Yd X.K T r to t):=by
 intro aa s Z H Q I h;refine wpAny_Call_method_late b d a rfl (bP (p aa s Z H _ I h) fun v s1 q_=>Z24 q_ fun x H1 I1 r1 ty q1=>?_);obtain⟨h1,h2⟩:=Fo I1 r1 ty
 refine⟨T,id,n,c,g,h1,h2,?_⟩;have i:=q cpos aa s1 Z H1 _ I1 q1;rw[hs]at i⊢;refine abW ⊤<|acJ ?_;exact bP i fun us u k=>jZ k fun vs m l r2 q2=>j aa u Z m x vs v us Q l r1 r2 q2
end
def XD(X:Cx)(id:String)(r:V->afx->Hp->VK->Prop):Prop:=
 ∀(aa:afs)(s:ID)(Z:St)(H:Hp)(x:V)(xs:afx)(v:nE)(us:afw)(Q:VK),Inv X aa Z H s->aP x v->aU xs us->r x xs H Q ->
  aaN (aaO X.prog X.w) X.A (call (.builtin id)<|v::us) (EP X aa Z Q) X.xe s
theorem aU.one:∀{x:V}{us:afw},aU [x] us->∃u,us=[u]/\aP x u
 |_,_,.cons r .nil=>⟨_,rfl,r⟩
theorem aU.zero:∀{us:afw},aU [] us->us=[]
 |_,.nil=>rfl
theorem aU.dropLast(h:aU xs us):aU xs.dropLast us.dropLast:=by
 induction h with
 |nil=>exact .nil
 |cons r t a=>
  cases t with
  |nil=>exact .nil
  |cons q t'=>exact .cons r a
theorem aU.eraseIdx:∀{xs:afx}{us:afw}(i:Nat),aU xs us->aU (xs.eraseIdx i) (us.eraseIdx i)
 |_,_,_,.nil=>.nil
 |_,_,0,.cons _ t=>t
 |_,_,i+1,.cons r t=>.cons r<|aU.eraseIdx i t
theorem uI{α:Type}:∀(l:List α)(i:Nat),(l.eraseIdx i).length<=l.length
 |[],_=>mK _
 |_::_,0=>Nat.le_succ _
 |_::r,i+1=>ad1<|uI r i
section
variable{Z:St}
theorem Inv.lset{aV its':afw}(I:Inv X aa Z H s)(d:H l=J (.lst xs))
  (e:s.heap.get? l=J {cls:=.type "list",data:=.seq aV.toArray n}) (a:f aV.toArray=its'.toArray) (c:aU ys its') (g:ys.length<=aaL) (i:autoParam (X.tn<=t') Xbz):
  Inv X aa Z (br H l<|.lst ys) {s with heap:=s.heap.update l<|Obj.mapSeq f,toks:=t'}:=by
 have q:=PySem.IsL.update e f;rw[a]at q;refine I.write (by rw[d];exact trivial) (.inl rfl) (fun j u h b=>(abX s.heap (Obj.mapSeq f)<|aci h).trans b) ⟨_,q⟩ ?_;exact⟨g,its',_,c,q⟩
theorem Inv.lstM(I:Inv X aa Z H s)(a:H l=J (.lst xs)):xs.length<=aaL/\∃(aV:afw)(n:Nat),aU xs aV/\xs.length=aV.length/\s.heap.get? l=J {cls:=.type "list",data:=.seq aV.toArray n}:=by
 obtain⟨z,aV,n,r,e⟩:=I.hok l _ a;exact⟨z,aV,n,r,r.length,e⟩
end
section
def nj:V->afx->Hp->VK->Prop:=fun x vs H Q=>∃l xs y,x=.ref l/\vs=[y]/\H l=J (.lst xs)/\xs.length<aaL/\Q .non (br H l<|.lst<|xs++[y])
theorem gq:XD X "list.append" nj:=by
 intro aa s Z H x vs v us Q I c b h;left;obtain⟨l,xs,y,rfl,rfl,a,d,q⟩:=h;subst c;obtain⟨u,rfl,ru⟩:=b.one;obtain⟨z,aV,n,r,hl,e⟩:=I.lstM a
 right;refine call_meets F.slot_list_append ⟨_,e,rfl⟩ F.entry_list_append (F.args_list_append_2 _ _) (PySem.list_append l aV.toArray n u<|by mright) ⟨e,?_⟩;refine⟨.non,_,I.lset a e ∅ (r.append<|.cons ru .nil) ?_,rfl,q⟩
 grind
def Pi:V->afx->Hp->VK->Prop:=fun x vs H Q=>∃l xs y,x=.ref l/\vs=[]/\H l=J (.lst xs)/\xs[xs.length-1]?=J y/\Q y (br H l<|.lst xs.dropLast)
theorem wN:XD X "list.pop" Pi:=by
 intro aa s Z H x vs v us Q I g f h;left;obtain⟨l,xs,y,rfl,rfl,c,d,q⟩:=h;subst g;have a:=f.zero;subst a;obtain⟨z,aV,n,r,hl,e⟩:=I.lstM c
 obtain⟨u,hu,ru⟩:=r.get d
 right;have b:aV.toArray[aV.toArray.size-1]?=J u:=by
  mright
 refine call_meets F.slot_list_pop ⟨_,e,rfl⟩ F.entry_list_pop (F.args_list_pop_1 _) (MeetsSeq.list_pop_last l aV.toArray n u b<|by mright) ⟨e,?_⟩;refine⟨y,_,I.lset c e ?_ r.dropLast ?_,ru,q⟩
 .simp
 grind
def GV:V->afx->Hp->VK->Prop:=fun x vs H Q=>∃l xs i k y,x=.ref l/\vs=[.int i]/\H l=J (.lst xs)/\-(2^63)<=i/\i<2^63/\seqIndex? i xs.length=J k/\xs[k]?=J y/\Q y (br H l<|.lst<|xs.eraseIdx k)
theorem Hf:XD X "list.pop" GV:=by
 intro aa s Z H x vs v us Q I j d h;left;obtain⟨l,xs,i,k,y,rfl,rfl,b,h1,h2,f,c,q⟩:=h;subst j;obtain⟨u,rfl,ru⟩:=d.one;obtain⟨t,rfl⟩:=ru;obtain⟨z,aV,n,r,g,e⟩:=I.lstM b;obtain⟨w,hw,a⟩:=r.get c;right;refine call_meets F.slot_list_pop ⟨_,e,rfl⟩ F.entry_list_pop (F.args_list_pop_2 _ _)
  (MeetsSeq.list_pop_at l aV.toArray n i t k w (fitsIndex_both h1 h2) (by rw[abG,<-g];exact f) (by rw[<-Array.getElem?_toList];exact hw)<|by rw[abG];mright) ⟨e,?_⟩
 refine⟨y,_,I.lset (its':=aV.eraseIdx k) b e ?_ (r.eraseIdx k) ?_,a,q⟩
 .show aV.toArray.eraseIdxIfInBounds k=(aV.eraseIdx k).toArray;rw[List.eraseIdxIfInBounds_toArray]
 .have:=uI xs k
  lia
end
section
set_option maxRecDepth 100000 in
end
section
variable{κ:Type}[DecidableEq κ]
noncomputable def gN(a:List<|κ×V)(k:κ):Option V:=(a.find? fun kv=>decide (kv.1=k)).map (·.2)
noncomputable def tf(a:List<|κ×V)(k:κ)(v:V):List<|κ×V:=
 if(a.any fun kv=>decide (kv.1=k))=G then a.map (fun kv=>if kv.1=k then(kv.1,v)else kv)else a++[(k,v)]
theorem cQ{p:κ×V}{r:List<|κ×V}{k:κ}(e:p.1=k):gN (p::r) k=J p.2:=by simp[gN,abS,e]
theorem cK{p:κ×V}(e:¬p.1=k):gN (p::r) k=gN r k:=by simp[gN,abS,e]
theorem sQ(k:κ):∀kvs:List<|κ×V,(kvs.any fun kv=>decide (kv.1=k))=(gN kvs k).isSome
 |[]=>rfl
 |p::r=>by
  rw[aeH];by_cases e:p.1=k
  .rw[cQ e,afn e,Bool.true_or,Option.isSome_some]
  .rw[cK e,afm e];exact sQ k r
theorem yH(k j:κ)(y:V):∀kvs:List<|κ×V,gN (kvs.map fun kv=>if kv.1=k then(kv.1,y)else kv) j=(gN kvs j).map fun x=>if j=k then y else x
 |[]=>rfl
 |p::r=>by
  have a:=yH k j y r;rw[aaV];by_cases h:p.1=k
  .rw[afk h];by_cases e:p.1=j
   .rw[cQ (p:=(p.1,y)) e,cQ e,ace,afk<|e.symm.trans h]
   .rw[cK (p:=(p.1,y)) e,cK e,a]
  .rw[afl h];by_cases e:p.1=j
   .rw[cQ (p:=p) e,cQ e,ace,afl fun z=>h<|e.trans z]
   .rw[cK (p:=p) e,cK e,a]
theorem uH(k j:κ)(y:V):∀kvs:List<|κ×V,gN kvs k=U->gN (kvs++[(k,y)]) j=if j=k then J y else gN kvs j
 |[],_=>by
  by_cases e:k=j
  .rw[afk e.symm];exact cQ (p:=(k,y)) e
  .rw[afl fun z=>e z.symm];exact cK (p:=(k,y)) e
 |p::r,hn=>by
  rw[ad2];have a:¬p.1=k:=fun z=>by rw[cQ z]at hn;cases hn
  rw[cK a]at hn;have b:=uH k j y r hn;by_cases e:p.1=j
  .rw[cQ e,cQ e,afl fun z=>a<|e.trans z]
  .rw[cK e,cK e,b]
theorem yk(b:List<|κ×V)(k j:κ)(y:V):gN (tf b k y) j=if j=k then J y else gN b j:=by
 delta tf;by_cases a:(b.any fun kv=>decide (kv.1=k))=G
 .rw[afk a,yH];rw[sQ]at a;by_cases e:j=k
  .obtain⟨x,c⟩:=acd.mp a;rw[afk e,e,c,ace,afk rfl]
  .rw[afl e];cases gN b j with
   |none=>rfl
   |some x=>rw[ace,afl e]
 .rw[afl a];refine uH k j y b ?_;rw[sQ]at a;cases q:gN b k with
  |none=>rfl
  |some x=>rw[q]at a;exact(a rfl).elim
theorem zl(a:List<|κ×V)(k:κ)(v:V):(tf a k v).length<=a.length+1:=by
 delta tf
 grind
theorem KV.val(r:KV kvs vs)(k:κ):pE (gN kvs k)<|valueAt vs k:=by
 induction r with
 |nil=>exact abt
 |@cons p q ps qs h t ih=>
  obtain⟨h1,h2⟩:=h
  by_cases e:p.1=k
  .have e'  := h1.symm.trans e;have b:valueAt (q::qs) k=J q.2:=by simp[valueAt,abS,e']
   rw[cQ e,b];exact h2
  .have e':¬q.1=k:=fun z=>e<|h1.trans z;have b:valueAt (q::qs) k=valueAt qs k:=by simp[valueAt,abS,e']
   rw[cK e,b];exact ih
theorem KV.any(r:KV kvs vs)(k:κ):(kvs.any fun kv=>decide (kv.1=k))=vs.any fun kv=>decide (kv.1=k):=by
 induction r with
 |nil=>rfl
 |cons h t a=>mright
theorem KV.repl(r:KV kvs vs)(k:κ)(a:aP y u):
  KV (kvs.map fun kv=>if kv.1=k then(kv.1,y)else kv) (vs.map fun kv=>if kv.1=k then(kv.1,u)else kv):=by
 induction r with
 |nil=>exact .nil
 |@cons p q ps qs h t ih=>
  refine .cons ?_ ih;by_cases e:p.1=k
  .mright
  mright
theorem KV.put(r:KV kvs vs)(k:κ)(a:aP y u):KV (tf kvs k y)<|stored vs k u:=by
 delta tf stored;rw[r.any k];by_cases e:(vs.any fun kv=>decide (kv.1=k))=G
 .rw[afk e,afk e];exact r.repl k a
 .rw[afl e,afl e];exact Paired.snoc r ⟨rfl,a⟩
end
theorem HR(r:aP (kV k) u):(dE P w).is k u=G:=by
 cases k with
 |inl i=>obtain⟨t,e⟩:=((r));subst e;exact(DJ i t)
 |inr x=>obtain⟨t,e⟩:=((r));subst e;exact(D5 x t)
 |nn=>have e  := r;subst e;rfl
theorem vD:∀{a:List Key}{us:afw},aU (a.map kV) us->ItemsAre (dE P w) a us
 |[],_,r=>by cases r;exact .nil
 |k::a,_,r=>by
  cases r with
  |cons h t=>exact .cons (HR h)<|vD t
abbrev KT(H:Hp):List (List Key×V)->List (List Key×aaB×nE)->Prop:=Paired fun p q=>p.1=q.1/\H q.2.1=J (.tup<|p.1.map kV)/\aP p.2 q.2.2
theorem KT.val(r:KT H kvs xs)(k:List Key):pE (gN kvs k)<|(atKey xs k).map (·.2):=by
 induction r with
 |nil=>exact abt
 |@cons p q ps qs h t ih=>
  obtain⟨h1,_,h2⟩:=h
  by_cases e:p.1=k
  .have e'  := h1.symm.trans e;have b:atKey (q::qs) k=J q.2:=by simp[atKey,abS,e']
   rw[cQ e,b];exact h2
  .have e':¬q.1=k:=fun z=>e<|h1.trans z;have b:atKey (q::qs) k=atKey qs k:=by simp[atKey,abS,e']
   rw[cK e,b];exact ih
section
theorem M5(ok:nW P w H h)(e:Rd H a u):fK P w H h a u:=e.ok ok
theorem G9(ok:nW P w H h)(e:Rd H a<|.dK kvs):kvs.length<=aaL/\(a==ada)=η/\∃vs,KV kvs vs/\h.DictOf (dE P w) a vs:=
 (M5 ok e)
theorem Gq(ok:nW P w H h)(e:H a=J (.tup<|ks.map kV)):(tupleKind<|dE P w).is h ks a:=by
 obtain⟨_,aV,r,o,h1,h2,n,b⟩:=((ok a _ e));exact⟨o,aV.toArray,n,h1,h2,b,by simpa using vD r⟩
theorem NC(ok:nW P w H h)(e:Rd H a<|.dT kvs):kvs.length<=aaL/\(a==ada)=η /\
  ∃xs,KT H kvs xs/\h.DictOfH (tupleKind<|dE P w) a xs:=by
 left;obtain⟨z,y,xs,r,o,es,f,h1,h2,d,c,g⟩:=((M5 ok e));right;refine⟨z,y,xs,r,o,es,f,h1,h2,d,c,fun x b=>?_,g⟩;have all:∀{l:List<|List Key×V}{m:List<|List Key×aaB×nE},KT H l m->∀x∈m,(tupleKind<|dE P w).is h x.1 x.2.1:=by
  intro l m q;induction q with
  |nil=>simp
  |@cons p q ps qs hq t ih=>
   intro x b;rcases eQ.mp b with e|b
   .exact Gq ok (by mright)
   .exact ih x b
 exact all r x b
end
def Uk(H:Hp)(a:aaB)(y:V)(r:Option V):Prop:=
 (∃c k,Rd H a (.dK c)/\y=kV k/\r=gN c k)\/∃c k b,Rd H a (.dT c)/\y=.ref b/\H b=J (.tup<|k.map kV)/\r=gN c k
section
variable{Z:St}
theorem Inv.big(I:Inv X aa Z H s):ada<s.heap.objs.size:=by
 have h  := (I.mod.glob.keeps I.bk).lt;exact Nat.lt_trans ∎ h
theorem Dk(m:A.units+1<cLine)(I:Inv X aa Z H s)(g:Uk H a y<|J v)(j:aP y u)(h:∀d s',Inv X aa Z H s'->aP v d->Q d s'):
  aaN (aaO X.prog X.w) A (ae1 (.ref a) u) Q E s:=by
 rcases g with⟨i,k,e,f,l⟩|⟨i,k,b,e,f,n,l⟩
 .subst f;obtain⟨z,hd,vs,rel,dd⟩:=G9 I.hok e
  obtain⟨d,hw,c⟩:=pE.some_of (by rw[l];exact rel.val k);exact wpAny_getItem_of (HR j) dd.mapOf hw<|h d _ (I.tok _) c
 .subst f;cases((j));obtain⟨z,hd,xs,rel,dd⟩:=NC I.hok e
  obtain⟨d,hw,c⟩:=pE.some_of (by rw[l];exact rel.val k);obtain⟨p,hp,hp2⟩:=dO.mp hw
  refine wpAny_getItem_heap (tupleKind_room_in1 m) (Gq I.hok n) dd hp ?_;rw[hp2];exact h d _ (I.tok _) c
theorem Kn(I:Inv X aa Z H s)(c:Sk<|H a)(hs:abj a s.heap h')(d:∃q,h'.get? a=J q)(new:fK X.prog X.w (br H a ob) h' a ob)(f:autoParam (X.tn<=t') Xbz):
  Inv X aa Z (br H a ob) {s with heap:=h',toks:=t'}:=
 I.write c (.inl rfl) (fun b q e z=>(hs.2 b e).trans z) d new
theorem RC(z:kvs.length<=aaL)(hd:(a==ada)=η)(b:KV kvs vs)(dd:h'.DictOf (dE P w) a vs):
  fK P w H' h' a (.dK kvs):=⟨z,hd,vs,b,dd⟩
end
def En(i:aa1):Prop:=∀b a,subscripted i η b a=operate [b,a] (ae1 b a)
theorem BU{T id:String}
  (f:typeLookup (.type T) "__getitem__"=pure (J<|.builtin id)) (hs:En slice)
  (h:aaN (aaO prog w) A (eval value env) (fun o b=>aaN (aaO prog w) A (eval slice env) (fun i s₂=>s₂.TypeIs o T/\aaN (aaO prog w) A (ae1 o i) Q E s₂) E b) E s):
  aaN (aaO prog w) A (eval (.Subscript value slice pos) env) Q E s:=by
 refine Subscript_<|aaP h (fun o b e=>aaP e (fun i s₂ a=>?_) fun _ _ x=>x) fun _ _ x=>x;let⟨hT,a⟩:=a
 refine iF ?_;refine iF<|wpAny_specialOf hT f ?_;have fin:aaN (aaO prog w) A (subscripted slice η o i) (fun r c=>aaN (aaO prog w) A (letTemporaryGo value o r >>= fun _=>pure r) Q E c) E s₂:=by
  rw[hs o i];exact wpAny_operating<|aaP a (fun r c d=>iF<|wpAny_letTemporaryGo<|aaG d) fun _ _ x=>x
 first
  |exact aaG (iF fin)
  |lia
  |lia
def Vh(d c:TE):TE:=fun Z H Q=>d Z H fun x H1=>c Z H1 fun y b=>∃a v,x=.ref a/\Uk b a y (J v)/\Q v b
section
theorem Mh(l:X.A.units+1<cLine)(m:PE X o td)(f:PE X i ty)(hs:En i):PE X (.Subscript o i pos)<|Vh td ty:=by
 intro aa s Z H Q I h;refine BU adQ.lookup hs<|bP (m aa s Z H _ I h) ?_;rintro u s1⟨x,H1,I1,rx,q1⟩;refine bP (f aa s1 Z H1 _ I1 q1) ?_;rintro iv s2⟨y,H2,I2,ry,a,v,ex,g,q2⟩;subst ex;obtain rfl:u=abJ a:=rx;exact⟨(by
   rcases g with⟨c,k,e,_,_⟩|⟨c,k,b,e,_,_,_⟩
   .obtain⟨_,_,vs,_,dd⟩:=G9 I2.hok e
    exact dd.typeIs
   .obtain⟨_,_,xs,_,dd⟩:=NC I2.hok e
    exact dd.typeIs),Dk l I2 g ry fun p n j d=>⟨v,H2,j,d,q2⟩⟩
end
theorem F7(h:acn)(a:ada<h.objs.size):fK P w H (h.push {cls:=.type "dict",data:=.dict #[]}) h.objs.size<|.dK []:=
 ⟨aa2 _,beq_eq_false_iff_ne.mpr<|aci<|aa0 a,[],.nil,Heap.DictOf.new h⟩
def wK:List (TE×TE)->St->Hp->(List (V×V)->Hp->Prop)->Prop
 |[],_,H,Q=>Q [] H
 |(tk,tv)::r,Z,H,Q=>tk Z H fun x H1=>tv Z H1 fun y a=>wK r Z a fun ps b=>Q ((x,y)::ps) b
abbrev VV:List (V×V)->List (nE×nE)->Prop:=Paired fun p q=>aP p.1 q.1/\aP p.2 q.2
def X9(X:Cx)(pos:Pos)(b:List<|Option aa1)(a:List aa1)(Bj:List<|TE×TE):Prop:=
 ∀(aa:afs)(s:ID)(Z:St)(H:Hp)(Q:List (V×V)->Hp->Prop),Inv X aa Z H s->wK Bj Z H Q ->
  aaN (aaO X.prog X.w) X.A (evalPairs<|pairTrees b a X.env pos) (fun vs s'=>∃ps H',Inv X aa Z H' s'/\VV ps vs/\Q ps H') X.xe s
def jA(b more:List<|Key×V):List<|Key×V:=more.foldl (fun a kv=>tf a kv.1 kv.2) b
theorem KV.merge:∀{more:List<|Key×V}{rs:List<|Key×nE}{a:List<|Key×V}{vs:List<|Key×nE},KV more rs->KV a vs->KV (jA a more) (merged vs rs):=by
 intro more rs a vs r;induction r generalizing a vs with
 |nil=>intro q;exact q
 |@cons p q ps qs h t ih=>
  intro r0;have e:KV (tf a p.1 p.2)<|stored vs q.1 q.2:=by
   have:=r0.put p.1 h.2
   rw[<-h.1];exact this
  exact ih e
theorem lY:∀(more a:List<|Key×V),(jA a more).length<=a.length+more.length
 |[],a=>by show a.length<=a.length+0;simp
 |p::r,a=>by
  have h1:=lY r<|tf a p.1 p.2;have h2:=zl a p.1 p.2;show(jA (tf a p.1 p.2) r).length<=_;rw[aaS];lia
theorem sY:∀{d:List<|Key×V}{ws:List<|nE×nE},VV (d.map fun kv=>(kV kv.1,kv.2)) ws->∃rs,Carries (dE P w) ws rs/\KV d rs
 |[],_,r=>by cases r;exact⟨[],abt,.nil⟩
 |p::d,_,r=>by
  cases r with
  |@cons a b as bs h t=>
   obtain⟨rs,c,q⟩:=sY t;obtain⟨b1,b2⟩:=b;exact⟨(p.1,b2)::rs,⟨HR h.1,rfl,c⟩,.cons ⟨rfl,h.2⟩ q⟩
def Tn(Bj:List<|TE×TE):TE:=fun Z H Q=>∀p,H p=U->wK Bj Z (br H p<|.dK []) fun ps a=>a p=J (.dK [])/\∃kvs:List<|Key×V,ps=kvs.map (fun kv=>(kV kv.1,kv.2))/\kvs.length<=15/\Q (.ref p) (br a p<|.dK<|jA [] kvs)
theorem JX(h:X9 X pos keys values Bj)(a:keys.all (·.isSome)=G)(l:keys.length=values.length)(m:keys≠[])
  (d:keys.length<=15):PE X (.Dict keys values pos)<|Tn Bj:=by
 intro aa s Z H Q I q;have i:=I.hok.fresh<|mK s.heap.objs.size;have f:=I.laid (fun _ _ q=>iN _ q) (mK _)<|F7 s.heap I.big;refine wpAny_Dict_walk (knd:=dE X.prog X.w) a l m d<|bP (h aa _ Z _ _ f<|q _ i) ?_;rintro ws s2⟨ps,H2,I2,rel,e,kvs,ep,lk,q2⟩;subst ep;left;obtain⟨rs,c,j⟩:=sY rel;let⟨z,hd,vs0,r0,dd⟩:=(G9 I2.hok<|.inl e)
 cases r0;right;refine⟨rs,c,dd,fun h' b hs=>⟨.ref s.heap.objs.size,_,?_,rfl,q2⟩⟩;have g:(jA [] kvs).length<=aaL:=by
  have h1:=lY kvs [];rw[abz]at h1;rw[abB];lia
 have k:∃q,h'.get? s.heap.objs.size=J q:=let⟨q,_,_,hq,_⟩:=b;⟨q,hq⟩;exact Kn I2 (by rw[e];exact abt) hs k<|RC g hd (j.merge .nil) b
end L2
namespace Att
open PySem PySem.W PySem.Calls PyProof.Rows
theorem qT:∀(ns:List Int)(vs:afw),WellAll P h vs (ns.map WData.int)->IntsAre vs ns:=by
 intro ns;induction ns with
 |nil=>
  intro vs w;rw[adg]at w;cases w;exact .nil
 |cons n ns c=>
  intro vs w;rw[aaV]at w;cases w with
  |cons a b=>
   cases a;exact .cons _ _ (c _ b)
theorem C6{l:OpenLaw}(t:l.most=J n)
  (c:l.row.toRowW.claim.pre args=G) (k:WellAll P h vals args):
  ∃a vs b,vals=[abJ a]/\args=[WData.list<|b.map WData.int]/\h.get? a=J {cls:=.type "list",data:=.seq vs.toArray}/\IntsAre vs b/\b.length<=n:=by
 have j:WShape.hasAll [] args [.list .int]=G:=(pre_splitW c).1;have m:l.pre.holds [] {args:=args}=G:=(pre_splitW c).2;obtain⟨d,r,rfl,h1,h2⟩:=hasAllW_cons j;obtain rfl:=hasAllW_nil h2;obtain⟨xs,rfl,u⟩:=hasW_list h1;obtain⟨b,rfl⟩:=items_int u;have f:b.length<=n:=by
  delta OpenLaw.pre at m;have g:(WTm.not<|.lt (.lit<|.int (n:Int))<|.len<|.arg 0).holds [] {args:=[.list<|b.map .int]}=G:=by
   have g:=(holds_andW m).1;rw[t]at g;exact g
  have i:=condW_of g<|w_not<|w_lt w_lit<|w_len_list<|w_arg rfl;rw[aaU]at i;refine Nat.le_of_not_lt fun q=>?_;have s:(n:Int)<((b.length:Nat):Int):=by mright
  first
   |(rw[afn s]at i;exact absurd i<|∎)
   |(cases i;lia)
 cases k with
 |cons p o=>
  cases o;cases p with
  |list v e=>exact⟨_,_,b,rfl,rfl,v,qT b _ e,f⟩
theorem yw{l:OpenLaw}
  (M:l.most=J n) (x:d.params.defaults=[])
  (call:∀(w:abh)(s₀ b:ID)(mg y:afu)(i:aaB)(o:Obj)(v m c:nE)(a:aaB)(vs:afw)(k:List Int),
   Ground q loose [] XP w s₀ mg y b.heap->YP w b.heap ->
   b.heap.get? i=J o->o.data=.func (docDef d.name d.params d.body d.scope v m c)->b.heap.CodeRec m d.name->mg d.name=J (.ref i) ->
   b.heap.get? a=J {cls:=.type "list",data:=.seq vs.toArray}->IntsAre vs k->k.length<=n->b.gens=#[] ->
   ad0 (aaO l.prog w) callerA (.call (.ref i) ⟨[.ref a],[]⟩) (fun r s'=>r=.ok (.ret (.bool G))/\OldK b.heap s'.heap/\s'.os=b.os/\AllBare s'.gens) b):
  WalkO q loose XP YP l.row.toRowW d [] (fun f vs=>aeS f vs):=by
 intro w s₀ b mg y Gq0 p i o v m c K kV O hd s z t F args B as g A H u C;obtain rfl:K=.none:=Dflts.none z x;obtain rfl:kV=.none:=Dflts.noKw z;refine Z35 (C6 M g u) fun a vs k r0_ r1_ j e h=>?_;subst r0_ r1_;refine enter_call<|acV (call w s₀ b mg y i o v m c a vs k Gq0 p O (fd_plain hd) s t j e h F) fun r s' I=>?_;obtain⟨rfl,h2,N,E⟩:=I;exact⟨.inl ⟨.bool G,.bool G,[],rfl,fun _=>rfl,.bool G,(fun l args =>  postW_of (r:=l.row.toRowW) (X:=(G==G))
   (show WShape.has [] (.bool G) .bool=G by first|rfl|rfl|omega)
   (show(WTm.eq .res (.lit (.bool G))).value [] {args:=args,res:=J (.bool G),after:=args}=J (.bool (G==G))from w_eq_bool (w_res rfl) w_lit) rfl) l _,fun _=>⟨aeT,fun _ D=>(nomatch D)⟩⟩,h2,N,E⟩
end Att
namespace L2
open PySem PySem.Spec PyProof.Rows
theorem u8:∀{vs:afw}{a:List Int},IntsAre vs a->aU (a.map V.int) vs
 |_,_,.nil=>.nil
 |_,_,.cons n t h=>.cons ⟨t,rfl⟩<|u8 h
theorem Pp{l:List<|aaB×Str}(a:(l.map (·.1)).Nodup)(h:x∈l):l.lookup x.1=J x.2:=by
 induction l with
 |nil=>nofun
 |cons y r b=>
  rw[aaV,aaK]at a;rcases eQ.mp h with rfl|h
  .simp[acx]
  .have n:x.1≠y.1:=fun z=>a.1<|z▸acm h;rw[acx,show(x.1==y.1)=η from by simpa using n];exact b a.2 h
theorem Ae{l:List<|aaB×β}{b:aaB}{q:β}(h:l.lookup b=J q):(b,q)∈l:=by
 induction l with
 |nil=>nofun
 |cons y r a=>
  rw[acx]at h;cbv
  .rename_i e;nofun;rw[show b=y.1 from by simpa using e];exact aax
  .exact ie _ (a h)
theorem IX{K:aT}(h:g6 K p=J x):K.lookup x.1=U/\adl K p.1 x.1=G:=by
 delta g6 at h;cbv
 .cbv
  .cbv
   .rename_i e;nofun;rw[oR]at e;exact⟨by simpa using e.1,e.2⟩
   .nofun
  .nofun
 .nofun
theorem Ie{K:aT}
  (O:K.In s₁.heap) (t:s₁.heap.Ns By mg) (S:s₁.heap.Ns builtinsNs mb) (I:∀x:Str,x≠"__name__"->mb x=aaT x) (C:s₁.heap.NoLimit) (hg:s₁.gens=#[])
  (hT:((K.filterMap<|g6 K).map (·.1)).Nodup/\∀x∈K.filterMap (g6 K),s₁.heap.get? x.1=J (acL #[]))
  (j:s₁.heap.get? a=J {cls:=.type "list",data:=.seq vs.toArray}) (X:IntsAre vs ns) (hl:ns.length<=aaL) (hr:Room k callerA)
  (F:∀base:acn,K.In base->base.Ns By mg->FnOk P w K mg base CX k fa fd [x] sp) (g:∀(s:ID)(u:nE),BindsTo s fd ⟨[u],[]⟩ [(x,u)])
  (Q:∀H:Hp,gr K H a (ns.map V.int)->sp [.ref a] H (fun v _=>v=.bl G) fun _ _ _=>False)
  (M:∀H e s',CX [] H s₁ (fun _ _ _=>False) e s'->False):
  ad0 (aaO P w) callerA (.call (.ref fa) ⟨[.ref a],[]⟩) (fun r s'=>r=.ok (.ret<|.bool G)/\OldK s₁.heap s'.heap/\s'.os=s₁.os/\AllBare s'.gens) s₁:=by
 have rv:=u8 X;have lenV:=X.length;let l:=K.filterMap<|g6 K
 have tab:∀b q,l.lookup b=J q->K.lookup b=U/\s₁.heap.get? b=J (acL #[])/\isCodeTable s₁.heap b:=fun b q e=>by
  have T:=Ae e;obtain⟨p,hp,i⟩:=acv.mp T
  have:=IX i
  have B:=hT.2 _ T;exact⟨this.1,B,((PySem.W.codeHd_of_K O this.2).tab B).isCodeTable⟩
 let H:Hp:=fun b=>match l.lookup b with
  |some q=>J<|.tbl q
  |none=>if b=a/\K.lookup a=U then J (.frz {cls:=.type "list",data:=.seq vs.toArray} (.lst<|ns.map V.int))else U
 have E:∀b u,H b=J u->(∃q,u=.tbl q/\l.lookup b=J q)\/(b=a/\K.lookup a=U/\u=.frz {cls:=.type "list",data:=.seq vs.toArray} (.lst<|ns.map V.int)):=fun b u e=>by
  have y:(match l.lookup b with
   |some q=>J<|.tbl q
   |none=>if b=a/\K.lookup a=U then J (HO.frz {cls:=.type "list",data:=.seq vs.toArray} (.lst (ns.map V.int)))else U)=J u:=e
  split at y
  .cases y;exact .inl ⟨_,rfl,by assumption⟩
  .split at y
   .rename_i h;cases y;exact .inr ⟨h.1,h.2,rfl⟩
   .cases y
 have nk:∀b u,H b=J u->K.lookup b=U:=fun b u e=>by
  rcases E b u e with⟨q,_,e1⟩|⟨rfl,e1,_⟩
  .exact(tab b q e1).1
  .exact e1
 have nl:l.lookup a=U:=by
  cases e:l.lookup a with
  |none=>rfl
  |some q=>have:=(tab a q e).2.1;rw[j]at this;cases this
 have R:nW P w H s₁.heap:=fun b u e=>by
  rcases E b u e with⟨q,rfl,e1⟩|⟨rfl,_,rfl⟩
  .exact⟨#[],(tab b q e1).2.1,trivial,fun pos cv z=>nomatch z⟩
  .exact⟨j,by rw[aaU];exact hl,vs,_,rv,j⟩
 have hS:gr K H a<|ns.map V.int:=by
  cases hk:K.lookup a with
  |some o=>
   have e:=O a o hk;rw[j]at e;cases e;exact .inr ⟨_,vs.toArray,_,hk,rfl,rfl,rfl,by rw[abG,lenV];exact hl,⊤⟩
  |none=>exact .inl<|.inr ⟨{cls:=.type "list",data:=.seq vs.toArray},by show(match l.lookup a with|some q=>_|none=>_)=_;rw[nl];exact afk ⟨rfl,hk⟩⟩
 have c:∀{b:aaB}{o:Obj},s₁.heap.get? b=J o->H b=U->(yU s₁.heap H).get? b=J o:=fun e n=>F1 e n;have N:∀{b:aaB}{o:Obj}{es:Array DictEntry}{D:Nat},s₁.heap.get? b=J o->o.data=.dict es D->H b=U:=fun{b o es D}e d=>by
  cases q:H b with
  |none=>rfl
  |some u=>
   rcases E b u q with⟨q1,_,z⟩|⟨rfl,_,_⟩
   .rw[(tab b q1 z).2.1]at e;cases e;cases d
   .rw[j]at e;cases e;cases d
 have f:∀{b:aaB}{m:afu},s₁.heap.Ns b m->(yU s₁.heap H).Ns b m:=fun{b m} q_=>Z33 q_ fun o es D e d r=>⟨o,es,D,c e<|N e d,d,r⟩;have A:K.In<|yU s₁.heap H:=fun b o e=>c (O b o e) (by
  cases q:H b with
  |none=>rfl
  |some u=>rw[nk b u q]at e;cases e)
 have hM:Mod K mg<|yU s₁.heap H:=⟨A,f t,⟨mb,f S,I⟩,let⟨mc,h1,h2⟩:=C;⟨mc,f h1,h2⟩⟩;have Yu:RJ K H:=fun p hp x e=>by
  have:=Pp hT.1<|acv.mpr ⟨p,hp,e⟩
  show(match l.lookup x.1 with|some q=>_|none=>_)=_
  rw[this]
 have e0:Env0 P w K mg (yU s₁.heap H) callerA [] s₁ H:=⟨rfl,hM,fun b o e=>JH e,Nat.le_of_eq<|(fun h H=>PySem.W.hideAll_size _ _) _ _,trivial,⟨fun b S=>absurd (show b∈([]:afv)from S)<|∅,Yu⟩,R,.of_eq hg⟩;refine acV ((F _ A<|f t).run callerA [] s₁ H ⟨[.ref a],[]⟩ [.ref a] [.ref a] _ _ hr e0 (g s₁<|.ref a) (.cons rfl .nil)<|Q H hS) fun r s' h=>?_;cases r with
 |error e=>exact(M H e s' h).elim
 |ok fl=>
  cases fl with
  |next=>exact abD h
  |brk=>exact abD h
  |cont=>exact abD h
  |ret u=>
   refine Z26 h fun v H' os bare un hok' r' q=>?_
   have q':v=.bl G:=q;subst q';obtain rfl:u=Value.bool G:=r';have key:∀b o,s₁.heap.get? b=J o->asItWas s₁.heap s'.heap b o/\∃o',s'.heap.get? b=J o':=fun b o e=>by
    cases q:H b with
    |none=>
     have:=un.keep b o e q (by intro z;exact absurd (show b∈([]:afv)from z)<|∅) ∅
     exact⟨.inl this,_,this⟩
    |some u=>
     rcases E b u q with⟨z,rfl,e1⟩|⟨rfl,_,rfl⟩
     .obtain⟨ps,i,_⟩:=hok' b _<|un.tbls b _ q;obtain⟨_,B,e4⟩:=tab b _ e1;rw[e]at B;cases B;exact⟨.inr<|.inl ⟨e4,rfl,#[],ps,rfl,by rw[i];simp⟩,_,i⟩
     .obtain⟨i,_⟩:=hok' b _<|un.frzs b _ _ q;rw[e]at j;cases j;exact⟨.inl i,_,i⟩
   exact⟨rfl,⟨fun b o e=>(key b o e).1,fun b o e=>(key b o e).2⟩,os,bare⟩
theorem La{l:ad7}{K:adO->aT}{CX:abh->Ee}{sp:abh->Sp}
  (Q:l.most=J n) (A:n<=aaL) (B:d.params.defaults=[]) (M:Room k callerA)
  (X:∀(w:abh)(h:acn),YP w h->(K w.params).In h)
  (F:∀(w:abh)(mg:afu)(t:aaB)(h:acn),(K w.params).In h->h.Ns By mg->mg d.name=J (.ref t) ->
   ∃fd:abI,(∀(s:ID)(u:nE),BindsTo s fd ⟨[u],[]⟩ [(x,u)]) /\
    ∀base:acn,(K w.params).In base->base.Ns By mg->FnOk l.prog w (K w.params) mg base (CX w) k t fd [x] (sp w))
  (P:∀(w:abh)(h:acn),YP w h->(((K w.params).filterMap<|g6<|K w.params).map (·.1)).Nodup/\∀x∈(K w.params).filterMap (g6<|K w.params),h.get? x.1=J (acL #[]))
  (C:∀(w:abh)(H:Hp)(a:aaB)(r:List Int),r.length<=n->gr (K w.params) H a (r.map V.int)->sp w [.ref a] H (fun v _=>v=.bl G) fun _ _ _=>False)
  (y:∀(w:abh)(H:Hp)(s:ID)(e:nE)(s':ID),CX w [] H s (fun _ _ _=>False) e s'->False):
  PySem.W.WalkO q loose XP YP l.row.toRowW d [] (fun f vs=>aeS f vs):=by
 refine Att.yw Q B fun w s₀ p mg mb t o pm cd N a vs r Gq0 j ho hd O z m i c I=>?_;have D:=X w _ j;obtain⟨fd,S,R⟩:=F w mg t _ D Gq0.T.g z;exact Ie D Gq0.T.g Gq0.T.b Gq0.T.builtins Gq0.T.nolimit I (P w _ j) m i (RW c A) M R S (fun H E=>C w H a r c E) fun H e s'=>y w H p e s'
def jJ(s:abN):Arguments:=match s with
 |.FunctionDef _ a _ _ _ _ _ _ _ _=>a
 |_=>{posonlyargs:=[],args:=[],vararg:=U,kwonlyargs:=[],kw_defaults:=[],kwarg:=U,defaults:=[]}
def bL(s:abN):List abN:=match s with
 |.FunctionDef _ _ b _ _ _ _ _ _ _=>b
 |_=>[]
noncomputable def ai(s:abN):Scope:=match s with
 |.FunctionDef _ _ _ _ _ _ sc _ _ _=>sc
 |_=>{kind:=.function,names:=[],isGenerator:=η,isCoroutine:=η}
abbrev lD:Ee:=fun _ _ _ _ _ _=>False
abbrev E0:XK:=fun _ _ _=>False
theorem NJ:m5 lD X E0:=fun _ _ _ _ _ _ _ h=>h.elim
def Ea(K:aT)(a:nE)(q:Str):Bool:=abP K a q&&(match a with
 |.ref c=>(match K.lookup c with
  |some o=>(g6 K (c,o)).isSome
  |none=>η)
 |_=>η)
theorem tF{K:aT}(h:Ea K cdv q=G):abP K cdv q=G:=(ab7.mp h).1
theorem vO{K:aT}(h:Ea K cdv q=G):∃c P,cdv=.ref c/\adl K c P=G/\∀H,RJ K H->H P=J (.tbl<|q++".<locals>."++"<lambda>"):=by
 obtain⟨h1,h2⟩:=ab7.mp h;split at h2
 .rename_i c;split at h2
  .rename_i o e;obtain⟨x,a⟩:=acd.mp h2
   have:=IX a
   refine⟨c,x.1,rfl,this.2,fun H t=>?_⟩;rw[t _ (Ae e) x a];delta g6 at a;split at a
   .rename_i vs hd;split at a
    .rename_i q' tk P e1 e2;split at a
     .cases a;delta abP at h1;dsimp only at h1;rw[e]at h1;split at h1
      .rename_i vs' _ ho;cases ho;cases hd;split at h1
       .rename_i n _ _ hl;have b:vs.toList[1]?=J (.str q' tk):=by rw[<-e1];simp
        rw[hl]at b;cases b;rw[show q'=q from by simpa using h1]
       .cases h1
      .cases h1
     .cases a
    .cases a
   .cases a
  .cases h2
 .cases h2
structure Fun(K:aT)(x qual:Str)(st:abN)(f:aaB)(fd:abI):Prop where
 ex:∃(oc:nE)(od:Option aaB)(kV doc pm:nE)(an:Option aaB)(cdv ct:nE)(osl:Array<|Option nE),
  fd=abi x qual (jJ st) (bL st) (ai st) .none kV doc pm an cdv ct/\K.lookup f=J ⟨oc,od,.func fd,osl⟩/\Ea K cdv qual=G
 kp:abk K (.ref f)=G
section
variable{K:aT}
theorem Fun.ex'{st:abN}(F:Fun K x qual st f fd):∃(k:nE)(i:Option aaB)(kV c j:nE)(g:Option aaB)(a h:nE)(b:Array<|Option nE),
  fd=abi x qual (jJ st) (bL st) (ai st) .none kV c j g a h/\K.lookup f=J ⟨k,i,.func fd,b⟩/\abP K a qual=G:=by
 left;obtain⟨k,i,kV,c,j,g,a,h,b,e,lk,d⟩:=F.ex;right;exact⟨k,i,kV,c,j,g,a,h,b,e,lk,tF d⟩
theorem Fun.ok{st:abN}(F:Fun K x qual st f fd)(S:FnScope N ps<|ai st)(len:∀vs H Q E,sp vs H Q E->vs.length=ps.length)
  (c:∀(b:nE)(_:Ea K b qual=G)(A:abF)(a:List Env)(s:ID)(H:Hp)(vs:afx)(Q:VK)(E:XK),Room k (A.deeper<|ac4 qual (ai st) s.heap.objs.size f b)->sp vs H Q E ->
   ∃t,IR (gw lD P w K mg base N qual (ai st) f b A a s H E).nox (bL st) t/\t {nx:=fun _ H'=>Q .non H',rt:=Q} (start N vs) H):FnOk P w K mg base lD (k+1) f fd ps sp:=by
 obtain⟨o,l,kV,i,n,p,b,m,j,rfl,lk,d⟩:=F.ex;refine NP lk (tF d) S len fun A a s H vs Q E g e=>?_;obtain⟨t,h,q⟩:=c b d A a s H vs Q E g e;exact⟨t,h.nox,q⟩
theorem Fun.binds{st:abN}(F:Fun K x qual st f fd)
  (h:∀(kV b e:nE)(c:Option aaB)(a d:nE)(us:afw),us.length=ps.length->bindArgs (abi x qual (jJ st) (bL st) (ai st) .none kV b e c a d) ⟨us,[]⟩=pure (ps.zip us)):cf K fd ps []:=by
 obtain⟨k,j,kV,b,e,c,a,d,i,rfl,lk,g⟩:=F.ex;exact .all (h kV b e c a d)
theorem Qe{st:abN}{kV b e a d:nE}(l:K.lookup f=J ⟨oc,od,.func<|abi x qual (jJ st) (bL st) (ai st) .none kV b e an a d,osl⟩)
  (c:Ea K a qual=G) (k:abk K (.ref f)=G):Fun K x qual st f<|abi x qual (jJ st) (bL st) (ai st) .none kV b e an a d:=⟨⟨oc,od,kV,b,e,an,a,d,osl,rfl,l,c⟩,k⟩
end
def ah(H H':Hp):Prop:=∀b o,H b=J o->H' b=J o
theorem ah.refl(H:Hp):ah H H:=fun _ _ h=>h
theorem ah.trans(a:ah H H1)(b:ah H1 H2):ah H H2:=fun c o h=>b c o<|a c o h
theorem ah.free(e:ah H H')(h:H' l=afc):H l=afc:=by
 cases q:H l with
 |none=>rfl
 |some o=>
  rw[e l o q]at h;nofun
theorem ah.seq{K:aT}(e:ah H H')(h:gr K H a xs):gr K H' a xs:=by
 rcases h with(h|⟨o,h⟩)|h
 .exact .inl (.inl<|e _ _ h)
 .exact .inl (.inr ⟨o,e _ _ h⟩)
 .exact .inr h
end L2
namespace L2
open PySem PySem.W PySem.W.X PySem.W.ZRun
theorem walkX{run:nE->afw->Sem nE}
  (e:∀P,as=(K P).map (·.1)) (h:WalkO q loose XP (fun w h=>(K w.params).In h) r d kwd run):WalkX q loose XP (obsZ as) (valZ K n t) r d kwd run:=
 fun w s₀ b mg x Gq0 y a o u p g l kV h1 h2 s i z m c f as Lq0 k v j hw hs=>
  h w s₀ b mg x Gq0 (InK.keeps w s₀.heap b.heap (z_facts e y).2.1 Lq0.keeps) a o u p g l kV h1 h2 s i z m c f as k v j hw hs
end L2
namespace L2
open PySem PySem.Spec PyProof.Rows
noncomputable def fM(cells:List<|Str×aaB):List (Str×ade)->List (Str×aaB)->List (Str×aaB)
 |[],acc=>acc
 |(n,k)::r,acc=>if k=.free then fM cells r ((n,(cells.lookup n).getD 0)::acc)else fM cells r acc
theorem j5(h:∀y∈scope.names,y.2=.free->∃c,env.cells.lookup y.1=J c):closureFor scope env=pure (fM env.cells scope.names []):=by
 simp only[closureFor];generalize([]:List<|Str×aaB)=acc;revert h
 generalize scope.names=names;intro h;induction names generalizing acc with
 |nil=>rfl
 |cons y r d=>
  obtain⟨n,k⟩:=y
  by_cases a:k=.free
  .subst a;obtain⟨c,hc⟩:=h (n,.free) aax rfl
   have e1:cellOf env n=pure c:=by delta cellOf;rw[hc]
   have b:fM env.cells ((n,.free)::r) acc=fM env.cells r ((n,c)::acc):=by
    show(if abp=.free then _ else _)=_;rw[hc];rfl
   mright
  .have b:fM env.cells ((n,k)::r) acc=fM env.cells r acc:=by
    show(if k=.free then _ else _)=_;rw[afl a]
   mright
theorem vP:∀(a:List<|Str×ade)(acc:List<|Str×aaB),(∀y∈a,y.2=.free->∃c,cells.lookup y.1=J c) ->
  (fM cells a acc).lookup x=J c->cells.lookup x=J c\/acc.lookup x=J c
 |[],acc,_,e=>.inr e
 |(n,k)::r,acc,h,e=>by
  have hr  := fun y d=>h y<|ie _ d;by_cases b:k=.free
  .subst b;rcases vP r _ hr e with z|z
   .exact .inl z
   .rw[aaQ]at z;cases hx:x==n with
    |true=>
     rw[hx]at z;obtain⟨c',hc⟩:=h (n,.free) aax rfl
     mright
    |false=>
     mright
  .have e2:fM cells ((n,k)::r) acc=fM cells r acc:=by
    show(if k=.free then _ else _)=_;rw[afl b]
   rw[e2]at e;exact vP r acc hr e
theorem on{cells:List<|Str×aaB}{x:Str}:∀(a:List<|Str×ade)(acc:List<|Str×aaB),((x,abp)∈a\/∃c,acc.lookup x=J c)->∃c,(fM cells a acc).lookup x=J c
 |[],acc,h=>by
  rcases h with h|h
  .nofun
  .exact h
 |(n,k)::r,acc,h=>by
  by_cases b:k=.free
  .subst b;refine on r _ ?_;rcases h with h|⟨c,h⟩
   .rcases eQ.mp h with h|h
    .mright
    .exact .inl h
   .refine .inr ?_
    grind
  .have e2:fM cells ((n,k)::r) acc=fM cells r acc:=by
    show(if k=.free then _ else _)=_;rw[afl b]
   rw[e2];refine on r acc ?_
   grind
structure Bk where
 cl:List<|Str×aaB
 C:aaB
 s:ID
 H:Hp
 fp:afv
 aa:afs
noncomputable def jm(X:Cx)(N:afr)(scope:Scope)(b:Bk):Cx:=
 {X with N:=N,s₀:=b.s,H₀:=b.H,env:=compEnvC scope b.cl b.C X.env,outer:=X.stack,stack:=X.stack,ex:=b.fp,fn:=fun _=>η,pn:=X.pn++b.aa,xe:=fun _ _=>False}
noncomputable def sR(ON:afr)(a:List<|Str×ade):List (Option Nat)->afr->Bool
 |[],[]=>G
 |none::r,_::n=>sR ON a r n
 |some j::r,x::n=>decide (ON[j]?=J x)&&decide ((x,abp)∈a)&&sR ON a r n
 |_,_=>η
def zr(osc:Scope)(ON N:afr)(ix:List<|Option Nat)(scope:Scope):Bool:=
 decide (scope.kind=.function)&&(scope.names.all fun y=>decide (y.2≠.cell))&&(scope.names.all fun y=>decide (y.2=.local->scope.names.lookup y.1=J .local)) &&
 (scope.names.all fun y=>decide (y.2=.free->osc.names.lookup y.1=J .cell\/osc.names.lookup y.1=J .free))&&(scope.names.all fun y=>decide (y.2=.local->(y.1,abp)∉scope.names))&&sR ON scope.names ix N
structure CScope(osc:Scope)(ON N:afr)(ix:List (Option Nat))(scope:Scope):Prop where
 kind:scope.kind=.function
 nocell:∀y∈scope.names,y.2≠.cell
 names:∀y∈scope.names,y.2=.local->scope.names.lookup y.1=J .local
 outs:∀y∈scope.names,y.2=.free->osc.names.lookup y.1=J .cell\/osc.names.lookup y.1=J .free
 nolf:∀x,(x,NameKind.local)∈scope.names->(x,abp)∈scope.names->False
 len:ix.length=N.length
 cap:∀(i j:Nat)(x:Str),ix[i]?=J (J j)->N[i]?=J x->ON[j]?=J x/\(x,abp)∈scope.names
theorem pJ:∀{ix:List<|Option Nat}{N:afr},sR ON names ix N=G->ix.length=N.length
 |[],[],_=>rfl
 |none::r,_::n,h=>afp Nat.succ<|pJ h
 |some j::r,x::n,h=>by
  have h':(decide (ON[j]?=J x)&&decide ((x,abp)∈names)&&sR ON names r n)=G:=h;rw[oR]at h';exact afp Nat.succ<|pJ h'.2
 |[],_::_,h=>by nofun
 |none::_,[],h=>by nofun
 |some _::_,[],h=>by nofun
theorem pY:∀{ix:List<|Option Nat}{N:afr},sR ON names ix N=G->∀(i j:Nat)(x:Str),ix[i]?=J (J j)->N[i]?=J x->ON[j]?=J x/\(x,abp)∈names
 |[],_,_,i,j,x,h1,_=>by mright
 |none::r,y::n,h,0,j,x,h1,_=>by mright
 |none::r,y::n,h,i+1,j,x,h1,h2=>pY (ix:=r) h i j x ⊤ ⊤
 |some k::r,y::n,h,i,j,x,h1,h2=>by
  have h':(decide (ON[k]?=J y)&&decide ((y,abp)∈names)&&sR ON names r n)=G:=h;rw[oR]at h';cases i with
  |zero=>
   mright
  |succ i=>exact pY h'.2 i j x ⊤ (by assumption)
 |none::_,[],h,_,_,_,_,_=>by nofun
 |some _::_,[],h,_,_,_,_,_=>by nofun
theorem N5(h:zr osc ON N ix scope=G):CScope osc ON N ix scope:=by
 delta zr at h;simp only[oR]at h;obtain⟨⟨⟨⟨⟨h1,h2⟩,e⟩,d⟩,f⟩,b⟩:=h;exact⟨afo h1,fun y a=>afo<|aaH.mp h2 y a,fun y a=>afo<|aaH.mp e y a,fun y a=>afo<|aaH.mp d y a,
  fun x g c=>afo (aaH.mp f (x,.local) g) rfl c,pJ b,pY b⟩
def mz(ix:List<|Option Nat)(Z:St):St:=ix.map fun o=>o.bind fun j=>(Z[j]?).getD U
theorem eu{env:Env}:∀{a:List<|Str×ade}{x:Str}{k:ade},(a.map fun(n,k)=>if(k==abp&&env.scope.kind==.function&&env.kindOf n==J .cell)then(n,aeI)else(n,k)).lookup x=J k ->
  a.lookup x=J k\/(k=.cell/\a.lookup x=J .free/\env.kindOf x=J .cell)
 |[],_,_,h=>by nofun
 |(n,k')::r,x,k,h=>by
  have c:=@eu env r x k;have h:acx x ((if(k'==abp&&env.scope.kind==.function&&env.kindOf n==J .cell)=G then(n,aeI)else(n,k'))::_)=J k:=h;by_cases b:(k'==abp&&env.scope.kind==.function&&env.kindOf n==J .cell)=G
  .rw[afk b]at h;rw[aaQ]at h;rw[aaQ];cases hx:x==n with
   |true=>
    mright
   |false=>
    mright
  .rw[aaQ]at h;rw[aaQ];cases hx:x==n with
   |true=>
    mright
   |false=>
    mright
theorem mem_of_lookupK:∀{a:List<|Str×ade},a.lookup x=J k->(x,k)∈a:=fun h=>abR h
theorem Li{Z:St}(I:Inv X aa Z H s)(V:X.env.scope=osc)(hO:X.N=ON)(S:CScope osc ON N ix scope)
  (w:∀b∈fp,gE X aa H b) (K:∀b∈fp,∃o,s.heap.get? b=J o) (hn:h'.Ns s.heap.objs.size m) (E:∀b o,s.heap.get? b=J o->h'.get? b=J o) (he:s'={s with heap:=h',toks:=s'.toks}) (M:X.tn<=s'.toks):
  Inv (jm X N scope ⟨fM X.env.cells scope.names [],s.heap.objs.size,s,H,fp,aa⟩) [] (mz ix Z) H s':=by
 subst V hO;have r:∀y∈scope.names,y.2=.free->∃c,X.env.cells.lookup y.1=J c:=fun y W e=>I.ok.has y.1<|S.outs y W e;have f:∀x c,(fM X.env.cells scope.names []).lookup x=J c->X.env.cells.lookup x=J c:=fun x c e=>by
  rcases vP scope.names [] r e with z|z
  .exact z
  .cases z
 have D:∀b o,s.heap.get? b=J o->b≠s.heap.objs.size:=fun b o e=>aa0<|aay e;have B:∀x,(compEnvC scope (fM X.env.cells scope.names []) s.heap.objs.size X.env).kindOf x=J .cell\/(compEnvC scope (fM X.env.cells scope.names []) s.heap.objs.size X.env).kindOf x=J .free->(x,abp)∈scope.names:=fun x t=>by
  rcases t with t|t
  .rcases eu (env:=X.env) t with z|⟨_,z,_⟩
   .exact absurd rfl (S.nocell _<|mem_of_lookupK z)
   .exact mem_of_lookupK z
  .rcases eu (env:=X.env) t with z|⟨z,_⟩
   .exact mem_of_lookupK z
   .cases z
 have l:∀x c,X.env.cells.lookup x=J c->∀v,s.heap.IsCell c v->h'.IsCell c v:=fun x c e v⟨o,ho,hd⟩=>⟨o,E c o ho,hd⟩;rw[he];refine⟨⟨I.ok.mod,S.kind,I.ok.glob,I.ok.blt,mK _,fun x y c h1 h2=>I.ok.inj x y c (f x c h1)<|f y c h2,fun x t=>on _ _<|.inl<|B x t,fun x c z _=>(nomatch z),I.ok.hd,I.ok.frames,.inl rfl,
  fun b A=>?_,fun b o e=>I.bs b o e,RW I.ok.bsz I.sz,fun b o e A=>?_,fun b A t=>?_,I.stack,⟨fun b A=>I.stkFree b A,I.tb⟩⟩,
  rfl,I.bare,Un.kept E,⟨m,hn,fun i x v h1 h2 h3=>?_⟩,fun x c e=>?_,I.hok.fresh (mK _),fun x c e=>I.freeC x c (f x c e),fun p R=>?_,I.hok.kept E,?_,M⟩
 .obtain⟨o,ho⟩:=K b A
  exact⟨D b o ho,fun x c e=>(w b A).2.2.2.2.1 x c<|f x c e⟩
 .rcases(w b A).2.2.2.1 with z|z
  .exact I.ok.noex b o e z
  .exact absurd (Rw (aay e)<|RW I.ok.bsz z) (acE _)
 .rcases eQ.mp (I.stkSub b t)with z|z
  .exact(w b A).2.1 z
  .exact(w b A).2.2.1 z
 .-- a captured name
  have g:(mz ix Z)[i]?=J (J v):=h2;delta mz at g;rw[aa4]at g;cases e:ix[i]? with
  |none=>rw[e]at g;cases g
  |some o=>
   rw[e]at g;cases o with
   |none=>cases g
   |some j=>
    obtain⟨c1,c2⟩:=S.cap i j x e h1
    have h:(Z[j]?).getD U=J v:=acw g;have T:Z[j]?=J (J v):=by
     cases q:Z[j]? with
     |none=>rw[q]at h;nofun
     |some w'=>rw[q]at h;rw[<-h];rfl
    have P:=S.outs _ c2 rfl;obtain⟨mX,hnX,hl⟩:=I.loc
    have F:m6 X.env.scope x:=by
     rcases P with k|k
     .exact .inr (.inl k)
     .exact .inr (.inr k)
    obtain⟨u,ru,lk⟩:=hl j x v c1 T F
    refine⟨u,ru,.inr ?_⟩;have C:∃c,X.env.cells.lookup x=J c/\s.heap.IsCell c (J u):=by
     rcases lk with⟨k,_⟩|⟨_,c,e1,O⟩
     .rcases P with k'|k'
      .have:X.env.kindOf x=J .cell:=k'
       rw[k]at this;cases this
      .have:X.env.kindOf x=J .free:=k'
       rw[k]at this;cases this
     .exact⟨c,e1,O⟩
    left;obtain⟨c,e1,O⟩:=C
    obtain⟨c',e3⟩:=on (cells:=X.env.cells) scope.names []<|.inl c2
    have Q:=f x c' e3;rw[e1]at Q;cases Q;right;refine⟨?_,c,e3,l x c e1 _ O⟩;rcases h3 with k|k|k
    .rcases eu (env:=X.env) k with z|⟨z,_⟩
     .exact(S.nolf x (mem_of_lookupK z) c2).elim
     .cases z
    .exact .inl k
    .exact .inr k
 .obtain⟨v,z⟩:=I.cell x c (f x c e)
  exact⟨v,l x c (f x c e) v z⟩
 .have hp':p∈X.pn++aa:=by
   rcases BY.mp R with z|z
   .exact z
   .cases z
  refine Z05 (I.pin p hp') fun e n ne nf d=>?_
  refine⟨E _ _ e,n,D _ _ e,fun z=>?_,d⟩;rcases eQ.mp (I.stkSub _ z)with q|q
  .exact ne q
  .exact nf q
 .delta mz;rw[aaU];exact S.len
section
variable{prog:abf}{w:abh}{A:abF}{R:Result->ID->Prop}{s:ID}
theorem wU(I:Nat->ID->Prop)
  (oO:∀n s,I n s->aaN (aaO prog w) A (pyNext it) (fun r b=>match r with
   |none=>R (.ok .next) b
   | some v=>aaN (aaO prog w) A (aei target it v) (fun _ d=>aaN (aaO prog w) A (assign target env v) (fun _ j =>
     aaN (aaO prog w) A (forIn ifs G fun c r=>if r=G then do let ok <-isTrue c env (eval c env);pure (adw ok)else pure (adw r)) (fun ok a=>
      if ok=G then aaN (aaO prog w) A (eval elt env) (fun x i=>
       aaN (aaO prog w) A (call (.builtin "list.append") [acc,x]) (fun _ k=>∃m,m<n/\I m k) (notedBy (aaO prog w) A env fun e s'=>R (.error e) s') i) (notedBy (aaO prog w) A env fun e s'=>R (.error e) s') a
      else ∃m,m<n/\I m a) (notedBy (aaO prog w) A env fun e s'=>R (.error e) s') j) (notedBy (aaO prog w) A env fun e s'=>R (.error e) s') d) (notedBy (aaO prog w) A env fun e s'=>R (.error e) s') b) (notedBy (aaO prog w) A env fun e s'=>R (.error e) s') s)
  (n:Nat) (h:I n s):
  ad0 (aaO prog w) A (.compLoop (.ListComp elt [⟨target,iter,ifs,0⟩] scope pos) 0 it acc env) R s:=by
 refine codeAny_loop rfl I (fun n s t=>?_) n h;refine wpAny_noted ?_;refine iF<|wpAny_standAt<|iF<|aaP (oO n s t) (fun r b g=>?_) fun _ _ h'=>h';cases r with
 |none=>exact aaG g
 |some v=>
  refine iF<|aaP g (fun _ d l=>?_) fun _ _ h'=>h';refine iF<|aaP l (fun _ j q=>iF<|aaP q (fun ok a f=>?_) fun _ _ h'=>h') fun _ _ h'=>h';cases ok with
  |false=>exact aaG ⟨rfl,f⟩
  |true=>
   exact iF<|iF<|aaP f (fun x i o=>iF<|aaP o (fun _ k p=>aaG<|aaG ⟨rfl,p⟩) fun _ _ h'=>h') fun _ _ h'=>h'
end
def RI(X:Cx)(ifs:List aa1)(t:TT):Prop:=
 ∀(aa:afs)(s:ID)(Z:St)(H:Hp)(Q:Bool->Hp->Prop),Inv X aa Z H s->t Z H Q ->
  aaN (aaO X.prog X.w) X.A (forIn ifs G fun c r=>if r=G then do let ok <-isTrue c X.env (eval c X.env);pure (adw ok)else pure (adw r)) (TP X aa Z Q) X.xe s
def Wj:TT:=fun _ H Q=>Q G H
theorem LN(h:PT X c t):RI X [c] t:=fun aa s Z H Q I q=>wpAny_tests_one<|h aa s Z H Q I q
def wQ(g:TG)(q:TT)(o:TE)(d:It)(j:St)(H1:Hp)(Q:VK):Prop:=∀a,H1 a=U->∃W:Nat->Nat->St->Hp->Prop,
 (∃m,W 0 m j<|br H1 a<|.lst [])/\∀i m f H',W i m f H' ->
  (d.stop i H'/\Q (.ref a) H')\/(d.go i H'/\∃M:St->Hp->Prop,(∀e h,M e h->∃n,n<m/\W (i+1) n e h)/\∀x h,d.yld i H' x h->g x f h fun c p=>q c p fun b l=>
   if b=G then o c l fun v k=>∃xs,k a=J (.lst xs)/\xs.length<aaL/\M c (br k a (.lst (xs++[v])))else M c l)
def Bm(ix:List<|Option Nat)(b:TI)(g:TG)(d:TT)(c:TE):TE:=fun Z H Q=>b Z H fun a H1=>wQ g d c a (mz ix Z) H1 Q
section
theorem Fv{Z e:St}(I:Inv X aa Z H s)(c:∀b∈fp,gE X aa H b)(a:Inv (jm X N scope ⟨cl,s.heap.objs.size,s,H,fp,aa⟩) [] e H' s')(g:X.tn<=s'.toks):
  Inv X aa Z H' s'/\(∃m,s'.heap.Ns s.heap.objs.size m)/\H' s.heap.objs.size=U/\gE X aa H' s.heap.objs.size:=by
 have u  := a.base;have I1  := I.call' a.os u a.hok a.bare fun b d=>⟨(c b d).2.2.2.1,(c b d).2.1,(c b d).2.2.2.2.1,(c b d).2.2.2.2.2⟩;obtain⟨m,f,_⟩:=a.loc;exact⟨I1,⟨m,f⟩,a.free,I.fpOk (mK _) a.free⟩
theorem ve{Z:St}{RR:nE->aaB->Result->ID->Prop}
  (S:CScope osc ON N ix scope) (hE:X.env.scope=osc) (hO:X.N=ON) (hc:X.calm=G) (hg:∀b,PG (jm X N scope b) tg g) (ht:∀b,RI (jm X N scope b) ifs tt)
  (he:∀(D:ID)(H0:Hp)(pl:afs)(s':ID)(c:St)(H':Hp)(Q':VK)(j:aaB),Inv X aa Z H0 D->(∀b∈fp,gE X aa H0 b)->(∀b∈fp,∃o,(b,o)∈pl)->Inv (jm X N scope ⟨fM X.env.cells scope.names [],D.heap.objs.size,D,H0,fp,aa⟩) ([]++pl) c H' s'->te c H' Q' ->
   aaN (aaO X.prog X.w) X.A (eval elt (compEnvC scope (fM X.env.cells scope.names []) D.heap.objs.size X.env)) (EP (jm X N scope ⟨fM X.env.cells scope.names [],D.heap.objs.size,D,H0,fp,aa⟩) ([]++pl) c Q') (notedBy (aaO X.prog X.w) X.A (compEnvC scope (fM X.env.cells scope.names []) D.heap.objs.size X.env) fun e s''=>X.tn<=s''.toks->RR (.ref j) D.heap.objs.size (.error e) s'') s')
  (I:Inv X aa Z H s) (T:Turn X.prog X.w X.K tg Jq0 fp it tn) (st:tn 0 s.heap) (hfp:∀b∈fp,gE X aa H b) (q:wQ g tt te Jq0 (mz ix Z) H Q)
  (hRR:∀(j C:aaB)(H':Hp)(s':ID),Inv X aa Z H' s'->(∃m,s'.heap.Ns C m)->H' C=U->gE X aa H' C->Q (.ref j) H'->RR (.ref j) C (.ok .next) s'):
  aaN (aaO X.prog X.w) X.A (newList []) (fun j s₃=>aaN (aaO X.prog X.w) X.A (newFunctionEnv scope X.env.globals (fM X.env.cells scope.names []) [] X.env.qual U .none<|J X.env) (fun F s₄=>
   ad0 (aaO X.prog X.w) X.A (.compStart (.ListComp elt [⟨tg,iter,ifs,0⟩] scope pos) 0 (.ref it) j {F with scope:=relabel scope X.env}) (RR j F.locals) s₄) E s₃) E s:=by
 refine adb<|wpAny_newFunctionEnv S.nocell (by intro y hy;mright) (fun O k l=>?_) S.kind;dsimp only at k l⊢
 have I3:Inv X aa Z (br H s.heap.objs.size<|.lst []) {s with heap:=s.heap.push {cls:=.type "list",dict:=U,data:=.seq ([]:afw).toArray}}:=
  I.laid (t':=s.toks) (fun b o e=>iN _ e) (mK _) (show fK X.prog X.w _ _ _ (.lst [])from⟨aa2 _,[],_,.nil,aaD _ rfl⟩)
 have hacc:H s.heap.objs.size=U:=I.hok.fresh<|mK _;have hfo:∀b∈fp,∃o,s.heap.get? b=J o:=fun b a=>let⟨o,e,_⟩:=T.obj 0 _ st b a;⟨o,e⟩;have fne:∀b∈fp,b≠s.heap.objs.size:=fun b a=>let⟨o,e⟩:=hfo b a;aa0 (aay e);have t:∀b∈fp,gE X aa (br H s.heap.objs.size<|.lst []) b:=fun b a=>⟨by rw[aG<|fne b a];exact(hfp b a).1,(hfp b a).2⟩;let⟨W,⟨m0,w0⟩,oO⟩:=q s.heap.objs.size hacc
 generalize hH2:s.heap.push {cls:=.type "list",dict:=U,data:=.seq ([]:afw).toArray}=h2 at *;have P:∀b o,h2.get? b=J o->O.get? b=J o:=fun b o e=>l.extBut b o (aa0<|aay e)<|iN _ e;have V:∀b o,s.heap.get? b=J o->h2.get? b=J o:=fun b o e=>by rw[<-hH2];exact iN _ e
 have fin:∀s₄:ID,s₄={s with heap:=O,toks:=s₄.toks}->X.tn<=s₄.toks->ad0 (aaO X.prog X.w) X.A (.compLoop (.ListComp elt [⟨tg,iter,ifs,0⟩] scope pos) 0 (.ref it) (.ref s.heap.objs.size)<|compEnvC scope (fM X.env.cells scope.names []) h2.objs.size X.env)
   (RR (.ref s.heap.objs.size) h2.objs.size) s₄:=by
  intro s₄ e4 ht4;refine dk ht4 ?_;have J0:Inv (jm X N scope ⟨fM X.env.cells scope.names [],h2.objs.size,{s with heap:=h2},br H s.heap.objs.size<|.lst [],fp,aa⟩) [] (mz ix Z) (br H s.heap.objs.size<|.lst []) s₄:=
   Li (s:={s with heap:=h2}) I3 hE hO S t (fun b a=>let⟨o,e⟩:=hfo b a;⟨o,V b o e⟩) k P e4 ht4
  generalize hX:jm X N scope ⟨fM X.env.cells scope.names [],h2.objs.size,{s with heap:=h2},br H s.heap.objs.size<|.lst [],fp,aa⟩=Yq0 at J0;have eE:compEnvC scope (fM X.env.cells scope.names []) h2.objs.size X.env=Yq0.env:=by rw[<-hX];rfl
  have eP:X.prog=Yq0.prog:=by rw[<-hX];rfl
  have eW:X.w=Yq0.w:=by rw[<-hX];rfl
  have eA:X.A=Yq0.A:=by rw[<-hX];rfl
  have eK:X.K=Yq0.K:=by rw[<-hX];rfl
  have eC:Yq0.calm=G:=by rw[<-hX];exact hc
  have T':Turn Yq0.prog Yq0.w Yq0.K tg Jq0 fp it tn:=by rw[<-eP,<-eW,<-eK];exact T
  have PR:tn 0 s₄.heap:=T.keep _ _ _ st fun b a o e=>by rw[e4];exact P b o<|V b o e
  have R:∀{H':Hp},(∀b∈fp,H' b=U)->∀b∈fp,gE Yq0 [] H' b:=fun{H'}hn b a=>by
   rw[<-hX];have f:=hfp b a;refine⟨hn b a,?_,?_,.inl a,?_,?_⟩
   .have:=J0.ok.exf b (by rw[<-hX];exact a)
    rw[<-hX]at this;exact this.1
   .have:=J0.ok.exfs b (by rw[<-hX];exact a)
    rw[<-hX]at this;exact this
   .have:=J0.ok.exf b (by rw[<-hX];exact a)
    rw[<-hX]at this;exact this.2
   .intro p hp;have hp':p∈X.pn++aa:=by
     rcases BY.mp hp with z|z
     .exact z
     .cases z
    exact f.2.2.2.2.2 p hp'
  have accne:s.heap.objs.size∉fp:=fun z=>fne _ z rfl;have h:∀e s',Yq0.xe e s'->False:=by rw[<-hX];exact fun _ _ z=>z
  have hgY:PG Yq0 tg g:=by rw[<-hX];exact hg _
  have htY:RI Yq0 ifs tt:=by rw[<-hX];exact ht _
  rw[eE,eP,eW,eA];refine wU (fun n s'=>∃i c H',Inv Yq0 [] c H' s'/\tn i s'.heap/\(∀b∈fp,H' b=U)/\W i n c H') ?_ m0 ⟨0,mz ix Z,_,J0,PR,fun b a=>(t b a).1,w0⟩;intro n s5 q_;refine Z34 q_ fun i σ5 H5 I5 st5 fr5 w5=>?_;left;rcases oO i n σ5 H5 w5 with⟨stop,qn⟩|⟨go,M,hM,step⟩
  .right;refine bP (T'.done Yq0 rfl rfl rfl eC i [] s5 σ5 H5 _ I5 (R fr5) st5 stop) ?_;rintro r s6⟨hr,I6⟩;subst hr;have I6':=I6;rw[<-hX]at I6';intro htk;let⟨a1,a2,a3,a4⟩:=Fv (s:={s with heap:=h2}) I3 t I6' htk
   exact hRR _ _ H5 s6 a1 a2 a3 a4 qn
  .right;refine bP (T'.item Yq0 rfl rfl rfl eC i [] s5 σ5 H5 _ I5 (R fr5) st5 go) ?_;rintro r s6⟨u,hr,h6⟩;subst hr;refine bP h6 ?_;intro _ s7 q_;refine Z25 q_ fun x H7 I7 r7 y7 st7 fr7=>?_;have I7':=I7.pinned (R fr7)<|T.obj _ _ st7;refine aaP (hgY _ s7 σ5 H7 x u _ I7' r7<|step x H7 y7) (fun _ s8 q_=>Z22 q_ fun σ8 H8 I8 q8=>?_) fun e s' z=>(h e s' z).elim;refine aaP (htY _ s8 σ8 H8 _ I8 q8) (fun ok s9⟨H9,I9,q9⟩=>?_) fun e s' z=>(h e s' z).elim;have again:∀{B:St}{Ha:Hp}{sa:ID},Inv Yq0 ([]++mL fp s7.heap) B Ha sa->M B Ha->∃m,m<n/\∃i c H',Inv Yq0 [] c H' sa/\tn i sa.heap/\(∀b∈fp,H' b=U)/\W i m c H':=fun{B Ha sa}Ia na=>by
    obtain⟨m',hm,wa⟩:=hM B Ha na
    refine⟨m',hm,i+1,B,Ha,Ia.unpinned,T.keep _ _ _ st7 fun b a o e=>(Ia.pin (b,o)<|OR _<|OR _<|ff a e).1,fun b a=>?_,wa⟩;obtain⟨o,e,d⟩:=T.obj _ _ st7 b a
    exact(Ia.pin (b,o)<|OR _<|OR _<|ff a e).2.1
   cases ok with
   |false=>
    rw[afl MK]at q9⊢;exact again I9 q9
   |true=>
    rw[afk rfl]at q9⊢;have I9':=I9;rw[<-hX]at I9';rw[<-eP,<-eW,<-eA,<-eE];refine aaP (he {s with heap:=h2} _ _ s9 σ8 H9 _ _ I3 t (fun b a=>let⟨o,e,d⟩:=T.obj _ _ st7 b a;⟨o,ff a e⟩) I9' q9) (fun y sb⟨vb,Hb,Ib',rb,xs,hx,hz,nb⟩=>?_) fun _ _ z=>z;have Ib:Inv Yq0 ([]++mL fp s7.heap) σ8 Hb sb:=by rw[<-hX];exact Ib'
    rw[eP,eW,eA];refine aaP (gq (X:=Yq0) _ sb σ8 Hb (.ref s.heap.objs.size) [vb] (.ref s.heap.objs.size) [y] (fun v H'=>M σ8 H') Ib rfl (.cons rb .nil) ⟨s.heap.objs.size,xs,vb,rfl,rfl,hx,hz,nb⟩) (fun _ sc q_=>Z23 q_ fun vc Hc Ic rc nc=>?_) fun e s' z=>(h e s' z).elim;exact again Ic nc
 exact codeAny_compStart_list (fin _ rfl (by walk_at "tok"))<|T.self _ 0 _ _ _ (T.keep _ _ _ st fun b a o e=>P b o<|V b o e)<|fin _ rfl (by walk_at "tok")
theorem Ig(S:CScope osc ON N ix scope)(n:X.env.scope=osc)(D:X.N=ON)(K:X.calm=G)(u:PI X tg iter wi)(t:∀b,PG (jm X N scope b) tg g)(r:∀b,RI (jm X N scope b) ifs tt)(P:∀b,PE (jm X N scope b) elt te)
  (hs:autoParam (∀x,abl iter X.env x=pure x) Xcx):PE X (.ListComp elt [⟨tg,iter,ifs,0⟩] scope pos)<|Bm ix wi g tt te:=by
 intro aa s Z H Q I h;have a:∀y∈scope.names,y.2=.free->∃c,X.env.cells.lookup y.1=J c:=fun y A e=>I.ok.has y.1 (by subst n;exact S.outs y A e);refine wpAny_comprehension_free rfl hs (j5 a) S.kind S.names (bP (u aa s Z H _ I h) fun v s1 h1=>bP h1 fun O s2 h2=>?_);left;refine Z56 h2 fun it fp tn p H2 e w T i M q=>?_;right;subst e;refine ve S n D K t r (fun V W pl s' f H' B d _ _ _ l j=>aaP (P _ _ s' f H' B l j) (fun _ _ z=>z) fun _ _ z=>z.elim) w T i M q fun d C H' s' l k hC F j=>?_;let⟨m,k⟩:=k
 refine⟨m,k,fun h' E=>⟨.ref d,H',?_,rfl,j⟩⟩;refine Z06 F fun f0 f1 f2' f3 f4 f5=>?_
 exact l.turned (fun b o R e=>(E.2 b R).trans e) f0 f1 f3 f4 f5
theorem zS{spos pos':Pos}(Q:X.N.Nodup)(hx:X.N[i]?=J x)(hl:Loc X.env.scope x)(S:CScope osc ON N ix scope)(w:X.env.scope=osc)(hO:X.N=ON)(hc:X.calm=G)(O:PI X tg iter wi)(M:∀b,PG (jm X N scope b) tg g)(K:∀b,RI (jm X N scope b) ifs tt)(he:∀b,PE (jm X N scope b) elt te)
  (l:autoParam (abm (.ListComp elt [⟨tg,iter,ifs,0⟩] scope pos) (J<|.Name x pos') spos.line X.env=pure G) Xaz)
  (hf:autoParam (X.fn x=G\/X.env.scope.names.lookup x=J .local) Xbx)
  (hs:autoParam (∀x,abl iter X.env x=pure x) Xcx):PS X (.Assign [.Name x pos'] (.ListComp elt [⟨tg,iter,ifs,0⟩] scope pos) spos)<|AL (Bm ix wi g tt te)<|ml i:=by
 intro aa s Z H D I h;rw[exec_Assign_Name_used _ _ _ _ l];refine iF<|wpAny_standAt<|iF ?_;have a:∀y∈scope.names,y.2=.free->∃c,X.env.cells.lookup y.1=J c:=fun y V e=>I.ok.has y.1 (by subst w;exact S.outs y V e);refine iF (aaP (wpAny_comprehension_free rfl hs (j5 a) S.kind S.names
  (bP (O aa s Z H _ I h) fun v s1 h1=>bP h1 fun itv s2 h2=>?_)) (fun _ s' P=>aaG (aaG P)) fun _ _ e=>e)
 left;refine Z56 h2 fun it fp tn E A e R T r f2 q=>?_;right;subst e;refine ve S w hO hc M K (fun s0 H0 pl s' n H' W d _ _ _ t p=>aaP (he _ _ s' n H' W t p) (fun _ _ z=>z) fun _ _ z=>z.elim) R T r f2 q fun d C H' s' t k hC B p=>?_;let⟨m,k⟩:=k
 have j:∃o,s'.heap.get? C=J o/\∀v,o.data≠.cell v:=by
  refine Z33 k fun o es ep ho hd _=>?_
  mright
 have only:∀b∈[C],b=C:=fun b f=>by simpa using f
 have F:=t.pinned (fun b f=>(only b f)▸B) fun b f=>(only b f)▸j;refine aaP (B4 Q hx hl hf (aa++mL [C] s'.heap) s' Z H' (.ref d) (.ref d) D.nx F rfl p) (fun _ s'' q_=>Z22 q_ fun σ2 A I2' q2=>?_) fun _ _ z=>z;let⟨o,ho,hd⟩:=j
 have pn:=I2'.pin (C,o)<|OR _<|OR _<|ff ∅ ho;refine⟨m,k.at' fun o' e=>by simp_all,fun h' sb=>⟨σ2,A,?_,q2⟩⟩;refine Z06 B fun f0 f1 f2' f3 f4 f5=>?_
 exact I2'.unpinned.turned (fun b o f e=>(sb.2 b f).trans e) pn.2.1 f1 f3 f4 f5
end
theorem tJ{K:aT}{St:Nat->acn->Prop}(W:∀A:abF,A.handled=U->Walks P w A it [it] [it] n Pv St)
  (m:∀i h,St i h->∃(o:Obj)(nm:String)(vs:Array nE),h.get? it=J o/\o.cls=.type nm/\o.data=.fields vs/\["enumerate","zip","dict_itemiterator","dict_reverseitemiterator","odict_iterator","itertools.zip_longest","itertools.pairwise"].contains nm=η)
  (go:∀i H,Jq0.go i H->i<n) (t:∀i H u,Jq0.go i H->Pv i u->∃x,aP x u/\Jq0.yld i H x H) (r:∀i h H,Jq0.stop i H->St i h->St n h)
  (self:∀(A:abF)(i:Nat)(s:ID)(Q:aft)(E:aft),St i s.heap->Q (.ref it) s->aaN (aaO P w) A (pyIter<|.ref it) Q E s):Turn P w K tg Jq0 [it] it St where
 mem:=∅
 obj:=fun i h st b a=>by
  grind
 keep:=fun i h h' st k=>(W {} rfl).frame i h h' st fun b a o e=>k b a o e
 item:=by
  intro X p hw q g i aa s Z H E I f st d;refine Z06 (f it ∅) fun f0 f1 f2 f3 f4 f5=>?_
  refine aO I.tk<|(W X.A<|I.ok.hd g).item i s _ _ (go i H d) st fun v h' tk y c l j=>?_;have I1  := I.turned (fun b o a e=>l b o (by simpa using a) e) f0 f1 f3 f4 f5;left;let⟨x,rx,yx⟩:=t i H v d y
  refine Z34 (m (i+1) h' c) fun o nm vs h1 h2 h3 h4=>?_
  right;exact⟨v,rfl,BJ h1 h2 h3 h4 ⟨x,H,I1,rx,yx,c,fun b a=>(f b a).1⟩⟩
 done:=by
  intro X p hw q g i aa s Z H E I f st d;obtain⟨f0,f1,f2,f3,f4,f5⟩:=f it ∅
  exact aO I.tk<|(W X.A<|I.ok.hd g).done s _ _ (r i s.heap H d st) fun h' tk l j=>⟨rfl,I.turned (fun b o a e=>l b o (by simpa using a) e) f0 f1 f3 f4 f5⟩
 self:=self
def VT(z:Str):It:=⟨fun i _=>i<z.length,fun i H x H'=>H'=H/\∃c,z.cps[i]?=J c/\x=.str ⟨#[c]⟩,fun i _=>i=z.length⟩
theorem Io(h:SignAt z i u):∃x,aP x u/\(VT z).yld i H x H:=by
 obtain⟨c,t,e1,rfl⟩:=h;exact⟨.str ⟨#[c]⟩,⟨t,rfl⟩,rfl,c,e1,rfl⟩
theorem Lk(bs:List Bool):(ads bs.length).all (fun i=>(bs[i]?).getD G)=bs.all id:=by
 rw[aca,aaH,aaH];constructor
 .intro h b hb;obtain⟨i,hi,e⟩:=List.getElem_of_mem hb
  mright
 .intro h i hi;have a:=aeq.mp hi;rw[aaC a];exact h _<|ad3 a
section
variable{X:Cx}
def Ro(K:aT)(xs:afx)(H:Hp)(Q:VK):Prop:=match xs with
 |[.ref p]=>∃bs:List Bool,gr K H p (bs.map V.bl)/\Q (.bl<|bs.all id) H
 |_=>False
theorem EB(K:aT)(l:X.calm=G)(k:autoParam (X.K=K) Xaz):bI X (.builtin "all")<|Ro K:=by
 subst k;intro aa s Z H xs us Q I r h;delta Ro at h;cbv
 case h_2=>mleft
 rename_i p;obtain⟨bs,hq,q⟩:=h
 obtain⟨u,rfl,n⟩:=jV r;subst n;obtain⟨aV,rv,pl,hz⟩:=I.list hq
 have j:X.A.in1.handled=U:=I.ok.hd l;refine aO I.tk<|call_all_walk<|wpAny_pyIter_list pl.isList ?_;have c:p≠s.heap.objs.size:=by
  obtain⟨o,ho,_⟩:=pl.isList
  exact aa0<|aay ho
 refine⟨s.heap.objs.size,[s.heap.objs.size,p],[s.heap.objs.size],aV.toArray.size,_,_,fun i=>(bs[i]?).getD G,rfl,Walks.list j _ p c aV.toArray,⟨⟨_,aaD _ rfl,rfl,rfl⟩,Heap.IsList.push pl.isList _⟩,?_,?_⟩
 .intro i v s' Q' E' hv hQ';have hv'  := by simpa using hv
  have hi  := (rW.mp hv').1;have a:=rv.length;rw[aaU]at a;have f:(bs.map V.bl)[i]?=J (V.bl bs[i]):=by
   simp
  obtain⟨u,hu,ru⟩:=rv.get f
  rw[hv']at hu;cases hu;subst ru;have d:Q' bs[i] s':=by
   mright
  exact ach d
 .intro h' tk hk;have g:Inv X aa Z H {s with heap:=s.heap.push {cls:=.type "list_iterator",data:=.fields #[.ref p,.int 0 0]}}:=I.kept fun b o e=>iN _ e;have e1:(ads aV.toArray.size).all (fun i=>(bs[i]?).getD G)=bs.all id:=by
   have a:=rv.length;rw[aaU]at a;rw[abG,<-a];exact Lk bs
  rw[e1];refine Z06 (I.fpOk (mK _)<|I.hok.fresh<|mK _) fun f0 f1 f2 f3 f4 f5=>?_
  exact fun m=>⟨.bl<|bs.all id,H,g.turned (fun b o f e=>hk b o (by simpa using f) e) f0 f1 f3 f4 f5,rfl,q⟩
end
theorem PE.imp(h:PE X e t)(i:∀Z H Q,t' Z H Q->t Z H Q):PE X e t':=fun aa s Z H Q I q=>h aa s Z H Q I<|i Z H Q q
theorem eJ.imp(h:eJ X f r)(i:∀x y H Q,r' x y H Q->r x y H Q):eJ X f r':=fun aa s Z H x y v u Q I a b q=>h aa s Z H x y v u Q I a b<|i x y H Q q
theorem KD.imp(h:KD X f r)(i:∀x H Q,r' x H Q->r x H Q):KD X f r':=fun aa s Z H x v Q I a q=>h aa s Z H x v Q I a<|i x H Q q
theorem bI.imp(h:bI X f r)(i:∀xs H Q,r' xs H Q->r xs H Q):bI X f r':=fun aa s Z H xs us Q I a q=>h aa s Z H xs us Q I a<|i xs H Q q
theorem DX.imp(h:DX X r)(i:∀x y H Q,r' x y H Q->r x y H Q):DX X r':=fun value a aa s Z H x y v u Q I c b q hs=>h value a aa s Z H x y v u Q I c b (i x y H Q q) hs
section
variable{X:Cx}{a b:aa1}{ta tb:TE}{pos:Pos}{rest:List aa1}
def m8(o:Option<|Option V)(H:Hp)(Q:VK):Prop:=match o with
 |some (J v)=>Q v H
 |_=>False
def z8(i:Nat):TE:=fun Z H Q=>m8 Z[i]? H Q
theorem qv(i:Nat)(b:autoParam (X.N[i]?=J x) Xaz)(c:autoParam (m6 X.env.scope x) Xcz)(hd:autoParam (afz x) Xax)
  (a:autoParam ((x==("__classdict__":Str))=η) Xax):PE X (.Name x pos)<|z8 i:=(O9 b c hd a).imp fun Z H Q q=>by
 delta z8 m8 at q;split at q
 .rename_i v e;exact⟨v,e,q⟩
 .exact q.elim
def Yc(tb:TE)(Z:St)(Q:VK):VK:=fun x H1=>match x with
 |.bl c=>if c=G then tb Z H1 Q else Q (.bl η) H1
 |_=>False
def Xb(ta tb:TE):TE:=fun Z H Q=>ta Z H<|Yc tb Z Q
def kOr(tb:TE)(Z:St)(Q:VK):VK:=fun x H1=>match x with
 |.bl c=>if c=G then Q (.bl G) H1 else tb Z H1 Q
 |_=>False
def uOr(ta tb:TE):TE:=fun Z H Q=>ta Z H<|kOr tb Z Q
def Yo(Q:VK):VK:=fun x H1=>match x with
 |.bl c=>Q (.bl<|!c) H1
 |_=>False
def WM(ta:TE):TE:=fun Z H Q=>ta Z H<|Yo Q
def Sf(Q:Bool->Hp->Prop):VK:=fun x H'=>match x with
 |.bl k=>Q k H'
 |_=>False
def Uj(t:TE):TT:=fun Z H Q=>t Z H<|Sf Q
def We(K:aT)(Q:Bool->Hp->Prop):VK:=fun x H=>match x with
 |.non=>Q η H
 |.bl b=>Q b H
 |.int i=>Q (i != 0) H
 |.str y=>y.length<=aaL/\Q ((y.length:Int) != 0) H
 |.ref p=>((∃xs,gr K H p xs/\Q (!xs.isEmpty) H)\/(∃xs,m7 K H p xs/\Q (!xs.isEmpty) H))\/∃a,H p=J (.dK a)/\Q (!a.isEmpty) H
 |_=>False
def EI(K:aT)(ta:TE):TT:=fun Z H Q=>ta Z H<|We K Q
theorem GU(K:aT)(k:PE X a ta)(j:∀c,isTrue a X.env c=(do let v <-c;afh a.pos;holding [v] (truthy v)))(g:autoParam (X.K=K) Xaz):
  PT X a (EI K ta):=by
 subst g;intro aa s Z H Q I h;refine isTrue_plain (bP (k aa s Z H _ I h) fun v f e=>jZ e fun x H1 d r1 q1=>Qg aa f Z H1 x v Q d r1 ?_)<|j _;cases x with
 |non=>exact⟨_,rfl,q1⟩
 |bl b=>exact⟨_,rfl,q1⟩
 |int i=>exact⟨_,rfl,q1⟩
 |str y=>exact⟨_,⟨q1.1,rfl⟩,q1.2⟩
 |ref p=>
  rcases q1 with(⟨xs,h1,h2⟩|⟨xs,h1,h2⟩)|⟨xs,h1,h2⟩
  .exact⟨_,.inl ⟨xs,h1,rfl⟩,h2⟩
  .exact⟨_,.inr<|.inl ⟨xs,h1,rfl⟩,h2⟩
  .exact⟨_,.inr<|.inr ⟨xs,h1,rfl⟩,h2⟩
 |_=>exact q1.elim
def Sb:R2:=fun x y H Q=>match x,y with
 |.int i,.int j=>Q (.int<|i-j) H
 |_,_=>False
theorem Yl:eJ X (aco .Sub) Sb:=Ru.imp fun x y H Q q=>by
 delta Sb at q;split at q
 .exact⟨_,_,rfl,rfl,q⟩
 .exact q.elim
def Um:R2:=fun x y H Q=>match x,y with
 |.int i,.int j=>ET i j/\Q (.int<|i/j) H
 |_,_=>False
theorem WH:eJ X (aco .FloorDiv) Um:=Mb.imp fun x y H Q q=>by
 delta Um at q;split at q
 .exact⟨_,_,rfl,rfl,q.1,q.2⟩
 .exact q.elim
def Sz:R2:=fun x y H Q=>match x,y with
 |.int i,.int j=>0<j/\Q (.int<|i%j) H
 |_,_=>False
theorem Wp:eJ X (aco .Mod) Sz:=Ot.imp fun x y H Q q=>by
 delta Sz at q;split at q
 .exact⟨_,_,rfl,rfl,q.1,q.2⟩
 .exact q.elim
def SD:R2:=fun x y H Q=>match x,y with
 |.int i,.int j=>Iy i j/\Q (.int<|i^j.toNat) H
 |_,_=>False
theorem Xa:eJ X (aco .Pow) SD:=Qw.imp fun x y H Q q=>by
 delta SD at q;split at q
 .exact⟨_,_,rfl,rfl,q.1,q.2⟩
 .exact q.elim
def UU(x:V)(H:Hp)(Q:VK):Prop:=match x with
 |.int i=>Q (.int<|-i) H
 |_=>False
theorem Wk:KD X (unaryOp .USub) UU:=Qs.imp fun x H Q q=>by
 delta UU at q;split at q
 .exact⟨_,rfl,q⟩
 .exact q.elim
theorem Dv:eJ X (aaY .LtE) (fun x y H Q=>∃i j,x=.str i/\y=.str j/\Q (.bl<|!decide (j.cps.toList<i.cps.toList)) H):=by
 intro aa s Z H x y v u Q I b a h;obtain⟨i,j,rfl,rfl,q⟩:=h;obtain⟨t,rfl⟩:=b;obtain⟨t',rfl⟩:=a;exact P.le_str<|aB I q rfl
theorem DS:eJ X (aaY .GtE) (fun x y H Q=>∃i j,x=.str i/\y=.str j/\Q (.bl<|!decide (i.cps.toList<j.cps.toList)) H):=by
 intro aa s Z H x y v u Q I b a h;obtain⟨i,j,rfl,rfl,q⟩:=h;obtain⟨t,rfl⟩:=b;obtain⟨t',rfl⟩:=a;exact P.ge_str<|aB I q rfl
theorem Db:eJ X (aaY .Gt) (fun x y H Q=>∃i j,x=.str i/\y=.str j/\Q (.bl<|decide (j.cps.toList<i.cps.toList)) H):=by
 intro aa s Z H x y v u Q I b a h;obtain⟨i,j,rfl,rfl,q⟩:=h;obtain⟨t,rfl⟩:=b;obtain⟨t',rfl⟩:=a;exact P.gt_str<|aB I q rfl
def Xn:R2:=fun x y H Q=>match x,y with
 |.int i,.int j=>Q (.bl<|decide (i<j)) H
 |.str i,.str j=>Q (.bl<|decide (i.cps.toList<j.cps.toList)) H
 |_,_=>False
def Yy:R2:=fun x y H Q=>match x,y with
 |.int i,.int j=>Q (.bl<|decide (i<=j)) H
 |.str i,.str j=>Q (.bl<|!decide (j.cps.toList<i.cps.toList)) H
 |_,_=>False
def W9:R2:=fun x y H Q=>match x,y with
 |.int i,.int j=>Q (.bl<|decide (j<i)) H
 |.str i,.str j=>Q (.bl<|decide (j.cps.toList<i.cps.toList)) H
 |_,_=>False
def XA:R2:=fun x y H Q=>match x,y with
 |.int i,.int j=>Q (.bl<|decide (j<=i)) H
 |.str i,.str j=>Q (.bl<|!decide (i.cps.toList<j.cps.toList)) H
 |_,_=>False
theorem ZV:eJ X (aaY .Lt) Xn:=(TW.or Dt).imp fun x y H Q q=>by
 delta Xn at q;split at q
 .exact .inl ⟨_,_,rfl,rfl,q⟩
 .mright
 .exact q.elim
theorem Zd:eJ X (aaY .LtE) Yy:=(Ts.or Dv).imp fun x y H Q q=>by
 delta Yy at q;split at q
 .exact .inl ⟨_,_,rfl,rfl,q⟩
 .mright
 .exact q.elim
theorem YY:eJ X (aaY .Gt) W9:=(Su.or Db).imp fun x y H Q q=>by
 delta W9 at q;split at q
 .exact .inl ⟨_,_,rfl,rfl,q⟩
 .mright
 .exact q.elim
theorem Y0:eJ X (aaY .GtE) XA:=(UI.or DS).imp fun x y H Q q=>by
 delta XA at q;split at q
 .exact .inl ⟨_,_,rfl,rfl,q⟩
 .mright
 .exact q.elim
theorem HG:eJ X (aaY .Is) (fun x y H Q=>∃j,y=.bl j/\Q (.bl<|decide (x=.bl j)) H):=by
 intro aa s Z H x y v u Q I a b h;obtain⟨j,rfl,q⟩:=h;subst b;cases x with
 |bl i=>subst a;exact ab6 rfl (aB I q<|⊥)
 |non=>subst a;exact ab6 rfl (aB I q<|by rfl)
 |int i=>obtain⟨t,rfl⟩:=a;exact ab6 rfl (aB I q<|by rfl)
 |str i=>obtain⟨t,rfl⟩:=a;exact ab6 rfl (aB I q<|by rfl)
 |byt i=>obtain⟨t,rfl⟩:=a;exact ab6 rfl (aB I q<|by rfl)
 |flt i=>obtain⟨t,rfl⟩:=a;exact ab6 rfl (aB I q<|by rfl)
 |ref i=>subst a;exact ab6 rfl (aB I q<|by rfl)
 |ty i=>subst a;exact ab6 rfl (aB I q<|by rfl)
theorem yY:eJ X (aaY .IsNot) (fun x y H Q=>∃j,y=.bl j/\Q (.bl<|!decide (x=.bl j)) H):=by
 intro aa s Z H x y v u Q I a b h;obtain⟨j,rfl,q⟩:=h;subst b;cases x with
 |bl i=>subst a;exact abH rfl (aB I q<|by cases i<;>cases j<;>rfl)
 |non=>subst a;exact abH rfl (aB I q<|by rfl)
 |int i=>obtain⟨t,rfl⟩:=a;exact abH rfl (aB I q<|by rfl)
 |str i=>obtain⟨t,rfl⟩:=a;exact abH rfl (aB I q<|by rfl)
 |byt i=>obtain⟨t,rfl⟩:=a;exact abH rfl (aB I q<|by rfl)
 |flt i=>obtain⟨t,rfl⟩:=a;exact abH rfl (aB I q<|by rfl)
 |ref i=>subst a;exact abH rfl (aB I q<|by rfl)
 |ty i=>subst a;exact abH rfl (aB I q<|by rfl)
def BI:V->V->Bool
 |.non,.non=>G
 |.bl i,.bl j=>i==j
 |_,_=>η
def Wu:R2:=fun x y H Q=>match y with
 |.non=>Q (.bl<|BI x .non) H
 |.bl j=>Q (.bl<|BI x<|.bl j) H
 |_=>False
def z6:R2:=fun x y H Q=>match y with
 |.non=>Q (.bl<|!BI x .non) H
 |.bl j=>Q (.bl<|!BI x (.bl j)) H
 |_=>False
theorem BG(x:V):decide (x=.non)=BI x .non:=by cases x<;>rfl
theorem Eo(x:V)(j:Bool):decide (x=.bl j)=BI x (.bl j):=by
 cases x with
 |bl i=>cases i<;>cases j<;>rfl
 |_=>trivial
theorem Zi:eJ X (aaY .Is) Wu:=(Qr.or HG).imp fun x y H Q q=>by
 delta Wu at q;split at q
 .exact .inl ⟨rfl,by rw[BG];exact q⟩
 .exact .inr ⟨_,rfl,by rw[Eo];exact q⟩
 .exact q.elim
theorem Gu:eJ X (aaY .IsNot) z6:=(Lc.or yY).imp fun x y H Q q=>by
 delta z6 at q;split at q
 .exact .inl ⟨rfl,by rw[BG];exact q⟩
 .exact .inr ⟨_,rfl,by rw[Eo];exact q⟩
 .exact q.elim
def TD(K:aT):R2:=fun x y H Q=>match x,y with
 |.str z,.int i=>∃c,z.length<=aaL/\atI z.cps.toList i=J c/\Q (.str ⟨#[c]⟩) H
 |.ref p,.int i=>∃xs v,(gr K H p xs\/m7 K H p xs)/\atI xs i=J v/\Q v H
 |_,_=>False
theorem WL(K:aT)(b:autoParam (X.K=K) Xaz):DX X<|TD K:=by
 subst b;exact(OP.imp fun x y H Q q=>by
   delta TD at q;split at q
   .obtain⟨c,h1,h2,a⟩:=q
    exact .inr (.inr ⟨_,_,c,rfl,rfl,h1,h2,a⟩)
   .obtain⟨xs,v,h1|h1,h2,a⟩:=q
    .exact .inl ⟨_,xs,_,v,rfl,rfl,h1,h2,a⟩
    .exact .inr (.inl ⟨_,xs,_,v,rfl,rfl,h1,h2,a⟩)
   .exact q.elim)
def PJ(K:aT)(xs:afx)(H:Hp)(Q:VK):Prop:=match xs with
 |[.str y]=>y.length<=aaL/\Q (.int y.length) H
 |[.ref p]=>∃ys,(gr K H p ys\/m7 K H p ys)/\Q (.int ys.length) H
 |_=>False
theorem U1(K:aT)(a:autoParam (X.K=K) Xaz):bI X (.builtin "len")<|PJ K:=by
 subst a;exact((wz.or xq).imp fun xs H Q q=>by
   delta PJ at q;split at q
   .mright
   .mright
   .exact q.elim)
def Ux(xs:afx)(H:Hp)(Q:VK):Prop:=match xs with
 |[.int i]=>Q (.int<|if i<0 then -i else i) H
 |_=>False
theorem Wi:bI X (.builtin "abs") Ux:=Hz.imp fun xs H Q q=>by
 delta Ux at q;split at q
 .mright
 .exact q.elim
def Sh(xs:afx)(H:Hp)(Q:VK):Prop:=match xs with
 |[.int i]=>Q (.int i) H
 |[.bl k]=>Q (.int<|if k=G then 1 else 0) H
 |_=>False
theorem Yk:bI X (.type "int") Sh:=DM.imp fun xs H Q q=>by
 delta Sh at q;split at q
 .mright
 .mright
 .exact q.elim
def SZ(xs:afx)(H:Hp)(Q:VK):Prop:=match xs with
 |[.int i,.int j]=>Q (.int<|if j > i then j else i) H
 |_=>False
theorem WB(a:X.calm=G):bI X (.builtin "max") SZ:=(DB a).imp fun xs H Q q=>by
 delta SZ at q;split at q
 .exact⟨_,_,rfl,q⟩
 .exact q.elim
end
noncomputable def al:aa1->Bool
 |.Starred ..=>η
 |_=>G
theorem bC(h:al e=G):abb (e::es) env=(η,eval e env)::abb es env:=by
 cases e<;>first|rfl|nofun
theorem bH:∀{es:List aa1},es.all al=G->(adz pos<|abb es env).any (·.1)=η
 |[],_=>rfl
 |e::es,h=>by
  rw[aa5,oR]at h;rw[bC h.1];have a:=bH (env:=env) (pos:=pos) h.2;assumption
theorem Jr(b:PE X e te)(c:PA X es t)(a:autoParam (al e=G) Xaz):PA X (e::es)<|uM te t:=Kz b c<|bC a
section
variable{p pos:Pos}{id:String}
theorem Xp(c:bI X (.builtin id) r)(b:X.mg x=U)(g:aaT x=J (.builtin id))(d:PA X (e::es) t)(f:autoParam (Gl X x) Xaz)(h1:autoParam (al e=G) Xaz)(h2:autoParam (es.all al=G) Xaz)(h:autoParam (x≠"__name__") Xax)(a:autoParam (afz x) Xax):
  PE X (.Call (.Name x p) (e::es) [] pos) (RD r t):=GF c f b g d h a (bC h1)<|bH h2
theorem XW(c:bI X (.type T) r)(b:X.mg x=U)(g:aaT x=J (.type T))(d:PA X (e::es) t)(f:autoParam (Gl X x) Xaz)(h1:autoParam (al e=G) Xaz)(h2:autoParam (es.all al=G) Xaz)(h:autoParam (x≠"__name__") Xax)(a:autoParam (afz x) Xax):
  PE X (.Call (.Name x p) (e::es) [] pos) (RD r t):=Dw c f b g d h a (bC h1)<|bH h2
end
theorem EH:aaT "len"=J (.builtin "len"):=⊤
theorem Hw:aaT "str"=J (.type "str"):=⊤
theorem zP:aaT "int"=J (.type "int"):=⊤
theorem sU:aaT "tuple"=J (.type "tuple"):=⊤
theorem OD:aaT "zip"=J (.type "zip"):=⊤
theorem UR{pos:Pos}(a:X.mg x=U)(c:aaT x=J (.type n))(b:autoParam (Gl X x) Xaz)(d:autoParam (x≠"__name__") Xax)(hd:autoParam (afz x) Xax):PE X (.Name x pos)<|tC<|.ty n:=
 Ks b a c rfl d hd
def kQ(T C:String):Bool:=T==C||(T=="bool"&&C=="int")
noncomputable def qm(C:String):Bool:=C=="str"||C=="int"||C=="bool"||C=="list"||C=="tuple"||C=="dict"
theorem gZ{K:aT}(b:T="NoneType"\/T="bool"\/T="int"\/T="str"\/T="list"\/T="tuple"\/T="dict")(c:qm C=G):afj K (.type T) (.type C)=J (kQ T C):=by
 have a:C="str"\/C="int"\/C="bool"\/C="list"\/C="tuple"\/C="dict":=by
  delta qm at c
  lia
 rcases b with h|h|h|h|h|h|h<;>subst h<;>rcases a with h|h|h|h|h|h<;>subst h<;>first|rfl|trivial
section
variable{X:Cx}
def TZ(Q:Option Int->Hp->Prop):VK:=fun x H1=>match x with
 |.int i=>Q (J i) H1
 |_=>False
def Sg(t:TE):TO:=fun Z H Q=>t Z H<|TZ Q
def rY(z:Str)(lo a:Option Int):Str:=⟨((z.cps.toList.drop<|HT.sIx z.length 0 lo).take<|HT.sIx z.length z.length a-HT.sIx z.length 0 lo).toArray⟩
theorem Mu(v:Int)(n d:Nat):max 0 (min (if v<0 then v+(n:Int)else v) (n:Int))=((HT.sIx n d (J v):Nat):Int):=by
 show _=(((if v<0 then(v+n).toNat else min v.toNat n):Nat):Int)
 split<;>lia
theorem loS(lo:Option Int)(n:Nat):(match lo with|none=>(0:Int)|some i=>max 0<|min (if i<0 then i+(n:Int)else i) (n:Int))=((HT.sIx n 0 lo:Nat):Int):=by
 cases lo with
 |none=>rfl
 |some v=>exact Mu v n 0
theorem hiS(a:Option Int)(n:Nat):(match a with|none=>(n:Int)|some i=>max 0<|min (if i<0 then i+(n:Int)else i) (n:Int))=((HT.sIx n n a:Nat):Int):=by
 cases a with
 |none=>rfl
 |some v=>exact Mu v n n
theorem Ty(lo a:Option Int)(n:Nat):abT lo a 1 n=sliceRange ((HT.sIx n 0 lo:Nat):Int) ((HT.sIx n n a:Nat):Int) 1:=by
 rw[<-loS,<-hiS];rfl
theorem Xq(a b n:Nat)(c:a<=n)(d:b<=n):abT (J (a:Int)) (J (b:Int)) 1 n=sliceRange (a:Int) (b:Int) 1:=by
 rw[Ty,HT.rG,HT.rG,ad8 c,ad8 d]
theorem zQ(z:Str)(lo hi:Option Int):Txt.slice z lo hi=rY z lo hi:=by
 have f:=HT.G6 z.length 0 (aa2 _) lo;have d:=HT.G6 z.length z.length (mK _) hi;delta Txt.slice;rw[Ty,<-Xq _ _ _ f d];delta rY;generalize HT.sIx z.length 0 lo=a at f⊢;generalize HT.sIx z.length z.length hi=b at d⊢;by_cases c:a<=b
 .exact StrLaws.sliceText_nat z c d
 .have e:abT (J a) (J b) 1 z.length=[]:=by
   have h1:((1:Int) > 0)=True:=∅
   have g:¬((a:Int)<0):=⊥
   have i:¬((b:Int)<0):=⊥
   have e1:max 0 (min a z.length)=a:=by mright
   have e2  := by omega
   simp only[abT,sliceRange,h1,if_true,afl g,afl i,e1,e2];rw[afl<|by grind];rfl
  have e0:b-a=0:=by grind
  rw[e,e0];split
  .rename_i h;have hz  := by
    have h'  := by simpa using h
    exact h'.symm
   apply Str.ext'
   exact Array.eq_empty_of_size_eq_zero hz
  .rfl
theorem Lb(z:Str)(lo a:Option Int):(rY z lo a).length<=z.length:=by
 delta rY;simp[acT];lia
theorem QD:V2 X (fun x lo a H Q=>∃z,x=.str z/\z.length<=aaL/\Q (.str<|rY z lo a) H):=by
 intro aa s Z H x v r y lo a g Q I o hs pl f h;obtain⟨z,rfl,m,q⟩:=h;obtain⟨t,rfl⟩:=o;have fin:∀(l u:Option<|Int×Tok),l.map (·.1)=lo->u.map (·.1)=a->s.heap.IsSlice g l u U->aaN (aaO X.prog X.w) X.A (ae1 (.str z t)<|.ref g) (EP X aa Z Q) X.xe s:=fun l u e1 n b=>by
  refine aO I.tk<|wpAny_getItem_str_slice b rfl ?_;subst e1 n;refine post_val_or_str ?_;have e:(if(((U:Option<|Int×Tok).map (·.1)).getD 1==1&&(slicePicked z l u U).length==z.length)=G then z else⟨((slicePicked z l u U).filterMap (z.cps[·]?)).toArray⟩)=Txt.slice z (l.map (·.1)) (u.map (·.1)):=rfl;rw[e,zQ];exact⟨RW (Lb _ _ _) m,fun t' k p=>⟨.str _,H,I.tok _,⟨t',rfl⟩,q⟩⟩
 refine⟨"str",_,F.slot_str_getitem.lookup,typeIs_str s z t,?_⟩;cases pl with
 |none=>
  cases f with
  |none=>exact fin U U rfl rfl hs
  |int j c=>exact fin U (J (j,c)) rfl rfl hs
 |int i d=>
  cases f with
  |none=>exact fin (J (i,d)) U rfl rfl hs
  |int j c=>exact fin (J (i,d)) (J (j,c)) rfl rfl hs
variable{tg:aa1}
def kIt(K:aT)(R:It->Hp->Prop):VK:=fun x H1=>match x with
 |.str z=>R (VT z) H1
 |.ref a=>((∃xs,gr K H1 a xs)/\R (XI K a) H1)\/((∃xs,m7 K H1 a xs)/\R (WQ K a) H1)
 |_=>False
def Zv(K:aT)(tl:TE):TI:=fun Z H R=>tl Z H<|kIt K R
theorem Oc(K:aT)(B:PE X l tl)(y:autoParam (X.K=K) Xaz):PI X tg l<|Zv K tl:=by
 subst y;intro aa s Z H R I h;refine bP (B aa s Z H _ I h) fun v j w=>jZ w fun x H1 g r1 q1=>?_;cases x with
 |str z=>
  obtain⟨t,rfl⟩:=r1;have f:∀b∈[j.heap.objs.size],gE X aa H1 b:=fun b r=>by
   have e  := by simpa using r
   subst e;exact g.fpOk (mK _)<|g.hok.fresh<|mK _
  cases ha:z.cps.all (·<128)
  .refine wpAny_pyIter_wide ha ?_;exact⟨j.heap.objs.size,[j.heap.objs.size],_,_,H1,rfl,g.kept fun b o e=>iN _ e,(fun it z t =>  tJ (fun A n=>Walks.strWide n it z t) (fun i h q_=>Z13 q_ fun o e c d=>⟨o,_,_,e,c,d,by rfl⟩) (fun i H h=>h) (fun i H u _ h=>Io h) (fun i h H e st=>by
     have k:i=z.cps.size:=e;rw[<-k];exact st) fun A i s Q E st h=>wpAny_pyIter_striter_wide st h) _ z t,⟨_,aaD _ rfl,rfl,rfl⟩,f,q1⟩
  .refine wpAny_pyIter_ascii ha ?_;exact⟨j.heap.objs.size,[j.heap.objs.size],_,_,H1,rfl,g.kept fun b o e=>iN _ e,(fun it z t =>  tJ (fun A n=>Walks.strAscii n it z t) (fun i h q_=>Z13 q_ fun o e c d=>⟨o,_,_,e,c,d,by rfl⟩) (fun i H h=>h) (fun i H u _ h=>Io h) (fun i h H e st=>by
     have k:i=z.cps.size:=e;rw[<-k];exact st) fun A i s Q E st h=>wpAny_pyIter_striter_ascii st h) _ z t,⟨_,aaD _ rfl,rfl,rfl⟩,f,q1⟩
 |ref a=>
  subst r1;have f:∀b∈[j.heap.objs.size],gE X aa H1 b:=fun b r=>by
   have e  := by simpa using r
   subst e;exact g.fpOk (mK _)<|g.hok.fresh<|mK _
  rcases q1 with⟨⟨xs,m⟩,q⟩|⟨⟨xs,m⟩,q⟩
  .obtain⟨aV,rv,p,hz⟩:=g.list m
   refine wpAny_pyIter_list p.isList ?_;exact⟨j.heap.objs.size,[j.heap.objs.size],_,_,H1,rfl,g.kept fun b o e=>iN _ e,D0 a _,⟨_,aaD _ rfl,rfl,rfl⟩,f,q⟩
  .obtain⟨aV,rv,p,hz⟩:=g.tuple m
   refine wpAny_pyIter_tuple ((p)) ?_;exact⟨j.heap.objs.size,[j.heap.objs.size],_,_,H1,rfl,g.kept fun b o e=>iN _ e,AI a _,⟨_,aaD _ rfl,rfl,rfl⟩,f,q⟩
 |_=>exact q1.elim
def N4(R:It->Hp->Prop):afx->Hp->Prop:=fun vs H1=>match vs with
 |[.int j]=>(-(2^62)<=j/\j<2^62)/\R (V5 0 j.toNat) H1
 |_=>False
def Mw(ta:TA):TI:=fun Z H R=>ta Z H<|N4 R
theorem Dg(d:Gl X "range")(b:X.mg "range"=U)(g:PA X [a] ta)(hs:autoParam (abb [a] X.env=[(η,eval a X.env)]) Xaz):PI X tg (.Call (.Name "range" p) [a] [] pos)<|Mw ta:=by
 intro aa s Z H R I h;refine Call_<|tw I d b boot_range<|acy (bP (g pos aa s Z H _ I h) fun us i e=>jZ e fun vs H1 c r1 q1=>?_) hs rfl;unfold N4 at q1;split at q1
 .obtain⟨⟨q2,q3⟩,q⟩:=q1
  cases r1 with
  |cons r f=>
   cases f;obtain⟨t,rfl⟩:=r;exact call_range_1 (G8 c ∅ ∅ q2 q3<|by simpa using q)
 .exact q1.elim
def WG(r:Str->afx->Hp->VK->Prop)(z:Str)(Q:VK):afx->Hp->Prop:=fun xs a=>r z xs a Q
def kSM(r:Str->afx->Hp->VK->Prop)(t:TA)(Z:St)(Q:VK):VK:=fun x H1=>match x with
 |.str z=>t Z H1<|WG r z Q
 |_=>False
def Zr(r:Str->afx->Hp->VK->Prop)(a:TE)(t:TA):TE:=fun Z H Q=>a Z H<|kSM r t Z Q
def Oj(X:Cx)(id:String)(r:Str->afx->Hp->VK->Prop):Prop:=
 ∀(aa:afs)(s:ID)(Z:St)(H:Hp)(z:Str)(t:Tok)(xs:afx)(us:afw)(Q:VK),Inv X aa Z H s->aU xs us->r z xs H Q ->
  aaN (aaO X.prog X.w) X.A (call (.builtin id)<|.str z t::us) (EP X aa Z Q) X.xe s
theorem Ve{apos cpos:Pos}{id:String}(d:Slot "str" name id)(i:typeOf (.builtin id)=pure (.type "method_descriptor"))(m:Oj X id r)(u:PE X o to)(w:PA X (e::es) t)
  (c:autoParam (aaF o name X.env (eval o X.env)=eval o X.env) Xaz)
  (f:((adz cpos<|abb (e::es) X.env).all (fun x=>!x.1)&&(backToKw cpos<|adB [] X.env).all (fun x=>x.1.isSome)
   && decide ((e::es).length+([]:List aeD).length+(if([]:List aeD).isEmpty then 0 else 1)<30))=G:=by rfl)
  (b:autoParam ((apos.endLine==cpos.line)=G) Xaz) (hs:autoParam (abb (e::es) X.env=(η,eval e X.env)::abb es X.env) Xaz) (a:autoParam ((adz cpos<|abb es X.env).any (·.1)=η) Xaz):
  PE X (.Call (.Attribute o name apos) (e::es) [] cpos) (Zr r to t):=by
 intro aa s Z H Q I h;refine wpAny_Call_method_late c f b rfl (bP (u aa s Z H _ I h) fun v j g=>jZ g fun x H1 n r1 q1=>?_);cases x with
 |str z=>
  obtain⟨l,rfl⟩:=r1;refine⟨"str",id,ac5,d,i,typeIs_str j z l,(fun _ e=>nomatch e),?_⟩
  have k:=w cpos aa j Z H1 _ n q1;rw[hs]at k⊢;refine abW (by show(η||(adz cpos<|abb es X.env).any (·.1))=η;rw[a]<;>rfl)<|acJ ?_;exact bP k fun us y g=>jZ g fun vs q p r2 q2=>m aa y Z q z l vs us Q p r2 q2
 |_=>exact q1.elim
def Hx(K:aT)(z:Str)(xs:afx)(H:Hp)(Q:VK):Prop:=match xs with
 |[.ref p]=>∃ys:afr,gr K H p (ys.map V.str)/\(ys.map (·.length)).sum+ys.length*z.length<=16777216/\Q (.str<|acP z ys) H
 |_=>False
theorem sj:∀{ys:afr}{us:afw},aU (ys.map V.str) us->StrsAre us ys
 |[],us,r=>by cases r;exact .nil
 |y::ys,us,r=>by
  cases r with
  |cons r a=>
   obtain⟨t,rfl⟩:=r;exact .cons y t (sj a)
theorem Bf(K:aT)(a:autoParam (X.K=K) Xaz):Oj X "str.join"<|Hx K:=by
 subst a;intro aa s Z H z t xs us Q I r h;delta Hx at h;cbv
 .refine Z13 h fun ys hq hz q=>?_
  obtain⟨u,rfl,b⟩:=jV r;subst b;obtain⟨aV,rv,p,hz'⟩:=I.list hq
  exact aO I.tk<|join_list p.isList (by simpa using sj rv) hz fun t' k c=>⟨.str<|acP z ys,H,I.tok _,⟨t',rfl⟩,q⟩
 .mleft
def VH(f:Str->Str->V)(z:Str)(xs:afx)(H:Hp)(Q:VK):Prop:=match xs with
 |[.str y]=>Q (f z y) H
 |_=>False
theorem ut:Oj X "str.startswith"<|VH fun x y=>.bl<|abQ x y:=by
 intro aa s Z H z t xs us Q I r h;delta VH at h;cbv
 .obtain⟨u,rfl,t',rfl⟩:=jV r;exact SC.startswith ⟨.bl _,H,I,rfl,h⟩
 .mleft
theorem yS:Oj X "str.endswith"<|VH fun x y=>.bl<|adh x y:=by
 intro aa s Z H z t xs us Q I r h;delta VH at h;cbv
 .obtain⟨u,rfl,t',rfl⟩:=jV r;exact SC.endswith ⟨.bl _,H,I,rfl,h⟩
 .mleft
end
structure Def(K:aT)(mg:afu)(x:Str)(st:abN)(ps:afr)(f:aaB)(fd:abI):Prop where
 F:Fun K x x st f fd
 b:cf K fd ps []
 m:mg x=J (.ref f)
section
variable{st:abN}{p pos:Pos}
def R7(sp:Sp)(t:TA):TE:=fun Z H Q=>t Z H fun vs H1=>sp vs H1 Q E0
end
theorem bR(h:H p=U)(o:HO):ah H<|br H p o:=fun b u q=>by rw[aG<|bc q h];exact q
theorem ah.seqT{K:aT}(e:ah H H')(h:m7 K H a xs):m7 K H' a xs:=by
 rcases h with(h|⟨o,h⟩)|h
 .exact .inl (.inl<|e _ _ h)
 .exact .inl (.inr ⟨o,e _ _ h⟩)
 .exact .inr h
theorem CC(a b:Str):(a++b).cps.toList=a.cps.toList++b.cps.toList:=by
 exact Array.toList_append
theorem NT:∀(sep:Str)(ys:afr),(aeJ sep ys).cps.toList=((ys.map fun y:Str=>y.cps.toList).intersperse sep.cps.toList).flatten
 |_,[]=>rfl
 |_,[x]=>by simp[aeJ]
 |sep,x::y::r=>by
  have a:=NT sep<|y::r;show((x++sep)++aeJ sep (y::r)).cps.toList=_;rw[CC,CC,a];simp
theorem iT(a:Str)(ys:afr):(acP a ys).cps.toList=((ys.map fun y:Str=>y.cps.toList).intersperse a.cps.toList).flatten:=by
 show(Builtin.Str.glued a ys).cps.toList=_;rw[StrLaws.glued_eq_join,NT]
section
variable{K:aT}
def X7(r:R2)(x:V)(Q:VK):VK:=fun y a=>r x y a Q
def X0(r:R2)(tb:TE)(Z:St)(Q:VK):VK:=fun x H1=>tb Z H1<|X7 r x Q
end
structure JE(X:Cx)(e:aa1)(t:TE):Prop where
 out:PE X e t
structure JT(X:Cx)(e:aa1)(t:TT):Prop where
 out:PT X e t
structure JW(X:Cx)(e:aa1)(t:TT):Prop where
 out:PW X e t
structure JA(X:Cx)(es:List aa1)(t:TA):Prop where
 out:PA X es t
structure JS(X:Cx)(st:abN)(t:TS):Prop where
 out:PS X st t
structure JB(X:Cx)(st:List abN)(t:TS):Prop where
 out:IR X st t
structure JG(X:Cx)(e:aa1)(t:TG):Prop where
 out:PG X e t
structure JGs(X:Cx)(es:List aa1)(t:Mg):Prop where
 out:VP X es t
structure JI(X:Cx)(tg e:aa1)(t:TI):Prop where
 out:PI X tg e t
structure JO(X:Cx)(e:Option aa1)(t:TO):Prop where
 out:PO X e t
structure JTs(X:Cx)(es:List aa1)(t:TT):Prop where
 out:RI X es t
section
variable{X:Cx}{pos:Pos}{rest:List aa1}
theorem jv(i:Nat)(b:autoParam (X.N[i]?=J x) Xaz)(c:autoParam (m6 X.env.scope x) Xcz)(hd:autoParam (afz x) Xax)
  (a:autoParam ((x==("__classdict__":Str))=η) Xax):JE X (.Name x pos)<|z8 i:=⟨qv i b c hd a⟩
theorem SG:JE X (.Constant (.int i) j pos)<|tC<|.int i:=⟨AE⟩
theorem W7{b j pos}:JE X (.Constant (.bool b) j pos)<|tC<|.bl b:=⟨(fun _ _ _ H _ I h=>Constant_bool ⟨.bl b,H,I,rfl,h⟩)⟩
theorem UZ:JE X (.Constant .none j pos)<|tC .non:=⟨(fun _ _ _ H _ I h=>Constant_none ⟨.non,H,I,rfl,h⟩)⟩
theorem Uy:JE X (.Constant (.str x) j pos)<|tC<|.str x:=⟨Jg⟩
theorem OC(b:X.mg x=J u)(r:aP v u)(a:autoParam (Gl X x) Xaz)(hd:autoParam (afz x) Xax):JE X (.Name x pos)<|tC v:=⟨JN a b r hd⟩
theorem Wx(a:X.mg x=U)(c:aaT x=J (.type n))(b:autoParam (Gl X x) Xaz)(d:autoParam (x≠"__name__") Xax)(hd:autoParam (afz x) Xax):JE X (.Name x pos)<|tC<|.ty n:=⟨UR a c b d hd⟩
theorem Wn(e:eJ X (aco op) r)(c:JE X a ta)(d:JE X b tb):JE X (.BinOp a op b pos)<|NB r ta tb:=⟨UK e c.out d.out⟩
theorem X3(c:KD X (unaryOp op) r)(e:JE X a ta):JE X (.UnaryOp op a pos)<|tUn r ta:=⟨(by
  intro aa s Z H Q I h;exact UnaryOp_ (bP (e.out aa s Z H _ I h) fun v b f=>jZ f fun x H1 d r1 q1=>c aa b Z H1 x v Q d r1 q1))⟩
theorem Sl(d:JE X a ta):JE X (.UnaryOp .Not a pos)<|WM ta:=⟨(by
  intro aa s Z H Q I h;refine UnaryOp_<|bP (d.out aa s Z H _ I h) fun v f e=>jZ e fun x H1 b r1 q1=>?_;cases x with
  |bl c=>
   subst r1;exact not_of<|ach ⟨.bl<|!c,H1,b,rfl,q1⟩
  |_=>exact q1.elim)⟩
theorem Sy(h:JE X a ta):JE X (.BoolOp op [a] pos) ta:=⟨O4 h.out⟩
theorem Se(g:JE X a ta)(i:JE X (.BoolOp .And (b::rest) pos) tb):JE X (.BoolOp .And (a::b::rest) pos)<|Xb ta tb:=⟨(by
  intro aa s Z H Q I h;refine BoolOp_and<|bP (g.out aa s Z H _ I h) fun v f e=>jZ e fun x H1 d r1 q1=>?_;cases x with
  |bl c=>
   subst r1;refine ach ?_;cases c with
   |true=>exact i.out aa f Z H1 Q d q1
   |false=>exact⟨.bl η,H1,d,rfl,q1⟩
  |_=>exact q1.elim)⟩
theorem XN(g:JE X a ta)(i:JE X (.BoolOp .Or (b::rest) pos) tb):JE X (.BoolOp .Or (a::b::rest) pos)<|uOr ta tb:=⟨(by
  intro aa s Z H Q I h;refine BoolOp_or<|bP (g.out aa s Z H _ I h) fun v f e=>jZ e fun x H1 d r1 q1=>?_;cases x with
  |bl c=>
   subst r1;refine ach ?_;cases c with
   |false=>exact i.out aa f Z H1 Q d q1
   |true=>exact⟨.bl G,H1,d,rfl,q1⟩
  |_=>exact q1.elim)⟩
theorem T8(e:eJ X (aaY op) r)(c:JE X a ta)(d:JE X b tb)(f:adq op b=η):JE X (.Compare a [op] [b] pos)<|NB r ta tb:=⟨JK e c.out d.out f⟩
theorem QJ(o:eJ X (aaY op) r)(p:JE X a ta)(t:JE X b tb)(f:adq op b=η):JT X (.Compare a [op] [b] pos)<|Uj<|NB r ta tb:=⟨(by
  intro aa s Z H Q I h;refine wpAny_isTrue_Compare1 (bP (p.out aa s Z H _ I h) fun v j d=>jZ d fun x H1 g r1 q1=>bP (t.out aa j Z H1 _ g q1) fun u q d=>jZ d fun y m l r2 q2=>
   bP (o aa q Z m x y v u _ l r1 r2 q2) fun c w d=>jZ d fun z i n r3 e=>?_) f
  cases z with
  |bl k=>
   subst r3;exact ach ⟨i,n,e⟩
  |_=>exact e.elim)⟩
theorem N9(e:JT X c tA)(f:JE X a ta)(g:JE X b tb):JE X (.IfExp c a b pos)<|tIf tA ta tb:=⟨(by
  intro aa s Z H Q I h;refine wpAny_IfExp<|bP (e.out aa s Z H _ I h) ?_;rintro d s1⟨H1,I1,q1⟩;cases d with
  |true=>exact f.out aa s1 Z H1 Q I1 q1
  |false=>exact g.out aa s1 Z H1 Q I1 q1)⟩
theorem Cc(h:JW X a tA):JT X a tA:=⟨h.out.pt⟩
theorem CW(b:JT X a tA):JW X (.BoolOp .And [a] pos) tA:=⟨(by
  intro f aa s Z H Q I h;refine isTrue_and<|bP (b.out aa s Z H Q I h) fun c d e=>?_;cases c with
  |true=>exact isTrue_and_nil e
  |false=>exact e)⟩
theorem IT(b:JT X a tA):JW X (.BoolOp .Or [a] pos) tA:=⟨(by
  intro f aa s Z H Q I h;refine isTrue_or<|bP (b.out aa s Z H Q I h) fun c d e=>?_;cases c with
  |false=>exact isTrue_or_nil e
  |true=>exact e)⟩
theorem Hq(d:JT X a tA)(f:JW X (.BoolOp .And (b::rest) pos) tB'):JW X (.BoolOp .And (a::b::rest) pos)<|Xl tA tB':=⟨(by
  intro e aa s Z H Q I h;refine isTrue_and<|bP (d.out aa s Z H _ I h) ?_;rintro c s1⟨H1,I1,q1⟩;cases c with
  |true=>exact f.out e aa s1 Z H1 Q I1 q1
  |false=>exact⟨H1,I1,q1⟩)⟩
theorem MC(d:JT X a tA)(f:JW X (.BoolOp .Or (b::rest) pos) tB'):JW X (.BoolOp .Or (a::b::rest) pos)<|tOr tA tB':=⟨(by
  intro e aa s Z H Q I h;refine isTrue_or<|bP (d.out aa s Z H _ I h) ?_;rintro c s1⟨H1,I1,q1⟩;cases c with
  |true=>exact⟨H1,I1,q1⟩
  |false=>exact f.out e aa s1 Z H1 Q I1 q1)⟩
theorem GZ(b:JT X a tA):JT X (.UnaryOp .Not a pos)<|WY tA:=⟨(by
  intro aa s Z H Q I h;exact isTrue_not (b.out aa s Z H (fun c H1=>Q (!c) H1) I h))⟩
theorem yR(K:aT)(d:JE X a ta)(c:autoParam (∀b,isTrue a X.env b=(do let v <-b;afh a.pos;holding [v] (truthy v))) Xdz)(e:autoParam (X.K=K) Xaz):JT X a<|EI K ta:=⟨GU K d.out c e⟩
theorem eD:JA X [] DG:=⟨(fun _ _ _ _ H Q I h=>aeU ⟨[],H,I,.nil,h⟩)⟩
theorem bU(b:JE X e te)(c:JA X es t)(a:autoParam (al e=G) Xaz):JA X (e::es)<|uM te t:=⟨Jr b.out c.out a⟩
theorem Hi(h:JA X es t):JE X (.List es pos)<|V9 t:=⟨(by
  intro aa s Z H Q I a;refine wpAny_List_spliced (bP (h.out pos aa s Z H _ I a) fun us s1 q_=>Z24 q_ fun xs H1 I1 r z q=>⟨by rw[<-r.length];exact z,?_⟩);have hf  := I1.hok.fresh (mK _);refine⟨.ref s1.heap.objs.size,br H1 s1.heap.objs.size (.lst xs),I1.laid (fun b u e=>iN _ e) (mK _) ?_,rfl,q _ hf⟩;exact⟨z,us,0,r,aaD _ rfl⟩)⟩
theorem Ci(h:JA X es t):JE X (.Tuple es x1 pos)<|WI t:=⟨(by
  intro aa s Z H Q I a;refine wpAny_Tuple_spliced (bP (h.out pos aa s Z H _ I a) fun us s1 q_=>Z24 q_ fun xs H1 I1 r z q=>⟨by rw[<-r.length];exact z,?_⟩);have hf  := I1.hok.fresh (mK _);refine⟨.ref s1.heap.objs.size,br H1 s1.heap.objs.size (.tup xs),I1.laid (fun b u e=>iN _ e) (mK _) ?_,rfl,q _ hf⟩;exact⟨z,us,r,⟨_,aaD _ rfl,rfl,_,rfl⟩⟩)⟩
theorem SV(c:DX X r)(g:JE X a ta)(k:JE X b tb)(hs:autoParam (rh b) Xdx):JE X (.Subscript a b pos)<|NB r ta tb:=⟨(by
  intro aa s Z H Q I h;exact Subscript_ (Ou g.out k.out I h fun v u i x y e d j f q=>c a b aa i Z e x y v u Q d j f q (hs _ _)))⟩
theorem Kt:JO X U J2:=⟨(by
  intro aa s Z H Q I h;exact aaG ⟨U,H,I,.none,h⟩)⟩
theorem Jx(h:JE X e te):JO X (J e)<|Sg te:=⟨(by
  intro aa s Z H Q I hw;refine bP (h.out aa s Z H _ I hw) fun u c b=>jZ b fun x H1 a r1 q1=>?_;cases x with
  |int i=>
   obtain⟨t,rfl⟩:=r1;exact⟨J i,H1,a,.int i t,q1⟩
  |_=>exact q1.elim)⟩
theorem Ml{lo a:Option aa1}(d:V2 X r)(j:JE X e te)(k:JO X lo tl)(i:JO X a th):JE X (.Subscript e (.Slice lo a U p2) pos)<|tSl r te tl th:=⟨(by
  intro aa s Z H Q I h;refine Subscript_<|bP (j.out aa s Z H _ I h) fun v g f=>jZ f fun x H1 c r1 q1=>?_;refine wpAny_Slice<|bP (k.out aa g Z H1 _ c q1) ?_;rintro vl s2⟨l,H2,I2,pl,q2⟩;refine bP (i.out aa s2 Z H2 _ I2 q2) ?_;rintro vu s3⟨u,H3,I3,pu,q3⟩;refine aaG ?_;have m:Inv X aa Z H3 {s3 with heap:=s3.heap.push {cls:=.type "slice",data:=.fields #[vl,vu,.none]}}:=I3.kept fun b n q=>iN _ q;let⟨T,id,hT,ht,hg⟩:=d aa {s3 with heap:=s3.heap.push {cls:=.type "slice",data:=.fields #[vl,vu,.none]}} Z H3 x v vl vu l u s3.heap.objs.size Q m r1 (Heap.IsSliceOf.new ..) pl pu q3
  exact tail_any ht hT hg (by rfl))⟩
end
section
variable{st:abN}{p pos:Pos}{id:String}
theorem AX(c:bI X (.builtin id) r)(b:X.mg x=U)(g:aaT x=J (.builtin id))(d:JA X (e::es) t)(f:autoParam (Gl X x) Xaz)(h1:autoParam (al e=G) Xaz)(h2:autoParam (es.all al=G) Xaz)(h:autoParam (x≠"__name__") Xax)(a:autoParam (afz x) Xax):
  JE X (.Call (.Name x p) (e::es) [] pos) (RD r t):=⟨Xp c b g d.out f h1 h2 h a⟩
theorem BN(c:bI X (.type T) r)(b:X.mg x=U)(g:aaT x=J (.type T))(d:JA X (e::es) t)(f:autoParam (Gl X x) Xaz)(h1:autoParam (al e=G) Xaz)(h2:autoParam (es.all al=G) Xaz)(h:autoParam (x≠"__name__") Xax)(a:autoParam (afz x) Xax):
  JE X (.Call (.Name x p) (e::es) [] pos) (RD r t):=⟨XW c b g d.out f h1 h2 h a⟩
end
section
variable{apos cpos:Pos}{id:String}
theorem tz(h:es.all al=G)(a:es.length<29):((adz pos<|abb es env).all (fun x=>!x.1)&&(backToKw pos<|adB [] env).all (fun x=>x.1.isSome)
   && decide (es.length+([]:List aeD).length+(if([]:List aeD).isEmpty then 0 else 1)<30))=G:=by
 have h1:(adz pos<|abb es env).all (fun x=>!x.1)=G:=by
  have:=bH (env:=env) (pos:=pos) h
  mright
 rw[h1];show(G&&G&&decide (es.length+0+0<30))=G
 lia
theorem UE(d:Slot "str" name id)(f:typeOf (.builtin id)=pure (.type "method_descriptor"))(h:Oj X id r)(g:JE X o to)(i:JA X (e::es) t)
  (a:autoParam (aaF o name X.env (eval o X.env)=eval o X.env) Xaz) (c:autoParam ((apos.endLine==cpos.line)=G) Xaz) (h1:autoParam ((e::es).all al=G) Xaz) (j:autoParam ((e::es).length<29) Xax):
  JE X (.Call (.Attribute o name apos) (e::es) [] cpos) (Zr r to t):=by
 have b:=h1;rw[aa5,oR]at b;exact⟨Ve d f h g.out i.out a (tz h1 j) c (bC b.1)<|bH b.2⟩
end
section
variable{tg elt:aa1}{pos:Pos}
theorem Kf:JTs X [] Wj:=⟨(fun _ _ _ H _ I h=>wpAny_tests_nil ⟨H,I,h⟩)⟩
theorem J9(h:JT X c tt):JTs X [c] tt:=⟨LN h.out⟩
theorem Qa(a:zr osc ON N ix scope=G)(j:JI X tg iter wi)(i:∀b,JG (jm X N scope b) tg g)(h:∀b,JTs (jm X N scope b) ifs tt)(c:∀b,JE (jm X N scope b) elt te)
  (d:autoParam (X.env.scope=osc) Xaz) (f:autoParam (X.N=ON) Xaz) (e:autoParam (X.calm=G) Xaz) (hs:autoParam (∀x,abl iter X.env x=pure x) Xcx):JE X (.ListComp elt [⟨tg,iter,ifs,0⟩] scope pos)<|Bm ix wi g tt te:=
 ⟨Ig (N5 a) d f e j.out (fun b=>(i b).out) (fun b=>(h b).out) (fun b=>(c b).out) hs⟩
theorem Ap{spos pos':Pos}(h:X.N.Nodup)(p:Loc X.env.scope x)(c:zr osc ON N ix scope=G)(f:JI X tg iter wi)(e:∀b,JG (jm X N scope b) tg g)(d:∀b,JTs (jm X N scope b) ifs tt)(n:∀b,JE (jm X N scope b) elt te)
  (l:autoParam (X.N[i]?=J x) Xaz) (j:autoParam (X.env.scope=osc) Xaz) (k:autoParam (X.N=ON) Xaz) (m:autoParam (X.calm=G) Xaz)
  (a:autoParam (abm (.ListComp elt [⟨tg,iter,ifs,0⟩] scope pos) (J<|.Name x pos') spos.line X.env=pure G) Xaz)
  (o:autoParam (X.fn x=G\/X.env.scope.names.lookup x=J .local) Xbx)
  (hs:autoParam (∀x,abl iter X.env x=pure x) Xcx):JS X (.Assign [.Name x pos'] (.ListComp elt [⟨tg,iter,ifs,0⟩] scope pos) spos)<|AL (Bm ix wi g tt te)<|ml i:=
 ⟨zS h l p (N5 c) j k m f.out (fun b=>(e b).out) (fun b=>(d b).out) (fun b=>(n b).out) a o hs⟩
theorem OQ(K:aT)(a:JE X l tl)(b:autoParam (X.K=K) Xaz):JI X tg l<|Zv K tl:=⟨Oc K a.out b⟩
theorem D8{p pos:Pos}(b:X.mg "range"=U)(c:JA X [a] ta)(d:autoParam (Gl X "range") Xaz)(e:autoParam (al a=G) Xaz):JI X tg (.Call (.Name "range" p) [a] [] pos)<|Mw ta:=⟨Dg d b c.out<|bC e⟩
end
section
variable{pos:Pos}{st:abN}{rest:List abN}
theorem Jy(a:X.N.Nodup)(b:X.N[i]?=J x)(d:Loc X.env.scope x)(c:autoParam (X.fn x=G\/X.env.scope.names.lookup x=J .local) Xbx):JG X (.Name x pos)<|ml i:=⟨B4 a b d c⟩
theorem JV:JGs X [] WE:=⟨(by
  intro aa s Z H vs us Q I r h;obtain⟨e,h⟩:=h
  exact assignInOrder_nil ⟨Z,H,I,h⟩)⟩
theorem Ii{t:TG}{u:Mg}(h1:JG X e t)(h2:JGs X es u)
  (hs:autoParam ((abE (e::es) X.env).map (·.2)=assign e X.env::(abE es X.env).map (·.2)) Xaz):JGs X (e::es)<|My t u:=⟨E7 h1.out h2.out hs⟩
theorem Rx(K:aT){k:Nat}{t:Mg}{n:Nat}(h:JGs X es t)(b:autoParam (X.calm=G) Xaz)
  (d:autoParam ((abE es X.env).length=n) Xaz) (a:autoParam ((abE es X.env).findIdx? (·.1)=U) Xaz) (c:autoParam (X.K=K) Xaz):JG X (.Tuple es k pos)<|SF K n t:=by
 subst c;exact⟨PM b h.out d a⟩
theorem Hu:JB X [] NV:=⟨(fun _ _ Z H _ I h=>acD ⟨Z,H,I,h⟩)⟩
theorem C0(h1:JS X st t)(h2:JB X rest u):JB X (st::rest)<|Xd t u:=⟨(by
  intro aa s Z H D I h;refine wpAny_execs_cons<|bP (h1.out aa s Z H {D with nx:=u D} I h) fun f b q=>?_;cases f with
  |next=>
   obtain⟨a,H',c,q⟩:=q;exact h2.out aa b a H' D c q
  |ret v=>exact q
  |brk=>exact q
  |cont=>exact q)⟩
theorem GK(h1:JS X st t):JB X [st] t:=⟨(by
  intro aa s Z H D I h;refine wpAny_execs_cons<|bP (h1.out aa s Z H D I h) fun f a q=>?_;cases f with
  |next=>exact acD q
  |ret v=>exact q
  |brk=>exact q
  |cont=>exact q)⟩
theorem Ki:JS X (.Pass pos) NV:=⟨(fun _ _ Z H _ I h=>wpAny_Pass ⟨Z,H,I,h⟩)⟩
theorem n9(a:JE X e te)(hs:autoParam (abm e U pos.line X.env=pure η) Xaz):JS X (.Expr e pos)<|GP te:=⟨L9 a.out hs⟩
theorem Fh(a:JE X e te):JS X (.Return (J e) pos)<|XC te:=⟨(by
  intro aa s Z H D I h;exact wpAny_Return_some (bP (a.out aa s Z H _ I h) fun v d c=>jZ c fun x H1 b r1 q1=>⟨x,Z,H1,b,r1,q1⟩))⟩
theorem Kc:JS X (.Return U pos) Ul:=⟨(fun _ _ Z H _ I h=>wpAny_Return_none ⟨.non,Z,H,I,rfl,h⟩)⟩
theorem N6(e:JT X c tc)(f:JB X a t)(g:JB X b u):JS X (.If c a b pos)<|Yp tc t u:=⟨(by
  intro aa s Z H D I h;refine wpAny_If<|bP (e.out aa s Z H _ I h) ?_;rintro d s1⟨H1,I1,q1⟩;cases d with
  |true=>exact f.out aa s1 Z H1 D I1 q1
  |false=>exact g.out aa s1 Z H1 D I1 q1)⟩
theorem pw{pos':Pos}(a:X.N.Nodup)(f:Loc X.env.scope x)(b:JE X e te)(d:autoParam (X.N[i]?=J x) Xaz)(hs:autoParam (abm e (J<|.Name x pos') pos.line X.env=pure η) Xaz)(c:autoParam (X.fn x=G\/X.env.scope.names.lookup x=J .local) Xbx):
  JS X (.Assign [.Name x pos'] e pos) (AL te<|ml i):=⟨Rc a d f b.out hs c⟩
theorem QE(d:adA (aaO X.prog X.w) X.A X.env X.xe)(c:JI X tg iter wi)(b:JG X tg g)(e:JB X body tb)(a:autoParam (X.calm=G) Xaz)
  (hs:autoParam (∀x,abl iter X.env x=pure x) Xcx):JS X (.For tg iter body [] pos)<|Uz wi g tb:=⟨OL d a c.out b.out e.out hs⟩
theorem yn(e:adA (aaO X.prog X.w) X.A X.env X.xe)(j:JT X c tc)(k:JB X body tb):JS X (.While c body [] pos)<|Rk tc tb:=⟨(by
  intro aa s Z H D I h;obtain⟨W,⟨i,g⟩,oO⟩:=h;refine wpAny_While<|codeAny_whileLoop (fun n s'=>∃a H',Inv X aa a H' s'/\W n a H') ?_ i ⟨Z,H,I,g⟩;rintro n s1 ⟨σ1,H1,I1,w1⟩;refine acg e<|bP (j.out aa s1 σ1 H1 _ I1<|oO n σ1 H1 w1) ?_;rintro b s2⟨H2,I2,q2⟩;cases b with
  |true=>
   obtain⟨N,hN,q2⟩:=q2
   refine acg e<|bP (k.out aa s2 σ1 H2 _ I2 q2) fun f l d=>?_;cases f with
   |next=>
    obtain⟨σ3,H3,I3,n3⟩:=d
    obtain⟨m',hm,w3⟩:=hN σ3 H3 n3
    exact⟨m',hm,σ3,H3,I3,w3⟩
   |cont=>
    obtain⟨σ3,H3,I3,n3⟩:=d
    obtain⟨m',hm,w3⟩:=hN σ3 H3 n3
    exact⟨m',hm,σ3,H3,I3,w3⟩
   |brk=>exact d
   |ret v=>exact d
  |false=>
   exact acD ⟨σ1,H2,I2,q2⟩)⟩
end
section
variable{K:aT}
theorem Fun.okJ{st:abN}(F:Fun K x qual st f fd)(S:FnScope N ps<|ai st)(len:∀vs H Q E,sp vs H Q E->vs.length=ps.length)
  (c:∀(b:nE)(_:Ea K b qual=G)(A:abF)(a:List Env)(s:ID)(H:Hp)(vs:afx)(Q:VK)(E:XK),Room k (A.deeper<|ac4 qual (ai st) s.heap.objs.size f b)->sp vs H Q E ->
   ∃t,JB (gw lD P w K mg base N qual (ai st) f b A a s H E).nox (bL st) t/\t {nx:=fun _ H'=>Q .non H',rt:=Q} (start N vs) H):FnOk P w K mg base lD (k+1) f fd ps sp:=
 F.ok S len fun b e A a s H vs Q E d h=>let⟨t,h1,h2⟩:=c b e A a s H vs Q E d h;⟨t,h1.out,h2⟩
end
theorem JE.imp(h:JE X e t)(i:∀Z H Q,t' Z H Q->t Z H Q):JE X e t':=⟨h.out.imp i⟩
theorem JT.imp(h:JT X e t)(i:∀Z H Q,t' Z H Q->t Z H Q):JT X e t':=⟨fun aa s Z H Q I q=>h.out aa s Z H Q I<|i Z H Q q⟩
theorem JW.imp(h:JW X e t)(i:∀Z H Q,t' Z H Q->t Z H Q):JW X e t':=⟨fun w aa s Z H Q I q=>h.out w aa s Z H Q I<|i Z H Q q⟩
theorem JA.imp(h:JA X es t)(i:∀Z H Q,t' Z H Q->t Z H Q):JA X es t':=⟨fun pos aa s Z H Q I q=>h.out pos aa s Z H Q I<|i Z H Q q⟩
theorem JS.imp{st:abN}(h:JS X st t)(i:∀D Z H,t' D Z H->t D Z H):JS X st t':=⟨fun aa s Z H D I q=>h.out aa s Z H D I<|i D Z H q⟩
theorem JB.imp{st:List abN}(h:JB X st t)(i:∀D Z H,t' D Z H->t D Z H):JB X st t':=⟨fun aa s Z H D I q=>h.out aa s Z H D I<|i D Z H q⟩
theorem JG.imp(h:JG X e t)(i:∀v Z H Q,t' v Z H Q->t v Z H Q):JG X e t':=⟨fun aa s Z H v u Q I r q=>h.out aa s Z H v u Q I r<|i v Z H Q q⟩
theorem JGs.imp(h:JGs X es t)(i:∀v Z H Q,t' v Z H Q->t v Z H Q):JGs X es t':=⟨fun aa s Z H v u Q I r q=>h.out aa s Z H v u Q I r<|i v Z H Q q⟩
theorem JI.imp(h:JI X tg e t)(i:∀Z H R,t' Z H R->t Z H R):JI X tg e t':=⟨fun aa s Z H R I q=>h.out aa s Z H R I<|i Z H R q⟩
theorem JO.imp(h:JO X e t)(i:∀Z H Q,t' Z H Q->t Z H Q):JO X e t':=⟨fun aa s Z H Q I q=>h.out aa s Z H Q I<|i Z H Q q⟩
theorem JTs.imp(h:JTs X es t)(i:∀Z H Q,t' Z H Q->t Z H Q):JTs X es t':=⟨fun aa s Z H Q I q=>h.out aa s Z H Q I<|i Z H Q q⟩
inductive D where
 |non|bl (b:Bool)|int (i:Int)|str (x:Str)|ty (n:String)
 |lst (xs:List D)|tup (xs:List D)|dct (kvs:List<|Key×D)|obj (x:Str) (fs:List<|Str×D)
 /-- an exception that was caught,by aV class's name;a class of the text -/
 |exn (x:Str)|cls (x:Str)
 /-- a list of which it is qm that it was laid anew (it may be changed) -/
 |lsm (xs:List D)
 /-- a dict that is not changed any more -/
 |dcf (kvs:List<|Key×D)
abbrev afy:=List D
def Yz(a C:aaB):HO:=.ext fun h=>∃o vs,h.get? a=J o/\o.cls=.ref C/\o.dict=U/\o.data=.fields vs
section
variable(K:aT)(H:Hp)
mutual
def bQ:D->V->Prop
 |.non,v=>v=.non
 |.bl b,v=>v=.bl b
 |.int i,v=>v=.int i
 |.str x,v=>v=.str x
 |.ty n,v=>v=.ty n
 |.lst ds,v=>∃a xs,v=.ref a/\gr K H a xs/\ay ds xs
 |.tup ds,v=>∃a xs,v=.ref a/\m7 K H a xs/\ay ds xs
 |.dct ds,v=>∃a xs,v=.ref a/\H a=J (.dK xs)/\pK ds xs
 |.obj x fs,v=>∃a C c xs,v=.ref a/\DO K By x=J (J<|.ref C)/\H a=J (.ins C c xs)/\qS fs xs
 |.exn x,v=>∃a C,v=.ref a/\DO K By x=J (J<|.ref C)/\H a=J (Yz a C)
 |.cls x,v=>∃C,v=.ref C/\DO K By x=J (J<|.ref C)
 |.lsm ds,v=>∃a xs,v=.ref a/\H a=J (.lst xs)/\ay ds xs
 |.dcf ds,v=>∃a o xs,v=.ref a/\H a=J (.frz o<|.dK xs)/\pK ds xs
def ay:afy->afx->Prop
 |[],xs=>xs=[]
 |d::ds,xs=>∃v vs,xs=v::vs/\bQ d v/\ay ds vs
def pK:List (Key×D)->List (Key×V)->Prop
 |[],xs=>xs=[]
 |(k,d)::ds,xs=>∃v vs,xs=(k,v)::vs/\bQ d v/\pK ds vs
def qS:List (Str×D)->List (Str×V)->Prop
 |[],xs=>xs=[]
 |(k,d)::ds,xs=>∃v vs,xs=(k,v)::vs/\bQ d v/\qS ds vs
end
end
section
variable{K:aT}{H H':Hp}
mutual
theorem bQ.mono(s:ah H H'):∀{d:D}{v:V},bQ K H d v->bQ K H' d v
 |.non,_,h=>h
 |.bl _,_,h=>h
 |.int _,_,h=>h
 |.str _,_,h=>h
 |.ty _,_,h=>h
 |.lst ds,_,⟨a,xs,e,h1,h2⟩=>⟨a,xs,e,s.seq h1,ay.mono s h2⟩
 |.tup ds,_,⟨a,xs,e,h1,h2⟩=>⟨a,xs,e,s.seqT h1,ay.mono s h2⟩
 |.dct ds,_,⟨a,xs,e,h1,h2⟩=>⟨a,xs,e,s _ _ h1,pK.mono s h2⟩
 |.obj x ds,_,⟨a,C,dx,xs,e,h0,h1,h2⟩=>⟨a,C,dx,xs,e,h0,s _ _ h1,qS.mono s h2⟩
 |.exn _,_,⟨a,C,e,h1,h2⟩=>⟨a,C,e,h1,s _ _ h2⟩
 |.cls _,_,h=>h
 |.lsm ds,_,⟨a,xs,e,h1,h2⟩=>⟨a,xs,e,s _ _ h1,ay.mono s h2⟩
 |.dcf ds,_,⟨a,o,xs,e,h1,h2⟩=>⟨a,o,xs,e,s _ _ h1,pK.mono s h2⟩
theorem ay.mono(s:ah H H'):∀{d:afy}{v:afx},ay K H d v->ay K H' d v
 |[],_,h=>h
 |d::ds,_,⟨v,vs,e,h1,h2⟩=>⟨v,vs,e,bQ.mono s h1,ay.mono s h2⟩
theorem pK.mono(s:ah H H'):∀{d:List<|Key×D}{v:List<|Key×V},pK K H d v->pK K H' d v
 |[],_,h=>h
 |(k,d)::ds,_,⟨v,vs,e,h1,h2⟩=>⟨v,vs,e,bQ.mono s h1,pK.mono s h2⟩
theorem qS.mono(s:ah H H'):∀{d:List<|Str×D}{v:List<|Str×V},qS K H d v->qS K H' d v
 |[],_,h=>h
 |(k,d)::ds,_,⟨v,vs,e,h1,h2⟩=>⟨v,vs,e,bQ.mono s h1,qS.mono s h2⟩
end
theorem ay.len:∀{ds:afy}{xs:afx},ay K H ds xs->ds.length=xs.length
 |[],_,h=>by subst h;rfl
 |d::ds,_,⟨v,vs,e,h1,h2⟩=>by subst e;simp[ay.len h2]
theorem ay.get:∀{ds:afy}{xs:afx}{i:Nat}{d:D},ay K H ds xs->ds[i]?=J d->∃v,xs[i]?=J v/\bQ K H d v
 |[],_,_,_,_,e=>by mright
 |d::ds,_,0,_,⟨v,vs,e,h1,h2⟩,q=>by
  mright
 |d::ds,_,i+1,_,⟨v,vs,e,h1,h2⟩,q=>by
  obtain⟨u,b,a⟩:=ay.get h2 (by assumption);mright
theorem ay.got:∀{ds:afy}{xs:afx}{i:Nat}{v:V},ay K H ds xs->xs[i]?=J v->∃d,ds[i]?=J d/\bQ K H d v
 |[],_,_,_,h,e=>by subst h;mright
 |d::ds,_,0,_,⟨v,vs,e,h1,h2⟩,q=>by
  mright
 |d::ds,_,i+1,_,⟨v,vs,e,h1,h2⟩,q=>by
  subst e;obtain⟨u,b,a⟩:=ay.got h2 (by assumption);mright
theorem ay.nil:ay K H [] []:=rfl
theorem ay.cons(h:bQ K H d v)(t:ay K H ds xs):ay K H (d::ds)<|v::xs:=⟨v,xs,rfl,h,t⟩
theorem ay.append:∀{ds es:afy}{xs ys:afx},ay K H ds xs->ay K H es ys->ay K H (ds++es) (xs++ys)
 |[],_,_,_,h,t=>by subst h;exact t
 |d::ds,_,_,_,⟨v,vs,e,h1,h2⟩,t=>by subst e;exact⟨v,_,rfl,h1,ay.append h2 t⟩
theorem ay.take:∀{ds:afy}{xs:afx}(n:Nat),ay K H ds xs->ay K H (ds.take n) (xs.take n)
 |_,_,0,_=>by rfl
 |[],_,n+1,h=>by subst h;exact rfl
 |d::ds,_,n+1,⟨v,vs,e,h1,h2⟩=>by subst e;exact⟨v,_,rfl,h1,ay.take n h2⟩
end
def aj(as:afv)(H:Hp):Hp:=fun b=>if b∈as then U else H b
theorem bT(h:b∈as):aj as H b=U:=afk h
theorem av(h:b∉as):aj as H b=H b:=afl h
theorem Ge:aj [] H=H:=by funext b;exact afl ∅
theorem aD(as:afv)(H:Hp):ah (aj as H) H:=fun b o e=>by
 delta aj at e;mright
theorem aA(s:ah H H'):ah (aj as H)<|aj as H':=fun b o e=>by
 delta aj at e⊢;split at e
 .cases e
 .rename_i h;rw[afl h];exact s b o e
theorem t7(as bs:afv)(H:Hp):aj (as++bs) H=aj bs (aj as H):=by
 funext b
 delta aj
 grind
theorem kD(h:∀a∈bs,a∈as):ah (aj as H)<|aj bs H:=fun b o e=>by
 by_cases c:b∈as
 .rw[bT c]at e;cases e
 .rw[av c]at e;rw[av fun z=>c<|h b z];exact e
theorem lH(s:ah B H)(h:∀a∈as,B a=U):ah B<|aj as H:=fun b o e=>by
 have c:b∉as:=fun z=>by mright
 rw[av c];exact s b o e
inductive R(α:Type) where
 |ok (a:α)
 |er (x:Str)
 |no
noncomputable def R.bind{α β:Type}(r:R α)(f:α->R β):R β:=match r with
 |.ok a=>f a
 |.er x=>.er x
 |.no=>.no
theorem am{a:α}{f:α->R β}:(R.ok a).bind f=f a:=rfl
theorem bind_assoc(r:R α)(f:α->R β)(g:β->R γ):(r.bind f).bind g=r.bind fun a=>(f a).bind g:=by cases r<;>rfl
structure Wd where
 K:aT
 mg:Str->Option nE
 E:XK
abbrev Sd:=List<|Option D
def cP(W:Wd)(as:afv)(H:Hp)(r:R D)(Q:VK):Prop:=match r with
 |.ok d=>∀v H',ah H H'->bQ W.K (aj as H') d v->Q v H'
 |.er x=>∀e C H',ah H H'->W.mg x=J (.ref C)->W.E e (J C) H'
 |.no=>False
def ib(W:Wd)(as:afv)(H:Hp)(r:R<|afy)(Q:afx->Hp->Prop):Prop:=match r with
 |.ok d=>∀v H',ah H H'->ay W.K (aj as H') d v->Q v H'
 |.er x=>∀e C H',ah H H'->W.mg x=J (.ref C)->W.E e (J C) H'
 |.no=>False
def gf{α:Type}(W:Wd)(H:Hp)(r:R α)(Q:α->Hp->Prop):Prop:=match r with
 |.ok b=>∀H',ah H H'->Q b H'
 |.er x=>∀e C H',ah H H'->W.mg x=J (.ref C)->W.E e (J C) H'
 |.no=>False
def kL(K:aT)(H:Hp)(o:HO):D->Prop
 |.lst ds=>∃xs,o=.lst xs/\ay K H ds xs
 |.dct ds=>∃xs,o=.dK xs/\pK K H ds xs
 |.obj x ds=>∃C a xs,o=.ins C a xs/\DO K By x=J (J<|.ref C)/\qS K H ds xs
 |_=>False
def kX(W:Wd)(as:afv)(H:Hp)(r:R D)(Q:VK):Prop:=match r with
 |.ok d=>∀p o H',ah H H'->H p=U->H' p=J o->kL W.K (aj (p::as) H') o d->Q (.ref p) H'
 |.er x=>∀e C H',ah H H'->W.mg x=J (.ref C)->W.E e (J C) H'
 |.no=>False
theorem cP.mono(h:cP W as H r Q)(s:ah H H'):cP W as H' r Q:=by
 cases r with
 |ok d=>exact fun v b a=>h v b<|s.trans a
 |er x=>exact fun e C b a=>h e C b<|s.trans a
 |no=>exact h
theorem kX.mono(h:kX W as H r Q)(s:ah H H'):kX W as H' r Q:=by
 cases r with
 |ok d=>exact fun p o b a c=>h p o b (s.trans a)<|s.free c
 |er x=>exact fun e C b a=>h e C b<|s.trans a
 |no=>exact h
theorem ib.mono(h:ib W as H r Q)(s:ah H H'):ib W as H' r Q:=by
 cases r with
 |ok d=>exact fun v b a=>h v b<|s.trans a
 |er x=>exact fun e C b a=>h e C b<|s.trans a
 |no=>exact h
theorem gf.mono{r:R α}{Q:α->Hp->Prop}(h:gf W H r Q)(s:ah H H'):gf W H' r Q:=by
 cases r with
 |ok d=>exact fun b a=>h b<|s.trans a
 |er x=>exact fun e C b a=>h e C b<|s.trans a
 |no=>exact h
theorem kL.den{K:aT}(i:p∉as)(e:H p=J o)(h:kL K (aj (p::as) H) o d):bQ K (aj as H) d<|.ref p:=by
 have s:ah (aj (p::as) H)<|aj as H:=kD fun a f=>ie _ f;have b:aj as H p=J o:=by rw[av i];exact e
 cases d with
 |lst ds=>obtain⟨xs,rfl,h⟩:=h;exact⟨p,xs,rfl,.inl<|.inl b,h.mono s⟩
 |dct ds=>obtain⟨xs,rfl,h⟩:=h;exact⟨p,xs,rfl,b,h.mono s⟩
 |obj x ds=>obtain⟨C,g,xs,rfl,c,h⟩:=h;exact⟨p,C,g,xs,rfl,c,b,h.mono s⟩
 |_=>mleft
structure DI(K:aT)(as0:afv)(B:Hp)(O:afq)(own:afv)(Z:St)(Y:Sd)(H:Hp):Prop where
 len:Y.length=Z.length
 olen:own.length=O.length
 nd:own.Nodup
 ond:O.Nodup
 fresh:∀a∈own,B a=U
 ex0:∀a∈as0,B a≠U
 same:ah B H
 var:∀i d,i∉O->Y[i]?=J (J d)->∃v,Z[i]?=J (J v)/\bQ K (aj (own++as0) H) d v
 owns:∀i a,(i,a)∈O.zip own->∃d o,Y[i]?=J (J d)/\Z[i]?=J (J<|.ref a)/\H a=J o/\kL K (aj (own++as0) H) o d
section
variable{K:aT}
theorem kL.mono(s:ah H H')(h:kL K H o d):kL K H' o d:=by
 cases d with
 |lst ds=>obtain⟨xs,rfl,h⟩:=h;exact⟨xs,rfl,h.mono s⟩
 |dct ds=>obtain⟨xs,rfl,h⟩:=h;exact⟨xs,rfl,h.mono s⟩
 |obj x ds=>obtain⟨C,a,xs,rfl,b,h⟩:=h;exact⟨C,a,xs,rfl,b,h.mono s⟩
 |_=>mleft
theorem uV:∀{O:afq}{own:afv}{a:aaB},own.length=O.length->a∈own->∃i,(i,a)∈O.zip own
 |[],[],_,_,h=>by nofun
 |i::O,b::own,a,l,h=>by
  rcases eQ.mp h with rfl|h
  .simp
  .obtain⟨j,c⟩:=uV (by simpa using l) h;exact⟨j,ie _ c⟩
 |[],_::_,_,l,_=>by mright
 |_::_,[],_,_,h=>by nofun
theorem DI.exi(I:DI K as0 B O own Z Y H):∀a∈own++as0,H a≠U:=fun a b=>by
 rcases BY.mp b with h|h
 .obtain⟨i,hi⟩:=uV I.olen h
  obtain⟨d,o,_,_,e,_⟩:=I.owns i a hi;rw[e];simp
 .cases e:B a with
  |none=>exact absurd e<|I.ex0 a h
  |some o=>rw[I.same a o e];simp
theorem DI.new(I:DI K as0 B O own Z Y H)(h:H p=U):p∉own++as0:=fun z=>I.exi p z h
theorem DI.mono(I:DI K as0 B O own Z Y H)(s:ah H H'):DI K as0 B O own Z Y H':=
 ⟨I.len,I.olen,I.nd,I.ond,I.fresh,I.ex0,I.same.trans s,fun i d b e=>let⟨v,h1,h2⟩:=I.var i d b e;⟨v,h1,h2.mono<|aA s⟩,
  fun i a b=>let⟨d,o,h1,h2,h3,h4⟩:=I.owns i a b;⟨d,o,h1,h2,s a o h3,h4.mono (aA s)⟩⟩
theorem DI.base(I:DI K as0 B' O own Z Y H)(s:ah B B')(h:∀a∈as0,B a≠U):DI K as0 B O own Z Y H:=
 ⟨I.len,I.olen,I.nd,I.ond,fun a b=>s.free<|I.fresh a b,h,s.trans I.same,I.var,I.owns⟩
theorem DI.rebase(I:DI K as0 B O own Z Y H)(c:∀a∈own,a∉as0):DI K as0 (aj own H) O own Z Y H:=
 ⟨I.len,I.olen,I.nd,I.ond,fun a b=>bT b,fun a b=>(by
  rw[av fun z=>c a z b];cases e:B a with
  |none=>exact absurd e<|I.ex0 a b
  |some o=>rw[I.same a o e];simp),aD _ _,I.var,I.owns⟩
theorem DI.apart(I:DI K as0 B O own Z Y H):∀a∈own,a∉as0:=fun a b z=>I.ex0 a z<|I.fresh a b
theorem DI.baseIn(I:DI K as0 B O own Z Y H):ah B<|aj own H:=lH I.same I.fresh
end
abbrev FE:=Sd->R D
abbrev FT:=Sd->R Bool
abbrev FA:=Sd->R (afy)
def tD(W:Wd)(O:afq)(φ:FE):TE:=fun Z H Q=>∃as0 B own Y,DI W.K as0 B O own Z Y H/\cP W (own++as0) H (φ Y) Q
def tN(W:Wd)(O:afq)(φ:FE):TE:=fun Z H Q=>∃as0 B own Y,DI W.K as0 B O own Z Y H/\kX W (own++as0) H (φ Y) Q
def lq(W:Wd)(O:afq)(φ:FT):TT:=fun Z H Q=>∃as0 B own Y,DI W.K as0 B O own Z Y H/\gf W H (φ Y) Q
def zx(W:Wd)(O:afq)(φ:FA):TA:=fun Z H Q=>∃as0 B own Y,DI W.K as0 B O own Z Y H/\ib W (own++as0) H (φ Y) Q
def VC(W:Wd)(O:afq)(φ:Sd->R (Option Int)):TO:=fun Z H Q=>∃as0 B own Y,DI W.K as0 B O own Z Y H/\gf W H (φ Y) Q
section
theorem aY(h:cP W as H (r.bind f) Q)(q:∀d v H',ah H H'->bQ W.K (aj as H') d v->cP W as H' (f d) Q->Q' v H'):cP W as H r Q':=by
 cases r with
 |ok d=>exact fun v H' s a=>q d v H' s a<|cP.mono h s
 |er x=>exact h
 |no=>exact h
theorem e9(h:cP W as H (r.bind f) Q)(q:∀d v H',ah H H'->ay W.K (aj as H') d v->cP W as H' (f d) Q->Q' v H'):ib W as H r Q':=by
 cases r with
 |ok d=>exact fun v H' s a=>q d v H' s a<|cP.mono h s
 |er x=>exact h
 |no=>exact h
theorem zg(h:kX W as H (r.bind f) Q)(q:∀d v H',ah H H'->ay W.K (aj as H') d v->kX W as H' (f d) Q->Q' v H'):ib W as H r Q':=by
 cases r with
 |ok d=>exact fun v H' s a=>q d v H' s a<|kX.mono h s
 |er x=>exact h
 |no=>exact h
theorem mM{r:R α}{f:α->R D}{Q':α->Hp->Prop}(h:cP W as H (r.bind f) Q)(q:∀d H',ah H H'->cP W as H' (f d) Q->Q' d H'):gf W H r Q':=by
 cases r with
 |ok d=>exact fun H' s=>q d H' s<|cP.mono h s
 |er x=>exact h
 |no=>exact h
theorem gC{f:D->R α}{Q:α->Hp->Prop}(h:gf W H (r.bind f) Q)(q:∀d v H',ah H H'->bQ W.K (aj as H') d v->gf W H' (f d) Q->Q' v H'):cP W as H r Q':=by
 cases r with
 |ok d=>exact fun v H' s a=>q d v H' s a<|gf.mono h s
 |er x=>exact h
 |no=>exact h
theorem kj{r:R α}{f:α->R β}{Q:β->Hp->Prop}{Q':α->Hp->Prop}(h:gf W H (r.bind f) Q)(q:∀d H',ah H H'->gf W H' (f d) Q->Q' d H'):gf W H r Q':=by
 cases r with
 |ok d=>exact fun H' s=>q d H' s<|gf.mono h s
 |er x=>exact h
 |no=>exact h
theorem zW{Q:afx->Hp->Prop}(h:ib W as H (r.bind f) Q)(q:∀d v H',ah H H'->bQ W.K (aj as H') d v->ib W as H' (f d) Q->Q' v H'):cP W as H r Q':=by
 cases r with
 |ok d=>exact fun v H' s a=>q d v H' s a<|ib.mono h s
 |er x=>exact h
 |no=>exact h
theorem xV{Q Q':afx->Hp->Prop}(h:ib W as H (r.bind f) Q)(q:∀d v H',ah H H'->ay W.K (aj as H') d v->ib W as H' (f d) Q->Q' v H'):ib W as H r Q':=by
 cases r with
 |ok d=>exact fun v H' s a=>q d v H' s a<|ib.mono h s
 |er x=>exact h
 |no=>exact h
end
section
variable{X:Cx}{W:Wd}{O:afq}{a b c e:aa1}{φ ψ χ:FE}{pos:Pos}{rest es:List aa1}{α:FA}
noncomputable def ag(i:Nat):FE:=fun Y=>match Y[i]? with
 |some (J d)=>.ok d
 |_=>.no
def vC(d:D):FE:=fun _=>.ok d
theorem Mv(i:Nat)(c:autoParam (i∉O) Xax)(b:autoParam (X.N[i]?=J x) Xaz)(f:autoParam (m6 X.env.scope x) Xcz)(hd:autoParam (afz x) Xax)
  (a:autoParam ((x==("__classdict__":Str))=η) Xax):JE X (.Name x pos)<|tD W O<|ag i:=(jv i b f hd a).imp fun Z H Q g=>dQ g fun as0 B own Y I h=>by
 delta ag at h;cbv
 .rename_i d e;obtain⟨v,h1,h2⟩:=I.var i d c e
  show m8 Z[i]? H Q;rw[h1];exact h v H (ah.refl H) h2
 .mleft
theorem MR:JE X (.Constant (.int i) j pos)<|tD W O<|vC<|.int i:=SG.imp fun Z H Q a=>dQ a fun as0 B own Y I h=>h _ H (ah.refl H) rfl
theorem TY{b j}:JE X (.Constant (.bool b) j pos)<|tD W O<|vC<|.bl b:=W7.imp fun Z H Q a=>dQ a fun as0 B own Y I h=>h _ H (ah.refl H) rfl
theorem NO:JE X (.Constant .none j pos)<|tD W O<|vC .non:=UZ.imp fun Z H Q a=>dQ a fun as0 B own Y I h=>h _ H (ah.refl H) rfl
theorem Mt:JE X (.Constant (.str x) j pos)<|tD W O<|vC<|.str x:=Uy.imp fun Z H Q a=>dQ a fun as0 B own Y I h=>h _ H (ah.refl H) rfl
theorem Oy(b:X.mg x=J u)(r:aP v u)(hd:∀H,bQ W.K H d v)(c:autoParam (Gl X x) Xaz)(a:autoParam (afz x) Xax):JE X (.Name x pos)<|tD W O<|vC d:=
 (OC b r c a).imp fun Z H Q e=>dQ e fun as0 B own Y I h=>h _ H (ah.refl H)<|hd _
theorem Yt(a:X.mg x=U)(c:aaT x=J (.type n))(b:autoParam (Gl X x) Xaz)(e:autoParam (x≠"__name__") Xax)(hd:autoParam (afz x) Xax):JE X (.Name x pos)<|tD W O<|vC<|.ty n:=
 (Wx a c b e hd).imp fun Z H Q d=>dQ d fun as0 B own Y I h=>h _ H (ah.refl H) rfl
def wo(W:Wd)(r:R2)(c:D->D->R D):Prop:=∀(as:afv)(H:Hp)(x y:V)(a b:D)(Q:VK),(∀p,H p=U->p∉as)->bQ W.K (aj as H) a x->bQ W.K (aj as H) b y->cP W as H (c a b) Q->r x y H Q
def aH(a:D->D->R D)(φ ψ:FE):FE:=fun Y=>(φ Y).bind fun x=>(ψ Y).bind fun y=>a x y
theorem IG(i:∀{ta tb:TE},JE X a ta->JE X b tb->JE X e (t ta tb))(g:t=NB r)(n:wo W r op)(o:JE X a<|tD W O φ)(q:JE X b<|tD W O ψ):JE X e<|tD W O<|aH op φ ψ:=by
 subst g;refine(i o q).imp fun Z H Q j=>dQ j fun as0 B own Y I h=>⟨as0,B,own,Y,I,aY h fun x v H1 c m h1=>⟨as0,B,own,Y,I.mono c,aY h1 fun y u l d f h2=>?_⟩⟩;exact n (own++as0) l v u x y Q (fun p k=>((I.mono c).mono d).new k) (m.mono<|aA d) f h2
theorem Tj(d:DX X r)(hd:wo W r g)(c:JE X a<|tD W O φ)(e:JE X b<|tD W O ψ)(hs:autoParam (rh b) Xdx):JE X (.Subscript a b pos)<|tD W O<|aH g φ ψ:=
 IG (fun h1 h2=>SV d h1 h2 hs) rfl hd c e
def YB(W:Wd)(r:V->Hp->VK->Prop)(b:D->R D):Prop:=∀(as:afv)(H:Hp)(x:V)(a:D)(Q:VK),bQ W.K (aj as H) a x->cP W as H (b a) Q->r x H Q
def zz(a:D->R D)(φ:FE):FE:=fun Y=>(φ Y).bind a
theorem Xg(d:KD X (unaryOp op) r)(hd:YB W r g)(e:JE X a<|tD W O φ):JE X (.UnaryOp op a pos)<|tD W O<|zz g φ:=
 (X3 d e).imp fun Z H Q b=>dQ b fun as0 B own Y I h=>⟨as0,B,own,Y,I,aY h fun x v H1 f c h1=>hd (own++as0) H1 v x Q c h1⟩
noncomputable def Ni{α:Type}(d:D)(f:Bool->R α):R α:=match d with
 |.bl b=>f b
 |_=>.no
def Oz(φ:FE):FE:=fun Y=>(φ Y).bind fun x=>Ni x fun b=>.ok<|.bl<|!b
def GS(φ ψ:FE):FE:=fun Y=>(φ Y).bind fun x=>Ni x fun b=>if b=G then ψ Y else .ok (.bl η)
def aap(φ ψ:FE):FE:=fun Y=>(φ Y).bind fun x=>Ni x fun b=>if b=G then .ok (.bl G)else ψ Y
theorem Sm(c:JE X a<|tD W O φ):JE X (.UnaryOp .Not a pos)<|tD W O<|Oz φ:=
 (Sl c).imp fun Z H Q d=>dQ d fun as0 B own Y I h=>⟨as0,B,own,Y,I,aY h fun x v H1 f e h1=>by
  cases x with
  |bl b=>subst e;exact h1 _ H1 (ah.refl _) rfl
  |_=>exact h1.elim⟩
theorem Uo(h:JE X a<|tD W O φ):JE X (.BoolOp op [a] pos)<|tD W O φ:=Sy h
theorem Uf(f:JE X a<|tD W O φ)(g:JE X (.BoolOp .And (b::rest) pos)<|tD W O ψ):JE X (.BoolOp .And (a::b::rest) pos)<|tD W O<|GS φ ψ:=
 (Se f g).imp fun Z H Q c=>dQ c fun as0 B own Y I h=>⟨as0,B,own,Y,I,aY h fun x v H1 d e h1=>by
  cases x with
  |bl b=>
   subst e;cases b with
   |true=>exact⟨as0,B,own,Y,I.mono d,h1⟩
   |false=>exact h1 _ H1 (ah.refl _) rfl
  |_=>exact h1.elim⟩
theorem WC(f:JE X a<|tD W O φ)(g:JE X (.BoolOp .Or (b::rest) pos)<|tD W O ψ):JE X (.BoolOp .Or (a::b::rest) pos)<|tD W O<|aap φ ψ:=
 (XN f g).imp fun Z H Q c=>dQ c fun as0 B own Y I h=>⟨as0,B,own,Y,I,aY h fun x v H1 d e h1=>by
  cases x with
  |bl b=>
   subst e;cases b with
   |false=>exact⟨as0,B,own,Y,I.mono d,h1⟩
   |true=>exact h1 _ H1 (ah.refl _) rfl
  |_=>exact h1.elim⟩
variable{τ υ:FT}
def dC(φ:FE):FT:=fun Y=>(φ Y).bind fun x=>Ni x .ok
theorem Qi(A:eJ X (aaY op) r)(hd:wo W r g)(C:JE X a<|tD W O φ)(D:JE X b<|tD W O ψ)(j:adq op b=η):JT X (.Compare a [op] [b] pos)<|lq W O<|dC<|aH g φ ψ:=by
 refine(QJ A C D j).imp fun Z H Q m=>dQ m fun as0 B own Y I h=>?_;have h'  := by
  have e:dC (aH g φ ψ) Y=(φ Y).bind fun x=>((ψ Y).bind fun y=>g x y).bind fun x=>Ni x .ok:=by
   delta dC aH;rw[bind_assoc]
  rw[e]at h;exact h
 refine⟨as0,B,own,Y,I,gC h' fun x v H1 d t h1=>?_⟩;have c:gf W H1 ((ψ Y).bind fun y=>(g x y).bind fun x=>Ni x .ok) Q:=by rw[<-bind_assoc];exact h1
 refine⟨as0,B,own,Y,I.mono d,gC c fun y u s i l h2=>?_⟩;refine hd (own++as0) s v u x y _ (fun p n=>((I.mono d).mono i).new n) (t.mono<|aA i) l<|gC h2 fun z w o E q f=>?_;cases z with
 |bl k=>subst q;exact f o<|ah.refl _
 |_=>exact f.elim
noncomputable def L4:D->R Bool
 |.non=>.ok η
 |.bl b=>.ok b
 |.int i=>.ok<|i != 0
 |.str y=>if y.length<=1000000 then .ok (y.length != 0)else .no
 |.lst xs=>.ok<|!xs.isEmpty
 |.tup xs=>.ok<|!xs.isEmpty
 |.dct kvs=>.ok<|!kvs.isEmpty
 |_=>.no
theorem ay.empty{K:aT}(h:ay K H ds xs):xs.isEmpty=ds.isEmpty:=by
 cases ds with
 |nil=>subst h;rfl
 |cons d r=>obtain⟨v,vs,rfl,_⟩:=h;rfl
theorem pK.empty{K:aT}(h:pK K H ds xs):xs.isEmpty=ds.isEmpty:=by
 cases ds with
 |nil=>subst h;rfl
 |cons d r=>obtain⟨v,vs,rfl,_⟩:=h;rfl
theorem ck:(1000000:Nat)<=aaL:=by rw[abB];decide
def lP(φ:FE):FT:=fun Y=>(φ Y).bind L4
theorem FH(K:aT)(l:JE X a<|tD W O φ)(k:autoParam (∀c,isTrue a X.env c=(do let v <-c;afh a.pos;holding [v] (truthy v))) Xdz)(j:autoParam (X.K=K) Xaz)(f:autoParam (W.K=K) Xaz):JT X a<|lq W O<|lP φ:=
 (yR K l k j).imp fun Z H Q g=>dQ g fun as0 B own Y I h=>⟨as0,B,own,Y,I,gC h fun x v H1 m d h1=>by
  subst f;cases x with
  |non=>subst d;exact h1 H1<|ah.refl _
  |bl b=>subst d;exact h1 H1<|ah.refl _
  |int i=>subst d;exact h1 H1<|ah.refl _
  |str y=>
   subst d;have h2:gf W H1 (if y.length<=1000000 then R.ok (y.length != 0)else R.no) Q:=h1;split at h2
   .rename_i hl;refine⟨RW hl ck,?_⟩;have e:((y.length:Int) != 0)=(y.length != 0):=by
     lia
    rw[e];exact h2 H1<|ah.refl _
   .exact h2.elim
  |lst ds=>
   obtain⟨p,xs,rfl,q1,q2⟩:=d;refine .inl (.inl ⟨xs,(aD _ _).seq q1,?_⟩);rw[q2.empty];exact h1 H1<|ah.refl _
  |tup ds=>
   obtain⟨p,xs,rfl,q1,q2⟩:=d;refine .inl (.inr ⟨xs,(aD _ _).seqT q1,?_⟩);rw[q2.empty];exact h1 H1<|ah.refl _
  |dct ds=>
   obtain⟨p,xs,rfl,q1,q2⟩:=d;refine .inr ⟨xs,aD _ _ _ _ q1,?_⟩;rw[q2.empty];exact h1 H1<|ah.refl _
  |_=>exact h1.elim⟩
def mQ(τ υ:FT):FT:=fun Y=>(τ Y).bind fun b=>if b=G then υ Y else .ok η
def KF(τ υ:FT):FT:=fun Y=>(τ Y).bind fun b=>if b=G then .ok G else υ Y
def qN(τ:FT):FT:=fun Y=>(τ Y).bind fun b=>.ok<|!b
theorem CN(h:JW X a<|lq W O τ):JT X a<|lq W O τ:=Cc h
theorem Om(e:JT X a<|lq W O τ)(g:JW X (.BoolOp .And (b::rest) pos)<|lq W O υ):JW X (.BoolOp .And (a::b::rest) pos)<|lq W O<|mQ τ υ:=
 (Hq e g).imp fun Z H Q f=>dQ f fun as0 B own Y I h=>⟨as0,B,own,Y,I,kj h fun c H1 d h1=>by
  cases c with
  |true=>exact⟨as0,B,own,Y,I.mono d,h1⟩
  |false=>exact h1 H1 (ah.refl _)⟩
theorem Vd(e:JT X a<|lq W O τ)(g:JW X (.BoolOp .Or (b::rest) pos)<|lq W O υ):JW X (.BoolOp .Or (a::b::rest) pos)<|lq W O<|KF τ υ:=
 (MC e g).imp fun Z H Q f=>dQ f fun as0 B own Y I h=>⟨as0,B,own,Y,I,kj h fun c H1 d h1=>by
  cases c with
  |false=>exact⟨as0,B,own,Y,I.mono d,h1⟩
  |true=>exact h1 H1 (ah.refl _)⟩
theorem Px(b:JT X a<|lq W O τ):JT X (.UnaryOp .Not a pos)<|lq W O<|qN τ:=
 (GZ b).imp fun Z H Q d=>dQ d fun as0 B own Y I h=>⟨as0,B,own,Y,I,kj h fun c H1 e h1=>h1 H1<|ah.refl _⟩
def MU(τ:FT)(φ ψ:FE):FE:=fun Y=>(τ Y).bind fun b=>if b=G then φ Y else ψ Y
theorem Tw(e:JT X c<|lq W O τ)(f:JE X a<|tD W O φ)(i:JE X b<|tD W O ψ):JE X (.IfExp c a b pos)<|tD W O<|MU τ φ ψ:=
 (N9 e f i).imp fun Z H Q g=>dQ g fun as0 B own Y I h=>⟨as0,B,own,Y,I,mM h fun c H1 d h1=>by
  cases c with
  |true=>exact⟨as0,B,own,Y,I.mono d,h1⟩
  |false=>exact⟨as0,B,own,Y,I.mono d,h1⟩⟩
def aQ:FA:=fun _=>.ok []
def ak(φ:FE)(α:FA):FA:=fun Y=>(φ Y).bind fun d=>(α Y).bind fun ds=>.ok<|d::ds
theorem Fn:JA X []<|zx W O aQ:=eD.imp fun Z H Q a=>dQ a fun as0 B own Y I h=>h [] H (ah.refl _) rfl
theorem Bx(k:JE X e<|tD W O φ)(b:JA X es<|zx W O α)(j:autoParam (al e=G) Xaz):JA X (e::es)<|zx W O<|ak φ α:=
 (bU k b j).imp fun Z H Q c=>dQ c fun as0 B own Y I h=>⟨as0,B,own,Y,I,zW h fun d v H1 f i h1=>⟨as0,B,own,Y,I.mono f,xV h1 fun ds vs g l a h2=>
  h2 (v::vs) g (ah.refl _) ⟨v,vs,rfl,i.mono (aA l),a⟩⟩⟩
def yA(ds:afy):R D:=if ds.length<=1000000 then .ok (.lst ds)else .no
def Bc(ds:afy):R D:=if ds.length<=1000000 then .ok (.tup ds)else .no
def uw(α:FA):FE:=fun Y=>(α Y).bind yA
def uD(α:FA):FE:=fun Y=>(α Y).bind Bc
theorem Dz(h:kX W as H (yA ds) Q)(hd:ay W.K (aj as H) ds xs):xs.length<=aaL/\∀p,H p=U->Q (.ref p) (br H p<|.lst xs):=by
 delta yA at h;cbv
 .rename_i hl;refine⟨by rw[<-hd.len];exact RW hl ck,fun p c=>?_⟩;refine h p (.lst xs) (br H p<|.lst xs) (bR c _) c aE ⟨xs,rfl,hd.mono ?_⟩;intro b o e;have d:b≠p:=fun z=>by
   subst z
   have:=aD _ _ _ _ e
   rw[c]at this;cases this
  by_cases a:b∈as
  .rw[bT a]at e;cases e
  .rw[av a]at e;rw[av<|by simp[d,a],aG d];exact e
 .mleft
theorem US(h:JA X es<|zx W O α):JE X (.List es pos)<|tN W O<|uw α:=
 (Hi h).imp fun Z H Q a=>dQ a fun as0 B own Y I h=>⟨as0,B,own,Y,I,zg h fun ds xs H1 c b h1=>Dz h1 b⟩
theorem FQ(h:JE X e<|tN W O φ):JE X e<|tD W O φ:=h.imp fun Z H Q a=>dQ a fun as0 B own Y I q=>by
 refine⟨as0,B,own,Y,I,?_⟩;cases hr:φ Y with
 |ok d=>
  rw[hr]at q;exact fun p o H' s b e c=>q (.ref p) H' s<|c.den (I.new b) e
 |er x=>rw[hr]at q;exact q
 |no=>rw[hr]at q;exact q
theorem NQ(h:JA X es<|zx W O α):JE X (.Tuple es x1 pos)<|tD W O<|uD α:=
 (Ci h).imp fun Z H Q c=>dQ c fun as0 B own Y I h=>⟨as0,B,own,Y,I,e9 h fun ds xs H1 d b h1=>by
  delta Bc at h1;split at h1
  .rename_i hl;refine⟨by rw[<-b.len];exact RW hl ck,fun p a=>?_⟩;have e:=(I.mono d).new a;refine h1 (.ref p) (br H1 p<|.tup xs) (bR a _) ⟨p,xs,rfl,.inl<|.inl ?_,b.mono<|aA<|bR a _⟩;rw[av e];exact aE
  .exact h1.elim⟩
def nU(W:Wd)(r:afx->Hp->VK->Prop)(g:afy->R D):Prop:=∀(as:afv)(H:Hp)(xs:afx)(ds:afy)(Q:VK),(∀a∈as,H a≠U)->ay W.K (aj as H) ds xs->cP W as H (g ds) Q->r xs H Q
def aI(g:afy->R D)(α:FA):FE:=fun Y=>(α Y).bind g
section
variable{p:Pos}{id:String}
theorem Kw(j:bI X (.builtin id) r)(hd:nU W r g)(b:X.mg x=U)(m:aaT x=J (.builtin id))(l:JA X (e::es)<|zx W O α)(c:autoParam (Gl X x) Xaz)(h1:autoParam (al e=G) Xaz)(h2:autoParam (es.all al=G) Xaz)(k:autoParam (x≠"__name__") Xax)(a:autoParam (afz x) Xax):
  JE X (.Call (.Name x p) (e::es) [] pos) (tD W O<|aI g α):=
 (AX j b m l c h1 h2 k a).imp fun Z H Q d=>dQ d fun as0 B own Y I h=>⟨as0,B,own,Y,I,e9 h fun ds xs H1 f i h1=>hd (own++as0) H1 xs ds Q (I.mono f).exi i h1⟩
theorem Ku(j:bI X (.type T) r)(hd:nU W r g)(b:X.mg x=U)(m:aaT x=J (.type T))(l:JA X (e::es)<|zx W O α)(c:autoParam (Gl X x) Xaz)(h1:autoParam (al e=G) Xaz)(h2:autoParam (es.all al=G) Xaz)(k:autoParam (x≠"__name__") Xax)(a:autoParam (afz x) Xax):
  JE X (.Call (.Name x p) (e::es) [] pos) (tD W O<|aI g α):=
 (BN j b m l c h1 h2 k a).imp fun Z H Q d=>dQ d fun as0 B own Y I h=>⟨as0,B,own,Y,I,e9 h fun ds xs H1 f i h1=>hd (own++as0) H1 xs ds Q (I.mono f).exi i h1⟩
end
def Hh:Sd->R (Option Int):=fun _=>.ok U
def gI(φ:FE):Sd->R (Option Int):=fun Y=>(φ Y).bind fun d=>match d with
 |.int i=>.ok<|J i
 |_=>.no
theorem rl:JO X U<|VC W O Hh:=Kt.imp fun Z H Q a=>dQ a fun as0 B own Y I h=>h H<|ah.refl _
theorem ro(h:JE X e<|tD W O φ):JO X (J e)<|VC W O<|gI φ:=(Jx h).imp fun Z H Q a=>dQ a fun as0 B own Y I h=>⟨as0,B,own,Y,I,gC h fun d v H1 c b h1=>by
  cases d with
  |int i=>subst b;exact h1 H1<|ah.refl _
  |_=>exact h1.elim⟩
def ZQ(W:Wd)(r:V->Option Int->Option Int->Hp->VK->Prop)(g:D->Option Int->Option Int->R D):Prop:=
 ∀(as:afv)(H:Hp)(x:V)(lo b:Option Int)(a:D)(Q:VK),(∀p,H p=U->p∉as)->bQ W.K (aj as H) a x->cP W as H (g a lo b) Q->r x lo b H Q
def Jm(g:D->Option Int->Option Int->R D)(φ:FE)(l u:Sd->R (Option Int)):FE:=fun Y=>(φ Y).bind fun x=>(l Y).bind fun lo=>(u Y).bind fun a=>g x lo a
theorem rJ{lo a:Option aa1}(f:V2 X r)(hd:ZQ W r g)(q:JE X e<|tD W O φ)(s:JO X lo<|VC W O l)(n:JO X a<|VC W O u):
  JE X (.Subscript e (.Slice lo a U p2) pos) (tD W O<|Jm g φ l u):=
 (Ml f q s n).imp fun Z H Q i=>dQ i fun as0 B own Y I h=>⟨as0,B,own,Y,I,aY h fun x v H1 b m h1=>⟨as0,B,own,Y,I.mono b,mM h1 fun lo t c h2=>⟨as0,B,own,Y,(I.mono b).mono c,mM h2 fun a k d o=>
  hd (own++as0) k v lo a x Q (fun p j=>(((I.mono b).mono c).mono d).new j) (m.mono (aA (c.trans d))) o⟩⟩⟩
def V7(W:Wd)(r:Str->afx->Hp->VK->Prop)(g:Str->afy->R D):Prop:=
 ∀(as:afv)(H:Hp)(z:Str)(xs:afx)(ds:afy)(Q:VK),(∀p,H p=U->p∉as)->ay W.K (aj as H) ds xs->cP W as H (g z ds) Q->r z xs H Q
def DN(g:Str->afy->R D)(φ:FE)(α:FA):FE:=fun Y=>(φ Y).bind fun x=>match x with
 |.str z=>(α Y).bind fun ds=>g z ds
 |_=>.no
theorem X6{apos cpos:Pos}{id:String}(c:Slot "str" name id)(d:typeOf (.builtin id)=pure (.type "method_descriptor"))(i:Oj X id r)(hd:V7 W r g)(q:JE X o<|tD W O φ)(s:JA X (e::es)<|zx W O α)
  (b:autoParam (aaF o name X.env (eval o X.env)=eval o X.env) Xaz) (a:autoParam ((apos.endLine==cpos.line)=G) Xaz) (h1:autoParam ((e::es).all al=G) Xaz) (u:autoParam ((e::es).length<29) Xax):
  JE X (.Call (.Attribute o name apos) (e::es) [] cpos) (tD W O<|DN g φ α):=
 (UE c d i q s b a h1 u).imp fun Z H Q k=>dQ k fun as0 B own Y I h=>⟨as0,B,own,Y,I,aY h fun x v H1 f n h1=>by
  cases x with
  |str z=>
   subst n;exact⟨as0,B,own,Y,I.mono f,e9 h1 fun ds xs m t j h2=>hd (own++as0) m z xs ds Q (fun p l=>((I.mono f).mono t).new l) j h2⟩
  |_=>exact h1.elim⟩
end
inductive Fl where
 |nx (Y:Sd)|rt (d:D)|bk (Y:Sd)|ct (Y:Sd)
 /-- a return of what is laid anew,and nobody else's -/
 |rn (d:D)
abbrev FS:=Sd->R Fl
def c8(W:Wd)(as0:afv)(B:Hp)(Ob O':afq)(r:R Fl)(D:Ends):Prop:=match r with
 |.ok (.nx Y)=>∀own Z H,DI W.K as0 B O' own Z Y H->D.nx Z H
 |.ok (.bk Y)=>∀own Z H,DI W.K as0 B Ob own Z Y H->D.bk Z H
 |.ok (.ct Y)=>∀own Z H,DI W.K as0 B Ob own Z Y H->D.ct Z H
 |.ok (.rt d)=>∀v H,ah B H->bQ W.K (aj as0 H) d v->D.rt v H
 |.ok (.rn d)=>∀p o H,ah B H->B p=U->H p=J o->kL W.K (aj (p::as0) H) o d->D.rt (.ref p) H
 |.er x=>∀e C H,ah B H->W.mg x=J (.ref C)->W.E e (J C) H
 |.no=>False
def sD(W:Wd)(Ob O O':afq)(φ:FS):TS:=fun D Z H=>∃as0 B own Y,DI W.K as0 B O own Z Y H/\c8 W as0 B Ob O' (φ Y) D
section
variable{W:Wd}{as0 own:afv}{B H:Hp}{Ob O O':afq}{Z:St}{Y:Sd}{D':Ends}
theorem cO(I:DI W.K as0 B O own Z Y H)(h:c8 W as0 B Ob O' (r.bind f) D')(q:∀d v H',ah H H'->bQ W.K (aj (own++as0) H') d v->c8 W as0 B Ob O' (f d) D'->Q v H'):cP W (own++as0) H r Q:=by
 cases r with
 |ok d=>exact fun v H' s a=>q d v H' s a h
 |er x=>exact fun e C H' s=>h e C H'<|I.same.trans s
 |no=>exact h
theorem kg(I:DI W.K as0 B O own Z Y H)(h:c8 W as0 B Ob O' (r.bind f) D')(q:∀d p o H',ah H H'->H p=U->H' p=J o->kL W.K (aj (p::(own++as0)) H') o d->c8 W as0 B Ob O' (f d) D'->Q (.ref p) H'):kX W (own++as0) H r Q:=by
 cases r with
 |ok d=>exact fun p o H' s h1 h2 a=>q d p o H' s h1 h2 a h
 |er x=>exact fun e C H' s=>h e C H'<|I.same.trans s
 |no=>exact h
theorem qb{r:R α}{f:α->R Fl}{Q:α->Hp->Prop}(I:DI W.K as0 B O own Z Y H)(h:c8 W as0 B Ob O' (r.bind f) D')(q:∀d H',ah H H'->c8 W as0 B Ob O' (f d) D'->Q d H'):gf W H r Q:=by
 cases r with
 |ok d=>exact fun H' s=>q d H' s h
 |er x=>exact fun e C H' s=>h e C H'<|I.same.trans s
 |no=>exact h
theorem c8.base(h:c8 W as0 B Ob O' r D')(s:ah B B')(b:∀a∈as0,B a≠U):c8 W as0 B' Ob O' r D':=by
 cases r with
 |ok f=>
  cases f with
  |nx Y=>exact fun own Z H I=>h own Z H<|I.base s b
  |bk Y=>exact fun own Z H I=>h own Z H<|I.base s b
  |ct Y=>exact fun own Z H I=>h own Z H<|I.base s b
  |rt d=>exact fun v H s'=>h v H<|s.trans s'
  |rn d=>exact fun p o H s' c=>h p o H (s.trans s')<|s.free c
 |er x=>exact fun e C H s'=>h e C H<|s.trans s'
 |no=>exact h
theorem getElem?_set'{α:Type}{l:List α}{x:α}:(l.set i x)[j]?=if i=j then(if i<l.length then J x else U)else l[j]?:=List.getElem?_set
theorem DI.set(I:DI W.K as0 B O own Z Y H)(c:i∉O)(h:bQ W.K (aj (own++as0) H) d v):DI W.K as0 B O own (Z.set i<|J v) (Y.set i<|J d) H:=by
 refine⟨by simp[I.len],I.olen,I.nd,I.ond,I.fresh,I.ex0,I.same,fun j e b q=>?_,fun j a b=>?_⟩
 .rw[getElem?_set']at q⊢;split at q
  .rename_i hij;rw[afk hij];split at q
   .rename_i hl;rw[afk<|by rw[<-I.len];exact hl]
    mright
   .cases q
  .rename_i hij;rw[afl hij];exact I.var j e b q
 .have hji:i≠j:=fun z=>c (by rw[z];exact(aaZ b).1);let⟨d',o,h1,h2,h3,h4⟩:=I.owns j a b
  mright
theorem zip_inj:∀{O:afq}{own:afv}{i j:Nat}{a:aaB},own.Nodup->(i,a)∈O.zip own->(j,a)∈O.zip own->i=j
 |[],_,_,_,_,_,h,_=>by mright
 |_::_,[],_,_,_,_,h,_=>by mright
 |k::O,b::own,i,j,a,nd,h1,h2=>by
  rw[aaK]at nd;rcases eQ.mp h1 with e1|h1<;>rcases eQ.mp h2 with e2|h2
  .lia
  .cases e1;exact absurd (aaZ h2).2 nd.1
  .cases e2;exact absurd (aaZ h1).2 nd.1
  .exact zip_inj nd.2 h1 h2
theorem fT:∀{O:afq}{own:afv}{i:Nat},own.length=O.length->i∈O->∃a,(i,a)∈O.zip own
 |[],_,_,_,h=>by nofun
 |k::O,[],_,l,_=>by mright
 |k::O,b::own,i,l,h=>by
  rcases eQ.mp h with rfl|h
  .simp
  .obtain⟨a,c⟩:=fT (by simpa using l) h;exact⟨a,ie _ c⟩
theorem DI.own1(I:DI W.K as0 B O own Z Y H)(f:i∉O)(k:B p=U)(l:p∉own++as0)(e:H p=J o)(h:kL W.K (aj (p::(own++as0)) H) o d)(g:i<Y.length)
  (fr:∀j d',j∉O->Y[j]?=J (J d')->∃v,Z[j]?=J (J v)/\bQ W.K (aj (p::(own++as0)) H) d' v)
  (m:∀j a,(j,a)∈O.zip own->∃d o,Y[j]?=J (J d)/\Z[j]?=J (J<|.ref a)/\H a=J o/\kL W.K (aj (p::(own++as0)) H) o d):
  DI W.K as0 B (i::O) (p::own) (Z.set i<|J<|.ref p) (Y.set i<|J d) H:=by
 refine⟨by simp[I.len],by simp[I.olen],aaK.mpr ⟨fun z=>l<|Le _ z,I.nd⟩,aaK.mpr ⟨f,I.ond⟩,fun a c=>?_,I.ex0,I.same,fun j e b q=>?_,fun j a b=>?_⟩
 .rcases eQ.mp c with rfl|c
  .exact k
  .exact I.fresh a c
 .have hji:i≠j:=fun z=>b (by mright);mright
 .rw[List.zip_cons_cons]at b;rcases eQ.mp b with z|b
  .cases z;refine⟨d,o,?_,?_,e,h⟩
   .mright
   .rw[getElem?_set',afk rfl,afk<|by rw[<-I.len];exact g]
  .have hji:i≠j:=fun z=>f (by rw[z];exact(aaZ b).1);mright
end
section
variable{X:Cx}{W:Wd}{Ob O O' O1 O2:afq}{e c:aa1}{φ ψ:FS}{ε:FE}{τ:FT}{pos:Pos}{st:abN}{sts rest:List abN}
def ld:FS:=fun Y=>.ok<|.nx Y
def nh(φ ψ:FS):FS:=fun Y=>(φ Y).bind fun f=>match f with
 |.nx δ'=>ψ δ'
 |f=>.ok f
theorem QR:JB X []<|sD W Ob O O ld:=Hu.imp fun D Z H a=>dQ a fun as0 B own Y I h=>h own Z H I
theorem KS(h1:JS X st<|sD W Ob O O1 φ)(h2:JB X rest<|sD W Ob O1 O2 ψ):JB X (st::rest)<|sD W Ob O O2<|nh φ ψ:=(C0 h1 h2).imp fun D Z H b=>dQ b fun as0 B own Y I h=>by
 refine⟨as0,B,own,Y,I,?_⟩;delta nh at h;cases hr:φ Y with
 |ok f=>
  rw[hr]at h;cases f with
  |nx δ'=>exact fun a c H' e=>⟨as0,B,a,δ',e,h⟩
  |rt d=>exact h
  |rn d=>exact h
  |bk d=>exact h
  |ct d=>exact h
 |er x=>rw[hr]at h;exact h
 |no=>rw[hr]at h;exact h
theorem Et(h1:JS X st<|sD W Ob O O1 φ):JB X [st]<|sD W Ob O O1 φ:=GK h1
def pX(ε:FE):FS:=fun Y=>(ε Y).bind fun d=>.ok<|.rt d
theorem FR(h:JE X e<|tD W O ε):JS X (.Return (J e) pos)<|sD W Ob O O'<|pX ε:=(Fh h).imp fun D Z H f=>dQ f fun as0 B own Y I h=>
 ⟨as0,B,own,Y,I,cO I h fun d v H' s b h'=>h' v H' (I.same.trans s)<|b.mono<|kD fun a c=>OR _ c⟩
def ND(ε:FE):FS:=fun Y=>(ε Y).bind fun _=>.ok<|.nx Y
theorem Mo(h:JE X e<|tD W O ε)(hs:autoParam (abm e U pos.line X.env=pure η) Xaz):JS X (.Expr e pos)<|sD W Ob O O<|ND ε:=(n9 h hs).imp fun D Z H a=>dQ a fun as0 B own Y I h=>
 ⟨as0,B,own,Y,I,cO I h fun d v H' s b h'=>h' own Z H'<|I.mono s⟩
def DA(τ:FT)(φ ψ:FS):FS:=fun Y=>(τ Y).bind fun b=>if b=G then φ Y else ψ Y
theorem Vu(d:JT X c<|lq W O τ)(e:JB X a<|sD W Ob O O' φ)(g:JB X b<|sD W Ob O O' ψ):JS X (.If c a b pos)<|sD W Ob O O'<|DA τ φ ψ:=(N6 d e g).imp fun D Z H f=>dQ f fun as0 B own Y I h=>
 ⟨as0,B,own,Y,I,qb I h fun b H' s h'=>by
  cases b with
  |true=>exact⟨as0,B,own,Y,I.mono s,h'⟩
  |false=>exact⟨as0,B,own,Y,I.mono s,h'⟩⟩
def rZ(i:Nat)(ε:FE):FS:=fun Y=>(ε Y).bind fun d=>.ok<|.nx<|Y.set i<|J d
theorem Iu{pos':Pos}(f:i∉O)(c:X.N.Nodup)(g:Loc X.env.scope x)(k:JE X e<|tD W O ε)(a:autoParam (X.N[i]?=J x) Xaz)(hs:autoParam (abm e (J<|.Name x pos') pos.line X.env=pure η) Xaz)(l:autoParam (X.fn x=G\/X.env.scope.names.lookup x=J .local) Xbx):
  JS X (.Assign [.Name x pos'] e pos) (sD W Ob O O<|rZ i ε):=(pw c g k a hs l).imp fun D Z H b=>dQ b fun as0 B own Y I h=>
 ⟨as0,B,own,Y,I,cO I h fun d v H' s j h'=>h' own _ H'<|(I.mono s).set f j⟩
def Av(i:Nat)(ε:FE):FS:=fun Y=>(ε Y).bind fun d=>if i<Y.length then .ok (.nx<|Y.set i<|J d)else .no
theorem tH(d:H p=U)(s:ah H H'):ah (aj as H)<|aj (p::as) H':=fun b o e=>by
 by_cases c:b∈as
 .rw[bT c]at e;cases e
 .rw[av c]at e;have a:b≠p:=fun z=>by mright
  rw[av<|by simp[c,a]];exact s b o e
theorem ze{K:aT}(I:DI K as0 B O own Z Y H)(k:i∉O)(s:ah H H')(b:H p=U)(e:H' p=J o)(h:kL K (aj (p::(own++as0)) H') o d)(g:i<Y.length):
  DI K as0 B (i::O) (p::own) (Z.set i<|J<|.ref p) (Y.set i<|J d) H':=by
 refine DI.own1 (W:=⟨K,fun _=>U,E0⟩) (I.mono s) k (I.same.free b) (I.new b) e h g (fun j d' c q=>?_) fun j a c=>?_
 .obtain⟨v,h1,h2⟩:=I.var j d' c q
  exact⟨v,h1,h2.mono<|tH b s⟩
 .refine Z24 (I.owns j a c) fun d' o' h1 h2 l f=>?_;exact⟨d',o',h1,h2,s a o' l,f.mono<|tH b s⟩
theorem Iv{pos':Pos}(g:i∉O)(f:X.N.Nodup)(j:Loc X.env.scope x)(k:JE X e<|tN W O ε)(a:autoParam (X.N[i]?=J x) Xaz)(hs:autoParam (abm e (J<|.Name x pos') pos.line X.env=pure η) Xaz)(l:autoParam (X.fn x=G\/X.env.scope.names.lookup x=J .local) Xbx):
  JS X (.Assign [.Name x pos'] e pos) (sD W Ob O (i::O)<|Av i ε):=(pw f j k a hs l).imp fun D Z H b=>dQ b fun as0 B own Y I h=>
 ⟨as0,B,own,Y,I,kg I h fun d p o H' s c e m h'=>by
  split at h'
  .rename_i hl;exact h' _ _ H'<|ze I g s c e m hl
  .exact h'.elim⟩
inductive TgD where
 |one (i:Nat)|tup (is:afq)
noncomputable def l7:afq->afy->Sd->Sd
 |i::is,d::ds,Y=>l7 is ds<|Y.set i<|J d
 |_,_,Y=>Y
def iY:TgD->D->Sd->R Sd
 |.one i,d,Y=>.ok<|Y.set i<|J d
 |.tup is,.tup ds,Y=>if ds.length=is.length then .ok (l7 is ds Y)else .no
 |_,_,_=>.no
def gD(W:Wd)(O:afq)(tg:TgD):TG:=fun v Z H Q=>∃as0 B own Y d,DI W.K as0 B O own Z Y H/\bQ W.K (aj (own++as0) H) d v/\match iY tg d Y with
 |.ok δ'=>∀a,DI W.K as0 B O own a δ' H->Q a H
 |_=>False
def U7(W:Wd)(O:afq)(is:afq):Mg:=fun vs Z H Q=>∃as0 B own Y ds,DI W.K as0 B O own Z Y H/\ay W.K (aj (own++as0) H) ds vs/\ds.length=is.length/\∀a,DI W.K as0 B O own a (l7 is ds Y) H->Q a H
theorem Rt(c:i∉O)(a:X.N.Nodup)(e:X.N[i]?=J x)(f:Loc X.env.scope x)(b:autoParam (X.fn x=G\/X.env.scope.names.lookup x=J .local) Xbx):JG X (.Name x pos)<|gD W O<|.one i:=
 (Jy a e f b).imp (by rintro v Z H Q⟨as0,B,own,Y,d,I,dv,h⟩;exact h _<|I.set c dv)
theorem L0:JGs X []<|U7 W O []:=JV.imp fun vs Z H Q q_=>Z54 q_ fun as0 B own Y ds I dv hl h=>by
 cases ds with
 |nil=>subst dv;exact⟨rfl,h Z I⟩
 |cons _ _=>cases hl
theorem EV(h1:JG X e<|gD W O<|.one i)(h2:JGs X es<|U7 W O is)
  (hs:autoParam ((abE (e::es) X.env).map (·.2)=assign e X.env::(abE es X.env).map (·.2)) Xaz):JGs X (e::es)<|U7 W O<|i::is:=(Ii h1 h2 hs).imp fun vs Z H Q q_=>Z54 q_ fun as0 B own Y ds I dv hl h=>by
 cases ds with
 |nil=>cases hl
 |cons d ds=>
  obtain⟨v,r,rfl,b,c⟩:=dv;exact⟨v,r,rfl,as0,B,own,Y,d,I,b,fun a f=>⟨as0,B,own,_,ds,f,c,by simpa using hl,h⟩⟩
theorem O5(K:aT){k:Nat}(h:JGs X es<|U7 W O is)(g:autoParam (is.length=n) Xaz)(e:autoParam (X.calm=G) Xaz)
  (j:autoParam ((abE es X.env).length=n) Xaz) (c:autoParam ((abE es X.env).findIdx? (·.1)=U) Xaz) (i:autoParam (X.K=K) Xaz) (f:autoParam (W.K=K) Xaz):JG X (.Tuple es k pos)<|gD W O<|.tup is:=by
 refine(Rx K h e j c i).imp ?_;rintro v Z H Q⟨as0,B,own,Y,d,I,dv,h⟩;cases d with
 |tup ds=>
  obtain⟨a,xs,rfl,q1,q2⟩:=dv;have h':(match(if ds.length=is.length then R.ok (l7 is ds Y)else .no)with|.ok δ'=>∀b,DI W.K as0 B O own b δ' H->Q b H|_=>False):=h
  by_cases hd:ds.length=is.length
  .rw[afk hd]at h';subst f;exact⟨a,xs,rfl,(aD _ _).seqT q1,by rw[<-q2.len,hd,g],as0,B,own,Y,ds,I,q2,hd,h'⟩
  mright
 |_=>mleft
structure GivesD(K:aT)(as0:afv)(B:Hp)(Jq0:It)(xs:afy):Prop where
 go:∀i H,ah (aj as0 B) H->i<xs.length->Jq0.go i H
 yl:∀i H v H2 M,ah (aj as0 B) H->(∀a∈M,H a≠U)->(∀a∈M,a∈as0\/B a=U)->i<xs.length->Jq0.yld i H v H2->ah H H2/\∃d,xs[i]?=J d/\bQ K (aj M H2) d v
 stop:∀H,ah (aj as0 B) H->Jq0.stop xs.length H
def j3(W:Wd)(as0 own:afv)(H:Hp)(r:R<|afy)(Q:It->Hp->Prop):Prop:=match r with
 |.ok xs=>∀a H',ah H H'->GivesD W.K as0 (aj own H') a xs->Q a H'
 |.er x=>∀e C H',ah H H'->W.mg x=J (.ref C)->W.E e (J C) H'
 |.no=>False
def iD(W:Wd)(O:afq)(ι:FA):TI:=fun Z H Q=>∃as0 B own Y,DI W.K as0 B O own Z Y H/\j3 W as0 own H (ι Y) Q
theorem km(s:ah (aj as0 B) H)(h:∀a∈M,a∈as0\/B a=U):ah (aj as0 B)<|aj M H:=fun b o e=>by
 have f:=e;by_cases c:b∈as0
 .rw[bT c]at e;cases e
 .rw[av c]at e;have d:b∉M:=fun z=>by
   grind
  rw[av d];exact s b o f
theorem DC{K:aT}(h1:gr K (aj as0 B) a xs)(h2:ay K (aj as0 B) ds xs):GivesD K as0 B (XI K a) ds where
 go:=fun i H s c=>by
  have b:i<xs.length:=by rw[<-h2.len];exact c
  exact⟨xs,xs[i],s.seq h1,∅⟩
 yl:=fun i H v H2 M s _ hM c⟨e,y⟩=>by
  subst e;obtain⟨d,q1,q2⟩:=h2.got<|y xs<|s.seq h1
  exact⟨ah.refl _,d,q1,q2.mono<|km s hM⟩
 stop:=fun H s=>⟨xs,s.seq h1,by rw[h2.len];exact mK _⟩
theorem Dj{K:aT}(h1:m7 K (aj as0 B) a xs)(h2:ay K (aj as0 B) ds xs):GivesD K as0 B (WQ K a) ds where
 go:=fun i H s c=>by
  have b:i<xs.length:=by rw[<-h2.len];exact c
  exact⟨xs,xs[i],s.seqT h1,∅⟩
 yl:=fun i H v H2 M s _ hM c⟨e,y⟩=>by
  subst e;obtain⟨d,q1,q2⟩:=h2.got<|y xs<|s.seqT h1
  exact⟨ah.refl _,d,q1,q2.mono<|km s hM⟩
 stop:=fun H s=>⟨xs,s.seqT h1,by rw[h2.len];exact mK _⟩
abbrev FV(z:Str):afy:=z.cps.toList.map fun c=>D.str ⟨#[c]⟩
theorem AV{K:aT}(z:Str):GivesD K as0 B (VT z) (FV z) where
 go:=fun i H _ a=>by
  simpa[VT,acT]using a
 yl:=fun i H v H2 M _ _ _ a⟨e,c,h1,h2⟩=>by
  subst e;refine⟨ah.refl _,.str ⟨#[c]⟩,?_,h2⟩;mright
 stop:=fun H _=>by
  show _=z.length;simp[acT]
noncomputable def aW(lo:Int)(n:Nat):afy:=(ads n).map fun(k:Nat)=>D.int<|lo+(k:Int)
theorem wV{K:aT}(lo:Int)(n:Nat):GivesD K as0 B (V5 lo n) (aW lo n) where
 go:=fun i H _ a=>by
  delta aW at a;rw[aaU,List.length_range]at a;exact a
 yl:=fun i H v H2 M _ _ _ a⟨e,h⟩=>by
  subst e;delta aW at a⊢;refine⟨ah.refl _,.int<|lo+i,?_,h⟩;mright
 stop:=fun H _=>by
  delta aW;show n<=_;simp
noncomputable def Aw:D->R (afy)
 |.lst xs=>.ok xs
 |.tup xs=>.ok xs
 |.str z=>.ok<|FV z
 |_=>.no
def EX(ε:FE):FA:=fun Y=>(ε Y).bind Aw
variable{tg:aa1}
theorem j3.mono(h:j3 W as0 own H r Q)(s:ah H H'):j3 W as0 own H' r Q:=by
 cases r with
 |ok d=>exact fun a c b=>h a c<|s.trans b
 |er x=>exact fun e C c b=>h e C c<|s.trans b
 |no=>exact h
theorem AK(h:j3 W as0 own H (r.bind f) Q)(q:∀d v H',ah H H'->bQ W.K (aj (own++as0) H') d v->j3 W as0 own H' (f d) Q->Q' v H'):cP W (own++as0) H r Q':=by
 cases r with
 |ok d=>exact fun v H' s a=>q d v H' s a<|j3.mono h s
 |er x=>exact h
 |no=>exact h
theorem qo(h:j3 W as0 own H (r.bind f) Q)(q:∀d v H',ah H H'->ay W.K (aj (own++as0) H') d v->j3 W as0 own H' (f d) Q->Q' v H'):ib W (own++as0) H r Q':=by
 cases r with
 |ok d=>exact fun v H' s a=>q d v H' s a<|j3.mono h s
 |er x=>exact h
 |no=>exact h
theorem On(K:aT)(h:JE X l<|tD W O ε)(f:autoParam (X.K=K) Xaz)(c:autoParam (W.K=K) Xaz):JI X tg l<|iD W O<|EX ε:=(OQ K h f).imp fun Z H Q e=>dQ e fun as0 B own Y I h=>
 ⟨as0,B,own,Y,I,AK h fun d v H' s b h'=>by
  subst c;cases d with
  |lst ds=>
   obtain⟨a,xs,rfl,q1,q2⟩:=b;refine .inl ⟨⟨xs,(aD _ _).seq q1⟩,h' _ H' (ah.refl _) ?_⟩;rw[t7]at q1 q2;exact DC q1 q2
  |tup ds=>
   obtain⟨a,xs,rfl,q1,q2⟩:=b;refine .inr ⟨⟨xs,(aD _ _).seqT q1⟩,h' _ H' (ah.refl _) ?_⟩;rw[t7]at q1 q2;exact Dj q1 q2
  |str z=>subst b;exact h' _ H' (ah.refl _)<|AV z
  |_=>exact h'.elim⟩
def KN:afy->R (afy)
 |[.int j]=>if -(2^62)<=j/\j<2^62 then .ok (aW 0 j.toNat)else .no
 |_=>.no
def p9(α:FA):FA:=fun Y=>(α Y).bind KN
theorem DF{p pos:Pos}(b:X.mg "range"=U)(j:JA X [a]<|zx W O α)(d:autoParam (Gl X "range") Xaz)(i:autoParam (al a=G) Xaz):JI X tg (.Call (.Name "range" p) [a] [] pos)<|iD W O<|p9 α:=(D8 b j d i).imp fun Z H Q e=>dQ e fun as0 B own Y I h=>
 ⟨as0,B,own,Y,I,qo h fun ds vs H' s g h'=>by
  delta KN at h';split at h'
  .obtain⟨v,r,rfl,f,c⟩:=g;subst f;subst c;split at h'
   .rename_i hj;exact⟨hj,h' _ H' (ah.refl _)<|wV 0 _⟩
   .exact h'.elim
  .exact h'.elim⟩
def cZ(tg:TgD)(a:FS):afy->Sd->R Fl
 |[],Y=>.ok<|.nx Y
 |x::r,Y=>(iY tg x Y).bind fun b=>(a b).bind fun f=>match f with
  |.nx δ2=>cZ tg a r δ2
  |.ct δ2=>cZ tg a r δ2
  |.bk δ2=>.ok<|.nx δ2
  |.rt d=>.ok<|.rt d
  |.rn d=>.ok<|.rn d
def Hy(ι:FA)(t:TgD)(a:FS):FS:=fun Y=>(ι Y).bind fun xs=>cZ t a xs Y
theorem xL(I:DI W.K as0 B O own Z Y H)(h:c8 W as0 B Ob O' (r.bind f) D')
  (q:∀d a H',ah H H'->GivesD W.K as0 (aj own H') a d->c8 W as0 B Ob O' (f d) D'->Q a H'):j3 W as0 own H r Q:=by
 cases r with
 |ok d=>exact fun a H' s g=>q d a H' s g h
 |er x=>exact fun e C H' s=>h e C H'<|I.same.trans s
 |no=>exact h
theorem Pa{iter:aa1}{o:List abN}{ι:FA}{t:TgD}(E:adA (aaO X.prog X.w) X.A X.env X.xe)(s:JI X tg iter<|iD W O ι)(C:JG X tg<|gD W O t)(S:JB X o<|sD W O O O φ)(N:autoParam (X.calm=G) Xaz)
  (hs:autoParam (∀x,abl iter X.env x=pure x) Xcx):JS X (.For tg iter o [] pos)<|sD W Ob O O<|Hy ι t φ:=(QE E s C S N hs).imp fun D' Z H D=>dQ D fun as0 B own Y I h=>by
 refine⟨as0,B,own,Y,I,xL I h fun xs u H1 F Gq0 h1=>?_⟩;have q:=I.mono F;have r:=q.rebase q.apart;have sB:ah B<|aj own H1:=q.baseIn;have h2:=h1.base sB I.ex0;generalize M:aj own H1=B' at r sB h2 Gq0;have ex':∀a∈as0,B' a≠U:=r.ex0;refine⟨fun i m Z H=>m=xs.length-i/\i<=xs.length/\∃own Y,DI W.K as0 B' O own Z Y H/\c8 W as0 B' Ob O (cZ t φ (xs.drop i) Y) D',⟨xs.length,by rfl,aa2 _,own,Y,r,⊤⟩,?_⟩;rintro i m σ3 H3 ⟨rfl,s,own3,δ3,I3,h3⟩;by_cases l:i<xs.length
 .refine .inr ⟨Gq0.go i H3 ((aD _ _).trans I3.same) l,fun k H'=>∃own Y,DI W.K as0 B' O own k Y H'/\c8 W as0 B' Ob O (cZ t φ (xs.drop<|i+1) Y) D',by rintro k H'⟨g,δ',p,h'⟩;exact ⟨xs.length-(i+1),by grind,rfl,l,g,δ',p,h'⟩,fun v Q y=>?_⟩;obtain⟨s4,d,hd,dv⟩:=Gq0.yl i H3 v Q (own3++as0) ((aD _ _).trans I3.same) I3.exi (fun a R=>by
   rcases BY.mp R with z|z
   .exact .inr (I3.fresh a z)
   .exact .inl z) l y
  have P:xs.drop i=d::xs.drop (i+1):=by
   rw[aa6 l];rw[aaC l]at hd;cases hd;rfl
  rw[P]at h3;refine⟨as0,B',own3,δ3,d,I3.mono s4,dv,?_⟩;have n:c8 W as0 B' Ob O ((iY t d δ3).bind fun j=>(φ j).bind fun f=>match f with
   |.nx b=>cZ t φ (xs.drop<|i+1) b
   |.ct b=>cZ t φ (xs.drop<|i+1) b
   |.bk b=>.ok<|.nx b
   |.rt d=>.ok<|.rt d
   |.rn d=>.ok (.rn d)) D':=h3
  cases hb1:iY t d δ3 with
  |ok j=>
   rw[hb1]at n;refine fun k p=>⟨as0,B',own3,j,p,?_⟩;have c:c8 W as0 B' Ob O ((φ j).bind fun f=>match f with
    |.nx b=>cZ t φ (xs.drop<|i+1) b
    |.ct b=>cZ t φ (xs.drop<|i+1) b
    |.bk b=>.ok<|.nx b
    |.rt d=>.ok<|.rt d
    |.rn d=>.ok (.rn d)) D':=n
   cases hr:φ j with
   |ok f=>
    rw[hr]at c;cases f with
    |nx b=>exact fun g k H' p=>⟨g,b,p,c⟩
    |ct b=>exact fun g k H' p=>⟨g,b,p,c⟩
    |bk b=>exact c
    |rt d=>exact c
    |rn d=>exact c
   |er x=>rw[hr]at c;exact c
   |no=>rw[hr]at c;exact c
  |er x=>delta iY at hb1;lia
  |no=>rw[hb1]at n;exact n.elim
 .have e:i=xs.length:=⊥
  subst e;rw[List.drop_length]at h3;exact .inl ⟨Gq0.stop H3<|(aD _ _).trans I3.same,h3 own3 σ3 H3 I3⟩
def cq(τ:FT)(a:FS):Nat->Sd->R Fl
 |0,_=>.no
 |n+1,Y=>(τ Y).bind fun b=>if b=G then(a Y).bind fun f=>match f with
  |.nx δ2=>cq τ a n δ2
  |.ct δ2=>cq τ a n δ2
  |.bk δ2=>.ok<|.nx δ2
  |.rt d=>.ok<|.rt d
  |.rn d=>.ok<|.rn d
  else .ok (.nx Y)
theorem Ej(n:Nat)(o:adA (aaO X.prog X.w) X.A X.env X.xe)(p:JT X c<|lq W O τ)(s:JB X body<|sD W O O O φ):JS X (.While c body [] pos)<|sD W Ob O O<|cq τ φ n:=(yn o p s).imp fun D' Z H l=>dQ l fun as0 B own Y I h=>by
 refine⟨fun m Z H=>∃own Y,DI W.K as0 B O own Z Y H/\c8 W as0 B Ob O (cq τ φ m Y) D',⟨n,own,Y,I,h⟩,?_⟩;rintro m σ3 H3 ⟨own3,δ3,I3,h3⟩;cases m with
 |zero=>exact h3.elim
 |succ m=>
  refine⟨as0,B,own3,δ3,I3,qb I3 h3 fun b r j k=>?_⟩;cases b with
  |false=>exact k own3 σ3 r<|I3.mono j
  |true=>
   refine⟨fun e H'=>∃own Y,DI W.K as0 B O own e Y H'/\c8 W as0 B Ob O (cq τ φ m Y) D',fun e H' q=>⟨m,adm m,q⟩,as0,B,own3,δ3,I3.mono j,?_⟩;have h4'  := k;cases hr:φ δ3 with
   |ok f=>
    rw[hr]at h4';cases f with
    |nx g=>exact fun a e H' i=>⟨a,g,i,h4'⟩
    |ct g=>exact fun a e H' i=>⟨a,g,i,h4'⟩
    |bk g=>exact h4'
    |rt d=>exact h4'
    |rn d=>exact h4'
   |er x=>rw[hr]at h4';exact h4'
   |no=>rw[hr]at h4';exact h4'
end
def R.calm{α:Type}:R α->R α
 |.ok a=>.ok a
 |_=>.no
def dY(ix:List<|Option Nat)(Y:Sd):Sd:=ix.map fun o=>o.bind fun j=>(Y[j]?).getD U
def tX:TgD->Sd->Bool
 |.one i,Y=>match Y[i]? with
  |some U=>G
  |_=>η
 |.tup is,Y=>is.all fun i=>match Y[i]? with
  |some U=>G
  |_=>η
def fV(tg:TgD)(τ:FT)(ε:FE)(a:Sd):afy->R (afy)
 |[]=>.ok []
 |x::r=>(iY tg x a).bind fun c=>(τ c).bind fun b=>if b=G then(ε c).bind fun y=>(fV tg τ ε a r).bind fun ys=>.ok (y::ys)else fV tg τ ε a r
def cF(tg:TgD)(τ:FT)(ε:FE)(a:Sd)(xs:afy):R D:=if tX tg a=G/\xs.length<=1000000 then(fV tg τ ε a xs).calm.bind fun ys=>.ok (.lst ys)else .no
def jX(ix:List<|Option Nat)(ι:FA)(tg:TgD)(τ:FT)(ε:FE):FE:=fun Y=>(ι Y).bind fun xs=>cF tg τ ε (dY ix Y) xs
def xa:FT:=fun _=>.ok G
theorem rR:∀(is:afq)(ds:afy)(a Y:Sd),(∀(i:Nat),i∈is->a[i]?=J U)->(∀(i:Nat)(d:D),a[i]?=J (J d)->Y[i]?=J (J d))->∀(i:Nat)(d:D),a[i]?=J (J d)->(l7 is ds Y)[i]?=J (J d)
 |[],_,_,_,_,h=>by assumption
 |_::_,[],_,_,_,h=>by assumption
 |j::is,x::ds,a,Y,hn,h=>by
  intro i d e;refine rR is ds a _ (fun i c=>hn i<|ie _ c) (fun i d e=>?_) i d e;have b:j≠i:=fun z=>by
   mright
  mright
theorem D4{tg:TgD}{x:D}{a δ1:Sd}(c:tX tg a=G)(h:iY tg x a=.ok δ1):∀(i:Nat)(d:D),a[i]?=J (J d)->δ1[i]?=J (J d):=by
 cases tg with
 |one j=>
  nofun;intro i d e;have f:j≠i:=fun z=>by
   subst z;have b:(match a[j]? with|some U=>G|_=>η)=G:=c
   rw[e]at b;cases b
  mright
 |tup is=>
  cases x with
  |tup ds=>
   have h':(if ds.length=is.length then R.ok (l7 is ds a)else .no)=.ok δ1:=h;split at h'
   .cases h';refine rR is ds a a (fun i g=>?_) fun i d e=>e;have b  := c
    have:=aaH.mp b i g
    grind
   .cases h'
  |_=>nofun
theorem uQ:∀(is:afq)(ds:afy)(Y:Sd),(l7 is ds Y).length=Y.length
 |[],_,_=>by rfl
 |_::_,[],_=>by rfl
 |j::is,x::ds,Y=>by unfold l7;rw[uQ is ds];simp
theorem IY(h:iY tg x δ0=.ok δ1):δ1.length=δ0.length:=by
 cases tg with
 |one j=>nofun;simp
 |tup is=>
  cases x with
  |tup ds=>
   have h':(if ds.length=is.length then R.ok (l7 is ds δ0)else .no)=.ok δ1:=h;split at h'
   .cases h';exact uQ _ _ _
   .cases h'
  |_=>nofun
theorem DI.plain{K:aT}(c:Y.length=Z.length)(ex:∀a∈M,H a≠U)(var:∀(i:Nat)(d:D),Y[i]?=J (J d)->∃v,Z[i]?=J (J v)/\bQ K (aj M H) d v):DI K M H [] [] Z Y H:=
 ⟨c,rfl,aby,aby,fun a b=>(nomatch b),ex,ah.refl _,fun i d _ e=>var i d e,fun i a h=>(by mright)⟩
section
variable{X:Cx}{W Wb:Wd}{O:afq}{osc:Scope}{ON N:afr}{ix:List (Option Nat)}{scope:Scope}{tg elt iter:aa1}{ifs:List aa1}{pos:Pos}{ι:FA}{t:TgD}{τ:FT}{ε:FE}
theorem Jw:JTs X []<|lq W O xa:=Kf.imp fun Z H Q a=>dQ a fun as0 B own Y I h=>h H<|ah.refl _
structure GivesC(K:aT)(M:afv)(H:Hp)(Jq0:It)(xs:afy):Prop where
 go:∀i H1,ah H H1->i<xs.length->Jq0.go i H1
 yl:∀i H1 v H2 acc,ah H H1->H acc=U->(∀a∈acc::M,H1 a≠U)->i<xs.length->Jq0.yld i H1 v H2->ah H1 H2/\∃d,xs[i]?=J d/\bQ K (aj (acc::M) H2) d v
 stop:∀H1,ah H H1->Jq0.stop xs.length H1
theorem GivesD.comp{K:aT}(Gq0:GivesD K as0 (aj own H) Jq0 xs):GivesC K (own++as0) H Jq0 xs where
 go:=fun i H1 s e=>Gq0.go i H1 ((aD _ _).trans<|(aD _ _).trans s) e
 yl:=fun i H1 v g c s b f e y=>Gq0.yl i H1 v g (c::(own++as0)) ((aD _ _).trans<|(aD _ _).trans s) f (fun a d=>by
  rcases eQ.mp d with rfl|d
  .refine .inr ?_
   cases z:aj own H a with
   |none=>rfl
   |some u=>have:=aD _ _ _ _ z;rw[b]at this;cases this
  .rcases BY.mp d with z|z
   .exact .inr (bT z)
   .exact .inl z) e y
 stop:=fun H1 s=>Gq0.stop H1<|(aD _ _).trans<|(aD _ _).trans s
def w9(tg:TgD)(τ:FT)(ε:FE)(a:Sd)(xs:afy):R D:=if tX tg a=G/\xs.length<=1000000 then(fV tg τ ε a xs).bind fun ys=>.ok (.lst ys)else .no
theorem Du{tg:TgD}(h:iY tg d Y=.er x):False:=by
 cases tg with
 |one i=>nofun
 |tup is=>
  cases d with
  |tup ds=>
   have h':(if ds.length=is.length then R.ok (l7 is ds Y)else .no)=.er x:=h;split at h'<;>cases h'
  |_=>nofun
theorem GA{K:aT}{as0 own:afv}{B H:Hp}{Z:St}{Y:Sd}{xs:afy}{Jq0:It}{Q:VK}(P:Wb.K=K)(I:DI K as0 B O own Z Y H)(hO:∀j∈ix,∀k,j=J k->k∉O)(Gq0:GivesC K (own++as0) H Jq0 xs)
  (hq:match w9 t τ ε (dY ix Y) xs with
   |.ok d=>∀p o H',ah H H'->H p=U->H' p=J o->kL K (aj (p::(own++as0)) H') o d->Q (.ref p) H'
   |.er x=>∀e C H',ah H H'->Wb.mg x=J (.ref C)->Wb.E e (J C) H'
   |.no=>False):wQ (gD Wb [] t) (lq Wb [] τ) (tD Wb [] ε) Jq0 (mz ix Z) H Q:=by
 intro c f;unfold w9 at hq;by_cases hc:tX t (dY ix Y)=G/\xs.length<=1000000
 .rw[afk hc]at hq;obtain⟨hf,hlen⟩:=hc
  generalize W:fV t τ ε (dY ix Y) xs=ra at hq;have l:∀(es:afy)(r:R<|afy),ra=(r.bind fun rest=>.ok<|es++rest)->match r with
    |.ok rest=>∀p o H',ah H H'->H p=U->H' p=J o->kL K (aj (p::(own++as0)) H') o (.lst<|es++rest)->Q (.ref p) H'
    |.er x=>∀e C H',ah H H'->Wb.mg x=J (.ref C)->Wb.E e (J C) H'
    |.no=>False:=fun es r e=>by
   subst e;cases r with
   |ok rest=>exact hq
   |er x=>exact hq
   |no=>exact hq
  clear hq;generalize X:dY ix Y=δ0 at hf W;have cl:δ0.length=(mz ix Z).length:=by rw[<-X];unfold dY mz;simp
  have cv:∀(i:Nat)(d:D),δ0[i]?=J (J d)->∃v,(mz ix Z)[i]?=J (J v)/\bQ K (aj (own++as0) H) d v:=by rw[<-X];exact(by
    intro i d e;unfold dY at e;unfold mz;rw[aa4]at e⊢;cases h:ix[i]? with
    |none=>grind
    |some o=>
     rw[h]at e;cases o with
     |none=>cases e
     |some j=>
      have ej:Y[j]?=J (J d):=by
       cases q:Y[j]? with
       |none=>mright
       |some w=>mright
      obtain⟨v,h1,h2⟩:=I.var j d (hO _ (Do h) j rfl) ej
      mright)
  generalize mz ix Z=σ0 at cl cv;have exM0:=I.exi;generalize hM:own++as0=M at cv l Gq0 exM0;have exM:∀a∈M,H a≠U:=exM0;have naM:c∉M:=fun z=>exM c z f
  have F:∀{H':Hp},ah H H'->(∃o,H' c=J o)->∀a∈c::M,H' a≠U:=fun{H'}s⟨o,e⟩a ha=>by
   rcases eQ.mp ha with rfl|ha
   .rw[e];simp
   .cases q:H a with
    |none=>exact absurd q<|exM a ha
    |some u=>rw[s a u q];simp
  have s0:ah H<|br H c<|.lst []:=bR f _;have start:ra=((fV t τ ε δ0<|xs.drop 0).bind fun rest=>.ok<|[]++rest):=by
   rw[<-W,aer];cases fV t τ ε δ0 xs<;>rfl
  refine⟨fun i m T H'=>m=xs.length-i/\i<=xs.length/\∃ys es,H' c=J (.lst ys)/\ys.length<=i/\ah H H'/\ay K (aj (c::M) H') es ys/\ra=((fV t τ ε δ0<|xs.drop i).bind fun rest=>.ok<|es++rest)/\DI K (c::M) H' [] [] T δ0 H',
   ⟨xs.length,∅,aa2 _,[],[],aE,aa2 _,s0,rfl,start,DI.plain cl (F s0 ⟨_,aE⟩) fun i d e=>let⟨v,h1,h2⟩:=cv i d e;⟨v,h1,h2.mono (tH f s0)⟩⟩,?_⟩
  rintro i m σ1 H1 ⟨rfl,hi,ys,es,e1,hl1,s1,d1,c1,I1⟩;have sB:ah H H1:=s1;by_cases A:i<xs.length
  .refine .inr ⟨Gq0.go i H1 sB A,fun T H'=>∃ys es,H' c=J (.lst ys)/\ys.length<=i+1/\ah H H'/\ay K (aj (c::M) H') es ys/\ra=((fV t τ ε δ0<|xs.drop<|i+1).bind fun rest=>.ok<|es++rest)/\DI K (c::M) H' [] [] T δ0 H',
    by rintro T H'⟨ys,es,q⟩;exact ⟨xs.length-(i+1),⊥,rfl,A,ys,es,q⟩,fun v H2 y=>?_⟩
   left;obtain⟨s2,d,hd,dv⟩:=Gq0.yl i H1 v H2 c sB f (F s1 ⟨_,e1⟩) A y
   have ed:xs.drop i=d::xs.drop (i+1):=by
    rw[aa6 A];rw[aaC A]at hd;cases hd;rfl
   rw[ed]at c1;have c1:ra=(((iY t d δ0).bind fun g=>(τ g).bind fun b=>if b=G then(ε g).bind fun y=>(fV t τ ε δ0<|xs.drop<|i+1).bind fun ys=>.ok (y::ys)else fV t τ ε δ0 (xs.drop<|i+1)).bind fun rest=>.ok<|es++rest):=c1;cases b1:iY t d δ0 with
   |er x=>right;exact(Du b1).elim
   |no=>right;rw[b1]at c1;exact(l es .no c1).elim
   |ok g=>
    right;rw[b1,am]at c1;have I2:DI K (c::M) H2 [] [] σ1 δ0 H2:=DI.plain I1.len (F (s1.trans s2) ⟨_,s2 _ _ e1⟩) fun i d e=>let⟨v,h1,h2⟩:=I1.var i d ∅ e;⟨v,h1,h2.mono<|aA s2⟩;have again:∀{S:St}{H3 H4:Hp},DI K (c::M) H2 [] [] S g H3->ah (aj (c::M) H3) (aj (c::M) H4)->(∀a∈c::M,H4 a≠U)->DI K (c::M) H4 [] [] S δ0 H4:=fun{S H3 H4}I3 s34 ex4=>
     DI.plain (by rw[<-IY b1];exact I3.len) ex4 fun i d e=>let⟨v,h1,h2⟩:=I3.var i d ∅<|D4 hf b1 i d e;⟨v,h1,h2.mono s34⟩
    refine⟨c::M,H2,[],δ0,d,by rw[P];exact I2,by rw[P];exact dv,?_⟩;rw[b1];refine fun S I3=>⟨c::M,H2,[],g,I3,?_⟩;rw[P]at I3;cases b2:τ g with
    |er x=>rw[b2]at c1;exact fun e C H' s' hm=>l es (.er x) c1 e C H' ((s1.trans s2).trans<|I3.same.trans s') hm
    |no=>rw[b2]at c1;exact(l es .no c1).elim
    |ok b=>
     rw[b2,am]at c1;refine fun H3 s3=>?_;have I3':=I3.mono s3;have n:ah H1 H3:=s2.trans<|I3.same.trans s3;cases b with
     |false=>
      rw[afl MK]at c1;exact⟨ys,es,n _ _ e1,⊥,s1.trans n,d1.mono<|aA n,c1,again I3' (ah.refl _)<|F (s1.trans n) ⟨_,n _ _ e1⟩⟩
     |true=>
      rw[afk rfl]at c1;refine⟨c::M,H2,[],g,by rw[P];exact I3',?_⟩;cases b3:ε g with
      |er x=>rw[b3]at c1;exact fun e C H' s' hm=>l es (.er x) c1 e C H' ((s1.trans n).trans s') hm
      |no=>rw[b3]at c1;exact(l es .no c1).elim
      |ok y'=>
       rw[b3,am]at c1;refine fun v4 H4 s4 d4=>?_;rw[P]at d4;have s14:ah H1 H4:=n.trans s4;have e4:=s14 _ _ e1;have hm:=ck;have N:ah (aj (c::M) H4)<|aj (c::M)<|br H4 c<|.lst<|ys++[v4]:=fun b o e=>by
        by_cases hb:b∈c::M
        .rw[bT hb]at e;cases e
        .rw[av hb]at e⊢;rw[aG fun z=>hb<|by rw[z];exact aax];exact e
       have s5:ah H<|br H4 c<|.lst<|ys++[v4]:=fun b o e=>by
        rw[aG<|bc e f];exact(s1.trans s14) b o e
       refine⟨ys,e4,⊥,ys++[v4],es++[y'],aE,by simp;omega,s5,?_,?_,again I3' ((aA s4).trans N)<|F s5 ⟨_,aE⟩⟩
       .exact(ay.append (d1.mono<|aA s14)<|ay.cons d4 ay.nil).mono N
       .rw[c1];cases fV t τ ε δ0 (xs.drop<|i+1)with
        |ok r=>show R.ok _=R.ok _;simp
        |er x=>rfl
        |no=>rfl
  .have e':i=xs.length:=⊥
   subst e';rw[List.drop_length]at c1;have this:∀(p:aaB)(o:HO)(H':Hp),ah H H'->H p=U->H' p=J o->kL K (aj (p::M) H') o (D.lst<|es++[])->Q (V.ref p) H':=l es (.ok []) c1;rw[aaJ]at this;exact .inl ⟨Gq0.stop H1 sB,this c _ H1 s1 f e1 ⟨ys,rfl,d1⟩⟩
 mright
theorem oy{K:aT}(b:Wb.K=K)(I:DI K as0 B O own Z Y H)(e:∀j∈ix,∀k,j=J k->k∉O)(Gq0:GivesC K (own++as0) H Jq0 xs)
  (a:match cF t τ ε (dY ix Y) xs with
   |.ok d=>∀p o H',ah H H'->H p=U->H' p=J o->kL K (aj (p::(own++as0)) H') o d->Q (.ref p) H'
   |_=>False):wQ (gD Wb [] t) (lq Wb [] τ) (tD Wb [] ε) Jq0 (mz ix Z) H Q:=by
 refine GA b I e Gq0 ?_;delta cF at a;delta w9;by_cases c:tX t (dY ix Y)=G/\xs.length<=1000000
 .rw[afk c]at a⊢;cases hall:fV t τ ε (dY ix Y) xs with
  |ok ys=>rw[hall]at a;exact a
  |er x=>rw[hall]at a;exact a.elim
  |no=>rw[hall]at a;exact a.elim
 mright
theorem Qy(g:zr osc ON N ix scope=G)(n:JI X tg iter<|iD W O ι)(m:∀b,JG (jm X N scope b) tg<|gD Wb [] t)(l:∀b,JTs (jm X N scope b) ifs<|lq Wb [] τ)(w:∀b,JE (jm X N scope b) elt<|tD Wb [] ε)(v:∀j∈ix,∀k,j=J k->k∉O)
  (a:autoParam (Wb.K=W.K) Xaz) (u:autoParam (X.env.scope=osc) Xaz) (f:autoParam (X.N=ON) Xaz) (e:autoParam (X.calm=G) Xaz) (hs:autoParam (∀x,abl iter X.env x=pure x) Xcx):JE X (.ListComp elt [⟨tg,iter,ifs,0⟩] scope pos)<|tN W O<|jX ix ι t τ ε:=
 (Qa g n m l w u f e hs).imp fun Z H Q q=>dQ q fun as0 B own Y I h=>⟨as0,B,own,Y,I,by
  delta jX at h;cases hr:ι Y with
  |no=>rw[hr]at h;mleft
  |er x=>rw[hr]at h;exact h
  |ok xs=>
   rw[hr]at h;refine fun i H1 c Gq0=>oy a (I.mono c) v Gq0.comp ?_;have h':kX W (own++as0) H (cF t τ ε (dY ix Y) xs) Q:=h;cases hq:cF t τ ε (dY ix Y) xs with
   |ok d=>rw[hq]at h';exact fun p o H' s r=>h' p o H' (c.trans s)<|c.free r
   |er x=>
    delta cF at hq;split at hq
    .cases e:fV t τ ε (dY ix Y) xs<;>rw[e]at hq<;>cases hq
    .cases hq
   |no=>rw[hq]at h';exact h'.elim⟩
theorem LO{i:Nat}{spos pos':Pos}(y:X.N.Nodup)(M:Loc X.env.scope x)(l:zr osc ON N ix scope=G)(r:JI X tg iter<|iD W O ι)(q:∀b,JG (jm X N scope b) tg<|gD Wb [] t)(n:∀b,JTs (jm X N scope b) ifs<|lq Wb [] τ)(E:∀b,JE (jm X N scope b) elt<|tD Wb [] ε)(A:∀j∈ix,∀k,j=J k->k∉O)
  (c:autoParam (Wb.K=W.K) Xaz) (C:autoParam (X.N[i]?=J x) Xaz) (z:autoParam (X.env.scope=osc) Xaz) (g:autoParam (X.N=ON) Xaz) (f:autoParam (X.calm=G) Xaz)
  (a:autoParam (abm (.ListComp elt [⟨tg,iter,ifs,0⟩] scope pos) (J<|.Name x pos') spos.line X.env=pure G) Xaz)
  (F:autoParam (X.fn x=G\/X.env.scope.names.lookup x=J .local) Xbx)
  (hs:autoParam (∀x,abl iter X.env x=pure x) Xcx):JS X (.Assign [.Name x pos'] (.ListComp elt [⟨tg,iter,ifs,0⟩] scope pos) spos)<|AL (tN W O<|jX ix ι t τ ε)<|ml i:=
 (Ap y M l r q n E C z g f a F hs).imp fun D Z H v=>dQ v fun as0 B own Y I h=>⟨as0,B,own,Y,I,by
  delta jX at h;cases hr:ι Y with
  |no=>rw[hr]at h;mleft
  |er x=>rw[hr]at h;exact h
  |ok xs=>
   rw[hr]at h;refine fun m H1 e Gq0=>oy c (I.mono e) A Gq0.comp ?_;have h':kX W (own++as0) H (cF t τ ε (dY ix Y) xs) (fun x H1=>ml i x Z H1 D.nx):=h;cases hq:cF t τ ε (dY ix Y) xs with
   |ok d=>rw[hq]at h';exact fun p o H' s w=>h' p o H' (e.trans s)<|e.free w
   |er x=>
    delta cF at hq;split at hq
    .cases f:fV t τ ε (dY ix Y) xs<;>rw[f]at hq<;>cases hq
    .cases hq
   |no=>rw[hq]at h';exact h'.elim⟩
theorem L7{st:abN}(c:i∉O)(h:JS X st<|AL (tN W O ε)<|ml i):JS X st<|sD W Ob O (i::O)<|Av i ε:=h.imp fun D Z H a=>dQ a fun as0 B own Y I h=>
 ⟨as0,B,own,Y,I,kg I h fun d p o H' s b e f h'=>by
  split at h'
  .rename_i hl;exact h' _ _ H'<|ze I c s b e f hl
  .exact h'.elim⟩
theorem KC{st:abN}(c:i∉O)(h:JS X st<|AL (tN W O ε)<|ml i):JS X st<|sD W Ob O O<|rZ i ε:=h.imp fun D Z H a=>dQ a fun as0 B own Y I h=>
 ⟨as0,B,own,Y,I,kg I h fun d p o H' s b e f h'=>h' own _ H'<|(I.mono s).set c<|f.den (I.new b) e⟩
end
def gd(N:afr)(ds:afy):Sd:=ds.map J++aaA (N.length-ds.length) U
def gx(φ:FS)(N P:afr)(ds:afy):R D:=if ds.length=P.length then(φ<|gd N ds).bind fun f=>match f with
 |.rt d=>.ok d
 |.rn d=>.ok d
 |.nx _=>.ok .non
 |_=>.no
 else .no
def rj(K:aT)(mg:afu)(F:afy->R D):Sp:=fun vs H Q _=>∃as ds,(∀a∈as,H a≠U)/\ay K (aj as H) ds vs/\cP ⟨K,mg,E0⟩ as H (F ds) Q
section
variable{P:abf}{w:abh}{K:aT}{mg:afu}{base:acn}
theorem mZ:∀{ds:afy}{vs:afx}{i:Nat}{d:D},ay K H ds vs->∀{n:Nat},(ds.map J++aaA n U)[i]?=J (J d)->∃v,(vs.map J++aaA n U)[i]?=J (J v)/\bQ K H d v:=by
 intro ds vs i d h n e;have b:=h.len;by_cases a:i<ds.length
 .rw[aaX<|by simpa using a]at e;rw[aaX<|by simp_all];cases q:ds[i]? with
  |none=>mright
  |some d'=>
   obtain⟨v,h1,h2⟩:=h.get q
   mright
 .rw[aaI<|by simpa using a,ack]at e;split at e<;>cases e
theorem Fun.okD{st:abN}(F:Fun K x qual st f fd)(S:FnScope N ps<|ai st)
  (g:∀(c:nE)(_:Ea K c qual=G)(A:abF)(b:List Env)(s:ID)(H:Hp)(E:XK),Room k (A.deeper<|ac4 qual (ai st) s.heap.objs.size f c) ->
   JB (gw lD P w K mg base N qual (ai st) f c A b s H E).nox (bL st) (sD ⟨K,mg,E0⟩ [] [] O' φ)):FnOk P w K mg base lD (k+1) f fd ps (rj K mg (gx φ N ps)):=by
 refine F.okJ S (fun vs H Q E h=>?_) fun c m A b s H vs Q E j h=>?_
 .obtain⟨as,ds,ex,l,h⟩:=h;delta gx at h;cbv
  .rename_i hl;rw[<-l.len];exact hl
  .mleft
 .obtain⟨as,ds,ex,l,h⟩:=h
  delta gx at h;cbv
  .refine⟨_,g c m A b s H E j,as,H,[],gd N ds,⟨?_,rfl,aby,aby,fun a q=>(nomatch q),ex,ah.refl _,fun i d _ e=>?_,fun i a h=>(by simp at h)⟩,?_⟩
   .delta gd start;simp[l.len]
   .delta start;rw[<-l.len];exact mZ l e
   .cases j:φ (gd N ds)with
    |ok fl=>
     rw[j]at h;cases fl with
     |rt d=>assumption
     |rn d=>exact fun p o H' s n e r=>h (.ref p) H' s<|r.den (fun z=>ex p z n) e
     |nx Y=>exact fun own Z H' I=>h .non H' I.same rfl
     |bk Y=>mleft
     |ct Y=>mleft
    |er x=>rw[j]at h;exact fun e C H' s=>h e C H' s
    |no=>rw[j]at h;mleft
  .mleft
end
section
variable{W:Wd}{X:Cx}
theorem ax(h:cP W as H (.ok d) Q)(hd:bQ W.K (aj as H) d v):Q v H:=h v H (ah.refl _) hd
noncomputable def zI(a b:D):R D:=match a,b with
 |.int i,.int j=>.ok<|.int<|i-j
 |_,_=>.no
theorem AN:eJ X (aco .Mult) (fun x y H Q=>∃i n,x=.str i/\y=.int n/\MulOk i n/\Q (.str<|Txt.mul i n) H):=by
 intro aa s Z H x y v u Q I c b h;obtain⟨i,n,rfl,rfl,a,q⟩:=h;obtain⟨t,rfl⟩:=c;obtain⟨t',rfl⟩:=b;exact aO I.tk<|SB.mul a fun t' k d=>⟨.str _,H,I.tok _,⟨t',rfl⟩,q⟩
def MF:R2:=fun x y H Q=>match x,y with
 |.int i,.int j=>y3 i j/\Q (.int<|i*j) H
 |.str i,.int j=>MulOk i j/\Q (.str<|Txt.mul i j) H
 |_,_=>False
instance (i j:Int):Decidable<|y3 i j:=by unfold y3;infer_instance
instance (i j:Int):Decidable<|ET i j:=by unfold ET;infer_instance
instance (i j:Int):Decidable<|Iy i j:=by unfold Iy;infer_instance
noncomputable def qX(a b:D):R D:=match a,b with
 |.int i,.int j=>if y3 i j then .ok (.int<|i*j)else .no
 |.str x,.int n=>if x.length<=1000/\-1000<=n/\n<=1000 then .ok (.str<|Txt.mul x n)else .no
 |_,_=>.no
theorem Wo:wo W MF qX:=by
 intro as H x y a b Q e c d h;delta qX at h;cbv
 .subst c;subst d;cbv
  .rename_i hl;exact⟨hl,ax h rfl⟩
  .mleft
 .subst c;subst d;cbv
  .rename_i hl;exact⟨mulOk_of 1000 1000 hl.1 (by mright) ⊥ ∅<|∅,ax h rfl⟩
  .mleft
 .mleft
noncomputable def lO(a b:D):R D:=match a,b with
 |.int i,.int j=>if ET i j then .ok (.int<|i/j)else .no
 |_,_=>.no
noncomputable def gk(a b:D):R D:=match a,b with
 |.int i,.int j=>if 0<j then .ok (.int<|i%j)else .no
 |_,_=>.no
noncomputable def Oh(a b:D):R D:=match a,b with
 |.int i,.int j=>if Iy i j then .ok (.int<|i^j.toNat)else .no
 |_,_=>.no
def QN(a:D):R D:=match a with
 |.int i=>.ok<|.int<|-i
 |_=>.no
noncomputable def zF(a b:D):R D:=match a,b with
 |.int i,.int j=>.ok<|.bl<|decide (i<j)
 |.str i,.str j=>.ok<|.bl<|decide (i.cps.toList<j.cps.toList)
 |_,_=>.no
noncomputable def Mp(a b:D):R D:=match a,b with
 |.int i,.int j=>.ok<|.bl<|decide (i<=j)
 |.str i,.str j=>.ok<|.bl<|!decide (j.cps.toList<i.cps.toList)
 |_,_=>.no
noncomputable def Ed(a b:D):R D:=match a,b with
 |.int i,.int j=>.ok<|.bl<|decide (j<i)
 |.str i,.str j=>.ok<|.bl<|decide (j.cps.toList<i.cps.toList)
 |_,_=>.no
noncomputable def C9(a b:D):R D:=match a,b with
 |.int i,.int j=>.ok<|.bl<|decide (j<=i)
 |.str i,.str j=>.ok<|.bl<|!decide (i.cps.toList<j.cps.toList)
 |_,_=>.no
theorem Z5:wo W Xn zF:=by
 intro as H x y a b Q e c d h;delta zF at h;cbv
 .subst c;subst d;exact ax h rfl
 .subst c;subst d;exact ax h rfl
 .mleft
theorem ZC:wo W Yy Mp:=by
 intro as H x y a b Q e c d h;delta Mp at h;cbv
 .subst c;subst d;exact ax h rfl
 .subst c;subst d;exact ax h rfl
 .mleft
theorem ZG:wo W W9 Ed:=by
 intro as H x y a b Q e c d h;delta Ed at h;cbv
 .subst c;subst d;exact ax h rfl
 .subst c;subst d;exact ax h rfl
 .mleft
theorem YO:wo W XA C9:=by
 intro as H x y a b Q e c d h;delta C9 at h;cbv
 .subst c;subst d;exact ax h rfl
 .subst c;subst d;exact ax h rfl
 .mleft
def WS:D->Bool
 |.non=>G
 |_=>η
noncomputable def WO(j:Bool):D->Bool
 |.bl i=>i==j
 |_=>η
def OU(x:D)(y:D):R D:=match y with
 |.non=>.ok<|.bl<|WS x
 |.bl j=>.ok<|.bl<|WO j x
 |_=>.no
def rX(x:D)(y:D):R D:=match y with
 |.non=>.ok<|.bl<|!WS x
 |.bl j=>.ok<|.bl<|!WO j x
 |_=>.no
theorem vj{K:aT}(h:bQ K H a x):BI x .non=WS a:=by
 cases a with
 |lst _=>obtain⟨_,_,rfl,_⟩:=h;rfl
 |tup _=>obtain⟨_,_,rfl,_⟩:=h;rfl
 |dct _=>obtain⟨_,_,rfl,_⟩:=h;rfl
 |obj _ _=>obtain⟨_,_,_,_,rfl,_⟩:=h;rfl
 |exn _=>obtain⟨_,_,rfl,_⟩:=h;rfl
 |cls _=>obtain⟨_,rfl,_⟩:=h;rfl
 |lsm _=>obtain⟨_,_,rfl,_⟩:=h;rfl
 |dcf _=>obtain⟨_,_,_,rfl,_⟩:=h;rfl
 |_=>subst h;rfl
theorem uS{K:aT}(h:bQ K H a x):BI x (.bl j)=WO j a:=by
 cases a with
 |lst _=>obtain⟨_,_,rfl,_⟩:=h;rfl
 |tup _=>obtain⟨_,_,rfl,_⟩:=h;rfl
 |dct _=>obtain⟨_,_,rfl,_⟩:=h;rfl
 |obj _ _=>obtain⟨_,_,_,_,rfl,_⟩:=h;rfl
 |exn _=>obtain⟨_,_,rfl,_⟩:=h;rfl
 |cls _=>obtain⟨_,rfl,_⟩:=h;rfl
 |lsm _=>obtain⟨_,_,rfl,_⟩:=h;rfl
 |dcf _=>obtain⟨_,_,_,rfl,_⟩:=h;rfl
 |_=>subst h;rfl
theorem YX:wo W Wu OU:=by
 intro as H x y a b Q e c d h;delta OU at h;cbv
 .subst d;show Q (.bl<|BI x .non) H;rw[vj c];exact ax h rfl
 .subst d;show Q (.bl<|BI x<|.bl _) H;rw[uS c];exact ax h rfl
 .mleft
theorem Fj:wo W z6 rX:=by
 intro as H x y a b Q e c d h;delta rX at h;cbv
 .subst d;show Q (.bl<|!BI x .non) H;rw[vj c];exact ax h rfl
 .subst d;show Q (.bl<|!BI x (.bl _)) H;rw[uS c];exact ax h rfl
 .mleft
mutual
def kZ:D->Option PyData
 |.non=>J .none
 |.bl b=>J<|.bool b
 |.int i=>J<|.int i
 |.str x=>J<|.str x
 |.lst xs=>(ma xs).map .list
 |.tup xs=>(ma xs).map .tuple
 |_=>U
def ma:afy->Option (List PyData)
 |[]=>J []
 |d::ds=>(kZ d).bind fun p=>(ma ds).map (p::·)
end
mutual
theorem kz{aa:afs}{Z:St}{H:Hp}{s:ID}(I:Inv X aa Z H s):∀{d:D}{v:V}{u:nE}{p:PyData},bQ X.K H d v->aP v u->kZ d=J p->∃as,Reads s.heap u p as
 |.non,_,_,_,h,r,e=>by subst h;subst r;cases e;exact⟨_,.none⟩
 |.bl b,_,_,_,h,r,e=>by subst h;subst r;cases e;exact⟨_,.bool b⟩
 |.int i,_,_,_,h,r,e=>by subst h;obtain⟨t,rfl⟩:=r;cases e;exact⟨_,.int i t⟩
 |.str x,_,_,_,h,r,e=>by subst h;obtain⟨t,rfl⟩:=r;cases e;exact⟨_,.str x t⟩
 |.lst ds,_,_,_,⟨a,xs,h0,h1,h2⟩,r,e=>by
  subst h0;subst r;unfold kZ at e;cases q:ma ds with
  |none=>rw[q]at e;cases e
  |some ps=>
   rw[q]at e;cases e;obtain⟨aV,rv,pl,hz⟩:=I.list h1
   obtain⟨o,ho,hc,n,hd⟩:=pl.isList
   obtain⟨as,ha⟩:=kI I h2 rv q
   exact⟨_,.list ho hc hd<|by assumption⟩
 |.tup ds,_,_,_,⟨a,xs,h0,h1,h2⟩,r,e=>by
  subst h0;subst r;unfold kZ at e;cases q:ma ds with
  |none=>mright
  |some ps=>
   rw[q]at e;cases e;obtain⟨aV,rv,pl,hz⟩:=I.tuple h1
   obtain⟨o,ho,hc,n,hd⟩:=pl
   obtain⟨as,ha⟩:=kI I h2 rv q
   exact⟨_,.tuple ho hc hd<|⊤⟩
 |.dct _,_,_,_,_,_,e=>by cases e
 |.obj _ _,_,_,_,_,_,e=>by cases e
 |.ty _,_,_,_,_,_,e=>by cases e
 |.exn _,_,_,_,_,_,e=>by cases e
 |.cls _,_,_,_,_,_,e=>by cases e
 |.lsm _,_,_,_,_,_,e=>by cases e
 |.dcf _,_,_,_,_,_,e=>by cases e
theorem kI{aa:afs}{Z:St}{H:Hp}{s:ID}(I:Inv X aa Z H s):∀{ds:afy}{vs:afx}{us:afw}{ps:List PyData},ay X.K H ds vs->aU vs us->ma ds=J ps->∃as,ReadsAll s.heap us ps as
 |[],_,_,_,h,r,e=>by subst h;cases r;cases e;exact⟨_,.nil⟩
 |d::ds,_,_,_,⟨v,vs,h0,h1,h2⟩,r,e=>by
  subst h0;unfold ma at e;cases q:kZ d with
  |none=>mright
  |some p=>
   rw[q]at e;cases q2:ma ds with
   |none=>mright
   |some ps=>
    rw[q2]at e;cases e;cases r with
    |cons r1 r2=>
     obtain⟨as,ha⟩:=kz I h1 r1 q
     obtain⟨bs,hb⟩:=kI I h2 r2 q2
     exact⟨_,.cons ha hb⟩
end
noncomputable def g7:D->Option V
 |.non=>J .non
 |.bl b=>J<|.bl b
 |.int i=>J<|.int i
 |.str x=>J<|.str x
 |_=>U
theorem gn{K:aT}(h:bQ K H d v)(e:g7 d=J x):v=x:=by
 cases d with
 |non=>cases e;exact h
 |bl b=>cases e;exact h
 |int b=>cases e;exact h
 |str b=>cases e;exact h
 |_=>cases e
def jt(a b:D):Option Bool:=match kZ a,kZ b with
 |some p,J q=>if adi p=G/\adi q=G then J (aeV p q)else U
 |_,_=>U
def zy(a b:D):Option Bool:=match g7 a,g7 b with
 |some x,J y=>if wI x y=G then J (decide (x=y))else U
 |_,_=>jt a b
def GE(K:aT)(f:Bool->Bool):R2:=fun x y H Q=>∃a b k,bQ K H a x/\bQ K H b y/\zy a b=J k/\Q (.bl<|f k) H
theorem yJ(h:jt a b=J k):∃p q,kZ a=J p/\kZ b=J q/\adi p=G/\adi q=G/\k=aeV p q:=by
 delta jt at h;cbv
 .mright
 .nofun
theorem UJ(K:aT)(i:X.A.units+64<cLine)(g:autoParam (X.K=K) Xaz):eJ X (aaY .Eq)<|GE K fun k=>k:=by
 subst g;intro aa s Z H x y v u Q I d c h;left;obtain⟨a,b,k,da,db,e,q⟩:=h
 delta zy at e;split at e
 .right;rename_i x' y' e1 e2;split at e
  .rename_i hs;cases e
   have:=gn da e1;subst this
   have:=gn db e2;subst this
   exact Vc aa s Z H _ _ v u Q I d c ⟨hs,q⟩
  .cases e
 .obtain⟨p,l,h1,h2,j,f,rfl⟩:=yJ e;obtain⟨as,ra⟩:=kz I da d h1
  obtain⟨bs,rb⟩:=kz I db c h2
  right;exact eq_dataH ra rb j f i ⟨.bl _,H,I,rfl,q⟩
theorem TR(K:aT)(i:X.A.units+64<cLine)(g:autoParam (X.K=K) Xaz):eJ X (aaY .NotEq)<|GE K fun k=>!k:=by
 subst g;intro aa s Z H x y v u Q I d c h;left;obtain⟨a,b,k,da,db,e,q⟩:=h
 delta zy at e;split at e
 .right;rename_i x' y' e1 e2;split at e
  .rename_i hs;cases e
   have:=gn da e1;subst this
   have:=gn db e2;subst this
   exact UB aa s Z H _ _ v u Q I d c ⟨hs,q⟩
  .cases e
 .obtain⟨p,l,h1,h2,j,f,rfl⟩:=yJ e;obtain⟨as,ra⟩:=kz I da d h1
  obtain⟨bs,rb⟩:=kz I db c h2
  right;exact ne_dataH ra rb j f i ⟨.bl _,H,I,rfl,q⟩
def lU(o:Option Bool)(f:Bool->Bool):R D:=match o with
 |some k=>.ok<|.bl<|f k
 |none=>.no
def jp(a b:D):R D:=lU (zy a b) fun k=>k
def xF(a b:D):R D:=lU (zy a b) fun k=>!k
theorem S6(K:aT)(f:Bool->Bool)(d:autoParam (W.K=K) Xaz):wo W (GE K f) (fun a b=>lU (zy a b) f):=by
 subst d;intro as H x y a b Q i c g h;have h:cP W as H (lU (zy a b) f) Q:=h;cases e:zy a b with
 |none=>rw[e]at h;mleft
 |some k=>
  rw[e]at h;exact⟨a,b,k,c.mono<|aD _ _,g.mono<|aD _ _,e,ax h rfl⟩
theorem aaa(K:aT)(a:autoParam (W.K=K) Xaz):wo W (GE K fun k=>k) jp:=S6 K _ a
theorem Z0(K:aT)(a:autoParam (W.K=K) Xaz):wo W (GE K fun k=>!k) xF:=S6 K _ a
def kA:afy->Option (afx)
 |[]=>J []
 |d::ds=>(g7 d).bind fun v=>(kA ds).map (v::·)
theorem tQ{K:aT}{H:Hp}:∀{ds:afy}{vs xs:afx},ay K H ds vs->kA ds=J xs->vs=xs/\xs.all ic=G
 |[],_,_,h,e=>by subst h;cases e;exact⟨rfl,rfl⟩
 |d::ds,_,_,⟨v,vs,h0,h1,h2⟩,e=>by
  subst h0;unfold kA at e;cases q:g7 d with
  |none=>mright
  |some x=>
   rw[q]at e;cases q2:kA ds with
   |none=>mright
   |some xs=>
    rw[q2]at e;cases e;obtain⟨h3,h4⟩:=tQ h2 q2
    refine⟨by rw[gn h1 q,h3],?_⟩;rw[aa5,h4];cases d<;>cases q<;>rfl
theorem Ay(e:g7 d=J x):ic x=G:=by cases d<;>cases e<;>rfl
def Jo(j i:Str):Bool:=!(acj j i 0 j.length 1).isEmpty
def xR(K:aT)(a:Bool):R2:=fun x y H Q=>match x,y with
 |.str i,.str j=>Q (.bl<|if a=G then !Jo j i else Jo j i) H
 |x,.ref p=>∃xs,(gr K H p xs\/m7 K H p xs)/\ic x=G/\xs.all ic=G/\Q (.bl<|if a=G then !Eh x xs else Eh x xs) H
 |_,_=>False
theorem TC(K:aT)(a:autoParam (X.K=K) Xaz):eJ X (aaY .In)<|xR K η:=by
 subst a;refine(Dp.or Dh).imp fun x y H Q q=>?_;unfold xR at q;split at q
 .exact .inl ⟨_,_,rfl,rfl,q⟩
 .refine Z14 q fun xs h1 h2 h3 h4=>?_
  exact .inr ⟨_,xs,rfl,h1,h2,h3,h4⟩
 .exact q.elim
theorem Ca(K:aT)(b:autoParam (X.K=K) Xaz):eJ X (aaY .NotIn)<|xR K G:=by
 subst b;refine(wS.or wn).imp fun x y H Q q=>?_;unfold xR at q;split at q
 .exact .inl ⟨_,_,rfl,rfl,q⟩
 .refine Z14 q fun xs h1 h2 c a=>?_;exact .inr ⟨_,xs,rfl,h1,h2,c,a⟩
 .exact q.elim
def vo(x:D)(xs:afy):Option Bool:=match g7 x,kA xs with
 |some v,J vs=>J<|Eh v vs
 |_,_=>U
def Ue(x y:D):Option Bool:=match y with
 |.str j=>match x with
  |.str i=>J<|Jo j i
  |_=>U
 |.lst xs=>vo x xs
 |.tup xs=>vo x xs
 |_=>U
def rE(x y:D):R D:=lU (Ue x y) fun k=>if η=G then !k else k
def mI(x y:D):R D:=lU (Ue x y) fun k=>if G=G then !k else k
theorem R8(K:aT)(c:Bool)(f:autoParam (W.K=K) Xaz):wo W (xR K c) (fun a b=>lU (Ue a b) fun k=>if c=G then !k else k):=by
 subst f;intro as H x y a b Q m e d h;have key:∀(p:aaB)(ds:afy)(vs:afx),y=.ref p->(gr W.K H p vs\/m7 W.K H p vs)->ay W.K (aj as H) ds vs->cP W as H (lU (vo a ds) fun k=>if c=G then !k else k) Q->xR W.K c x y H Q:=by
  intro p ds vs l g hd h;subst l;delta vo at h;cases e1:g7 a with
  |none=>rw[e1]at h;mleft
  |some v=>
   rw[e1]at h;cases e2:kA ds with
   |none=>rw[e2]at h;mleft
   |some ws=>
    rw[e2]at h
    have:=gn e e1
    subst this;obtain⟨h3,h4⟩:=tQ hd e2
    subst h3;have fin:∃xs,(gr W.K H p xs\/m7 W.K H p xs)/\ic x=G/\xs.all ic=G/\Q (.bl<|if c=G then !Eh x xs else Eh x xs) H:=⟨vs,g,Ay e1,h4,ax h rfl⟩;cases x<;>exact fin
 cases b with
 |str j=>
  cases a with
  |str i=>subst e;subst d;exact ax h rfl
  |_=>mleft
 |lst ds=>obtain⟨p,vs,rfl,q1,q2⟩:=d;exact key p ds vs rfl (.inl<|(aD _ _).seq q1) q2 h
 |tup ds=>obtain⟨p,vs,rfl,q1,q2⟩:=d;exact key p ds vs rfl (.inr<|(aD _ _).seqT q1) q2 h
 |_=>mleft
theorem Zj(K:aT)(a:autoParam (W.K=K) Xaz):wo W (xR K η) rE:=R8 K η a
theorem Ht(K:aT)(a:autoParam (W.K=K) Xaz):wo W (xR K G) mI:=R8 K G a
def cR(a b:D):R D:=match a,b with
 |.str z,.int i=>if z.length<=1000000 then(match atI z.cps.toList i with
  |some c=>.ok<|.str ⟨#[c]⟩
  |none=>.no)else .no
 |.lst xs,.int i=>match atI xs i with
  |some d=>.ok d
  |none=>.no
 |.tup xs,.int i=>match atI xs i with
  |some d=>.ok d
  |none=>.no
 |_,_=>.no
theorem ay.atI{K:aT}(h:ay K H ds xs)(e:atI ds i=J d):∃v,L2.atI xs i=J v/\bQ K H d v:=by
 delta L2.atI at e⊢;rw[h.len]at e;cases q:C5 xs.length i with
 |none=>mright
 |some j=>
  rw[q]at e;exact h.get e
theorem YZ(K:aT)(i:autoParam (W.K=K) Xaz):wo W (TD K) cR:=by
 subst i;intro as H x y a b Q j f g h;delta cR at h;cbv
 .subst f;subst g;cbv
  .rename_i hl;cbv
   .rename_i c e;exact⟨c,RW hl ck,e,ax h rfl⟩
   .mleft
  .mleft
 .obtain⟨p,vs,rfl,q1,q2⟩:=f;cases g;cbv
  .rename_i d e;obtain⟨v,h1,h2⟩:=q2.atI e
   exact⟨vs,v,.inl<|(aD _ _).seq q1,h1,ax h h2⟩
  .mleft
 .obtain⟨p,vs,rfl,q1,q2⟩:=f;cases g;cbv
  .rename_i d e;obtain⟨v,h1,h2⟩:=q2.atI e
   exact⟨vs,v,.inr<|(aD _ _).seqT q1,h1,ax h h2⟩
  .mleft
 .mleft
noncomputable def cr(ds:afy):R D:=match ds with
 |[.str z]=>if z.length<=1000000 then .ok (.int z.length)else .no
 |[.lst xs]=>.ok<|.int xs.length
 |[.tup xs]=>.ok<|.int xs.length
 |_=>.no
theorem gy{K:aT}(h:ay K H [d] xs):∃v,xs=[v]/\bQ K H d v:=by
 obtain⟨v,vs,rfl,h1,h2⟩:=h;subst h2;exact⟨v,rfl,h1⟩
theorem BB{K:aT}(h:ay K H [d,e] xs):∃v u,xs=[v,u]/\bQ K H d v/\bQ K H e u:=by
 obtain⟨v,vs,rfl,h1,h2⟩:=h;obtain⟨u,rfl,a⟩:=gy h2;exact⟨v,u,rfl,h1,a⟩
theorem Yr(K:aT)(c:autoParam (W.K=K) Xaz):nU W (PJ K) cr:=by
 subst c;intro as H xs ds Q d b h;delta cr at h;cbv
 .obtain⟨v,rfl,a⟩:=gy b;subst a;cbv
  .rename_i hl;exact⟨RW hl ck,ax h rfl⟩
  .mleft
 .obtain⟨v,rfl,a⟩:=gy b;obtain⟨p,vs,rfl,q1,q2⟩:=a;refine⟨vs,.inl<|(aD _ _).seq q1,?_⟩;rw[<-q2.len];exact ax h rfl
 .obtain⟨v,rfl,a⟩:=gy b;obtain⟨p,vs,rfl,q1,q2⟩:=a;refine⟨vs,.inr<|(aD _ _).seqT q1,?_⟩;rw[<-q2.len];exact ax h rfl
 .mleft
noncomputable def Tq(ds:afy):R D:=match ds with
 |[.int i]=>.ok<|.int<|if i<0 then -i else i
 |_=>.no
noncomputable def J8(ds:afy):R D:=match ds with
 |[.int i]=>.ok<|.int i
 |[.bl k]=>.ok<|.int<|if k=G then 1 else 0
 |_=>.no
noncomputable def Vv(ds:afy):R D:=match ds with
 |[.int i,.int j]=>.ok<|.int<|if j > i then j else i
 |_=>.no
noncomputable def yK:afy->Option (List Bool)
 |[]=>J []
 |.bl b::ds=>(yK ds).map (b::·)
 |_=>U
theorem zp{K:aT}:∀{ds:afy}{vs:afx}{bs:List Bool},ay K H ds vs->yK ds=J bs->vs=bs.map V.bl
 |[],_,_,h,e=>by subst h;cases e;rfl
 |d::ds,_,_,⟨v,vs,h0,h1,h2⟩,e=>by
  subst h0;cases d with
  |bl b=>
   have e:(yK ds).map (b::·)=J _:=e;cases q2:yK ds with
   |none=>mright
   |some xs=>
    rw[q2]at e;cases e;subst h1;rw[zp h2 q2];rfl
  |_=>cases e
def Dd(ds:afy):R D:=match ds with
 |[.lst xs]=>match yK xs with
  |some bs=>.ok<|.bl<|bs.all id
  |none=>.no
 |_=>.no
theorem WF(K:aT)(b:autoParam (W.K=K) Xaz):nU W (Ro K) Dd:=by
 subst b;intro as H xs ds Q d a h;delta Dd at h;cbv
 .obtain⟨v,rfl,c⟩:=gy a;obtain⟨p,vs,rfl,q1,q2⟩:=c;cbv
  .rename_i bs e;refine⟨bs,?_,ax h rfl⟩;rw[<-zp q2 e];exact(aD _ _).seq q1
  .mleft
 .mleft
def Hk(K:aT)(xs:afx)(H:Hp)(Q:VK):Prop:=match xs with
 |[x,.ty C]=>qm C=G/\(match x with
  |.non=>Q (.bl<|kQ "NoneType" C) H
  |.bl _=>Q (.bl<|kQ "bool" C) H
  |.int _=>Q (.bl<|kQ "int" C) H
  |.str _=>Q (.bl<|kQ "str" C) H
  |.ref a=>(∃xs,gr K H a xs/\Q (.bl<|kQ "list" C) H)\/(∃xs,m7 K H a xs/\Q (.bl<|kQ "tuple" C) H)\/(∃b,H a=J (.dK b)/\Q (.bl<|kQ "dict" C) H)\/∃o b,H a=J (.frz o<|.dK b)/\Q (.bl<|kQ "dict" C) H
  |_=>False)
 |_=>False
theorem Vr(K:aT)(m:autoParam (X.K=K) Xaz):bI X (.builtin "isinstance")<|Hk K:=by
 subst m;intro aa s Z H xs us Q I r h;delta Hk at h;cbv
 .rename_i x C;obtain⟨d,h⟩:=h;obtain⟨u,c,rfl,f,rc⟩:=ya r;subst rc;have fin:∀(b:Bool),Q (.bl b) H->∀tk,X.tn<=tk->EP X aa Z Q (.bool b) {s with toks:=tk}:=fun b q tk p=>⟨.bl b,H,I.tok tk,rfl,q⟩;refine aO I.tk ?_;left;cases x with
  |non=>right;exact iP I f .non (gZ (.inl rfl) d)<|fin _ h
  |bl b=>right;exact iP I f (.bl b) (gZ (.inr<|.inl rfl) d)<|fin _ h
  |int b=>right;exact iP I f (.int b) (gZ (.inr<|.inr<|.inl rfl) d)<|fin _ h
  |str b=>right;exact iP I f (.str b) (gZ (.inr<|.inr<|.inr<|.inl rfl) d)<|fin _ h
  |ref a=>
   subst f;rcases h with⟨xs,e,q⟩|⟨xs,e,q⟩|⟨g,e,q⟩|⟨t,g,e,q⟩
   .obtain⟨aV,l,pl,k⟩:=I.list e;obtain⟨o,j,i,n,hd⟩:=pl.isList;right;exact aa8 adU I.kIn ⟨o,j,i⟩ (gZ (.inr<|.inr<|.inr<|.inr<|.inl rfl) d) (fun z=>nomatch z)<|fin _ q
   .obtain⟨aV,l,pl,k⟩:=I.tuple e
    obtain⟨o,j,i,n,hd⟩:=pl
    right;exact aa8 aeG I.kIn ⟨o,j,i⟩ (gZ (.inr<|.inr<|.inr<|.inr<|.inr<|.inl rfl) d) (fun z=>nomatch z)<|fin _ q
   .right;exact iP (x:=.ref a) I rfl (.dK e) (gZ (.inr<|.inr<|.inr<|.inr<|.inr<|.inr rfl) d) (fin _ q)
   .obtain⟨_,_,_,vs,_,o,es,ep,h1,h2,_⟩:=((I.hok a _ e))
    right;exact aa8 adV I.kIn ⟨o,h1,h2.1⟩ (gZ (.inr<|.inr<|.inr<|.inr<|.inr<|.inr rfl) d) (fun z=>nomatch z)<|fin _ q
  |_=>right;mleft
 .mleft
def LP(ds:afy):R D:=match ds with
 |[x,.ty C]=>if qm C=G then(match x with
  |.non=>.ok<|.bl<|kQ "NoneType" C
  |.bl _=>.ok<|.bl<|kQ "bool" C
  |.int _=>.ok<|.bl<|kQ "int" C
  |.str _=>.ok<|.bl<|kQ "str" C
  |.lst _=>.ok<|.bl<|kQ "list" C
  |.tup _=>.ok<|.bl<|kQ "tuple" C
  |.dct _=>.ok<|.bl<|kQ "dict" C
  |.dcf _=>.ok<|.bl<|kQ "dict" C
  |_=>.no)else .no
 |_=>.no
theorem Xf(K:aT)(b:autoParam (W.K=K) Xaz):nU W (Hk K) LP:=by
 subst b;intro as H xs ds Q e d h;delta LP at h;cbv
 .obtain⟨v,u,rfl,a,c⟩:=BB d;subst c;cbv
  .rename_i hC;cbv
   .cases a;exact⟨hC,ax h rfl⟩
   .cases a;exact⟨hC,ax h rfl⟩
   .cases a;exact⟨hC,ax h rfl⟩
   .cases a;exact⟨hC,ax h rfl⟩
   .obtain⟨p,vs,rfl,q1,q2⟩:=a;exact⟨hC,.inl ⟨vs,(aD _ _).seq q1,ax h rfl⟩⟩
   .obtain⟨p,vs,rfl,q1,q2⟩:=a;exact⟨hC,.inr<|.inl ⟨vs,(aD _ _).seqT q1,ax h rfl⟩⟩
   .obtain⟨p,vs,rfl,q1,q2⟩:=a;exact⟨hC,.inr<|.inr<|.inl ⟨vs,aD _ _ _ _ q1,ax h rfl⟩⟩
   .obtain⟨p,o,vs,rfl,q1,q2⟩:=a;exact⟨hC,.inr<|.inr<|.inr ⟨o,vs,aD _ _ _ _ q1,ax h rfl⟩⟩
   .mleft
  .mleft
 .mleft
def xC(K:aT)(xs:afx)(H:Hp)(Q:VK):Prop:=match xs with
 |[.ref p]=>(∃ys,gr K H p ys/\∀l,H l=U->Q (.ref l) (br H l<|.tup ys))\/∃ys,m7 K H p ys/\Q (.ref p) H
 |_=>False
theorem HC(K:aT)(a:autoParam (X.K=K) Xaz):bI X (.type "tuple")<|xC K:=by
 subst a;refine uq.imp fun xs H Q q=>?_;unfold xC at q;split at q
 .rcases q with⟨ys,h1,h2⟩|⟨ys,h1,h2⟩
  .exact⟨_,ys,rfl,.inl ⟨h1,h2⟩⟩
  .exact⟨_,ys,rfl,.inr ⟨h1,h2⟩⟩
 .exact q.elim
noncomputable def wf(ds:afy):R D:=match ds with
 |[.lst xs]=>.ok<|.tup xs
 |[.tup xs]=>.ok<|.tup xs
 |_=>.no
theorem PL{as:afv}{H:Hp}(b:∀a∈as,H a≠U):∀p,H p=U->p∉as:=fun p c z=>b p z c
theorem WK(K:aT)(d:autoParam (W.K=K) Xaz):nU W (xC K) wf:=by
 subst d;intro as H xs ds Q e c h;delta wf at h;cbv
 .obtain⟨v,rfl,a⟩:=gy c;obtain⟨p,vs,rfl,q1,q2⟩:=a;exact .inl ⟨vs,(aD _ _).seq q1,fun l b=>h _ _ (bR b _) ⟨l,vs,rfl,.inl<|.inl<|by rw[av<|PL e l b];exact aE,q2.mono<|aA<|bR b _⟩⟩
 .obtain⟨v,rfl,a⟩:=gy c;obtain⟨p,vs,rfl,q1,q2⟩:=a;exact .inr ⟨vs,(aD _ _).seqT q1,ax h ⟨p,vs,rfl,q1,q2⟩⟩
 .mleft
noncomputable def oF:afy->Option (afr)
 |[]=>J []
 |.str b::ds=>(oF ds).map (b::·)
 |_=>U
theorem oU{K:aT}:∀{ds:afy}{vs:afx}{bs:afr},ay K H ds vs->oF ds=J bs->vs=bs.map V.str
 |[],_,_,h,e=>by subst h;cases e;rfl
 |d::ds,_,_,⟨v,vs,h0,h1,h2⟩,e=>by
  subst h0;cases d with
  |str b=>
   have e:(oF ds).map (b::·)=J _:=e;cases q2:oF ds with
   |none=>mright
   |some xs=>
    rw[q2]at e;cases e;subst h1;rw[oU h2 q2];rfl
  |_=>cases e
def kF(z:Str)(ds:afy):R D:=match ds with
 |[.lst xs]=>match oF xs with
  |some ys=>if(ys.map (·.length)).sum+ys.length*z.length<=1000000 then .ok (.str<|acP z ys)else .no
  |none=>.no
 |_=>.no
theorem Vj(K:aT)(b:autoParam (W.K=K) Xaz):V7 W (Hx K) kF:=by
 subst b;intro as H z xs ds Q d a h;delta kF at h;cbv
 .obtain⟨v,rfl,c⟩:=gy a;obtain⟨p,vs,rfl,q1,q2⟩:=c;cbv
  .rename_i ys e;cbv
   .rename_i hl;refine⟨ys,?_,RW hl<|∅,ax h rfl⟩;rw[<-oU q2 e];exact(aD _ _).seq q1
   .mleft
  .mleft
 .mleft
noncomputable def Ly(f:Str->Str->D)(z:Str)(ds:afy):R D:=match ds with
 |[.str y]=>.ok<|f z y
 |_=>.no
end
section
variable{apos cpos:Pos}{id:String}
theorem DK(g:PlainAttrs T)(d:Slot T name id)(f:typeOf (.builtin id)=pure (.type "method_descriptor"))(i:VG X id r)(h:JE X o to)(j:JA X (e::es) t)
  (a:autoParam (aaF o name X.env (eval o X.env)=eval o X.env) Xaz) (c:autoParam ((apos.endLine==cpos.line)=G) Xaz) (h1:autoParam ((e::es).all al=G) Xaz) (k:autoParam ((e::es).length<29) Xax):
  JE X (.Call (.Attribute o name apos) (e::es) [] cpos) (Yd X.K T r to t):=by
 have b:=h1;rw[aa5,oR]at b;exact⟨TB g d f i h.out j.out a (tz h1 k) c (bC b.1)<|bH b.2⟩
theorem Cg(e:PlainAttrs T)(c:Slot T name id)(d:typeOf (.builtin id)=pure (.type "method_descriptor"))(g:VG X id r)(f:JE X o to)
  (a:autoParam (aaF o name X.env (eval o X.env)=eval o X.env) Xaz) (b:autoParam ((apos.endLine==cpos.line)=G) Xaz):
  JE X (.Call (.Attribute o name apos) [] [] cpos) (T4 X.K T r to):=⟨Rm e c d g f.out a b⟩
end
theorem Cq:∀{O:afq}{own:afv}{i:Nat}{a b:aaB},O.Nodup->(i,a)∈O.zip own->(i,b)∈O.zip own->a=b
 |[],_,_,_,_,_,h,_=>by mright
 |_::_,[],_,_,_,_,h,_=>by mright
 |k::O,c::own,i,a,b,nd,h1,h2=>by
  rw[aaK]at nd;rcases eQ.mp h1 with e1|h1<;>rcases eQ.mp h2 with e2|h2
  .lia
  .cases e1;exact absurd (aaZ h2).1 nd.1
  .cases e2;exact absurd (aaZ h1).1 nd.1
  .exact Cq nd.2 h1 h2
theorem iR(h:a∈as):aj as (br H a o)=aj as H:=by
 funext b
 delta aj;split
 .rfl
 .rename_i hb;exact aG fun z=>hb (by rw[z];exact h)
theorem DI.mutate{K:aT}(I:DI K as0 B O own Z Y H)(g:(i,a)∈O.zip own)(h:kL K (aj (own++as0) H) o' d'):
  DI K as0 B O own Z (Y.set i<|J d') (br H a o'):=by
 have l:a∈own++as0:=Le _ (aaZ g).2;refine Z24 (I.owns i a g) fun m o h1 h2 p n=>?_;have hil  := (rW.mp h1).1;refine⟨by simp[I.len],I.olen,I.nd,I.ond,I.fresh,I.ex0,fun b u e=>?_,fun j e f q=>?_,fun j b f=>?_⟩
 .have hb:b≠a:=fun z=>by
   have:=I.fresh a (aaZ g).2
   rw[z,this]at e;cases e
  rw[aG hb];exact I.same b u e
 .have c:i≠j:=fun z=>f (by rw[<-z];exact(aaZ g).1);rw[getElem?_set',afl c]at q;rw[iR l];exact I.var j e f q
 .rw[iR l];by_cases c:i=j
  .subst c
   have:=Cq I.ond g f
   subst this;exact⟨d',o',by simp_all,h2,aE,h⟩
  .refine Z24 (I.owns j b f) fun d u q1 q2 q3 q4=>?_
   have k:b≠a:=fun z=>c (by rw[z]at f;exact zip_inj I.nd g f);exact⟨d,u,by simp_all,q2,by rw[aG k];exact q3,q4⟩
section
variable{X:Cx}{W:Wd}{Ob O O':afq}{e:aa1}{ε ψ:FE}{pos p1 p2 apos cpos:Pos}{x:Str}
theorem R0(K:aT)(m:i∈O)(t:JE X e<|tD W O ψ)(p:autoParam (X.N[i]?=J x) Xaz)(hs:autoParam (rh e) Xdx)(g:autoParam (m6 X.env.scope x) Xcz)(hd:autoParam (afz x) Xax)
  (f:autoParam ((x==("__classdict__":Str))=η) Xax) (s:autoParam (X.K=K) Xaz) (w:autoParam (W.K=K) Xaz):JE X (.Subscript (.Name x p1) e pos)<|tD W O<|aH cR (ag i) ψ:=
 (SV (WL K s) (jv i p g hd f) t hs).imp fun Z H Q n=>dQ n fun as0 B own Y I h=>by
  obtain⟨a,ha⟩:=fT I.olen m
  refine Z24 (I.owns i a ha) fun d o h1 h2 h3 h4=>?_
  have e0:NB (TD K) (z8 i) (tD W O ψ) Z H Q=m8 Z[i]? H (X0 (TD K) (tD W O ψ) Z Q):=rfl;rw[e0,h2];have g:ag i Y=.ok d:=by delta ag;rw[h1]
  have h':cP W (own++as0) H ((ψ Y).bind fun y=>cR d y) Q:=by
   have e:aH cR (ag i) ψ Y=(ψ Y).bind fun y=>cR d y:=by delta aH;rw[g];rfl
   rw[<-e];exact h
  refine⟨as0,B,own,Y,I,aY h' fun y u r j l c=>?_⟩;cases d with
  |lst ds=>
   obtain⟨xs,rfl,q⟩:=h4;cases y with
   |int k=>
    subst l;have b:cP W (own++as0) r (match atI ds k with|some d=>.ok d|none=>.no) Q:=c
    cases q3:atI ds k with
    |none=>rw[q3]at b;exact b.elim
    |some d'=>
     rw[q3]at b;obtain⟨v,e1,e2⟩:=q.atI q3
     exact⟨xs,v,.inl<|gr.of<|j _ _ h3,e1,ax b<|e2.mono<|aA j⟩
   |_=>exact c.elim
  |_=>first|exact h4.elim|(cases y<;>exact c.elim)
theorem PU(K:aT)(j:i∈O)(f:X.mg "len"=U)(l:autoParam (X.N[i]?=J x) Xaz)(g:autoParam (Gl X "len") Xaz)(c:autoParam (m6 X.env.scope x) Xcz)(hd:autoParam (afz x) Xax)
  (b:autoParam ((x==("__classdict__":Str))=η) Xax) (m:autoParam (X.K=K) Xaz) (n:autoParam (W.K=K) Xaz):JE X (.Call (.Name "len" p2) [.Name x p1] [] pos)<|tD W O<|aI cr<|ak (ag i) aQ:=
 (AX (U1 K m) f EH (bU (jv i l c hd b) eD) g).imp fun Z H Q k=>dQ k fun as0 B own Y I h=>by
  obtain⟨a,ha⟩:=fT I.olen j
  refine Z24 (I.owns i a ha) fun d o h1 h2 h3 h4=>?_
  show m8 Z[i]? H _;rw[h2];have c:ag i Y=.ok d:=by delta ag;rw[h1]
  have h':cP W (own++as0) H (cr [d]) Q:=by
   have e:aI cr (ak (ag i) aQ) Y=cr [d]:=by delta aI ak aQ;rw[c];rfl
   rw[<-e];exact h
  cases d with
  |lst ds=>
   obtain⟨xs,rfl,q⟩:=h4;refine⟨xs,.inl<|gr.of h3,?_⟩;rw[<-q.len];exact ax h' rfl
  |_=>first|exact h4.elim|exact h'.elim
def jP(i:Nat)(ε:FE):FS:=fun Y=>match Y[i]? with
 |some (J<|.lst xs)=>(ε Y).bind fun d=>if xs.length<1000000 then .ok (.nx<|Y.set i<|J<|.lst<|xs++[d])else .no
 |_=>.no
theorem Da(m:i∈O)(t:JE X e<|tD W O ε)(r:autoParam (X.N[i]?=J x) Xaz)(s:autoParam (al e=G) Xaz)(b:autoParam ((apos.endLine==cpos.line)=G) Xaz)(u:autoParam (m6 X.env.scope x) Xcz)(hd:autoParam (afz x) Xax)
  (g:autoParam ((x==("__classdict__":Str))=η) Xax) (c:autoParam (aaF (.Name x p1) "append" X.env (eval (.Name x p1) X.env)=eval (.Name x p1) X.env) Xaz)
  (hs:autoParam (abm (.Call (.Attribute (.Name x p1) "append" apos) [e] [] cpos) U pos.line X.env=pure η) Xaz) (w:autoParam (W.K=X.K) Xaz):
  JS X (.Expr (.Call (.Attribute (.Name x p1) "append" apos) [e] [] cpos) pos) (sD W Ob O O<|jP i ε):=
 (n9 (DK aaW abL abM gq (jv i r u hd g) (bU t eD s) c b (by mright)<|∅) hs).imp fun D Z H n=>dQ n fun as0 B own Y I h=>by
  obtain⟨a,ha⟩:=fT I.olen m
  refine Z24 (I.owns i a ha) fun d o h1 h2 h3 h4=>?_
  have e0:GP (Yd X.K "list" nj (z8 i)<|uM (tD W O ε) DG) D Z H=m8 Z[i]? H (fun x H1=>KU X.K "list" x H1/\uM (tD W O ε) DG Z H1 fun vs k=>nj x vs k fun _ p=>D.nx Z p):=rfl;rw[e0,h2];delta jP at h;rw[h1]at h;cases d with
  |lst ds=>
   obtain⟨xs,rfl,q⟩:=h4;refine⟨.inl ⟨rfl,xs,gr.of h3⟩,as0,B,own,Y,I,cO I h fun y v k j l f=>?_⟩;split at f
   .refine⟨a,xs,v,rfl,rfl,j _ _ h3,?_,?_⟩
    .have:=ck;rw[<-q.len];lia
    .exact f own Z _ ((I.mono j).mutate ha ⟨xs++[v],rfl,(q.mono<|aA j).append<|ay.cons l ay.nil⟩)
   .exact f.elim
  |_=>mleft
end
end L2
namespace L2
open PySem PySem.Builtin
section
theorem oG(a:s.heap.IsTupleIter it l i)
  (e:s.heap.IsTuple l items) (f:items[i]?=J x)
  (c:∀h',h'.IsTupleIter it l (i+1)->abj it s.heap h'->Q x {s with heap:=h'}):
  aaN (aaO prog w) A (abo<|.ref it) Q E s:=by
 obtain⟨o,b,d,hd⟩:=id a;obtain⟨ol,hol,_,nl,hdl⟩:=e
 refine iF (acp a.typeIs F.slot_tuple_iterator_next
  (acQ F.slot_tuple_iterator_next a.typeIs F.entry_tuple_iterator_next ?_ (F.args_tuple_iterator_next_1 _)))
 show aaN _ _ (field (.ref it) 0 >>= _) _ _ s;refine iF<|abn b hd rfl ?_;refine iF<|abn b hd rfl ?_;refine iF<|wpAny_seqItems hol hdl ?_;mright;refine iF<|adf b hd ∅<|aaG ⟨x,rfl,aaG<|c _ ?_<|aey ..⟩;exact⟨_,acz _ b<|ab1<|abA hd _,(Obj.cls_mapFields ..).trans d,by
  rw[abA hd];trivial⟩
theorem pQ(d:A.handled=U)
  (a:s.heap.IsTupleIter it l i) (c:s.heap.IsTuple l items) (f:items[i]?=U)
  (b:∀h' e,afd it s.heap h'->(∃o,h'.get? e=J o/\o.cls=.type "StopIteration")->E (.ref e) {s with heap:=h'}):
  aaN (aaO prog w) A (abo<|.ref it) Q E s:=by
 obtain⟨o,ho,hc,hd⟩:=id a
 obtain⟨ol,hol,_,nl,hdl⟩:=c
 refine iF (acp a.typeIs F.slot_tuple_iterator_next
  (acQ F.slot_tuple_iterator_next a.typeIs F.entry_tuple_iterator_next ?_ (F.args_tuple_iterator_next_1 _)))
 show aaN _ _ (field (.ref it) 0 >>= _) _ _ s;refine iF<|abn ho hd rfl ?_;refine iF<|abn ho hd rfl ?_;refine iF<|wpAny_seqItems hol hdl ?_;simp only[adW,f];refine iF<|wpAny_rule<|iF<|adf ho hd ∅ ?_;refine iF ?_;refine iF (adb ?_<|by size_fits);refine iF<|wpAny_of_eq (by rfl) ?_;refine adb ?_ (by size_fits);refine iF<|wpAny_handled ?_
 first|assumption|rw[d]
 refine iF<|aaG<|wpAny_throw ?_;exact b _ _ (((aey ..).extBut.push _).push _) ⟨_,aaD _ rfl,rfl⟩
end
theorem x9(j:A.handled=U)(it l:aaB)(d:l≠it)(a:Array nE):
  Draws prog w A it [it,l] a.size (fun i v=>a[i]?=J v) (fun i h=>h.IsTupleIter it l i/\h.IsTuple l a) where
 live:=fun _ _ st=>let⟨o,ho,_⟩:=st.1;⟨o,ho⟩
 frame:=fun _ _ _ st g=>⟨(let⟨o,e,r⟩:=st.1;⟨o,g it ∅ o e,r⟩),by
  obtain⟨o,e,r⟩:=st.2
  exact⟨o,g l ∅ o e,r⟩⟩
 item:=fun i s Q E f st k=>by
  refine oG st.1 st.2 (x:=a[i]) ∅ fun h' b c=>?_;refine k _ h' s.toks ∅ ⟨b,?_⟩ c;let⟨o,e,r⟩:=st.2
  exact⟨o,c.extBut l o d e,r⟩
 done:=fun s Q E st m=>pQ j st.1 st.2 ∅ m
structure ZA(z Xi Xo i1 i2:aaB)(fp1 fp2:afv):Prop where
 TIz:Xi≠z
 TOz:Xo≠z
 TITO:Xi≠Xo
 TIi1:Xi≠i1
 TIi2:Xi≠i2
 TOi1:Xo≠i1
 TOi2:Xo≠i2
 i1z:i1≠z
 i2z:i2≠z
 i12:i1≠i2
 z1:z∉fp1
 z2:z∉fp2
 TO1:Xo∉fp1
 TO2:Xo∉fp2
 i1f:i1∉fp2
 i2f:i2∉fp1
section
theorem bJ(D:Draws prog w A it fp n P Sr)(st:Sr k h)(d:abj c h h')(a:c∉fp):Sr k h':=
 D.frame _ _ _ st fun b f o e=>d.extBut b o (fun q=>a<|q▸f) e
theorem C8{Q:aft}(W:Draws prog w A i1 fp1 n1 P1 St1)(V:Draws prog w A i2 fp2 n2 P2 St2)(D:ZA z Xi Xo i1 i2 fp1 fp2)
  (hz:IsZip s.heap z Xi Xo .none) (hTI:IsPair s.heap Xi (.ref i1)<|.ref i2) (hTO:IsPair s.heap Xo a b) (h1:St1 k s.heap) (h2:St2 k s.heap) (l1:k<n1) (l2:k<n2)
  (hQ:∀x y h' tk,P1 k x->P2 k y->IsZip h' z Xi Xo (adN s.heap.objs.size)->IsPair h' Xo x y->St1 (k+1) h'->St2 (k+1) h'->IsPair h' s.heap.objs.size x y->h'.objs.size=s.heap.objs.size+1 ->
   (∀c o,c≠z->c≠Xo->c≠i1->c≠i2->s.heap.get? c=J o->h'.get? c=J o)->Q (.ref s.heap.objs.size) {s with heap:=h',toks:=tk}):
  aaN (aaO prog w) A (Builtin.«zip.__next__» ⟨[.ref z],[]⟩) (fun fin s'=>∃v,fin=.done (.ret v)/\Q v s') E s:=by
 obtain⟨hp,g,d,tk0,os⟩:=s
 show aaN _ _ (field (.ref z) 2 >>= _) _ _ _;refine iF<|abn hz rfl (x:=.bool η) rfl ?_;show aaN _ _ (field (.ref z) 3 >>= _) _ _ _;refine iF<|abn hz rfl (x:=.ref Xi) rfl ?_;refine iF<|wpAny_seqItems hTI rfl ?_;show aaN _ _ (abr (.ref z) >>= _) _ _ _;refine iF ?_;delta abr;refine iF<|abn hz rfl (x:=.none) rfl (aaG ?_);simp only[if_true];refine iF<|wpAny_rule ?_;refine iF<|abn hz rfl (x:=.ref Xo) rfl ?_;refine iF<|wpAny_setField_rec hz ∅ fun h₁ B h=>?_
 replace B:IsZip h₁ z Xi Xo .ellipsis:=B
 replace h:abj z hp h₁:=h
 refine iF ?_;simp only[List.zipIdx_cons,List.zipIdx_nil,acZ,List.forIn_nil];refine iF<|iF<|wpAny_onRaise ?_;show aaN _ _ (abo (.ref i1) >>= _) _ _ _;refine iF<|W.item k ⟨h₁,g,d,tk0,os⟩ _ _ l1 (bJ W h1 h D.z1) fun x h₂ X px P f=>aaG ?_
 replace f:abj i1 h₁ h₂:=f
 have C:IsPair h₂ Xo a b:=f.extBut _ _ D.TOi1<|h.extBut _ _ D.TOz hTO;show aaN _ _ _ _ _ ⟨h₂,g,d,X,os⟩;refine iF<|wpAny_seqItems C rfl ?_;refine iF<|wpAny_updateSeq_pair C fun h₃ t j=>?_
 replace t:IsPair h₃ Xo x b:=t
 replace j:abj Xo h₂ h₃:=j
 refine iF<|wpAny_letGo<|aaG ?_;refine iF<|iF<|wpAny_onRaise ?_;show aaN _ _ (abo (.ref i2) >>= _) _ _ _;refine iF<|V.item k ⟨h₃,g,d,X,os⟩ _ _ l2 (bJ V (bJ V (bJ V h2 h D.z2) f D.i1f) j D.TO2) fun y h₄ T py R i=>aaG ?_
 replace i:abj i2 h₃ h₄:=i
 have F:IsPair h₄ Xo x b:=i.extBut _ _ D.TOi2 t;show aaN _ _ _ _ _ ⟨h₄,g,d,T,os⟩;refine iF<|wpAny_seqItems F rfl ?_;refine iF<|wpAny_updateSeq_pair F fun h₅ m l=>?_
 replace m:IsPair h₅ Xo x y:=m
 replace l:abj Xo h₄ h₅:=l
 refine iF<|wpAny_letGo<|aaG<|aaG ?_;refine iF<|wpAny_seqItems m rfl ?_;refine iF<|wpAny_newTuple ?_;have hsz:h₅.objs.size=hp.objs.size:=by rw[l.1,i.1,j.1,f.1,h.1]
 have H:IsZip h₅ z Xi Xo .ellipsis:=l.extBut _ _ D.TOz.symm<|i.extBut _ _ D.i2z.symm<|j.extBut _ _ D.TOz.symm<|f.extBut _ _ D.i1z.symm B;have N:∀c o,c≠z->c≠Xo->c≠i1->c≠i2->hp.get? c=J o->h₅.get? c=J o:=fun c o c1 c2 c3 c4 e=>
  l.extBut _ _ c2 (i.extBut _ _ c4<|j.extBut _ _ c2<|f.extBut _ _ c3<|h.extBut _ _ c1 e)
 have S:St1 (k+1) h₅:=bJ W (bJ W (bJ W P j D.TO1) i D.i2f) l D.TO1;have M:St2 (k+1) h₅:=bJ V R l D.TO2;have K:z<h₅.objs.size:=aay H;show aaN _ _ (acM (.ref z) (.ref h₅.objs.size) >>= _) _ _ _;refine iF ?_;delta acM;have O:IsZip (h₅.push {cls:=.type "tuple",data:=.seq #[x,y]}) z Xi Xo .ellipsis:=iN _ H;refine iF<|wpAny_setField_rec O ∅ fun h₇ u p=>?_
 replace u:IsZip h₇ z Xi Xo<|adN h₅.objs.size:=u
 replace p:abj z (h₅.push {cls:=.type "tuple",data:=.seq #[x,y]}) h₇:=p
 refine wpAny_setField_rec u ∅ fun h₈ r n=>?_
 replace r:IsZip h₈ z Xi Xo<|adN h₅.objs.size:=r
 replace n:abj z h₇ h₈:=n
 have up:∀c o,c≠z->h₅.get? c=J o->h₈.get? c=J o:=fun c o c1 e=>n.extBut _ _ c1<|p.extBut _ _ c1<|iN _ e;have I:IsPair h₈ h₅.objs.size x y:=n.extBut _ _ (adH K)<|p.extBut _ _ (adH K)<|aaD _ rfl;have hz8:h₈.objs.size=h₅.objs.size+1:=by rw[n.1,p.1,abx]
 rw[hsz]at r I hz8;refine aaG ⟨_,rfl,?_⟩;show Q (.ref h₅.objs.size) ⟨h₈,g,d,T,os⟩;rw[hsz];exact hQ x y h₈ T px py r (up _ _ D.TOz m) (W.frame _ _ _ S fun b hb o e=>up b o (fun q=>D.z1<|q▸hb) e) (V.frame _ _ _ M fun b hb o e=>up b o (fun q=>D.z2<|q▸hb) e) I hz8
  fun c o c1 c2 c3 c4 e=>up c o c1<|N c o c1 c2 c3 c4 e
theorem Gr(F:Draws prog w A i1 fp1 n1 P1 St1)(B:Draws prog w A i2 fp2 n2 P2 St2)(D:ZA z Xi Xo i1 i2 fp1 fp2)
  (u:IsZip s.heap z Xi Xo .none) (I:IsPair s.heap Xi (.ref i1)<|.ref i2) (H:IsPair s.heap Xo a b) (h1:St1 k s.heap) (h2:St2 k s.heap) (y:k=n1\/(k<n1/\k=n2))
  (O:∀h' R e,(∀c o,c≠z->c≠Xo->c≠i1->c≠i2->s.heap.get? c=J o->h'.get? c=J o)->(∃o,h'.get? e=J o/\o.cls=.type "StopIteration")->E (.ref e) {s with heap:=h',toks:=R}):
  aaN (aaO prog w) A (Builtin.«zip.__next__» ⟨[.ref z],[]⟩) Q E s:=by
 obtain⟨hp,g,d,tk0,os⟩:=s
 show aaN _ _ (field (.ref z) 2 >>= _) _ _ _;refine iF<|abn u rfl (x:=.bool η) rfl ?_;show aaN _ _ (field (.ref z) 3 >>= _) _ _ _;refine iF<|abn u rfl (x:=.ref Xi) rfl ?_;refine iF<|wpAny_seqItems I rfl ?_;show aaN _ _ (abr (.ref z) >>= _) _ _ _;refine iF ?_;delta abr;refine iF<|abn u rfl (x:=.none) rfl (aaG ?_);simp only[if_true];refine iF<|wpAny_rule ?_;refine iF<|abn u rfl (x:=.ref Xo) rfl ?_;refine iF<|wpAny_setField_rec u ∅ fun h₁ l h=>?_
 replace l:IsZip h₁ z Xi Xo .ellipsis:=l
 replace h:abj z hp h₁:=h
 refine iF ?_;simp only[List.zipIdx_cons,List.zipIdx_nil,acZ,List.forIn_nil];refine iF<|iF<|wpAny_onRaise ?_;show aaN _ _ (abo (.ref i1) >>= _) _ _ _;rcases y with rfl|⟨l1,rfl⟩
 .refine iF (F.done ⟨h₁,g,d,tk0,os⟩ _ _ (bJ F h1 h D.z1) fun h₂ e f M=>?_)
  replace f:afd i1 h₁ h₂:=f
  obtain⟨oe,hoe,hce⟩:=M
  have n:IsZip h₂ z Xi Xo .ellipsis:=f _ _ D.i1z.symm l;have t:e≠z:=fun x=>by subst x;rw[n]at hoe;cases hoe;mright
  refine wpAny_setField_rec n ∅ fun h₃ _ i=>O h₃ tk0 e (fun c o c1 _ K _ x=>i.extBut _ _ c1<|f _ _ K<|h.extBut _ _ c1 x) ⟨oe,i.extBut _ _ t hoe,hce⟩
 .refine iF (F.item k ⟨h₁,g,d,tk0,os⟩ _ _ l1 (bJ F h1 h D.z1) fun x h₂ r S N f=>aaG ?_)
  replace f:abj i1 h₁ h₂:=f
  have m:IsPair h₂ Xo a b:=f.extBut _ _ D.TOi1<|h.extBut _ _ D.TOz H;show aaN _ _ _ _ _ ⟨h₂,g,d,r,os⟩;refine iF<|wpAny_seqItems m rfl ?_;refine iF<|wpAny_updateSeq_pair m fun h₃ C i=>?_
  replace i:abj Xo h₂ h₃:=i
  refine iF<|wpAny_letGo<|aaG ?_;refine iF<|iF<|wpAny_onRaise ?_;show aaN _ _ (abo (.ref i2) >>= _) _ _ _;refine iF<|B.done ⟨h₃,g,d,r,os⟩ _ _ (bJ B (bJ B (bJ B h2 h D.z2) f D.i1f) i D.TO2) fun h₄ e j M=>?_
  replace j:afd i2 h₃ h₄:=j
  obtain⟨oe,hoe,hce⟩:=M
  have p:IsZip h₄ z Xi Xo .ellipsis:=j _ _ D.i2z.symm<|i.extBut _ _ D.TOz.symm<|f.extBut _ _ D.i1z.symm l;have t:e≠z:=fun x=>by subst x;rw[p]at hoe;cases hoe;mright
  refine wpAny_setField_rec p ∅ fun v _ q=>O v r e (fun c o c1 c2 K P x=>q.extBut _ _ c1<|j _ _ P<|i.extBut _ _ c2<|f.extBut _ _ K<|h.extBut _ _ c1 x) ⟨oe,q.extBut _ _ t hoe,hce⟩
end
theorem WalksT.zipD
  (r:Draws prog w A.in1 i1 fp1 n1 P1 St1) (n:Draws prog w A.in1 i2 fp2 n2 P2 St2) (D:ZA z Xi Xo i1 i2 fp1 fp2) (N:i1∈fp1) (M:i2∈fp2):
  WalksT prog w A z (z::Xi::Xo::(fp1++fp2)) [z,Xo,i1,i2] (min n1 n2)
   (fun i q=>∃x y,P1 i x/\P2 i y/\q=#[x,y])
   (fun i h=>IsZip h z Xi Xo .none/\IsPair h Xi (.ref i1) (.ref i2)/\(∃a b,IsPair h Xo a b)/\St1 i h/\St2 i h)
   (fun i T h=>IsZip h z Xi Xo (adN T)/\IsPair h Xi (.ref i1) (.ref i2)/\(∃a b,IsPair h Xo a b)/\St1 (i+1) h/\St2 (i+1) h/\T≠z/\T≠Xo/\T≠i1/\T≠i2) where
 sub:=fun c d=>by mright;rcases d with rfl|rfl|rfl|rfl<;>simp[N,M]
 frame:=fun i h h' f j=>by
  left;obtain⟨hz,hTI,⟨a,b,hTO⟩,h1,h2⟩:=f
  right;exact⟨j z ∅ _ hz,j Xi ∅ _ hTI,⟨a,b,j Xo ∅ _ hTO⟩,r.frame _ _ _ h1 fun b C o e=>j b (by simp[C]) o e,n.frame _ _ _ h2 fun b C o e=>j b (by simp[C]) o e⟩
 item:=fun i s Q E I f l=>by
  obtain⟨hz,hTI,⟨a,b,hTO⟩,h1,h2⟩:=f
  have v:i<n1:=Rw I<|Nat.min_le_left ..;have B:i<n2:=Rw I<|Nat.min_le_right ..;have m:s.TypeIs (.ref z) "zip":=⟨_,hz,rfl⟩;delta pyNext;refine iF (wpAny_attempt (acp (name:=lE "__next__") m F.slot_zip_next
   (acQ F.slot_zip_next m F.entry_zip_next (C8 r n D hz hTI hTO h1 h2 v B fun x y h' u O R V S P a4 W a6 j=>aaG ?_) (F.args_zip_next_1 _))))
  have lt:∀{c o},s.heap.get? c=J o->s.heap.objs.size≠c:=fun e=>adH<|aay e;exact l s.heap.objs.size #[x,y] h' u ⟨_,_,O,R,rfl⟩ (mK _) ⟨_,W,rfl,_,rfl⟩
   ⟨V,j _ _ D.TIz D.TITO D.TIi1 D.TIi2 hTI,⟨_,_,S⟩,P,a4,lt hz,lt hTO,(by let⟨_,e⟩:=r.live _ _ h1;exact lt e),(by let⟨_,e⟩:=n.live _ _ h2;exact lt e)⟩
   fun c o d e=>j c o (fun x=>d<|by simp[x]) (fun x=>d<|by simp[x]) (fun x=>d<|by simp[x]) (fun x=>d<|by simp[x]) e
 go:=fun K k pos i T s Q E H l=>by
  left;obtain⟨hz,hTI,⟨a,b,hTO⟩,h1,h2,_⟩:=H
  right;refine wpAny_letOwnedTupleGo_zip hz fun h' t g=>l h' ⟨t,g.extBut _ _ D.TIz hTI,⟨a,b,g.extBut _ _ D.TOz hTO⟩,bJ r h1 g D.z1,bJ n h2 g D.z2⟩ fun c o d e=>g.extBut _ _ (fun x=>d<|by simp[x]) e
 apart:=fun i T h H m=>by
  mright
 done:=fun s Q E f l=>by
  obtain⟨hz,hTI,⟨a,b,hTO⟩,h1,h2⟩:=f
  have p:min n1 n2=n1\/(min n1 n2<n1/\min n1 n2=n2):=⊥
  have m:s.TypeIs (.ref z) "zip":=⟨_,hz,rfl⟩;refine iF (wpAny_attempt (acp m F.slot_zip_next
   (acQ F.slot_zip_next m F.entry_zip_next (Gr r n D hz hTI hTO h1 h2 p fun h' u e j X=>?_) (F.args_zip_next_1 _))))
  obtain⟨o,ho,d⟩:=X
  refine iF<|wpAny_isInstance ⟨o,ho,d⟩ isSubtype_stop ?_;exact aaG<|l h' u fun c o d e=>j c o (fun x=>d<|by simp[x]) (fun x=>d<|by simp[x]) (fun x=>d<|by simp[x]) (fun x=>d<|by simp[x]) e
 self:=fun i s Q E f l=>wpAny_pyIter_zip f.1 l
def yo(a:nE)(o:Obj)(h:acn):Prop:=∀(prog:abf)(w:abh)(A:abF)(s:ID)(Q:aft)(E:aft),(∀b u,h.get? b=J u->s.heap.get? b=J u)->Q (.ref s.heap.objs.size) {s with heap:=s.heap.push o}->aaN (aaO prog w) A (pyIter a) Q E s
abbrev V4(h:acn)(a b:Obj):acn:=((h.push a).push b).push {cls:=.type "tuple",data:=.seq #[.ref h.objs.size,.ref (h.push a).objs.size]}
noncomputable abbrev VD(h:acn)(a b:Obj):acn:=(V4 h a b).push {cls:=.type "tuple",data:=.seq #[.none,.none]}
noncomputable abbrev OF(h:acn)(a b:Obj):acn:=(VD h a b).push {cls:=.type "zip",data:=.fields #[.none,.bool η,.bool η,.ref ((h.push a).push b).objs.size,.ref (V4 h a b).objs.size]}
theorem zJ(a b:nE)(c f:Obj):
  Meets (Builtin.«zip.__new__» ⟨[.type "zip",a,b],[]⟩) (fun _ R s=>yo a c s.heap/\yo b f s.heap/\R (.ok<|.ret<|.ref (VD s.heap c f).objs.size) {s with heap:=OF s.heap c f}):=
 .of_wp fun prog w A R s h=>by
  obtain⟨k,g,d,m,os⟩:=s;obtain⟨j,i,h⟩:=h;have l:=sub_zip;have p1  := fun{A Q E}q=>j prog w A ⟨k,g,d,m,os⟩ Q E (fun _ _ e=>e) q;have p2  := fun{A Q E}q=>i prog w A ⟨k.push c,g,d,m,os⟩ Q E (fun _ _ e=>iN _ e) q
  wp_walk using p1,p2
  exact⟨_,rfl,h⟩
section
variable{s:ID}
theorem DU(l:yo a o1 s.heap)(m:yo b o2 s.heap)(n:o1.isFreed=η)(k:o2.isFreed=η)
  (h:∀h',IsZip h' (s.heap.objs.size+4) (s.heap.objs.size+2) (s.heap.objs.size+3) .none->IsPair h' (s.heap.objs.size+2) (.ref s.heap.objs.size) (.ref<|s.heap.objs.size+1) ->
   IsPair h' (s.heap.objs.size+3) .none .none->h'.get? s.heap.objs.size=J o1->h'.get? (s.heap.objs.size+1)=J o2->h'.objs.size=s.heap.objs.size+5 ->
   (∀c o,s.heap.get? c=J o->h'.get? c=J o)->Q (.ref (s.heap.objs.size+4)) {s with heap:=h'}):
  aaN (aaO prog w) A (call (.type "zip") [a,b]) Q E s:=by
 refine callType_new F.called_zip (by rfl) (F.typeCall_zip_2 _ _) (F.newCall_zip_2 _ _) (fun i=>F.args_object_init_3 i _ _) F.entry_zip_new
  (zJ a b o1 o2) ⟨l,m,?_⟩
 have e:(s.heap.push o1).objs.size=s.heap.objs.size+1:=abx ..;have d:((s.heap.push o1).push o2).objs.size=s.heap.objs.size+2:=by rw[abx,e]
 have g:(V4 s.heap o1 o2).objs.size=s.heap.objs.size+3:=by rw[abx,d]
 have f:(VD s.heap o1 o2).objs.size=s.heap.objs.size+4:=by rw[abx,g]
 have j:(OF s.heap o1 o2).objs.size=s.heap.objs.size+5:=by rw[abx,f]
 have g5:(OF s.heap o1 o2).get? (VD s.heap o1 o2).objs.size=J _:=aaD _ rfl;have g4:(OF s.heap o1 o2).get? (V4 s.heap o1 o2).objs.size=J _:=iN _<|aaD _ rfl;have g3:(OF s.heap o1 o2).get? ((s.heap.push o1).push o2).objs.size=J _:=iN _<|iN _<|aaD _ rfl;have g2:(OF s.heap o1 o2).get? (s.heap.push o1).objs.size=J o2:=iN _<|iN _<|iN _<|aaD _ k;have g1:(OF s.heap o1 o2).get? s.heap.objs.size=J o1:=iN _<|iN _<|iN _<|iN _<|aaD _ n;show _/\_;rw[d,g,f]at g5;rw[e,d]at g3;rw[g]at g4;rw[e]at g2;rw[f];exact⟨⟨_,g5,rfl⟩,h _ g5 g3 g4 g1 g2 j fun c o x=>
  iN _ (iN _ (iN _ (iN _ (iN _ x))))⟩
end
end L2
namespace L2
open PySem PySem.Spec PyProof.Rows
theorem N1{Z:St}(I:Inv X aa Z H s)(h:H a≠U\/∃o,X.K.lookup a=J o):¬gE X aa H a:=fun f=>by
 rcases h with h|⟨o,h⟩
 .exact h f.1
 .have e:=I.ok.mod.kin a o h;rcases f.2.2.2.1 with z|z
  .exact I.ok.noex a o e z
  .exact absurd (Rw (aay e)<|RW I.ok.bsz z) (acE _)
theorem Ck{K:aT}(h:m7 K H a xs):H a≠U\/∃o,K.lookup a=J o:=by
 rcases h with h|⟨o,_,_,h,_⟩
 .exact .inl ((by
    rcases h with h|⟨o,h⟩<;>rw[h]<;>simp))
 .mright
structure Src(K:aT)(B:Hp)(xs:afx)(it:aaB)(S:Nat->acn->Prop):Prop where
 obj:∀i h,S i h->∃o,h.get? it=J o/\∀v,o.data≠.cell v
 keep:∀i h h',S i h->(∀o,h.get? it=J o->h'.get? it=J o)->S i h'
 draw:∀(X:Cx)(aa:afs)(s:ID)(Z:St)(H:Hp),Inv X aa Z H s->X.K=K->ah B H->gE X aa H it->∀A:abF,A.handled=U->∀i,S i s.heap ->
  ∃fp Pv St,Draws X.prog X.w A it fp xs.length Pv St/\St i s.heap/\it∈fp/\(∀b∈fp,b=it\/¬gE X aa H b)/\(∀j u,Pv j u->∃x,xs[j]?=J x/\aP x u)/\∀j h,St j h->S j h
theorem src_tuple{K:aT}(g:m7 K B a xs):Src K B xs it (fun i h=>h.IsTupleIter it a i) where
 obj:=by rintro i h⟨o,e,c,d⟩;exact ⟨o,e,fun v z=>⊥⟩
 keep:=fun i h h'⟨o,e,r⟩k=>⟨o,k o e,r⟩
 draw:=fun X aa s Z H I n sB f A w i st=>by
  subst n;obtain⟨aV,rv,pl,hz⟩:=I.tuple<|sB.seqT g
  have l:a≠it:=fun z=>N1 I (Ck<|sB.seqT g)<|z▸f;have p:xs.length=aV.toArray.size:=by exact rv.length
  refine⟨_,_,_,p▸x9 w it a l aV.toArray,⟨st,pl⟩,∅,fun b m=>?_,fun j u t=>?_,fun j h st=>st.1⟩
  .rcases eQ.mp m with e|m
   .exact .inl e
   .rw[IF.mp m];exact .inr (N1 I<|Ck<|sB.seqT g)
  .have hu'  := by simpa using t
   have hj  := (rW.mp hu').1;have q:xs[j]?=J (xs[j]'(by mright)):=∅
   obtain⟨u',h1,h2⟩:=rv.get q
   mright
theorem Inv.turnedT{Z:St}{ch:afv}{T:aaB}(I:Inv X aa Z H s)(f:∀b∈ch,gE X aa H b)(k:∀b o,b∉ch->s.heap.get? b=J o->h'.get? b=J o)(h:s.heap.objs.size<=T)
  (p:ys.length<=aaL) (j:aU ys us) (g:IsTup h' T us.toArray) (t:autoParam (X.tn<=t') Xbz):Inv X aa Z (br H T<|.tup ys) {s with heap:=h',toks:=t'}:=by
 have hn  := I.hok.fresh h;have l:∀b u,H b=J u->b∉ch:=fun b u e z=>by rw[(f b z).1]at e;cases e
 refine I.step (fun b a=>⟨(f b a).2.2.2.1,(f b a).2.1,(f b a).2.2.2.2.1,(f b a).2.2.2.2.2⟩) (fun b o _ _ d e _=>k b o d e) (fun b o _ _ d e _=>⟨o.slots,k b o d e⟩) (fun b o _ e n=>?_)
  (fun b o d e=>⟨o,k b o d e⟩) (fun b xs e=>?_) (fun b o u e=>?_) (fun b ps e=>?_) (fun m i=>?_) (fun b u e=>?_) I.bare
 .rw[aG<|aa0<|Rw (aay e) h];exact n
 .rw[aG<|bc e hn];exact e
 .rw[aG<|bc e hn];exact e
 .rw[aG<|bc e hn];exact e
 .obtain⟨o,es,ep,ho,r⟩:=i
  exact⟨o,es,ep,k _ o (fun z=>(f _ z).2.1 rfl) ho,r⟩
 .by_cases a:b=T
  .subst a;rw[aE]at e;cases e;exact⟨p,us,j,g⟩
  .rw[aG a]at e;refine(I.hok b u e).stay (fun c v d q=>k c v ?_ q) (fun c q=>by rw[aG<|bc q hn];exact q) fun c xs q=>⟨by rw[aG<|bc q.1 hn];exact q.1,q.2⟩
   grind
def NI(B:Hp)(n:Nat)(a:Nat->V->V->Prop):It:=
 ⟨fun i H=>ah B H/\i<n,fun i H v H'=>∃p x y,H p=U/\H'=br H p (.tup [x,y])/\v=.ref p/\a i x y,fun i H=>ah B H/\i=n⟩
theorem FC{K:aT}{z TI TO g j:aaB}(F:Src K B xs g S1)(O:Src K B ys j S2)(nd:[z,TI,TO,g,j].Nodup):
    Turn P w K (.Tuple elts k pos) (NI B (min xs.length ys.length) fun i x y=>xs[i]?=J x/\ys[i]?=J y) [z,TI,TO,g,j] z
      (fun i h=>IsZip h z TI TO .none/\IsPair h TI (.ref g) (.ref j)/\(∃a b,IsPair h TO a b)/\S1 i h/\S2 i h):=by
  simp only[aaK,eQ,aaz,or_false,not_or,aby,and_true,not_false_eq_true]at nd;obtain⟨⟨zTI,zTO,zi1,S⟩,⟨TITO,TIi1,TIi2⟩,⟨TOi1,TOi2⟩,i12⟩:=nd;have mm:∀b∈[z,TO,g,j],b∈[z,TI,TO,g,j]:=fun b l=>by
    simp only[eQ,aaz,or_false]at l⊢;rcases l with h|h|h|h<;>simp[h]
  have za:∀{X:Cx}{aa:afs}{H:Hp}{t fp2:afv},(∀b∈[z,TI,TO,g,j],gE X aa H b)->(∀b∈t,b=g\/¬gE X aa H b)->(∀b∈fp2,b=j\/¬gE X aa H b)->ZA z TI TO g j t fp2:=fun{X aa H t fp2}d h1 h2=>
    { TIz:=aci zTI,TOz:=aci zTO,TITO:=TITO,TIi1:=TIi1,TIi2:=TIi2,TOi1:=TOi1,TOi2:=TOi2,i1z:=aci zi1,i2z:=aci S,i12:=i12,
      z1:=fun m=>(h1 z m).elim zi1 fun q=>q<|d z<|∅,z2:=fun m=>(h2 z m).elim S fun q=>q<|d z<|∅,TO1:=fun m=>(h1 TO m).elim TOi1 fun q=>q<|d TO<|∅,TO2:=fun m=>(h2 TO m).elim TOi2 fun q=>q<|d TO<|∅,
      i1f:=fun m=>(h2 g m).elim i12 fun q=>q (d g ∅),i2f:=fun m=>(h1 j m).elim (aci i12) fun q=>q (d j ∅)}
  refine⟨∅,fun i h st b l=>?_,fun i h h' st p=>?_,?_,?_,fun A i s Q E st q=>wpAny_pyIter_zip st.1 q⟩
  . let ⟨hz,hTI,⟨a,b',hTO⟩,h1,h2⟩:=st
    simp only[eQ,aaz,or_false]at l;rcases l with rfl|rfl|rfl|rfl|rfl
    . exact⟨_,hz,fun v q=>by cases q⟩
    . exact⟨_,hTI,fun v q=>by cases q⟩
    . exact⟨_,hTO,fun v q=>by cases q⟩
    . exact F.obj i h h1
    . exact O.obj i h h2
  . let ⟨hz,hTI,⟨a,b',hTO⟩,h1,h2⟩:=st
    exact⟨p z ∅ _ hz,p TI ∅ _ hTI,⟨a,b',p TO ∅ _ hTO⟩,F.keep i h h' h1 fun o e=>p g ∅ o e,O.keep i h h' h2 fun o e=>p j ∅ o e⟩
  . intro X hP hw M C i aa s Z H E I d st hg;subst hP hw;left;let ⟨hz,hTI,hTO,h1,h2⟩:=st
    obtain⟨sB,hi⟩:=hg
    have R:X.A.in1.handled=U:=I.ok.hd C;obtain⟨t,P1,St1,D1,st1,m1,n1,p1,b1⟩:=F.draw X aa s Z H I M sB (d g<|∅) X.A.in1 R i h1
    obtain⟨fp2,P2,St2,D2,st2,m2,n2,p2,b2⟩:=O.draw X aa s Z H I M sB (d j<|∅) X.A.in1 R i h2
    have W:=WalksT.zipD D1 D2 (za d n1 n2) m1 m2;right;refine aO I.tk<|W.item i s _ _ hi ⟨hz,hTI,hTO,st1,st2⟩ fun T vals h' tk pt hT isT mid k1 htk=>⟨.ref T,rfl,W.go elts k pos i T {s with heap:=h',toks:=tk} _ _ mid fun V D k2=>?_⟩;obtain⟨u1,u2,q1,q2,rfl⟩:=pt;let⟨x,hx,rx⟩:=p1 i u1 q1
    obtain⟨y,hy,ry⟩:=p2 i u2 q2
    obtain⟨hz',hTI',hTO',st1',st2'⟩:=D
    have p:∀b o,b∉[z,TO,g,j]->s.heap.get? b=J o->V.get? b=J o:=fun b o l e=>k2 b o l<|k1 b o l e;have hTn:H T=U:=I.hok.fresh hT;have lt:∀{b o},s.heap.get? b=J o->b≠T:=fun e=>aa0<|Rw (aay e) hT;have N:IsTup V T [u1,u2].toArray:=by
      obtain⟨o,e,r⟩:=isT
      exact⟨o,k2 T o (W.apart i T _ mid) e,r⟩
    refine⟨.ref T,br H T<|.tup [x,y],I.turnedT (t':=tk) (ch:=[z,TO,g,j]) (fun b l=>d b (mm b l)) p hT (by show 2<=aaL;decide) (.cons rx<|.cons ry .nil) N,rfl,⟨T,x,y,hTn,rfl,rfl,hx,hy⟩,
      ⟨hz',hTI',hTO',b1 _ _ st1',b2 _ _ st2'⟩,fun b l=>?_⟩
    have hbT:b≠T:=by
      simp only[eQ,aaz,or_false]at l;rcases l with rfl|rfl|rfl|rfl|rfl
      . exact lt hz
      . exact lt hTI
      . obtain⟨_,_,e⟩:=hTO;exact lt e
      . obtain⟨_,e,_⟩:=F.obj _ _ h1;exact lt e
      . obtain⟨_,e,_⟩:=O.obj _ _ h2;exact lt e
    rw[aG hbT];exact(d b l).1
  . intro X hP hw M C i aa s Z H E I d st hg;subst hP hw;left;let ⟨hz,hTI,hTO,h1,h2⟩:=st
    obtain⟨sB,hi⟩:=hg
    have R:X.A.in1.handled=U:=I.ok.hd C;obtain⟨t,P1,St1,D1,st1,m1,n1,p1,b1⟩:=F.draw X aa s Z H I M sB (d g<|∅) X.A.in1 R i h1
    obtain⟨fp2,P2,St2,D2,st2,m2,n2,p2,b2⟩:=O.draw X aa s Z H I M sB (d j<|∅) X.A.in1 R i h2
    have W:=WalksT.zipD D1 D2 (za d n1 n2) m1 m2;right;subst hi;refine aO I.tk<|W.done s _ _ ⟨hz,hTI,hTO,st1,st2⟩ fun h' tk p htk=>⟨rfl,?_⟩
    have nch:∀b u,H b=J u->b∉[z,TO,g,j]:=fun b u e q=>by
      have:=(d b (mm b q)).1
      rw[this]at e;cases e
    refine I.step (g':=s.gens) (d':=s.drawn) (ch:=[z,TO,g,j]) (fun b l=>?_) (fun b o _ _ C e _=>p b o C e) (fun b o _ _ C e _=>⟨o.slots,p b o C e⟩) (fun _ _ _ _ n=>n)
      (fun b o C e=>⟨o,p b o C e⟩) (fun _ _ e=>e) (fun _ _ _ e=>e) (fun _ _ e=>e) (fun m hm=>?_) (fun b u e=>?_) I.bare
    . have f:=d b (mm b l);exact⟨f.2.2.2.1,f.2.1,f.2.2.2.2.1,f.2.2.2.2.2⟩
    . let ⟨o,es,ep,ho,r⟩:=hm
      refine⟨o,es,ep,p _ o (fun q=>?_) ho,r⟩;exact(d _ (mm _ q)).2.1 rfl
    . refine (I.hok b u e).stay (fun c v C q=>p c v ?_ q) (fun _ q=>q) fun _ _ q=>q
      grind
theorem zL{K:aT}(d:n=zs.length)(h:∀i x y,i<n->Pv i x y->∃b a,zs[i]?=J (.tup [b,a])/\bQ K (aj as0 B) b x/\bQ K (aj as0 B) a y):GivesD K as0 B (NI (aj as0 B) n Pv) zs where
 go:=fun i H s c=>⟨s,by rw[d];exact c⟩
 yl:=fun i H v H2 M s hM hM2 c q_=>Z34 q_ fun p x y hp e ev hv=>by
  subst e ev;refine Z23 (h i x y (by rw[d];exact c) hv) fun b a e1 d1 d2=>?_
  have hpM  := fun z=>hM p z hp;have f:ah (aj as0 B)<|aj M<|br H p<|.tup [x,y]:=(km s hM2).trans<|aA<|bR hp _;exact⟨bR hp _,_,e1,p,[x,y],rfl,.inl<|.inl<|by rw[av hpM];exact aE,ay.cons (d1.mono f)<|ay.cons (d2.mono f) ay.nil⟩
 stop:=fun H s=>⟨s,d.symm⟩
noncomputable def pN(xs ys:afy):afy:=List.zipWith (fun x y=>D.tup [x,y]) xs ys
def Nl(K:aT)(F:afy->R D):Sp:=fun vs H Q E=>∀mg,rj K mg F vs H Q E
theorem LQ{K:aT}{b:List Int}(c:gr K H a<|b.map V.int)(h:F [.lst<|b.map D.int]=.ok (.bl G))(q:∀H',Q (.bl G) H'):Nl K F [.ref a] H Q E:=
 fun mg=>(by
   refine⟨[],[.lst<|b.map D.int],fun a e=>(nomatch e),⟨.ref a,[],rfl,⟨a,b.map V.int,rfl,by rw[Ge];exact c,?_⟩,rfl⟩,?_⟩
   .clear h c;induction b with
    |nil=>exact rfl
    |cons n r f=>exact⟨_,_,rfl,rfl,f⟩
   .rw[h];intro v H' s d;subst d;exact q H')
def fin(r:R Fl):R D:=r.bind fun f=>match f with
 |.rt d=>.ok d
 |.rn d=>.ok d
 |.nx _=>.ok .non
 |_=>.no
section
variable{Y:Sd}{d e:D}{x y:Str}{i j:Int}{b c:Bool}{φ ψ:FE}{τ υ:FT}{α:FA}{S T:FS}
def TH(T:FS)(f:Fl):R Fl:=match f with
 |.nx δ'=>T δ'
 |f=>.ok f
theorem M8:nh S T Y=(S Y).bind (TH T):=by
 rfl
theorem QA:TH T (.nx Y)=T Y:=rfl
theorem Ov:ld Y=.ok (.nx Y):=rfl
def Wz(d:D):R Fl:=.ok<|.rt d
theorem RT:pX φ Y=(φ Y).bind Wz:=rfl
def aav(S T:FS)(Y:Sd)(b:Bool):R Fl:=if b=G then S Y else T Y
theorem Tz:DA τ S T Y=(τ Y).bind (aav S T Y):=rfl
theorem UQ:aav S T Y b=if b=G then S Y else T Y:=rfl
def Wf(k:Nat)(Y:Sd)(d:D):R Fl:=.ok<|.nx<|Y.set k<|J d
theorem Vg:rZ k φ Y=(φ Y).bind (Wf k Y):=rfl
def SR(k:Nat)(Y:Sd)(d:D):R Fl:=if k<Y.length then .ok (.nx<|Y.set k<|J d)else .no
theorem U5:Av k φ Y=(φ Y).bind (SR k Y):=rfl
theorem SO:SR k Y d=if k<Y.length then .ok (.nx<|Y.set k<|J d)else .no:=rfl
def TX(t:TgD)(S:FS)(Y:Sd)(xs:afy):R Fl:=cZ t S xs Y
theorem UW:Hy α t S Y=(α Y).bind (TX t S Y):=rfl
theorem UV:TX t S Y xs=cZ t S xs Y:=rfl
def Hj(t:TgD)(S:FS)(r:afy)(f:Fl):R Fl:=match f with
 |.nx δ2=>cZ t S r δ2
 |.ct δ2=>cZ t S r δ2
 |.bk δ2=>.ok<|.nx δ2
 |.rt d=>.ok<|.rt d
 |.rn d=>.ok<|.rn d
def MQ(t:TgD)(S:FS)(r:afy)(a:Sd):R Fl:=(S a).bind<|Hj t S r
theorem sS:cZ t S (d::r) Y=(iY t d Y).bind (MQ t S r):=by
 rfl
theorem Ja:MQ t S r Y=(S Y).bind (Hj t S r):=rfl
theorem v9:Hj t S r (.nx Y)=cZ t S r Y:=rfl
theorem v_c:vC d Y=.ok d:=rfl
def aar(a:D->D->R D)(ψ:FE)(Y:Sd)(x:D):R D:=(ψ Y).bind<|a x
theorem JU:aH op φ ψ Y=(φ Y).bind (aar op ψ Y):=rfl
theorem sN:aar op ψ Y d=(ψ Y).bind (op d):=rfl
def Ti(ψ:FE)(Y:Sd)(d:D):R D:=Ni d fun b=>if b=G then ψ Y else .ok (.bl η)
theorem v_and:GS φ ψ Y=(φ Y).bind (Ti ψ Y):=rfl
theorem Vf:Ti ψ Y (.bl b)=if b=G then ψ Y else .ok (.bl η):=rfl
def Xk(d:D):R Bool:=Ni d .ok
theorem DP:dC φ Y=(φ Y).bind Xk:=rfl
theorem Gf:Xk (.bl b)=.ok b:=rfl
theorem Vn:lP φ Y=(φ Y).bind L4:=rfl
def MZ(υ:FT)(Y:Sd)(b:Bool):R Bool:=if b=G then υ Y else .ok η
theorem yr:mQ τ υ Y=(τ Y).bind (MZ υ Y):=rfl
theorem xh:MZ υ Y b=if b=G then υ Y else .ok η:=rfl
def R6(υ:FT)(Y:Sd)(b:Bool):R Bool:=if b=G then .ok G else υ Y
theorem Ss:KF τ υ Y=(τ Y).bind (R6 υ Y):=rfl
theorem Tp:R6 υ Y b=if b=G then .ok G else υ Y:=rfl
def UD(b:Bool):R Bool:=.ok<|!b
theorem Tm:qN τ Y=(τ Y).bind UD:=rfl
def TV(φ ψ:FE)(Y:Sd)(b:Bool):R D:=if b=G then φ Y else ψ Y
theorem NN:MU τ φ ψ Y=(τ Y).bind (TV φ ψ Y):=rfl
theorem MH:TV φ ψ Y b=if b=G then φ Y else ψ Y:=rfl
theorem SY:aQ Y=.ok []:=rfl
def zU(d:D)(ds:afy):R<|afy:=.ok<|d::ds
def MP(α:FA)(Y:Sd)(d:D):R<|afy:=(α Y).bind<|zU d
theorem Qf:MP α Y d=(α Y).bind (zU d):=rfl
theorem J1{ds:afy}:zU d ds=.ok (d::ds):=rfl
theorem R9:uw α Y=(α Y).bind yA:=rfl
theorem Ut:uD α Y=(α Y).bind Bc:=rfl
theorem Qb:yA ds=if ds.length<=1000000 then .ok (.lst ds)else .no:=rfl
theorem Rp:Bc ds=if ds.length<=1000000 then .ok (.tup ds)else .no:=rfl
theorem PH:aI g α Y=(α Y).bind g:=rfl
def oK(d:D):R<|Option Int:=match d with
 |.int i=>.ok<|J i
 |_=>.no
theorem QB:gI φ Y=(φ Y).bind oK:=rfl
def QV(g:D->Option Int->Option Int->R D)(d:D)(lo a:Option Int):R D:=g d lo a
def RB(g:D->Option Int->Option Int->R D)(u:Sd->R (Option Int))(Y:Sd)(d:D)(lo:Option Int):R D:=(u Y).bind<|QV g d lo
def Tt(g:D->Option Int->Option Int->R D)(l u:Sd->R (Option Int))(Y:Sd)(d:D):R D:=(l Y).bind<|RB g u Y d
theorem Yj:Jm g φ l u Y=(φ Y).bind (Tt g l u Y):=rfl
theorem UA:Tt g l u Y d=(l Y).bind (RB g u Y d):=rfl
theorem U4{lo:Option Int}:RB g u Y d lo=(u Y).bind (QV g d lo):=rfl
theorem VA{lo hi:Option Int}:QV g d lo hi=g d lo hi:=rfl
def ZT(g:Str->afy->R D)(α:FA)(Y:Sd)(d:D):R D:=match d with
 |.str z=>(α Y).bind fun ds=>g z ds
 |_=>.no
theorem Xe{g:Str->afy->R D}:DN g φ α Y=(φ Y).bind (ZT g α Y):=rfl
theorem Ws:ZT g α Y (.str x)=(α Y).bind (g x):=rfl
theorem O8:jX ix α t τ φ Y=(α Y).bind (cF t τ φ<|dY ix Y):=rfl
theorem Tx:EX φ Y=(φ Y).bind Aw:=rfl
theorem IQ:p9 α Y=(α Y).bind KN:=rfl
theorem MX(h:-(2^62)<=i/\i<2^62):KN [.int i]=.ok (aW 0 i.toNat):=afk h
theorem zc:qX (.int i) (.int j)=if y3 i j then .ok (.int<|i*j)else .no:=rfl
theorem wR:zF (.int i) (.int j)=.ok (.bl<|decide (i<j)):=rfl
theorem Gv:Mp (.int i) (.int j)=.ok (.bl<|decide (i<=j)):=rfl
theorem vQ:Ed (.int i) (.int j)=.ok (.bl<|decide (j<i)):=rfl
theorem GM:C9 (.int i) (.int j)=.ok (.bl<|decide (j<=i)):=rfl
theorem XM:Mp (.str x) (.str y)=.ok (.bl<|!decide (y.cps.toList<x.cps.toList)):=rfl
theorem Xy:C9 (.str x) (.str y)=.ok (.bl<|!decide (x.cps.toList<y.cps.toList)):=rfl
theorem wiq:wI (.int i) (.int j)=G:=rfl
theorem wjq:wI (.str x) (.str y)=G:=rfl
theorem zf:jp (.int i) (.int j)=.ok (.bl<|decide (i=j)):=by simp[jp,zy,g7,wiq,lU]
theorem jg:jp (.str x) (.str y)=.ok (.bl<|decide (x=y)):=by simp[jp,zy,g7,wjq,lU]
theorem Sw:jp .non (.str x)=.ok (.bl η):=⊤
theorem Sa:jp (.int i) (.str x)=.ok (.bl η):=⊤
theorem S7:xF (.int i) (.int j)=.ok (.bl<|!decide (i=j)):=by simp[xF,zy,g7,wiq,lU]
theorem vE:xF (.str x) (.str y)=.ok (.bl<|!decide (x=y)):=by simp[xF,zy,g7,wjq,lU]
theorem U0(h:x.length<=1000000){k:Nat}(a:atI x.cps.toList i=J k):cR (.str x) (.int i)=.ok (.str ⟨#[k]⟩):=by rw[cR,afk h,a]
theorem UC(a:atI xs i=J d):cR (.lst xs) (.int i)=.ok d:=by simp only[cR,a]
theorem HY:cr [.str x]=if x.length<=1000000 then .ok (.int x.length)else .no:=rfl
theorem Vp:cr [.tup xs]=.ok (.int xs.length):=rfl
theorem Uq{xs:afy}{bs:List Bool}(h:yK xs=J bs):Dd [.lst xs]=.ok (.bl<|bs.all id):=by simp only[Dd,h]
theorem BP{β:Type}(f:β->Bool):∀xs:List β,yK (xs.map fun a=>D.bl<|f a)=J (xs.map f)
 |[]=>rfl
 |a::r=>by simp only[aaV,yK,BP f r,ace]
theorem strs_map{β:Type}(f:β->Str):∀xs:List β,oF (xs.map fun a=>D.str<|f a)=J (xs.map f)
 |[]=>rfl
 |a::r=>by simp only[aaV,oF,strs_map f r,ace]
theorem Er(h:oF xs=J ys)(a:(ys.map (·.length)).sum+ys.length*z.length<=1000000):kF z [.lst xs]=.ok (.str<|acP z ys):=by simp only[kF,h,afk a]
theorem BE(b:tX t δ0=G)(a:xs.length<=1000000)(h:fV t τ ε δ0 xs=.ok ys):cF t τ ε δ0 xs=.ok (.lst ys):=by
 delta cF;rw[afk ⟨b,a⟩,h];rfl
theorem jr{β:Type}{as:List β}(u:β->D)(f:β->D)(d:tX (.one k) δ0=G)(e:as.length<=1000000)(h:∀a∈as,ε (δ0.set k<|J<|u a)=.ok (f a)):cF (.one k) xa ε δ0 (as.map u)=.ok (.lst<|as.map f):=by
 refine BE d (by mright) ?_;clear e;induction as with
 |nil=>rfl
 |cons a r c=>
  have h1:=h a aax;have c:=c fun b g=>h b<|ie _ g;show(ε<|δ0.set k<|J<|u a).bind _=_;rw[h1];rw[c];rfl
end
section
variable{X:Cx}{W:Wd}{O O' Ob:afq}
def ML(xs:afx)(H:Hp)(Q:VK):Prop:=match xs with
 |[.int i]=>i.natAbs<10^30/\Q (.str<|lE<|toString i) H
 |_=>False
theorem TK:bI X (.type "str") ML:=by
 intro aa s Z H xs us Q I r h;delta ML at h;cbv
 .rename_i i;obtain⟨u,rfl,t,rfl⟩:=jV r;refine PySem.P.str_of_int ?_ ⟨.str _,H,I.tok _,⟨_,rfl⟩,h.2⟩;rcases adL i.natAbs with e|e
  .rw[e];decide
  .rw[Nat.log2_lt<|by simp_all];exact Rw h.1 (RW (by decide:10^30<=2^100)<|ael ∎<|∅)
 .mleft
noncomputable def CO(ds:afy):R D:=match ds with
 |[.int i]=>if i.natAbs<10^30 then .ok (.str<|lE<|toString i)else .no
 |_=>.no
def MY(xs:afx)(H:Hp)(Q:VK):Prop:=match xs with
 |[.str z]=>∃n,intText? z=J n/\z.length<=640/\Q (.int n) H
 |_=>False
noncomputable def xK(ds:afy):R D:=match ds with
 |[.str z]=>match intText? z with
  |some n=>if z.length<=640 then .ok (.int n)else .no
  |none=>.no
 |_=>.no
theorem Uh:nU W MY xK:=by
 intro as H xs ds Q c a h;delta xK at h;cbv
 .obtain⟨v,rfl,b⟩:=gy a;subst b;cbv
  .rename_i n e;cbv
   .rename_i hl;exact⟨n,e,hl,ax h rfl⟩
   .mleft
  .mleft
 .mleft
end
section
variable{M:Model}{A:abF}{E:aft}{s₀ s:ID}{m cm:afu}{env:Env}
theorem Jf{n:Str}{v:nE}{Q:Unit->ID->Prop}(x:InCallC s₀ env.locals m env.cells cm s)(i:env.scope.kind=.function)(j:env.kindOf n=J .local)
  (h:∀s',InCallC s₀ env.locals (fun y=>if y=n then J v else m y) env.cells cm s'->1<=s'.toks->Q () s'):aaN M A (storeName env n v) Q E s:=by
 refine wpAny_storeName_local j x.toInCall.ns (fun h' d a=>h _ ⟨⟨?_,d,fun b o e=>?_,x.toInCall.fresh⟩,fun k c g=>?_,x.apart,x.above⟩<|ad1<|aa2 _) (by rw[i];rfl)
 .obtain⟨f,l,rfl⟩:=x.toInCall.same;exact⟨h',_,rfl⟩
 .exact a.extBut b o (aa0<|Rw (aay e) x.toInCall.fresh) (x.toInCall.keep b o e)
 .exact(x.cell k c g).sameBut a (adH<|x.above k c<|mem_of_lookup g)
theorem uf(f:Str×nE->PUnit->Sem (ForInStep PUnit))(e:∀n v u,f (n,v) u=(do storeName env n v;pure (.yield ⟨⟩)))(g:env.scope.kind=.function){n:Str}{v:nE}{r:List<|Str×nE}{Q:PUnit->ID->Prop}
  (x:InCallC s₀ env.locals m env.cells cm s) (b:env.kindOf n=J .local) (i:∀x∈r,env.kindOf x.1=J .local\/(env.kindOf x.1=J .cell/\(env.cells.lookup x.1).isSome=G))
  (h:∀s',InCallC s₀ env.locals (bindL env.kindOf ((n,v)::r) m) env.cells (bindC env.kindOf ((n,v)::r) cm) s'->1<=s'.toks->Q ⟨⟩ s'):aaN M A (forIn ((n,v)::r) ⟨⟩ f) Q E s:=by
 rw[acZ,e];refine iF<|iF<|Jf x g b fun s' k j=>aaG<|aO j<|wpAny_bindParams f e g r _ _ s' _ k i fun d a c=>h d ?_ c;unfold bindL bindC;rw[afk b,afk b];exact a
theorem Ai{scope:Scope}{d:aaB}{n:Str}{v:nE}{r:List<|Str×nE}{g:Str}{f:Option aaB}{code:nE}{a:aaB}{Q:Env->ID->Prop}
  (p:scope.kind=.function) (q:scope.names.lookup n=J .local)
  (h:∀x∈r,scope.names.lookup x.1=J .local\/(scope.names.lookup x.1=J .cell/\((cellsFrom (s.heap.objs.size+1) scope.names []).lookup x.1).isSome=G))
  (k:∀env,env=newEnv scope s.heap.objs.size d (cellsFrom (s.heap.objs.size+1) scope.names []) g f code U a ->
   ∀s',InCallC s env.locals (bindL env.kindOf ((n,v)::r) fun _=>U) env.cells (bindC env.kindOf ((n,v)::r) fun _=>U) s'->1<=s'.toks->Q env s'):
  aaN M A (newFunctionEnv scope d [] ((n,v)::r) g f code U a) Q E s:=by
 simp only[newFunctionEnv,Option.isSome_none,Bool.false_eq_true,if_false];refine iF<|wpAny_alloc ?_;refine iF<|wpAny_layCells _ (fun name kind cells=>by cases hkc:kind==aeI<;>trivial) _ _ _ _ ?_;have ok:=cellsFrom_ok scope.names (s.heap.push {cls:=.type "frame",data:=.dict #[]}) (s.heap.objs.size+1) [] ⟨fun _ _ i=>(nomatch i),aeT⟩ (by rw[abx];exact mK _)
 rw[abx]at ok;rw[show({s with heap:=s.heap.push {cls:=.type "frame",data:=.dict #[]}}:ID).heap.objs.size=s.heap.objs.size+1 from abx ..];refine iF (uf (s₀:=s) (env:=newEnv scope s.heap.objs.size d (cellsFrom (s.heap.objs.size+1) scope.names []) g f code U a)
  _ (fun _ _ _=>rfl) p (m:=fun _=>U) (cm:=fun _=>U)
  ⟨⟨⟨_,_,rfl⟩,(Heap.Ns.new s.heap<|.type "frame").keeps<|pushCells_keeps _ _,fun b o e=>pushCells_keeps _ _ b o<|iN _ e,mK _⟩,
   fun n c l=>(ok.empty n c (mem_of_lookup l)).1,ok.apart,fun n c i=>(ok.empty n c i).2⟩
  q h fun s' x j=>aaG (k _ rfl s' x j))
end
noncomputable abbrev Cx.up(X:Cx)(n:Nat):Cx:={X with tn:=n}
theorem Cx.Ok.up{X:Cx}{n:Nat}(ok:X.Ok):(X.up n).Ok:=
 ⟨ok.mod,ok.kind,ok.glob,ok.blt,ok.above,ok.inj,ok.has,ok.cab,ok.hd,ok.frames,ok.stk,ok.exf,ok.bs,ok.bsz,ok.noex,ok.exfs,ok.funs,ok.frf⟩
theorem Inv.up{X:Cx}{aa:afs}{Z:St}{H:Hp}{s:ID}{n:Nat}(I:Inv X aa Z H s)(h:n<=s.toks):Inv (X.up n) aa Z H s:=⟨I.ok.up,I.os,I.bare,I.base,I.loc,I.cell,I.free,I.freeC,I.pin,I.hok,I.len,h⟩
theorem HH{CX:Ee}{P:abf}{w:abh}{K:aT}{mg:afu}{base:acn}{k:Nat}{f:aaB}{name c:Str}{h:Arguments}{i:List abN}{scope:Scope}{dV kV B pm g ct oc:nE}{an od:Option aaB}
  {X:Array<|Option nE} {N ps:afr} {sp:Sp} (lk:K.lookup f=J ⟨oc,od,.func<|abi name c h i scope dV kV B pm an g ct,X⟩) (M:abP K g c=G) (S:FnScope N ps scope)
  {z:Str} {pr:afr} (hp:ps=z::pr) (W:scope.names.lookup z=J .local)
  (len:∀vs H Q E,sp vs H Q E->vs.length=ps.length)
  (l:∀(A:abF)(a:List Env)(s:ID)(H:Hp)(vs:afx)(Q:VK)(E:XK),Room k (A.deeper<|ac4 c scope s.heap.objs.size f g)->sp vs H Q E ->
   ∃t,IR ((gw CX P w K mg base N c scope f g A a s H E).up 1) i t/\t {nx:=fun _ H'=>Q .non H',rt:=Q} (start N vs) H):
  FnOk P w K mg base CX (k+1) f (abi name c h i scope dV kV B pm an g ct) ps sp:=by
 subst hp;refine⟨len,fun A a s H args us vs Q E hr e0 hb r D=>?_⟩;have hl:=len _ _ _ _ D;have KX:K.In s.heap:=e0.mod.kin.keeps fun b o e=>(e0.bs b o e).1;have T:s.heap.NoLimit:=e0.mod.nolimit.keeps fun b o e=>(e0.bs b o e).1;have m:∀y∈(z::pr).zip us,scope.names.lookup y.1=J .local\/(scope.names.lookup y.1=J .cell/\((cellsFrom (s.heap.objs.size+1) scope.names []).lookup y.1).isSome=G):=fun⟨n,v⟩O=>by
  rcases S.par n (aaZ O).1 with q|q
  .exact .inl q
  .exact .inr ⟨q,acs _ _ _<|.inl q⟩
 have F:us.length=(z::pr).length:=by rw[<-r.length];exact hl
 obtain⟨p,C,rfl⟩:∃p C,us=p::C:=by
  cases us with
  |nil=>cases F
  |cons p C=>exact⟨p,C,rfl⟩
 refine codeAny_call_function hr.depth (KX _ _ lk) rfl S.co S.gen rfl (adK KX M) (hb _ _ _ _ ?_);refine Ai (n:=z) (v:=p) (r:=pr.zip C) S.kind W (fun y O=>m y<|ie _ O) fun env he s1 x ht=>?_;subst he;refine⟨T.keeps x.toInCall.keep,codeAny_func ?_⟩;obtain⟨t,ht',hq⟩:=l A a s H vs Q E (hr.deeper _) D;have I:Inv ((gw CX P w K mg base N c scope f g A a s H E).up 1) [] (start N vs) H s1:=(oQ S hr.hd e0 hl r x).up ht;refine aaP (ht' [] s1 (start N vs) H _ I hq) (fun fl s' hs=>?_) fun e s' hs=>hs;have fin:∀{j:St}{H':Hp}{v:V}{u:nE},Inv ((gw CX P w K mg base N c scope f g A a s H E).up 1) [] j H' s'->aP v u->Q v H'->CE a P w H s Q u s':=
  fun{j H' v u}d R q=>⟨v,H',d.os,d.bare,d.base,d.hok,R,q⟩
 cases fl with
 |ret u=>
  refine Z33 hs fun v j H' d R q=>?_;exact fin d R q
 |next=>
  obtain⟨j,H',d,q⟩:=hs;exact fin (v:=V.non) (u:=ab8) d rfl q
 |brk=>
  obtain⟨_,_,_,q⟩:=hs;exact abD q
 |cont=>
  obtain⟨_,_,_,q⟩:=hs;exact abD q
section
variable{P:abf}{w:abh}{K:aT}{mg:afu}{base:acn}
theorem Fun.okJ1{x b:Str}{st:abN}{f:aaB}{fd:abI}{N ps:afr}{k:Nat}{sp:Sp}(F:Fun K x b st f fd)(S:FnScope N ps<|ai st){j:Str}{pr:afr}(n:ps=j::pr)(g:(ai st).names.lookup j=J .local)(len:∀vs H Q E,sp vs H Q E->vs.length=ps.length)
  (d:∀(c:nE)(_:Ea K c b=G)(A:abF)(a:List Env)(s:ID)(H:Hp)(vs:afx)(Q:VK)(E:XK),Room k (A.deeper<|ac4 b (ai st) s.heap.objs.size f c)->sp vs H Q E ->
   ∃t,JB ((gw lD P w K mg base N b (ai st) f c A a s H E).up 1).nox (bL st) t/\t {nx:=fun _ H'=>Q .non H',rt:=Q} (start N vs) H):FnOk P w K mg base lD (k+1) f fd ps sp:=by
 obtain⟨v,p,kV,m,u,y,c,r,o,rfl,lk,e⟩:=F.ex;refine HH lk (tF e) S n g len fun A a s H vs Q E l i=>?_;obtain⟨t,h,q⟩:=d c e A a s H vs Q E l i;exact⟨t,h.out.nox,q⟩
theorem Fun.okD1{x c:Str}{st:abN}{f:aaB}{fd:abI}{N ps:afr}{k:Nat}{φ:FS}{O':afq}(F:Fun K x c st f fd)(S:FnScope N ps<|ai st){u:Str}{pr:afr}(n:ps=u::pr)(r:(ai st).names.lookup u=J .local)
  (j:∀(g:nE)(_:Ea K g c=G)(A:abF)(b:List Env)(s:ID)(H:Hp)(E:XK),Room k (A.deeper<|ac4 c (ai st) s.heap.objs.size f g) ->
   JB ((gw lD P w K mg base N c (ai st) f g A b s H E).up 1).nox (bL st) (sD ⟨K,mg,E0⟩ [] [] O' φ)):FnOk P w K mg base lD (k+1) f fd ps (rj K mg (gx φ N ps)):=by
 refine F.okJ1 S n r (fun vs H Q E h=>?_) fun g q A b s H vs Q E l h=>?_
 .obtain⟨as,ds,ex,m,h⟩:=h;delta gx at h;cbv
  .rename_i hl;rw[<-m.len];exact hl
  .mleft
 .obtain⟨as,ds,ex,m,h⟩:=h;delta gx at h;cbv
  .rename_i hl;refine⟨_,j g q A b s H E l,as,H,[],gd N ds,⟨?_,rfl,aby,aby,fun a y=>(nomatch y),ex,ah.refl _,fun i d _ e=>?_,fun i a h=>(by simp at h)⟩,?_⟩
   .delta gd start;simp[m.len]
   .unfold gd at e;delta start;rw[<-m.len];exact mZ m e
   .cases l:φ (gd N ds)with
    |ok fl=>
     rw[l]at h;cases fl with
     |rt d=>exact fun v H' s t=>h v H' s t
     |rn d=>exact fun p o H' s n e B=>h (.ref p) H' s<|B.den (fun z=>ex p z n) e
     |nx Y=>exact fun own Z H' I=>h .non H' I.same rfl
     |bk Y=>mleft
     |ct Y=>mleft
    |er x=>rw[l]at h;exact fun e C H' s=>h e C H' s
    |no=>rw[l]at h;mleft
  .mleft
end
noncomputable def cdD(tab:List<|Str×D)(d:D):R D:=match d with
 |.str x=>(match tab.lookup x with
  |some d=>.ok d
  |none=>.no)
 |_=>.no
section
variable{X:Cx}{W:Wd}{O Ob:afq}{e:aa1}{φ:FE}{pos p1:Pos}
def GR(tab:List<|Str×Int):List<|TE×TE:=tab.map fun p=>(tC<|.str p.1,tC<|.int p.2)
def rT(tab:List<|Str×Int):List<|Key×V:=tab.map fun p=>(Key.inr p.1,V.int p.2)
theorem xX(Z:St):∀(tab:List<|Str×Int)(H:Hp)(Q:List (V×V)->Hp->Prop),Q ((rT tab).map fun kv=>(kV kv.1,kv.2)) H->wK (GR tab) Z H Q
 |[],H,Q,h=>h
 |p::r,H,Q,h=>xX Z r H _ h
theorem uN(x:Str):∀(tab:List<|Str×Int)(a:List<|Key×V),(tab.map (·.1)).Nodup->gN (jA a<|rT tab) (Key.inr x)=match tab.lookup x with
  |some i=>J<|.int i
  |none=>gN a<|Key.inr x
 |[],a,_=>rfl
 |p::r,a,nd=>by
  rw[aaV,aaK]at nd;show gN (jA (tf a (Key.inr p.1)<|.int p.2)<|rT r) (Key.inr x)=_;rw[uN x r _ nd.2,aaQ];by_cases h:x=p.1
  .subst h;have b:r.lookup p.1=U:=by
    rw[List.lookup_eq_none_iff];intro q c
    have:p.1≠q.1:=fun z=>nd.1 (by rw[z];exact acm c)
    simpa using this
   rw[b,yk];simp
  .have hb:(x==p.1)=η:=by simpa using h
   rw[hb,yk];have h':¬(Key.inr x:Key)=Key.inr p.1:=fun z=>h<|Key.inr.inj z;rw[afl h']
theorem yF(f:Int->D)(x:Str):∀(tab:List<|Str×Int),(tab.map fun p=>(p.1,f p.2)).lookup x=(tab.lookup x).map f
 |[]=>rfl
 |p::r=>by
  rw[aaV,aaQ,aaQ];cases x==p.1
  .exact yF f x r
  .rfl
theorem QG(tab:List<|Str×Int){a:List<|Option aa1}{c:List aa1}{d:Pos}(t:X.A.units+1<cLine)(j:X9 X d a c<|GR tab)(u:JE X e<|tD W O φ)(s:(tab.map (·.1)).Nodup)(k:tab.length<=15)
  (f:autoParam (a.all (·.isSome)=G) Xaz) (C:autoParam (a.length=c.length) Xaz) (E:autoParam (a≠[]) Xez) (g:autoParam (a.length<=15) Xax) (hs:autoParam (En e) Xdx):
  JE X (.Subscript (.Dict a c d) e pos) (tD W O<|zz (cdD<|tab.map fun p=>(p.1,D.int p.2)) φ):=
 (JE.mk<|Mh t (JX j f C E g) u.out hs).imp fun Z H Q r=>dQ r fun as0 B own Y I h=>by
  intro p j;refine xX Z tab _ _ ⟨aE,rT tab,rfl,by delta rT;rw[aaU];exact k,?_⟩;have l:ah H<|br (br H p<|.dK []) p<|.dK<|jA []<|rT tab:=fun b o e=>by
   have m:b≠p:=fun z=>by rw[z,j]at e;cases e
   rw[aG m,aG m];exact e
  refine⟨as0,B,own,Y,I.mono l,aY (h.mono l) fun y v F w n h2=>?_⟩;unfold cdD at h2;cases y with
  |str x=>
   subst n;simp only at h2;rw[yF]at h2;cases q:tab.lookup x with
   |none=>rw[q]at h2;exact h2.elim
   |some i=>
    rw[q]at h2;refine⟨p,.int i,rfl,.inl ⟨jA []<|rT tab,Key.inr x,.inl<|w _ _ aE,rfl,?_⟩,ax h2 rfl⟩;rw[uN x tab [] s,q]
  |_=>exact h2.elim
theorem KP(tab:List<|Str×D)(i:X.mg x=J (.ref a))(g:X.K.lookup a=J ⟨.type "dict",U,.dict es n,#[]⟩)(f:adx X.w.params es.toList)
  (p:∀y d,tab.lookup y=J d->∃v u,DO X.K a y=J (J u)/\aP v u/\∀H,bQ W.K H d v) (l:JE X e<|tD W O φ) (k:autoParam (Gl X x) Xaz) (b:autoParam (afz x) Xax) (hs:autoParam (En e) Xdx):
  JE X (.Subscript (.Name x p1) e pos) (tD W O<|zz (cdD tab) φ):=⟨by
 intro aa s Z H Q I0 ⟨as0,B,own,Y,I,h⟩;refine BU adQ.lookup hs<|dD I0 k i (bP (l.out aa s Z H (fun v H1=>∃y d,v=.str y/\tab.lookup y=J d/\cP W (own++as0) H1 (.ok d) Q) I0 ⟨as0,B,own,Y,I,aY h fun y v c o j h2=>?_⟩) fun iv o⟨yv,c,I2,ry,y,d,ey,q1,q2⟩=>?_) b
 .unfold cdD at h2;cases y with
  |str x=>
   subst j;mright;cases q:tab.lookup x with
   |none=>rw[q]at h2;exact h2.elim
   |some d=>mright
  |_=>exact h2.elim
 .subst ey;obtain⟨t,rfl⟩:=ry;refine Z23 (p y d q1) fun v u h1 h2 h3=>?_
  obtain⟨m,F⟩:=I2.fr
  refine⟨(PySem.W.mapOf_K (prog:=X.prog) I2.kIn g f).typeIs,PySem.W.topGetDict_K F I2.mod.kin g f h1 ⟨v,c,I2.tok _,h2,q2 v c (ah.refl _) (h3 _)⟩⟩⟩
end
section
variable{X:Cx}{W:Wd}{Ob O:afq}{e f:aa1}{ε ψ:FE}{pos p1 p2 p3 apos cpos apos2 cpos2 apos3 cpos3 tpos:Pos}{x:Str}{tx:Nat}
def pR(i:Nat)(ε:FE):FS:=fun Y=>match Y[i]? with
 |some (J<|.lst xs)=>(ε Y).bind fun d=>match xs[xs.length-1]? with
  |some y=>if xs.length<=1000000 then .ok (.nx<|Y.set i<|J<|.lst<|xs.dropLast++[.tup [d,y]])else .no
  |none=>.no
 |_=>.no
def my(i:Nat)(ε ψ:FE):FS:=fun Y=>match Y[i]? with
 |some (J<|.lst xs)=>(ε Y).bind fun d=>(ψ Y).bind fun k=>match k with
  |.int k=>(match C5 xs.length k with
   |some j=>(match xs[j]? with
    |some b=>(match(xs.eraseIdx j)[(xs.eraseIdx j).length-1]? with
     |some a=>if xs.length<=1000000 then .ok (.nx<|Y.set i<|J<|.lst<|(xs.eraseIdx j).dropLast++[.tup [d,b,a]])else .no
     |none=>.no)
    |none=>.no)
   |none=>.no)
  |_=>.no
 |_=>.no
theorem ay.erase{K:aT}{H:Hp}:∀{ds:afy}{xs:afx}(j:Nat),ay K H ds xs->ay K H (ds.eraseIdx j) (xs.eraseIdx j)
 |[],_,j,h=>by subst h;simp;exact rfl
 |d::ds,_,0,⟨v,vs,e,h1,h2⟩=>by subst e;exact h2
 |d::ds,_,j+1,⟨v,vs,e,h1,h2⟩=>by subst e;exact⟨v,_,rfl,h1,ay.erase j h2⟩
theorem ay.dropLast{K:aT}(h:ay K H ds xs):ay K H ds.dropLast xs.dropLast:=by
 rw[ad9,ad9,<-h.len];exact h.take _
theorem Fu{i:Nat}(hi:i∈O)(he:JE X e<|tD W O ε)(P:autoParam (X.N[i]?=J x) Xaz)(hn:autoParam (al e=G) Xaz)(j:autoParam ((apos.endLine==cpos.line)=G) Xaz)(c:autoParam ((apos2.endLine==cpos2.line)=G) Xaz)
  (hv:autoParam (m6 X.env.scope x) Xcz) (hd:autoParam (afz x) Xax) (m:autoParam ((x==("__classdict__":Str))=η) Xax)
  (k:autoParam (aaF (.Name x p1) "append" X.env (eval (.Name x p1) X.env)=eval (.Name x p1) X.env) Xaz) (b:autoParam (aaF (.Name x p2) "pop" X.env (eval (.Name x p2) X.env)=eval (.Name x p2) X.env) Xaz)
  (hs:autoParam (abm (.Call (.Attribute (.Name x p1) "append" apos) [.Tuple [e,.Call (.Attribute (.Name x p2) "pop" apos2) [] [] cpos2] tx tpos] [] cpos) U pos.line X.env=pure η) Xaz) (hW:autoParam (W.K=X.K) Xaz):
  JS X (.Expr (.Call (.Attribute (.Name x p1) "append" apos) [.Tuple [e,.Call (.Attribute (.Name x p2) "pop" apos2) [] [] cpos2] tx tpos] [] cpos) pos) (sD W Ob O O<|pR i ε):=
 (n9 (DK aaW abL abM gq (jv i P hv hd m)
  (bU (Ci (bU he (bU (Cg aaW ab2 ab3 wN (jv i P hv hd m) b c) eD rfl) hn)) eD rfl) k j rfl (by show 1<29;simp)) hs).imp fun D Z H hh=>dQ hh fun as0 B own Y I h=>by
  obtain⟨a,u⟩:=fT I.olen hi;refine Z24 (I.owns i a u) fun d o h1 h2 F h4=>?_;show m8 Z[i]? H fun x H1=>KU X.K "list" x H1/\tD W O ε Z H1 fun g H2=>m8 Z[i]? H2 (fun R M=>KU X.K "list" R M/\Pi R [] M fun y T=>[g,y].length<=aaL/\∀p,T p=U->nj x [.ref p] (br T p<|.tup [g,y]) fun _ H5=>D.nx Z H5);rw[h2];delta pR at h;rw[h1]at h;have hil:i<Y.length:=(rW.mp h1).1;have hm:a∈own++as0:=Le _ (aaZ u).2;cases d with
  |lst ds=>
   obtain⟨xs,rfl,q⟩:=h4;refine⟨.inl ⟨rfl,xs,gr.of F⟩,as0,B,own,Y,I,cO I h fun d g H2 w d2 f=>?_⟩;refine⟨.inl ⟨rfl,xs,gr.of<|w _ _ F⟩,?_⟩;cases e:ds[ds.length-1]? with
   |none=>rw[e]at f;exact f.elim
   |some y=>
    rw[e]at f;have f:c8 W as0 B Ob O (if ds.length<=1000000 then .ok (.nx<|Y.set i<|J<|.lst<|ds.dropLast++[.tup [d,y]])else .no) D:=f;split at f
    .rename_i hl;have q2:=q.mono<|aA w;obtain⟨l,s,dy⟩:=q2.get e;rw[q.len]at s;have I2:=I.mono w;have Q:=I2.mutate (o':=.lst xs.dropLast) (d':=.lst ds.dropLast) u ⟨xs.dropLast,rfl,q2.dropLast⟩;refine⟨a,xs,l,rfl,rfl,w _ _ F,s,by rw[abB];simp,fun p t=>?_⟩;have E:p≠a:=fun z=>by rw[z,aE]at t;cases t
     have C:=Q.new t;have A:ah (br H2 a<|.lst xs.dropLast)<|br (br H2 a<|.lst xs.dropLast) p<|.tup [g,l]:=bR t _;have I4:=Q.mono A;have V:aj (own++as0) (br H2 a<|.lst xs.dropLast)=aj (own++as0) H2:=iR hm;have n:∀{d v},bQ W.K (aj (own++as0) H2) d v->bQ W.K (aj (own++as0)<|br (br H2 a<|.lst xs.dropLast) p<|.tup [g,l]) d v:=fun h=>bQ.mono (aA A) (by rw[V];exact h);have r:∀{d v},ay W.K (aj (own++as0) H2) d v->ay W.K (aj (own++as0)<|br (br H2 a<|.lst xs.dropLast) p<|.tup [g,l]) d v:=fun h=>ay.mono (aA A) (by rw[V];exact h);refine⟨a,xs.dropLast,.ref p,rfl,rfl,?_,?_,?_⟩
     .rw[aG<|aci E];exact aE
     .have:=ck;have:=q.len;rw[aem];have h0:0<xs.length:=by
       rcases adL xs.length with z|z
       .rw[adj<|by simp_all]at s;cases s
       .exact z
      grind
     .have hT:bQ W.K (aj (own++as0)<|br (br H2 a<|.lst xs.dropLast) p<|.tup [g,l]) (.tup [d,y])<|.ref p:=
       ⟨p,[g,l],rfl,.inl<|.inl<|by rw[av C];exact aE,ay.cons (n d2)<|ay.cons (n dy) ay.nil⟩
      have S:=I4.mutate (o':=.lst<|xs.dropLast++[.ref p]) (d':=.lst<|ds.dropLast++[.tup [d,y]]) u ⟨_,rfl,(r q2.dropLast).append<|ay.cons hT ay.nil⟩;rw[ae4]at S;exact f own Z _ S
    .exact f.elim
  |_=>mleft
theorem GD{i:Nat}(hi:i∈O)(he:JE X e<|tD W O ε)(hf:JE X f<|tD W O ψ)(hN:autoParam (X.N[i]?=J x) Xaz)(hn:autoParam (al e=G) Xaz)(Q:autoParam (al f=G) Xaz)(y:autoParam ((apos.endLine==cpos.line)=G) Xaz)(l:autoParam ((apos2.endLine==cpos2.line)=G) Xaz)(g:autoParam ((apos3.endLine==cpos3.line)=G) Xaz)
  (V:autoParam (m6 X.env.scope x) Xcz) (hd:autoParam (afz x) Xax) (u:autoParam ((x==("__classdict__":Str))=η) Xax)
  (t:autoParam (aaF (.Name x p1) "append" X.env (eval (.Name x p1) X.env)=eval (.Name x p1) X.env) Xaz) (m:autoParam (aaF (.Name x p2) "pop" X.env (eval (.Name x p2) X.env)=eval (.Name x p2) X.env) Xaz) (c:autoParam (aaF (.Name x p3) "pop" X.env (eval (.Name x p3) X.env)=eval (.Name x p3) X.env) Xaz)
  (hs:autoParam (abm (.Call (.Attribute (.Name x p1) "append" apos) [.Tuple [e,.Call (.Attribute (.Name x p2) "pop" apos2) [f] [] cpos2,.Call (.Attribute (.Name x p3) "pop" apos3) [] [] cpos3] tx tpos] [] cpos) U pos.line X.env=pure η) Xaz) (hW:autoParam (W.K=X.K) Xaz):
  JS X (.Expr (.Call (.Attribute (.Name x p1) "append" apos) [.Tuple [e,.Call (.Attribute (.Name x p2) "pop" apos2) [f] [] cpos2,.Call (.Attribute (.Name x p3) "pop" apos3) [] [] cpos3] tx tpos] [] cpos) pos) (sD W Ob O O<|my i ε ψ):=
 (n9 (DK aaW abL abM gq (jv i hN V hd u)
  (bU (Ci (bU he (bU (DK aaW ab2 ab3 Hf (jv i hN V hd u) (bU hf eD Q) m l (by rw[aa5,Q];rfl) (by show 1<29;decide)) (bU (Cg aaW ab2 ab3 wN (jv i hN V hd u) c g) eD rfl) rfl) hn)) eD rfl) t y rfl (by show 1<29;decide)) hs).imp fun D Z H hh=>dQ hh fun as0 B own Y I h=>by
  left;obtain⟨a,F⟩:=fT I.olen hi;refine Z24 (I.owns i a F) fun d o h1 h2 h3 h4=>?_;right;show m8 Z[i]? H fun x H1=>KU X.K "list" x H1/\tD W O ε Z H1 fun s H2=>m8 Z[i]? H2 fun x2 H3=>KU X.K "list" x2 H3/\tD W O ψ Z H3 fun k H4=>GV x2 [k] H4 fun r H5=>m8 Z[i]? H5 (fun x3 H6=>KU X.K "list" x3 H6/\Pi x3 [] H6 fun n H7=>[s,r,n].length<=aaL/\∀p,H7 p=U->nj x [.ref p] (br H7 p<|.tup [s,r,n]) fun _ H8=>D.nx Z H8);rw[h2];delta my at h;rw[h1]at h;have hil:i<Y.length:=(rW.mp h1).1;have hm:a∈own++as0:=Le _ (aaZ F).2;cases d with
  |lst ds=>
   obtain⟨xs,rfl,q⟩:=h4;refine⟨.inl ⟨rfl,xs,gr.of h3⟩,as0,B,own,Y,I,cO I h fun d s H1 R d1 hq1=>?_⟩;refine⟨.inl ⟨rfl,xs,gr.of<|R _ _ h3⟩,as0,B,own,Y,I.mono R,cO (I.mono R) hq1 fun kd kv H2 s2 d2 b=>?_⟩;cases kd with
   |int k=>
    subst d2;have b:c8 W as0 B Ob O (match C5 ds.length k with
     |some j=>(match ds[j]? with
      |some r=>(match(ds.eraseIdx j)[(ds.eraseIdx j).length-1]? with
       |some n=>if ds.length<=1000000 then .ok (.nx<|Y.set i<|J<|.lst<|(ds.eraseIdx j).dropLast++[.tup [d,r,n]])else .no
       |none=>.no)
      |none=>.no)
     |none=>.no) D:=b
    cases ej:C5 ds.length k with
    |none=>rw[ej]at b;exact b.elim
    |some j=>
     rw[ej]at b;simp only at b;cases e1:ds[j]? with
     |none=>rw[e1]at b;exact b.elim
     |some r=>
      rw[e1]at b;simp only at b;left;cases e2:(ds.eraseIdx j)[(ds.eraseIdx j).length-1]? with
      |none=>right;rw[e2]at b;exact b.elim
      |some n=>
       rw[e2]at b;have b:c8 W as0 B Ob O (if ds.length<=1000000 then .ok (.nx<|Y.set i<|J<|.lst<|(ds.eraseIdx j).dropLast++[.tup [d,r,n]])else .no) D:=b;split at b
       .rename_i hl;have w:=R.trans s2;have q2:=q.mono<|aA w;have M:=q2.erase j;obtain⟨E,f1,g1⟩:=q2.get e1;obtain⟨C,f2,g2⟩:=M.get e2;rw[M.len]at f2;rw[q.len]at ej;obtain⟨i1,i2,i3,i4⟩:=Br ej;right;have hlx:xs.length<=1000000:=by rw[<-q.len];exact hl
        have I2:=I.mono w;have I3:=I2.mutate (o':=.lst<|xs.eraseIdx j) (d':=.lst<|ds.eraseIdx j) F ⟨_,rfl,M⟩;have m3:aj (own++as0) (br H2 a<|.lst<|xs.eraseIdx j)=aj (own++as0) H2:=iR hm;have qd:ay W.K (aj (own++as0)<|br H2 a<|.lst<|xs.eraseIdx j) (ds.eraseIdx j).dropLast (xs.eraseIdx j).dropLast:=by rw[m3];exact M.dropLast
        have I4:=I3.mutate (o':=.lst (xs.eraseIdx j).dropLast) (d':=.lst (ds.eraseIdx j).dropLast) F ⟨_,rfl,qd⟩;refine⟨a,xs,k,j,E,rfl,rfl,w _ _ h3,⊥,⊥,i1,f1,?_⟩;refine⟨.inl ⟨rfl,xs.eraseIdx j,gr.of aE⟩,a,xs.eraseIdx j,C,rfl,rfl,aE,f2,by rw[abB];simp,fun p S=>?_⟩;have hpa:p≠a:=fun z=>by rw[z,aE]at S;cases S
        have T:=I4.new S;have s5:=bR S<|.tup [s,E,C];have I5:=I4.mono s5;have m4:aj (own++as0) (br (br H2 a<|.lst<|xs.eraseIdx j) a<|.lst (xs.eraseIdx j).dropLast)=aj (own++as0) H2:=(iR hm).trans m3;have A:∀{d v},bQ W.K (aj (own++as0) H2) d v->bQ W.K (aj (own++as0)<|br (br (br H2 a<|.lst<|xs.eraseIdx j) a<|.lst (xs.eraseIdx j).dropLast) p<|.tup [s,E,C]) d v:=fun h=>bQ.mono (aA s5) (by rw[m4];exact h);have P:∀{d v},ay W.K (aj (own++as0) H2) d v->ay W.K (aj (own++as0)<|br (br (br H2 a<|.lst<|xs.eraseIdx j) a<|.lst (xs.eraseIdx j).dropLast) p<|.tup [s,E,C]) d v:=fun h=>ay.mono (aA s5) (by rw[m4];exact h);refine⟨a,(xs.eraseIdx j).dropLast,.ref p,rfl,rfl,?_,?_,?_⟩
        .rw[aG<|aci hpa];exact aE
        .have:=ck
         rw[aem,List.length_eraseIdx,afk i2];lia
        .have hT:bQ W.K (aj (own++as0)<|br (br (br H2 a<|.lst<|xs.eraseIdx j) a<|.lst (xs.eraseIdx j).dropLast) p<|.tup [s,E,C]) (.tup [d,r,n])<|.ref p:=
          ⟨p,[s,E,C],rfl,.inl<|.inl<|by rw[av T];exact aE,ay.cons (A<|d1.mono<|aA s2)<|ay.cons (A g1)<|ay.cons (A g2) ay.nil⟩
         have I6:=I5.mutate (o':=.lst<|(xs.eraseIdx j).dropLast++[.ref p]) (d':=.lst<|(ds.eraseIdx j).dropLast++[.tup [d,r,n]]) F ⟨_,rfl,(P M.dropLast).append<|ay.cons hT ay.nil⟩;rw[ae4,ae4]at I6;exact b own Z _ I6
       .right;exact b.elim
   |_=>exact b.elim
  |_=>mleft
end
theorem tab_of{P:Str->D->Prop}:∀{tab:List<|Str×D},(∀p∈tab,P p.1 p.2)->∀{y:Str}{d:D},tab.lookup y=J d->P y d
 |[],_,_,_,e=>by cases e
 |p::r,h,y,d,e=>by
  rw[aaQ]at e;cases hb:y==p.1 with
  |true=>
   rw[hb]at e;have e:J p.2=J d:=e;cases e
   have:y=p.1:=eq_of_beq hb
   rw[this];exact h p aax
  |false=>rw[hb]at e;exact tab_of (fun q a=>h q<|ie _ a) e
theorem FnOk.void{K:aT}:FnOk P w K mg base lD k f fd ps<|rj K mg fun _=>.no:=
 ⟨by rintro vs H Q E⟨_,_,_,_,h⟩;exact h.elim,by rintro A outer s H args us vs Q E hr e0 hb r⟨_,_,_,_,h⟩;mleft⟩
section
variable{X:Cx}{W:Wd}{Ob O:afq}{e f:aa1}{ε φ ψ:FE}{pos p1 p2 apos cpos:Pos}{x:Str}
theorem Rq(K:aT)(k:i∈O)(g:X.mg "tuple"=U)(n:autoParam (X.N[i]?=J x) Xaz)(j:autoParam (Gl X "tuple") Xaz)(f:autoParam (m6 X.env.scope x) Xcz)(hd:autoParam (afz x) Xax)
  (b:autoParam ((x==("__classdict__":Str))=η) Xax) (p:autoParam (X.K=K) Xaz) (s:autoParam (W.K=K) Xaz):JE X (.Call (.Name "tuple" p2) [.Name x p1] [] pos)<|tD W O<|aI wf<|ak (ag i) aQ:=
 (BN (HC K p) g sU (bU (jv i n f hd b) eD) j).imp fun Z H Q m=>dQ m fun as0 B own Y I h=>by
  obtain⟨a,ha⟩:=fT I.olen k
  refine Z24 (I.owns i a ha) fun d o h1 h2 h3 h4=>?_
  show m8 Z[i]? H fun v H1=>xC K [v] H1 Q;rw[h2];have f:ag i Y=.ok d:=by delta ag;rw[h1]
  have h':cP W (own++as0) H (wf [d]) Q:=by
   have e:aI wf (ak (ag i) aQ) Y=wf [d]:=by delta aI ak aQ;rw[f];rfl
   rw[<-e];exact h
  cases d with
  |lst ds=>
   obtain⟨xs,rfl,q⟩:=h4;refine .inl ⟨xs,gr.of h3,fun l c=>?_⟩;have r:=I.new c;exact h' _ _ (bR c _) ⟨l,xs,rfl,.inl<|.inl<|by rw[av r];exact aE,q.mono<|aA<|bR c _⟩
  |_=>first|exact h4.elim|exact h'.elim
end
structure Nw(X:Cx)(aa:afs)(b:aaB):Prop where
 base:X.s₀.heap.get? b=U
 loc:b≠X.env.locals
 fs:b∉X.fs
 cell:∀x c,X.env.cells.lookup x=J c->c≠b
 pin:∀p∈X.pn++aa,p.1≠b
section
variable{Z:St}
theorem Nw.new(I:Inv X aa Z H s){b:aaB}(a:s.heap.objs.size<=b):Nw X aa b:=by
 obtain⟨_,e,d,_,f,c⟩:=I.fpOk a<|I.hok.fresh a;exact⟨(fun k=>aek k)<|RW I.sz a,e,d,f,c⟩
def qQ(X:Cx):Prop:=∀b∈X.ex,∃o,(b,o)∈X.pn
theorem Nw.gone(I:Inv X aa Z H s)(h:qQ X){b:aaB}(d:s.heap.get? b=U):Nw X aa b:=by
 have f:b∉X.ex:=fun z=>by
  obtain⟨o,a⟩:=h b z
  have:=(I.pin (b,o)<|Le _ a).1
  rw[d]at this;cases this
 refine⟨?_,?_,fun z=>?_,fun x c e z=>?_,fun p g z=>?_⟩
 .cases q:X.s₀.heap.get? b with
  |none=>rfl
  |some o=>
   obtain⟨o',e⟩:=I.base.there b o q f;rw[d]at e;cases e
 .intro z;obtain⟨m,⟨o,_,_,a,_⟩,_⟩:=I.loc;rw[<-z,d]at a;cases a
 .obtain⟨_,o,a,_⟩:=I.ok.funs.mem z;obtain⟨o',e⟩:=I.base.there b o a f;rw[d]at e;cases e
 .obtain⟨v,o,a,_⟩:=I.cell x c e;rw[z,d]at a;cases a
 .have:=(I.pin p g).1
  rw[z,d]at this;cases this
theorem qQ.nil(h:X.ex=[]):qQ X:=fun b z=>by rw[h]at z;cases z
theorem Nw.less{b:aaB}(n:Nw X aa b):Nw X [] b:=⟨n.base,n.loc,n.fs,n.cell,fun p a=>n.pin p (by
 rcases BY.mp a with z|z
 .exact Le _ z
 .cases z)⟩
theorem Inv.less(I:Inv X aa Z H s):Inv X [] Z H s:=⟨I.ok,I.os,I.bare,I.base,I.loc,I.cell,I.free,I.freeC,fun p a=>I.pin p (by
 rcases BY.mp a with z|z
 .exact Le _ z
 .cases z),I.hok,I.len,I.tk⟩
theorem Inv.recs{h':acn}{ch:afv}(I:Inv X aa Z H s)(f:∀b∈ch,Nw X aa b/\H b=U)
  (k:∀b o,b≠X.env.locals->b∉X.fs->b∉ch->s.heap.get? b=J o->h'.get? b=J o)
  (A:∀b o,b∉ch->s.heap.get? b=J o->∃l,h'.get? b=J {o with slots:=l}):Inv X aa Z H {s with heap:=h'}:=by
 have Q:X.env.locals∉ch:=fun z=>(f _ z).1.loc rfl;have M:∀x c,X.env.cells.lookup x=J c->c∉ch:=fun x c e z=>(f c z).1.cell x c e rfl;have nB:∀b o,X.s₀.heap.get? b=J o->b∉ch:=fun b o e z=>by rw[(f b z).1.base]at e;cases e
 have B:∀b o,X.s₀.heap.get? b=J o->b≠X.env.locals:=fun b o e=>aa0<|Rw (aay e) I.ok.above;have C:∀b∈X.fs,H b=U:=fun b j=>by
  obtain⟨_,o,y,_⟩:=I.ok.funs.mem j;exact I.base.free b o y (I.ok.frf.1 b j) fun z=>I.ok.exfs b z j
 have g:∀b u o,H b=J u->s.heap.get? b=J o->h'.get? b=J o:=fun b u o e q=>by
  refine k b o (fun z=>?_) (fun z=>?_) (fun z=>?_) q
  .rw[z,I.free]at e;cases e
  .rw[C b z]at e;cases e
  .rw[(f b z).2]at e;cases e
 have h:∀x c,X.env.cells.lookup x=J c->∀v,s.heap.IsCell c v->h'.IsCell c v:=fun x c e v⟨o,y,hd⟩=>by
  obtain⟨l,q⟩:=A c o (M x c e) y;exact⟨_,q,hd⟩
 refine⟨I.ok,I.os,I.bare,⟨fun b o e n j t=>?_,fun b o e n j t=>?_,I.base.free,fun b o e t=>?_,I.base.tups,I.base.frzs,I.base.tbls⟩,?_,fun x c e=>?_,I.free,I.freeC,fun p E=>?_,fun a u e=>?_,I.len,I.tk⟩
 .exact k b o (B b o e) j (nB b o e) (I.base.keep b o e n j t)
 .obtain⟨l,e1⟩:=I.base.slot b o e n j t;obtain⟨D,w⟩:=A b _ (nB b o e) e1;exact⟨D,w⟩
 .obtain⟨o',e1⟩:=I.base.there b o e t;obtain⟨D,w⟩:=A b _ (nB b o e) e1;exact⟨_,w⟩
 .left;obtain⟨m,⟨o,es,O,y,hd,r⟩,P⟩:=I.loc;obtain⟨l,q⟩:=A _ o Q y;right;refine⟨m,⟨_,es,O,q,hd,r⟩,fun i x v e1 w N=>?_⟩;obtain⟨u,r,z⟩:=P i x v e1 w N;refine⟨u,r,?_⟩;rcases z with z|⟨k',c,e,z⟩
  .exact .inl z
  .exact .inr ⟨k',c,e,h x c e _ z⟩
 .obtain⟨v,z⟩:=I.cell x c e;exact⟨v,h x c e v z⟩
 .refine Z05 (I.pin p E) fun e n F K d=>?_;exact⟨k p.1 p.2 F K (fun z=>(f p.1 z).1.pin p E rfl) e,n,F,K,d⟩
 .refine(I.hok a u e).stay (fun b v j q=>?_) (fun _ z=>z) fun _ _ z=>z;rcases j with z|z
  .rw[z]at q⊢;exact g a u v e q
  .exact g b _ v z q
theorem C7(f:Array nE->Array nE)(o:Obj):(abO f o).dict=o.dict:=by
 delta abO;split<;>rfl
def Ms:Str:="BadLog"
structure ExcAt(X:Cx)(aa:afs)(H:Hp)(h:acn)(x C:aaB)(fl:Option nE):Prop where
 nx:Nw X aa x
 hx:H x=U
 ob:∃oe vs,h.get? x=J oe/\(oe.cls=.ref C/\oe.dict=U)/\oe.data=.fields vs/\(1<vs.size/\(X.mg Ms≠J (.ref C)->vs[2]?=J .none))/\(fl=U->vs[1]?=J .none) /\
  ∀v,fl=J v->∃T oT ts,vs[1]?=J (.ref T)/\Nw X aa T/\H T=U/\T≠x/\h.get? T=J oT/\oT.data=.fields ts/\ts[3]?=J v
theorem ExcAt.less{h:acn}{x C:aaB}{fl:Option nE}(e:ExcAt X aa H h x C fl):ExcAt X [] H h x C fl:=by
 refine Z26 e.ob fun i vs h1 h2 j g d f=>?_;exact⟨e.nx.less,e.hx,i,vs,h1,h2,j,g,d,fun v z=>let⟨T,oT,ts,a,b,c⟩:=f v z;⟨T,oT,ts,a,b.less,c⟩⟩
theorem jL{A:abF}{E:aft}{Q:Unit->ID->Prop}{x C:aaB}{v:nE}(I:Inv X aa Z H s)(e:ExcAt X aa H s.heap x C<|J v)(f:Option aaB)
  (q:∀h',Inv X aa Z H {s with heap:=h'}->ExcAt X aa H h' x C (J<|f.elim .none fun a=>adN a)->Q () {s with heap:=h'}):aaN (aaO X.prog X.w) A (setFlight (.ref x) f) Q E s:=by
 left;refine Z26 e.ob fun p vs h1 h2 n t _ u=>?_;refine Z37 (u v rfl) fun T oT F l k j r m g D=>?_;right;have i:3<F.size:=(adE.mp D).1;delta setFlight;refine iF<|abn h1 n l ?_;have h:(abJ T != ab8)=G:=by rfl
 rw[afk h];refine adf m g i ?_;generalize M:(f.elim ab8 fun a=>adN a)=nv at q;have B:=acz (abO (·.setIfInBounds 3 nv)) m<|ab1<|abA g _;have c:∀b o,b≠T->s.heap.get? b=J o->(s.heap.update T<|abO (·.setIfInBounds 3 nv)).get? b=J o:=fun b o d z=>by
  rw[abX _ _<|aci d];exact z
 refine q _ (I.recs (ch:=[T]) (fun b d=>?_) (fun b o _ _ d z=>c b o (fun y=>d<|by simp[y]) z) fun b o d z=>⟨o.slots,c b o (fun y=>d<|by simp[y]) z⟩) ⟨e.nx,e.hx,p,vs,c x p (aci r) h1,h2,n,t,fun z=>(by cases z),fun K z=>?_⟩
 .rw[IF.mp d];exact⟨k,j⟩
 .cases z;exact⟨T,_,_,l,k,j,r,B,abA g _,by simp[i]⟩
theorem DD{M:Model}{A:abF}{E:aft}{s:ID}{d:acn}{e1 a:Env}{os:List Env}{Lq0:aaB}{Q:aft}(k1:A.frames=J (e1::os))(k2:s.heap.FunFrames d<|e1::os)(k3:e1.frame=J Lq0)(k4:a.frame=J Lq0)
  (k5:∀g,Heap.SlotsOnly ((e1::os).filterMap (·.frame)) s.heap g->Q (.ref Lq0) {s with heap:=g}):aaN M A (PySem.frameOf a) Q E s:=by
 have c:((e1::os).dropWhile fun y=>y.frame != a.frame)=e1::os:=by simp[List.dropWhile,k3,k4]
 delta PySem.frameOf;refine iF<|wpAny_frameEnvs k1 ?_;rw[c];delta frameObject;refine iF<|iF<|wpAny_readyFrames_fun k2 fun g b=>aaG ?_;rw[k3];exact aaG<|k5 g b
theorem uF{A:abF}{E:aft}{Q:Unit->ID->Prop}{x C:aaB}{fl:Option nE}{hd:nE}{hn:Bool}{N:Env}(n:N.frame=J X.env.locals)(m:A.frames=J (X.env::X.outer))(p:X.stack=X.env::X.outer)(S:X.env.frame=J X.env.locals)
  (I:Inv X aa Z H s) (e:ExcAt X aa H s.heap x C fl)
  (q:∀h',Inv X aa Z H {s with heap:=h'}->ExcAt X aa H h' x C (J<|adN X.env.locals)->Q () {s with heap:=h'}):
  aaN (aaO X.prog X.w) A (do let a <-frameOf N;let pl <-entryPlaceOf X.env.locals hn;let b <-aez hd a .none (adN X.env.locals) .none pl;setField (.ref x) 1 b) Q E s:=by
 left;refine Z26 e.ob fun oe vs h1 h2 t j _ _=>?_;right;have F:s.heap.FunFrames X.base<|X.env::X.outer:=by rw[<-p];exact I.stack
 have d:∀b,b∈(X.env::X.outer).filterMap (·.frame)->b=X.env.locals\/b∈X.fs:=fun b c=>by
  rw[adt,S]at c;rcases eQ.mp c with z|z
  .exact .inl z
  .exact .inr z
 have M:x∉(X.env::X.outer).filterMap (·.frame):=fun z=>(d x z).elim e.nx.loc e.nx.fs;refine iF<|DD m F S n fun g T=>?_;obtain⟨g1,g2,g3⟩:=T;refine iF<|wpAny_entryPlaceOf fun pl B=>?_;delta aez newFields;refine iF<|adb ?_<|B.sizeOk5 _ _ _ _ _;generalize k:([hd,.ref X.env.locals,.none,adN X.env.locals,.none]++(if pl.isEmpty then aaA 6 ab8 else pl))=ts;have t3:ts[3]?=J (adN X.env.locals):=by rw[<-k];rfl
 have P:g.get? x=J oe:=(g2 x M).trans h1;generalize D:({cls:=.type "traceback",dict:=U,data:=.fields ts.toArray}:Obj)=tob;have i:tob.data=.fields ts.toArray:=by rw[<-D]
 have u:tob.isFreed=η:=ab1 i;have R:=iN (h:=g) tob P;refine adf R t j.1 ?_;have sz:g.objs.size=s.heap.objs.size:=g1;have O:x≠g.objs.size:=aa0<|aay P;have V:=acz (abO (·.setIfInBounds 1 (abJ g.objs.size))) R<|ab1<|abA t _;have tg:((g.push tob).update x<|abO (·.setIfInBounds 1 (abJ g.objs.size))).get? g.objs.size=J tob:=by
  rw[abX _ _ O];exact aaD _ u
 have f:∀b o,b≠x->g.get? b=J o->((g.push tob).update x<|abO (·.setIfInBounds 1 (abJ g.objs.size))).get? b=J o:=fun b o c z=>by
  rw[abX _ _<|aci c];exact iN _ z
 have W:=I.recs (ch:=[x]) (h':=(g.push tob).update x<|abO (·.setIfInBounds 1 (abJ g.objs.size))) (fun b c=>by rw[IF.mp c];exact⟨e.nx,e.hx⟩)
  (fun b o c K r z=>f b o (fun y=>r<|by simp[y])<|(g2 b fun y=>(d b y).elim c K).trans z)
  (fun b o r z=>by
   obtain⟨l,y⟩:=g3 b o z;exact⟨l,f b _ (fun y=>r (by simp[y])) y⟩)
 have nt:Nw X aa g.objs.size:=Nw.new I (by rw[sz];exact mK _);exact q _ W ⟨e.nx,e.hx,_,_,V,⟨(Obj.cls_mapFields _ _).trans h2.1,(C7 _ _).trans h2.2⟩,abA t _,⟨by simp;exact j.1,fun z=>by simp;exact j.2 z⟩,fun z=>(by cases z),fun v z=>by
  cases z;exact⟨g.objs.size,tob,ts.toArray,by simp[j.1],nt,I.hok.fresh (by rw[sz];exact mK _),aci O,tg,i,by simpa using t3⟩⟩
theorem rV{A:abF}{E:aft}{Q:Unit->ID->Prop}{x C:aaB}{fl:Option nE}{p:Env}(a:p.frame=J X.env.locals)(f:A.frames=J (X.env::X.outer))(g:X.stack=X.env::X.outer)(B:X.env.frame=J X.env.locals)
  (I:Inv X aa Z H s) (e:ExcAt X aa H s.heap x C fl)
  (q:∀h',Inv X aa Z H {s with heap:=h'}->ExcAt X aa H h' x C (J<|adN X.env.locals)->Q () {s with heap:=h'}):aaN (aaO X.prog X.w) A (noteFrame (.ref x) p) Q E s:=by
 refine Z26 e.ob fun D vs h1 h2 j M P N=>?_;cases fl with
 |none=>
  delta noteFrame;rw[a];refine iF<|abn h1 j (P rfl) ?_;rw[afl<|∎];exact uF a f g B I e q
 |some v=>
  refine Z37 (N _ rfl) fun T oT R n u t F i h m=>?_;by_cases K:v=adN X.env.locals
  .subst K;exact wpAny_noteFrame_inFlight a h1 j n i h m<|q s.heap I e
  .delta noteFrame;rw[a];refine iF<|abn h1 j n ?_;have k:(abJ T != ab8)=G:=by rfl
   rw[afk k];refine iF<|abn i h m ?_;have l:¬((v==adN X.env.locals)=G):=fun z=>K<|beq_iff_eq.mp z;rw[afl l];have r:3<R.size:=(adE.mp m).1;refine iF<|adf i h r ?_;have O:=acz (abO (·.setIfInBounds 3 ab8)) i<|ab1<|abA h _;have c:∀b o,b≠T->s.heap.get? b=J o->(s.heap.update T<|abO (·.setIfInBounds 3 ab8)).get? b=J o:=fun b o d z=>by
    rw[abX _ _<|aci d];exact z
   refine uF (fl:=J .none) a f g B (I.recs (ch:=[T]) (fun b d=>?_) (fun b o _ _ d z=>c b o (fun y=>d<|by simp[y]) z) fun b o d z=>⟨o.slots,c b o (fun y=>d<|by simp[y]) z⟩) ⟨e.nx,e.hx,D,vs,c x D (aci F) h1,h2,j,M,fun z=>(by cases z),fun S z=>?_⟩ q
   .rw[IF.mp d];exact⟨u,t⟩
   .cases z;exact⟨T,_,_,n,u,t,F,O,abA h _,by simp[r]⟩
end
def XE(X:Cx)(E:XK)(e:nE)(s':ID):Prop:=∃Z H x C fl,e=.ref x/\Inv X [] Z H s'/\ExcAt X [] H s'.heap x C fl/\E (.ref x) (J C) H
def Fly(mg:afu)(c h:acn)(H:Hp)(x C:aaB):Prop:=c.get? x=U/\H x=U/\∃a vs,h.get? x=J a/\(a.cls=.ref C/\a.dict=U)/\a.data=.fields vs/\(1<vs.size/\(mg Ms≠J (.ref C)->vs[2]?=J .none)) /\
 ∃T oT b,vs[1]?=J (.ref T)/\c.get? T=U/\H T=U/\T≠x/\h.get? T=J oT/\oT.data=.fields b/\b[3]?=J ab8
def oI(P:abf)(w:abh)(mg:afu):Ee:=fun a H s E e s'=>∃x C H',e=.ref x/\s'.os=s.os/\AllBare s'.gens/\Un (Ec a) [] H H' s.heap s'.heap/\nW P w H' s'.heap/\Fly mg s.heap s'.heap H' x C/\E (.ref x) (J C) H'
section
variable{P:abf}{w:abh}{K:aT}{mg:afu}{base:acn}
theorem tm{X:Cx}{E:XK}{e:nE}{s':ID}(b:X.stack=X.env::X.outer)(g:X.env.frame=J X.env.locals)(hx:X.ex=[])(h:XE X E e s'):
  aaN (aaO X.prog X.w) X.A (leaving X.env e) (fun _ a=>oI X.prog X.w X.mg X.outer X.H₀ X.s₀ E e a) (fun k a=>oI X.prog X.w X.mg X.outer X.H₀ X.s₀ E k a) s':=by
 left;refine Z54 h fun Z H' x C fl r0_ I i m=>?_;subst r0_;right;have d:X.A.frames=J (X.env::X.outer):=by rw[<-b];exact I.ok.frames
 delta leaving;refine iF<|rV g d b g I i fun h1 j e1=>?_;refine jL j e1 U fun h2 c f=>?_;left;refine Z26 f.ob fun s vs q p o t _ l=>?_;refine Z34 (l _ rfl) fun T oT u b1 b2 n r=>?_;right;have un:=c.base;rw[hx]at un;exact⟨x,C,H',rfl,c.os,c.bare,un,c.hok,⟨f.nx.base,f.hx,s,vs,q,p,o,t,T,oT,u,b1,b2.base,n,r⟩,m⟩
noncomputable abbrev Cx.may(X:Cx)(E:XK):Cx:=X.wish<|XE X E
theorem Qu{k:Nat}{f:aaB}{name a:Str}{c:Arguments}{g:List abN}{scope:Scope}{n kV i p d o y:nE}{r x:Option aaB}
  {l:Array<|Option nE} {N ps:afr} {sp:Sp} (lk:K.lookup f=J ⟨y,x,.func<|abi name a c g scope n kV i p r d o,l⟩) (j:abP K d a=G) (S:FnScope N ps scope)
  (len:∀vs H Q E,sp vs H Q E->vs.length=ps.length)
  (h:∀(A:abF)(b:List Env)(s:ID)(H:Hp)(vs:afx)(Q:VK)(E:XK),Room k (A.deeper<|ac4 a scope s.heap.objs.size f d)->sp vs H Q E ->
   ∃t,IR ((gw (oI P w mg) P w K mg base N a scope f d A b s H E).may E) g t/\t {nx:=fun _ H'=>Q .non H',rt:=Q} (start N vs) H):
  FnOk P w K mg base (oI P w mg) (k+1) f (abi name a c g scope n kV i p r d o) ps sp:=by
 refine NP lk j S len fun A b s H vs Q E u m=>?_;obtain⟨t,h1,h2⟩:=h A b s H vs Q E u m;exact⟨t,fun aa v Z H1 D I hw=>aaP (h1 aa v Z H1 D (I.wish _) hw) (fun _ _ q=>q.unwish) fun e B z=>tm (X:=gw (oI P w mg) P w K mg base N a scope f d A b s H E) rfl rfl rfl z,h2⟩
theorem Ln{k:Nat}{f:aaB}{name a:Str}{c:Arguments}{g:List abN}{scope:Scope}{p kV i u d r F:nE}{v C:Option aaB}
  {m:Array<|Option nE} {N ps:afr} {sp:Sp} (lk:K.lookup f=J ⟨F,C,.func<|abi name a c g scope p kV i u v d r,m⟩) (j:abP K d a=G) (S:FnScope N ps scope)
  {o:Str} {pr:afr} (y:ps=o::pr) (l:scope.names.lookup o=J .local) (len:∀vs H Q E,sp vs H Q E->vs.length=ps.length)
  (h:∀(A:abF)(b:List Env)(s:ID)(H:Hp)(vs:afx)(Q:VK)(E:XK),Room k (A.deeper<|ac4 a scope s.heap.objs.size f d)->sp vs H Q E ->
   ∃t,IR (((gw (oI P w mg) P w K mg base N a scope f d A b s H E).up 1).may E) g t/\t {nx:=fun _ H'=>Q .non H',rt:=Q} (start N vs) H):
  FnOk P w K mg base (oI P w mg) (k+1) f (abi name a c g scope p kV i u v d r) ps sp:=by
 refine HH lk j S y l len fun A b s H vs Q E x n=>?_;obtain⟨t,h1,h2⟩:=h A b s H vs Q E x n;exact⟨t,fun aa B Z H1 D I hw=>aaP (h1 aa B Z H1 D (I.wish _) hw) (fun _ _ q=>q.unwish) fun e M z=>tm (X:=(gw (oI P w mg) P w K mg base N a scope f d A b s H E).up 1) rfl rfl rfl z,h2⟩
end
section
variable{X:Cx}{aa:afs}{Z:St}{H:Hp}{s s':ID}{E:XK}{e:nE}
theorem KL{k:Nat}{f:aaB}{fd:abI}{ps:afr}{sp:Sp}{Q:VK}{us:afw}{vs:afx}(F:FnOk X.prog X.w X.K X.mg X.base (oI X.prog X.w X.mg) k f fd ps sp)(g:Room k X.A)(l:cf X.K fd ps [])
  {d:aft} (i:∀e s',X.tn<=s'.toks->oI X.prog X.w X.mg X.stack H s E e s'->d e s') (I:Inv X aa Z H s) (r:aU vs us) (h:sp vs H Q E):aaN (aaO X.prog X.w) X.A (call (.ref f) us) (EP X aa Z Q) d s:=by
 have j:(us++[]).length=ps.length:=by rw[aaJ,<-r.length];exact F.len _ _ _ _ h
 have b:=l s us I.kIn j;rw[aaJ]at b;refine wpAny_call<|dk I.tk<|acV (F.run X.A X.stack s H ⟨us,[]⟩ us vs Q E g I.env0 b r h) fun r s' a c=>?_;cases r with
 |error e=>exact i e s' c a
 |ok fl=>
  cases fl with
  |ret u=>exact I.after a
  |next=>exact a.elim
  |brk=>exact a.elim
  |cont=>exact a.elim
end
section
variable{X:Cx}{E:XK}
theorem Lm{K:aT}{h:acn}{C:aaB}{d:afw}{a:String}(f:K.In h)(q:acF K C d a=G):
  ∃bm N nm qn bs hdct sn sub ab col dd k0 k1 k2 k3 k5 mN,h.get? C=J (excClassObj nm qn C N bs bm hdct sn sub ab col dd k0 k1 k2 k3 k5 a)/\h.Ns N mN/\mN "__init__"=U/\OwnTail h d bm:=by
 delta acF at q;split at q
 .rename_i dd cd sl ho;split at q
  .rename_i C' bm k0 k1 k2 k3 n k5 hm hs;simp only[oR,beq_iff_eq,abg]at q;left;obtain⟨⟨⟨⟨⟨e1,j⟩,b⟩,i⟩,c⟩,e⟩:=q;subst e1 j;cases cd;right;dsimp only at hm b c e;subst hm b;have g:sl=⟨[k0,k1,k2,k3,J<|.builtin n,k5]⟩:=by rw[<-hs]
   subst g;exact⟨bm,_,_,_,_,_,_,_,_,_,dd,k0,k1,k2,k3,k5,_,f _ _ ho,.of_isNs<|PySem.W.isNs_of_in f c,PySem.W.nsMap_none_of_in f c e,PySem.W.tail_of_in f i⟩
  .cases q
 .cases q
abbrev Gj:afw:=[.type "ValueError",.type "Exception",.type "BaseException",.type "object"]
def ZB(C:aaB)(E:XK)(t:TA):TS:=fun _ Z H=>t Z H fun vs H1=>vs.length<=10/\∀x,E (.ref x) (J C) H1
theorem DH{j:Str}{C:aaB}{S cpos pos:Pos}{a:aa1}{as:List aa1}{t:TA}(A:X.mg j=J (.ref C))(M:acF X.K C Gj "ValueError.__new__"=G)(R:X.calm=G)(Q:qQ X)(T:PA (X.may E) (a::as) t)
  (F:Gl X j) (n:(j==("__debug__":Str))=η) (h1:(a::as).all al=G):PS (X.may E) (.Raise (J<|.Call (.Name j S) (a::as) [] cpos) U pos)<|ZB C E t:=by
 intro aa s Z H D I h;have V:al a=G:=by simp only[aa5,oR]at h1;exact h1.1
 have W:as.all al=G:=by simp only[aa5,oR]at h1;exact h1.2
 left;obtain⟨bm,N,nm,qn,bs,hdct,sn,sub,ab,col,dd,k0,k1,k2,k3,k5,mN,O,P,m,w⟩:=Lm I.ok.mod.kin M;right;have p:∀{i:ID}{l:St}{g:Hp},Inv (X.may E) aa l g i->∀b o,X.base.get? b=J o->i.heap.get? b=J o:=fun d b o e=>(d.bs b o e).1;refine wpAny_Raise_call_subU (C:=C) (nm:=nm) (q:=qn) (N:=N) (bs:=bs) (bm:=bm) (hdct:=hdct) (sn:=sn) (sub:=sub) (ab:=ab) (col:=col) (dd:=dd) (k0:=k0) (k1:=k1) (k2:=k2) (k3:=k3) (k5:=k5) (mN:=mN)
  acI ⊤ acI (w.hasType acI.hasBase) (I.ok.hd R) (bH h1) m (dD I F A ⟨rfl,?_⟩ n)
 have hs:=T cpos aa s Z H _ I h;rw[bC V]at hs⊢;refine acJ<|aaP hs (fun us i q_=>Z24 q_ fun vs g I2 r2 hl hE=>?_) fun _ _ z=>z;refine⟨rfl,?_,p I2 _ _ O,P.keeps<|p I2,w.keeps<|p I2,fun h' x k=>?_⟩
 .show us.length<=aaL;rw[<-r2.length,abB];exact RW hl ∅
 .have d:=I2.unwish;have y:Inv X aa Z g {i with heap:=h'}:=d.kept (t':=i.toks) fun b o e=>k.keeps b o e;refine Z13 k.there fun tp B _ _=>?_;have f:g x=U:=by
   cases q:g x with
   |none=>rfl
   |some u=>
    have c:=d.hok x u q;obtain⟨o,r⟩:∃o,i.heap.get? x=J o:=by
     cases u<;>first
      |(obtain⟨_,_,_,_,e⟩:=c;exact⟨_,e⟩)
      |(obtain⟨_,_,_,o,e,_⟩:=c;exact⟨o,e⟩)
      |(obtain⟨_,_,_,_,o,_,_,e,_⟩:=c;exact⟨o,e⟩)
      |(refine Z42 c fun o _ _ _ e _=>?_;exact⟨o,e⟩)
      |(refine Z05 c fun _ _ _ e _=>?_;exact⟨_,e⟩)
      |(obtain⟨o,e⟩:=c;exact⟨o,e⟩)
      |(obtain⟨_,⟨o,_,_,e,_⟩,_⟩:=c;exact⟨o,e⟩)
      |(obtain⟨_,_,_,e⟩:=c;exact⟨_,e⟩)
      |(obtain⟨e,_⟩:=c;exact⟨_,e⟩)
      |exact⟨_,c⟩
      |(obtain⟨_,e,_⟩:=c;exact⟨_,e⟩)
      |(obtain⟨_,⟨o,e⟩,_⟩:=c;exact⟨o,e⟩)
    rw[k.new]at r;cases r
  exact⟨Z,g,x,C,U,rfl,y.less,⟨(Nw.gone d Q k.new).less,f,_,_,B,⟨rfl,rfl⟩,rfl,⟨∅,fun _=>rfl⟩,fun _=>rfl,fun v z=>(by cases z)⟩,hE x⟩
end
def spX(K:aT)(mg:afu)(F:afy->R D):Sp:=fun vs H Q E=>∃as ds,(∀a∈as,H a≠U)/\ay K (aj as H) ds vs/\cP ⟨K,mg,E⟩ as H (F ds) Q
section
variable{P:abf}{w:abh}{K:aT}{mg:afu}{base:acn}
theorem Kh{φ:FS}{N ps:afr}{O':afq}{vs:afx}{H:Hp}{Q:VK}{E:XK}(h:spX K mg (gx φ N ps) vs H Q E):sD ⟨K,mg,E⟩ [] [] O' φ {nx:=fun _ H'=>Q .non H',rt:=Q} (start N vs) H:=by
 obtain⟨as,ds,ex,b,h⟩:=h;delta gx at h;cbv
 .rename_i hl;refine⟨as,H,[],gd N ds,⟨?_,rfl,aby,aby,fun a g=>(nomatch g),ex,ah.refl _,fun i d _ e=>?_,fun i a h=>(by simp at h)⟩,?_⟩
  .delta gd start;simp[b.len]
  .unfold gd at e;delta start;rw[<-b.len];exact mZ b e
  .cases hr:φ (gd N ds)with
   |ok fl=>
    rw[hr]at h;cases fl with
    |rt d=>exact fun v H' s c=>h v H' s c
    |rn d=>exact fun p o H' s f e j=>h (.ref p) H' s<|j.den (fun z=>ex p z f) e
    |nx Y=>exact fun own Z H' I=>h .non H' I.same rfl
    |bk Y=>mleft
    |ct Y=>mleft
   |er x=>rw[hr]at h;exact fun e C H' s=>h e C H' s
   |no=>rw[hr]at h;mleft
 .mleft
end
section
variable{X:Cx}{W:Wd}{O:afq}{φ:FE}
def tFs(c:Str)(ta:TE):TE:=fun Z H Q=>ta Z H fun v H1=>∃z,v=.str z/\c.length+10*z.length+2<=1000000/\(∀k∈z.cps.toList,k<16^8)/\Q (.str<|c++reprText z) H1
theorem empty_app(c:Str):acX++c=c:=by
 obtain⟨a⟩:=c;show(⟨#[]++a⟩:Str)=⟨a⟩;simp
theorem J7{c:Str}{j:Nat}{p1 p2 pos:Pos}{a:aa1}{ta:TE}(r:PE X a ta)(i:c.length<=1000):PE X (.JoinedStr [.Constant (.str c) j p1,.FormattedValue a 114 U p2] pos)<|tFs c ta:=by
 intro aa s Z H Q I h;refine wpAny_JoinedStr ?_;refine acu (k:=j) (pos:=p1) ⟨c,s.toks,rfl,?_,?_⟩
 .rw[empty_app,abB];exact RW i ∅
 have m:Inv X aa Z H {s with toks:=s.toks+1}:=I.tok<|s.toks+1;refine wpAny_FormattedValue_repr<|bP (r aa _ Z H _ m h) fun v d o=>jZ o fun x H1 f r1 q1=>?_;obtain⟨z,rfl,w,p,q⟩:=q1;obtain⟨tk,rfl⟩:=r1;have u:=StrLaws.reprText_len z p;refine wpAny_pyReprObj_str ?_ (by rw[abB];lia);have fin:∀(b:Nat)(g:Tok),X.tn<=b->∃y t,Value.str (reprText z) g=.str y t/\(acX++c++y).length<=aaL/\(acX++c++y).length<=aaL/\EP X aa Z Q (.str (acX++c++y) b) {d with toks:=b+1}:=fun b g n=>by
  have e:acX++c++reprText z=c++reprText z:=by rw[empty_app]
  have l:(acX++c++reprText z).length<=aaL:=by
   rw[e,strLen_append,abB];lia
  exact⟨_,g,rfl,l,l,.str<|c++reprText z,H1,f.tok (b+1)<|aa3 n,⟨b,by rw[e]⟩,q⟩
 refine wpAny_formatField_str ?_ ?_ (by rw[abB];lia)
 .exact fin (d.toks+1) d.toks (aa3 f.tk)
 .exact fin (d.toks+1+1) (d.toks+1) (aa3<|aa3 f.tk)
def aak(c:Str)(φ:FE):FE:=fun Y=>(φ Y).bind fun d=>match d with
 |.str z=>if c.length+10*z.length+2<=1000000/\(∀k∈z.cps.toList,k<16^8)then .ok (.str<|c++reprText z)else .no
 |_=>.no
theorem Rb{c:Str}{j:Nat}{p1 p2 pos:Pos}{a:aa1}(f:JE X a<|tD W O φ)(b:c.length<=1000:=by trivial):JE X (.JoinedStr [.Constant (.str c) j p1,.FormattedValue a 114 U p2] pos)<|tD W O<|aak c φ:=
 (JE.mk<|J7 (c:=c) (j:=j) (p1:=p1) (p2:=p2) (pos:=pos) f.out b).imp fun Z H Q d=>dQ d fun as0 B own Y I h=>⟨as0,B,own,Y,I,aY h fun x v H1 g e h1=>by
  split at h1
  .subst e;split at h1
   .rename_i hl;exact⟨_,rfl,hl.1,hl.2,ax h1 rfl⟩
   .exact h1.elim
  .exact h1.elim⟩
end
noncomputable abbrev Cx.hand(X:Cx)(e:nE):Cx:={X with A:=X.A.mark<|J e,calm:=η}
section
variable{X:Cx}{aa:afs}{Z:St}{H:Hp}{s:ID}{e:nE}
theorem Inv.hand(I:Inv X aa Z H s)(e:nE):Inv (X.hand e) aa Z H s:=
 ⟨⟨I.ok.mod,I.ok.kind,I.ok.glob,I.ok.blt,I.ok.above,I.ok.inj,I.ok.has,I.ok.cab,(fun z=>nomatch z),I.ok.frames,I.ok.stk,I.ok.exf,I.ok.bs,I.ok.bsz,I.ok.noex,I.ok.exfs,I.ok.funs,I.ok.frf⟩,I.os,I.bare,I.base,I.loc,I.cell,I.free,I.freeC,I.pin,I.hok,I.len,I.tk⟩
theorem Inv.unhand(ok:X.Ok)(I:Inv (X.hand e) aa Z H s):Inv X aa Z H s:=⟨ok,I.os,I.bare,I.base,I.loc,I.cell,I.free,I.freeC,I.pin,I.hok,I.len,I.tk⟩
theorem SP.unhand(ok:X.Ok){D:Ends}{f:Flow}{s':ID}(h:SP (X.hand e) aa D f s'):SP X aa D f s':=by
 cases f with
 |next=>obtain⟨a,H',I,q⟩:=h;exact⟨a,H',I.unhand ok,q⟩
 |brk=>obtain⟨a,H',I,q⟩:=h;exact⟨a,H',I.unhand ok,q⟩
 |cont=>obtain⟨a,H',I,q⟩:=h;exact⟨a,H',I.unhand ok,q⟩
 |ret u=>obtain⟨v,a,H',I,r,q⟩:=h;exact⟨v,a,H',I.unhand ok,r,q⟩
end
section
variable{Z:St}{s:ID}
theorem ExcAt.inst{h:acn}{y C:aaB}{fl:Option nE}(e:ExcAt X aa H h y C fl):∃c,afi h y c C U:=by
 obtain⟨b,vs,h1,⟨h2,a⟩,d,_⟩:=e.ob;exact⟨b,h1,h2,by delta PySem.W.notCls;rw[d],by rw[a];trivial⟩
end
section
variable{Z:St}
theorem Cz{E:aft}{fl:Option nE}(c:X.stack=X.env::X.outer)(k:X.env.frame=J X.env.locals)(m:X.mg T=J (.ref CT))(p:aes X.K (.ref C) (.ref CT)=J G)(o:Gl X T)(i:(T==("__debug__":Str))=η)
  (I:Inv X aa Z H s) (e:ExcAt X aa H s.heap y C fl)
  (a:∀h' t',Inv X aa Z H {s with heap:=h',toks:=t'}->ExcAt X aa H h' y C (J .none)->aaN (aaO X.prog X.w) (X.A.mark<|J<|.ref y) (execs (b₀::bs) X.env) Q (fun _ _=>False) {s with heap:=h',toks:=t'}):
  aaN (aaO X.prog X.w) X.A (noteFrame (.ref y) X.env) (fun _ d=>aaN (aaO X.prog X.w) X.A (setFlight (.ref y) U) (fun _ b=>aaN (aaO X.prog X.w) X.A (handleBy (.ref y) X.env [.ExceptHandler (J<|.Name T tp) U (b₀::bs) hpos]) Q E b) E d) E s:=by
 have g:X.A.frames=J (X.env::X.outer):=by rw[<-c];exact I.ok.frames
 refine rV k g c k I e fun h1 n e1=>?_;refine jL n e1 U fun h2 h l=>?_;have j:=h.hand<|.ref y;refine wpAny_handleBy_cons (codeAny_handlers_test<|dD j o m ?_ i) (by intro q;cases q);obtain⟨x,v⟩:=l.inst;refine(PySem.W.exm_one (M:=aaO X.prog X.w) h.kIn v.type p).at ?_;show ad0 _ _ _ _ _;refine codeAny_handlers_suite ?_;refine jL (A:=X.A.mark<|J<|.ref y) h l U fun u t r=>?_;exact aaP (a u _ t r) (fun f B z=>z) fun _ _ z=>z.elim
end
section
variable{X:Cx}{K:aT}{mg:afu}{E1:XK}{Ob O O':afq}{fn:Str}{st:abN}{ps:afr}{f:aaB}{fd:abI}{j k i n:Nat}{F:afy->R D}{p pos apos xp tp hpos tpos:Pos}{e:aa1}{es:List aa1}{α:FA}{x T nm:Str}{CT:aaB}{mt:Str->Bool}
 {b₀:abN} {bs:List abN} {ψ:FS}
def LL(K:aT)(mg:afu)(mt:Str->Bool)(CT:aaB):Prop:=∀x C,mt x=G->mg x=J (.ref C)->DO K By x=J (J<|.ref C)/\aes K (.ref C) (.ref CT)=J G
end
abbrev nsC(K:aT)(x:Str)(C:aaB):Prop:=DO K By x=J (J<|.ref C)
section
variable{W:Wd}
theorem T3{O:afq}{p:Pos}(b:X.mg x=J (.ref C))(d:nsC W.K x C)(c:autoParam (Gl X x) Xaz)(a:autoParam (afz x) Xax):JE X (.Name x p)<|tD W O<|vC<|.cls x:=
 ⟨by rintro aa s Z H Q I⟨as0,B,own,Y,_,h⟩;exact dD I c b ⟨.ref C,H,I,rfl,h _ H (ah.refl _) ⟨C,rfl,d⟩⟩ a⟩
end
def JD(l:afr):Str->Bool:=fun x=>decide (x∈l)
structure RoomU(k:Nat)(A:abF):Prop where
 dp:A.depth+3*k+5<adS
 un:A.units+16*k+200<cLine
theorem RoomU.mono{j k:Nat}{A:abF}(r:RoomU k A)(h:j<=k):RoomU j A:=⟨by have:=r.dp;lia,by have:=r.un;lia⟩
theorem RoomU.deeper{k:Nat}{A:abF}(r:RoomU (k+1) A)(env:Env):RoomU k<|A.deeper env:=
 ⟨by have:=r.dp;show A.depth+1+3*k+5<_;lia,by have:=r.un;show A.units+3+16*k+200<_;lia⟩
theorem RoomU.depth{k:Nat}{A:abF}(r:RoomU k A):A.depth<adS:=by have:=r.dp;lia
theorem Room.u{k:Nat}{A:abF}(r:Room k A)(e:nE):RoomU k<|A.mark<|J e:=⟨r.dp,r.un⟩
structure FnOkU(P:abf)(w:abh)(K:aT)(mg:afu)(base:acn)(CX:Ee)(k:Nat)(f:aaB)(fd:abI)(ps:afr)(sp:Sp):Prop where
 len:∀vs H Q E,sp vs H Q E->vs.length=ps.length
 run:∀(A:abF)(outer:List Env)(s:ID)(H:Hp)(args:Args)(us:afw)(vs:afx)(Q:VK)(E:XK),RoomU k A->Env0 P w K mg base A outer s H->BindsTo s fd args (ps.zip us)->aU vs us->sp vs H Q E ->
  ad0 (aaO P w) A (.call (.ref f) args) (CR CX outer P w H s Q E) s
abbrev VU(CX:Ee)(P:abf)(w:abh)(K:aT)(mg:afu)(base:acn)(N:afr)(b:Str)(scope:Scope)(f:aaB)(c:nE)(A:abF)(a:List Env)(s:ID)(H:Hp)(E:XK):Cx:=
 {gw CX P w K mg base N b scope f c A a s H E with calm:=η}
section
variable{P:abf}{w:abh}{K:aT}{mg:afu}{base:acn}
theorem OG{CX:Ee}{k:Nat}{f:aaB}{name d:Str}{i:Arguments}{j:List abN}{scope:Scope}{W kV B pm h X oc:nE}{an od:Option aaB}
  {O:Array<|Option nE} {N ps:afr} {sp:Sp} (lk:K.lookup f=J ⟨oc,od,.func<|abi name d i j scope W kV B pm an h X,O⟩) (D:abP K h d=G) (S:FnScope N ps scope)
  (len:∀vs H Q E,sp vs H Q E->vs.length=ps.length)
  (m:∀(A:abF)(a:List Env)(s:ID)(H:Hp)(vs:afx)(Q:VK)(E:XK),RoomU k (A.deeper<|ac4 d scope s.heap.objs.size f h)->sp vs H Q E ->
   ∃t,IR (VU CX P w K mg base N d scope f h A a s H E) j t/\t {nx:=fun _ H'=>Q .non H',rt:=Q} (start N vs) H):
  FnOkU P w K mg base CX (k+1) f (abi name d i j scope W kV B pm an h X) ps sp:=by
 refine⟨len,fun A a s H T us vs Q E R e0 hb r C=>?_⟩;have hl:=len _ _ _ _ C;have KX:K.In s.heap:=e0.mod.kin.keeps fun b o e=>(e0.bs b o e).1;have M:s.heap.NoLimit:=e0.mod.nolimit.keeps fun b o e=>(e0.bs b o e).1;have p:∀y∈ps.zip us,scope.names.lookup y.1=J .local\/(scope.names.lookup y.1=J .cell/\((cellsFrom (s.heap.objs.size+1) scope.names []).lookup y.1).isSome=G):=fun⟨n,v⟩hy=>by
  rcases S.par n (aaZ hy).1 with q|q
  .exact .inl q
  .exact .inr ⟨q,acs _ _ _<|.inl q⟩
 refine codeAny_call_function R.depth (KX _ _ lk) rfl S.co S.gen rfl (adK KX D) (hb _ _ _ _ ?_);refine wpAny_newFunctionEnv_cells S.kind p fun env he s1 x=>?_;subst he;refine⟨M.keeps x.toInCall.keep,codeAny_func ?_⟩;obtain⟨t,ht,hq⟩:=m A a s H vs Q E (R.deeper _) C;have e1:Env0 P w K mg base {A with handled:=U} a s H:=⟨e0.frames,e0.mod,e0.bs,e0.bsz,e0.funs,e0.frf,e0.hok,e0.bare⟩;have c:Inv (gw CX P w K mg base N d scope f h {A with handled:=U} a s H E) [] (start N vs) H s1:=oQ S rfl e1 hl r x;have I:Inv (VU CX P w K mg base N d scope f h A a s H E) [] (start N vs) H s1:=
  ⟨⟨c.ok.mod,c.ok.kind,c.ok.glob,c.ok.blt,c.ok.above,c.ok.inj,c.ok.has,c.ok.cab,(fun z=>nomatch z),c.ok.frames,c.ok.stk,c.ok.exf,c.ok.bs,c.ok.bsz,c.ok.noex,c.ok.exfs,c.ok.funs,c.ok.frf⟩,c.os,c.bare,c.base,c.loc,c.cell,c.free,c.freeC,c.pin,c.hok,c.len,c.tk⟩
 refine aaP (ht [] s1 (start N vs) H _ I hq) (fun fl s' hs=>?_) fun e s' hs=>hs;have fin:∀{l:St}{H':Hp}{v:V}{u:nE},Inv (VU CX P w K mg base N d scope f h A a s H E) [] l H' s'->aP v u->Q v H'->CE a P w H s Q u s':=
  fun{l H' v u}g F q=>⟨v,H',g.os,g.bare,g.base,g.hok,F,q⟩
 cases fl with
 |ret u=>
  refine Z33 hs fun v l H' g F q=>?_;exact fin g F q
 |next=>
  obtain⟨l,H',g,q⟩:=hs;exact fin (v:=V.non) (u:=ab8) g rfl q
 |brk=>
  obtain⟨_,_,_,q⟩:=hs;exact abD q
 |cont=>
  obtain⟨_,_,_,q⟩:=hs;exact abD q
theorem Fun.okU{x b:Str}{st:abN}{f:aaB}{fd:abI}{N ps:afr}{k:Nat}{φ:FS}{O':afq}(F:Fun K x b st f fd)(S:FnScope N ps<|ai st)
  (d:∀(c:nE)(A:abF)(a:List Env)(s:ID)(H:Hp)(E:XK),RoomU k (A.deeper<|ac4 b (ai st) s.heap.objs.size f c) ->
   JB (VU lD P w K mg base N b (ai st) f c A a s H E).nox (bL st) (sD ⟨K,mg,E0⟩ [] [] O' φ)):FnOkU P w K mg base lD (k+1) f fd ps (rj K mg (gx φ N ps)):=by
 left;obtain⟨t,y,kV,l,r,u,c,p,o,rfl,lk,g⟩:=F.ex';right;refine OG lk g S (fun vs H Q E h=>(fun vs H Q E h=>by
   obtain⟨as,ds,ex,n,h⟩:=h;delta gx at h;cbv
   .rename_i hl;rw[<-n.len];exact hl
   .mleft) vs H Q E0 h) fun A a s H vs Q E j i=>⟨_,fun aa m Z H1 D I hw=>?_,Kh (E:=E0) (O':=O') i⟩
 exact aaP ((d c A a s H E j).out aa m Z H1 D (I.wish _) hw) (fun _ _ q=>q.unwish) fun e v z=>z.elim
end
section
variable{X:Cx}{K:aT}{mg:afu}{O:afq}{x:Str}{st:abN}{ps:afr}{f:aaB}{fd:abI}{j k:Nat}{F:afy->R D}{p pos:Pos}{e:aa1}{es:List aa1}{α:FA}
theorem LZ{aa:afs}{Z:St}{H:Hp}{s:ID}{sp:Sp}{Q:VK}{us:afw}{vs:afx}(F:FnOkU X.prog X.w X.K X.mg X.base lD k f fd ps sp)(c:RoomU k X.A)(i:cf X.K fd ps [])
  (I:Inv X aa Z H s) (r:aU vs us) (h:sp vs H Q E0):aaN (aaO X.prog X.w) X.A (call (.ref f) us) (EP X aa Z Q) X.xe s:=by
 have g:(us++[]).length=ps.length:=by rw[aaJ,<-r.length];exact F.len _ _ _ _ h
 have b:=i s us I.kIn g;rw[aaJ]at b;refine wpAny_call<|dk I.tk<|acV (F.run X.A X.stack s H ⟨us,[]⟩ us vs Q E0 c I.env0 b r h) fun r s' a d=>?_;cases r with
 |error e=>exact a.elim
 |ok fl=>
  cases fl with
  |ret u=>exact I.after a
  |next=>exact a.elim
  |brk=>exact a.elim
  |cont=>exact a.elim
theorem KH(D:Def X.K X.mg x st ps f fd)(Gq0:FnOkU X.prog X.w X.K X.mg X.base lD j f fd ps<|rj K mg F)(i:RoomU k X.A)(t:JA X (e::es)<|zx ⟨K,mg,E0⟩ O α)(u:autoParam (j<=k) Xax)(l:autoParam (Gl X x) Xaz)(a:autoParam (afz x) Xax)
  (h1:autoParam (al e=G) Xaz) (h2:autoParam (es.all al=G) Xaz):JE X (.Call (.Name x p) (e::es) [] pos)<|tD ⟨K,mg,E0⟩ O<|aI F α:=by
 refine⟨fun aa s Z H Q I q_=>Z42 q_ fun as0 B own Y DIh h=>?_⟩;refine abc<|dD I l D.m ?_ a;have c:zx ⟨K,mg,E0⟩ O α Z H fun vs H1=>rj K mg F vs H1 Q E0:=⟨as0,B,own,Y,DIh,e9 h fun ds vs H1 g o h1=>⟨own++as0,ds,(DIh.mono g).exi,o,h1⟩⟩;refine abK (h₀:=X.base) I.ok.mod.kin D.F.kp (bP (t.out pos aa s Z H _ I c) fun us g n=>jZ n fun vs H1 d r q=>⟨d.kIn,?_⟩) (bC h1)<|bH h2;exact LZ Gq0 (i.mono u) D.b d r q
end
section
variable{X:Cx}{W:Wd}
def Ww(f:Str->Str->Int->V)(z:Str)(xs:afx)(H:Hp)(Q:VK):Prop:=match xs with
 |[.str y,.int i]=>Q (f z y i) H
 |_=>False
noncomputable def QL(f:Str->Str->Int->D)(z:Str)(ds:afy):R D:=match ds with
 |[.str y,.int i]=>.ok<|f z y i
 |_=>.no
def Al(z y:Str)(i:Int):Int:=match acj z y (fromIndex z.length i) z.length 1 with
 |k::_=>(k:Int)
 |[]=>-1
def HV(z y:Str)(i:Int):Bool:=fromIndex z.length i+y.length<=z.length&&Builtin.Str.subAt z y (fromIndex z.length i)
theorem YW{f:Str->Str->Int->V}{g:Str->Str->Int->D}(a:∀x y i K H,bQ K H (g x y i)<|f x y i):V7 W (Ww f)<|QL g:=by
 intro as H z xs ds Q e d h;delta QL at h;cbv
 .obtain⟨v,u,rfl,c,b⟩:=BB d;subst c;subst b;exact ax h<|a _ _ _ _ _
 .mleft
end
section
variable{X:Cx}{W:Wd}{Ob O:afq}{e:aa1}{ε:FE}{pos:Pos}
noncomputable def UG(i:Nat)(Y:Sd)(a:Int)(d:D):R Fl:=match d with
 |.int b=>.ok<|.nx<|Y.set i<|J<|.int<|a+b
 |_=>.no
def lz(i:Nat)(ε:FE):FS:=fun Y=>match Y[i]? with
 |some (J<|.int a)=>(ε Y).bind<|UG i Y a
 |_=>.no
theorem DZ{pos':Pos}(c:i∉O)(j:X.N.Nodup)(k:Loc X.env.scope x)(l:JE X e<|tD W O ε)(f:autoParam (X.N[i]?=J x) Xaz)(m:autoParam (X.fn x=G\/X.env.scope.names.lookup x=J .local) Xbx):
  JS X (.AugAssign (.Name x pos') .Add e pos) (sD W Ob O O<|lz i ε):=
 (JS.mk<|Og j f k l.out (Qx fun _ _ _ _ _ _ _ q=>iadd_int q) m).imp fun D' Z H g=>dQ g fun as0 B own Y I h=>by
  delta lz at h;cbv
  .rename_i a ha;obtain⟨v,hv,dv⟩:=I.var i _ c ha
   subst dv;refine⟨.int a,hv,as0,B,own,Y,I,cO I h fun d v H' s b h'=>?_⟩;unfold UG at h';split at h'
   .subst b;exact⟨_,_,rfl,rfl,h' own _ H'<|(I.mono s).set c rfl⟩
   .exact h'.elim
  .mleft
end
mutual
def noL:D->Bool
 |.non=>G
 |.bl _=>G
 |.int _=>G
 |.str _=>G
 |.ty _=>G
 |.tup xs=>JZ xs
 |_=>η
def JZ:afy->Bool
 |[]=>G
 |d::r=>noL d&&JZ r
end
def CJ(o:Option HO):Prop:=∀xs,o≠J (.tup xs)/\∀u,o≠J (.frz u<|.tup xs)
section
variable{K:aT}{H:Hp}{as as2:afv}
mutual
theorem bQ.lend(h:∀b∈as,b∈as2\/CJ (H b)):∀{d:D}{v:V},noL d=G->bQ K (aj as2 H) d v->bQ K (aj as H) d v
 |.non,_,_,g=>g
 |.bl _,_,_,g=>g
 |.int _,_,_,g=>g
 |.str _,_,_,g=>g
 |.ty _,_,_,g=>g
 | .tup ds,v,e,⟨a,xs,e1,h1,h2⟩=>⟨a,xs,e1,by
   rcases h1 with h1|h1
   .refine .inl ?_;have c:a∉as2:=fun z=>by rcases h1 with h1|⟨o,h1⟩<;>(rw[bT z]at h1;cases h1)
    have f:a∉as:=fun z=>by
     rcases h a z with q|q
     .exact c q
     .rcases h1 with h1|⟨o,h1⟩
      .rw[av c]at h1;exact(q xs).1 h1
      .rw[av c]at h1;exact(q xs).2 o h1
    rcases h1 with h1|⟨o,h1⟩
    .rw[av c]at h1;exact .inl (by rw[av f];exact h1)
    .rw[av c]at h1;exact .inr ⟨o,by rw[av f];exact h1⟩
   .exact .inr h1,ay.lend h e h2⟩
 |.lst _,_,e,_=>by cases e
 |.dct _,_,e,_=>by cases e
 |.obj _ _,_,e,_=>by cases e
 |.exn _,_,e,_=>by cases e
 |.cls _,_,e,_=>by cases e
 |.lsm _,_,e,_=>by cases e
 |.dcf _,_,e,_=>by cases e
theorem ay.lend(h:∀b∈as,b∈as2\/CJ (H b)):∀{ds:afy}{vs:afx},JZ ds=G->ay K (aj as2 H) ds vs->ay K (aj as H) ds vs
 |[],_,_,g=>g
 |d::ds,_,e,⟨v,vs,e1,h1,h2⟩=>by
  have a:=ab7.mp e;exact⟨v,vs,e1,bQ.lend h a.1 h1,ay.lend h a.2 h2⟩
end
end
end L2
namespace L2
open PySem PySem.Spec PyProof.Rows PySem.Builtin PySem.Builtin.Str
section
variable{X:Cx}{W:Wd}{O:afq}{o e:aa1}{es:List aa1}{φ:FE}{α:FA}{apos cpos:Pos}
theorem JR(K:aT){i:Nat}{x:Str}{p1:Pos}(l:i∈O)(s:JE X o<|tD W O φ)(n:autoParam (X.N[i]?=J x) Xaz)(u:autoParam (m6 X.env.scope x) Xcz)(hd:autoParam (afz x) Xax)(g:autoParam ((x==("__classdict__":Str))=η) Xax)
  (f:autoParam (aaF o "join" X.env (eval o X.env)=eval o X.env) Xaz) (c:autoParam ((apos.endLine==cpos.line)=G) Xaz) (q:autoParam (X.K=K) Xaz) (A:autoParam (W.K=K) Xaz):
  JE X (.Call (.Attribute o "join" apos) [.Name x p1] [] cpos) (tD W O<|DN kF φ<|ak (ag i) aQ):=
 (UE aea aeb (Bf K q) s (bU (jv i n u hd g) eD) f c rfl (by show 1<29;simp)).imp fun Z H Q m=>dQ m fun as0 B own Y I h=>⟨as0,B,own,Y,I,aY h fun y v H1 p r h1=>by
  cases y with
  |str z=>
   subst r;obtain⟨a,t⟩:=fT I.olen l;refine Z24 (I.owns i a t) fun d o' q1 q2 w j=>?_;show m8 Z[i]? H1 _;rw[q2];have e:ak (ag i) aQ Y=.ok [d]:=by delta ak ag;rw[q1];rfl
   have h2:cP W (own++as0) H1 ((ak (ag i) aQ Y).bind fun ds=>kF z ds) Q:=h1;rw[e]at h2;have b:cP W (own++as0) H1 (kF z [d]) Q:=h2;cases d with
   |lst ds=>
    obtain⟨xs,rfl,k⟩:=j;delta kF at b;dsimp only at b;split at b
    .rename_i ys ey;split at b
     .rename_i hl;refine⟨ys,?_,RW hl<|∅,ax b rfl⟩;rw[<-oU k ey];exact gr.of<|p _ _ w
     .exact b.elim
    .exact b.elim
   |_=>first|exact j.elim|exact b.elim
  |_=>exact h1.elim⟩
end
end L2
namespace L2
open PySem PySem.Spec PyProof.Rows
theorem qS.look{K:aT}:∀{fs:List<|Str×D}{xs:List<|Str×V}{d:D},qS K H fs xs->fs.lookup f=J d->∃v,xs.lookup f=J v/\bQ K H d v
 |[],_,_,h,e=>by cases e
 |(g,d')::r,_,d,⟨v,vs,e0,h1,h⟩,e=>by
  subst e0;rw[aaQ]at e⊢;cases q:f==g with
  |true=>mright
  |false=>rw[q]at e;exact qS.look h e
noncomputable def Fb(n f:Str)(d:D):R D:=match d with
 |.obj m fs=>if m=n then(match fs.lookup f with
  |some d=>.ok d
  |none=>.no)else .no
 |_=>.no
def iw(n f:Str)(φ:FE):FE:=fun Y=>(φ Y).bind<|Fb n f
section
variable{pos p:Pos}
theorem Nn(K:aT)(o:DO K By n=J (J<|.ref C))(l:Cls K C)(q:a9 K C f)(r:JE X e<|tD W O φ)(s:autoParam (aaF e f X.env (eval e X.env)=eval e X.env) Xaz)(k:autoParam (X.K=K) Xaz)(b:autoParam (W.K=K) Xaz):
  JE X (.Attribute e f pos) (tD W O<|iw n f φ):=
 JE.imp ⟨AO r.out s⟩ fun Z H Q j=>dQ j fun as0 B own Y I h=>⟨as0,B,own,Y,I,aY h fun x v H1 t c h1=>by
  subst k;left;cases x with
  |obj m fs=>
   by_cases e:m=n
   .subst e;delta Fb at h1;dsimp only at h1;rw[afk rfl]at h1;rw[b]at c;obtain⟨a,u,i,xs,rfl,h2,p,g⟩:=c;rw[o]at h2;cases h2;right;cases e2:fs.lookup f with
    |none=>rw[e2]at h1;exact h1.elim
    |some d=>
     rw[e2]at h1;obtain⟨v,q1,q2⟩:=g.look e2
     exact⟨a,C,i,xs,v,rfl,aD _ _ _ _ p,l,q,q1,ax h1<|by rw[b];exact q2⟩
   .right;delta Fb at h1;dsimp only at h1;rw[afl e]at h1;exact h1.elim
  |_=>right;exact h1.elim⟩
end
noncomputable def xO:D->Option (afy)
 |.lsm ds=>J ds
 |_=>U
section
variable(K:aT)(Hm H:Hp)
def iW(d:D)(v:V)(bs c:afv):Prop:=match xO d with
 |some ds=>∃b ys,bs=b::c/\v=.ref b/\H b=J (.lst ys)/\ay K Hm ds ys
 |none=>bs=c/\bQ K Hm d v
def dR:List (Str×D)->List (Str×V)->afv->Prop
 |[],xs,bs=>xs=[]/\bs=[]
 |(k,d)::fs,xs,bs=>∃v r c,xs=(k,v)::r/\iW K Hm H d v bs c/\dR fs r c
def vq:D->afv->Prop
 |.obj x fs,a::bs=>∃C b xs,DO K By x=J (J<|.ref C)/\H a=J (.ins C b xs)/\dR K Hm H fs xs bs
 |.lst ds,[a]=>∃xs,H a=J (.lst xs)/\ay K Hm ds xs
 |.dct kvs,[a]=>∃xs,H a=J (.dK xs)/\pK K Hm kvs xs
 |_,_=>False
end
section
variable{K:aT}{Hm Hm' H:Hp}
theorem iW.mono(s:ah Hm Hm')(h:∀b∈bs,∀o,H b=J o->H' b=J o)(f:iW K Hm H d v bs c):iW K Hm' H' d v bs c:=by
 delta iW at f⊢;split at f
 .obtain⟨b,ys,e,rfl,h1,h2⟩:=f;exact⟨b,ys,e,rfl,h b (by simp[e]) _ h1,h2.mono s⟩
 .exact⟨f.1,f.2.mono s⟩
theorem iW.sub(f:iW K Hm H d v bs c):∀b∈c,b∈bs:=by
 delta iW at f;split at f
 .obtain⟨b,ys,e,_⟩:=f;intro x a;mright
 mright
theorem dR.mono(s:ah Hm Hm'):∀{fs:List<|Str×D}{xs:List<|Str×V}{bs:afv},(∀b∈bs,∀o,H b=J o->H' b=J o)->dR K Hm H fs xs bs->dR K Hm' H' fs xs bs
 |[],_,_,_,f=>f
 |(k,d)::fs,_,_,h,⟨v,r,c,e,f1,f2⟩=>⟨v,r,c,e,f1.mono s h,dR.mono s (fun b a=>h b<|f1.sub b a) f2⟩
theorem vq.mono(s:ah Hm Hm')(h:∀b∈c,∀o,H b=J o->H' b=J o)(f:vq K Hm H d c):vq K Hm' H' d c:=by
 delta vq at f;split at f
 .refine Z33 f fun C a xs e h1 h2=>?_;exact⟨C,a,xs,e,h _ ∅ _ h1,h2.mono s fun b g=>h b<|ie _ g⟩
 .obtain⟨xs,h1,h2⟩:=f;exact⟨xs,h _ ∅ _ h1,h2.mono s⟩
 .obtain⟨xs,h1,h2⟩:=f;exact⟨xs,h _ ∅ _ h1,h2.mono s⟩
 .exact f.elim
theorem dR.ex:∀{fs:List<|Str×D}{xs:List<|Str×V}{bs:afv},dR K Hm H fs xs bs->∀b∈bs,∃ys,H b=J (.lst ys)
 |[],_,_,⟨_,e⟩,b,hb=>by subst e;cases hb
 |(k,d)::fs,_,bs,⟨v,r,c,e,f1,f2⟩,b,hb=>by
  delta iW at f1;split at f1
  .obtain⟨f,ys,a,rfl,h1,h2⟩:=f1;rw[a]at hb;rcases eQ.mp hb with rfl|hb
   .exact⟨_,h1⟩
   .exact dR.ex f2 b hb
  .obtain⟨rfl,_⟩:=f1;exact dR.ex f2 b hb
theorem nM(h:H b=J o)(h1:∀xs,o≠.tup xs)(h2:∀u xs,o≠.frz u (.tup xs)):CJ<|H b:=fun xs=>by
 mright
theorem vq.at(f:vq K Hm H d c):∀b∈c,H b≠U/\CJ (H b):=by
 delta vq at f;split at f
 .refine Z33 f fun C g xs h h1 h2=>?_;intro b a;rcases eQ.mp a with rfl|a
  .exact⟨by rw[h1];simp,nM h1 (fun _ e=>nomatch e) fun _ _ e=>nomatch e⟩
  .obtain⟨ys,e⟩:=h2.ex b a;exact⟨by rw[e];simp,nM e (fun _ e=>nomatch e) fun _ _ e=>nomatch e⟩
 .obtain⟨xs,h1,h2⟩:=f;intro b a;rw[IF.mp a];exact⟨by rw[h1];simp,nM h1 (fun _ e=>nomatch e) fun _ _ e=>nomatch e⟩
 .obtain⟨xs,h1,h2⟩:=f;intro b a;rw[IF.mp a];exact⟨by rw[h1];simp,nM h1 (fun _ e=>nomatch e) fun _ _ e=>nomatch e⟩
 .exact f.elim
end
def WJ(d:D):D:=match xO d with
 |some ds=>.lst ds
 |none=>d
def vw:D->D
 |.obj x fs=>.obj x<|fs.map fun p=>(p.1,WJ p.2)
 |d=>d
section
variable{K:aT}
theorem dR.den(s:ah Hm H):∀{fs:List<|Str×D}{xs:List<|Str×V}{bs:afv},dR K Hm H fs xs bs->qS K H (fs.map fun p=>(p.1,WJ p.2)) xs
 |[],_,_,⟨e,_⟩=>e
 |(k,d)::fs,_,_,⟨v,r,c,e,f1,f2⟩=>⟨v,r,e,by
  delta iW at f1;delta WJ;dsimp only;split at f1
  .obtain⟨b,ys,e,rfl,h1,h2⟩:=f1;exact⟨b,ys,rfl,.inl<|.inl h1,h2.mono s⟩
  .exact f1.2.mono s,dR.den s f2⟩
theorem vq.den(s:ah Hm H)(f:vq K Hm H d<|a::bs):bQ K H (vw d)<|.ref a:=by
 delta vq at f;split at f
 .obtain⟨C,b,xs,c,h1,h2⟩:=f;rename_i e;cases e;exact⟨_,C,b,xs,rfl,c,h1,h2.den s⟩
 .obtain⟨xs,h1,h2⟩:=f;rename_i e;cases e;exact⟨_,xs,rfl,.inl<|.inl h1,h2.mono s⟩
 .obtain⟨xs,h1,h2⟩:=f;rename_i e;cases e;exact⟨_,xs,rfl,h1,h2.mono s⟩
 .exact f.elim
end
structure MI(K:aT)(as:afv)(B:Hp)(hs:afv)(P:afq)(cl:List (afv))(Z:St)(Y:Sd)(L:afy)(H:Hp):Prop where
 len:Y.length=Z.length
 ex:∀a∈as,B a≠U
 sb:ah B H
 fb:∀c∈cl,∀a∈c,B a=U
 nd:∀c∈cl,c.Nodup
 dj:∀(i j:Nat)(c c':afv)(a:aaB),cl[i]?=J c->cl[j]?=J c'->a∈c->a∈c'->i=j
 var:∀(i:Nat)(d:D),Y[i]?=J (J d)->∃v,Z[i]?=J (J v)/\bQ K (aj (cl.flatten++as) H) d v
 lp:P.length=cl.length
 lm:L.length=cl.length
 ob:∀(k i:Nat)(c:afv)(d:D),P[k]?=J i->cl[k]?=J c->L[k]?=J d->(∃a r,c=a::r/\Z[i]?=J (J<|.ref a))/\vq K (aj (cl.flatten++as) H) H d c
 hl:hs.length<=cl.length
 hd:(cl.map acU).drop (cl.length-hs.length)=hs.map J
abbrev Step(as:afv)(cl:List<|afv)(H:Hp)(a:List<|afv)(H':Hp):Prop:=ah (aj (cl.flatten++as) H)<|aj (a.flatten++as) H'
section
variable{K:aT}{as:afv}{B:Hp}{hs:afv}{P:afq}{cl:List (afv)}{Z:St}{Y:Sd}{L:afy}{H H':Hp}
theorem cH:a∈cl.flatten↔∃(k:Nat)(c:afv),cl[k]?=J c/\a∈c:=by
 rw[abZ];constructor
 .rintro⟨c,h1,h2⟩;obtain⟨k,b⟩:=abu.mp h1;exact⟨k,c,b,h2⟩
 .rintro⟨k,c,h1,h2⟩;exact⟨c,Do h1,h2⟩
theorem MI.get{k:Nat}(I:MI K as B hs P cl Z Y L H)(b:cl[k]?=J c):∃i d,P[k]?=J i/\L[k]?=J d/\(∃a r,c=a::r/\Z[i]?=J (J<|.ref a))/\vq K (aj (cl.flatten++as) H) H d c:=by
 have h1  := (rW.mp b).1;have h2:k<P.length:=by rw[I.lp];exact h1
 have g:k<L.length:=by rw[I.lm];exact h1
 have e:=aaC h2;have f:=aaC g;exact⟨_,_,e,f,I.ob k _ c _ e b f⟩
theorem MI.at{k i:Nat}(I:MI K as B hs P cl Z Y L H)(e:P[k]?=J i):∃c d,cl[k]?=J c/\L[k]?=J d/\(∃a r,c=a::r/\Z[i]?=J (J<|.ref a))/\vq K (aj (cl.flatten++as) H) H d c:=by
 have h1  := (rW.mp e).1;have h2:k<cl.length:=by rw[<-I.lp];exact h1
 have g:k<L.length:=by rw[I.lm];exact h2
 have b:=aaC h2;have f:=aaC g;exact⟨_,_,b,f,I.ob k i _ _ e b f⟩
theorem MI.exi(I:MI K as B hs P cl Z Y L H):∀a∈cl.flatten++as,H a≠U:=fun a f=>by
 rcases BY.mp f with h|h
 .obtain⟨k,c,b,d⟩:=cH.mp h;obtain⟨_,_,_,_,_,q⟩:=I.get b;exact(q.at a d).1
 .cases e:B a with
  |none=>exact absurd e<|I.ex a h
  |some o=>rw[I.sb a o e];simp
theorem MI.mono(I:MI K as B hs P cl Z Y L H)(s:ah H H'):MI K as B hs P cl Z Y L H' where
 len:=I.len
 ex:=I.ex
 sb:=I.sb.trans s
 fb:=I.fb
 nd:=I.nd
 dj:=I.dj
 var:=fun i d e=>let⟨v,h1,h2⟩:=I.var i d e;⟨v,h1,h2.mono<|aA s⟩
 lp:=I.lp
 lm:=I.lm
 ob:=fun k i c d h1 h2 a=>let⟨q1,q2⟩:=I.ob k i c d h1 h2 a;⟨q1,q2.mono (aA s) fun b _ o e=>s b o e⟩
 hl:=I.hl
 hd:=I.hd
theorem MI.di(I:MI K as B hs P cl Z Y L H):DI K (cl.flatten++as) H [] [] Z Y H:=DI.plain I.len I.exi I.var
def fill:afq->afy->Sd->Sd
 |i::P,d::L,Y=>(fill P L Y).set i<|J<|vw d
 |_,_,Y=>Y
theorem yu:∀(P:afq)(L:afy)(Y:Sd),(fill P L Y).length=Y.length
 |[],_,_=>by rfl
 |_::_,[],_=>by rfl
 |i::P,d::L,Y=>by unfold fill;rw[List.length_set];exact yu P L Y
theorem yI:∀{P:afq}{L:afy}{Y:Sd}{i:Nat}{d:D},(fill P L Y)[i]?=J (J d)->Y[i]?=J (J d)\/∃(k:Nat)(d':D),P[k]?=J i/\L[k]?=J d'/\d=vw d'
 |[],_,_,_,_,h=>by exact .inl h
 |_::_,[],_,_,_,h=>by exact .inl h
 |j::P,d'::L,Y,i,d,h=>by
  unfold fill at h;rw[getElem?_set']at h;cbv
  .rename_i e;subst e;cbv
   .nofun;exact .inr ⟨0,d',rfl,rfl,rfl⟩
   .nofun
  .left;rcases yI h with h|⟨k,d2,h1,h2,h3⟩
   .right;exact .inl h
   .right;exact .inr ⟨k+1,d2,h1,h2,h3⟩
theorem MI.dio(I:MI K as B hs P cl Z Y L H):DI K as H [] [] Z (fill P L Y) H:=by
 refine DI.plain (by rw[yu];exact I.len) (fun a f=>I.exi a<|OR _ f) fun i d e=>?_;have s:ah (aj (cl.flatten++as) H)<|aj as H:=kD fun a f=>OR _ f;rcases yI e with h|⟨k,d',h1,h2,rfl⟩
 .obtain⟨v,q1,q2⟩:=I.var i d h;exact⟨v,q1,q2.mono s⟩
 .obtain⟨c,l,e1,g,⟨a,r,rfl,q1⟩,q2⟩:=I.at h1;rw[h2]at g;cases g;refine⟨_,q1,vq.den s<|q2.mono (ah.refl _) fun b j o e=>?_⟩;have  := fun z=>by
   have:=I.fb _ (Do e1) b j
   exact I.ex b z this
  rw[av this];exact e
theorem MI.flat(I:MI K as B hs P cl Z Y L H)(f:noL d=G)(h:bQ K (aj as H) d v):bQ K (aj (cl.flatten++as) H) d v:=
 bQ.lend (fun b g=>by
  rcases BY.mp g with h|h
  .obtain⟨k,c,a,e⟩:=cH.mp h;obtain⟨_,_,_,_,_,q⟩:=I.get a;exact .inr (q.at b e).2
  .exact .inl h) f h
end
inductive RM(α:Type) where
 |ok (a:α) (L:afy)|er (x:Str) (L:afy)|no
noncomputable def RM.bind{α β:Type}(r:RM α)(f:α->afy->RM β):RM β:=match r with
 |.ok a L=>f a L
 |.er x L=>.er x L
 |.no=>.no
abbrev FM:=Sd->afy->RM D
abbrev lM:=Sd->afy->RM Bool
inductive AD where
 |pl (d:D)|ob (k:Nat)
abbrev qg:=Sd->afy->RM (List AD)
abbrev RQ:=aaB->aaB->St->Hp->Prop
def XS(X:Cx)(E:RQ)(e:nE)(s':ID):Prop:=∃Z H x C fl,e=.ref x/\Inv X [] Z H s'/\ExcAt X [] H s'.heap x C fl/\E x C Z H
noncomputable abbrev Cx.ws(X:Cx)(E:RQ):Cx:=X.wish<|XS X E
structure Ct where
 K:aT
 mg:Str->Option nE
 E:RQ
section
variable(W:Ct)(as:afv)(B:Hp)(hs:afv)(P:afq)
def qU{α β:Type}(Z:St)(Y:Sd)(cl:List<|afv)(H:Hp)(AS:Hp->α->β->Prop)(r:RM α)(Q:β->Hp->Prop):Prop:=match r with
 |.ok a μ'=>∀b c H',MI W.K as B hs P c Z Y μ' H'->Step as cl H c H'->AS (aj (c.flatten++as) H') a b->Q b H'
 |.er x μ'=>∀y C c H',MI W.K as B hs P c Z Y μ' H'->W.mg x=J (.ref C)->W.E y C Z H'
 |.no=>False
end
section
theorem qU.step{AS:Hp->α->β->Prop}(h:qU W as B hs P Z Y cl H AS r Q)(st:Step as cl H cl1 H1):qU W as B hs P Z Y cl1 H1 AS r Q:=by
 cases r with
 |ok a L=>exact fun b c H' I d=>h b c H' I<|st.trans d
 |er x L=>exact h
 |no=>exact h
theorem bx{AS:Hp->α->β->Prop}{d:Hp->γ->ι->Prop}(h:qU W as B hs P Z Y cl H d (r.bind f) Q)
  (q:∀a b μ1 c H1,MI W.K as B hs P c Z Y μ1 H1->Step as cl H c H1->AS (aj (c.flatten++as) H1) a b->qU W as B hs P Z Y c H1 d (f a μ1) Q->Q' b H1):qU W as B hs P Z Y cl H AS r Q':=by
 cases r with
 |ok a L=>exact fun b e H' I st g=>q a b L e H' I st g<|qU.step h st
 |er x L=>exact h
 |no=>exact h
end
def tM(W:Ct)(P:afq)(φ:FM):TE:=fun Z H Q=>∃as B hs cl Y L,MI W.K as B hs P cl Z Y L H/\qU W as B hs P Z Y cl H (bQ W.K) (φ Y L) Q
def ZD(W:Ct)(P:afq)(φ:lM):TT:=fun Z H Q=>∃as B hs cl Y L,MI W.K as B hs P cl Z Y L H/\qU W as B hs P Z Y cl H (fun _ a b=>a=b) (φ Y L) Q
def Args(K:aT)(P:afq)(Z:St)(Hm:Hp):List AD->afx->Prop
 |[],vs=>vs=[]
 |.pl d::l,vs=>∃v r,vs=v::r/\bQ K Hm d v/\Args K P Z Hm l r
 |.ob k::l,vs=>∃v r i,vs=v::r/\P[k]?=J i/\Z[i]?=J (J v)/\Args K P Z Hm l r
def RH(W:Ct)(P:afq)(φ:qg):TA:=fun Z H Q=>∃as B hs cl Y L,MI W.K as B hs P cl Z Y L H/\qU W as B hs P Z Y cl H (Args W.K P Z) (φ Y L) Q
def ME(X:Cx)(K:aT)(mg:afu)(P:afq)(e:aa1)(φ:FM):Prop:=∀E,JE (X.ws E) e<|tM ⟨K,mg,E⟩ P φ
def MT(X:Cx)(K:aT)(mg:afu)(P:afq)(e:aa1)(φ:lM):Prop:=∀E,JT (X.ws E) e<|ZD ⟨K,mg,E⟩ P φ
def MW(X:Cx)(K:aT)(mg:afu)(P:afq)(e:aa1)(φ:lM):Prop:=∀E,JW (X.ws E) e<|ZD ⟨K,mg,E⟩ P φ
def MA(X:Cx)(K:aT)(mg:afu)(P:afq)(es:List aa1)(φ:qg):Prop:=∀E,JA (X.ws E) es<|RH ⟨K,mg,E⟩ P φ
def Z2(φ:FE):FM:=fun Y L=>match φ Y with
 |.ok d=>.ok d L
 |_=>.no
def Wl(P:afq)(φ:FE):FM:=fun Y L=>match φ (fill P L Y)with
 |.ok d=>if noL d=G then .ok d L else .no
 |_=>.no
def uv(P:afq)(φ:FT):lM:=fun Y L=>match φ (fill P L Y)with
 |.ok b=>.ok b L
 |_=>.no
section
variable{X:Cx}{K:aT}{mg:afu}{P:afq}{pos:Pos}{rest es:List aa1}{e a b c:aa1}{φ ψ:FM}{τ υ:lM}{α:qg}
theorem Ll{φ:FE}(h:∀b,JE (X.wish b) e<|tD ⟨K,mg,E0⟩ [] φ):ME X K mg P e<|Z2 φ:=fun E=>(h _).imp fun Z H Q q_=>Z62 q_ fun as B hs cl Y L I f=>by
 refine⟨cl.flatten++as,H,[],Y,I.di,?_⟩;delta Z2 at f;cases hr:φ Y with
 |ok d=>rw[hr]at f;exact fun v H' s a=>f v cl H' (I.mono s) (aA s) a
 |er x=>rw[hr]at f;exact f.elim
 |no=>rw[hr]at f;exact f.elim
theorem Lp{φ:FE}(h:∀b,JE (X.wish b) e<|tD ⟨K,mg,E0⟩ [] φ):ME X K mg P e<|Wl P φ:=fun E=>(h _).imp fun Z H Q q_=>Z62 q_ fun as B hs cl Y L I f=>by
 refine⟨as,H,[],fill P L Y,I.dio,?_⟩;delta Wl at f;cases hr:φ (fill P L Y)with
 |ok d=>
  rw[hr]at f;intro v H' s a;dsimp only at f;split at f
  .rename_i hn;exact f v cl H' (I.mono s) (aA s)<|(I.mono s).flat hn a
  .exact f.elim
 |er x=>rw[hr]at f;exact f.elim
 |no=>rw[hr]at f;exact f.elim
theorem Ko{φ:FT}(h:∀a,JT (X.wish a) e<|lq ⟨K,mg,E0⟩ [] φ):MT X K mg P e<|uv P φ:=fun E=>(h _).imp fun Z H Q q_=>Z62 q_ fun as B hs cl Y L I f=>by
 refine⟨as,H,[],fill P L Y,I.dio,?_⟩;delta uv at f;cases hr:φ (fill P L Y)with
 |ok d=>rw[hr]at f;exact fun H' s=>f d cl H' (I.mono s) (aA s) rfl
 |er x=>rw[hr]at f;exact f.elim
 |no=>rw[hr]at f;exact f.elim
def Nf(τ:lM)(φ ψ:FM):FM:=fun Y L=>(τ Y L).bind fun b L=>if b=G then φ Y L else ψ Y L
theorem Td(g:MT X K mg P c τ)(i:ME X K mg P a φ)(j:ME X K mg P b ψ):ME X K mg P (.IfExp c a b pos)<|Nf τ φ ψ:=fun E=>(N9 (g E) (i E)<|j E).imp (by intro Z H Q q_;refine Z62 q_ fun as B hs cl Y L I h=>?_;exact ⟨as,B,hs,cl,Y,L,I,bx h fun c k μ1 d H1 f st e h1=>by
  subst e;cases c with
  |true=>exact⟨as,B,hs,d,Y,μ1,f,h1⟩
  |false=>exact⟨as,B,hs,d,Y,μ1,f,h1⟩⟩)
def xg(τ υ:lM):lM:=fun Y L=>(τ Y L).bind fun b L=>if b=G then υ Y L else .ok η L
def J6(τ υ:lM):lM:=fun Y L=>(τ Y L).bind fun b L=>if b=G then .ok G L else υ Y L
def Dc(τ:lM):lM:=fun Y L=>(τ Y L).bind fun b L=>.ok (!b) L
theorem BC(h:MW X K mg P a τ):MT X K mg P a τ:=fun E=>Cc<|h E
theorem KO(b:MT X K mg P a τ):MW X K mg P (.BoolOp .And [a] pos) τ:=fun E=>CW<|b E
theorem PN(b:MT X K mg P a τ):MW X K mg P (.BoolOp .Or [a] pos) τ:=fun E=>IT<|b E
theorem OZ(g:MT X K mg P a τ)(i:MW X K mg P (.BoolOp .And (b::rest) pos) υ):MW X K mg P (.BoolOp .And (a::b::rest) pos)<|xg τ υ:=fun E=>(Hq (g E)<|i E).imp (by intro Z H Q q_;refine Z62 q_ fun as B hs cl Y L I h=>?_;exact ⟨as,B,hs,cl,Y,L,I,bx h fun c j μ1 d H1 f st e h1=>by
  subst e;cases c with
  |true=>exact⟨as,B,hs,d,Y,μ1,f,h1⟩
  |false=>exact h1 η d H1 f (ah.refl _) rfl⟩)
theorem U3(g:MT X K mg P a τ)(i:MW X K mg P (.BoolOp .Or (b::rest) pos) υ):MW X K mg P (.BoolOp .Or (a::b::rest) pos)<|J6 τ υ:=fun E=>(MC (g E)<|i E).imp (by intro Z H Q q_;refine Z62 q_ fun as B hs cl Y L I h=>?_;exact ⟨as,B,hs,cl,Y,L,I,bx h fun c j μ1 d H1 f st e h1=>by
  subst e;cases c with
  |false=>exact⟨as,B,hs,d,Y,μ1,f,h1⟩
  |true=>exact h1 G d H1 f (ah.refl _) rfl⟩)
theorem RA(d:MT X K mg P a τ):MT X K mg P (.UnaryOp .Not a pos)<|Dc τ:=fun E=>(GZ<|d E).imp (by intro Z H Q q_;refine Z62 q_ fun as B hs cl Y L I h=>?_;exact ⟨as,B,hs,cl,Y,L,I,bx h fun c g μ1 b H1 f st e h1=>by subst e;exact h1 _ b H1 f (ah.refl _) rfl⟩)
def qL(φ:FM):lM:=fun Y L=>(φ Y L).bind fun d L=>match d with
 |.bl b=>.ok b L
 |_=>.no
theorem Iq(i:ME X K mg P a φ)(g:autoParam (∀c,isTrue a X.env c=(do let v <-c;afh a.pos;holding [v] (truthy v))) Xdz)(k:autoParam (X.K=K) Xaz):MT X K mg P a<|qL φ:=fun E=>
 (yR K (i E) g k).imp (by intro Z H Q q_;refine Z62 q_ fun as B hs cl Y L I h=>?_;exact ⟨as,B,hs,cl,Y,L,I,bx h fun d v μ1 e H1 j st f h1=>by
  cases d with
  |bl b=>subst f;exact h1 b e H1 j (ah.refl _) rfl
  |_=>exact h1.elim⟩)
def bj:qg:=fun _ L=>.ok [] L
def aK(φ:FM)(α:qg):qg:=fun Y L=>(φ Y L).bind fun d L=>(α Y L).bind fun l L=>.ok (.pl d::l) L
def mw(k:Nat)(α:qg):qg:=fun Y L=>(α Y L).bind fun l L=>.ok (.ob k::l) L
theorem LF(o:ME X K mg P e φ)(i:MA X K mg P es α)(n:al e=G):MA X K mg P (e::es)<|aK φ α:=fun E=>(bU (o E) (i E) n).imp (by intro Z H Q q_;refine Z62 q_ fun as B hs cl Y L I h=>?_;exact ⟨as,B,hs,cl,Y,L,I,bx h fun d v μ1 b H1 g st m h1=>⟨as,B,hs,b,Y,μ1,g,bx h1 fun l vs μ2 c k j a f h2=>
  h2 (v::vs) c k j (ah.refl _) ⟨v,vs,rfl,m.mono a,f⟩⟩⟩)
theorem fj(h:Z[i]?=J (J v))(q:Q v H):z8 i Z H Q:=by
 show m8 Z[i]? H Q;rw[h];exact q
theorem Tk(g:P[k]?=J i)(j:MA X K mg P es α)(m:X.N[i]?=J x)(q:m6 X.env.scope x)(hd:afz x)(b:(x==("__classdict__":Str))=η):MA X K mg P (.Name x pos::es)<|mw k α:=fun E=>
 (bU (jv (X:=X.ws E) i m q hd b) (j E) rfl).imp fun Z H Q q_=>Z62 q_ fun as B hs cl Y L I h=>by
  obtain⟨c,d,e1,s,⟨a,r,rfl,q1⟩,q2⟩:=I.at g;exact fj q1 ⟨as,B,hs,cl,Y,L,I,bx h fun l vs μ2 e p n o f h2=>h2 (.ref a::vs) e p n (ah.refl _) ⟨_,vs,i,rfl,g,q1,f⟩⟩
noncomputable def f8:List AD->Option (afy)
 |[]=>J []
 |.pl d::l=>(f8 l).map (d::·)
 |_=>U
theorem Args.plain:∀{l:List AD}{vs:afx}{ds:afy},Args K P Z Hm l vs->f8 l=J ds->ay K Hm ds vs
 |[],_,_,h,e=>by cases e;exact h
 |.pl d::l,_,_,⟨v,r,e,h1,h2⟩,q=>by
  obtain⟨ds,q1,rfl⟩:=dO.mp q;exact⟨v,r,e,h1,h2.plain q1⟩
def vN(α:qg):FM:=fun Y L=>(α Y L).bind fun l L=>match f8 l with
 |some ds=>if ds.length<=1000000 then .ok (.tup ds) L else .no
 |none=>.no
theorem PX(h:MA X K mg P es α):ME X K mg P (.Tuple es x1 pos)<|vN α:=fun E=>(Ci<|h E).imp (by intro Z H Q q_;refine Z62 q_ fun as B hs cl Y L I h=>?_;exact ⟨as,B,hs,cl,Y,L,I,bx h fun l vs μ1 b H1 e st c h1=>by
  cases a:f8 l with
  |none=>rw[a]at h1;exact h1.elim
  |some ds=>
   rw[a]at h1;dsimp only at h1;split at h1
   .rename_i hl;have d:=c.plain a;refine⟨by rw[<-d.len];exact RW hl ck,fun p a=>?_⟩;have s:=bR a<|.tup vs;have hn  := fun z=>e.exi p z a;refine h1 (.ref p) b _ (e.mono s) (aA s) ⟨p,vs,rfl,.inl<|.inl ?_,d.mono<|aA s⟩;rw[av hn];exact aE
   .exact h1.elim⟩)
end
structure MO(K:aT)(as:afv)(B:Hp)(hs:afv)(cl:List (afv))(L:afy)(H:Hp):Prop where
 sb:ah B H
 fb:∀c∈cl,∀a∈c,B a=U
 nd:∀c∈cl,c.Nodup
 dj:∀(i j:Nat)(c c':afv)(a:aaB),cl[i]?=J c->cl[j]?=J c'->a∈c->a∈c'->i=j
 lm:L.length=cl.length
 ob:∀(k:Nat)(c:afv)(d:D),cl[k]?=J c->L[k]?=J d->vq K (aj (cl.flatten++as) H) H d c
 hd:cl.map acU=hs.map J
section
variable{K:aT}
theorem rM(n:Nat)(cl:List<|afv)(as:afv)(H:Hp):ah (aj (cl.flatten++as) H)<|aj ((cl.drop n).flatten++as) H:=kD fun a b=>by
 rcases BY.mp b with h|h
 .exact Le _ ((fun n cl=>fun a b=>by
    obtain⟨c,h1,h2⟩:=abZ.mp b;exact abZ.mpr ⟨c,ado h1,h2⟩) n cl a h)
 mright
theorem MI.mo(I:MI K as B hs P cl Z Y L H):MO K as B hs (cl.drop<|cl.length-hs.length) (L.drop<|L.length-hs.length) H where
 sb:=I.sb
 fb:=fun c f=>I.fb c<|ado f
 nd:=fun c f=>I.nd c<|ado f
 dj:=fun i j c l a h1 h2 h g=>by
  rw[aeK]at h1 h2
  have:=I.dj _ _ c l a h1 h2 h g
  mright
 lm:=by rw[abq,abq,I.lm]
 ob:=fun k c d h1 h2=>by
  rw[aeK]at h1 h2;rw[I.lm]at h2;refine Z24 (I.get h1) fun _ d' _ e _ q=>?_;rw[h2]at e;cases e;exact q.mono (rM _ _ _ _) fun b _ o e=>e
 hd:=by rw[List.map_drop];exact I.hd
end
def putAt{α:Type}:afq->List α->List α->List α
 |k::ks,c::cs,l=>putAt ks cs<|l.set k c
 |_,_,l=>l
theorem p7{α:Type}:∀(a:afq)(b l:List α),(putAt a b l).length=l.length
 |[],_,_=>by rfl
 |_::_,[],_=>by rfl
 |k::a,c::b,l=>by unfold putAt;rw[p7 a b];simp
theorem iL:∀{a:afq}{b l:List α},k∉a->(putAt a b l)[k]?=l[k]?
 |[],_,_,_=>by rfl
 |_::_,[],_,_=>by rfl
 |j::a,c::b,l,h=>by
  unfold putAt;rw[iL fun z=>h<|ie _ z,abC fun z=>h<|by simp[z]]
theorem oE{c:α}:∀{a:afq}{b l:List α}{m:Nat},a.Nodup->a[m]?=J k->b[m]?=J c->k<l.length->(putAt a b l)[k]?=J c
 |[],_,_,_,_,h,_,_=>by mright
 |_::_,[],_,_,_,_,h,_=>by mright
 |j::a,d::b,l,0,nd,h1,h2,hl=>by
  simp at h1 h2;subst h1 h2;unfold putAt;rw[iL (aaK.mp nd).1];simp[hl]
 |j::a,d::b,l,m+1,nd,h1,h2,hl=>by
  unfold putAt;exact oE (aaK.mp nd).2 (by assumption) ⊤ (by simpa using hl)
def iE(cl:List<|afv)(a:afq):List<|afv:=a.map fun k=>(cl[k]?).getD []
def Kx(cl:List<|afv)(a:afq):List<|afv:=(cl.zipIdx.filter fun p=>decide (p.2∉a)).map (·.1)
theorem NM:c∈Kx cl ks↔∃k:Nat,cl[k]?=J c/\k∉ks:=by
 delta Kx;rw[abv];constructor
 .rintro⟨p,h,rfl⟩;obtain⟨h1,h2⟩:=ab9.mp h;exact⟨p.2,adp.mp h1,afo h2⟩
 .rintro⟨k,h1,h2⟩;exact⟨(c,k),ab9.mpr ⟨adp.mpr h1,afn h2⟩,rfl⟩
theorem nu(h:∀a,a∈l↔a∈l')(H:Hp):aj l H=aj l' H:=by
 funext b
 by_cases c:b∈l
 .rw[bT c,bT<|(h b).mp c]
 .rw[av c,av fun z=>c<|(h b).mpr z]
section
variable{K:aT}
theorem iU{m:Nat}(a:∀k∈ks,k<cl.length)(h:(iE cl ks)[m]?=J c):∃k,ks[m]?=J k/\cl[k]?=J c:=by
 delta iE at h;rw[aa4]at h;obtain⟨k,h1,h2⟩:=dO.mp h
 have:=(Do h1)
 mright
theorem wc{m k:Nat}(h1:ks[m]?=J k)(h2:cl[k]?=J c):(iE cl ks)[m]?=J c:=by
 delta iE;mright
theorem jO(d:∀k∈ks,k<cl.length):a∈(iE cl ks).flatten↔∃(k:Nat)(c:afv),k∈ks/\cl[k]?=J c/\a∈c:=by
 rw[cH];constructor
 .rintro⟨m,c,h1,h2⟩;obtain⟨k,b,f⟩:=iU d h1;exact⟨k,c,Do b,f,h2⟩
 .rintro⟨k,c,h1,h2,b⟩;obtain⟨m,e⟩:=abu.mp h1;exact⟨m,c,wc e h2,b⟩
theorem Ao:a∈(Kx cl ks).flatten↔∃(k:Nat)(c:afv),k∉ks/\cl[k]?=J c/\a∈c:=by
 rw[abZ];constructor
 .rintro⟨c,h1,h2⟩;obtain⟨k,b,d⟩:=NM.mp h1;exact⟨k,c,d,b,h2⟩
 .rintro⟨k,c,h1,h2,b⟩;exact⟨c,NM.mpr ⟨k,h2,h1⟩,b⟩
theorem ui(b:∀k∈ks,k<cl.length)(a:aaB):a∈cl.flatten++as↔a∈(iE cl ks).flatten++((Kx cl ks).flatten++as):=by
 rw[BY,BY,BY,jO b,Ao,cH];constructor
 .rintro(⟨k,c,h1,h2⟩|h)
  .by_cases z:k∈ks
   .exact .inl ⟨k,c,z,h1,h2⟩
   .exact .inr (.inl ⟨k,c,z,h1,h2⟩)
  .exact .inr (.inr h)
 .rintro(⟨k,c,_,h1,h2⟩|⟨k,c,_,h1,h2⟩|h)
  .exact .inl ⟨k,c,h1,h2⟩
  .exact .inl ⟨k,c,h1,h2⟩
  .exact .inr h
theorem MI.apart(I:MI K as B hs P cl Z Y L H)(d:∀k∈ks,k<cl.length)(e:a∈(Kx cl ks).flatten++as):a∉(iE cl ks).flatten:=fun z=>by
 obtain⟨k,c,h1,h2,b⟩:=(jO d).mp z;rcases BY.mp e with h|h
 .obtain⟨j,g,q1,q2,f⟩:=Ao.mp h
  have:=I.dj _ _ _ _ a h2 q2 b f
  exact q1<|this▸h1
 .exact I.ex a h (I.fb c (Do h2) a b)
theorem Dn{c:α}{b l:List α}(j:ks.Nodup)(i:b.length=ks.length)(g:∀k∈ks,k<l.length)(h:(putAt ks b l)[k]?=J c):(k∉ks/\l[k]?=J c)\/∃m:Nat,ks[m]?=J k/\b[m]?=J c:=by
 by_cases a:k∈ks
 .obtain⟨m,e⟩:=abu.mp a;have d:m<b.length:=by rw[i];exact(rW.mp e).1
  have f:=aaC d;rw[oE j e f<|g k a]at h;exact .inr ⟨m,e,by rw[f];exact h⟩
 .rw[iL a]at h;exact .inl ⟨a,h⟩
theorem MI.back(I:MI K as B hs P cl Z Y L H)(T:ks.Nodup)(t:∀k∈ks,k<cl.length)(f:MO K ((Kx cl ks).flatten++as) (aj (iE cl ks).flatten H) hs' cl2 μ2 H2)(N:hs'.map J=(iE cl ks).map acU):
  MI K as B hs P (putAt ks cl2 cl) Z Y (putAt ks μ2 L) H2/\Step as cl H (putAt ks cl2 cl) H2/\∀a,a∈cl2.flatten++((Kx cl ks).flatten++as)↔a∈(putAt ks cl2 cl).flatten++as:=by
 have hl:cl2.length=ks.length:=by
  have:=afp acR f.hd
  rw[N,aaU,aaU]at this;rw[this];delta iE;simp
 have w:∀b o,b∉(iE cl ks).flatten->H b=J o->H2 b=J o:=fun b o n e=>f.sb b o (by rw[av n];exact e);have new:∀c∈cl2,∀a∈c,a∈(iE cl ks).flatten\/H a=U:=fun c x a l=>by
  by_cases z:a∈(iE cl ks).flatten
  .exact .inl z
  .have:=f.fb c x a l;rw[av z]at this;exact .inr this
 have sub:∀a∈(iE cl ks).flatten,a∈cl.flatten:=fun a l=>by
  obtain⟨k,c,_,h2,g⟩:=(jO t).mp l;exact cH.mpr ⟨k,c,h2,g⟩
 have g2:∀{k:Nat}{c:afv},(putAt ks cl2 cl)[k]?=J c->(k∉ks/\cl[k]?=J c)\/∃m:Nat,ks[m]?=J k/\cl2[m]?=J c:=fun h=>Dn T hl t h;have u:∀a,a∈cl2.flatten++((Kx cl ks).flatten++as)↔a∈(putAt ks cl2 cl).flatten++as:=fun a=>by
  rw[BY,BY,BY,Ao];constructor
  .rintro(h|⟨k,c,h1,h2,g⟩|h)
   .obtain⟨m,c,h1,h2⟩:=cH.mp h;have D:m<ks.length:=by rw[<-hl];exact(rW.mp h1).1
    have e:=aaC D;exact .inl (cH.mpr ⟨_,c,oE T e h1<|t _<|ad3 D,h2⟩)
   .exact .inl (cH.mpr ⟨k,c,by rw[iL h1];exact h2,g⟩)
   .exact .inr h
  .rintro(h|h)
   .obtain⟨k,c,h1,h2⟩:=cH.mp h;rcases g2 h1 with⟨q1,q2⟩|⟨m,q1,q2⟩
    .exact .inr (.inl ⟨k,c,q1,q2,h2⟩)
    .exact .inl (cH.mpr ⟨m,c,q2,h2⟩)
   .exact .inr (.inr h)
 have st:Step as cl H (putAt ks cl2 cl) H2:=fun b o e=>by
  have n:b∉cl.flatten++as:=fun z=>by rw[bT z]at e;cases e
  rw[av n]at e;have O:b∉(putAt ks cl2 cl).flatten++as:=fun z=>by
   rcases BY.mp z with z|z
   .obtain⟨k,c,h1,h2⟩:=cH.mp z;rcases g2 h1 with⟨q1,q2⟩|⟨m,q1,q2⟩
    .exact n (Le _<|cH.mpr ⟨k,c,q2,h2⟩)
    .rcases new c (Do q2) b h2 with q|q
     .exact n (Le _<|sub b q)
     .rw[q]at e;cases e
   .exact n (OR _ z)
  rw[av O];exact w b o (fun z=>n<|Le _<|sub b z) e
 have pl:(putAt ks cl2 cl).length=cl.length:=p7 _ _ _;have l2:μ2.length=ks.length:=f.lm.trans hl;have V:∀k∈ks,k<L.length:=fun k h=>by rw[I.lm];exact t k h
 have M:(putAt ks cl2 cl).map acU=cl.map acU:=by
  refine aeW fun k=>?_;rw[aa4,aa4];by_cases p:k<cl.length
  .have e:=aaC (show k<(putAt ks cl2 cl).length by rw[pl];exact p);rcases g2 e with⟨q1,q2⟩|⟨m,q1,q2⟩
   .rw[e,q2]
   .have C:=aaC p;have s:=afp (·[m]?)<|f.hd.trans N;simp only[aa4]at s;rw[q2,wc q1 C]at s;rw[e,C];exact s
  .rw[adj<|by rw[pl];lia,adj<|⊥]
 refine⟨⟨I.len,I.ex,(lH I.sb fun a l=>?_).trans f.sb,fun c x a l=>?_,fun c x=>?_,fun i j c A a h1 h2 g E=>?_,fun i d e=>?_,?_,?_,fun k i c d h1 h2 g=>?_,?_,?_⟩,st,u⟩
 .obtain⟨k,c,_,h2,g⟩:=(jO t).mp l;exact I.fb c (Do h2) a g
 .obtain⟨k,e⟩:=abu.mp x;rcases g2 e with⟨q1,q2⟩|⟨m,q1,q2⟩
  .exact I.fb c (Do q2) a l
  .rcases new c (Do q2) a l with q|q
   .obtain⟨k,c,_,h2,g⟩:=(jO t).mp q;exact I.fb c (Do h2) a g
   .exact I.sb.free q
 .obtain⟨k,e⟩:=abu.mp x;rcases g2 e with⟨q1,q2⟩|⟨m,q1,q2⟩
  .exact I.nd c (Do q2)
  .exact f.nd c (Do q2)
 .have cross:∀{i j:Nat}{m:Nat}{c A:afv},i∉ks->cl[i]?=J c->cl2[m]?=J A->a∈c->a∈A->False:=fun{i j m c A}q1 q2 q3 l n=>by
   rcases new A (Do q3) a n with q|q
   .obtain⟨k,c3,R,Q,z3⟩:=(jO t).mp q;exact q1<|I.dj _ _ _ _ a q2 Q l z3▸R
   .exact I.exi a (Le _<|cH.mpr ⟨i,c,q2,l⟩) q
  rcases g2 h1 with⟨q1,q2⟩|⟨m,q1,q2⟩<;>rcases g2 h2 with⟨p1,p2⟩|⟨m',p1,p2⟩
  .exact I.dj _ _ _ _ a q2 p2 g E
  .exact(cross (j:=0) q1 q2 p2 g E).elim
  .exact(cross (j:=0) p1 p2 q2 E g).elim
  .have:=f.dj _ _ _ _ a q2 p2 g E
   subst this;rw[q1]at p1;cases p1;rfl
 .obtain⟨v,h1,h2⟩:=I.var i d e;exact⟨v,h1,h2.mono st⟩
 .rw[pl];exact I.lp
 .rw[p7,pl];exact I.lm
 .rcases g2 h2 with⟨q1,q2⟩|⟨m,q1,q2⟩
  .rw[iL q1]at g;obtain⟨R,Q⟩:=I.ob k i c d h1 q2 g;exact⟨R,Q.mono st fun b n o e=>w b o (fun z=>by
    obtain⟨k2,c2,F,W,S⟩:=(jO t).mp z;exact q1 (I.dj _ _ _ _ b q2 W n S▸F)) e⟩
  .have D:m<μ2.length:=by rw[l2];exact(rW.mp q1).1
   have C:=aaC D;rw[oE T q1 C<|V k<|Do q1]at g;have y:=f.ob m c d q2<|C.trans g;rw[nu u]at y;refine⟨?_,y⟩;have p:=t k<|Do q1;have X:=aaC p;obtain⟨i',d',F,W,⟨a,r,S,w4⟩,w5⟩:=I.get X;rw[h1]at F;cases F;have s:=afp (·[m]?)<|f.hd.trans N;simp only[aa4]at s;rw[q2,wc q1 X,S]at s;cases c with
   |nil=>mright
   |cons b r'=>simp at s;subst s;exact⟨b,r',rfl,w4⟩
 .rw[pl];exact I.hl
 .rw[M,pl];exact I.hd
end
noncomputable def j4:List AD->afq
 |[]=>[]
 |.pl _::l=>j4 l
 |.ob k::l=>k::j4 l
noncomputable def zw:Nat->List AD->afq
 |_,[]=>[]
 |o,.pl _::l=>zw (o+1) l
 |o,.ob _::l=>o::zw (o+1) l
noncomputable def uB:List AD->Sd
 |[]=>[]
 |.pl d::l=>J d::uB l
 |.ob _::l=>U::uB l
theorem wj:∀(l:List AD)(o:Nat),(zw o l).length=(j4 l).length
 |[],_=>rfl
 |.pl _::l,o=>wj l<|o+1
 |.ob _::l,o=>afp (·+1)<|wj l<|o+1
section
variable{K:aT}
theorem Args.len:∀{l:List AD}{vs:afx},Args K P Z Hm l vs->(uB l).length=vs.length
 |[],_,h=>by subst h;rfl
 |.pl d::l,_,⟨v,r,e,h1,h2⟩=>by subst e;exact afp (·+1) h2.len
 |.ob k::l,_,⟨v,r,i,e,h1,h2,h3⟩=>by subst e;exact afp (·+1) h3.len
theorem Args.var:∀{l:List AD}{vs:afx}{i:Nat}{d:D},Args K P Z Hm l vs->(uB l)[i]?=J (J d)->∃v,vs[i]?=J v/\bQ K Hm d v
 |[],_,_,_,h,e=>by contradiction
 |.pl d::l,_,0,_,⟨v,r,e,h1,h2⟩,q=>by simp[uB]at q;mright
 |.pl d::l,_,i+1,_,⟨v,r,e,h1,h2⟩,q=>by subst e;exact h2.var ⊤
 |.ob k::l,_,0,_,⟨v,r,_,e,h1,_,h3⟩,q=>by simp[uB]at q
 |.ob k::l,_,i+1,_,⟨v,r,_,e,h1,_,h3⟩,q=>by subst e;exact h3.var ⊤
theorem Args.obs:∀{l:List AD}{vs:afx}{o m i:Nat},Args K P Z Hm l vs->(zw o l)[m]?=J i->∃k v j a,(j4 l)[m]?=J k/\i=o+j/\vs[j]?=J v/\P[k]?=J a/\Z[a]?=J (J v)
 |[],_,_,_,_,h,e=>by contradiction
 |.pl d::l,_,o,m,_,⟨v,r,e,h1,h2⟩,q=>by
  subst e;left;refine Z44 (h2.obs q) fun k b j a g p c f=>?_;right;exact⟨k,b,j+1,a,g,⊥,by assumption,f⟩
 |.ob k::l,_,o,0,_,⟨v,r,a,e,h1,h2,h3⟩,q=>by
  subst e;simp[zw]at q;exact⟨k,v,0,a,rfl,by simp_all,rfl,h1,h2⟩
 |.ob k::l,_,o,m+1,_,⟨v,r,a,e,h1,h2,h3⟩,q=>by
  subst e;left;refine Z44 (h3.obs ⊤) fun n b j a g p c f=>?_;right;exact⟨n,b,j+1,a,⊤,⊥,⊤,f⟩
theorem Args.in_:∀{l:List AD}{vs:afx}{k:Nat},Args K P Z Hm l vs->k∈j4 l->k<P.length
 |[],_,_,_,h=>by nofun
 |.pl d::l,_,k,⟨v,r,e,h1,h2⟩,h=>h2.in_ h
 |.ob j::l,_,k,⟨v,r,i',e,h1,h2,h3⟩,h=>by
  rcases eQ.mp h with rfl|h
  .grind
  .exact h3.in_ h
end
section
variable{K:aT}{mg:afu}{as:afv}{B:Hp}{hs:afv}{P:afq}{cl:List (afv)}{Z:St}{Y:Sd}{L:afy}{H:Hp}{l:List AD}{vs:afx}
theorem MI.lend(I:MI K as B hs P cl Z Y L H)(A:Args K P Z (aj (cl.flatten++as) H) l vs)(C:(j4 l).Nodup):(∀k∈j4 l,k<cl.length)/\∃f,f.map J=(iE cl<|j4 l).map acU /\
  MI K ((Kx cl<|j4 l).flatten++as) (aj (iE cl<|j4 l).flatten H) f (zw 0 l) (iE cl<|j4 l) (vs.map J) (uB l) ((j4 l).map fun k=>(L[k]?).getD .non) H:=by
 have b:∀k∈j4 l,k<cl.length:=fun k h=>by rw[<-I.lp];exact A.in_ h
 have D:(iE cl<|j4 l).length=(j4 l).length:=by delta iE;simp
 have w:((iE cl<|j4 l).map fun c=>(c.head?).getD 0).map J=(iE cl<|j4 l).map acU:=by
  rw[ae5];refine aeA fun c g=>?_;obtain⟨m,e⟩:=abu.mp g;obtain⟨k,_,o⟩:=iU b e;obtain⟨_,_,_,_,⟨a,r,rfl,_⟩,_⟩:=I.get o;rfl
 refine⟨b,_,w,⟨by rw[aaU];exact A.len,fun a p=>?_,aD _ _,fun c g a p=>bT<|abZ.mpr ⟨c,g,p⟩,fun c g=>?_,fun i j c S a h1 h2 n t=>?_,fun i d e=>?_,?_,?_,fun k i c d h1 h2 n=>?_,?_,?_⟩⟩
 .rw[av<|I.apart b p];exact I.exi a<|(ui b a).mpr<|OR _ p
 .obtain⟨m,e⟩:=abu.mp g;obtain⟨k,_,o⟩:=iU b e;exact I.nd c<|Do o
 .obtain⟨k,e1,q1⟩:=iU b h1;obtain⟨y,o,q2⟩:=iU b h2
  have:=I.dj _ _ _ _ a q1 q2 n t
  subst this;exact(List.getElem?_inj (rW.mp e1).1 C).mp<|e1.trans o.symm
 .obtain⟨v,h1,h2⟩:=A.var e;refine⟨v,by rw[aa4,h1];rfl,?_⟩;rw[<-nu (ui b)];exact h2
 .rw[D,wj]
 .mright
 .left;obtain⟨y,v,j,T,q,M,Q,R,N⟩:=A.obs h1;obtain⟨k2,s,z⟩:=iU b h2;rw[q]at s;cases s;obtain⟨V,E,F,u,⟨a,r,rfl,O⟩,x⟩:=I.get z;right;rw[aa4,q]at n;simp only[ace,u,Option.getD_some,Option.some.injEq]at n;subst n;refine⟨⟨a,r,rfl,by mright⟩,?_⟩;rw[<-nu (ui b)];exact x
 .simp
 mright
abbrev FF:=Sd->afy->RM D
def X5(K:aT)(mg:afu)(as:afv)(B:Hp)(hs:afv)(r:RM D)(Q:VK)(E:XK):Prop:=match r with
 |.ok d μ'=>∀v a H',MO K as B hs a μ' H'->bQ K (aj (a.flatten++as) H') d v->Q v H'
 |.er x μ'=>∀y C a H',MO K as B hs a μ' H'->mg x=J (.ref C)->E (.ref y) (J C) H'
 |.no=>False
def sJ(K:aT)(mg:afu)(Pf:afq)(F:FF):Sp:=fun vs H Q E=>∃as B hs cl Y L,hs.length=cl.length/\MI K as B hs Pf cl (vs.map J) Y L H/\X5 K mg as B hs (F Y L) Q E
def fU(Pf:afq)(F:FF)(l:List AD)(L:afy):RM D:=if(j4 l).Nodup/\zw 0 l=Pf then(match F (uB l) ((j4 l).map fun k=>(L[k]?).getD .non)with
 |.ok d μ2=>.ok d<|putAt (j4 l) μ2 L
 |.er x μ2=>.er x<|putAt (j4 l) μ2 L
 |.no=>.no)else .no
abbrev AR(E:RQ)(Z:St):XK:=fun y C H'=>∃a b,y=.ref a/\C=J b/\E a b Z H'
theorem lC{Q:VK}(I:MI K as B hs P cl Z Y L H)(A:Args K P Z (aj (cl.flatten++as) H) l vs)(h:qU ⟨K,mg,E⟩ as B hs P Z Y cl H (bQ K) (fU Pf F l L) Q):sJ K mg Pf F vs H Q<|AR E Z:=by
 delta fU at h;cbv
 .rename_i hc;obtain⟨g,rfl⟩:=hc;obtain⟨i,f,c,a⟩:=I.lend A g;refine⟨_,_,f,_,_,_,by have:=afp acR c;simpa using this,a,?_⟩;cases hr:F (uB l) ((j4 l).map fun k=>(L[k]?).getD .non)with
  |ok d μ2=>
   rw[hr]at h;intro v b H' O n;obtain⟨m,st,e⟩:=I.back g i O c;exact h v _ H' m st (by rw[<-nu e];exact n)
  |er x μ2=>
   rw[hr]at h;intro y C b H' O j;exact⟨y,C,rfl,rfl,h y C _ H' (I.back g i O c).1 j⟩
  |no=>rw[hr]at h;mleft
 .mleft
end
section
variable{X:Cx}{K:aT}{mg:afu}{P Pf:afq}{F:FF}{aa:afs}{Z:St}{H:Hp}{s:ID}{E:RQ}{p pos apos:Pos}
theorem rS(Gq0:FnOk X.prog X.w X.K X.mg X.base (oI X.prog X.w X.mg) k f fd ps sp)(i:Room k X.A)(N:cf X.K fd ps [])(g:qQ X)
  (I:Inv X aa Z H s) (r:aU vs us) (h:sp vs H Q<|AR E Z):aaN (aaO X.prog X.w) X.A (call (.ref f) us) (EP X aa Z Q) (XS X E) s:=
 KL Gq0 i N (fun e s' j l=>by
  obtain⟨y,C,H',rfl,os,a,un,d,⟨M,p,B,c,t,o,n,D,T,oT,F,b1,b2,m,u⟩,O,P,e1,x,q⟩:=l;cases e1;cases x;have I3  := I.call' os un d a (fun b z=>nomatch z) j
  exact⟨Z,H',y,C,J .none,rfl,I3.less,ExcAt.less ⟨Nw.gone I g M,p,B,c,t,o,n,D,fun z=>(by cases z),fun v z=>(by cases z;exact⟨T,oT,F,b1,Nw.gone I g b2,m,u⟩)⟩,q⟩) I r h
theorem EP.ws(h:EP X aa Z Q u s'):EP (X.wish E') aa Z Q u s':=let⟨v,H',I,r,q⟩:=h;⟨v,H',I.wish _,r,q⟩
def dm(Pf:afq)(F:FF)(α:qg):FM:=fun Y L=>(α Y L).bind<|fU Pf F
theorem Lx{st:abN}(D:Def X.K X.mg x st ps f fd)(Gq0:FnOk X.prog X.w X.K X.mg X.base (oI X.prog X.w X.mg) j f fd ps<|sJ K mg Pf F)(d:Room k X.A)(u:MA X K mg P (e::es) α)
  (v:j<=k) (n:qQ X) (g:Gl X x) (c:afz x) (h1:al e=G) (h2:es.all al=G):ME X K mg P (.Call (.Name x p) (e::es) [] pos)<|dm Pf F α:=fun E=>⟨fun aa s Z H Q I q_=>Z62 q_ fun as B hs cl Y L M h=>by
 refine abc (dD I g D.m ?_ c);have t:RH ⟨K,mg,E⟩ P α Z H fun vs H1=>sJ K mg Pf F vs H1 Q (AR E Z):=⟨as,B,hs,cl,Y,L,M,bx h fun l vs μ1 o H1 a st A h1=>lC a A h1⟩;refine abK I.ok.mod.kin D.F.kp (bP ((u E).out pos aa s Z H _ I t) fun us y i=>jZ i fun vs H1 a r q=>⟨a.kIn,?_⟩) (bC h1) (bH h2);exact bP (rS Gq0 (d.mono v) D.b n a.unwish r q) fun _ _ q=>q.ws⟩
def fY(i:Nat)(T:List<|Str×FF)(Pf:afq)(α:qg):FM:=fun Y L=>match Y[i]? with
 |some (J<|.cls g)=>(match T.lookup g with
  |some F=>(α Y L).bind<|fU Pf F
  |none=>.no)
 |_=>.no
theorem F3(t:X.N[i]?=J x)(W:m6 X.env.scope x)(hd:afz x)(b:(x==("__classdict__":Str))=η)
  (z:∀g F,T.lookup g=J F->∃f fd ps,DO K By g=J (J<|.ref f)/\abk X.K (.ref f)=G/\cf X.K fd ps []/\FnOk X.prog X.w X.K X.mg X.base (oI X.prog X.w X.mg) j f fd ps (sJ K mg Pf F))
  (m:Room k X.A) (S:MA X K mg P (e::es) α) (hj:j<=k) (D:qQ X) (h1:al e=G) (h2:es.all al=G):ME X K mg P (.Call (.Name x p) (e::es) [] pos)<|fY i T Pf α:=fun E=>⟨fun aa s Z H Q I q_=>Z62 q_ fun as B hs cl Y L M h=>by
 delta fY at h;left;cbv
 .rename_i g eg;cbv
  .rename_i F eF;refine Z34 (z g F eF) fun f fd ps V C d Gq0=>?_;obtain⟨v,o,y⟩:=M.var i _ eg;obtain⟨f',rfl,c⟩:=y;rw[V]at c;cases c;right;refine abc<|bP (qv (X:=X.ws E) i t W hd b aa s Z H (fun v H'=>v=.ref f/\H'=H) I<|fj o ⟨rfl,rfl⟩) ?_;rintro u s0⟨v,H0,I0,rv,e1,e2⟩;subst e1 e2;obtain rfl:u=.ref f:=rv;have R:RH ⟨K,mg,E⟩ P α Z H0 fun vs H1=>sJ K mg Pf F vs H1 Q<|AR E Z:=⟨as,B,hs,cl,Y,L,M,bx h fun l vs μ1 O H1 a st A h1=>lC a A h1⟩;refine abK I0.ok.mod.kin C (bP ((S E).out pos aa s0 Z H0 _ I0 R) fun us s1 n=>jZ n fun vs H1 a r q=>⟨a.kIn,?_⟩) (bC h1)<|bH h2;exact bP (rS Gq0 (m.mono hj) d D a.unwish r q) fun _ _ q=>q.ws
  .right;mleft
 .right;mleft⟩
theorem dR.none:∀{fs:List<|Str×D}{xs:List<|Str×V}{bs:afv},dR K Hm H fs xs bs->fs.lookup m=U->xs.lookup m=U
 |[],_,_,⟨e,_⟩,_=>by subst e;rfl
 |(k,d)::fs,_,_,⟨v,r,c,e,f1,f2⟩,h=>by
  subst e;unfold acx at h⊢;cases q:m==k with
  |true=>mright
  |false=>rw[q]at h;exact f2.none h
def objB(n m:Str)(d:Option D):Bool:=match d with
 |some (.obj x fs)=>decide (x=n)&&(fs.lookup m).isNone
 |_=>η
theorem vq.objB(c:vq K Hm H d<|a::r)(h:objB n m (J d)=G)(g:DO K By n=J (J<|.ref C)):∃b xs,H a=J (.ins C b xs)/\xs.lookup m=U:=by
 delta L2.objB at h;cbv
 .rename_i x fs e;left;cases e;rw[oR,decide_eq_true_eq,adR]at h;obtain⟨rfl,h⟩:=h;refine Z33 c fun i b xs f h1 h2=>?_;rw[g]at f;cases f;right;exact⟨b,xs,h1,h2.none h⟩
 .nofun
def dM(k:Nat)(n m:Str)(Pf:afq)(F:FF)(α:qg):FM:=fun Y L=>if objB n m L[k]?=G then(α Y L).bind fun l L=>fU Pf F (.ob k::l) L else .no
abbrev Ep(env:Env)(o:aa1)(m:Str)(es:List aa1)(apos pos:Pos):Prop:=∃pl:Sem Bool,eval (.Call (.Attribute o m apos) es [] pos) env=(do
   let ov <-eval o env
   afh apos.atName
   let(f,first) <-holding [ov] (getMethod ov m pl)
   callWith pos f first (adz pos (abb es env)) (backToKw pos (adB [] env)))
theorem KJ(D:P[k0]?=J i)(V:X.N[i]?=J x)(hv:m6 X.env.scope x)(hd:afz x)(o:(x==("__classdict__":Str))=η)
  (hn:DO K By n=J (J<|.ref C)) (c:Cls X.K C) (t:Meth X.K C m f) (Gq0:FnOk X.prog X.w X.K X.mg X.base (oI X.prog X.w X.mg) j f fd ps<|sJ K mg Pf F) (hb:cf X.K fd ps []) (O:Room k X.A) (ha:MA X K mg P (e::es) α)
  (hj:j<=k) (W:qQ X) (h1:al e=G) (h2:es.all al=G) (g:Ep X.env (.Name x p) m (e::es) apos pos):ME X K mg P (.Call (.Attribute (.Name x p) m apos) (e::es) [] pos)<|dM k0 n m Pf F α:=fun E=>⟨fun aa s Z H Q I q_=>Z62 q_ fun as B hs cl Y L M h=>by
 left;obtain⟨pl,g⟩:=g;delta dM at h;cbv
 .rename_i hob;obtain⟨cc,d,e1,e2,⟨a,r,rfl,q1⟩,q2⟩:=M.at D;rw[e2]at hob;obtain⟨dx,xs,T,R⟩:=q2.objB hob hn;right;have ho:=fj (Q:=fun v H'=>v=.ref a/\H'=H) q1 ⟨rfl,rfl⟩;refine aec (bP (qv (X:=X.ws E) i V hv hd o aa s Z H _ I ho) fun u s1 q_=>Z24 q_ fun v H1 b rv z1 z2=>?_) g;subst z1 z2;obtain rfl:u=abJ a:=rv;refine ua b T c t R ?_;have hA:RH ⟨K,mg,E⟩ P α Z H1 fun vs z=>sJ K mg Pf F (.ref a::vs) z Q<|AR E Z:=⟨as,B,hs,cl,Y,L,M,bx h fun l vs μ1 cl1 H1 b st A h1=>lC (l:=.ob k0::l) b ⟨.ref a,vs,i,rfl,D,q1,A⟩ h1⟩;refine abK I.ok.mod.kin t.kp (bP ((ha E).out pos aa s1 Z H1 _ b hA) fun us s2 S=>jZ S fun vs z y r q=>⟨y.kIn,?_⟩) (bC h1)<|bH h2;exact bP (rS (vs:=.ref a::vs) Gq0 (O.mono hj) hb W y.unwish (.cons rfl r) q) fun _ _ q=>q.ws
 .right;mleft⟩
theorem HE(o:P[k0]?=J i)(D:X.N[i]?=J x)(V:m6 X.env.scope x)(hd:afz x)(e:(x==("__classdict__":Str))=η)
  (R:DO K By n=J (J<|.ref C)) (c:Cls X.K C) (g:Meth X.K C m f) (Gq0:FnOk X.prog X.w X.K X.mg X.base (oI X.prog X.w X.mg) j f fd ps<|sJ K mg Pf F) (W:cf X.K fd ps []) (t:Room k X.A)
  (hj:j<=k) (O:qQ X) (b:Ep X.env (.Name x p) m [] apos pos):ME X K mg P (.Call (.Attribute (.Name x p) m apos) [] [] pos)<|dM k0 n m Pf F bj:=fun E=>⟨fun aa s Z H Q I q_=>Z62 q_ fun as B hs cl Y L M h=>by
 left;obtain⟨pl,b⟩:=b;delta dM at h;cbv
 .rename_i hob;obtain⟨cc,d,e1,S,⟨a,r,rfl,q1⟩,q2⟩:=M.at o;rw[S]at hob;obtain⟨dx,xs,z,y⟩:=q2.objB hob R;right;have T:=fj (Q:=fun v H'=>v=.ref a/\H'=H) q1 ⟨rfl,rfl⟩;refine aec (bP (qv (X:=X.ws E) i D V hd e aa s Z H _ I T) fun u s1 q_=>Z24 q_ fun v H1 I1 rv z1 z2=>?_) b;subst z1 z2;obtain rfl:u=abJ a:=rv;refine ua I1 z c g y ?_;refine adv I1.kIn g.kp<|bP (rS (vs:=[.ref a]) Gq0 (t.mono hj) W O I1.unwish (.cons rfl .nil)<|lC (l:=[.ob k0]) M ⟨.ref a,[],i,rfl,o,q1,rfl⟩ h) fun _ _ q=>q.ws
 .right;mleft⟩
end
inductive RS where
 |nx (Y:Sd) (L:afy)|bk (Y:Sd) (L:afy)|ct (Y:Sd) (L:afy)|rt (d:D) (L:afy)|er (x:Str) (L:afy)|no
abbrev gi:=Sd->afy->RS
noncomputable def lst(nl:Nat)(L:afy):afy:=L.drop<|L.length-nl
def RM.bs{α:Type}(nl:Nat)(r:RM α)(f:α->afy->RS):RS:=match r with
 |.ok a L=>f a L
 |.er x L=>.er x<|lst nl L
 |.no=>.no
def yz(W:Ct)(as:afv)(B:Hp)(hs:afv)(Pb P':afq)(r:RS)(D:Ends):Prop:=match r with
 |.nx Y L=>∀cl Z H,MI W.K as B hs P' cl Z Y L H->D.nx Z H
 |.bk Y L=>∀cl Z H,MI W.K as B hs Pb cl Z Y L H->D.bk Z H
 |.ct Y L=>∀cl Z H,MI W.K as B hs Pb cl Z Y L H->D.ct Z H
 |.rt d L=>∀v cl H,MO W.K as B hs cl L H->bQ W.K (aj (cl.flatten++as) H) d v->D.rt v H
 |.er x L=>∀y C Z cl H,MO W.K as B hs cl L H->W.mg x=J (.ref C)->W.E y C Z H
 |.no=>False
def sM(W:Ct)(nl:Nat)(Pb P P':afq)(φ:gi):TS:=fun D Z H=>∃as B hs cl Y L,hs.length=nl/\MI W.K as B hs P cl Z Y L H/\yz W as B hs Pb P' (φ Y L) D
def MS(X:Cx)(K:aT)(mg:afu)(nl:Nat)(Pb P P':afq)(s:abN)(φ:gi):Prop:=∀E,JS (X.ws E) s<|sM ⟨K,mg,E⟩ nl Pb P P' φ
def MB(X:Cx)(K:aT)(mg:afu)(nl:Nat)(Pb P P':afq)(s:List abN)(φ:gi):Prop:=∀E,JB (X.ws E) s<|sM ⟨K,mg,E⟩ nl Pb P P' φ
section
theorem cW{AS:Hp->α->β->Prop}(i:hs.length=nl)(h:yz W as B hs Pb P' (r.bs nl f) D')
  (q:∀a b μ1 c H1,MI W.K as B hs P c Z Y μ1 H1->Step as cl H c H1->AS (aj (c.flatten++as) H1) a b->yz W as B hs Pb P' (f a μ1) D'->Q b H1):qU W as B hs P Z Y cl H AS r Q:=by
 cases r with
 |ok a L=>exact fun b d H' I st e=>q a b L d H' I st e h
 |er x L=>exact fun y C d H' I g=>h y C Z _ H' (i▸I.mo) g
 |no=>exact h
theorem MI.set{K:aT}(I:MI K as B hs P cl Z Y L H)(b:i∉P)(g:bQ K (aj (cl.flatten++as) H) d v):MI K as B hs P cl (Z.set i<|J v) (Y.set i<|J d) L H where
 len:=by simp[I.len]
 ex:=I.ex
 sb:=I.sb
 fb:=I.fb
 nd:=I.nd
 dj:=I.dj
 var:=fun j e q=>by
  rw[getElem?_set']at q⊢;split at q
  .rename_i hij;rw[afk hij];split at q
   .rename_i hl;rw[afk<|by rw[<-I.len];exact hl];mright
   .cases q
  .rename_i hij;rw[afl hij];exact I.var j e q
 lp:=I.lp
 lm:=I.lm
 ob:=fun k j c d h1 h2 f=>by
  have a:i≠j:=fun z=>b<|z▸Do h1;rw[abC a];exact I.ob k j c d h1 h2 f
 hl:=I.hl
 hd:=I.hd
end
section
variable{X:Cx}{K:aT}{mg:afu}{nl:Nat}{P Pb P' P'':afq}{pos:Pos}{e c:aa1}{φ:FM}{τ:lM}{α:qg}{ψ χ:gi}{st:abN}{sts:List abN}
def qM(nl i:Nat)(φ:FM):gi:=fun Y L=>(φ Y L).bs nl fun d L=>.nx (Y.set i<|J d) L
theorem Ow(j:i∉P)(b:X.N.Nodup)(m:Loc X.env.scope x)(f:ME X K mg P e φ)(l:X.N[i]?=J x)(hs:abm e (J<|.Name x pos') pos.line X.env=pure η)(g:X.fn x=G\/X.env.scope.names.lookup x=J .local):
  MS X K mg nl Pb P P (.Assign [.Name x pos'] e pos) (qM nl i φ):=fun E=>(pw (X:=X.ws E) b m (f E) l hs g).imp (by intro D Z H q_;refine Z63 q_ fun as B h0 cl Y L hl I h=>?_;exact ⟨as,B,h0,cl,Y,L,I,cW hl h fun d v μ1 a H1 k st c h1=>h1 a _ H1<|k.set j c⟩)
def sr(nl:Nat)(φ:FM):gi:=fun Y L=>(φ Y L).bs nl fun _ L=>.nx Y L
theorem KK(b:ME X K mg P e φ)(hs:abm e U pos.line X.env=pure η):MS X K mg nl Pb P P (.Expr e pos)<|sr nl φ:=fun E=>(n9 (b E) hs).imp (by intro D Z H q_;refine Z63 q_ fun as B h0 cl Y L hl I h=>?_;exact ⟨as,B,h0,cl,Y,L,I,cW hl h fun d v μ1 a H1 c st f h1=>h1 a _ H1 c⟩)
def xz(nl:Nat)(φ:FM):gi:=fun Y L=>(φ Y L).bs nl fun d L=>.rt d<|lst nl L
theorem QM(b:ME X K mg P e φ):MS X K mg nl Pb P P' (.Return (J e) pos)<|xz nl φ:=fun E=>(Fh<|b E).imp (by intro D Z H q_;refine Z63 q_ fun as B h0 cl Y L hl I h=>?_;exact ⟨as,B,h0,cl,Y,L,I,cW hl h fun d v μ1 c H1 f st a h1=>h1 v _ H1 (hl▸f.mo)<|a.mono<|hl▸rM _ _ _ _⟩)
def UF(nl:Nat):gi:=fun _ L=>.rt .non<|lst nl L
def pf(nl:Nat)(τ:lM)(ψ χ:gi):gi:=fun Y L=>(τ Y L).bs nl fun b L=>if b=G then ψ Y L else χ Y L
theorem Ur(g:MT X K mg P c τ)(i:MB X K mg nl Pb P P' a ψ)(j:MB X K mg nl Pb P P' b χ):MS X K mg nl Pb P P' (.If c a b pos)<|pf nl τ ψ χ:=fun E=>(N6 (g E) (i E)<|j E).imp (by intro D Z H q_;refine Z63 q_ fun as B h0 cl Y L hl I h=>?_;exact ⟨as,B,h0,cl,Y,L,I,cW hl h fun c k μ1 d H1 f st e h1=>by
  subst e;cases c with
  |true=>exact⟨as,B,h0,d,Y,μ1,hl,f,h1⟩
  |false=>exact⟨as,B,h0,d,Y,μ1,hl,f,h1⟩⟩)
def qG:gi:=fun Y L=>.nx Y L
noncomputable def bZ(ψ χ:gi):gi:=fun Y L=>match ψ Y L with
 |.nx Y L=>χ Y L
 |r=>r
theorem Q2(h:MS X K mg nl Pb P P' st ψ):MB X K mg nl Pb P P' [st] ψ:=fun E=>GK<|h E
theorem Kk(h1:MS X K mg nl Pb P P' st ψ)(h2:MB X K mg nl Pb P' P'' sts χ):MB X K mg nl Pb P P'' (st::sts)<|bZ ψ χ:=fun E=>(C0 (h1 E)<|h2 E).imp fun D Z H q_=>Z63 q_ fun as B h0 cl Y L hl I h=>by
 refine⟨as,B,h0,cl,Y,L,hl,I,?_⟩;delta bZ at h;cases hr:ψ Y L with
 |nx a μ1=>rw[hr]at h;exact fun cl Z H I=>⟨as,B,h0,cl,a,μ1,hl,I,h⟩
 |_=>rw[hr]at h;exact h
def bV(nl:Nat)(τ:lM)(ψ:gi):Nat->gi
 |0,_,_=>.no
 |n+1,Y,L=>(τ Y L).bs nl fun b L=>if b=G then(match ψ Y L with
  |.nx Y L=>bV nl τ ψ n Y L
  |.ct Y L=>bV nl τ ψ n Y L
  |.bk Y L=>.nx Y L
  |r=>r)else .nx Y L
theorem EO(n:Nat)(g:X.stack=X.env::X.outer)(p:X.env.frame=J X.env.locals)(u:MT X K mg P c τ)(z:MB X K mg nl P P P sts ψ):MS X K mg nl Pb P P (.While c sts [] pos)<|bV nl τ ψ n:=fun E=>(yn ((by
  rintro e s' ⟨Z,H,x,C,fl,rfl,I,ea,hE⟩;have o:X.A.frames=(X.env::X.outer):=by rw[<-g];exact I.ok.frames
  show notedBy (aaO X.prog X.w) X.A X.env (cameBackBy (aaO X.prog X.w) X.A X.env (XS X E)) (.ref x) s';refine rV p o g p I ea fun h1 r e1=>?_;left;refine Z26 e1.ob fun W vs b1 b2 t V N s=>?_;refine Z37 (s _ rfl) fun F oT ts c1 c2 Q O T R M=>?_;right;refine iF (abn b1 t c1 ?_);exact jL r e1 X.env.frame fun a l v=>⟨Z,H,x,C,_,rfl,l,v,hE⟩)) (u E) (z E)).imp fun D' Z H q_=>Z63 q_ fun as B h0 cl Y L hl I h=>by
 refine⟨fun m Z H=>∃cl Y L,MI K as B h0 P cl Z Y L H/\yz ⟨K,mg,E⟩ as B h0 Pb P (bV nl τ ψ m Y L) D',⟨n,cl,Y,L,I,h⟩,?_⟩;rintro m σ3 H3 ⟨cl3,δ3,μ3,I3,h3⟩;cases m with
 |zero=>exact h3.elim
 |succ m=>
  refine⟨as,B,h0,cl3,δ3,μ3,I3,cW hl h3 fun b S j k y l D e a=>?_⟩;subst e;cases b with
  |false=>exact a k σ3 y l
  |true=>
   refine⟨fun i H'=>∃cl Y L,MI K as B h0 P cl i Y L H'/\yz ⟨K,mg,E⟩ as B h0 Pb P (bV nl τ ψ m Y L) D',fun i H' q=>⟨m,adm m,q⟩,as,B,h0,k,δ3,j,hl,l,?_⟩;cases hr:ψ δ3 j with
   |nx f μ2=>rw[hr]at a;exact fun cl Z H I=>⟨cl,f,μ2,I,a⟩
   |ct f μ2=>rw[hr]at a;exact fun cl Z H I=>⟨cl,f,μ2,I,a⟩
   |bk f μ2=>rw[hr]at a;exact a
   |rt d μ2=>rw[hr]at a;exact a
   |er x μ2=>rw[hr]at a;exact a
   |no=>rw[hr]at a;exact a
theorem JS.xe(h:JS (X.wish E1) st t)(i:∀e s,E1 e s->E2 e s):JS (X.wish E2) st t:=⟨fun aa s Z H D I q=>aaP (h.out aa s Z H D (I.unwish.wish _) q) (fun f s' z=>by
 cases f with
 |next=>obtain⟨a,H',b,q⟩:=z;exact⟨a,H',b.unwish.wish _,q⟩
 |brk=>obtain⟨a,H',b,q⟩:=z;exact⟨a,H',b.unwish.wish _,q⟩
 |cont=>obtain⟨a,H',b,q⟩:=z;exact⟨a,H',b.unwish.wish _,q⟩
 |ret u=>obtain⟨v,a,H',b,r,q⟩:=z;exact⟨v,a,H',b.unwish.wish _,r,q⟩) i⟩
def RL(nl:Nat)(a:Str)(α:qg):gi:=fun Y L=>(α Y L).bs nl fun l L=>if l.length<=10 then .er a (lst nl L)else .no
theorem Args.lenV:∀{l:List AD}{vs:afx},Args K P Z Hm l vs->l.length=vs.length
 |[],_,h=>by subst h;rfl
 |.pl d::l,_,⟨v,r,e,h1,h2⟩=>by subst e;exact afp (·+1) h2.lenV
 |.ob k::l,_,⟨v,r,i,e,h1,h2,h3⟩=>by subst e;exact afp (·+1) h3.lenV
theorem FB(a:X.mg cn=J (.ref C))(k:mg=X.mg)(i:acF X.K C Gj "ValueError.__new__"=G)(r:MA X K mg P (e::es) α)(o:X.calm=G)(m:qQ X)(g:Gl X cn)(c:(cn==("__debug__":Str))=η)
  (h1:(e::es).all al=G):MS X K mg nl Pb P P' (.Raise (J<|.Call (.Name cn np) (e::es) [] cpos) U pos)<|RL nl cn α:=fun E=>by
 let E1:XK:=fun y C H=>∃b d,y=.ref b/\C=J d/\∀Z,E b d Z H
 have j:JS (X.may E1) (.Raise (J<|.Call (.Name cn np) (e::es) [] cpos) U pos)<|ZB C E1<|RH ⟨K,mg,fun x C Z H=>E1 (.ref x) (C) H⟩ P α:=⟨DH a i o m (r fun x C Z H=>E1 (.ref x) (C) H).out g c h1⟩;refine(JS.xe (E2:=XS X E) j fun e s⟨Z,H,x,C,fl,e1,I,ea,b,d,e2,e3,q⟩=>?_).imp fun D Z H q_=>Z63 q_ fun as B h0 cl Y L hl I h=>⟨as,B,h0,cl,Y,L,I,?_⟩
 .cases e2;cases e3;exact⟨Z,H,x,C,fl,e1,I,ea,q Z⟩
 .have h':yz ⟨K,mg,fun x C Z H=>E1 (.ref x) (C) H⟩ as B h0 Pb P' (RL nl cn α Y L) D:=by
   cases hr:RL nl cn α Y L with
   |er x p=>rw[hr]at h;exact fun y C Z cl H O a=>⟨y,C,rfl,rfl,fun Z=>h y C Z cl H O a⟩
   |_=>rw[hr]at h;exact h
  refine cW hl h' fun l vs μ1 n H1 f st A h1=>?_;split at h1
  .rename_i hl2;exact⟨by rw[<-A.lenV];exact hl2,fun x=>h1 x C Z _ H1 (hl▸f.mo)<|by rw[k];exact a⟩
  .exact h1.elim
end
section
variable{P:abf}{w:abh}{K:aT}{mg:afu}{base:acn}{Pf P':afq}{N ps:afr}{nl:Nat}{ψ:gi}
def aZ(n:Nat)(Y:Sd):Sd:=Y++aaA (n-Y.length) U
def bF(nl:Nat)(ψ:gi)(n k:Nat):FF:=fun Y L=>if Y.length=k/\L.length=nl then(match ψ (aZ n Y) L with
 |.nx _ L=>.ok .non<|lst nl L
 |.rt d L=>.ok d L
 |.er x L=>.er x L
 |_=>.no)else .no
theorem MI.start(I:MI K as B hs Pf cl (vs.map J) Y L H):MI K as B hs Pf cl (start N vs) (aZ N.length Y) L H where
 len:=by have:=I.len;delta aZ L2.start;simp at this⊢;mright
 ex:=I.ex
 sb:=I.sb
 fb:=I.fb
 nd:=I.nd
 dj:=I.dj
 var:=fun i d e=>by
  have hl:=I.len;delta aZ at e;delta L2.start;by_cases b:i<Y.length
  .rw[aaX b]at e;rw[aaX<|by simp_all];exact I.var i d e
  .rw[aaI<|by simp_all]at e
   grind
 lp:=I.lp
 lm:=I.lm
 ob:=fun k i c d h1 h2 f=>by
  obtain⟨⟨a,r,e,z⟩,q⟩:=I.ob k i c d h1 h2 f;refine⟨⟨a,r,e,?_⟩,q⟩;delta L2.start;rw[aaX (rW.mp z).1];exact z
 hl:=I.hl
 hd:=I.hd
theorem BL(h:sJ K mg Pf (bF nl ψ N.length ps.length) vs H Q E):sM ⟨K,mg,fun y C Z H=>E (.ref y) (J C) H⟩ nl [] Pf P' ψ {nx:=fun _ H'=>Q .non H',rt:=Q} (start N vs) H:=by
 left;obtain⟨as,B,hs,cl,Y,L,i,I,h⟩:=h;right;delta bF at h;cbv
 .rename_i hc;have a:hs.length=nl:=by rw[i,<-I.lm];exact hc.2
  refine⟨as,B,hs,cl,_,L,a,I.start,?_⟩;cases hr:ψ (aZ N.length Y) L with
  |nx f μ1=>rw[hr]at h;exact fun b g H1 e=>h .non _ H1 (a▸e.mo) rfl
  |rt d μ1=>rw[hr]at h;assumption
  |er x μ1=>rw[hr]at h;exact fun y C Z b H1 O c=>h y C b H1 O c
  |bk _ _=>rw[hr]at h;mleft
  |ct _ _=>rw[hr]at h;mleft
  |no=>rw[hr]at h;mleft
 .mleft
theorem BW:∀vs H Q E,sJ K mg Pf (bF nl ψ N.length ps.length) vs H Q E->vs.length=ps.length:=fun vs H Q E h=>by
 obtain⟨as,B,hs,cl,Y,L,a,I,h⟩:=h;delta bF at h;cbv
 .rename_i hc
  have:=I.len
  rw[aaU,hc.1]at this;exact this.symm
 .mleft
theorem Fun.okO{st:abN}(F:Fun K x qual st f fd)(S:FnScope N ps<|ai st)
  (c:∀(b:nE)(_:Ea K b qual=G)(A:abF)(a:List Env)(s:ID)(H:Hp)(E:XK),Room k (A.deeper<|ac4 qual (ai st) s.heap.objs.size f b) ->
   MB (gw (oI P w mg) P w K mg base N qual (ai st) f b A a s H E) K mg nl [] Pf P' (bL st) ψ):FnOk P w K mg base (oI P w mg) (k+1) f fd ps (sJ K mg Pf (bF nl ψ N.length ps.length)):=by
 obtain⟨l,o,kV,h,m,n,b,j,i,rfl,lk,d⟩:=F.ex;exact Qu lk (tF d) S BW fun A a s H vs Q E g e=>⟨_,((c b d A a s H E g) fun y C Z H=>E (.ref y) (C) H).out,BL e⟩
def calmO(F:FF):afy->R D:=fun ds=>match F (ds.map J) []with
 |.ok d _=>.ok d
 |_=>.no
theorem PC(h:ay K H ds vs){i:Nat}(e:(ds.map J)[i]?=J (J d)):∃v,(vs.map J)[i]?=J (J v)/\bQ K H d v:=by
 rw[aa4]at e;obtain⟨d',e1,a⟩:=dO.mp e;obtain⟨v,h1,h2⟩:=h.get e1;mright
theorem FnOk.calmO(Gq0:FnOk P w K mg base (oI P w mg) k f fd ps<|sJ K mg [] F):FnOk P w K mg base lD k f fd ps<|rj K mg<|calmO F:=by
 have p:∀vs H Q E,rj K mg (L2.calmO F) vs H Q E->sJ K mg [] F vs H Q (fun _ _ _=>False):=fun vs H Q E q_=>Z23 q_ fun as ds ex dv h=>by
  refine⟨as,H,[],[],ds.map J,[],rfl,⟨by rw[aaU,aaU];exact dv.len,ex,ah.refl _,fun c m=>(nomatch m),fun c m=>(nomatch m),fun i j c y a h1=>(by cases h1),fun i d e=>PC dv e,rfl,rfl,fun k i c d h1=>(by mright),mK _,rfl⟩,?_⟩
  delta L2.calmO at h;cases g:F (ds.map J) []with
  |ok d L=>
   rw[g]at h;intro v cl H' O n;have  := by have:=O.hd;simpa using this
   subst this;exact h v H' O.sb n
  |er x L=>rw[g]at h;mleft
  |no=>rw[g]at h;mleft
 refine⟨fun vs H Q E h=>Gq0.len vs H Q _<|p _ _ _ _ h,fun A b s H l us vs Q E g q u t hs=>acV (Gq0.run A b s H l us vs Q _ g q u t<|p _ _ _ _ hs) fun r s' o=>?_⟩;cases r with
 |error e=>refine Z37 o fun _ _ _ _ _ _ _ _ _ z=>?_;exact z.elim
 |ok fl=>cases fl<;>exact o
end
section
variable{K:aT}
theorem MI.mut(I:MI K as B hs P cl Z Y L H)(a:cl[k]?=J c)(l:b∈c)(h:vq K (aj (cl.flatten++as) H) (br H b o) d' c):
  MI K as B hs P cl Z Y (L.set k d') (br H b o)/\Step as cl H cl (br H b o):=by
 have f:b∈cl.flatten++as:=Le _<|cH.mpr ⟨k,c,a,l⟩;have g:=iR (o:=o) (H:=H) f;refine⟨⟨I.len,I.ex,fun x u e=>?_,I.fb,I.nd,I.dj,fun i d e=>by rw[g];exact I.var i d e,I.lp,by rw[List.length_set];exact I.lm,fun j i s d h1 h2 m=>?_,I.hl,I.hd⟩,by show ah _ _;rw[g];exact ah.refl _⟩
 .have:x≠b:=fun z=>by rw[z,I.fb c (Do a) b l]at e;cases e
  rw[aG this];exact I.sb x u e
 .rw[g];by_cases n:k=j
  .have hl:k<L.length:=by rw[I.lm];grind
   refine Z24 (I.get a) fun C t w v y A=>?_;mright
  .rw[abC n]at m;obtain⟨q,p⟩:=I.ob j i s d h1 h2 m;exact⟨q,p.mono (ah.refl _) fun x r u e=>by
    have:x≠b:=fun z=>n<|I.dj _ _ _ _ x a h2 (z▸l) r
    rw[aG this];exact e⟩
end
noncomputable def xU(f:Str)(d:D):List (Str×D)->List (Str×D)
 |[]=>[(f,d)]
 |(g,x)::r=>if g=f then(g,d)::r else(g,x)::xU f d r
def wt(d:D):Bool:=(xO d).isSome
section
variable{K:aT}
theorem iW.pl(h:wt d=η):iW K Hm H d v bs c↔bs=c/\bQ K Hm d v:=by
 delta wt at h;delta iW;mright
theorem dR.put(hd:wt d=η)(a:bQ K Hm d v):∀{fs:List<|Str×D}{xs:List<|Str×V}{bs:afv},dR K Hm H fs xs bs->(∀x,fs.lookup f=J x->wt x=η)->dR K Hm H (xU f d fs) (f9 f v xs) bs
 |[],_,_,⟨e1,e2⟩,_=>by subst e1 e2;exact⟨v,[],[],rfl,(iW.pl hd).mpr ⟨rfl,a⟩,rfl,rfl⟩
 |(g,x)::fs,_,bs,⟨u,r,c,e,f1,f2⟩,h=>by
  subst e;unfold xU f9;by_cases q:g=f
  .rw[afk q,afk q];have hx  := h x (by mright)
   have:=(iW.pl hx).mp f1
   exact⟨v,r,c,rfl,(iW.pl hd).mpr ⟨this.1,a⟩,f2⟩
  .rw[afl q,afl q];refine⟨u,_,c,rfl,f1,f2.put hd a fun y b=>?_⟩
   grind
theorem dR.lenF:∀{fs:List<|Str×D}{xs:List<|Str×V}{bs:afv},dR K Hm H fs xs bs->fs.length=xs.length
 |[],_,_,⟨e1,e2⟩=>by subst e1;rfl
 |(g,x)::fs,_,bs,⟨u,r,c,e,f1,f2⟩=>by subst e;exact afp (·+1) f2.lenF
theorem dR.lsm:∀{fs:List<|Str×D}{xs:List<|Str×V}{bs:afv},dR K Hm H fs xs bs->fs.lookup f=J (.lsm ds)->bs.Nodup->∃b ys,xs.lookup f=J (.ref b)/\b∈bs/\H b=J (.lst ys)/\ay K Hm ds ys /\
  ∀d a,ay K Hm d a->dR K Hm (br H b<|.lst a) (xU f (.lsm d) fs) xs bs
 |[],_,_,_,h,_=>by nofun
 |(g,x)::fs,_,bs,⟨u,r,c,e,f1,f2⟩,h,nd=>by
  subst e;by_cases q:g=f
  .subst q;rw[aaQ,beq_self_eq_true]at h;nofun;obtain⟨b,ys,rfl,rfl,h1,h2⟩:=f1;rw[aaK]at nd;refine⟨b,ys,by rw[aaQ,beq_self_eq_true],aax,h1,h2,fun d a k=>?_⟩;unfold xU;rw[afk rfl];exact⟨.ref b,r,c,rfl,⟨b,a,rfl,rfl,aE,k⟩,f2.mono (ah.refl _) fun i l o e=>by
    rw[aG (by rintro rfl;exact nd.1 l)];exact e⟩
  .have qf:(f==g)=η:=⊥
   rw[aaQ,qf]at h;have j:c.Nodup/\∀b∈c,∀i ys,xO x=ys->bs=i::c->b≠i:=by
    delta iW at f1
    grind
   left;refine Z25 (f2.lsm h j.1) fun b ys B m v w p=>?_;right;refine⟨b,ys,by grind,f1.sub b m,v,w,fun d a k=>?_⟩;unfold xU;rw[afl q];refine⟨u,r,c,rfl,?_,p d a k⟩;delta iW at f1⊢;cases el:xO x with
   |none=>mright
   |some dl=>
    rw[el]at f1;refine Z24 f1 fun i t n s y A=>?_;exact⟨i,t,n,s,by rw[aG fun z=>j.2 b m i dl el n z.symm];exact y,A⟩
end
section
variable{X:Cx}{K:aT}{mg:afu}{nl:Nat}{P Pb:afq}{pos apos cpos p1 fpos:Pos}{e:aa1}{φ:FM}
noncomputable def xm(L:afy)(k:Nat):Option<|afy:=match L[k]? with
 |some (.lst ds)=>J ds
 |_=>U
theorem MI.lst(I:MI K as B hs P cl Z Y L H)(j:P[k]?=J i)(h:xm L k=J ds):
  ∃a xs,Z[i]?=J (J<|.ref a)/\H a=J (.lst xs)/\ay K (aj (cl.flatten++as) H) ds xs/\∀e b,ay K (aj (cl.flatten++as) H) e b->MI K as B hs P cl Z Y (L.set k<|.lst e) (br H a<|.lst b)/\Step as cl H cl (br H a<|.lst b):=by
 left;obtain⟨c,d,e1,l,⟨a,r,rfl,q1⟩,q2⟩:=I.at j;right;delta xm at h;rw[l]at h;cases d with
 |lst f=>
  nofun;cases r with
  |nil=>
   obtain⟨xs,h1,h2⟩:=q2;exact⟨a,xs,q1,h1,h2,fun e b g=>I.mut e1 aax ⟨b,aE,g⟩⟩
  |cons _ _=>exact q2.elim
 |_=>nofun
def L3(k:Nat)(α:qg):FM:=fun Y L=>(α Y L).bind fun l L=>match f8 l,xm L k with
 |some [d],J ds=>if ds.length<1000000 then .ok .non (L.set k<|.lst<|ds++[d])else .no
 |_,_=>.no
theorem Ql(p:P[k]?=J i)(F:MA X K mg P [e] α)(y:X.N[i]?=J x)(R:al e=G)(b:(apos.endLine==cpos.line)=G)(M:m6 X.env.scope x)(hd:afz x)(g:(x==("__classdict__":Str))=η)
  (c:aaF (.Name x p1) "append" X.env (eval (.Name x p1) X.env)=eval (.Name x p1) X.env):
  ME X K mg P (.Call (.Attribute (.Name x p1) "append" apos) [e] [] cpos) (fun Y L=>if(xm L k).isSome=G then L3 k α Y L else .no):=fun E=>
 (DK (X:=X.ws E) aaW abL abM gq (jv i y M hd g) (F E) c b (by mright) (show 1<29 by simp)).imp fun Z H Q q_=>Z62 q_ fun as B hs cl Y L I h=>by
  dsimp only at h;cbv
  .rename_i hs1;obtain⟨q,u⟩:=acd.mp hs1;refine Z24 (I.lst p u) fun a xs q1 q2 S _=>?_;refine fj q1 ?_;refine⟨.inl ⟨rfl,xs,gr.of q2⟩,as,B,hs,cl,Y,L,I,bx h fun l vs μ1 m H1 s st A h1=>?_⟩;split at h1
   .rename_i d ds hp hg1;obtain⟨v,r,rfl,C,t⟩:=A.plain hp;subst t;split at h1
    .refine Z24 (s.lst p hg1) fun O f n w o D=>?_;rw[q1]at n;cases n;obtain⟨z,j⟩:=D (ds++[d]) (f++[v])<|o.append<|ay.cons C ay.nil;exact⟨a,f,v,rfl,rfl,w,by have:=ck;rw[<-o.len];lia,h1 _ m _ z j rfl⟩
    .exact h1.elim
   .exact h1.elim
  .mleft
noncomputable def S3(k:Nat)(ds:afy)(L:afy):RM D:=match ds[ds.length-1]? with
 |some d=>.ok d<|L.set k<|.lst ds.dropLast
 |none=>.no
def Qo(k:Nat):FM:=fun _ L=>match xm L k with
 |some ds=>S3 k ds L
 |none=>.no
theorem Rv(p:P[k]?=J i)(m:X.N[i]?=J x)(b:(apos.endLine==cpos.line)=G)(q:m6 X.env.scope x)(hd:afz x)(f:(x==("__classdict__":Str))=η)
  (c:aaF (.Name x p1) "pop" X.env (eval (.Name x p1) X.env)=eval (.Name x p1) X.env):ME X K mg P (.Call (.Attribute (.Name x p1) "pop" apos) [] [] cpos)<|Qo k:=fun E=>
 (Cg (X:=X.ws E) aaW ab2 ab3 wN (jv i m q hd f) c b).imp fun Z H Q q_=>Z62 q_ fun as B hs cl Y L I h=>by
  delta Qo at h;cases hg:xm L k with
  |none=>rw[hg]at h;mleft
  |some ds=>
   rw[hg]at h;refine Z24 (I.lst p hg) fun a xs q1 q2 g l=>?_;dsimp only at h;delta S3 at h;cbv
   .rename_i d ed;obtain⟨v,n,j⟩:=g.get ed;obtain⟨o,e⟩:=l ds.dropLast xs.dropLast g.dropLast;refine fj q1 ?_;exact⟨.inl ⟨rfl,xs,gr.of q2⟩,a,xs,v,rfl,rfl,q2,by rw[<-g.len];exact n,h v cl _ o e<|j.mono e⟩
   .mleft
noncomputable def yE(L:afy)(k:Nat)(n f:Str):Option<|afy:=match L[k]? with
 |some (.obj x fs)=>if x=n then(match fs.lookup f with
  |some (.lsm ds)=>J ds
  |_=>U)else U
 |_=>U
def L5(L:afy)(k:Nat)(f:Str)(ds:afy):afy:=match L[k]? with
 |some (.obj x fs)=>L.set k<|.obj x<|xU f (.lsm ds) fs
 |_=>L
theorem MI.fld(I:MI K as B hs P cl Z Y L H)(w:P[k]?=J i)(l:DO K By n=J (J<|.ref C))(h:yE L k n f=J ds):
  ∃a j fs b xs,Z[i]?=J (J<|.ref a)/\H a=J (.ins C j fs)/\fs.lookup f=J (.ref b)/\H b=J (.lst xs)/\ay K (aj (cl.flatten++as) H) ds xs/\∀g e,ay K (aj (cl.flatten++as) H) g e->MI K as B hs P cl Z Y (L5 L k f g) (br H b<|.lst e)/\Step as cl H cl (br H b<|.lst e):=by
 left;obtain⟨c,d,e1,m,⟨a,r,rfl,q1⟩,q2⟩:=I.at w;right;delta yE at h;rw[m]at h;cases d with
 |obj x fs=>
  dsimp only at h;cbv
  .rename_i ex;subst ex;cbv
   .rename_i ds0 el;left;nofun;refine Z33 q2 fun y j xs o h1 h2=>?_;rw[l]at o;cases o;have nd:=I.nd _<|Do e1;rw[aaK]at nd;refine Z25 (h2.lsm el nd.2) fun b ys q p t v s=>?_;right;refine⟨a,j,xs,b,ys,q1,h1,q,t,v,fun g e u=>?_⟩;delta L5;rw[m];exact I.mut e1 (ie _ p) ⟨C,j,xs,l,by rw[aG<|⊥];exact h1,s g e u⟩
   .nofun
  .nofun
 |_=>nofun
theorem FG{a b C c:aaB}(h1:Z[i]?=J (J<|.ref a))(h2:H a=J (.ins C c fs))(e:Cls K C)(d:a9 K C f)(g:fs.lookup f=J v)(q:Q v H):Vz K (z8 i) f Z H Q:=
 fj h1 ⟨a,C,c,fs,v,rfl,h2,e,d,g,q⟩
def nr(k:Nat)(n f:Str)(φ:FE):FM:=fun Y L=>match yE L k n f,φ Y with
 |some ds,.ok d=>if ds.length<1000000 then .ok .non (L5 L k f<|ds++[d])else .no
 |_,_=>.no
theorem LV{φ:FE}(y:P[k]?=J i)(w:DO K By n=J (J<|.ref C))(S:Cls K C)(hf:a9 K C f)(he:∀A,JE (X.wish A) e<|tD ⟨K,mg,E0⟩ [] φ)(F:X.N[i]?=J x)(l:al e=G)(c:(apos.endLine==cpos.line)=G)(hv:m6 X.env.scope x)(hd:afz x)(o:(x==("__classdict__":Str))=η)
  (j:aaF (.Name x p1) f X.env (eval (.Name x p1) X.env)=eval (.Name x p1) X.env) (m:aaF (.Attribute (.Name x p1) f fpos) "append" X.env (eval (.Attribute (.Name x p1) f fpos) X.env)=eval (.Attribute (.Name x p1) f fpos) X.env) (O:X.K=K):
  ME X K mg P (.Call (.Attribute (.Attribute (.Name x p1) f fpos) "append" apos) [e] [] cpos) (nr k n f φ):=fun E=>
 (DK (X:=X.ws E) aaW abL abM gq ⟨AO (qv i F hv hd o) j⟩ (bU (he _) eD l) m c (by mright) (show 1<29 by simp)).imp fun Z H Q q_=>Z62 q_ fun as B hs cl Y L I h=>by
  subst O;delta nr at h;left;cbv
  .rename_i ds d hg hφ;refine Z56 (I.fld y w hg) fun a dx fs b xs q1 q2 z D q5 q6=>?_;right;refine FG (b:=b) q1 q2 S hf z ?_;refine⟨.inl ⟨rfl,xs,gr.of D⟩,cl.flatten++as,H,[],Y,I.di,?_⟩;rw[hφ];intro v H' s R;left;cbv
   .have I':=I.mono s;refine Z56 (I'.fld y w hg) fun a' T V b' g r q u W t w6=>?_;rw[q1]at r;cases r;rw[s _ _ q2]at q;cases q;rw[z]at u;cases u;obtain⟨M,p⟩:=w6 (ds++[d]) (g++[v])<|t.append<|ay.cons R ay.nil;right;exact⟨b,g,v,rfl,rfl,W,by have:=ck;rw[<-t.len];lia,h _ cl _ M ((aA s).trans p) rfl⟩
   .right;mleft
  .right;mleft
def mh(k:Nat)(n f:Str):FM:=fun _ L=>match yE L k n f with
 |some ds=>(match ds[ds.length-1]? with
  |some d=>.ok d<|L5 L k f ds.dropLast
  |none=>.no)
 |none=>.no
theorem KA(z:P[k]?=J i)(y:DO K By n=J (J<|.ref C))(w:Cls K C)(A:a9 K C f)(q:X.N[i]?=J x)(c:(apos.endLine==cpos.line)=G)(D:m6 X.env.scope x)(hd:afz x)(l:(x==("__classdict__":Str))=η)
  (g:aaF (.Name x p1) f X.env (eval (.Name x p1) X.env)=eval (.Name x p1) X.env) (j:aaF (.Attribute (.Name x p1) f fpos) "pop" X.env (eval (.Attribute (.Name x p1) f fpos) X.env)=eval (.Attribute (.Name x p1) f fpos) X.env) (u:X.K=K):
  ME X K mg P (.Call (.Attribute (.Attribute (.Name x p1) f fpos) "pop" apos) [] [] cpos) (mh k n f):=fun E=>
 (Cg (X:=X.ws E) aaW ab2 ab3 wN ⟨AO (qv i q D hd l) g⟩ j c).imp fun Z H Q q_=>Z62 q_ fun as B hs cl Y L I h=>by
  subst u;delta mh at h;cbv
  .rename_i ds hg;cbv
   .rename_i d ed;left;refine Z56 (I.fld z y hg) fun a M fs b xs q1 q2 F o m p=>?_;obtain⟨v,r,s⟩:=m.get ed;obtain⟨t,e⟩:=p ds.dropLast xs.dropLast m.dropLast;right;refine FG (b:=b) q1 q2 w A F ?_;exact⟨.inl ⟨rfl,xs,gr.of o⟩,b,xs,v,rfl,rfl,o,by rw[<-m.len];exact r,h v cl _ t e<|s.mono e⟩
   .mleft
  .mleft
def aao(f:Str)(fs:List<|Str×D):Bool:=match fs.lookup f with
 |some y=>wt y
 |none=>η
def Xj(n f:Str)(d:D)(x:Str)(fs:List<|Str×D):Bool:=decide (x=n)&&!wt d&&decide (fs.length<1000)&&!aao f fs
theorem Re(h:Xj n f d x fs=G):x=n/\wt d=η/\fs.length<1000/\∀y,fs.lookup f=J y->wt y=η:=by
 delta Xj at h;simp only[oR,simp,abg]at h;obtain⟨⟨⟨a,b⟩,c⟩,d⟩:=h;refine⟨a,b,c,fun y e=>?_⟩;delta aao at d;rw[e]at d;exact d
def setA(n f:Str)(d:D)(o:Option D):Option D:=match o with
 |some (.obj x fs)=>if Xj n f d x fs=G then J (.obj x<|xU f d fs)else U
 |_=>U
theorem MI.setA(I:MI K as B hs P cl Z Y L H)(q:P[k]?=J i)(j:DO K By n=J (J<|.ref C))(h:L2.setA n f d L[k]?=J d')(p:bQ K (aj (cl.flatten++as) H) d v):
  ∃a g fs,Z[i]?=J (J<|.ref a)/\H a=J (.ins C g fs)/\fs.length<1000/\MI K as B hs P cl Z Y (L.set k d') (br H a<|.ins C g<|f9 f v fs)/\Step as cl H cl (br H a<|.ins C g<|f9 f v fs):=by
 left;obtain⟨c,m,e1,t,⟨a,r,rfl,q1⟩,q2⟩:=I.at q;right;delta L2.setA at h;rw[t]at h;cases m with
 |obj x fs=>
  dsimp only at h;cbv
  .rename_i hc;left;obtain⟨rfl,hd,u,s⟩:=Re hc;nofun;refine Z33 q2 fun w g xs l h1 h2=>?_;rw[j]at l;cases l;right;have nd:=I.nd _<|Do e1;rw[aaK]at nd;refine⟨a,g,xs,q1,h1,by rw[<-h2.lenF];exact u,I.mut e1 aax ⟨C,g,_,j,aE,?_⟩⟩;refine(h2.mono (ah.refl _) fun b y o e=>by rw[aG<|⊥];exact e).put hd p s
  .nofun
 |_=>nofun
def Bs(nl k:Nat)(n f:Str)(φ:FM):gi:=fun Y L=>(φ Y L).bs nl fun d L=>match setA n f d L[k]? with
 |some d'=>.nx Y<|L.set k d'
 |none=>.no
theorem K7(s:P[k]?=J i)(r:DO K By n=J (J<|.ref C))(q:Cls K C)(t:a9 K C f)(u:ME X K mg P e φ)(l:X.N[i]?=J x)(w:m6 X.env.scope x)(hd:afz x)(b:(x==("__classdict__":Str))=η)
  (hs:abm e (J<|.Attribute (.Name x p1) f pos') pos.line X.env=pure η) (o:X.K=K):MS X K mg nl Pb P P (.Assign [.Attribute (.Name x p1) f pos'] e pos)<|Bs nl k n f φ:=fun E=>
 JS.imp ⟨GB (qv i l w hd b) (u E).out hs⟩ fun D Z H q_=>Z63 q_ fun as B h0 cl Y L hl I h=>by
  subst o;refine⟨as,B,h0,cl,Y,L,I,cW hl h fun d v μ1 c H1 g st p h1=>?_⟩;left;split at h1
  .rename_i d' hs;refine Z35 (g.setA s r hs p) fun a j fs q1 q2 y m _=>?_;right;refine fj q1 ?_;exact⟨a,C,j,fs,rfl,q2,q,t,y,h1 c Z _ m⟩
  .right;exact h1.elim
def uE(k:Nat)(n f:Str)(j:Int):gi:=fun Y L=>match L[k]? with
 |some (.obj x fs)=>(match fs.lookup f with
  |some (.int i)=>(match setA n f (.int<|i+j) L[k]? with
   |some d'=>.nx Y<|L.set k d'
   |none=>.no)
  |_=>.no)
 |_=>.no
theorem dR.look:∀{fs:List<|Str×D}{xs:List<|Str×V}{bs:afv},dR K Hm H fs xs bs->fs.lookup f=J d->wt d=η->∃v,xs.lookup f=J v/\bQ K Hm d v
 |[],_,_,_,h,_=>by nofun
 |(g,x)::fs,_,bs,⟨u,r,c,e,f1,f2⟩,h,hd=>by
  subst e;rw[aaQ]at h⊢;cases q:f==g with
  |true=>rw[q]at h;nofun;exact⟨u,rfl,((iW.pl hd).mp f1).2⟩
  |false=>rw[q]at h;exact f2.look h hd
theorem K8(m:P[k]?=J i)(M:DO K By n=J (J<|.ref C))(A:Cls K C)(O:a9 K C f)(q:X.N[i]?=J x)(S:m6 X.env.scope x)(hd:afz x)(d:(x==("__classdict__":Str))=η)
  (z:X.K=K):MS X K mg nl Pb P P (.AugAssign (.Attribute (.Name x p1) f tpos) .Add (.Constant (.int j) jj vpos) pos)<|uE k n f j:=fun E=>
 JS.imp ⟨D6 (qv i q S hd d) AE OH⟩ fun D Z H q_=>Z63 q_ fun as B h0 cl Y L hl I h=>by
  subst z;obtain⟨c,p,e1,o,⟨a,r,rfl,q1⟩,q2⟩:=I.at m;delta uE at h;rw[o]at h;cases p with
  |obj y fs=>
   dsimp only at h;left;cbv
   .rename_i i0 el;cbv
    .rename_i d' hs;rw[<-o]at hs;refine Z35 (I.setA m M hs rfl) fun V e xs g b w u _=>?_;rw[q1]at g;cases g;refine Z33 q2 fun T F Q W l s=>?_;rw[b]at l;cases l;obtain⟨v,R,t⟩:=s.look el rfl;right;subst t;refine fj q1 ?_;exact⟨a,C,e,xs,.int i0,rfl,b,A,O,R,i0,j,rfl,rfl,e,xs,b,w,h cl Z _ u⟩
    .right;mleft
   .right;mleft
  |_=>mleft
end
section
variable{K:aT}
theorem n5(d:ah H H2)(new:∀a∈c,H a=U):ah (aj (cl.flatten++as) H)<|aj ((c::cl).flatten++as) H2:=fun b o e=>by
 have g:b∉cl.flatten++as:=fun z=>by rw[bT z]at e;cases e
 rw[av g]at e;have f:b∉(c::cl).flatten++as:=fun z=>by
  rw[ac8,aaE]at z
  grind
 rw[av f];exact d b o e
theorem MI.grow(I:MI K as B hs P cl Z Y L H)(w:i∉P)(hl:i<Z.length)(g:ah H H2)(new:∀a∈c,H a=U)(D:c=x::r)(nd:c.Nodup)(C:vq K (aj ((c::cl).flatten++as) H2) H2 d c):
  MI K as B hs (i::P) (c::cl) (Z.set i<|J<|.ref x) (Y.set i U) (d::L) H2 where
 len:=by simp[I.len]
 ex:=I.ex
 sb:=I.sb.trans g
 fb:=fun f h a u=>by
  rcases eQ.mp h with rfl|h
  .exact I.sb.free (new a u)
  .exact I.fb f h a u
 nd:=fun f h=>by
  rcases eQ.mp h with rfl|h
  .exact nd
  .exact I.nd f h
 dj:=fun m n c1 c2 a h1 h2 l p=>by
  have t:∀{j:Nat}{f:afv},cl[j]?=J f->a∈f->a∈c->False:=fun{j f}q1 q2 q3=>I.exi a (Le _<|cH.mpr ⟨j,f,q1,q2⟩)<|new a q3;cases m with
  |zero=>
   cases n with
   |zero=>rfl
   |succ n=>simp at h1 h2;subst h1;exact(t h2 p l).elim
  |succ m=>
   cases n with
   |zero=>simp at h1 h2;subst h2;exact(t h1 l p).elim
   |succ n=>simp at h1 h2;exact afp (·+1)<|I.dj m n c1 c2 a h1 h2 l p
 var:=fun j e q=>by
  rw[getElem?_set']at q;split at q
  .mright
  .obtain⟨v,h1,h2⟩:=I.var j e q;exact⟨v,by simp_all,h2.mono<|n5 g new⟩
 lp:=by simp[I.lp]
 lm:=by simp[I.lm]
 ob:=fun k j f d' h1 h2 l=>by
  cases k with
  |zero=>
   simp at h1 h2 l;mright
  |succ k=>
   have s:i≠j:=fun z=>w<|z▸Do h1;rw[abC s];obtain⟨A,y⟩:=I.ob k j f d' h1 h2 l;exact⟨A,y.mono (n5 g new) fun b _ o e=>g b o e⟩
 hl:=by have:=I.hl;simp;lia
 hd:=by
  have h1:=I.hl;have h2:=I.hd;rw[aaS,Nat.succ_sub h1];exact h2
end
section
variable{X:Cx}{K:aT}{mg:afu}{nl:Nat}{P Pb Pf:afq}{pos p cpos:Pos}{e:aa1}{es:List aa1}{φ:FM}{α:qg}{F F0:FF}
def P3(nl i:Nat)(α:qg):gi:=fun Y L=>(α Y L).bs nl fun l L=>match f8 l with
 |some ds=>if ds.length<=1000000/\i<Y.length then .nx (Y.set i U) (.lst ds::L)else .no
 |none=>.no
theorem PD(k:i∉P)(j:X.N.Nodup)(m:Loc X.env.scope x)(f:MA X K mg P es α)(g:X.N[i]?=J x)(hs:abm (.List es cpos) (J<|.Name x pos') pos.line X.env=pure η)(o:X.fn x=G\/X.env.scope.names.lookup x=J .local):
  MS X K mg nl Pb P (i::P) (.Assign [.Name x pos'] (.List es cpos) pos) (P3 nl i α):=fun E=>(pw (X:=X.ws E) j m (Hi<|f E) g hs o).imp (by intro D Z H q_;refine Z63 q_ fun as B h0 cl Y L hl I h=>?_;exact ⟨as,B,h0,cl,Y,L,I,cW hl h fun l vs μ1 n H1 c st A h1=>by
  cases b:f8 l with
  |none=>rw[b]at h1;exact h1.elim
  |some ds=>
   rw[b]at h1;dsimp only at h1;split at h1
   .rename_i hc;have e:=A.plain b;refine⟨by rw[<-e.len];exact RW hc.1 ck,fun p b=>?_⟩;have s:=bR b<|.lst vs;have d:∀a∈[p],H1 a=U:=fun a f=>by mright
    exact h1 _ _ _<|c.grow k (by rw[<-c.len];exact hc.2) s d rfl ∅ ⟨vs,aE,e.mono<|n5 s d⟩
   .exact h1.elim⟩)
theorem IP:m5 (oI X.prog X.w X.mg) (X.ws E) (fun _ _ _=>False):=fun aa Z H s e s' I h=>by
 obtain⟨_,_,_,_,_,_,_,_,_,z⟩:=h;exact z.elim
def M9(n:Str)(F0:FF)(l:List AD):Option D:=match f8 l with
 |some _=>(match F0 (U::uB l) [.obj n []]with
  |.ok .non [d]=>J d
  |_=>U)
 |none=>U
theorem xf{Q:VK}(I:MI K as B hs P cl Z Y L H)(A:Args K P Z (aj (cl.flatten++as) H) l vs)(T:DO K By n=J (J<|.ref C))(h:M9 n F0 l=J d)
  (q:∀x r m,ah H m->(∀a∈x::r,H a=U)->(x::r).Nodup->vq K (aj (((x::r)::cl).flatten++as) m) m d (x::r)->Q (.ref x) m):
  ∀x f,H x=U->H f=U->f≠x->sJ K mg [0] F0 (.ref x::(vs++[])) (br (br H f<|.own x) x<|.ins C f []) (fun v m=>v=.non/\Q (.ref x) m) (fun _ _ _=>False):=fun x f p u R=>by
 rw[aaJ];unfold M9 at h;cbv
 .rename_i ds hp;have t:ah H<|br (br H f<|.own x) x<|.ins C f []:=fun b o e=>by rw[aG<|bc e p,aG<|bc e u];exact e
  have M:∀a∈cl.flatten++as,a∉[x]:=fun a g z=>by rw[IF.mp z]at g;exact I.exi x g p
  have D:ah H<|aj [x]<|br (br H f<|.own x) x<|.ins C f []:=lH t fun a g=>by rw[IF.mp g];exact p
  have N:ah (aj (cl.flatten++as) H)<|aj ([[x]].flatten++(cl.flatten++as))<|br (br H f<|.own x) x<|.ins C f []:=fun b o e=>by
   have F:b∉cl.flatten++as:=fun z=>by rw[bT z]at e;cases e
   rw[av F]at e;rw[av fun z=>?_]
   .exact t b o e
   .rcases BY.mp z with z|z
    .rw[show b=x by simpa using z,p]at e;cases e
    .exact F z
  refine⟨cl.flatten++as,aj [x]<|br (br H f<|.own x) x<|.ins C f [],[x],[[x]],U::uB l,[.obj n []],rfl,⟨?_,fun a g=>?_,aD _ _,fun c w a g=>?_,fun c w=>?_,fun i j c W a h1 h2 _ _=>?_,fun i d' e=>?_,rfl,rfl,fun k i c d' h1 h2 E=>?_,mK _,rfl⟩,?_⟩
  .show(uB l).length+1=_;rw[A.len];simp
  .rw[av<|M a g];cases e:H a with
   |none=>exact absurd e<|I.exi a g
   |some o=>rw[t a o e];simp
  .rw[IF.mp w]at g;exact bT g
  .rw[IF.mp w];simp
  .have:=(rW.mp h1).1;have:=(rW.mp h2).1;simp at *;lia
  .cases i with
   |zero=>mright
   |succ i=>
    obtain⟨v,h1,h2⟩:=A.var (by assumption);exact⟨v,by simp[h1],h2.mono N⟩
  .cases k with
   |zero=>
    simp at h1 h2 E;subst h1 h2 E;exact⟨⟨x,[],rfl,rfl⟩,C,f,[],T,aE,rfl,rfl⟩
   |succ k=>contradiction
  .cbv
   .rename_i d0 hF;nofun;rw[hF];intro v s H' O S;have V:v=.non:=S;refine⟨V,?_⟩;have hd:=O.hd;cases s with
    |nil=>mright
    |cons c r=>
     cases r with
     |cons _ _=>mright
     |nil=>
      simp at hd;cases c with
      |nil=>mright
      |cons y r=>
       simp at hd;subst hd;refine q y r H' (D.trans O.sb) (fun a g=>?_) (O.nd _<|∅) ?_
       .have:=O.fb (y::r) ∅ a g
        cases e:H a with
        |none=>rfl
        |some o=>rw[D a o e]at this;cases this
       .have:=O.ob 0 (y::r) d rfl rfl
        simpa using this
   .nofun
 .nofun
def vf(nl i:Nat)(n:Str)(F0:FF)(α:qg):gi:=fun Y L=>(α Y L).bs nl fun l L=>match M9 n F0 l with
 |some d=>if i<Y.length then .nx (Y.set i U) (d::L)else .no
 |none=>.no
theorem LI(z:i∉P)(y:X.N.Nodup)(O:Loc X.env.scope x)(u:X.N[i]?=J x)(hs:abm (.Call (.Name n p) (e::es) [] cpos) (J<|.Name x pos') pos.line X.env=pure η)(T:X.fn x=G\/X.env.scope.names.lookup x=J .local)
  (S:DO K By n=J (J<|.ref C)) (a:X.mg n=J (.ref C)) (M:Mk X.K C g) (Gq0:FnOk X.prog X.w X.K X.mg X.base (oI X.prog X.w X.mg) j g fd ps<|sJ K mg [0] F0) (b:cf X.K fd ps []) (s:Room k X.A) (V:MA X K mg P (e::es) α)
  (hj:j+1<=k) (t:Gl X n) (m:(n==("__debug__":Str))=η) (h1:al e=G) (h2:es.all al=G):MS X K mg nl Pb P (i::P) (.Assign [.Name x pos'] (.Call (.Name n p) (e::es) [] cpos) pos)<|vf nl i n F0 α:=fun E=>
 (pw (X:=X.ws E) y O ⟨Cb M Gq0 (s.mono hj) t a b .nil IP (V E).out m (bC h1)<|bH h2⟩ u hs T).imp fun D Z H h=>(by
   refine Z63 h fun as B h0 cl Y L W I h=>?_;refine⟨as,B,h0,cl,Y,L,I,cW W h fun l vs μ1 R H1 c st A h1=>?_⟩;split at h1
   .rename_i d a;split at h1
    .rename_i hlt;exact xf (Q:=fun v q=>D.nx (Z.set i<|v) q) c A S a fun x r q f new F o=>h1 _ _ _<|c.grow z (by rw[<-c.len];exact hlt) f new rfl F o
    .exact h1.elim
   .exact h1.elim)
theorem Fp(u:i∉P)(t:X.N.Nodup)(z:Loc X.env.scope x)(s:X.N[i]?=J x)(hs:abm (.Call (.Name n p) [] [] cpos) (J<|.Name x pos') pos.line X.env=pure η)(O:X.fn x=G\/X.env.scope.names.lookup x=J .local)
  (F:DO K By n=J (J<|.ref C)) (a:X.mg n=J (.ref C)) (M:Mk X.K C g) (Gq0:FnOk X.prog X.w X.K X.mg X.base (oI X.prog X.w X.mg) j g fd ps<|sJ K mg [0] F0) (b:cf X.K fd ps []) (o:Room k X.A)
  (S:j+1<=k) (q:Gl X n) (e:(n==("__debug__":Str))=η):MS X K mg nl Pb P (i::P) (.Assign [.Name x pos'] (.Call (.Name n p) [] [] cpos) pos)<|vf nl i n F0 bj:=fun E=>
 (pw (X:=X.ws E) t z ⟨IB M Gq0 (o.mono S) q a b .nil IP e⟩ s hs O).imp fun D Z H h=>by
  refine Z63 h fun as B R cl Y L T I h=>?_;have h1:yz ⟨K,mg,E⟩ as B R Pb (i::P) (match M9 n F0 []with|some d=>if i<Y.length then .nx (Y.set i U) (d::L)else .no|none=>.no) D:=h
  split at h1
  .rename_i d a;split at h1
   .rename_i hlt;exact xf (Q:=fun v m=>D.nx (Z.set i<|v) m) I (l:=[]) rfl F a fun x r m c new y f=>h1 _ _ _<|I.grow u (by rw[<-I.len];exact hlt) c new rfl y f
   .exact h1.elim
  .exact h1.elim
def xw(n:Str)(F0 F:FF)(α:qg):FM:=fun Y L=>(α Y L).bind fun l L=>match M9 n F0 l with
 |some d=>(match F [U] [d]with
  |.ok r _=>.ok r L
  |.er x _=>.er x L
  |.no=>.no)
 |none=>.no
theorem Ds{st:abN}(hn:DO K By n=J (J<|.ref C))(V:X.mg n=J (.ref C))(M:Mk X.K C g)(Gq0:FnOk X.prog X.w X.K X.mg X.base (oI X.prog X.w X.mg) j g fd ps<|sJ K mg [0] F0)(b:cf X.K fd ps [])(hr:Room k X.A)(I:MA X K mg P (e::es) α)
  (hj:j+1<=k) (hg:Gl X n) (hdb:(n==("__debug__":Str))=η) (h1:al e=G) (h2:es.all al=G)
  (D:Def X.K X.mg f st ps2 fa fd2) (G2:FnOk X.prog X.w X.K X.mg X.base (oI X.prog X.w X.mg) j2 fa fd2 ps2<|sJ K mg [0] F) (hj2:j2<=k) (hx:qQ X) (hg2:Gl X f) (S:(f==("__debug__":Str))=η):
  ME X K mg P (.Call (.Name f p2) [.Call (.Name n p) (e::es) [] cpos] [] pos2) (xw n F0 F α):=fun E=>⟨fun aa s Z H Q I0 q_=>Z62 q_ fun as B hs cl Y L M0 h=>by
 refine abc<|dD I0 hg2 D.m ?_ S;have ja:=bU (X:=X.ws E) ⟨Cb (X:=X.ws E) (p:=p) (pos:=cpos) (E:=fun _ _ _=>False) M Gq0 (hr.mono hj) hg V b .nil IP (I E).out hdb (bC h1)<|bH h2⟩ eD rfl;have hA:uM (Ew C (sJ K mg [0] F0) [] (fun _ _ _=>False)<|RH ⟨K,mg,E⟩ P α) DG Z H fun vs H1=>sJ K mg [0] F vs H1 Q<|AR E Z:=⟨as,B,hs,cl,Y,L,M0,bx h fun l vs μ1 t H1 R st A h1=>by
  split at h1
  .rename_i d hmk;refine xf (K:=K) (mg:=mg) (Q:=fun v N=>sJ K mg [0] F [v] N Q<|AR E Z) R A hn hmk fun x r N T new nd clu=>?_;have sm:ah H1<|aj (x::r) N:=lH T new;have sall:ah (aj (t.flatten++as) H1)<|aj (((x::r)::t).flatten++as) N:=n5 T new;have W:∀a∈t.flatten++as,aj (x::r) N a≠U:=fun a I=>by
    cases e:H1 a with
    |none=>exact absurd e<|R.exi a I
    |some o=>rw[sm a o e];simp
   refine⟨t.flatten++as,aj (x::r) N,[x],[x::r],[U],[d],rfl,⟨rfl,W,aD _ _,fun c hc a I=>?_,fun c hc=>?_,fun i j c c' a h1 h2 _ _=>?_,fun i d' e=>?_,rfl,rfl,fun k i c d' h1 h2 h3=>?_,mK _,rfl⟩,?_⟩
   .rw[IF.mp hc]at I;exact bT I
   .rw[IF.mp hc];exact nd
   .have:=(rW.mp h1).1;have:=(rW.mp h2).1;simp at *;mright
   .cases i with
    |zero=>mright
    |succ i=>cases e
   .cases k with
    |zero=>
     simp at h1 h2 h3;subst h1 h2 h3;exact⟨⟨x,r,rfl,rfl⟩,by simpa using clu⟩
    |succ k=>contradiction
   .have back:∀u z H',MO K (t.flatten++as) (aj (x::r) N) [x] u z H'->MI K as B hs P t Z Y μ1 H'/\Step as t H1 t H':=fun u z H' O=>⟨R.mono<|sm.trans O.sb,aA<|sm.trans O.sb⟩;cases hF:F [U] [d]with
    |ok rr z=>
     rw[hF]at h1;intro v u H' O dv;obtain⟨I2,st2⟩:=back u z H' O;exact h1 v t H' I2 st2<|dv.mono<|kD fun a I=>OR _ I
    |er x' z=>
     rw[hF]at h1;intro y C u H' O V;exact⟨y,C,rfl,rfl,h1 y C t H' (back u z H' O).1 V⟩
    |no=>rw[hF]at h1;exact h1.elim
  .exact h1.elim⟩
 refine abK I0.ok.mod.kin D.F.kp (bP (ja.out pos2 aa s Z H _ I0 hA) fun us s1 hh=>jZ hh fun vs H1 R r q=>⟨R.kIn,?_⟩) rfl rfl;exact bP (rS G2 (hr.mono hj2) D.b hx R.unwish r q) fun _ _ q=>q.ws⟩
end
noncomputable abbrev Cx.pin(X:Cx)(pl:afs):Cx:={X with pn:=X.pn++pl}
section
variable{X:Cx}{Z:St}
theorem we{p:aaB×Obj}:p∈(a++b)++[]↔p∈a++b:=by rw[aaJ]
theorem Cx.Ok.pin(ok:X.Ok):(X.pin pl).Ok:=⟨ok.mod,ok.kind,ok.glob,ok.blt,ok.above,ok.inj,ok.has,ok.cab,ok.hd,ok.frames,ok.stk,ok.exf,ok.bs,ok.bsz,ok.noex,ok.exfs,ok.funs,ok.frf⟩
theorem Cx.Ok.unpin(ok:(X.pin pl).Ok):X.Ok:=⟨ok.mod,ok.kind,ok.glob,ok.blt,ok.above,ok.inj,ok.has,ok.cab,ok.hd,ok.frames,ok.stk,ok.exf,ok.bs,ok.bsz,ok.noex,ok.exfs,ok.funs,ok.frf⟩
theorem Inv.pinI(I:Inv X pl Z H s):Inv (X.pin pl) [] Z H s:=⟨I.ok.pin,I.os,I.bare,I.base,I.loc,I.cell,I.free,I.freeC,fun p a=>I.pin p<|we.mp a,I.hok,I.len,I.tk⟩
theorem Inv.pinO(I:Inv (X.pin pl) [] Z H s):Inv X pl Z H s:=⟨I.ok.unpin,I.os,I.bare,I.base,I.loc,I.cell,I.free,I.freeC,fun p a=>I.pin p<|we.mpr a,I.hok,I.len,I.tk⟩
theorem Nw.pinO(n:Nw (X.pin pl) [] b):Nw X pl b:=⟨n.base,n.loc,n.fs,n.cell,fun p a=>n.pin p<|we.mpr a⟩
theorem ExcAt.pinO(e:ExcAt (X.pin pl) [] H h x C fl):ExcAt X pl H h x C fl:=by
 refine Z26 e.ob fun g vs h1 h2 i f j d=>?_;exact⟨e.nx.pinO,e.hx,g,vs,h1,h2,i,f,j,fun v z=>let⟨T,oT,ts,a,b,c⟩:=d v z;⟨T,oT,ts,a,b.pinO,c⟩⟩
end
section
variable{X:Cx}{K:aT}{mg:afu}{nl:Nat}{P Pb P':afq}{tp hpos tpos rpos:Pos}{T:Str}{CT:aaB}{mt:Str->Bool}{b₀:abN}{bs:List abN}{φ:FM}{ψ:FS}{e:aa1}
def TM(nl:Nat)(P:afq)(ψ:FS)(Y:Sd)(L:afy):RS:=match ψ (fill P L Y)with
 |.ok (.rt d)=>if noL d=G then .rt d (lst nl L)else .no
 |_=>.no
theorem Ih{Z:St}(l:∀pl,ME (X.pin pl) K mg P e φ)(I:Inv X aa Z H s)(M:MI K as B hs P cl Z Y L H)
  (i:∀d a v u b H' s',φ Y L=.ok d a->Inv X aa Z H' s'->MI K as B hs P b Z Y a H'->aP v u->bQ K (aj (b.flatten++as) H') d v->Q u s')
  (h:∀x a y C fl b H' s',φ Y L=.er x a->mg x=J (.ref C)->Inv X aa Z H' s'->MI K as B hs P b Z Y a H'->ExcAt X aa H' s'.heap y C fl->E' (.ref y) s') (g:φ Y L≠.no):aaN (aaO X.prog X.w) X.A (eval e X.env) Q E' s:=by
 let E2:RQ:=fun y C f H'=>f=Z/\∃x a b,φ Y L=.er x a/\mg x=J (.ref C)/\MI K as B hs P b Z Y a H'
 have t:tM ⟨K,mg,E2⟩ P φ Z H fun v H'=>∃d a b,φ Y L=.ok d a/\MI K as B hs P b Z Y a H'/\bQ K (aj (b.flatten++as) H') d v:=⟨as,B,hs,cl,Y,L,M,by
  cases hr:φ Y L with
  |ok d a=>exact fun v b H' c _ k=>⟨d,a,b,rfl,c,k⟩
  |er x a=>exact fun y C b H' c j=>⟨rfl,x,a,b,hr,j,c⟩
  |no=>exact g hr⟩
 refine aaP ((l aa E2).out [] s Z H _ (I.pinI.wish _) t) (by rintro u s'⟨v,H',c,r,d,a,b,h1,h2,h3⟩;exact i d a v u b H' s' h1 c.unwish.pinO h2 r h3) ?_;rintro z s'⟨f,H',y,C,fl,e1,c,ea,e2,x,a,b,h1,h2,h3⟩;subst e1 e2;exact h x a y C fl b H' s' h1 h2 c.pinO h3 ea.pinO
theorem C3{Z a:St}(l:hs.length=nl)(i:JB ((X.hand y).nox) (b₀::bs)<|sD ⟨K,mg,fun _ _ _=>False⟩ [] [] [] ψ)(I:Inv X aa a H' s)
  (M:MI K as B hs P cl Z Y L H) (t:DI K as H' [] [] a δ2 H') (m:ah H H')
  (h:yz ⟨K,mg,E⟩ as B hs Pb P' (match ψ δ2 with|.ok (.rt d)=>if noL d=G then .rt d (lst nl L)else .no|_=>.no) D'):
  aaN (aaO X.prog X.w) (X.A.mark<|J y) (execs (b₀::bs) X.env) (fun f j=>∃u v a H',f=.ret u/\Inv X aa a H' j/\aP v u/\D'.rt v H') (fun _ _=>False) s:=by
 have b:c8 ⟨K,mg,fun _ _ _=>False⟩ as H' [] [] (ψ δ2) {nx:=fun _ _=>False,rt:=D'.rt}:=by
  cbv
  .rename_i d hd;rw[hd];intro v g j p;cbv
   .rename_i hn;have k:=M.mono<|m.trans j;exact h v _ g (l▸k.mo)<|(k.flat hn p).mono<|l▸rM _ _ _ _
   .mleft
  .mleft
 have e:=i.out aa _ a H' {nx:=fun _ _=>False,rt:=D'.rt} ((I.hand y).wish _) ⟨as,H',[],δ2,t,b⟩;refine aaP e (fun f x q=>?_) fun _ _ z=>z;have q2:=q.unwish.unhand I.ok;cases f with
 |ret u=>refine Z33 q2 fun v c g o r n=>?_;exact⟨u,v,c,g,rfl,o,r,n⟩
 |next=>obtain⟨_,_,_,z⟩:=q2;exact z.elim
 |brk=>obtain⟨_,_,_,z⟩:=q2;exact z.elim
 |cont=>obtain⟨_,_,_,z⟩:=q2;exact z.elim
def sO(nl:Nat)(P:afq)(φ:FM)(mt:Str->Bool)(ψ:FS):gi:=fun Y L=>match φ Y L with
 |.ok d L=>.rt d<|lst nl L
 |.er x L=>if mt x=G then TM nl P ψ Y L else .no
 |.no=>.no
theorem KI(t:∀pl,ME (X.pin pl) K mg P e φ)(A:mg=X.mg)(o:X.mg T=J (.ref CT))(m:LL X.K X.mg mt CT)(hs:∀y,JB ((X.hand y).nox) (b₀::bs)<|sD ⟨K,mg,fun _ _ _=>False⟩ [] [] [] ψ)
  (j:X.stack=X.env::X.outer) (g:X.env.frame=J X.env.locals) (i:Gl X T) (k:(T==("__debug__":Str))=η):
  MS X K mg nl Pb P P' (.Try [.Return (J e) rpos] [.ExceptHandler (J<|.Name T tp) U (b₀::bs) hpos] [] [] tpos) (sO nl P φ mt ψ):=fun E=>by
 refine⟨fun aa s Z H D' I⟨as,B,h0,cl,Y,L,hl,M,h⟩=>?_⟩;delta sO at h;refine wpAny_Try_except<|wpAny_execs_cons<|wpAny_Return_some<|Ih (X:=X) t I.unwish M (fun d l v u b H' s' e1 c a r q=>?_) (fun x l y C fl b H' s' e1 w c a n=>?_) ?_
 .rw[e1]at h;exact⟨v,Z,H',c.wish _,r,h v _ H' (hl▸a.mo)<|q.mono<|hl▸rM _ _ _ _⟩
 .rw[e1]at h;dsimp only at h;cbv
  .rename_i hy;refine Cz (X:=X) j g o (m x C hy<|by mright).2 i k c n fun h' t' p D=>?_;exact aaP (C3 hl (hs<|.ref y) p a a.dio (ah.refl _) h) (by rintro f s3⟨u,v,σ',H',e3,I3,r,hD⟩;exact by subst e3;exact⟨v,σ',H',I3.wish _,r,hD⟩) fun _ _ z=>z
  .mleft
 .intro e1;rw[e1]at h;exact h
def yW(nl:Nat)(P:afq)(φ:FM)(mt:Str->Bool)(ψ:FS):gi:=fun Y L=>match φ Y L with
 |.ok _ L=>.nx Y L
 |.er x L=>if mt x=G then TM nl P ψ Y L else .no
 |.no=>.no
theorem JC(t:∀pl,ME (X.pin pl) K mg P e φ)(A:mg=X.mg)(p:X.mg T=J (.ref CT))(n:LL X.K X.mg mt CT)(hs:∀y,JB ((X.hand y).nox) (b₀::bs)<|sD ⟨K,mg,fun _ _ _=>False⟩ [] [] [] ψ)
  (b:abm e U rpos.line X.env=pure η) (k:X.stack=X.env::X.outer) (i:X.env.frame=J X.env.locals) (j:Gl X T) (l:(T==("__debug__":Str))=η):
  MS X K mg nl Pb P P (.Try [.Expr e rpos] [.ExceptHandler (J<|.Name T tp) U (b₀::bs) hpos] [] [] tpos) (yW nl P φ mt ψ):=fun E=>by
 refine⟨fun aa s Z H D' I⟨as,B,h0,cl,Y,L,hl,M,h⟩=>?_⟩;delta yW at h;refine wpAny_Try_except<|wpAny_execs_cons<|wpAny_Expr_any (Ih (X:=X) t I.unwish M (fun d m v u c H' s' e1 g a r D=>?_) (fun x m y C fl c H' s' e1 w g a o=>?_) ?_) I.quiet b
 .rw[e1]at h;dsimp only;refine acD ?_;refine acD ?_;exact⟨Z,H',g.wish _,h _ Z H' a⟩
 .rw[e1]at h;dsimp only at h;cbv
  .rename_i hy;refine Cz (X:=X) k i p (n x C hy<|by mright).2 j l g o fun h' t' q F=>?_;exact aaP (C3 hl (hs<|.ref y) q a a.dio (ah.refl _) h) (by rintro f s3⟨u,v,σ',H',e3,I3,r,hD⟩;exact by subst e3;exact⟨v,σ',H',I3.wish _,r,hD⟩) fun _ _ z=>z
  .mleft
 .intro e1;rw[e1]at h;exact h
end
section
variable{st:abN}
def sNo:FS:=fun _=>.no
end
noncomputable def Ub(a:Scope)(x:Str):Bool:=match a.names.lookup x with
 |some .local=>G
 |some .cell=>G
 |some .free=>G
 |_=>η
def OK(a:Scope)(x:Str):Bool:=Ub a x&&!(x==("__debug__":Str))&&!(x==("__classdict__":Str))
theorem tV(h:OK sc x=G):m6 sc x/\afz x/\(x==("__classdict__":Str))=η:=by
 delta OK at h;rw[oR,oR,abg,abg]at h;exact⟨(fun h=>by
   delta Ub at h;cbv
   .rename_i e;exact .inl e
   .rename_i e;exact .inr (.inl e)
   .rename_i e;exact .inr (.inr e)
   .nofun) h.1.1,h.1.2,h.2⟩
abbrev Fm:=Scope->afr->afq->aa1->Option (List aa1×(List FE->FE))
abbrev Fq:=Scope->afr->afq->aa1->Option (List aa1×(List FE->FT))
abbrev Fi:=Scope->afr->afq->aa1->aa1->Option (List aa1×(List FE->FA))
abbrev Fs:=Scope->afr->afq->abN->Option (List aa1×(List FE->FS))
structure Tb where
 x:List Fm
 n:List Fm
 q:List Fq
 i:List Fi
 s:List Fs
 c:List<|Str×D
 d:afr
 m:afr
 k:List<|Pos×afr
 w:Nat
def Js(X:Cx)(W:Wd)(O:afq):List aa1->List FE->Prop
 |[],[]=>True
 |e::es,φ::φs=>JE X e (tD W O φ)/\Js X W O es φs
 |_,_=>False
def dr(X:Cx)(W:Wd)(f:Fm):Prop:=∀O e es b a,f X.env.scope X.N O e=J (es,b)->Js X W O es a->JE X e (tD W O<|b a)
def KM(X:Cx)(W:Wd)(f:Fm):Prop:=∀O e es b a,f X.env.scope X.N O e=J (es,b)->Js X W O es a->JE X e (tN W O<|b a)
def Sn(X:Cx)(W:Wd)(f:Fq):Prop:=∀O e es b a,f X.env.scope X.N O e=J (es,b)->Js X W O es a->JT X e (lq W O<|b a)
def PZ(X:Cx)(W:Wd)(f:Fi):Prop:=∀O g e es b a,f X.env.scope X.N O g e=J (es,b)->Js X W O es a->JI X g e (iD W O<|b a)
def IK(X:Cx)(W:Wd)(f:Fs):Prop:=∀Ob O s es b a,f X.env.scope X.N O s=J (es,b)->Js X W O es a->JS X s (sD W Ob O O<|b a)
def yy(X:Cx)(W:Wd)(x:Str)(d:D):Prop:=∀(O:afq)(p:Pos),Gl X x->JE X (.Name x p) (tD W O<|vC d)
structure TbOk(X:Cx)(W:Wd)(t:Tb):Prop where
 x:∀f∈t.x,dr X W f
 n:∀f∈t.n,KM X W f
 q:∀f∈t.q,Sn X W f
 i:∀f∈t.i,PZ X W f
 s:∀f∈t.s,IK X W f
 c:∀q∈t.c,yy X W q.1 q.2
def lk{β:Type}(x:Str):List (Str×β)->Option β
 |[]=>U
 |q::r=>if q.1=x then J q.2 else lk x r
theorem As:∀{l:List<|Str×β}{b:β},lk x l=J b->(x,b)∈l
 |[],_,h=>by nofun
 |q::r,b,h=>by
  unfold lk at h;cbv
  .grind
  .exact ie _ (As h)
noncomputable def Bj(f:aa1->Option FE):List aa1->Option (List FE)
 |[]=>J []
 |e::es=>(f e).bind fun φ=>(Bj f es).map (φ::·)
def fst{α β:Type}(l:List α)(f:α->Option β):Option β:=match l with
 |[]=>U
 |a::r=>match f a with
  |some b=>J b
  |none=>fst r f
theorem fE{α β:Type}{f:α->Option β}{b:β}:∀{l:List α},fst l f=J b->∃a∈l,f a=J b
 |[],h=>by nofun
 |a::r,h=>by
  unfold fst at h;cbv
  .mright
  .obtain⟨c,h1,h2⟩:=fE h;grind
noncomputable def Mm(N:afr)(x:Str):Option Nat:=N.findIdx? fun y=>decide (y=x)
theorem gc(h:Mm N x=J i):N[i]?=J x:=by
 obtain⟨a,b,_⟩:=ac0.mp h;mright
noncomputable def xJ:aa1->Bool
 |.Set ..=>G
 |_=>η
theorem wG(h:xJ e=η)(env:Env):∀x,abl e env x=pure x:=by
 cases e<;>first|exact fun _=>rfl|nofun
def VS(t:Tb)(b:Scope)(N:afr)(O:afq)(a:aa1->Option FE)(g it:aa1):Option FA:=match fst t.i fun f=>f b N O g it with
 |some q=>(Bj a q.1).map q.2
 |none=>(a it).map EX
def Pg(scope a:Scope):Scope:={scope with names:=scope.names.map fun(n,k)=>if(k==.free&&a.kind==.function&&a.names.lookup n==J .cell)then(n,.cell)else(n,k)}
noncomputable def ug:aa1->Option Str
 |.Name x _=>J x
 |_=>U
theorem AY(h:ug e=J x):∃p,e=.Name x p:=by
 delta ug at h;cbv
 .mright
 .nofun
def aNq:abN->Option (Str×aa1×aa1)
 |.Assign l e _=>match l with|[a]=>(ug a).map fun x=>(x,a,e)|_=>U
 |_=>U
theorem aNo(h:aNq s=J (x,a,e)):∃p q,a=.Name x p/\s=.Assign [a] e q:=by
 delta aNq at h;cbv
 .cbv
  .obtain⟨x,hx,h⟩:=dO.mp h;nofun;obtain⟨p,rfl⟩:=AY hx;exact⟨_,_,rfl,rfl⟩
  .nofun
 .nofun
def sKq:aa1->Option Str
 |.Constant v _ _=>match v with|.str x=>J x|_=>U
 |_=>U
theorem sKo(h:sKq e=J x):∃k p,e=.Constant (.str x) k p:=by
 delta sKq at h;cbv
 .cbv<;>nofun;exact⟨_,_,rfl⟩
 .nofun
def iKq:aa1->Option Int
 |.Constant v _ _=>match v with|.int x=>J x|_=>U
 |_=>U
theorem iKo(h:iKq e=J x):∃k p,e=.Constant (.int x) k p:=by
 delta iKq at h;cbv
 .cbv<;>nofun;exact⟨_,_,rfl⟩
 .nofun
def kDq:aa1->Option D
 |.Constant v _ _=>match v with|.none=>J .non|.bool b=>J<|.bl b|.str x=>J<|.str x|.int i=>J<|.int i|_=>U
 |_=>U
theorem kDo(h:kDq e=J d):JE X e<|tD W O<|vC d:=by
 delta kDq at h;cbv
 .cbv<;>nofun
  .exact NO
  .exact TY
  .exact Mt
  .exact MR
 .nofun
noncomputable def Qp(a:Scope)(fn:Str->Bool)(x:Str):Bool:=decide (a.names.lookup x=J .local)||(decide (a.names.lookup x=J .cell)&&fn x)
theorem pk{X:Cx}(h:Qp X.env.scope X.fn x=G):Loc X.env.scope x/\(X.fn x=G\/X.env.scope.names.lookup x=J .local):=by
 delta Qp at h;rw[ac1,oR,decide_eq_true_eq,decide_eq_true_eq]at h;rcases h with h|h
 .exact⟨.inl h,.inr h⟩
 .exact⟨.inr h.1,.inl h.2⟩
def Hs(N:afr)(O:afq)(a:Scope)(fn:Str->Bool)(e:aa1):Option Nat:=(ug e).bind fun x=>(Mm N x).bind fun i=>if i∉O/\Qp a fn x=G then J i else U
def DQ(N:afr)(O:afq)(a:Scope)(fn:Str->Bool):List aa1->Option (afq)
 |[]=>J []
 |e::r=>(Hs N O a fn e).bind fun i=>(DQ N O a fn r).map (i::·)
def Aj(N:afr)(O:afq)(a:Scope)(fn:Str->Bool):aa1->Option TgD
 |.Name x p=>(Hs N O a fn<|.Name x p).map .one
 |.Tuple es _ _=>(DQ N O a fn es).map .tup
 |_=>U
def Yb:aa1->afr
 |.Name x _=>[x]
 |.Tuple es _ _=>es.filterMap ug
 |_=>[]
def V3(t:Tb)(b:Scope)(N:afr)(O:afq)(f:aa1->Option FE)(e:Scope->afr->(aa1->Option FE)×(aa1->Option FT))(elt tg it:aa1)(ifs:List aa1)(scope:Scope)(pos:Pos):Option FE:=
 let a:=((t.k.find? fun q=>decide (q.1=pos)).map (·.2)).getD (Yb tg)
  let ix:=a.map fun y=>if(Yb tg).contains y=G then U else Mm N y
  if zr b N a ix scope=G/\a.Nodup/\xJ it=η/\(ix.all fun o=>match o with|some k=>decide (k∉O)|none=>G)=G then
   (Aj a [] (Pg scope b) (fun _=>η) tg).bind fun d=>(VS t b N O f tg it).bind fun ι=>(match ifs with
    |[]=>J xa
    |[c]=>(e (Pg scope b) a).2 c
    |_=>U).bind fun τ=>((e (Pg scope b) a).1 elt).map fun ε=>jX ix ι d τ ε
  else U
def Wy(t:Tb)(d:Scope)(N:afr)(O:afq)(g:aa1->Option FE)(j:aa1->Option FT)(h:Scope->afr->(aa1->Option FE)×(aa1->Option FT))(e:aa1):Option FE:=match kDq e with
 |some d=>J<|vC d
 |none=>match e with
  |.Name x _=>match Mm N x with
   |some i=>if i∉O/\OK d x=G then J (ag i)else U
   |none=>if d.names.lookup x=J .globalImplicit then(lk x t.c).map vC else U
  |.ListComp elt c scope pos=>match c with|[⟨tg,it,ifs,0⟩]=>V3 t d N O g h elt tg it ifs scope pos|_=>U
  |.IfExp c a b _=>(j c).bind fun τ=>(g a).bind fun φ=>(g b).map fun ψ=>MU τ φ ψ
  |_=>(fst t.x fun f=>f d N O e).bind fun q=>(Bj g q.1).map q.2
def P8:aa1->Bool
 |.Name ..=>G
 |.Call ..=>G
 |.Subscript ..=>G
 |.Attribute ..=>G
 |_=>η
theorem B6(h:P8 e=G)(env:Env):∀a,isTrue e env a=(do let v <-a;afh e.pos;holding [v] (truthy v)):=by
 cases e<;>first|exact fun _=>rfl|nofun
noncomputable def RU(f:aa1->Option FT)(q:FT->FT->FT):List aa1->Option FT
 |[]=>U
 |[a]=>f a
 |a::b::r=>(f a).bind fun τ=>(RU f q<|b::r).map<|q τ
def XV(t:Tb)(d:Scope)(N:afr)(O:afq)(c:aa1->Option FE)(b:aa1->Option FT)(e:aa1):Option FT:=match e with
 |.UnaryOp .Not a _=>(b a).map qN
 |.BoolOp .And l _=>RU b mQ l
 |.BoolOp .Or l _=>RU b KF l
 |_=>match fst t.q fun f=>f d N O e with
  |some q=>(Bj c q.1).map q.2
  |none=>if P8 e=G then(c e).map lP else U
def ip(t:Tb):Nat->Scope->afr->afq->(aa1->Option FE)×(aa1->Option FT)
 |0,_,_,_=>(fun _=>U,fun _=>U)
 |n+1,sc,N,O=>(Wy t sc N O (ip t n sc N O).1 (ip t n sc N O).2 fun a b=>ip t n a b [],XV t sc N O (ip t n sc N O).1 (ip t n sc N O).2)
section
variable{X:Cx}{W:Wd}{O:afq}{t:Tb}
theorem mJ(a:∀e φ,f e=J φ->JE X e (tD W O φ)):∀(es:List aa1)(l:List FE),Bj f es=J l->Js X W O es l
 |[],_,h=>by nofun;exact abt
 |e::es,_,h=>by
  obtain⟨φ,h1,h⟩:=bY.mp h
  obtain⟨l,h2,rfl⟩:=dO.mp h;exact⟨a e φ h1,mJ a es l h2⟩
theorem FN(b:W.K=X.K)(d:TbOk X W t)(a:∀e φ,fx e=J φ->JE X e (tD W O φ))(h:VS t X.env.scope X.N O fx tg it=J ι):JI X tg it<|iD W O ι:=by
 delta VS at h;cbv
 .rename_i q e;obtain⟨f,h1,h2⟩:=fE e
  obtain⟨l,c,rfl⟩:=dO.mp h;exact d.i f h1 O tg it _ _ l h2<|mJ a _ _ c
 .obtain⟨ε,h1,rfl⟩:=dO.mp h;exact On X.K (a _ _ h1) rfl b
theorem FW(a:X.N.Nodup)(h:Hs X.N O X.env.scope X.fn e=J i):JG X e (gD W O<|.one i)/\∃x p,e=.Name x p:=by
 obtain⟨x,h0,h⟩:=bY.mp h
 obtain⟨i,h1,h⟩:=bY.mp h
 cbv
 .rename_i hl;nofun;delta ug at h0;split at h0
  .cases h0;exact⟨Rt hl.1 a (gc h1) (pk hl.2).1 (pk hl.2).2,_,_,rfl⟩
  .cases h0
 .nofun
theorem Cr(d:X.N.Nodup):∀{es:List aa1}{is:afq},DQ X.N O X.env.scope X.fn es=J is->JGs X es (U7 W O is)/\(abE es X.env).length=es.length/\es.length=is.length/\(abE es X.env).findIdx? (·.1)=U
 |[],_,h=>by nofun;exact⟨L0,rfl,rfl,rfl⟩
 |e::r,_,h=>by
  left;obtain⟨i,h1,h⟩:=bY.mp h
  obtain⟨f,h2,rfl⟩:=dO.mp h;obtain⟨z,a,b,c⟩:=Cr d h2
  obtain⟨g,x,p,rfl⟩:=FW d h1;right;refine⟨EV g z rfl,by show(abE r X.env).length+1=_;rw[a];rfl,by rw[aaS,aaS,b],?_⟩;show List.findIdx? (·.1) ((η,_)::abE r X.env)=U;rw[List.findIdx?_cons,c];rfl
theorem Cf(f:W.K=X.K)(e:X.calm=G)(d:X.N.Nodup)(h:Aj X.N O X.env.scope X.fn tg=J q):JG X tg<|gD W O q:=by
 delta Aj at h;cbv
 .obtain⟨i,h1,rfl⟩:=dO.mp h;exact(FW d h1).1
 .obtain⟨is,h1,rfl⟩:=dO.mp h;obtain⟨z,a,b,c⟩:=Cr d h1;exact O5 X.K z rfl e (a.trans b) c rfl f
 .nofun
theorem G0(h:Qp sc (fun _=>η) x=G):Qp sc fn x=G:=by
 delta Qp at h⊢;rw[Bool.and_false,Bool.or_false]at h;rw[h];rfl
theorem yM(h:Hs N O sc (fun _=>η) e=J i):Hs N O sc fn e=J i:=by
 delta Hs at h⊢;obtain⟨x,a,h⟩:=bY.mp h;obtain⟨j,h1,h⟩:=bY.mp h;rw[a,ae7,h1,ae7];cbv
 .rename_i hq;rw[afk ⟨hq.1,G0 hq.2⟩];exact h
 .nofun
theorem D7{N:afr}{a:Scope}{fn:Str->Bool}{e:aa1}{q:TgD}(h:Aj N O a (fun _=>η) e=J q):Aj N O a fn e=J q:=by
 have hs:∀{es:List aa1}{is:afq},DQ N O a (fun _=>η) es=J is->DQ N O a fn es=J is:=fun{es}=>by
  induction es with
  |nil=>exact fun h=>h
  |cons e r b=>
   intro is h;obtain⟨i,h1,h⟩:=bY.mp h
   obtain⟨c,h2,rfl⟩:=dO.mp h;unfold DQ;rw[yM h1,b h2];rfl
 delta Aj at h⊢;cbv
 .obtain⟨i,h1,rfl⟩:=dO.mp h;rw[yM h1];rfl
 .obtain⟨is,h1,rfl⟩:=dO.mp h;rw[hs h1];rfl
 .nofun
structure CompOk(X:Cx)(W:Wd)(O:afq)(elt tg it:aa1)(ifs:List aa1)(scope:Scope)(N':afr)(ix:List (Option Nat))(ι:FA)(g:TgD)(τ:FT)(ε:FE):Prop where
 cs:zr X.env.scope X.N N' ix scope=G
 i:JI X tg it<|iD W O ι
 g:∀b,JG (jm X N' scope b) tg<|gD W [] g
 t:∀b,JTs (jm X N' scope b) ifs<|lq W [] τ
 e:∀b,JE (jm X N' scope b) elt<|tD W [] ε
 o:∀j∈ix,∀k,j=J k->k∉O
 s:xJ it=η
theorem Gi(f:W.K=X.K)(n:X.calm=G)(l:TbOk X W t)(o:∀e φ,fx e=J φ->JE X e (tD W O φ))
  (d:∀N scope b,(∀e φ,(fy (jm X N scope b).env.scope N).1 e=J φ->JE (jm X N scope b) e (tD W [] φ))/\(∀e τ,(fy (jm X N scope b).env.scope N).2 e=J τ->JT (jm X N scope b) e (lq W [] τ)))
  (h:V3 t X.env.scope X.N O fx fy elt tg it ifs scope pos=J φ):∃a ix ι g τ ε,φ=jX ix ι g τ ε/\CompOk X W O elt tg it ifs scope a ix ι g τ ε:=by
 delta V3 at h;dsimp only at h;generalize((t.k.find? fun q=>decide (q.1=pos)).map (·.2)).getD (Yb tg)=a at h;cbv
 .rename_i hq;obtain⟨m,h1,h⟩:=bY.mp h;obtain⟨ι,h2,h⟩:=bY.mp h
  obtain⟨τ,h3,h⟩:=bY.mp h
  obtain⟨ε,i,rfl⟩:=dO.mp h;refine⟨_,_,_,_,_,_,rfl,hq.1,FN f l o h2,fun b=>Cf f n hq.2.1<|D7 h1,fun b=>?_,fun b=>(d a scope b).1 _ _ i,(fun j p k e=>by
    have:=aaH.mp hq.2.2.2 j p
    mright),hq.2.2.1⟩
  cases ifs with
  |nil=>cases h3;exact Jw
  |cons c r=>
   cases r with
   |nil=>exact(fun h=>J9 h)<|(d a scope b).2 _ _ h3
   |cons _ _=>cases h3
 .nofun
theorem CompOk.n(a:X.calm=G){g:TgD}(C:CompOk X W O elt tg it ifs scope N' ix ι g τ ε):JE X (.ListComp elt [⟨tg,it,ifs,0⟩] scope pos)<|tN W O<|jX ix ι g τ ε:=
 Qy C.cs C.i C.g C.t C.e C.o rfl rfl rfl a (wG C.s _)
theorem QF(p:W.K=X.K)(g:X.calm=G)(k:TbOk X W t)(j:∀e φ,fx e=J φ->JE X e (tD W O φ))(m:∀e τ,ft e=J τ->JT X e (lq W O τ))
  (o:∀N scope b,(∀e φ,(fy (jm X N scope b).env.scope N).1 e=J φ->JE (jm X N scope b) e (tD W [] φ))/\(∀e τ,(fy (jm X N scope b).env.scope N).2 e=J τ->JT (jm X N scope b) e (lq W [] τ)))
  (e:aa1) (φ:FE) (h:Wy t X.env.scope X.N O fx ft fy e=J φ):JE X e<|tD W O φ:=by
  delta Wy at h;cbv
  .rename_i z;nofun;exact kDo z
  cbv
  .cbv
   .rename_i i h1;cbv
    .rename_i hc;nofun;obtain⟨a,b,c⟩:=tV hc.2
     exact Mv i hc.1 (gc h1) a b c
    .nofun
   .cbv
    .rename_i hg;obtain⟨d,h1,rfl⟩:=dO.mp h;exact k.c _ (As h1) O _ hg
    .nofun
  .cbv
   .refine Z62 (Gi p g k j o h) fun _ _ _ _ _ _ r0_ C=>?_;subst r0_;exact FQ<|C.n g
   .nofun
  .obtain⟨τ,h0,h⟩:=bY.mp h
   obtain⟨φ1,h1,h⟩:=bY.mp h
   obtain⟨ψ,h2,rfl⟩:=dO.mp h;exact Tw (m _ _ h0) (j _ _ h1)<|j _ _ h2
  .obtain⟨q,h0,h⟩:=bY.mp h
   obtain⟨l,h1,rfl⟩:=dO.mp h;obtain⟨f,h2,h3⟩:=fE h0
   exact k.x f h2 O e _ _ l h3<|mJ j _ _ h1
theorem BH(c:∀e τ,f e=J τ->JT X e (lq W O τ)):∀(l:List aa1)(τ:FT),RU f mQ l=J τ->JW X (.BoolOp .And l pos) (lq W O τ)
 |[],_,h=>by nofun
 |[a],τ,h=>(fun d=>CW d)<|c a τ h
 |a::b::r,_,h=>by
  obtain⟨τ,h1,h⟩:=bY.mp h
  obtain⟨υ,h2,rfl⟩:=dO.mp h;exact Om (c _ _ h1)<|BH c (b::r) υ h2
theorem IC(c:∀e τ,f e=J τ->JT X e (lq W O τ)):∀(l:List aa1)(τ:FT),RU f KF l=J τ->JW X (.BoolOp .Or l pos) (lq W O τ)
 |[],_,h=>by nofun
 |[a],τ,h=>(fun d=>IT d)<|c a τ h
 |a::b::r,_,h=>by
  obtain⟨τ,h1,h⟩:=bY.mp h
  obtain⟨υ,h2,rfl⟩:=dO.mp h;exact Vd (c _ _ h1)<|IC c (b::r) υ h2
theorem OJ(c:W.K=X.K)(d:TbOk X W t)(b:∀e φ,fx e=J φ->JE X e (tD W O φ))(a:∀e τ,ft e=J τ->JT X e (lq W O τ))(e:aa1)(τ:FT)(h:XV t X.env.scope X.N O fx ft e=J τ):JT X e<|lq W O τ:=by
 delta XV at h;cbv
 .obtain⟨υ,h1,rfl⟩:=dO.mp h;exact Px<|a _ _ h1
 .exact CN (BH a _ _ h)
 .exact CN (IC a _ _ h)
 .cbv
  .rename_i q e1;obtain⟨f,h2,h3⟩:=fE e1
   obtain⟨l,h1,rfl⟩:=dO.mp h;exact d.q f h2 O e _ _ l h3<|mJ b _ _ h1
  .cbv
   .rename_i hb;obtain⟨φ,h1,rfl⟩:=dO.mp h;exact FH X.K (b _ _ h1) (B6 hb _) rfl c
   .nofun
inductive Fam(X:Cx):Cx->Prop
 |re:Fam X X
 |bk {Yq0:Cx} (h:Fam X Yq0) (N:afr) (scope:Scope) (b:Bk):Fam X (jm Yq0 N scope b)
theorem Fam.eqs(h:Fam X Yq0):Yq0.K=X.K/\Yq0.mg=X.mg/\Yq0.prog=X.prog/\Yq0.w=X.w/\Yq0.base=X.base/\Yq0.A=X.A/\Yq0.calm=X.calm/\Yq0.env.code=X.env.code/\Yq0.env.qual=X.env.qual:=by
 induction h with
 |re=>exact⟨rfl,rfl,rfl,rfl,rfl,rfl,rfl,rfl,rfl⟩
 |bk _ N c b a=>exact a
theorem jG(j:W.K=X.K)(i:X.calm=G)(g:∀c,Fam X c->TbOk c W t):∀(n:Nat)(c:Cx)(d:Fam X c)(O:afq),(∀e φ,(ip t n c.env.scope c.N O).1 e=J φ->JE c e (tD W O φ))/\(∀e τ,(ip t n c.env.scope c.N O).2 e=J τ->JT c e (lq W O τ))
 |0,_,_,_=>⟨fun _ _ h=>(by nofun),fun _ _ h=>(by nofun)⟩
 |n+1,c,d,O=>by
  left;obtain⟨a,b⟩:=jG j i g n c d O
  refine Z08 d.eqs fun e1 _ _ _ _ e6 e7 _=>?_
  right;have f:W.K=c.K:=by rw[e1];exact j
  exact⟨QF f (by rw[e7];exact i) (g c d) a b fun N scope k=>jG j i g n (jm c N scope k) (.bk d N scope k) [],OJ f (g c d) a b⟩
end
section
variable{X:Cx}{K:aT}{st:abN}{p pos:Pos}
theorem pcA(D:Def X.K mg0 y st ps f fd)(m:X.mg x=J (.ref f))(Gq0:FnOk X.prog X.w X.K X.mg X.base lD j f fd ps sp)(g:Room k X.A)(o:PA X (e::es) t)(u:autoParam (j<=k) Xax)(i:autoParam (Gl X x) Xaz)(a:autoParam (afz x) Xax)
  (h1:autoParam (al e=G) Xaz) (h2:autoParam (es.all al=G) Xaz):PE X (.Call (.Name x p) (e::es) [] pos)<|R7 sp t:=by
 have n:abb (e::es) X.env=(η,eval e X.env)::abb es X.env:=bC h1;have c:(adz pos<|abb es X.env).any (·.1)=η:=bH h2;intro aa s Z H Q I h;refine abc<|dD I i m ?_ a;refine abK I.ok.mod.kin D.F.kp (bP (o pos aa s Z H _ I h) fun us v l=>jZ l fun vs H1 d r q=>⟨d.kIn,?_⟩) n c;exact IV Gq0 (g.mono u) D.b .nil NJ d r (by mright)
theorem Kj(D:Def X.K mg0 y st ps f fd)(m:X.mg x=J (.ref f))(Gq0:FnOk X.prog X.w X.K X.mg X.base lD j f fd ps<|rj K mg F)(b:Room k X.A)(l:JA X (e::es)<|zx ⟨K,mg,E0⟩ O α)(n:autoParam (j<=k) Xax)(c:autoParam (Gl X x) Xaz)(a:autoParam (afz x) Xax)
  (h1:autoParam (al e=G) Xaz) (h2:autoParam (es.all al=G) Xaz):JE X (.Call (.Name x p) (e::es) [] pos)<|tD ⟨K,mg,E0⟩ O<|aI F α:=
 JE.imp ⟨pcA D m Gq0 b l.out n c a h1 h2⟩ fun Z H Q d=>dQ d fun as0 B own Y I h=>⟨as0,B,own,Y,I,e9 h fun ds vs H1 g i h1=>⟨own++as0,ds,(I.mono g).exi,i,h1⟩⟩
end
noncomputable def zd:aa1->Bool
 |.ListComp ..=>G
 |.SetComp ..=>G
 |.DictComp ..=>G
 |_=>η
theorem jH(h:zd e=η)(tg:Option aa1)(l:Nat)(env:Env):abm e tg l env=pure η:=by
 cases e<;>first|rfl|nofun
noncomputable def aae(a:Scope)(x:Str)(p pos:Pos)(scope:Scope):Bool:=(if a.kind.isAnnotationScope then ScopeKind.function else a.kind)==.function&&a.names.lookup x==J .local&&p.line==pos.line&&!(scope.names.any fun(n,k)=>n==x&&(k==.local||k==.cell))
theorem AB:abm (.ListComp elt gs scope pos) (J<|.Name x p) l env=pure (aae env.scope x p pos scope):=rfl
def dB:Nat:=30
def owB(a:Scope)(N:afr)(O:afq)(x:Str):Option Nat:=(Mm N x).bind fun i=>if i∈O/\OK a x=G then J i else U
def Wv(t:Tb)(d:Scope)(fn:Str->Bool)(N:afr)(h:afq->List abN->Option (FS×afq))(O:afq)(s:abN):Option<|FS×afq:=match aNq s with
 |some (x,a,e)=>(Hs N O d fn a).bind fun i=>match e with
  |.ListComp elt c scope pos=>match c with|[⟨tg,it,ifs,0⟩]=>(V3 t d N O (ip t dB d N O).1 (fun j k=>ip t dB j k []) elt tg it ifs scope pos).map fun φ=>if t.m.contains x=G then(Av i φ,i::O)else(rZ i φ,O)|_=>U
  |e=>if zd e=G then U else match(if t.m.contains x=G then fst t.n fun f=>f d N O e else U)with
   |some q=>(Bj (ip t dB d N O).1 q.1).map fun l=>(Av i<|q.2 l,i::O)
   |none=>((ip t dB d N O).1 e).map fun ε=>(rZ i ε,O)
 |none=>match s with
 |.Return r _=>match r with|some e=>((ip t dB d N O).1 e).map fun ε=>(pX ε,O)|_=>U
 |.If c a b _=>((ip t dB d N O).2 c).bind fun τ=>(h O a).bind fun p=>(h O b).bind fun q=>if p.2=O/\q.2=O then J (DA τ p.1 q.1,O)else U
 |.While c body r _=>match r with|[]=>((ip t dB d N O).2 c).bind fun τ=>(h O body).bind fun p=>if p.2=O then J (cq τ p.1 t.w,O)else U|_=>U
 |.Raise ..=>J (sNo,O)
 | .For tg it body r _=>match r with|[]=>(Aj N O d fn tg).bind fun g=>if xJ it=G then U else
   (VS t d N O (ip t dB d N O).1 tg it).bind fun ι=>(h O body).bind fun p=>if p.2=O then J (Hy ι g p.1,O)else U|_=>U
 |_=>U
def XR(t:Tb)(a:Scope)(fn:Str->Bool)(N:afr)(b:afq->List abN->Option (FS×afq))(O:afq)(s:abN):Option<|FS×afq:=match Wv t a fn N b O s with
 |some q=>J q
 |none=>(fst t.s fun f=>f a N O s).bind fun q=>(Bj (ip t dB a N O).1 q.1).map fun l=>(q.2 l,O)
def WR(f:afq->abN->Option (FS×afq)):afq->List abN->Option (FS×afq)
 |O,[]=>J (ld,O)
 |O,[s]=>f O s
 |O,s::a::r=>(f O s).bind fun p=>(WR f p.2<|a::r).map fun q=>(nh p.1 q.1,q.2)
def WP(t:Tb)(a:Scope)(fn:Str->Bool)(N:afr):Nat->afq->List abN->Option (FS×afq)
 |0=>fun _ _=>U
 |n+1=>WR<|XR t a fn N<|WP t a fn N n
section
theorem CG(b:X.N.Nodup)(f:Loc X.env.scope x)(c:X.fn x=G\/X.env.scope.names.lookup x=J .local)(d:X.calm=G)(h:X.N[i]?=J x)(a:i∉O)(C:CompOk X W O elt tg it ifs scope N' ix ι g τ ε):
  JS X (.Assign [.Name x p] (.ListComp elt [⟨tg,it,ifs,0⟩] scope pos) spos) (sD W Ob O (i::O)<|Av i<|jX ix ι g τ ε)/\JS X (.Assign [.Name x p] (.ListComp elt [⟨tg,it,ifs,0⟩] scope pos) spos) (sD W Ob O O<|rZ i<|jX ix ι g τ ε):=by
 cases hsw:aae X.env.scope x p pos scope with
 |true=>
  have j:=LO (spos:=spos) b f C.cs C.i C.g C.t C.e C.o rfl h rfl rfl d (AB.trans<|by rw[hsw]) c (wG C.s _);exact⟨L7 a j,KC a j⟩
 |false=>exact⟨Iv a b f (C.n d) h (AB.trans<|by rw[hsw]) c,Iu a b f (FQ<|C.n d) h (AB.trans<|by rw[hsw]) c⟩
theorem Rj(m:W.K=X.K)(y:∀j,Fam X j->TbOk j W t)(k:X.N.Nodup)(z:adA (aaO X.prog X.w) X.A X.env X.xe)(d:X.calm=G)
  (o:∀O sts q,fb O sts=J q->∀Ob,JB X sts<|sD W Ob O q.2 q.1) (O:afq) (s:abN) (q:FS×afq) (h:Wv t X.env.scope X.fn X.N fb O s=J q) (Ob:afq):JS X s<|sD W Ob O q.2 q.1:=by
 have tx:=jG m d y dB X .re O;have B:=fun N scope b=>jG m d y dB (jm X N scope b) (.bk .re N scope b) [];have v:=y X .re;delta Wv at h;cbv
 .rename_i hx;obtain⟨p,b,rfl,rfl⟩:=aNo hx;clear hx;obtain⟨i,h1,h⟩:=bY.mp h
  obtain⟨x,h0,h1⟩:=bY.mp h1
  cases h0;obtain⟨i,h2,h1⟩:=bY.mp h1
  split at h1
  .rename_i hq;cases h1;obtain⟨hl,hf⟩:=pk hq.2
   cbv
   .cbv
    .obtain⟨φ,h3,h⟩:=dO.mp h
     refine Z62 (Gi m d v tx.1 B h3) fun _ _ _ _ _ _ r0_ C=>?_;subst r0_;cbv
     .nofun;exact(CG k hl hf d (gc h2) hq.1 C).1
     .nofun;exact(CG k hl hf d (gc h2) hq.1 C).2
    .nofun
   .cbv
    .nofun
    .rename_i c;have c:=aaM.mpr c;cbv
     .rename_i r e;split at e
      .obtain⟨f,u,h5⟩:=fE e
       obtain⟨l,E,rfl⟩:=dO.mp h;exact Iv hq.1 k hl (v.n f u O _ _ _ l h5<|mJ tx.1 _ _ E) (gc h2) (jH c _ _ _) hf
      .cases e
     .obtain⟨ε,u,rfl⟩:=dO.mp h;exact Iu hq.1 k hl (tx.1 _ _ u) (gc h2) (jH c _ _ _) hf
  .cases h1
 cbv
 .cbv
  .obtain⟨ε,h2,rfl⟩:=dO.mp h;exact FR<|tx.1 _ _ h2
  .nofun
 .obtain⟨τ,h1,h⟩:=bY.mp h
  obtain⟨p,h2,h⟩:=bY.mp h
  obtain⟨r,h3,h⟩:=bY.mp h
  cbv
  .rename_i hq;nofun;have a:=o _ _ _ h2 Ob;have b:=o _ _ _ h3 Ob;rw[hq.1]at a;rw[hq.2]at b;exact Vu (tx.2 _ _ h1) a b
  .nofun
 .cbv
  .obtain⟨τ,h1,h⟩:=bY.mp h
   obtain⟨p,h2,h⟩:=bY.mp h
   cbv
   .rename_i hq;nofun;have b:=o _ _ _ h2 O;rw[hq]at b;exact Ej t.w z (tx.2 _ _ h1) b
   .nofun
  .nofun
 .nofun;exact(⟨fun aa s Z H D I q=>let⟨_,_,_,_,_,h⟩:=q;h.elim⟩)
 .cbv
  .obtain⟨g,h1,h⟩:=bY.mp h
   cbv
   .nofun
   .rename_i hs;obtain⟨ι,h2,h⟩:=bY.mp h
    obtain⟨p,h3,h⟩:=bY.mp h
    cbv
    .rename_i hp2;nofun;have b:=o _ _ _ h3 O;rw[hp2]at b;exact Pa z (FN m v tx.1 h2) (Cf m d k h1) b d<|wG (aaM.mpr hs) _
    .nofun
  .nofun
 .nofun
theorem QQ(d:W.K=X.K)(b:∀a,Fam X a->TbOk a W t)(g:X.N.Nodup)(j:adA (aaO X.prog X.w) X.A X.env X.xe)(c:X.calm=G)
  (i:∀O sts q,fb O sts=J q->∀Ob,JB X sts<|sD W Ob O q.2 q.1) (O:afq) (s:abN) (q:FS×afq) (h:XR t X.env.scope X.fn X.N fb O s=J q) (Ob:afq):JS X s<|sD W Ob O q.2 q.1:=by
 delta XR at h;cbv
 .rename_i e;nofun;exact Rj d b g j c i O s _ e Ob
 .obtain⟨r,h1,h⟩:=bY.mp h;obtain⟨l,h2,rfl⟩:=dO.mp h;obtain⟨f,h3,h4⟩:=fE h1
  exact(b X .re).s f h3 Ob O s _ _ l h4<|mJ (jG d c b dB X .re O).1 _ _ h2
theorem IL(b:∀O s q,f O s=J q->∀Ob,JS X s<|sD W Ob O q.2 q.1):∀(sts:List abN)(O:afq)(q:FS×afq),WR f O sts=J q->∀Ob,JB X sts (sD W Ob O q.2 q.1)
 |[],O,q,h,Ob=>by nofun;exact QR
 |[s],O,q,h,Ob=>Et<|b O s _ h Ob
 |s::a::r,O,q,h,Ob=>by
  obtain⟨p,e,h⟩:=bY.mp h;obtain⟨u,h2,rfl⟩:=dO.mp h;exact KS (b O s p e Ob)<|IL b (a::r) p.2 u h2 Ob
theorem Ab(e:W.K=X.K)(b:∀a,Fam X a->TbOk a W t)(c:X.N.Nodup)(f:adA (aaO X.prog X.w) X.A X.env X.xe)(d:X.calm=G):∀(n:Nat)(O:afq)(sts:List abN)(q:FS×afq),WP t X.env.scope X.fn X.N n O sts=J q->∀Ob,JB X sts (sD W Ob O q.2 q.1)
 |0,_,_,_,h,_=>by nofun
 |n+1,O,sts,q,h,Ob=>IL (fun O s q h Ob=>QQ e b c f d (Ab e b c f d n) O s q h Ob) sts O q h Ob
end
structure FY(Yq0:Cx)(P:abf)(w:abh)(K:aT)(mg:afu)(base:acn)(k:Nat):Prop where
 eK:Yq0.K=K
 eM:Yq0.mg=mg
 eP:Yq0.prog=P
 eW:Yq0.w=w
 eB:Yq0.base=base
 hr:Room k Yq0.A
 cm:Yq0.calm=G/\∃c P q,Yq0.env.code=.ref c/\Yq0.env.qual=q++".<locals>."/\adl K c P=G/\∀H,RJ K H->H P=J (.tbl<|q++".<locals>."++"<lambda>")
def CA(a:Scope)(x:Str):Bool:=decide (a.names.lookup x=J .globalImplicit)&&!(x==("__debug__":Str))
theorem eI(h:CA X.env.scope x=G):Gl X x/\afz x:=by
 delta CA at h;rw[oR,abg,decide_eq_true_eq]at h;exact h
def aL:List FE->FA
 |[]=>aQ
 |φ::l=>ak φ<|aL l
theorem xS:∀{es:List aa1}{l:List FE},Js X W O es l->es.all al=G->JA X es (zx W O<|aL l)
 |[],[],_,_=>Fn
 |e::es,φ::l,h,hn=>by
  rw[aa5,oR]at hn;exact Bx h.1 (xS h.2 hn.2) hn.1
 |[],_::_,h,_=>h.elim
 |_::_,[],h,_=>h.elim
noncomputable def cN:aa1->Option (Str×List aa1)
 |.Call (.Name x _) es [] _=>J (x,es)
 |_=>U
theorem nD(h:cN e=J q):∃p pos,e=.Call (.Name q.1 p) q.2 [] pos:=by
 delta cN at h;cbv
 .nofun;exact⟨_,_,rfl⟩
 .nofun
def fN(x:Str)(n:Nat->Bool)(c:List FE->FE):Fm:=fun a _ _ e=>(cN e).bind fun q=>if q.1=x/\CA a x=G/\q.2.all al=G/\n q.2.length=G then J (q.2,c)else U
theorem Nj(h:fN x n c sc N O e=J (es,b)):∃p pos,e=.Call (.Name x p) es [] pos/\CA sc x=G/\es.all al=G/\n es.length=G/\b=c:=by
 obtain⟨q,h1,h⟩:=bY.mp h
 cbv
 .obtain⟨p,pos,rfl⟩:=nD h1;grind
 .nofun
def bX(x:Str)(F:afy->R D):Fm:=fN x (fun _=>G) fun l=>aI F<|aL l
structure Df where
 x:Str
 g:afr
 i:Nat
 N:afr
 p:Nat
 d:Nat
 m:afr:=[]
 k:List<|Pos×afr:=[]
 e:afq:=[]
 h:afq:=[]
 w:Nat:=1000
noncomputable def Df.ps(q:Df):afr:=q.N.take q.p
inductive Mr where
 |pl (φ:FS)
 |rc (φ:(afy->R D)->FS) (Zq0:Nat->afy->R D) (n:Nat)
def Mr.F(q:Df):Mr->(afy->R D)
 |.pl φ=>gx φ q.N q.ps
 |.rc _ Zq0 n=>Zq0 n
def Mr.dp(q:Df):Mr->Nat
 |.rc _ _ n=>q.d+n
 |_=>q.d+1
noncomputable def J5(N ps:afr)(a:Scope):Bool:=decide (a.kind=.function)&&!a.isCoroutine&&!a.isGenerator&&decide N.Nodup&&decide (N.take ps.length=ps)&&ps.all (fun x=>decide (a.names.lookup x=J .local)||decide (a.names.lookup x=J .cell))&&a.names.all (fun y=>decide (y.2≠.free))
theorem pG(h:J5 N ps sc=G):FnScope N ps sc:=by
 delta J5 at h;simp only[oR,abg,decide_eq_true_eq,aaH,ac1]at h;obtain⟨⟨⟨⟨⟨⟨a,b⟩,c⟩,d⟩,e⟩,f⟩,g⟩:=h;exact⟨a,b,c,d,e,f,g⟩
section
variable(bD:Nat->abN)(B:Tb)(ext:List Fm)
noncomputable def tbl(b:List<|Nat×Fm)(q:Df)(self:List Fm):Tb:={B with x:=q.e.filterMap (fun i=>ext[i]?)++(self++(B.x++(b.filter fun a=>decide (a.1<=q.d)).map (·.2))),m:=q.m,k:=q.k,w:=q.w}
def dF(t:Tb)(q:Df):Option FS:=(WP t (ai<|bD q.i) (fun _=>G) q.N 12 []<|bL<|bD q.i).map (·.1)
def XJ(q:Df)(m:Mr)(a:List<|Nat×Fm):List<|Nat×Fm:=q.g.map (fun x=>(m.dp q,bX x<|m.F q))++a
def Bw(P:abf)(w:abh)(K:aT)(mg:afu)(base:acn)(a:Nat×Fm):Prop:=∀b k,FY b P w K mg base k->a.1<=k->dr b ⟨K,mg,E0⟩ a.2
def RV(q:Df)(a:List<|Nat×Fm):Mr->Prop
 |.pl φ=>dF bD (tbl B ext a q []) q=J φ
 |.rc φ Zq0 n=>(∀F,dF bD (tbl B ext a q (q.g.map fun x=>bX x F)) q=J (φ F))/\(∀ds,Zq0 0 ds=.no)/\∀m,Zq0 (m+1)=gx (φ<|Zq0 m) q.N q.ps
end
section
variable{K:aT}
structure DfOk(bD:Nat->abN)(K:aT)(mg:afu)(q:Df)(f:aaB)(fd:abI):Prop where
 F:Fun K q.x q.x (bD q.i) f fd
 b:cf K fd q.ps []
 m:∀x∈q.g,mg x=J (.ref f)
theorem gP(Q:DfOk bD K mg q f fd)(Gq0:FnOk P w K mg base lD j f fd q.ps<|rj K mg F)(d:x∈q.g):Bw P w K mg base (j,bX x F):=fun Yq0 k⟨e1,e2,e3,e4,e5,hr,_⟩hj O e es b φs h hJ=>by
 subst e1 e2 e3 e4 e5;obtain⟨p,pos,rfl,h1,h2,_,rfl⟩:=Nj (n:=fun _=>G) (N:=Yq0.N) (O:=O) h;obtain⟨hg,hd⟩:=eI h1
 have o:Def Yq0.K (fun _=>J<|.ref f) q.x (bD q.i) q.ps f fd:=⟨Q.F,Q.b,rfl⟩;cases es with
 |nil=>
  cases φs with
  |nil=>
   refine(JE.mk<|Ei Gq0 (hr.mono hj) hg (Q.m x d) Q.F.kp Q.b .nil NJ hd).imp fun Z H Q l=>dQ l fun as0 B own Y I h=>⟨own++as0,[],I.exi,ay.nil,h⟩
  |cons _ _=>exact hJ.elim
 |cons a r=>
  have c:=h2;rw[aa5,oR]at c;exact Kj o (Q.m x d) Gq0 hr (xS hJ h2) hj hg hd c.1 c.2
theorem pA(o:∀g k,FY g P w K mg base k->TbOk g ⟨K,mg,E0⟩ B/\∀f∈ext,dr g ⟨K,mg,E0⟩ f)(m:∀a∈acc,Bw P w K mg base a)(j:q.d<=k)(y:FY g P w K mg base k)(hs:∀f∈self,dr g ⟨K,mg,E0⟩ f):TbOk g ⟨K,mg,E0⟩<|tbl B ext acc q self:=by
 obtain⟨b,e⟩:=o g k y;refine⟨fun f l=>?_,b.n,b.q,b.i,b.s,b.c⟩;rcases BY.mp l with h|h
 .obtain⟨i,_,h2⟩:=acv.mp h;exact e f<|Do h2
 .rcases BY.mp h with h|h
  .exact hs f h
  .rcases BY.mp h with h|h
   .exact b.x f h
   .obtain⟨a,h1,rfl⟩:=abv.mp h;obtain⟨h1,h2⟩:=ab9.mp h1
    exact m a h1 g k y<|RW (afo h2) j
theorem rq(F:Fun K q.x q.x (bD q.i) f fd)(S:FnScope q.N q.ps<|ai<|bD q.i)(y:∀j,FY j P w K mg base k->TbOk j ⟨K,mg,E0⟩ t)(h:dF bD t q=J φ):FnOk P w K mg base lD (k+1) f fd q.ps<|rj K mg<|gx φ q.N q.ps:=by
 obtain⟨r,h',rfl⟩:=dO.mp h;refine F.okD (O':=r.2) S fun u m A n s H E o=>?_;obtain⟨v,p,rfl,l⟩:=vO m;refine Ab rfl (fun j z=>?_) S.nd afe rfl 12 [] _ r h' [];refine Z09 z.eqs fun a b c d e g i j1 j2=>?_;exact y j ⟨a,b,c,d,e,g▸o,i,v,p,_,j1,j2,l⟩
theorem L8(e:∀b k,FY b P w K mg base k->TbOk b ⟨K,mg,E0⟩ B/\∀f∈ext,dr b ⟨K,mg,E0⟩ f)(j:∀a∈acc,Bw P w K mg base a)(Q:DfOk bD K mg q f fd)(S:FnScope q.N q.ps<|ai<|bD q.i)(h:RV bD B ext q acc m):
  FnOk P w K mg base lD (m.dp q) f fd q.ps (rj K mg<|m.F q):=by
 cases m with
 |pl φ=>exact rq Q.F S (fun b y=>pA (self:=[]) e j (mK _) y fun f s=>nomatch s) h
 |rc φ c n=>
  obtain⟨h1,h2,r⟩:=h;show FnOk P w K mg base lD (q.d+n) f fd q.ps<|rj K mg<|c n;induction n with
  |zero=>
   have  := funext h2;rw[this];exact FnOk.void
  |succ n p=>
   rw[r n];refine rq Q.F S (fun b y=>pA e j (adn _ _) y fun g l=>?_)<|h1<|c n;obtain⟨x,o,rfl⟩:=abv.mp l;exact gP Q p o b _ y<|mK _
end
def ji(P:afq)(φ:FE):FM:=fun Y L=>match φ (fill P L Y)with
 |.ok d=>if noL d=G then .ok d L else(match φ Y with
  |.ok d=>.ok d L
  |_=>.no)
 |_=>.no
theorem Ka{K:aT}(h:∀a,JE (X.wish a) e<|tD ⟨K,mg,E0⟩ [] φ):ME X K mg P e<|ji P φ:=fun E=>by
 refine⟨fun aa s Z H Q I⟨as,B,hs,cl,Y,L,M,f⟩=>?_⟩;delta ji at f;cases hr:φ (fill P L Y)with
 |ok d=>
  rw[hr]at f;dsimp only at f;by_cases b:noL d=G
  .refine(Lp h E).out aa s Z H Q I ⟨as,B,hs,cl,Y,L,M,?_⟩;delta Wl;mright
  .rw[afl b]at f;exact(Ll h E).out aa s Z H Q I ⟨as,B,hs,cl,Y,L,M,f⟩
 |er x=>rw[hr]at f;exact f.elim
 |no=>rw[hr]at f;exact f.elim
abbrev FK:=Scope->afr->afq->aa1->Option (List aa1×(qg->FM))
abbrev V0:=Scope->afr->afq->aa1->Option (aa1×(FE->FM))
abbrev LH:=Nat->Scope->(Str->Bool)->afr->afq->abN->Option (List aa1×(qg->gi)×afq)
structure MTb where
 t:Tb
 f:List FK
 g:List V0
 s:List LH
 h:List<|Nat->Scope->afr->afq->abN->Option (aa1×(FM->gi))
 w:Nat
structure MTbOk(X:Cx)(K:aT)(mg:afu)(u:MTb):Prop where
 t:∀E' Yq0,Fam (X.wish E') Yq0->TbOk Yq0 ⟨K,mg,E0⟩ u.t
 f:∀f∈u.f,∀P e es b α,f X.env.scope X.N P e=J (es,b)->MA X K mg P es α->ME X K mg P e (b α)
 g:∀f∈u.g,∀P e a b φ,f X.env.scope X.N P e=J (a,b)->(∀E',JE (X.wish E') a<|tD ⟨K,mg,E0⟩ [] φ)->ME X K mg P e (b φ)
 s:∀f∈u.s,∀nl Pb P s es b P' α,f nl X.env.scope X.fn X.N P s=J (es,b,P')->MA X K mg P es α->MS X K mg nl Pb P P' s (b α)
 h:∀f∈u.h,∀nl Pb P s e b φ,f nl X.env.scope X.N P s=J (e,b)->ME X K mg P e φ->(∀pl,ME (X.pin pl) K mg P e φ)->MS X K mg nl Pb P P s (b φ)
 c:X.calm=G
 k:K=X.K
 n:X.N.Nodup
 st:X.stack=X.env::X.outer
 fr:X.env.frame=J X.env.locals
def EN(a:Scope)(N:afr)(P:afq)(e:aa1):Option<|Nat×Nat×Str:=(ug e).bind fun x=>(Mm N x).bind fun i=>(P.findIdx? fun j=>decide (j=i)).bind fun k=>if OK a x=G then J (k,i,x)else U
theorem ii(h:EN sc N P e=J (k,i,x)):∃p,e=.Name x p/\P[k]?=J i/\N[i]?=J x/\m6 sc x/\afz x/\(x==("__classdict__":Str))=η:=by
 obtain⟨d,a,h⟩:=bY.mp h;obtain⟨b,h1,h⟩:=bY.mp h;obtain⟨f,h2,h⟩:=bY.mp h;cbv
 .rename_i hr;nofun;delta ug at a;split at a
  .cases a;obtain⟨c,g,_⟩:=ac0.mp h2;refine⟨_,rfl,?_,gc h1,tV hr⟩
   mright
  .cases a
 .nofun
def Au(a:Scope)(N:afr)(P:afq)(b:aa1->Option FM):List aa1->Option qg
 |[]=>J bj
 |e::es=>if al e=G then(match EN a N P e with
  |some (k,_,_)=>(Au a N P b es).map<|mw k
  |none=>(b e).bind fun φ=>(Au a N P b es).map (aK φ))else U
def Pd(t:MTb)(d:Scope)(N:afr)(P:afq)(h:aa1->Option FM)(i:aa1->Option lM)(e:aa1):Option FM:=match(ip t.t dB d N []).1 e with
 |some φ=>J<|ji P φ
 |none=>match e with
  |.IfExp c a b _=>(i c).bind fun τ=>(h a).bind fun φ=>(h b).map fun ψ=>Nf τ φ ψ
  |.Tuple es _ _=>(Au d N P h es).map vN
  |e=>match fst t.f fun f=>f d N P e with
   |some q=>(Au d N P h q.1).map q.2
   |none=>(fst t.g fun f=>f d N P e).bind fun q=>((ip t.t dB d N []).1 q.1).map q.2
noncomputable def F8(f:aa1->Option lM)(q:lM->lM->lM):List aa1->Option lM
 |[]=>U
 |[a]=>f a
 |a::b::r=>(f a).bind fun τ=>(F8 f q<|b::r).map<|q τ
def Qv(t:MTb)(c:Scope)(N:afr)(P:afq)(d:aa1->Option FM)(b:aa1->Option lM)(e:aa1):Option lM:=match(ip t.t dB c N []).2 e with
 |some τ=>J<|uv P τ
 |none=>match e with
  |.UnaryOp .Not a _=>(b a).map Dc
  |.BoolOp .And l _=>F8 b xg l
  |.BoolOp .Or l _=>F8 b J6 l
  |e=>if P8 e=G then(d e).map qL else U
def o9(t:MTb)(a:Scope)(N:afr)(P:afq):Nat->(aa1->Option FM)×(aa1->Option lM)
 |0=>(fun _=>U,fun _=>U)
 |n+1=>(Pd t a N P (o9 t a N P n).1 (o9 t a N P n).2,Qv t a N P (o9 t a N P n).1 (o9 t a N P n).2)
section
variable{K:aT}
theorem nX(g:∀e φ,fx e=J φ->ME X K mg P e φ):∀(es:List aa1)(α:qg),Au X.env.scope X.N P fx es=J α->MA X K mg P es α
 |[],_,h=>by nofun;exact(fun E=>eD.imp (by intro Z H Q q_;refine Z62 q_ fun as B hs cl Y L I h=>?_;exact h [] cl H I (ah.refl _) rfl))
 |e::es,α,h=>by
  unfold Au at h;cbv
  .rename_i hn;cbv
   .rename_i k i x ho;obtain⟨β,h1,rfl⟩:=dO.mp h;refine Z16 (ii ho) fun p r0_ a b c d f=>?_;subst r0_;exact Tk a (nX g es β h1) b c d f
   .obtain⟨φ,h1,h⟩:=bY.mp h;obtain⟨β,h2,rfl⟩:=dO.mp h;exact LF (g e φ h1) (nX g es β h2) hn
  .nofun
theorem MV(T:MTbOk X K mg t)(h:(ip t.t dB X.env.scope X.N []).1 e=J φ):∀a,JE (X.wish a) e<|tD ⟨K,mg,E0⟩ [] φ:=fun a=>(jG (X:=X.wish a) T.k T.c (T.t a) dB (X.wish a) .re []).1 e φ h
theorem SU(T:MTbOk X K mg t)(h:(ip t.t dB X.env.scope X.N []).2 e=J τ):∀a,JT (X.wish a) e<|lq ⟨K,mg,E0⟩ [] τ:=fun a=>(jG (X:=X.wish a) T.k T.c (T.t a) dB (X.wish a) .re []).2 e τ h
theorem JQ(T:MTbOk X K mg t)(c:∀e φ,fx e=J φ->ME X K mg P e φ)(j:∀e τ,ft e=J τ->MT X K mg P e τ)(e:aa1)(φ:FM)(h:Pd t X.env.scope X.N P fx ft e=J φ):ME X K mg P e φ:=by
 delta Pd at h;cbv
 .rename_i a b;nofun;exact Ka<|MV T b
 .cbv
  .obtain⟨τ,b,h⟩:=bY.mp h;obtain⟨i,h1,h⟩:=bY.mp h;obtain⟨ψ,h2,rfl⟩:=dO.mp h;exact Td (j _ _ b) (c _ _ h1)<|c _ _ h2
  .obtain⟨α,h1,rfl⟩:=dO.mp h;exact PX<|nX c _ _ h1
  .cbv
   .rename_i q e1;obtain⟨f,h2,d⟩:=fE e1;obtain⟨α,h1,rfl⟩:=dO.mp h;exact T.f f h2 P _ _ _ α d<|nX c _ _ h1
   .obtain⟨q,b,h⟩:=bY.mp h;obtain⟨a,h1,rfl⟩:=dO.mp h;obtain⟨f,h2,d⟩:=fE b;exact T.g f h2 P _ _ _ a d<|MV T h1
theorem yi(c:∀e τ,f e=J τ->MT X K mg P e τ):∀(l:List aa1)(τ:lM),F8 f xg l=J τ->MW X K mg P (.BoolOp .And l pos) τ
 |[],_,h=>by nofun
 |[a],τ,h=>KO<|c a τ h
 |a::b::r,_,h=>by
  obtain⟨τ,h1,h⟩:=bY.mp h;obtain⟨υ,h2,rfl⟩:=dO.mp h;exact OZ (c _ _ h1)<|yi c (b::r) υ h2
theorem Cd(c:∀e τ,f e=J τ->MT X K mg P e τ):∀(l:List aa1)(τ:lM),F8 f J6 l=J τ->MW X K mg P (.BoolOp .Or l pos) τ
 |[],_,h=>by nofun
 |[a],τ,h=>PN<|c a τ h
 |a::b::r,_,h=>by
  obtain⟨τ,h1,h⟩:=bY.mp h;obtain⟨υ,h2,rfl⟩:=dO.mp h;exact U3 (c _ _ h1)<|Cd c (b::r) υ h2
theorem Kr(T:MTbOk X K mg t)(b:∀e φ,fx e=J φ->ME X K mg P e φ)(a:∀e τ,ft e=J τ->MT X K mg P e τ)(e:aa1)(τ:lM)(h:Qv t X.env.scope X.N P fx ft e=J τ):MT X K mg P e τ:=by
 delta Qv at h;cbv
 .rename_i τ0 h0;nofun;exact Ko<|SU T h0
 .cbv
  .obtain⟨υ,h1,rfl⟩:=dO.mp h;exact RA<|a _ _ h1
  .exact BC (yi a _ _ h)
  .exact BC (Cd a _ _ h)
  .cbv
   .rename_i hb;obtain⟨φ,h1,rfl⟩:=dO.mp h;exact Iq (b _ _ h1) (B6 hb _) T.k.symm
   .nofun
theorem ly(T:MTbOk X K mg t):∀(n:Nat),(∀e φ,(o9 t X.env.scope X.N P n).1 e=J φ->ME X K mg P e φ)/\∀e τ,(o9 t X.env.scope X.N P n).2 e=J τ->MT X K mg P e τ
 |0=>⟨fun _ _ h=>(by nofun),fun _ _ h=>(by nofun)⟩
 |n+1=>⟨JQ T (ly T n).1 (ly T n).2,Kr T (ly T n).1 (ly T n).2⟩
end
def mB:Nat:=12
def Pz(t:MTb)(nl:Nat)(d:Scope)(fn:Str->Bool)(N:afr)(g:afq->List abN->Option (gi×afq))(P:afq)(s:abN):Option<|gi×afq:=match fst t.s fun f=>f nl d fn N P s with
 |some q=>(Au d N P (o9 t d N P mB).1 q.1).map fun α=>(q.2.1 α,q.2.2)
 |none=>match aNq s with
  |some (x,a,e)=>(Hs N P d fn a).bind fun i=>if zd e=G then U else((o9 t d N P mB).1 e).map fun φ=>(qM nl i φ,P)
  |none=>match s with
  |.Return r _=>match r with|some e=>((o9 t d N P mB).1 e).map fun φ=>(xz nl φ,P)|none=>J (UF nl,P)
  |.Expr e _=>if zd e=G then U else((o9 t d N P mB).1 e).map fun φ=>(sr nl φ,P)
  |.Pass _=>J (qG,P)
  |.If c a b _=>((o9 t d N P mB).2 c).bind fun τ=>(g P a).bind fun p=>(g P b).bind fun q=>if p.2=P/\q.2=P then J (pf nl τ p.1 q.1,P)else U
  |.While c body r _=>match r with|[]=>((o9 t d N P mB).2 c).bind fun τ=>(g P body).bind fun p=>if p.2=P then J (bV nl τ p.1 t.w,P)else U|_=>U
  |s=>(fst t.h fun f=>f nl d N P s).bind fun q=>((o9 t d N P mB).1 q.1).map fun φ=>(q.2 φ,P)
def Qh(f:afq->abN->Option (gi×afq)):afq->List abN->Option (gi×afq)
 |P,[]=>J (qG,P)
 |P,[s]=>f P s
 |P,s::a::r=>(f P s).bind fun p=>(Qh f p.2<|a::r).map fun q=>(bZ p.1 q.1,q.2)
def Qc(t:MTb)(nl:Nat)(a:Scope)(fn:Str->Bool)(N:afr):Nat->afq->List abN->Option (gi×afq)
 |0=>fun _ _=>U
 |n+1=>Qh<|Pz t nl a fn N<|Qc t nl a fn N n
section
variable{K:aT}
theorem vY(h:Hs N P sc fn (.Name x p)=J i):i∉P/\N[i]?=J x/\Qp sc fn x=G:=by
 obtain⟨c,a,h⟩:=bY.mp h;cases a;obtain⟨b,h1,h⟩:=bY.mp h;cbv
 .rename_i hq;nofun;exact⟨hq.1,gc h1,hq.2⟩
 .nofun
theorem LG(T:MTbOk X K mg t)(k:∀pl,MTbOk (X.pin pl) K mg t)(g:∀P sts q,fb P sts=J q->∀Pb,MB X K mg nl Pb P q.2 sts q.1)(P:afq)(s:abN)(q:gi×afq)(h:Pz t nl X.env.scope X.fn X.N fb P s=J q)(Pb:afq):MS X K mg nl Pb P q.2 s q.1:=by
 have tx:=ly (P:=P) T mB;delta Pz at h;cbv
 .rename_i r e1;obtain⟨f,h2,d⟩:=fE e1;obtain⟨α,h1,rfl⟩:=dO.mp h;exact T.s f h2 nl Pb P s _ _ _ α d<|nX tx.1 _ _ h1
 .cbv
  .rename_i hx;obtain⟨p,b,rfl,rfl⟩:=aNo hx;clear hx;obtain⟨i,h1,h⟩:=bY.mp h;cbv
   .nofun
   .rename_i hcp;obtain⟨φ,h2,rfl⟩:=dO.mp h;obtain⟨a,b,c⟩:=vY h1;obtain⟨e,l⟩:=pk c;exact Ow a T.n e (tx.1 _ _ h2) b (jH (aaM.mpr hcp) _ _ _) l
  cbv
  .cbv
   .obtain⟨φ,h2,rfl⟩:=dO.mp h;exact QM<|tx.1 _ _ h2
   .nofun;exact(fun E=>(Kc).imp (by intro D Z H q_;refine Z63 q_ fun as B j cl Y L e I h=>?_;exact h .non _ H (e▸I.mo) rfl))
  .cbv
   .nofun
   .rename_i hcp;obtain⟨φ,h2,rfl⟩:=dO.mp h;exact KK (tx.1 _ _ h2)<|jH (aaM.mpr hcp) _ _ _
  .nofun;exact(fun E=>Ki.imp (by intro D Z H q_;refine Z63 q_ fun as B j cl Y L e I h=>?_;exact h cl Z H I))
  .obtain⟨τ,h1,h⟩:=bY.mp h;obtain⟨p,h2,h⟩:=bY.mp h;obtain⟨r,d,h⟩:=bY.mp h;cbv
   .rename_i hq;nofun;have a:=g _ _ _ h2 Pb;have b:=g _ _ _ d Pb;rw[hq.1]at a;rw[hq.2]at b;exact Ur (tx.2 _ _ h1) a b
   .nofun
  .cbv
   .obtain⟨τ,h1,h⟩:=bY.mp h;obtain⟨p,h2,h⟩:=bY.mp h;cbv
    .rename_i hq;nofun;have b:=g _ _ _ h2 P;rw[hq]at b;exact EO t.w T.st T.fr (tx.2 _ _ h1) b
    .nofun
   .nofun
  .obtain⟨r,j,h⟩:=bY.mp h;obtain⟨φ,h1,rfl⟩:=dO.mp h;obtain⟨f,h2,d⟩:=fE j;exact T.h f h2 nl Pb P _ _ _ φ d (tx.1 _ _ h1) fun pl=>(ly (k pl) mB).1 _ _ h1
theorem B8(b:∀P s q,f P s=J q->∀Pb,MS X K mg nl Pb P q.2 s q.1):∀(sts:List abN)(P:afq)(q:gi×afq),Qh f P sts=J q->∀Pb,MB X K mg nl Pb P q.2 sts q.1
 |[],P,q,h,Pb=>by nofun;exact(fun E=>Hu.imp (by intro D Z H q_;refine Z63 q_ fun as B h0 cl Y L hl I h=>?_;exact h cl Z H I))
 |[s],P,q,h,Pb=>Q2<|b P s q h Pb
 |s::a::r,P,q,h,Pb=>by
  obtain⟨p,h1,h⟩:=bY.mp h;obtain⟨u,h2,rfl⟩:=dO.mp h;exact Kk (b P s p h1 Pb)<|B8 b (a::r) p.2 u h2 Pb
theorem wC(T:MTbOk X K mg t)(a:∀pl,MTbOk (X.pin pl) K mg t):∀(n:Nat)(P:afq)(sts:List abN)(q:gi×afq),Qc t nl X.env.scope X.fn X.N n P sts=J q->∀Pb,MB X K mg nl Pb P q.2 sts q.1
 |0,_,_,_,h,_=>by nofun
 |n+1,P,sts,q,h,Pb=>B8 (fun P s q h Pb=>LG T a (wC T a n) P s q h Pb) sts P q h Pb
end
def vX:FE:=fun _=>.no
def g0(l:List FE):FE:=l.headD vX
def g1(l:List FE):FE:=(l.drop 1).headD vX
def g2(l:List FE):FE:=(l.drop 2).headD vX
def Ip:aa1->Bool
 |.Slice ..=>G
 |_=>η
theorem ym(h:Ip b=η):rh b:=by
 cases b<;>first|exact fun _ _=>rfl|nofun
theorem Np(h:Ip b=η):En b:=by
 cases b<;>first|exact fun _ _=>rfl|nofun
theorem BA(h:xJ b=η)(a:CmpOp):adq a b=η:=by
 cases b<;>first|assumption|rfl|nofun
def Aa:aa1->Bool
 |.Name ..=>G
 |.Subscript ..=>G
 |.Attribute ..=>G
 |.Constant ..=>G
 |.Call _ (_::_) _ _=>G
 |.Dict ..=>G
 |_=>η
theorem Lz(f:Str)(env:Env)(m:Sem nE):aaF (.Call g (a::es) kw pos) f env m=m:=by
 cases g<;>rfl
theorem zq(h:Aa e=G)(f:Str)(env:Env):aaF e f env (eval e env)=eval e env:=by
 cases e<;>first|rfl|skip;all_goals (rename_i g a b pos;cases a<;>first|exact Lz _ _ _|nofun)
def iK:aa1->Bool:=fun _=>G
noncomputable def cM:aa1->Option (aa1×Str×List aa1)
 |.Call (.Attribute a f apos) es [] cpos=>if(apos.endLine==cpos.line)=G then J (a,f,es)else U
 |_=>U
theorem kr(h:cM e=J q):∃apos cpos,e=.Call (.Attribute q.1 q.2.1 apos) q.2.2 [] cpos/\(apos.endLine==cpos.line)=G:=by
 delta cM at h;cbv
 .grind
 .nofun
def cS:aa1->Option (aa1×aa1)
 |.Subscript a b _=>if Ip b=G then U else J (a,b)
 |_=>U
theorem BX(h:cS e=J q):∃pos,e=.Subscript q.1 q.2 pos/\Ip q.2=η:=by
 delta cS at h;cbv
 .cbv
  .nofun
  .nofun;mright
 .nofun
def cC:aa1->Option (aa1×CmpOp×aa1)
 |.Compare a [o] [b] _=>if xJ b=G then U else J (a,o,b)
 |_=>U
theorem Vo(h:cC e=J q):∃pos,e=.Compare q.1 [q.2.1] [q.2.2] pos/\xJ q.2.2=η:=by
 delta cC at h;cbv
 .cbv
  .nofun
  .nofun;mright
 .nofun
def xE:abN->Option aa1
 |.Expr e _=>J e
 |_=>U
theorem NR(h:xE s=J e):∃pos,s=.Expr e pos:=by
 delta xE at h;cbv
 .mright
 .nofun
section
theorem yN(h:Js X W O [a] l):∃φ,l=[φ]/\JE X a (tD W O φ):=by
 match l,h with
 |[φ],h=>exact⟨φ,rfl,h.1⟩
theorem Kp(h:Js X W O [a,b] l):∃φ ψ,l=[φ,ψ]/\JE X a (tD W O φ)/\JE X b (tD W O ψ):=by
 match l,h with
 |[φ,ψ],h=>exact⟨φ,ψ,rfl,h.1,h.2.1⟩
theorem js3(h:Js X W O [a,b,c] l):∃φ ψ χ,l=[φ,ψ,χ]/\JE X a (tD W O φ)/\JE X b (tD W O ψ)/\JE X c (tD W O χ):=by
 match l,h with
 |[φ,ψ,χ],h=>exact⟨φ,ψ,χ,rfl,h.1,h.2.1,h.2.2.1⟩
theorem KM.m(h:KM X W f):dr X W f:=fun O e es b a h1 h2=>FQ<|h O e es b a h1 h2
end
section
variable{X:Cx}{W:Wd}
def yc(c:Operator)(g:D->D->R D):Fm:=fun _ _ _ e=>match e with
 |.BinOp a o b _=>if o=c then J ([a,b],fun l=>aH g (g0 l)<|g1 l)else U
 |_=>U
theorem lr(c:eJ X (aco op) r)(hd:wo W r g):dr X W<|yc op g:=fun O e es b d h a=>by
 delta yc at h;cbv
 .cbv
  .rename_i hq;subst hq;nofun;obtain⟨φ,ψ,rfl,h1,h2⟩:=Kp a;exact( IG (fun h1 h2=>Wn c h1 h2) rfl hd h1 h2)
  .nofun
 .nofun
def gH(a:CmpOp)(g:D->D->R D)(p:aa1->Bool):Fm:=fun _ _ _ e=>(cC e).bind fun q=>if q.2.1=a/\p q.2.2=G then J ([q.1,q.2.2],fun l=>aH g (g0 l)<|g1 l)else U
def fQ(f:Fm):Fq:=fun a N O e=>(f a N O e).map fun q=>(q.1,fun l=>dC<|q.2 l)
theorem CZ(h:gH op g p sc N O e=J (es,b)):∃x y pos,e=.Compare x [op] [y] pos/\es=[x,y]/\b=(fun l=>aH g (g0 l)<|g1 l)/\xJ y=η:=by
 mstop
 obtain⟨q,h1,h⟩:=h;cbv
 .rename_i hq;nofun;obtain⟨pos,rfl,h2⟩:=Vo h1;exact⟨_,_,_,by rw[hq.1],rfl,rfl,h2⟩
 .nofun
theorem bz(c:eJ X (aaY op) r)(hd:wo W r g):dr X W (gH op g p)/\Sn X W (fQ<|gH op g p):=by
 refine⟨fun O e es b d h a=>?_,fun O e es b d h a=>?_⟩
 .obtain⟨x,y,pos,rfl,rfl,rfl,hs⟩:=CZ h;obtain⟨φ,ψ,rfl,h1,h2⟩:=Kp a;exact(fun c hd k l f =>  IG (fun h1 h2=>T8 c h1 h2 f) rfl hd k l) c hd h1 h2<|BA hs _
 .obtain⟨q,h,hq⟩:=dO.mp h
  obtain⟨x,y,pos,rfl,j,i,hs⟩:=CZ h;cases hq;rw[j]at a;obtain⟨φ,ψ,rfl,h1,h2⟩:=Kp a;rw[i];exact Qi c hd h1 h2<|BA hs _
def Zs(g:D->D->R D)(p:aa1->Bool):Fm:=fun _ _ _ e=>(cS e).bind fun q=>if p q.1=G then J ([q.1,q.2],fun l=>aH g (g0 l)<|g1 l)else U
theorem P6(k:∀O a b pos φ ψ,Ip b=η->JE X a (tD W O φ)->JE X b (tD W O ψ)->JE X (.Subscript a b pos) (tD W O<|aH g φ ψ)):dr X W<|Zs g p:=fun O e es b i h c=>by
 mstop
 obtain⟨q,h1,h⟩:=h;cbv
 .nofun;obtain⟨pos,rfl,h2⟩:=BX h1;obtain⟨φ,ψ,rfl,f,d⟩:=Kp c;exact k _ _ _ _ _ _ h2 f d
 .nofun
def oP(o:Option aa1)(φ:FE):Sd->R (Option Int):=match o with
 |none=>Hh
 |some _=>gI φ
def X8(g:D->Option Int->Option Int->R D):Fm:=fun _ _ _ e=>match e with
 |.Subscript a (.Slice lo hi U _) _=>J (a::(lo.toList++hi.toList),fun l=>Jm g (g0 l) (oP lo<|g1 l)<|oP hi<|if lo.isSome=G then g2 l else g1 l)
 |_=>U
theorem QZ(d:V2 X r)(hd:ZQ W r g):dr X W<|X8 g:=fun O e es b i h c=>by
 delta X8 at h;cbv
 .rename_i a lo hi _ _;nofun;cases lo with
  |none=>cases hi with
   |none=>obtain⟨φ,rfl,h1⟩:=yN c;exact rJ d hd h1 rl rl
   |some u=>obtain⟨φ,ψ,rfl,h1,h2⟩:=Kp c;exact rJ d hd h1 rl<|ro h2
  |some v=>cases hi with
   |none=>obtain⟨φ,ψ,rfl,h1,h2⟩:=Kp c;exact rJ d hd h1 (ro h2) rl
   |some u=>obtain⟨φ,ψ,χ,rfl,h1,h2,f⟩:=js3 c;exact rJ d hd h1 (ro h2)<|ro f
 .nofun
def SJ:Fm:=fun _ _ _ e=>match e with
 |.Tuple es _ _=>if es.all al=G then J (es,fun l=>uD<|aL l)else U
 |_=>U
def LC:Fm:=fun _ _ _ e=>match e with
 |.List es _=>if es.all al=G then J (es,fun l=>uw<|aL l)else U
 |_=>U
theorem Bq:KM X W LC:=fun O e es b c h a=>by
 delta LC at h;cbv
 .cbv
  .rename_i hq;nofun;exact US<|xS a hq
  .nofun
 .nofun
def uo(c f:Str):Fm:=fun _ _ _ e=>match e with
 |.Attribute a g _=>if g=f/\Aa a=G then J ([a],fun l=>iw c f<|g0 l)else U
 |_=>U
theorem Co(j:DO X.K By c=J (J<|.ref C))(g:Cls X.K C)(a:a9 X.K C f)(i:W.K=X.K):dr X W<|uo c f:=fun O e es b k h d=>by
 delta uo at h;cbv
 .cbv
  .rename_i hq;nofun;obtain⟨φ,rfl,h1⟩:=yN d;rw[hq.1];exact Nn X.K j g a h1 (zq hq.2 f _) rfl i
  .nofun
 .nofun
def fB(x:Str)(F:afy->R D):Fm:=fN x (fun n=>decide (0<n)) fun l=>aI F<|aL l
theorem No{c:FA->FE}{t:afq->FE->TE}(k:∀O a es p pos α,Gl X x->afz x->al a=G->es.all al=G->JA X (a::es) (zx W O α)->JE X (.Call (.Name x p) (a::es) [] pos) (t O<|c α)):
  ∀O e es b d,fN x (fun n=>decide (0<n)) (fun l=>c<|aL l) X.env.scope X.N O e=J (es,b)->Js X W O es d->JE X e (t O<|b d):=fun O e es b d h g=>by
 obtain⟨p,pos,rfl,h1,h2,i,rfl⟩:=Nj h;cases es with
 |nil=>trivial
 |cons a r=>
  have f:=h2;rw[aa5,oR]at f;exact k _ _ _ _ _ _ (eI h1).1 (eI h1).2 f.1 f.2<|xS g h2
theorem sW{id:String}(b:bI X (.builtin id) r)(hd:nU W r F)(c:X.mg x=U)(g:aaT x=J (.builtin id))(h:autoParam (x≠"__name__") Xax):dr X W<|fB x F:=
 No fun O a es p pos α h1 h2 f d e=>Kw b hd c g e h1 f d h h2
theorem wH(b:bI X (.type T) r)(hd:nU W r F)(c:X.mg x=U)(g:aaT x=J (.type T))(h:autoParam (x≠"__name__") Xax):dr X W<|fB x F:=
 No fun O a es p pos α h1 h2 f d e=>Ku b hd c g e h1 f d h h2
theorem cy(b:X.mg x=U)(d:aaT x=J (.type n))(e:autoParam (x≠"__name__") Xax)(a:autoParam (afz x) Xax):yy X W x<|.ty n:=fun O p c=>Yt b d c e a
theorem cg(b:X.mg x=J u)(r:aP v u)(hd:∀H,bQ W.K H d v)(a:autoParam (afz x) Xax):yy X W x d:=fun O p c=>Oy b r hd c a
def WW(b:UnaryOp)(g:D->R D):Fm:=fun _ _ _ e=>match e with
 |.UnaryOp o a _=>if o=b then J ([a],fun l=>zz g<|g0 l)else U
 |_=>U
theorem QU(c:KD X (unaryOp op) r)(hd:YB W r g):dr X W<|WW op g:=fun O e es b d h a=>by
 delta WW at h;cbv
 .cbv
  .rename_i hq;subst hq;nofun;obtain⟨φ,rfl,h1⟩:=yN a;exact Xg c hd h1
  .nofun
 .nofun
def aaj:Fm:=fun _ _ _ e=>match e with
 |.UnaryOp .Not a _=>J ([a],fun l=>Oz<|g0 l)
 |.BoolOp _ [a] _=>J ([a],g0)
 |.BoolOp .And (a::b::r) pos=>J ([a,.BoolOp .And (b::r) pos],fun l=>GS (g0 l)<|g1 l)
 |.BoolOp .Or (a::b::r) pos=>J ([a,.BoolOp .Or (b::r) pos],fun l=>aap (g0 l)<|g1 l)
 |_=>U
def Zl(m:Str)(n:Nat)(c:List FE->FE):Fm:=fun _ _ _ e=>(cM e).bind fun q=>if q.2.1=m/\q.2.2.length=n/\Aa q.1=G/\q.2.2.all al=G then J (q.1::q.2.2,c)else U
theorem O7(h:Zl m n c sc N O e=J (es,b)):∃a r apos cpos,e=.Call (.Attribute a m apos) r [] cpos/\es=a::r/\b=c/\r.length=n/\Aa a=G/\r.all al=G/\(apos.endLine==cpos.line)=G:=by
 mstop
 obtain⟨q,h1,h⟩:=h;cbv
 .rename_i hq;nofun;obtain⟨apos,cpos,rfl,h2⟩:=kr h1;exact⟨_,_,_,_,by rw[hq.1],rfl,rfl,hq.2.1,hq.2.2.1,hq.2.2.2,h2⟩
 .nofun
def S5(m:Str)(n:Nat)(g:Str->afy->R D):Fm:=Zl m n fun l=>DN g (g0 l)<|aL<|l.drop 1
theorem uc{id:String}(d:Slot "str" m id)(j:typeOf (.builtin id)=pure (.type "method_descriptor"))(k:Oj X id r)(hd:V7 W r g)(t:autoParam (0<n) Xax)(o:autoParam (n<29) Xax):dr X W<|S5 m n g:=fun O e es b i h f=>by
 obtain⟨a,r,apos,cpos,rfl,rfl,rfl,p,s,hs,q⟩:=O7 h;cases r with
 |nil=>mright
 |cons c r=>
  cases i with
  |nil=>exact f.elim
  |cons φ l=>exact X6 d j k hd f.1 (xS f.2 hs) (zq s _ _) q hs (by rw[p];exact o)
def XG(x:Str)(tab:List<|Str×D):Fm:=fun a _ _ e=>(cS e).bind fun q=>if ug q.1=J x/\CA a x=G then J ([q.2],fun l=>zz (cdD tab)<|g0 l)else U
theorem Ir(c:X.mg x=J (.ref a))(l:X.K.lookup a=J ⟨.type "dict",U,.dict es n,#[]⟩)(k:adx X.w.params es.toList)
  (m:∀y d,tab.lookup y=J d->∃v u,DO X.K a y=J (J u)/\aP v u/\∀H,bQ W.K H d v):dr X W<|XG x tab:=fun O e es b f h g=>by
 mstop
 obtain⟨⟨o,i⟩,h1,h⟩:=h;obtain⟨pos,rfl,h2⟩:=BX h1;cbv
 .rename_i hq;nofun;obtain⟨_,rfl⟩:=AY hq.1;obtain⟨φ,rfl,j⟩:=yN g;exact KP tab c l k m j (eI hq.2).1 (eI hq.2).2<|Np h2
 .nofun
def UO(K:aT)(mg:afu)(q:Str×D):Prop:=∃v u,mg q.1=J u/\aP v u/\(∀H,bQ K H q.2 v)/\∀p,u=.ref p->∃a,K.lookup p=J a/\a.cls=.type "tuple"/\a.dict=U
def oN(a:Scope)(N:afr)(O:afq)(e:aa1):Option Nat:=(ug e).bind<|owB a N O
theorem vA(h:oN sc N O e=J i):∃x p,e=.Name x p/\N[i]?=J x/\i∈O/\m6 sc x/\afz x/\(x==("__classdict__":Str))=η:=by
 mstop
 obtain⟨x,h1,h⟩:=h;obtain⟨p,rfl⟩:=AY h1;exact⟨x,p,rfl,(by
   mstop
   obtain⟨j,h1,h⟩:=h;cbv
   .rename_i hq;nofun;exact⟨gc h1,hq.1,tV hq.2⟩
   .nofun)⟩
def VB:Fm:=fun a N O e=>(cS e).bind fun q=>(oN a N O q.1).map fun i=>([q.2],fun l=>aH cR (ag i)<|g0 l)
theorem LD(j:W.K=X.K):dr X W VB:=fun O e es b c h d=>by
 mstop
 obtain⟨⟨u,v⟩,h1,h⟩:=h;obtain⟨pos,rfl,h2⟩:=BX h1
 replace h:=dO.mp h
 obtain⟨i,h3,h⟩:=h
 nofun;refine Z26 (vA h3) fun x p r0_ k g f m l=>?_;subst r0_;obtain⟨φ,rfl,a⟩:=yN d;exact R0 X.K g a k (ym h2) f m l rfl j
def RY(f:Str)(F:afy->R D):Fm:=fun b N O e=>(cN e).bind fun q=>match q.2 with
 |[a]=>if q.1=f/\CA b f=G then(oN b N O a).map fun i=>([],fun l=>aI F<|ak (ag i) aQ)else U
 |_=>U
theorem HS(k:∀O i x p1 p2 pos,Gl X f->X.N[i]?=J x->i∈O->m6 X.env.scope x->afz x->(x==("__classdict__":Str))=η->JE X (.Call (.Name f p2) [.Name x p1] [] pos) (tD W O<|aI F<|ak (ag i) aQ)):dr X W<|RY f F:=fun O e es b a h n=>by
 mstop
 obtain⟨⟨g,r⟩,h1,h⟩:=h;obtain⟨p,pos,rfl⟩:=nD h1;dsimp only at h;cbv
 .cbv
  .rename_i hq
   replace h:=dO.mp h
   obtain⟨i,h3,h⟩:=h
   nofun;refine Z26 (vA h3) fun x p r0_ j d c m l=>?_;subst r0_;rw[hq.1];exact k _ _ _ _ _ _ (eI hq.2).1 j d c m l
  .nofun
 .nofun
theorem Jc(a:X.mg "len"=U)(d:W.K=X.K):dr X W<|RY "len" cr:=HS fun O i x p1 p2 pos c h1 h2 e b f=>PU X.K h2 a h1 c e b f rfl d
theorem Fe(a:X.mg "tuple"=U)(d:W.K=X.K):dr X W<|RY "tuple" wf:=HS fun O i x p1 p2 pos c h1 h2 e b f=>Rq X.K h2 a h1 c e b f rfl d
def Q3:aa1->Bool
 |.Tuple ..=>G
 |_=>η
theorem Lq(h:Q3 g=G):∃es k p,g=.Tuple es k p:=by
 cases g<;>first|lia|nofun
def fI(x:Str)(n:Nat)(t:Bool)(c:FA->FA):Fi:=fun a _ _ g e=>(cN e).bind fun q=>if q.1=x/\q.2.length=n/\CA a x=G/\q.2.all al=G/\(t=G->Q3 g=G)then J (q.2,fun l=>c<|aL l)else U
theorem Ng(k:∀O g es p pos α,es.length=n->Gl X x->es.all al=G->(t=G->Q3 g=G)->JA X es (zx W O α)->JI X g (.Call (.Name x p) es [] pos) (iD W O<|c α)):PZ X W<|fI x n t c:=fun O g e es b f h a=>by
 mstop
 obtain⟨q,d,h⟩:=h;obtain⟨p,pos,rfl⟩:=nD d;cbv
 .rename_i hq;nofun;refine Z05 hq fun h1 h2 h3 h4 h5=>?_
  rw[h1];exact k _ _ _ _ _ _ h2 (eI h3).1 h4 h5<|xS a h4
 .nofun
def Z8(m:Str)(c:Nat->FE->FS):Fs:=fun b N O s=>(xE s).bind fun e=>(cM e).bind fun q=>match q.2.2 with
 |[a]=>if q.2.1=m/\al a=G then(oN b N O q.1).map fun i=>([a],fun l=>c i<|g0 l)else U
 |_=>U
theorem Ox(k:∀Ob O i x e p1 apos cpos pos φ,X.N[i]?=J x->i∈O->m6 X.env.scope x->afz x->(x==("__classdict__":Str))=η->al e=G->(apos.endLine==cpos.line)=G->JE X e (tD W O φ)->JS X (.Expr (.Call (.Attribute (.Name x p1) m apos) [e] [] cpos) pos) (sD W Ob O O<|c i φ)):IK X W<|Z8 m c:=fun Ob O s es b a h d=>by
 mstop
 obtain⟨e,t,h⟩:=h;obtain⟨_,rfl⟩:=NR t
 mstop
 obtain⟨⟨o,f,r⟩,h1,h⟩:=h;obtain⟨apos,cpos,rfl,h2⟩:=kr h1;dsimp only at h;cbv
 .cbv
  .rename_i hq
   replace h:=dO.mp h
   left;obtain⟨i,h3,h⟩:=h
   nofun;obtain⟨x,p,rfl,l,j,g,q,n⟩:=vA h3;obtain⟨φ,rfl,u⟩:=yN d;right;rw[hq.1];exact k _ _ _ _ _ _ _ _ _ _ l j g q n hq.2 h2 u
  .nofun
 .nofun
def P4:Fs:=fun a N O s=>match s with
 |.AugAssign (.Name x _) .Add e _=>(Mm N x).bind fun i=>if i∉O/\N.Nodup/\a.names.lookup x=J .local then J ([e],fun l=>lz i<|g0 l)else U
 |_=>U
theorem J4:IK X W P4:=fun Ob O s es b c h a=>by
 delta P4 at h;cbv
 .obtain⟨i,h1,h⟩:=bY.mp h
  cbv
  .rename_i hq;nofun;obtain⟨φ,rfl,h2⟩:=yN a;exact DZ hq.1 hq.2.1 (.inl hq.2.2) h2 (gc h1)<|.inr hq.2.2
  .nofun
 .nofun
def NW:Fs:=fun _ _ _ s=>(xE s).bind fun e=>if zd e=G then U else J ([e],fun l=>ND<|g0 l)
theorem E8:IK X W NW:=fun Ob O s es b d h a=>by
 mstop
 obtain⟨e,c,h⟩:=h;obtain⟨_,rfl⟩:=NR c;cbv
 .nofun
 .rename_i hc;nofun;obtain⟨φ,rfl,h2⟩:=yN a;exact Mo h2<|jH (aaM.mpr hc) _ _ _
end
structure FZ(Yq0:Cx)(P:abf)(w:abh)(K:aT)(mg:afu)(base:acn)(k:Nat):Prop where
 y:FY Yq0 P w K mg base k
 x:qQ Yq0
 st:Yq0.stack=Yq0.env::Yq0.outer
 fr:Yq0.env.frame=J Yq0.env.locals
section
variable{P:abf}{w:abh}{K:aT}{mg:afu}{base:acn}
theorem FY.pin(y:FY Yq0 P w K mg base k)(pl:afs):FY (Yq0.pin pl) P w K mg base k:=⟨y.eK,y.eM,y.eP,y.eW,y.eB,y.hr,y.cm⟩
theorem FZ.pin(y:FZ Yq0 P w K mg base k)(pl:afs):FZ (Yq0.pin pl) P w K mg base k:=⟨y.y.pin pl,fun b a=>let⟨o,ho⟩:=y.x b a;⟨o,Le _ ho⟩,y.st,y.fr⟩
abbrev FO(P:abf)(w:abh)(K:aT)(mg:afu)(base:acn)(j:Nat)(f:aaB)(fd:abI)(ps:afr)(Pf:afq)(F:FF):Prop:=FnOk P w K mg base (oI P w mg) j f fd ps<|sJ K mg Pf F
def wE(P:abf)(w:abh)(K:aT)(mg:afu)(base:acn)(j:Nat)(f:FK):Prop:=∀a k,FZ a P w K mg base k->j<=k->∀c e es b α,f a.env.scope a.N c e=J (es,b)->MA a K mg c es α->ME a K mg c e (b α)
def TJ(P:abf)(w:abh)(K:aT)(mg:afu)(base:acn)(j:Nat)(f:V0):Prop:=∀c k,FZ c P w K mg base k->j<=k->∀d e a b φ,f c.env.scope c.N d e=J (a,b)->(∀g,JE (c.wish g) a<|tD ⟨K,mg,E0⟩ [] φ)->ME c K mg d e (b φ)
def zZ(P:abf)(w:abh)(K:aT)(mg:afu)(base:acn)(j:Nat)(f:LH):Prop:=∀a k,FZ a P w K mg base k->j<=k->a.N.Nodup->∀nl Pb c s es b P' α,f nl a.env.scope a.fn a.N c s=J (es,b,P')->MA a K mg c es α->MS a K mg nl Pb c P' s (b α)
abbrev V6:=Nat->Scope->afr->afq->abN->Option (aa1×(FM->gi))
def Qm(P:abf)(w:abh)(K:aT)(mg:afu)(base:acn)(j:Nat)(f:V6):Prop:=∀a k,FZ a P w K mg base k->j<=k->a.N.Nodup->∀nl Pb c s e b φ,f nl a.env.scope a.N c s=J (e,b)->ME a K mg c e φ->(∀pl,ME (a.pin pl) K mg c e φ)->MS a K mg nl Pb c c s (b φ)
def Zy(x:Str)(Pf:afq)(F:FF):FK:=fun b _ _ e=>(cN e).bind fun q=>match q.2 with
 |a::es=>if q.1=x/\CA b x=G/\(a::es).all al=G then J (a::es,dm Pf F)else U
 |[]=>U
theorem Pj{st:abN}(D:Def K mg x st ps f fd)(Gq0:FO P w K mg base j f fd ps Pf F):wE P w K mg base j<|Zy x Pf F:=fun Yq0 k⟨⟨e1,e2,e3,e4,e5,hr,_⟩,hx,_,_⟩hj Pn e es b α h ha=>by
 subst e1 e2 e3 e4 e5;obtain⟨⟨y,l⟩,c,a⟩:=bY.mp h;clear h;obtain⟨_,_,rfl⟩:=nD c;have h:=a;dsimp only at h⊢;cbv
 .cbv
  .rename_i hq;obtain⟨rfl,h1,h2⟩:=hq;nofun;obtain⟨g1,g2⟩:=eI h1;rw[aa5,oR]at h2;exact Lx D Gq0 hr ha hj hx g1 g2 h2.1 h2.2
  .nofun
 .nofun
def Zw(T:List<|Str×FF)(Pf:afq):FK:=fun b N c e=>(cN e).bind fun q=>match q.2 with
 |a::es=>(Mm N q.1).bind fun i=>if OK b q.1=G/\(a::es).all al=G then J (a::es,fY i T Pf)else U
 |[]=>U
theorem Pk(p:∀g F,T.lookup g=J F->∃f fd ps,DO K By g=J (J<|.ref f)/\abk K (.ref f)=G/\cf K fd ps []/\FO P w K mg base j f fd ps Pf F):wE P w K mg base j<|Zw T Pf:=fun Yq0 k⟨⟨e1,e2,e3,e4,e5,hr,_⟩,hx,_,_⟩hj Pn e es b α h ha=>by
 subst e1 e2 e3 e4 e5;obtain⟨⟨y,l⟩,o,m⟩:=bY.mp h;clear h;obtain⟨_,_,rfl⟩:=nD o;have h:=m;dsimp only at h⊢;cbv
 .obtain⟨i,d,h⟩:=bY.mp h;cbv
  .rename_i hq;nofun;obtain⟨c,n,a⟩:=tV hq.1;have h2:=hq.2;rw[aa5,oR]at h2;exact F3 (gc d) c n a p hr ha hj hx h2.1 h2.2
  .nofun
 .nofun
def YN(n m:Str)(Pf:afq)(F:FF):FK:=fun b N c e=>(cM e).bind fun u=>match u.2.2 with
 |[]=>(EN b N c u.1).bind fun q=>if u.2.1=m then J ([],fun _=>dM q.1 n m Pf F bj)else U
 |a::es=>(EN b N c u.1).bind fun q=>if u.2.1=m/\(a::es).all al=G/\(a::es).length<29 then J (a::es,dM q.1 n m Pf F)else U
theorem BR(h1:es.all al=G)(c:es.length<29)(a:(apos.endLine==pos.line)=G):Ep env (.Name x p) m es apos pos:=by
 have b:methodCallForm (es.length+[].length) (adz pos<|abb es env) (backToKw pos<|adB [] env)=G:=tz h1 c;refine⟨(do let r <-importBound (.Name x p) env;pure (r.getD G)),?_⟩;rw[arm_eval_Call];delta methodCall;rw[b];have d:methodCallPos G (.Name x p) env apos pos=pure pos:=by
  delta methodCallPos;rw[a];rfl
 rw[d];rfl
theorem Rg(x:DO K By n=J (J<|.ref C))(c:Cls K C)(v:Meth K C m f)(z:cf K fd ps [])(Gq0:FO P w K mg base j f fd ps Pf F):wE P w K mg base j<|YN n m Pf F:=fun Yq0 k⟨⟨e1,e2,e3,e4,e5,hr,_⟩,hx,_,_⟩hj Pn e es b α h ha=>by
 subst e1 e2 e3 e4 e5;obtain⟨⟨o,y,l⟩,D,A⟩:=bY.mp h;clear h;obtain⟨H,E,rfl,d⟩:=kr D;have h:=A;dsimp only at h d⊢;cbv
 .mstop
  obtain⟨q,t,h⟩:=h;cbv
  .rename_i hq;subst hq;obtain⟨p,rfl,r,i,g,u,s⟩:=ii t;nofun;exact HE r i g u s x c v Gq0 z hr hj hx<|BR rfl ∅ d
  .nofun
 .mstop
  obtain⟨q,t,h⟩:=h;cbv
  .rename_i hq;obtain⟨rfl,h2,B⟩:=hq;refine Z16 (ii t) fun p r0_ r i g u s=>?_;subst r0_;nofun;have a:=h2;rw[aa5,oR]at a;exact KJ r i g u s x c v Gq0 z hr ha hj hx a.1 a.2<|BR h2 B d
  .nofun
def YI:FK:=fun b N c e=>(cM e).bind fun u=>match u.2.2 with
 |[a]=>(EN b N c u.1).bind fun q=>if u.2.1="append"/\al a=G then J ([a],fun α Y L=>if(xm L q.1).isSome=G then L3 q.1 α Y L else .no)else U
 |_=>U
theorem Pu:wE P w K mg base 0 YI:=fun Yq0 k⟨⟨e1,e2,e3,e4,e5,hr,_⟩,hx,_,_⟩hj Pn e es b α h ha=>by
 obtain⟨⟨o,y,l⟩,n,i⟩:=bY.mp h;clear h;obtain⟨s,r,rfl,a⟩:=kr n;have h:=i;dsimp only at h a⊢;cbv
 .mstop
  obtain⟨q,j,h⟩:=h;cbv
  .rename_i hq;left;obtain⟨rfl,h2⟩:=hq;nofun;obtain⟨p,rfl,f,d,c,m,g⟩:=ii j;right;exact Ql f ha d h2 a c m g rfl
  .nofun
 .nofun
def aac:FK:=fun a N b e=>(cM e).bind fun u=>match u.2.2 with
 |[]=>(EN a N b u.1).bind fun q=>if u.2.1="pop"then J ([],fun _=>Qo q.1)else U
 |_=>U
theorem Os:wE P w K mg base 0 aac:=fun Yq0 k⟨⟨e1,e2,e3,e4,e5,hr,_⟩,hx,_,_⟩hj Pn e es b α h ha=>by
 obtain⟨⟨o,y,l⟩,m,i⟩:=bY.mp h;clear h;obtain⟨r,s,rfl,a⟩:=kr m;have h:=i;dsimp only at h a⊢;cbv
 .mstop
  obtain⟨q,c,h⟩:=h;cbv
  .rename_i hq;subst hq;nofun;refine Z16 (ii c) fun p r0_ f j d g n=>?_;subst r0_;exact Rv f j a d g n rfl
  .nofun
 .nofun
def VM:aa1->Option (aa1×Str)
 |.Attribute o g _=>J (o,g)
 |_=>U
theorem Hg(h:VM e=J q):∃p,e=.Attribute q.1 q.2 p:=by
 delta VM at h;cbv
 .nofun;exact⟨_,rfl⟩
 .nofun
def Wm(n f:Str):V0:=fun b N c e=>(cM e).bind fun u=>(VM u.1).bind fun v=>match u.2.2 with
 |[a]=>(EN b N c v.1).bind fun q=>if v.2=f/\u.2.1="append"/\al a=G then J (a,nr q.1 n f)else U
 |_=>U
theorem El(t:DO K By n=J (J<|.ref C))(r:Cls K C)(x:a9 K C f):TJ P w K mg base 0<|Wm n f:=fun Yq0 k⟨⟨e1,e2,e3,e4,e5,hr,_⟩,hx,_,_⟩hj Pn e a b φ h ha=>by
 subst e1 e2 e3 e4 e5;obtain⟨⟨o,y,l⟩,B,v⟩:=bY.mp h;clear h;obtain⟨E,D,rfl,c⟩:=kr B;obtain⟨⟨o',g⟩,m,h⟩:=bY.mp v;obtain⟨_,d⟩:=Hg m;dsimp only at h c d⊢;subst d;cbv
 .mstop
  obtain⟨q,z,h⟩:=h;cbv
  .rename_i hq;obtain⟨rfl,rfl,h2⟩:=hq;nofun;refine Z16 (ii z) fun p r0_ s j i A u=>?_;subst r0_;exact LV s t r x ha j h2 c i A u rfl rfl rfl
  .nofun
 .nofun
def WX(n f:Str):FK:=fun a N b e=>(cM e).bind fun u=>(VM u.1).bind fun v=>match u.2.2 with
 |[]=>(EN a N b v.1).bind fun q=>if v.2=f/\u.2.1="pop"then J ([],fun _=>mh q.1 n f)else U
 |_=>U
theorem EW(s:DO K By n=J (J<|.ref C))(m:Cls K C)(v:a9 K C f):wE P w K mg base 0<|WX n f:=fun Yq0 k⟨⟨e1,e2,e3,e4,e5,hr,_⟩,hx,_,_⟩hj Pn e es b α h ha=>by
 subst e1 e2 e3 e4 e5;obtain⟨⟨o,y,l⟩,A,u⟩:=bY.mp h;clear h;obtain⟨D,B,rfl,a⟩:=kr A;obtain⟨⟨o',g⟩,j,h⟩:=bY.mp u;obtain⟨_,c⟩:=Hg j;dsimp only at h a c⊢;subst c;cbv
 .mstop
  obtain⟨q,x,h⟩:=h;cbv
  .rename_i hq;left;obtain⟨rfl,rfl⟩:=hq;nofun;obtain⟨p,rfl,r,i,d,z,t⟩:=ii x;right;exact KA r s m v i a d z t rfl rfl rfl
  .nofun
 .nofun
def Xh(xs:afr):LH:=fun nl b fn N a s=>match s with
 |.Assign [.Name x p] (.List es _) _=>(Hs N a b fn<|.Name x p).bind fun i=>if xs.contains x=G then J (es,P3 nl i,i::a)else U
 |_=>U
theorem Q6:zZ P w K mg base 0<|Xh xs:=fun d k _ m e nl Pb l s es b P' α h g=>by
 delta Xh at h;cbv
 .obtain⟨i,h1,h⟩:=bY.mp h;cbv
  .nofun;obtain⟨a,b,c⟩:=vY h1;obtain⟨j,f⟩:=pk c;exact PD a e j g b rfl f
  .nofun
 .nofun
def XQ(n:Str)(F0:FF):LH:=fun nl d fn N b s=>match s with
 |.Assign [t] c _=>(ug t).bind fun _=>(cN c).bind fun u=>(Hs N b d fn t).bind fun i=>if u.1=n/\CA d n=G then(match u.2 with
  |[]=>J ([],fun _=>vf nl i n F0 bj,i::b)
  |a::es=>if(a::es).all al=G then J (a::es,vf nl i n F0,i::b)else U)else U
 |_=>U
theorem Q4(m:DO K By n=J (J<|.ref C))(a:mg n=J (.ref C))(M:Mk K C g)(c:cf K fd ps [])(Gq0:FO P w K mg base j g fd ps [0] F0):zZ P w K mg base (j+1)<|XQ n F0:=fun Yq0 k⟨⟨e1,e2,e3,e4,e5,hr,_⟩,hx,_,_⟩hj hN nl Pb Pn s es b P' α h ha=>by
 subst e1 e2 e3 e4 e5;delta XQ at h;cbv
 .obtain⟨x,z,e⟩:=bY.mp h;clear h;obtain⟨p,rfl⟩:=AY z;obtain⟨⟨y,l⟩,v,u⟩:=bY.mp e;clear e;obtain⟨_,_,rfl⟩:=nD v;obtain⟨i,h1,h⟩:=bY.mp u;obtain⟨f,d,t⟩:=vY h1;obtain⟨q,o⟩:=pk t;dsimp only at h⊢;cbv
  .rename_i hq;obtain⟨rfl,r⟩:=hq;obtain⟨g1,g2⟩:=eI r;cbv
   .left;nofun;right;exact Fp f hN q d rfl o m a M Gq0 c hr hj g1 g2
   .cbv
    .rename_i h2;nofun;rw[aa5,oR]at h2;exact LI f hN q d rfl o m a M Gq0 c hr ha hj g1 g2 h2.1 h2.2
    .nofun
  .nofun
 .nofun
def Z9(x n:Str)(F0 F:FF):FK:=fun b N d e=>(cN e).bind fun u=>match u.2 with
 |[c]=>(cN c).bind fun v=>(match v.2 with
  |a::es=>if u.1=x/\v.1=n/\CA b x=G/\CA b n=G/\(a::es).all al=G then J (a::es,xw n F0 F)else U
  |[]=>U)
 |_=>U
theorem Of{st:abN}(o:DO K By n=J (J<|.ref C))(d:mg n=J (.ref C))(M:Mk K C g)(s:cf K fd ps [])(Gq0:FO P w K mg base j g fd ps [0] F0)
  (D:Def K mg x st ps2 f fd2) (m:FO P w K mg base j2 f fd2 ps2 [0] F) (a:j+1<=j2):wE P w K mg base j2<|Z9 x n F0 F:=fun Yq0 k⟨⟨e1,e2,e3,e4,e5,hr,_⟩,hx,_,_⟩hj Pn e es b α h ha=>by
 subst e1 e2 e3 e4 e5;obtain⟨⟨y,l⟩,r,p⟩:=bY.mp h;clear h;obtain⟨_,_,rfl⟩:=nD r;have h:=p;dsimp only at h⊢;cbv
 .obtain⟨⟨z,l⟩,q,i⟩:=bY.mp h;clear h;obtain⟨_,_,rfl⟩:=nD q;have h:=i;dsimp only at h⊢;cbv
  .cbv
   .rename_i hq;obtain⟨rfl,rfl,h1,h2,c⟩:=hq;nofun;obtain⟨g1,g2⟩:=eI h1;obtain⟨g3,g4⟩:=eI h2;rw[aa5,oR]at c;exact Ds o d M Gq0 s hr ha (RW a hj) g3 g4 c.1 c.2 D m hj hx g1 g2
   .nofun
  .nofun
 .nofun
def VI(n f:Str):LH:=fun nl b fn N a s=>match s with
 |.AugAssign (.Attribute o g _) .Add (.Constant (.int j) _ _) _=>(EN b N a o).bind fun q=>if g=f then J ([],fun _=>uE q.1 n f j,a)else U
 |_=>U
theorem Ev(m:DO K By n=J (J<|.ref C))(d:Cls K C)(a:a9 K C f):zZ P w K mg base 0<|VI n f:=fun Yq0 k⟨⟨e1,e2,e3,e4,e5,hr,_⟩,hx,_,_⟩hj hN nl Pb Pn s es b P' α h ha=>by
 subst e1 e2 e3 e4 e5;delta VI at h;cbv
 .mstop
  obtain⟨q,c,h⟩:=h;cbv
  .rename_i hq;subst hq;nofun;refine Z16 (ii c) fun p r0_ g j e i l=>?_;subst r0_;exact K8 g m d a j e i l rfl
  .nofun
 .nofun
def VQ(b:Str):LH:=fun nl d fn N e s=>match s with
 |.Raise (J c) U _=>(cN c).bind fun u=>(match u.2 with
  |a::es=>if u.1=b/\CA d b=G/\(a::es).all al=G then J (a::es,RL nl b,e)else U
  |[]=>U)
 |_=>U
theorem IE(a:mg cn=J (.ref C))(e:acF K C Gj "ValueError.__new__"=G):zZ P w K mg base 0<|VQ cn:=fun Yq0 k⟨⟨e1,e2,e3,e4,e5,hr,cm⟩,hx,_,_⟩hj hN nl Pb Pn s es b P' α h ha=>by
 subst e1 e2 e3 e4 e5;delta VQ at h;cbv
 .obtain⟨⟨y,l⟩,d,c⟩:=bY.mp h;clear h;obtain⟨_,_,rfl⟩:=nD d;have h:=c;dsimp only at h⊢;cbv
  .cbv
   .rename_i hc;obtain⟨rfl,h1,h2⟩:=hc;nofun;obtain⟨g1,g2⟩:=eI h1;exact FB a rfl e ha cm.1 hx g1 g2 h2
   .nofun
  .nofun
 .nofun
def RK(n f:Str):V6:=fun nl a N b s=>match s with
 |.Assign [.Attribute o g _] e _=>(EN a N b o).bind fun q=>if g=f/\zd e=η then J (e,Bs nl q.1 n f)else U
 |_=>U
theorem vR(o:DO K By n=J (J<|.ref C))(d:Cls K C)(a:a9 K C f):Qm P w K mg base 0<|RK n f:=fun Yq0 k⟨⟨e1,e2,e3,e4,e5,hr,_⟩,hx,_,_⟩hj hN nl Pb Pn s e b φ h ha _=>by
 subst e1 e2 e3 e4 e5;delta RK at h;cbv
 .mstop
  obtain⟨q,c,h⟩:=h;cbv
  .rename_i hq;left;obtain⟨rfl,h2⟩:=hq;nofun;obtain⟨p,rfl,i,l,g,j,m⟩:=ii c;right;exact K7 i o d a ha l g j m (jH h2 _ _ _) rfl
  .nofun
 .nofun
end
section
variable{X:Cx}{W:Wd}{O:afq}{φ:FE}
def tFi(c:Str)(ta:TE):TE:=fun Z H Q=>ta Z H fun v H1=>∃i,v=.int i/\i.natAbs<10^30/\(lE<|toString i).length<=1000/\Q (.str<|c++lE (toString i)) H1
theorem R5(n:PE X a ta)(b:c.length<=1000):PE X (.JoinedStr [.Constant (.str c) j p1,.FormattedValue a (-1) U p2] pos)<|tFi c ta:=by
 intro aa s Z H Q I h;refine wpAny_JoinedStr ?_;refine acu (k:=j) (pos:=p1) ⟨c,s.toks,rfl,?_,?_⟩
 .rw[empty_app,abB];exact RW b ∎
 have g:Inv X aa Z H {s with toks:=s.toks+1}:=I.tok<|s.toks+1;refine wpAny_FormattedValue_plain<|bP (n aa _ Z H _ g h) fun v o m=>jZ m fun x H1 f r1 q1=>?_;left;obtain⟨i,rfl,l,p,q⟩:=q1;obtain⟨tk,rfl⟩:=r1;right;refine wpAny_formatField_int ?_ ?_
 .rcases adL i.natAbs with e|e
  .rw[e];decide
  .rw[Nat.log2_lt<|by simp_all];exact Rw l (RW (by decide:10^30<=2^100)<|ael ∎<|∅)
 .have e:acX++c++(toString i)=c++(toString i):=by rw[empty_app]
  have d:(acX++c++(toString i)).length<=aaL:=by
   rw[e,strLen_append,abB];lia
  exact⟨_,_,rfl,d,d,.str<|c++(toString i),H1,f.tok _<|aa3<|aa3<|aa3 f.tk,⟨_,by rw[e]⟩,q⟩
def VJ(c:Str)(φ:FE):FE:=fun Y=>(φ Y).bind fun d=>match d with
 |.int i=>if i.natAbs<10^30/\(lE<|toString i).length<=1000 then .ok (.str<|c++lE (toString i))else .no
 |_=>.no
theorem Xm(d:JE X a<|tD W O φ)(b:c.length<=1000):JE X (.JoinedStr [.Constant (.str c) j p1,.FormattedValue a (-1) U p2] pos)<|tD W O<|VJ c φ:=
 (JE.mk<|R5 d.out b).imp fun Z H Q e=>dQ e fun as0 B own Y I h=>⟨as0,B,own,Y,I,aY h fun x v H1 g f h1=>by
  split at h1
  .subst f;split at h1
   .rename_i hl;exact⟨_,rfl,hl.1,hl.2,ax h1 rfl⟩
   .exact h1.elim
  .exact h1.elim⟩
def Yh:Fm:=fun _ _ _ e=>match e with
 |.JoinedStr l _=>match l with
  |[s,v]=>(sKq s).bind fun c=>match v with
   |.FormattedValue a i w _=>match w with|none=>if c.length<=1000 then(if i=-1 then J ([a],fun l=>VJ c<|g0 l)else if i=114 then J ([a],fun l=>aak c<|g0 l)else U)else U|_=>U
   |_=>U
  |_=>U
 |_=>U
theorem Oi:dr X W Yh:=fun O e es b c h a=>by
 delta Yh at h;cbv
 .cbv
  .mstop;obtain⟨k,hk,h⟩:=h;obtain⟨_,_,rfl⟩:=sKo hk;cbv
   .cbv
    .cbv
     .rename_i hl;cbv
      .rename_i hi;subst hi;nofun;obtain⟨φ,rfl,h1⟩:=yN a;exact Xm h1 hl
      .cbv
       .rename_i hi;subst hi;nofun;obtain⟨φ,rfl,h1⟩:=yN a;exact Rb h1 hl
       .nofun
     .nofun
    .nofun
   .nofun
  .nofun
 .nofun
end
structure HTb where
 fl:List<|Str×Str
 us:List<|Str×(afy->R D)
structure HTbOk(X:Cx)(K:aT)(mg:afu)(t:HTb):Prop where
 fl:∀q∈t.fl,∃C,DO K By q.1=J (J<|.ref C)/\Cls K C/\a9 K C q.2
 us:∀q∈t.us,∃st ps f fd j,Def X.K X.mg q.1 st ps f fd/\RoomU j X.A/\FnOkU X.prog X.w X.K X.mg X.base lD j f fd ps (rj K mg q.2)
 k:K=X.K
def hX(t:HTb)(c:Scope)(N:afr):Nat->aa1->Option FE
 |0,_=>U
 |n+1,e=>match kDq e with
 |some d=>J<|vC d
 |none=>match e with
  |.Tuple es _ _=>if es.all al=G then(Bj (hX t c N n) es).map fun l=>uD (aL l)else U
  |.Name x _=>(Mm N x).bind fun i=>if OK c x=G then J (ag i)else U
  |.Attribute a f _=>(ug a).bind fun _=>(t.fl.find? fun q=>decide (q.2=f)).bind fun q=>(hX t c N n a).map<|iw q.1 f
  |.Subscript a b _=>(iKq b).bind fun i=>(hX t c N n a).map fun φ=>aH cR φ<|vC<|.int i
  |_=>(cN e).bind fun q=>match q.2 with
   |[a]=>(ug a).bind fun _=>if CA c q.1=G then(lk q.1 t.us).bind fun F=>(hX t c N n a).map fun φ=>aI F (ak φ aQ)else U
   |_=>U
theorem y8{K:aT}(T:HTbOk X K mg t):∀(n:Nat)(e:aa1)(φ:FE),hX t X.env.scope X.N n e=J φ->JE X e (tD ⟨K,mg,E0⟩ [] φ)
 |0,_,_,h=>by nofun
 |n+1,e,φ,h=>by
  unfold hX at h;cbv
  .rename_i z;nofun;exact kDo z
  cbv
  .cbv
   .rename_i hq;obtain⟨l,h1,rfl⟩:=dO.mp h;exact NQ<|xS (mJ (fun e φ h=>y8 T n e φ h) _ l h1) hq
   .nofun
  .obtain⟨i,h1,h⟩:=bY.mp h;cbv
   .rename_i d;nofun;obtain⟨a,b,c⟩:=tV d;exact Mv i ∅ (gc h1) a b c
   .nofun
  .mstop;obtain⟨x,hx,h⟩:=h;obtain⟨_,rfl⟩:=AY hx;obtain⟨q,h1,h⟩:=bY.mp h;obtain⟨ψ,h2,rfl⟩:=dO.mp h;refine Z13 (T.fl q<|List.mem_of_find?_eq_some h1) fun C m g p=>?_;have s:=List.find?_some h1;have o:=afo s;subst o;exact Nn K m g p (y8 T n _ ψ h2) rfl T.k.symm rfl
  .mstop;obtain⟨i,hi,h⟩:=h;obtain⟨_,_,rfl⟩:=iKo hi;obtain⟨ψ,h2,rfl⟩:=dO.mp h;have r:=T.k;subst r;exact Tj (WL X.K) (YZ X.K) (y8 T n _ ψ h2) MR fun _ _=>rfl
  .mstop;obtain⟨⟨y,l⟩,hq,h⟩:=h;obtain⟨_,_,rfl⟩:=nD hq;clear hq;cbv
   .rename_i z;cases z;mstop;obtain⟨x,hx,h⟩:=h;obtain⟨_,rfl⟩:=AY hx;cbv
    .rename_i hg;left;obtain⟨F,h1,h⟩:=bY.mp h;obtain⟨ψ,h2,rfl⟩:=dO.mp h;obtain⟨st,ps,f,fd,j,D,d,Gq0⟩:=T.us _<|As h1;obtain⟨g1,g2⟩:=eI hg;right;exact KH D Gq0 d (Bx (y8 T n _ ψ h2) Fn rfl) (mK _) g1 g2 rfl rfl
    .nofun
   .nofun
section
variable{P:abf}{w:abh}{K:aT}{mg:afu}{base:acn}
theorem GO(T:HTbOk X K mg t)(h:hX t X.env.scope X.N 9 r=J ρ):JB X [.Return (J r) rp]<|sD ⟨K,mg,fun _ _ _=>False⟩ [] [] []<|pX ρ:=Et<|FR<|y8 T 9 r ρ h
structure HnOk(P:abf)(w:abh)(K:aT)(mg:afu)(base:acn)(j:Nat)(t:HTb):Prop where
 fl:∀q∈t.fl,∃C,DO K By q.1=J (J<|.ref C)/\Cls K C/\a9 K C q.2
 us:∀q∈t.us,∃st ps f fd,Def K mg q.1 st ps f fd/\FnOkU P w K mg base lD j f fd ps (rj K mg q.2)
theorem HnOk.at(h:HnOk P w K mg base j t)(y:FZ Yq0 P w K mg base k)(i:j<=k)(z:nE):HTbOk ((Yq0.hand z).nox) K mg t:=by
 obtain⟨⟨e1,a,g,d,b,c,_⟩,l,_,_⟩:=y;subst e1 a g d b;exact⟨h.fl,fun q e=>let⟨st,ps,f,fd,D,Gq0⟩:=h.us q e;⟨st,ps,f,fd,j,D,(c.mono i).u z,Gq0⟩,rfl⟩
def Tr:List abN->Option aa1
 |[.Return (J r) _]=>J r
 |_=>U
def Ys(T:Str)(h:ExceptHandler):Option aa1:=match h with
 |.ExceptHandler (J t) U b _=>if ug t=J T then Tr b else U
 |_=>U
theorem Qd{h:ExceptHandler}(e:Ys T h=J r):∃p q u,h=.ExceptHandler (J<|.Name T p) U [.Return (J r) q] u:=by
 delta Ys at e;split at e
 .split at e
  .rename_i hq;obtain⟨p,rfl⟩:=AY hq;delta Tr at e;split at e
   .cases e;exact⟨_,_,_,rfl⟩
   .cases e
  .cases e
 .cases e
def Xu{α:Type}(b:abN)(x y:α):Option<|aa1×α:=match b with
 |.Return (J e) _=>J (e,x)
 |.Expr e _=>if zd e=η then J (e,y)else U
 |_=>U
theorem OW{α:Type}{b:abN}{x y:α}{q:aa1×α}(h:Xu b x y=J q):(∃p,b=.Return (J q.1) p/\q.2=x)\/∃p,b=.Expr q.1 p/\zd q.1=η/\q.2=y:=by
 delta Xu at h;cbv
 .nofun;exact .inl ⟨_,rfl,rfl⟩
 .cbv
  .rename_i hc;nofun;exact .inr ⟨_,rfl,hc,rfl⟩
  .nofun
 .nofun
def VF(T:Str)(mt:Str->Bool)(e:HTb):V6:=fun nl a N c s=>match s with
 |.Try [b] [h] [] [] _=>(Ys T h).bind fun r=>(hX e a N 9 r).bind fun d=>if CA a T=G then Xu b (fun φ=>sO nl c φ mt<|pX d) (fun φ=>yW nl c φ mt<|pX d)else U
 |_=>U
theorem Ex{mt:Str->Bool}(d:mg T=J (.ref CT))(a:LL K mg mt CT)(H:HnOk P w K mg base j ht):Qm P w K mg base j<|VF T mt ht:=fun i k y v B nl Pb x s e b φ h E f=>by
 have g:=H.at y v;obtain⟨⟨e1,c,l,o,n,A,_⟩,D,st,fr⟩:=y;subst e1 c l o n;delta VF at h;cbv
 .obtain⟨r,t,h2⟩:=bY.mp h;clear h;obtain⟨p,q,u,rfl⟩:=Qd t;obtain⟨C,h1,h⟩:=bY.mp h2;cbv
  .rename_i hg;obtain⟨g1,g2⟩:=eI hg;rcases OW h with⟨_,rfl,c⟩|⟨_,rfl,m,c⟩<;>subst c
   .exact KI f rfl d a (fun z=>GO (g z) h1) st fr g1 g2
   .exact JC f rfl d a (fun z=>GO (g z) h1) (jH m _ _ _) st fr g1 g2
  .nofun
 .nofun
end
section
variable{K:aT}
theorem dR.more(b:H p=J (.lst ys))(a:ay K Hm ds ys):∀{fs:List<|Str×D}{xs:List<|Str×V}{bs:afv},dR K Hm H fs xs bs->fs.lookup f=afc->dR K Hm H (fs++[(f,.lsm ds)]) (f9 f (.ref p) xs) (bs++[p])
 |[],_,_,⟨e1,e2⟩,_=>by subst e1 e2;exact⟨.ref p,[],[],rfl,⟨p,ys,rfl,rfl,b,a⟩,rfl,rfl⟩
 |(g,d)::fs,_,bs,⟨v,r,c,e,f1,f2⟩,h=>by
  subst e;rw[aaQ]at h;cases q:f==g with
  |true=>rw[q]at h;nofun
  |false=>
   rw[q]at h;refine⟨v,f9 f (.ref p) r,c++[p],?_,?_,dR.more b a f2 h⟩
   .have:¬g=f:=fun z=>⊥
    simp[f9,this]
   .delta iW at f1⊢;split at f1
    .grind
    mright
end
section
variable{K:aT}
theorem MI.addF(I:MI K as B hs P cl Z Y L H)(hk:P[k]?=J i)(hn:DO K By n=J (J<|.ref C))(hm:L[k]?=J (.obj n fs))(hf:fs.lookup f=U)(hp:H p=U):
  ∃a T xs g,Z[i]?=J (J<|.ref a)/\H a=J (.ins C T xs)/\fs.length=xs.length/\MI K as B hs P g Z Y (L.set k<|.obj n<|fs++[(f,.lsm [])]) (br (br H p<|.lst []) a<|.ins C T<|f9 f (.ref p) xs):=by
 left;obtain⟨c,d0,e1,e2,⟨a,r,rfl,q1⟩,q2⟩:=I.at hk;rw[hm]at e2;cases e2;refine Z33 q2 fun C' T xs h0 h1 h2=>?_;rw[hn]at h0;cases h0;right;have u:k<cl.length:=(rW.mp e1).1;have s:∀b∈a::r,b∈cl.flatten:=fun b l=>cH.mpr ⟨k,_,e1,l⟩;have t:p∉cl.flatten++as:=fun z=>I.exi p z hp;have pa:p≠a:=fun z=>t<|Le _<|s p<|z▸aax;have nd:=I.nd _<|Do e1;have nda:=(aaK.mp nd).1;let g:=cl.set k<|a::r++[p]
 let H':=br (br H p<|.lst []) a<|.ins C T<|f9 f (.ref p) xs
 have fl:∀b,b∈g.flatten↔b∈cl.flatten\/b=p:=fun b=>by
  constructor
  .intro l;obtain⟨j,A,M,X⟩:=cH.mp l;rw[getElem?_set']at M;split at M
   .cases M;rcases BY.mp X with h|h
    .exact .inl (s b h)
    .exact .inr (IF.mp h)
   .exact .inl (cH.mpr ⟨j,A,M,X⟩)
  .rintro(l|rfl)
   .obtain⟨j,A,M,X⟩:=cH.mp l;by_cases z:k=j
    .subst z;rw[e1]at M;cases M;exact cH.mpr ⟨k,_,acr u,Le _ X⟩
    .exact cH.mpr ⟨j,A,by rw[abC z];exact M,X⟩
   .exact cH.mpr ⟨k,_,acr u,∅⟩
 have same:∀b,b≠p->b≠a->H' b=H b:=fun b h1 h2=>by show br _ a _ b=_;rw[aG h2,aG h1]
 have st:ah (aj (cl.flatten++as) H)<|aj (g.flatten++as) H':=fun b o e=>by
  have l:b∉cl.flatten++as:=fun z=>by rw[bT z]at e;cases e
  rw[av l]at e;have F:b≠p:=fun z=>by rw[z,hp]at e;cases e
  have R:b≠a:=fun z=>l<|Le _<|z▸s a aax;have hb2:b∉g.flatten++as:=fun z=>by
   rcases BY.mp z with z|z
   .rcases(fl b).mp z with z|z
    .exact l (Le _ z)
    .exact F z
   .exact l (OR _ z)
  rw[av hb2,same b F R];exact e
 refine⟨a,T,xs,g,q1,h1,h2.lenF,?_⟩;show MI K as B hs P g Z Y _ H';refine⟨I.len,I.ex,fun b o e=>?_,fun A S b l=>?_,fun A S=>?_,fun m m' c1 c2 b N q O w4=>?_,fun j d e=>?_,by simp[g,I.lp],by simp[g,I.lm],fun m j A d N q O=>?_,by simp[g,I.hl],?_⟩
 .have F:b≠p:=fun z=>by rw[z,I.sb.free hp]at e;cases e
  have R:b≠a:=fun z=>by rw[z,I.fb _ (Do e1) a aax]at e;cases e
  rw[same b F R];exact I.sb b o e
 .have hb':b∈g.flatten:=abZ.mpr ⟨A,S,l⟩;rcases(fl b).mp hb' with z|rfl
  .obtain⟨c2,W,V⟩:=abZ.mp z;exact I.fb c2 W b V
  .exact I.sb.free hp
 .rcases List.mem_or_eq_of_mem_set S with z|rfl
  .exact I.nd A z
  .rw[List.nodup_append];exact⟨nd,∅,fun x hx y hy z=>by rw[IF.mp hy]at z;exact t<|Le _<|s p<|z▸hx⟩
 .have key:∀{m:Nat}{c1:afv},g[m]?=J c1->b∈c1->(b=p/\m=k)\/∃Q,cl[m]?=J Q/\b∈Q:=fun{m c1}w w'=>by
   rw[getElem?_set']at w;split at w
   .rename_i z;cases w;rcases BY.mp w' with h|h
    .exact .inr ⟨_,z▸e1,h⟩
    .exact .inl ⟨IF.mp h,z.symm⟩
   .exact .inr ⟨_,w,w'⟩
  have np:∀{m:Nat}{Q:afv},cl[m]?=J Q->b∈Q->b≠p:=fun w w' z=>t<|Le _<|cH.mpr ⟨_,_,w,z▸w'⟩;rcases key N O with⟨W,V⟩|⟨Q,W,V⟩
  .rcases key q w4 with⟨E,D⟩|⟨c0',E,D⟩
   .rw[V,D]
   .exact(np E D W).elim
  .rcases key q w4 with⟨E,D⟩|⟨c0',E,D⟩
   .exact(np W V E).elim
   .exact I.dj m m' Q c0' b W E V D
 .obtain⟨v,N,q⟩:=I.var j d e;exact⟨v,N,q.mono st⟩
 .rw[getElem?_set']at q O;by_cases z:k=m
  .subst z;rw[afk rfl,afk u]at q;rw[afk rfl,afk<|by rw[I.lm];exact u]at O;cases q;cases O;rw[hk]at N;cases N;refine⟨⟨a,r++[p],rfl,q1⟩,C,T,_,hn,aE,?_⟩;refine dR.more (ys:=[]) (show H' p=_ by show br _ a _ p=_;rw[aG pa];exact aE) ay.nil (h2.mono st fun b l o e=>?_) hf;have R:b≠a:=fun z=>nda<|z▸l;have F:b≠p:=fun z=>t<|Le _<|s p<|ie _<|z▸l;rw[same b F R];exact e
  .rw[afl z]at q O;obtain⟨E,D⟩:=I.ob m j A d N q O;refine⟨E,D.mono st fun b l o e=>?_⟩;have R:b≠a:=fun y=>z<|I.dj k m _ _ a e1 q aax<|y▸l;have F:b≠p:=fun y=>t<|Le _<|cH.mpr ⟨m,_,q,y▸l⟩;rw[same b F R];exact e
 .have hh:=I.hd
  have:g.map acU=cl.map acU:=by
   apply aeW
   intro m;rw[aa4,aa4,getElem?_set'];by_cases z:k=m
   .subst z;rw[afk rfl,afk u,e1];rfl
   .rw[afl z]
  grind
end
section
variable{X:Cx}{K:aT}{mg:afu}{nl:Nat}{P Pb:afq}{pos p1 cpos pos':Pos}
noncomputable def FP(k:Nat)(n f:Str):gi:=fun Y L=>match L[k]? with
 |some (.obj x fs)=>if x=n/\fs.length<1000/\(fs.lookup f).isNone=G then .nx Y (L.set k<|.obj n<|fs++[(f,.lsm [])])else .no
 |_=>.no
theorem Ke(r:P[k]?=J i)(q:DO K By n=J (J<|.ref C))(o:Cls K C)(s:a9 K C f)(j:X.N[i]?=J x)(v:m6 X.env.scope x)(hd:afz x)(c:(x==("__classdict__":Str))=η)
  (m:X.K=K):MS X K mg nl Pb P P (.Assign [.Attribute (.Name x p1) f pos'] (.List [] cpos) pos)<|FP k n f:=fun E=>
 JS.imp ⟨GB (qv i j v hd c) (Hi eD).out rfl⟩ fun D Z H⟨as,B,h0,cl,Y,L,u,I,h⟩=>by
  subst m;refine⟨aa2 _,fun p g=>?_⟩;delta FP at h;left;cbv
  .rename_i y fs hm;cbv
   .rename_i hq;obtain⟨rfl,u,d⟩:=hq;refine Z44 (I.addF r q hm (adR.mp d) g) fun a e xs b q1 q2 w l=>?_;right;refine fj q1 ?_;have t:a≠p:=fun z=>by mright
    exact⟨a,C,e,xs,rfl,by rw[aG t];exact q2,o,s,by simp_all,h b Z _ l⟩
   .right;mleft
  .right;mleft
end
noncomputable def VN:nE->Option (D×V)
 |.int i _=>J (.int i,.int i)
 |.str x _=>J (.str x,.str x)
 |.bool b=>J (.bl b,.bl b)
 |.none=>J (.non,.non)
 |_=>U
def QT:afw->Option (List<|D×V)
 |[]=>J []
 |u::r=>(VN u).bind fun q=>(QT r).map (q::·)
def rdC(K:aT)(u:nE):Option D:=match u with
 |.ref a=>(match K.lookup a with
  |some o=>if o.cls=.type "tuple"/\o.dict=U then(match o.data with
   |.seq aV _=>if aV.size<=1000 then(QT aV.toList).map fun l=>.tup (l.map (·.1))else U
   |_=>U)else U
  |none=>U)
 |u=>(VN u).map (·.1)
theorem HM{K:aT}(h:VN u=J q):aP q.2 u/\∀H,bQ K H q.1 q.2:=by
 delta VN at h;cbv<;>nofun
 .exact⟨⟨_,rfl⟩,fun H=>rfl⟩
 .exact⟨⟨_,rfl⟩,fun H=>rfl⟩
 .exact⟨rfl,fun H=>rfl⟩
 .exact⟨rfl,fun H=>rfl⟩
theorem CM{K:aT}:∀{us:afw}{l:List<|D×V},QT us=J l->aU (l.map (·.2)) us/\∀H,ay K H (l.map (·.1)) (l.map (·.2))
 |[],_,h=>by nofun;exact⟨.nil,fun H=>rfl⟩
 |u::r,_,h=>by
  obtain⟨q,h1,h⟩:=bY.mp h
  obtain⟨l,h2,rfl⟩:=dO.mp h;obtain⟨a,b⟩:=HM h1;obtain⟨c,d⟩:=CM h2;exact⟨.cons a c,fun H=>⟨q.2,_,rfl,b H,d H⟩⟩
theorem HN{K:aT}(h:rdC K u=J d):∃v,aP v u/\(∀H,bQ K H d v)/\∀p,u=.ref p->∃f,K.lookup p=J f/\f.cls=.type "tuple"/\f.dict=U:=by
 delta rdC at h;cbv
 .rename_i a;cbv
  .rename_i o e;cbv
   .rename_i hc;cbv
    .rename_i aV n hd;cbv
     .obtain⟨l,h1,rfl⟩:=dO.mp h;obtain⟨c,dd⟩:=CM h1;exact⟨.ref a,rfl,fun H=>⟨a,l.map (·.2),rfl,.inr ⟨o,aV,n,e,hc.1,hd,by rw[abB];lia,c⟩,dd H⟩,fun p g=>by mright⟩
     .nofun
    .nofun
   .nofun
  .nofun
 .obtain⟨q,h1,rfl⟩:=dO.mp h;obtain⟨a,b⟩:=HM (K:=K) h1
  grind
section
variable{K:aT}(X:K.In h)(N:h.Ns By mg)
include X N
theorem Pe{l:List<|Str×D}(e:(l.map fun q=>(DO K By q.1).bind fun o=>o.bind<|rdC K)=l.map fun q=>J q.2):∀q∈l,UO K mg q:=fun q c=>by
 have e1:=aa9.mp e q c;obtain⟨o,h1,h2⟩:=bY.mp e1;obtain⟨u,b,a⟩:=bY.mp h2;obtain⟨v,h5⟩:=HN a
 exact⟨v,u,acG X N<|by rw[h1,b],h5⟩
theorem TN{l:afr}(e:l.map (DO K By)=l.map fun _=>J U):∀x∈l,mg x=U:=fun x a=>PySem.W.mg_none_of X N<|aa9.mp e x a
end
abbrev Pl:=List<|Nat×Nat×Nat×nE
def fA(Lq0:Pl)(i:Nat):aaB:=match Lq0.lookup i with
 |some q=>q.1
 |none=>0
def cA(Lq0:Pl)(i:Nat):aaB:=match Lq0.lookup i with
 |some q=>q.2.1
 |none=>0
def mA(Lq0:Pl)(i:Nat):nE:=match Lq0.lookup i with
 |some q=>q.2.2
 |none=>.none
def Vk:abN->Str
 |.FunctionDef n _ _ _ _ _ _ _ _ _=>n
 |_=>""
theorem Ym(h:us.length<=5):∃a b c d e,us=([a,b,c,d,e]:afw).take us.length:=by
 match us,h with
 |[],_=>exact⟨.none,.none,.none,.none,.none,rfl⟩
 |[a],_=>exact⟨a,.none,.none,.none,.none,rfl⟩
 |[a,b],_=>simp
 |[a,b,c],_=>exact⟨a,b,c,.none,.none,rfl⟩
 |[a,b,c,d],_=>exact⟨a,b,c,d,.none,rfl⟩
 |[a,b,c,d,e],_=>grind
 |_::_::_::_::_::_::_,h=>mright
end L2
namespace L2
open PySem PySem.Builtin PySem.Builtin.Str PySem.StrLaws
noncomputable def gp(y:afq):Nat->Nat->afq->afq
 |_,_,[]=>[]
 |k+1,i,_::r=>gp y k (i+1) r
 |0,i,c::r=>if(c::r).take y.length=y then i::gp y (y.length-1) (i+1) r else gp y 0 (i+1) r
noncomputable def qR(y z:afq):Nat->afq->afq
 |_,[]=>[]
 |k+1,_::r=>qR y z k r
 |0,c::r=>if(c::r).take y.length=y then z++qR y z (y.length-1) r else c::qR y z 0 r
theorem BD(y:afq):∀(k i:Nat)(R:afq),gp y k i R=gp y 0 (i+k) (R.drop k)
 |0,i,R=>rfl
 |k+1,i,[]=>by rfl
 |k+1,i,_::r=>by
  show gp y k (i+1) r=gp y 0 (i+(k+1)) (r.drop k);rw[BD y k (i+1) r];congr 1;lia
theorem xY(y z:afq):∀(k:Nat)(R:afq),qR y z k R=qR y z 0 (R.drop k)
 |0,R=>rfl
 |k+1,[]=>⊤
 |k+1,_::r=>by
  show qR y z k r=qR y z 0 (r.drop k);exact xY y z k r
theorem xt(x y:Str)(b:Nat)(l:0<y.length):∀(m i:Nat)(a:Array Nat)(free:Nat),m=x.length-i->i<=x.length->a.size+m<b ->
  (forIn (aeB i<|x.length+1-i) (a,free)<|occBody x y x.length b).run.fst.toList=a.toList++gp y.cps.toList (free-i) i (x.cps.toList.drop i)
 |0,i,a,free,hm,hi,hl=>by
  have e:x.length+1-i=1:=⊥
  have q:x.cps.toList.drop i=[]:=by
   rw[aen]
   have:x.cps.toList.length=x.length:=by simp[acT]
   lia
  rw[e,q,List.range'_one,acZ];delta occBody;rw[afl (fun z=>by have:=z.1.2;lia)];simp[gp]
 |m+1,i,a,free,hm,hi,hl=>by
  have o:x.cps.toList.length=x.length:=by simp[acT]
  have c:y.cps.toList.length=y.length:=by simp[acT]
  have e:x.length+1-i=(x.length+1-(i+1))+1:=⊥
  have f:i<x.cps.toList.length:=⊥
  rw[e,List.range'_succ,acZ,aa6 f];have d:subAt x y i=G↔(x.cps.toList[i]::x.cps.toList.drop (i+1)).take y.cps.toList.length=y.cps.toList:=by
   rw[subAt_eq,beq_iff_eq,aa6 f,c]
  have j:subAt x y i=G->i+y.length<=x.length:=fun h=>by
   have h2:=afp acR<|d.mp h;rw[List.length_take,<-aa6 f,abq,c]at h2;lia
  delta occBody;by_cases p:free<=i
  .have ek:free-i=0:=⊥
   rw[ek];by_cases hs:subAt x y i=G
   .rw[afk ⟨⟨⟨by show a.size<b;lia,p⟩,j hs⟩,hs⟩];have g:=xt x y b l m (i+1) (a.push i) (i+y.length) ⊥ ⊥ (by rw[Array.size_push];lia);show(forIn (aeB (i+1)<|x.length+1-(i+1)) (a.push i,i+y.length)<|occBody x y x.length b).run.fst.toList=_;rw[g,Array.toList_push];have n:gp y.cps.toList 0 i (x.cps.toList[i]::x.cps.toList.drop (i+1))=i::gp y.cps.toList (y.cps.toList.length-1) (i+1) (x.cps.toList.drop<|i+1):=by
     rw[gp,afk<|d.mp hs]
    rw[n,c,show i+y.length-(i+1)=y.length-1 by lia,aaE];rfl
   .rw[afl fun z=>hs z.2];have g:=xt x y b l m (i+1) a free ⊥ ⊥ ⊥;show(forIn (aeB (i+1)<|x.length+1-(i+1)) (a,free)<|occBody x y x.length b).run.fst.toList=_;have n:gp y.cps.toList 0 i (x.cps.toList[i]::x.cps.toList.drop (i+1))=gp y.cps.toList 0 (i+1) (x.cps.toList.drop<|i+1):=by
     rw[gp,afl fun z=>hs<|d.mpr z]
    rw[g,n,show free-(i+1)=0 by lia]
  .obtain⟨k,r⟩:∃k,free-i=k+1:=⟨free-i-1,⊥⟩;rw[r,afl fun z=>p z.1.1.2];have g:=xt x y b l m (i+1) a free (by grind) ⊥ ⊥;show(forIn (aeB (i+1)<|x.length+1-(i+1)) (a,free)<|occBody x y x.length b).run.fst.toList=_;rw[g,show free-(i+1)=k by grind];rfl
theorem y4(a b:Str):(a++b).cps.toList=a.cps.toList++b.cps.toList:=by
 show(a.cps++b.cps).toList=_;simp
theorem zR(x y z:Str)(l:0<y.length):∀(m i a:Nat),m=x.length-i->a<=i ->
  (aeJ z<|partsFrom x y.length a<|gp y.cps.toList 0 i<|x.cps.toList.drop i).cps.toList=(x.cps.toList.drop a).take (i-a)++qR y.cps.toList z.cps.toList 0 (x.cps.toList.drop i):=by
 intro m;induction m using ac2 with
 |ind m f=>
  intro i a k n;have e:x.cps.toList.length=x.length:=by simp[acT]
  have b:y.cps.toList.length=y.length:=by simp[acT]
  rcases Nat.lt_or_ge i x.cps.toList.length with hil|hil
  .have ed:=aa6 hil;by_cases hs:(x.cps.toList[i]::x.cps.toList.drop (i+1)).take y.cps.toList.length=y.cps.toList
   .have eg:gp y.cps.toList 0 i (x.cps.toList[i]::x.cps.toList.drop (i+1))=i::gp y.cps.toList 0 (i+y.length) (x.cps.toList.drop<|i+y.length):=by
     rw[gp,afk hs,BD,acN,b,show i+1+(y.length-1)=i+y.length by lia]
    have d:qR y.cps.toList z.cps.toList 0 (x.cps.toList[i]::x.cps.toList.drop (i+1))=z.cps.toList++qR y.cps.toList z.cps.toList 0 (x.cps.toList.drop<|i+y.length):=by
     rw[qR,afk hs,xY,acN,b,show i+1+(y.length-1)=i+y.length by lia]
    have c:=f (x.length-(i+y.length)) ⊥ (i+y.length) (i+y.length) rfl (mK _);rw[adM,List.take_zero,List.nil_append]at c;rw[ed,eg,d];obtain⟨p,r,h⟩:=partsFrom_ne x y.length (i+y.length)<|gp y.cps.toList 0 (i+y.length)<|x.cps.toList.drop<|i+y.length;have j:aeJ z (partsFrom x y.length a<|i::gp y.cps.toList 0 (i+y.length) (x.cps.toList.drop<|i+y.length))=strSub x a i++z++aeJ z (partsFrom x y.length (i+y.length)<|gp y.cps.toList 0 (i+y.length)<|x.cps.toList.drop<|i+y.length):=by
     rw[partsFrom,h];rfl
    rw[j,y4,y4,c,aeR,aaE]
   .have eg:gp y.cps.toList 0 i (x.cps.toList[i]::x.cps.toList.drop (i+1))=gp y.cps.toList 0 (i+1) (x.cps.toList.drop<|i+1):=by rw[gp,afl hs]
    have d:qR y.cps.toList z.cps.toList 0 (x.cps.toList[i]::x.cps.toList.drop (i+1))=x.cps.toList[i]::qR y.cps.toList z.cps.toList 0 (x.cps.toList.drop<|i+1):=by rw[qR,afl hs]
    have c:=f (x.length-(i+1)) ⊥ (i+1) a rfl ⊥;rw[ed,eg,d,c];have g:(x.cps.toList.drop a).take (i+1-a)=(x.cps.toList.drop a).take (i-a)++[x.cps.toList[i]]:=by
     rw[show i+1-a=(i-a)+1 by grind,List.take_succ_eq_append_getElem<|by rw[abq];grind];congr 2;rw[List.getElem_drop];congr 1;mright
    rw[g,aaE];rfl
  .have hn:x.cps.toList.drop i=[]:=aen.mpr hil;rw[hn];show(strSub x a x.length).cps.toList=_;rw[aeR];show _=(x.cps.toList.drop a).take (i-a)++[];rw[aaJ,ac6<|by rw[abq];simp_all,ac6<|by rw[abq];simp_all]
theorem kG(x y z:Str)(d:0<y.length):(aeC x y z).cps.toList=qR y.cps.toList z.cps.toList 0 x.cps.toList:=by
 have e:occurrences x y 0 x.length (x.length+1)=gp y.cps.toList 0 0 x.cps.toList:=by
  rw[occ_eq]
  have:=xt x y (x.length+1) d x.length 0 #[] 0 ⊥ ∅ ∅
  assumption
 have c:=zR x y z d x.length 0 0 ⊥<|mK _;rw[adM,List.take_zero,List.nil_append,aer,<-e]at c;delta aeC;have b:(y.length==0)=η:=by simp;lia
 rw[b,Bool.false_and,Bool.or_false];by_cases a:(occurrences x y 0 x.length<|x.length+1).isEmpty=G
 .rw[afk a,<-c,ad4.mp a];show _=(strSub x 0 x.length).cps.toList;rw[aeR,aer,ac6<|by simp[acT]]
 .rw[afl a,glued_eq_join,partsBetween_eq];exact c
end L2
namespace L2
open PySem PySem.Spec PyProof.Rows
section
variable{X:Cx}{W:Wd}{O:afq}{φ:FE}
def UX(y w:Str)(a:TE):TE:=fun Z H Q=>a Z H fun x H1=>∃z,x=.str z/\(y==w)=η/\z.length<=1000/\w.length<=10/\Q (.str<|aeC z y w) H1
theorem AA{o:aa1}{g:TE}{y w:Str}{j1 j2:Nat}{p1 p2 apos cpos:Pos}(hX:1<=X.tn)(j:PE X o g)
  (c:autoParam (aaF o "replace" X.env (eval o X.env)=eval o X.env) Xaz)
  (d:((adz cpos<|abb [.Constant (.str y) j1 p1,.Constant (.str w) j2 p2] X.env).all (fun x=>!x.1)&&(backToKw cpos<|adB [] X.env).all (fun x=>x.1.isSome)
   && decide ([Expr.Constant (.str y) j1 p1,.Constant (.str w) j2 p2].length+([]:List aeD).length+(if([]:List aeD).isEmpty then 0 else 1)<30))=G:=by rfl)
  (b:autoParam ((apos.endLine==cpos.line)=G) Xaz):
  PE X (.Call (.Attribute o "replace" apos) [.Constant (.str y) j1 p1,.Constant (.str w) j2 p2] [] cpos) (UX y w g):=by
 intro aa s Z H Q I h;refine wpAny_Call_method_late c d b rfl (bP (j aa s Z H _ I h) fun v a i=>jZ i fun x H1 f r1 q1=>?_);obtain⟨z,rfl,h1,h2,r,q⟩:=q1;obtain⟨tk,rfl⟩:=r1;refine⟨"str","str.replace",ac5,PySem.F.slot_str_replace,PySem.F.type_str_replace,typeIs_str a z tk,(fun _ e=>nomatch e),?_⟩
 refine abW rfl (acJ ?_);have m:1<=a.toks:=RW hX f.tk;refine adJ<|acu (k:=j1) (pos:=p1)<|adJ<|acu (k:=j2) (pos:=p2)<|aeU ?_;refine aO (n:=X.tn) (by walk_at "tok")<|SC.replaceW (by show a.toks≠0;lia) (by show a.toks+1≠0;simp) (by show a.toks≠a.toks+1;simp) h1 ⊥ ⊥ fun t' k l=>?_;have p:=(f.tok<|a.toks+1).tok<|a.toks+1+1;exact⟨.str _,H1,f.tok k,⟨t',rfl⟩,q⟩
noncomputable def l5(y w:Str)(d:D):R D:=match d with
 |.str z=>if(y==w)=η/\z.length<=1000/\w.length<=10 then .ok (.str<|aeC z y w)else .no
 |_=>.no
theorem Dr{o:aa1}{y w:Str}{j1 j2:Nat}{p1 p2 apos cpos:Pos}(hX:1<=X.tn)(e:JE X o<|tD W O φ)
  (b:autoParam (aaF o "replace" X.env (eval o X.env)=eval o X.env) Xaz) (a:autoParam ((apos.endLine==cpos.line)=G) Xaz):
  JE X (.Call (.Attribute o "replace" apos) [.Constant (.str y) j1 p1,.Constant (.str w) j2 p2] [] cpos) (tD W O<|zz (l5 y w) φ):=
 (JE.mk<|AA (y:=y) (w:=w) (j1:=j1) (j2:=j2) (p1:=p1) (p2:=p2) (apos:=apos) (cpos:=cpos) hX e.out b rfl a).imp fun Z H Q c=>dQ c fun as0 B own Y I h=>⟨as0,B,own,Y,I,aY h fun x v H1 f d h1=>by
  delta l5 at h1;split at h1
  .subst d;split at h1
   .rename_i hl;exact⟨_,rfl,hl.1,hl.2.1,hl.2.2,ax h1 rfl⟩
   .exact h1.elim
  .exact h1.elim⟩
end
section
variable{P:abf}{w:abh}{K:aT}{mg:afu}{base:acn}
def VY(n f:Str):LH:=fun nl b fn N a s=>match s with
 |.Assign [.Attribute o g _] (.List [] _) _=>(EN b N a o).bind fun q=>if g=f then J ([],fun _=>FP q.1 n f,a)else U
 |_=>U
theorem Gd(m:DO K By n=J (J<|.ref C))(d:Cls K C)(a:a9 K C f):zZ P w K mg base 0<|VY n f:=fun Yq0 k⟨⟨e1,e2,e3,e4,e5,hr,_⟩,hx,_,_⟩hj hN nl Pb Pn s es b P' α h ha=>by
 subst e1 e2 e3 e4 e5;delta VY at h;cbv
 .mstop
  obtain⟨q,c,h⟩:=h;cbv
  .rename_i hq;subst hq;nofun;refine Z16 (ii c) fun p r0_ g j e i l=>?_;subst r0_;exact Ke g m d a j e i l rfl
  .nofun
 .nofun
def Zz(a:Scope)(N:afr)(b:List abN):Option FE:=match b with
 |[.Return (J r) _]=>hX ⟨[],[]⟩ a N 9 r
 |_=>U
theorem Jp{st:abN}(F:Fun K x x st f fd)(S:FnScope N ps<|ai st)(h:Zz (ai st) N (bL st)=J ρ):FnOkU P w K mg base lD 1 f fd ps<|rj K mg<|gx (pX ρ) N ps:=by
 delta Zz at h;cbv
 .rename_i e;refine F.okU (O':=[]) S fun b A a s H E c=>?_;rw[e];exact GO ⟨fun _ h=>absurd h aaz,fun _ h=>absurd h aaz,rfl⟩ h
 .nofun
end
def O3:Fm:=fun _ _ _ e=>(cM e).bind fun q=>match q.2.2 with
 |[a,b]=>(sKq a).bind fun y=>(sKq b).bind fun z=>if q.2.1="replace"/\Aa q.1=G then J ([q.1],fun l=>zz (l5 y z)<|g0 l)else U
 |_=>U
theorem G7(hX:1<=X.tn):dr X W O3:=fun O e es b d h a=>by
 delta O3 at h;mstop;obtain⟨⟨o,m,l⟩,h0,h⟩:=h;obtain⟨_,_,rfl,h2⟩:=kr h0;clear h0;cbv
 .rename_i z;cases z;mstop;obtain⟨y,h3,h⟩:=h;obtain⟨_,_,rfl⟩:=sKo h3;mstop;obtain⟨z,h4,h⟩:=h;obtain⟨_,_,rfl⟩:=sKo h4;cbv
  .rename_i hq;obtain⟨rfl,h1⟩:=hq;nofun;obtain⟨φ,rfl,c⟩:=yN a;exact Dr hX c (zq h1 _ _) h2
  .nofun
 .nofun
theorem Fam.tn(h:Fam X Yq0):Yq0.tn=X.tn:=by
 induction h with
 |re=>rfl
 |bk _ N c b a=>exact a
def Ju(ps:afr)(a:Scope):Bool:=match ps with
 |p::_=>decide (a.names.lookup p=J .local)
 |[]=>η
theorem He(h:Ju ps sc=G):∃p r,ps=p::r/\sc.names.lookup p=J .local:=by
 delta Ju at h;cbv
 .mright
 .nofun
inductive Us where
 |fn|mt (n:Str)|nw (n:Str)|vl|pl|mk (n:Str)
structure Dm where
 q:Df
 ql:Str
 P:afq
 us:List Us
 ow:afr:=[]
 t1:Bool:=η
def Dm.F(q:Dm)(ψ:gi):FF:=bF q.P.length ψ q.q.N.length q.q.ps.length
inductive Mz where
 |pl (q:Df) (m:Mr)
 |p1 (q:Df) (φ:FS)
 |mu (q r:Df) (φ χ:(afy->R D)->(afy->R D)->FS) (Zq0:Nat->(afy->R D)×(afy->R D)) (n:Nat)
 |ow (q:Dm) (ψ:gi)
structure Ac where
 x:List<|Nat×Fm
 f:List<|Nat×FK
 s:List<|Nat×LH
 v:List<|Str×FF
 d:Nat
 c:List<|Str×Nat×FF
structure Ug where
 f:List FK
 g:List V0
 s:List LH
 h:List<|Nat×V6
def PY(q:Dm)(F:FF)(a:Ac):Us->Ac
 |.fn=>{a with f:=(q.q.d+1,Zy q.q.x q.P F)::a.f}
 |.mt n=>{a with f:=(q.q.d+1,YN n q.q.x q.P F)::a.f}
 |.nw n=>{a with s:=(q.q.d+2,XQ n F)::a.s,c:=(n,q.q.d+1,F)::a.c}
 |.vl=>{a with v:=(q.q.x,F)::a.v,d:=max a.d<|q.q.d+1}
 |.pl=>{a with x:=(q.q.d+1,bX q.q.x<|calmO F)::a.x}
 |.mk n=>match a.c.lookup n with
  |some z=>if z.1<=q.q.d then {a with f:=(q.q.d+1,Z9 q.q.x n z.2 F)::a.f}else a
  |none=>a
section
variable(bD:Nat->abN)(B:Tb)(ext:List Fm)(Uq0:Ug)
def up{α:Type}(d:Nat)(l:List<|Nat×α):List α:=(l.filter fun a=>decide (a.1<=d)).map (·.2)
def RO(a:Ac)(q:Dm):MTb:=⟨tbl B ext a.x q.q (if q.t1=G then[O3]else[]),up q.q.d a.f++((if a.d<=q.q.d then[Zw a.v [0]]else[])++Uq0.f),Uq0.g,Xh q.ow::(up q.q.d a.s++Uq0.s),up q.q.d Uq0.h,q.q.w⟩
def Ce(t:MTb)(q:Dm):Option gi:=(Qc t q.P.length (ai<|bD q.q.i) (fun _=>G) q.q.N 12 q.P<|bL<|bD q.q.i).map (·.1)
def P9(a:Ac):Mz->Ac
 |.pl q m=>{a with x:=XJ q m a.x}
 |.p1 q φ=>{a with x:=(q.d+1,bX q.x<|gx φ q.N q.ps)::a.x}
 |.mu q r _ _ Zq0 n=>{a with x:=(q.d+n,bX q.x (Zq0 n).1)::(q.d+n,bX r.x (Zq0 n).2)::a.x}
 |.ow q ψ=>q.us.foldl (PY q<|q.F ψ) a
def T7(q:Df):Prop:=J5 q.N q.ps (ai<|bD q.i)=G
def Tv(a:Ac):Mz->Prop
 |.pl q m=>RV bD B ext q a.x m/\T7 bD q
 |.p1 q φ=>dF bD (tbl B ext a.x q [O3]) q=J φ/\T7 bD q/\Ju q.ps (ai<|bD q.i)=G
 |.mu q r φ χ Zq0 n=>(∀F Gq0,dF bD (tbl B ext a.x q [bX q.x F,bX r.x Gq0]) q=J (φ F Gq0))/\T7 bD q/\(∀F Gq0,dF bD (tbl B ext a.x r [bX q.x F,bX r.x Gq0]) r=J (χ F Gq0))/\T7 bD r/\r.d=q.d/\((∀ds,(Zq0 0).1 ds=.no)/\∀ds,(Zq0 0).2 ds=.no)/\∀m,Zq0 (m+1)=(gx (φ (Zq0 m).1 (Zq0 m).2) q.N q.ps,gx (χ (Zq0 m).1 (Zq0 m).2) r.N r.ps)
 |.ow q ψ=>Ce bD (RO B ext Uq0 a q) q=J ψ/\T7 bD q.q/\(q.t1=G->Ju q.q.ps (ai<|bD q.q.i)=G)
def D9:List Mz->Ac->Prop
 |[],_=>True
 |z::r,a=>Tv bD B ext Uq0 a z/\D9 r (P9 a z)
end
theorem z7{l:List<|Nat×α}{x:α}(h:x∈up d l):∃j,(j,x)∈l/\j<=d:=by
 obtain⟨a,h1,rfl⟩:=abv.mp h;obtain⟨h2,b⟩:=ab9.mp h1;exact⟨a.1,h2,afo b⟩
section
variable(bD:Nat->abN)(P:abf)(w:abh)(K:aT)(mg:afu)(base:acn)
def KB(q:Dm)(f:aaB):Us->Prop
 |.fn=>q.ql=q.q.x/\mg q.q.x=J (.ref f)
 |.pl=>q.P=[]/\q.q.x∈q.q.g/\q.ql=q.q.x/\∀x∈q.q.g,mg x=J (.ref f)
 |.mt n=>∃C,DO K By n=J (J<|.ref C)/\Cls K C/\Meth K C q.q.x f
 |.nw n=>q.P=[0]/\∃C,DO K By n=J (J<|.ref C)/\mg n=J (.ref C)/\Mk K C f
 |.vl=>q.P=[0]/\DO K By q.q.x=J (J<|.ref f)/\abk K (.ref f)=G
 |.mk _=>q.P=[0]/\q.ql=q.q.x/\mg q.q.x=J (.ref f)
structure DmOk(q:Dm)(f:aaB)(fd:abI):Prop where
 F:Fun K q.q.x q.ql (bD q.q.i) f fd
 b:cf K fd q.q.ps []
 u:∀u∈q.us,KB K mg q f u
def ZF(a:Nat->aaB)(fd:Nat->abI):Mz->Prop
 |.pl q _=>DfOk bD K mg q (a q.i)<|fd q.i
 |.p1 q _=>DfOk bD K mg q (a q.i) (fd q.i)/\q.x∈q.g
 |.mu q r _ _ _ _=>(DfOk bD K mg q (a q.i) (fd q.i)/\q.x∈q.g)/\DfOk bD K mg r (a r.i) (fd r.i)/\r.x∈r.g
 |.ow q _=>DmOk bD K mg q (a q.q.i)<|fd q.q.i
structure AcOk(a:Ac):Prop where
 x:∀e∈a.x,Bw P w K mg base e
 f:∀e∈a.f,wE P w K mg base e.1 e.2
 s:∀e∈a.s,zZ P w K mg base e.1 e.2
 v:∀g F,a.v.lookup g=J F->∃f fd ps,DO K By g=J (J<|.ref f)/\abk K (.ref f)=G/\cf K fd ps []/\FO P w K mg base a.d f fd ps [0] F
 c:∀n j F,a.c.lookup n=J (j,F)->∃C g fd ps,DO K By n=J (J<|.ref C)/\mg n=J (.ref C)/\Mk K C g/\cf K fd ps []/\FO P w K mg base j g fd ps [0] F
structure UgOk(Uq0:Ug):Prop where
 f:∀f∈Uq0.f,wE P w K mg base 0 f
 g:∀f∈Uq0.g,TJ P w K mg base 0 f
 s:∀f∈Uq0.s,zZ P w K mg base 0 f
 h:∀e∈Uq0.h,Qm P w K mg base e.1 e.2
end
section
variable{K:aT}
theorem Q9(A:AcOk P w K mg base a)(Q:DmOk bD K mg q f fd)(Gq0:FO P w K mg base (q.q.d+1) f fd q.q.ps q.P F)(k:KB K mg q f u):AcOk P w K mg base<|PY q F a u:=by
 cases u with
 |fn=>
  refine⟨A.x,fun e h=>?_,A.s,A.v,A.c⟩;rcases eQ.mp h with rfl|h
  .exact Pj ⟨k.1▸Q.F,Q.b,k.2⟩ Gq0
  .exact A.f e h
 |mt n=>
  refine⟨A.x,fun e h=>?_,A.s,A.v,A.c⟩;rcases eQ.mp h with rfl|h
  .obtain⟨C,h1,h2,l⟩:=k;exact Rg h1 h2 l Q.b Gq0
  .exact A.f e h
 |nw n=>
  obtain⟨i,C,h1,h2,l⟩:=k;rw[i]at Gq0;refine⟨A.x,A.f,fun e h=>?_,A.v,fun m j t h=>?_⟩
  .rcases eQ.mp h with rfl|h
   .exact Q4 h1 h2 l Q.b Gq0
   .exact A.s e h
  .rw[show(PY q F a<|.nw n).c=(n,q.q.d+1,F)::a.c from rfl,aaQ]at h;cbv
   .rename_i e;nofun;rw[eq_of_beq e];exact⟨C,f,fd,_,h1,h2,l,Q.b,Gq0⟩
   .exact A.c m j t h
 |vl=>
  obtain⟨i,h1,h2⟩:=k;rw[i]at Gq0;refine⟨A.x,A.f,A.s,fun g t h=>?_,A.c⟩;rw[show(PY q F a .vl).v=(q.q.x,F)::a.v from rfl,aaQ]at h;cbv
  .rename_i e;nofun;rw[eq_of_beq e];exact⟨f,fd,_,h1,h2,Q.b,Gq0.mono<|Nat.le_max_right _ _⟩
  .refine Z34 (A.v g t h) fun I o y E D M N=>?_;exact⟨I,o,y,E,D,M,N.mono<|Nat.le_max_left _ _⟩
 |pl=>
  obtain⟨i,H,r,p⟩:=k;rw[i]at Gq0;refine⟨fun e h=>?_,A.f,A.s,A.v,A.c⟩;rcases eQ.mp h with rfl|h
  .exact gP ⟨r▸Q.F,Q.b,p⟩ Gq0.calmO H
  .exact A.x e h
 |mk n=>
  obtain⟨i,r,p⟩:=k;rw[i]at Gq0;dsimp only[PY];split
  .rename_i z e;split
   .rename_i hz;refine⟨A.x,fun e h=>?_,A.s,A.v,A.c⟩;rcases eQ.mp h with rfl|h
    .obtain⟨C,g,o,ps,h1,h2,l,B,O⟩:=A.c n z.1 z.2 (by assumption);exact Of h1 h2 l B O ⟨r▸Q.F,Q.b,p⟩ Gq0<|ad1 hz
    .exact A.f e h
   .exact A
  .exact A
theorem BO(Q:DmOk bD K mg q f fd)(Gq0:FO P w K mg base (q.q.d+1) f fd q.q.ps q.P F):∀(us:List Us)(a:Ac),(∀u∈us,KB K mg q f u)->AcOk P w K mg base a->AcOk P w K mg base (us.foldl (PY q F) a)
 |[],_,_,A=>A
 |u::us,a,h,A=>BO Q Gq0 us _ (fun v b=>h v<|ie _ b)<|Q9 A Q Gq0<|h u aax
theorem xy(u:∀l k,FY l P w K mg base k->TbOk l ⟨K,mg,E0⟩ B/\∀f∈ext,dr l ⟨K,mg,E0⟩ f)(hU:UgOk P w K mg base Uq0)(A:AcOk P w K mg base a)(y:FZ l P w K mg base q.q.d)(n:l.N.Nodup)(h1:q.t1=G->1<=l.tn):MTbOk l K mg<|RO B ext Uq0 a q:=by
 refine⟨fun R D p=>pA u A.x (mK _) ((by
   refine Z09 p.eqs fun a b c d e g i j1 j2=>?_;obtain⟨⟨e1,O,E,I,H,r,cm,F,t,Q,C,z,M⟩,_,_,_⟩:=y;exact⟨a.trans e1,b.trans O,c.trans E,d.trans I,e.trans H,by rw[g];exact r,i.trans cm,F,t,Q,j1.trans C,j2.trans z,M⟩)) (fun f o=>by
   split at o
   .rename_i ht;rw[IF.mp o];exact G7 (by rw[p.tn];exact h1 ht)
   .cases o),fun g m=>?_,fun g m=>hU.g g m l _ y (aa2 _),fun g m=>?_,fun g m=>?_,y.y.cm.1,y.y.eK.symm,n,y.st,y.fr⟩
 .rcases BY.mp m with h|h
  .obtain⟨j,h1,h2⟩:=z7 h;exact A.f _ h1 l _ y h2
  .rcases BY.mp h with h|h
   .cbv
    .rename_i hd;rw[IF.mp h];exact Pk A.v l _ y hd
    .nofun
   .exact hU.f g h l _ y (aa2 _)
 .rcases eQ.mp m with rfl|h
  .exact Q6 l _ y (aa2 _) n
  .rcases BY.mp h with h|h
   .obtain⟨j,h1,h2⟩:=z7 h;exact A.s _ h1 l _ y h2 n
   .exact hU.s g h l _ y (aa2 _) n
 .obtain⟨j,h1,h2⟩:=z7 m;exact hU.h _ h1 l _ y h2 n
theorem Fun.okO1{st:abN}(F:Fun K x qual st f fd)(S:FnScope N ps<|ai st)(h1:Ju ps (ai st)=G)
  (c:∀(b:nE)(_:Ea K b qual=G)(A:abF)(a:List Env)(s:ID)(H:Hp)(E:XK),Room k (A.deeper<|ac4 qual (ai st) s.heap.objs.size f b) ->
   MB ((gw (oI P w mg) P w K mg base N qual (ai st) f b A a s H E).up 1) K mg nl [] Pf P' (bL st) ψ):FnOk P w K mg base (oI P w mg) (k+1) f fd ps (sJ K mg Pf (bF nl ψ N.length ps.length)):=by
 left;obtain⟨o,r,kV,i,p,q,b,n,l,rfl,lk,d⟩:=F.ex;obtain⟨m,pr,j,e⟩:=He h1;right;exact Ln lk (tF d) S j e BW fun A a s H vs Q E h g=>⟨_,((c b d A a s H E h) fun y C Z H=>E (.ref y) (C) H).out,BL g⟩
theorem IZ(l:∀e k,FY e P w K mg base k->TbOk e ⟨K,mg,E0⟩ B/\∀f∈ext,dr e ⟨K,mg,E0⟩ f)(hU:UgOk P w K mg base Uq0)(A:AcOk P w K mg base a)(F:Fun K q.q.x q.ql (bD q.q.i) f fd)(S:FnScope q.q.N q.q.ps<|ai<|bD q.q.i)(h1:q.t1=G->Ju q.q.ps (ai<|bD q.q.i)=G)(h:Ce bD (RO B ext Uq0 a q) q=J ψ):
  FO P w K mg base (q.q.d+1) f fd q.q.ps q.P (q.F ψ):=by
 obtain⟨r,h',rfl⟩:=dO.mp h;by_cases n:q.t1=G
 .refine Fun.okO1 (P':=r.2) F S (h1 n) fun p g t b s H E m=>?_;obtain⟨j,o,rfl,c⟩:=vO g;have y:FZ ((gw (oI P w mg) P w K mg base q.q.N q.ql (ai<|bD q.q.i) f (.ref j) t b s H E).up 1) P w K mg base q.q.d:=⟨⟨rfl,rfl,rfl,rfl,rfl,m,rfl,j,o,_,rfl,rfl,c⟩,.nil rfl,rfl,rfl⟩;exact wC (xy l hU A y S.nd fun _=>mK 1) (fun pl=>xy l hU A (y.pin pl) S.nd fun _=>mK 1) 12 q.P _ r h' []
 .refine F.okO (P':=r.2) S fun p g t b s H E m=>?_;obtain⟨j,o,rfl,c⟩:=vO g;have y:FZ (gw (oI P w mg) P w K mg base q.q.N q.ql (ai<|bD q.q.i) f (.ref j) t b s H E) P w K mg base q.q.d:=⟨⟨rfl,rfl,rfl,rfl,rfl,m,rfl,j,o,_,rfl,rfl,c⟩,.nil rfl,rfl,rfl⟩;exact wC (xy l hU A y S.nd fun z=>absurd z n) (fun pl=>xy l hU A (y.pin pl) S.nd fun z=>absurd z n) 12 q.P _ r h' []
theorem IS{q:Df}(F:Fun K q.x q.x (bD q.i) f fd)(S:FnScope q.N q.ps<|ai<|bD q.i)(h1:Ju q.ps (ai<|bD q.i)=G)(C:∀j,FY j P w K mg base k->1<=j.tn->TbOk j ⟨K,mg,E0⟩ t)(h:dF bD t q=J φ):FnOk P w K mg base lD (k+1) f fd q.ps<|rj K mg<|gx φ q.N q.ps:=by
 obtain⟨r,h',rfl⟩:=dO.mp h;obtain⟨D,pr,y,o⟩:=He h1;refine Fun.okD1 (O':=r.2) F S y o fun z m A n s H E u=>?_;obtain⟨B,v,rfl,l⟩:=vO m;refine Ab rfl (fun j p=>?_) S.nd afe rfl 12 [] _ r h' [];refine Z09 p.eqs fun a b c d e g i j1 j2=>?_;exact C j ⟨a,b,c,d,e,g▸u,i,B,v,_,j1,j2,l⟩ (by rw[p.tn];exact mK 1)
theorem N8{q r:Df}(e:∀b k,FY b P w K mg base k->TbOk b ⟨K,mg,E0⟩ B/\∀f∈ext,dr b ⟨K,mg,E0⟩ f)(A:AcOk P w K mg base a)(Q:DfOk bD K mg q f fd)(l:q.x∈q.g)(i:DfOk bD K mg r f' fd')(j:r.x∈r.g)(n:Nat)(h:Tv bD B ext Uq0 a (.mu q r φ χ Zq0 n)):∀m,
  FnOk P w K mg base lD (q.d+m) f fd q.ps (rj K mg (Zq0 m).1)/\FnOk P w K mg base lD (q.d+m) f' fd' r.ps (rj K mg (Zq0 m).2)
 |0=>by
  left;obtain⟨_,_,_,_,_,⟨h1,h2⟩,_⟩:=h;right;rw[funext h1,funext h2];exact⟨FnOk.void,FnOk.void⟩
 |m+1=>by
  left;obtain⟨t,s⟩:=N8 e A Q l i j n h m;obtain⟨b1,p,b2,u,hd,_,o⟩:=h;right;have self:∀b,FY b P w K mg base (q.d+m)->∀g∈[bX q.x (Zq0 m).1,bX r.x (Zq0 m).2],dr b ⟨K,mg,E0⟩ g:=fun b y g c=>by
   rcases eQ.mp c with rfl|c
   .exact gP Q t l b _ y (mK _)
   .rw[IF.mp c];exact gP i s j b _ y<|mK _
  rw[o m];exact⟨rq Q.F (pG p) (fun b y=>pA e A.x (adn _ _) y<|self b y)<|b1 _ _,rq i.F (pG u) (fun b y=>pA e A.x (by mright) y<|self b y)<|b2 _ _⟩
theorem IU(j:∀b k,FY b P w K mg base k->TbOk b ⟨K,mg,E0⟩ B/\∀f∈ext,dr b ⟨K,mg,E0⟩ f)(hU:UgOk P w K mg base Uq0){fd:Nat->abI}:∀(l:List Mz)(a:Ac),AcOk P w K mg base a->(∀z∈l,ZF bD K mg fa fd z)->D9 bD B ext Uq0 l a ->
  ∀q m,.pl q m∈l->FnOk P w K mg base lD (m.dp q) (fa q.i) (fd q.i) q.ps (rj K mg<|m.F q)
 |[],_,_,_,_,_,_,h=>nomatch h
 |z::r,a,A,hl,⟨h1,h3⟩,q,m,d=>by
  have Q:=hl z aax;have o:AcOk P w K mg base (P9 a z)->.pl q m∈r->FnOk P w K mg base lD (m.dp q) (fa q.i) (fd q.i) q.ps (rj K mg<|m.F q):=fun H h=>IU j hU r _ H (fun z d=>hl z<|ie _ d) h3 q m h;cases z with
  |ow t ψ=>
   obtain⟨h1,h2,p⟩:=h1;have Gq0:=IZ j hU A Q.F (pG h2) p h1;rcases eQ.mp d with h|h
   .nofun
   .exact o (BO Q Gq0 _ _ Q.u A) h
  |p1 t φ=>
   obtain⟨h1,h2,p⟩:=h1;have Gq0:=IS Q.1.F (pG h2) p (fun b y C=>pA j A.x (mK _) y fun g D=>by rw[IF.mp D];exact G7 C) h1;rcases eQ.mp d with h|h
   .nofun
   .refine o ⟨fun e h=>?_,A.f,A.s,A.v,A.c⟩ h;rcases eQ.mp h with rfl|h
    .exact gP Q.1 Gq0 Q.2
    .exact A.x e h
  |mu t O φ χ E n=>
   obtain⟨N,M⟩:=N8 j A Q.1.1 Q.1.2 Q.2.1 Q.2.2 n h1 n;rcases eQ.mp d with h|h
   .nofun
   .refine o ⟨fun e h=>?_,A.f,A.s,A.v,A.c⟩ h;rcases eQ.mp h with rfl|h
    .exact gP Q.1.1 N Q.1.2
    .rcases eQ.mp h with rfl|h
     .exact gP Q.2.1 M Q.2.2
     .exact A.x e h
  |pl t R=>
   obtain⟨h1,h2⟩:=h1;have Gq0:=L8 j A.x Q (pG h2) h1;rcases eQ.mp d with h|h
   .nofun;exact Gq0
   .refine o ⟨fun e h=>?_,A.f,A.s,A.v,A.c⟩ h;rcases BY.mp h with h|h
    .obtain⟨x,I,rfl⟩:=abv.mp h;exact gP Q Gq0 I
    .exact A.x e h
end
section
variable{X:Cx}{W:Wd}{O:afq}{φ:FE}
noncomputable def EG(d:D):R D:=match d with
 |.str z=>if z.length<=1000000 then .ok (.str<|aej z)else .no
 |_=>.no
theorem QS(f:PE X o to)(b:aaF o "rstrip" X.env (eval o X.env)=eval o X.env)(a:(apos.endLine==cpos.line)=G):
  PE X (.Call (.Attribute o "rstrip" apos) [] [] cpos) (fun Z H Q=>to Z H fun x H1=>∃z,x=.str z/\z.length<=1000000/\Q (.str<|aej z) H1):=by
 intro aa s Z H Q I h;refine wpAny_Call_method0_late b a<|bP (f aa s Z H _ I h) fun v i d=>jZ d fun x H1 c r1 q1=>?_;obtain⟨z,rfl,h1,q⟩:=q1;obtain⟨tk,rfl⟩:=r1;refine⟨"str","str.rstrip",ac5,PySem.F.slot_str_rstrip,PySem.F.type_str_rstrip,rfl,(fun _ e=>nomatch e),abW rfl (aex ?_)⟩
 exact aO c.tk (SC.rstrip (fun t' k g=>⟨.str _,H1,c.tok k,⟨t',rfl⟩,q⟩)<|RW h1<|∎)
theorem T2(e:JE X o<|tD W O φ)(b:aaF o "rstrip" X.env (eval o X.env)=eval o X.env)(a:(apos.endLine==cpos.line)=G):
  JE X (.Call (.Attribute o "rstrip" apos) [] [] cpos) (tD W O<|zz EG φ):=
 (JE.mk<|QS e.out b a).imp fun Z H Q c=>dQ c fun as0 B own Y I h=>⟨as0,B,own,Y,I,aY h fun x v H1 f d h1=>by
  delta EG at h1;split at h1
  .subst d;split at h1
   .rename_i hl;exact⟨_,rfl,hl,ax h1 rfl⟩
   .exact h1.elim
  .exact h1.elim⟩
def Xz:Fm:=fun _ _ _ e=>(cM e).bind fun q=>if q.2.1="rstrip"/\q.2.2=[]/\Aa q.1=G then J ([q.1],fun l=>zz EG<|g0 l)else U
def aai:Fm:=fun b N O e=>(cM e).bind fun q=>match q.2.2 with
 |[a]=>(oN b N O a).bind fun i=>if q.2.1="join"/\Aa q.1=G then J ([q.1],fun l=>DN kF (g0 l)<|ak (ag i) aQ)else U
 |_=>U
theorem Pm(j:W.K=X.K):dr X W aai:=fun O e es b c h d=>by
 mstop
 obtain⟨⟨o,m,r⟩,h1,h⟩:=h;obtain⟨apos,cpos,rfl,h2⟩:=kr h1;dsimp only at h;cbv
 .mstop
  obtain⟨i,n,h⟩:=h;cbv
  .rename_i hq;left;obtain⟨rfl,a⟩:=hq;nofun;obtain⟨x,p,rfl,k,g,f,q,l⟩:=vA n;obtain⟨φ,rfl,s⟩:=yN d;right;exact JR X.K g s k f q l (zq a _ _) h2 rfl j
  .nofun
 .nofun
def V8(a:Scope)(N:afr)(O:afq)(i:Nat)(c:aa1):Option<|List aa1:=(cM c).bind fun q=>if q.2.1="pop"/\oN a N O q.1=J i then J q.2.2 else U
theorem Ad(h:V8 sc N O i c=J es)(d:N[i]?=J x):∃p a q,c=.Call (.Attribute (.Name x p) "pop" a) es [] q/\(a.endLine==q.line)=G:=by
 obtain⟨q,h1,h2⟩:=bY.mp h;clear h;obtain⟨a,c,rfl,f⟩:=kr h1;split at h2
 .rename_i hq;cases h2;refine Z23 (vA hq.2) fun y p e b _=>?_;rw[d]at b;cases b;rw[e,hq.1];exact⟨_,_,_,rfl,f⟩
 .cases h2
def XZ:Fs:=fun a N O s=>match s with
 |.Expr c _=>(cM c).bind fun q=>(oN a N O q.1).bind fun i=>(match q.2.2 with
  |[.Tuple (e::r) _ _]=>if q.2.1="append"/\al e=G then(match r with
   |[c1]=>(V8 a N O i c1).bind fun l=>if l.isEmpty=G then J ([e],fun l=>pR i<|g0 l)else U
   |[c1,c2]=>(V8 a N O i c1).bind fun l=>(match l with
    |[f]=>(V8 a N O i c2).bind fun l=>if l.isEmpty=G/\al f=G then J ([e,f],fun l=>my i (g0 l)<|g1 l)else U
    |_=>U)
   |_=>U)else U
  |_=>U)
 |_=>U
theorem PV(n:W.K=X.K):IK X W XZ:=fun Ob O s es b t h j=>by
 delta XZ at h;cbv
 .obtain⟨⟨q1,q2,A⟩,w,h2⟩:=bY.mp h;clear h;obtain⟨z,y,rfl,l0⟩:=kr w;obtain⟨i,h1,h⟩:=bY.mp h2;refine Z26 (vA h1) fun x p e0 a m k r o=>?_;dsimp only at e0 h l0⊢;subst e0;cbv
  .cbv
   .rename_i d;obtain⟨d,q⟩:=d;subst d;cbv
    .obtain⟨l,c,h⟩:=bY.mp h;cbv
     .rename_i hp;nofun;rw[ad4.mp hp]at c;obtain⟨_,_,_,rfl,e⟩:=Ad c a;obtain⟨φ,rfl,f⟩:=yN j;exact Fu m f a q l0 e k r o rfl rfl rfl n
     .nofun
    .obtain⟨l,c,h⟩:=bY.mp h;cbv
     .obtain⟨l,g,h⟩:=bY.mp h;cbv
      .rename_i hp;nofun;rw[ad4.mp hp.1]at g;obtain⟨_,_,_,rfl,e⟩:=Ad c a;obtain⟨_,_,_,rfl,u⟩:=Ad g a;obtain⟨φ,ψ,rfl,f,v⟩:=Kp j;exact GD m f v a q hp.2 l0 e u k r o rfl rfl rfl rfl n
      .nofun
     .nofun
    .nofun
   .nofun
  .nofun
 .nofun
noncomputable def LS:List (Option aa1)->List aa1->Option (List<|Str×Int)
 |[],[]=>J []
 |some a::ks,b::vs=>(sKq a).bind fun k=>(iKq b).bind fun v=>(LS ks vs).map ((k,v)::·)
 |_,_=>U
theorem Jv:∀(e:List<|Option aa1)(vs:List aa1)(tab:List<|Str×Int),LS e vs=J tab->X9 X dpos e vs (GR tab)/\e.all (·.isSome)=G/\e.length=vs.length/\e.length=tab.length:=fun e=>by
 induction e with
 |nil=>
  intro vs tab h;cases vs with
  |nil=>nofun;exact⟨(fun aa s Z H Q I h=>pairTrees_nil_walk ⟨[],H,I,.nil,h⟩),rfl,rfl,rfl⟩
  |cons _ _=>nofun
 |cons k e f=>
  intro vs tab h;unfold LS at h;cbv
  .mright
  .rename_i z1;left;cases z1;mstop;obtain⟨_,hx,h⟩:=h;obtain⟨_,_,rfl⟩:=sKo hx;mstop;obtain⟨_,hx,h⟩:=h;obtain⟨_,_,rfl⟩:=iKo hx
   replace h:=dO.mp h
   obtain⟨t,h1,rfl⟩:=h;obtain⟨a,b,c,d⟩:=f _ t h1;right;exact⟨(fun aa s Z H Q I h=>
     pairTrees_cons_walk (bP (Jg aa s Z H _ I h) (by intro u s1 q_;refine Z23 q_ fun x H1 I1 rx q1=>?_;exact bP (AE aa s1 Z H1 _ I1 q1) (by rintro w2 s2⟨y,H2,I2,ry,q2⟩;exact bP (a aa s2 Z H2 _ I2 q2) (by rintro ws s3⟨ps,H3,I3,rel,q3⟩;exact ⟨(x,y)::ps,H3,I3,.cons ⟨rx,ry⟩ rel,q3⟩))))),⊤,by simp[c],by simp[d]⟩
  .nofun
def aam:Fm:=fun _ _ _ e=>(cS e).bind fun q=>match q.1 with
 |.Dict ks vs _=>(LS ks vs).bind fun tab=>if(tab.map (·.1)).Nodup/\tab.length<=15/\0<tab.length then J ([q.2],fun l=>zz (cdD<|tab.map fun p=>(p.1,D.int p.2))<|g0 l)else U
 |_=>U
theorem Oa(j:X.A.units+1<cLine):dr X W aam:=fun O e es b f h g=>by
 mstop
 obtain⟨⟨o,i⟩,h1,h⟩:=h;obtain⟨pos,rfl,h2⟩:=BX h1;dsimp only at h;cbv
 .mstop
  obtain⟨tab,k,h⟩:=h;cbv
  .rename_i hq;nofun;obtain⟨φ,rfl,l⟩:=yN g;obtain⟨a,b,c,d⟩:=Jv _ _ tab k;exact QG tab j a l hq.1 hq.2.1 b c (fun z=>by mright) (by mright)<|Np h2
  .nofun
 .nofun
end
section
variable{W:Wd}{X:Cx}
def Tl:R2:=fun x y H Q=>match x,y with
 |.int i,.int j=>Q (.int<|i+j) H
 |.str i,.str j=>i.length+j.length<=aaL/\Q (.str<|i++j) H
 |_,_=>False
theorem Xr:eJ X (aco .Add) Tl:=(OX.or Ak).imp fun x y H Q q=>by
 delta Tl at q;split at q
 .exact .inl ⟨_,_,rfl,rfl,q⟩
 .mright
 .exact q.elim
noncomputable def eZ(a b:D):R D:=match a,b with
 |.int i,.int j=>.ok<|.int<|i+j
 |.str x,.str y=>if x.length+y.length<=1000000 then .ok (.str<|x++y)else .no
 |_,_=>.no
theorem nJ:eZ (.int i) (.int j)=.ok (.int<|i+j):=rfl
theorem Nd:eZ (.str x) (.str y)=if x.length+y.length<=1000000 then .ok (.str<|x++y)else .no:=rfl
def xo(a:D)(lo b:Option Int):R D:=match a with
 |.str z=>if z.length<=1000000 then .ok (.str<|rY z lo b)else .no
 |_=>.no
theorem UL{lo a:Option Int}:xo (.str x) lo a=if x.length<=1000000 then .ok (.str<|rY x lo a)else .no:=rfl
def QC(ds:afy):R<|afy:=match ds with
 |[.tup xs,.tup ys]=>.ok<|pN xs ys
 |_=>.no
def EU(α:FA):FA:=fun Y=>(α Y).bind QC
theorem qy{a:aaB}{Z:St}(I:Inv X aa Z H s)(sB:ah B H)(b:m7 X.K B a xs):
  ∃(o:Obj)(S:aaB->Nat->acn->Prop),yo (.ref a) o s.heap/\o.isFreed=η/\(∀it h,h.get? it=J o->S it 0 h)/\∀it,Src X.K B xs it<|S it:=by
 obtain⟨aV,rv,pl,hz⟩:=I.tuple<|sB.seqT b
 refine⟨{cls:=.type "tuple_iterator",data:=.fields #[.ref a,.int 0 0]},fun it i h=>h.IsTupleIter it a i,fun prog w A s Q E k q=>?_,rfl,fun it h e=>⟨_,e,rfl,rfl⟩,fun it=>src_tuple b⟩;obtain⟨o,e,r⟩:=pl
 exact wpAny_pyIter_tuple ⟨o,k _ _ e,r⟩ q
theorem LW{r:List aa1}{k:Nat}{p pos tpos:Pos}(M:X.mg "zip"=U)(ha:JA X [a,b]<|zx W O α)(N:Gl X "zip")(h1:al a=G)(h2:al b=G)(C:W.K=X.K):
  JI X (.Tuple r k tpos) (.Call (.Name "zip" p) [a,b] [] pos) (iD W O<|EU α):=⟨fun aa s Z H R I q_=>Z42 q_ fun as0 B own Y DIh h=>by
 refine abc (tw I N M OD ?_ ∎<|by rfl);refine acy (bP (ha.out pos aa s Z H (fun vs H1=>ah H H1/\∃ds,ay W.K (aj (own++as0) H1) ds vs/\j3 W as0 own H1 (QC ds) R) I ⟨as0,B,own,Y,DIh,qo h fun ds vs H1 c T d=>⟨c,ds,T,d⟩⟩) fun us c Q=>jZ Q fun vs H1 n r1 q1=>?_) (bC h1) (bH<|by rw[aa5,h2];rfl);left;obtain⟨sH,ds,dv,d⟩:=q1
 delta QC at d;split at d
 .rename_i xs ys;obtain⟨va,vb,rfl,f,e⟩:=BB dv;have d:∀l H',ah H1 H'->GivesD W.K as0 (aj own H') l (pN xs ys)->R l H':=d;obtain⟨u1,u2,rfl,u,A⟩:=ya r1;rw[t7]at f e;obtain⟨a1,xv,rfl,o,j⟩:=f;obtain⟨a2,yv,rfl,m,g⟩:=e;subst u;subst A;rw[C]at o m j g;have sB:ah (aj as0<|aj own H1) H1:=(aD _ _).trans<|aD _ _;obtain⟨o1,S1,it1,fr1,st1,src1⟩:=qy n sB o
  obtain⟨o2,S2,it2,fr2,st2,src2⟩:=qy n sB m
  right;refine DU it1 it2 fr1 fr2 fun h' D v t g1 g2 S V=>?_;refine wpAny_pyIter_zip D ?_;refine⟨c.heap.objs.size+4,_,_,_,H1,rfl,n.kept (t':=c.toks) V,FC (P:=X.prog) (w:=X.w) (src1 c.heap.objs.size) (src2<|c.heap.objs.size+1) (z:=c.heap.objs.size+4) (TI:=c.heap.objs.size+2) (TO:=c.heap.objs.size+3) ?_,⟨D,v,⟨_,_,t⟩,st1 _ _ g1,st2 _ _ g2⟩,fun b F=>?_,d _ H1 (ah.refl _) ?_⟩
  .simp only[aaK,eQ,aaz,or_false,not_or,aby,and_true,not_false_eq_true];refine⟨⟨?_,?_,?_,?_⟩,⟨?_,?_,?_⟩,⟨?_,?_⟩,?_⟩<;>first|lia|(intro q;have q':(_:Nat)=_:=q;lia)
  .have hb':c.heap.objs.size<=b:=by
    simp only[eQ,aaz,or_false]at F;rcases F with rfl|rfl|rfl|rfl|rfl<;>first|exact adn _ _|exact mK _
   exact n.fpOk hb'<|n.hok.fresh hb'
  .rw[C];refine zL ?_ fun i x y hi E=>?_
   .delta pN;rw[List.length_zipWith,j.len,g.len]
   .obtain⟨dx,q1,q2⟩:=j.got E.1
    obtain⟨dy,q3,q4⟩:=g.got E.2
    refine⟨dx,dy,?_,q2,q4⟩;delta pN;rw[List.getElem?_zipWith,q1,q3]
 .right;exact d.elim⟩
theorem Fk(c:X.mg "zip"=U)(h:W.K=X.K):PZ X W<|fI "zip" 2 G EU:=Ng fun O g es p pos α i f hs e d=>by
 obtain⟨_,_,_,rfl⟩:=Lq<|e rfl
 match es,i with
 |[a,b],_=>
  have hs  := by simpa using hs
  exact LW c d f hs.1 hs.2 h
end
def AM:afv->Bool
 |[]=>G
 |a::r=>!r.contains a&&AM r
theorem yj:∀{l:afv},AM l=G->l.Nodup
 |[],_=>aby
 |a::r,h=>by
  unfold AM at h;rw[oR]at h;exact aaK.mpr ⟨by simpa using h.1,yj h.2⟩
theorem Mi{β:Type}{x:aaB×β}{l:List<|aaB×β}(a:(l.map (·.1)).Nodup)(h:x∈l):l.lookup x.1=J x.2:=by
 induction l with
 |nil=>nofun
 |cons y r b=>
  rw[aaV,aaK]at a;rcases eQ.mp h with rfl|h
  .grind
  .have n:x.1≠y.1:=fun z=>a.1<|z▸acm h;rw[acx,show(x.1==y.1)=η from by simpa using n];exact b a.2 h
end L2
namespace L2
open PySem PySem.NumText
noncomputable def dg(n:Nat):afq:=if h:n<10 then[48+n]else dg (n/10)++[48+n%10]
termination_by n
decreasing_by lia
theorem fS{n:Nat}(h:n<10):dg n=[48+n]:=by rw[dg,dif_pos h]
theorem pU{n:Nat}(h:¬n<10):dg n=dg (n/10)++[48+n%10]:=by rw[dg,dif_neg h]
theorem r9:∀{d:Nat},d<10->(Nat.digitChar d).toNat=48+d:=∎
theorem qh:∀(n:Nat),(aed 10 n).map aeX=dg n:=by
 intro n;induction n using ac2 with
 |ind n a=>
  by_cases h:n<10
  .rw[Nat.toDigits_of_lt_base h,fS h,aaV,adg,r9 h]
  .rw[Nat.toDigits_of_base_le ∅<|by simp_all,pU h,acA,a (n/10)<|⊥,aaV,adg,r9<|by grind]
theorem Kb(n:Nat):(lE<|toString ((n:Nat):Int)).cps.toList=dg n:=by
 rw[ad5];show ae8 aeX (aeL<|aed 10 n).toList=_;rw[aeo,qh]
def cu(i:Int):afq:=if i<0 then 45::dg i.natAbs else dg i.natAbs
theorem str_int(i:Int):(lE<|toString i).cps.toList=cu i:=by
 cases i with
 |ofNat n=>delta cu;rw[afl<|∅];exact Kb n
 | negSucc n=>delta cu;rw [afk (Int.negSucc_lt_zero n)];exact (by
   rw[ad5];show ae8 aeX ("-"++aeL (aed 10 (n+1))).toList=_;rw[String.toList_append,acA];show[45]++ae8 aeX (aeL (aed 10 (n+1))).toList=_;rw[aeo,qh];rfl)
theorem pO:∀{n c:Nat},c∈dg n->48<=c/\c<=57:=by
 intro n;induction n using ac2 with
 |ind n b=>
  intro c a;by_cases h:n<10
  .rw[fS h]at a;mright;lia
  .rw[pU h]at a;rcases BY.mp a with z|z
   .exact b _ ⊥ z
   .mright;grind
theorem M7(n:Nat):dg n≠[]:=by
 by_cases h:n<10
 .rw[fS h];simp
 .rw[pU h];simp
theorem zN:∀(k n:Nat),n<10^(k+1)->(dg n).length<=k+1
 |0,n,h=>by rw[fS<|by omega];simp
 |k+1,n,h=>by
  by_cases q:n<10
  .rw[fS q];simp
  .rw[pU q]
   have:=zN k (n/10) (by rw[Nat.pow_succ]at h;lia)
   simp;omega
theorem Kq:∀(n:Nat),0<n->∃c r,dg n=c::r/\c≠48:=by
 intro n;induction n using ac2 with
 |ind n b=>
  intro d;by_cases h:n<10
  .exact⟨48+n,[],fS h,⊥⟩
  .obtain⟨c,r,e,a⟩:=b (n/10) ⊥ (by mright);exact⟨c,r++[48+n%10],by rw[pU h,e];rfl,a⟩
theorem Od:∀(n:Nat),digitsVal (dg n)=n:=by
 intro n;induction n using ac2 with
 |ind n a=>
  by_cases h:n<10
  .rw[fS h];delta digitsVal;simp
  .rw[pU h];delta digitsVal;rw[List.foldl_append];have e:=a (n/10) ⊥;unfold digitsVal at e;rw[e];simp;lia
theorem yB{i:Int}{c:Nat}(h:c∈cu i):45<=c/\c<=57:=by
 delta cu at h;cbv
 .rcases eQ.mp h with z|z
  .mright
  .have:=pO z;lia
 .have:=pO h;lia
end L2
namespace L2
noncomputable def eN:afq->afq
 |[]=>[]
 |c::r=>if c=34 then 34::34::eN r else c::eN r
theorem CK:∀(Lq0:afq),qR [34] [34,34] 0 Lq0=eN Lq0
 |[]=>rfl
 |c::r=>by
  rw[qR,eN];show(if[c]=[34]then[34,34]++qR [34] [34,34] 0 r else c::qR [34] [34,34] 0 r)=_;rw[CK r];by_cases h:c=34
  .rw[afk<|by rw[h],afk h];rfl
  .rw[afl<|by simpa using h,afl h]
noncomputable def ku(w:afq):afq->afq
 |[]=>[]
 |c::r=>if c=34 then w++ku w r else c::ku w r
theorem lA(w:afq):∀(Lq0:afq),qR [34,34] w 0 (eN Lq0)=ku w Lq0
 |[]=>rfl
 |c::r=>by
  rw[eN,ku];by_cases h:c=34
  .rw[afk h,afk h,qR];show(if(34::34::eN r).take 2=[34,34]then w++qR [34,34] w 1 (34::eN r)else _)=_;rw[afk (show(34::34::eN r).take 2=[34,34]from rfl)];show w++qR [34,34] w 0 (eN r)=_;rw[lA w r]
  .rw[afl h,afl h,qR,afl (fun e=>by
    cases hd:eN r with
    |nil=>rw[hd]at e;simp at e
    |cons a b=>rw[hd]at e;simp at e;exact h e.1),lA w r]
theorem sA:∀(Lq0:afq),ku [34] Lq0=Lq0
 |[]=>rfl
 |c::r=>by
  rw[ku];by_cases h:c=34
  .rw[afk h,sA r,h];rfl
  .rw[afl h,sA r]
theorem sk:∀(Lq0:afq),34∉ku [] Lq0
 |[]=>by simp[ku]
 |c::r=>by
  rw[ku];by_cases h:c=34
  .rw[afk h];exact sk r
  .rw[afl h];intro z;rcases eQ.mp z with z|z
   .exact h z.symm
   .exact sk r z
end L2
namespace L2
open PySem PySem.Spec PyProof.Rows
section
theorem SM(h1:dF bD (tbl B ext a.x q []) q=J φ)(h2:J5 q.N q.ps (ai<|bD q.i)=G)(b:D9 bD B ext Uq0 r (P9 a<|.pl q<|.pl φ)):D9 bD B ext Uq0 (.pl q (.pl φ)::r) a:=⟨⟨h1,h2⟩,b⟩
theorem Th(h1:∀F,dF bD (tbl B ext a.x q (q.g.map fun x=>bX x F)) q=J (φ F))(h2:J5 q.N q.ps (ai<|bD q.i)=G)(c:D9 bD B ext Uq0 r (P9 a<|.pl q<|.rc φ Zq0 n))(b:autoParam (∀ds,Zq0 0 ds=.no) Xdz)(d:autoParam (∀m,Zq0 (m+1)=gx (φ<|Zq0 m) q.N q.ps) Xdz):D9 bD B ext Uq0 (.pl q (.rc φ Zq0 n)::r) a:=⟨⟨⟨h1,b,d⟩,h2⟩,c⟩
theorem To(h1:dF bD (tbl B ext a.x q [O3]) q=J φ)(h2:J5 q.N q.ps (ai<|bD q.i)=G)(b:Ju q.ps (ai<|bD q.i)=G)(c:D9 bD B ext Uq0 r (P9 a<|.p1 q φ)):D9 bD B ext Uq0 (.p1 q φ::r) a:=⟨⟨h1,h2,b⟩,c⟩
theorem Sq(h1:∀F Gq0,dF bD (tbl B ext a.x q [bX q.x F,bX s.x Gq0]) q=J (φ F Gq0))(h2:J5 q.N q.ps (ai<|bD q.i)=G)(c:∀F Gq0,dF bD (tbl B ext a.x s [bX q.x F,bX s.x Gq0]) s=J (χ F Gq0))(h:J5 s.N s.ps (ai<|bD s.i)=G)(f:s.d=q.d)(g:D9 bD B ext Uq0 r (P9 a<|.mu q s φ χ Zq0 n))
  (b:(∀ds,(Zq0 0).1 ds=.no)/\∀ds,(Zq0 0).2 ds=.no:=by exact⟨fun _=>rfl,fun _=>rfl⟩) (e:autoParam (∀m,Zq0 (m+1)=(gx (φ (Zq0 m).1 (Zq0 m).2) q.N q.ps,gx (χ (Zq0 m).1 (Zq0 m).2) s.N s.ps)) Xdz):D9 bD B ext Uq0 (.mu q s φ χ Zq0 n::r) a:=⟨⟨h1,h2,c,h,f,b,e⟩,g⟩
theorem Vm(h1:Ce bD (RO B ext Uq0 a q) q=J ψ)(h2:(J5 q.q.N q.q.ps (ai<|bD q.q.i)&&(!q.t1||Ju q.q.ps (ai<|bD q.q.i)))=G)(b:D9 bD B ext Uq0 r (P9 a<|.ow q ψ)):D9 bD B ext Uq0 (.ow q ψ::r) a:=by
 rw[oR]at h2;exact⟨⟨h1,h2.1,fun z=>by mright⟩,b⟩
end
noncomputable def ny(K:aT)(n:Str):Option aaB:=match DO K By n with
 |some (J<|.ref C)=>J C
 |_=>U
theorem oz{K:aT}(h:ny K n=J C):DO K By n=J (J<|.ref C):=by
 delta ny at h;cbv
 .mright
 .nofun
noncomputable def Cl(K:aT)(C:aaB)(m:Str):Option aaB:=match abw K (.ref C) m with
 |some (J<|.ref f)=>J f
 |_=>U
theorem xQ{K:aT}(h:Cl K C m=J f):abw K (.ref C) m=J (J<|.ref f):=by
 delta Cl at h;cbv
 .mright
 .nofun
noncomputable def Zf(K:aT)(C:aaB):Bool:=acO K C acX&&ac7 K C&&adT K C&&(match abw K (.ref C) "__setattr__"with
 |some (J<|.builtin b)=>decide (b="object.__setattr__")
 |_=>η)
def UM(K:aT)(q:Dm)(f:aaB):Us->Bool
 |.fn=>decide (q.ql=q.q.x/\ny K q.q.x=J f)
 |.pl=>decide (q.P=[]/\q.q.g=[q.q.x]/\q.ql=q.q.x/\ny K q.q.x=J f)
 |.mt n=>(match ny K n with
  |some C=>Zf K C&&decide (Cl K C q.q.x=J f)&&adI K (.ref f)&&abk K (.ref f)
  |none=>η)
 |.nw n=>decide (q.P=[0])&&(match ny K n with
  |some C=>afb K C&&decide (Cl K C "__init__"=J f)&&adI K (.ref f)&&abk K (.ref C)
  |none=>η)
 |.vl=>decide (q.P=[0]/\ny K q.q.x=J f)&&abk K (.ref f)
 |.mk _=>decide (q.P=[0]/\q.ql=q.q.x/\ny K q.q.x=J f)
section
variable{K:aT}(X:K.In h)(N:h.Ns By mg)
include X N
theorem OT(h:UM K q f u=G):KB K mg q f u:=by
 have g:∀{n:Str}{a:aaB},ny K n=a->mg n=J (.ref a):=fun h=>acG X N<|oz h;cases u with
 |fn=>obtain⟨a,b⟩:=afo h;exact⟨a,g b⟩
 |pl=>
  obtain⟨a,b,c,d⟩:=afo h;exact⟨a,by rw[b];simp,c,fun x j=>by mright⟩
 |mt n=>
  dsimp only[UM]at h;cbv
  .rename_i C e;mright;obtain⟨⟨⟨a,b⟩,c⟩,d⟩:=h;exact⟨C,oz e,(by
     delta Zf at a;mright;obtain⟨⟨⟨a,b⟩,c⟩,d⟩:=a;refine⟨a,b,c,?_⟩;split at d
     .mright
     .cases d),⟨xQ b,c,d⟩⟩
  .nofun
 |nw n=>
  dsimp only[UM]at h;rw[oR,decide_eq_true_eq]at h;obtain⟨i,h⟩:=h;cbv
  .rename_i C e;mright;obtain⟨⟨⟨a,b⟩,c⟩,d⟩:=h;exact⟨i,C,oz e,g e,⟨a,xQ b,c,d⟩⟩
  .nofun
 |vl=>
  dsimp only[UM]at h;rw[oR,decide_eq_true_eq]at h;exact⟨h.1.1,oz h.1.2,h.2⟩
 |mk n=>obtain⟨a,b,c⟩:=afo h;exact⟨a,b,g c⟩
end
abbrev Dq:=Df×Str×afr
noncomputable def Mz.ds:Mz->List Dq
 |.pl q _=>[(q,q.x,q.g)]
 |.p1 q _=>[(q,q.x,q.g)]
 |.mu q r _ _ _ _=>[(q,q.x,q.g),(r,r.x,r.g)]
 |.ow q _=>[(q.q,q.ql,[])]
section
variable(bD:Nat->abN)(qn:Nat->Str)
def fZ(Lq0:Pl)(i:Nat):abI:=abi (Vk<|bD i) (qn i) (jJ<|bD i) (bL<|bD i) (ai<|bD i) .none .none .none (mA Lq0 i) U (.ref<|cA Lq0 i) .none
def znL(q:Dq)(kV g k:nE)(h:Option aaB)(f j a b c d e:nE):Sem<|List<|Str×nE:=bindArgs (abi q.1.x q.2.1 (jJ<|bD q.1.i) (bL<|bD q.1.i) (ai<|bD q.1.i) .none kV g k h f j) ⟨[a,b,c,d,e].take q.1.ps.length,[]⟩
def znR(q:Dq)(kV g j:nE)(h:Option aaB)(f i a b c d e:nE):Sem<|List<|Str×nE:=pure<|q.1.ps.zip<|[a,b,c,d,e].take q.1.ps.length
def zB(K:aT)(Lq0:Pl):Mz->Bool
 |.pl _ _=>G
 |.p1 q _=>decide (q.x∈q.g)
 |.mu q r _ _ _ _=>decide (q.x∈q.g/\r.x∈r.g)
 |.ow q _=>q.us.all<|UM K q<|fA Lq0 q.q.i
end
section
variable{K:aT}{Gq0:List Mz}
theorem QW(X:K.In h)(N:h.Ns By mg)(C:Gq0.flatMap Mz.ds=ds)(e0:(ds.map fun q=>(Vk<|bD q.1.i,qn q.1.i))=ds.map fun q=>(q.1.x,q.2.1))(e1:(ds.map fun q=>q.2.2.map<|DO K By)=ds.map fun q=>q.2.2.map fun _=>J<|J<|.ref<|fA Lq0 q.1.i)
  (R:(ds.map fun q=>K.lookup<|fA Lq0 q.1.i)=ds.map fun q=>J ⟨.type "function",U,.func<|fZ bD qn Lq0 q.1.i,#[]⟩) (D:(ds.map fun q=>(Ea K (.ref<|cA Lq0 q.1.i) q.2.1,abk K<|.ref<|fA Lq0 q.1.i))=ds.map fun _=>(G,G))
  (M:ds.map (znL bD)=ds.map znR) (I:(ds.map fun q=>decide (q.1.ps.length<=5))=ds.map fun _=>G) (B:Gq0.all (zB K Lq0)=G):∀z∈Gq0,ZF bD K mg (fA Lq0) (fZ bD qn Lq0) z:=fun z t=>by
 have key:∀q∈z.ds,Fun K q.1.x q.2.1 (bD q.1.i) (fA Lq0 q.1.i) (fZ bD qn Lq0 q.1.i)/\cf K (fZ bD qn Lq0 q.1.i) q.1.ps []/\∀x∈q.2.2,mg x=J (.ref<|fA Lq0 q.1.i):=fun q f=>by
  have f:q∈ds:=C▸List.mem_flatMap.mpr ⟨z,t,f⟩;have j:=aa9.mp e0 q f;have s:=aa9.mp R q f;have w:=aa9.mp D q f;have V:=aa9.mp M q f;have T:=afo<|aa9.mp I q f;have F:Fun K q.1.x q.2.1 (bD q.1.i) (fA Lq0 q.1.i)<|fZ bD qn Lq0 q.1.i:=by
   unfold fZ at s⊢;rw[(ac9 j).1,(ac9 j).2]at s⊢;exact Qe s (ac9 w).1 (ac9 w).2
  refine⟨F,F.binds fun kV o Q S p H us k=>?_,fun x j=>acG X N<|aa9.mp (aa9.mp e1 q f) x j⟩;obtain⟨a,b,c,d,e,y⟩:=Ym (by rw[k];exact T);rw[k]at y;rw[y];exact congrFun (congrFun (congrFun (congrFun (congrFun (congrFun (congrFun (congrFun (congrFun (congrFun (congrFun V kV) o) Q) S) p) H) a) b) c) d) e
 have l:=aaH.mp B z t;cases z with
 |pl q m=>obtain⟨a,b,c⟩:=key _<|IF.mpr rfl;exact⟨a,b,c⟩
 |p1 q φ=>obtain⟨a,b,c⟩:=key _<|IF.mpr rfl;exact⟨⟨a,b,c⟩,afo l⟩
 |mu q r φ χ A n=>
  obtain⟨a,b,c⟩:=key (q,q.x,q.g) (by simp[Mz.ds]);obtain⟨E,O,P⟩:=key (r,r.x,r.g) (by simp[Mz.ds]);obtain⟨u,v⟩:=afo l;exact⟨⟨⟨a,b,c⟩,u⟩,⟨E,O,P⟩,v⟩
 |ow q ψ=>
  obtain⟨a,b,c⟩:=key _<|IF.mpr rfl;exact⟨a,b,fun u k=>OT X N<|aaH.mp l u k⟩
end
end L2
namespace L2.Go
open PySem
theorem a8(h:τ Y=.ok G):DA τ S T Y=S Y:=by rw[Tz,h,am,UQ,afk rfl]
theorem j0(h:τ Y=.ok η):DA τ S T Y=T Y:=by rw[Tz,h,am,UQ,afl MK]
theorem bu(h:S Y=.ok (.nx δ')):nh S T Y=T δ':=by rw[M8,h,am,QA]
theorem aS(h:S Y=.ok (.rt d)):nh S T Y=.ok (.rt d):=by rw[M8,h];rfl
theorem ar(h:φ Y=.ok d):pX φ Y=.ok (.rt d):=by rw[RT,h];rfl
theorem au(h:φ Y=.ok d):rZ k φ Y=.ok (.nx<|Y.set k<|J d):=by rw[Vg,h];rfl
theorem zO(h:φ Y=.ok d)(a:autoParam (k<Y.length) Xez):Av k φ Y=.ok (.nx<|Y.set k<|J d):=by rw[U5,h,am,SO,afk a]
theorem aq(h:r=.ok (.rt d)):fin r=.ok d:=by rw[h];rfl
theorem skip(h:τ Y=.ok η):nh (DA τ S ld) T Y=T Y:=bu<|(j0 h).trans rfl
theorem ac(h:φ Y=.ok d)(h2:α Y=.ok ds):ak φ α Y=.ok (d::ds):=by delta ak;rw[h,h2];rfl
theorem de(h:α Y=.ok ds)(a:autoParam (ds.length<=100) Xez):uD α Y=.ok (.tup ds):=by rw[Ut,h,am,Rp,afk<|⊥]
theorem mx(h:α Y=.ok ds)(a:autoParam (ds.length<=100) Xez):uw α Y=.ok (.lst ds):=by rw[R9,h,am,Qb,afk<|⊥]
theorem ae(h1:φ Y=.ok a)(h2:ψ Y=.ok b)(h:f a b=.ok c):aH f φ ψ Y=.ok c:=by rw[JU,h1,am,sN,h2,am,h]
theorem ao(h:φ Y=.ok (.bl b)):dC φ Y=.ok b:=by rw[DP,h];rfl
theorem af(h:α Y=.ok ds)(a:F ds=r):aI F α Y=r:=by rw[PH,h,am,a]
theorem gj(h:B (Y.set i<|J x)=.ok (.nx δ')):cZ (.one i) B (x::r) Y=cZ (.one i) B r δ':=by
 rw[sS];have e:iY (.one i) x Y=.ok (Y.set i<|x):=rfl;rw[e,am,Ja,h,am,v9]
theorem kU(h:ι Y=.ok xs)(a:cZ g B xs Y=.ok (.nx δ')):Hy ι g B Y=.ok (.nx δ'):=by rw[UW,h,am,UV,a]
theorem HI{τ:FT}{B:FS}{n:Nat}{Y δ':Sd}(h:τ Y=.ok G)(a:B Y=.ok (.nx δ')):cq τ B (n+1) Y=cq τ B n δ':=by
 rw[cq,h,a];rfl
theorem Nc(h:τ Y=.ok η):cq τ B (n+1) Y=.ok (.nx Y):=by
 rw[cq,h,am,afl MK]
theorem eV(h:φ Y=.ok d)(a:L4 d=.ok b):lP φ Y=.ok b:=by rw[Vn,h,am,a]
theorem Fz(h:τ Y=.ok b):qN τ Y=.ok (!b):=by rw[Tm,h];rfl
theorem qj(h:τ Y=.ok G):qN τ Y=.ok η:=Fz h
theorem Vw(h:τ Y=.ok η):qN τ Y=.ok G:=Fz h
theorem P7(h:τ Y=.ok G):KF τ υ Y=.ok G:=by rw[Ss,h];rfl
theorem lR(h:τ Y=.ok η)(h2:υ Y=.ok b):KF τ υ Y=.ok b:=by rw[Ss,h,am,Tp,afl MK,h2]
theorem kW(h:τ Y=.ok G)(h2:υ Y=.ok b):mQ τ υ Y=.ok b:=by rw[yr,h,am,xh,afk rfl,h2]
theorem Bu(h:τ Y=.ok η):mQ τ υ Y=.ok η:=by rw[yr,h];rfl
theorem pH(h:φ Y=.ok (.bl G))(h2:ψ Y=.ok d):GS φ ψ Y=.ok d:=by rw[v_and,h,am,Vf,afk rfl,h2]
theorem wx(h:Y[i]?=J (J<|.lst xs))(a:ε Y=.ok d)(b:xs.length<1000):jP i ε Y=.ok (.nx<|Y.set i<|J<|.lst<|xs++[d]):=by
 delta jP;rw[h];dsimp only;rw[a,am,afk<|⊥]
theorem T6(h:φ Y=.ok a)(h1:l Y=.ok lo)(h2:u Y=.ok hi)(hd:xo a lo hi=.ok d):Jm xo φ l u Y=.ok d:=by
 rw[Yj,h,am,UA,h1,am,U4,h2,am,VA,hd]
theorem C4(h:φ Y=.ok (.int i)):gI φ Y=.ok (J i):=by rw[QB,h];rfl
theorem OY(h:φ Y=.ok d)(a:Aw d=.ok xs):EX φ Y=.ok xs:=by rw[Tx,h,am,a]
theorem Ps(h:φ Y=.ok (.int (n:Int)))(a:n<=1000000):p9 (ak φ aQ) Y=.ok (aW 0 n):=by
 rw[IQ,ac h rfl,am,MX<|⊥,adW]
theorem oy(h:ι Y=.ok xs)(a:cF t τ ε (dY ix Y) xs=.ok d):jX ix ι t τ ε Y=.ok d:=by rw[O8,h,am,a]
theorem lf(h:φ Y=.ok a)(b:cr [a]=.ok d):aI cr (ak φ aQ) Y=.ok d:=af (ac h rfl) b
theorem WV{β:Type}(f:β->D)(xs:List β){i:Nat}{x:β}(h:xs[i]?=J x):cR (.lst<|xs.map f) (.int (i:Int))=.ok (f x):=UC (xu<|by mright)
theorem iH(h1:φ Y=.ok (.int i))(h2:ψ Y=.ok (.int j))(h:autoParam (-(2^64)<j/\j<2^64) Xax):aH qX φ ψ Y=.ok (.int<|i*j):=ae h1 h2<|(afk<|.inr h)
theorem bf(h1:φ Y=.ok (.int i))(h2:ψ Y=.ok (.int j))(h:autoParam (0<j) Xax):aH gk φ ψ Y=.ok (.int<|i%j):=ae h1 h2<|(afk h)
theorem f6(h1:φ Y=.ok (.int i))(h2:ψ Y=.ok (.int j))(h:autoParam (0<j/\j<1073741824) Xax):aH lO φ ψ Y=.ok (.int<|i/j):=ae h1 h2<|(afk h)
theorem ir(h1:φ Y=.ok (.int i))(h2:ψ Y=.ok (.int j)):aH eZ φ ψ Y=.ok (.int<|i+j):=ae h1 h2 rfl
theorem sC(h1:φ Y=.ok (.int i))(h2:ψ Y=.ok (.int j)):aH zI φ ψ Y=.ok (.int<|i-j):=ae h1 h2 rfl
theorem sV(h1:φ Y=.ok (.int i))(h2:ψ Y=.ok (.int j)):dC (aH jp φ ψ) Y=.ok (decide (i=j)):=ao<|ae h1 h2 zf
theorem vp(h:τ Y=.ok G)(h2:φ Y=.ok d):MU τ φ ψ Y=.ok d:=by rw[NN,h,am,MH,afk rfl,h2]
theorem B7(h:τ Y=.ok η)(h2:ψ Y=.ok d):MU τ φ ψ Y=.ok d:=by rw[NN,h,am,MH,afl MK,h2]
theorem wY(h:φ Y=.ok (.bl a))(h2:ψ Y=.ok (.bl b)):GS φ ψ Y=.ok (.bl<|a&&b):=by
 cases a with
 |true=>exact pH h h2
 |false=>exact(by rw[v_and,h];rfl)
theorem BM(h:φ Y=.ok a)(b:f a=r):zz f φ Y=r:=by delta zz;rw[h];exact b
variable{nl n k:Nat}{ψ:gi}{α:qg}{L μ1 μ2:afy}
theorem cL(h:ψ (aZ n Y) L=.rt d μ1)(a:autoParam (Y.length=k/\L.length=nl) Xex):bF nl ψ n k Y L=.ok d μ1:=by delta bF;rw[afk a,h]
theorem jC(h:ψ (aZ n Y) L=.nx δ' μ1)(b:autoParam (lst nl μ1=μ2) Xaz)(a:autoParam (Y.length=k/\L.length=nl) Xex):bF nl ψ n k Y L=.ok .non μ2:=by delta bF;rw[afk a,h,<-b]
theorem ga(h:ψ (aZ n Y) L=.er x μ1)(a:autoParam (Y.length=k/\L.length=nl) Xex):bF nl ψ n k Y L=.er x μ1:=by delta bF;rw[afk a,h]
theorem eL(h:ψ Y L=.nx δ' μ1)(h2:χ δ' μ1=r):bZ ψ χ Y L=r:=by delta bZ;rw[h];exact h2
theorem BS(h:ψ Y L=.rt d μ1):bZ ψ χ Y L=.rt d μ1:=by delta bZ;rw[h]
theorem lh(h:ψ Y L=.er x μ1):bZ ψ χ Y L=.er x μ1:=by delta bZ;rw[h]
theorem kR(h:τ Y L=.ok G μ1)(h2:ψ Y μ1=r):pf nl τ ψ χ Y L=r:=by delta pf;rw[h];exact h2
theorem F2(h:τ Y L=.ok η μ1)(h2:χ Y μ1=r):pf nl τ ψ χ Y L=r:=by delta pf;rw[h];exact h2
theorem Ky(h:φ Y L=.er x μ1)(a:autoParam (lst nl μ1=μ2) Xaz):qM nl i φ Y L=.er x μ2:=by subst a;delta qM;rw[h];rfl
theorem il(h:φ Y L=.ok d μ1):sr nl φ Y L=.nx Y μ1:=by delta sr;rw[h];rfl
theorem kJ(h:φ Y L=.er x μ1)(a:autoParam (lst nl μ1=μ2) Xaz):sr nl φ Y L=.er x μ2:=by subst a;delta sr;rw[h];rfl
theorem eG(h:φ Y L=.ok d μ1)(a:autoParam (lst nl μ1=μ2) Xaz):xz nl φ Y L=.rt d μ2:=by subst a;delta xz;rw[h];rfl
theorem Cy(h:φ Y L=.er x μ1)(a:autoParam (lst nl μ1=μ2) Xaz):xz nl φ Y L=.er x μ2:=by subst a;delta xz;rw[h];rfl
theorem aN{φ:FE}(h:φ (fill P L Y)=.ok d)(a:autoParam (noL d=G) Xaz):ji P φ Y L=.ok d L:=by delta ji;mright
theorem qt:ji P (vC d) Y L=.ok d L:=by
 show(if noL d=G then RM.ok d L else RM.ok d L)=_;split<;>rfl
theorem aR{τ:FT}(h:τ (fill P L Y)=.ok b):uv P τ Y L=.ok b L:=by delta uv;rw[h]
theorem B0(h:τ Y L=.ok b μ1):Dc τ Y L=.ok (!b) μ1:=by delta Dc;rw[h];rfl
theorem FJ(h:τ Y L=.ok G μ1):Dc τ Y L=.ok η μ1:=B0 h
theorem Hd(h:τ Y L=.ok η μ1):Dc τ Y L=.ok G μ1:=B0 h
theorem bw(h:φ Y L=.ok (.bl b) μ1):qL φ Y L=.ok b μ1:=by delta qL;rw[h];rfl
theorem vU(h:τ Y L=.ok G μ1)(h2:υ Y μ1=.ok b μ2):xg τ υ Y L=.ok b μ2:=by delta xg;rw[h];exact h2
theorem Gh(h:τ Y L=.ok η μ1):xg τ υ Y L=.ok η μ1:=by delta xg;rw[h];rfl
theorem NZ(h:τ Y L=.ok G μ1):J6 τ υ Y L=.ok G μ1:=by delta J6;rw[h];rfl
theorem NS(h:τ Y L=.ok η μ1)(h2:υ Y μ1=.ok b μ2):J6 τ υ Y L=.ok b μ2:=by delta J6;rw[h];exact h2
theorem N3(h:τ Y L=.ok G μ1)(h2:φ Y μ1=r):Nf τ φ φ' Y L=r:=by delta Nf;rw[h];exact h2
theorem MN(h:τ Y L=.ok η μ1)(h2:φ' Y μ1=r):Nf τ φ φ' Y L=r:=by delta Nf;rw[h];exact h2
theorem bg(h:φ Y L=.ok d μ1)(h2:α Y μ1=.ok l μ2):aK φ α Y L=.ok (.pl d::l) μ2:=by delta aK;rw[h];show(α Y μ1).bind _=_;rw[h2];rfl
theorem Bg(h:φ Y L=.er x μ1):aK φ α Y L=.er x μ1:=by delta aK;rw[h];rfl
theorem O6(h:φ Y L=.ok d μ1)(h2:α Y μ1=.er x μ2):aK φ α Y L=.er x μ2:=by delta aK;rw[h];show(α Y μ1).bind _=_;rw[h2];rfl
theorem bA(h:α Y L=.ok l μ1):mw k α Y L=.ok (.ob k::l) μ1:=by delta mw;rw[h];rfl
theorem B5(h:α Y L=.ok l μ1)(b:autoParam (f8 l=J ds) Xaz)(a:autoParam (Nat.ble ds.length 1000000=G) Xaz):vN α Y L=.ok (.tup ds) μ1:=by delta vN;rw[h];show(match f8 l with|some ds=>_|none=>_)=_;mright
theorem kC(h:F (uB l) ((j4 l).map fun k=>(L[k]?).getD .non)=.ok d μ1)(a:autoParam (decide ((j4 l).Nodup/\zw 0 l=Pf)=G) Xaz):fU Pf F l L=.ok d (putAt (j4 l) μ1 L):=by delta fU;mright
theorem AW(h:F (uB l) ((j4 l).map fun k=>(L[k]?).getD .non)=.er x μ1)(a:autoParam (decide ((j4 l).Nodup/\zw 0 l=Pf)=G) Xaz):fU Pf F l L=.er x (putAt (j4 l) μ1 L):=by delta fU;mright
theorem ka(h:F (uB l) ((j4 l).map fun k=>(L[k]?).getD .non)=.ok d μ1)(a:putAt (j4 l) μ1 L=μ2)(b:autoParam (decide ((j4 l).Nodup/\zw 0 l=Pf)=G) Xaz):fU Pf F l L=.ok d μ2:=a▸kC h b
theorem vS(h:F (uB l) ((j4 l).map fun k=>(L[k]?).getD .non)=.er x μ1)(a:putAt (j4 l) μ1 L=μ2)(b:autoParam (decide ((j4 l).Nodup/\zw 0 l=Pf)=G) Xaz):fU Pf F l L=.er x μ2:=a▸AW h b
theorem aM(h:α Y L=.ok l μ1)(h2:fU Pf F l μ1=r):dm Pf F α Y L=r:=by delta dm;rw[h];exact h2
theorem cx(a:objB c m L[k]?=G)(h:α Y L=.ok l μ1)(h2:fU Pf F (.ob k::l) μ1=r):dM k c m Pf F α Y L=r:=by delta dM;rw[a,h];exact h2
theorem Uu(a:objB c m L[k]?=G)(h:α Y L=.er x μ1):dM k c m Pf F α Y L=.er x μ1:=by delta dM;rw[a,h];rfl
theorem O0{a:Str}(h:α Y L=.ok l μ1)(c:autoParam (Nat.ble l.length 10=G) Xaz)(b:autoParam (lst nl μ1=μ2) Xaz):RL nl a α Y L=.er a μ2:=by subst b;delta RL;rw[h];exact afk<|ab4 c
theorem jM{r:RS}(h:τ Y L=.ok G μ1)(a:ψ Y μ1=.nx δ' μ2)(h2:bV nl τ ψ n δ' μ2=r):bV nl τ ψ (n+1) Y L=r:=by rw[bV,h];dsimp only[RM.bs];rw[a];exact h2
theorem qw(h:τ Y L=.ok η μ1):bV nl τ ψ (n+1) Y L=.nx Y μ1:=by rw[bV,h];rfl
theorem Em(h:τ Y L=.ok G μ1)(a:ψ Y μ1=.er x μ2):bV nl τ ψ (n+1) Y L=.er x μ2:=by rw[bV,h];dsimp only[RM.bs];rw[afk rfl,a]
theorem ED(h:φ Y L=.ok d μ1)(hs:setA c f d μ1[k]?=J d'):Bs nl k c f φ Y L=.nx Y (μ1.set k d'):=by delta Bs;rw[h];show(match setA c f d μ1[k]? with|some d'=>_|none=>_)=_;rw[hs]
theorem gG(h:τ Y L=.ok η μ1)(h2:χ Y μ1=r):bZ (pf nl τ ψ qG) χ Y L=r:=eL (F2 h rfl) h2
theorem D3(h:φ Y L=.ok d μ1)(h2:χ Y μ1=r):bZ (sr nl φ) χ Y L=r:=eL (il h) h2
theorem HW(h:φ Y L=.er x μ1)(a:autoParam (lst nl μ1=μ2) Xaz):bZ (sr nl φ) χ Y L=.er x μ2:=lh<|kJ h a
theorem iG(h:φ Y L=.ok d μ1)(h2:χ (Y.set i<|J d) μ1=r):bZ (qM nl i φ) χ Y L=r:=eL ((by delta qM;rw[h];rfl)) h2
end L2.Go
namespace L2.Go
open PySem
inductive Q(Z α:Type) where
 |ok (a:α) (s:Z)|er (s:Z)
section
variable{Z α β:Type}
def Q.bind(q:Q Z α)(f:α->Z->Q Z β):Q Z β:=match q with
 |.ok a s=>f a s
 |.er s=>.er s
def Q.In(I:Z->Prop):Q Z α->Prop
 |.ok _ s=>I s
 |.er s=>I s
end
section
variable{Z:Type}(x:Str)(e:Z->afy)(I:Z->Prop)(nl:Nat)
structure EM(a:RM D)(q:Q Z D):Prop where
 eq:a=match q with
  |.ok d s=>.ok d<|e s
  |.er s=>.er x<|e s
 ch:q.In I
structure EA(a:RM (List AD))(q:Q Z (afy)):Prop where
 eq:a=match q with
  |.ok ds s=>.ok (ds.map .pl)<|e s
  |.er s=>.er x<|e s
 ch:q.In I
structure ES(a:RS)(q:Q Z D):Prop where
 eq:a=match q with
  |.ok d s=>.rt d<|lst nl<|e s
  |.er s=>.er x<|lst nl<|e s
 ch:q.In I
end
section
variable{e:Z->afy}
theorem x8{φ:FE}(c:I s)(h:φ (fill P (e s) Y)=.ok d)(a:autoParam (noL d=G) Xaz):EM x e I (ji P φ Y<|e s)<|.ok d s:=⟨aN h a,c⟩
theorem MG(h:EM x e I a q)(b:q=q'):EM x e I a q':=b▸h
theorem mU{φ:FE}(h:φ (fill P (e s) Y)=.ok d)(a:noL d=G)(h2:EA x e I (α Y<|e s) q):EA x e I (aK (ji P φ) α Y<|e s)<|q.bind fun ds s=>.ok (d::ds) s:=by
 cases q with
 |er s'=>exact⟨O6 (aN h a) h2.eq,h2.ch⟩
 |ok ds s'=>exact⟨bg (aN h a) h2.eq,h2.ch⟩
theorem ri(h:EM x e I (φ Y L) q):EA x e I (aK φ bj Y L)<|q.bind fun d s=>.ok [d] s:=by
 cases q with
 |er s'=>exact⟨Bg h.eq,h.ch⟩
 |ok d s'=>exact⟨bg h.eq rfl,h.ch⟩
theorem OB(ds:afy):f8 (ds.map .pl)=J ds:=by
 induction ds with
 |nil=>rfl
 |cons d r a=>show(f8<|r.map .pl).map (d::·)=_;rw[a];rfl
theorem wD(h:EA x e I (α Y L) q)(a:∀ds s,q=.ok ds s->ds.length<=1000):EM x e I (vN α Y L)<|q.bind fun ds s=>.ok (.tup ds) s:=by
 cases q with
 |er s=>exact⟨(by delta vN;rw[h.eq];rfl),h.ch⟩
 |ok ds s=>
  refine⟨?_,h.ch⟩
  have:=a ds s rfl
  exact B5 h.eq (OB ds) (Nat.ble_eq_true_of_le<|⊥)
theorem NF(h:τ Y (e s)=.ok b (e s))(y:b=G->EM x e I (φ Y<|e s) q)(z:b=η->EM x e I (φ' Y<|e s) q):EM x e I (Nf τ φ φ' Y<|e s) q:=by
 cases b with
 |true=>exact⟨N3 h (y rfl).eq,(y rfl).ch⟩
 |false=>exact⟨MN h (z rfl).eq,(z rfl).ch⟩
theorem f7(h:EM x e I (φ Y L) q)(h2:∀d s',q=.ok d s'->I s'->ES x e I nl (χ (Y.set i<|J d)<|e s') (f d s')):ES x e I nl (bZ (qM nl i φ) χ Y L)<|q.bind f:=by
 cases q with
 |er s=>exact⟨lh<|Ky h.eq,h.ch⟩
 |ok d s'=>have g:=h2 d s' rfl h.ch;exact⟨iG h.eq g.eq,g.ch⟩
theorem zk(h:EM x e I (φ Y L) q)(h2:∀d s',q=.ok d s'->I s'->ES x e I nl (χ Y<|e s') (f d s')):ES x e I nl (bZ (sr nl φ) χ Y L)<|q.bind f:=by
 cases q with
 |er s=>exact⟨lh<|kJ h.eq,h.ch⟩
 |ok d s'=>have g:=h2 d s' rfl h.ch;exact⟨D3 h.eq g.eq,g.ch⟩
theorem eS(h:EM x e I (φ Y L) q):ES x e I nl (xz nl φ Y L) q:=by
 cases q with
 |er s=>exact⟨Cy h.eq,h.ch⟩
 |ok d s'=>exact⟨eG h.eq,h.ch⟩
theorem Ik(h:τ Y (e s)=.ok b (e s))(y:b=G->ES x e I nl (ψ Y<|e s) q1)(z:b=η->ES x e I nl (χ Y<|e s) q2):ES x e I nl (bZ (pf nl τ ψ qG) χ Y<|e s)<|if b=G then q1 else q2:=by
 cases b with
 |true=>
  have g:=y rfl;refine⟨?_,g.ch⟩;have e1:=g.eq;cases q1 with
  |ok d s'=>exact BS<|kR h e1
  |er s'=>exact lh<|kR h e1
 |false=>have g:=z rfl;exact⟨gG h g.eq,g.ch⟩
theorem zD(h:τ Y (e s)=.ok G (e s))(y:ES x e I nl (ψ Y<|e s) q):ES x e I nl (bZ (pf nl τ ψ qG) χ Y<|e s) q:=by
 have:=Ik (χ:=χ) (q2:=q) h (fun _=>y) fun z=>nomatch z
 trivial
theorem Ek(h:τ Y (e s)=.ok η (e s))(y:ES x e I nl (χ Y<|e s) q):ES x e I nl (bZ (pf nl τ ψ qG) χ Y<|e s) q:=⟨gG h y.eq,y.ch⟩
theorem Bi{q:Q Z D}(h:EM x e I (φ Y L)<|.er s):ES x e I nl (sr nl φ Y L)<|.er s:=⟨kJ h.eq,h.ch⟩
theorem pW(h:ES x e I nl (ψ (aZ n Y) L) q)(a:Y.length=k/\L.length=nl):EM x (fun s=>lst nl<|e s) I (bF nl ψ n k Y L) q:=by
 cases q with
 |er s=>exact⟨ga h.eq a,h.ch⟩
 |ok d s=>exact⟨cL h.eq a,h.ch⟩
end
end L2.Go
namespace T63
open PySem L2
noncomputable def bD(i:Nat):abN:=PySem.Challenge.pw_tablestore_k63_read.main.body.getD i<|.Pass ⟨0,0,0,0⟩
def tp(i:Nat):abN:=match i/1000 with
 |0=>bD i
 |j+1=>match bD (i%1000)with
  |.ClassDef _ _ _ b _ _ _ _ _ _ _=>b.getD j<|.Pass ⟨0,0,0,0⟩
  |s=>s
def nN(i:Nat):afr:=((ai<|tp i).names.filter fun q=>q.2==.local||q.2==.cell).map (·.1)
def rD(φ:FS)(p n:Nat):afy->R D:=gx φ (aaA n "")<|aaA p ""
def df(x:Str)(i p d:Nat):Df:=⟨x,[x],i,nN i,p,d,[],[],[],[],1000⟩
noncomputable def lx:List<|Str×D:=[("(",.int 0),("or",.int 1),("and",.int 2),("not",.int 3)]
noncomputable def fc:List<|Str×D:=[("not",.tup [.str "and",.str "or"]),("and first",.tup [.str "or"]),("and second",.tup [.str "and",.str "or"]),("or first",.tup []),("or second",.tup [.str "or"])]
noncomputable def cT:List<|Str×D:=[("FIGURES",.str "0123456789"),("MOST_SIGNS_values",.int 40),("MOST_FIGURES",.int 18),("NO_NAMES",.tup [.str "and",.str "by",.str "down",.str "from",.str "none",.str "not",.str "or",.str "order",.str "show",.str "take",.str "where"]),("MOST_LETTERS",.int 8),("SIGNS",.tup [.str "<>",.str "<=",.str ">=",.str "<",.str ">",.str "=",.str ",",.str ".",.str "(",.str ")"]),("MOST_SIGNS_asking",.int 900),("MOST_SOURCES",.int 3),("MOST_COLUMNS",.int 8),("MOST_TESTS",.int 20),("MOST_NESTED",.int 20),("TEST_SIGNS",.tup [.str "=",.str "<>",.str "<",.str "<=",.str ">",.str ">="])]
def gT:List<|Str×D:=[("read_source",.cls "read_source"),("read_order",.cls "read_order"),("read_column",.cls "read_column")]
def yT:List<|Str×D:=[("str",.ty "str"),("int",.ty "int"),("tuple",.ty "tuple"),("bool",.ty "bool")]
def ZR(m:Str)(f:Str->Str->Int->D):Fm:=S5 m 2<|QL f
def tB:Tb:=⟨[VB,RY "len" cr,RY "tuple" wf,yc .Add eZ,yc .Sub zI,yc .Mult qX,yc .FloorDiv lO,yc .Mod gk,yc .Pow Oh,gH .Eq jp iK,gH .NotEq xF iK,gH .Lt zF iK,gH .LtE Mp iK,gH .Gt Ed iK,gH .GtE C9 iK,gH .Is OU iK,gH .IsNot rX iK,gH .In rE iK,gH .NotIn mI iK,XG "BINDING" lx,XG "BRACKETS" fc,aam,Zs cR iK,X8 xo,SJ,LC,uo "Reader" "text",uo "Reader" "word",uo "Reader" "tests",uo "Reader" "nested",uo "Piles" "trees",uo "Piles" "waiting",fB "len" cr,fB "isinstance" LP,fB "abs" Tq,fB "all" Dd,fB "tuple" wf,fB "int" J8,fB "str" CO,fB "max" Vv,WW .USub QN,aaj,aai,S5 "join" 1 kF,S5 "startswith" 1<|Ly fun x y=>.bl<|abQ x y,S5 "endswith" 1<|Ly fun x y=>.bl<|adh x y,ZR "startswith" fun x y i=>.bl<|HV x y i,ZR "find" fun x y i=>.int<|Al x y i,Xz,Yh],[LC],[fQ<|gH .Eq jp iK,fQ<|gH .NotEq xF iK,fQ<|gH .Lt zF iK,fQ<|gH .LtE Mp iK,fQ<|gH .Gt Ed iK,fQ<|gH .GtE C9 iK,fQ<|gH .Is OU iK,fQ<|gH .IsNot rX iK,fQ<|gH .In rE iK,fQ<|gH .NotIn mI iK],[fI "range" 1 η p9,fI "zip" 2 G EU],[XZ,Z8 "append" jP,P4,NW],yT++(gT++cT),[],[],[],1000⟩
def tE:List Fm:=[fB "int" xK]
def aC:Ac:=⟨[],[],[],[],0,[]⟩
def Pr{α:Type}(_ _:Option α):Prop:=True
theorem U9{α:Type}{x:α}:Pr (J x)<|J x:=abt
abbrev gt(i:Option FS){x:FS}(_:Pr i<|J x):FS:=x
abbrev lQ(i:Option gi){x:gi}(_:Pr i<|J x):gi:=x
abbrev Fd:=afy->R D
def YF(_ _:Fd->Option FS):Prop:=True
theorem TQ{x:Fd->FS}:YF (fun F=>J<|x F) (fun F=>J<|x F):=abt
abbrev Zb(i:Fd->Option FS){x:Fd->FS}(_:YF i fun F=>J<|x F):Fd->FS:=x
def Y1(_ _:Fd->Fd->Option FS):Prop:=True
theorem UN{x:Fd->Fd->FS}:Y1 (fun F Gq0=>J<|x F Gq0) (fun F Gq0=>J<|x F Gq0):=abt
abbrev VX(i:Fd->Fd->Option FS){x:Fd->Fd->FS}(_:Y1 i fun F Gq0=>J<|x F Gq0):Fd->Fd->FS:=x
def ad(q:Df)(F:Fd)(A:List<|Nat×Fm)(n:Nat:=1):List<|Nat×Fm:=q.g.map (fun x=>(q.d+n,bX x F))++A
def uA(q:Dm)(F:FF)(A:Ac):Ac:=q.us.foldl (PY q F) A
def aX(q:Df)(F:Fd)(A:Ac):Ac:={A with x:=ad q F A.x}
def bo(A:Ac)(q:Df)(s:List Fm:=[]):Option FS:=dF tp (tbl tB tE A.x q s) q
def aau(A:Ac)(q:Df)(F:Fd):Option FS:=dF tp (tbl tB tE A.x q<|q.g.map fun x=>bX x F) q
def VR(A:Ac)(q r s:Df)(F Gq0:Fd):Option FS:=dF tp (tbl tB tE A.x s [bX q.x F,bX r.x Gq0]) s
def cU:Df:=df "no_word" 25 1 0
def kH:Df:=df "is_letter" 21 1 0
def pL:Df:=df "is_name" 20 1 1
def jQ:Df:={df "letters_at" 26 2 2 with w:=100000}
def oS:Df:=df "is_sign" 12 1 0
def mE:Df:=df "is_value" 11 1 1
def gS:Dm:={q:=df "read_text" 15 1 2,ql:="read_text",P:=[],us:=[.fn],t1:=G}
def fw:Dm:={q:={df "read_number" 16 1 0 with e:=[0]},ql:="read_number",P:=[],us:=[.fn]}
def gl:Dm:={q:=df "read_value" 14 1 3,ql:="read_value",P:=[],us:=[.fn]}
def jN:Dm:={q:=df "value_at" 27 4 4,ql:="value_at",P:=[],us:=[.pl]}
def iA:Df:={df "figures_end" 28 2 0 with w:=100000}
def mT:Df:={df "text_end" 29 2 0 with w:=100000}
def oW:Df:=df "sign_at" 30 2 1
def oY:Df:={df "word_at" 24 2 5 with w:=100000}
def iu:Df:=df "word_within" 39 2 6
def fv:Dm:={q:=df "__init__" 1038 2 7,ql:="Reader.__init__",P:=[0],us:=[.nw "Reader"]}
def nF:Dm:={q:=df "refuse" 40 1 0,ql:="refuse",P:=[0],us:=[.fn]}
def dz:Dm:={q:=df "stands" 3038 3 0,ql:="Reader.stands",P:=[0],us:=[.mt "Reader"]}
def fk:Dm:={q:=df "step" 2038 1 7,ql:="Reader.step",P:=[0],us:=[.mt "Reader"]}
def nI:Dm:={q:=df "passed" 44 3 8,ql:="passed",P:=[0],us:=[.fn]}
def wZ:Dm:={q:=df "need" 45 3 9,ql:="need",P:=[0],us:=[.fn]}
def gQ:Dm:={q:=df "read_kind" 46 2 8,ql:="read_kind",P:=[0],us:=[.fn]}
def fF:Dm:={q:=df "read_source" 48 1 9,ql:="read_source",P:=[0],us:=[.fn,.vl]}
def fD:Dm:={q:=df "read_column" 51 1 10,ql:="read_column",P:=[0],us:=[.fn,.vl]}
def gh:Dm:={q:=df "read_order" 50 1 11,ql:="read_order",P:=[0],us:=[.fn,.vl]}
def jS:Dm:={q:=df "read_row" 47 3 12,ql:="read_row",P:=[0],us:=[.fn],ow:=["things"]}
def fz:Dm:={q:=df "read_orders" 49 1 13,ql:="read_orders",P:=[0],us:=[.fn]}
def g8:Dm:={q:=df "read_take" 52 1 9,ql:="read_take",P:=[0],us:=[.fn]}
def d7:Dm:={q:=df "settle" 8006 2 0,ql:="Piles.settle",P:=[0],us:=[.mt "Piles"]}
def fG:Dm:={q:=df "whole" 7006 1 1,ql:="Piles.whole",P:=[0],us:=[.mt "Piles"]}
def b7:Dm:={q:=df "has_bracket" 6006 1 0,ql:="Piles.has_bracket",P:=[0],us:=[.mt "Piles"]}
def cG:Dm:={q:=df "add_joint" 4006 2 1,ql:="Piles.add_joint",P:=[0],us:=[.mt "Piles"]}
def gg:Dm:={q:=df "__init__" 1006 1 0,ql:="Piles.__init__",P:=[0],us:=[.nw "Piles"]}
def bK:Dm:={q:=df "close_bracket" 5006 1 1,ql:="Piles.close_bracket",P:=[0],us:=[.mt "Piles"]}
def cY:Dm:={q:=df "add_tree" 3006 2 0,ql:="Piles.add_tree",P:=[0],us:=[.mt "Piles"]}
def cX:Dm:={q:=df "add_word" 2006 2 0,ql:="Piles.add_word",P:=[0],us:=[.mt "Piles"]}
def d8:Dm:={q:=df "read_operand" 56 1 11,ql:="read_operand",P:=[0],us:=[.fn]}
def gX:Dm:={q:=df "read_test" 55 1 12,ql:="read_test",P:=[0],us:=[.fn]}
def ia:Dm:={q:=df "read_side" 54 2 13,ql:="read_side",P:=[0,1],us:=[.fn]}
def cV:Dm:={q:=df "read_condition" 53 1 14,ql:="read_condition",P:=[0],us:=[.fn]}
def du:Dm:={q:=df "read_question" 43 1 15,ql:="read_question",P:=[0],us:=[.fn,.mk "Reader"]}
def jx:Dm:={q:=df "fault_in" 42 1 16,ql:="fault_in",P:=[],us:=[.pl]}
def ik:Df:=df "source_text" 60 1 0
def lF:Df:=df "written" 13 1 0
def lg:Df:=df "side_text" 62 1 1
def jR:Df:=df "order_text" 61 1 2
def bn:Df:=df "condition_text" 63 1 2
def dW:Df:=df "inner_text" 64 2 2
def xr:Df:={df "shown" 59 1 202 with m:=["words"]}
def kP:Df:=df "_law_cell_at" 67 2 0
def oM:Df:=df "_law_mixed" 68 2 0
def pe:Df:=df "_law_whole" 66 1 0
def uj:Df:=df "_law_same" 73 2 1
def tI:Df:=df "_law_name" 69 1 0
def pp:Df:=df "_law_signs" 70 2 0
def pD:Df:=df "_law_value" 71 2 1
def ki:Df:=df "_law_side_by" 74 2 2
def iI:Df:={df "_law_condition" 75 3 3 with m:=["_law_pile"]}
def mH:Df:=df "_law_column" 80 1 1
def jz:Df:={df "_law_question" 81 1 4 with m:=["_law_sources","_law_orders"],k:=[(⟨409,17,409,126⟩,["_law_k","_law_script"])]}
def g9:Df:=df "_law_written" 72 1 0
def sx:Df:=df "_law_side" 77 1 1
def pV:Df:=df "_law_level" 76 1 0
def dJ:Df:=df "_law_within" 78 2 2
def jd:Df:=df "_law_plain" 79 1 2
def mV:Df:=df "_law_source" 82 1 0
def jy:Df:=df "_law_plain_of" 83 1 202
def mY:Df:=df "_law_spread" 84 2 0
def mD:Df:=df "_law_opened" 85 1 1
def wy:Dm:={q:=df "read" 41 1 16,ql:="read",P:=[],us:=[.fn]}
def nS:Dm:={q:=df "_law_read" 86 1 17,ql:="_law_read",P:=[],us:=[.pl]}
def vK:Df:=df "law" 87 1 203
local macro_rules | `(tactic| walk_at "kq") => `(tactic| ((conv => arg 1; whnf); dsimp only [cG, cY, cX, bK, b7, gg, d7, fG, fv, dz, fk, jx, nS, wZ, nI, wy, fD, cV, gQ, fw, d8, gh, fz, du, jS, ia, fF, g8, gX, gS, gl, nF, jN, g0, g1, g2, aL, aeY, aff, oP, adY, df, RO, aaS, abz, adZ, ↓reduceIte]; exact U9))
local macro_rules | `(tactic| walk_at "m") => `(tactic| ((conv => arg 1; whnf); dsimp only [g0, g1, g2, aL, aeY, aff, oP, adY, adZ, ↓reduceIte]; exact U9))
local macro_rules | `(tactic| walk_at "n") => `(tactic| ((conv => arg 1; ext F; whnf); dsimp only [g0, g1, g2, aL, aeY, aff, oP, adY, adZ, ↓reduceIte]; exact TQ))
local macro_rules | `(tactic| walk_at "n2") => `(tactic| ((conv => arg 1; ext F Gq0; whnf); dsimp only [g0, g1, g2, aL, aeY, aff, oP, adY, adZ, ↓reduceIte]; exact UN))
def pq:=gt (bo aC cU) (by walk_at "m")
def oV:=rD pq 1 1
def A1:=aX cU oV aC
def Uq0:Ug:=⟨[YI,aac,WX "Piles" "waiting",WX "Piles" "trees"],[Wm "Piles" "waiting",Wm "Piles" "trees"],[VY "Piles" "trees",VY "Piles" "waiting",VI "Reader" "tests",VI "Reader" "nested",VQ "BadValue",VQ "BadQuestion"],[(0,RK "Reader" "text"),(0,RK "Reader" "word"),(0,RK "Reader" "tests"),(0,RK "Reader" "nested"),(1,VF "BadValue" (JD ["BadValue"]) ⟨[],[("no_word",oV)]⟩),(0,VF "BadQuestion" (JD ["BadQuestion"]) ⟨[("Reader","word")],[]⟩)]⟩
def bm(A:Ac)(q:Dm):Option gi:=Ce tp (RO tB tE Uq0 A q) q
def qF:=gt (bo A1 kH) (by walk_at "m")
def fJ:=rD qF 1 1
def A2:=aX kH fJ A1
def uX:=gt (bo A2 pL) (by walk_at "m")
def uJ:=rD uX 1 1
def A3:=aX pL uJ A2
def jU:=gt (bo A3 jQ) (by walk_at "m")
def jK:=rD jU 2 4
def A4:=aX jQ jK A3
def uT:=gt (bo A4 oS) (by walk_at "m")
def pC:=rD uT 1 1
def A5:=aX oS pC A4
def tU:=gt (bo A5 mE) (by walk_at "m")
def AQ:=rD tU 1 1
def A6:=aX mE AQ A5
def qc:=lQ (bm A6 gS) (by walk_at "kq")
def qa:FF:=bF 0 qc 3 1
def A7:=uA gS qa A6
def mr:=lQ (bm A7 fw) (by walk_at "kq")
def l9:FF:=bF 0 mr 2 1
def A8:=uA fw l9 A7
def nH:=lQ (bm A8 gl) (by walk_at "kq")
def nz:FF:=bF 0 nH 1 1
def A9:=uA gl nz A8
def se:=lQ (bm A9 jN) (by walk_at "kq")
def mG:FF:=bF 0 se 4 4
def Zn:=uA jN mG A9
def lX:=gt (bo Zn iA) (by walk_at "m")
def lV:=rD lX 2 3
def Y9:=aX iA lV Zn
def t8:=gt (bo Y9 mT) (by walk_at "m")
def sE:=rD t8 2 3
def Zx:=aX mT sE Y9
def uR:=gt (bo Zx oW) (by walk_at "m")
def vh:=rD uR 2 3
def Z6:=aX oW vh Zx
def pI:=gt (bo Z6 oY) (by walk_at "m")
def lK:=rD pI 2 4
def ZL:=aX oY lK Z6
def mi:=gt (bo ZL iu) (by walk_at "m")
def dt:=rD mi 2 3
def YC:=aX iu dt ZL
def lZ:=lQ (bm YC fv) (by walk_at "kq")
def bE:FF:=bF 1 lZ 2 2
def aag:=uA fv bE YC
def zj:=lQ (bm aag nF) (by walk_at "kq")
def iX:FF:=bF 1 zj 2 1
def Zp:=uA nF iX aag
def jY:=lQ (bm Zp dz) (by walk_at "kq")
def bO:FF:=bF 1 jY 3 3
def YL:=uA dz bO Zp
def mn:=lQ (bm YL fk) (by walk_at "kq")
def fm:FF:=bF 1 mn 1 1
def aas:=uA fk fm YL
def zu:=lQ (bm aas nI) (by walk_at "kq")
def fR:FF:=bF 1 zu 3 3
def ZY:=uA nI fR aas
def F4:=lQ (bm ZY wZ) (by walk_at "kq")
def Ff:FF:=bF 1 F4 3 3
def YV:=uA wZ Ff ZY
def qE:=lQ (bm YV gQ) (by walk_at "kq")
def fO:FF:=bF 1 qE 3 2
def Zk:=uA gQ fO YV
def mj:=lQ (bm Zk fF) (by walk_at "kq")
def iz:FF:=bF 1 mj 3 1
def YJ:=uA fF iz Zk
def mq:=lQ (bm YJ fD) (by walk_at "kq")
def io:FF:=bF 1 mq 2 1
def ZH:=uA fD io YJ
def m9:=lQ (bm ZH gh) (by walk_at "kq")
def wA:FF:=bF 1 m9 2 1
def Yi:=uA gh wA ZH
def sI:=lQ (bm Yi jS) (by walk_at "kq")
def sF:FF:=bF 1 sI 4 3
def aat:=uA jS sF Yi
def lW:=lQ (bm aat fz) (by walk_at "kq")
def uy:FF:=bF 1 lW 1 1
def ZE:=uA fz uy aat
def qC:=lQ (bm ZE g8) (by walk_at "kq")
def qA:FF:=bF 1 qC 1 1
def Y5:=uA g8 qA ZE
def ln:=lQ (bm Y5 d7) (by walk_at "kq")
def kh:FF:=bF 1 ln 5 2
def YG:=uA d7 kh Y5
def me:=lQ (bm YG fG) (by walk_at "kq")
def uz:FF:=bF 1 me 1 1
def YE:=uA fG uz YG
def ge:=lQ (bm YE b7) (by walk_at "kq")
def dh:FF:=bF 1 ge 1 1
def YT:=uA b7 dh YE
def hV:=lQ (bm YT cG) (by walk_at "kq")
def dX:FF:=bF 1 hV 2 2
def ZN:=uA cG dX YT
def ou:=lQ (bm ZN gg) (by walk_at "kq")
def ni:FF:=bF 1 ou 1 1
def ZM:=uA gg ni ZN
def eR:=lQ (bm ZM bK) (by walk_at "kq")
def cB:FF:=bF 1 eR 1 1
def YH:=uA bK cB ZM
def jk:=lQ (bm YH cY) (by walk_at "kq")
def jc:FF:=bF 1 jk 2 2
def Zh:=uA cY jc YH
def iQ:=lQ (bm Zh cX) (by walk_at "kq")
def eX:FF:=bF 1 iQ 2 2
def Z7:=uA cX eX Zh
def li:=lQ (bm Z7 d8) (by walk_at "kq")
def cI:FF:=bF 1 li 1 1
def aaq:=uA d8 cI Z7
def qK:=lQ (bm aaq gX) (by walk_at "kq")
def qD:FF:=bF 1 qK 3 1
def ZX:=uA gX qD aaq
def qz:=lQ (bm ZX ia) (by walk_at "kq")
def gY:FF:=bF 2 qz 2 2
def YQ:=uA ia gY ZX
def jl:=lQ (bm YQ cV) (by walk_at "kq")
def iS:FF:=bF 1 jl 2 1
def Y3:=uA cV iS YQ
def j6:=lQ (bm Y3 du) (by walk_at "kq")
def bN:FF:=bF 1 j6 6 1
def YK:=uA du bN Y3
def sL:=lQ (bm YK jx) (by walk_at "kq")
def gL:FF:=bF 0 sL 2 1
def YA:=uA jx gL YK
def iC:=gt (bo YA ik) (by walk_at "m")
def mf:=rD iC 1 1
def X2:=aX ik mf YA
def pS:=gt (bo X2 lF [O3]) (by walk_at "m")
def uY:=rD pS 1 1
def Ze:Ac:={X2 with x:=(lF.d+1,bX lF.x uY)::X2.x}
def kl:=gt (bo Ze lg) (by walk_at "m")
def kb:=rD kl 1 1
def Zc:=aX lg kb Ze
def jT:=gt (bo Zc jR) (by walk_at "m")
def nT:=rD jT 1 1
def V1:=aX jR nT Zc
def ce:=VX (VR V1 bn dW bn) (by walk_at "n2")
def nK:=VX (VR V1 bn dW dW) (by walk_at "n2")
def aF:Nat->(afy->R D)×(afy->R D)
 |0=>(fun _=>.no,fun _=>.no)
 |n+1=>(rD (ce (aF n).1 (aF n).2) 1 3,rD (nK (aF n).1 (aF n).2) 2 3)
def iM:=(aF 200).1
def wW:=(aF 200).2
def Y4:Ac:={V1 with x:=(bn.d+200,bX bn.x iM)::(bn.d+200,bX dW.x wW)::V1.x}
def wX:=gt (bo Y4 xr) (by walk_at "m")
def Bb:=rD wX 1 2
def aal:=aX xr Bb Y4
def qi:=gt (bo aal kP) (by walk_at "m")
def gV:=rD qi 2 2
def Zq:=aX kP gV aal
def u3:=gt (bo Zq oM) (by walk_at "m")
def iZ:=rD u3 2 3
def Zu:=aX oM iZ Zq
def uL:=gt (bo Zu pe) (by walk_at "m")
def Di:=rD uL 1 1
def Yw:=aX pe Di Zu
def nO:=Zb (aau Yw uj) (by walk_at "n")
def cb:Nat->(afy->R D)
 |0=>fun _=>.no
 |n+1=>rD (nO<|cb n) 2 4
def yZ:=cb 100
def YM:Ac:={Yw with x:=ad uj yZ Yw.x 100}
def tS:=gt (bo YM tI) (by walk_at "m")
def zo:=rD tS 1 3
def ZI:=aX tI zo YM
def ph:=gt (bo ZI pp) (by walk_at "m")
def uK:=rD ph 2 5
def Zt:=aX pp uK ZI
def gm:=gt (bo Zt pD) (by walk_at "m")
def uU:=rD gm 2 2
def Zo:=aX pD uU Zt
def qI:=gt (bo Zo ki) (by walk_at "m")
def qH:=rD qI 2 2
def ZP:=aX ki qH Zo
def iB:=gt (bo ZP iI) (by walk_at "m")
def ij:=rD iB 3 9
def aab:=aX iI ij ZP
def sK:=gt (bo aab mH) (by walk_at "m")
def mR:=rD sK 1 1
def Y7:=aX mH mR aab
def d9:=gt (bo Y7 jz) (by walk_at "m")
def oa:=rD d9 1 9
def W6:=aX jz oa Y7
def kc:=gt (bo W6 g9 [O3]) (by walk_at "m")
def qJ:=rD kc 1 1
def ZS:Ac:={W6 with x:=(g9.d+1,bX g9.x qJ)::W6.x}
def yt:=gt (bo ZS sx) (by walk_at "m")
def oj:=rD yt 1 1
def YS:=aX sx oj ZS
def vF:=gt (bo YS pV) (by walk_at "m")
def uW:=rD vF 1 1
def VZ:=aX pV uW YS
def sd:=VX (VR VZ dJ jd dJ) (by walk_at "n2")
def iO:=VX (VR VZ dJ jd jd) (by walk_at "n2")
def bt:Nat->(afy->R D)×(afy->R D)
 |0=>(fun _=>.no,fun _=>.no)
 |n+1=>(rD (sd (bt n).1 (bt n).2) 2 2,rD (iO (bt n).1 (bt n).2) 1 2)
def zY:=(bt 200).1
def vd:=(bt 200).2
def Zg:Ac:={VZ with x:=(dJ.d+200,bX dJ.x zY)::(dJ.d+200,bX jd.x vd)::VZ.x}
def mS:=gt (bo Zg mV) (by walk_at "m")
def rQ:=rD mS 1 1
def Y8:=aX mV rQ Zg
def jF:=gt (bo Y8 jy) (by walk_at "m")
def jI:=rD jF 1 2
def Zm:=aX jy jI Y8
def mO:=gt (bo Zm mY) (by walk_at "m")
def mP:=rD mO 2 7
def Ye:=aX mY mP Zm
def e8:=Zb (aau Ye mD) (by walk_at "n")
def gF:Nat->(afy->R D)
 |0=>fun _=>.no
 |n+1=>rD (e8<|gF n) 1 3
def ud:=gF 100
def ZJ:Ac:={Ye with x:=ad mD ud Ye.x 100}
def Fa:=lQ (bm ZJ wy) (by walk_at "kq")
def wm:FF:=bF 0 Fa 1 1
def aaw:=uA wy wm ZJ
def xP:=lQ (bm aaw nS) (by walk_at "kq")
def kx:FF:=bF 0 xP 1 1
def A69:=uA nS kx aaw
def yq:=gt (bo A69 vK) (by walk_at "m")
def Cj:=rD yq 1 6
def Gq0:List Mz:=
 .pl cU (.pl pq)::
 .pl kH (.pl qF)::
 .pl pL (.pl uX)::
 .pl jQ (.pl jU)::
 .pl oS (.pl uT)::
 .pl mE (.pl tU)::
 .ow gS qc::
 .ow fw mr::
 .ow gl nH::
 .ow jN se::
 .pl iA (.pl lX)::
 .pl mT (.pl t8)::
 .pl oW (.pl uR)::
 .pl oY (.pl pI)::
 .pl iu (.pl mi)::
 .ow fv lZ::
 .ow nF zj::
 .ow dz jY::
 .ow fk mn::
 .ow nI zu::
 .ow wZ F4::
 .ow gQ qE::
 .ow fF mj::
 .ow fD mq::
 .ow gh m9::
 .ow jS sI::
 .ow fz lW::
 .ow g8 qC::
 .ow d7 ln::
 .ow fG me::
 .ow b7 ge::
 .ow cG hV::
 .ow gg ou::
 .ow bK eR::
 .ow cY jk::
 .ow cX iQ::
 .ow d8 li::
 .ow gX qK::
 .ow ia qz::
 .ow cV jl::
 .ow du j6::
 .ow jx sL::
 .pl ik (.pl iC)::
 .p1 lF pS::
 .pl lg (.pl kl)::
 .pl jR (.pl jT)::
 .mu bn dW ce nK aF 200::
 .pl xr (.pl wX)::
 .pl kP (.pl qi)::
 .pl oM (.pl u3)::
 .pl pe (.pl uL)::
 .pl uj (.rc nO cb 100)::
 .pl tI (.pl tS)::
 .pl pp (.pl ph)::
 .pl pD (.pl gm)::
 .pl ki (.pl qI)::
 .pl iI (.pl iB)::
 .pl mH (.pl sK)::
 .pl jz (.pl d9)::
 .p1 g9 kc::
 .pl sx (.pl yt)::
 .pl pV (.pl vF)::
 .mu dJ jd sd iO bt 200::
 .pl mV (.pl mS)::
 .pl jy (.pl jF)::
 .pl mY (.pl mO)::
 .pl mD (.rc e8 gF 100)::
 .ow wy Fa::
 .ow nS xP::
 .pl vK (.pl yq)::[]
noncomputable def zT:afr:=["isinstance","str","all","len","bool","int","abs","range","tuple","zip","max"]
structure DcOk(w:abh)(K:aT)(mg:afu)(x:Str)(tab:List (Str×D)):Prop where
 ex:∃a es n,mg x=J (.ref a)/\K.lookup a=J ⟨.type "dict",U,.dict es n,#[]⟩/\adx w.params es.toList/\∀y d,tab.lookup y=J d->∃v u,DO K a y=J (J u)/\aP v u/\∀H,bQ K H d v
def UY(K:aT)(n:Str)(fs:afr):Prop:=∃C,DO K By n=J (J<|.ref C)/\Cls K C/\∀f∈fs,a9 K C f
def Qq(K:aT)(mg:afu)(n:Str):Prop:=∃C,mg n=J (.ref C)/\acF K C Gj "ValueError.__new__"=G/\LL K mg (JD [n]) C
structure Txt(w:abh)(K:aT)(mg:afu):Prop where
 co:∀q∈cT,UO K mg q
 z:∀x∈zT,mg x=U
 d1:DcOk w K mg "BINDING" lx
 d2:DcOk w K mg "BRACKETS" fc
 rd:UY K "Reader" ["text","word","tests","nested"]
 pi:UY K "Piles" ["trees","waiting"]
 bv:Qq K mg "BadValue"
 bq:Qq K mg "BadQuestion"
 gs:∀q∈gT,∃C,mg q.1=J (.ref C)/\DO K By q.1=J (J<|.ref C)/\q.2=.cls q.1
 nw:∃f fd,DfOk tp K mg cU f fd
section
variable{P:abf}{w:abh}{K:aT}{mg:afu}{base:acn}(T:Txt w K mg)
include T
omit T in
theorem bG{α:Type}{p:α->Prop}{a:α}{l:List α}(h:p a)(r:∀x∈l,p x):∀x∈a::l,p x:=List.forall_mem_cons.mpr ⟨h,r⟩
omit T in
theorem dbg:∀q∈cT,(q.1==("__debug__":Str))=η:=⊤
omit T in
theorem Yv:∀q∈gT,(q.1==("__debug__":Str))=η:=⊤
theorem Yu{c:Cx}{k:Nat}(y:FY c P w K mg base k):TbOk c ⟨K,mg,E0⟩ tB/\∀f∈tE,dr c ⟨K,mg,E0⟩ f:=by
 obtain⟨e1,e2,e3,e4,e5,hr,cm⟩:=y;subst e1 e2 e3 e4 e5;have y:FY c c.prog c.w c.K c.mg c.base k:=⟨rfl,rfl,rfl,rfl,rfl,hr,cm⟩;have hy:∀q∈yT,yy c ⟨c.K,c.mg,E0⟩ q.1 q.2:=(bG (cy (T.z _<|∎) Hw)<|bG (cy (T.z _<|∎) zP)<|bG (cy (T.z _<|∎) sU)<|bG (cy (T.z _<|∎)<|⊤) (fun _ h=>nomatch h))
 have E:∀q∈gT,yy c ⟨c.K,c.mg,E0⟩ q.1 q.2:=fun q h=>by
  obtain⟨C,z1,z2,z3⟩:=T.gs q h;rw[z3];exact fun O p E=>T3 z1 z2 E<|Yv q h
 obtain⟨a1,es1,n1,c1,l1,h1,v1⟩:=T.d1;obtain⟨a2,es2,n2,c2,l2,h2,v2⟩:=T.d2;obtain⟨CR,r1,r2,r3⟩:=T.rd;obtain⟨CP,p1,p2,p3⟩:=T.pi;have fl:∀f∈(["text","word","tests","nested"]:afr),dr c ⟨c.K,c.mg,E0⟩<|uo "Reader" f:=fun f N=>Co r1 r2 (r3 f N) rfl;have X:∀f∈(["trees","waiting"]:afr),dr c ⟨c.K,c.mg,E0⟩<|uo "Piles" f:=fun f N=>Co p1 p2 (p3 f N) rfl;exact⟨⟨(bG (LD rfl) (bG (Jc (T.z _<|∎) rfl) (bG (Fe (T.z _<|∎) rfl) (bG (lr Xr (by
   intro as H x y a b Q j d A h;unfold eZ at h;cbv
   .cases d;cases A;exact ax h rfl
   .cases d;cases A;cbv
    .rename_i hl;exact⟨RW hl ck,ax h rfl⟩
    .mleft
   .mleft)) (bG (lr (Yl) ((by
   intro as H x y a b Q j d A h;unfold zI at h;cbv
   .cases d;cases A;exact ax h rfl
   .mleft))) (bG (lr (((Q0.or AN).imp fun x y H Q q=>by
   unfold MF at q;split at q
   .exact .inl ⟨_,_,rfl,rfl,q.1,q.2⟩
   .mright
   .exact q.elim)) (Wo)) (bG (lr (WH) ((by
   intro as H x y a b Q j d A h;unfold lO at h;cbv
   .cases d;cases A;cbv
    .rename_i hl;exact⟨hl,ax h rfl⟩
    .mleft
   .mleft))) (bG (lr (Wp) ((by
   intro as H x y a b Q j d A h;unfold gk at h;cbv
   .cases d;cases A;cbv
    .rename_i hl;exact⟨hl,ax h rfl⟩
    .mleft
   .mleft))) (bG (lr (Xa) ((by
   intro as H x y a b Q j d A h;unfold Oh at h;cbv
   .cases d;cases A;cbv
    .rename_i hl;exact⟨hl,ax h rfl⟩
    .mleft
   .mleft))) (bG ((bz (UJ _ y.hr.units) (aaa _)).1) (bG ((bz (TR _ y.hr.units) (Z0 _)).1) (bG ((bz ZV Z5).1) (bG ((bz Zd ZC).1) (bG ((bz YY ZG).1) (bG ((bz Y0 YO).1) (bG ((bz Zi YX).1) (bG ((bz Gu Fj).1) (bG ((bz (TC _) (Zj _)).1) (bG ((bz (Ca _) (Ht _)).1) (bG (Ir c1 l1 h1 v1) (bG (Ir c2 l2 h2 v2) (bG (Oa (Nat.lt_of_le_of_lt (Nat.add_le_add_left ∎ _) y.hr.units)) (bG ((fun hr hd=>P6 fun O a b pos φ ψ hs h1 h2=>Tj hr hd h1 h2 (ym hs)) (WL _) (YZ _)) (bG (QZ QD (by
   intro as H x lo hi a Q j d h;unfold xo at h;cbv
   .cases d;cbv
    .rename_i hl;exact⟨_,rfl,RW hl ck,ax h rfl⟩
    .mleft
   .mleft)) (bG ((fun O e es b M h B=>by
   unfold SJ at h;cbv
   .cbv
    .rename_i hq;nofun;exact NQ<|xS B hq
    .nofun
   .nofun)) (bG (Bq.m) (bG (fl _ ∎) (bG (fl _ ∎) (bG (fl _ ∎) (bG (fl _ ∎) (bG (X _ ∎) (bG (X _ ∎) (bG (sW (U1 _) (Yr _) (T.z _ ∎) EH) (bG (sW (Vr _) (Xf _) (T.z _ ∎) ⊤) (bG (sW Wi (by
   intro as H xs ds Q j l h;unfold Tq at h;cbv
   .obtain⟨v,rfl,d1⟩:=gy l;cases d1;exact ax h rfl
   .mleft) (T.z _ ∎) ⊤) (bG (sW (EB _ y.cm.1) (WF _) (T.z _ ∎) ⊤) (bG (wH (HC _) (WK _) (T.z _ ∎) sU) (bG (wH Yk (by
   intro as H xs ds Q j l h;unfold J8 at h;cbv
   .obtain⟨v,rfl,d1⟩:=gy l;cases d1;exact ax h rfl
   .obtain⟨v,rfl,d1⟩:=gy l;cases d1;exact ax h rfl
   .mleft) (T.z _ ∎) zP) (bG (wH TK (by
   intro as H xs ds Q j l h;unfold CO at h;cbv
   .obtain⟨v,rfl,d1⟩:=gy l;cases d1;cbv
    .rename_i hl;exact⟨hl,ax h rfl⟩
    .mleft
   .mleft) (T.z _ ∎) Hw) (bG (sW (WB y.cm.1) (by
   intro as H xs ds Q j l h;unfold Vv at h;cbv
   .obtain⟨v,u,rfl,d1,d2⟩:=BB l;cases d1;cases d2;exact ax h rfl
   .mleft) (T.z _ ∎) ⊤) (bG (QU Wk (by
   intro as H x a Q d h;unfold QN at h;cbv
   .cases d;exact ax h rfl
   .mleft)) (bG ((fun O e es b M h B=>by
   unfold aaj at h;cbv
   .nofun;obtain⟨φ,rfl,h1⟩:=yN B;exact Sm h1
   .nofun;obtain⟨φ,rfl,h1⟩:=yN B;exact Uo h1
   .nofun;obtain⟨φ,ψ,rfl,h1,h2⟩:=Kp B;exact Uf h1 h2
   .nofun;obtain⟨φ,ψ,rfl,h1,h2⟩:=Kp B;exact WC h1 h2
   .nofun)) (bG (Pm rfl) (bG (uc aea aeb (Bf _) (Vj _)) (bG (uc acB ady ut (by
   intro as H z xs ds Q j l h;unfold Ly at h;cbv
   .obtain⟨v,rfl,d1⟩:=gy l;cases d1;exact ax h rfl
   .mleft)) (bG (uc PySem.F.slot_str_endswith PySem.F.type_str_endswith yS (by
   intro as H z xs ds Q j l h;unfold Ly at h;cbv
   .obtain⟨v,rfl,d1⟩:=gy l;cases d1;exact ax h rfl
   .mleft)) (bG (uc acB ady (by
   intro aa s Z H z t xs us Q I r h;unfold Ww at h;cbv
   .obtain⟨u,w,rfl,⟨S,rfl⟩,⟨R,rfl⟩⟩:=ya r;exact call_gives acB (typeIs_str _ _ _) PySem.F.entry_str_startswith (PySem.F.args_str_startswith_3 _ _ _) (gives_str_startswith_from z _ _ t S R) ⟨.bl _,H,I,rfl,h⟩
   .mleft) (YW fun _ _ _ _ _=>rfl)) (bG (uc aee PySem.F.type_str_find (by
   intro aa s Z H z t xs us Q I r h;unfold Ww at h;cbv
   .obtain⟨u,w,rfl,⟨S,rfl⟩,⟨R,rfl⟩⟩:=ya r;exact call_gives aee (typeIs_str _ _ _) PySem.F.entry_str_find (PySem.F.args_str_find_3 _ _ _) (gives_str_find_from z _ _ t S R) ⟨.int _,H,I.tok _,⟨_,rfl⟩,h⟩
   .mleft) (YW fun _ _ _ _ _=>rfl)) (bG (fun O e es b M h B=>by
   mstop
   obtain⟨⟨o,m,r⟩,h1,h⟩:=h;obtain⟨apos,cpos,rfl,h2⟩:=kr h1;cbv
   .rename_i hq;obtain⟨rfl,rfl,D⟩:=hq;nofun;obtain⟨φ,rfl,V⟩:=yN B;exact T2 V (zq D _ _) h2
   .nofun) (bG Oi (fun _ h=>nomatch h))))))))))))))))))))))))))))))))))))))))))))))))))),
  (bG (Bq) (fun _ h=>nomatch h)),(bG ((bz (UJ _ y.hr.units)<|aaa _).2)<|bG ((bz (TR _ y.hr.units)<|Z0 _).2)<|bG ((bz ZV Z5).2)<|bG ((bz Zd ZC).2)<|bG ((bz YY ZG).2)<|bG ((bz Y0 YO).2)<|bG ((bz Zi YX).2)<|bG ((bz Gu Fj).2)<|bG ((bz (TC _)<|Zj _).2)<|bG ((bz (Ca _)<|Ht _).2) (fun _ h=>nomatch h)),
  (bG ((fun hm=>Ng fun O g es p pos α j E hs _ ha=>by
    match es,j with
    |[a],_=>exact DF hm ha E (by simpa using hs)) (T.z _ ∎)) (bG (Fk (T.z _ ∎) rfl) (fun _ h=>nomatch h))),(bG (PV rfl) (bG ((Ox fun Ob O i x e p1 apos cpos pos φ h1 h2 D h4 V h6 h7 h8=>Da h2 h8 h1 h6 h7 D h4 V rfl rfl rfl)) (bG (J4) (bG (E8) (fun _ h=>nomatch h))))),fun q h=>(BY.mp h).elim (hy q) (fun h=>(BY.mp h).elim (E q) fun h=>let⟨v,u,h1,h2,D,_⟩:=T.co q h;cg h1 h2 D (dbg q h))⟩,(bG (wH (by
    intro aa s Z H xs us Q I r h;unfold MY at h;cbv
    .obtain⟨u,rfl,t,rfl⟩:=jV r;obtain⟨n,h1,h2,D⟩:=h;exact PySem.W.KIN.call_text h1 h2 ⟨.int _,H,I.tok _,⟨_,rfl⟩,D⟩
    .mleft) Uh (T.z _ ∎) zP) (fun _ h=>nomatch h))⟩
theorem hU:UgOk P w K mg base Uq0:=by
 obtain⟨CR,r1,r2,r3⟩:=T.rd;obtain⟨j,p1,p2,p3⟩:=T.pi;obtain⟨k,c,g,d⟩:=T.bv;obtain⟨l,q1,q2,i⟩:=T.bq;obtain⟨f,fd,N⟩:=T.nw;refine⟨bG Pu<|bG Os<|bG (EW p1 p2<|p3 _<|∎)<|bG (EW p1 p2<|p3 _<|∎) (fun _ h=>nomatch h),bG (El p1 p2<|p3 _<|∎)<|bG (El p1 p2<|p3 _<|∎) (fun _ h=>nomatch h),
  bG (Gd p1 p2<|p3 _<|∎) (bG (Gd p1 p2<|p3 _<|∎)<|bG (Ev r1 r2<|r3 _<|∎)<|bG (Ev r1 r2<|r3 _<|∎)<|bG (IE c g)<|bG (IE q1 q2) (fun _ h=>nomatch h)),
  bG (vR r1 r2 (r3 _ ∎)) (bG (vR r1 r2 (r3 _ ∎)) (bG (vR r1 r2 (r3 _ ∎)) (bG (vR r1 r2 (r3 _ ∎)) (bG (Ex c d ⟨fun _ h=>absurd h aaz,fun q a=>?_⟩) (bG (Ex q1 i ⟨fun q a=>?_,fun _ h=>absurd h aaz⟩) (fun _ h=>nomatch h))))))⟩
 .rw[IF.mp a];have e:gx (pX<|uD<|ak (vC<|.str "bad")<|ak (vC .non)<|ak (ag 0)<|ak (ag 0) aQ) cU.N cU.ps=oV:=by kernel_rfl
  exact⟨_,_,f,fd,⟨N.F,N.b,N.m _<|∎⟩,e▸Jp (N:=cU.N) N.F (pG<|by kernel_rfl) (by kernel_rfl)⟩
 .rw[IF.mp a];exact⟨CR,r1,r2,r3 _<|∎⟩
end
open PySem L2 L2.Go
structure Tok where
 k:Str
 v:D
 a:Nat
 b:Nat
noncomputable def Tok.d(w:Tok):D:=.tup [.str w.k,w.v,.int w.a,.int w.b]
def rd(z:Str)(w:Tok)(t n:Nat):D:=.obj "Reader" [("text",.str z),("word",w.d),("tests",.int t),("nested",.int n)]
noncomputable def sv(v:D)(x:Str):Bool:=match v with
 |.str y=>decide (y=x)
 |_=>η
def Dl(v:D):Prop:=v=.non\/(∃i,v=.int i)\/∃x,v=.str x
theorem Dl.noL(h:Dl v):noL v=G:=by rcases h with rfl|⟨i,rfl⟩|⟨y,rfl⟩<;>rfl
theorem WZ(h:Dl v)(x:Str):jp v (.str x)=.ok (.bl<|sv v x):=by
 rcases h with rfl|⟨i,rfl⟩|⟨y,rfl⟩
 .exact Sw
 .exact Sa
 .exact jg
def Tok.is(w:Tok)(k x:Str):Bool:=decide (w.k=k)&&sv w.v x
theorem mC(z:Str)(w:Tok)(t n:Nat):Fb "Reader" "word" (rd z w t n)=.ok w.d:=rfl
theorem ig(h:φ Y=.ok d)(a:Fb c f d=r):iw c f φ Y=r:=by delta iw;rw[h];exact a
theorem Mx(h:Dl w.v)(a:w.is k x=b):bO [U,J<|.str k,J<|.str x] [rd z w t n]=.ok (.bl b) [rd z w t n]:=a▸( cL<|eG<|aN<|wY (jg)<|(WZ h x))
def Nx(z:Str)(w a:Tok):Prop:=dt [.str z,.int w.b]=.ok a.d
theorem step(a:Dl w'.v)(h:Nx z w w'):fm [U] [rd z w t n]=.ok .non [rd z w' t n]:=
 jC (ED (aN (h) (by show(noL w'.v&&G)=G;rw[a.noL];rfl)) rfl)
inductive Ch(z:Str):List Tok->Prop
 |last (w:Tok) (h:w.k="end"\/w.k="bad") (v:Dl w.v) (l:w.a<10^20):Ch z [w]
 |more (w w':Tok) (r:List Tok) (v:Dl w.v) (l:w.a<10^20) (n:Nx z w w') (c:Ch z<|w'::r):Ch z (w::w'::r)
structure Sx where
 ts:List Tok
 t:Nat
 n:Nat
noncomputable def Sx.hd(s:Sx):Tok:=match s.ts with
 |w::_=>w
 |[]=>⟨"end",.non,0,0⟩
def Sx.tl(s:Sx):Sx:={s with ts:=s.ts.tail}
def rs(z:Str)(s:Sx):D:=rd z s.hd s.t s.n
theorem Ch.v(c:Ch z s.ts):Dl (Sx.hd s).v:=by
 delta Sx.hd;cases h:s.ts with
 |nil=>rw[h]at c;cases c
 |cons w r=>rw[h]at c;cases c<;>assumption
theorem Ch.l(c:Ch z s.ts):(Sx.hd s).a<10^20:=by
 delta Sx.hd;cases h:s.ts with
 |nil=>simp
 |cons w r=>rw[h]at c;cases c<;>assumption
def qp(k:Str):Prop:=k≠"end"/\k≠"bad"
theorem Ch.tl{s:Sx}(c:Ch z s.ts)(h:qp s.hd.k):Ch z s.tl.ts/\Nx z s.hd s.tl.hd:=by
 obtain⟨ts,t,n⟩:=s;cases c with
 |last w a v l=>exact(a.elim (fun e=>h.1 e) fun e=>h.2 e).elim
 |more w d r v l b c=>exact⟨c,b⟩
theorem eU{w:Tok}(h:w.is k x=G):w.k=k:=by
 delta Tok.is at h
 lia
theorem lL(a:Dl w.v)(h:w.is k x=η):fR [U,J<|.str k,J<|.str x] [rd z w t n]=.ok (.bl η) [rd z w t n]:=
 cL (BS<|kR (Hd<|bw<|cx rfl rfl (kC<|Mx a h)) rfl)
theorem ju(b:Dl w.v)(h:w.is k x=G)(hw:Dl w'.v)(a:Nx z w w'):fR [U,J<|.str k,J<|.str x] [rd z w t n]=.ok (.bl G) [rd z w' t n]:=
 cL (gG (FJ<|bw<|cx rfl (bg (aN rfl)<|bg (aN rfl) rfl) (kC<|Mx b h))<|D3 (cx rfl rfl (kC<|step hw a)) rfl)
def kO(k x:Str)(s:Sx):Bool×Sx:=if s.hd.is k x=G then(G,s.tl)else(η,s)
theorem zH(c:Ch z s.ts)(b:qp k):fR [U,J<|.str k,J<|.str x] [rs z s]=.ok (.bl (kO k x s).1) [rs z (kO k x s).2]/\Ch z (kO k x s).2.ts:=by
 delta kO;by_cases h:s.hd.is k x=G
 .rw[h];obtain⟨a,d⟩:=c.tl<|eU h▸b;exact⟨ju c.v h a.v d,a⟩
 .rw[afl h];exact⟨lL c.v<|aaM.mpr h,c⟩
theorem OS{a:Nat}(h:a<10^20):(lE<|toString (a:Int)).length<=1000:=by
 have e:=str_int a;have l:(cu a).length<=21:=by
  have:=zN 19 a h
  delta cu;split<;>mright<;>lia
 have:(lE<|toString (a:Int)).cps.toList.length=(lE<|toString (a:Int)).length:=by rfl
 rw[<-this,e];lia
theorem Rl(h:φ Y=.ok (.int i))(h1:i.natAbs<10^30)(h2:(lE<|toString i).length<=1000):VJ c φ Y=.ok (.str<|c++lE (toString i)):=by
 delta VJ;rw[h];exact afk ⟨h1,h2⟩
theorem sP(c:Ch z s.ts):iX [U] [rs z s]=.er "BadQuestion" [rs z s]:=
 ga ((O0<|bg (aN<|Rl rfl (Rw (by simpa using c.l)<|∅) (OS c.l)) rfl))
abbrev RE(z:Str):=EM "BadQuestion" (fun s:Sx=>[rs z s]) fun s=>Ch z s.ts
noncomputable def lft{Z τ α:Type}(up:Z->τ):Q Z α->Q τ α
 |.ok a s=>.ok a<|up s
 |.er s=>.er<|up s
theorem KZ{e:Z->afy}{I:Z->Prop}{s:Z}{α:qg}(up:Sx->Z)(c:α Y (e s)=.ok l (e s))(b:RE z (F (uB l) [((e s)[k]?).getD .non]) q)(g:∀s',putAt [k] [rs z s'] (e s)=e (up s'))(f:∀s',Ch z s'.ts->I (up s'))(a:autoParam (j4 l=[k]) Xaz)(h:autoParam (zw 0 l=[0]) Xaz):EM "BadQuestion" e I (dm [0] F α Y<|e s)<|lft up q:=by
 have hd:decide ((j4 l).Nodup/\zw 0 l=[0])=G:=afn ⟨by rw[a];simp,h⟩;have e1:=b.eq;cases q with
 |ok d s'=>
  refine⟨aM c<|(kC (by rw[a];exact e1) hd).trans ?_,f s' b.ch⟩;rw[a,g];rfl
 |er s'=>
  refine⟨aM c<|(AW (by rw[a];exact e1) hd).trans ?_,f s' b.ch⟩;rw[a,g];rfl
theorem rc{α:qg}(c:α Y [rs z s]=.ok l [rs z s])(a:RE z (F (uB l) [rs z s]) q)(b:autoParam (j4 l=[0]) Xaz)(d:autoParam (zw 0 l=[0]) Xaz):RE z (dm [0] F α Y [rs z s]) q:=
 MG (KZ (fun s=>s) c a (fun _=>rfl) (fun _ h=>h) b d) ((by cases q<;>rfl))
theorem WU(c:Ch z s.ts)(a:qp k):RE z (fR [U,J<|.str k,J<|.str x] [rs z s])<|.ok (.bl (kO k x s).1) (kO k x s).2:=⟨(zH c a).1,(zH c a).2⟩
theorem Jz(c:Ch z s.ts):RE z (iX [U] [rs z s])<|.er s:=⟨sP c,c⟩
def dq(k x:Str)(s:Sx):Q Sx D:=if s.hd.is k x=G then .ok .non s.tl else .er s
theorem sq(c:Ch z s.ts)(b:qp k):RE z (Ff [U,J<|.str k,J<|.str x] [rs z s])<|dq k x s:=by
 obtain⟨p1,p2⟩:=zH c b;have a:mw 0 (aK (ji [0]<|ag 1)<|aK (ji [0]<|ag 2) bj) ([U,J<|.str k,J<|.str x]) [rs z s]=.ok [.ob 0,.pl<|.str k,.pl<|.str x] [rs z s]:=rfl;delta kO at p1 p2;delta dq;by_cases h:s.hd.is k x=G
 .rw[h]at p1 p2⊢;exact⟨jC<|F2 (FJ<|bw<|aM a<|kC p1) rfl,p2⟩
 .rw[afl h]at p1 p2⊢;exact⟨ga<|kR (Hd<|bw<|aM a<|kC p1)<|kJ<|aM rfl (AW<|sP c),c⟩
def b8(k:Str)(s:Sx):Q Sx D:=if s.hd.k=k then .ok s.hd.v s.tl else .er s
theorem og(c:Ch z s.ts)(e:qp k):RE z (fO [U,J<|.str k] [rs z s])<|b8 k s:=by
 have a:∀b,(!decide (s.hd.k=k))=b->dC (aH xF (aH cR (iw "Reader" "word"<|ag 0)<|vC<|.int 0)<|ag 1) (fill [0] [rs z s]<|aZ 3 [U,J<|.str k])=.ok b:=fun b h=>h▸ao (ae (ae (ig rfl (mC z s.hd s.t s.n)) rfl rfl) rfl vE);delta b8;by_cases h:s.hd.k=k
 .rw[afk h];obtain⟨d,f⟩:=c.tl<|h▸e;exact⟨cL (ψ:=bZ _ _)<|gG (aR<|a η<|by simp[h])<|iG (aN rfl c.v.noL)<|D3 (cx rfl rfl (kC<|step d.v f))<|eG<|aN rfl c.v.noL,d⟩
 .rw[afl h];exact⟨ga<|lh<|kR (aR<|a G<|by simp[h])<|kJ<|aM rfl (AW<|sP c),c⟩
theorem wk(q:Q Z α)(f:α->Z->Q Z β)(g:β->Z->Q Z γ):(q.bind f).bind g=q.bind fun a s=>(f a s).bind g:=by cases q<;>rfl
theorem mF:qp "name":=by unfold qp;decide +kernel
theorem gv:qp "sign":=by unfold qp;decide +kernel
theorem fP:qp "key":=by unfold qp;decide +kernel
theorem oH:qp "number":=by unfold qp;decide +kernel
theorem Gx:qp "text":=by unfold qp;decide +kernel
theorem lj(c:Ch z s.ts)(h:b8 k s=.ok d s'):Dl d:=by
 delta b8 at h;cbv
 .nofun;exact c.v
 .nofun
abbrev RZ(z:Str):=ES "BadQuestion" (fun s:Sx=>[rs z s]) (fun s=>Ch z s.ts) 1
theorem C1(h:RZ z (ψ (aZ n Y) [rs z s]) q)(a:autoParam (Y.length=k) Xaz):RE z (bF 1 ψ n k Y [rs z s]) q:=pW h ⟨a,rfl⟩
def ng(s:Sx):Q Sx D:=(b8 "name" s).bind fun a s=>(dq "sign" "." s).bind fun _ s=>(b8 "name" s).bind fun b s=>.ok (.tup [.str "column",a,b]) s
theorem zb{e:Z->afy}{I:Z->Prop}{q q':Q Z D}(h:ES x e I nl a q)(b:q=q'):ES x e I nl a q':=b▸h
theorem Rh(c:Ch z s.ts):RE z (io [U] [rs z s])<|ng s:=
 pW (f7 (rc rfl (og c mF)) fun a g f c1=>zk (rc rfl (sq c1 gv)) fun _ d _ c2=>zb (eS (wD (mU rfl rfl (mU rfl (lj c f).noL (ri<|rc rfl (og c2 mF)))) (by
  intro ds i h;cases hk:b8 "name" d with
  |ok b e=>rw[hk]at h;nofun;exact ab4 rfl
  |er e=>rw[hk]at h;nofun))) (by cases b8 "name" d<;>rfl)) ⟨rfl,rfl⟩
def uC(s:Sx):Q Sx D:=(b8 "name" s).bind fun t s=>if s.hd.k="name"then(b8 "name" s).bind fun a s=>.ok (.tup [t,a]) s else .ok (.tup [t,t]) s
theorem OM(k:Str)(h:φ Y=.ok (rs z s))(a:decide (s.hd.k=k)=b):dC (aH jp (aH cR (iw "Reader" "word" φ)<|vC<|.int 0)<|vC<|.str k) Y=.ok b:=a▸ao (ae (ae (ig h rfl) rfl rfl) rfl jg)
theorem Wc(c:Ch z s.ts):RE z (iz [U] [rs z s])<|uC s:=
 pW (f7 (rc rfl (og c mF)) fun a g i c1=>by
  have d:=(lj c i).noL;by_cases h:g.hd.k="name"
  .rw[h];exact f7 (NF (aR<|OM "name" rfl (afn h)) (fun _=>rc rfl (og c1 mF)) fun z=>nomatch z) fun b j e c2=>eS<|x8 c2 rfl (by show(noL a&&(noL b&&G))=G;rw[d,(lj c1 e).noL];rfl)
  .rw[afl h];exact zb (f7 (f:=fun b s=>.ok (.tup [a,b]) s) (NF (aR<|OM "name" rfl (afm h)) (fun z=>nomatch z) fun _=>x8 c1 rfl d) fun b j e c2=>by
    cases e;exact eS (x8 c2 rfl (by show(noL a&&(noL a&&G))=G;rw[d];rfl))) rfl) ⟨rfl,rfl⟩
def yV(s:Sx):Q Sx D:=(ng s).bind fun a s=>.ok (.tup [a,.bl (kO "key" "down" s).1]) (kO "key" "down" s).2
theorem qY(c:Ch z s.ts)(h:ng s=.ok d s'):noL d=G:=by
 delta ng at h;cases h1:b8 "name" s with
 |er _=>rw[h1]at h;nofun
 |ok a e=>
  rw[h1]at h;change (dq "sign" "." e).bind _=_ at h
  have c1  := by have:=(og c mF).ch;rw[h1]at this;exact this
  cases h2:dq "sign" "." e with
  |er _=>rw[h2]at h;nofun
  |ok u f=>
   rw[h2]at h;change (b8 "name" f).bind _=_ at h
   have c2  := by have:=(sq (x:=".") c1 gv).ch;rw[h2]at this;exact this
   cases h3:b8 "name" f with
   |er _=>rw[h3]at h;nofun
   |ok b g=>
    rw[h3]at h;nofun;show(G&&(noL a&&(noL b&&G)))=G;rw[(lj c h1).noL,(lj c2 h3).noL];rfl
def Wt(v:D):Bool:=match v with
 |.int i=>decide (i<0)
 |_=>η
def zm(s:Sx):Q Sx D:=if s.hd.k="number"/\Wt s.hd.v=G then .er s else b8 "number" s
def M4(w:Tok):Prop:=w.k="number"->∃i,w.v=.int i
theorem Wh(c:Ch z s.ts)(f:M4 s.hd):RE z (qA [U] [rs z s])<|zm s:=by
 have a:RE z (dm [0] fO (mw 0<|aK (ji [0]<|vC<|.str "number") bj) (aZ 1 [U]) [rs z s])<|b8 "number" s:=rc (bA<|bg (aN rfl) rfl)<|og c oH;delta zm;by_cases h:s.hd.k="number"
 .obtain⟨i,b⟩:=f h;have h1:=OM (Y:=fill [0] [rs z s]<|aZ 1 [U]) (φ:=ag 0) (z:=z) (s:=s) "number" rfl (afn h);have h2:dC (aH zF (aH cR (iw "Reader" "word"<|ag 0)<|vC<|.int 1)<|vC<|.int 0) (fill [0] [rs z s]<|[U])=.ok ((i<0)):=ao (ae ((show cR s.hd.d (.int 1)=.ok (.int i)from by rw[<-b];rfl)) rfl rfl)
  have:=Ik (e:=fun s  => [rs z s]) (nl:=1) (aR<|kW h1 h2) (fun _=>Bi (q:=.er s)<|rc (α:=mw 0 bj) rfl (Jz c)) fun _=>eS a
  refine pW (zb this ?_) ⟨rfl,rfl⟩;rw[b];show _=if s.hd.k="number"/\decide (i<0)=G then _ else _;mright
 .have h1:=OM (Y:=fill [0] [rs z s]<|[U]) (φ:=ag 0) "number" rfl (afm h);rw[afl fun y=>h y.1];exact pW (Ik (q1:=.er s) (aR<|Bu h1) (fun z=>nomatch z) fun _=>eS a) ⟨rfl,rfl⟩
structure KOk(w:Tok):Prop where
 num:w.k="number"->∃i,w.v=.int i
 sgn:w.k="sign"->∃x,w.v=.str x
def rf(s:Sx):Q Sx D:=if s.hd.k="name"then ng s else if s.hd.k="number"\/s.hd.k="text"then .ok (.tup [.str "value",s.hd.v]) s.tl else(dq "key" "none" s).bind fun _ s=>.ok (.tup [.str "value",.non]) s
theorem p8(h:s.hd.k=k):b8 k s=.ok s.hd.v s.tl:=afk h
theorem WD(c:Ch z s.ts):RE z (cI [U] [rs z s])<|rf s:=by
 have k1:=fun b(h:decide (s.hd.k="name")=b)=>OM (Y:=fill [0] [rs z s]<|aZ 1 [U]) (φ:=ag 0) (z:=z) (s:=s) "name" rfl h;have k2:=fun b(h:decide (s.hd.k="number")=b)=>OM (Y:=fill [0] [rs z s]<|aZ 1 [U]) (φ:=ag 0) (z:=z) (s:=s) "number" rfl h;have k3:=fun b(h:decide (s.hd.k="text")=b)=>OM (Y:=fill [0] [rs z s]<|aZ 1 [U]) (φ:=ag 0) (z:=z) (s:=s) "text" rfl h;have e:∀k,s.hd.k=k->qp k->RE z (vN (aK (ji [0]<|vC<|.str "value")<|aK (dm [0] fO<|mw 0<|aK (ji [0]<|aH cR (iw "Reader" "word"<|ag 0)<|vC<|.int 0) bj) bj) (aZ 1 [U]) [rs z s]) (.ok (.tup [.str "value",s.hd.v]) s.tl):=fun k d f=>by
  have:=og (z:=z) c f
  rw[p8 d]at this;exact MG (wD (mU rfl rfl (ri<|rc (l:=[.ob 0,.pl<|.str s.hd.k]) (bA<|bg (aN<|ae (ig rfl (mC z s.hd s.t s.n)) rfl rfl) rfl)<|by rw[d];exact this)) fun ds s h=>by nofun;exact ab4 rfl) rfl
 delta rf;refine C1 (ψ:=bZ _ _) ?_;by_cases h1:s.hd.k="name"
 .rw[afk h1];exact zD (aR<|k1 G<|afn h1)<|eS<|rc (bA rfl)<|Rh c
 rw[afl h1];refine Ek (aR<|k1 η<|afm h1) ?_;by_cases h2:s.hd.k="number"
 .rw[afk<|.inl h2];exact zD (aR<|P7<|k2 G<|afn h2)<|eS<|e _ h2 oH
 by_cases a:s.hd.k="text"
 .rw[afk<|.inr a];exact zD (aR<|lR (k2 η<|afm h2)<|k3 G<|afn a)<|eS<|e _ a Gx
 rw[afl fun y=>y.elim h2 a];refine Ek (aR<|lR (k2 η<|afm h2)<|k3 η<|afm a) ?_;exact zk (rc rfl (sq c fP)) fun _ g _ c2=>eS<|x8 c2 rfl
noncomputable def XT(v:D):Bool:=match v with
 |.str x=>decide (x∈(["=","<>","<","<=",">",">="]:afr))
 |_=>η
theorem nG(x:Str):∀ys:afr,Eh (.str x) (ys.map V.str)=decide (x∈ys)
 |[]=>rfl
 |y::ys=>by
  have a:=nG x ys;unfold Eh at a⊢
  have:Mj (.str y) (.str x)=decide (y=x):=rfl
  grind
theorem An(c:Ch z s.ts)(h:rf s=.ok d s'):noL d=G:=by
 delta rf at h;cbv
 .exact qY c h
 .cbv
  .nofun;show(G&&(noL s.hd.v&&G))=G;rw[c.v.noL];rfl
  .cases h1:dq "key" "none" s with
   |er _=>rw[h1]at h;nofun
   |ok _ _=>rw[h1]at h;nofun;rfl
def AllK(s:Sx):Prop:=∀w∈s.ts,KOk w
def qV(s:Sx):Q Sx D:=if s.t=20 then .er s else(rf {s with t:=s.t+1}).bind fun one s=>if s.hd.k="sign"/\XT s.hd.v=G then(rf s.tl).bind fun Lh s'=>.ok (.tup [.str "test",s.hd.v,one,Lh]) s' else .er s
theorem AllK.hd(h:AllK s):KOk s.hd:=by
 delta Sx.hd;cases e:s.ts with
 |nil=>exact⟨fun z=>absurd z<|⊤,fun z=>absurd z<|⊤⟩
 |cons w r=>exact h w (by rw[e];simp)
def nV{α:Type}(f:Sx->Q Sx α):Prop:=∀s a s',f s=.ok a s'->∀w∈s'.ts,w∈s.ts
theorem dG(s:Sx):∀w∈s.tl.ts,w∈s.ts:=fun w h=>List.mem_of_mem_tail h
theorem lJ:nV<|b8 k:=fun s a s' h=>by
 delta b8 at h;cbv
 .nofun;exact dG s
 .nofun
theorem iV:nV<|dq k x:=fun s a s' h=>by
 delta dq at h;cbv
 .nofun;exact dG s
 .nofun
theorem cz{f:Sx->Q Sx α}{g:α->Sx->Q Sx β}(d:nV f)(e:∀a,nV<|g a):nV fun s=>(f s).bind g:=fun s b s' h=>by
 cases h1:f s with
 |er _=>change (f s).bind g=_ at h;rw[h1]at h;nofun
 |ok a c=>
  change (f s).bind g=_ at h
  rw[h1]at h;exact fun w hw=>d s a c h1 w<|e a c b s' h w hw
theorem rC{f:Sx->α}:nV fun s=>.ok (f s) s:=fun s a s' h=>by mright
theorem su:nV ng:=cz lJ fun _=>cz iV fun _=>cz lJ fun _=>rC
theorem wM:nV rf:=fun s a s' h=>by
 delta rf at h;cbv
 .exact su s a s' h
 .cbv
  .nofun;exact dG s
  .exact cz iV (fun _=>rC (f:=fun _=>D.tup [.str "value",.non])) s a s' h
theorem AllK.of{f:Sx->Q Sx α}(b:nV f)(h:AllK s)(e:f s=.ok a s'):AllK s':=fun w hw=>h w<|b s a s' e w hw
theorem XX(c:Ch z s.ts)(w:AllK s):RE z (qD [U] [rs z s])<|qV s:=by
 have r:∀b,decide ((s.t:Int)=20)=b->dC (aH jp (iw "Reader" "tests"<|ag 0)<|vC<|.int 20) (fill [0] [rs z s]<|aZ 3 [U])=.ok b:=fun b h=>h▸ao (ae (ig rfl ((rfl))) rfl zf);delta qV;refine C1 (ψ:=bZ _ _) ?_;by_cases h:s.t=20
 .rw[afk h];exact zD (aR<|r G<|by simp[h])<|Bi (q:=.er s)<|rc (bA rfl)<|Jz c
 rw[afl h];refine Ek (aR<|r η<|by simp;lia) ?_;have B:uE 0 "Reader" "tests" 1 (aZ 3 [U]) [rs z s]=.nx (aZ 3 [U]) [rs z {s with t:=s.t+1}]:=rfl;let g:Sx:={s with t:=s.t+1}
 have p:Ch z g.ts:=c;suffices H:RZ z (bZ (qM 1 1<|dm [0] cI<|mw 0 bj) (bZ (pf 1 (uv [0]<|KF (dC<|aH xF (aH cR (iw "Reader" "word"<|ag 0)<|vC<|.int 0)<|vC<|.str "sign")<|dC<|aH mI (aH cR (iw "Reader" "word"<|ag 0)<|vC<|.int 1)<|vC<|.tup [.str "=",.str "<>",.str "<",.str "<=",.str ">",.str ">="]) (sr 1<|dm [0] iX<|mw 0 bj) qG)<|bZ (qM 1 2<|dm [0] fO<|mw 0<|aK (ji [0]<|vC<|.str "sign") bj)<|xz 1<|vN<|aK (ji [0]<|vC<|.str "test")<|aK (ji [0]<|ag 2)<|aK (ji [0]<|ag 1)<|aK (dm [0] cI<|mw 0 bj) bj) (aZ 3 [U]) [rs z g]) _ from⟨eL B H.eq,H.ch⟩
 refine f7 (rc (bA rfl)<|WD p) fun one s1 h1 c1=>?_;have A:AllK s1:=AllK.of wM (s:=g) w h1;have j:∀b,(!decide (s1.hd.k="sign"))=b->dC (aH xF (aH cR (iw "Reader" "word"<|ag 0)<|vC<|.int 0)<|vC<|.str "sign") (fill [0] [rs z s1]<|(aZ 3 [U]).set 1<|J one)=.ok b:=fun b h=>h▸ao (ae (ae (ig rfl (mC z s1.hd s1.t s1.n)) rfl rfl) rfl vE);have a:RZ z (sr 1 (dm [0] iX<|mw 0 bj) ((aZ 3 [U]).set 1<|J one) [rs z s1])<|.er s1:=Bi (q:=.er s1)<|rc (bA rfl)<|Jz c1;by_cases hs:s1.hd.k="sign"
 .obtain⟨x,o⟩:=A.hd.sgn hs;have m:∀b,(!XT s1.hd.v)=b->dC (aH mI (aH cR (iw "Reader" "word"<|ag 0)<|vC<|.int 1)<|vC<|.tup [.str "=",.str "<>",.str "<",.str "<=",.str ">",.str ">="]) (fill [0] [rs z s1]<|(aZ 3 [U]).set 1<|J one)=.ok b:=fun b h=>by
   rw[<-h,o];exact ao (ae (ae (ig rfl (mC z s1.hd s1.t s1.n)) rfl (show cR s1.hd.d (.int 1)=.ok (.str x)from by rw[<-o];rfl)) rfl ((by
     have:mI (.str x) (.tup [.str "=",.str "<>",.str "<",.str "<=",.str ">",.str ">="])=.ok (.bl<|!Eh (.str x) ((["=","<>","<","<=",">",">="]:afr).map V.str)):=rfl
     rw[this,nG];rfl)))
  by_cases e:XT s1.hd.v=G
  .rw[afk ⟨hs,e⟩];refine Ek (aR<|lR (j η<|by simp[hs])<|m η<|by simp[e]) ?_;have l:=og (z:=z) c1 gv;rw[p8 hs]at l
   have:=f7 (i:=2) (nl:=1) (f:=fun d s=>(rf s).bind fun Lh s'=>.ok (.tup [.str "test",d,one,Lh]) s') (χ:=xz 1<|vN<|aK (ji [0]<|vC<|.str "test")<|aK (ji [0]<|ag 2)<|aK (ji [0]<|ag 1)<|aK (dm [0] cI<|mw 0 bj) bj) (rc (Y:=(aZ 3 [U]).set 1<|J one) (α:=mw 0<|aK (ji [0]<|vC<|.str "sign") bj) (bA<|bg (aN rfl) rfl) l) fun C D h2 c2=>by
    cases h2;refine zb (eS<|wD (mU rfl rfl (mU rfl c1.v.noL (mU rfl (An p h1) (ri<|rc (bA rfl)<|WD c2)))) fun ds s h=>?_) ?_
    .cases ho:rf s1.tl with
     |ok b u=>rw[ho]at h;nofun;exact ab4 rfl
     |er u=>rw[ho]at h;nofun
    .cases rf s1.tl<;>rfl
   exact this
  .rw[afl fun y=>e y.2];exact zD (aR<|lR (j η<|by simp[hs])<|m G<|by simp[e]) a
 .rw[afl fun y=>hs y.1];exact zD (aR<|P7<|j G<|by simp[hs]) a
def pd(T:afy)(W:afr):D:=.obj "Piles" [("trees",.lsm T.reverse),("waiting",.lsm (W.map .str).reverse)]
noncomputable def gM(w:Str):Int:=if w="("then 0 else if w="or"then 1 else if w="and"then 2 else 3
abbrev W4:afr:=["(","or","and","not"]
theorem HK(h:w∈W4):cdD lx (.str w)=.ok (.int<|gM w):=by
 mright;rcases h with rfl|rfl|rfl|rfl<;>with_unfolding_all rfl
theorem FL(T:afy)(w:Str)(W:afr)(Y:Sd):mh 0 "Piles" "waiting" Y [pd T<|w::W]=.ok (.str w) [pd T W]:=by
 have e:yE [pd T<|w::W] 0 "Piles" "waiting"=J ((W.map D.str).reverse++[.str w]):=by show J _=_;simp
 delta mh;rw[e];dsimp only;rw[LX,acC,aeM,aaI<|mK _,adM];rw[aep];rfl
theorem Gp(t:D)(T:afy)(W:afr)(Y:Sd):mh 0 "Piles" "trees" Y [pd (t::T) W]=.ok t [pd T W]:=by
 have e:yE [pd (t::T) W] 0 "Piles" "trees"=(T.reverse++[t]):=by show J _=_;rw[adX]
 delta mh;rw[e];dsimp only;rw[LX,acC,aeM,aaI<|mK _,adM];rw[aep];rfl
theorem NY(h:φ Y=.ok (.str w))(a:W.length<=900):nr 0 "Piles" "waiting" φ Y [pd T W]=.ok .non [pd T<|w::W]:=by
 have e:yE [pd T W] 0 "Piles" "waiting"=(W.map D.str).reverse:=rfl;delta nr;rw[e,h];dsimp only;rw[afk<|by simp;lia];delta pd;rw[aaV,adX];rfl
theorem G4(h:φ Y=.ok t)(a:T.length<=900):nr 0 "Piles" "trees" φ Y [pd T W]=.ok .non [pd (t::T) W]:=by
 have e:yE [pd T W] 0 "Piles" "trees"=T.reverse:=rfl;delta nr;rw[e,h];dsimp only;rw[afk<|by simp;lia];delta pd;rw[adX];rfl
noncomputable def jn:afr->Nat
 |[]=>0
 |w::W=>(if w="and"\/w="or"then 1 else 0)+jn W
def settle(b:Int):afr->afy->List Str×afy
 |[],T=>([],T)
 | w::W,T=>if b<=gM w then (if w="not" then (match T with
   |t::T=>settle b W<|.tup [.str "not",t]::T
   |[]=>(w::W,T))else(match T with
   |t2::t1::T=>settle b W<|.tup [.str w,t1,t2]::T
   |_=>(w::W,T)))else(w::W,T)
abbrev sT:lM:=uv [0]<|mQ (dC<|aH xF (iw "Piles" "waiting"<|ag 0)<|uw aQ)<|dC<|aH C9 (zz (cdD lx)<|aH cR (iw "Piles" "waiting"<|ag 0)<|zz QN<|vC<|.int 1)<|ag 1
abbrev sB:gi:=bZ (qM 1 2<|mh 0 "Piles" "waiting")<|bZ (qM 1 3<|mh 0 "Piles" "trees")<|pf 1 (uv [0]<|dC<|aH jp (ag 2)<|vC<|.str "not") (sr 1<|nr 0 "Piles" "trees"<|uD<|ak (vC<|.str "not")<|ak (ag 3) aQ)<|bZ (qM 1 4<|mh 0 "Piles" "trees")<|sr 1<|nr 0 "Piles" "trees"<|uD<|ak (ag 2)<|ak (ag 4)<|ak (ag 3) aQ
def Py(k:Nat)(d:D):Prop:=∃p,kZ d=J p/\p.canLay0=G/\p.depth<=k
theorem Py.list{k:Nat}:∀{ds:afy},(∀d∈ds,Py k d)->∃ps,ma ds=J ps/\aeZ ps=G/\PyData.depthAll ps<=k/\ps.length=ds.length
 |[],_=>⟨[],rfl,rfl,aa2 _,rfl⟩
 |d::r,h=>by
  left;obtain⟨p,h1,h2,c⟩:=h d ∅;obtain⟨ps,e1,a,b,e⟩:=Py.list fun x f=>h x<|ie _ f;right;refine⟨p::ps,?_,?_,?_,by simp[e]⟩
  .rw[ma,h1,e1];rfl
  .rw[aeZ,h2,a];rfl
  .exact Nat.max_le.mpr ⟨c,b⟩
theorem vx(h1:p.canLay0=G)(h2:p.depth<=k)(a:k<=64):adi p=G:=by
 delta adi
 lia
theorem KY{k:Nat}{ds:afy}(h:∀d∈ds,Py k d)(g:k<=60):xF (.lst ds) (.lst [])=.ok (.bl<|decide (0<ds.length)):=by
 refine Z14 (Py.list h) fun ps e1 a i e=>?_;have c:kZ (.lst ds)=J (.list ps):=by rw[kZ,e1];rfl
 have e0:kZ (.lst [])=J (.list []):=rfl;have f:jt (.lst ds) (.lst [])=(aeV (.list ps)<|.list []):=by
  delta jt;rw[c,e0];simp only;rw[afk ⟨vx (k:=k+1) a (by rw[ae6];mright)<|⊥,by rfl⟩]
 have b:zy (.lst ds) (.lst [])=jt (.lst ds) (.lst []):=rfl;delta xF;rw[b,f];cases ps with
 |nil=>
  have:ds.length=0:=by mright
  rw[this];rfl
 |cons p r=>
  have:0<ds.length:=by rw[<-e];simp
  rw[afn this];rfl
theorem SN(h:w∈W4):Py 0<|.str w:=⟨.str w,rfl,by
 mright;rcases h with rfl|rfl|rfl|rfl<;>trivial,mK _⟩
def CL(W:afr):Prop:=∀w∈W,w∈W4
theorem wne(h:CL W):xF (.lst (W.map D.str).reverse) (.lst [])=.ok (.bl<|decide (0<W.length)):=by
 have:=KY (fun d hd=>by
  rw[List.mem_reverse,abv]at hd;obtain⟨w,hw,rfl⟩:=hd;exact SN (h w hw)) ∅
 mright
theorem Xw(a:CL<|w::W)(b:Int)(c f d:Option D):sT [U,J<|.int b,c,f,d] [pd T<|w::W]=.ok (decide (b<=gM w)) [pd T<|w::W]:=
 aR (kW (ao<|((wne a)).trans rfl) (ao (ae (BM (((by
   have:atI ((w::W).map D.str).reverse (-1)=J (.str w):=by
    delta atI;have e:C5 ((ae8 D.str W).reverse++[D.str w]).length (-1)=W.length:=by
     delta C5;simp;lia
    mright
   exact UC this))) (HK (a w aax))) rfl rfl)))
theorem Sv(b:Int)(t:D)(T:afy)(W:afr)(c d a:Option D)(e:T.length<=900):sB [U,J<|.int b,c,d,a] [pd (t::T)<|"not"::W]=.nx [U,J<|.int b,J<|.str "not",J t,a] [pd (.tup [.str "not",t]::T) W]:=
 iG (FL (t::T) "not" W _) (iG (Gp t T W _)<|(il<|G4 rfl e))
theorem Up(b:Int)(c a:D)(T:afy)(w:Str)(W:afr)(d f e:Option D)(h:w≠"not")(g:T.length<=900):sB [U,J<|.int b,d,f,e] [pd (c::a::T)<|w::W]=.nx [U,J<|.int b,J<|.str w,J c,J a] [pd (.tup [.str w,a,c]::T) W]:=
 iG (FL (c::a::T) w W _) (iG (Gp c (a::T) W _)<|F2 (aR<|ao<|(jg).trans<|by simp[h])<|iG (Gp a T W _)<|il<|G4 rfl g)
theorem r8(b:Int)(y:1<=b):∀(W:afr)(T:afy)(f:Nat)(i j g:Option D),CL W->jn W<T.length->T.length<=900->W.length<f->∃q u v,bV 1 sT sB f [U,J<|.int b,i,j,g] [pd T W]=.nx [U,J<|.int b,q,u,v] [pd (settle b W T).2 (settle b W T).1]
 |_,_,0,_,_,_,_,_,_,h=>absurd h<|aef _
 |[],T,f+1,i,j,g,_,_,_,_=>⟨i,j,g,qw<|( rfl)⟩
 |w::W,T,f+1,i,j,g,hW,hj,hl,hf=>by
  have k:=Xw (T:=T) hW b i j g;have l:CL W:=fun x z=>hW x<|ie _ z;have n:W.length<f:=by simpa using hf
  unfold settle;by_cases h:b<=gM w
  .rw[afn h]at k;rw[afk h];by_cases m:w="not"
   .rw[afk m];subst m;cases T with
    |nil=>mright
    |cons t T=>
     have o:jn W<(D.tup [.str "not",t]::T).length:=by
      unfold jn at hj;rw[afl<|⊤]at hj;mright
     refine Z31 (r8 b y W (.tup [.str "not",t]::T) f (J<|.str "not") (J t) g l o hl n) fun a c d e=>?_;exact⟨a,c,d,jM k (Sv b t T W i j g<|by mright;lia) e⟩
   .rw[afl m];have p:w="and"\/w="or":=by
     have:=hW w aax
     simp only[eQ,aaz,or_false]at this;rcases this with rfl|rfl|rfl|rfl
     .have:gM "("=0:=⊤
      lia
     .exact .inr rfl
     .exact .inl rfl
     .exact absurd rfl m
    unfold jn at hj;rw[afk p]at hj;cases T with
    |nil=>mright
    |cons r T=>
     cases T with
     |nil=>mright
     |cons s T=>
      refine Z31 (r8 b y W (.tup [.str w,s,r]::T) f (J<|.str w) (r) (s) l (by grind) (by grind) n) fun a c d e=>?_;exact⟨a,c,d,jM k (Up b r s T w W i j g m<|by mright;lia) e⟩
  .rw[afm h]at k;rw[afl h];exact⟨i,j,g,qw k⟩
structure POk(T:afy)(W:afr):Prop where
 w:CL W
 j:T.length=jn W+1
 l:T.length<=900
 m:W.length<=900
theorem xj(p:POk T W)(f:1<=b):kh [U,J<|.int b] [pd T W]=.ok .non [pd (settle b W T).2 (settle b W T).1]:=by
 obtain⟨a,c,d,e⟩:=r8 b f W T 1000 U U U p.w (by have:=p.j;mright) p.l (by have:=p.m;lia);exact jC e
theorem Xx(a:W.length<=900):eX [U,J<|.str w] [pd T W]=.ok .non [pd T<|w::W]:=jC<|il<|NY rfl a
theorem X1(a:T.length<=900):jc [U,J t] [pd T W]=.ok .non [pd (t::T) W]:=jC<|il<|G4 rfl a
theorem Yq(p:POk T W)(hw:w∈W4)(b:1<=gM w)(a:(settle (gM w) W T).1.length<=900):dX [U,J<|.str w] [pd T W]=.ok .non [pd (settle (gM w) W T).2<|w::(settle (gM w) W T).1]:=
 jC (D3 (cx rfl (bg (aN<|(HK hw)) rfl) (kC<|xj p b))<|il<|NY rfl a)
theorem UH(b:CL W):dh [U] [pd T W]=.ok (.bl<|decide (("(":Str)∈W)) [pd T W]:=by
 have e:rE (.str "(") (.lst (W.map D.str).reverse)=.ok (.bl<|("("∈W)):=by
  have h1:∀l:afr,kA (l.map D.str)=(l.map V.str):=fun l=>by
   induction l with
   |nil=>rfl
   |cons x r a=>rw[aaV,kA,a];rfl
  have h2:Ue (.str "(") (.lst (W.map D.str).reverse)=(Eh (.str "(")<|W.reverse.map V.str):=by
   show vo _ _=_;delta vo;rw[<-List.map_reverse,h1];rfl
  delta rE;rw[h2,nG];simp[lU]
 exact cL<|eG<|aN<|e
theorem pz(b:Int)(k:1<=b):∀(W:afr)(T:afy),CL W->T.length=jn W+1->T.length<=900->(settle b W T).2.length=jn (settle b W T).1+1/\(settle b W T).2.length<=T.length/\(∃X,W=X++(settle b W T).1/\("(":Str)∉X)
 |[],T,_,h,hl=>⟨h,mK _,[],rfl,fun z=>nomatch z⟩
 |w::W,T,hW,hj,hl=>by
  have f:CL W:=fun x n=>hW x<|ie _ n;unfold settle;by_cases h:b<=gM w
  .rw[afk h];have j:w≠"(":=fun z=>by
    subst z
    have:gM "("=0:=⊤
    lia
   by_cases i:w="not"
   .rw[afk i];subst i;cases T with
    |nil=>mright
    |cons t T=>
     unfold jn at hj;rw[afl<|⊤]at hj;left;obtain⟨a,c,X,e,d⟩:=pz b k W (.tup [.str "not",t]::T) f (by simp at hj⊢;lia) ⊤;right;exact⟨a,by omega,"not"::X,by rw[ad2,<-e],fun z=>by rcases eQ.mp z with z|z;exact j z.symm;exact d z⟩
   .rw[afl i];have g:w="and"\/w="or":=by
     have:=hW w aax
     grind
    unfold jn at hj;rw[afk g]at hj;cases T with
    |nil=>contradiction
    |cons l T=>
     cases T with
     |nil=>mright
     |cons m T=>
      obtain⟨a,c,X,e,d⟩:=pz b k W (.tup [.str w,m,l]::T) f (by grind) (by grind)
      grind
  .rw[afl h];mright
theorem rP(b:Int)(f:1<=b):∀(W:afr)(T:afy),CL W->T.length=jn W+1->T.length<=900->∀w r,(settle b W T).1=w::r->gM w<b
 |[],T,_,_,_,w,r,e=>nomatch e
 |v::W,T,hW,hj,hl,w,r,e=>by
  have a:CL W:=fun x j=>hW x<|ie _ j;unfold settle at e;by_cases h:b<=gM v
  .rw[afk h]at e;by_cases d:v="not"
   .rw[afk d]at e;subst d;cases T with
    |nil=>mright
    |cons t T=>
     unfold jn at hj;rw[afl<|⊤]at hj;exact rP b f W (.tup [.str "not",t]::T) a (by simp at hj⊢;lia) ⊤ w r e
   .rw[afl d]at e;have c:v="and"\/v="or":=by
     have:=hW v aax
     simp only[eQ,aaz,or_false]at this;rcases this with rfl|rfl|rfl|rfl
     .have:gM "("=0:=⊤
      omega
     .exact .inr rfl
     .exact .inl rfl
     .trivial
    unfold jn at hj;rw[afk c]at hj;cases T with
    |nil=>contradiction
    |cons g T=>
     cases T with
     |nil=>simp at hj
     |cons i T=>exact rP b f W (.tup [.str v,i,g]::T) a (by grind) (by grind) w r e
  mright
def eO(T:afy)(W:afr):List Str×afy:=((settle 1 W T).1.tail,(settle 1 W T).2)
theorem QP(p:POk T W)(k:("(":Str)∈W):cB [U] [pd T W]=.ok .non [pd (eO T W).2 (eO T W).1]/\POk (eO T W).2 (eO T W).1:=by
 obtain⟨a,c,X,e,d⟩:=pz 1 (abU 1) W T p.w p.j p.l;have g:("(":Str)∈(settle 1 W T).1:=by rw[e]at k;rcases BY.mp k with z|z;exact absurd z d;exact z
 delta eO;cases hs:(settle 1 W T).1 with
 |nil=>rw[hs]at g;cases g
 |cons w r=>
  have i:=xj p<|abU 1;rw[hs]at i a e;have hw:∀x∈w::r,x∈W4:=fun x f=>p.w x (by rw[e];exact OR _ f);have b:w="(":=by
   have:=rP 1 (abU 1) W T p.w p.j p.l w r hs
   have h:=hw w aax;simp only[eQ,aaz,or_false]at h;rcases h with rfl|rfl|rfl|rfl
   .rfl
   .have:gM "or"=1:=⊤
    trivial
   .have:gM "and"=2:=⊤
    trivial
   .have:gM "not"=3:=⊤
    trivial
  subst b;refine⟨jC<|D3 (cx rfl rfl (kC i))<|il<|FL _ "(" r _,⟨fun x f=>hw x<|ie _ f,?_,by have:=p.l;lia,?_⟩⟩
  .unfold jn at a;rw[afl<|⊤]at a;simpa using a
  .have:=p.m
   grind
def iq(s:Sx):Bool:=s.hd.is "key" "not"||s.hd.is "sign" "("
def mv(s:Sx):Str:=if s.hd.is "key" "not"=G then "not"else "("
def xD:Nat->Sx->afr->Q Sx (afr)
 |0,s,_=>.er s
 |f+1,s,W=>if iq s=G then(if s.n=20 then .er s else xD f {s.tl with n:=s.n+1} (mv s::W))else .ok W s
def cls:Nat->Sx->afy->afr->Sx×List D×afr
 |0,s,T,W=>(s,T,W)
 |f+1,s,T,W=>if("(":Str)∈W/\s.hd.is "sign" ")"=G then cls f s.tl (eO T W).2 (eO T W).1 else(s,T,W)
abbrev Cu(z:Str)(s:Sx)(T:afy)(W:afr):afy:=[rs z s,pd T W]
abbrev oT:lM:=J6 (qL<|dM 0 "Reader" "stands" [0] bO<|aK (ji [0,1]<|vC<|.str "key")<|aK (ji [0,1]<|vC<|.str "not") bj)<|qL<|dM 0 "Reader" "stands" [0] bO<|aK (ji [0,1]<|vC<|.str "sign")<|aK (ji [0,1]<|vC<|.str "(") bj
abbrev oB:gi:=bZ (pf 2 (uv [0,1]<|dC<|aH jp (iw "Reader" "nested"<|ag 0)<|vC<|.int 20) (sr 2<|dm [0] iX<|mw 0 bj) qG)<|bZ (uE 0 "Reader" "nested" 1)<|bZ (sr 2<|dM 1 "Piles" "add_word" [0] eX<|aK (ji [0,1]<|aH cR (iw "Reader" "word"<|ag 0)<|vC<|.int 1) bj)<|sr 2<|dM 0 "Reader" "step" [0] fm bj
theorem M3(c:Ch z s.ts):oT [U,U] (Cu z s T W)=.ok (iq s) (Cu z s T W):=by
 delta iq;cases h:s.hd.is "key" "not"with
 |true=>exact NZ<|bw<|cx rfl (bg (aN rfl)<|bg (aN rfl) rfl) (ka (Mx c.v h) rfl)
 |false=>exact NS (bw<|cx rfl (bg (aN rfl)<|bg (aN rfl) rfl) (ka (Mx c.v h) rfl))<|bw<|cx rfl rfl (ka (Mx c.v rfl) rfl)
theorem nA{w:Tok}(h:w.is k x=G):w.v=.str x:=by
 delta Tok.is at h;rw[oR]at h;have h:=h.2;unfold sv at h;cbv
 .mright
 .nofun
theorem Nh(h:iq s=G):s.hd.v=.str (mv s)/\qp s.hd.k/\mv s∈W4/\jn (mv s::W)=jn W:=by
 delta iq at h;delta mv;cases h1:s.hd.is "key" "not"with
 |true=>
  refine⟨nA h1,eU h1▸fP,⊤,?_⟩;show(if _ then _ else _)+_=_;rw[afl<|⊤,aeg]
 |false=>
  rw[h1]at h;refine⟨nA h,eU h▸gv,⊤,?_⟩;show(if _ then _ else _)+_=_;rw[afl<|⊤,aeg]
theorem S4:∀(f:Nat)(s:Sx)(W:afr)(g:Nat),Ch z s.ts->s.n<=20->21-s.n<=f->W.length+(20-s.n)<=900->f<=g->match xD f s W with
  |.ok a s'=>(∀T,bV 2 oT oB g [U,U] (Cu z s T W)=.nx [U,U] (Cu z s' T a))/\Ch z s'.ts/\s'.t=s.t/\s'.n<=20/\s.n<=s'.n/\a.length+s.n=W.length+s'.n/\jn a=jn W/\(CL W->CL a)/\(∀w∈s'.ts,w∈s.ts)
  |.er s'=>(∀T,∃p,bV 2 oT oB g [U,U] (Cu z s T W)=.er "BadQuestion" [rs z s',p])/\Ch z s'.ts
 |0,s,W,g,c,hn,hf,hl,hg=>⊥
 |f+1,s,W,0,c,hn,hf,hl,hg=>⊥
 |f+1,s,W,g+1,c,hn,hf,hl,hg=>by
  unfold xD;by_cases h:iq s=G
  .rw[afk h];have j:∀T,oT [U,U] (Cu z s T W)=.ok G (Cu z s T W):=fun T=>h▸M3 c;have l:∀T b,decide ((s.n:Int)=20)=b->dC (aH jp (iw "Reader" "nested"<|ag 0)<|vC<|.int 20) (fill [0,1] (Cu z s T W) [U,U])=.ok b:=fun T b h=>h▸ao (ae (ig rfl ((rfl))) rfl zf);by_cases h2:s.n=20
   .rw[afk h2];exact⟨fun T=>⟨pd T W,Em (j T)<|lh<|kR (aR<|l T G<|by simp[h2])<|kJ<|aM (bA rfl)<|vS (sP c) rfl⟩,c⟩
   .rw[afl h2];refine Z04 (Nh (W:=W) h) fun I u hw K=>?_;obtain⟨m,nx⟩:=c.tl u;have i:=S4 f {s.tl with n:=s.n+1} (mv s::W) g m (by show s.n+1<=20;lia) (by show 21-(s.n+1)<=f;lia) (by show(mv s::W).length+(20-(s.n+1))<=900;simp;lia) ⊥;have q:∀T,oB [U,U] (Cu z s T W)=.nx [U,U] (Cu z {s.tl with n:=s.n+1} T (mv s::W)):=fun T=>
     gG (aR<|l T η<|by simp;lia) (eL (show uE 0 "Reader" "nested" 1 [U,U] (Cu z s T W)=.nx [U,U] (Cu z {s with n:=s.n+1} T W)from rfl)<|D3 (cx rfl (bg (aN<|ae (ig rfl (mC z s.hd s.t<|s.n+1)) rfl (show cR s.hd.d (.int 1)=.ok (.str<|mv s)from by rw[<-I];rfl)) rfl) (ka (Xx<|⊥) rfl))<|il<|cx rfl rfl (ka (step (n:=s.n+1) m.v nx) rfl))
    generalize M:xD f {s.tl with n:=s.n+1} (mv s::W)=r at i;left;cases r with
    |ok a s'=>
     obtain⟨E,H,C,D,F,o,y,B,A⟩:=i;right;refine⟨fun T=>jM (j T) (q T)<|E T,H,C,D,by change s.n+1<=_ at F;lia,?_,by rw[y,K],fun h=>B fun x k=>?_,fun w hw=>dG s w<|A w hw⟩
     .change a.length+(s.n+1)=(mv s::W).length+s'.n at o
      simp at o;lia
     .rcases eQ.mp k with rfl|k
      .exact hw
      .exact h x k
    |er s'=>right;exact⟨fun T=>let⟨p,e⟩:=i.1 T;⟨p,jM (j T) (q T) e⟩,i.2⟩
  .rw[afl h];exact⟨fun T=>qw<|aaM.mpr h▸M3 c,c,rfl,hn,mK _,rfl,rfl,fun h=>h,fun _ h=>h⟩
abbrev cT':lM:=xg (qL<|dM 1 "Piles" "has_bracket" [0] dh bj)<|qL<|dm [0] fR<|mw 0<|aK (ji [0,1]<|vC<|.str "sign")<|aK (ji [0,1]<|vC<|.str ")") bj
abbrev cB':gi:=sr 2<|dM 1 "Piles" "close_bracket" [0] cB bj
theorem QO(p:POk T W)(b:("(":Str)∈W):(eO T W).1.length<W.length/\(eO T W).2.length<=T.length:=by
 obtain⟨a,c,X,e,d⟩:=pz 1 (abU 1) W T p.w p.j p.l;delta eO
 grind
theorem UP:∀(f:Nat)(s:Sx)(T:afy)(W:afr)(g:Nat),Ch z s.ts->POk T W->W.length<f->f<=g ->
  bV 2 cT' cB' g [U,U] (Cu z s T W)=.nx [U,U] (Cu z (cls f s T W).1 (cls f s T W).2.1 (cls f s T W).2.2)/\Ch z (cls f s T W).1.ts/\POk (cls f s T W).2.1 (cls f s T W).2.2/\(cls f s T W).1.t=s.t/\(cls f s T W).1.n=s.n/\(cls f s T W).2.2.length<=W.length/\(cls f s T W).2.1.length<=T.length/\(∀w∈(cls f s T W).1.ts,w∈s.ts)
 |0,_,_,_,_,_,_,h,_=>absurd h<|aef _
 |f+1,_,_,_,0,_,_,_,h=>absurd h<|Nat.not_succ_le_zero _
 |f+1,s,T,W,g+1,c,p,hf,hg=>by
  have a:=UH (T:=T) p.w;unfold cls;by_cases h:("(":Str)∈W
  .rw[afn h]at a;by_cases h2:s.hd.is "sign" ")"=G
   .rw[afk ⟨h,h2⟩];left;obtain⟨b,nx⟩:=c.tl<|eU h2▸gv;obtain⟨k1,k2⟩:=QP p h;obtain⟨q,o⟩:=QO p h;refine Z08 (UP f s.tl (eO T W).2 (eO T W).1 g b k2 ⊥ ⊥) fun j l e i k r m d=>?_;right;refine⟨jM (vU (bw<|cx rfl rfl (ka a rfl))<|bw<|aM (bA<|bg (aN rfl)<|bg (aN rfl) rfl)<|ka (ju (t:=s.t) (n:=s.n) c.v h2 b.v nx) rfl) (il<|cx rfl rfl (ka k1 rfl)) j,l,e,i,k,⊥,⊥,fun w hw=>dG s w<|d w hw⟩
   .rw[afl fun y=>h2 y.2];exact⟨qw<|vU (bw<|cx rfl rfl (ka a rfl))<|bw<|aM rfl (ka (lL c.v<|aaM.mpr h2) rfl),c,p,rfl,rfl,mK _,mK _,fun _ h=>h⟩
  .rw[afm h]at a;rw[afl fun y=>h y.1];exact⟨qw<|Gh<|bw<|cx rfl rfl (ka a rfl),c,p,rfl,rfl,mK _,mK _,fun _ h=>h⟩
def Keeps{α:Type}(f:Sx->Q Sx α):Prop:=∀s a s',f s=.ok a s'->s'.t=s.t/\s'.n=s.n
theorem jq:Keeps<|b8 k:=fun s a s' h=>by
 delta b8 at h;cbv
 .nofun;exact⟨rfl,rfl⟩
 .nofun
theorem mW:Keeps<|dq k x:=fun s a s' h=>by
 delta dq at h;cbv
 .nofun;exact⟨rfl,rfl⟩
 .nofun
theorem cj{f:Sx->Q Sx α}{g:α->Sx->Q Sx β}(d:Keeps f)(e:∀a,Keeps<|g a):Keeps fun s=>(f s).bind g:=fun s b s' h=>by
 cases h1:f s with
 |er _=>change (f s).bind g=_ at h;rw[h1]at h;nofun
 |ok a c=>
  change (f s).bind g=_ at h
  rw[h1]at h;have i:=d s a c h1;have j:=e a c b s' h;mright
theorem n8{f:Sx->α}:Keeps fun s=>.ok (f s) s:=fun s a s' h=>by mright
theorem zt:Keeps rf:=fun s a s' h=>by
 delta rf at h;cbv
 .exact(cj jq fun _=>cj mW fun _=>cj jq fun _=>n8) s a s' h
 .cbv
  .nofun;exact⟨rfl,rfl⟩
  .exact cj mW (fun _=>n8 (f:=fun _=>D.tup [.str "value",.non])) s a s' h
theorem OE(c:Ch z s.ts)(h:qV s=.ok d s'):s.t≠20/\s'.t=s.t+1/\s'.n=s.n/\noL d=G/\(∀w∈s'.ts,w∈s.ts):=by
 delta qV at h;cbv
 .nofun
 .rename_i ht;cases h1:rf {s with t:=s.t+1}with
  |er _=>rw[h1]at h;nofun
  |ok one a=>
   rw[h1]at h;change (if _ then _ else _)=_ at h
   have e1:=wM _ _ _ h1;have k1:=zt _ _ _ h1;have c1  := by have:=(WD (s:={s with t:=s.t+1}) c).ch;rw[h1]at this;exact this
   cbv
   .rename_i hs;cases h2:rf a.tl with
    |er _=>rw[h2]at h;nofun
    |ok Lh e=>
     rw[h2]at h;nofun;have b:=wM _ _ _ h2;have k2:=zt _ _ _ h2;obtain⟨c2,_⟩:=c1.tl<|hs.1▸gv;refine⟨ht,k2.1.trans k1.1,k2.2.trans k1.2,?_,fun w hw=>e1 w<|dG a w<|b w hw⟩;show(G&&(noL a.hd.v&&(noL one&&(noL Lh&&G))))=G;rw[c1.v.noL,An (s:={s with t:=s.t+1}) c h1,An c2 h2];rfl
   .nofun
structure Af(s:Sx)(T:afy)(W:afr):Prop where
 w:CL W
 j:T.length=jn W+1
 l:W.length+1<=s.n+s.t
 n:s.n<=20
 t:s.t<=20
 k:jn W+1<=s.t
 d:∀t∈T,noL t=G
structure Op(s:Sx)(T:afy)(W:afr):Prop where
 w:CL W
 j:T.length=jn W
 l:W.length<=s.n+s.t
 n:s.n<=20
 t:s.t<=20
 k:jn W<=s.t
 d:∀t∈T,noL t=G
theorem Af.p(a:Af s T W):POk T W:=⟨a.w,a.j,by have:=a.j;have:=a.k;have:=a.t;lia,by have:=a.l;have:=a.n;have:=a.t;lia⟩
def oC(s:Sx)(T:afy)(W:afr):Q Sx<|List D×afr:=(xD 30 s W).bind fun W s=>(qV s).bind fun t s=>.ok (cls 100 s (t::T) W).2 (cls 100 s (t::T) W).1
theorem oh(b:Int):∀(W:afr)(T:afy),(∀t∈T,noL t=G)->∀t∈(settle b W T).2,noL t=G
 |[],T,h=>h
 |w::W,T,h=>by
  unfold settle;split
  .split
   .cases T with
    |nil=>exact h
    |cons t T=>
     refine oh b W _ fun x a=>?_;rcases eQ.mp a with rfl|a
     .show(G&&(noL t&&G))=G;rw[h t aax];rfl
     mright
   .match T,h with
    |[],h=>exact h
    |[_],h=>exact h
    |t2::t1::T,h=>
     refine oh b W _ fun x a=>?_;rcases eQ.mp a with rfl|a
     .show(G&&(noL t1&&(noL t2&&G)))=G
      mright
     .mright
  .exact h
theorem Cp:∀(f:Nat)(s:Sx)(T:afy)(W:afr),(∀t∈T,noL t=G)->∀t∈(cls f s T W).2.1,noL t=G
 |0,_,_,_,h=>h
 |f+1,s,T,W,h=>by
  unfold cls;split
  .exact Cp f s.tl _ _ (oh 1 W T h)
  .exact h
theorem Mq(c:Ch z s.ts)(q:AllK s)(o:Op s T W):match oC s T W with
  |.ok p s'=>gY [U,U] [rs z s,pd T W]=.ok .non [rs z s',pd p.1 p.2]/\Ch z s'.ts/\Af s' p.1 p.2/\(∀w∈s'.ts,w∈s.ts)/\s'.t=s.t+1
  |.er s'=>(∃p,gY [U,U] [rs z s,pd T W]=.er "BadQuestion" [rs z s',p])/\Ch z s'.ts:=by
 have h1:=S4 (z:=z) 30 s W 1000 c o.n ⊥ (by have:=o.l;have:=o.n;have:=o.t;lia) ⊥;delta oC;generalize xD 30 s W=r1 at h1;cases r1 with
 |er s1=>
  obtain⟨⟨p,e⟩,c1⟩:=And.intro (h1.1 T) h1.2;exact⟨⟨p,ga (ψ:=bZ _ _)<|lh e⟩,c1⟩
 |ok W1 s1=>
  obtain⟨e1,c1,A,E,u,B,j1,i,b1⟩:=h1;have f:AllK s1:=fun w hw=>q w<|b1 w hw;have a:=XX (z:=z) c1 f;dsimp only[Q.bind];cases h2:qV s1 with
  |er b=>
   rw[h2]at a;refine⟨⟨pd T W1,ga (ψ:=bZ _ _)<|eL (e1 T)<|HW<|Uu rfl (Bg<|aM (bA rfl)<|vS a.eq rfl)⟩,a.ch⟩
  |ok t b=>
   rw[h2]at a;left;obtain⟨q1,q2,F,m,v⟩:=OE c1 h2;have C:T.length<=20:=by have:=o.j;have:=o.k;have:=o.t;lia
   have y:W1.length<=40:=by have:=o.l;have:=o.t;lia
   have p1:POk (t::T) W1:=⟨i o.w,by simp[o.j,j1],by simp;lia,⊥⟩;refine Z08 (UP (z:=z) 100 b (t::T) W1 1000 a.ch p1 ⊥ ⊥) fun k1 k2 k3 k4 k5 k6 k7 k8=>?_;right;have h:=Cp 100 b (t::T) W1 fun x g=>by
    rcases eQ.mp g with rfl|g
    .exact m
    .exact o.d x g
   dsimp only;generalize D:cls 100 b (t::T) W1=r at k1 k2 k3 k4 k5 k6 k7 k8 h⊢;refine⟨jC (ψ:=bZ _ _)<|eL (e1 T)<|D3 (cx rfl (bg (aM (bA rfl)<|ka a.eq rfl) rfl) (ka (X1<|⊥) rfl)) k1,k2,⟨k3.w,k3.j,?_,?_,?_,?_,h⟩,fun w hw=>b1 w<|v w<|k8 w hw,by mright⟩
   .have:=o.l;lia
   .mright
   .have:=o.t;lia
   .have:=k3.j;have:=o.j;have:=o.k
    mright;lia
def jB(s:Sx):Bool:=s.hd.is "key" "and"||s.hd.is "key" "or"
def jW(s:Sx):Str:=if s.hd.is "key" "and"=G then "and"else "or"
def jf:Nat->Sx->afy->afr->Q Sx (List D×afr)
 |0,s,_,_=>.er s
 |f+1,s,T,W=>if jB s=G then(oC s.tl (settle (gM<|jW s) W T).2<|jW s::(settle (gM<|jW s) W T).1).bind fun p s=>jf f s p.1 p.2 else .ok (T,W) s
def RF(T:afy)(W:afr):D:=(settle 1 W T).2.headD .non
def qk(s:Sx):Q Sx D:=(oC s [] []).bind fun p s=>(jf 30 s p.1 p.2).bind fun p s=>if("(":Str)∈p.2 then .er s else .ok (RF p.1 p.2) s
theorem j_v(h:jB s=G):s.hd.v=.str (jW s)/\qp s.hd.k/\jW s∈W4/\1<=gM (jW s)/\(jW s="and"\/jW s="or"):=by
 delta jB at h;delta jW;cases h1:s.hd.is "key" "and"with
 |true=>
  exact⟨nA h1,eU h1▸fP,⊤,⊤,.inl rfl⟩
 |false=>
  rw[h1]at h;exact⟨nA h,eU h▸fP,⊤,⊤,.inr rfl⟩
abbrev DY(z:Str)(s:Sx)(T:afy)(W:afr):afy:=[pd T W,rs z s]
abbrev kT:lM:=J6 (qL<|dM 1 "Reader" "stands" [0] bO<|aK (ji [1,0]<|vC<|.str "key")<|aK (ji [1,0]<|vC<|.str "and") bj)<|qL<|dM 1 "Reader" "stands" [0] bO<|aK (ji [1,0]<|vC<|.str "key")<|aK (ji [1,0]<|vC<|.str "or") bj
abbrev G3:FM:=dm [0,1] gY<|mw 1<|mw 0 bj
abbrev kB:gi:=bZ (sr 1<|dM 0 "Piles" "add_joint" [0] dX<|aK (ji [1,0]<|aH cR (iw "Reader" "word"<|ag 0)<|vC<|.int 1) bj)<|bZ (sr 1<|dM 1 "Reader" "step" [0] fm bj)<|sr 1 G3
theorem NL(c:Ch z s.ts):kT [U,U] (DY z s T W)=.ok (jB s) (DY z s T W):=by
 delta jB;cases h:s.hd.is "key" "and"with
 |true=>exact NZ<|bw<|cx rfl (bg (aN rfl)<|bg (aN rfl) rfl) (ka (Mx (t:=s.t) (n:=s.n) c.v h) rfl)
 |false=>exact NS (bw<|cx rfl (bg (aN rfl)<|bg (aN rfl) rfl) (ka (Mx (t:=s.t) (n:=s.n) c.v h) rfl))<|bw<|cx rfl rfl (ka (Mx c.v rfl) rfl)
theorem GH:∀(f:Nat)(s:Sx)(T:afy)(W:afr)(g:Nat),Ch z s.ts->AllK s->Af s T W->21-s.t<=f->f<=g->match jf f s T W with
  |.ok p s'=>bV 1 kT kB g [U,U] (DY z s T W)=.nx [U,U] (DY z s' p.1 p.2)/\Ch z s'.ts/\Af s' p.1 p.2/\(∀w∈s'.ts,w∈s.ts)
  |.er s'=>bV 1 kT kB g [U,U] (DY z s T W)=.er "BadQuestion" [rs z s']/\Ch z s'.ts
 |0,s,T,W,g,c,hK,a,hf,hg=>by have:=a.t;lia
 |f+1,s,T,W,0,c,hK,a,hf,hg=>⊥
 |f+1,s,T,W,g+1,c,hK,a,hf,hg=>by
  unfold jf;by_cases h:jB s=G
  .rw[afk h];have B:kT [U,U] (DY z s T W)=.ok G (DY z s T W):=h▸NL c;left;refine Z05 (j_v h) fun O I hw F A=>?_;obtain⟨D,nx⟩:=c.tl I;have p:=a.p;obtain⟨M,E,X,e,P⟩:=pz (gM<|jW s) F W T p.w p.j p.l;right;have R:(settle (gM<|jW s) W T).1.length<=W.length:=by have:=afp acR e;rw[LX]at this;lia
   have H:jn (jW s::(settle (gM<|jW s) W T).1)=jn (settle (gM<|jW s) W T).1+1:=by show(if _ then _ else _)+_=_;rw[afk A,Nat.add_comm]
   have o:Op s.tl (settle (gM<|jW s) W T).2<|jW s::(settle (gM<|jW s) W T).1:=⟨fun x C=>by
     rcases eQ.mp C with rfl|C
     .exact hw
     .exact a.w x (by rw[e];exact OR _ C),by rw[H];exact M,by have:=a.l;simp;show _<=s.n+s.t;lia,a.n,a.t,by rw[H];have:=a.k;have:=a.j;show _<=s.t;lia,oh _ W T a.d⟩
   have hs:=Mq D (fun w hw=>hK w<|dG s w hw) o;have i:∀r,G3 [U,U] (DY z s.tl (settle (gM<|jW s) W T).2<|jW s::(settle (gM<|jW s) W T).1)=r->kB [U,U] (DY z s T W)=sr 1 (fun _ _=>r) [U,U] []:=fun r K=>by
    refine D3 (cx rfl (bg (aN<|ae (ig rfl (mC z s.hd s.t s.n)) rfl (show cR s.hd.d (.int 1)=.ok (.str<|jW s)from by rw[<-O];rfl)) rfl) (ka (Yq p hw F (by have:=p.m;lia)) rfl))<|D3 (cx rfl rfl (ka (step (t:=s.t) (n:=s.n) D.v nx) rfl)) ?_;show(G3 [U,U]<|DY z s.tl (settle (gM<|jW s) W T).2<|jW s::(settle (gM<|jW s) W T).1).bs 1 _=_;rw[K];rfl
   dsimp only[Q.bind];generalize oC s.tl (settle (gM<|jW s) W T).2 (jW s::(settle (gM<|jW s) W T).1)=r at hs;cases r with
   |er s'=>
    obtain⟨⟨q,e1⟩,c2⟩:=hs;exact⟨Em B<|(i _<|aM (bA<|bA rfl)<|vS e1 rfl).trans rfl,c2⟩
   |ok q s'=>
    refine Z05 hs fun e1 c2 N b2 y=>?_;have y:s'.t=s.t+1:=y;have b:=GH f s' q.1 q.2 g c2 (fun w hw=>hK w<|dG s w<|b2 w hw) N (by grind) ⊥;dsimp only;generalize jf f s' q.1 q.2=r2 at b;have u:kB [U,U] (DY z s T W)=.nx [U,U] (DY z s' q.1 q.2):=(i _<|aM (bA<|bA rfl)<|ka e1 rfl).trans rfl;cases r2 with
    |ok q2 E=>exact⟨jM B u b.1,b.2.1,b.2.2.1,fun w hw=>dG s w<|b2 w<|b.2.2.2 w hw⟩
    |er E=>exact⟨jM B u b.1,b.2⟩
  .rw[afl h];exact⟨qw<|aaM.mpr h▸NL c,c,a,fun _ h=>h⟩
theorem HZ(a:Af s T W)(h:("(":Str)∉W):settle 1 W T=([],[RF T W])/\noL (RF T W)=G:=by
 have p:=a.p;obtain⟨c,g,X,e,f⟩:=pz 1 (abU 1) W T p.w p.j p.l;have tp:=rP 1 (abU 1) W T p.w p.j p.l;have nl:=oh 1 W T a.d;delta RF;generalize i:settle 1 W T=r at *;obtain⟨V,S⟩:=r;cases V with
 |cons w r=>
  have:=tp w r rfl
  have hw:w∈W:=by mright
  have b:=a.w w hw;simp only[eQ,aaz,or_false]at b;rcases b with rfl|rfl|rfl|rfl
  .exact absurd hw h
  .have:gM "or"=1:=⊤
   trivial
  .have:gM "and"=2:=⊤
   trivial
  .have:gM "not"=3:=⊤
   trivial
 |nil=>
  have  := c
  match S,this with
  |[t],_=>mright
theorem SK(c:Ch z s.ts)(i:AllK s)(y:s.t=0)(h1:s.n=0):RE z (iS [U] [rs z s]) (qk s)/\∀d s',qk s=.ok d s'->noL d=G/\∀w∈s'.ts,w∈s.ts:=by
 have o:Op s [] []:=⟨fun _ h=>(nomatch h),rfl,aa2 _,by simp_all,by simp_all,aa2 _,fun _ h=>(nomatch h)⟩
 have e:vf 1 1 "Piles" ni bj (aZ 2 [U]) [rs z s]=.nx [U,U] (DY z s [] []):=rfl;have hs:=Mq c i o;delta qk;generalize oC s [] []=r at hs;cases r with
 |er s'=>
  obtain⟨⟨q,e1⟩,c2⟩:=hs;exact⟨⟨ga (ψ:=bZ _ _)<|eL e<|HW<|aM (bA<|bA rfl)<|vS e1 rfl,c2⟩,fun _ _ h=>(nomatch h)⟩
 |ok p s1=>
  refine Z05 hs fun e1 c1 u b1 x=>?_;have m:AllK s1:=fun w hw=>i w<|b1 w hw;have a:=GH (z:=z) 30 s1 p.1 p.2 1000 c1 m u (by mright) ∅;dsimp only[Q.bind];generalize jf 30 s1 p.1 p.2=r2 at a;cases r2 with
  |er v=>exact⟨⟨ga (ψ:=bZ _ _)<|eL e<|D3 (aM (bA<|bA rfl)<|ka e1 rfl)<|lh a.1,a.2⟩,fun _ _ h=>(nomatch h)⟩
  |ok q v=>
   obtain⟨j,c2,f,b2⟩:=a;have b:=UH (T:=q.1) f.w;dsimp only;by_cases h:("(":Str)∈q.2
   .rw[afk h];rw[afn h]at b;exact⟨⟨ga (ψ:=bZ _ _)<|eL e<|D3 (aM (bA<|bA rfl)<|ka e1 rfl)<|eL j<|lh<|kR (bw<|cx rfl rfl (ka b rfl))<|kJ<|aM (bA rfl)<|vS (sP c2) rfl,c2⟩,fun _ _ h=>(nomatch h)⟩
   .rw[afl h];rw[afm h]at b;obtain⟨l,k⟩:=HZ f h;refine⟨⟨cL (ψ:=bZ _ _) ((D3 (aM (bA<|bA rfl)<|ka e1 rfl) (eL j (gG (bw<|cx rfl rfl (ka b rfl)) (eG (cx rfl rfl (ka ((by
      have g:=xj f.p (abU 1);rw[l]at g;exact cL (D3 (cx rfl rfl (kC g)) (eG (aN rfl k))))) rfl))))))),c2⟩,fun d s' h=>?_⟩
    mright
abbrev vT:List<|Str×FF:=Ac.v Yi
theorem Vq:vT.lookup ("read_source":Str)=J iz:=by rfl
theorem Uc:vT.lookup ("read_column":Str)=J io:=by rfl
def ky(f:Sx->Q Sx D):Nat->afy->Sx->Q Sx (afy)
 |0,ds,s=>.ok ds s
 |n+1,ds,s=>if s.hd.is "sign" ","=G then(f s.tl).bind fun d s=>ky f n (ds++[d]) s else .ok ds s
def pF(f:Sx->Q Sx D)(m:Nat)(s:Sx):Q Sx D:=(f s).bind fun d s=>(ky f (m-1) [d] s).bind fun ds s=>.ok (.tup ds) s
structure One(z:Str)(g:Str)(f:Sx->Q Sx D):Prop where
 e:∃F,vT.lookup g=J F/\∀s,Ch z s.ts->RE z (F [U] [rs z s]) (f s)
 l:∀s d s',Ch z s.ts->f s=.ok d s'->noL d=G
abbrev zC(z:Str)(s:Sx)(ds:afy):afy:=[.lst ds,rs z s]
abbrev dl(g:Str)(m:Nat):Sd:=[U,J<|.cls g,J<|.int m,U]
abbrev wT:lM:=xg (uv [3,0]<|dC<|aH zF (aI cr<|ak (ag 3) aQ)<|ag 2)<|qL<|dm [0] fR<|mw 1<|aK (ji [3,0]<|vC<|.str "sign")<|aK (ji [3,0]<|vC<|.str ",") bj
abbrev wB:gi:=sr 1 fun Y L=>if(xm L 0).isSome=G then L3 0 (aK (fY 1 vT [0]<|mw 1 bj) bj) Y L else .no
theorem Nt(O:One z g f)(m:Nat)(A:m<=100):∀(n:Nat)(ds:afy)(s:Sx)(k:Nat),Ch z s.ts->ds.length+n=m->n<k->(∀d∈ds,noL d=G)->match ky f n ds s with
  |.ok a s'=>bV 1 wT wB k (dl g m) (zC z s ds)=.nx (dl g m) (zC z s' a)/\Ch z s'.ts/\(∀d∈a,noL d=G)/\a.length<=m
  |.er s'=>bV 1 wT wB k (dl g m) (zC z s ds)=.er "BadQuestion" [rs z s']/\Ch z s'.ts
 |n,ds,s,0,c,hl,hk,hd=>⊥
 |0,ds,s,k+1,c,hl,hk,hd=>by
  have p:dC (aH zF (aI cr<|ak (ag 3) aQ)<|ag 2) (fill [3,0] (zC z s ds)<|dl g m)=.ok η:=ao<|ae (lf rfl rfl) rfl (by show R.ok (D.bl<|decide ((ds.length:Int)<(m:Int)))=_;rw[afm<|⊥]);exact⟨qw<|Gh<|aR p,c,hd,⊥⟩
 |n+1,ds,s,k+1,c,hl,hk,hd=>by
  have p:dC (aH zF (aI cr<|ak (ag 3) aQ)<|ag 2) (fill [3,0] (zC z s ds)<|dl g m)=.ok G:=ao<|ae (lf rfl rfl) rfl (by show R.ok (D.bl<|decide ((ds.length:Int)<(m:Int)))=_;rw[afn<|⊥]);unfold ky;by_cases h:s.hd.is "sign" ","=G
  .rw[afk h];obtain⟨w,nx⟩:=c.tl<|eU h▸gv;have u:wT (dl g m) (zC z s ds)=.ok G (zC z s.tl ds):=vU (aR p)<|bw<|aM (bA<|bg (aN rfl)<|bg (aN rfl) rfl)<|ka (ju (t:=s.t) (n:=s.n) c.v h w.v nx) rfl;obtain⟨F,e1,E⟩:=O.e;have i:=E s.tl w;have y:∀r,fU [0] F [.ob 1] (zC z s.tl ds)=r->fY 1 vT [0] (mw 1 bj) (dl g m) (zC z s.tl ds)=r:=fun r B=>by
    show(match vT.lookup g with|some F=>_|none=>_)=_
    rw[e1];exact B
   dsimp only[Q.bind];cases h1:f s.tl with
   |er b=>
    rw[h1]at i;have q:wB (dl g m) (zC z s.tl ds)=.er "BadQuestion" [rs z b]:=kJ (φ:=fun Y L=>if(xm L 0).isSome=G then L3 0 (aK (fY 1 vT [0]<|mw 1 bj) bj) Y L else .no) (μ1:=zC z b ds) (by
     show(aK (fY 1 vT [0] (mw 1 bj)) bj (dl g m) (zC z s.tl ds)).bind _=_;rw[Bg (y _ (vS i.eq rfl))];rfl)
    exact⟨Em u q,i.ch⟩
   |ok d b=>
    rw[h1]at i;have C:=O.l s.tl d b w h1;have q:wB (dl g m) (zC z s.tl ds)=.nx (dl g m) (zC z b<|ds++[d]):=il (d:=.non) (by
     show(aK (fY 1 vT [0] (mw 1 bj)) bj (dl g m) (zC z s.tl ds)).bind _=_;rw[bg (y _ (ka i.eq rfl)) rfl];show(if ds.length<1000000 then _ else _)=_;rw[afk ⊥];rfl)
    have o:=Nt O m A n (ds++[d]) b k i.ch (by simp;lia) (by mright) fun x j=>by
     rcases BY.mp j with j|j
     .exact hd x j
     .rw[IF.mp j];exact C
    dsimp only;generalize ky f n (ds++[d]) b=r at o;cases r with
    |ok a s'=>exact⟨jM u q o.1,o.2⟩
    |er s'=>exact⟨jM u q o.1,o.2⟩
  .rw[afl h];exact⟨qw<|vU (aR p)<|bw<|aM rfl (ka (lL c.v<|aaM.mpr h) rfl),c,hd,⊥⟩
theorem wu:∀{ds:afy},(∀d∈ds,noL d=G)->noL (.tup ds)=G
 |[],_=>rfl
 |d::ds,h=>by
  show(noL d&&JZ ds)=G;have  := wu fun x a=>h x<|ie _ a;rw[h d aax];exact this
theorem Mc(O:One z g f)(m:Nat)(o:m<=100)(h1:1<=m)(c:Ch z s.ts):RE z (sF [U,J<|.cls g,J<|.int m] [rs z s]) (pF f m s)/\∀d s',pF f m s=.ok d s'->noL d=G:=by
 obtain⟨F,e1,u⟩:=O.e;have a:=u s c;have n:∀r,fU [0] F [.ob 0] [rs z s]=r->fY 1 vT [0] (mw 0 bj) (dl g m) [rs z s]=r:=fun r p=>by
  show(match vT.lookup g with|some F=>_|none=>_)=_
  rw[e1];exact p
 delta pF;cases h2:f s with
 |er b=>
  rw[h2]at a;refine⟨⟨ga (ψ:=bZ _ _)<|lh ?_,a.ch⟩,fun _ _ h=>nomatch h⟩
  show(aK (fY 1 vT [0]<|mw 0 bj) bj (dl g m) [rs z s]).bs 1 _=_;rw[Bg<|n _<|vS a.eq rfl];rfl
 |ok d b=>
  rw[h2]at a;have w:=O.l s d b c h2;have k:P3 1 3 (aK (fY 1 vT [0]<|mw 0 bj) bj) (aZ 4 [U,J<|.cls g,J<|.int m]) [rs z s]=.nx (dl g m) (zC z b [d]):=by
   show(aK (fY 1 vT [0]<|mw 0 bj) bj (dl g m) [rs z s]).bs 1 _=_;rw[bg (n _<|ka a.eq rfl) rfl];rfl
  have i:=Nt O m o (m-1) [d] b 1000 a.ch (by simp;mright) ⊥ fun x y=>by mright
  dsimp only[Q.bind];generalize ky f (m-1) [d] b=r at i;cases r with
  |er v=>exact⟨⟨ga<|eL k<|lh i.1,i.2⟩,fun _ _ h=>nomatch h⟩
  |ok ds v=>
   refine Z04 i fun t q j A=>?_;refine⟨⟨cL<|eL k<|eL t<|eG<|aN (((?_)))<|wu j,q⟩,fun d' s' h=>?_⟩
   .rfl
   .nofun;exact wu j
theorem Md(c:Ch z s.ts)(h:uC s=.ok d s'):noL d=G:=by
 delta uC at h;cases h1:b8 "name" s with
 |er _=>rw[h1]at h;nofun
 |ok a f=>
  rw[h1]at h;change (if _ then _ else _)=_ at h
  have e:=(lj c h1).noL;have c1  := by have:=(og c mF).ch;rw[h1]at this;exact this
  cbv
  .cases h2:b8 "name" f with
   |er _=>rw[h2]at h;nofun
   |ok b g=>
    rw[h2]at h;nofun;show(noL a&&(noL b&&G))=G;rw[e,(lj c1 h2).noL];rfl
  .nofun;show(noL a&&(noL a&&G))=G;rw[e];rfl
theorem TF:One z "read_order" yV:=⟨⟨_,(by rfl),fun s c=>(by
  refine pW (f7 (rc rfl (Rh c)) fun a b e c1=>?_) ⟨rfl,rfl⟩;exact zb (eS (wD (mU rfl (qY c e) (ri (rc rfl (WU c1 fP)))) fun ds s h=>by nofun;exact ab4 rfl)) rfl)⟩,fun s d s' c h=>(by
  delta yV at h;cases h1:ng s with
  |er _=>rw[h1]at h;nofun
  |ok a b=>
   rw[h1]at h;nofun;show(noL a&&(G&&G))=G;rw[qY c h1];rfl)⟩
def vM(s:Sx):Q Sx D:=(dq "key" "by" s).bind fun _ s=>pF yV 8 s
theorem Je(c:Ch z s.ts)(h:vM s=.ok d s'):noL d=G:=by
 delta vM at h;have b:=sq (x:="by") c fP;cases h1:dq "key" "by" s with
 |er _=>rw[h1]at h;nofun
 |ok a e=>
  rw[h1]at h b;exact(Mc TF 8 ∅ ∅ b.ch).2 d s' h
def iy(k:Str)(f:Sx->Q Sx D)(d:D)(s:Sx):Q Sx D:=if s.hd.is "key" k=G then f s.tl else .ok d s
theorem Rz(c:Ch z s.ts)(e:s.hd.is "key" k=G->Ch z s.tl.ts->RE z (φ Y [rs z s.tl]) (f s.tl))(hd:s.hd.is "key" k=η->ψ (fill [0] [rs z s] Y)=.ok d)(i:autoParam (noL d=G) Xaz):
  RE z (Nf (qL<|dm [0] fR<|mw 0<|aK (ji [0]<|vC<|.str "key")<|aK (ji [0]<|vC<|.str k) bj) φ (ji [0] ψ) Y [rs z s]) (iy k f d s):=by
 delta iy;by_cases h:s.hd.is "key" k=G
 .rw[h];obtain⟨b,j⟩:=c.tl<|eU h▸fP;have g:=e h b;exact⟨N3 (bw<|aM rfl (ka (ju c.v h b.v j) rfl)) g.eq,g.ch⟩
 .rw[afl h];have a:=aaM.mpr h;exact⟨MN (bw<|aM rfl (ka (lL c.v a) rfl))<|aN (hd a) i,c⟩
theorem De(b:Keeps f)(m:Nat):Keeps<|pF f m:=by
 have e:∀n ds,Keeps<|ky f n ds:=fun n=>by
  induction n with
  |zero=>exact fun ds s a s' h=>by nofun;exact⟨rfl,rfl⟩
  |succ n c=>
   intro ds s a s' h;unfold ky at h;cbv
   .have:=cj b (fun d=>c<|ds++[d]) s.tl a s' h
    exact⟨this.1,this.2⟩
   mright
 exact cj b fun d=>cj (e _ _) fun ds=>n8
theorem sX(b:nV f)(m:Nat):nV<|pF f m:=by
 have e:∀n ds,nV<|ky f n ds:=fun n=>by
  induction n with
  |zero=>exact fun ds s a s' h=>by nofun;exact fun _ h=>h
  |succ n c=>
   intro ds s a s' h;unfold ky at h;cbv
   .exact fun w hw=>dG s w<|cz b (fun d=>c<|ds++[d]) s.tl a s' h w hw
   .mright
 exact cz b fun d=>cz (e _ _) fun ds=>rC
theorem Gn:Keeps uC/\nV uC:=by
 constructor
 .refine cj jq fun t s a s' h=>?_;cbv
  .exact cj jq (fun b=>n8 (f:=fun _=>D.tup [t,b])) s a s' h
  mright
 .refine cz lJ fun t s a s' h=>?_;cbv
  .exact cz lJ (fun b=>rC (f:=fun _=>D.tup [t,b])) s a s' h
  .mright
theorem ER:nV yV:=fun s a s' h=>by
 delta yV at h;cases h1:ng s with
 |er _=>rw[h1]at h;nofun
 |ok b c=>
  rw[h1]at h;nofun
  have:=su s b c h1
  intro w hw;refine this w ?_;delta kO at hw;split at hw
  .exact dG c w hw
  .exact hw
def qP(s:Sx):Q Sx D:=(dq "key" "from" s).bind fun _ s=>(pF uC 3 s).bind fun b s=>(iy "where" qk .non s).bind fun d s=>(iy "order" vM (.tup []) s).bind fun os s=>(dq "key" "show" s).bind fun _ s=>(pF ng 8 s).bind fun a s=>(iy "take" zm .non s).bind fun c s=>if s.hd.k="end"then .ok (.tup [.str "ask",b,d,os,a,c]) s else .er s
theorem Gs(a:∀d s',f s.tl=.ok d s'->∀w∈s'.ts,w∈s.tl.ts)(h:iy k f d0 s=.ok d s'):∀w∈s'.ts,w∈s.ts:=by
 delta iy at h;cbv
 .exact fun w hw=>dG s w<|a d s' h w hw
 .mright
theorem vJ(c:Ch z s.ts)(K:AllK s)(S:s.t=0)(h1:s.n=0):RE z (bN [U] [rs z s])<|qP s:=by
 refine C1 (ψ:=bZ _ _)<|zk (rc (bA<|bg qt<|bg qt rfl)<|sq c fP) fun _ s1 q1 c1=>?_;have M:AllK s1:=AllK.of iV K q1;have k1:=mW _ _ _ q1;have r1:=Mc (z:=z) (⟨⟨_,Vq,fun s c=>Wc c⟩,fun s d s' c h=>Md c h⟩) 3 ∎ ∎ c1;refine f7 (rc (bA<|bg qt<|bg qt rfl) r1.1) fun m s2 q2 c2=>?_;have y:AllK s2:=AllK.of (sX Gn.2 3) M q2;have k2:=De Gn.1 3 _ _ _ q2;have N:=r1.2 _ _ q2;have j:s2.hd.is "key" "where"=G->Ch z s2.tl.ts->_:=fun h f=>SK (z:=z) f (fun w hw=>y w<|dG s2 w hw) (show s2.t=0 by lia) (show s2.n=0 by lia);refine f7 (Rz c2 (fun h f=>rc (bA rfl) (j h f).1) fun _=>rfl) fun i s3 a u=>?_;have P:AllK s3:=fun w hw=>y w (by
  delta iy at a;split at a
  .rename_i hh;exact dG s2 w<|((j hh (c2.tl<|eU hh▸fP).1).2 _ _ a).2 w hw
  .cases a;exact hw)
 have C:noL i=G:=by
  unfold iy at a;split at a
  .rename_i hh;exact((j hh (c2.tl<|eU hh▸fP).1).2 _ _ a).1
  .cases a;rfl
 refine f7 (Rz u (fun h f=>rc (bA rfl)<|( C1<|zk (rc rfl (sq f fP)) fun _ s1 _ c1=>eS<|rc rfl (Mc TF 8 ∎ ∎ c1).1)) fun _=>de rfl) fun os s4 g I=>?_;have E:AllK s4:=fun w hw=>P w<|Gs (fun d s' h=>(cz iV fun _=>sX ER 8) _ _ _ h) g w hw;have F:noL os=G:=by
  unfold iy at g;split at g
  .rename_i hh;exact Je (u.tl<|eU hh▸fP).1 g
  .cases g;rfl
 refine zk (rc (bA<|bg qt<|bg qt rfl)<|sq I fP) fun _ s5 Q O=>?_;have H:AllK s5:=AllK.of iV E Q;have o:=Mc (z:=z) (⟨⟨_,Uc,fun s c=>Rh c⟩,fun s d s' c h=>qY c h⟩) 8 ∎ ∎ O;refine f7 (rc (bA<|bg qt<|bg qt rfl) o.1) fun A s6 r v=>?_;have D:AllK s6:=AllK.of (sX su 8) H r;have R:=o.2 _ _ r;refine f7 (Rz v (fun h f=>rc (bA rfl)<|Wh f (show M4 s6.tl.hd from(AllK.hd (s:=s6.tl) fun w hw=>D w<|dG s6 w hw).num)) fun _=>rfl) fun l s7 e p=>?_;have B:noL l=G:=by
  unfold iy at e;split at e
  .rename_i hh;delta zm at e;split at e
   .cases e
   .exact(lj (v.tl<|eU hh▸fP).1 e).noL
  .cases e;rfl
 have x:∀b,(!decide (s7.hd.k="end"))=b->dC (aH xF (aH cR (iw "Reader" "word"<|ag 0)<|vC<|.int 0)<|vC<|.str "end") (fill [0] [rs z s7] [U,J m,J i,J os,J A,J l])=.ok b:=fun b h=>h▸ao (ae (ae (ig rfl (mC z s7.hd s7.t s7.n)) rfl rfl) rfl vE);by_cases h:s7.hd.k="end"
 .rw[afk h];refine Ek (aR<|x η<|by simp[h])<|eS<|x8 p rfl ?_;show(G&&(noL m&&(noL i&&(noL os&&(noL A&&(noL l&&G))))))=G;rw[N,C,F,R,B];rfl
 .rw[afl h];exact zD (aR<|x G<|by simp[h])<|Bi (q:=.er s7)<|rc rfl (Jz p)
structure Toks(z:Str)(ts:List Tok):Prop where
 c:Ch z ts
 k:∀w∈ts,KOk w
 f:dt [.str z,.int 0]=.ok (Sx.hd ⟨ts,0,0⟩).d
theorem made(h:Toks z ts):M9 "Reader" bE [.pl<|.str z]=J (rs z ⟨ts,0,0⟩):=by
 have e:bE [U,J<|.str z] [.obj "Reader" []]=.ok .non [rs z ⟨ts,0,0⟩]:=
  jC (ψ:=bZ _ _) (eL rfl (eL (ED (aN (h.f) (by show(noL (Sx.hd ⟨ts,0,0⟩).v&&G)=G;rw[(Ch.v h.c).noL];rfl)) rfl) rfl))
 show(match bE [U,J<|.str z] [.obj "Reader" []]with|.ok .non [d]=>J d|_=>U)=_
 rw[e]
theorem Vx(h:Toks z ts):wm [J<|.str z] []=match qP ⟨ts,0,0⟩with
  |.ok d _=>.ok d []
  |.er _=>.er "BadQuestion" []:=by
 have q:=vJ (s:=⟨ts,0,0⟩) h.c h.k rfl rfl;have f:qN (lP<|aI LP<|ak (ag 0)<|ak (vC<|.ty "str") aQ) (fill [] []<|aZ 1 [J<|.str z])=.ok η:=qj<|eV (af (ac rfl (ac rfl rfl)) rfl) rfl;have a:∀r,(match bN [U] [rs z ⟨ts,0,0⟩]with|.ok d _=>RM.ok d []|.er x _=>.er x []|.no=>.no)=r->xw "Reader" bE bN (aK (ji []<|ag 0) bj) ([J<|.str z]) []=r:=fun r b=>by
  show(match M9 "Reader" bE [.pl<|.str z]with|some d=>_|none=>_)=_
  rw[made h];exact b
 have e:=q.eq;cases h2:qP ⟨ts,0,0⟩with
 |ok d s=>rw[h2]at e;exact cL<|(eG<|a _<|by rw[e])
 |er s=>rw[h2]at e;exact ga<|(Cy<|a _<|by rw[e])
theorem A0(h:Toks z ts):calmO kx [.str z]=.ok (match qP ⟨ts,0,0⟩with
  |.ok d _=>d
  |.er _=>.non):=by
 have r:=Vx h;have e:kx [J<|.str z] []=.ok (match qP ⟨ts,0,0⟩with|.ok d _=>d|.er _=>.non) []:=by
  have a:∀r,fU [] wm [.pl<|.str z] []=r->dm [] wm (aK (ji []<|ag 0) bj) (aZ 1 [J<|.str z]) []=r:=fun r b=>b;refine cL (ψ:=sO _ _ _ _ _) ?_;delta sO;cases h2:qP ⟨ts,0,0⟩with
  |ok d s=>
   rw[h2]at r;rw[a _<|ka r rfl];rfl
  |er s=>
   rw[h2]at r;rw[a _<|vS r rfl];rfl
 delta calmO;mright
theorem GG(h:Toks z ts):calmO gL [.str z]=.ok (match qP ⟨ts,0,0⟩with
  |.ok _ _=>.non
  |.er s=>.int s.hd.a):=by
 have q:=vJ (s:=⟨ts,0,0⟩) h.c h.k rfl rfl;have f:vf 0 1 "Reader" bE (aK (ji []<|ag 0) bj) (aZ 2 [J<|.str z]) []=.nx [J<|.str z,U] [rs z ⟨ts,0,0⟩]:=by
  show(match M9 "Reader" bE [.pl<|.str z]with|some d=>_|none=>_)=_
  rw[made h];rfl
 have e:gL [J<|.str z] []=.ok (match qP ⟨ts,0,0⟩with|.ok _ _=>.non|.er s=>.int s.hd.a) []:=by
  have b:∀r,fU [0] bN [.ob 0] [rs z ⟨ts,0,0⟩]=r->dm [0] bN (mw 0 bj) [J<|.str z,U] [rs z ⟨ts,0,0⟩]=r:=fun r g=>g;refine cL<|eL f ?_;have eq:=q.eq;cases h2:qP ⟨ts,0,0⟩with
  |ok d s=>
   rw[h2]at eq;refine eL (δ':=[J<|.str z,U]) (μ1:=[rs z s]) ?_ rfl;delta yW;rw[b _<|ka eq rfl];rfl
  |er s=>
   rw[h2]at eq;refine BS ?_;delta yW;rw[b _<|vS eq rfl];rfl
 delta calmO;mright
abbrev Kv:=Str×D
def Tok.kv(w:Tok):Kv:=(w.k,w.v)
def Vs(s:Sx)(l:List Kv):Prop:=s.ts.map Tok.kv=l
theorem Vs.hd(h:Vs s<|x::l):s.hd.k=x.1/\s.hd.v=x.2/\Vs s.tl l:=by
 obtain⟨a,t,n⟩:=s;cases a with
 |nil=>nofun
 |cons w r=>
  have h'  := h;cases h';exact⟨rfl,rfl,rfl⟩
abbrev kN(x:Str):Kv:=("name",.str x)
abbrev kK(x:Str):Kv:=("key",.str x)
abbrev kS(x:Str):Kv:=("sign",.str x)
theorem Vs.is(h:Vs s<|(k,.str x)::l)(b a:Str):s.hd.is b a=(decide (k=b)&&decide (x=a)):=by
 delta Tok.is;rw[h.hd.1,h.hd.2.1];rfl
theorem sG(h:Vs s<|(k,.str x)::l):dq k x s=.ok .non s.tl:=afk (by rw[h.is];simp)
theorem lG(h:Vs s<|(k,v)::l):b8 k s=.ok v s.tl:=by
 have:=p8 h.hd.1
 rw[this,h.hd.2.1]
inductive Sde where
 |col (a b:Str)|non|int (i:Int)|txt (x:Str)
noncomputable def Sde.d:Sde->D
 |.col a b=>.tup [.str "column",.str a,.str b]
 |.non=>.tup [.str "value",.non]
 |.int i=>.tup [.str "value",.int i]
 |.txt x=>.tup [.str "value",.str x]
noncomputable def Sde.w:Sde->List Kv
 |.col a b=>[kN a,kS ".",kN b]
 |.non=>[kK "none"]
 |.int i=>[("number",.int i)]
 |.txt x=>[("text",.str x)]
theorem MM(h:Vs s<|kN a::kS "."::kN b::l):∃s',ng s=.ok (.tup [.str "column",.str a,.str b]) s'/\Vs s' l/\s'.t=s.t/\s'.n=s.n:=by
 have h1:=h.hd.2.2;have h2:=h1.hd.2.2;refine⟨s.tl.tl.tl,?_,h2.hd.2.2,rfl,rfl⟩;delta ng;rw[lG h];show(dq "sign" "." s.tl).bind _=_;rw[sG h1];show(b8 "name" s.tl.tl).bind _=_;rw[lG h2];rfl
theorem Ui(a:Sde)(h:Vs s<|a.w++l):∃s',rf s=.ok a.d s'/\Vs s' l/\s'.t=s.t/\s'.n=s.n:=by
 cases a with
 |col a b=>
  obtain⟨s',e,r⟩:=MM h;refine⟨s',?_,r⟩;delta rf;rw[h.hd.1,e];rfl
 |non=>
  refine⟨s.tl,?_,h.hd.2.2,rfl,rfl⟩;have c:=h.hd.1;delta rf;rw[afl<|by rw[c];trivial,afl<|by rw[c];trivial,sG h];rfl
 |int i=>
  refine⟨s.tl,?_,h.hd.2.2,rfl,rfl⟩;have c:s.hd.k="number":=h.hd.1;delta rf;rw[afl<|by rw[c];trivial,afk<|.inl c,h.hd.2.1];rfl
 |txt x=>
  refine⟨s.tl,?_,h.hd.2.2,rfl,rfl⟩;have c:s.hd.k="text":=h.hd.1;delta rf;rw[afl<|by rw[c];trivial,afk<|.inr c,h.hd.2.1];rfl
inductive Cn where
 |test (g:Str) (a b:Sde)|not (c:Cn)|and (a b:Cn)|or (a b:Cn)
def Cn.d:Cn->D
 |.test g a b=>.tup [.str "test",.str g,a.d,b.d]
 |.not c=>.tup [.str "not",c.d]
 |.and a b=>.tup [.str "and",a.d,b.d]
 |.or a b=>.tup [.str "or",a.d,b.d]
noncomputable def Cn.lv:Cn->Int
 |.or _ _=>1
 |.and _ _=>2
 |_=>3
def xG(b:Bool)(l:List Kv):List Kv:=if b=G then kS "("::(l++[kS ")"])else l
def Cn.w:Cn->List Kv
 |.test g a b=>a.w++kS g::b.w
 |.not c=>kK "not"::xG (decide (c.lv<3)) c.w
 |.and a b=>xG (decide (a.lv<2)) a.w++kK "and"::xG (decide (b.lv<3)) b.w
 |.or a b=>a.w++kK "or"::xG (decide (b.lv<2)) b.w
noncomputable def Cn.tests:Cn->Nat
 |.test _ _ _=>1
 |.not c=>c.tests
 |.and a b=>a.tests+b.tests
 |.or a b=>a.tests+b.tests
def Cn.opened:Cn->Nat
 |.test _ _ _=>0
 |.not c=>1+(decide (c.lv<3)).toNat+c.opened
 |.and a b=>(decide (a.lv<2)).toNat+(decide (b.lv<3)).toNat+a.opened+b.opened
 |.or a b=>(decide (b.lv<2)).toNat+a.opened+b.opened
def Cn.Ok:Cn->Prop
 |.test g _ _=>g∈(["=","<>","<","<=",">",">="]:afr)
 |.not c=>c.Ok
 |.and a b=>a.Ok/\b.Ok
 |.or a b=>a.Ok/\b.Ok
theorem Cn.pos(c:Cn):1<=c.tests:=by
 induction c with
 |test=>exact mK _
 |not c d=>exact d
 |and a b i j=>unfold Cn.tests;lia
 |or a b i j=>unfold Cn.tests;lia
def KG(p:List D×afr)(s:Sx):Q Sx D:=if("(":Str)∈p.2 then .er s else .ok (RF p.1 p.2) s
def Aq(f:Nat)(s:Sx)(T:afy)(W:afr):Q Sx D:=(jf f (cls 100 s T W).1 (cls 100 s T W).2.1 (cls 100 s T W).2.2).bind KG
def Oq(f:Nat)(s:Sx)(T:afy)(W:afr):Q Sx D:=(xD 30 s W).bind fun W s=>(qV s).bind fun t s=>Aq f s (t::T) W
theorem EK(f:Nat)(s:Sx)(T:afy)(W:afr):((oC s T W).bind fun p s=>(jf f s p.1 p.2).bind KG)=Oq f s T W:=by
 delta oC Oq;rw[wk];congr 1;funext W s
 rw[wk];rfl
theorem Q5(s:Sx):qk s=Oq 30 s [] []:=EK 30 s [] []
theorem xN:∀(f:Nat)(s:Sx)(W:afr),21-s.n<=f->s.n<=20->xD f s W=xD (f+1) s W
 |0,s,W,h,h2=>⊥
 |f+1,s,W,h,h2=>by
  rw[xD,xD];split
  .split
   .rfl
   .exact xN f _ _ (by grind) ⊥
  .rfl
theorem Ft(h:iq s=G)(a:s.n<20):Oq f s T W=Oq f {s.tl with n:=s.n+1} T (mv s::W):=by
 have e:xD 30 s W=xD 30 {s.tl with n:=s.n+1} (mv s::W):=by
  rw[xD,afk h,afl<|⊥];exact xN 29 _ _ (by omega) (by assumption)
 delta Oq;rw[e]
theorem Ra(h:iq s=η):Oq f s T W=(qV s).bind fun t s=>Aq f s (t::T) W:=by
 have e:xD 30 s W=.ok W s:=by rw[xD,afl<|by simp_all]
 delta Oq;rw[e];rfl
theorem rO(b:Int):∀(W:afr)(T:afy),(settle b W T).1.length<=W.length
 |[],T=>mK _
 |w::W,T=>by
  unfold settle;split
  .split
   .cases T with
    |nil=>exact mK _
    |cons t T=>exact aa3<|rO b W _
   .match T with
    |[]=>exact mK _
    |[_]=>simp
    |t2::t1::T=>exact aa3<|rO b W _
  .simp
theorem xM:∀(f:Nat)(s:Sx)(T:afy)(W:afr),W.length<f->cls f s T W=cls (f+1) s T W
 |0,s,T,W,h=>absurd h<|aef _
 |f+1,s,T,W,h=>by
  rw[cls,cls];split
  .refine xM f _ _ _ ?_;have h1:=rO 1 W T;show(settle 1 W T).1.tail.length<f
   grind
  .rfl
theorem Lu(a:("(":Str)∈W)(h:s.hd.is "sign" ")"=G)(b:W.length<=90):Aq f s T W=Aq f s.tl (eO T W).2 (eO T W).1:=by
 have e:cls 100 s T W=cls 100 s.tl (eO T W).2 (eO T W).1:=by
  rw[cls,afk ⟨a,h⟩];refine xM 99 _ _ _ ?_;have h1:=rO 1 W T;show(settle 1 W T).1.tail.length<99
  grind
 delta Aq;rw[e]
theorem BZ{s:Sx}(h:s.hd.is "sign" ")"=η)(a:jB s=G):Aq (f+1) s T W=Oq f s.tl (settle (gM<|jW s) W T).2 (jW s::(settle (gM<|jW s) W T).1):=by
 have e:cls 100 s T W=(s,T,W):=by rw[cls,afl fun y=>⊥]
 delta Aq;rw[e];rw[jf,afk a,wk];exact EK f _ _ _
theorem Sj(h:s.hd.is "sign" ")"=η)(a:jB s=η):Aq (f+1) s T W=KG (T,W) s:=by
 have e:cls 100 s T W=(s,T,W):=by rw[cls,afl fun y=>by simp_all]
 delta Aq;rw[e];rw[jf,afl<|by simp_all];rfl
def XF:afr->Int
 |[]=>0
 |w::_=>gM w
def VW(c:Cn)(W:afr):Prop:=c.lv=3\/XF W<c.lv
structure Rd(f:Nat)(s:Sx)(T:afy)(W:afr)(d:D)(b:Int)(j k o:Nat)(l:List Kv):Prop where
 ex:∃ts ws s',Oq (f+j) s T W=Aq f s' (ts++T) (ws++W)/\Vs s' l/\s'.t=s.t+k/\s'.n=s.n+o/\ws.length<=j+o/\∀b',b'<=b->1<=b'->∀T W,settle b' (ws++W) (ts++T)=settle b' W (d::T)
theorem JL(h:Vs s<|x::l)(c:x≠kK "not"/\x≠kS "("):iq s=η:=by
 have e:s.hd.kv=x:=by obtain⟨a,b,_⟩:=h.hd;delta Tok.kv;rw[a,b]
 delta iq;rw[acK];constructor
 .refine aaM.mpr fun z=>c.1 ?_;rw[<-e];delta Tok.kv;rw[eU z,nA z]
 .refine aaM.mpr fun z=>c.2 ?_;rw[<-e];delta Tok.kv;rw[eU z,nA z]
theorem gW(h:a≠k):((a,d):Kv)≠(k,e):=fun z=>h<|afp Prod.fst z
theorem LJ(a:Sde):∃x r,a.w=x::r/\x≠kK "not"/\x≠kS "(":=by
 cases a with
 |col a b=>exact⟨_,_,rfl,gW<|⊤,gW<|⊤⟩
 |non=>exact⟨kK "none",[],rfl,fun z=>absurd (D.str.inj<|afp abd z)<|⊤,gW<|⊤⟩
 |int i=>exact⟨_,_,rfl,gW<|⊤,gW<|⊤⟩
 |txt x=>exact⟨_,_,rfl,gW<|⊤,gW<|⊤⟩
theorem Cn.lv_pos(c:Cn):1<=c.lv:=by cases c<;>simp[Cn.lv]
theorem Tc:gM "("=0:=⊤
theorem Uw(g:Str)(a b:Sde)(k:g∈(["=","<>","<","<=",">",">="]:afr))(h:Vs s<|a.w++kS g::(b.w++l))(r:s.t<20):∃s',qV s=.ok (Cn.test g a b).d s'/\Vs s' l/\s'.t=s.t+1/\s'.n=s.n:=by
 left;obtain⟨q,e1,c,m,j⟩:=Ui (s:={s with t:=s.t+1}) a h;obtain⟨f,e,o,i,p⟩:=Ui b c.hd.2.2;right;refine⟨f,?_,o,i.trans m,p.trans j⟩;delta qV;rw[afl<|⊥,e1];show(if _ then _ else _)=_;rw[afk ⟨c.hd.1,by rw[c.hd.2.1];exact afn k⟩,e,c.hd.2.1];rfl
theorem CI{s:Sx}{w:Str}(a:Vs s<|(k,.str w)::l')(hw:(k="key"/\w="not")\/(k="sign"/\w="("))(b:s.n<20):iq s=G/\mv s=w:=by
 delta iq mv;rw[a.is,a.is]
 lia
theorem B1{c:Cn}(a:Int)(u:∀(f:Nat)(s:Sx)(T:afy)(W:afr)(l:List Kv),Vs s (c.w++l)->s.t+c.tests<=20->s.n+c.opened<=20->W.length<=s.n+s.t->VW c W->Rd f s T W c.d c.lv (c.tests-1) c.tests c.opened l)
  (f:Nat) (s:Sx) (T:afy) (W:afr) (l:List Kv) (i:Vs s<|xG (decide (c.lv<a)) c.w++l) (p:s.t+c.tests<=20) (g:s.n+(decide (c.lv<a)).toNat+c.opened<=20) (A:W.length<=s.n+s.t) (y:decide (c.lv<a)=η->VW c W) (C:a<=3):
  Rd f s T W c.d a (c.tests-1) c.tests ((decide (c.lv<a)).toNat+c.opened) l:=by
 by_cases h:c.lv<a
 .rw[afn h]at i g⊢;have b:Vs s<|kS "("::(c.w++(kS ")"::l)):=by
   have e:xG G c.w++l=kS "("::(c.w++(kS ")"::l)):=by simp[xG]
   rw[<-e];exact i
  have j:s.n+1+c.opened<=20:=g;obtain⟨x,z⟩:=CI b (.inr ⟨rfl,rfl⟩) ⊥;have m:=c.lv_pos;refine Z36 ((u f {s.tl with n:=s.n+1} T ("("::W) (kS ")"::l) b.hd.2.2 p (by show s.n+1+c.opened<=20;exact j) (by show(W.length+1)<=s.n+1+s.t;lia) (.inr (by show gM "("<c.lv;rw[Tc];lia))).ex) fun o ws s' e v t n q st=>?_;have k:eO (o++T) (ws++("(":Str)::W)=(W,c.d::T):=by
   delta eO;rw[st 1 m<|abU 1];rfl
  have t'  := t;have B:s'.n=s.n+1+c.opened:=n;refine⟨[c.d],[],s'.tl,?_,v.hd.2.2,t',by show s'.n=_;simp;lia,aa2 _,fun r _ _ T W=>rfl⟩;rw[Ft x<|⊥,z,e,Lu ∅ (by rw[v.is];simp)<|by simp;lia,k];rfl
 .rw[afm h]at i g⊢;have b  := i
  have:=u f s T W l b p ⊤ A<|y<|afm h
  refine Z36 this.ex fun o ws s' e v t n q st=>?_;exact⟨o,ws,s',e,v,t,by simpa using n,by simpa using q,fun r D=>st r<|⊥⟩
theorem uP:∀(c:Cn),c.Ok->∀(f:Nat)(s:Sx)(T:afy)(W:afr)(l:List Kv),Vs s (c.w++l)->s.t+c.tests<=20->s.n+c.opened<=20->W.length<=s.n+s.t->VW c W->Rd f s T W c.d c.lv (c.tests-1) c.tests c.opened l
 |.test g a b,hc,f,s,T,W,l,hv,ht,hn,hl,hp=>by
  have i:Vs s<|a.w++kS g::(b.w++l):=by
   have e:(Cn.test g a b).w++l=a.w++kS g::(b.w++l):=by simp[Cn.w]
   rw[<-e];exact hv
  left;obtain⟨x,r,e,hx⟩:=LJ a;refine Z14 (Uw g a b hc i (by have:(Cn.test g a b).tests=1:=rfl;lia)) fun s' e1 v t n=>?_;right;refine⟨[(Cn.test g a b).d],[],s',?_,v,t,n,aa2 _,fun _ _ _ _ _=>rfl⟩;rw[e]at i;rw[Ra<|JL i hx,e1];rfl
 |.not c,hc,f,s,T,W,l,hv,ht,hn,hl,hp=>by
  have i:Vs s<|kK "not"::(xG (decide (c.lv<3)) c.w++l):=hv;have A:s.n+(1+(decide (c.lv<3)).toNat+c.opened)<=20:=hn;obtain⟨S,V⟩:=CI i (.inl ⟨rfl,rfl⟩) ⊥;refine Z36 ((B1 3 (uP c hc) f {s.tl with n:=s.n+1} T ("not"::W) l i.hd.2.2 ht (by show s.n+1+_+_<=20;lia) (by show W.length+1<=s.n+1+s.t;lia) (fun h=>.inl (by have:=of_decide_eq_false h;cases c<;>simp[Cn.lv]at this⊢)) (abU 3)).ex) fun C ws s' e v t n R st=>?_;have n':s'.n=s.n+1+((decide (c.lv<3)).toNat+c.opened):=n;refine⟨C,ws++[("not":Str)],s',?_,v,t,by show _=s.n+(1+(decide (c.lv<3)).toNat+c.opened);lia,?_,fun m B h1 T W=>?_⟩
  .rw[Ft S<|⊥,V];rw[aaE];exact e
  .show(ws++[("not":Str)]).length<=(c.tests-1)+(1+(decide (c.lv<3)).toNat+c.opened);simp;lia
  .have hb3:m<=3:=B;rw[aaE];show settle m (ws++(("not":Str)::W)) (C++T)=_;rw[st m hb3 h1,settle,afk (by show m<=gM "not";have:gM "not"=3:=⊤;lia),afk rfl];rfl
 |.and a b,hc,f,s,T,W,l,hv,ht,hn,hl,hp=>by
  have i:Vs s<|xG (decide (a.lv<2)) a.w++(kK "and"::(xG (decide (b.lv<3)) b.w++l)):=by
   have e:(Cn.and a b).w++l=xG (decide (a.lv<2)) a.w++(kK "and"::(xG (decide (b.lv<3)) b.w++l)):=by simp[Cn.w]
   rw[<-e];exact hv
  have A:s.n+((decide (a.lv<2)).toNat+(decide (b.lv<3)).toNat+a.opened+b.opened)<=20:=hn;have Q:s.t+(a.tests+b.tests)<=20:=ht;have pa:=a.pos;have pb:=b.pos;have q:XF W<2:=hp.elim (fun z=>absurd z<|by simp[Cn.lv]) fun z=>z;refine Z36 ((B1 2 (uP a hc.1) (f+(b.tests-1)+1) s T W _ i ⊥ ⊥ hl (fun h=>by have:=of_decide_eq_false h;cases a<;>simp[Cn.lv,VW]at this⊢;exact q)<|∎).ex) fun C ws j e1 p X n1 R st=>?_;have D:jB j=G:=by unfold jB;rw[p.is];simp
  have M:jW j="and":=by unfold jW;rw[p.is];simp
  have b2:gM "and"=2:=⊤
  have N:settle 2 W (a.d::T)=(W,a.d::T):=by
   cases W with
   |nil=>rfl
   |cons w W=>rw[settle,afl (by have h:gM w<2:=q;lia)]
  refine Z36 ((B1 3 (uP b hc.2) f j.tl (a.d::T) ("and"::W) l p.hd.2.2 (by show j.t+_<=20;lia) (by show j.n+_+_<=20;lia) (by show W.length+1<=j.n+j.t;lia) (fun h=>.inl (by have:=of_decide_eq_false h;cases b<;>simp[Cn.lv]at this⊢))<|abU 3).ex) fun o k y O P I K F u=>?_;have H:y.n=j.n+((decide (b.lv<3)).toNat+b.opened):=K;have E:y.t=j.t+b.tests:=I;refine⟨o++[a.d],k++[("and":Str)],y,?_,P,by show _=s.t+(a.tests+b.tests);lia,by show _=s.n+((decide (a.lv<2)).toNat+(decide (b.lv<3)).toNat+a.opened+b.opened);lia,?_,fun m B h1 T W=>?_⟩
  .have ef:f+((Cn.and a b).tests-1)=f+(b.tests-1)+1+(a.tests-1):=by show f+(a.tests+b.tests-1)=_;lia
   rw[ef,e1,BZ (by rw[p.is];decide +kernel) D,M,b2,st 2 (abU 2)<|∎,N,aaE,aaE];exact O
  .show(k++[("and":Str)]).length<=(a.tests+b.tests-1)+((decide (a.lv<2)).toNat+(decide (b.lv<3)).toNat+a.opened+b.opened);simp;lia
  .have hb2:m<=2:=B;rw[aaE,aaE];show settle m (k++(("and":Str)::W)) (o++(a.d::T))=_;rw[u m ⊥ h1,settle,afk<|by rw[b2];lia,afl<|⊤];rfl
 |.or a b,hc,f,s,T,W,l,hv,ht,hn,hl,hp=>by
  have i:Vs s<|a.w++(kK "or"::(xG (decide (b.lv<2)) b.w++l)):=by
   have e:(Cn.or a b).w++l=a.w++(kK "or"::(xG (decide (b.lv<2)) b.w++l)):=by simp[Cn.w]
   rw[<-e];exact hv
  have A:s.n+((decide (b.lv<2)).toNat+a.opened+b.opened)<=20:=hn;have Q:s.t+(a.tests+b.tests)<=20:=ht;have pa:=a.pos;have pb:=b.pos;have q:XF W<1:=hp.elim (fun z=>absurd z<|by simp[Cn.lv]) fun z=>z;have la:=a.lv_pos;left;refine Z36 ((uP a hc.1 (f+(b.tests-1)+1) s T W _ i ⊥ ⊥ hl<|.inr<|⊥).ex) fun C ws j e1 p X n1 R st=>?_;have D:jB j=G:=by unfold jB;rw[p.is,p.is];simp
  have M:jW j="or":=by
   unfold jW;rw[p.is]
   have:(decide (lE "key"=lE "key")&&decide (lE "or"=lE "and"))=η:=⊤
   rw[this,afl MK]
  have b2:gM "or"=1:=⊤
  have N:settle 1 W (a.d::T)=(W,a.d::T):=by
   cases W with
   |nil=>rfl
   |cons w W=>rw[settle,afl (by have h:gM w<1:=q;lia)]
  refine Z36 ((B1 2 (uP b hc.2) f j.tl (a.d::T) ("or"::W) l p.hd.2.2 (by show j.t+_<=20;lia) (by show j.n+_+_<=20;lia) (by show W.length+1<=j.n+j.t;lia) (fun h=>.inr (by show gM "or"<b.lv;have:=of_decide_eq_false h;lia))<|∎).ex) fun o k y O P I K F u=>?_;right;have H:y.n=j.n+((decide (b.lv<2)).toNat+b.opened):=K;have E:y.t=j.t+b.tests:=I;refine⟨o++[a.d],k++[("or":Str)],y,?_,P,by show _=s.t+(a.tests+b.tests);lia,by show _=s.n+((decide (b.lv<2)).toNat+a.opened+b.opened);lia,?_,fun m B h1 T W=>?_⟩
  .have ef:f+((Cn.or a b).tests-1)=f+(b.tests-1)+1+(a.tests-1):=by show f+(a.tests+b.tests-1)=_;lia
   rw[ef,e1,BZ (by rw[p.is];decide +kernel) D,M,b2,st 1 la<|∎,N,aaE,aaE];exact O
  .show(k++[("or":Str)]).length<=(a.tests+b.tests-1)+((decide (b.lv<2)).toNat+a.opened+b.opened);simp;lia
  .have hb2:m<=1:=B;rw[aaE,aaE];show settle m (k++(("or":Str)::W)) (o++(a.d::T))=_;rw[u m ⊥ h1,settle,afk<|by rw[b2];lia,afl<|⊤];rfl
theorem PB(c:Cn)(o:c.Ok)(u:Vs s<|c.w++x::l)(A:s.t=0)(E:s.n=0)(h1:c.tests<=20)(h2:c.opened<=20)(g:x≠kK "and"/\x≠kK "or"/\x≠kS ")"):∃s',qk s=.ok c.d s'/\Vs s' (x::l):=by
 have C:=c.pos;refine Z36 ((uP c o (30-(c.tests-1)) s [] [] (x::l) u ⊥ (by mright) (aa2 _)<|.inr (by show(0:Int)<c.lv;have:=c.lv_pos;trivial)).ex) fun r ws s' e v t n B st=>?_;have q:s'.hd.kv=x:=by obtain⟨a,b,_⟩:=v.hd;delta Tok.kv;rw[a,b]
 have f:∀k y,x≠((k,.str y):Kv)->s'.hd.is k y=η:=fun k y h=>aaM.mpr fun z=>h (by rw[<-q];delta Tok.kv;rw[eU z,nA z]);have j:=st 1 c.lv_pos (abU 1) [] [];rw[aaJ,aaJ]at j;have p:settle 1 ws r=([],[c.d]):=j;refine⟨s',?_,v⟩;have m:30-(c.tests-1)+(c.tests-1)=30:=⊥
 rw[m]at e;rw[Q5,e,show 30-(c.tests-1)=(29-(c.tests-1))+1 by grind,Sj (f _ _ g.2.2)<|by delta jB;rw[f _ _ g.1,f _ _ g.2.1];rfl,aaJ,aaJ];delta KG;have i:("(":Str)∉ws:=fun z=>by
  have F:∀(W:afr)(T:afy),("(":Str)∈W->("(":Str)∈(settle 1 W T).1:=fun W=>by
   induction W with
   |nil=>intro T h;nofun
   |cons w W D=>
    intro T h;unfold settle;split
    .rename_i i;have hw:("(":Str)∈W:=by
      rcases eQ.mp h with h|h
      .rw[<-h,Tc]at i;lia
      .exact h
     grind
    .exact h
  grind
 rw[afl i];delta RF;rw[p];rfl
def Reads{β:Type}(f:Sx->Q Sx D)(w:β->List Kv)(d:β->D)(N:Kv->Prop):Prop:=∀b s y l,N y->Vs s (w b++y::l)->∃s',f s=.ok (d b) s'/\Vs s' (y::l)/\s'.t=s.t/\s'.n=s.n
noncomputable def cJ{β:Type}(w:β->List Kv):List β->List Kv
 |[]=>[]
 |b::bs=>kS ","::(w b++cJ w bs)
section
variable{β:Type}{f:Sx->Q Sx D}{w:β->List Kv}{d:β->D}{N:Kv->Prop}
theorem HB(R:Reads f w d N)(o:N<|kS ",")(m:N y)(c:y≠kS ","):∀(bs:List β)(n:Nat)(ds:afy)(s:Sx),bs.length<=n->Vs s (cJ w bs++y::l)->∃s',ky f n ds s=.ok (ds++bs.map d) s'/\Vs s' (y::l)/\s'.t=s.t/\s'.n=s.n
 |[],n,ds,s,hn,hv=>by
  refine⟨s,?_,hv,rfl,rfl⟩;have B:s.hd.kv=y:=by obtain⟨a,b,_⟩:=Vs.hd hv;delta Tok.kv;rw[a,b]
  rw[adg,aaJ];cases n with
  |zero=>rfl
  |succ n=>
   rw[ky,afl fun z=>c ?_];rw[<-B];delta Tok.kv;rw[eU z,nA z]
 |b::bs,0,ds,s,hn,hv=>by mright
 |b::bs,n+1,ds,s,hn,hv=>by
  have g:Vs s<|kS ","::(w b++(cJ w bs++y::l)):=by
   have e:cJ w (b::bs)++y::l=kS ","::(w b++(cJ w bs++y::l)):=by simp[cJ]
   rw[<-e];exact hv
  have h1:=g.hd.2.2;have u:∃y' h,cJ w bs++y::l=y'::h/\N y':=by
   cases bs with
   |nil=>exact⟨y,l,rfl,m⟩
   |cons E bs=>exact⟨_,_,rfl,o⟩
  left;obtain⟨y',h,j,i⟩:=u;rw[j]at h1;refine Z14 (R b s.tl y' h i h1) fun k e1 p r C=>?_;rw[<-j]at p;refine Z14 (HB R o m c bs n (ds++[d b]) k (by simpa using hn) p) fun A x D q v=>?_;right;refine⟨A,?_,D,q.trans r,v.trans C⟩;rw[ky,afk<|by rw[g.is];rfl,e1];show ky f n (ds++[d b]) k=_;rw[x];simp
theorem Ey(R:Reads f w d N)(j:N<|kS ",")(i:N y)(c:y≠kS ",")(b:β)(bs:List β)(m:Nat)(B:bs.length+1<=m)(o:Vs s<|w b++(cJ w bs++y::l)):∃s',pF f m s=.ok (.tup<|(b::bs).map d) s'/\Vs s' (y::l)/\s'.t=s.t/\s'.n=s.n:=by
 have u:∃y' a,cJ w bs++y::l=y'::a/\N y':=by
  cases bs with
  |nil=>exact⟨y,l,rfl,i⟩
  |cons C bs=>exact⟨_,_,rfl,j⟩
 left;obtain⟨y',a,g,e⟩:=u;rw[g]at o;obtain⟨h,e1,k,q,z⟩:=R b s y' a e o;rw[<-g]at k;obtain⟨x,v,A,p,r⟩:=HB R j i c bs (m-1) [d b] h (by grind) k;right;refine⟨x,?_,A,p.trans q,r.trans z⟩;delta pF;rw[e1];show(ky f (m-1) [d b] h).bind _=_;rw[v];rfl
end
abbrev bW:=Str×Str
noncomputable def qO(p:bW):List Kv:=[kN p.1,kS ".",kN p.2]
noncomputable def j9(p:bW):D:=.tup [.str "column",.str p.1,.str p.2]
theorem Gg:Reads ng qO j9 fun _=>True:=fun b s y l _ h=>MM h
noncomputable def qW(p:bW):List Kv:=if p.1=p.2 then[kN p.1]else[kN p.1,kN p.2]
noncomputable def je(p:bW):D:=.tup [.str p.1,.str p.2]
theorem TU:Reads uC qW je fun y=>y.1≠"name":=fun p s y l a h=>by
 delta qW at h;cbv
 .rename_i e;have h'  := h;have h1:=h'.hd.2.2;refine⟨s.tl,?_,h1,rfl,rfl⟩;delta uC;rw[lG h'];show(if _ then _ else _)=_;rw[afl<|by rw[h1.hd.1];exact a];delta je;rw[e]
 .have h'  := h;have h1:=h'.hd.2.2;refine⟨s.tl.tl,?_,h1.hd.2.2,rfl,rfl⟩;delta uC;rw[lG h'];show(if _ then _ else _)=_;rw[h1.hd.1,lG h1];rfl
def sZ(p:bW×Bool):List Kv:=qO p.1++(if p.2=G then[kK "down"]else[])
def gO(p:bW×Bool):D:=.tup [j9 p.1,.bl p.2]
theorem SH:Reads yV sZ gO fun y=>y≠kK "down":=fun p s y l i h=>by
 obtain⟨q,b⟩:=p;cases b with
 |true=>
  have h'  := by
   assumption
  obtain⟨c,e1,d,e,f⟩:=Gg q s _ _ trivial h';refine⟨c.tl,?_,d.hd.2.2,e,f⟩;delta yV;rw[e1];show Q.ok (D.tup [j9 q,.bl (kO "key" "down" c).1]) (kO "key" "down" c).2=_
  have:kO "key" "down" c=(G,c.tl):=afk (by rw[d.is];rfl)
  rw[this];rfl
 |false=>
  have h'  := by
   assumption
  obtain⟨c,e1,d,e,f⟩:=Gg q s _ _ trivial h';refine⟨c,?_,d,e,f⟩;have g:c.hd.kv=y:=by obtain⟨a,b,_⟩:=d.hd;delta Tok.kv;rw[a,b]
  delta yV;rw[e1];show Q.ok (D.tup [j9 q,.bl (kO "key" "down" c).1]) (kO "key" "down" c).2=_
  have:kO "key" "down" c=(η,c):=afl fun z=>i (by rw[<-g];delta Tok.kv;rw[eU z,nA z])
  rw[this];rfl
structure Qn where
 s:bW
 ss:List bW
 cd:Option Cn
 os:List<|bW×Bool
 c:bW
 cs:List bW
 tk:Option Int
def Qn.cdD(q:Qn):D:=match q.cd with
 |some c=>c.d
 |none=>.non
def Qn.tkD(q:Qn):D:=match q.tk with
 |some i=>.int i
 |none=>.non
def Qn.d(q:Qn):D:=.tup [.str "ask",.tup<|(q.s::q.ss).map je,q.cdD,.tup<|q.os.map gO,.tup<|(q.c::q.cs).map j9,q.tkD]
def Nk:Option Cn->List Kv
 |some c=>kK "where"::c.w
 |none=>[]
def Cv:List (bW×Bool)->List Kv
 |[]=>[]
 |o::os=>kK "order"::kK "by"::(sZ o++cJ sZ os)
noncomputable def Rr:Option Int->List Kv
 |some i=>[kK "take",("number",.int i)]
 |none=>[]
def Qn.w(q:Qn):List Kv:=kK "from"::(qW q.s++(cJ qW q.ss++(Nk q.cd++(Cv q.os++kK "show"::(qO q.c++(cJ qO q.cs++Rr q.tk))))))
structure Qn.Ok(q:Qn):Prop where
 s:q.ss.length<=2
 o:q.os.length<=8
 c:q.cs.length<=7
 t:∀c,q.cd=J c->c.Ok/\c.tests<=20
 k:∀i,q.tk=J i->0<=i
theorem key_ne(h:x≠y):kK x≠kK y:=fun z=>h<|D.str.inj<|afp abd z
abbrev kE:Kv:=("end",.non)
theorem AG(e:Vs s<|y::l)(h:y≠kK k):iy k f d s=.ok d s:=afl fun z=>h (by
 have c:s.hd.kv=y:=by obtain⟨a,b,_⟩:=e.hd;delta Tok.kv;rw[a,b]
 rw[<-c];delta Tok.kv;rw[eU z,nA z])
theorem xn(a:Vs s<|kK k::l):iy k f d s=f s.tl:=afk (by rw[a.is];simp)
theorem vW:kK x≠kS y:=gW ⊤
theorem AF(q:Qn)(r:q.Ok)(h2:∀c,q.cd=J c->c.opened<=20)(hv:Vs s<|q.w++[kE])(R:s.t=0)(hn:s.n=0):∃s',qP s=.ok q.d s':=by
 have m:Vs s<|kK "from"::(qW q.s++(cJ qW q.ss++(Nk q.cd++(Cv q.os++kK "show"::(qO q.c++(cJ qO q.cs++(Rr q.tk++[kE]))))))):=by
  have e:q.w++[kE]=kK "from"::(qW q.s++(cJ qW q.ss++(Nk q.cd++(Cv q.os++kK "show"::(qO q.c++(cJ qO q.cs++(Rr q.tk++[kE]))))))):=by simp[Qn.w]
  rw[<-e];exact hv
 generalize I:qO q.c++(cJ qO q.cs++(Rr q.tk++[kE]))=R3 at m;have b2:∃x l,Cv q.os++kK "show"::R3=kK x::l/\(x="order"\/x="show"):=by
  cases q.os with
  |nil=>exact⟨_,_,rfl,.inr rfl⟩
  |cons o os=>exact⟨_,_,rfl,.inl rfl⟩
 have b1:∃x l,Nk q.cd++(Cv q.os++kK "show"::R3)=kK x::l:=by
  cases q.cd with
  |none=>obtain⟨x,l,e,_⟩:=b2;exact⟨x,l,e⟩
  |some c=>exact⟨_,_,rfl⟩
 left;obtain⟨x2,l2,M,p⟩:=b2;obtain⟨x1,l1,e1⟩:=b1;have P:=m.hd.2.2;rw[e1]at P;obtain⟨h,r2,D,X,n2⟩:=Ey TU (show(kS ",").1≠"name" by trivial) (show(kK x1).1≠"name" by show lE "key"≠_;decide +kernel) vW q.s q.ss 3 (by have:=r.s;lia) P;rw[<-e1]at D;have N:h.t=0:=X.trans R;have F:h.n=0:=n2.trans hn
 have h3:∃g,iy "where" qk .non h=.ok q.cdD g/\Vs g (Cv q.os++kK "show"::R3):=by
  cases hc:q.cd with
  |none=>
   rw[hc]at D;have a:Vs h<|Cv q.os++kK "show"::R3:=D;refine⟨h,?_,a⟩;rw[M]at a;rw[AG a<|key_ne (by rcases p with rfl|rfl<;>decide +kernel)];delta Qn.cdD;rw[hc]
  |some c=>
   rw[hc]at D;have a:Vs h<|kK "where"::(c.w++(Cv q.os++kK "show"::R3)):=D;have C:=a.hd.2.2;rw[M]at C;obtain⟨g,r3,v⟩:=PB c (r.t c hc).1 (s:=h.tl) C N F (r.t c hc).2 (h2 c hc) ⟨key_ne (by rcases p with rfl|rfl<;>decide +kernel),key_ne (by rcases p with rfl|rfl<;>trivial),vW⟩;refine⟨g,?_,by rw[M];exact v⟩;rw[xn a,r3];delta Qn.cdD;rw[hc]
 obtain⟨g,r3,v⟩:=h3
 have Q:∃j,iy "order" vM (.tup []) g=.ok (.tup<|q.os.map gO) j/\Vs j (kK "show"::R3):=by
  cases ho:q.os with
  |nil=>
   rw[ho]at v;have b:Vs g<|kK "show"::R3:=v;exact⟨g,AG b<|key_ne<|⊤,b⟩
  |cons o os=>
   rw[ho]at v;have b:Vs g<|kK "order"::kK "by"::(sZ o++(cJ sZ os++kK "show"::R3)):=by
    have e:Cv (o::os)++kK "show"::R3=kK "order"::kK "by"::(sZ o++(cJ sZ os++kK "show"::R3)):=by simp[Cv]
    rw[<-e];exact v
   have u:=b.hd.2.2;refine Z14 (Ey SH (show kS ","≠kK "down"from gW ⊤) (show kK "show"≠kK "down"from key_ne ⊤) vW o os 8 (by have:=r.o;rw[ho]at this;trivial) u.hd.2.2) fun j r4 E _ _=>?_;refine⟨j,?_,E⟩;rw[xn b];delta vM;rw[sG u];exact r4
 obtain⟨j,r4,E⟩:=Q;have H:=E.hd.2.2;rw[<-I]at H;have V:∃y l,Rr q.tk++[kE]=y::l/\y≠kS ",":=by
  cases q.tk with
  |none=>exact⟨_,_,rfl,gW<|⊤⟩
  |some i=>exact⟨_,_,rfl,vW⟩
 obtain⟨y6,l6,O,K⟩:=V;rw[O]at H;obtain⟨A,T,B,_,_⟩:=Ey Gg trivial trivial K q.c q.cs 8 (by have:=r.c;mright) H;rw[<-O]at B;have h7:∃s7,iy "take" zm .non A=.ok q.tkD s7/\Vs s7 [kE]:=by
  cases hk:q.tk with
  |none=>
   rw[hk]at B;have f:Vs A [kE]:=B;refine⟨A,?_,f⟩;rw[AG f<|gW<|⊤];delta Qn.tkD;rw[hk]
  |some i=>
   rw[hk]at B;have f:Vs A<|kK "take"::("number",.int i)::[kE]:=B;have u:=f.hd.2.2;refine⟨A.tl.tl,?_,u.hd.2.2⟩;rw[xn f];delta zm;rw[afl (by rw[u.hd.2.1];intro z;have:=afo z.2;have:=r.k i hk;lia),lG u];delta Qn.tkD;rw[hk]
 obtain⟨s7,W,S⟩:=h7;right;refine⟨s7,?_⟩;delta qP;rw[sG m];show(pF uC 3 s.tl).bind _=_;rw[r2];show(iy "where" qk .non h).bind _=_;rw[r3];show(iy "order" vM (.tup []) g).bind _=_;rw[r4];show(dq "key" "show" j).bind _=_;rw[sG E];show(pF ng 8 j.tl).bind _=_;rw[T];show(iy "take" zm .non A).bind _=_;rw[W];show(if _ then _ else _)=_;rw[afk S.hd.1];rfl
def Km(x:Kv):Bool:=decide (x.1="key")&&sv x.2 "not"||decide (x.1="sign")&&sv x.2 "("
def dZ(l:List Kv):Nat:=(l.filter Km).length
theorem NG(s:Sx):Km s.hd.kv=iq s:=rfl
structure Ate(s s':Sx):Prop where
 ex:∃c,s.ts=c++s'.ts/\(∀w∈c,qp w.k)/\s'.n=s.n+dZ (c.map Tok.kv)
 n:s.n<=20->s'.n<=20
theorem Ate.refl(s:Sx):Ate s s:=⟨⟨[],rfl,fun _ h=>(nomatch h),rfl⟩,fun h=>h⟩
theorem Ate.trans(a:Ate s1 s2)(b:Ate s2 s3):Ate s1 s3:=by
 obtain⟨⟨c1,e1,c,f⟩,h1⟩:=a;obtain⟨⟨c2,e,d,g⟩,h2⟩:=b;refine⟨⟨c1++c2,by simp_all,fun w hw=>(BY.mp hw).elim (c w)<|d w,?_⟩,fun h=>h2<|h1 h⟩;delta dZ at *
 grind
theorem Hn{s:Sx}(h:qp s.hd.k):s.ts=s.hd::s.tl.ts:=by
 delta Sx.hd Sx.tl at *;cases e:s.ts with
 |nil=>rw[e]at h;exact absurd rfl h.1
 |cons w r=>rfl
theorem iJ(h:qp s.hd.k)(a:iq s=η):Ate s s.tl:=by
 refine⟨⟨[s.hd],Hn h,fun w hw=>by simp_all,?_⟩,fun h=>h⟩;show s.n=s.n+dZ [s.hd.kv];delta dZ;rw[List.filter_cons_of_neg<|by rw[NG,a];exact MK];rfl
theorem Hr(a:iq s=G)(c:s.n≠20):Ate s {s.tl with n:=s.n+1}:=by
 have b:=(Nh (W:=[]) a).2.1;refine⟨⟨[s.hd],Hn b,fun w hw=>by simp_all,?_⟩,fun h=>⊥⟩;show s.n+1=s.n+dZ [s.hd.kv];delta dZ;rw[List.filter_cons_of_pos<|by rw[NG,a]];rfl
theorem Ate.of_t(h:Ate {s with t:=t} s'):Ate s s':=⟨h.ex,h.n⟩
def vi{α:Type}(f:Sx->Q Sx α):Prop:=∀s a s',f s=.ok a s'->Ate s s'
theorem Pt{s:Sx}(h:s.hd.k≠"key"/\s.hd.k≠"sign"):iq s=η:=by
 delta iq Tok.is;mright
theorem xZ(b:qp k)(h2:k≠"key"/\k≠"sign"):vi<|b8 k:=fun s a s' h=>by
 delta b8 at h;cbv
 .rename_i e;nofun;exact iJ (e▸b)<|Pt<|e▸h2
 .nofun
theorem tG(h:s.hd.is k x=G)(a:((k,.str x):Kv)≠kK "not"/\((k,.str x):Kv)≠kS "("):iq s=η:=by
 delta iq;rw[acK];constructor
 .refine aaM.mpr fun z=>a.1 ?_;rw[<-eU h,<-nA h,eU z,nA z]
 .refine aaM.mpr fun z=>a.2 ?_;rw[<-eU h,<-nA h,eU z,nA z]
theorem yC(b:qp k)(c:((k,.str x):Kv)≠kK "not"/\((k,.str x):Kv)≠kS "("):vi<|dq k x:=fun s a s' h=>by
 delta dq at h;cbv
 .rename_i e;nofun;exact iJ (eU e▸b)<|tG e c
 .nofun
theorem bB{f:Sx->Q Sx α}{g:α->Sx->Q Sx β}(d:vi f)(e:∀a,vi<|g a):vi fun s=>(f s).bind g:=fun s b s' h=>by
 cases h1:f s with
 |er _=>change (f s).bind g=_ at h;rw[h1]at h;nofun
 |ok a c=>
  change (f s).bind g=_ at h
  rw[h1]at h;exact(d s a c h1).trans<|e a c b s' h
theorem wP{f:Sx->α}:vi fun s=>.ok (f s) s:=fun s a s' h=>by nofun;exact .refl _
theorem nP:vi<|b8 "name":=xZ mF ⊤
theorem rL{x:Str}(h:x≠"not"):vi<|dq "key" x:=yC fP ⟨key_ne h,vW⟩
theorem v8:vi ng:=bB nP fun _=>bB (yC gv ⟨gW<|⊤,fun z=>absurd (D.str.inj<|afp abd z)<|⊤⟩) fun _=>bB nP fun _=>wP
theorem EF:vi rf:=fun s a s' h=>by
 delta rf at h;cbv
 .exact v8 s a s' h
 .cbv
  .rename_i e;nofun;rcases e with e|e
   .exact iJ (e▸oH) (Pt<|by rw[e];trivial)
   .exact iJ (e▸Gx) (Pt<|by rw[e];trivial)
  .exact bB (rL<|⊤) (fun _=>wP (f:=fun _=>D.tup [.str "value",.non])) s a s' h
theorem Kg:vi qV:=fun s a s' h=>by
 delta qV at h;cbv
 .nofun
 .cases h1:rf {s with t:=s.t+1}with
  |er _=>rw[h1]at h;nofun
  |ok one c=>
   rw[h1]at h;change (if _ then _ else _)=_ at h
   cbv
   .rename_i hs;have d:=(EF _ _ _ h1).of_t;have a2  := by
     refine iJ (hs.1▸gv) ?_;delta iq Tok.is;rw[afm<|by rw[hs.1];trivial,Bool.false_and,Bool.false_or];refine aaM.mpr fun z=>?_;rw[oR]at z;have b:=z.2;have h2:=hs.2;unfold sv at b;split at b
     .rename_i y e;rw[e,afo b]at h2;revert h2
      trivial
     .cases b
    cases h2:rf c.tl with
    |er _=>rw[h2]at h;nofun
    |ok Lh f=>
     rw[h2]at h;nofun;exact(d.trans a2).trans<|EF _ _ _ h2
   .nofun
theorem B3:∀(f:Nat)(W:afr),vi fun s=>xD f s W
 |0,W,s,a,s',h=>nomatch h
 |f+1,W,s,a,s',h=>by
  change xD (f+1) s W=_ at h
  rw[xD]at h;cbv
  .rename_i hb;cbv
   .nofun
   .rename_i hn;exact(Hr hb hn).trans<|B3 f _ _ a s' h
  .nofun;exact .refl _
theorem QI:((("sign":Str),D.str ")"):Kv)≠kK "not"/\((("sign":Str),D.str ")"):Kv)≠kS "(":=⟨gW<|⊤,fun z=>absurd (D.str.inj<|afp abd z)<|⊤⟩
theorem CH:∀(f:Nat)(s:Sx)(T:afy)(W:afr),Ate s (cls f s T W).1
 |0,s,_,_=>.refl _
 |f+1,s,T,W=>by
  unfold cls;split
  .rename_i h;exact(iJ (eU h.2▸gv)<|tG h.2 QI).trans<|CH f _ _ _
  .exact .refl _
theorem yL(T:afy)(W:afr):vi fun s=>oC s T W:=bB (B3 30 W) fun W=>bB Kg fun t s a s' h=>by nofun;exact CH _ _ _ _
theorem uZ:∀(f:Nat)(T:afy)(W:afr),vi fun s=>jf f s T W
 |0,T,W,s,a,s',h=>nomatch h
 |f+1,T,W,s,a,s',h=>by
  change jf (f+1) s T W=_ at h
  rw[jf]at h;cbv
  .rename_i hj;have b:=(j_v hj).2.1;have c:iq s=η:=by
    rcases(ac1 _ _).mp hj with z|z
    .exact tG z ⟨key_ne<|⊤,vW⟩
    .exact tG z ⟨key_ne<|⊤,vW⟩
   exact(iJ b c).trans<|bB (yL _ _) (fun p=>uZ f p.1 p.2) _ a s' h
  .nofun;exact .refl _
theorem OI:((("sign":Str),D.str ","):Kv)≠kK "not"/\((("sign":Str),D.str ","):Kv)≠kS "(":=⟨gW<|⊤,fun z=>absurd (D.str.inj<|afp abd z)<|⊤⟩
theorem wL(b:vi f)(m:Nat):vi<|pF f m:=by
 have e:∀n ds,vi<|ky f n ds:=fun n=>by
  induction n with
  |zero=>exact fun ds s a s' h=>by nofun;exact .refl _
  |succ n c=>
   intro ds s a s' h;unfold ky at h;cbv
   .rename_i hc;exact(iJ (eU hc▸gv)<|tG hc OI).trans<|bB b (fun d=>c<|ds++[d]) s.tl a s' h
   .nofun;exact .refl _
 exact bB b fun d=>bB (e _ _) fun ds=>wP
theorem vZ{k:Str}(b:k≠"not")(c:vi f):vi<|iy k f d:=fun s a s' h=>by
 delta iy at h;cbv
 .rename_i hc;exact(iJ (eU hc▸fP)<|tG hc ⟨key_ne b,vW⟩).trans<|c _ _ _ h
 .nofun;exact .refl _
theorem NK(h:qP s=.ok d s'):Ate s s'/\s'.hd.k="end":=by
 have:∀s a s',qP s=.ok a s'->Ate s s'/\s'.hd.k="end":=by
  have c:∀i l os n m s(a:D)s',(if(Sx.hd s).k="end"then(Q.ok (D.tup [.str "ask",i,l,os,n,m]) s)else .er s)=.ok a s'->Ate s s'/\s'.hd.k="end":=fun i l os n m s a s' h=>by
   cbv
   .rename_i e;nofun;exact⟨.refl _,e⟩
   .nofun
  have bd:∀{α:Type}{f:Sx->Q Sx α}{g:α->Sx->Q Sx D},vi f->(∀a s b s',g a s=.ok b s'->Ate s s'/\s'.hd.k="end")->∀s b s',(f s).bind g=.ok b s'->Ate s s'/\s'.hd.k="end":=fun{α f g}hf hg s b s' h=>by
   cases h1:f s with
   |er _=>rw[h1]at h;nofun
   |ok a j=>
    rw[h1]at h
    have:=hg a j b s' h
    exact⟨(hf s a j h1).trans this.1,this.2⟩
  exact bd (rL<|⊤) fun _=>bd (wL (bB nP fun t s a s' h=>by
    cbv
    .exact bB nP (fun b=>wP (f:=fun _=>D.tup [t,b])) s a s' h
    .nofun;exact .refl _) 3) fun _=>bd (vZ ⊤ (bB (yL [] []) fun p=>bB (uZ 30 p.1 p.2) fun q s a s' h=>by
    cbv
    .nofun
    .nofun;exact .refl _)) fun _=>bd (vZ ⊤ (bB (rL ⊤) fun _=>wL (bB v8 fun b s a s' h=>by
    nofun;delta kO;split
    .rename_i hc;exact iJ (eU hc▸fP)<|tG hc ⟨key_ne<|⊤,vW⟩
    .exact .refl _) 8)) fun _=>bd (rL ⊤) fun _=>bd (wL v8 8) fun _=>bd (vZ ⊤ (fun s a s' h=>by
    delta zm at h;cbv
    .nofun
    .exact xZ oH ⊤ s a s' h)) fun _=>c _ _ _ _ _
 exact this _ _ _ h
theorem yG{us:List Tok}{b:Tok}(p:b.k="end")(j:∀w∈us,w.k≠"end")(i:20<dZ (us.map Tok.kv)):∃s',qP ⟨us++[b],0,0⟩=.er s':=by
 cases h:qP ⟨us++[b],0,0⟩with
 |er s'=>simp
 |ok d s'=>
  obtain⟨⟨⟨c,e,m,n⟩,s⟩,f⟩:=NK h;have e:us++[b]=c++s'.ts:=e;exfalso
  have q:s'.n=0+dZ (c.map Tok.kv):=n;cases hs:s'.ts with
  |nil=>
   rw[hs,aaJ]at e;exact(m b<|by rw[<-e];simp).1 p
  |cons w r=>
   have hw:s'.hd=w:=by delta Sx.hd;rw[hs]
   rw[hw]at f;rw[hs]at e;have g:r=[]:=by
    cases r with
    |nil=>rfl
    |cons y r=>
     have hin  := by
      have a:us++[b]=(c++[w])++(y::r):=by rw[e];simp
      have o:=afp acR a;simp at o
      have:=afp (fun l=>l[c.length]?) a
      rw[aaX<|⊥,aaX<|∅,aaI<|mK _,adM]at this;exact Do this
     exact absurd f<|j w hin
   subst g
   have:=List.append_inj_left' e rfl
   rw[this]at i;lia
def aw(l:afq):Str:=⟨l.toArray⟩
theorem az(l:afq):(aw l).cps.toList=l:=by simp[aw]
theorem bM(l:afq):(aw l).length=l.length:=by rfl
theorem lu{a b:Str}(h:a.cps.toList=b.cps.toList):a=b:=by
 cases a;mright
theorem zn(z:Str):z=aw z.cps.toList:=lu (az _).symm
theorem mk_eq(h:z.cps.toList=l):z=aw l:=lu<|h.trans rfl.symm
theorem mk_inj:aw a=aw b↔a=b:=⟨fun h=>by have:=afp (fun z  => z.cps.toList) h;trivial,fun h=>by rw[h]⟩
theorem dH(a b:Str):(a++b).cps.toList=a.cps.toList++b.cps.toList:=by
 show(a.cps++b.cps).toList=_;simp
theorem Pc(a b:afq):aw a++aw b=aw (a++b):=lu (by rw[dH,az,az,az])
theorem Jl:lE "\""=aw [34]:=⊤
theorem Gb:lE "\"\""=aw [34,34]:=⊤
theorem l0:lE ""=aw []:=⊤
theorem ZZ:lE " "=aw [32]:=⊤
theorem ZU:lE "-"=aw [45]:=⊤
theorem ZO:lE "0"=aw [48]:=⊤
theorem Nv:lE "none"=aw [110,111,110,101]:=⊤
theorem RX:lE "0123456789"=aw [48,49,50,51,52,53,54,55,56,57]:=⊤
theorem jE(c:Nat):(⟨#[c]⟩:Str)=aw [c]:=rfl
theorem Ri(x:Str)(c:Nat):abQ x (aw [c])=decide (x.cps.toList[0]?=J c):=by
 have h:=ac3 x c 0;rw[jE]at h;rw[aca];delta abQ
 mright
theorem XO(x:Str)(c:Nat):adh x (aw [c])=decide (x.cps.toList[x.length-1]?=J c):=by
 have h:=ac3 x c<|x.length-1;rw[jE]at h;rw[aca,decide_eq_true_eq,<-h];delta adh
 rw[oR,decide_eq_true_eq,bM];constructor
 .mright
 .rintro ⟨a,b⟩;exact ⟨⊥,b⟩
theorem Kl(x:Str)(c:Nat):Jo x (aw [c])=decide (c∈x.cps.toList):=PySem.StrLaws.found_one x c
theorem ub(x:Str)(c:Nat):rE (.str<|aw [c]) (.str x)=.ok (.bl<|decide (c∈x.cps.toList)):=by
 delta rE Ue;simp only[Kl,lU];rfl
theorem SQ(z:Str)(h:z.length<=1000):l5 "\"" "\"\"" (.str z)=.ok (.str<|aw<|eN z.cps.toList):=by
 delta l5;simp only;rw[afk ⟨⊤,h,⊤⟩];congr 2;refine mk_eq ?_;rw[kG _ _ _<|⊤,Jl,Gb,az,az,CK]
theorem So(Lq0:afq)(h:(eN Lq0).length<=1000):l5 "\"\"" "" (.str<|aw<|eN Lq0)=.ok (.str<|aw<|ku [] Lq0):=by
 delta l5;simp only;rw[afk ⟨⊤,by exact h,⊤⟩];congr 2;refine mk_eq ?_;rw[kG _ _ _<|⊤,l0,Gb,az,az,az,lA]
theorem Si(Lq0:afq)(h:(eN Lq0).length<=1000):l5 "\"\"" "\"" (.str<|aw<|eN Lq0)=.ok (.str<|aw Lq0):=by
 delta l5;simp only;rw[afk ⟨⊤,by exact h,⊤⟩];congr 2;refine mk_eq ?_;rw[kG _ _ _<|⊤,Jl,Gb,az,az,az,lA,sA]
theorem gJ(z:Str):z.cps.toList.length=z.length:=by rfl
theorem nY(z:Str):z.cps.toList.length=z.length:=by rfl
theorem GJ(a b:Nat):(([a]:afq)<[b])↔a<b:=by
 constructor
 .intro h;cases h with
  |rel h=>exact h
  |cons h=>nofun
 .intro h;exact List.Lex.rel h
theorem Oo(X:afq)(a b:Nat)(h:X.length<=90000):xo (.str<|aw<|a::(X++[b])) (J 1) (J<|-1)=.ok (.str<|aw X):=by
 delta xo;simp;rw[bM,afk<|by simp;lia];congr 2;delta rY;refine mk_eq ?_;rw[az,bM];have e1:HT.sIx (a::(X++[b])).length 0 (J 1)=1:=by rfl
 have c:HT.sIx (a::(X++[b])).length (a::(X++[b])).length (J<|-1)=X.length+1:=by
  delta HT.sIx;simp;lia
 rw[e1,c];simp
theorem KQ(X:afq)(a:Nat)(h:X.length<=90000):xo (.str<|aw<|a::X) (J 1) U=.ok (.str<|aw X):=by
 delta xo;simp;rw[bM,afk<|by simp;lia];congr 2;delta rY;refine mk_eq ?_;rw[az,bM];have e1:HT.sIx (a::X).length 0 (J 1)=1:=by rfl
 have b:HT.sIx (a::X).length (a::X).length U=X.length+1:=by rfl
 rw[e1,b];simp
noncomputable def j7(c:Nat):Bool:=decide (48<=c/\c<=57)
theorem HL(c:Nat):(decide (c∈[48,49,50,51,52,53,54,55,56,57]))=j7 c:=by
 refine decide_eq_decide.mpr ((List.mem_range'_1 (s:=48) (n:=10)).trans ?_);lia
abbrev vy:D:=.str "0123456789"
noncomputable abbrev tY:D:=.tup [.str "and",.str "by",.str "down",.str "from",.str "none",.str "not",.str "or",.str "order",.str "show",.str "take",.str "where"]
def low(c:Nat):Bool:=decide (97<=c)&&decide (c<=122)
theorem aaf(c:Nat)(h:x.cps.toList=[k]):C9 (.str ⟨#[c]⟩) (.str x)=.ok (.bl<|decide (k<=c)):=by
 rw[Xy,h];congr 2;rw[<-decide_not];exact decide_eq_decide.mpr (by rw[GJ];simp)
theorem YU(c:Nat)(h:x.cps.toList=[k]):Mp (.str ⟨#[c]⟩) (.str x)=.ok (.bl<|decide (c<=k)):=by
 rw[XM,h];congr 2;rw[<-decide_not];exact decide_eq_decide.mpr (by rw[GJ];simp)
theorem pv(c:Nat):fJ [.str ⟨#[c]⟩]=.ok (.bl<|low c):=aq<|ar<|wY ((aaf c rfl))<|(YU c rfl)
theorem Lj(c:Nat):pC [.str ⟨#[c]⟩]=.ok (.bl<|decide (32<=c)&&decide (c<=126)):=aq<|ar<|wY ((aaf c rfl))<|(YU c rfl)
noncomputable def Jq:afx:=[.str "and",.str "by",.str "down",.str "from",.str "none",.str "not",.str "or",.str "order",.str "show",.str "take",.str "where"]
def oX(z:Str):Bool:=Eh (.str z) Jq
theorem Fc(z:Str):mI (.str z) tY=.ok (.bl<|!oX z):=rfl
def ci(z:Str):Bool:=!decide (z="")&&(decide (z.length<=8)&&(z.cps.toList.all low&&!oX z))
theorem xi(W:afq)(a b:Nat)(d:a<=b)(f:b<=W.length)(e:W.length<=100000):xo (.str<|aw W) (J (a:Int)) (J (b:Int))=.ok (.str<|aw<|(W.drop a).take<|b-a):=by
 delta xo;simp;rw[bM,afk<|⊥];congr 2;delta rY;refine mk_eq ?_;rw[az,bM];have e1:HT.sIx W.length 0 ((a:Int))=a:=by rw[HT.rG];lia
 have c:HT.sIx W.length W.length ((b:Int))=b:=by rw[HT.rG];lia
 rw[e1,c]
theorem Yg(w:Nat->Sd)(b:∀a,B (w a)=.ok (.nx<|w<|a+1)):∀(k n j:Nat),(∀i,i<k->τ (w<|j+i)=.ok G)->τ (w<|j+k)=.ok η->k<n->cq τ B n (w j)=.ok (.nx<|w<|j+k)
 |0,n+1,j,_,hf,hn=>by
  show(τ<|w j).bind _=_;rw[show τ (w j)=_ from hf];rfl
 |k+1,n+1,j,h,hf,hn=>by
  have e (i):j+(i+1)=j+1+i:=⊥
  have c:=Yg w b k n (j+1) (fun i d=>e i▸h (i+1) ⊥) (e k▸hf) ⊥;show(τ<|w j).bind _=_;rw[show τ (w j)=_ from h 0 ∅];rw[b,e k];exact c
theorem Vl(Lq0:afq)(a:Nat)(b:Lq0.length<=90000):xo (.str<|aw Lq0) (J (a:Int)) (J<|(a:Int)+1)=.ok (.str<|aw<|(Lq0.drop a).take 1):=by
 by_cases h:a+1<=Lq0.length
 .have:=xi Lq0 a (a+1) ∅ h ⊥
  mright
 .rw[UL,bM,afk<|⊥];congr 2;delta rY;refine mk_eq ?_;rw[az,bM];have e1:HT.sIx Lq0.length 0 ((a:Int))=Lq0.length:=by delta HT.sIx;grind
  rw[e1];simp;lia
theorem drop_one(Lq0:afq)(a c:Nat):(Lq0.drop a).take 1=[c]↔Lq0[a]?=J c:=by
 have:Lq0[a]?=(Lq0.drop a)[0]?:=∅
 rw[this];cases Lq0.drop a with
 |nil=>simp
 |cons x r=>simp
theorem FD(Lq0:afq)(b:Lq0.length<=90000)(P:D)(o:Option D)(p k:Nat)(e:∀i,i<k->Lq0[p+i]?=J 32)(d:Lq0[p+k]?≠J 32)(f:k<90000):
  cq (dC<|aH jp (Jm xo (ag 0) (gI<|ag 2)<|gI<|aH eZ (ag 2)<|vC<|.int 1)<|vC<|.str " ") (lz 2<|vC<|.int 1) 100000 [J<|.str<|aw Lq0,J P,J<|.int (p:Int),o]=.ok (.nx [J<|.str<|aw Lq0,J P,J<|.int ((p+k:Nat):Int),o]):=by
 have test (a:Nat):dC (aH jp (Jm xo (ag 0) (gI<|ag 2)<|gI<|aH eZ (ag 2)<|vC<|.int 1)<|vC<|.str " ") [J<|.str<|aw Lq0,P,J<|.int a,o]=.ok ((Lq0[a]?=J 32)):=by
  rw[DP,JU,show Jm xo (ag 0) (gI<|ag 2) (gI<|aH eZ (ag 2)<|vC<|.int 1) [J<|.str<|aw Lq0,P,J<|.int a,o]=_ from Vl Lq0 a b,am,sN,v_c,am,jg,am,Gf];congr 1;exact decide_eq_decide.mpr<|mk_inj.trans<|drop_one Lq0 a 32
 exact Yg (fun a=>[J<|.str<|aw Lq0,P,J<|.int a,o]) (fun _=>rfl) k 100000 p (fun i c=>by rw[test,afn<|e i c]) (by rw[test,afm d]) ⊥
theorem qB(Lq0:afq)(b:Lq0.length<=90000)(a c:Nat)(h:Lq0[a]?=J c):cR (.str<|aw Lq0) (.int (a:Int))=.ok (.str ⟨#[c]⟩):=
 U0 (by rw[bM];lia) (by exact xu h)
theorem jo(Lq0:afq)(a:Lq0.length<=90000):cr [.str<|aw Lq0]=.ok (.int (Lq0.length:Int)):=by rw[HY,bM,afk<|⊥]
def cD(f:Nat->Bool)(R:afq):Nat:=(R.takeWhile f).length
theorem zV(f:Nat->Bool)(R:afq):cD f R<=R.length:=by exact(List.takeWhile_sublist f).length_le
theorem zM(f:Nat->Bool):∀(R:afq)(i:Nat),i<cD f R->∃c,R[i]?=J c/\f c=G
 |[],i,h=>by delta cD at h;mright
 |c::r,i,h=>by
  delta cD at h;rw[acS]at h;cases hc:f c with
  |false=>mright
  |true=>
   rw[hc]at h;mright;cases i with
   |zero=>mright
   |succ i=>obtain⟨d,h1,h2⟩:=zM f r i (by delta cD;mright);mright
theorem vV(f:Nat->Bool):∀(R:afq)(c:Nat),R[cD f R]?=J c->f c=η
 |[],c,h=>by mright
 |d::r,c,h=>by
  delta cD at h;rw[acS]at h;cases hc:f d with
  |false=>mright
  |true=>
   rw[hc]at h;exact vV f r c (by exact h)
theorem yp(f:Nat->Bool):∀R:afq,R.take (cD f R)=R.takeWhile f
 |[]=>rfl
 |d::r=>by
  delta cD;rw[acS];cases hc:f d with
  |false=>rfl
  |true=>simp;exact yp f r
def tW(k:Str)(d:D)(q e:Nat):D:=.tup [.str k,d,.int (q:Int),.int (e:Int)]
theorem oA(Lq0:afq)(q i:Nat):(Lq0.drop q)[i]?=Lq0[q+i]?:=∅
theorem Bn(Lq0:afq)(d:Lq0.length<=90000)(P:D)(o:Sd)(q:Nat)(hX:∀a c:Nat,Lq0[a]?=J c->X (J (.str<|aw Lq0)::J P::J (.int (a:Int))::o)=.ok (f c)):
  cq (mQ (dC<|aH zF (ag 2)<|aI cr<|ak (ag 0) aQ) X) (lz 2<|vC<|.int 1) 100000 (J (.str<|aw Lq0)::J P::J (.int (q:Int))::o)=.ok (.nx<|J (.str<|aw Lq0)::J P::J (.int ((q+cD f (Lq0.drop q):Nat):Int))::o):=by
 have b:=zV f<|Lq0.drop q;rw[abq]at b;have tlt (a:Nat):mQ (dC<|aH zF (ag 2)<|aI cr<|ak (ag 0) aQ) X (J (.str<|aw Lq0)::P::J (.int a)::o)=.ok (Lq0[a]?.any f):=by
  rw[yr,show dC (aH zF (ag 2)<|aI cr<|ak (ag 0) aQ) (J (.str<|aw Lq0)::P::J (.int a)::o)=((cr [.str<|aw Lq0]).bind<|zF<|.int a).bind Xk from rfl,jo Lq0 d,am,wR,am,Gf,am,xh]
  grind
 refine Yg (fun a=>J (.str<|aw Lq0)::P::J (.int a)::o) (fun _=>rfl) _ 100000 q (fun i e=>?_) ?_ ⊥
 .obtain⟨c,h1,h2⟩:=zM f (Lq0.drop q) i e;rw[tlt,<-oA,h1,afg,h2]
 .rw[tlt,<-oA];cases hc:(Lq0.drop q)[cD f<|Lq0.drop q]? with
  |none=>rfl
  |some c=>rw[afg,vV f _ c hc]
theorem GT(Lq0:afq)(b:Lq0.length<=90000)(P:D)(q:Nat)(e:q<=Lq0.length):
  cq (mQ (dC<|aH zF (ag 2)<|aI cr<|ak (ag 0) aQ)<|dC<|aH rE (aH cR (ag 0)<|ag 2)<|vC vy) (lz 2<|vC<|.int 1) 100000 [J<|.str<|aw Lq0,J P,J<|.int (q:Int)]=.ok (.nx [J<|.str<|aw Lq0,J P,J<|.int ((q+cD j7 (Lq0.drop q):Nat):Int)]):=
 Bn Lq0 b P [] q fun a c d=>by
  rw[DP,JU];show((((cR (.str<|aw Lq0)<|.int a).bind<|_)).bind _)=_;rw[qB Lq0 b a c d,am,sN,v_c,am];delta vy;rw[jE,RX,ub,az,HL];rfl
noncomputable def Jj(Lq0:afq)(a:Nat):Int:=if a+cD (fun d=>d != 34) (Lq0.drop a)<Lq0.length then((a+cD (fun d=>d != 34) (Lq0.drop a):Nat):Int)else -1
theorem xA(Lq0:afq)(a:Nat)(h:a+cD (fun d=>d != 34) (Lq0.drop a)<Lq0.length):Lq0[a+cD (fun d=>d != 34) (Lq0.drop a)]?=J 34:=by
 have:=vV (fun d=>d != 34) (Lq0.drop a) _ (by rw[oA,aaC h])
 mright
theorem HU(Lq0:afq)(a:Nat):Al (aw Lq0) (aw [34]) (a:Int)=Jj Lq0 a:=by
 have hA (i):PySem.StrLaws.At (aw Lq0) (aw [34]) (aw Lq0).length i↔Lq0[i]?=J 34:=by
  have:=ac3 (aw Lq0) 34 i
  rwa [az]at this
 delta Al Jj;rw[show fromIndex (aw Lq0).length a=a by rfl];rcases PySem.StrLaws.occ_head_from (aw Lq0) (aw [34]) a 1 (mK _)with⟨e,h⟩|⟨i,r,e,h1,h2,b⟩<;>rw[e]
 .rw[afl fun z=>h _ (adn ..)<|(hA _).mpr<|xA Lq0 a z]
 .rw[hA]at h2;have f:=(rW.mp h2).1;have g:¬i<a+cD (fun d=>d != 34) (Lq0.drop a):=fun z=>by
   obtain⟨c,q1,q2⟩:=zM (fun d=>d != 34) (Lq0.drop a) (i-a) ⊥;mright
  have hj  := fun z=>b _ ∅ z ((hA _).mpr<|xA Lq0 a<|⊥)
  grind
noncomputable def tq:afq->Option Nat
 |[]=>U
 | c::r=>if c=34 then (match r with
   |d::s=>if d=34 then(tq s).map (·+2)else J 1
   |[]=>J 1)else(tq r).map (·+1)
theorem ye(c:Nat)(r:afq)(h:c≠34):tq (c::r)=(tq r).map (·+1):=by rw[tq.eq_def];simp[h]
theorem IJ(r:afq):tq (34::34::r)=(tq r).map (·+2):=by rfl
theorem Ho(r:afq)(h:r[0]?≠J 34):tq (34::r)=J 1:=by
 rw[tq.eq_def];cases r with
 |nil=>rfl
 |cons d s=>
  mright
theorem Ax:∀(R:afq),tq R=(tq<|R.drop<|cD (fun d=>d != 34) R).map (·+cD (fun d=>d != 34) R)
 |[]=>rfl
 |c::r=>by
  by_cases h:c=34
  .subst h
   have:cD (fun d=>d != 34) (34::r)=0:=by rfl
   rw[this];simp
  .have hr:cD (fun d=>d != 34) (c::r)=cD (fun d=>d != 34) r+1:=by delta cD;mright
   rw[hr,List.drop_succ_cons,ye c r h,Ax r];cases tq (r.drop<|cD (fun d=>d != 34) r)with
   |none=>rfl
   |some n=>simp;rfl
abbrev xT:FT:=(mQ (dC<|aH C9 (ag 2)<|vC<|.int 0)<|dC<|aH jp (Jm xo (ag 0) (gI<|aH eZ (ag 2)<|vC<|.int 1)<|gI<|aH eZ (ag 2)<|vC<|.int 2)<|vC<|.str "\"")
abbrev xB:FS:=(rZ 2<|DN (QL fun x y i=>.int<|Al x y i) (ag 0)<|ak (vC<|.str "\"")<|ak (aH eZ (ag 2)<|vC<|.int 2) aQ)
def uu(Lq0:afq)(a:Nat):Int:=match tq (Lq0.drop a)with|some n=>((a+n:Nat):Int)-1|none=>-1
theorem vt(Lq0:afq)(t:Lq0.length<=90000)(P:D):∀(n a:Nat),Lq0.length+2<=a+n->cq xT xB (n+1) [J<|.str<|aw Lq0,J P,J<|.int<|Jj Lq0 a]=.ok (.nx [J<|.str<|aw Lq0,J P,J<|.int<|uu Lq0 a])
 |n,a,hn=>by
  have r:∀i:Int,i<0->xT [J<|.str<|aw Lq0,J P,J<|.int i]=.ok η:=by
   intro i v;have l:aH C9 (ag 2) (vC<|.int 0) [J<|.str<|aw Lq0,J P,J<|.int i]=.ok (.bl η):=by
    show C9 (.int i) (.int 0)=_;rw[GM,afm<|⊥]
   delta xT;rw[yr,DP,l,am,Gf,am,xh,afl MK]
  have o:∀e:Nat,xT [J<|.str<|aw Lq0,J P,J<|.int (e:Int)]=.ok (decide (Lq0[e+1]?=J 34)):=by
   intro e;have l:aH C9 (ag 2) (vC<|.int 0) [J<|.str<|aw Lq0,J P,J<|.int (e:Int)]=.ok (.bl G):=by
    show C9 (.int (e:Int)) (.int 0)=_;rw[GM,afn<|⊥]
   delta xT;rw[yr,DP,l,am,Gf,am,xh,afk rfl,DP];have e1:Jm xo (ag 0) (gI<|aH eZ (ag 2)<|vC<|.int 1) (gI<|aH eZ (ag 2)<|vC<|.int 2) [J<|.str<|aw Lq0,J P,J<|.int (e:Int)]=.ok (.str<|aw<|(Lq0.drop<|e+1).take 1):=by
    rw[<-Vl Lq0 (e+1) ⊥];show xo (.str<|aw Lq0) (J<|(e:Int)+1) (J<|(e:Int)+2)=_;rw[show((e+1:Nat):Int)=(e:Int)+1 by lia,show(e:Int)+1+1=(e:Int)+2 by lia]
   rw[JU,e1,am,sN,v_c,am,jg,Jl,am,Gf];congr 1;exact decide_eq_decide.mpr<|mk_inj.trans<|drop_one Lq0 (e+1) 34
  by_cases h:a+cD (fun d=>d != 34) (Lq0.drop a)<Lq0.length
  .have hf:Jj Lq0 a=((a+cD (fun d=>d != 34) (Lq0.drop a):Nat):Int):=by delta Jj;rw[afk h]
   have f:=Ax<|Lq0.drop a;have c:=xA Lq0 a h;generalize w:cD (fun d=>d != 34) (Lq0.drop a)=j at h hf f c;rw[acN]at f;have hd:Lq0.drop (a+j)=34::Lq0.drop (a+j+1):=by
    rw[aa6 h];congr 1;exact(rW.mp c).2
   rw[hf];show(xT _).bind _=_;rw[o,am];by_cases h2:Lq0[a+j+1]?=J 34
   .rw[afn h2];have k:a+j+1<Lq0.length:=(rW.mp h2).1;have g:Lq0.drop (a+j+1)=34::Lq0.drop (a+j+2):=by
     rw[aa6 k];congr 1;exact(rW.mp h2).2
    obtain⟨n,rfl⟩:∃m,n=m+1:=⟨n-1,⊥⟩;have q:=vt Lq0 t P n (a+j+2) ⊥;have u:xB [J<|.str<|aw Lq0,J P,J<|.int ((a+j:Nat):Int)]=.ok (.nx [J<|.str<|aw Lq0,J P,J<|.int<|Jj Lq0<|a+j+2]):=by
     have:Al (aw Lq0) (aw [34]) (((a+j:Nat):Int)+2)=Jj Lq0 (a+j+2):=by
      rw[show((a+j:Nat):Int)+2=((a+j+2:Nat):Int) by lia,HU]
     rw[<-this];show R.ok (Fl.nx [J<|.str<|aw Lq0,J P,J<|.int<|Al (aw Lq0) (lE "\"")<|((a+j:Nat):Int)+2])=_;rw[Jl]
    rw[afk rfl,u,am];show cq xT xB (n+1) _=_;rw[q];have b:uu Lq0 (a+j+2)=uu Lq0 a:=by
     delta uu;rw[f,hd,g,IJ];cases tq (Lq0.drop<|a+j+2)with
     |none=>rfl
     |some m=>simp;lia
    rw[b]
   .rw[afm h2];have b:uu Lq0 a=((a+j:Nat):Int):=by
     delta uu;have s:(Lq0.drop<|a+j+1)[0]?≠J 34:=by rw[oA,Nat.add_zero];exact h2
     rw[f,hd,Ho _ s];simp;lia
    rw[b];rfl
  .have hf:Jj Lq0 a=-1:=by delta Jj;rw[afl h]
   have p:=zV (fun d=>d != 34)<|Lq0.drop a;rw[abq]at p;have b:uu Lq0 a=-1:=by
    delta uu;rw[Ax<|Lq0.drop a]
    have:(Lq0.drop a).drop (cD (fun d=>d != 34)<|Lq0.drop a)=[]:=by rw[acN];exact List.drop_eq_nil_of_le (by mright)
    rw[this];rfl
   rw[hf,b];rfl
theorem fL(h:a≠b):jp (.str a) (.str b)=.ok (.bl η):=by rw[jg,afm h]
theorem ot(h:a=b):jp (.str a) (.str b)=.ok (.bl G):=by rw[jg,afn h]
theorem all_map(f:Nat->Bool)(l:afq)(h:∀c∈l,f c=G):Dd [.lst<|l.map fun c=>D.bl<|f c]=.ok (.bl G):=by
 rw[Uq<|BP _ _];mright
theorem Hv(z:Str)(h:ci z=G):uJ [.str z]=.ok (.bl G):=by
 delta ci at h;simp only[oR,abg,decide_eq_true_eq,decide_eq_false_iff_not,aaH]at h;obtain⟨f,i,b,a⟩:=h;have d:cr [.str z]=.ok (.int z.length):=by rw[HY,afk<|⊥]
 have e:cF (.one 0) xa (aI fJ<|ak (ag 0) aQ) [U] (z.cps.toList.map fun c=>D.str ⟨#[c]⟩)=.ok (.lst<|z.cps.toList.map fun c=>D.bl<|low c):=
  jr _ _ rfl (by rw[nY];lia) fun c g=>(pv c)
 refine aq<|(skip<|lR rfl (lR (ao<|(fL f))<|ao<|ae (d) rfl (vQ.trans<|by grind))).trans<|ar<|pH (af (ac (e) rfl)<|all_map low _ b)<|((Fc z).trans<|by rw[a];rfl)
theorem Ny(h:φ Y=.ok (.str z))(h2:α Y=.ok ds)(a:f z ds=r):DN f φ α Y=r:=by rw[Xe,h,am,Ws,h2,am,a]
theorem JP(Lq0:afq)(b:Lq0.length<=90000)(q:Nat)(i:q<=Lq0.length)(k:Str)(h:∀w,w=aw ((Lq0.drop q).takeWhile low)->(k="key"/\oX w=G)\/(k="name"/\ci w=G)):jK [.str<|aw Lq0,.int (q:Int)]=.ok (tW k (.str<|aw<|(Lq0.drop q).takeWhile low) q<|q+cD low (Lq0.drop q)):=by
 have d:=zV low<|Lq0.drop q;rw[abq]at d;have e:=xi Lq0 q (q+cD low (Lq0.drop q)) ∅ (by grind) ⊥;rw[show q+cD low (Lq0.drop q)-q=cD low (Lq0.drop q) by simp,yp]at e;have h:=h _ rfl;refine aq (r:=jU _) ((bu<|au rfl).trans ((bu ((congrFun (by rfl) _).trans ((fun Lq0 b P o q i =>  Bn Lq0 b P [o] q fun a c l=>by
   show((((cR (.str (aw Lq0)) (.int a)).bind (MP aQ _)).bind fJ).bind L4)=_;rw[qB Lq0 b a c l,am,Qf,SY,am,J1,am,pv];rfl) Lq0 b (.int (q:Int)) U q i))).trans ((bu (au (T6 rfl (C4 rfl) (C4 rfl) e))).trans ?_)))
 generalize aw ((Lq0.drop q).takeWhile low)=w at h;have f:dC (aH rE (ag 3)<|vC tY) [J<|D.str<|aw Lq0,J<|.int q,J<|.int<|(q+cD low (Lq0.drop q)),J<|.str w]=.ok (oX w):=rfl;rcases h with⟨rfl,j⟩|⟨rfl,g⟩
 .exact aS ((a8<|f.trans<|by rw[j]).trans rfl)
 .have d:oX w=η:=by delta ci at g;lia
  exact(skip<|f.trans<|by rw[d]).trans<|ar<|vp (eV ((Hv w g)) rfl) rfl
theorem xH(Lq0:afq)(b:Lq0.length<=90000)(q:Nat)(a:q+1<=Lq0.length):lV [.str<|aw Lq0,.int (q:Int)]=.ok (.int ((q+1+cD j7 (Lq0.drop<|q+1):Nat):Int)):=
 aq (((bu<|(GT Lq0 b (.int q) (q+1) a)).trans rfl))
theorem Fg(Lq0:afq)(b:Lq0.length<=90000)(q n:Nat)(c:tq (Lq0.drop<|q+1)=J n):sE [.str<|aw Lq0,.int (q:Int)]=.ok (.int ((q+1+n:Nat):Int)):=by
 have e0:QL (fun x y i=>.int<|Al x y i) (aw Lq0) [.str<|"\"",.int<|q+1]=.ok (.int<|Jj Lq0<|q+1):=by
  rw[<-HU];rfl
 have a:=vt Lq0 b (.int q) 99999 (q+1) ⊥;have d:uu Lq0 (q+1)=((q+1+n:Nat))-1:=by unfold uu;rw[c]
 refine aq<|(bu<|au<|e0).trans<|(bu<|a).trans<|ar<|vp (ao<|(GM.trans<|by rw[afn<|⊥])) ?_;refine(ir rfl rfl).trans ?_
 grind
noncomputable def fg(Lq0:afq):afq:=if Lq0[0]?=J 45 then Lq0.drop 1 else Lq0
theorem Qk(Lq0:afq):(fg Lq0).length<=Lq0.length:=by delta fg;split<;>simp
def RN(Lq0:afq):Bool:=!(decide (fg Lq0=[])||!(fg Lq0).all j7)&&(!(decide ((fg Lq0)[0]?=J 48)&&decide (Lq0≠[48]))&&decide ((fg Lq0).length<=18))
def DE(Lq0:afq):Int:=if Lq0[0]?=J 45 then -(ae0 (fg Lq0):Int)else(ae0 (fg Lq0):Int)
theorem Lo(Lq0:afq)(h:RN Lq0=G):xK [.str<|aw Lq0]=.ok (.int<|DE Lq0):=by
 delta RN at h;simp only[oR,abg,acK,decide_eq_false_iff_not,aeN,aaH,decide_eq_true_eq]at h;obtain⟨⟨h1,h2⟩,j,d⟩:=h;have hd:∀c∈fg Lq0,48<=c/\c<=57:=fun c g=>by have:=h2 c g;unfold j7 at this;exact afo this
 have i:Lq0.length<=19:=by
  delta fg at d;split at d
  .simp at d;omega
  .lia
 have e:intText? (aw Lq0)=J (DE Lq0):=by
  delta DE;by_cases b:Lq0[0]?=J 45
  .rw[afk b];have f:fg Lq0=Lq0.drop 1:=by delta fg;rw[afk b]
   refine intText_neg ?_ hd h1 (by rw[bM];lia);rw[az];cases Lq0 with
   |nil=>cases b
   |cons a r=>mright
  .rw[afl b];have f:fg Lq0=Lq0:=by delta fg;rw[afl b]
   rw[f]at hd h1⊢
   have:=intText_digits (x:=aw Lq0) (by assumption) (by assumption) (by rw[bM];lia)
   assumption
 delta xK;simp;rw[e];simp only;rw[bM,afk<|⊥]
theorem GN(n:Nat):∀c∈dg n,j7 c=G:=fun c a=>by
 have:=pO a
 exact afn this
theorem om(i:Int)(h:i.natAbs<10^18):RN (cu i)=G/\DE (cu i)=i/\(cu i)[0]?≠J 34/\(cu i).length<=20:=by
 have l:=fun c(g:c∈cu i)=>yB g;have j:(cu i)[0]?≠J 34:=fun e=>by have:=l 34<|Do e;lia
 have a:=GN i.natAbs;have d:=zN 17 i.natAbs ⊥;have f:=M7 i.natAbs;have k:fg (cu i)=dg i.natAbs:=by
  delta fg cu;by_cases b:i<0
  .rw[afk b];rfl
  .rw[afl b,afl];intro e
   have:=pO<|Do e
   lia
 refine⟨?_,?_,j,?_⟩
 .delta RN;rw[k,afm f,aaH.mpr a,afn d]
  have:(decide ((dg i.natAbs)[0]?=J 48)&&decide (cu i≠[48]))=η:=by
   by_cases m:i=0
   .subst m
    have:cu 0=[48]:=by delta cu;rw[afl<|∎];exact fS ∅
    rw[this];simp
   .obtain⟨c,r,e,g⟩:=Kq i.natAbs (by mright);rw[e]
    have:¬(c::r)[0]?=J 48:=fun e=>g (by simpa using e)
    rw[afm this];rfl
  rw[this];rfl
 .delta DE;rw[k,Od];by_cases b:i<0
  .rw[afk<|by delta cu;rw[afk b];rfl];grind
  .rw[afl]
   .lia
   .delta cu;rw[afl b];intro e
    have:=pO<|Do e
    lia
 .delta cu
  grind
theorem xx(h:φ Y=.ok (.str<|aw Lq0))(a:y=aw [c]):lP (DN (Ly fun x y=>.bl<|abQ x y) φ<|ak (vC<|.str y) aQ) Y=.ok (decide (Lq0[0]?=J c)):=by
 refine eV (Ny h rfl (show Ly (fun x y=>.bl<|abQ x y) (aw Lq0) [.str y]=.ok (.bl<|(Lq0[0]?=c))from ?_)) rfl;show R.ok (D.bl<|abQ (aw Lq0) y)=_;rw[a,Ri,az]
theorem Yx(Lq0:afq)(b:Lq0.length<=100):MU (lP<|DN (Ly fun x y=>.bl<|abQ x y) (ag 0)<|ak (vC<|.str "-") aQ) (Jm xo (ag 0) (gI<|vC<|.int 1) Hh) (ag 0) [J<|.str<|aw Lq0,U]=.ok (.str<|aw<|fg Lq0):=by
 have q:=xx (Y:=[J<|.str<|aw Lq0,U]) (φ:=ag 0) rfl ZU;delta fg;by_cases h:Lq0[0]?=J 45
 .rw[h];rw[h]at q;cases Lq0 with
  |nil=>nofun
  |cons a r=>exact vp q<|(KQ r a<|by mright;lia)
 .rw[afl h];rw[afm h]at q;exact B7 q rfl
theorem Bz(c:Nat):rE (.str ⟨#[c]⟩) (.str "0123456789")=.ok (.bl<|j7 c):=by rw[jE,RX,ub,az,HL]
theorem yP(Lq0:afq)(h:RN Lq0=G)(g:Lq0.length<=100):l9 [J<|.str<|aw Lq0] []=.ok (.int<|DE Lq0) []:=by
 have l:=Qk Lq0;have i:=Lo Lq0 h;delta RN at h;simp only[oR,abg,acK,decide_eq_false_iff_not,aeN,aaH,decide_eq_true_eq]at h;obtain⟨⟨h1,h2⟩,a,j⟩:=h;have e:cF (.one 0) xa (aH rE (ag 0)<|vC<|.str "0123456789") [U] ((aw<|fg Lq0).cps.toList.map fun c=>D.str ⟨#[c]⟩)=.ok (.lst<|(aw<|fg Lq0).cps.toList.map fun c=>D.bl<|j7 c):=
  jr _ _ rfl (by rw[az];lia) fun c k=>ae rfl rfl (Bz c)
 have f:mQ (lP<|DN (Ly fun x y=>.bl<|abQ x y) (ag 1)<|ak (vC<|.str "0") aQ) (dC<|aH xF (ag 0)<|vC<|.str "0") [J<|.str<|aw Lq0,J<|.str<|aw<|fg Lq0]=.ok η:=by
  have q:=xx (Y:=[J<|.str<|aw Lq0,J<|.str<|aw<|fg Lq0]) (φ:=ag 1) (Lq0:=fg Lq0) (y:="0") (c:=48) rfl ZO;by_cases b:(fg Lq0)[0]?=J 48
  .rw[afn b]at q a;have d:Lq0=[48]:=by simpa using a
   exact kW q<|ao<|ae rfl rfl (vE.trans<|by rw[d,ZO];rfl)
  .rw[afm b]at q;exact Bu q
 exact cL<|iG (aN<|Yx Lq0 g)<|gG (aR<|lR (ao<|(fL<|by exact fun z=>h1<|mk_inj.mp z))<|qj<|eV (af (ac (e) rfl)<|all_map j7 _<|by assumption) rfl)<|gG (aR f)<|gG (aR<|ao<|ae ((jo (fg Lq0)<|⊥)) rfl (vQ.trans<|by grind))<|eG<|aN<|i
theorem wJ:∀T:afq,(eN T).length<=2*T.length
 |[]=>by simp[eN]
 |c::r=>by
  have:=wJ r
  by_cases h:c=34
  .subst h;simp[eN]at this⊢;lia
  .simp[eN,h]at this⊢;lia
theorem DT(T:afq)(g:T.length<=40)(h:∀c∈T,32<=c/\c<=126):qa [J<|.str<|aw<|34::(eN T++[34])] []=.ok (.str<|aw T) []:=by
 have hd:=wJ T;have a:=jo (34::(eN T++[34])) (by simp;lia);have f:Ly (fun x y=>.bl<|adh x y) (aw<|34::(eN T++[34])) [.str<|lE "\""]=.ok (.bl G):=by
  show R.ok (D.bl<|adh (aw<|34::(eN T++[34]))<|lE "\"")=_;rw[Jl,XO,az,bM,afn<|∅]
 have d:rE (.str<|lE "\"") (.str<|aw<|ku [] T)=.ok (.bl η):=by
  rw[Jl,ub,az,afm<|sk T]
 exact cL (gG (aR<|lR (ao<|ae (a) rfl (wR.trans<|by rw[afm<|by simp;lia]))<|qj<|eV (f) rfl) (iG (aN<|(Oo (eN T) 34 34<|⊥)) (gG (aR<|ao<|ae rfl ((So T<|⊥)) d) (iG (aN<|(Si T<|⊥)) (gG (aR (qj (eV (((by
   have e:cF (.one 0) xa (aI pC<|ak (ag 0) aQ) [U] ((aw T).cps.toList.map fun c=>D.str ⟨#[c]⟩)=.ok (.lst<|(aw T).cps.toList.map fun c=>D.bl<|(32<=c)&&(c<=126)):=
    jr _ _ rfl (by rw[az];lia) fun c b=>(Lj c)
   have a  := jo T ⊥;refine aq (aS ((ar (pH (ae (a) rfl (Gv.trans (by grind))) (af (ac (e) rfl) (all_map (fun c=>(32<=c)&&(c<=126)) _ fun c b=>by simp[h c b]))))))))) rfl))) rfl)))))
theorem OA{mt:Str->Bool}(h:φ Y L=.ok d μ1)(a:autoParam (lst nl μ1=μ2) Xaz):sO nl P φ mt ψ Y L=.rt d μ2:=by subst a;delta sO;rw[h]
theorem yO(Lq0:afq)(b:Lq0.length<=90000)(q e:Nat)(k:Str)(d:D)(h1:q<=e)(h2:e<=Lq0.length)(f:noL d=G)(a:nz [J<|.str<|aw<|(Lq0.drop q).take<|e-q] []=.ok d []):calmO mG [.str<|aw Lq0,.int (q:Int),.str k,.int (e:Int)]=.ok (tW k d q e):=by
 have c:=xi Lq0 q e h1 h2 ⊥;have r:mG [J<|.str<|aw Lq0,J<|.int q,J<|.str k,J<|.int e] []=.ok (tW k d q e) []:=
  cL (OA<|B5<|bg rfl (bg (aM (bg (aN<|c) rfl)<|ka a rfl) rfl))
 delta calmO;mright
theorem PK(Lq0 y:afq)(q:Nat)(b:y≠[]):HV (aw Lq0) (aw y) (q:Int)=((Lq0.drop q).take y.length==y):=by
 delta HV;have a:fromIndex (aw Lq0).length q=q:=by rfl
 rw[a,PySem.StrLaws.subAt_eq,az,az,bM,bM];cases h:((Lq0.drop q).take y.length==y)with
 |false=>simp
 |true=>
  have:0<y.length:=by grind
  grind
noncomputable def Dy:List<|afq:=[[60,62],[60,61],[62,61],[60],[62],[61],[44],[46],[40],[41]]
def Wg(R:afq):Option<|afq:=Dy.find? fun y=>R.take y.length==y
abbrev gB:FS:=(DA (lP<|DN (QL fun x y i=>.bl<|HV x y i) (ag 0)<|ak (ag 2)<|ak (ag 1) aQ) (pX<|uD<|ak (vC<|.str "sign")<|ak (ag 2)<|ak (ag 1)<|ak (aH eZ (ag 1)<|aI cr<|ak (ag 2) aQ) aQ) ld)
theorem GL(Lq0:afq)(q:Nat)(w:afq):∀(ys:List<|afq)(o:Option D),(∀y∈ys,y≠[]/\y.length<=5)->(ys.find? fun y=>(Lq0.drop q).take y.length==y)=J w->cZ (.one 2) gB (ys.map fun y=>D.str<|aw y) [J<|.str<|aw Lq0,J<|.int (q:Int),o]=.ok (.rt<|tW "sign" (.str<|aw w) q<|q+w.length)
 |[],o,_,h=>by nofun
 |y::r,o,h,hw=>by
  obtain⟨h1,h2⟩:=h y ∅;have b:=GL Lq0 q w r (J<|.str<|aw y) fun x c=>h x<|ie _ c;rw[aaV,sS];show(R.ok [J<|D.str<|aw Lq0,(D.int q),(D.str<|aw y)]).bind _=_;rw[am,Ja];rw[abS]at hw;have a:lP (DN (QL fun x y i=>.bl<|HV x y i) (ag 0)<|ak (ag 2)<|ak (ag 1) aQ) [(D.str<|aw Lq0),(D.int q),(D.str<|aw y)]=.ok ((Lq0.drop q).take y.length==y):=by
   rw[<-PK Lq0 y q h1];rfl
  delta gB at b⊢;cases hb:(Lq0.drop q).take y.length==y with
  |false=>
   rw[hb]at a hw;rw[j0 a,Ov,am,v9,b hw]
  |true=>
   rw[hb]at a hw;cases hw;rw[a8 a,ar<|de<|ac rfl (ac rfl (ac rfl (ac (ae rfl ((jo w<|⊥)) nJ) rfl)))];rfl
theorem LR(Lq0:afq)(q:Nat)(w:afq)(h:Wg (Lq0.drop q)=J w):vh [.str<|aw Lq0,.int (q:Int)]=.ok (tW "sign" (.str<|aw w) q<|q+w.length):=by
 have a:=GL Lq0 q w Dy U ∎ h;exact aq<|aS<|a
inductive Sp:Kv->afq->Prop
 |key (w:afq) (hn:w≠[]) (h:∀c∈w,low c=G) (hr:oX (aw w)=G):Sp (kK<|aw w) w
 |name (w:afq) (hn:w≠[]) (h:∀c∈w,low c=G) (hr:ci (aw w)=G):Sp (kN<|aw w) w
 |num (i:Int) (h:i.natAbs<10^18):Sp ("number",.int i) (cu i)
 |txt (T:afq) (hl:T.length<=40) (h:∀c∈T,32<=c/\c<=126):Sp ("text",.str<|aw T) (34::(eN T++[34]))
 |sgn (y:afq) (h:y∈Dy):Sp (kS<|aw y) y
def bh(w b:afq):Bool:=match b with
 |[]=>G
 |c::_=>match w with
  |[]=>η
  |a::r=>if low a then !low c else if j7 a||a==45 then !j7 c else if a==34 then c != 34 else !(r.isEmpty&&(a==60&&(c==61||c==62)||a==62&&c==61))
theorem Ma(y b:afq)(h:y∈Dy)(a:bh y b=G):Wg (y++b)=J y:=by
 simp only[Dy,eQ,aaz,or_false]at h;rcases h with rfl|rfl|rfl|rfl|rfl|rfl|rfl|rfl|rfl|rfl<;>cases b<;>first|rfl|simp_all[Wg,Dy,bh,low,j7,abS]
theorem xk(y:afq)(h:y∈Dy):∃c r,y=c::r/\low c=η/\j7 c=η/\c≠45/\c≠34/\c≠32:=by
 simp only[Dy,eQ,aaz,or_false]at h;rcases h with rfl|rfl|rfl|rfl|rfl|rfl|rfl|rfl|rfl|rfl<;>exact⟨_,_,rfl,∎⟩
theorem zG(f:Nat->Bool):∀(w b:afq),(∀c∈w,f c=G)->(∀c,b[0]?=J c->f c=η)->(w++b).takeWhile f=w
 |[],[],_,_=>rfl
 |[],c::r,_,h=>by
  mright
 |x::w,b,hw,h=>by
  rw[ad2,acS,hw x<|∅,afk rfl,zG f w b (fun c a=>hw c<|ie _ a) h]
theorem Gk:∀(T b:afq),b[0]?≠J 34->tq (eN T++34::b)=J ((eN T).length+1)
 |[],b,h=>Ho b h
 |c::r,b,h=>by
  have d:=Gk r b h;by_cases a:c=34
  .subst a;show tq (34::34::(eN r++34::b))=_;rw[IJ,d];rfl
  .have:eN (c::r)=c::eN r:=by simp[eN,a]
   rw[this];show tq (c::(eN r++34::b))=_;rw[ye c _ a,d];rfl
theorem GI(h:low c=G):c≠32:=fun z=>by subst z;exact absurd h ∎
theorem gu(i:Int):∃c r,cu i=c::r/\(∀d∈r,j7 d=G)/\(j7 c||decide (c=45))=G/\low c=η/\c≠32:=by
 have a:=GN i.natAbs;delta cu;by_cases b:i<0
 .rw[afk b];exact⟨45,_,rfl,a,rfl,rfl,∎⟩
 .rw[afl b];cases hd:dg i.natAbs with
  |nil=>exact absurd hd<|M7 _
  |cons c r=>
   have:c∈dg i.natAbs:=by rw[hd];simp
   have:=pO this
   delta low
   grind
theorem Sp.head(h:Sp x w):∃c r,w=c::r/\c≠32:=by
 cases h with
 |key w b h a=>cases w with|nil=>lia|cons c r=>exact⟨c,r,rfl,GI<|h c<|∅⟩
 |name w b h a=>cases w with|nil=>lia|cons c r=>exact⟨c,r,rfl,GI<|h c<|∅⟩
 |num i h=>refine Z25 (gu i) fun c r e _ _ _ h=>?_;exact⟨c,r,e,h⟩
 |txt T d h=>simp
 |sgn y h=>refine Z26 (xk _ h) fun c r e _ _ _ _ h=>?_;exact⟨c,r,e,h⟩
theorem Im(Lq0:afq)(d:Lq0.length<=80000)(p k:Nat)(b:p+k=Lq0.length)(c:∀i,i<k->Lq0[p+i]?=J 32):lK [.str<|aw Lq0,.int (p:Int)]=.ok (tW "end" .non Lq0.length Lq0.length):=by
 have e:=FD Lq0 ⊥ (.int p) U p k c (by rw[b];simp) ⊥;have a:=jo Lq0 ⊥;exact aq<|((bu<|e).trans<|aS<|(a8<|ao<|ae rfl (a) (GM.trans<|by mright)).trans<|ar<|de<|ac rfl (ac rfl (ac (a)<|ac (a) rfl)))
theorem GC(Lq0:afq)(hl:Lq0.length<=80000)(p k:Nat)(hb:∀i,i<k->Lq0[p+i]?=J 32)(O:Sp x w)(b:afq)(hd:Lq0.drop (p+k)=w++b)(m:bh w b=G):lK [.str<|aw Lq0,.int (p:Int)]=.ok (tW x.1 x.2 (p+k)<|p+k+w.length):=by
 obtain⟨c,r,f,hc⟩:=O.head;have K:Lq0[p+k]?=J c:=by
  have:=oA Lq0 (p+k) 0
  rw[hd,f]at this;simpa using this.symm
 have Q:Lq0.length=p+k+w.length+b.length:=by
  have:=afp acR hd
  rw[abq,LX]at this
  have:p+k<Lq0.length:=(rW.mp K).1
  lia
 have hw1:1<=w.length:=by rw[f];simp
 have e:=FD Lq0 ⊥ (.int (p:Int)) U p k hb (by rw[K];simpa using hc) ⊥;have W:=jo Lq0 ⊥;have ex:=qB Lq0 ⊥ (p+k) c K;generalize hq:p+k=q at *;refine aq (r:=pI _)<|(bu<|au rfl).trans<|(bu<|(congrFun (by rfl) _).trans e).trans<|(skip<|ao<|ae rfl (lf rfl W) (GM.trans<|by rw[afm<|⊥])).trans<|(bu<|au<|ae rfl rfl ex).trans ?_;have A:∀z,low c=z->lP (aI fJ<|ak (ag 3) aQ) [J<|D.str<|aw Lq0,J<|D.int (p:Int),J<|D.int (q:Int),J<|D.str ⟨#[c]⟩]=.ok z:=fun z g=>eV (af (ac rfl rfl)<|pv c) (by rw[g];rfl);have tN:∀z,(j7 c||decide (c=45))=z->KF (dC<|aH rE (ag 3)<|vC<|.str "0123456789") (dC<|aH jp (ag 3)<|vC<|.str "-") [J<|D.str<|aw Lq0,J<|D.int (p:Int),J<|D.int (q:Int),J<|D.str ⟨#[c]⟩]=.ok z:=fun z g=>by
  have e1:dC (aH rE (ag 3)<|vC<|.str "0123456789") [J<|D.str<|aw Lq0,J<|D.int (p:Int),J<|D.int (q:Int),J<|D.str ⟨#[c]⟩]=.ok (j7 c):=ao<|ae rfl rfl (Bz c);have e2:dC (aH jp (ag 3)<|vC<|.str "-") [J<|D.str<|aw Lq0,J<|D.int (p:Int),J<|D.int (q:Int),J<|D.str ⟨#[c]⟩]=.ok (decide (c=45)):=ao<|ae rfl rfl (by rw[jE,ZU,jg];congr 2;exact decide_eq_decide.mpr<|mk_inj.trans<|∅);cases h:j7 c with
  |true=>rw[h]at e1 g;rw[<-g];exact P7 e1
  |false=>rw[h]at e1 g;exact lR e1 (by rw[e2,<-g];rfl)
 have V:∀z,decide (c=34)=z->dC (aH jp (ag 3)<|vC<|.str "\"") [J<|D.str<|aw Lq0,J<|D.int (p:Int),J<|D.int (q:Int),J<|D.str ⟨#[c]⟩]=.ok z:=fun z g=>ao<|ae rfl rfl (by rw[jE,Jl,jg,<-g];congr 2;exact decide_eq_decide.mpr<|mk_inj.trans<|∅);have j:∀s:Str,(∀c∈w,low c=G)->((s="key"/\oX (aw w)=G)\/(s="name"/\ci (aw w)=G))->jK [.str<|aw Lq0,.int (q:Int)]=.ok (tW s (.str<|aw w) q<|q+w.length):=fun s S hk=>by
  have N:(Lq0.drop q).takeWhile low=w:=by
   rw[hd];refine zG low w b S fun d a=>?_;cases b with
   |nil=>simp at a
   |cons d' b=>
    have a:d'=d:=by simpa using a
    subst a;rw[f]at m
    have:low c=G:=S c (by rw[f];simp)
    simpa[bh,this]using m
  have:=JP Lq0 ⊥ q ⊥ s (by rw[N];rintro _ rfl;exact hk)
  unfold cD at this;rw[N]at this;exact this
 cases O with
 |key w u h E=>exact aS<|(a8<|A G<|h c<|by rw[f];simp).trans<|ar<|af (ac rfl (ac rfl rfl))<|j "key" h<|.inl ⟨rfl,E⟩
 |name w u h E=>exact aS<|(a8<|A G<|h c<|by rw[f];simp).trans<|ar<|af (ac rfl (ac rfl rfl))<|j "name" h<|.inr ⟨rfl,E⟩
 |num i h=>
  left;refine Z25 (gu i) fun v l n B o t _=>?_;obtain⟨rfl,rfl⟩:v=c/\l=r:=by rw[n]at f;simpa using f
  right;have er:cD j7 (Lq0.drop<|q+1)=l.length:=by
   have:Lq0.drop (q+1)=l++b:=by rw[<-acN,hd,n];rfl
   rw[this];unfold cD;rw[zG j7 l b B fun d a=>?_];cases b with
   |nil=>simp at a
   |cons d' b=>
    have a:d'=d:=by simpa using a
    subst a;rw[n]at m;have I:(j7 v||v==45)=G:=by simpa using o
    simpa[bh,t,I]using m
  have R:=xH Lq0 ⊥ q ⊥;have H:q+1+l.length=q+(cu i).length:=by rw[n,aaS];lia
  rw[er,H]at R;have F:=yO Lq0 ⊥ q (q+(cu i).length) "number" (.int i) ⊥ ⊥ rfl (by
   rw[show q+(cu i).length-q=(cu i).length by lia,hd,List.take_left];exact(by
     obtain⟨h1,h2,h3,M⟩:=om i h;have r:=yP (cu i) h1 ⊥;rw[h2]at r;have u:aw (cu i)≠"none":=by
      rw[Nv];intro z;have e:=mk_inj.mp z
      have:=yB (c:=110) (by rw[e];simp)
      lia
     exact cL (gG (aR (ao ((fL u)))) (gG (aR ((xx rfl Jl).trans (by grind))) (eG (aM rfl (ka r rfl)))))))
  exact(skip<|A η t).trans<|aS<|(a8<|tN G o).trans<|ar<|af (ac rfl (ac rfl (ac rfl (ac (af (ac rfl (ac rfl rfl)) R) rfl)))) F
 |txt T X h=>
  obtain⟨rfl,_⟩:34=c/\eN T++[34]=r:=by simpa using f
  have C:Lq0.drop (q+1)=eN T++34::b:=by rw[<-acN,hd];simp
  have P:=Fg Lq0 ⊥ q ((eN T).length+1) (by
   rw[C];refine Gk T b fun z=>?_;cases b with
   |nil=>simp at z
   |cons d' b=>
    have z:d'=34:=by simpa using z
    subst z;simp[bh,low,j7]at m)
  have H:q+1+((eN T).length+1)=q+(34::(eN T++[34])).length:=by simp;lia
  rw[H]at P;have F:=yO Lq0 ⊥ q (q+(34::(eN T++[34])).length) "text" (.str<|aw T) ⊥ ⊥ rfl (by
   rw[show q+(34::(eN T++[34])).length-q=(34::(eN T++[34])).length by lia,hd,List.take_left];exact(by
     have r:=DT T X h;have u:aw (34::(eN T++[34]))≠"none":=by
      rw[Nv];intro z;have e:=mk_inj.mp z;injection e with e _
      lia
     exact cL (gG (aR (ao ((fL u)))) (BS (kR (aR ((xx rfl Jl).trans rfl)) (eG (aM rfl (ka r rfl))))))))
  exact(skip<|A η rfl).trans<|(skip<|tN η rfl).trans<|aS<|(a8<|V G rfl).trans<|ar<|af (ac rfl (ac rfl (ac rfl (ac (af (ac rfl (ac rfl rfl)) P) rfl)))) F
 |sgn y h=>
  left;refine Z26 (xk _ h) fun v l n h1 h2 h3 M _=>?_;obtain⟨rfl,rfl⟩:v=c/\l=r:=by rw[n]at f;simpa using f
  right;have sa:=LR Lq0 q w (by rw[hd];exact Ma w b h m);exact(skip<|A η h1).trans<|(skip<|tN η<|by mright).trans<|(skip<|V η<|afm M).trans<|ar<|sa
theorem Sp.mid(h:Sp x w):qp x.1/\Dl x.2/\(x.1="number"->∃i,x.2=.int i)/\(x.1="sign"->∃y,x.2=.str y):=by
 have a:∀k∈(["key","name","number","text","sign"]:afr),qp k:=by delta qp;trivial
 have b:∀k∈(["key","name","text","sign"]:afr),k≠"number":=⊤
 have c:("number":Str)≠"sign":=⊤
 cases h with
 |key w e h d=>exact⟨a "key"<|∅,.inr<|.inr ⟨_,rfl⟩,fun z=>absurd z<|b "key"<|∅,fun _=>⟨_,rfl⟩⟩
 |name w e h d=>exact⟨a "name"<|∅,.inr<|.inr ⟨_,rfl⟩,fun z=>absurd z<|b "name"<|∅,fun _=>⟨_,rfl⟩⟩
 |num i h=>exact⟨a "number"<|∅,.inr<|.inl ⟨_,rfl⟩,fun _=>⟨_,rfl⟩,fun z=>absurd z c⟩
 |txt T f h=>exact⟨a "text"<|∅,.inr<|.inr ⟨_,rfl⟩,fun z=>absurd z<|b "text"<|∅,fun _=>⟨_,rfl⟩⟩
 |sgn y h=>exact⟨a "sign"<|∅,.inr<|.inr ⟨_,rfl⟩,fun z=>absurd z<|b "sign"<|∅,fun _=>⟨_,rfl⟩⟩
theorem AH(h:lK [.str z,.int p]=.ok (tW "end" d q e)):dt [.str z,.int p]=.ok (tW "end" d q e):=
 aq ((bu<|au<|h).trans rfl)
abbrev It:=Nat×Kv×afq
def txt:List It->Nat->afq
 |[],m=>aaA m 32
 |(k,_,w)::r,m=>aaA k 32++(w++txt r m)
def Good(m:Nat):List It->Prop
 |[]=>True
 |(_,x,w)::r=>Sp x w/\bh w (txt r m)=G/\Good m r
noncomputable def toks(p:Nat):List It->Nat->List Tok
 |[],m=>[⟨"end",.non,p+m,p+m⟩]
 |(k,x,w)::r,m=>if p+k+w.length<=900 then⟨x.1,x.2,p+k,p+k+w.length⟩::toks (p+k+w.length) r m else[⟨"bad",.non,p+k,p+k⟩]
theorem HX(A B:afq)(k i:Nat)(h:i<k):(A++(aaA k 32++B))[A.length+i]?=J 32:=by
 rw[aaI<|∅,show A.length+i-A.length=i by simp,aaX<|by simpa using h,ack,afk h]
theorem uO(m:Nat):∀(r:List It)(A:afq),Good m r->(A++txt r m).length<=80000->∃w f,toks A.length r m=w::f/\dt [.str<|aw<|A++txt r m,.int (A.length:Int)]=.ok w.d/\Ch (aw<|A++txt r m) (w::f)/\∀c∈w::f,KOk c
 |[],A,_,hl=>by
  have a:(A++txt [] m).length=A.length+m:=by simp[txt]
  have e:=AH (Im (A++txt [] m) hl A.length m a.symm fun i n=>by
   have:=HX A [] m i n
   rwa [aaJ]at this)
  rw[a]at e;refine⟨_,_,rfl,e,.last _ (.inl rfl) (.inl rfl) (by show A.length+m<_;lia),fun c b=>?_⟩;rw[IF.mp b];exact⟨fun z=>absurd z (by show ¬(("end":Str)="number");decide +kernel),fun z=>absurd z (by show ¬(("end":Str)="sign");decide +kernel)⟩
 |(k,x,w)::r,A,p,hl=>by
  left;obtain⟨u,C,p⟩:=p;refine Z04 u.mid fun s H D hs=>?_;right;have a:(A++txt ((k,x,w)::r) m).length=A.length+k+w.length+(txt r m).length:=by simp[txt];lia
  have e:=GC (A++txt ((k,x,w)::r) m) hl A.length k (fun i n=>HX A _ k i n) u (txt r m) (by
   show(A++(aaA k 32++(w++txt r m))).drop (A.length+k)=_;rw[<-aaE,<-show(A++aaA k 32).length=A.length+k by simp,List.drop_left]) C
  unfold toks;by_cases q:A.length+k+w.length<=900
  .rw[afk q];have y:A++txt ((k,x,w)::r) m=(A++(aaA k 32++w))++txt r m:=by simp[txt]
   have o:(A++(aaA k 32++w)).length=A.length+k+w.length:=by simp;lia
   left;refine Z24 (uO m r (A++(aaA k 32++w)) p (by rw[<-y];exact hl)) fun c f j g v B=>?_;right;rw[o]at j g;rw[<-y]at g v;refine⟨_,_,rfl,(fun h E F =>  aq<|(bu<|au<|h).trans<|(skip<|kW (ao<|(vE.trans<|by mright))<|ao<|(vQ.trans<|by grind)).trans rfl) e s.1 q,?_,?_⟩
   .rw[j];exact .more _ _ _ H (by show A.length+k<_;lia) g v
   .rw[j];intro t l;rcases eQ.mp l with rfl|l
    .exact⟨D,hs⟩
    .exact B t l
  .rw[afl q];refine⟨_,_,rfl,(fun h E F =>  aq<|(bu<|au<|h).trans<|aS<|(a8<|kW (ao<|(vE.trans<|by mright))<|ao<|(vQ.trans<|by grind)).trans rfl) e s.1<|by omega,.last _ (.inr rfl) (.inl rfl)<|⊥,fun c b=>?_⟩;rw[IF.mp b];exact⟨fun z=>absurd z (by show ¬(("bad":Str)="number");trivial),fun z=>absurd z (by show ¬(("bad":Str)="sign");trivial)⟩
theorem Ld(m:Nat)(r:List It)(b:Good m r)(d:(txt r m).length<=80000):Toks (aw<|txt r m)<|toks 0 r m:=by
 obtain⟨w,g,e,f,c,k⟩:=uO m r [] b d;have a:toks 0 r m=w::g:=e;exact⟨a▸c,a▸k,by rw[a];exact f⟩
def dU(x:Kv):afq:=match x.2 with
 |.int i=>cu i
 |.str z=>if x.1="text"then 34::(eN z.cps.toList++[34])else z.cps.toList
 |_=>[]
abbrev Iw:=Nat×Kv
def tx:List Iw->afq
 |[]=>[]
 |(k,x)::r=>aaA k 32++(dU x++tx r)
theorem dc:∀a b:List Iw,tx (a++b)=tx a++tx b
 |[],b=>rfl
 |(k,x)::a,b=>by simp[tx,dc a b]
theorem mm(z:Str):dU (kK z)=z.cps.toList:=by
 rfl
theorem pP(z:Str):dU (kN z)=z.cps.toList:=by
 rfl
theorem oZ(z:Str):dU (kS z)=z.cps.toList:=by
 rfl
theorem HQ(z:Str):dU ("text",.str z)=34::(eN z.cps.toList++[34]):=by
 rfl
noncomputable def Sde.it(k:Nat):Sde->List Iw
 |.col a b=>[(k,kN a),(0,kS "."),(0,kN b)]
 |.non=>[(k,kK "none")]
 |.int i=>[(k,("number",.int i))]
 |.txt x=>[(k,("text",.str x))]
noncomputable def Eg(k:Nat)(b:Bool)(l:Nat->List Iw):List Iw:=if b=G then(k,kS "(")::(l 0++[(0,kS ")")])else l k
def Cn.it(k:Nat):Cn->List Iw
 |.test g a b=>a.it k++(1,kS g)::b.it 1
 |.not c=>(k,kK "not")::Eg 1 (decide (c.lv<3)) fun k=>c.it k
 |.and a b=>(Eg k (decide (a.lv<2)) fun k=>a.it k)++(1,kK "and")::Eg 1 (decide (b.lv<3)) fun k=>b.it k
 |.or a b=>a.it k++(1,kK "or")::Eg 1 (decide (b.lv<2)) fun k=>b.it k
def Bl(l:Nat->List Iw):Prop:=∀k,tx (l k)=aaA k 32++tx (l 0)
theorem Sde.bl(a:Sde):Bl fun k=>a.it k:=fun k=>by cases a<;>trivial
theorem Gc(b:Bool)(h:Bl l):Bl fun k=>Eg k b l:=fun k=>by
 delta Eg;cases b with
 |true=>trivial
 |false=>exact h k
theorem wq(h:Bl l)(r:List Iw):Bl fun k=>l k++r:=fun k=>by
 rw[dc,dc,h k,aaE]
theorem Cn.bl(c:Cn):Bl fun k=>c.it k:=by
 induction c with
 |test g a b=>exact wq a.bl _
 |not c d=>exact fun k=>by rfl
 |and a b i j=>exact wq (Gc _ i) _
 |or a b i j=>exact wq i _
theorem Sde.it_w(a:Sde)(k:Nat):(a.it k).map abd=a.w:=by cases a<;>rfl
theorem Me(b:Bool)(h:∀k,(l k).map abd=w)(k:Nat):(Eg k b l).map abd=xG b w:=by
 delta Eg xG;cases b with
 |true=>simp[h]
 |false=>exact h k
theorem Cn.it_w(c:Cn):∀k,(c.it k).map abd=c.w:=by
 induction c with
 |test g a b=>simp[Cn.it,Cn.w,Sde.it_w]
 |not c d=>simp[Cn.it,Cn.w,Me _ d]
 |and a b i j=>simp[Cn.it,Cn.w,Me _ i,Me _ j]
 |or a b i j=>simp[Cn.it,Cn.w,i,Me _ j]
def XU(x:Str):Prop:=x.length<=40/\∀c∈x.cps.toList,32<=c/\c<=126
def Sde.Ok:Sde->Prop
 |.col a b=>ci a=G/\ci b=G
 |.non=>True
 |.int i=>i.natAbs<10^18
 |.txt x=>XU x
theorem fH(h:ci a=G):a.cps.toList.length<=8:=by
 delta ci at h;simp only[oR,decide_eq_true_eq]at h;exact h.2.1
theorem Sde.len{a:Sde}(h:a.Ok):(tx<|a.it 0).length<=82:=by
 cases a with
 |col a b=>
  have h1:=fH h.1;have h2:=fH h.2;have e:(lE ".").cps.toList.length=1:=⊤
  simp only[Sde.it,tx,pP,oZ,LX,ab5,e,abz];lia
 |non=>
  have e:(lE "none").cps.toList.length=4:=⊤
  simp only[Sde.it,tx,mm,LX,ab5,e,abz];simp
 |int i=>
  have:=(om i h).2.2.2
  show(aaA 0 32++(cu i++[])).length<=82;simp;lia
 |txt x=>
  have h1  := h.1
  have:=wJ x.cps.toList
  rw[nY]at this;simp only[Sde.it,tx,HQ,LX,ab5,aaS,abz];lia
theorem fW(h1:φ Y=.ok (.str<|aw a))(h2:ψ Y=.ok (.str<|aw b))(h:a.length+b.length<=1000000):aH eZ φ ψ Y=.ok (.str<|aw<|a++b):=ae h1 h2 ((by
  rw[Nd,bM,bM,afk h,Pc]))
theorem d6:vC (.str z) Y=.ok (.str<|aw z.cps.toList):=by rfl
theorem u7{φ:FE}(h:φ Y=.ok (.str z)):φ Y=.ok (.str<|aw z.cps.toList):=by assumption
theorem wr(h:i.natAbs<10^18):CO [.int i]=.ok (.str<|aw<|cu i):=by
 delta CO;simp only;rw[afk<|⊥,mk_eq<|str_int i]
theorem F9(h:x.length<=40):aH eZ (aH eZ (vC<|.str "\"")<|zz (l5 "\"" "\"\"")<|ag 0) (vC<|.str "\"") [J<|.str x]=.ok (.str<|aw<|34::(eN x.cps.toList++[34])):=by
 have h1:=wJ x.cps.toList;rw[nY]at h1;have r:=SQ x ⊥;have a:(lE "\"").cps.toList=[34]:=⊤
 have:=fW (Y:=[J<|.str x]) (fW (d6 (z:="\"")) (BM (φ:=ag 0) rfl r)<|by grind) (d6 (z:="\"")) (by grind)
 trivial
noncomputable def vv:Sde->D
 |.int i=>.int i
 |.txt x=>.str x
 |_=>.non
theorem Bt(h:a.Ok)(b:∀x y,a≠.col x y):uY [vv a]=.ok (.str<|aw<|tx<|a.it 0)/\qJ [vv a]=.ok (.str<|aw<|tx<|a.it 0):=by
 cases a with
 |col x y=>exact absurd rfl (b x y)
 |non=>
  have e:aw (tx<|Sde.it 0 .non)=lE "none":=⊤
  rw[e];have h1:dC (aH OU (ag 0)<|vC .non) [J .non]=.ok G:=ao<|ae rfl rfl rfl;exact⟨aq (r:=pS [J .non])<|aS<|(a8 h1).trans<|ar rfl,aq (r:=kc [J .non])<|aS<|(a8 h1).trans<|ar rfl⟩
 |int i=>
  have e:aw (tx<|Sde.it 0<|.int i)=aw (cu i):=by simp[Sde.it,tx];rfl
  rw[e];exact⟨aq<|rfl.trans ((ar<|(wr h))),aq<|rfl.trans ((ar<|(wr h)))⟩
 |txt x=>
  have e:aw (tx<|Sde.it 0<|.txt x)=aw (34::(eN x.cps.toList++[34])):=by simp[Sde.it,tx,HQ]
  rw[e];exact⟨aq<|(skip rfl).trans<|aS<|(ar<|F9 h.1),aq<|(skip rfl).trans<|aS<|(ar<|F9 h.1)⟩
theorem pj{a:Sde}(h:a.Ok):kb [a.d]=.ok (.str<|aw<|tx<|a.it 0)/\oj [a.d]=.ok (.str<|aw<|tx<|a.it 0):=by
 by_cases b:∃x y,a=.col x y
 .obtain⟨x,y,rfl⟩:=b;have h1:=fH h.1;have h2:=fH h.2;have e1:(lE ".").cps.toList.length=1:=⊤
  have e:tx (Sde.it 0<|.col x y)=(x.cps.toList++(lE ".").cps.toList)++y.cps.toList:=by simp[Sde.it,tx,pP,oZ]
  rw[e];have g:aH eZ (aH eZ (aH cR (ag 0)<|vC<|.int 1)<|vC<|.str ".") (aH cR (ag 0)<|vC<|.int 2) [J<|Sde.d<|.col x y]=.ok (.str<|aw<|(x.cps.toList++(lE ".").cps.toList)++y.cps.toList):=
   fW (fW (u7<|ae rfl rfl rfl) d6<|⊥) (u7<|ae rfl rfl rfl) (by rw[LX];lia)
  exact⟨aq (r:=kl _)<|aS<|(ar g),aq<|aS<|(ar g)⟩
 .have hn  := fun x y z=>b ⟨x,y,z⟩;obtain⟨f,c⟩:=Bt h hn;have i:a.d=.tup [.str "value",vv a]:=by cases a with|col x y=>lia|_=>rfl
  rw[i];exact⟨aq<|(ar<|f),aq<|(ar<|c)⟩
noncomputable def Cn.sz:Cn->Nat
 |.test _ _ _=>1
 |.not c=>1+c.sz
 |.and a b=>1+a.sz+b.sz
 |.or a b=>1+a.sz+b.sz
def Cn.Fit:Cn->Prop
 |.test g a b=>g∈(["=","<>","<","<=",">",">="]:afr)/\a.Ok/\b.Ok
 |.not c=>c.Fit
 |.and a b=>a.Fit/\b.Fit
 |.or a b=>a.Fit/\b.Fit
theorem Cn.Fit.ok{c:Cn}(h:c.Fit):c.Ok:=by
 induction c with
 |test g a b=>exact h.1
 |not c d=>exact d h
 |and a b i j=>exact⟨i h.1,j h.2⟩
 |or a b i j=>exact⟨i h.1,j h.2⟩
def Cn.hw:Cn->Str
 |.test _ _ _=>"test"
 |.not _=>"not"
 |.and _ _=>"and"
 |.or _ _=>"or"
theorem Cn.hd(c:Cn):cR c.d (.int 0)=.ok (.str c.hw):=by cases c<;>rfl
theorem ms(c:Cn):uW [c.d]=.ok (.int c.lv):=by
 have a:=c.hd;have e:cdD (ae8 (fun p=>(Prod.fst p,D.int<|abd p)) [("or",1),("and",2),("not",3),("test",3)]) (.str c.hw)=.ok (.int c.lv):=by cases c<;>with_unfolding_all rfl
 exact aq<|ar<|BM (a) e
theorem Cn.szp(c:Cn):1<=c.sz:=by cases c<;>unfold Cn.sz<;>lia
def T(c:Cn):afq:=tx<|c.it 0
abbrev lS(z:Str):afq:=z.cps.toList
def zA(b:Bool)(t:afq):afq:=if b=G then(lS "("++t)++lS ")"else t
theorem Jt:lS " "=[32]:=⊤
theorem Wa:(lS "(").length=1:=⊤
theorem Yf:(lS ")").length=1:=⊤
theorem Ez(b:Bool)(c:Cn):tx (Eg 0 b fun k=>c.it k)=zA b (T c):=by
 delta Eg zA T;cases b with
 |true=>simp[tx,dc,oZ]
 |false=>rfl
theorem kf(b:Bool)(t:afq):(zA b t).length<=t.length+2:=by
 delta zA;have h1:=Wa;have h2:=Yf
 grind
theorem F5(g:Str)(a b:Sde):T (.test g a b)=(((tx (a.it 0)++lS " ")++lS g)++lS " ")++tx (b.it 0):=by
 have:=b.bl 1
 simp[T,Cn.it,dc,tx,oZ,this,Jt]
theorem Nq(c:Cn):T (.not c)=lS "not "++zA (decide (c.lv<3)) (T c):=by
 have:=Gc ((c.lv<3)) c.bl 1
 rw[Ez]at this;have e:lS "not "=lS "not"++[32]:=⊤
 simp[T,Cn.it,tx,mm,this,e]
theorem NX(A:List Iw)(w:Str)(b:Cn)(l:Int):tx (A++(1,kK w)::Eg 1 (decide (b.lv<l)) fun k=>b.it k)=(((tx A++lS " ")++lS w)++lS " ")++zA (decide (b.lv<l)) (T b):=by
 have:=Gc ((b.lv<l)) b.bl 1
 rw[Ez]at this;simp[dc,tx,mm,this,Jt]
theorem NH(a b:Cn):T (.and a b)=(((zA (decide (a.lv<2)) (T a)++lS " ")++lS "and")++lS " ")++zA (decide (b.lv<3)) (T b):=(NX _ "and" b 3).trans (by rw[Ez])
theorem Uv(a b:Cn):T (.or a b)=(((zA (decide (a.lv<1)) (T a)++lS " ")++lS "or")++lS " ")++zA (decide (b.lv<2)) (T b):=(NX (a.it 0) "or" b 2).trans (by rw[show decide (a.lv<1)=η by cases a<;>rfl];rfl)
theorem Fy:∀g∈(["=","<>","<","<=",">",">="]:afr),(lS g).length<=2:=⊤
theorem u9{c:Cn}(h:c.Fit):(T c).length<=170*c.sz:=by
 have e1:(lS "and").length=3:=⊤
 have k:(lS "or").length=2:=⊤
 have m:(lS "not ").length=4:=⊤
 have l:(lS " ").length=1:=⊤
 induction c with
 |test g a b=>
  have h1:=a.len h.2.1;have h2:=b.len h.2.2;have d:=Fy g h.1;rw[F5];simp only[LX,Cn.sz];lia
 |not c f=>
  have:=f h
  have h2:=kf ((c.lv<3))<|T c;rw[Nq];simp only[LX,Cn.sz];lia
 |and a b i j=>
  have h1:=i h.1;have h2:=j h.2;have d:=kf ((a.lv<2))<|T a;have e:=kf ((b.lv<3))<|T b;rw[NH];simp only[LX,Cn.sz];lia
 |or a b i j=>
  have h1:=i h.1;have h2:=j h.2;have d:=kf ((a.lv<1))<|T a;have e:=kf ((b.lv<2))<|T b;rw[Uv];simp only[LX,Cn.sz];lia
theorem Fw(k:Nat)(c:Cn)(g:Str)(tv:afy)(b:Bool)(e:cdD fc (.str g)=.ok (.tup tv))(a:rE (.str c.hw) (.tup tv)=.ok (.bl b))(i:(T c).length<=200000)(f:(aF k).1 [c.d]=.ok (.str<|aw<|T c)):
  (aF<|k+1).2 [c.d,.str g]=.ok (.str<|aw<|zA b<|T c):=by
 have h1:=Wa;have h2:=Yf;have h:=c.hd;cases b with
 |true=>exact aq ((bu<|au<|f).trans<|ar<|vp (ao<|ae (h) (e) a)<|fW (fW d6 rfl ⊥) d6<|by grind)
 |false=>exact aq<|(bu<|au<|f).trans<|ar<|B7 (ao<|ae (h) (e) a) rfl
theorem zE(k:Nat)(c:Cn)(a:Int)(e:(T c).length<=200000)(b:(bt k).2 [c.d]=.ok (.str<|aw<|T c)):
  (bt<|k+1).1 [c.d,.int a]=.ok (.str<|aw<|zA (decide (c.lv<a))<|T c):=by
 have h1:=Wa;have h2:=Yf;by_cases h:c.lv<a
 .rw[afn h];exact aq (aS<|(a8<|ao<|ae ((ms c)) rfl (wR.trans<|by mright)).trans<|ar<|fW (fW d6 (b)<|⊥) d6<|by grind)
 .rw[afm h];exact aq<|(skip<|ao<|ae ((ms c)) rfl (wR.trans<|by mright)).trans<|ar<|b
theorem S0:cdD fc (.str<|lE "not")=.ok (.tup [.str "and",.str "or"]):=by rfl
theorem Nu(c:Cn):rE (.str c.hw) (.tup [.str "and",.str "or"])=.ok (.bl<|decide (c.lv<3)):=by cases c<;>with_unfolding_all rfl
theorem SL(c:Cn):rE (.str c.hw) (.tup [.str "or"])=.ok (.bl<|decide (c.lv<2)):=by cases c<;>with_unfolding_all rfl
theorem Am:lE "not"≠lE "test":=⊤
theorem Gy:lE "and"≠lE "test":=⊤
theorem M6:lE "and"≠lE "not":=⊤
theorem IW:lE "or"≠lE "test":=⊤
theorem NU:lE "or"≠lE "not":=⊤
theorem Lh(l:Int)(hd:c.d=.tup [.str w,a.d,b.d])(B:c.lv=l)(g:w≠lE "test")(e:w≠lE "not")(q1:eZ (.str w) (.str " first")=.ok (.str w1))(q2:eZ (.str w) (.str " second")=.ok (.str w2))(k1:cdD fc (.str w1)=.ok (.tup u))(k2:cdD fc (.str w2)=.ok (.tup v))(j:rE (.str a.hw) (.tup u)=.ok (.bl<|decide (a.lv<l)))(C:rE (.str b.hw) (.tup v)=.ok (.bl<|decide (b.lv<l+1)))(hw:(lS w).length<=3)(la:(T a).length<=60000)(D:(T b).length<=60000)
  (f:(aF<|n+1).1 [a.d]=.ok (.str<|aw<|T a)/\(bt<|n+1).2 [a.d]=.ok (.str<|aw<|T a)) (h:(aF<|n+1).1 [b.d]=.ok (.str<|aw<|T b)/\(bt<|n+1).2 [b.d]=.ok (.str<|aw<|T b)) (z:T c=(((zA (decide (a.lv<l)) (T a)++lS " ")++lS w)++lS " ")++zA (decide (b.lv<l+1)) (T b)):
  (aF<|n+3).1 [c.d]=.ok (.str<|aw<|T c)/\(bt<|n+3).2 [c.d]=.ok (.str<|aw<|T c):=by
 have E:(lS " ").length=1:=⊤
 have t:=Fw (n+1) a _ _ _ k1 j ⊥ f.1;have A:=Fw (n+1) b _ _ _ k2 C ⊥ h.1;have o:=zE (n+1) a l ⊥ f.2;have q:=zE (n+1) b (l+1) ⊥ h.2;have lv:=ms c;have i:=kf (decide (a.lv<l))<|T a;have k:=kf (decide (b.lv<l+1))<|T b;rw[z];rw[B,hd]at lv;rw[hd];generalize zA (decide (a.lv<l)) (T a)=x at *;generalize zA (decide (b.lv<l+1)) (T b)=y at *;have m:(x++lS " ").length<=90100:=by rw[LX];lia
 have p:((x++lS " ")++lS w).length<=90200:=by rw[LX];lia
 have s:(((x++lS " ")++lS w)++lS " ").length<=90300:=by rw[LX];lia
 exact⟨aq (r:=ce _ _ _)<|(bu<|au<|ae rfl rfl rfl).trans<|(skip<|ao<|ae rfl rfl (fL g)).trans<|(skip<|ao<|ae rfl rfl (fL e)).trans<|(bu<|au<|af (ac (ae rfl rfl rfl)<|ac (ae rfl rfl q1) rfl) t).trans<|ar<|fW (fW (fW (fW rfl d6 ⊥) (u7 rfl)<|⊥) d6<|⊥) (af (ac (ae rfl rfl rfl)<|ac (ae rfl rfl q2) rfl) A)<|⊥,
  aq (r:=iO _ _ _) ((skip (ao (ae (ae rfl rfl rfl) rfl (fL g)))).trans ((skip (ao (ae (ae rfl rfl rfl) rfl (fL e)))).trans ((bu (au (lv))).trans (ar (fW (fW (fW (fW (o) d6 ⊥) rfl ⊥) d6 ⊥) (q) ⊥)))))⟩
theorem BF(h:c.Fit):c.sz<=300->∀k,2*c.sz<=k+1->(aF<|k+1).1 [c.d]=.ok (.str<|aw<|T c)/\(bt<|k+1).2 [c.d]=.ok (.str<|aw<|T c):=by
 have t:(lS "not ").length=4:=⊤
 have u:(lS " ").length=1:=⊤
 have lc {a b:afq} {n:Nat}:a.length+b.length<=n->(a++b).length<=n:=fun h=>by rw[LX];exact h
 induction c with
 |test g a b=>
  intro _ k e;have h1:=a.len h.2.1;have h2:=b.len h.2.2;have v:=Fy g h.1;obtain⟨p,m⟩:=pj h.2.1;obtain⟨b1,b2⟩:=pj h.2.2;have q1:(tx (a.it 0)++lS " ").length<=90:=by rw[LX];lia
  have q2:((tx (a.it 0)++lS " ")++lS g).length<=95:=by rw[LX];lia
  have y:(((tx (a.it 0)++lS " ")++lS g)++lS " ").length<=99:=by rw[LX];lia
  rw[F5];exact⟨aq (r:=ce _ _ _)<|(bu<|au<|ae rfl rfl rfl).trans<|aS<|(a8<|ao<|ae rfl rfl (ot rfl)).trans<|ar<|fW (fW (fW (fW (af (ac (ae rfl rfl rfl) rfl) p) d6<|⊥) (u7<|ae rfl rfl rfl)<|⊥) d6<|⊥) (af (ac (ae rfl rfl rfl) rfl) b1)<|⊥,
   aq (r:=iO _ _ _) (aS ((a8 (ao (ae (ae rfl rfl rfl) rfl (ot rfl)))).trans (ar (fW (fW (fW (fW (af (ac (ae rfl rfl rfl) rfl) m) d6 ⊥) (u7 (ae rfl rfl rfl)) ⊥) d6 ⊥) (af (ac (ae rfl rfl rfl) rfl) b2) ⊥))))⟩
 |not c o=>
  intro hs k e;have hs:1+c.sz<=300:=hs;have e:2*(1+c.sz)<=k+1:=e;have w:=u9 (c:=c) h;have x:=kf (decide (c.lv<3))<|T c;have f:=c.szp;obtain⟨j,rfl⟩:∃j,k=j+2:=⟨k-2,⊥⟩;obtain⟨c1,c2⟩:=o h ⊥ j ⊥;have q:=Fw (j+1) c _ _ _ S0 (Nu c) ⊥ c1;have s:=zE (j+1) c 3 ⊥ c2;rw[Nq];exact⟨aq (r:=ce _ _ _)<|(bu<|au<|ae rfl rfl rfl).trans<|(skip<|ao<|ae rfl rfl (fL Am)).trans<|aS<|(a8<|ao<|ae rfl rfl (ot rfl)).trans<|ar<|fW d6 (af (ac (ae rfl rfl rfl)<|ac rfl rfl) q)<|⊥,
   aq (r:=iO _ _ _) ((skip (ao (ae (ae rfl rfl rfl) rfl (fL Am)))).trans (aS ((a8 (ao (ae (ae rfl rfl rfl) rfl (ot rfl)))).trans (ar (fW d6 (af (ac (ae rfl rfl rfl) (ac rfl rfl)) s) ⊥)))))⟩
 |and a b i j=>
  intro hs k e;have hs:1+a.sz+b.sz<=300:=hs;have e:2*(1+a.sz+b.sz)<=k+1:=e;have h1:=u9 h.1;have h2:=u9 h.2;have f:=a.szp;have l:=b.szp;obtain⟨n,rfl⟩:∃j,k=j+2:=⟨k-2,⊥⟩;exact Lh 2 rfl rfl Gy M6 (rfl) (rfl) (by rfl) (by rfl) (SL a) (Nu b) ⊤ ⊥ ⊥ (i h.1 ⊥ n<|⊥) (j h.2 ⊥ n<|⊥) (NH a b)
 |or a b i j=>
  intro hs k e;have hs:1+a.sz+b.sz<=300:=hs;have e:2*(1+a.sz+b.sz)<=k+1:=e;have h1:=u9 h.1;have h2:=u9 h.2;have f:=a.szp;obtain⟨n,rfl⟩:∃j,k=j+2:=⟨k-2,⊥⟩;exact Lh 1 rfl rfl IW NU (rfl) (rfl) (by rfl) (by rfl) ((by cases a<;>rfl)) (SL b) ⊤ ⊥ ⊥ (i h.1 ⊥ n<|⊥) (j h.2 ⊥ n<|⊥) (Uv a b)
theorem rH(a b:Str):(a++b).length=a.length+b.length:=by
 rw[<-gJ,<-gJ,<-gJ,dH,LX]
theorem Il(a b:Str)(h:a.length+b.length<=1000000):eZ (.str a) (.str b)=.ok (.str<|a++b):=by rw[Nd,afk h]
abbrev sp:Str:=lE " "
abbrev cm:Str:=lE ", "
theorem ue(s l:afq):∀(a:List<|afq),a≠[]->((a++[l]).intersperse s).flatten=(a.intersperse s).flatten++s++l
 |[],h=>absurd rfl h
 |[x],_=>∅
 |x::y::r,_=>by
  have b:=ue s l (y::r) ∅;mright
theorem join_snoc(s w:Str)(ws:afr)(h:ws≠[]):acP s (ws++[w])=acP s ws++s++w:=lu (by
 rw[iT,dH,dH,iT,acA,aaV,adg,ue _ _ _ (by simpa using h)])
theorem join_one(s w:Str):acP s [w]=w:=rfl
theorem GX(b:Nat):∀(ws:afr),(∀w∈ws,w.length<=b)->(ws.map (·.length)).sum<=b*ws.length
 |[],_=>∅
 |w::r,h=>by
  have h1:=h w ∅;have h2:=GX b r fun x a=>h x<|ie _ a;simp;lia
theorem Bp(zs:afr):oF (zs.map D.str)=J zs:=by
 have:=strs_map (fun z  => z) zs
 simpa using this
def Tf(z:Str):Prop:=∀c∈z.cps.toList,c<200
theorem Tf.ok(h:Tf z):PyData.strOk z=G:=by
 show z.cps.all (·<0x110000)=G;rw[<-Array.all_toList,aaH];intro c a
 have:=h c a
 simp;lia
theorem Py.tup(h:∀d∈ds,Py k d):Py (k+1)<|.tup ds:=by
 obtain⟨ps,e1,a,c,b⟩:=Py.list h;exact⟨.tuple ps,by rw[kZ,e1];rfl,a,by rw[ae6];mright⟩
theorem Py.mono(h:Py k d)(e:k<=l):Py l d:=let⟨p,a,b,c⟩:=h;⟨p,a,b,RW c e⟩
theorem Py.str(h:Tf z):Py 0<|.str z:=⟨.str z,rfl,h.ok,mK _⟩
theorem Py.bl(b:Bool):Py 0<|.bl b:=⟨.bool b,rfl,rfl,mK _⟩
theorem ne_nil(h:∀d∈ds,Py k d)(g:k<=60):xF (.tup ds) (.tup [])=.ok (.bl<|decide (0<ds.length)):=by
 refine Z14 (Py.list h) fun ps e1 a i e=>?_;have c:kZ (.tup ds)=J (.tuple ps):=by rw[kZ,e1];rfl
 have e0:kZ (.tup [])=J (.tuple []):=rfl;have f:jt (.tup ds) (.tup [])=(aeV (.tuple ps)<|.tuple []):=by
  delta jt;rw[c,e0];simp only;rw[afk ⟨vx (k:=k+1) a (by rw[ae6];mright)<|⊥,by rfl⟩]
 have b:zy (.tup ds) (.tup [])=jt (.tup ds) (.tup []):=rfl;delta xF;rw[b,f];cases ps with
 |nil=>
  have:ds.length=0:=by mright
  rw[this];rfl
 |cons p r=>
  have:0<ds.length:=by rw[<-e];simp
  rw[afn this];rfl
theorem xW(h:ci z=G):Tf z:=fun c a=>by
 delta ci at h;simp only[oR,aaH]at h
 have:=h.2.2.1 c a
 unfold low at this;simp at this;lia
theorem Va(p:bW)(h:ci p.1=G/\ci p.2=G):Py 1<|j9 p:=by
 refine Py.tup fun d hd=>?_;mright;rcases hd with rfl|rfl|rfl
 .exact Py.str ((by delta Tf;trivial))
 .exact Py.str (xW h.1)
 .exact Py.str (xW h.2)
theorem T9(o:bW×Bool)(h:ci o.1.1=G/\ci o.1.2=G):Py 2<|gO o:=by
 refine Py.tup fun d hd=>?_;mright;rcases hd with rfl|rfl
 .exact Va _ h
 .exact(Py.bl _).mono ∅
noncomputable def fX(k:Nat)(p:bW):List Iw:=if p.1=p.2 then[(k,kN p.1)]else[(k,kN p.1),(1,kN p.2)]
noncomputable def c9(k:Nat)(p:bW):List Iw:=[(k,kN p.1),(0,kS "."),(0,kN p.2)]
def gz(k:Nat)(o:bW×Bool):List Iw:=c9 k o.1++(if o.2=G then[(1,kK "down")]else[])
noncomputable def bi{β:Type}(f:Nat->β->List Iw):List β->List Iw
 |[]=>[]
 |b::bs=>(0,kS ",")::(f 1 b++bi f bs)
def Jn:Option Cn->List Iw
 |some c=>(1,kK "where")::c.it 1
 |none=>[]
def EE:List (bW×Bool)->List Iw
 |[]=>[]
 |o::os=>(1,kK "order")::(1,kK "by")::(gz 1 o++bi gz os)
noncomputable def Eb:Option Int->List Iw
 |some i=>[(1,kK "take"),(1,("number",.int i))]
 |none=>[]
def Qn.it(q:Qn):List Iw:=(0,kK "from")::(fX 1 q.s++(bi fX q.ss++(Jn q.cd++(EE q.os++(1,kK "show")::(c9 1 q.c++(bi c9 q.cs++Eb q.tk))))))
abbrev ul(p:bW):Prop:=ci p.1=G/\ci p.2=G
structure Qn.Fit(q:Qn):Prop where
 s:ul q.s
 ss:∀p∈q.ss,ul p
 sl:q.ss.length<=2
 cd:∀c,q.cd=J c->c.Fit/\c.sz<=90/\c.tests<=20
 os:∀o∈q.os,ul o.1
 ol:q.os.length<=8
 c:ul q.c
 cs:∀p∈q.cs,ul p
 cl:q.cs.length<=7
 tk:∀i,q.tk=J i->0<=i/\i.natAbs<10^18
theorem Qn.Fit.ok{q:Qn}(h:q.Fit):q.Ok:=⟨h.sl,h.ol,h.cl,fun c e=>⟨(h.cd c e).1.ok,(h.cd c e).2.2⟩,fun i e=>(h.tk i e).1⟩
theorem N7(k:Nat)(p:bW):(fX k p).map abd=qW p:=by delta fX qW;split<;>rfl
theorem Nr(k:Nat)(o:bW×Bool):(gz k o).map abd=sZ o:=by delta gz sZ;split<;>rfl
theorem xc{β:Type}{f:Nat->β->List Iw}{w:β->List Kv}(h:∀k b,(f k b).map abd=w b):∀bs,(bi f bs).map abd=cJ w bs
 |[]=>rfl
 |b::bs=>by simp[bi,cJ,h,xc h bs]
theorem Qn.it_w(q:Qn):q.it.map abd=q.w:=by
 have h1:∀k b,(c9 k b).map abd=qO b:=fun k b=>rfl;have h2:(Jn q.cd).map abd=Nk q.cd:=by cases q.cd with|none=>rfl|some c=>simp[Jn,Nk,Cn.it_w]
 have d:(EE q.os).map abd=Cv q.os:=by cases q.os with|nil=>rfl|cons o os=>simp[EE,Cv,Nr,xc Nr]
 have a:(Eb q.tk).map abd=Rr q.tk:=by cases q.tk<;>rfl
 simp[Qn.it,Qn.w,N7,xc N7,h1,xc h1,h2,d,a]
theorem xb(p:bW):Bl fun k=>fX k p:=fun k=>by delta fX;split<;>trivial
theorem uh(p:bW):Bl fun k=>c9 k p:=fun k=>by simp[c9,tx]
theorem wg(p:bW×Bool):Bl fun k=>gz k p:=wq (uh p.1) _
theorem Ya:(lE ",").cps.toList=[44]:=⊤
theorem CF{f:Nat->β->List Iw}(h:∀b,Bl fun k=>f k b):∀(bs:List β)(b:β),acP cm ((b::bs).map fun b=>aw<|tx<|f 0 b)=aw (tx<|f 0 b++bi f bs)
 |[],b=>by
  rw[aaV,adg,join_one];simp[bi]
 |b'::bs,b=>by
  have a:=CF h bs b';refine mk_eq ?_;have e:=afp (fun z  => z.cps.toList) a;simp only[iT,az,aaV,ae5]at e⊢;rw[adF,ac8,ac8,e];have c:=h b' 1;rw[dc,dc];show _=tx (f 0 b)++tx ((0,kS ",")::(f 1 b'++bi f bs));rw[tx,dc,c];rfl
theorem pT{f:Nat->β->List Iw}{u:β->D}(h:∀b,Bl fun k=>f k b)(b:β)(bs:List β)(l:bs.length<=10)(d:∀x∈b::bs,ε [J<|u x]=.ok (.str<|aw<|tx<|f 0 x)/\(tx<|f 0 x).length<=100)(a:φ Y=.ok (.tup<|(b::bs).map u))(i:dY ix Y=[U]):
  DN kF (vC<|.str ", ") (ak (jX ix (EX φ) (.one 0) xa ε) aQ) Y=.ok (.str<|aw<|tx<|f 0 b++bi f bs):=by
 have e:cF (.one 0) xa ε [U] ((b::bs).map u)=.ok (.lst<|(b::bs).map fun x=>D.str<|aw<|tx<|f 0 x):=jr _ _ rfl (by simp;lia) fun x c=>(d x c).1;refine Ny rfl (ac (oy (OY a rfl)<|by rw[i];exact e) rfl) ?_;have g:((b::bs).map fun x=>D.str<|aw<|tx<|f 0 x)=((b::bs).map fun x=>aw<|tx<|f 0 x).map D.str:=∅
 rw[g,<-CF h];refine Er (Bp _) ?_;have h1:=GX 100 ((b::bs).map fun x=>aw<|tx<|f 0 x) fun w hw=>by
  obtain⟨x,c,rfl⟩:=abv.mp hw;exact(d x c).2
 have j:(lE ", ").length=2:=⊤
 grind
theorem oi{f:Nat->β->List Iw}(h:∀b,Bl fun k=>f k b):∀(bs:List β)(b:β),(∀x∈b::bs,(tx<|f 0 x).length<=100)->(tx<|f 0 b++bi f bs).length<=102*(bs.length+1)
 |[],b,hl=>by
  have:=hl b ∅
  simp[bi];lia
 |b'::bs,b,hl=>by
  have a:=oi h bs b' fun x d=>hl x<|ie _ d;have h1:=hl b ∅;have c:=h b' 1;rw[dc]at a⊢;show(tx (f 0 b)++tx ((0,kS ",")::(f 1 b'++bi f bs))).length<=_;rw[tx,dc,c,oZ];simp only[LX,ab5,aaS,Ya,abz]at a⊢;lia
theorem Vt:(lS " down").length=5:=⊤
theorem rg(h:ul p):(tx<|c9 0 p).length<=17:=by
 have h1:=fH h.1;have h2:=fH h.2;have e:(lE ".").cps.toList.length=1:=⊤
 simp only[c9,tx,pP,oZ,LX,ab5,e,abz];lia
theorem EZ(h:ul p):kb [j9 p]=.ok (.str<|aw<|tx<|c9 0 p)/\oj [j9 p]=.ok (.str<|aw<|tx<|c9 0 p):=pj (a:=.col p.1 p.2) h
theorem qy(h:ul p):mf [je p]=.ok (.str<|aw<|tx<|fX 0 p)/\rQ [je p]=.ok (.str<|aw<|tx<|fX 0 p)/\(tx<|fX 0 p).length<=100:=by
 have h1:=fH h.1;have h2:=fH h.2;have b:(lS " ").length=1:=⊤
 delta fX;by_cases a:p.1=p.2
 .rw[afk a];have e:tx [((0:Nat),kN p.1)]=p.1.cps.toList:=by simp[tx,pP]
  rw[e,<-zn];exact⟨aq (r:=iC [J<|je p])<|ar (φ:=MU _ _ _)<|vp (ao<|ae (ae rfl rfl rfl) (ae rfl rfl rfl)<|ot a)<|ae rfl rfl rfl,aq (r:=mS [J<|je p])<|aS<|(a8<|ao<|ae (ae rfl rfl rfl) (ae rfl rfl rfl)<|ot a).trans<|ar<|ae rfl rfl rfl,⊥⟩
 .rw[afl a];have e:tx [(0,kN p.1),(1,kN p.2)]=(p.1.cps.toList++lS " ")++p.2.cps.toList:=by simp[tx,pP,Jt]
  rw[e];have g:aH eZ (aH eZ (aH cR (ag 0)<|vC<|.int 0)<|vC<|.str " ") (aH cR (ag 0)<|vC<|.int 1) [(je p)]=.ok (.str<|aw<|(p.1.cps.toList++lS " ")++p.2.cps.toList):=
   fW (fW rfl d6 ⊥) rfl (by grind)
  exact⟨aq<|ar<|B7 (ao<|(fL a)) g,aq<|(skip<|ao<|(fL a)).trans<|ar g,by grind⟩
theorem FI{o:bW×Bool}(h:ul o.1):nT [gO o]=.ok (.str<|aw<|tx<|gz 0 o)/\aH eZ (aI oj<|ak (aH cR (ag 0)<|vC<|.int 0) aQ) (aH cR (uw<|ak (vC<|.str "")<|ak (vC<|.str " down") aQ)<|aI J8<|ak (aH cR (ag 0)<|vC<|.int 1) aQ) [J<|gO o]=.ok (.str<|aw<|tx<|gz 0 o)/\(tx<|gz 0 o).length<=100:=by
 obtain⟨c1,c2⟩:=EZ h;have c:=rg h;have hd:=Vt;obtain⟨p,b⟩:=o;have c:(tx<|c9 0 p).length<=17:=c;cases b with
 |true=>
  have e:tx (gz 0 (p,G))=tx (c9 0 p)++lS " down":=by
   have a:lS " down"=32::lS "down":=⊤
   simp[gz,dc,tx,mm,a]
  rw[e];exact⟨aq (r:=jT [J<|gO (p,G)])<|ar (φ:=MU _ _ _)<|vp (eV (ae rfl rfl rfl) rfl)<|fW (af (ac (ae rfl rfl rfl) rfl) c1) d6<|⊥,fW (af (ac (ae rfl rfl rfl) rfl) c2) (u7<|ae (mx<|ac rfl (ac rfl rfl)) (af (ac (ae rfl rfl rfl) rfl) rfl) rfl) (by show _+(lS " down").length<=_;lia),by grind⟩
 |false=>
  have e:tx (gz 0 (p,η))=tx (c9 0 p)++lS "":=by
   have a:lS ""=[]:=⊤
   simp[gz,dc,tx,mm,a]
  have e0:lS ""=[]:=⊤
  rw[e];refine⟨?_,fW (c2) rfl (by grind),by grind⟩;rw[e0,aaJ];exact aq<|ar<|B7 rfl (c1)
def R1(q:Qn):afq:=tx<|fX 0 q.s++bi fX q.ss
def R3(o:bW×Bool)(os:List<|bW×Bool):afq:=tx<|gz 0 o++bi gz os
def R4(q:Qn):afq:=tx<|c9 0 q.c++bi c9 q.cs
def Ef(q:Qn):afq:=lS "from "++R1 q
def Jb(q:Qn):afq:=match q.cd with
 |none=>Ef q
 |some c=>(Ef q++lS " where ")++T c
def Jk(q:Qn):afq:=match q.os with
 |[]=>Jb q
 |o::os=>(Jb q++lS " order by ")++R3 o os
def JM(q:Qn):afq:=(Jk q++lS " show ")++R4 q
def Kd(q:Qn):afq:=match q.tk with
 |none=>JM q
 |some i=>(JM q++lS " take ")++cu i
theorem LB:lS " where "=[32]++(lS "where"++[32]):=⊤
theorem KR:lS " order by "=[32]++(lS "order"++([32]++(lS "by"++[32]))):=⊤
theorem QX:lS " show "=[32]++(lS "show"++[32]):=⊤
theorem Rs:lS " take "=[32]++(lS "take"++[32]):=⊤
theorem AC{β:Type}{f:Nat->β->List Iw}(h:∀b,Bl fun k=>f k b)(b:β)(r:List Iw):tx (f 1 b++r)=[32]++tx (f 0 b++r):=by
 have:=h b 1
 rw[dc,dc,this];rfl
theorem xI(q:Qn):tx q.it=Kd q:=by
 have b:tx ((0,kK "from")::(fX 1 q.s++bi fX q.ss))=Ef q:=by
  rw[tx,AC xb];rfl
 have f:Ef q++tx (Jn q.cd)=Jb q:=by
  delta Jb;cases q.cd with
  |none=>simp[Jn,tx]
  |some c=>
   have:=c.bl 1
   simp[Jn,tx,mm,this,LB,T]
 have a:Jb q++tx (EE q.os)=Jk q:=by
  delta Jk;cases q.os with
  |nil=>simp[EE,tx]
  |cons o os=>
   have:=AC wg o<|bi gz os
   simp[EE,tx,mm,this,KR,R3]
 have d:Jk q++tx ((1,kK "show")::(c9 1 q.c++bi c9 q.cs))=JM q:=by
  delta JM R4
  have:=AC uh q.c<|bi c9 q.cs
  simp[tx,mm,this,QX]
 have g:JM q++tx (Eb q.tk)=Kd q:=by
  delta Kd;cases q.tk with
  |none=>simp[Eb,tx]
  |some i=>
   have:dU ("number",.int i)=cu i:=rfl
   simp[Eb,tx,mm,Rs,this]
 rw[<-g,<-d,<-a,<-f,<-b];have e:q.it=((((0,kK "from")::(fX 1 q.s++bi fX q.ss))++Jn q.cd)++EE q.os++((1,kK "show")::(c9 1 q.c++bi c9 q.cs)))++Eb q.tk:=by simp[Qn.it]
 rw[e];simp only[dc]
theorem vg{q:Qn}(h:q.Fit):∀x∈q.s::q.ss,ul x:=fun x a=>(eQ.mp a).elim (fun e=>e▸h.s)<|h.ss x
theorem vm{q:Qn}(h:q.Fit):∀x∈q.c::q.cs,ul x:=fun x a=>(eQ.mp a).elim (fun e=>e▸h.c)<|h.cs x
theorem BV:(lS " where ").length=7:=⊤
theorem BK:(lS " order by ").length=10:=⊤
theorem HF:(lS " show ").length=6:=⊤
theorem Ij:(lS " take ").length=6:=⊤
theorem EL:(lS "from ").length=5:=⊤
theorem QH(h:q.Fit):(R1 q).length<=306:=by
 have:=oi xb q.ss q.s fun x a=>(qy<|vg h x a).2.2
 have h2:=h.sl;show(tx<|fX 0 q.s++bi fX q.ss).length<=306;lia
theorem Oe{q:Qn}{os:List<|bW×Bool}(h:q.Fit)(e:q.os=o::os):(R3 o os).length<=816:=by
 have:=oi wg os o fun x a=>(FI<|h.os x<|by rw[e];exact a).2.2
 have h2:=h.ol;rw[e]at h2;simp at h2;show(tx<|gz 0 o++bi gz os).length<=816;lia
theorem Q1(h:q.Fit):(R4 q).length<=816:=by
 have:=oi uh q.cs q.c fun x a=>by have:=rg<|vm h x a;lia
 have h2:=h.cl;show(tx<|c9 0 q.c++bi c9 q.cs).length<=816;lia
theorem YD(h:q.Fit):(Ef q).length<=400:=by
 have:=QH h
 have:=EL
 delta Ef;rw[LX];lia
theorem lT{q:Qn}(h:q.Fit)(e:q.cd=J c):(T c).length<=15300:=by
 obtain⟨h1,h2,_⟩:=h.cd c e
 have:=u9 h1
 lia
theorem ZW(h:q.Fit):(Jb q).length<=16000:=by
 have h1:=YD h
 have:=BV
 delta Jb;split
 .lia
 .rename_i c e
  have:=lT h e
  grind
theorem aan(h:q.Fit):(Jk q).length<=17000:=by
 have h1:=ZW h
 have:=BK
 delta Jk;split
 .lia
 .rename_i o os e
  have:=Oe h e
  grind
theorem Y2(h:q.Fit):(JM q).length<=18000:=by
 have h1:=aan h;have h2:=Q1 h
 have:=HF
 delta JM
 grind
theorem SS(h:q.Fit):(Kd q).length<=19000:=by
 have h1:=Y2 h
 have:=Ij
 delta Kd;split
 .lia
 .rename_i i e
  have:=(om i (h.tk i e).2).2.2.2
  grind
theorem aJ(h:S Y=.ok (.nx δ'))(h2:T' δ'=r):nh S T' Y=r:=(bu h).trans h2
theorem eH(h:(τ Y=.ok G/\S Y=.ok (.nx δ'))\/(τ Y=.ok η/\δ'=Y))(h2:T' δ'=r):nh (DA τ S ld) T' Y=r:=by
 rcases h with⟨a,b⟩|⟨a,rfl⟩
 .exact aJ ((a8 a).trans b) h2
 .exact(skip a).trans h2
theorem Cn.notn(c:Cn):rX c.d .non=.ok (.bl G):=by cases c<;>rfl
theorem yg{q:Qn}(h:q.Fit):jI [q.d]=.ok (.str<|aw<|tx q.it):=by
 have b1:=YD h;have b2:=ZW h;have C:=aan h;have K:=Y2 h;have B:=SS h;have c1:=QH h;have E:=Q1 h;have n:=BV;have p:=BK;have m:=HF;have w:=Ij;have l:=EL;have z:(lE " where ").cps.toList.length=7:=n;have y:(lE " order by ").cps.toList.length=10:=p;have D:(lE " show ").cps.toList.length=6:=m;have I:(lE " take ").cps.toList.length=6:=w;have A:(lE "from ").cps.toList.length=5:=l;rw[xI];refine aq (r:=jF [J q.d,U]) ?_;refine aJ (δ':=[J q.d,J<|.str<|aw<|Ef q]) (au<|fW d6 (pT (u:=je) xb q.s q.ss (by have:=h.sl;lia) (fun x a=>⟨af (ac rfl rfl) (qy<|vg h x a).2.1,(qy<|vg h x a).2.2⟩) (ae rfl rfl rfl) rfl) (by show _+(R1 q).length<=_;lia)) ?_;refine eH (δ':=[J q.d,J<|.str<|aw<|Jb q]) ?_ ?_
 .delta Jb;cases e:q.cd with
  |none=>
   have b:q.cdD=.non:=by delta Qn.cdD;rw[e]
   exact .inr ⟨ao<|ae (ae rfl rfl (show cR q.d (.int 2)=.ok .non from b▸rfl)) rfl rfl,rfl⟩
  |some c=>
   have b:q.cdD=c.d:=by delta Qn.cdD;rw[e]
   have F:=lT h e;obtain⟨v,H,_⟩:=h.cd c e;have j:vd [c.d]=.ok (.str<|aw<|T c):=(BF v ⊥ 199<|⊥).2;exact .inl ⟨ao<|ae (ae rfl rfl (show cR q.d (.int 2)=.ok c.d from b▸rfl)) rfl c.notn,au<|fW (fW rfl d6 ⊥) (af (ac (ae rfl rfl (show cR q.d (.int 2)=.ok c.d from b▸rfl)) rfl) j)<|by rw[LX];lia⟩
 refine eH (δ':=[J q.d,J<|.str<|aw<|Jk q]) ?_ ?_
 .have hn:=ne_nil (k:=2) (ds:=q.os.map gO) (fun d hd=>by obtain⟨o,f,rfl⟩:=abv.mp hd;exact T9 o<|h.os o f) ∎;delta Jk;cases e:q.os with
  |nil=>
   rw[e]at hn;exact .inr ⟨ao<|ae (ae rfl rfl (show cR q.d (.int 3)=.ok (.tup<|([]:List<|bW×Bool).map gO) by rw[<-e];rfl)) (de rfl) hn,rfl⟩
  |cons o os=>
   rw[e]at hn;have a:cR q.d (.int 3)=.ok (.tup<|(o::os).map gO):=by rw[<-e];rfl
   have t:=Oe h e;have f:=h.ol;rw[e]at f;simp at f;exact .inl ⟨ao<|ae (ae rfl rfl a) (de rfl) hn,au<|fW (fW rfl d6 (by omega)) (pT (u:=gO) wg o os (by omega) (fun x a=>have g:=FI (h.os x<|by rw[e];exact a);⟨g.2.1,g.2.2⟩) (ae rfl rfl a) rfl) (by show _+(R3 o os).length<=_;rw[LX];omega)⟩
 refine aJ (δ':=[J q.d,J<|.str<|aw<|JM q]) (au<|fW (fW rfl d6 ⊥) (pT (u:=j9) uh q.c q.cs (by have:=h.cl;lia) (fun x a=>⟨af (ac rfl rfl) (EZ<|vm h x a).2,by have:=rg<|vm h x a;lia⟩) (ae rfl rfl rfl) rfl) (by show _+(R4 q).length<=_;rw[LX];lia)) ?_;refine eH (δ':=[J q.d,J<|.str<|aw<|Kd q]) ?_<|ar rfl;delta Kd;cases e:q.tk with
 |none=>
  have b:q.tkD=.non:=by delta Qn.tkD;rw[e]
  exact .inr ⟨ao<|ae (ae rfl rfl (show cR q.d (.int 5)=.ok .non from b▸rfl)) rfl rfl,rfl⟩
 |some i=>
  have b:q.tkD=.int i:=by delta Qn.tkD;rw[e]
  have a:cR q.d (.int 5)=.ok (.int i):=b▸rfl;have t:=(om i (h.tk i e).2).2.2.2;exact .inl ⟨ao<|ae (a) rfl rfl,au<|fW (fW rfl d6 ⊥) (af (ac (a) rfl)<|wr (h.tk i e).2)<|by grind⟩
theorem yb(s:Str):∀(ws:afr),(ws.map (·.length)).sum+ws.length*s.length<=(acP s ws).length+s.length
 |[]=>∅
 |[w]=>by rw[join_one];simp
 |x::y::r=>by
  have a:=yb s<|y::r;have e:(acP s<|x::y::r).length=x.length+s.length+(acP s<|y::r).length:=by
   rw[<-gJ,<-gJ,<-gJ,<-gJ,iT,iT];simp only[aaV,adF,ac8,LX];lia
  mright;lia
structure Gw(ws:afr)(l:afq)(n:Nat):Prop where
 ne:ws≠[]
 le:ws.length<=n
 e:acP sp ws=aw l
theorem Gw.app(h:Gw ws l n)(b a:Str)(e:32::lS b=lS a):Gw (ws++[aw<|lS b++t]) ((l++lS a)++t)<|n+1:=by
 refine⟨∅,by have:=h.le;simp;omega,?_⟩;rw[join_snoc _ _ _ h.ne,h.e,<-e];refine mk_eq ?_;rw[dH,dH,az,az]
 have:sp.cps.toList=[32]:=Jt
 rw[this];simp
def W2(q:Qn):afr:=match q.cd with
 |none=>[aw<|Ef q]
 |some c=>[aw<|Ef q]++[aw<|lS "where "++T c]
def W3(q:Qn):afr:=match q.os with
 |[]=>W2 q
 |o::os=>W2 q++[aw<|lS "order by "++R3 o os]
def VL(q:Qn):afr:=W3 q++[aw<|lS "show "++R4 q]
def W5(q:Qn):afr:=match q.tk with
 |none=>VL q
 |some i=>VL q++[aw<|lS "take "++cu i]
theorem Gw.mono(h:Gw ws l n)(a:n<=m):Gw ws l m:=⟨h.ne,RW h.le a,h.e⟩
theorem g1(q:Qn):Gw [aw<|Ef q] (Ef q) 1:=⟨∅,∅,rfl⟩
theorem g2(q:Qn):Gw (W2 q) (Jb q) 2:=by
 delta W2 Jb;cases q.cd with
 |none=>exact(g1 q).mono ∅
 |some c=>exact(g1 q).app "where " " where " rfl
theorem g3(q:Qn):Gw (W3 q) (Jk q) 3:=by
 delta W3 Jk;cases q.os with
 |nil=>exact(g2 q).mono ∅
 |cons o os=>exact(g2 q).app "order by " " order by " rfl
theorem g4(q:Qn):Gw (VL q) (JM q) 4:=(g3 q).app "show " " show " rfl
theorem g5(q:Qn):Gw (W5 q) (Kd q) 5:=by
 delta W5 Kd;cases q.tk with
 |none=>exact(g4 q).mono ∅
 |some c=>exact(g4 q).app "take " " take " rfl
theorem Bh(b:ε [a,J<|.lst<|ws.map D.str]=.ok (.str z))(c:ws.length<=10):jP 1 ε [a,J<|.lst<|ws.map D.str]=.ok (.nx [a,J<|.lst<|(ws++[z]).map D.str]):=by
 rw[wx rfl b (by simp;lia),acA];rfl
theorem shown{q:Qn}(h:q.Fit):Bb [q.d]=.ok (.str<|aw<|tx q.it):=by
 have H:=SS h;have c1:=QH h;have M:=Q1 h;have K:=(g2 q).le;have I:=(g3 q).le;have P:=(g4 q).le;have j:=g5 q;have l:(lE "where ").cps.toList.length=6:=⊤
 have k:(lE "order by ").cps.toList.length=9:=⊤
 have t:(lE "show ").cps.toList.length=5:=⊤
 have A:(lE "take ").cps.toList.length=5:=⊤
 have n:(lE "from ").cps.toList.length=5:=⊤
 have B:(lS "from ").length=5:=n;have w:(lS "where ").length=6:=l;have m:(lS "order by ").length=9:=k;have z:(lS "show ").length=5:=t;have v:(lS "take ").length=5:=A;rw[xI];refine aq (r:=wX [J q.d,U]) ?_;refine aJ (δ':=[J q.d,J<|.lst<|[aw<|Ef q].map D.str]) (zO<|mx<|ac (fW d6 (pT (u:=je) xb q.s q.ss (by have:=h.sl;lia) (fun x a=>⟨af (ac rfl rfl) (qy<|vg h x a).1,(qy<|vg h x a).2.2⟩) (ae rfl rfl rfl) rfl) (by show _+(R1 q).length<=_;lia)) rfl) ?_;refine eH (δ':=[J q.d,J<|.lst<|(W2 q).map D.str]) ?_ ?_
 .delta W2;cases e:q.cd with
  |none=>
   have b:q.cdD=.non:=by delta Qn.cdD;rw[e]
   exact .inr ⟨ao<|ae (ae rfl rfl (show cR q.d (.int 2)=.ok .non from b▸rfl)) rfl rfl,rfl⟩
  |some c=>
   have b:q.cdD=c.d:=by delta Qn.cdD;rw[e]
   have N:=lT h e;obtain⟨E,O,_⟩:=h.cd c e;have p:iM [c.d]=.ok (.str<|aw<|T c):=(BF E ⊥ 199<|⊥).1;exact .inl ⟨ao<|ae (ae rfl rfl (show cR q.d (.int 2)=.ok c.d from b▸rfl)) rfl c.notn,Bh (fW d6 (af (ac (ae rfl rfl (show cR q.d (.int 2)=.ok c.d from b▸rfl)) rfl) p)<|⊥)<|∅⟩
 refine eH (δ':=[J q.d,J<|.lst<|(W3 q).map D.str]) ?_ ?_
 .delta W3;cases e:q.os with
  |nil=>exact .inr ⟨ao<|ae (lf (ae rfl rfl (show cR q.d (.int 3)=.ok (.tup<|([]:List<|bW×Bool).map gO) by rw[<-e];rfl)) rfl) rfl rfl,rfl⟩
  |cons o os=>
   have a:cR q.d (.int 3)=.ok (.tup<|(o::os).map gO):=by rw[<-e];rfl
   have C:=Oe h e;have g:=h.ol;rw[e]at g;simp at g;have y:cr [.tup<|(o::os).map gO]=.ok (.int ((os.length+1:Nat):Int)):=by rw[Vp];simp
   exact .inl ⟨ao<|ae (lf (ae rfl rfl a) y) rfl (vQ.trans<|by rw[afn<|⊥]),Bh (fW d6 (pT (u:=gO) wg o os ⊥ (fun x a=>have f:=FI (h.os x<|by rw[e];exact a);⟨af (ac rfl rfl) f.1,f.2.2⟩) (ae rfl rfl a) rfl) (by show _+(R3 o os).length<=_;lia))<|⊥⟩
 refine aJ (δ':=[J q.d,J<|.lst<|(VL q).map D.str]) (Bh (fW d6 (pT (u:=j9) uh q.c q.cs (by have:=h.cl;lia) (fun x a=>⟨af (ac rfl rfl) (EZ<|vm h x a).1,by have:=rg<|vm h x a;lia⟩) (ae rfl rfl rfl) rfl) (by show _+(R4 q).length<=_;lia))<|⊥) ?_;refine eH (δ':=[J q.d,J<|.lst<|(W5 q).map D.str]) ?_ ?_
 .delta W5;cases e:q.tk with
  |none=>
   have b:q.tkD=.non:=by delta Qn.tkD;rw[e]
   exact .inr ⟨ao<|ae (ae rfl rfl (show cR q.d (.int 5)=.ok .non from b▸rfl)) rfl rfl,rfl⟩
  |some i=>
   have b:q.tkD=.int i:=by delta Qn.tkD;rw[e]
   have a:cR q.d (.int 5)=.ok (.int i):=b▸rfl;have C:=(om i (h.tk i e).2).2.2.2;exact .inl ⟨ao<|ae (ae rfl rfl a) rfl rfl,Bh (fW d6 (af (ac (ae rfl rfl a) rfl)<|wr (h.tk i e).2)<|⊥)<|⊥⟩
 .refine ar (?_);have F:=yb sp<|W5 q;rw[j.e,bM]at F;have h1:sp.length=1:=⊤
  rw[<-j.e];exact Er (Bp _) ⊥
theorem opened(c:Cn):∀k,c.sz<=k->gF k [c.d]=.ok (.int (c.opened:Nat)):=by
 have l:∀b:Bool,J8 [.bl b]=.ok (.int (b.toNat:Nat)):=fun b=>by cases b<;>rfl
 induction c with
 |test g a b=>
  intro k f;obtain⟨j,rfl⟩:∃j,k=j+1:=⟨k-1,by have:1<=k:=f;lia⟩;exact aq (r:=e8 (gF j) [J<|Cn.d<|.test g a b,U,U])<|aS<|(a8<|lR (ao<|ae rfl rfl rfl)<|ao<|ae (ae rfl rfl rfl) rfl (ot rfl)).trans<|ar rfl
 |not c o=>
  intro k f;have f:1+c.sz<=k:=f;obtain⟨j,rfl⟩:∃j,k=j+1:=⟨k-1,⊥⟩;have h:=o j ⊥;refine aq (r:=e8 _ [J<|Cn.d<|.not c,U,U])<|(skip<|lR (ao<|ae rfl rfl rfl)<|ao<|ae (ae rfl rfl rfl) rfl (fL Am)).trans<|aS<|(a8<|ao<|ae (ae rfl rfl rfl) rfl (ot rfl)).trans<|ar<|ae (ae rfl (af (ac (ae (af (ac (ae rfl rfl rfl) rfl)<|ms c) rfl wR) rfl)<|l _) nJ) (af (ac (ae rfl rfl rfl) rfl) h)<|nJ.trans ?_;congr 2
 |and a b i j=>
  intro k f;have f:1+a.sz+b.sz<=k:=f;obtain⟨n,rfl⟩:∃j,k=j+1:=⟨k-1,⊥⟩;have h:=i n ⊥;have m:=j n ⊥;have lv:=ms<|.and a b;refine aq (r:=e8 _ [J<|Cn.d<|.and a b,U,U])<|(skip<|lR (ao<|ae rfl rfl rfl)<|ao<|ae (ae rfl rfl rfl) rfl (fL Gy)).trans<|(skip<|ao<|ae (ae rfl rfl rfl) rfl (fL M6)).trans<|(bu<|au<|af (ac rfl rfl) lv).trans<|(bu<|au<|ae (af (ac (ae (af (ac (ae rfl rfl rfl) rfl)<|ms a) rfl wR) rfl)<|l _) (af (ac (ae (af (ac (ae rfl rfl rfl) rfl)<|ms b) rfl Gv) rfl)<|l _) nJ).trans<|ar<|ae (ae rfl (af (ac (ae rfl rfl rfl) rfl) h) nJ) (af (ac (ae rfl rfl rfl) rfl) m)<|nJ.trans ?_;have e:decide (b.lv<=2)=decide (b.lv<3):=decide_eq_decide.mpr ⊥;show R.ok (D.int<|((decide (a.lv<2)).toNat:Int)+((decide (b.lv<=2)).toNat:Int)+(a.opened:Int)+(b.opened:Int))=_;rw[e];congr 2
 |or a b i j=>
  intro k f;have f:1+a.sz+b.sz<=k:=f;obtain⟨n,rfl⟩:∃j,k=j+1:=⟨k-1,⊥⟩;have h:=i n ⊥;have m:=j n ⊥;have lv:=ms<|.or a b;refine aq (r:=e8 _ [J<|Cn.d<|.or a b,U,U])<|(skip<|lR (ao<|ae rfl rfl rfl)<|ao<|ae (ae rfl rfl rfl) rfl (fL IW)).trans<|(skip<|ao<|ae (ae rfl rfl rfl) rfl (fL NU)).trans<|(bu<|au<|af (ac rfl rfl) lv).trans<|(bu<|au<|ae (af (ac (ae (af (ac (ae rfl rfl rfl) rfl)<|ms a) rfl wR) rfl)<|l _) (af (ac (ae (af (ac (ae rfl rfl rfl) rfl)<|ms b) rfl Gv) rfl)<|l _) nJ).trans<|ar<|ae (ae rfl (af (ac (ae rfl rfl rfl) rfl) h) nJ) (af (ac (ae rfl rfl rfl) rfl) m)<|nJ.trans ?_;have e:decide (b.lv<=1)=decide (b.lv<2):=decide_eq_decide.mpr ⊥;have e1:decide (a.lv<1)=η:=by cases a<;>rfl
  show R.ok (D.int<|((decide (a.lv<1)).toNat)+((decide (b.lv<=1)).toNat)+a.opened+b.opened)=_;rw[e,e1];congr 2;show(0:Int)+_+_+_=(((decide (b.lv<2)).toNat+a.opened+b.opened));simp
def cell(a:List Int)(k:Int):Int:=a.getD k.toNat 0
theorem jD(b:List Int)(k:Int)(c:0<=k):gV [.lst<|b.map D.int,.int k]=.ok (.int<|cell b k):=by
 by_cases h:k<b.length
 .have e:b[k.toNat]?=(cell b k):=by delta cell;mright
  have a:=WV D.int b e;rw[show(k.toNat)=k by lia]at a;exact aq<|aS<|(a8<|ao<|ae rfl rfl (wR.trans<|by mright)).trans<|ar<|a
 .have e:cell b k=0:=by delta cell;mright
  rw[e];exact aq<|(skip<|ao<|ae rfl rfl (wR.trans<|by mright)).trans rfl
theorem qx(c k:Int)(a:0<=k)(h1:k<1000):∃m,iZ [.int c,.int k]=.ok (.int m)/\0<=m/\m<2147483647:=by
 exact⟨_,aq<|(bu<|au<|bf (iH rfl rfl) rfl).trans<|ar<|bf (iH rfl rfl (by omega)) rfl,aba _<|∎,aaR _<|∎⟩
abbrev ZK:Str:=lE "abcdefghijklmnopqrstuvwxyz"
def Lw(Q:Nat->Prop)(z:Str):Prop:=∀c∈z.cps.toList,Q c
theorem Lw.app{Q:Nat->Prop}(e:Lw Q a)(f:Lw Q b):Lw Q<|a++b:=fun c d=>by
 rw[dH]at d;exact(BY.mp d).elim (e c)<|f c
theorem FX{Q:Nat->Prop}(i:Int)(e:z.cps.toList.length=n+1)(f:Lw Q z)(h:n<1000):∃c,Q c/\cR (.str z) (.int<|i%((n+1:Nat):Int))=.ok (.str ⟨#[c]⟩):=by
 have d:=aba i (b:=((n+1:Nat))) ⊥;have h1:=aaR i (b:=((n+1:Nat))) ∅;generalize i%((n+1:Nat))=k at d h1;obtain⟨k,rfl⟩:=Int.eq_ofNat_of_zero_le d;have a:k<z.cps.toList.length:=⊥
 exact⟨_,f _<|ad3 a,U0 (by rw[nY]at e;lia)<|xu<|aaC a⟩
theorem qZ(c:Nat):(⟨#[c]⟩:Str).length=1:=rfl
abbrev vk(m:FS){a b:FS}(_:m=nh a b):FS:=b
abbrev Rf(m:FS){i:FA}{g:TgD}{x r:FS}(_:m=nh (Hy i g x) r):FS:=x
abbrev nB:FS:=Rf (vk tS rfl) rfl
theorem W8{Q:Nat->Prop}(w:Int->Str->Option D->Sd)(oO:∀p z o x,z.length<100->∃b c,Q c/\B ((w p z o).set i<|J x)=.ok (.nx<|w b (z++⟨#[c]⟩)<|J x)):∀(xs:afy)(p:Int)(z:Str)(o:Option D),z.length+xs.length<=100->Lw Q z->∃b a o',cZ (.one i) B xs (w p z o)=.ok (.nx<|w b a o')/\a.length=z.length+xs.length/\Lw Q a
 |[],p,z,o,h,hz=>⟨p,z,o,rfl,rfl,hz⟩
 |x::r,p,z,o,h,hz=>by
  simp only[aaS]at h;left;refine Z22 (oO p z o x ⊥) fun p1 c l e=>?_;refine Z33 (W8 w oO r p1 (z++⟨#[c]⟩) (x) (by rw[rH,qZ];lia) (hz.app fun d hd=>by
   mright)) fun p2 g j k h2 f=>?_
  right;exact⟨p2,g,j,(gj e).trans k,by rw[h2,rH,qZ];simp;lia,f⟩
theorem PP(p:Int)(z:Str)(o:Option D)(x:D)(h:z.length<100):∃b c,low c=G/\nB [J<|.int p,J<|.str z,J x]=.ok (.nx [J<|.int b,J<|.str<|z++⟨#[c]⟩,J x]):=by
 obtain⟨c,a,e⟩:=FX (z:=ZK) (Q:=fun c=>low c=G) ((p*48271+11)%2147483647/7) rfl (by delta Lw;trivial) ∎;exact⟨_,c,a,aJ (au<|bf (ir (iH rfl rfl) rfl) rfl)<|au<|ae rfl (e) (Il _ _<|by rw[qZ];lia)⟩
theorem eY:∀(n:Nat)(i:Int),(aW i n).length=n
 |0,i=>rfl
 |n+1,i=>by simp[aW]
theorem vI:∀(n:Nat)(i:Int)(x:D),x∈aW i n->∃k:Int,x=.int k/\i<=k/\k<i+n:=by
 intro n i x a;delta aW at a
 grind
theorem y9(h:φ Y=.ok (.int i))(a:0<=i)(b:i<=1000):p9 (ak φ aQ) Y=.ok (aW 0 i.toNat):=by
 rw[IQ,ac h rfl,am,MX<|⊥]
noncomputable abbrev nZ:afr:=["and","by","down","from","none","not","or","order","show","take","where"]
theorem GW(z:Str):oX z=decide (z∈nZ):=nG z nZ
theorem Po:∀z∈nZ,oX (z++lE "x")=η:=⊤
theorem Qt:∀z∈nZ,z.length<=5:=⊤
theorem CD(h1:1<=z.length)(a:z.length<=8)(d:Lw (fun c=>low c=G) z)(b:oX z=η):ci z=G:=by
 delta ci;have f:z≠"":=fun e=>by
  have:(lE "").length=0:=⊤
  rw[e,this]at h1;lia
 rw[afm f,afn a,b,aaH.mpr d];rfl
theorem name(p:Int):∃z:Str,zo [.int p]=.ok (.str z)/\ci z=G:=by
 have h:0<=p%8:=aba _ ∎;have b1:p%8<8:=aaR _ ∎;have e0:(lE "").length=0:=⊤
 have f:=eY (1+p%8).toNat 0;refine Z33 (W8 (i:=2) (fun p z o=>[J<|.int p,J<|.str z,o]) PP (aW 0 (1+p%8).toNat) p (lE "") U (by rw[f,e0];lia) (by delta Lw;decide +kernel)) fun g a o' d h2 b=>?_;rw[f,e0]at h2;have c:dC (aH rE (ag 1)<|uD<|ak (vC<|.str "and")<|ak (vC<|.str "by")<|ak (vC<|.str "down")<|ak (vC<|.str "from")<|ak (vC<|.str "none")<|ak (vC<|.str "not")<|ak (vC<|.str "or")<|ak (vC<|.str "order")<|ak (vC<|.str "show")<|ak (vC<|.str "take")<|ak (vC<|.str "where") aQ) [J<|.int g,J<|.str a,o']=.ok (oX a):=
  ao (ae rfl (de<|ac rfl (ac rfl (ac rfl (ac rfl (ac rfl (ac rfl (ac rfl (ac rfl (ac rfl (ac rfl (ac rfl rfl))))))))))) rfl)
 cases hb:oX a with
 |true=>
  have e:a∈nZ:=by
   have:=hb
   rw[GW]at this;exact afo this
  have j:=Qt a e;have k:(lE "x").length=1:=⊤
  exact⟨a++"x",aq<|aJ rfl (aJ (kU (y9 rfl ⊥ ⊥) d)<|eH (.inl ⟨c.trans<|by rw[hb],au<|(Il _ _<|⊥)⟩) rfl),CD (by rw[rH];mright) (by rw[rH];lia) (b.app<|by delta Lw;trivial)<|Po a e⟩
 |false=>
  exact⟨a,aq<|aJ rfl (aJ (kU (y9 rfl ⊥ ⊥) d)<|eH (.inr ⟨c.trans<|by rw[hb],rfl⟩) rfl),CD ⊥ (by grind) b hb⟩
abbrev K9:Str:=lE " !\"#$&'()*+,-./0123456789:;<=>?@ABCDEFGHIJKLMNOPQRSTUVWXYZ[\\]^_`"++lE "abcdefghijklmnopqrstuvwxyz{|}~"
abbrev sB':FS:=Rf (vk (vk (vk ph rfl) rfl) rfl) rfl
theorem LK(m:D)(p:Int)(z:Str)(o:Option D)(x:D)(h:z.length<100):∃b c,(32<=c/\c<=126)/\sB' [J<|.int p,J m,J<|.str K9,J<|.str z,J x]=.ok (.nx [J<|.int b,J m,J<|.str K9,J<|.str<|z++⟨#[c]⟩,J x]):=by
 obtain⟨c,a,e⟩:=FX (z:=K9) (Q:=fun c=>32<=c/\c<=126) (n:=93) ((p*48271+11)%2147483647/7) rfl (by delta Lw;trivial) ∅;exact⟨_,c,a,aJ (au<|bf (ir (iH rfl rfl) rfl) rfl)<|au<|ae rfl (e) (Il _ _<|by rw[qZ];lia)⟩
theorem signs(p n:Int)(d:0<=n)(h1:n<=40):∃z:Str,uK [.int p,.int n]=.ok (.str z)/\XU z:=by
 have e0:(lE "").length=0:=⊤
 have e:=eY n.toNat 0;refine Z33 (W8 (i:=4) (fun p z o=>[J<|.int p,J<|.int n,J<|.str K9,J<|.str z,o]) (LK<|.int n) (aW 0 n.toNat) p ("") U ⊥ (by delta Lw;trivial)) fun f a o' b h2 c=>?_;exact⟨a,aq<|aJ rfl (aJ rfl (aJ rfl (aJ (kU (y9 rfl d ⊥) b) rfl))),by simp_all,c⟩
def Sde.val:Sde->Prop
 |.col _ _=>False
 |_=>True
theorem GQ:Oh (.int 10) (.int 18)=.ok (.int 1000000000000000000):=by rfl
theorem value(p c:Int):∃a:Sde,uU [.int p,.int c]=.ok (vv a)/\a.Ok/\a.val:=by
 have m:0<=p%5:=aba _ ∎;have l:p%5<5:=aaR _ ∎;have t:∀j:Int,dC (aH jp (aH gk (ag 0)<|vC<|.int 5)<|vC<|.int j) [J<|.int p,J<|.int c]=.ok (decide (p%5=j)):=fun j=>sV (bf rfl rfl) rfl;have b:∀j:Int,p%5=j->dC (aH jp (aH gk (ag 0)<|vC<|.int 5)<|vC<|.int j) [J<|.int p,J<|.int c]=.ok G:=fun j h=>(t j).trans (by rw[afn h]);have tn:∀j:Int,p%5≠j->dC (aH jp (aH gk (ag 0)<|vC<|.int 5)<|vC<|.int j) [J<|.int p,J<|.int c]=.ok η:=fun j h=>(t j).trans (by rw[afm h]);have hw:p%5=0\/p%5=1\/p%5=2\/p%5=3\/p%5=4:=⊥
 rcases hw with hw|hw|hw|hw|hw
 .exact⟨.non,aq (r:=gm [J<|.int p,J<|.int c])<|aS<|(a8<|b 0 hw).trans<|ar rfl,trivial,trivial⟩
 .refine⟨.int<|p/5%21-10,aq (r:=gm [J<|.int p,J<|.int c])<|(skip<|tn 0<|⊥).trans<|aS<|(a8<|b 1 hw).trans<|ar<|sC (bf (f6 rfl rfl) rfl) rfl,?_,trivial⟩;show Int.natAbs _<10^18;lia
 .refine⟨.int<|c%(2*1000000000000000000-1)-1000000000000000000+1,aq (r:=gm [J<|.int p,J<|.int c])<|(skip<|tn 0<|⊥).trans<|(skip<|tn 1<|⊥).trans<|aS<|(a8<|b 2 hw).trans<|ar<|ir (sC (bf rfl (sC (iH rfl (ae rfl rfl GQ)) rfl))<|ae rfl rfl GQ) rfl,?_,trivial⟩;show Int.natAbs _<10^18;lia
 .obtain⟨z,e,h⟩:=signs p (p/5%6) (aba _<|∎) (by have:=aaR (p/5) (show(0:Int)<6 by decide);lia);exact⟨.txt z,aq (r:=gm [J<|.int p,J<|.int c])<|(skip<|tn 0<|⊥).trans<|(skip<|tn 1<|⊥).trans<|(skip<|tn 2<|⊥).trans<|aS<|(a8<|b 3 hw).trans<|ar<|af (ac rfl (ac (bf (f6 rfl rfl) rfl) rfl)) e,h,trivial⟩
 .have d:∃n:Int,cR (.lst [.int 1,.int 2,.int 39,.int 40]) (.int<|p/5%4)=.ok (.int n)/\0<=n/\n<=40:=by
   have k:0<=p/5%4:=aba _ ∎;have f:p/5%4<4:=aaR _ ∎;generalize p/5%4=i at k f;have d:i=0\/i=1\/i=2\/i=3:=⊥
   rcases d with rfl|rfl|rfl|rfl<;>exact⟨_,rfl,∎,∅⟩
  obtain⟨n,en,n0,g⟩:=d;obtain⟨z,e,h⟩:=signs p n n0 g;exact⟨.txt z,aq<|(skip<|tn 0<|⊥).trans<|(skip<|tn 1<|⊥).trans<|(skip<|tn 2<|⊥).trans<|(skip<|tn 3<|⊥).trans<|ar<|af (ac rfl (ac (en) rfl)) e,h,trivial⟩
theorem Bo(p c:Int):∃a:Sde,qH [.int p,.int c]=.ok a.d/\a.Ok:=by
 have t:dC (aH zF (aH gk (ag 0)<|vC<|.int 3)<|vC<|.int 2) [J<|.int p,J<|.int c]=.ok ((p%3<2)):=rfl;by_cases h:p%3<2
 .obtain⟨a,e,f⟩:=name<|p/3%4;obtain⟨b,j,g⟩:=name<|p/12;exact⟨.col a b,aq<|aS<|(a8<|t.trans<|by mright).trans<|ar<|de<|ac rfl (ac (e)<|ac (j) rfl),f,g⟩
 .obtain⟨a,e,f,i⟩:=value (p/3) c;refine⟨a,?_,f⟩;have k:a.d=.tup [.str "value",vv a]:=by cases a with|col x y=>exact i.elim|_=>rfl
  rw[k];exact aq<|(skip<|t.trans<|by mright).trans<|ar<|de<|ac rfl (ac (e) rfl)
theorem Ji(p:Int):∃q:bW,mR [.int p]=.ok (j9 q)/\ul q:=by
 obtain⟨a,c,d⟩:=name<|p%5;obtain⟨b,e,f⟩:=name<|p/5;exact⟨(a,b),aq<|ar<|de<|ac rfl (ac (c)<|ac (e) rfl),d,f⟩
def Ph(a:List Cn):Nat:=(a.map fun c=>c.sz+2).sum
def Te(a:List Cn):Nat:=(a.map Cn.tests).sum
def KW(a:List Cn):Prop:=∀c∈a,c.Fit
theorem Gm(a b:List Cn):Ph (a++b)=Ph a+Ph b:=by simp[Ph]
theorem Eu(a b:List Cn):Te (a++b)=Te a+Te b:=by simp[Te]
theorem AU(c:Cn):Ph [c]=c.sz+2:=by simp[Ph]
theorem Ah(c:Cn):Te [c]=c.tests:=by simp[Te]
abbrev st(S m:D)(d:afy)(a c b e f:Option D):Sd:=[J S,J<|.int 5,J m,J<|.lst d,a,c,b,e,f]
theorem Nz(S m:D)(c:afy)(a b:D)(e g f h i:Option D)(ε ψ:FE)(d:D)(o:ε (st S m (c++[a]++[b]) e g f h i)=.ok d)(j:ψ (st S m (c++[a]++[b]) e g f h i)=.ok (.int (c.length:Nat)))(q:c.length<=900):
  my 3 ε ψ (st S m (c++[a]++[b]) e g f h i)=.ok (.nx<|st S m (c++[.tup [d,a,b]]) e g f h i):=by
 have l:(st S m (c++[a]++[b]) e g f h i)[3]?=J (J<|.lst<|c++[a]++[b]):=rfl;delta my;rw[l];simp only[o,j,am];have k:C5 (c++[a]++[b]).length (c.length:Nat)=J c.length:=by
  delta C5;rw[afk<|⊥,afk<|by simp;lia];simp
 have e1:(c++[a]++[b])[c.length]?=J a:=∅
 have p:(c++[a]++[b]).eraseIdx c.length=c++[b]:=by
  rw[aaE,List.eraseIdx_append_of_length_le<|mK _];simp
 rw[k];simp only;rw[e1];simp only;rw[p];have n:(c++[b])[(c++[b]).length-1]?=J b:=∅
 rw[n];simp only;rw[afk<|by simp;lia];simp
theorem SA(S m:D)(b:afy)(a:D)(c f e g h:Option D)(ε:FE)(d:D)(i:ε (st S m (b++[a]) c f e g h)=.ok d)(l:b.length<=900):
  pR 3 ε (st S m (b++[a]) c f e g h)=.ok (.nx<|st S m (b++[.tup [d,a]]) c f e g h):=by
 have k:(st S m (b++[a]) c f e g h)[3]?=J (J<|.lst<|b++[a]):=rfl;delta pR;rw[k];simp only[i,am];have j:(b++[a])[(b++[a]).length-1]?=a:=∅
 rw[j];simp only;rw[afk<|by simp;lia];simp
theorem N0(c:List Cn)(a b:Cn):(c++[a]++[b]).map Cn.d=c.map Cn.d++[a.d]++[b.d]:=∅
theorem Be(b:List Cn)(a:Cn):(b++[a]).map Cn.d=b.map Cn.d++[a.d]:=∅
theorem Ga{c:List Cn}(h:2<=c.length):∃d a b,c=d++[a]++[b]:=by
 have h1:c≠[]:=fun e=>by mright
 have e1:=aa7 h1;have h2:c.dropLast≠[]:=fun e=>by rw[e]at e1;rw[<-e1]at h;simp at h
 have f:=aa7 h2;exact⟨_,_,_,by rw[f,e1]⟩
structure Join(a b t:Cn)(n:Nat):Prop where
 s:t.sz<=a.sz+b.sz+n
 te:t.tests=a.tests+b.tests
 fi:a.Fit->b.Fit->t.Fit
theorem EJ(i:Int)(c:0<=i)(h1:i<2)(a b:Cn):∃(wd:Str)(t:Cn),cR (.lst [.str "and",.str "or"]) (.int i)=.ok (.str wd)/\t.d=.tup [.str wd,a.d,b.d]/\Join a b t 1:=by
 have:i=0\/i=1:=⊥
 rcases this with rfl|rfl
 .exact⟨_,.and a b,rfl,rfl,by show 1+a.sz+b.sz<=_;lia,rfl,fun x y=>⟨x,y⟩⟩
 .exact⟨_,.or a b,rfl,rfl,by show 1+a.sz+b.sz<=_;lia,rfl,fun x y=>⟨x,y⟩⟩
theorem Ta(S m:D)(a:afy)(b d c e f:Option D):aI cr (ak (ag 3) aQ) (st S m a b d c e f)=.ok (.int (a.length:Nat)):=rfl
theorem SX(S m:D)(c:afy)(a b:D)(d f e g h:Option D):aH zI (aI cr<|ak (ag 3) aQ) (vC<|.int 2) (st S m (c++[a]++[b]) d f e g h)=.ok (.int (c.length:Nat)):=by
 refine(sC rfl rfl).trans ?_;simp
abbrev c1:FT:=(mQ (dC<|aH Ed (aI cr<|ak (ag 3) aQ)<|vC<|.int 1)<|dC<|aH Ed (aH gk (aH lO (ag 6)<|vC<|.int 4000)<|vC<|.int 3)<|vC<|.int 0)
abbrev b1:FS:=(nh (my 3 (aH cR (uw<|ak (vC<|.str "and")<|ak (vC<|.str "or") aQ)<|aH gk (aH lO (ag 6)<|vC<|.int 12000)<|vC<|.int 2)<|aH zI (aI cr<|ak (ag 3) aQ)<|vC<|.int 2)<|nh (rZ 6<|aH gk (aH qX (ag 6)<|vC<|.int 69621)<|vC<|.int 2147483647)<|DA (dC<|aH jp (aH gk (aH lO (ag 6)<|vC<|.int 24000)<|vC<|.int 4)<|vC<|.int 0) (pR 3<|vC<|.str "not") ld)
theorem Lg(S m:D)(e:List Cn)(a b:Cn)(c f g h:Option D)(p:Int)(q:e.length<=800):
  ∃t n,b1 (st S m ((e++[a]++[b]).map Cn.d) c f (J<|.int p) g h)=.ok (.nx<|st S m ((e++[t]).map Cn.d) c f (J<|.int n) g h)/\Join a b t 2:=by
 refine Z23 (EJ (p/12000%2) (aba _<|∎) (aaR _<|∎) a b) fun wd t e1 l j=>?_;rw[N0];have o:aH cR (uw<|ak (vC<|.str "and")<|ak (vC<|.str "or") aQ) (aH gk (aH lO (ag 6)<|vC<|.int 12000)<|vC<|.int 2) (st S m (e.map Cn.d++[a.d]++[b.d]) c f (J<|.int p) g h)=.ok (.str wd):=ae (mx<|ac rfl (ac rfl rfl)) (bf (f6 rfl rfl) rfl) e1;have E1:=Nz S m (e.map Cn.d) a.d b.d c f (J<|.int p) g h _ _ (.str wd) o (SX S m _ _ _ c f (J<|.int p) g h) (by grind);rw[<-l]at E1;have i:dC (aH jp (aH gk (aH lO (ag 6)<|vC<|.int 24000)<|vC<|.int 4)<|vC<|.int 0) (st S m (e.map Cn.d++[t.d]) c f (J<|.int<|p*69621%2147483647) g h)=.ok ((p*69621%2147483647/24000%4=0)):=sV rfl rfl;by_cases k:p*69621%2147483647/24000%4=0
 .rw[k]at i;refine⟨.not t,p*69621%2147483647,?_,by have:=j.s;show 1+t.sz<=_;lia,j.te,j.fi⟩;rw[Be];exact aJ E1<|aJ (au<|bf (iH rfl rfl) rfl)<|(a8 i).trans<|SA S m (e.map Cn.d) t.d c f _ g h (vC<|.str "not") (.str "not") rfl (by grind)
 .rw[afm k]at i;refine⟨t,p*69621%2147483647,?_,by have:=j.s;lia,j.te,j.fi⟩;rw[Be];exact aJ E1<|aJ (au<|bf (iH rfl rfl) rfl)<|(j0 i).trans rfl
theorem Ol(S m:D)(a:afy)(b c d e:Option D)(p:Int):c1 (st S m a b c (J<|.int p) d e)=.ok (decide (1<a.length)&&decide (0<p/4000%3)):=by
 have e1:dC (aH Ed (aI cr<|ak (ag 3) aQ)<|vC<|.int 1) (st S m a b c (J<|.int p) d e)=.ok ((1<a.length)):=ao<|(vQ.trans<|by congr 2;exact decide_eq_decide.mpr<|by omega);have f:dC (aH Ed (aH gk (aH lO (ag 6)<|vC<|.int 4000)<|vC<|.int 3)<|vC<|.int 0) (st S m a b c (J<|.int p) d e)=.ok ((0<p/4000%3)):=rfl;by_cases h:1<a.length
 .rw[afn h]at e1⊢;exact kW e1 f
 .rw[afm h]at e1⊢;exact Bu e1
structure Lay(cs cs':List Cn)(n:Nat):Prop where
 p:Ph cs'<=Ph cs+n
 t:Te cs'=Te cs
 f:KW cs->KW cs'
 l:1<=cs'.length
 le:cs'.length<=cs.length
theorem Lay.step{a b t:Cn}(j:Join a b t n)(g:n<=2)(Lq0:Lay (cs++[t]) cs' 0):Lay (cs++[a]++[b]) cs' 0:=by
 refine⟨?_,?_,fun d=>Lq0.f fun c e=>?_,Lq0.l,?_⟩
 .have:=Lq0.p
  have:=j.s
  simp only[Gm,AU]at *;lia
 .rw[Lq0.t];simp only[Eu,Ah,j.te];lia
 .rcases BY.mp e with z|z
  .exact d c (by simp[z])
  .rw[IF.mp z];exact j.fi (d a<|∅) (d b<|∅)
 .have:=Lq0.le
  mright;lia
theorem CB(S m:D)(i l o q:Option D):∀(n:Nat)(c:List Cn)(f:Nat)(p:Int),c.length<=n->1<=c.length->n<f->n<=700 ->
  ∃g s,cq c1 b1 f (st S m (c.map Cn.d) i l (J<|.int p) o q)=.ok (.nx<|st S m (g.map Cn.d) i l (J<|.int s) o q)/\Lay c g 0
 |n,c,0,p,hn,h1,hf,hb=>⊥
 |n,c,f+1,p,hn,h1,hf,hb=>by
  have k:=Ol S m (c.map Cn.d) i l o q p;rw[aaU]at k;by_cases h2:1<c.length/\0<p/4000%3
  .rw[afn h2.1,afn h2.2]at k;left;obtain⟨h,a,b,rfl⟩:=Ga h2.1;have v:(h++[a]++[b]).length=h.length+2:=∅
   refine Z22 (Lg S m h a b i l o q p ⊥) fun t s e j=>?_;obtain⟨n,rfl⟩:∃u,n=u+1:=⟨n-1,⊥⟩;refine Z22 (CB S m i l o q n (h++[t]) f s (by simp;mright) ∅ (by mright) ⊥) fun g r w Lq0=>?_;right;exact⟨g,r,(HI k e).trans w,Lq0.step j<|mK _⟩
  .have:((1<c.length)&&(0<p/4000%3))=η:=by
    mright
   rw[this]at k;exact⟨c,p,Nc k,mK _,rfl,id,h1,mK _⟩
abbrev c2:FT:=(dC<|aH Ed (aI cr<|ak (ag 3) aQ)<|vC<|.int 1)
abbrev b2:FS:=(my 3 (aH cR (uw<|ak (vC<|.str "and")<|ak (vC<|.str "or") aQ)<|aH gk (aI iZ<|ak (ag 2)<|ak (aI cr<|ak (ag 3) aQ) aQ)<|vC<|.int 2)<|aH zI (aI cr<|ak (ag 3) aQ)<|vC<|.int 2)
theorem AZ(S:D)(m:Int)(h i o k l:Option D):∀(n:Nat)(g:List Cn)(f:Nat),g.length<=n->1<=g.length->n<f->n<=700 ->
  ∃t,cq c2 b2 f (st S (.int m) (g.map Cn.d) h i o k l)=.ok (.nx<|st S (.int m) [t.d] h i o k l)/\Lay g [t] 0
 |n,g,0,hn,h1,hf,hb=>⊥
 |n,g,f+1,hn,h1,hf,hb=>by
  have q:c2 (st S (.int m) (g.map Cn.d) h i o k l)=.ok (decide (1<g.length)):=ao<|ae (Ta S _ _ h i _ k l) rfl (vQ.trans<|by rw[aaU];congr 2;exact decide_eq_decide.mpr<|⊥);by_cases h2:1<g.length
  .rw[afn h2]at q;left;obtain⟨c,a,b,rfl⟩:=Ga h2;have p:(c++[a]++[b]).length=c.length+2:=∅
   rw[p]at hn;obtain⟨x,ex,w,y⟩:=qx m ((c.map Cn.d++[a.d]++[b.d]).length:Nat) ⊥ (by simp;lia);refine Z23 (EJ (x%2) (aba _<|∎) (aaR _<|∎) a b) fun wd t e1 r j=>?_;have v:aH cR (uw<|ak (vC<|.str "and")<|ak (vC<|.str "or") aQ) (aH gk (aI iZ<|ak (ag 2)<|ak (aI cr<|ak (ag 3) aQ) aQ)<|vC<|.int 2) (st S (.int m) (c.map Cn.d++[a.d]++[b.d]) h i o k l)=.ok (.str wd):=ae rfl (bf (ex) rfl) e1;have e  := Nz S (.int m) (c.map Cn.d) a.d b.d h i o k l _ _ (.str wd) v (SX S _ _ _ _ h i o k l) (by grind);rw[<-r,<-N0,<-Be]at e;obtain⟨n,rfl⟩:∃s,n=s+1:=⟨n-1,⊥⟩;obtain⟨t',u,Lq0⟩:=AZ S m h i o k l n (c++[t]) f (by simp;lia) ∅ (by mright) ⊥;right;exact⟨t',(HI q e).trans u,Lq0.step j<|∅⟩
  .obtain⟨a,rfl⟩:=List.length_eq_one_iff.mp (show g.length=1 by lia);exact⟨a,Nc q,mK _,rfl,id,by omega,by omega⟩
theorem S9(i:Int)(a:0<=i)(h1:i<6):∃sg:Str,cR (.lst [.str "=",.str "<>",.str "<",.str "<=",.str ">",.str ">="]) (.int i)=.ok (.str sg)/\sg∈(["=","<>","<","<=",">",">="]:afr):=by
 have:i=0\/i=1\/i=2\/i=3\/i=4\/i=5:=⊥
 rcases this with rfl|rfl|rfl|rfl|rfl|rfl<;>exact⟨_,rfl,⊤⟩
abbrev fB:FS:=Rf (vk iB rfl) rfl
structure More(cs cs':List Cn)(n:Nat):Prop where
 p:Ph cs'<=Ph cs+4*n
 t:Te cs'=Te cs+n
 f:KW cs->KW cs'
 l:1<=n+cs.length->1<=cs'.length
 le:cs'.length<=cs.length+n
theorem Pq(h:List Int)(m:D)(k:Int)(P:0<=k)(h1:k<100)(e:List Cn)(W:e.length<=600)(N F O Q:Option D):
  ∃g K w B A,fB (st (.lst<|h.map D.int) m (e.map Cn.d) (J<|.int k) N F O Q)=.ok (.nx<|st (.lst<|h.map D.int) m (g.map Cn.d) (J<|.int k) K w B A)/\More e g 1:=by
 have o:=jD h (5+k) ⊥;generalize cell h (5+k)=c at o;left;obtain⟨x,ex,R,S⟩:=qx c k P ⊥;obtain⟨i,es,hs⟩:=S9 (x%6) (aba _<|∎) (aaR _<|∎);obtain⟨a,s,q⟩:=Bo (x/6) c;obtain⟨y,u,T,V⟩:=qx c (k+50) ⊥ ⊥;obtain⟨b,C,r⟩:=Bo y c;obtain⟨t,M,v⟩:∃t:Cn,((x/1000%4=0/\t=.not (.test i a b))\/(x/1000%4≠0/\t=.test i a b))/\t.sz<=2/\t.tests=1/\t.Fit:=by
  by_cases j:x/1000%4=0
  .exact⟨_,.inl ⟨j,rfl⟩,mK _,rfl,hs,q,r⟩
  .exact⟨_,.inr ⟨j,rfl⟩,by show 1<=2;decide,rfl,hs,q,r⟩
 have H:jP 3 (ag 8) (st (.lst<|h.map D.int) m (e.map Cn.d) (J<|.int k) (J<|.int c) (J<|.int x) (J<|.str i)<|J t.d)=.ok (.nx<|st (.lst<|h.map D.int) m ((e++[t]).map Cn.d) (J<|.int k) (J<|.int c) (J<|.int x) (J<|.str i)<|J t.d):=by
  rw[wx (xs:=e.map Cn.d) (d:=t.d) rfl rfl (by rw[aaU];lia),Be];rfl
 obtain⟨g,E,I,Lq0⟩:=CB (.lst<|h.map D.int) m (J<|.int k) (J<|.int c) (J<|.str i) (J t.d) (e.length+1) (e++[t]) 1000 x ∅ ∅ ⊥ ⊥;right;refine⟨g,J<|.int c,J<|.int E,J<|.str i,J t.d,?_,?_,?_,?_,fun _=>Lq0.l,?_⟩
 .refine aJ (au<|af (ac rfl (ac (ir rfl rfl) rfl)) o) (aJ (au<|af (ac rfl (ac rfl rfl)) ex)<|aJ (au<|ae (mx<|ac rfl (ac rfl (ac rfl (ac rfl (ac rfl (ac rfl rfl)))))) (bf rfl rfl) es)<|aJ (au<|de<|ac rfl (ac rfl (ac (af (ac (f6 rfl rfl)<|ac rfl rfl) s)<|ac (af (ac (af (ac rfl (ac (ir rfl rfl) rfl)) u)<|ac rfl rfl) C) rfl)))<|eH (δ':=st (.lst<|h.map D.int) m (e.map Cn.d) (J<|.int k) (J<|.int c) (J<|.int x) (J<|.str i)<|J t.d) ?_<|aJ H<|(congrFun (by rfl) _).trans I);have n:dC (aH jp (aH gk (aH lO (ag 6)<|vC<|.int 1000)<|vC<|.int 4)<|vC<|.int 0) (st (.lst<|h.map D.int) m (e.map Cn.d) (J<|.int k) (J<|.int c) (J<|.int x) (J<|.str i)<|J<|Cn.d<|.test i a b)=.ok (decide (x/1000%4=0)):=sV (bf (f6 rfl rfl) rfl) rfl;rcases M with⟨j,rfl⟩|⟨j,rfl⟩
  .exact .inl ⟨n.trans<|by rw[afn j],au<|de<|ac rfl (ac rfl rfl)⟩
  .exact .inr ⟨n.trans<|by rw[afm j],rfl⟩
 .have:=Lq0.p
  simp only[Gm,AU]at this;lia
 .rw[Lq0.t];simp only[Eu,Ah,v.2.1]
 .intro hF;refine Lq0.f fun d hd=>?_;rcases BY.mp hd with z|z
  .exact hF d z
  mright
 .have:=Lq0.le
  simp at this;exact this
theorem HP(o:List Int)(m:D):∀(xs:afy)(a:List Cn)(q i g j n:Option D),(∀x∈xs,∃k:Int,x=.int k/\0<=k/\k<100)->a.length+xs.length<=600 ->
  ∃b C A s w v,cZ (.one 4) fB xs (st (.lst<|o.map D.int) m (a.map Cn.d) q i g j n)=.ok (.nx<|st (.lst<|o.map D.int) m (b.map Cn.d) C A s w v)/\More a b xs.length
 |[],a,q,i,g,j,n,hx,hl=>⟨a,q,i,g,j,n,rfl,∅,rfl,id,fun h=>by simpa using h,∅⟩
 |x::r,a,q,i,g,j,n,hx,hl=>by
  simp only[aaS]at hl;left;obtain⟨k,rfl,k0,k1⟩:=hx x ∅;obtain⟨z,A,s,w,v,e1,e⟩:=Pq o m k k0 k1 a ⊥ i g j n;have M:=e.le;refine Z62 (HP o m r z (J<|.int k) A s w v (fun y E=>hx y<|ie _ E) ⊥) fun u B I H s7 F K c=>?_;right;refine⟨u,B,I,H,s7,F,(gj e1).trans K,?_,?_,fun h=>c.f<|e.f h,fun _=>?_,?_⟩
  .have:=e.p;have:=c.p;grind
  .have:=e.t;have:=c.t;grind
  .exact c.l (by have:=e.l ∅;lia)
  .have:=c.le;grind
theorem uG(e:List Int)(m:Int)(y:1<=m)(h1:m<=20):∃c:Cn,ij [.lst<|e.map D.int,.int 5,.int m]=.ok c.d/\c.Fit/\c.sz<=80/\c.tests<=20:=by
 have w:=eY m.toNat 0;refine Z62 (HP e (.int m) (aW 0 m.toNat) [] U U U U U (fun x r=>by
  obtain⟨k,rfl,a,b⟩:=vI _ _ _ r
  grind) (by grind)) fun h j v i o n u M=>?_
 have g:=M.le;mright;obtain⟨t,q,Lq0⟩:=AZ (.lst<|e.map D.int) m j v i o n h.length h 1000 (mK _) (M.l<|⊥) (by grind) (by grind);refine⟨t,aq<|aJ rfl (aJ (kU (y9 rfl ⊥ ⊥) u)<|aJ (q) rfl),Lq0.f (M.f fun c s=>(nomatch s)) t<|∅,?_,?_⟩
 .have p1:=Lq0.p;have p2:=M.p;rw[AU]at p1
  have:Ph []=0:=rfl
  grind
 .have p1:=Lq0.t;have p2:=M.t;rw[Ah]at p1
  have:Te []=0:=rfl
  mright
abbrev YR:FS:=Rf (vk (vk d9 rfl) rfl) rfl
theorem OV(c:List Int)(h k:Int)(r:0<=k)(h1:k<100)(d:List bW)(s:d.length<=100)(l:Option D):∃t j,YR [J<|.lst<|c.map D.int,J<|.int h,J<|.lst<|d.map je,J<|.int k,l,U,U,U,U]=.ok (.nx [J<|.lst<|c.map D.int,J<|.int h,J<|.lst<|(d++[t]).map je,J<|.int k,j,U,U,U,U])/\ul t:=by
 left;obtain⟨x,ex,p,q⟩:=qx (cell c 1) (k+1) ⊥ ⊥;obtain⟨a,f,m⟩:=name x;have i:∃y:Int,cR (.lst [.int x,.int<|x/128]) (.int<|x/64%2)=.ok (.int y):=by
  have:x/64%2=0\/x/64%2=1:=⊥
  rcases this with e|e<;>rw[e]<;>exact⟨_,rfl⟩
 obtain⟨y,g⟩:=i;obtain⟨b,n,o⟩:=name y;right;refine⟨(a,b),J<|.int x,?_,m,o⟩;rw[acA];exact aJ (au<|af (ac ((jD c 1<|∅)) rfl) ex)<|wx rfl (de<|ac (f)<|ac (af (ac (g) rfl) n) rfl) (by grind)
theorem FU(d:List Int)(h:Int):∀(xs:afy)(b:List bW)(e c:Option D),(∀x∈xs,∃k:Int,x=.int k/\0<=k/\k<100)->(∀t∈b,ul t)->b.length+xs.length<=100 ->
  ∃(a:List bW)(l f:Option D),cZ (.one 3) YR xs [J<|.lst<|d.map D.int,J<|.int h,J<|.lst<|b.map je,e,c,U,U,U,U]=.ok (.nx [J<|.lst<|d.map D.int,J<|.int h,J<|.lst<|a.map je,l,f,U,U,U,U])/\(∀t∈a,ul t)/\a.length=b.length+xs.length
 |[],b,e,c,_,ht,_=>⟨b,e,c,rfl,ht,rfl⟩
 |x::r,b,e,c,hx,ht,hl=>by
  simp only[aaS]at hl;left;obtain⟨k,rfl,k0,k1⟩:=hx x ∅;refine Z22 (OV d h k k0 k1 b ⊥ c) fun t f e1 h1=>?_;refine Z33 (FU d h r (b++[t]) (J<|.int k) f (fun y g=>hx y<|ie _ g) (fun y g=>by
   grind) (by simp;lia)) fun a p3 i j h2 m=>?_
  right;exact⟨a,p3,i,(gj e1).trans j,h2,by grind⟩
abbrev Y6:FS:=Rf (vk (vk (vk (vk (vk (vk d9 rfl) rfl) rfl) rfl) rfl) rfl) rfl
theorem PF(a:List Int)(h k:Int)(e d:D)(n:0<=k)(h1:k<100)(b:List<|bW×Bool)(o:b.length<=100)(i:Option D):∃t f,Y6 [J<|.lst<|a.map D.int,J<|.int h,J e,J<|.int k,i,J d,J<|.lst<|b.map gO,U,U]=.ok (.nx [J<|.lst<|a.map D.int,J<|.int h,J e,J<|.int k,f,J d,J<|.lst<|(b++[t]).map gO,U,U])/\ul t.1:=by
 left;obtain⟨x,ex,l,m⟩:=qx (cell a 2) k (by omega) ⊥;obtain⟨c,g,j⟩:=Ji<|x/2;right;refine⟨(c,(x%2=1)),J<|.int x,?_,j⟩;rw[acA];exact aJ (au<|af (ac ((jD a 2<|∅)) rfl) ex)<|wx rfl (de<|ac (g)<|ac (zf) rfl) (by grind)
theorem HJ(d:List Int)(h:Int)(f e:D):∀(xs:afy)(b:List<|bW×Bool)(g c:Option D),(∀x∈xs,∃k:Int,x=.int k/\0<=k/\k<100)->(∀t∈b,ul t.1)->b.length+xs.length<=100 ->
  ∃(a:List<|bW×Bool)(n i:Option D),cZ (.one 3) Y6 xs [J<|.lst<|d.map D.int,J<|.int h,J f,g,c,J e,J<|.lst<|b.map gO,U,U]=.ok (.nx [J<|.lst<|d.map D.int,J<|.int h,J f,n,i,J e,J<|.lst<|a.map gO,U,U])/\(∀t∈a,ul t.1)/\a.length=b.length+xs.length
 |[],b,g,c,_,ht,_=>⟨b,g,c,rfl,ht,rfl⟩
 |x::r,b,g,c,hx,ht,hl=>by
  simp only[aaS]at hl;left;obtain⟨k,rfl,k0,k1⟩:=hx x ∅;refine Z22 (PF d h k f e k0 k1 b ⊥ c) fun t i e1 h1=>?_;refine Z33 (HJ d h f e r (b++[t]) (J<|.int k) i (fun y j=>hx y<|ie _ j) (fun y j=>by
   grind) (by simp;lia)) fun a p3 l m h2 o=>?_
  right;exact⟨a,p3,l,(gj e1).trans m,h2,by grind⟩
theorem Ud{rest:Sd}(a:∀k:Int,0<=k->k<100->∃q:bW,ε (J (.int k)::rest)=.ok (j9 q)/\ul q):∀xs:afy,(∀x∈xs,∃k:Int,x=.int k/\0<=k/\k<100)->∃b:List bW,fV (.one 0) xa ε (U::rest) xs=.ok (b.map j9)/\b.length=xs.length/\∀q∈b,ul q
 |[],_=>⟨[],rfl,rfl,fun q c=>(nomatch c)⟩
 |x::r,h=>by
  obtain⟨k,rfl,k0,k1⟩:=h x ∅;obtain⟨q,e,c⟩:=a k k0 k1;obtain⟨b,i,j,d⟩:=Ud a r fun y g=>h y<|ie _ g;refine⟨q::b,?_,by simp[j],fun p f=>(eQ.mp f).elim (fun e=>e▸c)<|d p⟩;show(ε<|J (.int k)::rest).bind _=_;rw[e];rw[i];rfl
theorem C2{β:Type}(xs:List β)(h:1<=xs.length):∃b bs,xs=b::bs/\bs.length+1=xs.length:=by
 cases xs with
 |nil=>mright
 |cons b bs=>exact⟨b,bs,rfl,by rfl⟩
def RP(t:Option Cn):D:=match t with
 |some c=>c.d
 |none=>.non
theorem F6(l:List Int):∃q:Qn,oa [.lst<|l.map D.int]=.ok q.d/\q.Fit:=by
 left;obtain⟨h,eh,h0,h1⟩:=qx (cell l 0) 0 ∎ ∎;have hr:=eY (1+h%3).toNat 0;have B:∀(n:Nat),n<=50->∀x∈aW 0 n,∃k:Int,x=.int k/\0<=k/\k<100:=fun n hn x hx=>by
  obtain⟨k,rfl,a,b⟩:=vI _ _ _ hx;exact⟨k,rfl,a,⊥⟩
 refine Z33 (FU l h (aW 0 (1+h%3).toNat) [] U U (B _<|⊥) (fun t N=>(nomatch N)) (by rw[hr];simp;lia)) fun ss M K e3 hs W=>?_
 rw[hr,abz,aeg]at W;obtain⟨s,g,rfl,hss⟩:=C2 ss ⊥;obtain⟨w,E5,Q⟩:∃w:Option Cn,((0<h/3%4/\∃m:Int,cR (.lst [.int 1,.int 2,.int 5,.int 20]) (.int<|h/12%4)=.ok (.int m)/\ij [.lst<|l.map D.int,.int 5,.int m]=.ok (RP w))\/(¬0<h/3%4/\w=U))/\∀c,w=J c->c.Fit/\c.sz<=90/\c.tests<=20:=by
  by_cases A:0<h/3%4
  .have hm:∃m:Int,cR (.lst [.int 1,.int 2,.int 5,.int 20]) (.int<|h/12%4)=.ok (.int m)/\1<=m/\m<=20:=by
    have i0:0<=h/12%4:=aba _ ∎;have i1:h/12%4<4:=aaR _ ∎
    have:h/12%4=0\/h/12%4=1\/h/12%4=2\/h/12%4=3:=⊥
    rcases this with e|e|e|e<;>rw[e]<;>exact⟨_,rfl,∎,∎⟩
   left;obtain⟨m,S,m0,m1⟩:=hm;obtain⟨c,H,f,z,t⟩:=uG l m m0 m1;right;exact⟨J c,.inl ⟨A,m,S,H⟩,fun c' e=>by cases e;exact⟨f,⊥,t⟩⟩
  .exact⟨U,.inr ⟨A,rfl⟩,fun c e=>(nomatch e)⟩
 have I:=eY (h/48%9).toNat 0;have i70:0<=h/48%9:=aba _ ∎;have i71:h/48%9<9:=aaR _ ∎;refine Z33 (HJ l h (.lst<|(s::g).map je) (RP w) (aW 0 (h/48%9).toNat) [] M K (B _<|⊥) (fun t N=>(nomatch N)) (by rw[I];simp;lia)) fun u r3 r4 e7 ho R=>?_
 rw[I,abz,aeg]at R;have i80:0<=h/432%8:=aba _ ∎;have i81:h/432%8<8:=aaR _ ∎;obtain⟨cs,H,T,F⟩:=Ud (ε:=aI mR<|ak (aI iZ<|ak (aI gV<|ak (ag 1)<|ak (vC<|.int 3) aQ)<|ak (ag 0) aQ) aQ) (rest:=[J<|.lst<|l.map D.int]) (fun k k0 k1=>by
  obtain⟨x,ex,_,_⟩:=qx (cell l 3) k k0 ⊥;obtain⟨q,eq,A⟩:=Ji x;exact⟨q,af (ac (af (ac (af (ac rfl (ac rfl rfl)) (jD l 3 ∎)) (ac rfl rfl)) ex) rfl) eq,A⟩) (aW 0 (1+h/432%8).toNat) (B _ ⊥)
 rw[eY]at T;have P:=BE rfl (by rw[eY];lia) H;obtain⟨c,o,rfl,hcc⟩:=C2 cs ⊥;right;have E:=jD l 4 ∎;generalize cell l 4=v at E;obtain⟨y,E9,V⟩:∃y:Option Int,((h/3456%3=0/\y=U)\/(h/3456%3=1/\y=J (v%1000000000000000000%12))\/(h/3456%3=2/\y=J (v%1000000000000000000)))/\∀i,y=J i->0<=i/\i.natAbs<10^18:=by
  have v0:0<=v%1000000000000000000:=aba _ ∎;have v1:v%1000000000000000000<1000000000000000000:=aaR _ ∎
  have:h/3456%3=0\/h/3456%3=1\/h/3456%3=2:=⊥
  rcases this with e|e|e
  .exact⟨U,.inl ⟨e,rfl⟩,fun i e=>(nomatch e)⟩
  .exact⟨_,.inr<|.inl ⟨e,rfl⟩,fun i e=>by cases e;lia⟩
  .exact⟨_,.inr<|.inr ⟨e,rfl⟩,fun i e=>by cases e;lia⟩
 let q:Qn:=⟨s,g,w,u,c,o,y⟩
 refine⟨q,?_,hs s<|∅,fun p O=>hs p<|ie _ O,by show g.length<=2;lia,Q,ho,by show u.length<=8;lia,F c<|∅,fun p O=>F p<|ie _ O,by show o.length<=7;lia,V⟩;have ed:q.d=.tup [.str "ask",.tup<|(s::g).map je,RP w,.tup<|u.map gO,.tup<|(c::o).map j9,(match y with|some i=>.int i|none=>.non)]:=by
  show Qn.d ⟨s,g,w,u,c,o,y⟩=_;cases w<;>cases y<;>rfl
 rw[ed];refine aq (r:=d9 [J<|.lst<|l.map D.int,U,U,U,U,U,U,U,U]) ?_;refine aJ (au<|af (ac (af (ac rfl (ac rfl rfl))<|jD l 0<|∎)<|ac rfl rfl) eh) ?_;refine aJ (zO<|mx rfl) ?_;refine aJ (kU (y9 (ir rfl (bf rfl rfl)) ⊥<|⊥) e3) ?_;refine aJ (au rfl) ?_;have X:dC (aH Ed (aH gk (aH lO (ag 1)<|vC<|.int 3)<|vC<|.int 4)<|vC<|.int 0) [J<|.lst<|l.map D.int,J<|.int h,J<|.lst<|(s::g).map je,M,K,J .non,U,U,U]=.ok (decide (0<h/3%4)):=ao<|ae (bf (f6 rfl rfl) rfl) rfl vQ;refine eH (δ':=[J<|.lst<|l.map D.int,J<|.int h,J<|.lst<|(s::g).map je,M,K,J<|RP w,U,U,U]) ?_ ?_
 .rcases E5 with⟨A,m,S,H⟩|⟨A,rfl⟩
  .exact .inl ⟨X.trans<|by rw[afn A],au<|af (ac rfl (ac rfl (ac (ae (mx<|ac rfl (ac rfl (ac rfl (ac rfl rfl)))) (bf (f6 rfl rfl) rfl) S) rfl))) H⟩
  .exact .inr ⟨X.trans<|by rw[afm A],rfl⟩
 refine aJ (zO<|mx rfl) ?_;refine aJ (kU (y9 (bf (f6 rfl rfl) rfl) ⊥<|⊥) e7) ?_;refine aJ (δ':=[J<|.lst<|l.map D.int,J<|.int h,J<|.lst<|(s::g).map je,r3,r4,J<|RP w,J<|.lst<|u.map gO,J<|.lst<|(c::o).map j9,U]) ?_ ?_
 .refine au (oy (y9 (ir rfl (bf (f6 rfl rfl) rfl)) ⊥<|⊥) ?_);exact P
 refine aJ (au<|bf (af (ac rfl (ac rfl rfl)) E)<|ae rfl rfl GQ) ?_;have C:∀(j:Int)(d:D),dC (aH jp (aH gk (aH lO (ag 1)<|vC<|.int 3456)<|vC<|.int 3)<|vC<|.int j) [J<|.lst<|l.map D.int,J<|.int h,J<|.lst<|(s::g).map je,r3,r4,J<|RP w,J<|.lst<|u.map gO,J<|.lst<|(c::o).map j9,J d]=.ok (decide (h/3456%3=j)):=fun j d=>sV (bf (f6 rfl rfl) rfl) rfl;rcases E9 with⟨e,rfl⟩|⟨e,rfl⟩|⟨e,rfl⟩
 .exact eH (.inl ⟨(C 0 _).trans<|by rw[afn e],au rfl⟩) (eH (.inr ⟨(C 1 _).trans<|by rw[e];rfl,rfl⟩)<|ar<|de<|ac rfl (ac (af (ac rfl rfl) rfl)<|ac rfl (ac (af (ac rfl rfl) rfl)<|ac (af (ac rfl rfl) rfl)<|ac rfl rfl)))
 .exact eH (.inr ⟨(C 0 _).trans<|by rw[e];rfl,rfl⟩) (eH (.inl ⟨(C 1 _).trans<|by rw[afn e],au<|bf rfl rfl⟩)<|ar<|de<|ac rfl (ac (af (ac rfl rfl) rfl)<|ac rfl (ac (af (ac rfl rfl) rfl)<|ac (af (ac rfl rfl) rfl)<|ac rfl rfl)))
 .exact eH (.inr ⟨(C 0 _).trans<|by rw[e];rfl,rfl⟩) (eH (.inr ⟨(C 1 _).trans<|by rw[e];rfl,rfl⟩)<|ar<|de<|ac rfl (ac (af (ac rfl rfl) rfl)<|ac rfl (ac (af (ac rfl rfl) rfl)<|ac (af (ac rfl rfl) rfl)<|ac rfl rfl)))
def qr(a:Nat):Nat:=if low a then 0 else if j7 a||a==45 then 1 else if a==34 then 2 else if a==60||(a==61||a==62)then 3 else 4
def cl(x:Kv):Nat:=match dU x with
 |a::_=>qr a
 |[]=>5
theorem zK(a c:Nat)(r s:afq)(h:qr a=qr c->qr a=4):bh (a::r) (c::s)=G:=by
 have hd:low c=G->j7 c=η:=fun b=>by
  delta low at b;delta j7;simp at b;simp;lia
 by_cases h1:low a=G
 .have ca:qr a=0:=by delta qr;rw[afk h1]
  show(if low a then !low c else _)=G;rw[afk h1];cases hc:low c with
  |false=>rfl
  |true=>
   have:qr c=0:=by delta qr;rw[afk hc]
   rw[ca,this]at h;exact absurd (h rfl) ∎
 .by_cases h2:(j7 a||a==45)=G
  .have ca:qr a=1:=by delta qr;rw[afl h1,afk h2]
   show(if low a then !low c else if j7 a||a==45 then !j7 c else _)=G;rw[afl h1,afk h2];cases hc:j7 c with
   |false=>rfl
   |true=>
    have b:¬low c=G:=fun z=>by rw[hd z]at hc;cases hc
    have:qr c=1:=by delta qr;rw[afl b,afk<|by rw[hc];rfl]
    rw[ca,this]at h;exact absurd (h rfl) ∎
  .by_cases h3:(a==34)=G
   .have ca:qr a=2:=by delta qr;rw[afl h1,afl h2,afk h3]
    show(if low a then !low c else if j7 a||a==45 then !j7 c else if a==34 then c != 34 else _)=G;rw[afl h1,afl h2,h3]
    lia
   .show(if low a then !low c else if j7 a||a==45 then !j7 c else if a==34 then c != 34 else !(r.isEmpty&&(a==60&&(c==61||c==62)||a==62&&c==61)))=G;rw[afl h1,afl h2,afl h3];cases hb:(a==60&&(c==61||c==62)||a==62&&c==61)with
    |false=>simp
    |true=>
     have:qr a=3/\qr c=3:=by
      simp at hb;rcases hb with⟨rfl,rfl|rfl⟩|⟨rfl,rfl⟩<;>exact⟨by rfl,by rfl⟩
     mright
def aV(l:List Iw):List It:=l.map fun p=>(p.1,p.2,dU p.2)
theorem ww(m:Nat):∀l:List Iw,txt (aV l) m=tx l++aaA m 32
 |[]=>rfl
 |(k,x)::r=>by
  show aaA k 32++(dU x++txt (aV r) m)=aaA k 32++(dU x++tx r)++_;rw[ww m r];simp
def MJ(l:List Iw):Prop:=∀p∈l,Sp p.2<|dU p.2
def ux:List Iw->Prop
 |[]=>True
 |[_]=>True
 |p::a::r=>(a.1=0->cl p.2=cl a.2->cl p.2=4)/\ux (a::r)
theorem Bd(h:Sp x<|dU x):∃a r,dU x=a::r/\cl x=qr a/\a≠32:=by
 obtain⟨a,r,e,h2⟩:=h.head;exact⟨a,r,e,by delta cl;rw[e],h2⟩
theorem CU(m:Nat):∀l:List Iw,MJ l->ux l->Good m (aV l)
 |[],_,_=>trivial
 |[p],hS,_=>by
  refine⟨hS p<|∅,?_,trivial⟩;refine Z23 (Bd (hS p<|∅)) fun a r e _ _=>?_;rw[e];cases m with
  |zero=>rfl
  |succ m=>exact zK a 32 r _ fun z=>z.trans rfl
 |p::b::l,hS,hC=>by
  refine⟨hS p<|∅,?_,CU m (b::l) (fun q h=>hS q<|ie _ h) hC.2⟩;refine Z23 (Bd (hS p<|∅)) fun a r e f _=>?_;refine Z23 (Bd (hS b<|∅)) fun c s d g _=>?_;show bh (dU p.2) (aaA b.1 32++(dU b.2++txt (aV l) m))=G;rw[e,d];cases hk:b.1 with
  |zero=>
   have:=hC.1 hk
   rw[f,g]at this;exact zK a c r _ this
  |succ n=>exact zK a 32 r _ fun z=>z.trans rfl
theorem wF(m:Nat):∀(l:List Iw)(p:Nat),p+(tx l).length<=900->∃(us:List Tok)(b:Tok),toks p (aV l) m=us++[b]/\b.kv=kE/\us.map Tok.kv=l.map abd
 |[],p,_=>⟨[],⟨"end",.non,p+m,p+m⟩,rfl,rfl,rfl⟩
 |(k,x)::r,p,h=>by
  have d:(tx<|(k,x)::r).length=k+(dU x).length+(tx r).length:=by simp[tx];lia
  refine Z23 (wF m r (p+k+(dU x).length) ⊥) fun us b e c a=>?_;refine⟨⟨x.1,x.2,p+k,p+k+(dU x).length⟩::us,b,?_,c,by simp[a,Tok.kv]⟩;show(if p+k+(dU x).length<=900 then _ else _)=_;rw[afk<|⊥];show _::toks (p+k+(dU x).length) (aV r) m=_;rw[e];rfl
theorem yf(m:Nat):∀(l:List Iw)(p:Nat),MJ l->p<=900->900<p+(tx l).length->∃(us:List Tok)(b:Tok),toks p (aV l) m=us++[b]/\b.k="bad"/\∀w∈us,w.k≠"end"
 |[],p,_,h0,h=>by simp[tx]at h;grind
 |(k,x)::r,p,hS,h0,h=>by
  have g:(tx<|(k,x)::r).length=k+(dU x).length+(tx r).length:=by simp[tx];lia
  by_cases a:p+k+(dU x).length<=900
  .refine Z23 (yf m r (p+k+(dU x).length) (fun q f=>hS q<|ie _ f) a ⊥) fun us b e d c=>?_;refine⟨⟨x.1,x.2,p+k,p+k+(dU x).length⟩::us,b,?_,d,fun w hw=>?_⟩
   .show(if p+k+(dU x).length<=900 then _ else _)=_;rw[afk a];show _::toks (p+k+(dU x).length) (aV r) m=_;rw[e];rfl
   .rcases eQ.mp hw with rfl|hw
    .exact(fun h=>h.mid.1.1) (hS (k,x)<|∅)
    .exact c w hw
  .refine⟨[],⟨"bad",.non,p+k,p+k⟩,?_,rfl,fun w hw=>(nomatch hw)⟩
   show(if p+k+(dU x).length<=900 then _ else _)=_;rw[afl a];rfl
theorem nR(h:ci z=G):Sp (kN z)<|dU<|kN z:=by
 have h':=h;unfold ci at h';simp only[oR,abg,decide_eq_false_iff_not,aaH]at h'
 have:=Sp.name (lS z) (fun e=>h'.1<|lu<|by assumption) h'.2.2.1 (by assumption)
 rwa [<-zn]at this
theorem oq(h:lS z∈Dy):Sp (kS z)<|dU<|kS z:=by
 have:=Sp.sgn (lS z) h
 rwa [<-zn]at this
theorem LU(h:XU z):Sp ("text",.str z)<|dU ("text",.str z):=by
 have:=Sp.txt (lS z) (by exact h.1) h.2
 rwa [<-zn]at this
theorem GY(h:i.natAbs<10^18):Sp ("number",.int i)<|dU ("number",.int i):=Sp.num i h
theorem B9:∀z∈(["from","where","order","by","show","take","down","none","not","and","or"]:afr),lS z≠[]/\(∀c∈lS z,low c=G)/\oX z=G:=⊤
theorem uk(h:z∈(["from","where","order","by","show","take","down","none","not","and","or"]:afr)):Sp (kK z)<|dU<|kK z:=let⟨a,b,c⟩:=B9 z h;(by
  have:=Sp.key (lS z) a b (by assumption)
  rwa [<-zn]at this)
theorem kM:∀z∈(["=","<>","<","<=",">",">=",",",".","(",")"]:afr),lS z∈Dy:=⊤
theorem fh(h:z∈(["from","where","order","by","show","take","down","none","not","and","or"]:afr)):cl (kK z)=0:=by
 obtain⟨h1,h2,_⟩:=B9 z h;delta cl;rw[mm];cases e:z.cps.toList with
 |nil=>exact absurd e h1
 |cons a r=>
  have  := h2 a (by mright);show qr a=0;delta qr;rw[afk this]
theorem Cw(h:ci z=G):cl (kN z)=0:=by
 have h':=h;unfold ci at h';simp only[oR,abg,decide_eq_false_iff_not,aaH]at h';delta cl;rw[pP];cases e:z.cps.toList with
 |nil=>exact absurd (lu<|by rw[e];rfl) h'.1
 |cons a r=>
  have  := h'.2.2.1 a (by rw[e];simp);show qr a=0;delta qr;rw[afk this]
theorem XH:∀z∈(["=","<>","<","<=",">",">="]:afr),cl (kS z)=3:=⊤
theorem Iz(h:i.natAbs<10^18):cl ("number",.int i)=1:=by
 obtain⟨c,r,e,_,h1,h2,_⟩:=gu i;show(match cu i with|a::_=>qr a|[]=>5)=1
 delta qr;mright
theorem JY(z:Str):cl ("text",.str z)=2:=by
 rfl
def AS(p a:Iw):Prop:=a.1<=1/\(cl p.2=cl a.2->cl p.2=4\/cl p.2=0/\a.1=1)/\(a.1=0->cl p.2=4\/cl a.2=4)
def um:List Iw->Prop
 |[]=>True
 |[_]=>True
 |p::a::r=>AS p a/\um (a::r)
theorem um.weak:∀l:List Iw,um l->ux l
 |[],_=>trivial
 |[_],_=>trivial
 |p::a::r,h=>⟨fun b e=>(h.1.2.1 e).elim id fun z=>by simp_all,um.weak (a::r) h.2⟩
theorem um.tl(h:um<|p::r):um r:=by
 cases r with
 |nil=>trivial
 |cons a r=>exact h.2
theorem um.app:∀(a b:List Iw),um a->um b->(∀r x y s,a=r++[x]->b=y::s->AS x y)->um (a++b)
 |[],b,_,hb,_=>hb
 |[p],[],_,_,_=>trivial
 |[p],y::s,_,hb,h=>⟨h [] p y s rfl rfl,hb⟩
 |p::e::r,b,ha,hb,h=>⟨ha.1,um.app (e::r) b ha.2 hb fun d x y s e1 c=>h (p::d) x y s (by rw[e1];rfl) c⟩
structure Seg(l:List Iw)(k:Nat):Prop where
 h:∃x r,l=(k,x)::r/\cl x≠3
 t:∀r p,l=r++[p]->cl p.2≠3
 c:um l
 s:MJ l
theorem last_eq{a b:List Iw}(h:a++[x]=b++[y]):x=y:=by
 mright
theorem Seg.one(h:cl x≠3)(hs:Sp x<|dU x):Seg [(k,x)] k:=⟨⟨x,[],rfl,h⟩,fun r p e=>by
 have  := last_eq (a:=[]) e;rw[<-this];exact h,trivial,fun p b=>by mright⟩
theorem Seg.app(A:Seg a k)(B:Seg b k')(h:∀x y:Iw,y.1=k'->cl x.2≠3->cl y.2≠3->(∃r,a=r++[x])->(∃s,b=y::s)->AS x y):Seg (a++b) k:=by
 obtain⟨x,r,rfl,l⟩:=A.h;obtain⟨y,s,rfl,j⟩:=B.h;refine⟨⟨x,r++(k',y)::s,rfl,l⟩,fun d p e=>?_,um.app _ _ A.c B.c fun d g o s' e1 n=>?_,fun p i=>(BY.mp i).elim (A.s p)<|B.s p⟩
 .obtain⟨t,q,f⟩:∃t q,(k',y)::s=t++[q]:=⟨_,_,(aa7<|∅).symm⟩;have m:=B.t t q f;rw[f,<-aaE]at e;rw[<-last_eq e];exact m
 .have h1:=A.t d g e1;cases n;exact h g (k',y) rfl h1 j ⟨d,e1⟩ ⟨s,rfl⟩
theorem Seg.key(B:Seg b 1)(h:cl x=0)(hs:Sp x<|dU x):Seg ((k,x)::b) k:=
 Seg.app (Seg.one (by rw[h];decide) hs) B fun p y h1 h2 f _ _=>⟨by simp_all,fun e=>by
  rename_i d _;obtain⟨r,c⟩:=d;have  := last_eq (a:=[]) c
  lia,fun z=>by mright⟩
theorem Seg.mid(A:Seg a k)(B:Seg ((1,x)::b) 1)(h:cl x=0):Seg (a++(1,x)::b) k:=
 Seg.app A B fun p y h1 h2 d _ c=>by
  obtain⟨s,e⟩:=c;cases e;exact⟨mK _,fun e=>.inr ⟨e.trans h,rfl⟩,fun z=>absurd z aeh⟩
theorem Seg.cm(A:Seg a k)(B:Seg b k')(j:k'<=1)(h:cl x=4)(hs:Sp x<|dU x):Seg (a++(0,x)::b) k:=by
 have i:Seg ((0,x)::b) 0:=Seg.app (Seg.one (by rw[h];simp) hs) B fun p y h1 h2 f g _=>by
  obtain⟨r,c⟩:=g;have  := last_eq (a:=[]) c;rw[<-this];exact⟨by simp_all,fun _=>.inl h,fun _=>.inl h⟩
 exact Seg.app A i fun p y h1 h2 f _ d=>by
  obtain⟨s,e⟩:=d;cases e;exact⟨aa2 _,fun e=>.inl<|e.trans h,fun _=>.inr h⟩
theorem Seg.par(A:Seg a 0):Seg ((k,kS "(")::(a++[(0,kS ")")])) k:=by
 have h1:cl (kS "(")=4:=rfl;have h2:cl (kS ")")=4:=rfl;have c:Sp (kS "(")<|dU<|kS "(":=oq (kM _<|⊤);have f:Sp (kS ")")<|dU<|kS ")":=oq (kM _<|⊤);have A2:Seg (a++[(0,kS ")")]) 0:=Seg.app A (Seg.one ∎ f) fun p y _ _ _ _ b=>by
  obtain⟨s,e⟩:=b;cases e;exact⟨∅,fun e=>.inl<|e.trans h2,fun _=>.inr h2⟩
 exact Seg.app (Seg.one ∎ c) A2 fun p y b _ _ g _=>by
  obtain⟨r,d⟩:=g;have  := last_eq (a:=[]) d;rw[<-this];exact⟨by simp_all,fun _=>.inl h1,fun _=>.inl h1⟩
theorem Seg.opm(A:Seg a k)(B:Seg b 1)(h:cl x=3)(hs:Sp x<|dU x):Seg (a++(1,x)::b) k:=by
 obtain⟨g,r1,rfl,h1⟩:=A.h;obtain⟨i,r2,rfl,h2⟩:=B.h;refine⟨⟨g,r1++(1,x)::(1,i)::r2,rfl,h1⟩,fun d p e=>?_,um.app _ _ A.c ⟨⟨mK _,fun e=>absurd (e.symm.trans h) h2,fun z=>absurd z aeh⟩,B.c⟩ fun d o r s' e1 n=>?_,fun p l=>?_⟩
 .obtain⟨t,q,m⟩:∃t q,(1,i)::r2=t++[q]:=⟨_,_,(aa7<|∅).symm⟩;have f:=B.t t q m;have j:((k,g)::r1++(1,x)::t)++[q]=d++[p]:=by mright
  rw[<-last_eq j];exact f
 .have f:=A.t d o e1;cases n;exact⟨mK _,fun e=>absurd (e.trans h) f,fun z=>absurd z aeh⟩
 .rcases BY.mp l with z|z
  .exact A.s p z
  .rcases eQ.mp z with rfl|z
   .exact hs
   .exact B.s p z
theorem n0(h:ci z=G):cl (kN z)≠3:=by rw[Cw h];decide
theorem rN(h:ul p)(k:Nat):Seg (c9 k p) k:=Seg.cm (Seg.one (n0 h.1)<|nR h.1) (Seg.one (n0 h.2)<|nR h.2) ∅ rfl (oq<|kM "."<|⊤)
theorem Sde.seg{a:Sde}(h:a.Ok)(k:Nat):Seg (a.it k) k:=by
 cases a with
 |col a b=>exact rN (p:=(a,b)) h k
 |non=>exact Seg.one ∎ (uk<|⊤)
 |int i=>exact Seg.one (by rw[Iz h];decide)<|GY h
 |txt x=>exact Seg.one (by rw[JY];decide)<|LU h
theorem wO(b:Bool)(h:∀k,Seg (l k) k)(k:Nat):Seg (Eg k b l) k:=by
 cases b with
 |true=>exact(h 0).par
 |false=>exact h k
theorem Cn.seg{c:Cn}(h:c.Fit):∀k,Seg (c.it k) k:=by
 induction c with
 |test g a b=>exact fun k=>(Sde.seg h.2.1 k).opm (Sde.seg h.2.2 1) (XH g h.1)<|oq<|kM g<|(fun h=>by mright;lia) h.1
 |not c d=>exact fun k=>(wO _ (d h) 1).key rfl (uk<|⊤)
 |and a b i j=>exact fun k=>(wO _ (i h.1) k).mid ((wO _ (j h.2) 1).key rfl (uk<|⊤)) rfl
 |or a b i j=>exact fun k=>(i h.1 k).mid ((wO _ (j h.2) 1).key rfl (uk<|⊤)) rfl
theorem Lv(h:ul o.1)(k:Nat):Seg (gz k o) k:=by
 delta gz;split
 .exact(rN h k).mid (Seg.one ∎<|uk<|⊤) rfl
 .exact rN h k
theorem rm{f:Nat->β->List Iw}:∀(bs:List β)(b:β)(k:Nat),(∀x∈b::bs,∀k,Seg (f k x) k)->Seg (f k b++bi f bs) k
 |[],b,k,h=>by rw[bi,aaJ];exact h b ∅ k
 |b'::bs,b,k,h=>(h b ∅ k).cm (rm bs b' 1 fun x a=>h x<|ie _ a) (mK _) rfl (oq<|kM ","<|⊤)
theorem Qn.seg{q:Qn}(h:q.Fit):Seg q.it 0:=by
 have p:∀l,Seg l 1->Seg (l++Eb q.tk) 1:=fun l j=>by
  cases e:q.tk with
  |none=>show Seg (l++[]) 1;rw[aaJ];exact j
  |some i=>
   have f:=(h.tk i e).2;exact j.mid ((Seg.one (k:=1) (by rw[Iz f];decide)<|GY f).key (fh<|∅)<|uk<|∅) (fh<|∅)
 have g:Seg ((1,kK "show")::((c9 1 q.c++bi c9 q.cs)++Eb q.tk)) 1:=(p _<|rm q.cs q.c 1 fun x a k=>rN (vm h x a) k).key (fh<|∅) (uk<|∅);have b:Seg (EE q.os++(1,kK "show")::((c9 1 q.c++bi c9 q.cs)++Eb q.tk)) 1:=by
  cases e:q.os with
  |nil=>exact g
  |cons o os=>
   have r:Seg (gz 1 o++bi gz os) 1:=rm os o 1 fun x a k=>Lv (h.os x<|by rw[e];exact a) k;have r2:Seg ((1,kK "order")::(1,kK "by")::(gz 1 o++bi gz os)) 1:=(r.key (k:=1) (fh<|∅)<|uk<|∅).key (fh<|∅) (uk<|∅);exact r2.mid g (fh<|∅)
 have d:Seg (Jn q.cd++(EE q.os++(1,kK "show")::((c9 1 q.c++bi c9 q.cs)++Eb q.tk))) 1:=by
  cases e:q.cd with
  |none=>exact b
  |some c=>
   have r:Seg ((1,kK "where")::c.it 1) 1:=(Cn.seg (h.cd c e).1 1).key (fh<|∅) (uk<|∅);obtain⟨x,s,ex,_⟩:=b.h;have a:cl x=0:=by
    cases ho:q.os with
    |nil=>rw[ho]at ex;cases ex;exact fh ∅
    |cons o os=>rw[ho]at ex;cases ex;exact fh ∅
   show Seg (((1,kK "where")::c.it 1)++_) 1;rw[ex]at b⊢;exact r.mid b a
 have n:Seg (fX 1 q.s++bi fX q.ss) 1:=rm q.ss q.s 1 fun x a k=>(fun h k=>by
   delta fX;split
   .exact Seg.one (n0 h.1) (nR h.1)
   .exact(Seg.one (n0 h.2) (nR h.2)).key (Cw h.1) (nR h.1)) (vg h x a) k
 obtain⟨x,s,ex,_⟩:=d.h;have a:cl x=0:=by
  cases hc:q.cd with
  |none=>
   cases ho:q.os with
   |nil=>rw[hc,ho]at ex;cases ex;exact fh ∅
   |cons o os=>rw[hc,ho]at ex;cases ex;exact fh ∅
  |some c=>rw[hc]at ex;cases ex;exact fh ∅
 have m:Seg ((fX 1 q.s++bi fX q.ss)++(Jn q.cd++(EE q.os++(1,kK "show")::((c9 1 q.c++bi c9 q.cs)++Eb q.tk)))) 1:=by
  rw[ex]at d⊢;exact n.mid d a
 have:=m.key (k:=0) (fh (z:="from")<|∅) (uk<|∅)
 have e:q.it=(0,kK "from")::((fX 1 q.s++bi fX q.ss)++(Jn q.cd++(EE q.os++(1,kK "show")::((c9 1 q.c++bi c9 q.cs)++Eb q.tk)))):=by simp[Qn.it]
 rw[e];exact this
theorem gU(a b:List Kv):dZ (a++b)=dZ a+dZ b:=by simp[dZ]
theorem cnt_cons(x:Kv)(l:List Kv):dZ (x::l)=(Km x).toNat+dZ l:=by
 delta dZ
 grind
theorem sN(h:z∈(["from","where","order","by","show","take","down","none","and","or"]:afr)):Km (kK z)=η:=by revert z;trivial
theorem WN(z:Str):Km (kN z)=η:=by
 rfl
theorem Q7(h:z∈(["=","<>","<","<=",">",">=",",",".",")"]:afr)):Km (kS z)=η:=by revert z;trivial
theorem OO:Km (kK "not")=G:=⊤
theorem QY:Km (kS "(")=G:=⊤
theorem cnt_nil:dZ []=0:=rfl
theorem Sde.cnt(a:Sde):dZ a.w=0:=by
 cases a with
 |col a b=>rfl
 |non=>rfl
 |int i=>rfl
 |txt x=>rfl
theorem zX(b:Bool)(l:List Kv):dZ (xG b l)=b.toNat+dZ l:=by
 delta xG;cases b with
 |true=>simp[cnt_cons,gU,QY,Q7,cnt_nil]
 |false=>simp
theorem Cn.cnt{c:Cn}(h:c.Fit):dZ c.w=c.opened:=by
 induction c with
 |test g a b=>
  have e:Km (kS g)=η:=Q7 (by have:=h.1;mright;lia);simp[Cn.w,gU,cnt_cons,Sde.cnt,e,Cn.opened]
 |not c d=>simp[Cn.w,cnt_cons,zX,OO,Cn.opened,d h];lia
 |and a b i j=>simp[Cn.w,gU,cnt_cons,zX,sN,Cn.opened,i h.1,j h.2];lia
 |or a b i j=>simp[Cn.w,gU,cnt_cons,zX,sN,Cn.opened,i h.1,j h.2];lia
theorem oo{w:β->List Kv}(h:∀b,dZ (w b)=0):∀bs,dZ (cJ w bs)=0
 |[]=>rfl
 |b::bs=>by simp[cJ,cnt_cons,gU,Q7,h,oo h bs]
theorem Cm(p:bW):dZ (qW p)=0:=by unfold qW;split<;>trivial
theorem w8(p:bW):dZ (qO p)=0:=by rfl
theorem CY(o:bW×Bool):dZ (sZ o)=0:=by delta sZ;split<;>trivial
def Qn.opened(q:Qn):Nat:=match q.cd with
 |some c=>c.opened
 |none=>0
theorem Qn.cnt{q:Qn}(h:q.Fit):dZ q.w=q.opened:=by
 have h2:dZ (Nk q.cd)=q.opened:=by
  delta Qn.opened;cases e:q.cd with
  |none=>rfl
  |some c=>simp[Nk,cnt_cons,sN,Cn.cnt (h.cd c e).1]
 have b:dZ (Cv q.os)=0:=by cases q.os with|nil=>rfl|cons o os=>simp[Cv,cnt_cons,gU,sN,CY,oo CY]
 have a:dZ (Rr q.tk)=0:=by cases q.tk with|none=>rfl|some i=>rfl
 simp[Qn.w,cnt_cons,gU,sN,Cm,oo Cm,h2,b,a,w8,oo w8]
abbrev pB:FS:=Rf (vk (vk mO rfl) rfl) rfl
noncomputable abbrev s7(Lq0:afq)(v:Int)(O:afq)(q:Bool)(a c b:Option D):Sd:=[J<|.str<|aw Lq0,J<|.int v,J<|.str<|aw O,J<|.bl q,a,c,b]
theorem tP(i:Int)(n:Nat):aW i (n+1)=.int i::aW (i+1) n:=by
 delta aW;rw[List.range_succ_eq_map,aaV,ae5];congr 1
 .simp
 .refine aeA fun k _=>?_
  lia
theorem sp4:(lE ",.()").cps.toList=[44,46,40,41]:=⊤
theorem P5(c:Nat):rE (.str ⟨#[c]⟩) (.str ",.()")=.ok (.bl<|decide (c∈[44,46,40,41])):=by rw[jE,ub,sp4]
theorem Tu:ZK.cps.toList=(ads 26).map (·+97):=⊤
theorem Fx(c:Nat):rE (.str ⟨#[c]⟩) (.str "abcdefghijklmnopqrstuvwxyz")=.ok (.bl<|low c):=by
 rw[jE,ub];congr 2;rw[Tu];delta low;rw[<-Bool.decide_and];refine decide_eq_decide.mpr ?_;mright;constructor
 .lia
 .intro h;exact⟨c-97,by omega,by mright⟩
theorem MD:∀n:Nat,n<3->qX (.str " ") (.int (n:Int))=.ok (.str<|aw<|aaA n 32):=by
 intro n a
 have:n=0\/n=1\/n=2:=⊥
 rcases this with rfl|rfl|rfl<;>(rfl)
theorem zc(i:Int)(a:0<=i)(h1:i<3):qX (.str " ") (.int i)=.ok (.str<|aw<|aaA i.toNat 32):=by
 have:=MD i.toNat (by mright)
 grind
def pZ(c:Nat):Prop:=c≠32/\c∉[44,46,40,41]
def nq(c:Nat)(q:Bool):Bool:=if c=34 then !q else q
theorem wv(Lq0:afq)(v:Int)(O:afq)(q:Bool)(i c:Nat)(a:Option D)(h2:S (s7 Lq0 v O (nq c q) (J<|.int (i:Int)) (J<|.str ⟨#[c]⟩) a)=r):nh (DA (dC<|aH jp (ag 5)<|vC<|.str "\"") (rZ 3<|Oz<|ag 3) ld) S (s7 Lq0 v O q (J<|.int (i:Int)) (J<|.str ⟨#[c]⟩) a)=r:=by
 refine eH ?_ h2;delta nq;have e:jp (.str ⟨#[c]⟩) (.str<|"\"")=.ok (.bl<|(c=34)):=by rw[Jl,jg];congr 2;exact decide_eq_decide.mpr (mk_inj.trans<|∅)
 by_cases h:c=34
 .rw[afk h];exact .inl ⟨ao<|(e.trans<|by mright),rfl⟩
 .rw[afl h];exact .inr ⟨ao<|(e.trans<|by mright),rfl⟩
theorem Lf(Lq0:afq)(f:Lq0.length<=90000)(v:Int)(O:afq)(h:O.length<=900000)(q:Bool)(i c:Nat)(d:Lq0[i]?=J c)(b:nq c q=G\/pZ c)(g a:Option D):pB (s7 Lq0 v O q (J<|.int (i:Int)) g a)=.ok (.nx<|s7 Lq0 (v*48271%2147483647) (O++[c]) (nq c q) (J<|.int (i:Int)) (J<|.str ⟨#[c]⟩) a):=by
 refine aJ (au<|(qB Lq0 f i c d))<|wv Lq0 v O q i c a<|aJ (au<|bf (iH rfl rfl) rfl) ?_;have e:jp (.str ⟨#[c]⟩) (.str<|" ")=.ok (.bl<|(c=32)):=by rw[ZZ,jg];congr 2;exact decide_eq_decide.mpr (mk_inj.trans<|∅)
 have fin:rZ 2 (aH eZ (ag 2)<|ag 5) (s7 Lq0 (v*48271%2147483647) O (nq c q) (J<|.int i) (J<|.str ⟨#[c]⟩) a)=.ok (.nx<|s7 Lq0 (v*48271%2147483647) (O++[c]) (nq c q) (J<|.int i) (J<|.str ⟨#[c]⟩) a):=au<|fW rfl rfl (by simp;lia);generalize nq c q=q' at *;cases q' with
 |true=>assumption
 |false=>
  have b  := b.elim (fun z=>by cases z) id;exact(j0<|kW rfl (ao<|((P5 c).trans<|by rw[afm b.2]))).trans<|(j0<|kW rfl (ao<|(e.trans<|by rw[afm b.1]))).trans fin
theorem md(x m:Int)(h:0<m):0<=x%m/\x%m<m:=⟨aba _<|⊥,aaR _ h⟩
theorem Mf(Lq0:afq)(o:Lq0.length<=90000)(v:Int)(O:afq)(q:O.length<=900000)(i c:Nat)(m:Lq0[i]?=J c)(f:c∈[44,46,40,41])(p d:Option D):∃a b n,a<=1/\b<=1/\pB (s7 Lq0 v O η (J<|.int (i:Int)) p d)=.ok (.nx<|s7 Lq0 n (O++(aaA a 32++([c]++aaA b 32))) η (J<|.int (i:Int)) (J<|.str ⟨#[c]⟩) d):=by
 have e:c≠34:=fun z=>by rw[z]at f;contradiction
 have j:nq c η=η:=afl e;have l:=md (v*48271%2147483647/7) 2 ∎;have h:=md (v*48271%2147483647/14) 2 ∎;refine⟨(v*48271%2147483647/7%2).toNat,(v*48271%2147483647/14%2).toNat,v*48271%2147483647,⊥,⊥,?_⟩;refine aJ (au<|ae rfl rfl (qB Lq0 o i c m))<|wv Lq0 v O η i c d<|aJ (au<|bf (iH rfl rfl) rfl) ?_;rw[j];have k:mQ (qN<|lP<|ag 3) (dC<|aH rE (ag 5)<|vC<|.str ",.()") (s7 Lq0 (v*48271%2147483647) O η (J<|.int (i:Int)) (J<|.str ⟨#[c]⟩) d)=.ok G:=kW rfl (ao<|((P5 c).trans<|by grind));refine(a8 k).trans ?_;have g:=fW (Y:=s7 Lq0 (v*48271%2147483647) O η (J<|.int i) (J<|.str ⟨#[c]⟩) d) (fW (fW (φ:=ag 2) (ψ:=aH qX (vC<|.str " ")<|aH gk (aH lO (ag 1)<|vC<|.int 7)<|vC<|.int 2) rfl ((zc _ l.1<|⊥)) (by simp;lia)) (ψ:=ag 5) rfl (by simp;lia)) (ψ:=aH qX (vC<|.str " ")<|aH gk (aH lO (ag 1)<|vC<|.int 14)<|vC<|.int 2) ((zc _ h.1<|⊥)) (by simp;lia);refine(au g).trans ?_;simp
theorem Mn(Lq0:afq)(h:Lq0.length<=90000)(v:Int)(O:afq)(C:O.length<=900000)(i p n:Nat)(t:Lq0[i+1]?=J 32)(h1:Lq0[i]?=J p)(h2:Lq0[i+2]?=J n)(A d:Option D):∃r y g,r<=2/\(low p=G->low n=G->1<=r)/\pB (s7 Lq0 v O η (J<|.int ((i+1:Nat):Int)) A d)=.ok (.nx<|s7 Lq0 y (O++aaA r 32) η (J<|.int ((i+1:Nat):Int)) (J<|.str ⟨#[32]⟩) g):=by
 have q:=md (v*48271%2147483647/7) 3 ∎;generalize hw:v*48271%2147483647/7%3=w at q;have e:jp (.str ⟨#[32]⟩) (.str<|lE " ")=.ok (.bl G):=by rw[jE,ZZ,jg];simp
 have o:=qB Lq0 h i p h1;have s:=qB Lq0 h (i+2) n h2;have e1:aH cR (ag 0) (aH zI (ag 4)<|vC<|.int 1) (s7 Lq0 (v*48271%2147483647) O η (J<|.int ((i+1:Nat):Int)) (J<|.str ⟨#[32]⟩) d)=.ok (.str ⟨#[p]⟩):=ae rfl (sC rfl rfl) (by rw[show((i+1:Nat):Int)-1=(i:Int) by lia];exact o);have x:aH cR (ag 0) (aH eZ (ag 4)<|vC<|.int 1) (s7 Lq0 (v*48271%2147483647) O η (J<|.int ((i+1:Nat):Int)) (J<|.str ⟨#[32]⟩) d)=.ok (.str ⟨#[n]⟩):=ae rfl (ir rfl rfl) (by rw[show((i+1:Nat):Int)+1=((i+2:Nat):Int) by lia];exact s);have j:=wY (ae e1 (ψ:=vC<|.str "abcdefghijklmnopqrstuvwxyz") rfl (Fx p))<|ae x (ψ:=vC<|.str "abcdefghijklmnopqrstuvwxyz") rfl (Fx n);generalize B:(low p&&low n)=b at j;have m:∃r:Nat,r<=2/\(b=G->1<=r)/\cR (.lst [.int 0,.int 1,.int 2]) (.int<|if w > (if b=G then 1 else 0)then w else(if b=G then 1 else 0))=.ok (.int (r:Int)):=by
  have:w=0\/w=1\/w=2:=⊥
  cases b<;>rcases this with rfl|rfl|rfl
  .exact⟨0,⊥,(fun z=>by cases z),rfl⟩
  .exact⟨1,⊥,(fun z=>by cases z),rfl⟩
  .exact⟨2,⊥,(fun z=>by cases z),rfl⟩
  .exact⟨1,⊥,fun _=>⊥,rfl⟩
  .exact⟨1,⊥,fun _=>⊥,rfl⟩
  .exact⟨2,⊥,fun _=>⊥,rfl⟩
 refine Z13 m fun r k f u=>?_;refine⟨r,v*48271%2147483647,J<|.bl b,k,fun a c=>f<|by rw[<-B,a,c];rfl,?_⟩;refine aJ (au<|ae rfl rfl (qB Lq0 h (i+1) 32 t))<|wv Lq0 v O η (i+1) 32 d<|aJ (au<|bf (iH rfl rfl) rfl) ?_;have l:mQ (qN<|lP<|ag 3) (dC<|aH rE (ag 5)<|vC<|.str ",.()") (s7 Lq0 (v*48271%2147483647) O η (J<|.int ((i+1:Nat):Int)) (J<|.str ⟨#[32]⟩) d)=.ok η:=kW rfl (ao<|((P5 32).trans rfl));refine(j0 l).trans<|(aJ (au j)<|au<|fW rfl (ae rfl (ae rfl (af rfl (by rw[hw];rfl)) u) (MD r<|⊥)) (by simp;lia))
inductive Pw:Bool->afq->Bool->Prop
 |nil (q:Bool):Pw q [] q
 |cons {c:Nat} {w:afq} {q q':Bool} (h:nq c q=G\/pZ c) (r:Pw (nq c q) w q'):Pw q (c::w) q'
theorem Na(Lq0:afq)(k:Lq0.length<=90000)(n:Nat)(f:Option D):∀(w A B O:afq)(q a:Bool)(v:Int)(d b:Option D),Lq0=A++(w++B)->Pw q w a->O.length+w.length<=900000->∃j g i,cZ (.one 4) pB (aW (A.length:Int)<|w.length+n) (s7 Lq0 v O q d b f)=cZ (.one 4) pB (aW ((A.length+w.length:Nat):Int) n) (s7 Lq0 j (O++w) a g i f)
 |[],A,B,O,q,a,v,d,b,hL,hP,hO=>by
  cases hP;exact⟨v,d,b,∅⟩
 |c::w,A,B,O,q,a,v,d,b,hL,hP,hO=>by
  cases hP with
  |cons h r=>
   simp only[aaS]at hO;have l:Lq0[A.length]?=c:=by rw[hL];simp
   refine Z31 (Na Lq0 k n f w (A++[c]) B (O++[c]) (nq c q) a (v*48271%2147483647) (J<|.int A.length) (J<|.str ⟨#[c]⟩) (by rw[hL];simp) r (by simp;lia)) fun j g i e=>?_;refine⟨j,g,i,?_⟩;have s:=Lf Lq0 k v O ⊥ q A.length c l h b f;rw[aaS,show w.length+1+n=(w.length+n)+1 by lia,tP];rw[LX,acC]at e;refine(gj s).trans ?_;rw[show(A.length:Int)+1=((A.length+1:Nat)) by rfl,e];rw[aaE,List.singleton_append,show A.length+1+w.length=A.length+(w.length+1) by lia]
theorem tK:∀(w:afq),(∀c∈w,c≠34/\pZ c)->Pw η w η
 |[],_=>.nil _
 |c::w,h=>by
  have a:=h c ∅;have e:nq c η=η:=afl a.1;refine .cons (.inr a.2) ?_;rw[e];exact tK w fun d hd=>h d<|ie _ hd
theorem Es:∀(T:afq),Pw G (eN T++[34]) η
 |[]=>.cons (.inr ⟨∎,∎⟩)<|.nil _
 |c::r=>by
  have b:=Es r;by_cases a:c=34
  .subst a;exact .cons (.inr ⟨∎,∎⟩) (.cons (.inr ⟨∎,∎⟩) b)
  .have:eN (c::r)=c::eN r:=by simp[eN,a]
   rw[this];have e:nq c G=G:=afl a;refine .cons (.inl e) ?_;rw[e];exact b
theorem IM(h:low c=G):c≠34/\pZ c:=by
 delta low at h;simp at h;refine⟨⊥,⊥,?_⟩;simp;lia
theorem Ix(h:j7 c=G):c≠34/\pZ c:=by
 delta j7 at h;simp at h;refine⟨⊥,⊥,?_⟩;simp;lia
theorem DV(w:afq)(h:w∈Dy):(∀c∈w,c≠34/\pZ c)\/(∃c,w=[c]/\c∈[44,46,40,41]):=by
 simp only[Dy,eQ,aaz,or_false]at h;rcases h with rfl|rfl|rfl|rfl|rfl|rfl|rfl|rfl|rfl|rfl
 .refine .inl ?_;intro c a;simp at a;rcases a with rfl|rfl<;>exact⟨∎,∎,∎⟩
 .refine .inl ?_;intro c a;simp at a;rcases a with rfl|rfl<;>exact⟨∎,∎,∎⟩
 .refine .inl ?_;intro c a;simp at a;rcases a with rfl|rfl<;>exact⟨∎,∎,∎⟩
 .refine .inl ?_;intro c a;simp at a;rcases a with rfl;exact⟨∎,∎,∎⟩
 .refine .inl ?_;intro c a;simp at a;rcases a with rfl;exact⟨∎,∎,∎⟩
 .refine .inl ?_;intro c a;simp at a;rcases a with rfl;exact⟨∎,∎,∎⟩
 .refine .inr ?_;exact⟨_,rfl,∎⟩
 .refine .inr ?_;exact⟨_,rfl,∎⟩
 .refine .inr ?_;exact⟨_,rfl,∎⟩
 simp
theorem Sp.way(h:Sp x w):Pw η w η\/(∃c,w=[c]/\c∈[44,46,40,41]):=by
 cases h with
 |key w f h b=>exact .inl<|tK _ fun c a=>IM<|h c a
 |name w f h b=>exact .inl<|tK _ fun c a=>IM<|h c a
 |num i h=>
  refine Z25 (gu i) fun c r e b a _ _=>?_;rw[e];refine .inl (tK _ fun d hd=>?_);rcases eQ.mp hd with rfl|hd
  .rw[ac1,decide_eq_true_eq]at a;rcases a with a|rfl
   .exact Ix a
   .exact⟨∎,by omega,∎⟩
  .exact Ix (b d hd)
 |txt T g h=>exact .inl<|.cons (.inl rfl)<|Es T
 |sgn y h=>exact(DV _ h).imp (tK _) id
theorem Sp.low_all(h:Sp x w)(e:w=a::r)(d:low a=G):∀c∈w,low c=G:=by
 cases h with
 |key w k h f=>exact h
 |name w k h f=>exact h
 |num i h=>refine Z25 (gu i) fun c g j _ _ b _=>?_;mright
 |txt T l h=>cases e;exact absurd d ∎
 |sgn y h=>obtain⟨c,g,j,b,_⟩:=xk _ h;mright
theorem Vi(h:qr a=0):low a=G:=by
 delta qr at h;by_cases h1:low a=G
 .exact h1
 .rw[afl h1]at h;cbv
  .nofun
  .cbv
   .nofun
   .cbv<;>nofun
abbrev rp(k:Nat):afq:=aaA k 32
theorem Vy(Lq0:afq)(V:Lq0.length<=90000):∀(l:List Iw)(A O:afq)(v:Int)(t i n:Option D),Lq0=A++tx l->um l->MJ l->(∀p∈l,p.1<=1)->(∀p r,l=p::r->p.1=1->A≠[])->O.length+3*(tx l).length<=800000 ->
  ∃(w:List Iw)(m:Nat)(C:Int)(p4 p5 p6:Option D),cZ (.one 4) pB (aW (A.length:Int) (tx l).length) (s7 Lq0 v O η t i n)=.ok (.nx<|s7 Lq0 C (O++(tx w++rp m)) η p4 p5 p6)/\w.map abd=l.map abd/\ux w/\(tx w).length+m<=3*(tx l).length/\∀p r,l=p::r->∃k' r',w=(k',p.2)::r'/\(k'=0->p.1=1->∀B a,A=B++[a]->low a=G->cl p.2≠0)
 |[],A,O,v,t,i,n,hL,hC,hS,hk,hA,hO=>⟨[],0,v,t,i,n,by simp[tx];rfl,rfl,trivial,by simp[tx],fun p r e=>(nomatch e)⟩
 |(k,x)::r,A,O,v,t,i,n,hL,hC,hS,hk,hA,hO=>by
  have hx:=hS (k,x) ∅;refine Z23 (Bd hx) fun c0 w' S N _=>?_;have hw1:1<=(dU x).length:=by rw[S];simp
  have P:(tx<|(k,x)::r).length=k+((dU x).length+(tx r).length):=by simp[tx]
  rw[P]at hO⊢;have g:Lq0=A++(rp k++(dU x++tx r)):=hL
  obtain⟨r0,F,I,E,j,hr0,hr1,e1⟩:∃(r0:Nat)(F:Int)(I E j:Option D),r0<=2*k/\(k=1->∀B a,A=B++[a]->low a=G->low c0=G->1<=r0)/\cZ (.one 4) pB (aW (A.length:Int)<|k+((dU x).length+(tx r).length)) (s7 Lq0 v O η t i n)=cZ (.one 4) pB (aW ((A.length+k:Nat):Int)<|(dU x).length+(tx r).length) (s7 Lq0 F (O++rp r0) η I E j):=by
   have H:k<=1:=hk (k,x) ∅
   have:k=0\/k=1:=⊥
   rcases this with rfl|rfl
   .exact⟨0,v,t,i,n,⊥,(fun z=>by cases z),∅⟩
   .obtain⟨B,a,q⟩:∃B a,A=B++[a]:=⟨_,_,(aa7<|hA (1,x) r rfl rfl).symm⟩;have W:Lq0[B.length]?=J a:=by rw[g,q];simp
    have h1:Lq0[B.length+1]?=J 32:=by
     rw[g,q,aaI<|∅];simp
    have h2:Lq0[B.length+2]?=J c0:=by
     rw[g,q,S,aaI<|∅];simp
    refine Z33 (Mn Lq0 V v O ⊥ B.length a c0 h1 W h2 i n) fun r0 C o6' u d e=>?_;refine⟨r0,C,J<|.int ((B.length+1:Nat):Int),J<|.str ⟨#[32]⟩,o6',⊥,fun _ B' h eq T X=>d ?_ X,?_⟩
    .have:a=h:=by
      have:=afp List.getLast?<|q.symm.trans eq
      simpa using this
     rw[this];exact T
    .have hAl:A.length=B.length+1:=by rw[q];simp
     rw[hAl,show 1+((dU x).length+(tx r).length)=((dU x).length+(tx r).length)+1 by lia,tP];refine(gj (Y:=s7 Lq0 v O η t i n) e).trans ?_;rw[show((B.length+1:Nat):Int)+1=((B.length+1+1:Nat):Int) by lia]
  have K:(O++rp r0).length=O.length+r0:=∅
  have R:(A++rp k).length=A.length+k:=∅
  obtain⟨a,b,v2,t4,t5,t6,T,hb,e2⟩:∃(a b:Nat)(v2:Int)(t4 t5 t6:Option D),a<=1/\b<=1/\cZ (.one 4) pB (aW ((A.length+k:Nat):Int)<|(dU x).length+(tx r).length) (s7 Lq0 F (O++rp r0) η I E j)=cZ (.one 4) pB (aW ((A.length+k+(dU x).length:Nat):Int) (tx r).length) (s7 Lq0 v2 (O++rp r0++(rp a++(dU x++rp b))) η t4 t5 t6):=by
   rcases hx.way with hP|⟨c,ec,X⟩
   .obtain⟨C,p4,p5,e⟩:=Na Lq0 V (tx r).length j (dU x) (A++rp k) (tx r) (O++rp r0) η η F I E (by rw[g];simp) hP (by rw[K];lia);rw[R]at e;exact⟨0,0,C,p4,p5,j,⊥,⊥,by rw[e];simp⟩
   .have hc':Lq0[A.length+k]?=J c:=by
     rw[g,ec,<-aaE,<-R,aaI<|mK _];simp
    refine Z33 (Mf Lq0 V F (O++rp r0) (by rw[K];lia) (A.length+k) c hc' X E j) fun a b C T hb e=>?_;refine⟨a,b,C,J<|.int ((A.length+k:Nat):Int),J<|.str ⟨#[c]⟩,j,T,hb,?_⟩;rw[ec,acC,show 1+(tx r).length=(tx r).length+1 by lia,tP];refine(gj (Y:=s7 Lq0 F (O++rp r0) η I E j) e).trans ?_;rw[show((A.length+k:Nat):Int)+1=((A.length+k+1:Nat):Int) by lia]
  have hO2:(O++rp r0++(rp a++(dU x++rp b))).length=O.length+r0+(a+((dU x).length+b)):=by simp;lia
  have Q:(A++(rp k++dU x)).length=A.length+k+(dU x).length:=by simp;lia
  obtain⟨w,m,v3,u4,u5,u6,e3,hw,hC',M,hh⟩:=Vy Lq0 V r (A++(rp k++dU x)) (O++rp r0++(rp a++(dU x++rp b))) v2 t4 t5 t6 (by rw[g];simp) hC.tl (fun p hp=>hS p<|ie _ hp) (fun p hp=>hk p<|ie _ hp) (fun p s e h1 e'=>by
   have:=afp acR e'
   rw[Q,abz]at this;lia) (by rw[hO2];lia)
  rw[Q]at e3;have o:=e1.trans<|e2.trans e3;have head:r0+a=0->k=1->∀B h,A=B++[h]->low h=G->cl x≠0:=fun W H B h q d f=>by
   have:=hr1 H B h q d (Vi<|by rw[<-N];exact f)
   lia
  cases u:r with
  |nil=>
   subst u
   have:w=[]:=by simpa using hw
   subst this;refine⟨[(r0+a,x)],b+m,v3,u4,u5,u6,?_,rfl,trivial,?_,fun p s e=>by cases e;exact⟨_,_,rfl,head⟩⟩
   .rw[o];congr 3;simp[tx,s7,<-acf,mk_inj]
   .simp[tx]at M⊢;lia
  |cons p' s=>
   obtain⟨k2,s',el,hk2⟩:=hh p' s u;subst el;refine⟨(r0+a,x)::(b+k2,p'.2)::s',m,v3,u4,u5,u6,?_,?_,⟨fun W f=>?_,?_⟩,?_,fun p s e=>by cases e;exact⟨_,_,rfl,head⟩⟩
   .rw[<-u,o];congr 3;simp[tx,s7,<-acf,mk_inj]
   .rw[<-u];show x::p'.2::s'.map abd=x::r.map abd;rw[<-hw];rfl
   .have hk0:k2=0:=by have:b+k2=0:=W;lia
    have hR:AS (k,x) p':=by rw[u]at hC;exact hC.1
    have f:cl x=cl p'.2:=f;have hp1:=hR.1
    have:p'.1=0\/p'.1=1:=⊥
    rcases this with z|z
    .exact(hR.2.2 z).elim id fun y=>f.trans y
    .rcases hR.2.1 f with y|⟨y,_⟩
     .exact y
     .exfalso
      obtain⟨B,h,eB⟩:∃B h,dU x=B++[h]:=⟨_,_,(aa7<|by rw[S];simp).symm⟩;have y':qr c0=0:=by rw[<-N];exact y
      have d:=hx.low_all S (Vi y') h (by show h∈dU x;rw[eB];simp);exact hk2 hk0 z (A++(rp k++B)) h (by rw[eB];simp) d (by rw[<-f];exact y)
   .cases s' with
    |nil=>trivial
    |cons s1 s2=>exact hC'
   .rw[<-u];simp[tx]at M⊢;lia
theorem um.le:∀(l:List Iw),um l->(∀p r,l=p::r->p.1<=1)->∀p∈l,p.1<=1
 |[],_,_,p,hp=>(nomatch hp)
 |[x],_,h,p,hp=>by mright
 |x::y::r,hC,h,p,hp=>by
  rcases eQ.mp hp with rfl|hp
  .exact h _ _ rfl
  .exact um.le (y::r) hC.2 (fun b a e=>by cases e;exact hC.1.1) p hp
theorem Qz{q:Qn}(h:q.Fit)(v:Int):∃(l:List Iw)(m:Nat),mP [.str<|aw<|tx q.it,.int v]=.ok (.str<|aw<|tx l++rp m)/\l.map abd=q.w/\ux l/\(tx l).length+m<=57010:=by
 have i:=Qn.seg h;obtain⟨x,r,j,_⟩:=i.h;have k:(tx q.it).length<=19000:=by rw[xI];exact SS h
 obtain⟨F,m,a,n,o,t,e,hw,B,d,A⟩:=Vy (tx q.it) ⊥ q.it [] [] v U U U rfl i.c i.s (um.le _ i.c fun p b e=>by rw[j]at e;cases e;exact aa2 _) (fun p b e h1=>by rw[j]at e;cases e;cases h1) (by simp;lia);obtain⟨f,b,C,_⟩:=A _ _ j;subst C;have D:=md a 2 ∎;have u:=md (a/2) 2 ∎;have e:cZ (.one 4) pB (aW 0 (tx q.it).length) (s7 (tx q.it) v [] η U U U)=.ok (.nx<|s7 (tx q.it) a (tx ((f,x)::b)++rp m) η n o t):=e;have z:p9 (ak (aI cr<|ak (ag 0) aQ) aQ) (s7 (tx q.it) v [] η U U U)=.ok (aW 0 (tx q.it).length):=Ps (lf rfl (jo _<|⊥)) ⊥;refine⟨((a%2).toNat+f,x)::b,m+(a/2%2).toNat,?_,?_,?_,?_⟩
 .have g:=fW (Y:=s7 (tx q.it) a (tx ((f,x)::b)++rp m) η n o t) (fW (φ:=aH qX (vC<|.str " ")<|aH gk (ag 1)<|vC<|.int 2) (ψ:=ag 2) (ae rfl (bf rfl rfl) (zc _ D.1<|⊥)) rfl (by simp at d⊢;lia)) (ψ:=aH qX (vC<|.str " ")<|aH gk (aH lO (ag 1)<|vC<|.int 2)<|vC<|.int 2) (ae rfl (bf (f6 rfl rfl) rfl) (zc _ u.1<|by grind)) (by simp at d⊢;grind);have E:tx (((a%2).toNat+f,x)::b)++rp (m+(a/2%2).toNat)=rp (a%2).toNat++(tx ((f,x)::b)++rp m)++rp (a/2%2).toNat:=by simp[tx,<-acf]
  rw[E];exact aq<|aJ rfl (aJ rfl (aJ (kU z e)<|ar g))
 .rw[<-q.it_w,<-hw];rfl
 .cases b with
  |nil=>trivial
  |cons y s=>exact B
 .simp[tx]at d⊢;grind
theorem Sp.chars(h:Sp x w):(∀c∈w,32<=c/\c<=126)/\∃B c,w=B++[c]/\33<=c/\c<=126:=by
 have m:∀c,low c=G->33<=c/\c<=126:=fun c h=>by delta low at h;mright;lia
 have l:∀c,j7 c=G->33<=c/\c<=126:=fun c h=>by delta j7 at h;mright;lia
 have f:∀w:afq,w≠[]->(∀c∈w,33<=c/\c<=126)->(∀c∈w,32<=c/\c<=126)/\∃B c,w=B++[c]/\33<=c/\c<=126:=fun w g hw=>by
  have e:=aa7 g;exact⟨fun c b=>by have:=hw c b;lia,_,_,e.symm,hw _<|List.getLast_mem g⟩
 cases h with
 |key w g h k=>exact f _ g fun c b=>m c<|h c b
 |name w g h k=>exact f _ g fun c b=>m c<|h c b
 |num i h=>
  refine Z25 (gu i) fun c r e k b _ _=>?_;rw[e];refine f _ ∅ fun d hd=>?_;rcases eQ.mp hd with rfl|hd
  .rw[ac1,decide_eq_true_eq]at b;rcases b with b|rfl
   .exact l _ b
   .decide
  .exact l d (k d hd)
 |txt T o h=>
  have hd:∀c∈eN T,32<=c/\c<=126:=by
   clear o;induction T with
   |nil=>intro c b;simp[eN]at b
   |cons a r j=>
    intro c b;have j:=j fun c b=>h c<|ie _ b;by_cases n:a=34
    .subst n
     have:eN (34::r)=34::34::eN r:=by simp[eN]
     rw[this]at b;simp only[eQ]at b;rcases b with rfl|rfl|b
     .decide
     .decide
     .exact j c b
    .have:eN (a::r)=a::eN r:=by simp[eN,n]
     rw[this]at b;rcases eQ.mp b with rfl|b
     .exact h c ∅
     .exact j c b
  refine⟨fun c b=>?_,34::eN T,34,rfl,∎⟩;mright
  grind
 |sgn y h=>
  have:∀y∈Dy,y≠[]/\∀c∈y,33<=c/\c<=126:=∎
  exact f _ (this _ h).1 (this _ h).2
theorem zh:∀l:List Iw,MJ l->∀c∈tx l,32<=c/\c<=126
 |[],_,c,hc=>(nomatch hc)
 |(k,x)::r,hS,c,hc=>by
  simp only[tx,BY,aeO]at hc;rcases hc with⟨_,rfl⟩|hc|hc
  .decide
  .exact(hS (k,x)<|∅).chars.1 c hc
  .exact zh r (fun p a=>hS p<|ie _ a) c hc
theorem CS:∀l:List Iw,MJ l->l≠[]->∃B c,tx l=B++[c]/\33<=c/\c<=126
 |[],_,h=>absurd rfl h
 |[(k,x)],hS,_=>by
  obtain⟨B,c,e,h⟩:=(hS (k,x)<|∅).chars.2;exact⟨rp k++B,c,by show rp k++(dU x++[])=_;rw[e];simp,h⟩
 |(k,x)::y::r,hS,_=>by
  obtain⟨B,c,e,h⟩:=CS (y::r) (fun p a=>hS p<|ie _ a) ∅;exact⟨rp k++(dU x++B),c,by show rp k++(dU x++tx (y::r))=_;rw[e];simp,h⟩
theorem Ua:∀c,c<127->33<=c->PyProof.Rows.spS ⟨#[c]⟩=η:=⊤
theorem JJ(l:List Iw)(m:Nat)(f:MJ l)(o:l≠[]):(aej<|aw<|tx l++rp m).length=(tx l).length:=by
 obtain⟨B,c,i,j,c1⟩:=CS l f o;have n:∀d∈(aw<|tx l++rp m).cps.toList,d<128:=fun d hd=>by
  rw[az]at hd;rcases BY.mp hd with z|z
  .have:=zh l f d z;lia
  .have:=aeO.mp z;lia
 refine Z14 (PyProof.Rows.rstrip_cut n) fun a p e h1 h2=>?_;have h:(aw<|tx l++rp m).length=(tx l).length+m:=by rw[bM];simp
 have g:∀k,(aw<|tx l++rp m).cps.getD k 0=(tx l++rp m).getD k 0:=fun k=>by simp[aw]
 have q:(tx l).length=B.length+1:=by rw[i];simp
 have:a=(tx l).length:=by
  rcases Nat.lt_trichotomy a (tx l).length with z|z|z
  .exfalso
   have:=h1 B.length ⊥ ⊥
   rw[g,i]at this;have b:(B++[c]++rp m).getD B.length 0=c:=by mright
   rw[b,Ua c ⊥ j]at this;cases this
  .exact z
  .exfalso
   rcases h2 with h2|h2
   .mright
   .rw[g]at h2;have b:(tx l++rp m).getD (a-1) 0=32:=by
     rw[adG,aaI<|⊥,ack,afk<|by grind];rfl
    rw[b]at h2;exact absurd h2 ⊤
 rw[e];show(aeP (aw<|tx l++rp m) 0 a).cps.size=_;delta aeP;rw[Array.size_extract,<-this];exact ad8 p
theorem same_str(k:Nat)(a:Str):cb (k+1) [.str a,.str a]=.ok (.bl G):=
 aq (r:=nO (cb k) [J<|.str a,J<|.str a,U,U]) ((skip rfl).trans<|(skip rfl).trans<|(skip rfl).trans<|aS<|(a8 rfl).trans<|ar<|pH rfl ((ot rfl)))
theorem Lr(k:Nat)(b:Bool):cb (k+1) [.bl b,.bl b]=.ok (.bl G):=by
 have e:jp (.bl b) (.bl b)=.ok (.bl G):=by cases b<;>rfl
 have t:KF (dC<|aH OU (ag 1)<|vC<|.bl G) (dC<|aH OU (ag 1)<|vC<|.bl η) [J<|.bl b,J<|.bl b,U,U]=.ok G:=by
  cases b with
  |true=>rfl
  |false=>rfl
 exact aq<|(skip rfl).trans<|(skip rfl).trans<|aS<|(a8 t).trans<|ar<|pH rfl (e)
theorem same_int(k:Nat)(i:Int):cb (k+1) [.int i,.int i]=.ok (.bl G):=
 aq (r:=nO (cb k) [J<|.int i,J<|.int i,U,U]) ((skip rfl).trans<|(skip rfl).trans<|(skip rfl).trans<|(skip rfl).trans<|ar<|pH rfl ((zf.trans<|∅)))
theorem vL(a b:D):∀(xs:afy)(c d:Option D),(∀x∈xs,F [x,x]=.ok (.bl G))->∃p q,cZ (.tup [2,3]) (DA (qN<|lP<|aI F<|ak (ag 2)<|ak (ag 3) aQ) (pX<|vC<|.bl η) ld) (pN xs xs) [J a,J b,c,d]=.ok (.nx [J a,J b,p,q])
 |[],c,d,_=>⟨c,d,rfl⟩
 |x::r,c,d,h=>by
  obtain⟨p,q,e⟩:=vL a b r (x) (x) fun y f=>h y<|ie _ f;refine⟨p,q,?_⟩;show cZ (.tup [2,3]) _ (.tup [x,x]::pN r r) _=_;rw[sS];show((DA (qN<|lP<|aI F<|ak (ag 2)<|ak (ag 3) aQ) (pX<|vC<|.bl η) ld) [a,b,x,x]).bind _=_
  have:(DA (qN<|lP<|aI F<|ak (ag 2)<|ak (ag 3) aQ) (pX<|vC<|.bl η) ld) [a,b,x,x]=.ok (.nx [a,b,x,x]):=(j0<|qj<|eV ((h x<|∅)) rfl).trans rfl
  rw[this,am,v9,e]
theorem b9(k:Nat)(xs:afy)(h:∀x∈xs,cb k [x,x]=.ok (.bl G)):cb (k+1) [.tup xs,.tup xs]=.ok (.bl G):=by
 obtain⟨p,q,e⟩:=vL (.tup xs) (.tup xs) xs U U h;exact aq<|aS<|((skip<|lR rfl (ao<|(S7.trans<|∅))).trans<|aJ (e) rfl)
theorem Sde.same(a:Sde)(k:Nat):cb (k+2) [a.d,a.d]=.ok (.bl G):=by
 cases a with
 |col a b=>exact b9 _ _ fun x c=>by mright;rcases c with rfl|rfl|rfl<;>exact same_str _ _
 |non=>rfl
 |int i=>exact b9 _ _ fun x c=>by mright;rcases c with rfl|rfl;exact rfl;exact same_int _ _
 |txt x=>exact b9 _ _ fun x c=>by mright;rcases c with rfl|rfl<;>exact same_str _ _
theorem Cn.same(c:Cn):∀k,c.sz+2<=k->cb k [c.d,c.d]=.ok (.bl G):=by
 induction c with
 |test g a b=>
  intro k e;have e:1+2<=k:=e;obtain⟨j,rfl⟩:∃j,k=j+3:=⟨k-3,⊥⟩;exact b9 _ _ fun x f=>by mright;rcases f with rfl|rfl|rfl|rfl;exact same_str _ _;exact same_str _ _;exact a.same _;exact b.same _
 |not c h=>
  intro k e;have e:1+c.sz+2<=k:=e;obtain⟨j,rfl⟩:∃j,k=j+2:=⟨k-2,⊥⟩;exact b9 _ _ fun x f=>by mright;rcases f with rfl|rfl;exact same_str _ _;exact h _ ⊥
 |and a b i j=>
  intro k e;have e:1+a.sz+b.sz+2<=k:=e;obtain⟨n,rfl⟩:∃j,k=j+2:=⟨k-2,⊥⟩;exact b9 _ _ fun x f=>by simp at f;rcases f with rfl|rfl|rfl;exact rfl;exact i _ ⊥;exact j _ ⊥
 |or a b i j=>
  intro k e;have e:1+a.sz+b.sz+2<=k:=e;obtain⟨n,rfl⟩:∃j,k=j+2:=⟨k-2,⊥⟩;exact b9 _ _ fun x f=>by simp at f;rcases f with rfl|rfl|rfl;exact rfl;exact i _ ⊥;exact j _ ⊥
theorem yD(p:bW)(k:Nat):cb (k+2) [j9 p,j9 p]=.ok (.bl G):=Sde.same (.col p.1 p.2) k
theorem Qn.same{q:Qn}(h:q.Fit):yZ [q.d,q.d]=.ok (.bl G):=by
 refine b9 99 _ fun x a=>?_;simp only[eQ,aaz,or_false]at a;rcases a with rfl|rfl|rfl|rfl|rfl|rfl
 .exact same_str _ _
 .refine b9 98 _ fun x a=>?_;obtain⟨p,_,rfl⟩:=abv.mp a;exact b9 97 _ fun x a=>by mright;rcases a with rfl|rfl<;>exact same_str _ _
 .delta Qn.cdD;cases e:q.cd with
  |none=>rfl
  |some c=>exact c.same 99 (by have:=(h.cd c e).2.1;lia)
 .refine b9 98 _ fun x a=>?_;obtain⟨o,_,rfl⟩:=abv.mp a;exact b9 97 _ fun x a=>by mright;rcases a with rfl|rfl;exact yD _ 95;exact Lr _ _
 .refine b9 98 _ fun x a=>?_;obtain⟨p,_,rfl⟩:=abv.mp a;exact yD _ 96
 .delta Qn.tkD;cases q.tk with
  |none=>rfl
  |some i=>exact same_int _ _
theorem Bv{q:Qn}(h:q.Fit)(hw:l.map abd=q.w):MJ l:=fun p c=>by
 have h1:p.2∈q.it.map abd:=by rw[q.it_w,<-hw];exact acm c
 obtain⟨b,a,e⟩:=abv.mp h1;rw[<-e];exact(Qn.seg h).s b a
theorem Gz{q:Qn}(h:q.Fit)(hw:l.map abd=q.w)(a:ux l)(b:(tx l).length+m<=80000):Toks (aw<|tx l++rp m)<|toks 0 (aV l) m:=by
 have:=Ld m (aV l) (CU m l (Bv h hw) a) (by rw[ww];simp;omega)
 rwa [ww]at this
theorem NA{q:Qn}(h:q.Fit)(hw:l.map abd=q.w)(a:ux l)(i:(tx l).length+m<=80000)(g:q.opened<=20)(n:(tx l).length<=900):calmO kx [.str<|aw<|tx l++rp m]=.ok q.d/\calmO gL [.str<|aw<|tx l++rp m]=.ok .non:=by
 have t:=Gz h hw a i;refine Z23 (wF m l 0 (by mright)) fun us b e p o=>?_;have j:Vs ⟨toks 0 (aV l) m,0,0⟩<|q.w++[kE]:=by
  show(toks 0 (aV l) m).map Tok.kv=_
  mright
 obtain⟨s',k⟩:=AF q h.ok (fun c f=>by have:=g;unfold Qn.opened at this;rw[f]at this;exact this) j rfl rfl;have r1:=A0 t;have r2:=GG t;mright
theorem LY{q:Qn}(h:q.Fit)(hw:l.map abd=q.w)(n:ux l)(u:(tx l).length+m<=80000)(o:¬(q.opened<=20/\(tx l).length<=900)):calmO kx [.str<|aw<|tx l++rp m]=.ok .non/\∃i:Nat,calmO gL [.str<|aw<|tx l++rp m]=.ok (.int i):=by
 have t:=Gz h hw n u;have r1:=A0 t;have r2:=GG t;obtain⟨s',v⟩:∃s',qP ⟨toks 0 (aV l) m,0,0⟩=.er s':=by
  by_cases x:(tx l).length<=900
  .obtain⟨us,b,e,g,a⟩:=wF m l 0 (by mright);rw[e];have hk  := afp Prod.fst g;refine yG hk (fun w j=>?_) ?_
   .have h1:w.kv∈us.map Tok.kv:=acm j;rw[a]at h1;obtain⟨p,k,s⟩:=abv.mp h1;have h2:=(Bv h hw p k).mid.1.1;rw[s]at h2;exact h2
   .rw[a,hw,Qn.cnt h];mright
  .obtain⟨us,b,e,g,a⟩:=yf m l 0 (Bv h hw) ∅ (by mright);rw[e];cases h:qP ⟨us++[b],0,0⟩with
   |er s'=>simp
   |ok d s'=>
    obtain⟨⟨⟨c,e,m,_⟩,_⟩,f⟩:=NK h;have e:us++[b]=c++s'.ts:=e;exfalso
    cases hs:s'.ts with
    |nil=>
     rw[hs,aaJ]at e;exact(m b<|by rw[<-e];simp).2 g
    |cons w r=>
     have hw:s'.hd=w:=by delta Sx.hd;rw[hs]
     rw[hw]at f
     have:w∈us++[b]:=by rw[e,hs];simp
     rcases BY.mp this with z|z
     .exact a w z f
     .rw[IF.mp z,g]at f;revert f
      trivial
 grind
theorem E4{q:Qn}(h:q.Fit):ud [q.cdD]=.ok (.int (q.opened:Nat)):=by
 delta Qn.cdD Qn.opened;cases e:q.cd with
 |none=>rfl
 |some c=>exact opened c 100 (by have:=(h.cd c e).2.1;lia)
abbrev lB:FS:=Rf (vk (vk (vk (vk (vk yq rfl) rfl) rfl) rfl) rfl) rfl
theorem oO{q:Qn}(h:q.Fit)(hw:l.map abd=q.w)(j:ux l)(n:(tx l).length+m<=80000)(b:Bool)(f:b=(decide (q.opened<=20)&&decide ((tx l).length<=900)))(S k r:Option D):∃p,lB [S,J q.d,J<|.str<|aw<|tx l++rp m,J<|.bl b,k,r]=.ok (.nx [S,J q.d,J<|.str<|aw<|tx l++rp m,J<|.bl b,k,p]):=by
 cases b with
 |false=>
  obtain⟨r1,i,r2⟩:=LY h hw j n (fun z=>by rw[afn z.1,afn z.2]at f;cases f);exact⟨J .non,aJ (au<|af (ac rfl rfl) r1)<|(a8<|Vw<|eV rfl rfl).trans<|(j0<|lR (ao<|ae rfl rfl rfl)<|ao<|ae (af (ac rfl rfl) r2) rfl rfl).trans rfl⟩
 |true=>
  have a:=f.symm;rw[oR,decide_eq_true_eq,decide_eq_true_eq]at a;obtain⟨r1,r2⟩:=NA h hw j n a.1 a.2;have hs:=Qn.same h;have o:=yg h;have g:(tx q.it).length<=19000:=by rw[xI];exact SS h
  refine⟨J q.d,aJ (au<|af (ac rfl rfl) r1)<|(j0<|qj<|eV rfl rfl).trans<|(j0<|lR (qj<|eV (af (ac rfl (ac rfl rfl)) hs) rfl)<|ao<|ae (af (ac rfl rfl) r2) rfl rfl).trans ?_⟩;have e1:dC (aH Mp (aI cr<|ak (aI jI<|ak (ag 1) aQ) aQ)<|vC<|.int 900) [S,J q.d,J<|.str<|aw<|tx l++rp m,J<|.bl G,k,J q.d]=.ok (decide ((tx q.it).length<=900)):=ao<|ae (lf (af (ac rfl rfl) o)<|jo _<|⊥) rfl (Gv.trans<|by congr 2;exact decide_eq_decide.mpr<|⊥);by_cases e:(tx q.it).length<=900
  .rw[afn e]at e1;have r3:=(NA h (l:=q.it) (m:=0) q.it_w (um.weak _ (Qn.seg h).c) ⊥ a.1 e).1;have e0:tx q.it++rp 0=tx q.it:=∅
   rw[e0]at r3;exact(j0<|kW e1<|qj<|eV (af (ac (af (ac (af (ac rfl rfl)<|shown h) rfl) r3)<|ac rfl rfl) hs) rfl).trans rfl
  .rw[afm e]at e1;exact(j0<|Bu e1).trans rfl
theorem law_true(f:List Int)(y:f.length<=63):Cj [.lst<|f.map D.int]=.ok (.bl G):=by
 obtain⟨q,B,h⟩:=F6 f;have g:=jD f 4 ∎;generalize cell f 4=v at g;obtain⟨x,ex,K,M⟩:=qx v 9 ∎ ∎;have o:(tx q.it).length<=19000:=by rw[xI];exact SS h
 obtain⟨l,m,j,hw,p,u⟩:∃(l:List Iw)(m:Nat),((v/3%2=1/\mP [.str<|aw<|tx q.it,.int<|x+1]=.ok (.str<|aw<|tx l++rp m))\/(v/3%2≠1/\tx l++rp m=tx q.it))/\l.map abd=q.w/\ux l/\(tx l).length+m<=80000:=by
  by_cases k:v/3%2=1
  .refine Z24 (Qz h<|x+1) fun l m e a b c=>?_;exact⟨l,m,.inl ⟨k,e⟩,a,b,⊥⟩
  .exact⟨q.it,0,.inr ⟨k,∅⟩,q.it_w,um.weak _ (Qn.seg h).c,⊥⟩
 have n:l≠[]:=fun e=>by rw[e]at hw;cases hw
 have A:=JJ l m (Bv h hw) n;refine aq (r:=yq [J<|.lst<|f.map D.int,U,U,U,U,U]) ?_;refine aJ (au<|af (ac rfl rfl) B) ?_;refine aJ (au<|af (ac rfl rfl)<|yg h) ?_;refine aJ (au<|ae (af (ac (ae rfl rfl (show cR q.d (.int 2)=.ok q.cdD from rfl)) rfl)<|E4 h) rfl Gv) ?_;refine eH (δ':=[J<|.lst<|f.map D.int,J q.d,J<|.str<|aw<|tx l++rp m,J<|.bl<|decide (q.opened<=20),U,U]) ?_ ?_
 .have eo:decide (((q.opened:Nat):Int)<=20)=decide (q.opened<=20):=decide_eq_decide.mpr ⊥;have t:dC (aH jp (aH gk (aH lO (aI gV<|ak (ag 0)<|ak (vC<|.int 4) aQ)<|vC<|.int 3)<|vC<|.int 2)<|vC<|.int 1) [J<|.lst<|f.map D.int,J q.d,J<|.str<|aw<|tx q.it,J<|.bl<|decide (((q.opened:Nat):Int)<=20),U,U]=.ok (decide (v/3%2=1)):=sV (bf (f6 (af (ac rfl (ac rfl rfl)) g) rfl) rfl) rfl;rw[<-eo];rcases j with⟨k,es⟩|⟨k,es⟩
  .exact .inl ⟨t.trans<|by rw[afn k],au<|af (ac rfl (ac (ir (af (ac (af (ac rfl (ac rfl rfl)) g)<|ac rfl rfl) ex) rfl) rfl)) es⟩
  .rw[es];exact .inr ⟨t.trans<|by rw[afm k],rfl⟩
 have H:EG (.str<|aw<|tx l++rp m)=.ok (.str<|aej<|aw<|tx l++rp m):=by
  show(if _ then _ else _)=_;rw[afk<|by rw[bM];simp;lia]
 have C:cr [.str<|aej<|aw<|tx l++rp m]=.ok (.int ((tx l).length:Int)):=by rw[HY,A,afk<|⊥]
 refine eH (δ':=[J<|.lst<|f.map D.int,J q.d,J<|.str<|aw<|tx l++rp m,J<|.bl<|decide (q.opened<=20)&&decide ((tx l).length<=900),U,U]) ?_ ?_
 .have t:dC (aH Ed (aI cr<|ak (zz EG<|ag 2) aQ)<|vC<|.int 900) [J<|.lst<|f.map D.int,J q.d,J<|.str<|aw<|tx l++rp m,J<|.bl<|decide (q.opened<=20),U,U]=.ok (!decide ((tx l).length<=900)):=ao<|ae (lf (BM rfl H) C) rfl (vQ.trans<|by rw[<-decide_not];congr 2;exact decide_eq_decide.mpr<|⊥);by_cases s:(tx l).length<=900
  .rw[afn s]at t⊢;rw[Bool.and_true];exact .inr ⟨t,rfl⟩
  .rw[afm s]at t⊢;rw[Bool.and_false];exact .inl ⟨t,au rfl⟩
 obtain⟨F,e1⟩:=oO h hw p u _ rfl (J<|.lst<|f.map D.int) (J<|.int 0) U;obtain⟨z,I⟩:=oO h hw p u _ rfl (J<|.lst<|f.map D.int) (J<|.int 1) F;have E:cZ (.one 4) lB [.int 0,.int 1] [J<|.lst<|f.map D.int,J q.d,J<|.str<|aw<|tx l++rp m,J<|.bl<|decide (q.opened<=20)&&decide ((tx l).length<=900),U,U]=.ok (.nx [J<|.lst<|f.map D.int,J q.d,J<|.str<|aw<|tx l++rp m,J<|.bl<|decide (q.opened<=20)&&decide ((tx l).length<=900),J<|.int 1,z]):=(gj e1).trans<|(gj I).trans rfl;exact aJ (kU (y9 (i:=2) rfl ∅ ∅) E) rfl
end T63
namespace T63
open PySem L2
def eT(o:Obj):Bool:=match o with
 |⟨.none,U,.fields vs,_⟩=>vs.size==0
 |_=>η
noncomputable def K0(P:adO):aT:=(HD.K P).filter fun p=>!eT p.2
theorem SI{P:adO}{h:acn}(X:(HD.K P).In h):(K0 P).In h:=fun b o e=>X b o<|Mi (by rw[show(HD.K P).map (·.1)=ads 582 from by kernel_rfl];exact List.nodup_range) (ab9.mp<|Ae e).1
theorem l8(P:adO):(((K0 P).filterMap<|g6<|K0 P).map fun x=>(HD.K P).lookup x.1)=((K0 P).filterMap<|g6<|K0 P).map fun _=>J<|acL #[]:=by kernel_rfl
def la(m:nE)(q:Nat×Nat×Nat):Nat×aaB×aaB×nE:=(q.1,q.2.1+(HD.gb q.1).1-1,q.2.1+(HD.gb q.1).1-2,m)
def mp:nE:=.str "tablestore.piles" 239
def LA:Pl:=HD.r0.map (la HD.m339)++(HD.r1.map (la HD.m389)++(HD.r2.map (la HD.m418)++(HD.r3.map (la HD.m495)++(HD.r4.map (la HD.m714)++(HD.r5.map (la HD.m778)++[(1006,66,65,mp),(2006,73,72,mp),(3006,80,79,mp),(4006,87,86,mp),(5006,94,93,mp),(6006,101,100,mp),(7006,108,107,mp),(8006,115,114,mp),(1038,238,237,HD.m495),(2038,245,244,HD.m495),(3038,252,251,HD.m495)])))))
def qn(i:Nat):Str:=if i<1000 then Vk (tp i)else(if i%1000=6 then("Piles.":Str)else "Reader.")++Vk (tp i)
def ds:List Dq:=Gq0.flatMap Mz.ds
theorem e0:(ds.map fun q=>(Vk<|tp q.1.i,qn q.1.i))=ds.map fun q=>(q.1.x,q.2.1):=by kernel_rfl
theorem e1(w:abh):(ds.map fun q=>q.2.2.map<|DO (K0 w.params) By)=ds.map fun q=>q.2.2.map fun _=>J<|J<|.ref<|fA LA q.1.i:=by kernel_rfl
theorem Nb{w:abh}{K:aT}{h:acn}{mg:afu}(X:K.In h)(N:h.Ns By mg){x:Str}{a:aaB}{es:Array DictEntry}{n:Nat}{tab:List<|Str×D}(h1:DO K By x=J (J<|.ref a))(h2:K.lookup a=J ⟨.type "dict",U,.dict es n,#[]⟩)(c:adx w.params es.toList)(b:(tab.map fun q=>(DO K a q.1).bind fun o=>o.bind<|L2.rdC K)=tab.map fun q=>J q.2):DcOk w K mg x tab:=
 ⟨a,es,n,acG X N h1,h2,c,fun y d e=>tab_of (tab:=tab) (P:=fun y d=>∃v u,DO K a y=J (J u)/\aP v u/\∀H,bQ K H d v) (fun q f=>by
  have e1:=aa9.mp b q f;obtain⟨o,h1,h2⟩:=bY.mp e1;obtain⟨u,c,b⟩:=bY.mp h2;obtain⟨v,i,g,_⟩:=HN b;exact⟨v,u,by rw[h1,c],i,g⟩) e⟩
theorem N2{K:aT}{h:acn}{mg:afu}(X:K.In h)(N:h.Ns By mg){n:Str}{C:aaB}(h1:DO K By n=J (J<|.ref C))(h2:acF K C Gj "ValueError.__new__"=G)(b:aes K (.ref C) (.ref C)=J G):Qq K mg n:=
 ⟨C,acG X N h1,h2,fun x D a c=>by
  have e:x=n:=by
   unfold JD at a;simpa using a
  subst e
  have:=c.symm.trans<|acG X N h1
  cases this;exact⟨h1,b⟩⟩
theorem all_mk{l:ad7}{w:abh}{h:acn}{mg:afu}{g:aaB}(X:(K0 w.params).In h)(N:h.Ns By mg)(d:mg "law"=J (.ref g)):
  ∃fd:abI,(∀(s:ID)(v:nE),BindsTo s fd ⟨[v],[]⟩ [("_law_script",v)])/\∀base:acn,(K0 w.params).In base->base.Ns By mg->FnOk l.prog w (K0 w.params) mg base lD 204 g fd vK.ps (rj (K0 w.params) mg Cj):=by
 have c:=QW (qn:=qn) X N (show Gq0.flatMap Mz.ds=ds from rfl) e0 (e1 w) ((by kernel_rfl)) ((by kernel_rfl)) (by kernel_rfl) (by kernel_rfl)<|(by kernel_rfl);have b:Mz.pl vK (.pl yq)∈Gq0:=Do (i:=69) (by kernel_rfl);have j:∃f fd,DfOk tp (K0 w.params) mg cU f fd:=⟨_,_,c (.pl cU<|.pl pq)<|Do (i:=0)<|by kernel_rfl⟩;have e:=d.symm.trans<|(c _ b).m "law" aax;cases e;refine⟨fZ tp qn LA vK.i,fun s v=>.of_eq<|by rfl,fun base _ _=>?_⟩;have T:Txt w (K0 w.params) mg:=⟨Pe X N<|(by kernel_rfl),TN X N<|(by kernel_rfl),
  Nb X N (a:=52) (es:=#[HD.ke w.params "(" 241<|.int 0 242,HD.ke w.params "or" 243<|.int 1 244,HD.ke w.params "and" 245<|.int 2 246,HD.ke w.params "not" 247<|.int 3 248]) (n:=4) (by kernel_rfl) (by kernel_rfl) ⟨⟨_,_,rfl,rfl⟩,⟨⟨_,_,rfl,rfl⟩,⟨⟨_,_,rfl,rfl⟩,⟨⟨_,_,rfl,rfl⟩,abt⟩⟩⟩⟩ (by kernel_rfl),
  Nb X N (a:=386) (es:=#[HD.ke w.params "not" 716<|.ref 387,HD.ke w.params "and first" 719<|.ref 388,HD.ke w.params "and second" 721<|.ref 389,HD.ke w.params "or first" 724<|.ref 390,HD.ke w.params "or second" 725<|.ref 391]) (n:=5) (by kernel_rfl) (by kernel_rfl) ⟨⟨_,_,rfl,rfl⟩,⟨⟨_,_,rfl,rfl⟩,⟨⟨_,_,rfl,rfl⟩,⟨⟨_,_,rfl,rfl⟩,⟨⟨_,_,rfl,rfl⟩,abt⟩⟩⟩⟩⟩ (by kernel_rfl),
  ⟨255,by kernel_rfl,⟨by kernel_rfl,by kernel_rfl,by kernel_rfl,by kernel_rfl⟩,bG (by unfold a9;kernel_rfl)<|bG (by unfold a9;kernel_rfl)<|bG (by unfold a9;kernel_rfl)<|bG (by unfold a9;kernel_rfl) fun _ h=>(nomatch h)⟩,
  ⟨118,by kernel_rfl,⟨by kernel_rfl,by kernel_rfl,by kernel_rfl,by kernel_rfl⟩,bG (by unfold a9;kernel_rfl)<|bG (by unfold a9;kernel_rfl) fun _ h=>(nomatch h)⟩,
  N2 X N (C:=37) (by kernel_rfl) (by kernel_rfl) (by kernel_rfl),N2 X N (C:=49) (by kernel_rfl) (by kernel_rfl)<|by kernel_rfl,
  fun q b=>by
   have e:(gT.map fun q=>(DO (K0 w.params) By q.1,q.2))=gT.map fun q=>(J<|J<|.ref<|((DO (K0 w.params) By q.1).bind fun o=>o.bind fun v=>match v with|.ref a=>J a|_=>U).getD 0,D.cls q.1):=by kernel_rfl
   have:=aa9.mp e q b
   exact⟨_,acG X N (ac9 this).1,(ac9 this).1,(ac9 this).2⟩,
  j⟩
 exact IU (fun p k y=>Yu T y) (hU T) Gq0 aC (⟨fun _ h=>(nomatch h),fun _ h=>(nomatch h),fun _ h=>(nomatch h),fun _ _ h=>(nomatch h),fun _ _ _ h=>(nomatch h)⟩) c (by
   unfold Gq0;repeat (first|((with_reducible refine SM ?_ ?_ ?_);kernel_rfl;kernel_rfl)|((with_reducible refine Vm ?_ ?_ ?_);kernel_rfl;kernel_rfl)|((with_reducible refine To ?_ ?_ ?_ ?_);kernel_rfl;kernel_rfl;kernel_rfl)|refine Th (fun F=>by kernel_rfl) (by kernel_rfl) ?_|refine Sq (fun F Gq0=>by kernel_rfl) (by kernel_rfl) (fun F Gq0=>by kernel_rfl) (by kernel_rfl) rfl ?_)
   exact abt) _ _ b
theorem walk{l:ad7}{q:abf}{loose:afr}{XP:(afu)->acn->Prop}{c:abh->acn->Prop}{d:DefRec}{K:adO->aT}(p:l.most=J 63)(g:d.params.defaults=[])
  (r:∀(w:abh)(h:acn),c w h->(K w.params).In h)
  (o:∀(w:abh)(h:acn),c w h->(((K w.params).filterMap<|g6<|K w.params).map (·.1)).Nodup/\∀x∈(K w.params).filterMap (g6<|K w.params),h.get? x.1=J (acL #[]))
  (F:∀(w:abh)(mg:afu)(b:aaB)(h:acn),(K w.params).In h->h.Ns By mg->mg d.name=J (.ref b) ->
   ∃fd:abI,(∀(s:ID)(u:nE),BindsTo s fd ⟨[u],[]⟩ [("_law_script",u)])/\∀base:acn,(K w.params).In base->base.Ns By mg->FnOk l.prog w (K w.params) mg base lD 204 b fd vK.ps (rj (K w.params) mg Cj)):
  PySem.W.WalkO q loose XP c l.row.toRowW d [] (fun f vs=>aeS f vs):=
 L2.La (n:=63) (k:=204) (x:="_law_script") (CX:=fun _=>lD) (sp:=fun w=>Nl (K w.params) Cj) p ∎ g ⟨rfl,∎,∎⟩ r (fun w mg b h h1 h2 e=>(fun h=>by
   obtain⟨fd,h1,h2⟩:=h;exact⟨fd,h1,fun base e i=>(h2 base e i).imp fun vs H Q E q=>q mg⟩) (F w mg b h h1 h2 e)) o (fun _ _ a m t j=>LQ j (law_true m ⊥) fun _=>rfl) fun _ _ _ _ _ z=>z
end T63
open PySem PySem.W PyProof.Rows
set_option maxRecDepth 100000 in
set_option maxHeartbeats 0 in
theorem PySem.Challenge.cw_tablestore_k63_read_holds : PySem.Challenge.rw_tablestore_k63_read.Holds := by
 refine HD.hold<|L2.walkX (fun _=>by kernel_rfl) ?_;exact T63.walk (l:=PySem.Challenge.rw_tablestore_k63_read) (K:=T63.K0) rfl (by kernel_rfl) (fun w h Yq0=>T63.SI Yq0) (fun w h Yq0=>⟨L2.yj<|(by kernel_rfl),fun x hx=>Yq0 _ _<|aa9.mp (T63.l8 w.params) x hx⟩) fun w mg fa h KX Gq0 hmg=>T63.all_mk KX Gq0 hmg
