import PyProof.Rows.All
import Wide.All
import OpenK.AllK
import Wide.FinOn
import Lean
import PyProof.EqAt
import PyProof.EqKinds
import PyProof.TupleCall
import PyProof.ZipIter
import PyProof.Draws
import PyProof.EnumMake
import PyProof.Rows.SetFrom
import KE.KIntText
import KE.IntTextLaws
import KE.KSortTup
import PyProof.StrLawsChain
import PyProof.StrCalls6
import PyProof.ExcAttrAll.ValueError
import PySem.Challenge.RW_tablestore_k52_cut_anywhere
set_option linter.unusedVariables false
set_option linter.unusedSimpArgs false
set_option maxHeartbeats 4000000
set_option maxRecDepth 100000
set_option linter.all false
set_option compiler.extract_closed false
namespace L2
def fT {α β γ ε:Type} {p q:α->β->γ->ε->Prop} {r:Prop} (h:∃ a b c d,p a b c d/\q a b c d) (k:∀ a b c d,p a b c d->q a b c d->r):r:=by
 obtain ⟨a,b,c,d,x,y⟩:=h;exact k a b c d x y
def qK {α β:Type} {p q r:α->β->Prop} {z:Prop} (h:∃ a b,p a b/\q a b/\r a b) (k:∀ a b,p a b->q a b->r a b->z):z:=by
 obtain ⟨a,b,x,y,w⟩:=h;exact k a b x y w
end L2
-- CHANGE: your row's module here,as the last of these rows
set_option Elab.async false
namespace L2
open PySem Sem
def n6 {M:Model} {Γ:Ctx} {p:Pos} {t:Sem Fin} {fs:List Frame} {s:Shared} {e:End} {s':Shared} (h:Runs M Γ p t fs s e s'):s.toks<=s'.toks:=by
 induction h <;> first
  | exact Nat.le_refl _
  | assumption
  | (rename_i ih;exact Nat.le_of_succ_le ih)
  | (rename_i ih1 ih2;exact Nat.le_trans ih1 ih2)
  | (rename_i h1 h2 h3 ih1 ih2;exact Nat.le_trans ih1 ih2)
def z4 {M:Model} {Γ:Ctx} {p:Pos} {g:Nat} {r:Resume} {s:Shared} {res:GenResult} {s':Shared} (h:Wakes M Γ p g r s res s'):s.toks<=s'.toks:=by
 unfold Wakes at h;split at h
 ·exact h.elim
 ·split at h
  ·obtain ⟨e1,s1,h1,_,_,rfl⟩:=h;have q:=n6 h1;exact q
  ·rw [h.2];exact Nat.le_refl _
  ·rw [h.2];exact Nat.le_refl _
 ·obtain ⟨e1,s1,h1,_,_,rfl⟩:=h;have q:=n6 h1;exact q
 ·rw [h.2];exact Nat.le_refl _
 ·rw [h.2];exact Nat.le_refl _
def wp_toks {X:Type} {n:Nat} {post:X->Pos->Shared->Prop} {exc:Value->Pos->Shared->Prop} (M:Model) (Γ:Ctx) (tree:Sem X) (pos:Pos) (sh:Shared) (hn:n<=sh.toks)
  (eY:wp M Γ tree (fun x p s=>n<=s.toks->post x p s) (fun x p s=>n<=s.toks->exc x p s) pos sh):wp M Γ tree post exc pos sh:=by
 revert eY hn
 induction tree generalizing pos sh with
 | pure x=>exact fun hn h=>h hn
 | raise v=>exact fun hn h=>h hn
 | unsupported|finish|yield|fork|await|register=>exact fun _ h=>h
 | rule _ k ih|«at» _ k ih|alloc _ k ih|loadIfAlive _ k ih|point _ k ih|ask k ih|os _ _ k ih|handled _ k ih|newGen _ k ih|stack k ih|thread k ih=>exact fun hn h=>ih _ _ _ hn h
 | fresh k ih=>exact fun hn h=>ih _ _ _ (Nat.le_succ_of_le hn) h
 | load a _ k ih|genState a k ih=>exact fun hn ⟨o,ho,h⟩=>⟨o,ho,ih _ _ _ hn h⟩
 | update a _ f k ih|choose _ _ k ih=>exact fun hn ⟨ha,h⟩=>⟨ha,ih _ _ _ hn h⟩
 | call c h g l k ih=>exact fun hn ⟨r,s',hr,hk⟩=>⟨r,s',hr,ih r pos s' (Nat.le_trans hn (n6 hr)) hk⟩
 | resume g r l k ih=>exact fun hn ⟨res,s',hw,h⟩=>⟨res,s',hw,ih _ _ _ (Nat.le_trans hn (z4 hw)) h⟩
def bh {α:Type} {M:Model} {A:Around} {t:Sem α} {Q:α->Shared->Prop} {E:Value->Shared->Prop} {s:Shared} {n:Nat} (hn:n<=s.toks)
  (h:wpAny M A t (fun v s'=>n<=s'.toks->Q v s') (fun e s'=>n<=s'.toks->E e s') s):wpAny M A t Q E s:=fun Γ p hΓ=>wp_toks M Γ t p s hn (h Γ p hΓ)
def oS {M:Model} {A:Around} {c:Code} {R:Result->Shared->Prop} {s:Shared} {n:Nat} (hn:n<=s.toks) (h:codeAny M A c (fun r s'=>n<=s'.toks->R r s') s):codeAny M A c R s:=fun Γ p e hΓ =>
 let ⟨r,s',hr,hR⟩:=h Γ p e hΓ
 ⟨r,s',hr,hR (Nat.le_trans hn (n6 hr))⟩
end L2
namespace L2
open PySem PySem.Spec PyProof.Rows
abbrev pF:=Sum Int Str
def Jc:pF->Value->Bool
 | .inl k,v=>Value.isInt k v
 | .inr x,v=>Value.isStrOf x v
def Rb (w:World):pF->Int
 | .inl k=>hashInt k
 | .inr x=>hashStr w x
def cO:∀ {k:pF} {v:Value},Jc k v=true->(∃ i t,k=Sum.inl i/\v=Value.int i t)\/(∃ x t,k=Sum.inr x/\v=Value.str x t)
 | .inl i,v,h=>by
  obtain ⟨t,e⟩:=Value.isInt_shape (k:=i) (v:=v) h;exact .inl ⟨i,t,rfl,e⟩
 | .inr x,v,h=>by
  obtain ⟨t,e⟩:=Value.isStrOf_shape (x:=x) (v:=v) h;exact .inr ⟨x,t,rfl,e⟩
def Lq (a b:Int):decide ((Sum.inl a:pF)=Sum.inl b)=(a==b):=by
 by_cases e:a=b
 ·subst e;simp
 ·have h:¬ (Sum.inl a:pF)=Sum.inl b:=fun q=>e (Sum.inl.inj q);rw [decide_eq_false h];exact (beq_eq_false_iff_ne.mpr e).symm
def Ln (a b:Str):decide ((Sum.inr a:pF)=Sum.inr b)=decide (a=b):=by
 by_cases e:a=b
 ·subst e;simp
 ·have h:¬ (Sum.inr a:pF)=Sum.inr b:=fun q=>e (Sum.inr.inj q);rw [decide_eq_false h,decide_eq_false e]
def J8 (a:Int) (b:Str):decide ((Sum.inl a:pF)=Sum.inr b)=false:=decide_eq_false (fun q=>nomatch q)
def K9 (a:Str) (b:Int):decide ((Sum.inr a:pF)=Sum.inl b)=false:=decide_eq_false (fun q=>nomatch q)
def wD (prog:Program) (w:World):PySem.KeyKind prog w pF where
 is:=Jc
 hash:=Rb w
 inj:=fun v a b ha hb=>by
  rcases cO ha with ⟨i,t,rfl,rfl⟩|⟨x,t,rfl,rfl⟩
  ·rcases cO hb with ⟨j,u,rfl,e⟩|⟨y,u,rfl,e⟩
   ·injection e with e1 _;rw [e1]
   ·exact nomatch e
  ·rcases cO hb with ⟨j,u,rfl,e⟩|⟨y,u,rfl,e⟩
   ·exact nomatch e
   ·injection e with e1 _;rw [e1]
 byValue:=fun k v h=>by
  rcases cO h with ⟨i,t,rfl,rfl⟩|⟨x,t,rfl,rfl⟩ <;> rfl
 pyHash:=fun hv h=>by
  rcases cO hv with ⟨i,t,rfl,rfl⟩|⟨x,t,rfl,rfl⟩
  ·exact wpAny_pyHash_int h
  ·exact wpAny_pyHash_str h
 eqBool:=fun hu hv h=>by
  rcases cO hu with ⟨i,t,rfl,rfl⟩|⟨x,t,rfl,rfl⟩
  ·rcases cO hv with ⟨j,u,rfl,rfl⟩|⟨y,u,rfl,rfl⟩
   ·rw [Lq] at h;exact wpAny_eqBool_int h
   ·rw [J8] at h;exact SeqAt.EqAt.int_str i t y u _ _ _ _ h
  ·rcases cO hv with ⟨j,u,rfl,rfl⟩|⟨y,u,rfl,rfl⟩
   ·rw [K9] at h;exact SeqAt.EqAt.str_int x t j u _ _ _ _ h
   ·rw [Ln] at h;exact wpAny_eqBool_str h
 «strs»:=fun k x t v h=>by
  rcases cO h with ⟨i,u,rfl,e⟩|⟨y,u,rfl,e⟩
  ·exact nomatch e
  ·injection e with e1 _
   subst e1;cases v <;> rfl
inductive V where
 | non|bl (b:Bool)|int (i:Int)|str (x:Str)|byt (b:Array UInt8)|flt (b:UInt64)|ref (a:Addr)|ty (n:String)
 deriving DecidableEq
def bB:V->Value->Prop
 | .non,u=>u=Value.none
 | .bl b,u=>u=Value.bool b
 | .int i,u=>∃ t,u=Value.int i t
 | .str x,u=>∃ t,u=Value.str x t
 | .byt b,u=>∃ t,u=Value.bytes b t
 | .flt b,u=>∃ t,u=Value.float b t
 | .ref a,u=>u=Value.ref a
 | .ty n,u=>u=Value.type n
abbrev bK:List V->List Value->Prop:=Paired bB
theorem bK.length {xs:List V} {us:List Value} (r:bK xs us):xs.length=us.length:=Paired.length r
def bK.get:∀ {xs:List V} {us:List Value} {i:Nat} {x:V},bK xs us->xs[i]?=some x->∃ u,us[i]?=some u/\bB x u
 | _,_,_,_,.nil,e=>by simp at e
 | _,_,0,_,.cons r _,e=>by simp at e;subst e;exact ⟨_,rfl,r⟩
 | _,_,i+1,x,.cons _ t,e=>by
  obtain ⟨u,h1,h2⟩:=bK.get (i:=i) (x:=x) t (by simpa using e);exact ⟨u,by simpa using h1,h2⟩
def bK.append:∀ {xs ys:List V} {us ws:List Value},bK xs us->bK ys ws->bK (xs++ys) (us++ws)
 | _,_,_,_,.nil,s=>s
 | _,_,_,_,.cons r t,s=>.cons r (bK.append t s)
def bK.take:∀ {xs:List V} {us:List Value} (n:Nat),bK xs us->bK (xs.take n) (us.take n)
 | _,_,0,_=>.nil
 | _,_,_+1,.nil=>.nil
 | _,_,n+1,.cons r t=>.cons r (bK.take n t)
def bK.drop:∀ {xs:List V} {us:List Value} (n:Nat),bK xs us->bK (xs.drop n) (us.drop n)
 | _,_,0,r=>r
 | _,_,_+1,.nil=>.nil
 | _,_,n+1,.cons _ t=>bK.drop n t
def Lr:Option V->Option Value->Prop
 | some v,some u=>bB v u
 | none,none=>True
 | _,_=>False
def KV {κ:Type}:List (κ×V)->List (κ×Value)->Prop:=Paired fun (p:κ×V) (q:κ×Value)=>p.1=q.1/\bB p.2 q.2
def kV:pF->V
 | .inl i=>.int i
 | .inr x=>.str x
inductive HO where
 /-- a list -/
 | lst (xs:List V)
 /-- a tuple (never BN) -/
 | tup (xs:List V)
 /-- a dict whose keys are ints and texts;one whose keys are tuples of ints and texts (the empty one is both) -/
 | dK (kvs:List (pF×V))|dT (kvs:List (List pF×V))
 /-- a set of ints: its members,its size -/
 | set (S:Int->Bool) (n:Nat)
 /-- an instance of the class at C,its dict at dx,its attributes -/
 | ins (C dx:Addr) (fs:List (Str×V))
 /-- the dict of the instance at x -/
 | own (x:Addr)
 /-- the dict of an exception -/
 | xd (fs:List (Str×V))
 /-- a bound method,f of x -/
 | met (f x:Addr)
 /-- a range object lo,lo+1,.. below hi -/
 | rng (lo hi:Int)
 /-- a thing that is eY to the object (the script;a dict while a loop walks it): read,never xc while it is so -/
 | frz (o:Obj) (u:HO)
 /-- a code object's table -/
 | tbl (ps:Array Value)
 /-- any other thing,by what is true of its one object (a def of one's own: SetO a S n:=HO.ext fun h=>..) -/
 | ext (φ:Heap->Prop)
abbrev Hp:=Addr->Option HO
def cQ (H:Hp) (a:Addr) (o:HO):Hp:=fun b=>if b=a then some o else H b
def aZ {H:Hp} {a:Addr} {o:HO}:cQ H a o a=some o:=by unfold cQ;rw [if_pos rfl]
def bf {H:Hp} {a b:Addr} {o:HO} (h:b≠a):cQ H a o b=H b:=by unfold cQ;rw [if_neg h]
def bP {H:Hp} {a b:Addr} {o:HO} (h:H a=some o) (h':H b=none):a≠b:=by
 intro e;subst e;rw [h] at h';cases h'
section
variable (P:Program) (w:World)
def fg (H:Hp) (h:Heap) (a:Addr):HO->Prop
 | .lst xs=>xs.length<=sizeLine/\∃ (its:List Value) (n:Nat),bK xs its/\h.get? a=some { cls:=.type "list",data:=.seq its.toArray n }
 | .tup xs=>xs.length<=sizeLine/\∃ its:List Value,bK xs its/\IsTup h a its.toArray
 | .dK kvs=>kvs.length<=sizeLine/\(a==sysModules)=false/\∃ vs,KV kvs vs/\h.DictOf (wD P w) a vs
 | .dT kvs=>kvs.length<=sizeLine/\(a==sysModules)=false/\∃ xs:List (List pF×Addr×Value),
   Paired (fun (p:List pF×V) (q:List pF×Addr×Value)=>p.1=q.1/\H q.2.1=some (.tup (p.1.map kV))/\bB p.2 q.2.2) kvs xs /\
   ∃ o es ep,h.get? a=some o/\o.ExactDict/\o.data=.dict es ep/\es.toList=xs.map (entryOfKey (tupleKind (wD P w)))/\(xs.map (·.1)).Nodup
 | .set S n=>h.SetOf (intKind P w) a S n
 | .ins C dx fs=>H dx=some (.own a)/\fs.length<=1000/\dx≠a/\h.get? a=some (PySem.W.instObj C dx) /\
   ∃ mA,h.Ns1 dx mA/\(∀ f,Lr (fs.lookup f) (mA f))/\PySem.Within mA (fs.map (·.1))
 | .own _=>∃ o,h.get? a=some o
 | .xd fs=>∃ mA,h.Ns1 a mA/\∀ f,Lr (fs.lookup f) (mA f)
 | .rng lo hi=>∃ t u v,h.get? a=some { cls:=.type "range",data:=.fields #[.int lo t,.int hi u,.int 1 v] }
 | .frz o u=>h.get? a=some o/\fg H h a u
 | .tbl ps=>h.get? a=some { cls:=.none,data:=.fields ps }
 | .met f x=>h.get? a=some (PySem.W.methodObj (.ref f) (.ref x))
 | .ext φ=>φ h/\(∃ o,h.get? a=some o)/\∀ h1 h2:Heap,φ h1->(∀ o,h1.get? a=some o->h2.get? a=some o)->φ h2
def sW (H:Hp) (h:Heap):Prop:=∀ a o,H a=some o->fg P w H h a o
end
section
variable {P:Program} {w:World} {H H':Hp} {h h':Heap} {a:Addr} {o:HO}
def fg.lt (x:fg P w H h a o):a < h.objs.size:=by
 cases o with
 | lst xs=>obtain ⟨_,_,_,_,e⟩:=x;exact Heap.lt_size e
 | tup xs=>obtain ⟨_,_,_,p⟩:=x;exact p.lt
 | dK kvs=>obtain ⟨_,_,_,_,o,_,_,e,_⟩:=x;exact Heap.lt_size e
 | dT kvs=>obtain ⟨_,_,_,_,o,_,_,e,_⟩:=x;exact Heap.lt_size e
 | set S n=>obtain ⟨o,_,_,_,e,_⟩:=x;exact Heap.lt_size e
 | ins C dx fs=>obtain ⟨_,_,_,e,_⟩:=x;exact Heap.lt_size e
 | own y=>obtain ⟨_,e⟩:=x;exact Heap.lt_size e
 | xd fs=>obtain ⟨_,⟨_,_,_,e,_⟩,_⟩:=x;exact Heap.lt_size e
 | rng lo hi=>obtain ⟨_,_,_,e⟩:=x;exact Heap.lt_size e
 | frz ob u=>obtain ⟨e,_⟩:=x;exact Heap.lt_size e
 | tbl ps=>exact Heap.lt_size (show h.get? a=some _ from x)
 | met f y=>exact Heap.lt_size (show h.get? a=some _ from x)
 | ext φ=>obtain ⟨_,⟨_,e⟩,_⟩:=x;exact Heap.lt_size e
def Paired.mapP {α β:Type} {F G:α->β->Prop}:∀ {l₁:List α} {l₂:List β},Paired F l₁ l₂->(∀ a b,F a b->G a b)->Paired G l₁ l₂
 | _,_,.nil,_=>.nil
 | _,_,.cons r t,f=>.cons (f _ _ r) (Paired.mapP t f)
def fg.stay (x:fg P w H h a o) (k:∀ b u,(b=a\/H b=some (.own a))->h.get? b=some u->h'.get? b=some u)
  (ho:∀ b,H b=some (.own a)->H' b=some (.own a)) (ht:∀ b xs,H b=some (.tup xs)->H' b=some (.tup xs)):fg P w H' h' a o:=by
 induction o with
 | lst xs=>obtain ⟨z,its,n,r,e⟩:=x;exact ⟨z,its,n,r,k _ _ (.inl rfl) e⟩
 | tup xs=>obtain ⟨z,its,r,ob,e,c⟩:=x;exact ⟨z,its,r,ob,k _ _ (.inl rfl) e,c⟩
 | dK kvs=>obtain ⟨z,y,vs,r,ob,es,ep,e,c⟩:=x;exact ⟨z,y,vs,r,ob,es,ep,k _ _ (.inl rfl) e,c⟩
 | dT kvs =>
  obtain ⟨z,y,xs,r,ob,es,ep,e,c⟩:=x;exact ⟨z,y,xs,Paired.mapP r fun p q z=>⟨z.1,ht _ _ z.2.1,z.2.2⟩,ob,es,ep,k _ _ (.inl rfl) e,c⟩
 | set S n=>obtain ⟨ob,es,ep,t,e,c⟩:=x;exact ⟨ob,es,ep,t,k _ _ (.inl rfl) e,c⟩
 | ins C dx fs =>
  obtain ⟨d,z,ne,e,mA,⟨od,es,ep,e2,c⟩,r⟩:=x;exact ⟨ho _ d,z,ne,k _ _ (.inl rfl) e,mA,⟨od,es,ep,k _ _ (.inr d) e2,c⟩,r⟩
 | own y=>obtain ⟨ob,e⟩:=x;exact ⟨ob,k _ _ (.inl rfl) e⟩
 | xd fs=>obtain ⟨mA,⟨od,es,ep,e,c⟩,r⟩:=x;exact ⟨mA,⟨od,es,ep,k _ _ (.inl rfl) e,c⟩,r⟩
 | rng lo hi=>obtain ⟨t,u,v,e⟩:=x;exact ⟨t,u,v,k _ _ (.inl rfl) e⟩
 | frz ob u ih=>obtain ⟨e,q⟩:=x;exact ⟨k _ _ (.inl rfl) e,ih q⟩
 | tbl ps =>
  have e:h.get? a=some { cls:=.none,data:=.fields ps }:=x;show h'.get? a=some { cls:=.none,data:=.fields ps };exact k a _ (.inl rfl) e
 | met f y =>
  have e:h.get? a=some (PySem.W.methodObj (.ref f) (.ref y)):=x;show h'.get? a=some (PySem.W.methodObj (.ref f) (.ref y));exact k a _ (.inl rfl) e
 | ext φ=>obtain ⟨p,⟨o,e⟩,st⟩:=x;exact ⟨st _ _ p fun o q=>k _ _ (.inl rfl) q,⟨o,k _ _ (.inl rfl) e⟩,st⟩
def sW.lt (x:sW P w H h) (e:H a=some o):a < h.objs.size:=(x a o e).lt
def sW.fresh (x:sW P w H h) (e:h.objs.size<=a):H a=none:=by
 cases q:H a with
 | none=>rfl
 | some u=>exact absurd (Nat.lt_of_lt_of_le (x.lt q) e) (Nat.lt_irrefl _)
def sW.kept (x:sW P w H h) (k:∀ b u,h.get? b=some u->h'.get? b=some u):sW P w H h':=fun a o e =>
 (x a o e).stay (fun b u _ q=>k b u q) (fun _ q=>q) fun _ _ q=>q
def sW.laid (x:sW P w H h) (k:∀ b u,h.get? b=some u->h'.get? b=some u) (hp:h.objs.size<=a) (new:fg P w (cQ H a o) h' a o):sW P w (cQ H a o) h':=fun b u e=>by
 have hn:=x.fresh hp;by_cases hb:b=a
 ·subst hb;rw [aZ] at e;cases e;exact new
 ·rw [bf hb] at e;exact (x b u e).stay (fun c v _ q=>k c v q) (fun c q=>by rw [bf (bP q hn)];exact q) fun c xs q=>by rw [bf (bP q hn)];exact q
end
def Rd (H:Hp) (a:Addr) (u:HO):Prop:=H a=some u\/∃ o,H a=some (.frz o u)
theorem Rd.ok {P:Program} {w:World} {H:Hp} {h:Heap} {a:Addr} {u:HO} (r:Rd H a u) (x:sW P w H h):fg P w H h a u:=by
 rcases r with r|⟨o,r⟩
 ·exact x a u r
 ·obtain ⟨_,q⟩:=x a _ r;exact q
def QN:Option HO->Prop
 | some (.lst _)=>True
 | some (.dK _)=>True
 | some (.dT _)=>True
 | some (.set _ _)=>True
 | some (.ins _ _ _)=>True
 | some (.ext _)=>True
 | _=>False
section
variable {P:Program} {w:World} {H:Hp} {h h':Heap} {x e:Addr} {o':HO}
def sW.write (ok:sW P w H h) (mu:QN (H x)) (he:e=x\/H e=some (.own x)) (k:∀ b u,b≠e->h.get? b=some u->h'.get? b=some u) (heo:∃ u,h'.get? e=some u)
  (new:fg P w (cQ H x o') h' x o'):sW P w (cQ H x o') h':=fun b u q=>by
 have nown:∀ c y,H c=some (.own y)->c≠x:=fun c y r z=>by subst z;rw [r] at mu;exact mu
 have ntup:∀ c xs,H c=some (.tup xs)->c≠x:=fun c xs r z=>by subst z;rw [r] at mu;exact mu
 by_cases hb:b=x
 ·subst hb;rw [aZ] at q;cases q;exact new
 ·rw [bf hb] at q;by_cases hbe:b=e
  ·have q':H b=some (.own x):=by
    rcases he with z|z
    ·exact absurd (hbe.trans z) hb
    ·rw [hbe];exact z
   rw [q] at q';cases q';obtain ⟨v,hv⟩:=heo;exact ⟨v,by rw [hbe];exact hv⟩
  ·refine (ok b u q).stay (fun c v hc r=>k c v ?_ r) (fun c r=>by rw [bf (nown c b r)];exact r) fun c xs r=>by rw [bf (ntup c xs r)];exact r
   rcases hc with rfl|hc
   ·exact hbe
   ·rintro rfl;rcases he with z|z
    ·exact nown c b hc z
    ·rw [hc] at z;cases z;exact hb rfl
end
structure Un (fs ex:List Addr) (H H':Hp) (h h':Heap):Prop where
 keep:∀ b o,h.get? b=some o->H b=none->b∉fs->b∉ex->h'.get? b=some o
 slot:∀ b o,h.get? b=some o->H b=none->b∈fs->b∉ex->∃ sl,h'.get? b=some { o with slots:=sl }
 free:∀ b o,h.get? b=some o->H b=none->b∉ex->H' b=none
 there:∀ b o,h.get? b=some o->b∉ex->∃ o',h'.get? b=some o'
 tups:∀ b xs,H b=some (.tup xs)->H' b=some (.tup xs)
 frzs:∀ b o u,H b=some (.frz o u)->H' b=some (.frz o u)
 tbls:∀ b ps,H b=some (.tbl ps)->∃ more,H' b=some (.tbl (ps++more))
section
variable {fs fs' ex ex':List Addr} {H H1 H2:Hp} {h h1 h2 h':Heap} {a x e:Addr} {o:HO}
def Un.any (u:Un fs ex H H1 h h1) {b:Addr} {ob:Obj} (q:h.get? b=some ob) (n:H b=none) (hx:b∉ex):∃ sl,h1.get? b=some { ob with slots:=sl }:=by
 by_cases hb:b∈fs
 ·exact u.slot b ob q n hb hx
 ·exact ⟨ob.slots,u.keep b ob q n hb hx⟩
def Un.kept (k:∀ b u,h.get? b=some u->h'.get? b=some u):Un fs ex H H h h' :=
 ⟨fun b ob q _ _ _=>k b ob q,fun b ob q _ _ _=>⟨ob.slots,k b ob q⟩,fun _ _ _ n _=>n,fun b ob q _=>⟨ob,k b ob q⟩,fun _ _ q=>q,fun _ _ _ q=>q,fun _ ps q=>⟨#[],by rw [q];simp⟩⟩
def Un.refl:Un fs ex H H h h:=Un.kept fun _ _ q=>q
def Un.laid (k:∀ b u,h.get? b=some u->h'.get? b=some u) (hp:h.objs.size<=a) (hn:H a=none):Un fs ex H (cQ H a o) h h' where
 keep:=fun b u q _ _ _=>k b u q
 slot:=fun b u q _ _ _=>⟨u.slots,k b u q⟩
 free:=fun b u q n _=>by rw [bf (Nat.ne_of_lt (Nat.lt_of_lt_of_le (Heap.lt_size q) hp))];exact n
 there:=fun b u q _=>⟨u,k b u q⟩
 tups:=fun b xs q=>by rw [bf (bP q hn)];exact q
 frzs:=fun b u xs q=>by rw [bf (bP q hn)];exact q
 tbls:=fun b ps q=>⟨#[],by rw [bf (bP q hn),q];simp⟩
def Un.write (mu:QN (H x)) (he:e=x\/H e=some (.own x)) (k:∀ b u,b≠e->h.get? b=some u->h'.get? b=some u) (heo:∃ u,h'.get? e=some u):Un fs ex H (cQ H x o) h h':=by
 have hx:∀ b,H b=none->b≠x:=fun b n z=>by subst z;rw [n] at mu;exact mu
 have hb:∀ b,H b=none->b≠e:=fun b n z=>by
  subst z;rcases he with r|r
  ·exact hx b n r
  ·rw [n] at r;cases r
 have hm:∀ b u,H b=some u->¬ QN (some u)->b≠x:=fun b u q nm z=>by subst z;rw [q] at mu;exact nm mu
 refine ⟨fun b u q n _ _=>k b u (hb b n) q,fun b u q n _ _=>⟨u.slots,k b u (hb b n) q⟩,fun b u q n _=>by rw [bf (hx b n)];exact n,fun b u q _=>?_,
  fun b xs q=>by rw [bf (hm b _ q fun z=>z)];exact q,fun b u xs q=>by rw [bf (hm b _ q fun z=>z)];exact q,fun b ps q=>⟨#[],by rw [bf (hm b _ q fun z=>z),q];simp⟩⟩
 by_cases hbe:b=e
 ·subst hbe;exact heo
 ·exact ⟨u,k b u hbe q⟩
end
def QS (h:Heap) (H:Hp):List Addr:=(List.range h.objs.size).filter fun a=>(H a).isSome
def xF (h:Heap) (H:Hp):Heap:=PySem.W.hideAll h (QS h H)
def Cc (h:Heap) (H:Hp):(xF h H).objs.size=h.objs.size:=PySem.W.hideAll_size _ _
def Ft {h:Heap} {H:Hp} {b:Addr} {o:Obj} (e:h.get? b=some o) (n:H b=none):(xF h H).get? b=some o :=
 PySem.W.hideAll_get _ e fun hm=>by
  have q:(H b).isSome=true:=(List.mem_filter.mp hm).2;rw [n] at q;simp at q
def GS {h:Heap} {H:Hp} {b:Addr} {o:Obj} (e:(xF h H).get? b=some o):h.get? b=some o/\H b=none:=by
 have e':h.get? b=some o:=PySem.W.of_hideAll (QS h H) e;refine ⟨e',?_⟩;cases q:H b with
 | none=>rfl
 | some x =>
  have hm:b∈QS h H:=List.mem_filter.mpr ⟨List.mem_range.mpr (Heap.lt_size e'),by simp [q]⟩;have z:(xF h H).get? b=none:=PySem.W.hideAll_none (QS h H) hm;rw [z] at e;cases e
structure Mod (K:PySem.W.Frag) (mg:Str->Option Value) (base:Heap):Prop where
 kin:K.In base
 glob:base.Ns mainGlobals mg
 blt:∃ mb,base.Ns builtinsNs mb/\∀ x:Str,x≠"__name__"->mb x=bootBuiltins x
 nolimit:base.NoLimit
structure Cx where
 prog:Program
 w:World
 K:PySem.W.Frag
 mg:Str->Option Value
 base:Heap
 A:Around
 N:List Str
 s₀:Shared
 H₀:Hp
 env:Env
 outer:List Env
 stack:List Env
 ex:List Addr
 fn:Str->Bool
 calm:Bool
 tn:Nat:=0
 pn:List (Addr×Obj)
 xe:Value->Shared->Prop
def C9 (l:List Env):List Addr:=l.filterMap (·.frame)
abbrev Cx.fs (X:Cx):List Addr:=C9 X.outer
def zv (sc:Scope) (x:Str):Prop:=sc.names.lookup x=some .local\/sc.names.lookup x=some .cell\/sc.names.lookup x=some .free
def zg (sc:Scope) (x:Str):Prop:=sc.names.lookup x=some .local\/sc.names.lookup x=some .cell
def Rt (env:Env) (h:Heap) (m:Str->Option Value) (x:Str) (u:Value):Prop :=
 (env.kindOf x=some .local/\m x=some u)\/((env.kindOf x=some .cell\/env.kindOf x=some .free)/\∃ c,env.cells.lookup x=some c/\h.IsCell c (some u))
structure Cx.Ok (X:Cx):Prop where
 mod:Mod X.K X.mg X.base
 kind:X.env.scope.kind=.function
 glob:X.env.globals=mainGlobals
 blt:X.env.builtins=builtinsNs
 above:X.s₀.heap.objs.size<=X.env.locals
 inj:∀ x y c,X.env.cells.lookup x=some c->X.env.cells.lookup y=some c->x=y
 has:∀ x,(X.env.kindOf x=some .cell\/X.env.kindOf x=some .free)->∃ c,X.env.cells.lookup x=some c
 cab:∀ x c,X.fn x=true->X.env.cells.lookup x=some c->X.s₀.heap.objs.size<=c
 hd:X.calm=true->X.A.handled=none
 frames:X.A.frames=some X.stack
 stk:X.stack=X.outer\/(X.stack=X.env::X.outer/\X.env.frame=some X.env.locals)
 exf:∀ b∈X.ex,b≠X.env.locals/\∀ x c,X.env.cells.lookup x=some c->c≠b
 bs:∀ b o,X.base.get? b=some o->X.s₀.heap.get? b=some o/\X.H₀ b=none
 bsz:X.base.objs.size<=X.s₀.heap.objs.size
 noex:∀ b o,X.base.get? b=some o->b∉X.ex
 exfs:∀ b∈X.ex,b∉X.fs
 funs:X.s₀.heap.FunFrames X.base X.outer
 frf:∀ b∈X.fs,X.H₀ b=none
structure Inv (X:Cx) (ag:List (Addr×Obj)) (σ:List (Option V)) (H:Hp) (s:Shared):Prop where
 ok:X.Ok
 os:s.os=X.s₀.os
 bare:AllBare s.gens
 base:Un X.fs X.ex X.H₀ H X.s₀.heap s.heap
 loc:∃ m,s.heap.Ns X.env.locals m/\∀ (i:Nat) (x:Str) (v:V),X.N[i]?=some x->σ[i]?=some (some v)->zv X.env.scope x->∃ u,bB v u/\Rt X.env s.heap m x u
 cell:∀ x c,X.env.cells.lookup x=some c->∃ v,s.heap.IsCell c v
 free:H X.env.locals=none
 freeC:∀ x c,X.env.cells.lookup x=some c->H c=none
 pin:∀ p∈X.pn++ag,s.heap.get? p.1=some p.2/\H p.1=none/\p.1≠X.env.locals/\p.1∉X.fs/\∀ v,p.2.data≠.cell v
 hok:sW X.prog X.w H s.heap
 len:σ.length=X.N.length
 tk:X.tn<=s.toks
end L2
local macro_rules | `(tactic| walk_at "tok") => `(tactic| first | assumption | exact L2.Inv.tk (by assumption) | exact Nat.le_succ_of_le (L2.Inv.tk (by assumption)) | exact Nat.le_succ_of_le (Nat.le_succ_of_le (L2.Inv.tk (by assumption))) | (have hI := L2.Inv.tk (by assumption); omega) | exact Nat.zero_le _)
namespace L2
open PySem PySem.Spec PyProof.Rows
section
variable {X:Cx} {ag:List (Addr×Obj)} {σ:List (Option V)} {H H':Hp} {s:Shared} {h':Heap}
def Cx.Ok.nofr (ok:X.Ok) {b:Addr} {o:Obj} (e:X.base.get? b=some o):b∉X.fs:=fun hb=>by
 have:=(ok.funs.mem hb).1
 rw [e] at this;cases this
def Inv.bs (I:Inv X ag σ H s):∀ b o,X.base.get? b=some o->s.heap.get? b=some o/\H b=none:=fun b o e =>
 ⟨I.base.keep b o (I.ok.bs b o e).1 (I.ok.bs b o e).2 (I.ok.nofr e) (I.ok.noex b o e),I.base.free b o (I.ok.bs b o e).1 (I.ok.bs b o e).2 (I.ok.noex b o e)⟩
def Inv.bk (I:Inv X ag σ H s):∀ b o,X.base.get? b=some o->s.heap.get? b=some o:=fun b o e=>(I.bs b o e).1
def Inv.mod (I:Inv X ag σ H s):Mod X.K X.mg X.base:=I.ok.mod
def Inv.kIn (I:Inv X ag σ H s):X.K.In s.heap:=I.ok.mod.kin.keeps I.bk
def Inv.lt (I:Inv X ag σ H s):X.env.locals < s.heap.objs.size:=let ⟨_,hn,_⟩:=I.loc;hn.lt
def Inv.sz (I:Inv X ag σ H s):X.s₀.heap.objs.size<=s.heap.objs.size:=Nat.le_trans I.ok.above (Nat.le_of_lt I.lt)
def Inv.nofs (I:Inv X ag σ H s) {a:Addr} (h:s.heap.objs.size<=a):a∉X.fs:=fun hb=>by
 obtain ⟨_,o,ho,_⟩:=I.ok.funs.mem hb;exact absurd (Nat.lt_of_lt_of_le (Heap.lt_size ho) (Nat.le_trans I.sz h)) (Nat.lt_irrefl _)
def Inv.cne (I:Inv X ag σ H s):∀ x c,X.env.cells.lookup x=some c->c≠X.env.locals:=fun x c e z=>by
 obtain ⟨v,o,ho,hd⟩:=I.cell x c e;obtain ⟨m,⟨o',es,ep,ho',hd',_⟩,_⟩:=I.loc;rw [z,ho'] at ho;cases ho;rw [hd'] at hd;cases hd
def Inv.funs (I:Inv X ag σ H s):s.heap.FunFrames X.base X.outer:=by
 have all:∀ (l:List Env),(∀ b∈C9 l,b∈X.fs)->X.s₀.heap.FunFrames X.base l->s.heap.FunFrames X.base l:=by
  intro l;induction l with
  | nil=>intro _ _;trivial
  | cons env r ih =>
   intro hs hl;obtain ⟨hk,⟨L,o,hf,hn,ho,hd⟩,hr⟩:=hl;have hL:L∈X.fs:=hs L (by unfold C9;rw [List.filterMap_cons,hf];exact List.mem_cons_self);obtain ⟨sl,e⟩:=I.base.slot L o ho (I.ok.frf L hL) hL fun z=>I.ok.exfs L z hL;exact ⟨hk,⟨L,_,hf,hn,e,hd⟩,ih (fun b hb=>hs b (by unfold C9;rw [List.filterMap_cons,hf];exact List.mem_cons_of_mem _ hb)) hr⟩
 exact all X.outer (fun _ hb=>hb) I.ok.funs
def Inv.stack (I:Inv X ag σ H s):s.heap.FunFrames X.base X.stack:=by
 rcases I.ok.stk with e|⟨e,hf⟩
 ·rw [e];exact I.funs
 ·rw [e];obtain ⟨m,hn,_⟩:=I.loc;refine .cons (by rw [I.ok.kind];decide) hf hn ?_ I.funs;exact Heap.get?_none_of_le (Nat.le_trans I.ok.bsz I.ok.above)
def Inv.stkSub (I:Inv X ag σ H s):∀ b∈C9 X.stack,b∈X.env.locals::X.fs:=fun b hb=>by
 rcases I.ok.stk with e|⟨e,hf⟩
 ·rw [e] at hb;exact List.mem_cons_of_mem _ hb
 ·rw [e] at hb;unfold C9 at hb;rw [List.filterMap_cons,hf] at hb;exact hb
def Inv.stkFree (I:Inv X ag σ H s):∀ b∈C9 X.stack,H b=none:=fun b hb=>by
 rcases List.mem_cons.mp (I.stkSub b hb) with e|hb
 ·rw [e];exact I.free
 ·obtain ⟨_,o,ho,_⟩:=I.ok.funs.mem hb;exact I.base.free b o ho (I.ok.frf b hb) fun z=>I.ok.exfs b z hb
def Inv.step {g':Array GenState} {t':Nat} {d':Drawn} {ch:List Addr} (I:Inv X ag σ H s)
  (hch:∀ b∈ch,(b∈X.ex\/X.s₀.heap.objs.size<=b)/\b≠X.env.locals/\(∀ x c,X.env.cells.lookup x=some c->c≠b)/\∀ p∈X.pn++ag,p.1≠b)
  (keep:∀ b o,b≠X.env.locals->b∉X.fs->b∉ch->s.heap.get? b=some o->H b=none->h'.get? b=some o)
  (slot:∀ b o,b≠X.env.locals->b∈X.fs->b∉ch->s.heap.get? b=some o->H b=none->∃ sl,h'.get? b=some { o with slots:=sl }) (free:∀ b o,b∉ch->s.heap.get? b=some o->H b=none->H' b=none)
  (there:∀ b o,b∉ch->s.heap.get? b=some o->∃ o',h'.get? b=some o')
  (tups:∀ b xs,H b=some (.tup xs)->H' b=some (.tup xs)) (frzs:∀ b o u,H b=some (.frz o u)->H' b=some (.frz o u)) (tbls:∀ b ps,H b=some (.tbl ps)->∃ more,H' b=some (.tbl (ps++more)))
  (ns:∀ m,s.heap.Ns X.env.locals m->h'.Ns X.env.locals m) (hok:sW X.prog X.w H' h') (hg:AllBare g') (ht:X.tn<=t':=by walk_at "tok") :
  Inv X ag σ H' { s with heap:=h',gens:=g',drawn:=d',toks:=t' }:=by
 have neL:∀ b o,X.s₀.heap.get? b=some o->b≠X.env.locals:=fun b o e=>Nat.ne_of_lt (Nat.lt_of_lt_of_le (Heap.lt_size e) I.ok.above);have neC:∀ b o,X.s₀.heap.get? b=some o->b∉X.ex->b∉ch:=fun b o e hx hb=>by
  rcases (hch b hb).1 with z|z
  ·exact hx z
  ·exact absurd (Nat.lt_of_lt_of_le (Heap.lt_size e) z) (Nat.lt_irrefl _)
 have cellK:∀ x c,X.env.cells.lookup x=some c->∀ v,s.heap.IsCell c v->h'.IsCell c v:=fun x c e v ⟨o,ho,hd⟩=>by
  have nch:c∉ch:=fun z=>(hch c z).2.2.1 x c e rfl;by_cases hc:c∈X.fs
  ·obtain ⟨sl,q⟩:=slot c o (I.cne x c e) hc nch ho (I.freeC x c e);exact ⟨_,q,hd⟩
  ·exact ⟨o,keep c o (I.cne x c e) hc nch ho (I.freeC x c e),hd⟩
 refine ⟨I.ok,I.os,hg,⟨fun b o e n hb hx=>?_,fun b o e n hb hx=>?_,fun b o e n hx=>?_,fun b o e hx=>?_,fun b xs e=>tups b xs (I.base.tups b xs e),fun b o xs e=>frzs b o xs (I.base.frzs b o xs e),fun b ps e=>?_⟩,?_,fun x c e=>?_,?_,fun x c e=>?_,fun p hp=>?_,hok,I.len,ht⟩
 ·exact keep b o (neL b o e) hb (neC b o e hx) (I.base.keep b o e n hb hx) (I.base.free b o e n hx)
 ·obtain ⟨sl,e1⟩:=I.base.slot b o e n hb hx;obtain ⟨sl',e2⟩:=slot b _ (neL b o e) hb (neC b o e hx) e1 (I.base.free b o e n hx);exact ⟨sl',e2⟩
 ·obtain ⟨o',e1⟩:=I.base.there b o e hx;exact free b o' (neC b o e hx) e1 (I.base.free b o e n hx)
 ·obtain ⟨o',e1⟩:=I.base.there b o e hx;exact there b o' (neC b o e hx) e1
 ·obtain ⟨m1,e1⟩:=I.base.tbls b ps e;obtain ⟨m2,e2⟩:=tbls b _ e1;exact ⟨m1++m2,by rw [e2,Array.append_assoc]⟩
 ·obtain ⟨m,hn,hl⟩:=I.loc;refine ⟨m,ns m hn,fun i x v e1 e2 e3=>?_⟩;obtain ⟨u,r,l⟩:=hl i x v e1 e2 e3;refine ⟨u,r,?_⟩;rcases l with l|⟨k,c,e,z⟩
  ·exact .inl l
  ·exact .inr ⟨k,c,e,cellK x c e _ z⟩
 ·obtain ⟨v,z⟩:=I.cell x c e;exact ⟨v,cellK x c e v z⟩
 ·obtain ⟨m,⟨o,_,_,ho,_⟩,_⟩:=I.loc;exact free _ o (fun z=>(hch _ z).2.1 rfl) ho I.free
 ·obtain ⟨v,o,ho,hd⟩:=I.cell x c e;exact free c o (fun z=>(hch c z).2.2.1 x c e rfl) ho (I.freeC x c e)
 ·obtain ⟨e,n,ne,nf,d⟩:=I.pin p hp;have nch:p.1∉ch:=fun z=>(hch p.1 z).2.2.2 p hp rfl;exact ⟨keep p.1 p.2 ne nf nch e n,free p.1 p.2 nch e n,ne,nf,d⟩
def Inv.un {t':Nat} (I:Inv X ag σ H s) (u:Un X.fs [] H H' s.heap h') (hok:sW X.prog X.w H' h') (ht:X.tn<=t':=by walk_at "tok"):Inv X ag σ H' { s with heap:=h',toks:=t' }:=by
 obtain ⟨m,⟨o,es,ep,ho,r⟩,_⟩:=id I.loc;obtain ⟨sl,hL⟩:=u.any ho I.free (by simp);exact I.step (g':=s.gens) (d':=s.drawn) (ch:=[]) (fun _ z=>nomatch z) (fun b o _ hb _ e n=>u.keep b o e n hb (by simp)) (fun b o _ hb _ e n=>u.slot b o e n hb (by simp)) (fun b o _ e n=>u.free b o e n (by simp)) (fun b o _ e=>u.there b o e (by simp)) u.tups u.frzs u.tbls (fun m' hm=>by
  obtain ⟨o',es',ep',ho',r'⟩:=hm;rw [ho] at ho';cases ho';exact ⟨_,es',ep',hL,r'⟩) hok I.bare
def Inv.call {g':Array GenState} {t':Nat} {d':Drawn} {ch:List Addr} (I:Inv X ag σ H s) (u:Un (C9 X.stack) ch H H' s.heap h') (hok:sW X.prog X.w H' h') (hg:AllBare g')
  (hch:∀ b∈ch,(b∈X.ex\/X.s₀.heap.objs.size<=b)/\b≠X.env.locals/\(∀ x c,X.env.cells.lookup x=some c->c≠b)/\∀ p∈X.pn++ag,p.1≠b) (ht:X.tn<=t':=by walk_at "tok") :
  Inv X ag σ H' { s with heap:=h',gens:=g',drawn:=d',toks:=t' }:=by
 obtain ⟨m,⟨o,es,ep,ho,r⟩,_⟩:=id I.loc;obtain ⟨sl,hL⟩:=u.any ho I.free fun z=>(hch _ z).2.1 rfl;exact I.step (ch:=ch) hch (fun b o hL hb hc e n=>u.keep b o e n (fun z=>(List.mem_cons.mp (I.stkSub b z)).elim hL hb) hc) (fun b o _ _ hc e n=>u.any e n hc) (fun b o hc e n=>u.free b o e n hc) (fun b o hc e=>u.there b o e hc) u.tups u.frzs u.tbls (fun m' hm=>by
  obtain ⟨o',es',ep',ho',r'⟩:=hm;rw [ho] at ho';cases ho';exact ⟨_,es',ep',hL,r'⟩) hok hg
def Inv.turned {t':Nat} {it:Addr} (I:Inv X ag σ H s) (k:∀ b o,b≠it->s.heap.get? b=some o->h'.get? b=some o) (hn:H it=none) (hL:it≠X.env.locals)
  (h1:it∈X.ex\/X.s₀.heap.objs.size<=it) (h2:∀ x c,X.env.cells.lookup x=some c->c≠it) (h3:∀ p∈X.pn++ag,p.1≠it) (ht:X.tn<=t':=by walk_at "tok"):Inv X ag σ H { s with heap:=h',toks:=t' }:=by
 have nit:∀ b u,H b=some u->b≠it:=fun b u e z=>by rw [z,hn] at e;cases e
 refine I.step (g':=s.gens) (d':=s.drawn) (ch:=[it]) (fun b hb=>?_) (fun b o _ _ hc e _=>k b o (fun z=>hc (by simp [z])) e) (fun b o _ _ hc e _=>⟨o.slots,k b o (fun z=>hc (by simp [z])) e⟩) (fun _ _ _ _ n=>n)
  (fun b o hc e=>⟨o,k b o (fun z=>hc (by simp [z])) e⟩) (fun _ _ e=>e) (fun _ _ _ e=>e) (fun b ps e=>⟨#[],by rw [e];simp⟩) (fun m hm=>?_) (fun b u e=>?_) I.bare
 ·have e:b=it:=by simpa using hb
  subst e;exact ⟨h1,hL,h2,h3⟩
 ·obtain ⟨o,es,ep,ho,r⟩:=hm;exact ⟨o,es,ep,k _ o (Ne.symm hL) ho,r⟩
 ·refine (I.hok b u e).stay (fun c v hc q=>k c v ?_ q) (fun _ q=>q) fun _ _ q=>q;rcases hc with z|z
  ·rw [z];exact nit b u e
  ·exact nit c _ z
def Inv.tok (I:Inv X ag σ H s) (t:Nat) (ht:X.tn<=t:=by walk_at "tok"):Inv X ag σ H { s with toks:=t }:=I.un (h':=s.heap) (t':=t) Un.refl I.hok
def Inv.kept {t':Nat} (I:Inv X ag σ H s) (k:∀ b u,s.heap.get? b=some u->h'.get? b=some u) (ht:X.tn<=t':=by walk_at "tok"):Inv X ag σ H { s with heap:=h',toks:=t' }:=I.un (Un.kept k) (I.hok.kept k)
def Inv.laid {a:Addr} {o:HO} {t':Nat} (I:Inv X ag σ H s) (k:∀ b u,s.heap.get? b=some u->h'.get? b=some u) (hp:s.heap.objs.size<=a) (new:fg X.prog X.w (cQ H a o) h' a o) (ht:X.tn<=t':=by walk_at "tok") :
  Inv X ag σ (cQ H a o) { s with heap:=h',toks:=t' }:=I.un (Un.laid k hp (I.hok.fresh hp)) (I.hok.laid k hp new)
def Inv.write {x e:Addr} {o:HO} {t':Nat} (I:Inv X ag σ H s) (mu:QN (H x)) (he:e=x\/H e=some (.own x)) (k:∀ b u,b≠e->s.heap.get? b=some u->h'.get? b=some u) (heo:∃ u,h'.get? e=some u)
  (new:fg X.prog X.w (cQ H x o) h' x o) (ht:X.tn<=t':=by walk_at "tok"):Inv X ag σ (cQ H x o) { s with heap:=h',toks:=t' }:=I.un (Un.write mu he k heo) (I.hok.write mu he k heo new)
def Inv.pins_of {pins':List (Addr×Obj)} (I:Inv X ag σ H s) (h:∀ p∈pins',s.heap.get? p.1=some p.2/\H p.1=none/\p.1≠X.env.locals/\p.1∉X.fs/\∀ v,p.2.data≠.cell v):Inv X pins' σ H s :=
 ⟨I.ok,I.os,I.bare,I.base,I.loc,I.cell,I.free,I.freeC,fun p hp=>(List.mem_append.mp hp).elim (fun z=>I.pin p (List.mem_append_left _ z)) (h p),I.hok,I.len,I.tk⟩
def yS {N:List Str} (hN:N.Nodup) {i j:Nat} {x:Str} (a:N[i]?=some x) (b:N[j]?=some x):i=j:=by
 obtain ⟨h1,e1⟩:=List.getElem?_eq_some_iff.mp a;obtain ⟨h2,e2⟩:=List.getElem?_eq_some_iff.mp b;exact (List.getElem_inj hN).mp (e1.trans e2.symm)
def Cf {M:Model} {A:Around} {E:Value->Shared->Prop} {i:Nat} {x:Str} {v:V} {u:Value} {Q:Unit->Shared->Prop} (I:Inv X ag σ H s) (hN:X.N.Nodup) (hi:X.N[i]?=some x) (hx:zg X.env.scope x) (r:bB v u)
  (h:∀ s',Inv X ag (σ.set i (some v)) H s'->(∃ a,Heap.SameBut a s.heap s'.heap/\(a=X.env.locals\/X.env.cells.lookup x=some a))->Q () s') (hf:X.fn x=true\/X.env.scope.names.lookup x=some .local:=by first|exact .inl rfl|exact .inr rfl|assumption):wpAny M A (storeName X.env x u) Q E s:=by
 obtain ⟨m,hn,hl⟩:=id I.loc;have hcls:(X.env.scope.kind==.class||(X.env.scope.kind==.module&&X.env.locals != X.env.globals))=false:=by rw [I.ok.kind];rfl
 have hiσ:i < σ.length:=by rw [I.len];exact (List.getElem?_eq_some_iff.mp hi).1
 have cne:=I.cne;have tracked:∀ {a:Addr} {h':Heap},(∃ o,s.heap.get? a=some o/\H a=none)->Heap.SameBut a s.heap h'->sW X.prog X.w H h':=fun {a h'} ha hs b ob e=>by
  obtain ⟨_,_,hfree⟩:=ha;refine (I.hok b ob e).stay (fun c w' hc q=>(hs.2 c ?_).trans q) (fun _ q=>q) fun _ _ q=>q;rintro rfl;rcases hc with rfl|hc
  ·rw [hfree] at e;cases e
  ·rw [hfree] at hc;cases hc
 rcases hx with hk|hk
 ·refine wpAny_storeName_local hk hn (fun h' hn' hs=>?_) hcls;obtain ⟨oL,_,_,hoL,_⟩:=id hn;refine h _ ⟨I.ok,I.os,I.bare,⟨fun b o e n hb hx=>?_,fun b o e n hb hx=>?_,I.base.free,fun b o e hx=>?_,I.base.tups,I.base.frzs,I.base.tbls⟩,⟨_,hn',fun j y v' e1 e2 e3=>?_⟩,fun y c e=>?_,I.free,I.freeC,fun p hp=>?_,tracked ⟨oL,hoL,I.free⟩ hs,by simpa using I.len,by walk_at "tok"⟩ ⟨_,hs,.inl rfl⟩
  ·exact (hs.2 b (Nat.ne_of_lt (Nat.lt_of_lt_of_le (Heap.lt_size e) I.ok.above))).trans (I.base.keep b o e n hb hx)
  ·obtain ⟨sl,e1⟩:=I.base.slot b o e n hb hx;exact ⟨sl,(hs.2 b (Nat.ne_of_lt (Nat.lt_of_lt_of_le (Heap.lt_size e) I.ok.above))).trans e1⟩
  ·obtain ⟨o',e1⟩:=I.base.there b o e hx;exact ⟨o',(hs.2 b (Nat.ne_of_lt (Nat.lt_of_lt_of_le (Heap.lt_size e) I.ok.above))).trans e1⟩
  ·by_cases hj:j=i
   ·subst hj;rw [hi] at e1;cases e1;rw [List.getElem?_set_self hiσ] at e2;cases e2;exact ⟨u,r,.inl ⟨hk,by simp⟩⟩
   ·rw [List.getElem?_set_ne (Ne.symm hj)] at e2;obtain ⟨u',r',q⟩:=hl j y v' e1 e2 e3;refine ⟨u',r',?_⟩;rcases q with ⟨k,e⟩|⟨k,c,e,z⟩
    ·refine .inl ⟨k,?_⟩
     have:y≠x:=fun e=>hj (yS hN e1 (e ▸ hi))
     simp [this,e]
    ·exact .inr ⟨k,c,e,z.sameBut hs (cne y c e)⟩
  ·obtain ⟨w',z⟩:=I.cell y c e;exact ⟨w',z.sameBut hs (cne y c e)⟩
  ·obtain ⟨e,n,ne,nf,d⟩:=I.pin p hp;exact ⟨(hs.2 p.1 ne).trans e,n,ne,nf,d⟩
 ·have hfn:X.fn x=true:=by
   rcases hf with z|z
   ·exact z
   ·rw [z] at hk;cases hk
  obtain ⟨c,hc⟩:=I.ok.has x (.inl hk);obtain ⟨w',z⟩:=I.cell x c hc;refine wpAny_storeName_cell I.ok.kind hk hc z (fun h' hc' hs=>?_);obtain ⟨oc,hoc,hocd⟩:=id z;refine h { s with heap:=h' } ⟨I.ok,I.os,I.bare,⟨fun b o e n hb hx=>?_,fun b o e n hb hx=>?_,I.base.free,fun b o e hx=>?_,I.base.tups,I.base.frzs,I.base.tbls⟩,⟨m,hn.sameBut hs (Ne.symm (cne x c hc)),fun j y v' e1 e2 e3=>?_⟩,fun y c' e=>?_,I.free,I.freeC,fun p hp=>?_,tracked ⟨oc,hoc,I.freeC x c hc⟩ hs,by simpa using I.len,I.tk⟩ ⟨c,hs,.inr hc⟩
  ·exact (hs.2 b (Nat.ne_of_lt (Nat.lt_of_lt_of_le (Heap.lt_size e) (I.ok.cab x c hfn hc)))).trans (I.base.keep b o e n hb hx)
  ·obtain ⟨sl,e1⟩:=I.base.slot b o e n hb hx;exact ⟨sl,(hs.2 b (Nat.ne_of_lt (Nat.lt_of_lt_of_le (Heap.lt_size e) (I.ok.cab x c hfn hc)))).trans e1⟩
  ·obtain ⟨o',e1⟩:=I.base.there b o e hx;exact ⟨o',(hs.2 b (Nat.ne_of_lt (Nat.lt_of_lt_of_le (Heap.lt_size e) (I.ok.cab x c hfn hc)))).trans e1⟩
  ·by_cases hj:j=i
   ·subst hj;rw [hi] at e1;cases e1;rw [List.getElem?_set_self hiσ] at e2;cases e2;exact ⟨u,r,.inr ⟨.inl hk,c,hc,hc'⟩⟩
   ·rw [List.getElem?_set_ne (Ne.symm hj)] at e2;obtain ⟨u',r',q⟩:=hl j y v' e1 e2 e3;refine ⟨u',r',?_⟩;rcases q with q|⟨k,c',e,z'⟩
    ·exact .inl q
    ·refine .inr ⟨k,c',e,z'.sameBut hs ?_⟩;rintro rfl;exact hj (yS hN e1 (I.ok.inj _ _ _ e hc ▸ hi))
  ·by_cases hcc:c'=c
   ·subst hcc;exact ⟨_,hc'⟩
   ·obtain ⟨w2,z2⟩:=I.cell y c' e;exact ⟨w2,z2.sameBut hs hcc⟩
  ·obtain ⟨e,n,ne,nf,d⟩:=I.pin p hp;refine ⟨(hs.2 p.1 ?_).trans e,n,ne,nf,d⟩;intro q;rw [q,hoc] at e;have q':oc=p.2:=Option.some.inj e;exact d w' (by rw [<- q'];exact hocd)
def xV {M:Model} {A:Around} {E:Value->Shared->Prop} {i:Nat} {x:Str} {v:V} {u:Value} {Q:Unit->Shared->Prop} (I:Inv X ag σ H s) (hN:X.N.Nodup) (hi:X.N[i]?=some x) (hx:zg X.env.scope x) (r:bB v u)
  (h:∀ s',Inv X ag (σ.set i (some v)) H s'->Q () s') (hf:X.fn x=true\/X.env.scope.names.lookup x=some .local:=by first|exact .inl rfl|exact .inr rfl|assumption):wpAny M A (storeName X.env x u) Q E s :=
 Cf I hN hi hx r (fun s' I' _=>h s' I') hf
def Inv.call' {s':Shared} {ch:List Addr} (I:Inv X ag σ H s) (ho:s'.os=s.os) (u:Un (C9 X.stack) ch H H' s.heap s'.heap) (hok:sW X.prog X.w H' s'.heap) (hg:AllBare s'.gens)
  (hch:∀ b∈ch,(b∈X.ex\/X.s₀.heap.objs.size<=b)/\b≠X.env.locals/\(∀ x c,X.env.cells.lookup x=some c->c≠b)/\∀ p∈X.pn++ag,p.1≠b) (ht:X.tn<=s'.toks:=by walk_at "tok"):Inv X ag σ H' s':=by
 obtain ⟨h',g',d',t',o'⟩:=s';have e:o'=s.os:=ho;subst e;exact I.call (g':=g') (t':=t') (d':=d') u hok hg hch
end
abbrev XK:=Value->Option Addr->Hp->Prop
abbrev St:=List (Option V)
abbrev VK:=V->Hp->Prop
abbrev TE:=St->Hp->VK->Prop
abbrev TT:=St->Hp->(Bool->Hp->Prop)->Prop
abbrev TA:=St->Hp->(List V->Hp->Prop)->Prop
structure Ends where
 nx:St->Hp->Prop
 rt:VK
 bk:St->Hp->Prop:=fun _ _=>False
 ct:St->Hp->Prop:=fun _ _=>False
abbrev TS:=Ends->St->Hp->Prop
def EP (X:Cx) (ag:List (Addr×Obj)) (σ:St) (Q:VK) (u:Value) (s':Shared):Prop:=∃ v H',Inv X ag σ H' s'/\bB v u/\Q v H'
def TP (X:Cx) (ag:List (Addr×Obj)) (σ:St) (Q:Bool->Hp->Prop) (b:Bool) (s':Shared):Prop:=∃ H',Inv X ag σ H' s'/\Q b H'
def AP (X:Cx) (ag:List (Addr×Obj)) (σ:St) (Q:List V->Hp->Prop) (us:List Value) (s':Shared):Prop:=∃ vs H',Inv X ag σ H' s'/\bK vs us/\Q vs H'
def SP (X:Cx) (ag:List (Addr×Obj)) (D:Ends) (f:Flow) (s':Shared):Prop :=
 match f with
 | .next=>∃ σ' H',Inv X ag σ' H' s'/\D.nx σ' H'
 | .brk=>∃ σ' H',Inv X ag σ' H' s'/\D.bk σ' H'
 | .cont=>∃ σ' H',Inv X ag σ' H' s'/\D.ct σ' H'
 | .ret u=>∃ v σ' H',Inv X ag σ' H' s'/\bB v u/\D.rt v H'
def PE (X:Cx) (e:Expr) (t:TE):Prop :=
 ∀ (ag:List (Addr×Obj)) (s:Shared) (σ:St) (H:Hp) (Q:VK),Inv X ag σ H s->t σ H Q->wpAny (model X.prog X.w) X.A (eval e X.env) (EP X ag σ Q) X.xe s
def PT (X:Cx) (e:Expr) (t:TT):Prop :=
 ∀ (ag:List (Addr×Obj)) (s:Shared) (σ:St) (H:Hp) (Q:Bool->Hp->Prop),Inv X ag σ H s->t σ H Q->wpAny (model X.prog X.w) X.A (isTrue e X.env (eval e X.env)) (TP X ag σ Q) X.xe s
def PW (X:Cx) (e:Expr) (t:TT):Prop :=
 ∀ (la:Sem Value) (ag:List (Addr×Obj)) (s:Shared) (σ:St) (H:Hp) (Q:Bool->Hp->Prop),Inv X ag σ H s->t σ H Q->wpAny (model X.prog X.w) X.A (isTrue e X.env la) (TP X ag σ Q) X.xe s
def PW.pt {X:Cx} {e:Expr} {t:TT} (h:PW X e t):PT X e t:=h _
def PA (X:Cx) (es:List Expr) (t:TA):Prop :=
 ∀ (pos:Pos) (ag:List (Addr×Obj)) (s:Shared) (σ:St) (H:Hp) (Q:List V->Hp->Prop),Inv X ag σ H s->t σ H Q->wpAny (model X.prog X.w) X.A (spliced (backTo pos (starEach es X.env))) (AP X ag σ Q) X.xe s
def PS (X:Cx) (st:Stmt) (t:TS):Prop :=
 ∀ (ag:List (Addr×Obj)) (s:Shared) (σ:St) (H:Hp) (D:Ends),Inv X ag σ H s->t D σ H->wpAny (model X.prog X.w) X.A (exec st X.env) (SP X ag D) X.xe s
def zw (X:Cx) (st:List Stmt) (t:TS):Prop :=
 ∀ (ag:List (Addr×Obj)) (s:Shared) (σ:St) (H:Hp) (D:Ends),Inv X ag σ H s->t D σ H->wpAny (model X.prog X.w) X.A (execs st X.env) (SP X ag D) X.xe s
def gH {α:Type} {t:Sem α} {Q Q':α->Shared->Prop} {M:Model} {A:Around} {E:Value->Shared->Prop} {s:Shared} (h:wpAny M A t Q E s) (hQ:∀ a s,Q a s->Q' a s):wpAny M A t Q' E s:=wpAny_mono h hQ fun _ _ x=>x
section
variable {X:Cx}
def Q5 (i:Nat):TE:=fun σ H Q=>∃ v,σ[i]?=some (some v)/\Q v H
def tC (v:V):TE:=fun _ H Q=>Q v H
def Lh {i:Nat} {x:Str} {pos:Pos} (hN:X.N[i]?=some x) (hv:zv X.env.scope x) (hd:(x==("__debug__":Str))=false:=by decide) (hcd:(x==("__classdict__":Str))=false:=by decide):PE X (.Name x pos) (Q5 i):=by
 intro ag s σ H Q I h;obtain ⟨v,e,h⟩:=h;obtain ⟨m,hn,hl⟩:=I.loc;obtain ⟨u,r,l⟩:=hl i x v hN e hv;have fin:EP X ag σ Q u s:=⟨v,H,I,r,h⟩;rcases l with ⟨hk,hm⟩|⟨hk,c,hc,hcell⟩
 ·exact wpAny_Name (wpAny_loadName_local I.ok.kind hk hn hm fin) hd
 ·rcases hk with hk|hk
  ·exact wpAny_Name (wpAny_loadName_cell I.ok.kind hk hc hcell fin) hd
  ·exact wpAny_Name (wpAny_loadName_free I.ok.kind hk hc hcell fin hcd) hd
def Lc {i j pos}:PE X (.Constant (.int i) j pos) (tC (.int i)):=fun _ _ _ H _ I h=>wpAny_Constant_int ⟨.int i,H,I.tok _,⟨_,rfl⟩,h⟩
def OG {b j pos}:PE X (.Constant (.bool b) j pos) (tC (.bl b)):=fun _ _ _ H _ I h=>Constant_bool ⟨.bl b,H,I,rfl,h⟩
def LA {j pos}:PE X (.Constant .none j pos) (tC .non):=fun _ _ _ H _ I h=>Constant_none ⟨.non,H,I,rfl,h⟩
def Lf {x j pos}:PE X (.Constant (.str x) j pos) (tC (.str x)):=fun _ _ _ H _ I h=>Calls.Constant_str ⟨.str x,H,I.tok _,⟨_,rfl⟩,h⟩
def Gl (X:Cx) (x:Str):Prop:=X.env.kindOf x=some .globalImplicit
def BG {E:Value->Shared->Prop} {ag:List (Addr×Obj)} {s:Shared} {σ:St} {H:Hp} {x:Str} {u:Value} {pos:Pos} {Q:Value->Shared->Prop} (I:Inv X ag σ H s) (hg:Gl X x) (hm:X.mg x=some u) (h:Q u s)
  (hd:(x==("__debug__":Str))=false:=by decide):wpAny (model X.prog X.w) X.A (eval (.Name x pos) X.env) Q E s :=
 Calls.Name_function_global I.ok.kind hg (Calls.loadGlobal_global (by rw [I.ok.glob];exact I.mod.glob.keeps I.bk) hm h) hd
def nv {E:Value->Shared->Prop} {ag:List (Addr×Obj)} {s:Shared} {σ:St} {H:Hp} {x:Str} {u:Value} {pos:Pos} {Q:Value->Shared->Prop} (I:Inv X ag σ H s) (hg:Gl X x) (hm:X.mg x=none) (hv:bootBuiltins x=some u) (h:Q u s)
  (hn:x≠"__name__":=by decide) (hd:(x==("__debug__":Str))=false:=by decide):wpAny (model X.prog X.w) X.A (eval (.Name x pos) X.env) Q E s:=by
 obtain ⟨mb,h1,h2⟩:=I.mod.blt;exact Calls.Name_function_global I.ok.kind hg (Calls.loadGlobal_builtin (by rw [I.ok.glob];exact I.mod.glob.keeps I.bk) hm (by rw [I.ok.blt];exact h1.keeps I.bk) ((h2 x hn).trans hv) h) hd
def Hi {x:Str} {v:V} {u:Value} {pos:Pos} (hg:Gl X x) (hm:X.mg x=some u) (r:bB v u) (hd:(x==("__debug__":Str))=false:=by decide):PE X (.Name x pos) (tC v) :=
 fun _ _ _ H _ I h=>BG I hg hm ⟨v,H,I,r,h⟩ hd
def Gr {x:Str} {v:V} {u:Value} {pos:Pos} (hg:Gl X x) (hm:X.mg x=none) (hv:bootBuiltins x=some u) (r:bB v u) (hn:x≠"__name__":=by decide) (hd:(x==("__debug__":Str))=false:=by decide):PE X (.Name x pos) (tC v) :=
 fun _ _ _ H _ I h=>nv I hg hm hv ⟨v,H,I,r,h⟩ hn hd
variable {a b:Expr} {ta tb:TE} {pos:Pos}
def tB (t:TE):TT:=fun σ H Q=>t σ H fun x H1=>∃ c,x=.bl c/\Q c H1
variable {tA tB':TT} {rest:List Expr}
def Oa (t u:TT):TT:=fun σ H Q=>t σ H fun c H1=>if c=true then u σ H1 Q else Q false H1
def Sw (t u:TT):TT:=fun σ H Q=>t σ H fun c H1=>if c=true then Q true H1 else u σ H1 Q
def Ql (t:TT):TT:=fun σ H Q=>t σ H fun c H1=>Q (!c) H1
def Ie (ha:PT X a tA):PW X (.BoolOp .And [a] pos) tA:=by
 intro wh ag s σ H Q I h;refine isTrue_and (gH (ha ag s σ H Q I h) fun c s1 e=>?_);cases c with
 | true=>exact isTrue_and_nil e
 | false=>exact e
def Kt (ha:PT X a tA):PW X (.BoolOp .Or [a] pos) tA:=by
 intro wh ag s σ H Q I h;refine isTrue_or (gH (ha ag s σ H Q I h) fun c s1 e=>?_);cases c with
 | false=>exact isTrue_or_nil e
 | true=>exact e
def JZ (ha:PT X a tA) (hb:PW X (.BoolOp .And (b::rest) pos) tB'):PW X (.BoolOp .And (a::b::rest) pos) (Oa tA tB'):=by
 intro wh ag s σ H Q I h;refine isTrue_and (gH (ha ag s σ H _ I h) fun c s1 ⟨H1,I1,q1⟩=>?_);cases c with
 | true=>exact hb wh ag s1 σ H1 Q I1 q1
 | false=>exact ⟨H1,I1,q1⟩
def Pf (ha:PT X a tA) (hb:PW X (.BoolOp .Or (b::rest) pos) tB'):PW X (.BoolOp .Or (a::b::rest) pos) (Sw tA tB'):=by
 intro wh ag s σ H Q I h;refine isTrue_or (gH (ha ag s σ H _ I h) fun c s1 ⟨H1,I1,q1⟩=>?_);cases c with
 | true=>exact ⟨H1,I1,q1⟩
 | false=>exact hb wh ag s1 σ H1 Q I1 q1
def Lb (ha:PT X a tA):PT X (.UnaryOp .Not a pos) (Ql tA):=by
 intro ag s σ H Q I h;exact isTrue_not (ha ag s σ H (fun c H1=>Q (!c) H1) I h)
def K4 {op} {t:TE} (h:PE X a t):PE X (.BoolOp op [a] pos) t:=fun ag s σ H Q I hw=>BoolOp_one (h ag s σ H Q I hw)
def S0 (t:TT) (ta tb:TE):TE:=fun σ H Q=>t σ H fun c H1=>if c=true then ta σ H1 Q else tb σ H1 Q
def Dd {c:Expr} (hc:PT X c tA) (ha:PE X a ta) (hb:PE X b tb):PE X (.IfExp c a b pos) (S0 tA ta tb):=by
 intro ag s σ H Q I h;refine wpAny_IfExp (gH (hc ag s σ H _ I h) fun d s1 ⟨H1,I1,q1⟩=>?_);cases d with
 | true=>exact ha ag s1 σ H1 Q I1 q1
 | false=>exact hb ag s1 σ H1 Q I1 q1
end
def dZ (K:PySem.W.Frag) (H:Hp) (a:Addr) (xs:List V):Prop :=
 Rd H a (.lst xs) \/
  ∃ (o:Obj) (its:Array Value) (n:Nat),K.lookup a=some o/\o.cls=.type "list"/\o.dict=none/\o.data=.seq its n/\its.size<=sizeLine/\bK xs its.toList
def lG (K:PySem.W.Frag) (H:Hp) (a:Addr) (xs:List V):Prop :=
 Rd H a (.tup xs) \/
  ∃ (o:Obj) (its:Array Value) (n:Nat),K.lookup a=some o/\o.cls=.type "tuple"/\o.data=.seq its n/\its.size<=sizeLine/\bK xs its.toList
def RY:Value->Option V
 | .none=>some .non
 | .bool b=>some (.bl b)
 | .int i _=>some (.int i)
 | .str x _=>some (.str x)
 | .bytes b _=>some (.byt b)
 | .float b _=>some (.flt b)
 | .ref a=>some (.ref a)
 | .type n=>some (.ty n)
 | _=>none
def bB.abs {x:V} {u:Value} (r:bB x u):RY u=some x:=by
 cases x with
 | non=>cases r;rfl
 | bl _=>cases r;rfl
 | int _=>obtain ⟨t,rfl⟩:=r;rfl
 | str _=>obtain ⟨t,rfl⟩:=r;rfl
 | byt _=>obtain ⟨t,rfl⟩:=r;rfl
 | flt _=>obtain ⟨t,rfl⟩:=r;rfl
 | ref _=>cases r;rfl
 | ty _=>cases r;rfl
def bB.inj {x y:V} {u:Value} (r:bB x u) (q:bB y u):x=y:=Option.some.inj (r.abs.symm.trans q.abs)
def bK.inj:∀ {xs ys:List V} {us:List Value},bK xs us->bK ys us->xs=ys
 | _,_,_,.nil,.nil=>rfl
 | _,_,_,.cons r t,.cons r' t'=>by rw [r.inj r',bK.inj t t']
section
variable {X:Cx} {ag:List (Addr×Obj)} {σ:St} {H:Hp} {s:Shared} {a:Addr} {xs ys:List V}
def dZ.of {K:PySem.W.Frag} (h:H a=some (.lst xs)):dZ K H a xs:=.inl (.inl h)
def Inv.list (I:Inv X ag σ H s) (h:dZ X.K H a xs):∃ its:List Value,bK xs its/\PlainL s.heap a its.toArray/\xs.length<=sizeLine:=by
 rcases h with h|⟨o,its,n,hk,hc,hd,hs,hz,r⟩
 ·obtain ⟨z,its,n,r,e⟩:=h.ok I.hok;exact ⟨its,r,⟨_,n,e,rfl,rfl,rfl⟩,z⟩
 ·refine ⟨its.toList,r,⟨o,n,I.kIn a o hk,hc,hd,by simpa using hs⟩,?_⟩;have e:=r.length;simp only [Array.length_toList] at e;omega
def Inv.tuple (I:Inv X ag σ H s) (h:lG X.K H a xs):∃ its:List Value,bK xs its/\IsTup s.heap a its.toArray/\xs.length<=sizeLine:=by
 rcases h with h|⟨o,its,n,hk,hc,hs,hz,r⟩
 ·obtain ⟨z,its,r,p⟩:=h.ok I.hok;exact ⟨its,r,p,z⟩
 ·refine ⟨its.toList,r,⟨o,I.kIn a o hk,hc,n,by simpa using hs⟩,?_⟩;have e:=r.length;simp only [Array.length_toList] at e;omega
def Inv.list_inj (I:Inv X ag σ H s) (h:dZ X.K H a xs) (h':dZ X.K H a ys):xs=ys:=by
 obtain ⟨its,r,⟨o,n,e,_,_,d⟩,_⟩:=I.list h;obtain ⟨its',r',⟨o',n',e',_,_,d'⟩,_⟩:=I.list h';rw [e] at e';cases e';rw [d] at d';injection d' with d1 _
 have:its=its':=by simpa using congrArg Array.toList d1
 subst this;exact r.inj r'
def Inv.tuple_inj (I:Inv X ag σ H s) (h:lG X.K H a xs) (h':lG X.K H a ys):xs=ys:=by
 obtain ⟨its,r,⟨o,e,_,n,d⟩,_⟩:=I.tuple h;obtain ⟨its',r',⟨o',e',_,n',d'⟩,_⟩:=I.tuple h';rw [e] at e';cases e';rw [d] at d';injection d' with d1 _
 have:its=its':=by simpa using congrArg Array.toList d1
 subst this;exact r.inj r'
end
abbrev Cx.wish (X:Cx) (E:Value->Shared->Prop):Cx:={ X with xe:=E }
abbrev Cx.nox (X:Cx):Cx:=X.wish fun _ _=>False
def Cx.Ok.wish {X:Cx} (ok:X.Ok) (E:Value->Shared->Prop):(X.wish E).Ok :=
 ⟨ok.mod,ok.kind,ok.glob,ok.blt,ok.above,ok.inj,ok.has,ok.cab,ok.hd,ok.frames,ok.stk,ok.exf,ok.bs,ok.bsz,ok.noex,ok.exfs,ok.funs,ok.frf⟩
def Cx.Ok.unwish {X:Cx} {E:Value->Shared->Prop} (ok:(X.wish E).Ok):X.Ok :=
 ⟨ok.mod,ok.kind,ok.glob,ok.blt,ok.above,ok.inj,ok.has,ok.cab,ok.hd,ok.frames,ok.stk,ok.exf,ok.bs,ok.bsz,ok.noex,ok.exfs,ok.funs,ok.frf⟩
section
variable {X:Cx} {ag:List (Addr×Obj)} {σ:St} {H:Hp} {s:Shared} {E:Value->Shared->Prop}
def Inv.wish (I:Inv X ag σ H s) (E:Value->Shared->Prop):Inv (X.wish E) ag σ H s:=⟨I.ok.wish E,I.os,I.bare,I.base,I.loc,I.cell,I.free,I.freeC,I.pin,I.hok,I.len,I.tk⟩
def Inv.unwish (I:Inv (X.wish E) ag σ H s):Inv X ag σ H s:=⟨I.ok.unwish,I.os,I.bare,I.base,I.loc,I.cell,I.free,I.freeC,I.pin,I.hok,I.len,I.tk⟩
def SP.unwish {D:Ends} {f:Flow} {s':Shared} (h:SP (X.wish E) ag D f s'):SP X ag D f s':=by
 cases f with
 | next=>obtain ⟨σ',H',I,q⟩:=h;exact ⟨σ',H',I.unwish,q⟩
 | brk=>obtain ⟨σ',H',I,q⟩:=h;exact ⟨σ',H',I.unwish,q⟩
 | cont=>obtain ⟨σ',H',I,q⟩:=h;exact ⟨σ',H',I.unwish,q⟩
 | ret u=>obtain ⟨v,σ',H',I,r,q⟩:=h;exact ⟨v,σ',H',I.unwish,r,q⟩
def zw.nox {st:List Stmt} {t:TS} (h:zw X.nox st t):zw X st t:=fun ag s σ H D I hw =>
 wpAny_mono (h ag s σ H D (I.wish _) hw) (fun _ _ q=>q.unwish) fun _ _ z=>False.elim z
end
section
variable {X:Cx} {st:Stmt} {rest:List Stmt} {t u:TS} {e:Expr} {te:TE} {pos:Pos}
def D0:TS:=fun D σ H=>D.nx σ H
def Ey (t u:TS):TS:=fun D σ H=>t { D with nx:=u D } σ H
def GC:zw X [] D0:=fun _ _ σ H _ I h=>wpAny_execs_nil ⟨σ,H,I,h⟩
def Df (h1:PS X st t) (h2:zw X rest u):zw X (st::rest) (Ey t u):=by
 intro ag s σ H D I h;refine wpAny_execs_cons (gH (h1 ag s σ H { D with nx:=u D } I h) fun f s1 q=>?_);cases f with
 | next =>
  obtain ⟨σ',H',I',q⟩:=q;exact h2 ag s1 σ' H' D I' q
 | ret v=>exact q
 | brk=>exact q
 | cont=>exact q
def G4 (h1:PS X st t):zw X [st] t:=by
 intro ag s σ H D I h;refine wpAny_execs_cons (gH (h1 ag s σ H D I h) fun f s1 q=>?_);cases f with
 | next=>exact wpAny_execs_nil q
 | ret v=>exact q
 | brk=>exact q
 | cont=>exact q
theorem Inv.quiet {ag:List (Addr×Obj)} {σ:St} {H:Hp} {s:Shared} (I:Inv X ag σ H s):interactive X.env=false:=by simp [interactive,I.ok.kind]
def ug (te:TE):TS:=fun D σ H=>te σ H fun _ H1=>D.nx σ H1
def He (he:PE X e te) (hs:swapsWith e none pos.line X.env=pure false:=by rfl):PS X (.Expr e pos) (ug te):=by
 intro ag s σ H D I h;exact wpAny_Expr_any (gH (he ag s σ H _ I h) fun v s1 hh=>qK hh fun x H1 I1 r1 q1=>⟨σ,H1,I1,q1⟩) I.quiet hs
def Kh (te:TE):TS:=fun D σ H=>te σ H D.rt
def Kr (he:PE X e te):PS X (.Return (some e) pos) (Kh te):=by
 intro ag s σ H D I h;exact wpAny_Return_some (gH (he ag s σ H _ I h) fun v s1 hh=>qK hh fun x H1 I1 r1 q1=>⟨x,σ,H1,I1,r1,q1⟩)
def HK (c:TT) (t u:TS):TS:=fun D σ H=>c σ H fun b H1=>if b=true then t D σ H1 else u D σ H1
def MO {c:Expr} {a b:List Stmt} {tc:TT} (hc:PT X c tc) (ha:zw X a t) (hb:zw X b u):PS X (.If c a b pos) (HK tc t u):=by
 intro ag s σ H D I h;refine wpAny_If (gH (hc ag s σ H _ I h) fun d s1 ⟨H1,I1,q1⟩=>?_);cases d with
 | true=>exact ha ag s1 σ H1 D I1 q1
 | false=>exact hb ag s1 σ H1 D I1 q1
end
abbrev TG:=V->St->Hp->(St->Hp->Prop)->Prop
abbrev Db:=List V->St->Hp->(St->Hp->Prop)->Prop
def PG (X:Cx) (target:Expr) (t:TG):Prop :=
 ∀ (ag:List (Addr×Obj)) (s:Shared) (σ:St) (H:Hp) (v:V) (u:Value) (Q:St->Hp->Prop),Inv X ag σ H s->bB v u->t v σ H Q ->
  wpAny (model X.prog X.w) X.A (assign target X.env u) (fun _ s'=>∃ σ' H',Inv X ag σ' H' s'/\Q σ' H') X.xe s
def NW (X:Cx) (ts:List Expr) (t:Db):Prop :=
 ∀ (ag:List (Addr×Obj)) (s:Shared) (σ:St) (H:Hp) (vs:List V) (us:List Value) (Q:St->Hp->Prop),Inv X ag σ H s->bK vs us->t vs σ H Q ->
  wpAny (model X.prog X.w) X.A (assignInOrder ((assignEach ts X.env).map (·.2)) us) (fun _ s'=>∃ σ' H',Inv X ag σ' H' s'/\Q σ' H') X.xe s
section
variable {X:Cx} {pos:Pos}
def i6 (i:Nat):TG:=fun v σ H Q=>Q (σ.set i (some v)) H
def BS {i:Nat} {x:Str} (hN:X.N.Nodup) (hi:X.N[i]?=some x) (hx:zg X.env.scope x) (hf:X.fn x=true\/X.env.scope.names.lookup x=some .local:=by first|exact .inl rfl|exact .inr rfl|assumption):PG X (.Name x pos) (i6 i):=by
 intro ag s σ H v u Q I r h;exact wpAny_assign_Name (xV I hN hi hx r (fun s' I'=>⟨_,H,I',h⟩) hf)
def J5:Db:=fun vs σ H Q=>vs=[]/\Q σ H
def A3 (t:TG) (u:Db):Db:=fun vs σ H Q=>∃ v r,vs=v::r/\t v σ H fun σ' H'=>u r σ' H' Q
def F7:NW X [] J5:=by
 intro ag s σ H vs us Q I r h;obtain ⟨e,h⟩:=h;subst e;cases r;exact assignInOrder_nil ⟨σ,H,I,h⟩
def Dt {e:Expr} {es:List Expr} {t:TG} {u:Db} (h1:PG X e t) (h2:NW X es u)
  (hs:(assignEach (e::es) X.env).map (·.2)=assign e X.env::(assignEach es X.env).map (·.2):=by rfl):NW X (e::es) (A3 t u):=by
 intro ag s σ H vs us Q I r h;obtain ⟨v,vr,e1,h⟩:=h;subst e1;cases r with
 | cons r rr =>
  rw [hs];refine assignInOrder_cons (gH (h1 ag s σ H _ _ _ I r h) fun _ s1 ⟨σ1,H1,I1,q1⟩=>?_);exact h2 ag s1 σ1 H1 _ _ Q I1 rr q1
def LZ (K:PySem.W.Frag) (n:Nat) (t:Db):TG:=fun v σ H Q=>∃ a xs,v=.ref a/\lG K H a xs/\xs.length=n/\t xs σ H Q
def Jw {es:List Expr} {k:Nat} {t:Db} {n:Nat} (hc:X.calm=true) (h:NW X es t)
  (hn:(assignEach es X.env).length=n:=by rfl) (hst:(assignEach es X.env).findIdx? (·.1)=none:=by rfl):PG X (.Tuple es k pos) (LZ X.K n t):=by
 intro ag s σ H v u Q I r hw;obtain ⟨a,xs,e1,hq,hl,hw⟩:=hw;subst e1;cases r;obtain ⟨its,rv,ht,hz⟩:=I.tuple hq;refine assign_Tuple_tuple (I.ok.hd hc) ht (by simp [hn,<- hl,rv.length]) hst fun h' hx=>?_;have I1:Inv X ag σ H { s with heap:=h' }:=I.kept (t':=s.toks) fun b o e=>hx b o (Nat.ne_of_lt (Heap.lt_size e)) e;exact h ag _ σ H xs _ Q I1 (by simpa using rv) hw
def xT (te:TE) (g:TG):TS:=fun D σ H=>te σ H fun x H1=>g x σ H1 D.nx
def Kk {i:Nat} {x:Str} {e:Expr} {te:TE} {pos':Pos} (hN:X.N.Nodup) (hi:X.N[i]?=some x) (hx:zg X.env.scope x) (he:PE X e te) (hs:swapsWith e (some (.Name x pos')) pos.line X.env=pure false:=by rfl) (hf:X.fn x=true\/X.env.scope.names.lookup x=some .local:=by first|exact .inl rfl|exact .inr rfl|assumption) :
  PS X (.Assign [.Name x pos'] e pos) (xT te (i6 i)):=by
 intro ag s σ H D I h;refine wpAny_Assign_Name (gH (he ag s σ H _ I h) fun v s1 hh=>qK hh fun y H1 I1 r1 q1=>?_) hs;exact xV I1 hN hi hx r1 (fun s2 I2=>⟨_,H1,I2,q1⟩) hf
end
section
variable {X:Cx} {pos:Pos}
def EH (c:TT) (tb:TS):TS:=fun D σ H=>∃ W:Nat->St->Hp->Prop,(∃ m,W m σ H)/\∀ m σ H,W m σ H ->
 c σ H fun b H1=>if b=true then ∃ N:St->Hp->Prop,(∀ σ' H',N σ' H'->∃ m',m' < m/\W m' σ' H')/\tb { D with nx:=N,ct:=N,bk:=D.nx } σ H1 else D.nx σ H1
def EW {c:Expr} {body:List Stmt} {tc:TT} {tb:TS} (hp:PassesOwn (model X.prog X.w) X.A X.env X.xe) (hc:PT X c tc) (hb:zw X body tb):PS X (.While c body [] pos) (EH tc tb):=by
 intro ag s σ H D I h;obtain ⟨W,⟨m0,w0⟩,turn⟩:=h;refine wpAny_While (codeAny_whileLoop (fun n s'=>∃ σ' H',Inv X ag σ' H' s'/\W n σ' H') ?_ m0 ⟨σ,H,I,w0⟩);rintro n s1 ⟨σ1,H1,I1,w1⟩;refine wpAny_passesOwn hp (gH (hc ag s1 σ1 H1 _ I1 (turn n σ1 H1 w1)) fun b s2 ⟨H2,I2,q2⟩=>?_);cases b with
 | true =>
  obtain ⟨N,hN,q2⟩:=q2;rw [if_pos rfl];refine wpAny_passesOwn hp (gH (hb ag s2 σ1 H2 _ I2 q2) fun f s3 q3=>?_);cases f with
  | next =>
   obtain ⟨σ3,H3,I3,n3⟩:=q3;obtain ⟨m',hm,w3⟩:=hN σ3 H3 n3;exact ⟨m',hm,σ3,H3,I3,w3⟩
  | cont =>
   obtain ⟨σ3,H3,I3,n3⟩:=q3;obtain ⟨m',hm,w3⟩:=hN σ3 H3 n3;exact ⟨m',hm,σ3,H3,I3,w3⟩
  | brk=>exact q3
  | ret v=>exact q3
 | false =>
  rw [if_neg Bool.false_ne_true];exact wpAny_execs_nil ⟨σ1,H2,I2,q2⟩
end
structure It where
 go:Nat->Hp->Prop
 yld:Nat->Hp->V->Hp->Prop
 stop:Nat->Hp->Prop
def kh (X:Cx) (ag:List (Addr×Obj)) (H:Hp) (b:Addr):Prop :=
 H b=none/\b≠X.env.locals/\b∉X.fs/\(b∈X.ex\/X.s₀.heap.objs.size<=b)/\(∀ x c,X.env.cells.lookup x=some c->c≠b)/\∀ p∈X.pn++ag,p.1≠b
def Inv.fpOk {X:Cx} {ag:List (Addr×Obj)} {σ:St} {H H':Hp} {s:Shared} {b:Addr} (I:Inv X ag σ H s) (hb:s.heap.objs.size<=b) (hn:H' b=none):kh X ag H' b:=by
 refine ⟨hn,Nat.ne_of_gt (Nat.lt_of_lt_of_le I.lt hb),I.nofs hb,.inr (Nat.le_trans I.sz hb),fun x c e z=>?_,fun p hp z=>?_⟩
 ·obtain ⟨v,q⟩:=I.cell x c e;exact absurd (Nat.lt_of_lt_of_le q.lt (by rw [z];exact hb)) (Nat.lt_irrefl _)
 ·exact absurd (Nat.lt_of_lt_of_le (Heap.lt_size (I.pin p hp).1) (by rw [z];exact hb)) (Nat.lt_irrefl _)
structure Turn (P:Program) (w:World) (K:PySem.W.Frag) (tg:Expr) (J:It) (fp:List Addr) (it:Addr) (tn:Nat->Heap->Prop):Prop where
 mem:it∈fp
 obj:∀ i h,tn i h->∀ b∈fp,∃ o,h.get? b=some o/\∀ v,o.data≠.cell v
 keep:∀ i h h',tn i h->(∀ b∈fp,∀ o,h.get? b=some o->h'.get? b=some o)->tn i h'
 item:∀ (X:Cx),X.prog=P->X.w=w->X.K=K->X.calm=true->∀ (i:Nat) (ag:List (Addr×Obj)) (s:Shared) (σ:St) (H:Hp) (E:Value->Shared->Prop),Inv X ag σ H s->(∀ b∈fp,kh X ag H b)->tn i s.heap->J.go i H ->
  wpAny (model P w) X.A (pyNext (.ref it)) (fun r s1=>∃ u,r=some u /\
   wpAny (model P w) X.A (letOwnedTupleGo tg (.ref it) u) (fun _ s2=>∃ x H',Inv X ag σ H' s2/\bB x u/\J.yld i H x H'/\tn (i+1) s2.heap/\∀ b∈fp,H' b=none) E s1) E s
 done:∀ (X:Cx),X.prog=P->X.w=w->X.K=K->X.calm=true->∀ (i:Nat) (ag:List (Addr×Obj)) (s:Shared) (σ:St) (H:Hp) (E:Value->Shared->Prop),Inv X ag σ H s->(∀ b∈fp,kh X ag H b)->tn i s.heap->J.stop i H ->
  wpAny (model P w) X.A (pyNext (.ref it)) (fun r s1=>r=none/\Inv X ag σ H s1) E s
 self:∀ (A:Around) (i:Nat) (s:Shared) (Q:Value->Shared->Prop) (E:Value->Shared->Prop),tn i s.heap->Q (.ref it) s->wpAny (model P w) A (pyIter (.ref it)) Q E s
abbrev TI:=St->Hp->(It->Hp->Prop)->Prop
def RI (X:Cx) (ag:List (Addr×Obj)) (σ:St) (tg:Expr) (R:It->Hp->Prop) (itv:Value) (s2:Shared):Prop :=
 ∃ (it:Addr) (fp:List Addr) (tn:Nat->Heap->Prop) (J:It) (H':Hp),itv=.ref it/\Inv X ag σ H' s2/\Turn X.prog X.w X.K tg J fp it tn/\tn 0 s2.heap/\(∀ b∈fp,kh X ag H' b)/\R J H'
def PI (X:Cx) (tg iter:Expr) (wi:TI):Prop :=
 ∀ (ag:List (Addr×Obj)) (s:Shared) (σ:St) (H:Hp) (R:It->Hp->Prop),Inv X ag σ H s->wi σ H R ->
  wpAny (model X.prog X.w) X.A (eval iter X.env) (fun v s1=>wpAny (model X.prog X.w) X.A (pyIter v) (RI X ag σ tg R) X.xe s1) X.xe s
def yQ {M:Model} {A:Around} {E:Value->Shared->Prop} {s:Shared} {tg:Expr} {it:Addr} {u:Value} {o:Obj} {n:String} {vs:Array Value} {Q:Unit->Shared->Prop} (ho:s.heap.get? it=some o) (hc:o.cls=.type n) (hd:o.data=.fields vs)
    (hn:["enumerate","zip","dict_itemiterator","dict_reverseitemiterator","odict_iterator","itertools.zip_longest","itertools.pairwise"].contains n=false) (hQ:Q () s):wpAny M A (letOwnedTupleGo tg (.ref it) u) Q E s:=by
  unfold letOwnedTupleGo;cases tg <;> first
    | exact wpAny_pure hQ
    | (cases u <;> first
        | exact wpAny_pure hQ
        | (refine wpAny_bind (wpAny_load ho ?_)
           rw [hc,hd];show wpAny M A (if (["enumerate","zip","dict_itemiterator","dict_reverseitemiterator","odict_iterator","itertools.zip_longest","itertools.pairwise"].contains n&&vs[0]?==some (rawInt _))=true then _ else _) Q E s;rw [if_neg (by intro h;rw [hn,Bool.false_and] at h;cases h)];exact wpAny_pure hQ))
def QU (K:PySem.W.Frag) (a:Addr):It :=
 ⟨fun i H=>∃ xs x,dZ K H a xs/\xs[i]?=some x,fun i H x H'=>H'=H/\∀ xs,dZ K H a xs->xs[i]?=some x,fun i H=>∃ xs,dZ K H a xs/\xs.length<=i⟩
def RA (K:PySem.W.Frag) (a:Addr):It :=
 ⟨fun i H=>∃ xs x,lG K H a xs/\xs[i]?=some x,fun i H x H'=>H'=H/\∀ xs,lG K H a xs->xs[i]?=some x,fun i H=>∃ xs,lG K H a xs/\xs.length<=i⟩
def QZ (lo:Int) (n:Nat):It:=⟨fun i _=>i < n,fun i H x H'=>H'=H/\x=.int (lo+i),fun i _=>n<=i⟩
def B7 {P:Program} {w:World} {K:PySem.W.Frag} {tg:Expr} (a it:Addr):Turn P w K tg (QU K a) [it] it (fun i h=>h.IsListIter it a i) where
 mem:=by simp
 obj:=fun i h st b hb=>by
  have e:b=it:=by simpa using hb
  subst e;obtain ⟨o,e,c,d⟩:=st;exact ⟨o,e,fun v z=>by rw [d] at z;cases z⟩
 keep:=fun i h h' st k=>st.at fun o e=>k it (by simp) o e
 item:=by
  intro X hP hw hK hc i ag s σ H E I hf st hg;subst hP hw hK;obtain ⟨xs,x,hq,hx⟩:=hg;obtain ⟨its,rv,p,hz⟩:=I.list hq;obtain ⟨u,hu,ru⟩:=rv.get hx;obtain ⟨f0,f1,f2,f3,f4,f5⟩:=hf it (by simp);refine wpAny_pyNext_list_item st p.isList (x:=u) (by simpa using hu) fun h' st' sb=>?_;have I1:Inv X ag σ H { s with heap:=h' }:=I.turned (t':=s.toks) (fun b o hb e=>(sb.2 b hb).trans e) f0 f1 f3 f4 f5;obtain ⟨o,e,c,d⟩:=id st';exact ⟨u,rfl,yQ (s:={ s with heap:=h' }) e c d (by decide) ⟨x,H,I1,ru,⟨rfl,fun ys hy=>by rw [I.list_inj hy hq];exact hx⟩,st',fun b hb=>(hf b hb).1⟩⟩
 done:=by
  intro X hP hw hK hc i ag s σ H E I hf st hg;subst hP hw hK;obtain ⟨xs,hq,hx⟩:=hg;obtain ⟨its,rv,p,hz⟩:=I.list hq;obtain ⟨f0,f1,f2,f3,f4,f5⟩:=hf it (by simp);have hl:=rv.length;exact wpAny_pyNext_list_end (I.ok.hd hc) st p.isList (by simp;omega) fun h' eb=>⟨rfl,I.turned (t':=s.toks) (fun b o hb e=>eb b o hb e) f0 f1 f3 f4 f5⟩
 self:=fun _ _ _ _ _ st h=>wpAny_pyIter_listiter st h
def AJ {P:Program} {w:World} {K:PySem.W.Frag} {tg:Expr} (a it:Addr):Turn P w K tg (RA K a) [it] it (fun i h=>h.IsTupleIter it a i) where
 mem:=by simp
 obj:=fun i h st b hb=>by
  have e:b=it:=by simpa using hb
  subst e;obtain ⟨o,e,c,d⟩:=st;exact ⟨o,e,fun v z=>by rw [d] at z;cases z⟩
 keep:=fun i h h' st k=>st.at fun o e=>k it (by simp) o e
 item:=by
  intro X hP hw hK hc i ag s σ H E I hf st hg;subst hP hw hK;obtain ⟨xs,x,hq,hx⟩:=hg;obtain ⟨its,rv,p,hz⟩:=I.tuple hq;obtain ⟨u,hu,ru⟩:=rv.get hx;obtain ⟨f0,f1,f2,f3,f4,f5⟩:=hf it (by simp);refine wpAny_pyNext_tuple_item st (show s.heap.IsTuple a its.toArray from p) (x:=u) (by simpa using hu) fun h' st' sb=>?_;have I1:Inv X ag σ H { s with heap:=h' }:=I.turned (t':=s.toks) (fun b o hb e=>(sb.2 b hb).trans e) f0 f1 f3 f4 f5;obtain ⟨o,e,c,d⟩:=id st';exact ⟨u,rfl,yQ (s:={ s with heap:=h' }) e c d (by decide) ⟨x,H,I1,ru,⟨rfl,fun ys hy=>by rw [I.tuple_inj hy hq];exact hx⟩,st',fun b hb=>(hf b hb).1⟩⟩
 done:=by
  intro X hP hw hK hc i ag s σ H E I hf st hg;subst hP hw hK;obtain ⟨xs,hq,hx⟩:=hg;obtain ⟨its,rv,p,hz⟩:=I.tuple hq;obtain ⟨f0,f1,f2,f3,f4,f5⟩:=hf it (by simp);have hl:=rv.length;exact wpAny_pyNext_tuple_end (I.ok.hd hc) st (show s.heap.IsTuple a its.toArray from p) (by simp;omega) fun h' eb=>⟨rfl,I.turned (t':=s.toks) (fun b o hb e=>eb b o hb e) f0 f1 f3 f4 f5⟩
 self:=fun _ _ _ _ _ st h=>wpAny_pyIter_tupleiter st h
def Aw {P:Program} {w:World} {K:PySem.W.Frag} {tg:Expr} (it:Addr) (lo:Int) (n:Nat):Turn P w K tg (QZ lo n) [it] it (fun i h=>IsRangeIter h it (lo+(i:Nat)*1) ((n:Int) - (i:Nat)) 1) where
 mem:=by simp
 obj:=fun i h st b hb=>by
  have e:b=it:=by simpa using hb
  subst e;exact ⟨_,st,fun v z=>by
   have z':Data.fields _=Data.cell v:=z;cases z'⟩
 keep:=fun i h h' st k=>k it (by simp) _ st
 item:=by
  intro X hP hw hK hc i ag s σ H E I hf st hg;subst hP hw hK;obtain ⟨f0,f1,f2,f3,f4,f5⟩:=hf it (by simp);have W:=Walks.range (prog:=X.prog) (w:=X.w) (I.ok.hd hc) it lo 1 n;refine bh I.tk (W.item i s _ _ hg st fun v h' tk hv st' kk htk=>?_);obtain ⟨t,rfl⟩:=hv;have I1:Inv X ag σ H { s with heap:=h',toks:=tk }:=I.turned (fun b o hb e=>kk b o (by simpa using hb) e) f0 f1 f3 f4 f5;refine ⟨_,rfl,yQ (s:={ s with heap:=h',toks:=tk }) (n:="range_iterator") st' rfl rfl (by decide) ⟨.int (lo+i),H,I1,⟨t,?_⟩,⟨rfl,rfl⟩,st',fun b hb=>(hf b hb).1⟩⟩;rw [Int.mul_one]
 done:=by
  intro X hP hw hK hc i ag s σ H E I hf st hg;subst hP hw hK;obtain ⟨f0,f1,f2,f3,f4,f5⟩:=hf it (by simp);exact wpAny_pyNext_range_end (I.ok.hd hc) st (by have:n<=i:=hg;omega) fun h' eb=>⟨rfl,I.turned (t':=s.toks) (fun b o hb e=>eb b o hb e) f0 f1 f3 f4 f5⟩
 self:=fun _ _ _ _ _ st h=>wpAny_pyIter_rangeiter st h
section
variable {X:Cx} {tg:Expr}
def Ep {ag:List (Addr×Obj)} {σ:St} {H:Hp} {s:Shared} {R:It->Hp->Prop} {E:Value->Shared->Prop} {lo hi:Int} {t u v:Tok} {tk:Nat} (I:Inv X ag σ H s) (h1:-(2 ^ 62)<=lo) (h2:lo < 2 ^ 62) (h3:-(2 ^ 62)<=hi) (h4:hi < 2 ^ 62)
  (q:R (QZ lo (hi - lo).toNat) H) (ht:X.tn<=tk:=by walk_at "tok"):wpAny (model X.prog X.w) X.A (pyIter (.ref s.heap.objs.size)) (RI X ag σ tg R) E { s with heap:=s.heap.push { cls:=.type "range",data:=.fields #[.int lo t,.int hi u,.int 1 v] },toks:=tk }:=by
 refine wpAny_pyIter_range (IsRange.new ..) (small_one h1 h2 h3 h4) ?_;have I1:Inv X ag σ H { s with heap:=s.heap.push { cls:=.type "range",data:=.fields #[.int lo t,.int hi u,.int 1 v] },toks:=tk }:=I.kept fun b o e=>Heap.get?_push_of_some _ e;refine ⟨(s.heap.push { cls:=.type "range",data:=.fields #[.int lo t,.int hi u,.int 1 v] }).objs.size,[(s.heap.push { cls:=.type "range",data:=.fields #[.int lo t,.int hi u,.int 1 v] }).objs.size],_,_,H,rfl,
  I1.kept (t':=tk) fun b o e=>Heap.get?_push_of_some _ e,Aw _ lo (hi - lo).toNat,?_,fun b hb=>?_,q⟩
 ·have e1:lo+((0:Nat):Int)*1=lo:=by simp
  have e2:(((hi - lo).toNat:Nat):Int) - ((0:Nat):Int)=Builtin.Range.rangeSize lo hi 1:=by rw [rangeSize_one];split <;> omega
  show IsRangeIter _ _ (lo+((0:Nat):Int)*1) ((((hi - lo).toNat:Nat):Int) - ((0:Nat):Int)) 1;rw [e1,e2];exact Heap.get?_push_size _ rfl
 ·have e:b=(s.heap.push { cls:=.type "range",data:=.fields #[.int lo t,.int hi u,.int 1 v] }).objs.size:=by simpa using hb
  subst e;exact I1.fpOk (Nat.le_refl _) (I1.hok.fresh (Nat.le_refl _))
def Eh (wi:TI) (g:TG) (tb:TS):TS:=fun D σ H=>wi σ H fun J H1=>∃ W:Nat->Nat->St->Hp->Prop,(∃ m,W 0 m σ H1)/\∀ i m σ H,W i m σ H ->
 (J.stop i H/\D.nx σ H)\/(J.go i H/\∃ N:St->Hp->Prop,(∀ σ' H',N σ' H'->∃ m',m' < m/\W (i+1) m' σ' H')/\∀ x H',J.yld i H x H'->g x σ H' fun σ2 H2=>tb { D with nx:=N,ct:=N,bk:=D.nx } σ2 H2)
def pD (fp:List Addr) (h:Heap):List (Addr×Obj):=fp.filterMap fun b=>(h.get? b).map fun o=>(b,o)
def gR {fp:List Addr} {h:Heap} {b:Addr} {o:Obj} (hb:b∈fp) (e:h.get? b=some o):(b,o)∈pD fp h:=List.mem_filterMap.mpr ⟨b,hb,by rw [e];rfl⟩
def Cm {fp:List Addr} {h:Heap} {p:Addr×Obj} (hp:p∈pD fp h):p.1∈fp/\h.get? p.1=some p.2:=by
 obtain ⟨b,hb,e⟩:=List.mem_filterMap.mp hp;cases q:h.get? b with
 | none=>rw [q] at e;cases e
 | some o =>
  rw [q] at e;have e':(b,o)=p:=Option.some.inj e;subst e';exact ⟨hb,q⟩
def Inv.pinned {ag:List (Addr×Obj)} {σ:St} {H:Hp} {s:Shared} {fp:List Addr} (I:Inv X ag σ H s) (hf:∀ b∈fp,kh X ag H b) (ho:∀ b∈fp,∃ o,s.heap.get? b=some o/\∀ v,o.data≠.cell v):Inv X (ag++pD fp s.heap) σ H s :=
 I.pins_of fun p hp=>(List.mem_append.mp hp).elim (fun z=>I.pin p (List.mem_append_right _ z)) fun z=>by
  obtain ⟨hb,e⟩:=Cm z;obtain ⟨f0,f1,f2,_⟩:=hf p.1 hb;obtain ⟨o,e',d⟩:=ho p.1 hb;rw [e] at e';cases e';exact ⟨e,f0,f1,f2,d⟩
def Inv.unpinned {ag pl:List (Addr×Obj)} {σ:St} {H:Hp} {s:Shared} (I:Inv X (ag++pl) σ H s):Inv X ag σ H s:=I.pins_of fun p hp=>I.pin p (List.mem_append_right _ (List.mem_append_left _ hp))
def KC {iter:Expr} {body:List Stmt} {wi:TI} {g:TG} {tb:TS} {pos:Pos} (hp:PassesOwn (model X.prog X.w) X.A X.env X.xe) (hc:X.calm=true) (hi:PI X tg iter wi) (hg:PG X tg g) (hb:zw X body tb)
  (hs:∀ x,foldedSetIterable iter X.env x=pure x:=by intro _;rfl):PS X (.For tg iter body [] pos) (Eh wi g tb):=by
 intro ag s σ H D I h;refine wpAny_For (gH (hi ag s σ H _ I h) fun v s1 h1=>gH h1 fun itv s2 h2=>?_) hs;obtain ⟨it,fp,tn,J,H2,e,I2,T,st2,f2,W,⟨m0,w0⟩,turn⟩:=h2;subst e
 -- what stays true of the iterator's objects through the loop
 have stat:∀ {H':Hp},(∀ b∈fp,H' b=none)->∀ b∈fp,kh X ag H' b:=fun hn b hb=>⟨hn b hb,(f2 b hb).2⟩;refine codeAny_forLoop_any (fun n s'=>∃ i σ' H',Inv X ag σ' H' s'/\tn i s'.heap/\(∀ b∈fp,H' b=none)/\W i n σ' H') ?_ m0 ⟨0,σ,H2,I2,st2,fun b hb=>(f2 b hb).1,w0⟩;rintro n s3 ⟨i,σ3,H3,I3,st3,fr3,w3⟩;rcases turn i n σ3 H3 w3 with ⟨stop,qn⟩|⟨go,N,hN,step⟩
 ·refine wpAny_passesOwn hp (gH (T.done X rfl rfl rfl hc i ag s3 σ3 H3 X.xe I3 (stat fr3) st3 stop) fun r s4 ⟨hr,I4⟩=>?_);subst hr;exact wpAny_execs_nil ⟨σ3,H3,I4,qn⟩
 ·refine wpAny_passesOwn hp (gH (T.item X rfl rfl rfl hc i ag s3 σ3 H3 X.xe I3 (stat fr3) st3 go) fun r s4 ⟨u,hr,h4⟩=>?_);subst hr;refine wpAny_passesOwn hp (gH h4 fun _ s5 ⟨x,H5,I5,r5,y5,st5,fr5⟩=>?_);have I5':=I5.pinned (stat fr5) (T.obj _ _ st5);refine wpAny_passesOwn hp (gH (hg _ s5 σ3 H5 x u _ I5' r5 (step x H5 y5)) fun _ s6 ⟨σ6,H6,I6,q6⟩=>?_);refine wpAny_passesOwn hp (gH (hb _ s6 σ6 H6 _ I6 q6) fun f s7 q7=>?_);have again:∀ {σ7:St} {H7:Hp},Inv X (ag++pD fp s5.heap) σ7 H7 s7->N σ7 H7->∃ m,m < n/\∃ i σ' H',Inv X ag σ' H' s7/\tn i s7.heap/\(∀ b∈fp,H' b=none)/\W i m σ' H':=fun {σ7 H7} I7 n7=>by
   obtain ⟨m',hm,w7⟩:=hN σ7 H7 n7;refine ⟨m',hm,i+1,σ7,H7,I7.unpinned,T.keep _ _ _ st5 fun b hb o e=>(I7.pin (b,o) (List.mem_append_right _ (List.mem_append_right _ (gR hb e)))).1,fun b hb=>?_,w7⟩;obtain ⟨o,e,d⟩:=T.obj _ _ st5 b hb;exact (I7.pin (b,o) (List.mem_append_right _ (List.mem_append_right _ (gR hb e)))).2.1
  cases f with
  | next=>obtain ⟨σ7,H7,I7,n7⟩:=q7;exact again I7 n7
  | cont=>obtain ⟨σ7,H7,I7,n7⟩:=q7;exact again I7 n7
  | brk=>obtain ⟨σ7,H7,I7,q7⟩:=q7;exact ⟨σ7,H7,I7.unpinned,q7⟩
  | ret v=>obtain ⟨x7,σ7,H7,I7,r7,q7⟩:=q7;exact ⟨x7,σ7,H7,I7.unpinned,r7,q7⟩
end
abbrev R2:=V->V->Hp->VK->Prop
def fA (X:Cx) (f:Value->Value->Sem Value) (r:R2):Prop :=
 ∀ (ag:List (Addr×Obj)) (s:Shared) (σ:St) (H:Hp) (x y:V) (v u:Value) (Q:VK),Inv X ag σ H s->bB x v->bB y u->r x y H Q ->
  wpAny (model X.prog X.w) X.A (f v u) (EP X ag σ Q) X.xe s
def Hr (X:Cx) (f:Value->Sem Value) (r:V->Hp->VK->Prop):Prop :=
 ∀ (ag:List (Addr×Obj)) (s:Shared) (σ:St) (H:Hp) (x:V) (v:Value) (Q:VK),Inv X ag σ H s->bB x v->r x H Q ->
  wpAny (model X.prog X.w) X.A (f v) (EP X ag σ Q) X.xe s
def cx (X:Cx) (f:Value) (r:List V->Hp->VK->Prop):Prop :=
 ∀ (ag:List (Addr×Obj)) (s:Shared) (σ:St) (H:Hp) (xs:List V) (us:List Value) (Q:VK),Inv X ag σ H s->bK xs us->r xs H Q ->
  wpAny (model X.prog X.w) X.A (call f us) (EP X ag σ Q) X.xe s
def Rr (X:Cx) (r:V->Hp->(Bool->Hp->Prop)->Prop):Prop :=
 ∀ (ag:List (Addr×Obj)) (s:Shared) (σ:St) (H:Hp) (x:V) (v:Value) (Q:Bool->Hp->Prop),Inv X ag σ H s->bB x v->r x H Q ->
  wpAny (model X.prog X.w) X.A (truthy v) (TP X ag σ Q) X.xe s
def wH (r:R2) (ta tb:TE):TE:=fun σ H Q=>ta σ H fun x H1=>tb σ H1 fun y H2=>r x y H2 Q
def So (r:V->Hp->VK->Prop) (ta:TE):TE:=fun σ H Q=>ta σ H fun x H1=>r x H1 Q
def rI (C:Int->Int->Prop) (g:Int->Int->V):R2:=fun x y H Q=>∃ i j,x=.int i/\y=.int j/\C i j/\Q (g i j) H
def Iq (g:Int->Int->V):R2:=fun x y H Q=>∃ i j,x=.int i/\y=.int j/\Q (g i j) H
def rU (g:Int->V):V->Hp->VK->Prop:=fun x H Q=>∃ i,x=.int i/\Q (g i) H
section
variable {X:Cx} {a b c:Expr} {ta tb tc:TE} {pos:Pos}
def Kz (ha:PE X a ta) (hb:PE X b tb) {ag:List (Addr×Obj)} {s:Shared} {σ:St} {H:Hp} {R:V->V->Hp->Prop} (I:Inv X ag σ H s)
  (h:ta σ H fun x H1=>tb σ H1 fun y H2=>R x y H2) {Q:Value->Shared->Prop} {f:Value->Value->Sem Value}
  (hf:∀ v u s2 x y H2,Inv X ag σ H2 s2->bB x v->bB y u->R x y H2->wpAny (model X.prog X.w) X.A (f v u) Q X.xe s2) :
  wpAny (model X.prog X.w) X.A (eval a X.env) (fun v s₁=>wpAny (model X.prog X.w) X.A (eval b X.env) (fun u s₂=>wpAny (model X.prog X.w) X.A (f v u) Q X.xe s₂) X.xe s₁) X.xe s:=by
 refine gH (ha ag s σ H _ I h) fun v s1 hh=>qK hh fun x H1 I1 r1 q1=>?_;refine gH (hb ag s1 σ H1 _ I1 q1) fun u s2 hh=>qK hh fun y H2 I2 r2 q2=>?_;exact hf v u s2 x y H2 I2 r1 r2 q2
def Pu {op:Operator} {r:R2} (ho:fA X (binaryOp op) r) (ha:PE X a ta) (hb:PE X b tb):PE X (.BinOp a op b pos) (wH r ta tb):=by
 intro ag s σ H Q I h;exact wpAny_BinOp (Kz ha hb I h fun v u s2 x y H2 I2 rx ry q=>ho ag s2 σ H2 x y v u Q I2 rx ry q)
def Ot {op:UnaryOp} {r:V->Hp->VK->Prop} (ho:Hr X (unaryOp op) r) (ha:PE X a ta):PE X (.UnaryOp op a pos) (So r ta):=by
 intro ag s σ H Q I h;exact UnaryOp_ (gH (ha ag s σ H _ I h) fun v s1 hh=>qK hh fun x H1 I1 r1 q1=>ho ag s1 σ H1 x v Q I1 r1 q1)
def Q4 {f:Value->Value->Sem Value} {C:Int->Int->Prop} {g:Int->Int->Int}
  (rule:∀ (i j:Int) (t u:Tok) (s:Shared) (Q:Value->Shared->Prop) (E:Value->Shared->Prop),C i j->Q (.int (g i j) s.toks) { s with toks:=s.toks+1 }->wpAny (model X.prog X.w) X.A (f (.int i t) (.int j u)) Q E s) :
  fA X f (rI C fun i j=>.int (g i j)):=by
 intro ag s σ H x y v u Q I rx ry h;obtain ⟨i,j,rfl,rfl,hc,q⟩:=h;obtain ⟨t,rfl⟩:=rx;obtain ⟨t',rfl⟩:=ry;exact rule i j t t' s _ _ hc ⟨.int (g i j),H,I.tok _,⟨_,rfl⟩,q⟩
def Pr {f:Value->Value->Sem Value} {g:Int->Int->Int}
  (rule:∀ (i j:Int) (t u:Tok) (s:Shared) (Q:Value->Shared->Prop) (E:Value->Shared->Prop),Q (.int (g i j) s.toks) { s with toks:=s.toks+1 }->wpAny (model X.prog X.w) X.A (f (.int i t) (.int j u)) Q E s) :
  fA X f (Iq fun i j=>.int (g i j)):=by
 intro ag s σ H x y v u Q I rx ry h;obtain ⟨i,j,rfl,rfl,q⟩:=h;obtain ⟨t,rfl⟩:=rx;obtain ⟨t',rfl⟩:=ry;exact rule i j t t' s _ _ ⟨.int (g i j),H,I.tok _,⟨_,rfl⟩,q⟩
def Gy {f:Value->Value->Sem Value} {g:Int->Int->Bool}
  (rule:∀ (i j:Int) (t u:Tok) (s:Shared) (Q:Value->Shared->Prop) (E:Value->Shared->Prop),Q (.bool (g i j)) s->wpAny (model X.prog X.w) X.A (f (.int i t) (.int j u)) Q E s) :
  fA X f (Iq fun i j=>.bl (g i j)):=by
 intro ag s σ H x y v u Q I rx ry h;obtain ⟨i,j,rfl,rfl,q⟩:=h;obtain ⟨t,rfl⟩:=rx;obtain ⟨t',rfl⟩:=ry;exact rule i j t t' s _ _ ⟨.bl (g i j),H,I,rfl,q⟩
def FQ (i j:Int):Prop:=0 < j/\j < 1073741824
def Fs (i j:Int):Prop:=0<=j/\j<=1000000/\i.natAbs < 2 ^ 64
def zH (i j:Int):Prop:=(-(2 ^ 64) < i/\i < 2 ^ 64)\/(-(2 ^ 64) < j/\j < 2 ^ 64)
theorem zH.ok {i j:Int} (h:zH i j):IntMulOk i j:=by
 rcases h with ⟨h1,h2⟩|⟨h1,h2⟩
 ·exact .of_left (intBits_le_64 h1 h2)
 ·exact .of_right (intBits_le_64 h1 h2)
def Kj:fA X (binaryOp .Add) (Iq fun i j=>.int (i+j)):=Pr fun _ _ _ _ _ _ _ q=>add_int q
def Lx:fA X (binaryOp .Sub) (Iq fun i j=>.int (i - j)):=Pr fun _ _ _ _ _ _ _ q=>sub_int q
def La:fA X (binaryOp .Mult) (rI zH fun i j=>.int (i*j)):=Q4 fun _ _ _ _ _ _ _ hc q=>mul_int q hc.ok
def GM:fA X (binaryOp .FloorDiv) (rI FQ fun i j=>.int (i/j)):=Q4 fun i j _ _ _ _ _ hc q=>by
 have h1:(0:Int) < j:=hc.1;have h2:j < 1073741824:=hc.2;exact floordiv_int (by omega) (by rw [Int.fdiv_eq_ediv_of_nonneg i (by omega)];exact q) (.inl (PyProof.noPylong_small (by omega)))
def L3:fA X (binaryOp .Mod) (rI (fun _ j=>0 < j) fun i j=>.int (i % j)):=Q4 fun i j _ _ _ _ _ hc q=>by
 have h1:(0:Int) < j:=hc;exact mod_int' (by omega) (by rw [Int.fmod_eq_emod_of_nonneg i (by omega)];exact q)
def Km:fA X (binaryOp .Pow) (rI Fs fun i j=>.int (i ^ j.toNat)):=Q4 fun _ _ _ _ _ _ _ hc q=>pow_int_small hc.1 hc.2.1 hc.2.2 q
def unI {f:Value->Sem Value} {g:Int->Int}
  (rule:∀ (i:Int) (t:Tok) (s:Shared) (Q:Value->Shared->Prop) (E:Value->Shared->Prop),Q (.int (g i) s.toks) { s with toks:=s.toks+1 }->wpAny (model X.prog X.w) X.A (f (.int i t)) Q E s) :
  Hr X f (rU fun i=>.int (g i)):=by
 intro ag s σ H x v Q I rx h;obtain ⟨i,rfl,q⟩:=h;obtain ⟨t,rfl⟩:=rx;exact rule i t s _ _ ⟨.int (g i),H,I.tok _,⟨_,rfl⟩,q⟩
def JL:Hr X (unaryOp .USub) (rU fun i=>.int (-i)):=unI fun _ _ _ _ _ q=>neg_int q
end
def tz:V->V->Bool
 | .non,.non=>true|.non,.int _=>true|.int _,.non=>true|.non,.bl _=>true|.bl _,.non=>true|.non,.str _=>true|.str _,.non=>true
 | .int _,.int _=>true|.bl _,.bl _=>true|.str _,.str _=>true|.byt _,.byt _=>true
 | .int _,.str _=>true|.str _,.int _=>true|.bl _,.str _=>true|.str _,.bl _=>true
 | _,_=>false
def rEq:R2:=fun x y H Q=>tz x y=true/\Q (.bl (decide (x=y))) H
def rNe:R2:=fun x y H Q=>tz x y=true/\Q (.bl (!decide (x=y))) H
def Bw {i j:Int}:decide (V.int i=V.int j)=(i==j):=by
 rw [Bool.eq_iff_iff];simp
def DC {i j:Bool}:decide (V.bl i=V.bl j)=(i==j):=by
 rw [Bool.eq_iff_iff];simp
def Bd {i j:Str}:decide (V.str i=V.str j)=(i==j):=by
 rw [Bool.eq_iff_iff];simp
def A8 {i j:Array UInt8}:decide (V.byt i=V.byt j)=(i.toList==j.toList):=by
 rw [Bool.eq_iff_iff];cases i;cases j;simp
section
variable {X:Cx} {a b c:Expr} {ta tb tc:TE} {pos:Pos}
def aQ {ag:List (Addr×Obj)} {σ:St} {H:Hp} {s:Shared} {Q:VK} {k k':Bool} (I:Inv X ag σ H s) (q:Q (.bl k) H) (e:k=k'):EP X ag σ Q (.bool k') s:=by
 subst e;exact ⟨.bl k,H,I,rfl,q⟩
def Mg:fA X (compareOp .Eq) rEq:=by
 intro ag s σ H x y v u Q I rx ry h;obtain ⟨hs,q⟩:=h;cases x with
 | non =>
  cases rx;cases y with
  | non=>cases ry;exact PySem.EqNone.eq_none_none (aQ I q (by simp))
  | bl j=>cases ry;exact PySem.EqNone.eq_none_bool (aQ I q (by simp))
  | int j=>obtain ⟨t',rfl⟩:=ry;exact PySem.EqNone.eq_none_int (aQ I q (by simp))
  | str j=>obtain ⟨t',rfl⟩:=ry;exact PySem.EqNone.eq_none_str (aQ I q (by simp))
  | _=>exact absurd (show false=true from hs) Bool.false_ne_true
 | bl i =>
  cases rx;cases y with
  | non=>cases ry;exact PySem.EqNone.eq_bool_none (aQ I q (by simp))
  | bl j=>cases ry;exact eq_bool (aQ I q DC)
  | str j=>obtain ⟨t',rfl⟩:=ry;exact PySem.EqMixed.eq_bool_str (aQ I q (by simp))
  | _=>exact absurd (show false=true from hs) Bool.false_ne_true
 | int i =>
  obtain ⟨t,rfl⟩:=rx;cases y with
  | non=>cases ry;exact PySem.EqNone.eq_int_none (aQ I q (by simp))
  | int j=>obtain ⟨t',rfl⟩:=ry;exact eq_int (aQ I q Bw)
  | str j=>obtain ⟨t',rfl⟩:=ry;exact PySem.EqMixed.eq_int_str (aQ I q (by simp))
  | _=>exact absurd (show false=true from hs) Bool.false_ne_true
 | str i =>
  obtain ⟨t,rfl⟩:=rx;cases y with
  | non=>cases ry;exact PySem.EqNone.eq_str_none (aQ I q (by simp))
  | bl j=>cases ry;exact PySem.EqMixed.eq_str_bool (aQ I q (by simp))
  | int j=>obtain ⟨t',rfl⟩:=ry;exact PySem.EqMixed.eq_str_int (aQ I q (by simp))
  | str j=>obtain ⟨t',rfl⟩:=ry;exact eq_str (aQ I q Bd)
  | _=>exact absurd (show false=true from hs) Bool.false_ne_true
 | byt i =>
  obtain ⟨t,rfl⟩:=rx;cases y with
  | byt j=>obtain ⟨t',rfl⟩:=ry;exact PySem.W.eq_bytes (aQ I q A8)
  | _=>exact absurd (show false=true from hs) Bool.false_ne_true
 | _=>cases y <;> exact absurd (show false=true from hs) Bool.false_ne_true
def Mw:fA X (compareOp .NotEq) rNe:=by
 intro ag s σ H x y v u Q I rx ry h;obtain ⟨hs,q⟩:=h;cases x with
 | non =>
  cases rx;cases y with
  | non=>cases ry;exact PySem.EqNone.ne_none_none (aQ I q (by simp))
  | bl j=>cases ry;exact PySem.EqNone.ne_none_bool (aQ I q (by simp))
  | int j=>obtain ⟨t',rfl⟩:=ry;exact PySem.EqNone.ne_none_int (aQ I q (by simp))
  | str j=>obtain ⟨t',rfl⟩:=ry;exact PySem.EqNone.ne_none_str (aQ I q (by simp))
  | _=>exact absurd (show false=true from hs) Bool.false_ne_true
 | bl i =>
  cases rx;cases y with
  | non=>cases ry;exact PySem.EqNone.ne_bool_none (aQ I q (by simp))
  | bl j=>cases ry;exact ne_bool (aQ I q (congrArg not DC))
  | str j=>obtain ⟨t',rfl⟩:=ry;exact PySem.EqMixed.ne_bool_str (aQ I q (by simp))
  | _=>exact absurd (show false=true from hs) Bool.false_ne_true
 | int i =>
  obtain ⟨t,rfl⟩:=rx;cases y with
  | non=>cases ry;exact PySem.EqNone.ne_int_none (aQ I q (by simp))
  | int j=>obtain ⟨t',rfl⟩:=ry;exact ne_int (aQ I q (congrArg not Bw))
  | str j=>obtain ⟨t',rfl⟩:=ry;exact PySem.EqMixed.ne_int_str (aQ I q (by simp))
  | _=>exact absurd (show false=true from hs) Bool.false_ne_true
 | str i =>
  obtain ⟨t,rfl⟩:=rx;cases y with
  | non=>cases ry;exact PySem.EqNone.ne_str_none (aQ I q (by simp))
  | bl j=>cases ry;exact PySem.EqMixed.ne_str_bool (aQ I q (by simp))
  | int j=>obtain ⟨t',rfl⟩:=ry;exact PySem.EqMixed.ne_str_int (aQ I q (by simp))
  | str j=>obtain ⟨t',rfl⟩:=ry;exact ne_str (aQ I q (congrArg not Bd))
  | _=>exact absurd (show false=true from hs) Bool.false_ne_true
 | byt i =>
  obtain ⟨t,rfl⟩:=rx;cases y with
  | byt j=>obtain ⟨t',rfl⟩:=ry;exact PySem.W.ne_bytes (aQ I q (congrArg not A8))
  | _=>exact absurd (show false=true from hs) Bool.false_ne_true
 | _=>cases y <;> exact absurd (show false=true from hs) Bool.false_ne_true
def P0:fA X (compareOp .Lt) (Iq fun i j=>.bl (decide (i < j))):=Gy fun _ _ _ _ _ _ _ q=>lt_int q
def N1:fA X (compareOp .LtE) (Iq fun i j=>.bl (decide (i<=j))):=Gy fun _ _ _ _ _ _ _ q=>le_int q
def NA:fA X (compareOp .Gt) (Iq fun i j=>.bl (decide (j < i))):=Gy fun _ _ _ _ _ _ _ q=>gt_int q
def Mv:fA X (compareOp .GtE) (Iq fun i j=>.bl (decide (j<=i))):=Gy fun _ _ _ _ _ _ _ q=>ge_int q
def C6:fA X (compareOp .Lt) (fun x y H Q=>∃ i j,x=.str i/\y=.str j/\Q (.bl (decide (i.cps.toList < j.cps.toList))) H):=by
 intro ag s σ H x y v u Q I rx ry h;obtain ⟨i,j,rfl,rfl,q⟩:=h;obtain ⟨t,rfl⟩:=rx;obtain ⟨t',rfl⟩:=ry;exact lt_str (aQ I q rfl)
def Cd:fA X (compareOp .In) (fun x y H Q=>∃ i j,x=.str i/\y=.str j/\Q (.bl (!(Builtin.Str.occurrences j i 0 j.length 1).isEmpty)) H):=by
 intro ag s σ H x y v u Q I rx ry h;obtain ⟨i,j,rfl,rfl,q⟩:=h;obtain ⟨t,rfl⟩:=rx;obtain ⟨t',rfl⟩:=ry;exact in_str (aQ I q rfl)
def LC:fA X (compareOp .Is) (fun x y H Q=>y=.non/\Q (.bl (decide (x=.non))) H):=by
 intro ag s σ H x y v u Q I rx ry h;obtain ⟨rfl,q⟩:=h;cases ry;refine is_none_gen (aQ I q ?_);cases x <;> first
  | (cases rx;rfl)
  | (obtain ⟨t,rfl⟩:=rx;rfl)
def GA:fA X (compareOp .IsNot) (fun x y H Q=>y=.non/\Q (.bl (!decide (x=.non))) H):=by
 intro ag s σ H x y v u Q I rx ry h;obtain ⟨rfl,q⟩:=h;cases ry;refine isnot_none_gen (aQ I q ?_);cases x <;> first
  | (cases rx;rfl)
  | (obtain ⟨t,rfl⟩:=rx;rfl)
def wV:fA X (compareOp .NotIn) (fun x y H Q=>∃ i j,x=.str i/\y=.str j/\Q (.bl (!(!(Builtin.Str.occurrences j i 0 j.length 1).isEmpty))) H):=by
 intro ag s σ H x y v u Q I rx ry h;obtain ⟨i,j,rfl,rfl,q⟩:=h;obtain ⟨t,rfl⟩:=rx;obtain ⟨t',rfl⟩:=ry;exact notIn_str (aQ I q rfl)
def fA.or {f:Value->Value->Sem Value} {r r':R2} (h:fA X f r) (h':fA X f r'):fA X f (fun x y H Q=>r x y H Q\/r' x y H Q):=by
 intro ag s σ H x y v u Q I rx ry q;rcases q with q|q
 ·exact h ag s σ H x y v u Q I rx ry q
 ·exact h' ag s σ H x y v u Q I rx ry q
def aE (b:Expr) {op:CmpOp} (h:op≠.In:=by decide) (h2:op≠.NotIn:=by decide):behindInMarks op b=false:=by
 have e1:(op==CmpOp.In)=false:=by cases op <;> first|rfl|exact absurd rfl h
 have e2:(op==CmpOp.NotIn)=false:=by cases op <;> first|rfl|exact absurd rfl h2
 cases b <;> simp [behindInMarks,e1,e2]
def HA {op:CmpOp} {r:R2} (ho:fA X (compareOp op) r) (ha:PE X a ta) (hb:PE X b tb) (hm:behindInMarks op b=false):PE X (.Compare a [op] [b] pos) (wH r ta tb):=by
 intro ag s σ H Q I h;exact wpAny_Compare1 (Kz ha hb I h fun v u s2 x y H2 I2 rx ry q=>ho ag s2 σ H2 x y v u Q I2 rx ry q) hm
def R0 (K:PySem.W.Frag) (x:V) (H:Hp) (k:Bool):Prop :=
 match x with
 | .non=>k=false
 | .bl b=>k=b
 | .int i=>k=(i != 0)
 | .str y=>y.length<=sizeLine/\k=((y.length:Int) != 0)
 | .byt y=>y.size<=sizeLine/\k=((y.size:Int) != 0)
 | .ref p=>(∃ xs,dZ K H p xs/\k=!xs.isEmpty)\/(∃ xs,lG K H p xs/\k=!xs.isEmpty)\/∃ kvs,H p=some (.dK kvs)/\k=!kvs.isEmpty
 | _=>False
def Ao {κ:Type} {kvs:List (κ×V)} {vs:List (κ×Value)} (r:KV kvs vs):(!vs.isEmpty)=!kvs.isEmpty:=by
 cases r <;> rfl
def ut {xs:List V} {its:List Value} (r:bK xs its):(!its.toArray.isEmpty)=!xs.isEmpty:=by
 cases r <;> simp
def qZ:(sizeLine:Nat) < 2 ^ 63:=by rw [sizeLine_eq];decide
def JM:Rr X (fun x H Q=>∃ k,R0 X.K x H k/\Q k H):=by
 intro ag s σ H x v Q I rx h;obtain ⟨k,e,q⟩:=h;have hl:=qZ;have hs:sizeLine=16777216:=sizeLine_eq;cases x with
 | non =>
  cases rx;have e':k=false:=e;subst e';exact truthy_none ⟨H,I,q⟩
 | bl b =>
  cases rx;have e':k=b:=e;subst e';exact wpAny_truthy_bool ⟨H,I,q⟩
 | int i =>
  obtain ⟨t,rfl⟩:=rx;have e':k=(i != 0):=e;subst e';exact PySem.P.truthy_int ⟨H,I,q⟩
 | str y =>
  obtain ⟨t,rfl⟩:=rx;obtain ⟨hy,e'⟩:y.length<=sizeLine/\k=((y.length:Int) != 0):=e;subst e';exact PySem.P.truthy_str (by omega) ⟨H,I.tok _,q⟩
 | byt y =>
  obtain ⟨t,rfl⟩:=rx;obtain ⟨hy,e'⟩:y.size<=sizeLine/\k=((y.size:Int) != 0):=e;subst e';exact PySem.W.truthy_bytes (by omega) ⟨H,I.tok _,q⟩
 | ref p =>
  cases rx;have e':(∃ xs,dZ X.K H p xs/\k=!xs.isEmpty)\/(∃ xs,lG X.K H p xs/\k=!xs.isEmpty)\/∃ kvs,H p=some (.dK kvs)/\k=!kvs.isEmpty:=e;rcases e' with ⟨xs,hx,e'⟩|⟨xs,hx,e'⟩|⟨kvs,hx,e'⟩
  ·subst e';obtain ⟨its,r,pl,hz⟩:=I.list hx;have hlen:=r.length;exact wpAny_truthy_list pl.isList (by simp only [List.size_toArray];omega) ⟨H,I.tok _,by rw [ut r];exact q⟩
  ·subst e';obtain ⟨its,r,pl,hz⟩:=I.tuple hx;have hlen:=r.length;exact truthy_tuple pl (by simp only [List.size_toArray];omega) ⟨H,I.tok _,by rw [ut r];exact q⟩
  ·subst e';obtain ⟨hz,hS,vs,r,m⟩:kvs.length<=sizeLine/\(p==sysModules)=false/\∃ vs,KV kvs vs/\s.heap.DictOf (wD X.prog X.w) p vs:=I.hok p _ hx;have hlen:kvs.length=vs.length:=Paired.length r;exact wpAny_truthy_dict hS m (by omega) ⟨H,I.tok _,by rw [Ao r];exact q⟩
 | _=>exact (show False from e).elim
def Ai:fA X (binaryOp .Add) (fun x y H Q=>∃ i j,x=.str i/\y=.str j/\i.length+j.length<=sizeLine/\Q (.str (i++j)) H):=by
 intro ag s σ H x y v u Q I rx ry h;obtain ⟨i,j,rfl,rfl,hz,q⟩:=h;obtain ⟨t,rfl⟩:=rx;obtain ⟨t',rfl⟩:=ry;exact bh I.tk (add_str (fun t' tk htk=>⟨.str (i++j),H,I.tok _,⟨_,rfl⟩,q⟩) hz)
def fY {x:V} {us:List Value} (r:bK [x] us):∃ u,us=[u]/\bB x u:=by
 cases r with
 | cons r1 r2=>cases r2;exact ⟨_,rfl,r1⟩
def M5 {x y:V} {us:List Value} (r:bK [x,y] us):∃ u w',us=[u,w']/\bB x u/\bB y w':=by
 cases r with
 | cons r1 r2 =>
  cases r2 with
  | cons r3 r4=>cases r4;exact ⟨_,_,rfl,r1,r3⟩
def Fj:cx X (.builtin "abs") (fun xs H Q=>∃ i,xs=[.int i]/\Q (.int (if i < 0 then -i else i)) H):=by
 intro ag s σ H xs us Q I r h;obtain ⟨i,rfl,q⟩:=h;obtain ⟨u,rfl,t,rfl⟩:=fY r;exact bh I.tk (call_abs_int fun u tk htk=>⟨.int (if i < 0 then -i else i),H,I.tok _,⟨_,rfl⟩,q⟩)
end
structure ObjM (h:Heap) (x dx C:Addr) (mA:Str->Option Value):Prop where
 obj:h.get? x=some (PySem.W.instObj C dx)
 ns:h.Ns1 dx mA
 ne:dx≠x
def CI {h:Heap} {dx:Addr} {mA:Str->Option Value} (n:h.Ns1 dx mA):∃ od,h.get? dx=some od/\∀ name,PySem.W.lookIn name od=some (mA name):=by
 obtain ⟨o,es,ep,ho,hd,hk,_,hm⟩:=n;refine ⟨o,ho,fun name=>?_⟩;have e:=hm name;unfold nsFind findBy at e;rw [<- Array.find?_toList] at e;unfold PySem.W.lookIn;rw [hd];dsimp only;split
 ·rename_i y q;rw [q] at e;exact congrArg some e
 ·rename_i q;rw [q] at e;have a:es.toList.any (·.refKey)=false:=by
   rw [List.any_eq_false];intro y hy;obtain ⟨z,t,hkey⟩:=hk y (Array.mem_toList_iff.mp hy);simp [DictEntry.refKey,hkey]
  have a':¬ es.toList.any (·.refKey)=true:=by rw [a];exact Bool.false_ne_true
  rw [if_neg a'];exact congrArg some e
def ObjM.look {h:Heap} {x dx C:Addr} {mA:Str->Option Value} (I:ObjM h x dx C mA):∃ od,PySem.W.InstAt h x (PySem.W.instObj C dx) C (some od)/\∀ name,PySem.W.lookIn name od=some (mA name) :=
 let ⟨od,ho,hl⟩:=CI I.ns
 ⟨od,⟨I.obj,rfl,rfl,ho⟩,hl⟩
section
variable {P:Program} {w:World} {H H':Hp} {h h':Heap} {a C dx:Addr} {fs fs':List (Str×V)}
def HE (hok:sW P w H h) (e:H a=some (.ins C dx fs)):∃ mA,ObjM h a dx C mA/\(∀ f,Lr (fs.lookup f) (mA f))/\PySem.Within mA (fs.map (·.1))/\fs.length<=1000/\H dx=some (.own a):=by
 obtain ⟨d,z,ne,ob,mA,n,r,q⟩:=(show fg P w H h a (.ins C dx fs) from hok a _ e);exact ⟨mA,⟨ob,n,ne⟩,r,q,z,d⟩
end
structure Cls (K:PySem.W.Frag) (C:Addr):Prop where
 pg:PySem.W.plainGet K C Str.empty=true
 hd:PySem.W.hasDictIn K C=true
 po:PySem.W.plainOver K C=true
 sa:PySem.W.findIn K (.ref C) "__setattr__"=some (some (.builtin "object.__setattr__"))
def Cls.get {K:PySem.W.Frag} {C:Addr} (c:Cls K C) (f:Str):PySem.W.plainGet K C f=true:=c.pg
section
variable {X:Cx} {ag:List (Addr×Obj)} {σ:St} {H:Hp} {s:Shared} {A:Around} {E:Value->Shared->Prop} {Q:Value->Shared->Prop} {c:Value} {b:Bool}
inductive TyOf (K:PySem.W.Frag) (H:Hp):V->Value->Prop where
 | non:TyOf K H .non (.type "NoneType")
 | bl (x:Bool):TyOf K H (.bl x) (.type "bool")
 | int (i:Int):TyOf K H (.int i) (.type "int")
 | str (x:Str):TyOf K H (.str x) (.type "str")
 | flt (x:UInt64):TyOf K H (.flt x) (.type "float")
 | lst {a:Addr} {xs:List V} (e:H a=some (.lst xs)):TyOf K H (.ref a) (.type "list")
 | frz {a:Addr} {o:Obj} {xs:List V} (e:H a=some (.frz o (.lst xs))):TyOf K H (.ref a) (.type "list")
 | tup {a:Addr} {xs:List V} (e:H a=some (.tup xs)):TyOf K H (.ref a) (.type "tuple")
 | dK {a:Addr} {kvs:List (pF×V)} (e:H a=some (.dK kvs)):TyOf K H (.ref a) (.type "dict")
 | dT {a:Addr} {kvs:List (List pF×V)} (e:H a=some (.dT kvs)):TyOf K H (.ref a) (.type "dict")
 | ins {a C dx:Addr} {fs:List (Str×V)} (e:H a=some (.ins C dx fs)) (cl:Cls K C) (ha:PySem.W.findIn K (.ref C) "__class__"=some (some (.builtin "object.__class__")))
   (hn:PySem.W.specialIn K (.builtin "object.__class__") "__get__"=some (some (.builtin "getset_descriptor.__get__"))) (htk:PySem.W.takesIn K (.builtin "object.__class__")=some true)
   (hm:PySem.W.mroIn K C (.type "object")=some true):TyOf K H (.ref a) (.ref C)
def lr {x:V} {u t:Value} (I:Inv X ag σ H s) (rx:bB x u) (ty:TyOf X.K H x t) (e:PySem.W.kitOne X.K t c=some b) (h:∀ tk,Q (.bool b) { s with toks:=tk }) :
  wpAny (model X.prog X.w) A (call (.builtin "isinstance") [u,c]) Q E s:=by
 cases ty with
 | non=>cases (show u=Value.none from rx);exact PySem.W.kia_one PySem.W.kitx_none I.kIn True.intro e (fun z=>nomatch z) h
 | bl y=>cases (show u=Value.bool y from rx);exact PySem.W.kia_one PySem.W.kitx_bool I.kIn True.intro e (fun z=>nomatch z) h
 | int i=>obtain ⟨t,q⟩:=(show ∃ t,u=Value.int i t from rx);cases q;exact PySem.W.kia_one PySem.W.kitx_int I.kIn True.intro e (fun z=>nomatch z) h
 | str y=>obtain ⟨t,q⟩:=(show ∃ t,u=Value.str y t from rx);cases q;exact PySem.W.kia_one PySem.W.kitx_str I.kIn True.intro e (fun z=>nomatch z) h
 | flt y=>obtain ⟨t,q⟩:=(show ∃ t,u=Value.float y t from rx);cases q;exact PySem.W.kia_one PySem.W.kitx_float I.kIn True.intro e (fun z=>nomatch z) h
 | @lst a xs ea =>
  cases (show u=Value.ref a from rx);obtain ⟨_,_,n,_,h1⟩:=(show fg X.prog X.w H s.heap a (.lst xs) from I.hok a _ ea);exact PySem.W.kia_one PySem.W.kitx_list I.kIn ⟨_,h1,rfl⟩ e (fun z=>nomatch z) h
 | @frz a ob xs ea =>
  cases (show u=Value.ref a from rx);obtain ⟨_,_,_,n,_,h1⟩:=(show fg X.prog X.w H s.heap a (.frz ob (.lst xs)) from I.hok a _ ea);exact PySem.W.kia_one PySem.W.kitx_list I.kIn ⟨_,h1,rfl⟩ e (fun z=>nomatch z) h
 | @tup a xs ea =>
  cases (show u=Value.ref a from rx);obtain ⟨_,_,_,p⟩:=(show fg X.prog X.w H s.heap a (.tup xs) from I.hok a _ ea);obtain ⟨o,h1,h2,_⟩:=p;exact PySem.W.kia_one PySem.W.kitx_tuple I.kIn ⟨o,h1,h2⟩ e (fun z=>nomatch z) h
 | @dK a kvs ea =>
  cases (show u=Value.ref a from rx);obtain ⟨_,_,vs,_,p⟩:=(show fg X.prog X.w H s.heap a (.dK kvs) from I.hok a _ ea);obtain ⟨o,es,ep,h1,h2,_⟩:=p;exact PySem.W.kia_one PySem.W.kitx_dict I.kIn ⟨o,h1,h2.1⟩ e (fun z=>nomatch z) h
 | @dT a kvs ea =>
  cases (show u=Value.ref a from rx);obtain ⟨_,_,xs,_,o,es,ep,h1,h2,_⟩:=(show fg X.prog X.w H s.heap a (.dT kvs) from I.hok a _ ea);exact PySem.W.kia_one PySem.W.kitx_dict I.kIn ⟨o,h1,h2.1⟩ e (fun z=>nomatch z) h
 | @ins a C dx fs ea cl ha hn htk hm =>
  cases (show u=Value.ref a from rx);obtain ⟨mA,O,_⟩:=HE I.hok ea;obtain ⟨od,J,_⟩:=O.look;exact PySem.W.kia_one (PySem.W.kitx_own (cl.get _) cl.hd ha hn htk hm) I.kIn J e (fun z=>nomatch z) h
end
structure Room (k:Nat) (A:Around):Prop where
 hd:A.handled=none
 dp:A.depth+3*k+5 < recursionLimit
 un:A.units+16*k+200 < cLine
def Room.mono {j k:Nat} {A:Around} (r:Room k A) (h:j<=k):Room j A:=⟨r.hd,by have:=r.dp;omega,by have:=r.un;omega⟩
def Room.deeper {k:Nat} {A:Around} (r:Room (k+1) A) (env:Env):Room k (A.deeper env) :=
 ⟨r.hd,by have:=r.dp;show A.depth+1+3*k+5 < _;omega,by have:=r.un;show A.units+3+16*k+200 < _;omega⟩
def Room.depth {k:Nat} {A:Around} (r:Room k A):A.depth < recursionLimit:=by have:=r.dp;omega
def Room.units {k:Nat} {A:Around} (r:Room k A):A.units+64 < cLine:=by have:=r.un;omega
def B8:TA:=fun _ H Q=>Q [] H
def tF (ta:TE) (tr:TA):TA:=fun σ H Q=>ta σ H fun x H1=>tr σ H1 fun xs H2=>Q (x::xs) H2
section
variable {X:Cx} {e:Expr} {es:List Expr} {te:TE} {t:TA} {pos:Pos}
def K8:PA X [] B8:=fun _ _ _ _ H Q I h=>Calls.spliced_nil ⟨[],H,I,.nil,h⟩
def HP (ha:PE X e te) (hr:PA X es t) (hs:starEach (e::es) X.env=(false,eval e X.env)::starEach es X.env:=by rfl):PA X (e::es) (tF te t):=by
 intro pos ag s σ H Q I h;rw [hs];show wpAny _ _ (spliced ((false,eval e X.env)::backTo pos (starEach es X.env))) _ _ s;refine Calls.spliced_cons (gH (ha ag s σ H _ I h) fun u s1 hh=>qK hh fun x H1 I1 r1 q1=>?_);exact gH (hr pos ag s1 σ H1 _ I1 q1) fun us s2 hh=>qK hh fun xs H2 I2 r2 q2=>⟨x::xs,H2,I2,.cons r1 r2,q2⟩
def M7 (t:TA):TE:=fun σ H Q=>t σ H fun xs H1=>xs.length<=sizeLine/\∀ p,H1 p=none->Q (.ref p) (cQ H1 p (.tup xs))
def OP (t:TA):TE:=fun σ H Q=>t σ H fun xs H1=>xs.length<=sizeLine/\∀ p,H1 p=none->Q (.ref p) (cQ H1 p (.lst xs))
def Ky {x1} (h:PA X es t):PE X (.Tuple es x1 pos) (M7 t):=by
 intro ag s σ H Q I hq;refine wpAny_Tuple_spliced (gH (h pos ag s σ H _ I hq) fun us s1 ⟨xs,H1,I1,r,z,q⟩=>⟨by rw [<- r.length];exact z,?_⟩);have hf:H1 s1.heap.objs.size=none:=I1.hok.fresh (Nat.le_refl _);refine ⟨.ref s1.heap.objs.size,cQ H1 s1.heap.objs.size (.tup xs),I1.laid (t':=s1.toks) (fun b u e=>Heap.get?_push_of_some _ e) (Nat.le_refl _) ?_,rfl,q _ hf⟩;exact ⟨z,us,r,⟨_,Heap.get?_push_size _ rfl,rfl,_,rfl⟩⟩
def JY (h:PA X es t):PE X (.List es pos) (OP t):=by
 intro ag s σ H Q I hq;refine wpAny_List_spliced (gH (h pos ag s σ H _ I hq) fun us s1 ⟨xs,H1,I1,r,z,q⟩=>⟨by rw [<- r.length];exact z,?_⟩);have hf:H1 s1.heap.objs.size=none:=I1.hok.fresh (Nat.le_refl _);refine ⟨.ref s1.heap.objs.size,cQ H1 s1.heap.objs.size (.lst xs),I1.laid (t':=s1.toks) (fun b u e=>Heap.get?_push_of_some _ e) (Nat.le_refl _) ?_,rfl,q _ hf⟩;exact ⟨z,us,0,r,Heap.get?_push_size _ rfl⟩
end
abbrev Sp:=List V->Hp->VK->XK->Prop
abbrev C7:=List Env->Hp->Shared->XK->Value->Shared->Prop
structure Env0 (P:Program) (w:World) (K:PySem.W.Frag) (mg:Str->Option Value) (base:Heap) (A:Around) (outer:List Env) (s:Shared) (H:Hp):Prop where
 frames:A.frames=some outer
 mod:Mod K mg base
 bs:∀ b o,base.get? b=some o->s.heap.get? b=some o/\H b=none
 bsz:base.objs.size<=s.heap.objs.size
 funs:s.heap.FunFrames base outer
 frf:∀ b∈C9 outer,H b=none
 hok:sW P w H s.heap
 bare:AllBare s.gens
def CE (outer:List Env) (P:Program) (w:World) (H:Hp) (s:Shared) (Q:VK) (u:Value) (s':Shared):Prop :=
 ∃ v H',s'.os=s.os/\AllBare s'.gens/\Un (C9 outer) [] H H' s.heap s'.heap/\sW P w H' s'.heap/\bB v u/\Q v H'
def CR (CX:C7) (outer:List Env) (P:Program) (w:World) (H:Hp) (s:Shared) (Q:VK) (E:XK) (r:Result) (s':Shared):Prop :=
 match r with
 | .ok (.ret u)=>CE outer P w H s Q u s'
 | .ok _=>False
 | .error e=>CX outer H s E e s'
structure FnOk (P:Program) (w:World) (K:PySem.W.Frag) (mg:Str->Option Value) (base:Heap) (CX:C7) (k:Nat) (f:Addr) (fd:FuncData) (ps:List Str) (sp:Sp):Prop where
 len:∀ vs H Q E,sp vs H Q E->vs.length=ps.length
 run:∀ (A:Around) (outer:List Env) (s:Shared) (H:Hp) (args:Args) (us:List Value) (vs:List V) (Q:VK) (E:XK),Room k A->Env0 P w K mg base A outer s H->BindsTo s fd args (ps.zip us)->bK vs us->sp vs H Q E ->
  codeAny (model P w) A (.call (.ref f) args) (CR CX outer P w H s Q E) s
def FnOk.imp {P:Program} {w:World} {K:PySem.W.Frag} {mg:Str->Option Value} {base:Heap} {CX:C7} {k:Nat} {f:Addr} {fd:FuncData} {ps:List Str} {sp sp':Sp} (F:FnOk P w K mg base CX k f fd ps sp)
  (h:∀ vs H Q E,sp' vs H Q E->sp vs H Q E):FnOk P w K mg base CX k f fd ps sp' :=
 ⟨fun vs H Q E q=>F.len vs H Q E (h _ _ _ _ q),fun A outer s H args us vs Q E hr he hb hv hs=>F.run A outer s H args us vs Q E hr he hb hv (h _ _ _ _ hs)⟩
section
variable {X:Cx} {ag:List (Addr×Obj)} {σ:St} {H:Hp} {s s':Shared}
def Inv.env0 (I:Inv X ag σ H s):Env0 X.prog X.w X.K X.mg X.base X.A X.stack s H :=
 ⟨I.ok.frames,I.ok.mod,I.bs,Nat.le_trans I.ok.bsz I.sz,I.stack,I.stkFree,I.hok,I.bare⟩
def Inv.after {Q:VK} {u:Value} (I:Inv X ag σ H s) (h:CE X.stack X.prog X.w H s Q u s') (ht:X.tn<=s'.toks:=by walk_at "tok"):EP X ag σ Q u s':=by
 obtain ⟨v,H',os,bare,un,hok,r,q⟩:=h;obtain ⟨hh,g,d,t,os'⟩:=s';obtain rfl:os'=s.os:=os;exact ⟨v,H',I.call (h':=hh) (g':=g) (d':=d) (t':=t) (ch:=[]) un hok bare (fun b z=>absurd z (by simp)),r,q⟩
end
def zl (K:PySem.W.Frag) (fd:FuncData) (ps:List Str) (ds:List Value):Prop :=
 ∀ (s:Shared) (us:List Value),K.In s.heap->(us++ds).length=ps.length->BindsTo s fd ⟨us,[]⟩ (ps.zip (us++ds))
def zl.all {K:PySem.W.Frag} {fd:FuncData} {ps:List Str} (h:∀ us:List Value,us.length=ps.length->bindArgs fd ⟨us,[]⟩=pure (ps.zip us)):zl K fd ps []:=fun s us _ hl=>by
 rw [List.append_nil] at hl ⊢;exact .of_eq (h us hl)
def De (CX:C7) (X:Cx) (E:XK):Prop:=∀ (ag:List (Addr×Obj)) (σ:St) (H:Hp) (s:Shared) (e:Value) (s':Shared),Inv X ag σ H s->CX X.stack H s E e s'->X.xe e s'
section
variable {X:Cx} {CX:C7} {k:Nat} {f C:Addr} {fd:FuncData} {ps:List Str} {sp:Sp} {dvs:List V} {ds:List Value} {E:XK} {x m:Str} {p pos apos:Pos} {e o:Expr} {es:List Expr} {ta:TE} {t:TA}
def K6 {ag:List (Addr×Obj)} {σ:St} {H:Hp} {s:Shared} {Q:VK} {us:List Value} {vs:List V} (F:FnOk X.prog X.w X.K X.mg X.base CX k f fd ps sp) (hr:Room k X.A) (hb:zl X.K fd ps ds) (hd:bK dvs ds) (hx:De CX X E)
  (I:Inv X ag σ H s) (r:bK vs us) (h:sp (vs++dvs) H Q E):wpAny (model X.prog X.w) X.A (call (.ref f) us) (EP X ag σ Q) X.xe s:=by
 have r2:bK (vs++dvs) (us++ds):=r.append hd;have hl:(us++ds).length=ps.length:=by rw [<- r2.length];exact F.len _ _ _ _ h
 refine wpAny_call (oS I.tk (codeAny_mono (F.run X.A X.stack s H ⟨us,[]⟩ (us++ds) (vs++dvs) Q E hr I.env0 (hb s us I.kIn hl) r2 h) fun r s' hq htk=>?_));cases r with
 | error e=>exact hx ag σ H s e s' I hq
 | ok fl =>
  cases fl with
  | ret u=>exact I.after hq
  | next=>exact False.elim hq
  | brk=>exact False.elim hq
  | cont=>exact False.elim hq
end
structure FnScope (N P:List Str) (sc:Scope):Prop where
 kind:sc.kind=.function
 co:sc.isCoroutine=false
 gen:sc.isGenerator=false
 nd:N.Nodup
 pre:N.take P.length=P
 par:∀ x∈P,sc.names.lookup x=some .local\/sc.names.lookup x=some .cell
 nofree:∀ y∈sc.names,y.2≠.free
def vK {kindOf:Str->Option NameKind} {x:Str}:∀ {binds:List (Str×Value)} {m:Str->Option Value},(∀ v,(x,v)∉binds)->bindL kindOf binds m x=m x
 | [],_,_=>rfl
 | (n,v)::r,m,h=>by
  unfold bindL;rw [vK fun w hw=>h w (List.mem_cons_of_mem _ hw)];split
  ·have:x≠n:=by rintro rfl;exact h v List.mem_cons_self
   simp [this]
  ·rfl
def vW {kindOf:Str->Option NameKind} {x:Str}:∀ {binds:List (Str×Value)} {m:Str->Option Value},(∀ v,(x,v)∉binds)->bindC kindOf binds m x=m x
 | [],_,_=>rfl
 | (n,v)::r,m,h=>by
  unfold bindC;rw [vW fun w hw=>h w (List.mem_cons_of_mem _ hw)];split
  ·rfl
  ·have:x≠n:=by rintro rfl;exact h v List.mem_cons_self
   simp [this]
def vv {kindOf:Str->Option NameKind} {x:Str} {v:Value}:∀ {P:List Str} {vs:List Value} {i:Nat} {m:Str->Option Value},P.Nodup->P[i]?=some x->vs[i]?=some v->kindOf x=some .local ->
  bindL kindOf (P.zip vs) m x=some v
 | [],_,_,_,_,h,_,_=>by simp at h
 | _::_,[],_,_,_,_,h,_=>by simp at h
 | p::P,w::vs,0,m,nd,h1,h2,hk=>by
  simp at h1 h2;subst h1;subst h2;show bindL kindOf ((p,w)::P.zip vs) m p=_;unfold bindL;rw [vK fun v hv=>(List.nodup_cons.mp nd).1 (List.of_mem_zip hv).1,if_pos hk];simp
 | p::P,w::vs,i+1,m,nd,h1,h2,hk=>by
  show bindL kindOf ((p,w)::P.zip vs) m x=_;unfold bindL;exact vv (i:=i) (List.nodup_cons.mp nd).2 (by simpa using h1) (by simpa using h2) hk
def vx {kindOf:Str->Option NameKind} {x:Str} {v:Value}:∀ {P:List Str} {vs:List Value} {i:Nat} {m:Str->Option Value},P.Nodup->P[i]?=some x->vs[i]?=some v->kindOf x≠some .local ->
  bindC kindOf (P.zip vs) m x=some v
 | [],_,_,_,_,h,_,_=>by simp at h
 | _::_,[],_,_,_,_,h,_=>by simp at h
 | p::P,w::vs,0,m,nd,h1,h2,hk=>by
  simp at h1 h2;subst h1;subst h2;show bindC kindOf ((p,w)::P.zip vs) m p=_;unfold bindC;rw [vW fun v hv=>(List.nodup_cons.mp nd).1 (List.of_mem_zip hv).1,if_neg hk];simp
 | p::P,w::vs,i+1,m,nd,h1,h2,hk=>by
  show bindC kindOf ((p,w)::P.zip vs) m x=_;unfold bindC;exact vx (i:=i) (List.nodup_cons.mp nd).2 (by simpa using h1) (by simpa using h2) hk
def start (N:List Str) (vs:List V):St:=vs.map some++List.replicate (N.length - vs.length) none
def qd (CX:C7) (P:Program) (w:World) (K:PySem.W.Frag) (mg:Str->Option Value) (base:Heap) (N:List Str) (qual:Str) (scope:Scope) (f:Addr) (cd:Value) (A:Around) (outer:List Env) (s:Shared) (H:Hp) (E:XK):Cx where
 prog:=P
 w:=w
 K:=K
 mg:=mg
 base:=base
 A:=A.deeper (envOfC qual scope s.heap.objs.size f cd)
 N:=N
 s₀:=s
 H₀:=H
 env:=envOfC qual scope s.heap.objs.size f cd
 outer:=outer
 stack:=envOfC qual scope s.heap.objs.size f cd::outer
 ex:=[]
 calm:=true
 fn:=fun _=>true
 pn:=[]
 xe:=fun e s'=>wpAny (model P w) (A.deeper (envOfC qual scope s.heap.objs.size f cd)) (leaving (envOfC qual scope s.heap.objs.size f cd) e) (fun _ s''=>CX outer H s E e s'') (fun e' s''=>CX outer H s E e' s'') s'
def yj {sc:Scope} {n:Nat} {x:Str} (h:sc.names.lookup x=some .cell):∃ c,(cellsFrom n sc.names []).lookup x=some c:=by
 have q:=PySem.W.cellsFrom_some sc.names n [] (.inl h);exact Option.isSome_iff_exists.mp q
def vq {CX:C7} {P:Program} {w:World} {K:PySem.W.Frag} {mg:Str->Option Value} {base:Heap} {N ps:List Str} {qual:Str} {scope:Scope} {f:Addr} {cd:Value} {A:Around} {outer:List Env} {s s1:Shared} {H:Hp} {E:XK} {us:List Value} {vs:List V}
  (S:FnScope N ps scope) (hd:A.handled=none) (e0:Env0 P w K mg base A outer s H) (hl:vs.length=ps.length) (r:bK vs us)
  (x:InCallC s s.heap.objs.size (bindL (envOfC qual scope s.heap.objs.size f cd).kindOf (ps.zip us) fun _=>none) (cellsFrom (s.heap.objs.size+1) scope.names []) (bindC (envOfC qual scope s.heap.objs.size f cd).kindOf (ps.zip us) fun _=>none) s1) :
  Inv (qd CX P w K mg base N qual scope f cd A outer s H E) [] (start N vs) H s1:=by
 have hpl:ps.length<=N.length:=by have:=congrArg List.length S.pre;rw [List.length_take] at this;omega
 obtain ⟨h1,tk,rfl,hk⟩:=x.done;have noA:∀ b:Addr,b∉(qd CX P w K mg base N qual scope f cd A outer s H E).ex:=fun b z=>absurd (show b∈([]:List Addr) from z) (by simp);refine ⟨⟨e0.mod,S.kind,rfl,rfl,Nat.le_refl _,fun y z c h1 h2=>?_,fun y hy=>?_,fun y c _ h=>?_,fun _=>hd,Around.frames_deeper e0.frames,.inr ⟨rfl,rfl⟩,fun b z=>absurd z (noA b),e0.bs,e0.bsz,fun b _ _=>noA b,fun b z=>absurd z (noA b),e0.funs,e0.frf⟩,
  rfl,e0.bare,Un.kept hk,⟨_,x.toInCall.ns,fun i y v h1 h2 h3=>?_⟩,fun y c h=>⟨_,x.cell y c h⟩,e0.hok.fresh (Nat.le_refl _),fun y c h=>?_,fun p hp=>absurd (show p∈([]:List (Addr×Obj)) from hp) (by simp),e0.hok.kept hk,?_,Nat.zero_le _⟩
 ·exact name_of_addr x.apart (PySem.mem_of_lookup h1) (PySem.mem_of_lookup h2)
 ·have hy:scope.names.lookup y=some .cell\/scope.names.lookup y=some .free:=hy;rcases hy with hy|hy
  ·exact yj hy
  ·exact absurd rfl (S.nofree _ (PySem.mem_of_lookup hy))
 ·exact Nat.le_of_lt (x.above y c (PySem.mem_of_lookup h))
 ·have hi:i < vs.length:=by
   unfold start at h2;by_cases hi:i < vs.length
   ·exact hi
   ·rw [List.getElem?_append_right (by simpa using hi)] at h2;rw [List.getElem?_replicate] at h2;split at h2 <;> cases h2
  have ha:vs[i]?=some v:=by
   unfold start at h2;rw [List.getElem?_append_left (by simpa using hi),List.getElem?_map] at h2;cases e:vs[i]? with
   | none=>rw [e] at h2;cases h2
   | some a=>rw [e] at h2;cases h2;rfl
  obtain ⟨u,hu,rv⟩:=r.get ha;have hp:ps[i]?=some y:=by
   rw [<- S.pre,List.getElem?_take_of_lt (by omega)];exact h1
  have ndP:ps.Nodup:=by rw [<- S.pre];exact S.nd.sublist (List.take_sublist _ _)
  refine ⟨u,rv,?_⟩;rcases S.par y (List.mem_of_getElem? hp) with k|k
  ·exact .inl ⟨k,vv ndP hp hu k⟩
  ·obtain ⟨c,e⟩:=yj (n:=s.heap.objs.size+1) k;refine .inr ⟨.inl k,c,e,?_⟩;have q:=x.cell y c e;rw [vx ndP hp hu (by show scope.names.lookup y≠_;rw [k];decide)] at q;exact q
 ·exact e0.hok.fresh (Nat.le_of_lt (x.above y c (PySem.mem_of_lookup h)))
 ·unfold start;show _=N.length;rw [List.length_append,List.length_map,List.length_replicate];omega
def Nx {CX:C7} {P:Program} {w:World} {K:PySem.W.Frag} {mg:Str->Option Value} {base:Heap} {k:Nat} {f:Addr} {name qual:Str} {params:Arguments} {body:List Stmt} {scope:Scope} {dV kV doc pm cdv ct oc:Value} {an od:Option Addr}
  {osl:Array (Option Value)} {N ps:List Str} {sp:Sp} (lk:K.lookup f=some ⟨oc,od,.func (PySem.W.fnOf name qual params body scope dV kV doc pm an cdv ct),osl⟩) (hcd:PySem.W.codeIn K cdv qual=true) (S:FnScope N ps scope)
  (len:∀ vs H Q E,sp vs H Q E->vs.length=ps.length)
  (hbody:∀ (A:Around) (outer:List Env) (s:Shared) (H:Hp) (vs:List V) (Q:VK) (E:XK),Room k (A.deeper (envOfC qual scope s.heap.objs.size f cdv))->sp vs H Q E ->
   ∃ t,zw (qd CX P w K mg base N qual scope f cdv A outer s H E) body t/\t { nx:=fun _ H'=>Q .non H',rt:=Q } (start N vs) H) :
  FnOk P w K mg base CX (k+1) f (PySem.W.fnOf name qual params body scope dV kV doc pm an cdv ct) ps sp:=by
 refine ⟨len,fun A outer s H args us vs Q E hr e0 hb r hsp=>?_⟩;have hl:=len _ _ _ _ hsp;have KX:K.In s.heap:=e0.mod.kin.keeps fun b o e=>(e0.bs b o e).1;have lim:s.heap.NoLimit:=e0.mod.nolimit.keeps fun b o e=>(e0.bs b o e).1;have hkind:∀ y∈ps.zip us,scope.names.lookup y.1=some .local\/(scope.names.lookup y.1=some .cell/\((cellsFrom (s.heap.objs.size+1) scope.names []).lookup y.1).isSome=true):=fun ⟨n,v⟩ hy=>by
  rcases S.par n (List.of_mem_zip hy).1 with q|q
  ·exact .inl q
  ·exact .inr ⟨q,PySem.W.cellsFrom_some _ _ _ (.inl q)⟩
 refine codeAny_call_function hr.depth (KX _ _ lk) rfl S.co S.gen rfl (PySem.W.codeRec_of KX hcd) (hb _ _ _ _ ?_);refine wpAny_newFunctionEnv_cells S.kind hkind fun env he s1 x=>?_;subst he;refine ⟨lim.keeps x.toInCall.keep,codeAny_func ?_⟩;obtain ⟨t,ht,hq⟩:=hbody A outer s H vs Q E (hr.deeper _) hsp;have I:Inv (qd CX P w K mg base N qual scope f cdv A outer s H E) [] (start N vs) H s1:=vq S hr.hd e0 hl r x;refine wpAny_mono (ht [] s1 (start N vs) H _ I hq) (fun fl s' hs=>?_) fun e s' hs=>hs;have fin:∀ {σ':St} {H':Hp} {v:V} {u:Value},Inv (qd CX P w K mg base N qual scope f cdv A outer s H E) [] σ' H' s'->bB v u->Q v H'->CE outer P w H s Q u s' :=
  fun {σ' H' v u} J rv q=>⟨v,H',J.os,J.bare,J.base,J.hok,rv,q⟩
 cases fl with
 | ret u =>
  obtain ⟨v,σ',H',J,rv,q⟩:=hs;exact fin J rv q
 | next =>
  obtain ⟨σ',H',J,q⟩:=hs;exact fin (v:=V.non) (u:=Value.none) J rfl q
 | brk =>
  obtain ⟨_,_,_,q⟩:=hs;exact False.elim q
 | cont =>
  obtain ⟨_,_,_,q⟩:=hs;exact False.elim q
section
variable {X:Cx} {x:Str} {p pos:Pos} {e:Expr} {es:List Expr} {t:TA} {id T:String} {r:List V->Hp->VK->Prop}
def Ma (r:List V->Hp->VK->Prop) (t:TA):TE:=fun σ H Q=>t σ H fun vs H1=>r vs H1 Q
def DR (hc:cx X (.builtin id) r) (hg:Gl X x) (hm:X.mg x=none) (hv:bootBuiltins x=some (.builtin id)) (ha:PA X (e::es) t) (hn:x≠"__name__":=by decide) (hdb:(x==("__debug__":Str))=false:=by decide)
  (he:starEach (e::es) X.env=(false,eval e X.env)::starEach es X.env:=by rfl) (hpl:(backTo pos (starEach es X.env)).any (·.1)=false:=by rfl):PE X (.Call (.Name x p) (e::es) [] pos) (Ma r t):=by
 intro ag s σ H Q I h;refine wpAny_Call_Name_kw (nv I hg hm hv ?_ hn hdb);exact PyProof.Rows.callWith_builtin1 (gH (ha pos ag s σ H _ I h) fun us s1 hh=>qK hh fun vs H1 I1 r1 q1=>hc ag s1 σ H1 vs us Q I1 r1 q1) he hpl
def Ct (hc:cx X (.type T) r) (hg:Gl X x) (hm:X.mg x=none) (hv:bootBuiltins x=some (.type T)) (ha:PA X (e::es) t) (hn:x≠"__name__":=by decide) (hdb:(x==("__debug__":Str))=false:=by decide)
  (he:starEach (e::es) X.env=(false,eval e X.env)::starEach es X.env:=by rfl) (hpl:(backTo pos (starEach es X.env)).any (·.1)=false:=by rfl):PE X (.Call (.Name x p) (e::es) [] pos) (Ma r t):=by
 intro ag s σ H Q I h;refine wpAny_Call_Name_kw (nv I hg hm hv ?_ hn hdb);exact PyProof.Rows.callWith_type1 (gH (ha pos ag s σ H _ I h) fun us s1 hh=>qK hh fun vs H1 I1 r1 q1=>hc ag s1 σ H1 vs us Q I1 r1 q1) he hpl
end
end L2
namespace HT
open PySem PyProof.Rows
section
variable {prog:Program} {w:World} {A:Around} {E:Value->Shared->Prop} {s:Shared}
def G9 {t b:Addr} {vs ws:List Value} {Q:Value->Shared->Prop} (ht:IsTup s.heap t vs.toArray) (hb:IsTup s.heap b ws.toArray) (hv:vs≠[])
  (h1:ws=[]->Q (.ref t) s) (h2:ws≠[]->Q (.ref s.heap.objs.size) { s with heap:=s.heap.push { cls:=.type "tuple",data:=.seq (vs++ws).toArray } })
  (hsz:vs.length+ws.length<=sizeLine):wpAny (model prog w) A (binaryOp .Add (.ref t) (.ref b)) Q E s:=by
 obtain ⟨⟨cls,dd,data,sl⟩,ho,hc,n,hd⟩:=id ht;obtain ⟨⟨cls2,dd2,data2,sl2⟩,ho2,hc2,n2,hd2⟩:=id hb;simp only at hc hd hc2 hd2;subst hc hd hc2 hd2;have e:vs.toArray++ws.toArray=(vs++ws).toArray:=by simp
 by_cases hw:ws=[]
 ·exact concat_meets ⟨_,ho,rfl⟩ ⟨_,ho2,rfl⟩ noFill_tuple_add seq_tuple_add PySem.F.slot_tuple_add PySem.F.entry_tuple_add (PySem.F.args_tuple_add_2 _ _)
   (tuple_addW1 t b vs.toArray ws.toArray n n2 dd dd2 sl sl2 (by simpa using hv) (by simp [hw])) ⟨ho,ho2,h1 hw⟩
 ·refine concat_meets ⟨_,ho,rfl⟩ ⟨_,ho2,rfl⟩ noFill_tuple_add seq_tuple_add PySem.F.slot_tuple_add PySem.F.entry_tuple_add (PySem.F.args_tuple_add_2 _ _)
   (tuple_addW2 t b vs.toArray ws.toArray n n2 dd dd2 sl sl2 (by simpa using hv) (by simpa using hw) (by rw [List.size_toArray,List.size_toArray];exact hsz)) ⟨ho,ho2,?_⟩
  rw [e];exact h2 hw
def sIx (n d:Nat):Option Int->Nat
 | none=>d
 | some v=>if v < 0 then (v+(n:Int)).toNat else min v.toNat n
def yi (n d:Nat):sIx n d none=d:=rfl
def dJ (n d k:Nat):sIx n d (some (k:Int))=min k n:=by
 show (if (k:Int) < 0 then ((k:Int)+(n:Int)).toNat else min (k:Int).toNat n)=min k n;rw [if_neg (by omega),Int.toNat_natCast]
def AC (n d:Nat) (hd:d<=n) (o:Option Int):sIx n d o<=n:=by
 cases o with
 | none=>exact hd
 | some v =>
  show (if v < 0 then (v+(n:Int)).toNat else min v.toNat n)<=n;by_cases hv:v < 0
  ·rw [if_pos hv];omega
  ·rw [if_neg hv];exact Nat.min_le_right _ _
def Bn (v:Int) (n d:Nat):(if v < 0 then max (v+(n:Int)) 0 else min v (n:Int))=((sIx n d (some v):Nat):Int):=by
 show (if v < 0 then max (v+(n:Int)) 0 else min v (n:Int))=(((if v < 0 then (v+(n:Int)).toNat else min v.toNat n):Nat):Int);by_cases hv:v < 0
 ·simp only [if_pos hv];omega
 ·simp only [if_neg hv];omega
def z6 (lo hi:Option Int) (n:Nat):Builtin.Slice.sliceAdjust lo hi 1 (n:Int)=(((sIx n 0 lo:Nat):Int),((sIx n n hi:Nat):Int)):=by
 have h1:¬ ((1:Int) < 0):=by omega
 unfold Builtin.Slice.sliceAdjust;simp only [h1,if_false];refine Prod.ext ?_ ?_
 ·cases lo with
  | none=>rfl
  | some v=>exact Bn v n 0
 ·cases hi with
  | none=>rfl
  | some v=>exact Bn v n n
def zF (i j:Nat):Builtin.Slice.slicePlaces (i:Int) (j:Int) 1=j - i:=by
 unfold Builtin.Slice.slicePlaces;have h1:(1:Int) > 0:=by omega
 simp only [h1,if_true,Int.ediv_one];split <;> omega
def uo {v:Value} {o:Option Int} {Q:Option Int->Shared->Prop} (p:IsPart v o) (h:Q o s):wpAny (model prog w) A (Builtin.Slice.slicePartIndex v) Q E s:=by
 cases p with
 | none=>exact slicePart_none h
 | int i t=>exact slicePart_int h
def rz {sl:Addr} {vl vu:Value} {lo hi:Option Int} {n:Nat} {Q:Int×Int×Nat->Shared->Prop} (hs:s.heap.IsSliceOf sl vl vu .none) (pl:IsPart vl lo) (pu:IsPart vu hi)
  (h:Q (((sIx n 0 lo:Nat):Int),1,sIx n n hi - sIx n 0 lo) s):wpAny (model prog w) A (Builtin.Slice.sliceApplied (.ref sl) (pure (n:Int))) Q E s:=by
 obtain ⟨os,hos,hcs,hds⟩:=id hs;unfold Builtin.Slice.sliceApplied Builtin.Slice.sliceFields;refine wpAny_bind (wpAny_bind (wpAny_field hos hds (x:=vl) rfl (wpAny_bind (wpAny_field hos hds (x:=vu) rfl (wpAny_bind (wpAny_field hos hds (x:=.none) rfl (wpAny_pure ?_)))))));refine wpAny_bind (slicePart_none ?_);show wpAny _ _ (if ((1:Int)==0)=true then _ else _) _ _ s;rw [if_neg (by decide)];refine wpAny_bind (uo pl (wpAny_bind (uo pu (wpAny_bind (wpAny_pure ?_)))));show wpAny _ _ (match Builtin.Slice.sliceAdjust lo hi 1 (n:Int) with|(lo,hi)=>pure (lo,(1:Int),Builtin.Slice.slicePlaces lo hi 1)) _ _ s
 rw [z6 lo hi n];show wpAny _ _ (pure (((sIx n 0 lo:Nat):Int),(1:Int),Builtin.Slice.slicePlaces ((sIx n 0 lo:Nat):Int) ((sIx n n hi:Nat):Int) 1)) _ _ s;rw [zF];exact wpAny_pure h
def Fb (xs:Array Value) (i k:Nat):((List.range k).filterMap fun (m:Nat)=>xs[((i:Int)+(m:Int)*1).toNat]?).toArray=((xs.toList.drop i).take k).toArray:=by
 have e:(fun (m:Nat)=>xs[((i:Int)+(m:Int)*1).toNat]?)=fun m=>xs[i+m]?:=by
  funext m
  have:((i:Int)+(m:Int)*1).toNat=i+m:=by omega
  rw [this]
 rw [e]
 have:=pick_run xs i k
 rw [List.filterMap_map] at this;have e2:((fun x=>xs[x]?) ∘ fun x=>i+x)=fun m=>xs[i+m]?:=rfl;rw [e2] at this;rw [this]
def qm {t sl:Addr} {items:Array Value} {vl vu:Value} {lo hi:Option Int} {Q:Value->Shared->Prop} (ht:IsTup s.heap t items) (hs:s.heap.IsSliceOf sl vl vu .none) (pl:IsPart vl lo) (pu:IsPart vu hi)
  (hw:¬ (sIx items.size 0 lo=0/\sIx items.size items.size hi=items.size))
  (h:Q (.ref s.heap.objs.size) { s with heap:=s.heap.push { cls:=.type "tuple",data:=.seq ((items.toList.drop (sIx items.size 0 lo)).take (sIx items.size items.size hi - sIx items.size 0 lo)).toArray } })
  (hsz:items.size<=sizeLine):wpAny (model prog w) A (getItem (.ref t) (.ref sl)) Q E s:=by
 have htake:sizeOk (.seq ((items.toList.drop (sIx items.size 0 lo)).take (sIx items.size items.size hi - sIx items.size 0 lo)).toArray):=by
  show ((items.toList.drop (sIx items.size 0 lo)).take (sIx items.size items.size hi - sIx items.size 0 lo)).toArray.size<=sizeLine;rw [List.size_toArray,List.length_take,List.length_drop,Array.length_toList];omega
 have hj:sIx items.size items.size hi<=items.size:=AC _ _ (Nat.le_refl _) hi;obtain ⟨os,hos,hcs,hds⟩:=id hs;have hTs:s.TypeIs (.ref sl) "slice":=⟨os,hos,hcs⟩;unfold getItem;try with_reducible refine wpAny_holding ?_
 first|refine wpAny_bind (wpAny_pure ?_)|skip
 refine wpAny_bind (wpAny_sequenceKey ht.typeIs (by decide) ?_);refine wpAny_bind (wpAny_callSpecial?_slot (name:=Str.ofString "__getitem__") ht.typeIs PyProof.Rows.slot_tuple_getitem
  (wpAny_call_entry PyProof.Rows.slot_tuple_getitem ht.typeIs entry_tuple_getitem ?_ (args_tuple_getitem _ _)))
 show wpAny _ _ (Builtin.Tuple.tupleItemsOf (.ref t) >>= _) _ _ s;refine wpAny_bind (tupleItemsOf_ ht ?_);refine wpAny_bind (wpAny_typeOf hTs ?_);rw [if_pos (by decide)];refine wpAny_bind (rz hs pl pu ?_);have hno:¬ ((((sIx items.size 0 lo:Nat):Int)==0&&(1:Int)==1&&(sIx items.size items.size hi - sIx items.size 0 lo)==items.size)=true):=by
  intro q;rw [Bool.and_eq_true,Bool.and_eq_true] at q;have q1:((sIx items.size 0 lo:Nat):Int)=0:=eq_of_beq q.1.1;have q2:sIx items.size items.size hi - sIx items.size 0 lo=items.size:=eq_of_beq q.2;exact hw ⟨by omega,by omega⟩
 show wpAny _ _ (if (((sIx items.size 0 lo:Nat):Int)==0&&(1:Int)==1&&(sIx items.size items.size hi - sIx items.size 0 lo)==items.size)=true then _ else _) _ _ s;rw [if_neg hno,Fb]
 first
  | exact wpAny_bind (m:=Builtin.Tuple.tupleExact _) (wpAny_newObj_type (wpAny_pure ⟨_,rfl,wpAny_pure h⟩) htake)
  | exact wpAny_bind (m:=Builtin.Tuple.tupleExact _) (wpAny_newObj_type (wpAny_bind (wpAny_pure (wpAny_pure ⟨_,rfl,wpAny_pure h⟩))) htake)
  | exact wpAny_bind (wpAny_bind (m:=Builtin.Tuple.tupleExact _) (wpAny_newObj_type (wpAny_pure (wpAny_pure ⟨_,rfl,wpAny_pure h⟩)) htake))
  | exact wpAny_bind (wpAny_bind (m:=Builtin.Tuple.tupleExact _) (wpAny_newObj_type (wpAny_pure ⟨_,rfl,wpAny_pure h⟩) htake))
end
end HT
namespace L2
open PySem PySem.Spec PyProof.Rows
abbrev TO:=St->Hp->(Option Int->Hp->Prop)->Prop
def PO (X:Cx) (e:Option Expr) (t:TO):Prop :=
 ∀ (ag:List (Addr×Obj)) (s:Shared) (σ:St) (H:Hp) (Q:Option Int->Hp->Prop),Inv X ag σ H s->t σ H Q ->
  wpAny (model X.prog X.w) X.A (evalPart e X.env) (fun u s'=>∃ o H',Inv X ag σ H' s'/\IsPart u o/\Q o H') X.xe s
def B0:TO:=fun _ H Q=>Q none H
section
variable {X:Cx} {e:Expr} {te:TE} {lo hi:Option Expr} {tl th:TO} {pos p2:Pos}
def Gj:PO X none B0:=by
 intro ag s σ H Q I h;rw [evalPart_none];exact wpAny_pure ⟨none,H,I,.none,h⟩
def Ad (X:Cx) (r:V->Option Int->Option Int->Hp->VK->Prop):Prop :=
 ∀ (ag:List (Addr×Obj)) (s:Shared) (σ:St) (H:Hp) (x:V) (v vl vu:Value) (lo hi:Option Int) (sl:Addr) (Q:VK),Inv X ag σ H s->bB x v->s.heap.IsSliceOf sl vl vu .none->IsPart vl lo->IsPart vu hi->r x lo hi H Q ->
  ∃ T id,typeLookup (.type T) "__getitem__"=pure (some (.builtin id))/\s.TypeIs v T/\wpAny (model X.prog X.w) X.A (getItem v (.ref sl)) (EP X ag σ Q) X.xe s
def Ad.or {r r':V->Option Int->Option Int->Hp->VK->Prop} (h:Ad X r) (h':Ad X r'):Ad X (fun x lo hi H Q=>r x lo hi H Q\/r' x lo hi H Q):=by
 intro ag s σ H x v vl vu lo hi sl Q I rx hs pl pu q;rcases q with q|q
 ·exact h ag s σ H x v vl vu lo hi sl Q I rx hs pl pu q
 ·exact h' ag s σ H x v vl vu lo hi sl Q I rx hs pl pu q
def Sj (r:V->Option Int->Option Int->Hp->VK->Prop) (te:TE) (tl th:TO):TE:=fun σ H Q=>te σ H fun x H1=>tl σ H1 fun l H2=>th σ H2 fun u H3=>r x l u H3 Q
def Dx {r:V->Option Int->Option Int->Hp->VK->Prop} (hr:Ad X r) (he:PE X e te) (hl:PO X lo tl) (hu:PO X hi th):PE X (.Subscript e (.Slice lo hi none p2) pos) (Sj r te tl th):=by
 intro ag s σ H Q I h;refine Subscript_ (gH (he ag s σ H _ I h) fun v s1 hh=>qK hh fun x H1 I1 r1 q1=>?_);refine wpAny_Slice (gH (hl ag s1 σ H1 _ I1 q1) fun vl s2 ⟨l,H2,I2,pl,q2⟩=>gH (hu ag s2 σ H2 _ I2 q2) fun vu s3 ⟨u,H3,I3,pu,q3⟩=>?_);rw [evalPart_none];refine wpAny_pure ?_;have I4:Inv X ag σ H3 { s3 with heap:=s3.heap.push { cls:=.type "slice",data:=.fields #[vl,vu,.none] } }:=I3.kept (t':=s3.toks) fun b ob q=>Heap.get?_push_of_some _ q;obtain ⟨T,id,hT,ht,hg⟩:=hr ag { s3 with heap:=s3.heap.push { cls:=.type "slice",data:=.fields #[vl,vu,.none] } } σ H3 x v vl vu l u s3.heap.objs.size Q I4 r1 (Heap.IsSliceOf.new ..) pl pu q3;show wpAny (model X.prog X.w) X.A (subscriptTail e (.Slice lo hi none p2) v (.ref s3.heap.objs.size)) (EP X ag σ Q) X.xe { s3 with heap:=s3.heap.push { cls:=.type "slice",data:=.fields #[vl,vu,.none] } };exact tail_any (ops:=[.ref s3.heap.objs.size,v]) ht hT hg (by with_unfolding_all rfl)
def uY (xs:List V) (lo hi:Option Int):List V:=(xs.drop (HT.sIx xs.length 0 lo)).take (HT.sIx xs.length xs.length hi - HT.sIx xs.length 0 lo)
def rK (xs:List V) (lo hi:Option Int):(uY xs lo hi).length<=xs.length:=by
 unfold uY;rw [List.length_take,List.length_drop];omega
def RF (K:PySem.W.Frag):V->Option Int->Option Int->Hp->VK->Prop:=fun x lo hi H Q=>∃ a xs,x=.ref a/\lG K H a xs /\
 ¬ (HT.sIx xs.length 0 lo=0/\HT.sIx xs.length xs.length hi=xs.length)/\∀ p,H p=none->Q (.ref p) (cQ H p (.tup (uY xs lo hi)))
def JK:Ad X (RF X.K):=by
 intro ag s σ H x v vl vu lo hi sl Q I rx hs pl pu h;obtain ⟨a,xs,rfl,hx,hw,q⟩:=h;cases rx;obtain ⟨its,r,ht,hz⟩:=I.tuple hx;have hlen:its.toArray.size=xs.length:=by rw [List.size_toArray];exact r.length.symm
 refine ⟨"tuple",_,PyProof.Rows.slot_tuple_getitem.lookup,ht.typeIs,?_⟩;refine HT.qm ht hs pl pu (by rw [hlen];exact hw) ?_ (by rw [hlen];exact hz);rw [hlen];refine ⟨.ref s.heap.objs.size,_,I.laid (t':=s.toks) (o:=.tup (uY xs lo hi)) (fun b ob q=>Heap.get?_push_of_some _ q) (Nat.le_refl _) ?_,rfl,q _ (I.hok.fresh (Nat.le_refl _))⟩;exact ⟨Nat.le_trans (rK xs lo hi) hz,_,(r.drop (HT.sIx xs.length 0 lo)).take (HT.sIx xs.length xs.length hi - HT.sIx xs.length 0 lo),IsTup.new _ _⟩
def OA (K:PySem.W.Frag):R2:=fun x y H Q=>∃ a b xs ys,x=.ref a/\y=.ref b/\lG K H a xs/\lG K H b ys/\xs≠[]/\xs.length+ys.length<=sizeLine /\
 (ys=[]->Q (.ref a) H)/\(ys≠[]->∀ p,H p=none->Q (.ref p) (cQ H p (.tup (xs++ys))))
def bK.nil_iff {xs:List V} {us:List Value} (r:bK xs us):us=[] ↔ xs=[]:=by
 cases r with
 | nil=>simp
 | cons _ _=>simp
def HX:fA X (binaryOp .Add) (OA X.K):=by
 intro ag s σ H x y v u Q I rx ry h;obtain ⟨a,b,xs,ys,rfl,rfl,ha,hb,hx,hz,q1,q2⟩:=h;cases rx;cases ry;obtain ⟨its,r1,p1,_⟩:=I.tuple ha;obtain ⟨its2,r2,p2,_⟩:=I.tuple hb;refine HT.G9 p1 p2 (fun z=>hx (r1.nil_iff.mp z)) (fun z=>⟨.ref a,H,I,rfl,q1 (r2.nil_iff.mp z)⟩) (fun z=>?_) (by rw [<- r1.length,<- r2.length];exact hz);refine ⟨.ref s.heap.objs.size,_,I.laid (t':=s.toks) (o:=.tup (xs++ys)) (fun b ob q=>Heap.get?_push_of_some _ q) (Nat.le_refl _) ?_,rfl,q2 (fun w=>z (r2.nil_iff.mpr w)) _ (I.hok.fresh (Nat.le_refl _))⟩;exact ⟨by rw [List.length_append];exact hz,_,r1.append r2,IsTup.new _ _⟩
end
def Gf (n:Nat) (i:Int):Option Nat:=if 0<=i then (if i < n then some i.toNat else none) else if -(n:Int)<=i then some (i+n).toNat else none
def atI {α:Type} (xs:List α) (i:Int):Option α:=(Gf xs.length i).bind fun j=>xs[j]?
def HR {n:Nat} {i:Int} {j:Nat} (h:Gf n i=some j):seqIndex? i n=some j/\j < n/\-(n:Int)<=i/\i < n:=by
 unfold Gf at h;by_cases h0:0<=i
 ·rw [if_pos h0] at h;by_cases h1:i < n
  ·rw [if_pos h1] at h;have e:i.toNat=j:=Option.some.inj h;exact ⟨by rw [seqIndex_of h0 h1,e],by omega,by omega,h1⟩
  ·rw [if_neg h1] at h;cases h
 ·rw [if_neg h0] at h;by_cases h1:-(n:Int)<=i
  ·rw [if_pos h1] at h;have e:(i+n).toNat=j:=Option.some.inj h;exact ⟨by rw [seqIndex_neg (by omega) h1,e],by omega,h1,by omega⟩
  ·rw [if_neg h1] at h;cases h
def wX {α:Type} {xs:List α} {i:Int} {v:α} (h:atI xs i=some v):∃ j,seqIndex? i xs.length=some j/\xs[j]?=some v/\j < xs.length/\-(xs.length:Int)<=i/\i < xs.length:=by
 unfold atI at h;cases e:Gf xs.length i with
 | none=>rw [e] at h;cases h
 | some j =>
  rw [e] at h;obtain ⟨h1,h2,h3,h4⟩:=HR e;exact ⟨j,h1,h,h2,h3,h4⟩
def bX {α:Type} {xs:List α} {j:Nat} {v:α} (h:xs[j]?=some v):atI xs (j:Int)=some v:=by
 have hj:j < xs.length:=(List.getElem?_eq_some_iff.mp h).1;have e:Gf xs.length (j:Int)=some j:=by
  unfold Gf;rw [if_pos (by omega),if_pos (by omega)];simp
 unfold atI;rw [e];exact h
def EK {α:Type} (xs:List α) (v:α):atI (xs++[v]) (-1)=some v:=by
 have hl:(xs++[v]).length=xs.length+1:=by simp
 have e:Gf (xs++[v]).length (-1)=some xs.length:=by
  unfold Gf;rw [hl,if_neg (by decide),if_pos (by omega)];congr 1;omega
 unfold atI;rw [e];show (xs++[v])[xs.length]?=some v;simp
def on (b:Expr):Prop:=∀ o i,subscripted b false o i=operate [o,i] (getItem o i)
def zt (X:Cx) (r:R2):Prop :=
 ∀ (value slice:Expr) (ag:List (Addr×Obj)) (s:Shared) (σ:St) (H:Hp) (x y:V) (v u:Value) (Q:VK),Inv X ag σ H s->bB x v->bB y u->r x y H Q ->
  subscripted slice false v u=operate [v,u] (getItem v u)->wpAny (model X.prog X.w) X.A (subscriptTail value slice v u) (EP X ag σ Q) X.xe s
def S4 (X:Cx) (id:String) (r:V->List V->Hp->VK->Prop):Prop :=
 ∀ (ag:List (Addr×Obj)) (s:Shared) (σ:St) (H:Hp) (x:V) (xs:List V) (v:Value) (us:List Value) (Q:VK),Inv X ag σ H s->bB x v->bK xs us->r x xs H Q ->
  wpAny (model X.prog X.w) X.A (call (.builtin id) (v::us)) (EP X ag σ Q) X.xe s
section
variable {X:Cx} {a b:Expr} {ta tb:TE} {pos:Pos}
def zt.or {r r':R2} (h:zt X r) (h':zt X r'):zt X (fun x y H Q=>r x y H Q\/r' x y H Q):=by
 intro value slice ag s σ H x y v u Q I rx ry q hs;rcases q with q|q
 ·exact h value slice ag s σ H x y v u Q I rx ry q hs
 ·exact h' value slice ag s σ H x y v u Q I rx ry q hs
def PQ {r:R2} (hr:zt X r) (ha:PE X a ta) (hb:PE X b tb) (hs:on b):PE X (.Subscript a b pos) (wH r ta tb):=by
 intro ag s σ H Q I h;exact Subscript_ (Kz ha hb I h fun v u s2 x y H2 I2 rx ry q=>hr a b ag s2 σ H2 x y v u Q I2 rx ry q (hs _ _))
def Og (K:PySem.W.Frag):R2:=fun x y H Q=>∃ p xs i v,x=.ref p/\y=.int i/\dZ K H p xs/\atI xs i=some v/\Q v H
def OY (K:PySem.W.Frag):R2:=fun x y H Q=>∃ p xs i v,x=.ref p/\y=.int i/\lG K H p xs/\atI xs i=some v/\Q v H
def PL:R2:=fun x y H Q=>∃ z i c,x=.str z/\y=.int i/\z.length<=sizeLine/\atI z.cps.toList i=some c/\Q (.str ⟨#[c]⟩) H
def Hq:zt X (Og X.K):=by
 intro value slice ag s σ H x y v u Q I rx ry h hs;obtain ⟨p,xs,i,z,rfl,rfl,hq,he,q⟩:=h;cases rx;obtain ⟨t,rfl⟩:=ry;obtain ⟨its,r,pl,hz⟩:=I.list hq;obtain ⟨j,h1,h2,h3,h4,h5⟩:=wX he;obtain ⟨w,ew,rw'⟩:=r.get h2;have hl:=r.length;have hn:=qZ;have fin:EP X ag σ Q w s:=⟨z,H,I,rw',q⟩;by_cases h0:0<=i
 ·have hj:i.toNat=j:=by
   rw [seqIndex_of h0 h5] at h1;exact Option.some.inj h1
  exact item_listR pl.isList h0 (by omega) (by rw [hj];simpa using ew) fin hs
 ·have hj:(i+(its.toArray.size:Int)).toNat=j:=by
   rw [seqIndex_neg (by omega) h4] at h1;rw [List.size_toArray,<- hl];exact Option.some.inj h1
  exact subscriptTail_builtinR (x:=w) pl.isList.typeIs slot_list_getitem.lookup
   (wpAny_getItem_list_neg (Q:=fun r s'=>r=w/\EP X ag σ Q r s') pl.isList (by omega) (by rw [List.size_toArray] <;> omega) (by omega) (by rw [hj];simpa using ew) ⟨rfl,fin⟩) hs
def J4:zt X (OY X.K):=by
 intro value slice ag s σ H x y v u Q I rx ry h hs;obtain ⟨p,xs,i,z,rfl,rfl,hq,he,q⟩:=h;cases rx;obtain ⟨t,rfl⟩:=ry;obtain ⟨its,r,pl,hz⟩:=I.tuple hq;obtain ⟨j,h1,h2,h3,h4,h5⟩:=wX he;obtain ⟨w,ew,rw'⟩:=r.get h2;have hl:=r.length;have hn:=qZ;have fin:EP X ag σ Q w s:=⟨z,H,I,rw',q⟩;exact subscriptTail_builtinR (x:=w) pl.typeIs slot_tuple_getitem.lookup
  (getItem_tuple (j:=j) (Q:=fun r s'=>r=w/\EP X ag σ Q r s') pl (by omega) (by omega) (by rw [List.size_toArray,<- hl];exact h1) (by simpa using ew) ⟨rfl,fin⟩) hs
def KJ:zt X PL:=by
 intro value slice ag s σ H x y v u Q I rx ry h hs;obtain ⟨z,i,c,rfl,rfl,hz,he,q⟩:=h;obtain ⟨t,rfl⟩:=rx;obtain ⟨t',rfl⟩:=ry;obtain ⟨j,h1,h2,h3,h4,h5⟩:=wX he;have hl:z.cps.toList.length=z.length:=by simp [Str.length]
 rw [hl] at h1 h4 h5;have hn:=qZ;exact tail_any (typeIs_str s z t) slot_str_getitem.lookup (getItem_str (c:=c) (by
  have e1:decide (i < -(2 ^ 63:Int))=false:=decide_eq_false (by omega);have e2:decide (i ≥ 2 ^ 63)=false:=decide_eq_false (by omega);rw [e1,e2,Bool.or_false]) (by rw [h1];simpa using h2) ⟨.str ⟨#[c]⟩,H,I.tok _,⟨_,rfl⟩,q⟩) hs
def rIx (K:PySem.W.Frag):R2:=fun x y H Q=>Og K x y H Q\/OY K x y H Q\/PL x y H Q
def J7:zt X (rIx X.K):=Hq.or (J4.or KJ)
def wF (lo hi:Option Int) (n:Nat):(sliceBounds lo hi none n).1=((HT.sIx n 0 lo:Nat):Int)/\(sliceBounds lo hi none n).2.1=((HT.sIx n n hi:Nat):Int)/\(sliceBounds lo hi none n).2.2=1:=by
 refine ⟨?_,?_,rfl⟩
 ·cases lo with
  | none=>simp [sliceBounds,HT.sIx]
  | some i =>
   simp only [sliceBounds,HT.sIx,Option.getD_none,show (1:Int) > 0 by decide,if_true];by_cases h:i < 0
   ·simp only [h,if_true] <;> omega
   ·simp only [h,if_false] <;> omega
 ·cases hi with
  | none=>simp [sliceBounds,HT.sIx]
  | some i =>
   simp only [sliceBounds,HT.sIx,Option.getD_none,show (1:Int) > 0 by decide,if_true];by_cases h:i < 0
   ·simp only [h,if_true] <;> omega
   ·simp only [h,if_false] <;> omega
def u9 (its:List Value) (lo hi:Option Int):slicePick its.toArray lo hi none=((its.drop (HT.sIx its.length 0 lo)).take (HT.sIx its.length its.length hi - HT.sIx its.length 0 lo)).toArray:=by
 obtain ⟨h1,h2,h3⟩:=wF lo hi its.toArray.size;unfold slicePick;rw [h1,h2,h3];simp only [sliceRange_one,pick_run,List.size_toArray] <;> rfl
def RE (K:PySem.W.Frag):V->Option Int->Option Int->Hp->VK->Prop:=fun x lo hi H Q=>∃ a xs,x=.ref a/\dZ K H a xs/\∀ p,H p=none->Q (.ref p) (cQ H p (.lst (uY xs lo hi)))
def Gx:Ad X (RE X.K):=by
 intro ag s σ H x v vl vu lo hi sl Q I rx hs pl pu h;obtain ⟨a,xs,rfl,hx,q⟩:=h;cases rx;obtain ⟨its,r,ht,hz⟩:=I.list hx;have hlen:=r.length;refine ⟨"list",_,slot_list_getitem.lookup,ht.isList.typeIs,?_⟩;refine wpAny_getItem_list_slice ht.isList hs pl pu .none (by simp) ?_ (by rw [List.size_toArray] <;> omega);rw [u9,<- hlen];refine ⟨.ref s.heap.objs.size,_,I.laid (t':=s.toks) (o:=.lst (uY xs lo hi)) (fun b ob q=>Heap.get?_push_of_some _ q) (Nat.le_refl _) ?_,rfl,q _ (I.hok.fresh (Nat.le_refl _))⟩;exact ⟨Nat.le_trans (rK xs lo hi) hz,_,0,(r.drop (HT.sIx xs.length 0 lo)).take (HT.sIx xs.length xs.length hi - HT.sIx xs.length 0 lo),Heap.get?_push_size _ rfl⟩
def km:V->Bool
 | .non=>true
 | .bl _=>true
 | .int _=>true
 | .str _=>true
 | _=>false
def F5:V->V->Bool
 | .non,.non=>true
 | .bl a,.bl b=>a==b
 | .bl a,.int b=>(if a then 1 else 0)==b
 | .int a,.bl b=>a==(if b then 1 else 0)
 | .int a,.int b=>a==b
 | .str a,.str b=>a==b
 | _,_=>false
def KI {A:Around} {s:Shared} {y x:V} {u v:Value} (ry:bB y u) (rx:bB x v) (fy:km y=true) (fx:km x=true):SeqAt.EqAt A s u v (F5 y x):=by
 cases y with
 | non =>
  cases ry;cases x with
  | non=>cases rx;exact SeqAt.EqAt.same _
  | bl b=>cases rx;exact SeqAt.EqAt.none_bool b
  | int b=>obtain ⟨t,rfl⟩:=rx;exact SeqAt.EqAt.none_int b t
  | str b=>obtain ⟨t,rfl⟩:=rx;exact SeqAt.EqAt.none_str b t
  | _=>exact absurd (show false=true from fx) Bool.false_ne_true
 | bl a =>
  cases ry;cases x with
  | non=>cases rx;exact SeqAt.EqAt.bool_none a
  | bl b=>cases rx;exact SeqAt.EqAt.bool_bool a b
  | int b=>obtain ⟨t,rfl⟩:=rx;exact SeqAt.EqAt.bool_int a b t
  | str b=>obtain ⟨t,rfl⟩:=rx;exact SeqAt.EqAt.bool_str a b t
  | _=>exact absurd (show false=true from fx) Bool.false_ne_true
 | int a =>
  obtain ⟨t',rfl⟩:=ry;cases x with
  | non=>cases rx;exact SeqAt.EqAt.int_none a t'
  | bl b=>cases rx;exact SeqAt.EqAt.int_bool a t' b
  | int b=>obtain ⟨t,rfl⟩:=rx;exact SeqAt.EqAt.int_int a t' b t
  | str b=>obtain ⟨t,rfl⟩:=rx;exact SeqAt.EqAt.int_str a t' b t
  | _=>exact absurd (show false=true from fx) Bool.false_ne_true
 | str a =>
  obtain ⟨t',rfl⟩:=ry;cases x with
  | non=>cases rx;exact SeqAt.EqAt.str_none a t'
  | bl b=>cases rx;exact SeqAt.EqAt.str_bool a t' b
  | int b=>obtain ⟨t,rfl⟩:=rx;exact SeqAt.EqAt.str_int a t' b t
  | str b=>obtain ⟨t,rfl⟩:=rx;exact SeqAt.EqAt.str_str a t' b t
  | _=>exact absurd (show false=true from fx) Bool.false_ne_true
 | _=>exact absurd (show false=true from fy) Bool.false_ne_true
def Af (x:V) (u:Value):Bool:=match u with
 | .none=>F5 .non x
 | .bool b=>F5 (.bl b) x
 | .int i _=>F5 (.int i) x
 | .str z _=>F5 (.str z) x
 | _=>false
def FX {x y:V} {u:Value} (r:bB y u) (f:km y=true):Af x u=F5 y x:=by
 cases y with
 | non=>cases r;rfl
 | bl b=>cases r;rfl
 | int i=>obtain ⟨t,rfl⟩:=r;rfl
 | str z=>obtain ⟨t,rfl⟩:=r;rfl
 | _=>exact absurd (show false=true from f) Bool.false_ne_true
def pX {x:V}:∀ {xs:List V} {us:List Value},bK xs us->xs.all km=true->us.any (Af x)=xs.any fun y=>F5 y x
 | _,_,.nil,_=>rfl
 | y::xs,u::us,.cons r t,f=>by
  rw [List.all_cons,Bool.and_eq_true] at f;rw [List.any_cons,List.any_cons,FX r f.1,pX t f.2]
def mW {A:Around} {s:Shared} {x:V} {v:Value} (rx:bB x v) (fx:km x=true):∀ {xs:List V} {us:List Value},bK xs us->xs.all km=true->∀ u∈us,SeqAt.EqAt A s u v (Af x u)
 | _,_,.nil,_=>fun u hu=>by cases hu
 | y::xs,u::us,.cons r t,f=>fun u' hu=>by
  rw [List.all_cons,Bool.and_eq_true] at f;rcases List.mem_cons.mp hu with rfl|hu
  ·rw [FX r f.1];exact KI r rx f.1 fx
  ·exact mW rx fx t f.2 u' hu
def Da (x:V) (xs:List V):Bool:=xs.any fun y=>F5 y x
def Sn (K:PySem.W.Frag) (neg:Bool):R2:=fun x y H Q=>∃ p xs,y=.ref p/\(dZ K H p xs\/lG K H p xs)/\km x=true/\xs.all km=true/\Q (.bl (if neg then !Da x xs else Da x xs)) H
def C2:fA X (compareOp .In) (Sn X.K false):=by
 intro ag s σ H x y v u Q I rx ry h;obtain ⟨p,xs,rfl,hq,fx,fs,q⟩:=h;cases ry;rcases hq with hq|hq
 ·obtain ⟨its,r,pl,hz⟩:=I.list hq;refine SeqAt.in_listAt (Af x) pl.isList (fun w hw=>mW rx fx r fs w (by simpa using hw)) ⟨.bl _,H,I,rfl,?_⟩;rw [show its.toArray.any (Af x)=its.any (Af x) by simp,pX r fs];exact q
 ·obtain ⟨its,r,pl,hz⟩:=I.tuple hq;refine SeqAt.in_tupleAt (Af x) pl (fun w hw=>mW rx fx r fs w (by simpa using hw)) ⟨.bl _,H,I,rfl,?_⟩;rw [show its.toArray.any (Af x)=its.any (Af x) by simp,pX r fs];exact q
def wy:fA X (compareOp .NotIn) (Sn X.K true):=by
 intro ag s σ H x y v u Q I rx ry h;obtain ⟨p,xs,rfl,hq,fx,fs,q⟩:=h;cases ry;rcases hq with hq|hq
 ·obtain ⟨its,r,pl,hz⟩:=I.list hq;refine SeqAt.notIn_listAt (Af x) pl.isList (fun w hw=>mW rx fx r fs w (by simpa using hw)) ⟨.bl _,H,I,rfl,?_⟩;rw [show its.toArray.any (Af x)=its.any (Af x) by simp,pX r fs];exact q
 ·obtain ⟨its,r,pl,hz⟩:=I.tuple hq;refine SeqAt.notIn_tupleAt (Af x) pl (fun w hw=>mW rx fx r fs w (by simpa using hw)) ⟨.bl _,H,I,rfl,?_⟩;rw [show its.toArray.any (Af x)=its.any (Af x) by simp,pX r fs];exact q
def wt:cx X (.builtin "len") (fun xs H Q=>∃ p ys,xs=[.ref p]/\(dZ X.K H p ys\/lG X.K H p ys)/\Q (.int ys.length) H):=by
 intro ag s σ H xs us Q I r h;obtain ⟨p,ys,rfl,hq,q⟩:=h;obtain ⟨u,rfl,rx⟩:=fY r;cases rx;have hn:=qZ;rcases hq with hq|hq
 ·obtain ⟨its,r',pl,hz⟩:=I.list hq;have hlen:=r'.length;exact Calls.call_len_list pl.isList (by simp only [List.size_toArray] <;> omega) ⟨.int ys.length,H,I.tok _,⟨s.toks+1,by rw [List.size_toArray,hlen]⟩,q⟩
 ·obtain ⟨its,r',pl,hz⟩:=I.tuple hq;have hlen:=r'.length;exact len_tuple pl (by simp only [List.size_toArray] <;> omega) ⟨.int ys.length,H,I.tok _,⟨s.toks+1,by rw [List.size_toArray,hlen]⟩,q⟩
def wd:cx X (.builtin "len") (fun xs H Q=>∃ z,xs=[.str z]/\z.length<=sizeLine/\Q (.int z.length) H):=by
 intro ag s σ H xs us Q I r h;obtain ⟨z,rfl,hz,q⟩:=h;obtain ⟨u,rfl,t,rfl⟩:=fY r;have hn:=qZ;exact len_str (by omega) ⟨.int z.length,H,I.tok _,⟨_,rfl⟩,q⟩
def cx.or {f:Value} {r r':List V->Hp->VK->Prop} (h:cx X f r) (h':cx X f r'):cx X f (fun xs H Q=>r xs H Q\/r' xs H Q):=by
 intro ag s σ H xs us Q I rs q;rcases q with q|q
 ·exact h ag s σ H xs us Q I rs q
 ·exact h' ag s σ H xs us Q I rs q
def wK:cx X (.type "list") (fun xs H Q=>∃ p ys,xs=[.ref p]/\(dZ X.K H p ys\/lG X.K H p ys)/\∀ l,H l=none->Q (.ref l) (cQ H l (.lst ys))):=by
 intro ag s σ H xs us Q I r h;obtain ⟨p,ys,rfl,hq,q⟩:=h;obtain ⟨u,rfl,rx⟩:=fY r;cases rx;have fin:∀ (its:List Value),bK ys its->ys.length<=sizeLine->∀ (h':Heap) (c':Nat),(∀ b o',s.heap.get? b=some o'->h'.get? b=some o') ->
   h'.get? s.heap.objs.size=some { cls:=.type "list",dict:=none,data:=.seq its.toArray c',slots:=#[] }->EP X ag σ Q (.ref s.heap.objs.size) { s with heap:=h' }:=fun its r' hz h' c' kp e =>
  ⟨.ref s.heap.objs.size,_,I.laid (t':=s.toks) kp (Nat.le_refl _) (show fg X.prog X.w _ h' _ (.lst ys) from ⟨hz,its,c',r',e⟩),rfl,q _ (I.hok.fresh (Nat.le_refl _))⟩
 rcases hq with hq|hq
 ·obtain ⟨its,r',pl,hz⟩:=I.list hq;have hlen:=r'.length;obtain ⟨o,ho,hc,n,hd⟩:=pl.isList;exact call_list_seq p (.inl rfl) ho hc hd (fun h' c' kp e=>fin its r' hz h' c' kp e) (by simp only [List.size_toArray] <;> omega)
 ·obtain ⟨its,r',pl,hz⟩:=I.tuple hq;have hlen:=r'.length;obtain ⟨o,ho,hc,n,hd⟩:=pl;exact call_list_seq p (.inr rfl) ho hc hd (fun h' c' kp e=>fin its r' hz h' c' kp e) (by simp only [List.size_toArray] <;> omega)
def u3:cx X (.type "tuple") (fun xs H Q=>∃ p ys,xs=[.ref p]/\((dZ X.K H p ys/\∀ l,H l=none->Q (.ref l) (cQ H l (.tup ys)))\/(lG X.K H p ys/\Q (.ref p) H))):=by
 intro ag s σ H xs us Q I r h;obtain ⟨p,ys,rfl,h⟩:=h;obtain ⟨u,rfl,rx⟩:=fY r;cases rx;rcases h with ⟨hq,q⟩|⟨hq,q⟩
 ·obtain ⟨its,r',pl,hz⟩:=I.list hq;have hlen:=r'.length;refine call_tuple_list pl.isList (fun h' kp=>?_) (by simp only [List.size_toArray] <;> omega);have I1:Inv X ag σ H { s with heap:=h' }:=I.kept (t':=s.toks) kp;have I2:Inv X ag σ (cQ H h'.objs.size (.tup ys)) { s with heap:=h'.push { cls:=.type "tuple",data:=.seq its.toArray } } :=
   I1.laid (t':=s.toks) (fun b o e=>Heap.get?_push_of_some _ e) (Nat.le_refl _) (show fg X.prog X.w _ _ _ (.tup ys) from ⟨hz,its,r',IsTup.new _ _⟩)
  exact ⟨.ref h'.objs.size,_,I2,rfl,q _ (I1.hok.fresh (Nat.le_refl _))⟩
 ·obtain ⟨its,r',pl,hz⟩:=I.tuple hq;exact call_tuple_same pl ⟨.ref p,H,I,rfl,q⟩
def QY (K:PySem.W.Frag) (T:String) (x:V) (H:Hp):Prop:=match x with
 | .str _=>T="str"
 | .int _=>T="int"
 | .ref p=>(T="list"/\∃ xs,dZ K H p xs)\/(T="tuple"/\∃ o,K.lookup p=some o/\o.cls=.type "tuple"/\o.dict=none) \/
   (T="dict"/\((∃ kvs,H p=some (.dK kvs))\/∃ kvs,H p=some (.dT kvs)))\/(T="set"/\∃ S n,H p=some (.set S n))
 | _=>False
def KK {ag:List (Addr×Obj)} {σ:St} {H:Hp} {s:Shared} {T:String} {x:V} {v:Value} (I:Inv X ag σ H s) (r:bB x v) (ty:QY X.K T x H) :
  s.TypeIs v T/\∀ a,v=.ref a->∃ ob,s.heap.get? a=some ob/\ob.dict=none:=by
 cases x with
 | str z =>
  obtain ⟨t,rfl⟩:=r;cases (show T="str" from ty);exact ⟨typeIs_str s z t,fun _ e=>nomatch e⟩
 | int i =>
  obtain ⟨t,rfl⟩:=r;cases (show T="int" from ty);exact ⟨typeIs_int s i t,fun _ e=>nomatch e⟩
 | ref p =>
  cases r;rcases ty with ⟨rfl,xs,hq⟩|⟨rfl,o,hk,hc,hd⟩|⟨rfl,hk⟩|⟨rfl,S,n,hk⟩
  ·obtain ⟨its,_,pl,_⟩:=I.list hq;refine ⟨pl.isList.typeIs,fun a e=>?_⟩;cases e;obtain ⟨o,n,e,c,hd,_⟩:=pl;exact ⟨o,e,hd⟩
  ·refine ⟨⟨o,I.kIn p o hk,hc⟩,fun a e=>?_⟩;cases e;exact ⟨o,I.kIn _ o hk,hd⟩
  ·have z:∃ o,s.heap.get? p=some o/\o.ExactDict:=by
    rcases hk with ⟨kvs,hk⟩|⟨kvs,hk⟩
    ·obtain ⟨_,_,_,_,o,_,_,e,ex,_⟩:=I.hok p _ hk;exact ⟨o,e,ex⟩
    ·obtain ⟨_,_,_,_,o,_,_,e,ex,_⟩:=I.hok p _ hk;exact ⟨o,e,ex⟩
   obtain ⟨o,e,ex⟩:=z;refine ⟨⟨o,e,ex.1⟩,fun a e2=>?_⟩;cases e2;exact ⟨o,e,ex.2.1⟩
  ·obtain ⟨o,_,_,_,e,ex,_⟩:=I.hok p _ hk;refine ⟨⟨o,e,ex.1⟩,fun a e2=>?_⟩;cases e2;exact ⟨o,e,ex.2.1⟩
 | _=>exact False.elim ty
def Lz (K:PySem.W.Frag) (T:String) (r:V->List V->Hp->VK->Prop) (to:TE) (t:TA):TE:=fun σ H Q=>to σ H fun x H1=>QY K T x H1/\t σ H1 fun xs H2=>r x xs H2 Q
variable {o e:Expr} {es:List Expr} {to:TE} {t:TA} {name:Str} {apos cpos:Pos} {T id:String} {r:V->List V->Hp->VK->Prop}
def OC (pa:PlainAttrs T) (slot:Slot T name id) (hty:typeOf (.builtin id)=pure (.type "method_descriptor")) (hm:S4 X id r) (ho:PE X o to) (ha:PA X (e::es) t)
  (hbase:attributeBase o name X.env (eval o X.env)=eval o X.env:=by rfl)
  (hfew:((backTo cpos (starEach (e::es) X.env)).all (fun x=>!x.1)&&(backToKw cpos (keywordEach [] X.env)).all (fun x=>x.1.isSome)
   && decide ((e::es).length+([]:List Keyword).length+(if ([]:List Keyword).isEmpty then 0 else 1) < 30))=true:=by rfl)
  (hline:(apos.endLine==cpos.line)=true:=by rfl) (hs:starEach (e::es) X.env=(false,eval e X.env)::starEach es X.env:=by rfl) (hplain:(backTo cpos (starEach es X.env)).any (·.1)=false:=by rfl) :
  PE X (.Call (.Attribute o name apos) (e::es) [] cpos) (Lz X.K T r to t):=by
 intro ag s σ H Q I h;refine wpAny_Call_method_late hbase hfew hline rfl (gH (ho ag s σ H _ I h) fun v s1 ⟨x,H1,I1,r1,ty,q1⟩=>?_);obtain ⟨h1,h2⟩:=KK I1 r1 ty;refine ⟨T,id,pa,slot,hty,h1,h2,?_⟩;have hA:=ha cpos ag s1 σ H1 _ I1 q1;rw [hs] at hA ⊢;refine Calls.callWith_builtin (by show (false||(backTo cpos (starEach es X.env)).any (·.1))=false;rw [hplain] <;> rfl) (Calls.evalArgs_plain ?_)
 exact gH hA fun us s2 hh=>qK hh fun vs H2 I2 r2 q2=>hm ag s2 σ H2 x vs v us Q I2 r1 r2 q2
end
def SX (X:Cx) (id:String) (r:V->List V->Hp->VK->Prop):Prop :=
 ∀ (ag:List (Addr×Obj)) (s:Shared) (σ:St) (H:Hp) (x:V) (xs:List V) (v:Value) (us:List Value) (Q:VK),Inv X ag σ H s->bB x v->bK xs us->r x xs H Q ->
  wpAny (model X.prog X.w) X.A (call (.builtin id) (v::us)) (EP X ag σ Q) X.xe s
def bK.one:∀ {x:V} {us:List Value},bK [x] us->∃ u,us=[u]/\bB x u
 | _,_,.cons r .nil=>⟨_,rfl,r⟩
section
variable {X:Cx} {ag:List (Addr×Obj)} {σ:St} {H:Hp} {s:Shared} {l b:Addr} {xs ys zs:List V}
def Inv.lset {its its':List Value} {n:Nat} {f:Array Value->Array Value} {t':Nat} (I:Inv X ag σ H s) (hH:H l=some (.lst xs))
  (e:s.heap.get? l=some { cls:=.type "list",data:=.seq its.toArray n }) (hf:f its.toArray=its'.toArray) (hv:bK ys its') (hz:ys.length<=sizeLine) (ht:X.tn<=t':=by walk_at "tok") :
  Inv X ag σ (cQ H l (.lst ys)) { s with heap:=s.heap.update l (Obj.mapSeq f),toks:=t' }:=by
 have q:=PySem.IsL.update e f;rw [hf] at q;refine I.write (x:=l) (e:=l) (by rw [hH];exact trivial) (.inl rfl) (fun b' u hb hu=>(Heap.get?_update_other s.heap (Obj.mapSeq f) (Ne.symm hb)).trans hu) ⟨_,q⟩ ?_;exact ⟨hz,its',_,hv,q⟩
def Inv.lnew {its:List Value} {t':Nat} (I:Inv X ag σ H s) (hv:bK ys its) (hz:ys.length<=sizeLine) (ht:X.tn<=t':=by walk_at "tok") :
  Inv X ag σ (cQ H s.heap.objs.size (.lst ys)) { s with heap:=s.heap.push { cls:=.type "list",data:=.seq its.toArray },toks:=t' } :=
 I.laid (fun _ _ q=>Heap.get?_push_of_some _ q) (Nat.le_refl _) ⟨hz,its,0,hv,Heap.get?_push_size _ rfl⟩
def Inv.fresh (I:Inv X ag σ H s):H s.heap.objs.size=none:=I.hok.fresh (Nat.le_refl _)
def Inv.lstM (I:Inv X ag σ H s) (hH:H l=some (.lst xs)):xs.length<=sizeLine/\∃ (its:List Value) (n:Nat),bK xs its/\xs.length=its.length/\s.heap.get? l=some { cls:=.type "list",data:=.seq its.toArray n }:=by
 obtain ⟨z,its,n,r,e⟩:=I.hok l _ hH;exact ⟨z,its,n,r,r.length,e⟩
def zr {n:Nat} (h:n<=sizeLine):Builtin.List.listTooLong n=false:=by
 unfold Builtin.List.listTooLong;exact decide_eq_false (by omega)
end
section
variable {X:Cx}
def qB:V->List V->Hp->VK->Prop:=fun x vs H Q=>∃ l xs y,x=.ref l/\vs=[y]/\H l=some (.lst xs)/\xs.length < sizeLine/\Q .non (cQ H l (.lst (xs++[y])))
def lj:SX X "list.append" qB:=by
 intro ag s σ H x vs v us Q I rx rv h;obtain ⟨l,xs,y,rfl,rfl,hH,hz,q⟩:=h;cases rx;obtain ⟨u,rfl,ru⟩:=rv.one;obtain ⟨z,its,n,r,hl,e⟩:=I.lstM hH;refine call_meets F.slot_list_append ⟨_,e,rfl⟩ F.entry_list_append (F.args_list_append_2 _ _) (PySem.list_append l its.toArray n u (by rw [List.size_toArray];omega)) ⟨e,?_⟩;refine ⟨.non,_,I.lset (its':=its++[u]) hH e (by simp) (r.append (.cons ru .nil)) ?_,rfl,q⟩;rw [List.length_append,List.length_singleton];omega
end
section
variable {prog:Program} {w:World} {A:Around} {E:Value->Shared->Prop} {s:Shared}
set_option maxRecDepth 100000 in
end
end L2
namespace Att
open PySem PySem.W PySem.Calls PyProof.Rows
def sE {P:Params} {h:Heap}:∀ (ns:List Int) (vs:List Value),WellAll P h vs (ns.map WData.int)->IntsAre vs ns:=by
 intro ns;induction ns with
 | nil =>
  intro vs w;rw [List.map_nil] at w;cases w;exact .nil
 | cons n ns ih =>
  intro vs w;rw [List.map_cons] at w;cases w with
  | cons a b =>
   cases a;exact .cons _ _ (ih _ b)
def B4 {l:OpenLaw} {n:Nat} (hn:l.most=some n) {P:Params} {h:Heap} {args:List WData} {vals:List Value}
  (hpre:l.row.toRowW.claim.pre args=true) (hwl:WellAll P h vals args) :
  ∃ a vs ns,vals=[Value.ref a]/\args=[WData.list (ns.map WData.int)]/\h.get? a=some { cls:=.type "list",data:=.seq vs.toArray }/\IntsAre vs ns/\ns.length<=n:=by
 have hsh:WShape.hasAll [] args [.list .int]=true:=(pre_splitW hpre).1;have hc:l.pre.holds [] { args:=args }=true:=(pre_splitW hpre).2;obtain ⟨d,r,rfl,h1,h2⟩:=hasAllW_cons hsh;obtain rfl:=hasAllW_nil h2;obtain ⟨xs,rfl,h3⟩:=hasW_list h1;obtain ⟨ns,rfl⟩:=items_int h3;have hlen:ns.length<=n:=by
  unfold OpenLaw.pre at hc;have h4:(WTm.not (.lt (.lit (.int (n:Int))) (.len (.arg 0)))).holds [] { args:=[.list (ns.map .int)] }=true:=by
   have h4:=(holds_andW hc).1;rw [hn] at h4;exact h4
  have h5:=condW_of h4 (w_not (w_lt w_lit (w_len_list (w_arg rfl))));rw [List.length_map] at h5;refine Nat.le_of_not_lt fun q=>?_;have q':(n:Int) < ((ns.length:Nat):Int):=by omega
  first
   | (rw [decide_eq_true q'] at h5;exact absurd h5 (by decide))
   | (simp at h5;omega)
 cases hwl with
 | cons w1 w2 =>
  cases w2;cases w1 with
  | list ho hall=>exact ⟨_,_,ns,rfl,rfl,ho,sE ns _ hall,hlen⟩
def CS (l:OpenLaw) (args:List WData):l.row.toRowW.claim.post args (.bool true) args=true :=
 postW_of (r:=l.row.toRowW) (X:=(true==true))
  (show WShape.has [] (.bool true) .bool=true by first|rfl|decide|simp [WShape.has,WShape.arms,WShape.armsAll])
  (show (WTm.eq .res (.lit (.bool true))).value [] { args:=args,res:=some (.bool true),after:=args }=some (.bool (true==true)) from w_eq_bool (w_res rfl) w_lit) rfl
def zp {l:OpenLaw} {n:Nat} {q:Program} {loose:List Str} {XP:(Str->Option Value)->Heap->Prop} {YP:World->Heap->Prop} {d:DefRec}
  (hn:l.most=some n) (hdf:d.params.defaults=[])
  (call:∀ (w:World) (s₀ s₁:Shared) (mg mb:Str->Option Value) (fa:Addr) (o:Obj) (pm cd doc:Value) (a:Addr) (vs:List Value) (ns:List Int),
   Ground q loose [] XP w s₀ mg mb s₁.heap->YP w s₁.heap ->
   s₁.heap.get? fa=some o->o.data=.func (docDef d.name d.params d.body d.scope pm cd doc)->s₁.heap.CodeRec cd d.name->mg d.name=some (.ref fa) ->
   s₁.heap.get? a=some { cls:=.type "list",data:=.seq vs.toArray }->IntsAre vs ns->ns.length<=n->s₁.gens=#[] ->
   codeAny (model l.prog w) callerA (.call (.ref fa) ⟨[.ref a],[]⟩) (fun r s'=>r=.ok (.ret (.bool true))/\OldK s₁.heap s'.heap/\s'.os=s₁.os/\AllBare s'.gens) s₁) :
  WalkO q loose XP YP l.row.toRowW d [] (fun f vs=>PySem.call f vs):=by
 intro w s₀ s₁ mg mb G Y fa o pm cd doc dV kV ho hd hcd hD hmg hg args vals as hpre hlay hrd hwl hlo;obtain rfl:dV=.none:=Dflts.none hD hdf;obtain rfl:kV=.none:=Dflts.noKw hD;obtain ⟨a,vs,ns,rfl,rfl,hobj,hints,hlen⟩:=B4 hn hpre hwl;refine enter_call (codeAny_mono (call w s₀ s₁ mg mb fa o pm cd doc a vs ns G Y ho (fd_plain hd) hcd hmg hobj hints hlen hg) fun r s' hq=>?_);obtain ⟨rfl,h2,h3,h4⟩:=hq;exact ⟨.inl ⟨.bool true,.bool true,[],rfl,fun _=>rfl,.bool true,CS l _,fun _=>⟨List.Pairwise.nil,fun _ hm=>(nomatch hm)⟩⟩,h2,h3,h4⟩
end Att
namespace L2
open PySem PySem.Spec PyProof.Rows
def vz:∀ {vs:List Value} {ns:List Int},IntsAre vs ns->bK (ns.map V.int) vs
 | _,_,.nil=>.nil
 | _,_,.cons n t h=>.cons ⟨t,rfl⟩ (vz h)
def KW (H:Hp):Prop:=∀ b,H b=none\/∃ o xs,H b=some (.frz o (.lst xs))
def DV {P:Program} {w:World} {K:PySem.W.Frag} {mg mb:Str->Option Value} {CX:C7} {k:Nat} {fa a:Addr} {fd:FuncData} {x:Str} {sp:Sp} {s₁:Shared} {vs:List Value} {ns:List Int}
  (KX:K.In s₁.heap) (hns:s₁.heap.Ns mainGlobals mg) (hb:s₁.heap.Ns builtinsNs mb) (hbb:∀ x:Str,x≠"__name__"->mb x=bootBuiltins x) (hlim:s₁.heap.NoLimit) (hg:s₁.gens=#[])
  (ha:s₁.heap.get? a=some { cls:=.type "list",data:=.seq vs.toArray }) (hi:IntsAre vs ns) (hl:ns.length<=sizeLine) (hr:Room k callerA)
  (F:∀ base:Heap,K.In base->base.Ns mainGlobals mg->FnOk P w K mg base CX k fa fd [x] sp) (hbind:∀ (s:Shared) (u:Value),BindsTo s fd ⟨[u],[]⟩ [(x,u)])
  (hsp:∀ H:Hp,KW H->dZ K H a (ns.map V.int)->sp [.ref a] H (fun v _=>v=.bl true) fun _ _ _=>False)
  (hCX:∀ H e s',CX [] H s₁ (fun _ _ _=>False) e s'->False) :
  codeAny (model P w) callerA (.call (.ref fa) ⟨[.ref a],[]⟩) (fun r s'=>r=.ok (.ret (.bool true))/\OldK s₁.heap s'.heap/\s'.os=s₁.os/\AllBare s'.gens) s₁:=by
 have rv:=vz hi;have lenV:=hi.length
 -- from an abstract heap in which nothing but the script may be tracked
 have core:∀ H:Hp,KW H->dZ K H a (ns.map V.int)->sW P w H s₁.heap->(∀ b,H b≠none->b=a)->(H a≠none->K.lookup a=none) ->
   codeAny (model P w) callerA (.call (.ref fa) ⟨[.ref a],[]⟩) (fun r s'=>r=.ok (.ret (.bool true))/\OldK s₁.heap s'.heap/\s'.os=s₁.os/\AllBare s'.gens) s₁:=by
  intro H hO hS hok hA hK;have base_of:∀ {b:Addr} {o:Obj},s₁.heap.get? b=some o->H b=none->(xF s₁.heap H).get? b=some o:=fun e n=>Ft e n;have noA:∀ {b:Addr} {o:Obj} {es:Array DictEntry} {ep:Nat},s₁.heap.get? b=some o->o.data=.dict es ep->H b=none:=fun {b o es ep} e d=>by
   cases q:H b with
   | none=>rfl
   | some u =>
    have e':b=a:=hA b (by rw [q];simp);subst e';rw [ha] at e;cases e;have d':Data.seq vs.toArray _=Data.dict es ep:=d;cases d'
  have nsK:∀ {b:Addr} {m:Str->Option Value},s₁.heap.Ns b m->(xF s₁.heap H).Ns b m:=fun {b m} ⟨o,es,ep,e,d,r⟩=>⟨o,es,ep,base_of e (noA e d),d,r⟩;have hKb:K.In (xF s₁.heap H):=fun b o e=>base_of (KX b o e) (by
   cases q:H b with
   | none=>rfl
   | some u =>
    have e':b=a:=hA b (by rw [q];simp);subst e';rw [hK (by rw [q];simp)] at e;cases e)
  have hM:Mod K mg (xF s₁.heap H):=⟨hKb,nsK hns,⟨mb,nsK hb,hbb⟩,let ⟨mc,h1,h2⟩:=hlim;⟨mc,nsK h1,h2⟩⟩;have e0:Env0 P w K mg (xF s₁.heap H) callerA [] s₁ H:=⟨rfl,hM,fun b o e=>GS e,Nat.le_of_eq (Cc _ _),trivial,fun b hb=>absurd (show b∈([]:List Addr) from hb) (by simp),hok,.of_eq hg⟩;refine codeAny_mono ((F _ hKb (nsK hns)).run callerA [] s₁ H ⟨[.ref a],[]⟩ [.ref a] [.ref a] _ _ hr e0 (hbind s₁ (.ref a)) (.cons rfl .nil) (hsp H hO hS)) fun r s' h=>?_;cases r with
  | error e=>exact (hCX H e s' h).elim
  | ok fl =>
   cases fl with
   | next=>exact False.elim h
   | brk=>exact False.elim h
   | cont=>exact False.elim h
   | ret u =>
    obtain ⟨v,H',os,bare,un,hok',r',q⟩:=h;have q':v=.bl true:=q;subst q';obtain rfl:u=Value.bool true:=r';refine ⟨rfl,OldK.of_keep fun b o e=>?_,os,bare⟩;cases q:H b with
    | none=>exact un.keep b o e q (by intro z;exact absurd (show b∈([]:List Addr) from z) (by simp)) (by simp)
    | some u =>
     rcases hO b with z|⟨ob,xs,z⟩
     ·rw [q] at z;cases z
     ·have z2:=un.frzs b ob _ z;obtain ⟨e1,_⟩:=hok b _ z;obtain ⟨e2,_⟩:=hok' b _ z2;rw [e] at e1;cases e1;exact e2
 cases hk:K.lookup a with
 | some o =>
  -- the script is one of the module's own objects
  have e:=KX a o hk;rw [ha] at e;cases e;refine core (fun _=>none) (fun _=>.inl rfl) (.inr ⟨_,vs.toArray,_,hk,rfl,rfl,rfl,by rw [List.size_toArray,lenV];exact hl,by simpa using rv⟩) (fun b u z=>by have z':(none:Option HO)=some u:=z;cases z') (fun b z=>absurd rfl z) fun z=>absurd rfl z
 | none =>
  refine core (fun b=>if b=a then some (.frz { cls:=.type "list",data:=.seq vs.toArray } (.lst (ns.map V.int))) else none) (fun b=>?_) (.inl (.inr ⟨{ cls:=.type "list",data:=.seq vs.toArray },if_pos rfl⟩)) (fun b u z=>?_) (fun b z=>?_) fun _=>hk
  ·by_cases hb:b=a
   ·exact .inr ⟨_,_,if_pos hb⟩
   ·exact .inl (if_neg hb)
  ·by_cases hb:b=a
   ·have z':=(if_pos hb).symm.trans z;cases z';subst hb;exact ⟨ha,by rw [List.length_map];exact hl,vs,_,rv,ha⟩
   ·have z':=(if_neg hb).symm.trans z;cases z'
  ·by_cases hb:b=a
   ·exact hb
   ·exact absurd (if_neg hb) z
def GK {l:PySem.W.OpenLaw} {n k:Nat} {q:Program} {loose:List Str} {XP:(Str->Option Value)->Heap->Prop} {YP:World->Heap->Prop} {d:DefRec} {K:Params->PySem.W.Frag} {CX:World->C7} {sp:World->Sp} {x:Str}
  (hn:l.most=some n) (hn2:n<=sizeLine) (hdf:d.params.defaults=[]) (hr:Room k callerA)
  (hY:∀ (w:World) (h:Heap),YP w h->(K w.params).In h)
  (F:∀ (w:World) (mg:Str->Option Value) (fa:Addr) (h:Heap),(K w.params).In h->h.Ns mainGlobals mg->mg d.name=some (.ref fa) ->
   ∃ fd:FuncData,(∀ (s:Shared) (u:Value),BindsTo s fd ⟨[u],[]⟩ [(x,u)]) /\
    ∀ base:Heap,(K w.params).In base->base.Ns mainGlobals mg->FnOk l.prog w (K w.params) mg base (CX w) k fa fd [x] (sp w))
  (hsp:∀ (w:World) (H:Hp) (a:Addr) (ns:List Int),ns.length<=n->KW H->dZ (K w.params) H a (ns.map V.int)->sp w [.ref a] H (fun v _=>v=.bl true) fun _ _ _=>False)
  (hCX:∀ (w:World) (H:Hp) (s:Shared) (e:Value) (s':Shared),CX w [] H s (fun _ _ _=>False) e s'->False) :
  PySem.W.WalkO q loose XP YP l.row.toRowW d [] (fun f vs=>PySem.call f vs):=by
 refine Att.zp hn hdf fun w s₀ s₁ mg mb fa o pm cd doc a vs ns G Y ho hd hcd hmg hobj hints hlen hg=>?_;have KX:=hY w _ Y;obtain ⟨fd,hb,hF⟩:=F w mg fa _ KX G.T.g hmg;exact DV KX G.T.g G.T.b G.T.builtins G.T.nolimit hg hobj hints (Nat.le_trans hlen hn2) hr hF hb (fun H hO hS=>hsp w H a ns hlen hO hS) fun H e s'=>hCX w H s₁ e s'
def kn (s:Stmt):Arguments:=match s with
 | .FunctionDef _ a _ _ _ _ _ _ _ _=>a
 | _=>{ posonlyargs:=[],args:=[],vararg:=none,kwonlyargs:=[],kw_defaults:=[],kwarg:=none,defaults:=[] }
def dE (s:Stmt):List Stmt:=match s with
 | .FunctionDef _ _ b _ _ _ _ _ _ _=>b
 | _=>[]
def am (s:Stmt):Scope:=match s with
 | .FunctionDef _ _ _ _ _ _ sc _ _ _=>sc
 | _=>{ kind:=.function,names:=[],isGenerator:=false,isCoroutine:=false }
abbrev eX:C7:=fun _ _ _ _ _ _=>False
abbrev E0:XK:=fun _ _ _=>False
def yI {X:Cx}:De eX X E0:=fun _ _ _ _ _ _ _ h=>h.elim
structure Fun (K:PySem.W.Frag) (x qual:Str) (st:Stmt) (f:Addr) (fd:FuncData):Prop where
 ex:∃ (oc:Value) (od:Option Addr) (kV doc pm:Value) (an:Option Addr) (cdv ct:Value) (osl:Array (Option Value)),
  fd=PySem.W.fnOf x qual (kn st) (dE st) (am st) .none kV doc pm an cdv ct/\K.lookup f=some ⟨oc,od,.func fd,osl⟩/\PySem.W.codeIn K cdv qual=true
 kp:PySem.W.keepIn K (.ref f)=true
section
variable {P:Program} {w:World} {K:PySem.W.Frag} {mg:Str->Option Value} {base:Heap}
theorem Fun.ok {x qual:Str} {st:Stmt} {f:Addr} {fd:FuncData} {N ps:List Str} {k:Nat} {sp:Sp} (F:Fun K x qual st f fd) (S:FnScope N ps (am st)) (len:∀ vs H Q E,sp vs H Q E->vs.length=ps.length)
  (hbody:∀ (cdv:Value) (A:Around) (outer:List Env) (s:Shared) (H:Hp) (vs:List V) (Q:VK) (E:XK),Room k (A.deeper (envOfC qual (am st) s.heap.objs.size f cdv))->sp vs H Q E ->
   ∃ t,zw (qd eX P w K mg base N qual (am st) f cdv A outer s H E).nox (dE st) t/\t { nx:=fun _ H'=>Q .non H',rt:=Q } (start N vs) H):FnOk P w K mg base eX (k+1) f fd ps sp:=by
 obtain ⟨oc,od,kV,doc,pm,an,cdv,ct,osl,rfl,lk,hcd⟩:=F.ex;refine Nx lk hcd S len fun A outer s H vs Q E hr hsp=>?_;obtain ⟨t,h,q⟩:=hbody cdv A outer s H vs Q E hr hsp;exact ⟨t,h.nox,q⟩
def Fun.binds {x qual:Str} {st:Stmt} {f:Addr} {fd:FuncData} {ps:List Str} (F:Fun K x qual st f fd)
  (h:∀ (kV doc pm:Value) (an:Option Addr) (cdv ct:Value) (us:List Value),us.length=ps.length->bindArgs (PySem.W.fnOf x qual (kn st) (dE st) (am st) .none kV doc pm an cdv ct) ⟨us,[]⟩=pure (ps.zip us)):zl K fd ps []:=by
 obtain ⟨oc,od,kV,doc,pm,an,cdv,ct,osl,rfl,lk,hcd⟩:=F.ex;exact .all (h kV doc pm an cdv ct)
def LY {x qual:Str} {st:Stmt} {f:Addr} {oc:Value} {od an:Option Addr} {osl:Array (Option Value)} {kV doc pm cdv ct:Value} (l:K.lookup f=some ⟨oc,od,.func (PySem.W.fnOf x qual (kn st) (dE st) (am st) .none kV doc pm an cdv ct),osl⟩)
  (c:PySem.W.codeIn K cdv qual=true) (k:PySem.W.keepIn K (.ref f)=true):Fun K x qual st f (PySem.W.fnOf x qual (kn st) (dE st) (am st) .none kV doc pm an cdv ct):=⟨⟨oc,od,kV,doc,pm,an,cdv,ct,osl,rfl,l,c⟩,k⟩
end
def ax (H H':Hp):Prop:=∀ b o,H b=some o->H' b=some o
def ax.refl (H:Hp):ax H H:=fun _ _ h=>h
def ax.trans {H H1 H2:Hp} (a:ax H H1) (b:ax H1 H2):ax H H2:=fun c o h=>b c o (a c o h)
def ax.free {H H':Hp} (e:ax H H') {l:Addr} (h:H' l=Option.none):H l=Option.none:=by
 cases q:H l with
 | none=>rfl
 | some o =>
  rw [e l o q] at h;cases h
def ax.seq {K:PySem.W.Frag} {H H':Hp} {a:Addr} {xs:List V} (e:ax H H') (h:dZ K H a xs):dZ K H' a xs:=by
 rcases h with (h|⟨o,h⟩)|h
 ·exact .inl (.inl (e _ _ h))
 ·exact .inl (.inr ⟨o,e _ _ h⟩)
 ·exact .inr h
end L2
namespace L2
open PySem PySem.W PySem.W.X PySem.W.ZRun
def walkX {q:Program} {loose:List Str} {XP:(Str->Option Value)->Heap->Prop} {K:Params->Frag} {as:List Addr} {n t:Nat} {r:RowW} {d:DefRec} {kwd:List (Str×Expr)} {run:Value->List Value->Sem Value}
  (e:∀ P,as=(K P).map (·.1)) (h:WalkO q loose XP (fun w h=>(K w.params).In h) r d kwd run):WalkX q loose XP (obsZ as) (valZ K n t) r d kwd run :=
 fun w s₀ s₁ mg mb G y a o pm cd doc dV kV h1 h2 h3 h4 h5 h6 args vals as L hp hl hr hw hs =>
  h w s₀ s₁ mg mb G (InK.keeps w s₀.heap s₁.heap (z_facts e y).2.1 L.keeps) a o pm cd doc dV kV h1 h2 h3 h4 h5 h6 args vals as hp hl hr hw hs
def mO {α:Type} {P:List α->Prop} (h:∀ a,P [a]):∀ us:List α,us.length=1->P us:=fun us e=>by
 obtain ⟨a,rfl⟩:=List.length_eq_one_iff.mp e;exact h a
def RG {α:Type} {P:List α->Prop} {n:Nat} (h:∀ a us,us.length=n->P (a::us)):∀ us:List α,us.length=n+1->P us:=fun us e=>by
 cases us with
 | nil=>cases e
 | cons a us=>exact h a us (Nat.succ.inj e)
def Gv {α:Type} {P:List α->Prop} (h:∀ a b,P [a,b]):∀ us:List α,us.length=2->P us:=RG fun a=>mO fun b=>h a b
def Te {α:Type} {P:List α->Prop} (h:∀ a b c,P [a,b,c]):∀ us:List α,us.length=3->P us:=RG fun a=>Gv fun b c=>h a b c
def ln4 {α:Type} {P:List α->Prop} (h:∀ a b c d,P [a,b,c,d]):∀ us:List α,us.length=4->P us:=RG fun a=>Te fun b c d=>h a b c d
end L2
namespace L2
open PySem PySem.Spec PyProof.Rows
def fU (cells:List (Str×Addr)):List (Str×NameKind)->List (Str×Addr)->List (Str×Addr)
 | [],acc=>acc
 | (n,k)::r,acc=>if k=.free then fU cells r ((n,(cells.lookup n).getD 0)::acc) else fU cells r acc
def mE {scope:Scope} {env:Env} (h:∀ y∈scope.names,y.2=.free->∃ c,env.cells.lookup y.1=some c):closureFor scope env=pure (fU env.cells scope.names []):=by
 simp only [closureFor];generalize ([]:List (Str×Addr))=acc;revert h
 generalize scope.names=names;intro h;induction names generalizing acc with
 | nil=>rfl
 | cons y r ih =>
  obtain ⟨n,k⟩:=y;have ih':=fun acc=>ih acc fun z hz=>h z (List.mem_cons_of_mem _ hz);by_cases hk:k=.free
  ·subst hk;obtain ⟨c,hc⟩:=h (n,.free) List.mem_cons_self rfl;have hc:env.cells.lookup n=some c:=hc;have e1:cellOf env n=pure c:=by unfold cellOf;rw [hc]
   have e2:fU env.cells ((n,.free)::r) acc=fU env.cells r ((n,c)::acc):=by
    show (if NameKind.free=.free then _ else _)=_;rw [if_pos rfl,hc];rfl
   rw [e2,<- ih' ((n,c)::acc),List.forIn_cons];simp only [beq_self_eq_true,if_true,e1];rfl
  ·have hb:(k==NameKind.free)=false:=by simpa using hk
   have e2:fU env.cells ((n,k)::r) acc=fU env.cells r acc:=by
    show (if k=.free then _ else _)=_;rw [if_neg hk]
   rw [e2,<- ih' acc,List.forIn_cons];simp only [hb,Bool.false_eq_true,if_false];rfl
def xu {cells:List (Str×Addr)} {x:Str} {c:Addr}:∀ (names:List (Str×NameKind)) (acc:List (Str×Addr)),(∀ y∈names,y.2=.free->∃ c,cells.lookup y.1=some c) ->
  (fU cells names acc).lookup x=some c->cells.lookup x=some c\/acc.lookup x=some c
 | [],acc,_,e=>.inr e
 | (n,k)::r,acc,h,e=>by
  have hr:∀ y∈r,y.2=.free->∃ c,cells.lookup y.1=some c:=fun y hy=>h y (List.mem_cons_of_mem _ hy);by_cases hk:k=.free
  ·subst hk;have e2:fU cells ((n,.free)::r) acc=fU cells r ((n,(cells.lookup n).getD 0)::acc):=by
    show (if NameKind.free=.free then _ else _)=_;rw [if_pos rfl]
   rw [e2] at e;rcases xu r _ hr e with z|z
   ·exact .inl z
   ·rw [List.lookup_cons] at z;cases hx:x==n with
    | true =>
     rw [hx] at z;have hxn:x=n:=eq_of_beq hx;obtain ⟨c',hc⟩:=h (n,.free) List.mem_cons_self rfl;have hc:cells.lookup n=some c':=hc;rw [hc] at z;left
     rw [hxn,hc];exact z
    | false =>
     rw [hx] at z;exact .inr z
  ·have e2:fU cells ((n,k)::r) acc=fU cells r acc:=by
    show (if k=.free then _ else _)=_;rw [if_neg hk]
   rw [e2] at e;exact xu r acc hr e
def qz {cells:List (Str×Addr)} {x:Str}:∀ (names:List (Str×NameKind)) (acc:List (Str×Addr)),((x,NameKind.free)∈names\/∃ c,acc.lookup x=some c)->∃ c,(fU cells names acc).lookup x=some c
 | [],acc,h=>by
  rcases h with h|h
  ·cases h
  ·exact h
 | (n,k)::r,acc,h=>by
  by_cases hk:k=.free
  ·subst hk;have e2:fU cells ((n,.free)::r) acc=fU cells r ((n,(cells.lookup n).getD 0)::acc):=by
    show (if NameKind.free=.free then _ else _)=_;rw [if_pos rfl]
   rw [e2];refine qz r _ ?_;rcases h with h|⟨c,h⟩
   ·rcases List.mem_cons.mp h with h|h
    ·cases h;exact .inr ⟨_,by rw [List.lookup_cons,beq_self_eq_true]⟩
    ·exact .inl h
   ·right
    rw [List.lookup_cons];cases x==n with
    | true=>exact ⟨_,rfl⟩
    | false=>exact ⟨c,h⟩
  ·have e2:fU cells ((n,k)::r) acc=fU cells r acc:=by
    show (if k=.free then _ else _)=_;rw [if_neg hk]
   rw [e2];refine qz r acc ?_;rcases h with h|h
   ·rcases List.mem_cons.mp h with h|h
    ·cases h;exact absurd rfl hk
    ·exact .inl h
   ·exact .inr h
structure Bk where
 cl:List (Str×Addr)
 C:Addr
 s:Shared
 H:Hp
 fp:List Addr
 ag:List (Addr×Obj)
def qk (X:Cx) (N:List Str) (scope:Scope) (b:Bk):Cx :=
 { X with tn:=0,N:=N,s₀:=b.s,H₀:=b.H,env:=compEnvC scope b.cl b.C X.env,outer:=X.stack,stack:=X.stack,ex:=b.fp,fn:=fun _=>false,pn:=X.pn++b.ag,xe:=fun _ _=>False }
def uh (ON:List Str) (names:List (Str×NameKind)):List (Option Nat)->List Str->Bool
 | [],[]=>true
 | none::r,_::n=>uh ON names r n
 | some j::r,x::n=>decide (ON[j]?=some x)&&decide ((x,NameKind.free)∈names)&&uh ON names r n
 | _,_=>false
def zJ (osc:Scope) (ON N:List Str) (ix:List (Option Nat)) (scope:Scope):Bool :=
 decide (scope.kind=.function)&&(scope.names.all fun y=>decide (y.2≠.cell))&&(scope.names.all fun y=>decide (y.2=.local->scope.names.lookup y.1=some .local)) &&
 (scope.names.all fun y=>decide (y.2=.free->osc.names.lookup y.1=some .cell\/osc.names.lookup y.1=some .free))&&(scope.names.all fun y=>decide (y.2=.local->(y.1,NameKind.free)∉scope.names))&&uh ON scope.names ix N
structure CScope (osc:Scope) (ON N:List Str) (ix:List (Option Nat)) (scope:Scope):Prop where
 kind:scope.kind=.function
 nocell:∀ y∈scope.names,y.2≠.cell
 names:∀ y∈scope.names,y.2=.local->scope.names.lookup y.1=some .local
 outs:∀ y∈scope.names,y.2=.free->osc.names.lookup y.1=some .cell\/osc.names.lookup y.1=some .free
 nolf:∀ x,(x,NameKind.local)∈scope.names->(x,NameKind.free)∈scope.names->False
 len:ix.length=N.length
 cap:∀ (i j:Nat) (x:Str),ix[i]?=some (some j)->N[i]?=some x->ON[j]?=some x/\(x,NameKind.free)∈scope.names
def ri {ON:List Str} {names:List (Str×NameKind)}:∀ {ix:List (Option Nat)} {N:List Str},uh ON names ix N=true->ix.length=N.length
 | [],[],_=>rfl
 | none::r,_::n,h=>congrArg Nat.succ (ri (ix:=r) (N:=n) h)
 | some j::r,x::n,h=>by
  have h':(decide (ON[j]?=some x)&&decide ((x,NameKind.free)∈names)&&uh ON names r n)=true:=h;rw [Bool.and_eq_true] at h';exact congrArg Nat.succ (ri h'.2)
 | [],_::_,h=>by cases h
 | none::_,[],h=>by cases h
 | some _::_,[],h=>by cases h
def rd {ON:List Str} {names:List (Str×NameKind)}:∀ {ix:List (Option Nat)} {N:List Str},uh ON names ix N=true->∀ (i j:Nat) (x:Str),ix[i]?=some (some j)->N[i]?=some x->ON[j]?=some x/\(x,NameKind.free)∈names
 | [],_,_,i,j,x,h1,_=>by simp at h1
 | none::r,y::n,h,0,j,x,h1,_=>by simp at h1
 | none::r,y::n,h,i+1,j,x,h1,h2=>rd (ix:=r) (N:=n) h i j x (by simpa using h1) (by simpa using h2)
 | some k::r,y::n,h,i,j,x,h1,h2=>by
  have h':(decide (ON[k]?=some y)&&decide ((y,NameKind.free)∈names)&&uh ON names r n)=true:=h;rw [Bool.and_eq_true,Bool.and_eq_true] at h';cases i with
  | zero =>
   simp only [List.getElem?_cons_zero,Option.some.injEq] at h1 h2;subst h1 h2;exact ⟨of_decide_eq_true h'.1.1,of_decide_eq_true h'.1.2⟩
  | succ i=>exact rd h'.2 i j x (by simpa using h1) (by simpa using h2)
 | none::_,[],h,_,_,_,_,_=>by cases h
 | some _::_,[],h,_,_,_,_,_=>by cases h
def Jo {osc:Scope} {ON N:List Str} {ix:List (Option Nat)} {scope:Scope} (h:zJ osc ON N ix scope=true):CScope osc ON N ix scope:=by
 unfold zJ at h;simp only [Bool.and_eq_true] at h;obtain ⟨⟨⟨⟨⟨h1,h2⟩,h3⟩,h4⟩,h5⟩,h6⟩:=h;exact ⟨of_decide_eq_true h1,fun y hy=>of_decide_eq_true (List.all_eq_true.mp h2 y hy),fun y hy=>of_decide_eq_true (List.all_eq_true.mp h3 y hy),fun y hy=>of_decide_eq_true (List.all_eq_true.mp h4 y hy),
  fun x hx hf=>of_decide_eq_true (List.all_eq_true.mp h5 (x,.local) hx) rfl hf,ri h6,rd h6⟩
def np (ix:List (Option Nat)) (σ:St):St:=ix.map fun o=>o.bind fun j=>(σ[j]?).getD none
def gy {env:Env}:∀ {names:List (Str×NameKind)} {x:Str} {k:NameKind},(names.map fun (n,k)=>if (k==NameKind.free&&env.scope.kind==.function&&env.kindOf n==some .cell) then (n,NameKind.cell) else (n,k)).lookup x=some k ->
  names.lookup x=some k\/(k=.cell/\names.lookup x=some .free/\env.kindOf x=some .cell)
 | [],_,_,h=>by cases h
 | (n,k')::r,x,k,h=>by
  have ih:=@gy env r x k;have h:List.lookup x ((if (k'==NameKind.free&&env.scope.kind==.function&&env.kindOf n==some .cell)=true then (n,NameKind.cell) else (n,k'))::_)=some k:=h;by_cases hc:(k'==NameKind.free&&env.scope.kind==.function&&env.kindOf n==some .cell)=true
  ·rw [if_pos hc] at h;rw [List.lookup_cons] at h;rw [List.lookup_cons];cases hx:x==n with
   | true =>
    rw [hx] at h;cases h;have hxn:x=n:=eq_of_beq hx;simp only [Bool.and_eq_true,beq_iff_eq] at hc;right
    exact ⟨rfl,by rw [hc.1.1],by rw [hxn];exact hc.2⟩
   | false =>
    rw [hx] at h;exact ih h
  ·rw [if_neg hc] at h;rw [List.lookup_cons] at h;rw [List.lookup_cons];cases hx:x==n with
   | true =>
    rw [hx] at h;cases h;exact .inl rfl
   | false =>
    rw [hx] at h;exact ih h
def mem_of_lookupK {x:Str} {k:NameKind}:∀ {names:List (Str×NameKind)},names.lookup x=some k->(x,k)∈names:=fun h=>PySem.mem_of_lookup h
def GU {X:Cx} {osc:Scope} {ON:List Str} {ag:List (Addr×Obj)} {σ:St} {H:Hp} {s s':Shared} {N:List Str} {ix:List (Option Nat)} {scope:Scope} {fp:List Addr} {h':Heap} {m:Str->Option Value} (I:Inv X ag σ H s) (hE:X.env.scope=osc) (hO:X.N=ON) (S:CScope osc ON N ix scope)
  (hfp:∀ b∈fp,kh X ag H b) (hfo:∀ b∈fp,∃ o,s.heap.get? b=some o) (hn:h'.Ns s.heap.objs.size m) (hk:∀ b o,s.heap.get? b=some o->h'.get? b=some o) (he:s'={ s with heap:=h',toks:=s'.toks }) :
  Inv (qk X N scope ⟨fU X.env.cells scope.names [],s.heap.objs.size,s,H,fp,ag⟩) [] (np ix σ) H s':=by
 subst hE hO;have hcells:∀ y∈scope.names,y.2=.free->∃ c,X.env.cells.lookup y.1=some c:=fun y hy e=>I.ok.has y.1 (S.outs y hy e);have clin:∀ x c,(fU X.env.cells scope.names []).lookup x=some c->X.env.cells.lookup x=some c:=fun x c e=>by
  rcases xu scope.names [] hcells e with z|z
  ·exact z
  ·cases z
 have old:∀ b o,s.heap.get? b=some o->b≠s.heap.objs.size:=fun b o e=>Nat.ne_of_lt (Heap.lt_size e);have hkind:∀ x,(compEnvC scope (fU X.env.cells scope.names []) s.heap.objs.size X.env).kindOf x=some .cell\/(compEnvC scope (fU X.env.cells scope.names []) s.heap.objs.size X.env).kindOf x=some .free->(x,NameKind.free)∈scope.names:=fun x hx=>by
  rcases hx with hx|hx
  ·rcases gy (env:=X.env) hx with z|⟨_,z,_⟩
   ·exact absurd rfl (S.nocell _ (mem_of_lookupK z))
   ·exact mem_of_lookupK z
  ·rcases gy (env:=X.env) hx with z|⟨z,_⟩
   ·exact mem_of_lookupK z
   ·cases z
 have cellK:∀ x c,X.env.cells.lookup x=some c->∀ v,s.heap.IsCell c v->h'.IsCell c v:=fun x c e v ⟨o,ho,hd⟩=>⟨o,hk c o ho,hd⟩;rw [he];refine ⟨⟨I.ok.mod,S.kind,I.ok.glob,I.ok.blt,Nat.le_refl _,fun x y c h1 h2=>I.ok.inj x y c (clin x c h1) (clin y c h2),fun x hx=>qz _ _ (.inl (hkind x hx)),fun x c z _=>(nomatch z),I.ok.hd,I.ok.frames,.inl rfl,
  fun b hb=>?_,fun b o e=>I.bs b o e,Nat.le_trans I.ok.bsz I.sz,fun b o e hb=>?_,fun b hb hx=>?_,I.stack,fun b hb=>I.stkFree b hb⟩,
  rfl,I.bare,Un.kept hk,⟨m,hn,fun i x v h1 h2 h3=>?_⟩,fun x c e=>?_,I.hok.fresh (Nat.le_refl _),fun x c e=>I.freeC x c (clin x c e),fun p hp=>?_,I.hok.kept hk,?_,Nat.zero_le _⟩
 ·obtain ⟨o,ho⟩:=hfo b hb;exact ⟨old b o ho,fun x c e=>(hfp b hb).2.2.2.2.1 x c (clin x c e)⟩
 ·rcases (hfp b hb).2.2.2.1 with z|z
  ·exact I.ok.noex b o e z
  ·exact absurd (Nat.lt_of_lt_of_le (Heap.lt_size e) (Nat.le_trans I.ok.bsz z)) (Nat.lt_irrefl _)
 ·rcases List.mem_cons.mp (I.stkSub b hx) with z|z
  ·exact (hfp b hb).2.1 z
  ·exact (hfp b hb).2.2.1 z
 ·-- a captured name
  have h2':(np ix σ)[i]?=some (some v):=h2;unfold np at h2';rw [List.getElem?_map] at h2';cases e:ix[i]? with
  | none=>rw [e] at h2';cases h2'
  | some o =>
   rw [e] at h2';cases o with
   | none=>cases h2'
   | some j =>
    obtain ⟨c1,c2⟩:=S.cap i j x e h1;have h2'':(σ[j]?).getD none=some v:=Option.some.inj h2';have ej:σ[j]?=some (some v):=by
     cases q:σ[j]? with
     | none=>rw [q] at h2'';cases h2''
     | some w'=>rw [q] at h2'';rw [<- h2''];rfl
    have ko:=S.outs _ c2 rfl;obtain ⟨mX,hnX,hl⟩:=I.loc;have vis:zv X.env.scope x:=by
     rcases ko with k|k
     ·exact .inr (.inl k)
     ·exact .inr (.inr k)
    obtain ⟨u,ru,lk⟩:=hl j x v c1 ej vis;refine ⟨u,ru,.inr ?_⟩;have hcel:∃ c,X.env.cells.lookup x=some c/\s.heap.IsCell c (some u):=by
     rcases lk with ⟨k,_⟩|⟨_,c,e1,e2⟩
     ·rcases ko with k'|k'
      ·have:X.env.kindOf x=some .cell:=k'
       rw [k] at this;cases this
      ·have:X.env.kindOf x=some .free:=k'
       rw [k] at this;cases this
     ·exact ⟨c,e1,e2⟩
    obtain ⟨c,e1,e2⟩:=hcel;obtain ⟨c',e3⟩:=qz (cells:=X.env.cells) scope.names [] (.inl c2);have e4:=clin x c' e3;rw [e1] at e4;cases e4;refine ⟨?_,c,e3,cellK x c e1 _ e2⟩;rcases h3 with k|k|k
    ·rcases gy (env:=X.env) k with z|⟨z,_⟩
     ·exact (S.nolf x (mem_of_lookupK z) c2).elim
     ·cases z
    ·exact .inl k
    ·exact .inr k
 ·obtain ⟨v,z⟩:=I.cell x c (clin x c e);exact ⟨v,cellK x c (clin x c e) v z⟩
 ·have hp':p∈X.pn++ag:=by
   rcases List.mem_append.mp hp with z|z
   ·exact z
   ·cases z
  obtain ⟨e,n,ne,nf,d⟩:=I.pin p hp';refine ⟨hk _ _ e,n,old _ _ e,fun z=>?_,d⟩;rcases List.mem_cons.mp (I.stkSub _ z) with q|q
  ·exact ne q
  ·exact nf q
 ·show (np ix σ).length=N.length;unfold np;rw [List.length_map];exact S.len
section
variable {prog:Program} {w:World} {A:Around} {R:Result->Shared->Prop} {s:Shared}
def xr {elt target iter:Expr} {ifs:List Expr} {scope:Scope} {pos:Pos} {it acc:Value} {env:Env} (I:Nat->Shared->Prop)
  (turn:∀ n s,I n s->wpAny (model prog w) A (pyNext it) (fun r s₁=>match r with
   | none=>R (.ok .next) s₁
   | some v=>wpAny (model prog w) A (letOwnedTupleGo target it v) (fun _ s₁'=>wpAny (model prog w) A (assign target env v) (fun _ s₂ =>
     wpAny (model prog w) A (forIn ifs true fun c r=>if r=true then do let ok <- isTrue c env (eval c env);pure (ForInStep.yield ok) else pure (ForInStep.yield r)) (fun ok s₃ =>
      if ok=true then wpAny (model prog w) A (eval elt env) (fun x s₄ =>
       wpAny (model prog w) A (call (.builtin "list.append") [acc,x]) (fun _ s₅=>∃ m,m < n/\I m s₅) (notedBy (model prog w) A env fun e s'=>R (.error e) s') s₄) (notedBy (model prog w) A env fun e s'=>R (.error e) s') s₃
      else ∃ m,m < n/\I m s₃) (notedBy (model prog w) A env fun e s'=>R (.error e) s') s₂) (notedBy (model prog w) A env fun e s'=>R (.error e) s') s₁') (notedBy (model prog w) A env fun e s'=>R (.error e) s') s₁) (notedBy (model prog w) A env fun e s'=>R (.error e) s') s)
  (n:Nat) (h:I n s) :
  codeAny (model prog w) A (.compLoop (.ListComp elt [⟨target,iter,ifs,0⟩] scope pos) 0 it acc env) R s:=by
 refine codeAny_loop rfl I (fun n s hI=>?_) n h;show wpAny _ A ((compTurn (.ListComp elt [⟨target,iter,ifs,0⟩] scope pos) 0 it acc env).onRaise (fun x=>do noteFrame x env;theTreesLotGoes x)) _ _ s;refine wpAny_noted ?_;rw [compTurn_list];refine wpAny_bind (wpAny_standAt (wpAny_bind (wpAny_mono (turn n s hI) (fun r s₁ h₁=>?_) fun _ _ h'=>h')));cases r with
 | none=>exact wpAny_pure h₁
 | some v =>
  refine wpAny_bind (wpAny_mono h₁ (fun _ s₁' h₁'=>?_) fun _ _ h'=>h');refine wpAny_bind (wpAny_mono h₁' (fun _ s₂ h₂=>wpAny_bind (wpAny_mono h₂ (fun ok s₃ h₃=>?_) fun _ _ h'=>h')) fun _ _ h'=>h');cases ok with
  | false=>exact wpAny_pure ⟨rfl,h₃⟩
  | true =>
   exact wpAny_bind (wpAny_bind (wpAny_mono h₃ (fun x s₄ h₄=>wpAny_bind (wpAny_mono h₄ (fun _ s₅ h₅=>wpAny_pure (wpAny_pure ⟨rfl,h₅⟩)) fun _ _ h'=>h')) fun _ _ h'=>h'))
end
def J6 (X:Cx) (ifs:List Expr) (t:TT):Prop :=
 ∀ (ag:List (Addr×Obj)) (s:Shared) (σ:St) (H:Hp) (Q:Bool->Hp->Prop),Inv X ag σ H s->t σ H Q ->
  wpAny (model X.prog X.w) X.A (forIn ifs true fun c r=>if r=true then do let ok <- isTrue c X.env (eval c X.env);pure (ForInStep.yield ok) else pure (ForInStep.yield r)) (TP X ag σ Q) X.xe s
def Qh:TT:=fun _ H Q=>Q true H
def Hx {X:Cx}:J6 X [] Qh:=fun _ _ _ H _ I h=>wpAny_tests_nil ⟨H,I,h⟩
def GR {X:Cx} {c:Expr} {t:TT} (h:PT X c t):J6 X [c] t:=fun ag s σ H Q I q=>wpAny_tests_one (h ag s σ H Q I q)
def xa (g:TG) (tt:TT) (te:TE) (J:It) (σ0:St) (H1:Hp) (Q:VK):Prop:=∀ acc,H1 acc=none->∃ W:Nat->Nat->St->Hp->Prop,
 (∃ m,W 0 m σ0 (cQ H1 acc (.lst [])))/\∀ i m σ' H',W i m σ' H' ->
  (J.stop i H'/\Q (.ref acc) H')\/(J.go i H'/\∃ M:St->Hp->Prop,(∀ σ2 H2,M σ2 H2->∃ m',m' < m/\W (i+1) m' σ2 H2)/\∀ x H2,J.yld i H' x H2->g x σ' H2 fun σ3 H3=>tt σ3 H3 fun b H4 =>
   if b=true then te σ3 H4 fun v H5=>∃ xs,H5 acc=some (.lst xs)/\xs.length < sizeLine/\M σ3 (cQ H5 acc (.lst (xs++[v]))) else M σ3 H4)
def A7 (ix:List (Option Nat)) (wi:TI) (g:TG) (tt:TT) (te:TE):TE:=fun σ H Q=>wi σ H fun J H1=>xa g tt te J (np ix σ) H1 Q
section
variable {X:Cx} {osc:Scope} {ON N:List Str} {ix:List (Option Nat)} {scope:Scope} {tg elt iter:Expr} {ifs:List Expr} {pos:Pos} {wi:TI} {g:TG} {tt:TT} {te:TE}
def Fk {ag:List (Addr×Obj)} {σ σ':St} {H H':Hp} {s s':Shared} {fp:List Addr} {cl:List (Str×Addr)} (I:Inv X ag σ H s) (hfp:∀ b∈fp,kh X ag H b) (J:Inv (qk X N scope ⟨cl,s.heap.objs.size,s,H,fp,ag⟩) [] σ' H' s') (ht:X.tn<=s'.toks) :
  Inv X ag σ H' s'/\(∃ m,s'.heap.Ns s.heap.objs.size m)/\H' s.heap.objs.size=none/\kh X ag H' s.heap.objs.size:=by
 have u:Un (C9 X.stack) fp H H' s.heap s'.heap:=J.base;have I1:Inv X ag σ H' s':=I.call' J.os u J.hok J.bare fun b hb=>⟨(hfp b hb).2.2.2.1,(hfp b hb).2.1,(hfp b hb).2.2.2.2.1,(hfp b hb).2.2.2.2.2⟩;obtain ⟨m,hn,_⟩:=J.loc;exact ⟨I1,⟨m,hn⟩,J.free,I.fpOk (Nat.le_refl _) J.free⟩
def vZ {ag:List (Addr×Obj)} {σ:St} {H:Hp} {s:Shared} {it:Addr} {fp:List Addr} {tn:Nat->Heap->Prop} {J:It} {Q:VK} {E:Value->Shared->Prop} {RR:Value->Addr->Result->Shared->Prop}
  (S:CScope osc ON N ix scope) (hE:X.env.scope=osc) (hO:X.N=ON) (hc:X.calm=true) (hg:∀ b,PG (qk X N scope b) tg g) (ht:∀ b,J6 (qk X N scope b) ifs tt)
  (he:∀ (s0:Shared) (H0:Hp) (pl:List (Addr×Obj)) (s':Shared) (σ':St) (H':Hp) (Q':VK) (acc:Addr),Inv X ag σ H0 s0->(∀ b∈fp,kh X ag H0 b)->(∀ b∈fp,∃ o,(b,o)∈pl)->Inv (qk X N scope ⟨fU X.env.cells scope.names [],s0.heap.objs.size,s0,H0,fp,ag⟩) ([]++pl) σ' H' s'->te σ' H' Q' ->
   wpAny (model X.prog X.w) X.A (eval elt (compEnvC scope (fU X.env.cells scope.names []) s0.heap.objs.size X.env)) (EP (qk X N scope ⟨fU X.env.cells scope.names [],s0.heap.objs.size,s0,H0,fp,ag⟩) ([]++pl) σ' Q') (notedBy (model X.prog X.w) X.A (compEnvC scope (fU X.env.cells scope.names []) s0.heap.objs.size X.env) fun e s''=>X.tn<=s''.toks->RR (.ref acc) s0.heap.objs.size (.error e) s'') s')
  (I:Inv X ag σ H s) (T:Turn X.prog X.w X.K tg J fp it tn) (st:tn 0 s.heap) (hfp:∀ b∈fp,kh X ag H b) (q:xa g tt te J (np ix σ) H Q)
  (hRR:∀ (acc C:Addr) (H':Hp) (s':Shared),Inv X ag σ H' s'->(∃ m,s'.heap.Ns C m)->H' C=none->kh X ag H' C->Q (.ref acc) H'->RR (.ref acc) C (.ok .next) s') :
  wpAny (model X.prog X.w) X.A (newList []) (fun acc s₃=>wpAny (model X.prog X.w) X.A (newFunctionEnv scope X.env.globals (fU X.env.cells scope.names []) [] X.env.qual none .none (some X.env)) (fun cenv s₄ =>
   codeAny (model X.prog X.w) X.A (.compStart (.ListComp elt [⟨tg,iter,ifs,0⟩] scope pos) 0 (.ref it) acc { cenv with scope:=relabel scope X.env }) (RR acc cenv.locals) s₄) E s₃) E s:=by
 refine wpAny_newObj_type (wpAny_newFunctionEnv S.nocell (by intro y hy;simp at hy) (fun h₁ hns₁ hsb₁=>?_) S.kind);dsimp only at hns₁ hsb₁ ⊢
 -- the list,tracked
 have I3:Inv X ag σ (cQ H s.heap.objs.size (.lst [])) { s with heap:=s.heap.push { cls:=.type "list",dict:=none,data:=.seq ([]:List Value).toArray } } :=
  I.laid (t':=s.toks) (fun b o e=>Heap.get?_push_of_some _ e) (Nat.le_refl _) (show fg X.prog X.w _ _ _ (.lst []) from ⟨Nat.zero_le _,[],_,.nil,Heap.get?_push_size _ rfl⟩)
 have hacc:H s.heap.objs.size=none:=I.hok.fresh (Nat.le_refl _);have hfo:∀ b∈fp,∃ o,s.heap.get? b=some o:=fun b hb=>let ⟨o,e,_⟩:=T.obj 0 _ st b hb;⟨o,e⟩;have fne:∀ b∈fp,b≠s.heap.objs.size:=fun b hb=>let ⟨o,e⟩:=hfo b hb;Nat.ne_of_lt (Heap.lt_size e);have hfp3:∀ b∈fp,kh X ag (cQ H s.heap.objs.size (.lst [])) b:=fun b hb=>⟨by rw [bf (fne b hb)];exact (hfp b hb).1,(hfp b hb).2⟩;obtain ⟨W,⟨m0,w0⟩,turn⟩:=q s.heap.objs.size hacc;generalize hH2:s.heap.push { cls:=.type "list",dict:=none,data:=.seq ([]:List Value).toArray }=h2 at *;have hk1:∀ b o,h2.get? b=some o->h₁.get? b=some o:=fun b o e=>hsb₁.extBut b o (Nat.ne_of_lt (Heap.lt_size e)) (Heap.get?_push_of_some _ e);have old:∀ b o,s.heap.get? b=some o->h2.get? b=some o:=fun b o e=>by rw [<- hH2];exact Heap.get?_push_of_some _ e
 have fin:∀ s₄:Shared,s₄={ s with heap:=h₁,toks:=s₄.toks }->X.tn<=s₄.toks->codeAny (model X.prog X.w) X.A (.compLoop (.ListComp elt [⟨tg,iter,ifs,0⟩] scope pos) 0 (.ref it) (.ref s.heap.objs.size) (compEnvC scope (fU X.env.cells scope.names []) h2.objs.size X.env))
   (RR (.ref s.heap.objs.size) h2.objs.size) s₄:=by
  intro s₄ e4 ht4;refine oS ht4 ?_;have J0:Inv (qk X N scope ⟨fU X.env.cells scope.names [],h2.objs.size,{ s with heap:=h2 },cQ H s.heap.objs.size (.lst []),fp,ag⟩) [] (np ix σ) (cQ H s.heap.objs.size (.lst [])) s₄ :=
   GU (s:={ s with heap:=h2 }) I3 hE hO S hfp3 (fun b hb=>let ⟨o,e⟩:=hfo b hb;⟨o,old b o e⟩) hns₁ hk1 e4
  generalize hX:qk X N scope ⟨fU X.env.cells scope.names [],h2.objs.size,{ s with heap:=h2 },cQ H s.heap.objs.size (.lst []),fp,ag⟩=Y at J0;have eE:compEnvC scope (fU X.env.cells scope.names []) h2.objs.size X.env=Y.env:=by rw [<- hX];rfl
  have eP:X.prog=Y.prog:=by rw [<- hX];rfl
  have eW:X.w=Y.w:=by rw [<- hX];rfl
  have eA:X.A=Y.A:=by rw [<- hX];rfl
  have eK:X.K=Y.K:=by rw [<- hX];rfl
  have eC:Y.calm=true:=by rw [<- hX];exact hc
  have T':Turn Y.prog Y.w Y.K tg J fp it tn:=by rw [<- eP,<- eW,<- eK];exact T
  have st0:tn 0 s₄.heap:=T.keep _ _ _ st fun b hb o e=>by rw [e4];exact hk1 b o (old b o e)
  have fpY:∀ {H':Hp},(∀ b∈fp,H' b=none)->∀ b∈fp,kh Y [] H' b:=fun {H'} hn b hb=>by
   rw [<- hX];have f:=hfp b hb;refine ⟨hn b hb,?_,?_,.inl hb,?_,?_⟩
   ·have:=J0.ok.exf b (by rw [<- hX];exact hb)
    rw [<- hX] at this;exact this.1
   ·have:=J0.ok.exfs b (by rw [<- hX];exact hb)
    rw [<- hX] at this;exact this
   ·have:=J0.ok.exf b (by rw [<- hX];exact hb)
    rw [<- hX] at this;exact this.2
   ·intro p hp;have hp':p∈X.pn++ag:=by
     rcases List.mem_append.mp hp with z|z
     ·exact z
     ·cases z
    exact f.2.2.2.2.2 p hp'
  have accne:s.heap.objs.size∉fp:=fun z=>fne _ z rfl;have never:∀ e s',Y.xe e s'->False:=by rw [<- hX];exact fun _ _ z=>z
  have hgY:PG Y tg g:=by rw [<- hX];exact hg _
  have htY:J6 Y ifs tt:=by rw [<- hX];exact ht _
  rw [eE,eP,eW,eA];refine xr (fun n s'=>∃ i σ' H',Inv Y [] σ' H' s'/\tn i s'.heap/\(∀ b∈fp,H' b=none)/\W i n σ' H') ?_ m0 ⟨0,np ix σ,_,J0,st0,fun b hb=>(hfp3 b hb).1,w0⟩;rintro n s5 ⟨i,σ5,H5,I5,st5,fr5,w5⟩;rcases turn i n σ5 H5 w5 with ⟨stop,qn⟩|⟨go,M,hM,step⟩
  ·refine gH (T'.done Y rfl rfl rfl eC i [] s5 σ5 H5 _ I5 (fpY fr5) st5 stop) fun r s6 ⟨hr,I6⟩=>?_;subst hr;have I6':=I6;rw [<- hX] at I6';intro htk;obtain ⟨a1,a2,a3,a4⟩:=Fk (s:={ s with heap:=h2 }) I3 hfp3 I6' htk;exact hRR _ _ H5 s6 a1 a2 a3 a4 qn
  ·refine gH (T'.item Y rfl rfl rfl eC i [] s5 σ5 H5 _ I5 (fpY fr5) st5 go) fun r s6 ⟨u,hr,h6⟩=>?_;subst hr;refine gH h6 fun _ s7 ⟨x,H7,I7,r7,y7,st7,fr7⟩=>?_;have I7':=I7.pinned (fpY fr7) (T.obj _ _ st7);refine wpAny_mono (hgY _ s7 σ5 H7 x u _ I7' r7 (step x H7 y7)) (fun _ s8 ⟨σ8,H8,I8,q8⟩=>?_) fun e s' z=>(never e s' z).elim;refine wpAny_mono (htY _ s8 σ8 H8 _ I8 q8) (fun ok s9 ⟨H9,I9,q9⟩=>?_) fun e s' z=>(never e s' z).elim;have again:∀ {σa:St} {Ha:Hp} {sa:Shared},Inv Y ([]++pD fp s7.heap) σa Ha sa->M σa Ha->∃ m,m < n/\∃ i σ' H',Inv Y [] σ' H' sa/\tn i sa.heap/\(∀ b∈fp,H' b=none)/\W i m σ' H':=fun {σa Ha sa} Ia na=>by
    obtain ⟨m',hm,wa⟩:=hM σa Ha na;refine ⟨m',hm,i+1,σa,Ha,Ia.unpinned,T.keep _ _ _ st7 fun b hb o e=>(Ia.pin (b,o) (List.mem_append_right _ (List.mem_append_right _ (gR hb e)))).1,fun b hb=>?_,wa⟩;obtain ⟨o,e,d⟩:=T.obj _ _ st7 b hb;exact (Ia.pin (b,o) (List.mem_append_right _ (List.mem_append_right _ (gR hb e)))).2.1
   cases ok with
   | false =>
    rw [if_neg Bool.false_ne_true] at q9 ⊢;exact again I9 q9
   | true =>
    rw [if_pos rfl] at q9 ⊢;have I9':=I9;rw [<- hX] at I9';rw [<- eP,<- eW,<- eA,<- eE];refine wpAny_mono (he { s with heap:=h2 } _ _ s9 σ8 H9 _ _ I3 hfp3 (fun b hb=>let ⟨o,e,d⟩:=T.obj _ _ st7 b hb;⟨o,gR hb e⟩) I9' q9) (fun y sb ⟨vb,Hb,Ib',rb,xs,hx,hz,nb⟩=>?_) fun _ _ z=>z;have Ib:Inv Y ([]++pD fp s7.heap) σ8 Hb sb:=by rw [<- hX];exact Ib'
    rw [eP,eW,eA];refine wpAny_mono (lj (X:=Y) _ sb σ8 Hb (.ref s.heap.objs.size) [vb] (.ref s.heap.objs.size) [y] (fun v H'=>M σ8 H') Ib rfl (.cons rb .nil) ⟨s.heap.objs.size,xs,vb,rfl,rfl,hx,hz,nb⟩) (fun _ sc ⟨vc,Hc,Ic,rc,nc⟩=>?_) fun e s' z=>(never e s' z).elim;exact again Ic nc
 exact codeAny_compStart_list (fin _ rfl (by walk_at "tok")) (T.self _ 0 _ _ _ (T.keep _ _ _ st fun b hb o e=>hk1 b o (old b o e)) (fin _ rfl (by walk_at "tok")))
def Dj (S:CScope osc ON N ix scope) (hE:X.env.scope=osc) (hO:X.N=ON) (hc:X.calm=true) (hi:PI X tg iter wi) (hg:∀ b,PG (qk X N scope b) tg g) (ht:∀ b,J6 (qk X N scope b) ifs tt) (he:∀ b,PE (qk X N scope b) elt te)
  (hs:∀ x,foldedSetIterable iter X.env x=pure x:=by intro _;rfl):PE X (.ListComp elt [⟨tg,iter,ifs,0⟩] scope pos) (A7 ix wi g tt te):=by
 intro ag s σ H Q I h;rw [eval_ListComp];have hcells:∀ y∈scope.names,y.2=.free->∃ c,X.env.cells.lookup y.1=some c:=fun y hy e=>I.ok.has y.1 (by subst hE;exact S.outs y hy e);refine wpAny_comprehension_free (use:=none) rfl hs (mE hcells) S.kind S.names (gH (hi ag s σ H _ I h) fun v s1 h1=>gH h1 fun itv s2 h2=>?_);obtain ⟨it,fp,tn,J,H2,e,I2,T,st2,f2,q⟩:=h2;subst e;refine vZ (RR:=fun acc C=>compPost (model X.prog X.w) X.A X.xe none (EP X ag σ Q) acc C) S hE hO hc hg ht (fun s0 H0 pl s' σ' H' Q' acc _ _ _ I' q'=>wpAny_mono (he _ _ s' σ' H' Q' I' q') (fun _ _ z=>z) fun _ _ z=>z.elim) I2 T st2 f2 q fun acc C H' s' I' hn hC fC q'=>?_;obtain ⟨m,hn⟩:=hn;refine ⟨m,hn,fun h' sb=>⟨.ref acc,H',?_,rfl,q'⟩⟩;obtain ⟨f0,f1,f2',f3,f4,f5⟩:=fC;exact I'.turned (t':=s'.toks) (fun b o hb e=>(sb.2 b hb).trans e) f0 f1 f3 f4 f5
def Al {i:Nat} {x:Str} {spos pos':Pos} (hN:X.N.Nodup) (hx:X.N[i]?=some x) (hl:zg X.env.scope x) (S:CScope osc ON N ix scope) (hE:X.env.scope=osc) (hO:X.N=ON) (hc:X.calm=true) (hi:PI X tg iter wi) (hg:∀ b,PG (qk X N scope b) tg g) (ht:∀ b,J6 (qk X N scope b) ifs tt) (he:∀ b,PE (qk X N scope b) elt te)
  (hsw:swapsWith (.ListComp elt [⟨tg,iter,ifs,0⟩] scope pos) (some (.Name x pos')) spos.line X.env=pure true:=by rfl)
  (hf:X.fn x=true\/X.env.scope.names.lookup x=some .local:=by first|exact .inl rfl|exact .inr rfl|assumption)
  (hs:∀ x,foldedSetIterable iter X.env x=pure x:=by intro _;rfl):PS X (.Assign [.Name x pos'] (.ListComp elt [⟨tg,iter,ifs,0⟩] scope pos) spos) (xT (A7 ix wi g tt te) (i6 i)):=by
 intro ag s σ H D I h;rw [exec_Assign_Name_used _ _ _ _ hsw];refine wpAny_bind (wpAny_standAt (wpAny_bind ?_));have hcells:∀ y∈scope.names,y.2=.free->∃ c,X.env.cells.lookup y.1=some c:=fun y hy e=>I.ok.has y.1 (by subst hE;exact S.outs y hy e);show wpAny _ X.A (do let _ <- comprehension (.ListComp elt [⟨tg,iter,ifs,0⟩] scope pos) scope X.env _ (newList []) false (eval iter X.env) (some (assign (.Name x pos') X.env))) _ _ s;refine wpAny_bind (wpAny_mono (wpAny_comprehension_free (use:=some (assign (.Name x pos') X.env)) (Q:=fun _ s'=>SP X ag D .next s') rfl hs (mE hcells) S.kind S.names
  (gH (hi ag s σ H _ I h) fun v s1 h1=>gH h1 fun itv s2 h2=>?_)) (fun _ s' hq=>wpAny_pure (wpAny_pure hq)) fun _ _ e=>e)
 obtain ⟨it,fp,tn,J,H2,e,I2,T,st2,f2,q⟩:=h2;subst e;refine vZ (RR:=fun acc C=>compPost (model X.prog X.w) X.A X.xe (some (assign (.Name x pos') X.env)) (fun _ s'=>SP X ag D .next s') acc C) S hE hO hc hg ht (fun s0 H0 pl s' σ' H' Q' acc _ _ _ I' q'=>wpAny_mono (he _ _ s' σ' H' Q' I' q') (fun _ _ z=>z) fun _ _ z=>z.elim) I2 T st2 f2 q fun acc C H' s' I' hn hC fC q'=>?_;obtain ⟨m,hn⟩:=hn;have hob:∃ o,s'.heap.get? C=some o/\∀ v,o.data≠.cell v:=by
  obtain ⟨o,es,ep,ho,hd,_⟩:=hn;exact ⟨o,ho,fun v z=>by rw [hd] at z;cases z⟩
 have only:∀ b∈[C],b=C:=fun b hb=>by simpa using hb
 have I1:=I'.pinned (fp:=[C]) (fun b hb=>(only b hb) ▸ fC) (fun b hb=>(only b hb) ▸ hob);refine wpAny_mono (BS (pos:=pos') hN hx hl hf (ag++pD [C] s'.heap) s' σ H' (.ref acc) (.ref acc) D.nx I1 rfl q') (fun _ s'' ⟨σ2,H2,I2',q2⟩=>?_) fun _ _ z=>z;obtain ⟨o,ho,hd⟩:=hob;have pn:=I2'.pin (C,o) (List.mem_append_right _ (List.mem_append_right _ (gR (by simp) ho)));refine ⟨m,hn.at' fun o' e=>by rw [ho] at e;cases e;exact pn.1,fun h' sb=>⟨σ2,H2,?_,q2⟩⟩;obtain ⟨f0,f1,f2',f3,f4,f5⟩:=fC;exact I2'.unpinned.turned (t':=s''.toks) (fun b o hb e=>(sb.2 b hb).trans e) pn.2.1 f1 f3 f4 f5
end
def ua {P:Program} {w:World} {K:PySem.W.Frag} {tg:Expr} {it:Addr} {n:Nat} {St:Nat->Heap->Prop} {Pv:Nat->Value->Prop} {J:It} (W:∀ A:Around,A.handled=none->Walks P w A it [it] [it] n Pv St)
  (ob:∀ i h,St i h->∃ (o:Obj) (nm:String) (vs:Array Value),h.get? it=some o/\o.cls=.type nm/\o.data=.fields vs/\["enumerate","zip","dict_itemiterator","dict_reverseitemiterator","odict_iterator","itertools.zip_longest","itertools.pairwise"].contains nm=false)
  (go:∀ i H,J.go i H->i < n) (yl:∀ i H u,J.go i H->Pv i u->∃ x,bB x u/\J.yld i H x H) (dn:∀ i h H,J.stop i H->St i h->St n h)
  (self:∀ (A:Around) (i:Nat) (s:Shared) (Q:Value->Shared->Prop) (E:Value->Shared->Prop),St i s.heap->Q (.ref it) s->wpAny (model P w) A (pyIter (.ref it)) Q E s):Turn P w K tg J [it] it St where
 mem:=by simp
 obj:=fun i h st b hb=>by
  have e:b=it:=by simpa using hb
  subst e;obtain ⟨o,nm,vs,h1,h2,h3,h4⟩:=ob i h st;exact ⟨o,h1,fun v z=>by rw [h3] at z;cases z⟩
 keep:=fun i h h' st k=>(W {} rfl).frame i h h' st fun b hb o e=>k b hb o e
 item:=by
  intro X hP hw hK hc i ag s σ H E I hf st hg;subst hP hw hK;obtain ⟨f0,f1,f2,f3,f4,f5⟩:=hf it (by simp);refine bh I.tk ((W X.A (I.ok.hd hc)).item i s _ _ (go i H hg) st fun v h' tk hv st' kk htk=>?_);have I1:Inv X ag σ H { s with heap:=h',toks:=tk }:=I.turned (fun b o hb e=>kk b o (by simpa using hb) e) f0 f1 f3 f4 f5;obtain ⟨x,rx,yx⟩:=yl i H v hg hv;obtain ⟨o,nm,vs,h1,h2,h3,h4⟩:=ob (i+1) h' st';exact ⟨v,rfl,yQ (s:={ s with heap:=h',toks:=tk }) h1 h2 h3 h4 ⟨x,H,I1,rx,yx,st',fun b hb=>(hf b hb).1⟩⟩
 done:=by
  intro X hP hw hK hc i ag s σ H E I hf st hg;subst hP hw hK;obtain ⟨f0,f1,f2,f3,f4,f5⟩:=hf it (by simp);exact bh I.tk ((W X.A (I.ok.hd hc)).done s _ _ (dn i s.heap H hg st) fun h' tk kk htk=>⟨rfl,I.turned (fun b o hb e=>kk b o (by simpa using hb) e) f0 f1 f3 f4 f5⟩)
 self:=self
def L7 (z:Str):It:=⟨fun i _=>i < z.length,fun i H x H'=>H'=H/\∃ c,z.cps[i]?=some c/\x=.str ⟨#[c]⟩,fun i _=>i=z.length⟩
def D6 {z:Str} {i:Nat} {H:Hp} {u:Value} (h:SignAt z i u):∃ x,bB x u/\(L7 z).yld i H x H:=by
 obtain ⟨c,t,e1,rfl⟩:=h;exact ⟨.str ⟨#[c]⟩,⟨t,rfl⟩,rfl,c,e1,rfl⟩
def AX {P:Program} {w:World} {K:PySem.W.Frag} {tg:Expr} (it:Addr) (z:Str) (t:Tok):Turn P w K tg (L7 z) [it] it (fun i h=>h.IsStrIter it "str_ascii_iterator" z t i) :=
 ua (n:=z.cps.size) (Pv:=SignAt z) (fun A hA=>Walks.strAscii hA it z t) (fun i h ⟨o,e,c,d⟩=>⟨o,_,_,e,c,d,by decide⟩) (fun i H h=>h) (fun i H u _ h=>D6 h) (fun i h H e st=>by
  have e':i=z.cps.size:=e;rw [<- e'];exact st) fun A i s Q E st h=>wpAny_pyIter_striter_ascii st h
def CO {P:Program} {w:World} {K:PySem.W.Frag} {tg:Expr} (it:Addr) (z:Str) (t:Tok):Turn P w K tg (L7 z) [it] it (fun i h=>h.IsStrIter it "str_iterator" z t i) :=
 ua (n:=z.cps.size) (Pv:=SignAt z) (fun A hA=>Walks.strWide hA it z t) (fun i h ⟨o,e,c,d⟩=>⟨o,_,_,e,c,d,by decide⟩) (fun i H h=>h) (fun i H u _ h=>D6 h) (fun i h H e st=>by
  have e':i=z.cps.size:=e;rw [<- e'];exact st) fun A i s Q E st h=>wpAny_pyIter_striter_wide st h
def Hh (bs:List Bool):(List.range bs.length).all (fun i=>(bs[i]?).getD true)=bs.all id:=by
 rw [Bool.eq_iff_iff,List.all_eq_true,List.all_eq_true];constructor
 ·intro h b hb;obtain ⟨i,hi,e⟩:=List.getElem_of_mem hb
  have:=h i (List.mem_range.mpr hi)
  rw [List.getElem?_eq_getElem hi,e] at this;exact this
 ·intro h i hi;have hi':=List.mem_range.mp hi;rw [List.getElem?_eq_getElem hi'];exact h _ (List.getElem_mem hi')
section
variable {X:Cx}
def JH (K:PySem.W.Frag) (xs:List V) (H:Hp) (Q:VK):Prop:=match xs with
 | [.ref p]=>∃ bs:List Bool,dZ K H p (bs.map V.bl)/\Q (.bl (bs.all id)) H
 | _=>False
def ll (K:PySem.W.Frag) (hc:X.calm=true) (hK:X.K=K:=by rfl):cx X (.builtin "all") (JH K):=by
 subst hK;intro ag s σ H xs us Q I r h;unfold JH at h;split at h
 case h_2=>exact h.elim
 rename_i p;obtain ⟨bs,hq,q⟩:=h;obtain ⟨u,rfl,rx⟩:=fY r;cases rx;obtain ⟨its,rv,pl,hz⟩:=I.list hq;have hh:X.A.in1.handled=none:=I.ok.hd hc;refine bh I.tk (call_all_walk (wpAny_pyIter_list pl.isList ?_));have hne:p≠s.heap.objs.size:=by
  obtain ⟨o,ho,_⟩:=pl.isList;exact Nat.ne_of_lt (Heap.lt_size ho)
 refine ⟨s.heap.objs.size,[s.heap.objs.size,p],[s.heap.objs.size],its.toArray.size,_,_,fun i=>(bs[i]?).getD true,rfl,Walks.list hh _ p hne its.toArray,⟨⟨_,Heap.get?_push_size _ rfl,rfl,rfl⟩,Heap.IsList.push pl.isList _⟩,?_,?_⟩
 ·intro i v s' Q' E' hv hQ';have hv':its[i]?=some v:=by simpa using hv
  have hi:i < its.length:=(List.getElem?_eq_some_iff.mp hv').1;have hl:=rv.length;rw [List.length_map] at hl;have hb:(bs.map V.bl)[i]?=some (V.bl bs[i]):=by
   rw [List.getElem?_map,List.getElem?_eq_getElem (by omega)];rfl
  obtain ⟨u,hu,ru⟩:=rv.get hb;rw [hv'] at hu;cases hu;cases ru;have hQ2:Q' bs[i] s':=by
   have e:(bs[i]?).getD true=bs[i]:=by rw [List.getElem?_eq_getElem (by omega)];rfl
   rw [<- e];exact hQ'
  exact wpAny_truthy_bool hQ2
 ·intro h' tk hk;have I1:Inv X ag σ H { s with heap:=s.heap.push { cls:=.type "list_iterator",data:=.fields #[.ref p,.int 0 0] } }:=I.kept (t':=s.toks) fun b o e=>Heap.get?_push_of_some _ e;have e1:(List.range its.toArray.size).all (fun i=>(bs[i]?).getD true)=bs.all id:=by
   have hl:=rv.length;rw [List.length_map] at hl;rw [List.size_toArray,<- hl];exact Hh bs
  rw [e1];obtain ⟨f0,f1,f2,f3,f4,f5⟩:=I.fpOk (b:=s.heap.objs.size) (Nat.le_refl _) (I.hok.fresh (Nat.le_refl _));exact fun htk=>⟨.bl (bs.all id),H,I1.turned (fun b o hb e=>hk b o (by simpa using hb) e) f0 f1 f3 f4 f5,rfl,q⟩
end
def PE.imp {X:Cx} {e:Expr} {t t':TE} (h:PE X e t) (i:∀ σ H Q,t' σ H Q->t σ H Q):PE X e t':=fun ag s σ H Q I q=>h ag s σ H Q I (i σ H Q q)
def fA.imp {X:Cx} {f:Value->Value->Sem Value} {r r':R2} (h:fA X f r) (i:∀ x y H Q,r' x y H Q->r x y H Q):fA X f r':=fun ag s σ H x y v u Q I a b q=>h ag s σ H x y v u Q I a b (i x y H Q q)
def Hr.imp {X:Cx} {f:Value->Sem Value} {r r':V->Hp->VK->Prop} (h:Hr X f r) (i:∀ x H Q,r' x H Q->r x H Q):Hr X f r':=fun ag s σ H x v Q I a q=>h ag s σ H x v Q I a (i x H Q q)
def cx.imp {X:Cx} {f:Value} {r r':List V->Hp->VK->Prop} (h:cx X f r) (i:∀ xs H Q,r' xs H Q->r xs H Q):cx X f r':=fun ag s σ H xs us Q I a q=>h ag s σ H xs us Q I a (i xs H Q q)
def zt.imp {X:Cx} {r r':R2} (h:zt X r) (i:∀ x y H Q,r' x y H Q->r x y H Q):zt X r':=fun value slice ag s σ H x y v u Q I rx ry q hs=>h value slice ag s σ H x y v u Q I rx ry (i x y H Q q) hs
def Ad.imp {X:Cx} {r r':V->Option Int->Option Int->Hp->VK->Prop} (h:Ad X r) (i:∀ x l u H Q,r' x l u H Q->r x l u H Q):Ad X r':=fun ag s σ H x v vl vu lo hi sl Q I rx hs pl pu q=>h ag s σ H x v vl vu lo hi sl Q I rx hs pl pu (i x lo hi H Q q)
section
variable {X:Cx} {a b:Expr} {ta tb:TE} {pos:Pos} {rest:List Expr}
def vg (o:Option (Option V)) (H:Hp) (Q:VK):Prop:=match o with
 | some (some v)=>Q v H
 | _=>False
def pI (i:Nat):TE:=fun σ H Q=>vg σ[i]? H Q
def qv (i:Nat) {x:Str} {pos:Pos} (hN:X.N[i]?=some x:=by rfl) (hv:zv X.env.scope x:=by first|exact Or.inl rfl|exact Or.inr (Or.inl rfl)|exact Or.inr (Or.inr rfl)) (hd:(x==("__debug__":Str))=false:=by decide)
  (hcd:(x==("__classdict__":Str))=false:=by decide):PE X (.Name x pos) (pI i):=(Lh hN hv hd hcd).imp fun σ H Q q=>by
 unfold pI vg at q;split at q
 ·rename_i v e;exact ⟨v,e,q⟩
 ·exact q.elim
def RV (tb:TE) (σ:St) (Q:VK):VK:=fun x H1=>match x with
 | .bl c=>if c=true then tb σ H1 Q else Q (.bl false) H1
 | _=>False
def Ps (ta tb:TE):TE:=fun σ H Q=>ta σ H (RV tb σ Q)
def Rh (Q:VK):VK:=fun x H1=>match x with
 | .bl c=>Q (.bl (!c)) H1
 | _=>False
def Qy (ta:TE):TE:=fun σ H Q=>ta σ H (Rh Q)
def KP (ha:PE X a ta) (hb:PE X (.BoolOp .And (b::rest) pos) tb):PE X (.BoolOp .And (a::b::rest) pos) (Ps ta tb):=by
 intro ag s σ H Q I h;refine BoolOp_and (gH (ha ag s σ H _ I h) fun v s1 hh=>qK hh fun x H1 I1 r1 q1=>?_);cases x with
 | bl c =>
  cases r1;refine wpAny_truthy_bool ?_;cases c with
  | true=>exact hb ag s1 σ H1 Q I1 q1
  | false=>exact ⟨.bl false,H1,I1,rfl,q1⟩
 | _=>exact q1.elim
def LB (ha:PE X a ta):PE X (.UnaryOp .Not a pos) (Qy ta):=by
 intro ag s σ H Q I h;refine UnaryOp_ (gH (ha ag s σ H _ I h) fun v s1 hh=>qK hh fun x H1 I1 r1 q1=>?_);cases x with
 | bl c =>
  cases r1;exact not_of (wpAny_truthy_bool ⟨.bl (!c),H1,I1,rfl,q1⟩)
 | _=>exact q1.elim
def Io (Q:Bool->Hp->Prop):VK:=fun x H'=>match x with
 | .bl k=>Q k H'
 | _=>False
def Iy (t:TE):TT:=fun σ H Q=>t σ H (Io Q)
def Gm {op:CmpOp} {r:R2} (ho:fA X (compareOp op) r) (ha:PE X a ta) (hb:PE X b tb) (hm:behindInMarks op b=false):PT X (.Compare a [op] [b] pos) (Iy (wH r ta tb)):=by
 intro ag s σ H Q I h;refine wpAny_isTrue_Compare1 (gH (ha ag s σ H _ I h) fun v s1 hh=>qK hh fun x H1 I1 r1 q1=>gH (hb ag s1 σ H1 _ I1 q1) fun u s2 hh=>qK hh fun y H2 I2 r2 q2 =>
  gH (ho ag s2 σ H2 x y v u _ I2 r1 r2 q2) fun c s3 hh=>qK hh fun z H3 I3 r3 q3=>?_) hm
 cases z with
 | bl k =>
  cases r3;exact wpAny_truthy_bool ⟨H3,I3,q3⟩
 | _=>exact q3.elim
def RP (K:PySem.W.Frag) (Q:Bool->Hp->Prop):VK:=fun x H=>match x with
 | .non=>Q false H
 | .bl b=>Q b H
 | .int i=>Q (i != 0) H
 | .str y=>y.length<=sizeLine/\Q ((y.length:Int) != 0) H
 | .ref p=>((∃ xs,dZ K H p xs/\Q (!xs.isEmpty) H)\/(∃ xs,lG K H p xs/\Q (!xs.isEmpty) H))\/∃ kvs,H p=some (.dK kvs)/\Q (!kvs.isEmpty) H
 | _=>False
def Dh (K:PySem.W.Frag) (ta:TE):TT:=fun σ H Q=>ta σ H (RP K Q)
def Eo (K:PySem.W.Frag) (ha:PE X a ta) (he:∀ la,isTrue a X.env la=(do let v <- la;standAt a.pos;holding [v] (truthy v))) (hK:X.K=K:=by rfl) :
  PT X a (Dh K ta):=by
 subst hK;intro ag s σ H Q I h;refine isTrue_plain (gH (ha ag s σ H _ I h) fun v s1 hh=>qK hh fun x H1 I1 r1 q1=>JM ag s1 σ H1 x v Q I1 r1 ?_) (he _);cases x with
 | non=>exact ⟨_,rfl,q1⟩
 | bl b=>exact ⟨_,rfl,q1⟩
 | int i=>exact ⟨_,rfl,q1⟩
 | str y=>exact ⟨_,⟨q1.1,rfl⟩,q1.2⟩
 | ref p =>
  rcases q1 with (⟨xs,h1,h2⟩|⟨xs,h1,h2⟩)|⟨xs,h1,h2⟩
  ·exact ⟨_,.inl ⟨xs,h1,rfl⟩,h2⟩
  ·exact ⟨_,.inr (.inl ⟨xs,h1,rfl⟩),h2⟩
  ·exact ⟨_,.inr (.inr ⟨xs,h1,rfl⟩),h2⟩
 | _=>exact q1.elim
def KR:R2:=fun x y H Q=>match x,y with
 | .int i,.int j=>Q (.int (i - j)) H
 | _,_=>False
def we:fA X (binaryOp .Sub) KR:=Lx.imp fun x y H Q q=>by
 unfold KR at q;split at q
 ·exact ⟨_,_,rfl,rfl,q⟩
 ·exact q.elim
def JX:R2:=fun x y H Q=>match x,y with
 | .int i,.int j=>FQ i j/\Q (.int (i/j)) H
 | _,_=>False
def kf:fA X (binaryOp .FloorDiv) JX:=GM.imp fun x y H Q q=>by
 unfold JX at q;split at q
 ·exact ⟨_,_,rfl,rfl,q.1,q.2⟩
 ·exact q.elim
def K5:R2:=fun x y H Q=>match x,y with
 | .int i,.int j=>0 < j/\Q (.int (i % j)) H
 | _,_=>False
def eJ:fA X (binaryOp .Mod) K5:=L3.imp fun x y H Q q=>by
 unfold K5 at q;split at q
 ·exact ⟨_,_,rfl,rfl,q.1,q.2⟩
 ·exact q.elim
def Kp:R2:=fun x y H Q=>match x,y with
 | .int i,.int j=>Fs i j/\Q (.int (i ^ j.toNat)) H
 | _,_=>False
def DA:fA X (binaryOp .Pow) Kp:=Km.imp fun x y H Q q=>by
 unfold Kp at q;split at q
 ·exact ⟨_,_,rfl,rfl,q.1,q.2⟩
 ·exact q.elim
def JJ (x:V) (H:Hp) (Q:VK):Prop:=match x with
 | .int i=>Q (.int (-i)) H
 | _=>False
def JV:Hr X (unaryOp .USub) JJ:=JL.imp fun x H Q q=>by
 unfold JJ at q;split at q
 ·exact ⟨_,rfl,q⟩
 ·exact q.elim
def C4:fA X (compareOp .LtE) (fun x y H Q=>∃ i j,x=.str i/\y=.str j/\Q (.bl (!decide (j.cps.toList < i.cps.toList))) H):=by
 intro ag s σ H x y v u Q I rx ry h;obtain ⟨i,j,rfl,rfl,q⟩:=h;obtain ⟨t,rfl⟩:=rx;obtain ⟨t',rfl⟩:=ry;exact P.le_str (aQ I q rfl)
def CJ:fA X (compareOp .GtE) (fun x y H Q=>∃ i j,x=.str i/\y=.str j/\Q (.bl (!decide (i.cps.toList < j.cps.toList))) H):=by
 intro ag s σ H x y v u Q I rx ry h;obtain ⟨i,j,rfl,rfl,q⟩:=h;obtain ⟨t,rfl⟩:=rx;obtain ⟨t',rfl⟩:=ry;exact P.ge_str (aQ I q rfl)
def Cv:fA X (compareOp .Gt) (fun x y H Q=>∃ i j,x=.str i/\y=.str j/\Q (.bl (decide (j.cps.toList < i.cps.toList))) H):=by
 intro ag s σ H x y v u Q I rx ry h;obtain ⟨i,j,rfl,rfl,q⟩:=h;obtain ⟨t,rfl⟩:=rx;obtain ⟨t',rfl⟩:=ry;exact P.gt_str (aQ I q rfl)
def Rk:R2:=fun x y H Q=>match x,y with
 | .int i,.int j=>Q (.bl (decide (i < j))) H
 | .str i,.str j=>Q (.bl (decide (i.cps.toList < j.cps.toList))) H
 | _,_=>False
def R7:R2:=fun x y H Q=>match x,y with
 | .int i,.int j=>Q (.bl (decide (i<=j))) H
 | .str i,.str j=>Q (.bl (!decide (j.cps.toList < i.cps.toList))) H
 | _,_=>False
def R3:R2:=fun x y H Q=>match x,y with
 | .int i,.int j=>Q (.bl (decide (j < i))) H
 | .str i,.str j=>Q (.bl (decide (j.cps.toList < i.cps.toList))) H
 | _,_=>False
def Rf:R2:=fun x y H Q=>match x,y with
 | .int i,.int j=>Q (.bl (decide (j<=i))) H
 | .str i,.str j=>Q (.bl (!decide (i.cps.toList < j.cps.toList))) H
 | _,_=>False
def Kb:fA X (compareOp .Lt) Rk:=(P0.or C6).imp fun x y H Q q=>by
 unfold Rk at q;split at q
 ·exact .inl ⟨_,_,rfl,rfl,q⟩
 ·exact .inr ⟨_,_,rfl,rfl,q⟩
 ·exact q.elim
def L9:fA X (compareOp .LtE) R7:=(N1.or C4).imp fun x y H Q q=>by
 unfold R7 at q;split at q
 ·exact .inl ⟨_,_,rfl,rfl,q⟩
 ·exact .inr ⟨_,_,rfl,rfl,q⟩
 ·exact q.elim
def P9:fA X (compareOp .Gt) R3:=(NA.or Cv).imp fun x y H Q q=>by
 unfold R3 at q;split at q
 ·exact .inl ⟨_,_,rfl,rfl,q⟩
 ·exact .inr ⟨_,_,rfl,rfl,q⟩
 ·exact q.elim
def Q8:fA X (compareOp .GtE) Rf:=(Mv.or CJ).imp fun x y H Q q=>by
 unfold Rf at q;split at q
 ·exact .inl ⟨_,_,rfl,rfl,q⟩
 ·exact .inr ⟨_,_,rfl,rfl,q⟩
 ·exact q.elim
def EB:fA X (compareOp .Is) (fun x y H Q=>∃ j,y=.bl j/\Q (.bl (decide (x=.bl j))) H):=by
 intro ag s σ H x y v u Q I rx ry h;obtain ⟨j,rfl,q⟩:=h;cases ry;cases x with
 | bl i=>cases rx;exact wpAny_is_plain rfl (aQ I q (by cases i <;> cases j <;> rfl))
 | non=>cases rx;exact wpAny_is_plain rfl (aQ I q (by simp))
 | int i=>obtain ⟨t,rfl⟩:=rx;exact wpAny_is_plain rfl (aQ I q (by simp))
 | str i=>obtain ⟨t,rfl⟩:=rx;exact wpAny_is_plain rfl (aQ I q (by simp))
 | byt i=>obtain ⟨t,rfl⟩:=rx;exact wpAny_is_plain rfl (aQ I q (by simp))
 | flt i=>obtain ⟨t,rfl⟩:=rx;exact wpAny_is_plain rfl (aQ I q (by simp))
 | ref i=>cases rx;exact wpAny_is_plain rfl (aQ I q (by simp))
 | ty i=>cases rx;exact wpAny_is_plain rfl (aQ I q (by simp))
def xR:fA X (compareOp .IsNot) (fun x y H Q=>∃ j,y=.bl j/\Q (.bl (!decide (x=.bl j))) H):=by
 intro ag s σ H x y v u Q I rx ry h;obtain ⟨j,rfl,q⟩:=h;cases ry;cases x with
 | bl i=>cases rx;exact wpAny_isNot_plain rfl (aQ I q (by cases i <;> cases j <;> rfl))
 | non=>cases rx;exact wpAny_isNot_plain rfl (aQ I q (by simp))
 | int i=>obtain ⟨t,rfl⟩:=rx;exact wpAny_isNot_plain rfl (aQ I q (by simp))
 | str i=>obtain ⟨t,rfl⟩:=rx;exact wpAny_isNot_plain rfl (aQ I q (by simp))
 | byt i=>obtain ⟨t,rfl⟩:=rx;exact wpAny_isNot_plain rfl (aQ I q (by simp))
 | flt i=>obtain ⟨t,rfl⟩:=rx;exact wpAny_isNot_plain rfl (aQ I q (by simp))
 | ref i=>cases rx;exact wpAny_isNot_plain rfl (aQ I q (by simp))
 | ty i=>cases rx;exact wpAny_isNot_plain rfl (aQ I q (by simp))
def Ba:V->V->Bool
 | .non,.non=>true
 | .bl i,.bl j=>i==j
 | _,_=>false
def Rx:R2:=fun x y H Q=>match y with
 | .non=>Q (.bl (Ba x .non)) H
 | .bl j=>Q (.bl (Ba x (.bl j))) H
 | _=>False
def zz:R2:=fun x y H Q=>match y with
 | .non=>Q (.bl (!Ba x .non)) H
 | .bl j=>Q (.bl (!Ba x (.bl j))) H
 | _=>False
def Bu (x:V):decide (x=.non)=Ba x .non:=by cases x <;> simp [Ba]
def EM (x:V) (j:Bool):decide (x=.bl j)=Ba x (.bl j):=by
 cases x with
 | bl i=>cases i <;> cases j <;> rfl
 | _=>simp [Ba]
def RZ:fA X (compareOp .Is) Rx:=(LC.or EB).imp fun x y H Q q=>by
 unfold Rx at q;split at q
 ·exact .inl ⟨rfl,by rw [Bu];exact q⟩
 ·exact .inr ⟨_,rfl,by rw [EM];exact q⟩
 ·exact q.elim
def K0:fA X (compareOp .IsNot) zz:=(GA.or xR).imp fun x y H Q q=>by
 unfold zz at q;split at q
 ·exact .inl ⟨rfl,by rw [Bu];exact q⟩
 ·exact .inr ⟨_,rfl,by rw [EM];exact q⟩
 ·exact q.elim
def KF (K:PySem.W.Frag):R2:=fun x y H Q=>match x,y with
 | .str z,.int i=>∃ c,z.length<=sizeLine/\atI z.cps.toList i=some c/\Q (.str ⟨#[c]⟩) H
 | .ref p,.int i=>∃ xs v,(dZ K H p xs\/lG K H p xs)/\atI xs i=some v/\Q v H
 | _,_=>False
def RX:zt X (KF X.K):=J7.imp fun x y H Q q=>by
 unfold KF at q;split at q
 ·obtain ⟨c,h1,h2,h3⟩:=q;exact .inr (.inr ⟨_,_,c,rfl,rfl,h1,h2,h3⟩)
 ·obtain ⟨xs,v,h1|h1,h2,h3⟩:=q
  ·exact .inl ⟨_,xs,_,v,rfl,rfl,h1,h2,h3⟩
  ·exact .inr (.inl ⟨_,xs,_,v,rfl,rfl,h1,h2,h3⟩)
 ·exact q.elim
def dU (K:PySem.W.Frag) (hK:X.K=K:=by rfl):zt X (KF K):=by
 subst hK;exact RX
def GT (K:PySem.W.Frag) (xs:List V) (H:Hp) (Q:VK):Prop:=match xs with
 | [.str y]=>y.length<=sizeLine/\Q (.int y.length) H
 | [.ref p]=>∃ ys,(dZ K H p ys\/lG K H p ys)/\Q (.int ys.length) H
 | _=>False
def QK:cx X (.builtin "len") (GT X.K):=(wd.or wt).imp fun xs H Q q=>by
 unfold GT at q;split at q
 ·exact .inl ⟨_,rfl,q.1,q.2⟩
 ·obtain ⟨ys,h1,h2⟩:=q;exact .inr ⟨_,ys,rfl,h1,h2⟩
 ·exact q.elim
def fI (K:PySem.W.Frag) (hK:X.K=K:=by rfl):cx X (.builtin "len") (GT K):=by
 subst hK;exact QK
def J3 (xs:List V) (H:Hp) (Q:VK):Prop:=match xs with
 | [.int i]=>Q (.int (if i < 0 then -i else i)) H
 | _=>False
def Ro:cx X (.builtin "abs") J3:=Fj.imp fun xs H Q q=>by
 unfold J3 at q;split at q
 ·exact ⟨_,rfl,q⟩
 ·exact q.elim
end
def a8:Expr->Bool
 | .Starred ..=>false
 | _=>true
def eh {e:Expr} {es:List Expr} {env:Env} (h:a8 e=true):starEach (e::es) env=(false,eval e env)::starEach es env:=by
 cases e <;> first|rfl|cases h
def iv {env:Env} {pos:Pos}:∀ {es:List Expr},es.all a8=true->(backTo pos (starEach es env)).any (·.1)=false
 | [],_=>rfl
 | e::es,h=>by
  rw [List.all_cons,Bool.and_eq_true] at h;rw [eh h.1];have ih:=iv (env:=env) (pos:=pos) h.2;show (false||(backTo pos (starEach es env)).any (·.1))=false;rw [ih];rfl
def Ho {X:Cx} {e:Expr} {es:List Expr} {te:TE} {t:TA} (ha:PE X e te) (hr:PA X es t) (hn:a8 e=true:=by rfl):PA X (e::es) (tF te t):=HP ha hr (eh hn)
section
variable {X:Cx} {x:Str} {p pos:Pos} {e:Expr} {es:List Expr} {t:TA} {id T:String} {r:List V->Hp->VK->Prop}
def Rp (hc:cx X (.builtin id) r) (hm:X.mg x=none) (hv:bootBuiltins x=some (.builtin id)) (ha:PA X (e::es) t) (hg:Gl X x:=by rfl) (h1:a8 e=true:=by rfl) (h2:es.all a8=true:=by rfl) (hn:x≠"__name__":=by decide) (hdb:(x==("__debug__":Str))=false:=by decide) :
  PE X (.Call (.Name x p) (e::es) [] pos) (Ma r t):=DR hc hg hm hv ha hn hdb (eh h1) (iv h2)
def R6 (hc:cx X (.type T) r) (hm:X.mg x=none) (hv:bootBuiltins x=some (.type T)) (ha:PA X (e::es) t) (hg:Gl X x:=by rfl) (h1:a8 e=true:=by rfl) (h2:es.all a8=true:=by rfl) (hn:x≠"__name__":=by decide) (hdb:(x==("__debug__":Str))=false:=by decide) :
  PE X (.Call (.Name x p) (e::es) [] pos) (Ma r t):=Ct hc hg hm hv ha hn hdb (eh h1) (iv h2)
end
def bA:bootBuiltins "len"=some (.builtin "len"):=by decide +kernel
def rD:bootBuiltins "all"=some (.builtin "all"):=by decide +kernel
def LD:bootBuiltins "abs"=some (.builtin "abs"):=by decide +kernel
def aW:bootBuiltins "isinstance"=some (.builtin "isinstance"):=by decide +kernel
def gQ:bootBuiltins "str"=some (.type "str"):=by decide +kernel
def qL:bootBuiltins "int"=some (.type "int"):=by decide +kernel
def wg:bootBuiltins "bool"=some (.type "bool"):=by decide +kernel
def sR:bootBuiltins "list"=some (.type "list"):=by decide +kernel
def m9:bootBuiltins "tuple"=some (.type "tuple"):=by decide +kernel
def xx:bootBuiltins "enumerate"=some (.type "enumerate"):=by decide +kernel
def Jt:bootBuiltins "set"=some (.type "set"):=by decide +kernel
def Qe {X:Cx} {x:Str} {n:String} {pos:Pos} (hm:X.mg x=none) (hv:bootBuiltins x=some (.type n)) (hg:Gl X x:=by rfl) (hn:x≠"__name__":=by decide) (hd:(x==("__debug__":Str))=false:=by decide):PE X (.Name x pos) (tC (.ty n)) :=
 Gr (v:=.ty n) hg hm hv rfl hn hd
def bV (T C:String):Bool:=T==C||(T=="bool"&&C=="int")
def eY (C:String):Bool:=C=="str"||C=="int"||C=="bool"||C=="list"||C=="tuple"||C=="dict"
theorem sK:bV "NoneType" "str"=false:=by decide +kernel
theorem sy:bV "NoneType" "int"=false:=by decide +kernel
theorem rh:bV "NoneType" "bool"=false:=by decide +kernel
theorem qo:bV "NoneType" "tuple"=false:=by decide +kernel
theorem ze:bV "bool" "str"=false:=by decide +kernel
theorem yb:bV "bool" "int"=true:=by decide +kernel
theorem xl:bV "bool" "bool"=true:=by decide +kernel
theorem vf:bV "bool" "tuple"=false:=by decide +kernel
theorem z9:bV "int" "str"=false:=by decide +kernel
theorem zC:bV "int" "int"=true:=by decide +kernel
theorem yr:bV "int" "bool"=false:=by decide +kernel
theorem w8:bV "int" "tuple"=false:=by decide +kernel
theorem Ah:bV "str" "str"=true:=by decide +kernel
theorem zE:bV "str" "int"=false:=by decide +kernel
theorem yW:bV "str" "bool"=false:=by decide +kernel
theorem wR:bV "str" "tuple"=false:=by decide +kernel
theorem yc:bV "list" "str"=false:=by decide +kernel
theorem za:bV "list" "int"=false:=by decide +kernel
theorem wM:bV "list" "bool"=false:=by decide +kernel
theorem uR:bV "list" "tuple"=false:=by decide +kernel
theorem xn:bV "tuple" "str"=false:=by decide +kernel
theorem xo:bV "tuple" "int"=false:=by decide +kernel
theorem u4:bV "tuple" "bool"=false:=by decide +kernel
theorem tO:bV "tuple" "tuple"=true:=by decide +kernel
theorem y2:bV "dict" "str"=false:=by decide +kernel
theorem ya:bV "dict" "int"=false:=by decide +kernel
theorem xk:bV "dict" "bool"=false:=by decide +kernel
theorem u7:bV "dict" "tuple"=false:=by decide +kernel
theorem KT:eY "str"=true:=by decide +kernel
theorem KQ:eY "int"=true:=by decide +kernel
theorem HF:eY "bool"=true:=by decide +kernel
theorem Fi:eY "tuple"=true:=by decide +kernel
def l5 {K:PySem.W.Frag} {T C:String} (hT:T="NoneType"\/T="bool"\/T="int"\/T="str"\/T="list"\/T="tuple"\/T="dict") (hC:eY C=true):PySem.W.kitOne K (.type T) (.type C)=some (bV T C):=by
 have hC':C="str"\/C="int"\/C="bool"\/C="list"\/C="tuple"\/C="dict":=by
  unfold eY at hC;simp only [Bool.or_eq_true,beq_iff_eq] at hC;rcases hC with ((((h|h)|h)|h)|h)|h <;> simp [h]
 rcases hT with h|h|h|h|h|h|h <;> subst h <;> rcases hC' with h|h|h|h|h|h <;> subst h <;> first|rfl|decide +kernel
section
variable {X:Cx}
def QF (Q:Option Int->Hp->Prop):VK:=fun x H1=>match x with
 | .int i=>Q (some i) H1
 | _=>False
def Il (t:TE):TO:=fun σ H Q=>t σ H (QF Q)
def Gs {e:Expr} {te:TE} (h:PE X e te):PO X (some e) (Il te):=by
 intro ag s σ H Q I hw;rw [evalPart_some];refine gH (h ag s σ H _ I hw) fun u s1 hh=>qK hh fun x H1 I1 r1 q1=>?_;cases x with
 | int i =>
  obtain ⟨t,rfl⟩:=r1;exact ⟨some i,H1,I1,.int i t,q1⟩
 | _=>exact q1.elim
def du (z:Str) (lo hi:Option Int):Str:=⟨((z.cps.toList.drop (HT.sIx z.length 0 lo)).take (HT.sIx z.length z.length hi - HT.sIx z.length 0 lo)).toArray⟩
def Jd (v:Int) (n d:Nat):max 0 (min (if v < 0 then v+(n:Int) else v) (n:Int))=((HT.sIx n d (some v):Nat):Int):=by
 show _=(((if v < 0 then (v+(n:Int)).toNat else min v.toNat n):Nat):Int);by_cases hv:v < 0
 ·simp only [if_pos hv];omega
 ·simp only [if_neg hv];omega
def loS (lo:Option Int) (n:Nat):(match lo with|none=>(0:Int)|some i=>max 0 (min (if i < 0 then i+(n:Int) else i) (n:Int)))=((HT.sIx n 0 lo:Nat):Int):=by
 cases lo with
 | none=>rfl
 | some v=>exact Jd v n 0
def hiS (hi:Option Int) (n:Nat):(match hi with|none=>(n:Int)|some i=>max 0 (min (if i < 0 then i+(n:Int) else i) (n:Int)))=((HT.sIx n n hi:Nat):Int):=by
 cases hi with
 | none=>rfl
 | some v=>exact Jd v n n
def PY (lo hi:Option Int) (n:Nat):Builtin.Str.strSliceIndices lo hi 1 n=sliceRange ((HT.sIx n 0 lo:Nat):Int) ((HT.sIx n n hi:Nat):Int) 1:=by
 have h1:((1:Int) > 0)=True:=by simp
 simp only [Builtin.Str.strSliceIndices,h1,if_true];rw [<- loS,<- hiS];cases lo <;> cases hi <;> rfl
def Rv (a b n:Nat) (ha:a<=n) (hb:b<=n):Builtin.Str.strSliceIndices (some (a:Int)) (some (b:Int)) 1 n=sliceRange (a:Int) (b:Int) 1:=by
 rw [PY,HT.dJ,HT.dJ,Nat.min_eq_left ha,Nat.min_eq_left hb]
def Ak (z:Str) (lo hi:Option Int):Txt.slice z lo hi=du z lo hi:=by
 have ha:=HT.AC z.length 0 (Nat.zero_le _) lo;have hb:=HT.AC z.length z.length (Nat.le_refl _) hi;unfold Txt.slice;rw [PY,<- Rv _ _ _ ha hb];unfold du;generalize HT.sIx z.length 0 lo=a at ha ⊢;generalize HT.sIx z.length z.length hi=b at hb ⊢;by_cases hab:a<=b
 ·exact StrLaws.sliceText_nat z hab hb
 ·have e:Builtin.Str.strSliceIndices (some (a:Int)) (some (b:Int)) 1 z.length=[]:=by
   have h1:((1:Int) > 0)=True:=by simp
   have n1:¬ ((a:Int) < 0):=by omega
   have n2:¬ ((b:Int) < 0):=by omega
   have e1:max (0:Int) (min (a:Int) (z.length:Int))=a:=by omega
   have e2:max (0:Int) (min (b:Int) (z.length:Int))=b:=by omega
   simp only [Builtin.Str.strSliceIndices,sliceRange,h1,if_true,if_neg n1,if_neg n2,e1,e2];rw [if_neg (by omega)];rfl
  have e0:b - a=0:=by omega
  rw [e,e0,List.take_zero];split
  ·rename_i h;have hz:z.length=0:=by
    have h':0=z.length:=by simpa using h
    exact h'.symm
   apply Str.ext'
   show z.cps=#[];exact Array.eq_empty_of_size_eq_zero hz
  ·rfl
def HS (z:Str) (lo hi:Option Int):(du z lo hi).length<=z.length:=by
 unfold du;show (Array.size _)<=_;rw [List.size_toArray,List.length_take,List.length_drop];simp [Str.length];omega
def KH:Ad X (fun x lo hi H Q=>∃ z,x=.str z/\z.length<=sizeLine/\Q (.str (du z lo hi)) H):=by
 intro ag s σ H x v vl vu lo hi sl Q I rx hs pl pu h;obtain ⟨z,rfl,hz,q⟩:=h;obtain ⟨t,rfl⟩:=rx;have fin:∀ (l u:Option (Int×Tok)),l.map (·.1)=lo->u.map (·.1)=hi->s.heap.IsSlice sl l u none->wpAny (model X.prog X.w) X.A (getItem (.str z t) (.ref sl)) (EP X ag σ Q) X.xe s:=fun l u e1 e2 hs'=>by
  refine bh I.tk (wpAny_getItem_str_slice hs' rfl ?_);subst e1 e2;refine post_val_or_str ?_;have e:(if (((none:Option (Int×Tok)).map (·.1)).getD 1==1&&(slicePicked z l u none).length==z.length)=true then z else ⟨((slicePicked z l u none).filterMap (z.cps[·]?)).toArray⟩)=Txt.slice z (l.map (·.1)) (u.map (·.1)):=rfl;rw [e,Ak];exact ⟨Nat.le_trans (HS _ _ _) hz,fun t' k htk=>⟨.str _,H,I.tok _,⟨t',rfl⟩,q⟩⟩
 refine ⟨"str",_,F.slot_str_getitem.lookup,typeIs_str s z t,?_⟩;cases pl with
 | none =>
  cases pu with
  | none=>exact fin none none rfl rfl hs
  | int j tj=>exact fin none (some (j,tj)) rfl rfl hs
 | int i ti =>
  cases pu with
  | none=>exact fin (some (i,ti)) none rfl rfl hs
  | int j tj=>exact fin (some (i,ti)) (some (j,tj)) rfl rfl hs
def Q2 (K:PySem.W.Frag) (x:V) (lo hi:Option Int) (H:Hp) (Q:VK):Prop:=match x with
 | .str z=>z.length<=sizeLine/\Q (.str (du z lo hi)) H
 | .ref a=>(∃ xs,dZ K H a xs/\∀ p,H p=none->Q (.ref p) (cQ H p (.lst (uY xs lo hi)))) \/
  ∃ xs,lG K H a xs/\¬ (HT.sIx xs.length 0 lo=0/\HT.sIx xs.length xs.length hi=xs.length)/\∀ p,H p=none->Q (.ref p) (cQ H p (.tup (uY xs lo hi)))
 | _=>False
def RS:Ad X (Q2 X.K):=(KH.or (Gx.or JK)).imp fun x lo hi H Q q=>by
 unfold Q2 at q;split at q
 ·exact .inl ⟨_,rfl,q.1,q.2⟩
 ·rcases q with ⟨xs,h1,h2⟩|⟨xs,h1,h2,h3⟩
  ·exact .inr (.inl ⟨_,xs,rfl,h1,h2⟩)
  ·exact .inr (.inr ⟨_,xs,rfl,h1,h2,h3⟩)
 ·exact q.elim
def xN (K:PySem.W.Frag) (hK:X.K=K:=by rfl):Ad X (Q2 K):=by
 subst hK;exact RS
variable {tg:Expr}
def kIt (K:PySem.W.Frag) (R:It->Hp->Prop):VK:=fun x H1=>match x with
 | .str z=>R (L7 z) H1
 | .ref a=>((∃ xs,dZ K H1 a xs)/\R (QU K a) H1)\/((∃ xs,lG K H1 a xs)/\R (RA K a) H1)
 | _=>False
def Q1 (K:PySem.W.Frag) (tl:TE):TI:=fun σ H R=>tl σ H (kIt K R)
def Ly (K:PySem.W.Frag) {l:Expr} {tl:TE} (hl:PE X l tl) (hK:X.K=K:=by rfl):PI X tg l (Q1 K tl):=by
 subst hK;intro ag s σ H R I h;refine gH (hl ag s σ H _ I h) fun v s1 hh=>qK hh fun x H1 I1 r1 q1=>?_;cases x with
 | str z =>
  obtain ⟨t,rfl⟩:=r1;have fp1:∀ b∈[s1.heap.objs.size],kh X ag H1 b:=fun b hb=>by
   have e:b=s1.heap.objs.size:=by simpa using hb
   subst e;exact I1.fpOk (Nat.le_refl _) (I1.hok.fresh (Nat.le_refl _))
  cases ha:z.cps.all (· < 128)
  ·refine wpAny_pyIter_wide ha ?_;exact ⟨s1.heap.objs.size,[s1.heap.objs.size],_,_,H1,rfl,I1.kept (t':=s1.toks) fun b o e=>Heap.get?_push_of_some _ e,CO _ z t,⟨_,Heap.get?_push_size _ rfl,rfl,rfl⟩,fp1,q1⟩
  ·refine wpAny_pyIter_ascii ha ?_;exact ⟨s1.heap.objs.size,[s1.heap.objs.size],_,_,H1,rfl,I1.kept (t':=s1.toks) fun b o e=>Heap.get?_push_of_some _ e,AX _ z t,⟨_,Heap.get?_push_size _ rfl,rfl,rfl⟩,fp1,q1⟩
 | ref a =>
  cases r1;have fp1:∀ b∈[s1.heap.objs.size],kh X ag H1 b:=fun b hb=>by
   have e:b=s1.heap.objs.size:=by simpa using hb
   subst e;exact I1.fpOk (Nat.le_refl _) (I1.hok.fresh (Nat.le_refl _))
  rcases q1 with ⟨⟨xs,hq⟩,q⟩|⟨⟨xs,hq⟩,q⟩
  ·obtain ⟨its,rv,p,hz⟩:=I1.list hq;refine wpAny_pyIter_list p.isList ?_;exact ⟨s1.heap.objs.size,[s1.heap.objs.size],_,_,H1,rfl,I1.kept (t':=s1.toks) fun b o e=>Heap.get?_push_of_some _ e,B7 a _,⟨_,Heap.get?_push_size _ rfl,rfl,rfl⟩,fp1,q⟩
  ·obtain ⟨its,rv,p,hz⟩:=I1.tuple hq;refine wpAny_pyIter_tuple (show s1.heap.IsTuple a its.toArray from p) ?_;exact ⟨s1.heap.objs.size,[s1.heap.objs.size],_,_,H1,rfl,I1.kept (t':=s1.toks) fun b o e=>Heap.get?_push_of_some _ e,AJ a _,⟨_,Heap.get?_push_size _ rfl,rfl,rfl⟩,fp1,q⟩
 | _=>exact q1.elim
def Js (R:It->Hp->Prop):List V->Hp->Prop:=fun vs H1=>match vs with
 | [.int j]=>(-(2 ^ 62)<=j/\j < 2 ^ 62)/\R (QZ 0 j.toNat) H1
 | _=>False
def Jp (ta:TA):TI:=fun σ H R=>ta σ H (Js R)
def CF {a:Expr} {ta:TA} {p pos:Pos} (hg:Gl X "range") (hm:X.mg "range"=none) (ha:PA X [a] ta) (hs:starEach [a] X.env=[(false,eval a X.env)]:=by rfl):PI X tg (.Call (.Name "range" p) [a] [] pos) (Jp ta):=by
 intro ag s σ H R I h;refine Call_ (nv I hg hm boot_range (PyProof.Rows.callWith_type1 (gH (ha pos ag s σ H _ I h) fun us s1 hh=>qK hh fun vs H1 I1 r1 q1=>?_) hs rfl));unfold Js at q1;split at q1
 ·obtain ⟨⟨q2,q3⟩,q⟩:=q1;cases r1 with
  | cons r rr =>
   cases rr;obtain ⟨t,rfl⟩:=r;exact call_range_1 (Ep I1 (by omega) (by omega) q2 q3 (by simpa using q))
 ·exact q1.elim
def Rl (r:Str->List V->Hp->VK->Prop) (z:Str) (Q:VK):List V->Hp->Prop:=fun xs H2=>r z xs H2 Q
def kSM (r:Str->List V->Hp->VK->Prop) (t:TA) (σ:St) (Q:VK):VK:=fun x H1=>match x with
 | .str z=>t σ H1 (Rl r z Q)
 | _=>False
def Sr (r:Str->List V->Hp->VK->Prop) (to:TE) (t:TA):TE:=fun σ H Q=>to σ H (kSM r t σ Q)
def DU (X:Cx) (id:String) (r:Str->List V->Hp->VK->Prop):Prop :=
 ∀ (ag:List (Addr×Obj)) (s:Shared) (σ:St) (H:Hp) (z:Str) (t:Tok) (xs:List V) (us:List Value) (Q:VK),Inv X ag σ H s->bK xs us->r z xs H Q ->
  wpAny (model X.prog X.w) X.A (call (.builtin id) (.str z t::us)) (EP X ag σ Q) X.xe s
def N9 {o e:Expr} {es:List Expr} {to:TE} {t:TA} {name:Str} {apos cpos:Pos} {id:String} {r:Str->List V->Hp->VK->Prop} (slot:Slot "str" name id) (hty:typeOf (.builtin id)=pure (.type "method_descriptor")) (hm:DU X id r) (ho:PE X o to) (ha:PA X (e::es) t)
  (hbase:attributeBase o name X.env (eval o X.env)=eval o X.env:=by rfl)
  (hfew:((backTo cpos (starEach (e::es) X.env)).all (fun x=>!x.1)&&(backToKw cpos (keywordEach [] X.env)).all (fun x=>x.1.isSome)
   && decide ((e::es).length+([]:List Keyword).length+(if ([]:List Keyword).isEmpty then 0 else 1) < 30))=true:=by rfl)
  (hline:(apos.endLine==cpos.line)=true:=by rfl) (hs:starEach (e::es) X.env=(false,eval e X.env)::starEach es X.env:=by rfl) (hplain:(backTo cpos (starEach es X.env)).any (·.1)=false:=by rfl) :
  PE X (.Call (.Attribute o name apos) (e::es) [] cpos) (Sr r to t):=by
 intro ag s σ H Q I h;refine wpAny_Call_method_late hbase hfew hline rfl (gH (ho ag s σ H _ I h) fun v s1 hh=>qK hh fun x H1 I1 r1 q1=>?_);cases x with
 | str z =>
  obtain ⟨tk,rfl⟩:=r1;refine ⟨"str",id,PySem.F.plainAttrs_str,slot,hty,typeIs_str s1 z tk,(fun _ e=>nomatch e),?_⟩
  have hA:=ha cpos ag s1 σ H1 _ I1 q1;rw [hs] at hA ⊢;refine Calls.callWith_builtin (by show (false||(backTo cpos (starEach es X.env)).any (·.1))=false;rw [hplain] <;> rfl) (Calls.evalArgs_plain ?_);exact gH hA fun us s2 hh=>qK hh fun vs H2 I2 r2 q2=>hm ag s2 σ H2 z tk vs us Q I2 r2 q2
 | _=>exact q1.elim
def D3 (K:PySem.W.Frag) (z:Str) (xs:List V) (H:Hp) (Q:VK):Prop:=match xs with
 | [.ref p]=>∃ ys:List Str,dZ K H p (ys.map V.str)/\(ys.map (·.length)).sum+ys.length*z.length<=16777216/\Q (.str (Txt.join z ys)) H
 | _=>False
def l4:∀ {ys:List Str} {us:List Value},bK (ys.map V.str) us->StrsAre us ys
 | [],us,r=>by cases r;exact .nil
 | y::ys,us,r=>by
  cases r with
  | cons r rr =>
   obtain ⟨t,rfl⟩:=r;exact .cons y t (l4 rr)
def kv (K:PySem.W.Frag) (hK:X.K=K:=by rfl):DU X "str.join" (D3 K):=by
 subst hK;intro ag s σ H z t xs us Q I r h;unfold D3 at h;split at h
 ·obtain ⟨ys,hq,hz,q⟩:=h;obtain ⟨u,rfl,rx⟩:=fY r;cases rx;obtain ⟨its,rv,p,hz'⟩:=I.list hq;exact bh I.tk (join_list p.isList (by simpa using l4 rv) hz fun t' k htk=>⟨.str (Txt.join z ys),H,I.tok _,⟨t',rfl⟩,q⟩)
 ·exact h.elim
def Gu (f:Str->Str->V) (z:Str) (xs:List V) (H:Hp) (Q:VK):Prop:=match xs with
 | [.str y]=>Q (f z y) H
 | _=>False
def gY:DU X "str.startswith" (Gu fun x y=>.bl (Txt.startswith x y)):=by
 intro ag s σ H z t xs us Q I r h;unfold Gu at h;split at h
 ·obtain ⟨u,rfl,t',rfl⟩:=fY r;exact SC.startswith ⟨.bl _,H,I,rfl,h⟩
 ·exact h.elim
def se:DU X "str.endswith" (Gu fun x y=>.bl (Txt.endswith x y)):=by
 intro ag s σ H z t xs us Q I r h;unfold Gu at h;split at h
 ·obtain ⟨u,rfl,t',rfl⟩:=fY r;exact SC.endswith ⟨.bl _,H,I,rfl,h⟩
 ·exact h.elim
end
structure Def (K:PySem.W.Frag) (mg:Str->Option Value) (x:Str) (st:Stmt) (ps:List Str) (f:Addr) (fd:FuncData):Prop where
 F:Fun K x x st f fd
 b:zl K fd ps []
 m:mg x=some (.ref f)
section
variable {X:Cx} {x:Str} {st:Stmt} {ps:List Str} {f:Addr} {fd:FuncData} {j k:Nat} {sp:Sp} {p pos:Pos} {e:Expr} {es:List Expr} {t:TA}
def Jl (sp:Sp) (t:TA):TE:=fun σ H Q=>t σ H fun vs H1=>sp vs H1 Q E0
def pc (D:Def X.K X.mg x st ps f fd) (G:FnOk X.prog X.w X.K X.mg X.base eX j f fd ps sp) (hr:Room k X.A) (ha:PA X (e::es) t) (hj:j<=k:=by decide) (hg:Gl X x:=by rfl) (hdb:(x==("__debug__":Str))=false:=by decide)
  (h1:a8 e=true:=by rfl) (h2:es.all a8=true:=by rfl):PE X (.Call (.Name x p) (e::es) [] pos) (Jl sp t):=by
 have he:starEach (e::es) X.env=(false,eval e X.env)::starEach es X.env:=eh h1;have hpl:(backTo pos (starEach es X.env)).any (·.1)=false:=iv h2;intro ag s σ H Q I h;refine wpAny_Call_Name_kw (BG I hg D.m ?_ hdb);refine PySem.W.callWith_K (h₀:=X.base) I.ok.mod.kin D.F.kp (gH (ha pos ag s σ H _ I h) fun us s1 hh=>qK hh fun vs H1 I1 r q=>⟨I1.kIn,?_⟩) he hpl;exact K6 (dvs:=[]) G (hr.mono hj) D.b .nil yI I1 r (by rw [List.append_nil];exact q)
end
def aU {H:Hp} {p:Addr} (h:H p=none) (o:HO):ax H (cQ H p o):=fun b u q=>by rw [bf (bP q h)];exact q
def ax.seqT {K:PySem.W.Frag} {H H':Hp} {a:Addr} {xs:List V} (e:ax H H') (h:lG K H a xs):lG K H' a xs:=by
 rcases h with (h|⟨o,h⟩)|h
 ·exact .inl (.inl (e _ _ h))
 ·exact .inl (.inr ⟨o,e _ _ h⟩)
 ·exact .inr h
abbrev pA (z:Str):List V:=z.cps.toList.map fun c=>V.str ⟨#[c]⟩
def BL (a b:Str):(a++b).cps.toList=a.cps.toList++b.cps.toList:=by
 show (a.cps++b.cps).toList=_;exact Array.toList_append
def str_len (a:Str):a.length=a.cps.toList.length:=by simp [Str.length]
def II:∀ (sep:Str) (ys:List Str),(Str.join sep ys).cps.toList=((ys.map (fun y:Str=>y.cps.toList)).intersperse sep.cps.toList).flatten
 | _,[]=>rfl
 | _,[x]=>by simp [Str.join]
 | sep,x::y::r=>by
  have ih:=II sep (y::r);show ((x++sep)++Str.join sep (y::r)).cps.toList=_;rw [BL,BL,ih];simp [List.append_assoc]
def lf (sep:Str) (ys:List Str):(Txt.join sep ys).cps.toList=((ys.map (fun y:Str=>y.cps.toList)).intersperse sep.cps.toList).flatten:=by
 show (Builtin.Str.glued sep ys).cps.toList=_;rw [StrLaws.glued_eq_join,II]
section
variable {K:PySem.W.Frag} {σ:St} {H H1 H2:Hp} {Q:VK} {QB R':Bool->Hp->Prop} {ta tb te:TE} {tt uu:TT} {t tr:TA} {x y v:V} {xs vs:List V} {r:R2} {c:Bool} {i j:Int}
def Rs (r:R2) (x:V) (Q:VK):VK:=fun y H2=>r x y H2 Q
def Om (r:R2) (tb:TE) (σ:St) (Q:VK):VK:=fun x H1=>tb σ H1 (Rs r x Q)
variable {z z':Str} {c':Bool} {p:Addr}
end
structure JE (X:Cx) (e:Expr) (t:TE):Prop where
 out:PE X e t
structure JT (X:Cx) (e:Expr) (t:TT):Prop where
 out:PT X e t
structure JW (X:Cx) (e:Expr) (t:TT):Prop where
 out:PW X e t
structure JA (X:Cx) (es:List Expr) (t:TA):Prop where
 out:PA X es t
structure JS (X:Cx) (st:Stmt) (t:TS):Prop where
 out:PS X st t
structure JB (X:Cx) (st:List Stmt) (t:TS):Prop where
 out:zw X st t
structure JG (X:Cx) (e:Expr) (t:TG):Prop where
 out:PG X e t
structure JGs (X:Cx) (es:List Expr) (t:Db):Prop where
 out:NW X es t
structure JI (X:Cx) (tg e:Expr) (t:TI):Prop where
 out:PI X tg e t
structure JO (X:Cx) (e:Option Expr) (t:TO):Prop where
 out:PO X e t
structure JTs (X:Cx) (es:List Expr) (t:TT):Prop where
 out:J6 X es t
section
variable {X:Cx} {a b c e:Expr} {ta tb tc te:TE} {tA tB':TT} {pos:Pos} {rest es:List Expr} {t:TA}
def jv (i:Nat) {x:Str} {pos:Pos} (hN:X.N[i]?=some x:=by rfl) (hv:zv X.env.scope x:=by first|exact Or.inl rfl|exact Or.inr (Or.inl rfl)|exact Or.inr (Or.inr rfl)) (hd:(x==("__debug__":Str))=false:=by decide)
  (hcd:(x==("__classdict__":Str))=false:=by decide):JE X (.Name x pos) (pI i):=⟨qv i hN hv hd hcd⟩
def OS {i j pos}:JE X (.Constant (.int i) j pos) (tC (.int i)):=⟨Lc⟩
def RU {b j pos}:JE X (.Constant (.bool b) j pos) (tC (.bl b)):=⟨OG⟩
def Qd {j pos}:JE X (.Constant .none j pos) (tC .non):=⟨LA⟩
def OM {x j pos}:JE X (.Constant (.str x) j pos) (tC (.str x)):=⟨Lf⟩
def KY {x:Str} {v:V} {u:Value} {pos:Pos} (hm:X.mg x=some u) (r:bB v u) (hg:Gl X x:=by rfl) (hd:(x==("__debug__":Str))=false:=by decide):JE X (.Name x pos) (tC v):=⟨Hi hg hm r hd⟩
def Rg {x:Str} {n:String} {pos:Pos} (hm:X.mg x=none) (hv:bootBuiltins x=some (.type n)) (hg:Gl X x:=by rfl) (hn:x≠"__name__":=by decide) (hd:(x==("__debug__":Str))=false:=by decide):JE X (.Name x pos) (tC (.ty n)):=⟨Qe hm hv hg hn hd⟩
def NV {op:Operator} {r:R2} (ho:fA X (binaryOp op) r) (ha:JE X a ta) (hb:JE X b tb):JE X (.BinOp a op b pos) (wH r ta tb):=⟨Pu ho ha.out hb.out⟩
def RJ {op:UnaryOp} {r:V->Hp->VK->Prop} (ho:Hr X (unaryOp op) r) (ha:JE X a ta):JE X (.UnaryOp op a pos) (So r ta):=⟨Ot ho ha.out⟩
def P4 (ha:JE X a ta):JE X (.UnaryOp .Not a pos) (Qy ta):=⟨LB ha.out⟩
def Os {op} (h:JE X a ta):JE X (.BoolOp op [a] pos) ta:=⟨K4 h.out⟩
def NT (ha:JE X a ta) (hb:JE X (.BoolOp .And (b::rest) pos) tb):JE X (.BoolOp .And (a::b::rest) pos) (Ps ta tb):=⟨KP ha.out hb.out⟩
def ML {op:CmpOp} {r:R2} (ho:fA X (compareOp op) r) (ha:JE X a ta) (hb:JE X b tb) (hm:behindInMarks op b=false):JE X (.Compare a [op] [b] pos) (wH r ta tb):=⟨HA ho ha.out hb.out hm⟩
def Dm {op:CmpOp} {r:R2} (ho:fA X (compareOp op) r) (ha:JE X a ta) (hb:JE X b tb) (hm:behindInMarks op b=false):JT X (.Compare a [op] [b] pos) (Iy (wH r ta tb)):=⟨Gm ho ha.out hb.out hm⟩
def MN (hc:JT X c tA) (ha:JE X a ta) (hb:JE X b tb):JE X (.IfExp c a b pos) (S0 tA ta tb):=⟨Dd hc.out ha.out hb.out⟩
def HC (h:JW X a tA):JT X a tA:=⟨h.out.pt⟩
def GZ (ha:JT X a tA):JW X (.BoolOp .And [a] pos) tA:=⟨Ie ha.out⟩
def Kd (ha:JT X a tA):JW X (.BoolOp .Or [a] pos) tA:=⟨Kt ha.out⟩
def Lj (ha:JT X a tA) (hb:JW X (.BoolOp .And (b::rest) pos) tB'):JW X (.BoolOp .And (a::b::rest) pos) (Oa tA tB'):=⟨JZ ha.out hb.out⟩
def Oe (ha:JT X a tA) (hb:JW X (.BoolOp .Or (b::rest) pos) tB'):JW X (.BoolOp .Or (a::b::rest) pos) (Sw tA tB'):=⟨Pf ha.out hb.out⟩
def LK (ha:JT X a tA):JT X (.UnaryOp .Not a pos) (Ql tA):=⟨Lb ha.out⟩
def EG (K:PySem.W.Frag) (ha:JE X a ta) (he:∀ la,isTrue a X.env la=(do let v <- la;standAt a.pos;holding [v] (truthy v)):=by exact fun _=>rfl) (hK:X.K=K:=by rfl):JT X a (Dh K ta):=⟨Eo K ha.out he hK⟩
def iU:JA X [] B8:=⟨K8⟩
def gt (ha:JE X e te) (hr:JA X es t) (hn:a8 e=true:=by rfl):JA X (e::es) (tF te t):=⟨Ho ha.out hr.out hn⟩
def y6 (h:JA X es t):JE X (.List es pos) (OP t):=⟨JY h.out⟩
def Ov {x1} (h:JA X es t):JE X (.Tuple es x1 pos) (M7 t):=⟨Ky h.out⟩
def Hg {r:R2} (hr:zt X r) (ha:JE X a ta) (hb:JE X b tb) (hs:on b:=by exact fun _ _=>rfl):JE X (.Subscript a b pos) (wH r ta tb):=⟨PQ hr ha.out hb.out hs⟩
def Ge:JO X none B0:=⟨Gj⟩
def GL (h:JE X e te):JO X (some e) (Il te):=⟨Gs h.out⟩
def G7 {r:V->Option Int->Option Int->Hp->VK->Prop} {lo hi:Option Expr} {tl th:TO} {p2:Pos} (hr:Ad X r) (he:JE X e te) (hl:JO X lo tl) (hu:JO X hi th):JE X (.Subscript e (.Slice lo hi none p2) pos) (Sj r te tl th):=⟨Dx hr he.out hl.out hu.out⟩
end
section
variable {X:Cx} {x:Str} {st:Stmt} {ps:List Str} {f:Addr} {fd:FuncData} {j k:Nat} {sp:Sp} {p pos:Pos} {e:Expr} {es:List Expr} {t:TA} {id T:String} {r:List V->Hp->VK->Prop}
def DW (D:Def X.K X.mg x st ps f fd) (G:FnOk X.prog X.w X.K X.mg X.base eX j f fd ps sp) (hr:Room k X.A) (ha:JA X (e::es) t) (hj:j<=k:=by decide) (hg:Gl X x:=by rfl) (hdb:(x==("__debug__":Str))=false:=by decide)
  (h1:a8 e=true:=by rfl) (h2:es.all a8=true:=by rfl):JE X (.Call (.Name x p) (e::es) [] pos) (Jl sp t):=⟨pc D G hr ha.out hj hg hdb h1 h2⟩
def Bg (hc:cx X (.builtin id) r) (hm:X.mg x=none) (hv:bootBuiltins x=some (.builtin id)) (ha:JA X (e::es) t) (hg:Gl X x:=by rfl) (h1:a8 e=true:=by rfl) (h2:es.all a8=true:=by rfl) (hn:x≠"__name__":=by decide) (hdb:(x==("__debug__":Str))=false:=by decide) :
  JE X (.Call (.Name x p) (e::es) [] pos) (Ma r t):=⟨Rp hc hm hv ha.out hg h1 h2 hn hdb⟩
def xB (hc:cx X (.type T) r) (hm:X.mg x=none) (hv:bootBuiltins x=some (.type T)) (ha:JA X (e::es) t) (hg:Gl X x:=by rfl) (h1:a8 e=true:=by rfl) (h2:es.all a8=true:=by rfl) (hn:x≠"__name__":=by decide) (hdb:(x==("__debug__":Str))=false:=by decide) :
  JE X (.Call (.Name x p) (e::es) [] pos) (Ma r t):=⟨R6 hc hm hv ha.out hg h1 h2 hn hdb⟩
end
section
variable {X:Cx} {o e:Expr} {es:List Expr} {to:TE} {t:TA} {name:Str} {apos cpos:Pos} {id:String}
def x6 {env:Env} {pos:Pos} {es:List Expr} (h:es.all a8=true) (hl:es.length < 29):((backTo pos (starEach es env)).all (fun x=>!x.1)&&(backToKw pos (keywordEach [] env)).all (fun x=>x.1.isSome)
   && decide (es.length+([]:List Keyword).length+(if ([]:List Keyword).isEmpty then 0 else 1) < 30))=true:=by
 have h1:(backTo pos (starEach es env)).all (fun x=>!x.1)=true:=by
  have:=iv (env:=env) (pos:=pos) h
  rw [List.any_eq_false] at this;rw [List.all_eq_true];intro x hx
  have:=this x hx
  simpa using this
 rw [h1];show (true&&true&&decide (es.length+0+0 < 30))=true;rw [decide_eq_true (by omega)];rfl
def Rj {r:Str->List V->Hp->VK->Prop} (slot:Slot "str" name id) (hty:typeOf (.builtin id)=pure (.type "method_descriptor")) (hm:DU X id r) (ho:JE X o to) (ha:JA X (e::es) t)
  (hbase:attributeBase o name X.env (eval o X.env)=eval o X.env:=by rfl) (hline:(apos.endLine==cpos.line)=true:=by rfl) (h1:(e::es).all a8=true:=by rfl) (hl:(e::es).length < 29:=by decide) :
  JE X (.Call (.Attribute o name apos) (e::es) [] cpos) (Sr r to t):=by
 have h1':=h1;rw [List.all_cons,Bool.and_eq_true] at h1';exact ⟨N9 slot hty hm ho.out ha.out hbase (x6 h1 hl) hline (eh h1'.1) (iv h1'.2)⟩
end
section
variable {X:Cx} {osc:Scope} {ON N:List Str} {ix:List (Option Nat)} {scope:Scope} {tg elt iter:Expr} {ifs:List Expr} {pos:Pos} {wi:TI} {g:TG} {tt:TT} {te:TE}
def G0:JTs X [] Qh:=⟨Hx⟩
def Gg {c:Expr} (h:JT X c tt):JTs X [c] tt:=⟨GR h.out⟩
def Dw (hcs:zJ osc ON N ix scope=true) (hi:JI X tg iter wi) (hg:∀ b,JG (qk X N scope b) tg g) (ht:∀ b,JTs (qk X N scope b) ifs tt) (he:∀ b,JE (qk X N scope b) elt te)
  (hE:X.env.scope=osc:=by rfl) (hO:X.N=ON:=by rfl) (hc:X.calm=true:=by rfl) (hs:∀ x,foldedSetIterable iter X.env x=pure x:=by intro _;rfl):JE X (.ListComp elt [⟨tg,iter,ifs,0⟩] scope pos) (A7 ix wi g tt te) :=
 ⟨Dj (Jo hcs) hE hO hc hi.out (fun b=>(hg b).out) (fun b=>(ht b).out) (fun b=>(he b).out) hs⟩
def zT {i:Nat} {x:Str} {spos pos':Pos} (hN:X.N.Nodup) (hl:zg X.env.scope x) (hcs:zJ osc ON N ix scope=true) (hi:JI X tg iter wi) (hg:∀ b,JG (qk X N scope b) tg g) (ht:∀ b,JTs (qk X N scope b) ifs tt) (he:∀ b,JE (qk X N scope b) elt te)
  (hx:X.N[i]?=some x:=by rfl) (hE:X.env.scope=osc:=by rfl) (hO:X.N=ON:=by rfl) (hc:X.calm=true:=by rfl)
  (hsw:swapsWith (.ListComp elt [⟨tg,iter,ifs,0⟩] scope pos) (some (.Name x pos')) spos.line X.env=pure true:=by rfl)
  (hf:X.fn x=true\/X.env.scope.names.lookup x=some .local:=by first|exact .inl rfl|exact .inr rfl|assumption)
  (hs:∀ x,foldedSetIterable iter X.env x=pure x:=by intro _;rfl):JS X (.Assign [.Name x pos'] (.ListComp elt [⟨tg,iter,ifs,0⟩] scope pos) spos) (xT (A7 ix wi g tt te) (i6 i)) :=
 ⟨Al hN hx hl (Jo hcs) hE hO hc hi.out (fun b=>(hg b).out) (fun b=>(ht b).out) (fun b=>(he b).out) hsw hf hs⟩
def AU (K:PySem.W.Frag) {l:Expr} {tl:TE} (hl:JE X l tl) (hK:X.K=K:=by rfl):JI X tg l (Q1 K tl):=⟨Ly K hl.out hK⟩
def CD {a:Expr} {ta:TA} {p pos:Pos} (hm:X.mg "range"=none) (ha:JA X [a] ta) (hg:Gl X "range":=by rfl) (hn:a8 a=true:=by rfl):JI X tg (.Call (.Name "range" p) [a] [] pos) (Jp ta):=⟨CF hg hm ha.out (eh hn)⟩
end
section
variable {X:Cx} {pos:Pos} {st:Stmt} {rest:List Stmt} {t u:TS} {e:Expr} {te:TE}
def sP {i:Nat} {x:Str} (hN:X.N.Nodup) (hi:X.N[i]?=some x) (hx:zg X.env.scope x) (hf:X.fn x=true\/X.env.scope.names.lookup x=some .local:=by first|exact .inl rfl|exact .inr rfl|assumption):JG X (.Name x pos) (i6 i):=⟨BS hN hi hx hf⟩
def BU:JGs X [] J5:=⟨F7⟩
def ue {e:Expr} {es:List Expr} {t:TG} {u:Db} (h1:JG X e t) (h2:JGs X es u)
  (hs:(assignEach (e::es) X.env).map (·.2)=assign e X.env::(assignEach es X.env).map (·.2):=by rfl):JGs X (e::es) (A3 t u):=⟨Dt h1.out h2.out hs⟩
def Ei (K:PySem.W.Frag) {es:List Expr} {k:Nat} {t:Db} {n:Nat} (h:JGs X es t) (hc:X.calm=true:=by rfl)
  (hn:(assignEach es X.env).length=n:=by rfl) (hst:(assignEach es X.env).findIdx? (·.1)=none:=by rfl) (hK:X.K=K:=by rfl):JG X (.Tuple es k pos) (LZ K n t):=by
 subst hK;exact ⟨Jw hc h.out hn hst⟩
def ub:JB X [] D0:=⟨GC⟩
def gd (h1:JS X st t) (h2:JB X rest u):JB X (st::rest) (Ey t u):=⟨Df h1.out h2.out⟩
def pz (h1:JS X st t):JB X [st] t:=⟨G4 h1.out⟩
def ql (he:JE X e te) (hs:swapsWith e none pos.line X.env=pure false:=by rfl):JS X (.Expr e pos) (ug te):=⟨He he.out hs⟩
def tY (he:JE X e te):JS X (.Return (some e) pos) (Kh te):=⟨Kr he.out⟩
def yX {c:Expr} {a b:List Stmt} {tc:TT} (hc:JT X c tc) (ha:JB X a t) (hb:JB X b u):JS X (.If c a b pos) (HK tc t u):=⟨MO hc.out ha.out hb.out⟩
def qS {i:Nat} {x:Str} {pos':Pos} (hN:X.N.Nodup) (hx:zg X.env.scope x) (he:JE X e te) (hi:X.N[i]?=some x:=by rfl) (hs:swapsWith e (some (.Name x pos')) pos.line X.env=pure false:=by rfl) (hf:X.fn x=true\/X.env.scope.names.lookup x=some .local:=by first|exact .inl rfl|exact .inr rfl|assumption) :
  JS X (.Assign [.Name x pos'] e pos) (xT te (i6 i)):=⟨Kk hN hi hx he.out hs hf⟩
def zR {tg iter:Expr} {body:List Stmt} {wi:TI} {g:TG} {tb:TS} (hp:PassesOwn (model X.prog X.w) X.A X.env X.xe) (hi:JI X tg iter wi) (hg:JG X tg g) (hb:JB X body tb) (hc:X.calm=true:=by rfl)
  (hs:∀ x,foldedSetIterable iter X.env x=pure x:=by intro _;rfl):JS X (.For tg iter body [] pos) (Eh wi g tb):=⟨KC hp hc hi.out hg.out hb.out hs⟩
def Dn {c:Expr} {body:List Stmt} {tc:TT} {tb:TS} (hp:PassesOwn (model X.prog X.w) X.A X.env X.xe) (hc:JT X c tc) (hb:JB X body tb):JS X (.While c body [] pos) (EH tc tb):=⟨EW hp hc.out hb.out⟩
end
section
variable {P:Program} {w:World} {K:PySem.W.Frag} {mg:Str->Option Value} {base:Heap}
def Fun.okJ {x qual:Str} {st:Stmt} {f:Addr} {fd:FuncData} {N ps:List Str} {k:Nat} {sp:Sp} (F:Fun K x qual st f fd) (S:FnScope N ps (am st)) (len:∀ vs H Q E,sp vs H Q E->vs.length=ps.length)
  (hbody:∀ (cdv:Value) (A:Around) (outer:List Env) (s:Shared) (H:Hp) (vs:List V) (Q:VK) (E:XK),Room k (A.deeper (envOfC qual (am st) s.heap.objs.size f cdv))->sp vs H Q E ->
   ∃ t,JB (qd eX P w K mg base N qual (am st) f cdv A outer s H E).nox (dE st) t/\t { nx:=fun _ H'=>Q .non H',rt:=Q } (start N vs) H):FnOk P w K mg base eX (k+1) f fd ps sp :=
 F.ok S len fun cdv A outer s H vs Q E hr h=>let ⟨t,h1,h2⟩:=hbody cdv A outer s H vs Q E hr h;⟨t,h1.out,h2⟩
end
def JE.imp {X:Cx} {e:Expr} {t t':TE} (h:JE X e t) (i:∀ σ H Q,t' σ H Q->t σ H Q):JE X e t':=⟨h.out.imp i⟩
def JT.imp {X:Cx} {e:Expr} {t t':TT} (h:JT X e t) (i:∀ σ H Q,t' σ H Q->t σ H Q):JT X e t':=⟨fun ag s σ H Q I q=>h.out ag s σ H Q I (i σ H Q q)⟩
def JW.imp {X:Cx} {e:Expr} {t t':TT} (h:JW X e t) (i:∀ σ H Q,t' σ H Q->t σ H Q):JW X e t':=⟨fun w ag s σ H Q I q=>h.out w ag s σ H Q I (i σ H Q q)⟩
def JA.imp {X:Cx} {es:List Expr} {t t':TA} (h:JA X es t) (i:∀ σ H Q,t' σ H Q->t σ H Q):JA X es t':=⟨fun pos ag s σ H Q I q=>h.out pos ag s σ H Q I (i σ H Q q)⟩
def JS.imp {X:Cx} {st:Stmt} {t t':TS} (h:JS X st t) (i:∀ D σ H,t' D σ H->t D σ H):JS X st t':=⟨fun ag s σ H D I q=>h.out ag s σ H D I (i D σ H q)⟩
def JB.imp {X:Cx} {st:List Stmt} {t t':TS} (h:JB X st t) (i:∀ D σ H,t' D σ H->t D σ H):JB X st t':=⟨fun ag s σ H D I q=>h.out ag s σ H D I (i D σ H q)⟩
def JG.imp {X:Cx} {e:Expr} {t t':TG} (h:JG X e t) (i:∀ v σ H Q,t' v σ H Q->t v σ H Q):JG X e t':=⟨fun ag s σ H v u Q I r q=>h.out ag s σ H v u Q I r (i v σ H Q q)⟩
def JGs.imp {X:Cx} {es:List Expr} {t t':Db} (h:JGs X es t) (i:∀ v σ H Q,t' v σ H Q->t v σ H Q):JGs X es t':=⟨fun ag s σ H v u Q I r q=>h.out ag s σ H v u Q I r (i v σ H Q q)⟩
def JI.imp {X:Cx} {tg e:Expr} {t t':TI} (h:JI X tg e t) (i:∀ σ H R,t' σ H R->t σ H R):JI X tg e t':=⟨fun ag s σ H R I q=>h.out ag s σ H R I (i σ H R q)⟩
def JO.imp {X:Cx} {e:Option Expr} {t t':TO} (h:JO X e t) (i:∀ σ H Q,t' σ H Q->t σ H Q):JO X e t':=⟨fun ag s σ H Q I q=>h.out ag s σ H Q I (i σ H Q q)⟩
def JTs.imp {X:Cx} {es:List Expr} {t t':TT} (h:JTs X es t) (i:∀ σ H Q,t' σ H Q->t σ H Q):JTs X es t':=⟨fun ag s σ H Q I q=>h.out ag s σ H Q I (i σ H Q q)⟩
inductive D where
 | non|bl (b:Bool)|int (i:Int)|str (x:Str)|ty (n:String)
 | lst (xs:List D)|tup (xs:List D)|dct (kvs:List (pF×D))|obj (C:Addr) (fs:List (Str×D))
 /-- an exception that was caught,by its class's name;a class of the text -/
 | exn (x:Str)|cls (x:Str)
 /-- a list of which it is eY that it was laid anew (it may be changed) -/
 | lsm (xs:List D)
def Rm (a C:Addr):HO:=.ext fun h=>∃ o vs,h.get? a=some o/\o.cls=.ref C/\o.dict=none/\o.data=.fields vs
section
variable (K:PySem.W.Frag) (H:Hp)
mutual
def dR:D->V->Prop
 | .non,v=>v=.non
 | .bl b,v=>v=.bl b
 | .int i,v=>v=.int i
 | .str x,v=>v=.str x
 | .ty n,v=>v=.ty n
 | .lst ds,v=>∃ a xs,v=.ref a/\dZ K H a xs/\aJ ds xs
 | .tup ds,v=>∃ a xs,v=.ref a/\lG K H a xs/\aJ ds xs
 | .dct ds,v=>∃ a xs,v=.ref a/\H a=some (.dK xs)/\uX ds xs
 | .obj C fs,v=>∃ a dx xs,v=.ref a/\H a=some (.ins C dx xs)/\xW fs xs
 | .exn x,v=>∃ a C,v=.ref a/\PySem.W.nsIn K mainGlobals x=some (some (.ref C))/\H a=some (Rm a C)
 | .cls x,v=>∃ C,v=.ref C/\PySem.W.nsIn K mainGlobals x=some (some (.ref C))
 | .lsm ds,v=>∃ a xs,v=.ref a/\H a=some (.lst xs)/\aJ ds xs
def aJ:List D->List V->Prop
 | [],xs=>xs=[]
 | d::ds,xs=>∃ v vs,xs=v::vs/\dR d v/\aJ ds vs
def uX:List (pF×D)->List (pF×V)->Prop
 | [],xs=>xs=[]
 | (k,d)::ds,xs=>∃ v vs,xs=(k,v)::vs/\dR d v/\uX ds vs
def xW:List (Str×D)->List (Str×V)->Prop
 | [],xs=>xs=[]
 | (k,d)::ds,xs=>∃ v vs,xs=(k,v)::vs/\dR d v/\xW ds vs
end
end
section
variable {K:PySem.W.Frag} {H H':Hp}
mutual
def dR.mono (s:ax H H'):∀ {d:D} {v:V},dR K H d v->dR K H' d v
 | .non,_,h=>h
 | .bl _,_,h=>h
 | .int _,_,h=>h
 | .str _,_,h=>h
 | .ty _,_,h=>h
 | .lst ds,_,⟨a,xs,e,h1,h2⟩=>⟨a,xs,e,s.seq h1,aJ.mono s h2⟩
 | .tup ds,_,⟨a,xs,e,h1,h2⟩=>⟨a,xs,e,s.seqT h1,aJ.mono s h2⟩
 | .dct ds,_,⟨a,xs,e,h1,h2⟩=>⟨a,xs,e,s _ _ h1,uX.mono s h2⟩
 | .obj C ds,_,⟨a,dx,xs,e,h1,h2⟩=>⟨a,dx,xs,e,s _ _ h1,xW.mono s h2⟩
 | .exn _,_,⟨a,C,e,h1,h2⟩=>⟨a,C,e,h1,s _ _ h2⟩
 | .cls _,_,h=>h
 | .lsm ds,_,⟨a,xs,e,h1,h2⟩=>⟨a,xs,e,s _ _ h1,aJ.mono s h2⟩
def aJ.mono (s:ax H H'):∀ {d:List D} {v:List V},aJ K H d v->aJ K H' d v
 | [],_,h=>h
 | d::ds,_,⟨v,vs,e,h1,h2⟩=>⟨v,vs,e,dR.mono s h1,aJ.mono s h2⟩
def uX.mono (s:ax H H'):∀ {d:List (pF×D)} {v:List (pF×V)},uX K H d v->uX K H' d v
 | [],_,h=>h
 | (k,d)::ds,_,⟨v,vs,e,h1,h2⟩=>⟨v,vs,e,dR.mono s h1,uX.mono s h2⟩
def xW.mono (s:ax H H'):∀ {d:List (Str×D)} {v:List (Str×V)},xW K H d v->xW K H' d v
 | [],_,h=>h
 | (k,d)::ds,_,⟨v,vs,e,h1,h2⟩=>⟨v,vs,e,dR.mono s h1,xW.mono s h2⟩
end
theorem aJ.len:∀ {ds:List D} {xs:List V},aJ K H ds xs->ds.length=xs.length
 | [],_,h=>by cases h;rfl
 | d::ds,_,⟨v,vs,e,h1,h2⟩=>by subst e;simp [aJ.len h2]
def aJ.get:∀ {ds:List D} {xs:List V} {i:Nat} {d:D},aJ K H ds xs->ds[i]?=some d->∃ v,xs[i]?=some v/\dR K H d v
 | [],_,_,_,_,e=>by simp at e
 | d::ds,_,0,_,⟨v,vs,e,h1,h2⟩,q=>by
  simp at q;subst q e;exact ⟨v,rfl,h1⟩
 | d::ds,_,i+1,_,⟨v,vs,e,h1,h2⟩,q=>by
  subst e;obtain ⟨u,h3,h4⟩:=aJ.get (i:=i) h2 (by simpa using q);exact ⟨u,by simpa using h3,h4⟩
def aJ.got:∀ {ds:List D} {xs:List V} {i:Nat} {v:V},aJ K H ds xs->xs[i]?=some v->∃ d,ds[i]?=some d/\dR K H d v
 | [],_,_,_,h,e=>by cases h;simp at e
 | d::ds,_,0,_,⟨v,vs,e,h1,h2⟩,q=>by
  subst e;simp at q;subst q;exact ⟨d,rfl,h1⟩
 | d::ds,_,i+1,_,⟨v,vs,e,h1,h2⟩,q=>by
  subst e;obtain ⟨u,h3,h4⟩:=aJ.got (i:=i) h2 (by simpa using q);exact ⟨u,by simpa using h3,h4⟩
def aJ.nil:aJ K H [] []:=rfl
theorem aJ.cons {d:D} {ds:List D} {v:V} {xs:List V} (h:dR K H d v) (t:aJ K H ds xs):aJ K H (d::ds) (v::xs):=⟨v,xs,rfl,h,t⟩
def aJ.append:∀ {ds es:List D} {xs ys:List V},aJ K H ds xs->aJ K H es ys->aJ K H (ds++es) (xs++ys)
 | [],_,_,_,h,t=>by cases h;exact t
 | d::ds,_,_,_,⟨v,vs,e,h1,h2⟩,t=>by subst e;exact ⟨v,_,rfl,h1,aJ.append h2 t⟩
def aJ.take:∀ {ds:List D} {xs:List V} (n:Nat),aJ K H ds xs->aJ K H (ds.take n) (xs.take n)
 | _,_,0,_=>by simp only [List.take_zero];exact rfl
 | [],_,n+1,h=>by cases h;exact rfl
 | d::ds,_,n+1,⟨v,vs,e,h1,h2⟩=>by subst e;exact ⟨v,_,rfl,h1,aJ.take n h2⟩
def aJ.drop:∀ {ds:List D} {xs:List V} (n:Nat),aJ K H ds xs->aJ K H (ds.drop n) (xs.drop n)
 | _,_,0,h=>h
 | [],_,n+1,h=>by cases h;exact rfl
 | d::ds,_,n+1,⟨v,vs,e,h1,h2⟩=>by subst e;exact aJ.drop n h2
end
def aG (as:List Addr) (H:Hp):Hp:=fun b=>if b∈as then none else H b
def dI {as:List Addr} {H:Hp} {b:Addr} (h:b∈as):aG as H b=none:=if_pos h
def aV {as:List Addr} {H:Hp} {b:Addr} (h:b∉as):aG as H b=H b:=if_neg h
def uk {H:Hp}:aG [] H=H:=by funext b;exact if_neg (by simp)
def aD (as:List Addr) (H:Hp):ax (aG as H) H:=fun b o e=>by
 unfold aG at e;split at e
 ·cases e
 ·exact e
def aP {as:List Addr} {H H':Hp} (s:ax H H'):ax (aG as H) (aG as H'):=fun b o e=>by
 unfold aG at e ⊢;split at e
 ·cases e
 ·rename_i h;rw [if_neg h];exact s b o e
def tH (as bs:List Addr) (H:Hp):aG (as++bs) H=aG bs (aG as H):=by
 funext b
 unfold aG;by_cases h1:b∈as <;> by_cases h2:b∈bs <;> simp [h1,h2]
def gf {as bs:List Addr} {H:Hp} (h:∀ a∈bs,a∈as):ax (aG as H) (aG bs H):=fun b o e=>by
 by_cases hb:b∈as
 ·rw [dI hb] at e;cases e
 ·rw [aV hb] at e;rw [aV fun z=>hb (h b z)];exact e
def Cr {as:List Addr} {B H:Hp} (s:ax B H) (h:∀ a∈as,B a=none):ax B (aG as H):=fun b o e=>by
 have hb:b∉as:=fun z=>by rw [h b z] at e;cases e
 rw [aV hb];exact s b o e
inductive R (α:Type) where
 | ok (a:α)
 | er (x:Str)
 | no
def R.bind {α β:Type} (r:R α) (f:α->R β):R β:=match r with
 | .ok a=>f a
 | .er x=>.er x
 | .no=>.no
theorem ah {α β:Type} {a:α} {f:α->R β}:(R.ok a).bind f=f a:=rfl
def bind_assoc {α β γ:Type} (r:R α) (f:α->R β) (g:β->R γ):(r.bind f).bind g=r.bind fun a=>(f a).bind g:=by cases r <;> rfl
structure Wd where
 K:PySem.W.Frag
 mg:Str->Option Value
 E:XK
abbrev Sd:=List (Option D)
def eV (W:Wd) (as:List Addr) (H:Hp) (r:R D) (Q:VK):Prop:=match r with
 | .ok d=>∀ v H',ax H H'->dR W.K (aG as H') d v->Q v H'
 | .er x=>∀ e C H',ax H H'->W.mg x=some (.ref C)->W.E e (some C) H'
 | .no=>False
def jS (W:Wd) (as:List Addr) (H:Hp) (r:R (List D)) (Q:List V->Hp->Prop):Prop:=match r with
 | .ok d=>∀ v H',ax H H'->aJ W.K (aG as H') d v->Q v H'
 | .er x=>∀ e C H',ax H H'->W.mg x=some (.ref C)->W.E e (some C) H'
 | .no=>False
def iA {α:Type} (W:Wd) (H:Hp) (r:R α) (Q:α->Hp->Prop):Prop:=match r with
 | .ok b=>∀ H',ax H H'->Q b H'
 | .er x=>∀ e C H',ax H H'->W.mg x=some (.ref C)->W.E e (some C) H'
 | .no=>False
def l9 (K:PySem.W.Frag) (H:Hp) (o:HO):D->Prop
 | .lst ds=>∃ xs,o=.lst xs/\aJ K H ds xs
 | .dct ds=>∃ xs,o=.dK xs/\uX K H ds xs
 | .obj C ds=>∃ dx xs,o=.ins C dx xs/\xW K H ds xs
 | _=>False
def i7 (W:Wd) (as:List Addr) (H:Hp) (r:R D) (Q:VK):Prop:=match r with
 | .ok d=>∀ p o H',ax H H'->H p=none->H' p=some o->l9 W.K (aG (p::as) H') o d->Q (.ref p) H'
 | .er x=>∀ e C H',ax H H'->W.mg x=some (.ref C)->W.E e (some C) H'
 | .no=>False
def eV.mono {W:Wd} {as:List Addr} {H H':Hp} {r:R D} {Q:VK} (h:eV W as H r Q) (s:ax H H'):eV W as H' r Q:=by
 cases r with
 | ok d=>exact fun v H2 s2=>h v H2 (s.trans s2)
 | er x=>exact fun e C H2 s2=>h e C H2 (s.trans s2)
 | no=>exact h
def i7.mono {W:Wd} {as:List Addr} {H H':Hp} {r:R D} {Q:VK} (h:i7 W as H r Q) (s:ax H H'):i7 W as H' r Q:=by
 cases r with
 | ok d=>exact fun p o H2 s2 hp=>h p o H2 (s.trans s2) (s.free hp)
 | er x=>exact fun e C H2 s2=>h e C H2 (s.trans s2)
 | no=>exact h
def jS.mono {W:Wd} {as:List Addr} {H H':Hp} {r:R (List D)} {Q:List V->Hp->Prop} (h:jS W as H r Q) (s:ax H H'):jS W as H' r Q:=by
 cases r with
 | ok d=>exact fun v H2 s2=>h v H2 (s.trans s2)
 | er x=>exact fun e C H2 s2=>h e C H2 (s.trans s2)
 | no=>exact h
def iA.mono {α:Type} {W:Wd} {H H':Hp} {r:R α} {Q:α->Hp->Prop} (h:iA W H r Q) (s:ax H H'):iA W H' r Q:=by
 cases r with
 | ok d=>exact fun H2 s2=>h H2 (s.trans s2)
 | er x=>exact fun e C H2 s2=>h e C H2 (s.trans s2)
 | no=>exact h
def l9.den {K:PySem.W.Frag} {H:Hp} {p:Addr} {as:List Addr} {o:HO} {d:D} (hp:p∉as) (e:H p=some o) (h:l9 K (aG (p::as) H) o d):dR K (aG as H) d (.ref p):=by
 have s:ax (aG (p::as) H) (aG as H):=gf fun a ha=>List.mem_cons_of_mem _ ha;have e':aG as H p=some o:=by rw [aV hp];exact e
 cases d with
 | lst ds=>obtain ⟨xs,rfl,h⟩:=h;exact ⟨p,xs,rfl,.inl (.inl e'),h.mono s⟩
 | dct ds=>obtain ⟨xs,rfl,h⟩:=h;exact ⟨p,xs,rfl,e',h.mono s⟩
 | obj C ds=>obtain ⟨dx,xs,rfl,h⟩:=h;exact ⟨p,dx,xs,rfl,e',h.mono s⟩
 | _=>exact h.elim
structure DI (K:PySem.W.Frag) (as0:List Addr) (B:Hp) (O:List Nat) (own:List Addr) (σ:St) (δ:Sd) (H:Hp):Prop where
 len:δ.length=σ.length
 olen:own.length=O.length
 nd:own.Nodup
 ond:O.Nodup
 fresh:∀ a∈own,B a=none
 ex0:∀ a∈as0,B a≠none
 same:ax B H
 var:∀ i d,i∉O->δ[i]?=some (some d)->∃ v,σ[i]?=some (some v)/\dR K (aG (own++as0) H) d v
 owns:∀ i a,(i,a)∈O.zip own->∃ d o,δ[i]?=some (some d)/\σ[i]?=some (some (.ref a))/\H a=some o/\l9 K (aG (own++as0) H) o d
section
variable {K:PySem.W.Frag} {as0 own:List Addr} {B H H':Hp} {O:List Nat} {σ:St} {δ:Sd}
def l9.mono {o:HO} {d:D} (s:ax H H') (h:l9 K H o d):l9 K H' o d:=by
 cases d with
 | lst ds=>obtain ⟨xs,rfl,h⟩:=h;exact ⟨xs,rfl,h.mono s⟩
 | dct ds=>obtain ⟨xs,rfl,h⟩:=h;exact ⟨xs,rfl,h.mono s⟩
 | obj C ds=>obtain ⟨dx,xs,rfl,h⟩:=h;exact ⟨dx,xs,rfl,h.mono s⟩
 | _=>exact h.elim
def vA:∀ {O:List Nat} {own:List Addr} {a:Addr},own.length=O.length->a∈own->∃ i,(i,a)∈O.zip own
 | [],[],_,_,h=>by cases h
 | i::O,b::own,a,l,h=>by
  rcases List.mem_cons.mp h with rfl|h
  ·exact ⟨i,List.mem_cons_self⟩
  ·obtain ⟨j,hj⟩:=vA (O:=O) (own:=own) (by simpa using l) h;exact ⟨j,List.mem_cons_of_mem _ hj⟩
 | [],_::_,_,l,_=>by simp at l
 | _::_,[],_,_,h=>by cases h
def DI.exi (I:DI K as0 B O own σ δ H):∀ a∈own++as0,H a≠none:=fun a ha=>by
 rcases List.mem_append.mp ha with h|h
 ·obtain ⟨i,hi⟩:=vA I.olen h;obtain ⟨d,o,_,_,e,_⟩:=I.owns i a hi;rw [e];simp
 ·cases e:B a with
  | none=>exact absurd e (I.ex0 a h)
  | some o=>rw [I.same a o e];simp
def DI.new (I:DI K as0 B O own σ δ H) {p:Addr} (h:H p=none):p∉own++as0:=fun z=>I.exi p z h
def DI.mono (I:DI K as0 B O own σ δ H) (s:ax H H'):DI K as0 B O own σ δ H' :=
 ⟨I.len,I.olen,I.nd,I.ond,I.fresh,I.ex0,I.same.trans s,fun i d hi e=>let ⟨v,h1,h2⟩:=I.var i d hi e;⟨v,h1,h2.mono (aP s)⟩,
  fun i a hi=>let ⟨d,o,h1,h2,h3,h4⟩:=I.owns i a hi;⟨d,o,h1,h2,s a o h3,h4.mono (aP s)⟩⟩
def DI.base {B':Hp} (I:DI K as0 B' O own σ δ H) (s:ax B B') (h:∀ a∈as0,B a≠none):DI K as0 B O own σ δ H :=
 ⟨I.len,I.olen,I.nd,I.ond,fun a ha=>s.free (I.fresh a ha),h,s.trans I.same,I.var,I.owns⟩
def DI.rebase (I:DI K as0 B O own σ δ H) (h0:∀ a∈own,a∉as0):DI K as0 (aG own H) O own σ δ H :=
 ⟨I.len,I.olen,I.nd,I.ond,fun a ha=>dI ha,fun a ha=>(by
  rw [aV fun z=>h0 a z ha];cases e:B a with
  | none=>exact absurd e (I.ex0 a ha)
  | some o=>rw [I.same a o e];simp),aD _ _,I.var,I.owns⟩
def DI.apart (I:DI K as0 B O own σ δ H):∀ a∈own,a∉as0:=fun a ha z=>I.ex0 a z (I.fresh a ha)
def DI.baseIn (I:DI K as0 B O own σ δ H):ax B (aG own H):=Cr I.same I.fresh
end
abbrev FE:=Sd->R D
abbrev FT:=Sd->R Bool
abbrev FA:=Sd->R (List D)
def tD (W:Wd) (O:List Nat) (φ:FE):TE:=fun σ H Q=>∃ as0 B own δ,DI W.K as0 B O own σ δ H/\eV W (own++as0) H (φ δ) Q
def tN (W:Wd) (O:List Nat) (φ:FE):TE:=fun σ H Q=>∃ as0 B own δ,DI W.K as0 B O own σ δ H/\i7 W (own++as0) H (φ δ) Q
def oE (W:Wd) (O:List Nat) (φ:FT):TT:=fun σ H Q=>∃ as0 B own δ,DI W.K as0 B O own σ δ H/\iA W H (φ δ) Q
def AB (W:Wd) (O:List Nat) (φ:FA):TA:=fun σ H Q=>∃ as0 B own δ,DI W.K as0 B O own σ δ H/\jS W (own++as0) H (φ δ) Q
def QQ (W:Wd) (O:List Nat) (φ:Sd->R (Option Int)):TO:=fun σ H Q=>∃ as0 B own δ,DI W.K as0 B O own σ δ H/\iA W H (φ δ) Q
section
variable {W:Wd} {as:List Addr} {H:Hp} {Q:VK}
def dr {r:R D} {f:D->R D} {Q':VK} (h:eV W as H (r.bind f) Q) (q:∀ d v H',ax H H'->dR W.K (aG as H') d v->eV W as H' (f d) Q->Q' v H'):eV W as H r Q':=by
 cases r with
 | ok d=>exact fun v H' s dv=>q d v H' s dv (eV.mono h s)
 | er x=>exact h
 | no=>exact h
def gT {r:R (List D)} {f:List D->R D} {Q':List V->Hp->Prop} (h:eV W as H (r.bind f) Q) (q:∀ d v H',ax H H'->aJ W.K (aG as H') d v->eV W as H' (f d) Q->Q' v H'):jS W as H r Q':=by
 cases r with
 | ok d=>exact fun v H' s dv=>q d v H' s dv (eV.mono h s)
 | er x=>exact h
 | no=>exact h
def nI {r:R (List D)} {f:List D->R D} {Q':List V->Hp->Prop} (h:i7 W as H (r.bind f) Q) (q:∀ d v H',ax H H'->aJ W.K (aG as H') d v->i7 W as H' (f d) Q->Q' v H'):jS W as H r Q':=by
 cases r with
 | ok d=>exact fun v H' s dv=>q d v H' s dv (i7.mono h s)
 | er x=>exact h
 | no=>exact h
def pd {α:Type} {r:R α} {f:α->R D} {Q':α->Hp->Prop} (h:eV W as H (r.bind f) Q) (q:∀ d H',ax H H'->eV W as H' (f d) Q->Q' d H'):iA W H r Q':=by
 cases r with
 | ok d=>exact fun H' s=>q d H' s (eV.mono h s)
 | er x=>exact h
 | no=>exact h
def gL {α:Type} {r:R D} {f:D->R α} {Q:α->Hp->Prop} {Q':VK} (h:iA W H (r.bind f) Q) (q:∀ d v H',ax H H'->dR W.K (aG as H') d v->iA W H' (f d) Q->Q' v H'):eV W as H r Q':=by
 cases r with
 | ok d=>exact fun v H' s dv=>q d v H' s dv (iA.mono h s)
 | er x=>exact h
 | no=>exact h
def nY {α β:Type} {r:R α} {f:α->R β} {Q:β->Hp->Prop} {Q':α->Hp->Prop} (h:iA W H (r.bind f) Q) (q:∀ d H',ax H H'->iA W H' (f d) Q->Q' d H'):iA W H r Q':=by
 cases r with
 | ok d=>exact fun H' s=>q d H' s (iA.mono h s)
 | er x=>exact h
 | no=>exact h
def zU {r:R D} {f:D->R (List D)} {Q:List V->Hp->Prop} {Q':VK} (h:jS W as H (r.bind f) Q) (q:∀ d v H',ax H H'->dR W.K (aG as H') d v->jS W as H' (f d) Q->Q' v H'):eV W as H r Q':=by
 cases r with
 | ok d=>exact fun v H' s dv=>q d v H' s dv (jS.mono h s)
 | er x=>exact h
 | no=>exact h
def xP {r:R (List D)} {f:List D->R (List D)} {Q Q':List V->Hp->Prop} (h:jS W as H (r.bind f) Q) (q:∀ d v H',ax H H'->aJ W.K (aG as H') d v->jS W as H' (f d) Q->Q' v H'):jS W as H r Q':=by
 cases r with
 | ok d=>exact fun v H' s dv=>q d v H' s dv (jS.mono h s)
 | er x=>exact h
 | no=>exact h
end
section
variable {X:Cx} {W:Wd} {O:List Nat} {a b c e:Expr} {φ ψ χ:FE} {pos:Pos} {rest es:List Expr} {α:FA}
def ae (i:Nat):FE:=fun δ=>match δ[i]? with
 | some (some d)=>.ok d
 | _=>.no
def vC (d:D):FE:=fun _=>.ok d
def af (i:Nat) {x:Str} (hO:i∉O:=by decide) (hN:X.N[i]?=some x:=by rfl) (hv:zv X.env.scope x:=by first|exact Or.inl rfl|exact Or.inr (Or.inl rfl)|exact Or.inr (Or.inr rfl)) (hd:(x==("__debug__":Str))=false:=by decide)
  (hcd:(x==("__classdict__":Str))=false:=by decide):JE X (.Name x pos) (tD W O (ae i)):=(jv i hN hv hd hcd).imp fun σ H Q hh=>fT hh fun as0 B own δ I h=>by
 unfold ae at h;split at h
 ·rename_i d e;obtain ⟨v,h1,h2⟩:=I.var i d hO e;show vg σ[i]? H Q;rw [h1];exact h v H (ax.refl H) h2
 ·exact h.elim
def ao {i j}:JE X (.Constant (.int i) j pos) (tD W O (vC (.int i))):=OS.imp fun σ H Q hh=>fT hh fun as0 B own δ I h=>h _ H (ax.refl H) rfl
def uU {b j}:JE X (.Constant (.bool b) j pos) (tD W O (vC (.bl b))):=RU.imp fun σ H Q hh=>fT hh fun as0 B own δ I h=>h _ H (ax.refl H) rfl
def qe {j}:JE X (.Constant .none j pos) (tD W O (vC .non)):=Qd.imp fun σ H Q hh=>fT hh fun as0 B own δ I h=>h _ H (ax.refl H) rfl
def az {x j}:JE X (.Constant (.str x) j pos) (tD W O (vC (.str x))):=OM.imp fun σ H Q hh=>fT hh fun as0 B own δ I h=>h _ H (ax.refl H) rfl
def cb {x:Str} {d:D} {v:V} {u:Value} (hm:X.mg x=some u) (r:bB v u) (hd:∀ H,dR W.K H d v) (hg:Gl X x:=by rfl) (hdb:(x==("__debug__":Str))=false:=by decide):JE X (.Name x pos) (tD W O (vC d)) :=
 (KY hm r hg hdb).imp fun σ H Q hh=>fT hh fun as0 B own δ I h=>h _ H (ax.refl H) (hd _)
def nT {x:Str} {n:String} (hm:X.mg x=none) (hv:bootBuiltins x=some (.type n)) (hg:Gl X x:=by rfl) (hn:x≠"__name__":=by decide) (hd:(x==("__debug__":Str))=false:=by decide):JE X (.Name x pos) (tD W O (vC (.ty n))) :=
 (Rg hm hv hg hn hd).imp fun σ H Q hh=>fT hh fun as0 B own δ I h=>h _ H (ax.refl H) rfl
def sS (W:Wd) (r:R2) (op:D->D->R D):Prop:=∀ (as:List Addr) (H:Hp) (x y:V) (a b:D) (Q:VK),(∀ p,H p=none->p∉as)->dR W.K (aG as H) a x->dR W.K (aG as H) b y->eV W as H (op a b) Q->r x y H Q
def ap (op:D->D->R D) (φ ψ:FE):FE:=fun δ=>(φ δ).bind fun x=>(ψ δ).bind fun y=>op x y
def Ee {t:TE->TE->TE} {r:R2} {op:D->D->R D} (ht:∀ {ta tb:TE},JE X a ta->JE X b tb->JE X e (t ta tb)) (et:t=wH r) (ho:sS W r op) (ha:JE X a (tD W O φ)) (hb:JE X b (tD W O ψ)):JE X e (tD W O (ap op φ ψ)):=by
 subst et;refine (ht ha hb).imp fun σ H Q hh=>fT hh fun as0 B own δ I h=>⟨as0,B,own,δ,I,dr h fun x v H1 s1 d1 h1=>⟨as0,B,own,δ,I.mono s1,dr h1 fun y u H2 s2 d2 h2=>?_⟩⟩;exact ho (own++as0) H2 v u x y Q (fun p hp=>((I.mono s1).mono s2).new hp) (d1.mono (aP s2)) d2 h2
def aH {op:Operator} {r:R2} {g:D->D->R D} (ho:fA X (binaryOp op) r) (hd:sS W r g) (ha:JE X a (tD W O φ)) (hb:JE X b (tD W O ψ)):JE X (.BinOp a op b pos) (tD W O (ap g φ ψ)) :=
 Ee (t:=wH r) (fun h1 h2=>NV ho h1 h2) rfl hd ha hb
def iB {op:CmpOp} {r:R2} {g:D->D->R D} (ho:fA X (compareOp op) r) (hd:sS W r g) (ha:JE X a (tD W O φ)) (hb:JE X b (tD W O ψ)) (hm:behindInMarks op b=false):JE X (.Compare a [op] [b] pos) (tD W O (ap g φ ψ)) :=
 Ee (t:=wH r) (fun h1 h2=>ML ho h1 h2 hm) rfl hd ha hb
def bu {r:R2} {g:D->D->R D} (hr:zt X r) (hd:sS W r g) (ha:JE X a (tD W O φ)) (hb:JE X b (tD W O ψ)) (hs:on b:=by exact fun _ _=>rfl):JE X (.Subscript a b pos) (tD W O (ap g φ ψ)) :=
 Ee (t:=wH r) (fun h1 h2=>Hg hr h1 h2 hs) rfl hd ha hb
def SY (W:Wd) (r:V->Hp->VK->Prop) (op:D->R D):Prop:=∀ (as:List Addr) (H:Hp) (x:V) (a:D) (Q:VK),dR W.K (aG as H) a x->eV W as H (op a) Q->r x H Q
def Hv (op:D->R D) (φ:FE):FE:=fun δ=>(φ δ).bind op
def LG {op:UnaryOp} {r:V->Hp->VK->Prop} {g:D->R D} (ho:Hr X (unaryOp op) r) (hd:SY W r g) (ha:JE X a (tD W O φ)):JE X (.UnaryOp op a pos) (tD W O (Hv g φ)) :=
 (RJ ho ha).imp fun σ H Q hh=>fT hh fun as0 B own δ I h=>⟨as0,B,own,δ,I,dr h fun x v H1 s1 d1 h1=>hd (own++as0) H1 v x Q d1 h1⟩
def G3 {α:Type} (d:D) (f:Bool->R α):R α:=match d with
 | .bl b=>f b
 | _=>.no
def zm (φ:FE):FE:=fun δ=>(φ δ).bind fun x=>G3 x fun b=>.ok (.bl (!b))
def mI (φ ψ:FE):FE:=fun δ=>(φ δ).bind fun x=>G3 x fun b=>if b=true then ψ δ else .ok (.bl false)
def FV (ha:JE X a (tD W O φ)):JE X (.UnaryOp .Not a pos) (tD W O (zm φ)) :=
 (P4 ha).imp fun σ H Q hh=>fT hh fun as0 B own δ I h=>⟨as0,B,own,δ,I,dr h fun x v H1 s1 d1 h1=>by
  cases x with
  | bl b=>cases d1;exact h1 _ H1 (ax.refl _) rfl
  | _=>exact h1.elim⟩
def oN {op} (h:JE X a (tD W O φ)):JE X (.BoolOp op [a] pos) (tD W O φ):=Os h
def kD (ha:JE X a (tD W O φ)) (hb:JE X (.BoolOp .And (b::rest) pos) (tD W O ψ)):JE X (.BoolOp .And (a::b::rest) pos) (tD W O (mI φ ψ)) :=
 (NT ha hb).imp fun σ H Q hh=>fT hh fun as0 B own δ I h=>⟨as0,B,own,δ,I,dr h fun x v H1 s1 d1 h1=>by
  cases x with
  | bl b =>
   cases d1;cases b with
   | true=>exact ⟨as0,B,own,δ,I.mono s1,h1⟩
   | false=>exact h1 _ H1 (ax.refl _) rfl
  | _=>exact h1.elim⟩
variable {τ υ:FT}
def b5 (φ:FE):FT:=fun δ=>(φ δ).bind fun x=>G3 x .ok
def aO {op:CmpOp} {r:R2} {g:D->D->R D} (ho:fA X (compareOp op) r) (hd:sS W r g) (ha:JE X a (tD W O φ)) (hb:JE X b (tD W O ψ)) (hm:behindInMarks op b=false):JT X (.Compare a [op] [b] pos) (oE W O (b5 (ap g φ ψ))):=by
 refine (Dm ho ha hb hm).imp fun σ H Q hh=>fT hh fun as0 B own δ I h=>?_;have h':iA W H ((φ δ).bind fun x=>((ψ δ).bind fun y=>g x y).bind fun x=>G3 x .ok) Q:=by
  have e:b5 (ap g φ ψ) δ=(φ δ).bind fun x=>((ψ δ).bind fun y=>g x y).bind fun x=>G3 x .ok:=by
   unfold b5 ap;rw [bind_assoc]
  rw [e] at h;exact h
 refine ⟨as0,B,own,δ,I,gL h' fun x v H1 s1 d1 h1=>?_⟩;have h1':iA W H1 ((ψ δ).bind fun y=>(g x y).bind fun x=>G3 x .ok) Q:=by rw [<- bind_assoc];exact h1
 refine ⟨as0,B,own,δ,I.mono s1,gL h1' fun y u H2 s2 d2 h2=>?_⟩;refine hd (own++as0) H2 v u x y _ (fun p hp=>((I.mono s1).mono s2).new hp) (d1.mono (aP s2)) d2 (gL h2 fun z w H3 s3 d3 h3=>?_);cases z with
 | bl k=>cases d3;exact h3 H3 (ax.refl _)
 | _=>exact h3.elim
def G1:D->R Bool
 | .non=>.ok false
 | .bl b=>.ok b
 | .int i=>.ok (i != 0)
 | .str y=>if y.length<=1000000 then .ok (y.length != 0) else .no
 | .lst xs=>.ok (!xs.isEmpty)
 | .tup xs=>.ok (!xs.isEmpty)
 | .dct kvs=>.ok (!kvs.isEmpty)
 | _=>.no
def aJ.empty {K:PySem.W.Frag} {H:Hp} {ds:List D} {xs:List V} (h:aJ K H ds xs):xs.isEmpty=ds.isEmpty:=by
 cases ds with
 | nil=>cases h;rfl
 | cons d r=>obtain ⟨v,vs,rfl,_⟩:=h;rfl
def uX.empty {K:PySem.W.Frag} {H:Hp} {ds:List (pF×D)} {xs:List (pF×V)} (h:uX K H ds xs):xs.isEmpty=ds.isEmpty:=by
 cases ds with
 | nil=>cases h;rfl
 | cons d r=>obtain ⟨k,d⟩:=d;obtain ⟨v,vs,rfl,_⟩:=h;rfl
def c9:(1000000:Nat)<=sizeLine:=by rw [sizeLine_eq];decide
def cq (φ:FE):FT:=fun δ=>(φ δ).bind G1
def aX (K:PySem.W.Frag) (ha:JE X a (tD W O φ)) (he:∀ la,isTrue a X.env la=(do let v <- la;standAt a.pos;holding [v] (truthy v)):=by exact fun _=>rfl) (hK:X.K=K:=by rfl) (hW:W.K=K:=by rfl):JT X a (oE W O (cq φ)) :=
 (EG K ha he hK).imp fun σ H Q hh=>fT hh fun as0 B own δ I h=>⟨as0,B,own,δ,I,gL h fun x v H1 s1 d1 h1=>by
  subst hW;cases x with
  | non=>cases d1;exact h1 H1 (ax.refl _)
  | bl b=>cases d1;exact h1 H1 (ax.refl _)
  | int i=>cases d1;exact h1 H1 (ax.refl _)
  | str y =>
   cases d1;have h2:iA W H1 (if y.length<=1000000 then R.ok (y.length != 0) else R.no) Q:=h1;split at h2
   ·rename_i hl;refine ⟨Nat.le_trans hl c9,?_⟩;have e:((y.length:Int) != 0)=(y.length != 0):=by
     cases hy:y.length with
     | zero=>rfl
     | succ n=>simp;omega
    rw [e];exact h2 H1 (ax.refl _)
   ·exact h2.elim
  | lst ds =>
   obtain ⟨p,xs,rfl,q1,q2⟩:=d1;refine .inl (.inl ⟨xs,(aD _ _).seq q1,?_⟩);rw [q2.empty];exact h1 H1 (ax.refl _)
  | tup ds =>
   obtain ⟨p,xs,rfl,q1,q2⟩:=d1;refine .inl (.inr ⟨xs,(aD _ _).seqT q1,?_⟩);rw [q2.empty];exact h1 H1 (ax.refl _)
  | dct ds =>
   obtain ⟨p,xs,rfl,q1,q2⟩:=d1;refine .inr ⟨xs,aD _ _ _ _ q1,?_⟩;rw [q2.empty];exact h1 H1 (ax.refl _)
  | _=>exact h1.elim⟩
def qu (τ υ:FT):FT:=fun δ=>(τ δ).bind fun b=>if b=true then υ δ else .ok false
def rP (τ υ:FT):FT:=fun δ=>(τ δ).bind fun b=>if b=true then .ok true else υ δ
def dh (τ:FT):FT:=fun δ=>(τ δ).bind fun b=>.ok (!b)
def cV (h:JW X a (oE W O τ)):JT X a (oE W O τ):=HC h
def pG (ha:JT X a (oE W O τ)):JW X (.BoolOp .And [a] pos) (oE W O τ):=GZ ha
def jE (ha:JT X a (oE W O τ)):JW X (.BoolOp .Or [a] pos) (oE W O τ):=Kd ha
def sY (ha:JT X a (oE W O τ)) (hb:JW X (.BoolOp .And (b::rest) pos) (oE W O υ)):JW X (.BoolOp .And (a::b::rest) pos) (oE W O (qu τ υ)) :=
 (Lj ha hb).imp fun σ H Q hh=>fT hh fun as0 B own δ I h=>⟨as0,B,own,δ,I,nY h fun c H1 s1 h1=>by
  cases c with
  | true=>exact ⟨as0,B,own,δ,I.mono s1,h1⟩
  | false=>exact h1 H1 (ax.refl _)⟩
def iZ (ha:JT X a (oE W O τ)) (hb:JW X (.BoolOp .Or (b::rest) pos) (oE W O υ)):JW X (.BoolOp .Or (a::b::rest) pos) (oE W O (rP τ υ)) :=
 (Oe ha hb).imp fun σ H Q hh=>fT hh fun as0 B own δ I h=>⟨as0,B,own,δ,I,nY h fun c H1 s1 h1=>by
  cases c with
  | false=>exact ⟨as0,B,own,δ,I.mono s1,h1⟩
  | true=>exact h1 H1 (ax.refl _)⟩
def cu (ha:JT X a (oE W O τ)):JT X (.UnaryOp .Not a pos) (oE W O (dh τ)) :=
 (LK ha).imp fun σ H Q hh=>fT hh fun as0 B own δ I h=>⟨as0,B,own,δ,I,nY h fun c H1 s1 h1=>h1 H1 (ax.refl _)⟩
def Jr (τ:FT) (φ ψ:FE):FE:=fun δ=>(τ δ).bind fun b=>if b=true then φ δ else ψ δ
def I0 (hc:JT X c (oE W O τ)) (ha:JE X a (tD W O φ)) (hb:JE X b (tD W O ψ)):JE X (.IfExp c a b pos) (tD W O (Jr τ φ ψ)) :=
 (MN hc ha hb).imp fun σ H Q hh=>fT hh fun as0 B own δ I h=>⟨as0,B,own,δ,I,pd h fun c H1 s1 h1=>by
  cases c with
  | true=>exact ⟨as0,B,own,δ,I.mono s1,h1⟩
  | false=>exact ⟨as0,B,own,δ,I.mono s1,h1⟩⟩
def ak:FA:=fun _=>.ok []
def aa (φ:FE) (α:FA):FA:=fun δ=>(φ δ).bind fun d=>(α δ).bind fun ds=>.ok (d::ds)
def ai:JA X [] (AB W O ak):=iU.imp fun σ H Q hh=>fT hh fun as0 B own δ I h=>h [] H (ax.refl _) rfl
def ab (ha:JE X e (tD W O φ)) (hr:JA X es (AB W O α)) (hn:a8 e=true:=by rfl):JA X (e::es) (AB W O (aa φ α)) :=
 (gt ha hr hn).imp fun σ H Q hh=>fT hh fun as0 B own δ I h=>⟨as0,B,own,δ,I,zU h fun d v H1 s1 d1 h1=>⟨as0,B,own,δ,I.mono s1,xP h1 fun ds vs H2 s2 d2 h2 =>
  h2 (v::vs) H2 (ax.refl _) ⟨v,vs,rfl,d1.mono (aP s2),d2⟩⟩⟩
def yE (ds:List D):R D:=if ds.length<=1000000 then .ok (.lst ds) else .no
def Be (ds:List D):R D:=if ds.length<=1000000 then .ok (.tup ds) else .no
def ee (α:FA):FE:=fun δ=>(α δ).bind yE
def gI (α:FA):FE:=fun δ=>(α δ).bind Be
def Cu {as:List Addr} {H:Hp} {ds:List D} {xs:List V} {Q:VK} (h:i7 W as H (yE ds) Q) (hd:aJ W.K (aG as H) ds xs):xs.length<=sizeLine/\∀ p,H p=none->Q (.ref p) (cQ H p (.lst xs)):=by
 unfold yE at h;split at h
 ·rename_i hl;refine ⟨by rw [<- hd.len];exact Nat.le_trans hl c9,fun p hp=>?_⟩;refine h p (.lst xs) (cQ H p (.lst xs)) (aU hp _) hp aZ ⟨xs,rfl,hd.mono ?_⟩;intro b o e;have hb:b≠p:=fun z=>by
   subst z
   have:=aD _ _ _ _ e
   rw [hp] at this;cases this
  by_cases hm:b∈as
  ·rw [dI hm] at e;cases e
  ·rw [aV hm] at e;rw [aV (by simp [hb,hm]),bf hb];exact e
 ·exact h.elim
def fP (h:JA X es (AB W O α)):JE X (.List es pos) (tN W O (ee α)) :=
 (y6 h).imp fun σ H Q hh=>fT hh fun as0 B own δ I h=>⟨as0,B,own,δ,I,nI h fun ds xs H1 s1 d1 h1=>Cu h1 d1⟩
def cI (h:JE X e (tN W O φ)):JE X e (tD W O φ):=h.imp fun σ H Q hh=>fT hh fun as0 B own δ I q=>by
 refine ⟨as0,B,own,δ,I,?_⟩;cases hr:φ δ with
 | ok d =>
  rw [hr] at q;exact fun p o H' s hp e od=>q (.ref p) H' s (od.den (I.new hp) e)
 | er x=>rw [hr] at q;exact q
 | no=>rw [hr] at q;exact q
def iY {x1} (h:JA X es (AB W O α)):JE X (.Tuple es x1 pos) (tD W O (gI α)) :=
 (Ov h).imp fun σ H Q hh=>fT hh fun as0 B own δ I h=>⟨as0,B,own,δ,I,gT h fun ds xs H1 s1 d1 h1=>by
  unfold Be at h1;split at h1
  ·rename_i hl;refine ⟨by rw [<- d1.len];exact Nat.le_trans hl c9,fun p hp=>?_⟩;have hn:=(I.mono s1).new hp;refine h1 (.ref p) (cQ H1 p (.tup xs)) (aU hp _) ⟨p,xs,rfl,.inl (.inl ?_),d1.mono (aP (aU hp _))⟩;rw [aV hn];exact aZ
  ·exact h1.elim⟩
def oQ (W:Wd) (r:List V->Hp->VK->Prop) (g:List D->R D):Prop:=∀ (as:List Addr) (H:Hp) (xs:List V) (ds:List D) (Q:VK),(∀ a∈as,H a≠none)->aJ W.K (aG as H) ds xs->eV W as H (g ds) Q->r xs H Q
def IZ (W:Wd) (r:List V->Hp->VK->Prop) (g:List D->R D):Prop:=∀ (as:List Addr) (H:Hp) (xs:List V) (ds:List D) (Q:VK),(∀ a∈as,H a≠none)->aJ W.K (aG as H) ds xs->i7 W as H (g ds) Q->r xs H Q
def aj (g:List D->R D) (α:FA):FE:=fun δ=>(α δ).bind g
section
variable {x:Str} {p:Pos} {id T:String} {r:List V->Hp->VK->Prop} {g:List D->R D}
def aC (hc:cx X (.builtin id) r) (hd:oQ W r g) (hm:X.mg x=none) (hv:bootBuiltins x=some (.builtin id)) (ha:JA X (e::es) (AB W O α)) (hg:Gl X x:=by rfl) (h1:a8 e=true:=by rfl) (h2:es.all a8=true:=by rfl) (hn:x≠"__name__":=by decide) (hdb:(x==("__debug__":Str))=false:=by decide) :
  JE X (.Call (.Name x p) (e::es) [] pos) (tD W O (aj g α)) :=
 (Bg hc hm hv ha hg h1 h2 hn hdb).imp fun σ H Q hh=>fT hh fun as0 B own δ I h=>⟨as0,B,own,δ,I,gT h fun ds xs H1 s1 d1 h1=>hd (own++as0) H1 xs ds Q (I.mono s1).exi d1 h1⟩
def fD (hc:cx X (.type T) r) (hd:oQ W r g) (hm:X.mg x=none) (hv:bootBuiltins x=some (.type T)) (ha:JA X (e::es) (AB W O α)) (hg:Gl X x:=by rfl) (h1:a8 e=true:=by rfl) (h2:es.all a8=true:=by rfl) (hn:x≠"__name__":=by decide) (hdb:(x==("__debug__":Str))=false:=by decide) :
  JE X (.Call (.Name x p) (e::es) [] pos) (tD W O (aj g α)) :=
 (xB hc hm hv ha hg h1 h2 hn hdb).imp fun σ H Q hh=>fT hh fun as0 B own δ I h=>⟨as0,B,own,δ,I,gT h fun ds xs H1 s1 d1 h1=>hd (own++as0) H1 xs ds Q (I.mono s1).exi d1 h1⟩
def Go (hc:cx X (.type T) r) (hd:IZ W r g) (hm:X.mg x=none) (hv:bootBuiltins x=some (.type T)) (ha:JA X (e::es) (AB W O α)) (hg:Gl X x:=by rfl) (h1:a8 e=true:=by rfl) (h2:es.all a8=true:=by rfl) (hn:x≠"__name__":=by decide) (hdb:(x==("__debug__":Str))=false:=by decide) :
  JE X (.Call (.Name x p) (e::es) [] pos) (tN W O (aj g α)) :=
 (xB hc hm hv ha hg h1 h2 hn hdb).imp fun σ H Q hh=>fT hh fun as0 B own δ I h=>⟨as0,B,own,δ,I,nI h fun ds xs H1 s1 d1 h1=>hd (own++as0) H1 xs ds Q (I.mono s1).exi d1 h1⟩
end
def c6:Sd->R (Option Int):=fun _=>.ok none
def bx (φ:FE):Sd->R (Option Int):=fun δ=>(φ δ).bind fun d=>match d with
 | .int i=>.ok (some i)
 | _=>.no
def fz:JO X none (QQ W O c6):=Ge.imp fun σ H Q hh=>fT hh fun as0 B own δ I h=>h H (ax.refl _)
def bC (h:JE X e (tD W O φ)):JO X (some e) (QQ W O (bx φ)):=(GL h).imp fun σ H Q hh=>fT hh fun as0 B own δ I h=>⟨as0,B,own,δ,I,gL h fun d v H1 s1 d1 h1=>by
  cases d with
  | int i=>cases d1;exact h1 H1 (ax.refl _)
  | _=>exact h1.elim⟩
def Sk (W:Wd) (r:V->Option Int->Option Int->Hp->VK->Prop) (g:D->Option Int->Option Int->R D):Prop :=
 ∀ (as:List Addr) (H:Hp) (x:V) (lo hi:Option Int) (a:D) (Q:VK),(∀ p,H p=none->p∉as)->dR W.K (aG as H) a x->eV W as H (g a lo hi) Q->r x lo hi H Q
def mN (g:D->Option Int->Option Int->R D) (φ:FE) (l u:Sd->R (Option Int)):FE:=fun δ=>(φ δ).bind fun x=>(l δ).bind fun lo=>(u δ).bind fun hi=>g x lo hi
def cz {r:V->Option Int->Option Int->Hp->VK->Prop} {g:D->Option Int->Option Int->R D} {lo hi:Option Expr} {l u:Sd->R (Option Int)} {p2:Pos} (hr:Ad X r) (hd:Sk W r g) (he:JE X e (tD W O φ)) (hl:JO X lo (QQ W O l)) (hu:JO X hi (QQ W O u)) :
  JE X (.Subscript e (.Slice lo hi none p2) pos) (tD W O (mN g φ l u)) :=
 (G7 hr he hl hu).imp fun σ H Q hh=>fT hh fun as0 B own δ I h=>⟨as0,B,own,δ,I,dr h fun x v H1 s1 d1 h1=>⟨as0,B,own,δ,I.mono s1,pd h1 fun lo H2 s2 h2=>⟨as0,B,own,δ,(I.mono s1).mono s2,pd h2 fun hi H3 s3 h3 =>
  hd (own++as0) H3 v lo hi x Q (fun p hp=>(((I.mono s1).mono s2).mono s3).new hp) (d1.mono (aP (s2.trans s3))) h3⟩⟩⟩
def GB (W:Wd) (r:Str->List V->Hp->VK->Prop) (g:Str->List D->R D):Prop :=
 ∀ (as:List Addr) (H:Hp) (z:Str) (xs:List V) (ds:List D) (Q:VK),(∀ p,H p=none->p∉as)->aJ W.K (aG as H) ds xs->eV W as H (g z ds) Q->r z xs H Q
def oH (g:Str->List D->R D) (φ:FE) (α:FA):FE:=fun δ=>(φ δ).bind fun x=>match x with
 | .str z=>(α δ).bind fun ds=>g z ds
 | _=>.no
def kQ {o:Expr} {name:Str} {apos cpos:Pos} {id:String} {r:Str->List V->Hp->VK->Prop} {g:Str->List D->R D} (slot:Slot "str" name id) (hty:typeOf (.builtin id)=pure (.type "method_descriptor")) (hm:DU X id r) (hd:GB W r g) (ho:JE X o (tD W O φ)) (ha:JA X (e::es) (AB W O α))
  (hbase:attributeBase o name X.env (eval o X.env)=eval o X.env:=by rfl) (hline:(apos.endLine==cpos.line)=true:=by rfl) (h1:(e::es).all a8=true:=by rfl) (hl:(e::es).length < 29:=by decide) :
  JE X (.Call (.Attribute o name apos) (e::es) [] cpos) (tD W O (oH g φ α)) :=
 (Rj slot hty hm ho ha hbase hline h1 hl).imp fun σ H Q hh=>fT hh fun as0 B own δ I h=>⟨as0,B,own,δ,I,dr h fun x v H1 s1 d1 h1=>by
  cases x with
  | str z =>
   cases d1;exact ⟨as0,B,own,δ,I.mono s1,gT h1 fun ds xs H2 s2 d2 h2=>hd (own++as0) H2 z xs ds Q (fun p hp=>((I.mono s1).mono s2).new hp) d2 h2⟩
  | _=>exact h1.elim⟩
end
inductive Fl where
 | nx (δ:Sd)|rt (d:D)|bk (δ:Sd)|ct (δ:Sd)
 /-- a return of what is laid anew,and nobody else's -/
 | rn (d:D)
abbrev FS:=Sd->R Fl
def cr (W:Wd) (as0:List Addr) (B:Hp) (Ob O':List Nat) (r:R Fl) (D:Ends):Prop:=match r with
 | .ok (.nx δ)=>∀ own σ H,DI W.K as0 B O' own σ δ H->D.nx σ H
 | .ok (.bk δ)=>∀ own σ H,DI W.K as0 B Ob own σ δ H->D.bk σ H
 | .ok (.ct δ)=>∀ own σ H,DI W.K as0 B Ob own σ δ H->D.ct σ H
 | .ok (.rt d)=>∀ v H,ax B H->dR W.K (aG as0 H) d v->D.rt v H
 | .ok (.rn d)=>∀ p o H,ax B H->B p=none->H p=some o->l9 W.K (aG (p::as0) H) o d->D.rt (.ref p) H
 | .er x=>∀ e C H,ax B H->W.mg x=some (.ref C)->W.E e (some C) H
 | .no=>False
def sD (W:Wd) (Ob O O':List Nat) (φ:FS):TS:=fun D σ H=>∃ as0 B own δ,DI W.K as0 B O own σ δ H/\cr W as0 B Ob O' (φ δ) D
section
variable {W:Wd} {as0 own:List Addr} {B H:Hp} {Ob O O':List Nat} {σ:St} {δ:Sd} {D':Ends}
def lO {r:R D} {f:D->R Fl} {Q:VK} (I:DI W.K as0 B O own σ δ H) (h:cr W as0 B Ob O' (r.bind f) D') (q:∀ d v H',ax H H'->dR W.K (aG (own++as0) H') d v->cr W as0 B Ob O' (f d) D'->Q v H'):eV W (own++as0) H r Q:=by
 cases r with
 | ok d=>exact fun v H' s dv=>q d v H' s dv h
 | er x=>exact fun e C H' s=>h e C H' (I.same.trans s)
 | no=>exact h
def mP {r:R D} {f:D->R Fl} {Q:VK} (I:DI W.K as0 B O own σ δ H) (h:cr W as0 B Ob O' (r.bind f) D') (q:∀ d p o H',ax H H'->H p=none->H' p=some o->l9 W.K (aG (p::(own++as0)) H') o d->cr W as0 B Ob O' (f d) D'->Q (.ref p) H'):i7 W (own++as0) H r Q:=by
 cases r with
 | ok d=>exact fun p o H' s h1 h2 h3=>q d p o H' s h1 h2 h3 h
 | er x=>exact fun e C H' s=>h e C H' (I.same.trans s)
 | no=>exact h
def rR {α:Type} {r:R α} {f:α->R Fl} {Q:α->Hp->Prop} (I:DI W.K as0 B O own σ δ H) (h:cr W as0 B Ob O' (r.bind f) D') (q:∀ d H',ax H H'->cr W as0 B Ob O' (f d) D'->Q d H'):iA W H r Q:=by
 cases r with
 | ok d=>exact fun H' s=>q d H' s h
 | er x=>exact fun e C H' s=>h e C H' (I.same.trans s)
 | no=>exact h
def cr.base {B':Hp} {r:R Fl} (h:cr W as0 B Ob O' r D') (s:ax B B') (h0:∀ a∈as0,B a≠none):cr W as0 B' Ob O' r D':=by
 cases r with
 | ok f =>
  cases f with
  | nx δ=>exact fun own σ H I=>h own σ H (I.base s h0)
  | bk δ=>exact fun own σ H I=>h own σ H (I.base s h0)
  | ct δ=>exact fun own σ H I=>h own σ H (I.base s h0)
  | rt d=>exact fun v H s'=>h v H (s.trans s')
  | rn d=>exact fun p o H s' hp=>h p o H (s.trans s') (s.free hp)
 | er x=>exact fun e C H s'=>h e C H (s.trans s')
 | no=>exact h
def getElem?_set' {α:Type} {l:List α} {i j:Nat} {x:α}:(l.set i x)[j]?=if i=j then (if i < l.length then some x else none) else l[j]?:=List.getElem?_set
def DI.set {i:Nat} {d:D} {v:V} (I:DI W.K as0 B O own σ δ H) (hO:i∉O) (h:dR W.K (aG (own++as0) H) d v):DI W.K as0 B O own (σ.set i (some v)) (δ.set i (some d)) H:=by
 refine ⟨by simp [I.len],I.olen,I.nd,I.ond,I.fresh,I.ex0,I.same,fun j e hj q=>?_,fun j a hj=>?_⟩
 ·rw [getElem?_set'] at q ⊢;split at q
  ·rename_i hij;rw [if_pos hij];split at q
   ·rename_i hl;rw [if_pos (by rw [<- I.len];exact hl)];cases q;exact ⟨v,rfl,h⟩
   ·cases q
  ·rename_i hij;rw [if_neg hij];exact I.var j e hj q
 ·have hji:i≠j:=fun z=>hO (by rw [z];exact (List.of_mem_zip hj).1);obtain ⟨d',o,h1,h2,h3,h4⟩:=I.owns j a hj;exact ⟨d',o,by rw [getElem?_set',if_neg hji];exact h1,by rw [getElem?_set',if_neg hji];exact h2,h3,h4⟩
def zip_inj:∀ {O:List Nat} {own:List Addr} {i j:Nat} {a:Addr},own.Nodup->(i,a)∈O.zip own->(j,a)∈O.zip own->i=j
 | [],_,_,_,_,_,h,_=>by simp at h
 | _::_,[],_,_,_,_,h,_=>by simp at h
 | k::O,b::own,i,j,a,nd,h1,h2=>by
  rw [List.zip_cons_cons] at h1 h2;rw [List.nodup_cons] at nd;rcases List.mem_cons.mp h1 with e1|h1 <;> rcases List.mem_cons.mp h2 with e2|h2
  ·cases e1;cases e2;rfl
  ·cases e1;exact absurd (List.of_mem_zip h2).2 nd.1
  ·cases e2;exact absurd (List.of_mem_zip h1).2 nd.1
  ·exact zip_inj nd.2 h1 h2
def gw:∀ {O:List Nat} {own:List Addr} {i:Nat},own.length=O.length->i∈O->∃ a,(i,a)∈O.zip own
 | [],_,_,_,h=>by cases h
 | k::O,[],_,l,_=>by simp at l
 | k::O,b::own,i,l,h=>by
  rcases List.mem_cons.mp h with rfl|h
  ·exact ⟨b,List.mem_cons_self⟩
  ·obtain ⟨a,ha⟩:=gw (O:=O) (own:=own) (by simpa using l) h;exact ⟨a,List.mem_cons_of_mem _ ha⟩
def ce (p:Nat->Bool):List Nat->List Addr->List Addr
 | i::O,a::own=>if p i=true then a::ce p O own else ce p O own
 | _,_=>[]
def nX {p:Nat->Bool}:∀ {O:List Nat} {own:List Addr},(ce p O own).Sublist own
 | [],own=>by simp [ce]
 | _::_,[]=>by simp [ce]
 | i::O,a::own=>by
  unfold ce;split
  ·exact (nX (O:=O)).cons_cons a
  ·exact (nX (O:=O)).cons a
def sq {p:Nat->Bool}:∀ {O:List Nat} {own:List Addr},own.length=O.length->(ce p O own).length=(O.filter p).length
 | [],[],_=>rfl
 | i::O,a::own,l=>by
  have ih:=sq (p:=p) (O:=O) (own:=own) (by simpa using l);unfold ce;rw [List.filter_cons];split
  ·simp [ih]
  ·exact ih
 | [],_::_,l=>by simp at l
 | _::_,[],l=>by simp at l
def iy {p:Nat->Bool}:∀ {O:List Nat} {own:List Addr} {i:Nat} {a:Addr},(i,a)∈(O.filter p).zip (ce p O own)->(i,a)∈O.zip own/\p i=true
 | [],_,_,_,h=>by simp at h
 | _::_,[],_,_,h=>by simp [ce] at h
 | k::O,b::own,i,a,h=>by
  unfold ce at h;rw [List.filter_cons] at h;by_cases hp:p k=true
  ·rw [if_pos hp,if_pos hp,List.zip_cons_cons] at h;rcases List.mem_cons.mp h with e|h
   ·cases e;exact ⟨List.mem_cons_self,hp⟩
   ·exact ⟨List.mem_cons_of_mem _ (iy h).1,(iy h).2⟩
  ·rw [if_neg hp,if_neg hp] at h;exact ⟨List.mem_cons_of_mem _ (iy h).1,(iy h).2⟩
def mS {p:Nat->Bool}:∀ {O:List Nat} {own:List Addr} {a:Addr},a∈ce p O own->∃ i,(i,a)∈O.zip own/\p i=true
 | [],_,_,h=>by simp [ce] at h
 | _::_,[],_,h=>by simp [ce] at h
 | k::O,b::own,a,h=>by
  unfold ce at h;split at h
  ·rename_i hp;rcases List.mem_cons.mp h with e|h
   ·subst e;exact ⟨k,List.mem_cons_self,hp⟩
   ·obtain ⟨i,h1,h2⟩:=mS h;exact ⟨i,List.mem_cons_of_mem _ h1,h2⟩
  ·obtain ⟨i,h1,h2⟩:=mS h;exact ⟨i,List.mem_cons_of_mem _ h1,h2⟩
def DI.freeze {O2:List Nat} (I:DI W.K as0 B O own σ δ H) (hO:O.filter (fun i=>decide (i∈O2))=O2):∃ own2,DI W.K as0 B O2 own2 σ δ H:=by
 generalize hp:(fun i=>decide (i∈O2))=p at hO;have pi:∀ i,p i=decide (i∈O2):=fun i=>by rw [<- hp]
 have sub:(ce p O own).Sublist own:=nX;have mem:∀ a∈ce p O own,a∈own:=fun a ha=>sub.mem ha;have s:ax (aG (own++as0) H) (aG (ce p O own++as0) H):=gf fun a ha=>by
  rcases List.mem_append.mp ha with h|h
  ·exact List.mem_append_left _ (mem a h)
  ·exact List.mem_append_right _ h
 refine ⟨ce p O own,I.len,by rw [sq I.olen,hO],I.nd.sublist sub,by rw [<- hO];exact I.ond.sublist List.filter_sublist,fun a ha=>I.fresh a (mem a ha),I.ex0,I.same,fun i d hi q=>?_,fun i a hi=>?_⟩
 ·by_cases h:i∈O
  ·obtain ⟨a,ha⟩:=gw I.olen h;obtain ⟨d',o,h1,h2,h3,h4⟩:=I.owns i a ha;rw [q] at h1;cases h1;refine ⟨.ref a,h2,l9.den ?_ h3 (h4.mono (gf fun b hb=>?_))⟩
   ·intro z;rcases List.mem_append.mp z with z|z
    ·obtain ⟨j,h5,h6⟩:=mS z
     have:=zip_inj I.nd ha h5
     subst this;rw [pi] at h6;exact hi (of_decide_eq_true h6)
    ·exact I.apart a (List.of_mem_zip ha).2 z
   ·rcases List.mem_cons.mp hb with rfl|hb
    ·exact List.mem_append_left _ (List.of_mem_zip ha).2
    ·rcases List.mem_append.mp hb with h|h
     ·exact List.mem_append_left _ (mem b h)
     ·exact List.mem_append_right _ h
  ·obtain ⟨v,h1,h2⟩:=I.var i d h q;exact ⟨v,h1,h2.mono s⟩
 ·rw [<- hO] at hi;obtain ⟨d,o,h1,h2,h3,h4⟩:=I.owns i a (iy hi).1;exact ⟨d,o,h1,h2,h3,h4.mono s⟩
def DI.own1 {i:Nat} {d:D} {p:Addr} {o:HO} (I:DI W.K as0 B O own σ δ H) (hO:i∉O) (hp:B p=none) (hn:p∉own++as0) (e:H p=some o) (h:l9 W.K (aG (p::(own++as0)) H) o d) (hi:i < δ.length)
  (fr:∀ j d',j∉O->δ[j]?=some (some d')->∃ v,σ[j]?=some (some v)/\dR W.K (aG (p::(own++as0)) H) d' v)
  (fo:∀ j a,(j,a)∈O.zip own->∃ d o,δ[j]?=some (some d)/\σ[j]?=some (some (.ref a))/\H a=some o/\l9 W.K (aG (p::(own++as0)) H) o d) :
  DI W.K as0 B (i::O) (p::own) (σ.set i (some (.ref p))) (δ.set i (some d)) H:=by
 refine ⟨by simp [I.len],by simp [I.olen],List.nodup_cons.mpr ⟨fun z=>hn (List.mem_append_left _ z),I.nd⟩,List.nodup_cons.mpr ⟨hO,I.ond⟩,fun a ha=>?_,I.ex0,I.same,fun j e hj q=>?_,fun j a hj=>?_⟩
 ·rcases List.mem_cons.mp ha with rfl|ha
  ·exact hp
  ·exact I.fresh a ha
 ·have hji:i≠j:=fun z=>hj (by rw [z];exact List.mem_cons_self);rw [getElem?_set',if_neg hji] at q ⊢;exact fr j e (fun z=>hj (List.mem_cons_of_mem _ z)) q
 ·rw [List.zip_cons_cons] at hj;rcases List.mem_cons.mp hj with z|hj
  ·cases z;refine ⟨d,o,?_,?_,e,h⟩
   ·rw [getElem?_set',if_pos rfl,if_pos hi]
   ·rw [getElem?_set',if_pos rfl,if_pos (by rw [<- I.len];exact hi)]
  ·have hji:i≠j:=fun z=>hO (by rw [z];exact (List.of_mem_zip hj).1);obtain ⟨d',o',h1,h2,h3,h4⟩:=fo j a hj;exact ⟨d',o',by rw [getElem?_set',if_neg hji];exact h1,by rw [getElem?_set',if_neg hji];exact h2,h3,h4⟩
end
section
variable {X:Cx} {W:Wd} {Ob O O' O1 O2:List Nat} {e c:Expr} {φ ψ:FS} {ε:FE} {τ:FT} {pos:Pos} {st:Stmt} {sts rest:List Stmt}
def aF:FS:=fun δ=>.ok (.nx δ)
def aw (φ ψ:FS):FS:=fun δ=>(φ δ).bind fun f=>match f with
 | .nx δ'=>ψ δ'
 | f=>.ok f
def aL:JB X [] (sD W Ob O O aF):=ub.imp fun D σ H hh=>fT hh fun as0 B own δ I h=>h own σ H I
def al (h1:JS X st (sD W Ob O O1 φ)) (h2:JB X rest (sD W Ob O1 O2 ψ)):JB X (st::rest) (sD W Ob O O2 (aw φ ψ)):=(gd h1 h2).imp fun D σ H hh=>fT hh fun as0 B own δ I h=>by
 refine ⟨as0,B,own,δ,I,?_⟩;unfold aw at h;cases hr:φ δ with
 | ok f =>
  rw [hr] at h;cases f with
  | nx δ'=>exact fun own' σ' H' I'=>⟨as0,B,own',δ',I',h⟩
  | rt d=>exact h
  | rn d=>exact h
  | bk d=>exact h
  | ct d=>exact h
 | er x=>rw [hr] at h;exact h
 | no=>rw [hr] at h;exact h
def aq (h1:JS X st (sD W Ob O O1 φ)):JB X [st] (sD W Ob O O1 φ):=pz h1
def oX (h:JB X sts (sD W Ob O2 O' φ)) (hO:O.filter (fun i=>decide (i∈O2))=O2:=by decide):JB X sts (sD W Ob O O' φ):=h.imp fun D σ H hh=>fT hh fun as0 B own δ I h =>
 let ⟨own2,I2⟩:=I.freeze hO;⟨as0,B,own2,δ,I2,h⟩
def a7 (ε:FE):FS:=fun δ=>(ε δ).bind fun d=>.ok (.rt d)
def aA (h:JE X e (tD W O ε)):JS X (.Return (some e) pos) (sD W Ob O O' (a7 ε)):=(tY h).imp fun D σ H hh=>fT hh fun as0 B own δ I h =>
 ⟨as0,B,own,δ,I,lO I h fun d v H' s dv h'=>h' v H' (I.same.trans s) (dv.mono (gf fun a ha=>List.mem_append_right _ ha))⟩
def Bv (ε:FE):FS:=fun δ=>(ε δ).bind fun d=>.ok (.rn d)
def GN (h:JE X e (tN W O ε)):JS X (.Return (some e) pos) (sD W Ob O O' (Bv ε)):=(tY h).imp fun D σ H hh=>fT hh fun as0 B own δ I h =>
 ⟨as0,B,own,δ,I,mP I h fun d p o H' s hp e od h'=>h' p o H' (I.same.trans s) (I.same.free hp) e (od.mono (gf fun a ha=>by
  rcases List.mem_cons.mp ha with rfl|ha
  ·exact List.mem_cons_self
  ·exact List.mem_cons_of_mem _ (List.mem_append_right _ ha)))⟩
def cN (τ:FT) (φ ψ:FS):FS:=fun δ=>(τ δ).bind fun b=>if b=true then φ δ else ψ δ
def bc {a b:List Stmt} (hc:JT X c (oE W O τ)) (ha:JB X a (sD W Ob O O' φ)) (hb:JB X b (sD W Ob O O' ψ)):JS X (.If c a b pos) (sD W Ob O O' (cN τ φ ψ)):=(yX hc ha hb).imp fun D σ H hh=>fT hh fun as0 B own δ I h =>
 ⟨as0,B,own,δ,I,rR I h fun b H' s h'=>by
  cases b with
  | true=>exact ⟨as0,B,own,δ,I.mono s,h'⟩
  | false=>exact ⟨as0,B,own,δ,I.mono s,h'⟩⟩
def aI (i:Nat) (ε:FE):FS:=fun δ=>(ε δ).bind fun d=>.ok (.nx (δ.set i (some d)))
def aK {i:Nat} {x:Str} {pos':Pos} (hO:i∉O) (hN:X.N.Nodup) (hx:zg X.env.scope x) (he:JE X e (tD W O ε)) (hi:X.N[i]?=some x:=by rfl) (hs:swapsWith e (some (.Name x pos')) pos.line X.env=pure false:=by rfl) (hf:X.fn x=true\/X.env.scope.names.lookup x=some .local:=by first|exact .inl rfl|exact .inr rfl|assumption) :
  JS X (.Assign [.Name x pos'] e pos) (sD W Ob O O (aI i ε)):=(qS hN hx he hi hs hf).imp fun D σ H hh=>fT hh fun as0 B own δ I h =>
 ⟨as0,B,own,δ,I,lO I h fun d v H' s dv h'=>h' own _ H' ((I.mono s).set hO dv)⟩
def m3 (i:Nat) (ε:FE):FS:=fun δ=>(ε δ).bind fun d=>if i < δ.length then .ok (.nx (δ.set i (some d))) else .no
def jI {as:List Addr} {H H':Hp} {p:Addr} (hp:H p=none) (s:ax H H'):ax (aG as H) (aG (p::as) H'):=fun b o e=>by
 by_cases hb:b∈as
 ·rw [dI hb] at e;cases e
 ·rw [aV hb] at e;have hbp:b≠p:=fun z=>by rw [z,hp] at e;cases e
  rw [aV (by simp [hb,hbp])];exact s b o e
def EV {K:PySem.W.Frag} {as0 own:List Addr} {B H H':Hp} {σ:St} {δ:Sd} {i:Nat} {d:D} {p:Addr} {o:HO} (I:DI K as0 B O own σ δ H) (hO:i∉O) (s:ax H H') (hp:H p=none) (e:H' p=some o) (h:l9 K (aG (p::(own++as0)) H') o d) (hi:i < δ.length) :
  DI K as0 B (i::O) (p::own) (σ.set i (some (.ref p))) (δ.set i (some d)) H':=by
 refine DI.own1 (W:=⟨K,fun _=>none,E0⟩) (I.mono s) hO (I.same.free hp) (I.new hp) e h hi (fun j d' hj q=>?_) fun j a hj=>?_
 ·obtain ⟨v,h1,h2⟩:=I.var j d' hj q;exact ⟨v,h1,h2.mono (jI hp s)⟩
 ·obtain ⟨d',o',h1,h2,h3,h4⟩:=I.owns j a hj;exact ⟨d',o',h1,h2,s a o' h3,h4.mono (jI hp s)⟩
def mj {i:Nat} {x:Str} {pos':Pos} (hO:i∉O) (hN:X.N.Nodup) (hx:zg X.env.scope x) (he:JE X e (tN W O ε)) (hi:X.N[i]?=some x:=by rfl) (hs:swapsWith e (some (.Name x pos')) pos.line X.env=pure false:=by rfl) (hf:X.fn x=true\/X.env.scope.names.lookup x=some .local:=by first|exact .inl rfl|exact .inr rfl|assumption) :
  JS X (.Assign [.Name x pos'] e pos) (sD W Ob O (i::O) (m3 i ε)):=(qS hN hx he hi hs hf).imp fun D σ H hh=>fT hh fun as0 B own δ I h =>
 ⟨as0,B,own,δ,I,mP I h fun d p o H' s hp e od h'=>by
  split at h'
  ·rename_i hl;exact h' _ _ H' (EV I hO s hp e od hl)
  ·exact h'.elim⟩
inductive TgD where
 | one (i:Nat)|tup (is:List Nat)
def jY:List Nat->List D->Sd->Sd
 | i::is,d::ds,δ=>jY is ds (δ.set i (some d))
 | _,_,δ=>δ
def gK:TgD->D->Sd->R Sd
 | .one i,d,δ=>.ok (δ.set i (some d))
 | .tup is,.tup ds,δ=>if ds.length=is.length then .ok (jY is ds δ) else .no
 | _,_,_=>.no
def gD (W:Wd) (O:List Nat) (tg:TgD):TG:=fun v σ H Q=>∃ as0 B own δ d,DI W.K as0 B O own σ δ H/\dR W.K (aG (own++as0) H) d v/\match gK tg d δ with
 | .ok δ'=>∀ σ',DI W.K as0 B O own σ' δ' H->Q σ' H
 | _=>False
def QO (W:Wd) (O:List Nat) (is:List Nat):Db:=fun vs σ H Q=>∃ as0 B own δ ds,DI W.K as0 B O own σ δ H/\aJ W.K (aG (own++as0) H) ds vs/\ds.length=is.length/\∀ σ',DI W.K as0 B O own σ' (jY is ds δ) H->Q σ' H
def bD {i:Nat} {x:Str} (hO:i∉O) (hN:X.N.Nodup) (hi:X.N[i]?=some x) (hx:zg X.env.scope x) (hf:X.fn x=true\/X.env.scope.names.lookup x=some .local:=by first|exact .inl rfl|exact .inr rfl|assumption):JG X (.Name x pos) (gD W O (.one i)) :=
 (sP hN hi hx hf).imp fun v σ H Q ⟨as0,B,own,δ,d,I,dv,h⟩=>h _ (I.set hO dv)
def G8:JGs X [] (QO W O []):=BU.imp fun vs σ H Q ⟨as0,B,own,δ,ds,I,dv,hl,h⟩=>by
 cases ds with
 | nil=>cases dv;exact ⟨rfl,h σ I⟩
 | cons _ _=>simp at hl
def yD {i:Nat} {is:List Nat} {e:Expr} {es:List Expr} (h1:JG X e (gD W O (.one i))) (h2:JGs X es (QO W O is))
  (hs:(assignEach (e::es) X.env).map (·.2)=assign e X.env::(assignEach es X.env).map (·.2):=by rfl):JGs X (e::es) (QO W O (i::is)):=(ue h1 h2 hs).imp fun vs σ H Q ⟨as0,B,own,δ,ds,I,dv,hl,h⟩=>by
 cases ds with
 | nil=>simp at hl
 | cons d ds =>
  obtain ⟨v,r,rfl,d1,d2⟩:=dv;exact ⟨v,r,rfl,as0,B,own,δ,d,I,d1,fun σ' I'=>⟨as0,B,own,_,ds,I',d2,by simpa using hl,h⟩⟩
def LF (K:PySem.W.Frag) {es:List Expr} {k:Nat} {is:List Nat} {n:Nat} (h:JGs X es (QO W O is)) (hl:is.length=n:=by rfl) (hc:X.calm=true:=by rfl)
  (hn:(assignEach es X.env).length=n:=by rfl) (hst:(assignEach es X.env).findIdx? (·.1)=none:=by rfl) (hK:X.K=K:=by rfl) (hW:W.K=K:=by rfl):JG X (.Tuple es k pos) (gD W O (.tup is)):=by
 refine (Ei K h hc hn hst hK).imp fun v σ H Q ⟨as0,B,own,δ,d,I,dv,h⟩=>?_;cases d with
 | tup ds =>
  obtain ⟨a,xs,rfl,q1,q2⟩:=dv;have h':(match (if ds.length=is.length then R.ok (jY is ds δ) else .no) with|.ok δ'=>∀ σ',DI W.K as0 B O own σ' δ' H->Q σ' H|_=>False):=h
  by_cases hd:ds.length=is.length
  ·rw [if_pos hd] at h';subst hW;exact ⟨a,xs,rfl,(aD _ _).seqT q1,by rw [<- q2.len,hd,hl],as0,B,own,δ,ds,I,q2,hd,h'⟩
  ·rw [if_neg hd] at h';exact h'.elim
 | _=>exact h.elim
structure GivesD (K:PySem.W.Frag) (as0:List Addr) (B:Hp) (J:It) (xs:List D):Prop where
 go:∀ i H,ax (aG as0 B) H->i < xs.length->J.go i H
 yl:∀ i H v H2 M,ax (aG as0 B) H->(∀ a∈M,H a≠none)->(∀ a∈M,a∈as0\/B a=none)->i < xs.length->J.yld i H v H2->ax H H2/\∃ d,xs[i]?=some d/\dR K (aG M H2) d v
 stop:∀ H,ax (aG as0 B) H->J.stop xs.length H
def mC (W:Wd) (as0 own:List Addr) (H:Hp) (r:R (List D)) (Q:It->Hp->Prop):Prop:=match r with
 | .ok xs=>∀ J H',ax H H'->GivesD W.K as0 (aG own H') J xs->Q J H'
 | .er x=>∀ e C H',ax H H'->W.mg x=some (.ref C)->W.E e (some C) H'
 | .no=>False
def iD (W:Wd) (O:List Nat) (ι:FA):TI:=fun σ H Q=>∃ as0 B own δ,DI W.K as0 B O own σ δ H/\mC W as0 own H (ι δ) Q
def mZ {as0 M:List Addr} {B H:Hp} (s:ax (aG as0 B) H) (h:∀ a∈M,a∈as0\/B a=none):ax (aG as0 B) (aG M H):=fun b o e=>by
 have e':=e;by_cases hb:b∈as0
 ·rw [dI hb] at e;cases e
 ·rw [aV hb] at e;have hm:b∉M:=fun z=>by
   rcases h b z with q|q
   ·exact hb q
   ·rw [q] at e;cases e
  rw [aV hm];exact s b o e'
def Cg {K:PySem.W.Frag} {as0:List Addr} {B:Hp} {a:Addr} {xs:List V} {ds:List D} (h1:dZ K (aG as0 B) a xs) (h2:aJ K (aG as0 B) ds xs):GivesD K as0 B (QU K a) ds where
 go:=fun i H s hi=>by
  have hi':i < xs.length:=by rw [<- h2.len];exact hi
  exact ⟨xs,xs[i],s.seq h1,by simp [hi']⟩
 yl:=fun i H v H2 M s _ hM hi ⟨e,y⟩=>by
  subst e;obtain ⟨d,q1,q2⟩:=h2.got (y xs (s.seq h1));exact ⟨ax.refl _,d,q1,q2.mono (mZ s hM)⟩
 stop:=fun H s=>⟨xs,s.seq h1,by rw [h2.len];exact Nat.le_refl _⟩
def Ca {K:PySem.W.Frag} {as0:List Addr} {B:Hp} {a:Addr} {xs:List V} {ds:List D} (h1:lG K (aG as0 B) a xs) (h2:aJ K (aG as0 B) ds xs):GivesD K as0 B (RA K a) ds where
 go:=fun i H s hi=>by
  have hi':i < xs.length:=by rw [<- h2.len];exact hi
  exact ⟨xs,xs[i],s.seqT h1,by simp [hi']⟩
 yl:=fun i H v H2 M s _ hM hi ⟨e,y⟩=>by
  subst e;obtain ⟨d,q1,q2⟩:=h2.got (y xs (s.seqT h1));exact ⟨ax.refl _,d,q1,q2.mono (mZ s hM)⟩
 stop:=fun H s=>⟨xs,s.seqT h1,by rw [h2.len];exact Nat.le_refl _⟩
abbrev lU (z:Str):List D:=z.cps.toList.map fun c=>D.str ⟨#[c]⟩
def zV {K:PySem.W.Frag} {as0:List Addr} {B:Hp} (z:Str):GivesD K as0 B (L7 z) (lU z) where
 go:=fun i H _ hi=>by
  rw [List.length_map] at hi;simpa [L7,Str.length] using hi
 yl:=fun i H v H2 M _ _ _ hi ⟨e,c,h1,h2⟩=>by
  subst e;refine ⟨ax.refl _,.str ⟨#[c]⟩,?_,h2⟩;rw [List.getElem?_map,Array.getElem?_toList,h1];rfl
 stop:=fun H _=>by
  show _=z.length;rw [List.length_map];simp [Str.length]
def fL (lo:Int) (n:Nat):List D:=(List.range n).map fun (k:Nat)=>D.int (lo+(k:Int))
def xq {K:PySem.W.Frag} {as0:List Addr} {B:Hp} (lo:Int) (n:Nat):GivesD K as0 B (QZ lo n) (fL lo n) where
 go:=fun i H _ hi=>by
  unfold fL at hi;rw [List.length_map,List.length_range] at hi;exact hi
 yl:=fun i H v H2 M _ _ _ hi ⟨e,h⟩=>by
  subst e;unfold fL at hi ⊢;rw [List.length_map,List.length_range] at hi;refine ⟨ax.refl _,.int (lo+(i:Int)),?_,h⟩;rw [List.getElem?_map,List.getElem?_range hi];rfl
 stop:=fun H _=>by
  unfold fL;show n<=_;rw [List.length_map,List.length_range];exact Nat.le_refl _
def jQ:D->R (List D)
 | .lst xs=>.ok xs
 | .tup xs=>.ok xs
 | .str z=>.ok (lU z)
 | _=>.no
def b8 (ε:FE):FA:=fun δ=>(ε δ).bind jQ
variable {tg:Expr}
def mC.mono {as0 own:List Addr} {H H':Hp} {r:R (List D)} {Q:It->Hp->Prop} (h:mC W as0 own H r Q) (s:ax H H'):mC W as0 own H' r Q:=by
 cases r with
 | ok d=>exact fun J H2 s2=>h J H2 (s.trans s2)
 | er x=>exact fun e C H2 s2=>h e C H2 (s.trans s2)
 | no=>exact h
def Ab {as0 own:List Addr} {H:Hp} {r:R D} {f:D->R (List D)} {Q:It->Hp->Prop} {Q':VK} (h:mC W as0 own H (r.bind f) Q) (q:∀ d v H',ax H H'->dR W.K (aG (own++as0) H') d v->mC W as0 own H' (f d) Q->Q' v H'):eV W (own++as0) H r Q':=by
 cases r with
 | ok d=>exact fun v H' s dv=>q d v H' s dv (mC.mono h s)
 | er x=>exact h
 | no=>exact h
def nk {as0 own:List Addr} {H:Hp} {r:R (List D)} {f:List D->R (List D)} {Q:It->Hp->Prop} {Q':List V->Hp->Prop} (h:mC W as0 own H (r.bind f) Q) (q:∀ d v H',ax H H'->aJ W.K (aG (own++as0) H') d v->mC W as0 own H' (f d) Q->Q' v H'):jS W (own++as0) H r Q':=by
 cases r with
 | ok d=>exact fun v H' s dv=>q d v H' s dv (mC.mono h s)
 | er x=>exact h
 | no=>exact h
def cD (K:PySem.W.Frag) {l:Expr} (h:JE X l (tD W O ε)) (hK:X.K=K:=by rfl) (hW:W.K=K:=by rfl):JI X tg l (iD W O (b8 ε)):=(AU K h hK).imp fun σ H Q hh=>fT hh fun as0 B own δ I h =>
 ⟨as0,B,own,δ,I,Ab h fun d v H' s dv h'=>by
  subst hW;cases d with
  | lst ds =>
   obtain ⟨a,xs,rfl,q1,q2⟩:=dv;refine .inl ⟨⟨xs,(aD _ _).seq q1⟩,h' _ H' (ax.refl _) ?_⟩;rw [tH] at q1 q2;exact Cg q1 q2
  | tup ds =>
   obtain ⟨a,xs,rfl,q1,q2⟩:=dv;refine .inr ⟨⟨xs,(aD _ _).seqT q1⟩,h' _ H' (ax.refl _) ?_⟩;rw [tH] at q1 q2;exact Ca q1 q2
  | str z=>cases dv;exact h' _ H' (ax.refl _) (zV z)
  | _=>exact h'.elim⟩
def Gc:List D->R (List D)
 | [.int j]=>if -(2 ^ 62)<=j/\j < 2 ^ 62 then .ok (fL 0 j.toNat) else .no
 | _=>.no
def iT (α:FA):FA:=fun δ=>(α δ).bind Gc
def oh {a:Expr} {α:FA} {p pos:Pos} (hm:X.mg "range"=none) (ha:JA X [a] (AB W O α)) (hg:Gl X "range":=by rfl) (hn:a8 a=true:=by rfl):JI X tg (.Call (.Name "range" p) [a] [] pos) (iD W O (iT α)):=(CD hm ha hg hn).imp fun σ H Q hh=>fT hh fun as0 B own δ I h =>
 ⟨as0,B,own,δ,I,nk h fun ds vs H' s dv h'=>by
  unfold Gc at h';split at h'
  ·obtain ⟨v,r,rfl,d1,d2⟩:=dv;cases d1;cases d2;split at h'
   ·rename_i hj;exact ⟨hj,h' _ H' (ax.refl _) (xq 0 _)⟩
   ·exact h'.elim
  ·exact h'.elim⟩
def gJ (tg:TgD) (body:FS):List D->Sd->R Fl
 | [],δ=>.ok (.nx δ)
 | x::r,δ=>(gK tg x δ).bind fun δ1=>(body δ1).bind fun f=>match f with
  | .nx δ2=>gJ tg body r δ2
  | .ct δ2=>gJ tg body r δ2
  | .bk δ2=>.ok (.nx δ2)
  | .rt d=>.ok (.rt d)
  | .rn d=>.ok (.rn d)
def uq (ι:FA) (t:TgD) (body:FS):FS:=fun δ=>(ι δ).bind fun xs=>gJ t body xs δ
def yn {as0 own:List Addr} {B H:Hp} {σ:St} {δ:Sd} {D':Ends} {r:R (List D)} {f:List D->R Fl} {Q:It->Hp->Prop} (I:DI W.K as0 B O own σ δ H) (h:cr W as0 B Ob O' (r.bind f) D')
  (q:∀ d J H',ax H H'->GivesD W.K as0 (aG own H') J d->cr W as0 B Ob O' (f d) D'->Q J H'):mC W as0 own H r Q:=by
 cases r with
 | ok d=>exact fun J H' s g=>q d J H' s g h
 | er x=>exact fun e C H' s=>h e C H' (I.same.trans s)
 | no=>exact h
def oZ {iter:Expr} {body:List Stmt} {ι:FA} {t:TgD} (hp:PassesOwn (model X.prog X.w) X.A X.env X.xe) (hi:JI X tg iter (iD W O ι)) (hg:JG X tg (gD W O t)) (hb:JB X body (sD W O O O φ)) (hc:X.calm=true:=by rfl)
  (hs:∀ x,foldedSetIterable iter X.env x=pure x:=by intro _;rfl):JS X (.For tg iter body [] pos) (sD W Ob O O (uq ι t φ)):=(zR hp hi hg hb hc hs).imp fun D' σ H hh=>fT hh fun as0 B own δ I h=>by
 refine ⟨as0,B,own,δ,I,yn I h fun xs J H1 s1 G h1=>?_⟩;have I1:=I.mono s1;have I2:=I1.rebase I1.apart;have sB:ax B (aG own H1):=I1.baseIn;have h2:=h1.base sB I.ex0;generalize hB':aG own H1=B' at I2 sB h2 G;have ex':∀ a∈as0,B' a≠none:=I2.ex0;refine ⟨fun i m σ H=>m=xs.length - i/\i<=xs.length/\∃ own δ,DI W.K as0 B' O own σ δ H/\cr W as0 B' Ob O (gJ t φ (xs.drop i) δ) D',⟨xs.length,by simp,Nat.zero_le _,own,δ,I2,by simpa using h2⟩,?_⟩;rintro i m σ3 H3 ⟨rfl,hi,own3,δ3,I3,h3⟩;by_cases hlt:i < xs.length
 ·refine .inr ⟨G.go i H3 ((aD _ _).trans I3.same) hlt,fun σ' H'=>∃ own δ,DI W.K as0 B' O own σ' δ H'/\cr W as0 B' Ob O (gJ t φ (xs.drop (i+1)) δ) D',fun σ' H' ⟨own',δ',I',h'⟩=>⟨xs.length - (i+1),by omega,rfl,hlt,own',δ',I',h'⟩,fun v H4 y=>?_⟩;obtain ⟨s4,d,hd,dv⟩:=G.yl i H3 v H4 (own3++as0) ((aD _ _).trans I3.same) I3.exi (fun a ha=>by
   rcases List.mem_append.mp ha with z|z
   ·exact .inr (I3.fresh a z)
   ·exact .inl z) hlt y
  have ed:xs.drop i=d::xs.drop (i+1):=by
   rw [List.drop_eq_getElem_cons hlt];rw [List.getElem?_eq_getElem hlt] at hd;cases hd;rfl
  rw [ed] at h3;refine ⟨as0,B',own3,δ3,d,I3.mono s4,dv,?_⟩;have h3':cr W as0 B' Ob O ((gK t d δ3).bind fun δ1=>(φ δ1).bind fun f=>match f with
   | .nx δ2=>gJ t φ (xs.drop (i+1)) δ2
   | .ct δ2=>gJ t φ (xs.drop (i+1)) δ2
   | .bk δ2=>.ok (.nx δ2)
   | .rt d=>.ok (.rt d)
   | .rn d=>.ok (.rn d)) D':=h3
  cases hb1:gK t d δ3 with
  | ok δ1 =>
   rw [hb1] at h3';refine fun σ' I'=>⟨as0,B',own3,δ1,I',?_⟩;have h3'':cr W as0 B' Ob O ((φ δ1).bind fun f=>match f with
    | .nx δ2=>gJ t φ (xs.drop (i+1)) δ2
    | .ct δ2=>gJ t φ (xs.drop (i+1)) δ2
    | .bk δ2=>.ok (.nx δ2)
    | .rt d=>.ok (.rt d)
    | .rn d=>.ok (.rn d)) D':=h3'
   cases hr:φ δ1 with
   | ok f =>
    rw [hr] at h3'';cases f with
    | nx δ2=>exact fun own' σ' H' I'=>⟨own',δ2,I',h3''⟩
    | ct δ2=>exact fun own' σ' H' I'=>⟨own',δ2,I',h3''⟩
    | bk δ2=>exact h3''
    | rt d=>exact h3''
    | rn d=>exact h3''
   | er x=>rw [hr] at h3'';exact h3''
   | no=>rw [hr] at h3'';exact h3''
  | er x=>unfold gK at hb1;split at hb1 <;> first|cases hb1|(split at hb1 <;> cases hb1)
  | no=>rw [hb1] at h3';exact h3'.elim
 ·have e:i=xs.length:=by omega
  subst e;rw [List.drop_length] at h3;exact .inl ⟨G.stop H3 ((aD _ _).trans I3.same),h3 own3 σ3 H3 I3⟩
def gl (τ:FT) (body:FS):Nat->Sd->R Fl
 | 0,_=>.no
 | n+1,δ=>(τ δ).bind fun b=>if b=true then (body δ).bind fun f=>match f with
  | .nx δ2=>gl τ body n δ2
  | .ct δ2=>gl τ body n δ2
  | .bk δ2=>.ok (.nx δ2)
  | .rt d=>.ok (.rt d)
  | .rn d=>.ok (.rn d)
  else .ok (.nx δ)
def Fg {body:List Stmt} (n:Nat) (hp:PassesOwn (model X.prog X.w) X.A X.env X.xe) (hc:JT X c (oE W O τ)) (hb:JB X body (sD W O O O φ)):JS X (.While c body [] pos) (sD W Ob O O (gl τ φ n)):=(Dn hp hc hb).imp fun D' σ H hh=>fT hh fun as0 B own δ I h=>by
 refine ⟨fun m σ H=>∃ own δ,DI W.K as0 B O own σ δ H/\cr W as0 B Ob O (gl τ φ m δ) D',⟨n,own,δ,I,h⟩,?_⟩;rintro m σ3 H3 ⟨own3,δ3,I3,h3⟩;cases m with
 | zero=>exact h3.elim
 | succ m =>
  refine ⟨as0,B,own3,δ3,I3,rR I3 h3 fun b H4 s4 h4=>?_⟩;cases b with
  | false=>exact h4 own3 σ3 H4 (I3.mono s4)
  | true =>
   refine ⟨fun σ' H'=>∃ own δ,DI W.K as0 B O own σ' δ H'/\cr W as0 B Ob O (gl τ φ m δ) D',fun σ' H' q=>⟨m,Nat.lt_succ_self m,q⟩,as0,B,own3,δ3,I3.mono s4,?_⟩;have h4':cr W as0 B Ob O ((φ δ3).bind fun f=>match f with
    | .nx δ2=>gl τ φ m δ2
    | .ct δ2=>gl τ φ m δ2
    | .bk δ2=>.ok (.nx δ2)
    | .rt d=>.ok (.rt d)
    | .rn d=>.ok (.rn d)) D':=h4
   cases hr:φ δ3 with
   | ok f =>
    rw [hr] at h4';cases f with
    | nx δ2=>exact fun own' σ' H' I'=>⟨own',δ2,I',h4'⟩
    | ct δ2=>exact fun own' σ' H' I'=>⟨own',δ2,I',h4'⟩
    | bk δ2=>exact h4'
    | rt d=>exact h4'
    | rn d=>exact h4'
   | er x=>rw [hr] at h4';exact h4'
   | no=>rw [hr] at h4';exact h4'
end
def R.calm {α:Type}:R α->R α
 | .ok a=>.ok a
 | _=>.no
def bL (ix:List (Option Nat)) (δ:Sd):Sd:=ix.map fun o=>o.bind fun j=>(δ[j]?).getD none
def rY:TgD->Sd->Bool
 | .one i,δ=>match δ[i]? with
  | some none=>true
  | _=>false
 | .tup is,δ=>is.all fun i=>match δ[i]? with
  | some none=>true
  | _=>false
def gv (tg:TgD) (τ:FT) (ε:FE) (δ0:Sd):List D->R (List D)
 | []=>.ok []
 | x::r=>(gK tg x δ0).bind fun δ1=>(τ δ1).bind fun b=>if b=true then (ε δ1).bind fun y=>(gv tg τ ε δ0 r).bind fun ys=>.ok (y::ys) else gv tg τ ε δ0 r
def bz (tg:TgD) (τ:FT) (ε:FE) (δ0:Sd) (xs:List D):R D:=if rY tg δ0=true/\xs.length<=1000000 then (gv tg τ ε δ0 xs).calm.bind fun ys=>.ok (.lst ys) else .no
def bn (ix:List (Option Nat)) (ι:FA) (tg:TgD) (τ:FT) (ε:FE):FE:=fun δ=>(ι δ).bind fun xs=>bz tg τ ε (bL ix δ) xs
def cc:FT:=fun _=>.ok true
def uE:∀ (is:List Nat) (ds:List D) (δ0 δ:Sd),(∀ (i:Nat),i∈is->δ0[i]?=some none)->(∀ (i:Nat) (d:D),δ0[i]?=some (some d)->δ[i]?=some (some d))->∀ (i:Nat) (d:D),δ0[i]?=some (some d)->(jY is ds δ)[i]?=some (some d)
 | [],_,_,_,_,h=>by intro i d e;unfold jY;exact h i d e
 | _::_,[],_,_,_,h=>by intro i d e;unfold jY;exact h i d e
 | j::is,x::ds,δ0,δ,hn,h=>by
  intro i d e;unfold jY;refine uE is ds δ0 _ (fun i hi=>hn i (List.mem_cons_of_mem _ hi)) (fun i d e=>?_) i d e;have hji:j≠i:=fun z=>by
   have:=hn j List.mem_cons_self
   rw [z,e] at this;cases this
  rw [getElem?_set',if_neg hji];exact h i d e
def C5 {tg:TgD} {x:D} {δ0 δ1:Sd} (hf:rY tg δ0=true) (h:gK tg x δ0=.ok δ1):∀ (i:Nat) (d:D),δ0[i]?=some (some d)->δ1[i]?=some (some d):=by
 cases tg with
 | one j =>
  cases h;intro i d e;have hji:j≠i:=fun z=>by
   subst z;have hf':(match δ0[j]? with|some none=>true|_=>false)=true:=hf
   rw [e] at hf';cases hf'
  rw [getElem?_set',if_neg hji];exact e
 | tup is =>
  cases x with
  | tup ds =>
   have h':(if ds.length=is.length then R.ok (jY is ds δ0) else .no)=.ok δ1:=h;split at h'
   ·cases h';refine uE is ds δ0 δ0 (fun i hi=>?_) fun i d e=>e;have hf':(is.all fun i=>match δ0[i]? with|some none=>true|_=>false)=true:=hf
    have:=List.all_eq_true.mp hf' i hi
    split at this
    ·assumption
    ·cases this
   ·cases h'
  | _=>cases h
def vR:∀ (is:List Nat) (ds:List D) (δ:Sd),(jY is ds δ).length=δ.length
 | [],_,_=>by unfold jY;rfl
 | _::_,[],_=>by unfold jY;rfl
 | j::is,x::ds,δ=>by unfold jY;rw [vR is ds];simp
def DE {tg:TgD} {x:D} {δ0 δ1:Sd} (h:gK tg x δ0=.ok δ1):δ1.length=δ0.length:=by
 cases tg with
 | one j=>cases h;simp
 | tup is =>
  cases x with
  | tup ds =>
   have h':(if ds.length=is.length then R.ok (jY is ds δ0) else .no)=.ok δ1:=h;split at h'
   ·cases h';exact vR _ _ _
   ·cases h'
  | _=>cases h
def DI.plain {K:PySem.W.Frag} {M:List Addr} {H:Hp} {σ:St} {δ:Sd} (hl:δ.length=σ.length) (ex:∀ a∈M,H a≠none) (var:∀ (i:Nat) (d:D),δ[i]?=some (some d)->∃ v,σ[i]?=some (some v)/\dR K (aG M H) d v):DI K M H [] [] σ δ H :=
 ⟨hl,rfl,List.nodup_nil,List.nodup_nil,fun a ha=>(nomatch ha),ex,ax.refl _,fun i d _ e=>var i d e,fun i a h=>(by simp at h)⟩
section
variable {X:Cx} {W Wb:Wd} {O:List Nat} {osc:Scope} {ON N:List Str} {ix:List (Option Nat)} {scope:Scope} {tg elt iter:Expr} {ifs:List Expr} {pos:Pos} {ι:FA} {t:TgD} {τ:FT} {ε:FE}
def cy:JTs X [] (oE W O cc):=G0.imp fun σ H Q hh=>fT hh fun as0 B own δ I h=>h H (ax.refl _)
def sQ {c:Expr} (h:JT X c (oE W O τ)):JTs X [c] (oE W O τ):=Gg h
def Hm {K:PySem.W.Frag} {as0 own:List Addr} {B H:Hp} {σ:St} {δ:Sd} (I:DI K as0 B O own σ δ H) (hO:∀ j∈ix,∀ k,j=some k->k∉O):∀ (i:Nat) (d:D),(bL ix δ)[i]?=some (some d)->∃ v,(np ix σ)[i]?=some (some v)/\dR K (aG (own++as0) H) d v:=by
 intro i d e;unfold bL at e;unfold np;rw [List.getElem?_map] at e ⊢;cases h:ix[i]? with
 | none=>rw [h] at e;cases e
 | some o =>
  rw [h] at e;cases o with
  | none=>cases e
  | some j =>
   have e':(δ[j]?).getD none=some d:=Option.some.inj e;have ej:δ[j]?=some (some d):=by
    cases q:δ[j]? with
    | none=>rw [q] at e';cases e'
    | some w=>rw [q] at e';rw [<- e'];rfl
   obtain ⟨v,h1,h2⟩:=I.var j d (hO _ (List.mem_of_getElem? h) j rfl) ej;exact ⟨v,by show some ((σ[j]?).getD none)=_;rw [h1];rfl,h2⟩
structure GivesC (K:PySem.W.Frag) (M:List Addr) (H:Hp) (J:It) (xs:List D):Prop where
 go:∀ i H1,ax H H1->i < xs.length->J.go i H1
 yl:∀ i H1 v H2 acc,ax H H1->H acc=none->(∀ a∈acc::M,H1 a≠none)->i < xs.length->J.yld i H1 v H2->ax H1 H2/\∃ d,xs[i]?=some d/\dR K (aG (acc::M) H2) d v
 stop:∀ H1,ax H H1->J.stop xs.length H1
def GivesD.comp {K:PySem.W.Frag} {as0 own:List Addr} {H:Hp} {J:It} {xs:List D} (G:GivesD K as0 (aG own H) J xs):GivesC K (own++as0) H J xs where
 go:=fun i H1 s hi=>G.go i H1 ((aD _ _).trans ((aD _ _).trans s)) hi
 yl:=fun i H1 v H2 acc s hacc hex hi y=>G.yl i H1 v H2 (acc::(own++as0)) ((aD _ _).trans ((aD _ _).trans s)) hex (fun a ha=>by
  rcases List.mem_cons.mp ha with rfl|ha
  ·right
   cases z:aG own H a with
   | none=>rfl
   | some u=>have:=aD _ _ _ _ z;rw [hacc] at this;cases this
  ·rcases List.mem_append.mp ha with z|z
   ·exact .inr (dI z)
   ·exact .inl z) hi y
 stop:=fun H1 s=>G.stop H1 ((aD _ _).trans ((aD _ _).trans s))
def wm (tg:TgD) (τ:FT) (ε:FE) (δ0:Sd) (xs:List D):R D:=if rY tg δ0=true/\xs.length<=1000000 then (gv tg τ ε δ0 xs).bind fun ys=>.ok (.lst ys) else .no
def Ci {tg:TgD} {d:D} {δ:Sd} {x:Str} (h:gK tg d δ=.er x):False:=by
 cases tg with
 | one i=>cases h
 | tup is =>
  cases d with
  | tup ds =>
   have h':(if ds.length=is.length then R.ok (jY is ds δ) else .no)=.er x:=h;split at h' <;> cases h'
  | _=>cases h
def Di {K:PySem.W.Frag} {as0 own:List Addr} {B H:Hp} {σ:St} {δ:Sd} {xs:List D} {J:It} {Q:VK} (hWb:Wb.K=K) (I:DI K as0 B O own σ δ H) (hO:∀ j∈ix,∀ k,j=some k->k∉O) (G:GivesC K (own++as0) H J xs)
  (hq:match wm t τ ε (bL ix δ) xs with
   | .ok d=>∀ p o H',ax H H'->H p=none->H' p=some o->l9 K (aG (p::(own++as0)) H') o d->Q (.ref p) H'
   | .er x=>∀ e C H',ax H H'->Wb.mg x=some (.ref C)->Wb.E e (some C) H'
   | .no=>False):xa (gD Wb [] t) (oE Wb [] τ) (tD Wb [] ε) J (np ix σ) H Q:=by
 intro acc hacc;unfold wm at hq;by_cases hc:rY t (bL ix δ)=true/\xs.length<=1000000
 ·rw [if_pos hc] at hq;obtain ⟨hf,hlen⟩:=hc;generalize hall:gv t τ ε (bL ix δ) xs=ra at hq;have hq':∀ (es:List D) (r:R (List D)),ra=(r.bind fun rest=>.ok (es++rest))->match r with
    | .ok rest=>∀ p o H',ax H H'->H p=none->H' p=some o->l9 K (aG (p::(own++as0)) H') o (.lst (es++rest))->Q (.ref p) H'
    | .er x=>∀ e C H',ax H H'->Wb.mg x=some (.ref C)->Wb.E e (some C) H'
    | .no=>False:=fun es r e=>by
   subst e;cases r with
   | ok rest=>exact hq
   | er x=>exact hq
   | no=>exact hq
  clear hq;generalize hδ0:bL ix δ=δ0 at hf hall;have cl:δ0.length=(np ix σ).length:=by rw [<- hδ0];unfold bL np;simp
  have cv:∀ (i:Nat) (d:D),δ0[i]?=some (some d)->∃ v,(np ix σ)[i]?=some (some v)/\dR K (aG (own++as0) H) d v:=by rw [<- hδ0];exact Hm I hO
  generalize np ix σ=σ0 at cl cv;have exM0:=I.exi;generalize hM:own++as0=M at cv hq' G exM0;have exM:∀ a∈M,H a≠none:=exM0;have naM:acc∉M:=fun z=>exM acc z hacc
  -- heaps of the turns
  have exA:∀ {H':Hp},ax H H'->(∃ o,H' acc=some o)->∀ a∈acc::M,H' a≠none:=fun {H'} s ⟨o,e⟩ a ha=>by
   rcases List.mem_cons.mp ha with rfl|ha
   ·rw [e];simp
   ·cases q:H a with
    | none=>exact absurd q (exM a ha)
    | some u=>rw [s a u q];simp
  have s0:ax H (cQ H acc (.lst [])):=aU hacc _;have start:ra=((gv t τ ε δ0 (xs.drop 0)).bind fun rest=>.ok ([]++rest)):=by
   rw [<- hall,List.drop_zero];cases gv t τ ε δ0 xs <;> rfl
  refine ⟨fun i m σ' H'=>m=xs.length - i/\i<=xs.length/\∃ ys es,H' acc=some (.lst ys)/\ys.length<=i/\ax H H'/\aJ K (aG (acc::M) H') es ys/\ra=((gv t τ ε δ0 (xs.drop i)).bind fun rest=>.ok (es++rest))/\DI K (acc::M) H' [] [] σ' δ0 H',
   ⟨xs.length,by simp,Nat.zero_le _,[],[],aZ,Nat.zero_le _,s0,rfl,start,DI.plain cl (exA s0 ⟨_,aZ⟩) fun i d e=>let ⟨v,h1,h2⟩:=cv i d e;⟨v,h1,h2.mono (jI hacc s0)⟩⟩,?_⟩
  rintro i m σ1 H1 ⟨rfl,hi,ys,es,e1,hl1,s1,d1,c1,I1⟩;have sB:ax H H1:=s1;by_cases hlt:i < xs.length
  ·refine .inr ⟨G.go i H1 sB hlt,fun σ' H'=>∃ ys es,H' acc=some (.lst ys)/\ys.length<=i+1/\ax H H'/\aJ K (aG (acc::M) H') es ys/\ra=((gv t τ ε δ0 (xs.drop (i+1))).bind fun rest=>.ok (es++rest))/\DI K (acc::M) H' [] [] σ' δ0 H',
    fun σ' H' ⟨ys,es,q⟩=>⟨xs.length - (i+1),by omega,rfl,hlt,ys,es,q⟩,fun v H2 y=>?_⟩
   obtain ⟨s2,d,hd,dv⟩:=G.yl i H1 v H2 acc sB hacc (exA s1 ⟨_,e1⟩) hlt y;have ed:xs.drop i=d::xs.drop (i+1):=by
    rw [List.drop_eq_getElem_cons hlt];rw [List.getElem?_eq_getElem hlt] at hd;cases hd;rfl
   rw [ed] at c1;have c1:ra=(((gK t d δ0).bind fun δ1=>(τ δ1).bind fun b=>if b=true then (ε δ1).bind fun y=>(gv t τ ε δ0 (xs.drop (i+1))).bind fun ys=>.ok (y::ys) else gv t τ ε δ0 (xs.drop (i+1))).bind fun rest=>.ok (es++rest)):=c1;cases b1:gK t d δ0 with
   | er x=>exact (Ci b1).elim
   | no=>rw [b1] at c1;exact (hq' es .no c1).elim
   | ok δ1 =>
    rw [b1,ah] at c1;have I2:DI K (acc::M) H2 [] [] σ1 δ0 H2:=DI.plain I1.len (exA (s1.trans s2) ⟨_,s2 _ _ e1⟩) fun i d e=>let ⟨v,h1,h2⟩:=I1.var i d (by simp) e;⟨v,h1,h2.mono (aP s2)⟩;have again:∀ {σ3:St} {H3 H4:Hp},DI K (acc::M) H2 [] [] σ3 δ1 H3->ax (aG (acc::M) H3) (aG (acc::M) H4)->(∀ a∈acc::M,H4 a≠none)->DI K (acc::M) H4 [] [] σ3 δ0 H4:=fun {σ3 H3 H4} I3 s34 ex4 =>
     DI.plain (by rw [<- DE b1];exact I3.len) ex4 fun i d e=>let ⟨v,h1,h2⟩:=I3.var i d (by simp) (C5 hf b1 i d e);⟨v,h1,h2.mono s34⟩
    refine ⟨acc::M,H2,[],δ0,d,by rw [hWb];exact I2,by rw [hWb];exact dv,?_⟩;rw [b1];refine fun σ3 I3=>⟨acc::M,H2,[],δ1,I3,?_⟩;rw [hWb] at I3;cases b2:τ δ1 with
    | er x=>rw [b2] at c1;exact fun e C H' s' hm=>hq' es (.er x) c1 e C H' ((s1.trans s2).trans (I3.same.trans s')) hm
    | no=>rw [b2] at c1;exact (hq' es .no c1).elim
    | ok b =>
     rw [b2,ah] at c1;refine fun H3 s3=>?_;have I3':=I3.mono s3;have s13:ax H1 H3:=s2.trans (I3.same.trans s3);cases b with
     | false =>
      rw [if_neg Bool.false_ne_true] at c1;exact ⟨ys,es,s13 _ _ e1,by omega,s1.trans s13,d1.mono (aP s13),c1,again I3' (ax.refl _) (exA (s1.trans s13) ⟨_,s13 _ _ e1⟩)⟩
     | true =>
      rw [if_pos rfl] at c1;refine ⟨acc::M,H2,[],δ1,by rw [hWb];exact I3',?_⟩;cases b3:ε δ1 with
      | er x=>rw [b3] at c1;exact fun e C H' s' hm=>hq' es (.er x) c1 e C H' ((s1.trans s13).trans s') hm
      | no=>rw [b3] at c1;exact (hq' es .no c1).elim
      | ok y' =>
       rw [b3,ah] at c1;refine fun v4 H4 s4 d4=>?_;rw [hWb] at d4;have s14:ax H1 H4:=s13.trans s4;have e4:=s14 _ _ e1;have hm:=c9;have same5:ax (aG (acc::M) H4) (aG (acc::M) (cQ H4 acc (.lst (ys++[v4])))):=fun b o e=>by
        by_cases hb:b∈acc::M
        ·rw [dI hb] at e;cases e
        ·rw [aV hb] at e ⊢;rw [bf (fun z=>hb (by rw [z];exact List.mem_cons_self))];exact e
       have s5:ax H (cQ H4 acc (.lst (ys++[v4]))):=fun b o e=>by
        rw [bf (bP e hacc)];exact (s1.trans s14) b o e
       refine ⟨ys,e4,by omega,ys++[v4],es++[y'],aZ,by simp;omega,s5,?_,?_,again I3' ((aP s4).trans same5) (exA s5 ⟨_,aZ⟩)⟩
       ·exact (aJ.append (d1.mono (aP s14)) (aJ.cons d4 aJ.nil)).mono same5
       ·rw [c1];cases gv t τ ε δ0 (xs.drop (i+1)) with
        | ok r=>show R.ok _=R.ok _;simp
        | er x=>rfl
        | no=>rfl
  ·have e':i=xs.length:=by omega
   subst e';rw [List.drop_length] at c1;have this:∀ (p:Addr) (o:HO) (H':Hp),ax H H'->H p=none->H' p=some o->l9 K (aG (p::M) H') o (D.lst (es++[]))->Q (V.ref p) H':=hq' es (.ok []) c1;rw [List.append_nil] at this;exact .inl ⟨G.stop H1 sB,this acc _ H1 s1 hacc e1 ⟨ys,rfl,d1⟩⟩
 ·rw [if_neg hc] at hq;exact hq.elim
def dG {K:PySem.W.Frag} {as0 own:List Addr} {B H:Hp} {σ:St} {δ:Sd} {xs:List D} {J:It} {Q:VK} (hWb:Wb.K=K) (I:DI K as0 B O own σ δ H) (hO:∀ j∈ix,∀ k,j=some k->k∉O) (G:GivesC K (own++as0) H J xs)
  (hq:match bz t τ ε (bL ix δ) xs with
   | .ok d=>∀ p o H',ax H H'->H p=none->H' p=some o->l9 K (aG (p::(own++as0)) H') o d->Q (.ref p) H'
   | _=>False):xa (gD Wb [] t) (oE Wb [] τ) (tD Wb [] ε) J (np ix σ) H Q:=by
 refine Di hWb I hO G ?_;unfold bz at hq;unfold wm;by_cases hc:rY t (bL ix δ)=true/\xs.length<=1000000
 ·rw [if_pos hc] at hq ⊢;cases hall:gv t τ ε (bL ix δ) xs with
  | ok ys=>rw [hall] at hq;exact hq
  | er x=>rw [hall] at hq;exact hq.elim
  | no=>rw [hall] at hq;exact hq.elim
 ·rw [if_neg hc] at hq;exact hq.elim
def de (hcs:zJ osc ON N ix scope=true) (hi:JI X tg iter (iD W O ι)) (hg:∀ b,JG (qk X N scope b) tg (gD Wb [] t)) (ht:∀ b,JTs (qk X N scope b) ifs (oE Wb [] τ)) (he:∀ b,JE (qk X N scope b) elt (tD Wb [] ε)) (hO:∀ j∈ix,∀ k,j=some k->k∉O)
  (hWb:Wb.K=W.K:=by rfl) (hE:X.env.scope=osc:=by rfl) (hON:X.N=ON:=by rfl) (hc:X.calm=true:=by rfl) (hs:∀ x,foldedSetIterable iter X.env x=pure x:=by intro _;rfl):JE X (.ListComp elt [⟨tg,iter,ifs,0⟩] scope pos) (tN W O (bn ix ι t τ ε)) :=
 (Dw hcs hi hg ht he hE hON hc hs).imp fun σ H Q hh=>fT hh fun as0 B own δ I h=>⟨as0,B,own,δ,I,by
  unfold bn at h;cases hr:ι δ with
  | no=>rw [hr] at h;exact h.elim
  | er x=>rw [hr] at h;exact h
  | ok xs =>
   rw [hr] at h;refine fun J H1 s1 G=>dG hWb (I.mono s1) hO G.comp ?_;have h':i7 W (own++as0) H (bz t τ ε (bL ix δ) xs) Q:=h;cases hq:bz t τ ε (bL ix δ) xs with
   | ok d=>rw [hq] at h';exact fun p o H' s hp=>h' p o H' (s1.trans s) (s1.free hp)
   | er x =>
    unfold bz at hq;split at hq
    ·cases hc:gv t τ ε (bL ix δ) xs <;> rw [hc] at hq <;> cases hq
    ·cases hq
   | no=>rw [hq] at h';exact h'.elim⟩
def Bs {i:Nat} {x:Str} {spos pos':Pos} (hN:X.N.Nodup) (hl:zg X.env.scope x) (hcs:zJ osc ON N ix scope=true) (hi:JI X tg iter (iD W O ι)) (hg:∀ b,JG (qk X N scope b) tg (gD Wb [] t)) (ht:∀ b,JTs (qk X N scope b) ifs (oE Wb [] τ)) (he:∀ b,JE (qk X N scope b) elt (tD Wb [] ε)) (hO:∀ j∈ix,∀ k,j=some k->k∉O)
  (hWb:Wb.K=W.K:=by rfl) (hx:X.N[i]?=some x:=by rfl) (hE:X.env.scope=osc:=by rfl) (hON:X.N=ON:=by rfl) (hc:X.calm=true:=by rfl)
  (hsw:swapsWith (.ListComp elt [⟨tg,iter,ifs,0⟩] scope pos) (some (.Name x pos')) spos.line X.env=pure true:=by rfl)
  (hf:X.fn x=true\/X.env.scope.names.lookup x=some .local:=by first|exact .inl rfl|exact .inr rfl|assumption)
  (hs:∀ x,foldedSetIterable iter X.env x=pure x:=by intro _;rfl):JS X (.Assign [.Name x pos'] (.ListComp elt [⟨tg,iter,ifs,0⟩] scope pos) spos) (xT (tN W O (bn ix ι t τ ε)) (i6 i)) :=
 (zT hN hl hcs hi hg ht he hx hE hON hc hsw hf hs).imp fun D σ H hh=>fT hh fun as0 B own δ I h=>⟨as0,B,own,δ,I,by
  unfold bn at h;cases hr:ι δ with
  | no=>rw [hr] at h;exact h.elim
  | er x=>rw [hr] at h;exact h
  | ok xs =>
   rw [hr] at h;refine fun J H1 s1 G=>dG hWb (I.mono s1) hO G.comp ?_;have h':i7 W (own++as0) H (bz t τ ε (bL ix δ) xs) (fun x H1=>i6 i x σ H1 D.nx):=h;cases hq:bz t τ ε (bL ix δ) xs with
   | ok d=>rw [hq] at h';exact fun p o H' s hp=>h' p o H' (s1.trans s) (s1.free hp)
   | er x =>
    unfold bz at hq;split at hq
    ·cases hc:gv t τ ε (bL ix δ) xs <;> rw [hc] at hq <;> cases hq
    ·cases hq
   | no=>rw [hq] at h';exact h'.elim⟩
def Bc {Ob:List Nat} {i:Nat} {st:Stmt} (hO:i∉O) (h:JS X st (xT (tN W O ε) (i6 i))):JS X st (sD W Ob O O (aI i ε)):=h.imp fun D σ H hh=>fT hh fun as0 B own δ I h =>
 ⟨as0,B,own,δ,I,mP I h fun d p o H' s hp e od h'=>h' own _ H' ((I.mono s).set hO (od.den (I.new hp) e))⟩
end
def ga (N:List Str) (ds:List D):Sd:=ds.map some++List.replicate (N.length - ds.length) none
def b7 (φ:FS) (N P:List Str) (ds:List D):R D:=if ds.length=P.length then (φ (ga N ds)).bind fun f=>match f with
 | .rt d=>.ok d
 | .rn d=>.ok d
 | .nx _=>.ok .non
 | _=>.no
 else .no
def iP (K:PySem.W.Frag) (mg:Str->Option Value) (F:List D->R D):Sp:=fun vs H Q _=>∃ as ds,(∀ a∈as,H a≠none)/\aJ K (aG as H) ds vs/\eV ⟨K,mg,E0⟩ as H (F ds) Q
section
variable {P:Program} {w:World} {K:PySem.W.Frag} {mg:Str->Option Value} {base:Heap}
def pe {H:Hp}:∀ {ds:List D} {vs:List V} {i:Nat} {d:D},aJ K H ds vs->∀ {n:Nat},(ds.map some++List.replicate n none)[i]?=some (some d)->∃ v,(vs.map some++List.replicate n none)[i]?=some (some v)/\dR K H d v:=by
 intro ds vs i d h n e;have hl:=h.len;by_cases hi:i < ds.length
 ·rw [List.getElem?_append_left (by simpa using hi),List.getElem?_map] at e;rw [List.getElem?_append_left (by rw [List.length_map,<- hl];exact hi),List.getElem?_map];cases q:ds[i]? with
  | none=>rw [q] at e;cases e
  | some d' =>
   rw [q] at e;cases e;obtain ⟨v,h1,h2⟩:=h.get q;exact ⟨v,by rw [h1];rfl,h2⟩
 ·rw [List.getElem?_append_right (by simpa using hi),List.getElem?_replicate] at e;split at e <;> cases e
def Fun.okD {x qual:Str} {st:Stmt} {f:Addr} {fd:FuncData} {N ps:List Str} {k:Nat} {φ:FS} {O':List Nat} (F:Fun K x qual st f fd) (S:FnScope N ps (am st))
  (hbody:∀ (cdv:Value) (A:Around) (outer:List Env) (s:Shared) (H:Hp) (E:XK),Room k (A.deeper (envOfC qual (am st) s.heap.objs.size f cdv)) ->
   JB (qd eX P w K mg base N qual (am st) f cdv A outer s H E).nox (dE st) (sD ⟨K,mg,E0⟩ [] [] O' φ)):FnOk P w K mg base eX (k+1) f fd ps (iP K mg (b7 φ N ps)):=by
 refine F.okJ S (fun vs H Q E h=>?_) fun cdv A outer s H vs Q E hr h=>?_
 ·obtain ⟨as,ds,ex,dv,h⟩:=h;unfold b7 at h;split at h
  ·rename_i hl;rw [<- dv.len];exact hl
  ·exact h.elim
 ·obtain ⟨as,ds,ex,dv,h⟩:=h;unfold b7 at h;split at h
  ·rename_i hl;refine ⟨_,hbody cdv A outer s H E hr,as,H,[],ga N ds,⟨?_,rfl,List.nodup_nil,List.nodup_nil,fun a ha=>(nomatch ha),ex,ax.refl _,fun i d _ e=>?_,fun i a h=>(by simp at h)⟩,?_⟩
   ·unfold ga start;simp [dv.len]
   ·unfold ga at e;unfold start;rw [<- dv.len];exact pe dv e
   ·cases hr:φ (ga N ds) with
    | ok fl =>
     rw [hr] at h;cases fl with
     | rt d=>exact fun v H' s dv'=>h v H' s dv'
     | rn d=>exact fun p o H' s hp e od=>h (.ref p) H' s (od.den (fun z=>ex p z hp) e)
     | nx δ=>exact fun own σ H' I=>h .non H' I.same rfl
     | bk δ=>exact h.elim
     | ct δ=>exact h.elim
    | er x=>rw [hr] at h;exact fun e C H' s=>h e C H' s
    | no=>rw [hr] at h;exact h.elim
  ·exact h.elim
section
variable {X:Cx} {O:List Nat} {x:Str} {st:Stmt} {ps:List Str} {f:Addr} {fd:FuncData} {j k:Nat} {F:List D->R D} {p pos:Pos} {e:Expr} {es:List Expr} {α:FA}
def aB (D:Def X.K X.mg x st ps f fd) (G:FnOk X.prog X.w X.K X.mg X.base eX j f fd ps (iP K mg F)) (hr:Room k X.A) (ha:JA X (e::es) (AB ⟨K,mg,E0⟩ O α)) (hj:j<=k:=by decide) (hg:Gl X x:=by rfl) (hdb:(x==("__debug__":Str))=false:=by decide)
  (h1:a8 e=true:=by rfl) (h2:es.all a8=true:=by rfl):JE X (.Call (.Name x p) (e::es) [] pos) (tD ⟨K,mg,E0⟩ O (aj F α)) :=
 (DW D G hr ha hj hg hdb h1 h2).imp fun σ H Q hh=>fT hh fun as0 B own δ I h=>⟨as0,B,own,δ,I,gT h fun ds vs H1 s1 d1 h1=>⟨own++as0,ds,(I.mono s1).exi,d1,h1⟩⟩
end
def Hw (φ:FS) (N P:List Str) (ds:List D):R D:=if ds.length=P.length then (φ (ga N ds)).bind fun f=>match f with
 | .rn d=>.ok d
 | _=>.no
 else .no
def Rz (K:PySem.W.Frag) (mg:Str->Option Value) (F:List D->R D):Sp:=fun vs H Q _=>∃ as ds,(∀ a∈as,H a≠none)/\aJ K (aG as H) ds vs/\i7 ⟨K,mg,E0⟩ as H (F ds) Q
def Fun.okN {P:Program} {w:World} {K:PySem.W.Frag} {mg:Str->Option Value} {base:Heap} {x qual:Str} {st:Stmt} {f:Addr} {fd:FuncData} {N ps:List Str} {k:Nat} {φ:FS} {O':List Nat} (F:Fun K x qual st f fd) (S:FnScope N ps (am st))
  (hbody:∀ (cdv:Value) (A:Around) (outer:List Env) (s:Shared) (H:Hp) (E:XK),Room k (A.deeper (envOfC qual (am st) s.heap.objs.size f cdv)) ->
   JB (qd eX P w K mg base N qual (am st) f cdv A outer s H E).nox (dE st) (sD ⟨K,mg,E0⟩ [] [] O' φ)):FnOk P w K mg base eX (k+1) f fd ps (Rz K mg (Hw φ N ps)):=by
 refine F.okJ S (fun vs H Q E h=>?_) fun cdv A outer s H vs Q E hr h=>?_
 ·obtain ⟨as,ds,ex,dv,h⟩:=h;unfold Hw at h;split at h
  ·rename_i hl;rw [<- dv.len];exact hl
  ·exact h.elim
 ·obtain ⟨as,ds,ex,dv,h⟩:=h;unfold Hw at h;split at h
  ·rename_i hl;refine ⟨_,hbody cdv A outer s H E hr,as,H,[],ga N ds,⟨?_,rfl,List.nodup_nil,List.nodup_nil,fun a ha=>(nomatch ha),ex,ax.refl _,fun i d _ e=>?_,fun i a h=>(by simp at h)⟩,?_⟩
   ·unfold ga start;simp [dv.len]
   ·unfold ga at e;unfold start;rw [<- dv.len];exact pe dv e
   ·cases hr:φ (ga N ds) with
    | ok fl =>
     rw [hr] at h;cases fl with
     | rn d=>exact fun p o H' s hp e od=>h p o H' s hp e od
     | rt d=>exact h.elim
     | nx δ=>exact h.elim
     | bk δ=>exact h.elim
     | ct δ=>exact h.elim
    | er x=>rw [hr] at h;exact fun e C H' s=>h e C H' s
    | no=>rw [hr] at h;exact h.elim
  ·exact h.elim
section
variable {K:PySem.W.Frag} {mg:Str->Option Value} {X:Cx} {O:List Nat} {x:Str} {st:Stmt} {ps:List Str} {f:Addr} {fd:FuncData} {j k:Nat} {F:List D->R D} {p pos:Pos} {e:Expr} {es:List Expr} {α:FA}
def zq {W:Wd} {as:List Addr} {H:Hp} {Q:VK} {r:R (List D)} {g:List D->R D} {Q':List V->Hp->Prop} (h:i7 W as H (r.bind g) Q) (q:∀ d v H',ax H H'->aJ W.K (aG as H') d v->i7 W as H' (g d) Q->Q' v H'):jS W as H r Q':=nI h q
def GV (D:Def X.K X.mg x st ps f fd) (G:FnOk X.prog X.w X.K X.mg X.base eX j f fd ps (Rz K mg F)) (hr:Room k X.A) (ha:JA X (e::es) (AB ⟨K,mg,E0⟩ O α)) (hj:j<=k:=by decide) (hg:Gl X x:=by rfl) (hdb:(x==("__debug__":Str))=false:=by decide)
  (h1:a8 e=true:=by rfl) (h2:es.all a8=true:=by rfl):JE X (.Call (.Name x p) (e::es) [] pos) (tN ⟨K,mg,E0⟩ O (aj F α)) :=
 (DW D G hr ha hj hg hdb h1 h2).imp fun σ H Q hh=>fT hh fun as0 B own δ I h=>⟨as0,B,own,δ,I,zq h fun ds vs H1 s1 d1 h1=>⟨own++as0,ds,(I.mono s1).exi,d1,h1⟩⟩
end
def Ks {a:Addr} {ns:List Int} {H:Hp} {F:List D->R D} {Q:VK} {E:XK} (hS:dZ K H a (ns.map V.int)) (h:F [.lst (ns.map D.int)]=.ok (.bl true)) (q:∀ H',Q (.bl true) H'):iP K mg F [.ref a] H Q E:=by
 refine ⟨[],[.lst (ns.map D.int)],fun a ha=>(nomatch ha),⟨.ref a,[],rfl,⟨a,ns.map V.int,rfl,by rw [uk];exact hS,?_⟩,rfl⟩,?_⟩
 ·clear h hS;induction ns with
  | nil=>exact rfl
  | cons n r ih=>exact ⟨_,_,rfl,rfl,ih⟩
 ·rw [h];intro v H' s dv;cases dv;exact q H'
end
section
variable {W:Wd} {X:Cx}
def aN {as:List Addr} {H:Hp} {d:D} {v:V} {Q:VK} (h:eV W as H (.ok d) Q) (hd:dR W.K (aG as H) d v):Q v H:=h v H (ax.refl _) hd
def Gi:fA X (binaryOp .Add) (fun x y H Q=>∃ l b xs zs,x=.ref l/\y=.ref b/\dZ X.K H l xs/\dZ X.K H b zs/\xs.length+zs.length<=sizeLine/\∀ p,H p=none->Q (.ref p) (cQ H p (.lst (xs++zs)))):=by
 intro ag s σ H x y v u Q I rx ry h;obtain ⟨l,b,xs,zs,rfl,rfl,hH,hB,hz,q⟩:=h;cases rx;cases ry;obtain ⟨its,r,pl,hl⟩:=I.list hH;obtain ⟨its2,r2,pl2,hl2⟩:=I.list hB;obtain ⟨⟨cls,dd,data,sl⟩,ho,hc,n,hd⟩:=pl.isList;obtain ⟨⟨cls2,dd2,data2,sl2⟩,ho2,hc2,n2,hd2⟩:=pl2.isList;simp only at hc hd hc2 hd2;subst hc hd hc2 hd2;have e:its.toArray++its2.toArray=(its++its2).toArray:=by simp
 refine concat_meets ⟨_,ho,rfl⟩ ⟨_,ho2,rfl⟩ noFill_list_add seq_list_add PySem.F.slot_list_add PySem.F.entry_list_add (PySem.F.args_list_add_2 _ _) (list_addW l b its.toArray its2.toArray n n2 dd dd2 sl sl2 (by rw [List.size_toArray,List.size_toArray,<- r.length,<- r2.length];exact hz)) ⟨ho,ho2,?_⟩;rw [e];exact ⟨.ref _,_,I.lnew (t':=s.toks) (r.append r2) (by rw [List.length_append];exact hz),rfl,q _ I.fresh⟩
def BP (K:PySem.W.Frag):R2:=fun x y H Q=>match x,y with
 | .int i,.int j=>Q (.int (i+j)) H
 | .str i,.str j=>i.length+j.length<=sizeLine/\Q (.str (i++j)) H
 | .ref l,.ref b=>(∃ xs zs,dZ K H l xs/\dZ K H b zs/\xs.length+zs.length<=sizeLine/\∀ p,H p=none->Q (.ref p) (cQ H p (.lst (xs++zs)))) \/
   ∃ xs zs,lG K H l xs/\lG K H b zs/\xs≠[]/\xs.length+zs.length<=sizeLine/\(zs=[]->Q (.ref l) H)/\(zs≠[]->∀ p,H p=none->Q (.ref p) (cQ H p (.tup (xs++zs))))
 | _,_=>False
def bo (K:PySem.W.Frag) (hK:X.K=K:=by rfl):fA X (binaryOp .Add) (BP K):=by
 subst hK;refine ((Kj.or Ai).or (Gi.or HX)).imp fun x y H Q q=>?_;unfold BP at q;split at q
 ·exact .inl (.inl ⟨_,_,rfl,rfl,q⟩)
 ·exact .inl (.inr ⟨_,_,rfl,rfl,q.1,q.2⟩)
 ·rcases q with ⟨xs,zs,h1,h2,h3,h4⟩|⟨xs,zs,h1,h2,h3,h4,h5,h6⟩
  ·exact .inr (.inl ⟨_,_,xs,zs,rfl,rfl,h1,h2,h3,h4⟩)
  ·exact .inr (.inr ⟨_,_,xs,zs,rfl,rfl,h1,h2,h3,h4,h5,h6⟩)
 ·exact q.elim
def aR (a b:D):R D:=match a,b with
 | .int i,.int j=>.ok (.int (i+j))
 | .str x,.str y=>if x.length+y.length<=1000000 then .ok (.str (x++y)) else .no
 | .lst xs,.lst ys=>if xs.length+ys.length<=1000000 then .ok (.lst (xs++ys)) else .no
 | .tup xs,.tup ys=>if xs.isEmpty=false/\xs.length+ys.length<=1000000 then .ok (.tup (xs++ys)) else .no
 | _,_=>.no
def cf (K:PySem.W.Frag) (hW:W.K=K:=by rfl):sS W (BP K) aR:=by
 subst hW;intro as H x y a b Q hn da db h;unfold aR at h;split at h
 ·cases da;cases db;exact aN h rfl
 ·cases da;cases db;split at h
  ·rename_i hl;exact ⟨Nat.le_trans hl c9,aN h rfl⟩
  ·exact h.elim
 ·rename_i xs ys;obtain ⟨p,vs,rfl,q1,q2⟩:=da;obtain ⟨p2,ws,rfl,q3,q4⟩:=db;split at h
  ·rename_i hl;rw [q2.len,q4.len] at hl;refine .inl ⟨vs,ws,(aD _ _).seq q1,(aD _ _).seq q3,Nat.le_trans hl c9,fun p hp=>?_⟩;refine h _ _ (aU hp _) ⟨p,vs++ws,rfl,.inl (.inl (by rw [aV (hn p hp)];exact aZ)),(q2.append q4).mono (aP (aU hp _))⟩
  ·exact h.elim
 ·rename_i xs ys;obtain ⟨p,vs,rfl,q1,q2⟩:=da;obtain ⟨p2,ws,rfl,q3,q4⟩:=db;split at h
  ·rename_i hl;obtain ⟨he,hl⟩:=hl;have he':vs≠[]:=fun z=>by
    have:=q2.empty
    rw [he,z] at this;cases this
   rw [q2.len,q4.len] at hl;refine .inr ⟨vs,ws,(aD _ _).seqT q1,(aD _ _).seqT q3,he',Nat.le_trans hl c9,fun z=>?_,fun z p hp=>?_⟩
   ·have:ys=[]:=by
     cases ys with
     | nil=>rfl
     | cons d r=>obtain ⟨_,_,e,_⟩:=q4;rw [z] at e;cases e
    subst this;rw [List.append_nil] at h;exact aN h ⟨p,vs,rfl,q1,q2⟩
   ·exact h _ _ (aU hp _) ⟨p,vs++ws,rfl,.inl (.inl (by rw [aV (hn p hp)];exact aZ)),(q2.append q4).mono (aP (aU hp _))⟩
  ·exact h.elim
 ·exact h.elim
def jN (a b:D):R D:=match a,b with
 | .int i,.int j=>.ok (.int (i - j))
 | _,_=>.no
def xA:sS W KR jN:=by
 intro as H x y a b Q hn da db h;unfold jN at h;split at h
 ·cases da;cases db;exact aN h rfl
 ·exact h.elim
def Ap:fA X (binaryOp .Mult) (fun x y H Q=>∃ i n,x=.str i/\y=.int n/\MulOk i n/\Q (.str (Txt.mul i n)) H):=by
 intro ag s σ H x y v u Q I rx ry h;obtain ⟨i,n,rfl,rfl,hm,q⟩:=h;obtain ⟨t,rfl⟩:=rx;obtain ⟨t',rfl⟩:=ry;exact bh I.tk (SB.mul hm fun t' k htk=>⟨.str _,H,I.tok _,⟨t',rfl⟩,q⟩)
def FG:R2:=fun x y H Q=>match x,y with
 | .int i,.int j=>zH i j/\Q (.int (i*j)) H
 | .str i,.int j=>MulOk i j/\Q (.str (Txt.mul i j)) H
 | _,_=>False
def qf:fA X (binaryOp .Mult) FG:=(La.or Ap).imp fun x y H Q q=>by
 unfold FG at q;split at q
 ·exact .inl ⟨_,_,rfl,rfl,q.1,q.2⟩
 ·exact .inr ⟨_,_,rfl,rfl,q.1,q.2⟩
 ·exact q.elim
instance (i j:Int):Decidable (zH i j):=by unfold zH;infer_instance
instance (i j:Int):Decidable (FQ i j):=by unfold FQ;infer_instance
instance (i j:Int):Decidable (Fs i j):=by unfold Fs;infer_instance
def fH (a b:D):R D:=match a,b with
 | .int i,.int j=>if zH i j then .ok (.int (i*j)) else .no
 | .str x,.int n=>if x.length<=1000/\-1000<=n/\n<=1000 then .ok (.str (Txt.mul x n)) else .no
 | _,_=>.no
def xb:sS W FG fH:=by
 intro as H x y a b Q hn da db h;unfold fH at h;split at h
 ·cases da;cases db;split at h
  ·rename_i hl;exact ⟨hl,aN h rfl⟩
  ·exact h.elim
 ·cases da;cases db;split at h
  ·rename_i hl;exact ⟨mulOk_of 1000 1000 hl.1 (by omega) (by omega) (by decide) (by decide),aN h rfl⟩
  ·exact h.elim
 ·exact h.elim
def cA (a b:D):R D:=match a,b with
 | .int i,.int j=>if FQ i j then .ok (.int (i/j)) else .no
 | _,_=>.no
def kg:sS W JX cA:=by
 intro as H x y a b Q hn da db h;unfold cA at h;split at h
 ·cases da;cases db;split at h
  ·rename_i hl;exact ⟨hl,aN h rfl⟩
  ·exact h.elim
 ·exact h.elim
def bv (a b:D):R D:=match a,b with
 | .int i,.int j=>if 0 < j then .ok (.int (i % j)) else .no
 | _,_=>.no
def eH:sS W K5 bv:=by
 intro as H x y a b Q hn da db h;unfold bv at h;split at h
 ·cases da;cases db;split at h
  ·rename_i hl;exact ⟨hl,aN h rfl⟩
  ·exact h.elim
 ·exact h.elim
def oF (a b:D):R D:=match a,b with
 | .int i,.int j=>if Fs i j then .ok (.int (i ^ j.toNat)) else .no
 | _,_=>.no
def Ev:sS W Kp oF:=by
 intro as H x y a b Q hn da db h;unfold oF at h;split at h
 ·cases da;cases db;split at h
  ·rename_i hl;exact ⟨hl,aN h rfl⟩
  ·exact h.elim
 ·exact h.elim
def Dv (a:D):R D:=match a with
 | .int i=>.ok (.int (-i))
 | _=>.no
def Jv:SY W JJ Dv:=by
 intro as H x a Q da h;unfold Dv at h;split at h
 ·cases da;exact aN h rfl
 ·exact h.elim
def CU (a b:D):R D:=match a,b with
 | .int i,.int j=>.ok (.bl (decide (i < j)))
 | .str i,.str j=>.ok (.bl (decide (i.cps.toList < j.cps.toList)))
 | _,_=>.no
def Cz (a b:D):R D:=match a,b with
 | .int i,.int j=>.ok (.bl (decide (i<=j)))
 | .str i,.str j=>.ok (.bl (!decide (j.cps.toList < i.cps.toList)))
 | _,_=>.no
def C8 (a b:D):R D:=match a,b with
 | .int i,.int j=>.ok (.bl (decide (j < i)))
 | .str i,.str j=>.ok (.bl (decide (j.cps.toList < i.cps.toList)))
 | _,_=>.no
def Jz (a b:D):R D:=match a,b with
 | .int i,.int j=>.ok (.bl (decide (j<=i)))
 | .str i,.str j=>.ok (.bl (!decide (i.cps.toList < j.cps.toList)))
 | _,_=>.no
def JP:sS W Rk CU:=by
 intro as H x y a b Q hn da db h;unfold CU at h;split at h
 ·cases da;cases db;exact aN h rfl
 ·cases da;cases db;exact aN h rfl
 ·exact h.elim
def L8:sS W R7 Cz:=by
 intro as H x y a b Q hn da db h;unfold Cz at h;split at h
 ·cases da;cases db;exact aN h rfl
 ·cases da;cases db;exact aN h rfl
 ·exact h.elim
def Qc:sS W R3 C8:=by
 intro as H x y a b Q hn da db h;unfold C8 at h;split at h
 ·cases da;cases db;exact aN h rfl
 ·cases da;cases db;exact aN h rfl
 ·exact h.elim
def Ri:sS W Rf Jz:=by
 intro as H x y a b Q hn da db h;unfold Jz at h;split at h
 ·cases da;cases db;exact aN h rfl
 ·cases da;cases db;exact aN h rfl
 ·exact h.elim
def Dc:D->Bool
 | .non=>true
 | _=>false
def RM (j:Bool):D->Bool
 | .bl i=>i==j
 | _=>false
def L5 (x:D) (y:D):R D:=match y with
 | .non=>.ok (.bl (Dc x))
 | .bl j=>.ok (.bl (RM j x))
 | _=>.no
def uz (x:D) (y:D):R D:=match y with
 | .non=>.ok (.bl (!Dc x))
 | .bl j=>.ok (.bl (!RM j x))
 | _=>.no
def vV {K:PySem.W.Frag} {H:Hp} {a:D} {x:V} (h:dR K H a x):Ba x .non=Dc a:=by
 cases a with
 | lst _=>obtain ⟨_,_,rfl,_⟩:=h;rfl
 | tup _=>obtain ⟨_,_,rfl,_⟩:=h;rfl
 | dct _=>obtain ⟨_,_,rfl,_⟩:=h;rfl
 | obj _ _=>obtain ⟨_,_,_,rfl,_⟩:=h;rfl
 | exn _=>obtain ⟨_,_,rfl,_⟩:=h;rfl
 | cls _=>obtain ⟨_,rfl,_⟩:=h;rfl
 | lsm _=>obtain ⟨_,_,rfl,_⟩:=h;rfl
 | _=>cases h;rfl
def vT {K:PySem.W.Frag} {H:Hp} {a:D} {x:V} {j:Bool} (h:dR K H a x):Ba x (.bl j)=RM j a:=by
 cases a with
 | lst _=>obtain ⟨_,_,rfl,_⟩:=h;rfl
 | tup _=>obtain ⟨_,_,rfl,_⟩:=h;rfl
 | dct _=>obtain ⟨_,_,rfl,_⟩:=h;rfl
 | obj _ _=>obtain ⟨_,_,_,rfl,_⟩:=h;rfl
 | exn _=>obtain ⟨_,_,rfl,_⟩:=h;rfl
 | cls _=>obtain ⟨_,rfl,_⟩:=h;rfl
 | lsm _=>obtain ⟨_,_,rfl,_⟩:=h;rfl
 | _=>cases h;rfl
def RT:sS W Rx L5:=by
 intro as H x y a b Q hn da db h;unfold L5 at h;split at h
 ·cases db;show Q (.bl (Ba x .non)) H;rw [vV da];exact aN h rfl
 ·cases db;show Q (.bl (Ba x (.bl _))) H;rw [vT da];exact aN h rfl
 ·exact h.elim
def Kg:sS W zz uz:=by
 intro as H x y a b Q hn da db h;unfold uz at h;split at h
 ·cases db;show Q (.bl (!Ba x .non)) H;rw [vV da];exact aN h rfl
 ·cases db;show Q (.bl (!Ba x (.bl _))) H;rw [vT da];exact aN h rfl
 ·exact h.elim
mutual
def oG:D->Option PyData
 | .non=>some .none
 | .bl b=>some (.bool b)
 | .int i=>some (.int i)
 | .str x=>some (.str x)
 | .lst xs=>(nO xs).map .list
 | .tup xs=>(nO xs).map .tuple
 | _=>none
def nO:List D->Option (List PyData)
 | []=>some []
 | d::ds=>(oG d).bind fun p=>(nO ds).map (p::·)
end
mutual
def nh {ag:List (Addr×Obj)} {σ:St} {H:Hp} {s:Shared} (I:Inv X ag σ H s):∀ {d:D} {v:V} {u:Value} {p:PyData},dR X.K H d v->bB v u->oG d=some p->∃ as,Reads s.heap u p as
 | .non,_,_,_,h,r,e=>by cases h;cases r;cases e;exact ⟨_,.none⟩
 | .bl b,_,_,_,h,r,e=>by cases h;cases r;cases e;exact ⟨_,.bool b⟩
 | .int i,_,_,_,h,r,e=>by cases h;obtain ⟨t,rfl⟩:=r;cases e;exact ⟨_,.int i t⟩
 | .str x,_,_,_,h,r,e=>by cases h;obtain ⟨t,rfl⟩:=r;cases e;exact ⟨_,.str x t⟩
 | .lst ds,_,_,_,⟨a,xs,h0,h1,h2⟩,r,e=>by
  subst h0;cases r;unfold oG at e;cases q:nO ds with
  | none=>rw [q] at e;cases e
  | some ps =>
   rw [q] at e;cases e;obtain ⟨its,rv,pl,hz⟩:=I.list h1;obtain ⟨o,ho,hc,n,hd⟩:=pl.isList;obtain ⟨as,ha⟩:=mV I h2 rv q;exact ⟨_,.list ho hc hd (by simpa using ha)⟩
 | .tup ds,_,_,_,⟨a,xs,h0,h1,h2⟩,r,e=>by
  subst h0;cases r;unfold oG at e;cases q:nO ds with
  | none=>rw [q] at e;cases e
  | some ps =>
   rw [q] at e;cases e;obtain ⟨its,rv,pl,hz⟩:=I.tuple h1;obtain ⟨o,ho,hc,n,hd⟩:=pl;obtain ⟨as,ha⟩:=mV I h2 rv q;exact ⟨_,.tuple ho hc hd (by simpa using ha)⟩
 | .dct _,_,_,_,_,_,e=>by cases e
 | .obj _ _,_,_,_,_,_,e=>by cases e
 | .ty _,_,_,_,_,_,e=>by cases e
 | .exn _,_,_,_,_,_,e=>by cases e
 | .cls _,_,_,_,_,_,e=>by cases e
 | .lsm _,_,_,_,_,_,e=>by cases e
def mV {ag:List (Addr×Obj)} {σ:St} {H:Hp} {s:Shared} (I:Inv X ag σ H s):∀ {ds:List D} {vs:List V} {us:List Value} {ps:List PyData},aJ X.K H ds vs->bK vs us->nO ds=some ps->∃ as,ReadsAll s.heap us ps as
 | [],_,_,_,h,r,e=>by cases h;cases r;cases e;exact ⟨_,.nil⟩
 | d::ds,_,_,_,⟨v,vs,h0,h1,h2⟩,r,e=>by
  subst h0;unfold nO at e;cases q:oG d with
  | none=>rw [q] at e;cases e
  | some p =>
   rw [q] at e;have e:(nO ds).map (p::·)=some _:=e;cases q2:nO ds with
   | none=>rw [q2] at e;cases e
   | some ps =>
    rw [q2] at e;cases e;cases r with
    | cons r1 r2 =>
     obtain ⟨as,ha⟩:=nh I h1 r1 q;obtain ⟨bs,hb⟩:=mV I h2 r2 q2;exact ⟨_,.cons ha hb⟩
end
def i5:D->Option V
 | .non=>some .non
 | .bl b=>some (.bl b)
 | .int i=>some (.int i)
 | .str x=>some (.str x)
 | _=>none
def jy {K:PySem.W.Frag} {H:Hp} {d:D} {v x:V} (h:dR K H d v) (e:i5 d=some x):v=x:=by
 cases d with
 | non=>cases e;exact h
 | bl b=>cases e;exact h
 | int b=>cases e;exact h
 | str b=>cases e;exact h
 | _=>cases e
def mR (a b:D):Option Bool:=match oG a,oG b with
 | some p,some q=>if SeqAt.shaped p=true/\SeqAt.shaped q=true then some (PyData.eqv p q) else none
 | _,_=>none
def sU (a b:D):Option Bool:=match i5 a,i5 b with
 | some x,some y=>if tz x y=true then some (decide (x=y)) else none
 | _,_=>mR a b
def wA (K:PySem.W.Frag) (f:Bool->Bool):R2:=fun x y H Q=>∃ a b k,dR K H a x/\dR K H b y/\sU a b=some k/\Q (.bl (f k)) H
def yA {a b:D} {k:Bool} (h:mR a b=some k):∃ p q,oG a=some p/\oG b=some q/\SeqAt.shaped p=true/\SeqAt.shaped q=true/\k=PyData.eqv p q:=by
 unfold mR at h;split at h
 ·rename_i p q h1 h2;split at h
  ·rename_i hs;cases h;exact ⟨p,q,h1,h2,hs.1,hs.2,rfl⟩
  ·cases h
 ·cases h
def fK (K:PySem.W.Frag) (hu:X.A.units+64 < cLine) (hK:X.K=K:=by rfl):fA X (compareOp .Eq) (wA K fun k=>k):=by
 subst hK;intro ag s σ H x y v u Q I rx ry h;obtain ⟨a,b,k,da,db,e,q⟩:=h;unfold sU at e;split at e
 ·rename_i x' y' e1 e2;split at e
  ·rename_i hs;cases e
   have:=jy da e1;subst this
   have:=jy db e2;subst this
   exact Mg ag s σ H _ _ v u Q I rx ry ⟨hs,q⟩
  ·cases e
 ·obtain ⟨p,p',h1,h2,h3,h4,rfl⟩:=yA e;obtain ⟨as,ra⟩:=nh I da rx h1;obtain ⟨bs,rb⟩:=nh I db ry h2;exact eq_dataH ra rb h3 h4 hu ⟨.bl _,H,I,rfl,q⟩
def vd (K:PySem.W.Frag) (hu:X.A.units+64 < cLine) (hK:X.K=K:=by rfl):fA X (compareOp .NotEq) (wA K fun k=>!k):=by
 subst hK;intro ag s σ H x y v u Q I rx ry h;obtain ⟨a,b,k,da,db,e,q⟩:=h;unfold sU at e;split at e
 ·rename_i x' y' e1 e2;split at e
  ·rename_i hs;cases e
   have:=jy da e1;subst this
   have:=jy db e2;subst this
   exact Mw ag s σ H _ _ v u Q I rx ry ⟨hs,q⟩
  ·cases e
 ·obtain ⟨p,p',h1,h2,h3,h4,rfl⟩:=yA e;obtain ⟨as,ra⟩:=nh I da rx h1;obtain ⟨bs,rb⟩:=nh I db ry h2;exact ne_dataH ra rb h3 h4 hu ⟨.bl _,H,I,rfl,q⟩
def j6 (o:Option Bool) (f:Bool->Bool):R D:=match o with
 | some k=>.ok (.bl (f k))
 | none=>.no
def eU (a b:D):R D:=j6 (sU a b) fun k=>k
def pY (a b:D):R D:=j6 (sU a b) fun k=>!k
def Qr (K:PySem.W.Frag) (f:Bool->Bool) (hW:W.K=K:=by rfl):sS W (wA K f) (fun a b=>j6 (sU a b) f):=by
 subst hW;intro as H x y a b Q hn da db h;have h:eV W as H (j6 (sU a b) f) Q:=h;cases e:sU a b with
 | none=>rw [e] at h;exact h.elim
 | some k =>
  rw [e] at h;exact ⟨a,b,k,da.mono (aD _ _),db.mono (aD _ _),e,aN h rfl⟩
def pf (K:PySem.W.Frag) (hW:W.K=K:=by rfl):sS W (wA K fun k=>k) eU:=Qr K _ hW
def Hf (K:PySem.W.Frag) (hW:W.K=K:=by rfl):sS W (wA K fun k=>!k) pY:=Qr K _ hW
def pC:List D->Option (List V)
 | []=>some []
 | d::ds=>(i5 d).bind fun v=>(pC ds).map (v::·)
def tm {K:PySem.W.Frag} {H:Hp}:∀ {ds:List D} {vs xs:List V},aJ K H ds vs->pC ds=some xs->vs=xs/\xs.all km=true
 | [],_,_,h,e=>by cases h;cases e;exact ⟨rfl,rfl⟩
 | d::ds,_,_,⟨v,vs,h0,h1,h2⟩,e=>by
  subst h0;unfold pC at e;cases q:i5 d with
  | none=>rw [q] at e;cases e
  | some x =>
   rw [q] at e;have e:(pC ds).map (x::·)=some _:=e;cases q2:pC ds with
   | none=>rw [q2] at e;cases e
   | some xs =>
    rw [q2] at e;cases e;obtain ⟨h3,h4⟩:=tm h2 q2;refine ⟨by rw [jy h1 q,h3],?_⟩;rw [List.all_cons,h4,Bool.and_true];cases d <;> cases q <;> rfl
def AQ {d:D} {x:V} (e:i5 d=some x):km x=true:=by cases d <;> cases e <;> rfl
def HJ (j i:Str):Bool:=!(Builtin.Str.occurrences j i 0 j.length 1).isEmpty
def zo (K:PySem.W.Frag) (neg:Bool):R2:=fun x y H Q=>match x,y with
 | .str i,.str j=>Q (.bl (if neg=true then !HJ j i else HJ j i)) H
 | x,.ref p=>∃ xs,(dZ K H p xs\/lG K H p xs)/\km x=true/\xs.all km=true/\Q (.bl (if neg=true then !Da x xs else Da x xs)) H
 | _,_=>False
def zB (K:PySem.W.Frag) (hK:X.K=K:=by rfl):fA X (compareOp .In) (zo K false):=by
 subst hK;refine (Cd.or C2).imp fun x y H Q q=>?_;unfold zo at q;split at q
 ·exact .inl ⟨_,_,rfl,rfl,q⟩
 ·obtain ⟨xs,h1,h2,h3,h4⟩:=q;exact .inr ⟨_,xs,rfl,h1,h2,h3,h4⟩
 ·exact q.elim
def Bo (K:PySem.W.Frag) (hK:X.K=K:=by rfl):fA X (compareOp .NotIn) (zo K true):=by
 subst hK;refine (wV.or wy).imp fun x y H Q q=>?_;unfold zo at q;split at q
 ·exact .inl ⟨_,_,rfl,rfl,q⟩
 ·obtain ⟨xs,h1,h2,h3,h4⟩:=q;exact .inr ⟨_,xs,rfl,h1,h2,h3,h4⟩
 ·exact q.elim
def A6 (x:D) (xs:List D):Option Bool:=match i5 x,pC xs with
 | some v,some vs=>some (Da v vs)
 | _,_=>none
def QV (x y:D):Option Bool:=match y with
 | .str j=>match x with
  | .str i=>some (HJ j i)
  | _=>none
 | .lst xs=>A6 x xs
 | .tup xs=>A6 x xs
 | _=>none
def uO (x y:D):R D:=j6 (QV x y) fun k=>if false=true then !k else k
def rg (x y:D):R D:=j6 (QV x y) fun k=>if true=true then !k else k
def Qb (K:PySem.W.Frag) (neg:Bool) (hW:W.K=K:=by rfl):sS W (zo K neg) (fun a b=>j6 (QV a b) fun k=>if neg=true then !k else k):=by
 subst hW;intro as H x y a b Q hn da db h;have key:∀ (p:Addr) (ds:List D) (vs:List V),y=.ref p->(dZ W.K H p vs\/lG W.K H p vs)->aJ W.K (aG as H) ds vs->eV W as H (j6 (A6 a ds) fun k=>if neg=true then !k else k) Q->zo W.K neg x y H Q:=by
  intro p ds vs hy hq hd h;subst hy;unfold A6 at h;cases e1:i5 a with
  | none=>rw [e1] at h;exact h.elim
  | some v =>
   rw [e1] at h;cases e2:pC ds with
   | none=>rw [e2] at h;exact h.elim
   | some ws =>
    rw [e2] at h
    have:=jy da e1
    subst this;obtain ⟨h3,h4⟩:=tm hd e2;subst h3;have fin:∃ xs,(dZ W.K H p xs\/lG W.K H p xs)/\km x=true/\xs.all km=true/\Q (.bl (if neg=true then !Da x xs else Da x xs)) H:=⟨vs,hq,AQ e1,h4,aN h rfl⟩;cases x <;> exact fin
 cases b with
 | str j =>
  cases a with
  | str i=>cases da;cases db;exact aN h rfl
  | _=>exact h.elim
 | lst ds=>obtain ⟨p,vs,rfl,q1,q2⟩:=db;exact key p ds vs rfl (.inl ((aD _ _).seq q1)) q2 h
 | tup ds=>obtain ⟨p,vs,rfl,q1,q2⟩:=db;exact key p ds vs rfl (.inr ((aD _ _).seqT q1)) q2 h
 | _=>exact h.elim
def Ka (K:PySem.W.Frag) (hW:W.K=K:=by rfl):sS W (zo K false) uO:=Qb K false hW
def Fo (K:PySem.W.Frag) (hW:W.K=K:=by rfl):sS W (zo K true) rg:=Qb K true hW
def bj (a b:D):R D:=match a,b with
 | .str z,.int i=>if z.length<=1000000 then (match atI z.cps.toList i with
  | some c=>.ok (.str ⟨#[c]⟩)
  | none=>.no) else .no
 | .lst xs,.int i=>match atI xs i with
  | some d=>.ok d
  | none=>.no
 | .tup xs,.int i=>match atI xs i with
  | some d=>.ok d
  | none=>.no
 | _,_=>.no
def aJ.atI {K:PySem.W.Frag} {H:Hp} {ds:List D} {xs:List V} {i:Int} {d:D} (h:aJ K H ds xs) (e:atI ds i=some d):∃ v,L2.atI xs i=some v/\dR K H d v:=by
 unfold L2.atI at e ⊢;rw [h.len] at e;cases q:Gf xs.length i with
 | none=>rw [q] at e;cases e
 | some j =>
  rw [q] at e;exact h.get e
def eF (K:PySem.W.Frag) (hW:W.K=K:=by rfl):sS W (KF K) bj:=by
 subst hW;intro as H x y a b Q hn da db h;unfold bj at h;split at h
 ·cases da;cases db;split at h
  ·rename_i hl;split at h
   ·rename_i c e;exact ⟨c,Nat.le_trans hl c9,e,aN h rfl⟩
   ·exact h.elim
  ·exact h.elim
 ·obtain ⟨p,vs,rfl,q1,q2⟩:=da;cases db;split at h
  ·rename_i d e;obtain ⟨v,h1,h2⟩:=q2.atI e;exact ⟨vs,v,.inl ((aD _ _).seq q1),h1,aN h h2⟩
  ·exact h.elim
 ·obtain ⟨p,vs,rfl,q1,q2⟩:=da;cases db;split at h
  ·rename_i d e;obtain ⟨v,h1,h2⟩:=q2.atI e;exact ⟨vs,v,.inr ((aD _ _).seqT q1),h1,aN h h2⟩
  ·exact h.elim
 ·exact h.elim
def yY (xs:List D) (lo hi:Option Int):List D:=(xs.drop (HT.sIx xs.length 0 lo)).take (HT.sIx xs.length xs.length hi - HT.sIx xs.length 0 lo)
def aJ.cut {K:PySem.W.Frag} {H:Hp} {ds:List D} {xs:List V} (h:aJ K H ds xs) (lo hi:Option Int):aJ K H (yY ds lo hi) (uY xs lo hi):=by
 unfold yY uY;rw [h.len];exact (h.drop _).take _
def fJ (a:D) (lo hi:Option Int):R D:=match a with
 | .str z=>if z.length<=1000000 then .ok (.str (du z lo hi)) else .no
 | .lst xs=>.ok (.lst (yY xs lo hi))
 | .tup xs=>if HT.sIx xs.length 0 lo=0/\HT.sIx xs.length xs.length hi=xs.length then .no else .ok (.tup (yY xs lo hi))
 | _=>.no
def xO (K:PySem.W.Frag) (hW:W.K=K:=by rfl):Sk W (Q2 K) fJ:=by
 subst hW;intro as H x lo hi a Q hn da h;unfold fJ at h;split at h
 ·cases da;split at h
  ·rename_i hl;exact ⟨Nat.le_trans hl c9,aN h rfl⟩
  ·exact h.elim
 ·obtain ⟨p,vs,rfl,q1,q2⟩:=da;refine .inl ⟨vs,(aD _ _).seq q1,fun p hp=>h _ _ (aU hp _) ⟨p,_,rfl,.inl (.inl (by rw [aV (hn p hp)];exact aZ)),(q2.cut lo hi).mono (aP (aU hp _))⟩⟩
 ·obtain ⟨p,vs,rfl,q1,q2⟩:=da;rename_i xs;split at h
  ·exact h.elim
  ·rename_i hc;rw [q2.len] at hc;exact .inr ⟨vs,(aD _ _).seqT q1,hc,fun p hp=>h _ _ (aU hp _) ⟨p,_,rfl,.inl (.inl (by rw [aV (hn p hp)];exact aZ)),(q2.cut lo hi).mono (aP (aU hp _))⟩⟩
 ·exact h.elim
def bt (ds:List D):R D:=match ds with
 | [.str z]=>if z.length<=1000000 then .ok (.int z.length) else .no
 | [.lst xs]=>.ok (.int xs.length)
 | [.tup xs]=>.ok (.int xs.length)
 | _=>.no
def dM {K:PySem.W.Frag} {H:Hp} {d:D} {xs:List V} (h:aJ K H [d] xs):∃ v,xs=[v]/\dR K H d v:=by
 obtain ⟨v,vs,rfl,h1,h2⟩:=h;cases h2;exact ⟨v,rfl,h1⟩
def Ij {K:PySem.W.Frag} {H:Hp} {d e:D} {xs:List V} (h:aJ K H [d,e] xs):∃ v u,xs=[v,u]/\dR K H d v/\dR K H e u:=by
 obtain ⟨v,vs,rfl,h1,h2⟩:=h;obtain ⟨u,rfl,h3⟩:=dM h2;exact ⟨v,u,rfl,h1,h3⟩
def fV (K:PySem.W.Frag) (hW:W.K=K:=by rfl):oQ W (GT K) bt:=by
 subst hW;intro as H xs ds Q hn dv h;unfold bt at h;split at h
 ·obtain ⟨v,rfl,d1⟩:=dM dv;cases d1;split at h
  ·rename_i hl;exact ⟨Nat.le_trans hl c9,aN h rfl⟩
  ·exact h.elim
 ·obtain ⟨v,rfl,d1⟩:=dM dv;obtain ⟨p,vs,rfl,q1,q2⟩:=d1;refine ⟨vs,.inl ((aD _ _).seq q1),?_⟩;rw [<- q2.len];exact aN h rfl
 ·obtain ⟨v,rfl,d1⟩:=dM dv;obtain ⟨p,vs,rfl,q1,q2⟩:=d1;refine ⟨vs,.inr ((aD _ _).seqT q1),?_⟩;rw [<- q2.len];exact aN h rfl
 ·exact h.elim
def F6 (ds:List D):R D:=match ds with
 | [.int i]=>.ok (.int (if i < 0 then -i else i))
 | _=>.no
def RN:oQ W J3 F6:=by
 intro as H xs ds Q hn dv h;unfold F6 at h;split at h
 ·obtain ⟨v,rfl,d1⟩:=dM dv;cases d1;exact aN h rfl
 ·exact h.elim
def zj:List D->Option (List Bool)
 | []=>some []
 | .bl b::ds=>(zj ds).map (b::·)
 | _=>none
def yy {K:PySem.W.Frag} {H:Hp}:∀ {ds:List D} {vs:List V} {bs:List Bool},aJ K H ds vs->zj ds=some bs->vs=bs.map V.bl
 | [],_,_,h,e=>by cases h;cases e;rfl
 | d::ds,_,_,⟨v,vs,h0,h1,h2⟩,e=>by
  subst h0;cases d with
  | bl b =>
   have e:(zj ds).map (b::·)=some _:=e;cases q2:zj ds with
   | none=>rw [q2] at e;cases e
   | some xs =>
    rw [q2] at e;cases e;cases h1;rw [yy h2 q2];rfl
  | _=>cases e
def nF (ds:List D):R D:=match ds with
 | [.lst xs]=>match zj xs with
  | some bs=>.ok (.bl (bs.all id))
  | none=>.no
 | _=>.no
def CC (K:PySem.W.Frag) (hW:W.K=K:=by rfl):oQ W (JH K) nF:=by
 subst hW;intro as H xs ds Q hn dv h;unfold nF at h;split at h
 ·obtain ⟨v,rfl,d1⟩:=dM dv;obtain ⟨p,vs,rfl,q1,q2⟩:=d1;split at h
  ·rename_i bs e;refine ⟨bs,?_,aN h rfl⟩;rw [<- yy q2 e];exact (aD _ _).seq q1
  ·exact h.elim
 ·exact h.elim
def D5 (K:PySem.W.Frag) (xs:List V) (H:Hp) (Q:VK):Prop:=match xs with
 | [x,.ty C]=>eY C=true/\(match x with
  | .non=>Q (.bl (bV "NoneType" C)) H
  | .bl _=>Q (.bl (bV "bool" C)) H
  | .int _=>Q (.bl (bV "int" C)) H
  | .str _=>Q (.bl (bV "str" C)) H
  | .ref a=>(∃ xs,dZ K H a xs/\Q (.bl (bV "list" C)) H)\/(∃ xs,lG K H a xs/\Q (.bl (bV "tuple" C)) H)\/∃ kvs,H a=some (.dK kvs)/\Q (.bl (bV "dict" C)) H
  | _=>False)
 | _=>False
def iG (K:PySem.W.Frag) (hK:X.K=K:=by rfl):cx X (.builtin "isinstance") (D5 K):=by
 subst hK;intro ag s σ H xs us Q I r h;unfold D5 at h;split at h
 ·rename_i x C;obtain ⟨hC,h⟩:=h;obtain ⟨u,c,rfl,rx,rc⟩:=M5 r;cases rc;have fin:∀ (b:Bool),Q (.bl b) H->∀ tk,X.tn<=tk->EP X ag σ Q (.bool b) { s with toks:=tk }:=fun b q tk htk=>⟨.bl b,H,I.tok tk,rfl,q⟩;refine bh I.tk ?_;cases x with
  | non=>exact lr I rx .non (l5 (.inl rfl) hC) (fin _ h)
  | bl b=>exact lr I rx (.bl b) (l5 (.inr (.inl rfl)) hC) (fin _ h)
  | int b=>exact lr I rx (.int b) (l5 (.inr (.inr (.inl rfl))) hC) (fin _ h)
  | str b=>exact lr I rx (.str b) (l5 (.inr (.inr (.inr (.inl rfl)))) hC) (fin _ h)
  | ref a =>
   cases rx;rcases h with ⟨xs,hq,q⟩|⟨xs,hq,q⟩|⟨kvs,hq,q⟩
   ·obtain ⟨its,rv,pl,hz⟩:=I.list hq;obtain ⟨o,ho,hc,n,hd⟩:=pl.isList;exact PySem.W.kia_one PySem.W.kitx_list I.kIn ⟨o,ho,hc⟩ (l5 (.inr (.inr (.inr (.inr (.inl rfl))))) hC) (fun z=>nomatch z) (fin _ q)
   ·obtain ⟨its,rv,pl,hz⟩:=I.tuple hq;obtain ⟨o,ho,hc,n,hd⟩:=pl;exact PySem.W.kia_one PySem.W.kitx_tuple I.kIn ⟨o,ho,hc⟩ (l5 (.inr (.inr (.inr (.inr (.inr (.inl rfl)))))) hC) (fun z=>nomatch z) (fin _ q)
   ·exact lr (x:=.ref a) I rfl (.dK hq) (l5 (.inr (.inr (.inr (.inr (.inr (.inr rfl)))))) hC) (fin _ q)
  | _=>exact h.elim
 ·exact h.elim
def fG (ds:List D):R D:=match ds with
 | [x,.ty C]=>if eY C=true then (match x with
  | .non=>.ok (.bl (bV "NoneType" C))
  | .bl _=>.ok (.bl (bV "bool" C))
  | .int _=>.ok (.bl (bV "int" C))
  | .str _=>.ok (.bl (bV "str" C))
  | .lst _=>.ok (.bl (bV "list" C))
  | .tup _=>.ok (.bl (bV "tuple" C))
  | .dct _=>.ok (.bl (bV "dict" C))
  | _=>.no) else .no
 | _=>.no
def m8 (K:PySem.W.Frag) (hW:W.K=K:=by rfl):oQ W (D5 K) fG:=by
 subst hW;intro as H xs ds Q hn dv h;unfold fG at h;split at h
 ·obtain ⟨v,u,rfl,d1,d2⟩:=Ij dv;cases d2;split at h
  ·rename_i hC;split at h
   ·cases d1;exact ⟨hC,aN h rfl⟩
   ·cases d1;exact ⟨hC,aN h rfl⟩
   ·cases d1;exact ⟨hC,aN h rfl⟩
   ·cases d1;exact ⟨hC,aN h rfl⟩
   ·obtain ⟨p,vs,rfl,q1,q2⟩:=d1;exact ⟨hC,.inl ⟨vs,(aD _ _).seq q1,aN h rfl⟩⟩
   ·obtain ⟨p,vs,rfl,q1,q2⟩:=d1;exact ⟨hC,.inr (.inl ⟨vs,(aD _ _).seqT q1,aN h rfl⟩)⟩
   ·obtain ⟨p,vs,rfl,q1,q2⟩:=d1;exact ⟨hC,.inr (.inr ⟨vs,aD _ _ _ _ q1,aN h rfl⟩)⟩
   ·exact h.elim
  ·exact h.elim
 ·exact h.elim
def wN (K:PySem.W.Frag) (xs:List V) (H:Hp) (Q:VK):Prop:=match xs with
 | [.ref p]=>(∃ ys,dZ K H p ys/\∀ l,H l=none->Q (.ref l) (cQ H l (.tup ys)))\/∃ ys,lG K H p ys/\Q (.ref p) H
 | _=>False
def zL (K:PySem.W.Frag) (hK:X.K=K:=by rfl):cx X (.type "tuple") (wN K):=by
 subst hK;refine u3.imp fun xs H Q q=>?_;unfold wN at q;split at q
 ·rcases q with ⟨ys,h1,h2⟩|⟨ys,h1,h2⟩
  ·exact ⟨_,ys,rfl,.inl ⟨h1,h2⟩⟩
  ·exact ⟨_,ys,rfl,.inr ⟨h1,h2⟩⟩
 ·exact q.elim
def sA (ds:List D):R D:=match ds with
 | [.lst xs]=>.ok (.tup xs)
 | [.tup xs]=>.ok (.tup xs)
 | _=>.no
def JD {as:List Addr} {H:Hp} (hn:∀ a∈as,H a≠none):∀ p,H p=none->p∉as:=fun p hp z=>hn p z hp
def NX (K:PySem.W.Frag) (hW:W.K=K:=by rfl):oQ W (wN K) sA:=by
 subst hW;intro as H xs ds Q hn dv h;unfold sA at h;split at h
 ·obtain ⟨v,rfl,d1⟩:=dM dv;obtain ⟨p,vs,rfl,q1,q2⟩:=d1;exact .inl ⟨vs,(aD _ _).seq q1,fun l hl=>h _ _ (aU hl _) ⟨l,vs,rfl,.inl (.inl (by rw [aV (JD hn l hl)];exact aZ)),q2.mono (aP (aU hl _))⟩⟩
 ·obtain ⟨v,rfl,d1⟩:=dM dv;obtain ⟨p,vs,rfl,q1,q2⟩:=d1;exact .inr ⟨vs,(aD _ _).seqT q1,aN h ⟨p,vs,rfl,q1,q2⟩⟩
 ·exact h.elim
def AR (K:PySem.W.Frag) (xs:List V) (H:Hp) (Q:VK):Prop:=match xs with
 | [.ref p]=>∃ ys,(dZ K H p ys\/lG K H p ys)/\∀ l,H l=none->Q (.ref l) (cQ H l (.lst ys))
 | _=>False
def Lm (K:PySem.W.Frag) (hK:X.K=K:=by rfl):cx X (.type "list") (AR K):=by
 subst hK;refine wK.imp fun xs H Q q=>?_;unfold AR at q;split at q
 ·obtain ⟨ys,h1,h2⟩:=q;exact ⟨_,ys,rfl,h1,h2⟩
 ·exact q.elim
def DK (ds:List D):R D:=match ds with
 | [.lst xs]=>.ok (.lst xs)
 | [.tup xs]=>.ok (.lst xs)
 | _=>.no
def RK (K:PySem.W.Frag) (hW:W.K=K:=by rfl):IZ W (AR K) DK:=by
 subst hW;intro as H xs ds Q hn dv h;unfold DK at h;split at h
 ·obtain ⟨v,rfl,d1⟩:=dM dv;obtain ⟨p,vs,rfl,q1,q2⟩:=d1;exact ⟨vs,.inl ((aD _ _).seq q1),fun l hl=>h l _ _ (aU hl _) hl aZ ⟨vs,rfl,q2.mono (jI hl (aU hl _))⟩⟩
 ·obtain ⟨v,rfl,d1⟩:=dM dv;obtain ⟨p,vs,rfl,q1,q2⟩:=d1;exact ⟨vs,.inr ((aD _ _).seqT q1),fun l hl=>h l _ _ (aU hl _) hl aZ ⟨vs,rfl,q2.mono (jI hl (aU hl _))⟩⟩
 ·exact h.elim
def mF:List D->Option (List Str)
 | []=>some []
 | .str b::ds=>(mF ds).map (b::·)
 | _=>none
def og {K:PySem.W.Frag} {H:Hp}:∀ {ds:List D} {vs:List V} {bs:List Str},aJ K H ds vs->mF ds=some bs->vs=bs.map V.str
 | [],_,_,h,e=>by cases h;cases e;rfl
 | d::ds,_,_,⟨v,vs,h0,h1,h2⟩,e=>by
  subst h0;cases d with
  | str b =>
   have e:(mF ds).map (b::·)=some _:=e;cases q2:mF ds with
   | none=>rw [q2] at e;cases e
   | some xs =>
    rw [q2] at e;cases e;cases h1;rw [og h2 q2];rfl
  | _=>cases e
def eD (z:Str) (ds:List D):R D:=match ds with
 | [.lst xs]=>match mF xs with
  | some ys=>if (ys.map (·.length)).sum+ys.length*z.length<=1000000 then .ok (.str (Txt.join z ys)) else .no
  | none=>.no
 | _=>.no
def r8 (K:PySem.W.Frag) (hW:W.K=K:=by rfl):GB W (D3 K) eD:=by
 subst hW;intro as H z xs ds Q hn dv h;unfold eD at h;split at h
 ·obtain ⟨v,rfl,d1⟩:=dM dv;obtain ⟨p,vs,rfl,q1,q2⟩:=d1;split at h
  ·rename_i ys e;split at h
   ·rename_i hl;refine ⟨ys,?_,Nat.le_trans hl (by decide),aN h rfl⟩;rw [<- og q2 e];exact (aD _ _).seq q1
   ·exact h.elim
  ·exact h.elim
 ·exact h.elim
def sv (f:Str->Str->D) (z:Str) (ds:List D):R D:=match ds with
 | [.str y]=>.ok (f z y)
 | _=>.no
def sO:GB W (Gu fun x y=>.bl (Txt.startswith x y)) (sv fun x y=>.bl (Txt.startswith x y)):=by
 intro as H z xs ds Q hn dv h;unfold sv at h;split at h
 ·obtain ⟨v,rfl,d1⟩:=dM dv;cases d1;exact aN h rfl
 ·exact h.elim
def IL:GB W (Gu fun x y=>.bl (Txt.endswith x y)) (sv fun x y=>.bl (Txt.endswith x y)):=by
 intro as H z xs ds Q hn dv h;unfold sv at h;split at h
 ·obtain ⟨v,rfl,d1⟩:=dM dv;cases d1;exact aN h rfl
 ·exact h.elim
end
section
variable {X:Cx} {o e:Expr} {es:List Expr} {to:TE} {t:TA} {name:Str} {apos cpos:Pos} {T id:String} {r:V->List V->Hp->VK->Prop}
def En (pa:PlainAttrs T) (slot:Slot T name id) (hty:typeOf (.builtin id)=pure (.type "method_descriptor")) (hm:S4 X id r) (ho:JE X o to) (ha:JA X (e::es) t)
  (hbase:attributeBase o name X.env (eval o X.env)=eval o X.env:=by rfl) (hline:(apos.endLine==cpos.line)=true:=by rfl) (h1:(e::es).all a8=true:=by rfl) (hl:(e::es).length < 29:=by decide) :
  JE X (.Call (.Attribute o name apos) (e::es) [] cpos) (Lz X.K T r to t):=by
 have h1':=h1;rw [List.all_cons,Bool.and_eq_true] at h1';exact ⟨OC pa slot hty hm ho.out ha.out hbase (x6 h1 hl) hline (eh h1'.1) (iv h1'.2)⟩
end
def Bf:∀ {O:List Nat} {own:List Addr} {i:Nat} {a b:Addr},O.Nodup->(i,a)∈O.zip own->(i,b)∈O.zip own->a=b
 | [],_,_,_,_,_,h,_=>by simp at h
 | _::_,[],_,_,_,_,h,_=>by simp at h
 | k::O,c::own,i,a,b,nd,h1,h2=>by
  rw [List.zip_cons_cons] at h1 h2;rw [List.nodup_cons] at nd;rcases List.mem_cons.mp h1 with e1|h1 <;> rcases List.mem_cons.mp h2 with e2|h2
  ·cases e1;cases e2;rfl
  ·cases e1;exact absurd (List.of_mem_zip h2).1 nd.1
  ·cases e2;exact absurd (List.of_mem_zip h1).1 nd.1
  ·exact Bf nd.2 h1 h2
def nQ {as:List Addr} {H:Hp} {a:Addr} {o:HO} (h:a∈as):aG as (cQ H a o)=aG as H:=by
 funext b
 unfold aG;split
 ·rfl
 ·rename_i hb;exact bf fun z=>hb (by rw [z];exact h)
def DI.mutate {K:PySem.W.Frag} {as0 own:List Addr} {B H:Hp} {O:List Nat} {σ:St} {δ:Sd} {i:Nat} {a:Addr} {o':HO} {d':D} (I:DI K as0 B O own σ δ H) (hi:(i,a)∈O.zip own) (h:l9 K (aG (own++as0) H) o' d') :
  DI K as0 B O own σ (δ.set i (some d')) (cQ H a o'):=by
 have hm:a∈own++as0:=List.mem_append_left _ (List.of_mem_zip hi).2;obtain ⟨d0,o0,h1,h2,h3,h4⟩:=I.owns i a hi;have hil:i < δ.length:=(List.getElem?_eq_some_iff.mp h1).1;refine ⟨by simp [I.len],I.olen,I.nd,I.ond,I.fresh,I.ex0,fun b u e=>?_,fun j e hj q=>?_,fun j b hj=>?_⟩
 ·have hb:b≠a:=fun z=>by
   have:=I.fresh a (List.of_mem_zip hi).2
   rw [z,this] at e;cases e
  rw [bf hb];exact I.same b u e
 ·have hji:i≠j:=fun z=>hj (by rw [<- z];exact (List.of_mem_zip hi).1);rw [getElem?_set',if_neg hji] at q;rw [nQ hm];exact I.var j e hj q
 ·rw [nQ hm];by_cases hji:i=j
  ·subst hji
   have:=Bf I.ond hi hj
   subst this;exact ⟨d',o',by rw [getElem?_set',if_pos rfl,if_pos hil],h2,aZ,h⟩
  ·obtain ⟨d,u,q1,q2,q3,q4⟩:=I.owns j b hj;have hba:b≠a:=fun z=>hji (by rw [z] at hj;exact zip_inj I.nd hi hj);exact ⟨d,u,by rw [getElem?_set',if_neg hji];exact q1,q2,by rw [bf hba];exact q3,q4⟩
section
variable {X:Cx} {W:Wd} {Ob O O':List Nat} {e:Expr} {ε ψ:FE} {pos p1 p2 apos cpos:Pos} {x:Str}
def IO (K:PySem.W.Frag) {i:Nat} (hi:i∈O) (hb:JE X e (tD W O ψ)) (hN:X.N[i]?=some x:=by rfl) (hs:on e:=by exact fun _ _=>rfl) (hv:zv X.env.scope x:=by first|exact Or.inl rfl|exact Or.inr (Or.inl rfl)|exact Or.inr (Or.inr rfl)) (hd:(x==("__debug__":Str))=false:=by decide)
  (hcd:(x==("__classdict__":Str))=false:=by decide) (hK:X.K=K:=by rfl) (hW:W.K=K:=by rfl):JE X (.Subscript (.Name x p1) e pos) (tD W O (ap bj (ae i) ψ)) :=
 (Hg (dU K hK) (jv i hN hv hd hcd) hb hs).imp fun σ H Q hh=>fT hh fun as0 B own δ I h=>by
  obtain ⟨a,ha⟩:=gw I.olen hi;obtain ⟨d,o,h1,h2,h3,h4⟩:=I.owns i a ha;have e0:wH (KF K) (pI i) (tD W O ψ) σ H Q=vg σ[i]? H (Om (KF K) (tD W O ψ) σ Q):=rfl;rw [e0,h2];have hv:ae i δ=.ok d:=by unfold ae;rw [h1]
  have h':eV W (own++as0) H ((ψ δ).bind fun y=>bj d y) Q:=by
   have e:ap bj (ae i) ψ δ=(ψ δ).bind fun y=>bj d y:=by unfold ap;rw [hv];rfl
   rw [<- e];exact h
  refine ⟨as0,B,own,δ,I,dr h' fun y u H2 s2 d2 h2'=>?_⟩;subst hW;cases d with
  | lst ds =>
   obtain ⟨xs,rfl,q⟩:=h4;cases y with
   | int k =>
    cases d2;have h2'':eV W (own++as0) H2 (match atI ds k with|some d=>.ok d|none=>.no) Q:=h2'
    cases q3:atI ds k with
    | none=>rw [q3] at h2'';exact h2''.elim
    | some d' =>
     rw [q3] at h2'';obtain ⟨v,e1,e2⟩:=q.atI q3;exact ⟨xs,v,.inl (dZ.of (s2 _ _ h3)),e1,aN h2'' (e2.mono (aP s2))⟩
   | _=>exact h2'.elim
  | _=>first|exact h4.elim|(cases y <;> exact h2'.elim)
def JR (K:PySem.W.Frag) {i:Nat} (hi:i∈O) (hm:X.mg "len"=none) (hN:X.N[i]?=some x:=by rfl) (hg:Gl X "len":=by rfl) (hv:zv X.env.scope x:=by first|exact Or.inl rfl|exact Or.inr (Or.inl rfl)|exact Or.inr (Or.inr rfl)) (hd:(x==("__debug__":Str))=false:=by decide)
  (hcd:(x==("__classdict__":Str))=false:=by decide) (hK:X.K=K:=by rfl) (hW:W.K=K:=by rfl):JE X (.Call (.Name "len" p2) [.Name x p1] [] pos) (tD W O (aj bt (aa (ae i) ak))) :=
 (Bg (fI K hK) hm bA (gt (jv i hN hv hd hcd) iU) hg).imp fun σ H Q hh=>fT hh fun as0 B own δ I h=>by
  obtain ⟨a,ha⟩:=gw I.olen hi;obtain ⟨d,o,h1,h2,h3,h4⟩:=I.owns i a ha;show vg σ[i]? H _;rw [h2];have hv:ae i δ=.ok d:=by unfold ae;rw [h1]
  have h':eV W (own++as0) H (bt [d]) Q:=by
   have e:aj bt (aa (ae i) ak) δ=bt [d]:=by unfold aj aa ak;rw [hv];rfl
   rw [<- e];exact h
  cases d with
  | lst ds =>
   obtain ⟨xs,rfl,q⟩:=h4;refine ⟨xs,.inl (dZ.of h3),?_⟩;rw [<- q.len];exact aN h' rfl
  | _=>first|exact h4.elim|exact h'.elim
def bG (i:Nat) (ε:FE):FS:=fun δ=>match δ[i]? with
 | some (some (.lst xs))=>(ε δ).bind fun d=>if xs.length < 1000000 then .ok (.nx (δ.set i (some (.lst (xs++[d]))))) else .no
 | _=>.no
def eI {i:Nat} (hi:i∈O) (he:JE X e (tD W O ε)) (hN:X.N[i]?=some x:=by rfl) (hn:a8 e=true:=by rfl) (hline:(apos.endLine==cpos.line)=true:=by rfl) (hv:zv X.env.scope x:=by first|exact Or.inl rfl|exact Or.inr (Or.inl rfl)|exact Or.inr (Or.inr rfl)) (hd:(x==("__debug__":Str))=false:=by decide)
  (hcd:(x==("__classdict__":Str))=false:=by decide) (hbase:attributeBase (.Name x p1) "append" X.env (eval (.Name x p1) X.env)=eval (.Name x p1) X.env:=by rfl)
  (hs:swapsWith (.Call (.Attribute (.Name x p1) "append" apos) [e] [] cpos) none pos.line X.env=pure false:=by rfl) (hW:W.K=X.K:=by rfl) :
  JS X (.Expr (.Call (.Attribute (.Name x p1) "append" apos) [e] [] cpos) pos) (sD W Ob O O (bG i ε)) :=
 (ql (En PySem.F.plainAttrs_list PySem.F.slot_list_append PySem.F.type_list_append lj (jv i hN hv hd hcd) (gt he iU hn) hbase hline (by rw [List.all_cons,hn];rfl) (by show 1 < 29;decide)) hs).imp fun D σ H hh=>fT hh fun as0 B own δ I h=>by
  obtain ⟨a,ha⟩:=gw I.olen hi;obtain ⟨d,o,h1,h2,h3,h4⟩:=I.owns i a ha;have e0:ug (Lz X.K "list" qB (pI i) (tF (tD W O ε) B8)) D σ H=vg σ[i]? H (fun x H1=>QY X.K "list" x H1/\tF (tD W O ε) B8 σ H1 fun vs H2=>qB x vs H2 (fun _ H3=>D.nx σ H3)):=rfl;rw [e0,h2];unfold bG at h;rw [h1] at h;cases d with
  | lst ds =>
   obtain ⟨xs,rfl,q⟩:=h4;refine ⟨.inl ⟨rfl,xs,dZ.of h3⟩,as0,B,own,δ,I,lO I h fun y v H2 s2 d2 hq=>?_⟩;split at hq
   ·rename_i hl;refine ⟨a,xs,v,rfl,rfl,s2 _ _ h3,?_,?_⟩
    ·have:=c9;rw [<- q.len];omega
    ·exact hq own σ _ ((I.mono s2).mutate ha ⟨xs++[v],rfl,(q.mono (aP s2)).append (aJ.cons d2 aJ.nil)⟩)
   ·exact hq.elim
  | _=>exact h.elim
end
end L2
namespace L2
open PySem PySem.Builtin
section
variable {prog:Program} {w:World} {A:Around} {E:Value->Shared->Prop} {s:Shared}
def pT {it l:Addr} {i:Nat} {items} {x:Value} {Q:Value->Shared->Prop} (hit:s.heap.IsTupleIter it l i)
  (hl:s.heap.IsTuple l items) (hx:items[i]?=some x)
  (hQ:∀ h',h'.IsTupleIter it l (i+1)->Heap.SameBut it s.heap h'->Q x { s with heap:=h' }) :
  wpAny (model prog w) A (Builtin.SmallTypes.nextOf (.ref it)) Q E s:=by
 obtain ⟨o,ho,hc,hd⟩:=id hit;obtain ⟨ol,hol,_,nl,hdl⟩:=hl;unfold Builtin.SmallTypes.nextOf;refine wpAny_bind (wpAny_callSpecial?_slot (name:=Str.ofString "__next__") hit.typeIs F.slot_tuple_iterator_next
  (wpAny_call_entry F.slot_tuple_iterator_next hit.typeIs F.entry_tuple_iterator_next ?_ (F.args_tuple_iterator_next_1 _)))
 show wpAny _ _ (field (.ref it) 0 >>= _) _ _ s;refine wpAny_bind (wpAny_field ho hd (x:=.ref l) rfl ?_);show wpAny _ _ (if (Value.ref l==Value.none)=true then _ else _) _ _ s;rw [if_neg (show ¬ ((Value.ref l==Value.none)=true) from Bool.false_ne_true)];show wpAny _ _ (field (.ref it) 1 >>= _) _ _ s;refine wpAny_bind (wpAny_field ho hd (x:=.int i 0) rfl ?_);show wpAny _ _ (seqItems? (.ref l) >>= _) _ _ s;refine wpAny_bind (wpAny_seqItems hol hdl ?_);simp only [Int.toNat_natCast,hx];refine wpAny_bind (wpAny_setField ho hd (by simp) (wpAny_pure ⟨x,rfl,wpAny_pure (hQ _ ?_ (Heap.SameBut.update ..))⟩));exact ⟨_,Heap.get?_update_self _ ho (Obj.isFreed_of_fields (Obj.data_mapFields hd _)),(Obj.cls_mapFields ..).trans hc,by
  rw [Obj.data_mapFields hd];simp [rawInt]⟩
def rC {it l:Addr} {i:Nat} {items} {Q:Value->Shared->Prop} (hh:A.handled=none)
  (hit:s.heap.IsTupleIter it l i) (hl:s.heap.IsTuple l items) (hx:items[i]?=none)
  (hE:∀ h' e,Heap.ExtBut it s.heap h'->(∃ o,h'.get? e=some o/\o.cls=.type "StopIteration")->E (.ref e) { s with heap:=h' }) :
  wpAny (model prog w) A (Builtin.SmallTypes.nextOf (.ref it)) Q E s:=by
 obtain ⟨o,ho,hc,hd⟩:=id hit;obtain ⟨ol,hol,_,nl,hdl⟩:=hl;unfold Builtin.SmallTypes.nextOf;refine wpAny_bind (wpAny_callSpecial?_slot (name:=Str.ofString "__next__") hit.typeIs F.slot_tuple_iterator_next
  (wpAny_call_entry F.slot_tuple_iterator_next hit.typeIs F.entry_tuple_iterator_next ?_ (F.args_tuple_iterator_next_1 _)))
 show wpAny _ _ (field (.ref it) 0 >>= _) _ _ s;refine wpAny_bind (wpAny_field ho hd (x:=.ref l) rfl ?_);show wpAny _ _ (if (Value.ref l==Value.none)=true then _ else _) _ _ s;rw [if_neg (show ¬ ((Value.ref l==Value.none)=true) from Bool.false_ne_true)];show wpAny _ _ (field (.ref it) 1 >>= _) _ _ s;refine wpAny_bind (wpAny_field ho hd (x:=.int i 0) rfl ?_);show wpAny _ _ (seqItems? (.ref l) >>= _) _ _ s;refine wpAny_bind (wpAny_seqItems hol hdl ?_);simp only [Int.toNat_natCast,hx];refine wpAny_bind (wpAny_rule (wpAny_bind (wpAny_setField ho hd (by simp) ?_)));show wpAny _ _ (newExc (.type "StopIteration") [] >>= _) _ _ _;refine wpAny_bind ?_;simp only [newExc,newTuple];refine wpAny_bind (wpAny_newObj_type ?_ (by size_fits));refine wpAny_bind (m:=firstArgMember _ _) (wpAny_of_eq (a:=Value.none) (by first|rfl|(simp only [firstArgMember];rfl)) ?_);refine wpAny_newObj_type ?_ (by size_fits);simp only [raiseNew];refine wpAny_bind (wpAny_handled ?_)
 first|rw [show A.in1.handled=none from hh]|rw [hh]
 refine wpAny_bind (wpAny_pure (wpAny_throw ?_));exact hE _ _ (((Heap.SameBut.update ..).extBut.push _).push _) ⟨_,Heap.get?_push_size _ rfl,rfl⟩
end
def xQ {prog:Program} {w:World} {A:Around} (hh:A.handled=none) (it l:Addr) (hne:l≠it) (items:Array Value) :
  Draws prog w A it [it,l] items.size (fun i v=>items[i]?=some v) (fun i h=>h.IsTupleIter it l i/\h.IsTuple l items) where
 live:=fun _ _ st=>let ⟨o,ho,_⟩:=st.1;⟨o,ho⟩
 frame:=fun _ _ _ st hk=>⟨(let ⟨o,e,r⟩:=st.1;⟨o,hk it (by simp) o e,r⟩),by
  obtain ⟨o,e,r⟩:=st.2;exact ⟨o,hk l (by simp) o e,r⟩⟩
 item:=fun i s Q E hi st hQ=>by
  refine pT st.1 st.2 (x:=items[i]) (by simp [hi]) fun h' hit' hs'=>?_;refine hQ _ h' s.toks (by simp [hi]) ⟨hit',?_⟩ hs';obtain ⟨o,e,r⟩:=st.2;exact ⟨o,hs'.extBut l o hne e,r⟩
 done:=fun s Q E st hE=>rC hh st.1 st.2 (by simp) hE
def D2 (a:Value) (o:Obj) (h:Heap):Prop:=∀ (prog:Program) (w:World) (A:Around) (s:Shared) (Q:Value->Shared->Prop) (E:Value->Shared->Prop),(∀ b u,h.get? b=some u->s.heap.get? b=some u)->Q (.ref s.heap.objs.size) { s with heap:=s.heap.push o }->wpAny (model prog w) A (pyIter a) Q E s
def xS (a:Value) (o1:Obj) :
  Meets (Builtin.«enumerate.__new__» ⟨[.type "enumerate",a],[]⟩) (fun _ R s=>D2 a o1 s.heap /\
   R (.ok (.ret (.ref (s.heap.push o1).objs.size))) { s with heap:=(s.heap.push o1).push { cls:=.type "enumerate",data:=.fields #[.none,.bool false,.ref s.heap.objs.size,rawInt 0,.none,.none] } }) :=
 .of_wp fun prog w A R s h=>by
  obtain ⟨hp,g,d,tk,os⟩:=s;obtain ⟨hl1,h⟩:=h;have hsub:=sub_enumerate;have p1:∀ {A:Around} {Q:Value->Shared->Prop} {E:Value->Shared->Prop},Q (.ref hp.objs.size) ⟨hp.push o1,g,d,tk,os⟩->wpAny (model prog w) A (pyIter a) Q E ⟨hp,g,d,tk,os⟩:=fun {A Q E} q=>hl1 prog w A ⟨hp,g,d,tk,os⟩ Q E (fun _ _ e=>e) q
  wp_walk
  refine wpAny_stack_any fun st=>wpAny_pure ?_;split
  ·rename_i c _ _ _ _ _;cases (c==Value.type "enumerate")
   ·wp_walk using p1
    exact ⟨_,rfl,h⟩
   ·wp_walk using p1
    exact ⟨_,rfl,h⟩
  ·wp_walk using p1
   exact ⟨_,rfl,h⟩
section
variable {prog:Program} {w:World} {A:Around} {E:Value->Shared->Prop} {s:Shared}
def zN {a:Value} {o1:Obj} {Q:Value->Shared->Prop} (i1:D2 a o1 s.heap) (f1:o1.isFreed=false)
  (h:∀ h',IsEnum h' (s.heap.objs.size+1) s.heap.objs.size 0 .none->h'.get? s.heap.objs.size=some o1->h'.objs.size=s.heap.objs.size+2 ->
   (∀ b o,s.heap.get? b=some o->h'.get? b=some o)->Q (.ref (s.heap.objs.size+1)) { s with heap:=h' }) :
  wpAny (model prog w) A (call (.type "enumerate") [a]) Q E s:=by
 refine callType_new F.called_enumerate (by decide) (F.typeCall_enumerate_1 _) (F.newCall_enumerate_1 _) (fun obj=>F.args_object_init_2 obj _) F.entry_enumerate_new
  (xS a o1) ⟨i1,?_⟩
 have hz:(s.heap.push o1).objs.size=s.heap.objs.size+1:=Heap.size_push ..;show _/\_;rw [hz];have he:IsEnum ((s.heap.push o1).push
   { cls:=.type "enumerate",data:=.fields #[.none,.bool false,.ref s.heap.objs.size,rawInt 0,.none,.none] }) (s.heap.objs.size+1) s.heap.objs.size 0 .none:=by
  have:=Heap.get?_push_size (s.heap.push o1)
   (o:={ cls:=.type "enumerate",data:=.fields #[.none,.bool false,.ref s.heap.objs.size,rawInt 0,.none,.none] }) rfl
  rw [hz] at this;exact this
 refine ⟨⟨_,he,rfl⟩,h _ he (Heap.get?_push_of_some _ (Heap.get?_push_size _ f1)) (by rw [Heap.size_push,hz]) fun b o x=>Heap.get?_push_of_some _ (Heap.get?_push_of_some _ x)⟩
end
end L2
namespace L2
open PySem PySem.Spec PyProof.Rows
def bw {ix:List (Option Nat)} {O:List Nat} (h:(ix.all fun o=>match o with|some k=>decide (k∉O)|none=>true)=true):∀ j∈ix,∀ k,j=some k->k∉O:=fun j hj k e=>by
 have:=List.all_eq_true.mp h j hj
 subst e;exact of_decide_eq_true this
def BM {X:Cx} {ag:List (Addr×Obj)} {σ:St} {H:Hp} {s:Shared} {a:Addr} (I:Inv X ag σ H s) (h:H a≠none\/∃ o,X.K.lookup a=some o):¬ kh X ag H a:=fun f=>by
 rcases h with h|⟨o,h⟩
 ·exact h f.1
 ·have e:=I.ok.mod.kin a o h;rcases f.2.2.2.1 with z|z
  ·exact I.ok.noex a o e z
  ·exact absurd (Nat.lt_of_lt_of_le (Heap.lt_size e) (Nat.le_trans I.ok.bsz z)) (Nat.lt_irrefl _)
def BJ {H:Hp} {a:Addr} {u:HO} (h:Rd H a u):H a≠none:=by
 rcases h with h|⟨o,h⟩ <;> rw [h] <;> simp
def Bj {K:PySem.W.Frag} {H:Hp} {a:Addr} {xs:List V} (h:dZ K H a xs):H a≠none\/∃ o,K.lookup a=some o:=by
 rcases h with h|⟨o,_,_,h,_⟩
 ·exact .inl (BJ h)
 ·exact .inr ⟨o,h⟩
def BO {K:PySem.W.Frag} {H:Hp} {a:Addr} {xs:List V} (h:lG K H a xs):H a≠none\/∃ o,K.lookup a=some o:=by
 rcases h with h|⟨o,_,_,h,_⟩
 ·exact .inl (BJ h)
 ·exact .inr ⟨o,h⟩
structure Src (K:PySem.W.Frag) (B:Hp) (xs:List V) (it:Addr) (S:Nat->Heap->Prop):Prop where
 obj:∀ i h,S i h->∃ o,h.get? it=some o/\∀ v,o.data≠.cell v
 keep:∀ i h h',S i h->(∀ o,h.get? it=some o->h'.get? it=some o)->S i h'
 draw:∀ (X:Cx) (ag:List (Addr×Obj)) (s:Shared) (σ:St) (H:Hp),Inv X ag σ H s->X.K=K->ax B H->kh X ag H it->∀ A:Around,A.handled=none->∀ i,S i s.heap ->
  ∃ fp Pv St,Draws X.prog X.w A it fp xs.length Pv St/\St i s.heap/\it∈fp/\(∀ b∈fp,b=it\/¬ kh X ag H b)/\(∀ j u,Pv j u->∃ x,xs[j]?=some x/\bB x u)/\∀ j h,St j h->S j h
def src_list {K:PySem.W.Frag} {B:Hp} {xs:List V} {a it:Addr} (hq:dZ K B a xs):Src K B xs it (fun i h=>h.IsListIter it a i) where
 obj:=fun i h ⟨o,e,c,d⟩=>⟨o,e,fun v z=>by rw [d] at z;cases z⟩
 keep:=fun i h h' ⟨o,e,r⟩ k=>⟨o,k o e,r⟩
 draw:=fun X ag s σ H I hK sB f A hA i st=>by
  subst hK;obtain ⟨its,rv,pl,hz⟩:=I.list (sB.seq hq);have hne:a≠it:=fun z=>BM I (Bj (sB.seq hq)) (z ▸ f);have el:xs.length=its.toArray.size:=by rw [List.size_toArray];exact rv.length
  refine ⟨_,_,_,el ▸ Draws.list hA it a hne its.toArray,⟨st,pl.isList⟩,by simp,fun b hb=>?_,fun j u hu=>?_,fun j h st=>st.1⟩
  ·rcases List.mem_cons.mp hb with e|hb
   ·exact .inl e
   ·rw [List.mem_singleton.mp hb];exact .inr (BM I (Bj (sB.seq hq)))
  ·have hu':its[j]?=some u:=by simpa using hu
   have hj:j < its.length:=(List.getElem?_eq_some_iff.mp hu').1;have hx:xs[j]?=some (xs[j]'(by rw [rv.length];exact hj)):=by rw [List.getElem?_eq_getElem]
   obtain ⟨u',h1,h2⟩:=rv.get hx;rw [hu'] at h1;cases h1;exact ⟨_,hx,h2⟩
def src_tuple {K:PySem.W.Frag} {B:Hp} {xs:List V} {a it:Addr} (hq:lG K B a xs):Src K B xs it (fun i h=>h.IsTupleIter it a i) where
 obj:=fun i h ⟨o,e,c,d⟩=>⟨o,e,fun v z=>by rw [d] at z;cases z⟩
 keep:=fun i h h' ⟨o,e,r⟩ k=>⟨o,k o e,r⟩
 draw:=fun X ag s σ H I hK sB f A hA i st=>by
  subst hK;obtain ⟨its,rv,pl,hz⟩:=I.tuple (sB.seqT hq);have hne:a≠it:=fun z=>BM I (BO (sB.seqT hq)) (z ▸ f);have el:xs.length=its.toArray.size:=by rw [List.size_toArray];exact rv.length
  refine ⟨_,_,_,el ▸ xQ hA it a hne its.toArray,⟨st,pl⟩,by simp,fun b hb=>?_,fun j u hu=>?_,fun j h st=>st.1⟩
  ·rcases List.mem_cons.mp hb with e|hb
   ·exact .inl e
   ·rw [List.mem_singleton.mp hb];exact .inr (BM I (BO (sB.seqT hq)))
  ·have hu':its[j]?=some u:=by simpa using hu
   have hj:j < its.length:=(List.getElem?_eq_some_iff.mp hu').1;have hx:xs[j]?=some (xs[j]'(by rw [rv.length];exact hj)):=by rw [List.getElem?_eq_getElem]
   obtain ⟨u',h1,h2⟩:=rv.get hx;rw [hu'] at h1;cases h1;exact ⟨_,hx,h2⟩
def signs_get {z:Str} {j:Nat} {u:Value} (h:∃ c t,z.cps[j]?=some c/\u=.str ⟨#[c]⟩ t):∃ x,(pA z)[j]?=some x/\bB x u:=by
 obtain ⟨c,t,h1,rfl⟩:=h;refine ⟨.str ⟨#[c]⟩,?_,⟨t,rfl⟩⟩;rw [List.getElem?_map,Array.getElem?_toList,h1];rfl
def CV {K:PySem.W.Frag} {B:Hp} {z:Str} {t:Tok} {it:Addr}:Src K B (pA z) it (fun i h=>h.IsStrIter it "str_ascii_iterator" z t i) where
 obj:=fun i h ⟨o,e,c,d⟩=>⟨o,e,fun v z=>by rw [d] at z;cases z⟩
 keep:=fun i h h' ⟨o,e,r⟩ k=>⟨o,k o e,r⟩
 draw:=fun X ag s σ H I hK sB f A hA i st=>by
  have el:(pA z).length=z.cps.size:=by simp
  exact ⟨_,_,_,el ▸ Draws.strAscii hA it z t,st,by simp,fun b hb=>.inl (by simpa using hb),fun j u hu=>signs_get hu,fun j h st=>st⟩
def Du {K:PySem.W.Frag} {B:Hp} {z:Str} {t:Tok} {it:Addr}:Src K B (pA z) it (fun i h=>h.IsStrIter it "str_iterator" z t i) where
 obj:=fun i h ⟨o,e,c,d⟩=>⟨o,e,fun v z=>by rw [d] at z;cases z⟩
 keep:=fun i h h' ⟨o,e,r⟩ k=>⟨o,k o e,r⟩
 draw:=fun X ag s σ H I hK sB f A hA i st=>by
  have el:(pA z).length=z.cps.size:=by simp
  exact ⟨_,_,_,el ▸ Draws.strWide hA it z t,st,by simp,fun b hb=>.inl (by simpa using hb),fun j u hu=>signs_get hu,fun j h st=>st⟩
def O9 (K:PySem.W.Frag) (H:Hp) (x:V) (xs:List V):Prop:=(∃ z,x=.str z/\xs=pA z)\/(∃ a,x=.ref a/\dZ K H a xs)\/∃ a,x=.ref a/\lG K H a xs
def Lv {X:Cx} {ag:List (Addr×Obj)} {σ:St} {H B:Hp} {s:Shared} {x:V} {u:Value} {xs:List V} (I:Inv X ag σ H s) (r:bB x u) (sB:ax B H) (h:O9 X.K B x xs) :
  ∃ (o:Obj) (S:Addr->Nat->Heap->Prop),D2 u o s.heap/\o.isFreed=false/\(∀ it h,h.get? it=some o->S it 0 h)/\∀ it,Src X.K B xs it (S it):=by
 rcases h with ⟨z,rfl,rfl⟩|⟨a,rfl,hq⟩|⟨a,rfl,hq⟩
 ·obtain ⟨t,rfl⟩:=r;cases ha:z.cps.all (· < 128)
  ·exact ⟨{ cls:=.type "str_iterator",data:=.fields #[.str z t,.int 0 0] },fun it i h=>h.IsStrIter it "str_iterator" z t i,fun prog w A s Q E _ q=>wpAny_pyIter_wide ha q,rfl,fun it h e=>⟨_,e,rfl,rfl⟩,fun it=>Du⟩
  ·exact ⟨{ cls:=.type "str_ascii_iterator",data:=.fields #[.str z t,.int 0 0] },fun it i h=>h.IsStrIter it "str_ascii_iterator" z t i,fun prog w A s Q E _ q=>wpAny_pyIter_ascii ha q,rfl,fun it h e=>⟨_,e,rfl,rfl⟩,fun it=>CV⟩
 ·cases r;obtain ⟨its,rv,pl,hz⟩:=I.list (sB.seq hq);exact ⟨{ cls:=.type "list_iterator",data:=.fields #[.ref a,.int 0 0] },fun it i h=>h.IsListIter it a i,fun prog w A s Q E k q=>wpAny_pyIter_list (pl.keeps k).isList q,rfl,fun it h e=>⟨_,e,rfl,rfl⟩,fun it=>src_list hq⟩
 ·cases r;obtain ⟨its,rv,pl,hz⟩:=I.tuple (sB.seqT hq);refine ⟨{ cls:=.type "tuple_iterator",data:=.fields #[.ref a,.int 0 0] },fun it i h=>h.IsTupleIter it a i,fun prog w A s Q E k q=>?_,rfl,fun it h e=>⟨_,e,rfl,rfl⟩,fun it=>src_tuple hq⟩;obtain ⟨o,e,r⟩:=pl;exact wpAny_pyIter_tuple (items:=its.toArray) ⟨o,k _ _ e,r⟩ q
def Inv.turnedT {X:Cx} {ag:List (Addr×Obj)} {σ:St} {H:Hp} {s:Shared} {h':Heap} {t':Nat} {ch:List Addr} {T:Addr} {ys:List V} {us:List Value} (I:Inv X ag σ H s) (hf:∀ b∈ch,kh X ag H b) (k:∀ b o,b∉ch->s.heap.get? b=some o->h'.get? b=some o) (hT:s.heap.objs.size<=T)
  (hl:ys.length<=sizeLine) (rv:bK ys us) (isT:IsTup h' T us.toArray) (ht:X.tn<=t':=by walk_at "tok"):Inv X ag σ (cQ H T (.tup ys)) { s with heap:=h',toks:=t' }:=by
 have hn:H T=none:=I.hok.fresh hT;have nch:∀ b u,H b=some u->b∉ch:=fun b u e z=>by rw [(hf b z).1] at e;cases e
 refine I.step (g':=s.gens) (d':=s.drawn) (ch:=ch) (fun b hb=>⟨(hf b hb).2.2.2.1,(hf b hb).2.1,(hf b hb).2.2.2.2.1,(hf b hb).2.2.2.2.2⟩) (fun b o _ _ hc e _=>k b o hc e) (fun b o _ _ hc e _=>⟨o.slots,k b o hc e⟩) (fun b o _ e n=>?_)
  (fun b o hc e=>⟨o,k b o hc e⟩) (fun b xs e=>?_) (fun b o u e=>?_) (fun b ps e=>⟨#[],?_⟩) (fun m hm=>?_) (fun b u e=>?_) I.bare
 ·rw [bf (Nat.ne_of_lt (Nat.lt_of_lt_of_le (Heap.lt_size e) hT))];exact n
 ·rw [bf (bP e hn)];exact e
 ·rw [bf (bP e hn)];exact e
 ·rw [bf (bP e hn),e];simp
 ·obtain ⟨o,es,ep,ho,r⟩:=hm;exact ⟨o,es,ep,k _ o (fun z=>(hf _ z).2.1 rfl) ho,r⟩
 ·by_cases hb:b=T
  ·subst hb;rw [aZ] at e;cases e;exact ⟨hl,us,rv,isT⟩
  ·rw [bf hb] at e;refine (I.hok b u e).stay (fun c v hc q=>k c v ?_ q) (fun c q=>by rw [bf (bP q hn)];exact q) fun c xs q=>by rw [bf (bP q hn)];exact q
   rcases hc with z|z
   ·rw [z];exact nch b u e
   ·exact nch c _ z
def Jg (B:Hp) (n:Nat) (Pv:Nat->V->V->Prop):It :=
 ⟨fun i H=>ax B H/\i < n,fun i H v H'=>∃ p x y,H p=none/\H'=cQ H p (.tup [x,y])/\v=.ref p/\Pv i x y,fun i H=>ax B H/\i=n⟩
def CP {P:Program} {w:World} {K:PySem.W.Frag} {B:Hp} {xs:List V} {e it:Addr} {S:Nat->Heap->Prop} {elts:List Expr} {k:Nat} {pos:Pos} (s1:Src K B xs it S) (ne:e≠it) :
  Turn P w K (.Tuple elts k pos) (Jg B xs.length fun i x y=>x=.int (i:Int)/\xs[i]?=some y) [e,it] e (fun i h=>(∃ old,IsEnum h e it (i:Int) old)/\S i h):=by
 have nof:∀ {X:Cx} {ag:List (Addr×Obj)} {H:Hp} {fp:List Addr},(∀ b∈[e,it],kh X ag H b)->(∀ b∈fp,b=it\/¬ kh X ag H b)->e∉fp:=fun hf h1 m=>(h1 e m).elim ne fun q=>q (hf e (by simp));refine ⟨by simp,fun i h st b hb=>?_,fun i h h' st kk=>?_,?_,?_,fun A i s Q E st q=>let ⟨⟨old,he⟩,_⟩:=st;wpAny_pyIter_enum he q⟩
 ·obtain ⟨⟨old,he⟩,h1⟩:=st;simp only [List.mem_cons,List.not_mem_nil,or_false] at hb;rcases hb with rfl|rfl
  ·exact ⟨_,he,fun v q=>by cases q⟩
  ·exact s1.obj i h h1
 ·obtain ⟨⟨old,he⟩,h1⟩:=st;exact ⟨⟨old,kk e (by simp) _ he⟩,s1.keep i h h' h1 fun o q=>kk it (by simp) o q⟩
 ·intro X hP hw hK hc i ag s σ H E I hf st hg;subst hP hw;obtain ⟨he,h1⟩:=st;obtain ⟨sB,hi⟩:=hg;have hh:X.A.in1.handled=none:=I.ok.hd hc;obtain ⟨fp1,P1,St1,D1,st1,m1,n1,p1,b1⟩:=s1.draw X ag s σ H I hK sB (hf it (by simp)) X.A.in1 hh i h1;have W:=WalksT.enumerateD D1 e ne (nof hf n1) m1;refine bh I.tk (W.item i s _ _ hi ⟨he,st1⟩ fun T vals h' tk pt hT isT mid k1 htk=>⟨.ref T,rfl,W.go elts k pos i T { s with heap:=h',toks:=tk } _ _ mid fun h'' st'' k2=>?_⟩);obtain ⟨t,u2,q2,rfl⟩:=pt;obtain ⟨y,hy,ry⟩:=p1 i u2 q2;obtain ⟨he',st1'⟩:=st'';have kk:∀ b o,b∉[e,it]->s.heap.get? b=some o->h''.get? b=some o:=fun b o hb q=>k2 b o hb (k1 b o hb q);have hTn:H T=none:=I.hok.fresh hT;have lt:∀ {b o},s.heap.get? b=some o->b≠T:=fun q=>Nat.ne_of_lt (Nat.lt_of_lt_of_le (Heap.lt_size q) hT);have isT':IsTup h'' T [.int i t,u2].toArray:=by
   obtain ⟨o,q,r⟩:=isT;exact ⟨o,k2 T o (W.apart i T _ mid) q,r⟩
  refine ⟨.ref T,cQ H T (.tup [.int (i:Int),y]),I.turnedT (t':=tk) (ch:=[e,it]) hf kk hT (by show 2<=sizeLine;decide) (.cons ⟨t,rfl⟩ (.cons ry .nil)) isT',rfl,⟨T,_,y,hTn,rfl,rfl,rfl,hy⟩,⟨he',b1 _ _ st1'⟩,fun b hb=>?_⟩;have hbT:b≠T:=by
   simp only [List.mem_cons,List.not_mem_nil,or_false] at hb;rcases hb with rfl|rfl
   ·obtain ⟨_,q⟩:=he;exact lt q
   ·obtain ⟨_,q,_⟩:=s1.obj _ _ h1;exact lt q
  rw [bf hbT];exact (hf b hb).1
 ·intro X hP hw hK hc i ag s σ H E I hf st hg;subst hP hw;obtain ⟨he,h1⟩:=st;obtain ⟨sB,hi⟩:=hg;have hh:X.A.in1.handled=none:=I.ok.hd hc;obtain ⟨fp1,P1,St1,D1,st1,m1,n1,p1,b1⟩:=s1.draw X ag s σ H I hK sB (hf it (by simp)) X.A.in1 hh i h1;have W:=WalksT.enumerateD D1 e ne (nof hf n1) m1;subst hi;refine bh I.tk (W.done s _ _ ⟨he,st1⟩ fun h' tk kk htk=>⟨rfl,?_⟩);have nch:∀ b u,H b=some u->b∉[e,it]:=fun b u q m=>by
   have:=(hf b m).1
   rw [this] at q;cases q
  refine I.step (g':=s.gens) (d':=s.drawn) (ch:=[e,it]) (fun b hb=>?_) (fun b o _ _ hc q _=>kk b o hc q) (fun b o _ _ hc q _=>⟨o.slots,kk b o hc q⟩) (fun _ _ _ _ n=>n)
   (fun b o hc q=>⟨o,kk b o hc q⟩) (fun _ _ q=>q) (fun _ _ _ q=>q) (fun b ps q=>⟨#[],by rw [q];simp⟩) (fun m hm=>?_) (fun b u q=>?_) I.bare
  ·have f:=hf b hb;exact ⟨f.2.2.2.1,f.2.1,f.2.2.2.2.1,f.2.2.2.2.2⟩
  ·obtain ⟨o,es,ep,ho,r⟩:=hm;exact ⟨o,es,ep,kk _ o (fun q=>(hf _ q).2.1 rfl) ho,r⟩
  ·refine (I.hok b u q).stay (fun c v hc z=>kk c v ?_ z) (fun _ z=>z) fun _ _ z=>z;rcases hc with z|z
   ·rw [z];exact nch b u q
   ·exact nch c _ z
def zZ {K:PySem.W.Frag} {as0:List Addr} {B:Hp} {n:Nat} {Pv:Nat->V->V->Prop} {zs:List D} (hn:n=zs.length) (h:∀ i x y,i < n->Pv i x y->∃ dx dy,zs[i]?=some (.tup [dx,dy])/\dR K (aG as0 B) dx x/\dR K (aG as0 B) dy y):GivesD K as0 B (Jg (aG as0 B) n Pv) zs where
 go:=fun i H s hi=>⟨s,by rw [hn];exact hi⟩
 yl:=fun i H v H2 M s hM hM2 hi ⟨p,x,y,hp,e,ev,hv⟩=>by
  subst e ev;obtain ⟨dx,dy,e1,d1,d2⟩:=h i x y (by rw [hn];exact hi) hv;have hpM:p∉M:=fun z=>hM p z hp;have s2:ax (aG as0 B) (aG M (cQ H p (.tup [x,y]))):=(mZ s hM2).trans (aP (aU hp _));exact ⟨aU hp _,_,e1,p,[x,y],rfl,.inl (.inl (by rw [aV hpM];exact aZ)),aJ.cons (d1.mono s2) (aJ.cons (d2.mono s2) aJ.nil)⟩
 stop:=fun H s=>⟨s,hn.symm⟩
def GQ {K:PySem.W.Frag} {H:Hp} {d:D} {v:V} {xs:List D} (h:dR K H d v) (e:jQ d=.ok xs):∃ vs,O9 K H v vs/\aJ K H xs vs:=by
 cases d with
 | lst ds=>cases e;obtain ⟨a,vs,rfl,q1,q2⟩:=h;exact ⟨vs,.inr (.inl ⟨a,rfl,q1⟩),q2⟩
 | tup ds=>cases e;obtain ⟨a,vs,rfl,q1,q2⟩:=h;exact ⟨vs,.inr (.inr ⟨a,rfl,q1⟩),q2⟩
 | str z =>
  cases e;cases h;refine ⟨pA z,.inl ⟨z,rfl,rfl⟩,?_⟩;show aJ K H (z.cps.toList.map fun c=>D.str ⟨#[c]⟩) (z.cps.toList.map fun c=>V.str ⟨#[c]⟩);generalize z.cps.toList=cs;induction cs with
  | nil=>exact rfl
  | cons c r ih=>exact ⟨_,_,rfl,rfl,ih⟩
 | _=>cases e
def bS:Nat->List D->List D
 | _,[]=>[]
 | n,x::r=>.tup [.int (n:Int),x]::bS (n+1) r
theorem qr:∀ (n:Nat) (xs:List D),(bS n xs).length=xs.length
 | _,[]=>rfl
 | n,x::r=>by unfold bS;simp [qr (n+1) r]
def pO:∀ (n:Nat) (xs:List D) (i:Nat),(bS n xs)[i]?=xs[i]?.map fun x=>.tup [.int ((n+i:Nat):Int),x]
 | _,[],i=>by simp [bS]
 | n,x::r,0=>by simp [bS]
 | n,x::r,i+1=>by
  unfold bS;rw [List.getElem?_cons_succ,pO (n+1) r i,List.getElem?_cons_succ];have e:n+1+i=n+(i+1):=by omega
  rw [e]
def vG (ds:List D):R (List D):=match ds with
 | [a]=>(jQ a).bind fun xs=>.ok (bS 0 xs)
 | _=>.no
def jL (α:FA):FA:=fun δ=>(α δ).bind vG
section
variable {X:Cx} {W:Wd} {O:List Nat} {α:FA} {elts:List Expr} {k:Nat} {p pos tpos:Pos}
def qj {a:Expr} (hm:X.mg "enumerate"=none) (ha:JA X [a] (AB W O α)) (hg:Gl X "enumerate":=by rfl) (h1:a8 a=true:=by rfl) (hW:W.K=X.K:=by rfl) :
  JI X (.Tuple elts k tpos) (.Call (.Name "enumerate" p) [a] [] pos) (iD W O (jL α)):=⟨fun ag s σ H R I ⟨as0,B,own,δ,DIh,h⟩=>by
 refine wpAny_Call_Name_kw (nv I hg hm xx ?_ (by decide) (by decide));refine PyProof.Rows.callWith_type1 (gH (ha.out pos ag s σ H (fun vs H1=>ax H H1/\∃ ds,aJ W.K (aG (own++as0) H1) ds vs/\mC W as0 own H1 (vG ds) R) I ⟨as0,B,own,δ,DIh,nk h fun ds vs H1 s1 d1 hq=>⟨s1,ds,d1,hq⟩⟩) fun us s1 hh=>qK hh fun vs H1 I1 r1 q1=>?_) (eh h1) rfl;obtain ⟨sH,ds,dv,hq⟩:=q1;unfold vG at hq;split at hq
 ·rename_i da;obtain ⟨va,rfl,den1⟩:=dM dv;cases e1:jQ da with
  | no=>rw [e1] at hq;exact hq.elim
  | er x=>cases da <;> cases e1
  | ok xs =>
   rw [e1] at hq;have hq:∀ J H',ax H1 H'->GivesD W.K as0 (aG own H') J (bS 0 xs)->R J H':=hq;obtain ⟨u1,rfl,ru1⟩:=fY r1;rw [tH] at den1;obtain ⟨xv,sv1,dn1⟩:=GQ den1 e1;rw [hW] at sv1 dn1;have sB:ax (aG as0 (aG own H1)) H1:=(aD _ _).trans (aD _ _);obtain ⟨o1,S1,it1,fr1,st1,src1⟩:=Lv I1 ru1 sB sv1;refine zN it1 fr1 fun h' he g1 hsz kp=>?_;refine wpAny_pyIter_enum he ?_;refine ⟨s1.heap.objs.size+1,_,_,_,H1,rfl,I1.kept (t':=s1.toks) kp,CP (P:=X.prog) (w:=X.w) (src1 s1.heap.objs.size) (e:=s1.heap.objs.size+1) (Nat.succ_ne_self _),⟨⟨_,he⟩,st1 _ _ g1⟩,fun b hb=>?_,hq _ H1 (ax.refl _) ?_⟩
   ·have hb':s1.heap.objs.size<=b:=by
     simp only [List.mem_cons,List.not_mem_nil,or_false] at hb;rcases hb with rfl|rfl <;> first|exact Nat.le_add_right _ _|exact Nat.le_refl _
    exact I1.fpOk hb' (I1.hok.fresh hb')
   ·rw [hW];refine zZ ?_ fun i x y hi hv=>?_
    ·rw [qr,dn1.len]
    ·obtain ⟨rfl,hv⟩:=hv;obtain ⟨dy,q3,q4⟩:=dn1.got hv;refine ⟨.int (i:Int),dy,?_,rfl,q4⟩;rw [pO,q3,Nat.zero_add];rfl
 ·exact hq.elim⟩
end
def Fa (K:PySem.W.Frag) (F:List D->R D):Sp:=fun vs H Q E=>∀ mg,iP K mg F vs H Q E
def Hl {P:Program} {w:World} {K:PySem.W.Frag} {mg:Str->Option Value} {k:Nat} {fa:Addr} {ps:List Str} {F:List D->R D} {C:FuncData->Prop}
  (h:∃ fd:FuncData,C fd/\∀ base:Heap,K.In base->base.Ns mainGlobals mg->FnOk P w K mg base eX k fa fd ps (iP K mg F)) :
  ∃ fd:FuncData,C fd/\∀ base:Heap,K.In base->base.Ns mainGlobals mg->FnOk P w K mg base eX k fa fd ps (Fa K F):=by
 obtain ⟨fd,h1,h2⟩:=h;exact ⟨fd,h1,fun base h3 h4=>(h2 base h3 h4).imp fun vs H Q E q=>q mg⟩
def HV {K:PySem.W.Frag} {a:Addr} {ns:List Int} {H:Hp} {F:List D->R D} {Q:VK} {E:XK} (hS:dZ K H a (ns.map V.int)) (h:F [.lst (ns.map D.int)]=.ok (.bl true)) (q:∀ H',Q (.bl true) H'):Fa K F [.ref a] H Q E :=
 fun mg=>Ks hS h q
def fin (r:R Fl):R D:=r.bind fun f=>match f with
 | .rt d=>.ok d
 | .rn d=>.ok d
 | .nx _=>.ok .non
 | _=>.no
section
variable {δ:Sd} {d e:D} {x y:Str} {i j:Int} {b c:Bool} {φ ψ:FE} {τ υ:FT} {α:FA} {S T:FS}
theorem kS:fin (.ok (.rt d))=.ok d:=rfl
def Gb (T:FS) (f:Fl):R Fl:=match f with
 | .nx δ'=>T δ'
 | f=>.ok f
theorem bi:aw S T δ=(S δ).bind (Gb T):=by
 unfold aw Gb;cases S δ with
 | ok f=>cases f <;> rfl
 | er x=>rfl
 | no=>rfl
theorem aS:Gb T (.nx δ)=T δ:=rfl
theorem Ar:Gb T (.rt d)=.ok (.rt d):=rfl
theorem qN:aF δ=.ok (.nx δ):=rfl
def Ki (d:D):R Fl:=.ok (.rt d)
theorem r6:a7 φ δ=(φ δ).bind Ki:=rfl
theorem pN:Ki d=.ok (.rt d):=rfl
def S3 (S T:FS) (δ:Sd) (b:Bool):R Fl:=if b=true then S δ else T δ
theorem sF:cN τ S T δ=(τ δ).bind (S3 S T δ):=rfl
theorem um:S3 S T δ b=if b=true then S δ else T δ:=rfl
def MU (k:Nat) (δ:Sd) (d:D):R Fl:=.ok (.nx (δ.set k (some d)))
theorem BV {k:Nat}:aI k φ δ=(φ δ).bind (MU k δ):=rfl
theorem Ds {k:Nat}:MU k δ d=.ok (.nx (δ.set k (some d))):=rfl
def Mu (k:Nat) (δ:Sd) (d:D):R Fl:=if k < δ.length then .ok (.nx (δ.set k (some d))) else .no
theorem IM {k:Nat}:m3 k φ δ=(φ δ).bind (Mu k δ):=rfl
theorem Jj {k:Nat}:Mu k δ d=if k < δ.length then .ok (.nx (δ.set k (some d))) else .no:=rfl
def Pi (t:TgD) (S:FS) (δ:Sd) (xs:List D):R Fl:=gJ t S xs δ
def ui {t:TgD}:uq α t S δ=(α δ).bind (Pi t S δ):=rfl
def uB {t:TgD} {xs:List D}:Pi t S δ xs=gJ t S xs δ:=rfl
def Fd (t:TgD) (S:FS) (r:List D) (f:Fl):R Fl:=match f with
 | .nx δ2=>gJ t S r δ2
 | .ct δ2=>gJ t S r δ2
 | .bk δ2=>.ok (.nx δ2)
 | .rt d=>.ok (.rt d)
 | .rn d=>.ok (.rn d)
def IG (t:TgD) (S:FS) (r:List D) (δ1:Sd):R Fl:=(S δ1).bind (Fd t S r)
def jG {t:TgD} {r:List D}:gJ t S (d::r) δ=(gK t d δ).bind (IG t S r):=by
 show (gK t d δ).bind _=_;congr 1
def Eb {t:TgD} {r:List D}:IG t S r δ=(S δ).bind (Fd t S r):=rfl
def kw {t:TgD} {r:List D}:Fd t S r (.nx δ)=gJ t S r δ:=rfl
def Ph (r:R Fl):R D:=r.bind fun f=>match f with
 | .rn d=>.ok d
 | _=>.no
def Qx (d:D):R Fl:=.ok (.rn d)
def Ku:Bv φ δ=(φ δ).bind Qx:=rfl
def Ch {k l:Nat}:gK (.tup [k,l]) (.tup [d,e]) δ=.ok ((δ.set k (some d)).set l (some e)):=rfl
def JC (φ:FE) (k:Nat) (δ:Sd) (o:Option (Option D)):R Fl:=match o with
 | some (some (.lst xs))=>(φ δ).bind fun d=>if xs.length < 1000000 then .ok (.nx (δ.set k (some (.lst (xs++[d]))))) else .no
 | _=>.no
def Ji (xs:List D) (k:Nat) (δ:Sd) (d:D):R Fl:=if xs.length < 1000000 then .ok (.nx (δ.set k (some (.lst (xs++[d]))))) else .no
theorem Pd {k:Nat}:bG k φ δ=JC φ k δ δ[k]?:=by
 unfold bG JC;rfl
theorem Qg {k:Nat} {xs:List D}:JC φ k δ (some (some (.lst xs)))=(φ δ).bind (Ji xs k δ):=rfl
theorem KB {k:Nat} {xs:List D}:Ji xs k δ d=if xs.length < 1000000 then .ok (.nx (δ.set k (some (.lst (xs++[d]))))) else .no:=rfl
def Pq (o:Option (Option D)):R D:=match o with
 | some (some d)=>.ok d
 | _=>.no
theorem v_var {k:Nat}:ae k δ=Pq δ[k]?:=rfl
theorem pP:Pq (some (some d))=.ok d:=rfl
theorem v_c:vC d δ=.ok d:=rfl
def Ta (op:D->D->R D) (ψ:FE) (δ:Sd) (x:D):R D:=(ψ δ).bind (op x)
theorem l6 {op:D->D->R D}:ap op φ ψ δ=(φ δ).bind (Ta op ψ δ):=rfl
theorem kM {op:D->D->R D}:Ta op ψ δ d=(ψ δ).bind (op d):=rfl
theorem RC {op:D->R D}:Hv op φ δ=(φ δ).bind op:=rfl
def QA (d:D):R D:=G3 d fun b=>.ok (.bl (!b))
theorem v_not:zm φ δ=(φ δ).bind QA:=rfl
theorem Nr:QA (.bl b)=.ok (.bl (!b)):=rfl
def Kn (ψ:FE) (δ:Sd) (d:D):R D:=G3 d fun b=>if b=true then ψ δ else .ok (.bl false)
theorem v_and:mI φ ψ δ=(φ δ).bind (Kn ψ δ):=rfl
theorem Jq:Kn ψ δ (.bl b)=if b=true then ψ δ else .ok (.bl false):=rfl
def SI (d:D):R Bool:=G3 d .ok
theorem zS:b5 φ δ=(φ δ).bind SI:=rfl
theorem GE:SI (.bl b)=.ok b:=rfl
theorem Bi:cq φ δ=(φ δ).bind G1:=rfl
theorem Ni:G1 (.bl b)=.ok b:=rfl
def IB (υ:FT) (δ:Sd) (b:Bool):R Bool:=if b=true then υ δ else .ok false
theorem EO:qu τ υ δ=(τ δ).bind (IB υ δ):=rfl
theorem FB:IB υ δ b=if b=true then υ δ else .ok false:=rfl
def Oz (υ:FT) (δ:Sd) (b:Bool):R Bool:=if b=true then .ok true else υ δ
theorem EU:rP τ υ δ=(τ δ).bind (Oz υ δ):=rfl
theorem yP:Oz υ δ b=if b=true then .ok true else υ δ:=rfl
def Ii (b:Bool):R Bool:=.ok (!b)
theorem BF:dh τ δ=(τ δ).bind Ii:=rfl
theorem KM:Ii b=.ok (!b):=rfl
def OD (φ ψ:FE) (δ:Sd) (b:Bool):R D:=if b=true then φ δ else ψ δ
theorem Fe:Jr τ φ ψ δ=(τ δ).bind (OD φ ψ δ):=rfl
theorem EF:OD φ ψ δ b=if b=true then φ δ else ψ δ:=rfl
theorem sZ:ak δ=.ok []:=rfl
def AD (d:D) (ds:List D):R (List D):=.ok (d::ds)
def IJ (α:FA) (δ:Sd) (d:D):R (List D):=(α δ).bind (AD d)
theorem oU:aa φ α δ=(φ δ).bind (IJ α δ):=rfl
theorem o9:IJ α δ d=(α δ).bind (AD d):=rfl
theorem lH {ds:List D}:AD d ds=.ok (d::ds):=rfl
theorem IK:ee α δ=(α δ).bind yE:=rfl
theorem Ih:gI α δ=(α δ).bind Be:=rfl
theorem Et {ds:List D}:yE ds=if ds.length<=1000000 then .ok (.lst ds) else .no:=rfl
theorem Dz {ds:List D}:Be ds=if ds.length<=1000000 then .ok (.tup ds) else .no:=rfl
theorem rl {g:List D->R D}:aj g α δ=(α δ).bind g:=rfl
theorem J1:c6 δ=.ok none:=rfl
def oK (d:D):R (Option Int):=match d with
 | .int i=>.ok (some i)
 | _=>.no
theorem DQ:bx φ δ=(φ δ).bind oK:=rfl
theorem o_k:oK (.int i)=.ok (some i):=rfl
def K3 (g:D->Option Int->Option Int->R D) (d:D) (lo hi:Option Int):R D:=g d lo hi
def LI (g:D->Option Int->Option Int->R D) (u:Sd->R (Option Int)) (δ:Sd) (d:D) (lo:Option Int):R D:=(u δ).bind (K3 g d lo)
def Mf (g:D->Option Int->Option Int->R D) (l u:Sd->R (Option Int)) (δ:Sd) (d:D):R D:=(l δ).bind (LI g u δ d)
theorem Pw {g:D->Option Int->Option Int->R D} {l u:Sd->R (Option Int)}:mN g φ l u δ=(φ δ).bind (Mf g l u δ):=rfl
theorem Je {g:D->Option Int->Option Int->R D} {l u:Sd->R (Option Int)}:Mf g l u δ d=(l δ).bind (LI g u δ d):=rfl
theorem IW {g:D->Option Int->Option Int->R D} {u:Sd->R (Option Int)} {lo:Option Int}:LI g u δ d lo=(u δ).bind (K3 g d lo):=rfl
theorem Iw {g:D->Option Int->Option Int->R D} {lo hi:Option Int}:K3 g d lo hi=g d lo hi:=rfl
def R8 (g:Str->List D->R D) (α:FA) (δ:Sd) (d:D):R D:=match d with
 | .str z=>(α δ).bind fun ds=>g z ds
 | _=>.no
theorem Ju {g:Str->List D->R D}:oH g φ α δ=(φ δ).bind (R8 g α δ):=rfl
theorem LM {g:Str->List D->R D}:R8 g α δ (.str x)=(α δ).bind (g x):=rfl
theorem wj {ix:List (Option Nat)} {t:TgD}:bn ix α t τ φ δ=(α δ).bind (bz t τ φ (bL ix δ)):=rfl
theorem FM:b8 φ δ=(φ δ).bind jQ:=rfl
def GJ {xs:List D}:jQ (.lst xs)=.ok xs:=rfl
theorem Hj {xs:List D}:jQ (.tup xs)=.ok xs:=rfl
theorem A4:jQ (.str x)=.ok (lU x):=rfl
theorem Dg:iT α δ=(α δ).bind Gc:=rfl
def Bl (h:-(2 ^ 62)<=i/\i < 2 ^ 62):Gc [.int i]=.ok (fL 0 i.toNat):=if_pos h
theorem Ko:jL α δ=(α δ).bind vG:=rfl
def JF {xs:List D} (h1:jQ d=.ok xs):vG [d]=.ok (bS 0 xs):=by
 unfold vG;simp only [h1,ah]
theorem IE:aR (.int i) (.int j)=.ok (.int (i+j)):=rfl
def IU:aR (.str x) (.str y)=if x.length+y.length<=1000000 then .ok (.str (x++y)) else .no:=rfl
theorem add_l {xs ys:List D}:aR (.lst xs) (.lst ys)=if xs.length+ys.length<=1000000 then .ok (.lst (xs++ys)) else .no:=rfl
theorem xX:jN (.int i) (.int j)=.ok (.int (i - j)):=rfl
def Jk:fH (.str x) (.int j)=if x.length<=1000/\-1000<=j/\j<=1000 then .ok (.str (Txt.mul x j)) else .no:=rfl
def Jh:bv (.int i) (.int j)=if 0 < j then .ok (.int (i % j)) else .no:=rfl
theorem mul_r (h:-(2 ^ 64) < j/\j < 2 ^ 64):fH (.int i) (.int j)=.ok (.int (i*j)):=if_pos (.inr h)
def Ej (h:-(2 ^ 64) < i/\i < 2 ^ 64):fH (.int i) (.int j)=.ok (.int (i*j)):=if_pos (.inl h)
theorem Jf (h:0 < j/\j < 1073741824):cA (.int i) (.int j)=.ok (.int (i/j)):=if_pos h
theorem Ea (h:0 < j):bv (.int i) (.int j)=.ok (.int (i % j)):=if_pos h
theorem Fu (h:0<=j/\j<=1000000/\-(2 ^ 64) < i/\i < 2 ^ 64):oF (.int i) (.int j)=.ok (.int (i ^ j.toNat)):=if_pos ⟨h.1,h.2.1,by omega⟩
theorem M3:Dv (.int i)=.ok (.int (-i)):=rfl
theorem FF:CU (.int i) (.int j)=.ok (.bl (decide (i < j))):=rfl
theorem KN:Cz (.int i) (.int j)=.ok (.bl (decide (i<=j))):=rfl
theorem RB:C8 (.int i) (.int j)=.ok (.bl (decide (j < i))):=rfl
theorem RH:Jz (.int i) (.int j)=.ok (.bl (decide (j<=i))):=rfl
theorem R5:Cz (.str x) (.str y)=.ok (.bl (!decide (y.cps.toList < x.cps.toList))):=rfl
theorem Ru:Jz (.str x) (.str y)=.ok (.bl (!decide (x.cps.toList < y.cps.toList))):=rfl
theorem Ry:L5 d .non=.ok (.bl (Dc d)):=rfl
def Bb:uz d .non=.ok (.bl (!Dc d)):=rfl
theorem MY:Dc .non=true:=rfl
theorem M4:Dc (.bl b)=false:=rfl
theorem Qk:Dc (.int i)=false:=rfl
theorem Nt:Dc (.str x)=false:=rfl
theorem N2 {xs:List D}:Dc (.lst xs)=false:=rfl
theorem Nu {xs:List D}:Dc (.tup xs)=false:=rfl
theorem N7 {xs:List (pF×D)}:Dc (.dct xs)=false:=rfl
theorem Ir:eU (.int i) (.int j)=.ok (.bl (decide (i=j))):=by simp [eU,sU,i5,tz,j6]
theorem Er:eU (.str x) (.str y)=.ok (.bl (decide (x=y))):=by simp [eU,sU,i5,tz,j6]
theorem Mi:eU (.bl b) (.bl c)=.ok (.bl (decide (b=c))):=by simp [eU,sU,i5,tz,j6]
theorem NI:eU .non (.str x)=.ok (.bl false):=by simp [eU,sU,i5,tz,j6]
theorem NU:eU (.int i) (.str x)=.ok (.bl false):=by simp [eU,sU,i5,tz,j6]
theorem IR:pY (.int i) (.int j)=.ok (.bl (!decide (i=j))):=by simp [pY,sU,i5,tz,j6]
theorem Dk:pY (.str x) (.str y)=.ok (.bl (!decide (x=y))):=by simp [pY,sU,i5,tz,j6]
theorem QE:pY (.bl b) (.bl c)=.ok (.bl (!decide (b=c))):=by simp [pY,sU,i5,tz,j6]
def KS (h:x.length<=1000000) {k:Nat} (hk:atI x.cps.toList i=some k):bj (.str x) (.int i)=.ok (.str ⟨#[k]⟩):=by simp only [bj,if_pos h,hk]
def sC {xs:List D} (hk:atI xs i=some d):bj (.lst xs) (.int i)=.ok d:=by simp only [bj,hk]
def FI {xs:List D} (hk:atI xs i=some d):bj (.tup xs) (.int i)=.ok d:=by simp only [bj,hk]
theorem Jm {r:List D}:bj (.tup (d::r)) (.int 0)=.ok d:=FI (bX (j:=0) rfl)
theorem IC {a:D} {r:List D}:bj (.tup (a::d::r)) (.int 1)=.ok d:=FI (bX (j:=1) rfl)
theorem N3 {a b:D} {r:List D}:bj (.tup (a::b::d::r)) (.int 2)=.ok d:=FI (bX (j:=2) rfl)
theorem NN {a b c:D} {r:List D}:bj (.tup (a::b::c::d::r)) (.int 3)=.ok d:=FI (bX (j:=3) rfl)
theorem su {r:List D}:bj (.lst (d::r)) (.int 0)=.ok d:=sC (bX (j:=0) rfl)
theorem vE {a:D} {r:List D}:bj (.lst (a::d::r)) (.int 1)=.ok d:=sC (bX (j:=1) rfl)
theorem IA {a b:D} {r:List D}:bj (.lst (a::b::d::r)) (.int 2)=.ok d:=sC (bX (j:=2) rfl)
theorem Ix {a b c:D} {r:List D}:bj (.lst (a::b::c::d::r)) (.int 3)=.ok d:=sC (bX (j:=3) rfl)
def Od {a0 a1 a2 a3:D} {r:List D}:bj (.lst (a0::a1::a2::a3::d::r)) (.int 4)=.ok d:=sC (bX (j:=4) rfl)
def Na {a0 a1 a2 a3 a4:D} {r:List D}:bj (.lst (a0::a1::a2::a3::a4::d::r)) (.int 5)=.ok d:=sC (bX (j:=5) rfl)
def Qo {a0 a1 a2 a3 a4 a5:D} {r:List D}:bj (.lst (a0::a1::a2::a3::a4::a5::d::r)) (.int 6)=.ok d:=sC (bX (j:=6) rfl)
def Oq {a0 a1 a2 a3 a4 a5 a6:D} {r:List D}:bj (.lst (a0::a1::a2::a3::a4::a5::a6::d::r)) (.int 7)=.ok d:=sC (bX (j:=7) rfl)
theorem Fq {lo hi:Option Int}:fJ (.str x) lo hi=if x.length<=1000000 then .ok (.str (du x lo hi)) else .no:=rfl
def Kw {xs:List D} {lo hi:Option Int}:fJ (.lst xs) lo hi=.ok (.lst (yY xs lo hi)):=rfl
theorem sk:bt [.str x]=if x.length<=1000000 then .ok (.int x.length) else .no:=rfl
theorem BX {xs:List D}:bt [.lst xs]=.ok (.int xs.length):=rfl
theorem Ou {xs:List D}:bt [.tup xs]=.ok (.int xs.length):=rfl
theorem NO:F6 [.int i]=.ok (.int (if i < 0 then -i else i)):=rfl
theorem MS {xs:List D}:sA [.lst xs]=.ok (.tup xs):=rfl
def MG {xs:List D}:DK [.lst xs]=.ok (.lst xs):=rfl
theorem On {C:String}:fG [.non,.ty C]=if eY C=true then .ok (.bl (bV "NoneType" C)) else .no:=rfl
theorem Qm {C:String}:fG [.bl b,.ty C]=if eY C=true then .ok (.bl (bV "bool" C)) else .no:=rfl
theorem Dq {C:String}:fG [.int i,.ty C]=if eY C=true then .ok (.bl (bV "int" C)) else .no:=rfl
theorem IT {C:String}:fG [.str x,.ty C]=if eY C=true then .ok (.bl (bV "str" C)) else .no:=rfl
theorem Im {C:String} {xs:List D}:fG [.lst xs,.ty C]=if eY C=true then .ok (.bl (bV "list" C)) else .no:=rfl
theorem Pt {C:String} {xs:List D}:fG [.tup xs,.ty C]=if eY C=true then .ok (.bl (bV "tuple" C)) else .no:=rfl
theorem NH {C:String} {xs:List (pF×D)}:fG [.dct xs,.ty C]=if eY C=true then .ok (.bl (bV "dict" C)) else .no:=rfl
def x8 {xs:List D} {bs:List Bool} (h:zj xs=some bs):nF [.lst xs]=.ok (.bl (bs.all id)):=by simp only [nF,h]
theorem oe {β:Type} (f:β->Bool):∀ xs:List β,zj (xs.map fun a=>D.bl (f a))=some (xs.map f)
 | []=>rfl
 | a::r=>by simp only [List.map_cons,zj,oe f r,Option.map_some]
theorem strs_map {β:Type} (f:β->Str):∀ xs:List β,mF (xs.map fun a=>D.str (f a))=some (xs.map f)
 | []=>rfl
 | a::r=>by simp only [List.map_cons,mF,strs_map f r,Option.map_some]
def ER {z:Str} {xs:List D} {ys:List Str} (h:mF xs=some ys) (hl:(ys.map (·.length)).sum+ys.length*z.length<=1000000):eD z [.lst xs]=.ok (.str (Txt.join z ys)):=by simp only [eD,h,if_pos hl]
def zh {t:TgD} {τ:FT} {ε:FE} {δ0:Sd} (f:D->D) (g:D->Sd):∀ xs:List D,(∀ x∈xs,gK t x δ0=.ok (g x)/\τ (g x)=.ok true/\ε (g x)=.ok (f x))->gv t τ ε δ0 xs=.ok (xs.map f)
 | [],_=>rfl
 | x::r,h=>by
  obtain ⟨h1,h2,h3⟩:=h x List.mem_cons_self;have ih:=zh (t:=t) (τ:=τ) (ε:=ε) (δ0:=δ0) f g r fun y hy=>h y (List.mem_cons_of_mem _ hy);show (gK t x δ0).bind _=_;rw [h1];show (τ (g x)).bind _=_;rw [h2];simp only [ah,if_true,h3,ih,List.map_cons]
def wc {t:TgD} {τ:FT} {ε:FE} {δ0:Sd} {xs ys:List D} (hf:rY t δ0=true) (hl:xs.length<=1000000) (h:gv t τ ε δ0 xs=.ok ys):bz t τ ε δ0 xs=.ok (.lst ys):=by
 unfold bz;rw [if_pos ⟨hf,hl⟩,h];rfl
def Fp {k:Nat} {ε:FE} {δ0:Sd} {xs:List D} (f:D->D) (hf:rY (.one k) δ0=true) (hl:xs.length<=1000000) (h:∀ x∈xs,ε (δ0.set k (some x))=.ok (f x)):bz (.one k) cc ε δ0 xs=.ok (.lst (xs.map f)) :=
 wc hf hl (zh f (fun x=>δ0.set k (some x)) xs fun x hx=>⟨rfl,rfl,h x hx⟩)
def cS {β:Type} {k:Nat} {ε:FE} {δ0:Sd} {as:List β} (u:β->D) (f:β->D) (hf:rY (.one k) δ0=true) (hl:as.length<=1000000) (h:∀ a∈as,ε (δ0.set k (some (u a)))=.ok (f a)):bz (.one k) cc ε δ0 (as.map u)=.ok (.lst (as.map f)):=by
 refine wc hf (by rw [List.length_map];exact hl) ?_;clear hl;induction as with
 | nil=>rfl
 | cons a r ih =>
  have h1:=h a List.mem_cons_self;have ih:=ih fun b hb=>h b (List.mem_cons_of_mem _ hb);show (ε (δ0.set k (some (u a)))).bind _=_;rw [h1];show (gv (.one k) cc ε δ0 (r.map u)).bind _=_;rw [ih];rfl
end
def dz {α:Type} [DecidableEq α] (ks:List α):List α:=ks.foldl (fun acc k=>if k∈acc then acc else acc++[k]) []
section
variable {α:Type} [DecidableEq α]
def oy (ks:List α) (k:α):dz (ks++[k])=if k∈dz ks then dz ks else dz ks++[k]:=by unfold dz;rw [List.foldl_append];rfl
def uP {acc ks:List α} (h:∀ x,x∈acc ↔ x∈ks) (k:α):∀ x,(x∈(if k∈acc then acc else acc++[k])) ↔ x∈ks++[k]:=by
 intro x;rw [List.mem_append,<- h,List.mem_singleton];split
 ·rename_i hk;constructor
  ·exact .inl
  ·rintro (z|rfl)
   ·exact z
   ·exact hk
 ·rw [List.mem_append,List.mem_singleton]
def yu (ks:List α):∀ x,x∈dz ks ↔ x∈ks:=by
 have key:∀ n,∀ x,x∈dz (ks.take n) ↔ x∈ks.take n:=by
  intro n;induction n with
  | zero=>intro x;simp [dz]
  | succ n ih =>
   rcases Nat.lt_or_ge n ks.length with h|h
   ·rw [List.take_succ_eq_append_getElem h,oy];exact uP ih _
   ·rw [List.take_of_length_le (by omega)] at ih ⊢;exact ih
 have:=key ks.length
 rwa [List.take_length] at this
def BI (ks:List α):(dz ks).length<=ks.length:=by
 have key:∀ n,(dz (ks.take n)).length<=n:=by
  intro n;induction n with
  | zero=>simp [dz]
  | succ n ih =>
   rcases Nat.lt_or_ge n ks.length with h|h
   ·rw [List.take_succ_eq_append_getElem h,oy];split
    ·omega
    ·rw [List.length_append,List.length_singleton];omega
   ·rw [List.take_of_length_le (by omega)] at ih ⊢;omega
 have:=key ks.length
 rwa [List.take_length] at this
end
section
variable {prog:Program} {w:World} {A:Around} {R:Result->Shared->Prop} {I:Addr} {fp wr:List Addr} {G:Array GenState->Array GenState->Prop} {n:Nat} {P:Nat->Value->Prop} {St:Nat->Shared->Prop}
variable {α:Type} [DecidableEq α] {knd:KeyKind prog w α}
def y0 {h:Heap} {a:Addr} {S S':α->Bool} {n n':Nat} (hS:h.SetOf knd a S n) (e:∀ k,S k=S' k) (en:n=n'):h.SetOf knd a S' n':=by
 have:S=S':=funext e
 subst this;subst en;exact hS
def Cb (W:WalksS prog w A.in1 I fp wr G n P St) (S:Addr) (hSf:S∉fp) (ks:List α) (hlen:ks.length=n)
  (hval:∀ i v,P i v->∀ k,ks[i]?=some k->knd.is k v=true/\v.scannable=true) (hb:n+1 < scanBound) :
  ∀ (m i:Nat) (s:Shared),n - i=m->i<=n->St i s ->
   s.heap.SetOf knd S (fun k'=>decide (k'∈dz (ks.take i))) (dz (ks.take i)).length ->
   (∀ s',Moved (S::wr) G s s'->s'.heap.SetOf knd S (fun k'=>decide (k'∈dz ks)) (dz ks).length->R (.ok (.ret .none)) s') ->
   codeAny (model prog w) A (.builtin "set.update.loop" ⟨[.ref S,.ref I],[]⟩) R s:=by
 have hSw:S∉wr:=fun h=>hSf (W.sub _ h);have hsub:∀ b∈wr,b∈S::wr:=fun b hb=>List.mem_cons_of_mem _ hb;intro m;induction m with
 | zero =>
  intro i s hk hi hst hS hR;have hin:i=n:=by omega
  subst hin;rw [<- hlen,List.take_length] at hS;refine codeAny_builtin F.entry_set_update_loop ?_;rw [Around.under_plainId F.plain_set_update_loop _];show wpAny _ A.in1 (pyNext (.ref I) >>= _) _ _ s;refine wpAny_bind (W.done s _ _ hst fun s' hm=>?_);show wpAny _ A.in1 (ret Value.none) _ _ s';refine wpAny_pure (hR s' (hm.mono hsub) ?_);obtain ⟨o,es,ep,t,ho,rest⟩:=hS;exact ⟨o,es,ep,t,hm.heap S _ hSw ho,rest⟩
 | succ m ih =>
  intro i s hk hi hst hS hR;have hlt:i < n:=by omega
  have hik:i < ks.length:=by omega
  refine codeAny_builtin F.entry_set_update_loop ?_;rw [Around.under_plainId F.plain_set_update_loop _];show wpAny _ A.in1 (pyNext (.ref I) >>= _) _ _ s;refine wpAny_bind (W.item i s _ _ hlt hst fun v s' hP hst' hm=>?_);obtain ⟨hv1,hv2⟩:=hval i v hP ks[i] (List.getElem?_eq_getElem hik);have hS':s'.heap.SetOf knd S (fun k'=>decide (k'∈dz (ks.take i))) (dz (ks.take i)).length:=by
   obtain ⟨o,es,ep,tb,ho,rest⟩:=hS;exact ⟨o,es,ep,tb,hm.heap S _ hSw ho,rest⟩
  show wpAny _ A.in1 (holding [v] (setAdd S v) >>= _) _ _ s';refine wpAny_bind (wpAny_holding ?_);unfold setAdd;refine wpAny_holding ?_;refine wpAny_bind (knd.pyHash hv1 ?_);have hroom:(dz (ks.take i)).length+1 < scanBound:=by
   have:=BI (ks.take i)
   rw [List.length_take] at this;omega
  refine wpAny_setAddHashed_of (knd:=knd) (s:={ s' with toks:=s'.toks+1 }) hv1 hv2 hS' hroom fun h' hsb hS2=>?_;have hSi:h'.SetOf knd S (fun k'=>decide (k'∈dz (ks.take (i+1)))) (dz (ks.take (i+1))).length:=by
   rw [List.take_succ_eq_append_getElem hik,oy];refine y0 hS2 (fun k'=>?_) ?_
   ·by_cases hk:ks[i]∈dz (ks.take i)
    ·rw [if_pos hk];by_cases e:k'=ks[i]
     ·subst e;simp [hk]
     ·simp [e]
    ·rw [if_neg hk];simp [List.mem_append,Bool.decide_or]
   ·by_cases hk:ks[i]∈dz (ks.take i)
    ·simp [hk]
    ·simp [hk]
  refine wpAny_pure ⟨plainId_quiet F.plain_set_update_loop _,ih (i+1) _ (by omega) hlt (W.frame _ s' _ _ hst' (Nat.le_succ _) fun b hb o e=>?_) hSi fun s'' hm'' hS''=>?_⟩
  ·rw [hsb.2 b (fun h:b=S=>hSf (by rw [<- h];exact hb))];exact e
  ·refine hR s'' (Moved.trans W.gtrans ((hm.mono hsub).then_heap (Nat.le_succ _) fun b o hb e=>?_) hm'') hS'';rw [hsb.2 b (fun h:b=S=>hb (by rw [h];exact List.mem_cons_self))];exact e
def t7 {E:Value->Shared->Prop} {s:Shared} {l:Addr} {items:Array Value} {ks:List α} {Q:Value->Shared->Prop}
  (hh:A.handled=none) (hl:s.heap.IsList l items) (hlen:ks.length=items.size) (hi:∀ (i:Nat) v,items[i]?=some v->∀ k,ks[i]?=some k->knd.is k v=true/\v.scannable=true) (hb:items.size+1 < scanBound)
  (h:∀ (h':Heap) (tk:Nat),h'.SetOf knd s.heap.objs.size (fun k'=>decide (k'∈dz ks)) (dz ks).length ->
   (∀ b o,b < s.heap.objs.size->s.heap.get? b=some o->h'.get? b=some o)->Q (.ref s.heap.objs.size) { s with heap:=h',toks:=tk }) :
  wpAny (model prog w) A (call (.type "set") [.ref l]) Q E s:=by
 obtain ⟨c,tl,hmro⟩:=PySem.F.called_set.mro;have hmade:=PySem.F.called_set.made;have hsub:=PySem.F.called_set.sub;refine wpAny_call (codeAny_of_tree ?_);show wpAny _ _ (callAny (.type "set") _) _ _ _;refine wpAny_pure ⟨Code.quiet_builtin _ (by decide +kernel),codeAny_builtin PySem.F.entry_type_call ?_⟩;rw [Around.under_plain (weight_type_call_type "set" [.ref l] []) rfl];have h1:=PySem.F.called_set.notType;have h2:=PySem.F.called_set.canCreate;have hct:=PySem.F.typeCall_set_1 (.ref l);repeat (any_goals (first|assumption|wp_step))
 refine codeAny_mono (code_set_new_1 (.ref l) (E:=E) (Q₁:=fun obj s₁=>∃ led:Bool,obj=.ref s.heap.objs.size/\s₁={ s with heap:=s.heap.push { cls:=.type "set",dict:=none,data:=.set #[] 0 (.fresh 0 0 led) } }) fun led=>⟨led,rfl,rfl⟩) fun r s₁ hr=>?_;cases r with
 | error e=>exact hr
 | ok fl =>
  cases fl with
  | ret obj =>
   obtain ⟨led,rfl,rfl⟩:=hr;have hS:(s.heap.push { cls:=.type "set",dict:=none,data:=.set #[] 0 (.fresh 0 0 led) }).get? s.heap.objs.size=some { cls:=.type "set",dict:=none,data:=.set #[] 0 (.fresh 0 0 led) }:=Heap.get?_push_size _ rfl;have hT:Shared.TypeIs { s with heap:=s.heap.push { cls:=.type "set",dict:=none,data:=.set #[] 0 (.fresh 0 0 led) } } (.ref s.heap.objs.size) "set":=⟨_,hS,rfl⟩;have hli:=PySem.F.called_set.init.lookup;have hbi:=PySem.F.called_set.init.bind (.ref s.heap.objs.size);repeat (any_goals (first|assumption|wp_step))
   refine codeAny_mono (codeAny_call_builtin (R:=wants (fun r s₂=>r=.none/\∃ h' tk,s₂={ s with heap:=h',toks:=tk } /\
     h'.SetOf knd s.heap.objs.size (fun k'=>decide (k'∈dz ks)) (dz ks).length /\
     (∀ b o,b < s.heap.objs.size->s.heap.get? b=some o->h'.get? b=some o)) E) PySem.F.called_set.init.plain PySem.F.entry_set_init (check_set_init_1 hT ?_)) fun r₂ s₂ hr₂=>?_
   ·obtain ⟨ol,hol,hcl,nl,hdl⟩:=hl;obtain ⟨ocls,odict,odata,oslots⟩:=ol;simp only at hcl hdl;subst hcl;subst hdl;have hol':(s.heap.push { cls:=.type "set",dict:=none,data:=.set #[] 0 (.fresh 0 0 led) }).get? l=some { cls:=.type "list",dict:=odict,data:=.seq items nl,slots:=oslots }:=Heap.get?_push_of_some _ hol;have hsls:=PySem.F.sub_list_set;have hslf:=PySem.F.sub_list_frozenset;have hne:(Value.type "list"==Value.type "dict")=false:=by decide
    have hl1:(s.heap.push { cls:=.type "set",dict:=none,data:=.set #[] 0 (.fresh 0 0 led) }).IsList l items:=⟨_,hol',rfl,nl,rfl⟩;unfold Builtin.«set.__init__» noKeywords Builtin.Frozenset.updateFrom;generalize hPI:pyIter=PI
    wp_walk
    subst hPI;refine wpAny_pyIter_list hl1 ?_;refine wpAny_bind (wpAny_runValue ?_);have hlS:l < s.heap.objs.size:=Heap.lt_size hol;have hh3:A.in1.in1.in1.handled=none:=by simp [hh]
    have hneI:l≠(s.heap.push { cls:=.type "set",dict:=none,data:=.set #[] 0 (.fresh 0 0 led) }).objs.size:=by
     rw [Heap.size_push];exact Nat.ne_of_lt (Nat.lt_succ_of_lt hlS)
    have hSf:s.heap.objs.size∉[(s.heap.push { cls:=.type "set",dict:=none,data:=.set #[] 0 (.fresh 0 0 led) }).objs.size,l]:=by
     rw [Heap.size_push];simp only [List.mem_cons,List.mem_singleton,List.not_mem_nil,or_false,not_or];exact ⟨Nat.ne_of_lt (Nat.lt_succ_self _),Nat.ne_of_gt hlS⟩
    refine Cb (knd:=knd) ((Walks.list hh3 _ l hneI items).toS) s.heap.objs.size
     hSf ks hlen hi hb (items.size - 0) 0 _ (by omega) (Nat.zero_le _)
     ⟨⟨_,Heap.get?_push_size _ rfl,rfl,rfl⟩,(hl1.push _)⟩ ?hS0 ?hR
    case hS0 =>
     have hget:((s.heap.push { cls:=.type "set",dict:=none,data:=.set #[] 0 (.fresh 0 0 led) }).push { cls:=.type "list_iterator",data:=.fields #[.ref l,.int 0 0] }).get? s.heap.objs.size
       = some { cls:=.type "set",dict:=none,data:=.set #[] 0 (.fresh 0 0 led) }:=Heap.get?_push_of_some _ hS
     exact y0 ((setObjOf_fresh (knd:=knd) led).setOf hget (by unfold scanBound;omega)) (fun _=>by simp [dz]) (by simp [dz])
    case hR =>
     intro s' hm hS';obtain ⟨h',g',d',tk',os'⟩:=s';have eg:g'=s.gens:=hm.gens;have ed:d'=s.drawn:=hm.drawn;have eo:os'=s.os:=hm.os;subst eg;subst ed;subst eo;show wpAny _ _ _ _ _ _;refine wpAny_pure ?_;show wpAny _ _ (ret Value.none) _ _ _;refine wpAny_pure ⟨rfl,h',tk',rfl,hS',fun b o hb e=>?_⟩;have hb1:b≠s.heap.objs.size:=Nat.ne_of_lt hb;have hb2:b≠(s.heap.push { cls:=.type "set",dict:=none,data:=.set #[] 0 (.fresh 0 0 led) }).objs.size:=by
      rw [Heap.size_push];exact Nat.ne_of_lt (Nat.lt_succ_of_lt hb)
     exact hm.heap b o (by simp only [List.mem_cons,List.mem_singleton,List.not_mem_nil,or_false,not_or];exact ⟨hb1,hb2⟩) (Heap.get?_push_of_some _ (Heap.get?_push_of_some _ e))
   ·cases r₂ with
    | error e=>exact hr₂
    | ok fl₂ =>
     cases fl₂ with
     | ret r =>
      obtain ⟨rfl,h',tk,rfl,hS',hk'⟩:=hr₂;repeat (any_goals (first|assumption|wp_step))
      exact h _ _ hS' hk'
     | _=>exact hr₂.elim
  | _=>exact hr.elim
end
section
variable {X:Cx} {W:Wd} {O:List Nat}
def Ig (K:PySem.W.Frag) (t:TA):TE:=fun σ H Q=>t σ H fun vs H1=>∃ a ys,vs=[.ref a]/\dZ K H1 a (ys.map V.str)/\ys.length<=1000/\Q (.int ((dz ys).length:Nat)) H1
def CB {e:Expr} {t:TA} {p1 p2 pos1 pos:Pos} (hc:X.calm=true) (hm1:X.mg "len"=none) (hm2:X.mg "set"=none) (ha:PA X [e] t) (hg1:Gl X "len":=by rfl) (hg2:Gl X "set":=by rfl)
  (he:starEach [e] X.env=(false,eval e X.env)::starEach [] X.env:=by rfl) (hpl:(backTo pos1 (starEach [] X.env)).any (·.1)=false:=by rfl)
  (he':starEach [.Call (.Name "set" p2) [e] [] pos1] X.env=(false,eval (.Call (.Name "set" p2) [e] [] pos1) X.env)::starEach [] X.env:=by rfl) (hpl':(backTo pos (starEach [] X.env)).any (·.1)=false:=by rfl) :
  PE X (.Call (.Name "len" p1) [.Call (.Name "set" p2) [e] [] pos1] [] pos) (Ig X.K t):=by
 intro ag s σ H Q I h;refine wpAny_Call_Name_kw (nv I hg1 hm1 bA ?_ (by decide) (by decide));refine PyProof.Rows.callWith_builtin1 ?_ he' hpl';rw [he'];show wpAny _ _ (spliced ((false,eval (.Call (.Name "set" p2) [e] [] pos1) X.env)::backTo pos (starEach [] X.env))) _ _ s;refine Calls.spliced_cons ?_;refine wpAny_Call_Name_kw (nv I hg2 hm2 Jt ?_ (by decide) (by decide));refine PyProof.Rows.callWith_type1 (gH (ha pos1 ag s σ H _ I h) fun us s1 hh=>qK hh fun vs H1 I1 r1 q1=>?_) he hpl;obtain ⟨a,ys,rfl,hq,hl,q⟩:=q1;obtain ⟨u,rfl,ru⟩:=fY r1;cases ru;obtain ⟨its,rv,pl,hz⟩:=I1.list hq;have hlen:its.length=ys.length:=by rw [<- rv.length,List.length_map]
 have hsb:scanBound=4096:=rfl;refine bh I1.tk (t7 (knd:=strKind X.prog X.w) (ks:=ys) (I1.ok.hd hc) pl.isList (by simp [hlen]) (fun i v hv k hk=>?_) (by rw [hsb];simp;omega) fun h' tk hS hkeep htk=>?_)
 ·have hv':its[i]?=some v:=by simpa using hv
  obtain ⟨u,hu,ru⟩:=rv.get (show (ys.map V.str)[i]?=some (.str k) by rw [List.getElem?_map,hk];rfl);rw [hv'] at hu;cases hu;obtain ⟨t',rfl⟩:=ru;exact ⟨strKind_is _ _ _ _,rfl⟩
 ·refine Calls.spliced_nil ?_;obtain ⟨o,es,ep,t',ho,hex,hd,hel,hmem,hb',hf,hn⟩:=hS;have I2:Inv X ag σ H1 { s1 with heap:=h',toks:=tk }:=I1.kept fun b u e=>hkeep b u (Heap.lt_size e) e;refine call_len_set ho hex hd hf (by rw [hsb] at hb';omega) ⟨.int _,H1,I2.tok _,⟨_,rfl⟩,?_⟩;rw [hn];exact q
def ot (ds:List D):R D:=match ds with
 | [.lst xs]=>match mF xs with
  | some ys=>if ys.length<=1000 then .ok (.int ((dz ys).length:Nat)) else .no
  | none=>.no
 | _=>.no
def EZ {e:Expr} {p1 p2 pos1 pos:Pos} {α:FA} (hm1:X.mg "len"=none) (hm2:X.mg "set"=none) (ha:JA X [e] (AB W O α)) (hK:X.K=W.K:=by rfl) (hc:X.calm=true:=by rfl) (hg1:Gl X "len":=by rfl) (hg2:Gl X "set":=by rfl) (h1:a8 e=true:=by rfl) :
  JE X (.Call (.Name "len" p1) [.Call (.Name "set" p2) [e] [] pos1] [] pos) (tD W O (aj ot α)) :=
 (JE.mk (CB (p1:=p1) (p2:=p2) (pos1:=pos1) (pos:=pos) hc hm1 hm2 ha.out hg1 hg2 (eh h1) rfl rfl rfl)).imp fun σ H Q hh=>fT hh fun as0 B own δ I h=>⟨as0,B,own,δ,I,gT h fun ds xs H2 s2 d2 h2=>by
  unfold ot at h2;split at h2
  ·obtain ⟨v,rfl,d1⟩:=dM d2;obtain ⟨p,vs,rfl,q1,q2⟩:=d1;split at h2
   ·rename_i ys e;split at h2
    ·rename_i hl;refine ⟨p,ys,rfl,?_,hl,aN h2 rfl⟩;rw [<- og q2 e,hK];exact (aD _ _).seq q1
    ·exact h2.elim
   ·exact h2.elim
  ·exact h2.elim⟩
end
section
variable {X:Cx} {W Wb:Wd} {O:List Nat} {osc scope:Scope} {ON N:List Str} {ix:List (Option Nat)} {tg elt:Expr} {ifs:List Expr} {t:TgD} {τ:FT} {ε:FE} {pos p1:Pos} {x:Str}
def Cy {K:PySem.W.Frag} {M:List Addr} {H:Hp} {a:Addr} {xs:List V} {ds:List D} (h1:H a=some (.lst xs)) (h2:aJ K (aG M H) ds xs):GivesC K M H (QU K a) ds where
 go:=fun i H1 s hi=>by
  have hi':i < xs.length:=by rw [<- h2.len];exact hi
  exact ⟨xs,xs[i],dZ.of (s _ _ h1),by simp [hi']⟩
 yl:=fun i H1 v H2 acc s hacc hex hi ⟨e,y⟩=>by
  subst e;obtain ⟨d,q1,q2⟩:=h2.got (y xs (dZ.of (s _ _ h1)));refine ⟨ax.refl _,d,q1,q2.mono fun b o hb=>?_⟩;have hbM:b∉M:=fun z=>by rw [dI z] at hb;cases hb
  rw [aV hbM] at hb;have hba:b≠acc:=fun z=>by rw [z,hacc] at hb;cases hb
  rw [aV (by simp [hba,hbM])];exact s _ _ hb
 stop:=fun H1 s=>⟨xs,dZ.of (s _ _ h1),by rw [h2.len];exact Nat.le_refl _⟩
def HW (K:PySem.W.Frag) {i:Nat} (hi:i∈O) (hcs:zJ osc ON N ix scope=true) (hg:∀ b,JG (qk X N scope b) tg (gD Wb [] t)) (ht:∀ b,JTs (qk X N scope b) ifs (oE Wb [] τ)) (he:∀ b,JE (qk X N scope b) elt (tD Wb [] ε)) (hO:∀ j∈ix,∀ k,j=some k->k∉O)
  (hN:X.N[i]?=some x:=by rfl) (hv:zv X.env.scope x:=by first|exact Or.inl rfl|exact Or.inr (Or.inl rfl)|exact Or.inr (Or.inr rfl)) (hd:(x==("__debug__":Str))=false:=by decide)
  (hcd:(x==("__classdict__":Str))=false:=by decide) (hK:X.K=K:=by rfl) (hW:W.K=K:=by rfl)
  (hWb:Wb.K=W.K:=by rfl) (hE:X.env.scope=osc:=by rfl) (hON:X.N=ON:=by rfl) (hc:X.calm=true:=by rfl) (hs:∀ y,foldedSetIterable (.Name x p1) X.env y=pure y:=by intro _;rfl):JE X (.ListComp elt [⟨tg,.Name x p1,ifs,0⟩] scope pos) (tN W O (bn ix (b8 (ae i)) t τ ε)) :=
 (Dw hcs (AU K (jv i hN hv hd hcd) hK) hg ht he hE hON hc hs).imp fun σ H Q hh=>fT hh fun as0 B own δ I h=>by
  obtain ⟨a,ha⟩:=gw I.olen hi;obtain ⟨d,o,h1,h2,h3,h4⟩:=I.owns i a ha;have hv:ae i δ=.ok d:=by unfold ae;rw [h1]
  show vg σ[i]? H _;rw [h2];cases d with
  | lst ds =>
   obtain ⟨xs,rfl,q⟩:=h4;have h':i7 W (own++as0) H (bz t τ ε (bL ix δ) ds) Q:=by
    have e:bn ix (b8 (ae i)) t τ ε δ=bz t τ ε (bL ix δ) ds:=by unfold bn b8;rw [hv];rfl
    rw [<- e];exact h
   refine .inl ⟨⟨xs,dZ.of h3⟩,dG hWb I hO (by subst hW;exact Cy h3 q) ?_⟩;cases hq:bz t τ ε (bL ix δ) ds with
   | ok d=>rw [hq] at h';exact fun p o H' s hp=>h' p o H' s hp
   | er x =>
    unfold bz at hq;split at hq
    ·cases hc:gv t τ ε (bL ix δ) ds <;> rw [hc] at hq <;> cases hq
    ·cases hq
   | no=>rw [hq] at h';exact h'.elim
  | dct _ =>
   have e:bn ix (b8 (ae i)) t τ ε δ=.no:=by unfold bn b8;rw [hv];rfl
   rw [e] at h;exact h.elim
  | obj _ _ =>
   have e:bn ix (b8 (ae i)) t τ ε δ=.no:=by unfold bn b8;rw [hv];rfl
   rw [e] at h;exact h.elim
  | _=>exact h4.elim
end
section
variable {X:Cx} {W:Wd} {O O' Ob:List Nat}
def cC:FS:=fun _=>.no
def bT {a b:Option Expr} {pos:Pos}:JS X (.Raise a b pos) (sD W Ob O O' cC):=⟨fun ag s σ H D I ⟨as0,B,own,δ,_,h⟩=>h.elim⟩
def Bm (xs:List V) (H:Hp) (Q:VK):Prop:=match xs with
 | [.int i]=>i.natAbs < 10 ^ 30/\Q (.str (Str.ofString (toString i))) H
 | _=>False
def yF:cx X (.type "str") Bm:=by
 intro ag s σ H xs us Q I r h;unfold Bm at h;split at h
 ·rename_i i;obtain ⟨u,rfl,t,rfl⟩:=fY r;refine PySem.P.str_of_int ?_ ⟨.str _,H,I.tok _,⟨_,rfl⟩,h.2⟩;rcases Nat.eq_zero_or_pos i.natAbs with e|e
  ·rw [e];decide
  ·rw [Nat.log2_lt (by omega)];exact Nat.lt_of_lt_of_le h.1 (Nat.le_trans (by decide:10 ^ 30<=2 ^ 100) (Nat.pow_le_pow_right (by decide) (by decide)))
 ·exact h.elim
def qC (ds:List D):R D:=match ds with
 | [.int i]=>if i.natAbs < 10 ^ 30 then .ok (.str (Str.ofString (toString i))) else .no
 | _=>.no
def BZ:oQ W Bm qC:=by
 intro as H xs ds Q hn dv h;unfold qC at h;split at h
 ·obtain ⟨v,rfl,d1⟩:=dM dv;cases d1;split at h
  ·rename_i hl;exact ⟨hl,aN h rfl⟩
  ·exact h.elim
 ·exact h.elim
def DX (xs:List V) (H:Hp) (Q:VK):Prop:=match xs with
 | [.str z]=>∃ n,intText? z=some n/\z.length<=640/\Q (.int n) H
 | _=>False
def DP:cx X (.type "int") DX:=by
 intro ag s σ H xs us Q I r h;unfold DX at h;split at h
 ·obtain ⟨u,rfl,t,rfl⟩:=fY r;obtain ⟨n,h1,h2,h3⟩:=h;exact PySem.W.KIN.call_text h1 h2 ⟨.int _,H,I.tok _,⟨_,rfl⟩,h3⟩
 ·exact h.elim
def kB (ds:List D):R D:=match ds with
 | [.str z]=>match intText? z with
  | some n=>if z.length<=640 then .ok (.int n) else .no
  | none=>.no
 | _=>.no
def Fv:oQ W DX kB:=by
 intro as H xs ds Q hn dv h;unfold kB at h;split at h
 ·obtain ⟨v,rfl,d1⟩:=dM dv;cases d1;split at h
  ·rename_i n e;split at h
   ·rename_i hl;exact ⟨n,e,hl,aN h rfl⟩
   ·exact h.elim
  ·exact h.elim
 ·exact h.elim
end
section
variable {X:Cx} {W:Wd} {O:List Nat} {b:Expr} {ψ:FE} {x:Str} {p1 pos:Pos} {op:CmpOp}
def CK (K:PySem.W.Frag) (f:Bool->Bool) {i:Nat} (hi:i∈O) (hW:W.K=K) {σ:St} {H:Hp} {Q:VK} {as0 own:List Addr} {B:Hp} {δ:Sd} (I:DI W.K as0 B O own σ δ H) (h:eV W (own++as0) H (ap (fun a b=>j6 (sU a b) f) (ae i) ψ δ) Q):wH (wA K f) (pI i) (tD W O ψ) σ H Q:=by
 obtain ⟨a,ha⟩:=gw I.olen hi;obtain ⟨d,o,h1,h2,h3,h4⟩:=I.owns i a ha;have hv:ae i δ=.ok d:=by unfold ae;rw [h1]
 have h':eV W (own++as0) H ((ψ δ).bind fun y=>j6 (sU d y) f) Q:=by
  have e:ap (fun a b=>j6 (sU a b) f) (ae i) ψ δ=(ψ δ).bind fun y=>j6 (sU d y) f:=by unfold ap;rw [hv];rfl
  rw [<- e];exact h
 have e0:wH (wA K f) (pI i) (tD W O ψ) σ H Q=vg σ[i]? H (Om (wA K f) (tD W O ψ) σ Q):=rfl;rw [e0,h2];subst hW;refine ⟨as0,B,own,δ,I,dr h' fun y u H2 s2 d2 h2'=>?_⟩;have hao:a∈own:=(List.of_mem_zip ha).2;have od:l9 W.K (aG [a] H2) o d:=h4.mono ((gf fun b hb=>by
  rw [List.mem_singleton.mp hb];exact List.mem_append_left _ hao).trans (aP s2))
 have dd:dR W.K H2 d (.ref a):=by
  have:=od.den (as:=[]) (by simp) (s2 _ _ h3)
  rwa [uk] at this
 cases e:sU d y with
 | none=>rw [e] at h2';exact h2'.elim
 | some k =>
  rw [e] at h2';exact ⟨d,y,k,dd,d2.mono (aD _ _),e,aN h2' rfl⟩
def Hd (K:PySem.W.Frag) (f:Bool->Bool) {i:Nat} (hi:i∈O) (ho:fA X (compareOp op) (wA K f)) (hb:JE X b (tD W O ψ)) (hm:behindInMarks op b=false) (hN:X.N[i]?=some x:=by rfl) (hv:zv X.env.scope x:=by first|exact Or.inl rfl|exact Or.inr (Or.inl rfl)|exact Or.inr (Or.inr rfl)) (hd:(x==("__debug__":Str))=false:=by decide)
  (hcd:(x==("__classdict__":Str))=false:=by decide) (hW:W.K=K:=by rfl):JT X (.Compare (.Name x p1) [op] [b] pos) (oE W O (b5 (ap (fun a b=>j6 (sU a b) f) (ae i) ψ))) :=
 (Dm ho (jv i hN hv hd hcd) hb hm).imp fun σ H Q hh=>fT hh fun as0 B own δ I h=>CK K f hi hW (Q:=Io Q) I (gL h fun z w H3 s3 d3 h3=>by
  cases z with
  | bl k=>cases d3;exact h3 H3 (ax.refl _)
  | _=>exact h3.elim)
end
end L2
namespace L2
open PySem PySem.Builtin PySem.Builtin.Str PySem.StrLaws
def gp (y:List Nat):Nat->Nat->List Nat->List Nat
 | _,_,[]=>[]
 | k+1,i,_::r=>gp y k (i+1) r
 | 0,i,c::r=>if (c::r).take y.length=y then i::gp y (y.length - 1) (i+1) r else gp y 0 (i+1) r
def sI (y z:List Nat):Nat->List Nat->List Nat
 | _,[]=>[]
 | k+1,_::r=>sI y z k r
 | 0,c::r=>if (c::r).take y.length=y then z++sI y z (y.length - 1) r else c::sI y z 0 r
def BQ (y:List Nat):∀ (k i:Nat) (R:List Nat),gp y k i R=gp y 0 (i+k) (R.drop k)
 | 0,i,R=>rfl
 | k+1,i,[]=>by simp [gp]
 | k+1,i,_::r=>by
  show gp y k (i+1) r=gp y 0 (i+(k+1)) (r.drop k);rw [BQ y k (i+1) r];congr 1;omega
def yh (y z:List Nat):∀ (k:Nat) (R:List Nat),sI y z k R=sI y z 0 (R.drop k)
 | 0,R=>rfl
 | k+1,[]=>by simp [sI]
 | k+1,_::r=>by
  show sI y z k r=sI y z 0 (r.drop k);exact yh y z k r
def wP (x y:Str) (limit:Nat) (hy:0 < y.length):∀ (m i:Nat) (found:Array Nat) (free:Nat),m=x.length - i->i<=x.length->found.size+m < limit ->
  (forIn (List.range' i (x.length+1 - i)) (found,free) (occBody x y x.length limit)).run.fst.toList=found.toList++gp y.cps.toList (free - i) i (x.cps.toList.drop i)
 | 0,i,found,free,hm,hi,hl=>by
  have e:x.length+1 - i=1:=by omega
  have hn:x.cps.toList.drop i=[]:=by
   rw [List.drop_eq_nil_iff]
   have:x.cps.toList.length=x.length:=by simp [Str.length]
   omega
  rw [e,hn,List.range'_one,List.forIn_cons];unfold occBody;rw [if_neg (fun z=>by have:=z.1.2;omega)];simp [gp]
 | m+1,i,found,free,hm,hi,hl=>by
  have hlen:x.cps.toList.length=x.length:=by simp [Str.length]
  have hylen:y.cps.toList.length=y.length:=by simp [Str.length]
  have e:x.length+1 - i=(x.length+1 - (i+1))+1:=by omega
  have hil:i < x.cps.toList.length:=by omega
  rw [e,List.range'_succ,List.forIn_cons,List.drop_eq_getElem_cons hil];have hsub:subAt x y i=true ↔ (x.cps.toList[i]::x.cps.toList.drop (i+1)).take y.cps.toList.length=y.cps.toList:=by
   rw [subAt_eq,beq_iff_eq,List.drop_eq_getElem_cons hil,hylen]
  have hfit:subAt x y i=true->i+y.length<=x.length:=fun h=>by
   have h2:=congrArg List.length (hsub.mp h);rw [List.length_take,<- List.drop_eq_getElem_cons hil,List.length_drop,hylen] at h2;omega
  unfold occBody;by_cases hf:free<=i
  ·have ek:free - i=0:=by omega
   rw [ek];by_cases hs:subAt x y i=true
   ·rw [if_pos ⟨⟨⟨by show found.size < limit;omega,hf⟩,hfit hs⟩,hs⟩];have ih:=wP x y limit hy m (i+1) (found.push i) (i+y.length) (by omega) (by omega) (by rw [Array.size_push];omega);show (forIn (List.range' (i+1) (x.length+1 - (i+1))) (found.push i,i+y.length) (occBody x y x.length limit)).run.fst.toList=_;rw [ih,Array.toList_push];have eg:gp y.cps.toList 0 i (x.cps.toList[i]::x.cps.toList.drop (i+1))=i::gp y.cps.toList (y.cps.toList.length - 1) (i+1) (x.cps.toList.drop (i+1)):=by
     rw [gp,if_pos (hsub.mp hs)]
    rw [eg,hylen,show i+y.length - (i+1)=y.length - 1 by omega,List.append_assoc];rfl
   ·rw [if_neg (fun z=>hs z.2)];have ih:=wP x y limit hy m (i+1) found free (by omega) (by omega) (by omega);show (forIn (List.range' (i+1) (x.length+1 - (i+1))) (found,free) (occBody x y x.length limit)).run.fst.toList=_;have eg:gp y.cps.toList 0 i (x.cps.toList[i]::x.cps.toList.drop (i+1))=gp y.cps.toList 0 (i+1) (x.cps.toList.drop (i+1)):=by
     rw [gp,if_neg (fun z=>hs (hsub.mpr z))]
    rw [ih,eg,show free - (i+1)=0 by omega]
  ·obtain ⟨k,hk⟩:∃ k,free - i=k+1:=⟨free - i - 1,by omega⟩;rw [hk,if_neg (fun z=>hf z.1.1.2)];have ih:=wP x y limit hy m (i+1) found free (by omega) (by omega) (by omega);show (forIn (List.range' (i+1) (x.length+1 - (i+1))) (found,free) (occBody x y x.length limit)).run.fst.toList=_;rw [ih,show free - (i+1)=k by omega];rfl
def yM (a b:Str):(a++b).cps.toList=a.cps.toList++b.cps.toList:=by
 show (a.cps++b.cps).toList=_;simp
def As (x y z:Str) (hy:0 < y.length):∀ (m i a:Nat),m=x.length - i->a<=i ->
  (Str.join z (partsFrom x y.length a (gp y.cps.toList 0 i (x.cps.toList.drop i)))).cps.toList=(x.cps.toList.drop a).take (i - a)++sI y.cps.toList z.cps.toList 0 (x.cps.toList.drop i):=by
 intro m;induction m using Nat.strongRecOn with
 | ind m IH =>
  intro i a hm ha;have hlen:x.cps.toList.length=x.length:=by simp [Str.length]
  have hylen:y.cps.toList.length=y.length:=by simp [Str.length]
  rcases Nat.lt_or_ge i x.cps.toList.length with hil|hil
  ·have ed:=List.drop_eq_getElem_cons hil;by_cases hs:(x.cps.toList[i]::x.cps.toList.drop (i+1)).take y.cps.toList.length=y.cps.toList
   ·have eg:gp y.cps.toList 0 i (x.cps.toList[i]::x.cps.toList.drop (i+1))=i::gp y.cps.toList 0 (i+y.length) (x.cps.toList.drop (i+y.length)):=by
     rw [gp,if_pos hs,BQ,List.drop_drop,hylen,show i+1+(y.length - 1)=i+y.length by omega]
    have er:sI y.cps.toList z.cps.toList 0 (x.cps.toList[i]::x.cps.toList.drop (i+1))=z.cps.toList++sI y.cps.toList z.cps.toList 0 (x.cps.toList.drop (i+y.length)):=by
     rw [sI,if_pos hs,yh,List.drop_drop,hylen,show i+1+(y.length - 1)=i+y.length by omega]
    have ih:=IH (x.length - (i+y.length)) (by omega) (i+y.length) (i+y.length) rfl (Nat.le_refl _);rw [Nat.sub_self,List.take_zero,List.nil_append] at ih;rw [ed,eg,er];obtain ⟨p,r,hp⟩:=partsFrom_ne x y.length (i+y.length) (gp y.cps.toList 0 (i+y.length) (x.cps.toList.drop (i+y.length)));have ej:Str.join z (partsFrom x y.length a (i::gp y.cps.toList 0 (i+y.length) (x.cps.toList.drop (i+y.length))))=strSub x a i++z++Str.join z (partsFrom x y.length (i+y.length) (gp y.cps.toList 0 (i+y.length) (x.cps.toList.drop (i+y.length)))):=by
     rw [partsFrom,hp];rfl
    rw [ej,yM,yM,ih,strSub_toList,List.append_assoc]
   ·have eg:gp y.cps.toList 0 i (x.cps.toList[i]::x.cps.toList.drop (i+1))=gp y.cps.toList 0 (i+1) (x.cps.toList.drop (i+1)):=by rw [gp,if_neg hs]
    have er:sI y.cps.toList z.cps.toList 0 (x.cps.toList[i]::x.cps.toList.drop (i+1))=x.cps.toList[i]::sI y.cps.toList z.cps.toList 0 (x.cps.toList.drop (i+1)):=by rw [sI,if_neg hs]
    have ih:=IH (x.length - (i+1)) (by omega) (i+1) a rfl (by omega);rw [ed,eg,er,ih];have et:(x.cps.toList.drop a).take (i+1 - a)=(x.cps.toList.drop a).take (i - a)++[x.cps.toList[i]]:=by
     rw [show i+1 - a=(i - a)+1 by omega,List.take_succ_eq_append_getElem (by rw [List.length_drop];omega)];congr 2;rw [List.getElem_drop];congr 1;omega
    rw [et,List.append_assoc];rfl
  ·have hn:x.cps.toList.drop i=[]:=List.drop_eq_nil_iff.mpr hil;rw [hn];show (strSub x a x.length).cps.toList=_;rw [strSub_toList];show _=(x.cps.toList.drop a).take (i - a)++[];rw [List.append_nil,List.take_of_length_le (by rw [List.length_drop];omega),List.take_of_length_le (by rw [List.length_drop];omega)]
def nV (x y z:Str) (hy:0 < y.length):(Txt.replace x y z).cps.toList=sI y.cps.toList z.cps.toList 0 x.cps.toList:=by
 have ho:occurrences x y 0 x.length (x.length+1)=gp y.cps.toList 0 0 x.cps.toList:=by
  rw [occ_eq]
  have:=wP x y (x.length+1) hy x.length 0 #[] 0 (by omega) (by omega) (by simp)
  simpa using this
 have hj:=As x y z hy x.length 0 0 (by omega) (Nat.le_refl _);rw [Nat.sub_self,List.take_zero,List.nil_append,List.drop_zero,<- ho] at hj;unfold Txt.replace;have hy0:(y.length==0)=false:=by simp;omega
 rw [hy0,Bool.false_and,Bool.or_false];by_cases he:(occurrences x y 0 x.length (x.length+1)).isEmpty=true
 ·rw [if_pos he,<- hj,List.isEmpty_iff.mp he];show _=(strSub x 0 x.length).cps.toList;rw [strSub_toList,List.drop_zero,List.take_of_length_le (by simp [Str.length])]
 ·rw [if_neg he,glued_eq_join,partsBetween_eq];exact hj
end L2
namespace L2
open PySem PySem.Spec PyProof.Rows
section
variable {X:Cx} {W:Wd} {O:List Nat} {φ:FE}
def OV (y w:Str) (to:TE):TE:=fun σ H Q=>to σ H fun x H1=>∃ z,x=.str z/\(y==w)=false/\z.length<=1000/\w.length<=10/\Q (.str (Txt.replace z y w)) H1
def AF {o:Expr} {to:TE} {y w:Str} {j1 j2:Nat} {p1 p2 apos cpos:Pos} (hX:1<=X.tn) (ho:PE X o to)
  (hbase:attributeBase o "replace" X.env (eval o X.env)=eval o X.env:=by rfl)
  (hfew:((backTo cpos (starEach [.Constant (.str y) j1 p1,.Constant (.str w) j2 p2] X.env)).all (fun x=>!x.1)&&(backToKw cpos (keywordEach [] X.env)).all (fun x=>x.1.isSome)
   && decide ([Expr.Constant (.str y) j1 p1,.Constant (.str w) j2 p2].length+([]:List Keyword).length+(if ([]:List Keyword).isEmpty then 0 else 1) < 30))=true:=by rfl)
  (hline:(apos.endLine==cpos.line)=true:=by rfl) :
  PE X (.Call (.Attribute o "replace" apos) [.Constant (.str y) j1 p1,.Constant (.str w) j2 p2] [] cpos) (OV y w to):=by
 intro ag s σ H Q I h;refine wpAny_Call_method_late hbase hfew hline rfl (gH (ho ag s σ H _ I h) fun v s1 hh=>qK hh fun x H1 I1 r1 q1=>?_);obtain ⟨z,rfl,h1,h2,h3,q⟩:=q1;obtain ⟨tk,rfl⟩:=r1;refine ⟨"str","str.replace",PySem.F.plainAttrs_str,PySem.F.slot_str_replace,PySem.F.type_str_replace,typeIs_str s1 z tk,(fun _ e=>nomatch e),?_⟩
 refine Calls.callWith_builtin rfl (Calls.evalArgs_plain ?_);have ht:1<=s1.toks:=Nat.le_trans hX I1.tk;refine Calls.spliced_cons (Calls.Constant_str (k:=j1) (pos:=p1) (Calls.spliced_cons (Calls.Constant_str (k:=j2) (pos:=p2) (Calls.spliced_nil ?_))));refine bh (n:=X.tn) (by walk_at "tok") (SC.replaceW (by show s1.toks≠0;omega) (by show s1.toks+1≠0;omega) (by show s1.toks≠s1.toks+1;omega) h1 (by omega) (by omega) fun t' k htk=>?_);have I2:=(I1.tok (s1.toks+1)).tok (s1.toks+1+1);exact ⟨.str _,H1,I1.tok k,⟨t',rfl⟩,q⟩
def ki (y w:Str) (d:D):R D:=match d with
 | .str z=>if (y==w)=false/\z.length<=1000/\w.length<=10 then .ok (.str (Txt.replace z y w)) else .no
 | _=>.no
def n0 {o:Expr} {y w:Str} {j1 j2:Nat} {p1 p2 apos cpos:Pos} (hX:1<=X.tn) (ho:JE X o (tD W O φ))
  (hbase:attributeBase o "replace" X.env (eval o X.env)=eval o X.env:=by rfl) (hline:(apos.endLine==cpos.line)=true:=by rfl) :
  JE X (.Call (.Attribute o "replace" apos) [.Constant (.str y) j1 p1,.Constant (.str w) j2 p2] [] cpos) (tD W O (Hv (ki y w) φ)) :=
 (JE.mk (AF (y:=y) (w:=w) (j1:=j1) (j2:=j2) (p1:=p1) (p2:=p2) (apos:=apos) (cpos:=cpos) hX ho.out hbase rfl hline)).imp fun σ H Q hh=>fT hh fun as0 B own δ I h=>⟨as0,B,own,δ,I,dr h fun x v H1 s1 d1 h1=>by
  unfold ki at h1;split at h1
  ·cases d1;split at h1
   ·rename_i hl;exact ⟨_,rfl,hl.1,hl.2.1,hl.2.2,aN h1 rfl⟩
   ·exact h1.elim
  ·exact h1.elim⟩
end
section
variable {M:Model} {A:Around} {E:Value->Shared->Prop} {s₀ s:Shared} {m cm:Str->Option Value} {env:Env}
def ES {n:Str} {v:Value} {Q:Unit->Shared->Prop} (x:InCallC s₀ env.locals m env.cells cm s) (hk:env.scope.kind=.function) (hl:env.kindOf n=some .local)
  (h:∀ s',InCallC s₀ env.locals (fun y=>if y=n then some v else m y) env.cells cm s'->1<=s'.toks->Q () s'):wpAny M A (storeName env n v) Q E s:=by
 refine wpAny_storeName_local hl x.toInCall.ns (fun h' hn' hs'=>h _ ⟨⟨?_,hn',fun b o e=>?_,x.toInCall.fresh⟩,fun k c hc=>?_,x.apart,x.above⟩ (Nat.succ_le_succ (Nat.zero_le _))) (by rw [hk];rfl)
 ·obtain ⟨h₁,tk,rfl⟩:=x.toInCall.same;exact ⟨h',_,rfl⟩
 ·exact hs'.extBut b o (Nat.ne_of_lt (Nat.lt_of_lt_of_le (Heap.lt_size e) x.toInCall.fresh)) (x.toInCall.keep b o e)
 ·exact (x.cell k c hc).sameBut hs' (Nat.ne_of_gt (x.above k c (mem_of_lookup hc)))
def tw (f:Str×Value->PUnit->Sem (ForInStep PUnit)) (hf:∀ n v u,f (n,v) u=(do storeName env n v;pure (.yield ⟨⟩))) (hk:env.scope.kind=.function) {n:Str} {v:Value} {r:List (Str×Value)} {Q:PUnit->Shared->Prop}
  (x:InCallC s₀ env.locals m env.cells cm s) (hl:env.kindOf n=some .local) (hr:∀ x∈r,env.kindOf x.1=some .local\/(env.kindOf x.1=some .cell/\(env.cells.lookup x.1).isSome=true))
  (h:∀ s',InCallC s₀ env.locals (bindL env.kindOf ((n,v)::r) m) env.cells (bindC env.kindOf ((n,v)::r) cm) s'->1<=s'.toks->Q ⟨⟩ s'):wpAny M A (forIn ((n,v)::r) ⟨⟩ f) Q E s:=by
 rw [List.forIn_cons,hf];refine wpAny_bind (wpAny_bind (ES x hk hl fun s' x' ht=>wpAny_pure (bh ht (wpAny_bindParams f hf hk r _ _ s' _ x' hr fun s'' x'' ht'=>h s'' ?_ ht'))));unfold bindL bindC;rw [if_pos hl,if_pos hl];exact x''
def zx {scope:Scope} {globals:Addr} {n:Str} {v:Value} {r:List (Str×Value)} {qual:Str} {func:Option Addr} {code:Value} {builtins:Addr} {Q:Env->Shared->Prop}
  (hk:scope.kind=.function) (hl:scope.names.lookup n=some .local)
  (hkind:∀ x∈r,scope.names.lookup x.1=some .local\/(scope.names.lookup x.1=some .cell/\((cellsFrom (s.heap.objs.size+1) scope.names []).lookup x.1).isSome=true))
  (hQ:∀ env,env=newEnv scope s.heap.objs.size globals (cellsFrom (s.heap.objs.size+1) scope.names []) qual func code none builtins ->
   ∀ s',InCallC s env.locals (bindL env.kindOf ((n,v)::r) fun _=>none) env.cells (bindC env.kindOf ((n,v)::r) fun _=>none) s'->1<=s'.toks->Q env s') :
  wpAny M A (newFunctionEnv scope globals [] ((n,v)::r) qual func code none builtins) Q E s:=by
 simp only [newFunctionEnv,Option.isSome_none,Bool.false_eq_true,if_false];refine wpAny_bind (wpAny_alloc ?_);refine wpAny_bind (wpAny_layCells _ (fun name kind cells=>by cases hkc:kind==NameKind.cell <;> simp [hkc]) _ _ _ _ ?_);have ok:=cellsFrom_ok scope.names (s.heap.push { cls:=.type "frame",data:=.dict #[] }) (s.heap.objs.size+1) [] ⟨fun _ _ hm=>(nomatch hm),List.Pairwise.nil⟩ (by rw [Heap.size_push];exact Nat.le_refl _)
 rw [Heap.size_push] at ok;rw [show ({ s with heap:=s.heap.push { cls:=.type "frame",data:=.dict #[] } }:Shared).heap.objs.size=s.heap.objs.size+1 from Heap.size_push ..];refine wpAny_bind (tw (s₀:=s) (env:=newEnv scope s.heap.objs.size globals (cellsFrom (s.heap.objs.size+1) scope.names []) qual func code none builtins)
  _ (fun _ _ _=>rfl) hk (m:=fun _=>none) (cm:=fun _=>none)
  ⟨⟨⟨_,_,rfl⟩,(Heap.Ns.new s.heap (.type "frame")).keeps (pushCells_keeps _ _),fun b o e=>pushCells_keeps _ _ b o (Heap.get?_push_of_some _ e),Nat.le_refl _⟩,
   fun n c hc=>(ok.empty n c (mem_of_lookup hc)).1,ok.apart,fun n c hm=>(ok.empty n c hm).2⟩
  hl hkind fun s' x ht=>wpAny_pure (hQ _ rfl s' x ht))
end
abbrev Cx.up (X:Cx) (n:Nat):Cx:={ X with tn:=n }
def Cx.Ok.up {X:Cx} {n:Nat} (ok:X.Ok):(X.up n).Ok :=
 ⟨ok.mod,ok.kind,ok.glob,ok.blt,ok.above,ok.inj,ok.has,ok.cab,ok.hd,ok.frames,ok.stk,ok.exf,ok.bs,ok.bsz,ok.noex,ok.exfs,ok.funs,ok.frf⟩
def Inv.up {X:Cx} {ag:List (Addr×Obj)} {σ:St} {H:Hp} {s:Shared} {n:Nat} (I:Inv X ag σ H s) (h:n<=s.toks):Inv (X.up n) ag σ H s:=⟨I.ok.up,I.os,I.bare,I.base,I.loc,I.cell,I.free,I.freeC,I.pin,I.hok,I.len,h⟩
def LU {CX:C7} {P:Program} {w:World} {K:PySem.W.Frag} {mg:Str->Option Value} {base:Heap} {k:Nat} {f:Addr} {name qual:Str} {params:Arguments} {body:List Stmt} {scope:Scope} {dV kV doc pm cdv ct oc:Value} {an od:Option Addr}
  {osl:Array (Option Value)} {N ps:List Str} {sp:Sp} (lk:K.lookup f=some ⟨oc,od,.func (PySem.W.fnOf name qual params body scope dV kV doc pm an cdv ct),osl⟩) (hcd:PySem.W.codeIn K cdv qual=true) (S:FnScope N ps scope)
  {p0:Str} {pr:List Str} (hp:ps=p0::pr) (hl0:scope.names.lookup p0=some .local)
  (len:∀ vs H Q E,sp vs H Q E->vs.length=ps.length)
  (hbody:∀ (A:Around) (outer:List Env) (s:Shared) (H:Hp) (vs:List V) (Q:VK) (E:XK),Room k (A.deeper (envOfC qual scope s.heap.objs.size f cdv))->sp vs H Q E ->
   ∃ t,zw ((qd CX P w K mg base N qual scope f cdv A outer s H E).up 1) body t/\t { nx:=fun _ H'=>Q .non H',rt:=Q } (start N vs) H) :
  FnOk P w K mg base CX (k+1) f (PySem.W.fnOf name qual params body scope dV kV doc pm an cdv ct) ps sp:=by
 subst hp;refine ⟨len,fun A outer s H args us vs Q E hr e0 hb r hsp=>?_⟩;have hl:=len _ _ _ _ hsp;have KX:K.In s.heap:=e0.mod.kin.keeps fun b o e=>(e0.bs b o e).1;have lim:s.heap.NoLimit:=e0.mod.nolimit.keeps fun b o e=>(e0.bs b o e).1;have hkind:∀ y∈(p0::pr).zip us,scope.names.lookup y.1=some .local\/(scope.names.lookup y.1=some .cell/\((cellsFrom (s.heap.objs.size+1) scope.names []).lookup y.1).isSome=true):=fun ⟨n,v⟩ hy=>by
  rcases S.par n (List.of_mem_zip hy).1 with q|q
  ·exact .inl q
  ·exact .inr ⟨q,PySem.W.cellsFrom_some _ _ _ (.inl q)⟩
 have hul:us.length=(p0::pr).length:=by rw [<- r.length];exact hl
 obtain ⟨u0,ur,rfl⟩:∃ u0 ur,us=u0::ur:=by
  cases us with
  | nil=>simp at hul
  | cons u0 ur=>exact ⟨u0,ur,rfl⟩
 refine codeAny_call_function hr.depth (KX _ _ lk) rfl S.co S.gen rfl (PySem.W.codeRec_of KX hcd) (hb _ _ _ _ ?_);refine zx (n:=p0) (v:=u0) (r:=pr.zip ur) S.kind hl0 (fun y hy=>hkind y (List.mem_cons_of_mem _ hy)) fun env he s1 x ht=>?_;subst he;refine ⟨lim.keeps x.toInCall.keep,codeAny_func ?_⟩;obtain ⟨t,ht',hq⟩:=hbody A outer s H vs Q E (hr.deeper _) hsp;have I:Inv ((qd CX P w K mg base N qual scope f cdv A outer s H E).up 1) [] (start N vs) H s1:=(vq S hr.hd e0 hl r x).up ht;refine wpAny_mono (ht' [] s1 (start N vs) H _ I hq) (fun fl s' hs=>?_) fun e s' hs=>hs;have fin:∀ {σ':St} {H':Hp} {v:V} {u:Value},Inv ((qd CX P w K mg base N qual scope f cdv A outer s H E).up 1) [] σ' H' s'->bB v u->Q v H'->CE outer P w H s Q u s' :=
  fun {σ' H' v u} J rv q=>⟨v,H',J.os,J.bare,J.base,J.hok,rv,q⟩
 cases fl with
 | ret u =>
  obtain ⟨v,σ',H',J,rv,q⟩:=hs;exact fin J rv q
 | next =>
  obtain ⟨σ',H',J,q⟩:=hs;exact fin (v:=V.non) (u:=Value.none) J rfl q
 | brk =>
  obtain ⟨_,_,_,q⟩:=hs;exact False.elim q
 | cont =>
  obtain ⟨_,_,_,q⟩:=hs;exact False.elim q
section
variable {P:Program} {w:World} {K:PySem.W.Frag} {mg:Str->Option Value} {base:Heap}
def Fun.okJ1 {x qual:Str} {st:Stmt} {f:Addr} {fd:FuncData} {N ps:List Str} {k:Nat} {sp:Sp} (F:Fun K x qual st f fd) (S:FnScope N ps (am st)) {p0:Str} {pr:List Str} (hp:ps=p0::pr) (hl0:(am st).names.lookup p0=some .local) (len:∀ vs H Q E,sp vs H Q E->vs.length=ps.length)
  (hbody:∀ (cdv:Value) (A:Around) (outer:List Env) (s:Shared) (H:Hp) (vs:List V) (Q:VK) (E:XK),Room k (A.deeper (envOfC qual (am st) s.heap.objs.size f cdv))->sp vs H Q E ->
   ∃ t,JB ((qd eX P w K mg base N qual (am st) f cdv A outer s H E).up 1).nox (dE st) t/\t { nx:=fun _ H'=>Q .non H',rt:=Q } (start N vs) H):FnOk P w K mg base eX (k+1) f fd ps sp:=by
 obtain ⟨oc,od,kV,doc,pm,an,cdv,ct,osl,rfl,lk,hcd⟩:=F.ex;refine LU lk hcd S hp hl0 len fun A outer s H vs Q E hr hsp=>?_;obtain ⟨t,h,q⟩:=hbody cdv A outer s H vs Q E hr hsp;exact ⟨t,h.out.nox,q⟩
def Fun.okD1 {x qual:Str} {st:Stmt} {f:Addr} {fd:FuncData} {N ps:List Str} {k:Nat} {φ:FS} {O':List Nat} (F:Fun K x qual st f fd) (S:FnScope N ps (am st)) {p0:Str} {pr:List Str} (hp:ps=p0::pr) (hl0:(am st).names.lookup p0=some .local)
  (hbody:∀ (cdv:Value) (A:Around) (outer:List Env) (s:Shared) (H:Hp) (E:XK),Room k (A.deeper (envOfC qual (am st) s.heap.objs.size f cdv)) ->
   JB ((qd eX P w K mg base N qual (am st) f cdv A outer s H E).up 1).nox (dE st) (sD ⟨K,mg,E0⟩ [] [] O' φ)):FnOk P w K mg base eX (k+1) f fd ps (iP K mg (b7 φ N ps)):=by
 refine F.okJ1 S hp hl0 (fun vs H Q E h=>?_) fun cdv A outer s H vs Q E hr h=>?_
 ·obtain ⟨as,ds,ex,dv,h⟩:=h;unfold b7 at h;split at h
  ·rename_i hl;rw [<- dv.len];exact hl
  ·exact h.elim
 ·obtain ⟨as,ds,ex,dv,h⟩:=h;unfold b7 at h;split at h
  ·rename_i hl;refine ⟨_,hbody cdv A outer s H E hr,as,H,[],ga N ds,⟨?_,rfl,List.nodup_nil,List.nodup_nil,fun a ha=>(nomatch ha),ex,ax.refl _,fun i d _ e=>?_,fun i a h=>(by simp at h)⟩,?_⟩
   ·unfold ga start;simp [dv.len]
   ·unfold ga at e;unfold start;rw [<- dv.len];exact pe dv e
   ·cases hr:φ (ga N ds) with
    | ok fl =>
     rw [hr] at h;cases fl with
     | rt d=>exact fun v H' s dv'=>h v H' s dv'
     | rn d=>exact fun p o H' s hp e od=>h (.ref p) H' s (od.den (fun z=>ex p z hp) e)
     | nx δ=>exact fun own σ H' I=>h .non H' I.same rfl
     | bk δ=>exact h.elim
     | ct δ=>exact h.elim
    | er x=>rw [hr] at h;exact fun e C H' s=>h e C H' s
    | no=>rw [hr] at h;exact h.elim
  ·exact h.elim
end
end L2
namespace LX
open PySem PySem.AutoSeq1
open PySem.MeetsSeq PySem.MeetsSeq2 PySem.MeetsSeq3
def extend_list (l:Addr) (items:Array Value) (n:Nat) (b:Addr) (items2:Array Value) (n2:Nat) (dd:Option Addr) (sl:Array (Option Value)) (hc0:¬(!items.isEmpty&&Builtin.List.listTooLong (items.size+items2.size))=true) (hc1:items.size<=sizeLine) (hs2:items.size+items2.size<=sizeLine+1) :
  Meets (Builtin.«list.extend» ⟨[.ref l,.ref b],[]⟩) (fun _ R s=>s.heap.get? l=some { cls:=.type "list",dict:=none,data:=.seq items n,slots:=#[] }/\s.heap.get? b=some { cls:=.type "list",dict:=dd,data:=.seq items2 n2,slots:=sl }/\R (.ok (.ret Value.none)) { s with heap:=s.heap.update l (Obj.mapSeq fun x=>x++items2),toks:=s.toks }) :=
 .of_wp fun prog w A R s h=>by
  obtain ⟨hp,g,d,tk,os⟩:=s;obtain ⟨hl,hb,h⟩:=h;have f1:=idx_int;have f2:=sub_tuple_tuple;have f3:=sub_list_list;have f4:=sub_tuple_list;have f5:=sub_list_tuple;have hz':(items++items2).size<=sizeLine+1:=by rw [Array.size_append];exact hs2
  wp_walk using (wpAny_updateSeq hl rfl (hz:=hc1) (_hz':=hz')),wpAny_loadPart' hl,wpAny_loadPart' hb;exact ⟨_,rfl,h⟩
def xz (l:Addr) (items:Array Value) (n:Nat) (b:Addr) (items2:Array Value) (n2:Nat) (dd:Option Addr) (sl:Array (Option Value)) (hc0:¬(!items.isEmpty&&Builtin.List.listTooLong (items.size+items2.size))=true) (hc1:items.size<=sizeLine) (hs2:items.size+items2.size<=sizeLine+1) :
  Meets (Builtin.«list.extend» ⟨[.ref l,.ref b],[]⟩) (fun _ R s=>s.heap.get? l=some { cls:=.type "list",dict:=none,data:=.seq items n,slots:=#[] }/\s.heap.get? b=some { cls:=.type "tuple",dict:=dd,data:=.seq items2 n2,slots:=sl }/\R (.ok (.ret Value.none)) { s with heap:=s.heap.update l (Obj.mapSeq fun x=>x++items2),toks:=s.toks }) :=
 .of_wp fun prog w A R s h=>by
  obtain ⟨hp,g,d,tk,os⟩:=s;obtain ⟨hl,hb,h⟩:=h;have f1:=idx_int;have f2:=sub_tuple_tuple;have f3:=sub_list_list;have f4:=sub_tuple_list;have f5:=sub_list_tuple;have hz':(items++items2).size<=sizeLine+1:=by rw [Array.size_append];exact hs2
  wp_walk using (wpAny_updateSeq hl rfl (hz:=hc1) (_hz':=hz')),wpAny_loadPart' hl,wpAny_loadPart' hb;exact ⟨_,rfl,h⟩
end LX
namespace L2
open PySem PySem.Spec PyProof.Rows
section
variable {X:Cx}
def zf (K:PySem.W.Frag):V->List V->Hp->VK->Prop:=fun x vs H Q=>∃ l b xs zs,x=.ref l/\vs=[.ref b]/\H l=some (.lst xs)/\(dZ K H b zs\/lG K H b zs)/\xs.length+zs.length<=sizeLine/\Q .non (cQ H l (.lst (xs++zs)))
def Ac:SX X "list.extend" (zf X.K):=by
 intro ag s σ H x vs v us Q I rx rv h;obtain ⟨l,b,xs,zs,rfl,rfl,hH,hB,hz,q⟩:=h;cases rx;obtain ⟨u,rfl,ru⟩:=rv.one;cases ru;obtain ⟨z,its,n,r,hl,e⟩:=I.lstM hH;rcases hB with hB|hB
 ·obtain ⟨its2,r2,pl,hz2⟩:=I.list hB;obtain ⟨⟨cls,dd,data,sl⟩,ho,hc,n2,hd⟩:=pl.isList;simp only at hc hd;subst hc hd;have hl2:=r2.length;have hsz:its.toArray.size+its2.toArray.size<=sizeLine:=by rw [List.size_toArray,List.size_toArray];omega
  have hlong:¬ (!its.toArray.isEmpty&&Builtin.List.listTooLong (its.toArray.size+its2.toArray.size))=true:=by
   rw [zr hsz,Bool.and_false];exact Bool.false_ne_true
  refine call_meets F.slot_list_extend ⟨_,e,rfl⟩ F.entry_list_extend (F.args_list_extend_2 _ _) (LX.extend_list l its.toArray n b its2.toArray n2 dd sl hlong (by rw [List.size_toArray];omega) (by omega)) ⟨e,ho,?_⟩;refine ⟨.non,_,I.lset (its':=its++its2) hH e (by simp) (r.append r2) ?_,rfl,q⟩;rw [List.length_append];omega
 ·obtain ⟨its2,r2,pl,hz2⟩:=I.tuple hB;obtain ⟨⟨cls,dd,data,sl⟩,ho,hc,n2,hd⟩:=pl;simp only at hc hd;subst hc hd;have hl2:=r2.length;have hsz:its.toArray.size+its2.toArray.size<=sizeLine:=by rw [List.size_toArray,List.size_toArray];omega
  have hlong:¬ (!its.toArray.isEmpty&&Builtin.List.listTooLong (its.toArray.size+its2.toArray.size))=true:=by
   rw [zr hsz,Bool.and_false];exact Bool.false_ne_true
  refine call_meets F.slot_list_extend ⟨_,e,rfl⟩ F.entry_list_extend (F.args_list_extend_2 _ _) (LX.xz l its.toArray n b its2.toArray n2 dd sl hlong (by rw [List.size_toArray];omega) (by omega)) ⟨e,ho,?_⟩;refine ⟨.non,_,I.lset (its':=its++its2) hH e (by simp) (r.append r2) ?_,rfl,q⟩;rw [List.length_append];omega
end
section
variable {X:Cx} {W:Wd} {Ob O:List Nat} {e f:Expr} {ε φ ψ:FE} {pos p1 p2 apos cpos:Pos} {x:Str}
def y4 (d:D):Option (List D):=match d with
 | .lst ys=>some ys
 | .tup ys=>some ys
 | _=>none
def ox (i:Nat) (ε:FE):FS:=fun δ=>match δ[i]? with
 | some (some (.lst xs))=>(ε δ).bind fun d=>match y4 d with
  | some ys=>if xs.length+ys.length<=1000000 then .ok (.nx (δ.set i (some (.lst (xs++ys))))) else .no
  | none=>.no
 | _=>.no
def vQ {K:PySem.W.Frag} {H:Hp} {d:D} {ys:List D} {v:V} (h:dR K H d v) (e:y4 d=some ys):∃ b zs,v=.ref b/\(dZ K H b zs\/lG K H b zs)/\aJ K H ys zs:=by
 cases d with
 | lst xs=>cases e;obtain ⟨a,vs,rfl,h1,h2⟩:=h;exact ⟨a,vs,rfl,.inl h1,h2⟩
 | tup xs=>cases e;obtain ⟨a,vs,rfl,h1,h2⟩:=h;exact ⟨a,vs,rfl,.inr h1,h2⟩
 | _=>cases e
def CH {i:Nat} (hi:i∈O) (he:JE X e (tD W O ε)) (hN:X.N[i]?=some x:=by rfl) (hn:a8 e=true:=by rfl) (hline:(apos.endLine==cpos.line)=true:=by rfl) (hv:zv X.env.scope x:=by first|exact Or.inl rfl|exact Or.inr (Or.inl rfl)|exact Or.inr (Or.inr rfl)) (hd:(x==("__debug__":Str))=false:=by decide)
  (hcd:(x==("__classdict__":Str))=false:=by decide) (hbase:attributeBase (.Name x p1) "extend" X.env (eval (.Name x p1) X.env)=eval (.Name x p1) X.env:=by rfl)
  (hs:swapsWith (.Call (.Attribute (.Name x p1) "extend" apos) [e] [] cpos) none pos.line X.env=pure false:=by rfl) (hW:W.K=X.K:=by rfl) :
  JS X (.Expr (.Call (.Attribute (.Name x p1) "extend" apos) [e] [] cpos) pos) (sD W Ob O O (ox i ε)) :=
 (ql (En PySem.F.plainAttrs_list PySem.F.slot_list_extend PySem.F.type_list_extend Ac (jv i hN hv hd hcd) (gt he iU hn) hbase hline (by rw [List.all_cons,hn];rfl) (by show 1 < 29;decide)) hs).imp fun D σ H hh=>fT hh fun as0 B own δ I h=>by
  obtain ⟨a,ha⟩:=gw I.olen hi;obtain ⟨d,o,h1,h2,h3,h4⟩:=I.owns i a ha;show vg σ[i]? H (fun x H1=>QY X.K "list" x H1/\tD W O ε σ H1 fun v H2=>zf X.K x [v] H2 (fun _ H3=>D.nx σ H3));rw [h2];unfold ox at h;rw [h1] at h;cases d with
  | lst ds =>
   obtain ⟨xs,rfl,q⟩:=h4;refine ⟨.inl ⟨rfl,xs,dZ.of h3⟩,as0,B,own,δ,I,lO I h fun y v H2 s2 d2 hq=>?_⟩;cases ey:y4 y with
   | none=>rw [ey] at hq;exact hq.elim
   | some ys =>
    rw [ey] at hq;have hq:cr W as0 B Ob O (if ds.length+ys.length<=1000000 then .ok (.nx (δ.set i (some (.lst (ds++ys))))) else .no) D:=hq;split at hq
    ·rename_i hl;obtain ⟨b,zs,rfl,hb,hz⟩:=vQ d2 ey;have hm:=c9;refine ⟨a,b,xs,zs,rfl,rfl,s2 _ _ h3,?_,?_,?_⟩
     ·rw [hW] at hb;exact hb.imp (fun z=>(aD _ _).seq z) fun z=>(aD _ _).seqT z
     ·have:=q.len;have:=hz.len;omega
     ·exact hq own σ _ ((I.mono s2).mutate ha ⟨xs++zs,rfl,(q.mono (aP s2)).append hz⟩)
    ·exact hq.elim
  | _=>exact h.elim
def EL (K:PySem.W.Frag) {i:Nat} (hi:i∈O) (hm:X.mg "tuple"=none) (hN:X.N[i]?=some x:=by rfl) (hg:Gl X "tuple":=by rfl) (hv:zv X.env.scope x:=by first|exact Or.inl rfl|exact Or.inr (Or.inl rfl)|exact Or.inr (Or.inr rfl)) (hd:(x==("__debug__":Str))=false:=by decide)
  (hcd:(x==("__classdict__":Str))=false:=by decide) (hK:X.K=K:=by rfl) (hW:W.K=K:=by rfl):JE X (.Call (.Name "tuple" p2) [.Name x p1] [] pos) (tD W O (aj sA (aa (ae i) ak))) :=
 (xB (zL K hK) hm m9 (gt (jv i hN hv hd hcd) iU) hg).imp fun σ H Q hh=>fT hh fun as0 B own δ I h=>by
  obtain ⟨a,ha⟩:=gw I.olen hi;obtain ⟨d,o,h1,h2,h3,h4⟩:=I.owns i a ha;show vg σ[i]? H (fun v H1=>wN K [v] H1 Q);rw [h2];have hv:ae i δ=.ok d:=by unfold ae;rw [h1]
  have h':eV W (own++as0) H (sA [d]) Q:=by
   have e:aj sA (aa (ae i) ak) δ=sA [d]:=by unfold aj aa ak;rw [hv];rfl
   rw [<- e];exact h
  cases d with
  | lst ds =>
   obtain ⟨xs,rfl,q⟩:=h4;refine .inl ⟨xs,dZ.of h3,fun l hl=>?_⟩;have hn:=I.new hl;exact h' _ _ (aU hl _) ⟨l,xs,rfl,.inl (.inl (by rw [aV hn];exact aZ)),q.mono (aP (aU hl _))⟩
  | _=>first|exact h4.elim|exact h'.elim
end
section
variable {X:Cx} {W:Wd} {O:List Nat}
def Az (z y:Str):Int:=match Builtin.Str.occurrences z y 0 z.length 1 with
 | i::_=>(i:Int)
 | []=>-1
def HI:DU X "str.find" (Gu fun x y=>.int (Az x y)):=by
 intro ag s σ H z t xs us Q I r h;unfold Gu at h;split at h
 ·obtain ⟨u,rfl,t',rfl⟩:=fY r;exact call_gives PySem.F.slot_str_find (typeIs_str _ _ _) PySem.F.entry_str_find (PySem.F.args_str_find_2 _ _) (gives_str_find z _ t t') ⟨.int _,H,I.tok _,⟨_,rfl⟩,h⟩
 ·exact h.elim
def NG:GB W (Gu fun x y=>.int (Az x y)) (sv fun x y=>.int (Az x y)):=by
 intro as H z xs ds Q hn dv h;unfold sv at h;split at h
 ·obtain ⟨v,rfl,d1⟩:=dM dv;cases d1;exact aN h rfl
 ·exact h.elim
def oP:∀ (l:List (Str×Tok)),bK (l.map fun p=>V.str p.1) (strValues l)
 | []=>.nil
 | p::r=>.cons ⟨p.2,rfl⟩ (oP r)
def zW (z:Str) (xs:List V) (H:Hp) (Q:VK):Prop:=match xs with
 | [.str y]=>(y.length==0)=false/\z.length<=1000000/\∀ l,H l=none->Q (.ref l) (cQ H l (.lst ((Txt.split z y).map V.str)))
 | _=>False
def split_len (x y:Str):(Builtin.Str.partsBetween x (Builtin.Str.occurrences x y 0 x.length (x.length+1)) y.length).length<=x.length+2:=by
 have e1:=StrLaws.occ_length_le x y 0 x.length (x.length+1);rw [length_partsBetween];omega
def uT (x y:Str):(Txt.split x y).length<=x.length+2:=by
 unfold Txt.split;split
 ·simp
 ·split
  ·simp
  ·exact split_len x y
def yR:DU X "str.split" zW:=by
 intro ag s σ H z t xs us Q I r h;unfold zW at h;split at h
 case h_2=>exact h.elim
 rename_i y;obtain ⟨u,rfl,t',rfl⟩:=fY r;obtain ⟨hy,hz,q⟩:=h;have hsz:z.length+2<=sizeLine:=by rw [sizeLine_eq];omega
 have hn:=split_len z y;have hl2:=uT z y;have key:∀ (l:List (Str×Tok)) (k:Nat),l.map (·.1)=Txt.split z y->X.tn<=k ->
   EP X ag σ Q (.ref s.heap.objs.size) { s with heap:=s.heap.push { cls:=.type "list",data:=.seq (strValues l).toArray },toks:=k }:=fun l k e hk=>by
  have e2:l.map (fun p=>V.str p.1)=(Txt.split z y).map V.str:=by rw [<- e,List.map_map];rfl
  refine ⟨.ref _,_,I.laid (t':=k) (o:=.lst ((Txt.split z y).map V.str)) (fun b o e=>Heap.get?_push_of_some _ e) (Nat.le_refl _) ⟨by rw [List.length_map];omega,strValues l,_,by rw [<- e2];exact oP l,Heap.get?_push_size _ rfl⟩ hk,rfl,q _ (I.hok.fresh (Nat.le_refl _))⟩
 cases h1:(decide (z.length < y.length)||decide (Builtin.Str.strKind z < Builtin.Str.strKind y))
 ·cases hf:(Builtin.Str.occurrences z y 0 z.length (z.length+1)).isEmpty
  ·refine call_meets PySem.F.slot_str_split (typeIs_str _ _ _) PySem.F.entry_str_split (PySem.F.args_str_split_2 _ _) (meets_str_split_sep z y t t' h1 hy hf (by omega) (by omega)) ?_;show EP X ag σ Q _ { s with toks:=_,heap:=s.heap.push { cls:=.type "list",data:=.seq (strsFrom s.toks (Builtin.Str.partsBetween z (Builtin.Str.occurrences z y 0 z.length (z.length+1)) y.length)).toArray } };rw [strsFrom_eq];exact key (numbered s.toks _) _ ((numbered_texts _ _).trans ((if_neg (ne_true_of_eq_false h1)).trans (if_neg (ne_true_of_eq_false hf))).symm) (Nat.le_trans I.tk (Nat.le_add_right _ _))
  ·exact call_meets PySem.F.slot_str_split (typeIs_str _ _ _) PySem.F.entry_str_split (PySem.F.args_str_split_2 _ _) (meets_str_split_not_found z y t t' h1 hy hf)
    (key [(z,t)] s.toks ((if_neg (ne_true_of_eq_false h1)).trans (if_pos hf)).symm I.tk)
 ·exact call_meets PySem.F.slot_str_split (typeIs_str _ _ _) PySem.F.entry_str_split (PySem.F.args_str_split_2 _ _) (meets_str_split_cannot_occur z y t t' h1)
   (key [(z,t)] s.toks (if_pos h1).symm I.tk)
def iX (z:Str) (ds:List D):R D:=match ds with
 | [.str y]=>if (y.length==0)=false/\z.length<=1000000 then .ok (.lst ((Txt.split z y).map D.str)) else .no
 | _=>.no
def vY {K:PySem.W.Frag} {H:Hp}:∀ zs:List Str,aJ K H (zs.map D.str) (zs.map V.str)
 | []=>rfl
 | z::r=>⟨_,_,rfl,rfl,vY r⟩
def Ef:GB W zW iX:=by
 intro as H z xs ds Q hn dv h;unfold iX at h;split at h
 ·obtain ⟨v,rfl,d1⟩:=dM dv;cases d1;split at h
  ·rename_i hy;exact ⟨hy.1,hy.2,fun l hl=>h _ _ (aU hl _) ⟨l,_,rfl,.inl (.inl (by rw [aV (hn l hl)];exact aZ)),vY _⟩⟩
  ·exact h.elim
 ·exact h.elim
def JU (z:Str) (xs:List V) (H:Hp) (Q:VK):Prop:=match xs with
 | [.str y]=>(y.length==0)=false/\z.length<=1000000/\∀ l,H l=none->Q (.ref l) (cQ H l (.tup [.str (Txt.partition z y).1,.str (Txt.partition z y).2.1,.str (Txt.partition z y).2.2]))
 | _=>False
def qq:DU X "str.partition" JU:=by
 intro ag s σ H z t xs us Q I r h;unfold JU at h;split at h
 case h_2=>exact h.elim
 rename_i y;obtain ⟨u,rfl,t',rfl⟩:=fY r;obtain ⟨hy,hz,q⟩:=h;have key:∀ (ta tb tc:Tok) (k:Nat),X.tn<=k->EP X ag σ Q (.ref s.heap.objs.size)
   { s with heap:=s.heap.push { cls:=.type "tuple",data:=.seq [.str (Txt.partition z y).1 ta,.str (Txt.partition z y).2.1 tb,.str (Txt.partition z y).2.2 tc].toArray },toks:=k }:=fun ta tb tc k hk=>by
  refine ⟨.ref _,_,I.laid (t':=k) (o:=.tup [.str (Txt.partition z y).1,.str (Txt.partition z y).2.1,.str (Txt.partition z y).2.2]) (fun b o e=>Heap.get?_push_of_some _ e) (Nat.le_refl _) ⟨by rw [sizeLine_eq];exact Nat.le_trans (show 3<=1000 by decide) (by decide),[.str (Txt.partition z y).1 ta,.str (Txt.partition z y).2.1 tb,.str (Txt.partition z y).2.2 tc],.cons ⟨ta,rfl⟩ (.cons ⟨tb,rfl⟩ (.cons ⟨tc,rfl⟩ .nil)),IsTup.new _ _⟩ hk,rfl,q _ (I.hok.fresh (Nat.le_refl _))⟩
 have hsz:z.length<=sizeLine:=by rw [sizeLine_eq];omega
 refine call_meets PySem.F.slot_str_partition (typeIs_str _ _ _) PySem.F.entry_str_partition (PySem.F.args_str_partition_2 _ _) (meets_str_partition z y t t' hy hsz) ?_;have h1:=Nat.le_trans I.tk (Nat.le_add_right s.toks 1);have h2:=Nat.le_trans I.tk (Nat.le_add_right s.toks 2);revert key
 unfold Txt.partition;cases Builtin.Str.occurrences z y 0 z.length 1 with
 | nil=>intro key;exact key _ _ _ _ h1
 | cons i r=>intro key;exact key _ _ _ _ h2
def rV (z:Str) (ds:List D):R D:=match ds with
 | [.str y]=>if (y.length==0)=false/\z.length<=1000000 then .ok (.tup [.str (Txt.partition z y).1,.str (Txt.partition z y).2.1,.str (Txt.partition z y).2.2]) else .no
 | _=>.no
def Iu:GB W JU rV:=by
 intro as H z xs ds Q hn dv h;unfold rV at h;split at h
 ·obtain ⟨v,rfl,d1⟩:=dM dv;cases d1;split at h
  ·rename_i hy;exact ⟨hy.1,hy.2,fun l hl=>h _ _ (aU hl _) ⟨l,_,rfl,.inl (.inl (by rw [aV (hn l hl)];exact aZ)),aJ.cons rfl (aJ.cons rfl (aJ.cons rfl aJ.nil))⟩⟩
  ·exact h.elim
 ·exact h.elim
def EX (xs:List V) (H:Hp) (Q:VK):Prop:=match xs with
 | [.str z]=>Q (.str z) H
 | xs=>Bm xs H Q
def Dy:cx X (.type "str") EX:=by
 intro ag s σ H xs us Q I r h;unfold EX at h;split at h
 ·obtain ⟨u,rfl,t,rfl⟩:=fY r;exact PySem.P.str_of_str ⟨.str _,H,I,⟨_,rfl⟩,h⟩
 ·exact yF ag s σ H xs us Q I r h
def r9 (ds:List D):R D:=match ds with
 | [.str z]=>.ok (.str z)
 | [.int i]=>if i.natAbs < 10 ^ 30 then .ok (.str (Str.ofString (toString i))) else .no
 | _=>.no
def Eg:oQ W EX r9:=by
 intro as H xs ds Q hn dv h;unfold r9 at h;split at h
 ·obtain ⟨v,rfl,d1⟩:=dM dv;cases d1;exact aN h rfl
 ·obtain ⟨v,rfl,d1⟩:=dM dv;cases d1;split at h
  ·rename_i hl;exact ⟨hl,aN h rfl⟩
  ·exact h.elim
 ·exact h.elim
def zP (K:PySem.W.Frag) (z:Str) (xs:List V) (H:Hp) (Q:VK):Prop:=match xs with
 | [.ref p]=>∃ ys:List Str,(dZ K H p (ys.map V.str)\/lG K H p (ys.map V.str))/\(ys.map (·.length)).sum+ys.length*z.length<=16777216/\Q (.str (Txt.join z ys)) H
 | _=>False
def FO (K:PySem.W.Frag) (hK:X.K=K:=by rfl):DU X "str.join" (zP K):=by
 subst hK;intro ag s σ H z t xs us Q I r h;unfold zP at h;split at h
 ·obtain ⟨ys,hq,hz,q⟩:=h;obtain ⟨u,rfl,rx⟩:=fY r;cases rx;rcases hq with hq|hq
  ·obtain ⟨its,rv,p,hz'⟩:=I.list hq;exact bh I.tk (join_list p.isList (by simpa using l4 rv) hz fun t' k htk=>⟨.str (Txt.join z ys),H,I.tok _,⟨t',rfl⟩,q⟩)
  ·obtain ⟨its,rv,p,hz'⟩:=I.tuple hq;exact bh I.tk (join_tuple p (by simpa using l4 rv) hz fun t' k htk=>⟨.str (Txt.join z ys),H,I.tok _,⟨t',rfl⟩,q⟩)
 ·exact h.elim
def qO (z:Str) (ds:List D):R D:=match ds with
 | [d]=>match y4 d with
  | some xs=>(match mF xs with
   | some ys=>if (ys.map (·.length)).sum+ys.length*z.length<=1000000 then .ok (.str (Txt.join z ys)) else .no
   | none=>.no)
  | none=>.no
 | _=>.no
def Ld (K:PySem.W.Frag) (hW:W.K=K:=by rfl):GB W (zP K) qO:=by
 subst hW;intro as H z xs ds Q hn dv h;unfold qO at h;split at h
 ·obtain ⟨v,rfl,d1⟩:=dM dv;split at h
  ·rename_i xs e;obtain ⟨b,zs,rfl,hs,q2⟩:=vQ d1 e;split at h
   ·rename_i ys e2;split at h
    ·rename_i hl
     have:=og q2 e2
     subst this;refine ⟨ys,hs.imp (aD _ _).seq (aD _ _).seqT,by omega,aN h rfl⟩
    ·exact h.elim
   ·exact h.elim
  ·exact h.elim
 ·exact h.elim
end
def QT (lo c:Int) (n:Nat):It:=⟨fun i _=>i < n,fun i H x H'=>H'=H/\x=.int (lo+(i:Nat)*c),fun i _=>n<=i⟩
def Cn {P:Program} {w:World} {K:PySem.W.Frag} {tg:Expr} (it:Addr) (lo c:Int) (n:Nat):Turn P w K tg (QT lo c n) [it] it (fun i h=>IsRangeIter h it (lo+(i:Nat)*c) ((n:Int) - (i:Nat)) c) where
 mem:=by simp
 obj:=fun i h st b hb=>by
  have e:b=it:=by simpa using hb
  subst e;exact ⟨_,st,fun v z=>by
   have z':Data.fields _=Data.cell v:=z;cases z'⟩
 keep:=fun i h h' st k=>k it (by simp) _ st
 item:=by
  intro X hP hw hK hc i ag s σ H E I hf st hg;subst hP hw hK;obtain ⟨f0,f1,f2,f3,f4,f5⟩:=hf it (by simp);have W:=Walks.range (prog:=X.prog) (w:=X.w) (I.ok.hd hc) it lo c n;refine bh I.tk (W.item i s _ _ hg st fun v h' tk hv st' kk htk=>?_);obtain ⟨t,rfl⟩:=hv;have I1:Inv X ag σ H { s with heap:=h',toks:=tk }:=I.turned (fun b o hb e=>kk b o (by simpa using hb) e) f0 f1 f3 f4 f5;exact ⟨_,rfl,yQ (s:={ s with heap:=h',toks:=tk }) (n:="range_iterator") st' rfl rfl (by decide) ⟨.int (lo+(i:Nat)*c),H,I1,⟨t,rfl⟩,⟨rfl,rfl⟩,st',fun b hb=>(hf b hb).1⟩⟩
 done:=by
  intro X hP hw hK hc i ag s σ H E I hf st hg;subst hP hw hK;obtain ⟨f0,f1,f2,f3,f4,f5⟩:=hf it (by simp);exact wpAny_pyNext_range_end (I.ok.hd hc) st (by have:n<=i:=hg;omega) fun h' eb=>⟨rfl,I.turned (t':=s.toks) (fun b o hb e=>eb b o hb e) f0 f1 f3 f4 f5⟩
 self:=fun _ _ _ _ _ st h=>wpAny_pyIter_rangeiter st h
def nK (lo hi c:Int):Nat:=(Builtin.Range.rangeSize lo hi c).toNat
def CA {lo hi c:Int} (hc:0 < c):((nK lo hi c:Nat):Int)=Builtin.Range.rangeSize lo hi c:=by
 unfold nK
 have:0<=Builtin.Range.rangeSize lo hi c:=by
  unfold Builtin.Range.rangeSize;rw [if_pos hc];split
  ·have:=Int.ediv_nonneg (a:=hi - lo - 1) (b:=c) (by omega) (by omega)
   omega
  ·omega
 omega
section
variable {X:Cx} {tg:Expr} {W:Wd} {O:List Nat}
def zy {a b c:Int} (ha:-(2 ^ 40)<=a) (ha':a < 2 ^ 40) (hb:-(2 ^ 40)<=b) (hb':b < 2 ^ 40) (hc:0 < c) (hc':c<=1000):Builtin.Range.small a b c=true:=by
 unfold Builtin.Range.small Builtin.Range.rangeSize;simp only [Builtin.Range.rangeFitsLong,Bool.and_eq_true,Bool.or_eq_true,decide_eq_true_eq,beq_iff_eq,if_pos hc];split
 ·have h1:=Int.ediv_nonneg (a:=b - a - 1) (b:=c) (by omega) (by omega);have h2:(b - a - 1)/c<=b - a - 1:=Int.ediv_le_self _ (by omega);omega
 ·omega
def Gw {ag:List (Addr×Obj)} {σ:St} {H:Hp} {s:Shared} {R:It->Hp->Prop} {E:Value->Shared->Prop} {lo hi c:Int} {t u v:Tok} {tk:Nat} (I:Inv X ag σ H s) (h1:-(2 ^ 40)<=lo) (h2:lo < 2 ^ 40) (h3:-(2 ^ 40)<=hi) (h4:hi < 2 ^ 40) (hc:0 < c) (hc':c<=1000)
  (q:R (QT lo c (nK lo hi c)) H) (ht:X.tn<=tk:=by walk_at "tok"):wpAny (model X.prog X.w) X.A (pyIter (.ref s.heap.objs.size)) (RI X ag σ tg R) E { s with heap:=s.heap.push { cls:=.type "range",data:=.fields #[.int lo t,.int hi u,.int c v] },toks:=tk }:=by
 refine wpAny_pyIter_range (IsRange.new ..) (zy h1 h2 h3 h4 hc hc') ?_;have I1:Inv X ag σ H { s with heap:=s.heap.push { cls:=.type "range",data:=.fields #[.int lo t,.int hi u,.int c v] },toks:=tk }:=I.kept fun b o e=>Heap.get?_push_of_some _ e;refine ⟨(s.heap.push { cls:=.type "range",data:=.fields #[.int lo t,.int hi u,.int c v] }).objs.size,[(s.heap.push { cls:=.type "range",data:=.fields #[.int lo t,.int hi u,.int c v] }).objs.size],_,_,H,rfl,
  I1.kept (t':=tk) fun b o e=>Heap.get?_push_of_some _ e,Cn _ lo c (nK lo hi c),?_,fun b hb=>?_,q⟩
 ·have e1:lo+((0:Nat):Int)*c=lo:=by simp
  have e2:((nK lo hi c:Nat):Int) - ((0:Nat):Int)=Builtin.Range.rangeSize lo hi c:=by rw [CA hc];simp
  show IsRangeIter _ _ (lo+((0:Nat):Int)*c) (((nK lo hi c:Nat):Int) - ((0:Nat):Int)) c;rw [e1,e2];exact Heap.get?_push_size _ rfl
 ·have e:b=(s.heap.push { cls:=.type "range",data:=.fields #[.int lo t,.int hi u,.int c v] }).objs.size:=by simpa using hb
  subst e;exact I1.fpOk (Nat.le_refl _) (I1.hok.fresh (Nat.le_refl _))
def Qn (ta:TA):TI:=fun σ H R=>ta σ H fun vs H1=>∃ i j c:Int,vs=[.int i,.int j,.int c]/\(-(2 ^ 40)<=i/\i < 2 ^ 40/\-(2 ^ 40)<=j/\j < 2 ^ 40/\0 < c/\c<=1000)/\R (QT i c (nK i j c)) H1
def Cp {a b c:Expr} {ta:TA} {p pos:Pos} (hg:Gl X "range") (hm:X.mg "range"=none) (ha:PA X [a,b,c] ta) (h1:[a,b,c].all a8=true) :
  PI X tg (.Call (.Name "range" p) [a,b,c] [] pos) (Qn ta):=by
 intro ag s σ H R I h;have n1:a8 a=true:=by simp only [List.all_cons,Bool.and_eq_true] at h1;exact h1.1
 have n2:[b,c].all a8=true:=by simp only [List.all_cons,Bool.and_eq_true] at h1 ⊢;exact h1.2
 refine Call_ (nv I hg hm boot_range (PyProof.Rows.callWith_type1 (gH (ha pos ag s σ H _ I h) fun us s1 hh=>qK hh fun vs H1 I1 r1 q1=>?_) (eh n1) (iv n2)));obtain ⟨i,j,k,e,⟨q1,q2,q3,q4,q5,q6⟩,q⟩:=q1;subst e;cases r1 with
 | cons r rr =>
  cases rr with
  | cons r' rr =>
   cases rr with
   | cons r'' rr =>
    cases rr;obtain ⟨t,rfl⟩:=r;obtain ⟨t',rfl⟩:=r';obtain ⟨t'',rfl⟩:=r'';exact call_range_3 (by omega) (Gw I1 q1 q2 q3 q4 q5 q6 q) (.inl (PyProof.noPylong_small (by omega)))
def qi (lo c:Int) (n:Nat):List D:=(List.range n).map fun (k:Nat)=>D.int (lo+(k:Nat)*c)
def yo {K:PySem.W.Frag} {as0:List Addr} {B:Hp} (lo c:Int) (n:Nat):GivesD K as0 B (QT lo c n) (qi lo c n) where
 go:=fun i H _ hi=>by
  unfold qi at hi;rw [List.length_map,List.length_range] at hi;exact hi
 yl:=fun i H v H2 M _ _ _ hi ⟨e,h⟩=>by
  subst e;unfold qi at hi ⊢;rw [List.length_map,List.length_range] at hi;refine ⟨ax.refl _,.int (lo+(i:Nat)*c),?_,h⟩;rw [List.getElem?_map,List.getElem?_range hi];rfl
 stop:=fun H s=>by
  unfold qi;rw [List.length_map,List.length_range];exact Nat.le_refl _
def Em:List D->R (List D)
 | [.int i,.int j,.int c]=>if -(2 ^ 40)<=i/\i < 2 ^ 40/\-(2 ^ 40)<=j/\j < 2 ^ 40/\0 < c/\c<=1000 then .ok (qi i c (nK i j c)) else .no
 | _=>.no
def tP (α:FA):FA:=fun δ=>(α δ).bind Em
def J2 {α:FA} {δ:Sd}:tP α δ=(α δ).bind Em:=rfl
def Cq {a b c:Expr} {α:FA} {p pos:Pos} (hm:X.mg "range"=none) (ha:JA X [a,b,c] (AB W O α)) (hg:Gl X "range":=by rfl) (hn:[a,b,c].all a8=true:=by rfl):JI X tg (.Call (.Name "range" p) [a,b,c] [] pos) (iD W O (tP α)) :=
 (JI.mk (Cp hg hm ha.out hn)).imp fun σ H Q hh=>fT hh fun as0 B own δ I h =>
 ⟨as0,B,own,δ,I,nk h fun ds vs H' s dv h'=>by
  unfold Em at h';split at h'
  ·obtain ⟨v,r,rfl,d1,v2,r2,rfl,d2,v3,r3,rfl,d3,e⟩:=dv;cases d1;cases d2;cases d3;cases e;split at h'
   ·rename_i hj;exact ⟨_,_,_,rfl,hj,h' _ H' (ax.refl _) (yo _ _ _)⟩
   ·exact h'.elim
  ·exact h'.elim⟩
def D4 {body:List Stmt} {h₀:ExceptHandler} {hs:List ExceptHandler} {pos:Pos} {t:TS} (hb:zw X body t) (hx:∀ e s,X.xe e s->False):PS X (.Try body (h₀::hs) [] [] pos) t:=by
 intro ag s σ H D I h;refine wpAny_Try_except ?_;refine wpAny_mono (hb ag s σ H D I h) (fun f s1 h1=>?_) fun e s z=>(hx e s z).elim;cases f with
 | next=>exact wpAny_execs_nil h1
 | ret u=>exact h1
 | brk=>exact h1
 | cont=>exact h1
def Fr {Ob O':List Nat} {φ:FS} {body:List Stmt} {h₀:ExceptHandler} {hs:List ExceptHandler} {pos:Pos} (hb:JB X body (sD W Ob O O' φ)) (hx:∀ e s,X.xe e s->False:=by exact fun _ _ z=>z):JS X (.Try body (h₀::hs) [] [] pos) (sD W Ob O O' φ) :=
 ⟨D4 hb.out hx⟩
end
end L2
namespace L2
open PySem PySem.NumText
def dg (n:Nat):List Nat:=if h:n < 10 then [48+n] else dg (n/10)++[48+n % 10]
termination_by n
decreasing_by omega
def gm {n:Nat} (h:n < 10):dg n=[48+n]:=by rw [dg,dif_pos h]
def rf {n:Nat} (h:¬ n < 10):dg n=dg (n/10)++[48+n % 10]:=by rw [dg,dif_neg h]
def tU:∀ {d:Nat},d < 10->(Nat.digitChar d).toNat=48+d:=by decide
def rN:∀ (n:Nat),(Nat.toDigits 10 n).map Char.toNat=dg n:=by
 intro n;induction n using Nat.strongRecOn with
 | ind n ih =>
  by_cases h:n < 10
  ·rw [Nat.toDigits_of_lt_base h,gm h,List.map_cons,List.map_nil,tU h]
  ·rw [Nat.toDigits_of_base_le (by decide) (by omega),rf h,List.map_append,ih (n/10) (by omega),List.map_cons,List.map_nil,tU (by omega)]
def Gz (n:Nat):(Str.ofString (toString ((n:Nat):Int))).cps.toList=dg n:=by
 rw [Str.ofString_eq_toList];show List.map Char.toNat (String.ofList (Nat.toDigits 10 n)).toList=_;rw [String.toList_ofList,rN]
def Gk (n:Nat):(Str.ofString (toString (Int.negSucc n))).cps.toList=45::dg (n+1):=by
 rw [Str.ofString_eq_toList];show List.map Char.toNat ("-"++String.ofList (Nat.toDigits 10 (n+1))).toList=_;rw [String.toList_append,List.map_append];show [45]++List.map Char.toNat (String.ofList (Nat.toDigits 10 (n+1))).toList=_;rw [String.toList_ofList,rN];rfl
def fj (i:Int):List Nat:=if i < 0 then 45::dg i.natAbs else dg i.natAbs
def str_int (i:Int):(Str.ofString (toString i)).cps.toList=fj i:=by
 cases i with
 | ofNat n=>unfold fj;rw [if_neg (by simp)];exact Gz n
 | negSucc n=>unfold fj;rw [if_pos (Int.negSucc_lt_zero n)];exact Gk n
def iR:∀ {n c:Nat},c∈dg n->48<=c/\c<=57:=by
 intro n;induction n using Nat.strongRecOn with
 | ind n ih =>
  intro c hc;by_cases h:n < 10
  ·rw [gm h] at hc;simp at hc;omega
  ·rw [rf h] at hc;rcases List.mem_append.mp hc with z|z
   ·exact ih _ (by omega) z
   ·simp at z;omega
def yk (n:Nat):dg n≠[]:=by
 by_cases h:n < 10
 ·rw [gm h];simp
 ·rw [rf h];simp
def m5:∀ (k n:Nat),n < 10 ^ (k+1)->(dg n).length<=k+1
 | 0,n,h=>by rw [gm (by omega)];simp
 | k+1,n,h=>by
  by_cases q:n < 10
  ·rw [gm q];simp
  ·rw [rf q]
   have:=m5 k (n/10) (by rw [Nat.pow_succ] at h;omega)
   simp;omega
def BR:∀ (n:Nat),0 < n->∃ c r,dg n=c::r/\c≠48:=by
 intro n;induction n using Nat.strongRecOn with
 | ind n ih =>
  intro h0;by_cases h:n < 10
  ·exact ⟨48+n,[],gm h,by omega⟩
  ·obtain ⟨c,r,e,hc⟩:=ih (n/10) (by omega) (by omega);exact ⟨c,r++[48+n % 10],by rw [rf h,e];rfl,hc⟩
def AW:∀ (n:Nat),digitsVal (dg n)=n:=by
 intro n;induction n using Nat.strongRecOn with
 | ind n ih =>
  by_cases h:n < 10
  ·rw [gm h];unfold digitsVal;simp
  ·rw [rf h];unfold digitsVal;rw [List.foldl_append];have e:=ih (n/10) (by omega);unfold digitsVal at e;rw [e];simp;omega
def tL {i:Int} {c:Nat} (h:c∈fj i):45<=c/\c<=57:=by
 unfold fj at h;split at h
 ·rcases List.mem_cons.mp h with z|z
  ·omega
  ·have:=iR z;omega
 ·have:=iR h;omega
def xY {s:Str} {i:Int} (h:s.cps.toList=fj i) (hi:i.natAbs < 10 ^ 30):intText? s=some i:=by
 have hk:(dg i.natAbs).length<=30:=m5 29 _ hi;have hs:s.length=s.cps.toList.length:=by simp [Str.length]
 by_cases hn:i < 0
 ·unfold fj at h;rw [if_pos hn] at h;rw [intText_neg h (fun c hc=>iR hc) (yk _) (by rw [hs,h,List.length_cons];omega),AW];congr 1;omega
 ·unfold fj at h;rw [if_neg hn] at h;rw [intText_digits (by rw [h];exact fun c hc=>iR hc) (by rw [h];exact yk _) (by rw [hs,h];omega),h,AW];congr 1;omega
end L2
namespace L2
def lv:List Nat->List Nat
 | []=>[]
 | c::r=>if c=34 then 34::34::lv r else c::lv r
def A5:∀ (L:List Nat),sI [34] [34,34] 0 L=lv L
 | []=>rfl
 | c::r=>by
  rw [sI,lv];show (if [c]=[34] then [34,34]++sI [34] [34,34] 0 r else c::sI [34] [34,34] 0 r)=_;rw [A5 r];by_cases h:c=34
  ·rw [if_pos (by rw [h]),if_pos h];rfl
  ·rw [if_neg (by simpa using h),if_neg h]
def nG (w:List Nat):List Nat->List Nat
 | []=>[]
 | c::r=>if c=34 then w++nG w r else c::nG w r
def oq (w:List Nat):∀ (L:List Nat),sI [34,34] w 0 (lv L)=nG w L
 | []=>rfl
 | c::r=>by
  rw [lv,nG];by_cases h:c=34
  ·rw [if_pos h,if_pos h,sI];show (if (34::34::lv r).take 2=[34,34] then w++sI [34,34] w 1 (34::lv r) else _)=_;rw [if_pos (show (34::34::lv r).take 2=[34,34] from rfl)];show w++sI [34,34] w 0 (lv r)=_;rw [oq w r]
  ·rw [if_neg h,if_neg h,sI,if_neg (fun e=>by
    cases hd:lv r with
    | nil=>rw [hd] at e;simp at e
    | cons a b=>rw [hd] at e;simp at e;exact h e.1),oq w r]
def tI:∀ (L:List Nat),nG [34] L=L
 | []=>rfl
 | c::r=>by
  rw [nG];by_cases h:c=34
  ·rw [if_pos h,tI r,h];rfl
  ·rw [if_neg h,tI r]
def tZ:∀ (L:List Nat),34∉nG [] L
 | []=>by simp [nG]
 | c::r=>by
  rw [nG];by_cases h:c=34
  ·rw [if_pos h];exact tZ r
  ·rw [if_neg h];intro z;rcases List.mem_cons.mp z with z|z
   ·exact h z.symm
   ·exact tZ r z
def sV:∀ (L:List Nat),(lv L).length<=2*L.length
 | []=>by simp [lv]
 | c::r=>by
  rw [lv]
  have:=sV r
  split <;> simp <;> omega
def qw:List Nat->Bool->List Nat->List (List Nat)
 | cur,b,[]=>[cur]
 | cur,b,c::r=>if c=32/\(if c=34 then !b else b)=false then cur::qw [] (if c=34 then !b else b) r else qw (cur++[c]) (if c=34 then !b else b) r
def quiet:Bool->List Nat->Option Bool
 | b,[]=>some b
 | b,c::r=>if c=32/\(if c=34 then !b else b)=false then none else quiet (if c=34 then !b else b) r
def re:∀ (w cur rest:List Nat) (b b':Bool),quiet b w=some b'->qw cur b (w++rest)=qw (cur++w) b' rest
 | [],cur,rest,b,b',h=>by simp [quiet] at h;subst h;simp
 | c::r,cur,rest,b,b',h=>by
  rw [quiet] at h;show qw cur b (c::(r++rest))=_;rw [qw];by_cases q:c=32/\(if c=34 then !b else b)=false
  ·rw [if_pos q] at h;cases h
  ·rw [if_neg q] at h;rw [if_neg q,re r (cur++[c]) rest _ b' h];simp
def av:List (List Nat)->List Nat
 | []=>[]
 | [w]=>w
 | w::w'::ws=>w++32::av (w'::ws)
def zi:∀ (w:List Nat) (ws:List (List Nat)),(∀ x∈w::ws,quiet false x=some false)->qw [] false (av (w::ws))=w::ws
 | w,[],h=>by
  have e:=re w [] [] false false (h w (by simp));simp at e;show qw [] false w=_;rw [e];rfl
 | w,w'::ws,h=>by
  show qw [] false (w++32::av (w'::ws))=_;rw [re w [] _ false false (h w (by simp)),qw];simp only [List.nil_append];rw [if_pos (by simp)];simp only [show ¬ (32=34) by decide,if_false];rw [zi w' ws fun x hx=>h x (List.mem_cons_of_mem _ hx)]
def rT:∀ {w:List Nat},(∀ c∈w,c≠34/\c≠32)->∀ b,quiet b w=some b
 | [],_,_=>rfl
 | c::r,h,b=>by
  have hc:=h c (by simp);rw [quiet,if_neg (fun z=>hc.2 z.1),if_neg hc.1];exact rT (fun x hx=>h x (List.mem_cons_of_mem _ hx)) b
def qU:∀ (L:List Nat) (rest:List Nat),quiet true (lv L++rest)=quiet true rest
 | [],rest=>rfl
 | c::r,rest=>by
  rw [lv];by_cases h:c=34
  ·rw [if_pos h];show quiet true (34::34::(lv r++rest))=_;rw [quiet,quiet];simp;exact qU r rest
  ·rw [if_neg h];show quiet true (c::(lv r++rest))=_;rw [quiet,if_neg h];simp;exact qU r rest
def zY (L:List Nat):quiet false (34::(lv L++[34]))=some false:=by
 rw [quiet];simp;rw [qU];rfl
end L2
namespace L2
open PySem PySem.Builtin PySem.Builtin.Str
def qW:∀ (w w' r r':List Nat),32∉w->32∉w'->w++32::r=w'++32::r'->w=w'/\r=r'
 | [],[],r,r',_,_,h=>by simpa using h
 | [],c::w',r,r',_,h',h=>by
  simp at h;exact absurd (by simp [<- h.1]) h'
 | c::w,[],r,r',hw,_,h=>by
  simp at h;exact absurd (by simp [h.1]) hw
 | c::w,d::w',r,r',hw,hw',h=>by
  simp only [List.cons_append,List.cons.injEq] at h;obtain ⟨h1,h2⟩:=qW w w' r r' (fun z=>hw (List.mem_cons_of_mem _ z)) (fun z=>hw' (List.mem_cons_of_mem _ z)) h.2;exact ⟨by rw [h.1,h1],h2⟩
def jV (w:List Nat) (ws:List (List Nat)) (h:ws≠[]):av (w::ws)=w++32::av ws:=by
 cases ws with
 | nil=>exact absurd rfl h
 | cons _ _=>rfl
def tq {w x r:List Nat} (hw:32∉w) (h:w=x++32::r):False:=hw (by rw [h];simp)
def vN:∀ (ws ws':List (List Nat)),(∀ w∈ws,32∉w)->(∀ w∈ws',32∉w)->ws≠[]->ws'≠[]->av ws=av ws'->ws=ws'
 | [],_,_,_,h,_,_=>absurd rfl h
 | _,[],_,_,_,h,_=>absurd rfl h
 | [w],[w'],_,_,_,_,h=>by
  have:w=w':=h
  rw [this]
 | [w],w'::v::r,h1,_,_,_,h=>by
  have:w=w'++32::av (v::r):=h
  exact (tq (h1 w (by simp)) this).elim
 | w::v::r,[w'],_,h2,_,_,h=>by
  have:w++32::av (v::r)=w':=h
  exact (tq (h2 w' (by simp)) this.symm).elim
 | w::v::r,w'::v'::r',h1,h2,_,_,h=>by
  have h:w++32::av (v::r)=w'++32::av (v'::r'):=h;obtain ⟨e1,e2⟩:=qW _ _ _ _ (h1 w (by simp)) (h2 w' (by simp)) h
  have:=vN (v::r) (v'::r') (fun x hx=>h1 x (List.mem_cons_of_mem _ hx)) (fun x hx=>h2 x (List.mem_cons_of_mem _ hx)) (by simp) (by simp) e2
  rw [e1,this]
abbrev gU:Str:=⟨#[32]⟩
def t4:∀ (ps:List Str),(Str.join gU ps).cps.toList=av (ps.map fun p=>p.cps.toList)
 | []=>rfl
 | [p]=>rfl
 | p::q::r=>by
  have ih:=t4 (q::r);show ((p++gU++Str.join gU (q::r)):Str).cps.toList=p.cps.toList++32::av ((q::r).map fun p=>p.cps.toList);rw [<- ih];have e:∀ a b:Str,(a++b).cps.toList=a.cps.toList++b.cps.toList:=fun a b=>by
   show (a.cps++b.cps).toList=_;simp
  rw [e,e];simp
def uf (z y:Str):Txt.split z y≠[]:=by
 unfold Txt.split;split
 ·simp
 ·split
  ·simp
  ·intro h
   have:=congrArg List.length h
   rw [length_partsBetween] at this;simp at this
def sj (z:Str):av ((Txt.split z gU).map fun p=>p.cps.toList)=z.cps.toList:=by
 rw [<- t4,StrLaws.join_split]
def yq (z:Str):∀ w∈(Txt.split z gU).map fun p=>p.cps.toList,32∉w:=fun w hw=>by
 obtain ⟨p,hp,rfl⟩:=List.mem_map.mp hw;exact StrLaws.split_free z 32 p hp
def yG {z:Str} {ws:List (List Nat)} (h:z.cps.toList=av ws) (h0:ws≠[]) (hn:∀ w∈ws,32∉w):((Txt.split z gU).map fun p=>p.cps.toList)=ws :=
 vN _ _ (yq z) hn (by simpa using uf z gU) h0 ((sj z).trans h)
def yN {z:Str} {w r:List Nat} (h:z.cps.toList=w++32::r) (hw:32∉w):∃ ps,((Txt.split z gU).map fun p=>p.cps.toList)=w::ps/\ps≠[]:=by
 have h1:=sj z;have h2:=yq z;have h3:((Txt.split z gU).map fun p=>p.cps.toList)≠[]:=by simpa using uf z gU
 generalize ((Txt.split z gU).map fun p=>p.cps.toList)=ps at h1 h2 h3;cases ps with
 | nil=>exact absurd rfl h3
 | cons p ps =>
  cases ps with
  | nil =>
   have:p=w++32::r:=h1.trans h
   exact (tq (h2 p (by simp)) this).elim
  | cons q qs =>
   have h1:p++32::av (q::qs)=w++32::r:=h1.trans h;obtain ⟨e1,_⟩:=qW _ _ _ _ (h2 p (by simp)) hw h1;exact ⟨q::qs,by rw [e1],by simp⟩
def zM {z:Str} {w r:List Nat} (h:z.cps.toList=w++32::r) (hw:32∉w) :
  (Txt.partition z gU).1.cps.toList=w/\(Txt.partition z gU).2.1=gU/\(Txt.partition z gU).2.2.cps.toList=r:=by
 have hz:z.length=w.length+1+r.length:=by
  have:z.cps.toList.length=z.length:=by simp [Str.length]
  rw [<- this,h];simp;omega
 have hi:(StrLaws.At z gU z.length w.length):=(StrLaws.subAt_one z 32 w.length).mpr (by rw [h];simp);rcases StrLaws.occ_head z gU 1 (Nat.le_refl 1) with ⟨_,h2⟩|⟨i,q,e,h2,h3⟩
 ·exact (h2 _ hi).elim
 ·have e2:i=w.length:=by
   rcases Nat.lt_trichotomy i w.length with hlt|heq|hgt
   ·have:=(StrLaws.subAt_one z 32 i).mp h2
    rw [h,List.getElem?_append_left hlt] at this;exact absurd (List.mem_of_getElem? this) hw
   ·exact heq
   ·exact (h3 _ hgt hi).elim
  subst e2;unfold Txt.partition;rw [e];refine ⟨?_,rfl,?_⟩
  ·show (strSub z 0 w.length).cps.toList=w;rw [StrLaws.strSub_toList,h];simp
  ·show (strSub z (w.length+1) z.length).cps.toList=r;rw [StrLaws.strSub_toList,h,hz]
   have:(w++32::r).drop (w.length+1)=r:=by
    rw [List.drop_append];simp
   rw [this];exact List.take_of_length_le (by omega)
end L2
namespace L2
open PySem PySem.Spec PyProof.Rows PySem.Builtin PySem.Builtin.Str
section
variable {X:Cx} {W:Wd}
def QX (x:Str) (i:Int):Str:=if i<=x.length then x else zfilled x (i.toNat - x.length)
def Q7 (z:Str) (xs:List V) (H:Hp) (Q:VK):Prop:=match xs with
 | [.int i]=>(0<=i/\i<=1000)/\Q (.str (QX z i)) H
 | _=>False
def EC:DU X "str.zfill" Q7:=by
 intro ag s σ H z t xs us Q I r h;unfold Q7 at h;split at h
 ·rename_i i;obtain ⟨u,rfl,t',rfl⟩:=fY r;obtain ⟨hb,q⟩:=h;have hr:(decide (i < -(2 ^ 63:Int))||decide (i ≥ 2 ^ 63))=false:=by
   rw [Bool.or_eq_false_iff,decide_eq_false_iff_not,decide_eq_false_iff_not];omega
  have hl:Builtin.Str.tooLong i.toNat=false:=by
   unfold Builtin.Str.tooLong;rw [sizeLine_eq];exact decide_eq_false (by omega)
  refine call_gives PySem.F.slot_str_zfill (typeIs_str _ _ _) PySem.F.entry_str_zfill (PySem.F.args_str_zfill_2 _ _) (gives_str_zfill z i t t' hr hl) ?_;unfold QX at q;by_cases hc:i<=z.length
  ·rw [if_pos hc] at q ⊢;exact ⟨.str _,H,I,⟨_,rfl⟩,q⟩
  ·rw [if_neg hc] at q ⊢;exact ⟨fits_zfilled hl hc,.str _,H,I.tok _,⟨_,rfl⟩,q⟩
 ·exact h.elim
def NP (z:Str) (ds:List D):R D:=match ds with
 | [.int i]=>if 0<=i/\i<=1000 then .ok (.str (QX z i)) else .no
 | _=>.no
def pZf:GB W Q7 NP:=by
 intro as H z xs ds Q hn dv h;unfold NP at h;split at h
 ·obtain ⟨v,rfl,d1⟩:=dM dv;cases d1;split at h
  ·rename_i hl;exact ⟨hl,aN h rfl⟩
  ·exact h.elim
 ·exact h.elim
end
end L2
namespace L2
open PySem PySem.Spec PyProof.Rows
structure GI (K:PySem.W.Frag) (as0:List Addr) (B:Hp) (i:Nat) (p q:Addr) (ds es:List D) (σ:St) (δ:Sd) (H:Hp):Prop where
 len:δ.length=σ.length
 var:∀ (k:Nat) (d:D),δ[k]?=some (some d)->∃ v,σ[k]?=some (some v)/\dR K (aG (p::q::as0) H) d v
 hi:σ[i]?=some (some (.ref p))
 bs:ax B H
 bp:B p=none
 bq:B q=none
 pq:p≠q
 ex:∀ a∈as0,B a≠none
 hp:∃ vs,H p=some (.lst (vs++[.ref q]))/\aJ K (aG (p::q::as0) H) ds vs
 hq:∃ ws,H q=some (.lst ws)/\aJ K (aG (p::q::as0) H) es ws
section
variable {K:PySem.W.Frag} {as0:List Addr} {B H H':Hp} {i k:Nat} {p q:Addr} {ds es:List D} {σ:St} {δ:Sd} {d:D} {v:V}
def GI.exi (g:GI K as0 B i p q ds es σ δ H):∀ a∈p::q::as0,H a≠none:=fun a ha=>by
 obtain ⟨vs,e1,_⟩:=g.hp;obtain ⟨ws,e2,_⟩:=g.hq;rcases List.mem_cons.mp ha with rfl|ha
 ·rw [e1];simp
 ·rcases List.mem_cons.mp ha with rfl|ha
  ·rw [e2];simp
  ·cases e:B a with
   | none=>exact absurd e (g.ex a ha)
   | some o=>rw [g.bs a o e];simp
def GI.di (g:GI K as0 B i p q ds es σ δ H):DI K (p::q::as0) H [] [] σ δ H:=DI.plain g.len g.exi g.var
def GI.mono (g:GI K as0 B i p q ds es σ δ H) (s:ax H H'):GI K as0 B i p q ds es σ δ H' :=
 ⟨g.len,fun k d e=>let ⟨v,h1,h2⟩:=g.var k d e;⟨v,h1,h2.mono (aP s)⟩,g.hi,g.bs.trans s,g.bp,g.bq,g.pq,g.ex,let ⟨vs,h1,h2⟩:=g.hp;⟨vs,s _ _ h1,h2.mono (aP s)⟩,let ⟨vs,h1,h2⟩:=g.hq;⟨vs,s _ _ h1,h2.mono (aP s)⟩⟩
def GI.set (g:GI K as0 B i p q ds es σ δ H) (hk:k≠i) (dv:dR K (aG (p::q::as0) H) d v):GI K as0 B i p q ds es (σ.set k (some v)) (δ.set k (some d)) H :=
 let I:=g.di.set (W:=⟨K,fun _=>none,E0⟩) (i:=k) (by simp) dv
 ⟨I.len,fun j e q=>I.var j e (by simp) q,by rw [getElem?_set',if_neg hk];exact g.hi,g.bs,g.bp,g.bq,g.pq,g.ex,g.hp,g.hq⟩
def ly {o:HO} {a:Addr} (h:ax B H) (hb:B a=none):ax B (cQ H a o):=fun b u e=>by rw [bf (bP e hb)];exact h b u e
def GI.push (g:GI K as0 B i p q ds es σ δ H) (dv:dR K (aG (p::q::as0) H) d v) {ws:List V} (hw:H q=some (.lst ws)):GI K as0 B i p q ds (es++[d]) σ δ (cQ H q (.lst (ws++[v]))):=by
 have hm:q∈p::q::as0:=by simp
 obtain ⟨vs,h1,h2⟩:=g.hp;obtain ⟨ws',h3,h4⟩:=g.hq;rw [hw] at h3;cases h3;exact ⟨g.len,by rw [nQ hm];exact g.var,g.hi,ly g.bs g.bq,g.bp,g.bq,g.pq,g.ex,⟨vs,by rw [bf g.pq];exact h1,by rw [nQ hm];exact h2⟩,⟨_,aZ,by rw [nQ hm];exact h4.append (aJ.cons dv aJ.nil)⟩⟩
theorem GI.off (g:GI K as0 B i p q ds es σ δ H):p∉as0/\q∉as0:=⟨fun z=>g.ex p z g.bp,fun z=>g.ex q z g.bq⟩
def GI.next (g:GI K as0 B i p q ds es σ δ H) {r:Addr} (hr:H r=none) {xs:List V} (hx:H p=some (.lst xs)):GI K as0 B i p r (ds++[.lst es]) [] σ δ (cQ (cQ H r (.lst [])) p (.lst (xs++[.ref r]))):=by
 obtain ⟨vs,h1,h2⟩:=g.hp;obtain ⟨ws,h3,h4⟩:=g.hq;rw [h1] at hx;cases hx;have hpr:p≠r:=fun z=>by rw [z,hr] at h1;cases h1
 have hqr:q≠r:=fun z=>by rw [z,hr] at h3;cases h3
 have s:ax (aG (p::q::as0) H) (aG (p::r::as0) (cQ (cQ H r (.lst [])) p (.lst (vs++[.ref q]++[.ref r])))):=fun b o e=>by
  by_cases hb:b∈p::q::as0
  ·rw [dI hb] at e;cases e
  ·rw [aV hb] at e;have hbr:b≠r:=fun z=>by rw [z,hr] at e;cases e
   simp only [List.mem_cons,not_or] at hb;rw [aV (by simp [hb.1,hb.2.2,hbr]),bf hb.1,bf hbr];exact e
 have eq:(cQ (cQ H r (.lst [])) p (.lst (vs++[.ref q]++[.ref r]))) q=some (.lst ws):=by rw [bf (Ne.symm g.pq),bf hqr];exact h3
 refine ⟨g.len,fun k d e=>let ⟨v,a1,a2⟩:=g.var k d e;⟨v,a1,a2.mono s⟩,g.hi,ly (ly g.bs ?_) g.bp,g.bp,?_,hpr,g.ex,⟨_,aZ,(h2.mono s).append (aJ.cons ⟨q,ws,rfl,.inl (.inl ?_),h4.mono s⟩ aJ.nil)⟩,⟨[],by rw [bf (Ne.symm hpr)];exact aZ,rfl⟩⟩
 ·exact g.bs.free hr
 ·exact g.bs.free hr
 ·rw [aV (by simp [Ne.symm g.pq,hqr,g.off.2])];exact eq
def GI.done (g:GI K as0 B i p q ds es σ δ H):DI K as0 B [] [] σ (δ.set i (some (.lst (ds++[.lst es])))) H:=by
 obtain ⟨vs,h1,h2⟩:=g.hp;obtain ⟨ws,h3,h4⟩:=g.hq;have s:ax (aG (p::q::as0) H) (aG as0 H):=gf fun a ha=>List.mem_cons_of_mem _ (List.mem_cons_of_mem _ ha);refine ⟨by simp [g.len],rfl,List.nodup_nil,List.nodup_nil,fun a ha=>(nomatch ha),g.ex,g.bs,fun k e _ r=>?_,fun j a h=>(by simp at h)⟩
 rw [getElem?_set'] at r;split at r
 ·rename_i hk;subst hk;split at r
  ·cases r;exact ⟨_,g.hi,p,_,rfl,.inl (.inl (by rw [List.nil_append,aV g.off.1];exact h1)),(h2.mono s).append (aJ.cons ⟨q,ws,rfl,.inl (.inl (by rw [aV g.off.2];exact h3)),h4.mono s⟩ aJ.nil)⟩
  ·cases r
 ·obtain ⟨v,a1,a2⟩:=g.var k e r;exact ⟨v,a1,a2.mono s⟩
end
def tG (τ:FT) (es ds:List D) (d:D) (go:Sd->List D->List D->R Fl):FS:=fun δ=>if es.length < 999999/\ds.length < 999999 then (τ δ).bind fun c=>if c=true then go δ (ds++[.lst (es++[d])]) [] else go δ ds (es++[d]) else .no
def zu (i a b j:Nat) (ε ε2:FE) (τ:FT):List D->Sd->List D->List D->R Fl
 | [],δ,ds,es=>.ok (.nx (δ.set i (some (.lst (ds++[.lst es])))))
 | x::r,δ,ds,es=>(gK (.tup [a,b]) x δ).bind fun δ1=>(ε δ1).bind fun d=>(ε2 (δ1.set j (some d))).bind fun d2=>tG τ es ds d2 (zu i a b j ε ε2 τ r) (δ1.set j (some d))
def wq (i a b j:Nat) (ι:FA) (ε ε2:FE) (τ:FT):FS:=fun δ=>if i < δ.length then (ι (δ.set i none)).bind fun xs=>zu i a b j ε ε2 τ xs (δ.set i none) [] [] else .no
section
variable {X:Cx} {W:Wd} {Ob O2:List Nat} {x y:Str} {i a b j:Nat} {tg iter e1 em e2 c:Expr} {ι:FA} {ε ε2:FE} {τ:FT} {ψ:FS} {rest:List Stmt} {p1 p2 p3 p4 p5 p6 p7 p8 p9 q1 q2 q3 q4 q5 q6 q7 q8 fp ip:Pos}
def Fx (K:PySem.W.Frag) (hp:PassesOwn (model X.prog X.w) X.A X.env X.xe) (hN:X.N.Nodup) (hx:zg X.env.scope x) (hy:zg X.env.scope y) (hi:JI X tg iter (iD W [] ι)) (hg:JG X tg (LZ K 2 (A3 (i6 a) (A3 (i6 b) J5)))) (h1:JE X e1 (tD W [] ε)) (hm:JE X em (tD W [] (vC (.int (-1))))) (h2:JE X e2 (tD W [] ε2)) (hc:JT X c (oE W [] τ)) (hr:JB X rest (sD W Ob [] O2 ψ))
  (hai:a≠i:=by decide) (hbi:b≠i:=by decide) (hji:j≠i:=by decide) (hXi:X.N[i]?=some x:=by rfl) (hXj:X.N[j]?=some y:=by rfl) (hv:zv X.env.scope x:=by first|exact Or.inl rfl|exact Or.inr (Or.inl rfl)|exact Or.inr (Or.inr rfl)) (hd:(x==("__debug__":Str))=false:=by decide) (hcd:(x==("__classdict__":Str))=false:=by decide)
  (hf:X.fn x=true\/X.env.scope.names.lookup x=some .local:=by first|exact .inl rfl|exact .inr rfl|assumption) (hfy:X.fn y=true\/X.env.scope.names.lookup y=some .local:=by first|exact .inl rfl|exact .inr rfl|assumption)
  (hs0:swapsWith (.List [.List [] p2] p3) (some (.Name x p1)) p4.line X.env=pure false:=by rfl) (hs1:swapsWith e1 (some (.Name y p5)) p6.line X.env=pure false:=by rfl) (hn2:a8 e2=true:=by rfl) (hix:on em:=by exact fun _ _=>rfl)
  (hl1:(p9.endLine==q1.line)=true:=by rfl) (hl2:(q4.endLine==q5.line)=true:=by rfl) (hba:attributeBase (.Subscript (.Name x p7) em p8) "append" X.env (eval (.Subscript (.Name x p7) em p8) X.env)=eval (.Subscript (.Name x p7) em p8) X.env:=by rfl) (hbb:attributeBase (.Name x q3) "append" X.env (eval (.Name x q3) X.env)=eval (.Name x q3) X.env:=by rfl)
  (hsa:swapsWith (.Call (.Attribute (.Subscript (.Name x p7) em p8) "append" p9) [e2] [] q1) none q2.line X.env=pure false:=by rfl) (hsb:swapsWith (.Call (.Attribute (.Name x q3) "append" q4) [.List [] q6] [] q5) none q7.line X.env=pure false:=by rfl)
  (hK:X.K=K:=by rfl) (hW:W.K=K:=by rfl) (hcm:X.calm=true:=by rfl) (hsi:∀ x,foldedSetIterable iter X.env x=pure x:=by intro _;rfl) :
  JB X (.Assign [.Name x p1] (.List [.List [] p2] p3) p4::.For tg iter [.Assign [.Name y p5] e1 p6,.Expr (.Call (.Attribute (.Subscript (.Name x p7) em p8) "append" p9) [e2] [] q1) q2,.If c [.Expr (.Call (.Attribute (.Name x q3) "append" q4) [.List [] q6] [] q5) q7] [] ip] [] fp::rest) (sD W Ob [] O2 (aw (wq i a b j ι ε ε2 τ) ψ)):=by
 subst hK;have hW':X.K=W.K:=hW.symm;refine JB.imp (gd (qS hN hx (y6 (gt (y6 iU) iU)) hXi hs0 hf) (gd (zR hp hi hg (gd (qS hN hy h1 hXj hs1 hfy) (gd (ql (En PySem.F.plainAttrs_list PySem.F.slot_list_append PySem.F.type_list_append lj (Hg (dU X.K) (jv i hXi hv hd hcd) hm hix) (gt h2 iU hn2) hba hl1 (by rw [List.all_cons,hn2];rfl) (by show 1 < 29;decide)) hsa)
  (pz (yX hc (pz (ql (En PySem.F.plainAttrs_list PySem.F.slot_list_append PySem.F.type_list_append lj (jv i hXi hv hd hcd) (gt (y6 iU) iU) hbb hl2 rfl (by show 1 < 29;decide)) hsb)) ub)))) hcm hsi) hr)) fun D' σ H hh=>fT hh fun as0 B own δ I h=>?_
 have eown:own=[]:=List.eq_nil_of_length_eq_zero I.olen;subst eown;unfold aw wq at h;by_cases hil:i < δ.length
 case neg=>rw [if_neg hil] at h;exact h.elim
 rw [if_pos hil] at h;refine ⟨Nat.zero_le _,fun q hq=>⟨by have:=c9;show 1<=sizeLine;omega,fun p hpn=>?_⟩⟩;have h1n:=c9;have hpq:p≠q:=fun z=>by rw [z,aZ] at hpn;cases hpn
 have hpH:H p=none:=by rw [bf hpq] at hpn;exact hpn
 have s2:ax H (cQ (cQ H q (.lst [])) p (.lst [.ref q])):=(aU hq _).trans (aU hpn _);have sm:ax (aG as0 H) (aG (p::q::as0) (cQ (cQ H q (.lst [])) p (.lst [.ref q]))):=(jI hq (aU hq _)).trans (jI hpn (aU hpn _));have g0:GI W.K as0 B i p q [] [] (σ.set i (some (.ref p))) (δ.set i none) (cQ (cQ H q (.lst [])) p (.lst [.ref q])):=by
  refine ⟨by simp [I.len],fun k d e=>?_,by rw [getElem?_set',if_pos rfl,if_pos (by rw [<- I.len];exact hil)],I.same.trans s2,I.same.free hpH,I.same.free hq,hpq,I.ex0,⟨[],aZ,rfl⟩,⟨[],by rw [bf (Ne.symm hpq)];exact aZ,rfl⟩⟩;rw [getElem?_set'] at e ⊢;split at e
  ·first|cases e|(split at e <;> cases e)
  ·rename_i hk;rw [if_neg hk];obtain ⟨v,a1,a2⟩:=I.var k d (by simp) e;exact ⟨v,a1,a2.mono sm⟩
 show Ey (Eh (iD W [] ι) _ _) _ D' (σ.set i (some (.ref p))) (cQ (cQ H q (.lst [])) p (.lst [.ref q]));generalize (cQ (cQ H q (.lst [])) p (.lst [.ref q]))=H2 at g0;generalize σ.set i (some (.ref p))=σ2 at g0;generalize δ.set i none=δ2 at g0 h;clear hpn hpH s2 sm hq I hil;refine ⟨p::q::as0,H2,[],δ2,g0.di,?_⟩;cases hι:ι δ2 with
 | er z=>rw [hι] at h;exact fun e C H' s=>h e C H' (g0.bs.trans s)
 | no=>rw [hι] at h;exact h
 | ok xs =>
 rw [hι] at h;intro J H3 s3 G;have g3:=g0.mono s3;refine ⟨fun n m σ' H'=>m=xs.length - n/\n<=xs.length/\∃ q' δ' ds es,GI W.K as0 B i p q' ds es σ' δ' H'/\ax (aG (p::q::as0) H3) H'/\aG (p::q::as0) H3 q'=none/\cr W as0 B Ob O2 ((zu i a b j ε ε2 τ (xs.drop n) δ' ds es).bind fun f=>match f with|.nx δ'=>ψ δ'|f=>.ok f) D',
  ⟨xs.length,by simp,Nat.zero_le _,q,δ2,[],[],g3,aD _ _,dI (by simp),by rw [List.drop_zero];exact h⟩,?_⟩
 rintro n m σ4 H4 ⟨rfl,hn,q4,δ4,ds,es,g4,sG,hq4,h4⟩;by_cases hlt:n < xs.length
 ·refine .inr ⟨G.go n H4 sG hlt,fun σ' H'=>∃ q' δ' ds es,GI W.K as0 B i p q' ds es σ' δ' H'/\ax (aG (p::q::as0) H3) H'/\aG (p::q::as0) H3 q'=none/\cr W as0 B Ob O2 ((zu i a b j ε ε2 τ (xs.drop (n+1)) δ' ds es).bind fun f=>match f with|.nx δ'=>ψ δ'|f=>.ok f) D',
   fun σ' H' z=>⟨xs.length - (n+1),by omega,rfl,hlt,z⟩,fun v H5 y=>?_⟩
  obtain ⟨s5,d,hd5,dv⟩:=G.yl n H4 v H5 (p::q4::as0) sG g4.exi (fun u hu=>by
   rcases List.mem_cons.mp hu with rfl|hu
   ·exact .inl (by simp)
   ·rcases List.mem_cons.mp hu with rfl|hu
    ·by_cases hu:u∈p::q::as0
     ·exact .inl hu
     ·rw [aV hu] at hq4;rw [uk];exact .inr hq4
    ·exact .inl (by simp [hu])) hlt y
  have ed:xs.drop n=d::xs.drop (n+1):=by
   rw [List.drop_eq_getElem_cons hlt];rw [List.getElem?_eq_getElem hlt] at hd5;cases hd5;rfl
  rw [ed] at h4;unfold zu at h4;rw [bind_assoc] at h4;cases d with
  | tup zs =>
   rcases zs with _|⟨d1,_|⟨d2,_|⟨d3,r⟩⟩⟩
   ·exact h4.elim
   ·exact h4.elim
   ·obtain ⟨t,ts,rfl,t1,t2⟩:=dv;obtain ⟨v1,v2,rfl,dn1,dn2⟩:=Ij t2;have h5:cr W as0 B Ob O2 (((ε ((δ4.set a (some d1)).set b (some d2))).bind fun d=>(ε2 (((δ4.set a (some d1)).set b (some d2)).set j (some d))).bind fun d2'=>tG τ es ds d2' (zu i a b j ε ε2 τ (xs.drop (n+1))) (((δ4.set a (some d1)).set b (some d2)).set j (some d))).bind fun f=>match f with|.nx δ'=>ψ δ'|f=>.ok f) D':=h4
    refine ⟨t,[v1,v2],rfl,hW ▸ (aD _ _).seqT t1,rfl,v1,[v2],rfl,v2,[],rfl,rfl,?_⟩;have g5:=((g4.mono s5).set hai dn1).set hbi dn2;have sG5:=sG.trans s5;generalize (σ4.set a (some v1)).set b (some v2)=σ5 at g5;generalize (δ4.set a (some d1)).set b (some d2)=δ5 at g5 h5;show Ey (xT (tD W [] ε) (i6 j)) _ _ σ5 H5;refine ⟨_,_,[],δ5,g5.di,?_⟩;cases hε:ε δ5 with
    | er z=>rw [hε] at h5;exact fun e C H' s=>h5 e C H' (g5.bs.trans s)
    | no=>rw [hε] at h5;exact h5
    | ok d6 =>
    rw [hε] at h5;intro v6 H6 s6 dv6;have g6:=(g5.mono s6).set hji dv6;have sG6:=sG5.trans s6;have h6:cr W as0 B Ob O2 (((ε2 (δ5.set j (some d6))).bind fun d2'=>tG τ es ds d2' (zu i a b j ε ε2 τ (xs.drop (n+1))) (δ5.set j (some d6))).bind fun f=>match f with|.nx δ'=>ψ δ'|f=>.ok f) D':=h5
    dsimp only [i6];generalize σ5.set j (some v6)=σ6 at g6;generalize δ5.set j (some d6)=δ6 at g6 h6;unfold Ey ug Lz wH pI;rw [g6.hi];refine ⟨_,_,[],δ6,g6.di,fun v7 H7 s7 e7=>?_⟩;have e7:v7=.int (-1):=e7;subst e7;have g7:=g6.mono s7;obtain ⟨vs7,ep7,dp7⟩:=g7.hp;refine ⟨vs7++[.ref q4],.ref q4,.inl (dZ.of ep7),EK _ _,?_,?_⟩
    ·obtain ⟨ws,e,_⟩:=g7.hq;exact .inl ⟨rfl,ws,dZ.of e⟩
    refine ⟨_,_,[],δ6,g7.di,?_⟩;cases hε2:ε2 δ6 with
    | er z=>rw [hε2] at h6;exact fun e C H' s=>h6 e C H' (g7.bs.trans s)
    | no=>rw [hε2] at h6;exact h6
    | ok d8 =>
    rw [hε2] at h6;intro v8 H8 s8 dv8;have g8:=g7.mono s8;obtain ⟨ws,eq8,dq8⟩:=g8.hq;have h8:cr W as0 B Ob O2 ((tG τ es ds d8 (zu i a b j ε ε2 τ (xs.drop (n+1))) δ6).bind fun f=>match f with|.nx δ'=>ψ δ'|f=>.ok f) D':=h6
    unfold tG at h8;by_cases hz:es.length < 999999/\ds.length < 999999
    case neg=>rw [if_neg hz] at h8;exact h8.elim
    rw [if_pos hz] at h8;refine ⟨q4,ws,v8,rfl,rfl,eq8,by rw [<- dq8.len];omega,?_⟩;have g9:=g8.push dv8 eq8;have sG9:ax (aG (p::q::as0) H3) (cQ H8 q4 (.lst (ws++[v8]))):=ly (sG6.trans (s7.trans s8)) hq4;generalize (cQ H8 q4 (.lst (ws++[v8])))=H9 at g9 sG9;dsimp only [HK];refine ⟨_,_,[],δ6,g9.di,?_⟩;cases hτ:τ δ6 with
    | er z=>rw [hτ] at h8;exact fun e C H' s=>h8 e C H' (g9.bs.trans s)
    | no=>rw [hτ] at h8;exact h8
    | ok c =>
    rw [hτ] at h8;intro H10 s10;have g10:=g9.mono s10;cases c with
    | false=>exact ⟨q4,δ6,ds,es++[d8],g10,sG9.trans s10,hq4,h8⟩
    | true =>
     rw [if_pos rfl,g10.hi];obtain ⟨vs,ep,dp⟩:=g10.hp;refine ⟨.inl ⟨rfl,_,dZ.of ep⟩,Nat.zero_le _,fun r hr=>?_⟩;have hpr:p≠r:=fun z=>by rw [z,hr] at ep;cases ep
     refine ⟨p,vs++[.ref q4],.ref r,rfl,rfl,by rw [bf hpr];exact ep,by rw [List.length_append,<- dp.len];simp;omega,?_⟩;exact ⟨r,δ6,_,[],g10.next hr ep,ly ((sG9.trans s10).trans (aU hr _)) (dI (by simp)),(sG9.trans s10).free hr,h8⟩
   ·exact h4.elim
  | _=>exact h4.elim
 ·have e:n=xs.length:=by omega
  subst e;rw [List.drop_length] at h4;exact .inl ⟨G.stop H4 sG,as0,B,[],_,g4.done,h4⟩
end
mutual
def wk:D->D
 | .lsm ds=>.lst (FN ds)
 | .lst ds=>.lst (FN ds)
 | .tup ds=>.tup (FN ds)
 | d=>d
def FN:List D->List D
 | []=>[]
 | d::r=>wk d::FN r
end
section
variable {K:PySem.W.Frag} {H:Hp}
mutual
def dR.wk:∀ {d:D} {v:V},dR K H d v->dR K H (L2.wk d) v
 | .non,_,h=>h
 | .bl _,_,h=>h
 | .int _,_,h=>h
 | .str _,_,h=>h
 | .ty _,_,h=>h
 | .lst ds,_,⟨a,xs,e,h1,h2⟩=>⟨a,xs,e,h1,aJ.wk h2⟩
 | .tup ds,_,⟨a,xs,e,h1,h2⟩=>⟨a,xs,e,h1,aJ.wk h2⟩
 | .dct ds,_,h=>h
 | .obj C ds,_,h=>h
 | .exn _,_,h=>h
 | .cls _,_,h=>h
 | .lsm ds,_,⟨a,xs,e,h1,h2⟩=>⟨a,xs,e,dZ.of h1,aJ.wk h2⟩
def aJ.wk:∀ {d:List D} {v:List V},aJ K H d v->aJ K H (FN d) v
 | [],_,h=>h
 | d::ds,_,⟨v,vs,e,h1,h2⟩=>⟨v,vs,e,dR.wk h1,aJ.wk h2⟩
end
end
def xL (φ:FE):FE:=fun δ=>(φ δ).bind fun d=>.ok (wk d)
def Re:D->R D
 | .lst ds=>.ok (.lsm ds)
 | _=>.no
def Av (φ:FE):FE:=fun δ=>(φ δ).bind Re
section
variable {X:Cx} {W:Wd} {O:List Nat} {e:Expr} {φ:FE}
def yf (h:JE X e (tD W O φ)):JE X e (tD W O (xL φ)):=h.imp fun σ H Q hh=>fT hh fun as0 B own δ I q=>by
 refine ⟨as0,B,own,δ,I,?_⟩;unfold xL at q;cases hr:φ δ with
 | ok d=>rw [hr] at q;exact fun v H' s dv=>q v H' s dv.wk
 | er x=>rw [hr] at q;exact q
 | no=>rw [hr] at q;exact q
def DG (h:JE X e (tN W O φ)):JE X e (tD W O (Av φ)):=h.imp fun σ H Q hh=>fT hh fun as0 B own δ I q=>by
 refine ⟨as0,B,own,δ,I,?_⟩;unfold Av at q;cases hr:φ δ with
 | ok d =>
  rw [hr] at q;cases d with
  | lst ds =>
   refine fun p o H' s hp e od=>q (.ref p) H' s ?_;obtain ⟨xs,rfl,hd⟩:=od;exact ⟨p,xs,rfl,by rw [aV (I.new hp)];exact e,hd.mono (gf fun a ha=>List.mem_cons_of_mem _ ha)⟩
  | _=>exact q.elim
 | er x=>rw [hr] at q;exact q
 | no=>rw [hr] at q;exact q
end
def MA:D->Bool
 | .lsm ds=>decide (ds.length<=1000)
 | _=>false
def BK (x y z:Nat) (τ1:FT) (ε:FE) (τ3 τ4:FT) (δ:Sd) (d1 d2:D):R Fl:=match d1,d2 with
 | .lsm l1,.lsm l2=>if x < δ.length/\y < δ.length/\z < δ.length/\l1.all MA=true/\l1.length<=1000/\l2.length<=1000 then
   (τ1 (δ.set x (some (.lst [.lsm l1,.lsm l2])))).bind fun b1=>if b1=true then .ok (.rt (.bl false)) else
   (ε (δ.set x (some (.lst [.lsm l1,.lsm l2])))).bind fun d3=>(τ3 ((δ.set x (some (.lst [.lsm l1,.lsm l2]))).set y (some d3))).bind fun b3=>if b3=true then .ok (.rt (.bl false)) else
   (τ4 ((δ.set x (some (.lst [.lsm l1,.lsm l2]))).set y (some d3))).bind fun b4=>if b4=true then .ok (.rt (.bl false)) else .ok (.nx (((δ.set x none).set y none).set z none))
  else .no
 | _,_=>.no
def zd (x y z t:Nat) (F G:List D->R D) (τ1:FT) (ε:FE) (τ3 τ4:FT):FS:=fun δ=>match δ[t]? with
 | some (some (.str s))=>(F [.str s]).bind fun d1=>(G [.str s]).bind fun d2=>BK x y z τ1 ε τ3 τ4 δ d1 d2
 | _=>.no
abbrev Cj (ψ:FS):Fl->R Fl:=fun f=>match f with
 | .nx δ'=>ψ δ'
 | f=>.ok f
section
variable {W:Wd} {as0:List Addr} {B H:Hp} {Ob O2:List Nat} {σ:St} {δ:Sd} {D':Ends} {τ:FT} {ψ:FS} {r:R Fl} {k:St->Hp->Prop}
def L0 (I:DI W.K as0 B [] [] σ δ H) (h:cr W as0 B Ob O2 (((τ δ).bind fun b=>if b=true then .ok (.rt (.bl false)) else r).bind (Cj ψ)) D') (q:∀ H',ax H H'->cr W as0 B Ob O2 (r.bind (Cj ψ)) D'->k σ H'):HK (oE W [] τ) (Kh (tD W [] (vC (.bl false)))) D0 { D' with nx:=k } σ H:=by
 refine ⟨as0,B,[],δ,I,?_⟩;cases hr:τ δ with
 | er x=>rw [hr] at h;exact fun e C H' s=>h e C H' (I.same.trans s)
 | no=>rw [hr] at h;exact h
 | ok b =>
  rw [hr] at h;intro H' s;cases b with
  | false=>exact q H' s h
  | true=>exact ⟨as0,B,[],δ,I.mono s,fun v H2 s2 dv=>h v H2 ((I.mono s).same.trans s2) dv⟩
def PK {ε:FE} {g:D->R Fl} {y:Nat} (I:DI W.K as0 B [] [] σ δ H) (h:cr W as0 B Ob O2 (((ε δ).bind g).bind (Cj ψ)) D') (q:∀ d v H',ax H H'->dR W.K (aG as0 H') d v->cr W as0 B Ob O2 ((g d).bind (Cj ψ)) D'->k (σ.set y (some v)) H'):xT (tD W [] ε) (i6 y) { D' with nx:=k } σ H:=by
 refine ⟨as0,B,[],δ,I,?_⟩;cases hr:ε δ with
 | er x=>rw [hr] at h;exact fun e C H' s=>h e C H' (I.same.trans s)
 | no=>rw [hr] at h;exact h
 | ok d=>rw [hr] at h;exact fun v H' s dv=>q d v H' s dv h
def LO (M:List Addr) (r:Addr) (n:Nat) (H:Hp) (v:V):Prop:=∃ a ys,v=.ref a/\a∉M/\a≠r/\H a=some (.lst ys)/\ys.length<=n
end
section
variable {X:Cx} {W:Wd} {Ob O2:List Nat} {nx ny nz:Str} {x y z t:Nat} {e1 e2 c1 e3 c3 c4 ei ez f1 f3 f4:Expr} {F G:List D->R D} {ε:FE} {τ1 τ3 τ4:FT} {ψ:FS} {zs:Str} {rest:List Stmt} {p1 p2 p3 p4 p5 p6 p7 p8 p9 q1 q2 q3 q4 q5 q6 q7 q8 q9 r1 r2 g1 g3 g4 i1 i3 i4 fp:Pos}
def KL (K:PySem.W.Frag) (hp:PassesOwn (model X.prog X.w) X.A X.env X.xe) (hN:X.N.Nodup) (hx:zg X.env.scope nx) (hy:zg X.env.scope ny) (hz:zg X.env.scope nz) (h1:JE X e1 (tD W [] (aj F (aa (ae t) ak)))) (h2:JE X e2 (tD W [] (aj G (aa (ae t) ak)))) (hc1:JT X c1 (oE W [] τ1)) (h3:JE X e3 (tD W [] ε)) (hc3:JT X c3 (oE W [] τ3)) (hc4:JT X c4 (oE W [] τ4))
  (hi:JE X ei (tD W [] (vC (.int 0)))) (he:JE X ez (tD W [] (vC (.str zs)))) (hf1:JE X f1 (tD W [] (vC (.bl false)))) (hf3:JE X f3 (tD W [] (vC (.bl false)))) (hf4:JE X f4 (tD W [] (vC (.bl false)))) (hr:JB X rest (sD W Ob [] O2 ψ))
  (hxy:x≠y:=by decide) (hxz:x≠z:=by decide) (hXx:X.N[x]?=some nx:=by rfl) (hXy:X.N[y]?=some ny:=by rfl) (hXz:X.N[z]?=some nz:=by rfl) (hvx:zv X.env.scope nx:=by first|exact Or.inl rfl|exact Or.inr (Or.inl rfl)|exact Or.inr (Or.inr rfl)) (hvz:zv X.env.scope nz:=by first|exact Or.inl rfl|exact Or.inr (Or.inl rfl)|exact Or.inr (Or.inr rfl))
  (hd:(nx==("__debug__":Str))=false:=by decide) (hcd:(nx==("__classdict__":Str))=false:=by decide) (hdz:(nz==("__debug__":Str))=false:=by decide) (hcz:(nz==("__classdict__":Str))=false:=by decide)
  (hfx:X.fn nx=true\/X.env.scope.names.lookup nx=some .local:=by first|exact .inl rfl|exact .inr rfl|assumption) (hfy:X.fn ny=true\/X.env.scope.names.lookup ny=some .local:=by first|exact .inl rfl|exact .inr rfl|assumption) (hfz:X.fn nz=true\/X.env.scope.names.lookup nz=some .local:=by first|exact .inl rfl|exact .inr rfl|assumption)
  (hs1:swapsWith (.List [e1,e2] p2) (some (.Name nx p1)) p3.line X.env=pure false:=by rfl) (hs3:swapsWith e3 (some (.Name ny p6)) p7.line X.env=pure false:=by rfl) (hn1:a8 e1=true:=by rfl) (hn2:a8 e2=true:=by rfl) (hnz:a8 ez=true:=by rfl) (hix:on ei:=by exact fun _ _=>rfl)
  (hl1:(q7.endLine==q8.line)=true:=by rfl) (hba:attributeBase (.Name nz q6) "append" X.env (eval (.Name nz q6) X.env)=eval (.Name nz q6) X.env:=by rfl) (hsa:swapsWith (.Call (.Attribute (.Name nz q6) "append" q7) [ez] [] q8) none q9.line X.env=pure false:=by rfl)
  (hK:X.K=K:=by rfl) (hW:W.K=K:=by rfl) (hcm:X.calm=true:=by rfl) (hsi:∀ v,foldedSetIterable (.BinOp (.Subscript (.Name nx q2) ei q3) .Add (.Name nx q4) q5) X.env v=pure v:=by intro _;rfl) :
  JB X (.Assign [.Name nx p1] (.List [e1,e2] p2) p3::.If c1 [.Return (some f1) g1] [] i1::.Assign [.Name ny p6] e3 p7::.If c3 [.Return (some f3) g3] [] i3::.If c4 [.Return (some f4) g4] [] i4::.For (.Name nz q1) (.BinOp (.Subscript (.Name nx q2) ei q3) .Add (.Name nx q4) q5) [.Expr (.Call (.Attribute (.Name nz q6) "append" q7) [ez] [] q8) q9] [] fp::rest) (sD W Ob [] O2 (aw (zd x y z t F G τ1 ε τ3 τ4) ψ)):=by
 subst hK;have low:=gd (qS (pos:=p3) (pos':=p1) hN hx (y6 (pos:=p2) (gt h1 (gt h2 iU hn2) hn1)) hXx hs1 hfx) (gd (yX (pos:=i1) hc1 (pz (tY (pos:=g1) hf1)) ub) (gd (qS (pos:=p7) (pos':=p6) hN hy h3 hXy hs3 hfy) (gd (yX (pos:=i3) hc3 (pz (tY (pos:=g3) hf3)) ub) (gd (yX (pos:=i4) hc4 (pz (tY (pos:=g4) hf4)) ub)
  (gd (zR (pos:=fp) hp (AU X.K (NV (pos:=q5) (bo X.K) (Hg (pos:=q3) (dU X.K) (jv x (pos:=q2) hXx hvx hd hcd) hi hix) (jv x (pos:=q4) hXx hvx hd hcd))) (sP (pos:=q1) hN hXz hz hfz) (pz (ql (pos:=q9) (En PySem.F.plainAttrs_list PySem.F.slot_list_append PySem.F.type_list_append lj (jv z (pos:=q6) hXz hvz hdz hcz) (gt he iU hnz) hba hl1 (by rw [List.all_cons,hnz];rfl) (by show 1 < 29;decide)) hsa)) hcm hsi) hr)))))
 refine ⟨fun ag s σ H D' Iv hh=>fT hh fun as0 B own δ I h=>low.out ag s σ H D' Iv ?_⟩;have eown:own=[]:=List.eq_nil_of_length_eq_zero I.olen;subst eown;obtain ⟨M,hM⟩:∃ M:List Addr,∀ a,a∈M ↔ H a≠none:=⟨(List.range s.heap.objs.size).filter fun a=>(H a).isSome,fun a=>by
  rw [List.mem_filter,List.mem_range];constructor
  ·intro q z;rw [z] at q;exact absurd q.2 (by simp)
  ·intro q;refine ⟨Nat.lt_of_not_le fun z=>q (Iv.hok.fresh z),?_⟩;cases e:H a with
   | none=>exact absurd e q
   | some o=>rfl⟩
 have h0:cr W as0 B Ob O2 ((zd x y z t F G τ1 ε τ3 τ4 δ).bind (Cj ψ)) D':=h;unfold zd at h0;split at h0
 case h_2=>exact h0.elim
 rename_i s0 hs0;clear h low;have h1n:=c9
 -- the first call,all that is there hidden
 have hil:∀ {i:Nat} {d:D},δ[i]?=some (some d)->i < δ.length:=fun e=>(List.getElem?_eq_some_iff.mp e).1;have evt:σ[t]?=some (some (.str s0)):=by
  obtain ⟨v,a1,a2⟩:=I.var t _ (by simp) hs0;cases a2;exact a1
 have dt:∀ {H':Hp},ax H H'->DI W.K M H' [] [] σ ((List.replicate δ.length none).set t (some (.str s0))) H':=fun {H'} sm=>DI.plain (by simp [I.len]) (fun a ha z=>by
   cases e:H a with
   | none=>exact (hM a).mp ha e
   | some o=>rw [sm a o e] at z;cases z) fun i d e=>by
  rw [getElem?_set'] at e;split at e
  ·rename_i hti;subst hti;split at e
   ·cases e;exact ⟨_,evt,rfl⟩
   ·cases e
  ·rw [List.getElem?_replicate] at e;split at e <;> cases e
 have ft:∀ (F:List D->R D),aj F (aa (ae t) ak) ((List.replicate δ.length none).set t (some (.str s0)))=F [.str s0]:=fun F=>by
  unfold aj aa ae;rw [getElem?_set',if_pos rfl,if_pos (by rw [List.length_replicate];exact hil hs0)];rfl
 have yI:ax B H:=I.same;refine ⟨M,H,[],_,dt (ax.refl _),?_⟩;rw [ft F];cases hF:F [.str s0] with
 | er u=>rw [hF] at h0;exact fun e C H' s=>h0 e C H' (yI.trans s)
 | no=>rw [hF] at h0;exact h0.elim
 | ok d1 =>
 rw [hF] at h0;intro v1 H1 s1 dv1;refine ⟨M,H1,[],_,dt s1,?_⟩;rw [ft G];cases hG:G [.str s0] with
 | er u=>rw [hG] at h0;exact fun e C H' s=>h0 e C H' (yI.trans (s1.trans s))
 | no=>rw [hG] at h0;exact h0.elim
 | ok d2 =>
 rw [hG] at h0;intro v2 H2 s2 dv2;have h00:cr W as0 B Ob O2 ((BK x y z τ1 ε τ3 τ4 δ d1 d2).bind (Cj ψ)) D':=h0;unfold BK at h00;split at h00
 case h_2=>exact h00.elim
 rename_i l1 l2;split at h00
 case isFalse=>exact h00.elim
 rename_i hcn;obtain ⟨hxl,hyl,hzl,hal,hn1',hn2'⟩:=hcn;refine ⟨by show 2<=sizeLine;omega,fun p0 hp0=>?_⟩;obtain ⟨a1,xs1,rfl,ea1,dx1⟩:=dv1;obtain ⟨a2,xs2,rfl,ea2,dx2⟩:=dv2;rw [List.nil_append] at ea1 ea2 dx1 dx2;have s3:ax H (cQ H2 p0 (.lst [.ref a1,.ref a2])):=s1.trans (s2.trans (aU hp0 _));have s13:ax H1 (cQ H2 p0 (.lst [.ref a1,.ref a2])):=s2.trans (aU hp0 _);have s23:ax H2 (cQ H2 p0 (.lst [.ref a1,.ref a2])):=aU hp0 _;have hp0M:p0∉M:=fun u=>(hM p0).mp u ((s1.trans s2).free hp0);have asM:∀ a∈as0,a∈M:=fun a ha=>(hM a).mpr (I.exi a ha);have e0:(cQ H2 p0 (.lst [.ref a1,.ref a2])) p0=some (.lst [.ref a1,.ref a2]):=aZ;generalize cQ H2 p0 (.lst [.ref a1,.ref a2])=H3 at s3 s13 s23 e0;have nd:dR W.K (aG M H3) (.lst [.lsm l1,.lsm l2]) (.ref p0):=⟨p0,_,rfl,.inl (.inl (by rw [aV hp0M];exact e0)),aJ.cons ⟨a1,xs1,rfl,aP s13 _ _ ea1,dx1.mono (aP s13)⟩ (aJ.cons ⟨a2,xs2,rfl,aP s23 _ _ ea2,dx2.mono (aP s23)⟩ aJ.nil)⟩;have I3:=(I.mono s3).set (W:=W) (i:=x) (by simp) (nd.mono (gf asM));have m1:a1∉M:=fun u=>by rw [dI u] at ea1;cases ea1
 have m2:a2∉M:=fun u=>by rw [dI u] at ea2;cases ea2
 have f1:H3 a1=some (.lst xs1):=s13 _ _ (aD _ _ _ _ ea1);have f2:H3 a2=some (.lst xs2):=s23 _ _ (aD _ _ _ _ ea2);have dx1':aJ W.K (aG M H3) l1 xs1:=dx1.mono (aP s13);dsimp only [i6];refine L0 (k:=_) I3 h00 fun H4 s4 h4=>?_;refine PK (k:=_) (I3.mono s4) h4 fun d3 v3 H5 s5 dv3 h5=>?_;have I5:=((I3.mono s4).mono s5).set (W:=W) (i:=y) (by simp) dv3;refine L0 (k:=_) I5 h5 fun H6 s6 h6=>?_;refine L0 (k:=_) (I5.mono s6) h6 fun H7 s7 h7=>?_;have s37:ax H3 H7:=s4.trans (s5.trans (s6.trans s7));have hσx:((σ.set x (some (.ref p0))).set y (some v3))[x]?=some (some (.ref p0)):=by
  rw [getElem?_set',if_neg (Ne.symm hxy),getElem?_set',if_pos rfl,if_pos (by rw [<- I.len];exact hxl)]
 have hσl:((σ.set x (some (.ref p0))).set y (some v3)).length=σ.length:=by simp
 have hσk:∀ k,k≠x->k≠y->((σ.set x (some (.ref p0))).set y (some v3))[k]?=σ[k]?:=fun k hx hy=>by
  rw [getElem?_set',if_neg (Ne.symm hy),getElem?_set',if_neg (Ne.symm hx)]
 have I7:=I5.mono (s6.trans s7);clear I5 I3 h00 h0 h4 h5 h6;generalize (σ.set x (some (.ref p0))).set y (some v3)=σ5 at hσx hσl hσk I7;have hzx:∀ {k:Nat},k≠z->z≠k:=fun u=>Ne.symm u;show Eh (Q1 X.K (wH (BP X.K) (wH (KF X.K) (pI x) (tD W [] (vC (.int 0)))) (pI x))) (i6 z) (ug (Lz X.K "list" qB (pI z) (tF (tD W [] (vC (.str zs))) B8))) { D' with nx:=sD W Ob [] O2 ψ D' } σ5 H7;unfold Eh Q1 wH;unfold pI;rw [hσx];refine ⟨as0,B,[],_,I7,fun v8 H8 s8 e8=>?_⟩;cases (show v8=.int 0 from e8);have s38:ax H3 H8:=s37.trans s8;refine ⟨[.ref a1,.ref a2],.ref a1,.inl (dZ.of (s38 _ _ e0)),rfl,.inl ⟨xs1,[.ref a1,.ref a2],dZ.of (s38 _ _ f1),dZ.of (s38 _ _ e0),by rw [<- dx1'.len];simp;omega,fun r0 hr0=>.inl ⟨⟨_,dZ.of aZ⟩,?_⟩⟩⟩;have s39:ax H3 (cQ H8 r0 (.lst (xs1++[.ref a1,.ref a2]))):=s38.trans (aU hr0 _);have er0:(cQ H8 r0 (.lst (xs1++[.ref a1,.ref a2]))) r0=some (.lst (xs1++[.ref a1,.ref a2])):=aZ;have ne3:∀ {a:Addr} {o:HO},H3 a=some o->a≠r0:=fun e u=>by rw [u] at e;rw [s38 _ _ e] at hr0;cases hr0
 have soft:∀ v∈xs1++[.ref a1,.ref a2],LO M r0 (1000+0) (cQ H8 r0 (.lst (xs1++[.ref a1,.ref a2]))) v:=fun v hv=>by
  rcases List.mem_append.mp hv with u|u
  ·obtain ⟨k,hk⟩:=List.mem_iff_getElem?.mp u;obtain ⟨d,q1,q2⟩:=dx1'.got hk
   have:=List.all_eq_true.mp hal d (List.mem_of_getElem? q1)
   cases d with
   | lsm ds =>
    obtain ⟨a,ys,rfl,ea,dy⟩:=q2;have hl:ds.length<=1000:=of_decide_eq_true this;have aM:a∉M:=fun w=>by rw [dI w] at ea;cases ea
    have ea':=aD _ _ _ _ ea;exact ⟨a,ys,rfl,aM,ne3 ea',s39 _ _ ea',by rw [<- dy.len];exact hl⟩
   | _=>cases this
  ·simp only [List.mem_cons,List.not_mem_nil,or_false] at u;rcases u with rfl|rfl
   ·exact ⟨a1,xs1,rfl,m1,ne3 f1,s39 _ _ f1,by rw [<- dx1'.len];exact hn1'⟩
   ·exact ⟨a2,xs2,rfl,m2,ne3 f2,s39 _ _ f2,by rw [<- dx2.len];exact hn2'⟩
 have hlen:(xs1++[V.ref a1,V.ref a2]).length<=1002:=by rw [List.length_append,<- dx1'.len];simp;omega
 have s0n:ax H (cQ H8 r0 (.lst (xs1++[.ref a1,.ref a2]))):=s3.trans s39;generalize cQ H8 r0 (.lst (xs1++[.ref a1,.ref a2]))=H9 at er0 soft s0n;generalize xs1++[V.ref a1,V.ref a2]=its at er0 soft hlen;refine ⟨fun n m σ' H'=>m=its.length - n/\n<=its.length/\σ'.length=σ.length/\(∀ k,k≠z->σ'[k]?=σ5[k]?)/\ax H H'/\H' r0=some (.lst its)/\∀ v∈its,LO M r0 (1000+n) H' v,⟨its.length,by simp,Nat.zero_le _,hσl,fun _ _=>rfl,s0n,er0,soft⟩,?_⟩;rintro n m σ6 Hn ⟨rfl,hn,hl6,hk6,sn,ern,sfn⟩;by_cases hlt:n < its.length
 ·refine .inr ⟨⟨its,its[n],dZ.of ern,by simp [hlt]⟩,fun σ' H'=>n+1<=its.length/\σ'.length=σ.length/\(∀ k,k≠z->σ'[k]?=σ5[k]?)/\ax H H'/\H' r0=some (.lst its)/\∀ v∈its,LO M r0 (1000+(n+1)) H' v,fun σ' H' u=>⟨its.length - (n+1),by omega,rfl,u⟩,fun v Hy ⟨ey,yl⟩=>?_⟩;subst ey;have hv:=yl its (dZ.of ern);obtain ⟨a,ys,rfl,aM,ar,ea,hys⟩:=sfn v (List.mem_of_getElem? hv);have hz6:(σ6.set z (some (.ref a)))[z]?=some (some (.ref a)):=by rw [getElem?_set',if_pos rfl,if_pos (by rw [hl6,<- I.len];exact hzl)]
  show ug (Lz X.K "list" qB (pI z) (tF (tD W [] (vC (.str zs))) B8)) _ (σ6.set z (some (.ref a))) Hy;unfold ug Lz pI;rw [hz6];refine ⟨.inl ⟨rfl,ys,dZ.of ea⟩,[],Hy,[],List.replicate (σ6.set z (some (.ref a))).length none,DI.plain (by simp) (fun a ha=>nomatch ha) (fun i d e=>?_),fun v9 H9 s9 e9=>?_⟩
  ·rw [List.getElem?_replicate] at e;split at e <;> cases e
  have haH:H a=none:=by
   cases e:H a with
   | none=>rfl
   | some o=>exact absurd ((hM a).mpr (by rw [e];simp)) aM
  refine ⟨a,ys,v9,rfl,rfl,s9 _ _ ea,by omega,hlt,by simp [hl6],fun k hk=>by rw [getElem?_set',if_neg (hzx hk)];exact hk6 k hk,ly (sn.trans s9) haH,by rw [bf (Ne.symm ar)];exact s9 _ _ ern,fun v hv=>?_⟩;obtain ⟨b,zs',rfl,bM,br,eb,hzs⟩:=sfn v hv;by_cases hba:b=a
  ·subst hba;rw [ea] at eb;cases eb;exact ⟨b,_,rfl,bM,br,aZ,by simp;omega⟩
  ·exact ⟨b,zs',rfl,bM,br,by rw [bf hba];exact s9 _ _ eb,by omega⟩
 ·have e:n=its.length:=by omega
  refine .inl ⟨⟨its,dZ.of ern,by omega⟩,as0,B,[],_,⟨?_,rfl,List.nodup_nil,List.nodup_nil,fun a ha=>(nomatch ha),I.ex0,yI.trans sn,fun k d _ q=>?_,fun j a h=>(by simp at h)⟩,h7⟩
  ·simp [hl6,I.len]
  ·rw [getElem?_set'] at q;split at q
   ·first|cases q|(split at q <;> cases q)
   ·rename_i hkz;rw [getElem?_set'] at q;split at q
    ·first|cases q|(split at q <;> cases q)
    ·rename_i hky;rw [getElem?_set'] at q;split at q
     ·first|cases q|(split at q <;> cases q)
     ·rename_i hkx;obtain ⟨v,b1,b2⟩:=I.var k d (by simp) q;exact ⟨v,by rw [hk6 k (Ne.symm hkz),hσk k (Ne.symm hkx) (Ne.symm hky)];exact b1,b2.mono (aP sn)⟩
end
end L2
namespace T52
open PySem L2
def bZ:D:=(.str "0123456789")
def lK:D:=(.int 40)
def bN:D:=(.int 18)
def fX:D:=(.int 1000000000)
def pp:D:=(.tup [(.str "and"),(.str "by"),(.str "down"),(.str "from"),(.str "none"),(.str "not"),(.str "or"),(.str "order"),(.str "show"),(.str "take"),(.str "where")])
def m7:D:=(.tup [(.str "number"),(.str "text")])
def jD:D:=(.int 8)
def jW:D:=(.int 8)
def bI:D:=(.int 10)
def kP:D:=(.int 8)
def gb:D:=(.int 9)
def bH:D:=(.str "end\n")
def cJ:D:=(.int 10)
abbrev vB:List Str:=["sign"]
abbrev ld:List Str:=["sign"]
def oi:FS:=(a7 (mI (ap Jz (ae 0) (vC (.str " "))) (ap Cz (ae 0) (vC (.str "~")))))
def jz:List D->R D:=b7 oi vB ld
def Ck (a0:D):jz [a0]=fin (oi [some a0]):=rfl
abbrev pE:List Str:=["thing"]
abbrev jU:List Str:=["thing"]
def lP:FS:=(aw (cN (cq (aj fG (aa (ae 0) (aa (vC (.ty "str")) ak)))) (a7 (mI (ap Cz (aj bt (aa (ae 0) ak)) (vC lK)) (aj nF (aa (bn [none] (b8 (ae 0)) (.one 0) cc (aj jz (aa (ae 0) ak))) ak)))) aF) (aw (cN (qu (cq (aj fG (aa (ae 0) (aa (vC (.ty "int")) ak)))) (dh (cq (aj fG (aa (ae 0) (aa (vC (.ty "bool")) ak)))))) (a7 (ap CU (aj F6 (aa (ae 0) ak)) (ap oF (vC (.int 10)) (vC (.int 18))))) aF) (a7 (ap L5 (ae 0) (vC .non)))))
def jX:List D->R D:=b7 lP pE jU
def zK (a0:D):jX [a0]=fin (lP [some a0]):=rfl
abbrev vS:List Str:=["value"]
abbrev lq:List Str:=["value"]
def om:FS:=(aw (cN (b5 (ap L5 (ae 0) (vC .non))) (a7 (vC (.str "none"))) aF) (aw (cN (cq (aj fG (aa (ae 0) (aa (vC (.ty "str")) ak)))) (a7 (ap aR (ap aR (vC (.str "\"")) (Hv (ki "\"" "\"\"") (ae 0))) (vC (.str "\"")))) aF) (a7 (aj qC (aa (ae 0) ak)))))
def gM:List D->R D:=b7 om vS lq
def Cw (a0:D):gM [a0]=fin (om [some a0]):=rfl
abbrev rZ:List Str:=["line","inner","text"]
abbrev iH:List Str:=["line"]
def kA:FS:=(aw (cN (rP (b5 (ap CU (aj bt (aa (ae 0) ak)) (vC (.int 2)))) (dh (cq (oH (sv fun x y=>.bl (Txt.endswith x y)) (ae 0) (aa (vC (.str "\"")) ak))))) cC aF) (aw (aI 1 (mN fJ (ae 0) (bx (vC (.int 1))) (bx (Hv Dv (vC (.int 1)))))) (aw (cN (b5 (ap uO (vC (.str "\"")) (Hv (ki "\"\"" "") (ae 1)))) cC aF) (aw (aI 2 (Hv (ki "\"\"" "\"") (ae 1))) (aw (cN (dh (cq (aj jX (aa (ae 2) ak)))) cC aF) (a7 (ae 2)))))))
def iL:List D->R D:=b7 kA rZ iH
def y1 (a0:D):iL [a0]=fin (kA [some a0,none,none]):=rfl
abbrev kO:List Str:=["line","figures"]
abbrev fm:List Str:=["line"]
def ie:FS:=(aw (aI 1 (Jr (cq (oH (sv fun x y=>.bl (Txt.startswith x y)) (ae 0) (aa (vC (.str "-")) ak))) (mN fJ (ae 0) (bx (vC (.int 1))) c6) (ae 0))) (aw (cN (rP (b5 (ap eU (ae 1) (vC (.str "")))) (dh (cq (aj nF (aa (bn [none] (b8 (ae 1)) (.one 0) cc (ap uO (ae 0) (vC bZ))) ak))))) cC aF) (aw (cN (qu (cq (oH (sv fun x y=>.bl (Txt.startswith x y)) (ae 1) (aa (vC (.str "0")) ak))) (b5 (ap pY (ae 0) (vC (.str "0"))))) cC aF) (aw (cN (b5 (ap C8 (aj bt (aa (ae 1) ak)) (vC bN))) cC aF) (a7 (aj kB (aa (ae 0) ak)))))))
def hU:List D->R D:=b7 ie kO fm
def vi (a0:D):hU [a0]=fin (ie [some a0,none]):=rfl
abbrev qb:List Str:=["line"]
abbrev gh:List Str:=["line"]
def ji:FS:=(aw (cN (b5 (ap eU (ae 0) (vC (.str "none")))) (a7 (vC .non)) aF) (aw (cN (cq (oH (sv fun x y=>.bl (Txt.startswith x y)) (ae 0) (aa (vC (.str "\"")) ak))) (a7 (aj iL (aa (ae 0) ak))) aF) (a7 (aj hU (aa (ae 0) ak)))))
def cM:List D->R D:=b7 ji qb gh
def xH (a0:D):cM [a0]=fin (ji [some a0]):=rfl
abbrev rQ:List Str:=["line","pieces","start","in_text","place","sign"]
abbrev iK:List Str:=["line"]
def kx:FS:=(aw (m3 1 (ee ak)) (aw (aI 2 (vC (.int 0))) (aw (aI 3 (vC (.bl false))) (aw (uq (jL (aa (ae 0) ak)) (.tup [4,5]) (aw (cN (b5 (ap eU (ae 5) (vC (.str "\"")))) (aI 3 (zm (ae 3))) aF) (cN (qu (b5 (ap eU (ae 5) (vC (.str " ")))) (dh (cq (ae 3)))) (aw (bG 1 (mN fJ (ae 0) (bx (ae 2)) (bx (ae 4)))) (aI 2 (ap aR (ae 4) (vC (.int 1))))) aF))) (aw (bG 1 (mN fJ (ae 0) (bx (ae 2)) c6)) (a7 (ae 1)))))))
def fN:List D->R D:=b7 kx rQ iK
def ym (a0:D):fN [a0]=fin (kx [some a0,none,none,none,none,none]):=rfl
abbrev kN:List Str:=["line"]
abbrev fh:List Str:=["line"]
def ib:FS:=(aw (cN (b5 (ap eU (ae 0) (vC (.str "")))) (a7 (ee ak)) aF) (a7 (bn [none] (b8 (aj fN (aa (ae 0) ak))) (.one 0) cc (aj cM (aa (ae 0) ak)))))
def ia:List D->R D:=b7 ib kN fh
def uW (a0:D):ia [a0]=fin (ib [some a0]):=rfl
abbrev mG:List Str:=["thing"]
abbrev dm:List Str:=["thing"]
def fE:FS:=(a7 (mI (aj fG (aa (ae 0) (aa (vC (.ty "int")) ak))) (mI (zm (aj fG (aa (ae 0) (aa (vC (.ty "bool")) ak)))) (mI (ap Jz (ae 0) (vC (.int 1))) (ap Cz (ae 0) (vC fX))))))
def fv:List D->R D:=b7 fE mG dm
def sJ (a0:D):fv [a0]=fin (fE [some a0]):=rfl
abbrev sd:List Str:=["sign"]
abbrev iw:List Str:=["sign"]
def ky:FS:=(a7 (mI (ap Jz (ae 0) (vC (.str "a"))) (ap Cz (ae 0) (vC (.str "z")))))
def fM:List D->R D:=b7 ky sd iw
def ye (a0:D):fM [a0]=fin (ky [some a0]):=rfl
abbrev ro:List Str:=["thing"]
abbrev lu:List Str:=["thing"]
def ow:FS:=(aw (cN (rP (dh (cq (aj fG (aa (ae 0) (aa (vC (.ty "str")) ak))))) (rP (b5 (ap eU (ae 0) (vC (.str "")))) (b5 (ap C8 (aj bt (aa (ae 0) ak)) (vC jD))))) (a7 (vC (.bl false))) aF) (a7 (mI (aj nF (aa (bn [none] (b8 (ae 0)) (.one 0) cc (aj fM (aa (ae 0) ak))) ak)) (ap rg (ae 0) (vC pp)))))
def cY:List D->R D:=b7 ow ro lu
def CQ (a0:D):cY [a0]=fin (ow [some a0]):=rfl
abbrev lg:List Str:=["thing"]
abbrev cX:List Str:=["thing"]
def eG:FS:=(a7 (mI (aj fG (aa (ae 0) (aa (vC (.ty "str")) ak))) (ap uO (ae 0) (vC m7))))
def cW:List D->R D:=b7 eG lg cX
def qV (a0:D):cW [a0]=fin (eG [some a0]):=rfl
abbrev vo:List Str:=["thing"]
abbrev lp:List Str:=["thing"]
def ln:FS:=(a7 (mI (aj fG (aa (ae 0) (aa (vC (.ty "tuple")) ak))) (ap eU (aj bt (aa (ae 0) ak)) (vC (.int 2)))))
def gO:List D->R D:=b7 ln vo lp
def vF (a0:D):gO [a0]=fin (ln [some a0]):=rfl
abbrev rX:List Str:=["thing"]
abbrev iI:List Str:=["thing"]
def kj:FS:=(a7 (mI (aj gO (aa (ae 0) ak)) (mI (aj cY (aa (ap bj (ae 0) (vC (.int 0))) ak)) (aj cW (aa (ap bj (ae 0) (vC (.int 1))) ak)))))
def c7:List D->R D:=b7 kj rX iI
def zk (a0:D):c7 [a0]=fin (kj [some a0]):=rfl
abbrev hJ:List Str:=["thing","names"]
abbrev fc:List Str:=["thing"]
def hZ:FS:=(aw (cN (rP (dh (cq (aj fG (aa (ae 0) (aa (vC (.ty "tuple")) ak))))) (rP (b5 (ap CU (aj bt (aa (ae 0) ak)) (vC (.int 1)))) (b5 (ap C8 (aj bt (aa (ae 0) ak)) (vC jW))))) (a7 (vC (.bl false))) aF) (aw (cN (dh (cq (aj nF (aa (bn [none] (b8 (ae 0)) (.one 0) cc (aj c7 (aa (ae 0) ak))) ak)))) (a7 (vC (.bl false))) aF) (aw (aI 1 (bn [none] (b8 (ae 0)) (.one 0) cc (ap bj (ae 0) (vC (.int 0))))) (a7 (ap eU (aj ot (aa (ae 1) ak)) (aj bt (aa (ae 1) ak)))))))
def cU:List D->R D:=b7 hZ hJ fc
def uV (a0:D):cU [a0]=fin (hZ [some a0,none]):=rfl
abbrev uy:List Str:=["thing"]
abbrev jF:List Str:=["thing"]
def mm:FS:=(a7 (mI (aj gO (aa (ae 0) ak)) (mI (aj cY (aa (ap bj (ae 0) (vC (.int 0))) ak)) (aj cU (aa (ap bj (ae 0) (vC (.int 1))) ak)))))
def jJ:List D->R D:=b7 mm uy jF
def zA (a0:D):jJ [a0]=fin (mm [some a0]):=rfl
abbrev pU:List Str:=["shape","words","column"]
abbrev gx:List Str:=["shape"]
def jj:FS:=(aw (m3 1 (ee (aa (vC (.str "table")) (aa (ap bj (ae 0) (vC (.int 0))) ak)))) (aw (uq (b8 (ap bj (ae 0) (vC (.int 1)))) (.one 2) (ox 1 (ae 2))) (a7 (oH eD (vC (.str " ")) (aa (ae 1) ak)))))
def jl:List D->R D:=b7 jj pU gx
def xm (a0:D):jl [a0]=fin (jj [some a0,none,none]):=rfl
abbrev pw:List Str:=["values"]
abbrev jK:List Str:=["values"]
def lL:FS:=(a7 (oH eD (vC (.str " ")) (aa (bn [none] (b8 (ae 0)) (.one 0) cc (aj gM (aa (ae 0) ak))) ak)))
def lV:List D->R D:=b7 lL pw jK
def Ay (a0:D):lV [a0]=fin (lL [some a0]):=rfl
abbrev oT:List Str:=["change","words"]
abbrev eZ:List Str:=["change"]
def cR:FS:=(aw (cN (b5 (ap eU (ap bj (ae 0) (vC (.int 0))) (vC (.str "table")))) (a7 (aj jl (aa (ap bj (ae 0) (vC (.int 1))) ak))) aF) (aw (cN (b5 (ap eU (ap bj (ae 0) (vC (.int 0))) (vC (.str "index")))) (a7 (oH qO (vC (.str " ")) (aa (ae 0) ak))) aF) (aw (m3 1 (ee (aa (ap bj (ae 0) (vC (.int 0))) (aa (ap bj (ae 0) (vC (.int 1))) (aa (aj r9 (aa (ap bj (ae 0) (vC (.int 2))) ak)) ak))))) (aw (cN (b5 (ap eU (ap bj (ae 0) (vC (.int 0))) (vC (.str "put")))) (bG 1 (aj lV (aa (ap bj (ae 0) (vC (.int 3))) ak))) aF) (a7 (oH eD (vC (.str " ")) (aa (ae 1) ak)))))))
def bR:List D->R D:=b7 cR oT eZ
def gX (a0:D):bR [a0]=fin (cR [some a0,none]):=rfl
abbrev mn:List Str:=["words","columns","shape"]
abbrev gc:List Str:=["words"]
def je:FS:=(aw (aI 1 (bn [none,some 0] (tP (aa (vC (.int 2)) (aa (ap jN (aj bt (aa (ae 0) ak)) (vC (.int 1))) (aa (vC (.int 2)) ak)))) (.one 0) cc (gI (aa (ap bj (ae 1) (ae 0)) (aa (ap bj (ae 1) (ap aR (ae 0) (vC (.int 1)))) ak))))) (aw (cN (b5 (ap pY (aj bt (aa (ae 0) ak)) (ap aR (vC (.int 2)) (ap fH (vC (.int 2)) (aj bt (aa (ae 1) ak)))))) cC aF) (aw (aI 2 (gI (aa (ap bj (ae 0) (vC (.int 1))) (aa (aj sA (aa (ae 1) ak)) ak)))) (aw (cN (dh (cq (aj jJ (aa (ae 2) ak)))) cC aF) (a7 (gI (aa (vC (.str "table")) (aa (ae 2) ak))))))))
def jd:List D->R D:=b7 je mn gc
def wn (a0:D):jd [a0]=fin (je [some a0,none,none]):=rfl
abbrev gA:List Str:=["word","number"]
abbrev cH:List Str:=["word"]
def dD:FS:=(aw (cN (rP (b5 (ap eU (ae 0) (vC (.str "")))) (rP (b5 (ap C8 (aj bt (aa (ae 0) ak)) (vC bI))) (dh (cq (aj nF (aa (bn [none] (b8 (ae 0)) (.one 0) cc (ap uO (ae 0) (vC bZ))) ak)))))) cC aF) (aw (aI 1 (aj kB (aa (ae 0) ak))) (aw (cN (rP (cq (oH (sv fun x y=>.bl (Txt.startswith x y)) (ae 0) (aa (vC (.str "0")) ak))) (dh (cq (aj fv (aa (ae 1) ak))))) cC aF) (a7 (ae 1)))))
def cK:List D->R D:=b7 dD gA cH
def pM (a0:D):cK [a0]=fin (dD [some a0,none]):=rfl
abbrev tX:List Str:=["line","named","numbered","number","values","error"]
abbrev j3:List Str:=["line"]
def mh:FS:=(aw (aI 1 (oH rV (mN fJ (ae 0) (bx (aj bt (aa (vC (.str "put ")) ak))) c6) (aa (vC (.str " ")) ak))) (aw (aI 2 (oH rV (ap bj (ae 1) (vC (.int 2))) (aa (vC (.str " ")) ak))) (aw (cN (dh (cq (aj cY (aa (ap bj (ae 1) (vC (.int 0))) ak)))) cC aF) (aw (aI 3 (aj cK (aa (ap bj (ae 2) (vC (.int 0))) ak))) (aw (aI 4 (aj ia (aa (ap bj (ae 2) (vC (.int 2))) ak))) (aw (cN (rP (b5 (ap CU (aj bt (aa (ae 4) ak)) (vC (.int 1)))) (b5 (ap C8 (aj bt (aa (ae 4) ak)) (vC kP)))) cC aF) (a7 (gI (aa (vC (.str "put")) (aa (ap bj (ae 1) (vC (.int 0))) (aa (ae 3) (aa (aj sA (aa (ae 4) ak)) ak))))))))))))
def me:List D->R D:=b7 mh tX j3
def z3 (a0:D):me [a0]=fin (mh [some a0,none,none,none,none,none]):=rfl
abbrev oM:List Str:=["line","words"]
abbrev e6:List Str:=["line"]
def cT:FS:=(aw (aI 1 (oH iX (ae 0) (aa (vC (.str " ")) ak))) (aw (cN (b5 (ap eU (ap bj (ae 1) (vC (.int 0))) (vC (.str "table")))) (a7 (aj jd (aa (ae 1) ak))) aF) (aw (cN (b5 (ap eU (ap bj (ae 1) (vC (.int 0))) (vC (.str "put")))) (a7 (aj me (aa (ae 0) ak))) aF) (aw (cN (rP (b5 (ap pY (aj bt (aa (ae 1) ak)) (vC (.int 3)))) (dh (cq (aj cY (aa (ap bj (ae 1) (vC (.int 1))) ak))))) cC aF) (aw (cN (qu (b5 (ap eU (ap bj (ae 1) (vC (.int 0))) (vC (.str "index")))) (cq (aj cY (aa (ap bj (ae 1) (vC (.int 2))) ak)))) (a7 (gI (aa (vC (.str "index")) (aa (ap bj (ae 1) (vC (.int 1))) (aa (ap bj (ae 1) (vC (.int 2))) ak))))) aF) (aw (cN (b5 (ap eU (ap bj (ae 1) (vC (.int 0))) (vC (.str "drop")))) (a7 (gI (aa (vC (.str "drop")) (aa (ap bj (ae 1) (vC (.int 1))) (aa (aj cK (aa (ap bj (ae 1) (vC (.int 2))) ak)) ak))))) aF) cC))))))
def cg:List D->R D:=b7 cT oM e6
def hV (a0:D):cg [a0]=fin (cT [some a0,none]):=rfl
abbrev uD:List Str:=["changes","body"]
abbrev nN:List Str:=["changes"]
def qg:FS:=(aw (aI 1 (oH eD (vC (.str "")) (aa (bn [none] (b8 (ae 0)) (.one 0) cc (ap aR (aj bR (aa (ae 0) ak)) (vC (.str "\n")))) ak))) (a7 (ap aR (ap aR (ap aR (oH NP (aj qC (aa (aj bt (aa (ae 1) ak)) ak)) (aa (vC gb) ak)) (vC (.str "\n"))) (ae 1)) (vC bH))))
def ni:List D->R D:=b7 qg uD nN
def Ff (a0:D):ni [a0]=fin (qg [some a0,none]):=rfl
abbrev lY:List Str:=["text","start","head","figures","end"]
abbrev gj:List Str:=["text","start"]
def jk:FS:=(aw (aI 2 (mN fJ (ae 0) (bx (ae 1)) (bx (ap aR (ae 1) (vC cJ))))) (aw (aI 3 (mN fJ (ae 2) c6 (bx (vC gb)))) (aw (cN (rP (dh (cq (aj nF (aa (bn [none] (b8 (ae 3)) (.one 0) cc (ap uO (ae 0) (vC bZ))) ak)))) (b5 (ap rg (mN fJ (ae 2) (bx (vC gb)) c6) (gI (aa (vC (.str "")) (aa (vC (.str "\n")) ak)))))) cC aF) (aw (cN (b5 (ap CU (aj bt (aa (ae 2) ak)) (vC cJ))) (a7 (vC .non)) aF) (aw (aI 4 (ap aR (ap aR (ap aR (ae 1) (vC cJ)) (aj kB (aa (ae 3) ak))) (aj bt (aa (vC bH) ak)))) (a7 (Jr (b5 (ap Cz (ae 4) (aj bt (aa (ae 0) ak)))) (ae 4) (vC .non))))))))
def b9:List D->R D:=b7 jk lY gj
def wY (a0 a1:D):b9 [a0,a1]=fin (jk [some a0,some a1,none,none,none]):=rfl
abbrev fW:List Str:=["text","start","end","body"]
abbrev cL:List Str:=["text","start","end"]
def dL:FS:=(aw (aI 3 (mN fJ (ae 0) (bx (ae 1)) (bx (ap jN (ae 2) (aj bt (aa (vC bH) ak)))))) (aw (cN (b5 (ap pY (mN fJ (ae 0) (bx (ap jN (ae 2) (aj bt (aa (vC bH) ak)))) (bx (ae 2))) (vC bH))) cC aF) (aw (cN (dh (cq (oH (sv fun x y=>.bl (Txt.endswith x y)) (ae 3) (aa (vC (.str "\n")) ak)))) cC aF) (a7 (Av (bn [none] (b8 (oH iX (mN fJ (ae 3) c6 (bx (Hv Dv (vC (.int 1))))) (aa (vC (.str "\n")) ak))) (.one 0) cc (aj cg (aa (ae 0) ak))))))))
def bW:List D->R D:=b7 dL fW cL
def qc (a0 a1 a2:D):bW [a0,a1,a2]=fin (dL [some a0,some a1,some a2,none]):=rfl
abbrev mD:List Str:=["text","records","start","end"]
abbrev dj:List Str:=["text"]
def fw:FS:=(aw (m3 1 (ee ak)) (aw (aI 2 (vC (.int 0))) (aw (aI 3 (aj b9 (aa (ae 0) (aa (ae 2) ak)))) (aw (gl (b5 (ap uz (ae 3) (vC .non))) (aw (bG 1 (gI (aa (aj bW (aa (ae 0) (aa (ap aR (ae 2) (vC cJ)) (aa (ae 3) ak)))) (aa (ae 3) ak)))) (aw (aI 2 (ae 3)) (aI 3 (aj b9 (aa (ae 0) (aa (ae 2) ak)))))) 1000) (a7 (ae 1))))))
def dl:List D->R D:=b7 fw mD dj
def sL (a0:D):dl [a0]=fin (fw [some a0,none,none,none]):=rfl
abbrev jO:List Str:=["text"]
abbrev eu:List Str:=["text"]
def gi:FS:=(a7 (Av (bn [none] (b8 (aj dl (aa (ae 0) ak))) (.one 0) cc (ap bj (ae 0) (vC (.int 0))))))
def a9:List D->R D:=b7 gi jO eu
def tQ (a0:D):a9 [a0]=fin (gi [some a0]):=rfl
abbrev rp:List Str:=["text"]
abbrev lh:List Str:=["text"]
def n5:FS:=(a7 (Av (bn [none] (b8 (aj dl (aa (ae 0) ak))) (.one 0) cc (ap bj (ae 0) (vC (.int 1))))))
def cp:List D->R D:=b7 n5 rp lh
def C0 (a0:D):cp [a0]=fin (n5 [some a0]):=rfl
abbrev vp:List Str:=["_law_found"]
abbrev lb:List Str:=["_law_found"]
def n4:FS:=(a7 (mI (aj fG (aa (ae 0) (aa (vC (.ty "int")) ak))) (zm (aj fG (aa (ae 0) (aa (vC (.ty "bool")) ak))))))
def ov:List D->R D:=b7 n4 vp lb
def C1 (a0:D):ov [a0]=fin (n4 [some a0]):=rfl
abbrev rL:List Str:=["_law_script","_law_k"]
abbrev iz:List Str:=["_law_script","_law_k"]
def kq:FS:=(aw (cN (b5 (ap CU (ae 1) (aj bt (aa (ae 0) ak)))) (a7 (ap bj (ae 0) (ae 1))) aF) (a7 (vC (.int 0))))
def bg:List D->R D:=b7 kq rL iz
def y9 (a0 a1:D):bg [a0,a1]=fin (kq [some a0,some a1]):=rfl
abbrev vH:List Str:=["_law_number"]
abbrev lA:List Str:=["_law_number"]
def ou:FS:=(a7 (ap bv (ap aR (ap fH (ae 0) (vC (.int 48271))) (vC (.int 7919))) (vC (.int 2147483647))))
def bO:List D->R D:=b7 ou vH lA
def B3 (a0:D):bO [a0]=fin (ou [some a0]):=rfl
abbrev si:List Str:=["_law_cell","_law_some","_law_found","_law_number","_law_k"]
abbrev iM:List Str:=["_law_cell"]
def kr:FS:=(aw (aI 1 (vC (.str "abcdefghijklmnopqrstuvwxyz"))) (aw (aI 2 (vC (.str ""))) (aw (aI 3 (ae 0)) (aw (uq (iT (aa (ap aR (vC (.int 1)) (ap bv (ae 0) (vC (.int 8)))) ak)) (.one 4) (aw (aI 3 (aj bO (aa (ae 3) ak))) (aI 2 (ap aR (ae 2) (ap bj (ae 1) (ap bv (ae 3) (vC (.int 26)))))))) (aw (cN (b5 (ap uO (ae 2) (ee (aa (vC (.str "and")) (aa (vC (.str "by")) (aa (vC (.str "down")) (aa (vC (.str "from")) (aa (vC (.str "none")) (aa (vC (.str "not")) (aa (vC (.str "or")) (aa (vC (.str "order")) (aa (vC (.str "show")) (aa (vC (.str "take")) (aa (vC (.str "where")) ak)))))))))))))) (a7 (ap aR (ae 2) (vC (.str "z")))) aF) (a7 (ae 2)))))))
def eB:List D->R D:=b7 kr si iM
def yH (a0:D):eB [a0]=fin (kr [some a0,none,none,none,none]):=rfl
abbrev xZ:List Str:=["_law_name","_law_cell","_law_some","_law_at","_law_step","_law_found"]
abbrev nA:List Str:=["_law_name","_law_cell"]
def qx:FS:=(aw (aI 2 (vC (.str "abcdefghijklmnopqrstuvwxyz"))) (aw (aI 3 (ap bv (ae 1) (aj bt (aa (ae 0) ak)))) (aw (aI 4 (ap aR (ap aR (oH (sv fun x y=>.int (Az x y)) (ae 2) (aa (ap bj (ae 0) (ae 3)) ak)) (vC (.int 1))) (ap bv (ap cA (ae 1) (vC (.int 8))) (vC (.int 25))))) (aw (aI 5 (ap aR (ap aR (mN fJ (ae 0) c6 (bx (ae 3))) (ap bj (ae 2) (ap bv (ae 4) (vC (.int 26))))) (mN fJ (ae 0) (bx (ap aR (ae 3) (vC (.int 1)))) c6))) (aw (cN (b5 (ap uO (ae 5) (ee (aa (vC (.str "and")) (aa (vC (.str "by")) (aa (vC (.str "down")) (aa (vC (.str "from")) (aa (vC (.str "none")) (aa (vC (.str "not")) (aa (vC (.str "or")) (aa (vC (.str "order")) (aa (vC (.str "show")) (aa (vC (.str "take")) (aa (vC (.str "where")) ak)))))))))))))) (a7 (ap aR (ae 5) (vC (.str "z")))) aF) (a7 (ae 5)))))))
def pS:List D->R D:=b7 qx xZ nA
def FK (a0 a1:D):pS [a0,a1]=fin (qx [some a0,some a1,none,none,none,none]):=rfl
abbrev pL:List Str:=["_law_name","_law_cell","_law_base","_law_many","_law_columns","_law_more","_law_j","_law_column"]
abbrev fZ:List Str:=["_law_name","_law_cell"]
def ja:FS:=(aw (aI 2 (mN fJ (aj eB (aa (ap cA (ae 1) (vC (.int 7))) ak)) c6 (bx (vC (.int 5))))) (aw (aI 3 (ap bj (ee (aa (vC (.int 1)) (aa (vC (.int 2)) (aa (vC (.int 3)) (aa (vC (.int 4)) (aa (vC (.int 2)) (aa (vC (.int 3)) (aa (vC (.int 1)) (aa (vC (.int 8)) ak))))))))) (ap bv (ae 1) (vC (.int 8))))) (aw (m3 4 (ee ak)) (aw (aI 5 (ae 1)) (aw (uq (iT (aa (ae 3) ak)) (.one 6) (aw (aI 5 (aj bO (aa (ae 5) ak))) (aw (aI 7 (ap aR (ap aR (ae 2) (vC (.str "z"))) (ap bj (vC (.str "abcdefgh")) (ae 6)))) (aw (cN (b5 (ap eU (ap bv (ap cA (ae 1) (vC (.int 8))) (vC (.int 2))) (vC (.int 1)))) (aI 7 (ap aR (ap aR (ap bj (vC (.str "abcdefgh")) (ae 6)) (vC (.str "z"))) (ae 2))) aF) (bG 4 (gI (aa (ae 7) (aa (ap bj (ee (aa (vC (.str "number")) (aa (vC (.str "text")) ak))) (ap bv (ap cA (ae 5) (vC (.int 7))) (vC (.int 2)))) ak)))))))) (a7 (gI (aa (ae 0) (aa (aj sA (aa (ae 4) ak)) ak)))))))))
def gq:List D->R D:=b7 ja pL fZ
def xy (a0 a1:D):gq [a0,a1]=fin (ja [some a0,some a1,none,none,none,none,none,none]):=rfl
abbrev rO:List Str:=["_law_cell","_law_some","_law_size","_law_found","_law_number","_law_k"]
abbrev iC:List Str:=["_law_cell"]
def kl:FS:=(aw (aI 1 (vC (.str " !\"#$&'()*+,-./0123456789:;<=>?@ABCDEFGHIJKLMNOPQRSTUVWXYZ[\\]^_`abcdefghijklmnopqrstuvwxyz{|}~"))) (aw (aI 2 (ap bv (ae 0) (vC (.int 6)))) (aw (cN (b5 (ap eU (ap bv (ap cA (ae 0) (vC (.int 6))) (vC (.int 8))) (vC (.int 1)))) (aI 2 (ap bv (ap cA (ae 0) (vC (.int 48))) (vC (.int 41)))) aF) (aw (aI 3 (vC (.str ""))) (aw (aI 4 (ae 0)) (aw (uq (iT (aa (ae 2) ak)) (.one 5) (aw (aI 4 (aj bO (aa (ae 4) ak))) (aI 3 (ap aR (ae 3) (ap bj (ae 1) (ap bv (ae 4) (vC (.int 94)))))))) (a7 (ae 3))))))))
def fO:List D->R D:=b7 kl rO iC
def xU (a0:D):fO [a0]=fin (kl [some a0,none,none,none,none,none]):=rfl
abbrev qt:List Str:=["_law_kind","_law_cell"]
abbrev gB:List Str:=["_law_kind","_law_cell"]
def jh:FS:=(aw (cN (b5 (ap eU (ap bv (ae 1) (vC (.int 5))) (vC (.int 0)))) (a7 (vC .non)) aF) (aw (cN (b5 (ap eU (ae 0) (vC (.str "text")))) (a7 (aj fO (aa (ap cA (ae 1) (vC (.int 5))) ak))) aF) (aw (cN (b5 (ap eU (ap bv (ae 1) (vC (.int 5))) (vC (.int 1)))) (a7 (ap jN (ap bv (ap fH (ap fH (ae 1) (ae 1)) (vC (.int 48271))) (ap jN (ap fH (vC (.int 2)) (ap oF (vC (.int 10)) (vC (.int 18)))) (vC (.int 1)))) (ap jN (ap oF (vC (.int 10)) (vC (.int 18))) (vC (.int 1))))) aF) (a7 (ap jN (ap bv (ap cA (ae 1) (vC (.int 5))) (vC (.int 9))) (vC (.int 3)))))))
def gk:List D->R D:=b7 jh qt gB
def xw (a0 a1:D):gk [a0,a1]=fin (jh [some a0,some a1]):=rfl
abbrev t9:List Str:=["_law_shape","_law_cell","_law_found","_law_column"]
abbrev jT:List Str:=["_law_shape","_law_cell"]
def lQ:FS:=(aw (m3 2 (ee ak)) (aw (uq (b8 (ap bj (ae 0) (vC (.int 1)))) (.one 3) (aw (aI 1 (aj bO (aa (ae 1) ak))) (bG 2 (aj gk (aa (ap bj (ae 3) (vC (.int 1))) (aa (ap cA (ae 1) (vC (.int 3))) ak)))))) (a7 (aj sA (aa (ae 2) ak)))))
def lZ:List D->R D:=b7 lQ t9 jT
def Aa (a0 a1:D):lZ [a0,a1]=fin (lQ [some a0,some a1,none,none]):=rfl
abbrev rM:List Str:=["_law_value"]
abbrev iE:List Str:=["_law_value"]
def rS:FS:=(aw (cN (b5 (ap L5 (ae 0) (vC .non))) (a7 (vC (.str "none"))) aF) (aw (cN (cq (aj fG (aa (ae 0) (aa (vC (.ty "str")) ak)))) (a7 (ap aR (ap aR (vC (.str "\"")) (Hv (ki "\"" "\"\"") (ae 0))) (vC (.str "\"")))) aF) (a7 (aj qC (aa (ae 0) ak)))))
def fR:List D->R D:=b7 rS rM iE
abbrev qy:List Str:=["_law_change"]
abbrev m6:List Str:=["_law_change"]
def jM:FS:=(aw (cN (b5 (ap eU (ap bj (ae 0) (vC (.int 0))) (vC (.str "table")))) (a7 (oH eD (vC (.str " ")) (aa (ap aR (ee (aa (vC (.str "table")) (aa (ap bj (ap bj (ae 0) (vC (.int 1))) (vC (.int 0))) ak))) (bn [none] (b8 (ap bj (ap bj (ae 0) (vC (.int 1))) (vC (.int 1)))) (.one 0) cc (ap aR (ap aR (ap bj (ae 0) (vC (.int 0))) (vC (.str " "))) (ap bj (ae 0) (vC (.int 1)))))) ak))) aF) (aw (cN (b5 (ap eU (ap bj (ae 0) (vC (.int 0))) (vC (.str "put")))) (a7 (oH eD (vC (.str " ")) (aa (ap aR (ee (aa (vC (.str "put")) (aa (ap bj (ae 0) (vC (.int 1))) (aa (aj r9 (aa (ap bj (ae 0) (vC (.int 2))) ak)) ak)))) (bn [none] (b8 (ap bj (ae 0) (vC (.int 3)))) (.one 0) cc (aj fR (aa (ae 0) ak)))) ak))) aF) (a7 (oH eD (vC (.str " ")) (aa (ee (aa (ap bj (ae 0) (vC (.int 0))) (aa (ap bj (ae 0) (vC (.int 1))) (aa (aj r9 (aa (ap bj (ae 0) (vC (.int 2))) ak)) ak)))) ak)))))
def gr:List D->R D:=b7 jM qy m6
def pR (a0:D):gr [a0]=fin (jM [some a0]):=rfl
abbrev o8:List Str:=["_law_changes","_law_body","_law_figures"]
abbrev jR:List Str:=["_law_changes"]
def ma:FS:=(aw (aI 1 (oH eD (vC (.str "")) (aa (bn [none] (b8 (ae 0)) (.one 0) cc (ap aR (aj gr (aa (ae 0) ak)) (vC (.str "\n")))) ak))) (aw (aI 2 (aj qC (aa (aj bt (aa (ae 1) ak)) ak))) (a7 (ap aR (ap aR (ap aR (ap aR (ap fH (vC (.str "0")) (ap jN (vC (.int 9)) (aj bt (aa (ae 2) ak)))) (ae 2)) (vC (.str "\n"))) (ae 1)) (vC (.str "end\n"))))))
def j0:List D->R D:=b7 ma o8 jR
def zX (a0:D):j0 [a0]=fin (ma [some a0,none,none]):=rfl
abbrev oI:List Str:=["_law_names","_law_cell","_law_name","_law_shape","_law_number"]
abbrev fb:List Str:=["_law_names","_law_cell"]
def gZ:FS:=(aw (aI 2 (ap bj (ae 0) (ap bv (ap cA (ae 1) (vC (.int 5))) (vC (.int 2))))) (aw (aI 3 (aj gq (aa (ae 2) (aa (ap cA (ae 1) (vC (.int 10))) ak)))) (aw (aI 4 (ap aR (vC (.int 1)) (ap bv (ap cA (ae 1) (vC (.int 10))) (vC (.int 9))))) (aw (cN (b5 (ap eU (ap bv (ap cA (ae 1) (vC (.int 90))) (vC (.int 4))) (vC (.int 1)))) (aI 4 (ap aR (vC (.int 1)) (ap bv (ap cA (ae 1) (vC (.int 360))) (ap oF (vC (.int 10)) (vC (.int 9)))))) aF) (aw (cN (b5 (ap eU (ap bv (ap cA (ae 1) (vC (.int 90))) (vC (.int 16))) (vC (.int 2)))) (aI 4 (ap oF (vC (.int 10)) (vC (.int 9)))) aF) (aw (cN (b5 (ap eU (ap bv (ae 1) (vC (.int 5))) (vC (.int 0)))) (a7 (gI (aa (vC (.str "table")) (aa (ae 3) ak)))) aF) (aw (cN (b5 (ap eU (ap bv (ae 1) (vC (.int 5))) (vC (.int 1)))) (a7 (gI (aa (vC (.str "index")) (aa (ae 2) (aa (ap bj (ap bj (ap bj (ae 3) (vC (.int 1))) (ap bv (ap cA (ae 1) (vC (.int 10))) (aj bt (aa (ap bj (ae 3) (vC (.int 1))) ak)))) (vC (.int 0))) ak))))) aF) (aw (cN (b5 (ap eU (ap bv (ae 1) (vC (.int 5))) (vC (.int 2)))) (a7 (gI (aa (vC (.str "drop")) (aa (ae 2) (aa (ae 4) ak))))) aF) (a7 (gI (aa (vC (.str "put")) (aa (ae 2) (aa (ae 4) (aa (aj lZ (aa (ae 3) (aa (ap cA (ae 1) (vC (.int 7))) ak))) ak))))))))))))))
def fe:List D->R D:=b7 gZ oI fb
def ve (a0 a1:D):fe [a0,a1]=fin (gZ [some a0,some a1,none,none,none]):=rfl
abbrev mo:List Str:=["_law_names","_law_cells","_law_rows","_law_turn","_law_cell","_law_more"]
abbrev gz:List Str:=["_law_names","_law_cells"]
def jc:FS:=(aw (wq 2 3 4 5 (jL (aa (ae 1) ak)) (aj bO (aa (ap fH (aj bO (aa (ap aR (ae 4) (ap fH (vC (.int 131)) (ae 3))) ak)) (ap aR (ae 3) (vC (.int 2)))) ak)) (aj fe (aa (ae 0) (aa (ae 5) ak))) (b5 (ap eU (ap bv (ap cA (ae 5) (vC (.int 4096))) (vC (.int 4))) (vC (.int 0))))) (Bv (bn [none] (b8 (ae 2)) (.one 0) (b5 (ap pY (ae 0) (ee ak))) (ae 0))))
def jb:List D->R D:=Hw jc mo gz
def wz (a0 a1:D):jb [a0,a1]=Ph (jc [some a0,some a1,none,none,none,none]):=rfl
abbrev pJ:List Str:=["_law_told","_law_ends","_law_due","_law_places"]
abbrev nJ:List Str:=["_law_told","_law_ends","_law_due","_law_places"]
def pZ:FS:=(aw (cN (rP (dh (cq (aj fG (aa (ae 0) (aa (vC (.ty "list")) ak))))) (rP (dh (cq (aj fG (aa (ae 1) (aa (vC (.ty "list")) ak))))) (rP (b5 (ap pY (ae 0) (ae 2))) (b5 (ap pY (ae 1) (ae 3)))))) (a7 (vC (.bl false))) aF) (aw (cN (b5 (ap pY (bn [none] (b8 (ae 1)) (.one 0) (dh (cq (aj ov (aa (ae 0) ak)))) (ae 0)) (ee ak))) (a7 (vC (.bl false))) aF) (a7 (ap eU (bn [none] (b8 (ae 0)) (.one 0) (dh (cq (aj fG (aa (ae 0) (aa (vC (.ty "list")) ak))))) (ae 0)) (ee ak)))))
def dY:List D->R D:=b7 pZ pJ nJ
def Ex (a0 a1 a2 a3:D):dY [a0,a1,a2,a3]=fin (pZ [some a0,some a1,some a2,some a3]):=rfl
abbrev Bh:List Str:=["_law_script","_law_names","_law_rows","_law_many","_law_text","_law_ends","_law_row","_law_told","_law_till","_law_held","_law_left"]
abbrev t5:List Str:=["_law_script"]
def A9:FS:=(aw (m3 1 (ee (aa (aj eB (aa (aj bg (aa (ae 0) (aa (vC (.int 0)) ak))) ak)) ak))) (aw (bG 1 (aj pS (aa (ap bj (ae 1) (vC (.int 0))) (aa (aj bg (aa (ae 0) (aa (vC (.int 1)) ak))) ak)))) (aw (m3 2 (aj jb (aa (ae 1) (aa (mN fJ (ae 0) (bx (vC (.int 3))) (bx (vC (.int 43)))) ak)))) (aw (cN (b5 (ap eU (ap bv (ap cA (aj bg (aa (ae 0) (aa (vC (.int 1)) ak))) (vC (.int 8))) (vC (.int 4))) (vC (.int 1)))) (aw (aI 3 (ap bv (ap cA (aj bg (aa (ae 0) (aa (vC (.int 1)) ak))) (vC (.int 32))) (vC (.int 400)))) (bG 2 (bn [none,some 1] (iT (aa (ap aR (vC (.int 1)) (ae 3)) ak)) (.one 0) cc (gI (aa (vC (.str "put")) (aa (ap bj (ae 1) (vC (.int 0))) (aa (ap aR (vC (.int 1)) (ae 0)) (aa (gI (aa (ae 0) (aa (ap fH (vC (.str "x")) (ap bv (ae 0) (vC (.int 41)))) (aa (vC .non) ak)))) ak)))))))) aF) (aw (aI 4 (vC (.str ""))) (aw (m3 5 (ee ak)) (aw (uq (b8 (ae 2)) (.one 6) (aw (aI 7 (aj ni (aa (aj DK (aa (ae 6) ak)) ak))) (aw (cN (rP (dh (cq (aj fG (aa (ae 7) (aa (vC (.ty "str")) ak))))) (b5 (ap pY (ae 7) (aj j0 (aa (ae 6) ak))))) (a7 (vC (.bl false))) aF) (aw (aI 4 (ap aR (ae 4) (ae 7))) (bG 5 (aj bt (aa (ae 4) ak))))))) (aw (aI 8 (ap bv (ap cA (aj bg (aa (ae 0) (aa (vC (.int 2)) ak))) (vC (.int 4))) (ap aR (aj bt (aa (ae 4) ak)) (vC (.int 1))))) (aw (cN (qu (b5 (ap pY (ae 5) (ee ak))) (b5 (ap CU (ap bv (aj bg (aa (ae 0) (aa (vC (.int 2)) ak))) (vC (.int 4))) (vC (.int 3))))) (aI 8 (ap jN (ap aR (ap bj (ae 5) (ap bv (ap cA (aj bg (aa (ae 0) (aa (vC (.int 2)) ak))) (vC (.int 4))) (aj bt (aa (ae 5) ak)))) (ap bv (aj bg (aa (ae 0) (aa (vC (.int 2)) ak))) (vC (.int 4)))) (vC (.int 1)))) aF) (aw (aI 3 (aj bt (aa (bn [none,some 8] (b8 (ae 5)) (.one 0) (b5 (ap Cz (ae 0) (ae 1))) (ae 0)) ak))) (aw (zd 9 10 7 4 a9 cp (dh (cq (aj dY (aa (xL (ap bj (ae 9) (vC (.int 0)))) (aa (xL (ap bj (ae 9) (vC (.int 1)))) (aa (ae 2) (aa (ae 5) ak))))))) (mN fJ (ae 4) c6 (bx (ae 8))) (dh (cq (aj dY (aa (xL (aj a9 (aa (ae 10) ak))) (aa (xL (aj cp (aa (ae 10) ak))) (aa (mN fJ (ae 2) c6 (bx (ae 3))) (aa (mN fJ (ae 5) c6 (bx (ae 3))) ak))))))) (dh (cq (aj dY (aa (xL (ap bj (ae 9) (vC (.int 0)))) (aa (xL (ap bj (ae 9) (vC (.int 1)))) (aa (ae 2) (aa (ae 5) ak)))))))) (a7 (aj dY (aa (xL (aj a9 (aa (ae 4) ak))) (aa (xL (aj cp (aa (ae 4) ak))) (aa (ae 2) (aa (ae 5) ak)))))))))))))))))
def vD:List D->R D:=b7 A9 Bh t5
def MD (a0:D):vD [a0]=fin (A9 [some a0,none,none,none,none,none,none,none,none,none,none]):=rfl
def kb (i:Nat):Stmt:=PySem.Challenge.pw_tablestore_k52_cut_anywhere.main.body.getD i (.Pass ⟨0,0,0,0⟩)
abbrev rj:Stmt:=kb 9
local macro_rules | `(tactic| walk_at "sc") => `(tactic| exact ⟨rfl, rfl, rfl, by decide +kernel, rfl, by decide +kernel, by decide +kernel⟩)
def zO:FnScope vB ld (am rj):=by walk_at "sc"
abbrev lM:Stmt:=kb 8
def yp:FnScope pE jU (am lM):=by walk_at "sc"
abbrev qP:Stmt:=kb 10
def zQ:FnScope vS lq (am qP):=by walk_at "sc"
abbrev nH:Stmt:=kb 12
def l3:FnScope rZ iH (am nH):=by walk_at "sc"
abbrev ik:Stmt:=kb 13
def nC:FnScope kO fm (am ik):=by walk_at "sc"
abbrev lS:Stmt:=kb 11
def vj:FnScope qb gh (am lS):=by walk_at "sc"
abbrev nj:Stmt:=kb 15
def cF:FnScope rQ iK (am nj):=by walk_at "sc"
abbrev ij:Stmt:=kb 14
def ud:FnScope kN fh (am ij):=by walk_at "sc"
abbrev iQ:Stmt:=kb 18
def rq:FnScope mG dm (am iQ):=by walk_at "sc"
abbrev ng:Stmt:=kb 25
def wE:FnScope sd iw (am ng):=by walk_at "sc"
abbrev oo:Stmt:=kb 24
def zD:FnScope ro lu (am oo):=by walk_at "sc"
abbrev gS:Stmt:=kb 30
def qA:FnScope lg cX (am gS):=by walk_at "sc"
abbrev qX:Stmt:=kb 27
def Aj:FnScope vo lp (am qX):=by walk_at "sc"
abbrev nL:Stmt:=kb 29
def wZ:FnScope rX iI (am nL):=by walk_at "sc"
abbrev ff:Stmt:=kb 28
def nM:FnScope hJ fc (am ff):=by walk_at "sc"
abbrev pv:Stmt:=kb 26
def yT:FnScope uy jF (am pv):=by walk_at "sc"
abbrev lX:Stmt:=kb 37
def kK:FnScope pU gx (am lX):=by walk_at "sc"
abbrev mi:Stmt:=kb 38
def y8:FnScope pw jK (am mi):=by walk_at "sc"
abbrev kX:Stmt:=kb 36
def mY:FnScope oT eZ (am kX):=by walk_at "sc"
abbrev jf:Stmt:=kb 40
def kT:FnScope mn gc (am jf):=by walk_at "sc"
abbrev dH:Stmt:=kb 42
def j5:FnScope gA cH (am dH):=by walk_at "sc"
abbrev pb:Stmt:=kb 41
def iJ:FnScope tX j3 (am pb):=by walk_at "sc"
abbrev kZ:Stmt:=kb 39
def nn:FnScope oM e6 (am kZ):=by walk_at "sc"
abbrev pQ:Stmt:=kb 43
def vL:FnScope uD nN (am pQ):=by walk_at "sc"
abbrev i9:Stmt:=kb 49
def ii:FnScope lY gj (am i9):=by walk_at "sc"
abbrev dC:Stmt:=kb 50
def j4:FnScope fW cL (am dC):=by walk_at "sc"
abbrev iS:Stmt:=kb 48
def cj:FnScope mD dj (am iS):=by walk_at "sc"
abbrev gg:Stmt:=kb 46
def sx:FnScope jO eu (am gg):=by walk_at "sc"
abbrev oz:Stmt:=kb 47
def AO:FnScope rp lh (am oz):=by walk_at "sc"
abbrev rE:Stmt:=kb 52
def AH:FnScope vp lb (am rE):=by walk_at "sc"
abbrev nt:Stmt:=kb 53
def xi:FnScope rL iz (am nt):=by walk_at "sc"
abbrev rk:Stmt:=kb 54
def AI:FnScope vH lA (am rk):=by walk_at "sc"
abbrev nZ:Stmt:=kb 55
def dc:FnScope si iM (am nZ):=by walk_at "sc"
abbrev ul:Stmt:=kb 56
def lC:FnScope xZ nA (am ul):=by walk_at "sc"
abbrev lJ:Stmt:=kb 57
def bQ:FnScope pL fZ (am lJ):=by walk_at "sc"
abbrev mT:Stmt:=kb 58
def ca:FnScope rO iC (am mT):=by walk_at "sc"
abbrev lW:Stmt:=kb 59
def uS:FnScope qt gB (am lW):=by walk_at "sc"
abbrev pj:Stmt:=kb 60
def kt:FnScope t9 jT (am pj):=by walk_at "sc"
abbrev mQ:Stmt:=kb 61
def wx:FnScope rM iE (am mQ):=by walk_at "sc"
abbrev nD:Stmt:=kb 62
def B5:FnScope qy m6 (am nD):=by walk_at "sc"
abbrev lI:Stmt:=kb 63
def mU:FnScope o8 jR (am lI):=by walk_at "sc"
abbrev kL:Stmt:=kb 64
def cZ:FnScope oI fb (am kL):=by walk_at "sc"
abbrev i8:Stmt:=kb 65
def ig:FnScope mo gz (am i8):=by walk_at "sc"
abbrev m4:Stmt:=kb 66
def CZ:FnScope pJ nJ (am m4):=by walk_at "sc"
abbrev sr:Stmt:=kb 67
def gP:FnScope Bh t5 (am sr):=by walk_at "sc"
structure Txt (w:World) (K:PySem.W.Frag) (mg:Str->Option Value) (f1 f2 f3 f4 f5 f6 f7 f8 f9 f10 f11 f12 f13 f14 f15 f16 f17 f18 f19 f20 f21 f22 f23 f24 f25 f26 f27 f28 f29 f30 f31 f32 f33 f34 f35 f36 f37 f38 f39 f40 f41 f42 f43 f44 f45:Addr) (d1 d2 d3 d4 d5 d6 d7 d8 d9 d10 d11 d12 d13 d14 d15 d16 d17 d18 d19 d20 d21 d22 d23 d24 d25 d26 d27 d28 d29 d30 d31 d32 d33 d34 d35 d36 d37 d38 d39 d40 d41 d42 d43 d44 d45:FuncData) (tk_FIGURES:Tok) (tk_MOST_SIGNS:Tok) (tk_MOST_FIGURES_values:Tok) (tk_MOST_ROW_NUMBER:Tok) (a_NO_NAMES:Addr) (a_COLUMN_KINDS:Addr) (tk_MOST_LETTERS:Tok) (tk_MOST_COLUMNS:Tok) (tk_MOST_FIGURES_records:Tok) (tk_MOST_VALUES:Tok) (tk_SIZE_FIGURES:Tok) (tk_RECORD_END:Tok) (tk_HEAD_SIGNS:Tok):Prop where
 oA:Def K mg "is_sign" rj ld f1 d1
 mq:Def K mg "is_value" lM jU f2 d2
 oB:Def K mg "written" qP lq f3 d3
 kE:Def K mg "read_text" nH iH f4 d4
 il:Def K mg "read_number" ik fm f5 d5
 jm:Def K mg "read_value" lS gh f6 d6
 kF:Def K mg "pieces_of" nj iK f7 d7
 im:Def K mg "read_values" ij fh f8 d8
 fF:Def K mg "is_row_number" iQ dm f9 d9
 kG:Def K mg "is_letter" ng iw f10 d10
 fS:Def K mg "is_name" oo lu f11 d11
 eN:Def K mg "is_column_kind" gS cX f12 d12
 lD:Def K mg "is_pair" qX lp f13 d13
 kH:Def K mg "is_column" nL iI f14 d14
 io:Def K mg "are_columns" ff fc f15 d15
 mr:Def K mg "is_shape" pv jF f16 d16
 jo:Def K mg "table_text" lX gx f17 d17
 ms:Def K mg "row_text" mi jK f18 d18
 iq:Def K mg "change_text" kX eZ f19 d19
 jp:Def K mg "read_table" jf gc f20 d20
 cP:Def K mg "read_row_number" dH cH f21 d21
 mv:Def K mg "read_put" pb j3 f22 d22
 ir:Def K mg "read_change" kZ e6 f23 d23
 qD:Def K mg "record" pQ nN f24 d24
 gC:Def K mg "record_end" i9 gj f25 d25
 dQ:Def K mg "changes_between" dC cL f26 d26
 dq:Def K mg "whole_records" iS dj f27 d27
 c5:Def K mg "read_records" gg eu f28 d28
 jA:Def K mg "ends_in" oz lh f29 d29
 oC:Def K mg "_law_whole" rE lb f30 d30
 bU:Def K mg "_law_cell_at" nt iz f31 d31
 eO:Def K mg "_law_mixed" rk lA f32 d32
 iO:Def K mg "_law_name_by" nZ iM f33 d33
 qE:Def K mg "_law_twin" ul nA f34 d34
 jq:Def K mg "_law_shape_by" lJ fZ f35 d35
 kI:Def K mg "_law_text_by" mT iC f36 d36
 jr:Def K mg "_law_value_by" lW gB f37 d37
 mw:Def K mg "_law_row_by" pj jT f38 d38
 kJ:Def K mg "_law_written" mQ iE f39 d39
 qF:Def K mg "_law_line" nD m6 f40 d40
 mx:Def K mg "_law_record" lI jR f41 d41
 iu:Def K mg "_law_change_by" kL fb f42 d42
 jt:Def K mg "_law_lists_by" i8 gz f43 d43
 j7:Def K mg "_law_read" m4 nJ f44 d44
 F1:Def K mg "law" sr t5 f45 d45
 rG:mg "FIGURES"=some (.str "0123456789" tk_FIGURES)
 rH:bB (.str "0123456789") (.str "0123456789" tk_FIGURES)
 rJ:∀ H,dR K H bZ (.str "0123456789")
 xI:mg "MOST_SIGNS"=some (.int 40 tk_MOST_SIGNS)
 xJ:bB (.int 40) (.int 40 tk_MOST_SIGNS)
 xK:∀ H,dR K H lK (.int 40)
 mJ:mg "MOST_FIGURES_values"=some (.int 18 tk_MOST_FIGURES_values)
 mL:bB (.int 18) (.int 18 tk_MOST_FIGURES_values)
 mM:∀ H,dR K H bN (.int 18)
 qG:mg "MOST_ROW_NUMBER"=some (.int 1000000000 tk_MOST_ROW_NUMBER)
 qH:bB (.int 1000000000) (.int 1000000000 tk_MOST_ROW_NUMBER)
 qI:∀ H,dR K H fX (.int 1000000000)
 L4:∃ ob,K.lookup a_NO_NAMES=some ob/\ob.cls=.type "tuple"/\ob.dict=none
 AZ:mg "NO_NAMES"=some (.ref a_NO_NAMES)
 A0:bB (.ref a_NO_NAMES) (.ref a_NO_NAMES)
 A1:∀ H,dR K H pp (.ref a_NO_NAMES)
 F2:∃ ob,K.lookup a_COLUMN_KINDS=some ob/\ob.cls=.type "tuple"/\ob.dict=none
 uF:mg "COLUMN_KINDS"=some (.ref a_COLUMN_KINDS)
 uG:bB (.ref a_COLUMN_KINDS) (.ref a_COLUMN_KINDS)
 uH:∀ H,dR K H m7 (.ref a_COLUMN_KINDS)
 uI:mg "MOST_LETTERS"=some (.int 8 tk_MOST_LETTERS)
 uJ:bB (.int 8) (.int 8 tk_MOST_LETTERS)
 uK:∀ H,dR K H jD (.int 8)
 uL:mg "MOST_COLUMNS"=some (.int 8 tk_MOST_COLUMNS)
 uM:bB (.int 8) (.int 8 tk_MOST_COLUMNS)
 uN:∀ H,dR K H jW (.int 8)
 my:mg "MOST_FIGURES_records"=some (.int 10 tk_MOST_FIGURES_records)
 mz:bB (.int 10) (.int 10 tk_MOST_FIGURES_records)
 mB:∀ H,dR K H bI (.int 10)
 vk:mg "MOST_VALUES"=some (.int 8 tk_MOST_VALUES)
 vm:bB (.int 8) (.int 8 tk_MOST_VALUES)
 vn:∀ H,dR K H kP (.int 8)
 j8:mg "SIZE_FIGURES"=some (.int 9 tk_SIZE_FIGURES)
 j9:bB (.int 9) (.int 9 tk_SIZE_FIGURES)
 ka:∀ H,dR K H gb (.int 9)
 gE:mg "RECORD_END"=some (.str "end\n" tk_RECORD_END)
 gF:bB (.str "end\n") (.str "end\n" tk_RECORD_END)
 gG:∀ H,dR K H bH (.str "end\n")
 ju:mg "HEAD_SIGNS"=some (.int 10 tk_HEAD_SIGNS)
 jw:bB (.int 10) (.int 10 tk_HEAD_SIGNS)
 jx:∀ H,dR K H cJ (.int 10)
 bb:mg "isinstance"=none
 lF:mg "str"=none
 v0:mg "all"=none
 ci:mg "len"=none
 A2:mg "bool"=none
 v5:mg "int"=none
 QL:mg "abs"=none
 sw:mg "enumerate"=none
 oD:mg "tuple"=none
 QM:mg "set"=none
 qJ:mg "range"=none
 oW:mg "list"=none
section
variable {P:Program} {w:World} {K:PySem.W.Frag} {mg:Str->Option Value} {base:Heap} {f1 f2 f3 f4 f5 f6 f7 f8 f9 f10 f11 f12 f13 f14 f15 f16 f17 f18 f19 f20 f21 f22 f23 f24 f25 f26 f27 f28 f29 f30 f31 f32 f33 f34 f35 f36 f37 f38 f39 f40 f41 f42 f43 f44 f45:Addr} {d1 d2 d3 d4 d5 d6 d7 d8 d9 d10 d11 d12 d13 d14 d15 d16 d17 d18 d19 d20 d21 d22 d23 d24 d25 d26 d27 d28 d29 d30 d31 d32 d33 d34 d35 d36 d37 d38 d39 d40 d41 d42 d43 d44 d45:FuncData} {tk_FIGURES:Tok} {tk_MOST_SIGNS:Tok} {tk_MOST_FIGURES_values:Tok} {tk_MOST_ROW_NUMBER:Tok} {a_NO_NAMES:Addr} {a_COLUMN_KINDS:Addr} {tk_MOST_LETTERS:Tok} {tk_MOST_COLUMNS:Tok} {tk_MOST_FIGURES_records:Tok} {tk_MOST_VALUES:Tok} {tk_SIZE_FIGURES:Tok} {tk_RECORD_END:Tok} {tk_HEAD_SIGNS:Tok}
variable (T:Txt w K mg f1 f2 f3 f4 f5 f6 f7 f8 f9 f10 f11 f12 f13 f14 f15 f16 f17 f18 f19 f20 f21 f22 f23 f24 f25 f26 f27 f28 f29 f30 f31 f32 f33 f34 f35 f36 f37 f38 f39 f40 f41 f42 f43 f44 f45 d1 d2 d3 d4 d5 d6 d7 d8 d9 d10 d11 d12 d13 d14 d15 d16 d17 d18 d19 d20 d21 d22 d23 d24 d25 d26 d27 d28 d29 d30 d31 d32 d33 d34 d35 d36 d37 d38 d39 d40 d41 d42 d43 d44 d45 tk_FIGURES tk_MOST_SIGNS tk_MOST_FIGURES_values tk_MOST_ROW_NUMBER a_NO_NAMES a_COLUMN_KINDS tk_MOST_LETTERS tk_MOST_COLUMNS tk_MOST_FIGURES_records tk_MOST_VALUES tk_SIZE_FIGURES tk_RECORD_END tk_HEAD_SIGNS)
include T
def Ag:FnOk P w K mg base eX 1 f1 d1 ld (iP K mg jz):=by
 exact T.oA.F.okD (φ:=oi) (O':=[]) zO (fun cdv A outer s H E hr=>(aq (aA (kD (iB Q8 Ri (af 0) az (aE _)) (oN (iB L9 L8 (af 0) az (aE _)))))))
def yJ:FnOk P w K mg base eX 2 f2 d2 jU (iP K mg jX):=by
 exact T.mq.F.okD (φ:=lP) (O':=[]) yp (fun cdv A outer s H E hr=>(al (bc (aX K (aC (iG K) (m8 K) T.bb aW (ab (af 0) (ab (nT T.lF gQ) ai)))) (aq (aA (kD (iB L9 L8 (aC (fI K) (fV K) T.ci bA (ab (af 0) ai)) (cb T.xI T.xJ T.xK) (aE _)) (oN (aC (ll K rfl) (CC K) T.v0 rD (ab (cI (de (Wb:=⟨K,mg,E0⟩) (osc:=am lM) (ON:=pE) (N:=["sign"]) (ix:=[none]) (by decide +kernel) (cD K (af 0)) (fun _=>(bD (i:=0) (by decide) (by decide +kernel:(["sign"]:List Str).Nodup) rfl (Or.inl rfl))) (fun _=>cy) (fun _=>(aB T.oA (Ag T) hr (ab (af 0) ai))) (bw (by decide)))) ai)))))) aL) (al (bc (cV (sY (aX K (aC (iG K) (m8 K) T.bb aW (ab (af 0) (ab (nT T.v5 qL) ai)))) (pG (cu (aX K (aC (iG K) (m8 K) T.bb aW (ab (af 0) (ab (nT T.A2 wg) ai)))))))) (aq (aA (iB Kb JP (aC Ro RN T.QL LD (ab (af 0) ai)) (aH DA Ev ao ao) (aE _)))) aL) (aq (aA (iB RZ RT (af 0) qe (aE _)))))))
def Ax:FnOk P w K mg base eX 1 f3 d3 lq (iP K mg gM):=by
 exact T.oB.F.okD1 (φ:=om) (O':=[]) zQ rfl rfl (fun cdv A outer s H E hr=>(al (bc (aO RZ RT (af 0) qe (aE _)) (aq (aA az)) aL) (al (bc (aX K (aC (iG K) (m8 K) T.bb aW (ab (af 0) (ab (nT T.lF gQ) ai)))) (aq (aA (aH (bo K) (cf K) (aH (bo K) (cf K) az (n0 (y:="\"") (w:="\"\"") (Nat.le_refl _) (af 0))) az))) aL) (aq (aA (fD yF BZ T.lF gQ (ab (af 0) ai)))))))
def wv:FnOk P w K mg base eX 3 f4 d4 iH (iP K mg iL):=by
 exact T.kE.F.okD1 (φ:=kA) (O':=[]) l3 rfl rfl (fun cdv A outer s H E hr=>(al (bc (cV (iZ (aO Kb JP (aC (fI K) (fV K) T.ci bA (ab (af 0) ai)) ao (aE _)) (jE (cu (aX K (kQ PySem.F.slot_str_endswith PySem.F.type_str_endswith se IL (af 0) (ab az ai))))))) (aq bT) aL) (al (aK (i:=1) (by decide) l3.nd (Or.inl rfl) (cz (xN K) (xO K) (af 0) (bC ao) (bC (LG JV Jv ao)))) (al (bc (aO (zB K) (Ka K) az (n0 (y:="\"\"") (w:="") (Nat.le_refl _) (af 1)) (by with_unfolding_all rfl)) (aq bT) aL) (al (aK (i:=2) (by decide) l3.nd (Or.inl rfl) (n0 (y:="\"\"") (w:="\"") (Nat.le_refl _) (af 1))) (al (bc (cu (aX K (aB T.mq (yJ T) hr (ab (af 2) ai)))) (aq bT) aL) (aq (aA (af 2)))))))))
def uj:FnOk P w K mg base eX 1 f5 d5 fm (iP K mg hU):=by
 exact T.il.F.okD (φ:=ie) (O':=[]) nC (fun cdv A outer s H E hr=>(al (aK (i:=1) (by decide) nC.nd (Or.inl rfl) (I0 (aX K (kQ PySem.F.slot_str_startswith PySem.F.type_str_startswith gY sO (af 0) (ab az ai))) (cz (xN K) (xO K) (af 0) (bC ao) fz) (af 0))) (al (bc (cV (iZ (aO (fK K hr.units) (pf K) (af 1) az (aE _)) (jE (cu (aX K (aC (ll K rfl) (CC K) T.v0 rD (ab (cI (de (Wb:=⟨K,mg,E0⟩) (osc:=am ik) (ON:=kO) (N:=["sign"]) (ix:=[none]) (by decide +kernel) (cD K (af 1)) (fun _=>(bD (i:=0) (by decide) (by decide +kernel:(["sign"]:List Str).Nodup) rfl (Or.inl rfl))) (fun _=>cy) (fun _=>(iB (zB K) (Ka K) (af 0) (cb T.rG T.rH T.rJ) (by with_unfolding_all rfl))) (bw (by decide)))) ai))))))) (aq bT) aL) (al (bc (cV (sY (aX K (kQ PySem.F.slot_str_startswith PySem.F.type_str_startswith gY sO (af 1) (ab az ai))) (pG (aO (vd K hr.units) (Hf K) (af 0) az (aE _))))) (aq bT) aL) (al (bc (aO P9 Qc (aC (fI K) (fV K) T.ci bA (ab (af 1) ai)) (cb T.mJ T.mL T.mM) (aE _)) (aq bT) aL) (aq (aA (fD DP Fv T.v5 qL (ab (af 0) ai)))))))))
def u5:FnOk P w K mg base eX 4 f6 d6 gh (iP K mg cM):=by
 exact T.jm.F.okD (φ:=ji) (O':=[]) vj (fun cdv A outer s H E hr=>(al (bc (aO (fK K hr.units) (pf K) (af 0) az (aE _)) (aq (aA qe)) aL) (al (bc (aX K (kQ PySem.F.slot_str_startswith PySem.F.type_str_startswith gY sO (af 0) (ab az ai))) (aq (aA (aB T.kE (wv T) hr (ab (af 0) ai)))) aL) (aq (aA (aB T.il (uj T) hr (ab (af 0) ai)))))))
def wO:FnOk P w K mg base eX 1 f7 d7 iK (iP K mg fN):=by
 exact T.kF.F.okD (φ:=kx) (O':=[]) cF (fun cdv A outer s H E hr=>(al (mj (i:=1) (by decide) cF.nd (Or.inl rfl) (fP ai)) (al (aK (i:=2) (by decide) cF.nd (Or.inl rfl) ao) (al (aK (i:=3) (by decide) cF.nd (Or.inl rfl) uU) (al (oZ PassesOwn.never (qj T.sw (ab (af 0) ai)) (LF K (yD (bD (i:=4) (by decide) cF.nd rfl (Or.inl rfl)) (yD (bD (i:=5) (by decide) cF.nd rfl (Or.inl rfl)) G8))) (al (bc (aO (fK K hr.units) (pf K) (af 5) az (aE _)) (aq (aK (i:=3) (by decide) cF.nd (Or.inl rfl) (FV (af 3)))) aL) (aq (bc (cV (sY (aO (fK K hr.units) (pf K) (af 5) az (aE _)) (pG (cu (aX K (af 3)))))) (al (eI (i:=1) (by decide) (cz (xN K) (xO K) (af 0) (bC (af 2)) (bC (af 4)))) (aq (aK (i:=2) (by decide) cF.nd (Or.inl rfl) (aH (bo K) (cf K) (af 4) ao)))) aL)))) (al (eI (i:=1) (by decide) (cz (xN K) (xO K) (af 0) (bC (af 2)) fz)) (oX (O:=[1]) (O2:=[]) (aq (aA (af 1))))))))))
def uv:FnOk P w K mg base eX 5 f8 d8 fh (iP K mg ia):=by
 exact T.im.F.okD (φ:=ib) (O':=[]) ud (fun cdv A outer s H E hr=>(al (bc (aO (fK K hr.units) (pf K) (af 0) az (aE _)) (aq (aA (cI (fP ai)))) aL) (aq (aA (cI (de (Wb:=⟨K,mg,E0⟩) (osc:=am ij) (ON:=kN) (N:=["piece"]) (ix:=[none]) (by decide +kernel) (cD K (aB T.kF (wO T) hr (ab (af 0) ai))) (fun _=>(bD (i:=0) (by decide) (by decide +kernel:(["piece"]:List Str).Nodup) rfl (Or.inl rfl))) (fun _=>cy) (fun _=>(aB T.jm (u5 T) hr (ab (af 0) ai))) (bw (by decide))))))))
def qY:FnOk P w K mg base eX 1 f9 d9 dm (iP K mg fv):=by
 exact T.fF.F.okD (φ:=fE) (O':=[]) rq (fun cdv A outer s H E hr=>(aq (aA (kD (aC (iG K) (m8 K) T.bb aW (ab (af 0) (ab (nT T.v5 qL) ai))) (kD (FV (aC (iG K) (m8 K) T.bb aW (ab (af 0) (ab (nT T.A2 wg) ai)))) (kD (iB Q8 Ri (af 0) ao (aE _)) (oN (iB L9 L8 (af 0) (cb T.qG T.qH T.qI) (aE _)))))))))
def xE:FnOk P w K mg base eX 1 f10 d10 iw (iP K mg fM):=by
 exact T.kG.F.okD (φ:=ky) (O':=[]) wE (fun cdv A outer s H E hr=>(aq (aA (kD (iB Q8 Ri (af 0) az (aE _)) (oN (iB L9 L8 (af 0) az (aE _)))))))
def jH:FnOk P w K mg base eX 2 f11 d11 lu (iP K mg cY):=by
 exact T.fS.F.okD (φ:=ow) (O':=[]) zD (fun cdv A outer s H E hr=>(al (bc (cV (iZ (cu (aX K (aC (iG K) (m8 K) T.bb aW (ab (af 0) (ab (nT T.lF gQ) ai))))) (iZ (aO (fK K hr.units) (pf K) (af 0) az (aE _)) (jE (aO P9 Qc (aC (fI K) (fV K) T.ci bA (ab (af 0) ai)) (cb T.uI T.uJ T.uK) (aE _)))))) (aq (aA uU)) aL) (aq (aA (kD (aC (ll K rfl) (CC K) T.v0 rD (ab (cI (de (Wb:=⟨K,mg,E0⟩) (osc:=am oo) (ON:=ro) (N:=["sign"]) (ix:=[none]) (by decide +kernel) (cD K (af 0)) (fun _=>(bD (i:=0) (by decide) (by decide +kernel:(["sign"]:List Str).Nodup) rfl (Or.inl rfl))) (fun _=>cy) (fun _=>(aB T.kG (xE T) hr (ab (af 0) ai))) (bw (by decide)))) ai)) (oN (iB (Bo K) (Fo K) (af 0) (cb T.AZ T.A0 T.A1) (by with_unfolding_all rfl))))))))
def qp:FnOk P w K mg base eX 1 f12 d12 cX (iP K mg cW):=by
 exact T.eN.F.okD (φ:=eG) (O':=[]) qA (fun cdv A outer s H E hr=>(aq (aA (kD (aC (iG K) (m8 K) T.bb aW (ab (af 0) (ab (nT T.lF gQ) ai))) (oN (iB (zB K) (Ka K) (af 0) (cb T.uF T.uG T.uH) (by with_unfolding_all rfl)))))))
def tV:FnOk P w K mg base eX 1 f13 d13 lp (iP K mg gO):=by
 exact T.lD.F.okD (φ:=ln) (O':=[]) Aj (fun cdv A outer s H E hr=>(aq (aA (kD (aC (iG K) (m8 K) T.bb aW (ab (af 0) (ab (nT T.oD m9) ai))) (oN (iB (fK K hr.units) (pf K) (aC (fI K) (fV K) T.ci bA (ab (af 0) ai)) ao (aE _)))))))
def wu:FnOk P w K mg base eX 3 f14 d14 iI (iP K mg c7):=by
 exact T.kH.F.okD (φ:=kj) (O':=[]) wZ (fun cdv A outer s H E hr=>(aq (aA (kD (aB T.lD (tV T) hr (ab (af 0) ai)) (kD (aB T.fS (jH T) hr (ab (bu (dU K) (eF K) (af 0) ao) ai)) (oN (aB T.eN (qp T) hr (ab (bu (dU K) (eF K) (af 0) ao) ai))))))))
def uA:FnOk P w K mg base eX 4 f15 d15 fc (iP K mg cU):=by
 exact T.io.F.okD (φ:=hZ) (O':=[]) nM (fun cdv A outer s H E hr=>(al (bc (cV (iZ (cu (aX K (aC (iG K) (m8 K) T.bb aW (ab (af 0) (ab (nT T.oD m9) ai))))) (iZ (aO Kb JP (aC (fI K) (fV K) T.ci bA (ab (af 0) ai)) ao (aE _)) (jE (aO P9 Qc (aC (fI K) (fV K) T.ci bA (ab (af 0) ai)) (cb T.uL T.uM T.uN) (aE _)))))) (aq (aA uU)) aL) (al (bc (cu (aX K (aC (ll K rfl) (CC K) T.v0 rD (ab (cI (de (Wb:=⟨K,mg,E0⟩) (osc:=am ff) (ON:=hJ) (N:=["column"]) (ix:=[none]) (by decide +kernel) (cD K (af 0)) (fun _=>(bD (i:=0) (by decide) (by decide +kernel:(["column"]:List Str).Nodup) rfl (Or.inl rfl))) (fun _=>cy) (fun _=>(aB T.kH (wu T) hr (ab (af 0) ai))) (bw (by decide)))) ai)))) (aq (aA uU)) aL) (al (Bc (by decide) (Bs (i:=1) nM.nd (Or.inl rfl) (Wb:=⟨K,mg,E0⟩) (osc:=am ff) (ON:=hJ) (N:=["column"]) (ix:=[none]) (by decide +kernel) (cD K (af 0)) (fun _=>(bD (i:=0) (by decide) (by decide +kernel:(["column"]:List Str).Nodup) rfl (Or.inl rfl))) (fun _=>cy) (fun _=>(bu (dU K) (eF K) (af 0) ao)) (bw (by decide)))) (aq (aA (iB (fK K hr.units) (pf K) (EZ T.ci T.QM (ab (af 1) ai)) (aC (fI K) (fV K) T.ci bA (ab (af 1) ai)) (aE _))))))))
def yC:FnOk P w K mg base eX 5 f16 d16 jF (iP K mg jJ):=by
 exact T.mr.F.okD (φ:=mm) (O':=[]) yT (fun cdv A outer s H E hr=>(aq (aA (kD (aB T.lD (tV T) hr (ab (af 0) ai)) (kD (aB T.fS (jH T) hr (ab (bu (dU K) (eF K) (af 0) ao) ai)) (oN (aB T.io (uA T) hr (ab (bu (dU K) (eF K) (af 0) ao) ai))))))))
def uQ:FnOk P w K mg base eX 1 f17 d17 gx (iP K mg jl):=by
 exact T.jo.F.okD (φ:=jj) (O':=[]) kK (fun cdv A outer s H E hr=>(al (mj (i:=1) (by decide) kK.nd (Or.inl rfl) (fP (ab az (ab (bu (dU K) (eF K) (af 0) ao) ai)))) (al (oZ PassesOwn.never (cD K (bu (dU K) (eF K) (af 0) ao)) (bD (i:=2) (by decide) kK.nd rfl (Or.inl rfl)) (aq (CH (i:=1) (by decide) (af 2)))) (oX (O:=[1]) (O2:=[]) (aq (aA (kQ PySem.F.slot_str_join PySem.F.type_str_join (kv K) (r8 K) az (ab (af 1) ai))))))))
def yv:FnOk P w K mg base eX 2 f18 d18 jK (iP K mg lV):=by
 exact T.ms.F.okD (φ:=lL) (O':=[]) y8 (fun cdv A outer s H E hr=>(aq (aA (kQ PySem.F.slot_str_join PySem.F.type_str_join (kv K) (r8 K) az (ab (cI (de (Wb:=⟨K,mg,E0⟩) (osc:=am mi) (ON:=pw) (N:=["value"]) (ix:=[none]) (by decide +kernel) (cD K (af 0)) (fun _=>(bD (i:=0) (by decide) (by decide +kernel:(["value"]:List Str).Nodup) rfl (Or.inl rfl))) (fun _=>cy) (fun _=>(aB T.oB (Ax T) hr (ab (af 0) ai))) (bw (by decide)))) ai)))))
def uc:FnOk P w K mg base eX 3 f19 d19 eZ (iP K mg bR):=by
 exact T.iq.F.okD (φ:=cR) (O':=[]) mY (fun cdv A outer s H E hr=>(al (bc (aO (fK K hr.units) (pf K) (bu (dU K) (eF K) (af 0) ao) az (aE _)) (aq (aA (aB T.jo (uQ T) hr (ab (bu (dU K) (eF K) (af 0) ao) ai)))) aL) (al (bc (aO (fK K hr.units) (pf K) (bu (dU K) (eF K) (af 0) ao) az (aE _)) (aq (aA (kQ PySem.F.slot_str_join PySem.F.type_str_join (FO K) (Ld K) az (ab (af 0) ai)))) aL) (al (mj (i:=1) (by decide) mY.nd (Or.inl rfl) (fP (ab (bu (dU K) (eF K) (af 0) ao) (ab (bu (dU K) (eF K) (af 0) ao) (ab (fD Dy Eg T.lF gQ (ab (bu (dU K) (eF K) (af 0) ao) ai)) ai))))) (al (bc (aO (fK K hr.units) (pf K) (bu (dU K) (eF K) (af 0) ao) az (aE _)) (aq (eI (i:=1) (by decide) (aB T.ms (yv T) hr (ab (bu (dU K) (eF K) (af 0) ao) ai)))) aL) (oX (O:=[1]) (O2:=[]) (aq (aA (kQ PySem.F.slot_str_join PySem.F.type_str_join (kv K) (r8 K) az (ab (af 1) ai))))))))))
def vh:FnOk P w K mg base eX 6 f20 d20 gc (iP K mg jd):=by
 exact T.jp.F.okD (φ:=je) (O':=[]) kT (fun cdv A outer s H E hr=>(al (Bc (by decide) (Bs (i:=1) kT.nd (Or.inl rfl) (Wb:=⟨K,mg,E0⟩) (osc:=am jf) (ON:=mn) (N:=["place","words"]) (ix:=[none,some 0]) (by decide +kernel) (Cq T.qJ (ab ao (ab (aH we xA (aC (fI K) (fV K) T.ci bA (ab (af 0) ai)) ao) (ab ao ai)))) (fun _=>(bD (i:=0) (by decide) (by decide +kernel:(["place","words"]:List Str).Nodup) rfl (Or.inl rfl))) (fun _=>cy) (fun _=>(iY (ab (bu (dU K) (eF K) (af 1) (af 0)) (ab (bu (dU K) (eF K) (af 1) (aH (bo K) (cf K) (af 0) ao)) ai)))) (bw (by decide)))) (al (bc (aO (vd K hr.units) (Hf K) (aC (fI K) (fV K) T.ci bA (ab (af 0) ai)) (aH (bo K) (cf K) ao (aH qf xb ao (aC (fI K) (fV K) T.ci bA (ab (af 1) ai)))) (aE _)) (aq bT) aL) (al (aK (i:=2) (by decide) kT.nd (Or.inl rfl) (iY (ab (bu (dU K) (eF K) (af 0) ao) (ab (fD (zL K) (NX K) T.oD m9 (ab (af 1) ai)) ai)))) (al (bc (cu (aX K (aB T.mr (yC T) hr (ab (af 2) ai)))) (aq bT) aL) (aq (aA (iY (ab az (ab (af 2) ai))))))))))
def jB:FnOk P w K mg base eX 2 f21 d21 cH (iP K mg cK):=by
 exact T.cP.F.okD (φ:=dD) (O':=[]) j5 (fun cdv A outer s H E hr=>(al (bc (cV (iZ (aO (fK K hr.units) (pf K) (af 0) az (aE _)) (iZ (aO P9 Qc (aC (fI K) (fV K) T.ci bA (ab (af 0) ai)) (cb T.my T.mz T.mB) (aE _)) (jE (cu (aX K (aC (ll K rfl) (CC K) T.v0 rD (ab (cI (de (Wb:=⟨K,mg,E0⟩) (osc:=am dH) (ON:=gA) (N:=["sign"]) (ix:=[none]) (by decide +kernel) (cD K (af 0)) (fun _=>(bD (i:=0) (by decide) (by decide +kernel:(["sign"]:List Str).Nodup) rfl (Or.inl rfl))) (fun _=>cy) (fun _=>(iB (zB K) (Ka K) (af 0) (cb T.rG T.rH T.rJ) (by with_unfolding_all rfl))) (bw (by decide)))) ai)))))))) (aq bT) aL) (al (aK (i:=1) (by decide) j5.nd (Or.inl rfl) (fD DP Fv T.v5 qL (ab (af 0) ai))) (al (bc (cV (iZ (aX K (kQ PySem.F.slot_str_startswith PySem.F.type_str_startswith gY sO (af 0) (ab az ai))) (jE (cu (aX K (aB T.fF (qY T) hr (ab (af 1) ai))))))) (aq bT) aL) (aq (aA (af 1)))))))
def yd:FnOk P w K mg base eX 6 f22 d22 j3 (iP K mg me):=by
 exact T.mv.F.okD (φ:=mh) (O':=[]) iJ (fun cdv A outer s H E hr=>(al (aK (i:=1) (by decide) iJ.nd (Or.inl rfl) (kQ PySem.F.slot_str_partition PySem.F.type_str_partition qq Iu (cz (xN K) (xO K) (af 0) (bC (aC (fI K) (fV K) T.ci bA (ab az ai))) fz) (ab az ai))) (al (aK (i:=2) (by decide) iJ.nd (Or.inl rfl) (kQ PySem.F.slot_str_partition PySem.F.type_str_partition qq Iu (bu (dU K) (eF K) (af 1) ao) (ab az ai))) (al (bc (cu (aX K (aB T.fS (jH T) hr (ab (bu (dU K) (eF K) (af 1) ao) ai)))) (aq bT) aL) (al (aK (i:=3) (by decide) iJ.nd (Or.inl rfl) (aB T.cP (jB T) hr (ab (bu (dU K) (eF K) (af 2) ao) ai))) (al (Fr (aq (aK (i:=4) (by decide) iJ.nd (Or.inl rfl) (aB T.im (uv T) hr (ab (bu (dU K) (eF K) (af 2) ao) ai))))) (al (bc (cV (iZ (aO Kb JP (aC (fI K) (fV K) T.ci bA (ab (af 4) ai)) ao (aE _)) (jE (aO P9 Qc (aC (fI K) (fV K) T.ci bA (ab (af 4) ai)) (cb T.vk T.vm T.vn) (aE _))))) (aq bT) aL) (aq (aA (iY (ab az (ab (bu (dU K) (eF K) (af 1) ao) (ab (af 3) (ab (fD (zL K) (NX K) T.oD m9 (ab (af 4) ai)) ai))))))))))))))
def uw:FnOk P w K mg base eX 7 f23 d23 e6 (iP K mg cg):=by
 exact T.ir.F.okD (φ:=cT) (O':=[]) nn (fun cdv A outer s H E hr=>(al (aK (i:=1) (by decide) nn.nd (Or.inl rfl) (kQ PySem.F.slot_str_split PySem.F.type_str_split yR Ef (af 0) (ab az ai))) (al (bc (aO (fK K hr.units) (pf K) (bu (dU K) (eF K) (af 1) ao) az (aE _)) (aq (aA (aB T.jp (vh T) hr (ab (af 1) ai)))) aL) (al (bc (aO (fK K hr.units) (pf K) (bu (dU K) (eF K) (af 1) ao) az (aE _)) (aq (aA (aB T.mv (yd T) hr (ab (af 0) ai)))) aL) (al (bc (cV (iZ (aO (vd K hr.units) (Hf K) (aC (fI K) (fV K) T.ci bA (ab (af 1) ai)) ao (aE _)) (jE (cu (aX K (aB T.fS (jH T) hr (ab (bu (dU K) (eF K) (af 1) ao) ai))))))) (aq bT) aL) (al (bc (cV (sY (aO (fK K hr.units) (pf K) (bu (dU K) (eF K) (af 1) ao) az (aE _)) (pG (aX K (aB T.fS (jH T) hr (ab (bu (dU K) (eF K) (af 1) ao) ai)))))) (aq (aA (iY (ab az (ab (bu (dU K) (eF K) (af 1) ao) (ab (bu (dU K) (eF K) (af 1) ao) ai)))))) aL) (al (bc (aO (fK K hr.units) (pf K) (bu (dU K) (eF K) (af 1) ao) az (aE _)) (aq (aA (iY (ab az (ab (bu (dU K) (eF K) (af 1) ao) (ab (aB T.cP (jB T) hr (ab (bu (dU K) (eF K) (af 1) ao) ai)) ai)))))) aL) (aq bT))))))))
def CL:FnOk P w K mg base eX 4 f24 d24 nN (iP K mg ni):=by
 exact T.qD.F.okD (φ:=qg) (O':=[]) vL (fun cdv A outer s H E hr=>(al (aK (i:=1) (by decide) vL.nd (Or.inl rfl) (kQ PySem.F.slot_str_join PySem.F.type_str_join (kv K) (r8 K) az (ab (cI (de (Wb:=⟨K,mg,E0⟩) (osc:=am pQ) (ON:=uD) (N:=["change"]) (ix:=[none]) (by decide +kernel) (cD K (af 0)) (fun _=>(bD (i:=0) (by decide) (by decide +kernel:(["change"]:List Str).Nodup) rfl (Or.inl rfl))) (fun _=>cy) (fun _=>(aH (bo K) (cf K) (aB T.iq (uc T) hr (ab (af 0) ai)) az)) (bw (by decide)))) ai))) (aq (aA (aH (bo K) (cf K) (aH (bo K) (cf K) (aH (bo K) (cf K) (kQ PySem.F.slot_str_zfill PySem.F.type_str_zfill EC pZf (fD yF BZ T.lF gQ (ab (aC (fI K) (fV K) T.ci bA (ab (af 1) ai)) ai)) (ab (cb T.j8 T.j9 T.ka) ai)) az) (af 1)) (cb T.gE T.gF T.gG))))))
def oJ:FnOk P w K mg base eX 1 f25 d25 gj (iP K mg b9):=by
 exact T.gC.F.okD (φ:=jk) (O':=[]) ii (fun cdv A outer s H E hr=>(al (aK (i:=2) (by decide) ii.nd (Or.inl rfl) (cz (xN K) (xO K) (af 0) (bC (af 1)) (bC (aH (bo K) (cf K) (af 1) (cb T.ju T.jw T.jx))))) (al (aK (i:=3) (by decide) ii.nd (Or.inl rfl) (cz (xN K) (xO K) (af 2) fz (bC (cb T.j8 T.j9 T.ka)))) (al (bc (cV (iZ (cu (aX K (aC (ll K rfl) (CC K) T.v0 rD (ab (cI (de (Wb:=⟨K,mg,E0⟩) (osc:=am i9) (ON:=lY) (N:=["sign"]) (ix:=[none]) (by decide +kernel) (cD K (af 3)) (fun _=>(bD (i:=0) (by decide) (by decide +kernel:(["sign"]:List Str).Nodup) rfl (Or.inl rfl))) (fun _=>cy) (fun _=>(iB (zB K) (Ka K) (af 0) (cb T.rG T.rH T.rJ) (by with_unfolding_all rfl))) (bw (by decide)))) ai)))) (jE (aO (Bo K) (Fo K) (cz (xN K) (xO K) (af 2) (bC (cb T.j8 T.j9 T.ka)) fz) (iY (ab az (ab az ai))) (by with_unfolding_all rfl))))) (aq bT) aL) (al (bc (aO Kb JP (aC (fI K) (fV K) T.ci bA (ab (af 2) ai)) (cb T.ju T.jw T.jx) (aE _)) (aq (aA qe)) aL) (al (aK (i:=4) (by decide) ii.nd (Or.inl rfl) (aH (bo K) (cf K) (aH (bo K) (cf K) (aH (bo K) (cf K) (af 1) (cb T.ju T.jw T.jx)) (fD DP Fv T.v5 qL (ab (af 3) ai))) (aC (fI K) (fV K) T.ci bA (ab (cb T.gE T.gF T.gG) ai)))) (aq (aA (I0 (aO L9 L8 (af 4) (aC (fI K) (fV K) T.ci bA (ab (af 0) ai)) (aE _)) (af 4) qe)))))))))
def pk:FnOk P w K mg base eX 8 f26 d26 cL (iP K mg bW):=by
 exact T.dQ.F.okD (φ:=dL) (O':=[]) j4 (fun cdv A outer s H E hr=>(al (aK (i:=3) (by decide) j4.nd (Or.inl rfl) (cz (xN K) (xO K) (af 0) (bC (af 1)) (bC (aH we xA (af 2) (aC (fI K) (fV K) T.ci bA (ab (cb T.gE T.gF T.gG) ai)))))) (al (bc (aO (vd K hr.units) (Hf K) (cz (xN K) (xO K) (af 0) (bC (aH we xA (af 2) (aC (fI K) (fV K) T.ci bA (ab (cb T.gE T.gF T.gG) ai)))) (bC (af 2))) (cb T.gE T.gF T.gG) (aE _)) (aq bT) aL) (al (bc (cu (aX K (kQ PySem.F.slot_str_endswith PySem.F.type_str_endswith se IL (af 3) (ab az ai)))) (aq bT) aL) (aq (aA (DG (de (Wb:=⟨K,mg,E0⟩) (osc:=am dC) (ON:=fW) (N:=["line"]) (ix:=[none]) (by decide +kernel) (cD K (kQ PySem.F.slot_str_split PySem.F.type_str_split yR Ef (cz (xN K) (xO K) (af 3) fz (bC (LG JV Jv ao))) (ab az ai))) (fun _=>(bD (i:=0) (by decide) (by decide +kernel:(["line"]:List Str).Nodup) rfl (Or.inl rfl))) (fun _=>cy) (fun _=>(aB T.ir (uw T) hr (ab (af 0) ai))) (bw (by decide))))))))))
def lc:FnOk P w K mg base eX 9 f27 d27 dj (iP K mg dl):=by
 exact T.dq.F.okD (φ:=fw) (O':=[]) cj (fun cdv A outer s H E hr=>(al (mj (i:=1) (by decide) cj.nd (Or.inl rfl) (fP ai)) (al (aK (i:=2) (by decide) cj.nd (Or.inl rfl) ao) (al (aK (i:=3) (by decide) cj.nd (Or.inl rfl) (aB T.gC (oJ T) hr (ab (af 0) (ab (af 2) ai)))) (al (Fg 1000 PassesOwn.never (aO K0 Kg (af 3) qe (aE _)) (al (eI (i:=1) (by decide) (iY (ab (aB T.dQ (pk T) hr (ab (af 0) (ab (aH (bo K) (cf K) (af 2) (cb T.ju T.jw T.jx)) (ab (af 3) ai)))) (ab (af 3) ai)))) (al (aK (i:=2) (by decide) cj.nd (Or.inl rfl) (af 3)) (aq (aK (i:=3) (by decide) cj.nd (Or.inl rfl) (aB T.gC (oJ T) hr (ab (af 0) (ab (af 2) ai)))))))) (oX (O:=[1]) (O2:=[]) (aq (aA (af 1)))))))))
def iV:FnOk P w K mg base eX 10 f28 d28 eu (iP K mg a9):=by
 exact T.c5.F.okD (φ:=gi) (O':=[]) sx (fun cdv A outer s H E hr=>(aq (aA (DG (de (Wb:=⟨K,mg,E0⟩) (osc:=am gg) (ON:=jO) (N:=["pair"]) (ix:=[none]) (by decide +kernel) (cD K (aB T.dq (lc T) hr (ab (af 0) ai))) (fun _=>(bD (i:=0) (by decide) (by decide +kernel:(["pair"]:List Str).Nodup) rfl (Or.inl rfl))) (fun _=>cy) (fun _=>(bu (dU K) (eF K) (af 0) ao)) (bw (by decide)))))))
def ph:FnOk P w K mg base eX 10 f29 d29 lh (iP K mg cp):=by
 exact T.jA.F.okD (φ:=n5) (O':=[]) AO (fun cdv A outer s H E hr=>(aq (aA (DG (de (Wb:=⟨K,mg,E0⟩) (osc:=am oz) (ON:=rp) (N:=["pair"]) (ix:=[none]) (by decide +kernel) (cD K (aB T.dq (lc T) hr (ab (af 0) ai))) (fun _=>(bD (i:=0) (by decide) (by decide +kernel:(["pair"]:List Str).Nodup) rfl (Or.inl rfl))) (fun _=>cy) (fun _=>(bu (dU K) (eF K) (af 0) ao)) (bw (by decide)))))))
def AS:FnOk P w K mg base eX 1 f30 d30 lb (iP K mg ov):=by
 exact T.oC.F.okD (φ:=n4) (O':=[]) AH (fun cdv A outer s H E hr=>(aq (aA (kD (aC (iG K) (m8 K) T.bb aW (ab (af 0) (ab (nT T.v5 qL) ai))) (oN (FV (aC (iG K) (m8 K) T.bb aW (ab (af 0) (ab (nT T.A2 wg) ai)))))))))
def cG:FnOk P w K mg base eX 1 f31 d31 iz (iP K mg bg):=by
 exact T.bU.F.okD (φ:=kq) (O':=[]) xi (fun cdv A outer s H E hr=>(al (bc (aO Kb JP (af 1) (aC (fI K) (fV K) T.ci bA (ab (af 0) ai)) (aE _)) (aq (aA (bu (dU K) (eF K) (af 0) (af 1)))) aL) (aq (aA ao))))
def gN:FnOk P w K mg base eX 1 f32 d32 lA (iP K mg bO):=by
 exact T.eO.F.okD (φ:=ou) (O':=[]) AI (fun cdv A outer s H E hr=>(aq (aA (aH eJ eH (aH (bo K) (cf K) (aH qf xb (af 0) ao) ao) ao))))
def pH:FnOk P w K mg base eX 2 f33 d33 iM (iP K mg eB):=by
 exact T.iO.F.okD (φ:=kr) (O':=[]) dc (fun cdv A outer s H E hr=>(al (aK (i:=1) (by decide) dc.nd (Or.inl rfl) az) (al (aK (i:=2) (by decide) dc.nd (Or.inl rfl) az) (al (aK (i:=3) (by decide) dc.nd (Or.inl rfl) (af 0)) (al (oZ PassesOwn.never (oh T.qJ (ab (aH (bo K) (cf K) ao (aH eJ eH (af 0) ao)) ai)) (bD (i:=4) (by decide) dc.nd rfl (Or.inl rfl)) (al (aK (i:=3) (by decide) dc.nd (Or.inl rfl) (aB T.eO (gN T) hr (ab (af 3) ai))) (aq (aK (i:=2) (by decide) dc.nd (Or.inl rfl) (aH (bo K) (cf K) (af 2) (bu (dU K) (eF K) (af 1) (aH eJ eH (af 3) ao))))))) (al (bc (aO (zB K) (Ka K) (af 2) (cI (fP (ab az (ab az (ab az (ab az (ab az (ab az (ab az (ab az (ab az (ab az (ab az ai))))))))))))) (by with_unfolding_all rfl)) (aq (aA (aH (bo K) (cf K) (af 2) az))) aL) (aq (aA (af 2)))))))))
def C3:FnOk P w K mg base eX 1 f34 d34 nA (iP K mg pS):=by
 exact T.qE.F.okD (φ:=qx) (O':=[]) lC (fun cdv A outer s H E hr=>(al (aK (i:=2) (by decide) lC.nd (Or.inl rfl) az) (al (aK (i:=3) (by decide) lC.nd (Or.inl rfl) (aH eJ eH (af 1) (aC (fI K) (fV K) T.ci bA (ab (af 0) ai)))) (al (aK (i:=4) (by decide) lC.nd (Or.inl rfl) (aH (bo K) (cf K) (aH (bo K) (cf K) (kQ PySem.F.slot_str_find PySem.F.type_str_find HI NG (af 2) (ab (bu (dU K) (eF K) (af 0) (af 3)) ai)) ao) (aH eJ eH (aH kf kg (af 1) ao) ao))) (al (aK (i:=5) (by decide) lC.nd (Or.inl rfl) (aH (bo K) (cf K) (aH (bo K) (cf K) (cz (xN K) (xO K) (af 0) fz (bC (af 3))) (bu (dU K) (eF K) (af 2) (aH eJ eH (af 4) ao))) (cz (xN K) (xO K) (af 0) (bC (aH (bo K) (cf K) (af 3) ao)) fz))) (al (bc (aO (zB K) (Ka K) (af 5) (cI (fP (ab az (ab az (ab az (ab az (ab az (ab az (ab az (ab az (ab az (ab az (ab az ai))))))))))))) (by with_unfolding_all rfl)) (aq (aA (aH (bo K) (cf K) (af 5) az))) aL) (aq (aA (af 5)))))))))
def uZ:FnOk P w K mg base eX 3 f35 d35 fZ (iP K mg gq):=by
 exact T.jq.F.okD (φ:=ja) (O':=[]) bQ (fun cdv A outer s H E hr=>(al (aK (i:=2) (by decide) bQ.nd (Or.inl rfl) (cz (xN K) (xO K) (aB T.iO (pH T) hr (ab (aH kf kg (af 1) ao) ai)) fz (bC ao))) (al (aK (i:=3) (by decide) bQ.nd (Or.inl rfl) (bu (dU K) (eF K) (cI (fP (ab ao (ab ao (ab ao (ab ao (ab ao (ab ao (ab ao (ab ao ai)))))))))) (aH eJ eH (af 1) ao))) (al (mj (i:=4) (by decide) bQ.nd (Or.inl rfl) (fP ai)) (al (aK (i:=5) (by decide) bQ.nd (Or.inl rfl) (af 1)) (al (oZ PassesOwn.never (oh T.qJ (ab (af 3) ai)) (bD (i:=6) (by decide) bQ.nd rfl (Or.inl rfl)) (al (aK (i:=5) (by decide) bQ.nd (Or.inl rfl) (aB T.eO (gN T) hr (ab (af 5) ai))) (al (aK (i:=7) (by decide) bQ.nd (Or.inl rfl) (aH (bo K) (cf K) (aH (bo K) (cf K) (af 2) az) (bu (dU K) (eF K) az (af 6)))) (al (bc (aO (fK K hr.units) (pf K) (aH eJ eH (aH kf kg (af 1) ao) ao) ao (aE _)) (aq (aK (i:=7) (by decide) bQ.nd (Or.inl rfl) (aH (bo K) (cf K) (aH (bo K) (cf K) (bu (dU K) (eF K) az (af 6)) az) (af 2)))) aL) (aq (eI (i:=4) (by decide) (iY (ab (af 7) (ab (bu (dU K) (eF K) (cI (fP (ab az (ab az ai)))) (aH eJ eH (aH kf kg (af 5) ao) ao)) ai))))))))) (aq (aA (iY (ab (af 0) (ab (EL K (i:=4) (by decide) T.oD) ai)))))))))))
def wC:FnOk P w K mg base eX 2 f36 d36 iC (iP K mg fO):=by
 exact T.kI.F.okD (φ:=kl) (O':=[]) ca (fun cdv A outer s H E hr=>(al (aK (i:=1) (by decide) ca.nd (Or.inl rfl) az) (al (aK (i:=2) (by decide) ca.nd (Or.inl rfl) (aH eJ eH (af 0) ao)) (al (bc (aO (fK K hr.units) (pf K) (aH eJ eH (aH kf kg (af 0) ao) ao) ao (aE _)) (aq (aK (i:=2) (by decide) ca.nd (Or.inl rfl) (aH eJ eH (aH kf kg (af 0) ao) ao))) aL) (al (aK (i:=3) (by decide) ca.nd (Or.inl rfl) az) (al (aK (i:=4) (by decide) ca.nd (Or.inl rfl) (af 0)) (al (oZ PassesOwn.never (oh T.qJ (ab (af 2) ai)) (bD (i:=5) (by decide) ca.nd rfl (Or.inl rfl)) (al (aK (i:=4) (by decide) ca.nd (Or.inl rfl) (aB T.eO (gN T) hr (ab (af 4) ai))) (aq (aK (i:=3) (by decide) ca.nd (Or.inl rfl) (aH (bo K) (cf K) (af 3) (bu (dU K) (eF K) (af 1) (aH eJ eH (af 4) ao))))))) (aq (aA (af 3))))))))))
def u6:FnOk P w K mg base eX 3 f37 d37 gB (iP K mg gk):=by
 exact T.jr.F.okD (φ:=jh) (O':=[]) uS (fun cdv A outer s H E hr=>(al (bc (aO (fK K hr.units) (pf K) (aH eJ eH (af 1) ao) ao (aE _)) (aq (aA qe)) aL) (al (bc (aO (fK K hr.units) (pf K) (af 0) az (aE _)) (aq (aA (aB T.kI (wC T) hr (ab (aH kf kg (af 1) ao) ai)))) aL) (al (bc (aO (fK K hr.units) (pf K) (aH eJ eH (af 1) ao) ao (aE _)) (aq (aA (aH we xA (aH eJ eH (aH qf xb (aH qf xb (af 1) (af 1)) ao) (aH we xA (aH qf xb ao (aH DA Ev ao ao)) ao)) (aH we xA (aH DA Ev ao ao) ao)))) aL) (aq (aA (aH we xA (aH eJ eH (aH kf kg (af 1) ao) ao) ao)))))))
def yK:FnOk P w K mg base eX 4 f38 d38 jT (iP K mg lZ):=by
 exact T.mw.F.okD (φ:=lQ) (O':=[]) kt (fun cdv A outer s H E hr=>(al (mj (i:=2) (by decide) kt.nd (Or.inl rfl) (fP ai)) (al (oZ PassesOwn.never (cD K (bu (dU K) (eF K) (af 0) ao)) (bD (i:=3) (by decide) kt.nd rfl (Or.inl rfl)) (al (aK (i:=1) (by decide) kt.nd (Or.inl rfl) (aB T.eO (gN T) hr (ab (af 1) ai))) (aq (eI (i:=2) (by decide) (aB T.jr (u6 T) hr (ab (bu (dU K) (eF K) (af 3) ao) (ab (aH kf kg (af 1) ao) ai))))))) (aq (aA (EL K (i:=2) (by decide) T.oD))))))
def wf:FnOk P w K mg base eX 1 f39 d39 iE (iP K mg fR):=by
 exact T.kJ.F.okD1 (φ:=rS) (O':=[]) wx rfl rfl (fun cdv A outer s H E hr=>(al (bc (aO RZ RT (af 0) qe (aE _)) (aq (aA az)) aL) (al (bc (aX K (aC (iG K) (m8 K) T.bb aW (ab (af 0) (ab (nT T.lF gQ) ai)))) (aq (aA (aH (bo K) (cf K) (aH (bo K) (cf K) az (n0 (y:="\"") (w:="\"\"") (Nat.le_refl _) (af 0))) az))) aL) (aq (aA (fD yF BZ T.lF gQ (ab (af 0) ai)))))))
def CG:FnOk P w K mg base eX 2 f40 d40 m6 (iP K mg gr):=by
 exact T.qF.F.okD (φ:=jM) (O':=[]) B5 (fun cdv A outer s H E hr=>(al (bc (aO (fK K hr.units) (pf K) (bu (dU K) (eF K) (af 0) ao) az (aE _)) (aq (aA (kQ PySem.F.slot_str_join PySem.F.type_str_join (kv K) (r8 K) az (ab (aH (bo K) (cf K) (cI (fP (ab az (ab (bu (dU K) (eF K) (bu (dU K) (eF K) (af 0) ao) ao) ai)))) (cI (de (Wb:=⟨K,mg,E0⟩) (osc:=am nD) (ON:=qy) (N:=["_law_column"]) (ix:=[none]) (by decide +kernel) (cD K (bu (dU K) (eF K) (bu (dU K) (eF K) (af 0) ao) ao)) (fun _=>(bD (i:=0) (by decide) (by decide +kernel:(["_law_column"]:List Str).Nodup) rfl (Or.inl rfl))) (fun _=>cy) (fun _=>(aH (bo K) (cf K) (aH (bo K) (cf K) (bu (dU K) (eF K) (af 0) ao) az) (bu (dU K) (eF K) (af 0) ao))) (bw (by decide))))) ai)))) aL) (al (bc (aO (fK K hr.units) (pf K) (bu (dU K) (eF K) (af 0) ao) az (aE _)) (aq (aA (kQ PySem.F.slot_str_join PySem.F.type_str_join (kv K) (r8 K) az (ab (aH (bo K) (cf K) (cI (fP (ab az (ab (bu (dU K) (eF K) (af 0) ao) (ab (fD Dy Eg T.lF gQ (ab (bu (dU K) (eF K) (af 0) ao) ai)) ai))))) (cI (de (Wb:=⟨K,mg,E0⟩) (osc:=am nD) (ON:=qy) (N:=["_law_value"]) (ix:=[none]) (by decide +kernel) (cD K (bu (dU K) (eF K) (af 0) ao)) (fun _=>(bD (i:=0) (by decide) (by decide +kernel:(["_law_value"]:List Str).Nodup) rfl (Or.inl rfl))) (fun _=>cy) (fun _=>(aB T.kJ (wf T) hr (ab (af 0) ai))) (bw (by decide))))) ai)))) aL) (aq (aA (kQ PySem.F.slot_str_join PySem.F.type_str_join (kv K) (r8 K) az (ab (cI (fP (ab (bu (dU K) (eF K) (af 0) ao) (ab (bu (dU K) (eF K) (af 0) ao) (ab (fD Dy Eg T.lF gQ (ab (bu (dU K) (eF K) (af 0) ao) ai)) ai))))) ai)))))))
def yL:FnOk P w K mg base eX 3 f41 d41 jR (iP K mg j0):=by
 exact T.mx.F.okD (φ:=ma) (O':=[]) mU (fun cdv A outer s H E hr=>(al (aK (i:=1) (by decide) mU.nd (Or.inl rfl) (kQ PySem.F.slot_str_join PySem.F.type_str_join (kv K) (r8 K) az (ab (cI (de (Wb:=⟨K,mg,E0⟩) (osc:=am lI) (ON:=o8) (N:=["_law_change"]) (ix:=[none]) (by decide +kernel) (cD K (af 0)) (fun _=>(bD (i:=0) (by decide) (by decide +kernel:(["_law_change"]:List Str).Nodup) rfl (Or.inl rfl))) (fun _=>cy) (fun _=>(aH (bo K) (cf K) (aB T.qF (CG T) hr (ab (af 0) ai)) az)) (bw (by decide)))) ai))) (al (aK (i:=2) (by decide) mU.nd (Or.inl rfl) (fD yF BZ T.lF gQ (ab (aC (fI K) (fV K) T.ci bA (ab (af 1) ai)) ai))) (aq (aA (aH (bo K) (cf K) (aH (bo K) (cf K) (aH (bo K) (cf K) (aH (bo K) (cf K) (aH qf xb az (aH we xA ao (aC (fI K) (fV K) T.ci bA (ab (af 2) ai)))) (af 2)) az) (af 1)) az))))))
def tJ:FnOk P w K mg base eX 5 f42 d42 fb (iP K mg fe):=by
 exact T.iu.F.okD (φ:=gZ) (O':=[]) cZ (fun cdv A outer s H E hr=>(al (aK (i:=2) (by decide) cZ.nd (Or.inl rfl) (bu (dU K) (eF K) (af 0) (aH eJ eH (aH kf kg (af 1) ao) ao))) (al (aK (i:=3) (by decide) cZ.nd (Or.inl rfl) (aB T.jq (uZ T) hr (ab (af 2) (ab (aH kf kg (af 1) ao) ai)))) (al (aK (i:=4) (by decide) cZ.nd (Or.inl rfl) (aH (bo K) (cf K) ao (aH eJ eH (aH kf kg (af 1) ao) ao))) (al (bc (aO (fK K hr.units) (pf K) (aH eJ eH (aH kf kg (af 1) ao) ao) ao (aE _)) (aq (aK (i:=4) (by decide) cZ.nd (Or.inl rfl) (aH (bo K) (cf K) ao (aH eJ eH (aH kf kg (af 1) ao) (aH DA Ev ao ao))))) aL) (al (bc (aO (fK K hr.units) (pf K) (aH eJ eH (aH kf kg (af 1) ao) ao) ao (aE _)) (aq (aK (i:=4) (by decide) cZ.nd (Or.inl rfl) (aH DA Ev ao ao))) aL) (al (bc (aO (fK K hr.units) (pf K) (aH eJ eH (af 1) ao) ao (aE _)) (aq (aA (iY (ab az (ab (af 3) ai))))) aL) (al (bc (aO (fK K hr.units) (pf K) (aH eJ eH (af 1) ao) ao (aE _)) (aq (aA (iY (ab az (ab (af 2) (ab (bu (dU K) (eF K) (bu (dU K) (eF K) (bu (dU K) (eF K) (af 3) ao) (aH eJ eH (aH kf kg (af 1) ao) (aC (fI K) (fV K) T.ci bA (ab (bu (dU K) (eF K) (af 3) ao) ai)))) ao) ai)))))) aL) (al (bc (aO (fK K hr.units) (pf K) (aH eJ eH (af 1) ao) ao (aE _)) (aq (aA (iY (ab az (ab (af 2) (ab (af 4) ai)))))) aL) (aq (aA (iY (ab az (ab (af 2) (ab (af 4) (ab (aB T.mw (yK T) hr (ab (af 3) (ab (aH kf kg (af 1) ao) ai))) ai))))))))))))))))
def u8:FnOk P w K mg base eX 6 f43 d43 gz (Rz K mg jb):=by
 exact T.jt.F.okN (φ:=jc) (O':=[]) ig (fun cdv A outer s H E hr=>(Fx (i:=2) (a:=3) (b:=4) (j:=5) K PassesOwn.never ig.nd (Or.inl rfl) (Or.inl rfl) (qj T.sw (ab (af 1) ai)) (Ei K (ue (sP (i:=3) ig.nd rfl (Or.inl rfl)) (ue (sP (i:=4) ig.nd rfl (Or.inl rfl)) BU))) (aB T.eO (gN T) hr (ab (aH qf xb (aB T.eO (gN T) hr (ab (aH (bo K) (cf K) (af 4) (aH qf xb ao (af 3))) ai)) (aH (bo K) (cf K) (af 3) ao)) ai)) (LG JV Jv ao) (aB T.iu (tJ T) hr (ab (af 0) (ab (af 5) ai))) (aO (fK K hr.units) (pf K) (aH eJ eH (aH kf kg (af 5) ao) ao) ao (aE _)) (aq (GN (de (Wb:=⟨K,mg,E0⟩) (osc:=am i8) (ON:=mo) (N:=["_law_row"]) (ix:=[none]) (by decide +kernel) (cD K (af 2)) (fun _=>(bD (i:=0) (by decide) (by decide +kernel:(["_law_row"]:List Str).Nodup) rfl (Or.inl rfl))) (fun _=>(sQ (aO (vd K hr.units) (Hf K) (af 0) (cI (fP ai)) (aE _)))) (fun _=>(af 0)) (bw (by decide)))))))
def n9:FnOk P w K mg base eX 2 f44 d44 nJ (iP K mg dY):=by
 exact T.j7.F.okD (φ:=pZ) (O':=[]) CZ (fun cdv A outer s H E hr=>(al (bc (cV (iZ (cu (aX K (aC (iG K) (m8 K) T.bb aW (ab (af 0) (ab (nT T.oW sR) ai))))) (iZ (cu (aX K (aC (iG K) (m8 K) T.bb aW (ab (af 1) (ab (nT T.oW sR) ai))))) (iZ (aO (vd K hr.units) (Hf K) (af 0) (af 2) (aE _)) (jE (aO (vd K hr.units) (Hf K) (af 1) (af 3) (aE _))))))) (aq (aA uU)) aL) (al (bc (aO (vd K hr.units) (Hf K) (cI (de (Wb:=⟨K,mg,E0⟩) (osc:=am m4) (ON:=pJ) (N:=["_law_place"]) (ix:=[none]) (by decide +kernel) (cD K (af 1)) (fun _=>(bD (i:=0) (by decide) (by decide +kernel:(["_law_place"]:List Str).Nodup) rfl (Or.inl rfl))) (fun _=>(sQ (cu (aX K (aB T.oC (AS T) hr (ab (af 0) ai)))))) (fun _=>(af 0)) (bw (by decide)))) (cI (fP ai)) (aE _)) (aq (aA uU)) aL) (aq (aA (iB (fK K hr.units) (pf K) (cI (de (Wb:=⟨K,mg,E0⟩) (osc:=am m4) (ON:=pJ) (N:=["_law_row"]) (ix:=[none]) (by decide +kernel) (cD K (af 0)) (fun _=>(bD (i:=0) (by decide) (by decide +kernel:(["_law_row"]:List Str).Nodup) rfl (Or.inl rfl))) (fun _=>(sQ (cu (aX K (aC (iG K) (m8 K) T.bb aW (ab (af 0) (ab (nT T.oW sR) ai))))))) (fun _=>(af 0)) (bw (by decide)))) (cI (fP ai)) (aE _)))))))
def KD:FnOk P w K mg base eX 11 f45 d45 t5 (iP K mg vD):=by
 exact T.F1.F.okD (φ:=A9) (O':=[]) gP (fun cdv A outer s H E hr=>(al (mj (i:=1) (by decide) gP.nd (Or.inr rfl) (fP (ab (aB T.iO (pH T) hr (ab (aB T.bU (cG T) hr (ab (af 0) (ab ao ai))) ai)) ai))) (al (eI (i:=1) (by decide) (aB T.qE (C3 T) hr (ab (IO K (i:=1) (by decide) ao) (ab (aB T.bU (cG T) hr (ab (af 0) (ab ao ai))) ai)))) (oX (O:=[1]) (O2:=[]) (al (mj (i:=2) (by decide) gP.nd (Or.inl rfl) (GV T.jt (u8 T) hr (ab (af 1) (ab (cz (xN K) (xO K) (af 0) (bC ao) (bC ao)) ai)))) (al (bc (aO (fK K hr.units) (pf K) (aH eJ eH (aH kf kg (aB T.bU (cG T) hr (ab (af 0) (ab ao ai))) ao) ao) ao (aE _)) (al (aK (i:=3) (by decide) gP.nd (Or.inl rfl) (aH eJ eH (aH kf kg (aB T.bU (cG T) hr (ab (af 0) (ab ao ai))) ao) ao)) (aq (eI (i:=2) (by decide) (cI (de (Wb:=⟨K,mg,E0⟩) (osc:=am sr) (ON:=Bh) (N:=["_law_k","_law_names"]) (ix:=[none,some 1]) (by decide +kernel) (oh T.qJ (ab (aH (bo K) (cf K) ao (af 3)) ai)) (fun _=>(bD (i:=0) (by decide) (by decide +kernel:(["_law_k","_law_names"]:List Str).Nodup) rfl (Or.inl rfl))) (fun _=>cy) (fun _=>(iY (ab az (ab (bu (dU K) (eF K) (af 1) ao) (ab (aH (bo K) (cf K) ao (af 0)) (ab (iY (ab (af 0) (ab (aH qf xb az (aH eJ eH (af 0) ao)) (ab qe ai)))) ai)))))) (bw (by decide))))))) aL) (al (aK (i:=4) (by decide) gP.nd (Or.inl rfl) az) (al (mj (i:=5) (by decide) gP.nd (Or.inl rfl) (fP ai)) (oX (O:=[5,2]) (O2:=[5]) (al (oZ PassesOwn.never (cD K (af 2)) (bD (i:=6) (by decide) gP.nd rfl (Or.inl rfl)) (al (aK (i:=7) (by decide) gP.nd (Or.inl rfl) (aB T.qD (CL T) hr (ab (cI (Go (Lm K) (RK K) T.oW sR (ab (af 6) ai))) ai))) (al (bc (cV (iZ (cu (aX K (aC (iG K) (m8 K) T.bb aW (ab (af 7) (ab (nT T.lF gQ) ai))))) (jE (aO (vd K hr.units) (Hf K) (af 7) (aB T.mx (yL T) hr (ab (af 6) ai)) (aE _))))) (aq (aA uU)) aL) (al (aK (i:=4) (by decide) gP.nd (Or.inl rfl) (aH (bo K) (cf K) (af 4) (af 7))) (aq (eI (i:=5) (by decide) (aC (fI K) (fV K) T.ci bA (ab (af 4) ai)))))))) (al (aK (i:=8) (by decide) gP.nd (Or.inr rfl) (aH eJ eH (aH kf kg (aB T.bU (cG T) hr (ab (af 0) (ab ao ai))) ao) (aH (bo K) (cf K) (aC (fI K) (fV K) T.ci bA (ab (af 4) ai)) ao))) (al (bc (cV (sY (Hd K (fun k=>!k) (i:=5) (by decide) (vd K hr.units) (cI (fP ai)) (aE _)) (pG (aO Kb JP (aH eJ eH (aB T.bU (cG T) hr (ab (af 0) (ab ao ai))) ao) ao (aE _))))) (aq (aK (i:=8) (by decide) gP.nd (Or.inr rfl) (aH we xA (aH (bo K) (cf K) (IO K (i:=5) (by decide) (aH eJ eH (aH kf kg (aB T.bU (cG T) hr (ab (af 0) (ab ao ai))) ao) (JR K (i:=5) (by decide) T.ci))) (aH eJ eH (aB T.bU (cG T) hr (ab (af 0) (ab ao ai))) ao)) ao))) aL) (al (aK (i:=3) (by decide) gP.nd (Or.inl rfl) (aC (fI K) (fV K) T.ci bA (ab (cI (HW K (i:=5) (by decide) (Wb:=⟨K,mg,E0⟩) (osc:=am sr) (ON:=Bh) (N:=["_law_end","_law_till"]) (ix:=[none,some 8]) (by decide +kernel)  (fun _=>(bD (i:=0) (by decide) (by decide +kernel:(["_law_end","_law_till"]:List Str).Nodup) rfl (Or.inl rfl))) (fun _=>(sQ (aO L9 L8 (af 0) (af 1) (aE _)))) (fun _=>(af 0)) (bw (by decide)))) ai))) (oX (O:=[5]) (O2:=[]) (KL (x:=9) (y:=10) (z:=7) (t:=4) K PassesOwn.never gP.nd (Or.inl rfl) (Or.inl rfl) (Or.inl rfl) (aB T.c5 (iV T) hr (ab (af 4) ai)) (aB T.jA (ph T) hr (ab (af 4) ai)) (cu (aX K (aB T.j7 (n9 T) hr (ab (yf (bu (dU K) (eF K) (af 9) ao)) (ab (yf (bu (dU K) (eF K) (af 9) ao)) (ab (af 2) (ab (af 5) ai))))))) (cz (xN K) (xO K) (af 4) fz (bC (af 8))) (cu (aX K (aB T.j7 (n9 T) hr (ab (yf (aB T.c5 (iV T) hr (ab (af 10) ai))) (ab (yf (aB T.jA (ph T) hr (ab (af 10) ai))) (ab (cz (xN K) (xO K) (af 2) fz (bC (af 3))) (ab (cz (xN K) (xO K) (af 5) fz (bC (af 3))) ai))))))) (cu (aX K (aB T.j7 (n9 T) hr (ab (yf (bu (dU K) (eF K) (af 9) ao)) (ab (yf (bu (dU K) (eF K) (af 9) ao)) (ab (af 2) (ab (af 5) ai))))))) ao az uU uU uU (aq (aA (aB T.j7 (n9 T) hr (ab (yf (aB T.c5 (iV T) hr (ab (af 4) ai))) (ab (yf (aB T.jA (ph T) hr (ab (af 4) ai))) (ab (af 2) (ab (af 5) ai))))))))))))))))))))))
end
local macro_rules | `(tactic| walk_at "ew") => `(tactic| (try simp only [Ix, IA, vE, not_true_eq_false, not_false_eq_true, Int.reduceEq, eq_self, List.nil_append, List.cons_append, Jm, IC, N3, NN, su, kS, bi, aS, Ar, qN, r6, pN, sF, um, BV, Ds, IM, Jj, Pd, Qg, KB, v_var, pP, v_c, l6, kM, RC, v_not, Nr, v_and, Jq, zS, GE, Bi, Ni, EO, FB, EU, yP, BF, KM, Fe, EF, sZ, oU, o9, lH, IK, Ih, Et, Dz, rl, J1, DQ, o_k, Pw, Je, IW, Iw, Ju, LM, wj, FM, Hj, A4, Dg, Ko, IE, add_l, xX, M3, FF, KN, RB, RH, R5, Ru, Ry, MY, M4, Qk, Nt, N2, Nu, N7, BX, Ou, NO, MS, On, Qm, Dq, IT, Im, Pt, NH, mul_r, Jf, Ea, Fu, Ir, Er, Mi, NI, NU, IR, Dk, QE, sK, sy, rh, qo, ze, yb, xl, vf, z9, zC, yr, w8, Ah, zE, yW, wR, yc, za, wM, uR, xn, xo, u4, tO, y2, ya, xk, u7, KT, KQ, HF, Fi, ah, List.getElem?_cons_zero, List.getElem?_cons_succ, List.set_cons_zero, List.set_cons_succ, if_true, if_false, Bool.false_eq_true, decide_eq_true_eq, Bool.not_true, Bool.not_false, Bool.not_eq_true', decide_eq_false_iff_not, List.length_cons, List.length_nil, Nat.zero_add, Nat.reduceAdd, Nat.reduceLeDiff, Nat.reduceLT, and_self, and_true, true_and, Int.reduceNeg, Int.reducePow, Int.reduceLT, Int.reduceLE, Int.reduceToNat, Int.reduceAdd, Int.reduceSub, Int.reduceMul, Nat.reducePow, Nat.reduceMul]))
local macro_rules | `(tactic| walk_at "ev") => `(tactic| (walk_at "ew"; (try simp only [Fq, sk]); walk_at "ew"; (try simp only [Fq, sk]); walk_at "ew"))
def cell (ns:List Int) (k:Int):Int:=ns.getD k.toNat 0
def wT (ns:List Int) (k:Int) (h0:0<=k):bg [.lst (ns.map D.int),.int k]=.ok (.int (cell ns k)):=by
 rw [y9,kq];walk_at "ev";rw [List.length_map];by_cases h:k < (ns.length:Int)
 ·rw [if_pos h];have hk:k.toNat < ns.length:=by omega
  have ek:k=((k.toNat:Nat):Int):=by omega
  have e:atI (ns.map D.int) k=some (.int (cell ns k)):=by
   rw [ek];refine bX ?_;unfold cell;rw [List.getElem?_map,List.getElem?_eq_getElem hk,List.getD_eq_getElem?_getD,Int.toNat_natCast,List.getElem?_eq_getElem hk];rfl
  rw [sC e];rfl
 ·rw [if_neg h];have e:cell ns k=0:=by
   unfold cell;rw [List.getD_eq_getElem?_getD,List.getElem?_eq_none (by omega)];rfl
  walk_at "ev";rw [e]
abbrev ml:Str:=Str.ofString " !\"#$&'()*+,-./0123456789:;<=>?@ABCDEFGHIJKLMNOPQRSTUVWXYZ[\\]^_`abcdefghijklmnopqrstuvwxyz{|}~"
def F3:List Nat:=ml.cps.toList
def Bq:F3.length=94:=by decide +kernel
def sX (i:Int):Nat:=F3.getD (i % 94).toNat 0
def KZ (i:Int):atI ml.cps.toList (i % 94)=some (sX i):=by
 have h0:0<=i % 94:=Int.emod_nonneg _ (by decide);have h1:i % 94 < 94:=Int.emod_lt_of_pos _ (by decide);have hk:(i % 94).toNat < F3.length:=by rw [Bq];omega
 have ek:i % 94=(((i % 94).toNat:Nat):Int):=by omega
 have h:=bX (xs:=F3) (j:=(i % 94).toNat) (List.getElem?_eq_getElem hk);rw [<- ek] at h;unfold sX;rw [List.getD_eq_getElem?_getD,List.getElem?_eq_getElem hk];exact h
def Gh (i:Int):sX i∈F3:=by
 have h0:0<=i % 94:=Int.emod_nonneg _ (by decide);have h1:i % 94 < 94:=Int.emod_lt_of_pos _ (by decide);have hk:(i % 94).toNat < F3.length:=by rw [Bq];omega
 unfold sX;rw [List.getD_eq_getElem?_getD,List.getElem?_eq_getElem hk];exact List.getElem_mem hk
def yt:D->Bool
 | .non=>true
 | .int i=>decide (-(10 ^ 18) < i/\i < 10 ^ 18)
 | .str z=>decide (z.length<=40)&&z.cps.toList.all fun c=>decide (32<=c)&&decide (c<=126)
 | _=>false
def Okd:D->Prop
 | .str z=>z.length<=1000
 | .ty _=>False
 | .obj _ _=>False
 | _=>True
theorem DH (a b:Nat):(([a]:List Nat) < [b]) ↔ a < b:=by
 constructor
 ·intro h;cases h with
  | rel h=>exact h
  | cons h=>cases h
 ·intro h;exact List.Lex.rel h
def HB (c:Nat):jz [.str ⟨#[c]⟩]=.ok (.bl (decide (32<=c)&&decide (c<=126))):=by
 rw [Ck,oi];walk_at "ev";have e1:(Str.ofString " ").cps.toList=[32]:=by decide +kernel
 have e2:(Str.ofString "~").cps.toList=[126]:=by decide +kernel
 rw [e1,e2];simp only [DH];by_cases h:c < 32
 ·have h1:¬ 32<=c:=by omega
  simp [h,h1,ah,pN,kS]
 ·have h1:32<=c:=by omega
  by_cases h2:126 < c
  ·have h3:¬ c<=126:=by omega
   simp [h,h1,h2,h3,ah,pN,kS]
  ·have h3:c<=126:=by omega
   simp [h,h1,h2,h3,ah,pN,kS]
def x4 (z:Str):z.cps.toList.length=z.length:=by simp [Str.length]
def E6 (d:D) (ok:Okd d) (hd:∃ z,d=.str z:=by exact ⟨_,rfl⟩):jX [d]=.ok (.bl (yt d)):=by
 rw [zK,lP];obtain ⟨z,rfl⟩:=hd;have hz:z.length<=1000:=ok;have hz':z.length<=1000000:=by omega
 walk_at "ev";rw [if_pos hz'];unfold lK;walk_at "ev";by_cases h:(z.length:Int)<=40
 ·have h':z.length<=40:=by omega
  rw [if_pos h];have e:bz (.one 0) cc (aj jz (aa (ae 0) ak)) (bL [none] [some (D.str z)]) (lU z)=.ok (.lst (z.cps.toList.map fun c=>D.bl (decide (32<=c)&&decide (c<=126)))):=by
   refine cS _ _ rfl (by rw [x4];exact hz') fun c hc=>?_;show aj jz (aa (ae 0) ak) [some (D.str ⟨#[c]⟩)]=_;walk_at "ev";exact HB c
  rw [e];walk_at "ev";rw [x8 (oe _ _)];walk_at "ev";simp [yt,h',List.all_map,Function.comp_def]
 ·have h':¬ z.length<=40:=by omega
  rw [if_neg h];walk_at "ev";simp [yt,h']
def ay (l:List Nat):Str:=⟨l.toArray⟩
theorem au (l:List Nat):(ay l).cps.toList=l:=by simp [ay]
def aY (l:List Nat):(ay l).length=l.length:=by simp [ay,Str.length]
def sM {a b:Str} (h:a.cps.toList=b.cps.toList):a=b:=by
 cases a;cases b;congr 1;exact Array.toList_inj.mp h
def Ip (z:Str):z=ay z.cps.toList:=sM (au _).symm
def mk_eq {z:Str} {l:List Nat} (h:z.cps.toList=l):z=ay l:=sM (h.trans (au l).symm)
def mk_inj {a b:List Nat}:ay a=ay b ↔ a=b:=⟨fun h=>by have:=congrArg (fun z:Str=>z.cps.toList) h;simpa [au] using this,fun h=>by rw [h]⟩
theorem b6 (a b:Str):(a++b).cps.toList=a.cps.toList++b.cps.toList:=by
 show (a.cps++b.cps).toList=_;simp
def Ll (a b:List Nat):ay a++ay b=ay (a++b):=sM (by rw [b6,au,au,au])
def nq (a b:List Nat) (h:a.length+b.length<=1000000):aR (.str (ay a)) (.str (ay b))=.ok (.str (ay (a++b))):=by
 rw [IU,aY,aY,if_pos h,Ll]
def Jn:Str.ofString "\""=ay [34]:=by decide +kernel
def EY:Str.ofString "\"\""=ay [34,34]:=by decide +kernel
def l0:Str.ofString ""=ay []:=by decide +kernel
def QW:Str.ofString " "=ay [32]:=by decide +kernel
def l45:Str.ofString "-"=ay [45]:=by decide +kernel
def SE:Str.ofString "0"=ay [48]:=by decide +kernel
def Bz:Str.ofString "none"=ay [110,111,110,101]:=by decide +kernel
def Ra:Str.ofString "0123456789"=ay [48,49,50,51,52,53,54,55,56,57]:=by decide +kernel
def AA (c:Nat):(⟨#[c]⟩:Str)=ay [c]:=rfl
def tR (x:Str) (c:Nat):Txt.startswith x (ay [c])=decide (x.cps.toList[0]?=some c):=by
 have h:=PySem.StrLaws.subAt_one x c 0;rw [AA] at h;rw [Bool.eq_iff_iff,decide_eq_true_eq,<- h];unfold Txt.startswith
 rw [Bool.and_eq_true,decide_eq_true_eq]
def M0 (x:Str) (c:Nat):Txt.endswith x (ay [c])=decide (x.cps.toList[x.length - 1]?=some c):=by
 have h:=PySem.StrLaws.subAt_one x c (x.length - 1);rw [AA] at h;rw [Bool.eq_iff_iff,decide_eq_true_eq,<- h];unfold Txt.endswith
 rw [Bool.and_eq_true,decide_eq_true_eq,aY];show (0+1<=x.length/\_) ↔ (x.length - 1+1<=x.length/\_);constructor
 ·exact fun ⟨a,b⟩=>⟨by omega,b⟩
 ·exact fun ⟨a,b⟩=>⟨by omega,b⟩
theorem GH (x:Str) (c:Nat):HJ x (ay [c])=decide (c∈x.cps.toList):=PySem.StrLaws.found_one x c
def EN (x:Str) (c:Nat):uO (.str (ay [c])) (.str x)=.ok (.bl (decide (c∈x.cps.toList))):=by
 unfold uO QV;simp only [GH,j6];rfl
def M1 (z:Str) (h:z.length<=1000):ki "\"" "\"\"" (.str z)=.ok (.str (ay (lv z.cps.toList))):=by
 unfold ki;simp only;rw [if_pos ⟨by decide +kernel,h,by decide +kernel⟩];congr 2;refine mk_eq ?_;rw [nV _ _ _ (by decide +kernel),Jn,EY,au,au,A5]
def Nd (L:List Nat) (h:(lv L).length<=1000):ki "\"\"" "" (.str (ay (lv L)))=.ok (.str (ay (nG [] L))):=by
 unfold ki;simp only;rw [if_pos ⟨by decide +kernel,by rw [aY];exact h,by decide +kernel⟩];congr 2;refine mk_eq ?_;rw [nV _ _ _ (by decide +kernel),l0,EY,au,au,au,oq]
def ME (L:List Nat) (h:(lv L).length<=1000):ki "\"\"" "\"" (.str (ay (lv L)))=.ok (.str (ay L)):=by
 unfold ki;simp only;rw [if_pos ⟨by decide +kernel,by rw [aY];exact h,by decide +kernel⟩];congr 2;refine mk_eq ?_;rw [nV _ _ _ (by decide +kernel),Jn,EY,au,au,au,oq,tI]
def Vw:D->Prop
 | .non=>True
 | .int i=>i.natAbs < 10 ^ 18
 | .str z=>z.length<=40/\∀ c∈z.cps.toList,c∈F3
 | _=>False
def xD:∀ c∈F3,32<=c/\c<=126:=by decide +kernel
def wl:D->List Nat
 | .non=>[110,111,110,101]
 | .int i=>fj i
 | .str z=>34::(lv z.cps.toList++[34])
 | _=>[]
def fk (z:Str):z.cps.toList.length=z.length:=by simp [Str.length]
def x9 {i:Int} (h:i.natAbs < 10 ^ 18):(fj i).length<=19:=by
 have:=m5 17 _ h
 unfold fj;split <;> simp <;> omega
def oV {d:D} (h:Vw d):(wl d).length<=100:=by
 cases d with
 | non=>decide
 | int i=>have:=x9 h;show (fj i).length<=100;omega
 | str z =>
  have h1:=sV z.cps.toList;rw [fk] at h1;have h2:=h.1;show (34::(lv z.cps.toList++[34])).length<=100;simp;omega
 | _=>exact h.elim
def xc (d:D) (h:Vw d):gM [d]=.ok (.str (ay (wl d))):=by
 rw [Cw,om];cases d with
 | non =>
  walk_at "ev";rw [Bz];rfl
 | int i =>
  have h:i.natAbs < 10 ^ 18:=h;walk_at "ev";unfold qC;simp only;rw [if_pos (by omega),mk_eq (str_int i)];rfl
 | str z =>
  have hz:z.length<=1000:=by have:=h.1;omega
  have h1:=sV z.cps.toList;rw [fk] at h1;walk_at "ev";rw [M1 z hz];walk_at "ev";rw [Jn,nq _ _ (by simp;omega)];walk_at "ev";rw [nq _ _ (by simp;omega)];walk_at "ev";rfl
 | _=>exact h.elim
def LN (X:List Nat) (a b:Nat) (h:X.length<=900):fJ (.str (ay (a::(X++[b])))) (some 1) (some (-1))=.ok (.str (ay X)):=by
 unfold fJ;simp only;rw [aY,if_pos (by simp;omega)];congr 2;unfold du;refine mk_eq ?_;rw [au,aY];have e1:HT.sIx (a::(X++[b])).length 0 (some 1)=1:=by unfold HT.sIx;simp
 have e2:HT.sIx (a::(X++[b])).length (a::(X++[b])).length (some (-1))=X.length+1:=by
  unfold HT.sIx;simp;omega
 rw [e1,e2];simp
def Gp (X:List Nat) (a:Nat) (h:X.length<=900):fJ (.str (ay (a::X))) (some 1) none=.ok (.str (ay X)):=by
 unfold fJ;simp only;rw [aY,if_pos (by simp;omega)];congr 2;unfold du;refine mk_eq ?_;rw [au,aY];have e1:HT.sIx (a::X).length 0 (some 1)=1:=by unfold HT.sIx;simp
 have e2:HT.sIx (a::X).length (a::X).length none=X.length+1:=by unfold HT.sIx;simp
 rw [e1,e2];simp
def KA (L:List Nat) (h:(lv L).length<=1000):ki (Str.ofString "\"\"") (Str.ofString "") (.str (ay (lv L)))=.ok (.str (ay (nG [] L))):=Nd L h
def LW (L:List Nat) (h:(lv L).length<=1000):ki (Str.ofString "\"\"") (ay [34]) (.str (ay (lv L)))=.ok (.str (ay L)):=by rw [<- Jn];exact ME L h
def Co (z:Str) (h:Vw (.str z)):iL [.str (ay (wl (.str z)))]=.ok (.str z):=by
 have hz:=h.1;have h1:=sV z.cps.toList;rw [fk] at h1;have hv:jX [.str z]=.ok (.bl true):=by
  rw [E6 (.str z) (show z.length<=1000 by omega)]
  have:yt (.str z)=true:=by
   unfold yt;rw [Bool.and_eq_true,decide_eq_true_eq,List.all_eq_true];refine ⟨hz,fun c hc=>?_⟩
   have:=xD c (h.2 c hc)
   simp [this]
  rw [this]
 rw [y1,kA];show fin (aw _ _ [some (.str (ay (34::(lv z.cps.toList++[34])))),none,none])=_;have hl:bt [.str (ay (34::(lv z.cps.toList++[34])))]=.ok (.int (((lv z.cps.toList).length+2:Nat):Int)):=by
  rw [sk,aY,if_pos (by simp;omega)];simp;omega
 have hl2:¬ (((lv z.cps.toList).length+2:Nat):Int) < 2:=by omega
 have eb:(ay (34::(lv z.cps.toList++[34]))).cps.toList[(ay (34::(lv z.cps.toList++[34]))).length - 1]?=some 34:=by
  rw [au,aY];simp
 walk_at "ew";rw [hl];walk_at "ew";rw [if_neg hl2];walk_at "ew";unfold sv;simp only;rw [Jn,M0,decide_eq_true eb];walk_at "ew";rw [LN _ _ _ (by omega)];walk_at "ew";rw [KA _ (by omega)];walk_at "ew";rw [EN,au,decide_eq_false (tZ _)];walk_at "ew";rw [LW _ (by omega)];walk_at "ew";rw [<- Ip z,hv];walk_at "ew"
def DT (c:Nat) (h:48<=c/\c<=57):ap uO (ae 0) (vC bZ) [some (.str ⟨#[c]⟩)]=.ok (.bl true):=by
 unfold bZ;simp only [l6,v_var,pP,v_c,kM,ah,List.getElem?_cons_zero];rw [AA,Ra,EN,au]
 have:c=48\/c=49\/c=50\/c=51\/c=52\/c=53\/c=54\/c=55\/c=56\/c=57:=by omega
 rw [decide_eq_true (by simp;exact this)]
def yZ (L:List Nat) (h:∀ c∈L,48<=c/\c<=57) (hl:L.length<=900) (a b:Option D):aj nF (aa (bn [none] (b8 (ae 1)) (.one 0) cc (ap uO (ae 0) (vC bZ))) ak) [a,some (.str (ay L))]=.ok (.bl true):=by
 have e:bz (.one 0) cc (ap uO (ae 0) (vC bZ)) (bL [none] [a,some (D.str (ay L))]) (lU (ay L))=.ok (.lst (L.map fun c=>D.bl true)):=by
  have e0:lU (ay L)=L.map fun c=>D.str ⟨#[c]⟩:=by
   show ((ay L).cps.toList.map fun c=>D.str ⟨#[c]⟩)=_;rw [au]
  rw [e0];exact cS _ _ rfl (by omega) fun c hc=>DT c (h c hc)
 walk_at "ev";rw [e];walk_at "ev";rw [x8 (oe _ _)];simp
def y3 (i:Int) (h:i.natAbs < 10 ^ 18):hU [.str (ay (fj i))]=.ok (.int i):=by
 have hl:=m5 17 _ h;have hint:kB [.str (ay (fj i))]=.ok (.int i):=by
  unfold kB;simp only;rw [xY (au _) (by omega)];simp only;rw [aY,if_pos (by have:=x9 h;omega)]
 have hne:=yk i.natAbs;have hmem:∀ c∈dg i.natAbs,48<=c/\c<=57:=fun c hc=>iR hc;rw [vi,ie];have rest:∀ L:List Nat,L=dg i.natAbs->fin ((aw (cN (rP (b5 (ap eU (ae 1) (vC (.str "")))) (dh (cq (aj nF (aa (bn [none] (b8 (ae 1)) (.one 0) cc (ap uO (ae 0) (vC bZ))) ak))))) cC aF) (aw (cN (qu (cq (oH (sv fun x y=>.bl (Txt.startswith x y)) (ae 1) (aa (vC (.str "0")) ak))) (b5 (ap pY (ae 0) (vC (.str "0"))))) cC aF) (aw (cN (b5 (ap C8 (aj bt (aa (ae 1) ak)) (vC bN))) cC aF) (a7 (aj kB (aa (ae 0) ak)))))) [some (.str (ay (fj i))),some (.str (ay L))])=.ok (.int i):=by
  intro L hL;subst hL;have e1:rP (b5 (ap eU (ae 1) (vC (.str "")))) (dh (cq (aj nF (aa (bn [none] (b8 (ae 1)) (.one 0) cc (ap uO (ae 0) (vC bZ))) ak)))) [some (.str (ay (fj i))),some (.str (ay (dg i.natAbs)))]=.ok false:=by
   rw [EU,zS];have ea:ap eU (ae 1) (vC (.str "")) [some (.str (ay (fj i))),some (.str (ay (dg i.natAbs)))]=.ok (.bl false):=by
    simp only [l6,v_var,pP,v_c,kM,ah,List.getElem?_cons_zero,List.getElem?_cons_succ,Er];rw [l0,decide_eq_false (fun z=>hne (mk_inj.mp z))]
   rw [ea,ah,GE,ah,yP,if_neg Bool.false_ne_true,BF,Bi,yZ _ hmem (by omega) _ none];rfl
  rw [bi,sF,e1,ah,um,if_neg Bool.false_ne_true,qN,ah,aS];walk_at "ev";unfold sv;simp only;rw [SE,tR,au];by_cases h0:i.natAbs=0
  ·have hi:i=0:=by omega
   subst hi;have ef:fj 0=[48]:=by unfold fj;rw [if_neg (by decide)];exact gm (by decide)
   have eg:dg (Int.natAbs 0)=[48]:=gm (by decide);rw [eg];walk_at "ew";rw [ef];walk_at "ew";rw [sk,aY,if_pos (by decide)];unfold bN;walk_at "ew";rw [if_neg (by decide)];walk_at "ew";rw [ef] at hint;rw [hint];rfl
  ·obtain ⟨c,r,e1,e2⟩:=BR i.natAbs (by omega);rw [decide_eq_false (by rw [e1];simp;exact e2)];walk_at "ew";rw [sk,aY,if_pos (by omega)];unfold bN;walk_at "ew";rw [if_neg (by omega)];walk_at "ew";rw [hint];rfl
 rw [bi,BV];have e1:Jr (cq (oH (sv fun x y=>.bl (Txt.startswith x y)) (ae 0) (aa (vC (.str "-")) ak))) (mN fJ (ae 0) (bx (vC (.int 1))) c6) (ae 0) [some (.str (ay (fj i))),none]=.ok (.str (ay (dg i.natAbs))):=by
  walk_at "ev";unfold sv;simp only;rw [l45,tR,au];by_cases hn:i < 0
  ·have ef:fj i=45::dg i.natAbs:=by unfold fj;rw [if_pos hn]
   rw [ef,decide_eq_true (by simp)];walk_at "ew";exact Gp _ _ (by omega)
  ·have ef:fj i=dg i.natAbs:=by unfold fj;rw [if_neg hn]
   rw [ef,decide_eq_false (fun z=>by
    cases hd:dg i.natAbs with
    | nil=>rw [hd] at z;simp at z
    | cons c r =>
     rw [hd] at z;simp at z
     have:=hmem c (by rw [hd];simp)
     omega)]
   walk_at "ev"
 rw [e1,ah,Ds,ah,aS];exact rest _ rfl
def Ae (d:D) (h:Vw d):cM [.str (ay (wl d))]=.ok d:=by
 rw [xH,ji];cases d with
 | non =>
  show fin (aw _ _ [some (.str (ay [110,111,110,101]))])=_;walk_at "ev";rw [Bz,if_pos rfl];rfl
 | int i =>
  have h:i.natAbs < 10 ^ 18:=h;show fin (aw _ _ [some (.str (ay (fj i)))])=_;have hm:∀ c∈fj i,45<=c/\c<=57:=fun c hc=>tL hc;walk_at "ev";rw [Bz,if_neg (fun z=>by
   have z:=mk_inj.mp z
   have:=hm 110 (by rw [z];simp)
   omega)]
  walk_at "ev";unfold sv;simp only;rw [Jn,tR,au,decide_eq_false (fun z=>by
   have:=hm 34 (List.mem_of_getElem? z)
   omega)]
  walk_at "ev";rw [y3 i h];rfl
 | str z =>
  have ht:=Co z h;show fin (aw _ _ [some (.str (ay (34::(lv z.cps.toList++[34]))))])=_;walk_at "ev";rw [Bz,if_neg (fun z=>by have z:=mk_inj.mp z;simp at z)];walk_at "ev";unfold sv;simp only;rw [Jn,tR,au,decide_eq_true (by simp)];walk_at "ev";have ht':iL [.str (ay (34::(lv z.cps.toList++[34])))]=.ok (.str z):=ht;rw [ht'];rfl
 | _=>exact h.elim
abbrev pB:FS:=(aw (cN (b5 (ap eU (ae 5) (vC (.str "\"")))) (aI 3 (zm (ae 3))) aF) (cN (qu (b5 (ap eU (ae 5) (vC (.str " ")))) (dh (cq (ae 3)))) (aw (bG 1 (mN fJ (ae 0) (bx (ae 2)) (bx (ae 4)))) (aI 2 (ap aR (ae 4) (vC (.int 1))))) aF))
def GP (W:List Nat) (a b:Nat) (hab:a<=b) (hb:b<=W.length) (hW:W.length<=100000):fJ (.str (ay W)) (some (a:Int)) (some (b:Int))=.ok (.str (ay ((W.drop a).take (b - a)))):=by
 unfold fJ;simp only;rw [aY,if_pos (by omega)];congr 2;unfold du;refine mk_eq ?_;rw [au,aY];have e1:HT.sIx W.length 0 (some (a:Int))=a:=by rw [HT.dJ];omega
 have e2:HT.sIx W.length W.length (some (b:Int))=b:=by rw [HT.dJ];omega
 rw [e1,e2]
def Bt (W:List Nat) (a:Nat) (ha:a<=W.length) (hW:W.length<=100000):fJ (.str (ay W)) (some (a:Int)) none=.ok (.str (ay (W.drop a))):=by
 unfold fJ;simp only;rw [aY,if_pos (by omega)];congr 2;unfold du;refine mk_eq ?_;rw [au,aY];have e1:HT.sIx W.length 0 (some (a:Int))=a:=by rw [HT.dJ];omega
 have e2:HT.sIx W.length W.length none=W.length:=rfl;rw [e1,e2,List.take_of_length_le (by simp)]
def take_snoc (W:List Nat) (a i:Nat) (c:Nat) (r:List Nat) (hai:a<=i) (hd:W.drop i=c::r):(W.drop a).take (i+1 - a)=(W.drop a).take (i - a)++[c]:=by
 have hi:i < W.length:=by
  rcases Nat.lt_or_ge i W.length with z|z
  ·exact z
  ·rw [List.drop_eq_nil_iff.mpr z] at hd;cases hd
 have hc:W[i]=c:=by
  rw [List.drop_eq_getElem_cons hi] at hd;injection hd
 rw [show i+1 - a=(i - a)+1 by omega,List.take_succ_eq_append_getElem (by rw [List.length_drop];omega)];congr 2;rw [List.getElem_drop,<- hc];congr 1;omega
def oY (W:List Nat) (hW:W.length<=100000):∀ (r:List Nat) (i a:Nat) (b:Bool) (ps:List D) (o4 o5:Option D),W.drop i=r->a<=i->i<=W.length->ps.length<=i ->
  ∃ (ps':List D) (a':Nat) (b':Bool) (o4' o5':Option D),a'<=W.length/\ps'.length<=W.length/\gJ (.tup [4,5]) pB (bS i (r.map fun c=>D.str ⟨#[c]⟩)) [some (.str (ay W)),some (.lst ps),some (.int (a:Int)),some (.bl b),o4,o5]=.ok (.nx [some (.str (ay W)),some (.lst ps'),some (.int (a':Int)),some (.bl b'),o4',o5']) /\
   ps'++[D.str (ay (W.drop a'))]=ps++(qw ((W.drop a).take (i - a)) b r).map fun w=>D.str (ay w)
 | [],i,a,b,ps,o4,o5,hd,hai,hi,hp=>by
  refine ⟨ps,a,b,o4,o5,by omega,by omega,rfl,?_⟩;have hi':W.length<=i:=List.drop_eq_nil_iff.mp hd;rw [qw,List.take_of_length_le (by rw [List.length_drop];omega)];rfl
 | c::r,i,a,b,ps,o4,o5,hd,hai,hi,hp=>by
  have hil:i < W.length:=by
   rcases Nat.lt_or_ge i W.length with z|z
   ·exact z
   ·rw [List.drop_eq_nil_iff.mpr z] at hd;cases hd
  have hd':W.drop (i+1)=r:=by
   rw [List.drop_eq_getElem_cons hil] at hd;injection hd
  rw [List.map_cons];show ∃ (ps':List D) (a':Nat) (b':Bool) (o4' o5':Option D),a'<=W.length/\ps'.length<=W.length/\gJ (.tup [4,5]) pB (D.tup [.int (i:Int),.str ⟨#[c]⟩]::bS (i+1) (r.map fun c=>D.str ⟨#[c]⟩)) _=_/\_;rw [jG,Ch,ah,Eb];show ∃ (ps':List D) (a':Nat) (b':Bool) (o4' o5':Option D),a'<=W.length/\ps'.length<=W.length/\((pB [some (.str (ay W)),some (.lst ps),some (.int (a:Int)),some (.bl b),some (.int (i:Int)),some (.str (ay [c]))]).bind _)=_/\_;have e1:cN (b5 (ap eU (ae 5) (vC (.str "\"")))) (aI 3 (zm (ae 3))) aF [some (.str (ay W)),some (.lst ps),some (.int (a:Int)),some (.bl b),some (.int (i:Int)),some (.str (ay [c]))]=.ok (.nx [some (.str (ay W)),some (.lst ps),some (.int (a:Int)),some (.bl (if c=34 then !b else b)),some (.int (i:Int)),some (.str (ay [c]))]):=by
   walk_at "ev";rw [Jn];by_cases hc:c=34
   ·rw [if_pos (by rw [hc]),if_pos hc];walk_at "ev"
   ·rw [if_neg (fun z=>hc (by have:=mk_inj.mp z;simpa using this)),if_neg hc];walk_at "ev"
  rw [qw];generalize hb':(if c=34 then !b else b)=b' at e1;unfold pB;rw [bi,e1,ah,aS];by_cases hq:c=32/\b'=false
  ·rw [if_pos hq];have e2:cN (qu (b5 (ap eU (ae 5) (vC (.str " ")))) (dh (cq (ae 3)))) (aw (bG 1 (mN fJ (ae 0) (bx (ae 2)) (bx (ae 4)))) (aI 2 (ap aR (ae 4) (vC (.int 1))))) aF [some (.str (ay W)),some (.lst ps),some (.int (a:Int)),some (.bl b'),some (.int (i:Int)),some (.str (ay [c]))]=.ok (.nx [some (.str (ay W)),some (.lst (ps++[D.str (ay ((W.drop a).take (i - a)))])),some (.int ((i+1:Nat):Int)),some (.bl b'),some (.int (i:Int)),some (.str (ay [c]))]):=by
    obtain ⟨h1,h2⟩:=hq;subst h1 h2;walk_at "ev";rw [QW,if_pos rfl];walk_at "ew";rw [GP W a i hai hi hW];walk_at "ew";rw [if_pos (by omega)];walk_at "ev";rfl
   rw [e2,ah,kw];obtain ⟨ps',a',b'',o4',o5',q1,q2,q3,q4⟩:=oY W hW r (i+1) (i+1) b' (ps++[D.str (ay ((W.drop a).take (i - a)))]) (some (.int (i:Int))) (some (.str (ay [c]))) hd' (Nat.le_refl _) hil (by simp;omega);refine ⟨ps',a',b'',o4',o5',q1,q2,q3,?_⟩;rw [q4,Nat.sub_self,List.take_zero];simp
  ·rw [if_neg hq];have e2:cN (qu (b5 (ap eU (ae 5) (vC (.str " ")))) (dh (cq (ae 3)))) (aw (bG 1 (mN fJ (ae 0) (bx (ae 2)) (bx (ae 4)))) (aI 2 (ap aR (ae 4) (vC (.int 1))))) aF [some (.str (ay W)),some (.lst ps),some (.int (a:Int)),some (.bl b'),some (.int (i:Int)),some (.str (ay [c]))]=.ok (.nx [some (.str (ay W)),some (.lst ps),some (.int (a:Int)),some (.bl b'),some (.int (i:Int)),some (.str (ay [c]))]):=by
    walk_at "ev";rw [QW];by_cases hc:c=32
    ·have hb:b'=true:=by
      cases b' with
      | true=>rfl
      | false=>exact absurd ⟨hc,rfl⟩ hq
     subst hc hb;rw [if_pos rfl];walk_at "ev"
    ·rw [if_neg (fun z=>hc (by have:=mk_inj.mp z;simpa using this))];walk_at "ev"
   rw [e2,ah,kw];obtain ⟨ps',a',b'',o4',o5',q1,q2,q3,q4⟩:=oY W hW r (i+1) a b' ps (some (.int (i:Int))) (some (.str (ay [c]))) hd' (by omega) hil (by omega);refine ⟨ps',a',b'',o4',o5',q1,q2,q3,?_⟩;rw [q4,take_snoc W a i c r hai hd]
def Ce (W:List Nat) (hW:W.length<=100000):fN [.str (ay W)]=.ok (.lst ((qw [] false W).map fun w=>D.str (ay w))):=by
 obtain ⟨ps',a',b',o4',o5',h1,h2,h3,h4⟩:=oY W hW W 0 0 false [] none none rfl (Nat.le_refl _) (Nat.zero_le _) (Nat.zero_le _);rw [List.nil_append,Nat.sub_self,List.take_zero] at h4;rw [ym,kx];have ei:jL (aa (ae 0) ak) [some (.str (ay W)),some (.lst []),some (.int 0),some (.bl false),none,none]=.ok (bS 0 (W.map fun c=>D.str ⟨#[c]⟩)):=by
  walk_at "ev";have e0:jQ (.str (ay W))=.ok (W.map fun c=>D.str ⟨#[c]⟩):=by
   rw [A4];show R.ok ((ay W).cps.toList.map fun c=>D.str ⟨#[c]⟩)=_;rw [au]
  exact JF e0
 have E1:m3 1 (ee ak) [some (.str (ay W)),none,none,none,none,none]=.ok (.nx [some (.str (ay W)),some (.lst []),none,none,none,none]):=by walk_at "ew"
 have E2:aI 2 (vC (.int 0)) [some (.str (ay W)),some (.lst []),none,none,none,none]=.ok (.nx [some (.str (ay W)),some (.lst []),some (.int 0),none,none,none]):=by walk_at "ew"
 have E3:aI 3 (vC (.bl false)) [some (.str (ay W)),some (.lst []),some (.int 0),none,none,none]=.ok (.nx [some (.str (ay W)),some (.lst []),some (.int 0),some (.bl false),none,none]):=by walk_at "ew"
 rw [bi,E1,ah,aS,bi,E2,ah,aS,bi,E3,ah,aS,bi,ui,ei,ah,uB];have h3':gJ (.tup [4,5]) pB (bS 0 (W.map fun c=>D.str ⟨#[c]⟩)) [some (.str (ay W)),some (.lst []),some (.int 0),some (.bl false),none,none]=.ok (.nx [some (.str (ay W)),some (.lst ps'),some (.int (a':Int)),some (.bl b'),o4',o5']):=h3;rw [h3',ah,aS];have E4:bG 1 (mN fJ (ae 0) (bx (ae 2)) c6) [some (.str (ay W)),some (.lst ps'),some (.int (a':Int)),some (.bl b'),o4',o5']=.ok (.nx [some (.str (ay W)),some (.lst (ps'++[D.str (ay (W.drop a'))])),some (.int (a':Int)),some (.bl b'),o4',o5']):=by
  walk_at "ew";rw [Bt W a' h1 hW];walk_at "ew";rw [if_pos (by omega)]
 rw [bi,E4,ah,aS,h4];walk_at "ew"
def EJ {d:D} (h:Vw d):quiet false (wl d)=some false:=by
 cases d with
 | non=>rfl
 | int i=>exact rT (fun c hc=>by have:=tL hc;omega) false
 | str z=>exact zY _
 | _=>exact h.elim
def Pz {d:D} (h:Vw d):wl d≠[]:=by
 cases d with
 | non=>simp [wl]
 | int i =>
  show fj i≠[];unfold fj;split
  ·simp
  ·exact yk _
 | str z=>simp [wl]
 | _=>exact h.elim
def yB:∀ (ws:List (List Nat)),av ws=(ws.intersperse [32]).flatten
 | []=>rfl
 | [w]=>by simp [av]
 | w::w'::ws=>by
  rw [av,yB (w'::ws)];simp [List.intersperse]
def AN (ws:List (List Nat)):Txt.join (ay [32]) (ws.map ay)=ay (av ws):=by
 refine mk_eq ?_;rw [lf,au,List.map_map,yB];congr 2
 conv=>rhs;rw [<- List.map_id ws]
 exact List.map_congr_left fun w _=>au w
def lm:∀ (ws:List (List Nat)),(∀ w∈ws,w.length<=100)->(av ws).length<=101*ws.length
 | [],_=>by simp [av]
 | [w],h=>by have:=h w (by simp);simp [av];omega
 | w::w'::ws,h=>by
  have h1:=h w (by simp);have h2:=lm (w'::ws) fun x hx=>h x (List.mem_cons_of_mem _ hx);simp [av] at h2 ⊢;omega
def F0 (ds:List D) (h:∀ d∈ds,Vw d) (hl:ds.length<=100):ia [.str (ay (av (ds.map wl)))]=.ok (.lst ds):=by
 rw [uW,ib];cases ds with
 | nil =>
  show fin (aw _ _ [some (.str (ay []))])=_;walk_at "ew";rw [l0,if_pos rfl];walk_at "ew"
 | cons d ds =>
  have hw:∀ w∈(d::ds).map wl,w.length<=100:=fun w hw=>by
   obtain ⟨x,hx,rfl⟩:=List.mem_map.mp hw;exact oV (h x hx)
  have hL:=lm _ hw;rw [List.length_map] at hL;have hne:av ((d::ds).map wl)≠[]:=by
   have:=Pz (h d (by simp))
   cases ds with
   | nil=>exact this
   | cons d' ds' =>
    show wl d++32::_≠[];simp
  have hp:=Ce (av ((d::ds).map wl)) (by omega);rw [List.map_cons,zi (wl d) (ds.map wl) (fun x hx=>by
   rw [<- List.map_cons] at hx;obtain ⟨y,hy,rfl⟩:=List.mem_map.mp hx;exact EJ (h y hy)),<- List.map_cons,List.map_map] at hp
  have e:bz (.one 0) cc (aj cM (aa (ae 0) ak)) (bL [none] [some (.str (ay (av ((d::ds).map wl))))]) ((d::ds).map ((fun w=>D.str (ay w)) ∘ wl))=.ok (.lst ((d::ds).map fun x=>x)):=by
   refine cS _ _ rfl (by omega) fun x hx=>?_;show aj cM (aa (ae 0) ak) [some (.str (ay (wl x)))]=_;walk_at "ew";exact Ae x (h x hx)
  rw [List.map_id'] at e;have E1:cN (b5 (ap eU (ae 0) (vC (.str "")))) (a7 (ee ak)) aF [some (.str (ay (av ((d::ds).map wl))))]=.ok (.nx [some (.str (ay (av ((d::ds).map wl))))]):=by
   walk_at "ew";rw [l0,if_neg (fun z=>hne (mk_inj.mp z))]
  rw [bi,E1,ah,aS];have E2:bn [none] (b8 (aj fN (aa (ae 0) ak))) (.one 0) cc (aj cM (aa (ae 0) ak)) [some (.str (ay (av ((d::ds).map wl))))]=.ok (.lst (d::ds)):=by
   rw [wj,FM];simp only [rl,oU,sZ,v_var,pP,List.getElem?_cons_zero,ah,o9,lH];rw [hp,ah,GJ,ah];exact e
  show fin ((bn [none] (b8 (aj fN (aa (ae 0) ak))) (.one 0) cc (aj cM (aa (ae 0) ak)) [some (.str (ay (av ((d::ds).map wl))))]).bind _)=_;rw [E2];rfl
def low (c:Nat):Bool:=decide (97<=c)&&decide (c<=122)
def B6 (c:Nat):fM [.str ⟨#[c]⟩]=.ok (.bl (low c)):=by
 rw [ye,ky];walk_at "ev";have e1:(Str.ofString "a").cps.toList=[97]:=by decide +kernel
 have e2:(Str.ofString "z").cps.toList=[122]:=by decide +kernel
 rw [e1,e2];simp only [DH];unfold low;by_cases h:c < 97
 ·have h1:¬ 97<=c:=by omega
  simp [h,h1,ah,pN,kS]
 ·have h1:97<=c:=by omega
  by_cases h2:122 < c
  ·have h3:¬ c<=122:=by omega
   simp [h,h1,h2,h3,ah,pN,kS]
  ·have h3:c<=122:=by omega
   simp [h,h1,h2,h3,ah,pN,kS]
def GG:List V:=[.str "and",.str "by",.str "down",.str "from",.str "none",.str "not",.str "or",.str "order",.str "show",.str "take",.str "where"]
def tS (z:Str):Bool:=Da (.str z) GG
def Es (z:Str):rg (.str z) pp=.ok (.bl (!tS z)):=rfl
def pK (z:Str):Bool:=!decide (z="")&&(decide (z.length<=8)&&(z.cps.toList.all low&&!tS z))
def vU:D->Bool
 | .str z=>pK z
 | _=>false
def F4:D->Prop
 | .str z=>z.length<=1000
 | .ty _=>False
 | .obj _ _=>False
 | .exn _=>False
 | .cls _=>False
 | .lsm _=>False
 | _=>True
def sN (d:D) (ok:F4 d):cY [d]=.ok (.bl (vU d)):=by
 rw [CQ,ow];cases d with
 | str z =>
  have hz:z.length<=1000000:=Nat.le_trans ok (by decide);unfold jD;walk_at "ev";show _=R.ok (D.bl (pK z));unfold pK;by_cases h0:z=Str.ofString ""
  ·rw [if_pos h0];simp [h0,ah,um,r6,v_c,pN,Ar,kS]
  ·rw [if_neg h0,if_pos hz];walk_at "ev";by_cases h:(8:Int) < (z.length:Int)
   ·have h':¬ z.length<=8:=by omega
    rw [if_pos h];simp [h0,h',ah,Ar,kS]
   ·have h':z.length<=8:=by omega
    rw [if_neg h];walk_at "ev";have e:bz (.one 0) cc (aj fM (aa (ae 0) ak)) (bL [none] [some (D.str z)]) (lU z)=.ok (.lst (z.cps.toList.map fun c=>D.bl (low c))):=by
     refine cS _ _ rfl (by rw [<- str_len];exact hz) fun c hc=>?_;show aj fM (aa (ae 0) ak) [some (D.str ⟨#[c]⟩)]=_;walk_at "ev";exact B6 c
    rw [e];walk_at "ev";rw [x8 (oe _ _)];walk_at "ev";rw [Es];simp only [List.all_map,Function.comp_def,id];cases h1:z.cps.toList.all low <;> simp [h0,h',ah,pN,kS]
 | ty _=>exact ok.elim
 | obj _ _=>exact ok.elim
 | exn _=>exact ok.elim
 | cls _=>exact ok.elim
 | lsm _=>exact ok.elim
 | _=>walk_at "ev";rfl
def df (a b:Str):(a++b).length=a.length+b.length:=by
 rw [str_len,str_len,str_len,b6,List.length_append]
def wU {z:Str} {lo hi:Option Int} {c:Nat} (h:c∈(du z lo hi).cps.toList):c∈z.cps.toList:=by
 unfold du at h;exact List.mem_of_mem_drop (List.mem_of_mem_take (by simpa using h))
def t6 (z:Str) (n:Nat) (h:n<=z.length):(du z none (some (n:Int))).length=n:=by
 show (du z none (some (n:Int))).cps.size=n;unfold du;rw [HT.yi,HT.dJ,Nat.min_eq_left h]
 have:z.length=z.cps.size:=rfl
 simp;omega
def wI (z:Str) (n:Nat) (h:n<=z.length):(du z (some (n:Int)) none).length=z.length - n:=by
 show (du z (some (n:Int)) none).cps.size=_;unfold du;rw [HT.yi,HT.dJ,Nat.min_eq_left h]
 have:z.length=z.cps.size:=rfl
 simp;omega
def abc:List Nat:=(Str.ofString "abcdefghijklmnopqrstuvwxyz").cps.toList
def Ht:abc.length=26:=by decide +kernel
def GF:∀ c∈abc,low c=true:=by decide +kernel
def ss (i:Int):Nat:=abc.getD (i % 26).toNat 0
def Aq (i:Int):atI (Str.ofString "abcdefghijklmnopqrstuvwxyz").cps.toList (i % 26)=some (ss i)/\low (ss i)=true:=by
 have h0:0<=i % 26:=Int.emod_nonneg _ (by decide);have h1:i % 26 < 26:=Int.emod_lt_of_pos _ (by decide);have hk:(i % 26).toNat < abc.length:=by rw [Ht];omega
 have ek:i % 26=(((i % 26).toNat:Nat):Int):=by omega
 have h:=bX (xs:=abc) (j:=(i % 26).toNat) (List.getElem?_eq_getElem hk);rw [<- ek] at h;unfold ss;rw [List.getD_eq_getElem?_getD,List.getElem?_eq_getElem hk];exact ⟨h,GF _ (List.getElem_mem hk)⟩
structure Nm (z:Str):Prop where
 l0:1<=z.length
 l1:z.length<=8
 lw:z.cps.toList.all low=true
def Fc (i:Int):bj (.str "abcdefghijklmnopqrstuvwxyz") (.int (i % 26))=.ok (.str ⟨#[ss i]⟩):=KS (by decide +kernel) (Aq i).1
def Nm.name {z:Str} (h:Nm z) (hr:tS z=false):pK z=true:=by
 have h0:z≠Str.ofString "":=fun e=>by
  have:=h.l0
  rw [e] at this;exact absurd this (by decide +kernel)
 simp [pK,h0,h.l1,h.lw,hr]
def Of:List V:=[.str "number",.str "text"]
def yO:D->Bool
 | .str k=>Da (.str k) Of
 | _=>false
def tT (d:D) (ok:F4 d):cW [d]=.ok (.bl (yO d)):=by
 rw [qV,eG];cases d with
 | str z=>walk_at "ev";rfl
 | ty _=>exact ok.elim
 | obj _ _=>exact ok.elim
 | exn _=>exact ok.elim
 | cls _=>exact ok.elim
 | lsm _=>exact ok.elim
 | _=>walk_at "ev";rfl
def EE (ds:List D):gO [.tup ds]=.ok (.bl (decide (ds.length=2))):=by
 rw [vF,ln];walk_at "ev";congr 2;refine decide_eq_decide.mpr ?_;omega
def G2 (d:D) (ok:F4 d) (h:∀ ds,d≠.tup ds):gO [d]=.ok (.bl false):=by
 rw [vF,ln];cases d with
 | tup ds=>exact absurd rfl (h ds)
 | ty _=>exact ok.elim
 | obj _ _=>exact ok.elim
 | exn _=>exact ok.elim
 | cls _=>exact ok.elim
 | lsm _=>exact ok.elim
 | _=>walk_at "ev"
def colB:D->Bool
 | .tup [a,b]=>vU a&&yO b
 | _=>false
def QP:D->Prop
 | .tup [a,b]=>F4 a/\F4 b
 | d=>F4 d
def CW (d:D) (ok:QP d):c7 [d]=.ok (.bl (colB d)):=by
 rw [zk,kj];have no:∀ d,F4 d->(∀ ds,d≠.tup ds)->fin ((gO [d]).bind (Kn (mI (aj cY (aa (ap bj (ae 0) (vC (.int 0))) ak)) (aj cW (aa (ap bj (ae 0) (vC (.int 1))) ak))) [some d]) |>.bind Ki)=.ok (.bl false):=by
  intro d h1 h2;rw [G2 d h1 h2];rfl
 cases d with
 | tup ds =>
  walk_at "ev";rw [EE]
  match ds,ok with
  | [],_=>rfl
  | [_],_=>rfl
  | [a,b],ok =>
   obtain ⟨oa,ob⟩:F4 a/\F4 b:=ok;walk_at "ev";rw [sN a oa];walk_at "ev";rw [tT b ob];walk_at "ev";show _=R.ok (D.bl (vU a&&yO b));cases vU a <;> rfl
  | a::b::c::r,_ =>
   have:¬ (a::b::c::r).length=2:=by simp
   simp only [this,decide_false];rfl
 | ty n=>exact (show False from ok).elim
 | obj C fs=>exact (show False from ok).elim
 | exn _=>exact (show False from ok).elim
 | cls _=>exact (show False from ok).elim
 | lsm _=>exact (show False from ok).elim
 | str z=>exact no (.str z) ok (fun ds e=>by cases e)
 | non=>exact no .non ok (fun ds e=>by cases e)
 | int i=>exact no (.int i) ok (fun ds e=>by cases e)
 | bl b=>exact no (.bl b) ok (fun ds e=>by cases e)
 | lst xs=>exact no (.lst xs) ok (fun ds e=>by cases e)
 | dct xs=>exact no (.dct xs) ok (fun ds e=>by cases e)
def B9 (ds:List D) (hl:ds.length<=1000) (h:∀ d∈ds,QP d):bz (.one 0) cc (aj c7 (aa (ae 0) ak)) (bL [none] [some (D.tup ds),none]) ds=.ok (.lst (ds.map fun d=>D.bl (colB d))):=by
 have:=cS (k:=0) (ε:=aj c7 (aa (ae 0) ak)) (δ0:=bL [none] [some (D.tup ds),none]) (as:=ds) id (fun d=>D.bl (colB d)) rfl (by omega) fun d hd=>by
  show aj c7 (aa (ae 0) ak) [some d]=_;walk_at "ev";exact CW d (h d hd)
 rwa [List.map_id] at this
def HL (ds:List D) (hl:1<=ds.length/\ds.length<=8) (h:∀ d∈ds,QP d):cU [.tup ds]=if (ds.all colB)=true then fin (aw (aI 1 (bn [none] (b8 (ae 0)) (.one 0) cc (ap bj (ae 0) (vC (.int 0))))) (a7 (ap eU (aj ot (aa (ae 1) ak)) (aj bt (aa (ae 1) ak)))) [some (.tup ds),none]) else .ok (.bl false):=by
 rw [uV,hZ];unfold jW;rw [bi,sF];have e1:rP (dh (cq (aj fG (aa (ae 0) (aa (vC (.ty "tuple")) ak))))) (rP (b5 (ap CU (aj bt (aa (ae 0) ak)) (vC (.int 1)))) (b5 (ap C8 (aj bt (aa (ae 0) ak)) (vC (.int 8))))) [some (D.tup ds),none]=.ok false:=by
  walk_at "ev";rw [if_neg (by omega)];simp;omega
 rw [e1,ah,um,if_neg (by decide),qN,ah,aS,bi,sF];have e2:dh (cq (aj nF (aa (bn [none] (b8 (ae 0)) (.one 0) cc (aj c7 (aa (ae 0) ak))) ak))) [some (D.tup ds),none]=.ok (!ds.all colB):=by
  walk_at "ev";rw [B9 ds (by omega) h];walk_at "ev";rw [x8 (oe _ _)];walk_at "ev";simp [List.all_map,Function.comp_def]
 rw [e2];cases ds.all colB <;> rfl
def bJ (c:Str×Str):D:=.tup [.str c.1,.str c.2]
structure Col (c:Str×Str):Prop where
 nm:Nm c.1
 nr:tS c.1=false
 kd:c.2="number"\/c.2="text"
def Col.okc {c:Str×Str} (h:Col c):QP (bJ c):=by
 refine ⟨Nat.le_trans h.nm.l1 (by decide),?_⟩;show c.2.length<=1000;rcases h.kd with e|e <;> rw [e] <;> decide +kernel
def Hk {k:Str} (h:k="number"\/k="text"):yO (.str k)=true:=by
 rcases h with e|e <;> rw [e] <;> decide +kernel
def Col.colB {c:Str×Str} (h:Col c):colB (bJ c)=true:=by
 show (pK c.1&&yO (.str c.2))=true;rw [h.nm.name h.nr,Hk h.kd];rfl
def EI (cs:List (Str×Str)) (hl:1<=cs.length/\cs.length<=8) (h:∀ c∈cs,Col c):cU [.tup (cs.map bJ)]=.ok (.bl (decide ((dz (cs.map (·.1))).length=cs.length))):=by
 rw [HL _ (by simpa using hl) (fun d hd=>by obtain ⟨c,hc,rfl⟩:=List.mem_map.mp hd;exact (h c hc).okc)]
 have:(cs.map bJ).all T52.colB=true:=by
  rw [List.all_eq_true];intro d hd;obtain ⟨c,hc,rfl⟩:=List.mem_map.mp hd;exact (h c hc).colB
 rw [if_pos this];walk_at "ev";have e:bz (.one 0) cc (ap bj (ae 0) (vC (.int 0))) (bL [none] [some (D.tup (cs.map bJ)),none]) (cs.map bJ)=.ok (.lst (cs.map fun c=>D.str c.1)):=by
  refine cS bJ _ rfl (by omega) fun c hc=>?_;show ap bj (ae 0) (vC (.int 0)) [some (.tup [.str c.1,.str c.2])]=_;walk_at "ev"
 rw [e];walk_at "ev";have es:mF (cs.map fun c=>D.str c.1)=some (cs.map (·.1)):=strs_map _ _;have el:ot [.lst (cs.map fun c=>D.str c.1)]=.ok (.int ((dz (cs.map (·.1))).length:Nat)):=by
  unfold ot;simp only [es];rw [if_pos (by simp;omega)]
 rw [el];walk_at "ev";rw [List.length_map];congr 2;refine decide_eq_decide.mpr ?_;omega
def vP {ks:List Str}:∀ n,n<=ks.length->((dz (ks.take n)).length=n ↔ (ks.take n).Nodup)
 | 0,_=>by simp [dz]
 | n+1,hn=>by
  have ih:=vP (ks:=ks) n (by omega);have hle:(dz (ks.take n)).length<=n:=by have:=BI (ks.take n);rw [List.length_take] at this;omega
  rw [List.take_succ_eq_append_getElem (by omega),oy,List.nodup_append];by_cases hk:ks[n]∈dz (ks.take n)
  ·rw [if_pos hk];have hk':=(yu _ _).mp hk;constructor
   ·intro e;omega
   ·rintro ⟨_,_,h3⟩;exact absurd rfl (h3 _ hk' _ List.mem_cons_self)
  ·rw [if_neg hk,List.length_append,List.length_singleton];have hk':ks[n]∉ks.take n:=fun z=>hk ((yu _ _).mpr z);constructor
   ·intro e;refine ⟨ih.mp (by omega),by simp,fun a ha b hb=>?_⟩;rw [List.mem_singleton.mp hb];exact fun z=>hk' (by rw [<- z];exact ha)
   ·rintro ⟨h1,_,_⟩;rw [ih.mpr h1]
def AL (ks:List Str):(dz ks).length=ks.length ↔ ks.Nodup:=by
 have:=vP (ks:=ks) ks.length (Nat.le_refl _)
 rwa [List.take_length] at this
def Hs (cs:List (Str×Str)) (hl:1<=cs.length/\cs.length<=8) (h:∀ c∈cs,Col c) (hn:(cs.map (·.1)).Nodup):cU [.tup (cs.map bJ)]=.ok (.bl true):=by
 rw [EI cs hl h]
 have:=(AL (cs.map (·.1))).mpr hn
 rw [List.length_map] at this;simp [this]
def FZ (a b:D) (oa:F4 a) (r:Bool) (hb:cU [b]=.ok (.bl r)):jJ [.tup [a,b]]=.ok (.bl (vU a&&r)):=by
 rw [zA,mm];walk_at "ev";rw [EE];walk_at "ev";rw [sN a oa];walk_at "ev";rw [hb];cases vU a <;> rfl
structure Cols (cs:List (Str×Str)):Prop where
 l0:1<=cs.length
 l1:cs.length<=8
 col:∀ c∈cs,Col c
 nd:(cs.map (·.1)).Nodup
def Cols.shape {cs:List (Str×Str)} (h:Cols cs) {z:Str} (hz:Nm z) (hr:tS z=false):jJ [.tup [.str z,.tup (cs.map bJ)]]=.ok (.bl true):=by
 rw [FZ (.str z) _ (show z.length<=1000 from Nat.le_trans hz.l1 (by decide)) true (Hs cs ⟨h.l0,h.l1⟩ h.col h.nd)];show R.ok (D.bl (pK z&&true))=_;rw [hz.name hr];rfl
def nW (a b:Str) (h:a.length+b.length<=1000000):aR (.str a) (.str b)=.ok (.str (a++b)):=by rw [IU,if_pos h]
def ic (c:Nat):(⟨#[c]⟩:Str).length=1:=rfl
def vX:∀ (n:Nat) (i:Int),(fL i n).length=n
 | 0,i=>rfl
 | n+1,i=>by simp [fL]
def vw (p:Int):∃ m,bO [.int p]=.ok (.int m)/\0<=m/\m < 2147483647:=by
 rw [B3,ou];walk_at "ew";exact ⟨_,rfl,Int.emod_nonneg _ (by decide),Int.emod_lt_of_pos _ (by decide)⟩
def t8 (x:Str):∀ ys:List Str,Da (.str x) (ys.map V.str)=decide (x∈ys)
 | []=>rfl
 | y::ys=>by
  have ih:=t8 x ys;unfold Da at ih ⊢;rw [List.map_cons,List.any_cons,ih]
  have:F5 (.str y) (.str x)=decide (y=x):=rfl
  rw [this];by_cases h:y=x
  ·subst h;simp
  ·have h':¬ x=y:=fun z=>h z.symm;simp [h,h']
abbrev ku:List Str:=["and","by","down","from","none","not","or","order","show","take","where"]
def zb (z:Str):tS z=decide (z∈ku):=t8 z ku
structure Gn (z:Str):Prop where
 nm:Nm z
 nr:tS z=false
def Lw (z:Str):Prop:=∀ c∈z.cps.toList,low c=true
def Lw.app {a b:Str} (ha:Lw a) (hb:Lw b):Lw (a++b):=fun c hc=>by
 rw [b6] at hc;exact (List.mem_append.mp hc).elim (ha c) (hb c)
def Lw.one {c:Nat} (h:low c=true):Lw ⟨#[c]⟩:=fun d hd=>by
 have:d=c:=by simpa using hd
 rw [this];exact h
def Nm.of {z:Str} (h0:1<=z.length) (h1:z.length<=8) (h:Lw z):Nm z:=⟨h0,h1,by rw [List.all_eq_true];exact h⟩
def Nm.lw' {z:Str} (h:Nm z):Lw z:=by have:=h.lw;rw [List.all_eq_true] at this;exact this
def lz:Lw (Str.ofString "z"):=by unfold Lw;decide +kernel
def z1:(Str.ofString "z").length=1:=by decide +kernel
def Ez:∀ z∈ku,z.length<=5:=by decide +kernel
def Kf:∀ z∈ku,tS (z++Str.ofString "z")=false:=by decide +kernel
abbrev E8:FE:=(ee (aa (vC (.str "and")) (aa (vC (.str "by")) (aa (vC (.str "down")) (aa (vC (.str "from")) (aa (vC (.str "none")) (aa (vC (.str "not")) (aa (vC (.str "or")) (aa (vC (.str "order")) (aa (vC (.str "show")) (aa (vC (.str "take")) (aa (vC (.str "where")) ak))))))))))))
def ED (δ:Sd):E8 δ=.ok (.lst (ku.map D.str)):=rfl
def in_words (z:Str):uO (.str z) (.lst (ku.map D.str))=.ok (.bl (tS z)):=rfl
def x5 (i:Nat) (δ:Sd) (z:Str) (hz:Nm z) (hi:δ[i]?=some (some (.str z))):∃ y,fin (aw (cN (b5 (ap uO (ae i) E8)) (a7 (ap aR (ae i) (vC (.str "z")))) aF) (a7 (ae i)) δ)=.ok (.str y)/\Gn y:=by
 have ev:ae i δ=.ok (.str z):=by unfold ae;rw [hi]
 have eb:b5 (ap uO (ae i) E8) δ=.ok (tS z):=by
  rw [zS,l6,ev,ah,kM,ED,ah,in_words];rfl
 rw [bi,sF,eb,ah,um];cases hr:tS z with
 | true =>
  rw [if_pos rfl,r6,l6,ev,ah,kM];have hm:z∈ku:=by rw [zb] at hr;exact of_decide_eq_true hr
  have hl:=Ez z hm;show ∃ y,fin ((((vC (.str "z") δ).bind fun y=>aR (.str z) y).bind _).bind _)=_/\_;rw [v_c,ah,nW _ _ (by rw [z1];omega)];refine ⟨z++Str.ofString "z",rfl,Nm.of (by rw [df];have:=hz.l0;omega) (by rw [df,z1];omega) (hz.lw'.app lz),Kf z hm⟩
 | false =>
  rw [if_neg Bool.false_ne_true,qN,ah,aS,r6,ev];exact ⟨z,rfl,hz,hr⟩
abbrev nB:FS:=(aw (aI 3 (aj bO (aa (ae 3) ak))) (aI 2 (ap aR (ae 2) (ap bj (ae 1) (ap bv (ae 3) (vC (.int 26)))))))
abbrev lx:Str:=Str.ofString "abcdefghijklmnopqrstuvwxyz"
def KU (C:D) (p:Int) (z:Str) (o:Option D) (h:z.length<=100) (hz:Lw z):∃ p' z',nB [some C,some (.str lx),some (.str z),some (.int p),o]=.ok (.nx [some C,some (.str lx),some (.str z'),some (.int p'),o])/\z'.length=z.length+1/\Lw z':=by
 obtain ⟨m,em,_⟩:=vw p;unfold nB;walk_at "ew";rw [em];walk_at "ew";rw [Fc];walk_at "ew";rw [nW _ _ (by rw [ic];omega)];exact ⟨m,_,rfl,by rw [df,ic],hz.app (.one (Aq _).2)⟩
def DY (C:D):∀ (xs:List D) (p:Int) (z:Str) (o:Option D),z.length+xs.length<=100->Lw z->∃ p' z' o',gJ (.one 4) nB xs [some C,some (.str lx),some (.str z),some (.int p),o]=.ok (.nx [some C,some (.str lx),some (.str z'),some (.int p'),o'])/\z'.length=z.length+xs.length/\Lw z'
 | [],p,z,o,h,hz=>⟨p,z,o,rfl,rfl,hz⟩
 | x::r,p,z,o,h,hz=>by
  simp only [List.length_cons] at h;obtain ⟨p1,z1,e1,h1,hz1⟩:=KU C p z (some x) (by omega) hz;obtain ⟨p2,z2,o2,e2,h2,hz2⟩:=DY C r p1 z1 (some x) (by omega) hz1;refine ⟨p2,z2,o2,?_,by simp;omega,hz2⟩;rw [jG];show (nB [some C,some (.str lx),some (.str z),some (.int p),some x]).bind _=_;rw [e1,ah,kw,e2]
def Br (c:Int):∃ z,eB [.int c]=.ok (.str z)/\Gn z:=by
 rw [yH,kr];have b0:0<=c % 8:=Int.emod_nonneg _ (by decide);have b1:c % 8 < 8:=Int.emod_lt_of_pos _ (by decide);have ei:iT (aa (ap aR (vC (.int 1)) (ap bv (ae 0) (vC (.int 8)))) ak) [some (.int c),some (.str lx),some (.str (Str.ofString "")),some (.int c),none]=.ok (fL 0 (1+c % 8).toNat):=by
  walk_at "ew";exact Bl (by omega)
 have e0:(Str.ofString "").length=0:=by decide +kernel
 have hr:=vX (1+c % 8).toNat 0;obtain ⟨p',z',o',e2,h2,hz'⟩:=DY (.int c) (fL 0 (1+c % 8).toNat) c (Str.ofString "") none (by rw [hr,e0];omega) (show Lw (Str.ofString "") by unfold Lw;decide +kernel);rw [hr,e0] at h2;have E1:aI 1 (vC (.str "abcdefghijklmnopqrstuvwxyz")) [some (.int c),none,none,none,none]=.ok (.nx [some (.int c),some (.str lx),none,none,none]):=rfl;have E2:aI 2 (vC (.str "")) [some (.int c),some (.str lx),none,none,none]=.ok (.nx [some (.int c),some (.str lx),some (.str (Str.ofString "")),none,none]):=rfl;have E3:aI 3 (ae 0) [some (.int c),some (.str lx),some (.str (Str.ofString "")),none,none]=.ok (.nx [some (.int c),some (.str lx),some (.str (Str.ofString "")),some (.int c),none]):=rfl;rw [bi,E1,ah,aS,bi,E2,ah,aS,bi,E3,ah,aS,bi,ui,ei,ah,uB,e2,ah,aS];exact x5 2 _ z' (Nm.of (by omega) (by omega) hz') rfl
def Rn (z:Str) (c:Int) (hz:Gn z):∃ y,pS [.str z,.int c]=.ok (.str y)/\Gn y:=by
 rw [FK,qx];have l0:=hz.nm.l0;have l1:=hz.nm.l1;have b0:0<=c % (z.length:Int):=Int.emod_nonneg _ (by omega);have b1:c % (z.length:Int) < (z.length:Int):=Int.emod_lt_of_pos _ (by omega);obtain ⟨p,hp⟩:∃ p:Nat,c % (z.length:Int)=(p:Int):=⟨(c % (z.length:Int)).toNat,by omega⟩;have hpl:p < z.length:=by omega
 have ezl:=x4 z;have E1:aI 2 (vC (.str "abcdefghijklmnopqrstuvwxyz")) [some (.str z),some (.int c),none,none,none,none]=.ok (.nx [some (.str z),some (.int c),some (.str lx),none,none,none]):=rfl;have E2:aI 3 (ap bv (ae 1) (aj bt (aa (ae 0) ak))) [some (.str z),some (.int c),some (.str lx),none,none,none]=.ok (.nx [some (.str z),some (.int c),some (.str lx),some (.int (p:Int)),none,none]):=by
  walk_at "ew";rw [sk,if_pos (by omega)];walk_at "ew";rw [Jh,if_pos (by omega)];walk_at "ew";rw [hp]
 have hg:∃ ch,atI z.cps.toList (p:Int)=some ch:=⟨_,bX (List.getElem?_eq_getElem (by omega))⟩;obtain ⟨ch,hg⟩:=hg;have E3:∃ st:Int,aI 4 (ap aR (ap aR (oH (sv fun x y=>.int (Az x y)) (ae 2) (aa (ap bj (ae 0) (ae 3)) ak)) (vC (.int 1))) (ap bv (ap cA (ae 1) (vC (.int 8))) (vC (.int 25)))) [some (.str z),some (.int c),some (.str lx),some (.int (p:Int)),none,none]=.ok (.nx [some (.str z),some (.int c),some (.str lx),some (.int (p:Int)),some (.int st),none]):=by
  walk_at "ew";rw [KS (by omega) hg];walk_at "ew";rw [show sv (fun x y=>D.int (Az x y)) lx [.str ⟨#[ch]⟩]=.ok (.int (Az lx ⟨#[ch]⟩)) from rfl];walk_at "ew";exact ⟨_,rfl⟩
 obtain ⟨st,E3⟩:=E3;have k1:=t6 z p (by omega);have hp1:(p:Int)+1=((p+1:Nat):Int):=by omega
 have k2:=wI z (p+1) (by omega);have k3:(du z none (some (p:Int))++(⟨#[ss st]⟩:Str)).length=p+1:=by rw [df,k1];rfl
 have k4:(du z none (some (p:Int))++(⟨#[ss st]⟩:Str)++du z (some ((p+1:Nat):Int)) none).length=z.length:=by rw [df,k3,k2];omega
 have E4:aI 5 (ap aR (ap aR (mN fJ (ae 0) c6 (bx (ae 3))) (ap bj (ae 2) (ap bv (ae 4) (vC (.int 26))))) (mN fJ (ae 0) (bx (ap aR (ae 3) (vC (.int 1)))) c6)) [some (.str z),some (.int c),some (.str lx),some (.int (p:Int)),some (.int st),none]=.ok (.nx [some (.str z),some (.int c),some (.str lx),some (.int (p:Int)),some (.int st),some (.str (du z none (some (p:Int))++(⟨#[ss st]⟩:Str)++du z (some ((p+1:Nat):Int)) none))]):=by
  walk_at "ew";rw [Fq,if_pos (by omega)];walk_at "ew";rw [Fc];walk_at "ew";rw [nW _ _ (by rw [k1,ic];omega)];walk_at "ew";rw [Fq,if_pos (by omega)];walk_at "ew";rw [hp1,nW _ _ (by rw [k3,k2];omega)];walk_at "ew"
 have hlw:Lw (du z none (some (p:Int))++(⟨#[ss st]⟩:Str)++du z (some ((p+1:Nat):Int)) none) :=
  Lw.app (Lw.app (fun x hx=>hz.nm.lw' x (wU hx)) (.one (Aq _).2)) (fun x hx=>hz.nm.lw' x (wU hx))
 rw [bi,E1,ah,aS,bi,E2,ah,aS,bi,E3,ah,aS,bi,E4,ah,aS];exact x5 5 _ _ (Nm.of (by omega) (by omega) hlw) rfl
def cn (b:Str) (f:Bool) (j:Nat):Str:=if f=true then (⟨#[97+j]⟩:Str)++Str.ofString "z"++b else b++Str.ofString "z"++(⟨#[97+j]⟩:Str)
def Ja (j:Nat) (h:j < 8):bj (.str "abcdefgh") (.int (j:Int))=.ok (.str ⟨#[97+j]⟩):=by
 have:j=0\/j=1\/j=2\/j=3\/j=4\/j=5\/j=6\/j=7:=by omega
 rcases this with rfl|rfl|rfl|rfl|rfl|rfl|rfl|rfl <;> with_unfolding_all rfl
def oW:(Str.ofString "z").cps.toList=[122]:=by decide +kernel
def Ew:∀ z∈ku,122∉z.cps.toList:=by decide +kernel
def Kx (b:Str) (f:Bool) (j:Nat):(cn b f j).length=b.length+2:=by
 unfold cn;split
 ·rw [df,df,ic,z1];omega
 ·rw [df,df,ic,z1]
def O8 {b:Str} (hb:Lw b) (hl:b.length<=5) (f:Bool) {j:Nat} (hj:j < 8):Gn (cn b f j):=by
 have hlow:low (97+j)=true:=by unfold low;simp;omega
 have h1:Lw (cn b f j):=by
  unfold cn;split
  ·exact ((Lw.one hlow).app lz).app hb
  ·exact (hb.app lz).app (Lw.one hlow)
 have h2:=Kx b f j;refine ⟨Nm.of (by omega) (by omega) h1,?_⟩;rw [zb,decide_eq_false_iff_not];intro hm;refine Ew _ hm ?_;unfold cn;split
 ·rw [b6,b6,oW];simp
 ·rw [b6,b6,oW];simp
def Lg (b:Str) (f:Bool) {i j:Nat} (h:cn b f i=cn b f j):i=j:=by
 have h:=congrArg (fun z:Str=>z.cps.toList) h;unfold cn at h;cases f with
 | true =>
  simp only [if_true,b6] at h;simp at h;omega
 | false =>
  simp only [Bool.false_eq_true,if_false,b6] at h;simp at h;omega
def kk (i:Int):∃ k:Str,bj (.lst [.str "number",.str "text"]) (.int (i % 2))=.ok (.str k)/\(k="number"\/k="text"):=by
 have h0:0<=i % 2:=Int.emod_nonneg _ (by decide);have h1:i % 2 < 2:=Int.emod_lt_of_pos _ (by decide);generalize i % 2=i at h0 h1;have hi:i=0\/i=1:=by omega
 rcases hi with rfl|rfl
 ·exact ⟨_,su,.inl rfl⟩
 ·exact ⟨_,vE,.inr rfl⟩
abbrev cB:FS:=(aw (aI 5 (aj bO (aa (ae 5) ak))) (aw (aI 7 (ap aR (ap aR (ae 2) (vC (.str "z"))) (ap bj (vC (.str "abcdefgh")) (ae 6)))) (aw (cN (b5 (ap eU (ap bv (ap cA (ae 1) (vC (.int 8))) (vC (.int 2))) (vC (.int 1)))) (aI 7 (ap aR (ap aR (ap bj (vC (.str "abcdefgh")) (ae 6)) (vC (.str "z"))) (ae 2))) aF) (bG 4 (gI (aa (ae 7) (aa (ap bj (ee (aa (vC (.str "number")) (aa (vC (.str "text")) ak))) (ap bv (ap cA (ae 5) (vC (.int 7))) (vC (.int 2)))) ak)))))))
abbrev Jx (N:D) (c:Int) (b:Str) (M:D) (cs:List (Str×Str)) (m:Int) (o6 o7:Option D):Sd:=[some N,some (.int c),some (.str b),some M,some (.lst (cs.map bJ)),some (.int m),o6,o7]
def Kv (N:D) (c:Int) (b:Str) (M:D) (cs:List (Str×Str)) (m:Int) (j:Nat) (o7:Option D) (hb:b.length<=5) (hj:j < 8) (hl:cs.length<=8) :
  ∃ (k:Str) (m':Int) (q7:Option D),cB (Jx N c b M cs m (some (.int (j:Int))) o7)=.ok (.nx (Jx N c b M (cs++[(cn b (decide (c/8 % 2=1)) j,k)]) m' (some (.int (j:Int))) q7))/\(k="number"\/k="text"):=by
 obtain ⟨m',em,_⟩:=vw m;obtain ⟨k,ek,hk⟩:=kk (m'/7);refine ⟨k,m',some (.str (cn b (decide (c/8 % 2=1)) j)),?_,hk⟩;unfold cB;walk_at "ew";rw [em];walk_at "ew";rw [nW _ _ (by rw [z1];omega)];walk_at "ew";rw [Ja j hj];walk_at "ew";rw [nW _ _ (by rw [df,z1,ic];omega)];walk_at "ew";by_cases hq:c/8 % 2=1
 ·rw [if_pos hq];walk_at "ew";rw [Ja j hj];walk_at "ew";rw [nW _ _ (by rw [z1,ic];omega)];walk_at "ew";rw [nW _ _ (by rw [df,z1,ic];omega)];walk_at "ew";rw [ek];walk_at "ew";rw [if_pos (by rw [List.length_map];omega)];unfold cn;rw [if_pos (decide_eq_true hq)];simp [bJ]
 ·rw [if_neg hq];walk_at "ew";rw [ek];walk_at "ew";rw [if_pos (by rw [List.length_map];omega)];unfold cn;rw [if_neg (by simpa using hq)];simp [bJ]
def Dr (N:D) (c:Int) (b:Str) (M:D) (hb:b.length<=5):∀ (n i:Nat) (cs:List (Str×Str)) (m:Int) (o6 o7:Option D),i+n<=8->cs.length=i->(∀ x∈cs,x.2="number"\/x.2="text")->cs.map (·.1)=(List.range i).map (cn b (decide (c/8 % 2=1))) ->
  ∃ cs' m' q6 q7,gJ (.one 6) cB ((List.range' i n).map fun (k:Nat)=>D.int (k:Int)) (Jx N c b M cs m o6 o7)=.ok (.nx (Jx N c b M cs' m' q6 q7))/\cs'.length=i+n/\(∀ x∈cs',x.2="number"\/x.2="text")/\cs'.map (·.1)=(List.range (i+n)).map (cn b (decide (c/8 % 2=1)))
 | 0,i,cs,m,o6,o7,_,hl,hk,hn=>⟨cs,m,o6,o7,rfl,hl,hk,hn⟩
 | n+1,i,cs,m,o6,o7,hi,hl,hk,hn=>by
  obtain ⟨k,m1,q7,e1,hk1⟩:=Kv N c b M cs m i o7 hb (by omega) (by omega);obtain ⟨cs',m',p6,p7,e2,h2,h3,h4⟩:=Dr N c b M hb n (i+1) (cs++[(cn b (decide (c/8 % 2=1)) i,k)]) m1 (some (.int (i:Int))) q7 (by omega) (by simp [hl]) (fun x hx=>by
   rcases List.mem_append.mp hx with z|z
   ·exact hk x z
   ·rw [List.mem_singleton.mp z];exact hk1) (by rw [List.map_append,hn,List.range_succ,List.map_append];rfl)
  refine ⟨cs',m',p6,p7,?_,by omega,h3,by rw [h4];congr 2;omega⟩;rw [List.range'_succ,List.map_cons,jG];show (cB (Jx N c b M cs m (some (.int (i:Int))) o7)).bind _=_;rw [e1,ah,kw,e2]
def FY (n:Nat):fL 0 n=(List.range' 0 n).map fun (k:Nat)=>D.int (k:Int):=by
 unfold fL;rw [List.range_eq_range'];exact List.map_congr_left fun k _=>by simp
def ix8 (i:Int):∃ n:Int,bj (.lst [.int 1,.int 2,.int 3,.int 4,.int 2,.int 3,.int 1,.int 8]) (.int (i % 8))=.ok (.int n)/\1<=n/\n<=8:=by
 have h0:0<=i % 8:=Int.emod_nonneg _ (by decide);have h1:i % 8 < 8:=Int.emod_lt_of_pos _ (by decide)
 have:i % 8=0\/i % 8=1\/i % 8=2\/i % 8=3\/i % 8=4\/i % 8=5\/i % 8=6\/i % 8=7:=by omega
 rcases this with e|e|e|e|e|e|e|e <;> rw [e]
 ·exact ⟨1,su,by decide,by decide⟩
 ·exact ⟨2,vE,by decide,by decide⟩
 ·exact ⟨3,IA,by decide,by decide⟩
 ·exact ⟨4,Ix,by decide,by decide⟩
 ·exact ⟨2,Od,by decide,by decide⟩
 ·exact ⟨3,Na,by decide,by decide⟩
 ·exact ⟨1,Qo,by decide,by decide⟩
 ·exact ⟨8,Oq,by decide,by decide⟩
def DZ (b:Str) (f:Bool) (n:Nat):((List.range n).map (cn b f)).Nodup:=by
 unfold List.Nodup;rw [List.pairwise_map];exact (List.nodup_range (n:=n)).imp fun h e=>h (Lg b f e)
def RD (z:Str) (h:z.length<=8):(du z none (some 5)).length<=5:=by
 by_cases h:5<=z.length
 ·have:=t6 z 5 h
  have e5:((5:Nat):Int)=5:=rfl;rw [e5] at this;omega
 ·have h2:(du z none (some 5)).length<=z.length:=by
   rw [<- fk,<- fk];unfold du;simp;omega
  omega
def sh1 (N:D) (c:Int) (z b:Str) (ez:eB [.int (c/7)]=.ok (.str z)) (hl:z.length<=8) (hbb:du z none (some 5)=b):aI 2 (mN fJ (aj eB (aa (ap cA (ae 1) (vC (.int 7))) ak)) c6 (bx (vC (.int 5)))) [some N,some (.int c),none,none,none,none,none,none]=.ok (.nx [some N,some (.int c),some (.str b),none,none,none,none,none]):=by
 walk_at "ew";rw [ez];walk_at "ew";rw [Fq,if_pos (by omega),hbb];walk_at "ew"
def sh2 (N:D) (c:Int) (b:Str) (n:Int) (en:bj (.lst [.int 1,.int 2,.int 3,.int 4,.int 2,.int 3,.int 1,.int 8]) (.int (c % 8))=.ok (.int n)):aI 3 (ap bj (ee (aa (vC (.int 1)) (aa (vC (.int 2)) (aa (vC (.int 3)) (aa (vC (.int 4)) (aa (vC (.int 2)) (aa (vC (.int 3)) (aa (vC (.int 1)) (aa (vC (.int 8)) ak))))))))) (ap bv (ae 1) (vC (.int 8)))) [some N,some (.int c),some (.str b),none,none,none,none,none]=.ok (.nx [some N,some (.int c),some (.str b),some (.int n),none,none,none,none]):=by
 walk_at "ew";rw [en];walk_at "ew"
def sh5 (N:D) (c:Int) (b:Str) (n:Int) (hn:1<=n/\n<=8):iT (aa (ae 3) ak) (Jx N c b (.int n) [] c none none)=.ok ((List.range' 0 n.toNat).map fun (k:Nat)=>D.int (k:Int)):=by
 walk_at "ew";rw [Bl (by omega),FY]
def Eu (N:D) (c:Int):∃ cs,gq [N,.int c]=.ok (.tup [N,.tup (cs.map bJ)])/\Cols cs:=by
 rw [xy,ja];obtain ⟨z,ez,hz⟩:=Br (c/7);obtain ⟨n,en,n1,n8⟩:=ix8 c;have hlz:=hz.nm.l1;have hb:=RD z hlz;have hbl:Lw (du z none (some 5)):=fun x hx=>hz.nm.lw' x (wU hx);generalize hbb:du z none (some 5)=b at hb hbl;have E1:=sh1 N c z b ez hlz hbb;have E2:=sh2 N c b n en;have E3:m3 4 (ee ak) [some N,some (.int c),some (.str b),some (.int n),none,none,none,none]=.ok (.nx [some N,some (.int c),some (.str b),some (.int n),some (.lst []),none,none,none]):=by walk_at "ew"
 have E4:aI 5 (ae 1) [some N,some (.int c),some (.str b),some (.int n),some (.lst []),none,none,none]=.ok (.nx (Jx N c b (.int n) [] c none none)):=rfl;have ei:=sh5 N c b n ⟨n1,n8⟩;obtain ⟨cs,m',q6,q7,e5,h1,h2,h3⟩:=Dr N c b (.int n) hb n.toNat 0 [] c none none (by omega) rfl (fun x hx=>by simp at hx) rfl;rw [Nat.zero_add] at h1 h3;refine ⟨cs,?_,by omega,by omega,fun x hx=>?_,by rw [h3];exact DZ _ _ _⟩
 ·rw [bi,E1,ah,aS,bi,E2,ah,aS,bi,E3,ah,aS,bi,E4,ah,aS,bi,ui,ei,ah,uB,e5,ah,aS];walk_at "ew"
 ·have hm:x.1∈cs.map (·.1):=List.mem_map.mpr ⟨x,hx,rfl⟩;rw [h3] at hm;obtain ⟨j,hj,e⟩:=List.mem_map.mp hm;have hj:=List.mem_range.mp hj
  have:=O8 hbl hb (decide (c/8 % 2=1)) (j:=j) (by omega)
  rw [e] at this;exact ⟨this.nm,this.nr,h2 x hx⟩
abbrev tB:FS:=(aw (aI 4 (aj bO (aa (ae 4) ak))) (aI 3 (ap aR (ae 3) (ap bj (ae 1) (ap bv (ae 4) (vC (.int 94)))))))
def Lp (i:Int):bj (.str ml) (.int (i % 94))=.ok (.str ⟨#[sX i]⟩):=KS (by decide +kernel) (KZ i)
def Tb (z:Str):Prop:=∀ c∈z.cps.toList,c∈F3
def Tb.app {a b:Str} (ha:Tb a) (hb:Tb b):Tb (a++b):=fun c hc=>by
 rw [b6] at hc;exact (List.mem_append.mp hc).elim (ha c) (hb c)
def Tb.one {c:Nat} (h:c∈F3):Tb ⟨#[c]⟩:=fun d hd=>by
 have:d=c:=by simpa using hd
 rw [this];exact h
def Kc (C M:D) (p:Int) (z:Str) (o:Option D) (h:z.length<=100) (hz:Tb z):∃ p' z',tB [some C,some (.str ml),some M,some (.str z),some (.int p),o]=.ok (.nx [some C,some (.str ml),some M,some (.str z'),some (.int p'),o])/\z'.length=z.length+1/\Tb z':=by
 obtain ⟨m,em,_⟩:=vw p;unfold tB;walk_at "ew";rw [em];walk_at "ew";rw [Lp];walk_at "ew";rw [nW _ _ (by rw [ic];omega)];exact ⟨m,_,rfl,by rw [df,ic],hz.app (.one (Gh _))⟩
def Ek (C M:D):∀ (xs:List D) (p:Int) (z:Str) (o:Option D),z.length+xs.length<=100->Tb z->∃ p' z' o',gJ (.one 5) tB xs [some C,some (.str ml),some M,some (.str z),some (.int p),o]=.ok (.nx [some C,some (.str ml),some M,some (.str z'),some (.int p'),o'])/\z'.length=z.length+xs.length/\Tb z'
 | [],p,z,o,h,hz=>⟨p,z,o,rfl,rfl,hz⟩
 | x::r,p,z,o,h,hz=>by
  simp only [List.length_cons] at h;obtain ⟨p1,z1,e1,h1,hz1⟩:=Kc C M p z (some x) (by omega) hz;obtain ⟨p2,z2,o2,e2,h2,hz2⟩:=Ek C M r p1 z1 (some x) (by omega) hz1;refine ⟨p2,z2,o2,?_,by simp;omega,hz2⟩;rw [jG];show (tB [some C,some (.str ml),some M,some (.str z),some (.int p),some x]).bind _=_;rw [e1,ah,kw,e2]
def GX (c:Int):∃ z:Str,fO [.int c]=.ok (.str z)/\z.length<=40/\Tb z:=by
 rw [xU,kl];have E1:aI 1 (vC (.str ml)) [some (.int c),none,none,none,none,none]=.ok (.nx [some (.int c),some (.str ml),none,none,none,none]):=rfl;have E2:aI 2 (ap bv (ae 0) (vC (.int 6))) [some (.int c),some (.str ml),none,none,none,none]=.ok (.nx [some (.int c),some (.str ml),some (.int (c % 6)),none,none,none]):=by walk_at "ew"
 have b0:0<=c % 6:=Int.emod_nonneg _ (by decide);have b1:c % 6 < 6:=Int.emod_lt_of_pos _ (by decide);generalize c % 6=m at E2 b0 b1;have E3:∃ s:Int,cN (b5 (ap eU (ap bv (ap cA (ae 0) (vC (.int 6))) (vC (.int 8))) (vC (.int 1)))) (aI 2 (ap bv (ap cA (ae 0) (vC (.int 48))) (vC (.int 41)))) aF [some (.int c),some (.str ml),some (.int m),none,none,none]=.ok (.nx [some (.int c),some (.str ml),some (.int s),none,none,none])/\0<=s/\s<=40:=by
  walk_at "ew";by_cases h:c/6 % 8=1
  ·rw [if_pos h];exact ⟨_,rfl,Int.emod_nonneg _ (by decide),by have:=Int.emod_lt_of_pos (c/48) (show (0:Int) < 41 by decide);omega⟩
  ·rw [if_neg h];exact ⟨m,rfl,by omega,by omega⟩
 obtain ⟨s,E3,s0,s1⟩:=E3;have E4:aI 3 (vC (.str "")) [some (.int c),some (.str ml),some (.int s),none,none,none]=.ok (.nx [some (.int c),some (.str ml),some (.int s),some (.str (Str.ofString "")),none,none]):=rfl;have E5:aI 4 (ae 0) [some (.int c),some (.str ml),some (.int s),some (.str (Str.ofString "")),none,none]=.ok (.nx [some (.int c),some (.str ml),some (.int s),some (.str (Str.ofString "")),some (.int c),none]):=rfl;have ei:iT (aa (ae 2) ak) [some (.int c),some (.str ml),some (.int s),some (.str (Str.ofString "")),some (.int c),none]=.ok (fL 0 s.toNat):=by
  walk_at "ew";exact Bl (by omega)
 have e0:(Str.ofString "").length=0:=by decide +kernel
 have hr:=vX s.toNat 0;obtain ⟨p',z',o',e2,h2,hz'⟩:=Ek (.int c) (.int s) (fL 0 s.toNat) c (Str.ofString "") none (by rw [hr,e0];omega) (show Tb (Str.ofString "") by unfold Tb;decide +kernel);rw [hr,e0] at h2;refine ⟨z',?_,by omega,hz'⟩;rw [bi,E1,ah,aS,bi,E2,ah,aS,bi,E3,ah,aS,bi,E4,ah,aS,bi,E5,ah,aS,bi,ui,ei,ah,uB,e2,ah,aS];walk_at "ew"
def LJ (c:Int) (k:D) (h0:0<=c) (h1:c < 2147483647):∃ i:Int,ap jN (ap bv (ap fH (ap fH (ae 1) (ae 1)) (vC (.int 48271))) (ap jN (ap fH (vC (.int 2)) (ap oF (vC (.int 10)) (vC (.int 18)))) (vC (.int 1)))) (ap jN (ap oF (vC (.int 10)) (vC (.int 18))) (vC (.int 1))) [some k,some (.int c)]=.ok (.int i)/\i.natAbs < 10 ^ 18:=by
 have e1:ap fH (ae 1) (ae 1) [some k,some (.int c)]=.ok (.int (c*c)):=by
  simp only [l6,v_var,pP,kM,ah,List.getElem?_cons_zero,List.getElem?_cons_succ];exact Ej (by omega)
 have e2:ap fH (ap fH (ae 1) (ae 1)) (vC (.int 48271)) [some k,some (.int c)]=.ok (.int (c*c*48271)):=by
  rw [l6,e1,ah,kM,v_c,ah];exact mul_r (by decide)
 have e3:ap jN (ap fH (vC (.int 2)) (ap oF (vC (.int 10)) (vC (.int 18)))) (vC (.int 1)) [some k,some (.int c)]=.ok (.int 1999999999999999999):=by
  have:ap oF (vC (.int 10)) (vC (.int 18)) [some k,some (.int c)]=.ok (.int 1000000000000000000):=by
   rw [l6,v_c,ah,kM,v_c,ah,Fu (by decide)];rfl
  rw [l6,l6,v_c,ah,kM,this,ah,Ej (by decide),ah,kM,v_c,ah,xX];rfl
 have e4:ap jN (ap oF (vC (.int 10)) (vC (.int 18))) (vC (.int 1)) [some k,some (.int c)]=.ok (.int 999999999999999999):=by
  rw [l6,l6,v_c,ah,kM,v_c,ah,Fu (by decide),ah,kM,v_c,ah,xX];rfl
 generalize c*c*48271=x at e2;have e5:ap bv (ap fH (ap fH (ae 1) (ae 1)) (vC (.int 48271))) (ap jN (ap fH (vC (.int 2)) (ap oF (vC (.int 10)) (vC (.int 18)))) (vC (.int 1))) [some k,some (.int c)]=.ok (.int (x % 1999999999999999999)):=by
  rw [l6,e2,ah,kM,e3,ah];exact Ea (by decide)
 refine ⟨x % 1999999999999999999 - 999999999999999999,?_,?_⟩
 ·rw [l6,e5,ah,kM,e4,ah,xX]
 ·have b0:0<=x % 1999999999999999999:=Int.emod_nonneg _ (by decide);have b1:x % 1999999999999999999 < 1999999999999999999:=Int.emod_lt_of_pos _ (by decide);omega
def Fy (k:Str) (c:Int) (h0:0<=c) (h1:c < 2147483647):∃ d,gk [.str k,.int c]=.ok d/\Vw d:=by
 rw [xw,jh];have E1:∀ T:FS,aw (cN (b5 (ap eU (ap bv (ae 1) (vC (.int 5))) (vC (.int 0)))) (a7 (vC .non)) aF) T [some (.str k),some (.int c)]=if c % 5=0 then .ok (.rt .non) else T [some (.str k),some (.int c)]:=fun T=>by
  rw [bi];by_cases h:c % 5=0
  ·rw [if_pos h]
   have:cN (b5 (ap eU (ap bv (ae 1) (vC (.int 5))) (vC (.int 0)))) (a7 (vC .non)) aF [some (.str k),some (.int c)]=.ok (.rt .non):=by
    walk_at "ew";rw [if_pos h];walk_at "ew"
   rw [this];rfl
  ·rw [if_neg h]
   have:cN (b5 (ap eU (ap bv (ae 1) (vC (.int 5))) (vC (.int 0)))) (a7 (vC .non)) aF [some (.str k),some (.int c)]=.ok (.nx [some (.str k),some (.int c)]):=by
    walk_at "ew";rw [if_neg h]
   rw [this];rfl
 rw [E1];by_cases h:c % 5=0
 ·rw [if_pos h];exact ⟨.non,rfl,trivial⟩
 ·rw [if_neg h];obtain ⟨z,ez,hz,ht⟩:=GX (c/5);by_cases hk:k=Str.ofString "text"
  ·have:cN (b5 (ap eU (ae 0) (vC (.str "text")))) (a7 (aj fO (aa (ap cA (ae 1) (vC (.int 5))) ak))) aF [some (.str k),some (.int c)]=.ok (.rt (.str z)):=by
    walk_at "ew";rw [if_pos hk];walk_at "ew";rw [ez];walk_at "ew"
   rw [bi,this];exact ⟨.str z,rfl,hz,ht⟩
  ·have:cN (b5 (ap eU (ae 0) (vC (.str "text")))) (a7 (aj fO (aa (ap cA (ae 1) (vC (.int 5))) ak))) aF [some (.str k),some (.int c)]=.ok (.nx [some (.str k),some (.int c)]):=by
    walk_at "ew";rw [if_neg hk]
   rw [bi,this,ah,aS,bi];obtain ⟨i,ei,hi⟩:=LJ c (.str k) h0 h1;by_cases h1':c % 5=1
   ·have eb:b5 (ap eU (ap bv (ae 1) (vC (.int 5))) (vC (.int 1))) [some (.str k),some (.int c)]=.ok true:=by
     walk_at "ew";rw [decide_eq_true h1']
    rw [sF,eb,ah,um,if_pos rfl,r6,ei];exact ⟨.int i,rfl,hi⟩
   ·have eb:b5 (ap eU (ap bv (ae 1) (vC (.int 5))) (vC (.int 1))) [some (.str k),some (.int c)]=.ok false:=by
     walk_at "ew";rw [decide_eq_false h1']
    rw [sF,eb,ah,um,if_neg Bool.false_ne_true,qN,ah,aS];walk_at "ew";refine ⟨_,rfl,?_⟩;show (c/5 % 9 - 3).natAbs < 10 ^ 18;have b0:0<=c/5 % 9:=Int.emod_nonneg _ (by decide);have b1:c/5 % 9 < 9:=Int.emod_lt_of_pos _ (by decide);omega
abbrev rB:FS:=(aw (aI 1 (aj bO (aa (ae 1) ak))) (bG 2 (aj gk (aa (ap bj (ae 3) (vC (.int 1))) (aa (ap cA (ae 1) (vC (.int 3))) ak)))))
def K2 (S:D) (c:Int) (ds:List D) (hl:ds.length<=100) (x:Str×Str):∃ d c',rB [some S,some (.int c),some (.lst ds),some (bJ x)]=.ok (.nx [some S,some (.int c'),some (.lst (ds++[d])),some (bJ x)])/\Vw d:=by
 obtain ⟨m,em,m0,m1⟩:=vw c;obtain ⟨d,ed,hd⟩:=Fy x.2 (m/3) (by omega) (by omega);refine ⟨d,m,?_,hd⟩;unfold rB bJ;walk_at "ew";rw [em];walk_at "ew";rw [ed];walk_at "ew";rw [if_pos (by omega)]
def EA (S:D):∀ (cs:List (Str×Str)) (c:Int) (ds:List D) (o3:Option D),ds.length+cs.length<=100->(∀ d∈ds,Vw d) ->
  ∃ ds' c' q3,gJ (.one 3) rB (cs.map bJ) [some S,some (.int c),some (.lst ds),o3]=.ok (.nx [some S,some (.int c'),some (.lst ds'),q3])/\(∀ d∈ds',Vw d)/\ds'.length=ds.length+cs.length
 | [],c,ds,o3,_,hd=>⟨ds,c,o3,rfl,hd,rfl⟩
 | x::r,c,ds,o3,hl,hd=>by
  simp only [List.length_cons] at hl;obtain ⟨d,c1,e1,h1⟩:=K2 S c ds (by omega) x;obtain ⟨ds',c',q3,e2,h2,h3⟩:=EA S r c1 (ds++[d]) (some (bJ x)) (by simp;omega) (fun y hy=>by
   rcases List.mem_append.mp hy with z|z
   ·exact hd y z
   ·rw [List.mem_singleton.mp z];exact h1)
  refine ⟨ds',c',q3,?_,h2,by rw [h3];simp;omega⟩;rw [List.map_cons,jG];show (rB [some S,some (.int c),some (.lst ds),some (bJ x)]).bind _=_;rw [e1,ah,kw,e2]
def LS (N:D) (cs:List (Str×Str)) (c:Int) (hl:cs.length<=8):∃ ds,lZ [.tup [N,.tup (cs.map bJ)],.int c]=.ok (.tup ds)/\(∀ d∈ds,Vw d)/\ds.length=cs.length:=by
 rw [Aa,lQ];obtain ⟨ds,c',q3,e,h1,h2⟩:=EA (.tup [N,.tup (cs.map bJ)]) cs c [] none (by simp;omega) (fun d hd=>by simp at hd);refine ⟨ds,?_,h1,by simpa using h2⟩;have E1:m3 2 (ee ak) [some (.tup [N,.tup (cs.map bJ)]),some (.int c),none,none]=.ok (.nx [some (.tup [N,.tup (cs.map bJ)]),some (.int c),some (.lst []),none]):=by walk_at "ew"
 have ei:b8 (ap bj (ae 0) (vC (.int 1))) [some (.tup [N,.tup (cs.map bJ)]),some (.int c),some (.lst []),none]=.ok (cs.map bJ):=by walk_at "ew"
 rw [bi,E1,ah,aS,bi,ui,ei,ah,uB,e,ah,aS];walk_at "ew"
inductive Chg:D->Prop
 | table {nm:Str} {cs:List (Str×Str)} (hn:Gn nm) (hc:Cols cs):Chg (.tup [.str "table",.tup [.str nm,.tup (cs.map bJ)]])
 | index {nm cl:Str} (hn:Gn nm) (hc:Gn cl):Chg (.tup [.str "index",.str nm,.str cl])
 | drop {nm:Str} {n:Int} (hn:Gn nm) (h1:1<=n) (h2:n<=1000000000):Chg (.tup [.str "drop",.str nm,.int n])
 | put {nm:Str} {n:Int} {ds:List D} (hn:Gn nm) (h1:1<=n) (h2:n<=1000000000) (hd:∀ d∈ds,Vw d) (l1:1<=ds.length) (l8:ds.length<=8):Chg (.tup [.str "put",.str nm,.int n,.tup ds])
def CN (x y:Str) (c:Int) (hx:Gn x) (hy:Gn y):∃ d,fe [.lst [.str x,.str y],.int c]=.ok d/\Chg d:=by
 rw [ve,gZ];have hnm:∃ nm:Str,bj (.lst [.str x,.str y]) (.int (c/5 % 2))=.ok (.str nm)/\Gn nm:=by
  have i0:0<=c/5 % 2:=Int.emod_nonneg _ (by decide);have i1:c/5 % 2 < 2:=Int.emod_lt_of_pos _ (by decide)
  have:c/5 % 2=0\/c/5 % 2=1:=by omega
  rcases this with e|e <;> rw [e]
  ·exact ⟨_,su,hx⟩
  ·exact ⟨_,vE,hy⟩
 obtain ⟨nm,en,hn⟩:=hnm;obtain ⟨cs,es,hc⟩:=Eu (.str nm) (c/10);have c0:=hc.l0;have c8:=hc.l1;generalize hB:D.lst [.str x,.str y]=B at en;have E1:aI 2 (ap bj (ae 0) (ap bv (ap cA (ae 1) (vC (.int 5))) (vC (.int 2)))) [some B,some (.int c),none,none,none]=.ok (.nx [some B,some (.int c),some (.str nm),none,none]):=by
  walk_at "ew";rw [en];walk_at "ew"
 have E2:aI 3 (aj gq (aa (ae 2) (aa (ap cA (ae 1) (vC (.int 10))) ak))) [some B,some (.int c),some (.str nm),none,none]=.ok (.nx [some B,some (.int c),some (.str nm),some (.tup [.str nm,.tup (cs.map bJ)]),none]):=by
  walk_at "ew";rw [es];walk_at "ew"
 generalize hS:D.tup [.str nm,.tup (cs.map bJ)]=S at E2;have E3:aI 4 (ap aR (vC (.int 1)) (ap bv (ap cA (ae 1) (vC (.int 10))) (vC (.int 9)))) [some B,some (.int c),some (.str nm),some S,none]=.ok (.nx [some B,some (.int c),some (.str nm),some S,some (.int (1+c/10 % 9))]):=by walk_at "ew"
 have a0:0<=c/10 % 9:=Int.emod_nonneg _ (by decide);have a1:c/10 % 9 < 9:=Int.emod_lt_of_pos _ (by decide);have E4:∃ n:Int,cN (b5 (ap eU (ap bv (ap cA (ae 1) (vC (.int 90))) (vC (.int 4))) (vC (.int 1)))) (aI 4 (ap aR (vC (.int 1)) (ap bv (ap cA (ae 1) (vC (.int 360))) (ap oF (vC (.int 10)) (vC (.int 9)))))) aF [some B,some (.int c),some (.str nm),some S,some (.int (1+c/10 % 9))]=.ok (.nx [some B,some (.int c),some (.str nm),some S,some (.int n)])/\1<=n/\n<=1000000000:=by
  walk_at "ew";by_cases h:c/90 % 4=1
  ·rw [if_pos h];walk_at "ew";have d0:0<=c/360 % 1000000000:=Int.emod_nonneg _ (by decide);have d1:c/360 % 1000000000 < 1000000000:=Int.emod_lt_of_pos _ (by decide);exact ⟨_,rfl,by omega,by omega⟩
  ·rw [if_neg h];exact ⟨_,rfl,by omega,by omega⟩
 obtain ⟨n,E4,n1,n2⟩:=E4;have E5:∃ n':Int,cN (b5 (ap eU (ap bv (ap cA (ae 1) (vC (.int 90))) (vC (.int 16))) (vC (.int 2)))) (aI 4 (ap oF (vC (.int 10)) (vC (.int 9)))) aF [some B,some (.int c),some (.str nm),some S,some (.int n)]=.ok (.nx [some B,some (.int c),some (.str nm),some S,some (.int n')])/\1<=n'/\n'<=1000000000:=by
  walk_at "ew";by_cases h:c/90 % 16=2
  ·rw [if_pos h];walk_at "ew";exact ⟨_,rfl,by decide,by decide⟩
  ·rw [if_neg h];exact ⟨_,rfl,n1,n2⟩
 obtain ⟨m,E5,m1,m2⟩:=E5;rw [bi,E1,ah,aS,bi,E2,ah,aS,bi,E3,ah,aS,bi,E4,ah,aS,bi,E5,ah,aS];have i0:0<=c % 5:=Int.emod_nonneg _ (by decide);have i1:c % 5 < 5:=Int.emod_lt_of_pos _ (by decide)
 have:c % 5=0\/c % 5=1\/c % 5=2\/(c % 5≠0/\c % 5≠1/\c % 5≠2):=by omega
 rcases this with e|e|e|⟨e0,e1,e2⟩
 ·walk_at "ew";rw [e];walk_at "ew";subst hS;exact ⟨_,rfl,.table hn hc⟩
 ·walk_at "ew";rw [e];walk_at "ew";rw [e];walk_at "ew";subst hS;walk_at "ew";rw [List.length_map,Jh,if_pos (by omega)];walk_at "ew";have q0:0<=c/10 % (cs.length:Int):=Int.emod_nonneg _ (by omega);have q1:c/10 % (cs.length:Int) < (cs.length:Int):=Int.emod_lt_of_pos _ (by omega);have hx:∃ p:Str×Str,p∈cs/\bj (.tup (cs.map bJ)) (.int (c/10 % (cs.length:Int)))=.ok (bJ p):=by
   generalize c/10 % (cs.length:Int)=q at q0 q1;obtain ⟨j,rfl⟩:∃ j:Nat,q=(j:Int):=⟨q.toNat,by omega⟩;have hj:j < cs.length:=by omega
   exact ⟨cs[j],List.getElem_mem hj,FI (bX (by rw [List.getElem?_map,List.getElem?_eq_getElem hj];rfl))⟩
  obtain ⟨p,hp,ep⟩:=hx;rw [ep];unfold bJ;walk_at "ew";exact ⟨_,rfl,.index hn ⟨(hc.col p hp).nm,(hc.col p hp).nr⟩⟩
 ·walk_at "ew"
  iterate 3 (rw [e];walk_at "ew")
  exact ⟨_,rfl,.drop hn m1 m2⟩
 ·subst hS;obtain ⟨ds,er,hd,hl⟩:=LS (.str nm) cs (c/7) c8;walk_at "ew";rw [if_neg e0];walk_at "ew";rw [if_neg e1];walk_at "ew";rw [if_neg e2];walk_at "ew";rw [er];walk_at "ew";exact ⟨_,rfl,.put hn m1 m2 hd (by omega) (by omega)⟩
abbrev wS (z:Str):List Nat:=z.cps.toList
def IP (z:Str):ay (wS z)=z:=(Ip z).symm
def wJ (zs:List Str):(zs.map wS).map ay=zs:=by
 rw [List.map_map]
 conv=>rhs;rw [<- List.map_id zs]
 exact List.map_congr_left fun z _=>IP z
theorem xj (zs:List Str):mF (zs.map D.str)=some zs:=by
 have:=strs_map (fun z:Str=>z) zs
 simpa using this
def AM (b:Nat):∀ (ws:List Str),(∀ w∈ws,w.length<=b)->(ws.map (·.length)).sum<=b*ws.length
 | [],_=>by simp
 | w::r,h=>by
  have h1:=h w (by simp);have h2:=AM b r fun x hx=>h x (List.mem_cons_of_mem _ hx);simp only [List.map_cons,List.sum_cons,List.length_cons,Nat.mul_add,Nat.mul_one];omega
def tM:(Str.ofString " ").length=1:=by decide +kernel
def lf (zs:List Str):Txt.join (Str.ofString " ") zs=ay (av (zs.map wS)):=by
 have:=AN (zs.map wS)
 rw [wJ,<- QW] at this;exact this
def js (zs:List Str) (h:∀ z∈zs,z.length<=1000) (hl:zs.length<=100):eD (Str.ofString " ") [.lst (zs.map D.str)]=.ok (.str (ay (av (zs.map wS)))):=by
 have:=AM 1000 zs h
 rw [ER (xj zs) (by rw [tM];omega),lf]
def jsA (zs:List Str) (h:∀ z∈zs,z.length<=1000) (hl:zs.length<=100):qO (Str.ofString " ") [.tup (zs.map D.str)]=.ok (.str (ay (av (zs.map wS)))):=by
 have:=AM 1000 zs h
 have e:y4 (.tup (zs.map D.str))=some (zs.map D.str):=rfl;simp only [qO,e,xj];rw [if_pos (by rw [tM];omega),lf]
def oj (A ws:List (List Nat)) (h:ws≠[]):∀ (a:List Nat),av (a::A++ws)=av (a::A)++32::av ws:=by
 induction A with
 | nil=>intro a;exact jV a ws h
 | cons b B ih =>
  intro a;show a++32::av (b::B++ws)=(a++32::av (b::B))++32::av ws;rw [ih b];simp
def uC (f g:Str×Str->List Nat):∀ (cs:List (Str×Str)),av (cs.flatMap fun c=>[f c,g c])=av (cs.map fun c=>f c++32::g c)
 | []=>rfl
 | [c]=>rfl
 | c::d::r=>by
  have ih:=uC f g (d::r);show av (f c::g c::((d::r).flatMap fun c=>[f c,g c]))=(f c++32::g c)++32::av ((d::r).map fun c=>f c++32::g c);rw [<- ih];show f c++32::(g c++32::av ((d::r).flatMap fun c=>[f c,g c]))=_;simp
def md (cs:List (Str×Str)):List Str:=cs.flatMap fun c=>[c.1,c.2]
def qQ (c:Str×Str) (cs:List (Str×Str)):md (c::cs)=c.1::c.2::md cs:=rfl
def tf {cs:List (Str×Str)} {z:Str} (h:z∈md cs):∃ c∈cs,z=c.1\/z=c.2:=by
 obtain ⟨c,hc,hz⟩:=List.mem_flatMap.mp h;exact ⟨c,hc,by simpa using hz⟩
theorem nP:∀ (cs:List (Str×Str)),(md cs).length=2*cs.length
 | []=>rfl
 | c::r=>by rw [qQ];simp [nP r];omega
def DS {c:Nat} (h:low c=true):c≠32:=by
 intro e;subst e;exact absurd h (by decide)
def Gn.free {z:Str} (h:Gn z):32∉wS z:=fun hm=>DS (h.nm.lw' 32 hm) rfl
def kind_free {k:Str} (h:k="number"\/k="text"):32∉wS k:=by rcases h with rfl|rfl <;> decide +kernel
def kind_len {k:Str} (h:k="number"\/k="text"):k.length<=6:=by rcases h with rfl|rfl <;> decide +kernel
def Col.gn {c:Str×Str} (h:Col c):Gn c.1:=⟨h.nm,h.nr⟩
def qa {n:Int} (h1:1<=n) (h2:n<=1000000000):r9 [.int n]=.ok (.str (ay (dg n.natAbs))):=by
 unfold r9;simp only;rw [if_pos (by omega),mk_eq (str_int n)];unfold fj;rw [if_neg (by omega)]
def nS {n:Int} (h1:1<=n) (h2:n<=1000000000):(dg n.natAbs).length<=10:=m5 9 _ (by omega)
def Lu (S:D) (zs:List Str) (c:Str×Str) (hl:zs.length<=100):ox 1 (ae 2) [some S,some (.lst (zs.map D.str)),some (bJ c)]=.ok (.nx [some S,some (.lst ((zs++[c.1,c.2]).map D.str)),some (bJ c)]):=by
 show (if (zs.map D.str).length+[D.str c.1,D.str c.2].length<=1000000 then _ else _)=_;rw [if_pos (by rw [List.length_map];simp;omega)];rw [List.map_append];rfl
def Fm (S:D):∀ (cs:List (Str×Str)) (zs:List Str) (o:Option D),zs.length+2*cs.length<=100->∃ q,gJ (.one 2) (ox 1 (ae 2)) (cs.map bJ) [some S,some (.lst (zs.map D.str)),o]=.ok (.nx [some S,some (.lst ((zs++md cs).map D.str)),q])
 | [],zs,o,_=>⟨o,by simp [md];rfl⟩
 | c::r,zs,o,hl=>by
  simp only [List.length_cons] at hl;obtain ⟨q,e⟩:=Fm S r (zs++[c.1,c.2]) (some (bJ c)) (by simp;omega);refine ⟨q,?_⟩;rw [List.map_cons,jG];show (ox 1 (ae 2) [some S,some (.lst (zs.map D.str)),some (bJ c)]).bind _=_;rw [Lu S zs c (by omega),ah,kw,e,qQ];simp
def vI {nm:Str} {cs:List (Str×Str)} (hn:Gn nm) (hc:Cols cs):∀ z∈Str.ofString "table"::nm::md cs,z.length<=1000:=fun z hz=>by
 rcases List.mem_cons.mp hz with rfl|hz
 ·decide +kernel
 ·rcases List.mem_cons.mp hz with rfl|hz
  ·have:=hn.nm.l1;omega
  ·obtain ⟨c,hcc,e|e⟩:=tf hz
   ·rw [e];have:=(hc.col c hcc).nm.l1;omega
   ·rw [e];have:=kind_len (hc.col c hcc).kd;omega
def z7 {nm:Str} {cs:List (Str×Str)} (hn:Gn nm) (hc:Cols cs):jl [.tup [.str nm,.tup (cs.map bJ)]]=.ok (.str (ay (av ((Str.ofString "table"::nm::md cs).map wS)))):=by
 rw [xm,jj];have h8:=hc.l1;obtain ⟨q,e⟩:=Fm (.tup [.str nm,.tup (cs.map bJ)]) cs [Str.ofString "table",nm] none (by simp;omega);have E1:m3 1 (ee (aa (vC (.str "table")) (aa (ap bj (ae 0) (vC (.int 0))) ak))) [some (.tup [.str nm,.tup (cs.map bJ)]),none,none]=.ok (.nx [some (.tup [.str nm,.tup (cs.map bJ)]),some (.lst ([Str.ofString "table",nm].map D.str)),none]):=by
  walk_at "ew";rfl
 have ei:b8 (ap bj (ae 0) (vC (.int 1))) [some (.tup [.str nm,.tup (cs.map bJ)]),some (.lst ([Str.ofString "table",nm].map D.str)),none]=.ok (cs.map bJ):=by walk_at "ew"
 rw [bi,E1,ah,aS,bi,ui,ei,ah,uB,e,ah,aS];have ej:=js (Str.ofString "table"::nm::md cs) (vI hn hc) (by simp [nP];omega)
 have:oH eD (vC (.str " ")) (aa (ae 1) ak) [some (.tup [.str nm,.tup (cs.map bJ)]),some (.lst (([Str.ofString "table",nm]++md cs).map D.str)),q]=.ok (.str (ay (av ((Str.ofString "table"::nm::md cs).map wS)))):=by
  show eD (Str.ofString " ") [.lst ((Str.ofString "table"::nm::md cs).map D.str)]=_;exact ej
 rw [r6,this];rfl
def FW {ds:List D} (h:∀ d∈ds,Vw d) (hl:ds.length<=8):lV [.tup ds]=.ok (.str (ay (av (ds.map wl)))):=by
 rw [Ay,lL];have e:bz (.one 0) cc (aj gM (aa (ae 0) ak)) (bL [none] [some (.tup ds)]) ds=.ok (.lst (ds.map fun d=>D.str (ay (wl d)))):=by
  have:=Fp (k:=0) (ε:=aj gM (aa (ae 0) ak)) (δ0:=[none]) (xs:=ds) (fun d=>D.str (ay (wl d))) rfl (by omega) fun x hx=>by
   show aj gM (aa (ae 0) ak) [some x]=_;walk_at "ew";exact xc x (h x hx)
  exact this
 walk_at "ew";rw [e];walk_at "ew";have ej:=js (ds.map fun d=>ay (wl d)) (fun z hz=>by
  obtain ⟨d,hd,rfl⟩:=List.mem_map.mp hz
  have:=oV (h d hd)
  rw [aY];omega) (by rw [List.length_map];omega)
 rw [List.map_map,List.map_map] at ej;have e2:ds.map (wS ∘ fun d=>ay (wl d))=ds.map wl:=List.map_congr_left fun d _=>au _;rw [e2] at ej;show fin (((eD (Str.ofString " ") [.lst (ds.map (D.str ∘ fun d=>ay (wl d)))]).bind _))=_;rw [ej];rfl
def CM (d:D) (h:Vw d):fR [d]=.ok (.str (ay (wl d))):=xc d h
theorem i_t:(Str.ofString "index"=Str.ofString "table")=False:=by simp;decide +kernel
theorem d_t:(Str.ofString "drop"=Str.ofString "table")=False:=by simp;decide +kernel
theorem p_t:(Str.ofString "put"=Str.ofString "table")=False:=by simp;decide +kernel
theorem d_i:(Str.ofString "drop"=Str.ofString "index")=False:=by simp;decide +kernel
theorem p_i:(Str.ofString "put"=Str.ofString "index")=False:=by simp;decide +kernel
theorem d_p:(Str.ofString "drop"=Str.ofString "put")=False:=by simp;decide +kernel
theorem i_p:(Str.ofString "index"=Str.ofString "put")=False:=by simp;decide +kernel
abbrev Iz (nm:Str) (cs:List (Str×Str)):D:=.tup [.str "table",.tup [.str nm,.tup (cs.map bJ)]]
abbrev tW (nm:Str) (cs:List (Str×Str)):List Str:=Str.ofString "table"::nm::md cs
def Ec {nm:Str} {cs:List (Str×Str)} (hn:Gn nm) (hc:Cols cs):bR [Iz nm cs]=.ok (.str (ay (av ((tW nm cs).map wS)))):=by
 rw [gX,cR];walk_at "ew";rw [z7 hn hc];rfl
def cw (c:Str×Str):Str:=c.1++Str.ofString " "++c.2
def Ga (c:Str×Str):wS (cw c)=wS c.1++32::wS c.2:=by
 unfold cw wS;rw [b6,b6,QW,au];simp
def F9 {cs:List (Str×Str)} (hc:Cols cs) (δ:Sd):bz (.one 0) cc (ap aR (ap aR (ap bj (ae 0) (vC (.int 0))) (vC (.str " "))) (ap bj (ae 0) (vC (.int 1)))) (bL [none] δ) (cs.map bJ)=.ok (.lst ((cs.map cw).map D.str)):=by
 have h8:=hc.l1;rw [List.map_map];refine cS bJ _ rfl (by omega) fun c hcc=>?_;show ap aR (ap aR (ap bj (ae 0) (vC (.int 0))) (vC (.str " "))) (ap bj (ae 0) (vC (.int 1))) [some (.tup [.str c.1,.str c.2])]=_;have h1:=(hc.col c hcc).nm.l1;have h2:=kind_len (hc.col c hcc).kd;walk_at "ew";rw [nW _ _ (by rw [tM];omega)];walk_at "ew";rw [nW _ _ (by rw [df,tM];omega)];rfl
def wL {α β:Type} {f:α->β} {l:List α} (h:1<=l.length):l.map f≠[]:=by
 cases l with
 | nil=>simp at h
 | cons _ _=>simp
def HH (nm:Str) {cs:List (Str×Str)} (h:1<=cs.length):av ((Str.ofString "table"::nm::cs.map cw).map wS)=av ((tW nm cs).map wS):=by
 have e1:(tW nm cs).map wS=(wS (Str.ofString "table"))::[wS nm]++cs.flatMap (fun c=>[wS c.1,wS c.2]):=by
  show _=wS (Str.ofString "table")::wS nm::_;rw [List.map_cons,List.map_cons];congr 2;unfold md;rw [List.map_flatMap];rfl
 have e2:(Str.ofString "table"::nm::cs.map cw).map wS=(wS (Str.ofString "table"))::[wS nm]++cs.map (fun c=>wS c.1++32::wS c.2):=by
  show _=wS (Str.ofString "table")::wS nm::_;rw [List.map_cons,List.map_cons];congr 2;rw [List.map_map];exact List.map_congr_left fun c _=>Ga c
 rw [e1,e2,oj _ _ (wL h),oj _ _ (by
  cases cs with
  | nil=>simp at h
  | cons c r=>simp),uC (fun c=>wS c.1) (fun c=>wS c.2)]
def FH {nm:Str} {cs:List (Str×Str)} (hn:Gn nm) (hc:Cols cs):gr [Iz nm cs]=.ok (.str (ay (av ((tW nm cs).map wS)))):=by
 rw [pR,jM];have h8:=hc.l1;have ej:=js (Str.ofString "table"::nm::cs.map cw) (fun z hz=>by
  rcases List.mem_cons.mp hz with rfl|hz
  ·decide +kernel
  ·rcases List.mem_cons.mp hz with rfl|hz
   ·have:=hn.nm.l1;omega
   ·obtain ⟨c,hcc,rfl⟩:=List.mem_map.mp hz;have h1:=(hc.col c hcc).nm.l1;have h2:=kind_len (hc.col c hcc).kd;unfold cw;rw [df,df,tM];omega) (by simp;omega)
 rw [HH nm hc.l0] at ej;have e1:ap aR (ee (aa (vC (.str "table")) (aa (ap bj (ap bj (ae 0) (vC (.int 1))) (vC (.int 0))) ak))) (bn [none] (b8 (ap bj (ap bj (ae 0) (vC (.int 1))) (vC (.int 1)))) (.one 0) cc (ap aR (ap aR (ap bj (ae 0) (vC (.int 0))) (vC (.str " "))) (ap bj (ae 0) (vC (.int 1))))) [some (Iz nm cs)]=.ok (.lst ((Str.ofString "table"::nm::cs.map cw).map D.str)):=by
  walk_at "ew";rw [F9 hc];walk_at "ew";rw [if_pos (by simp;omega)];rfl
 have e2:oH eD (vC (.str " ")) (aa (ap aR (ee (aa (vC (.str "table")) (aa (ap bj (ap bj (ae 0) (vC (.int 1))) (vC (.int 0))) ak))) (bn [none] (b8 (ap bj (ap bj (ae 0) (vC (.int 1))) (vC (.int 1)))) (.one 0) cc (ap aR (ap aR (ap bj (ae 0) (vC (.int 0))) (vC (.str " "))) (ap bj (ae 0) (vC (.int 1)))))) ak) [some (Iz nm cs)]=.ok (.str (ay (av ((tW nm cs).map wS)))):=by
  rw [Ju,v_c,ah,LM,oU,e1];simp only [ah,o9,sZ,lH];exact ej
 have eb:b5 (ap eU (ap bj (ae 0) (vC (.int 0))) (vC (.str "table"))) [some (Iz nm cs)]=.ok true:=by
  walk_at "ew";simp
 rw [bi,sF,eb,ah,um,if_pos rfl,r6,e2];rfl
abbrev iW (nm cl:Str):List Str:=[Str.ofString "index",nm,cl]
def wG {nm cl:Str} (hn:Gn nm) (hc:Gn cl):∀ z∈iW nm cl,z.length<=1000:=fun z hz=>by
 simp only [List.mem_cons,List.not_mem_nil,or_false] at hz;rcases hz with rfl|rfl|rfl
 ·decide +kernel
 ·have:=hn.nm.l1;omega
 ·have:=hc.nm.l1;omega
def Dl {nm cl:Str} (hn:Gn nm) (hc:Gn cl):bR [.tup [.str "index",.str nm,.str cl]]=.ok (.str (ay (av ((iW nm cl).map wS)))):=by
 rw [gX,cR];have ej:=jsA (iW nm cl) (wG hn hc) (by simp);have ej:qO (Str.ofString " ") [.tup [.str (Str.ofString "index"),.str nm,.str cl]]=.ok (.str (ay (av ((iW nm cl).map wS)))):=ej;walk_at "ew";simp only [i_t,if_false];walk_at "ew";rw [ej];walk_at "ew"
def DB {nm cl:Str} (hn:Gn nm) (hc:Gn cl):gr [.tup [.str "index",.str nm,.str cl]]=.ok (.str (ay (av ((iW nm cl).map wS)))):=by
 rw [pR,jM];have ej:=js (iW nm cl) (wG hn hc) (by simp);have ej:eD (Str.ofString " ") [.lst [.str (Str.ofString "index"),.str nm,.str cl]]=.ok (.str (ay (av ((iW nm cl).map wS)))):=ej;have es:r9 [.str cl]=.ok (.str cl):=rfl;walk_at "ew";simp only [i_t,if_false];walk_at "ew";simp only [i_p,if_false];walk_at "ew";rw [es];walk_at "ew";rw [ej];walk_at "ew"
abbrev dW (nm:Str) (n:Int):List Str:=[Str.ofString "drop",nm,ay (dg n.natAbs)]
def wW {w nm:Str} {n:Int} (hw:w.length<=1000) (hn:Gn nm) (h1:1<=n) (h2:n<=1000000000):∀ z∈[w,nm,ay (dg n.natAbs)],z.length<=1000:=fun z hz=>by
 simp only [List.mem_cons,List.not_mem_nil,or_false] at hz;rcases hz with rfl|rfl|rfl
 ·exact hw
 ·have:=hn.nm.l1;omega
 ·have:=nS h1 h2;rw [aY];omega
def Fz:(Str.ofString "drop").length<=1000:=by decide +kernel
def Op:(Str.ofString "put").length<=1000:=by decide +kernel
def Hz {nm:Str} {n:Int} (hn:Gn nm) (h1:1<=n) (h2:n<=1000000000):bR [.tup [.str "drop",.str nm,.int n]]=.ok (.str (ay (av ((dW nm n).map wS)))):=by
 rw [gX,cR];have ej:=js (dW nm n) (wW Fz hn h1 h2) (by simp);have ej:eD (Str.ofString " ") [.lst [.str (Str.ofString "drop"),.str nm,.str (ay (dg n.natAbs))]]=.ok (.str (ay (av ((dW nm n).map wS)))):=ej;walk_at "ew";simp only [d_t,if_false];walk_at "ew";simp only [d_i,if_false];walk_at "ew";rw [qa h1 h2];walk_at "ew";simp only [d_p,if_false];walk_at "ew";rw [ej];walk_at "ew"
def HN {nm:Str} {n:Int} (hn:Gn nm) (h1:1<=n) (h2:n<=1000000000):gr [.tup [.str "drop",.str nm,.int n]]=.ok (.str (ay (av ((dW nm n).map wS)))):=by
 rw [pR,jM];have ej:=js (dW nm n) (wW Fz hn h1 h2) (by simp);have ej:eD (Str.ofString " ") [.lst [.str (Str.ofString "drop"),.str nm,.str (ay (dg n.natAbs))]]=.ok (.str (ay (av ((dW nm n).map wS)))):=ej;walk_at "ew";simp only [d_t,if_false];walk_at "ew";simp only [d_p,if_false];walk_at "ew";rw [qa h1 h2];walk_at "ew";rw [ej];walk_at "ew"
abbrev pW (nm:Str) (n:Int) (ds:List D):List (List Nat):=wS (Str.ofString "put")::wS nm::dg n.natAbs::ds.map wl
def J9 {nm:Str} {n:Int} {ds:List D} (hn:Gn nm) (h1:1<=n) (h2:n<=1000000000) (hd:∀ d∈ds,Vw d) (l1:1<=ds.length) (l8:ds.length<=8):bR [.tup [.str "put",.str nm,.int n,.tup ds]]=.ok (.str (ay (av (pW nm n ds)))):=by
 rw [gX,cR];have hw:∀ w∈ds.map wl,w.length<=100:=fun w hw=>by
  obtain ⟨d,hdd,rfl⟩:=List.mem_map.mp hw;exact oV (hd d hdd)
 have hL:=lm _ hw;rw [List.length_map] at hL;have ej:=js [Str.ofString "put",nm,ay (dg n.natAbs),ay (av (ds.map wl))] (fun z hz=>by
  simp only [List.mem_cons,List.not_mem_nil,or_false] at hz;rcases hz with rfl|rfl|rfl|rfl
  ·exact Op
  ·have:=hn.nm.l1;omega
  ·have:=nS h1 h2;rw [aY];omega
  ·rw [aY];omega) (by simp)
 have e:av ([Str.ofString "put",nm,ay (dg n.natAbs),ay (av (ds.map wl))].map wS)=av (pW nm n ds):=by
  show av (wS (Str.ofString "put")::[wS nm,wS (ay (dg n.natAbs))]++[wS (ay (av (ds.map wl)))])=av (wS (Str.ofString "put")::[wS nm,dg n.natAbs]++ds.map wl);rw [oj _ _ (by simp),oj _ _ (wL l1)];unfold wS;rw [au,au];rfl
 rw [e] at ej;have ej:eD (Str.ofString " ") [.lst [.str (Str.ofString "put"),.str nm,.str (ay (dg n.natAbs)),.str (ay (av (ds.map wl)))]]=.ok (.str (ay (av (pW nm n ds)))):=ej;walk_at "ew";simp only [p_t,if_false];walk_at "ew";simp only [p_i,if_false];walk_at "ew";rw [qa h1 h2];walk_at "ew";rw [FW hd l8];walk_at "ew";rw [ej];walk_at "ew"
def JN {nm:Str} {n:Int} {ds:List D} (hn:Gn nm) (h1:1<=n) (h2:n<=1000000000) (hd:∀ d∈ds,Vw d) (l1:1<=ds.length) (l8:ds.length<=8):gr [.tup [.str "put",.str nm,.int n,.tup ds]]=.ok (.str (ay (av (pW nm n ds)))):=by
 rw [pR,jM];have ej:=js (Str.ofString "put"::nm::ay (dg n.natAbs)::ds.map fun d=>ay (wl d)) (fun z hz=>by
  rcases List.mem_cons.mp hz with rfl|hz
  ·exact Op
  ·rcases List.mem_cons.mp hz with rfl|hz
   ·have:=hn.nm.l1;omega
   ·rcases List.mem_cons.mp hz with rfl|hz
    ·have:=nS h1 h2;rw [aY];omega
    ·obtain ⟨d,hdd,rfl⟩:=List.mem_map.mp hz
     have:=oV (hd d hdd)
     rw [aY];omega) (by simp;omega)
 have e:(Str.ofString "put"::nm::ay (dg n.natAbs)::ds.map fun d=>ay (wl d)).map wS=pW nm n ds:=by
  rw [List.map_cons,List.map_cons,List.map_cons,List.map_map];unfold pW;congr 2
 rw [e,List.map_cons,List.map_cons,List.map_cons,List.map_map] at ej;have ec:bz (.one 0) cc (aj fR (aa (ae 0) ak)) (bL [none] [some (.tup [.str "put",.str nm,.int n,.tup ds])]) ds=.ok (.lst (ds.map (D.str ∘ fun d=>ay (wl d)))):=by
  have:=Fp (k:=0) (ε:=aj fR (aa (ae 0) ak)) (δ0:=[none]) (xs:=ds) (D.str ∘ fun d=>ay (wl d)) rfl (by omega) fun x hx=>by
   show aj fR (aa (ae 0) ak) [some x]=_;walk_at "ew";exact CM x (hd x hx)
  exact this
 walk_at "ew";simp only [p_t,if_false];walk_at "ew";rw [qa h1 h2];walk_at "ew";rw [ec];walk_at "ew";rw [if_pos (by simp;omega)];walk_at "ew";rw [ej];walk_at "ew"
def z5:Str.ofString " "=gU:=by decide +kernel
def z0 (zs:List Str) (h0:zs≠[]) (hn:∀ z∈zs,32∉wS z):Txt.split (ay (av (zs.map wS))) gU=zs:=by
 have h:=yG (z:=ay (av (zs.map wS))) (ws:=zs.map wS) (au _) (by simpa using h0) (fun w hw=>by
  obtain ⟨z,hz,rfl⟩:=List.mem_map.mp hw;exact hn z hz)
 have h:(Txt.split (ay (av (zs.map wS))) gU).map wS=zs.map wS:=h;rw [<- wJ (Txt.split (ay (av (zs.map wS))) gU),h];exact wJ zs
def nU (zs:List Str) (h0:zs≠[]) (hn:∀ z∈zs,32∉wS z) (hl:(av (zs.map wS)).length<=1000000):iX (ay (av (zs.map wS))) [.str (Str.ofString " ")]=.ok (.lst (zs.map D.str)):=by
 unfold iX;simp only;rw [z5,if_pos ⟨rfl,by rw [aY];exact hl⟩,z0 zs h0 hn]
def lB (b:Nat):∀ (ws:List (List Nat)),(∀ w∈ws,w.length<=b)->(av ws).length<=(b+1)*ws.length
 | [],_=>by simp [av]
 | [w],h=>by have:=h w (by simp);simp [av];omega
 | w::w'::ws,h=>by
  have h1:=h w (by simp);have h2:=lB b (w'::ws) fun x hx=>h x (List.mem_cons_of_mem _ hx);have e:av (w::w'::ws)=w++32::av (w'::ws):=rfl;rw [e];simp only [List.length_append,List.length_cons,Nat.mul_add,Nat.add_mul,Nat.mul_one,Nat.one_mul] at h2 ⊢;omega
def tE (zs:List Str) (h:∀ z∈zs,z.length<=1000) (hl:zs.length<=100):(av (zs.map wS)).length<=1000000:=by
 have:=lB 1000 (zs.map wS) (fun w hw=>by
  obtain ⟨z,hz,rfl⟩:=List.mem_map.mp hw;rw [fk];exact h z hz)
 rw [List.length_map] at this;omega
def BB:∀ (cs:List (Str×Str)) (k:Nat) (c:Str×Str),cs[k]?=some c->(md cs)[2*k]?=some c.1/\(md cs)[2*k+1]?=some c.2
 | [],k,c,h=>by simp at h
 | d::r,0,c,h=>by
  simp at h;subst h;exact ⟨rfl,rfl⟩
 | d::r,k+1,c,h=>by
  have ih:=BB r k c (by simpa using h);rw [qQ];have e1:2*(k+1)=2*k+2:=by omega
  have e2:2*(k+1)+1=2*k+1+2:=by omega
  exact ⟨by rw [e1];exact ih.1,by rw [e2];exact ih.2⟩
def Mr {i j c:Int} (h:-(2 ^ 40)<=i/\i < 2 ^ 40/\-(2 ^ 40)<=j/\j < 2 ^ 40/\0 < c/\c<=1000):Em [.int i,.int j,.int c]=.ok (qi i c (nK i j c)):=if_pos h
def step_eq (n:Nat) (L:Int) (h1:1<=n) (h2:n<=8) (hL:L=2+2*(n:Int)):Em [.int 2,.int (L - 1),.int 2]=.ok (qi 2 2 n):=by
 have e:nK 2 (L - 1) 2=n:=by
  unfold nK Builtin.Range.rangeSize;rw [if_pos (by decide),if_pos (by omega)]
  have:(L - 1 - 2 - 1)/2+1=(n:Int):=by omega
  rw [this];simp
 have h:=Mr (i:=2) (j:=L - 1) (c:=2) ⟨by decide,by decide,by omega,by omega,by decide,by decide⟩;rw [e] at h;exact h
def z8 {nm:Str} {cs:List (Str×Str)} (hn:Gn nm) (hc:Cols cs):jd [.lst ((tW nm cs).map D.str)]=.ok (Iz nm cs):=by
 rw [wn,je];have c1:=hc.l0;have c8:=hc.l1;obtain ⟨L,hL,eL⟩:∃ L:Int,L=2+2*(cs.length:Int)/\bt [.lst ((tW nm cs).map D.str)]=.ok (.int L):=⟨_,rfl,by
  rw [BX,List.length_map]
  have:(tW nm cs).length=2+2*cs.length:=by simp [tW,nP];omega
  rw [this];congr 2⟩
 have e1:tP (aa (vC (.int 2)) (aa (ap jN (aj bt (aa (ae 0) ak)) (vC (.int 1))) (aa (vC (.int 2)) ak))) [some (.lst ((tW nm cs).map D.str)),none,none]=.ok (qi 2 2 cs.length):=by
  have ea:(aa (vC (.int 2)) (aa (ap jN (aj bt (aa (ae 0) ak)) (vC (.int 1))) (aa (vC (.int 2)) ak))) [some (.lst ((tW nm cs).map D.str)),none,none]=.ok [.int 2,.int (L - 1),.int 2]:=by
   simp only [oU,sZ,v_c,l6,rl,v_var,pP,List.getElem?_cons_zero,ah,o9,lH,kM];rw [eL];simp only [ah,kM,o9,lH,xX,v_c,oU,sZ]
  rw [J2,ea,ah];exact step_eq cs.length L c1 c8 hL
 have e2:bz (.one 0) cc (gI (aa (ap bj (ae 1) (ae 0)) (aa (ap bj (ae 1) (ap aR (ae 0) (vC (.int 1)))) ak))) (bL [none,some 0] [some (.lst ((tW nm cs).map D.str)),none,none]) (qi 2 2 cs.length)=.ok (.lst (cs.map bJ)):=by
  have:=cS (k:=0) (ε:=gI (aa (ap bj (ae 1) (ae 0)) (aa (ap bj (ae 1) (ap aR (ae 0) (vC (.int 1)))) ak))) (δ0:=[none,some (.lst ((tW nm cs).map D.str))]) (as:=List.range cs.length) (fun (k:Nat)=>D.int (2+(k:Nat)*2)) (fun k=>((cs[k]?).map bJ).getD .non) rfl (by rw [List.length_range];omega) fun k hk=>by
   have hk:=List.mem_range.mp hk;obtain ⟨g1,g2⟩:=BB cs k cs[k] (List.getElem?_eq_getElem hk);have i1:bj (.lst ((tW nm cs).map D.str)) (.int (2+(k:Nat)*2))=.ok (.str cs[k].1):=by
    have:(2+(k:Nat)*2:Int)=((2*k+2:Nat):Int):=by omega
    rw [this];refine sC (bX ?_);rw [List.getElem?_map];show ((md cs)[2*k]?).map D.str=_;rw [g1];rfl
   have i2:bj (.lst ((tW nm cs).map D.str)) (.int (2+(k:Nat)*2+1))=.ok (.str cs[k].2):=by
    have:(2+(k:Nat)*2+1:Int)=((2*k+1+2:Nat):Int):=by omega
    rw [this];refine sC (bX ?_);rw [List.getElem?_map];show ((md cs)[2*k+1]?).map D.str=_;rw [g2];rfl
   show gI (aa (ap bj (ae 1) (ae 0)) (aa (ap bj (ae 1) (ap aR (ae 0) (vC (.int 1)))) ak)) [some (.int (2+(k:Nat)*2)),some (.lst ((tW nm cs).map D.str))]=_;walk_at "ew";rw [i1];walk_at "ew";rw [i2];walk_at "ew";rw [List.getElem?_eq_getElem hk];rfl
  have e3:(List.range cs.length).map (fun k=>((cs[k]?).map bJ).getD .non)=cs.map bJ:=by
   apply List.ext_getElem?
   intro j;rw [List.getElem?_map,List.getElem?_map];by_cases hj:j < cs.length
   ·rw [List.getElem?_range hj,List.getElem?_eq_getElem hj];simp [List.getElem?_eq_getElem hj]
   ·rw [List.getElem?_eq_none (by simpa using hj),List.getElem?_eq_none (by omega)];rfl
  rw [e3] at this;exact this
 have E1:aI 1 (bn [none,some 0] (tP (aa (vC (.int 2)) (aa (ap jN (aj bt (aa (ae 0) ak)) (vC (.int 1))) (aa (vC (.int 2)) ak)))) (.one 0) cc (gI (aa (ap bj (ae 1) (ae 0)) (aa (ap bj (ae 1) (ap aR (ae 0) (vC (.int 1)))) ak)))) [some (.lst ((tW nm cs).map D.str)),none,none]=.ok (.nx [some (.lst ((tW nm cs).map D.str)),some (.lst (cs.map bJ)),none]):=by
  rw [BV,wj,e1,ah,e2,ah,Ds];rfl
 have E2:cN (b5 (ap pY (aj bt (aa (ae 0) ak)) (ap aR (vC (.int 2)) (ap fH (vC (.int 2)) (aj bt (aa (ae 1) ak)))))) cC aF [some (.lst ((tW nm cs).map D.str)),some (.lst (cs.map bJ)),none]=.ok (.nx [some (.lst ((tW nm cs).map D.str)),some (.lst (cs.map bJ)),none]):=by
  have eb:ap pY (aj bt (aa (ae 0) ak)) (ap aR (vC (.int 2)) (ap fH (vC (.int 2)) (aj bt (aa (ae 1) ak)))) [some (.lst ((tW nm cs).map D.str)),some (.lst (cs.map bJ)),none]=.ok (.bl false):=by
   simp only [l6,rl,oU,sZ,v_var,pP,List.getElem?_cons_zero,List.getElem?_cons_succ,ah,o9,lH,kM,v_c];rw [eL,ah,kM];simp only [l6,rl,oU,sZ,v_var,pP,List.getElem?_cons_zero,List.getElem?_cons_succ,ah,o9,lH,kM,v_c,BX];rw [Ej (by decide),ah,IE,ah,List.length_map,IR,<- hL];simp
  rw [sF,zS,eb];rfl
 rw [bi,E1,ah,aS,bi,E2,ah,aS];have es:=hc.shape hn.nm hn.nr;have i1:bj (.lst ((tW nm cs).map D.str)) (.int 1)=.ok (.str nm):=vE;have E3:aI 2 (gI (aa (ap bj (ae 0) (vC (.int 1))) (aa (aj sA (aa (ae 1) ak)) ak))) [some (.lst ((tW nm cs).map D.str)),some (.lst (cs.map bJ)),none]=.ok (.nx [some (.lst ((tW nm cs).map D.str)),some (.lst (cs.map bJ)),some (.tup [.str nm,.tup (cs.map bJ)])]):=by
  generalize D.lst ((tW nm cs).map D.str)=Wd at i1;walk_at "ew";rw [i1];walk_at "ew"
 rw [bi,E3,ah,aS];generalize D.lst ((tW nm cs).map D.str)=Wd;walk_at "ew";rw [es];walk_at "ew"
def DM (L:List Nat) (h:∀ c∈L,48<=c/\c<=57) (hl:L.length<=900) (o:Option D):aj nF (aa (bn [none] (b8 (ae 0)) (.one 0) cc (ap uO (ae 0) (vC bZ))) ak) [some (.str (ay L)),o]=.ok (.bl true):=by
 have:=yZ L h hl none none
 exact this
def zG (n:Int) (h1:1<=n) (h2:n<=1000000000):fv [.int n]=.ok (.bl true):=by
 rw [sJ,fE];unfold fX;walk_at "ew";rw [if_pos h1];walk_at "ew";rw [decide_eq_true h2]
def mH (n:Int) (h1:1<=n) (h2:n<=1000000000):cK [.str (ay (dg n.natAbs))]=.ok (.int n):=by
 have hl:=nS h1 h2;have hne:=yk n.natAbs;have hmem:∀ c∈dg n.natAbs,48<=c/\c<=57:=fun c hc=>iR hc;have hint:kB [.str (ay (dg n.natAbs))]=.ok (.int n):=by
  unfold kB;simp only;have ef:fj n=dg n.natAbs:=by unfold fj;rw [if_neg (by omega)]
  rw [xY (i:=n) (by rw [au,ef]) (by omega)];simp only;rw [aY,if_pos (by omega)]
 rw [pM,dD];have e1:rP (b5 (ap eU (ae 0) (vC (.str "")))) (rP (b5 (ap C8 (aj bt (aa (ae 0) ak)) (vC bI))) (dh (cq (aj nF (aa (bn [none] (b8 (ae 0)) (.one 0) cc (ap uO (ae 0) (vC bZ))) ak))))) [some (.str (ay (dg n.natAbs))),none]=.ok false:=by
  have ea:ap eU (ae 0) (vC (.str "")) [some (.str (ay (dg n.natAbs))),none]=.ok (.bl false):=by
   simp only [l6,v_var,pP,v_c,kM,ah,List.getElem?_cons_zero,List.getElem?_cons_succ,Er];rw [l0,decide_eq_false (fun z=>hne (mk_inj.mp z))]
  have eb:ap C8 (aj bt (aa (ae 0) ak)) (vC bI) [some (.str (ay (dg n.natAbs))),none]=.ok (.bl false):=by
   unfold bI;walk_at "ew";rw [sk,aY,if_pos (by omega)];walk_at "ew";rw [decide_eq_false (by omega)]
  rw [EU,zS,ea,ah,GE,ah,yP,if_neg Bool.false_ne_true,EU,zS,eb,ah,GE,ah,yP,if_neg Bool.false_ne_true,BF,Bi,DM _ hmem (by omega)];rfl
 rw [bi,sF,e1,ah,um,if_neg Bool.false_ne_true,qN,ah,aS];have E2:aI 1 (aj kB (aa (ae 0) ak)) [some (.str (ay (dg n.natAbs))),none]=.ok (.nx [some (.str (ay (dg n.natAbs))),some (.int n)]):=by
  walk_at "ew";rw [hint];walk_at "ew"
 have E3:sv (fun x y=>.bl (Txt.startswith x y)) (ay (dg n.natAbs)) [.str (Str.ofString "0")]=.ok (.bl false):=by
  unfold sv;simp only;rw [SE,tR,au];obtain ⟨c,r,f1,f2⟩:=BR n.natAbs (by omega);rw [decide_eq_false (by rw [f1];simp;exact f2)]
 rw [bi,E2,ah,aS];walk_at "ew";rw [E3];walk_at "ew";rw [zG n h1 h2];walk_at "ew"
def IY:wS (Str.ofString "put")=[112,117,116]:=by decide +kernel
def P8:bt [.str (Str.ofString "put ")]=.ok (.int 4):=by with_unfolding_all rfl
def yg {z:Str} {w r:List Nat} (h:z.cps.toList=w++32::r) (hw:32∉w) (hl:z.length<=1000000):rV z [.str (Str.ofString " ")]=.ok (.tup [.str (ay w),.str gU,.str (ay r)]):=by
 obtain ⟨p1,p2,p3⟩:=zM h hw;unfold rV;simp only;rw [z5,if_pos ⟨rfl,hl⟩,p2,mk_eq p1,mk_eq p3]
def BH (n:Nat):32∉dg n:=fun h=>by have:=iR h;omega
def ET {nm:Str} {n:Int} {ds:List D} (hn:Gn nm) (h1:1<=n) (h2:n<=1000000000) (hd:∀ d∈ds,Vw d) (l1:1<=ds.length) (l8:ds.length<=8):me [.str (ay (av (pW nm n ds)))]=.ok (.tup [.str "put",.str nm,.int n,.tup ds]):=by
 rw [z3,mh];have hw:∀ w∈ds.map wl,w.length<=100:=fun w hw=>by
  obtain ⟨d,hdd,rfl⟩:=List.mem_map.mp hw;exact oV (hd d hdd)
 have hL:=lm _ hw;rw [List.length_map] at hL;have hdg:=nS h1 h2;have hnl:=hn.nm.l1;have hne:=wL (f:=wl) l1;have e0:av (pW nm n ds)=[112,117,116]++32::(wS nm++32::(dg n.natAbs++32::av (ds.map wl))):=by
  show av (wS (Str.ofString "put")::wS nm::dg n.natAbs::ds.map wl)=_;rw [IY];show [112,117,116]++32::(wS nm++32::av (dg n.natAbs::ds.map wl))=_;rw [jV _ _ hne]
 have hnl':(wS nm).length<=8:=by rw [fk];exact hnl
 have ec:fJ (.str (ay (av (pW nm n ds)))) (some 4) none=.ok (.str (ay (wS nm++32::(dg n.natAbs++32::av (ds.map wl))))):=by
  have:=Bt (av (pW nm n ds)) 4 (by rw [e0];simp) (by rw [e0];simp only [List.length_append,List.length_cons,List.length_nil];omega)
  have e4:(((4:Nat):Int))=4:=rfl;rw [e4] at this;rw [this,e0];rfl
 have ep1:=yg (z:=ay (wS nm++32::(dg n.natAbs++32::av (ds.map wl)))) (au _) hn.free (by rw [aY];simp only [List.length_append,List.length_cons,List.length_nil];omega);have ep2:=yg (z:=ay (dg n.natAbs++32::av (ds.map wl))) (au _) (BH _) (by rw [aY];simp only [List.length_append,List.length_cons,List.length_nil];omega);rw [IP] at ep1;generalize ay (av (pW nm n ds))=Z at ec;have E1:aI 1 (oH rV (mN fJ (ae 0) (bx (aj bt (aa (vC (.str "put ")) ak))) c6) (aa (vC (.str " ")) ak)) [some (.str Z),none,none,none,none,none]=.ok (.nx [some (.str Z),some (.tup [.str nm,.str gU,.str (ay (dg n.natAbs++32::av (ds.map wl)))]),none,none,none,none]):=by
  walk_at "ew";rw [P8];walk_at "ew";rw [ec];walk_at "ew";rw [ep1];walk_at "ew"
 have E2:aI 2 (oH rV (ap bj (ae 1) (vC (.int 2))) (aa (vC (.str " ")) ak)) [some (.str Z),some (.tup [.str nm,.str gU,.str (ay (dg n.natAbs++32::av (ds.map wl)))]),none,none,none,none]=.ok (.nx [some (.str Z),some (.tup [.str nm,.str gU,.str (ay (dg n.natAbs++32::av (ds.map wl)))]),some (.tup [.str (ay (dg n.natAbs)),.str gU,.str (ay (av (ds.map wl)))]),none,none,none]):=by
  walk_at "ew";rw [ep2];walk_at "ew"
 rw [bi,E1,ah,aS,bi,E2,ah,aS];have en:cY [.str nm]=.ok (.bl true):=by
  rw [sN (.str nm) (show nm.length<=1000 by omega)];show R.ok (D.bl (pK nm))=_;rw [hn.nm.name hn.nr]
 have er:=F0 ds hd (by omega);have em:=mH n h1 h2;generalize ay (dg n.natAbs++32::av (ds.map wl))=Y;generalize ay (av (ds.map wl))=R1 at er;generalize ay (dg n.natAbs)=R2 at em;walk_at "ew";rw [en];walk_at "ew";rw [em];walk_at "ew";rw [er];unfold kP;walk_at "ew";rw [if_neg (by omega)];walk_at "ew";rw [if_neg (by omega)];walk_at "ew"
def OQ (z:Str) (zs:List Str):bj (.lst ((z::zs).map D.str)) (.int 0)=.ok (.str z):=su
def DF {nm:Str} {cs:List (Str×Str)} (hn:Gn nm) (hc:Cols cs):cg [.str (ay (av ((tW nm cs).map wS)))]=.ok (Iz nm cs):=by
 rw [hV,cT];have c8:=hc.l1;have es:=nU (tW nm cs) (by simp) (fun z hz=>by
  rcases List.mem_cons.mp hz with rfl|hz
  ·decide +kernel
  ·rcases List.mem_cons.mp hz with rfl|hz
   ·exact hn.free
   ·obtain ⟨c,hcc,e|e⟩:=tf hz
    ·rw [e];exact (hc.col c hcc).gn.free
    ·rw [e];exact kind_free (hc.col c hcc).kd) (tE _ (vI hn hc) (by simp [nP];omega))
 have er:=z8 hn hc;have e0:=OQ (Str.ofString "table") (nm::md cs);generalize D.lst ((tW nm cs).map D.str)=Ws at es er e0;generalize ay (av ((tW nm cs).map wS))=Z at es;walk_at "ew";rw [es];walk_at "ew";rw [e0];walk_at "ew";rw [er];walk_at "ew"
def ux {nm:Str} (hn:Gn nm):cY [.str nm]=.ok (.bl true):=by
 have hnl:=hn.nm.l1;rw [sN (.str nm) (show nm.length<=1000 by omega)];show R.ok (D.bl (pK nm))=_;rw [hn.nm.name hn.nr]
def DJ {nm cl:Str} (hn:Gn nm) (hc:Gn cl):cg [.str (ay (av ((iW nm cl).map wS)))]=.ok (.tup [.str "index",.str nm,.str cl]):=by
 rw [hV,cT];have es:=nU (iW nm cl) (by simp) (fun z hz=>by
  simp only [List.mem_cons,List.not_mem_nil,or_false] at hz;rcases hz with rfl|rfl|rfl
  ·decide +kernel
  ·exact hn.free
  ·exact hc.free) (tE _ (wG hn hc) (by simp))
 have es:iX (ay (av ((iW nm cl).map wS))) [.str (Str.ofString " ")]=.ok (.lst [.str (Str.ofString "index"),.str nm,.str cl]):=es;generalize ay (av ((iW nm cl).map wS))=Z at es;walk_at "ew";rw [es];walk_at "ew";simp only [i_t,if_false];walk_at "ew";simp only [i_p,if_false];walk_at "ew";rw [ux hn];walk_at "ew";rw [if_neg (by decide)];walk_at "ew";rw [ux hc];walk_at "ew"
def GW {nm:Str} {n:Int} (hn:Gn nm) (h1:1<=n) (h2:n<=1000000000):cg [.str (ay (av ((dW nm n).map wS)))]=.ok (.tup [.str "drop",.str nm,.int n]):=by
 rw [hV,cT];have es:=nU (dW nm n) (by simp) (fun z hz=>by
  simp only [List.mem_cons,List.not_mem_nil,or_false] at hz;rcases hz with rfl|rfl|rfl
  ·decide +kernel
  ·exact hn.free
  ·unfold wS;rw [au];exact BH _) (tE _ (wW Fz hn h1 h2) (by simp))
 have es:iX (ay (av ((dW nm n).map wS))) [.str (Str.ofString " ")]=.ok (.lst [.str (Str.ofString "drop"),.str nm,.str (ay (dg n.natAbs))]):=es;have em:=mH n h1 h2;generalize ay (av ((dW nm n).map wS))=Z at es;generalize ay (dg n.natAbs)=Y at es em;walk_at "ew";rw [es];walk_at "ew";simp only [d_t,if_false];walk_at "ew";simp only [d_p,if_false];walk_at "ew";rw [ux hn];walk_at "ew";rw [if_neg (by decide)];walk_at "ew";simp only [d_i,if_false];walk_at "ew";rw [em];walk_at "ew"
def K1 {nm:Str} {n:Int} {ds:List D} (hn:Gn nm) (h1:1<=n) (h2:n<=1000000000) (hd:∀ d∈ds,Vw d) (l1:1<=ds.length) (l8:ds.length<=8):cg [.str (ay (av (pW nm n ds)))]=.ok (.tup [.str "put",.str nm,.int n,.tup ds]):=by
 rw [hV,cT];have er:=ET hn h1 h2 hd l1 l8;have hw:∀ w∈pW nm n ds,w.length<=100:=fun w hw=>by
  rcases List.mem_cons.mp hw with rfl|hw
  ·rw [IY];decide
  ·rcases List.mem_cons.mp hw with rfl|hw
   ·rw [fk];have:=hn.nm.l1;omega
   ·rcases List.mem_cons.mp hw with rfl|hw
    ·have:=nS h1 h2;omega
    ·obtain ⟨d,hdd,rfl⟩:=List.mem_map.mp hw;exact oV (hd d hdd)
 have hL:=lm _ hw;have hpl:(pW nm n ds).length<=11:=by simp;omega
 obtain ⟨ps,e1,_⟩:=yN (z:=ay (av (pW nm n ds))) (w:=wS (Str.ofString "put")) (r:=av (wS nm::dg n.natAbs::ds.map wl)) (au _) (by decide +kernel);have es:∃ ys:List D,iX (ay (av (pW nm n ds))) [.str (Str.ofString " ")]=.ok (.lst (.str (Str.ofString "put")::ys)):=by
  unfold iX;simp only;rw [z5,if_pos ⟨rfl,by rw [aY];omega⟩];generalize Txt.split (ay (av (pW nm n ds))) gU=qs at e1;cases qs with
  | nil=>simp at e1
  | cons a as =>
   simp only [List.map_cons,List.cons.injEq] at e1
   have:a=Str.ofString "put":=sM e1.1
   rw [this];exact ⟨_,rfl⟩
 obtain ⟨ys,es⟩:=es;generalize ay (av (pW nm n ds))=Z at es er;walk_at "ew";rw [es];walk_at "ew";simp only [p_t,if_false];walk_at "ew";rw [er];walk_at "ew"
def jn:List (List Nat)->List Nat
 | []=>[]
 | [w]=>w
 | w::v::r=>w++10::jn (v::r)
def sp:List Nat->List (List Nat)
 | []=>[[]]
 | x::r=>if x=10 then []::sp r else match sp r with
  | []=>[[x]]
  | w::ws=>(x::w)::ws
def IV:∀ (w r:List Nat),10∉w->sp (w++10::r)=w::sp r
 | [],r,_=>by simp [sp]
 | c::w,r,h=>by
  have hc:c≠10:=fun z=>h (by simp [z]);show sp (c::(w++10::r))=_;rw [sp,if_neg hc,IV w r fun z=>h (List.mem_cons_of_mem _ z)]
def Jb:∀ (w:List Nat),10∉w->sp w=[w]
 | [],_=>rfl
 | c::w,h=>by
  have hc:c≠10:=fun z=>h (by simp [z]);rw [sp,if_neg hc,Jb w fun z=>h (List.mem_cons_of_mem _ z)]
def FL:∀ (ws:List (List Nat)),ws≠[]->(∀ w∈ws,10∉w)->sp (jn ws)=ws
 | [],h,_=>absurd rfl h
 | [w],_,h=>Jb w (h w (by simp))
 | w::v::r,_,h=>by
  rw [jn,IV w _ (h w (by simp)),FL (v::r) (by simp) fun x hx=>h x (List.mem_cons_of_mem _ hx)]
abbrev nl:Str:=⟨#[10]⟩
def lnl:Str.ofString "\n"=nl:=by decide +kernel
def yz:∀ (ps:List Str),(Str.join nl ps).cps.toList=jn (ps.map wS)
 | []=>rfl
 | [p]=>rfl
 | p::q::r=>by
  have ih:=yz (q::r);show ((p++nl++Str.join nl (q::r)):Str).cps.toList=p.cps.toList++10::jn ((q::r).map wS);rw [<- ih];have e:∀ a b:Str,(a++b).cps.toList=a.cps.toList++b.cps.toList:=fun a b=>by
   show (a.cps++b.cps).toList=_;simp
  rw [e,e];simp
def FP (Ls:List (List Nat)) (h0:Ls≠[]) (hn:∀ w∈Ls,10∉w):Txt.split (ay (jn Ls)) nl=Ls.map ay:=by
 have h1:jn ((Txt.split (ay (jn Ls)) nl).map wS)=jn Ls:=by
  rw [<- yz,StrLaws.join_split];exact au _
 have h2:∀ w∈(Txt.split (ay (jn Ls)) nl).map wS,10∉w:=fun w hw=>by
  obtain ⟨p,hp,rfl⟩:=List.mem_map.mp hw;exact StrLaws.split_free _ 10 p hp
 have h3:(Txt.split (ay (jn Ls)) nl).map wS≠[]:=by simpa using uf (ay (jn Ls)) nl
 have h4:=FL _ h3 h2;rw [h1,FL Ls h0 hn] at h4;rw [<- wJ (Txt.split (ay (jn Ls)) nl),<- h4]
def E9 (Ls:List (List Nat)):List Nat:=(Ls.map (·++[10])).flatten
def DD:∀ (Ls:List (List Nat)),Ls≠[]->E9 Ls=jn Ls++[10]
 | [],h=>absurd rfl h
 | [w],_=>by simp [E9,jn]
 | w::v::r,_=>by
  have ih:=DD (v::r) (by simp);rw [jn];show (w++[10])++E9 (v::r)=_;rw [ih];simp
def w4 (b:Nat):∀ (Ls:List (List Nat)),(∀ w∈Ls,w.length<=b)->(E9 Ls).length<=(b+1)*Ls.length
 | [],_=>by simp [E9]
 | w::r,h=>by
  have h1:=h w (by simp);have h2:=w4 b r fun x hx=>h x (List.mem_cons_of_mem _ hx);have e:E9 (w::r)=(w++[10])++E9 r:=rfl;rw [e];simp only [List.length_append,List.length_cons,List.length_nil,Nat.mul_add,Nat.add_mul,Nat.mul_one,Nat.one_mul] at h2 ⊢;omega
def yV:∀ (ls:List (List Nat)),(ls.intersperse []).flatten=ls.flatten
 | []=>rfl
 | [w]=>rfl
 | w::v::r=>by
  have ih:=yV (v::r);simp only [List.intersperse,List.flatten_cons,List.nil_append] at ih ⊢;rw [ih]
theorem Q9:Str.ofString ""=ay []:=by decide +kernel
def D9 (zs:List (List Nat)):Txt.join (ay []) (zs.map ay)=ay zs.flatten:=by
 refine mk_eq ?_;rw [L2.lf,au,List.map_map,yV];congr 1
 conv=>rhs;rw [<- List.map_id zs]
 exact List.map_congr_left fun w _=>au w
def yw:∀ (zs:List (List Nat)),((zs.map ay).map (·.length)).sum=zs.flatten.length
 | []=>rfl
 | z::r=>by
  have ih:=yw r;simp only [List.map_cons,List.sum_cons,List.flatten_cons,List.length_append] at ih ⊢;rw [ih,aY]
def CY (Ls:List (List Nat)) (h:(E9 Ls).length<=1000000):eD (Str.ofString "") [.lst (Ls.map fun L=>D.str (ay (L++[10])))]=.ok (.str (ay (E9 Ls))):=by
 have e:(Ls.map fun L=>D.str (ay (L++[10])))=((Ls.map (·++[10])).map ay).map D.str:=by simp
 rw [e,Q9,ER (xj _) (by
  rw [yw,aY];show (E9 Ls).length+_*0<=_;omega),D9]
 rfl
def f9 (n:Nat):List Nat:=List.replicate (9 - (dg n).length) 48++dg n
def px {n:Nat} (h:n < 1000000000):(f9 n).length=9:=by
 have:=m5 8 n (by omega)
 unfold f9;simp;omega
def Am {n c:Nat} (h:c∈f9 n):48<=c/\c<=57:=by
 unfold f9 at h;rcases List.mem_append.mp h with z|z
 ·rw [(List.mem_replicate.mp z).2];decide
 ·exact iR z
def vy (L:List Nat):∀ (k:Nat),NumText.digitsVal (List.replicate k 48++L)=NumText.digitsVal L
 | 0=>rfl
 | k+1=>by
  rw [<- vy L k];unfold NumText.digitsVal;rw [List.replicate_succ,List.cons_append,List.foldl_cons]
def LP {n:Nat} (h:n < 1000000000):kB [.str (ay (f9 n))]=.ok (.int n):=by
 have hl:=px h;have e:intText? (ay (f9 n))=some (n:Int):=by
  rw [intText_digits (by rw [au];exact fun c hc=>Am hc) (by rw [au];intro z;rw [z] at hl;simp at hl) (by rw [aY,hl];decide),au];unfold f9;rw [vy,AW]
 unfold kB;simp only [e];rw [if_pos (by rw [aY,hl];decide)]
def zf9 {n:Nat} (h:n < 1000000000):NP (ay (dg n)) [.int 9]=.ok (.str (ay (f9 n))):=by
 have hl:=m5 8 n (by omega);unfold NP;simp only;rw [if_pos (by decide)];congr 2;unfold QX f9;split
 ·rename_i h9;rw [aY] at h9;rw [show 9 - (dg n).length=0 by omega];rfl
 ·rename_i h9;rw [aY] at h9 ⊢;refine mk_eq ?_;have ez:zfilled (ay (dg n)) ((9:Int).toNat - (dg n).length)=Builtin.Str.padded (ay (dg n)) ((9:Int).toNat - (dg n).length) 0 48:=by
   unfold zfilled;split
   ·rename_i e
    have:=iR (n:=n) (c:=43) (by
     have e':(ay (dg n)).cps.toList[0]?=some 43:=by rw [Array.getElem?_toList];exact e
     rw [au] at e';exact List.mem_of_getElem? e')
    omega
   ·rename_i e
    have:=iR (n:=n) (c:=45) (by
     have e':(ay (dg n)).cps.toList[0]?=some 45:=by rw [Array.getElem?_toList];exact e
     rw [au] at e';exact List.mem_of_getElem? e')
    omega
   ·rfl
  rw [ez];show (Builtin.Str.padded _ _ _ _).cps.toList=_;simp [Builtin.Str.padded,ay]
def B1 {n:Nat} (h:n < 1000000000):qC [.int n]=.ok (.str (ay (dg n))):=by
 unfold qC;simp only;rw [if_pos (by simp;omega),mk_eq (str_int n)];congr 2
def HU {d:D} (h:Vw d):∀ c∈wl d,32<=c/\c<=126:=by
 intro c hc;cases d with
 | non =>
  have hc:c∈[110,111,110,101]:=hc;simp at hc;omega
 | int i =>
  have hc:c∈fj i:=hc
  have:=tL hc
  omega
 | str z =>
  have hc:c∈34::(lv z.cps.toList++[34]):=hc;have hd:∀ (L:List Nat),c∈lv L->c=34\/c∈L:=by
   intro L;induction L with
   | nil=>intro q;cases q
   | cons a r ih =>
    intro q;rw [lv] at q;split at q
    ·simp at q;rcases q with q|q
     ·exact .inl q
     ·rcases ih q with z|z
      ·exact .inl z
      ·exact .inr (List.mem_cons_of_mem _ z)
    ·rcases List.mem_cons.mp q with z|z
     ·exact .inr (by rw [z];simp)
     ·rcases ih z with z|z
      ·exact .inl z
      ·exact .inr (List.mem_cons_of_mem _ z)
  simp only [List.mem_cons,List.mem_append,List.not_mem_nil,or_false] at hc;rcases hc with rfl|hc|rfl
  ·decide
  ·rcases hd _ hc with rfl|z
   ·decide
   ·exact xD c (h.2 c z)
  ·decide
 | _=>exact h.elim
def vM:∀ (ws:List (List Nat)) (c:Nat),c∈av ws->c=32\/∃ w∈ws,c∈w
 | [],c,h=>by cases h
 | [w],c,h=>.inr ⟨w,by simp,h⟩
 | w::w'::ws,c,h=>by
  have h:c∈w++32::av (w'::ws):=h;rcases List.mem_append.mp h with z|z
  ·exact .inr ⟨w,by simp,z⟩
  ·rcases List.mem_cons.mp z with z|z
   ·exact .inl z
   ·rcases vM (w'::ws) c z with z|⟨x,hx,z⟩
    ·exact .inl z
    ·exact .inr ⟨x,List.mem_cons_of_mem _ hx,z⟩
inductive Li:D->List Nat->Prop
 | table {nm:Str} {cs:List (Str×Str)} (hn:Gn nm) (hc:Cols cs):Li (Iz nm cs) (av ((tW nm cs).map wS))
 | index {nm cl:Str} (hn:Gn nm) (hc:Gn cl):Li (.tup [.str "index",.str nm,.str cl]) (av ((iW nm cl).map wS))
 | drop {nm:Str} {n:Int} (hn:Gn nm) (h1:1<=n) (h2:n<=1000000000):Li (.tup [.str "drop",.str nm,.int n]) (av ((dW nm n).map wS))
 | put {nm:Str} {n:Int} {ds:List D} (hn:Gn nm) (h1:1<=n) (h2:n<=1000000000) (hd:∀ d∈ds,Vw d) (l1:1<=ds.length) (l8:ds.length<=8):Li (.tup [.str "put",.str nm,.int n,.tup ds]) (av (pW nm n ds))
def Chg.li {d:D} (h:Chg d):∃ L,Li d L:=by
 cases h with
 | table hn hc=>exact ⟨_,.table hn hc⟩
 | index hn hc=>exact ⟨_,.index hn hc⟩
 | drop hn h1 h2=>exact ⟨_,.drop hn h1 h2⟩
 | put hn h1 h2 hd l1 l8=>exact ⟨_,.put hn h1 h2 hd l1 l8⟩
def Li.line {d:D} {L:List Nat} (h:Li d L):gr [d]=.ok (.str (ay L)):=by
 cases h with
 | table hn hc=>exact FH hn hc
 | index hn hc=>exact DB hn hc
 | drop hn h1 h2=>exact HN hn h1 h2
 | put hn h1 h2 hd l1 l8=>exact JN hn h1 h2 hd l1 l8
def GD {c:Nat} (h:low c=true):32<=c/\c<=126:=by
 unfold low at h;simp at h;omega
def Gn.sg {z:Str} (h:Gn z):∀ c∈wS z,32<=c/\c<=126:=fun c hc=>GD (h.nm.lw' c hc)
def Hu {k:Str} (h:k="number"\/k="text"):∀ c∈wS k,32<=c/\c<=126:=by rcases h with rfl|rfl <;> decide +kernel
theorem Gn.len {z:Str} (h:Gn z):(wS z).length<=8:=by rw [fk];exact h.nm.l1
def Li.words {d:D} {L:List Nat} (h:Li d L):∃ ws,L=av ws/\ws≠[]/\(∀ w∈ws,∀ c∈w,32<=c/\c<=126)/\L.length<=840:=by
 cases h with
 | table hn hc =>
  rename_i nm cs;have hw:∀ w∈(tW nm cs).map wS,w.length<=8/\∀ c∈w,32<=c/\c<=126:=fun w hw=>by
   obtain ⟨z,hz,rfl⟩:=List.mem_map.mp hw;rcases List.mem_cons.mp hz with rfl|hz
   ·decide +kernel
   ·rcases List.mem_cons.mp hz with rfl|hz
    ·exact ⟨hn.len,hn.sg⟩
    ·obtain ⟨c,hcc,e|e⟩:=tf hz
     ·rw [e];exact ⟨(hc.col c hcc).gn.len,(hc.col c hcc).gn.sg⟩
     ·rw [e];exact ⟨by rw [fk];have:=kind_len (hc.col c hcc).kd;omega,Hu (hc.col c hcc).kd⟩
  have hl:=lB 8 _ fun w h=>(hw w h).1;have h8:=hc.l1;refine ⟨_,rfl,by simp,fun w h=>(hw w h).2,?_⟩
  have:((tW nm cs).map wS).length<=18:=by rw [List.length_map];simp [nP];omega
  omega
 | index hn hc =>
  rename_i nm cl;have hw:∀ w∈(iW nm cl).map wS,w.length<=8/\∀ c∈w,32<=c/\c<=126:=fun w hw=>by
   obtain ⟨z,hz,rfl⟩:=List.mem_map.mp hw;simp only [List.mem_cons,List.not_mem_nil,or_false] at hz;rcases hz with rfl|rfl|rfl
   ·decide +kernel
   ·exact ⟨hn.len,hn.sg⟩
   ·exact ⟨hc.len,hc.sg⟩
  have hl:=lB 8 _ fun w h=>(hw w h).1;refine ⟨_,rfl,by simp,fun w h=>(hw w h).2,?_⟩
  have:((iW nm cl).map wS).length=3:=rfl
  omega
 | drop hn h1 h2 =>
  rename_i nm n;have hw:∀ w∈(dW nm n).map wS,w.length<=10/\∀ c∈w,32<=c/\c<=126:=fun w hw=>by
   obtain ⟨z,hz,rfl⟩:=List.mem_map.mp hw;simp only [List.mem_cons,List.not_mem_nil,or_false] at hz;rcases hz with rfl|rfl|rfl
   ·decide +kernel
   ·exact ⟨by have:=hn.len;omega,hn.sg⟩
   ·unfold wS;rw [au];exact ⟨nS h1 h2,fun c hc=>by have:=iR hc;omega⟩
  have hl:=lB 10 _ fun w h=>(hw w h).1;refine ⟨_,rfl,by simp,fun w h=>(hw w h).2,?_⟩
  have:((dW nm n).map wS).length=3:=rfl
  omega
 | put hn h1 h2 hd l1 l8 =>
  rename_i nm n ds;have hw:∀ w∈ds.map wl,w.length<=100/\∀ c∈w,32<=c/\c<=126:=fun w hw=>by
   obtain ⟨d,hdd,rfl⟩:=List.mem_map.mp hw;exact ⟨oV (hd d hdd),HU (hd d hdd)⟩
  have hl:=lB 100 _ fun w h=>(hw w h).1;rw [List.length_map] at hl;have h10:=nS h1 h2;have h8:=hn.len;refine ⟨_,rfl,by simp,fun w h=>?_,?_⟩
  ·rcases List.mem_cons.mp h with rfl|h
   ·decide +kernel
   ·rcases List.mem_cons.mp h with rfl|h
    ·exact hn.sg
    ·rcases List.mem_cons.mp h with rfl|h
     ·exact fun c hc=>by have:=iR hc;omega
     ·exact (hw w h).2
  ·show (av (wS (Str.ofString "put")::wS nm::dg n.natAbs::ds.map wl)).length<=840;rw [jV _ _ (by simp),jV _ _ (by simp),jV _ _ (wL l1)];have e3:(wS (Str.ofString "put")).length=3:=by decide +kernel
   simp only [List.length_append,List.length_cons,e3];omega
def Li.sg {d:D} {L:List Nat} (h:Li d L):L.length<=840/\∀ c∈L,32<=c/\c<=126:=by
 obtain ⟨ws,e,_,h2,h3⟩:=h.words;refine ⟨h3,fun c hc=>?_⟩;rw [e] at hc;rcases vM _ _ hc with rfl|⟨w,hw,hcw⟩
 ·decide
 ·exact h2 w hw c hcw
def Lo (z:Str):Prop:=∀ c∈z.cps.toList,c < 200
theorem Lo.ok {z:Str} (h:Lo z):PyData.strOk z=true:=by
 show z.cps.all (· < 0x110000)=true;rw [<- Array.all_toList,List.all_eq_true];intro c hc
 have:=h c hc
 simp;omega
def Py (k:Nat) (d:D):Prop:=∃ p,oG d=some p/\p.canLay0=true/\p.depth<=k
def Py.list {k:Nat}:∀ {ds:List D},(∀ d∈ds,Py k d)->∃ ps,nO ds=some ps/\PyData.canLayAll0 ps=true/\PyData.depthAll ps<=k/\ps.length=ds.length
 | [],_=>⟨[],rfl,rfl,Nat.zero_le _,rfl⟩
 | d::r,h=>by
  obtain ⟨p,h1,h2,h3⟩:=h d (by simp);obtain ⟨ps,e1,e2,e3,e4⟩:=Py.list fun x hx=>h x (List.mem_cons_of_mem _ hx);refine ⟨p::ps,?_,?_,?_,by simp [e4]⟩
  ·rw [nO,h1,e1];rfl
  ·rw [PyData.canLayAll0,h2,e2];rfl
  ·rw [PyData.depthAll];exact Nat.max_le.mpr ⟨h3,e3⟩
def Py.tup {k:Nat} {ds:List D} (h:∀ d∈ds,Py k d):Py (k+1) (.tup ds):=by
 obtain ⟨ps,e1,e2,e3,e4⟩:=Py.list h;exact ⟨.tuple ps,by rw [oG,e1];rfl,e2,by rw [PyData.depth];omega⟩
def Py.lst {k:Nat} {ds:List D} (h:∀ d∈ds,Py k d):Py (k+1) (.lst ds):=by
 obtain ⟨ps,e1,e2,e3,e4⟩:=Py.list h;exact ⟨.list ps,by rw [oG,e1];rfl,e2,by rw [PyData.depth];omega⟩
def Py.mono {k l:Nat} {d:D} (h:Py k d) (hk:k<=l):Py l d:=let ⟨p,a,b,c⟩:=h;⟨p,a,b,Nat.le_trans c hk⟩
def Py.str {z:Str} (h:Lo z):Py 0 (.str z):=⟨.str z,rfl,h.ok,Nat.le_refl _⟩
def Py.non:Py 0 .non:=⟨.none,rfl,rfl,Nat.le_refl _⟩
def Py.int (i:Int):Py 0 (.int i):=⟨.int i,rfl,rfl,Nat.le_refl _⟩
def vJ {k:Nat} {p:PyData} (h1:p.canLay0=true) (h2:p.depth<=k) (hk:k<=64):SeqAt.shaped p=true:=by
 unfold SeqAt.shaped;rw [h1,decide_eq_true (by omega)];rfl
def Cl {k:Nat} {ds:List D} (h:∀ d∈ds,Py k d) (hk:k<=60):mR (.lst ds) (.lst ds)=some true:=by
 obtain ⟨ps,e1,e2,e3,e4⟩:=Py.list h;have et:oG (.lst ds)=some (.list ps):=by rw [oG,e1];rfl
 have hs:SeqAt.shaped (.list ps)=true:=vJ (k:=k+1) e2 (by rw [PyData.depth];omega) (by omega);unfold mR;rw [et];simp only;rw [if_pos ⟨hs,hs⟩];congr 1;exact SeqAt.eqv_refl _ e2
def Ke {c:Nat} (h:low c=true):c < 200:=by
 unfold low at h;simp at h;omega
def Gn.lo {z:Str} (h:Gn z):Lo z:=fun c hc=>Ke (h.nm.lw' c hc)
def Vw.py {d:D} (h:Vw d):Py 0 d:=by
 cases d with
 | non=>exact Py.non
 | int i=>exact Py.int i
 | str z=>exact Py.str fun c hc=>by have:=xD c (h.2 c hc);omega
 | _=>exact h.elim
def HY {k:Str} (h:k="number"\/k="text"):Lo k:=by rcases h with rfl|rfl <;> (unfold Lo;decide +kernel)
def Col.py {c:Str×Str} (h:Col c):Py 1 (bJ c):=Py.tup fun d hd=>by
 simp only [List.mem_cons,List.not_mem_nil,or_false] at hd;rcases hd with rfl|rfl
 ·exact Py.str h.gn.lo
 ·exact Py.str (HY h.kd)
def El {k:Nat} {ds:List D} (h:∀ d∈ds,Py k d) (hk:k<=60):pY (.lst ds) (.lst ds)=.ok (.bl false):=by
 have eo:sU (.lst ds) (.lst ds)=mR (.lst ds) (.lst ds):=rfl;unfold pY;rw [eo,Cl h hk];rfl
def Li.ct {d:D} {L:List Nat} (h:Li d L):bR [d]=.ok (.str (ay L)):=by
 cases h with
 | table hn hc=>exact Ec hn hc
 | index hn hc=>exact Dl hn hc
 | drop hn h1 h2=>exact Hz hn h1 h2
 | put hn h1 h2 hd l1 l8=>exact J9 hn h1 h2 hd l1 l8
def Li.rc {d:D} {L:List Nat} (h:Li d L):cg [.str (ay L)]=.ok d:=by
 cases h with
 | table hn hc=>exact DF hn hc
 | index hn hc=>exact DJ hn hc
 | drop hn h1 h2=>exact GW hn h1 h2
 | put hn h1 h2 hd l1 l8=>exact K1 hn h1 h2 hd l1 l8
def Li.no {d:D} {L:List Nat} (h:Li d L):10∉L:=fun z=>by have:=h.sg.2 10 z;omega
def Li.py {d:D} {L:List Nat} (h:Li d L):Py 4 d:=by
 cases h with
 | table hn hc =>
  exact Py.tup fun d hd=>by
   simp only [List.mem_cons,List.not_mem_nil,or_false] at hd;rcases hd with rfl|rfl
   ·exact (Py.str (by unfold Lo;decide +kernel)).mono (by decide)
   ·exact Py.tup fun d hd=>by
     simp only [List.mem_cons,List.not_mem_nil,or_false] at hd;rcases hd with rfl|rfl
     ·exact (Py.str hn.lo).mono (by decide)
     ·exact Py.tup fun d hd=>by
       obtain ⟨c,hcc,rfl⟩:=List.mem_map.mp hd;exact (hc.col c hcc).py
 | index hn hc =>
  exact (Py.tup (k:=0) fun d hd=>by
   simp only [List.mem_cons,List.not_mem_nil,or_false] at hd;rcases hd with rfl|rfl|rfl
   ·exact Py.str (by unfold Lo;decide +kernel)
   ·exact Py.str hn.lo
   ·exact Py.str hc.lo).mono (by decide)
 | drop hn h1 h2 =>
  exact (Py.tup (k:=0) fun d hd=>by
   simp only [List.mem_cons,List.not_mem_nil,or_false] at hd;rcases hd with rfl|rfl|rfl
   ·exact Py.str (by unfold Lo;decide +kernel)
   ·exact Py.str hn.lo
   ·exact Py.int _).mono (by decide)
 | put hn h1 h2 hd l1 l8 =>
  exact (Py.tup (k:=1) fun d hdd=>by
   simp only [List.mem_cons,List.not_mem_nil,or_false] at hdd;rcases hdd with rfl|rfl|rfl|rfl
   ·exact (Py.str (by unfold Lo;decide +kernel)).mono (by decide)
   ·exact (Py.str hn.lo).mono (by decide)
   ·exact (Py.int _).mono (by decide)
   ·exact Py.tup fun d h=>(hd d h).py).mono (by decide)
def AV:∀ (ds:List D),(∀ d∈ds,wk d=d)->FN ds=ds
 | [],_=>by rw [FN]
 | d::r,h=>by rw [FN,h d (by simp),AV r fun x hx=>h x (List.mem_cons_of_mem _ hx)]
def nu {ds:List D} (h:∀ d∈ds,wk d=d):wk (.tup ds)=.tup ds:=by rw [wk,AV ds h]
def nw (z:Str):wk (.str z)=.str z:=by rw [wk] <;> (intros;first|rfl|contradiction|simp_all)
def w6 (i:Int):wk (.int i)=.int i:=by rw [wk] <;> (intros;first|rfl|contradiction|simp_all)
def LH:wk .non=.non:=by rw [wk] <;> (intros;first|rfl|contradiction|simp_all)
def Vw.wk {d:D} (h:Vw d):L2.wk d=d:=by
 cases d with
 | non=>exact LH
 | int i=>exact w6 i
 | str z=>exact nw z
 | _=>exact h.elim
def Li.wk {d:D} {L:List Nat} (h:Li d L):L2.wk d=d:=by
 cases h with
 | table hn hc =>
  refine nu fun d hd=>?_;simp only [List.mem_cons,List.not_mem_nil,or_false] at hd;rcases hd with rfl|rfl
  ·exact nw _
  ·refine nu fun d hd=>?_;simp only [List.mem_cons,List.not_mem_nil,or_false] at hd;rcases hd with rfl|rfl
   ·exact nw _
   ·refine nu fun d hd=>?_;obtain ⟨c,hcc,rfl⟩:=List.mem_map.mp hd;refine nu fun d hd=>?_;simp only [List.mem_cons,List.not_mem_nil,or_false] at hd;rcases hd with rfl|rfl <;> exact nw _
 | index hn hc =>
  refine nu fun d hd=>?_;simp only [List.mem_cons,List.not_mem_nil,or_false] at hd;rcases hd with rfl|rfl|rfl <;> exact nw _
 | drop hn h1 h2 =>
  refine nu fun d hd=>?_;simp only [List.mem_cons,List.not_mem_nil,or_false] at hd;rcases hd with rfl|rfl|rfl <;> first|exact nw _|exact w6 _
 | put hn h1 h2 hd l1 l8 =>
  refine nu fun d hdd=>?_;simp only [List.mem_cons,List.not_mem_nil,or_false] at hdd;rcases hdd with rfl|rfl|rfl|rfl
  ·exact nw _
  ·exact nw _
  ·exact w6 _
  ·exact nu fun d h=>(hd d h).wk
def AY {τ:FT} {S T:FS} {δ:Sd} (h:τ δ=.ok true):cN τ S T δ=S δ:=by rw [sF,h,ah,um,if_pos rfl]
def NS {τ:FT} {S T:FS} {δ:Sd} (h:τ δ=.ok false):cN τ S T δ=T δ:=by rw [sF,h,ah,um,if_neg Bool.false_ne_true]
def bF {S T:FS} {δ δ':Sd} (h:S δ=.ok (.nx δ')):aw S T δ=T δ':=by rw [bi,h,ah,aS]
def Jy {S T:FS} {δ:Sd} {d:D} (h:S δ=.ok (.rt d)):aw S T δ=.ok (.rt d):=by rw [bi,h];rfl
def jZ {φ:FE} {δ:Sd} {d:D} (h:φ δ=.ok d):a7 φ δ=.ok (.rt d):=by rw [r6,h];rfl
def G6 {φ:FE} {δ:Sd} {d:D} (h:φ δ=.ok d):Bv φ δ=.ok (.rn d):=by rw [Ku,h];rfl
def dw {k:Nat} {φ:FE} {δ:Sd} {d:D} (h:φ δ=.ok d):aI k φ δ=.ok (.nx (δ.set k (some d))):=by rw [BV,h];rfl
def wo {k:Nat} {φ:FE} {δ:Sd} {d:D} (h:φ δ=.ok d) (hk:k < δ.length:=by simp):m3 k φ δ=.ok (.nx (δ.set k (some d))):=by rw [IM,h,ah,Jj,if_pos hk]
def jC {r:R Fl} {d:D} (h:r=.ok (.rt d)):fin r=.ok d:=by rw [h];rfl
def G5 {r:R Fl} {d:D} (h:r=.ok (.rn d)):Ph r=.ok d:=by rw [h];rfl
def skip {τ:FT} {S T:FS} {δ:Sd} (h:τ δ=.ok false):aw (cN τ S aF) T δ=T δ:=bF ((NS h).trans rfl)
def ac {φ:FE} {α:FA} {δ:Sd} {d:D} {ds:List D} (h:φ δ=.ok d) (h2:α δ=.ok ds):aa φ α δ=.ok (d::ds):=by unfold aa;rw [h,ah,h2];rfl
def xg {α:FA} {δ:Sd} {ds:List D} (h:α δ=.ok ds) (hl:ds.length<=100:=by simp):gI α δ=.ok (.tup ds):=by rw [Ih,h,ah,Dz,if_pos (by lia)]
def lR {α:FA} {δ:Sd} {ds:List D} (h:α δ=.ok ds) (hl:ds.length<=100:=by simp):ee α δ=.ok (.lst ds):=by rw [IK,h,ah,Et,if_pos (by lia)]
def bE {f:D->D->R D} {φ ψ:FE} {δ:Sd} {a b c:D} (h1:φ δ=.ok a) (h2:ψ δ=.ok b) (h:f a b=.ok c):ap f φ ψ δ=.ok c:=by rw [l6,h1,ah,kM,h2,ah,h]
def ge {φ:FE} {δ:Sd} {b:Bool} (h:φ δ=.ok (.bl b)):b5 φ δ=.ok b:=by rw [zS,h];rfl
def ba {F:List D->R D} {α:FA} {δ:Sd} {ds:List D} {r:R D} (h:α δ=.ok ds) (hf:F ds=r):aj F α δ=r:=by rw [rl,h,ah,hf]
def Gd {i:Nat} {B:FS} {x:D} {r:List D} {δ δ':Sd} (h:B (δ.set i (some x))=.ok (.nx δ')):gJ (.one i) B (x::r) δ=gJ (.one i) B r δ':=by
 rw [jG];have e:gK (.one i) x δ=.ok (δ.set i (some x)):=rfl;rw [e,ah,Eb,h,ah,kw]
def Lk {ι:FA} {g:TgD} {B:FS} {δ δ':Sd} {xs:List D} (h:ι δ=.ok xs) (hf:gJ g B xs δ=.ok (.nx δ')):uq ι g B δ=.ok (.nx δ'):=by rw [ui,h,ah,uB,hf]
def KO {τ:FT} {B:FS} {n:Nat} {δ δ':Sd} (h:τ δ=.ok true) (hb:B δ=.ok (.nx δ')):gl τ B (n+1) δ=gl τ B n δ':=by
 rw [gl,h,ah,if_pos rfl,hb];rfl
def OE {τ:FT} {B:FS} {n:Nat} {δ:Sd} (h:τ δ=.ok false):gl τ B (n+1) δ=.ok (.nx δ):=by
 rw [gl,h,ah,if_neg Bool.false_ne_true]
def mf {φ:FE} {δ:Sd} {d:D} {b:Bool} (h:φ δ=.ok d) (ht:G1 d=.ok b):cq φ δ=.ok b:=by rw [Bi,h,ah,ht]
def KG {τ:FT} {δ:Sd} {b:Bool} (h:τ δ=.ok b):dh τ δ=.ok (!b):=by rw [BF,h];rfl
def qh {τ:FT} {δ:Sd} (h:τ δ=.ok true):dh τ δ=.ok false:=KG h
def FD {τ υ:FT} {δ:Sd} {b:Bool} (h:τ δ=.ok false) (h2:υ δ=.ok b):rP τ υ δ=.ok b:=by rw [EU,h,ah,yP,if_neg Bool.false_ne_true,h2]
def IX {τ υ:FT} {δ:Sd} {b:Bool} (h:τ δ=.ok true) (h2:υ δ=.ok b):qu τ υ δ=.ok b:=by rw [EO,h,ah,FB,if_pos rfl,h2]
def Nn {τ υ:FT} {δ:Sd} (h:τ δ=.ok false):qu τ υ δ=.ok false:=by rw [EO,h];rfl
def LL {φ ψ:FE} {δ:Sd} {d:D} (h:φ δ=.ok (.bl true)) (h2:ψ δ=.ok d):mI φ ψ δ=.ok d:=by rw [v_and,h,ah,Jq,if_pos rfl,h2]
def HQ {φ:FE} {δ:Sd} {b:Bool} (h:φ δ=.ok (.bl b)):zm φ δ=.ok (.bl (!b)):=by rw [v_not,h];rfl
def xC {i:Nat} {ε:FE} {δ:Sd} {xs:List D} {d:D} (h:δ[i]?=some (some (.lst xs))) (he:ε δ=.ok d) (hl:xs.length < 1000):bG i ε δ=.ok (.nx (δ.set i (some (.lst (xs++[d]))))):=by
 unfold bG;rw [h];dsimp only;rw [he,ah,if_pos (by lia)]
def oO {φ:FE} {l u:Sd->R (Option Int)} {δ:Sd} {a d:D} {lo hi:Option Int} (h:φ δ=.ok a) (h1:l δ=.ok lo) (h2:u δ=.ok hi) (hd:fJ a lo hi=.ok d):mN fJ φ l u δ=.ok d:=by
 rw [Pw,h,ah,Je,h1,ah,IW,h2,ah,Iw,hd]
def dF {φ:FE} {δ:Sd} {i:Int} (h:φ δ=.ok (.int i)):bx φ δ=.ok (some i):=by rw [DQ,h];rfl
def kR {φ:FE} {δ:Sd} {d:D} {xs:List D} (h:φ δ=.ok d) (hx:jQ d=.ok xs):b8 φ δ=.ok xs:=by rw [FM,h,ah,hx]
def Kq {φ:FE} {δ:Sd} {n:Nat} (h:φ δ=.ok (.int (n:Int))) (hn:n<=1000000):iT (aa φ ak) δ=.ok (fL 0 n):=by
 rw [Dg,ac h rfl,ah,Bl (by lia),Int.toNat_natCast]
def dG {ix:List (Option Nat)} {ι:FA} {t:TgD} {τ:FT} {ε:FE} {δ:Sd} {xs:List D} {d:D} (h:ι δ=.ok xs) (hc:bz t τ ε (bL ix δ) xs=.ok d):bn ix ι t τ ε δ=.ok d:=by rw [wj,h,ah,hc]
def tK {β:Type} {ε:FE} {rest:Sd} (u f:β->D) (xs:List β) (h:∀ x∈xs,ε (some (u x)::rest)=.ok (f x)) (hl:xs.length<=1000):bz (.one 0) cc ε (none::rest) (xs.map u)=.ok (.lst (xs.map f)) :=
 cS u f rfl (by lia) h
def w9 {β:Type} {τ:FT} {ε:FE} {rest:Sd} (u f:β->D) (p:β->Bool) (xs:List β) (h:∀ x∈xs,τ (some (u x)::rest)=.ok (p x)) (h2:∀ x∈xs,p x=true->ε (some (u x)::rest)=.ok (f x)) (hl:xs.length<=1000):bz (.one 0) τ ε (none::rest) (xs.map u)=.ok (.lst ((xs.filter p).map f)):=by
 refine wc rfl (by rw [List.length_map];lia) ?_;clear hl;induction xs with
 | nil=>rfl
 | cons x r ih =>
  have h1:=h x (by simp);have h3:=h2 x (by simp);have h4:=ih (fun y hy=>h y (List.mem_cons_of_mem _ hy)) fun y hy=>h2 y (List.mem_cons_of_mem _ hy);show (τ (some (u x)::rest)).bind _=_;rw [h1,ah];cases e:p x with
  | true =>
   rw [if_pos rfl,List.filter_cons_of_pos e];show (ε (some (u x)::rest)).bind _=_;rw [h3 e,ah,h4];rfl
  | false=>rw [if_neg Bool.false_ne_true,List.filter_cons_of_neg (by rw [e];exact Bool.false_ne_true)];exact h4
def gW {φ:FE} {δ:Sd} {a d:D} (h:φ δ=.ok a) (hl:bt [a]=.ok d):aj bt (aa φ ak) δ=.ok d:=ba (ac h rfl) hl
def Rc {β:Type} (f:β->D) (xs:List β) {i:Nat} {x:β} (h:xs[i]?=some x):bj (.lst (xs.map f)) (.int (i:Int))=.ok (f x):=sC (bX (by rw [List.getElem?_map,h];rfl))
def IS {β:Type} (f:β->D) (xs:List β):bt [.lst (xs.map f)]=.ok (.int (xs.length:Int)):=by rw [BX,List.length_map]
def Fn {φ ψ:FE} {δ:Sd} {i j:Int} (h1:φ δ=.ok (.int i)) (h2:ψ δ=.ok (.int j)) (h:-(2 ^ 64) < j/\j < 2 ^ 64:=by decide):ap fH φ ψ δ=.ok (.int (i*j)):=bE h1 h2 (mul_r h)
def kW {φ ψ:FE} {δ:Sd} {i j:Int} (h1:φ δ=.ok (.int i)) (h2:ψ δ=.ok (.int j)) (h:0 < j:=by decide):ap bv φ ψ δ=.ok (.int (i % j)):=bE h1 h2 (Ea h)
def rm {φ ψ:FE} {δ:Sd} {i j:Int} (h1:φ δ=.ok (.int i)) (h2:ψ δ=.ok (.int j)) (h:0 < j/\j < 1073741824:=by decide):ap cA φ ψ δ=.ok (.int (i/j)):=bE h1 h2 (Jf h)
def jP {φ ψ:FE} {δ:Sd} {i j:Int} (h1:φ δ=.ok (.int i)) (h2:ψ δ=.ok (.int j)):ap aR φ ψ δ=.ok (.int (i+j)):=bE h1 h2 rfl
def xh {φ ψ:FE} {δ:Sd} {i j:Int} (h1:φ δ=.ok (.int i)) (h2:ψ δ=.ok (.int j)):ap jN φ ψ δ=.ok (.int (i - j)):=bE h1 h2 rfl
def An {φ ψ:FE} {δ:Sd} {i j:Int} (h1:φ δ=.ok (.int i)) (h2:ψ δ=.ok (.int j)):b5 (ap eU φ ψ) δ=.ok (decide (i=j)):=ge (bE h1 h2 Ir)
def Mq {τ:FT} {φ ψ:FE} {δ:Sd} {d:D} (h:τ δ=.ok true) (h2:φ δ=.ok d):Jr τ φ ψ δ=.ok d:=by rw [Fe,h,ah,EF,if_pos rfl,h2]
def Qj {τ:FT} {φ ψ:FE} {δ:Sd} {d:D} (h:τ δ=.ok false) (h2:ψ δ=.ok d):Jr τ φ ψ δ=.ok d:=by rw [Fe,h,ah,EF,if_neg Bool.false_ne_true,h2]
def vt {φ:FE} {δ:Sd} {d:D} {C:String} {b:Bool} (h:φ δ=.ok d) (hd:fG [d,.ty C]=.ok (.bl b)):aj fG (aa φ (aa (vC (.ty C)) ak)) δ=.ok (.bl b):=ba (ac h (ac rfl rfl)) hd
def Gq {T C:String} {b:Bool} (h:eY C=true/\bV T C=b):(if eY C=true then R.ok (D.bl (bV T C)) else .no)=.ok (.bl b):=by rw [if_pos h.1,h.2]
def BC {f:Str->List D->R D} {φ:FE} {α:FA} {δ:Sd} {z:Str} {ds:List D} {r:R D} (h:φ δ=.ok (.str z)) (h2:α δ=.ok ds) (hf:f z ds=r):oH f φ α δ=r:=by rw [Ju,h,ah,LM,h2,ah,hf]
def Au (W:List Nat) (a b:Nat) (hW:W.length<=1000000):fJ (.str (ay W)) (some (a:Int)) (some (b:Int))=.ok (.str (ay ((W.drop a).take (b - a)))):=by
 unfold fJ;simp only;rw [aY,if_pos hW];congr 2;unfold du;refine mk_eq ?_;rw [au,aY,HT.dJ,HT.dJ];by_cases h:a<=W.length
 ·rw [Nat.min_eq_left h];by_cases h2:b<=W.length
  ·rw [Nat.min_eq_left h2]
  ·rw [Nat.min_eq_right (by omega),List.take_of_length_le (by simp),List.take_of_length_le (by simp;omega)]
 ·have e1:min a W.length=W.length:=by omega
  rw [e1,List.drop_eq_nil_iff.mpr (Nat.le_refl W.length),List.drop_eq_nil_iff.mpr (show W.length<=a by omega)];simp
def Fw (W:List Nat) (b:Nat) (hW:W.length<=1000000):fJ (.str (ay W)) none (some (b:Int))=.ok (.str (ay (W.take b))):=by
 unfold fJ;simp only;rw [aY,if_pos hW];congr 2;unfold du;refine mk_eq ?_;rw [au,aY,HT.dJ];show (W.drop 0).take (min b W.length - 0)=_;rw [List.drop_zero,Nat.sub_zero];by_cases h2:b<=W.length
 ·rw [Nat.min_eq_left h2]
 ·rw [Nat.min_eq_right (by omega),List.take_of_length_le (by simp),List.take_of_length_le (by omega)]
def K7 (W:List Nat) (a:Nat) (hW:W.length<=1000000):fJ (.str (ay W)) (some (a:Int)) none=.ok (.str (ay (W.drop a))):=by
 unfold fJ;simp only;rw [aY,if_pos hW];congr 2;unfold du;refine mk_eq ?_;rw [au,aY,HT.dJ];show (W.drop (min a W.length)).take (W.length - min a W.length)=_;rw [List.take_of_length_le (by simp)];by_cases h2:a<=W.length
 ·rw [Nat.min_eq_left h2]
 ·rw [Nat.min_eq_right (by omega),List.drop_eq_nil_iff.mpr (Nat.le_refl _),List.drop_eq_nil_iff.mpr (by omega)]
def Kl (W:List Nat) (x:Nat) (hW:W.length < 1000000):fJ (.str (ay (W++[x]))) none (some (-1))=.ok (.str (ay W)):=by
 unfold fJ;simp only;rw [aY,if_pos (by simp;omega)];congr 2;unfold du;refine mk_eq ?_;rw [au,aY];have e:HT.sIx (W++[x]).length (W++[x]).length (some (-1))=W.length:=by
  show (if (-1:Int) < 0 then (-1+((W++[x]).length:Int)).toNat else min (-1:Int).toNat (W++[x]).length)=_;rw [if_pos (by decide)];simp;omega
 rw [e];show ((W++[x]).drop 0).take (W.length - 0)=_;simp
def kU (W:List Nat) (hW:W.length<=1000000):bt [.str (ay W)]=.ok (.int (W.length:Int)):=by rw [sk,aY,if_pos hW]
abbrev Cs:=List (D×List Nat)
def Ok (cs:Cs):Prop:=cs≠[]/\cs.length<=500/\∀ p∈cs,Li p.1 p.2
def kc (cs:Cs):List Nat:=E9 (cs.map (·.2))
def kC (cs:Cs):List Nat:=f9 (kc cs).length++10::(kc cs++[101,110,100,10])
theorem Ok.len {cs:Cs} (h:Ok cs):(kc cs).length<=500000:=by
 have:=w4 840 (cs.map (·.2)) fun w hw=>by
  obtain ⟨p,hp,rfl⟩:=List.mem_map.mp hw;exact (h.2.2 p hp).sg.1
 rw [List.length_map] at this;have h2:=h.2.1
 have:(kc cs).length<=841*cs.length:=this
 omega
def E7:Str.ofString "end\n"=ay [101,110,100,10]:=by decide +kernel
theorem Dp:Str.ofString "\n"=ay [10]:=by decide +kernel
def B2 (F:List D->R D) {cs:Cs} (h:Ok cs) (hF:∀ p∈cs,F [p.1]=.ok (.str (ay p.2))) (o:List (Option D)):oH eD (vC (.str (Str.ofString ""))) (aa (bn [none] (b8 (ae 0)) (.one 0) cc (ap aR (aj F (aa (ae 0) ak)) (vC (.str (Str.ofString "\n"))))) ak) (some (.lst (cs.map (·.1)))::o)=.ok (.str (ay (kc cs))):=by
 have hl:=h.len;refine BC rfl (ac (dG (kR rfl rfl) (tK (β:=D×List Nat) (rest:=[]) (·.1) (fun p=>D.str (ay (p.2++[10]))) cs (fun p hp=>?_) (by have:=h.2.1;omega))) rfl) ?_
 ·have:=(h.2.2 p hp).sg.1
  exact bE (ba (ac rfl rfl) (hF p hp)) rfl (by rw [Dp,nq _ _ (by simp;omega)])
 ·have:=CY (cs.map (·.2)) (by show (kc cs).length<=_;omega)
  rw [List.map_map] at this;exact this
def Nb (A B C E:List Nat) (h:A.length+B.length+C.length+E.length<=1000000) {φ ψ χ ω:FE} {δ:Sd} (h1:φ δ=.ok (.str (ay A))) (h2:ψ δ=.ok (.str (ay B))) (h3:χ δ=.ok (.str (ay C))) (h4:ω δ=.ok (.str (ay E))):ap aR (ap aR (ap aR φ ψ) χ) ω δ=.ok (.str (ay (A++B++C++E))) :=
 bE (bE (bE h1 h2 (nq _ _ (by omega))) h3 (nq _ _ (by simp;omega))) h4 (nq _ _ (by simp;omega))
def rec_eq (cs:Cs):f9 (kc cs).length++[10]++kc cs++[101,110,100,10]=kC cs:=by unfold kC;simp
def LV {cs:Cs} (h:Ok cs):ni [.lst (cs.map (·.1))]=.ok (.str (ay (kC cs))):=by
 rw [Ff,qg];have hl:=h.len;have h9:=px (n:=(kc cs).length) (by omega);refine jC ((bF (dw (B2 bR h (fun p hp=>(h.2.2 p hp).ct) _))).trans (jZ ?_));rw [<- rec_eq];exact Nb _ _ _ _ (by simp [h9];omega) (BC (ba (ac (gW rfl (kU _ (by omega))) rfl) (B1 (by omega))) (ac rfl rfl) (zf9 (by omega))) (by rw [<- Dp];rfl) rfl (by rw [<- E7];rfl)
def MW (k:Nat) (h:k<=9):Txt.mul (Str.ofString "0") (k:Int)=ay (List.replicate k 48):=by
 rcases k with _|_|_|_|_|_|_|_|_|_|k <;> first|(decide +kernel)|omega
def DL {cs:Cs} (h:Ok cs):j0 [.lst (cs.map (·.1))]=.ok (.str (ay (kC cs))):=by
 rw [zX,ma];have hl:=h.len;have h9:=px (n:=(kc cs).length) (by omega);have hd:=m5 8 (kc cs).length (by omega);refine jC ((bF (dw (B2 gr h (fun p hp=>(h.2.2 p hp).line) _))).trans ((bF (dw (ba (ac (gW rfl (kU _ (by omega))) rfl) (B1 (by omega))))).trans (jZ ?_)));rw [<- rec_eq];refine Nb _ _ _ _ (by simp [h9];omega) (bE (bE rfl (xh rfl (gW rfl (kU _ (by omega)))) (c:=.str (ay (List.replicate (9 - (dg (kc cs).length).length) 48))) ?_) rfl (nq _ _ (by simp;omega))) (by rw [<- Dp];rfl) rfl (by rw [<- E7];rfl);have e:(9 - ((dg (kc cs).length).length:Int))=((9 - (dg (kc cs).length).length:Nat):Int):=by omega
 rw [e,Jk,if_pos ⟨by decide +kernel,by omega,by omega⟩,MW _ (by omega)]
def D7 (L:List Nat) (h:∀ c∈L,48<=c/\c<=57) (hl:L.length<=900) {i:Nat} {δ:Sd} (hδ:ae i δ=.ok (.str (ay L))):aj nF (aa (bn [none] (b8 (ae i)) (.one 0) cc (ap uO (ae 0) (vC bZ))) ak) δ=.ok (.bl true):=by
 have e:bz (.one 0) cc (ap uO (ae 0) (vC bZ)) (bL [none] δ) (lU (ay L))=.ok (.lst (L.map fun c=>D.bl true)):=by
  have e0:lU (ay L)=L.map fun c=>D.str ⟨#[c]⟩:=by
   show ((ay L).cps.toList.map fun c=>D.str ⟨#[c]⟩)=_;rw [au]
  rw [e0];exact cS _ _ rfl (by omega) fun c hc=>DT c (h c hc)
 refine ba (ac (dG (kR hδ rfl) e) rfl) ?_;rw [x8 (oe _ _)];simp
def RQ (z:Str) (h:z=ay []\/z=ay [10]):rg (.str z) (.tup [.str (Str.ofString ""),.str (Str.ofString "\n")])=.ok (.bl false):=by
 have e:rg (.str z) (.tup [.str (Str.ofString ""),.str (Str.ofString "\n")])=.ok (.bl (!Da (.str z) ([Str.ofString "",Str.ofString "\n"].map V.str))):=rfl;rw [e,t8,decide_eq_true (by rcases h with rfl|rfl <;> simp [Q9,Dp])];rfl
def Bp {T:List Nat} {s:Nat} (hT:T.length<=1000000) (hf:∀ c∈((T.drop s).take 10).take 9,48<=c/\c<=57) (ht:((T.drop s).take 10).drop 9=[]\/((T.drop s).take 10).drop 9=[10]) :
  b9 [.str (ay T),.int s]=fin ((aw (cN (b5 (ap CU (aj bt (aa (ae 2) ak)) (vC cJ))) (a7 (vC .non)) aF) (aw (aI 4 (ap aR (ap aR (ap aR (ae 1) (vC cJ)) (aj kB (aa (ae 3) ak))) (aj bt (aa (vC bH) ak)))) (a7 (Jr (b5 (ap Cz (ae 4) (aj bt (aa (ae 0) ak)))) (ae 4) (vC .non)))))
   [some (.str (ay T)),some (.int s),some (.str (ay ((T.drop s).take 10))),some (.str (ay (((T.drop s).take 10).take 9))),none]):=by
 rw [wY,jk];have h10:((T.drop s).take 10).length<=1000000:=by simp;omega
 have e1:fJ (.str (ay T)) (some (s:Int)) (some ((s:Int)+10))=.ok (.str (ay ((T.drop s).take 10))):=by
  have:=Au T s (s+10) hT
  rw [Nat.add_sub_cancel_left] at this;exact this
 have e2:fJ (.str (ay ((T.drop s).take 10))) none (some 9)=.ok (.str (ay (((T.drop s).take 10).take 9))):=Fw _ 9 h10;have e3:fJ (.str (ay ((T.drop s).take 10))) (some 9) none=.ok (.str (ay (((T.drop s).take 10).drop 9))):=K7 _ 9 h10;refine congrArg fin ((bF (dw (oO rfl (dF rfl) (dF (jP rfl rfl)) e1))).trans ((bF (dw (oO rfl rfl (dF rfl) e2))).trans (skip (FD (qh (mf (D7 _ hf (by simp;omega) rfl) rfl)) (ge (bE (oO rfl (dF rfl) rfl e3) (xg (ac rfl (ac rfl rfl))) (RQ _ ?_)))))));rcases ht with h|h
 ·exact .inl (by rw [h])
 ·exact .inr (by rw [h])
def HG (pre suf:List Nat) (hT:(pre++suf).length<=1000000) (hs:suf.length<=9) (hd:∀ c∈suf,48<=c/\c<=57):b9 [.str (ay (pre++suf)),.int pre.length]=.ok .non:=by
 have e:((pre++suf).drop pre.length).take 10=suf:=by rw [List.drop_left,List.take_of_length_le (by omega)]
 rw [Bp hT (by rw [e];exact fun c hc=>hd c (List.mem_of_mem_take hc)) (by rw [e];exact .inl (List.drop_eq_nil_iff.mpr hs)),e];exact jC (Jy ((AY (ge (bE (gW rfl (kU _ (by omega))) rfl (FF.trans (congrArg (fun b=>R.ok (D.bl b)) (decide_eq_true (by omega))))))).trans (jZ rfl)))
def Bx (pre r:List Nat) (n:Nat) (hn:n < 1000000000) (hT:(pre++(f9 n++10::r)).length<=1000000):b9 [.str (ay (pre++(f9 n++10::r))),.int pre.length]=.ok (if n+4<=r.length then .int ((pre.length+14+n:Nat):Int) else .non):=by
 have h9:=px hn;have e:((pre++(f9 n++10::r)).drop pre.length).take 10=f9 n++[10]:=by
  rw [List.drop_left,show f9 n++10::r=(f9 n++[10])++r by simp];exact List.take_left' (by simp [h9])
 have e9:(f9 n++[10]).take 9=f9 n:=List.take_left' h9;have ed:(f9 n++[10]).drop 9=[10]:=List.drop_left' h9;rw [Bp hT (by rw [e,e9];exact fun c hc=>Am hc) (by rw [e,ed];exact .inr rfl),e,e9];have hlen:(pre++(f9 n++10::r)).length=pre.length+10+r.length:=by simp [h9];omega
 refine jC ((skip (ge (bE (gW rfl (kU _ (by simp [h9]))) rfl (FF.trans (congrArg (fun b=>R.ok (D.bl b)) (decide_eq_false (by simp [h9]))))))).trans ((bF (dw (jP (jP (jP rfl rfl) (ba (ac rfl rfl) (LP hn))) (gW rfl (by rw [show bH=D.str (ay [101,110,100,10]) from congrArg D.str E7];exact kU _ (by simp)))))).trans (jZ ?_)));have eq:b5 (ap Cz (ae 4) (aj bt (aa (ae 0) ak))) (List.set [some (.str (ay (pre++(f9 n++10::r)))),some (.int pre.length),some (.str (ay (f9 n++[10]))),some (.str (ay (f9 n))),none] 4 (some (.int ((pre.length:Int)+10+n+([101,110,100,10]:List Nat).length))))=.ok (decide (n+4<=r.length)):=by
  refine ge (bE rfl (gW rfl (kU _ hT)) (KN.trans (congrArg (fun b=>R.ok (D.bl b)) (decide_eq_decide.mpr ?_))));rw [hlen];simp only [List.length_cons,List.length_nil];omega
 by_cases h:n+4<=r.length
 ·rw [decide_eq_true h] at eq;rw [if_pos h];refine Mq eq ?_;show R.ok (D.int _)=R.ok (D.int _);congr 2;simp only [List.length_cons,List.length_nil];omega
 ·rw [decide_eq_false h] at eq;rw [if_neg h];exact Qj eq rfl
def AK {φ:FE} {δ:Sd} {ds:List D} (h:φ δ=.ok (.lst ds)):Av φ δ=.ok (.lsm ds):=by unfold Av;rw [h];rfl
def BN {cs:Cs} (h:Ok cs) (pre r:List Nat) (hT:(pre++(kC cs++r)).length<=1000000):bW [.str (ay (pre++(kC cs++r))),.int ((pre.length+10:Nat):Int),.int ((pre.length+14+(kc cs).length:Nat):Int)]=.ok (.lsm (cs.map (·.1))):=by
 rw [qc,dL];have hl:=h.len;have h9:=px (n:=(kc cs).length) (by omega);have hk:bt [bH]=.ok (.int 4):=by rw [show bH=D.str (ay [101,110,100,10]) from congrArg D.str E7];exact kU _ (by simp)
 have eb:((pre.length+14+(kc cs).length:Nat):Int) - 4=((pre.length+10+(kc cs).length:Nat):Int):=by omega
 have eT:pre++(kC cs++r)=(pre++f9 (kc cs).length++[10])++(kc cs++([101,110,100,10]++r)):=by unfold kC;simp
 have eL:(pre++f9 (kc cs).length++[10]).length=pre.length+10:=by simp [h9]
 have s1:fJ (.str (ay (pre++(kC cs++r)))) (some ((pre.length+10:Nat):Int)) (some (((pre.length+14+(kc cs).length:Nat):Int) - 4))=.ok (.str (ay (kc cs))):=by
  rw [eb,Au _ _ _ hT,eT,<- eL,List.drop_left,Nat.add_sub_cancel_left,List.take_left]
 have s2:fJ (.str (ay (pre++(kC cs++r)))) (some (((pre.length+14+(kc cs).length:Nat):Int) - 4)) (some ((pre.length+14+(kc cs).length:Nat):Int))=.ok (.str (ay [101,110,100,10])):=by
  have eT2:pre++(kC cs++r)=(pre++f9 (kc cs).length++[10]++kc cs)++([101,110,100,10]++r):=by rw [eT];simp
  have eL2:(pre++f9 (kc cs).length++[10]++kc cs).length=pre.length+10+(kc cs).length:=by rw [List.length_append,eL]
  rw [eb,Au _ _ _ hT,eT2,<- eL2,List.drop_left,eL2,show pre.length+14+(kc cs).length - (pre.length+10+(kc cs).length)=4 by omega];rfl
 have ej:kc cs=jn (cs.map (·.2))++[10]:=DD _ (by have:=h.1;simpa using this);have hj:(jn (cs.map (·.2))).length+1=(kc cs).length:=by rw [ej];simp
 have s3:fJ (.str (ay (kc cs))) none (some (-1))=.ok (.str (ay (jn (cs.map (·.2))))):=by rw [ej];exact Kl _ _ (by omega)
 have s4:iX (ay (jn (cs.map (·.2)))) [.str (Str.ofString "\n")]=.ok (.lst (cs.map fun p=>D.str (ay p.2))):=by
  unfold iX;simp only;rw [lnl,if_pos ⟨rfl,by rw [aY];omega⟩,FP _ (by have:=h.1;simpa using this) fun w hw=>by
   obtain ⟨p,hp,rfl⟩:=List.mem_map.mp hw;exact (h.2.2 p hp).no]
  simp
 have s5:sv (fun x y=>.bl (Txt.endswith x y)) (ay (kc cs)) [.str (Str.ofString "\n")]=.ok (.bl true):=by
  unfold sv;simp only;rw [Dp,M0,au,aY,decide_eq_true (by rw [ej];simp)]
 refine jC ((bF (dw (oO rfl (dF rfl) (dF (xh rfl (gW rfl hk))) s1))).trans ((skip (ge (bE (oO rfl (dF (xh rfl (gW rfl hk))) (dF rfl) s2) rfl ?_))).trans ((skip (qh (mf (BC rfl (ac rfl rfl) s5) rfl))).trans (jZ (AK (dG (kR (BC (oO rfl rfl (dF rfl) s3) (ac rfl rfl) s4) rfl) (tK (rest:=[]) (fun p:D×List Nat=>D.str (ay p.2)) (·.1) cs (fun p hp=>ba (ac rfl rfl) (h.2.2 p hp).rc) (by have:=h.2.1;omega))))))));rw [show bH=D.str (ay [101,110,100,10]) from congrArg D.str E7,Dk];simp
def yU (t:List Nat):Prop:=(t.length<=9/\∀ c∈t,48<=c/\c<=57)\/∃ n r,t=f9 n++10::r/\n < 1000000000/\¬ n+4<=r.length
def pV {cs:Cs} (h:Ok cs):(kC cs).length=14+(kc cs).length:=by
 have hl:=h.len;have h9:=px (n:=(kc cs).length) (by omega);unfold kC;simp [h9];omega
def dX (rs:List Cs):List Nat:=(rs.map kC).flatten
def gu (c:Cs) (r:List Cs):dX (c::r)=kC c++dX r:=rfl
def pr:Nat->List Cs->List D
 | _,[]=>[]
 | s,c::r=>.tup [.lsm (c.map (·.1)),.int ((s+(kC c).length:Nat):Int)]::pr (s+(kC c).length) r
def fQ:Nat->List Cs->List Nat
 | _,[]=>[]
 | s,c::r=>(s+(kC c).length)::fQ (s+(kC c).length) r
theorem AE:∀ (s:Nat) (rs:List Cs),(pr s rs).length=rs.length
 | _,[]=>rfl
 | s,c::r=>by simp [pr,AE]
def NL (s:Nat):List Cs->D
 | []=>.non
 | c::_=>.int ((s+(kC c).length:Nat):Int)
def IQ (pre tl:List Nat) (rs:List Cs) (hr:∀ c∈rs,Ok c) (ht:yU tl) (hT:(pre++(dX rs++tl)).length<=1000000):b9 [.str (ay (pre++(dX rs++tl))),.int pre.length]=.ok (NL pre.length rs):=by
 cases rs with
 | nil =>
  rcases ht with ⟨h1,h2⟩|⟨n,r,rfl,h2,h3⟩
  ·exact HG pre tl hT h1 h2
  ·exact (Bx pre r n h2 hT).trans (by rw [if_neg h3];rfl)
 | cons c r =>
  have hc:=hr c (by simp);have hl:=hc.len;have e:pre++(dX (c::r)++tl)=pre++(f9 (kc c).length++10::(kc c++[101,110,100,10]++(dX r++tl))):=by rw [gu];unfold kC;simp
  rw [e] at hT ⊢;rw [Bx pre _ _ (by omega) hT,if_pos (by simp only [List.length_append,List.length_cons,List.length_nil];omega)];show _=R.ok (D.int ((pre.length+(kC c).length:Nat):Int));rw [pV hc,Nat.add_assoc]
abbrev wB:FS:=(aw (bG 1 (gI (aa (aj bW (aa (ae 0) (aa (ap aR (ae 2) (vC cJ)) (aa (ae 3) ak)))) (aa (ae 3) ak)))) (aw (aI 2 (ae 3)) (aI 3 (aj b9 (aa (ae 0) (aa (ae 2) ak))))))
def FR (tl:List Nat) (ht:yU tl):∀ (rs:List Cs) (pre:List Nat) (acc:List D) (n:Nat),(∀ c∈rs,Ok c)->(pre++(dX rs++tl)).length<=1000000->acc.length+rs.length < 1000->rs.length < n ->
  ∃ s,gl (b5 (ap uz (ae 3) (vC .non))) wB n [some (.str (ay (pre++(dX rs++tl)))),some (.lst acc),some (.int pre.length),some (NL pre.length rs)]=.ok (.nx [some (.str (ay (pre++(dX rs++tl)))),some (.lst (acc++pr pre.length rs)),s,some .non])
 | [],pre,acc,n+1,_,_,_,_=>⟨_,by
  rw [OE (ge (bE rfl rfl Bb))];show R.ok _=R.ok _;rw [show acc++pr pre.length []=acc by simp [pr]];rfl⟩
 | c::r,pre,acc,n+1,hr,hT,ha,hn=>by
  have hc:=hr c (by simp);have e:pre++(dX (c::r)++tl)=(pre++kC c)++(dX r++tl):=by rw [gu];simp
  have hT2:((pre++kC c)++(dX r++tl)).length<=1000000:=by rw [<- e];exact hT
  have el:(pre++kC c).length=pre.length+(kC c).length:=by simp
  obtain ⟨s,ih⟩:=FR tl ht r (pre++kC c) (acc++[.tup [.lsm (c.map (·.1)),.int ((pre.length+(kC c).length:Nat):Int)]]) n (fun x hx=>hr x (List.mem_cons_of_mem _ hx)) hT2 (by simp at ha ⊢;omega) (by simpa using hn);refine ⟨s,?_⟩;have hch:bW [.str (ay (pre++(dX (c::r)++tl))),.int ((pre.length:Int)+10),.int ((pre.length+(kC c).length:Nat):Int)]=.ok (.lsm (c.map (·.1))):=by
   have:=BN hc pre (dX r++tl) (by rw [gu] at hT;simpa using hT)
   rw [show kC c++(dX r++tl)=dX (c::r)++tl by rw [gu];simp] at this;rw [pV hc,<- Nat.add_assoc];exact this
  rw [KO (ge (bE rfl rfl Bb)) ((bF (xC rfl (xg (ac (ba (ac rfl (ac (jP rfl rfl) (ac rfl rfl))) hch) (ac rfl rfl))) (by simp at ha;omega))).trans ((bF (dw rfl)).trans (dw (ba (ac rfl (ac rfl rfl)) (by
   have:=IQ (pre++kC c) tl r (fun x hx=>hr x (List.mem_cons_of_mem _ hx)) ht hT2
   rw [el,<- e] at this;exact this)))))]
  rw [el,<- e] at ih;refine Eq.trans ih ?_;rw [List.append_assoc];rfl
def la (rs:List Cs) (tl:List Nat) (hr:∀ c∈rs,Ok c) (ht:yU tl) (hT:(dX rs++tl).length<=1000000) (hn:rs.length<=100):dl [.str (ay (dX rs++tl))]=.ok (.lst (pr 0 rs)):=by
 rw [sL,fw];obtain ⟨s,h⟩:=FR tl ht rs [] [] 1000 hr (by simpa using hT) (by simp;omega) (by omega);have e:=IQ [] tl rs hr ht (by simpa using hT);exact jC ((bF (wo (lR rfl))).trans ((bF (dw rfl)).trans ((bF (dw (ba (ac rfl (ac rfl rfl)) e))).trans ((bF h).trans (jZ rfl)))))
def fst:D->D
 | .tup [a,_]=>a
 | d=>d
def Q3:D->D
 | .tup [_,b]=>b
 | d=>d
def zI:∀ (s:Nat) (rs:List Cs) (d:D),d∈pr s rs->∃ a b,d=.tup [a,b]
 | _,[],_,h=>by cases h
 | s,c::r,d,h=>by
  rcases List.mem_cons.mp h with rfl|h
  ·exact ⟨_,_,rfl⟩
  ·exact zI _ r d h
def DN:∀ (s:Nat) (rs:List Cs),(pr s rs).map fst=rs.map fun c=>D.lsm (c.map (·.1))
 | _,[]=>rfl
 | s,c::r=>by
  show fst _::(pr _ r).map fst=_;rw [DN];rfl
def FU:∀ (s:Nat) (rs:List Cs),(pr s rs).map Q3=(fQ s rs).map fun e=>D.int (e:Nat)
 | _,[]=>rfl
 | s,c::r=>by
  show Q3 _::(pr _ r).map Q3=_;rw [FU];rfl
def l7 (rs:List Cs) (tl:List Nat) (hr:∀ c∈rs,Ok c) (ht:yU tl) (hT:(dX rs++tl).length<=1000000) (hn:rs.length<=100):a9 [.str (ay (dX rs++tl))]=.ok (.lsm (rs.map fun c=>D.lsm (c.map (·.1)))):=by
 rw [tQ,gi,<- DN 0];refine jC (jZ (AK (dG (kR (ba (ac rfl rfl) (la rs tl hr ht hT hn)) rfl) ?_)))
 have:=tK (ε:=ap bj (ae 0) (vC (.int 0))) (rest:=[]) id fst (pr 0 rs) (fun d hd=>by
  obtain ⟨a,b,rfl⟩:=zI 0 rs d hd;exact bE rfl rfl Jm) (by rw [AE];omega)
 rw [List.map_id] at this;exact this
def xG (rs:List Cs) (tl:List Nat) (hr:∀ c∈rs,Ok c) (ht:yU tl) (hT:(dX rs++tl).length<=1000000) (hn:rs.length<=100):cp [.str (ay (dX rs++tl))]=.ok (.lsm ((fQ 0 rs).map fun e=>D.int (e:Nat))):=by
 rw [C0,n5,<- FU 0];refine jC (jZ (AK (dG (kR (ba (ac rfl rfl) (la rs tl hr ht hT hn)) rfl) ?_)))
 have:=tK (ε:=ap bj (ae 0) (vC (.int 1))) (rest:=[]) id Q3 (pr 0 rs) (fun d hd=>by
  obtain ⟨a,b,rfl⟩:=zI 0 rs d hd;exact bE rfl rfl IC) (by rw [AE];omega)
 rw [List.map_id] at this;exact this
def nR:yU []:=.inl ⟨Nat.zero_le _,fun c hc=>nomatch hc⟩
def D8 {c:Cs} (h:Ok c) (j:Nat) (hj:j < (kC c).length):yU ((kC c).take j):=by
 have hl:=h.len;have h9:=px (n:=(kc c).length) (by omega);rw [pV h] at hj;by_cases h10:j < 10
 ·refine .inl ⟨by simp;omega,fun x hx=>?_⟩
  have:(kC c).take j=(f9 (kc c).length).take j:=by
   unfold kC;rw [List.take_append_of_le_length (by omega)]
  rw [this] at hx;exact Am (List.mem_of_mem_take hx)
 ·refine .inr ⟨(kc c).length,(kc c++[101,110,100,10]).take (j - 10),?_,by omega,by simp;omega⟩;unfold kC;rw [List.take_append,h9,List.take_of_length_le (by omega)];congr 1;rw [show j - 9=(j - 10)+1 by omega,List.take_succ_cons]
def FJ:∀ (rs:List Cs) (s t:Nat),(∀ c∈rs,Ok c)->s<=t->∃ tl,(dX rs).take (t - s)=dX (rs.take ((fQ s rs).filter fun e=>decide (e<=t)).length)++tl/\yU tl/\(fQ s rs).take ((fQ s rs).filter fun e=>decide (e<=t)).length=fQ s (rs.take ((fQ s rs).filter fun e=>decide (e<=t)).length)
 | [],s,t,_,_=>⟨[],by simp [fQ,dX],nR,by simp [fQ]⟩
 | c::r,s,t,hr,hs=>by
  have hc:=hr c (by simp);by_cases h:s+(kC c).length<=t
  ·obtain ⟨tl,e1,e2,e3⟩:=FJ r (s+(kC c).length) t (fun x hx=>hr x (List.mem_cons_of_mem _ hx)) h;refine ⟨tl,?_,e2,?_⟩
   ·rw [fQ,List.filter_cons_of_pos (by simpa using h),List.length_cons,List.take_succ_cons,gu,gu,List.append_assoc,<- e1,List.take_append,List.take_of_length_le (by omega),Nat.sub_sub]
   ·rw [fQ,List.filter_cons_of_pos (by simpa using h),List.length_cons,List.take_succ_cons,List.take_succ_cons,e3,fQ]
  ·have h0:∀ (r:List Cs) (s:Nat),t < s->(fQ s r).filter (fun e=>decide (e<=t))=[]:=by
    intro r;induction r with
    | nil=>intro s _;rfl
    | cons c r ih=>intro s hs;rw [fQ,List.filter_cons_of_neg (by simp;omega),ih _ (by omega)]
   have e0:(fQ s (c::r)).filter (fun e=>decide (e<=t))=[]:=by rw [fQ,List.filter_cons_of_neg (by simpa using h),h0 r _ (by omega)]
   rw [e0];refine ⟨(kC c).take (t - s),?_,D8 hc _ (by omega),by simp [fQ]⟩;rw [gu,List.take_append_of_le_length (by omega)];rfl
abbrev eM:FE:=aj bO (aa (ap fH (aj bO (aa (ap aR (ae 4) (ap fH (vC (.int 131)) (ae 3))) ak)) (ap aR (ae 3) (vC (.int 2)))) ak)
abbrev eC:FE:=aj fe (aa (ae 0) (aa (ae 5) ak))
abbrev qM:FT:=b5 (ap eU (ap bv (ap cA (ae 5) (vC (.int 4096))) (vC (.int 4))) (vC (.int 0)))
def HZ {u v d d2:D} {c:Bool} {r ds es:List D} {δ:Sd} (h1:eM ((δ.set 3 (some u)).set 4 (some v))=.ok d) (h2:eC (((δ.set 3 (some u)).set 4 (some v)).set 5 (some d))=.ok d2) (h3:qM (((δ.set 3 (some u)).set 4 (some v)).set 5 (some d))=.ok c) (hb:es.length < 999999/\ds.length < 999999) :
  zu 2 3 4 5 eM eC qM (.tup [u,v]::r) δ ds es=if c=true then zu 2 3 4 5 eM eC qM r (((δ.set 3 (some u)).set 4 (some v)).set 5 (some d)) (ds++[.lst (es++[d2])]) [] else zu 2 3 4 5 eM eC qM r (((δ.set 3 (some u)).set 4 (some v)).set 5 (some d)) ds (es++[d2]):=by
 rw [zu];show (eM ((δ.set 3 (some u)).set 4 (some v))).bind _=_;rw [h1,ah];show (eC (((δ.set 3 (some u)).set 4 (some v)).set 5 (some d))).bind _=_;rw [h2,ah];show tG qM es ds d2 _ (((δ.set 3 (some u)).set 4 (some v)).set 5 (some d))=_;unfold tG;rw [if_pos hb,h3,ah]
def AG (x y:Str) (hx:Gn x) (hy:Gn y) (C:D):∀ (cells:List Int) (k:Nat) (o3 o4 o5:Option D) (dss:List (List D)) (es:List D),k+cells.length<=60->dss.length+cells.length<=40->(dss.map List.length).sum+es.length+cells.length<=40->(∀ r∈dss,∀ d∈r,Chg d)->(∀ d∈es,Chg d) ->
  ∃ o3' o4' o5' dss' es',zu 2 3 4 5 eM eC qM (bS k (cells.map D.int)) [some (.lst [.str x,.str y]),some C,none,o3,o4,o5] (dss.map D.lst) es=.ok (.nx [some (.lst [.str x,.str y]),some C,some (.lst ((dss'++[es']).map D.lst)),o3',o4',o5'])/\dss'.length<=40/\((dss'++[es']).map List.length).sum<=40/\∀ r∈dss'++[es'],∀ d∈r,Chg d
 | [],k,o3,o4,o5,dss,es,_,h2,h3,h4,h5=>⟨o3,o4,o5,dss,es,by
   show zu 2 3 4 5 eM eC qM [] _ _ _=_;rw [zu,List.map_append];rfl,by simpa using h2,by simpa using h3,fun r hr=>by
   rcases List.mem_append.mp hr with z|z
   ·exact h4 r z
   ·rw [List.mem_singleton.mp z];exact h5⟩
 | c::cells,k,o3,o4,o5,dss,es,h1,h2,h3,h4,h5=>by
  obtain ⟨m1,e1,a1,a2⟩:=vw (c+131*(k:Int));obtain ⟨m2,e2,_⟩:=vw (m1*((k:Int)+2));obtain ⟨d2,e3,hd⟩:=CN x y m2 hx hy;simp only [List.length_cons] at h1 h2 h3;have hc5:∀ d∈es++[d2],Chg d:=fun d hd'=>by
   rcases List.mem_append.mp hd' with z|z
   ·exact h5 d z
   ·rw [List.mem_singleton.mp z];exact hd
  have s:=HZ (u:=.int (k:Int)) (v:=.int c) (d:=.int m2) (d2:=d2) (c:=decide (m2/4096 % 4=0)) (r:=bS (k+1) (cells.map D.int)) (ds:=dss.map D.lst) (es:=es) (δ:=[some (.lst [.str x,.str y]),some C,none,o3,o4,o5])
   (ba (ac (Fn (ba (ac (jP rfl (Fn rfl rfl ⟨by omega,by omega⟩)) rfl) e1) (jP rfl rfl) ⟨by omega,by omega⟩) rfl) e2) (ba (ac rfl (ac rfl rfl)) e3) (An (kW (rm rfl rfl) rfl) rfl) ⟨by omega,by rw [List.length_map];omega⟩
  have st:zu 2 3 4 5 eM eC qM (bS k ((c::cells).map D.int)) [some (.lst [.str x,.str y]),some C,none,o3,o4,o5] (dss.map D.lst) es=_:=s;rw [st];by_cases hq:m2/4096 % 4=0
  ·rw [decide_eq_true hq,if_pos rfl]
   have:=AG x y hx hy C cells (k+1) (some (.int (k:Int))) (some (.int c)) (some (.int m2)) (dss++[es++[d2]]) [] (by omega) (by simp;omega) (by simp;omega) (fun r hr=>by
    rcases List.mem_append.mp hr with z|z
    ·exact h4 r z
    ·rw [List.mem_singleton.mp z];exact hc5) (fun d hd=>nomatch hd)
   rw [List.map_append] at this;exact this
  ·rw [decide_eq_false hq,if_neg Bool.false_ne_true];exact AG x y hx hy C cells (k+1) (some (.int (k:Int))) (some (.int c)) (some (.int m2)) dss (es++[d2]) (by omega) (by omega) (by simp;omega) h4 hc5
def Chg.py {d:D} (h:Chg d):Py 4 d:=let ⟨_,hl⟩:=h.li;hl.py
def ne_nil {r:List D} (h:∀ d∈r,Py 4 d):pY (.lst r) (.lst [])=.ok (.bl (!r.isEmpty)):=by
 cases r with
 | nil=>rfl
 | cons d r =>
  obtain ⟨ps,e1,e2,e3,e4⟩:=Py.list h;have et:oG (.lst (d::r))=some (.list ps):=by rw [oG,e1];rfl
  have hs:SeqAt.shaped (.list ps)=true:=vJ (k:=5) e2 (by rw [PyData.depth];omega) (by omega);cases ps with
  | nil=>simp at e4
  | cons p ps =>
   have eo:sU (.lst (d::r)) (.lst [])=mR (.lst (d::r)) (.lst []):=rfl;unfold pY;rw [eo];unfold mR;rw [et];show j6 (if SeqAt.shaped (.list (p::ps))=true/\SeqAt.shaped (.list [])=true then some ((PyData.list (p::ps)).eqv (.list [])) else none) _=_;rw [if_pos ⟨hs,by decide⟩];rfl
def sum_filter (p:List D->Bool):∀ xs:List (List D),((xs.filter p).map List.length).sum<=(xs.map List.length).sum
 | []=>Nat.le_refl _
 | x::r=>by
  have:=sum_filter p r
  rw [List.filter_cons];split
  ·simp;omega
  ·simp;omega
def FC (x y:Str) (hx:Gn x) (hy:Gn y) (cells:List Int) (hc:cells.length<=40):∃ rows:List (List D),jb [.lst [.str x,.str y],.lst (cells.map D.int)]=.ok (.lst (rows.map D.lst))/\rows.length<=41/\(rows.map List.length).sum<=40/\∀ r∈rows,r≠[]/\∀ d∈r,Chg d:=by
 rw [wz,jc];obtain ⟨o3,o4,o5,dss,es,e,h1,h2,h3⟩:=AG x y hx hy (.lst (cells.map D.int)) cells 0 none none none [] [] (by omega) (by simpa using hc) (by simpa using hc) (fun r hr=>nomatch hr) (fun d hd=>nomatch hd)
 refine ⟨(dss++[es]).filter fun r=>!r.isEmpty,G5 ((bF (δ':=[some (.lst [.str x,.str y]),some (.lst (cells.map D.int)),some (.lst ((dss++[es]).map D.lst)),o3,o4,o5]) ?_).trans (G6 (dG (kR rfl rfl) (w9 (rest:=[]) D.lst D.lst (fun r=>!r.isEmpty) (dss++[es]) (fun r hr=>ge (bE rfl (lR rfl) (ne_nil fun d hd=>(h3 r hr d hd).py))) (fun r hr _=>rfl) (by simp;omega))))),?_,Nat.le_trans (sum_filter _ _) h2,fun r hr=>?_⟩
 ·unfold wq;rw [if_pos (by simp)];exact e
 ·exact Nat.le_trans (List.length_filter_le _ _) (by simp;omega)
 ·obtain ⟨z1,z2⟩:=List.mem_filter.mp hr;refine ⟨fun z=>?_,h3 r z1⟩;rw [z] at z2;simp at z2
def HM (i:Int):ov [.int i]=.ok (.bl true):=by
 rw [C1,n4];exact jC (jZ (LL (vt rfl (Dq.trans (Gq ⟨rfl,rfl⟩))) (HQ (b:=false) (vt rfl (Dq.trans (Gq ⟨rfl,rfl⟩))))))
def none_of {β:Type} {τ:FT} {ε:FE} (u:β->D) (xs:List β) (h:∀ x∈xs,τ [some (u x)]=.ok false) (hl:xs.length<=1000):bz (.one 0) τ ε [none] (xs.map u)=.ok (.lst []):=by
 have:=w9 (τ:=τ) (ε:=ε) (rest:=[]) u u (fun _=>false) xs h (fun x _ z=>by cases z) hl
 rw [this];simp
def LR (rows:List (List D)) (es:List Nat) (hr:∀ r∈rows,∀ d∈r,Py 4 d) (h1:rows.length<=1000) (h2:es.length<=1000):dY [.lst (rows.map D.lst),.lst (es.map fun e=>D.int (e:Nat)),.lst (rows.map D.lst),.lst (es.map fun e=>D.int (e:Nat))]=.ok (.bl true):=by
 rw [Ex,pZ];have n1:pY (.lst (rows.map D.lst)) (.lst (rows.map D.lst))=.ok (.bl false):=El (k:=5) (fun d hd=>by
  obtain ⟨r,hrr,rfl⟩:=List.mem_map.mp hd;exact Py.lst (hr r hrr)) (by decide)
 have n2:pY (.lst (es.map fun e=>D.int (e:Nat))) (.lst (es.map fun e=>D.int (e:Nat)))=.ok (.bl false):=El (k:=0) (fun d hd=>by
  obtain ⟨r,hrr,rfl⟩:=List.mem_map.mp hd;exact Py.int _) (by decide)
 have ty:∀ xs:List D,fG [.lst xs,.ty "list"]=.ok (.bl true):=fun xs=>Im.trans (Gq ⟨rfl,rfl⟩);refine jC ((skip (FD (qh (mf (vt rfl (ty _)) rfl)) (FD (qh (mf (vt rfl (ty _)) rfl)) (FD (ge (bE rfl rfl n1)) (ge (bE rfl rfl n2)))))).trans ((skip (ge (bE (dG (kR rfl rfl) (none_of (fun e:Nat=>D.int (e:Nat)) es (fun e he=>qh (mf (ba (ac rfl rfl) (HM _)) rfl)) h2)) (lR rfl) rfl))).trans (jZ (bE (dG (kR rfl rfl) (none_of D.lst rows (fun r hrr=>qh (mf (vt rfl (ty _)) rfl)) h1)) (lR rfl) rfl))))
def BE (xs:List D) (b:Nat):yY xs none (some (b:Int))=xs.take b:=by
 unfold yY;rw [HT.dJ];show (xs.drop 0).take (min b xs.length - 0)=_;rw [List.drop_zero,Nat.sub_zero];by_cases h:b<=xs.length
 ·rw [Nat.min_eq_left h]
 ·rw [Nat.min_eq_right (by omega),List.take_of_length_le (by simp),List.take_of_length_le (by omega)]
def Ed (ns:List Int):∃ cells:List Int,fJ (.lst (ns.map D.int)) (some 3) (some 43)=.ok (.lst (cells.map D.int))/\cells.length<=40:=by
 have e1:HT.sIx (ns.map D.int).length 0 (some 3)=min 3 (ns.map D.int).length:=HT.dJ _ _ 3;have e2:HT.sIx (ns.map D.int).length (ns.map D.int).length (some 43)=min 43 (ns.map D.int).length:=HT.dJ _ _ 43;refine ⟨(ns.drop (min 3 (ns.map D.int).length)).take (min 43 (ns.map D.int).length - min 3 (ns.map D.int).length),?_,?_⟩
 ·rw [Kw];unfold yY;rw [e1,e2,List.map_take,List.map_drop]
 ·rw [List.length_take]
  have:min 43 (ns.map D.int).length - min 3 (ns.map D.int).length<=40:=by omega
  omega
def Chg.cs:∀ (r:List D),(∀ d∈r,Chg d)->∃ cs:Cs,cs.map (·.1)=r/\∀ p∈cs,Li p.1 p.2
 | [],_=>⟨[],rfl,fun p hp=>nomatch hp⟩
 | d::r,h=>by
  obtain ⟨cs,e,h2⟩:=Chg.cs r fun x hx=>h x (List.mem_cons_of_mem _ hx);obtain ⟨L,hL⟩:=(h d (by simp)).li;refine ⟨(d,L)::cs,by rw [List.map_cons,e],fun p hp=>?_⟩;rcases List.mem_cons.mp hp with rfl|hp
  ·exact hL
  ·exact h2 p hp
def xM (c:Cs):D:=.lst (c.map (·.1))
def BW:∀ (rows:List (List D)),(∀ r∈rows,r≠[]/\r.length<=500/\∀ d∈r,Chg d)->∃ rs:List Cs,rs.map (fun c=>c.map (·.1))=rows/\∀ c∈rs,Ok c
 | [],_=>⟨[],rfl,fun p hp=>nomatch hp⟩
 | r::rows,h=>by
  obtain ⟨rs,e,h2⟩:=BW rows fun x hx=>h x (List.mem_cons_of_mem _ hx);obtain ⟨h3,h4,h5⟩:=h r (by simp);obtain ⟨cs,e2,h6⟩:=Chg.cs r h5;refine ⟨cs::rs,by rw [List.map_cons,e,e2],fun c hc=>?_⟩;rcases List.mem_cons.mp hc with rfl|hc
  ·refine ⟨fun z=>h3 (by rw [<- e2,z];rfl),?_,h6⟩
   have:=congrArg List.length e2
   rw [List.length_map] at this;omega
  ·exact h2 c hc
def BA:∀ (rs:List Cs),(∀ c∈rs,Ok c)->(dX rs).length<=14*rs.length+841*(rs.map List.length).sum
 | [],_=>by simp [dX]
 | c::r,h=>by
  have h1:=BA r fun x hx=>h x (List.mem_cons_of_mem _ hx);have hc:=h c (by simp);have h2:=w4 840 (c.map (·.2)) fun w hw=>by
   obtain ⟨p,hp,rfl⟩:=List.mem_map.mp hw;exact (hc.2.2 p hp).sg.1
  rw [List.length_map] at h2;have h2:(kc c).length<=841*c.length:=h2;rw [gu,List.length_append,pV hc,List.map_cons,List.sum_cons,List.length_cons];omega
def sum_rows (rs:List Cs):((rs.map fun c=>c.map (·.1)).map List.length).sum=(rs.map List.length).sum:=by
 rw [List.map_map];congr 1;exact List.map_congr_left fun c _=>by simp
def wb {β:Type} (f g:β->D):∀ (xs:List β),(∀ x∈xs,wk (f x)=g x)->FN (xs.map f)=xs.map g
 | [],_=>by rw [List.map_nil,FN];rfl
 | x::r,h=>by rw [List.map_cons,FN,h x (by simp),wb f g r fun y hy=>h y (List.mem_cons_of_mem _ hy)];rfl
def ww (rs:List Cs) (h:∀ c∈rs,Ok c):wk (.lsm (rs.map fun c=>D.lsm (c.map (·.1))))=.lst (rs.map xM):=by
 rw [wk,wb _ xM rs fun c hc=>by
  rw [wk];exact congrArg D.lst (AV _ fun d hd=>by
   obtain ⟨p,hp,rfl⟩:=List.mem_map.mp hd;exact ((h c hc).2.2 p hp).wk)]
def xt (es:List Nat):wk (.lsm (es.map fun e=>D.int (e:Nat)))=.lst (es.map fun e=>D.int (e:Nat)):=by
 rw [wk,wb _ (fun e=>D.int (e:Nat)) es fun e _=>w6 _]
def vO {φ:FE} {δ:Sd} {d:D} (h:φ δ=.ok d):xL φ δ=.ok (wk d):=by unfold xL;rw [h];rfl
def zc (rs:List Cs):rs.map xM=(rs.map fun c=>c.map (·.1)).map D.lst:=by rw [List.map_map];rfl
def wQ (rs:List Cs) (h:∀ c∈rs,Ok c) (hn:rs.length<=100) (es:List Nat) (he:es.length<=100):dY [.lst (rs.map xM),.lst (es.map fun e=>D.int (e:Nat)),.lst (rs.map xM),.lst (es.map fun e=>D.int (e:Nat))]=.ok (.bl true):=by
 rw [zc];exact LR _ es (fun r hr d hd=>by
  obtain ⟨c,hc,rfl⟩:=List.mem_map.mp hr;obtain ⟨p,hp,rfl⟩:=List.mem_map.mp hd;exact ((h c hc).2.2 p hp).py) (by simp;omega) (by omega)
def JQ:∀ k:Nat,k < 41->Txt.mul (Str.ofString "x") (k:Int)=ay (List.replicate k 120):=by decide +kernel
def F8 (x y:Str) (hx:Gn x) (n:Nat) (hn:n<=400) {δ:Sd} (h1:δ[1]?=some (some (.lst [.str x,.str y]))) (h3:ae 3 δ=.ok (.int ((n:Int) - 1))):∃ r:List D,bn [none,some 1] (iT (aa (ap aR (vC (.int 1)) (ae 3)) ak)) (.one 0) cc (gI (aa (vC (.str "put")) (aa (ap bj (ae 1) (vC (.int 0))) (aa (ap aR (vC (.int 1)) (ae 0)) (aa (gI (aa (ae 0) (aa (ap fH (vC (.str "x")) (ap bv (ae 0) (vC (.int 41)))) (aa (vC .non) ak)))) ak))))) δ=.ok (.lst r)/\r.length=n/\∀ d∈r,Chg d:=by
 have hcap:bL [none,some 1] δ=[none,some (.lst [.str x,.str y])]:=by
  unfold bL;simp [h1]
 have hi:iT (aa (ap aR (vC (.int 1)) (ae 3)) ak) δ=.ok ((List.range n).map fun (k:Nat)=>D.int (0+(k:Int))):=by
  refine (Kq (n:=n) ((jP rfl h3).trans (by congr 2;omega)) (by omega)).trans ?_;rfl
 have hm:∀ k:Nat,fH (.str (Str.ofString "x")) (.int ((0+(k:Int)) % 41))=.ok (.str (ay (List.replicate (k % 41) 120))):=fun k=>by
  have e:(0+(k:Int)) % 41=((k % 41:Nat):Int):=by omega
  rw [e,Jk,if_pos ⟨by decide +kernel,by omega,by omega⟩,JQ _ (by omega)]
 refine ⟨(List.range n).map fun (k:Nat)=>D.tup [.str "put",.str x,.int (1+(0+(k:Int))),.tup [.int (0+(k:Int)),.str (ay (List.replicate (k % 41) 120)),.non]],dG hi ?_,by simp,fun d hd=>?_⟩
 ·rw [hcap];exact tK (rest:=[some (.lst [.str x,.str y])]) (fun (k:Nat)=>D.int (0+(k:Int))) _ (List.range n) (fun k hk=>xg (ac rfl (ac (bE rfl rfl su) (ac (jP rfl rfl) (ac (xg (ac rfl (ac (bE rfl (kW rfl rfl) (hm k)) (ac rfl rfl)))) rfl))))) (by simp;omega)
 ·obtain ⟨k,hk,rfl⟩:=List.mem_map.mp hd;have hk:=List.mem_range.mp hk;refine Chg.put hx (by omega) (by omega) (fun d hd=>?_) (by simp) (by simp);simp only [List.mem_cons,List.not_mem_nil,or_false] at hd;rcases hd with rfl|rfl|rfl
  ·show (0+(k:Int)).natAbs < 10 ^ 18;omega
  ·refine ⟨by rw [aY];simp;omega,fun c hc=>?_⟩;rw [au] at hc;rw [(List.mem_replicate.mp hc).2];decide +kernel
  ·trivial
def BD (c:Cs):∀ (rs:List Cs) (s:Nat),fQ s (rs++[c])=fQ s rs++[s+(dX (rs++[c])).length]
 | [],s=>by simp [fQ,dX]
 | d::r,s=>by
  rw [List.cons_append,fQ,BD c r,fQ,List.cons_append,gu,List.length_append,Nat.add_assoc]
def xf (a b:List Cs):dX (a++b)=dX a++dX b:=by unfold dX;rw [List.map_append,List.flatten_append]
theorem jg:∀ (rs:List Cs) (s:Nat),(fQ s rs).length=rs.length
 | [],_=>rfl
 | c::r,s=>by simp [fQ,jg r]
abbrev fB:FS:=(aw (aI 7 (aj ni (aa (aj DK (aa (ae 6) ak)) ak))) (aw (cN (rP (dh (cq (aj fG (aa (ae 7) (aa (vC (.ty "str")) ak))))) (b5 (ap pY (ae 7) (aj j0 (aa (ae 6) ak))))) (a7 (vC (.bl false))) aF) (aw (aI 4 (ap aR (ae 4) (ae 7))) (bG 5 (aj bt (aa (ae 4) ak))))))
def Fh (S N A:Option D) (m:Option D):∀ (rs dn:List Cs) (o6 o7:Option D),(∀ c∈rs,Ok c)->(dX (dn++rs)).length<=1000000->(dn++rs).length<=100 ->
  ∃ o6' o7',gJ (.one 6) fB (rs.map xM) [S,N,A,m,some (.str (ay (dX dn))),some (.lst ((fQ 0 dn).map fun e=>D.int (e:Nat))),o6,o7,none,none,none]=.ok (.nx [S,N,A,m,some (.str (ay (dX (dn++rs)))),some (.lst ((fQ 0 (dn++rs)).map fun e=>D.int (e:Nat))),o6',o7',none,none,none])
 | [],dn,o6,o7,_,_,_=>⟨o6,o7,by rw [List.append_nil];rfl⟩
 | c::r,dn,o6,o7,h,hl,hn=>by
  have hc:=h c (by simp);have e:dn++c::r=(dn++[c])++r:=by simp
  have hl1:(dX (dn++[c])).length<=1000000:=by rw [e,xf,List.length_append] at hl;omega
  have hl2:(dX dn).length+(kC c).length<=1000000:=by
   rw [xf,List.length_append] at hl1
   have:dX [c]=kC c:=by simp [dX]
   rw [this] at hl1;exact hl1
  have ec:dX dn++kC c=dX (dn++[c]):=by rw [xf];simp [dX]
  obtain ⟨o6',o7',ih⟩:=Fh S N A m r (dn++[c]) (some (xM c)) (some (.str (ay (kC c)))) (fun x hx=>h x (List.mem_cons_of_mem _ hx)) (by rw [<- e];exact hl) (by rw [<- e];exact hn);refine ⟨o6',o7',?_⟩;rw [<- e] at ih;refine Eq.trans ?_ ih;have t:fB (List.set [S,N,A,m,some (.str (ay (dX dn))),some (.lst ((fQ 0 dn).map fun e=>D.int (e:Nat))),o6,o7,none,none,none] 6 (some (xM c)))=.ok (.nx [S,N,A,m,some (.str (ay (dX (dn++[c])))),some (.lst ((fQ 0 (dn++[c])).map fun e=>D.int (e:Nat))),some (xM c),some (.str (ay (kC c))),none,none,none]):=by
   refine (bF (dw (ba (ac (ba (ac rfl rfl) MG) rfl) (LV hc)))).trans ((skip (FD (qh (mf (vt rfl (IT.trans (Gq ⟨rfl,rfl⟩))) rfl)) (ge (bE rfl (ba (ac rfl rfl) (DL hc)) (Dk.trans (congrArg (fun b=>R.ok (D.bl b)) (by simp))))))).trans ((bF (dw (bE rfl rfl (nq _ _ hl2)))).trans ((xC rfl (gW rfl (by rw [ec];exact kU _ hl1)) (by rw [List.length_map,jg];simp at hn;omega)).trans ?_)));rw [BD,List.map_append,ec];simp
  rw [List.map_cons,Gd t]
abbrev eT:FE:=ap bv (ap cA (aj bg (aa (ae 0) (aa (vC (.int 2)) ak))) (vC (.int 4))) (ap aR (aj bt (aa (ae 4) ak)) (vC (.int 1)))
abbrev qT:FT:=qu (b5 (ap pY (ae 5) (ee ak))) (b5 (ap CU (ap bv (aj bg (aa (ae 0) (aa (vC (.int 2)) ak))) (vC (.int 4))) (vC (.int 3))))
abbrev eS:FE:=ap jN (ap aR (ap bj (ae 5) (ap bv (ap cA (aj bg (aa (ae 0) (aa (vC (.int 2)) ak))) (vC (.int 4))) (aj bt (aa (ae 5) ak)))) (ap bv (aj bg (aa (ae 0) (aa (vC (.int 2)) ak))) (vC (.int 4)))) (vC (.int 1))
abbrev lN:FE:=aj bt (aa (bn [none,some 8] (b8 (ae 5)) (.one 0) (b5 (ap Cz (ae 0) (ae 1))) (ae 0)) ak)
abbrev qR:FT:=dh (cq (aj dY (aa (xL (aj a9 (aa (ae 10) ak))) (aa (xL (aj cp (aa (ae 10) ak))) (aa (mN fJ (ae 2) c6 (bx (ae 3))) (aa (mN fJ (ae 5) c6 (bx (ae 3))) ak))))))
abbrev eR:FE:=aj dY (aa (xL (aj a9 (aa (ae 4) ak))) (aa (xL (aj cp (aa (ae 4) ak))) (aa (ae 2) (aa (ae 5) ak))))
abbrev GO (i:Nat):FT:=dh (cq (aj dY (aa (xL (ap bj (ae i) (vC (.int 0)))) (aa (xL (ap bj (ae i) (vC (.int 1)))) (aa (ae 2) (aa (ae 5) ak))))))
def LQ {rs:List Cs} (h:∀ c∈rs,Ok c) (hn:rs.length<=100) (hl:(dX rs).length<=1000000) (t:Nat) (S N o6 o7:Option D) :
  zd 9 10 7 4 a9 cp (GO 9) (mN fJ (ae 4) c6 (bx (ae 8))) qR (GO 9)
   [S,N,some (.lst (rs.map xM)),some (.int (((fQ 0 rs).filter fun e=>decide (e<=t)).length:Nat)),some (.str (ay (dX rs))),some (.lst ((fQ 0 rs).map fun e=>D.int (e:Nat))),o6,o7,some (.int (t:Nat)),none,none]
  = .ok (.nx [S,N,some (.lst (rs.map xM)),some (.int (((fQ 0 rs).filter fun e=>decide (e<=t)).length:Nat)),some (.str (ay (dX rs))),some (.lst ((fQ 0 rs).map fun e=>D.int (e:Nat))),o6,none,some (.int (t:Nat)),none,none]):=by
 have r1:a9 [.str (ay (dX rs))]=.ok (.lsm (rs.map fun c=>D.lsm (c.map (·.1)))):=by
  have:=l7 rs [] h nR (by simpa using hl) hn
  rwa [List.append_nil] at this
 have r2:cp [.str (ay (dX rs))]=.ok (.lsm ((fQ 0 rs).map fun e=>D.int (e:Nat))):=by
  have:=xG rs [] h nR (by simpa using hl) hn
  rwa [List.append_nil] at this
 have he:(fQ 0 rs).length<=100:=by rw [jg];exact hn
 obtain ⟨tl,c1,c2,c3⟩:=FJ rs 0 t h (Nat.zero_le _);generalize hm:((fQ 0 rs).filter fun e=>decide (e<=t)).length=m at c1 c3 ⊢;rw [Nat.sub_zero] at c1;have h':∀ c∈rs.take m,Ok c:=fun c hc=>h c (List.mem_of_mem_take hc);have hn':(rs.take m).length<=100:=by rw [List.length_take];omega
 have hl':(dX (rs.take m)++tl).length<=1000000:=by rw [<- c1,List.length_take];omega
 have r3:=l7 (rs.take m) tl h' c2 hl' hn';have r4:=xG (rs.take m) tl h' c2 hl' hn';rw [<- c1] at r3 r4;have w1:=ww rs h;have w3:=ww (rs.take m) h';have ok1:=wQ rs h hn _ he;have ok3:=wQ (rs.take m) h' hn' (fQ 0 (rs.take m)) (by rw [jg];exact hn');unfold zd;show (a9 [.str (ay (dX rs))]).bind _=_;rw [r1,ah,r2,ah];unfold BK;dsimp only;rw [if_pos ⟨by simp,by simp,by simp,by
  rw [List.all_eq_true];intro d hd;obtain ⟨c,hc,rfl⟩:=List.mem_map.mp hd
  have:=(h c hc).2.1
  exact decide_eq_true (by simp;omega),by simp;omega,by simp;omega⟩]
 have t1:∀ o:Option D,GO 9 [S,N,some (.lst (rs.map xM)),some (.int (m:Nat)),some (.str (ay (dX rs))),some (.lst ((fQ 0 rs).map fun e=>D.int (e:Nat))),o6,o7,some (.int (t:Nat)),some (.lst [.lsm (rs.map fun c=>D.lsm (c.map (·.1))),.lsm ((fQ 0 rs).map fun e=>D.int (e:Nat))]),o]=.ok false:=fun o =>
  qh (mf (ba (ac (vO (bE rfl rfl su)) (ac (vO (bE rfl rfl vE)) (ac rfl (ac rfl rfl)))) (by rw [w1,xt];exact ok1)) rfl)
 have t3:∀ o:Option D,qR [S,N,some (.lst (rs.map xM)),some (.int (m:Nat)),some (.str (ay (dX rs))),some (.lst ((fQ 0 rs).map fun e=>D.int (e:Nat))),o6,o7,some (.int (t:Nat)),o,some (.str (ay ((dX rs).take t)))]=.ok false:=fun o =>
  qh (mf (ba (ac (vO (ba (ac rfl rfl) r3)) (ac (vO (ba (ac rfl rfl) r4)) (ac (oO rfl rfl (dF rfl) Kw) (ac (oO rfl rfl (dF rfl) Kw) rfl)))) (by
   rw [w3,xt,BE,BE,<- List.map_take,<- List.map_take,c3];exact ok3)) rfl)
 show (GO 9 [S,N,_,_,_,_,o6,o7,_,_,none]).bind _=_;rw [t1 none,ah,if_neg Bool.false_ne_true];show (mN fJ (ae 4) c6 (bx (ae 8)) [S,N,_,_,some (.str (ay (dX rs))),_,o6,o7,some (.int (t:Nat)),_,none]).bind _=_;rw [oO rfl rfl (dF rfl) (Fw (dX rs) t hl),ah];show (qR [S,N,_,_,_,_,o6,o7,_,_,_]).bind _=_;rw [t3 _,ah,if_neg Bool.false_ne_true];show (GO 9 [S,N,_,_,_,_,o6,o7,_,_,_]).bind _=_;rw [t1 _,ah,if_neg Bool.false_ne_true];rfl
def GY {rs:List Cs} (h:∀ c∈rs,Ok c) (hn:rs.length<=100) (hl:(dX rs).length<=1000000) (ns:List Int) (N A o3 o6 o7:Option D) (T:FS) :
  ∃ t:Nat,(aw (aI 8 eT) (aw (cN qT (aI 8 eS) aF) T))
   [some (.lst (ns.map D.int)),N,A,o3,some (.str (ay (dX rs))),some (.lst ((fQ 0 rs).map fun e=>D.int (e:Nat))),o6,o7,none,none,none]
   = T [some (.lst (ns.map D.int)),N,A,o3,some (.str (ay (dX rs))),some (.lst ((fQ 0 rs).map fun e=>D.int (e:Nat))),o6,o7,some (.int (t:Nat)),none,none]:=by
 have c2:=wT ns 2 (by decide);generalize cell ns 2=c at c2;have m0:0<=c/4 % (((dX rs).length:Int)+1):=Int.emod_nonneg _ (by omega);obtain ⟨t0,et⟩:∃ t0:Nat,c/4 % (((dX rs).length:Int)+1)=(t0:Nat):=⟨_,(Int.toNat_of_nonneg m0).symm⟩;have sT:eT [some (.lst (ns.map D.int)),N,A,o3,some (.str (ay (dX rs))),some (.lst ((fQ 0 rs).map fun e=>D.int (e:Nat))),o6,o7,none,none,none]=.ok (.int (t0:Nat)):=(kW (rm (ba (ac rfl (ac rfl rfl)) c2) rfl) (jP (gW rfl (kU _ hl)) rfl) (by omega)).trans (by rw [et]);have e0:aw (aI 8 eT) (aw (cN qT (aI 8 eS) aF) T) [some (.lst (ns.map D.int)),N,A,o3,some (.str (ay (dX rs))),some (.lst ((fQ 0 rs).map fun e=>D.int (e:Nat))),o6,o7,none,none,none]=aw (cN qT (aI 8 eS) aF) T [some (.lst (ns.map D.int)),N,A,o3,some (.str (ay (dX rs))),some (.lst ((fQ 0 rs).map fun e=>D.int (e:Nat))),o6,o7,some (.int (t0:Nat)),none,none]:=bF (dw sT);have en:pY (.lst ((fQ 0 rs).map fun e=>D.int (e:Nat))) (.lst [])=.ok (.bl (!((fQ 0 rs).map fun e=>D.int (e:Nat)).isEmpty)):=ne_nil fun d hd=>by
  obtain ⟨e,_,rfl⟩:=List.mem_map.mp hd;exact (Py.int _).mono (by decide)
 have ind:∀ δ:Sd,δ=[some (.lst (ns.map D.int)),N,A,o3,some (.str (ay (dX rs))),some (.lst ((fQ 0 rs).map fun e=>D.int (e:Nat))),o6,o7,some (.int (t0:Nat)),none,none]->aj bg (aa (ae 0) (aa (vC (.int 2)) ak)) δ=.ok (.int c):=fun δ hδ=>by subst hδ;exact ba (ac rfl (ac rfl rfl)) c2
 have hc:=ind _ rfl;by_cases hr:rs=[]
 ·refine ⟨t0,e0.trans (skip (Nn ((ge (bE rfl (lR rfl) en)).trans ?_)))⟩;subst hr;rfl
 ·have hb:(!((fQ 0 rs).map fun e=>D.int (e:Nat)).isEmpty)=true:=by
   cases rs with
   | nil=>exact absurd rfl hr
   | cons _ _=>rfl
  rw [hb] at en;by_cases h3:c % 4 < 3
  ·have hpos:0 < rs.length:=by cases rs with
    | nil=>exact absurd rfl hr
    | cons _ _=>simp
   have q0:0<=c/4 % ((fQ 0 rs).length:Int):=Int.emod_nonneg _ (by rw [jg];omega);have q1:c/4 % ((fQ 0 rs).length:Int) < (fQ 0 rs).length:=Int.emod_lt_of_pos _ (by rw [jg];omega);obtain ⟨k,hk⟩:∃ k:Nat,c/4 % ((fQ 0 rs).length:Int)=(k:Nat):=⟨_,(Int.toNat_of_nonneg q0).symm⟩;have hkl:k < (fQ 0 rs).length:=by omega
   have hge:∀ (rs:List Cs) (s:Nat),(∀ c∈rs,Ok c)->∀ e∈fQ s rs,14<=e:=by
    intro rs;induction rs with
    | nil=>intro s _ e he;cases he
    | cons c r ih =>
     intro s h e he
     have:=pV (h c (by simp))
     rcases List.mem_cons.mp he with rfl|he
     ·omega
     ·exact ih _ (fun x hx=>h x (List.mem_cons_of_mem _ hx)) e he
   have h14:=hge rs 0 h _ (List.getElem_mem hkl);have hm0:0<=c % 4:=Int.emod_nonneg _ (by decide);obtain ⟨t,ht⟩:∃ t:Nat,((fQ 0 rs)[k]:Int)+c % 4 - 1=(t:Nat):=⟨(((fQ 0 rs)[k]:Int)+c % 4 - 1).toNat,by omega⟩;refine ⟨t,e0.trans (bF ((AY (IX (ge (bE rfl (lR rfl) en)) (ge (bE (kW hc rfl) rfl (FF.trans (congrArg (fun b=>R.ok (D.bl b)) (decide_eq_true h3))))))).trans ((dw (xh (jP (i:=((fQ 0 rs)[k]:Int)) (bE rfl (kW (rm hc rfl) (gW rfl (IS _ _)) (by rw [jg];omega)) (by
    rw [hk];exact Rc _ _ (List.getElem?_eq_getElem hkl))) (kW hc rfl)) rfl)).trans (by rw [ht];rfl))))⟩
  ·exact ⟨t0,e0.trans (skip (IX (ge (bE rfl (lR rfl) en)) (ge (bE (kW hc rfl) rfl (FF.trans (congrArg (fun b=>R.ok (D.bl b)) (decide_eq_false h3)))))))⟩
def law_true (ns:List Int) (hns:ns.length<=63):vD [.lst (ns.map D.int)]=.ok (.bl true):=by
 rw [MD,A9];obtain ⟨x,ex,hx⟩:=Br (cell ns 0);obtain ⟨y,ey,hy⟩:=Rn x (cell ns 1) hx;obtain ⟨cells,ecl,hcl⟩:=Ed ns;obtain ⟨rows,er,hr1,hr2,hr3⟩:=FC x y hx hy cells hcl;have c0:=wT ns 0 (by decide);have c1:=wT ns 1 (by decide);refine jC ((bF (wo (lR (ac (ba (ac (ba (ac rfl (ac rfl rfl)) c0) rfl) ex) rfl)))).trans ((bF (xC rfl (ba (ac (bE rfl rfl su) (ac (ba (ac rfl (ac rfl rfl)) c1) rfl)) ey) (by simp))).trans ((bF (wo (ba (ac rfl (ac (oO rfl (dF rfl) (dF rfl) ecl) rfl)) er))).trans ?_)))
 -- all rows
 have step:∀ (rows2:List (List D)) (o3:Option D),(∀ r∈rows2,r≠[]/\r.length<=500/\∀ d∈r,Chg d)->rows2.length<=42->(rows2.map List.length).sum<=440 ->
   (aw (aI 4 (vC (.str ""))) (aw (m3 5 (ee ak)) (aw (uq (b8 (ae 2)) (.one 6) fB) (aw (aI 8 eT) (aw (cN qT (aI 8 eS) aF) (aw (aI 3 lN) (aw (zd 9 10 7 4 a9 cp (GO 9) (mN fJ (ae 4) c6 (bx (ae 8))) qR (GO 9)) (a7 eR))))))))
    [some (.lst (ns.map D.int)),some (.lst [.str x,.str y]),some (.lst (rows2.map D.lst)),o3,none,none,none,none,none,none,none]=.ok (.rt (.bl true)):=by
  intro rows2 o3 h1 h2 h3;obtain ⟨rs,e,hok⟩:=BW rows2 h1;have hlen:rs.length<=42:=by rw [<- e,List.length_map] at h2;exact h2
  rw [<- e,sum_rows] at h3;have hcat:=BA rs hok;have hl:(dX rs).length<=1000000:=by omega
  have hn:rs.length<=100:=by omega
  rw [<- e,<- zc];obtain ⟨o6,o7,ef⟩:=Fh (some (.lst (ns.map D.int))) (some (.lst [.str x,.str y])) (some (.lst (rs.map xM))) o3 rs [] none none hok (by simpa using hl) (by simpa using hn);rw [List.nil_append] at ef;have e4:(.str (Str.ofString ""):D)=.str (ay (dX [])):=by rw [Q9];rfl
  have s1:gJ (.one 6) fB (rs.map xM) [some (.lst (ns.map D.int)),some (.lst [.str x,.str y]),some (.lst (rs.map xM)),o3,some (.str (Str.ofString "")),some (.lst []),none,none,none,none,none]=.ok (.nx [some (.lst (ns.map D.int)),some (.lst [.str x,.str y]),some (.lst (rs.map xM)),o3,some (.str (ay (dX rs))),some (.lst ((fQ 0 rs).map fun e=>D.int (e:Nat))),o6,o7,none,none,none]):=by rw [e4];exact ef
  refine (bF (dw rfl)).trans ((bF (wo (lR rfl))).trans ((bF (Lk (kR rfl rfl) s1)).trans ?_));obtain ⟨t,et⟩:=GY hok hn hl ns (some (.lst [.str x,.str y])) (some (.lst (rs.map xM))) o3 o6 o7 (aw (aI 3 lN) (aw (zd 9 10 7 4 a9 cp (GO 9) (mN fJ (ae 4) c6 (bx (ae 8))) qR (GO 9)) (a7 eR)));refine et.trans ?_;have he:(fQ 0 rs).length<=1000:=by rw [jg];omega
  have r1:a9 [.str (ay (dX rs))]=.ok (.lsm (rs.map fun c=>D.lsm (c.map (·.1)))):=by
   have:=l7 rs [] hok nR (by simpa using hl) hn
   rwa [List.append_nil] at this
  have r2:cp [.str (ay (dX rs))]=.ok (.lsm ((fQ 0 rs).map fun e=>D.int (e:Nat))):=by
   have:=xG rs [] hok nR (by simpa using hl) hn
   rwa [List.append_nil] at this
  refine (bF (dw (gW (dG (kR rfl rfl) (w9 (rest:=[some (.int (t:Nat))]) (fun e:Nat=>D.int (e:Nat)) (fun e:Nat=>D.int (e:Nat)) (fun e=>decide (e<=t)) (fQ 0 rs) (fun e _=>ge (bE rfl rfl (KN.trans (congrArg (fun b=>R.ok (D.bl b)) (decide_eq_decide.mpr Int.ofNat_le))))) (fun e _ _=>rfl) he)) (IS _ _)))).trans ((bF (LQ hok hn hl t _ _ o6 o7)).trans (jZ (ba (ac (vO (ba (ac rfl rfl) r1)) (ac (vO (ba (ac rfl rfl) r2)) (ac rfl (ac rfl rfl)))) ?_)));rw [ww rs hok,xt];exact wQ rs hok hn _ (by rw [jg];exact hn)
 have hall:∀ r∈rows,r≠[]/\r.length<=500/\∀ d∈r,Chg d:=fun r hr=>⟨(hr3 r hr).1,by
  have:∀ (xs:List (List D)),r∈xs->r.length<=(xs.map List.length).sum:=by
   intro xs;induction xs with
   | nil=>intro z;cases z
   | cons a b ih =>
    intro z;rcases List.mem_cons.mp z with rfl|z
    ·simp
    ·have:=ih z;simp;omega
  have:=this rows hr
  omega,(hr3 r hr).2⟩
 have hq:∀ δ:Sd,δ=[some (.lst (ns.map D.int)),some (.lst [.str x,.str y]),some (.lst (rows.map D.lst)),none,none,none,none,none,none,none,none]->aj bg (aa (ae 0) (aa (vC (.int 1)) ak)) δ=.ok (.int (cell ns 1)):=fun δ hδ=>by subst hδ;exact ba (ac rfl (ac rfl rfl)) c1
 have hq1:=hq _ rfl;by_cases h8:cell ns 1/8 % 4=1
 ·have m0:0<=cell ns 1/32 % 400:=Int.emod_nonneg _ (by decide);have m1:cell ns 1/32 % 400 < 400:=Int.emod_lt_of_pos _ (by decide);obtain ⟨n,hn⟩:∃ n:Nat,cell ns 1/32 % 400=(n:Int) - 1:=⟨(cell ns 1/32 % 400+1).toNat,by omega⟩;obtain ⟨r,e1,e2,e3⟩:=F8 x y hx n (by omega) (δ:=[some (.lst (ns.map D.int)),some (.lst [.str x,.str y]),some (.lst (rows.map D.lst)),some (.int ((n:Int) - 1)),none,none,none,none,none,none,none]) rfl rfl;have s4:aI 3 (ap bv (ap cA (aj bg (aa (ae 0) (aa (vC (.int 1)) ak))) (vC (.int 32))) (vC (.int 400))) [some (.lst (ns.map D.int)),some (.lst [.str x,.str y]),some (.lst (rows.map D.lst)),none,none,none,none,none,none,none,none]=.ok (.nx [some (.lst (ns.map D.int)),some (.lst [.str x,.str y]),some (.lst (rows.map D.lst)),some (.int ((n:Int) - 1)),none,none,none,none,none,none,none]):=(dw (kW (rm hq1 rfl) rfl)).trans (by rw [hn];rfl);refine (bF ((AY ((An (kW (rm hq1 rfl) rfl) rfl).trans (by rw [decide_eq_true h8]))).trans ((bF s4).trans (xC rfl e1 (by rw [List.length_map];omega))))).trans ?_
  have:=step (rows++[r]) (some (.int ((n:Int) - 1))) (fun r' hr'=>by
   rcases List.mem_append.mp hr' with z|z
   ·exact hall r' z
   ·rw [List.mem_singleton.mp z];exact ⟨fun z=>by rw [z] at e2;simp at e2;omega,by omega,e3⟩) (by simp;omega) (by simp;omega)
  rw [List.map_append] at this;exact this
 ·exact (skip ((An (kW (rm hq1 rfl) rfl) rfl).trans (by rw [decide_eq_false h8]))).trans (step rows none hall (by omega) (by omega))
end T52
noncomputable section
namespace HD
open PySem PySem.W PySem.Calls PyProof.Rows
abbrev p:Program:=PySem.Challenge.pw_tablestore_k52_cut_anywhere
def bd:List Stmt:=behindTheImports p
def S (i:Nat):Stmt:=match p.main.body[i]? with|some s=>s|none=>.Pass default
def dA (s:Stmt):Arguments:=match s with
 | .FunctionDef _ a _ _ _ _ _ _ _ _=>a
 | _=>⟨[],[],none,[],[],none,[]⟩
def dB (s:Stmt):List Stmt:=match s with
 | .FunctionDef _ _ b _ _ _ _ _ _ _=>b
 | _=>[]
def dS (s:Stmt):Scope:=match s with
 | .FunctionDef _ _ _ _ _ _ sc _ _ _=>sc
 | _=>{ kind:=.function,names:=[],isGenerator:=false,isCoroutine:=false }
def fn (s:Stmt) (n qn:Str) (g:Addr) (cl:List (Str×Addr)) (d kd doc pm:Value) (an:Option Addr) (cd ct:Value) (bl:Addr):FuncData:=⟨n,qn,dA s,.stmts (dB s),dS s,g,cl,d,kd,doc,pm,an,cd,ct,bl⟩
def dN (s:Stmt):Str:=match s with
 | .FunctionDef n _ _ _ _ _ _ _ _ _=>n
 | _=>""
def tu (l:List Value):Obj:=⟨.type "tuple",none,.seq l.toArray 0,#[]⟩
def tn (t:Nat):List Str->List Value
 | []=>[]
 | x::r=>.str x t::tn (t+1) r
def tr (k:Int):List (Int×Nat)->List Value
 | []=>[]
 | x::r=>.int x.1 0::.int k 0::.ref x.2::tr k r
def fi (l:List Value):Obj:=⟨.none,none,.fields l.toArray,#[]⟩
def fu (s:Stmt) (m:Value) (c:Nat):Obj:=⟨.type "function",none,.func (fn s (dN s) (dN s) 3 [] .none .none .none m none (.ref c) .none 0),#[]⟩
def pr (s:Stmt):Obj:=⟨.none,none,.func (fn s (dN s) (dN s) 0 [] .none .none .none .none none .none .none 0),#[]⟩
def co (n q:Str) (t:Nat) (l a b c d:Int) (v:Nat) (o:Bool) (u:Nat) (x y z:Value) (k:Nat):Obj:=⟨.type "code",none,.fields #[.str n t,.str q (t+1),.str "/claim/cut.py" (t+2),.int l 0,.int a 0,.int b 0,.int c 0,.int d 0,.ref v,.bool o,.int 181 0,.ref u,.none,x,y,z,.int k 0,.int l 0,.str "/claim/cut.py" (k+1)],#[]⟩
abbrev nd:=BT.node
def ke (P:Params) (x:Str) (t:Nat) (v:Value):DictEntry:=⟨PyData.keyHash P x,.str x t,v⟩
def en:Env:={ scope:=p.main.scope,locals:=mainNs,globals:=mainNs,cells:=[],code:=(.ref 13),frame:=some 14 }
def cE:Code:=.body bd en
abbrev fq:Pos:=⟨0,0,0,0⟩
def bm:Obj:=tu []
def ck:Obj:=fi []
def Rq:Obj:=co "<module>" "<module>" 182 1 0 0 0 0 11 false 12 .none .none .none 185
def QR (x0:Nat) (x1:Nat) (x2:Str) (x3:Nat):Obj:=⟨(.type "frame"),none,.plain,#[(some (.ref x0)),(some (.ref 3)),(some (.ref x1)),none,(some (.str x2 x3)),none,(some (.ref 0))]⟩
def R4:Obj:=QR 13 3 "__main__" 164
def T0 (P:Params):BT:=nd (boot_o_0 P) (nd (boot_o_1 P) (nd (boot_o_3 P) (nd (boot_o_7 P) .nil .nil) (nd bm .nil .nil)) (nd (boot_o_5 P) (nd (boot_o_9 P) .nil .nil) (nd Rq .nil .nil))) (nd (boot_o_2 P) (nd (boot_o_4 P) (nd (boot_o_8 P) .nil .nil) (nd ck .nil .nil)) (nd (boot_o_6 P) (nd (boot_o_10 P) .nil .nil) (nd R4 .nil .nil)))
def rA (w:World) (os:OsState):topGo treeTable p w 11 (some (.ref 6)) 12 ⟨boot_heap w.params,Array.mk [],boot_drawn,boot_toks,os⟩ (topStub p)=some ((⟨T0 w.params,15,{},#[],{},187,os⟩:SharedT).abs,⟨denote treeTable cE,cE,⟨0,0,0,0⟩,[topFrame fq]⟩):=by
 rw [PySem.W.Fast.te15667345088766844465,PySem.W.Fast.te14364793385576792824,PySem.W.Fast.te11892475500146522536];kernel_rfl
def rB (w:World) (os:OsState):segRunT treeTable p w 11 (some (.ref 6)) 1 1 (⟨T0 w.params,15,{},#[],{},187,os⟩:SharedT) (blockOf bd en cE ⟨0,0,0,0⟩ [topFrame fq])=some (.next,(⟨T0 w.params,15,{},#[],{},187,os⟩:SharedT),cE,⟨0,0,0,0⟩):=by
 rw [PySem.W.Fast.te10110043849684766642,PySem.W.Fast.te14364793385576792824];kernel_rfl
def Pe (P:Params):Obj:=⟨(.type "dict"),none,(.dict #[ke P "__name__" 165 (.str "law_tablestore_k52_cut_anywhere" 495),ke P "__doc__" 166 .none,ke P "__package__" 167 .none,ke P "__loader__" 168 (.builtin "__main__.__loader__#opaque"),ke P "__spec__" 169 .none,ke P "__annotations__" 170 (.ref 6),ke P "__builtins__" 171 (.ref 4),ke P "__file__" 173 (.str "/claim/cut.py" 172),ke P "__cached__" 174 .none,ke P "TableError" 206 (.ref 24),ke P "BadValue" 222 (.ref 37),ke P "BadLog" 238 (.ref 49),ke P "FIGURES" 242 (.str "0123456789" 241),ke P "MOST_SIGNS" 244 (.int 40 243),ke P "MOST_FIGURES_values" 246 (.int 18 245),ke P "is_value" 252 (.ref 56),ke P "is_sign" 259 (.ref 63),ke P "written" 266 (.ref 70),ke P "read_value" 273 (.ref 77),ke P "read_text" 282 (.ref 84),ke P "read_number" 288 (.ref 89),ke P "read_values" 294 (.ref 94),ke P "pieces_of" 306 (.ref 101),ke P "MOST_ROW_NUMBER" 310 (.int 1000000000 309),ke P "is_row_number" 317 (.ref 108),ke P "NO_NAMES" 331 (.ref 109),ke P "COLUMN_KINDS" 334 (.ref 110),ke P "MOST_LETTERS" 336 (.int 8 335),ke P "MOST_COLUMNS" 338 (.int 8 337),ke P "is_name" 344 (.ref 115),ke P "is_letter" 351 (.ref 122),ke P "is_shape" 358 (.ref 129),ke P "is_pair" 365 (.ref 136),ke P "are_columns" 371 (.ref 141),ke P "is_column" 378 (.ref 148),ke P "is_column_kind" 385 (.ref 155),ke P "MOST_FIGURES_records" 389 (.int 10 388),ke P "MOST_VALUES" 391 (.int 8 390),ke P "SIZE_FIGURES" 393 (.int 9 392),ke P "RECORD_END" 395 (.str (PySem.Str.mk (List.toArray [101,110,100,10])) 394),ke P "change_text" 403 (.ref 162),ke P "table_text" 412 (.ref 169),ke P "row_text" 418 (.ref 174),ke P "read_change" 426 (.ref 181),ke P "read_table" 432 (.ref 186),ke P "read_put" 444 (.ref 193),ke P "read_row_number" 450 (.ref 198),ke P "record" 456 (.ref 203),ke P "HEAD_SIGNS" 460 (.int 10 459),ke P "read_records" 466 (.ref 208),ke P "ends_in" 472 (.ref 213),ke P "whole_records" 482 (.ref 220),ke P "record_end" 488 (.ref 225),ke P "changes_between" 494 (.ref 230),ke P "_law_whole" 503 (.ref 237),ke P "_law_cell_at" 511 (.ref 244),ke P "_law_mixed" 518 (.ref 251),ke P "_law_name_by" 529 (.ref 258),ke P "_law_twin" 541 (.ref 265),ke P "_law_shape_by" 555 (.ref 272),ke P "_law_text_by" 567 (.ref 279),ke P "_law_value_by" 575 (.ref 286),ke P "_law_row_by" 585 (.ref 293),ke P "_law_written" 592 (.ref 300),ke P "_law_line" 598 (.ref 305),ke P "_law_record" 604 (.ref 310),ke P "_law_change_by" 615 (.ref 317),ke P "_law_lists_by" 621 (.ref 322),ke P "_law_read" 627 (.ref 327),ke P "law" 633 (.ref 332)] 70),#[]⟩
def Ik:Obj:=fi (tr 0 [(2,20),(4,33),(6,45),(12,55),(18,62),(20,69),(26,76),(32,83),(42,88),(51,93),(55,100),(69,107),(76,114),(80,121),(82,128),(84,135),(86,140),(93,147),(95,154),(102,161),(111,168),(116,173),(118,180),(131,185),(139,192),(152,197),(159,202),(164,207),(166,212),(168,219),(177,224),(186,229),(194,236),(196,243),(200,250),(202,257),(212,264),(220,271),(232,278),(243,285),(251,292),(257,299),(263,304),(269,309),(273,316),(288,321),(296,326),(302,331)])
def Sc:Obj:=tu [.type "ValueError"]
def L6:Obj:=⟨(.type "builtin_function_or_method"),none,(.fields #[(.builtin "type.__prepare__"),(.type "type")]),#[]⟩
def Q6 (P:Params) (x0:Nat) (x1:Str) (x2:Int) (x3:Nat):Obj:=⟨(.type "dict"),none,(.dict #[ke P "__module__" x0 (.str "tablestore.errors" 187),ke P "__qualname__" (x0+2) (.str x1 (x0+1)),ke P "__firstlineno__" (x0+4) (.int x2 (x0+3)),ke P "__static_attributes__" (x0+5) (.ref x3)] 4),#[]⟩
def S5 (P:Params):Obj:=Q6 P 196 "TableError" 2 22
def SU:Obj:=co "TableError" "TableError" 191 2 0 0 0 0 18 false 19 .none .none .none 194
def Sl:Obj:=QR 20 17 "tablestore.errors" 187
def Ti (P:Params):Obj:=⟨(.type "dict"),none,(.dict #[ke P "__module__" 196 (.str "tablestore.errors" 187),ke P "__firstlineno__" 200 (.int 2 199),ke P "__static_attributes__" 201 (.ref 22),ke P "__weakref__" 203 (.ref 25),ke P "__doc__" 204 .none] 3),#[]⟩
def SD:Obj:=⟨(.type "type"),none,(.cls { name:="TableError",bases:=[(.type "ValueError")],mro:=[(.ref 24),(.type "ValueError"),(.type "Exception"),(.type "BaseException"),(.type "object")],ns:=23,qualname:="TableError",hasDict:=true,slotNames:=[],subclasses:=[(.ref 37),(.ref 49)],abstract:=false,collection:=none,hasDel:=false }),#[(some (.ref 15)),none,(some (.str "TableError" 189)),(some (.str "TableError" 197)),(some (.builtin "ValueError.__new__")),(some (.bool true))]⟩
def SZ:Obj:=⟨(.type "getset_descriptor"),none,(.fields #[(.str "__weakref__" 202),(.ref 24),(.builtin "ExceptionGroup.__weakref__"),.none]),#[]⟩
def RL (x0:Nat):Obj:=⟨(.type "super"),none,(.fields #[(.ref x0),(.ref x0),(.ref x0)]),#[]⟩
def SO:Obj:=RL 24
def RO (x0:Nat):Obj:=⟨(.type "builtin_function_or_method"),none,(.fields #[(.builtin "object.__init_subclass__"),(.ref x0)]),#[]⟩
def SH:Obj:=RO 24
def Q0:Obj:=tu [.ref 24]
def Sg (P:Params):Obj:=Q6 P 214 "BadValue" 4 35
def Sq:Obj:=co "BadValue" "BadValue" 209 4 0 0 0 0 31 false 32 .none .none .none 212
def SM:Obj:=QR 33 30 "tablestore.errors" 187
def SJ (P:Params):Obj:=⟨(.type "dict"),none,(.dict #[ke P "__module__" 214 (.str "tablestore.errors" 187),ke P "__firstlineno__" 218 (.int 4 217),ke P "__static_attributes__" 219 (.ref 35),ke P "__doc__" 220 .none] 2),#[]⟩
def Td:Obj:=⟨(.type "type"),none,(.cls { name:="BadValue",bases:=[(.ref 24)],mro:=[(.ref 37),(.ref 24),(.type "ValueError"),(.type "Exception"),(.type "BaseException"),(.type "object")],ns:=36,qualname:="BadValue",hasDict:=true,slotNames:=[],subclasses:=[],abstract:=false,collection:=none,hasDel:=false }),#[(some (.ref 28)),none,(some (.str "BadValue" 207)),(some (.str "BadValue" 215)),(some (.builtin "ValueError.__new__")),(some (.bool true))]⟩
def SN:Obj:=RL 37
def S2:Obj:=RO 37
def S8 (P:Params):Obj:=Q6 P 230 "BadLog" 6 47
def SV:Obj:=co "BadLog" "BadLog" 225 6 0 0 0 0 43 false 44 .none .none .none 228
def ST:Obj:=QR 45 42 "tablestore.errors" 187
def Se (P:Params):Obj:=⟨(.type "dict"),none,(.dict #[ke P "__module__" 230 (.str "tablestore.errors" 187),ke P "__firstlineno__" 234 (.int 6 233),ke P "__static_attributes__" 235 (.ref 47),ke P "__doc__" 236 .none] 2),#[]⟩
def SF:Obj:=⟨(.type "type"),none,(.cls { name:="BadLog",bases:=[(.ref 24)],mro:=[(.ref 49),(.ref 24),(.type "ValueError"),(.type "Exception"),(.type "BaseException"),(.type "object")],ns:=48,qualname:="BadLog",hasDict:=true,slotNames:=[],subclasses:=[],abstract:=false,collection:=none,hasDel:=false }),#[(some (.ref 40)),none,(some (.str "BadLog" 223)),(some (.str "BadLog" 231)),(some (.builtin "ValueError.__new__")),(some (.bool true))]⟩
def Tj:Obj:=RL 49
def Sx:Obj:=RO 49
def Sv:Obj:=pr (S 8)
def SQ:Obj:=co "is_value" "is_value" 247 12 1 0 0 3 52 true 53 .none .none (.ref 54) 250
def m239:Value:=.str "tablestore.values" 239
def Sa:Obj:=fu (S 8) m239 55
def Sz:Obj:=tu (tn 256 ["sign"])
def Tf:Obj:=pr (S 9)
def SA:Obj:=co "is_sign" "is_sign" 253 18 1 0 0 3 57 true 58 (.ref 59) (.ref 60) (.ref 61) 257
def Sh:Obj:=fu (S 9) m239 62
def Sf:Obj:=tu (tn 263 ["value"])
def Si:Obj:=pr (S 10)
def S9:Obj:=co "written" "written" 260 20 1 0 0 3 64 true 65 (.ref 66) (.ref 67) (.ref 68) 264
def S7:Obj:=fu (S 10) m239 69
def SL:Obj:=tu (tn 270 ["line"])
def Sm:Obj:=pr (S 11)
def SK:Obj:=co "read_value" "read_value" 267 26 1 0 0 3 71 true 72 (.ref 73) (.ref 74) (.ref 75) 271
def Tg:Obj:=fu (S 11) m239 76
def Sy:Obj:=tu (tn 277 ["line","inner","text"])
def SG:Obj:=pr (S 12)
def SS:Obj:=co "read_text" "read_text" 274 32 1 0 0 3 78 true 79 (.ref 80) (.ref 81) (.ref 82) 280
def R9:Obj:=fu (S 12) m239 83
def Sb:Obj:=pr (S 13)
def Tc:Obj:=co "read_number" "read_number" 283 42 1 0 0 3 85 true 86 .none .none (.ref 87) 286
def SW:Obj:=fu (S 13) m239 88
def Th:Obj:=pr (S 14)
def Ss:Obj:=co "read_values" "read_values" 289 51 1 0 0 3 90 true 91 .none .none (.ref 92) 292
def S6:Obj:=fu (S 14) m239 93
def SR:Obj:=tu (tn 298 ["line","pieces","start","in_text","place","sign"])
def Su:Obj:=pr (S 15)
def OX:Obj:=co "pieces_of" "pieces_of" 295 55 1 0 0 3 95 true 96 (.ref 97) (.ref 98) (.ref 99) 304
def Mo:Obj:=fu (S 15) m239 100
def QG:Obj:=tu (tn 314 ["thing"])
def O4:Obj:=pr (S 18)
def N4:Obj:=co "is_row_number" "is_row_number" 311 69 1 0 0 3 102 true 103 (.ref 104) (.ref 105) (.ref 106) 315
def m307:Value:=.str "tablestore.ordered" 307
def OU:Obj:=fu (S 18) m307 107
def Qz:Obj:=tu (tn 320 ["and","by","down","from","none","not","or","order","show","take","where"])
def Qf:Obj:=tu (tn 332 ["number","text"])
def PR:Obj:=pr (S 24)
def P7:Obj:=co "is_name" "is_name" 339 76 1 0 0 3 111 true 112 .none .none (.ref 113) 342
def m318:Value:=.str "tablestore.shapes" 318
def Md:Obj:=fu (S 24) m318 114
def O6:Obj:=tu (tn 348 ["sign"])
def NR:Obj:=pr (S 25)
def Ol:Obj:=co "is_letter" "is_letter" 345 80 1 0 0 3 116 true 117 (.ref 118) (.ref 119) (.ref 120) 349
def NC:Obj:=fu (S 25) m318 121
def Np:Obj:=tu (tn 355 ["thing"])
def OH:Obj:=pr (S 26)
def PZ:Obj:=co "is_shape" "is_shape" 352 82 1 0 0 3 123 true 124 (.ref 125) (.ref 126) (.ref 127) 356
def PB:Obj:=fu (S 26) m318 128
def M2:Obj:=tu (tn 362 ["thing"])
def Nw:Obj:=pr (S 27)
def OZ:Obj:=co "is_pair" "is_pair" 359 84 1 0 0 3 130 true 131 (.ref 132) (.ref 133) (.ref 134) 363
def Nq:Obj:=fu (S 27) m318 135
def Oi:Obj:=pr (S 28)
def Pl:Obj:=co "are_columns" "are_columns" 366 86 1 0 0 3 137 true 138 .none .none (.ref 139) 369
def OF:Obj:=fu (S 28) m318 140
def Oh:Obj:=tu (tn 375 ["thing"])
def MR:Obj:=pr (S 29)
def Qs:Obj:=co "is_column" "is_column" 372 93 1 0 0 3 142 true 143 (.ref 144) (.ref 145) (.ref 146) 376
def ND:Obj:=fu (S 29) m318 147
def M6:Obj:=tu (tn 382 ["thing"])
def PD:Obj:=pr (S 30)
def MT:Obj:=co "is_column_kind" "is_column_kind" 379 95 1 0 0 3 149 true 150 (.ref 151) (.ref 152) (.ref 153) 383
def Nj:Obj:=fu (S 30) m318 154
def PJ:Obj:=tu (tn 399 ["change","words"])
def O5:Obj:=pr (S 36)
def PF:Obj:=co "change_text" "change_text" 396 102 1 0 0 3 156 true 157 (.ref 158) (.ref 159) (.ref 160) 401
def m386:Value:=.str "tablestore.records" 386
def NY:Obj:=fu (S 36) m386 161
def Nc:Obj:=tu (tn 407 ["shape","words","column"])
def QI:Obj:=pr (S 37)
def O0:Obj:=co "table_text" "table_text" 404 111 1 0 0 3 163 true 164 (.ref 165) (.ref 166) (.ref 167) 410
def Qp:Obj:=fu (S 37) m386 168
def QD:Obj:=pr (S 38)
def Oc:Obj:=co "row_text" "row_text" 413 116 1 0 0 3 170 true 171 .none .none (.ref 172) 416
def NK:Obj:=fu (S 38) m386 173
def N6:Obj:=tu (tn 422 ["line","words"])
def O7:Obj:=pr (S 39)
def P6:Obj:=co "read_change" "read_change" 419 118 1 0 0 3 175 true 176 (.ref 177) (.ref 178) (.ref 179) 424
def MC:Obj:=fu (S 39) m386 180
def Qi:Obj:=pr (S 40)
def Oj:Obj:=co "read_table" "read_table" 427 131 1 0 0 3 182 true 183 .none .none (.ref 184) 430
def Me:Obj:=fu (S 40) m386 185
def PV:Obj:=tu (tn 436 ["line","named","numbered","number","values","error"])
def Mp:Obj:=pr (S 41)
def Mh:Obj:=co "read_put" "read_put" 433 139 1 0 0 3 187 true 188 (.ref 189) (.ref 190) (.ref 191) 442
def MF:Obj:=fu (S 41) m386 192
def Mn:Obj:=pr (S 42)
def Mb:Obj:=co "read_row_number" "read_row_number" 445 152 1 0 0 3 194 true 195 .none .none (.ref 196) 448
def MQ:Obj:=fu (S 42) m386 197
def PM:Obj:=pr (S 43)
def M9:Obj:=co "record" "record" 451 159 1 0 0 3 199 true 200 .none .none (.ref 201) 454
def N0:Obj:=fu (S 43) m386 202
def Ox:Obj:=pr (S 46)
def Qv:Obj:=co "read_records" "read_records" 461 164 1 0 0 3 204 true 205 .none .none (.ref 206) 464
def m457:Value:=.str "tablestore.journals" 457
def P3:Obj:=fu (S 46) m457 207
def OJ:Obj:=pr (S 47)
def Qu:Obj:=co "ends_in" "ends_in" 467 166 1 0 0 3 209 true 210 .none .none (.ref 211) 470
def Px:Obj:=fu (S 47) m457 212
def My:Obj:=tu (tn 476 ["text","records","start","end"])
def OL:Obj:=pr (S 48)
def Qt:Obj:=co "whole_records" "whole_records" 473 168 1 0 0 3 214 true 215 (.ref 216) (.ref 217) (.ref 218) 480
def Pj:Obj:=fu (S 48) m457 219
def Pg:Obj:=pr (S 49)
def Pb:Obj:=co "record_end" "record_end" 483 177 2 0 0 3 221 true 222 .none .none (.ref 223) 486
def M8:Obj:=fu (S 49) m457 224
def QJ:Obj:=pr (S 50)
def Mm:Obj:=co "changes_between" "changes_between" 489 186 3 0 0 3 226 true 227 .none .none (.ref 228) 492
def NQ:Obj:=fu (S 50) m457 229
def OI:Obj:=tu (tn 500 ["_law_found"])
def Nh:Obj:=pr (S 52)
def Ng:Obj:=co "_law_whole" "_law_whole" 497 194 1 0 0 3 231 true 232 (.ref 233) (.ref 234) (.ref 235) 501
def m495:Value:=.str "law_tablestore_k52_cut_anywhere" 495
def O3:Obj:=fu (S 52) m495 236
def NM:Obj:=tu (tn 507 ["_law_script","_law_k"])
def Ml:Obj:=pr (S 53)
def Mt:Obj:=co "_law_cell_at" "_law_cell_at" 504 196 2 0 0 3 238 true 239 (.ref 240) (.ref 241) (.ref 242) 509
def Mx:Obj:=fu (S 53) m495 243
def MP:Obj:=tu (tn 515 ["_law_number"])
def NB:Obj:=pr (S 54)
def MB:Obj:=co "_law_mixed" "_law_mixed" 512 200 1 0 0 3 245 true 246 (.ref 247) (.ref 248) (.ref 249) 516
def MX:Obj:=fu (S 54) m495 250
def Pn:Obj:=tu (tn 522 ["_law_cell","_law_some","_law_found","_law_number","_law_k"])
def MJ:Obj:=pr (S 55)
def OO:Obj:=co "_law_name_by" "_law_name_by" 519 202 1 0 0 3 252 true 253 (.ref 254) (.ref 255) (.ref 256) 527
def Po:Obj:=fu (S 55) m495 257
def Pc:Obj:=tu (tn 533 ["_law_name","_law_cell","_law_some","_law_at","_law_step","_law_found"])
def Oy:Obj:=pr (S 56)
def Mc:Obj:=co "_law_twin" "_law_twin" 530 212 2 0 0 3 259 true 260 (.ref 261) (.ref 262) (.ref 263) 539
def Nk:Obj:=fu (S 56) m495 264
def Mj:Obj:=tu (tn 545 ["_law_name","_law_cell","_law_base","_law_many","_law_columns","_law_more","_law_j","_law_column"])
def Pp:Obj:=pr (S 57)
def Ms:Obj:=co "_law_shape_by" "_law_shape_by" 542 220 2 0 0 3 266 true 267 (.ref 268) (.ref 269) (.ref 270) 553
def PC:Obj:=fu (S 57) m495 271
def MH:Obj:=tu (tn 559 ["_law_cell","_law_some","_law_size","_law_found","_law_number","_law_k"])
def MV:Obj:=pr (S 58)
def Ny:Obj:=co "_law_text_by" "_law_text_by" 556 232 1 0 0 3 273 true 274 (.ref 275) (.ref 276) (.ref 277) 565
def Pk:Obj:=fu (S 58) m495 278
def OB:Obj:=tu (tn 571 ["_law_kind","_law_cell"])
def OK:Obj:=pr (S 59)
def NF:Obj:=co "_law_value_by" "_law_value_by" 568 243 2 0 0 3 280 true 281 (.ref 282) (.ref 283) (.ref 284) 573
def Nz:Obj:=fu (S 59) m495 285
def PU:Obj:=tu (tn 579 ["_law_shape","_law_cell","_law_found","_law_column"])
def QH:Obj:=pr (S 60)
def Pm:Obj:=co "_law_row_by" "_law_row_by" 576 251 2 0 0 3 287 true 288 (.ref 289) (.ref 290) (.ref 291) 583
def PH:Obj:=fu (S 60) m495 292
def MZ:Obj:=tu (tn 589 ["_law_value"])
def PP:Obj:=pr (S 61)
def NJ:Obj:=co "_law_written" "_law_written" 586 257 1 0 0 3 294 true 295 (.ref 296) (.ref 297) (.ref 298) 590
def Pa:Obj:=fu (S 61) m495 299
def Nf:Obj:=pr (S 62)
def MM:Obj:=co "_law_line" "_law_line" 593 263 1 0 0 3 301 true 302 .none .none (.ref 303) 596
def OT:Obj:=fu (S 62) m495 304
def Oo:Obj:=pr (S 63)
def N5:Obj:=co "_law_record" "_law_record" 599 269 1 0 0 3 306 true 307 .none .none (.ref 308) 602
def Nv:Obj:=fu (S 63) m495 309
def No:Obj:=tu (tn 608 ["_law_names","_law_cell","_law_name","_law_shape","_law_number"])
def QC:Obj:=pr (S 64)
def PX:Obj:=co "_law_change_by" "_law_change_by" 605 273 2 0 0 3 311 true 312 (.ref 313) (.ref 314) (.ref 315) 613
def N8:Obj:=fu (S 64) m495 316
def OW:Obj:=pr (S 65)
def Mz:Obj:=co "_law_lists_by" "_law_lists_by" 616 288 2 0 0 3 318 true 319 .none .none (.ref 320) 619
def MI:Obj:=fu (S 65) m495 321
def P5:Obj:=pr (S 66)
def Qq:Obj:=co "_law_read" "_law_read" 622 296 4 0 0 3 323 true 324 .none .none (.ref 325) 625
def Ow:Obj:=fu (S 66) m495 326
def PN:Obj:=pr (S 67)
def Qw:Obj:=co "law" "law" 628 302 1 0 0 3 328 true 329 .none .none (.ref 330) 631
def NZ:Obj:=fu (S 67) m495 331
def g0:List Stmt:=(bd.drop 0).take 68
def T1 (P:Params):BT:=nd (boot_o_0 P) (nd (boot_o_1 P) (nd (Pe P) (nd (boot_o_7 P) (nd Sc (nd bm (nd Sh (nd OH (nd bm .nil .nil) .nil) (nd Mp (nd ck .nil .nil) .nil)) (nd bm (nd bm (nd bm .nil .nil) .nil) (nd Pg .nil .nil))) (nd bm (nd ck (nd ck (nd Ms .nil .nil) .nil) (nd Qv .nil .nil)) (nd bm (nd bm (nd Nf .nil .nil) .nil) (nd ck .nil .nil)))) (nd (Ti P) (nd S2 (nd bm (nd OZ (nd Oy .nil .nil) .nil) (nd bm (nd Ow .nil .nil) .nil)) (nd ck (nd QI (nd ck .nil .nil) .nil) (nd bm .nil .nil))) (nd SQ (nd Sb (nd M6 (nd Pk .nil .nil) .nil) (nd ck .nil .nil)) (nd bm (nd ck (nd bm .nil .nil) .nil) (nd MP .nil .nil))))) (nd bm (nd ck (nd bm (nd bm (nd ck (nd bm .nil .nil) .nil) (nd ck (nd bm .nil .nil) .nil)) (nd Su (nd bm (nd QH .nil .nil) .nil) (nd ck .nil .nil))) (nd Sx (nd SS (nd Qs (nd MH .nil .nil) .nil) (nd OJ .nil .nil)) (nd Md (nd O7 (nd ck .nil .nil) .nil) (nd Mt .nil .nil)))) (nd SH (nd bm (nd Sm (nd Oi (nd ck .nil .nil) .nil) (nd N0 (nd Qw .nil .nil) .nil)) (nd N4 (nd ck (nd NJ .nil .nil) .nil) (nd Nh .nil .nil))) (nd Sz (nd ck (nd Nj (nd bm .nil .nil) .nil) (nd Qt .nil .nil)) (nd bm (nd bm (nd QC .nil .nil) .nil) (nd MX .nil .nil)))))) (nd (boot_o_5 P) (nd (boot_o_9 P) (nd (S5 P) (nd Sq (nd ck (nd PB (nd OO .nil .nil) .nil) (nd MF (nd Mz .nil .nil) .nil)) (nd SR (nd PF (nd PU .nil .nil) .nil) (nd M8 .nil .nil))) (nd SF (nd bm (nd bm (nd bm .nil .nil) .nil) (nd bm .nil .nil)) (nd PR (nd N6 (nd OT .nil .nil) .nil) (nd bm .nil .nil)))) (nd SZ (nd L6 (nd SL (nd bm (nd Nk .nil .nil) .nil) (nd PM (nd ck .nil .nil) .nil)) (nd bm (nd Qp (nd bm .nil .nil) .nil) (nd OI .nil .nil))) (nd bm (nd SW (nd PD (nd ck .nil .nil) .nil) (nd bm .nil .nil)) (nd Ol (nd Oj (nd No .nil .nil) .nil) (nd NB .nil .nil))))) (nd Rq (nd Sl (nd Td (nd S9 (nd bm (nd Pc .nil .nil) .nil) (nd Mb (nd P5 .nil .nil) .nil)) (nd Mo (nd Nc (nd PH .nil .nil) .nil) (nd Mm .nil .nil))) (nd ck (nd bm (nd bm (nd MV .nil .nil) .nil) (nd Px .nil .nil)) (nd ck (nd MC (nd N5 .nil .nil) .nil) (nd bm .nil .nil)))) (nd L6 (nd SV (nd Tg (nd OF (nd bm .nil .nil) .nil) (nd ck .nil .nil)) (nd Qz (nd Oc (nd bm .nil .nil) .nil) (nd O3 .nil .nil))) (nd Tf (nd Ss (nd ck (nd NF .nil .nil) .nil) (nd bm .nil .nil)) (nd Np (nd PV (nd N8 .nil .nil) .nil) (nd ck .nil .nil))))))) (nd (boot_o_2 P) (nd (boot_o_4 P) (nd (boot_o_8 P) (nd L6 (nd ck (nd bm (nd PZ (nd MJ .nil .nil) .nil) (nd Mh (nd OW .nil .nil) .nil)) (nd ck (nd O5 (nd ck .nil .nil) .nil) (nd Pb .nil .nil))) (nd (Se P) (nd Sy (nd Oh (nd PC .nil .nil) .nil) (nd P3 .nil .nil)) (nd ck (nd ck (nd MM .nil .nil) .nil) (nd NM .nil .nil)))) (nd SD (nd Q0 (nd ck (nd Nq (nd Mc .nil .nil) .nil) (nd ck (nd bm .nil .nil) .nil)) (nd QG (nd O0 (nd MZ .nil .nil) .nil) (nd ck .nil .nil))) (nd Sa (nd Tc (nd bm (nd bm .nil .nil) .nil) (nd My .nil .nil)) (nd NR (nd Qi (nd ck .nil .nil) .nil) (nd bm .nil .nil))))) (nd Ik (nd SU (nd (SJ P) (nd Si (nd M2 (nd ck .nil .nil) .nil) (nd Mn (nd ck .nil .nil) .nil)) (nd OX (nd ck (nd Pm .nil .nil) .nil) (nd QJ .nil .nil))) (nd bm (nd R9 (nd ND (nd bm .nil .nil) .nil) (nd Qu .nil .nil)) (nd bm (nd P6 (nd Oo .nil .nil) .nil) (nd Mx .nil .nil)))) (nd Q0 (nd ck (nd SK (nd Pl (nd Mj .nil .nil) .nil) (nd bm (nd NZ .nil .nil) .nil)) (nd OU (nd QD (nd Pa .nil .nil) .nil) (nd Ng .nil .nil))) (nd bm (nd Th (nd bm (nd OK .nil .nil) .nil) (nd Pj .nil .nil)) (nd ck (nd ck (nd PX .nil .nil) .nil) (nd bm .nil .nil)))))) (nd (boot_o_6 P) (nd (boot_o_10 P) (nd bm (nd SM (nd Sf (nd bm (nd Po .nil .nil) .nil) (nd bm (nd MI .nil .nil) .nil)) (nd bm (nd NY (nd bm .nil .nil) .nil) (nd bm .nil .nil))) (nd Tj (nd SG (nd MR (nd ck .nil .nil) .nil) (nd ck .nil .nil)) (nd P7 (nd bm (nd bm .nil .nil) .nil) (nd Ml .nil .nil)))) (nd SO (nd (S8 P) (nd bm (nd ck (nd bm .nil .nil) .nil) (nd M9 (nd PN .nil .nil) .nil)) (nd O4 (nd bm (nd PP .nil .nil) .nil) (nd bm .nil .nil))) (nd ck (nd bm (nd MT (nd OB .nil .nil) .nil) (nd OL .nil .nil)) (nd NC (nd Me (nd bm .nil .nil) .nil) (nd MB .nil .nil))))) (nd R4 (nd bm (nd SN (nd S7 (nd Nw (nd bm .nil .nil) .nil) (nd MQ (nd Qq .nil .nil) .nil)) (nd bm (nd bm (nd bm .nil .nil) .nil) (nd NQ .nil .nil))) (nd Sv (nd ck (nd ck (nd Ny .nil .nil) .nil) (nd bm .nil .nil)) (nd O6 (nd bm (nd Nv .nil .nil) .nil) (nd ck .nil .nil)))) (nd (Sg P) (nd ST (nd bm (nd bm (nd Pp .nil .nil) .nil) (nd Ox .nil .nil)) (nd Qf (nd NK (nd ck .nil .nil) .nil) (nd bm .nil .nil))) (nd SA (nd S6 (nd PJ (nd Nz .nil .nil) .nil) (nd ck .nil .nil)) (nd bm (nd bm (nd bm .nil .nil) .nil) (nd Pn .nil .nil)))))))
def rG0 (w:World) (os:OsState):segRunT treeTable p w 11 (some (.ref 6)) 1 2108 (⟨T0 w.params,15,{},#[],{},187,os⟩:SharedT) (piecesOf g0 en cE ⟨0,0,0,0⟩ [topFrame fq])=some (.next,(⟨T1 w.params,333,{},#[],{},634,os⟩:SharedT),cE,⟨302,0,331,87⟩):=by
 rw [PySem.W.Fast.te10110043849684766642,PySem.W.Fast.te14364793385576792824];kernel_rfl
def L1 (P:Params):List Obj:=[boot_o_0 P,boot_o_1 P,boot_o_2 P,Pe P,boot_o_4 P,boot_o_5 P,boot_o_6 P,boot_o_7 P,boot_o_8 P,boot_o_9 P,boot_o_10 P,bm,Ik,Rq,R4,Sc,L6,S5 P,bm,ck,SU,Sl,bm,Ti P,SD,SZ,SO,SH,Q0,L6,Sg P,bm,ck,Sq,SM,bm,SJ P,Td,SN,S2,Q0,L6,S8 P,bm,ck,SV,ST,bm,Se P,SF,Tj,Sx,bm,ck,Sv,SQ,Sa,bm,ck,Sz,bm,Tf,SA,Sh,bm,ck,Sf,bm,Si,S9,S7,bm,ck,SL,bm,Sm,SK,Tg,bm,ck,Sy,bm,SG,SS,R9,bm,ck,Sb,Tc,SW,bm,ck,Th,Ss,S6,bm,ck,SR,bm,Su,OX,Mo,bm,ck,QG,bm,O4,N4,OU,Qz,Qf,bm,ck,PR,P7,Md,bm,ck,O6,bm,NR,Ol,NC,bm,ck,Np,bm,OH,PZ,PB,bm,ck,M2,bm,Nw,OZ,Nq,bm,ck,Oi,Pl,OF,bm,ck,Oh,bm,MR,Qs,ND,bm,ck,M6,bm,PD,MT,Nj,bm,ck,PJ,bm,O5,PF,NY,bm,ck,Nc,bm,QI,O0,Qp,bm,ck,QD,Oc,NK,bm,ck,N6,bm,O7,P6,MC,bm,ck,Qi,Oj,Me,bm,ck,PV,bm,Mp,Mh,MF,bm,ck,Mn,Mb,MQ,bm,ck,PM,M9,N0,bm,ck,Ox,Qv,P3,bm,ck,OJ,Qu,Px,bm,ck,My,bm,OL,Qt,Pj,bm,ck,Pg,Pb,M8,bm,ck,QJ,Mm,NQ,bm,ck,OI,bm,Nh,Ng,O3,bm,ck,NM,bm,Ml,Mt,Mx,bm,ck,MP,bm,NB,MB,MX,bm,ck,Pn,bm,MJ,OO,Po,bm,ck,Pc,bm,Oy,Mc,Nk,bm,ck,Mj,bm,Pp,Ms,PC,bm,ck,MH,bm,MV,Ny,Pk,bm,ck,OB,bm,OK,NF,Nz,bm,ck,PU,bm,QH,Pm,PH,bm,ck,MZ,bm,PP,NJ,Pa,bm,ck,Nf,MM,OT,bm,ck,Oo,N5,Nv,bm,ck,No,bm,QC,PX,N8,bm,ck,OW,Mz,MI,bm,ck,P5,Qq,Ow,bm,ck,PN,Qw,NZ]
def H1 (P:Params):Heap:=⟨Array.mk (L1 P),{}⟩
abbrev sf (w:World) (os:OsState):Shared:=⟨H1 w.params,#[],{},634,os⟩
def rF (w:World) (os:OsState):topRun treeTable p w 11 (some (.ref 6)) 2 (⟨T1 w.params,333,{},#[],{},634,os⟩:SharedT).abs ⟨doneF .next,cE,⟨302,0,331,87⟩,[topFrame fq]⟩=some (sf w os):=by
 rw [PySem.W.Fast.te14082659384304107361,PySem.W.Fast.te14364793385576792824];kernel_rfl
def Nl:bd=g0++([]):=by kernel_rfl
def run (w:World) (os:OsState):topRun treeTable p w 11 (some (.ref 6)) (12+(1+(2108+2))) ⟨boot_heap w.params,Array.mk [],boot_drawn,boot_toks,os⟩ (topStub p)=some (sf w os) :=
 go_top (n:=12) (rA w os) (piece_block (n:=1) (segRun_of (rB w os)) (Nl ▸ piece_app (n:=2108) (l:=g0) (segRun_of (rG0 w os)) (piece_nil (rF w os))))
def q:Program:=view p [1,2,3,5,6,7,8,9,10,11,12,13,14,15,17,18,20,21,22,23,24,25,26,27,28,29,30,32,33,34,35,36,37,38,39,40,41,42,43,45,46,47,48,49,50,52,53,54,55,56,57,58,59,60,61,62,63,64,65,66,67]
def Qa (w:World):(fencedOpening treeTable p w 4340).map (fun s=>(s.heap,s.gens,s.drawn,s.toks))=some (boot_heap w.params,Array.mk [],boot_drawn,boot_toks) :=
 boot_open (by kernel_rfl) (by decide) (fun s=>by kernel_rfl) w
def size (w:World):((boot_heap w.params).isNs mainGlobals&&(Array.mk []:Array GenState).size==0,(boot_heap w.params).objs.size,(boot_heap w.params).nsMap mainGlobals "__annotations__")=(true,11,(some (.ref 6))):=by
 kernel_rfl
def k0 (w:World) (os:OsState):(staticsOk (importedModules p.main.body) (boot_heap w.params) (H1 w.params)&&namesBound p (H1 w.params)&&gensDone (sf w os)&&laidKept (boot_heap w.params) (H1 w.params))=true:=by kernel_rfl
def k1 (w:World) (os:OsState):seen ((recsOf q).map (·.name)) (ownsOf q) [] { (sf w os) with gens:=#[] }=expectedOf q:=by
 kernel_rfl
def k2 (w:World) (os:OsState):(sf w os).heap.bltView=bltViewBooted:=by
 kernel_rfl
def k3 (w:World) (os:OsState):((sf w os).heap.keysOk (looseW q []) ((recsOf q).map (·.name)) ((litsOf q).map (·.1)) ((clssOf q (looseW q [])).map (·.name))&&(sf w os).heap.accountedOkI (importedModules p.main.body)&&(sf w os).heap.isNs mainGlobals&&(sf w os).heap.isNs builtinsNs&&tablesOk q (sf w os).heap&&(xlAt q [] (sf w os)&&recOk [] (sf w os))&&(if true then (sf w os).gens.size==0 else !leftWithCleanup (sf w os).gens))=true:=by
 kernel_rfl
def k4 (w:World) (os:OsState):tabsOk q (sf w os)=true:=by
 kernel_rfl
def k5 (w:World) (os:OsState):pinSeenD q (drecsOf q) (sf w os)=pinGoodD (drecsOf q):=by
 kernel_rfl
def k6 (w:World) (os:OsState):plainSeenE q (looseW q []) (sf w os)=plainGoodE q (looseW q []):=by
 kernel_rfl
def k7 (w:World) (os:OsState):plainSeenD q [] (sf w os)=plainGoodD q []:=by
 kernel_rfl
def k8 (w:World) (os:OsState):wideSeen q (sf w os)=wideGood q:=by
 kernel_rfl
def k9 (w:World) (os:OsState):clsSeenW q [] (sf w os)=clsGoodW q []:=by
 kernel_rfl
def ad:List Addr:=List.range 333
def K (P:Params):Frag:=ad.zip (L1 P)
def kY (w:World) (os:OsState):X.obsZ ad (sf w os)=X.valZ K 333 634 w:=by kernel_rfl
def left:LeftO p q [] (fun s=>xlAt q [] s&&recOk [] s) (X.obsZ ad) (X.valZ K 333 634) 4340 :=
 LeftO.of_pieces (H₀:=boot_heap) (H₁:=H1) (gs₀:=Array.mk []) (gs₁:=#[]) (d₀:=boot_drawn) (d₁:={}) (k₀:=boot_toks) (k₁:=634) (m₀:=11) (ann:=(some (.ref 6))) (M:=(12+(1+(2108+2)))) Qa size run (by decide) fun w=>funext fun os=>looks_pair (k0 w os) (looks_pair (looks_pair (k1 w os) (looks_pair (k2 w os) (looks_pair (k3 w os) (looks_pair (k4 w os) (looks_pair (k5 w os) (looks_pair (k6 w os) (looks_pair (k7 w os) (looks_pair (k8 w os) (k9 w os))))))))) (kY w os))
def dP (s:Stmt):Pos:=match s with
 | .FunctionDef _ _ _ _ _ _ _ _ _ x=>x
 | _=>default
def d:DefRec:=⟨"law",dA (S 67),dB (S 67),dS (S 67),dP (S 67)⟩
def ws:PySem.Challenge.rw_tablestore_k52_cut_anywhere.wellSaid=true:=by kernel_rfl
def hold (hc:WalkX q [] (XL q []) (X.obsZ ad) (X.valZ K 333 634) PySem.Challenge.rw_tablestore_k52_cut_anywhere.row.toRowW d [] fun f vs=>PySem.call f vs):PySem.Challenge.rw_tablestore_k52_cut_anywhere.Holds:=by
 refine holds_law ws fun said=>?_;refine holds_openX (q:=q) (loose:=[]) (Xt:=fun s=>xlAt q [] s&&recOk [] s) (XP:=XL q []) (N:=4340) left (fun s e=>xl_of s (Bool.and_eq_true_iff.mp e).1) XL.keeps (d:=d) (kwd:=[]) (by kernel_rfl) (by kernel_rfl) (by kernel_rfl) (fun s e=>recFacts_of (Bool.and_eq_true_iff.mp e).2) (by rfl) said (by decide +kernel) ⟨rfl,rfl,rfl,rfl,rfl,by decide +kernel⟩ ?hw hc
 case hw=>w_witness2
end HD
end
namespace T52
open PySem L2
def dk {w:World} {h:Heap} {mg:Str->Option Value} (X:(HD.K w.params).In h) (G:h.Ns mainGlobals mg) {n:Str} {st:Stmt} {f:Nat} (c:Nat) (m:Value) {ps:List Str}
  (a:PySem.W.nsIn (HD.K w.params) mainGlobals n=some (some (.ref f))/\(HD.K w.params).lookup f=some ⟨.type "function",none,.func (PySem.W.fnOf n n (kn st) (dE st) (am st) .none .none .none m none (.ref c) .none),#[]⟩/\PySem.W.codeIn (HD.K w.params) (.ref c) n=true/\PySem.W.keepIn (HD.K w.params) (.ref f)=true)
  (b:∀ (kV doc pm:Value) (an:Option Addr) (cdv ct:Value) (us:List Value),us.length=ps.length->bindArgs (PySem.W.fnOf n n (kn st) (dE st) (am st) .none kV doc pm an cdv ct) ⟨us,[]⟩=pure (ps.zip us)) :
  Def (HD.K w.params) mg n st ps f (PySem.W.fnOf n n (kn st) (dE st) (am st) .none .none .none m none (.ref c) .none) :=
 have F:=LY (st:=st) a.2.1 a.2.2.1 a.2.2.2
 ⟨F,F.binds b,PySem.W.mg_of X G a.1⟩
local macro_rules | `(tactic| walk_at "kk") => `(tactic| exact ⟨by kernel_rfl, by kernel_rfl, by kernel_rfl, by kernel_rfl⟩)
local macro_rules | `(tactic| walk_at "kz") => `(tactic| kernel_rfl)
def all_mk {l:PySem.W.OpenLaw} {w:World} {h:Heap} {mg:Str->Option Value} {fa:Addr} (X:(HD.K w.params).In h) (G:h.Ns mainGlobals mg) (hfa:mg "law"=some (.ref fa)) :
  ∃ fd:FuncData,(∀ (s:Shared) (v:Value),BindsTo s fd ⟨[v],[]⟩ [("_law_script",v)])/\∀ base:Heap,(HD.K w.params).In base->base.Ns mainGlobals mg->FnOk l.prog w (HD.K w.params) mg base eX 11 fa fd t5 (iP (HD.K w.params) mg vD):=by
 have a45:PySem.W.nsIn (HD.K w.params) mainGlobals "law"=some (some (.ref 332)):=by kernel_rfl
 have v_FIGURES:PySem.W.nsIn (HD.K w.params) mainGlobals "FIGURES"=some (some (.str "0123456789" 241)):=by kernel_rfl
 have v_MOST_SIGNS:PySem.W.nsIn (HD.K w.params) mainGlobals "MOST_SIGNS"=some (some (.int 40 243)):=by kernel_rfl
 have v_MOST_FIGURES_values:PySem.W.nsIn (HD.K w.params) mainGlobals "MOST_FIGURES_values"=some (some (.int 18 245)):=by kernel_rfl
 have v_MOST_ROW_NUMBER:PySem.W.nsIn (HD.K w.params) mainGlobals "MOST_ROW_NUMBER"=some (some (.int 1000000000 309)):=by kernel_rfl
 have v_NO_NAMES:PySem.W.nsIn (HD.K w.params) mainGlobals "NO_NAMES"=some (some (.ref 109)):=by kernel_rfl
 have w_NO_NAMES:(HD.K w.params).lookup 109=some ⟨.type "tuple",none,.seq #[.str "and" 320,.str "by" 321,.str "down" 322,.str "from" 323,.str "none" 324,.str "not" 325,.str "or" 326,.str "order" 327,.str "show" 328,.str "take" 329,.str "where" 330] 0,#[]⟩:=by kernel_rfl
 have v_COLUMN_KINDS:PySem.W.nsIn (HD.K w.params) mainGlobals "COLUMN_KINDS"=some (some (.ref 110)):=by kernel_rfl
 have w_COLUMN_KINDS:(HD.K w.params).lookup 110=some ⟨.type "tuple",none,.seq #[.str "number" 332,.str "text" 333] 0,#[]⟩:=by kernel_rfl
 have v_MOST_LETTERS:PySem.W.nsIn (HD.K w.params) mainGlobals "MOST_LETTERS"=some (some (.int 8 335)):=by kernel_rfl
 have v_MOST_COLUMNS:PySem.W.nsIn (HD.K w.params) mainGlobals "MOST_COLUMNS"=some (some (.int 8 337)):=by kernel_rfl
 have v_MOST_FIGURES_records:PySem.W.nsIn (HD.K w.params) mainGlobals "MOST_FIGURES_records"=some (some (.int 10 388)):=by kernel_rfl
 have v_MOST_VALUES:PySem.W.nsIn (HD.K w.params) mainGlobals "MOST_VALUES"=some (some (.int 8 390)):=by kernel_rfl
 have v_SIZE_FIGURES:PySem.W.nsIn (HD.K w.params) mainGlobals "SIZE_FIGURES"=some (some (.int 9 392)):=by kernel_rfl
 have v_RECORD_END:PySem.W.nsIn (HD.K w.params) mainGlobals "RECORD_END"=some (some (.str "end\n" 394)):=by kernel_rfl
 have v_HEAD_SIGNS:PySem.W.nsIn (HD.K w.params) mainGlobals "HEAD_SIGNS"=some (some (.int 10 459)):=by kernel_rfl
 have zn:∀ {n:Str},PySem.W.nsIn (HD.K w.params) mainGlobals n=some none->mg n=none:=fun e=>PySem.W.mg_none_of X G e;have e:=hfa.symm.trans (PySem.W.mg_of X G a45);cases e;have oA:Def _ mg "is_sign" rj ld 63 _:=dk X G 62 HD.m239 (by walk_at "kk") fun _ _ _ _ _ _=>mO (fun _=>rfl);have mq:Def _ mg "is_value" lM jU 56 _:=dk X G 55 HD.m239 (by walk_at "kk") fun _ _ _ _ _ _=>mO (fun _=>rfl);have oB:Def _ mg "written" qP lq 70 _:=dk X G 69 HD.m239 (by walk_at "kk") fun _ _ _ _ _ _=>mO (fun _=>rfl);have kE:Def _ mg "read_text" nH iH 84 _:=dk X G 83 HD.m239 (by walk_at "kk") fun _ _ _ _ _ _=>mO (fun _=>rfl);have il:Def _ mg "read_number" ik fm 89 _:=dk X G 88 HD.m239 (by walk_at "kk") fun _ _ _ _ _ _=>mO (fun _=>rfl);have jm:Def _ mg "read_value" lS gh 77 _:=dk X G 76 HD.m239 (by walk_at "kk") fun _ _ _ _ _ _=>mO (fun _=>rfl);have kF:Def _ mg "pieces_of" nj iK 101 _:=dk X G 100 HD.m239 (by walk_at "kk") fun _ _ _ _ _ _=>mO (fun _=>rfl);have im:Def _ mg "read_values" ij fh 94 _:=dk X G 93 HD.m239 (by walk_at "kk") fun _ _ _ _ _ _=>mO (fun _=>rfl);have fF:Def _ mg "is_row_number" iQ dm 108 _:=dk X G 107 HD.m307 (by walk_at "kk") fun _ _ _ _ _ _=>mO (fun _=>rfl);have kG:Def _ mg "is_letter" ng iw 122 _:=dk X G 121 HD.m318 (by walk_at "kk") fun _ _ _ _ _ _=>mO (fun _=>rfl);have fS:Def _ mg "is_name" oo lu 115 _:=dk X G 114 HD.m318 (by walk_at "kk") fun _ _ _ _ _ _=>mO (fun _=>rfl);have eN:Def _ mg "is_column_kind" gS cX 155 _:=dk X G 154 HD.m318 (by walk_at "kk") fun _ _ _ _ _ _=>mO (fun _=>rfl);have lD:Def _ mg "is_pair" qX lp 136 _:=dk X G 135 HD.m318 (by walk_at "kk") fun _ _ _ _ _ _=>mO (fun _=>rfl);have kH:Def _ mg "is_column" nL iI 148 _:=dk X G 147 HD.m318 (by walk_at "kk") fun _ _ _ _ _ _=>mO (fun _=>rfl);have io:Def _ mg "are_columns" ff fc 141 _:=dk X G 140 HD.m318 (by walk_at "kk") fun _ _ _ _ _ _=>mO (fun _=>rfl);have mr:Def _ mg "is_shape" pv jF 129 _:=dk X G 128 HD.m318 (by walk_at "kk") fun _ _ _ _ _ _=>mO (fun _=>rfl);have jo:Def _ mg "table_text" lX gx 169 _:=dk X G 168 HD.m386 (by walk_at "kk") fun _ _ _ _ _ _=>mO (fun _=>rfl);have ms:Def _ mg "row_text" mi jK 174 _:=dk X G 173 HD.m386 (by walk_at "kk") fun _ _ _ _ _ _=>mO (fun _=>rfl);have iq:Def _ mg "change_text" kX eZ 162 _:=dk X G 161 HD.m386 (by walk_at "kk") fun _ _ _ _ _ _=>mO (fun _=>rfl);have jp:Def _ mg "read_table" jf gc 186 _:=dk X G 185 HD.m386 (by walk_at "kk") fun _ _ _ _ _ _=>mO (fun _=>rfl);have cP:Def _ mg "read_row_number" dH cH 198 _:=dk X G 197 HD.m386 (by walk_at "kk") fun _ _ _ _ _ _=>mO (fun _=>rfl);have mv:Def _ mg "read_put" pb j3 193 _:=dk X G 192 HD.m386 (by walk_at "kk") fun _ _ _ _ _ _=>mO (fun _=>rfl);have ir:Def _ mg "read_change" kZ e6 181 _:=dk X G 180 HD.m386 (by walk_at "kk") fun _ _ _ _ _ _=>mO (fun _=>rfl);have qD:Def _ mg "record" pQ nN 203 _:=dk X G 202 HD.m386 (by walk_at "kk") fun _ _ _ _ _ _=>mO (fun _=>rfl);have gC:Def _ mg "record_end" i9 gj 225 _:=dk X G 224 HD.m457 (by walk_at "kk") fun _ _ _ _ _ _=>Gv (fun _ _=>rfl);have dQ:Def _ mg "changes_between" dC cL 230 _:=dk X G 229 HD.m457 (by walk_at "kk") fun _ _ _ _ _ _=>Te (fun _ _ _=>rfl);have dq:Def _ mg "whole_records" iS dj 220 _:=dk X G 219 HD.m457 (by walk_at "kk") fun _ _ _ _ _ _=>mO (fun _=>rfl);have c5:Def _ mg "read_records" gg eu 208 _:=dk X G 207 HD.m457 (by walk_at "kk") fun _ _ _ _ _ _=>mO (fun _=>rfl);have jA:Def _ mg "ends_in" oz lh 213 _:=dk X G 212 HD.m457 (by walk_at "kk") fun _ _ _ _ _ _=>mO (fun _=>rfl);have oC:Def _ mg "_law_whole" rE lb 237 _:=dk X G 236 HD.m495 (by walk_at "kk") fun _ _ _ _ _ _=>mO (fun _=>rfl);have bU:Def _ mg "_law_cell_at" nt iz 244 _:=dk X G 243 HD.m495 (by walk_at "kk") fun _ _ _ _ _ _=>Gv (fun _ _=>rfl);have eO:Def _ mg "_law_mixed" rk lA 251 _:=dk X G 250 HD.m495 (by walk_at "kk") fun _ _ _ _ _ _=>mO (fun _=>rfl);have iO:Def _ mg "_law_name_by" nZ iM 258 _:=dk X G 257 HD.m495 (by walk_at "kk") fun _ _ _ _ _ _=>mO (fun _=>rfl);have qE:Def _ mg "_law_twin" ul nA 265 _:=dk X G 264 HD.m495 (by walk_at "kk") fun _ _ _ _ _ _=>Gv (fun _ _=>rfl);have jq:Def _ mg "_law_shape_by" lJ fZ 272 _:=dk X G 271 HD.m495 (by walk_at "kk") fun _ _ _ _ _ _=>Gv (fun _ _=>rfl);have kI:Def _ mg "_law_text_by" mT iC 279 _:=dk X G 278 HD.m495 (by walk_at "kk") fun _ _ _ _ _ _=>mO (fun _=>rfl);have jr:Def _ mg "_law_value_by" lW gB 286 _:=dk X G 285 HD.m495 (by walk_at "kk") fun _ _ _ _ _ _=>Gv (fun _ _=>rfl);have mw:Def _ mg "_law_row_by" pj jT 293 _:=dk X G 292 HD.m495 (by walk_at "kk") fun _ _ _ _ _ _=>Gv (fun _ _=>rfl);have kJ:Def _ mg "_law_written" mQ iE 300 _:=dk X G 299 HD.m495 (by walk_at "kk") fun _ _ _ _ _ _=>mO (fun _=>rfl);have qF:Def _ mg "_law_line" nD m6 305 _:=dk X G 304 HD.m495 (by walk_at "kk") fun _ _ _ _ _ _=>mO (fun _=>rfl);have mx:Def _ mg "_law_record" lI jR 310 _:=dk X G 309 HD.m495 (by walk_at "kk") fun _ _ _ _ _ _=>mO (fun _=>rfl);have iu:Def _ mg "_law_change_by" kL fb 317 _:=dk X G 316 HD.m495 (by walk_at "kk") fun _ _ _ _ _ _=>Gv (fun _ _=>rfl);have jt:Def _ mg "_law_lists_by" i8 gz 322 _:=dk X G 321 HD.m495 (by walk_at "kk") fun _ _ _ _ _ _=>Gv (fun _ _=>rfl);have j7:Def _ mg "_law_read" m4 nJ 327 _:=dk X G 326 HD.m495 (by walk_at "kk") fun _ _ _ _ _ _=>ln4 (fun _ _ _ _=>rfl);have F1:Def _ mg "law" sr t5 332 _:=dk X G 331 HD.m495 (by walk_at "kk") fun _ _ _ _ _ _=>mO (fun _=>rfl);refine ⟨PySem.W.fnOf "law" "law" (kn sr) (dE sr) (am sr) .none .none .none (.str "law_tablestore_k52_cut_anywhere" 495) none (.ref 331) .none,fun s v=>.of_eq rfl,fun base _ _=>?_⟩;exact KD ⟨oA,mq,oB,kE,il,jm,kF,im,fF,kG,fS,eN,lD,kH,io,mr,jo,ms,iq,jp,cP,mv,ir,qD,gC,dQ,dq,c5,jA,oC,bU,eO,iO,qE,jq,kI,jr,mw,kJ,qF,mx,iu,jt,j7,F1,PySem.W.mg_of X G v_FIGURES,⟨_,rfl⟩,fun H=>rfl,PySem.W.mg_of X G v_MOST_SIGNS,⟨_,rfl⟩,fun H=>rfl,PySem.W.mg_of X G v_MOST_FIGURES_values,⟨_,rfl⟩,fun H=>rfl,PySem.W.mg_of X G v_MOST_ROW_NUMBER,⟨_,rfl⟩,fun H=>rfl,⟨_,w_NO_NAMES,rfl,rfl⟩,PySem.W.mg_of X G v_NO_NAMES,rfl,fun H=>⟨109,[V.str "and",V.str "by",V.str "down",V.str "from",V.str "none",V.str "not",V.str "or",V.str "order",V.str "show",V.str "take",V.str "where"],rfl,.inr ⟨_,_,_,w_NO_NAMES,rfl,rfl,(by rw [sizeLine_eq];exact Nat.le_trans (show 11<=1000 by decide) (by decide)),(.cons ⟨_,rfl⟩ (.cons ⟨_,rfl⟩ (.cons ⟨_,rfl⟩ (.cons ⟨_,rfl⟩ (.cons ⟨_,rfl⟩ (.cons ⟨_,rfl⟩ (.cons ⟨_,rfl⟩ (.cons ⟨_,rfl⟩ (.cons ⟨_,rfl⟩ (.cons ⟨_,rfl⟩ (.cons ⟨_,rfl⟩ .nil)))))))))))⟩,(aJ.cons rfl (aJ.cons rfl (aJ.cons rfl (aJ.cons rfl (aJ.cons rfl (aJ.cons rfl (aJ.cons rfl (aJ.cons rfl (aJ.cons rfl (aJ.cons rfl (aJ.cons rfl aJ.nil)))))))))))⟩,⟨_,w_COLUMN_KINDS,rfl,rfl⟩,PySem.W.mg_of X G v_COLUMN_KINDS,rfl,fun H=>⟨110,[V.str "number",V.str "text"],rfl,.inr ⟨_,_,_,w_COLUMN_KINDS,rfl,rfl,(by rw [sizeLine_eq];exact Nat.le_trans (show 2<=1000 by decide) (by decide)),(.cons ⟨_,rfl⟩ (.cons ⟨_,rfl⟩ .nil))⟩,(aJ.cons rfl (aJ.cons rfl aJ.nil))⟩,PySem.W.mg_of X G v_MOST_LETTERS,⟨_,rfl⟩,fun H=>rfl,PySem.W.mg_of X G v_MOST_COLUMNS,⟨_,rfl⟩,fun H=>rfl,PySem.W.mg_of X G v_MOST_FIGURES_records,⟨_,rfl⟩,fun H=>rfl,PySem.W.mg_of X G v_MOST_VALUES,⟨_,rfl⟩,fun H=>rfl,PySem.W.mg_of X G v_SIZE_FIGURES,⟨_,rfl⟩,fun H=>rfl,PySem.W.mg_of X G v_RECORD_END,⟨_,rfl⟩,fun H=>rfl,PySem.W.mg_of X G v_HEAD_SIGNS,⟨_,rfl⟩,fun H=>rfl,zn (by kernel_rfl),zn (by kernel_rfl),zn (by kernel_rfl),zn (by kernel_rfl),zn (by kernel_rfl),zn (by kernel_rfl),zn (by kernel_rfl),zn (by kernel_rfl),zn (by kernel_rfl),zn (by kernel_rfl),zn (by kernel_rfl),zn (by kernel_rfl)⟩
def walk {l:PySem.W.OpenLaw} {q:Program} {loose:List Str} {XP:(Str->Option Value)->Heap->Prop} {YP:World->Heap->Prop} {d:DefRec} {K:Params->PySem.W.Frag} (hn:l.most=some 63) (hdf:d.params.defaults=[])
  (hY:∀ (w:World) (h:Heap),YP w h->(K w.params).In h)
  (F:∀ (w:World) (mg:Str->Option Value) (fa:Addr) (h:Heap),(K w.params).In h->h.Ns mainGlobals mg->mg d.name=some (.ref fa) ->
   ∃ fd:FuncData,(∀ (s:Shared) (u:Value),BindsTo s fd ⟨[u],[]⟩ [("_law_script",u)])/\∀ base:Heap,(K w.params).In base->base.Ns mainGlobals mg->FnOk l.prog w (K w.params) mg base eX 11 fa fd t5 (iP (K w.params) mg vD)) :
  PySem.W.WalkO q loose XP YP l.row.toRowW d [] (fun f vs=>PySem.call f vs) :=
 L2.GK (n:=63) (k:=11) (x:="_law_script") (CX:=fun _=>eX) (sp:=fun w=>Fa (K w.params) vD) hn (by decide) hdf ⟨rfl,by decide,by decide⟩ hY (fun w mg fa h h1 h2 h3=>Hl (F w mg fa h h1 h2 h3)) (fun _ _ a ns hl _ hS=>HV hS (law_true ns hl) fun _=>rfl) fun _ _ _ _ _ z=>z
end T52
open PySem PySem.W PyProof.Rows
set_option maxRecDepth 100000 in
set_option maxHeartbeats 0 in
theorem PySem.Challenge.cw_tablestore_k52_cut_anywhere_holds : PySem.Challenge.rw_tablestore_k52_cut_anywhere.Holds := by
 refine HD.hold (L2.walkX (fun _=>by kernel_rfl) ?_);exact T52.walk (l:=PySem.Challenge.rw_tablestore_k52_cut_anywhere) (K:=HD.K) rfl (by kernel_rfl) (fun w h Y=>Y) fun w mg fa h KX G hmg=>T52.all_mk KX G hmg
