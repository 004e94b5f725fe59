import PyProof.Rows.All
import Wide.All
import OpenK.AllK
import Wide.FinOn
import Lean
import PyProof.EqAt
import PyProof.EqKinds
import PyProof.TupleCall
import PyProof.ZipIter
import PyProof.Draws
import PyProof.EnumMake
import PyProof.Rows.SetFrom
import KE.KIntText
import KE.IntTextLaws
import KE.KSortTup
import PyProof.StrLawsChain
import PyProof.StrCalls6
import PyProof.ExcAttrAll.ValueError
import PySem.Challenge.RW_tablestore_k51_lines_refused
set_option linter.unusedVariables false
set_option linter.unusedSimpArgs false
set_option maxHeartbeats 4000000
set_option maxRecDepth 100000
set_option linter.all false
set_option compiler.extract_closed false
namespace L2
def g4 {α β γ ε:Type} {p q:α->β->γ->ε->Prop} {r:Prop} (h:∃ a b c d,p a b c d/\q a b c d) (k:∀ a b c d,p a b c d->q a b c d->r):r:=by
 obtain ⟨a,b,c,d,x,y⟩:=h;exact k a b c d x y
def mP {α β:Type} {p q r:α->β->Prop} {z:Prop} (h:∃ a b,p a b/\q a b/\r a b) (k:∀ a b,p a b->q a b->r a b->z):z:=by
 obtain ⟨a,b,x,y,w⟩:=h;exact k a b x y w
end L2
-- CHANGE: your row's module here,as the last of these rows
set_option Elab.async false
namespace L2
open PySem Sem
def oi {M:Model} {Γ:Ctx} {p:Pos} {t:Sem Fin} {fs:List Frame} {s:Shared} {e:End} {s':Shared} (h:Runs M Γ p t fs s e s'):s.toks<=s'.toks:=by
 induction h <;> first
  | exact Nat.le_refl _
  | assumption
  | (rename_i ih;exact Nat.le_of_succ_le ih)
  | (rename_i ih1 ih2;exact Nat.le_trans ih1 ih2)
  | (rename_i h1 h2 h3 ih1 ih2;exact Nat.le_trans ih1 ih2)
def BM {M:Model} {Γ:Ctx} {p:Pos} {g:Nat} {r:Resume} {s:Shared} {res:GenResult} {s':Shared} (h:Wakes M Γ p g r s res s'):s.toks<=s'.toks:=by
 unfold Wakes at h;split at h
 ·exact h.elim
 ·split at h
  ·obtain ⟨e1,s1,h1,_,_,rfl⟩:=h;have q:=oi h1;exact q
  ·rw [h.2];exact Nat.le_refl _
  ·rw [h.2];exact Nat.le_refl _
 ·obtain ⟨e1,s1,h1,_,_,rfl⟩:=h;have q:=oi h1;exact q
 ·rw [h.2];exact Nat.le_refl _
 ·rw [h.2];exact Nat.le_refl _
def wp_toks {X:Type} {n:Nat} {post:X->Pos->Shared->Prop} {exc:Value->Pos->Shared->Prop} (M:Model) (Γ:Ctx) (tree:Sem X) (pos:Pos) (sh:Shared) (hn:n<=sh.toks)
  (gw:wp M Γ tree (fun x p s=>n<=s.toks->post x p s) (fun x p s=>n<=s.toks->exc x p s) pos sh):wp M Γ tree post exc pos sh:=by
 revert gw hn
 induction tree generalizing pos sh with
 | pure x=>exact fun hn h=>h hn
 | raise v=>exact fun hn h=>h hn
 | unsupported|finish|yield|fork|await|register=>exact fun _ h=>h
 | rule _ k ih|«at» _ k ih|alloc _ k ih|loadIfAlive _ k ih|point _ k ih|ask k ih|os _ _ k ih|handled _ k ih|newGen _ k ih|stack k ih|thread k ih=>exact fun hn h=>ih _ _ _ hn h
 | fresh k ih=>exact fun hn h=>ih _ _ _ (Nat.le_succ_of_le hn) h
 | load a _ k ih|genState a k ih=>exact fun hn ⟨o,ho,h⟩=>⟨o,ho,ih _ _ _ hn h⟩
 | update a _ f k ih|choose _ _ k ih=>exact fun hn ⟨ha,h⟩=>⟨ha,ih _ _ _ hn h⟩
 | call c h g l k ih=>exact fun hn ⟨r,s',hr,hk⟩=>⟨r,s',hr,ih r pos s' (Nat.le_trans hn (oi hr)) hk⟩
 | resume g r l k ih=>exact fun hn ⟨res,s',hw,h⟩=>⟨res,s',hw,ih _ _ _ (Nat.le_trans hn (BM hw)) h⟩
def bf {α:Type} {M:Model} {A:Around} {t:Sem α} {Q:α->Shared->Prop} {E:Value->Shared->Prop} {s:Shared} {n:Nat} (hn:n<=s.toks)
  (h:wpAny M A t (fun v s'=>n<=s'.toks->Q v s') (fun e s'=>n<=s'.toks->E e s') s):wpAny M A t Q E s:=fun Γ p hΓ=>wp_toks M Γ t p s hn (h Γ p hΓ)
def fP {M:Model} {A:Around} {c:Code} {R:Result->Shared->Prop} {s:Shared} {n:Nat} (hn:n<=s.toks) (h:codeAny M A c (fun r s'=>n<=s'.toks->R r s') s):codeAny M A c R s:=fun Γ p e hΓ =>
 let ⟨r,s',hr,hR⟩:=h Γ p e hΓ
 ⟨r,s',hr,hR (Nat.le_trans hn (oi hr))⟩
end L2
namespace L2
open PySem PySem.Spec PyProof.Rows
abbrev pA:=Sum Int Str
def JP:pA->Value->Bool
 | .inl k,v=>Value.isInt k v
 | .inr x,v=>Value.isStrOf x v
def Wc (w:World):pA->Int
 | .inl k=>hashInt k
 | .inr x=>hashStr w x
def cG:∀ {k:pA} {v:Value},JP k v=true->(∃ i t,k=Sum.inl i/\v=Value.int i t)\/(∃ x t,k=Sum.inr x/\v=Value.str x t)
 | .inl i,v,h=>by
  obtain ⟨t,e⟩:=Value.isInt_shape (k:=i) (v:=v) h;exact .inl ⟨i,t,rfl,e⟩
 | .inr x,v,h=>by
  obtain ⟨t,e⟩:=Value.isStrOf_shape (x:=x) (v:=v) h;exact .inr ⟨x,t,rfl,e⟩
def KK (a b:Int):decide ((Sum.inl a:pA)=Sum.inl b)=(a==b):=by
 by_cases e:a=b
 ·subst e;simp
 ·have h:¬ (Sum.inl a:pA)=Sum.inl b:=fun q=>e (Sum.inl.inj q);rw [decide_eq_false h];exact (beq_eq_false_iff_ne.mpr e).symm
def LL (a b:Str):decide ((Sum.inr a:pA)=Sum.inr b)=decide (a=b):=by
 by_cases e:a=b
 ·subst e;simp
 ·have h:¬ (Sum.inr a:pA)=Sum.inr b:=fun q=>e (Sum.inr.inj q);rw [decide_eq_false h,decide_eq_false e]
def KJ (a:Int) (b:Str):decide ((Sum.inl a:pA)=Sum.inr b)=false:=decide_eq_false (fun q=>nomatch q)
def L9 (a:Str) (b:Int):decide ((Sum.inr a:pA)=Sum.inl b)=false:=decide_eq_false (fun q=>nomatch q)
def xg (prog:Program) (w:World):PySem.KeyKind prog w pA where
 is:=JP
 hash:=Wc w
 inj:=fun v a b ha hb=>by
  rcases cG ha with ⟨i,t,rfl,rfl⟩|⟨x,t,rfl,rfl⟩
  ·rcases cG hb with ⟨j,u,rfl,e⟩|⟨y,u,rfl,e⟩
   ·injection e with e1 _;rw [e1]
   ·exact nomatch e
  ·rcases cG hb with ⟨j,u,rfl,e⟩|⟨y,u,rfl,e⟩
   ·exact nomatch e
   ·injection e with e1 _;rw [e1]
 byValue:=fun k v h=>by
  rcases cG h with ⟨i,t,rfl,rfl⟩|⟨x,t,rfl,rfl⟩ <;> rfl
 pyHash:=fun hv h=>by
  rcases cG hv with ⟨i,t,rfl,rfl⟩|⟨x,t,rfl,rfl⟩
  ·exact wpAny_pyHash_int h
  ·exact wpAny_pyHash_str h
 eqBool:=fun hu hv h=>by
  rcases cG hu with ⟨i,t,rfl,rfl⟩|⟨x,t,rfl,rfl⟩
  ·rcases cG hv with ⟨j,u,rfl,rfl⟩|⟨y,u,rfl,rfl⟩
   ·rw [KK] at h;exact wpAny_eqBool_int h
   ·rw [KJ] at h;exact SeqAt.EqAt.int_str i t y u _ _ _ _ h
  ·rcases cG hv with ⟨j,u,rfl,rfl⟩|⟨y,u,rfl,rfl⟩
   ·rw [L9] at h;exact SeqAt.EqAt.str_int x t j u _ _ _ _ h
   ·rw [LL] at h;exact wpAny_eqBool_str h
 «strs»:=fun k x t v h=>by
  rcases cG h with ⟨i,u,rfl,e⟩|⟨y,u,rfl,e⟩
  ·exact nomatch e
  ·injection e with e1 _
   subst e1;cases v <;> rfl
inductive V where
 | non|bl (b:Bool)|int (i:Int)|str (x:Str)|byt (b:Array UInt8)|flt (b:UInt64)|ref (a:Addr)|ty (n:String)
 deriving DecidableEq
def bw:V->Value->Prop
 | .non,u=>u=Value.none
 | .bl b,u=>u=Value.bool b
 | .int i,u=>∃ t,u=Value.int i t
 | .str x,u=>∃ t,u=Value.str x t
 | .byt b,u=>∃ t,u=Value.bytes b t
 | .flt b,u=>∃ t,u=Value.float b t
 | .ref a,u=>u=Value.ref a
 | .ty n,u=>u=Value.type n
abbrev bC:List V->List Value->Prop:=Paired bw
theorem bC.length {xs:List V} {us:List Value} (r:bC xs us):xs.length=us.length:=Paired.length r
def bC.get:∀ {xs:List V} {us:List Value} {i:Nat} {x:V},bC xs us->xs[i]?=some x->∃ u,us[i]?=some u/\bw x u
 | _,_,_,_,.nil,e=>by simp at e
 | _,_,0,_,.cons r _,e=>by simp at e;subst e;exact ⟨_,rfl,r⟩
 | _,_,i+1,x,.cons _ t,e=>by
  obtain ⟨u,h1,h2⟩:=bC.get (i:=i) (x:=x) t (by simpa using e);exact ⟨u,by simpa using h1,h2⟩
def bC.append:∀ {xs ys:List V} {us ws:List Value},bC xs us->bC ys ws->bC (xs++ys) (us++ws)
 | _,_,_,_,.nil,s=>s
 | _,_,_,_,.cons r t,s=>.cons r (bC.append t s)
def bC.take:∀ {xs:List V} {us:List Value} (n:Nat),bC xs us->bC (xs.take n) (us.take n)
 | _,_,0,_=>.nil
 | _,_,_+1,.nil=>.nil
 | _,_,n+1,.cons r t=>.cons r (bC.take n t)
def bC.drop:∀ {xs:List V} {us:List Value} (n:Nat),bC xs us->bC (xs.drop n) (us.drop n)
 | _,_,0,r=>r
 | _,_,_+1,.nil=>.nil
 | _,_,n+1,.cons _ t=>bC.drop n t
def Mm:Option V->Option Value->Prop
 | some v,some u=>bw v u
 | none,none=>True
 | _,_=>False
def KV {κ:Type}:List (κ×V)->List (κ×Value)->Prop:=Paired fun (p:κ×V) (q:κ×Value)=>p.1=q.1/\bw p.2 q.2
def kV:pA->V
 | .inl i=>.int i
 | .inr x=>.str x
inductive HO where
 /-- a list -/
 | lst (xs:List V)
 /-- a tuple (never changes) -/
 | tup (xs:List V)
 /-- a dict whose keys are ints and texts;one whose keys are tuples of ints and texts (the empty one is both) -/
 | dK (kvs:List (pA×V))|dT (kvs:List (List pA×V))
 /-- a set of ints: its members,its size -/
 | set (S:Int->Bool) (n:Nat)
 /-- an instance of the class at C,its dict at dx,its attributes -/
 | ins (C dx:Addr) (fs:List (Str×V))
 /-- the dict of the instance at x -/
 | own (x:Addr)
 /-- the dict of an exception -/
 | xd (fs:List (Str×V))
 /-- a bound method,f of x -/
 | met (f x:Addr)
 /-- a range object lo,lo+1,.. below hi -/
 | rng (lo hi:Int)
 /-- a thing that is gw to the object (the script;a dict while a loop walks it): read,never written while it is so -/
 | frz (o:Obj) (u:HO)
 /-- a code object's table -/
 | tbl (ps:Array Value)
 /-- any other thing,by what is true of its one object (a def of one's own: SetO a S n:=HO.ext fun h=>..) -/
 | ext (φ:Heap->Prop)
abbrev Hp:=Addr->Option HO
def dE (H:Hp) (a:Addr) (o:HO):Hp:=fun b=>if b=a then some o else H b
def br {H:Hp} {a:Addr} {o:HO}:dE H a o a=some o:=by unfold dE;rw [if_pos rfl]
def bn {H:Hp} {a b:Addr} {o:HO} (h:b≠a):dE H a o b=H b:=by unfold dE;rw [if_neg h]
def bK {H:Hp} {a b:Addr} {o:HO} (h:H a=some o) (h':H b=none):a≠b:=by
 intro e;subst e;rw [h] at h';cases h'
section
variable (P:Program) (w:World)
def eO (H:Hp) (h:Heap) (a:Addr):HO->Prop
 | .lst xs=>xs.length<=sizeLine/\∃ (its:List Value) (n:Nat),bC xs its/\h.get? a=some { cls:=.type "list",data:=.seq its.toArray n }
 | .tup xs=>xs.length<=sizeLine/\∃ its:List Value,bC xs its/\IsTup h a its.toArray
 | .dK kvs=>kvs.length<=sizeLine/\(a==sysModules)=false/\∃ vs,KV kvs vs/\h.DictOf (xg P w) a vs
 | .dT kvs=>kvs.length<=sizeLine/\(a==sysModules)=false/\∃ xs:List (List pA×Addr×Value),
   Paired (fun (p:List pA×V) (q:List pA×Addr×Value)=>p.1=q.1/\H q.2.1=some (.tup (p.1.map kV))/\bw p.2 q.2.2) kvs xs /\
   ∃ o es ep,h.get? a=some o/\o.ExactDict/\o.data=.dict es ep/\es.toList=xs.map (entryOfKey (tupleKind (xg P w)))/\(xs.map (·.1)).Nodup
 | .set S n=>h.SetOf (intKind P w) a S n
 | .ins C dx fs=>H dx=some (.own a)/\fs.length<=1000/\dx≠a/\h.get? a=some (PySem.W.instObj C dx) /\
   ∃ mA,h.Ns1 dx mA/\(∀ f,Mm (fs.lookup f) (mA f))/\PySem.Within mA (fs.map (·.1))
 | .own _=>∃ o,h.get? a=some o
 | .xd fs=>∃ mA,h.Ns1 a mA/\∀ f,Mm (fs.lookup f) (mA f)
 | .rng lo hi=>∃ t u v,h.get? a=some { cls:=.type "range",data:=.fields #[.int lo t,.int hi u,.int 1 v] }
 | .frz o u=>h.get? a=some o/\eO H h a u
 | .tbl ps=>h.get? a=some { cls:=.none,data:=.fields ps }
 | .met f x=>h.get? a=some (PySem.W.methodObj (.ref f) (.ref x))
 | .ext φ=>φ h/\(∃ o,h.get? a=some o)/\∀ h1 h2:Heap,φ h1->(∀ o,h1.get? a=some o->h2.get? a=some o)->φ h2
def r8 (H:Hp) (h:Heap):Prop:=∀ a o,H a=some o->eO P w H h a o
end
section
variable {P:Program} {w:World} {H H':Hp} {h h':Heap} {a:Addr} {o:HO}
def eO.lt (x:eO P w H h a o):a < h.objs.size:=by
 cases o with
 | lst xs=>obtain ⟨_,_,_,_,e⟩:=x;exact Heap.lt_size e
 | tup xs=>obtain ⟨_,_,_,p⟩:=x;exact p.lt
 | dK kvs=>obtain ⟨_,_,_,_,o,_,_,e,_⟩:=x;exact Heap.lt_size e
 | dT kvs=>obtain ⟨_,_,_,_,o,_,_,e,_⟩:=x;exact Heap.lt_size e
 | set S n=>obtain ⟨o,_,_,_,e,_⟩:=x;exact Heap.lt_size e
 | ins C dx fs=>obtain ⟨_,_,_,e,_⟩:=x;exact Heap.lt_size e
 | own y=>obtain ⟨_,e⟩:=x;exact Heap.lt_size e
 | xd fs=>obtain ⟨_,⟨_,_,_,e,_⟩,_⟩:=x;exact Heap.lt_size e
 | rng lo hi=>obtain ⟨_,_,_,e⟩:=x;exact Heap.lt_size e
 | frz ob u=>obtain ⟨e,_⟩:=x;exact Heap.lt_size e
 | tbl ps=>exact Heap.lt_size (show h.get? a=some _ from x)
 | met f y=>exact Heap.lt_size (show h.get? a=some _ from x)
 | ext φ=>obtain ⟨_,⟨_,e⟩,_⟩:=x;exact Heap.lt_size e
def Paired.mapP {α β:Type} {F G:α->β->Prop}:∀ {l₁:List α} {l₂:List β},Paired F l₁ l₂->(∀ a b,F a b->G a b)->Paired G l₁ l₂
 | _,_,.nil,_=>.nil
 | _,_,.cons r t,f=>.cons (f _ _ r) (Paired.mapP t f)
def eO.stay (x:eO P w H h a o) (k:∀ b u,(b=a\/H b=some (.own a))->h.get? b=some u->h'.get? b=some u)
  (ho:∀ b,H b=some (.own a)->H' b=some (.own a)) (ht:∀ b xs,H b=some (.tup xs)->H' b=some (.tup xs)):eO P w H' h' a o:=by
 induction o with
 | lst xs=>obtain ⟨z,its,n,r,e⟩:=x;exact ⟨z,its,n,r,k _ _ (.inl rfl) e⟩
 | tup xs=>obtain ⟨z,its,r,ob,e,c⟩:=x;exact ⟨z,its,r,ob,k _ _ (.inl rfl) e,c⟩
 | dK kvs=>obtain ⟨z,y,vs,r,ob,es,ep,e,c⟩:=x;exact ⟨z,y,vs,r,ob,es,ep,k _ _ (.inl rfl) e,c⟩
 | dT kvs =>
  obtain ⟨z,y,xs,r,ob,es,ep,e,c⟩:=x;exact ⟨z,y,xs,Paired.mapP r fun p q z=>⟨z.1,ht _ _ z.2.1,z.2.2⟩,ob,es,ep,k _ _ (.inl rfl) e,c⟩
 | set S n=>obtain ⟨ob,es,ep,t,e,c⟩:=x;exact ⟨ob,es,ep,t,k _ _ (.inl rfl) e,c⟩
 | ins C dx fs =>
  obtain ⟨d,z,ne,e,mA,⟨od,es,ep,e2,c⟩,r⟩:=x;exact ⟨ho _ d,z,ne,k _ _ (.inl rfl) e,mA,⟨od,es,ep,k _ _ (.inr d) e2,c⟩,r⟩
 | own y=>obtain ⟨ob,e⟩:=x;exact ⟨ob,k _ _ (.inl rfl) e⟩
 | xd fs=>obtain ⟨mA,⟨od,es,ep,e,c⟩,r⟩:=x;exact ⟨mA,⟨od,es,ep,k _ _ (.inl rfl) e,c⟩,r⟩
 | rng lo hi=>obtain ⟨t,u,v,e⟩:=x;exact ⟨t,u,v,k _ _ (.inl rfl) e⟩
 | frz ob u ih=>obtain ⟨e,q⟩:=x;exact ⟨k _ _ (.inl rfl) e,ih q⟩
 | tbl ps =>
  have e:h.get? a=some { cls:=.none,data:=.fields ps }:=x;show h'.get? a=some { cls:=.none,data:=.fields ps };exact k a _ (.inl rfl) e
 | met f y =>
  have e:h.get? a=some (PySem.W.methodObj (.ref f) (.ref y)):=x;show h'.get? a=some (PySem.W.methodObj (.ref f) (.ref y));exact k a _ (.inl rfl) e
 | ext φ=>obtain ⟨p,⟨o,e⟩,st⟩:=x;exact ⟨st _ _ p fun o q=>k _ _ (.inl rfl) q,⟨o,k _ _ (.inl rfl) e⟩,st⟩
def r8.lt (x:r8 P w H h) (e:H a=some o):a < h.objs.size:=(x a o e).lt
def r8.fresh (x:r8 P w H h) (e:h.objs.size<=a):H a=none:=by
 cases q:H a with
 | none=>rfl
 | some u=>exact absurd (Nat.lt_of_lt_of_le (x.lt q) e) (Nat.lt_irrefl _)
def r8.kept (x:r8 P w H h) (k:∀ b u,h.get? b=some u->h'.get? b=some u):r8 P w H h':=fun a o e =>
 (x a o e).stay (fun b u _ q=>k b u q) (fun _ q=>q) fun _ _ q=>q
def r8.laid (x:r8 P w H h) (k:∀ b u,h.get? b=some u->h'.get? b=some u) (hp:h.objs.size<=a) (new:eO P w (dE H a o) h' a o):r8 P w (dE H a o) h':=fun b u e=>by
 have hn:=x.fresh hp;by_cases hb:b=a
 ·subst hb;rw [br] at e;cases e;exact new
 ·rw [bn hb] at e;exact (x b u e).stay (fun c v _ q=>k c v q) (fun c q=>by rw [bn (bK q hn)];exact q) fun c xs q=>by rw [bn (bK q hn)];exact q
end
def Rd (H:Hp) (a:Addr) (u:HO):Prop:=H a=some u\/∃ o,H a=some (.frz o u)
theorem Rd.ok {P:Program} {w:World} {H:Hp} {h:Heap} {a:Addr} {u:HO} (r:Rd H a u) (x:r8 P w H h):eO P w H h a u:=by
 rcases r with r|⟨o,r⟩
 ·exact x a u r
 ·obtain ⟨_,q⟩:=x a _ r;exact q
def UP:Option HO->Prop
 | some (.lst _)=>True
 | some (.dK _)=>True
 | some (.dT _)=>True
 | some (.set _ _)=>True
 | some (.ins _ _ _)=>True
 | some (.ext _)=>True
 | _=>False
section
variable {P:Program} {w:World} {H:Hp} {h h':Heap} {x e:Addr} {o':HO}
def r8.write (ok:r8 P w H h) (mu:UP (H x)) (he:e=x\/H e=some (.own x)) (k:∀ b u,b≠e->h.get? b=some u->h'.get? b=some u) (heo:∃ u,h'.get? e=some u)
  (new:eO P w (dE H x o') h' x o'):r8 P w (dE H x o') h':=fun b u q=>by
 have nown:∀ c y,H c=some (.own y)->c≠x:=fun c y r z=>by subst z;rw [r] at mu;exact mu
 have ntup:∀ c xs,H c=some (.tup xs)->c≠x:=fun c xs r z=>by subst z;rw [r] at mu;exact mu
 by_cases hb:b=x
 ·subst hb;rw [br] at q;cases q;exact new
 ·rw [bn hb] at q;by_cases hbe:b=e
  ·have q':H b=some (.own x):=by
    rcases he with z|z
    ·exact absurd (hbe.trans z) hb
    ·rw [hbe];exact z
   rw [q] at q';cases q';obtain ⟨v,hv⟩:=heo;exact ⟨v,by rw [hbe];exact hv⟩
  ·refine (ok b u q).stay (fun c v hc r=>k c v ?_ r) (fun c r=>by rw [bn (nown c b r)];exact r) fun c xs r=>by rw [bn (ntup c xs r)];exact r
   rcases hc with rfl|hc
   ·exact hbe
   ·rintro rfl;rcases he with z|z
    ·exact nown c b hc z
    ·rw [hc] at z;cases z;exact hb rfl
end
structure Un (fs ex:List Addr) (H H':Hp) (h h':Heap):Prop where
 keep:∀ b o,h.get? b=some o->H b=none->b∉fs->b∉ex->h'.get? b=some o
 slot:∀ b o,h.get? b=some o->H b=none->b∈fs->b∉ex->∃ sl,h'.get? b=some { o with slots:=sl }
 free:∀ b o,h.get? b=some o->H b=none->b∉ex->H' b=none
 there:∀ b o,h.get? b=some o->b∉ex->∃ o',h'.get? b=some o'
 tups:∀ b xs,H b=some (.tup xs)->H' b=some (.tup xs)
 frzs:∀ b o u,H b=some (.frz o u)->H' b=some (.frz o u)
 tbls:∀ b ps,H b=some (.tbl ps)->∃ more,H' b=some (.tbl (ps++more))
section
variable {fs fs' ex ex':List Addr} {H H1 H2:Hp} {h h1 h2 h':Heap} {a x e:Addr} {o:HO}
def Un.any (u:Un fs ex H H1 h h1) {b:Addr} {ob:Obj} (q:h.get? b=some ob) (n:H b=none) (hx:b∉ex):∃ sl,h1.get? b=some { ob with slots:=sl }:=by
 by_cases hb:b∈fs
 ·exact u.slot b ob q n hb hx
 ·exact ⟨ob.slots,u.keep b ob q n hb hx⟩
def Un.kept (k:∀ b u,h.get? b=some u->h'.get? b=some u):Un fs ex H H h h' :=
 ⟨fun b ob q _ _ _=>k b ob q,fun b ob q _ _ _=>⟨ob.slots,k b ob q⟩,fun _ _ _ n _=>n,fun b ob q _=>⟨ob,k b ob q⟩,fun _ _ q=>q,fun _ _ _ q=>q,fun _ ps q=>⟨#[],by rw [q];simp⟩⟩
def Un.refl:Un fs ex H H h h:=Un.kept fun _ _ q=>q
def Un.laid (k:∀ b u,h.get? b=some u->h'.get? b=some u) (hp:h.objs.size<=a) (hn:H a=none):Un fs ex H (dE H a o) h h' where
 keep:=fun b u q _ _ _=>k b u q
 slot:=fun b u q _ _ _=>⟨u.slots,k b u q⟩
 free:=fun b u q n _=>by rw [bn (Nat.ne_of_lt (Nat.lt_of_lt_of_le (Heap.lt_size q) hp))];exact n
 there:=fun b u q _=>⟨u,k b u q⟩
 tups:=fun b xs q=>by rw [bn (bK q hn)];exact q
 frzs:=fun b u xs q=>by rw [bn (bK q hn)];exact q
 tbls:=fun b ps q=>⟨#[],by rw [bn (bK q hn),q];simp⟩
def Un.write (mu:UP (H x)) (he:e=x\/H e=some (.own x)) (k:∀ b u,b≠e->h.get? b=some u->h'.get? b=some u) (heo:∃ u,h'.get? e=some u):Un fs ex H (dE H x o) h h':=by
 have hx:∀ b,H b=none->b≠x:=fun b n z=>by subst z;rw [n] at mu;exact mu
 have hb:∀ b,H b=none->b≠e:=fun b n z=>by
  subst z;rcases he with r|r
  ·exact hx b n r
  ·rw [n] at r;cases r
 have hm:∀ b u,H b=some u->¬ UP (some u)->b≠x:=fun b u q nm z=>by subst z;rw [q] at mu;exact nm mu
 refine ⟨fun b u q n _ _=>k b u (hb b n) q,fun b u q n _ _=>⟨u.slots,k b u (hb b n) q⟩,fun b u q n _=>by rw [bn (hx b n)];exact n,fun b u q _=>?_,
  fun b xs q=>by rw [bn (hm b _ q fun z=>z)];exact q,fun b u xs q=>by rw [bn (hm b _ q fun z=>z)];exact q,fun b ps q=>⟨#[],by rw [bn (hm b _ q fun z=>z),q];simp⟩⟩
 by_cases hbe:b=e
 ·subst hbe;exact heo
 ·exact ⟨u,k b u hbe q⟩
end
def UM (h:Heap) (H:Hp):List Addr:=(List.range h.objs.size).filter fun a=>(H a).isSome
def yq (h:Heap) (H:Hp):Heap:=PySem.W.hideAll h (UM h H)
def D5 (h:Heap) (H:Hp):(yq h H).objs.size=h.objs.size:=PySem.W.hideAll_size _ _
def EX {h:Heap} {H:Hp} {b:Addr} {o:Obj} (e:h.get? b=some o) (n:H b=none):(yq h H).get? b=some o :=
 PySem.W.hideAll_get _ e fun hm=>by
  have q:(H b).isSome=true:=(List.mem_filter.mp hm).2;rw [n] at q;simp at q
def HI {h:Heap} {H:Hp} {b:Addr} {o:Obj} (e:(yq h H).get? b=some o):h.get? b=some o/\H b=none:=by
 have e':h.get? b=some o:=PySem.W.of_hideAll (UM h H) e;refine ⟨e',?_⟩;cases q:H b with
 | none=>rfl
 | some x =>
  have hm:b∈UM h H:=List.mem_filter.mpr ⟨List.mem_range.mpr (Heap.lt_size e'),by simp [q]⟩;have z:(yq h H).get? b=none:=PySem.W.hideAll_none (UM h H) hm;rw [z] at e;cases e
def HF (g h:Heap) (L:Addr):List (Addr×Obj):=(List.range h.objs.size).filterMap fun a=>if a=L\/(g.get? a).isSome=true then none else (h.get? a).map fun o=>(a,o)
def rest (g h:Heap) (L d:Addr):List (Addr×Obj):=(HF g h L).filter fun p=>decide (p.1≠d)
structure Mod (K:PySem.W.Frag) (mg:Str->Option Value) (base:Heap):Prop where
 kin:K.In base
 glob:base.Ns mainGlobals mg
 blt:∃ mb,base.Ns builtinsNs mb/\∀ x:Str,x≠"__name__"->mb x=bootBuiltins x
 nolimit:base.NoLimit
structure Cx where
 prog:Program
 w:World
 K:PySem.W.Frag
 mg:Str->Option Value
 base:Heap
 A:Around
 N:List Str
 s₀:Shared
 H₀:Hp
 env:Env
 outer:List Env
 stack:List Env
 ex:List Addr
 fn:Str->Bool
 calm:Bool
 tn:Nat:=0
 pn:List (Addr×Obj)
 xe:Value->Shared->Prop
def DV (l:List Env):List Addr:=l.filterMap (·.frame)
abbrev Cx.fs (X:Cx):List Addr:=DV X.outer
def Em (sc:Scope) (x:Str):Prop:=sc.names.lookup x=some .local\/sc.names.lookup x=some .cell\/sc.names.lookup x=some .free
def Ct (sc:Scope) (x:Str):Prop:=sc.names.lookup x=some .local\/sc.names.lookup x=some .cell
def Wi (env:Env) (h:Heap) (m:Str->Option Value) (x:Str) (u:Value):Prop :=
 (env.kindOf x=some .local/\m x=some u)\/((env.kindOf x=some .cell\/env.kindOf x=some .free)/\∃ c,env.cells.lookup x=some c/\h.IsCell c (some u))
structure Cx.Ok (X:Cx):Prop where
 mod:Mod X.K X.mg X.base
 kind:X.env.scope.kind=.function
 glob:X.env.globals=mainGlobals
 blt:X.env.builtins=builtinsNs
 above:X.s₀.heap.objs.size<=X.env.locals
 inj:∀ x y c,X.env.cells.lookup x=some c->X.env.cells.lookup y=some c->x=y
 has:∀ x,(X.env.kindOf x=some .cell\/X.env.kindOf x=some .free)->∃ c,X.env.cells.lookup x=some c
 cab:∀ x c,X.fn x=true->X.env.cells.lookup x=some c->X.s₀.heap.objs.size<=c
 hd:X.calm=true->X.A.handled=none
 frames:X.A.frames=some X.stack
 stk:X.stack=X.outer\/(X.stack=X.env::X.outer/\X.env.frame=some X.env.locals)
 exf:∀ b∈X.ex,b≠X.env.locals/\∀ x c,X.env.cells.lookup x=some c->c≠b
 bs:∀ b o,X.base.get? b=some o->X.s₀.heap.get? b=some o/\X.H₀ b=none
 bsz:X.base.objs.size<=X.s₀.heap.objs.size
 noex:∀ b o,X.base.get? b=some o->b∉X.ex
 exfs:∀ b∈X.ex,b∉X.fs
 funs:X.s₀.heap.FunFrames X.base X.outer
 frf:∀ b∈X.fs,X.H₀ b=none
structure Inv (X:Cx) (af:List (Addr×Obj)) (σ:List (Option V)) (H:Hp) (s:Shared):Prop where
 ok:X.Ok
 os:s.os=X.s₀.os
 bare:AllBare s.gens
 base:Un X.fs X.ex X.H₀ H X.s₀.heap s.heap
 loc:∃ m,s.heap.Ns X.env.locals m/\∀ (i:Nat) (x:Str) (v:V),X.N[i]?=some x->σ[i]?=some (some v)->Em X.env.scope x->∃ u,bw v u/\Wi X.env s.heap m x u
 cell:∀ x c,X.env.cells.lookup x=some c->∃ v,s.heap.IsCell c v
 free:H X.env.locals=none
 freeC:∀ x c,X.env.cells.lookup x=some c->H c=none
 pin:∀ p∈X.pn++af,s.heap.get? p.1=some p.2/\H p.1=none/\p.1≠X.env.locals/\p.1∉X.fs/\∀ v,p.2.data≠.cell v
 hok:r8 X.prog X.w H s.heap
 len:σ.length=X.N.length
 tk:X.tn<=s.toks
end L2
local macro_rules | `(tactic| walk_at "tok") => `(tactic| first | assumption | exact L2.Inv.tk (by assumption) | exact Nat.le_succ_of_le (L2.Inv.tk (by assumption)) | exact Nat.le_succ_of_le (Nat.le_succ_of_le (L2.Inv.tk (by assumption))) | (have hI := L2.Inv.tk (by assumption); omega) | exact Nat.zero_le _)
namespace L2
open PySem PySem.Spec PyProof.Rows
section
variable {X:Cx} {af:List (Addr×Obj)} {σ:List (Option V)} {H H':Hp} {s:Shared} {h':Heap}
def Cx.Ok.nofr (ok:X.Ok) {b:Addr} {o:Obj} (e:X.base.get? b=some o):b∉X.fs:=fun hb=>by
 have:=(ok.funs.mem hb).1
 rw [e] at this;cases this
def Inv.bs (I:Inv X af σ H s):∀ b o,X.base.get? b=some o->s.heap.get? b=some o/\H b=none:=fun b o e =>
 ⟨I.base.keep b o (I.ok.bs b o e).1 (I.ok.bs b o e).2 (I.ok.nofr e) (I.ok.noex b o e),I.base.free b o (I.ok.bs b o e).1 (I.ok.bs b o e).2 (I.ok.noex b o e)⟩
def Inv.bk (I:Inv X af σ H s):∀ b o,X.base.get? b=some o->s.heap.get? b=some o:=fun b o e=>(I.bs b o e).1
def Inv.mod (I:Inv X af σ H s):Mod X.K X.mg X.base:=I.ok.mod
def Inv.kIn (I:Inv X af σ H s):X.K.In s.heap:=I.ok.mod.kin.keeps I.bk
def Inv.lt (I:Inv X af σ H s):X.env.locals < s.heap.objs.size:=let ⟨_,hn,_⟩:=I.loc;hn.lt
def Inv.sz (I:Inv X af σ H s):X.s₀.heap.objs.size<=s.heap.objs.size:=Nat.le_trans I.ok.above (Nat.le_of_lt I.lt)
def Inv.nofs (I:Inv X af σ H s) {a:Addr} (h:s.heap.objs.size<=a):a∉X.fs:=fun hb=>by
 obtain ⟨_,o,ho,_⟩:=I.ok.funs.mem hb;exact absurd (Nat.lt_of_lt_of_le (Heap.lt_size ho) (Nat.le_trans I.sz h)) (Nat.lt_irrefl _)
def Inv.cne (I:Inv X af σ H s):∀ x c,X.env.cells.lookup x=some c->c≠X.env.locals:=fun x c e z=>by
 obtain ⟨v,o,ho,hd⟩:=I.cell x c e;obtain ⟨m,⟨o',es,ep,ho',hd',_⟩,_⟩:=I.loc;rw [z,ho'] at ho;cases ho;rw [hd'] at hd;cases hd
def Inv.funs (I:Inv X af σ H s):s.heap.FunFrames X.base X.outer:=by
 have all:∀ (l:List Env),(∀ b∈DV l,b∈X.fs)->X.s₀.heap.FunFrames X.base l->s.heap.FunFrames X.base l:=by
  intro l;induction l with
  | nil=>intro _ _;trivial
  | cons env r ih =>
   intro hs hl;obtain ⟨hk,⟨L,o,hf,hn,ho,hd⟩,hr⟩:=hl;have hL:L∈X.fs:=hs L (by unfold DV;rw [List.filterMap_cons,hf];exact List.mem_cons_self);obtain ⟨sl,e⟩:=I.base.slot L o ho (I.ok.frf L hL) hL fun z=>I.ok.exfs L z hL;exact ⟨hk,⟨L,_,hf,hn,e,hd⟩,ih (fun b hb=>hs b (by unfold DV;rw [List.filterMap_cons,hf];exact List.mem_cons_of_mem _ hb)) hr⟩
 exact all X.outer (fun _ hb=>hb) I.ok.funs
def Inv.stack (I:Inv X af σ H s):s.heap.FunFrames X.base X.stack:=by
 rcases I.ok.stk with e|⟨e,hf⟩
 ·rw [e];exact I.funs
 ·rw [e];obtain ⟨m,hn,_⟩:=I.loc;refine .cons (by rw [I.ok.kind];decide) hf hn ?_ I.funs;exact Heap.get?_none_of_le (Nat.le_trans I.ok.bsz I.ok.above)
def Inv.stkSub (I:Inv X af σ H s):∀ b∈DV X.stack,b∈X.env.locals::X.fs:=fun b hb=>by
 rcases I.ok.stk with e|⟨e,hf⟩
 ·rw [e] at hb;exact List.mem_cons_of_mem _ hb
 ·rw [e] at hb;unfold DV at hb;rw [List.filterMap_cons,hf] at hb;exact hb
def Inv.stkFree (I:Inv X af σ H s):∀ b∈DV X.stack,H b=none:=fun b hb=>by
 rcases List.mem_cons.mp (I.stkSub b hb) with e|hb
 ·rw [e];exact I.free
 ·obtain ⟨_,o,ho,_⟩:=I.ok.funs.mem hb;exact I.base.free b o ho (I.ok.frf b hb) fun z=>I.ok.exfs b z hb
def Inv.step {g':Array GenState} {t':Nat} {d':Drawn} {ch:List Addr} (I:Inv X af σ H s)
  (hch:∀ b∈ch,(b∈X.ex\/X.s₀.heap.objs.size<=b)/\b≠X.env.locals/\(∀ x c,X.env.cells.lookup x=some c->c≠b)/\∀ p∈X.pn++af,p.1≠b)
  (keep:∀ b o,b≠X.env.locals->b∉X.fs->b∉ch->s.heap.get? b=some o->H b=none->h'.get? b=some o)
  (slot:∀ b o,b≠X.env.locals->b∈X.fs->b∉ch->s.heap.get? b=some o->H b=none->∃ sl,h'.get? b=some { o with slots:=sl }) (free:∀ b o,b∉ch->s.heap.get? b=some o->H b=none->H' b=none)
  (there:∀ b o,b∉ch->s.heap.get? b=some o->∃ o',h'.get? b=some o')
  (tups:∀ b xs,H b=some (.tup xs)->H' b=some (.tup xs)) (frzs:∀ b o u,H b=some (.frz o u)->H' b=some (.frz o u)) (tbls:∀ b ps,H b=some (.tbl ps)->∃ more,H' b=some (.tbl (ps++more)))
  (ns:∀ m,s.heap.Ns X.env.locals m->h'.Ns X.env.locals m) (hok:r8 X.prog X.w H' h') (hg:AllBare g') (ht:X.tn<=t':=by walk_at "tok") :
  Inv X af σ H' { s with heap:=h',gens:=g',drawn:=d',toks:=t' }:=by
 have neL:∀ b o,X.s₀.heap.get? b=some o->b≠X.env.locals:=fun b o e=>Nat.ne_of_lt (Nat.lt_of_lt_of_le (Heap.lt_size e) I.ok.above);have neC:∀ b o,X.s₀.heap.get? b=some o->b∉X.ex->b∉ch:=fun b o e hx hb=>by
  rcases (hch b hb).1 with z|z
  ·exact hx z
  ·exact absurd (Nat.lt_of_lt_of_le (Heap.lt_size e) z) (Nat.lt_irrefl _)
 have cellK:∀ x c,X.env.cells.lookup x=some c->∀ v,s.heap.IsCell c v->h'.IsCell c v:=fun x c e v ⟨o,ho,hd⟩=>by
  have nch:c∉ch:=fun z=>(hch c z).2.2.1 x c e rfl;by_cases hc:c∈X.fs
  ·obtain ⟨sl,q⟩:=slot c o (I.cne x c e) hc nch ho (I.freeC x c e);exact ⟨_,q,hd⟩
  ·exact ⟨o,keep c o (I.cne x c e) hc nch ho (I.freeC x c e),hd⟩
 refine ⟨I.ok,I.os,hg,⟨fun b o e n hb hx=>?_,fun b o e n hb hx=>?_,fun b o e n hx=>?_,fun b o e hx=>?_,fun b xs e=>tups b xs (I.base.tups b xs e),fun b o xs e=>frzs b o xs (I.base.frzs b o xs e),fun b ps e=>?_⟩,?_,fun x c e=>?_,?_,fun x c e=>?_,fun p hp=>?_,hok,I.len,ht⟩
 ·exact keep b o (neL b o e) hb (neC b o e hx) (I.base.keep b o e n hb hx) (I.base.free b o e n hx)
 ·obtain ⟨sl,e1⟩:=I.base.slot b o e n hb hx;obtain ⟨sl',e2⟩:=slot b _ (neL b o e) hb (neC b o e hx) e1 (I.base.free b o e n hx);exact ⟨sl',e2⟩
 ·obtain ⟨o',e1⟩:=I.base.there b o e hx;exact free b o' (neC b o e hx) e1 (I.base.free b o e n hx)
 ·obtain ⟨o',e1⟩:=I.base.there b o e hx;exact there b o' (neC b o e hx) e1
 ·obtain ⟨m1,e1⟩:=I.base.tbls b ps e;obtain ⟨m2,e2⟩:=tbls b _ e1;exact ⟨m1++m2,by rw [e2,Array.append_assoc]⟩
 ·obtain ⟨m,hn,hl⟩:=I.loc;refine ⟨m,ns m hn,fun i x v e1 e2 e3=>?_⟩;obtain ⟨u,r,l⟩:=hl i x v e1 e2 e3;refine ⟨u,r,?_⟩;rcases l with l|⟨k,c,e,z⟩
  ·exact .inl l
  ·exact .inr ⟨k,c,e,cellK x c e _ z⟩
 ·obtain ⟨v,z⟩:=I.cell x c e;exact ⟨v,cellK x c e v z⟩
 ·obtain ⟨m,⟨o,_,_,ho,_⟩,_⟩:=I.loc;exact free _ o (fun z=>(hch _ z).2.1 rfl) ho I.free
 ·obtain ⟨v,o,ho,hd⟩:=I.cell x c e;exact free c o (fun z=>(hch c z).2.2.1 x c e rfl) ho (I.freeC x c e)
 ·obtain ⟨e,n,ne,nf,d⟩:=I.pin p hp;have nch:p.1∉ch:=fun z=>(hch p.1 z).2.2.2 p hp rfl;exact ⟨keep p.1 p.2 ne nf nch e n,free p.1 p.2 nch e n,ne,nf,d⟩
def Inv.un {t':Nat} (I:Inv X af σ H s) (u:Un X.fs [] H H' s.heap h') (hok:r8 X.prog X.w H' h') (ht:X.tn<=t':=by walk_at "tok"):Inv X af σ H' { s with heap:=h',toks:=t' }:=by
 obtain ⟨m,⟨o,es,ep,ho,r⟩,_⟩:=id I.loc;obtain ⟨sl,hL⟩:=u.any ho I.free (by simp);exact I.step (g':=s.gens) (d':=s.drawn) (ch:=[]) (fun _ z=>nomatch z) (fun b o _ hb _ e n=>u.keep b o e n hb (by simp)) (fun b o _ hb _ e n=>u.slot b o e n hb (by simp)) (fun b o _ e n=>u.free b o e n (by simp)) (fun b o _ e=>u.there b o e (by simp)) u.tups u.frzs u.tbls (fun m' hm=>by
  obtain ⟨o',es',ep',ho',r'⟩:=hm;rw [ho] at ho';cases ho';exact ⟨_,es',ep',hL,r'⟩) hok I.bare
def Inv.call {g':Array GenState} {t':Nat} {d':Drawn} {ch:List Addr} (I:Inv X af σ H s) (u:Un (DV X.stack) ch H H' s.heap h') (hok:r8 X.prog X.w H' h') (hg:AllBare g')
  (hch:∀ b∈ch,(b∈X.ex\/X.s₀.heap.objs.size<=b)/\b≠X.env.locals/\(∀ x c,X.env.cells.lookup x=some c->c≠b)/\∀ p∈X.pn++af,p.1≠b) (ht:X.tn<=t':=by walk_at "tok") :
  Inv X af σ H' { s with heap:=h',gens:=g',drawn:=d',toks:=t' }:=by
 obtain ⟨m,⟨o,es,ep,ho,r⟩,_⟩:=id I.loc;obtain ⟨sl,hL⟩:=u.any ho I.free fun z=>(hch _ z).2.1 rfl;exact I.step (ch:=ch) hch (fun b o hL hb hc e n=>u.keep b o e n (fun z=>(List.mem_cons.mp (I.stkSub b z)).elim hL hb) hc) (fun b o _ _ hc e n=>u.any e n hc) (fun b o hc e n=>u.free b o e n hc) (fun b o hc e=>u.there b o e hc) u.tups u.frzs u.tbls (fun m' hm=>by
  obtain ⟨o',es',ep',ho',r'⟩:=hm;rw [ho] at ho';cases ho';exact ⟨_,es',ep',hL,r'⟩) hok hg
def Inv.turned {t':Nat} {it:Addr} (I:Inv X af σ H s) (k:∀ b o,b≠it->s.heap.get? b=some o->h'.get? b=some o) (hn:H it=none) (hL:it≠X.env.locals)
  (h1:it∈X.ex\/X.s₀.heap.objs.size<=it) (h2:∀ x c,X.env.cells.lookup x=some c->c≠it) (h3:∀ p∈X.pn++af,p.1≠it) (ht:X.tn<=t':=by walk_at "tok"):Inv X af σ H { s with heap:=h',toks:=t' }:=by
 have nit:∀ b u,H b=some u->b≠it:=fun b u e z=>by rw [z,hn] at e;cases e
 refine I.step (g':=s.gens) (d':=s.drawn) (ch:=[it]) (fun b hb=>?_) (fun b o _ _ hc e _=>k b o (fun z=>hc (by simp [z])) e) (fun b o _ _ hc e _=>⟨o.slots,k b o (fun z=>hc (by simp [z])) e⟩) (fun _ _ _ _ n=>n)
  (fun b o hc e=>⟨o,k b o (fun z=>hc (by simp [z])) e⟩) (fun _ _ e=>e) (fun _ _ _ e=>e) (fun b ps e=>⟨#[],by rw [e];simp⟩) (fun m hm=>?_) (fun b u e=>?_) I.bare
 ·have e:b=it:=by simpa using hb
  subst e;exact ⟨h1,hL,h2,h3⟩
 ·obtain ⟨o,es,ep,ho,r⟩:=hm;exact ⟨o,es,ep,k _ o (Ne.symm hL) ho,r⟩
 ·refine (I.hok b u e).stay (fun c v hc q=>k c v ?_ q) (fun _ q=>q) fun _ _ q=>q;rcases hc with z|z
  ·rw [z];exact nit b u e
  ·exact nit c _ z
def Inv.tok (I:Inv X af σ H s) (t:Nat) (ht:X.tn<=t:=by walk_at "tok"):Inv X af σ H { s with toks:=t }:=I.un (h':=s.heap) (t':=t) Un.refl I.hok
def Inv.kept {t':Nat} (I:Inv X af σ H s) (k:∀ b u,s.heap.get? b=some u->h'.get? b=some u) (ht:X.tn<=t':=by walk_at "tok"):Inv X af σ H { s with heap:=h',toks:=t' }:=I.un (Un.kept k) (I.hok.kept k)
def Inv.laid {a:Addr} {o:HO} {t':Nat} (I:Inv X af σ H s) (k:∀ b u,s.heap.get? b=some u->h'.get? b=some u) (hp:s.heap.objs.size<=a) (new:eO X.prog X.w (dE H a o) h' a o) (ht:X.tn<=t':=by walk_at "tok") :
  Inv X af σ (dE H a o) { s with heap:=h',toks:=t' }:=I.un (Un.laid k hp (I.hok.fresh hp)) (I.hok.laid k hp new)
def Inv.write {x e:Addr} {o:HO} {t':Nat} (I:Inv X af σ H s) (mu:UP (H x)) (he:e=x\/H e=some (.own x)) (k:∀ b u,b≠e->s.heap.get? b=some u->h'.get? b=some u) (heo:∃ u,h'.get? e=some u)
  (new:eO X.prog X.w (dE H x o) h' x o) (ht:X.tn<=t':=by walk_at "tok"):Inv X af σ (dE H x o) { s with heap:=h',toks:=t' }:=I.un (Un.write mu he k heo) (I.hok.write mu he k heo new)
def Inv.pins_of {pins':List (Addr×Obj)} (I:Inv X af σ H s) (h:∀ p∈pins',s.heap.get? p.1=some p.2/\H p.1=none/\p.1≠X.env.locals/\p.1∉X.fs/\∀ v,p.2.data≠.cell v):Inv X pins' σ H s :=
 ⟨I.ok,I.os,I.bare,I.base,I.loc,I.cell,I.free,I.freeC,fun p hp=>(List.mem_append.mp hp).elim (fun z=>I.pin p (List.mem_append_left _ z)) (h p),I.hok,I.len,I.tk⟩
def zk {N:List Str} (hN:N.Nodup) {i j:Nat} {x:Str} (a:N[i]?=some x) (b:N[j]?=some x):i=j:=by
 obtain ⟨h1,e1⟩:=List.getElem?_eq_some_iff.mp a;obtain ⟨h2,e2⟩:=List.getElem?_eq_some_iff.mp b;exact (List.getElem_inj hN).mp (e1.trans e2.symm)
def De {M:Model} {A:Around} {E:Value->Shared->Prop} {i:Nat} {x:Str} {v:V} {u:Value} {Q:Unit->Shared->Prop} (I:Inv X af σ H s) (hN:X.N.Nodup) (hi:X.N[i]?=some x) (hx:Ct X.env.scope x) (r:bw v u)
  (h:∀ s',Inv X af (σ.set i (some v)) H s'->(∃ a,Heap.SameBut a s.heap s'.heap/\(a=X.env.locals\/X.env.cells.lookup x=some a))->Q () s') (hf:X.fn x=true\/X.env.scope.names.lookup x=some .local:=by first|exact .inl rfl|exact .inr rfl|assumption):wpAny M A (storeName X.env x u) Q E s:=by
 obtain ⟨m,hn,hl⟩:=id I.loc;have hcls:(X.env.scope.kind==.class||(X.env.scope.kind==.module&&X.env.locals != X.env.globals))=false:=by rw [I.ok.kind];rfl
 have hiσ:i < σ.length:=by rw [I.len];exact (List.getElem?_eq_some_iff.mp hi).1
 have cne:=I.cne;have tracked:∀ {a:Addr} {h':Heap},(∃ o,s.heap.get? a=some o/\H a=none)->Heap.SameBut a s.heap h'->r8 X.prog X.w H h':=fun {a h'} ha hs b ob e=>by
  obtain ⟨_,_,hfree⟩:=ha;refine (I.hok b ob e).stay (fun c w' hc q=>(hs.2 c ?_).trans q) (fun _ q=>q) fun _ _ q=>q;rintro rfl;rcases hc with rfl|hc
  ·rw [hfree] at e;cases e
  ·rw [hfree] at hc;cases hc
 rcases hx with hk|hk
 ·refine wpAny_storeName_local hk hn (fun h' hn' hs=>?_) hcls;obtain ⟨oL,_,_,hoL,_⟩:=id hn;refine h _ ⟨I.ok,I.os,I.bare,⟨fun b o e n hb hx=>?_,fun b o e n hb hx=>?_,I.base.free,fun b o e hx=>?_,I.base.tups,I.base.frzs,I.base.tbls⟩,⟨_,hn',fun j y v' e1 e2 e3=>?_⟩,fun y c e=>?_,I.free,I.freeC,fun p hp=>?_,tracked ⟨oL,hoL,I.free⟩ hs,by simpa using I.len,by walk_at "tok"⟩ ⟨_,hs,.inl rfl⟩
  ·exact (hs.2 b (Nat.ne_of_lt (Nat.lt_of_lt_of_le (Heap.lt_size e) I.ok.above))).trans (I.base.keep b o e n hb hx)
  ·obtain ⟨sl,e1⟩:=I.base.slot b o e n hb hx;exact ⟨sl,(hs.2 b (Nat.ne_of_lt (Nat.lt_of_lt_of_le (Heap.lt_size e) I.ok.above))).trans e1⟩
  ·obtain ⟨o',e1⟩:=I.base.there b o e hx;exact ⟨o',(hs.2 b (Nat.ne_of_lt (Nat.lt_of_lt_of_le (Heap.lt_size e) I.ok.above))).trans e1⟩
  ·by_cases hj:j=i
   ·subst hj;rw [hi] at e1;cases e1;rw [List.getElem?_set_self hiσ] at e2;cases e2;exact ⟨u,r,.inl ⟨hk,by simp⟩⟩
   ·rw [List.getElem?_set_ne (Ne.symm hj)] at e2;obtain ⟨u',r',q⟩:=hl j y v' e1 e2 e3;refine ⟨u',r',?_⟩;rcases q with ⟨k,e⟩|⟨k,c,e,z⟩
    ·refine .inl ⟨k,?_⟩
     have:y≠x:=fun e=>hj (zk hN e1 (e ▸ hi))
     simp [this,e]
    ·exact .inr ⟨k,c,e,z.sameBut hs (cne y c e)⟩
  ·obtain ⟨w',z⟩:=I.cell y c e;exact ⟨w',z.sameBut hs (cne y c e)⟩
  ·obtain ⟨e,n,ne,nf,d⟩:=I.pin p hp;exact ⟨(hs.2 p.1 ne).trans e,n,ne,nf,d⟩
 ·have hfn:X.fn x=true:=by
   rcases hf with z|z
   ·exact z
   ·rw [z] at hk;cases hk
  obtain ⟨c,hc⟩:=I.ok.has x (.inl hk);obtain ⟨w',z⟩:=I.cell x c hc;refine wpAny_storeName_cell I.ok.kind hk hc z (fun h' hc' hs=>?_);obtain ⟨oc,hoc,hocd⟩:=id z;refine h { s with heap:=h' } ⟨I.ok,I.os,I.bare,⟨fun b o e n hb hx=>?_,fun b o e n hb hx=>?_,I.base.free,fun b o e hx=>?_,I.base.tups,I.base.frzs,I.base.tbls⟩,⟨m,hn.sameBut hs (Ne.symm (cne x c hc)),fun j y v' e1 e2 e3=>?_⟩,fun y c' e=>?_,I.free,I.freeC,fun p hp=>?_,tracked ⟨oc,hoc,I.freeC x c hc⟩ hs,by simpa using I.len,I.tk⟩ ⟨c,hs,.inr hc⟩
  ·exact (hs.2 b (Nat.ne_of_lt (Nat.lt_of_lt_of_le (Heap.lt_size e) (I.ok.cab x c hfn hc)))).trans (I.base.keep b o e n hb hx)
  ·obtain ⟨sl,e1⟩:=I.base.slot b o e n hb hx;exact ⟨sl,(hs.2 b (Nat.ne_of_lt (Nat.lt_of_lt_of_le (Heap.lt_size e) (I.ok.cab x c hfn hc)))).trans e1⟩
  ·obtain ⟨o',e1⟩:=I.base.there b o e hx;exact ⟨o',(hs.2 b (Nat.ne_of_lt (Nat.lt_of_lt_of_le (Heap.lt_size e) (I.ok.cab x c hfn hc)))).trans e1⟩
  ·by_cases hj:j=i
   ·subst hj;rw [hi] at e1;cases e1;rw [List.getElem?_set_self hiσ] at e2;cases e2;exact ⟨u,r,.inr ⟨.inl hk,c,hc,hc'⟩⟩
   ·rw [List.getElem?_set_ne (Ne.symm hj)] at e2;obtain ⟨u',r',q⟩:=hl j y v' e1 e2 e3;refine ⟨u',r',?_⟩;rcases q with q|⟨k,c',e,z'⟩
    ·exact .inl q
    ·refine .inr ⟨k,c',e,z'.sameBut hs ?_⟩;rintro rfl;exact hj (zk hN e1 (I.ok.inj _ _ _ e hc ▸ hi))
  ·by_cases hcc:c'=c
   ·subst hcc;exact ⟨_,hc'⟩
   ·obtain ⟨w2,z2⟩:=I.cell y c' e;exact ⟨w2,z2.sameBut hs hcc⟩
  ·obtain ⟨e,n,ne,nf,d⟩:=I.pin p hp;refine ⟨(hs.2 p.1 ?_).trans e,n,ne,nf,d⟩;intro q;rw [q,hoc] at e;have q':oc=p.2:=Option.some.inj e;exact d w' (by rw [<- q'];exact hocd)
def lG {M:Model} {A:Around} {E:Value->Shared->Prop} {i:Nat} {x:Str} {v:V} {u:Value} {Q:Unit->Shared->Prop} (I:Inv X af σ H s) (hN:X.N.Nodup) (hi:X.N[i]?=some x) (hx:Ct X.env.scope x) (r:bw v u)
  (h:∀ s',Inv X af (σ.set i (some v)) H s'->Q () s') (hf:X.fn x=true\/X.env.scope.names.lookup x=some .local:=by first|exact .inl rfl|exact .inr rfl|assumption):wpAny M A (storeName X.env x u) Q E s :=
 De I hN hi hx r (fun s' I' _=>h s' I') hf
def Inv.call' {s':Shared} {ch:List Addr} (I:Inv X af σ H s) (ho:s'.os=s.os) (u:Un (DV X.stack) ch H H' s.heap s'.heap) (hok:r8 X.prog X.w H' s'.heap) (hg:AllBare s'.gens)
  (hch:∀ b∈ch,(b∈X.ex\/X.s₀.heap.objs.size<=b)/\b≠X.env.locals/\(∀ x c,X.env.cells.lookup x=some c->c≠b)/\∀ p∈X.pn++af,p.1≠b) (ht:X.tn<=s'.toks:=by walk_at "tok"):Inv X af σ H' s':=by
 obtain ⟨h',g',d',t',o'⟩:=s';have e:o'=s.os:=ho;subst e;exact I.call (g':=g') (t':=t') (d':=d') u hok hg hch
end
abbrev XK:=Value->Option Addr->Hp->Prop
abbrev St:=List (Option V)
abbrev VK:=V->Hp->Prop
abbrev TE:=St->Hp->VK->Prop
abbrev TT:=St->Hp->(Bool->Hp->Prop)->Prop
abbrev TA:=St->Hp->(List V->Hp->Prop)->Prop
structure Ends where
 nx:St->Hp->Prop
 rt:VK
 bk:St->Hp->Prop:=fun _ _=>False
 ct:St->Hp->Prop:=fun _ _=>False
abbrev TS:=Ends->St->Hp->Prop
def EP (X:Cx) (af:List (Addr×Obj)) (σ:St) (Q:VK) (u:Value) (s':Shared):Prop:=∃ v H',Inv X af σ H' s'/\bw v u/\Q v H'
def TP (X:Cx) (af:List (Addr×Obj)) (σ:St) (Q:Bool->Hp->Prop) (b:Bool) (s':Shared):Prop:=∃ H',Inv X af σ H' s'/\Q b H'
def AP (X:Cx) (af:List (Addr×Obj)) (σ:St) (Q:List V->Hp->Prop) (us:List Value) (s':Shared):Prop:=∃ vs H',Inv X af σ H' s'/\bC vs us/\Q vs H'
def SP (X:Cx) (af:List (Addr×Obj)) (D:Ends) (f:Flow) (s':Shared):Prop :=
 match f with
 | .next=>∃ σ' H',Inv X af σ' H' s'/\D.nx σ' H'
 | .brk=>∃ σ' H',Inv X af σ' H' s'/\D.bk σ' H'
 | .cont=>∃ σ' H',Inv X af σ' H' s'/\D.ct σ' H'
 | .ret u=>∃ v σ' H',Inv X af σ' H' s'/\bw v u/\D.rt v H'
def PE (X:Cx) (e:Expr) (t:TE):Prop :=
 ∀ (af:List (Addr×Obj)) (s:Shared) (σ:St) (H:Hp) (Q:VK),Inv X af σ H s->t σ H Q->wpAny (model X.prog X.w) X.A (eval e X.env) (EP X af σ Q) X.xe s
def PT (X:Cx) (e:Expr) (t:TT):Prop :=
 ∀ (af:List (Addr×Obj)) (s:Shared) (σ:St) (H:Hp) (Q:Bool->Hp->Prop),Inv X af σ H s->t σ H Q->wpAny (model X.prog X.w) X.A (isTrue e X.env (eval e X.env)) (TP X af σ Q) X.xe s
def PW (X:Cx) (e:Expr) (t:TT):Prop :=
 ∀ (whole:Sem Value) (af:List (Addr×Obj)) (s:Shared) (σ:St) (H:Hp) (Q:Bool->Hp->Prop),Inv X af σ H s->t σ H Q->wpAny (model X.prog X.w) X.A (isTrue e X.env whole) (TP X af σ Q) X.xe s
def PW.pt {X:Cx} {e:Expr} {t:TT} (h:PW X e t):PT X e t:=h _
def PA (X:Cx) (es:List Expr) (t:TA):Prop :=
 ∀ (pos:Pos) (af:List (Addr×Obj)) (s:Shared) (σ:St) (H:Hp) (Q:List V->Hp->Prop),Inv X af σ H s->t σ H Q->wpAny (model X.prog X.w) X.A (spliced (backTo pos (starEach es X.env))) (AP X af σ Q) X.xe s
def PS (X:Cx) (st:Stmt) (t:TS):Prop :=
 ∀ (af:List (Addr×Obj)) (s:Shared) (σ:St) (H:Hp) (D:Ends),Inv X af σ H s->t D σ H->wpAny (model X.prog X.w) X.A (exec st X.env) (SP X af D) X.xe s
def Ag (X:Cx) (st:List Stmt) (t:TS):Prop :=
 ∀ (af:List (Addr×Obj)) (s:Shared) (σ:St) (H:Hp) (D:Ends),Inv X af σ H s->t D σ H->wpAny (model X.prog X.w) X.A (execs st X.env) (SP X af D) X.xe s
def eB {α:Type} {t:Sem α} {Q Q':α->Shared->Prop} {M:Model} {A:Around} {E:Value->Shared->Prop} {s:Shared} (h:wpAny M A t Q E s) (hQ:∀ a s,Q a s->Q' a s):wpAny M A t Q' E s:=wpAny_mono h hQ fun _ _ x=>x
section
variable {X:Cx}
def Vv (i:Nat):TE:=fun σ H Q=>∃ v,σ[i]?=some (some v)/\Q v H
def tC (v:V):TE:=fun _ H Q=>Q v H
def MQ {i:Nat} {x:Str} {pos:Pos} (hN:X.N[i]?=some x) (hv:Em X.env.scope x) (hd:(x==("__debug__":Str))=false:=by decide) (hcd:(x==("__classdict__":Str))=false:=by decide):PE X (.Name x pos) (Vv i):=by
 intro af s σ H Q I h;obtain ⟨v,e,h⟩:=h;obtain ⟨m,hn,hl⟩:=I.loc;obtain ⟨u,r,l⟩:=hl i x v hN e hv;have fin:EP X af σ Q u s:=⟨v,H,I,r,h⟩;rcases l with ⟨hk,hm⟩|⟨hk,c,hc,hcell⟩
 ·exact wpAny_Name (wpAny_loadName_local I.ok.kind hk hn hm fin) hd
 ·rcases hk with hk|hk
  ·exact wpAny_Name (wpAny_loadName_cell I.ok.kind hk hc hcell fin) hd
  ·exact wpAny_Name (wpAny_loadName_free I.ok.kind hk hc hcell fin hcd) hd
def M4 {i j pos}:PE X (.Constant (.int i) j pos) (tC (.int i)):=fun _ _ _ H _ I h=>wpAny_Constant_int ⟨.int i,H,I.tok _,⟨_,rfl⟩,h⟩
def P3 {b j pos}:PE X (.Constant (.bool b) j pos) (tC (.bl b)):=fun _ _ _ H _ I h=>Constant_bool ⟨.bl b,H,I,rfl,h⟩
def LR {j pos}:PE X (.Constant .none j pos) (tC .non):=fun _ _ _ H _ I h=>Constant_none ⟨.non,H,I,rfl,h⟩
def LC {x j pos}:PE X (.Constant (.str x) j pos) (tC (.str x)):=fun _ _ _ H _ I h=>Calls.Constant_str ⟨.str x,H,I.tok _,⟨_,rfl⟩,h⟩
def Gl (X:Cx) (x:Str):Prop:=X.env.kindOf x=some .globalImplicit
def il {E:Value->Shared->Prop} {af:List (Addr×Obj)} {s:Shared} {σ:St} {H:Hp} {x:Str} {u:Value} {pos:Pos} {Q:Value->Shared->Prop} (I:Inv X af σ H s) (hg:Gl X x) (hm:X.mg x=some u) (h:Q u s)
  (hd:(x==("__debug__":Str))=false:=by decide):wpAny (model X.prog X.w) X.A (eval (.Name x pos) X.env) Q E s :=
 Calls.Name_function_global I.ok.kind hg (Calls.loadGlobal_global (by rw [I.ok.glob];exact I.mod.glob.keeps I.bk) hm h) hd
def nV {E:Value->Shared->Prop} {af:List (Addr×Obj)} {s:Shared} {σ:St} {H:Hp} {x:Str} {u:Value} {pos:Pos} {Q:Value->Shared->Prop} (I:Inv X af σ H s) (hg:Gl X x) (hm:X.mg x=none) (hv:bootBuiltins x=some u) (h:Q u s)
  (hn:x≠"__name__":=by decide) (hd:(x==("__debug__":Str))=false:=by decide):wpAny (model X.prog X.w) X.A (eval (.Name x pos) X.env) Q E s:=by
 obtain ⟨mb,h1,h2⟩:=I.mod.blt;exact Calls.Name_function_global I.ok.kind hg (Calls.loadGlobal_builtin (by rw [I.ok.glob];exact I.mod.glob.keeps I.bk) hm (by rw [I.ok.blt];exact h1.keeps I.bk) ((h2 x hn).trans hv) h) hd
def HX {x:Str} {v:V} {u:Value} {pos:Pos} (hg:Gl X x) (hm:X.mg x=some u) (r:bw v u) (hd:(x==("__debug__":Str))=false:=by decide):PE X (.Name x pos) (tC v) :=
 fun _ _ _ H _ I h=>il I hg hm ⟨v,H,I,r,h⟩ hd
def Hi {x:Str} {v:V} {u:Value} {pos:Pos} (hg:Gl X x) (hm:X.mg x=none) (hv:bootBuiltins x=some u) (r:bw v u) (hn:x≠"__name__":=by decide) (hd:(x==("__debug__":Str))=false:=by decide):PE X (.Name x pos) (tC v) :=
 fun _ _ _ H _ I h=>nV I hg hm hv ⟨v,H,I,r,h⟩ hn hd
variable {a b:Expr} {ta tb:TE} {pos:Pos}
def tB (t:TE):TT:=fun σ H Q=>t σ H fun x H1=>∃ c,x=.bl c/\Q c H1
variable {tA tB':TT} {rest:List Expr}
def Ti (t u:TT):TT:=fun σ H Q=>t σ H fun c H1=>if c=true then u σ H1 Q else Q false H1
def Xf (t u:TT):TT:=fun σ H Q=>t σ H fun c H1=>if c=true then Q true H1 else u σ H1 Q
def Qn (t:TT):TT:=fun σ H Q=>t σ H fun c H1=>Q (!c) H1
def Hu (ha:PT X a tA):PW X (.BoolOp .And [a] pos) tA:=by
 intro wh af s σ H Q I h;refine isTrue_and (eB (ha af s σ H Q I h) fun c s1 e=>?_);cases c with
 | true=>exact isTrue_and_nil e
 | false=>exact e
def Mv (ha:PT X a tA):PW X (.BoolOp .Or [a] pos) tA:=by
 intro wh af s σ H Q I h;refine isTrue_or (eB (ha af s σ H Q I h) fun c s1 e=>?_);cases c with
 | false=>exact isTrue_or_nil e
 | true=>exact e
def KR (ha:PT X a tA) (hb:PW X (.BoolOp .And (b::rest) pos) tB'):PW X (.BoolOp .And (a::b::rest) pos) (Ti tA tB'):=by
 intro wh af s σ H Q I h;refine isTrue_and (eB (ha af s σ H _ I h) fun c s1 ⟨H1,I1,q1⟩=>?_);cases c with
 | true=>exact hb wh af s1 σ H1 Q I1 q1
 | false=>exact ⟨H1,I1,q1⟩
def RO (ha:PT X a tA) (hb:PW X (.BoolOp .Or (b::rest) pos) tB'):PW X (.BoolOp .Or (a::b::rest) pos) (Xf tA tB'):=by
 intro wh af s σ H Q I h;refine isTrue_or (eB (ha af s σ H _ I h) fun c s1 ⟨H1,I1,q1⟩=>?_);cases c with
 | true=>exact ⟨H1,I1,q1⟩
 | false=>exact hb wh af s1 σ H1 Q I1 q1
def MO (ha:PT X a tA):PT X (.UnaryOp .Not a pos) (Qn tA):=by
 intro af s σ H Q I h;exact isTrue_not (ha af s σ H (fun c H1=>Q (!c) H1) I h)
def MC {op} {t:TE} (h:PE X a t):PE X (.BoolOp op [a] pos) t:=fun af s σ H Q I hw=>BoolOp_one (h af s σ H Q I hw)
def WW (t:TT) (ta tb:TE):TE:=fun σ H Q=>t σ H fun c H1=>if c=true then ta σ H1 Q else tb σ H1 Q
def Ey {c:Expr} (hc:PT X c tA) (ha:PE X a ta) (hb:PE X b tb):PE X (.IfExp c a b pos) (WW tA ta tb):=by
 intro af s σ H Q I h;refine wpAny_IfExp (eB (hc af s σ H _ I h) fun d s1 ⟨H1,I1,q1⟩=>?_);cases d with
 | true=>exact ha af s1 σ H1 Q I1 q1
 | false=>exact hb af s1 σ H1 Q I1 q1
end
def jl (K:PySem.W.Frag) (H:Hp) (a:Addr) (xs:List V):Prop :=
 Rd H a (.lst xs) \/
  ∃ (o:Obj) (its:Array Value) (n:Nat),K.lookup a=some o/\o.cls=.type "list"/\o.dict=none/\o.data=.seq its n/\its.size<=sizeLine/\bC xs its.toList
def mT (K:PySem.W.Frag) (H:Hp) (a:Addr) (xs:List V):Prop :=
 Rd H a (.tup xs) \/
  ∃ (o:Obj) (its:Array Value) (n:Nat),K.lookup a=some o/\o.cls=.type "tuple"/\o.data=.seq its n/\its.size<=sizeLine/\bC xs its.toList
def Vo:Value->Option V
 | .none=>some .non
 | .bool b=>some (.bl b)
 | .int i _=>some (.int i)
 | .str x _=>some (.str x)
 | .bytes b _=>some (.byt b)
 | .float b _=>some (.flt b)
 | .ref a=>some (.ref a)
 | .type n=>some (.ty n)
 | _=>none
def bw.abs {x:V} {u:Value} (r:bw x u):Vo u=some x:=by
 cases x with
 | non=>cases r;rfl
 | bl _=>cases r;rfl
 | int _=>obtain ⟨t,rfl⟩:=r;rfl
 | str _=>obtain ⟨t,rfl⟩:=r;rfl
 | byt _=>obtain ⟨t,rfl⟩:=r;rfl
 | flt _=>obtain ⟨t,rfl⟩:=r;rfl
 | ref _=>cases r;rfl
 | ty _=>cases r;rfl
def bw.inj {x y:V} {u:Value} (r:bw x u) (q:bw y u):x=y:=Option.some.inj (r.abs.symm.trans q.abs)
def bC.inj:∀ {xs ys:List V} {us:List Value},bC xs us->bC ys us->xs=ys
 | _,_,_,.nil,.nil=>rfl
 | _,_,_,.cons r t,.cons r' t'=>by rw [r.inj r',bC.inj t t']
section
variable {X:Cx} {af:List (Addr×Obj)} {σ:St} {H:Hp} {s:Shared} {a:Addr} {xs ys:List V}
def jl.of {K:PySem.W.Frag} (h:H a=some (.lst xs)):jl K H a xs:=.inl (.inl h)
def Inv.list (I:Inv X af σ H s) (h:jl X.K H a xs):∃ its:List Value,bC xs its/\PlainL s.heap a its.toArray/\xs.length<=sizeLine:=by
 rcases h with h|⟨o,its,n,hk,hc,hd,hs,hz,r⟩
 ·obtain ⟨z,its,n,r,e⟩:=h.ok I.hok;exact ⟨its,r,⟨_,n,e,rfl,rfl,rfl⟩,z⟩
 ·refine ⟨its.toList,r,⟨o,n,I.kIn a o hk,hc,hd,by simpa using hs⟩,?_⟩;have e:=r.length;simp only [Array.length_toList] at e;omega
def Inv.tuple (I:Inv X af σ H s) (h:mT X.K H a xs):∃ its:List Value,bC xs its/\IsTup s.heap a its.toArray/\xs.length<=sizeLine:=by
 rcases h with h|⟨o,its,n,hk,hc,hs,hz,r⟩
 ·obtain ⟨z,its,r,p⟩:=h.ok I.hok;exact ⟨its,r,p,z⟩
 ·refine ⟨its.toList,r,⟨o,I.kIn a o hk,hc,n,by simpa using hs⟩,?_⟩;have e:=r.length;simp only [Array.length_toList] at e;omega
def Inv.list_inj (I:Inv X af σ H s) (h:jl X.K H a xs) (h':jl X.K H a ys):xs=ys:=by
 obtain ⟨its,r,⟨o,n,e,_,_,d⟩,_⟩:=I.list h;obtain ⟨its',r',⟨o',n',e',_,_,d'⟩,_⟩:=I.list h';rw [e] at e';cases e';rw [d] at d';injection d' with d1 _
 have:its=its':=by simpa using congrArg Array.toList d1
 subst this;exact r.inj r'
def Inv.tuple_inj (I:Inv X af σ H s) (h:mT X.K H a xs) (h':mT X.K H a ys):xs=ys:=by
 obtain ⟨its,r,⟨o,e,_,n,d⟩,_⟩:=I.tuple h;obtain ⟨its',r',⟨o',e',_,n',d'⟩,_⟩:=I.tuple h';rw [e] at e';cases e';rw [d] at d';injection d' with d1 _
 have:its=its':=by simpa using congrArg Array.toList d1
 subst this;exact r.inj r'
end
abbrev Cx.wish (X:Cx) (E:Value->Shared->Prop):Cx:={ X with xe:=E }
abbrev Cx.nox (X:Cx):Cx:=X.wish fun _ _=>False
def Cx.Ok.wish {X:Cx} (ok:X.Ok) (E:Value->Shared->Prop):(X.wish E).Ok :=
 ⟨ok.mod,ok.kind,ok.glob,ok.blt,ok.above,ok.inj,ok.has,ok.cab,ok.hd,ok.frames,ok.stk,ok.exf,ok.bs,ok.bsz,ok.noex,ok.exfs,ok.funs,ok.frf⟩
def Cx.Ok.unwish {X:Cx} {E:Value->Shared->Prop} (ok:(X.wish E).Ok):X.Ok :=
 ⟨ok.mod,ok.kind,ok.glob,ok.blt,ok.above,ok.inj,ok.has,ok.cab,ok.hd,ok.frames,ok.stk,ok.exf,ok.bs,ok.bsz,ok.noex,ok.exfs,ok.funs,ok.frf⟩
section
variable {X:Cx} {af:List (Addr×Obj)} {σ:St} {H:Hp} {s:Shared} {E:Value->Shared->Prop}
def Inv.wish (I:Inv X af σ H s) (E:Value->Shared->Prop):Inv (X.wish E) af σ H s:=⟨I.ok.wish E,I.os,I.bare,I.base,I.loc,I.cell,I.free,I.freeC,I.pin,I.hok,I.len,I.tk⟩
def Inv.unwish (I:Inv (X.wish E) af σ H s):Inv X af σ H s:=⟨I.ok.unwish,I.os,I.bare,I.base,I.loc,I.cell,I.free,I.freeC,I.pin,I.hok,I.len,I.tk⟩
def SP.unwish {D:Ends} {f:Flow} {s':Shared} (h:SP (X.wish E) af D f s'):SP X af D f s':=by
 cases f with
 | next=>obtain ⟨σ',H',I,q⟩:=h;exact ⟨σ',H',I.unwish,q⟩
 | brk=>obtain ⟨σ',H',I,q⟩:=h;exact ⟨σ',H',I.unwish,q⟩
 | cont=>obtain ⟨σ',H',I,q⟩:=h;exact ⟨σ',H',I.unwish,q⟩
 | ret u=>obtain ⟨v,σ',H',I,r,q⟩:=h;exact ⟨v,σ',H',I.unwish,r,q⟩
def Ag.nox {st:List Stmt} {t:TS} (h:Ag X.nox st t):Ag X st t:=fun af s σ H D I hw =>
 wpAny_mono (h af s σ H D (I.wish _) hw) (fun _ _ q=>q.unwish) fun _ _ z=>False.elim z
end
section
variable {X:Cx} {st:Stmt} {rest:List Stmt} {t u:TS} {e:Expr} {te:TE} {pos:Pos}
def Kq:TS:=fun D σ H=>D.nx σ H
def Sw (t u:TS):TS:=fun D σ H=>t { D with nx:=u D } σ H
def Hw:Ag X [] Kq:=fun _ _ σ H _ I h=>wpAny_execs_nil ⟨σ,H,I,h⟩
def EC (h1:PS X st t) (h2:Ag X rest u):Ag X (st::rest) (Sw t u):=by
 intro af s σ H D I h;refine wpAny_execs_cons (eB (h1 af s σ H { D with nx:=u D } I h) fun f s1 q=>?_);cases f with
 | next =>
  obtain ⟨σ',H',I',q⟩:=q;exact h2 af s1 σ' H' D I' q
 | ret v=>exact q
 | brk=>exact q
 | cont=>exact q
def Jh (h1:PS X st t):Ag X [st] t:=by
 intro af s σ H D I h;refine wpAny_execs_cons (eB (h1 af s σ H D I h) fun f s1 q=>?_);cases f with
 | next=>exact wpAny_execs_nil q
 | ret v=>exact q
 | brk=>exact q
 | cont=>exact q
theorem Inv.quiet {af:List (Addr×Obj)} {σ:St} {H:Hp} {s:Shared} (I:Inv X af σ H s):interactive X.env=false:=by simp [interactive,I.ok.kind]
def Gp (te:TE):TS:=fun D σ H=>te σ H fun _ H1=>D.nx σ H1
def Ip (he:PE X e te) (hs:swapsWith e none pos.line X.env=pure false:=by rfl):PS X (.Expr e pos) (Gp te):=by
 intro af s σ H D I h;exact wpAny_Expr_any (eB (he af s σ H _ I h) fun v s1 hh=>mP hh fun x H1 I1 r1 q1=>⟨σ,H1,I1,q1⟩) I.quiet hs
def QX (te:TE):TS:=fun D σ H=>te σ H D.rt
def Lk (he:PE X e te):PS X (.Return (some e) pos) (QX te):=by
 intro af s σ H D I h;exact wpAny_Return_some (eB (he af s σ H _ I h) fun v s1 hh=>mP hh fun x H1 I1 r1 q1=>⟨x,σ,H1,I1,r1,q1⟩)
def Uu (c:TT) (t u:TS):TS:=fun D σ H=>c σ H fun b H1=>if b=true then t D σ H1 else u D σ H1
def Pl {c:Expr} {a b:List Stmt} {tc:TT} (hc:PT X c tc) (ha:Ag X a t) (hb:Ag X b u):PS X (.If c a b pos) (Uu tc t u):=by
 intro af s σ H D I h;refine wpAny_If (eB (hc af s σ H _ I h) fun d s1 ⟨H1,I1,q1⟩=>?_);cases d with
 | true=>exact ha af s1 σ H1 D I1 q1
 | false=>exact hb af s1 σ H1 D I1 q1
end
abbrev TG:=V->St->Hp->(St->Hp->Prop)->Prop
abbrev Eo:=List V->St->Hp->(St->Hp->Prop)->Prop
def PG (X:Cx) (target:Expr) (t:TG):Prop :=
 ∀ (af:List (Addr×Obj)) (s:Shared) (σ:St) (H:Hp) (v:V) (u:Value) (Q:St->Hp->Prop),Inv X af σ H s->bw v u->t v σ H Q ->
  wpAny (model X.prog X.w) X.A (assign target X.env u) (fun _ s'=>∃ σ' H',Inv X af σ' H' s'/\Q σ' H') X.xe s
def Q6 (X:Cx) (ts:List Expr) (t:Eo):Prop :=
 ∀ (af:List (Addr×Obj)) (s:Shared) (σ:St) (H:Hp) (vs:List V) (us:List Value) (Q:St->Hp->Prop),Inv X af σ H s->bC vs us->t vs σ H Q ->
  wpAny (model X.prog X.w) X.A (assignInOrder ((assignEach ts X.env).map (·.2)) us) (fun _ s'=>∃ σ' H',Inv X af σ' H' s'/\Q σ' H') X.xe s
section
variable {X:Cx} {pos:Pos}
def qh (i:Nat):TG:=fun v σ H Q=>Q (σ.set i (some v)) H
def Cv {i:Nat} {x:Str} (hN:X.N.Nodup) (hi:X.N[i]?=some x) (hx:Ct X.env.scope x) (hf:X.fn x=true\/X.env.scope.names.lookup x=some .local:=by first|exact .inl rfl|exact .inr rfl|assumption):PG X (.Name x pos) (qh i):=by
 intro af s σ H v u Q I r h;exact wpAny_assign_Name (lG I hN hi hx r (fun s' I'=>⟨_,H,I',h⟩) hf)
def QE:Eo:=fun vs σ H Q=>vs=[]/\Q σ H
def KD (t:TG) (u:Eo):Eo:=fun vs σ H Q=>∃ v r,vs=v::r/\t v σ H fun σ' H'=>u r σ' H' Q
def G8:Q6 X [] QE:=by
 intro af s σ H vs us Q I r h;obtain ⟨e,h⟩:=h;subst e;cases r;exact assignInOrder_nil ⟨σ,H,I,h⟩
def FN {e:Expr} {es:List Expr} {t:TG} {u:Eo} (h1:PG X e t) (h2:Q6 X es u)
  (hs:(assignEach (e::es) X.env).map (·.2)=assign e X.env::(assignEach es X.env).map (·.2):=by rfl):Q6 X (e::es) (KD t u):=by
 intro af s σ H vs us Q I r h;obtain ⟨v,vr,e1,h⟩:=h;subst e1;cases r with
 | cons r rr =>
  rw [hs];refine assignInOrder_cons (eB (h1 af s σ H _ _ _ I r h) fun _ s1 ⟨σ1,H1,I1,q1⟩=>?_);exact h2 af s1 σ1 H1 _ _ Q I1 rr q1
def OK (K:PySem.W.Frag) (n:Nat) (t:Eo):TG:=fun v σ H Q=>∃ a xs,v=.ref a/\mT K H a xs/\xs.length=n/\t xs σ H Q
def LP {es:List Expr} {k:Nat} {t:Eo} {n:Nat} (hc:X.calm=true) (h:Q6 X es t)
  (hn:(assignEach es X.env).length=n:=by rfl) (hst:(assignEach es X.env).findIdx? (·.1)=none:=by rfl):PG X (.Tuple es k pos) (OK X.K n t):=by
 intro af s σ H v u Q I r hw;obtain ⟨a,xs,e1,hq,hl,hw⟩:=hw;subst e1;cases r;obtain ⟨its,rv,ht,hz⟩:=I.tuple hq;refine assign_Tuple_tuple (I.ok.hd hc) ht (by simp [hn,<- hl,rv.length]) hst fun h' hx=>?_;have I1:Inv X af σ H { s with heap:=h' }:=I.kept (t':=s.toks) fun b o e=>hx b o (Nat.ne_of_lt (Heap.lt_size e)) e;exact h af _ σ H xs _ Q I1 (by simpa using rv) hw
def Dj (te:TE) (g:TG):TS:=fun D σ H=>te σ H fun x H1=>g x σ H1 D.nx
def LY {i:Nat} {x:Str} {e:Expr} {te:TE} {pos':Pos} (hN:X.N.Nodup) (hi:X.N[i]?=some x) (hx:Ct X.env.scope x) (he:PE X e te) (hs:swapsWith e (some (.Name x pos')) pos.line X.env=pure false:=by rfl) (hf:X.fn x=true\/X.env.scope.names.lookup x=some .local:=by first|exact .inl rfl|exact .inr rfl|assumption) :
  PS X (.Assign [.Name x pos'] e pos) (Dj te (qh i)):=by
 intro af s σ H D I h;refine wpAny_Assign_Name (eB (he af s σ H _ I h) fun v s1 hh=>mP hh fun y H1 I1 r1 q1=>?_) hs;exact lG I1 hN hi hx r1 (fun s2 I2=>⟨_,H1,I2,q1⟩) hf
end
structure It where
 go:Nat->Hp->Prop
 yld:Nat->Hp->V->Hp->Prop
 stop:Nat->Hp->Prop
def iV (X:Cx) (af:List (Addr×Obj)) (H:Hp) (b:Addr):Prop :=
 H b=none/\b≠X.env.locals/\b∉X.fs/\(b∈X.ex\/X.s₀.heap.objs.size<=b)/\(∀ x c,X.env.cells.lookup x=some c->c≠b)/\∀ p∈X.pn++af,p.1≠b
def Inv.fpOk {X:Cx} {af:List (Addr×Obj)} {σ:St} {H H':Hp} {s:Shared} {b:Addr} (I:Inv X af σ H s) (hb:s.heap.objs.size<=b) (hn:H' b=none):iV X af H' b:=by
 refine ⟨hn,Nat.ne_of_gt (Nat.lt_of_lt_of_le I.lt hb),I.nofs hb,.inr (Nat.le_trans I.sz hb),fun x c e z=>?_,fun p hp z=>?_⟩
 ·obtain ⟨v,q⟩:=I.cell x c e;exact absurd (Nat.lt_of_lt_of_le q.lt (by rw [z];exact hb)) (Nat.lt_irrefl _)
 ·exact absurd (Nat.lt_of_lt_of_le (Heap.lt_size (I.pin p hp).1) (by rw [z];exact hb)) (Nat.lt_irrefl _)
structure Turn (P:Program) (w:World) (K:PySem.W.Frag) (tg:Expr) (J:It) (fp:List Addr) (it:Addr) (tn:Nat->Heap->Prop):Prop where
 mem:it∈fp
 obj:∀ i h,tn i h->∀ b∈fp,∃ o,h.get? b=some o/\∀ v,o.data≠.cell v
 keep:∀ i h h',tn i h->(∀ b∈fp,∀ o,h.get? b=some o->h'.get? b=some o)->tn i h'
 item:∀ (X:Cx),X.prog=P->X.w=w->X.K=K->X.calm=true->∀ (i:Nat) (af:List (Addr×Obj)) (s:Shared) (σ:St) (H:Hp) (E:Value->Shared->Prop),Inv X af σ H s->(∀ b∈fp,iV X af H b)->tn i s.heap->J.go i H ->
  wpAny (model P w) X.A (pyNext (.ref it)) (fun r s1=>∃ u,r=some u /\
   wpAny (model P w) X.A (letOwnedTupleGo tg (.ref it) u) (fun _ s2=>∃ x H',Inv X af σ H' s2/\bw x u/\J.yld i H x H'/\tn (i+1) s2.heap/\∀ b∈fp,H' b=none) E s1) E s
 done:∀ (X:Cx),X.prog=P->X.w=w->X.K=K->X.calm=true->∀ (i:Nat) (af:List (Addr×Obj)) (s:Shared) (σ:St) (H:Hp) (E:Value->Shared->Prop),Inv X af σ H s->(∀ b∈fp,iV X af H b)->tn i s.heap->J.stop i H ->
  wpAny (model P w) X.A (pyNext (.ref it)) (fun r s1=>r=none/\Inv X af σ H s1) E s
 self:∀ (A:Around) (i:Nat) (s:Shared) (Q:Value->Shared->Prop) (E:Value->Shared->Prop),tn i s.heap->Q (.ref it) s->wpAny (model P w) A (pyIter (.ref it)) Q E s
abbrev TI:=St->Hp->(It->Hp->Prop)->Prop
def Wa (X:Cx) (af:List (Addr×Obj)) (σ:St) (tg:Expr) (R:It->Hp->Prop) (itv:Value) (s2:Shared):Prop :=
 ∃ (it:Addr) (fp:List Addr) (tn:Nat->Heap->Prop) (J:It) (H':Hp),itv=.ref it/\Inv X af σ H' s2/\Turn X.prog X.w X.K tg J fp it tn/\tn 0 s2.heap/\(∀ b∈fp,iV X af H' b)/\R J H'
def PI (X:Cx) (tg iter:Expr) (wi:TI):Prop :=
 ∀ (af:List (Addr×Obj)) (s:Shared) (σ:St) (H:Hp) (R:It->Hp->Prop),Inv X af σ H s->wi σ H R ->
  wpAny (model X.prog X.w) X.A (eval iter X.env) (fun v s1=>wpAny (model X.prog X.w) X.A (pyIter v) (Wa X af σ tg R) X.xe s1) X.xe s
def z8 {M:Model} {A:Around} {E:Value->Shared->Prop} {s:Shared} {tg:Expr} {it:Addr} {u:Value} {o:Obj} {n:String} {vs:Array Value} {Q:Unit->Shared->Prop} (ho:s.heap.get? it=some o) (hc:o.cls=.type n) (hd:o.data=.fields vs)
    (hn:["enumerate","zip","dict_itemiterator","dict_reverseitemiterator","odict_iterator","itertools.zip_longest","itertools.pairwise"].contains n=false) (hQ:Q () s):wpAny M A (letOwnedTupleGo tg (.ref it) u) Q E s:=by
  unfold letOwnedTupleGo;cases tg <;> first
    | exact wpAny_pure hQ
    | (cases u <;> first
        | exact wpAny_pure hQ
        | (refine wpAny_bind (wpAny_load ho ?_)
           rw [hc,hd];show wpAny M A (if (["enumerate","zip","dict_itemiterator","dict_reverseitemiterator","odict_iterator","itertools.zip_longest","itertools.pairwise"].contains n&&vs[0]?==some (rawInt _))=true then _ else _) Q E s;rw [if_neg (by intro h;rw [hn,Bool.false_and] at h;cases h)];exact wpAny_pure hQ))
def VX (K:PySem.W.Frag) (a:Addr):It :=
 ⟨fun i H=>∃ xs x,jl K H a xs/\xs[i]?=some x,fun i H x H'=>H'=H/\∀ xs,jl K H a xs->xs[i]?=some x,fun i H=>∃ xs,jl K H a xs/\xs.length<=i⟩
def U1 (K:PySem.W.Frag) (a:Addr):It :=
 ⟨fun i H=>∃ xs x,mT K H a xs/\xs[i]?=some x,fun i H x H'=>H'=H/\∀ xs,mT K H a xs->xs[i]?=some x,fun i H=>∃ xs,mT K H a xs/\xs.length<=i⟩
def UE (lo:Int) (n:Nat):It:=⟨fun i _=>i < n,fun i H x H'=>H'=H/\x=.int (lo+i),fun i _=>n<=i⟩
def DT {P:Program} {w:World} {K:PySem.W.Frag} {tg:Expr} (a it:Addr):Turn P w K tg (VX K a) [it] it (fun i h=>h.IsListIter it a i) where
 mem:=by simp
 obj:=fun i h st b hb=>by
  have e:b=it:=by simpa using hb
  subst e;obtain ⟨o,e,c,d⟩:=st;exact ⟨o,e,fun v z=>by rw [d] at z;cases z⟩
 keep:=fun i h h' st k=>st.at fun o e=>k it (by simp) o e
 item:=by
  intro X hP hw hK hc i af s σ H E I hf st hg;subst hP hw hK;obtain ⟨xs,x,hq,hx⟩:=hg;obtain ⟨its,rv,p,hz⟩:=I.list hq;obtain ⟨u,hu,ru⟩:=rv.get hx;obtain ⟨f0,f1,f2,f3,f4,f5⟩:=hf it (by simp);refine wpAny_pyNext_list_item st p.isList (x:=u) (by simpa using hu) fun h' st' sb=>?_;have I1:Inv X af σ H { s with heap:=h' }:=I.turned (t':=s.toks) (fun b o hb e=>(sb.2 b hb).trans e) f0 f1 f3 f4 f5;obtain ⟨o,e,c,d⟩:=id st';exact ⟨u,rfl,z8 (s:={ s with heap:=h' }) e c d (by decide) ⟨x,H,I1,ru,⟨rfl,fun ys hy=>by rw [I.list_inj hy hq];exact hx⟩,st',fun b hb=>(hf b hb).1⟩⟩
 done:=by
  intro X hP hw hK hc i af s σ H E I hf st hg;subst hP hw hK;obtain ⟨xs,hq,hx⟩:=hg;obtain ⟨its,rv,p,hz⟩:=I.list hq;obtain ⟨f0,f1,f2,f3,f4,f5⟩:=hf it (by simp);have hl:=rv.length;exact wpAny_pyNext_list_end (I.ok.hd hc) st p.isList (by simp;omega) fun h' eb=>⟨rfl,I.turned (t':=s.toks) (fun b o hb e=>eb b o hb e) f0 f1 f3 f4 f5⟩
 self:=fun _ _ _ _ _ st h=>wpAny_pyIter_listiter st h
def AE {P:Program} {w:World} {K:PySem.W.Frag} {tg:Expr} (a it:Addr):Turn P w K tg (U1 K a) [it] it (fun i h=>h.IsTupleIter it a i) where
 mem:=by simp
 obj:=fun i h st b hb=>by
  have e:b=it:=by simpa using hb
  subst e;obtain ⟨o,e,c,d⟩:=st;exact ⟨o,e,fun v z=>by rw [d] at z;cases z⟩
 keep:=fun i h h' st k=>st.at fun o e=>k it (by simp) o e
 item:=by
  intro X hP hw hK hc i af s σ H E I hf st hg;subst hP hw hK;obtain ⟨xs,x,hq,hx⟩:=hg;obtain ⟨its,rv,p,hz⟩:=I.tuple hq;obtain ⟨u,hu,ru⟩:=rv.get hx;obtain ⟨f0,f1,f2,f3,f4,f5⟩:=hf it (by simp);refine wpAny_pyNext_tuple_item st (show s.heap.IsTuple a its.toArray from p) (x:=u) (by simpa using hu) fun h' st' sb=>?_;have I1:Inv X af σ H { s with heap:=h' }:=I.turned (t':=s.toks) (fun b o hb e=>(sb.2 b hb).trans e) f0 f1 f3 f4 f5;obtain ⟨o,e,c,d⟩:=id st';exact ⟨u,rfl,z8 (s:={ s with heap:=h' }) e c d (by decide) ⟨x,H,I1,ru,⟨rfl,fun ys hy=>by rw [I.tuple_inj hy hq];exact hx⟩,st',fun b hb=>(hf b hb).1⟩⟩
 done:=by
  intro X hP hw hK hc i af s σ H E I hf st hg;subst hP hw hK;obtain ⟨xs,hq,hx⟩:=hg;obtain ⟨its,rv,p,hz⟩:=I.tuple hq;obtain ⟨f0,f1,f2,f3,f4,f5⟩:=hf it (by simp);have hl:=rv.length;exact wpAny_pyNext_tuple_end (I.ok.hd hc) st (show s.heap.IsTuple a its.toArray from p) (by simp;omega) fun h' eb=>⟨rfl,I.turned (t':=s.toks) (fun b o hb e=>eb b o hb e) f0 f1 f3 f4 f5⟩
 self:=fun _ _ _ _ _ st h=>wpAny_pyIter_tupleiter st h
def BN {P:Program} {w:World} {K:PySem.W.Frag} {tg:Expr} (it:Addr) (lo:Int) (n:Nat):Turn P w K tg (UE lo n) [it] it (fun i h=>IsRangeIter h it (lo+(i:Nat)*1) ((n:Int) - (i:Nat)) 1) where
 mem:=by simp
 obj:=fun i h st b hb=>by
  have e:b=it:=by simpa using hb
  subst e;exact ⟨_,st,fun v z=>by
   have z':Data.fields _=Data.cell v:=z;cases z'⟩
 keep:=fun i h h' st k=>k it (by simp) _ st
 item:=by
  intro X hP hw hK hc i af s σ H E I hf st hg;subst hP hw hK;obtain ⟨f0,f1,f2,f3,f4,f5⟩:=hf it (by simp);have W:=Walks.range (prog:=X.prog) (w:=X.w) (I.ok.hd hc) it lo 1 n;refine bf I.tk (W.item i s _ _ hg st fun v h' tk hv st' kk htk=>?_);obtain ⟨t,rfl⟩:=hv;have I1:Inv X af σ H { s with heap:=h',toks:=tk }:=I.turned (fun b o hb e=>kk b o (by simpa using hb) e) f0 f1 f3 f4 f5;refine ⟨_,rfl,z8 (s:={ s with heap:=h',toks:=tk }) (n:="range_iterator") st' rfl rfl (by decide) ⟨.int (lo+i),H,I1,⟨t,?_⟩,⟨rfl,rfl⟩,st',fun b hb=>(hf b hb).1⟩⟩;rw [Int.mul_one]
 done:=by
  intro X hP hw hK hc i af s σ H E I hf st hg;subst hP hw hK;obtain ⟨f0,f1,f2,f3,f4,f5⟩:=hf it (by simp);exact wpAny_pyNext_range_end (I.ok.hd hc) st (by have:n<=i:=hg;omega) fun h' eb=>⟨rfl,I.turned (t':=s.toks) (fun b o hb e=>eb b o hb e) f0 f1 f3 f4 f5⟩
 self:=fun _ _ _ _ _ st h=>wpAny_pyIter_rangeiter st h
section
variable {X:Cx} {tg:Expr}
def F5 {af:List (Addr×Obj)} {σ:St} {H:Hp} {s:Shared} {R:It->Hp->Prop} {E:Value->Shared->Prop} {lo hi:Int} {t u v:Tok} {tk:Nat} (I:Inv X af σ H s) (h1:-(2 ^ 62)<=lo) (h2:lo < 2 ^ 62) (h3:-(2 ^ 62)<=hi) (h4:hi < 2 ^ 62)
  (q:R (UE lo (hi - lo).toNat) H) (ht:X.tn<=tk:=by walk_at "tok"):wpAny (model X.prog X.w) X.A (pyIter (.ref s.heap.objs.size)) (Wa X af σ tg R) E { s with heap:=s.heap.push { cls:=.type "range",data:=.fields #[.int lo t,.int hi u,.int 1 v] },toks:=tk }:=by
 refine wpAny_pyIter_range (IsRange.new ..) (small_one h1 h2 h3 h4) ?_;have I1:Inv X af σ H { s with heap:=s.heap.push { cls:=.type "range",data:=.fields #[.int lo t,.int hi u,.int 1 v] },toks:=tk }:=I.kept fun b o e=>Heap.get?_push_of_some _ e;refine ⟨(s.heap.push { cls:=.type "range",data:=.fields #[.int lo t,.int hi u,.int 1 v] }).objs.size,[(s.heap.push { cls:=.type "range",data:=.fields #[.int lo t,.int hi u,.int 1 v] }).objs.size],_,_,H,rfl,
  I1.kept (t':=tk) fun b o e=>Heap.get?_push_of_some _ e,BN _ lo (hi - lo).toNat,?_,fun b hb=>?_,q⟩
 ·have e1:lo+((0:Nat):Int)*1=lo:=by simp
  have e2:(((hi - lo).toNat:Nat):Int) - ((0:Nat):Int)=Builtin.Range.rangeSize lo hi 1:=by rw [rangeSize_one];split <;> omega
  show IsRangeIter _ _ (lo+((0:Nat):Int)*1) ((((hi - lo).toNat:Nat):Int) - ((0:Nat):Int)) 1;rw [e1,e2];exact Heap.get?_push_size _ rfl
 ·have e:b=(s.heap.push { cls:=.type "range",data:=.fields #[.int lo t,.int hi u,.int 1 v] }).objs.size:=by simpa using hb
  subst e;exact I1.fpOk (Nat.le_refl _) (I1.hok.fresh (Nat.le_refl _))
def Ri (wi:TI) (g:TG) (tb:TS):TS:=fun D σ H=>wi σ H fun J H1=>∃ W:Nat->Nat->St->Hp->Prop,(∃ m,W 0 m σ H1)/\∀ i m σ H,W i m σ H ->
 (J.stop i H/\D.nx σ H)\/(J.go i H/\∃ N:St->Hp->Prop,(∀ σ' H',N σ' H'->∃ m',m' < m/\W (i+1) m' σ' H')/\∀ x H',J.yld i H x H'->g x σ H' fun σ2 H2=>tb { D with nx:=N,ct:=N,bk:=D.nx } σ2 H2)
def eH (fp:List Addr) (h:Heap):List (Addr×Obj):=fp.filterMap fun b=>(h.get? b).map fun o=>(b,o)
def cN {fp:List Addr} {h:Heap} {b:Addr} {o:Obj} (hb:b∈fp) (e:h.get? b=some o):(b,o)∈eH fp h:=List.mem_filterMap.mpr ⟨b,hb,by rw [e];rfl⟩
def wA {fp:List Addr} {h:Heap} {p:Addr×Obj} (hp:p∈eH fp h):p.1∈fp/\h.get? p.1=some p.2:=by
 obtain ⟨b,hb,e⟩:=List.mem_filterMap.mp hp;cases q:h.get? b with
 | none=>rw [q] at e;cases e
 | some o =>
  rw [q] at e;have e':(b,o)=p:=Option.some.inj e;subst e';exact ⟨hb,q⟩
def Inv.pinned {af:List (Addr×Obj)} {σ:St} {H:Hp} {s:Shared} {fp:List Addr} (I:Inv X af σ H s) (hf:∀ b∈fp,iV X af H b) (ho:∀ b∈fp,∃ o,s.heap.get? b=some o/\∀ v,o.data≠.cell v):Inv X (af++eH fp s.heap) σ H s :=
 I.pins_of fun p hp=>(List.mem_append.mp hp).elim (fun z=>I.pin p (List.mem_append_right _ z)) fun z=>by
  obtain ⟨hb,e⟩:=wA z;obtain ⟨f0,f1,f2,_⟩:=hf p.1 hb;obtain ⟨o,e',d⟩:=ho p.1 hb;rw [e] at e';cases e';exact ⟨e,f0,f1,f2,d⟩
def Inv.unpinned {af pl:List (Addr×Obj)} {σ:St} {H:Hp} {s:Shared} (I:Inv X (af++pl) σ H s):Inv X af σ H s:=I.pins_of fun p hp=>I.pin p (List.mem_append_right _ (List.mem_append_left _ hp))
def Ni {iter:Expr} {body:List Stmt} {wi:TI} {g:TG} {tb:TS} {pos:Pos} (hp:PassesOwn (model X.prog X.w) X.A X.env X.xe) (hc:X.calm=true) (hi:PI X tg iter wi) (hg:PG X tg g) (hb:Ag X body tb)
  (hs:∀ x,foldedSetIterable iter X.env x=pure x:=by intro _;rfl):PS X (.For tg iter body [] pos) (Ri wi g tb):=by
 intro af s σ H D I h;refine wpAny_For (eB (hi af s σ H _ I h) fun v s1 h1=>eB h1 fun itv s2 h2=>?_) hs;obtain ⟨it,fp,tn,J,H2,e,I2,T,st2,f2,W,⟨m0,w0⟩,turn⟩:=h2;subst e
 -- what stays true of the iterator's objects through the loop
 have stat:∀ {H':Hp},(∀ b∈fp,H' b=none)->∀ b∈fp,iV X af H' b:=fun hn b hb=>⟨hn b hb,(f2 b hb).2⟩;refine codeAny_forLoop_any (fun n s'=>∃ i σ' H',Inv X af σ' H' s'/\tn i s'.heap/\(∀ b∈fp,H' b=none)/\W i n σ' H') ?_ m0 ⟨0,σ,H2,I2,st2,fun b hb=>(f2 b hb).1,w0⟩;rintro n s3 ⟨i,σ3,H3,I3,st3,fr3,w3⟩;rcases turn i n σ3 H3 w3 with ⟨stop,qn⟩|⟨go,N,hN,step⟩
 ·refine wpAny_passesOwn hp (eB (T.done X rfl rfl rfl hc i af s3 σ3 H3 X.xe I3 (stat fr3) st3 stop) fun r s4 ⟨hr,I4⟩=>?_);subst hr;exact wpAny_execs_nil ⟨σ3,H3,I4,qn⟩
 ·refine wpAny_passesOwn hp (eB (T.item X rfl rfl rfl hc i af s3 σ3 H3 X.xe I3 (stat fr3) st3 go) fun r s4 ⟨u,hr,h4⟩=>?_);subst hr;refine wpAny_passesOwn hp (eB h4 fun _ s5 ⟨x,H5,I5,r5,y5,st5,fr5⟩=>?_);have I5':=I5.pinned (stat fr5) (T.obj _ _ st5);refine wpAny_passesOwn hp (eB (hg _ s5 σ3 H5 x u _ I5' r5 (step x H5 y5)) fun _ s6 ⟨σ6,H6,I6,q6⟩=>?_);refine wpAny_passesOwn hp (eB (hb _ s6 σ6 H6 _ I6 q6) fun f s7 q7=>?_);have again:∀ {σ7:St} {H7:Hp},Inv X (af++eH fp s5.heap) σ7 H7 s7->N σ7 H7->∃ m,m < n/\∃ i σ' H',Inv X af σ' H' s7/\tn i s7.heap/\(∀ b∈fp,H' b=none)/\W i m σ' H':=fun {σ7 H7} I7 n7=>by
   obtain ⟨m',hm,w7⟩:=hN σ7 H7 n7;refine ⟨m',hm,i+1,σ7,H7,I7.unpinned,T.keep _ _ _ st5 fun b hb o e=>(I7.pin (b,o) (List.mem_append_right _ (List.mem_append_right _ (cN hb e)))).1,fun b hb=>?_,w7⟩;obtain ⟨o,e,d⟩:=T.obj _ _ st5 b hb;exact (I7.pin (b,o) (List.mem_append_right _ (List.mem_append_right _ (cN hb e)))).2.1
  cases f with
  | next=>obtain ⟨σ7,H7,I7,n7⟩:=q7;exact again I7 n7
  | cont=>obtain ⟨σ7,H7,I7,n7⟩:=q7;exact again I7 n7
  | brk=>obtain ⟨σ7,H7,I7,q7⟩:=q7;exact ⟨σ7,H7,I7.unpinned,q7⟩
  | ret v=>obtain ⟨x7,σ7,H7,I7,r7,q7⟩:=q7;exact ⟨x7,σ7,H7,I7.unpinned,r7,q7⟩
end
abbrev R2:=V->V->Hp->VK->Prop
def gf (X:Cx) (f:Value->Value->Sem Value) (r:R2):Prop :=
 ∀ (af:List (Addr×Obj)) (s:Shared) (σ:St) (H:Hp) (x y:V) (v u:Value) (Q:VK),Inv X af σ H s->bw x v->bw y u->r x y H Q ->
  wpAny (model X.prog X.w) X.A (f v u) (EP X af σ Q) X.xe s
def IE (X:Cx) (f:Value->Sem Value) (r:V->Hp->VK->Prop):Prop :=
 ∀ (af:List (Addr×Obj)) (s:Shared) (σ:St) (H:Hp) (x:V) (v:Value) (Q:VK),Inv X af σ H s->bw x v->r x H Q ->
  wpAny (model X.prog X.w) X.A (f v) (EP X af σ Q) X.xe s
def bX (X:Cx) (f:Value) (r:List V->Hp->VK->Prop):Prop :=
 ∀ (af:List (Addr×Obj)) (s:Shared) (σ:St) (H:Hp) (xs:List V) (us:List Value) (Q:VK),Inv X af σ H s->bC xs us->r xs H Q ->
  wpAny (model X.prog X.w) X.A (call f us) (EP X af σ Q) X.xe s
def VN (X:Cx) (r:V->Hp->(Bool->Hp->Prop)->Prop):Prop :=
 ∀ (af:List (Addr×Obj)) (s:Shared) (σ:St) (H:Hp) (x:V) (v:Value) (Q:Bool->Hp->Prop),Inv X af σ H s->bw x v->r x H Q ->
  wpAny (model X.prog X.w) X.A (truthy v) (TP X af σ Q) X.xe s
def DX (r:R2) (ta tb:TE):TE:=fun σ H Q=>ta σ H fun x H1=>tb σ H1 fun y H2=>r x y H2 Q
def Xh (r:V->Hp->VK->Prop) (ta:TE):TE:=fun σ H Q=>ta σ H fun x H1=>r x H1 Q
def rI (C:Int->Int->Prop) (g:Int->Int->V):R2:=fun x y H Q=>∃ i j,x=.int i/\y=.int j/\C i j/\Q (g i j) H
def Ko (g:Int->Int->V):R2:=fun x y H Q=>∃ i j,x=.int i/\y=.int j/\Q (g i j) H
def rU (g:Int->V):V->Hp->VK->Prop:=fun x H Q=>∃ i,x=.int i/\Q (g i) H
section
variable {X:Cx} {a b c:Expr} {ta tb tc:TE} {pos:Pos}
def LI (ha:PE X a ta) (hb:PE X b tb) {af:List (Addr×Obj)} {s:Shared} {σ:St} {H:Hp} {R:V->V->Hp->Prop} (I:Inv X af σ H s)
  (h:ta σ H fun x H1=>tb σ H1 fun y H2=>R x y H2) {Q:Value->Shared->Prop} {f:Value->Value->Sem Value}
  (hf:∀ v u s2 x y H2,Inv X af σ H2 s2->bw x v->bw y u->R x y H2->wpAny (model X.prog X.w) X.A (f v u) Q X.xe s2) :
  wpAny (model X.prog X.w) X.A (eval a X.env) (fun v s₁=>wpAny (model X.prog X.w) X.A (eval b X.env) (fun u s₂=>wpAny (model X.prog X.w) X.A (f v u) Q X.xe s₂) X.xe s₁) X.xe s:=by
 refine eB (ha af s σ H _ I h) fun v s1 hh=>mP hh fun x H1 I1 r1 q1=>?_;refine eB (hb af s1 σ H1 _ I1 q1) fun u s2 hh=>mP hh fun y H2 I2 r2 q2=>?_;exact hf v u s2 x y H2 I2 r1 r2 q2
def N6 {op:Operator} {r:R2} (ho:gf X (binaryOp op) r) (ha:PE X a ta) (hb:PE X b tb):PE X (.BinOp a op b pos) (DX r ta tb):=by
 intro af s σ H Q I h;exact wpAny_BinOp (LI ha hb I h fun v u s2 x y H2 I2 rx ry q=>ho af s2 σ H2 x y v u Q I2 rx ry q)
def Tf {op:UnaryOp} {r:V->Hp->VK->Prop} (ho:IE X (unaryOp op) r) (ha:PE X a ta):PE X (.UnaryOp op a pos) (Xh r ta):=by
 intro af s σ H Q I h;exact UnaryOp_ (eB (ha af s σ H _ I h) fun v s1 hh=>mP hh fun x H1 I1 r1 q1=>ho af s1 σ H1 x v Q I1 r1 q1)
def UQ {f:Value->Value->Sem Value} {C:Int->Int->Prop} {g:Int->Int->Int}
  (rule:∀ (i j:Int) (t u:Tok) (s:Shared) (Q:Value->Shared->Prop) (E:Value->Shared->Prop),C i j->Q (.int (g i j) s.toks) { s with toks:=s.toks+1 }->wpAny (model X.prog X.w) X.A (f (.int i t) (.int j u)) Q E s) :
  gf X f (rI C fun i j=>.int (g i j)):=by
 intro af s σ H x y v u Q I rx ry h;obtain ⟨i,j,rfl,rfl,hc,q⟩:=h;obtain ⟨t,rfl⟩:=rx;obtain ⟨t',rfl⟩:=ry;exact rule i j t t' s _ _ hc ⟨.int (g i j),H,I.tok _,⟨_,rfl⟩,q⟩
def RX {f:Value->Value->Sem Value} {g:Int->Int->Int}
  (rule:∀ (i j:Int) (t u:Tok) (s:Shared) (Q:Value->Shared->Prop) (E:Value->Shared->Prop),Q (.int (g i j) s.toks) { s with toks:=s.toks+1 }->wpAny (model X.prog X.w) X.A (f (.int i t) (.int j u)) Q E s) :
  gf X f (Ko fun i j=>.int (g i j)):=by
 intro af s σ H x y v u Q I rx ry h;obtain ⟨i,j,rfl,rfl,q⟩:=h;obtain ⟨t,rfl⟩:=rx;obtain ⟨t',rfl⟩:=ry;exact rule i j t t' s _ _ ⟨.int (g i j),H,I.tok _,⟨_,rfl⟩,q⟩
def Ho {f:Value->Value->Sem Value} {g:Int->Int->Bool}
  (rule:∀ (i j:Int) (t u:Tok) (s:Shared) (Q:Value->Shared->Prop) (E:Value->Shared->Prop),Q (.bool (g i j)) s->wpAny (model X.prog X.w) X.A (f (.int i t) (.int j u)) Q E s) :
  gf X f (Ko fun i j=>.bl (g i j)):=by
 intro af s σ H x y v u Q I rx ry h;obtain ⟨i,j,rfl,rfl,q⟩:=h;obtain ⟨t,rfl⟩:=rx;obtain ⟨t',rfl⟩:=ry;exact rule i j t t' s _ _ ⟨.bl (g i j),H,I,rfl,q⟩
def EE (i j:Int):Prop:=0 < j/\j < 1073741824
def EV (i j:Int):Prop:=0<=j/\j<=1000000/\i.natAbs < 2 ^ 64
def Bu (i j:Int):Prop:=(-(2 ^ 64) < i/\i < 2 ^ 64)\/(-(2 ^ 64) < j/\j < 2 ^ 64)
theorem Bu.ok {i j:Int} (h:Bu i j):IntMulOk i j:=by
 rcases h with ⟨h1,h2⟩|⟨h1,h2⟩
 ·exact .of_left (intBits_le_64 h1 h2)
 ·exact .of_right (intBits_le_64 h1 h2)
def Ls:gf X (binaryOp .Add) (Ko fun i j=>.int (i+j)):=RX fun _ _ _ _ _ _ _ q=>add_int q
def Mz:gf X (binaryOp .Sub) (Ko fun i j=>.int (i - j)):=RX fun _ _ _ _ _ _ _ q=>sub_int q
def ME:gf X (binaryOp .Mult) (rI Bu fun i j=>.int (i*j)):=UQ fun _ _ _ _ _ _ _ hc q=>mul_int q hc.ok
def Ik:gf X (binaryOp .FloorDiv) (rI EE fun i j=>.int (i/j)):=UQ fun i j _ _ _ _ _ hc q=>by
 have h1:(0:Int) < j:=hc.1;have h2:j < 1073741824:=hc.2;exact floordiv_int (by omega) (by rw [Int.fdiv_eq_ediv_of_nonneg i (by omega)];exact q) (.inl (PyProof.noPylong_small (by omega)))
def MP:gf X (binaryOp .Mod) (rI (fun _ j=>0 < j) fun i j=>.int (i % j)):=UQ fun i j _ _ _ _ _ hc q=>by
 have h1:(0:Int) < j:=hc;exact mod_int' (by omega) (by rw [Int.fmod_eq_emod_of_nonneg i (by omega)];exact q)
def MG:gf X (binaryOp .Pow) (rI EV fun i j=>.int (i ^ j.toNat)):=UQ fun _ _ _ _ _ _ _ hc q=>pow_int_small hc.1 hc.2.1 hc.2.2 q
def unI {f:Value->Sem Value} {g:Int->Int}
  (rule:∀ (i:Int) (t:Tok) (s:Shared) (Q:Value->Shared->Prop) (E:Value->Shared->Prop),Q (.int (g i) s.toks) { s with toks:=s.toks+1 }->wpAny (model X.prog X.w) X.A (f (.int i t)) Q E s) :
  IE X f (rU fun i=>.int (g i)):=by
 intro af s σ H x v Q I rx h;obtain ⟨i,rfl,q⟩:=h;obtain ⟨t,rfl⟩:=rx;exact rule i t s _ _ ⟨.int (g i),H,I.tok _,⟨_,rfl⟩,q⟩
def MB:IE X (unaryOp .USub) (rU fun i=>.int (-i)):=unI fun _ _ _ _ _ q=>neg_int q
end
def oE:V->V->Bool
 | .non,.non=>true|.non,.int _=>true|.int _,.non=>true|.non,.bl _=>true|.bl _,.non=>true|.non,.str _=>true|.str _,.non=>true
 | .int _,.int _=>true|.bl _,.bl _=>true|.str _,.str _=>true|.byt _,.byt _=>true
 | .int _,.str _=>true|.str _,.int _=>true|.bl _,.str _=>true|.str _,.bl _=>true
 | _,_=>false
def rEq:R2:=fun x y H Q=>oE x y=true/\Q (.bl (decide (x=y))) H
def rNe:R2:=fun x y H Q=>oE x y=true/\Q (.bl (!decide (x=y))) H
def Ch {i j:Int}:decide (V.int i=V.int j)=(i==j):=by
 rw [Bool.eq_iff_iff];simp
def GE {i j:Bool}:decide (V.bl i=V.bl j)=(i==j):=by
 rw [Bool.eq_iff_iff];simp
def CG {i j:Str}:decide (V.str i=V.str j)=(i==j):=by
 rw [Bool.eq_iff_iff];simp
def Ck {i j:Array UInt8}:decide (V.byt i=V.byt j)=(i.toList==j.toList):=by
 rw [Bool.eq_iff_iff];cases i;cases j;simp
section
variable {X:Cx} {a b c:Expr} {ta tb tc:TE} {pos:Pos}
def ba {af:List (Addr×Obj)} {σ:St} {H:Hp} {s:Shared} {Q:VK} {k k':Bool} (I:Inv X af σ H s) (q:Q (.bl k) H) (e:k=k'):EP X af σ Q (.bool k') s:=by
 subst e;exact ⟨.bl k,H,I,rfl,q⟩
def RG:gf X (compareOp .Eq) rEq:=by
 intro af s σ H x y v u Q I rx ry h;obtain ⟨hs,q⟩:=h;cases x with
 | non =>
  cases rx;cases y with
  | non=>cases ry;exact PySem.EqNone.eq_none_none (ba I q (by simp))
  | bl j=>cases ry;exact PySem.EqNone.eq_none_bool (ba I q (by simp))
  | int j=>obtain ⟨t',rfl⟩:=ry;exact PySem.EqNone.eq_none_int (ba I q (by simp))
  | str j=>obtain ⟨t',rfl⟩:=ry;exact PySem.EqNone.eq_none_str (ba I q (by simp))
  | _=>exact absurd (show false=true from hs) Bool.false_ne_true
 | bl i =>
  cases rx;cases y with
  | non=>cases ry;exact PySem.EqNone.eq_bool_none (ba I q (by simp))
  | bl j=>cases ry;exact eq_bool (ba I q GE)
  | str j=>obtain ⟨t',rfl⟩:=ry;exact PySem.EqMixed.eq_bool_str (ba I q (by simp))
  | _=>exact absurd (show false=true from hs) Bool.false_ne_true
 | int i =>
  obtain ⟨t,rfl⟩:=rx;cases y with
  | non=>cases ry;exact PySem.EqNone.eq_int_none (ba I q (by simp))
  | int j=>obtain ⟨t',rfl⟩:=ry;exact eq_int (ba I q Ch)
  | str j=>obtain ⟨t',rfl⟩:=ry;exact PySem.EqMixed.eq_int_str (ba I q (by simp))
  | _=>exact absurd (show false=true from hs) Bool.false_ne_true
 | str i =>
  obtain ⟨t,rfl⟩:=rx;cases y with
  | non=>cases ry;exact PySem.EqNone.eq_str_none (ba I q (by simp))
  | bl j=>cases ry;exact PySem.EqMixed.eq_str_bool (ba I q (by simp))
  | int j=>obtain ⟨t',rfl⟩:=ry;exact PySem.EqMixed.eq_str_int (ba I q (by simp))
  | str j=>obtain ⟨t',rfl⟩:=ry;exact eq_str (ba I q CG)
  | _=>exact absurd (show false=true from hs) Bool.false_ne_true
 | byt i =>
  obtain ⟨t,rfl⟩:=rx;cases y with
  | byt j=>obtain ⟨t',rfl⟩:=ry;exact PySem.W.eq_bytes (ba I q Ck)
  | _=>exact absurd (show false=true from hs) Bool.false_ne_true
 | _=>cases y <;> exact absurd (show false=true from hs) Bool.false_ne_true
def Sn:gf X (compareOp .NotEq) rNe:=by
 intro af s σ H x y v u Q I rx ry h;obtain ⟨hs,q⟩:=h;cases x with
 | non =>
  cases rx;cases y with
  | non=>cases ry;exact PySem.EqNone.ne_none_none (ba I q (by simp))
  | bl j=>cases ry;exact PySem.EqNone.ne_none_bool (ba I q (by simp))
  | int j=>obtain ⟨t',rfl⟩:=ry;exact PySem.EqNone.ne_none_int (ba I q (by simp))
  | str j=>obtain ⟨t',rfl⟩:=ry;exact PySem.EqNone.ne_none_str (ba I q (by simp))
  | _=>exact absurd (show false=true from hs) Bool.false_ne_true
 | bl i =>
  cases rx;cases y with
  | non=>cases ry;exact PySem.EqNone.ne_bool_none (ba I q (by simp))
  | bl j=>cases ry;exact ne_bool (ba I q (congrArg not GE))
  | str j=>obtain ⟨t',rfl⟩:=ry;exact PySem.EqMixed.ne_bool_str (ba I q (by simp))
  | _=>exact absurd (show false=true from hs) Bool.false_ne_true
 | int i =>
  obtain ⟨t,rfl⟩:=rx;cases y with
  | non=>cases ry;exact PySem.EqNone.ne_int_none (ba I q (by simp))
  | int j=>obtain ⟨t',rfl⟩:=ry;exact ne_int (ba I q (congrArg not Ch))
  | str j=>obtain ⟨t',rfl⟩:=ry;exact PySem.EqMixed.ne_int_str (ba I q (by simp))
  | _=>exact absurd (show false=true from hs) Bool.false_ne_true
 | str i =>
  obtain ⟨t,rfl⟩:=rx;cases y with
  | non=>cases ry;exact PySem.EqNone.ne_str_none (ba I q (by simp))
  | bl j=>cases ry;exact PySem.EqMixed.ne_str_bool (ba I q (by simp))
  | int j=>obtain ⟨t',rfl⟩:=ry;exact PySem.EqMixed.ne_str_int (ba I q (by simp))
  | str j=>obtain ⟨t',rfl⟩:=ry;exact ne_str (ba I q (congrArg not CG))
  | _=>exact absurd (show false=true from hs) Bool.false_ne_true
 | byt i =>
  obtain ⟨t,rfl⟩:=rx;cases y with
  | byt j=>obtain ⟨t',rfl⟩:=ry;exact PySem.W.ne_bytes (ba I q (congrArg not Ck))
  | _=>exact absurd (show false=true from hs) Bool.false_ne_true
 | _=>cases y <;> exact absurd (show false=true from hs) Bool.false_ne_true
def QI:gf X (compareOp .Lt) (Ko fun i j=>.bl (decide (i < j))):=Ho fun _ _ _ _ _ _ _ q=>lt_int q
def OV:gf X (compareOp .LtE) (Ko fun i j=>.bl (decide (i<=j))):=Ho fun _ _ _ _ _ _ _ q=>le_int q
def Od:gf X (compareOp .Gt) (Ko fun i j=>.bl (decide (j < i))):=Ho fun _ _ _ _ _ _ _ q=>gt_int q
def Qb:gf X (compareOp .GtE) (Ko fun i j=>.bl (decide (j<=i))):=Ho fun _ _ _ _ _ _ _ q=>ge_int q
def DY:gf X (compareOp .Lt) (fun x y H Q=>∃ i j,x=.str i/\y=.str j/\Q (.bl (decide (i.cps.toList < j.cps.toList))) H):=by
 intro af s σ H x y v u Q I rx ry h;obtain ⟨i,j,rfl,rfl,q⟩:=h;obtain ⟨t,rfl⟩:=rx;obtain ⟨t',rfl⟩:=ry;exact lt_str (ba I q rfl)
def Ei:gf X (compareOp .In) (fun x y H Q=>∃ i j,x=.str i/\y=.str j/\Q (.bl (!(Builtin.Str.occurrences j i 0 j.length 1).isEmpty)) H):=by
 intro af s σ H x y v u Q I rx ry h;obtain ⟨i,j,rfl,rfl,q⟩:=h;obtain ⟨t,rfl⟩:=rx;obtain ⟨t',rfl⟩:=ry;exact in_str (ba I q rfl)
def LB:gf X (compareOp .Is) (fun x y H Q=>y=.non/\Q (.bl (decide (x=.non))) H):=by
 intro af s σ H x y v u Q I rx ry h;obtain ⟨rfl,q⟩:=h;cases ry;refine is_none_gen (ba I q ?_);cases x <;> first
  | (cases rx;rfl)
  | (obtain ⟨t,rfl⟩:=rx;rfl)
def xT:gf X (compareOp .NotIn) (fun x y H Q=>∃ i j,x=.str i/\y=.str j/\Q (.bl (!(!(Builtin.Str.occurrences j i 0 j.length 1).isEmpty))) H):=by
 intro af s σ H x y v u Q I rx ry h;obtain ⟨i,j,rfl,rfl,q⟩:=h;obtain ⟨t,rfl⟩:=rx;obtain ⟨t',rfl⟩:=ry;exact notIn_str (ba I q rfl)
def gf.or {f:Value->Value->Sem Value} {r r':R2} (h:gf X f r) (h':gf X f r'):gf X f (fun x y H Q=>r x y H Q\/r' x y H Q):=by
 intro af s σ H x y v u Q I rx ry q;rcases q with q|q
 ·exact h af s σ H x y v u Q I rx ry q
 ·exact h' af s σ H x y v u Q I rx ry q
def aH (b:Expr) {op:CmpOp} (h:op≠.In:=by decide) (h2:op≠.NotIn:=by decide):behindInMarks op b=false:=by
 have e1:(op==CmpOp.In)=false:=by cases op <;> first|rfl|exact absurd rfl h
 have e2:(op==CmpOp.NotIn)=false:=by cases op <;> first|rfl|exact absurd rfl h2
 cases b <;> simp [behindInMarks,e1,e2]
def GZ {op:CmpOp} {r:R2} (ho:gf X (compareOp op) r) (ha:PE X a ta) (hb:PE X b tb) (hm:behindInMarks op b=false):PE X (.Compare a [op] [b] pos) (DX r ta tb):=by
 intro af s σ H Q I h;exact wpAny_Compare1 (LI ha hb I h fun v u s2 x y H2 I2 rx ry q=>ho af s2 σ H2 x y v u Q I2 rx ry q) hm
def JX (t:TE):TT:=fun σ H Q=>t σ H fun x H'=>∃ k,x=.bl k/\Q k H'
def Bc (r r':R2) (ta tb tc:TE):TE:=fun σ H Q=>ta σ H fun x H1=>tb σ H1 fun y H2=>r x y H2 fun z H3=>∃ k,z=.bl k /\
 (if k=true then tc σ H3 fun w' H4=>r' y w' H4 Q else Q (.bl false) H3)
def EY {op op':CmpOp} {r r':R2} (ho:gf X (compareOp op) r) (ho':gf X (compareOp op') r') (ha:PE X a ta) (hb:PE X b tb) (hc:PE X c tc)
  (hm:lastMarks [op,op'] [b,c]=false:=by with_unfolding_all rfl):PT X (.Compare a [op,op'] [b,c] pos) (JX (Bc r r' ta tb tc)):=by
 intro af s σ H Q I h;refine isTrue_chain (eB (ha af s σ H _ I h) fun v s1 hh=>mP hh fun x H1 I1 r1 q1=>test_link (eB (hb af s1 σ H1 _ I1 q1) fun u s2 hh=>mP hh fun y H2 I2 r2 q2 =>
  eB (ho af s2 σ H2 x y v u _ I2 r1 r2 q2) fun d s3 ⟨z,H3,I3,r3,k,e,q3⟩=>?_)) hm
 subst e;cases r3;refine wpAny_truthy_bool ?_;cases k with
 | false =>
  obtain ⟨k',e',q'⟩:=q3;cases e';exact ite_ff ⟨H3,I3,q'⟩
 | true =>
  refine ite_tt (test_last (eB (hc af s3 σ H3 _ I3 q3) fun w' s4 ⟨z',H4,I4,r4,q4⟩=>eB (ho' af s4 σ H4 y z' u w' _ I4 r2 r4 q4) fun d' s5 ⟨z2,H5,I5,r5,k2,e2,q5⟩=>?_));subst e2;cases r5;exact wpAny_truthy_bool ⟨H5,I5,q5⟩
def Wf (K:PySem.W.Frag) (x:V) (H:Hp) (k:Bool):Prop :=
 match x with
 | .non=>k=false
 | .bl b=>k=b
 | .int i=>k=(i != 0)
 | .str y=>y.length<=sizeLine/\k=((y.length:Int) != 0)
 | .byt y=>y.size<=sizeLine/\k=((y.size:Int) != 0)
 | .ref p=>(∃ xs,jl K H p xs/\k=!xs.isEmpty)\/(∃ xs,mT K H p xs/\k=!xs.isEmpty)\/∃ kvs,H p=some (.dK kvs)/\k=!kvs.isEmpty
 | _=>False
def AX {κ:Type} {kvs:List (κ×V)} {vs:List (κ×Value)} (r:KV kvs vs):(!vs.isEmpty)=!kvs.isEmpty:=by
 cases r <;> rfl
def uk {xs:List V} {its:List Value} (r:bC xs its):(!its.toArray.isEmpty)=!xs.isEmpty:=by
 cases r <;> simp
def qT:(sizeLine:Nat) < 2 ^ 63:=by rw [sizeLine_eq];decide
def MF:VN X (fun x H Q=>∃ k,Wf X.K x H k/\Q k H):=by
 intro af s σ H x v Q I rx h;obtain ⟨k,e,q⟩:=h;have hl:=qT;have hs:sizeLine=16777216:=sizeLine_eq;cases x with
 | non =>
  cases rx;have e':k=false:=e;subst e';exact truthy_none ⟨H,I,q⟩
 | bl b =>
  cases rx;have e':k=b:=e;subst e';exact wpAny_truthy_bool ⟨H,I,q⟩
 | int i =>
  obtain ⟨t,rfl⟩:=rx;have e':k=(i != 0):=e;subst e';exact PySem.P.truthy_int ⟨H,I,q⟩
 | str y =>
  obtain ⟨t,rfl⟩:=rx;obtain ⟨hy,e'⟩:y.length<=sizeLine/\k=((y.length:Int) != 0):=e;subst e';exact PySem.P.truthy_str (by omega) ⟨H,I.tok _,q⟩
 | byt y =>
  obtain ⟨t,rfl⟩:=rx;obtain ⟨hy,e'⟩:y.size<=sizeLine/\k=((y.size:Int) != 0):=e;subst e';exact PySem.W.truthy_bytes (by omega) ⟨H,I.tok _,q⟩
 | ref p =>
  cases rx;have e':(∃ xs,jl X.K H p xs/\k=!xs.isEmpty)\/(∃ xs,mT X.K H p xs/\k=!xs.isEmpty)\/∃ kvs,H p=some (.dK kvs)/\k=!kvs.isEmpty:=e;rcases e' with ⟨xs,hx,e'⟩|⟨xs,hx,e'⟩|⟨kvs,hx,e'⟩
  ·subst e';obtain ⟨its,r,pl,hz⟩:=I.list hx;have hlen:=r.length;exact wpAny_truthy_list pl.isList (by simp only [List.size_toArray];omega) ⟨H,I.tok _,by rw [uk r];exact q⟩
  ·subst e';obtain ⟨its,r,pl,hz⟩:=I.tuple hx;have hlen:=r.length;exact truthy_tuple pl (by simp only [List.size_toArray];omega) ⟨H,I.tok _,by rw [uk r];exact q⟩
  ·subst e';obtain ⟨hz,hS,vs,r,m⟩:kvs.length<=sizeLine/\(p==sysModules)=false/\∃ vs,KV kvs vs/\s.heap.DictOf (xg X.prog X.w) p vs:=I.hok p _ hx;have hlen:kvs.length=vs.length:=Paired.length r;exact wpAny_truthy_dict hS m (by omega) ⟨H,I.tok _,by rw [AX r];exact q⟩
 | _=>exact (show False from e).elim
def Bl:gf X (binaryOp .Add) (fun x y H Q=>∃ i j,x=.str i/\y=.str j/\i.length+j.length<=sizeLine/\Q (.str (i++j)) H):=by
 intro af s σ H x y v u Q I rx ry h;obtain ⟨i,j,rfl,rfl,hz,q⟩:=h;obtain ⟨t,rfl⟩:=rx;obtain ⟨t',rfl⟩:=ry;exact bf I.tk (add_str (fun t' tk htk=>⟨.str (i++j),H,I.tok _,⟨_,rfl⟩,q⟩) hz)
def gM {x:V} {us:List Value} (r:bC [x] us):∃ u,us=[u]/\bw x u:=by
 cases r with
 | cons r1 r2=>cases r2;exact ⟨_,rfl,r1⟩
def FO {x y:V} {us:List Value} (r:bC [x,y] us):∃ u w',us=[u,w']/\bw x u/\bw y w':=by
 cases r with
 | cons r1 r2 =>
  cases r2 with
  | cons r3 r4=>cases r4;exact ⟨_,_,rfl,r1,r3⟩
def Gu:bX X (.builtin "abs") (fun xs H Q=>∃ i,xs=[.int i]/\Q (.int (if i < 0 then -i else i)) H):=by
 intro af s σ H xs us Q I r h;obtain ⟨i,rfl,q⟩:=h;obtain ⟨u,rfl,t,rfl⟩:=gM r;exact bf I.tk (call_abs_int fun u tk htk=>⟨.int (if i < 0 then -i else i),H,I.tok _,⟨_,rfl⟩,q⟩)
def Ej (hc:X.calm=true):bX X (.builtin "min") (fun xs H Q=>∃ i j,xs=[.int i,.int j]/\Q (.int (if j < i then j else i)) H):=by
 intro af s σ H xs us Q I r h;obtain ⟨i,j,rfl,q⟩:=h;obtain ⟨u,w',rfl,⟨t,rfl⟩,⟨t',rfl⟩⟩:=FO r;refine bf I.tk (min_two_ints (I.ok.hd hc) fun h' tk k htk=>⟨_,H,I.kept k,?_,q⟩);by_cases hj:j < i
 ·rw [if_pos hj,if_pos hj];exact ⟨_,rfl⟩
 ·rw [if_neg hj,if_neg hj];exact ⟨_,rfl⟩
def D7:bX X (.type "int") (fun xs H Q=>(∃ i,xs=[.int i]/\Q (.int i) H)\/∃ k,xs=[.bl k]/\Q (.int (if k then 1 else 0)) H):=by
 intro af s σ H xs us Q I r h;rcases h with ⟨i,rfl,q⟩|⟨k,rfl,q⟩
 ·obtain ⟨u,rfl,t,rfl⟩:=gM r;exact call_int_int ⟨.int i,H,I,⟨_,rfl⟩,q⟩
 ·obtain ⟨u,rfl,r1⟩:=gM r;cases r1;exact call_int_bool ⟨.int (if k then 1 else 0),H,I.tok _,⟨_,rfl⟩,q⟩
end
structure ObjM (h:Heap) (x dx C:Addr) (mA:Str->Option Value):Prop where
 obj:h.get? x=some (PySem.W.instObj C dx)
 ns:h.Ns1 dx mA
 ne:dx≠x
def Dp {h:Heap} {dx:Addr} {mA:Str->Option Value} (n:h.Ns1 dx mA):∃ od,h.get? dx=some od/\∀ name,PySem.W.lookIn name od=some (mA name):=by
 obtain ⟨o,es,ep,ho,hd,hk,_,hm⟩:=n;refine ⟨o,ho,fun name=>?_⟩;have e:=hm name;unfold nsFind findBy at e;rw [<- Array.find?_toList] at e;unfold PySem.W.lookIn;rw [hd];dsimp only;split
 ·rename_i y q;rw [q] at e;exact congrArg some e
 ·rename_i q;rw [q] at e;have a:es.toList.any (·.refKey)=false:=by
   rw [List.any_eq_false];intro y hy;obtain ⟨z,t,hkey⟩:=hk y (Array.mem_toList_iff.mp hy);simp [DictEntry.refKey,hkey]
  have a':¬ es.toList.any (·.refKey)=true:=by rw [a];exact Bool.false_ne_true
  rw [if_neg a'];exact congrArg some e
def ObjM.look {h:Heap} {x dx C:Addr} {mA:Str->Option Value} (I:ObjM h x dx C mA):∃ od,PySem.W.InstAt h x (PySem.W.instObj C dx) C (some od)/\∀ name,PySem.W.lookIn name od=some (mA name) :=
 let ⟨od,ho,hl⟩:=Dp I.ns
 ⟨od,⟨I.obj,rfl,rfl,ho⟩,hl⟩
section
variable {P:Program} {w:World} {H H':Hp} {h h':Heap} {a C dx:Addr} {fs fs':List (Str×V)}
def IK (hok:r8 P w H h) (e:H a=some (.ins C dx fs)):∃ mA,ObjM h a dx C mA/\(∀ f,Mm (fs.lookup f) (mA f))/\PySem.Within mA (fs.map (·.1))/\fs.length<=1000/\H dx=some (.own a):=by
 obtain ⟨d,z,ne,ob,mA,n,r,q⟩:=(show eO P w H h a (.ins C dx fs) from hok a _ e);exact ⟨mA,⟨ob,n,ne⟩,r,q,z,d⟩
end
structure Cls (K:PySem.W.Frag) (C:Addr):Prop where
 pg:PySem.W.plainGet K C Str.empty=true
 hd:PySem.W.hasDictIn K C=true
 po:PySem.W.plainOver K C=true
 sa:PySem.W.findIn K (.ref C) "__setattr__"=some (some (.builtin "object.__setattr__"))
def Cls.get {K:PySem.W.Frag} {C:Addr} (c:Cls K C) (f:Str):PySem.W.plainGet K C f=true:=c.pg
section
variable {X:Cx} {af:List (Addr×Obj)} {σ:St} {H:Hp} {s:Shared} {A:Around} {E:Value->Shared->Prop} {Q:Value->Shared->Prop} {c:Value} {b:Bool}
inductive TyOf (K:PySem.W.Frag) (H:Hp):V->Value->Prop where
 | non:TyOf K H .non (.type "NoneType")
 | bl (x:Bool):TyOf K H (.bl x) (.type "bool")
 | int (i:Int):TyOf K H (.int i) (.type "int")
 | str (x:Str):TyOf K H (.str x) (.type "str")
 | flt (x:UInt64):TyOf K H (.flt x) (.type "float")
 | lst {a:Addr} {xs:List V} (e:H a=some (.lst xs)):TyOf K H (.ref a) (.type "list")
 | frz {a:Addr} {o:Obj} {xs:List V} (e:H a=some (.frz o (.lst xs))):TyOf K H (.ref a) (.type "list")
 | tup {a:Addr} {xs:List V} (e:H a=some (.tup xs)):TyOf K H (.ref a) (.type "tuple")
 | dK {a:Addr} {kvs:List (pA×V)} (e:H a=some (.dK kvs)):TyOf K H (.ref a) (.type "dict")
 | dT {a:Addr} {kvs:List (List pA×V)} (e:H a=some (.dT kvs)):TyOf K H (.ref a) (.type "dict")
 | ins {a C dx:Addr} {fs:List (Str×V)} (e:H a=some (.ins C dx fs)) (cl:Cls K C) (ha:PySem.W.findIn K (.ref C) "__class__"=some (some (.builtin "object.__class__")))
   (hn:PySem.W.specialIn K (.builtin "object.__class__") "__get__"=some (some (.builtin "getset_descriptor.__get__"))) (htk:PySem.W.takesIn K (.builtin "object.__class__")=some true)
   (hm:PySem.W.mroIn K C (.type "object")=some true):TyOf K H (.ref a) (.ref C)
def lq {x:V} {u t:Value} (I:Inv X af σ H s) (rx:bw x u) (ty:TyOf X.K H x t) (e:PySem.W.kitOne X.K t c=some b) (h:∀ tk,Q (.bool b) { s with toks:=tk }) :
  wpAny (model X.prog X.w) A (call (.builtin "isinstance") [u,c]) Q E s:=by
 cases ty with
 | non=>cases (show u=Value.none from rx);exact PySem.W.kia_one PySem.W.kitx_none I.kIn True.intro e (fun z=>nomatch z) h
 | bl y=>cases (show u=Value.bool y from rx);exact PySem.W.kia_one PySem.W.kitx_bool I.kIn True.intro e (fun z=>nomatch z) h
 | int i=>obtain ⟨t,q⟩:=(show ∃ t,u=Value.int i t from rx);cases q;exact PySem.W.kia_one PySem.W.kitx_int I.kIn True.intro e (fun z=>nomatch z) h
 | str y=>obtain ⟨t,q⟩:=(show ∃ t,u=Value.str y t from rx);cases q;exact PySem.W.kia_one PySem.W.kitx_str I.kIn True.intro e (fun z=>nomatch z) h
 | flt y=>obtain ⟨t,q⟩:=(show ∃ t,u=Value.float y t from rx);cases q;exact PySem.W.kia_one PySem.W.kitx_float I.kIn True.intro e (fun z=>nomatch z) h
 | @lst a xs ea =>
  cases (show u=Value.ref a from rx);obtain ⟨_,_,n,_,h1⟩:=(show eO X.prog X.w H s.heap a (.lst xs) from I.hok a _ ea);exact PySem.W.kia_one PySem.W.kitx_list I.kIn ⟨_,h1,rfl⟩ e (fun z=>nomatch z) h
 | @frz a ob xs ea =>
  cases (show u=Value.ref a from rx);obtain ⟨_,_,_,n,_,h1⟩:=(show eO X.prog X.w H s.heap a (.frz ob (.lst xs)) from I.hok a _ ea);exact PySem.W.kia_one PySem.W.kitx_list I.kIn ⟨_,h1,rfl⟩ e (fun z=>nomatch z) h
 | @tup a xs ea =>
  cases (show u=Value.ref a from rx);obtain ⟨_,_,_,p⟩:=(show eO X.prog X.w H s.heap a (.tup xs) from I.hok a _ ea);obtain ⟨o,h1,h2,_⟩:=p;exact PySem.W.kia_one PySem.W.kitx_tuple I.kIn ⟨o,h1,h2⟩ e (fun z=>nomatch z) h
 | @dK a kvs ea =>
  cases (show u=Value.ref a from rx);obtain ⟨_,_,vs,_,p⟩:=(show eO X.prog X.w H s.heap a (.dK kvs) from I.hok a _ ea);obtain ⟨o,es,ep,h1,h2,_⟩:=p;exact PySem.W.kia_one PySem.W.kitx_dict I.kIn ⟨o,h1,h2.1⟩ e (fun z=>nomatch z) h
 | @dT a kvs ea =>
  cases (show u=Value.ref a from rx);obtain ⟨_,_,xs,_,o,es,ep,h1,h2,_⟩:=(show eO X.prog X.w H s.heap a (.dT kvs) from I.hok a _ ea);exact PySem.W.kia_one PySem.W.kitx_dict I.kIn ⟨o,h1,h2.1⟩ e (fun z=>nomatch z) h
 | @ins a C dx fs ea cl ha hn htk hm =>
  cases (show u=Value.ref a from rx);obtain ⟨mA,O,_⟩:=IK I.hok ea;obtain ⟨od,J,_⟩:=O.look;exact PySem.W.kia_one (PySem.W.kitx_own (cl.get _) cl.hd ha hn htk hm) I.kIn J e (fun z=>nomatch z) h
end
structure Room (k:Nat) (A:Around):Prop where
 hd:A.handled=none
 dp:A.depth+3*k+5 < recursionLimit
 un:A.units+16*k+200 < cLine
def Room.mono {j k:Nat} {A:Around} (r:Room k A) (h:j<=k):Room j A:=⟨r.hd,by have:=r.dp;omega,by have:=r.un;omega⟩
def Room.deeper {k:Nat} {A:Around} (r:Room (k+1) A) (env:Env):Room k (A.deeper env) :=
 ⟨r.hd,by have:=r.dp;show A.depth+1+3*k+5 < _;omega,by have:=r.un;show A.units+3+16*k+200 < _;omega⟩
def Room.depth {k:Nat} {A:Around} (r:Room k A):A.depth < recursionLimit:=by have:=r.dp;omega
def Room.units {k:Nat} {A:Around} (r:Room k A):A.units+64 < cLine:=by have:=r.un;omega
def JK:TA:=fun _ H Q=>Q [] H
def zH (ta:TE) (tr:TA):TA:=fun σ H Q=>ta σ H fun x H1=>tr σ H1 fun xs H2=>Q (x::xs) H2
section
variable {X:Cx} {e:Expr} {es:List Expr} {te:TE} {t:TA} {pos:Pos}
def MU:PA X [] JK:=fun _ _ _ _ H Q I h=>Calls.spliced_nil ⟨[],H,I,.nil,h⟩
def He (ha:PE X e te) (hr:PA X es t) (hs:starEach (e::es) X.env=(false,eval e X.env)::starEach es X.env:=by rfl):PA X (e::es) (zH te t):=by
 intro pos af s σ H Q I h;rw [hs];show wpAny _ _ (spliced ((false,eval e X.env)::backTo pos (starEach es X.env))) _ _ s;refine Calls.spliced_cons (eB (ha af s σ H _ I h) fun u s1 hh=>mP hh fun x H1 I1 r1 q1=>?_);exact eB (hr pos af s1 σ H1 _ I1 q1) fun us s2 hh=>mP hh fun xs H2 I2 r2 q2=>⟨x::xs,H2,I2,.cons r1 r2,q2⟩
def Pf (t:TA):TE:=fun σ H Q=>t σ H fun xs H1=>xs.length<=sizeLine/\∀ p,H1 p=none->Q (.ref p) (dE H1 p (.tup xs))
def OM (t:TA):TE:=fun σ H Q=>t σ H fun xs H1=>xs.length<=sizeLine/\∀ p,H1 p=none->Q (.ref p) (dE H1 p (.lst xs))
def KP {x1} (h:PA X es t):PE X (.Tuple es x1 pos) (Pf t):=by
 intro af s σ H Q I hq;refine wpAny_Tuple_spliced (eB (h pos af s σ H _ I hq) fun us s1 ⟨xs,H1,I1,r,z,q⟩=>⟨by rw [<- r.length];exact z,?_⟩);have hf:H1 s1.heap.objs.size=none:=I1.hok.fresh (Nat.le_refl _);refine ⟨.ref s1.heap.objs.size,dE H1 s1.heap.objs.size (.tup xs),I1.laid (t':=s1.toks) (fun b u e=>Heap.get?_push_of_some _ e) (Nat.le_refl _) ?_,rfl,q _ hf⟩;exact ⟨z,us,r,⟨_,Heap.get?_push_size _ rfl,rfl,_,rfl⟩⟩
def Lz (h:PA X es t):PE X (.List es pos) (OM t):=by
 intro af s σ H Q I hq;refine wpAny_List_spliced (eB (h pos af s σ H _ I hq) fun us s1 ⟨xs,H1,I1,r,z,q⟩=>⟨by rw [<- r.length];exact z,?_⟩);have hf:H1 s1.heap.objs.size=none:=I1.hok.fresh (Nat.le_refl _);refine ⟨.ref s1.heap.objs.size,dE H1 s1.heap.objs.size (.lst xs),I1.laid (t':=s1.toks) (fun b u e=>Heap.get?_push_of_some _ e) (Nat.le_refl _) ?_,rfl,q _ hf⟩;exact ⟨z,us,0,r,Heap.get?_push_size _ rfl⟩
end
abbrev Sp:=List V->Hp->VK->XK->Prop
abbrev yJ:=List Env->Hp->Shared->XK->Value->Shared->Prop
structure Env0 (P:Program) (w:World) (K:PySem.W.Frag) (mg:Str->Option Value) (base:Heap) (A:Around) (outer:List Env) (s:Shared) (H:Hp):Prop where
 frames:A.frames=some outer
 mod:Mod K mg base
 bs:∀ b o,base.get? b=some o->s.heap.get? b=some o/\H b=none
 bsz:base.objs.size<=s.heap.objs.size
 funs:s.heap.FunFrames base outer
 frf:∀ b∈DV outer,H b=none
 hok:r8 P w H s.heap
 bare:AllBare s.gens
def CE (outer:List Env) (P:Program) (w:World) (H:Hp) (s:Shared) (Q:VK) (u:Value) (s':Shared):Prop :=
 ∃ v H',s'.os=s.os/\AllBare s'.gens/\Un (DV outer) [] H H' s.heap s'.heap/\r8 P w H' s'.heap/\bw v u/\Q v H'
def CR (CX:yJ) (outer:List Env) (P:Program) (w:World) (H:Hp) (s:Shared) (Q:VK) (E:XK) (r:Result) (s':Shared):Prop :=
 match r with
 | .ok (.ret u)=>CE outer P w H s Q u s'
 | .ok _=>False
 | .error e=>CX outer H s E e s'
structure FnOk (P:Program) (w:World) (K:PySem.W.Frag) (mg:Str->Option Value) (base:Heap) (CX:yJ) (k:Nat) (f:Addr) (fd:FuncData) (ps:List Str) (sp:Sp):Prop where
 len:∀ vs H Q E,sp vs H Q E->vs.length=ps.length
 run:∀ (A:Around) (outer:List Env) (s:Shared) (H:Hp) (args:Args) (us:List Value) (vs:List V) (Q:VK) (E:XK),Room k A->Env0 P w K mg base A outer s H->BindsTo s fd args (ps.zip us)->bC vs us->sp vs H Q E ->
  codeAny (model P w) A (.call (.ref f) args) (CR CX outer P w H s Q E) s
def FnOk.imp {P:Program} {w:World} {K:PySem.W.Frag} {mg:Str->Option Value} {base:Heap} {CX:yJ} {k:Nat} {f:Addr} {fd:FuncData} {ps:List Str} {sp sp':Sp} (F:FnOk P w K mg base CX k f fd ps sp)
  (h:∀ vs H Q E,sp' vs H Q E->sp vs H Q E):FnOk P w K mg base CX k f fd ps sp' :=
 ⟨fun vs H Q E q=>F.len vs H Q E (h _ _ _ _ q),fun A outer s H args us vs Q E hr he hb hv hs=>F.run A outer s H args us vs Q E hr he hb hv (h _ _ _ _ hs)⟩
section
variable {X:Cx} {af:List (Addr×Obj)} {σ:St} {H:Hp} {s s':Shared}
def Inv.env0 (I:Inv X af σ H s):Env0 X.prog X.w X.K X.mg X.base X.A X.stack s H :=
 ⟨I.ok.frames,I.ok.mod,I.bs,Nat.le_trans I.ok.bsz I.sz,I.stack,I.stkFree,I.hok,I.bare⟩
def Inv.after {Q:VK} {u:Value} (I:Inv X af σ H s) (h:CE X.stack X.prog X.w H s Q u s') (ht:X.tn<=s'.toks:=by walk_at "tok"):EP X af σ Q u s':=by
 obtain ⟨v,H',os,bare,un,hok,r,q⟩:=h;obtain ⟨hh,g,d,t,os'⟩:=s';obtain rfl:os'=s.os:=os;exact ⟨v,H',I.call (h':=hh) (g':=g) (d':=d) (t':=t) (ch:=[]) un hok bare (fun b z=>absurd z (by simp)),r,q⟩
end
def uz (K:PySem.W.Frag) (fd:FuncData) (ps:List Str) (ds:List Value):Prop :=
 ∀ (s:Shared) (us:List Value),K.In s.heap->(us++ds).length=ps.length->BindsTo s fd ⟨us,[]⟩ (ps.zip (us++ds))
def uz.all {K:PySem.W.Frag} {fd:FuncData} {ps:List Str} (h:∀ us:List Value,us.length=ps.length->bindArgs fd ⟨us,[]⟩=pure (ps.zip us)):uz K fd ps []:=fun s us _ hl=>by
 rw [List.append_nil] at hl ⊢;exact .of_eq (h us hl)
def F7 (CX:yJ) (X:Cx) (E:XK):Prop:=∀ (af:List (Addr×Obj)) (σ:St) (H:Hp) (s:Shared) (e:Value) (s':Shared),Inv X af σ H s->CX X.stack H s E e s'->X.xe e s'
section
variable {X:Cx} {CX:yJ} {k:Nat} {f C:Addr} {fd:FuncData} {ps:List Str} {sp:Sp} {dvs:List V} {ds:List Value} {E:XK} {x m:Str} {p pos apos:Pos} {e o:Expr} {es:List Expr} {ta:TE} {t:TA}
def Ng {af:List (Addr×Obj)} {σ:St} {H:Hp} {s:Shared} {Q:VK} {us:List Value} {vs:List V} (F:FnOk X.prog X.w X.K X.mg X.base CX k f fd ps sp) (hr:Room k X.A) (hb:uz X.K fd ps ds) (hd:bC dvs ds) (hx:F7 CX X E)
  (I:Inv X af σ H s) (r:bC vs us) (h:sp (vs++dvs) H Q E):wpAny (model X.prog X.w) X.A (call (.ref f) us) (EP X af σ Q) X.xe s:=by
 have r2:bC (vs++dvs) (us++ds):=r.append hd;have hl:(us++ds).length=ps.length:=by rw [<- r2.length];exact F.len _ _ _ _ h
 refine wpAny_call (fP I.tk (codeAny_mono (F.run X.A X.stack s H ⟨us,[]⟩ (us++ds) (vs++dvs) Q E hr I.env0 (hb s us I.kIn hl) r2 h) fun r s' hq htk=>?_));cases r with
 | error e=>exact hx af σ H s e s' I hq
 | ok fl =>
  cases fl with
  | ret u=>exact I.after hq
  | next=>exact False.elim hq
  | brk=>exact False.elim hq
  | cont=>exact False.elim hq
end
structure FnScope (N P:List Str) (sc:Scope):Prop where
 kind:sc.kind=.function
 co:sc.isCoroutine=false
 gen:sc.isGenerator=false
 nd:N.Nodup
 pre:N.take P.length=P
 par:∀ x∈P,sc.names.lookup x=some .local\/sc.names.lookup x=some .cell
 nofree:∀ y∈sc.names,y.2≠.free
def wC {kindOf:Str->Option NameKind} {x:Str}:∀ {binds:List (Str×Value)} {m:Str->Option Value},(∀ v,(x,v)∉binds)->bindL kindOf binds m x=m x
 | [],_,_=>rfl
 | (n,v)::r,m,h=>by
  unfold bindL;rw [wC fun w hw=>h w (List.mem_cons_of_mem _ hw)];split
  ·have:x≠n:=by rintro rfl;exact h v List.mem_cons_self
   simp [this]
  ·rfl
def wq {kindOf:Str->Option NameKind} {x:Str}:∀ {binds:List (Str×Value)} {m:Str->Option Value},(∀ v,(x,v)∉binds)->bindC kindOf binds m x=m x
 | [],_,_=>rfl
 | (n,v)::r,m,h=>by
  unfold bindC;rw [wq fun w hw=>h w (List.mem_cons_of_mem _ hw)];split
  ·rfl
  ·have:x≠n:=by rintro rfl;exact h v List.mem_cons_self
   simp [this]
def wO {kindOf:Str->Option NameKind} {x:Str} {v:Value}:∀ {P:List Str} {vs:List Value} {i:Nat} {m:Str->Option Value},P.Nodup->P[i]?=some x->vs[i]?=some v->kindOf x=some .local ->
  bindL kindOf (P.zip vs) m x=some v
 | [],_,_,_,_,h,_,_=>by simp at h
 | _::_,[],_,_,_,_,h,_=>by simp at h
 | p::P,w::vs,0,m,nd,h1,h2,hk=>by
  simp at h1 h2;subst h1;subst h2;show bindL kindOf ((p,w)::P.zip vs) m p=_;unfold bindL;rw [wC fun v hv=>(List.nodup_cons.mp nd).1 (List.of_mem_zip hv).1,if_pos hk];simp
 | p::P,w::vs,i+1,m,nd,h1,h2,hk=>by
  show bindL kindOf ((p,w)::P.zip vs) m x=_;unfold bindL;exact wO (i:=i) (List.nodup_cons.mp nd).2 (by simpa using h1) (by simpa using h2) hk
def wc {kindOf:Str->Option NameKind} {x:Str} {v:Value}:∀ {P:List Str} {vs:List Value} {i:Nat} {m:Str->Option Value},P.Nodup->P[i]?=some x->vs[i]?=some v->kindOf x≠some .local ->
  bindC kindOf (P.zip vs) m x=some v
 | [],_,_,_,_,h,_,_=>by simp at h
 | _::_,[],_,_,_,_,h,_=>by simp at h
 | p::P,w::vs,0,m,nd,h1,h2,hk=>by
  simp at h1 h2;subst h1;subst h2;show bindC kindOf ((p,w)::P.zip vs) m p=_;unfold bindC;rw [wq fun v hv=>(List.nodup_cons.mp nd).1 (List.of_mem_zip hv).1,if_neg hk];simp
 | p::P,w::vs,i+1,m,nd,h1,h2,hk=>by
  show bindC kindOf ((p,w)::P.zip vs) m x=_;unfold bindC;exact wc (i:=i) (List.nodup_cons.mp nd).2 (by simpa using h1) (by simpa using h2) hk
def start (N:List Str) (vs:List V):St:=vs.map some++List.replicate (N.length - vs.length) none
def lc (CX:yJ) (P:Program) (w:World) (K:PySem.W.Frag) (mg:Str->Option Value) (base:Heap) (N:List Str) (qual:Str) (scope:Scope) (f:Addr) (cd:Value) (A:Around) (outer:List Env) (s:Shared) (H:Hp) (E:XK):Cx where
 prog:=P
 w:=w
 K:=K
 mg:=mg
 base:=base
 A:=A.deeper (envOfC qual scope s.heap.objs.size f cd)
 N:=N
 s₀:=s
 H₀:=H
 env:=envOfC qual scope s.heap.objs.size f cd
 outer:=outer
 stack:=envOfC qual scope s.heap.objs.size f cd::outer
 ex:=[]
 calm:=true
 fn:=fun _=>true
 pn:=[]
 xe:=fun e s'=>wpAny (model P w) (A.deeper (envOfC qual scope s.heap.objs.size f cd)) (leaving (envOfC qual scope s.heap.objs.size f cd) e) (fun _ s''=>CX outer H s E e s'') (fun e' s''=>CX outer H s E e' s'') s'
def zU {sc:Scope} {n:Nat} {x:Str} (h:sc.names.lookup x=some .cell):∃ c,(cellsFrom n sc.names []).lookup x=some c:=by
 have q:=PySem.W.cellsFrom_some sc.names n [] (.inl h);exact Option.isSome_iff_exists.mp q
def rN {CX:yJ} {P:Program} {w:World} {K:PySem.W.Frag} {mg:Str->Option Value} {base:Heap} {N ps:List Str} {qual:Str} {scope:Scope} {f:Addr} {cd:Value} {A:Around} {outer:List Env} {s s1:Shared} {H:Hp} {E:XK} {us:List Value} {vs:List V}
  (S:FnScope N ps scope) (hd:A.handled=none) (e0:Env0 P w K mg base A outer s H) (hl:vs.length=ps.length) (r:bC vs us)
  (x:InCallC s s.heap.objs.size (bindL (envOfC qual scope s.heap.objs.size f cd).kindOf (ps.zip us) fun _=>none) (cellsFrom (s.heap.objs.size+1) scope.names []) (bindC (envOfC qual scope s.heap.objs.size f cd).kindOf (ps.zip us) fun _=>none) s1) :
  Inv (lc CX P w K mg base N qual scope f cd A outer s H E) [] (start N vs) H s1:=by
 have hpl:ps.length<=N.length:=by have:=congrArg List.length S.pre;rw [List.length_take] at this;omega
 obtain ⟨h1,tk,rfl,hk⟩:=x.done;have noA:∀ b:Addr,b∉(lc CX P w K mg base N qual scope f cd A outer s H E).ex:=fun b z=>absurd (show b∈([]:List Addr) from z) (by simp);refine ⟨⟨e0.mod,S.kind,rfl,rfl,Nat.le_refl _,fun y z c h1 h2=>?_,fun y hy=>?_,fun y c _ h=>?_,fun _=>hd,Around.frames_deeper e0.frames,.inr ⟨rfl,rfl⟩,fun b z=>absurd z (noA b),e0.bs,e0.bsz,fun b _ _=>noA b,fun b z=>absurd z (noA b),e0.funs,e0.frf⟩,
  rfl,e0.bare,Un.kept hk,⟨_,x.toInCall.ns,fun i y v h1 h2 h3=>?_⟩,fun y c h=>⟨_,x.cell y c h⟩,e0.hok.fresh (Nat.le_refl _),fun y c h=>?_,fun p hp=>absurd (show p∈([]:List (Addr×Obj)) from hp) (by simp),e0.hok.kept hk,?_,Nat.zero_le _⟩
 ·exact name_of_addr x.apart (PySem.mem_of_lookup h1) (PySem.mem_of_lookup h2)
 ·have hy:scope.names.lookup y=some .cell\/scope.names.lookup y=some .free:=hy;rcases hy with hy|hy
  ·exact zU hy
  ·exact absurd rfl (S.nofree _ (PySem.mem_of_lookup hy))
 ·exact Nat.le_of_lt (x.above y c (PySem.mem_of_lookup h))
 ·have hi:i < vs.length:=by
   unfold start at h2;by_cases hi:i < vs.length
   ·exact hi
   ·rw [List.getElem?_append_right (by simpa using hi)] at h2;rw [List.getElem?_replicate] at h2;split at h2 <;> cases h2
  have ha:vs[i]?=some v:=by
   unfold start at h2;rw [List.getElem?_append_left (by simpa using hi),List.getElem?_map] at h2;cases e:vs[i]? with
   | none=>rw [e] at h2;cases h2
   | some a=>rw [e] at h2;cases h2;rfl
  obtain ⟨u,hu,rv⟩:=r.get ha;have hp:ps[i]?=some y:=by
   rw [<- S.pre,List.getElem?_take_of_lt (by omega)];exact h1
  have ndP:ps.Nodup:=by rw [<- S.pre];exact S.nd.sublist (List.take_sublist _ _)
  refine ⟨u,rv,?_⟩;rcases S.par y (List.mem_of_getElem? hp) with k|k
  ·exact .inl ⟨k,wO ndP hp hu k⟩
  ·obtain ⟨c,e⟩:=zU (n:=s.heap.objs.size+1) k;refine .inr ⟨.inl k,c,e,?_⟩;have q:=x.cell y c e;rw [wc ndP hp hu (by show scope.names.lookup y≠_;rw [k];decide)] at q;exact q
 ·exact e0.hok.fresh (Nat.le_of_lt (x.above y c (PySem.mem_of_lookup h)))
 ·unfold start;show _=N.length;rw [List.length_append,List.length_map,List.length_replicate];omega
def JU {CX:yJ} {P:Program} {w:World} {K:PySem.W.Frag} {mg:Str->Option Value} {base:Heap} {k:Nat} {f:Addr} {name qual:Str} {params:Arguments} {body:List Stmt} {scope:Scope} {dV kV doc pm cdv ct oc:Value} {an od:Option Addr}
  {osl:Array (Option Value)} {N ps:List Str} {sp:Sp} (lk:K.lookup f=some ⟨oc,od,.func (PySem.W.fnOf name qual params body scope dV kV doc pm an cdv ct),osl⟩) (hcd:PySem.W.codeIn K cdv qual=true) (S:FnScope N ps scope)
  (len:∀ vs H Q E,sp vs H Q E->vs.length=ps.length)
  (hbody:∀ (A:Around) (outer:List Env) (s:Shared) (H:Hp) (vs:List V) (Q:VK) (E:XK),Room k (A.deeper (envOfC qual scope s.heap.objs.size f cdv))->sp vs H Q E ->
   ∃ t,Ag (lc CX P w K mg base N qual scope f cdv A outer s H E) body t/\t { nx:=fun _ H'=>Q .non H',rt:=Q } (start N vs) H) :
  FnOk P w K mg base CX (k+1) f (PySem.W.fnOf name qual params body scope dV kV doc pm an cdv ct) ps sp:=by
 refine ⟨len,fun A outer s H args us vs Q E hr e0 hb r hsp=>?_⟩;have hl:=len _ _ _ _ hsp;have KX:K.In s.heap:=e0.mod.kin.keeps fun b o e=>(e0.bs b o e).1;have lim:s.heap.NoLimit:=e0.mod.nolimit.keeps fun b o e=>(e0.bs b o e).1;have hkind:∀ y∈ps.zip us,scope.names.lookup y.1=some .local\/(scope.names.lookup y.1=some .cell/\((cellsFrom (s.heap.objs.size+1) scope.names []).lookup y.1).isSome=true):=fun ⟨n,v⟩ hy=>by
  rcases S.par n (List.of_mem_zip hy).1 with q|q
  ·exact .inl q
  ·exact .inr ⟨q,PySem.W.cellsFrom_some _ _ _ (.inl q)⟩
 refine codeAny_call_function hr.depth (KX _ _ lk) rfl S.co S.gen rfl (PySem.W.codeRec_of KX hcd) (hb _ _ _ _ ?_);refine wpAny_newFunctionEnv_cells S.kind hkind fun env he s1 x=>?_;subst he;refine ⟨lim.keeps x.toInCall.keep,codeAny_func ?_⟩;obtain ⟨t,ht,hq⟩:=hbody A outer s H vs Q E (hr.deeper _) hsp;have I:Inv (lc CX P w K mg base N qual scope f cdv A outer s H E) [] (start N vs) H s1:=rN S hr.hd e0 hl r x;refine wpAny_mono (ht [] s1 (start N vs) H _ I hq) (fun fl s' hs=>?_) fun e s' hs=>hs;have fin:∀ {σ':St} {H':Hp} {v:V} {u:Value},Inv (lc CX P w K mg base N qual scope f cdv A outer s H E) [] σ' H' s'->bw v u->Q v H'->CE outer P w H s Q u s' :=
  fun {σ' H' v u} J rv q=>⟨v,H',J.os,J.bare,J.base,J.hok,rv,q⟩
 cases fl with
 | ret u =>
  obtain ⟨v,σ',H',J,rv,q⟩:=hs;exact fin J rv q
 | next =>
  obtain ⟨σ',H',J,q⟩:=hs;exact fin (v:=V.non) (u:=Value.none) J rfl q
 | brk =>
  obtain ⟨_,_,_,q⟩:=hs;exact False.elim q
 | cont =>
  obtain ⟨_,_,_,q⟩:=hs;exact False.elim q
section
variable {X:Cx} {x:Str} {p pos:Pos} {e:Expr} {es:List Expr} {t:TA} {id T:String} {r:List V->Hp->VK->Prop}
def Np (r:List V->Hp->VK->Prop) (t:TA):TE:=fun σ H Q=>t σ H fun vs H1=>r vs H1 Q
def FB (hc:bX X (.builtin id) r) (hg:Gl X x) (hm:X.mg x=none) (hv:bootBuiltins x=some (.builtin id)) (ha:PA X (e::es) t) (hn:x≠"__name__":=by decide) (hdb:(x==("__debug__":Str))=false:=by decide)
  (he:starEach (e::es) X.env=(false,eval e X.env)::starEach es X.env:=by rfl) (hpl:(backTo pos (starEach es X.env)).any (·.1)=false:=by rfl):PE X (.Call (.Name x p) (e::es) [] pos) (Np r t):=by
 intro af s σ H Q I h;refine wpAny_Call_Name_kw (nV I hg hm hv ?_ hn hdb);exact PyProof.Rows.callWith_builtin1 (eB (ha pos af s σ H _ I h) fun us s1 hh=>mP hh fun vs H1 I1 r1 q1=>hc af s1 σ H1 vs us Q I1 r1 q1) he hpl
def DS (hc:bX X (.type T) r) (hg:Gl X x) (hm:X.mg x=none) (hv:bootBuiltins x=some (.type T)) (ha:PA X (e::es) t) (hn:x≠"__name__":=by decide) (hdb:(x==("__debug__":Str))=false:=by decide)
  (he:starEach (e::es) X.env=(false,eval e X.env)::starEach es X.env:=by rfl) (hpl:(backTo pos (starEach es X.env)).any (·.1)=false:=by rfl):PE X (.Call (.Name x p) (e::es) [] pos) (Np r t):=by
 intro af s σ H Q I h;refine wpAny_Call_Name_kw (nV I hg hm hv ?_ hn hdb);exact PyProof.Rows.callWith_type1 (eB (ha pos af s σ H _ I h) fun us s1 hh=>mP hh fun vs H1 I1 r1 q1=>hc af s1 σ H1 vs us Q I1 r1 q1) he hpl
end
end L2
namespace HT
open PySem PyProof.Rows
section
variable {prog:Program} {w:World} {A:Around} {E:Value->Shared->Prop} {s:Shared}
def Im {t b:Addr} {vs ws:List Value} {Q:Value->Shared->Prop} (ht:IsTup s.heap t vs.toArray) (hb:IsTup s.heap b ws.toArray) (hv:vs≠[])
  (h1:ws=[]->Q (.ref t) s) (h2:ws≠[]->Q (.ref s.heap.objs.size) { s with heap:=s.heap.push { cls:=.type "tuple",data:=.seq (vs++ws).toArray } })
  (hsz:vs.length+ws.length<=sizeLine):wpAny (model prog w) A (binaryOp .Add (.ref t) (.ref b)) Q E s:=by
 obtain ⟨⟨cls,dd,data,sl⟩,ho,hc,n,hd⟩:=id ht;obtain ⟨⟨cls2,dd2,data2,sl2⟩,ho2,hc2,n2,hd2⟩:=id hb;simp only at hc hd hc2 hd2;subst hc hd hc2 hd2;have e:vs.toArray++ws.toArray=(vs++ws).toArray:=by simp
 by_cases hw:ws=[]
 ·exact concat_meets ⟨_,ho,rfl⟩ ⟨_,ho2,rfl⟩ noFill_tuple_add seq_tuple_add PySem.F.slot_tuple_add PySem.F.entry_tuple_add (PySem.F.args_tuple_add_2 _ _)
   (tuple_addW1 t b vs.toArray ws.toArray n n2 dd dd2 sl sl2 (by simpa using hv) (by simp [hw])) ⟨ho,ho2,h1 hw⟩
 ·refine concat_meets ⟨_,ho,rfl⟩ ⟨_,ho2,rfl⟩ noFill_tuple_add seq_tuple_add PySem.F.slot_tuple_add PySem.F.entry_tuple_add (PySem.F.args_tuple_add_2 _ _)
   (tuple_addW2 t b vs.toArray ws.toArray n n2 dd dd2 sl sl2 (by simpa using hv) (by simpa using hw) (by rw [List.size_toArray,List.size_toArray];exact hsz)) ⟨ho,ho2,?_⟩
  rw [e];exact h2 hw
def sIx (n d:Nat):Option Int->Nat
 | none=>d
 | some v=>if v < 0 then (v+(n:Int)).toNat else min v.toNat n
def zh (n d:Nat):sIx n d none=d:=rfl
def mm (n d k:Nat):sIx n d (some (k:Int))=min k n:=by
 show (if (k:Int) < 0 then ((k:Int)+(n:Int)).toNat else min (k:Int).toNat n)=min k n;rw [if_neg (by omega),Int.toNat_natCast]
def Bq (n d:Nat) (hd:d<=n) (o:Option Int):sIx n d o<=n:=by
 cases o with
 | none=>exact hd
 | some v =>
  show (if v < 0 then (v+(n:Int)).toNat else min v.toNat n)<=n;by_cases hv:v < 0
  ·rw [if_pos hv];omega
  ·rw [if_neg hv];exact Nat.min_le_right _ _
def CJ (v:Int) (n d:Nat):(if v < 0 then max (v+(n:Int)) 0 else min v (n:Int))=((sIx n d (some v):Nat):Int):=by
 show (if v < 0 then max (v+(n:Int)) 0 else min v (n:Int))=(((if v < 0 then (v+(n:Int)).toNat else min v.toNat n):Nat):Int);by_cases hv:v < 0
 ·simp only [if_pos hv];omega
 ·simp only [if_neg hv];omega
def A1 (lo hi:Option Int) (n:Nat):Builtin.Slice.sliceAdjust lo hi 1 (n:Int)=(((sIx n 0 lo:Nat):Int),((sIx n n hi:Nat):Int)):=by
 have h1:¬ ((1:Int) < 0):=by omega
 unfold Builtin.Slice.sliceAdjust;simp only [h1,if_false];refine Prod.ext ?_ ?_
 ·cases lo with
  | none=>rfl
  | some v=>exact CJ v n 0
 ·cases hi with
  | none=>rfl
  | some v=>exact CJ v n n
def Bp (i j:Nat):Builtin.Slice.slicePlaces (i:Int) (j:Int) 1=j - i:=by
 unfold Builtin.Slice.slicePlaces;have h1:(1:Int) > 0:=by omega
 simp only [h1,if_true,Int.ediv_one];split <;> omega
def t8 {v:Value} {o:Option Int} {Q:Option Int->Shared->Prop} (p:IsPart v o) (h:Q o s):wpAny (model prog w) A (Builtin.Slice.slicePartIndex v) Q E s:=by
 cases p with
 | none=>exact slicePart_none h
 | int i t=>exact slicePart_int h
def qM {sl:Addr} {vl vu:Value} {lo hi:Option Int} {n:Nat} {Q:Int×Int×Nat->Shared->Prop} (hs:s.heap.IsSliceOf sl vl vu .none) (pl:IsPart vl lo) (pu:IsPart vu hi)
  (h:Q (((sIx n 0 lo:Nat):Int),1,sIx n n hi - sIx n 0 lo) s):wpAny (model prog w) A (Builtin.Slice.sliceApplied (.ref sl) (pure (n:Int))) Q E s:=by
 obtain ⟨os,hos,hcs,hds⟩:=id hs;unfold Builtin.Slice.sliceApplied Builtin.Slice.sliceFields;refine wpAny_bind (wpAny_bind (wpAny_field hos hds (x:=vl) rfl (wpAny_bind (wpAny_field hos hds (x:=vu) rfl (wpAny_bind (wpAny_field hos hds (x:=.none) rfl (wpAny_pure ?_)))))));refine wpAny_bind (slicePart_none ?_);show wpAny _ _ (if ((1:Int)==0)=true then _ else _) _ _ s;rw [if_neg (by decide)];refine wpAny_bind (t8 pl (wpAny_bind (t8 pu (wpAny_bind (wpAny_pure ?_)))));show wpAny _ _ (match Builtin.Slice.sliceAdjust lo hi 1 (n:Int) with|(lo,hi)=>pure (lo,(1:Int),Builtin.Slice.slicePlaces lo hi 1)) _ _ s
 rw [A1 lo hi n];show wpAny _ _ (pure (((sIx n 0 lo:Nat):Int),(1:Int),Builtin.Slice.slicePlaces ((sIx n 0 lo:Nat):Int) ((sIx n n hi:Nat):Int) 1)) _ _ s;rw [Bp];exact wpAny_pure h
def Gg (xs:Array Value) (i k:Nat):((List.range k).filterMap fun (m:Nat)=>xs[((i:Int)+(m:Int)*1).toNat]?).toArray=((xs.toList.drop i).take k).toArray:=by
 have e:(fun (m:Nat)=>xs[((i:Int)+(m:Int)*1).toNat]?)=fun m=>xs[i+m]?:=by
  funext m
  have:((i:Int)+(m:Int)*1).toNat=i+m:=by omega
  rw [this]
 rw [e]
 have:=pick_run xs i k
 rw [List.filterMap_map] at this;have e2:((fun x=>xs[x]?) ∘ fun x=>i+x)=fun m=>xs[i+m]?:=rfl;rw [e2] at this;rw [this]
def pS {t sl:Addr} {items:Array Value} {vl vu:Value} {lo hi:Option Int} {Q:Value->Shared->Prop} (ht:IsTup s.heap t items) (hs:s.heap.IsSliceOf sl vl vu .none) (pl:IsPart vl lo) (pu:IsPart vu hi)
  (hw:¬ (sIx items.size 0 lo=0/\sIx items.size items.size hi=items.size))
  (h:Q (.ref s.heap.objs.size) { s with heap:=s.heap.push { cls:=.type "tuple",data:=.seq ((items.toList.drop (sIx items.size 0 lo)).take (sIx items.size items.size hi - sIx items.size 0 lo)).toArray } })
  (hsz:items.size<=sizeLine):wpAny (model prog w) A (getItem (.ref t) (.ref sl)) Q E s:=by
 have htake:sizeOk (.seq ((items.toList.drop (sIx items.size 0 lo)).take (sIx items.size items.size hi - sIx items.size 0 lo)).toArray):=by
  show ((items.toList.drop (sIx items.size 0 lo)).take (sIx items.size items.size hi - sIx items.size 0 lo)).toArray.size<=sizeLine;rw [List.size_toArray,List.length_take,List.length_drop,Array.length_toList];omega
 have hj:sIx items.size items.size hi<=items.size:=Bq _ _ (Nat.le_refl _) hi;obtain ⟨os,hos,hcs,hds⟩:=id hs;have hTs:s.TypeIs (.ref sl) "slice":=⟨os,hos,hcs⟩;unfold getItem;try with_reducible refine wpAny_holding ?_
 first|refine wpAny_bind (wpAny_pure ?_)|skip
 refine wpAny_bind (wpAny_sequenceKey ht.typeIs (by decide) ?_);refine wpAny_bind (wpAny_callSpecial?_slot (name:=Str.ofString "__getitem__") ht.typeIs PyProof.Rows.slot_tuple_getitem
  (wpAny_call_entry PyProof.Rows.slot_tuple_getitem ht.typeIs entry_tuple_getitem ?_ (args_tuple_getitem _ _)))
 show wpAny _ _ (Builtin.Tuple.tupleItemsOf (.ref t) >>= _) _ _ s;refine wpAny_bind (tupleItemsOf_ ht ?_);refine wpAny_bind (wpAny_typeOf hTs ?_);rw [if_pos (by decide)];refine wpAny_bind (qM hs pl pu ?_);have hno:¬ ((((sIx items.size 0 lo:Nat):Int)==0&&(1:Int)==1&&(sIx items.size items.size hi - sIx items.size 0 lo)==items.size)=true):=by
  intro q;rw [Bool.and_eq_true,Bool.and_eq_true] at q;have q1:((sIx items.size 0 lo:Nat):Int)=0:=eq_of_beq q.1.1;have q2:sIx items.size items.size hi - sIx items.size 0 lo=items.size:=eq_of_beq q.2;exact hw ⟨by omega,by omega⟩
 show wpAny _ _ (if (((sIx items.size 0 lo:Nat):Int)==0&&(1:Int)==1&&(sIx items.size items.size hi - sIx items.size 0 lo)==items.size)=true then _ else _) _ _ s;rw [if_neg hno,Gg]
 first
  | exact wpAny_bind (m:=Builtin.Tuple.tupleExact _) (wpAny_newObj_type (wpAny_pure ⟨_,rfl,wpAny_pure h⟩) htake)
  | exact wpAny_bind (m:=Builtin.Tuple.tupleExact _) (wpAny_newObj_type (wpAny_bind (wpAny_pure (wpAny_pure ⟨_,rfl,wpAny_pure h⟩))) htake)
  | exact wpAny_bind (wpAny_bind (m:=Builtin.Tuple.tupleExact _) (wpAny_newObj_type (wpAny_pure (wpAny_pure ⟨_,rfl,wpAny_pure h⟩)) htake))
  | exact wpAny_bind (wpAny_bind (m:=Builtin.Tuple.tupleExact _) (wpAny_newObj_type (wpAny_pure ⟨_,rfl,wpAny_pure h⟩) htake))
end
end HT
namespace L2
open PySem PySem.Spec PyProof.Rows
abbrev TO:=St->Hp->(Option Int->Hp->Prop)->Prop
def PO (X:Cx) (e:Option Expr) (t:TO):Prop :=
 ∀ (af:List (Addr×Obj)) (s:Shared) (σ:St) (H:Hp) (Q:Option Int->Hp->Prop),Inv X af σ H s->t σ H Q ->
  wpAny (model X.prog X.w) X.A (evalPart e X.env) (fun u s'=>∃ o H',Inv X af σ H' s'/\IsPart u o/\Q o H') X.xe s
def CD:TO:=fun _ H Q=>Q none H
section
variable {X:Cx} {e:Expr} {te:TE} {lo hi:Option Expr} {tl th:TO} {pos p2:Pos}
def G2:PO X none CD:=by
 intro af s σ H Q I h;rw [evalPart_none];exact wpAny_pure ⟨none,H,I,.none,h⟩
def AL (X:Cx) (r:V->Option Int->Option Int->Hp->VK->Prop):Prop :=
 ∀ (af:List (Addr×Obj)) (s:Shared) (σ:St) (H:Hp) (x:V) (v vl vu:Value) (lo hi:Option Int) (sl:Addr) (Q:VK),Inv X af σ H s->bw x v->s.heap.IsSliceOf sl vl vu .none->IsPart vl lo->IsPart vu hi->r x lo hi H Q ->
  ∃ T id,typeLookup (.type T) "__getitem__"=pure (some (.builtin id))/\s.TypeIs v T/\wpAny (model X.prog X.w) X.A (getItem v (.ref sl)) (EP X af σ Q) X.xe s
def AL.or {r r':V->Option Int->Option Int->Hp->VK->Prop} (h:AL X r) (h':AL X r'):AL X (fun x lo hi H Q=>r x lo hi H Q\/r' x lo hi H Q):=by
 intro af s σ H x v vl vu lo hi sl Q I rx hs pl pu q;rcases q with q|q
 ·exact h af s σ H x v vl vu lo hi sl Q I rx hs pl pu q
 ·exact h' af s σ H x v vl vu lo hi sl Q I rx hs pl pu q
def Wy (r:V->Option Int->Option Int->Hp->VK->Prop) (te:TE) (tl th:TO):TE:=fun σ H Q=>te σ H fun x H1=>tl σ H1 fun l H2=>th σ H2 fun u H3=>r x l u H3 Q
def Gc {r:V->Option Int->Option Int->Hp->VK->Prop} (hr:AL X r) (he:PE X e te) (hl:PO X lo tl) (hu:PO X hi th):PE X (.Subscript e (.Slice lo hi none p2) pos) (Wy r te tl th):=by
 intro af s σ H Q I h;refine Subscript_ (eB (he af s σ H _ I h) fun v s1 hh=>mP hh fun x H1 I1 r1 q1=>?_);refine wpAny_Slice (eB (hl af s1 σ H1 _ I1 q1) fun vl s2 ⟨l,H2,I2,pl,q2⟩=>eB (hu af s2 σ H2 _ I2 q2) fun vu s3 ⟨u,H3,I3,pu,q3⟩=>?_);rw [evalPart_none];refine wpAny_pure ?_;have I4:Inv X af σ H3 { s3 with heap:=s3.heap.push { cls:=.type "slice",data:=.fields #[vl,vu,.none] } }:=I3.kept (t':=s3.toks) fun b ob q=>Heap.get?_push_of_some _ q;obtain ⟨T,id,hT,ht,hg⟩:=hr af { s3 with heap:=s3.heap.push { cls:=.type "slice",data:=.fields #[vl,vu,.none] } } σ H3 x v vl vu l u s3.heap.objs.size Q I4 r1 (Heap.IsSliceOf.new ..) pl pu q3;show wpAny (model X.prog X.w) X.A (subscriptTail e (.Slice lo hi none p2) v (.ref s3.heap.objs.size)) (EP X af σ Q) X.xe { s3 with heap:=s3.heap.push { cls:=.type "slice",data:=.fields #[vl,vu,.none] } };exact tail_any (ops:=[.ref s3.heap.objs.size,v]) ht hT hg (by with_unfolding_all rfl)
def vX (xs:List V) (lo hi:Option Int):List V:=(xs.drop (HT.sIx xs.length 0 lo)).take (HT.sIx xs.length xs.length hi - HT.sIx xs.length 0 lo)
def sr (xs:List V) (lo hi:Option Int):(vX xs lo hi).length<=xs.length:=by
 unfold vX;rw [List.length_take,List.length_drop];omega
def V1 (K:PySem.W.Frag):V->Option Int->Option Int->Hp->VK->Prop:=fun x lo hi H Q=>∃ a xs,x=.ref a/\mT K H a xs /\
 ¬ (HT.sIx xs.length 0 lo=0/\HT.sIx xs.length xs.length hi=xs.length)/\∀ p,H p=none->Q (.ref p) (dE H p (.tup (vX xs lo hi)))
def MY:AL X (V1 X.K):=by
 intro af s σ H x v vl vu lo hi sl Q I rx hs pl pu h;obtain ⟨a,xs,rfl,hx,hw,q⟩:=h;cases rx;obtain ⟨its,r,ht,hz⟩:=I.tuple hx;have hlen:its.toArray.size=xs.length:=by rw [List.size_toArray];exact r.length.symm
 refine ⟨"tuple",_,PyProof.Rows.slot_tuple_getitem.lookup,ht.typeIs,?_⟩;refine HT.pS ht hs pl pu (by rw [hlen];exact hw) ?_ (by rw [hlen];exact hz);rw [hlen];refine ⟨.ref s.heap.objs.size,_,I.laid (t':=s.toks) (o:=.tup (vX xs lo hi)) (fun b ob q=>Heap.get?_push_of_some _ q) (Nat.le_refl _) ?_,rfl,q _ (I.hok.fresh (Nat.le_refl _))⟩;exact ⟨Nat.le_trans (sr xs lo hi) hz,_,(r.drop (HT.sIx xs.length 0 lo)).take (HT.sIx xs.length xs.length hi - HT.sIx xs.length 0 lo),IsTup.new _ _⟩
def PK (K:PySem.W.Frag):R2:=fun x y H Q=>∃ a b xs ys,x=.ref a/\y=.ref b/\mT K H a xs/\mT K H b ys/\xs≠[]/\xs.length+ys.length<=sizeLine /\
 (ys=[]->Q (.ref a) H)/\(ys≠[]->∀ p,H p=none->Q (.ref p) (dE H p (.tup (xs++ys))))
def bC.nil_iff {xs:List V} {us:List Value} (r:bC xs us):us=[] ↔ xs=[]:=by
 cases r with
 | nil=>simp
 | cons _ _=>simp
def IP:gf X (binaryOp .Add) (PK X.K):=by
 intro af s σ H x y v u Q I rx ry h;obtain ⟨a,b,xs,ys,rfl,rfl,ha,hb,hx,hz,q1,q2⟩:=h;cases rx;cases ry;obtain ⟨its,r1,p1,_⟩:=I.tuple ha;obtain ⟨its2,r2,p2,_⟩:=I.tuple hb;refine HT.Im p1 p2 (fun z=>hx (r1.nil_iff.mp z)) (fun z=>⟨.ref a,H,I,rfl,q1 (r2.nil_iff.mp z)⟩) (fun z=>?_) (by rw [<- r1.length,<- r2.length];exact hz);refine ⟨.ref s.heap.objs.size,_,I.laid (t':=s.toks) (o:=.tup (xs++ys)) (fun b ob q=>Heap.get?_push_of_some _ q) (Nat.le_refl _) ?_,rfl,q2 (fun w=>z (r2.nil_iff.mpr w)) _ (I.hok.fresh (Nat.le_refl _))⟩;exact ⟨by rw [List.length_append];exact hz,_,r1.append r2,IsTup.new _ _⟩
end
def Hh (n:Nat) (i:Int):Option Nat:=if 0<=i then (if i < n then some i.toNat else none) else if -(n:Int)<=i then some (i+n).toNat else none
def atI {α:Type} (xs:List α) (i:Int):Option α:=(Hh xs.length i).bind fun j=>xs[j]?
def Ja {n:Nat} {i:Int} {j:Nat} (h:Hh n i=some j):seqIndex? i n=some j/\j < n/\-(n:Int)<=i/\i < n:=by
 unfold Hh at h;by_cases h0:0<=i
 ·rw [if_pos h0] at h;by_cases h1:i < n
  ·rw [if_pos h1] at h;have e:i.toNat=j:=Option.some.inj h;exact ⟨by rw [seqIndex_of h0 h1,e],by omega,by omega,h1⟩
  ·rw [if_neg h1] at h;cases h
 ·rw [if_neg h0] at h;by_cases h1:-(n:Int)<=i
  ·rw [if_pos h1] at h;have e:(i+n).toNat=j:=Option.some.inj h;exact ⟨by rw [seqIndex_neg (by omega) h1,e],by omega,h1,by omega⟩
  ·rw [if_neg h1] at h;cases h
def xz {α:Type} {xs:List α} {i:Int} {v:α} (h:atI xs i=some v):∃ j,seqIndex? i xs.length=some j/\xs[j]?=some v/\j < xs.length/\-(xs.length:Int)<=i/\i < xs.length:=by
 unfold atI at h;cases e:Hh xs.length i with
 | none=>rw [e] at h;cases h
 | some j =>
  rw [e] at h;obtain ⟨h1,h2,h3,h4⟩:=Ja e;exact ⟨j,h1,h,h2,h3,h4⟩
def bt {α:Type} {xs:List α} {j:Nat} {v:α} (h:xs[j]?=some v):atI xs (j:Int)=some v:=by
 have hj:j < xs.length:=(List.getElem?_eq_some_iff.mp h).1;have e:Hh xs.length (j:Int)=some j:=by
  unfold Hh;rw [if_pos (by omega),if_pos (by omega)];simp
 unfold atI;rw [e];exact h
def tH (b:Expr):Prop:=∀ o i,subscripted b false o i=operate [o,i] (getItem o i)
def Ax (X:Cx) (r:R2):Prop :=
 ∀ (value slice:Expr) (af:List (Addr×Obj)) (s:Shared) (σ:St) (H:Hp) (x y:V) (v u:Value) (Q:VK),Inv X af σ H s->bw x v->bw y u->r x y H Q ->
  subscripted slice false v u=operate [v,u] (getItem v u)->wpAny (model X.prog X.w) X.A (subscriptTail value slice v u) (EP X af σ Q) X.xe s
def U5 (X:Cx) (id:String) (r:V->List V->Hp->VK->Prop):Prop :=
 ∀ (af:List (Addr×Obj)) (s:Shared) (σ:St) (H:Hp) (x:V) (xs:List V) (v:Value) (us:List Value) (Q:VK),Inv X af σ H s->bw x v->bC xs us->r x xs H Q ->
  wpAny (model X.prog X.w) X.A (call (.builtin id) (v::us)) (EP X af σ Q) X.xe s
section
variable {X:Cx} {a b:Expr} {ta tb:TE} {pos:Pos}
def Ax.or {r r':R2} (h:Ax X r) (h':Ax X r'):Ax X (fun x y H Q=>r x y H Q\/r' x y H Q):=by
 intro value slice af s σ H x y v u Q I rx ry q hs;rcases q with q|q
 ·exact h value slice af s σ H x y v u Q I rx ry q hs
 ·exact h' value slice af s σ H x y v u Q I rx ry q hs
def OA {r:R2} (hr:Ax X r) (ha:PE X a ta) (hb:PE X b tb) (hs:tH b):PE X (.Subscript a b pos) (DX r ta tb):=by
 intro af s σ H Q I h;exact Subscript_ (LI ha hb I h fun v u s2 x y H2 I2 rx ry q=>hr a b af s2 σ H2 x y v u Q I2 rx ry q (hs _ _))
def Tn (K:PySem.W.Frag):R2:=fun x y H Q=>∃ p xs i v,x=.ref p/\y=.int i/\jl K H p xs/\atI xs i=some v/\Q v H
def TV (K:PySem.W.Frag):R2:=fun x y H Q=>∃ p xs i v,x=.ref p/\y=.int i/\mT K H p xs/\atI xs i=some v/\Q v H
def NY:R2:=fun x y H Q=>∃ z i c,x=.str z/\y=.int i/\z.length<=sizeLine/\atI z.cps.toList i=some c/\Q (.str ⟨#[c]⟩) H
def G0:Ax X (Tn X.K):=by
 intro value slice af s σ H x y v u Q I rx ry h hs;obtain ⟨p,xs,i,z,rfl,rfl,hq,he,q⟩:=h;cases rx;obtain ⟨t,rfl⟩:=ry;obtain ⟨its,r,pl,hz⟩:=I.list hq;obtain ⟨j,h1,h2,h3,h4,h5⟩:=xz he;obtain ⟨w,ew,rw'⟩:=r.get h2;have hl:=r.length;have hn:=qT;have fin:EP X af σ Q w s:=⟨z,H,I,rw',q⟩;by_cases h0:0<=i
 ·have hj:i.toNat=j:=by
   rw [seqIndex_of h0 h5] at h1;exact Option.some.inj h1
  exact item_listR pl.isList h0 (by omega) (by rw [hj];simpa using ew) fin hs
 ·have hj:(i+(its.toArray.size:Int)).toNat=j:=by
   rw [seqIndex_neg (by omega) h4] at h1;rw [List.size_toArray,<- hl];exact Option.some.inj h1
  exact subscriptTail_builtinR (x:=w) pl.isList.typeIs slot_list_getitem.lookup
   (wpAny_getItem_list_neg (Q:=fun r s'=>r=w/\EP X af σ Q r s') pl.isList (by omega) (by rw [List.size_toArray] <;> omega) (by omega) (by rw [hj];simpa using ew) ⟨rfl,fin⟩) hs
def Mw:Ax X (TV X.K):=by
 intro value slice af s σ H x y v u Q I rx ry h hs;obtain ⟨p,xs,i,z,rfl,rfl,hq,he,q⟩:=h;cases rx;obtain ⟨t,rfl⟩:=ry;obtain ⟨its,r,pl,hz⟩:=I.tuple hq;obtain ⟨j,h1,h2,h3,h4,h5⟩:=xz he;obtain ⟨w,ew,rw'⟩:=r.get h2;have hl:=r.length;have hn:=qT;have fin:EP X af σ Q w s:=⟨z,H,I,rw',q⟩;exact subscriptTail_builtinR (x:=w) pl.typeIs slot_tuple_getitem.lookup
  (getItem_tuple (j:=j) (Q:=fun r s'=>r=w/\EP X af σ Q r s') pl (by omega) (by omega) (by rw [List.size_toArray,<- hl];exact h1) (by simpa using ew) ⟨rfl,fin⟩) hs
def Mx:Ax X NY:=by
 intro value slice af s σ H x y v u Q I rx ry h hs;obtain ⟨z,i,c,rfl,rfl,hz,he,q⟩:=h;obtain ⟨t,rfl⟩:=rx;obtain ⟨t',rfl⟩:=ry;obtain ⟨j,h1,h2,h3,h4,h5⟩:=xz he;have hl:z.cps.toList.length=z.length:=by simp [Str.length]
 rw [hl] at h1 h4 h5;have hn:=qT;exact tail_any (typeIs_str s z t) slot_str_getitem.lookup (getItem_str (c:=c) (by
  have e1:decide (i < -(2 ^ 63:Int))=false:=decide_eq_false (by omega);have e2:decide (i ≥ 2 ^ 63)=false:=decide_eq_false (by omega);rw [e1,e2,Bool.or_false]) (by rw [h1];simpa using h2) ⟨.str ⟨#[c]⟩,H,I.tok _,⟨_,rfl⟩,q⟩) hs
def rIx (K:PySem.W.Frag):R2:=fun x y H Q=>Tn K x y H Q\/TV K x y H Q\/NY x y H Q
def M3:Ax X (rIx X.K):=G0.or (Mw.or Mx)
def xE (lo hi:Option Int) (n:Nat):(sliceBounds lo hi none n).1=((HT.sIx n 0 lo:Nat):Int)/\(sliceBounds lo hi none n).2.1=((HT.sIx n n hi:Nat):Int)/\(sliceBounds lo hi none n).2.2=1:=by
 refine ⟨?_,?_,rfl⟩
 ·cases lo with
  | none=>simp [sliceBounds,HT.sIx]
  | some i =>
   simp only [sliceBounds,HT.sIx,Option.getD_none,show (1:Int) > 0 by decide,if_true];by_cases h:i < 0
   ·simp only [h,if_true] <;> omega
   ·simp only [h,if_false] <;> omega
 ·cases hi with
  | none=>simp [sliceBounds,HT.sIx]
  | some i =>
   simp only [sliceBounds,HT.sIx,Option.getD_none,show (1:Int) > 0 by decide,if_true];by_cases h:i < 0
   ·simp only [h,if_true] <;> omega
   ·simp only [h,if_false] <;> omega
def vV (its:List Value) (lo hi:Option Int):slicePick its.toArray lo hi none=((its.drop (HT.sIx its.length 0 lo)).take (HT.sIx its.length its.length hi - HT.sIx its.length 0 lo)).toArray:=by
 obtain ⟨h1,h2,h3⟩:=xE lo hi its.toArray.size;unfold slicePick;rw [h1,h2,h3];simp only [sliceRange_one,pick_run,List.size_toArray] <;> rfl
def V6 (K:PySem.W.Frag):V->Option Int->Option Int->Hp->VK->Prop:=fun x lo hi H Q=>∃ a xs,x=.ref a/\jl K H a xs/\∀ p,H p=none->Q (.ref p) (dE H p (.lst (vX xs lo hi)))
def Je:AL X (V6 X.K):=by
 intro af s σ H x v vl vu lo hi sl Q I rx hs pl pu h;obtain ⟨a,xs,rfl,hx,q⟩:=h;cases rx;obtain ⟨its,r,ht,hz⟩:=I.list hx;have hlen:=r.length;refine ⟨"list",_,slot_list_getitem.lookup,ht.isList.typeIs,?_⟩;refine wpAny_getItem_list_slice ht.isList hs pl pu .none (by simp) ?_ (by rw [List.size_toArray] <;> omega);rw [vV,<- hlen];refine ⟨.ref s.heap.objs.size,_,I.laid (t':=s.toks) (o:=.lst (vX xs lo hi)) (fun b ob q=>Heap.get?_push_of_some _ q) (Nat.le_refl _) ?_,rfl,q _ (I.hok.fresh (Nat.le_refl _))⟩;exact ⟨Nat.le_trans (sr xs lo hi) hz,_,0,(r.drop (HT.sIx xs.length 0 lo)).take (HT.sIx xs.length xs.length hi - HT.sIx xs.length 0 lo),Heap.get?_push_size _ rfl⟩
def iO:V->Bool
 | .non=>true
 | .bl _=>true
 | .int _=>true
 | .str _=>true
 | _=>false
def En:V->V->Bool
 | .non,.non=>true
 | .bl a,.bl b=>a==b
 | .bl a,.int b=>(if a then 1 else 0)==b
 | .int a,.bl b=>a==(if b then 1 else 0)
 | .int a,.int b=>a==b
 | .str a,.str b=>a==b
 | _,_=>false
def Lh {A:Around} {s:Shared} {y x:V} {u v:Value} (ry:bw y u) (rx:bw x v) (fy:iO y=true) (fx:iO x=true):SeqAt.EqAt A s u v (En y x):=by
 cases y with
 | non =>
  cases ry;cases x with
  | non=>cases rx;exact SeqAt.EqAt.same _
  | bl b=>cases rx;exact SeqAt.EqAt.none_bool b
  | int b=>obtain ⟨t,rfl⟩:=rx;exact SeqAt.EqAt.none_int b t
  | str b=>obtain ⟨t,rfl⟩:=rx;exact SeqAt.EqAt.none_str b t
  | _=>exact absurd (show false=true from fx) Bool.false_ne_true
 | bl a =>
  cases ry;cases x with
  | non=>cases rx;exact SeqAt.EqAt.bool_none a
  | bl b=>cases rx;exact SeqAt.EqAt.bool_bool a b
  | int b=>obtain ⟨t,rfl⟩:=rx;exact SeqAt.EqAt.bool_int a b t
  | str b=>obtain ⟨t,rfl⟩:=rx;exact SeqAt.EqAt.bool_str a b t
  | _=>exact absurd (show false=true from fx) Bool.false_ne_true
 | int a =>
  obtain ⟨t',rfl⟩:=ry;cases x with
  | non=>cases rx;exact SeqAt.EqAt.int_none a t'
  | bl b=>cases rx;exact SeqAt.EqAt.int_bool a t' b
  | int b=>obtain ⟨t,rfl⟩:=rx;exact SeqAt.EqAt.int_int a t' b t
  | str b=>obtain ⟨t,rfl⟩:=rx;exact SeqAt.EqAt.int_str a t' b t
  | _=>exact absurd (show false=true from fx) Bool.false_ne_true
 | str a =>
  obtain ⟨t',rfl⟩:=ry;cases x with
  | non=>cases rx;exact SeqAt.EqAt.str_none a t'
  | bl b=>cases rx;exact SeqAt.EqAt.str_bool a t' b
  | int b=>obtain ⟨t,rfl⟩:=rx;exact SeqAt.EqAt.str_int a t' b t
  | str b=>obtain ⟨t,rfl⟩:=rx;exact SeqAt.EqAt.str_str a t' b t
  | _=>exact absurd (show false=true from fx) Bool.false_ne_true
 | _=>exact absurd (show false=true from fy) Bool.false_ne_true
def zI (x:V) (u:Value):Bool:=match u with
 | .none=>En .non x
 | .bool b=>En (.bl b) x
 | .int i _=>En (.int i) x
 | .str z _=>En (.str z) x
 | _=>false
def Bm {x y:V} {u:Value} (r:bw y u) (f:iO y=true):zI x u=En y x:=by
 cases y with
 | non=>cases r;rfl
 | bl b=>cases r;rfl
 | int i=>obtain ⟨t,rfl⟩:=r;rfl
 | str z=>obtain ⟨t,rfl⟩:=r;rfl
 | _=>exact absurd (show false=true from f) Bool.false_ne_true
def pT {x:V}:∀ {xs:List V} {us:List Value},bC xs us->xs.all iO=true->us.any (zI x)=xs.any fun y=>En y x
 | _,_,.nil,_=>rfl
 | y::xs,u::us,.cons r t,f=>by
  rw [List.all_cons,Bool.and_eq_true] at f;rw [List.any_cons,List.any_cons,Bm r f.1,pT t f.2]
def lv {A:Around} {s:Shared} {x:V} {v:Value} (rx:bw x v) (fx:iO x=true):∀ {xs:List V} {us:List Value},bC xs us->xs.all iO=true->∀ u∈us,SeqAt.EqAt A s u v (zI x u)
 | _,_,.nil,_=>fun u hu=>by cases hu
 | y::xs,u::us,.cons r t,f=>fun u' hu=>by
  rw [List.all_cons,Bool.and_eq_true] at f;rcases List.mem_cons.mp hu with rfl|hu
  ·rw [Bm r f.1];exact Lh r rx f.1 fx
  ·exact lv rx fx t f.2 u' hu
def FL (x:V) (xs:List V):Bool:=xs.any fun y=>En y x
def WN (K:PySem.W.Frag) (neg:Bool):R2:=fun x y H Q=>∃ p xs,y=.ref p/\(jl K H p xs\/mT K H p xs)/\iO x=true/\xs.all iO=true/\Q (.bl (if neg then !FL x xs else FL x xs)) H
def Dh:gf X (compareOp .In) (WN X.K false):=by
 intro af s σ H x y v u Q I rx ry h;obtain ⟨p,xs,rfl,hq,fx,fs,q⟩:=h;cases ry;rcases hq with hq|hq
 ·obtain ⟨its,r,pl,hz⟩:=I.list hq;refine SeqAt.in_listAt (zI x) pl.isList (fun w hw=>lv rx fx r fs w (by simpa using hw)) ⟨.bl _,H,I,rfl,?_⟩;rw [show its.toArray.any (zI x)=its.any (zI x) by simp,pT r fs];exact q
 ·obtain ⟨its,r,pl,hz⟩:=I.tuple hq;refine SeqAt.in_tupleAt (zI x) pl (fun w hw=>lv rx fx r fs w (by simpa using hw)) ⟨.bl _,H,I,rfl,?_⟩;rw [show its.toArray.any (zI x)=its.any (zI x) by simp,pT r fs];exact q
def xD:gf X (compareOp .NotIn) (WN X.K true):=by
 intro af s σ H x y v u Q I rx ry h;obtain ⟨p,xs,rfl,hq,fx,fs,q⟩:=h;cases ry;rcases hq with hq|hq
 ·obtain ⟨its,r,pl,hz⟩:=I.list hq;refine SeqAt.notIn_listAt (zI x) pl.isList (fun w hw=>lv rx fx r fs w (by simpa using hw)) ⟨.bl _,H,I,rfl,?_⟩;rw [show its.toArray.any (zI x)=its.any (zI x) by simp,pT r fs];exact q
 ·obtain ⟨its,r,pl,hz⟩:=I.tuple hq;refine SeqAt.notIn_tupleAt (zI x) pl (fun w hw=>lv rx fx r fs w (by simpa using hw)) ⟨.bl _,H,I,rfl,?_⟩;rw [show its.toArray.any (zI x)=its.any (zI x) by simp,pT r fs];exact q
def ya:bX X (.builtin "len") (fun xs H Q=>∃ p ys,xs=[.ref p]/\(jl X.K H p ys\/mT X.K H p ys)/\Q (.int ys.length) H):=by
 intro af s σ H xs us Q I r h;obtain ⟨p,ys,rfl,hq,q⟩:=h;obtain ⟨u,rfl,rx⟩:=gM r;cases rx;have hn:=qT;rcases hq with hq|hq
 ·obtain ⟨its,r',pl,hz⟩:=I.list hq;have hlen:=r'.length;exact Calls.call_len_list pl.isList (by simp only [List.size_toArray] <;> omega) ⟨.int ys.length,H,I.tok _,⟨s.toks+1,by rw [List.size_toArray,hlen]⟩,q⟩
 ·obtain ⟨its,r',pl,hz⟩:=I.tuple hq;have hlen:=r'.length;exact len_tuple pl (by simp only [List.size_toArray] <;> omega) ⟨.int ys.length,H,I.tok _,⟨s.toks+1,by rw [List.size_toArray,hlen]⟩,q⟩
def xZ:bX X (.builtin "len") (fun xs H Q=>∃ z,xs=[.str z]/\z.length<=sizeLine/\Q (.int z.length) H):=by
 intro af s σ H xs us Q I r h;obtain ⟨z,rfl,hz,q⟩:=h;obtain ⟨u,rfl,t,rfl⟩:=gM r;have hn:=qT;exact len_str (by omega) ⟨.int z.length,H,I.tok _,⟨_,rfl⟩,q⟩
def bX.or {f:Value} {r r':List V->Hp->VK->Prop} (h:bX X f r) (h':bX X f r'):bX X f (fun xs H Q=>r xs H Q\/r' xs H Q):=by
 intro af s σ H xs us Q I rs q;rcases q with q|q
 ·exact h af s σ H xs us Q I rs q
 ·exact h' af s σ H xs us Q I rs q
def vI:bX X (.type "tuple") (fun xs H Q=>∃ p ys,xs=[.ref p]/\((jl X.K H p ys/\∀ l,H l=none->Q (.ref l) (dE H l (.tup ys)))\/(mT X.K H p ys/\Q (.ref p) H))):=by
 intro af s σ H xs us Q I r h;obtain ⟨p,ys,rfl,h⟩:=h;obtain ⟨u,rfl,rx⟩:=gM r;cases rx;rcases h with ⟨hq,q⟩|⟨hq,q⟩
 ·obtain ⟨its,r',pl,hz⟩:=I.list hq;have hlen:=r'.length;refine call_tuple_list pl.isList (fun h' kp=>?_) (by simp only [List.size_toArray] <;> omega);have I1:Inv X af σ H { s with heap:=h' }:=I.kept (t':=s.toks) kp;have I2:Inv X af σ (dE H h'.objs.size (.tup ys)) { s with heap:=h'.push { cls:=.type "tuple",data:=.seq its.toArray } } :=
   I1.laid (t':=s.toks) (fun b o e=>Heap.get?_push_of_some _ e) (Nat.le_refl _) (show eO X.prog X.w _ _ _ (.tup ys) from ⟨hz,its,r',IsTup.new _ _⟩)
  exact ⟨.ref h'.objs.size,_,I2,rfl,q _ (I1.hok.fresh (Nat.le_refl _))⟩
 ·obtain ⟨its,r',pl,hz⟩:=I.tuple hq;exact call_tuple_same pl ⟨.ref p,H,I,rfl,q⟩
def UY (K:PySem.W.Frag) (T:String) (x:V) (H:Hp):Prop:=match x with
 | .str _=>T="str"
 | .int _=>T="int"
 | .ref p=>(T="list"/\∃ xs,jl K H p xs)\/(T="tuple"/\∃ o,K.lookup p=some o/\o.cls=.type "tuple"/\o.dict=none) \/
   (T="dict"/\((∃ kvs,H p=some (.dK kvs))\/∃ kvs,H p=some (.dT kvs)))\/(T="set"/\∃ S n,H p=some (.set S n))
 | _=>False
def LD {af:List (Addr×Obj)} {σ:St} {H:Hp} {s:Shared} {T:String} {x:V} {v:Value} (I:Inv X af σ H s) (r:bw x v) (ty:UY X.K T x H) :
  s.TypeIs v T/\∀ a,v=.ref a->∃ ob,s.heap.get? a=some ob/\ob.dict=none:=by
 cases x with
 | str z =>
  obtain ⟨t,rfl⟩:=r;cases (show T="str" from ty);exact ⟨typeIs_str s z t,fun _ e=>nomatch e⟩
 | int i =>
  obtain ⟨t,rfl⟩:=r;cases (show T="int" from ty);exact ⟨typeIs_int s i t,fun _ e=>nomatch e⟩
 | ref p =>
  cases r;rcases ty with ⟨rfl,xs,hq⟩|⟨rfl,o,hk,hc,hd⟩|⟨rfl,hk⟩|⟨rfl,S,n,hk⟩
  ·obtain ⟨its,_,pl,_⟩:=I.list hq;refine ⟨pl.isList.typeIs,fun a e=>?_⟩;cases e;obtain ⟨o,n,e,c,hd,_⟩:=pl;exact ⟨o,e,hd⟩
  ·refine ⟨⟨o,I.kIn p o hk,hc⟩,fun a e=>?_⟩;cases e;exact ⟨o,I.kIn _ o hk,hd⟩
  ·have z:∃ o,s.heap.get? p=some o/\o.ExactDict:=by
    rcases hk with ⟨kvs,hk⟩|⟨kvs,hk⟩
    ·obtain ⟨_,_,_,_,o,_,_,e,ex,_⟩:=I.hok p _ hk;exact ⟨o,e,ex⟩
    ·obtain ⟨_,_,_,_,o,_,_,e,ex,_⟩:=I.hok p _ hk;exact ⟨o,e,ex⟩
   obtain ⟨o,e,ex⟩:=z;refine ⟨⟨o,e,ex.1⟩,fun a e2=>?_⟩;cases e2;exact ⟨o,e,ex.2.1⟩
  ·obtain ⟨o,_,_,_,e,ex,_⟩:=I.hok p _ hk;refine ⟨⟨o,e,ex.1⟩,fun a e2=>?_⟩;cases e2;exact ⟨o,e,ex.2.1⟩
 | _=>exact False.elim ty
def V2 (K:PySem.W.Frag) (T:String) (r:V->List V->Hp->VK->Prop) (to:TE) (t:TA):TE:=fun σ H Q=>to σ H fun x H1=>UY K T x H1/\t σ H1 fun xs H2=>r x xs H2 Q
variable {o e:Expr} {es:List Expr} {to:TE} {t:TA} {name:Str} {apos cpos:Pos} {T id:String} {r:V->List V->Hp->VK->Prop}
def Rv (pa:PlainAttrs T) (slot:Slot T name id) (hty:typeOf (.builtin id)=pure (.type "method_descriptor")) (hm:U5 X id r) (ho:PE X o to) (ha:PA X (e::es) t)
  (hbase:attributeBase o name X.env (eval o X.env)=eval o X.env:=by rfl)
  (hfew:((backTo cpos (starEach (e::es) X.env)).all (fun x=>!x.1)&&(backToKw cpos (keywordEach [] X.env)).all (fun x=>x.1.isSome)
   && decide ((e::es).length+([]:List Keyword).length+(if ([]:List Keyword).isEmpty then 0 else 1) < 30))=true:=by rfl)
  (hline:(apos.endLine==cpos.line)=true:=by rfl) (hs:starEach (e::es) X.env=(false,eval e X.env)::starEach es X.env:=by rfl) (hplain:(backTo cpos (starEach es X.env)).any (·.1)=false:=by rfl) :
  PE X (.Call (.Attribute o name apos) (e::es) [] cpos) (V2 X.K T r to t):=by
 intro af s σ H Q I h;refine wpAny_Call_method_late hbase hfew hline rfl (eB (ho af s σ H _ I h) fun v s1 ⟨x,H1,I1,r1,ty,q1⟩=>?_);obtain ⟨h1,h2⟩:=LD I1 r1 ty;refine ⟨T,id,pa,slot,hty,h1,h2,?_⟩;have hA:=ha cpos af s1 σ H1 _ I1 q1;rw [hs] at hA ⊢;refine Calls.callWith_builtin (by show (false||(backTo cpos (starEach es X.env)).any (·.1))=false;rw [hplain] <;> rfl) (Calls.evalArgs_plain ?_)
 exact eB hA fun us s2 hh=>mP hh fun vs H2 I2 r2 q2=>hm af s2 σ H2 x vs v us Q I2 r1 r2 q2
end
def MtM (X:Cx) (id:String) (r:V->List V->Hp->VK->Prop):Prop :=
 ∀ (af:List (Addr×Obj)) (s:Shared) (σ:St) (H:Hp) (x:V) (xs:List V) (v:Value) (us:List Value) (Q:VK),Inv X af σ H s->bw x v->bC xs us->r x xs H Q ->
  wpAny (model X.prog X.w) X.A (call (.builtin id) (v::us)) (EP X af σ Q) X.xe s
def bC.one:∀ {x:V} {us:List Value},bC [x] us->∃ u,us=[u]/\bw x u
 | _,_,.cons r .nil=>⟨_,rfl,r⟩
section
variable {X:Cx} {af:List (Addr×Obj)} {σ:St} {H:Hp} {s:Shared} {l b:Addr} {xs ys zs:List V}
def Inv.lset {its its':List Value} {n:Nat} {f:Array Value->Array Value} {t':Nat} (I:Inv X af σ H s) (hH:H l=some (.lst xs))
  (e:s.heap.get? l=some { cls:=.type "list",data:=.seq its.toArray n }) (hf:f its.toArray=its'.toArray) (hv:bC ys its') (hz:ys.length<=sizeLine) (ht:X.tn<=t':=by walk_at "tok") :
  Inv X af σ (dE H l (.lst ys)) { s with heap:=s.heap.update l (Obj.mapSeq f),toks:=t' }:=by
 have q:=PySem.IsL.update e f;rw [hf] at q;refine I.write (x:=l) (e:=l) (by rw [hH];exact trivial) (.inl rfl) (fun b' u hb hu=>(Heap.get?_update_other s.heap (Obj.mapSeq f) (Ne.symm hb)).trans hu) ⟨_,q⟩ ?_;exact ⟨hz,its',_,hv,q⟩
def Inv.lnew {its:List Value} {t':Nat} (I:Inv X af σ H s) (hv:bC ys its) (hz:ys.length<=sizeLine) (ht:X.tn<=t':=by walk_at "tok") :
  Inv X af σ (dE H s.heap.objs.size (.lst ys)) { s with heap:=s.heap.push { cls:=.type "list",data:=.seq its.toArray },toks:=t' } :=
 I.laid (fun _ _ q=>Heap.get?_push_of_some _ q) (Nat.le_refl _) ⟨hz,its,0,hv,Heap.get?_push_size _ rfl⟩
def Inv.fresh (I:Inv X af σ H s):H s.heap.objs.size=none:=I.hok.fresh (Nat.le_refl _)
def Inv.lstM (I:Inv X af σ H s) (hH:H l=some (.lst xs)):xs.length<=sizeLine/\∃ (its:List Value) (n:Nat),bC xs its/\xs.length=its.length/\s.heap.get? l=some { cls:=.type "list",data:=.seq its.toArray n }:=by
 obtain ⟨z,its,n,r,e⟩:=I.hok l _ hH;exact ⟨z,its,n,r,r.length,e⟩
end
section
variable {X:Cx}
def yb:V->List V->Hp->VK->Prop:=fun x vs H Q=>∃ l xs y,x=.ref l/\vs=[y]/\H l=some (.lst xs)/\xs.length < sizeLine/\Q .non (dE H l (.lst (xs++[y])))
def qO:MtM X "list.append" yb:=by
 intro af s σ H x vs v us Q I rx rv h;obtain ⟨l,xs,y,rfl,rfl,hH,hz,q⟩:=h;cases rx;obtain ⟨u,rfl,ru⟩:=rv.one;obtain ⟨z,its,n,r,hl,e⟩:=I.lstM hH;refine call_meets F.slot_list_append ⟨_,e,rfl⟩ F.entry_list_append (F.args_list_append_2 _ _) (PySem.list_append l its.toArray n u (by rw [List.size_toArray];omega)) ⟨e,?_⟩;refine ⟨.non,_,I.lset (its':=its++[u]) hH e (by simp) (r.append (.cons ru .nil)) ?_,rfl,q⟩;rw [List.length_append,List.length_singleton];omega
end
section
variable {prog:Program} {w:World} {A:Around} {E:Value->Shared->Prop} {s:Shared}
set_option maxRecDepth 100000 in
end
end L2
namespace Att
open PySem PySem.W PySem.Calls PyProof.Rows
def sU {P:Params} {h:Heap}:∀ (ns:List Int) (vs:List Value),WellAll P h vs (ns.map WData.int)->IntsAre vs ns:=by
 intro ns;induction ns with
 | nil =>
  intro vs w;rw [List.map_nil] at w;cases w;exact .nil
 | cons n ns ih =>
  intro vs w;rw [List.map_cons] at w;cases w with
  | cons a b =>
   cases a;exact .cons _ _ (ih _ b)
def D8 {l:OpenLaw} {n:Nat} (hn:l.most=some n) {P:Params} {h:Heap} {args:List WData} {vals:List Value}
  (hpre:l.row.toRowW.claim.pre args=true) (hwl:WellAll P h vals args) :
  ∃ a vs ns,vals=[Value.ref a]/\args=[WData.list (ns.map WData.int)]/\h.get? a=some { cls:=.type "list",data:=.seq vs.toArray }/\IntsAre vs ns/\ns.length<=n:=by
 have hsh:WShape.hasAll [] args [.list .int]=true:=(pre_splitW hpre).1;have hc:l.pre.holds [] { args:=args }=true:=(pre_splitW hpre).2;obtain ⟨d,r,rfl,h1,h2⟩:=hasAllW_cons hsh;obtain rfl:=hasAllW_nil h2;obtain ⟨xs,rfl,h3⟩:=hasW_list h1;obtain ⟨ns,rfl⟩:=items_int h3;have hlen:ns.length<=n:=by
  unfold OpenLaw.pre at hc;have h4:(WTm.not (.lt (.lit (.int (n:Int))) (.len (.arg 0)))).holds [] { args:=[.list (ns.map .int)] }=true:=by
   have h4:=(holds_andW hc).1;rw [hn] at h4;exact h4
  have h5:=condW_of h4 (w_not (w_lt w_lit (w_len_list (w_arg rfl))));rw [List.length_map] at h5;refine Nat.le_of_not_lt fun q=>?_;have q':(n:Int) < ((ns.length:Nat):Int):=by omega
  first
   | (rw [decide_eq_true q'] at h5;exact absurd h5 (by decide))
   | (simp at h5;omega)
 cases hwl with
 | cons w1 w2 =>
  cases w2;cases w1 with
  | list ho hall=>exact ⟨_,_,ns,rfl,rfl,ho,sU ns _ hall,hlen⟩
def DZ (l:OpenLaw) (args:List WData):l.row.toRowW.claim.post args (.bool true) args=true :=
 postW_of (r:=l.row.toRowW) (X:=(true==true))
  (show WShape.has [] (.bool true) .bool=true by first|rfl|decide|simp [WShape.has,WShape.arms,WShape.armsAll])
  (show (WTm.eq .res (.lit (.bool true))).value [] { args:=args,res:=some (.bool true),after:=args }=some (.bool (true==true)) from w_eq_bool (w_res rfl) w_lit) rfl
def zR {l:OpenLaw} {n:Nat} {q:Program} {loose:List Str} {XP:(Str->Option Value)->Heap->Prop} {YP:World->Heap->Prop} {d:DefRec}
  (hn:l.most=some n) (hdf:d.params.defaults=[])
  (call:∀ (w:World) (s₀ s₁:Shared) (mg mb:Str->Option Value) (fa:Addr) (o:Obj) (pm cd doc:Value) (a:Addr) (vs:List Value) (ns:List Int),
   Ground q loose [] XP w s₀ mg mb s₁.heap->YP w s₁.heap ->
   s₁.heap.get? fa=some o->o.data=.func (docDef d.name d.params d.body d.scope pm cd doc)->s₁.heap.CodeRec cd d.name->mg d.name=some (.ref fa) ->
   s₁.heap.get? a=some { cls:=.type "list",data:=.seq vs.toArray }->IntsAre vs ns->ns.length<=n->s₁.gens=#[] ->
   codeAny (model l.prog w) callerA (.call (.ref fa) ⟨[.ref a],[]⟩) (fun r s'=>r=.ok (.ret (.bool true))/\OldK s₁.heap s'.heap/\s'.os=s₁.os/\AllBare s'.gens) s₁) :
  WalkO q loose XP YP l.row.toRowW d [] (fun f vs=>PySem.call f vs):=by
 intro w s₀ s₁ mg mb G Y fa o pm cd doc dV kV ho hd hcd hD hmg hg args vals as hpre hlay hrd hwl hlo;obtain rfl:dV=.none:=Dflts.none hD hdf;obtain rfl:kV=.none:=Dflts.noKw hD;obtain ⟨a,vs,ns,rfl,rfl,hobj,hints,hlen⟩:=D8 hn hpre hwl;refine enter_call (codeAny_mono (call w s₀ s₁ mg mb fa o pm cd doc a vs ns G Y ho (fd_plain hd) hcd hmg hobj hints hlen hg) fun r s' hq=>?_);obtain ⟨rfl,h2,h3,h4⟩:=hq;exact ⟨.inl ⟨.bool true,.bool true,[],rfl,fun _=>rfl,.bool true,DZ l _,fun _=>⟨List.Pairwise.nil,fun _ hm=>(nomatch hm)⟩⟩,h2,h3,h4⟩
end Att
namespace L2
open PySem PySem.Spec PyProof.Rows
def wz:∀ {vs:List Value} {ns:List Int},IntsAre vs ns->bC (ns.map V.int) vs
 | _,_,.nil=>.nil
 | _,_,.cons n t h=>.cons ⟨t,rfl⟩ (wz h)
def MD (H:Hp):Prop:=∀ b,H b=none\/∃ o xs,H b=some (.frz o (.lst xs))
def EL {P:Program} {w:World} {K:PySem.W.Frag} {mg mb:Str->Option Value} {CX:yJ} {k:Nat} {fa a:Addr} {fd:FuncData} {x:Str} {sp:Sp} {s₁:Shared} {vs:List Value} {ns:List Int}
  (KX:K.In s₁.heap) (hns:s₁.heap.Ns mainGlobals mg) (hb:s₁.heap.Ns builtinsNs mb) (hbb:∀ x:Str,x≠"__name__"->mb x=bootBuiltins x) (hlim:s₁.heap.NoLimit) (hg:s₁.gens=#[])
  (ha:s₁.heap.get? a=some { cls:=.type "list",data:=.seq vs.toArray }) (hi:IntsAre vs ns) (hl:ns.length<=sizeLine) (hr:Room k callerA)
  (F:∀ base:Heap,K.In base->base.Ns mainGlobals mg->FnOk P w K mg base CX k fa fd [x] sp) (hbind:∀ (s:Shared) (u:Value),BindsTo s fd ⟨[u],[]⟩ [(x,u)])
  (hsp:∀ H:Hp,MD H->jl K H a (ns.map V.int)->sp [.ref a] H (fun v _=>v=.bl true) fun _ _ _=>False)
  (hCX:∀ H e s',CX [] H s₁ (fun _ _ _=>False) e s'->False) :
  codeAny (model P w) callerA (.call (.ref fa) ⟨[.ref a],[]⟩) (fun r s'=>r=.ok (.ret (.bool true))/\OldK s₁.heap s'.heap/\s'.os=s₁.os/\AllBare s'.gens) s₁:=by
 have rv:=wz hi;have lenV:=hi.length
 -- from an abstract heap in which nothing but the script may be tracked
 have core:∀ H:Hp,MD H->jl K H a (ns.map V.int)->r8 P w H s₁.heap->(∀ b,H b≠none->b=a)->(H a≠none->K.lookup a=none) ->
   codeAny (model P w) callerA (.call (.ref fa) ⟨[.ref a],[]⟩) (fun r s'=>r=.ok (.ret (.bool true))/\OldK s₁.heap s'.heap/\s'.os=s₁.os/\AllBare s'.gens) s₁:=by
  intro H hO hS hok hA hK;have base_of:∀ {b:Addr} {o:Obj},s₁.heap.get? b=some o->H b=none->(yq s₁.heap H).get? b=some o:=fun e n=>EX e n;have noA:∀ {b:Addr} {o:Obj} {es:Array DictEntry} {ep:Nat},s₁.heap.get? b=some o->o.data=.dict es ep->H b=none:=fun {b o es ep} e d=>by
   cases q:H b with
   | none=>rfl
   | some u =>
    have e':b=a:=hA b (by rw [q];simp);subst e';rw [ha] at e;cases e;have d':Data.seq vs.toArray _=Data.dict es ep:=d;cases d'
  have nsK:∀ {b:Addr} {m:Str->Option Value},s₁.heap.Ns b m->(yq s₁.heap H).Ns b m:=fun {b m} ⟨o,es,ep,e,d,r⟩=>⟨o,es,ep,base_of e (noA e d),d,r⟩;have hKb:K.In (yq s₁.heap H):=fun b o e=>base_of (KX b o e) (by
   cases q:H b with
   | none=>rfl
   | some u =>
    have e':b=a:=hA b (by rw [q];simp);subst e';rw [hK (by rw [q];simp)] at e;cases e)
  have hM:Mod K mg (yq s₁.heap H):=⟨hKb,nsK hns,⟨mb,nsK hb,hbb⟩,let ⟨mc,h1,h2⟩:=hlim;⟨mc,nsK h1,h2⟩⟩;have e0:Env0 P w K mg (yq s₁.heap H) callerA [] s₁ H:=⟨rfl,hM,fun b o e=>HI e,Nat.le_of_eq (D5 _ _),trivial,fun b hb=>absurd (show b∈([]:List Addr) from hb) (by simp),hok,.of_eq hg⟩;refine codeAny_mono ((F _ hKb (nsK hns)).run callerA [] s₁ H ⟨[.ref a],[]⟩ [.ref a] [.ref a] _ _ hr e0 (hbind s₁ (.ref a)) (.cons rfl .nil) (hsp H hO hS)) fun r s' h=>?_;cases r with
  | error e=>exact (hCX H e s' h).elim
  | ok fl =>
   cases fl with
   | next=>exact False.elim h
   | brk=>exact False.elim h
   | cont=>exact False.elim h
   | ret u =>
    obtain ⟨v,H',os,bare,un,hok',r',q⟩:=h;have q':v=.bl true:=q;subst q';obtain rfl:u=Value.bool true:=r';refine ⟨rfl,OldK.of_keep fun b o e=>?_,os,bare⟩;cases q:H b with
    | none=>exact un.keep b o e q (by intro z;exact absurd (show b∈([]:List Addr) from z) (by simp)) (by simp)
    | some u =>
     rcases hO b with z|⟨ob,xs,z⟩
     ·rw [q] at z;cases z
     ·have z2:=un.frzs b ob _ z;obtain ⟨e1,_⟩:=hok b _ z;obtain ⟨e2,_⟩:=hok' b _ z2;rw [e] at e1;cases e1;exact e2
 cases hk:K.lookup a with
 | some o =>
  -- the script is one of the module's own objects
  have e:=KX a o hk;rw [ha] at e;cases e;refine core (fun _=>none) (fun _=>.inl rfl) (.inr ⟨_,vs.toArray,_,hk,rfl,rfl,rfl,by rw [List.size_toArray,lenV];exact hl,by simpa using rv⟩) (fun b u z=>by have z':(none:Option HO)=some u:=z;cases z') (fun b z=>absurd rfl z) fun z=>absurd rfl z
 | none =>
  refine core (fun b=>if b=a then some (.frz { cls:=.type "list",data:=.seq vs.toArray } (.lst (ns.map V.int))) else none) (fun b=>?_) (.inl (.inr ⟨{ cls:=.type "list",data:=.seq vs.toArray },if_pos rfl⟩)) (fun b u z=>?_) (fun b z=>?_) fun _=>hk
  ·by_cases hb:b=a
   ·exact .inr ⟨_,_,if_pos hb⟩
   ·exact .inl (if_neg hb)
  ·by_cases hb:b=a
   ·have z':=(if_pos hb).symm.trans z;cases z';subst hb;exact ⟨ha,by rw [List.length_map];exact hl,vs,_,rv,ha⟩
   ·have z':=(if_neg hb).symm.trans z;cases z'
  ·by_cases hb:b=a
   ·exact hb
   ·exact absurd (if_neg hb) z
def G4 {l:PySem.W.OpenLaw} {n k:Nat} {q:Program} {loose:List Str} {XP:(Str->Option Value)->Heap->Prop} {YP:World->Heap->Prop} {d:DefRec} {K:Params->PySem.W.Frag} {CX:World->yJ} {sp:World->Sp} {x:Str}
  (hn:l.most=some n) (hn2:n<=sizeLine) (hdf:d.params.defaults=[]) (hr:Room k callerA)
  (hY:∀ (w:World) (h:Heap),YP w h->(K w.params).In h)
  (F:∀ (w:World) (mg:Str->Option Value) (fa:Addr) (h:Heap),(K w.params).In h->h.Ns mainGlobals mg->mg d.name=some (.ref fa) ->
   ∃ fd:FuncData,(∀ (s:Shared) (u:Value),BindsTo s fd ⟨[u],[]⟩ [(x,u)]) /\
    ∀ base:Heap,(K w.params).In base->base.Ns mainGlobals mg->FnOk l.prog w (K w.params) mg base (CX w) k fa fd [x] (sp w))
  (hsp:∀ (w:World) (H:Hp) (a:Addr) (ns:List Int),ns.length<=n->MD H->jl (K w.params) H a (ns.map V.int)->sp w [.ref a] H (fun v _=>v=.bl true) fun _ _ _=>False)
  (hCX:∀ (w:World) (H:Hp) (s:Shared) (e:Value) (s':Shared),CX w [] H s (fun _ _ _=>False) e s'->False) :
  PySem.W.WalkO q loose XP YP l.row.toRowW d [] (fun f vs=>PySem.call f vs):=by
 refine Att.zR hn hdf fun w s₀ s₁ mg mb fa o pm cd doc a vs ns G Y ho hd hcd hmg hobj hints hlen hg=>?_;have KX:=hY w _ Y;obtain ⟨fd,hb,hF⟩:=F w mg fa _ KX G.T.g hmg;exact EL KX G.T.g G.T.b G.T.builtins G.T.nolimit hg hobj hints (Nat.le_trans hlen hn2) hr hF hb (fun H hO hS=>hsp w H a ns hlen hO hS) fun H e s'=>hCX w H s₁ e s'
def kx (s:Stmt):Arguments:=match s with
 | .FunctionDef _ a _ _ _ _ _ _ _ _=>a
 | _=>{ posonlyargs:=[],args:=[],vararg:=none,kwonlyargs:=[],kw_defaults:=[],kwarg:=none,defaults:=[] }
def cR (s:Stmt):List Stmt:=match s with
 | .FunctionDef _ _ b _ _ _ _ _ _ _=>b
 | _=>[]
def ap (s:Stmt):Scope:=match s with
 | .FunctionDef _ _ _ _ _ _ sc _ _ _=>sc
 | _=>{ kind:=.function,names:=[],isGenerator:=false,isCoroutine:=false }
abbrev gW:yJ:=fun _ _ _ _ _ _=>False
abbrev E0:XK:=fun _ _ _=>False
def Qe {X:Cx}:F7 gW X E0:=fun _ _ _ _ _ _ _ h=>h.elim
structure Fun (K:PySem.W.Frag) (x qual:Str) (st:Stmt) (f:Addr) (fd:FuncData):Prop where
 ex:∃ (oc:Value) (od:Option Addr) (kV doc pm:Value) (an:Option Addr) (cdv ct:Value) (osl:Array (Option Value)),
  fd=PySem.W.fnOf x qual (kx st) (cR st) (ap st) .none kV doc pm an cdv ct/\K.lookup f=some ⟨oc,od,.func fd,osl⟩/\PySem.W.codeIn K cdv qual=true
 kp:PySem.W.keepIn K (.ref f)=true
section
variable {P:Program} {w:World} {K:PySem.W.Frag} {mg:Str->Option Value} {base:Heap}
theorem Fun.ok {x qual:Str} {st:Stmt} {f:Addr} {fd:FuncData} {N ps:List Str} {k:Nat} {sp:Sp} (F:Fun K x qual st f fd) (S:FnScope N ps (ap st)) (len:∀ vs H Q E,sp vs H Q E->vs.length=ps.length)
  (hbody:∀ (cdv:Value) (A:Around) (outer:List Env) (s:Shared) (H:Hp) (vs:List V) (Q:VK) (E:XK),Room k (A.deeper (envOfC qual (ap st) s.heap.objs.size f cdv))->sp vs H Q E ->
   ∃ t,Ag (lc gW P w K mg base N qual (ap st) f cdv A outer s H E).nox (cR st) t/\t { nx:=fun _ H'=>Q .non H',rt:=Q } (start N vs) H):FnOk P w K mg base gW (k+1) f fd ps sp:=by
 obtain ⟨oc,od,kV,doc,pm,an,cdv,ct,osl,rfl,lk,hcd⟩:=F.ex;refine JU lk hcd S len fun A outer s H vs Q E hr hsp=>?_;obtain ⟨t,h,q⟩:=hbody cdv A outer s H vs Q E hr hsp;exact ⟨t,h.nox,q⟩
def Fun.binds {x qual:Str} {st:Stmt} {f:Addr} {fd:FuncData} {ps:List Str} (F:Fun K x qual st f fd)
  (h:∀ (kV doc pm:Value) (an:Option Addr) (cdv ct:Value) (us:List Value),us.length=ps.length->bindArgs (PySem.W.fnOf x qual (kx st) (cR st) (ap st) .none kV doc pm an cdv ct) ⟨us,[]⟩=pure (ps.zip us)):uz K fd ps []:=by
 obtain ⟨oc,od,kV,doc,pm,an,cdv,ct,osl,rfl,lk,hcd⟩:=F.ex;exact .all (h kV doc pm an cdv ct)
def LJ {x qual:Str} {st:Stmt} {f:Addr} {oc:Value} {od an:Option Addr} {osl:Array (Option Value)} {kV doc pm cdv ct:Value} (l:K.lookup f=some ⟨oc,od,.func (PySem.W.fnOf x qual (kx st) (cR st) (ap st) .none kV doc pm an cdv ct),osl⟩)
  (c:PySem.W.codeIn K cdv qual=true) (k:PySem.W.keepIn K (.ref f)=true):Fun K x qual st f (PySem.W.fnOf x qual (kx st) (cR st) (ap st) .none kV doc pm an cdv ct):=⟨⟨oc,od,kV,doc,pm,an,cdv,ct,osl,rfl,l,c⟩,k⟩
end
def aD (H H':Hp):Prop:=∀ b o,H b=some o->H' b=some o
def aD.refl (H:Hp):aD H H:=fun _ _ h=>h
def aD.trans {H H1 H2:Hp} (a:aD H H1) (b:aD H1 H2):aD H H2:=fun c o h=>b c o (a c o h)
def aD.free {H H':Hp} (e:aD H H') {l:Addr} (h:H' l=Option.none):H l=Option.none:=by
 cases q:H l with
 | none=>rfl
 | some o =>
  rw [e l o q] at h;cases h
def aD.seq {K:PySem.W.Frag} {H H':Hp} {a:Addr} {xs:List V} (e:aD H H') (h:jl K H a xs):jl K H' a xs:=by
 rcases h with (h|⟨o,h⟩)|h
 ·exact .inl (.inl (e _ _ h))
 ·exact .inl (.inr ⟨o,e _ _ h⟩)
 ·exact .inr h
end L2
namespace L2
open PySem PySem.W PySem.W.X PySem.W.ZRun
def walkX {q:Program} {loose:List Str} {XP:(Str->Option Value)->Heap->Prop} {K:Params->Frag} {as:List Addr} {n t:Nat} {r:RowW} {d:DefRec} {kwd:List (Str×Expr)} {run:Value->List Value->Sem Value}
  (e:∀ P,as=(K P).map (·.1)) (h:WalkO q loose XP (fun w h=>(K w.params).In h) r d kwd run):WalkX q loose XP (obsZ as) (valZ K n t) r d kwd run :=
 fun w s₀ s₁ mg mb G y a o pm cd doc dV kV h1 h2 h3 h4 h5 h6 args vals as L hp hl hr hw hs =>
  h w s₀ s₁ mg mb G (InK.keeps w s₀.heap s₁.heap (z_facts e y).2.1 L.keeps) a o pm cd doc dV kV h1 h2 h3 h4 h5 h6 args vals as hp hl hr hw hs
def pw {α:Type} {P:List α->Prop} (h:∀ a,P [a]):∀ us:List α,us.length=1->P us:=fun us e=>by
 obtain ⟨a,rfl⟩:=List.length_eq_one_iff.mp e;exact h a
def lnS {α:Type} {P:List α->Prop} {n:Nat} (h:∀ a us,us.length=n->P (a::us)):∀ us:List α,us.length=n+1->P us:=fun us e=>by
 cases us with
 | nil=>cases e
 | cons a us=>exact h a us (Nat.succ.inj e)
def Er {α:Type} {P:List α->Prop} (h:∀ a b,P [a,b]):∀ us:List α,us.length=2->P us:=lnS fun a=>pw fun b=>h a b
end L2
namespace L2
open PySem PySem.Spec PyProof.Rows
def fc (cells:List (Str×Addr)):List (Str×NameKind)->List (Str×Addr)->List (Str×Addr)
 | [],acc=>acc
 | (n,k)::r,acc=>if k=.free then fc cells r ((n,(cells.lookup n).getD 0)::acc) else fc cells r acc
def jh {scope:Scope} {env:Env} (h:∀ y∈scope.names,y.2=.free->∃ c,env.cells.lookup y.1=some c):closureFor scope env=pure (fc env.cells scope.names []):=by
 simp only [closureFor];generalize ([]:List (Str×Addr))=acc;revert h
 generalize scope.names=names;intro h;induction names generalizing acc with
 | nil=>rfl
 | cons y r ih =>
  obtain ⟨n,k⟩:=y;have ih':=fun acc=>ih acc fun z hz=>h z (List.mem_cons_of_mem _ hz);by_cases hk:k=.free
  ·subst hk;obtain ⟨c,hc⟩:=h (n,.free) List.mem_cons_self rfl;have hc:env.cells.lookup n=some c:=hc;have e1:cellOf env n=pure c:=by unfold cellOf;rw [hc]
   have e2:fc env.cells ((n,.free)::r) acc=fc env.cells r ((n,c)::acc):=by
    show (if NameKind.free=.free then _ else _)=_;rw [if_pos rfl,hc];rfl
   rw [e2,<- ih' ((n,c)::acc),List.forIn_cons];simp only [beq_self_eq_true,if_true,e1];rfl
  ·have hb:(k==NameKind.free)=false:=by simpa using hk
   have e2:fc env.cells ((n,k)::r) acc=fc env.cells r acc:=by
    show (if k=.free then _ else _)=_;rw [if_neg hk]
   rw [e2,<- ih' acc,List.forIn_cons];simp only [hb,Bool.false_eq_true,if_false];rfl
def yD {cells:List (Str×Addr)} {x:Str} {c:Addr}:∀ (names:List (Str×NameKind)) (acc:List (Str×Addr)),(∀ y∈names,y.2=.free->∃ c,cells.lookup y.1=some c) ->
  (fc cells names acc).lookup x=some c->cells.lookup x=some c\/acc.lookup x=some c
 | [],acc,_,e=>.inr e
 | (n,k)::r,acc,h,e=>by
  have hr:∀ y∈r,y.2=.free->∃ c,cells.lookup y.1=some c:=fun y hy=>h y (List.mem_cons_of_mem _ hy);by_cases hk:k=.free
  ·subst hk;have e2:fc cells ((n,.free)::r) acc=fc cells r ((n,(cells.lookup n).getD 0)::acc):=by
    show (if NameKind.free=.free then _ else _)=_;rw [if_pos rfl]
   rw [e2] at e;rcases yD r _ hr e with z|z
   ·exact .inl z
   ·rw [List.lookup_cons] at z;cases hx:x==n with
    | true =>
     rw [hx] at z;have hxn:x=n:=eq_of_beq hx;obtain ⟨c',hc⟩:=h (n,.free) List.mem_cons_self rfl;have hc:cells.lookup n=some c':=hc;rw [hc] at z;left
     rw [hxn,hc];exact z
    | false =>
     rw [hx] at z;exact .inr z
  ·have e2:fc cells ((n,k)::r) acc=fc cells r acc:=by
    show (if k=.free then _ else _)=_;rw [if_neg hk]
   rw [e2] at e;exact yD r acc hr e
def pM {cells:List (Str×Addr)} {x:Str}:∀ (names:List (Str×NameKind)) (acc:List (Str×Addr)),((x,NameKind.free)∈names\/∃ c,acc.lookup x=some c)->∃ c,(fc cells names acc).lookup x=some c
 | [],acc,h=>by
  rcases h with h|h
  ·cases h
  ·exact h
 | (n,k)::r,acc,h=>by
  by_cases hk:k=.free
  ·subst hk;have e2:fc cells ((n,.free)::r) acc=fc cells r ((n,(cells.lookup n).getD 0)::acc):=by
    show (if NameKind.free=.free then _ else _)=_;rw [if_pos rfl]
   rw [e2];refine pM r _ ?_;rcases h with h|⟨c,h⟩
   ·rcases List.mem_cons.mp h with h|h
    ·cases h;exact .inr ⟨_,by rw [List.lookup_cons,beq_self_eq_true]⟩
    ·exact .inl h
   ·right
    rw [List.lookup_cons];cases x==n with
    | true=>exact ⟨_,rfl⟩
    | false=>exact ⟨c,h⟩
  ·have e2:fc cells ((n,k)::r) acc=fc cells r acc:=by
    show (if k=.free then _ else _)=_;rw [if_neg hk]
   rw [e2];refine pM r acc ?_;rcases h with h|h
   ·rcases List.mem_cons.mp h with h|h
    ·cases h;exact absurd rfl hk
    ·exact .inl h
   ·exact .inr h
structure Bk where
 cl:List (Str×Addr)
 C:Addr
 s:Shared
 H:Hp
 fp:List Addr
 af:List (Addr×Obj)
def jL (X:Cx) (N:List Str) (scope:Scope) (b:Bk):Cx :=
 { X with tn:=0,N:=N,s₀:=b.s,H₀:=b.H,env:=compEnvC scope b.cl b.C X.env,outer:=X.stack,stack:=X.stack,ex:=b.fp,fn:=fun _=>false,pn:=X.pn++b.af,xe:=fun _ _=>False }
def uG (ON:List Str) (names:List (Str×NameKind)):List (Option Nat)->List Str->Bool
 | [],[]=>true
 | none::r,_::n=>uG ON names r n
 | some j::r,x::n=>decide (ON[j]?=some x)&&decide ((x,NameKind.free)∈names)&&uG ON names r n
 | _,_=>false
def Bz (osc:Scope) (ON N:List Str) (ix:List (Option Nat)) (scope:Scope):Bool :=
 decide (scope.kind=.function)&&(scope.names.all fun y=>decide (y.2≠.cell))&&(scope.names.all fun y=>decide (y.2=.local->scope.names.lookup y.1=some .local)) &&
 (scope.names.all fun y=>decide (y.2=.free->osc.names.lookup y.1=some .cell\/osc.names.lookup y.1=some .free))&&(scope.names.all fun y=>decide (y.2=.local->(y.1,NameKind.free)∉scope.names))&&uG ON scope.names ix N
structure CScope (osc:Scope) (ON N:List Str) (ix:List (Option Nat)) (scope:Scope):Prop where
 kind:scope.kind=.function
 nocell:∀ y∈scope.names,y.2≠.cell
 names:∀ y∈scope.names,y.2=.local->scope.names.lookup y.1=some .local
 outs:∀ y∈scope.names,y.2=.free->osc.names.lookup y.1=some .cell\/osc.names.lookup y.1=some .free
 nolf:∀ x,(x,NameKind.local)∈scope.names->(x,NameKind.free)∈scope.names->False
 len:ix.length=N.length
 cap:∀ (i j:Nat) (x:Str),ix[i]?=some (some j)->N[i]?=some x->ON[j]?=some x/\(x,NameKind.free)∈scope.names
def qW {ON:List Str} {names:List (Str×NameKind)}:∀ {ix:List (Option Nat)} {N:List Str},uG ON names ix N=true->ix.length=N.length
 | [],[],_=>rfl
 | none::r,_::n,h=>congrArg Nat.succ (qW (ix:=r) (N:=n) h)
 | some j::r,x::n,h=>by
  have h':(decide (ON[j]?=some x)&&decide ((x,NameKind.free)∈names)&&uG ON names r n)=true:=h;rw [Bool.and_eq_true] at h';exact congrArg Nat.succ (qW h'.2)
 | [],_::_,h=>by cases h
 | none::_,[],h=>by cases h
 | some _::_,[],h=>by cases h
def rj {ON:List Str} {names:List (Str×NameKind)}:∀ {ix:List (Option Nat)} {N:List Str},uG ON names ix N=true->∀ (i j:Nat) (x:Str),ix[i]?=some (some j)->N[i]?=some x->ON[j]?=some x/\(x,NameKind.free)∈names
 | [],_,_,i,j,x,h1,_=>by simp at h1
 | none::r,y::n,h,0,j,x,h1,_=>by simp at h1
 | none::r,y::n,h,i+1,j,x,h1,h2=>rj (ix:=r) (N:=n) h i j x (by simpa using h1) (by simpa using h2)
 | some k::r,y::n,h,i,j,x,h1,h2=>by
  have h':(decide (ON[k]?=some y)&&decide ((y,NameKind.free)∈names)&&uG ON names r n)=true:=h;rw [Bool.and_eq_true,Bool.and_eq_true] at h';cases i with
  | zero =>
   simp only [List.getElem?_cons_zero,Option.some.injEq] at h1 h2;subst h1 h2;exact ⟨of_decide_eq_true h'.1.1,of_decide_eq_true h'.1.2⟩
  | succ i=>exact rj h'.2 i j x (by simpa using h1) (by simpa using h2)
 | none::_,[],h,_,_,_,_,_=>by cases h
 | some _::_,[],h,_,_,_,_,_=>by cases h
def Fi {osc:Scope} {ON N:List Str} {ix:List (Option Nat)} {scope:Scope} (h:Bz osc ON N ix scope=true):CScope osc ON N ix scope:=by
 unfold Bz at h;simp only [Bool.and_eq_true] at h;obtain ⟨⟨⟨⟨⟨h1,h2⟩,h3⟩,h4⟩,h5⟩,h6⟩:=h;exact ⟨of_decide_eq_true h1,fun y hy=>of_decide_eq_true (List.all_eq_true.mp h2 y hy),fun y hy=>of_decide_eq_true (List.all_eq_true.mp h3 y hy),fun y hy=>of_decide_eq_true (List.all_eq_true.mp h4 y hy),
  fun x hx hf=>of_decide_eq_true (List.all_eq_true.mp h5 (x,.local) hx) rfl hf,qW h6,rj h6⟩
def jp (ix:List (Option Nat)) (σ:St):St:=ix.map fun o=>o.bind fun j=>(σ[j]?).getD none
def gO {env:Env}:∀ {names:List (Str×NameKind)} {x:Str} {k:NameKind},(names.map fun (n,k)=>if (k==NameKind.free&&env.scope.kind==.function&&env.kindOf n==some .cell) then (n,NameKind.cell) else (n,k)).lookup x=some k ->
  names.lookup x=some k\/(k=.cell/\names.lookup x=some .free/\env.kindOf x=some .cell)
 | [],_,_,h=>by cases h
 | (n,k')::r,x,k,h=>by
  have ih:=@gO env r x k;have h:List.lookup x ((if (k'==NameKind.free&&env.scope.kind==.function&&env.kindOf n==some .cell)=true then (n,NameKind.cell) else (n,k'))::_)=some k:=h;by_cases hc:(k'==NameKind.free&&env.scope.kind==.function&&env.kindOf n==some .cell)=true
  ·rw [if_pos hc] at h;rw [List.lookup_cons] at h;rw [List.lookup_cons];cases hx:x==n with
   | true =>
    rw [hx] at h;cases h;have hxn:x=n:=eq_of_beq hx;simp only [Bool.and_eq_true,beq_iff_eq] at hc;right
    exact ⟨rfl,by rw [hc.1.1],by rw [hxn];exact hc.2⟩
   | false =>
    rw [hx] at h;exact ih h
  ·rw [if_neg hc] at h;rw [List.lookup_cons] at h;rw [List.lookup_cons];cases hx:x==n with
   | true =>
    rw [hx] at h;cases h;exact .inl rfl
   | false =>
    rw [hx] at h;exact ih h
def mem_of_lookupK {x:Str} {k:NameKind}:∀ {names:List (Str×NameKind)},names.lookup x=some k->(x,k)∈names:=fun h=>PySem.mem_of_lookup h
def CV {X:Cx} {osc:Scope} {ON:List Str} {af:List (Addr×Obj)} {σ:St} {H:Hp} {s s':Shared} {N:List Str} {ix:List (Option Nat)} {scope:Scope} {fp:List Addr} {h':Heap} {m:Str->Option Value} (I:Inv X af σ H s) (hE:X.env.scope=osc) (hO:X.N=ON) (S:CScope osc ON N ix scope)
  (hfp:∀ b∈fp,iV X af H b) (hfo:∀ b∈fp,∃ o,s.heap.get? b=some o) (hn:h'.Ns s.heap.objs.size m) (hk:∀ b o,s.heap.get? b=some o->h'.get? b=some o) (he:s'={ s with heap:=h',toks:=s'.toks }) :
  Inv (jL X N scope ⟨fc X.env.cells scope.names [],s.heap.objs.size,s,H,fp,af⟩) [] (jp ix σ) H s':=by
 subst hE hO;have hcells:∀ y∈scope.names,y.2=.free->∃ c,X.env.cells.lookup y.1=some c:=fun y hy e=>I.ok.has y.1 (S.outs y hy e);have clin:∀ x c,(fc X.env.cells scope.names []).lookup x=some c->X.env.cells.lookup x=some c:=fun x c e=>by
  rcases yD scope.names [] hcells e with z|z
  ·exact z
  ·cases z
 have old:∀ b o,s.heap.get? b=some o->b≠s.heap.objs.size:=fun b o e=>Nat.ne_of_lt (Heap.lt_size e);have hkind:∀ x,(compEnvC scope (fc X.env.cells scope.names []) s.heap.objs.size X.env).kindOf x=some .cell\/(compEnvC scope (fc X.env.cells scope.names []) s.heap.objs.size X.env).kindOf x=some .free->(x,NameKind.free)∈scope.names:=fun x hx=>by
  rcases hx with hx|hx
  ·rcases gO (env:=X.env) hx with z|⟨_,z,_⟩
   ·exact absurd rfl (S.nocell _ (mem_of_lookupK z))
   ·exact mem_of_lookupK z
  ·rcases gO (env:=X.env) hx with z|⟨z,_⟩
   ·exact mem_of_lookupK z
   ·cases z
 have cellK:∀ x c,X.env.cells.lookup x=some c->∀ v,s.heap.IsCell c v->h'.IsCell c v:=fun x c e v ⟨o,ho,hd⟩=>⟨o,hk c o ho,hd⟩;rw [he];refine ⟨⟨I.ok.mod,S.kind,I.ok.glob,I.ok.blt,Nat.le_refl _,fun x y c h1 h2=>I.ok.inj x y c (clin x c h1) (clin y c h2),fun x hx=>pM _ _ (.inl (hkind x hx)),fun x c z _=>(nomatch z),I.ok.hd,I.ok.frames,.inl rfl,
  fun b hb=>?_,fun b o e=>I.bs b o e,Nat.le_trans I.ok.bsz I.sz,fun b o e hb=>?_,fun b hb hx=>?_,I.stack,fun b hb=>I.stkFree b hb⟩,
  rfl,I.bare,Un.kept hk,⟨m,hn,fun i x v h1 h2 h3=>?_⟩,fun x c e=>?_,I.hok.fresh (Nat.le_refl _),fun x c e=>I.freeC x c (clin x c e),fun p hp=>?_,I.hok.kept hk,?_,Nat.zero_le _⟩
 ·obtain ⟨o,ho⟩:=hfo b hb;exact ⟨old b o ho,fun x c e=>(hfp b hb).2.2.2.2.1 x c (clin x c e)⟩
 ·rcases (hfp b hb).2.2.2.1 with z|z
  ·exact I.ok.noex b o e z
  ·exact absurd (Nat.lt_of_lt_of_le (Heap.lt_size e) (Nat.le_trans I.ok.bsz z)) (Nat.lt_irrefl _)
 ·rcases List.mem_cons.mp (I.stkSub b hx) with z|z
  ·exact (hfp b hb).2.1 z
  ·exact (hfp b hb).2.2.1 z
 ·-- a captured name
  have h2':(jp ix σ)[i]?=some (some v):=h2;unfold jp at h2';rw [List.getElem?_map] at h2';cases e:ix[i]? with
  | none=>rw [e] at h2';cases h2'
  | some o =>
   rw [e] at h2';cases o with
   | none=>cases h2'
   | some j =>
    obtain ⟨c1,c2⟩:=S.cap i j x e h1;have h2'':(σ[j]?).getD none=some v:=Option.some.inj h2';have ej:σ[j]?=some (some v):=by
     cases q:σ[j]? with
     | none=>rw [q] at h2'';cases h2''
     | some w'=>rw [q] at h2'';rw [<- h2''];rfl
    have ko:=S.outs _ c2 rfl;obtain ⟨mX,hnX,hl⟩:=I.loc;have vis:Em X.env.scope x:=by
     rcases ko with k|k
     ·exact .inr (.inl k)
     ·exact .inr (.inr k)
    obtain ⟨u,ru,lk⟩:=hl j x v c1 ej vis;refine ⟨u,ru,.inr ?_⟩;have hcel:∃ c,X.env.cells.lookup x=some c/\s.heap.IsCell c (some u):=by
     rcases lk with ⟨k,_⟩|⟨_,c,e1,e2⟩
     ·rcases ko with k'|k'
      ·have:X.env.kindOf x=some .cell:=k'
       rw [k] at this;cases this
      ·have:X.env.kindOf x=some .free:=k'
       rw [k] at this;cases this
     ·exact ⟨c,e1,e2⟩
    obtain ⟨c,e1,e2⟩:=hcel;obtain ⟨c',e3⟩:=pM (cells:=X.env.cells) scope.names [] (.inl c2);have e4:=clin x c' e3;rw [e1] at e4;cases e4;refine ⟨?_,c,e3,cellK x c e1 _ e2⟩;rcases h3 with k|k|k
    ·rcases gO (env:=X.env) k with z|⟨z,_⟩
     ·exact (S.nolf x (mem_of_lookupK z) c2).elim
     ·cases z
    ·exact .inl k
    ·exact .inr k
 ·obtain ⟨v,z⟩:=I.cell x c (clin x c e);exact ⟨v,cellK x c (clin x c e) v z⟩
 ·have hp':p∈X.pn++af:=by
   rcases List.mem_append.mp hp with z|z
   ·exact z
   ·cases z
  obtain ⟨e,n,ne,nf,d⟩:=I.pin p hp';refine ⟨hk _ _ e,n,old _ _ e,fun z=>?_,d⟩;rcases List.mem_cons.mp (I.stkSub _ z) with q|q
  ·exact ne q
  ·exact nf q
 ·show (jp ix σ).length=N.length;unfold jp;rw [List.length_map];exact S.len
section
variable {prog:Program} {w:World} {A:Around} {R:Result->Shared->Prop} {s:Shared}
def pI {elt target iter:Expr} {ifs:List Expr} {scope:Scope} {pos:Pos} {it acc:Value} {env:Env} (I:Nat->Shared->Prop)
  (turn:∀ n s,I n s->wpAny (model prog w) A (pyNext it) (fun r s₁=>match r with
   | none=>R (.ok .next) s₁
   | some v=>wpAny (model prog w) A (letOwnedTupleGo target it v) (fun _ s₁'=>wpAny (model prog w) A (assign target env v) (fun _ s₂ =>
     wpAny (model prog w) A (forIn ifs true fun c r=>if r=true then do let ok <- isTrue c env (eval c env);pure (ForInStep.yield ok) else pure (ForInStep.yield r)) (fun ok s₃ =>
      if ok=true then wpAny (model prog w) A (eval elt env) (fun x s₄ =>
       wpAny (model prog w) A (call (.builtin "list.append") [acc,x]) (fun _ s₅=>∃ m,m < n/\I m s₅) (notedBy (model prog w) A env fun e s'=>R (.error e) s') s₄) (notedBy (model prog w) A env fun e s'=>R (.error e) s') s₃
      else ∃ m,m < n/\I m s₃) (notedBy (model prog w) A env fun e s'=>R (.error e) s') s₂) (notedBy (model prog w) A env fun e s'=>R (.error e) s') s₁') (notedBy (model prog w) A env fun e s'=>R (.error e) s') s₁) (notedBy (model prog w) A env fun e s'=>R (.error e) s') s)
  (n:Nat) (h:I n s) :
  codeAny (model prog w) A (.compLoop (.ListComp elt [⟨target,iter,ifs,0⟩] scope pos) 0 it acc env) R s:=by
 refine codeAny_loop rfl I (fun n s hI=>?_) n h;show wpAny _ A ((compTurn (.ListComp elt [⟨target,iter,ifs,0⟩] scope pos) 0 it acc env).onRaise (fun x=>do noteFrame x env;theTreesLotGoes x)) _ _ s;refine wpAny_noted ?_;rw [compTurn_list];refine wpAny_bind (wpAny_standAt (wpAny_bind (wpAny_mono (turn n s hI) (fun r s₁ h₁=>?_) fun _ _ h'=>h')));cases r with
 | none=>exact wpAny_pure h₁
 | some v =>
  refine wpAny_bind (wpAny_mono h₁ (fun _ s₁' h₁'=>?_) fun _ _ h'=>h');refine wpAny_bind (wpAny_mono h₁' (fun _ s₂ h₂=>wpAny_bind (wpAny_mono h₂ (fun ok s₃ h₃=>?_) fun _ _ h'=>h')) fun _ _ h'=>h');cases ok with
  | false=>exact wpAny_pure ⟨rfl,h₃⟩
  | true =>
   exact wpAny_bind (wpAny_bind (wpAny_mono h₃ (fun x s₄ h₄=>wpAny_bind (wpAny_mono h₄ (fun _ s₅ h₅=>wpAny_pure (wpAny_pure ⟨rfl,h₅⟩)) fun _ _ h'=>h')) fun _ _ h'=>h'))
end
def Il (X:Cx) (ifs:List Expr) (t:TT):Prop :=
 ∀ (af:List (Addr×Obj)) (s:Shared) (σ:St) (H:Hp) (Q:Bool->Hp->Prop),Inv X af σ H s->t σ H Q ->
  wpAny (model X.prog X.w) X.A (forIn ifs true fun c r=>if r=true then do let ok <- isTrue c X.env (eval c X.env);pure (ForInStep.yield ok) else pure (ForInStep.yield r)) (TP X af σ Q) X.xe s
def NG:TT:=fun _ H Q=>Q true H
def G6 {X:Cx}:Il X [] NG:=fun _ _ _ H _ I h=>wpAny_tests_nil ⟨H,I,h⟩
def uw (g:TG) (tt:TT) (te:TE) (J:It) (σ0:St) (H1:Hp) (Q:VK):Prop:=∀ acc,H1 acc=none->∃ W:Nat->Nat->St->Hp->Prop,
 (∃ m,W 0 m σ0 (dE H1 acc (.lst [])))/\∀ i m σ' H',W i m σ' H' ->
  (J.stop i H'/\Q (.ref acc) H')\/(J.go i H'/\∃ M:St->Hp->Prop,(∀ σ2 H2,M σ2 H2->∃ m',m' < m/\W (i+1) m' σ2 H2)/\∀ x H2,J.yld i H' x H2->g x σ' H2 fun σ3 H3=>tt σ3 H3 fun b H4 =>
   if b=true then te σ3 H4 fun v H5=>∃ xs,H5 acc=some (.lst xs)/\xs.length < sizeLine/\M σ3 (dE H5 acc (.lst (xs++[v]))) else M σ3 H4)
def zO (ix:List (Option Nat)) (wi:TI) (g:TG) (tt:TT) (te:TE):TE:=fun σ H Q=>wi σ H fun J H1=>uw g tt te J (jp ix σ) H1 Q
section
variable {X:Cx} {osc:Scope} {ON N:List Str} {ix:List (Option Nat)} {scope:Scope} {tg elt iter:Expr} {ifs:List Expr} {pos:Pos} {wi:TI} {g:TG} {tt:TT} {te:TE}
def ux {af:List (Addr×Obj)} {σ σ':St} {H H':Hp} {s s':Shared} {fp:List Addr} {cl:List (Str×Addr)} (I:Inv X af σ H s) (hfp:∀ b∈fp,iV X af H b) (J:Inv (jL X N scope ⟨cl,s.heap.objs.size,s,H,fp,af⟩) [] σ' H' s') (ht:X.tn<=s'.toks) :
  Inv X af σ H' s'/\(∃ m,s'.heap.Ns s.heap.objs.size m)/\H' s.heap.objs.size=none/\iV X af H' s.heap.objs.size:=by
 have u:Un (DV X.stack) fp H H' s.heap s'.heap:=J.base;have I1:Inv X af σ H' s':=I.call' J.os u J.hok J.bare fun b hb=>⟨(hfp b hb).2.2.2.1,(hfp b hb).2.1,(hfp b hb).2.2.2.2.1,(hfp b hb).2.2.2.2.2⟩;obtain ⟨m,hn,_⟩:=J.loc;exact ⟨I1,⟨m,hn⟩,J.free,I.fpOk (Nat.le_refl _) J.free⟩
def wQ {af:List (Addr×Obj)} {σ:St} {H:Hp} {s:Shared} {it:Addr} {fp:List Addr} {tn:Nat->Heap->Prop} {J:It} {Q:VK} {E:Value->Shared->Prop} {RR:Value->Addr->Result->Shared->Prop}
  (S:CScope osc ON N ix scope) (hE:X.env.scope=osc) (hO:X.N=ON) (hc:X.calm=true) (hg:∀ b,PG (jL X N scope b) tg g) (ht:∀ b,Il (jL X N scope b) ifs tt) (he:∀ b,PE (jL X N scope b) elt te)
  (I:Inv X af σ H s) (T:Turn X.prog X.w X.K tg J fp it tn) (st:tn 0 s.heap) (hfp:∀ b∈fp,iV X af H b) (q:uw g tt te J (jp ix σ) H Q)
  (hRR:∀ (acc C:Addr) (H':Hp) (s':Shared),Inv X af σ H' s'->(∃ m,s'.heap.Ns C m)->H' C=none->iV X af H' C->Q (.ref acc) H'->RR (.ref acc) C (.ok .next) s') :
  wpAny (model X.prog X.w) X.A (newList []) (fun acc s₃=>wpAny (model X.prog X.w) X.A (newFunctionEnv scope X.env.globals (fc X.env.cells scope.names []) [] X.env.qual none .none (some X.env)) (fun cenv s₄ =>
   codeAny (model X.prog X.w) X.A (.compStart (.ListComp elt [⟨tg,iter,ifs,0⟩] scope pos) 0 (.ref it) acc { cenv with scope:=relabel scope X.env }) (RR acc cenv.locals) s₄) E s₃) E s:=by
 refine wpAny_newObj_type (wpAny_newFunctionEnv S.nocell (by intro y hy;simp at hy) (fun h₁ hns₁ hsb₁=>?_) S.kind);dsimp only at hns₁ hsb₁ ⊢
 -- the list,tracked
 have I3:Inv X af σ (dE H s.heap.objs.size (.lst [])) { s with heap:=s.heap.push { cls:=.type "list",dict:=none,data:=.seq ([]:List Value).toArray } } :=
  I.laid (t':=s.toks) (fun b o e=>Heap.get?_push_of_some _ e) (Nat.le_refl _) (show eO X.prog X.w _ _ _ (.lst []) from ⟨Nat.zero_le _,[],_,.nil,Heap.get?_push_size _ rfl⟩)
 have hacc:H s.heap.objs.size=none:=I.hok.fresh (Nat.le_refl _);have hfo:∀ b∈fp,∃ o,s.heap.get? b=some o:=fun b hb=>let ⟨o,e,_⟩:=T.obj 0 _ st b hb;⟨o,e⟩;have fne:∀ b∈fp,b≠s.heap.objs.size:=fun b hb=>let ⟨o,e⟩:=hfo b hb;Nat.ne_of_lt (Heap.lt_size e);have hfp3:∀ b∈fp,iV X af (dE H s.heap.objs.size (.lst [])) b:=fun b hb=>⟨by rw [bn (fne b hb)];exact (hfp b hb).1,(hfp b hb).2⟩;obtain ⟨W,⟨m0,w0⟩,turn⟩:=q s.heap.objs.size hacc;generalize hH2:s.heap.push { cls:=.type "list",dict:=none,data:=.seq ([]:List Value).toArray }=h2 at *;have hk1:∀ b o,h2.get? b=some o->h₁.get? b=some o:=fun b o e=>hsb₁.extBut b o (Nat.ne_of_lt (Heap.lt_size e)) (Heap.get?_push_of_some _ e);have old:∀ b o,s.heap.get? b=some o->h2.get? b=some o:=fun b o e=>by rw [<- hH2];exact Heap.get?_push_of_some _ e
 have fin:∀ s₄:Shared,s₄={ s with heap:=h₁,toks:=s₄.toks }->X.tn<=s₄.toks->codeAny (model X.prog X.w) X.A (.compLoop (.ListComp elt [⟨tg,iter,ifs,0⟩] scope pos) 0 (.ref it) (.ref s.heap.objs.size) (compEnvC scope (fc X.env.cells scope.names []) h2.objs.size X.env))
   (RR (.ref s.heap.objs.size) h2.objs.size) s₄:=by
  intro s₄ e4 ht4;refine fP ht4 ?_;have J0:Inv (jL X N scope ⟨fc X.env.cells scope.names [],h2.objs.size,{ s with heap:=h2 },dE H s.heap.objs.size (.lst []),fp,af⟩) [] (jp ix σ) (dE H s.heap.objs.size (.lst [])) s₄ :=
   CV (s:={ s with heap:=h2 }) I3 hE hO S hfp3 (fun b hb=>let ⟨o,e⟩:=hfo b hb;⟨o,old b o e⟩) hns₁ hk1 e4
  generalize hX:jL X N scope ⟨fc X.env.cells scope.names [],h2.objs.size,{ s with heap:=h2 },dE H s.heap.objs.size (.lst []),fp,af⟩=Y at J0;have eE:compEnvC scope (fc X.env.cells scope.names []) h2.objs.size X.env=Y.env:=by rw [<- hX];rfl
  have eP:X.prog=Y.prog:=by rw [<- hX];rfl
  have eW:X.w=Y.w:=by rw [<- hX];rfl
  have eA:X.A=Y.A:=by rw [<- hX];rfl
  have eK:X.K=Y.K:=by rw [<- hX];rfl
  have eC:Y.calm=true:=by rw [<- hX];exact hc
  have T':Turn Y.prog Y.w Y.K tg J fp it tn:=by rw [<- eP,<- eW,<- eK];exact T
  have st0:tn 0 s₄.heap:=T.keep _ _ _ st fun b hb o e=>by rw [e4];exact hk1 b o (old b o e)
  have fpY:∀ {H':Hp},(∀ b∈fp,H' b=none)->∀ b∈fp,iV Y [] H' b:=fun {H'} hn b hb=>by
   rw [<- hX];have f:=hfp b hb;refine ⟨hn b hb,?_,?_,.inl hb,?_,?_⟩
   ·have:=J0.ok.exf b (by rw [<- hX];exact hb)
    rw [<- hX] at this;exact this.1
   ·have:=J0.ok.exfs b (by rw [<- hX];exact hb)
    rw [<- hX] at this;exact this
   ·have:=J0.ok.exf b (by rw [<- hX];exact hb)
    rw [<- hX] at this;exact this.2
   ·intro p hp;have hp':p∈X.pn++af:=by
     rcases List.mem_append.mp hp with z|z
     ·exact z
     ·cases z
    exact f.2.2.2.2.2 p hp'
  have accne:s.heap.objs.size∉fp:=fun z=>fne _ z rfl;have never:∀ e s',Y.xe e s'->False:=by rw [<- hX];exact fun _ _ z=>z
  have hgY:PG Y tg g:=by rw [<- hX];exact hg _
  have htY:Il Y ifs tt:=by rw [<- hX];exact ht _
  have heY:PE Y elt te:=by rw [<- hX];exact he _
  rw [eE,eP,eW,eA];refine pI (fun n s'=>∃ i σ' H',Inv Y [] σ' H' s'/\tn i s'.heap/\(∀ b∈fp,H' b=none)/\W i n σ' H') ?_ m0 ⟨0,jp ix σ,_,J0,st0,fun b hb=>(hfp3 b hb).1,w0⟩;rintro n s5 ⟨i,σ5,H5,I5,st5,fr5,w5⟩;rcases turn i n σ5 H5 w5 with ⟨stop,qn⟩|⟨go,M,hM,step⟩
  ·refine eB (T'.done Y rfl rfl rfl eC i [] s5 σ5 H5 _ I5 (fpY fr5) st5 stop) fun r s6 ⟨hr,I6⟩=>?_;subst hr;have I6':=I6;rw [<- hX] at I6';intro htk;obtain ⟨a1,a2,a3,a4⟩:=ux (s:={ s with heap:=h2 }) I3 hfp3 I6' htk;exact hRR _ _ H5 s6 a1 a2 a3 a4 qn
  ·refine eB (T'.item Y rfl rfl rfl eC i [] s5 σ5 H5 _ I5 (fpY fr5) st5 go) fun r s6 ⟨u,hr,h6⟩=>?_;subst hr;refine eB h6 fun _ s7 ⟨x,H7,I7,r7,y7,st7,fr7⟩=>?_;have I7':=I7.pinned (fpY fr7) (T.obj _ _ st7);refine wpAny_mono (hgY _ s7 σ5 H7 x u _ I7' r7 (step x H7 y7)) (fun _ s8 ⟨σ8,H8,I8,q8⟩=>?_) fun e s' z=>(never e s' z).elim;refine wpAny_mono (htY _ s8 σ8 H8 _ I8 q8) (fun ok s9 ⟨H9,I9,q9⟩=>?_) fun e s' z=>(never e s' z).elim;have again:∀ {σa:St} {Ha:Hp} {sa:Shared},Inv Y ([]++eH fp s7.heap) σa Ha sa->M σa Ha->∃ m,m < n/\∃ i σ' H',Inv Y [] σ' H' sa/\tn i sa.heap/\(∀ b∈fp,H' b=none)/\W i m σ' H':=fun {σa Ha sa} Ia na=>by
    obtain ⟨m',hm,wa⟩:=hM σa Ha na;refine ⟨m',hm,i+1,σa,Ha,Ia.unpinned,T.keep _ _ _ st7 fun b hb o e=>(Ia.pin (b,o) (List.mem_append_right _ (List.mem_append_right _ (cN hb e)))).1,fun b hb=>?_,wa⟩;obtain ⟨o,e,d⟩:=T.obj _ _ st7 b hb;exact (Ia.pin (b,o) (List.mem_append_right _ (List.mem_append_right _ (cN hb e)))).2.1
   cases ok with
   | false =>
    rw [if_neg Bool.false_ne_true] at q9 ⊢;exact again I9 q9
   | true =>
    rw [if_pos rfl] at q9 ⊢;refine wpAny_mono (heY _ s9 σ8 H9 _ I9 q9) (fun y sb ⟨vb,Hb,Ib,rb,xs,hx,hz,nb⟩=>?_) fun e s' z=>(never e s' z).elim;refine wpAny_mono (qO (X:=Y) _ sb σ8 Hb (.ref s.heap.objs.size) [vb] (.ref s.heap.objs.size) [y] (fun v H'=>M σ8 H') Ib rfl (.cons rb .nil) ⟨s.heap.objs.size,xs,vb,rfl,rfl,hx,hz,nb⟩) (fun _ sc ⟨vc,Hc,Ic,rc,nc⟩=>?_) fun e s' z=>(never e s' z).elim;exact again Ic nc
 exact codeAny_compStart_list (fin _ rfl (by walk_at "tok")) (T.self _ 0 _ _ _ (T.keep _ _ _ st fun b hb o e=>hk1 b o (old b o e)) (fin _ rfl (by walk_at "tok")))
def GD (S:CScope osc ON N ix scope) (hE:X.env.scope=osc) (hO:X.N=ON) (hc:X.calm=true) (hi:PI X tg iter wi) (hg:∀ b,PG (jL X N scope b) tg g) (ht:∀ b,Il (jL X N scope b) ifs tt) (he:∀ b,PE (jL X N scope b) elt te)
  (hs:∀ x,foldedSetIterable iter X.env x=pure x:=by intro _;rfl):PE X (.ListComp elt [⟨tg,iter,ifs,0⟩] scope pos) (zO ix wi g tt te):=by
 intro af s σ H Q I h;rw [eval_ListComp];have hcells:∀ y∈scope.names,y.2=.free->∃ c,X.env.cells.lookup y.1=some c:=fun y hy e=>I.ok.has y.1 (by subst hE;exact S.outs y hy e);refine wpAny_comprehension_free (use:=none) rfl hs (jh hcells) S.kind S.names (eB (hi af s σ H _ I h) fun v s1 h1=>eB h1 fun itv s2 h2=>?_);obtain ⟨it,fp,tn,J,H2,e,I2,T,st2,f2,q⟩:=h2;subst e;refine wQ (RR:=fun acc C=>compPost (model X.prog X.w) X.A X.xe none (EP X af σ Q) acc C) S hE hO hc hg ht he I2 T st2 f2 q fun acc C H' s' I' hn hC fC q'=>?_;obtain ⟨m,hn⟩:=hn;refine ⟨m,hn,fun h' sb=>⟨.ref acc,H',?_,rfl,q'⟩⟩;obtain ⟨f0,f1,f2',f3,f4,f5⟩:=fC;exact I'.turned (t':=s'.toks) (fun b o hb e=>(sb.2 b hb).trans e) f0 f1 f3 f4 f5
def Bb {i:Nat} {x:Str} {spos pos':Pos} (hN:X.N.Nodup) (hx:X.N[i]?=some x) (hl:Ct X.env.scope x) (S:CScope osc ON N ix scope) (hE:X.env.scope=osc) (hO:X.N=ON) (hc:X.calm=true) (hi:PI X tg iter wi) (hg:∀ b,PG (jL X N scope b) tg g) (ht:∀ b,Il (jL X N scope b) ifs tt) (he:∀ b,PE (jL X N scope b) elt te)
  (hsw:swapsWith (.ListComp elt [⟨tg,iter,ifs,0⟩] scope pos) (some (.Name x pos')) spos.line X.env=pure true:=by rfl)
  (hf:X.fn x=true\/X.env.scope.names.lookup x=some .local:=by first|exact .inl rfl|exact .inr rfl|assumption)
  (hs:∀ x,foldedSetIterable iter X.env x=pure x:=by intro _;rfl):PS X (.Assign [.Name x pos'] (.ListComp elt [⟨tg,iter,ifs,0⟩] scope pos) spos) (Dj (zO ix wi g tt te) (qh i)):=by
 intro af s σ H D I h;rw [exec_Assign_Name_used _ _ _ _ hsw];refine wpAny_bind (wpAny_standAt (wpAny_bind ?_));have hcells:∀ y∈scope.names,y.2=.free->∃ c,X.env.cells.lookup y.1=some c:=fun y hy e=>I.ok.has y.1 (by subst hE;exact S.outs y hy e);show wpAny _ X.A (do let _ <- comprehension (.ListComp elt [⟨tg,iter,ifs,0⟩] scope pos) scope X.env _ (newList []) false (eval iter X.env) (some (assign (.Name x pos') X.env))) _ _ s;refine wpAny_bind (wpAny_mono (wpAny_comprehension_free (use:=some (assign (.Name x pos') X.env)) (Q:=fun _ s'=>SP X af D .next s') rfl hs (jh hcells) S.kind S.names
  (eB (hi af s σ H _ I h) fun v s1 h1=>eB h1 fun itv s2 h2=>?_)) (fun _ s' hq=>wpAny_pure (wpAny_pure hq)) fun _ _ e=>e)
 obtain ⟨it,fp,tn,J,H2,e,I2,T,st2,f2,q⟩:=h2;subst e;refine wQ (RR:=fun acc C=>compPost (model X.prog X.w) X.A X.xe (some (assign (.Name x pos') X.env)) (fun _ s'=>SP X af D .next s') acc C) S hE hO hc hg ht he I2 T st2 f2 q fun acc C H' s' I' hn hC fC q'=>?_;obtain ⟨m,hn⟩:=hn;have hob:∃ o,s'.heap.get? C=some o/\∀ v,o.data≠.cell v:=by
  obtain ⟨o,es,ep,ho,hd,_⟩:=hn;exact ⟨o,ho,fun v z=>by rw [hd] at z;cases z⟩
 have only:∀ b∈[C],b=C:=fun b hb=>by simpa using hb
 have I1:=I'.pinned (fp:=[C]) (fun b hb=>(only b hb) ▸ fC) (fun b hb=>(only b hb) ▸ hob);refine wpAny_mono (Cv (pos:=pos') hN hx hl hf (af++eH [C] s'.heap) s' σ H' (.ref acc) (.ref acc) D.nx I1 rfl q') (fun _ s'' ⟨σ2,H2,I2',q2⟩=>?_) fun _ _ z=>z;obtain ⟨o,ho,hd⟩:=hob;have pn:=I2'.pin (C,o) (List.mem_append_right _ (List.mem_append_right _ (cN (by simp) ho)));refine ⟨m,hn.at' fun o' e=>by rw [ho] at e;cases e;exact pn.1,fun h' sb=>⟨σ2,H2,?_,q2⟩⟩;obtain ⟨f0,f1,f2',f3,f4,f5⟩:=fC;exact I2'.unpinned.turned (t':=s''.toks) (fun b o hb e=>(sb.2 b hb).trans e) pn.2.1 f1 f3 f4 f5
end
def uW {P:Program} {w:World} {K:PySem.W.Frag} {tg:Expr} {it:Addr} {n:Nat} {St:Nat->Heap->Prop} {Pv:Nat->Value->Prop} {J:It} (W:∀ A:Around,A.handled=none->Walks P w A it [it] [it] n Pv St)
  (ob:∀ i h,St i h->∃ (o:Obj) (nm:String) (vs:Array Value),h.get? it=some o/\o.cls=.type nm/\o.data=.fields vs/\["enumerate","zip","dict_itemiterator","dict_reverseitemiterator","odict_iterator","itertools.zip_longest","itertools.pairwise"].contains nm=false)
  (go:∀ i H,J.go i H->i < n) (yl:∀ i H u,J.go i H->Pv i u->∃ x,bw x u/\J.yld i H x H) (dn:∀ i h H,J.stop i H->St i h->St n h)
  (self:∀ (A:Around) (i:Nat) (s:Shared) (Q:Value->Shared->Prop) (E:Value->Shared->Prop),St i s.heap->Q (.ref it) s->wpAny (model P w) A (pyIter (.ref it)) Q E s):Turn P w K tg J [it] it St where
 mem:=by simp
 obj:=fun i h st b hb=>by
  have e:b=it:=by simpa using hb
  subst e;obtain ⟨o,nm,vs,h1,h2,h3,h4⟩:=ob i h st;exact ⟨o,h1,fun v z=>by rw [h3] at z;cases z⟩
 keep:=fun i h h' st k=>(W {} rfl).frame i h h' st fun b hb o e=>k b hb o e
 item:=by
  intro X hP hw hK hc i af s σ H E I hf st hg;subst hP hw hK;obtain ⟨f0,f1,f2,f3,f4,f5⟩:=hf it (by simp);refine bf I.tk ((W X.A (I.ok.hd hc)).item i s _ _ (go i H hg) st fun v h' tk hv st' kk htk=>?_);have I1:Inv X af σ H { s with heap:=h',toks:=tk }:=I.turned (fun b o hb e=>kk b o (by simpa using hb) e) f0 f1 f3 f4 f5;obtain ⟨x,rx,yx⟩:=yl i H v hg hv;obtain ⟨o,nm,vs,h1,h2,h3,h4⟩:=ob (i+1) h' st';exact ⟨v,rfl,z8 (s:={ s with heap:=h',toks:=tk }) h1 h2 h3 h4 ⟨x,H,I1,rx,yx,st',fun b hb=>(hf b hb).1⟩⟩
 done:=by
  intro X hP hw hK hc i af s σ H E I hf st hg;subst hP hw hK;obtain ⟨f0,f1,f2,f3,f4,f5⟩:=hf it (by simp);exact bf I.tk ((W X.A (I.ok.hd hc)).done s _ _ (dn i s.heap H hg st) fun h' tk kk htk=>⟨rfl,I.turned (fun b o hb e=>kk b o (by simpa using hb) e) f0 f1 f3 f4 f5⟩)
 self:=self
def Nt (z:Str):It:=⟨fun i _=>i < z.length,fun i H x H'=>H'=H/\∃ c,z.cps[i]?=some c/\x=.str ⟨#[c]⟩,fun i _=>i=z.length⟩
def FP {z:Str} {i:Nat} {H:Hp} {u:Value} (h:SignAt z i u):∃ x,bw x u/\(Nt z).yld i H x H:=by
 obtain ⟨c,t,e1,rfl⟩:=h;exact ⟨.str ⟨#[c]⟩,⟨t,rfl⟩,rfl,c,e1,rfl⟩
def Bh {P:Program} {w:World} {K:PySem.W.Frag} {tg:Expr} (it:Addr) (z:Str) (t:Tok):Turn P w K tg (Nt z) [it] it (fun i h=>h.IsStrIter it "str_ascii_iterator" z t i) :=
 uW (n:=z.cps.size) (Pv:=SignAt z) (fun A hA=>Walks.strAscii hA it z t) (fun i h ⟨o,e,c,d⟩=>⟨o,_,_,e,c,d,by decide⟩) (fun i H h=>h) (fun i H u _ h=>FP h) (fun i h H e st=>by
  have e':i=z.cps.size:=e;rw [<- e'];exact st) fun A i s Q E st h=>wpAny_pyIter_striter_ascii st h
def DF {P:Program} {w:World} {K:PySem.W.Frag} {tg:Expr} (it:Addr) (z:Str) (t:Tok):Turn P w K tg (Nt z) [it] it (fun i h=>h.IsStrIter it "str_iterator" z t i) :=
 uW (n:=z.cps.size) (Pv:=SignAt z) (fun A hA=>Walks.strWide hA it z t) (fun i h ⟨o,e,c,d⟩=>⟨o,_,_,e,c,d,by decide⟩) (fun i H h=>h) (fun i H u _ h=>FP h) (fun i h H e st=>by
  have e':i=z.cps.size:=e;rw [<- e'];exact st) fun A i s Q E st h=>wpAny_pyIter_striter_wide st h
def Io (bs:List Bool):(List.range bs.length).all (fun i=>(bs[i]?).getD true)=bs.all id:=by
 rw [Bool.eq_iff_iff,List.all_eq_true,List.all_eq_true];constructor
 ·intro h b hb;obtain ⟨i,hi,e⟩:=List.getElem_of_mem hb
  have:=h i (List.mem_range.mpr hi)
  rw [List.getElem?_eq_getElem hi,e] at this;exact this
 ·intro h i hi;have hi':=List.mem_range.mp hi;rw [List.getElem?_eq_getElem hi'];exact h _ (List.getElem_mem hi')
section
variable {X:Cx}
def Mn (K:PySem.W.Frag) (xs:List V) (H:Hp) (Q:VK):Prop:=match xs with
 | [.ref p]=>∃ bs:List Bool,jl K H p (bs.map V.bl)/\Q (.bl (bs.all id)) H
 | _=>False
def nk (K:PySem.W.Frag) (hc:X.calm=true) (hK:X.K=K:=by rfl):bX X (.builtin "all") (Mn K):=by
 subst hK;intro af s σ H xs us Q I r h;unfold Mn at h;split at h
 case h_2=>exact h.elim
 rename_i p;obtain ⟨bs,hq,q⟩:=h;obtain ⟨u,rfl,rx⟩:=gM r;cases rx;obtain ⟨its,rv,pl,hz⟩:=I.list hq;have hh:X.A.in1.handled=none:=I.ok.hd hc;refine bf I.tk (call_all_walk (wpAny_pyIter_list pl.isList ?_));have hne:p≠s.heap.objs.size:=by
  obtain ⟨o,ho,_⟩:=pl.isList;exact Nat.ne_of_lt (Heap.lt_size ho)
 refine ⟨s.heap.objs.size,[s.heap.objs.size,p],[s.heap.objs.size],its.toArray.size,_,_,fun i=>(bs[i]?).getD true,rfl,Walks.list hh _ p hne its.toArray,⟨⟨_,Heap.get?_push_size _ rfl,rfl,rfl⟩,Heap.IsList.push pl.isList _⟩,?_,?_⟩
 ·intro i v s' Q' E' hv hQ';have hv':its[i]?=some v:=by simpa using hv
  have hi:i < its.length:=(List.getElem?_eq_some_iff.mp hv').1;have hl:=rv.length;rw [List.length_map] at hl;have hb:(bs.map V.bl)[i]?=some (V.bl bs[i]):=by
   rw [List.getElem?_map,List.getElem?_eq_getElem (by omega)];rfl
  obtain ⟨u,hu,ru⟩:=rv.get hb;rw [hv'] at hu;cases hu;cases ru;have hQ2:Q' bs[i] s':=by
   have e:(bs[i]?).getD true=bs[i]:=by rw [List.getElem?_eq_getElem (by omega)];rfl
   rw [<- e];exact hQ'
  exact wpAny_truthy_bool hQ2
 ·intro h' tk hk;have I1:Inv X af σ H { s with heap:=s.heap.push { cls:=.type "list_iterator",data:=.fields #[.ref p,.int 0 0] } }:=I.kept (t':=s.toks) fun b o e=>Heap.get?_push_of_some _ e;have e1:(List.range its.toArray.size).all (fun i=>(bs[i]?).getD true)=bs.all id:=by
   have hl:=rv.length;rw [List.length_map] at hl;rw [List.size_toArray,<- hl];exact Io bs
  rw [e1];obtain ⟨f0,f1,f2,f3,f4,f5⟩:=I.fpOk (b:=s.heap.objs.size) (Nat.le_refl _) (I.hok.fresh (Nat.le_refl _));exact fun htk=>⟨.bl (bs.all id),H,I1.turned (fun b o hb e=>hk b o (by simpa using hb) e) f0 f1 f3 f4 f5,rfl,q⟩
end
def PE.imp {X:Cx} {e:Expr} {t t':TE} (h:PE X e t) (i:∀ σ H Q,t' σ H Q->t σ H Q):PE X e t':=fun af s σ H Q I q=>h af s σ H Q I (i σ H Q q)
def gf.imp {X:Cx} {f:Value->Value->Sem Value} {r r':R2} (h:gf X f r) (i:∀ x y H Q,r' x y H Q->r x y H Q):gf X f r':=fun af s σ H x y v u Q I a b q=>h af s σ H x y v u Q I a b (i x y H Q q)
def IE.imp {X:Cx} {f:Value->Sem Value} {r r':V->Hp->VK->Prop} (h:IE X f r) (i:∀ x H Q,r' x H Q->r x H Q):IE X f r':=fun af s σ H x v Q I a q=>h af s σ H x v Q I a (i x H Q q)
def bX.imp {X:Cx} {f:Value} {r r':List V->Hp->VK->Prop} (h:bX X f r) (i:∀ xs H Q,r' xs H Q->r xs H Q):bX X f r':=fun af s σ H xs us Q I a q=>h af s σ H xs us Q I a (i xs H Q q)
def Ax.imp {X:Cx} {r r':R2} (h:Ax X r) (i:∀ x y H Q,r' x y H Q->r x y H Q):Ax X r':=fun value slice af s σ H x y v u Q I rx ry q hs=>h value slice af s σ H x y v u Q I rx ry (i x y H Q q) hs
def AL.imp {X:Cx} {r r':V->Option Int->Option Int->Hp->VK->Prop} (h:AL X r) (i:∀ x l u H Q,r' x l u H Q->r x l u H Q):AL X r':=fun af s σ H x v vl vu lo hi sl Q I rx hs pl pu q=>h af s σ H x v vl vu lo hi sl Q I rx hs pl pu (i x lo hi H Q q)
section
variable {X:Cx} {a b:Expr} {ta tb:TE} {pos:Pos} {rest:List Expr}
def El (o:Option (Option V)) (H:Hp) (Q:VK):Prop:=match o with
 | some (some v)=>Q v H
 | _=>False
def ER (i:Nat):TE:=fun σ H Q=>El σ[i]? H Q
def qv (i:Nat) {x:Str} {pos:Pos} (hN:X.N[i]?=some x:=by rfl) (hv:Em X.env.scope x:=by first|exact Or.inl rfl|exact Or.inr (Or.inl rfl)|exact Or.inr (Or.inr rfl)) (hd:(x==("__debug__":Str))=false:=by decide)
  (hcd:(x==("__classdict__":Str))=false:=by decide):PE X (.Name x pos) (ER i):=(MQ hN hv hd hcd).imp fun σ H Q q=>by
 unfold ER El at q;split at q
 ·rename_i v e;exact ⟨v,e,q⟩
 ·exact q.elim
def VJ (tb:TE) (σ:St) (Q:VK):VK:=fun x H1=>match x with
 | .bl c=>if c=true then tb σ H1 Q else Q (.bl false) H1
 | _=>False
def Qi (ta tb:TE):TE:=fun σ H Q=>ta σ H (VJ tb σ Q)
def VC (Q:VK):VK:=fun x H1=>match x with
 | .bl c=>Q (.bl (!c)) H1
 | _=>False
def PN (ta:TE):TE:=fun σ H Q=>ta σ H (VC Q)
def MJ (ha:PE X a ta) (hb:PE X (.BoolOp .And (b::rest) pos) tb):PE X (.BoolOp .And (a::b::rest) pos) (Qi ta tb):=by
 intro af s σ H Q I h;refine BoolOp_and (eB (ha af s σ H _ I h) fun v s1 hh=>mP hh fun x H1 I1 r1 q1=>?_);cases x with
 | bl c =>
  cases r1;refine wpAny_truthy_bool ?_;cases c with
  | true=>exact hb af s1 σ H1 Q I1 q1
  | false=>exact ⟨.bl false,H1,I1,rfl,q1⟩
 | _=>exact q1.elim
def Lr (ha:PE X a ta):PE X (.UnaryOp .Not a pos) (PN ta):=by
 intro af s σ H Q I h;refine UnaryOp_ (eB (ha af s σ H _ I h) fun v s1 hh=>mP hh fun x H1 I1 r1 q1=>?_);cases x with
 | bl c =>
  cases r1;exact not_of (wpAny_truthy_bool ⟨.bl (!c),H1,I1,rfl,q1⟩)
 | _=>exact q1.elim
def Q7 (Q:Bool->Hp->Prop):VK:=fun x H'=>match x with
 | .bl k=>Q k H'
 | _=>False
def J9 (t:TE):TT:=fun σ H Q=>t σ H (Q7 Q)
def HC {op:CmpOp} {r:R2} (ho:gf X (compareOp op) r) (ha:PE X a ta) (hb:PE X b tb) (hm:behindInMarks op b=false):PT X (.Compare a [op] [b] pos) (J9 (DX r ta tb)):=by
 intro af s σ H Q I h;refine wpAny_isTrue_Compare1 (eB (ha af s σ H _ I h) fun v s1 hh=>mP hh fun x H1 I1 r1 q1=>eB (hb af s1 σ H1 _ I1 q1) fun u s2 hh=>mP hh fun y H2 I2 r2 q2 =>
  eB (ho af s2 σ H2 x y v u _ I2 r1 r2 q2) fun c s3 hh=>mP hh fun z H3 I3 r3 q3=>?_) hm
 cases z with
 | bl k =>
  cases r3;exact wpAny_truthy_bool ⟨H3,I3,q3⟩
 | _=>exact q3.elim
def VP (K:PySem.W.Frag) (Q:Bool->Hp->Prop):VK:=fun x H=>match x with
 | .non=>Q false H
 | .bl b=>Q b H
 | .int i=>Q (i != 0) H
 | .str y=>y.length<=sizeLine/\Q ((y.length:Int) != 0) H
 | .ref p=>((∃ xs,jl K H p xs/\Q (!xs.isEmpty) H)\/(∃ xs,mT K H p xs/\Q (!xs.isEmpty) H))\/∃ kvs,H p=some (.dK kvs)/\Q (!kvs.isEmpty) H
 | _=>False
def Fv (K:PySem.W.Frag) (ta:TE):TT:=fun σ H Q=>ta σ H (VP K Q)
def Et (K:PySem.W.Frag) (ha:PE X a ta) (he:∀ whole,isTrue a X.env whole=(do let v <- whole;standAt a.pos;holding [v] (truthy v))) (hK:X.K=K:=by rfl) :
  PT X a (Fv K ta):=by
 subst hK;intro af s σ H Q I h;refine isTrue_plain (eB (ha af s σ H _ I h) fun v s1 hh=>mP hh fun x H1 I1 r1 q1=>MF af s1 σ H1 x v Q I1 r1 ?_) (he _);cases x with
 | non=>exact ⟨_,rfl,q1⟩
 | bl b=>exact ⟨_,rfl,q1⟩
 | int i=>exact ⟨_,rfl,q1⟩
 | str y=>exact ⟨_,⟨q1.1,rfl⟩,q1.2⟩
 | ref p =>
  rcases q1 with (⟨xs,h1,h2⟩|⟨xs,h1,h2⟩)|⟨xs,h1,h2⟩
  ·exact ⟨_,.inl ⟨xs,h1,rfl⟩,h2⟩
  ·exact ⟨_,.inr (.inl ⟨xs,h1,rfl⟩),h2⟩
  ·exact ⟨_,.inr (.inr ⟨xs,h1,rfl⟩),h2⟩
 | _=>exact q1.elim
def M8:R2:=fun x y H Q=>match x,y with
 | .int i,.int j=>Q (.int (i - j)) H
 | _,_=>False
def Ad:gf X (binaryOp .Sub) M8:=Mz.imp fun x y H Q q=>by
 unfold M8 at q;split at q
 ·exact ⟨_,_,rfl,rfl,q⟩
 ·exact q.elim
def Na:R2:=fun x y H Q=>match x,y with
 | .int i,.int j=>EE i j/\Q (.int (i/j)) H
 | _,_=>False
def kU:gf X (binaryOp .FloorDiv) Na:=Ik.imp fun x y H Q q=>by
 unfold Na at q;split at q
 ·exact ⟨_,_,rfl,rfl,q.1,q.2⟩
 ·exact q.elim
def MW:R2:=fun x y H Q=>match x,y with
 | .int i,.int j=>0 < j/\Q (.int (i % j)) H
 | _,_=>False
def eV:gf X (binaryOp .Mod) MW:=MP.imp fun x y H Q q=>by
 unfold MW at q;split at q
 ·exact ⟨_,_,rfl,rfl,q.1,q.2⟩
 ·exact q.elim
def K3:R2:=fun x y H Q=>match x,y with
 | .int i,.int j=>EV i j/\Q (.int (i ^ j.toNat)) H
 | _,_=>False
def DC:gf X (binaryOp .Pow) K3:=MG.imp fun x y H Q q=>by
 unfold K3 at q;split at q
 ·exact ⟨_,_,rfl,rfl,q.1,q.2⟩
 ·exact q.elim
def Ms (x:V) (H:Hp) (Q:VK):Prop:=match x with
 | .int i=>Q (.int (-i)) H
 | _=>False
def VV:IE X (unaryOp .USub) Ms:=MB.imp fun x H Q q=>by
 unfold Ms at q;split at q
 ·exact ⟨_,rfl,q⟩
 ·exact q.elim
def Ef:gf X (compareOp .LtE) (fun x y H Q=>∃ i j,x=.str i/\y=.str j/\Q (.bl (!decide (j.cps.toList < i.cps.toList))) H):=by
 intro af s σ H x y v u Q I rx ry h;obtain ⟨i,j,rfl,rfl,q⟩:=h;obtain ⟨t,rfl⟩:=rx;obtain ⟨t',rfl⟩:=ry;exact P.le_str (ba I q rfl)
def DM:gf X (compareOp .GtE) (fun x y H Q=>∃ i j,x=.str i/\y=.str j/\Q (.bl (!decide (i.cps.toList < j.cps.toList))) H):=by
 intro af s σ H x y v u Q I rx ry h;obtain ⟨i,j,rfl,rfl,q⟩:=h;obtain ⟨t,rfl⟩:=rx;obtain ⟨t',rfl⟩:=ry;exact P.ge_str (ba I q rfl)
def DP:gf X (compareOp .Gt) (fun x y H Q=>∃ i j,x=.str i/\y=.str j/\Q (.bl (decide (j.cps.toList < i.cps.toList))) H):=by
 intro af s σ H x y v u Q I rx ry h;obtain ⟨i,j,rfl,rfl,q⟩:=h;obtain ⟨t,rfl⟩:=rx;obtain ⟨t',rfl⟩:=ry;exact P.gt_str (ba I q rfl)
def VD:R2:=fun x y H Q=>match x,y with
 | .int i,.int j=>Q (.bl (decide (i < j))) H
 | .str i,.str j=>Q (.bl (decide (i.cps.toList < j.cps.toList))) H
 | _,_=>False
def VH:R2:=fun x y H Q=>match x,y with
 | .int i,.int j=>Q (.bl (decide (i<=j))) H
 | .str i,.str j=>Q (.bl (!decide (j.cps.toList < i.cps.toList))) H
 | _,_=>False
def Vg:R2:=fun x y H Q=>match x,y with
 | .int i,.int j=>Q (.bl (decide (j < i))) H
 | .str i,.str j=>Q (.bl (decide (j.cps.toList < i.cps.toList))) H
 | _,_=>False
def V8:R2:=fun x y H Q=>match x,y with
 | .int i,.int j=>Q (.bl (decide (j<=i))) H
 | .str i,.str j=>Q (.bl (!decide (i.cps.toList < j.cps.toList))) H
 | _,_=>False
def Nz:gf X (compareOp .Lt) VD:=(QI.or DY).imp fun x y H Q q=>by
 unfold VD at q;split at q
 ·exact .inl ⟨_,_,rfl,rfl,q⟩
 ·exact .inr ⟨_,_,rfl,rfl,q⟩
 ·exact q.elim
def No:gf X (compareOp .LtE) VH:=(OV.or Ef).imp fun x y H Q q=>by
 unfold VH at q;split at q
 ·exact .inl ⟨_,_,rfl,rfl,q⟩
 ·exact .inr ⟨_,_,rfl,rfl,q⟩
 ·exact q.elim
def KA:gf X (compareOp .Gt) Vg:=(Od.or DP).imp fun x y H Q q=>by
 unfold Vg at q;split at q
 ·exact .inl ⟨_,_,rfl,rfl,q⟩
 ·exact .inr ⟨_,_,rfl,rfl,q⟩
 ·exact q.elim
def V5:gf X (compareOp .GtE) V8:=(Qb.or DM).imp fun x y H Q q=>by
 unfold V8 at q;split at q
 ·exact .inl ⟨_,_,rfl,rfl,q⟩
 ·exact .inr ⟨_,_,rfl,rfl,q⟩
 ·exact q.elim
def GB:gf X (compareOp .Is) (fun x y H Q=>∃ j,y=.bl j/\Q (.bl (decide (x=.bl j))) H):=by
 intro af s σ H x y v u Q I rx ry h;obtain ⟨j,rfl,q⟩:=h;cases ry;cases x with
 | bl i=>cases rx;exact wpAny_is_plain rfl (ba I q (by cases i <;> cases j <;> rfl))
 | non=>cases rx;exact wpAny_is_plain rfl (ba I q (by simp))
 | int i=>obtain ⟨t,rfl⟩:=rx;exact wpAny_is_plain rfl (ba I q (by simp))
 | str i=>obtain ⟨t,rfl⟩:=rx;exact wpAny_is_plain rfl (ba I q (by simp))
 | byt i=>obtain ⟨t,rfl⟩:=rx;exact wpAny_is_plain rfl (ba I q (by simp))
 | flt i=>obtain ⟨t,rfl⟩:=rx;exact wpAny_is_plain rfl (ba I q (by simp))
 | ref i=>cases rx;exact wpAny_is_plain rfl (ba I q (by simp))
 | ty i=>cases rx;exact wpAny_is_plain rfl (ba I q (by simp))
def GP:V->V->Bool
 | .non,.non=>true
 | .bl i,.bl j=>i==j
 | _,_=>false
def VW:R2:=fun x y H Q=>match y with
 | .non=>Q (.bl (GP x .non)) H
 | .bl j=>Q (.bl (GP x (.bl j))) H
 | _=>False
def Jd (x:V):decide (x=.non)=GP x .non:=by cases x <;> simp [GP]
def KO (x:V) (j:Bool):decide (x=.bl j)=GP x (.bl j):=by
 cases x with
 | bl i=>cases i <;> cases j <;> rfl
 | _=>simp [GP]
def Xd:gf X (compareOp .Is) VW:=(LB.or GB).imp fun x y H Q q=>by
 unfold VW at q;split at q
 ·exact .inl ⟨rfl,by rw [Jd];exact q⟩
 ·exact .inr ⟨_,rfl,by rw [KO];exact q⟩
 ·exact q.elim
def Nx (K:PySem.W.Frag):R2:=fun x y H Q=>match x,y with
 | .str z,.int i=>∃ c,z.length<=sizeLine/\atI z.cps.toList i=some c/\Q (.str ⟨#[c]⟩) H
 | .ref p,.int i=>∃ xs v,(jl K H p xs\/mT K H p xs)/\atI xs i=some v/\Q v H
 | _,_=>False
def VL:Ax X (Nx X.K):=M3.imp fun x y H Q q=>by
 unfold Nx at q;split at q
 ·obtain ⟨c,h1,h2,h3⟩:=q;exact .inr (.inr ⟨_,_,c,rfl,rfl,h1,h2,h3⟩)
 ·obtain ⟨xs,v,h1|h1,h2,h3⟩:=q
  ·exact .inl ⟨_,xs,_,v,rfl,rfl,h1,h2,h3⟩
  ·exact .inr (.inl ⟨_,xs,_,v,rfl,rfl,h1,h2,h3⟩)
 ·exact q.elim
def cM (K:PySem.W.Frag) (hK:X.K=K:=by rfl):Ax X (Nx K):=by
 subst hK;exact VL
def JD (K:PySem.W.Frag) (xs:List V) (H:Hp) (Q:VK):Prop:=match xs with
 | [.str y]=>y.length<=sizeLine/\Q (.int y.length) H
 | [.ref p]=>∃ ys,(jl K H p ys\/mT K H p ys)/\Q (.int ys.length) H
 | _=>False
def Ru:bX X (.builtin "len") (JD X.K):=(xZ.or ya).imp fun xs H Q q=>by
 unfold JD at q;split at q
 ·exact .inl ⟨_,rfl,q.1,q.2⟩
 ·obtain ⟨ys,h1,h2⟩:=q;exact .inr ⟨_,ys,rfl,h1,h2⟩
 ·exact q.elim
def ki (K:PySem.W.Frag) (hK:X.K=K:=by rfl):bX X (.builtin "len") (JD K):=by
 subst hK;exact Ru
def Lp (xs:List V) (H:Hp) (Q:VK):Prop:=match xs with
 | [.int i]=>Q (.int (if i < 0 then -i else i)) H
 | _=>False
def V9:bX X (.builtin "abs") Lp:=Gu.imp fun xs H Q q=>by
 unfold Lp at q;split at q
 ·exact ⟨_,rfl,q⟩
 ·exact q.elim
def MV (xs:List V) (H:Hp) (Q:VK):Prop:=match xs with
 | [.int i]=>Q (.int i) H
 | [.bl k]=>Q (.int (if k=true then 1 else 0)) H
 | _=>False
def We:bX X (.type "int") MV:=D7.imp fun xs H Q q=>by
 unfold MV at q;split at q
 ·exact .inl ⟨_,rfl,q⟩
 ·exact .inr ⟨_,rfl,q⟩
 ·exact q.elim
def KY (xs:List V) (H:Hp) (Q:VK):Prop:=match xs with
 | [.int i,.int j]=>Q (.int (if j < i then j else i)) H
 | _=>False
def QR (hc:X.calm=true):bX X (.builtin "min") KY:=(Ej hc).imp fun xs H Q q=>by
 unfold KY at q;split at q
 ·exact ⟨_,_,rfl,q⟩
 ·exact q.elim
end
def aR:Expr->Bool
 | .Starred ..=>false
 | _=>true
def b7 {e:Expr} {es:List Expr} {env:Env} (h:aR e=true):starEach (e::es) env=(false,eval e env)::starEach es env:=by
 cases e <;> first|rfl|cases h
def cY {env:Env} {pos:Pos}:∀ {es:List Expr},es.all aR=true->(backTo pos (starEach es env)).any (·.1)=false
 | [],_=>rfl
 | e::es,h=>by
  rw [List.all_cons,Bool.and_eq_true] at h;rw [b7 h.1];have ih:=cY (env:=env) (pos:=pos) h.2;show (false||(backTo pos (starEach es env)).any (·.1))=false;rw [ih];rfl
def IR {X:Cx} {e:Expr} {es:List Expr} {te:TE} {t:TA} (ha:PE X e te) (hr:PA X es t) (hn:aR e=true:=by rfl):PA X (e::es) (zH te t):=He ha hr (b7 hn)
section
variable {X:Cx} {x:Str} {p pos:Pos} {e:Expr} {es:List Expr} {t:TA} {id T:String} {r:List V->Hp->VK->Prop}
def Vj (hc:bX X (.builtin id) r) (hm:X.mg x=none) (hv:bootBuiltins x=some (.builtin id)) (ha:PA X (e::es) t) (hg:Gl X x:=by rfl) (h1:aR e=true:=by rfl) (h2:es.all aR=true:=by rfl) (hn:x≠"__name__":=by decide) (hdb:(x==("__debug__":Str))=false:=by decide) :
  PE X (.Call (.Name x p) (e::es) [] pos) (Np r t):=FB hc hg hm hv ha hn hdb (b7 h1) (cY h2)
def VT (hc:bX X (.type T) r) (hm:X.mg x=none) (hv:bootBuiltins x=some (.type T)) (ha:PA X (e::es) t) (hg:Gl X x:=by rfl) (h1:aR e=true:=by rfl) (h2:es.all aR=true:=by rfl) (hn:x≠"__name__":=by decide) (hdb:(x==("__debug__":Str))=false:=by decide) :
  PE X (.Call (.Name x p) (e::es) [] pos) (Np r t):=DS hc hg hm hv ha hn hdb (b7 h1) (cY h2)
end
def cu:bootBuiltins "len"=some (.builtin "len"):=by decide +kernel
def ua:bootBuiltins "all"=some (.builtin "all"):=by decide +kernel
def K6:bootBuiltins "abs"=some (.builtin "abs"):=by decide +kernel
def aq:bootBuiltins "isinstance"=some (.builtin "isinstance"):=by decide +kernel
def Ex:bootBuiltins "min"=some (.builtin "min"):=by decide +kernel
def ma:bootBuiltins "str"=some (.type "str"):=by decide +kernel
def rR:bootBuiltins "int"=some (.type "int"):=by decide +kernel
def yA:bootBuiltins "bool"=some (.type "bool"):=by decide +kernel
def ly:bootBuiltins "tuple"=some (.type "tuple"):=by decide +kernel
def xP:bootBuiltins "enumerate"=some (.type "enumerate"):=by decide +kernel
def Lq:bootBuiltins "set"=some (.type "set"):=by decide +kernel
def RJ {X:Cx} {x:Str} {n:String} {pos:Pos} (hm:X.mg x=none) (hv:bootBuiltins x=some (.type n)) (hg:Gl X x:=by rfl) (hn:x≠"__name__":=by decide) (hd:(x==("__debug__":Str))=false:=by decide):PE X (.Name x pos) (tC (.ty n)) :=
 Hi (v:=.ty n) hg hm hv rfl hn hd
def bA (T C:String):Bool:=T==C||(T=="bool"&&C=="int")
def gw (C:String):Bool:=C=="str"||C=="int"||C=="bool"||C=="list"||C=="tuple"||C=="dict"
theorem sS:bA "NoneType" "str"=false:=by decide +kernel
theorem sZ:bA "NoneType" "int"=false:=by decide +kernel
theorem rG:bA "NoneType" "bool"=false:=by decide +kernel
theorem qR:bA "NoneType" "list"=false:=by decide +kernel
theorem qk:bA "NoneType" "tuple"=false:=by decide +kernel
theorem rS:bA "NoneType" "dict"=false:=by decide +kernel
theorem Aa:bA "bool" "str"=false:=by decide +kernel
theorem yW:bA "bool" "int"=true:=by decide +kernel
theorem xO:bA "bool" "bool"=true:=by decide +kernel
theorem yd:bA "bool" "list"=false:=by decide +kernel
theorem vW:bA "bool" "tuple"=false:=by decide +kernel
theorem xu:bA "bool" "dict"=false:=by decide +kernel
theorem A4:bA "int" "str"=false:=by decide +kernel
theorem Bj:bA "int" "int"=true:=by decide +kernel
theorem zc:bA "int" "bool"=false:=by decide +kernel
theorem zv:bA "int" "list"=false:=by decide +kernel
theorem yr:bA "int" "tuple"=false:=by decide +kernel
theorem zK:bA "int" "dict"=false:=by decide +kernel
theorem A9:bA "str" "str"=true:=by decide +kernel
theorem BC:bA "str" "int"=false:=by decide +kernel
theorem zb:bA "str" "bool"=false:=by decide +kernel
theorem Ai:bA "str" "list"=false:=by decide +kernel
theorem xr:bA "str" "tuple"=false:=by decide +kernel
theorem zw:bA "str" "dict"=false:=by decide +kernel
theorem y8:bA "list" "str"=false:=by decide +kernel
theorem zS:bA "list" "int"=false:=by decide +kernel
theorem yo:bA "list" "bool"=false:=by decide +kernel
theorem xH:bA "list" "list"=true:=by decide +kernel
theorem vA:bA "list" "tuple"=false:=by decide +kernel
theorem xk:bA "list" "dict"=false:=by decide +kernel
theorem xY:bA "tuple" "str"=false:=by decide +kernel
theorem xj:bA "tuple" "int"=false:=by decide +kernel
theorem vM:bA "tuple" "bool"=false:=by decide +kernel
theorem vQ:bA "tuple" "list"=false:=by decide +kernel
theorem tK:bA "tuple" "tuple"=true:=by decide +kernel
theorem vB:bA "tuple" "dict"=false:=by decide +kernel
theorem zJ:bA "dict" "str"=false:=by decide +kernel
theorem zl:bA "dict" "int"=false:=by decide +kernel
theorem xF:bA "dict" "bool"=false:=by decide +kernel
theorem xw:bA "dict" "list"=false:=by decide +kernel
theorem vZ:bA "dict" "tuple"=false:=by decide +kernel
theorem xt:bA "dict" "dict"=true:=by decide +kernel
theorem M6:gw "str"=true:=by decide +kernel
theorem Mo:gw "int"=true:=by decide +kernel
theorem HY:gw "bool"=true:=by decide +kernel
theorem GW:gw "list"=true:=by decide +kernel
theorem F0:gw "tuple"=true:=by decide +kernel
theorem IM:gw "dict"=true:=by decide +kernel
def lU {K:PySem.W.Frag} {T C:String} (hT:T="NoneType"\/T="bool"\/T="int"\/T="str"\/T="list"\/T="tuple"\/T="dict") (hC:gw C=true):PySem.W.kitOne K (.type T) (.type C)=some (bA T C):=by
 have hC':C="str"\/C="int"\/C="bool"\/C="list"\/C="tuple"\/C="dict":=by
  unfold gw at hC;simp only [Bool.or_eq_true,beq_iff_eq] at hC;rcases hC with ((((h|h)|h)|h)|h)|h <;> simp [h]
 rcases hT with h|h|h|h|h|h|h <;> subst h <;> rcases hC' with h|h|h|h|h|h <;> subst h <;> first|rfl|decide +kernel
section
variable {X:Cx}
def R9 (Q:Option Int->Hp->Prop):VK:=fun x H1=>match x with
 | .int i=>Q (some i) H1
 | _=>False
def Ke (t:TE):TO:=fun σ H Q=>t σ H (R9 Q)
def IB {e:Expr} {te:TE} (h:PE X e te):PO X (some e) (Ke te):=by
 intro af s σ H Q I hw;rw [evalPart_some];refine eB (h af s σ H _ I hw) fun u s1 hh=>mP hh fun x H1 I1 r1 q1=>?_;cases x with
 | int i =>
  obtain ⟨t,rfl⟩:=r1;exact ⟨some i,H1,I1,.int i t,q1⟩
 | _=>exact q1.elim
def bW (z:Str) (lo hi:Option Int):Str:=⟨((z.cps.toList.drop (HT.sIx z.length 0 lo)).take (HT.sIx z.length z.length hi - HT.sIx z.length 0 lo)).toArray⟩
def Kf (v:Int) (n d:Nat):max 0 (min (if v < 0 then v+(n:Int) else v) (n:Int))=((HT.sIx n d (some v):Nat):Int):=by
 show _=(((if v < 0 then (v+(n:Int)).toNat else min v.toNat n):Nat):Int);by_cases hv:v < 0
 ·simp only [if_pos hv];omega
 ·simp only [if_neg hv];omega
def loS (lo:Option Int) (n:Nat):(match lo with|none=>(0:Int)|some i=>max 0 (min (if i < 0 then i+(n:Int) else i) (n:Int)))=((HT.sIx n 0 lo:Nat):Int):=by
 cases lo with
 | none=>rfl
 | some v=>exact Kf v n 0
def hiS (hi:Option Int) (n:Nat):(match hi with|none=>(n:Int)|some i=>max 0 (min (if i < 0 then i+(n:Int) else i) (n:Int)))=((HT.sIx n n hi:Nat):Int):=by
 cases hi with
 | none=>rfl
 | some v=>exact Kf v n n
def Ss (lo hi:Option Int) (n:Nat):Builtin.Str.strSliceIndices lo hi 1 n=sliceRange ((HT.sIx n 0 lo:Nat):Int) ((HT.sIx n n hi:Nat):Int) 1:=by
 have h1:((1:Int) > 0)=True:=by simp
 simp only [Builtin.Str.strSliceIndices,h1,if_true];rw [<- loS,<- hiS];cases lo <;> cases hi <;> rfl
def VE (a b n:Nat) (ha:a<=n) (hb:b<=n):Builtin.Str.strSliceIndices (some (a:Int)) (some (b:Int)) 1 n=sliceRange (a:Int) (b:Int) 1:=by
 rw [Ss,HT.mm,HT.mm,Nat.min_eq_left ha,Nat.min_eq_left hb]
def Bo (z:Str) (lo hi:Option Int):Txt.slice z lo hi=bW z lo hi:=by
 have ha:=HT.Bq z.length 0 (Nat.zero_le _) lo;have hb:=HT.Bq z.length z.length (Nat.le_refl _) hi;unfold Txt.slice;rw [Ss,<- VE _ _ _ ha hb];unfold bW;generalize HT.sIx z.length 0 lo=a at ha ⊢;generalize HT.sIx z.length z.length hi=b at hb ⊢;by_cases hab:a<=b
 ·exact StrLaws.sliceText_nat z hab hb
 ·have e:Builtin.Str.strSliceIndices (some (a:Int)) (some (b:Int)) 1 z.length=[]:=by
   have h1:((1:Int) > 0)=True:=by simp
   have n1:¬ ((a:Int) < 0):=by omega
   have n2:¬ ((b:Int) < 0):=by omega
   have e1:max (0:Int) (min (a:Int) (z.length:Int))=a:=by omega
   have e2:max (0:Int) (min (b:Int) (z.length:Int))=b:=by omega
   simp only [Builtin.Str.strSliceIndices,sliceRange,h1,if_true,if_neg n1,if_neg n2,e1,e2];rw [if_neg (by omega)];rfl
  have e0:b - a=0:=by omega
  rw [e,e0,List.take_zero];split
  ·rename_i h;have hz:z.length=0:=by
    have h':0=z.length:=by simpa using h
    exact h'.symm
   apply Str.ext'
   show z.cps=#[];exact Array.eq_empty_of_size_eq_zero hz
  ·rfl
def Hn (z:Str) (lo hi:Option Int):(bW z lo hi).length<=z.length:=by
 unfold bW;show (Array.size _)<=_;rw [List.size_toArray,List.length_take,List.length_drop];simp [Str.length];omega
def Lu:AL X (fun x lo hi H Q=>∃ z,x=.str z/\z.length<=sizeLine/\Q (.str (bW z lo hi)) H):=by
 intro af s σ H x v vl vu lo hi sl Q I rx hs pl pu h;obtain ⟨z,rfl,hz,q⟩:=h;obtain ⟨t,rfl⟩:=rx;have fin:∀ (l u:Option (Int×Tok)),l.map (·.1)=lo->u.map (·.1)=hi->s.heap.IsSlice sl l u none->wpAny (model X.prog X.w) X.A (getItem (.str z t) (.ref sl)) (EP X af σ Q) X.xe s:=fun l u e1 e2 hs'=>by
  refine bf I.tk (wpAny_getItem_str_slice hs' rfl ?_);subst e1 e2;refine post_val_or_str ?_;have e:(if (((none:Option (Int×Tok)).map (·.1)).getD 1==1&&(slicePicked z l u none).length==z.length)=true then z else ⟨((slicePicked z l u none).filterMap (z.cps[·]?)).toArray⟩)=Txt.slice z (l.map (·.1)) (u.map (·.1)):=rfl;rw [e,Bo];exact ⟨Nat.le_trans (Hn _ _ _) hz,fun t' k htk=>⟨.str _,H,I.tok _,⟨t',rfl⟩,q⟩⟩
 refine ⟨"str",_,F.slot_str_getitem.lookup,typeIs_str s z t,?_⟩;cases pl with
 | none =>
  cases pu with
  | none=>exact fin none none rfl rfl hs
  | int j tj=>exact fin none (some (j,tj)) rfl rfl hs
 | int i ti =>
  cases pu with
  | none=>exact fin (some (i,ti)) none rfl rfl hs
  | int j tj=>exact fin (some (i,ti)) (some (j,tj)) rfl rfl hs
def UO (K:PySem.W.Frag) (x:V) (lo hi:Option Int) (H:Hp) (Q:VK):Prop:=match x with
 | .str z=>z.length<=sizeLine/\Q (.str (bW z lo hi)) H
 | .ref a=>(∃ xs,jl K H a xs/\∀ p,H p=none->Q (.ref p) (dE H p (.lst (vX xs lo hi)))) \/
  ∃ xs,mT K H a xs/\¬ (HT.sIx xs.length 0 lo=0/\HT.sIx xs.length xs.length hi=xs.length)/\∀ p,H p=none->Q (.ref p) (dE H p (.tup (vX xs lo hi)))
 | _=>False
def U8:AL X (UO X.K):=(Lu.or (Je.or MY)).imp fun x lo hi H Q q=>by
 unfold UO at q;split at q
 ·exact .inl ⟨_,rfl,q.1,q.2⟩
 ·rcases q with ⟨xs,h1,h2⟩|⟨xs,h1,h2,h3⟩
  ·exact .inr (.inl ⟨_,xs,rfl,h1,h2⟩)
  ·exact .inr (.inr ⟨_,xs,rfl,h1,h2,h3⟩)
 ·exact q.elim
def yI (K:PySem.W.Frag) (hK:X.K=K:=by rfl):AL X (UO K):=by
 subst hK;exact U8
variable {tg:Expr}
def kIt (K:PySem.W.Frag) (R:It->Hp->Prop):VK:=fun x H1=>match x with
 | .str z=>R (Nt z) H1
 | .ref a=>((∃ xs,jl K H1 a xs)/\R (VX K a) H1)\/((∃ xs,mT K H1 a xs)/\R (U1 K a) H1)
 | _=>False
def Wq (K:PySem.W.Frag) (tl:TE):TI:=fun σ H R=>tl σ H (kIt K R)
def LQ (K:PySem.W.Frag) {l:Expr} {tl:TE} (hl:PE X l tl) (hK:X.K=K:=by rfl):PI X tg l (Wq K tl):=by
 subst hK;intro af s σ H R I h;refine eB (hl af s σ H _ I h) fun v s1 hh=>mP hh fun x H1 I1 r1 q1=>?_;cases x with
 | str z =>
  obtain ⟨t,rfl⟩:=r1;have fp1:∀ b∈[s1.heap.objs.size],iV X af H1 b:=fun b hb=>by
   have e:b=s1.heap.objs.size:=by simpa using hb
   subst e;exact I1.fpOk (Nat.le_refl _) (I1.hok.fresh (Nat.le_refl _))
  cases ha:z.cps.all (· < 128)
  ·refine wpAny_pyIter_wide ha ?_;exact ⟨s1.heap.objs.size,[s1.heap.objs.size],_,_,H1,rfl,I1.kept (t':=s1.toks) fun b o e=>Heap.get?_push_of_some _ e,DF _ z t,⟨_,Heap.get?_push_size _ rfl,rfl,rfl⟩,fp1,q1⟩
  ·refine wpAny_pyIter_ascii ha ?_;exact ⟨s1.heap.objs.size,[s1.heap.objs.size],_,_,H1,rfl,I1.kept (t':=s1.toks) fun b o e=>Heap.get?_push_of_some _ e,Bh _ z t,⟨_,Heap.get?_push_size _ rfl,rfl,rfl⟩,fp1,q1⟩
 | ref a =>
  cases r1;have fp1:∀ b∈[s1.heap.objs.size],iV X af H1 b:=fun b hb=>by
   have e:b=s1.heap.objs.size:=by simpa using hb
   subst e;exact I1.fpOk (Nat.le_refl _) (I1.hok.fresh (Nat.le_refl _))
  rcases q1 with ⟨⟨xs,hq⟩,q⟩|⟨⟨xs,hq⟩,q⟩
  ·obtain ⟨its,rv,p,hz⟩:=I1.list hq;refine wpAny_pyIter_list p.isList ?_;exact ⟨s1.heap.objs.size,[s1.heap.objs.size],_,_,H1,rfl,I1.kept (t':=s1.toks) fun b o e=>Heap.get?_push_of_some _ e,DT a _,⟨_,Heap.get?_push_size _ rfl,rfl,rfl⟩,fp1,q⟩
  ·obtain ⟨its,rv,p,hz⟩:=I1.tuple hq;refine wpAny_pyIter_tuple (show s1.heap.IsTuple a its.toArray from p) ?_;exact ⟨s1.heap.objs.size,[s1.heap.objs.size],_,_,H1,rfl,I1.kept (t':=s1.toks) fun b o e=>Heap.get?_push_of_some _ e,AE a _,⟨_,Heap.get?_push_size _ rfl,rfl,rfl⟩,fp1,q⟩
 | _=>exact q1.elim
def Kl (R:It->Hp->Prop):List V->Hp->Prop:=fun vs H1=>match vs with
 | [.int j]=>(-(2 ^ 62)<=j/\j < 2 ^ 62)/\R (UE 0 j.toNat) H1
 | _=>False
def KH (ta:TA):TI:=fun σ H R=>ta σ H (Kl R)
def Dr {a:Expr} {ta:TA} {p pos:Pos} (hg:Gl X "range") (hm:X.mg "range"=none) (ha:PA X [a] ta) (hs:starEach [a] X.env=[(false,eval a X.env)]:=by rfl):PI X tg (.Call (.Name "range" p) [a] [] pos) (KH ta):=by
 intro af s σ H R I h;refine Call_ (nV I hg hm boot_range (PyProof.Rows.callWith_type1 (eB (ha pos af s σ H _ I h) fun us s1 hh=>mP hh fun vs H1 I1 r1 q1=>?_) hs rfl));unfold Kl at q1;split at q1
 ·obtain ⟨⟨q2,q3⟩,q⟩:=q1;cases r1 with
  | cons r rr =>
   cases rr;obtain ⟨t,rfl⟩:=r;exact call_range_1 (F5 I1 (by omega) (by omega) q2 q3 (by simpa using q))
 ·exact q1.elim
def Vz (r:Str->List V->Hp->VK->Prop) (z:Str) (Q:VK):List V->Hp->Prop:=fun xs H2=>r z xs H2 Q
def kSM (r:Str->List V->Hp->VK->Prop) (t:TA) (σ:St) (Q:VK):VK:=fun x H1=>match x with
 | .str z=>t σ H1 (Vz r z Q)
 | _=>False
def W2 (r:Str->List V->Hp->VK->Prop) (to:TE) (t:TA):TE:=fun σ H Q=>to σ H (kSM r t σ Q)
def HK (X:Cx) (id:String) (r:Str->List V->Hp->VK->Prop):Prop :=
 ∀ (af:List (Addr×Obj)) (s:Shared) (σ:St) (H:Hp) (z:Str) (t:Tok) (xs:List V) (us:List Value) (Q:VK),Inv X af σ H s->bC xs us->r z xs H Q ->
  wpAny (model X.prog X.w) X.A (call (.builtin id) (.str z t::us)) (EP X af σ Q) X.xe s
def S5 {o e:Expr} {es:List Expr} {to:TE} {t:TA} {name:Str} {apos cpos:Pos} {id:String} {r:Str->List V->Hp->VK->Prop} (slot:Slot "str" name id) (hty:typeOf (.builtin id)=pure (.type "method_descriptor")) (hm:HK X id r) (ho:PE X o to) (ha:PA X (e::es) t)
  (hbase:attributeBase o name X.env (eval o X.env)=eval o X.env:=by rfl)
  (hfew:((backTo cpos (starEach (e::es) X.env)).all (fun x=>!x.1)&&(backToKw cpos (keywordEach [] X.env)).all (fun x=>x.1.isSome)
   && decide ((e::es).length+([]:List Keyword).length+(if ([]:List Keyword).isEmpty then 0 else 1) < 30))=true:=by rfl)
  (hline:(apos.endLine==cpos.line)=true:=by rfl) (hs:starEach (e::es) X.env=(false,eval e X.env)::starEach es X.env:=by rfl) (hplain:(backTo cpos (starEach es X.env)).any (·.1)=false:=by rfl) :
  PE X (.Call (.Attribute o name apos) (e::es) [] cpos) (W2 r to t):=by
 intro af s σ H Q I h;refine wpAny_Call_method_late hbase hfew hline rfl (eB (ho af s σ H _ I h) fun v s1 hh=>mP hh fun x H1 I1 r1 q1=>?_);cases x with
 | str z =>
  obtain ⟨tk,rfl⟩:=r1;refine ⟨"str",id,PySem.F.plainAttrs_str,slot,hty,typeIs_str s1 z tk,(fun _ e=>nomatch e),?_⟩
  have hA:=ha cpos af s1 σ H1 _ I1 q1;rw [hs] at hA ⊢;refine Calls.callWith_builtin (by show (false||(backTo cpos (starEach es X.env)).any (·.1))=false;rw [hplain] <;> rfl) (Calls.evalArgs_plain ?_);exact eB hA fun us s2 hh=>mP hh fun vs H2 I2 r2 q2=>hm af s2 σ H2 z tk vs us Q I2 r2 q2
 | _=>exact q1.elim
def Go (K:PySem.W.Frag) (z:Str) (xs:List V) (H:Hp) (Q:VK):Prop:=match xs with
 | [.ref p]=>∃ ys:List Str,jl K H p (ys.map V.str)/\(ys.map (·.length)).sum+ys.length*z.length<=16777216/\Q (.str (Txt.join z ys)) H
 | _=>False
def t5:∀ {ys:List Str} {us:List Value},bC (ys.map V.str) us->StrsAre us ys
 | [],us,r=>by cases r;exact .nil
 | y::ys,us,r=>by
  cases r with
  | cons r rr =>
   obtain ⟨t,rfl⟩:=r;exact .cons y t (t5 rr)
def gF (K:PySem.W.Frag) (hK:X.K=K:=by rfl):HK X "str.join" (Go K):=by
 subst hK;intro af s σ H z t xs us Q I r h;unfold Go at h;split at h
 ·obtain ⟨ys,hq,hz,q⟩:=h;obtain ⟨u,rfl,rx⟩:=gM r;cases rx;obtain ⟨its,rv,p,hz'⟩:=I.list hq;exact bf I.tk (join_list p.isList (by simpa using t5 rv) hz fun t' k htk=>⟨.str (Txt.join z ys),H,I.tok _,⟨t',rfl⟩,q⟩)
 ·exact h.elim
def Hr (f:Str->Str->V) (z:Str) (xs:List V) (H:Hp) (Q:VK):Prop:=match xs with
 | [.str y]=>Q (f z y) H
 | _=>False
def io:HK X "str.startswith" (Hr fun x y=>.bl (Txt.startswith x y)):=by
 intro af s σ H z t xs us Q I r h;unfold Hr at h;split at h
 ·obtain ⟨u,rfl,t',rfl⟩:=gM r;exact SC.startswith ⟨.bl _,H,I,rfl,h⟩
 ·exact h.elim
def zr:HK X "str.endswith" (Hr fun x y=>.bl (Txt.endswith x y)):=by
 intro af s σ H z t xs us Q I r h;unfold Hr at h;split at h
 ·obtain ⟨u,rfl,t',rfl⟩:=gM r;exact SC.endswith ⟨.bl _,H,I,rfl,h⟩
 ·exact h.elim
end
structure Def (K:PySem.W.Frag) (mg:Str->Option Value) (x:Str) (st:Stmt) (ps:List Str) (f:Addr) (fd:FuncData):Prop where
 F:Fun K x x st f fd
 b:uz K fd ps []
 m:mg x=some (.ref f)
section
variable {X:Cx} {x:Str} {st:Stmt} {ps:List Str} {f:Addr} {fd:FuncData} {j k:Nat} {sp:Sp} {p pos:Pos} {e:Expr} {es:List Expr} {t:TA}
def Ks (sp:Sp) (t:TA):TE:=fun σ H Q=>t σ H fun vs H1=>sp vs H1 Q E0
def pc (D:Def X.K X.mg x st ps f fd) (G:FnOk X.prog X.w X.K X.mg X.base gW j f fd ps sp) (hr:Room k X.A) (ha:PA X (e::es) t) (hj:j<=k:=by decide) (hg:Gl X x:=by rfl) (hdb:(x==("__debug__":Str))=false:=by decide)
  (h1:aR e=true:=by rfl) (h2:es.all aR=true:=by rfl):PE X (.Call (.Name x p) (e::es) [] pos) (Ks sp t):=by
 have he:starEach (e::es) X.env=(false,eval e X.env)::starEach es X.env:=b7 h1;have hpl:(backTo pos (starEach es X.env)).any (·.1)=false:=cY h2;intro af s σ H Q I h;refine wpAny_Call_Name_kw (il I hg D.m ?_ hdb);refine PySem.W.callWith_K (h₀:=X.base) I.ok.mod.kin D.F.kp (eB (ha pos af s σ H _ I h) fun us s1 hh=>mP hh fun vs H1 I1 r q=>⟨I1.kIn,?_⟩) he hpl;exact Ng (dvs:=[]) G (hr.mono hj) D.b .nil Qe I1 r (by rw [List.append_nil];exact q)
end
def bo {H:Hp} {p:Addr} (h:H p=none) (o:HO):aD H (dE H p o):=fun b u q=>by rw [bn (bK q h)];exact q
def aD.seqT {K:PySem.W.Frag} {H H':Hp} {a:Addr} {xs:List V} (e:aD H H') (h:mT K H a xs):mT K H' a xs:=by
 rcases h with (h|⟨o,h⟩)|h
 ·exact .inl (.inl (e _ _ h))
 ·exact .inl (.inr ⟨o,e _ _ h⟩)
 ·exact .inr h
abbrev pf (z:Str):List V:=z.cps.toList.map fun c=>V.str ⟨#[c]⟩
def CS (a b:Str):(a++b).cps.toList=a.cps.toList++b.cps.toList:=by
 show (a.cps++b.cps).toList=_;exact Array.toList_append
def str_len (a:Str):a.length=a.cps.toList.length:=by simp [Str.length]
def KG:∀ (sep:Str) (ys:List Str),(Str.join sep ys).cps.toList=((ys.map (fun y:Str=>y.cps.toList)).intersperse sep.cps.toList).flatten
 | _,[]=>rfl
 | _,[x]=>by simp [Str.join]
 | sep,x::y::r=>by
  have ih:=KG sep (y::r);show ((x++sep)++Str.join sep (y::r)).cps.toList=_;rw [CS,CS,ih];simp [List.append_assoc]
def rf (sep:Str) (ys:List Str):(Txt.join sep ys).cps.toList=((ys.map (fun y:Str=>y.cps.toList)).intersperse sep.cps.toList).flatten:=by
 show (Builtin.Str.glued sep ys).cps.toList=_;rw [StrLaws.glued_eq_join,KG]
section
variable {K:PySem.W.Frag} {σ:St} {H H1 H2:Hp} {Q:VK} {QB R':Bool->Hp->Prop} {ta tb te:TE} {tt uu:TT} {t tr:TA} {x y v:V} {xs vs:List V} {r:R2} {c:Bool} {i j:Int}
def VR (r:R2) (x:V) (Q:VK):VK:=fun y H2=>r x y H2 Q
def Vn (r:R2) (tb:TE) (σ:St) (Q:VK):VK:=fun x H1=>tb σ H1 (VR r x Q)
variable {z z':Str} {c':Bool} {p:Addr}
end
structure JE (X:Cx) (e:Expr) (t:TE):Prop where
 out:PE X e t
structure JT (X:Cx) (e:Expr) (t:TT):Prop where
 out:PT X e t
structure JW (X:Cx) (e:Expr) (t:TT):Prop where
 out:PW X e t
structure JA (X:Cx) (es:List Expr) (t:TA):Prop where
 out:PA X es t
structure JS (X:Cx) (st:Stmt) (t:TS):Prop where
 out:PS X st t
structure JB (X:Cx) (st:List Stmt) (t:TS):Prop where
 out:Ag X st t
structure JG (X:Cx) (e:Expr) (t:TG):Prop where
 out:PG X e t
structure JGs (X:Cx) (es:List Expr) (t:Eo):Prop where
 out:Q6 X es t
structure JI (X:Cx) (tg e:Expr) (t:TI):Prop where
 out:PI X tg e t
structure JO (X:Cx) (e:Option Expr) (t:TO):Prop where
 out:PO X e t
structure JTs (X:Cx) (es:List Expr) (t:TT):Prop where
 out:Il X es t
section
variable {X:Cx} {a b c e:Expr} {ta tb tc te:TE} {tA tB':TT} {pos:Pos} {rest es:List Expr} {t:TA}
def jv (i:Nat) {x:Str} {pos:Pos} (hN:X.N[i]?=some x:=by rfl) (hv:Em X.env.scope x:=by first|exact Or.inl rfl|exact Or.inr (Or.inl rfl)|exact Or.inr (Or.inr rfl)) (hd:(x==("__debug__":Str))=false:=by decide)
  (hcd:(x==("__classdict__":Str))=false:=by decide):JE X (.Name x pos) (ER i):=⟨qv i hN hv hd hcd⟩
def NF {i j pos}:JE X (.Constant (.int i) j pos) (tC (.int i)):=⟨M4⟩
def U7 {b j pos}:JE X (.Constant (.bool b) j pos) (tC (.bl b)):=⟨P3⟩
def Uh {j pos}:JE X (.Constant .none j pos) (tC .non):=⟨LR⟩
def Rs {x j pos}:JE X (.Constant (.str x) j pos) (tC (.str x)):=⟨LC⟩
def Ml {x:Str} {v:V} {u:Value} {pos:Pos} (hm:X.mg x=some u) (r:bw v u) (hg:Gl X x:=by rfl) (hd:(x==("__debug__":Str))=false:=by decide):JE X (.Name x pos) (tC v):=⟨HX hg hm r hd⟩
def Vi {x:Str} {n:String} {pos:Pos} (hm:X.mg x=none) (hv:bootBuiltins x=some (.type n)) (hg:Gl X x:=by rfl) (hn:x≠"__name__":=by decide) (hd:(x==("__debug__":Str))=false:=by decide):JE X (.Name x pos) (tC (.ty n)):=⟨RJ hm hv hg hn hd⟩
def Vq {op:Operator} {r:R2} (ho:gf X (binaryOp op) r) (ha:JE X a ta) (hb:JE X b tb):JE X (.BinOp a op b pos) (DX r ta tb):=⟨N6 ho ha.out hb.out⟩
def V7 {op:UnaryOp} {r:V->Hp->VK->Prop} (ho:IE X (unaryOp op) r) (ha:JE X a ta):JE X (.UnaryOp op a pos) (Xh r ta):=⟨Tf ho ha.out⟩
def PU (ha:JE X a ta):JE X (.UnaryOp .Not a pos) (PN ta):=⟨Lr ha.out⟩
def NN {op} (h:JE X a ta):JE X (.BoolOp op [a] pos) ta:=⟨MC h.out⟩
def Uy (ha:JE X a ta) (hb:JE X (.BoolOp .And (b::rest) pos) tb):JE X (.BoolOp .And (a::b::rest) pos) (Qi ta tb):=⟨MJ ha.out hb.out⟩
def Pp {op:CmpOp} {r:R2} (ho:gf X (compareOp op) r) (ha:JE X a ta) (hb:JE X b tb) (hm:behindInMarks op b=false):JE X (.Compare a [op] [b] pos) (DX r ta tb):=⟨GZ ho ha.out hb.out hm⟩
def LS {op:CmpOp} {r:R2} (ho:gf X (compareOp op) r) (ha:JE X a ta) (hb:JE X b tb) (hm:behindInMarks op b=false):JT X (.Compare a [op] [b] pos) (J9 (DX r ta tb)):=⟨HC ho ha.out hb.out hm⟩
def Pe (hc:JT X c tA) (ha:JE X a ta) (hb:JE X b tb):JE X (.IfExp c a b pos) (WW tA ta tb):=⟨Ey hc.out ha.out hb.out⟩
def HJ (h:JW X a tA):JT X a tA:=⟨h.out.pt⟩
def IV (ha:JT X a tA):JW X (.BoolOp .And [a] pos) tA:=⟨Hu ha.out⟩
def MN (ha:JT X a tA):JW X (.BoolOp .Or [a] pos) tA:=⟨Mv ha.out⟩
def Ly (ha:JT X a tA) (hb:JW X (.BoolOp .And (b::rest) pos) tB'):JW X (.BoolOp .And (a::b::rest) pos) (Ti tA tB'):=⟨KR ha.out hb.out⟩
def Q3 (ha:JT X a tA) (hb:JW X (.BoolOp .Or (b::rest) pos) tB'):JW X (.BoolOp .Or (a::b::rest) pos) (Xf tA tB'):=⟨RO ha.out hb.out⟩
def Lx (ha:JT X a tA):JT X (.UnaryOp .Not a pos) (Qn tA):=⟨MO ha.out⟩
def GI (K:PySem.W.Frag) (ha:JE X a ta) (he:∀ whole,isTrue a X.env whole=(do let v <- whole;standAt a.pos;holding [v] (truthy v)):=by exact fun _=>rfl) (hK:X.K=K:=by rfl):JT X a (Fv K ta):=⟨Et K ha.out he hK⟩
def yC:JA X [] JK:=⟨MU⟩
def tz (ha:JE X e te) (hr:JA X es t) (hn:aR e=true:=by rfl):JA X (e::es) (zH te t):=⟨IR ha.out hr.out hn⟩
def Tp (h:JA X es t):JE X (.List es pos) (OM t):=⟨Lz h.out⟩
def T6 {x1} (h:JA X es t):JE X (.Tuple es x1 pos) (Pf t):=⟨KP h.out⟩
def PC {r:R2} (hr:Ax X r) (ha:JE X a ta) (hb:JE X b tb) (hs:tH b:=by exact fun _ _=>rfl):JE X (.Subscript a b pos) (DX r ta tb):=⟨OA hr ha.out hb.out hs⟩
def GY:JO X none CD:=⟨G2⟩
def Iy (h:JE X e te):JO X (some e) (Ke te):=⟨IB h.out⟩
def HL {r:V->Option Int->Option Int->Hp->VK->Prop} {lo hi:Option Expr} {tl th:TO} {p2:Pos} (hr:AL X r) (he:JE X e te) (hl:JO X lo tl) (hu:JO X hi th):JE X (.Subscript e (.Slice lo hi none p2) pos) (Wy r te tl th):=⟨Gc hr he.out hl.out hu.out⟩
end
section
variable {X:Cx} {x:Str} {st:Stmt} {ps:List Str} {f:Addr} {fd:FuncData} {j k:Nat} {sp:Sp} {p pos:Pos} {e:Expr} {es:List Expr} {t:TA} {id T:String} {r:List V->Hp->VK->Prop}
def Mi (D:Def X.K X.mg x st ps f fd) (G:FnOk X.prog X.w X.K X.mg X.base gW j f fd ps sp) (hr:Room k X.A) (ha:JA X (e::es) t) (hj:j<=k:=by decide) (hg:Gl X x:=by rfl) (hdb:(x==("__debug__":Str))=false:=by decide)
  (h1:aR e=true:=by rfl) (h2:es.all aR=true:=by rfl):JE X (.Call (.Name x p) (e::es) [] pos) (Ks sp t):=⟨pc D G hr ha.out hj hg hdb h1 h2⟩
def HS (hc:bX X (.builtin id) r) (hm:X.mg x=none) (hv:bootBuiltins x=some (.builtin id)) (ha:JA X (e::es) t) (hg:Gl X x:=by rfl) (h1:aR e=true:=by rfl) (h2:es.all aR=true:=by rfl) (hn:x≠"__name__":=by decide) (hdb:(x==("__debug__":Str))=false:=by decide) :
  JE X (.Call (.Name x p) (e::es) [] pos) (Np r t):=⟨Vj hc hm hv ha.out hg h1 h2 hn hdb⟩
def B1 (hc:bX X (.type T) r) (hm:X.mg x=none) (hv:bootBuiltins x=some (.type T)) (ha:JA X (e::es) t) (hg:Gl X x:=by rfl) (h1:aR e=true:=by rfl) (h2:es.all aR=true:=by rfl) (hn:x≠"__name__":=by decide) (hdb:(x==("__debug__":Str))=false:=by decide) :
  JE X (.Call (.Name x p) (e::es) [] pos) (Np r t):=⟨VT hc hm hv ha.out hg h1 h2 hn hdb⟩
end
section
variable {X:Cx} {o e:Expr} {es:List Expr} {to:TE} {t:TA} {name:Str} {apos cpos:Pos} {id:String}
def y9 {env:Env} {pos:Pos} {es:List Expr} (h:es.all aR=true) (hl:es.length < 29):((backTo pos (starEach es env)).all (fun x=>!x.1)&&(backToKw pos (keywordEach [] env)).all (fun x=>x.1.isSome)
   && decide (es.length+([]:List Keyword).length+(if ([]:List Keyword).isEmpty then 0 else 1) < 30))=true:=by
 have h1:(backTo pos (starEach es env)).all (fun x=>!x.1)=true:=by
  have:=cY (env:=env) (pos:=pos) h
  rw [List.any_eq_false] at this;rw [List.all_eq_true];intro x hx
  have:=this x hx
  simpa using this
 rw [h1];show (true&&true&&decide (es.length+0+0 < 30))=true;rw [decide_eq_true (by omega)];rfl
def Va {r:Str->List V->Hp->VK->Prop} (slot:Slot "str" name id) (hty:typeOf (.builtin id)=pure (.type "method_descriptor")) (hm:HK X id r) (ho:JE X o to) (ha:JA X (e::es) t)
  (hbase:attributeBase o name X.env (eval o X.env)=eval o X.env:=by rfl) (hline:(apos.endLine==cpos.line)=true:=by rfl) (h1:(e::es).all aR=true:=by rfl) (hl:(e::es).length < 29:=by decide) :
  JE X (.Call (.Attribute o name apos) (e::es) [] cpos) (W2 r to t):=by
 have h1':=h1;rw [List.all_cons,Bool.and_eq_true] at h1';exact ⟨S5 slot hty hm ho.out ha.out hbase (y9 h1 hl) hline (b7 h1'.1) (cY h1'.2)⟩
end
section
variable {X:Cx} {osc:Scope} {ON N:List Str} {ix:List (Option Nat)} {scope:Scope} {tg elt iter:Expr} {ifs:List Expr} {pos:Pos} {wi:TI} {g:TG} {tt:TT} {te:TE}
def Ir:JTs X [] NG:=⟨G6⟩
def Mt (hcs:Bz osc ON N ix scope=true) (hi:JI X tg iter wi) (hg:∀ b,JG (jL X N scope b) tg g) (ht:∀ b,JTs (jL X N scope b) ifs tt) (he:∀ b,JE (jL X N scope b) elt te)
  (hE:X.env.scope=osc:=by rfl) (hO:X.N=ON:=by rfl) (hc:X.calm=true:=by rfl) (hs:∀ x,foldedSetIterable iter X.env x=pure x:=by intro _;rfl):JE X (.ListComp elt [⟨tg,iter,ifs,0⟩] scope pos) (zO ix wi g tt te) :=
 ⟨GD (Fi hcs) hE hO hc hi.out (fun b=>(hg b).out) (fun b=>(ht b).out) (fun b=>(he b).out) hs⟩
def Bi {i:Nat} {x:Str} {spos pos':Pos} (hN:X.N.Nodup) (hl:Ct X.env.scope x) (hcs:Bz osc ON N ix scope=true) (hi:JI X tg iter wi) (hg:∀ b,JG (jL X N scope b) tg g) (ht:∀ b,JTs (jL X N scope b) ifs tt) (he:∀ b,JE (jL X N scope b) elt te)
  (hx:X.N[i]?=some x:=by rfl) (hE:X.env.scope=osc:=by rfl) (hO:X.N=ON:=by rfl) (hc:X.calm=true:=by rfl)
  (hsw:swapsWith (.ListComp elt [⟨tg,iter,ifs,0⟩] scope pos) (some (.Name x pos')) spos.line X.env=pure true:=by rfl)
  (hf:X.fn x=true\/X.env.scope.names.lookup x=some .local:=by first|exact .inl rfl|exact .inr rfl|assumption)
  (hs:∀ x,foldedSetIterable iter X.env x=pure x:=by intro _;rfl):JS X (.Assign [.Name x pos'] (.ListComp elt [⟨tg,iter,ifs,0⟩] scope pos) spos) (Dj (zO ix wi g tt te) (qh i)) :=
 ⟨Bb hN hx hl (Fi hcs) hE hO hc hi.out (fun b=>(hg b).out) (fun b=>(ht b).out) (fun b=>(he b).out) hsw hf hs⟩
def MA (K:PySem.W.Frag) {l:Expr} {tl:TE} (hl:JE X l tl) (hK:X.K=K:=by rfl):JI X tg l (Wq K tl):=⟨LQ K hl.out hK⟩
def Dd {a:Expr} {ta:TA} {p pos:Pos} (hm:X.mg "range"=none) (ha:JA X [a] ta) (hg:Gl X "range":=by rfl) (hn:aR a=true:=by rfl):JI X tg (.Call (.Name "range" p) [a] [] pos) (KH ta):=⟨Dr hg hm ha.out (b7 hn)⟩
end
section
variable {X:Cx} {pos:Pos} {st:Stmt} {rest:List Stmt} {t u:TS} {e:Expr} {te:TE}
def Jl {i:Nat} {x:Str} (hN:X.N.Nodup) (hi:X.N[i]?=some x) (hx:Ct X.env.scope x) (hf:X.fn x=true\/X.env.scope.names.lookup x=some .local:=by first|exact .inl rfl|exact .inr rfl|assumption):JG X (.Name x pos) (qh i):=⟨Cv hN hi hx hf⟩
def Ix:JGs X [] QE:=⟨G8⟩
def Fy {e:Expr} {es:List Expr} {t:TG} {u:Eo} (h1:JG X e t) (h2:JGs X es u)
  (hs:(assignEach (e::es) X.env).map (·.2)=assign e X.env::(assignEach es X.env).map (·.2):=by rfl):JGs X (e::es) (KD t u):=⟨FN h1.out h2.out hs⟩
def LO (K:PySem.W.Frag) {es:List Expr} {k:Nat} {t:Eo} {n:Nat} (h:JGs X es t) (hc:X.calm=true:=by rfl)
  (hn:(assignEach es X.env).length=n:=by rfl) (hst:(assignEach es X.env).findIdx? (·.1)=none:=by rfl) (hK:X.K=K:=by rfl):JG X (.Tuple es k pos) (OK K n t):=by
 subst hK;exact ⟨LP hc h.out hn hst⟩
def Mp:JB X [] Kq:=⟨Hw⟩
def JC (h1:JS X st t) (h2:JB X rest u):JB X (st::rest) (Sw t u):=⟨EC h1.out h2.out⟩
def LV (h1:JS X st t):JB X [st] t:=⟨Jh h1.out⟩
def HV (he:JE X e te) (hs:swapsWith e none pos.line X.env=pure false:=by rfl):JS X (.Expr e pos) (Gp te):=⟨Ip he.out hs⟩
def Nh (he:JE X e te):JS X (.Return (some e) pos) (QX te):=⟨Lk he.out⟩
def Uo {c:Expr} {a b:List Stmt} {tc:TT} (hc:JT X c tc) (ha:JB X a t) (hb:JB X b u):JS X (.If c a b pos) (Uu tc t u):=⟨Pl hc.out ha.out hb.out⟩
def EZ {i:Nat} {x:Str} {pos':Pos} (hN:X.N.Nodup) (hx:Ct X.env.scope x) (he:JE X e te) (hi:X.N[i]?=some x:=by rfl) (hs:swapsWith e (some (.Name x pos')) pos.line X.env=pure false:=by rfl) (hf:X.fn x=true\/X.env.scope.names.lookup x=some .local:=by first|exact .inl rfl|exact .inr rfl|assumption) :
  JS X (.Assign [.Name x pos'] e pos) (Dj te (qh i)):=⟨LY hN hi hx he.out hs hf⟩
def KZ {tg iter:Expr} {body:List Stmt} {wi:TI} {g:TG} {tb:TS} (hp:PassesOwn (model X.prog X.w) X.A X.env X.xe) (hi:JI X tg iter wi) (hg:JG X tg g) (hb:JB X body tb) (hc:X.calm=true:=by rfl)
  (hs:∀ x,foldedSetIterable iter X.env x=pure x:=by intro _;rfl):JS X (.For tg iter body [] pos) (Ri wi g tb):=⟨Ni hp hc hi.out hg.out hb.out hs⟩
end
section
variable {P:Program} {w:World} {K:PySem.W.Frag} {mg:Str->Option Value} {base:Heap}
def Fun.okJ {x qual:Str} {st:Stmt} {f:Addr} {fd:FuncData} {N ps:List Str} {k:Nat} {sp:Sp} (F:Fun K x qual st f fd) (S:FnScope N ps (ap st)) (len:∀ vs H Q E,sp vs H Q E->vs.length=ps.length)
  (hbody:∀ (cdv:Value) (A:Around) (outer:List Env) (s:Shared) (H:Hp) (vs:List V) (Q:VK) (E:XK),Room k (A.deeper (envOfC qual (ap st) s.heap.objs.size f cdv))->sp vs H Q E ->
   ∃ t,JB (lc gW P w K mg base N qual (ap st) f cdv A outer s H E).nox (cR st) t/\t { nx:=fun _ H'=>Q .non H',rt:=Q } (start N vs) H):FnOk P w K mg base gW (k+1) f fd ps sp :=
 F.ok S len fun cdv A outer s H vs Q E hr h=>let ⟨t,h1,h2⟩:=hbody cdv A outer s H vs Q E hr h;⟨t,h1.out,h2⟩
end
end L2
namespace L2
open PySem PySem.Builtin
section
variable {prog:Program} {w:World} {A:Around} {E:Value->Shared->Prop} {s:Shared}
def pN {it l:Addr} {i:Nat} {items} {x:Value} {Q:Value->Shared->Prop} (hit:s.heap.IsTupleIter it l i)
  (hl:s.heap.IsTuple l items) (hx:items[i]?=some x)
  (hQ:∀ h',h'.IsTupleIter it l (i+1)->Heap.SameBut it s.heap h'->Q x { s with heap:=h' }) :
  wpAny (model prog w) A (Builtin.SmallTypes.nextOf (.ref it)) Q E s:=by
 obtain ⟨o,ho,hc,hd⟩:=id hit;obtain ⟨ol,hol,_,nl,hdl⟩:=hl;unfold Builtin.SmallTypes.nextOf;refine wpAny_bind (wpAny_callSpecial?_slot (name:=Str.ofString "__next__") hit.typeIs F.slot_tuple_iterator_next
  (wpAny_call_entry F.slot_tuple_iterator_next hit.typeIs F.entry_tuple_iterator_next ?_ (F.args_tuple_iterator_next_1 _)))
 show wpAny _ _ (field (.ref it) 0 >>= _) _ _ s;refine wpAny_bind (wpAny_field ho hd (x:=.ref l) rfl ?_);show wpAny _ _ (if (Value.ref l==Value.none)=true then _ else _) _ _ s;rw [if_neg (show ¬ ((Value.ref l==Value.none)=true) from Bool.false_ne_true)];show wpAny _ _ (field (.ref it) 1 >>= _) _ _ s;refine wpAny_bind (wpAny_field ho hd (x:=.int i 0) rfl ?_);show wpAny _ _ (seqItems? (.ref l) >>= _) _ _ s;refine wpAny_bind (wpAny_seqItems hol hdl ?_);simp only [Int.toNat_natCast,hx];refine wpAny_bind (wpAny_setField ho hd (by simp) (wpAny_pure ⟨x,rfl,wpAny_pure (hQ _ ?_ (Heap.SameBut.update ..))⟩));exact ⟨_,Heap.get?_update_self _ ho (Obj.isFreed_of_fields (Obj.data_mapFields hd _)),(Obj.cls_mapFields ..).trans hc,by
  rw [Obj.data_mapFields hd];simp [rawInt]⟩
def qZ {it l:Addr} {i:Nat} {items} {Q:Value->Shared->Prop} (hh:A.handled=none)
  (hit:s.heap.IsTupleIter it l i) (hl:s.heap.IsTuple l items) (hx:items[i]?=none)
  (hE:∀ h' e,Heap.ExtBut it s.heap h'->(∃ o,h'.get? e=some o/\o.cls=.type "StopIteration")->E (.ref e) { s with heap:=h' }) :
  wpAny (model prog w) A (Builtin.SmallTypes.nextOf (.ref it)) Q E s:=by
 obtain ⟨o,ho,hc,hd⟩:=id hit;obtain ⟨ol,hol,_,nl,hdl⟩:=hl;unfold Builtin.SmallTypes.nextOf;refine wpAny_bind (wpAny_callSpecial?_slot (name:=Str.ofString "__next__") hit.typeIs F.slot_tuple_iterator_next
  (wpAny_call_entry F.slot_tuple_iterator_next hit.typeIs F.entry_tuple_iterator_next ?_ (F.args_tuple_iterator_next_1 _)))
 show wpAny _ _ (field (.ref it) 0 >>= _) _ _ s;refine wpAny_bind (wpAny_field ho hd (x:=.ref l) rfl ?_);show wpAny _ _ (if (Value.ref l==Value.none)=true then _ else _) _ _ s;rw [if_neg (show ¬ ((Value.ref l==Value.none)=true) from Bool.false_ne_true)];show wpAny _ _ (field (.ref it) 1 >>= _) _ _ s;refine wpAny_bind (wpAny_field ho hd (x:=.int i 0) rfl ?_);show wpAny _ _ (seqItems? (.ref l) >>= _) _ _ s;refine wpAny_bind (wpAny_seqItems hol hdl ?_);simp only [Int.toNat_natCast,hx];refine wpAny_bind (wpAny_rule (wpAny_bind (wpAny_setField ho hd (by simp) ?_)));show wpAny _ _ (newExc (.type "StopIteration") [] >>= _) _ _ _;refine wpAny_bind ?_;simp only [newExc,newTuple];refine wpAny_bind (wpAny_newObj_type ?_ (by size_fits));refine wpAny_bind (m:=firstArgMember _ _) (wpAny_of_eq (a:=Value.none) (by first|rfl|(simp only [firstArgMember];rfl)) ?_);refine wpAny_newObj_type ?_ (by size_fits);simp only [raiseNew];refine wpAny_bind (wpAny_handled ?_)
 first|rw [show A.in1.handled=none from hh]|rw [hh]
 refine wpAny_bind (wpAny_pure (wpAny_throw ?_));exact hE _ _ (((Heap.SameBut.update ..).extBut.push _).push _) ⟨_,Heap.get?_push_size _ rfl,rfl⟩
end
def zE {prog:Program} {w:World} {A:Around} (hh:A.handled=none) (it l:Addr) (hne:l≠it) (items:Array Value) :
  Draws prog w A it [it,l] items.size (fun i v=>items[i]?=some v) (fun i h=>h.IsTupleIter it l i/\h.IsTuple l items) where
 live:=fun _ _ st=>let ⟨o,ho,_⟩:=st.1;⟨o,ho⟩
 frame:=fun _ _ _ st hk=>⟨(let ⟨o,e,r⟩:=st.1;⟨o,hk it (by simp) o e,r⟩),by
  obtain ⟨o,e,r⟩:=st.2;exact ⟨o,hk l (by simp) o e,r⟩⟩
 item:=fun i s Q E hi st hQ=>by
  refine pN st.1 st.2 (x:=items[i]) (by simp [hi]) fun h' hit' hs'=>?_;refine hQ _ h' s.toks (by simp [hi]) ⟨hit',?_⟩ hs';obtain ⟨o,e,r⟩:=st.2;exact ⟨o,hs'.extBut l o hne e,r⟩
 done:=fun s Q E st hE=>qZ hh st.1 st.2 (by simp) hE
def Fp (a:Value) (o:Obj) (h:Heap):Prop:=∀ (prog:Program) (w:World) (A:Around) (s:Shared) (Q:Value->Shared->Prop) (E:Value->Shared->Prop),(∀ b u,h.get? b=some u->s.heap.get? b=some u)->Q (.ref s.heap.objs.size) { s with heap:=s.heap.push o }->wpAny (model prog w) A (pyIter a) Q E s
def zt (a:Value) (o1:Obj) :
  Meets (Builtin.«enumerate.__new__» ⟨[.type "enumerate",a],[]⟩) (fun _ R s=>Fp a o1 s.heap /\
   R (.ok (.ret (.ref (s.heap.push o1).objs.size))) { s with heap:=(s.heap.push o1).push { cls:=.type "enumerate",data:=.fields #[.none,.bool false,.ref s.heap.objs.size,rawInt 0,.none,.none] } }) :=
 .of_wp fun prog w A R s h=>by
  obtain ⟨hp,g,d,tk,os⟩:=s;obtain ⟨hl1,h⟩:=h;have hsub:=sub_enumerate;have p1:∀ {A:Around} {Q:Value->Shared->Prop} {E:Value->Shared->Prop},Q (.ref hp.objs.size) ⟨hp.push o1,g,d,tk,os⟩->wpAny (model prog w) A (pyIter a) Q E ⟨hp,g,d,tk,os⟩:=fun {A Q E} q=>hl1 prog w A ⟨hp,g,d,tk,os⟩ Q E (fun _ _ e=>e) q
  wp_walk
  refine wpAny_stack_any fun st=>wpAny_pure ?_;split
  ·rename_i c _ _ _ _ _;cases (c==Value.type "enumerate")
   ·wp_walk using p1
    exact ⟨_,rfl,h⟩
   ·wp_walk using p1
    exact ⟨_,rfl,h⟩
  ·wp_walk using p1
   exact ⟨_,rfl,h⟩
section
variable {prog:Program} {w:World} {A:Around} {E:Value->Shared->Prop} {s:Shared}
def Bv {a:Value} {o1:Obj} {Q:Value->Shared->Prop} (i1:Fp a o1 s.heap) (f1:o1.isFreed=false)
  (h:∀ h',IsEnum h' (s.heap.objs.size+1) s.heap.objs.size 0 .none->h'.get? s.heap.objs.size=some o1->h'.objs.size=s.heap.objs.size+2 ->
   (∀ b o,s.heap.get? b=some o->h'.get? b=some o)->Q (.ref (s.heap.objs.size+1)) { s with heap:=h' }) :
  wpAny (model prog w) A (call (.type "enumerate") [a]) Q E s:=by
 refine callType_new F.called_enumerate (by decide) (F.typeCall_enumerate_1 _) (F.newCall_enumerate_1 _) (fun obj=>F.args_object_init_2 obj _) F.entry_enumerate_new
  (zt a o1) ⟨i1,?_⟩
 have hz:(s.heap.push o1).objs.size=s.heap.objs.size+1:=Heap.size_push ..;show _/\_;rw [hz];have he:IsEnum ((s.heap.push o1).push
   { cls:=.type "enumerate",data:=.fields #[.none,.bool false,.ref s.heap.objs.size,rawInt 0,.none,.none] }) (s.heap.objs.size+1) s.heap.objs.size 0 .none:=by
  have:=Heap.get?_push_size (s.heap.push o1)
   (o:={ cls:=.type "enumerate",data:=.fields #[.none,.bool false,.ref s.heap.objs.size,rawInt 0,.none,.none] }) rfl
  rw [hz] at this;exact this
 refine ⟨⟨_,he,rfl⟩,h _ he (Heap.get?_push_of_some _ (Heap.get?_push_size _ f1)) (by rw [Heap.size_push,hz]) fun b o x=>Heap.get?_push_of_some _ (Heap.get?_push_of_some _ x)⟩
end
end L2
namespace L2
open PySem PySem.Spec PyProof.Rows
def JE.imp {X:Cx} {e:Expr} {t t':TE} (h:JE X e t) (i:∀ σ H Q,t' σ H Q->t σ H Q):JE X e t':=⟨h.out.imp i⟩
def JT.imp {X:Cx} {e:Expr} {t t':TT} (h:JT X e t) (i:∀ σ H Q,t' σ H Q->t σ H Q):JT X e t':=⟨fun af s σ H Q I q=>h.out af s σ H Q I (i σ H Q q)⟩
def JW.imp {X:Cx} {e:Expr} {t t':TT} (h:JW X e t) (i:∀ σ H Q,t' σ H Q->t σ H Q):JW X e t':=⟨fun w af s σ H Q I q=>h.out w af s σ H Q I (i σ H Q q)⟩
def JA.imp {X:Cx} {es:List Expr} {t t':TA} (h:JA X es t) (i:∀ σ H Q,t' σ H Q->t σ H Q):JA X es t':=⟨fun pos af s σ H Q I q=>h.out pos af s σ H Q I (i σ H Q q)⟩
def JS.imp {X:Cx} {st:Stmt} {t t':TS} (h:JS X st t) (i:∀ D σ H,t' D σ H->t D σ H):JS X st t':=⟨fun af s σ H D I q=>h.out af s σ H D I (i D σ H q)⟩
def JB.imp {X:Cx} {st:List Stmt} {t t':TS} (h:JB X st t) (i:∀ D σ H,t' D σ H->t D σ H):JB X st t':=⟨fun af s σ H D I q=>h.out af s σ H D I (i D σ H q)⟩
def JG.imp {X:Cx} {e:Expr} {t t':TG} (h:JG X e t) (i:∀ v σ H Q,t' v σ H Q->t v σ H Q):JG X e t':=⟨fun af s σ H v u Q I r q=>h.out af s σ H v u Q I r (i v σ H Q q)⟩
def JGs.imp {X:Cx} {es:List Expr} {t t':Eo} (h:JGs X es t) (i:∀ v σ H Q,t' v σ H Q->t v σ H Q):JGs X es t':=⟨fun af s σ H v u Q I r q=>h.out af s σ H v u Q I r (i v σ H Q q)⟩
def JI.imp {X:Cx} {tg e:Expr} {t t':TI} (h:JI X tg e t) (i:∀ σ H R,t' σ H R->t σ H R):JI X tg e t':=⟨fun af s σ H R I q=>h.out af s σ H R I (i σ H R q)⟩
def JO.imp {X:Cx} {e:Option Expr} {t t':TO} (h:JO X e t) (i:∀ σ H Q,t' σ H Q->t σ H Q):JO X e t':=⟨fun af s σ H Q I q=>h.out af s σ H Q I (i σ H Q q)⟩
def JTs.imp {X:Cx} {es:List Expr} {t t':TT} (h:JTs X es t) (i:∀ σ H Q,t' σ H Q->t σ H Q):JTs X es t':=⟨fun af s σ H Q I q=>h.out af s σ H Q I (i σ H Q q)⟩
inductive D where
 | non|bl (b:Bool)|int (i:Int)|str (x:Str)|ty (n:String)
 | lst (xs:List D)|tup (xs:List D)|dct (kvs:List (pA×D))|obj (C:Addr) (fs:List (Str×D))
 /-- an exception that was caught,by its class's name;a class of the text -/
 | exn (x:Str)|cls (x:Str)
def AO (a C:Addr):HO:=.ext fun h=>∃ o vs,h.get? a=some o/\o.cls=.ref C/\o.dict=none/\o.data=.fields vs
section
variable (K:PySem.W.Frag) (H:Hp)
mutual
def gy:D->V->Prop
 | .non,v=>v=.non
 | .bl b,v=>v=.bl b
 | .int i,v=>v=.int i
 | .str x,v=>v=.str x
 | .ty n,v=>v=.ty n
 | .lst ds,v=>∃ a xs,v=.ref a/\jl K H a xs/\aX ds xs
 | .tup ds,v=>∃ a xs,v=.ref a/\mT K H a xs/\aX ds xs
 | .dct ds,v=>∃ a xs,v=.ref a/\H a=some (.dK xs)/\vv ds xs
 | .obj C fs,v=>∃ a dx xs,v=.ref a/\H a=some (.ins C dx xs)/\yU fs xs
 | .exn x,v=>∃ a C,v=.ref a/\PySem.W.nsIn K mainGlobals x=some (some (.ref C))/\H a=some (AO a C)
 | .cls x,v=>∃ C,v=.ref C/\PySem.W.nsIn K mainGlobals x=some (some (.ref C))
def aX:List D->List V->Prop
 | [],xs=>xs=[]
 | d::ds,xs=>∃ v vs,xs=v::vs/\gy d v/\aX ds vs
def vv:List (pA×D)->List (pA×V)->Prop
 | [],xs=>xs=[]
 | (k,d)::ds,xs=>∃ v vs,xs=(k,v)::vs/\gy d v/\vv ds vs
def yU:List (Str×D)->List (Str×V)->Prop
 | [],xs=>xs=[]
 | (k,d)::ds,xs=>∃ v vs,xs=(k,v)::vs/\gy d v/\yU ds vs
end
end
section
variable {K:PySem.W.Frag} {H H':Hp}
mutual
def gy.mono (s:aD H H'):∀ {d:D} {v:V},gy K H d v->gy K H' d v
 | .non,_,h=>h
 | .bl _,_,h=>h
 | .int _,_,h=>h
 | .str _,_,h=>h
 | .ty _,_,h=>h
 | .lst ds,_,⟨a,xs,e,h1,h2⟩=>⟨a,xs,e,s.seq h1,aX.mono s h2⟩
 | .tup ds,_,⟨a,xs,e,h1,h2⟩=>⟨a,xs,e,s.seqT h1,aX.mono s h2⟩
 | .dct ds,_,⟨a,xs,e,h1,h2⟩=>⟨a,xs,e,s _ _ h1,vv.mono s h2⟩
 | .obj C ds,_,⟨a,dx,xs,e,h1,h2⟩=>⟨a,dx,xs,e,s _ _ h1,yU.mono s h2⟩
 | .exn _,_,⟨a,C,e,h1,h2⟩=>⟨a,C,e,h1,s _ _ h2⟩
 | .cls _,_,h=>h
def aX.mono (s:aD H H'):∀ {d:List D} {v:List V},aX K H d v->aX K H' d v
 | [],_,h=>h
 | d::ds,_,⟨v,vs,e,h1,h2⟩=>⟨v,vs,e,gy.mono s h1,aX.mono s h2⟩
def vv.mono (s:aD H H'):∀ {d:List (pA×D)} {v:List (pA×V)},vv K H d v->vv K H' d v
 | [],_,h=>h
 | (k,d)::ds,_,⟨v,vs,e,h1,h2⟩=>⟨v,vs,e,gy.mono s h1,vv.mono s h2⟩
def yU.mono (s:aD H H'):∀ {d:List (Str×D)} {v:List (Str×V)},yU K H d v->yU K H' d v
 | [],_,h=>h
 | (k,d)::ds,_,⟨v,vs,e,h1,h2⟩=>⟨v,vs,e,gy.mono s h1,yU.mono s h2⟩
end
theorem aX.len:∀ {ds:List D} {xs:List V},aX K H ds xs->ds.length=xs.length
 | [],_,h=>by cases h;rfl
 | d::ds,_,⟨v,vs,e,h1,h2⟩=>by subst e;simp [aX.len h2]
def aX.get:∀ {ds:List D} {xs:List V} {i:Nat} {d:D},aX K H ds xs->ds[i]?=some d->∃ v,xs[i]?=some v/\gy K H d v
 | [],_,_,_,_,e=>by simp at e
 | d::ds,_,0,_,⟨v,vs,e,h1,h2⟩,q=>by
  simp at q;subst q e;exact ⟨v,rfl,h1⟩
 | d::ds,_,i+1,_,⟨v,vs,e,h1,h2⟩,q=>by
  subst e;obtain ⟨u,h3,h4⟩:=aX.get (i:=i) h2 (by simpa using q);exact ⟨u,by simpa using h3,h4⟩
def aX.got:∀ {ds:List D} {xs:List V} {i:Nat} {v:V},aX K H ds xs->xs[i]?=some v->∃ d,ds[i]?=some d/\gy K H d v
 | [],_,_,_,h,e=>by cases h;simp at e
 | d::ds,_,0,_,⟨v,vs,e,h1,h2⟩,q=>by
  subst e;simp at q;subst q;exact ⟨d,rfl,h1⟩
 | d::ds,_,i+1,_,⟨v,vs,e,h1,h2⟩,q=>by
  subst e;obtain ⟨u,h3,h4⟩:=aX.got (i:=i) h2 (by simpa using q);exact ⟨u,by simpa using h3,h4⟩
def aX.nil:aX K H [] []:=rfl
theorem aX.cons {d:D} {ds:List D} {v:V} {xs:List V} (h:gy K H d v) (t:aX K H ds xs):aX K H (d::ds) (v::xs):=⟨v,xs,rfl,h,t⟩
def aX.append:∀ {ds es:List D} {xs ys:List V},aX K H ds xs->aX K H es ys->aX K H (ds++es) (xs++ys)
 | [],_,_,_,h,t=>by cases h;exact t
 | d::ds,_,_,_,⟨v,vs,e,h1,h2⟩,t=>by subst e;exact ⟨v,_,rfl,h1,aX.append h2 t⟩
def aX.take:∀ {ds:List D} {xs:List V} (n:Nat),aX K H ds xs->aX K H (ds.take n) (xs.take n)
 | _,_,0,_=>by simp only [List.take_zero];exact rfl
 | [],_,n+1,h=>by cases h;exact rfl
 | d::ds,_,n+1,⟨v,vs,e,h1,h2⟩=>by subst e;exact ⟨v,_,rfl,h1,aX.take n h2⟩
def aX.drop:∀ {ds:List D} {xs:List V} (n:Nat),aX K H ds xs->aX K H (ds.drop n) (xs.drop n)
 | _,_,0,h=>h
 | [],_,n+1,h=>by cases h;exact rfl
 | d::ds,_,n+1,⟨v,vs,e,h1,h2⟩=>by subst e;exact aX.drop n h2
end
def aS (as:List Addr) (H:Hp):Hp:=fun b=>if b∈as then none else H b
def kt {as:List Addr} {H:Hp} {b:Addr} (h:b∈as):aS as H b=none:=if_pos h
def bp {as:List Addr} {H:Hp} {b:Addr} (h:b∉as):aS as H b=H b:=if_neg h
def FH {H:Hp}:aS [] H=H:=by funext b;exact if_neg (by simp)
def aQ (as:List Addr) (H:Hp):aD (aS as H) H:=fun b o e=>by
 unfold aS at e;split at e
 ·cases e
 ·exact e
def a8 {as:List Addr} {H H':Hp} (s:aD H H'):aD (aS as H) (aS as H'):=fun b o e=>by
 unfold aS at e ⊢;split at e
 ·cases e
 ·rename_i h;rw [if_neg h];exact s b o e
def tT (as bs:List Addr) (H:Hp):aS (as++bs) H=aS bs (aS as H):=by
 funext b
 unfold aS;by_cases h1:b∈as <;> by_cases h2:b∈bs <;> simp [h1,h2]
def qu {as bs:List Addr} {H:Hp} (h:∀ a∈bs,a∈as):aD (aS as H) (aS bs H):=fun b o e=>by
 by_cases hb:b∈as
 ·rw [kt hb] at e;cases e
 ·rw [bp hb] at e;rw [bp fun z=>hb (h b z)];exact e
def C5 {as:List Addr} {B H:Hp} (s:aD B H) (h:∀ a∈as,B a=none):aD B (aS as H):=fun b o e=>by
 have hb:b∉as:=fun z=>by rw [h b z] at e;cases e
 rw [bp hb];exact s b o e
inductive R (α:Type) where
 | ok (a:α)
 | er (x:Str)
 | no
def R.bind {α β:Type} (r:R α) (f:α->R β):R β:=match r with
 | .ok a=>f a
 | .er x=>.er x
 | .no=>.no
theorem ah {α β:Type} {a:α} {f:α->R β}:(R.ok a).bind f=f a:=rfl
theorem Jg {α β:Type} {x:Str} {f:α->R β}:(R.er x).bind f=.er x:=rfl
theorem IQ {α β:Type} {f:α->R β}:(R.no).bind f=.no:=rfl
def bind_assoc {α β γ:Type} (r:R α) (f:α->R β) (g:β->R γ):(r.bind f).bind g=r.bind fun a=>(f a).bind g:=by cases r <;> rfl
structure Wd where
 K:PySem.W.Frag
 mg:Str->Option Value
 E:XK
abbrev Sd:=List (Option D)
def dJ (W:Wd) (as:List Addr) (H:Hp) (r:R D) (Q:VK):Prop:=match r with
 | .ok d=>∀ v H',aD H H'->gy W.K (aS as H') d v->Q v H'
 | .er x=>∀ e C H',aD H H'->W.mg x=some (.ref C)->W.E e (some C) H'
 | .no=>False
def gX (W:Wd) (as:List Addr) (H:Hp) (r:R (List D)) (Q:List V->Hp->Prop):Prop:=match r with
 | .ok d=>∀ v H',aD H H'->aX W.K (aS as H') d v->Q v H'
 | .er x=>∀ e C H',aD H H'->W.mg x=some (.ref C)->W.E e (some C) H'
 | .no=>False
def iK {α:Type} (W:Wd) (H:Hp) (r:R α) (Q:α->Hp->Prop):Prop:=match r with
 | .ok b=>∀ H',aD H H'->Q b H'
 | .er x=>∀ e C H',aD H H'->W.mg x=some (.ref C)->W.E e (some C) H'
 | .no=>False
def l9 (K:PySem.W.Frag) (H:Hp) (o:HO):D->Prop
 | .lst ds=>∃ xs,o=.lst xs/\aX K H ds xs
 | .dct ds=>∃ xs,o=.dK xs/\vv K H ds xs
 | .obj C ds=>∃ dx xs,o=.ins C dx xs/\yU K H ds xs
 | _=>False
def mJ (W:Wd) (as:List Addr) (H:Hp) (r:R D) (Q:VK):Prop:=match r with
 | .ok d=>∀ p o H',aD H H'->H p=none->H' p=some o->l9 W.K (aS (p::as) H') o d->Q (.ref p) H'
 | .er x=>∀ e C H',aD H H'->W.mg x=some (.ref C)->W.E e (some C) H'
 | .no=>False
def dJ.mono {W:Wd} {as:List Addr} {H H':Hp} {r:R D} {Q:VK} (h:dJ W as H r Q) (s:aD H H'):dJ W as H' r Q:=by
 cases r with
 | ok d=>exact fun v H2 s2=>h v H2 (s.trans s2)
 | er x=>exact fun e C H2 s2=>h e C H2 (s.trans s2)
 | no=>exact h
def mJ.mono {W:Wd} {as:List Addr} {H H':Hp} {r:R D} {Q:VK} (h:mJ W as H r Q) (s:aD H H'):mJ W as H' r Q:=by
 cases r with
 | ok d=>exact fun p o H2 s2 hp=>h p o H2 (s.trans s2) (s.free hp)
 | er x=>exact fun e C H2 s2=>h e C H2 (s.trans s2)
 | no=>exact h
def gX.mono {W:Wd} {as:List Addr} {H H':Hp} {r:R (List D)} {Q:List V->Hp->Prop} (h:gX W as H r Q) (s:aD H H'):gX W as H' r Q:=by
 cases r with
 | ok d=>exact fun v H2 s2=>h v H2 (s.trans s2)
 | er x=>exact fun e C H2 s2=>h e C H2 (s.trans s2)
 | no=>exact h
def iK.mono {α:Type} {W:Wd} {H H':Hp} {r:R α} {Q:α->Hp->Prop} (h:iK W H r Q) (s:aD H H'):iK W H' r Q:=by
 cases r with
 | ok d=>exact fun H2 s2=>h H2 (s.trans s2)
 | er x=>exact fun e C H2 s2=>h e C H2 (s.trans s2)
 | no=>exact h
def l9.den {K:PySem.W.Frag} {H:Hp} {p:Addr} {as:List Addr} {o:HO} {d:D} (hp:p∉as) (e:H p=some o) (h:l9 K (aS (p::as) H) o d):gy K (aS as H) d (.ref p):=by
 have s:aD (aS (p::as) H) (aS as H):=qu fun a ha=>List.mem_cons_of_mem _ ha;have e':aS as H p=some o:=by rw [bp hp];exact e
 cases d with
 | lst ds=>obtain ⟨xs,rfl,h⟩:=h;exact ⟨p,xs,rfl,.inl (.inl e'),h.mono s⟩
 | dct ds=>obtain ⟨xs,rfl,h⟩:=h;exact ⟨p,xs,rfl,e',h.mono s⟩
 | obj C ds=>obtain ⟨dx,xs,rfl,h⟩:=h;exact ⟨p,dx,xs,rfl,e',h.mono s⟩
 | _=>exact h.elim
structure DI (K:PySem.W.Frag) (as0:List Addr) (B:Hp) (O:List Nat) (own:List Addr) (σ:St) (δ:Sd) (H:Hp):Prop where
 len:δ.length=σ.length
 olen:own.length=O.length
 nd:own.Nodup
 ond:O.Nodup
 fresh:∀ a∈own,B a=none
 ex0:∀ a∈as0,B a≠none
 same:aD B H
 var:∀ i d,i∉O->δ[i]?=some (some d)->∃ v,σ[i]?=some (some v)/\gy K (aS (own++as0) H) d v
 owns:∀ i a,(i,a)∈O.zip own->∃ d o,δ[i]?=some (some d)/\σ[i]?=some (some (.ref a))/\H a=some o/\l9 K (aS (own++as0) H) o d
section
variable {K:PySem.W.Frag} {as0 own:List Addr} {B H H':Hp} {O:List Nat} {σ:St} {δ:Sd}
def l9.mono {o:HO} {d:D} (s:aD H H') (h:l9 K H o d):l9 K H' o d:=by
 cases d with
 | lst ds=>obtain ⟨xs,rfl,h⟩:=h;exact ⟨xs,rfl,h.mono s⟩
 | dct ds=>obtain ⟨xs,rfl,h⟩:=h;exact ⟨xs,rfl,h.mono s⟩
 | obj C ds=>obtain ⟨dx,xs,rfl,h⟩:=h;exact ⟨dx,xs,rfl,h.mono s⟩
 | _=>exact h.elim
def wg:∀ {O:List Nat} {own:List Addr} {a:Addr},own.length=O.length->a∈own->∃ i,(i,a)∈O.zip own
 | [],[],_,_,h=>by cases h
 | i::O,b::own,a,l,h=>by
  rcases List.mem_cons.mp h with rfl|h
  ·exact ⟨i,List.mem_cons_self⟩
  ·obtain ⟨j,hj⟩:=wg (O:=O) (own:=own) (by simpa using l) h;exact ⟨j,List.mem_cons_of_mem _ hj⟩
 | [],_::_,_,l,_=>by simp at l
 | _::_,[],_,_,h=>by cases h
def DI.exi (I:DI K as0 B O own σ δ H):∀ a∈own++as0,H a≠none:=fun a ha=>by
 rcases List.mem_append.mp ha with h|h
 ·obtain ⟨i,hi⟩:=wg I.olen h;obtain ⟨d,o,_,_,e,_⟩:=I.owns i a hi;rw [e];simp
 ·cases e:B a with
  | none=>exact absurd e (I.ex0 a h)
  | some o=>rw [I.same a o e];simp
def DI.new (I:DI K as0 B O own σ δ H) {p:Addr} (h:H p=none):p∉own++as0:=fun z=>I.exi p z h
def DI.mono (I:DI K as0 B O own σ δ H) (s:aD H H'):DI K as0 B O own σ δ H' :=
 ⟨I.len,I.olen,I.nd,I.ond,I.fresh,I.ex0,I.same.trans s,fun i d hi e=>let ⟨v,h1,h2⟩:=I.var i d hi e;⟨v,h1,h2.mono (a8 s)⟩,
  fun i a hi=>let ⟨d,o,h1,h2,h3,h4⟩:=I.owns i a hi;⟨d,o,h1,h2,s a o h3,h4.mono (a8 s)⟩⟩
def DI.base {B':Hp} (I:DI K as0 B' O own σ δ H) (s:aD B B') (h:∀ a∈as0,B a≠none):DI K as0 B O own σ δ H :=
 ⟨I.len,I.olen,I.nd,I.ond,fun a ha=>s.free (I.fresh a ha),h,s.trans I.same,I.var,I.owns⟩
def DI.rebase (I:DI K as0 B O own σ δ H) (h0:∀ a∈own,a∉as0):DI K as0 (aS own H) O own σ δ H :=
 ⟨I.len,I.olen,I.nd,I.ond,fun a ha=>kt ha,fun a ha=>(by
  rw [bp fun z=>h0 a z ha];cases e:B a with
  | none=>exact absurd e (I.ex0 a ha)
  | some o=>rw [I.same a o e];simp),aQ _ _,I.var,I.owns⟩
def DI.apart (I:DI K as0 B O own σ δ H):∀ a∈own,a∉as0:=fun a ha z=>I.ex0 a z (I.fresh a ha)
def DI.baseIn (I:DI K as0 B O own σ δ H):aD B (aS own H):=C5 I.same I.fresh
end
abbrev FE:=Sd->R D
abbrev FT:=Sd->R Bool
abbrev FA:=Sd->R (List D)
def tD (W:Wd) (O:List Nat) (φ:FE):TE:=fun σ H Q=>∃ as0 B own δ,DI W.K as0 B O own σ δ H/\dJ W (own++as0) H (φ δ) Q
def tN (W:Wd) (O:List Nat) (φ:FE):TE:=fun σ H Q=>∃ as0 B own δ,DI W.K as0 B O own σ δ H/\mJ W (own++as0) H (φ δ) Q
def sV (W:Wd) (O:List Nat) (φ:FT):TT:=fun σ H Q=>∃ as0 B own δ,DI W.K as0 B O own σ δ H/\iK W H (φ δ) Q
def tw (W:Wd) (O:List Nat) (φ:FA):TA:=fun σ H Q=>∃ as0 B own δ,DI W.K as0 B O own σ δ H/\gX W (own++as0) H (φ δ) Q
def UN (W:Wd) (O:List Nat) (φ:Sd->R (Option Int)):TO:=fun σ H Q=>∃ as0 B own δ,DI W.K as0 B O own σ δ H/\iK W H (φ δ) Q
section
variable {W:Wd} {as:List Addr} {H:Hp} {Q:VK}
def bG {r:R D} {f:D->R D} {Q':VK} (h:dJ W as H (r.bind f) Q) (q:∀ d v H',aD H H'->gy W.K (aS as H') d v->dJ W as H' (f d) Q->Q' v H'):dJ W as H r Q':=by
 cases r with
 | ok d=>exact fun v H' s dv=>q d v H' s dv (dJ.mono h s)
 | er x=>exact h
 | no=>exact h
def fe {r:R (List D)} {f:List D->R D} {Q':List V->Hp->Prop} (h:dJ W as H (r.bind f) Q) (q:∀ d v H',aD H H'->aX W.K (aS as H') d v->dJ W as H' (f d) Q->Q' v H'):gX W as H r Q':=by
 cases r with
 | ok d=>exact fun v H' s dv=>q d v H' s dv (dJ.mono h s)
 | er x=>exact h
 | no=>exact h
def yQ {r:R (List D)} {f:List D->R D} {Q':List V->Hp->Prop} (h:mJ W as H (r.bind f) Q) (q:∀ d v H',aD H H'->aX W.K (aS as H') d v->mJ W as H' (f d) Q->Q' v H'):gX W as H r Q':=by
 cases r with
 | ok d=>exact fun v H' s dv=>q d v H' s dv (mJ.mono h s)
 | er x=>exact h
 | no=>exact h
def ph {α:Type} {r:R α} {f:α->R D} {Q':α->Hp->Prop} (h:dJ W as H (r.bind f) Q) (q:∀ d H',aD H H'->dJ W as H' (f d) Q->Q' d H'):iK W H r Q':=by
 cases r with
 | ok d=>exact fun H' s=>q d H' s (dJ.mono h s)
 | er x=>exact h
 | no=>exact h
def g5 {α:Type} {r:R D} {f:D->R α} {Q:α->Hp->Prop} {Q':VK} (h:iK W H (r.bind f) Q) (q:∀ d v H',aD H H'->gy W.K (aS as H') d v->iK W H' (f d) Q->Q' v H'):dJ W as H r Q':=by
 cases r with
 | ok d=>exact fun v H' s dv=>q d v H' s dv (iK.mono h s)
 | er x=>exact h
 | no=>exact h
def ni {α β:Type} {r:R α} {f:α->R β} {Q:β->Hp->Prop} {Q':α->Hp->Prop} (h:iK W H (r.bind f) Q) (q:∀ d H',aD H H'->iK W H' (f d) Q->Q' d H'):iK W H r Q':=by
 cases r with
 | ok d=>exact fun H' s=>q d H' s (iK.mono h s)
 | er x=>exact h
 | no=>exact h
def BG {r:R D} {f:D->R (List D)} {Q:List V->Hp->Prop} {Q':VK} (h:gX W as H (r.bind f) Q) (q:∀ d v H',aD H H'->gy W.K (aS as H') d v->gX W as H' (f d) Q->Q' v H'):dJ W as H r Q':=by
 cases r with
 | ok d=>exact fun v H' s dv=>q d v H' s dv (gX.mono h s)
 | er x=>exact h
 | no=>exact h
def zM {r:R (List D)} {f:List D->R (List D)} {Q Q':List V->Hp->Prop} (h:gX W as H (r.bind f) Q) (q:∀ d v H',aD H H'->aX W.K (aS as H') d v->gX W as H' (f d) Q->Q' v H'):gX W as H r Q':=by
 cases r with
 | ok d=>exact fun v H' s dv=>q d v H' s dv (gX.mono h s)
 | er x=>exact h
 | no=>exact h
end
section
variable {X:Cx} {W:Wd} {O:List Nat} {a b c e:Expr} {φ ψ χ:FE} {pos:Pos} {rest es:List Expr} {α:FA}
def ae (i:Nat):FE:=fun δ=>match δ[i]? with
 | some (some d)=>.ok d
 | _=>.no
def vC (d:D):FE:=fun _=>.ok d
def ag (i:Nat) {x:Str} (hO:i∉O:=by decide) (hN:X.N[i]?=some x:=by rfl) (hv:Em X.env.scope x:=by first|exact Or.inl rfl|exact Or.inr (Or.inl rfl)|exact Or.inr (Or.inr rfl)) (hd:(x==("__debug__":Str))=false:=by decide)
  (hcd:(x==("__classdict__":Str))=false:=by decide):JE X (.Name x pos) (tD W O (ae i)):=(jv i hN hv hd hcd).imp fun σ H Q hh=>g4 hh fun as0 B own δ I h=>by
 unfold ae at h;split at h
 ·rename_i d e;obtain ⟨v,h1,h2⟩:=I.var i d hO e;show El σ[i]? H Q;rw [h1];exact h v H (aD.refl H) h2
 ·exact h.elim
def am {i j}:JE X (.Constant (.int i) j pos) (tD W O (vC (.int i))):=NF.imp fun σ H Q hh=>g4 hh fun as0 B own δ I h=>h _ H (aD.refl H) rfl
def qt {b j}:JE X (.Constant (.bool b) j pos) (tD W O (vC (.bl b))):=U7.imp fun σ H Q hh=>g4 hh fun as0 B own δ I h=>h _ H (aD.refl H) rfl
def Ca {j}:JE X (.Constant .none j pos) (tD W O (vC .non)):=Uh.imp fun σ H Q hh=>g4 hh fun as0 B own δ I h=>h _ H (aD.refl H) rfl
def av {x j}:JE X (.Constant (.str x) j pos) (tD W O (vC (.str x))):=Rs.imp fun σ H Q hh=>g4 hh fun as0 B own δ I h=>h _ H (aD.refl H) rfl
def j0 {x:Str} {d:D} {v:V} {u:Value} (hm:X.mg x=some u) (r:bw v u) (hd:∀ H,gy W.K H d v) (hg:Gl X x:=by rfl) (hdb:(x==("__debug__":Str))=false:=by decide):JE X (.Name x pos) (tD W O (vC d)) :=
 (Ml hm r hg hdb).imp fun σ H Q hh=>g4 hh fun as0 B own δ I h=>h _ H (aD.refl H) (hd _)
def oF {x:Str} {n:String} (hm:X.mg x=none) (hv:bootBuiltins x=some (.type n)) (hg:Gl X x:=by rfl) (hn:x≠"__name__":=by decide) (hd:(x==("__debug__":Str))=false:=by decide):JE X (.Name x pos) (tD W O (vC (.ty n))) :=
 (Vi hm hv hg hn hd).imp fun σ H Q hh=>g4 hh fun as0 B own δ I h=>h _ H (aD.refl H) rfl
def rX (W:Wd) (r:R2) (op:D->D->R D):Prop:=∀ (as:List Addr) (H:Hp) (x y:V) (a b:D) (Q:VK),(∀ p,H p=none->p∉as)->gy W.K (aS as H) a x->gy W.K (aS as H) b y->dJ W as H (op a b) Q->r x y H Q
def ao (op:D->D->R D) (φ ψ:FE):FE:=fun δ=>(φ δ).bind fun x=>(ψ δ).bind fun y=>op x y
def FC {t:TE->TE->TE} {r:R2} {op:D->D->R D} (ht:∀ {ta tb:TE},JE X a ta->JE X b tb->JE X e (t ta tb)) (et:t=DX r) (ho:rX W r op) (ha:JE X a (tD W O φ)) (hb:JE X b (tD W O ψ)):JE X e (tD W O (ao op φ ψ)):=by
 subst et;refine (ht ha hb).imp fun σ H Q hh=>g4 hh fun as0 B own δ I h=>⟨as0,B,own,δ,I,bG h fun x v H1 s1 d1 h1=>⟨as0,B,own,δ,I.mono s1,bG h1 fun y u H2 s2 d2 h2=>?_⟩⟩;exact ho (own++as0) H2 v u x y Q (fun p hp=>((I.mono s1).mono s2).new hp) (d1.mono (a8 s2)) d2 h2
def aE {op:Operator} {r:R2} {g:D->D->R D} (ho:gf X (binaryOp op) r) (hd:rX W r g) (ha:JE X a (tD W O φ)) (hb:JE X b (tD W O ψ)):JE X (.BinOp a op b pos) (tD W O (ao g φ ψ)) :=
 FC (t:=DX r) (fun h1 h2=>Vq ho h1 h2) rfl hd ha hb
def gt {op:CmpOp} {r:R2} {g:D->D->R D} (ho:gf X (compareOp op) r) (hd:rX W r g) (ha:JE X a (tD W O φ)) (hb:JE X b (tD W O ψ)) (hm:behindInMarks op b=false):JE X (.Compare a [op] [b] pos) (tD W O (ao g φ ψ)) :=
 FC (t:=DX r) (fun h1 h2=>Pp ho h1 h2 hm) rfl hd ha hb
def bc {r:R2} {g:D->D->R D} (hr:Ax X r) (hd:rX W r g) (ha:JE X a (tD W O φ)) (hb:JE X b (tD W O ψ)) (hs:tH b:=by exact fun _ _=>rfl):JE X (.Subscript a b pos) (tD W O (ao g φ ψ)) :=
 FC (t:=DX r) (fun h1 h2=>PC hr h1 h2 hs) rfl hd ha hb
def W6 (W:Wd) (r:V->Hp->VK->Prop) (op:D->R D):Prop:=∀ (as:List Addr) (H:Hp) (x:V) (a:D) (Q:VK),gy W.K (aS as H) a x->dJ W as H (op a) Q->r x H Q
def L4 (op:D->R D) (φ:FE):FE:=fun δ=>(φ δ).bind op
def UZ {op:UnaryOp} {r:V->Hp->VK->Prop} {g:D->R D} (ho:IE X (unaryOp op) r) (hd:W6 W r g) (ha:JE X a (tD W O φ)):JE X (.UnaryOp op a pos) (tD W O (L4 g φ)) :=
 (V7 ho ha).imp fun σ H Q hh=>g4 hh fun as0 B own δ I h=>⟨as0,B,own,δ,I,bG h fun x v H1 s1 d1 h1=>hd (own++as0) H1 v x Q d1 h1⟩
def GN {α:Type} (d:D) (f:Bool->R α):R α:=match d with
 | .bl b=>f b
 | _=>.no
def AS (φ:FE):FE:=fun δ=>(φ δ).bind fun x=>GN x fun b=>.ok (.bl (!b))
def ji (φ ψ:FE):FE:=fun δ=>(φ δ).bind fun x=>GN x fun b=>if b=true then ψ δ else .ok (.bl false)
def EM (ha:JE X a (tD W O φ)):JE X (.UnaryOp .Not a pos) (tD W O (AS φ)) :=
 (PU ha).imp fun σ H Q hh=>g4 hh fun as0 B own δ I h=>⟨as0,B,own,δ,I,bG h fun x v H1 s1 d1 h1=>by
  cases x with
  | bl b=>cases d1;exact h1 _ H1 (aD.refl _) rfl
  | _=>exact h1.elim⟩
def jV {op} (h:JE X a (tD W O φ)):JE X (.BoolOp op [a] pos) (tD W O φ):=NN h
def gL (ha:JE X a (tD W O φ)) (hb:JE X (.BoolOp .And (b::rest) pos) (tD W O ψ)):JE X (.BoolOp .And (a::b::rest) pos) (tD W O (ji φ ψ)) :=
 (Uy ha hb).imp fun σ H Q hh=>g4 hh fun as0 B own δ I h=>⟨as0,B,own,δ,I,bG h fun x v H1 s1 d1 h1=>by
  cases x with
  | bl b =>
   cases d1;cases b with
   | true=>exact ⟨as0,B,own,δ,I.mono s1,h1⟩
   | false=>exact h1 _ H1 (aD.refl _) rfl
  | _=>exact h1.elim⟩
variable {τ υ:FT}
def bP (φ:FE):FT:=fun δ=>(φ δ).bind fun x=>GN x .ok
def aN {op:CmpOp} {r:R2} {g:D->D->R D} (ho:gf X (compareOp op) r) (hd:rX W r g) (ha:JE X a (tD W O φ)) (hb:JE X b (tD W O ψ)) (hm:behindInMarks op b=false):JT X (.Compare a [op] [b] pos) (sV W O (bP (ao g φ ψ))):=by
 refine (LS ho ha hb hm).imp fun σ H Q hh=>g4 hh fun as0 B own δ I h=>?_;have h':iK W H ((φ δ).bind fun x=>((ψ δ).bind fun y=>g x y).bind fun x=>GN x .ok) Q:=by
  have e:bP (ao g φ ψ) δ=(φ δ).bind fun x=>((ψ δ).bind fun y=>g x y).bind fun x=>GN x .ok:=by
   unfold bP ao;rw [bind_assoc]
  rw [e] at h;exact h
 refine ⟨as0,B,own,δ,I,g5 h' fun x v H1 s1 d1 h1=>?_⟩;have h1':iK W H1 ((ψ δ).bind fun y=>(g x y).bind fun x=>GN x .ok) Q:=by rw [<- bind_assoc];exact h1
 refine ⟨as0,B,own,δ,I.mono s1,g5 h1' fun y u H2 s2 d2 h2=>?_⟩;refine hd (own++as0) H2 v u x y _ (fun p hp=>((I.mono s1).mono s2).new hp) (d1.mono (a8 s2)) d2 (g5 h2 fun z w H3 s3 d3 h3=>?_);cases z with
 | bl k=>cases d3;exact h3 H3 (aD.refl _)
 | _=>exact h3.elim
def E7:D->R Bool
 | .non=>.ok false
 | .bl b=>.ok b
 | .int i=>.ok (i != 0)
 | .str y=>if y.length<=1000000 then .ok (y.length != 0) else .no
 | .lst xs=>.ok (!xs.isEmpty)
 | .tup xs=>.ok (!xs.isEmpty)
 | .dct kvs=>.ok (!kvs.isEmpty)
 | _=>.no
def aX.empty {K:PySem.W.Frag} {H:Hp} {ds:List D} {xs:List V} (h:aX K H ds xs):xs.isEmpty=ds.isEmpty:=by
 cases ds with
 | nil=>cases h;rfl
 | cons d r=>obtain ⟨v,vs,rfl,_⟩:=h;rfl
def vv.empty {K:PySem.W.Frag} {H:Hp} {ds:List (pA×D)} {xs:List (pA×V)} (h:vv K H ds xs):xs.isEmpty=ds.isEmpty:=by
 cases ds with
 | nil=>cases h;rfl
 | cons d r=>obtain ⟨k,d⟩:=d;obtain ⟨v,vs,rfl,_⟩:=h;rfl
def fY:(1000000:Nat)<=sizeLine:=by rw [sizeLine_eq];decide
def cj (φ:FE):FT:=fun δ=>(φ δ).bind E7
def bg (K:PySem.W.Frag) (ha:JE X a (tD W O φ)) (he:∀ whole,isTrue a X.env whole=(do let v <- whole;standAt a.pos;holding [v] (truthy v)):=by exact fun _=>rfl) (hK:X.K=K:=by rfl) (hW:W.K=K:=by rfl):JT X a (sV W O (cj φ)) :=
 (GI K ha he hK).imp fun σ H Q hh=>g4 hh fun as0 B own δ I h=>⟨as0,B,own,δ,I,g5 h fun x v H1 s1 d1 h1=>by
  subst hW;cases x with
  | non=>cases d1;exact h1 H1 (aD.refl _)
  | bl b=>cases d1;exact h1 H1 (aD.refl _)
  | int i=>cases d1;exact h1 H1 (aD.refl _)
  | str y =>
   cases d1;have h2:iK W H1 (if y.length<=1000000 then R.ok (y.length != 0) else R.no) Q:=h1;split at h2
   ·rename_i hl;refine ⟨Nat.le_trans hl fY,?_⟩;have e:((y.length:Int) != 0)=(y.length != 0):=by
     cases hy:y.length with
     | zero=>rfl
     | succ n=>simp;omega
    rw [e];exact h2 H1 (aD.refl _)
   ·exact h2.elim
  | lst ds =>
   obtain ⟨p,xs,rfl,q1,q2⟩:=d1;refine .inl (.inl ⟨xs,(aQ _ _).seq q1,?_⟩);rw [q2.empty];exact h1 H1 (aD.refl _)
  | tup ds =>
   obtain ⟨p,xs,rfl,q1,q2⟩:=d1;refine .inl (.inr ⟨xs,(aQ _ _).seqT q1,?_⟩);rw [q2.empty];exact h1 H1 (aD.refl _)
  | dct ds =>
   obtain ⟨p,xs,rfl,q1,q2⟩:=d1;refine .inr ⟨xs,aQ _ _ _ _ q1,?_⟩;rw [q2.empty];exact h1 H1 (aD.refl _)
  | _=>exact h1.elim⟩
def qN (τ υ:FT):FT:=fun δ=>(τ δ).bind fun b=>if b=true then υ δ else .ok false
def vp (τ υ:FT):FT:=fun δ=>(τ δ).bind fun b=>if b=true then .ok true else υ δ
def eI (τ:FT):FT:=fun δ=>(τ δ).bind fun b=>.ok (!b)
def cU (h:JW X a (sV W O τ)):JT X a (sV W O τ):=HJ h
def oo (ha:JT X a (sV W O τ)):JW X (.BoolOp .And [a] pos) (sV W O τ):=IV ha
def ld (ha:JT X a (sV W O τ)):JW X (.BoolOp .Or [a] pos) (sV W O τ):=MN ha
def qY (ha:JT X a (sV W O τ)) (hb:JW X (.BoolOp .And (b::rest) pos) (sV W O υ)):JW X (.BoolOp .And (a::b::rest) pos) (sV W O (qN τ υ)) :=
 (Ly ha hb).imp fun σ H Q hh=>g4 hh fun as0 B own δ I h=>⟨as0,B,own,δ,I,ni h fun c H1 s1 h1=>by
  cases c with
  | true=>exact ⟨as0,B,own,δ,I.mono s1,h1⟩
  | false=>exact h1 H1 (aD.refl _)⟩
def lr (ha:JT X a (sV W O τ)) (hb:JW X (.BoolOp .Or (b::rest) pos) (sV W O υ)):JW X (.BoolOp .Or (a::b::rest) pos) (sV W O (vp τ υ)) :=
 (Q3 ha hb).imp fun σ H Q hh=>g4 hh fun as0 B own δ I h=>⟨as0,B,own,δ,I,ni h fun c H1 s1 h1=>by
  cases c with
  | false=>exact ⟨as0,B,own,δ,I.mono s1,h1⟩
  | true=>exact h1 H1 (aD.refl _)⟩
def dh (ha:JT X a (sV W O τ)):JT X (.UnaryOp .Not a pos) (sV W O (eI τ)) :=
 (Lx ha).imp fun σ H Q hh=>g4 hh fun as0 B own δ I h=>⟨as0,B,own,δ,I,ni h fun c H1 s1 h1=>h1 H1 (aD.refl _)⟩
def UD (τ:FT) (φ ψ:FE):FE:=fun δ=>(τ δ).bind fun b=>if b=true then φ δ else ψ δ
def SA (hc:JT X c (sV W O τ)) (ha:JE X a (tD W O φ)) (hb:JE X b (tD W O ψ)):JE X (.IfExp c a b pos) (tD W O (UD τ φ ψ)) :=
 (Pe hc ha hb).imp fun σ H Q hh=>g4 hh fun as0 B own δ I h=>⟨as0,B,own,δ,I,ph h fun c H1 s1 h1=>by
  cases c with
  | true=>exact ⟨as0,B,own,δ,I.mono s1,h1⟩
  | false=>exact ⟨as0,B,own,δ,I.mono s1,h1⟩⟩
def aj:FA:=fun _=>.ok []
def ac (φ:FE) (α:FA):FA:=fun δ=>(φ δ).bind fun d=>(α δ).bind fun ds=>.ok (d::ds)
def ai:JA X [] (tw W O aj):=yC.imp fun σ H Q hh=>g4 hh fun as0 B own δ I h=>h [] H (aD.refl _) rfl
def aa (ha:JE X e (tD W O φ)) (hr:JA X es (tw W O α)) (hn:aR e=true:=by rfl):JA X (e::es) (tw W O (ac φ α)) :=
 (tz ha hr hn).imp fun σ H Q hh=>g4 hh fun as0 B own δ I h=>⟨as0,B,own,δ,I,BG h fun d v H1 s1 d1 h1=>⟨as0,B,own,δ,I.mono s1,zM h1 fun ds vs H2 s2 d2 h2 =>
  h2 (v::vs) H2 (aD.refl _) ⟨v,vs,rfl,d1.mono (a8 s2),d2⟩⟩⟩
def z4 (ds:List D):R D:=if ds.length<=1000000 then .ok (.lst ds) else .no
def B7 (ds:List D):R D:=if ds.length<=1000000 then .ok (.tup ds) else .no
def dj (α:FA):FE:=fun δ=>(α δ).bind z4
def kl (α:FA):FE:=fun δ=>(α δ).bind B7
def Ds {as:List Addr} {H:Hp} {ds:List D} {xs:List V} {Q:VK} (h:mJ W as H (z4 ds) Q) (hd:aX W.K (aS as H) ds xs):xs.length<=sizeLine/\∀ p,H p=none->Q (.ref p) (dE H p (.lst xs)):=by
 unfold z4 at h;split at h
 ·rename_i hl;refine ⟨by rw [<- hd.len];exact Nat.le_trans hl fY,fun p hp=>?_⟩;refine h p (.lst xs) (dE H p (.lst xs)) (bo hp _) hp br ⟨xs,rfl,hd.mono ?_⟩;intro b o e;have hb:b≠p:=fun z=>by
   subst z
   have:=aQ _ _ _ _ e
   rw [hp] at this;cases this
  by_cases hm:b∈as
  ·rw [kt hm] at e;cases e
  ·rw [bp hm] at e;rw [bp (by simp [hb,hm]),bn hb];exact e
 ·exact h.elim
def dc (h:JA X es (tw W O α)):JE X (.List es pos) (tN W O (dj α)) :=
 (Tp h).imp fun σ H Q hh=>g4 hh fun as0 B own δ I h=>⟨as0,B,own,δ,I,yQ h fun ds xs H1 s1 d1 h1=>Ds h1 d1⟩
def cc (h:JE X e (tN W O φ)):JE X e (tD W O φ):=h.imp fun σ H Q hh=>g4 hh fun as0 B own δ I q=>by
 refine ⟨as0,B,own,δ,I,?_⟩;cases hr:φ δ with
 | ok d =>
  rw [hr] at q;exact fun p o H' s hp e od=>q (.ref p) H' s (od.den (I.new hp) e)
 | er x=>rw [hr] at q;exact q
 | no=>rw [hr] at q;exact q
def kG {x1} (h:JA X es (tw W O α)):JE X (.Tuple es x1 pos) (tD W O (kl α)) :=
 (T6 h).imp fun σ H Q hh=>g4 hh fun as0 B own δ I h=>⟨as0,B,own,δ,I,fe h fun ds xs H1 s1 d1 h1=>by
  unfold B7 at h1;split at h1
  ·rename_i hl;refine ⟨by rw [<- d1.len];exact Nat.le_trans hl fY,fun p hp=>?_⟩;have hn:=(I.mono s1).new hp;refine h1 (.ref p) (dE H1 p (.tup xs)) (bo hp _) ⟨p,xs,rfl,.inl (.inl ?_),d1.mono (a8 (bo hp _))⟩;rw [bp hn];exact br
  ·exact h1.elim⟩
def lH (W:Wd) (r:List V->Hp->VK->Prop) (g:List D->R D):Prop:=∀ (as:List Addr) (H:Hp) (xs:List V) (ds:List D) (Q:VK),(∀ a∈as,H a≠none)->aX W.K (aS as H) ds xs->dJ W as H (g ds) Q->r xs H Q
def ak (g:List D->R D) (α:FA):FE:=fun δ=>(α δ).bind g
section
variable {x:Str} {p:Pos} {id T:String} {r:List V->Hp->VK->Prop} {g:List D->R D}
def az (hc:bX X (.builtin id) r) (hd:lH W r g) (hm:X.mg x=none) (hv:bootBuiltins x=some (.builtin id)) (ha:JA X (e::es) (tw W O α)) (hg:Gl X x:=by rfl) (h1:aR e=true:=by rfl) (h2:es.all aR=true:=by rfl) (hn:x≠"__name__":=by decide) (hdb:(x==("__debug__":Str))=false:=by decide) :
  JE X (.Call (.Name x p) (e::es) [] pos) (tD W O (ak g α)) :=
 (HS hc hm hv ha hg h1 h2 hn hdb).imp fun σ H Q hh=>g4 hh fun as0 B own δ I h=>⟨as0,B,own,δ,I,fe h fun ds xs H1 s1 d1 h1=>hd (own++as0) H1 xs ds Q (I.mono s1).exi d1 h1⟩
def jn (hc:bX X (.type T) r) (hd:lH W r g) (hm:X.mg x=none) (hv:bootBuiltins x=some (.type T)) (ha:JA X (e::es) (tw W O α)) (hg:Gl X x:=by rfl) (h1:aR e=true:=by rfl) (h2:es.all aR=true:=by rfl) (hn:x≠"__name__":=by decide) (hdb:(x==("__debug__":Str))=false:=by decide) :
  JE X (.Call (.Name x p) (e::es) [] pos) (tD W O (ak g α)) :=
 (B1 hc hm hv ha hg h1 h2 hn hdb).imp fun σ H Q hh=>g4 hh fun as0 B own δ I h=>⟨as0,B,own,δ,I,fe h fun ds xs H1 s1 d1 h1=>hd (own++as0) H1 xs ds Q (I.mono s1).exi d1 h1⟩
end
def eN:Sd->R (Option Int):=fun _=>.ok none
def bR (φ:FE):Sd->R (Option Int):=fun δ=>(φ δ).bind fun d=>match d with
 | .int i=>.ok (some i)
 | _=>.no
def cS:JO X none (UN W O eN):=GY.imp fun σ H Q hh=>g4 hh fun as0 B own δ I h=>h H (aD.refl _)
def bT (h:JE X e (tD W O φ)):JO X (some e) (UN W O (bR φ)):=(Iy h).imp fun σ H Q hh=>g4 hh fun as0 B own δ I h=>⟨as0,B,own,δ,I,g5 h fun d v H1 s1 d1 h1=>by
  cases d with
  | int i=>cases d1;exact h1 H1 (aD.refl _)
  | _=>exact h1.elim⟩
def WC (W:Wd) (r:V->Option Int->Option Int->Hp->VK->Prop) (g:D->Option Int->Option Int->R D):Prop :=
 ∀ (as:List Addr) (H:Hp) (x:V) (lo hi:Option Int) (a:D) (Q:VK),(∀ p,H p=none->p∉as)->gy W.K (aS as H) a x->dJ W as H (g a lo hi) Q->r x lo hi H Q
def qe (g:D->Option Int->Option Int->R D) (φ:FE) (l u:Sd->R (Option Int)):FE:=fun δ=>(φ δ).bind fun x=>(l δ).bind fun lo=>(u δ).bind fun hi=>g x lo hi
def cy {r:V->Option Int->Option Int->Hp->VK->Prop} {g:D->Option Int->Option Int->R D} {lo hi:Option Expr} {l u:Sd->R (Option Int)} {p2:Pos} (hr:AL X r) (hd:WC W r g) (he:JE X e (tD W O φ)) (hl:JO X lo (UN W O l)) (hu:JO X hi (UN W O u)) :
  JE X (.Subscript e (.Slice lo hi none p2) pos) (tD W O (qe g φ l u)) :=
 (HL hr he hl hu).imp fun σ H Q hh=>g4 hh fun as0 B own δ I h=>⟨as0,B,own,δ,I,bG h fun x v H1 s1 d1 h1=>⟨as0,B,own,δ,I.mono s1,ph h1 fun lo H2 s2 h2=>⟨as0,B,own,δ,(I.mono s1).mono s2,ph h2 fun hi H3 s3 h3 =>
  hd (own++as0) H3 v lo hi x Q (fun p hp=>(((I.mono s1).mono s2).mono s3).new hp) (d1.mono (a8 (s2.trans s3))) h3⟩⟩⟩
def KT (W:Wd) (r:Str->List V->Hp->VK->Prop) (g:Str->List D->R D):Prop :=
 ∀ (as:List Addr) (H:Hp) (z:Str) (xs:List V) (ds:List D) (Q:VK),(∀ p,H p=none->p∉as)->aX W.K (aS as H) ds xs->dJ W as H (g z ds) Q->r z xs H Q
def oD (g:Str->List D->R D) (φ:FE) (α:FA):FE:=fun δ=>(φ δ).bind fun x=>match x with
 | .str z=>(α δ).bind fun ds=>g z ds
 | _=>.no
def kS {o:Expr} {name:Str} {apos cpos:Pos} {id:String} {r:Str->List V->Hp->VK->Prop} {g:Str->List D->R D} (slot:Slot "str" name id) (hty:typeOf (.builtin id)=pure (.type "method_descriptor")) (hm:HK X id r) (hd:KT W r g) (ho:JE X o (tD W O φ)) (ha:JA X (e::es) (tw W O α))
  (hbase:attributeBase o name X.env (eval o X.env)=eval o X.env:=by rfl) (hline:(apos.endLine==cpos.line)=true:=by rfl) (h1:(e::es).all aR=true:=by rfl) (hl:(e::es).length < 29:=by decide) :
  JE X (.Call (.Attribute o name apos) (e::es) [] cpos) (tD W O (oD g φ α)) :=
 (Va slot hty hm ho ha hbase hline h1 hl).imp fun σ H Q hh=>g4 hh fun as0 B own δ I h=>⟨as0,B,own,δ,I,bG h fun x v H1 s1 d1 h1=>by
  cases x with
  | str z =>
   cases d1;exact ⟨as0,B,own,δ,I.mono s1,fe h1 fun ds xs H2 s2 d2 h2=>hd (own++as0) H2 z xs ds Q (fun p hp=>((I.mono s1).mono s2).new hp) d2 h2⟩
  | _=>exact h1.elim⟩
end
inductive Fl where
 | nx (δ:Sd)|rt (d:D)|bk (δ:Sd)|ct (δ:Sd)
 /-- a return of what is laid anew,and nobody else's -/
 | rn (d:D)
abbrev FS:=Sd->R Fl
def fH (W:Wd) (as0:List Addr) (B:Hp) (Ob O':List Nat) (r:R Fl) (D:Ends):Prop:=match r with
 | .ok (.nx δ)=>∀ own σ H,DI W.K as0 B O' own σ δ H->D.nx σ H
 | .ok (.bk δ)=>∀ own σ H,DI W.K as0 B Ob own σ δ H->D.bk σ H
 | .ok (.ct δ)=>∀ own σ H,DI W.K as0 B Ob own σ δ H->D.ct σ H
 | .ok (.rt d)=>∀ v H,aD B H->gy W.K (aS as0 H) d v->D.rt v H
 | .ok (.rn d)=>∀ p o H,aD B H->B p=none->H p=some o->l9 W.K (aS (p::as0) H) o d->D.rt (.ref p) H
 | .er x=>∀ e C H,aD B H->W.mg x=some (.ref C)->W.E e (some C) H
 | .no=>False
def sD (W:Wd) (Ob O O':List Nat) (φ:FS):TS:=fun D σ H=>∃ as0 B own δ,DI W.K as0 B O own σ δ H/\fH W as0 B Ob O' (φ δ) D
section
variable {W:Wd} {as0 own:List Addr} {B H:Hp} {Ob O O':List Nat} {σ:St} {δ:Sd} {D':Ends}
def oY {r:R D} {f:D->R Fl} {Q:VK} (I:DI W.K as0 B O own σ δ H) (h:fH W as0 B Ob O' (r.bind f) D') (q:∀ d v H',aD H H'->gy W.K (aS (own++as0) H') d v->fH W as0 B Ob O' (f d) D'->Q v H'):dJ W (own++as0) H r Q:=by
 cases r with
 | ok d=>exact fun v H' s dv=>q d v H' s dv h
 | er x=>exact fun e C H' s=>h e C H' (I.same.trans s)
 | no=>exact h
def r0 {r:R D} {f:D->R Fl} {Q:VK} (I:DI W.K as0 B O own σ δ H) (h:fH W as0 B Ob O' (r.bind f) D') (q:∀ d p o H',aD H H'->H p=none->H' p=some o->l9 W.K (aS (p::(own++as0)) H') o d->fH W as0 B Ob O' (f d) D'->Q (.ref p) H'):mJ W (own++as0) H r Q:=by
 cases r with
 | ok d=>exact fun p o H' s h1 h2 h3=>q d p o H' s h1 h2 h3 h
 | er x=>exact fun e C H' s=>h e C H' (I.same.trans s)
 | no=>exact h
def yL {α:Type} {r:R α} {f:α->R Fl} {Q:α->Hp->Prop} (I:DI W.K as0 B O own σ δ H) (h:fH W as0 B Ob O' (r.bind f) D') (q:∀ d H',aD H H'->fH W as0 B Ob O' (f d) D'->Q d H'):iK W H r Q:=by
 cases r with
 | ok d=>exact fun H' s=>q d H' s h
 | er x=>exact fun e C H' s=>h e C H' (I.same.trans s)
 | no=>exact h
def fH.base {B':Hp} {r:R Fl} (h:fH W as0 B Ob O' r D') (s:aD B B') (h0:∀ a∈as0,B a≠none):fH W as0 B' Ob O' r D':=by
 cases r with
 | ok f =>
  cases f with
  | nx δ=>exact fun own σ H I=>h own σ H (I.base s h0)
  | bk δ=>exact fun own σ H I=>h own σ H (I.base s h0)
  | ct δ=>exact fun own σ H I=>h own σ H (I.base s h0)
  | rt d=>exact fun v H s'=>h v H (s.trans s')
  | rn d=>exact fun p o H s' hp=>h p o H (s.trans s') (s.free hp)
 | er x=>exact fun e C H s'=>h e C H (s.trans s')
 | no=>exact h
def getElem?_set' {α:Type} {l:List α} {i j:Nat} {x:α}:(l.set i x)[j]?=if i=j then (if i < l.length then some x else none) else l[j]?:=List.getElem?_set
def DI.set {i:Nat} {d:D} {v:V} (I:DI W.K as0 B O own σ δ H) (hO:i∉O) (h:gy W.K (aS (own++as0) H) d v):DI W.K as0 B O own (σ.set i (some v)) (δ.set i (some d)) H:=by
 refine ⟨by simp [I.len],I.olen,I.nd,I.ond,I.fresh,I.ex0,I.same,fun j e hj q=>?_,fun j a hj=>?_⟩
 ·rw [getElem?_set'] at q ⊢;split at q
  ·rename_i hij;rw [if_pos hij];split at q
   ·rename_i hl;rw [if_pos (by rw [<- I.len];exact hl)];cases q;exact ⟨v,rfl,h⟩
   ·cases q
  ·rename_i hij;rw [if_neg hij];exact I.var j e hj q
 ·have hji:i≠j:=fun z=>hO (by rw [z];exact (List.of_mem_zip hj).1);obtain ⟨d',o,h1,h2,h3,h4⟩:=I.owns j a hj;exact ⟨d',o,by rw [getElem?_set',if_neg hji];exact h1,by rw [getElem?_set',if_neg hji];exact h2,h3,h4⟩
def zip_inj:∀ {O:List Nat} {own:List Addr} {i j:Nat} {a:Addr},own.Nodup->(i,a)∈O.zip own->(j,a)∈O.zip own->i=j
 | [],_,_,_,_,_,h,_=>by simp at h
 | _::_,[],_,_,_,_,h,_=>by simp at h
 | k::O,b::own,i,j,a,nd,h1,h2=>by
  rw [List.zip_cons_cons] at h1 h2;rw [List.nodup_cons] at nd;rcases List.mem_cons.mp h1 with e1|h1 <;> rcases List.mem_cons.mp h2 with e2|h2
  ·cases e1;cases e2;rfl
  ·cases e1;exact absurd (List.of_mem_zip h2).2 nd.1
  ·cases e2;exact absurd (List.of_mem_zip h1).2 nd.1
  ·exact zip_inj nd.2 h1 h2
def nh:∀ {O:List Nat} {own:List Addr} {i:Nat},own.length=O.length->i∈O->∃ a,(i,a)∈O.zip own
 | [],_,_,_,h=>by cases h
 | k::O,[],_,l,_=>by simp at l
 | k::O,b::own,i,l,h=>by
  rcases List.mem_cons.mp h with rfl|h
  ·exact ⟨b,List.mem_cons_self⟩
  ·obtain ⟨a,ha⟩:=nh (O:=O) (own:=own) (by simpa using l) h;exact ⟨a,List.mem_cons_of_mem _ ha⟩
def b9 (p:Nat->Bool):List Nat->List Addr->List Addr
 | i::O,a::own=>if p i=true then a::b9 p O own else b9 p O own
 | _,_=>[]
def nK {p:Nat->Bool}:∀ {O:List Nat} {own:List Addr},(b9 p O own).Sublist own
 | [],own=>by simp [b9]
 | _::_,[]=>by simp [b9]
 | i::O,a::own=>by
  unfold b9;split
  ·exact (nK (O:=O)).cons_cons a
  ·exact (nK (O:=O)).cons a
def sM {p:Nat->Bool}:∀ {O:List Nat} {own:List Addr},own.length=O.length->(b9 p O own).length=(O.filter p).length
 | [],[],_=>rfl
 | i::O,a::own,l=>by
  have ih:=sM (p:=p) (O:=O) (own:=own) (by simpa using l);unfold b9;rw [List.filter_cons];split
  ·simp [ih]
  ·exact ih
 | [],_::_,l=>by simp at l
 | _::_,[],l=>by simp at l
def iI {p:Nat->Bool}:∀ {O:List Nat} {own:List Addr} {i:Nat} {a:Addr},(i,a)∈(O.filter p).zip (b9 p O own)->(i,a)∈O.zip own/\p i=true
 | [],_,_,_,h=>by simp at h
 | _::_,[],_,_,h=>by simp [b9] at h
 | k::O,b::own,i,a,h=>by
  unfold b9 at h;rw [List.filter_cons] at h;by_cases hp:p k=true
  ·rw [if_pos hp,if_pos hp,List.zip_cons_cons] at h;rcases List.mem_cons.mp h with e|h
   ·cases e;exact ⟨List.mem_cons_self,hp⟩
   ·exact ⟨List.mem_cons_of_mem _ (iI h).1,(iI h).2⟩
  ·rw [if_neg hp,if_neg hp] at h;exact ⟨List.mem_cons_of_mem _ (iI h).1,(iI h).2⟩
def m3 {p:Nat->Bool}:∀ {O:List Nat} {own:List Addr} {a:Addr},a∈b9 p O own->∃ i,(i,a)∈O.zip own/\p i=true
 | [],_,_,h=>by simp [b9] at h
 | _::_,[],_,h=>by simp [b9] at h
 | k::O,b::own,a,h=>by
  unfold b9 at h;split at h
  ·rename_i hp;rcases List.mem_cons.mp h with e|h
   ·subst e;exact ⟨k,List.mem_cons_self,hp⟩
   ·obtain ⟨i,h1,h2⟩:=m3 h;exact ⟨i,List.mem_cons_of_mem _ h1,h2⟩
  ·obtain ⟨i,h1,h2⟩:=m3 h;exact ⟨i,List.mem_cons_of_mem _ h1,h2⟩
def DI.freeze {O2:List Nat} (I:DI W.K as0 B O own σ δ H) (hO:O.filter (fun i=>decide (i∈O2))=O2):∃ own2,DI W.K as0 B O2 own2 σ δ H:=by
 generalize hp:(fun i=>decide (i∈O2))=p at hO;have pi:∀ i,p i=decide (i∈O2):=fun i=>by rw [<- hp]
 have sub:(b9 p O own).Sublist own:=nK;have mem:∀ a∈b9 p O own,a∈own:=fun a ha=>sub.mem ha;have s:aD (aS (own++as0) H) (aS (b9 p O own++as0) H):=qu fun a ha=>by
  rcases List.mem_append.mp ha with h|h
  ·exact List.mem_append_left _ (mem a h)
  ·exact List.mem_append_right _ h
 refine ⟨b9 p O own,I.len,by rw [sM I.olen,hO],I.nd.sublist sub,by rw [<- hO];exact I.ond.sublist List.filter_sublist,fun a ha=>I.fresh a (mem a ha),I.ex0,I.same,fun i d hi q=>?_,fun i a hi=>?_⟩
 ·by_cases h:i∈O
  ·obtain ⟨a,ha⟩:=nh I.olen h;obtain ⟨d',o,h1,h2,h3,h4⟩:=I.owns i a ha;rw [q] at h1;cases h1;refine ⟨.ref a,h2,l9.den ?_ h3 (h4.mono (qu fun b hb=>?_))⟩
   ·intro z;rcases List.mem_append.mp z with z|z
    ·obtain ⟨j,h5,h6⟩:=m3 z
     have:=zip_inj I.nd ha h5
     subst this;rw [pi] at h6;exact hi (of_decide_eq_true h6)
    ·exact I.apart a (List.of_mem_zip ha).2 z
   ·rcases List.mem_cons.mp hb with rfl|hb
    ·exact List.mem_append_left _ (List.of_mem_zip ha).2
    ·rcases List.mem_append.mp hb with h|h
     ·exact List.mem_append_left _ (mem b h)
     ·exact List.mem_append_right _ h
  ·obtain ⟨v,h1,h2⟩:=I.var i d h q;exact ⟨v,h1,h2.mono s⟩
 ·rw [<- hO] at hi;obtain ⟨d,o,h1,h2,h3,h4⟩:=I.owns i a (iI hi).1;exact ⟨d,o,h1,h2,h3,h4.mono s⟩
def DI.own1 {i:Nat} {d:D} {p:Addr} {o:HO} (I:DI W.K as0 B O own σ δ H) (hO:i∉O) (hp:B p=none) (hn:p∉own++as0) (e:H p=some o) (h:l9 W.K (aS (p::(own++as0)) H) o d) (hi:i < δ.length)
  (fr:∀ j d',j∉O->δ[j]?=some (some d')->∃ v,σ[j]?=some (some v)/\gy W.K (aS (p::(own++as0)) H) d' v)
  (fo:∀ j a,(j,a)∈O.zip own->∃ d o,δ[j]?=some (some d)/\σ[j]?=some (some (.ref a))/\H a=some o/\l9 W.K (aS (p::(own++as0)) H) o d) :
  DI W.K as0 B (i::O) (p::own) (σ.set i (some (.ref p))) (δ.set i (some d)) H:=by
 refine ⟨by simp [I.len],by simp [I.olen],List.nodup_cons.mpr ⟨fun z=>hn (List.mem_append_left _ z),I.nd⟩,List.nodup_cons.mpr ⟨hO,I.ond⟩,fun a ha=>?_,I.ex0,I.same,fun j e hj q=>?_,fun j a hj=>?_⟩
 ·rcases List.mem_cons.mp ha with rfl|ha
  ·exact hp
  ·exact I.fresh a ha
 ·have hji:i≠j:=fun z=>hj (by rw [z];exact List.mem_cons_self);rw [getElem?_set',if_neg hji] at q ⊢;exact fr j e (fun z=>hj (List.mem_cons_of_mem _ z)) q
 ·rw [List.zip_cons_cons] at hj;rcases List.mem_cons.mp hj with z|hj
  ·cases z;refine ⟨d,o,?_,?_,e,h⟩
   ·rw [getElem?_set',if_pos rfl,if_pos hi]
   ·rw [getElem?_set',if_pos rfl,if_pos (by rw [<- I.len];exact hi)]
  ·have hji:i≠j:=fun z=>hO (by rw [z];exact (List.of_mem_zip hj).1);obtain ⟨d',o',h1,h2,h3,h4⟩:=fo j a hj;exact ⟨d',o',by rw [getElem?_set',if_neg hji];exact h1,by rw [getElem?_set',if_neg hji];exact h2,h3,h4⟩
end
section
variable {X:Cx} {W:Wd} {Ob O O' O1 O2:List Nat} {e c:Expr} {φ ψ:FS} {ε:FE} {τ:FT} {pos:Pos} {st:Stmt} {sts rest:List Stmt}
def aI:FS:=fun δ=>.ok (.nx δ)
def aF (φ ψ:FS):FS:=fun δ=>(φ δ).bind fun f=>match f with
 | .nx δ'=>ψ δ'
 | f=>.ok f
def aL:JB X [] (sD W Ob O O aI):=Mp.imp fun D σ H hh=>g4 hh fun as0 B own δ I h=>h own σ H I
def al (h1:JS X st (sD W Ob O O1 φ)) (h2:JB X rest (sD W Ob O1 O2 ψ)):JB X (st::rest) (sD W Ob O O2 (aF φ ψ)):=(JC h1 h2).imp fun D σ H hh=>g4 hh fun as0 B own δ I h=>by
 refine ⟨as0,B,own,δ,I,?_⟩;unfold aF at h;cases hr:φ δ with
 | ok f =>
  rw [hr] at h;cases f with
  | nx δ'=>exact fun own' σ' H' I'=>⟨as0,B,own',δ',I',h⟩
  | rt d=>exact h
  | rn d=>exact h
  | bk d=>exact h
  | ct d=>exact h
 | er x=>rw [hr] at h;exact h
 | no=>rw [hr] at h;exact h
def ar (h1:JS X st (sD W Ob O O1 φ)):JB X [st] (sD W Ob O O1 φ):=LV h1
def FY (h:JB X sts (sD W Ob O2 O' φ)) (hO:O.filter (fun i=>decide (i∈O2))=O2:=by decide):JB X sts (sD W Ob O O' φ):=h.imp fun D σ H hh=>g4 hh fun as0 B own δ I h =>
 let ⟨own2,I2⟩:=I.freeze hO;⟨as0,B,own2,δ,I2,h⟩
def aW (ε:FE):FS:=fun δ=>(ε δ).bind fun d=>.ok (.rt d)
def aB (h:JE X e (tD W O ε)):JS X (.Return (some e) pos) (sD W Ob O O' (aW ε)):=(Nh h).imp fun D σ H hh=>g4 hh fun as0 B own δ I h =>
 ⟨as0,B,own,δ,I,oY I h fun d v H' s dv h'=>h' v H' (I.same.trans s) (dv.mono (qu fun a ha=>List.mem_append_right _ ha))⟩
def cp (τ:FT) (φ ψ:FS):FS:=fun δ=>(τ δ).bind fun b=>if b=true then φ δ else ψ δ
def aZ {a b:List Stmt} (hc:JT X c (sV W O τ)) (ha:JB X a (sD W Ob O O' φ)) (hb:JB X b (sD W Ob O O' ψ)):JS X (.If c a b pos) (sD W Ob O O' (cp τ φ ψ)):=(Uo hc ha hb).imp fun D σ H hh=>g4 hh fun as0 B own δ I h =>
 ⟨as0,B,own,δ,I,yL I h fun b H' s h'=>by
  cases b with
  | true=>exact ⟨as0,B,own,δ,I.mono s,h'⟩
  | false=>exact ⟨as0,B,own,δ,I.mono s,h'⟩⟩
def aJ (i:Nat) (ε:FE):FS:=fun δ=>(ε δ).bind fun d=>.ok (.nx (δ.set i (some d)))
def aK {i:Nat} {x:Str} {pos':Pos} (hO:i∉O) (hN:X.N.Nodup) (hx:Ct X.env.scope x) (he:JE X e (tD W O ε)) (hi:X.N[i]?=some x:=by rfl) (hs:swapsWith e (some (.Name x pos')) pos.line X.env=pure false:=by rfl) (hf:X.fn x=true\/X.env.scope.names.lookup x=some .local:=by first|exact .inl rfl|exact .inr rfl|assumption) :
  JS X (.Assign [.Name x pos'] e pos) (sD W Ob O O (aJ i ε)):=(EZ hN hx he hi hs hf).imp fun D σ H hh=>g4 hh fun as0 B own δ I h =>
 ⟨as0,B,own,δ,I,oY I h fun d v H' s dv h'=>h' own _ H' ((I.mono s).set hO dv)⟩
def vD (i:Nat) (ε:FE):FS:=fun δ=>(ε δ).bind fun d=>if i < δ.length then .ok (.nx (δ.set i (some d))) else .no
def qd {as:List Addr} {H H':Hp} {p:Addr} (hp:H p=none) (s:aD H H'):aD (aS as H) (aS (p::as) H'):=fun b o e=>by
 by_cases hb:b∈as
 ·rw [kt hb] at e;cases e
 ·rw [bp hb] at e;have hbp:b≠p:=fun z=>by rw [z,hp] at e;cases e
  rw [bp (by simp [hb,hbp])];exact s b o e
def F8 {K:PySem.W.Frag} {as0 own:List Addr} {B H H':Hp} {σ:St} {δ:Sd} {i:Nat} {d:D} {p:Addr} {o:HO} (I:DI K as0 B O own σ δ H) (hO:i∉O) (s:aD H H') (hp:H p=none) (e:H' p=some o) (h:l9 K (aS (p::(own++as0)) H') o d) (hi:i < δ.length) :
  DI K as0 B (i::O) (p::own) (σ.set i (some (.ref p))) (δ.set i (some d)) H':=by
 refine DI.own1 (W:=⟨K,fun _=>none,E0⟩) (I.mono s) hO (I.same.free hp) (I.new hp) e h hi (fun j d' hj q=>?_) fun j a hj=>?_
 ·obtain ⟨v,h1,h2⟩:=I.var j d' hj q;exact ⟨v,h1,h2.mono (qd hp s)⟩
 ·obtain ⟨d',o',h1,h2,h3,h4⟩:=I.owns j a hj;exact ⟨d',o',h1,h2,s a o' h3,h4.mono (qd hp s)⟩
def xx {i:Nat} {x:Str} {pos':Pos} (hO:i∉O) (hN:X.N.Nodup) (hx:Ct X.env.scope x) (he:JE X e (tN W O ε)) (hi:X.N[i]?=some x:=by rfl) (hs:swapsWith e (some (.Name x pos')) pos.line X.env=pure false:=by rfl) (hf:X.fn x=true\/X.env.scope.names.lookup x=some .local:=by first|exact .inl rfl|exact .inr rfl|assumption) :
  JS X (.Assign [.Name x pos'] e pos) (sD W Ob O (i::O) (vD i ε)):=(EZ hN hx he hi hs hf).imp fun D σ H hh=>g4 hh fun as0 B own δ I h =>
 ⟨as0,B,own,δ,I,r0 I h fun d p o H' s hp e od h'=>by
  split at h'
  ·rename_i hl;exact h' _ _ H' (F8 I hO s hp e od hl)
  ·exact h'.elim⟩
inductive TgD where
 | one (i:Nat)|tup (is:List Nat)
def ka:List Nat->List D->Sd->Sd
 | i::is,d::ds,δ=>ka is ds (δ.set i (some d))
 | _,_,δ=>δ
def gY:TgD->D->Sd->R Sd
 | .one i,d,δ=>.ok (δ.set i (some d))
 | .tup is,.tup ds,δ=>if ds.length=is.length then .ok (ka is ds δ) else .no
 | _,_,_=>.no
def gD (W:Wd) (O:List Nat) (tg:TgD):TG:=fun v σ H Q=>∃ as0 B own δ d,DI W.K as0 B O own σ δ H/\gy W.K (aS (own++as0) H) d v/\match gY tg d δ with
 | .ok δ'=>∀ σ',DI W.K as0 B O own σ' δ' H->Q σ' H
 | _=>False
def UK (W:Wd) (O:List Nat) (is:List Nat):Eo:=fun vs σ H Q=>∃ as0 B own δ ds,DI W.K as0 B O own σ δ H/\aX W.K (aS (own++as0) H) ds vs/\ds.length=is.length/\∀ σ',DI W.K as0 B O own σ' (ka is ds δ) H->Q σ' H
def dz {i:Nat} {x:Str} (hO:i∉O) (hN:X.N.Nodup) (hi:X.N[i]?=some x) (hx:Ct X.env.scope x) (hf:X.fn x=true\/X.env.scope.names.lookup x=some .local:=by first|exact .inl rfl|exact .inr rfl|assumption):JG X (.Name x pos) (gD W O (.one i)) :=
 (Jl hN hi hx hf).imp fun v σ H Q ⟨as0,B,own,δ,d,I,dv,h⟩=>h _ (I.set hO dv)
def Ht:JGs X [] (UK W O []):=Ix.imp fun vs σ H Q ⟨as0,B,own,δ,ds,I,dv,hl,h⟩=>by
 cases ds with
 | nil=>cases dv;exact ⟨rfl,h σ I⟩
 | cons _ _=>simp at hl
def z0 {i:Nat} {is:List Nat} {e:Expr} {es:List Expr} (h1:JG X e (gD W O (.one i))) (h2:JGs X es (UK W O is))
  (hs:(assignEach (e::es) X.env).map (·.2)=assign e X.env::(assignEach es X.env).map (·.2):=by rfl):JGs X (e::es) (UK W O (i::is)):=(Fy h1 h2 hs).imp fun vs σ H Q ⟨as0,B,own,δ,ds,I,dv,hl,h⟩=>by
 cases ds with
 | nil=>simp at hl
 | cons d ds =>
  obtain ⟨v,r,rfl,d1,d2⟩:=dv;exact ⟨v,r,rfl,as0,B,own,δ,d,I,d1,fun σ' I'=>⟨as0,B,own,_,ds,I',d2,by simpa using hl,h⟩⟩
def ML (K:PySem.W.Frag) {es:List Expr} {k:Nat} {is:List Nat} {n:Nat} (h:JGs X es (UK W O is)) (hl:is.length=n:=by rfl) (hc:X.calm=true:=by rfl)
  (hn:(assignEach es X.env).length=n:=by rfl) (hst:(assignEach es X.env).findIdx? (·.1)=none:=by rfl) (hK:X.K=K:=by rfl) (hW:W.K=K:=by rfl):JG X (.Tuple es k pos) (gD W O (.tup is)):=by
 refine (LO K h hc hn hst hK).imp fun v σ H Q ⟨as0,B,own,δ,d,I,dv,h⟩=>?_;cases d with
 | tup ds =>
  obtain ⟨a,xs,rfl,q1,q2⟩:=dv;have h':(match (if ds.length=is.length then R.ok (ka is ds δ) else .no) with|.ok δ'=>∀ σ',DI W.K as0 B O own σ' δ' H->Q σ' H|_=>False):=h
  by_cases hd:ds.length=is.length
  ·rw [if_pos hd] at h';subst hW;exact ⟨a,xs,rfl,(aQ _ _).seqT q1,by rw [<- q2.len,hd,hl],as0,B,own,δ,ds,I,q2,hd,h'⟩
  ·rw [if_neg hd] at h';exact h'.elim
 | _=>exact h.elim
structure GivesD (K:PySem.W.Frag) (as0:List Addr) (B:Hp) (J:It) (xs:List D):Prop where
 go:∀ i H,aD B H->i < xs.length->J.go i H
 yl:∀ i H v H2 M,aD B H->(∀ a∈M,H a≠none)->(∀ a∈M,a∈as0\/B a=none)->i < xs.length->J.yld i H v H2->aD H H2/\∃ d,xs[i]?=some d/\gy K (aS M H2) d v
 stop:∀ H,aD B H->J.stop xs.length H
def mM (W:Wd) (as0 own:List Addr) (H:Hp) (r:R (List D)) (Q:It->Hp->Prop):Prop:=match r with
 | .ok xs=>∀ J H',aD H H'->GivesD W.K as0 (aS own H') J xs->Q J H'
 | .er x=>∀ e C H',aD H H'->W.mg x=some (.ref C)->W.E e (some C) H'
 | .no=>False
def iD (W:Wd) (O:List Nat) (ι:FA):TI:=fun σ H Q=>∃ as0 B own δ,DI W.K as0 B O own σ δ H/\mM W as0 own H (ι δ) Q
def nR {as0 M:List Addr} {B H:Hp} (s:aD B H) (h:∀ a∈M,a∈as0\/B a=none):aD (aS as0 B) (aS M H):=fun b o e=>by
 by_cases hb:b∈as0
 ·rw [kt hb] at e;cases e
 ·rw [bp hb] at e;have hm:b∉M:=fun z=>by
   rcases h b z with q|q
   ·exact hb q
   ·rw [q] at e;cases e
  rw [bp hm];exact s b o e
def Dm {K:PySem.W.Frag} {as0:List Addr} {B:Hp} {a:Addr} {xs:List V} {ds:List D} (h1:jl K (aS as0 B) a xs) (h2:aX K (aS as0 B) ds xs):GivesD K as0 B (VX K a) ds where
 go:=fun i H s hi=>by
  have hi':i < xs.length:=by rw [<- h2.len];exact hi
  exact ⟨xs,xs[i],((aQ _ _).trans s).seq h1,by simp [hi']⟩
 yl:=fun i H v H2 M s _ hM hi ⟨e,y⟩=>by
  subst e;obtain ⟨d,q1,q2⟩:=h2.got (y xs (((aQ _ _).trans s).seq h1));exact ⟨aD.refl _,d,q1,q2.mono (nR s hM)⟩
 stop:=fun H s=>⟨xs,((aQ _ _).trans s).seq h1,by rw [h2.len];exact Nat.le_refl _⟩
def Dt {K:PySem.W.Frag} {as0:List Addr} {B:Hp} {a:Addr} {xs:List V} {ds:List D} (h1:mT K (aS as0 B) a xs) (h2:aX K (aS as0 B) ds xs):GivesD K as0 B (U1 K a) ds where
 go:=fun i H s hi=>by
  have hi':i < xs.length:=by rw [<- h2.len];exact hi
  exact ⟨xs,xs[i],((aQ _ _).trans s).seqT h1,by simp [hi']⟩
 yl:=fun i H v H2 M s _ hM hi ⟨e,y⟩=>by
  subst e;obtain ⟨d,q1,q2⟩:=h2.got (y xs (((aQ _ _).trans s).seqT h1));exact ⟨aD.refl _,d,q1,q2.mono (nR s hM)⟩
 stop:=fun H s=>⟨xs,((aQ _ _).trans s).seqT h1,by rw [h2.len];exact Nat.le_refl _⟩
abbrev pe (z:Str):List D:=z.cps.toList.map fun c=>D.str ⟨#[c]⟩
def AG {K:PySem.W.Frag} {as0:List Addr} {B:Hp} (z:Str):GivesD K as0 B (Nt z) (pe z) where
 go:=fun i H _ hi=>by
  rw [List.length_map] at hi;simpa [Nt,Str.length] using hi
 yl:=fun i H v H2 M _ _ _ hi ⟨e,c,h1,h2⟩=>by
  subst e;refine ⟨aD.refl _,.str ⟨#[c]⟩,?_,h2⟩;rw [List.getElem?_map,Array.getElem?_toList,h1];rfl
 stop:=fun H _=>by
  show _=z.length;rw [List.length_map];simp [Str.length]
def fJ (lo:Int) (n:Nat):List D:=(List.range n).map fun (k:Nat)=>D.int (lo+(k:Int))
def yB {K:PySem.W.Frag} {as0:List Addr} {B:Hp} (lo:Int) (n:Nat):GivesD K as0 B (UE lo n) (fJ lo n) where
 go:=fun i H _ hi=>by
  unfold fJ at hi;rw [List.length_map,List.length_range] at hi;exact hi
 yl:=fun i H v H2 M _ _ _ hi ⟨e,h⟩=>by
  subst e;unfold fJ at hi ⊢;rw [List.length_map,List.length_range] at hi;refine ⟨aD.refl _,.int (lo+(i:Int)),?_,h⟩;rw [List.getElem?_map,List.getElem?_range hi];rfl
 stop:=fun H _=>by
  unfold fJ;show n<=_;rw [List.length_map,List.length_range];exact Nat.le_refl _
def lf:D->R (List D)
 | .lst xs=>.ok xs
 | .tup xs=>.ok xs
 | .str z=>.ok (pe z)
 | _=>.no
def iR (ε:FE):FA:=fun δ=>(ε δ).bind lf
variable {tg:Expr}
def mM.mono {as0 own:List Addr} {H H':Hp} {r:R (List D)} {Q:It->Hp->Prop} (h:mM W as0 own H r Q) (s:aD H H'):mM W as0 own H' r Q:=by
 cases r with
 | ok d=>exact fun J H2 s2=>h J H2 (s.trans s2)
 | er x=>exact fun e C H2 s2=>h e C H2 (s.trans s2)
 | no=>exact h
def A5 {as0 own:List Addr} {H:Hp} {r:R D} {f:D->R (List D)} {Q:It->Hp->Prop} {Q':VK} (h:mM W as0 own H (r.bind f) Q) (q:∀ d v H',aD H H'->gy W.K (aS (own++as0) H') d v->mM W as0 own H' (f d) Q->Q' v H'):dJ W (own++as0) H r Q':=by
 cases r with
 | ok d=>exact fun v H' s dv=>q d v H' s dv (mM.mono h s)
 | er x=>exact h
 | no=>exact h
def mV {as0 own:List Addr} {H:Hp} {r:R (List D)} {f:List D->R (List D)} {Q:It->Hp->Prop} {Q':List V->Hp->Prop} (h:mM W as0 own H (r.bind f) Q) (q:∀ d v H',aD H H'->aX W.K (aS (own++as0) H') d v->mM W as0 own H' (f d) Q->Q' v H'):gX W (own++as0) H r Q':=by
 cases r with
 | ok d=>exact fun v H' s dv=>q d v H' s dv (mM.mono h s)
 | er x=>exact h
 | no=>exact h
def j7 (K:PySem.W.Frag) {l:Expr} (h:JE X l (tD W O ε)) (hK:X.K=K:=by rfl) (hW:W.K=K:=by rfl):JI X tg l (iD W O (iR ε)):=(MA K h hK).imp fun σ H Q hh=>g4 hh fun as0 B own δ I h =>
 ⟨as0,B,own,δ,I,A5 h fun d v H' s dv h'=>by
  subst hW;cases d with
  | lst ds =>
   obtain ⟨a,xs,rfl,q1,q2⟩:=dv;refine .inl ⟨⟨xs,(aQ _ _).seq q1⟩,h' _ H' (aD.refl _) ?_⟩;rw [tT] at q1 q2;exact Dm q1 q2
  | tup ds =>
   obtain ⟨a,xs,rfl,q1,q2⟩:=dv;refine .inr ⟨⟨xs,(aQ _ _).seqT q1⟩,h' _ H' (aD.refl _) ?_⟩;rw [tT] at q1 q2;exact Dt q1 q2
  | str z=>cases dv;exact h' _ H' (aD.refl _) (AG z)
  | _=>exact h'.elim⟩
def G3:List D->R (List D)
 | [.int j]=>if -(2 ^ 62)<=j/\j < 2 ^ 62 then .ok (fJ 0 j.toNat) else .no
 | _=>.no
def g8 (α:FA):FA:=fun δ=>(α δ).bind G3
def lP {a:Expr} {α:FA} {p pos:Pos} (hm:X.mg "range"=none) (ha:JA X [a] (tw W O α)) (hg:Gl X "range":=by rfl) (hn:aR a=true:=by rfl):JI X tg (.Call (.Name "range" p) [a] [] pos) (iD W O (g8 α)):=(Dd hm ha hg hn).imp fun σ H Q hh=>g4 hh fun as0 B own δ I h =>
 ⟨as0,B,own,δ,I,mV h fun ds vs H' s dv h'=>by
  unfold G3 at h';split at h'
  ·obtain ⟨v,r,rfl,d1,d2⟩:=dv;cases d1;cases d2;split at h'
   ·rename_i hj;exact ⟨hj,h' _ H' (aD.refl _) (yB 0 _)⟩
   ·exact h'.elim
  ·exact h'.elim⟩
def iX (tg:TgD) (body:FS):List D->Sd->R Fl
 | [],δ=>.ok (.nx δ)
 | x::r,δ=>(gY tg x δ).bind fun δ1=>(body δ1).bind fun f=>match f with
  | .nx δ2=>iX tg body r δ2
  | .ct δ2=>iX tg body r δ2
  | .bk δ2=>.ok (.nx δ2)
  | .rt d=>.ok (.rt d)
  | .rn d=>.ok (.rn d)
def sQ (ι:FA) (t:TgD) (body:FS):FS:=fun δ=>(ι δ).bind fun xs=>iX t body xs δ
def zY {as0 own:List Addr} {B H:Hp} {σ:St} {δ:Sd} {D':Ends} {r:R (List D)} {f:List D->R Fl} {Q:It->Hp->Prop} (I:DI W.K as0 B O own σ δ H) (h:fH W as0 B Ob O' (r.bind f) D')
  (q:∀ d J H',aD H H'->GivesD W.K as0 (aS own H') J d->fH W as0 B Ob O' (f d) D'->Q J H'):mM W as0 own H r Q:=by
 cases r with
 | ok d=>exact fun J H' s g=>q d J H' s g h
 | er x=>exact fun e C H' s=>h e C H' (I.same.trans s)
 | no=>exact h
def pk {iter:Expr} {body:List Stmt} {ι:FA} {t:TgD} (hp:PassesOwn (model X.prog X.w) X.A X.env X.xe) (hi:JI X tg iter (iD W O ι)) (hg:JG X tg (gD W O t)) (hb:JB X body (sD W O O O φ)) (hc:X.calm=true:=by rfl)
  (hs:∀ x,foldedSetIterable iter X.env x=pure x:=by intro _;rfl):JS X (.For tg iter body [] pos) (sD W Ob O O (sQ ι t φ)):=(KZ hp hi hg hb hc hs).imp fun D' σ H hh=>g4 hh fun as0 B own δ I h=>by
 refine ⟨as0,B,own,δ,I,zY I h fun xs J H1 s1 G h1=>?_⟩;have I1:=I.mono s1;have I2:=I1.rebase I1.apart;have sB:aD B (aS own H1):=I1.baseIn;have h2:=h1.base sB I.ex0;generalize hB':aS own H1=B' at I2 sB h2 G;have ex':∀ a∈as0,B' a≠none:=I2.ex0;refine ⟨fun i m σ H=>m=xs.length - i/\i<=xs.length/\∃ own δ,DI W.K as0 B' O own σ δ H/\fH W as0 B' Ob O (iX t φ (xs.drop i) δ) D',⟨xs.length,by simp,Nat.zero_le _,own,δ,I2,by simpa using h2⟩,?_⟩;rintro i m σ3 H3 ⟨rfl,hi,own3,δ3,I3,h3⟩;by_cases hlt:i < xs.length
 ·refine .inr ⟨G.go i H3 I3.same hlt,fun σ' H'=>∃ own δ,DI W.K as0 B' O own σ' δ H'/\fH W as0 B' Ob O (iX t φ (xs.drop (i+1)) δ) D',fun σ' H' ⟨own',δ',I',h'⟩=>⟨xs.length - (i+1),by omega,rfl,hlt,own',δ',I',h'⟩,fun v H4 y=>?_⟩;obtain ⟨s4,d,hd,dv⟩:=G.yl i H3 v H4 (own3++as0) I3.same I3.exi (fun a ha=>by
   rcases List.mem_append.mp ha with z|z
   ·exact .inr (I3.fresh a z)
   ·exact .inl z) hlt y
  have ed:xs.drop i=d::xs.drop (i+1):=by
   rw [List.drop_eq_getElem_cons hlt];rw [List.getElem?_eq_getElem hlt] at hd;cases hd;rfl
  rw [ed] at h3;refine ⟨as0,B',own3,δ3,d,I3.mono s4,dv,?_⟩;have h3':fH W as0 B' Ob O ((gY t d δ3).bind fun δ1=>(φ δ1).bind fun f=>match f with
   | .nx δ2=>iX t φ (xs.drop (i+1)) δ2
   | .ct δ2=>iX t φ (xs.drop (i+1)) δ2
   | .bk δ2=>.ok (.nx δ2)
   | .rt d=>.ok (.rt d)
   | .rn d=>.ok (.rn d)) D':=h3
  cases hb1:gY t d δ3 with
  | ok δ1 =>
   rw [hb1] at h3';refine fun σ' I'=>⟨as0,B',own3,δ1,I',?_⟩;have h3'':fH W as0 B' Ob O ((φ δ1).bind fun f=>match f with
    | .nx δ2=>iX t φ (xs.drop (i+1)) δ2
    | .ct δ2=>iX t φ (xs.drop (i+1)) δ2
    | .bk δ2=>.ok (.nx δ2)
    | .rt d=>.ok (.rt d)
    | .rn d=>.ok (.rn d)) D':=h3'
   cases hr:φ δ1 with
   | ok f =>
    rw [hr] at h3'';cases f with
    | nx δ2=>exact fun own' σ' H' I'=>⟨own',δ2,I',h3''⟩
    | ct δ2=>exact fun own' σ' H' I'=>⟨own',δ2,I',h3''⟩
    | bk δ2=>exact h3''
    | rt d=>exact h3''
    | rn d=>exact h3''
   | er x=>rw [hr] at h3'';exact h3''
   | no=>rw [hr] at h3'';exact h3''
  | er x=>unfold gY at hb1;split at hb1 <;> first|cases hb1|(split at hb1 <;> cases hb1)
  | no=>rw [hb1] at h3';exact h3'.elim
 ·have e:i=xs.length:=by omega
  subst e;rw [List.drop_length] at h3;exact .inl ⟨G.stop H3 I3.same,h3 own3 σ3 H3 I3⟩
end
def mf {α β:Type} {r:R α} {f:α->R β} {b:β} (h:r.bind f=.ok b):∃ a,r=.ok a/\f a=.ok b:=by
 cases r with
 | ok a=>exact ⟨a,rfl,h⟩
 | er x=>cases h
 | no=>cases h
def R.calm {α:Type}:R α->R α
 | .ok a=>.ok a
 | _=>.no
def cf (ix:List (Option Nat)) (δ:Sd):Sd:=ix.map fun o=>o.bind fun j=>(δ[j]?).getD none
def sw:TgD->Sd->Bool
 | .one i,δ=>match δ[i]? with
  | some none=>true
  | _=>false
 | .tup is,δ=>is.all fun i=>match δ[i]? with
  | some none=>true
  | _=>false
def dq (tg:TgD) (τ:FT) (ε:FE) (δ0:Sd):List D->R (List D)
 | []=>.ok []
 | x::r=>(gY tg x δ0).bind fun δ1=>(τ δ1).bind fun b=>if b=true then (ε δ1).bind fun y=>(dq tg τ ε δ0 r).bind fun ys=>.ok (y::ys) else dq tg τ ε δ0 r
def cA (tg:TgD) (τ:FT) (ε:FE) (δ0:Sd) (xs:List D):R D:=if sw tg δ0=true/\xs.length<=1000000 then (dq tg τ ε δ0 xs).calm.bind fun ys=>.ok (.lst ys) else .no
def dm (ix:List (Option Nat)) (ι:FA) (tg:TgD) (τ:FT) (ε:FE):FE:=fun δ=>(ι δ).bind fun xs=>cA tg τ ε (cf ix δ) xs
def dX:FT:=fun _=>.ok true
def uJ:∀ (is:List Nat) (ds:List D) (δ0 δ:Sd),(∀ (i:Nat),i∈is->δ0[i]?=some none)->(∀ (i:Nat) (d:D),δ0[i]?=some (some d)->δ[i]?=some (some d))->∀ (i:Nat) (d:D),δ0[i]?=some (some d)->(ka is ds δ)[i]?=some (some d)
 | [],_,_,_,_,h=>by intro i d e;unfold ka;exact h i d e
 | _::_,[],_,_,_,h=>by intro i d e;unfold ka;exact h i d e
 | j::is,x::ds,δ0,δ,hn,h=>by
  intro i d e;unfold ka;refine uJ is ds δ0 _ (fun i hi=>hn i (List.mem_cons_of_mem _ hi)) (fun i d e=>?_) i d e;have hji:j≠i:=fun z=>by
   have:=hn j List.mem_cons_self
   rw [z,e] at this;cases this
  rw [getElem?_set',if_neg hji];exact h i d e
def wv {tg:TgD} {x:D} {δ0 δ1:Sd} (hf:sw tg δ0=true) (h:gY tg x δ0=.ok δ1):∀ (i:Nat) (d:D),δ0[i]?=some (some d)->δ1[i]?=some (some d):=by
 cases tg with
 | one j =>
  cases h;intro i d e;have hji:j≠i:=fun z=>by
   subst z;have hf':(match δ0[j]? with|some none=>true|_=>false)=true:=hf
   rw [e] at hf';cases hf'
  rw [getElem?_set',if_neg hji];exact e
 | tup is =>
  cases x with
  | tup ds =>
   have h':(if ds.length=is.length then R.ok (ka is ds δ0) else .no)=.ok δ1:=h;split at h'
   ·cases h';refine uJ is ds δ0 δ0 (fun i hi=>?_) fun i d e=>e;have hf':(is.all fun i=>match δ0[i]? with|some none=>true|_=>false)=true:=hf
    have:=List.all_eq_true.mp hf' i hi
    split at this
    ·assumption
    ·cases this
   ·cases h'
  | _=>cases h
def wG:∀ (is:List Nat) (ds:List D) (δ:Sd),(ka is ds δ).length=δ.length
 | [],_,_=>by unfold ka;rfl
 | _::_,[],_=>by unfold ka;rfl
 | j::is,x::ds,δ=>by unfold ka;rw [wG is ds];simp
def zf {tg:TgD} {x:D} {δ0 δ1:Sd} (h:gY tg x δ0=.ok δ1):δ1.length=δ0.length:=by
 cases tg with
 | one j=>cases h;simp
 | tup is =>
  cases x with
  | tup ds =>
   have h':(if ds.length=is.length then R.ok (ka is ds δ0) else .no)=.ok δ1:=h;split at h'
   ·cases h';exact wG _ _ _
   ·cases h'
  | _=>cases h
def DI.plain {K:PySem.W.Frag} {M:List Addr} {H:Hp} {σ:St} {δ:Sd} (hl:δ.length=σ.length) (ex:∀ a∈M,H a≠none) (var:∀ (i:Nat) (d:D),δ[i]?=some (some d)->∃ v,σ[i]?=some (some v)/\gy K (aS M H) d v):DI K M H [] [] σ δ H :=
 ⟨hl,rfl,List.nodup_nil,List.nodup_nil,fun a ha=>(nomatch ha),ex,aD.refl _,fun i d _ e=>var i d e,fun i a h=>(by simp at h)⟩
section
variable {X:Cx} {W Wb:Wd} {O:List Nat} {osc:Scope} {ON N:List Str} {ix:List (Option Nat)} {scope:Scope} {tg elt iter:Expr} {ifs:List Expr} {pos:Pos} {ι:FA} {t:TgD} {τ:FT} {ε:FE}
def gQ:JTs X [] (sV W O dX):=Ir.imp fun σ H Q hh=>g4 hh fun as0 B own δ I h=>h H (aD.refl _)
def CY {K:PySem.W.Frag} {as0 own:List Addr} {B H:Hp} {σ:St} {δ:Sd} (I:DI K as0 B O own σ δ H) (hO:∀ j∈ix,∀ k,j=some k->k∉O):∀ (i:Nat) (d:D),(cf ix δ)[i]?=some (some d)->∃ v,(jp ix σ)[i]?=some (some v)/\gy K (aS (own++as0) H) d v:=by
 intro i d e;unfold cf at e;unfold jp;rw [List.getElem?_map] at e ⊢;cases h:ix[i]? with
 | none=>rw [h] at e;cases e
 | some o =>
  rw [h] at e;cases o with
  | none=>cases e
  | some j =>
   have e':(δ[j]?).getD none=some d:=Option.some.inj e;have ej:δ[j]?=some (some d):=by
    cases q:δ[j]? with
    | none=>rw [q] at e';cases e'
    | some w=>rw [q] at e';rw [<- e'];rfl
   obtain ⟨v,h1,h2⟩:=I.var j d (hO _ (List.mem_of_getElem? h) j rfl) ej;exact ⟨v,by show some ((σ[j]?).getD none)=_;rw [h1];rfl,h2⟩
structure GivesC (K:PySem.W.Frag) (M:List Addr) (H:Hp) (J:It) (xs:List D):Prop where
 go:∀ i H1,aD H H1->i < xs.length->J.go i H1
 yl:∀ i H1 v H2 acc,aD H H1->H acc=none->(∀ a∈acc::M,H1 a≠none)->i < xs.length->J.yld i H1 v H2->aD H1 H2/\∃ d,xs[i]?=some d/\gy K (aS (acc::M) H2) d v
 stop:∀ H1,aD H H1->J.stop xs.length H1
def GivesD.comp {K:PySem.W.Frag} {as0 own:List Addr} {H:Hp} {J:It} {xs:List D} (G:GivesD K as0 (aS own H) J xs):GivesC K (own++as0) H J xs where
 go:=fun i H1 s hi=>G.go i H1 ((aQ _ _).trans s) hi
 yl:=fun i H1 v H2 acc s hacc hex hi y=>G.yl i H1 v H2 (acc::(own++as0)) ((aQ _ _).trans s) hex (fun a ha=>by
  rcases List.mem_cons.mp ha with rfl|ha
  ·right
   cases z:aS own H a with
   | none=>rfl
   | some u=>have:=aQ _ _ _ _ z;rw [hacc] at this;cases this
  ·rcases List.mem_append.mp ha with z|z
   ·exact .inr (kt z)
   ·exact .inl z) hi y
 stop:=fun H1 s=>G.stop H1 ((aQ _ _).trans s)
def B9 {K:PySem.W.Frag} {as0 own:List Addr} {B H:Hp} {σ:St} {δ:Sd} {xs:List D} {J:It} {Q:VK} (hWb:Wb.K=K) (I:DI K as0 B O own σ δ H) (hO:∀ j∈ix,∀ k,j=some k->k∉O) (G:GivesC K (own++as0) H J xs)
  (hq:match cA t τ ε (cf ix δ) xs with
   | .ok d=>∀ p o H',aD H H'->H p=none->H' p=some o->l9 K (aS (p::(own++as0)) H') o d->Q (.ref p) H'
   | _=>False):uw (gD Wb [] t) (sV Wb [] τ) (tD Wb [] ε) J (jp ix σ) H Q:=by
 intro acc hacc;unfold cA at hq;by_cases hc:sw t (cf ix δ)=true/\xs.length<=1000000
 ·rw [if_pos hc] at hq;obtain ⟨hf,hlen⟩:=hc;cases hall:dq t τ ε (cf ix δ) xs with
  | er x=>rw [hall] at hq;exact hq.elim
  | no=>rw [hall] at hq;exact hq.elim
  | ok all =>
   rw [hall] at hq;have hq':∀ p o H',aD H H'->H p=none->H' p=some o->l9 K (aS (p::(own++as0)) H') o (.lst all)->Q (.ref p) H':=hq;generalize hδ0:cf ix δ=δ0 at hf hall;have cl:δ0.length=(jp ix σ).length:=by rw [<- hδ0];unfold cf jp;simp
   have cv:∀ (i:Nat) (d:D),δ0[i]?=some (some d)->∃ v,(jp ix σ)[i]?=some (some v)/\gy K (aS (own++as0) H) d v:=by rw [<- hδ0];exact CY I hO
   generalize jp ix σ=σ0 at cl cv;have exM0:=I.exi;generalize hM:own++as0=M at cv hq' G exM0;have exM:∀ a∈M,H a≠none:=exM0;have naM:acc∉M:=fun z=>exM acc z hacc
   -- heaps of the turns
   have exA:∀ {H':Hp},aD H H'->(∃ o,H' acc=some o)->∀ a∈acc::M,H' a≠none:=fun {H'} s ⟨o,e⟩ a ha=>by
    rcases List.mem_cons.mp ha with rfl|ha
    ·rw [e];simp
    ·cases q:H a with
     | none=>exact absurd q (exM a ha)
     | some u=>rw [s a u q];simp
   have s0:aD H (dE H acc (.lst [])):=bo hacc _;refine ⟨fun i m σ' H'=>m=xs.length - i/\i<=xs.length/\∃ ys es rest,H' acc=some (.lst ys)/\ys.length<=i/\aD H H'/\aX K (aS (acc::M) H') es ys/\dq t τ ε δ0 (xs.drop i)=.ok rest/\all=es++rest/\DI K (acc::M) H' [] [] σ' δ0 H',
    ⟨xs.length,by simp,Nat.zero_le _,[],[],all,br,Nat.zero_le _,s0,rfl,by simpa using hall,rfl,DI.plain cl (exA s0 ⟨_,br⟩) fun i d e=>let ⟨v,h1,h2⟩:=cv i d e;⟨v,h1,h2.mono (qd hacc s0)⟩⟩,?_⟩
   rintro i m σ1 H1 ⟨rfl,hi,ys,es,rest,e1,hl1,s1,d1,c1,a1,I1⟩;have sB:aD H H1:=s1;by_cases hlt:i < xs.length
   ·refine .inr ⟨G.go i H1 sB hlt,fun σ' H'=>∃ ys es rest,H' acc=some (.lst ys)/\ys.length<=i+1/\aD H H'/\aX K (aS (acc::M) H') es ys/\dq t τ ε δ0 (xs.drop (i+1))=.ok rest/\all=es++rest/\DI K (acc::M) H' [] [] σ' δ0 H',
     fun σ' H' ⟨ys,es,rest,q⟩=>⟨xs.length - (i+1),by omega,rfl,hlt,ys,es,rest,q⟩,fun v H2 y=>?_⟩
    obtain ⟨s2,d,hd,dv⟩:=G.yl i H1 v H2 acc sB hacc (exA s1 ⟨_,e1⟩) hlt y;have ed:xs.drop i=d::xs.drop (i+1):=by
     rw [List.drop_eq_getElem_cons hlt];rw [List.getElem?_eq_getElem hlt] at hd;cases hd;rfl
    rw [ed] at c1;obtain ⟨δ1,b1,c2⟩:=mf (show (gY t d δ0).bind (fun δ1=>(τ δ1).bind fun b=>if b=true then (ε δ1).bind fun y=>(dq t τ ε δ0 (xs.drop (i+1))).bind fun ys=>.ok (y::ys) else dq t τ ε δ0 (xs.drop (i+1)))=.ok rest from c1);obtain ⟨b,b2,c3⟩:=mf c2;have I2:DI K (acc::M) H2 [] [] σ1 δ0 H2:=DI.plain I1.len (exA (s1.trans s2) ⟨_,s2 _ _ e1⟩) fun i d e=>let ⟨v,h1,h2⟩:=I1.var i d (by simp) e;⟨v,h1,h2.mono (a8 s2)⟩
    -- behind the target,at any later heap in which acc's list may have grown
    have again:∀ {σ3:St} {H3 H4:Hp},DI K (acc::M) H2 [] [] σ3 δ1 H3->aD (aS (acc::M) H3) (aS (acc::M) H4)->(∀ a∈acc::M,H4 a≠none)->DI K (acc::M) H4 [] [] σ3 δ0 H4:=fun {σ3 H3 H4} I3 s34 ex4 =>
     DI.plain (by rw [<- zf b1];exact I3.len) ex4 fun i d e=>let ⟨v,h1,h2⟩:=I3.var i d (by simp) (wv hf b1 i d e);⟨v,h1,h2.mono s34⟩
    refine ⟨acc::M,H2,[],δ0,d,by rw [hWb];exact I2,by rw [hWb];exact dv,?_⟩;rw [b1];refine fun σ3 I3=>⟨acc::M,H2,[],δ1,I3,?_⟩;rw [hWb] at I3;rw [b2];refine fun H3 s3=>?_;have I3':=I3.mono s3;have s13:aD H1 H3:=s2.trans s3;cases b with
    | false =>
     exact ⟨ys,es,rest,s13 _ _ e1,by omega,s1.trans s13,d1.mono (a8 s13),c3,a1,again I3' (aD.refl _) (exA (s1.trans s13) ⟨_,s13 _ _ e1⟩)⟩
    | true =>
     obtain ⟨y',b3,c4⟩:=mf (show (ε δ1).bind (fun y=>(dq t τ ε δ0 (xs.drop (i+1))).bind fun ys=>.ok (y::ys))=.ok rest from c3);obtain ⟨r',b4,c5⟩:=mf c4;cases c5;refine ⟨acc::M,H2,[],δ1,by rw [hWb];exact I3',?_⟩;rw [b3];refine fun v4 H4 s4 d4=>?_;rw [hWb] at d4;have s14:aD H1 H4:=s13.trans s4;have e4:=s14 _ _ e1;have hm:=fY;have same5:aD (aS (acc::M) H4) (aS (acc::M) (dE H4 acc (.lst (ys++[v4])))):=fun b o e=>by
      by_cases hb:b∈acc::M
      ·rw [kt hb] at e;cases e
      ·rw [bp hb] at e ⊢;rw [bn (fun z=>hb (by rw [z];exact List.mem_cons_self))];exact e
     have s5:aD H (dE H4 acc (.lst (ys++[v4]))):=fun b o e=>by
      rw [bn (bK e hacc)];exact (s1.trans s14) b o e
     refine ⟨ys,e4,by omega,ys++[v4],es++[y'],r',br,by simp;omega,s5,?_,b4,by rw [a1];simp,again I3' ((a8 s4).trans same5) (exA s5 ⟨_,br⟩)⟩;exact (aX.append (d1.mono (a8 s14)) (aX.cons d4 aX.nil)).mono same5
   ·have e':i=xs.length:=by omega
    subst e';rw [List.drop_length] at c1;cases c1;rw [List.append_nil] at a1;subst a1;exact .inl ⟨G.stop H1 sB,hq' acc _ H1 s1 hacc e1 ⟨ys,rfl,d1⟩⟩
 ·rw [if_neg hc] at hq;exact hq.elim
def nj (hcs:Bz osc ON N ix scope=true) (hi:JI X tg iter (iD W O ι)) (hg:∀ b,JG (jL X N scope b) tg (gD Wb [] t)) (ht:∀ b,JTs (jL X N scope b) ifs (sV Wb [] τ)) (he:∀ b,JE (jL X N scope b) elt (tD Wb [] ε)) (hO:∀ j∈ix,∀ k,j=some k->k∉O)
  (hWb:Wb.K=W.K:=by rfl) (hE:X.env.scope=osc:=by rfl) (hON:X.N=ON:=by rfl) (hc:X.calm=true:=by rfl) (hs:∀ x,foldedSetIterable iter X.env x=pure x:=by intro _;rfl):JE X (.ListComp elt [⟨tg,iter,ifs,0⟩] scope pos) (tN W O (dm ix ι t τ ε)) :=
 (Mt hcs hi hg ht he hE hON hc hs).imp fun σ H Q hh=>g4 hh fun as0 B own δ I h=>⟨as0,B,own,δ,I,by
  unfold dm at h;cases hr:ι δ with
  | no=>rw [hr] at h;exact h.elim
  | er x=>rw [hr] at h;exact h
  | ok xs =>
   rw [hr] at h;refine fun J H1 s1 G=>B9 hWb (I.mono s1) hO G.comp ?_;have h':mJ W (own++as0) H (cA t τ ε (cf ix δ) xs) Q:=h;cases hq:cA t τ ε (cf ix δ) xs with
   | ok d=>rw [hq] at h';exact fun p o H' s hp=>h' p o H' (s1.trans s) (s1.free hp)
   | er x =>
    unfold cA at hq;split at hq
    ·cases hc:dq t τ ε (cf ix δ) xs <;> rw [hc] at hq <;> cases hq
    ·cases hq
   | no=>rw [hq] at h';exact h'.elim⟩
def Cp {i:Nat} {x:Str} {spos pos':Pos} (hN:X.N.Nodup) (hl:Ct X.env.scope x) (hcs:Bz osc ON N ix scope=true) (hi:JI X tg iter (iD W O ι)) (hg:∀ b,JG (jL X N scope b) tg (gD Wb [] t)) (ht:∀ b,JTs (jL X N scope b) ifs (sV Wb [] τ)) (he:∀ b,JE (jL X N scope b) elt (tD Wb [] ε)) (hO:∀ j∈ix,∀ k,j=some k->k∉O)
  (hWb:Wb.K=W.K:=by rfl) (hx:X.N[i]?=some x:=by rfl) (hE:X.env.scope=osc:=by rfl) (hON:X.N=ON:=by rfl) (hc:X.calm=true:=by rfl)
  (hsw:swapsWith (.ListComp elt [⟨tg,iter,ifs,0⟩] scope pos) (some (.Name x pos')) spos.line X.env=pure true:=by rfl)
  (hf:X.fn x=true\/X.env.scope.names.lookup x=some .local:=by first|exact .inl rfl|exact .inr rfl|assumption)
  (hs:∀ x,foldedSetIterable iter X.env x=pure x:=by intro _;rfl):JS X (.Assign [.Name x pos'] (.ListComp elt [⟨tg,iter,ifs,0⟩] scope pos) spos) (Dj (tN W O (dm ix ι t τ ε)) (qh i)) :=
 (Bi hN hl hcs hi hg ht he hx hE hON hc hsw hf hs).imp fun D σ H hh=>g4 hh fun as0 B own δ I h=>⟨as0,B,own,δ,I,by
  unfold dm at h;cases hr:ι δ with
  | no=>rw [hr] at h;exact h.elim
  | er x=>rw [hr] at h;exact h
  | ok xs =>
   rw [hr] at h;refine fun J H1 s1 G=>B9 hWb (I.mono s1) hO G.comp ?_;have h':mJ W (own++as0) H (cA t τ ε (cf ix δ) xs) (fun x H1=>qh i x σ H1 D.nx):=h;cases hq:cA t τ ε (cf ix δ) xs with
   | ok d=>rw [hq] at h';exact fun p o H' s hp=>h' p o H' (s1.trans s) (s1.free hp)
   | er x =>
    unfold cA at hq;split at hq
    ·cases hc:dq t τ ε (cf ix δ) xs <;> rw [hc] at hq <;> cases hq
    ·cases hq
   | no=>rw [hq] at h';exact h'.elim⟩
def Ci {Ob:List Nat} {i:Nat} {st:Stmt} (hO:i∉O) (h:JS X st (Dj (tN W O ε) (qh i))):JS X st (sD W Ob O O (aJ i ε)):=h.imp fun D σ H hh=>g4 hh fun as0 B own δ I h =>
 ⟨as0,B,own,δ,I,r0 I h fun d p o H' s hp e od h'=>h' own _ H' ((I.mono s).set hO (od.den (I.new hp) e))⟩
end
def hU (N:List Str) (ds:List D):Sd:=ds.map some++List.replicate (N.length - ds.length) none
def bM (φ:FS) (N P:List Str) (ds:List D):R D:=if ds.length=P.length then (φ (hU N ds)).bind fun f=>match f with
 | .rt d=>.ok d
 | .rn d=>.ok d
 | .nx _=>.ok .non
 | _=>.no
 else .no
def jH (K:PySem.W.Frag) (mg:Str->Option Value) (F:List D->R D):Sp:=fun vs H Q _=>∃ as ds,(∀ a∈as,H a≠none)/\aX K (aS as H) ds vs/\dJ ⟨K,mg,E0⟩ as H (F ds) Q
section
variable {P:Program} {w:World} {K:PySem.W.Frag} {mg:Str->Option Value} {base:Heap}
def pq {H:Hp}:∀ {ds:List D} {vs:List V} {i:Nat} {d:D},aX K H ds vs->∀ {n:Nat},(ds.map some++List.replicate n none)[i]?=some (some d)->∃ v,(vs.map some++List.replicate n none)[i]?=some (some v)/\gy K H d v:=by
 intro ds vs i d h n e;have hl:=h.len;by_cases hi:i < ds.length
 ·rw [List.getElem?_append_left (by simpa using hi),List.getElem?_map] at e;rw [List.getElem?_append_left (by rw [List.length_map,<- hl];exact hi),List.getElem?_map];cases q:ds[i]? with
  | none=>rw [q] at e;cases e
  | some d' =>
   rw [q] at e;cases e;obtain ⟨v,h1,h2⟩:=h.get q;exact ⟨v,by rw [h1];rfl,h2⟩
 ·rw [List.getElem?_append_right (by simpa using hi),List.getElem?_replicate] at e;split at e <;> cases e
def Fun.okD {x qual:Str} {st:Stmt} {f:Addr} {fd:FuncData} {N ps:List Str} {k:Nat} {φ:FS} {O':List Nat} (F:Fun K x qual st f fd) (S:FnScope N ps (ap st))
  (hbody:∀ (cdv:Value) (A:Around) (outer:List Env) (s:Shared) (H:Hp) (E:XK),Room k (A.deeper (envOfC qual (ap st) s.heap.objs.size f cdv)) ->
   JB (lc gW P w K mg base N qual (ap st) f cdv A outer s H E).nox (cR st) (sD ⟨K,mg,E0⟩ [] [] O' φ)):FnOk P w K mg base gW (k+1) f fd ps (jH K mg (bM φ N ps)):=by
 refine F.okJ S (fun vs H Q E h=>?_) fun cdv A outer s H vs Q E hr h=>?_
 ·obtain ⟨as,ds,ex,dv,h⟩:=h;unfold bM at h;split at h
  ·rename_i hl;rw [<- dv.len];exact hl
  ·exact h.elim
 ·obtain ⟨as,ds,ex,dv,h⟩:=h;unfold bM at h;split at h
  ·rename_i hl;refine ⟨_,hbody cdv A outer s H E hr,as,H,[],hU N ds,⟨?_,rfl,List.nodup_nil,List.nodup_nil,fun a ha=>(nomatch ha),ex,aD.refl _,fun i d _ e=>?_,fun i a h=>(by simp at h)⟩,?_⟩
   ·unfold hU start;simp [dv.len]
   ·unfold hU at e;unfold start;rw [<- dv.len];exact pq dv e
   ·cases hr:φ (hU N ds) with
    | ok fl =>
     rw [hr] at h;cases fl with
     | rt d=>exact fun v H' s dv'=>h v H' s dv'
     | rn d=>exact fun p o H' s hp e od=>h (.ref p) H' s (od.den (fun z=>ex p z hp) e)
     | nx δ=>exact fun own σ H' I=>h .non H' I.same rfl
     | bk δ=>exact h.elim
     | ct δ=>exact h.elim
    | er x=>rw [hr] at h;exact fun e C H' s=>h e C H' s
    | no=>rw [hr] at h;exact h.elim
  ·exact h.elim
section
variable {X:Cx} {O:List Nat} {x:Str} {st:Stmt} {ps:List Str} {f:Addr} {fd:FuncData} {j k:Nat} {F:List D->R D} {p pos:Pos} {e:Expr} {es:List Expr} {α:FA}
def bQ (D:Def X.K X.mg x st ps f fd) (G:FnOk X.prog X.w X.K X.mg X.base gW j f fd ps (jH K mg F)) (hr:Room k X.A) (ha:JA X (e::es) (tw ⟨K,mg,E0⟩ O α)) (hj:j<=k:=by decide) (hg:Gl X x:=by rfl) (hdb:(x==("__debug__":Str))=false:=by decide)
  (h1:aR e=true:=by rfl) (h2:es.all aR=true:=by rfl):JE X (.Call (.Name x p) (e::es) [] pos) (tD ⟨K,mg,E0⟩ O (ak F α)) :=
 (Mi D G hr ha hj hg hdb h1 h2).imp fun σ H Q hh=>g4 hh fun as0 B own δ I h=>⟨as0,B,own,δ,I,fe h fun ds vs H1 s1 d1 h1=>⟨own++as0,ds,(I.mono s1).exi,d1,h1⟩⟩
end
def Ll {a:Addr} {ns:List Int} {H:Hp} {F:List D->R D} {Q:VK} {E:XK} (hS:jl K H a (ns.map V.int)) (h:F [.lst (ns.map D.int)]=.ok (.bl true)) (q:∀ H',Q (.bl true) H'):jH K mg F [.ref a] H Q E:=by
 refine ⟨[],[.lst (ns.map D.int)],fun a ha=>(nomatch ha),⟨.ref a,[],rfl,⟨a,ns.map V.int,rfl,by rw [FH];exact hS,?_⟩,rfl⟩,?_⟩
 ·clear h hS;induction ns with
  | nil=>exact rfl
  | cons n r ih=>exact ⟨_,_,rfl,rfl,ih⟩
 ·rw [h];intro v H' s dv;cases dv;exact q H'
end
section
variable {W:Wd} {X:Cx}
def aP {as:List Addr} {H:Hp} {d:D} {v:V} {Q:VK} (h:dJ W as H (.ok d) Q) (hd:gy W.K (aS as H) d v):Q v H:=h v H (aD.refl _) hd
def Jk:gf X (binaryOp .Add) (fun x y H Q=>∃ l b xs zs,x=.ref l/\y=.ref b/\jl X.K H l xs/\jl X.K H b zs/\xs.length+zs.length<=sizeLine/\∀ p,H p=none->Q (.ref p) (dE H p (.lst (xs++zs)))):=by
 intro af s σ H x y v u Q I rx ry h;obtain ⟨l,b,xs,zs,rfl,rfl,hH,hB,hz,q⟩:=h;cases rx;cases ry;obtain ⟨its,r,pl,hl⟩:=I.list hH;obtain ⟨its2,r2,pl2,hl2⟩:=I.list hB;obtain ⟨⟨cls,dd,data,sl⟩,ho,hc,n,hd⟩:=pl.isList;obtain ⟨⟨cls2,dd2,data2,sl2⟩,ho2,hc2,n2,hd2⟩:=pl2.isList;simp only at hc hd hc2 hd2;subst hc hd hc2 hd2;have e:its.toArray++its2.toArray=(its++its2).toArray:=by simp
 refine concat_meets ⟨_,ho,rfl⟩ ⟨_,ho2,rfl⟩ noFill_list_add seq_list_add PySem.F.slot_list_add PySem.F.entry_list_add (PySem.F.args_list_add_2 _ _) (list_addW l b its.toArray its2.toArray n n2 dd dd2 sl sl2 (by rw [List.size_toArray,List.size_toArray,<- r.length,<- r2.length];exact hz)) ⟨ho,ho2,?_⟩;rw [e];exact ⟨.ref _,_,I.lnew (t':=s.toks) (r.append r2) (by rw [List.length_append];exact hz),rfl,q _ I.fresh⟩
def Fz (K:PySem.W.Frag):R2:=fun x y H Q=>match x,y with
 | .int i,.int j=>Q (.int (i+j)) H
 | .str i,.str j=>i.length+j.length<=sizeLine/\Q (.str (i++j)) H
 | .ref l,.ref b=>(∃ xs zs,jl K H l xs/\jl K H b zs/\xs.length+zs.length<=sizeLine/\∀ p,H p=none->Q (.ref p) (dE H p (.lst (xs++zs)))) \/
   ∃ xs zs,mT K H l xs/\mT K H b zs/\xs≠[]/\xs.length+zs.length<=sizeLine/\(zs=[]->Q (.ref l) H)/\(zs≠[]->∀ p,H p=none->Q (.ref p) (dE H p (.tup (xs++zs))))
 | _,_=>False
def aM (K:PySem.W.Frag) (hK:X.K=K:=by rfl):gf X (binaryOp .Add) (Fz K):=by
 subst hK;refine ((Ls.or Bl).or (Jk.or IP)).imp fun x y H Q q=>?_;unfold Fz at q;split at q
 ·exact .inl (.inl ⟨_,_,rfl,rfl,q⟩)
 ·exact .inl (.inr ⟨_,_,rfl,rfl,q.1,q.2⟩)
 ·rcases q with ⟨xs,zs,h1,h2,h3,h4⟩|⟨xs,zs,h1,h2,h3,h4,h5,h6⟩
  ·exact .inr (.inl ⟨_,_,xs,zs,rfl,rfl,h1,h2,h3,h4⟩)
  ·exact .inr (.inr ⟨_,_,xs,zs,rfl,rfl,h1,h2,h3,h4,h5,h6⟩)
 ·exact q.elim
def aC (a b:D):R D:=match a,b with
 | .int i,.int j=>.ok (.int (i+j))
 | .str x,.str y=>if x.length+y.length<=1000000 then .ok (.str (x++y)) else .no
 | .lst xs,.lst ys=>if xs.length+ys.length<=1000000 then .ok (.lst (xs++ys)) else .no
 | .tup xs,.tup ys=>if xs.isEmpty=false/\xs.length+ys.length<=1000000 then .ok (.tup (xs++ys)) else .no
 | _,_=>.no
def bb (K:PySem.W.Frag) (hW:W.K=K:=by rfl):rX W (Fz K) aC:=by
 subst hW;intro as H x y a b Q hn da db h;unfold aC at h;split at h
 ·cases da;cases db;exact aP h rfl
 ·cases da;cases db;split at h
  ·rename_i hl;exact ⟨Nat.le_trans hl fY,aP h rfl⟩
  ·exact h.elim
 ·rename_i xs ys;obtain ⟨p,vs,rfl,q1,q2⟩:=da;obtain ⟨p2,ws,rfl,q3,q4⟩:=db;split at h
  ·rename_i hl;rw [q2.len,q4.len] at hl;refine .inl ⟨vs,ws,(aQ _ _).seq q1,(aQ _ _).seq q3,Nat.le_trans hl fY,fun p hp=>?_⟩;refine h _ _ (bo hp _) ⟨p,vs++ws,rfl,.inl (.inl (by rw [bp (hn p hp)];exact br)),(q2.append q4).mono (a8 (bo hp _))⟩
  ·exact h.elim
 ·rename_i xs ys;obtain ⟨p,vs,rfl,q1,q2⟩:=da;obtain ⟨p2,ws,rfl,q3,q4⟩:=db;split at h
  ·rename_i hl;obtain ⟨he,hl⟩:=hl;have he':vs≠[]:=fun z=>by
    have:=q2.empty
    rw [he,z] at this;cases this
   rw [q2.len,q4.len] at hl;refine .inr ⟨vs,ws,(aQ _ _).seqT q1,(aQ _ _).seqT q3,he',Nat.le_trans hl fY,fun z=>?_,fun z p hp=>?_⟩
   ·have:ys=[]:=by
     cases ys with
     | nil=>rfl
     | cons d r=>obtain ⟨_,_,e,_⟩:=q4;rw [z] at e;cases e
    subst this;rw [List.append_nil] at h;exact aP h ⟨p,vs,rfl,q1,q2⟩
   ·exact h _ _ (bo hp _) ⟨p,vs++ws,rfl,.inl (.inl (by rw [bp (hn p hp)];exact br)),(q2.append q4).mono (a8 (bo hp _))⟩
  ·exact h.elim
 ·exact h.elim
def jj (a b:D):R D:=match a,b with
 | .int i,.int j=>.ok (.int (i - j))
 | _,_=>.no
def zx:rX W M8 jj:=by
 intro as H x y a b Q hn da db h;unfold jj at h;split at h
 ·cases da;cases db;exact aP h rfl
 ·exact h.elim
def AB:gf X (binaryOp .Mult) (fun x y H Q=>∃ i n,x=.str i/\y=.int n/\MulOk i n/\Q (.str (Txt.mul i n)) H):=by
 intro af s σ H x y v u Q I rx ry h;obtain ⟨i,n,rfl,rfl,hm,q⟩:=h;obtain ⟨t,rfl⟩:=rx;obtain ⟨t',rfl⟩:=ry;exact bf I.tk (SB.mul hm fun t' k htk=>⟨.str _,H,I.tok _,⟨t',rfl⟩,q⟩)
def ED:R2:=fun x y H Q=>match x,y with
 | .int i,.int j=>Bu i j/\Q (.int (i*j)) H
 | .str i,.int j=>MulOk i j/\Q (.str (Txt.mul i j)) H
 | _,_=>False
def oG:gf X (binaryOp .Mult) ED:=(ME.or AB).imp fun x y H Q q=>by
 unfold ED at q;split at q
 ·exact .inl ⟨_,_,rfl,rfl,q.1,q.2⟩
 ·exact .inr ⟨_,_,rfl,rfl,q.1,q.2⟩
 ·exact q.elim
instance (i j:Int):Decidable (Bu i j):=by unfold Bu;infer_instance
instance (i j:Int):Decidable (EE i j):=by unfold EE;infer_instance
instance (i j:Int):Decidable (EV i j):=by unfold EV;infer_instance
def dC (a b:D):R D:=match a,b with
 | .int i,.int j=>if Bu i j then .ok (.int (i*j)) else .no
 | .str x,.int n=>if x.length<=1000/\-1000<=n/\n<=1000 then .ok (.str (Txt.mul x n)) else .no
 | _,_=>.no
def vU:rX W ED dC:=by
 intro as H x y a b Q hn da db h;unfold dC at h;split at h
 ·cases da;cases db;split at h
  ·rename_i hl;exact ⟨hl,aP h rfl⟩
  ·exact h.elim
 ·cases da;cases db;split at h
  ·rename_i hl;exact ⟨mulOk_of 1000 1000 hl.1 (by omega) (by omega) (by decide) (by decide),aP h rfl⟩
  ·exact h.elim
 ·exact h.elim
def cC (a b:D):R D:=match a,b with
 | .int i,.int j=>if EE i j then .ok (.int (i/j)) else .no
 | _,_=>.no
def lb:rX W Na cC:=by
 intro as H x y a b Q hn da db h;unfold cC at h;split at h
 ·cases da;cases db;split at h
  ·rename_i hl;exact ⟨hl,aP h rfl⟩
  ·exact h.elim
 ·exact h.elim
def bq (a b:D):R D:=match a,b with
 | .int i,.int j=>if 0 < j then .ok (.int (i % j)) else .no
 | _,_=>.no
def eU:rX W MW bq:=by
 intro as H x y a b Q hn da db h;unfold bq at h;split at h
 ·cases da;cases db;split at h
  ·rename_i hl;exact ⟨hl,aP h rfl⟩
  ·exact h.elim
 ·exact h.elim
def kR (a b:D):R D:=match a,b with
 | .int i,.int j=>if EV i j then .ok (.int (i ^ j.toNat)) else .no
 | _,_=>.no
def D9:rX W K3 kR:=by
 intro as H x y a b Q hn da db h;unfold kR at h;split at h
 ·cases da;cases db;split at h
  ·rename_i hl;exact ⟨hl,aP h rfl⟩
  ·exact h.elim
 ·exact h.elim
def Iu (a:D):R D:=match a with
 | .int i=>.ok (.int (-i))
 | _=>.no
def U9:W6 W Ms Iu:=by
 intro as H x a Q da h;unfold Iu at h;split at h
 ·cases da;exact aP h rfl
 ·exact h.elim
def D6 (a b:D):R D:=match a,b with
 | .int i,.int j=>.ok (.bl (decide (i < j)))
 | .str i,.str j=>.ok (.bl (decide (i.cps.toList < j.cps.toList)))
 | _,_=>.no
def Av (a b:D):R D:=match a,b with
 | .int i,.int j=>.ok (.bl (decide (i<=j)))
 | .str i,.str j=>.ok (.bl (!decide (j.cps.toList < i.cps.toList)))
 | _,_=>.no
def vn (a b:D):R D:=match a,b with
 | .int i,.int j=>.ok (.bl (decide (j < i)))
 | .str i,.str j=>.ok (.bl (decide (j.cps.toList < i.cps.toList)))
 | _,_=>.no
def MR (a b:D):R D:=match a,b with
 | .int i,.int j=>.ok (.bl (decide (j<=i)))
 | .str i,.str j=>.ok (.bl (!decide (i.cps.toList < j.cps.toList)))
 | _,_=>.no
def Nr:rX W VD D6:=by
 intro as H x y a b Q hn da db h;unfold D6 at h;split at h
 ·cases da;cases db;exact aP h rfl
 ·cases da;cases db;exact aP h rfl
 ·exact h.elim
def Nv:rX W VH Av:=by
 intro as H x y a b Q hn da db h;unfold Av at h;split at h
 ·cases da;cases db;exact aP h rfl
 ·cases da;cases db;exact aP h rfl
 ·exact h.elim
def JN:rX W Vg vn:=by
 intro as H x y a b Q hn da db h;unfold vn at h;split at h
 ·cases da;cases db;exact aP h rfl
 ·cases da;cases db;exact aP h rfl
 ·exact h.elim
def UV:rX W V8 MR:=by
 intro as H x y a b Q hn da db h;unfold MR at h;split at h
 ·cases da;cases db;exact aP h rfl
 ·cases da;cases db;exact aP h rfl
 ·exact h.elim
def GQ:D->Bool
 | .non=>true
 | _=>false
def IU (j:Bool):D->Bool
 | .bl i=>i==j
 | _=>false
def Nq (x:D) (y:D):R D:=match y with
 | .non=>.ok (.bl (GQ x))
 | .bl j=>.ok (.bl (IU j x))
 | _=>.no
def Ek {K:PySem.W.Frag} {H:Hp} {a:D} {x:V} (h:gy K H a x):GP x .non=GQ a:=by
 cases a with
 | lst _=>obtain ⟨_,_,rfl,_⟩:=h;rfl
 | tup _=>obtain ⟨_,_,rfl,_⟩:=h;rfl
 | dct _=>obtain ⟨_,_,rfl,_⟩:=h;rfl
 | obj _ _=>obtain ⟨_,_,_,rfl,_⟩:=h;rfl
 | exn _=>obtain ⟨_,_,rfl,_⟩:=h;rfl
 | cls _=>obtain ⟨_,rfl,_⟩:=h;rfl
 | _=>cases h;rfl
def Dn {K:PySem.W.Frag} {H:Hp} {a:D} {x:V} {j:Bool} (h:gy K H a x):GP x (.bl j)=IU j a:=by
 cases a with
 | lst _=>obtain ⟨_,_,rfl,_⟩:=h;rfl
 | tup _=>obtain ⟨_,_,rfl,_⟩:=h;rfl
 | dct _=>obtain ⟨_,_,rfl,_⟩:=h;rfl
 | obj _ _=>obtain ⟨_,_,_,rfl,_⟩:=h;rfl
 | exn _=>obtain ⟨_,_,rfl,_⟩:=h;rfl
 | cls _=>obtain ⟨_,rfl,_⟩:=h;rfl
 | _=>cases h;rfl
def WQ:rX W VW Nq:=by
 intro as H x y a b Q hn da db h;unfold Nq at h;split at h
 ·cases db;show Q (.bl (GP x .non)) H;rw [Ek da];exact aP h rfl
 ·cases db;show Q (.bl (GP x (.bl _))) H;rw [Dn da];exact aP h rfl
 ·exact h.elim
mutual
def rD:D->Option PyData
 | .non=>some .none
 | .bl b=>some (.bool b)
 | .int i=>some (.int i)
 | .str x=>some (.str x)
 | .lst xs=>(nn xs).map .list
 | .tup xs=>(nn xs).map .tuple
 | _=>none
def nn:List D->Option (List PyData)
 | []=>some []
 | d::ds=>(rD d).bind fun p=>(nn ds).map (p::·)
end
mutual
def nA {af:List (Addr×Obj)} {σ:St} {H:Hp} {s:Shared} (I:Inv X af σ H s):∀ {d:D} {v:V} {u:Value} {p:PyData},gy X.K H d v->bw v u->rD d=some p->∃ as,Reads s.heap u p as
 | .non,_,_,_,h,r,e=>by cases h;cases r;cases e;exact ⟨_,.none⟩
 | .bl b,_,_,_,h,r,e=>by cases h;cases r;cases e;exact ⟨_,.bool b⟩
 | .int i,_,_,_,h,r,e=>by cases h;obtain ⟨t,rfl⟩:=r;cases e;exact ⟨_,.int i t⟩
 | .str x,_,_,_,h,r,e=>by cases h;obtain ⟨t,rfl⟩:=r;cases e;exact ⟨_,.str x t⟩
 | .lst ds,_,_,_,⟨a,xs,h0,h1,h2⟩,r,e=>by
  subst h0;cases r;unfold rD at e;cases q:nn ds with
  | none=>rw [q] at e;cases e
  | some ps =>
   rw [q] at e;cases e;obtain ⟨its,rv,pl,hz⟩:=I.list h1;obtain ⟨o,ho,hc,n,hd⟩:=pl.isList;obtain ⟨as,ha⟩:=m9 I h2 rv q;exact ⟨_,.list ho hc hd (by simpa using ha)⟩
 | .tup ds,_,_,_,⟨a,xs,h0,h1,h2⟩,r,e=>by
  subst h0;cases r;unfold rD at e;cases q:nn ds with
  | none=>rw [q] at e;cases e
  | some ps =>
   rw [q] at e;cases e;obtain ⟨its,rv,pl,hz⟩:=I.tuple h1;obtain ⟨o,ho,hc,n,hd⟩:=pl;obtain ⟨as,ha⟩:=m9 I h2 rv q;exact ⟨_,.tuple ho hc hd (by simpa using ha)⟩
 | .dct _,_,_,_,_,_,e=>by cases e
 | .obj _ _,_,_,_,_,_,e=>by cases e
 | .ty _,_,_,_,_,_,e=>by cases e
 | .exn _,_,_,_,_,_,e=>by cases e
 | .cls _,_,_,_,_,_,e=>by cases e
def m9 {af:List (Addr×Obj)} {σ:St} {H:Hp} {s:Shared} (I:Inv X af σ H s):∀ {ds:List D} {vs:List V} {us:List Value} {ps:List PyData},aX X.K H ds vs->bC vs us->nn ds=some ps->∃ as,ReadsAll s.heap us ps as
 | [],_,_,_,h,r,e=>by cases h;cases r;cases e;exact ⟨_,.nil⟩
 | d::ds,_,_,_,⟨v,vs,h0,h1,h2⟩,r,e=>by
  subst h0;unfold nn at e;cases q:rD d with
  | none=>rw [q] at e;cases e
  | some p =>
   rw [q] at e;have e:(nn ds).map (p::·)=some _:=e;cases q2:nn ds with
   | none=>rw [q2] at e;cases e
   | some ps =>
    rw [q2] at e;cases e;cases r with
    | cons r1 r2 =>
     obtain ⟨as,ha⟩:=nA I h1 r1 q;obtain ⟨bs,hb⟩:=m9 I h2 r2 q2;exact ⟨_,.cons ha hb⟩
end
def eY:D->Option V
 | .non=>some .non
 | .bl b=>some (.bl b)
 | .int i=>some (.int i)
 | .str x=>some (.str x)
 | _=>none
def g9 {K:PySem.W.Frag} {H:Hp} {d:D} {v x:V} (h:gy K H d v) (e:eY d=some x):v=x:=by
 cases d with
 | non=>cases e;exact h
 | bl b=>cases e;exact h
 | int b=>cases e;exact h
 | str b=>cases e;exact h
 | _=>cases e
def rY (a b:D):Option Bool:=match rD a,rD b with
 | some p,some q=>if SeqAt.shaped p=true/\SeqAt.shaped q=true then some (PyData.eqv p q) else none
 | _,_=>none
def vk (a b:D):Option Bool:=match eY a,eY b with
 | some x,some y=>if oE x y=true then some (decide (x=y)) else none
 | _,_=>rY a b
def EN (K:PySem.W.Frag) (f:Bool->Bool):R2:=fun x y H Q=>∃ a b k,gy K H a x/\gy K H b y/\vk a b=some k/\Q (.bl (f k)) H
def z3 {a b:D} {k:Bool} (h:rY a b=some k):∃ p q,rD a=some p/\rD b=some q/\SeqAt.shaped p=true/\SeqAt.shaped q=true/\k=PyData.eqv p q:=by
 unfold rY at h;split at h
 ·rename_i p q h1 h2;split at h
  ·rename_i hs;cases h;exact ⟨p,q,h1,h2,hs.1,hs.2,rfl⟩
  ·cases h
 ·cases h
def cD (K:PySem.W.Frag) (hu:X.A.units+64 < cLine) (hK:X.K=K:=by rfl):gf X (compareOp .Eq) (EN K fun k=>k):=by
 subst hK;intro af s σ H x y v u Q I rx ry h;obtain ⟨a,b,k,da,db,e,q⟩:=h;unfold vk at e;split at e
 ·rename_i x' y' e1 e2;split at e
  ·rename_i hs;cases e
   have:=g9 da e1;subst this
   have:=g9 db e2;subst this
   exact RG af s σ H _ _ v u Q I rx ry ⟨hs,q⟩
  ·cases e
 ·obtain ⟨p,p',h1,h2,h3,h4,rfl⟩:=z3 e;obtain ⟨as,ra⟩:=nA I da rx h1;obtain ⟨bs,rb⟩:=nA I db ry h2;exact eq_dataH ra rb h3 h4 hu ⟨.bl _,H,I,rfl,q⟩
def IZ (K:PySem.W.Frag) (hu:X.A.units+64 < cLine) (hK:X.K=K:=by rfl):gf X (compareOp .NotEq) (EN K fun k=>!k):=by
 subst hK;intro af s σ H x y v u Q I rx ry h;obtain ⟨a,b,k,da,db,e,q⟩:=h;unfold vk at e;split at e
 ·rename_i x' y' e1 e2;split at e
  ·rename_i hs;cases e
   have:=g9 da e1;subst this
   have:=g9 db e2;subst this
   exact Sn af s σ H _ _ v u Q I rx ry ⟨hs,q⟩
  ·cases e
 ·obtain ⟨p,p',h1,h2,h3,h4,rfl⟩:=z3 e;obtain ⟨as,ra⟩:=nA I da rx h1;obtain ⟨bs,rb⟩:=nA I db ry h2;exact ne_dataH ra rb h3 h4 hu ⟨.bl _,H,I,rfl,q⟩
def kg (o:Option Bool) (f:Bool->Bool):R D:=match o with
 | some k=>.ok (.bl (f k))
 | none=>.no
def cq (a b:D):R D:=kg (vk a b) fun k=>k
def wW (a b:D):R D:=kg (vk a b) fun k=>!k
def Q8 (K:PySem.W.Frag) (f:Bool->Bool) (hW:W.K=K:=by rfl):rX W (EN K f) (fun a b=>kg (vk a b) f):=by
 subst hW;intro as H x y a b Q hn da db h;have h:dJ W as H (kg (vk a b) f) Q:=h;cases e:vk a b with
 | none=>rw [e] at h;exact h.elim
 | some k =>
  rw [e] at h;exact ⟨a,b,k,da.mono (aQ _ _),db.mono (aQ _ _),e,aP h rfl⟩
def kj (K:PySem.W.Frag) (hW:W.K=K:=by rfl):rX W (EN K fun k=>k) cq:=Q8 K _ hW
def UH (K:PySem.W.Frag) (hW:W.K=K:=by rfl):rX W (EN K fun k=>!k) wW:=Q8 K _ hW
def md:List D->Option (List V)
 | []=>some []
 | d::ds=>(eY d).bind fun v=>(md ds).map (v::·)
def pd {K:PySem.W.Frag} {H:Hp}:∀ {ds:List D} {vs xs:List V},aX K H ds vs->md ds=some xs->vs=xs/\xs.all iO=true
 | [],_,_,h,e=>by cases h;cases e;exact ⟨rfl,rfl⟩
 | d::ds,_,_,⟨v,vs,h0,h1,h2⟩,e=>by
  subst h0;unfold md at e;cases q:eY d with
  | none=>rw [q] at e;cases e
  | some x =>
   rw [q] at e;have e:(md ds).map (x::·)=some _:=e;cases q2:md ds with
   | none=>rw [q2] at e;cases e
   | some xs =>
    rw [q2] at e;cases e;obtain ⟨h3,h4⟩:=pd h2 q2;refine ⟨by rw [g9 h1 q,h3],?_⟩;rw [List.all_cons,h4,Bool.and_true];cases d <;> cases q <;> rfl
def uO {d:D} {x:V} (e:eY d=some x):iO x=true:=by cases d <;> cases e <;> rfl
def HN (j i:Str):Bool:=!(Builtin.Str.occurrences j i 0 j.length 1).isEmpty
def zL (K:PySem.W.Frag) (neg:Bool):R2:=fun x y H Q=>match x,y with
 | .str i,.str j=>Q (.bl (if neg=true then !HN j i else HN j i)) H
 | x,.ref p=>∃ xs,(jl K H p xs\/mT K H p xs)/\iO x=true/\xs.all iO=true/\Q (.bl (if neg=true then !FL x xs else FL x xs)) H
 | _,_=>False
def zo (K:PySem.W.Frag) (hK:X.K=K:=by rfl):gf X (compareOp .In) (zL K false):=by
 subst hK;refine (Ei.or Dh).imp fun x y H Q q=>?_;unfold zL at q;split at q
 ·exact .inl ⟨_,_,rfl,rfl,q⟩
 ·obtain ⟨xs,h1,h2,h3,h4⟩:=q;exact .inr ⟨_,xs,rfl,h1,h2,h3,h4⟩
 ·exact q.elim
def Jv (K:PySem.W.Frag) (hK:X.K=K:=by rfl):gf X (compareOp .NotIn) (zL K true):=by
 subst hK;refine (xT.or xD).imp fun x y H Q q=>?_;unfold zL at q;split at q
 ·exact .inl ⟨_,_,rfl,rfl,q⟩
 ·obtain ⟨xs,h1,h2,h3,h4⟩:=q;exact .inr ⟨_,xs,rfl,h1,h2,h3,h4⟩
 ·exact q.elim
def CB (x:D) (xs:List D):Option Bool:=match eY x,md xs with
 | some v,some vs=>some (FL v vs)
 | _,_=>none
def UG (x y:D):Option Bool:=match y with
 | .str j=>match x with
  | .str i=>some (HN j i)
  | _=>none
 | .lst xs=>CB x xs
 | .tup xs=>CB x xs
 | _=>none
def vo (x y:D):R D:=kg (UG x y) fun k=>if false=true then !k else k
def BL (x y:D):R D:=kg (UG x y) fun k=>if true=true then !k else k
def SV (K:PySem.W.Frag) (neg:Bool) (hW:W.K=K:=by rfl):rX W (zL K neg) (fun a b=>kg (UG a b) fun k=>if neg=true then !k else k):=by
 subst hW;intro as H x y a b Q hn da db h;have key:∀ (p:Addr) (ds:List D) (vs:List V),y=.ref p->(jl W.K H p vs\/mT W.K H p vs)->aX W.K (aS as H) ds vs->dJ W as H (kg (CB a ds) fun k=>if neg=true then !k else k) Q->zL W.K neg x y H Q:=by
  intro p ds vs hy hq hd h;subst hy;unfold CB at h;cases e1:eY a with
  | none=>rw [e1] at h;exact h.elim
  | some v =>
   rw [e1] at h;cases e2:md ds with
   | none=>rw [e2] at h;exact h.elim
   | some ws =>
    rw [e2] at h
    have:=g9 da e1
    subst this;obtain ⟨h3,h4⟩:=pd hd e2;subst h3;have fin:∃ xs,(jl W.K H p xs\/mT W.K H p xs)/\iO x=true/\xs.all iO=true/\Q (.bl (if neg=true then !FL x xs else FL x xs)) H:=⟨vs,hq,uO e1,h4,aP h rfl⟩;cases x <;> exact fin
 cases b with
 | str j =>
  cases a with
  | str i=>cases da;cases db;exact aP h rfl
  | _=>exact h.elim
 | lst ds=>obtain ⟨p,vs,rfl,q1,q2⟩:=db;exact key p ds vs rfl (.inl ((aQ _ _).seq q1)) q2 h
 | tup ds=>obtain ⟨p,vs,rfl,q1,q2⟩:=db;exact key p ds vs rfl (.inr ((aQ _ _).seqT q1)) q2 h
 | _=>exact h.elim
def J7 (K:PySem.W.Frag) (hW:W.K=K:=by rfl):rX W (zL K false) vo:=SV K false hW
def Nd (K:PySem.W.Frag) (hW:W.K=K:=by rfl):rX W (zL K true) BL:=SV K true hW
def aU (a b:D):R D:=match a,b with
 | .str z,.int i=>if z.length<=1000000 then (match atI z.cps.toList i with
  | some c=>.ok (.str ⟨#[c]⟩)
  | none=>.no) else .no
 | .lst xs,.int i=>match atI xs i with
  | some d=>.ok d
  | none=>.no
 | .tup xs,.int i=>match atI xs i with
  | some d=>.ok d
  | none=>.no
 | _,_=>.no
def aX.atI {K:PySem.W.Frag} {H:Hp} {ds:List D} {xs:List V} {i:Int} {d:D} (h:aX K H ds xs) (e:atI ds i=some d):∃ v,L2.atI xs i=some v/\gy K H d v:=by
 unfold L2.atI at e ⊢;rw [h.len] at e;cases q:Hh xs.length i with
 | none=>rw [q] at e;cases e
 | some j =>
  rw [q] at e;exact h.get e
def cP (K:PySem.W.Frag) (hW:W.K=K:=by rfl):rX W (Nx K) aU:=by
 subst hW;intro as H x y a b Q hn da db h;unfold aU at h;split at h
 ·cases da;cases db;split at h
  ·rename_i hl;split at h
   ·rename_i c e;exact ⟨c,Nat.le_trans hl fY,e,aP h rfl⟩
   ·exact h.elim
  ·exact h.elim
 ·obtain ⟨p,vs,rfl,q1,q2⟩:=da;cases db;split at h
  ·rename_i d e;obtain ⟨v,h1,h2⟩:=q2.atI e;exact ⟨vs,v,.inl ((aQ _ _).seq q1),h1,aP h h2⟩
  ·exact h.elim
 ·obtain ⟨p,vs,rfl,q1,q2⟩:=da;cases db;split at h
  ·rename_i d e;obtain ⟨v,h1,h2⟩:=q2.atI e;exact ⟨vs,v,.inr ((aQ _ _).seqT q1),h1,aP h h2⟩
  ·exact h.elim
 ·exact h.elim
def AZ (xs:List D) (lo hi:Option Int):List D:=(xs.drop (HT.sIx xs.length 0 lo)).take (HT.sIx xs.length xs.length hi - HT.sIx xs.length 0 lo)
def aX.cut {K:PySem.W.Frag} {H:Hp} {ds:List D} {xs:List V} (h:aX K H ds xs) (lo hi:Option Int):aX K H (AZ ds lo hi) (vX xs lo hi):=by
 unfold AZ vX;rw [h.len];exact (h.drop _).take _
def jP (a:D) (lo hi:Option Int):R D:=match a with
 | .str z=>if z.length<=1000000 then .ok (.str (bW z lo hi)) else .no
 | .lst xs=>.ok (.lst (AZ xs lo hi))
 | .tup xs=>if HT.sIx xs.length 0 lo=0/\HT.sIx xs.length xs.length hi=xs.length then .no else .ok (.tup (AZ xs lo hi))
 | _=>.no
def yH (K:PySem.W.Frag) (hW:W.K=K:=by rfl):WC W (UO K) jP:=by
 subst hW;intro as H x lo hi a Q hn da h;unfold jP at h;split at h
 ·cases da;split at h
  ·rename_i hl;exact ⟨Nat.le_trans hl fY,aP h rfl⟩
  ·exact h.elim
 ·obtain ⟨p,vs,rfl,q1,q2⟩:=da;refine .inl ⟨vs,(aQ _ _).seq q1,fun p hp=>h _ _ (bo hp _) ⟨p,_,rfl,.inl (.inl (by rw [bp (hn p hp)];exact br)),(q2.cut lo hi).mono (a8 (bo hp _))⟩⟩
 ·obtain ⟨p,vs,rfl,q1,q2⟩:=da;rename_i xs;split at h
  ·exact h.elim
  ·rename_i hc;rw [q2.len] at hc;exact .inr ⟨vs,(aQ _ _).seqT q1,hc,fun p hp=>h _ _ (bo hp _) ⟨p,_,rfl,.inl (.inl (by rw [bp (hn p hp)];exact br)),(q2.cut lo hi).mono (a8 (bo hp _))⟩⟩
 ·exact h.elim
def bO (ds:List D):R D:=match ds with
 | [.str z]=>if z.length<=1000000 then .ok (.int z.length) else .no
 | [.lst xs]=>.ok (.int xs.length)
 | [.tup xs]=>.ok (.int xs.length)
 | _=>.no
def fF {K:PySem.W.Frag} {H:Hp} {d:D} {xs:List V} (h:aX K H [d] xs):∃ v,xs=[v]/\gy K H d v:=by
 obtain ⟨v,vs,rfl,h1,h2⟩:=h;cases h2;exact ⟨v,rfl,h1⟩
def zD {K:PySem.W.Frag} {H:Hp} {d e:D} {xs:List V} (h:aX K H [d,e] xs):∃ v u,xs=[v,u]/\gy K H d v/\gy K H e u:=by
 obtain ⟨v,vs,rfl,h1,h2⟩:=h;obtain ⟨u,rfl,h3⟩:=fF h2;exact ⟨v,u,rfl,h1,h3⟩
def kh (K:PySem.W.Frag) (hW:W.K=K:=by rfl):lH W (JD K) bO:=by
 subst hW;intro as H xs ds Q hn dv h;unfold bO at h;split at h
 ·obtain ⟨v,rfl,d1⟩:=fF dv;cases d1;split at h
  ·rename_i hl;exact ⟨Nat.le_trans hl fY,aP h rfl⟩
  ·exact h.elim
 ·obtain ⟨v,rfl,d1⟩:=fF dv;obtain ⟨p,vs,rfl,q1,q2⟩:=d1;refine ⟨vs,.inl ((aQ _ _).seq q1),?_⟩;rw [<- q2.len];exact aP h rfl
 ·obtain ⟨v,rfl,d1⟩:=fF dv;obtain ⟨p,vs,rfl,q1,q2⟩:=d1;refine ⟨vs,.inr ((aQ _ _).seqT q1),?_⟩;rw [<- q2.len];exact aP h rfl
 ·exact h.elim
def Jp (ds:List D):R D:=match ds with
 | [.int i]=>.ok (.int (if i < 0 then -i else i))
 | _=>.no
def VB:lH W Lp Jp:=by
 intro as H xs ds Q hn dv h;unfold Jp at h;split at h
 ·obtain ⟨v,rfl,d1⟩:=fF dv;cases d1;exact aP h rfl
 ·exact h.elim
def ze (ds:List D):R D:=match ds with
 | [.int i]=>.ok (.int i)
 | [.bl k]=>.ok (.int (if k=true then 1 else 0))
 | _=>.no
def U2:lH W MV ze:=by
 intro as H xs ds Q hn dv h;unfold ze at h;split at h
 ·obtain ⟨v,rfl,d1⟩:=fF dv;cases d1;exact aP h rfl
 ·obtain ⟨v,rfl,d1⟩:=fF dv;cases d1;exact aP h rfl
 ·exact h.elim
def V0 (ds:List D):R D:=match ds with
 | [.int i,.int j]=>.ok (.int (if j > i then j else i))
 | _=>.no
def BI (ds:List D):R D:=match ds with
 | [.int i,.int j]=>.ok (.int (if j < i then j else i))
 | _=>.no
def QJ:lH W KY BI:=by
 intro as H xs ds Q hn dv h;unfold BI at h;split at h
 ·obtain ⟨v,u,rfl,d1,d2⟩:=zD dv;cases d1;cases d2;exact aP h rfl
 ·exact h.elim
def Aj:List D->Option (List Bool)
 | []=>some []
 | .bl b::ds=>(Aj ds).map (b::·)
 | _=>none
def yS {K:PySem.W.Frag} {H:Hp}:∀ {ds:List D} {vs:List V} {bs:List Bool},aX K H ds vs->Aj ds=some bs->vs=bs.map V.bl
 | [],_,_,h,e=>by cases h;cases e;rfl
 | d::ds,_,_,⟨v,vs,h0,h1,h2⟩,e=>by
  subst h0;cases d with
  | bl b =>
   have e:(Aj ds).map (b::·)=some _:=e;cases q2:Aj ds with
   | none=>rw [q2] at e;cases e
   | some xs =>
    rw [q2] at e;cases e;cases h1;rw [yS h2 q2];rfl
  | _=>cases e
def qj (ds:List D):R D:=match ds with
 | [.lst xs]=>match Aj xs with
  | some bs=>.ok (.bl (bs.all id))
  | none=>.no
 | _=>.no
def Gj (K:PySem.W.Frag) (hW:W.K=K:=by rfl):lH W (Mn K) qj:=by
 subst hW;intro as H xs ds Q hn dv h;unfold qj at h;split at h
 ·obtain ⟨v,rfl,d1⟩:=fF dv;obtain ⟨p,vs,rfl,q1,q2⟩:=d1;split at h
  ·rename_i bs e;refine ⟨bs,?_,aP h rfl⟩;rw [<- yS q2 e];exact (aQ _ _).seq q1
  ·exact h.elim
 ·exact h.elim
def ET (K:PySem.W.Frag) (xs:List V) (H:Hp) (Q:VK):Prop:=match xs with
 | [x,.ty C]=>gw C=true/\(match x with
  | .non=>Q (.bl (bA "NoneType" C)) H
  | .bl _=>Q (.bl (bA "bool" C)) H
  | .int _=>Q (.bl (bA "int" C)) H
  | .str _=>Q (.bl (bA "str" C)) H
  | .ref a=>(∃ xs,jl K H a xs/\Q (.bl (bA "list" C)) H)\/(∃ xs,mT K H a xs/\Q (.bl (bA "tuple" C)) H)\/∃ kvs,H a=some (.dK kvs)/\Q (.bl (bA "dict" C)) H
  | _=>False)
 | _=>False
def kr (K:PySem.W.Frag) (hK:X.K=K:=by rfl):bX X (.builtin "isinstance") (ET K):=by
 subst hK;intro af s σ H xs us Q I r h;unfold ET at h;split at h
 ·rename_i x C;obtain ⟨hC,h⟩:=h;obtain ⟨u,c,rfl,rx,rc⟩:=FO r;cases rc;have fin:∀ (b:Bool),Q (.bl b) H->∀ tk,X.tn<=tk->EP X af σ Q (.bool b) { s with toks:=tk }:=fun b q tk htk=>⟨.bl b,H,I.tok tk,rfl,q⟩;refine bf I.tk ?_;cases x with
  | non=>exact lq I rx .non (lU (.inl rfl) hC) (fin _ h)
  | bl b=>exact lq I rx (.bl b) (lU (.inr (.inl rfl)) hC) (fin _ h)
  | int b=>exact lq I rx (.int b) (lU (.inr (.inr (.inl rfl))) hC) (fin _ h)
  | str b=>exact lq I rx (.str b) (lU (.inr (.inr (.inr (.inl rfl)))) hC) (fin _ h)
  | ref a =>
   cases rx;rcases h with ⟨xs,hq,q⟩|⟨xs,hq,q⟩|⟨kvs,hq,q⟩
   ·obtain ⟨its,rv,pl,hz⟩:=I.list hq;obtain ⟨o,ho,hc,n,hd⟩:=pl.isList;exact PySem.W.kia_one PySem.W.kitx_list I.kIn ⟨o,ho,hc⟩ (lU (.inr (.inr (.inr (.inr (.inl rfl))))) hC) (fun z=>nomatch z) (fin _ q)
   ·obtain ⟨its,rv,pl,hz⟩:=I.tuple hq;obtain ⟨o,ho,hc,n,hd⟩:=pl;exact PySem.W.kia_one PySem.W.kitx_tuple I.kIn ⟨o,ho,hc⟩ (lU (.inr (.inr (.inr (.inr (.inr (.inl rfl)))))) hC) (fun z=>nomatch z) (fin _ q)
   ·exact lq (x:=.ref a) I rfl (.dK hq) (lU (.inr (.inr (.inr (.inr (.inr (.inr rfl)))))) hC) (fin _ q)
  | _=>exact h.elim
 ·exact h.elim
def jr (ds:List D):R D:=match ds with
 | [x,.ty C]=>if gw C=true then (match x with
  | .non=>.ok (.bl (bA "NoneType" C))
  | .bl _=>.ok (.bl (bA "bool" C))
  | .int _=>.ok (.bl (bA "int" C))
  | .str _=>.ok (.bl (bA "str" C))
  | .lst _=>.ok (.bl (bA "list" C))
  | .tup _=>.ok (.bl (bA "tuple" C))
  | .dct _=>.ok (.bl (bA "dict" C))
  | _=>.no) else .no
 | _=>.no
def pG (K:PySem.W.Frag) (hW:W.K=K:=by rfl):lH W (ET K) jr:=by
 subst hW;intro as H xs ds Q hn dv h;unfold jr at h;split at h
 ·obtain ⟨v,u,rfl,d1,d2⟩:=zD dv;cases d2;split at h
  ·rename_i hC;split at h
   ·cases d1;exact ⟨hC,aP h rfl⟩
   ·cases d1;exact ⟨hC,aP h rfl⟩
   ·cases d1;exact ⟨hC,aP h rfl⟩
   ·cases d1;exact ⟨hC,aP h rfl⟩
   ·obtain ⟨p,vs,rfl,q1,q2⟩:=d1;exact ⟨hC,.inl ⟨vs,(aQ _ _).seq q1,aP h rfl⟩⟩
   ·obtain ⟨p,vs,rfl,q1,q2⟩:=d1;exact ⟨hC,.inr (.inl ⟨vs,(aQ _ _).seqT q1,aP h rfl⟩)⟩
   ·obtain ⟨p,vs,rfl,q1,q2⟩:=d1;exact ⟨hC,.inr (.inr ⟨vs,aQ _ _ _ _ q1,aP h rfl⟩)⟩
   ·exact h.elim
  ·exact h.elim
 ·exact h.elim
def yi (K:PySem.W.Frag) (xs:List V) (H:Hp) (Q:VK):Prop:=match xs with
 | [.ref p]=>(∃ ys,jl K H p ys/\∀ l,H l=none->Q (.ref l) (dE H l (.tup ys)))\/∃ ys,mT K H p ys/\Q (.ref p) H
 | _=>False
def AR (K:PySem.W.Frag) (hK:X.K=K:=by rfl):bX X (.type "tuple") (yi K):=by
 subst hK;refine vI.imp fun xs H Q q=>?_;unfold yi at q;split at q
 ·rcases q with ⟨ys,h1,h2⟩|⟨ys,h1,h2⟩
  ·exact ⟨_,ys,rfl,.inl ⟨h1,h2⟩⟩
  ·exact ⟨_,ys,rfl,.inr ⟨h1,h2⟩⟩
 ·exact q.elim
def rM (ds:List D):R D:=match ds with
 | [.lst xs]=>.ok (.tup xs)
 | [.tup xs]=>.ok (.tup xs)
 | _=>.no
def LM {as:List Addr} {H:Hp} (hn:∀ a∈as,H a≠none):∀ p,H p=none->p∉as:=fun p hp z=>hn p z hp
def QU (K:PySem.W.Frag) (hW:W.K=K:=by rfl):lH W (yi K) rM:=by
 subst hW;intro as H xs ds Q hn dv h;unfold rM at h;split at h
 ·obtain ⟨v,rfl,d1⟩:=fF dv;obtain ⟨p,vs,rfl,q1,q2⟩:=d1;exact .inl ⟨vs,(aQ _ _).seq q1,fun l hl=>h _ _ (bo hl _) ⟨l,vs,rfl,.inl (.inl (by rw [bp (LM hn l hl)];exact br)),q2.mono (a8 (bo hl _))⟩⟩
 ·obtain ⟨v,rfl,d1⟩:=fF dv;obtain ⟨p,vs,rfl,q1,q2⟩:=d1;exact .inr ⟨vs,(aQ _ _).seqT q1,aP h ⟨p,vs,rfl,q1,q2⟩⟩
 ·exact h.elim
def mH:List D->Option (List Str)
 | []=>some []
 | .str b::ds=>(mH ds).map (b::·)
 | _=>none
def qK {K:PySem.W.Frag} {H:Hp}:∀ {ds:List D} {vs:List V} {bs:List Str},aX K H ds vs->mH ds=some bs->vs=bs.map V.str
 | [],_,_,h,e=>by cases h;cases e;rfl
 | d::ds,_,_,⟨v,vs,h0,h1,h2⟩,e=>by
  subst h0;cases d with
  | str b =>
   have e:(mH ds).map (b::·)=some _:=e;cases q2:mH ds with
   | none=>rw [q2] at e;cases e
   | some xs =>
    rw [q2] at e;cases e;cases h1;rw [qK h2 q2];rfl
  | _=>cases e
def fG (z:Str) (ds:List D):R D:=match ds with
 | [.lst xs]=>match mH xs with
  | some ys=>if (ys.map (·.length)).sum+ys.length*z.length<=1000000 then .ok (.str (Txt.join z ys)) else .no
  | none=>.no
 | _=>.no
def nU (K:PySem.W.Frag) (hW:W.K=K:=by rfl):KT W (Go K) fG:=by
 subst hW;intro as H z xs ds Q hn dv h;unfold fG at h;split at h
 ·obtain ⟨v,rfl,d1⟩:=fF dv;obtain ⟨p,vs,rfl,q1,q2⟩:=d1;split at h
  ·rename_i ys e;split at h
   ·rename_i hl;refine ⟨ys,?_,Nat.le_trans hl (by decide),aP h rfl⟩;rw [<- qK q2 e];exact (aQ _ _).seq q1
   ·exact h.elim
  ·exact h.elim
 ·exact h.elim
def uf (f:Str->Str->D) (z:Str) (ds:List D):R D:=match ds with
 | [.str y]=>.ok (f z y)
 | _=>.no
def tq:KT W (Hr fun x y=>.bl (Txt.startswith x y)) (uf fun x y=>.bl (Txt.startswith x y)):=by
 intro as H z xs ds Q hn dv h;unfold uf at h;split at h
 ·obtain ⟨v,rfl,d1⟩:=fF dv;cases d1;exact aP h rfl
 ·exact h.elim
def Ud:KT W (Hr fun x y=>.bl (Txt.endswith x y)) (uf fun x y=>.bl (Txt.endswith x y)):=by
 intro as H z xs ds Q hn dv h;unfold uf at h;split at h
 ·obtain ⟨v,rfl,d1⟩:=fF dv;cases d1;exact aP h rfl
 ·exact h.elim
end
section
variable {X:Cx} {o e:Expr} {es:List Expr} {to:TE} {t:TA} {name:Str} {apos cpos:Pos} {T id:String} {r:V->List V->Hp->VK->Prop}
def RI (pa:PlainAttrs T) (slot:Slot T name id) (hty:typeOf (.builtin id)=pure (.type "method_descriptor")) (hm:U5 X id r) (ho:JE X o to) (ha:JA X (e::es) t)
  (hbase:attributeBase o name X.env (eval o X.env)=eval o X.env:=by rfl) (hline:(apos.endLine==cpos.line)=true:=by rfl) (h1:(e::es).all aR=true:=by rfl) (hl:(e::es).length < 29:=by decide) :
  JE X (.Call (.Attribute o name apos) (e::es) [] cpos) (V2 X.K T r to t):=by
 have h1':=h1;rw [List.all_cons,Bool.and_eq_true] at h1';exact ⟨Rv pa slot hty hm ho.out ha.out hbase (y9 h1 hl) hline (b7 h1'.1) (cY h1'.2)⟩
end
def CP:∀ {O:List Nat} {own:List Addr} {i:Nat} {a b:Addr},O.Nodup->(i,a)∈O.zip own->(i,b)∈O.zip own->a=b
 | [],_,_,_,_,_,h,_=>by simp at h
 | _::_,[],_,_,_,_,h,_=>by simp at h
 | k::O,c::own,i,a,b,nd,h1,h2=>by
  rw [List.zip_cons_cons] at h1 h2;rw [List.nodup_cons] at nd;rcases List.mem_cons.mp h1 with e1|h1 <;> rcases List.mem_cons.mp h2 with e2|h2
  ·cases e1;cases e2;rfl
  ·cases e1;exact absurd (List.of_mem_zip h2).1 nd.1
  ·cases e2;exact absurd (List.of_mem_zip h1).1 nd.1
  ·exact CP nd.2 h1 h2
def zj {as:List Addr} {H:Hp} {a:Addr} {o:HO} (h:a∈as):aS as (dE H a o)=aS as H:=by
 funext b
 unfold aS;split
 ·rfl
 ·rename_i hb;exact bn fun z=>hb (by rw [z];exact h)
def DI.mutate {K:PySem.W.Frag} {as0 own:List Addr} {B H:Hp} {O:List Nat} {σ:St} {δ:Sd} {i:Nat} {a:Addr} {o':HO} {d':D} (I:DI K as0 B O own σ δ H) (hi:(i,a)∈O.zip own) (h:l9 K (aS (own++as0) H) o' d') :
  DI K as0 B O own σ (δ.set i (some d')) (dE H a o'):=by
 have hm:a∈own++as0:=List.mem_append_left _ (List.of_mem_zip hi).2;obtain ⟨d0,o0,h1,h2,h3,h4⟩:=I.owns i a hi;have hil:i < δ.length:=(List.getElem?_eq_some_iff.mp h1).1;refine ⟨by simp [I.len],I.olen,I.nd,I.ond,I.fresh,I.ex0,fun b u e=>?_,fun j e hj q=>?_,fun j b hj=>?_⟩
 ·have hb:b≠a:=fun z=>by
   have:=I.fresh a (List.of_mem_zip hi).2
   rw [z,this] at e;cases e
  rw [bn hb];exact I.same b u e
 ·have hji:i≠j:=fun z=>hj (by rw [<- z];exact (List.of_mem_zip hi).1);rw [getElem?_set',if_neg hji] at q;rw [zj hm];exact I.var j e hj q
 ·rw [zj hm];by_cases hji:i=j
  ·subst hji
   have:=CP I.ond hi hj
   subst this;exact ⟨d',o',by rw [getElem?_set',if_pos rfl,if_pos hil],h2,br,h⟩
  ·obtain ⟨d,u,q1,q2,q3,q4⟩:=I.owns j b hj;have hba:b≠a:=fun z=>hji (by rw [z] at hj;exact zip_inj I.nd hi hj);exact ⟨d,u,by rw [getElem?_set',if_neg hji];exact q1,q2,by rw [bn hba];exact q3,q4⟩
section
variable {X:Cx} {W:Wd} {Ob O O':List Nat} {e:Expr} {ε ψ:FE} {pos p1 p2 apos cpos:Pos} {x:Str}
def N8 (K:PySem.W.Frag) {i:Nat} (hi:i∈O) (hb:JE X e (tD W O ψ)) (hN:X.N[i]?=some x:=by rfl) (hs:tH e:=by exact fun _ _=>rfl) (hv:Em X.env.scope x:=by first|exact Or.inl rfl|exact Or.inr (Or.inl rfl)|exact Or.inr (Or.inr rfl)) (hd:(x==("__debug__":Str))=false:=by decide)
  (hcd:(x==("__classdict__":Str))=false:=by decide) (hK:X.K=K:=by rfl) (hW:W.K=K:=by rfl):JE X (.Subscript (.Name x p1) e pos) (tD W O (ao aU (ae i) ψ)) :=
 (PC (cM K hK) (jv i hN hv hd hcd) hb hs).imp fun σ H Q hh=>g4 hh fun as0 B own δ I h=>by
  obtain ⟨a,ha⟩:=nh I.olen hi;obtain ⟨d,o,h1,h2,h3,h4⟩:=I.owns i a ha;have e0:DX (Nx K) (ER i) (tD W O ψ) σ H Q=El σ[i]? H (Vn (Nx K) (tD W O ψ) σ Q):=rfl;rw [e0,h2];have hv:ae i δ=.ok d:=by unfold ae;rw [h1]
  have h':dJ W (own++as0) H ((ψ δ).bind fun y=>aU d y) Q:=by
   have e:ao aU (ae i) ψ δ=(ψ δ).bind fun y=>aU d y:=by unfold ao;rw [hv];rfl
   rw [<- e];exact h
  refine ⟨as0,B,own,δ,I,bG h' fun y u H2 s2 d2 h2'=>?_⟩;subst hW;cases d with
  | lst ds =>
   obtain ⟨xs,rfl,q⟩:=h4;cases y with
   | int k =>
    cases d2;have h2'':dJ W (own++as0) H2 (match atI ds k with|some d=>.ok d|none=>.no) Q:=h2'
    cases q3:atI ds k with
    | none=>rw [q3] at h2'';exact h2''.elim
    | some d' =>
     rw [q3] at h2'';obtain ⟨v,e1,e2⟩:=q.atI q3;exact ⟨xs,v,.inl (jl.of (s2 _ _ h3)),e1,aP h2'' (e2.mono (a8 s2))⟩
   | _=>exact h2'.elim
  | _=>first|exact h4.elim|(cases y <;> exact h2'.elim)
def cT (i:Nat) (ε:FE):FS:=fun δ=>match δ[i]? with
 | some (some (.lst xs))=>(ε δ).bind fun d=>if xs.length < 1000000 then .ok (.nx (δ.set i (some (.lst (xs++[d]))))) else .no
 | _=>.no
def lm {i:Nat} (hi:i∈O) (he:JE X e (tD W O ε)) (hN:X.N[i]?=some x:=by rfl) (hn:aR e=true:=by rfl) (hline:(apos.endLine==cpos.line)=true:=by rfl) (hv:Em X.env.scope x:=by first|exact Or.inl rfl|exact Or.inr (Or.inl rfl)|exact Or.inr (Or.inr rfl)) (hd:(x==("__debug__":Str))=false:=by decide)
  (hcd:(x==("__classdict__":Str))=false:=by decide) (hbase:attributeBase (.Name x p1) "append" X.env (eval (.Name x p1) X.env)=eval (.Name x p1) X.env:=by rfl)
  (hs:swapsWith (.Call (.Attribute (.Name x p1) "append" apos) [e] [] cpos) none pos.line X.env=pure false:=by rfl) (hW:W.K=X.K:=by rfl) :
  JS X (.Expr (.Call (.Attribute (.Name x p1) "append" apos) [e] [] cpos) pos) (sD W Ob O O (cT i ε)) :=
 (HV (RI PySem.F.plainAttrs_list PySem.F.slot_list_append PySem.F.type_list_append qO (jv i hN hv hd hcd) (tz he yC hn) hbase hline (by rw [List.all_cons,hn];rfl) (by show 1 < 29;decide)) hs).imp fun D σ H hh=>g4 hh fun as0 B own δ I h=>by
  obtain ⟨a,ha⟩:=nh I.olen hi;obtain ⟨d,o,h1,h2,h3,h4⟩:=I.owns i a ha;have e0:Gp (V2 X.K "list" yb (ER i) (zH (tD W O ε) JK)) D σ H=El σ[i]? H (fun x H1=>UY X.K "list" x H1/\zH (tD W O ε) JK σ H1 fun vs H2=>yb x vs H2 (fun _ H3=>D.nx σ H3)):=rfl;rw [e0,h2];unfold cT at h;rw [h1] at h;cases d with
  | lst ds =>
   obtain ⟨xs,rfl,q⟩:=h4;refine ⟨.inl ⟨rfl,xs,jl.of h3⟩,as0,B,own,δ,I,oY I h fun y v H2 s2 d2 hq=>?_⟩;split at hq
   ·rename_i hl;refine ⟨a,xs,v,rfl,rfl,s2 _ _ h3,?_,?_⟩
    ·have:=fY;rw [<- q.len];omega
    ·exact hq own σ _ ((I.mono s2).mutate ha ⟨xs++[v],rfl,(q.mono (a8 s2)).append (aX.cons d2 aX.nil)⟩)
   ·exact hq.elim
  | _=>exact h.elim
end
def fb {ix:List (Option Nat)} {O:List Nat} (h:(ix.all fun o=>match o with|some k=>decide (k∉O)|none=>true)=true):∀ j∈ix,∀ k,j=some k->k∉O:=fun j hj k e=>by
 have:=List.all_eq_true.mp h j hj
 subst e;exact of_decide_eq_true this
def Cn {X:Cx} {af:List (Addr×Obj)} {σ:St} {H:Hp} {s:Shared} {a:Addr} (I:Inv X af σ H s) (h:H a≠none\/∃ o,X.K.lookup a=some o):¬ iV X af H a:=fun f=>by
 rcases h with h|⟨o,h⟩
 ·exact h f.1
 ·have e:=I.ok.mod.kin a o h;rcases f.2.2.2.1 with z|z
  ·exact I.ok.noex a o e z
  ·exact absurd (Nat.lt_of_lt_of_le (Heap.lt_size e) (Nat.le_trans I.ok.bsz z)) (Nat.lt_irrefl _)
def Cq {H:Hp} {a:Addr} {u:HO} (h:Rd H a u):H a≠none:=by
 rcases h with h|⟨o,h⟩ <;> rw [h] <;> simp
def Cm {K:PySem.W.Frag} {H:Hp} {a:Addr} {xs:List V} (h:jl K H a xs):H a≠none\/∃ o,K.lookup a=some o:=by
 rcases h with h|⟨o,_,_,h,_⟩
 ·exact .inl (Cq h)
 ·exact .inr ⟨o,h⟩
def CA {K:PySem.W.Frag} {H:Hp} {a:Addr} {xs:List V} (h:mT K H a xs):H a≠none\/∃ o,K.lookup a=some o:=by
 rcases h with h|⟨o,_,_,h,_⟩
 ·exact .inl (Cq h)
 ·exact .inr ⟨o,h⟩
structure Src (K:PySem.W.Frag) (B:Hp) (xs:List V) (it:Addr) (S:Nat->Heap->Prop):Prop where
 obj:∀ i h,S i h->∃ o,h.get? it=some o/\∀ v,o.data≠.cell v
 keep:∀ i h h',S i h->(∀ o,h.get? it=some o->h'.get? it=some o)->S i h'
 draw:∀ (X:Cx) (af:List (Addr×Obj)) (s:Shared) (σ:St) (H:Hp),Inv X af σ H s->X.K=K->aD B H->iV X af H it->∀ A:Around,A.handled=none->∀ i,S i s.heap ->
  ∃ fp Pv St,Draws X.prog X.w A it fp xs.length Pv St/\St i s.heap/\it∈fp/\(∀ b∈fp,b=it\/¬ iV X af H b)/\(∀ j u,Pv j u->∃ x,xs[j]?=some x/\bw x u)/\∀ j h,St j h->S j h
def src_list {K:PySem.W.Frag} {B:Hp} {xs:List V} {a it:Addr} (hq:jl K B a xs):Src K B xs it (fun i h=>h.IsListIter it a i) where
 obj:=fun i h ⟨o,e,c,d⟩=>⟨o,e,fun v z=>by rw [d] at z;cases z⟩
 keep:=fun i h h' ⟨o,e,r⟩ k=>⟨o,k o e,r⟩
 draw:=fun X af s σ H I hK sB f A hA i st=>by
  subst hK;obtain ⟨its,rv,pl,hz⟩:=I.list (sB.seq hq);have hne:a≠it:=fun z=>Cn I (Cm (sB.seq hq)) (z ▸ f);have el:xs.length=its.toArray.size:=by rw [List.size_toArray];exact rv.length
  refine ⟨_,_,_,el ▸ Draws.list hA it a hne its.toArray,⟨st,pl.isList⟩,by simp,fun b hb=>?_,fun j u hu=>?_,fun j h st=>st.1⟩
  ·rcases List.mem_cons.mp hb with e|hb
   ·exact .inl e
   ·rw [List.mem_singleton.mp hb];exact .inr (Cn I (Cm (sB.seq hq)))
  ·have hu':its[j]?=some u:=by simpa using hu
   have hj:j < its.length:=(List.getElem?_eq_some_iff.mp hu').1;have hx:xs[j]?=some (xs[j]'(by rw [rv.length];exact hj)):=by rw [List.getElem?_eq_getElem]
   obtain ⟨u',h1,h2⟩:=rv.get hx;rw [hu'] at h1;cases h1;exact ⟨_,hx,h2⟩
def src_tuple {K:PySem.W.Frag} {B:Hp} {xs:List V} {a it:Addr} (hq:mT K B a xs):Src K B xs it (fun i h=>h.IsTupleIter it a i) where
 obj:=fun i h ⟨o,e,c,d⟩=>⟨o,e,fun v z=>by rw [d] at z;cases z⟩
 keep:=fun i h h' ⟨o,e,r⟩ k=>⟨o,k o e,r⟩
 draw:=fun X af s σ H I hK sB f A hA i st=>by
  subst hK;obtain ⟨its,rv,pl,hz⟩:=I.tuple (sB.seqT hq);have hne:a≠it:=fun z=>Cn I (CA (sB.seqT hq)) (z ▸ f);have el:xs.length=its.toArray.size:=by rw [List.size_toArray];exact rv.length
  refine ⟨_,_,_,el ▸ zE hA it a hne its.toArray,⟨st,pl⟩,by simp,fun b hb=>?_,fun j u hu=>?_,fun j h st=>st.1⟩
  ·rcases List.mem_cons.mp hb with e|hb
   ·exact .inl e
   ·rw [List.mem_singleton.mp hb];exact .inr (Cn I (CA (sB.seqT hq)))
  ·have hu':its[j]?=some u:=by simpa using hu
   have hj:j < its.length:=(List.getElem?_eq_some_iff.mp hu').1;have hx:xs[j]?=some (xs[j]'(by rw [rv.length];exact hj)):=by rw [List.getElem?_eq_getElem]
   obtain ⟨u',h1,h2⟩:=rv.get hx;rw [hu'] at h1;cases h1;exact ⟨_,hx,h2⟩
def signs_get {z:Str} {j:Nat} {u:Value} (h:∃ c t,z.cps[j]?=some c/\u=.str ⟨#[c]⟩ t):∃ x,(pf z)[j]?=some x/\bw x u:=by
 obtain ⟨c,t,h1,rfl⟩:=h;refine ⟨.str ⟨#[c]⟩,?_,⟨t,rfl⟩⟩;rw [List.getElem?_map,Array.getElem?_toList,h1];rfl
def D3 {K:PySem.W.Frag} {B:Hp} {z:Str} {t:Tok} {it:Addr}:Src K B (pf z) it (fun i h=>h.IsStrIter it "str_ascii_iterator" z t i) where
 obj:=fun i h ⟨o,e,c,d⟩=>⟨o,e,fun v z=>by rw [d] at z;cases z⟩
 keep:=fun i h h' ⟨o,e,r⟩ k=>⟨o,k o e,r⟩
 draw:=fun X af s σ H I hK sB f A hA i st=>by
  have el:(pf z).length=z.cps.size:=by simp
  exact ⟨_,_,_,el ▸ Draws.strAscii hA it z t,st,by simp,fun b hb=>.inl (by simpa using hb),fun j u hu=>signs_get hu,fun j h st=>st⟩
def Fe {K:PySem.W.Frag} {B:Hp} {z:Str} {t:Tok} {it:Addr}:Src K B (pf z) it (fun i h=>h.IsStrIter it "str_iterator" z t i) where
 obj:=fun i h ⟨o,e,c,d⟩=>⟨o,e,fun v z=>by rw [d] at z;cases z⟩
 keep:=fun i h h' ⟨o,e,r⟩ k=>⟨o,k o e,r⟩
 draw:=fun X af s σ H I hK sB f A hA i st=>by
  have el:(pf z).length=z.cps.size:=by simp
  exact ⟨_,_,_,el ▸ Draws.strWide hA it z t,st,by simp,fun b hb=>.inl (by simpa using hb),fun j u hu=>signs_get hu,fun j h st=>st⟩
def Gs (K:PySem.W.Frag) (H:Hp) (x:V) (xs:List V):Prop:=(∃ z,x=.str z/\xs=pf z)\/(∃ a,x=.ref a/\jl K H a xs)\/∃ a,x=.ref a/\mT K H a xs
def M9 {X:Cx} {af:List (Addr×Obj)} {σ:St} {H B:Hp} {s:Shared} {x:V} {u:Value} {xs:List V} (I:Inv X af σ H s) (r:bw x u) (sB:aD B H) (h:Gs X.K B x xs) :
  ∃ (o:Obj) (S:Addr->Nat->Heap->Prop),Fp u o s.heap/\o.isFreed=false/\(∀ it h,h.get? it=some o->S it 0 h)/\∀ it,Src X.K B xs it (S it):=by
 rcases h with ⟨z,rfl,rfl⟩|⟨a,rfl,hq⟩|⟨a,rfl,hq⟩
 ·obtain ⟨t,rfl⟩:=r;cases ha:z.cps.all (· < 128)
  ·exact ⟨{ cls:=.type "str_iterator",data:=.fields #[.str z t,.int 0 0] },fun it i h=>h.IsStrIter it "str_iterator" z t i,fun prog w A s Q E _ q=>wpAny_pyIter_wide ha q,rfl,fun it h e=>⟨_,e,rfl,rfl⟩,fun it=>Fe⟩
  ·exact ⟨{ cls:=.type "str_ascii_iterator",data:=.fields #[.str z t,.int 0 0] },fun it i h=>h.IsStrIter it "str_ascii_iterator" z t i,fun prog w A s Q E _ q=>wpAny_pyIter_ascii ha q,rfl,fun it h e=>⟨_,e,rfl,rfl⟩,fun it=>D3⟩
 ·cases r;obtain ⟨its,rv,pl,hz⟩:=I.list (sB.seq hq);exact ⟨{ cls:=.type "list_iterator",data:=.fields #[.ref a,.int 0 0] },fun it i h=>h.IsListIter it a i,fun prog w A s Q E k q=>wpAny_pyIter_list (pl.keeps k).isList q,rfl,fun it h e=>⟨_,e,rfl,rfl⟩,fun it=>src_list hq⟩
 ·cases r;obtain ⟨its,rv,pl,hz⟩:=I.tuple (sB.seqT hq);refine ⟨{ cls:=.type "tuple_iterator",data:=.fields #[.ref a,.int 0 0] },fun it i h=>h.IsTupleIter it a i,fun prog w A s Q E k q=>?_,rfl,fun it h e=>⟨_,e,rfl,rfl⟩,fun it=>src_tuple hq⟩;obtain ⟨o,e,r⟩:=pl;exact wpAny_pyIter_tuple (items:=its.toArray) ⟨o,k _ _ e,r⟩ q
def Inv.turnedT {X:Cx} {af:List (Addr×Obj)} {σ:St} {H:Hp} {s:Shared} {h':Heap} {t':Nat} {ch:List Addr} {T:Addr} {ys:List V} {us:List Value} (I:Inv X af σ H s) (hf:∀ b∈ch,iV X af H b) (k:∀ b o,b∉ch->s.heap.get? b=some o->h'.get? b=some o) (hT:s.heap.objs.size<=T)
  (hl:ys.length<=sizeLine) (rv:bC ys us) (isT:IsTup h' T us.toArray) (ht:X.tn<=t':=by walk_at "tok"):Inv X af σ (dE H T (.tup ys)) { s with heap:=h',toks:=t' }:=by
 have hn:H T=none:=I.hok.fresh hT;have nch:∀ b u,H b=some u->b∉ch:=fun b u e z=>by rw [(hf b z).1] at e;cases e
 refine I.step (g':=s.gens) (d':=s.drawn) (ch:=ch) (fun b hb=>⟨(hf b hb).2.2.2.1,(hf b hb).2.1,(hf b hb).2.2.2.2.1,(hf b hb).2.2.2.2.2⟩) (fun b o _ _ hc e _=>k b o hc e) (fun b o _ _ hc e _=>⟨o.slots,k b o hc e⟩) (fun b o _ e n=>?_)
  (fun b o hc e=>⟨o,k b o hc e⟩) (fun b xs e=>?_) (fun b o u e=>?_) (fun b ps e=>⟨#[],?_⟩) (fun m hm=>?_) (fun b u e=>?_) I.bare
 ·rw [bn (Nat.ne_of_lt (Nat.lt_of_lt_of_le (Heap.lt_size e) hT))];exact n
 ·rw [bn (bK e hn)];exact e
 ·rw [bn (bK e hn)];exact e
 ·rw [bn (bK e hn),e];simp
 ·obtain ⟨o,es,ep,ho,r⟩:=hm;exact ⟨o,es,ep,k _ o (fun z=>(hf _ z).2.1 rfl) ho,r⟩
 ·by_cases hb:b=T
  ·subst hb;rw [br] at e;cases e;exact ⟨hl,us,rv,isT⟩
  ·rw [bn hb] at e;refine (I.hok b u e).stay (fun c v hc q=>k c v ?_ q) (fun c q=>by rw [bn (bK q hn)];exact q) fun c xs q=>by rw [bn (bK q hn)];exact q
   rcases hc with z|z
   ·rw [z];exact nch b u e
   ·exact nch c _ z
def Kg (B:Hp) (n:Nat) (Pv:Nat->V->V->Prop):It :=
 ⟨fun i H=>aD B H/\i < n,fun i H v H'=>∃ p x y,H p=none/\H'=dE H p (.tup [x,y])/\v=.ref p/\Pv i x y,fun i H=>aD B H/\i=n⟩
def Dl {P:Program} {w:World} {K:PySem.W.Frag} {B:Hp} {xs:List V} {e it:Addr} {S:Nat->Heap->Prop} {elts:List Expr} {k:Nat} {pos:Pos} (s1:Src K B xs it S) (ne:e≠it) :
  Turn P w K (.Tuple elts k pos) (Kg B xs.length fun i x y=>x=.int (i:Int)/\xs[i]?=some y) [e,it] e (fun i h=>(∃ old,IsEnum h e it (i:Int) old)/\S i h):=by
 have nof:∀ {X:Cx} {af:List (Addr×Obj)} {H:Hp} {fp:List Addr},(∀ b∈[e,it],iV X af H b)->(∀ b∈fp,b=it\/¬ iV X af H b)->e∉fp:=fun hf h1 m=>(h1 e m).elim ne fun q=>q (hf e (by simp));refine ⟨by simp,fun i h st b hb=>?_,fun i h h' st kk=>?_,?_,?_,fun A i s Q E st q=>let ⟨⟨old,he⟩,_⟩:=st;wpAny_pyIter_enum he q⟩
 ·obtain ⟨⟨old,he⟩,h1⟩:=st;simp only [List.mem_cons,List.not_mem_nil,or_false] at hb;rcases hb with rfl|rfl
  ·exact ⟨_,he,fun v q=>by cases q⟩
  ·exact s1.obj i h h1
 ·obtain ⟨⟨old,he⟩,h1⟩:=st;exact ⟨⟨old,kk e (by simp) _ he⟩,s1.keep i h h' h1 fun o q=>kk it (by simp) o q⟩
 ·intro X hP hw hK hc i af s σ H E I hf st hg;subst hP hw;obtain ⟨he,h1⟩:=st;obtain ⟨sB,hi⟩:=hg;have hh:X.A.in1.handled=none:=I.ok.hd hc;obtain ⟨fp1,P1,St1,D1,st1,m1,n1,p1,b1⟩:=s1.draw X af s σ H I hK sB (hf it (by simp)) X.A.in1 hh i h1;have W:=WalksT.enumerateD D1 e ne (nof hf n1) m1;refine bf I.tk (W.item i s _ _ hi ⟨he,st1⟩ fun T vals h' tk pt hT isT mid k1 htk=>⟨.ref T,rfl,W.go elts k pos i T { s with heap:=h',toks:=tk } _ _ mid fun h'' st'' k2=>?_⟩);obtain ⟨t,u2,q2,rfl⟩:=pt;obtain ⟨y,hy,ry⟩:=p1 i u2 q2;obtain ⟨he',st1'⟩:=st'';have kk:∀ b o,b∉[e,it]->s.heap.get? b=some o->h''.get? b=some o:=fun b o hb q=>k2 b o hb (k1 b o hb q);have hTn:H T=none:=I.hok.fresh hT;have lt:∀ {b o},s.heap.get? b=some o->b≠T:=fun q=>Nat.ne_of_lt (Nat.lt_of_lt_of_le (Heap.lt_size q) hT);have isT':IsTup h'' T [.int i t,u2].toArray:=by
   obtain ⟨o,q,r⟩:=isT;exact ⟨o,k2 T o (W.apart i T _ mid) q,r⟩
  refine ⟨.ref T,dE H T (.tup [.int (i:Int),y]),I.turnedT (t':=tk) (ch:=[e,it]) hf kk hT (by show 2<=sizeLine;decide) (.cons ⟨t,rfl⟩ (.cons ry .nil)) isT',rfl,⟨T,_,y,hTn,rfl,rfl,rfl,hy⟩,⟨he',b1 _ _ st1'⟩,fun b hb=>?_⟩;have hbT:b≠T:=by
   simp only [List.mem_cons,List.not_mem_nil,or_false] at hb;rcases hb with rfl|rfl
   ·obtain ⟨_,q⟩:=he;exact lt q
   ·obtain ⟨_,q,_⟩:=s1.obj _ _ h1;exact lt q
  rw [bn hbT];exact (hf b hb).1
 ·intro X hP hw hK hc i af s σ H E I hf st hg;subst hP hw;obtain ⟨he,h1⟩:=st;obtain ⟨sB,hi⟩:=hg;have hh:X.A.in1.handled=none:=I.ok.hd hc;obtain ⟨fp1,P1,St1,D1,st1,m1,n1,p1,b1⟩:=s1.draw X af s σ H I hK sB (hf it (by simp)) X.A.in1 hh i h1;have W:=WalksT.enumerateD D1 e ne (nof hf n1) m1;subst hi;refine bf I.tk (W.done s _ _ ⟨he,st1⟩ fun h' tk kk htk=>⟨rfl,?_⟩);have nch:∀ b u,H b=some u->b∉[e,it]:=fun b u q m=>by
   have:=(hf b m).1
   rw [this] at q;cases q
  refine I.step (g':=s.gens) (d':=s.drawn) (ch:=[e,it]) (fun b hb=>?_) (fun b o _ _ hc q _=>kk b o hc q) (fun b o _ _ hc q _=>⟨o.slots,kk b o hc q⟩) (fun _ _ _ _ n=>n)
   (fun b o hc q=>⟨o,kk b o hc q⟩) (fun _ _ q=>q) (fun _ _ _ q=>q) (fun b ps q=>⟨#[],by rw [q];simp⟩) (fun m hm=>?_) (fun b u q=>?_) I.bare
  ·have f:=hf b hb;exact ⟨f.2.2.2.1,f.2.1,f.2.2.2.2.1,f.2.2.2.2.2⟩
  ·obtain ⟨o,es,ep,ho,r⟩:=hm;exact ⟨o,es,ep,kk _ o (fun q=>(hf _ q).2.1 rfl) ho,r⟩
  ·refine (I.hok b u q).stay (fun c v hc z=>kk c v ?_ z) (fun _ z=>z) fun _ _ z=>z;rcases hc with z|z
   ·rw [z];exact nch b u q
   ·exact nch c _ z
def Be {K:PySem.W.Frag} {as0:List Addr} {B:Hp} {n:Nat} {Pv:Nat->V->V->Prop} {zs:List D} (hn:n=zs.length) (h:∀ i x y,i < n->Pv i x y->∃ dx dy,zs[i]?=some (.tup [dx,dy])/\gy K (aS as0 B) dx x/\gy K (aS as0 B) dy y):GivesD K as0 B (Kg B n Pv) zs where
 go:=fun i H s hi=>⟨s,by rw [hn];exact hi⟩
 yl:=fun i H v H2 M s hM hM2 hi ⟨p,x,y,hp,e,ev,hv⟩=>by
  subst e ev;obtain ⟨dx,dy,e1,d1,d2⟩:=h i x y (by rw [hn];exact hi) hv;have hpM:p∉M:=fun z=>hM p z hp;have s2:aD (aS as0 B) (aS M (dE H p (.tup [x,y]))):=(nR s hM2).trans (a8 (bo hp _));exact ⟨bo hp _,_,e1,p,[x,y],rfl,.inl (.inl (by rw [bp hpM];exact br)),aX.cons (d1.mono s2) (aX.cons (d2.mono s2) aX.nil)⟩
 stop:=fun H s=>⟨s,hn.symm⟩
def Hg {K:PySem.W.Frag} {H:Hp} {d:D} {v:V} {xs:List D} (h:gy K H d v) (e:lf d=.ok xs):∃ vs,Gs K H v vs/\aX K H xs vs:=by
 cases d with
 | lst ds=>cases e;obtain ⟨a,vs,rfl,q1,q2⟩:=h;exact ⟨vs,.inr (.inl ⟨a,rfl,q1⟩),q2⟩
 | tup ds=>cases e;obtain ⟨a,vs,rfl,q1,q2⟩:=h;exact ⟨vs,.inr (.inr ⟨a,rfl,q1⟩),q2⟩
 | str z =>
  cases e;cases h;refine ⟨pf z,.inl ⟨z,rfl,rfl⟩,?_⟩;show aX K H (z.cps.toList.map fun c=>D.str ⟨#[c]⟩) (z.cps.toList.map fun c=>V.str ⟨#[c]⟩);generalize z.cps.toList=cs;induction cs with
  | nil=>exact rfl
  | cons c r ih=>exact ⟨_,_,rfl,rfl,ih⟩
 | _=>cases e
def Gs.mono {K:PySem.W.Frag} {H H':Hp} {v:V} {vs:List V} (s:aD H H') (h:Gs K H v vs):Gs K H' v vs:=by
 rcases h with h|⟨a,e,h⟩|⟨a,e,h⟩
 ·exact .inl h
 ·exact .inr (.inl ⟨a,e,s.seq h⟩)
 ·exact .inr (.inr ⟨a,e,s.seqT h⟩)
def VG (xs ys:List D):List D:=List.zipWith (fun x y=>D.tup [x,y]) xs ys
def cK:Nat->List D->List D
 | _,[]=>[]
 | n,x::r=>.tup [.int (n:Int),x]::cK (n+1) r
theorem pQ:∀ (n:Nat) (xs:List D),(cK n xs).length=xs.length
 | _,[]=>rfl
 | n,x::r=>by unfold cK;simp [pQ (n+1) r]
def pZ:∀ (n:Nat) (xs:List D) (i:Nat),(cK n xs)[i]?=xs[i]?.map fun x=>.tup [.int ((n+i:Nat):Int),x]
 | _,[],i=>by simp [cK]
 | n,x::r,0=>by simp [cK]
 | n,x::r,i+1=>by
  unfold cK;rw [List.getElem?_cons_succ,pZ (n+1) r i,List.getElem?_cons_succ];have e:n+1+i=n+(i+1):=by omega
  rw [e]
def ww (ds:List D):R (List D):=match ds with
 | [a]=>(lf a).bind fun xs=>.ok (cK 0 xs)
 | _=>.no
def lX (α:FA):FA:=fun δ=>(α δ).bind ww
section
variable {X:Cx} {W:Wd} {O:List Nat} {α:FA} {elts:List Expr} {k:Nat} {p pos tpos:Pos}
def x5 {a:Expr} (hm:X.mg "enumerate"=none) (ha:JA X [a] (tw W O α)) (hg:Gl X "enumerate":=by rfl) (h1:aR a=true:=by rfl) (hW:W.K=X.K:=by rfl) :
  JI X (.Tuple elts k tpos) (.Call (.Name "enumerate" p) [a] [] pos) (iD W O (lX α)):=⟨fun af s σ H R I ⟨as0,B,own,δ,DIh,h⟩=>by
 refine wpAny_Call_Name_kw (nV I hg hm xP ?_ (by decide) (by decide));refine PyProof.Rows.callWith_type1 (eB (ha.out pos af s σ H (fun vs H1=>aD H H1/\∃ ds,aX W.K (aS (own++as0) H1) ds vs/\mM W as0 own H1 (ww ds) R) I ⟨as0,B,own,δ,DIh,mV h fun ds vs H1 s1 d1 hq=>⟨s1,ds,d1,hq⟩⟩) fun us s1 hh=>mP hh fun vs H1 I1 r1 q1=>?_) (b7 h1) rfl;obtain ⟨sH,ds,dv,hq⟩:=q1;unfold ww at hq;split at hq
 ·rename_i da;obtain ⟨va,rfl,den1⟩:=fF dv;cases e1:lf da with
  | no=>rw [e1] at hq;exact hq.elim
  | er x=>cases da <;> cases e1
  | ok xs =>
   rw [e1] at hq;have hq:∀ J H',aD H1 H'->GivesD W.K as0 (aS own H') J (cK 0 xs)->R J H':=hq;obtain ⟨u1,rfl,ru1⟩:=gM r1;rw [tT] at den1;obtain ⟨xv,sv1,dn1⟩:=Hg den1 e1;rw [hW] at sv1 dn1;have sB:aD (aS own H1) H1:=aQ _ _;obtain ⟨o1,S1,it1,fr1,st1,src1⟩:=M9 I1 ru1 sB (sv1.mono (aQ _ _));refine Bv it1 fr1 fun h' he g1 hsz kp=>?_;refine wpAny_pyIter_enum he ?_;refine ⟨s1.heap.objs.size+1,_,_,_,H1,rfl,I1.kept (t':=s1.toks) kp,Dl (P:=X.prog) (w:=X.w) (src1 s1.heap.objs.size) (e:=s1.heap.objs.size+1) (Nat.succ_ne_self _),⟨⟨_,he⟩,st1 _ _ g1⟩,fun b hb=>?_,hq _ H1 (aD.refl _) ?_⟩
   ·have hb':s1.heap.objs.size<=b:=by
     simp only [List.mem_cons,List.not_mem_nil,or_false] at hb;rcases hb with rfl|rfl <;> first|exact Nat.le_add_right _ _|exact Nat.le_refl _
    exact I1.fpOk hb' (I1.hok.fresh hb')
   ·rw [hW];refine Be ?_ fun i x y hi hv=>?_
    ·rw [pQ,dn1.len]
    ·obtain ⟨rfl,hv⟩:=hv;obtain ⟨dy,q3,q4⟩:=dn1.got hv;refine ⟨.int (i:Int),dy,?_,rfl,q4⟩;rw [pZ,q3,Nat.zero_add];rfl
 ·exact hq.elim⟩
end
def Ge (K:PySem.W.Frag) (F:List D->R D):Sp:=fun vs H Q E=>∀ mg,jH K mg F vs H Q E
def Hv {P:Program} {w:World} {K:PySem.W.Frag} {mg:Str->Option Value} {k:Nat} {fa:Addr} {ps:List Str} {F:List D->R D} {C:FuncData->Prop}
  (h:∃ fd:FuncData,C fd/\∀ base:Heap,K.In base->base.Ns mainGlobals mg->FnOk P w K mg base gW k fa fd ps (jH K mg F)) :
  ∃ fd:FuncData,C fd/\∀ base:Heap,K.In base->base.Ns mainGlobals mg->FnOk P w K mg base gW k fa fd ps (Ge K F):=by
 obtain ⟨fd,h1,h2⟩:=h;exact ⟨fd,h1,fun base h3 h4=>(h2 base h3 h4).imp fun vs H Q E q=>q mg⟩
def Jt {K:PySem.W.Frag} {a:Addr} {ns:List Int} {H:Hp} {F:List D->R D} {Q:VK} {E:XK} (hS:jl K H a (ns.map V.int)) (h:F [.lst (ns.map D.int)]=.ok (.bl true)) (q:∀ H',Q (.bl true) H'):Ge K F [.ref a] H Q E :=
 fun mg=>Ll hS h q
def fin (r:R Fl):R D:=r.bind fun f=>match f with
 | .rt d=>.ok d
 | .rn d=>.ok d
 | .nx _=>.ok .non
 | _=>.no
section
variable {δ:Sd} {d e:D} {x y:Str} {i j:Int} {b c:Bool} {φ ψ:FE} {τ υ:FT} {α:FA} {S T:FS}
theorem kQ:fin (.ok (.rt d))=.ok d:=rfl
theorem Gv:fin (.ok (.nx δ))=.ok .non:=rfl
theorem K9:fin (.er x)=.er x:=rfl
theorem La:fin .no=.no:=rfl
def DQ (T:FS) (f:Fl):R Fl:=match f with
 | .nx δ'=>T δ'
 | f=>.ok f
theorem aG:aF S T δ=(S δ).bind (DQ T):=by
 unfold aF DQ;cases S δ with
 | ok f=>cases f <;> rfl
 | er x=>rfl
 | no=>rfl
theorem aA:DQ T (.nx δ)=T δ:=rfl
theorem Az:DQ T (.rt d)=.ok (.rt d):=rfl
theorem M1:DQ T (.bk δ)=.ok (.bk δ):=rfl
theorem LW:DQ T (.ct δ)=.ok (.ct δ):=rfl
theorem bV:aI δ=.ok (.nx δ):=rfl
def Me (d:D):R Fl:=.ok (.rt d)
theorem kB:aW φ δ=(φ δ).bind Me:=rfl
theorem qp:Me d=.ok (.rt d):=rfl
def WU (S T:FS) (δ:Sd) (b:Bool):R Fl:=if b=true then S δ else T δ
theorem eX:cp τ S T δ=(τ δ).bind (WU S T δ):=rfl
theorem eG:WU S T δ b=if b=true then S δ else T δ:=rfl
def Ub (k:Nat) (δ:Sd) (d:D):R Fl:=.ok (.nx (δ.set k (some d)))
theorem wN {k:Nat}:aJ k φ δ=(φ δ).bind (Ub k δ):=rfl
theorem Cl {k:Nat}:Ub k δ d=.ok (.nx (δ.set k (some d))):=rfl
def RL (k:Nat) (δ:Sd) (d:D):R Fl:=if k < δ.length then .ok (.nx (δ.set k (some d))) else .no
theorem Qu {k:Nat}:vD k φ δ=(φ δ).bind (RL k δ):=rfl
theorem Ot {k:Nat}:RL k δ d=if k < δ.length then .ok (.nx (δ.set k (some d))) else .no:=rfl
def TF (t:TgD) (S:FS) (δ:Sd) (xs:List D):R Fl:=iX t S xs δ
theorem wY {t:TgD}:sQ α t S δ=(α δ).bind (TF t S δ):=rfl
theorem wk {t:TgD} {xs:List D}:TF t S δ xs=iX t S xs δ:=rfl
def v8 (t:TgD) (S:FS) (r:List D) (f:Fl):R Fl:=match f with
 | .nx δ2=>iX t S r δ2
 | .ct δ2=>iX t S r δ2
 | .bk δ2=>.ok (.nx δ2)
 | .rt d=>.ok (.rt d)
 | .rn d=>.ok (.rn d)
def J5 (t:TgD) (S:FS) (r:List D) (δ1:Sd):R Fl:=(S δ1).bind (v8 t S r)
theorem Jj {t:TgD}:iX t S [] δ=.ok (.nx δ):=rfl
theorem i4 {t:TgD} {r:List D}:iX t S (d::r) δ=(gY t d δ).bind (J5 t S r):=by
 show (gY t d δ).bind _=_;congr 1
theorem Gk {t:TgD} {r:List D}:J5 t S r δ=(S δ).bind (v8 t S r):=rfl
theorem jm {t:TgD} {r:List D}:v8 t S r (.nx δ)=iX t S r δ:=rfl
theorem JH {t:TgD} {r:List D}:v8 t S r (.ct δ)=iX t S r δ:=rfl
theorem Ie {t:TgD} {r:List D}:v8 t S r (.bk δ)=.ok (.nx δ):=rfl
theorem GS {t:TgD} {r:List D}:v8 t S r (.rt d)=.ok (.rt d):=rfl
theorem Ez {k:Nat}:gY (.one k) d δ=.ok (δ.set k (some d)):=rfl
theorem wF {k l:Nat}:gY (.tup [k,l]) (.tup [d,e]) δ=.ok ((δ.set k (some d)).set l (some e)):=rfl
def LU (φ:FE) (k:Nat) (δ:Sd) (o:Option (Option D)):R Fl:=match o with
 | some (some (.lst xs))=>(φ δ).bind fun d=>if xs.length < 1000000 then .ok (.nx (δ.set k (some (.lst (xs++[d]))))) else .no
 | _=>.no
def Kp (xs:List D) (k:Nat) (δ:Sd) (d:D):R Fl:=if xs.length < 1000000 then .ok (.nx (δ.set k (some (.lst (xs++[d]))))) else .no
theorem Sk {k:Nat}:cT k φ δ=LU φ k δ δ[k]?:=by
 unfold cT LU;rfl
theorem R4 {k:Nat} {xs:List D}:LU φ k δ (some (some (.lst xs)))=(φ δ).bind (Kp xs k δ):=rfl
theorem KQ {k:Nat} {xs:List D}:Kp xs k δ d=if xs.length < 1000000 then .ok (.nx (δ.set k (some (.lst (xs++[d]))))) else .no:=rfl
def Wh (ψ φ:FE) (k:Nat) (δ:Sd) (o:Option (Option D)):R Fl:=match o with
 | some (some (.lst xs))=>(φ δ).bind fun d=>(ψ δ).bind fun z=>match z with
  | .int z=>(match Hh xs.length z with
   | some j=>.ok (.nx (δ.set k (some (.lst (xs.set j d)))))
   | none=>.no)
  | _=>.no
 | _=>.no
def Ka (xs:List D) (k:Nat) (δ:Sd) (d:D) (z:D):R Fl:=match z with
 | .int z=>(match Hh xs.length z with
  | some j=>.ok (.nx (δ.set k (some (.lst (xs.set j d)))))
  | none=>.no)
 | _=>.no
def Kb (ψ:FE) (xs:List D) (k:Nat) (δ:Sd) (d:D):R Fl:=(ψ δ).bind (Ka xs k δ d)
theorem Tr {k:Nat} {xs:List D}:Wh ψ φ k δ (some (some (.lst xs)))=(φ δ).bind (Kb ψ xs k δ):=rfl
theorem LA {k:Nat} {xs:List D}:Kb ψ xs k δ d=(ψ δ).bind (Ka xs k δ d):=rfl
def QH (o:Option (Option D)):R D:=match o with
 | some (some d)=>.ok d
 | _=>.no
theorem v_var {k:Nat}:ae k δ=QH δ[k]?:=rfl
theorem sK:QH (some (some d))=.ok d:=rfl
theorem v_c:vC d δ=.ok d:=rfl
def W9 (op:D->D->R D) (ψ:FE) (δ:Sd) (x:D):R D:=(ψ δ).bind (op x)
theorem jd {op:D->D->R D}:ao op φ ψ δ=(φ δ).bind (W9 op ψ δ):=rfl
theorem g7 {op:D->D->R D}:W9 op ψ δ d=(ψ δ).bind (op d):=rfl
theorem Ve {op:D->R D}:L4 op φ δ=(φ δ).bind op:=rfl
def UA (d:D):R D:=GN d fun b=>.ok (.bl (!b))
theorem v_not:AS φ δ=(φ δ).bind UA:=rfl
theorem SQ:UA (.bl b)=.ok (.bl (!b)):=rfl
def Nj (ψ:FE) (δ:Sd) (d:D):R D:=GN d fun b=>if b=true then ψ δ else .ok (.bl false)
theorem v_and:ji φ ψ δ=(φ δ).bind (Nj ψ δ):=rfl
theorem Pq:Nj ψ δ (.bl b)=if b=true then ψ δ else .ok (.bl false):=rfl
def Wr (d:D):R Bool:=GN d .ok
theorem sO:bP φ δ=(φ δ).bind Wr:=rfl
theorem tY:Wr (.bl b)=.ok b:=rfl
theorem Fw:cj φ δ=(φ δ).bind E7:=rfl
theorem P0:E7 .non=.ok false:=rfl
theorem Rm:E7 (.bl b)=.ok b:=rfl
theorem TD:E7 (.int i)=.ok (i != 0):=rfl
def J2 (υ:FT) (δ:Sd) (b:Bool):R Bool:=if b=true then υ δ else .ok false
theorem Kn:qN τ υ δ=(τ δ).bind (J2 υ δ):=rfl
theorem EJ:J2 υ δ b=if b=true then υ δ else .ok false:=rfl
def Tc (υ:FT) (δ:Sd) (b:Bool):R Bool:=if b=true then .ok true else υ δ
theorem Da:vp τ υ δ=(τ δ).bind (Tc υ δ):=rfl
theorem wo:Tc υ δ b=if b=true then .ok true else υ δ:=rfl
def JZ (b:Bool):R Bool:=.ok (!b)
theorem Ew:eI τ δ=(τ δ).bind JZ:=rfl
theorem KW:JZ b=.ok (!b):=rfl
theorem Qs:dX δ=.ok true:=rfl
def NP (φ ψ:FE) (δ:Sd) (b:Bool):R D:=if b=true then φ δ else ψ δ
theorem Uq:UD τ φ ψ δ=(τ δ).bind (NP φ ψ δ):=rfl
theorem SE:NP φ ψ δ b=if b=true then φ δ else ψ δ:=rfl
theorem um:aj δ=.ok []:=rfl
def A3 (d:D) (ds:List D):R (List D):=.ok (d::ds)
def Kw (α:FA) (δ:Sd) (d:D):R (List D):=(α δ).bind (A3 d)
theorem o9:ac φ α δ=(φ δ).bind (Kw α δ):=rfl
theorem o8:Kw α δ d=(α δ).bind (A3 d):=rfl
theorem mi {ds:List D}:A3 d ds=.ok (d::ds):=rfl
theorem Qw:dj α δ=(α δ).bind z4:=rfl
theorem Op:kl α δ=(α δ).bind B7:=rfl
theorem K0 {ds:List D}:z4 ds=if ds.length<=1000000 then .ok (.lst ds) else .no:=rfl
theorem Md {ds:List D}:B7 ds=if ds.length<=1000000 then .ok (.tup ds) else .no:=rfl
theorem xh {g:List D->R D}:ak g α δ=(α δ).bind g:=rfl
theorem M5:eN δ=.ok none:=rfl
def oK (d:D):R (Option Int):=match d with
 | .int i=>.ok (some i)
 | _=>.no
theorem Lm:bR φ δ=(φ δ).bind oK:=rfl
theorem o_k:oK (.int i)=.ok (some i):=rfl
def M7 (g:D->Option Int->Option Int->R D) (d:D) (lo hi:Option Int):R D:=g d lo hi
def KU (g:D->Option Int->Option Int->R D) (u:Sd->R (Option Int)) (δ:Sd) (d:D) (lo:Option Int):R D:=(u δ).bind (M7 g d lo)
def Ol (g:D->Option Int->Option Int->R D) (l u:Sd->R (Option Int)) (δ:Sd) (d:D):R D:=(l δ).bind (KU g u δ d)
theorem Vt {g:D->Option Int->Option Int->R D} {l u:Sd->R (Option Int)}:qe g φ l u δ=(φ δ).bind (Ol g l u δ):=rfl
theorem Os {g:D->Option Int->Option Int->R D} {l u:Sd->R (Option Int)}:Ol g l u δ d=(l δ).bind (KU g u δ d):=rfl
theorem Pu {g:D->Option Int->Option Int->R D} {u:Sd->R (Option Int)} {lo:Option Int}:KU g u δ d lo=(u δ).bind (M7 g d lo):=rfl
theorem Qh {g:D->Option Int->Option Int->R D} {lo hi:Option Int}:M7 g d lo hi=g d lo hi:=rfl
def Xr (g:Str->List D->R D) (α:FA) (δ:Sd) (d:D):R D:=match d with
 | .str z=>(α δ).bind fun ds=>g z ds
 | _=>.no
theorem LG {g:Str->List D->R D}:oD g φ α δ=(φ δ).bind (Xr g α δ):=rfl
theorem Nf {g:Str->List D->R D}:Xr g α δ (.str x)=(α δ).bind (g x):=rfl
theorem FI {ix:List (Option Nat)} {t:TgD}:dm ix α t τ φ δ=(α δ).bind (cA t τ φ (cf ix δ)):=rfl
theorem Ul:iR φ δ=(φ δ).bind lf:=rfl
theorem Hq {xs:List D}:lf (.lst xs)=.ok xs:=rfl
theorem Jb {xs:List D}:lf (.tup xs)=.ok xs:=rfl
theorem Co:lf (.str x)=.ok (pe x):=rfl
theorem MZ:g8 α δ=(α δ).bind G3:=rfl
def Gx (h:-(2 ^ 62)<=i/\i < 2 ^ 62):G3 [.int i]=.ok (fJ 0 i.toNat):=if_pos h
theorem Nl:lX α δ=(α δ).bind ww:=rfl
def MT {xs:List D} (h1:lf d=.ok xs):ww [d]=.ok (cK 0 xs):=by
 unfold ww;simp only [h1,ah]
theorem Kx:aC (.int i) (.int j)=.ok (.int (i+j)):=rfl
def JY:aC (.str x) (.str y)=if x.length+y.length<=1000000 then .ok (.str (x++y)) else .no:=rfl
theorem add_l {xs ys:List D}:aC (.lst xs) (.lst ys)=if xs.length+ys.length<=1000000 then .ok (.lst (xs++ys)) else .no:=rfl
theorem uA:jj (.int i) (.int j)=.ok (.int (i - j)):=rfl
theorem Uf:dC (.str x) (.int j)=if x.length<=1000/\-1000<=j/\j<=1000 then .ok (.str (Txt.mul x j)) else .no:=rfl
def Kt:bq (.int i) (.int j)=if 0 < j then .ok (.int (i % j)) else .no:=rfl
theorem mul_r (h:-(2 ^ 64) < j/\j < 2 ^ 64):dC (.int i) (.int j)=.ok (.int (i*j)):=if_pos (.inr h)
theorem BZ (h:-(2 ^ 64) < i/\i < 2 ^ 64):dC (.int i) (.int j)=.ok (.int (i*j)):=if_pos (.inl h)
theorem Qm (h:0 < j/\j < 1073741824):cC (.int i) (.int j)=.ok (.int (i/j)):=if_pos h
theorem Cd (h:0 < j):bq (.int i) (.int j)=.ok (.int (i % j)):=if_pos h
theorem Fk (h:0<=j/\j<=1000000/\-(2 ^ 64) < i/\i < 2 ^ 64):kR (.int i) (.int j)=.ok (.int (i ^ j.toNat)):=if_pos ⟨h.1,h.2.1,by omega⟩
theorem QN:Iu (.int i)=.ok (.int (-i)):=rfl
theorem Vh:D6 (.int i) (.int j)=.ok (.bl (decide (i < j))):=rfl
theorem VQ:Av (.int i) (.int j)=.ok (.bl (decide (i<=j))):=rfl
theorem Vd:vn (.int i) (.int j)=.ok (.bl (decide (j < i))):=rfl
theorem Vy:MR (.int i) (.int j)=.ok (.bl (decide (j<=i))):=rfl
theorem VU:D6 (.str x) (.str y)=.ok (.bl (decide (x.cps.toList < y.cps.toList))):=rfl
theorem VF:Av (.str x) (.str y)=.ok (.bl (!decide (y.cps.toList < x.cps.toList))):=rfl
theorem VZ:vn (.str x) (.str y)=.ok (.bl (decide (y.cps.toList < x.cps.toList))):=rfl
theorem UT:MR (.str x) (.str y)=.ok (.bl (!decide (x.cps.toList < y.cps.toList))):=rfl
theorem Wk:Nq d .non=.ok (.bl (GQ d)):=rfl
theorem V4:Nq d (.bl b)=.ok (.bl (IU b d)):=rfl
theorem Rp:GQ .non=true:=rfl
theorem Uz:GQ (.bl b)=false:=rfl
theorem Tq:GQ (.int i)=false:=rfl
theorem Rx:GQ (.str x)=false:=rfl
theorem Pj {xs:List D}:GQ (.lst xs)=false:=rfl
theorem T8 {xs:List D}:GQ (.tup xs)=false:=rfl
theorem QS {xs:List (pA×D)}:GQ (.dct xs)=false:=rfl
theorem Ue:IU b (.bl c)=(c==b):=rfl
theorem P5:IU b .non=false:=rfl
theorem TK:IU b (.int i)=false:=rfl
theorem Oj:IU b (.str x)=false:=rfl
theorem Ty {xs:List D}:IU b (.lst xs)=false:=rfl
theorem Su {xs:List D}:IU b (.tup xs)=false:=rfl
theorem Sz:cq (.int i) (.int j)=.ok (.bl (decide (i=j))):=by simp [cq,vk,eY,oE,kg]
theorem Gq:cq (.str x) (.str y)=.ok (.bl (decide (x=y))):=by simp [cq,vk,eY,oE,kg]
theorem Oo:cq (.bl b) (.bl c)=.ok (.bl (decide (b=c))):=by simp [cq,vk,eY,oE,kg]
theorem Ro:cq .non .non=.ok (.bl true):=by simp [cq,vk,eY,oE,kg]
theorem Ug:cq .non (.int i)=.ok (.bl false):=by simp [cq,vk,eY,oE,kg]
theorem NQ:cq (.int i) .non=.ok (.bl false):=by simp [cq,vk,eY,oE,kg]
theorem Rk:cq .non (.str x)=.ok (.bl false):=by simp [cq,vk,eY,oE,kg]
theorem SD:cq (.str x) .non=.ok (.bl false):=by simp [cq,vk,eY,oE,kg]
theorem Qc:cq (.int i) (.str x)=.ok (.bl false):=by simp [cq,vk,eY,oE,kg]
theorem Ps:cq (.str x) (.int i)=.ok (.bl false):=by simp [cq,vk,eY,oE,kg]
theorem Kd:wW (.int i) (.int j)=.ok (.bl (!decide (i=j))):=by simp [wW,vk,eY,oE,kg]
theorem Sb:wW (.str x) (.str y)=.ok (.bl (!decide (x=y))):=by simp [wW,vk,eY,oE,kg]
theorem NL:wW (.bl b) (.bl c)=.ok (.bl (!decide (b=c))):=by simp [wW,vk,eY,oE,kg]
def Jq (h:x.length<=1000000) {k:Nat} (hk:atI x.cps.toList i=some k):aU (.str x) (.int i)=.ok (.str ⟨#[k]⟩):=by simp only [aU,if_pos h,hk]
def sR {xs:List D} (hk:atI xs i=some d):aU (.lst xs) (.int i)=.ok d:=by simp only [aU,hk]
def vE {xs:List D} (hk:atI xs i=some d):aU (.tup xs) (.int i)=.ok d:=by simp only [aU,hk]
theorem Gb {r:List D}:aU (.tup (d::r)) (.int 0)=.ok d:=vE (bt (j:=0) rfl)
theorem Ft {a:D} {r:List D}:aU (.tup (a::d::r)) (.int 1)=.ok d:=vE (bt (j:=1) rfl)
theorem RH {a b:D} {r:List D}:aU (.tup (a::b::d::r)) (.int 2)=.ok d:=vE (bt (j:=2) rfl)
theorem Sx {a b c:D} {r:List D}:aU (.tup (a::b::c::d::r)) (.int 3)=.ok d:=vE (bt (j:=3) rfl)
theorem wH {r:List D}:aU (.lst (d::r)) (.int 0)=.ok d:=sR (bt (j:=0) rfl)
theorem v9 {a:D} {r:List D}:aU (.lst (a::d::r)) (.int 1)=.ok d:=sR (bt (j:=1) rfl)
theorem Fc {a b:D} {r:List D}:aU (.lst (a::b::d::r)) (.int 2)=.ok d:=sR (bt (j:=2) rfl)
theorem F6 {a b c:D} {r:List D}:aU (.lst (a::b::c::d::r)) (.int 3)=.ok d:=sR (bt (j:=3) rfl)
theorem KB {a0 a1 a2 a3:D} {r:List D}:aU (.lst (a0::a1::a2::a3::d::r)) (.int 4)=.ok d:=sR (bt (j:=4) rfl)
theorem JR {a0 a1 a2 a3 a4:D} {r:List D}:aU (.lst (a0::a1::a2::a3::a4::d::r)) (.int 5)=.ok d:=sR (bt (j:=5) rfl)
theorem Kr {a0 a1 a2 a3 a4 a5:D} {r:List D}:aU (.lst (a0::a1::a2::a3::a4::a5::d::r)) (.int 6)=.ok d:=sR (bt (j:=6) rfl)
theorem JL {a0 a1 a2 a3 a4 a5 a6:D} {r:List D}:aU (.lst (a0::a1::a2::a3::a4::a5::a6::d::r)) (.int 7)=.ok d:=sR (bt (j:=7) rfl)
theorem Sh {a0 a1 a2 a3 a4 a5 a6 a7:D} {r:List D}:aU (.lst (a0::a1::a2::a3::a4::a5::a6::a7::d::r)) (.int 8)=.ok d:=sR (bt (j:=8) rfl)
theorem RA {a0 a1 a2 a3:D} {r:List D}:aU (.tup (a0::a1::a2::a3::d::r)) (.int 4)=.ok d:=vE (bt (j:=4) rfl)
theorem OQ {a0 a1 a2 a3 a4:D} {r:List D}:aU (.tup (a0::a1::a2::a3::a4::d::r)) (.int 5)=.ok d:=vE (bt (j:=5) rfl)
theorem SK {a0 a1 a2 a3 a4 a5:D} {r:List D}:aU (.tup (a0::a1::a2::a3::a4::a5::d::r)) (.int 6)=.ok d:=vE (bt (j:=6) rfl)
theorem Uc {a0 a1 a2 a3 a4 a5 a6:D} {r:List D}:aU (.tup (a0::a1::a2::a3::a4::a5::a6::d::r)) (.int 7)=.ok d:=vE (bt (j:=7) rfl)
theorem Q4 {a0 a1 a2 a3 a4 a5 a6 a7:D} {r:List D}:aU (.tup (a0::a1::a2::a3::a4::a5::a6::a7::d::r)) (.int 8)=.ok d:=vE (bt (j:=8) rfl)
theorem DH {lo hi:Option Int}:jP (.str x) lo hi=if x.length<=1000000 then .ok (.str (bW x lo hi)) else .no:=rfl
theorem Hs {xs:List D} {lo hi:Option Int}:jP (.lst xs) lo hi=.ok (.lst (AZ xs lo hi)):=rfl
theorem pV:bO [.str x]=if x.length<=1000000 then .ok (.int x.length) else .no:=rfl
theorem Cb {xs:List D}:bO [.lst xs]=.ok (.int xs.length):=rfl
theorem PL {xs:List D}:bO [.tup xs]=.ok (.int xs.length):=rfl
theorem Q5:Jp [.int i]=.ok (.int (if i < 0 then -i else i)):=rfl
theorem S0:ze [.int i]=.ok (.int i):=rfl
theorem Qk:ze [.bl b]=.ok (.int (if b=true then 1 else 0)):=rfl
theorem QC:V0 [.int i,.int j]=.ok (.int (if j > i then j else i)):=rfl
theorem OF:BI [.int i,.int j]=.ok (.int (if j < i then j else i)):=rfl
theorem Tm {xs:List D}:rM [.lst xs]=.ok (.tup xs):=rfl
theorem Um {xs:List D}:rM [.tup xs]=.ok (.tup xs):=rfl
theorem SG {C:String}:jr [.non,.ty C]=if gw C=true then .ok (.bl (bA "NoneType" C)) else .no:=rfl
theorem T7 {C:String}:jr [.bl b,.ty C]=if gw C=true then .ok (.bl (bA "bool" C)) else .no:=rfl
theorem OZ {C:String}:jr [.int i,.ty C]=if gw C=true then .ok (.bl (bA "int" C)) else .no:=rfl
theorem SW {C:String}:jr [.str x,.ty C]=if gw C=true then .ok (.bl (bA "str" C)) else .no:=rfl
theorem TH {C:String} {xs:List D}:jr [.lst xs,.ty C]=if gw C=true then .ok (.bl (bA "list" C)) else .no:=rfl
theorem NK {C:String} {xs:List D}:jr [.tup xs,.ty C]=if gw C=true then .ok (.bl (bA "tuple" C)) else .no:=rfl
theorem QQ {C:String} {xs:List (pA×D)}:jr [.dct xs,.ty C]=if gw C=true then .ok (.bl (bA "dict" C)) else .no:=rfl
def B6 {xs:List D} {bs:List Bool} (h:Aj xs=some bs):qj [.lst xs]=.ok (.bl (bs.all id)):=by simp only [qj,h]
theorem p4 {β:Type} (f:β->Bool):∀ xs:List β,Aj (xs.map fun a=>D.bl (f a))=some (xs.map f)
 | []=>rfl
 | a::r=>by simp only [List.map_cons,Aj,p4 f r,Option.map_some]
theorem strs_map {β:Type} (f:β->Str):∀ xs:List β,mH (xs.map fun a=>D.str (f a))=some (xs.map f)
 | []=>rfl
 | a::r=>by simp only [List.map_cons,mH,strs_map f r,Option.map_some]
def FQ {z:Str} {xs:List D} {ys:List Str} (h:mH xs=some ys) (hl:(ys.map (·.length)).sum+ys.length*z.length<=1000000):fG z [.lst xs]=.ok (.str (Txt.join z ys)):=by simp only [fG,h,if_pos hl]
def z7 {t:TgD} {τ:FT} {ε:FE} {δ0:Sd} (f:D->D) (g:D->Sd):∀ xs:List D,(∀ x∈xs,gY t x δ0=.ok (g x)/\τ (g x)=.ok true/\ε (g x)=.ok (f x))->dq t τ ε δ0 xs=.ok (xs.map f)
 | [],_=>rfl
 | x::r,h=>by
  obtain ⟨h1,h2,h3⟩:=h x List.mem_cons_self;have ih:=z7 (t:=t) (τ:=τ) (ε:=ε) (δ0:=δ0) f g r fun y hy=>h y (List.mem_cons_of_mem _ hy);show (gY t x δ0).bind _=_;rw [h1];show (τ (g x)).bind _=_;rw [h2];simp only [ah,if_true,h3,ih,List.map_cons]
def Cg {t:TgD} {τ:FT} {ε:FE} {δ0:Sd} {xs ys:List D} (hf:sw t δ0=true) (hl:xs.length<=1000000) (h:dq t τ ε δ0 xs=.ok ys):cA t τ ε δ0 xs=.ok (.lst ys):=by
 unfold cA;rw [if_pos ⟨hf,hl⟩,h];rfl
def MH {k:Nat} {ε:FE} {δ0:Sd} {xs:List D} (f:D->D) (hf:sw (.one k) δ0=true) (hl:xs.length<=1000000) (h:∀ x∈xs,ε (δ0.set k (some x))=.ok (f x)):cA (.one k) dX ε δ0 xs=.ok (.lst (xs.map f)) :=
 Cg hf hl (z7 f (fun x=>δ0.set k (some x)) xs fun x hx=>⟨rfl,rfl,h x hx⟩)
def gr {β:Type} {k:Nat} {ε:FE} {δ0:Sd} {as:List β} (u:β->D) (f:β->D) (hf:sw (.one k) δ0=true) (hl:as.length<=1000000) (h:∀ a∈as,ε (δ0.set k (some (u a)))=.ok (f a)):cA (.one k) dX ε δ0 (as.map u)=.ok (.lst (as.map f)):=by
 refine Cg hf (by rw [List.length_map];exact hl) ?_;clear hl;induction as with
 | nil=>rfl
 | cons a r ih =>
  have h1:=h a List.mem_cons_self;have ih:=ih fun b hb=>h b (List.mem_cons_of_mem _ hb);show (ε (δ0.set k (some (u a)))).bind _=_;rw [h1];show (dq (.one k) dX ε δ0 (r.map u)).bind _=_;rw [ih];rfl
end
def dQ {α:Type} [DecidableEq α] (ks:List α):List α:=ks.foldl (fun acc k=>if k∈acc then acc else acc++[k]) []
section
variable {α:Type} [DecidableEq α]
def n6 (ks:List α) (k:α):dQ (ks++[k])=if k∈dQ ks then dQ ks else dQ ks++[k]:=by unfold dQ;rw [List.foldl_append];rfl
def vP {acc ks:List α} (h:∀ x,x∈acc ↔ x∈ks) (k:α):∀ x,(x∈(if k∈acc then acc else acc++[k])) ↔ x∈ks++[k]:=by
 intro x;rw [List.mem_append,<- h,List.mem_singleton];split
 ·rename_i hk;constructor
  ·exact .inl
  ·rintro (z|rfl)
   ·exact z
   ·exact hk
 ·rw [List.mem_append,List.mem_singleton]
def Am (ks:List α):∀ x,x∈dQ ks ↔ x∈ks:=by
 have key:∀ n,∀ x,x∈dQ (ks.take n) ↔ x∈ks.take n:=by
  intro n;induction n with
  | zero=>intro x;simp [dQ]
  | succ n ih =>
   rcases Nat.lt_or_ge n ks.length with h|h
   ·rw [List.take_succ_eq_append_getElem h,n6];exact vP ih _
   ·rw [List.take_of_length_le (by omega)] at ih ⊢;exact ih
 have:=key ks.length
 rwa [List.take_length] at this
def CN (ks:List α):(dQ ks).length<=ks.length:=by
 have key:∀ n,(dQ (ks.take n)).length<=n:=by
  intro n;induction n with
  | zero=>simp [dQ]
  | succ n ih =>
   rcases Nat.lt_or_ge n ks.length with h|h
   ·rw [List.take_succ_eq_append_getElem h,n6];split
    ·omega
    ·rw [List.length_append,List.length_singleton];omega
   ·rw [List.take_of_length_le (by omega)] at ih ⊢;omega
 have:=key ks.length
 rwa [List.take_length] at this
end
section
variable {prog:Program} {w:World} {A:Around} {R:Result->Shared->Prop} {I:Addr} {fp wr:List Addr} {G:Array GenState->Array GenState->Prop} {n:Nat} {P:Nat->Value->Prop} {St:Nat->Shared->Prop}
variable {α:Type} [DecidableEq α] {knd:KeyKind prog w α}
def zV {h:Heap} {a:Addr} {S S':α->Bool} {n n':Nat} (hS:h.SetOf knd a S n) (e:∀ k,S k=S' k) (en:n=n'):h.SetOf knd a S' n':=by
 have:S=S':=funext e
 subst this;subst en;exact hS
def Eg (W:WalksS prog w A.in1 I fp wr G n P St) (S:Addr) (hSf:S∉fp) (ks:List α) (hlen:ks.length=n)
  (hval:∀ i v,P i v->∀ k,ks[i]?=some k->knd.is k v=true/\v.scannable=true) (hb:n+1 < scanBound) :
  ∀ (m i:Nat) (s:Shared),n - i=m->i<=n->St i s ->
   s.heap.SetOf knd S (fun k'=>decide (k'∈dQ (ks.take i))) (dQ (ks.take i)).length ->
   (∀ s',Moved (S::wr) G s s'->s'.heap.SetOf knd S (fun k'=>decide (k'∈dQ ks)) (dQ ks).length->R (.ok (.ret .none)) s') ->
   codeAny (model prog w) A (.builtin "set.update.loop" ⟨[.ref S,.ref I],[]⟩) R s:=by
 have hSw:S∉wr:=fun h=>hSf (W.sub _ h);have hsub:∀ b∈wr,b∈S::wr:=fun b hb=>List.mem_cons_of_mem _ hb;intro m;induction m with
 | zero =>
  intro i s hk hi hst hS hR;have hin:i=n:=by omega
  subst hin;rw [<- hlen,List.take_length] at hS;refine codeAny_builtin F.entry_set_update_loop ?_;rw [Around.under_plainId F.plain_set_update_loop _];show wpAny _ A.in1 (pyNext (.ref I) >>= _) _ _ s;refine wpAny_bind (W.done s _ _ hst fun s' hm=>?_);show wpAny _ A.in1 (ret Value.none) _ _ s';refine wpAny_pure (hR s' (hm.mono hsub) ?_);obtain ⟨o,es,ep,t,ho,rest⟩:=hS;exact ⟨o,es,ep,t,hm.heap S _ hSw ho,rest⟩
 | succ m ih =>
  intro i s hk hi hst hS hR;have hlt:i < n:=by omega
  have hik:i < ks.length:=by omega
  refine codeAny_builtin F.entry_set_update_loop ?_;rw [Around.under_plainId F.plain_set_update_loop _];show wpAny _ A.in1 (pyNext (.ref I) >>= _) _ _ s;refine wpAny_bind (W.item i s _ _ hlt hst fun v s' hP hst' hm=>?_);obtain ⟨hv1,hv2⟩:=hval i v hP ks[i] (List.getElem?_eq_getElem hik);have hS':s'.heap.SetOf knd S (fun k'=>decide (k'∈dQ (ks.take i))) (dQ (ks.take i)).length:=by
   obtain ⟨o,es,ep,tb,ho,rest⟩:=hS;exact ⟨o,es,ep,tb,hm.heap S _ hSw ho,rest⟩
  show wpAny _ A.in1 (holding [v] (setAdd S v) >>= _) _ _ s';refine wpAny_bind (wpAny_holding ?_);unfold setAdd;refine wpAny_holding ?_;refine wpAny_bind (knd.pyHash hv1 ?_);have hroom:(dQ (ks.take i)).length+1 < scanBound:=by
   have:=CN (ks.take i)
   rw [List.length_take] at this;omega
  refine wpAny_setAddHashed_of (knd:=knd) (s:={ s' with toks:=s'.toks+1 }) hv1 hv2 hS' hroom fun h' hsb hS2=>?_;have hSi:h'.SetOf knd S (fun k'=>decide (k'∈dQ (ks.take (i+1)))) (dQ (ks.take (i+1))).length:=by
   rw [List.take_succ_eq_append_getElem hik,n6];refine zV hS2 (fun k'=>?_) ?_
   ·by_cases hk:ks[i]∈dQ (ks.take i)
    ·rw [if_pos hk];by_cases e:k'=ks[i]
     ·subst e;simp [hk]
     ·simp [e]
    ·rw [if_neg hk];simp [List.mem_append,Bool.decide_or]
   ·by_cases hk:ks[i]∈dQ (ks.take i)
    ·simp [hk]
    ·simp [hk]
  refine wpAny_pure ⟨plainId_quiet F.plain_set_update_loop _,ih (i+1) _ (by omega) hlt (W.frame _ s' _ _ hst' (Nat.le_succ _) fun b hb o e=>?_) hSi fun s'' hm'' hS''=>?_⟩
  ·rw [hsb.2 b (fun h:b=S=>hSf (by rw [<- h];exact hb))];exact e
  ·refine hR s'' (Moved.trans W.gtrans ((hm.mono hsub).then_heap (Nat.le_succ _) fun b o hb e=>?_) hm'') hS'';rw [hsb.2 b (fun h:b=S=>hb (by rw [h];exact List.mem_cons_self))];exact e
def tP {E:Value->Shared->Prop} {s:Shared} {l:Addr} {items:Array Value} {ks:List α} {Q:Value->Shared->Prop}
  (hh:A.handled=none) (hl:s.heap.IsList l items) (hlen:ks.length=items.size) (hi:∀ (i:Nat) v,items[i]?=some v->∀ k,ks[i]?=some k->knd.is k v=true/\v.scannable=true) (hb:items.size+1 < scanBound)
  (h:∀ (h':Heap) (tk:Nat),h'.SetOf knd s.heap.objs.size (fun k'=>decide (k'∈dQ ks)) (dQ ks).length ->
   (∀ b o,b < s.heap.objs.size->s.heap.get? b=some o->h'.get? b=some o)->Q (.ref s.heap.objs.size) { s with heap:=h',toks:=tk }) :
  wpAny (model prog w) A (call (.type "set") [.ref l]) Q E s:=by
 obtain ⟨c,tl,hmro⟩:=PySem.F.called_set.mro;have hmade:=PySem.F.called_set.made;have hsub:=PySem.F.called_set.sub;refine wpAny_call (codeAny_of_tree ?_);show wpAny _ _ (callAny (.type "set") _) _ _ _;refine wpAny_pure ⟨Code.quiet_builtin _ (by decide +kernel),codeAny_builtin PySem.F.entry_type_call ?_⟩;rw [Around.under_plain (weight_type_call_type "set" [.ref l] []) rfl];have h1:=PySem.F.called_set.notType;have h2:=PySem.F.called_set.canCreate;have hct:=PySem.F.typeCall_set_1 (.ref l);repeat (any_goals (first|assumption|wp_step))
 refine codeAny_mono (code_set_new_1 (.ref l) (E:=E) (Q₁:=fun obj s₁=>∃ led:Bool,obj=.ref s.heap.objs.size/\s₁={ s with heap:=s.heap.push { cls:=.type "set",dict:=none,data:=.set #[] 0 (.fresh 0 0 led) } }) fun led=>⟨led,rfl,rfl⟩) fun r s₁ hr=>?_;cases r with
 | error e=>exact hr
 | ok fl =>
  cases fl with
  | ret obj =>
   obtain ⟨led,rfl,rfl⟩:=hr;have hS:(s.heap.push { cls:=.type "set",dict:=none,data:=.set #[] 0 (.fresh 0 0 led) }).get? s.heap.objs.size=some { cls:=.type "set",dict:=none,data:=.set #[] 0 (.fresh 0 0 led) }:=Heap.get?_push_size _ rfl;have hT:Shared.TypeIs { s with heap:=s.heap.push { cls:=.type "set",dict:=none,data:=.set #[] 0 (.fresh 0 0 led) } } (.ref s.heap.objs.size) "set":=⟨_,hS,rfl⟩;have hli:=PySem.F.called_set.init.lookup;have hbi:=PySem.F.called_set.init.bind (.ref s.heap.objs.size);repeat (any_goals (first|assumption|wp_step))
   refine codeAny_mono (codeAny_call_builtin (R:=wants (fun r s₂=>r=.none/\∃ h' tk,s₂={ s with heap:=h',toks:=tk } /\
     h'.SetOf knd s.heap.objs.size (fun k'=>decide (k'∈dQ ks)) (dQ ks).length /\
     (∀ b o,b < s.heap.objs.size->s.heap.get? b=some o->h'.get? b=some o)) E) PySem.F.called_set.init.plain PySem.F.entry_set_init (check_set_init_1 hT ?_)) fun r₂ s₂ hr₂=>?_
   ·obtain ⟨ol,hol,hcl,nl,hdl⟩:=hl;obtain ⟨ocls,odict,odata,oslots⟩:=ol;simp only at hcl hdl;subst hcl;subst hdl;have hol':(s.heap.push { cls:=.type "set",dict:=none,data:=.set #[] 0 (.fresh 0 0 led) }).get? l=some { cls:=.type "list",dict:=odict,data:=.seq items nl,slots:=oslots }:=Heap.get?_push_of_some _ hol;have hsls:=PySem.F.sub_list_set;have hslf:=PySem.F.sub_list_frozenset;have hne:(Value.type "list"==Value.type "dict")=false:=by decide
    have hl1:(s.heap.push { cls:=.type "set",dict:=none,data:=.set #[] 0 (.fresh 0 0 led) }).IsList l items:=⟨_,hol',rfl,nl,rfl⟩;unfold Builtin.«set.__init__» noKeywords Builtin.Frozenset.updateFrom;generalize hPI:pyIter=PI
    wp_walk
    subst hPI;refine wpAny_pyIter_list hl1 ?_;refine wpAny_bind (wpAny_runValue ?_);have hlS:l < s.heap.objs.size:=Heap.lt_size hol;have hh3:A.in1.in1.in1.handled=none:=by simp [hh]
    have hneI:l≠(s.heap.push { cls:=.type "set",dict:=none,data:=.set #[] 0 (.fresh 0 0 led) }).objs.size:=by
     rw [Heap.size_push];exact Nat.ne_of_lt (Nat.lt_succ_of_lt hlS)
    have hSf:s.heap.objs.size∉[(s.heap.push { cls:=.type "set",dict:=none,data:=.set #[] 0 (.fresh 0 0 led) }).objs.size,l]:=by
     rw [Heap.size_push];simp only [List.mem_cons,List.mem_singleton,List.not_mem_nil,or_false,not_or];exact ⟨Nat.ne_of_lt (Nat.lt_succ_self _),Nat.ne_of_gt hlS⟩
    refine Eg (knd:=knd) ((Walks.list hh3 _ l hneI items).toS) s.heap.objs.size
     hSf ks hlen hi hb (items.size - 0) 0 _ (by omega) (Nat.zero_le _)
     ⟨⟨_,Heap.get?_push_size _ rfl,rfl,rfl⟩,(hl1.push _)⟩ ?hS0 ?hR
    case hS0 =>
     have hget:((s.heap.push { cls:=.type "set",dict:=none,data:=.set #[] 0 (.fresh 0 0 led) }).push { cls:=.type "list_iterator",data:=.fields #[.ref l,.int 0 0] }).get? s.heap.objs.size
       = some { cls:=.type "set",dict:=none,data:=.set #[] 0 (.fresh 0 0 led) }:=Heap.get?_push_of_some _ hS
     exact zV ((setObjOf_fresh (knd:=knd) led).setOf hget (by unfold scanBound;omega)) (fun _=>by simp [dQ]) (by simp [dQ])
    case hR =>
     intro s' hm hS';obtain ⟨h',g',d',tk',os'⟩:=s';have eg:g'=s.gens:=hm.gens;have ed:d'=s.drawn:=hm.drawn;have eo:os'=s.os:=hm.os;subst eg;subst ed;subst eo;show wpAny _ _ _ _ _ _;refine wpAny_pure ?_;show wpAny _ _ (ret Value.none) _ _ _;refine wpAny_pure ⟨rfl,h',tk',rfl,hS',fun b o hb e=>?_⟩;have hb1:b≠s.heap.objs.size:=Nat.ne_of_lt hb;have hb2:b≠(s.heap.push { cls:=.type "set",dict:=none,data:=.set #[] 0 (.fresh 0 0 led) }).objs.size:=by
      rw [Heap.size_push];exact Nat.ne_of_lt (Nat.lt_succ_of_lt hb)
     exact hm.heap b o (by simp only [List.mem_cons,List.mem_singleton,List.not_mem_nil,or_false,not_or];exact ⟨hb1,hb2⟩) (Heap.get?_push_of_some _ (Heap.get?_push_of_some _ e))
   ·cases r₂ with
    | error e=>exact hr₂
    | ok fl₂ =>
     cases fl₂ with
     | ret r =>
      obtain ⟨rfl,h',tk,rfl,hS',hk'⟩:=hr₂;repeat (any_goals (first|assumption|wp_step))
      exact h _ _ hS' hk'
     | _=>exact hr₂.elim
  | _=>exact hr.elim
end
section
variable {X:Cx} {W:Wd} {O:List Nat}
def GR (K:PySem.W.Frag) (t:TA):TE:=fun σ H Q=>t σ H fun vs H1=>∃ a ys,vs=[.ref a]/\jl K H1 a (ys.map V.str)/\ys.length<=1000/\Q (.int ((dQ ys).length:Nat)) H1
def Ee {e:Expr} {t:TA} {p1 p2 pos1 pos:Pos} (hc:X.calm=true) (hm1:X.mg "len"=none) (hm2:X.mg "set"=none) (ha:PA X [e] t) (hg1:Gl X "len":=by rfl) (hg2:Gl X "set":=by rfl)
  (he:starEach [e] X.env=(false,eval e X.env)::starEach [] X.env:=by rfl) (hpl:(backTo pos1 (starEach [] X.env)).any (·.1)=false:=by rfl)
  (he':starEach [.Call (.Name "set" p2) [e] [] pos1] X.env=(false,eval (.Call (.Name "set" p2) [e] [] pos1) X.env)::starEach [] X.env:=by rfl) (hpl':(backTo pos (starEach [] X.env)).any (·.1)=false:=by rfl) :
  PE X (.Call (.Name "len" p1) [.Call (.Name "set" p2) [e] [] pos1] [] pos) (GR X.K t):=by
 intro af s σ H Q I h;refine wpAny_Call_Name_kw (nV I hg1 hm1 cu ?_ (by decide) (by decide));refine PyProof.Rows.callWith_builtin1 ?_ he' hpl';rw [he'];show wpAny _ _ (spliced ((false,eval (.Call (.Name "set" p2) [e] [] pos1) X.env)::backTo pos (starEach [] X.env))) _ _ s;refine Calls.spliced_cons ?_;refine wpAny_Call_Name_kw (nV I hg2 hm2 Lq ?_ (by decide) (by decide));refine PyProof.Rows.callWith_type1 (eB (ha pos1 af s σ H _ I h) fun us s1 hh=>mP hh fun vs H1 I1 r1 q1=>?_) he hpl;obtain ⟨a,ys,rfl,hq,hl,q⟩:=q1;obtain ⟨u,rfl,ru⟩:=gM r1;cases ru;obtain ⟨its,rv,pl,hz⟩:=I1.list hq;have hlen:its.length=ys.length:=by rw [<- rv.length,List.length_map]
 have hsb:scanBound=4096:=rfl;refine bf I1.tk (tP (knd:=strKind X.prog X.w) (ks:=ys) (I1.ok.hd hc) pl.isList (by simp [hlen]) (fun i v hv k hk=>?_) (by rw [hsb];simp;omega) fun h' tk hS hkeep htk=>?_)
 ·have hv':its[i]?=some v:=by simpa using hv
  obtain ⟨u,hu,ru⟩:=rv.get (show (ys.map V.str)[i]?=some (.str k) by rw [List.getElem?_map,hk];rfl);rw [hv'] at hu;cases hu;obtain ⟨t',rfl⟩:=ru;exact ⟨strKind_is _ _ _ _,rfl⟩
 ·refine Calls.spliced_nil ?_;obtain ⟨o,es,ep,t',ho,hex,hd,hel,hmem,hb',hf,hn⟩:=hS;have I2:Inv X af σ H1 { s1 with heap:=h',toks:=tk }:=I1.kept fun b u e=>hkeep b u (Heap.lt_size e) e;refine call_len_set ho hex hd hf (by rw [hsb] at hb';omega) ⟨.int _,H1,I2.tok _,⟨_,rfl⟩,?_⟩;rw [hn];exact q
def oj (ds:List D):R D:=match ds with
 | [.lst xs]=>match mH xs with
  | some ys=>if ys.length<=1000 then .ok (.int ((dQ ys).length:Nat)) else .no
  | none=>.no
 | _=>.no
def EB {e:Expr} {p1 p2 pos1 pos:Pos} {α:FA} (hm1:X.mg "len"=none) (hm2:X.mg "set"=none) (ha:JA X [e] (tw W O α)) (hK:X.K=W.K:=by rfl) (hc:X.calm=true:=by rfl) (hg1:Gl X "len":=by rfl) (hg2:Gl X "set":=by rfl) (h1:aR e=true:=by rfl) :
  JE X (.Call (.Name "len" p1) [.Call (.Name "set" p2) [e] [] pos1] [] pos) (tD W O (ak oj α)) :=
 (JE.mk (Ee (p1:=p1) (p2:=p2) (pos1:=pos1) (pos:=pos) hc hm1 hm2 ha.out hg1 hg2 (b7 h1) rfl rfl rfl)).imp fun σ H Q hh=>g4 hh fun as0 B own δ I h=>⟨as0,B,own,δ,I,fe h fun ds xs H2 s2 d2 h2=>by
  unfold oj at h2;split at h2
  ·obtain ⟨v,rfl,d1⟩:=fF d2;obtain ⟨p,vs,rfl,q1,q2⟩:=d1;split at h2
   ·rename_i ys e;split at h2
    ·rename_i hl;refine ⟨p,ys,rfl,?_,hl,aP h2 rfl⟩;rw [<- qK q2 e,hK];exact (aQ _ _).seq q1
    ·exact h2.elim
   ·exact h2.elim
  ·exact h2.elim⟩
end
section
variable {X:Cx} {W:Wd} {O O' Ob:List Nat}
def B5 (xs:List V) (H:Hp) (Q:VK):Prop:=match xs with
 | [.int i]=>i.natAbs < 10 ^ 30/\Q (.str (Str.ofString (toString i))) H
 | _=>False
def Kk:bX X (.type "str") B5:=by
 intro af s σ H xs us Q I r h;unfold B5 at h;split at h
 ·rename_i i;obtain ⟨u,rfl,t,rfl⟩:=gM r;refine PySem.P.str_of_int ?_ ⟨.str _,H,I.tok _,⟨_,rfl⟩,h.2⟩;rcases Nat.eq_zero_or_pos i.natAbs with e|e
  ·rw [e];decide
  ·rw [Nat.log2_lt (by omega)];exact Nat.lt_of_lt_of_le h.1 (Nat.le_trans (by decide:10 ^ 30<=2 ^ 100) (Nat.pow_le_pow_right (by decide) (by decide)))
 ·exact h.elim
def Cw (ds:List D):R D:=match ds with
 | [.int i]=>if i.natAbs < 10 ^ 30 then .ok (.str (Str.ofString (toString i))) else .no
 | _=>.no
def T3:lH W B5 Cw:=by
 intro as H xs ds Q hn dv h;unfold Cw at h;split at h
 ·obtain ⟨v,rfl,d1⟩:=fF dv;cases d1;split at h
  ·rename_i hl;exact ⟨hl,aP h rfl⟩
  ·exact h.elim
 ·exact h.elim
def FD (xs:List V) (H:Hp) (Q:VK):Prop:=match xs with
 | [.str z]=>∃ n,intText? z=some n/\z.length<=640/\Q (.int n) H
 | _=>False
def Kz:bX X (.type "int") FD:=by
 intro af s σ H xs us Q I r h;unfold FD at h;split at h
 ·obtain ⟨u,rfl,t,rfl⟩:=gM r;obtain ⟨n,h1,h2,h3⟩:=h;exact PySem.W.KIN.call_text h1 h2 ⟨.int _,H,I.tok _,⟨_,rfl⟩,h3⟩
 ·exact h.elim
def qa (ds:List D):R D:=match ds with
 | [.str z]=>match intText? z with
  | some n=>if z.length<=640 then .ok (.int n) else .no
  | none=>.no
 | _=>.no
def KF:lH W FD qa:=by
 intro as H xs ds Q hn dv h;unfold qa at h;split at h
 ·obtain ⟨v,rfl,d1⟩:=fF dv;cases d1;split at h
  ·rename_i n e;split at h
   ·rename_i hl;exact ⟨n,e,hl,aP h rfl⟩
   ·exact h.elim
  ·exact h.elim
 ·exact h.elim
end
end L2
namespace L2
open PySem PySem.Builtin PySem.Builtin.Str PySem.StrLaws
def gp (y:List Nat):Nat->Nat->List Nat->List Nat
 | _,_,[]=>[]
 | k+1,i,_::r=>gp y k (i+1) r
 | 0,i,c::r=>if (c::r).take y.length=y then i::gp y (y.length - 1) (i+1) r else gp y 0 (i+1) r
def pE (y z:List Nat):Nat->List Nat->List Nat
 | _,[]=>[]
 | k+1,_::r=>pE y z k r
 | 0,c::r=>if (c::r).take y.length=y then z++pE y z (y.length - 1) r else c::pE y z 0 r
def CF (y:List Nat):∀ (k i:Nat) (R:List Nat),gp y k i R=gp y 0 (i+k) (R.drop k)
 | 0,i,R=>rfl
 | k+1,i,[]=>by simp [gp]
 | k+1,i,_::r=>by
  show gp y k (i+1) r=gp y 0 (i+(k+1)) (r.drop k);rw [CF y k (i+1) r];congr 1;omega
def zy (y z:List Nat):∀ (k:Nat) (R:List Nat),pE y z k R=pE y z 0 (R.drop k)
 | 0,R=>rfl
 | k+1,[]=>by simp [pE]
 | k+1,_::r=>by
  show pE y z k r=pE y z 0 (r.drop k);exact zy y z k r
def xA (x y:Str) (limit:Nat) (hy:0 < y.length):∀ (m i:Nat) (found:Array Nat) (free:Nat),m=x.length - i->i<=x.length->found.size+m < limit ->
  (forIn (List.range' i (x.length+1 - i)) (found,free) (occBody x y x.length limit)).run.fst.toList=found.toList++gp y.cps.toList (free - i) i (x.cps.toList.drop i)
 | 0,i,found,free,hm,hi,hl=>by
  have e:x.length+1 - i=1:=by omega
  have hn:x.cps.toList.drop i=[]:=by
   rw [List.drop_eq_nil_iff]
   have:x.cps.toList.length=x.length:=by simp [Str.length]
   omega
  rw [e,hn,List.range'_one,List.forIn_cons];unfold occBody;rw [if_neg (fun z=>by have:=z.1.2;omega)];simp [gp]
 | m+1,i,found,free,hm,hi,hl=>by
  have hlen:x.cps.toList.length=x.length:=by simp [Str.length]
  have hylen:y.cps.toList.length=y.length:=by simp [Str.length]
  have e:x.length+1 - i=(x.length+1 - (i+1))+1:=by omega
  have hil:i < x.cps.toList.length:=by omega
  rw [e,List.range'_succ,List.forIn_cons,List.drop_eq_getElem_cons hil];have hsub:subAt x y i=true ↔ (x.cps.toList[i]::x.cps.toList.drop (i+1)).take y.cps.toList.length=y.cps.toList:=by
   rw [subAt_eq,beq_iff_eq,List.drop_eq_getElem_cons hil,hylen]
  have hfit:subAt x y i=true->i+y.length<=x.length:=fun h=>by
   have h2:=congrArg List.length (hsub.mp h);rw [List.length_take,<- List.drop_eq_getElem_cons hil,List.length_drop,hylen] at h2;omega
  unfold occBody;by_cases hf:free<=i
  ·have ek:free - i=0:=by omega
   rw [ek];by_cases hs:subAt x y i=true
   ·rw [if_pos ⟨⟨⟨by show found.size < limit;omega,hf⟩,hfit hs⟩,hs⟩];have ih:=xA x y limit hy m (i+1) (found.push i) (i+y.length) (by omega) (by omega) (by rw [Array.size_push];omega);show (forIn (List.range' (i+1) (x.length+1 - (i+1))) (found.push i,i+y.length) (occBody x y x.length limit)).run.fst.toList=_;rw [ih,Array.toList_push];have eg:gp y.cps.toList 0 i (x.cps.toList[i]::x.cps.toList.drop (i+1))=i::gp y.cps.toList (y.cps.toList.length - 1) (i+1) (x.cps.toList.drop (i+1)):=by
     rw [gp,if_pos (hsub.mp hs)]
    rw [eg,hylen,show i+y.length - (i+1)=y.length - 1 by omega,List.append_assoc];rfl
   ·rw [if_neg (fun z=>hs z.2)];have ih:=xA x y limit hy m (i+1) found free (by omega) (by omega) (by omega);show (forIn (List.range' (i+1) (x.length+1 - (i+1))) (found,free) (occBody x y x.length limit)).run.fst.toList=_;have eg:gp y.cps.toList 0 i (x.cps.toList[i]::x.cps.toList.drop (i+1))=gp y.cps.toList 0 (i+1) (x.cps.toList.drop (i+1)):=by
     rw [gp,if_neg (fun z=>hs (hsub.mpr z))]
    rw [ih,eg,show free - (i+1)=0 by omega]
  ·obtain ⟨k,hk⟩:∃ k,free - i=k+1:=⟨free - i - 1,by omega⟩;rw [hk,if_neg (fun z=>hf z.1.1.2)];have ih:=xA x y limit hy m (i+1) found free (by omega) (by omega) (by omega);show (forIn (List.range' (i+1) (x.length+1 - (i+1))) (found,free) (occBody x y x.length limit)).run.fst.toList=_;rw [ih,show free - (i+1)=k by omega];rfl
def yN (a b:Str):(a++b).cps.toList=a.cps.toList++b.cps.toList:=by
 show (a.cps++b.cps).toList=_;simp
def A6 (x y z:Str) (hy:0 < y.length):∀ (m i a:Nat),m=x.length - i->a<=i ->
  (Str.join z (partsFrom x y.length a (gp y.cps.toList 0 i (x.cps.toList.drop i)))).cps.toList=(x.cps.toList.drop a).take (i - a)++pE y.cps.toList z.cps.toList 0 (x.cps.toList.drop i):=by
 intro m;induction m using Nat.strongRecOn with
 | ind m IH =>
  intro i a hm ha;have hlen:x.cps.toList.length=x.length:=by simp [Str.length]
  have hylen:y.cps.toList.length=y.length:=by simp [Str.length]
  rcases Nat.lt_or_ge i x.cps.toList.length with hil|hil
  ·have ed:=List.drop_eq_getElem_cons hil;by_cases hs:(x.cps.toList[i]::x.cps.toList.drop (i+1)).take y.cps.toList.length=y.cps.toList
   ·have eg:gp y.cps.toList 0 i (x.cps.toList[i]::x.cps.toList.drop (i+1))=i::gp y.cps.toList 0 (i+y.length) (x.cps.toList.drop (i+y.length)):=by
     rw [gp,if_pos hs,CF,List.drop_drop,hylen,show i+1+(y.length - 1)=i+y.length by omega]
    have er:pE y.cps.toList z.cps.toList 0 (x.cps.toList[i]::x.cps.toList.drop (i+1))=z.cps.toList++pE y.cps.toList z.cps.toList 0 (x.cps.toList.drop (i+y.length)):=by
     rw [pE,if_pos hs,zy,List.drop_drop,hylen,show i+1+(y.length - 1)=i+y.length by omega]
    have ih:=IH (x.length - (i+y.length)) (by omega) (i+y.length) (i+y.length) rfl (Nat.le_refl _);rw [Nat.sub_self,List.take_zero,List.nil_append] at ih;rw [ed,eg,er];obtain ⟨p,r,hp⟩:=partsFrom_ne x y.length (i+y.length) (gp y.cps.toList 0 (i+y.length) (x.cps.toList.drop (i+y.length)));have ej:Str.join z (partsFrom x y.length a (i::gp y.cps.toList 0 (i+y.length) (x.cps.toList.drop (i+y.length))))=strSub x a i++z++Str.join z (partsFrom x y.length (i+y.length) (gp y.cps.toList 0 (i+y.length) (x.cps.toList.drop (i+y.length)))):=by
     rw [partsFrom,hp];rfl
    rw [ej,yN,yN,ih,strSub_toList,List.append_assoc]
   ·have eg:gp y.cps.toList 0 i (x.cps.toList[i]::x.cps.toList.drop (i+1))=gp y.cps.toList 0 (i+1) (x.cps.toList.drop (i+1)):=by rw [gp,if_neg hs]
    have er:pE y.cps.toList z.cps.toList 0 (x.cps.toList[i]::x.cps.toList.drop (i+1))=x.cps.toList[i]::pE y.cps.toList z.cps.toList 0 (x.cps.toList.drop (i+1)):=by rw [pE,if_neg hs]
    have ih:=IH (x.length - (i+1)) (by omega) (i+1) a rfl (by omega);rw [ed,eg,er,ih];have et:(x.cps.toList.drop a).take (i+1 - a)=(x.cps.toList.drop a).take (i - a)++[x.cps.toList[i]]:=by
     rw [show i+1 - a=(i - a)+1 by omega,List.take_succ_eq_append_getElem (by rw [List.length_drop];omega)];congr 2;rw [List.getElem_drop];congr 1;omega
    rw [et,List.append_assoc];rfl
  ·have hn:x.cps.toList.drop i=[]:=List.drop_eq_nil_iff.mpr hil;rw [hn];show (strSub x a x.length).cps.toList=_;rw [strSub_toList];show _=(x.cps.toList.drop a).take (i - a)++[];rw [List.append_nil,List.take_of_length_le (by rw [List.length_drop];omega),List.take_of_length_le (by rw [List.length_drop];omega)]
def sC (x y z:Str) (hy:0 < y.length):(Txt.replace x y z).cps.toList=pE y.cps.toList z.cps.toList 0 x.cps.toList:=by
 have ho:occurrences x y 0 x.length (x.length+1)=gp y.cps.toList 0 0 x.cps.toList:=by
  rw [occ_eq]
  have:=xA x y (x.length+1) hy x.length 0 #[] 0 (by omega) (by omega) (by simp)
  simpa using this
 have hj:=A6 x y z hy x.length 0 0 (by omega) (Nat.le_refl _);rw [Nat.sub_self,List.take_zero,List.nil_append,List.drop_zero,<- ho] at hj;unfold Txt.replace;have hy0:(y.length==0)=false:=by simp;omega
 rw [hy0,Bool.false_and,Bool.or_false];by_cases he:(occurrences x y 0 x.length (x.length+1)).isEmpty=true
 ·rw [if_pos he,<- hj,List.isEmpty_iff.mp he];show _=(strSub x 0 x.length).cps.toList;rw [strSub_toList,List.drop_zero,List.take_of_length_le (by simp [Str.length])]
 ·rw [if_neg he,glued_eq_join,partsBetween_eq];exact hj
end L2
namespace L2
open PySem PySem.Spec PyProof.Rows
section
variable {X:Cx} {W:Wd} {O:List Nat} {φ:FE}
def Re (y w:Str) (to:TE):TE:=fun σ H Q=>to σ H fun x H1=>∃ z,x=.str z/\(y==w)=false/\z.length<=1000/\w.length<=10/\Q (.str (Txt.replace z y w)) H1
def AD {o:Expr} {to:TE} {y w:Str} {j1 j2:Nat} {p1 p2 apos cpos:Pos} (hX:1<=X.tn) (ho:PE X o to)
  (hbase:attributeBase o "replace" X.env (eval o X.env)=eval o X.env:=by rfl)
  (hfew:((backTo cpos (starEach [.Constant (.str y) j1 p1,.Constant (.str w) j2 p2] X.env)).all (fun x=>!x.1)&&(backToKw cpos (keywordEach [] X.env)).all (fun x=>x.1.isSome)
   && decide ([Expr.Constant (.str y) j1 p1,.Constant (.str w) j2 p2].length+([]:List Keyword).length+(if ([]:List Keyword).isEmpty then 0 else 1) < 30))=true:=by rfl)
  (hline:(apos.endLine==cpos.line)=true:=by rfl) :
  PE X (.Call (.Attribute o "replace" apos) [.Constant (.str y) j1 p1,.Constant (.str w) j2 p2] [] cpos) (Re y w to):=by
 intro af s σ H Q I h;refine wpAny_Call_method_late hbase hfew hline rfl (eB (ho af s σ H _ I h) fun v s1 hh=>mP hh fun x H1 I1 r1 q1=>?_);obtain ⟨z,rfl,h1,h2,h3,q⟩:=q1;obtain ⟨tk,rfl⟩:=r1;refine ⟨"str","str.replace",PySem.F.plainAttrs_str,PySem.F.slot_str_replace,PySem.F.type_str_replace,typeIs_str s1 z tk,(fun _ e=>nomatch e),?_⟩
 refine Calls.callWith_builtin rfl (Calls.evalArgs_plain ?_);have ht:1<=s1.toks:=Nat.le_trans hX I1.tk;refine Calls.spliced_cons (Calls.Constant_str (k:=j1) (pos:=p1) (Calls.spliced_cons (Calls.Constant_str (k:=j2) (pos:=p2) (Calls.spliced_nil ?_))));refine bf (n:=X.tn) (by walk_at "tok") (SC.replaceW (by show s1.toks≠0;omega) (by show s1.toks+1≠0;omega) (by show s1.toks≠s1.toks+1;omega) h1 (by omega) (by omega) fun t' k htk=>?_);have I2:=(I1.tok (s1.toks+1)).tok (s1.toks+1+1);exact ⟨.str _,H1,I1.tok k,⟨t',rfl⟩,q⟩
def qg (y w:Str) (d:D):R D:=match d with
 | .str z=>if (y==w)=false/\z.length<=1000/\w.length<=10 then .ok (.str (Txt.replace z y w)) else .no
 | _=>.no
def re {o:Expr} {y w:Str} {j1 j2:Nat} {p1 p2 apos cpos:Pos} (hX:1<=X.tn) (ho:JE X o (tD W O φ))
  (hbase:attributeBase o "replace" X.env (eval o X.env)=eval o X.env:=by rfl) (hline:(apos.endLine==cpos.line)=true:=by rfl) :
  JE X (.Call (.Attribute o "replace" apos) [.Constant (.str y) j1 p1,.Constant (.str w) j2 p2] [] cpos) (tD W O (L4 (qg y w) φ)) :=
 (JE.mk (AD (y:=y) (w:=w) (j1:=j1) (j2:=j2) (p1:=p1) (p2:=p2) (apos:=apos) (cpos:=cpos) hX ho.out hbase rfl hline)).imp fun σ H Q hh=>g4 hh fun as0 B own δ I h=>⟨as0,B,own,δ,I,bG h fun x v H1 s1 d1 h1=>by
  unfold qg at h1;split at h1
  ·cases d1;split at h1
   ·rename_i hl;exact ⟨_,rfl,hl.1,hl.2.1,hl.2.2,aP h1 rfl⟩
   ·exact h1.elim
  ·exact h1.elim⟩
end
section
variable {M:Model} {A:Around} {E:Value->Shared->Prop} {s₀ s:Shared} {m cm:Str->Option Value} {env:Env}
def Fu {n:Str} {v:Value} {Q:Unit->Shared->Prop} (x:InCallC s₀ env.locals m env.cells cm s) (hk:env.scope.kind=.function) (hl:env.kindOf n=some .local)
  (h:∀ s',InCallC s₀ env.locals (fun y=>if y=n then some v else m y) env.cells cm s'->1<=s'.toks->Q () s'):wpAny M A (storeName env n v) Q E s:=by
 refine wpAny_storeName_local hl x.toInCall.ns (fun h' hn' hs'=>h _ ⟨⟨?_,hn',fun b o e=>?_,x.toInCall.fresh⟩,fun k c hc=>?_,x.apart,x.above⟩ (Nat.succ_le_succ (Nat.zero_le _))) (by rw [hk];rfl)
 ·obtain ⟨h₁,tk,rfl⟩:=x.toInCall.same;exact ⟨h',_,rfl⟩
 ·exact hs'.extBut b o (Nat.ne_of_lt (Nat.lt_of_lt_of_le (Heap.lt_size e) x.toInCall.fresh)) (x.toInCall.keep b o e)
 ·exact (x.cell k c hc).sameBut hs' (Nat.ne_of_gt (x.above k c (mem_of_lookup hc)))
def uY (f:Str×Value->PUnit->Sem (ForInStep PUnit)) (hf:∀ n v u,f (n,v) u=(do storeName env n v;pure (.yield ⟨⟩))) (hk:env.scope.kind=.function) {n:Str} {v:Value} {r:List (Str×Value)} {Q:PUnit->Shared->Prop}
  (x:InCallC s₀ env.locals m env.cells cm s) (hl:env.kindOf n=some .local) (hr:∀ x∈r,env.kindOf x.1=some .local\/(env.kindOf x.1=some .cell/\(env.cells.lookup x.1).isSome=true))
  (h:∀ s',InCallC s₀ env.locals (bindL env.kindOf ((n,v)::r) m) env.cells (bindC env.kindOf ((n,v)::r) cm) s'->1<=s'.toks->Q ⟨⟩ s'):wpAny M A (forIn ((n,v)::r) ⟨⟩ f) Q E s:=by
 rw [List.forIn_cons,hf];refine wpAny_bind (wpAny_bind (Fu x hk hl fun s' x' ht=>wpAny_pure (bf ht (wpAny_bindParams f hf hk r _ _ s' _ x' hr fun s'' x'' ht'=>h s'' ?_ ht'))));unfold bindL bindC;rw [if_pos hl,if_pos hl];exact x''
def A8 {scope:Scope} {globals:Addr} {n:Str} {v:Value} {r:List (Str×Value)} {qual:Str} {func:Option Addr} {code:Value} {builtins:Addr} {Q:Env->Shared->Prop}
  (hk:scope.kind=.function) (hl:scope.names.lookup n=some .local)
  (hkind:∀ x∈r,scope.names.lookup x.1=some .local\/(scope.names.lookup x.1=some .cell/\((cellsFrom (s.heap.objs.size+1) scope.names []).lookup x.1).isSome=true))
  (hQ:∀ env,env=newEnv scope s.heap.objs.size globals (cellsFrom (s.heap.objs.size+1) scope.names []) qual func code none builtins ->
   ∀ s',InCallC s env.locals (bindL env.kindOf ((n,v)::r) fun _=>none) env.cells (bindC env.kindOf ((n,v)::r) fun _=>none) s'->1<=s'.toks->Q env s') :
  wpAny M A (newFunctionEnv scope globals [] ((n,v)::r) qual func code none builtins) Q E s:=by
 simp only [newFunctionEnv,Option.isSome_none,Bool.false_eq_true,if_false];refine wpAny_bind (wpAny_alloc ?_);refine wpAny_bind (wpAny_layCells _ (fun name kind cells=>by cases hkc:kind==NameKind.cell <;> simp [hkc]) _ _ _ _ ?_);have ok:=cellsFrom_ok scope.names (s.heap.push { cls:=.type "frame",data:=.dict #[] }) (s.heap.objs.size+1) [] ⟨fun _ _ hm=>(nomatch hm),List.Pairwise.nil⟩ (by rw [Heap.size_push];exact Nat.le_refl _)
 rw [Heap.size_push] at ok;rw [show ({ s with heap:=s.heap.push { cls:=.type "frame",data:=.dict #[] } }:Shared).heap.objs.size=s.heap.objs.size+1 from Heap.size_push ..];refine wpAny_bind (uY (s₀:=s) (env:=newEnv scope s.heap.objs.size globals (cellsFrom (s.heap.objs.size+1) scope.names []) qual func code none builtins)
  _ (fun _ _ _=>rfl) hk (m:=fun _=>none) (cm:=fun _=>none)
  ⟨⟨⟨_,_,rfl⟩,(Heap.Ns.new s.heap (.type "frame")).keeps (pushCells_keeps _ _),fun b o e=>pushCells_keeps _ _ b o (Heap.get?_push_of_some _ e),Nat.le_refl _⟩,
   fun n c hc=>(ok.empty n c (mem_of_lookup hc)).1,ok.apart,fun n c hm=>(ok.empty n c hm).2⟩
  hl hkind fun s' x ht=>wpAny_pure (hQ _ rfl s' x ht))
end
abbrev Cx.up (X:Cx) (n:Nat):Cx:={ X with tn:=n }
def Cx.Ok.up {X:Cx} {n:Nat} (ok:X.Ok):(X.up n).Ok :=
 ⟨ok.mod,ok.kind,ok.glob,ok.blt,ok.above,ok.inj,ok.has,ok.cab,ok.hd,ok.frames,ok.stk,ok.exf,ok.bs,ok.bsz,ok.noex,ok.exfs,ok.funs,ok.frf⟩
def Inv.up {X:Cx} {af:List (Addr×Obj)} {σ:St} {H:Hp} {s:Shared} {n:Nat} (I:Inv X af σ H s) (h:n<=s.toks):Inv (X.up n) af σ H s:=⟨I.ok.up,I.os,I.bare,I.base,I.loc,I.cell,I.free,I.freeC,I.pin,I.hok,I.len,h⟩
def Gh {CX:yJ} {P:Program} {w:World} {K:PySem.W.Frag} {mg:Str->Option Value} {base:Heap} {k:Nat} {f:Addr} {name qual:Str} {params:Arguments} {body:List Stmt} {scope:Scope} {dV kV doc pm cdv ct oc:Value} {an od:Option Addr}
  {osl:Array (Option Value)} {N ps:List Str} {sp:Sp} (lk:K.lookup f=some ⟨oc,od,.func (PySem.W.fnOf name qual params body scope dV kV doc pm an cdv ct),osl⟩) (hcd:PySem.W.codeIn K cdv qual=true) (S:FnScope N ps scope)
  {p0:Str} {pr:List Str} (hp:ps=p0::pr) (hl0:scope.names.lookup p0=some .local)
  (len:∀ vs H Q E,sp vs H Q E->vs.length=ps.length)
  (hbody:∀ (A:Around) (outer:List Env) (s:Shared) (H:Hp) (vs:List V) (Q:VK) (E:XK),Room k (A.deeper (envOfC qual scope s.heap.objs.size f cdv))->sp vs H Q E ->
   ∃ t,Ag ((lc CX P w K mg base N qual scope f cdv A outer s H E).up 1) body t/\t { nx:=fun _ H'=>Q .non H',rt:=Q } (start N vs) H) :
  FnOk P w K mg base CX (k+1) f (PySem.W.fnOf name qual params body scope dV kV doc pm an cdv ct) ps sp:=by
 subst hp;refine ⟨len,fun A outer s H args us vs Q E hr e0 hb r hsp=>?_⟩;have hl:=len _ _ _ _ hsp;have KX:K.In s.heap:=e0.mod.kin.keeps fun b o e=>(e0.bs b o e).1;have lim:s.heap.NoLimit:=e0.mod.nolimit.keeps fun b o e=>(e0.bs b o e).1;have hkind:∀ y∈(p0::pr).zip us,scope.names.lookup y.1=some .local\/(scope.names.lookup y.1=some .cell/\((cellsFrom (s.heap.objs.size+1) scope.names []).lookup y.1).isSome=true):=fun ⟨n,v⟩ hy=>by
  rcases S.par n (List.of_mem_zip hy).1 with q|q
  ·exact .inl q
  ·exact .inr ⟨q,PySem.W.cellsFrom_some _ _ _ (.inl q)⟩
 have hul:us.length=(p0::pr).length:=by rw [<- r.length];exact hl
 obtain ⟨u0,ur,rfl⟩:∃ u0 ur,us=u0::ur:=by
  cases us with
  | nil=>simp at hul
  | cons u0 ur=>exact ⟨u0,ur,rfl⟩
 refine codeAny_call_function hr.depth (KX _ _ lk) rfl S.co S.gen rfl (PySem.W.codeRec_of KX hcd) (hb _ _ _ _ ?_);refine A8 (n:=p0) (v:=u0) (r:=pr.zip ur) S.kind hl0 (fun y hy=>hkind y (List.mem_cons_of_mem _ hy)) fun env he s1 x ht=>?_;subst he;refine ⟨lim.keeps x.toInCall.keep,codeAny_func ?_⟩;obtain ⟨t,ht',hq⟩:=hbody A outer s H vs Q E (hr.deeper _) hsp;have I:Inv ((lc CX P w K mg base N qual scope f cdv A outer s H E).up 1) [] (start N vs) H s1:=(rN S hr.hd e0 hl r x).up ht;refine wpAny_mono (ht' [] s1 (start N vs) H _ I hq) (fun fl s' hs=>?_) fun e s' hs=>hs;have fin:∀ {σ':St} {H':Hp} {v:V} {u:Value},Inv ((lc CX P w K mg base N qual scope f cdv A outer s H E).up 1) [] σ' H' s'->bw v u->Q v H'->CE outer P w H s Q u s' :=
  fun {σ' H' v u} J rv q=>⟨v,H',J.os,J.bare,J.base,J.hok,rv,q⟩
 cases fl with
 | ret u =>
  obtain ⟨v,σ',H',J,rv,q⟩:=hs;exact fin J rv q
 | next =>
  obtain ⟨σ',H',J,q⟩:=hs;exact fin (v:=V.non) (u:=Value.none) J rfl q
 | brk =>
  obtain ⟨_,_,_,q⟩:=hs;exact False.elim q
 | cont =>
  obtain ⟨_,_,_,q⟩:=hs;exact False.elim q
section
variable {P:Program} {w:World} {K:PySem.W.Frag} {mg:Str->Option Value} {base:Heap}
def Fun.okJ1 {x qual:Str} {st:Stmt} {f:Addr} {fd:FuncData} {N ps:List Str} {k:Nat} {sp:Sp} (F:Fun K x qual st f fd) (S:FnScope N ps (ap st)) {p0:Str} {pr:List Str} (hp:ps=p0::pr) (hl0:(ap st).names.lookup p0=some .local) (len:∀ vs H Q E,sp vs H Q E->vs.length=ps.length)
  (hbody:∀ (cdv:Value) (A:Around) (outer:List Env) (s:Shared) (H:Hp) (vs:List V) (Q:VK) (E:XK),Room k (A.deeper (envOfC qual (ap st) s.heap.objs.size f cdv))->sp vs H Q E ->
   ∃ t,JB ((lc gW P w K mg base N qual (ap st) f cdv A outer s H E).up 1).nox (cR st) t/\t { nx:=fun _ H'=>Q .non H',rt:=Q } (start N vs) H):FnOk P w K mg base gW (k+1) f fd ps sp:=by
 obtain ⟨oc,od,kV,doc,pm,an,cdv,ct,osl,rfl,lk,hcd⟩:=F.ex;refine Gh lk hcd S hp hl0 len fun A outer s H vs Q E hr hsp=>?_;obtain ⟨t,h,q⟩:=hbody cdv A outer s H vs Q E hr hsp;exact ⟨t,h.out.nox,q⟩
def Fun.okD1 {x qual:Str} {st:Stmt} {f:Addr} {fd:FuncData} {N ps:List Str} {k:Nat} {φ:FS} {O':List Nat} (F:Fun K x qual st f fd) (S:FnScope N ps (ap st)) {p0:Str} {pr:List Str} (hp:ps=p0::pr) (hl0:(ap st).names.lookup p0=some .local)
  (hbody:∀ (cdv:Value) (A:Around) (outer:List Env) (s:Shared) (H:Hp) (E:XK),Room k (A.deeper (envOfC qual (ap st) s.heap.objs.size f cdv)) ->
   JB ((lc gW P w K mg base N qual (ap st) f cdv A outer s H E).up 1).nox (cR st) (sD ⟨K,mg,E0⟩ [] [] O' φ)):FnOk P w K mg base gW (k+1) f fd ps (jH K mg (bM φ N ps)):=by
 refine F.okJ1 S hp hl0 (fun vs H Q E h=>?_) fun cdv A outer s H vs Q E hr h=>?_
 ·obtain ⟨as,ds,ex,dv,h⟩:=h;unfold bM at h;split at h
  ·rename_i hl;rw [<- dv.len];exact hl
  ·exact h.elim
 ·obtain ⟨as,ds,ex,dv,h⟩:=h;unfold bM at h;split at h
  ·rename_i hl;refine ⟨_,hbody cdv A outer s H E hr,as,H,[],hU N ds,⟨?_,rfl,List.nodup_nil,List.nodup_nil,fun a ha=>(nomatch ha),ex,aD.refl _,fun i d _ e=>?_,fun i a h=>(by simp at h)⟩,?_⟩
   ·unfold hU start;simp [dv.len]
   ·unfold hU at e;unfold start;rw [<- dv.len];exact pq dv e
   ·cases hr:φ (hU N ds) with
    | ok fl =>
     rw [hr] at h;cases fl with
     | rt d=>exact fun v H' s dv'=>h v H' s dv'
     | rn d=>exact fun p o H' s hp e od=>h (.ref p) H' s (od.den (fun z=>ex p z hp) e)
     | nx δ=>exact fun own σ H' I=>h .non H' I.same rfl
     | bk δ=>exact h.elim
     | ct δ=>exact h.elim
    | er x=>rw [hr] at h;exact fun e C H' s=>h e C H' s
    | no=>rw [hr] at h;exact h.elim
  ·exact h.elim
end
section
variable {X:Cx} {W:Wd} {Ob O:List Nat} {e f:Expr} {ε φ ψ:FE} {pos p1 p2 apos cpos:Pos} {x:Str}
def Fd (K:PySem.W.Frag) {i:Nat} (hi:i∈O) (hm:X.mg "tuple"=none) (hN:X.N[i]?=some x:=by rfl) (hg:Gl X "tuple":=by rfl) (hv:Em X.env.scope x:=by first|exact Or.inl rfl|exact Or.inr (Or.inl rfl)|exact Or.inr (Or.inr rfl)) (hd:(x==("__debug__":Str))=false:=by decide)
  (hcd:(x==("__classdict__":Str))=false:=by decide) (hK:X.K=K:=by rfl) (hW:W.K=K:=by rfl):JE X (.Call (.Name "tuple" p2) [.Name x p1] [] pos) (tD W O (ak rM (ac (ae i) aj))) :=
 (B1 (AR K hK) hm ly (tz (jv i hN hv hd hcd) yC) hg).imp fun σ H Q hh=>g4 hh fun as0 B own δ I h=>by
  obtain ⟨a,ha⟩:=nh I.olen hi;obtain ⟨d,o,h1,h2,h3,h4⟩:=I.owns i a ha;show El σ[i]? H (fun v H1=>yi K [v] H1 Q);rw [h2];have hv:ae i δ=.ok d:=by unfold ae;rw [h1]
  have h':dJ W (own++as0) H (rM [d]) Q:=by
   have e:ak rM (ac (ae i) aj) δ=rM [d]:=by unfold ak ac aj;rw [hv];rfl
   rw [<- e];exact h
  cases d with
  | lst ds =>
   obtain ⟨xs,rfl,q⟩:=h4;refine .inl ⟨xs,jl.of h3,fun l hl=>?_⟩;have hn:=I.new hl;exact h' _ _ (bo hl _) ⟨l,xs,rfl,.inl (.inl (by rw [bp hn];exact br)),q.mono (a8 (bo hl _))⟩
  | _=>first|exact h4.elim|exact h'.elim
end
section
variable {X:Cx} {W:Wd} {O:List Nat}
def Bs (z y:Str):Int:=match Builtin.Str.occurrences z y 0 z.length 1 with
 | i::_=>(i:Int)
 | []=>-1
def Iv:HK X "str.find" (Hr fun x y=>.int (Bs x y)):=by
 intro af s σ H z t xs us Q I r h;unfold Hr at h;split at h
 ·obtain ⟨u,rfl,t',rfl⟩:=gM r;exact call_gives PySem.F.slot_str_find (typeIs_str _ _ _) PySem.F.entry_str_find (PySem.F.args_str_find_2 _ _) (gives_str_find z _ t t') ⟨.int _,H,I.tok _,⟨_,rfl⟩,h⟩
 ·exact h.elim
def OH:KT W (Hr fun x y=>.int (Bs x y)) (uf fun x y=>.int (Bs x y)):=by
 intro as H z xs ds Q hn dv h;unfold uf at h;split at h
 ·obtain ⟨v,rfl,d1⟩:=fF dv;cases d1;exact aP h rfl
 ·exact h.elim
def oP:∀ (l:List (Str×Tok)),bC (l.map fun p=>V.str p.1) (strValues l)
 | []=>.nil
 | p::r=>.cons ⟨p.2,rfl⟩ (oP r)
def BH (z:Str) (xs:List V) (H:Hp) (Q:VK):Prop:=match xs with
 | [.str y]=>(y.length==0)=false/\z.length<=1000000/\∀ l,H l=none->Q (.ref l) (dE H l (.lst ((Txt.split z y).map V.str)))
 | _=>False
def split_len (x y:Str):(Builtin.Str.partsBetween x (Builtin.Str.occurrences x y 0 x.length (x.length+1)) y.length).length<=x.length+2:=by
 have e1:=StrLaws.occ_length_le x y 0 x.length (x.length+1);rw [length_partsBetween];omega
def vK (x y:Str):(Txt.split x y).length<=x.length+2:=by
 unfold Txt.split;split
 ·simp
 ·split
  ·simp
  ·exact split_len x y
def zC:HK X "str.split" BH:=by
 intro af s σ H z t xs us Q I r h;unfold BH at h;split at h
 case h_2=>exact h.elim
 rename_i y;obtain ⟨u,rfl,t',rfl⟩:=gM r;obtain ⟨hy,hz,q⟩:=h;have hsz:z.length+2<=sizeLine:=by rw [sizeLine_eq];omega
 have hn:=split_len z y;have hl2:=vK z y;have key:∀ (l:List (Str×Tok)) (k:Nat),l.map (·.1)=Txt.split z y->X.tn<=k ->
   EP X af σ Q (.ref s.heap.objs.size) { s with heap:=s.heap.push { cls:=.type "list",data:=.seq (strValues l).toArray },toks:=k }:=fun l k e hk=>by
  have e2:l.map (fun p=>V.str p.1)=(Txt.split z y).map V.str:=by rw [<- e,List.map_map];rfl
  refine ⟨.ref _,_,I.laid (t':=k) (o:=.lst ((Txt.split z y).map V.str)) (fun b o e=>Heap.get?_push_of_some _ e) (Nat.le_refl _) ⟨by rw [List.length_map];omega,strValues l,_,by rw [<- e2];exact oP l,Heap.get?_push_size _ rfl⟩ hk,rfl,q _ (I.hok.fresh (Nat.le_refl _))⟩
 cases h1:(decide (z.length < y.length)||decide (Builtin.Str.strKind z < Builtin.Str.strKind y))
 ·cases hf:(Builtin.Str.occurrences z y 0 z.length (z.length+1)).isEmpty
  ·refine call_meets PySem.F.slot_str_split (typeIs_str _ _ _) PySem.F.entry_str_split (PySem.F.args_str_split_2 _ _) (meets_str_split_sep z y t t' h1 hy hf (by omega) (by omega)) ?_;show EP X af σ Q _ { s with toks:=_,heap:=s.heap.push { cls:=.type "list",data:=.seq (strsFrom s.toks (Builtin.Str.partsBetween z (Builtin.Str.occurrences z y 0 z.length (z.length+1)) y.length)).toArray } };rw [strsFrom_eq];exact key (numbered s.toks _) _ ((numbered_texts _ _).trans ((if_neg (ne_true_of_eq_false h1)).trans (if_neg (ne_true_of_eq_false hf))).symm) (Nat.le_trans I.tk (Nat.le_add_right _ _))
  ·exact call_meets PySem.F.slot_str_split (typeIs_str _ _ _) PySem.F.entry_str_split (PySem.F.args_str_split_2 _ _) (meets_str_split_not_found z y t t' h1 hy hf)
    (key [(z,t)] s.toks ((if_neg (ne_true_of_eq_false h1)).trans (if_pos hf)).symm I.tk)
 ·exact call_meets PySem.F.slot_str_split (typeIs_str _ _ _) PySem.F.entry_str_split (PySem.F.args_str_split_2 _ _) (meets_str_split_cannot_occur z y t t' h1)
   (key [(z,t)] s.toks (if_pos h1).symm I.tk)
def m7 (z:Str) (ds:List D):R D:=match ds with
 | [.str y]=>if (y.length==0)=false/\z.length<=1000000 then .ok (.lst ((Txt.split z y).map D.str)) else .no
 | _=>.no
def wu {K:PySem.W.Frag} {H:Hp}:∀ zs:List Str,aX K H (zs.map D.str) (zs.map V.str)
 | []=>rfl
 | z::r=>⟨_,_,rfl,rfl,wu r⟩
def F1:KT W BH m7:=by
 intro as H z xs ds Q hn dv h;unfold m7 at h;split at h
 ·obtain ⟨v,rfl,d1⟩:=fF dv;cases d1;split at h
  ·rename_i hy;exact ⟨hy.1,hy.2,fun l hl=>h _ _ (bo hl _) ⟨l,_,rfl,.inl (.inl (by rw [bp (hn l hl)];exact br)),wu _⟩⟩
  ·exact h.elim
 ·exact h.elim
def L7 (z:Str) (xs:List V) (H:Hp) (Q:VK):Prop:=match xs with
 | [.str y]=>(y.length==0)=false/\z.length<=1000000/\∀ l,H l=none->Q (.ref l) (dE H l (.tup [.str (Txt.partition z y).1,.str (Txt.partition z y).2.1,.str (Txt.partition z y).2.2]))
 | _=>False
def pY:HK X "str.partition" L7:=by
 intro af s σ H z t xs us Q I r h;unfold L7 at h;split at h
 case h_2=>exact h.elim
 rename_i y;obtain ⟨u,rfl,t',rfl⟩:=gM r;obtain ⟨hy,hz,q⟩:=h;have key:∀ (ta tb tc:Tok) (k:Nat),X.tn<=k->EP X af σ Q (.ref s.heap.objs.size)
   { s with heap:=s.heap.push { cls:=.type "tuple",data:=.seq [.str (Txt.partition z y).1 ta,.str (Txt.partition z y).2.1 tb,.str (Txt.partition z y).2.2 tc].toArray },toks:=k }:=fun ta tb tc k hk=>by
  refine ⟨.ref _,_,I.laid (t':=k) (o:=.tup [.str (Txt.partition z y).1,.str (Txt.partition z y).2.1,.str (Txt.partition z y).2.2]) (fun b o e=>Heap.get?_push_of_some _ e) (Nat.le_refl _) ⟨by rw [sizeLine_eq];exact Nat.le_trans (show 3<=1000 by decide) (by decide),[.str (Txt.partition z y).1 ta,.str (Txt.partition z y).2.1 tb,.str (Txt.partition z y).2.2 tc],.cons ⟨ta,rfl⟩ (.cons ⟨tb,rfl⟩ (.cons ⟨tc,rfl⟩ .nil)),IsTup.new _ _⟩ hk,rfl,q _ (I.hok.fresh (Nat.le_refl _))⟩
 have hsz:z.length<=sizeLine:=by rw [sizeLine_eq];omega
 refine call_meets PySem.F.slot_str_partition (typeIs_str _ _ _) PySem.F.entry_str_partition (PySem.F.args_str_partition_2 _ _) (meets_str_partition z y t t' hy hsz) ?_;have h1:=Nat.le_trans I.tk (Nat.le_add_right s.toks 1);have h2:=Nat.le_trans I.tk (Nat.le_add_right s.toks 2);revert key
 unfold Txt.partition;cases Builtin.Str.occurrences z y 0 z.length 1 with
 | nil=>intro key;exact key _ _ _ _ h1
 | cons i r=>intro key;exact key _ _ _ _ h2
def sd (z:Str) (ds:List D):R D:=match ds with
 | [.str y]=>if (y.length==0)=false/\z.length<=1000000 then .ok (.tup [.str (Txt.partition z y).1,.str (Txt.partition z y).2.1,.str (Txt.partition z y).2.2]) else .no
 | _=>.no
def Kv:KT W L7 sd:=by
 intro as H z xs ds Q hn dv h;unfold sd at h;split at h
 ·obtain ⟨v,rfl,d1⟩:=fF dv;cases d1;split at h
  ·rename_i hy;exact ⟨hy.1,hy.2,fun l hl=>h _ _ (bo hl _) ⟨l,_,rfl,.inl (.inl (by rw [bp (hn l hl)];exact br)),aX.cons rfl (aX.cons rfl (aX.cons rfl aX.nil))⟩⟩
  ·exact h.elim
 ·exact h.elim
def Fr (xs:List V) (H:Hp) (Q:VK):Prop:=match xs with
 | [.str z]=>Q (.str z) H
 | xs=>B5 xs H Q
def FW:bX X (.type "str") Fr:=by
 intro af s σ H xs us Q I r h;unfold Fr at h;split at h
 ·obtain ⟨u,rfl,t,rfl⟩:=gM r;exact PySem.P.str_of_str ⟨.str _,H,I,⟨_,rfl⟩,h⟩
 ·exact Kk af s σ H xs us Q I r h
def p5 (ds:List D):R D:=match ds with
 | [.str z]=>.ok (.str z)
 | [.int i]=>if i.natAbs < 10 ^ 30 then .ok (.str (Str.ofString (toString i))) else .no
 | _=>.no
def Gy:lH W Fr p5:=by
 intro as H xs ds Q hn dv h;unfold p5 at h;split at h
 ·obtain ⟨v,rfl,d1⟩:=fF dv;cases d1;exact aP h rfl
 ·obtain ⟨v,rfl,d1⟩:=fF dv;cases d1;split at h
  ·rename_i hl;exact ⟨hl,aP h rfl⟩
  ·exact h.elim
 ·exact h.elim
end
def UF (lo c:Int) (n:Nat):It:=⟨fun i _=>i < n,fun i H x H'=>H'=H/\x=.int (lo+(i:Nat)*c),fun i _=>n<=i⟩
def Dx {P:Program} {w:World} {K:PySem.W.Frag} {tg:Expr} (it:Addr) (lo c:Int) (n:Nat):Turn P w K tg (UF lo c n) [it] it (fun i h=>IsRangeIter h it (lo+(i:Nat)*c) ((n:Int) - (i:Nat)) c) where
 mem:=by simp
 obj:=fun i h st b hb=>by
  have e:b=it:=by simpa using hb
  subst e;exact ⟨_,st,fun v z=>by
   have z':Data.fields _=Data.cell v:=z;cases z'⟩
 keep:=fun i h h' st k=>k it (by simp) _ st
 item:=by
  intro X hP hw hK hc i af s σ H E I hf st hg;subst hP hw hK;obtain ⟨f0,f1,f2,f3,f4,f5⟩:=hf it (by simp);have W:=Walks.range (prog:=X.prog) (w:=X.w) (I.ok.hd hc) it lo c n;refine bf I.tk (W.item i s _ _ hg st fun v h' tk hv st' kk htk=>?_);obtain ⟨t,rfl⟩:=hv;have I1:Inv X af σ H { s with heap:=h',toks:=tk }:=I.turned (fun b o hb e=>kk b o (by simpa using hb) e) f0 f1 f3 f4 f5;exact ⟨_,rfl,z8 (s:={ s with heap:=h',toks:=tk }) (n:="range_iterator") st' rfl rfl (by decide) ⟨.int (lo+(i:Nat)*c),H,I1,⟨t,rfl⟩,⟨rfl,rfl⟩,st',fun b hb=>(hf b hb).1⟩⟩
 done:=by
  intro X hP hw hK hc i af s σ H E I hf st hg;subst hP hw hK;obtain ⟨f0,f1,f2,f3,f4,f5⟩:=hf it (by simp);exact wpAny_pyNext_range_end (I.ok.hd hc) st (by have:n<=i:=hg;omega) fun h' eb=>⟨rfl,I.turned (t':=s.toks) (fun b o hb e=>eb b o hb e) f0 f1 f3 f4 f5⟩
 self:=fun _ _ _ _ _ st h=>wpAny_pyIter_rangeiter st h
def mY (lo hi c:Int):Nat:=(Builtin.Range.rangeSize lo hi c).toNat
def Ea {lo hi c:Int} (hc:0 < c):((mY lo hi c:Nat):Int)=Builtin.Range.rangeSize lo hi c:=by
 unfold mY
 have:0<=Builtin.Range.rangeSize lo hi c:=by
  unfold Builtin.Range.rangeSize;rw [if_pos hc];split
  ·have:=Int.ediv_nonneg (a:=hi - lo - 1) (b:=c) (by omega) (by omega)
   omega
  ·omega
 omega
section
variable {X:Cx} {tg:Expr} {W:Wd} {O:List Nat}
def Ba {a b c:Int} (ha:-(2 ^ 40)<=a) (ha':a < 2 ^ 40) (hb:-(2 ^ 40)<=b) (hb':b < 2 ^ 40) (hc:0 < c) (hc':c<=1000):Builtin.Range.small a b c=true:=by
 unfold Builtin.Range.small Builtin.Range.rangeSize;simp only [Builtin.Range.rangeFitsLong,Bool.and_eq_true,Bool.or_eq_true,decide_eq_true_eq,beq_iff_eq,if_pos hc];split
 ·have h1:=Int.ediv_nonneg (a:=b - a - 1) (b:=c) (by omega) (by omega);have h2:(b - a - 1)/c<=b - a - 1:=Int.ediv_le_self _ (by omega);omega
 ·omega
def Ij {af:List (Addr×Obj)} {σ:St} {H:Hp} {s:Shared} {R:It->Hp->Prop} {E:Value->Shared->Prop} {lo hi c:Int} {t u v:Tok} {tk:Nat} (I:Inv X af σ H s) (h1:-(2 ^ 40)<=lo) (h2:lo < 2 ^ 40) (h3:-(2 ^ 40)<=hi) (h4:hi < 2 ^ 40) (hc:0 < c) (hc':c<=1000)
  (q:R (UF lo c (mY lo hi c)) H) (ht:X.tn<=tk:=by walk_at "tok"):wpAny (model X.prog X.w) X.A (pyIter (.ref s.heap.objs.size)) (Wa X af σ tg R) E { s with heap:=s.heap.push { cls:=.type "range",data:=.fields #[.int lo t,.int hi u,.int c v] },toks:=tk }:=by
 refine wpAny_pyIter_range (IsRange.new ..) (Ba h1 h2 h3 h4 hc hc') ?_;have I1:Inv X af σ H { s with heap:=s.heap.push { cls:=.type "range",data:=.fields #[.int lo t,.int hi u,.int c v] },toks:=tk }:=I.kept fun b o e=>Heap.get?_push_of_some _ e;refine ⟨(s.heap.push { cls:=.type "range",data:=.fields #[.int lo t,.int hi u,.int c v] }).objs.size,[(s.heap.push { cls:=.type "range",data:=.fields #[.int lo t,.int hi u,.int c v] }).objs.size],_,_,H,rfl,
  I1.kept (t':=tk) fun b o e=>Heap.get?_push_of_some _ e,Dx _ lo c (mY lo hi c),?_,fun b hb=>?_,q⟩
 ·have e1:lo+((0:Nat):Int)*c=lo:=by simp
  have e2:((mY lo hi c:Nat):Int) - ((0:Nat):Int)=Builtin.Range.rangeSize lo hi c:=by rw [Ea hc];simp
  show IsRangeIter _ _ (lo+((0:Nat):Int)*c) (((mY lo hi c:Nat):Int) - ((0:Nat):Int)) c;rw [e1,e2];exact Heap.get?_push_size _ rfl
 ·have e:b=(s.heap.push { cls:=.type "range",data:=.fields #[.int lo t,.int hi u,.int c v] }).objs.size:=by simpa using hb
  subst e;exact I1.fpOk (Nat.le_refl _) (I1.hok.fresh (Nat.le_refl _))
def Ua (ta:TA):TI:=fun σ H R=>ta σ H fun vs H1=>∃ i j c:Int,vs=[.int i,.int j,.int c]/\(-(2 ^ 40)<=i/\i < 2 ^ 40/\-(2 ^ 40)<=j/\j < 2 ^ 40/\0 < c/\c<=1000)/\R (UF i c (mY i j c)) H1
def Eb {a b c:Expr} {ta:TA} {p pos:Pos} (hg:Gl X "range") (hm:X.mg "range"=none) (ha:PA X [a,b,c] ta) (h1:[a,b,c].all aR=true) :
  PI X tg (.Call (.Name "range" p) [a,b,c] [] pos) (Ua ta):=by
 intro af s σ H R I h;have n1:aR a=true:=by simp only [List.all_cons,Bool.and_eq_true] at h1;exact h1.1
 have n2:[b,c].all aR=true:=by simp only [List.all_cons,Bool.and_eq_true] at h1 ⊢;exact h1.2
 refine Call_ (nV I hg hm boot_range (PyProof.Rows.callWith_type1 (eB (ha pos af s σ H _ I h) fun us s1 hh=>mP hh fun vs H1 I1 r1 q1=>?_) (b7 n1) (cY n2)));obtain ⟨i,j,k,e,⟨q1,q2,q3,q4,q5,q6⟩,q⟩:=q1;subst e;cases r1 with
 | cons r rr =>
  cases rr with
  | cons r' rr =>
   cases rr with
   | cons r'' rr =>
    cases rr;obtain ⟨t,rfl⟩:=r;obtain ⟨t',rfl⟩:=r';obtain ⟨t'',rfl⟩:=r'';exact call_range_3 (by omega) (Ij I1 q1 q2 q3 q4 q5 q6 q) (.inl (PyProof.noPylong_small (by omega)))
def pL (lo c:Int) (n:Nat):List D:=(List.range n).map fun (k:Nat)=>D.int (lo+(k:Nat)*c)
def zX {K:PySem.W.Frag} {as0:List Addr} {B:Hp} (lo c:Int) (n:Nat):GivesD K as0 B (UF lo c n) (pL lo c n) where
 go:=fun i H _ hi=>by
  unfold pL at hi;rw [List.length_map,List.length_range] at hi;exact hi
 yl:=fun i H v H2 M _ _ _ hi ⟨e,h⟩=>by
  subst e;unfold pL at hi ⊢;rw [List.length_map,List.length_range] at hi;refine ⟨aD.refl _,.int (lo+(i:Nat)*c),?_,h⟩;rw [List.getElem?_map,List.getElem?_range hi];rfl
 stop:=fun H s=>by
  unfold pL;rw [List.length_map,List.length_range];exact Nat.le_refl _
def Gm:List D->R (List D)
 | [.int i,.int j,.int c]=>if -(2 ^ 40)<=i/\i < 2 ^ 40/\-(2 ^ 40)<=j/\j < 2 ^ 40/\0 < c/\c<=1000 then .ok (pL i c (mY i j c)) else .no
 | _=>.no
def ut (α:FA):FA:=fun δ=>(α δ).bind Gm
def Mr {α:FA} {δ:Sd}:ut α δ=(α δ).bind Gm:=rfl
def Dy {a b c:Expr} {α:FA} {p pos:Pos} (hm:X.mg "range"=none) (ha:JA X [a,b,c] (tw W O α)) (hg:Gl X "range":=by rfl) (hn:[a,b,c].all aR=true:=by rfl):JI X tg (.Call (.Name "range" p) [a,b,c] [] pos) (iD W O (ut α)) :=
 (JI.mk (Eb hg hm ha.out hn)).imp fun σ H Q hh=>g4 hh fun as0 B own δ I h =>
 ⟨as0,B,own,δ,I,mV h fun ds vs H' s dv h'=>by
  unfold Gm at h';split at h'
  ·obtain ⟨v,r,rfl,d1,v2,r2,rfl,d2,v3,r3,rfl,d3,e⟩:=dv;cases d1;cases d2;cases d3;cases e;split at h'
   ·rename_i hj;exact ⟨_,_,_,rfl,hj,h' _ H' (aD.refl _) (zX _ _ _)⟩
   ·exact h'.elim
  ·exact h'.elim⟩
end
end L2
namespace L2
open PySem PySem.NumText
def dg (n:Nat):List Nat:=if h:n < 10 then [48+n] else dg (n/10)++[48+n % 10]
termination_by n
decreasing_by omega
def gJ {n:Nat} (h:n < 10):dg n=[48+n]:=by rw [dg,dif_pos h]
def oX {n:Nat} (h:¬ n < 10):dg n=dg (n/10)++[48+n % 10]:=by rw [dg,dif_neg h]
def uF:∀ {d:Nat},d < 10->(Nat.digitChar d).toNat=48+d:=by decide
def sx:∀ (n:Nat),(Nat.toDigits 10 n).map Char.toNat=dg n:=by
 intro n;induction n using Nat.strongRecOn with
 | ind n ih =>
  by_cases h:n < 10
  ·rw [Nat.toDigits_of_lt_base h,gJ h,List.map_cons,List.map_nil,uF h]
  ·rw [Nat.toDigits_of_base_le (by decide) (by omega),oX h,List.map_append,ih (n/10) (by omega),List.map_cons,List.map_nil,uF (by omega)]
def IO (n:Nat):(Str.ofString (toString ((n:Nat):Int))).cps.toList=dg n:=by
 rw [Str.ofString_eq_toList];show List.map Char.toNat (String.ofList (Nat.toDigits 10 n)).toList=_;rw [String.toList_ofList,sx]
def G5 (n:Nat):(Str.ofString (toString (Int.negSucc n))).cps.toList=45::dg (n+1):=by
 rw [Str.ofString_eq_toList];show List.map Char.toNat ("-"++String.ofList (Nat.toDigits 10 (n+1))).toList=_;rw [String.toList_append,List.map_append];show [45]++List.map Char.toNat (String.ofList (Nat.toDigits 10 (n+1))).toList=_;rw [String.toList_ofList,sx];rfl
def gq (i:Int):List Nat:=if i < 0 then 45::dg i.natAbs else dg i.natAbs
def str_int (i:Int):(Str.ofString (toString i)).cps.toList=gq i:=by
 cases i with
 | ofNat n=>unfold gq;rw [if_neg (by simp)];exact IO n
 | negSucc n=>unfold gq;rw [if_pos (Int.negSucc_lt_zero n)];exact G5 n
def nF:∀ {n c:Nat},c∈dg n->48<=c/\c<=57:=by
 intro n;induction n using Nat.strongRecOn with
 | ind n ih =>
  intro c hc;by_cases h:n < 10
  ·rw [gJ h] at hc;simp at hc;omega
  ·rw [oX h] at hc;rcases List.mem_append.mp hc with z|z
   ·exact ih _ (by omega) z
   ·simp at z;omega
def CQ (n:Nat):dg n≠[]:=by
 by_cases h:n < 10
 ·rw [gJ h];simp
 ·rw [oX h];simp
def yz:∀ (k n:Nat),n < 10 ^ (k+1)->(dg n).length<=k+1
 | 0,n,h=>by rw [gJ (by omega)];simp
 | k+1,n,h=>by
  by_cases q:n < 10
  ·rw [gJ q];simp
  ·rw [oX q]
   have:=yz k (n/10) (by rw [Nat.pow_succ] at h;omega)
   simp;omega
def xo:∀ (n:Nat),0 < n->∃ c r,dg n=c::r/\c≠48:=by
 intro n;induction n using Nat.strongRecOn with
 | ind n ih =>
  intro h0;by_cases h:n < 10
  ·exact ⟨48+n,[],gJ h,by omega⟩
  ·obtain ⟨c,r,e,hc⟩:=ih (n/10) (by omega) (by omega);exact ⟨c,r++[48+n % 10],by rw [oX h,e];rfl,hc⟩
def Bf:∀ (n:Nat),digitsVal (dg n)=n:=by
 intro n;induction n using Nat.strongRecOn with
 | ind n ih =>
  by_cases h:n < 10
  ·rw [gJ h];unfold digitsVal;simp
  ·rw [oX h];unfold digitsVal;rw [List.foldl_append];have e:=ih (n/10) (by omega);unfold digitsVal at e;rw [e];simp;omega
def uq {i:Int} {c:Nat} (h:c∈gq i):45<=c/\c<=57:=by
 unfold gq at h;split at h
 ·rcases List.mem_cons.mp h with z|z
  ·omega
  ·have:=nF z;omega
 ·have:=nF h;omega
end L2
namespace L2
def m8:List Nat->List Nat
 | []=>[]
 | c::r=>if c=34 then 34::34::m8 r else c::m8 r
def Cf:∀ (L:List Nat),pE [34] [34,34] 0 L=m8 L
 | []=>rfl
 | c::r=>by
  rw [pE,m8];show (if [c]=[34] then [34,34]++pE [34] [34,34] 0 r else c::pE [34] [34,34] 0 r)=_;rw [Cf r];by_cases h:c=34
  ·rw [if_pos (by rw [h]),if_pos h];rfl
  ·rw [if_neg (by simpa using h),if_neg h]
def oI (w:List Nat):List Nat->List Nat
 | []=>[]
 | c::r=>if c=34 then w++oI w r else c::oI w r
def ot (w:List Nat):∀ (L:List Nat),pE [34,34] w 0 (m8 L)=oI w L
 | []=>rfl
 | c::r=>by
  rw [m8,oI];by_cases h:c=34
  ·rw [if_pos h,if_pos h,pE];show (if (34::34::m8 r).take 2=[34,34] then w++pE [34,34] w 1 (34::m8 r) else _)=_;rw [if_pos (show (34::34::m8 r).take 2=[34,34] from rfl)];show w++pE [34,34] w 0 (m8 r)=_;rw [ot w r]
  ·rw [if_neg h,if_neg h,pE,if_neg (fun e=>by
    cases hd:m8 r with
    | nil=>rw [hd] at e;simp at e
    | cons a b=>rw [hd] at e;simp at e;exact h e.1),ot w r]
def tL:∀ (L:List Nat),oI [34] L=L
 | []=>rfl
 | c::r=>by
  rw [oI];by_cases h:c=34
  ·rw [if_pos h,tL r,h];rfl
  ·rw [if_neg h,tL r]
def t6:∀ (L:List Nat),34∉oI [] L
 | []=>by simp [oI]
 | c::r=>by
  rw [oI];by_cases h:c=34
  ·rw [if_pos h];exact t6 r
  ·rw [if_neg h];intro z;rcases List.mem_cons.mp z with z|z
   ·exact h z.symm
   ·exact t6 r z
def xX:∀ (L:List Nat),(m8 L).length<=2*L.length
 | []=>by simp [m8]
 | c::r=>by
  rw [m8]
  have:=xX r
  split <;> simp <;> omega
def cQ:List Nat->Bool->List Nat->List (List Nat)
 | cur,b,[]=>[cur]
 | cur,b,c::r=>if c=32/\(if c=34 then !b else b)=false then cur::cQ [] (if c=34 then !b else b) r else cQ (cur++[c]) (if c=34 then !b else b) r
def quiet:Bool->List Nat->Option Bool
 | b,[]=>some b
 | b,c::r=>if c=32/\(if c=34 then !b else b)=false then none else quiet (if c=34 then !b else b) r
def rz:∀ (w cur rest:List Nat) (b b':Bool),quiet b w=some b'->cQ cur b (w++rest)=cQ (cur++w) b' rest
 | [],cur,rest,b,b',h=>by simp [quiet] at h;subst h;simp
 | c::r,cur,rest,b,b',h=>by
  rw [quiet] at h;show cQ cur b (c::(r++rest))=_;rw [cQ];by_cases q:c=32/\(if c=34 then !b else b)=false
  ·rw [if_pos q] at h;cases h
  ·rw [if_neg q] at h;rw [if_neg q,rz r (cur++[c]) rest _ b' h];simp
def ay:List (List Nat)->List Nat
 | []=>[]
 | [w]=>w
 | w::w'::ws=>w++32::ay (w'::ws)
def ug:∀ (w:List Nat) (ws:List (List Nat)),(∀ x∈w::ws,quiet false x=some false)->cQ [] false (ay (w::ws))=w::ws
 | w,[],h=>by
  have e:=rz w [] [] false false (h w (by simp));simp at e;show cQ [] false w=_;rw [e];rfl
 | w,w'::ws,h=>by
  show cQ [] false (w++32::ay (w'::ws))=_;rw [rz w [] _ false false (h w (by simp)),cQ];simp only [List.nil_append];rw [if_pos (by simp)];simp only [show ¬ (32=34) by decide,if_false];rw [ug w' ws fun x hx=>h x (List.mem_cons_of_mem _ hx)]
def sq:∀ {w:List Nat},(∀ c∈w,c≠34/\c≠32)->∀ b,quiet b w=some b
 | [],_,_=>rfl
 | c::r,h,b=>by
  have hc:=h c (by simp);rw [quiet,if_neg (fun z=>hc.2 z.1),if_neg hc.1];exact sq (fun x hx=>h x (List.mem_cons_of_mem _ hx)) b
def qX:∀ (L:List Nat) (rest:List Nat),quiet true (m8 L++rest)=quiet true rest
 | [],rest=>rfl
 | c::r,rest=>by
  rw [m8];by_cases h:c=34
  ·rw [if_pos h];show quiet true (34::34::(m8 r++rest))=_;rw [quiet,quiet];simp;exact qX r rest
  ·rw [if_neg h];show quiet true (c::(m8 r++rest))=_;rw [quiet,if_neg h];simp;exact qX r rest
def A2 (L:List Nat):quiet false (34::(m8 L++[34]))=some false:=by
 rw [quiet];simp;rw [qX];rfl
end L2
namespace L2
open PySem PySem.Builtin PySem.Builtin.Str
def ri:∀ (w w' r r':List Nat),32∉w->32∉w'->w++32::r=w'++32::r'->w=w'/\r=r'
 | [],[],r,r',_,_,h=>by simpa using h
 | [],c::w',r,r',_,h',h=>by
  simp at h;exact absurd (by simp [<- h.1]) h'
 | c::w,[],r,r',hw,_,h=>by
  simp at h;exact absurd (by simp [h.1]) hw
 | c::w,d::w',r,r',hw,hw',h=>by
  simp only [List.cons_append,List.cons.injEq] at h;obtain ⟨h1,h2⟩:=ri w w' r r' (fun z=>hw (List.mem_cons_of_mem _ z)) (fun z=>hw' (List.mem_cons_of_mem _ z)) h.2;exact ⟨by rw [h.1,h1],h2⟩
def aO (w:List Nat) (ws:List (List Nat)) (h:ws≠[]):ay (w::ws)=w++32::ay ws:=by
 cases ws with
 | nil=>exact absurd rfl h
 | cons _ _=>rfl
def zW {w x r:List Nat} (hw:32∉w) (h:w=x++32::r):False:=hw (by rw [h];simp)
def rH:∀ (ws ws':List (List Nat)),(∀ w∈ws,32∉w)->(∀ w∈ws',32∉w)->ws≠[]->ws'≠[]->ay ws=ay ws'->ws=ws'
 | [],_,_,_,h,_,_=>absurd rfl h
 | _,[],_,_,_,h,_=>absurd rfl h
 | [w],[w'],_,_,_,_,h=>by
  have:w=w':=h
  rw [this]
 | [w],w'::v::r,h1,_,_,_,h=>by
  have:w=w'++32::ay (v::r):=h
  exact (zW (h1 w (by simp)) this).elim
 | w::v::r,[w'],_,h2,_,_,h=>by
  have:w++32::ay (v::r)=w':=h
  exact (zW (h2 w' (by simp)) this.symm).elim
 | w::v::r,w'::v'::r',h1,h2,_,_,h=>by
  have h:w++32::ay (v::r)=w'++32::ay (v'::r'):=h;obtain ⟨e1,e2⟩:=ri _ _ _ _ (h1 w (by simp)) (h2 w' (by simp)) h
  have:=rH (v::r) (v'::r') (fun x hx=>h1 x (List.mem_cons_of_mem _ hx)) (fun x hx=>h2 x (List.mem_cons_of_mem _ hx)) (by simp) (by simp) e2
  rw [e1,this]
abbrev mO:Str:=⟨#[32]⟩
def uc:∀ (ps:List Str),(Str.join mO ps).cps.toList=ay (ps.map fun p=>p.cps.toList)
 | []=>rfl
 | [p]=>rfl
 | p::q::r=>by
  have ih:=uc (q::r);show ((p++mO++Str.join mO (q::r)):Str).cps.toList=p.cps.toList++32::ay ((q::r).map fun p=>p.cps.toList);rw [<- ih];have e:∀ a b:Str,(a++b).cps.toList=a.cps.toList++b.cps.toList:=fun a b=>by
   show (a.cps++b.cps).toList=_;simp
  rw [e,e];simp
def Gw (z y:Str):Txt.split z y≠[]:=by
 unfold Txt.split;split
 ·simp
 ·split
  ·simp
  ·intro h
   have:=congrArg List.length h
   rw [length_partsBetween] at this;simp at this
def Ap (z:Str):ay ((Txt.split z mO).map fun p=>p.cps.toList)=z.cps.toList:=by
 rw [<- uc,StrLaws.join_split]
def GF (z:Str):∀ w∈(Txt.split z mO).map fun p=>p.cps.toList,32∉w:=fun w hw=>by
 obtain ⟨p,hp,rfl⟩:=List.mem_map.mp hw;exact StrLaws.split_free z 32 p hp
def zu {z:Str} {ws:List (List Nat)} (h:z.cps.toList=ay ws) (h0:ws≠[]) (hn:∀ w∈ws,32∉w):((Txt.split z mO).map fun p=>p.cps.toList)=ws :=
 rH _ _ (GF z) hn (by simpa using Gw z mO) h0 ((Ap z).trans h)
def Bg {z:Str} {w r:List Nat} (h:z.cps.toList=w++32::r) (hw:32∉w) :
  (Txt.partition z mO).1.cps.toList=w/\(Txt.partition z mO).2.1=mO/\(Txt.partition z mO).2.2.cps.toList=r:=by
 have hz:z.length=w.length+1+r.length:=by
  have:z.cps.toList.length=z.length:=by simp [Str.length]
  rw [<- this,h];simp;omega
 have hi:(StrLaws.At z mO z.length w.length):=(StrLaws.subAt_one z 32 w.length).mpr (by rw [h];simp);rcases StrLaws.occ_head z mO 1 (Nat.le_refl 1) with ⟨_,h2⟩|⟨i,q,e,h2,h3⟩
 ·exact (h2 _ hi).elim
 ·have e2:i=w.length:=by
   rcases Nat.lt_trichotomy i w.length with hlt|heq|hgt
   ·have:=(StrLaws.subAt_one z 32 i).mp h2
    rw [h,List.getElem?_append_left hlt] at this;exact absurd (List.mem_of_getElem? this) hw
   ·exact heq
   ·exact (h3 _ hgt hi).elim
  subst e2;unfold Txt.partition;rw [e];refine ⟨?_,rfl,?_⟩
  ·show (strSub z 0 w.length).cps.toList=w;rw [StrLaws.strSub_toList,h];simp
  ·show (strSub z (w.length+1) z.length).cps.toList=r;rw [StrLaws.strSub_toList,h,hz]
   have:(w++32::r).drop (w.length+1)=r:=by
    rw [List.drop_append];simp
   rw [this];exact List.take_of_length_le (by omega)
end L2
namespace L2
open PySem
def rq (w:List Nat) (L:List Nat):List Nat:=pE [34,34] w 0 L
theorem Es (w:List Nat):rq w []=[]:=rfl
def AU (w r:List Nat):rq w (34::34::r)=w++rq w r:=by
 unfold rq;rw [pE];rw [if_pos (show (34::34::r).take [34,34].length=[34,34] from rfl)];rfl
def tX (w r:List Nat) {c:Nat} (h:c≠34):rq w (c::r)=c::rq w r:=by
 unfold rq;rw [pE,if_neg (fun e=>by
  cases r with
  | nil=>simp at e
  | cons a b=>simp at e;exact h e.1)]
def xK (w r:List Nat) (h:∀ b,r≠34::b):rq w (34::r)=34::rq w r:=by
 unfold rq;rw [pE,if_neg (fun e=>by
  cases r with
  | nil=>simp at e
  | cons a b=>simp at e;exact h b (by rw [e]))]
def AJ {P:List Nat->Prop} (h0:P []) (h2:∀ r,P r->P (34::34::r)) (h1:∀ r,(∀ b,r≠34::b)->P r->P (34::r)) (hc:∀ c r,c≠34->P r->P (c::r)):∀ L,P L:=by
 intro L;have main:∀ n (L:List Nat),L.length<=n->P L:=by
  intro n;induction n with
  | zero=>intro L hl;rw [List.length_eq_zero_iff.mp (Nat.le_zero.mp hl)];exact h0
  | succ n ih =>
   intro L hl;cases L with
   | nil=>exact h0
   | cons c r =>
    have hr:r.length<=n:=by simpa using hl
    by_cases h:c=34
    ·subst h;cases r with
     | nil=>exact h1 [] (by simp) h0
     | cons d r =>
      by_cases hd:d=34
      ·subst hd;exact h2 r (ih r (by simp at hr;omega))
      ·exact h1 (d::r) (fun b e=>hd (by cases e;rfl)) (ih _ hr)
    ·exact hc c r h (ih r hr)
 exact main _ L (Nat.le_refl _)
def JM (w:List Nat) (hw:w.length<=1):∀ L:List Nat,(rq w L).length<=L.length:=by
 refine AJ (by simp [Es]) (fun r ih=>?_) (fun r hb ih=>?_) fun c r hc ih=>?_
 ·rw [AU];simp;omega
 ·rw [xK _ _ hb];simp;exact ih
 ·rw [tX _ _ hc];simp;exact ih
def yk {c:Nat} (hc:c≠34):∀ L:List Nat,c∈rq [34] L ↔ c∈L:=by
 refine AJ (by simp [Es]) (fun r ih=>?_) (fun r hb ih=>?_) fun d r hd ih=>?_
 ·rw [AU];simp [hc,ih]
 ·rw [xK _ _ hb];simp [hc,ih]
 ·rw [tX _ _ hd];simp [ih]
def tm:∀ (l cur:List Nat) (b:Bool),cQ cur b l≠[]
 | [],_,_=>by simp [cQ]
 | c::r,cur,b=>by
  rw [cQ];by_cases q:c=32/\(if c=34 then !b else b)=false
  ·rw [if_pos q];exact List.cons_ne_nil _ _
  ·rw [if_neg q];exact tm r _ _
end L2
namespace L2
open PySem PySem.Spec PyProof.Rows
structure Nw (X:Cx) (af:List (Addr×Obj)) (b:Addr):Prop where
 base:X.s₀.heap.get? b=none
 loc:b≠X.env.locals
 fs:b∉X.fs
 cell:∀ x c,X.env.cells.lookup x=some c->c≠b
 pin:∀ p∈X.pn++af,p.1≠b
section
variable {X:Cx} {af:List (Addr×Obj)} {σ:St} {H:Hp} {s:Shared}
def IS {h:Heap} {b:Addr} (k:h.objs.size<=b):h.get? b=none:=Heap.get?_none_of_le k
def Nw.new (I:Inv X af σ H s) {b:Addr} (hb:s.heap.objs.size<=b):Nw X af b:=by
 obtain ⟨_,f1,f2,_,f4,f5⟩:=I.fpOk hb (I.hok.fresh hb);exact ⟨IS (Nat.le_trans I.sz hb),f1,f2,f4,f5⟩
def i7 (X:Cx):Prop:=∀ b∈X.ex,∃ o,(b,o)∈X.pn
def Nw.gone (I:Inv X af σ H s) (hx:i7 X) {b:Addr} (hb:s.heap.get? b=none):Nw X af b:=by
 have nex:b∉X.ex:=fun z=>by
  obtain ⟨o,ho⟩:=hx b z
  have:=(I.pin (b,o) (List.mem_append_left _ ho)).1
  rw [hb] at this;cases this
 refine ⟨?_,?_,fun z=>?_,fun x c e z=>?_,fun p hp z=>?_⟩
 ·cases q:X.s₀.heap.get? b with
  | none=>rfl
  | some o =>
   obtain ⟨o',e⟩:=I.base.there b o q nex;rw [hb] at e;cases e
 ·intro z;obtain ⟨m,⟨o,_,_,ho,_⟩,_⟩:=I.loc;rw [<- z,hb] at ho;cases ho
 ·obtain ⟨_,o,ho,_⟩:=I.ok.funs.mem z;obtain ⟨o',e⟩:=I.base.there b o ho nex;rw [hb] at e;cases e
 ·obtain ⟨v,o,ho,_⟩:=I.cell x c e;rw [z,hb] at ho;cases ho
 ·have:=(I.pin p hp).1
  rw [z,hb] at this;cases this
def i7.nil (h:X.ex=[]):i7 X:=fun b z=>by rw [h] at z;cases z
def Nw.less {b:Addr} (n:Nw X af b):Nw X [] b:=⟨n.base,n.loc,n.fs,n.cell,fun p hp=>n.pin p (by
 rcases List.mem_append.mp hp with z|z
 ·exact List.mem_append_left _ z
 ·cases z)⟩
def Inv.less (I:Inv X af σ H s):Inv X [] σ H s:=⟨I.ok,I.os,I.bare,I.base,I.loc,I.cell,I.free,I.freeC,fun p hp=>I.pin p (by
 rcases List.mem_append.mp hp with z|z
 ·exact List.mem_append_left _ z
 ·cases z),I.hok,I.len,I.tk⟩
def Inv.recs {h':Heap} {ch:List Addr} (I:Inv X af σ H s) (hch:∀ b∈ch,Nw X af b/\H b=none)
  (k:∀ b o,b≠X.env.locals->b∉X.fs->b∉ch->s.heap.get? b=some o->h'.get? b=some o)
  (sl:∀ b o,b∉ch->s.heap.get? b=some o->∃ l,h'.get? b=some { o with slots:=l }):Inv X af σ H { s with heap:=h' }:=by
 have nL:X.env.locals∉ch:=fun z=>(hch _ z).1.loc rfl;have nC:∀ x c,X.env.cells.lookup x=some c->c∉ch:=fun x c e z=>(hch c z).1.cell x c e rfl;have nB:∀ b o,X.s₀.heap.get? b=some o->b∉ch:=fun b o e z=>by rw [(hch b z).1.base] at e;cases e
 have neL:∀ b o,X.s₀.heap.get? b=some o->b≠X.env.locals:=fun b o e=>Nat.ne_of_lt (Nat.lt_of_lt_of_le (Heap.lt_size e) I.ok.above);have frH:∀ b∈X.fs,H b=none:=fun b hb=>by
  obtain ⟨_,o,ho,_⟩:=I.ok.funs.mem hb;exact I.base.free b o ho (I.ok.frf b hb) fun z=>I.ok.exfs b z hb
 have keepT:∀ b u o,H b=some u->s.heap.get? b=some o->h'.get? b=some o:=fun b u o e q=>by
  refine k b o (fun z=>?_) (fun z=>?_) (fun z=>?_) q
  ·rw [z,I.free] at e;cases e
  ·rw [frH b z] at e;cases e
  ·rw [(hch b z).2] at e;cases e
 have cellK:∀ x c,X.env.cells.lookup x=some c->∀ v,s.heap.IsCell c v->h'.IsCell c v:=fun x c e v ⟨o,ho,hd⟩=>by
  obtain ⟨l,q⟩:=sl c o (nC x c e) ho;exact ⟨_,q,hd⟩
 refine ⟨I.ok,I.os,I.bare,⟨fun b o e n hb hx=>?_,fun b o e n hb hx=>?_,I.base.free,fun b o e hx=>?_,I.base.tups,I.base.frzs,I.base.tbls⟩,?_,fun x c e=>?_,I.free,I.freeC,fun p hp=>?_,fun a u e=>?_,I.len,I.tk⟩
 ·exact k b o (neL b o e) hb (nB b o e) (I.base.keep b o e n hb hx)
 ·obtain ⟨l,e1⟩:=I.base.slot b o e n hb hx;obtain ⟨l',e2⟩:=sl b _ (nB b o e) e1;exact ⟨l',e2⟩
 ·obtain ⟨o',e1⟩:=I.base.there b o e hx;obtain ⟨l',e2⟩:=sl b _ (nB b o e) e1;exact ⟨_,e2⟩
 ·obtain ⟨m,⟨o,es,ep,ho,hd,r⟩,hl⟩:=I.loc;obtain ⟨l,q⟩:=sl _ o nL ho;refine ⟨m,⟨_,es,ep,q,hd,r⟩,fun i x v e1 e2 e3=>?_⟩;obtain ⟨u,r,z⟩:=hl i x v e1 e2 e3;refine ⟨u,r,?_⟩;rcases z with z|⟨k',c,e,z⟩
  ·exact .inl z
  ·exact .inr ⟨k',c,e,cellK x c e _ z⟩
 ·obtain ⟨v,z⟩:=I.cell x c e;exact ⟨v,cellK x c e v z⟩
 ·obtain ⟨e,n,ne,nf,d⟩:=I.pin p hp;exact ⟨k p.1 p.2 ne nf (fun z=>(hch p.1 z).1.pin p hp rfl) e,n,ne,nf,d⟩
 ·refine (I.hok a u e).stay (fun b v hb q=>?_) (fun _ z=>z) fun _ _ z=>z;rcases hb with z|z
  ·rw [z] at q ⊢;exact keepT a u v e q
  ·exact keepT b _ v z q
def Ec (f:Array Value->Array Value) (o:Obj):(Obj.mapFields f o).dict=o.dict:=by
 unfold Obj.mapFields;split <;> rfl
def r6:Str:="BadLog"
structure ExcAt (X:Cx) (af:List (Addr×Obj)) (H:Hp) (h:Heap) (x C:Addr) (fl:Option Value):Prop where
 nx:Nw X af x
 hx:H x=none
 ob:∃ oe vs,h.get? x=some oe/\(oe.cls=.ref C/\oe.dict=none)/\oe.data=.fields vs/\(1 < vs.size/\(X.mg r6≠some (.ref C)->vs[2]?=some .none))/\(fl=none->vs[1]?=some .none) /\
  ∀ v,fl=some v->∃ T oT ts,vs[1]?=some (.ref T)/\Nw X af T/\H T=none/\T≠x/\h.get? T=some oT/\oT.data=.fields ts/\ts[3]?=some v
def ExcAt.less {h:Heap} {x C:Addr} {fl:Option Value} (e:ExcAt X af H h x C fl):ExcAt X [] H h x C fl:=by
 obtain ⟨oe,vs,h1,h2,h3,h4,h5,h6⟩:=e.ob;exact ⟨e.nx.less,e.hx,oe,vs,h1,h2,h3,h4,h5,fun v z=>let ⟨T,oT,ts,a,b,c⟩:=h6 v z;⟨T,oT,ts,a,b.less,c⟩⟩
def dF {A:Around} {E:Value->Shared->Prop} {Q:Unit->Shared->Prop} {x C:Addr} {v:Value} (I:Inv X af σ H s) (e:ExcAt X af H s.heap x C (some v)) (f:Option Addr)
  (q:∀ h',Inv X af σ H { s with heap:=h' }->ExcAt X af H h' x C (some (f.elim .none fun a=>rawInt a))->Q () { s with heap:=h' }):wpAny (model X.prog X.w) A (setFlight (.ref x) f) Q E s:=by
 obtain ⟨oe,vs,h1,h2,h3,h4,_,h6⟩:=e.ob;obtain ⟨T,oT,ts,a1,a2,a3,a4,a5,a6,a7⟩:=h6 v rfl;have hz:3 < ts.size:=(Array.getElem?_eq_some_iff.mp a7).1;unfold setFlight;refine wpAny_bind (wpAny_field h1 h3 a1 ?_);have hne:(Value.ref T != Value.none)=true:=by simp
 rw [if_pos hne];refine wpAny_setField a5 a6 hz ?_;generalize hv:(f.elim Value.none fun a=>rawInt a)=nv at q;have hT:=Heap.get?_update_self (Obj.mapFields (·.setIfInBounds 3 nv)) a5 (Obj.isFreed_of_fields (Obj.data_mapFields a6 _));have oth:∀ b o,b≠T->s.heap.get? b=some o->(s.heap.update T (Obj.mapFields (·.setIfInBounds 3 nv))).get? b=some o:=fun b o hb z=>by
  rw [Heap.get?_update_other _ _ (Ne.symm hb)];exact z
 refine q _ (I.recs (ch:=[T]) (fun b hb=>?_) (fun b o _ _ hb z=>oth b o (fun y=>hb (by simp [y])) z) (fun b o hb z=>⟨o.slots,oth b o (fun y=>hb (by simp [y])) z⟩)) ⟨e.nx,e.hx,oe,vs,oth x oe (Ne.symm a4) h1,h2,h3,h4,fun z=>(by cases z),fun v' z=>?_⟩
 ·rw [List.mem_singleton.mp hb];exact ⟨a2,a3⟩
 ·cases z;exact ⟨T,_,_,a1,a2,a3,a4,hT,Obj.data_mapFields a6 _,by simp [hz]⟩
def C6 {M:Model} {A:Around} {E:Value->Shared->Prop} {s:Shared} {b0:Heap} {e1 e2:Env} {os:List Env} {L:Addr} {Q:Value->Shared->Prop} (k1:A.frames=some (e1::os)) (k2:s.heap.FunFrames b0 (e1::os)) (k3:e1.frame=some L) (k4:e2.frame=some L)
  (k5:∀ g,Heap.SlotsOnly ((e1::os).filterMap (·.frame)) s.heap g->Q (.ref L) { s with heap:=g }):wpAny M A (PySem.frameOf e2) Q E s:=by
 have dw:((e1::os).dropWhile fun y=>y.frame != e2.frame)=e1::os:=by simp [List.dropWhile,k3,k4]
 unfold PySem.frameOf;refine wpAny_bind (wpAny_frameEnvs k1 ?_);rw [dw];unfold frameObject;refine wpAny_bind (wpAny_bind (wpAny_readyFrames_fun k2 fun g hg=>wpAny_pure ?_));rw [k3];exact wpAny_pure (k5 g hg)
def wJ {A:Around} {E:Value->Shared->Prop} {Q:Unit->Shared->Prop} {x C:Addr} {fl:Option Value} {hd:Value} {hn:Bool} {ev:Env} (hev:ev.frame=some X.env.locals) (hfr:A.frames=some (X.env::X.outer)) (hst:X.stack=X.env::X.outer) (hf:X.env.frame=some X.env.locals)
  (I:Inv X af σ H s) (e:ExcAt X af H s.heap x C fl)
  (q:∀ h',Inv X af σ H { s with heap:=h' }->ExcAt X af H h' x C (some (rawInt X.env.locals))->Q () { s with heap:=h' }) :
  wpAny (model X.prog X.w) A (do let a <- frameOf ev;let pl <- entryPlaceOf X.env.locals hn;let b <- EntryCells.newEntry hd a .none (rawInt X.env.locals) .none pl;setField (.ref x) 1 b) Q E s:=by
 obtain ⟨oe,vs,h1,h2,h3,h4,_,_⟩:=e.ob;have F:s.heap.FunFrames X.base (X.env::X.outer):=by rw [<- hst];exact I.stack
 have hin:∀ b,b∈(X.env::X.outer).filterMap (·.frame)->b=X.env.locals\/b∈X.fs:=fun b hb=>by
  rw [List.filterMap_cons,hf] at hb;rcases List.mem_cons.mp hb with z|z
  ·exact .inl z
  ·exact .inr z
 have hxf:x∉(X.env::X.outer).filterMap (·.frame):=fun z=>(hin x z).elim e.nx.loc e.nx.fs;refine wpAny_bind (C6 hfr F hf hev fun g hg=>?_);obtain ⟨g1,g2,g3⟩:=hg;refine wpAny_bind (wpAny_entryPlaceOf fun pl hpl=>?_);unfold EntryCells.newEntry newFields;refine wpAny_bind (wpAny_newObj_type ?_ (hpl.sizeOk5 _ _ _ _ _));generalize hts:([hd,.ref X.env.locals,.none,rawInt X.env.locals,.none]++(if pl.isEmpty then List.replicate 6 Value.none else pl))=ts;have t3:ts[3]?=some (rawInt X.env.locals):=by rw [<- hts];rfl
 have x1:g.get? x=some oe:=(g2 x hxf).trans h1;generalize hto:({ cls:=.type "traceback",dict:=none,data:=.fields ts.toArray }:Obj)=tob;have dob:tob.data=.fields ts.toArray:=by rw [<- hto]
 have nfr:tob.isFreed=false:=Obj.isFreed_of_fields dob;have x2:=Heap.get?_push_of_some (h:=g) tob x1;refine wpAny_setField x2 h3 h4.1 ?_;have sz:g.objs.size=s.heap.objs.size:=g1;have ne:x≠g.objs.size:=Nat.ne_of_lt (Heap.lt_size x1);have x3:=Heap.get?_update_self (Obj.mapFields (·.setIfInBounds 1 (Value.ref g.objs.size))) x2 (Obj.isFreed_of_fields (Obj.data_mapFields h3 _));have tg:((g.push tob).update x (Obj.mapFields (·.setIfInBounds 1 (Value.ref g.objs.size)))).get? g.objs.size=some tob:=by
  rw [Heap.get?_update_other _ _ ne];exact Heap.get?_push_size _ nfr
 have oth:∀ b o,b≠x->g.get? b=some o->((g.push tob).update x (Obj.mapFields (·.setIfInBounds 1 (Value.ref g.objs.size)))).get? b=some o:=fun b o hb z=>by
  rw [Heap.get?_update_other _ _ (Ne.symm hb)];exact Heap.get?_push_of_some _ z
 have I2:=I.recs (ch:=[x]) (h':=(g.push tob).update x (Obj.mapFields (·.setIfInBounds 1 (Value.ref g.objs.size)))) (fun b hb=>by rw [List.mem_singleton.mp hb];exact ⟨e.nx,e.hx⟩)
  (fun b o hb hb' hc z=>oth b o (fun y=>hc (by simp [y])) ((g2 b fun y=>(hin b y).elim hb hb').trans z))
  (fun b o hc z=>by
   obtain ⟨l,y⟩:=g3 b o z;exact ⟨l,oth b _ (fun y=>hc (by simp [y])) y⟩)
 have nt:Nw X af g.objs.size:=Nw.new I (by rw [sz];exact Nat.le_refl _);exact q _ I2 ⟨e.nx,e.hx,_,_,x3,⟨(Obj.cls_mapFields _ _).trans h2.1,(Ec _ _).trans h2.2⟩,Obj.data_mapFields h3 _,⟨by simp;exact h4.1,fun z=>by simp;exact h4.2 z⟩,fun z=>(by cases z),fun v z=>by
  cases z;exact ⟨g.objs.size,tob,ts.toArray,by simp [h4.1],nt,I.hok.fresh (by rw [sz];exact Nat.le_refl _),Ne.symm ne,tg,dob,by simpa using t3⟩⟩
def jY {A:Around} {E:Value->Shared->Prop} {Q:Unit->Shared->Prop} {x C:Addr} {fl:Option Value} {ev:Env} (hev:ev.frame=some X.env.locals) (hfr:A.frames=some (X.env::X.outer)) (hst:X.stack=X.env::X.outer) (hf:X.env.frame=some X.env.locals)
  (I:Inv X af σ H s) (e:ExcAt X af H s.heap x C fl)
  (q:∀ h',Inv X af σ H { s with heap:=h' }->ExcAt X af H h' x C (some (rawInt X.env.locals))->Q () { s with heap:=h' }):wpAny (model X.prog X.w) A (noteFrame (.ref x) ev) Q E s:=by
 obtain ⟨oe,vs,h1,h2,h3,h4,h5,h6⟩:=e.ob;cases fl with
 | none =>
  unfold noteFrame;simp only [hev];refine wpAny_bind (wpAny_field h1 h3 (h5 rfl) ?_);rw [if_neg (by decide)];exact wJ hev hfr hst hf I e q
 | some v =>
  obtain ⟨T,oT,ts,a1,a2,a3,a4,a5,a6,a7⟩:=h6 _ rfl;by_cases hv:v=rawInt X.env.locals
  ·subst hv;exact wpAny_noteFrame_inFlight hev h1 h3 a1 a5 a6 a7 (q s.heap I e)
  ·unfold noteFrame;simp only [hev];refine wpAny_bind (wpAny_field h1 h3 a1 ?_);have hne:(Value.ref T != Value.none)=true:=by simp
   rw [if_pos hne];refine wpAny_bind (wpAny_field a5 a6 a7 ?_);have hnr:¬ ((v==rawInt X.env.locals)=true):=fun z=>hv (beq_iff_eq.mp z);rw [if_neg hnr];have hz:3 < ts.size:=(Array.getElem?_eq_some_iff.mp a7).1;refine wpAny_bind (wpAny_setField a5 a6 hz ?_);have hT:=Heap.get?_update_self (Obj.mapFields (·.setIfInBounds 3 Value.none)) a5 (Obj.isFreed_of_fields (Obj.data_mapFields a6 _));have oth:∀ b o,b≠T->s.heap.get? b=some o->(s.heap.update T (Obj.mapFields (·.setIfInBounds 3 Value.none))).get? b=some o:=fun b o hb z=>by
    rw [Heap.get?_update_other _ _ (Ne.symm hb)];exact z
   refine wJ (fl:=some .none) hev hfr hst hf (I.recs (ch:=[T]) (fun b hb=>?_) (fun b o _ _ hb z=>oth b o (fun y=>hb (by simp [y])) z) (fun b o hb z=>⟨o.slots,oth b o (fun y=>hb (by simp [y])) z⟩)) ⟨e.nx,e.hx,oe,vs,oth x oe (Ne.symm a4) h1,h2,h3,h4,fun z=>(by cases z),fun v' z=>?_⟩ q
   ·rw [List.mem_singleton.mp hb];exact ⟨a2,a3⟩
   ·cases z;exact ⟨T,_,_,a1,a2,a3,a4,hT,Obj.data_mapFields a6 _,by simp [hz]⟩
end
def XE (X:Cx) (E:XK) (e:Value) (s':Shared):Prop:=∃ σ H x C fl,e=.ref x/\Inv X [] σ H s'/\ExcAt X [] H s'.heap x C fl/\E (.ref x) (some C) H
def Fly (mg:Str->Option Value) (h0 h:Heap) (H:Hp) (x C:Addr):Prop:=h0.get? x=none/\H x=none/\∃ oe vs,h.get? x=some oe/\(oe.cls=.ref C/\oe.dict=none)/\oe.data=.fields vs/\(1 < vs.size/\(mg r6≠some (.ref C)->vs[2]?=some .none)) /\
 ∃ T oT ts,vs[1]?=some (.ref T)/\h0.get? T=none/\H T=none/\T≠x/\h.get? T=some oT/\oT.data=.fields ts/\ts[3]?=some Value.none
def oJ (P:Program) (w:World) (mg:Str->Option Value):yJ:=fun outer H s E e s'=>∃ x C H',e=.ref x/\s'.os=s.os/\AllBare s'.gens/\Un (DV outer) [] H H' s.heap s'.heap/\r8 P w H' s'.heap/\Fly mg s.heap s'.heap H' x C/\E (.ref x) (some C) H'
section
variable {P:Program} {w:World} {K:PySem.W.Frag} {mg:Str->Option Value} {base:Heap}
def uh {X:Cx} {E:XK} {e:Value} {s':Shared} (hst:X.stack=X.env::X.outer) (hf:X.env.frame=some X.env.locals) (hx:X.ex=[]) (h:XE X E e s') :
  wpAny (model X.prog X.w) X.A (leaving X.env e) (fun _ s''=>oJ X.prog X.w X.mg X.outer X.H₀ X.s₀ E e s'') (fun e' s''=>oJ X.prog X.w X.mg X.outer X.H₀ X.s₀ E e' s'') s':=by
 obtain ⟨σ,H',x,C,fl,rfl,I,ea,hE⟩:=h;have hfr:X.A.frames=some (X.env::X.outer):=by rw [<- hst];exact I.ok.frames
 unfold leaving;refine wpAny_bind (jY hf hfr hst hf I ea fun h1 I1 e1=>?_);refine dF I1 e1 none fun h2 I2 e2=>?_;obtain ⟨oe,vs,a1,a2,a3,a4,_,a6⟩:=e2.ob;obtain ⟨T,oT,ts,b1,b2,b3,b4⟩:=a6 _ rfl;have un:=I2.base;rw [hx] at un;exact ⟨x,C,H',rfl,I2.os,I2.bare,un,I2.hok,⟨e2.nx.base,e2.hx,oe,vs,a1,a2,a3,a4,T,oT,ts,b1,b2.base,b3,b4⟩,hE⟩
abbrev Cx.may (X:Cx) (E:XK):Cx:=X.wish (XE X E)
def L8 {k:Nat} {f:Addr} {name qual:Str} {params:Arguments} {body:List Stmt} {scope:Scope} {dV kV doc pm cdv ct oc:Value} {an od:Option Addr}
  {osl:Array (Option Value)} {N ps:List Str} {sp:Sp} (lk:K.lookup f=some ⟨oc,od,.func (PySem.W.fnOf name qual params body scope dV kV doc pm an cdv ct),osl⟩) (hcd:PySem.W.codeIn K cdv qual=true) (S:FnScope N ps scope)
  (len:∀ vs H Q E,sp vs H Q E->vs.length=ps.length)
  (hbody:∀ (A:Around) (outer:List Env) (s:Shared) (H:Hp) (vs:List V) (Q:VK) (E:XK),Room k (A.deeper (envOfC qual scope s.heap.objs.size f cdv))->sp vs H Q E ->
   ∃ t,Ag ((lc (oJ P w mg) P w K mg base N qual scope f cdv A outer s H E).may E) body t/\t { nx:=fun _ H'=>Q .non H',rt:=Q } (start N vs) H) :
  FnOk P w K mg base (oJ P w mg) (k+1) f (PySem.W.fnOf name qual params body scope dV kV doc pm an cdv ct) ps sp:=by
 refine JU lk hcd S len fun A outer s H vs Q E hr hsp=>?_;obtain ⟨t,h1,h2⟩:=hbody A outer s H vs Q E hr hsp;exact ⟨t,fun af s1 σ H1 D I hw=>wpAny_mono (h1 af s1 σ H1 D (I.wish _) hw) (fun _ _ q=>q.unwish) fun e s2 z=>uh (X:=lc (oJ P w mg) P w K mg base N qual scope f cdv A outer s H E) rfl rfl rfl z,h2⟩
def GT {k:Nat} {f:Addr} {name qual:Str} {params:Arguments} {body:List Stmt} {scope:Scope} {dV kV doc pm cdv ct oc:Value} {an od:Option Addr}
  {osl:Array (Option Value)} {N ps:List Str} {sp:Sp} (lk:K.lookup f=some ⟨oc,od,.func (PySem.W.fnOf name qual params body scope dV kV doc pm an cdv ct),osl⟩) (hcd:PySem.W.codeIn K cdv qual=true) (S:FnScope N ps scope)
  {p0:Str} {pr:List Str} (hp:ps=p0::pr) (hl0:scope.names.lookup p0=some .local) (len:∀ vs H Q E,sp vs H Q E->vs.length=ps.length)
  (hbody:∀ (A:Around) (outer:List Env) (s:Shared) (H:Hp) (vs:List V) (Q:VK) (E:XK),Room k (A.deeper (envOfC qual scope s.heap.objs.size f cdv))->sp vs H Q E ->
   ∃ t,Ag (((lc (oJ P w mg) P w K mg base N qual scope f cdv A outer s H E).up 1).may E) body t/\t { nx:=fun _ H'=>Q .non H',rt:=Q } (start N vs) H) :
  FnOk P w K mg base (oJ P w mg) (k+1) f (PySem.W.fnOf name qual params body scope dV kV doc pm an cdv ct) ps sp:=by
 refine Gh lk hcd S hp hl0 len fun A outer s H vs Q E hr hsp=>?_;obtain ⟨t,h1,h2⟩:=hbody A outer s H vs Q E hr hsp;exact ⟨t,fun af s1 σ H1 D I hw=>wpAny_mono (h1 af s1 σ H1 D (I.wish _) hw) (fun _ _ q=>q.unwish) fun e s2 z=>uh (X:=(lc (oJ P w mg) P w K mg base N qual scope f cdv A outer s H E).up 1) rfl rfl rfl z,h2⟩
end
section
variable {X:Cx} {af:List (Addr×Obj)} {σ:St} {H:Hp} {s s':Shared} {E:XK} {e:Value}
def Gf (I:Inv X af σ H s) (hx:i7 X) (h:oJ X.prog X.w X.mg X.stack H s E e s') (ht:X.tn<=s'.toks):XE X E e s':=by
 obtain ⟨x,C,H',rfl,os,bare,un,hok,⟨f1,f2,oe,vs,a1,a2,a3,a4,T,oT,ts,b1,b2,b3,b4⟩,hE⟩:=h;have I1:Inv X af σ H' s':=I.call' os un hok bare (ch:=[]) (fun b z=>nomatch z) ht
 exact ⟨σ,H',x,C,some .none,rfl,I1.less,⟨(Nw.gone I hx f1).less,f2,oe,vs,a1,a2,a3,a4,fun z=>(by cases z),fun v z=>(by cases z;exact ⟨T,oT,ts,b1,(Nw.gone I hx b2).less,b3,b4⟩)⟩,hE⟩
def CI {k:Nat} {f:Addr} {fd:FuncData} {ps:List Str} {sp:Sp} {Q:VK} {us:List Value} {vs:List V} (F:FnOk X.prog X.w X.K X.mg X.base (oJ X.prog X.w X.mg) k f fd ps sp) (hr:Room k X.A) (hb:uz X.K fd ps [])
  {E':Value->Shared->Prop} (hE:∀ e s',X.tn<=s'.toks->oJ X.prog X.w X.mg X.stack H s E e s'->E' e s') (I:Inv X af σ H s) (r:bC vs us) (h:sp vs H Q E):wpAny (model X.prog X.w) X.A (call (.ref f) us) (EP X af σ Q) E' s:=by
 have hl:(us++[]).length=ps.length:=by rw [List.append_nil,<- r.length];exact F.len _ _ _ _ h
 have hb':=hb s us I.kIn hl;rw [List.append_nil] at hb';refine wpAny_call (fP I.tk (codeAny_mono (F.run X.A X.stack s H ⟨us,[]⟩ us vs Q E hr I.env0 hb' r h) fun r s' hq htk=>?_));cases r with
 | error e=>exact hE e s' htk hq
 | ok fl =>
  cases fl with
  | ret u=>exact I.after hq
  | next=>exact hq.elim
  | brk=>exact hq.elim
  | cont=>exact hq.elim
end
section
variable {X:Cx} {x:Str} {st:Stmt} {ps:List Str} {f:Addr} {fd:FuncData} {j k:Nat} {sp:Sp} {p pos:Pos} {e:Expr} {es:List Expr} {t:TA} {E:XK}
def L5 (E:XK) (sp:Sp) (t:TA):TE:=fun σ H Q=>t σ H fun vs H1=>sp vs H1 Q E
def pcX (D:Def X.K X.mg x st ps f fd) (G:FnOk X.prog X.w X.K X.mg X.base (oJ X.prog X.w X.mg) j f fd ps sp) (hr:Room k X.A) (ha:PA (X.may E) (e::es) t) (hx:i7 X) (hj:j<=k) (hg:Gl X x) (hdb:(x==("__debug__":Str))=false)
  (h1:aR e=true) (h2:es.all aR=true):PE (X.may E) (.Call (.Name x p) (e::es) [] pos) (L5 E sp t):=by
 intro af s σ H Q I h;refine wpAny_Call_Name_kw (il I hg D.m ?_ hdb);refine PySem.W.callWith_K (h₀:=X.base) I.ok.mod.kin D.F.kp (eB (ha pos af s σ H _ I h) fun us s1 hh=>mP hh fun vs H1 I1 r q=>⟨I1.kIn,?_⟩) (b7 h1) (cY h2);have I2:=I1.unwish;exact eB (CI (E:=E) (E':=XE X E) G (hr.mono hj) D.b (fun e s' ht hq=>Gf I2 hx hq ht) I2 r q) fun u s2 ⟨v,H',J,rv,hq⟩=>⟨v,H',J.wish _,rv,hq⟩
end
section
variable {X:Cx} {E:XK}
def yv {K:PySem.W.Frag} {h:Heap} {C:Addr} {bmB:List Value} {newId:String} (KX:K.In h) (q:PySem.W.excIn K C bmB newId=true) :
  ∃ bm N nm qn bs hdct sn sub ab col dd k0 k1 k2 k3 k5 mN,h.get? C=some (excClassObj nm qn C N bs bm hdct sn sub ab col dd k0 k1 k2 k3 k5 newId)/\h.Ns N mN/\mN "__init__"=none/\OwnTail h bmB bm:=by
 unfold PySem.W.excIn at q;split at q
 ·rename_i dd cd sl ho;split at q
  ·rename_i C' bm k0 k1 k2 k3 n k5 hm hs;simp only [Bool.and_eq_true,beq_iff_eq,Bool.not_eq_true'] at q;obtain ⟨⟨⟨⟨⟨e1,e2⟩,hdel⟩,ht⟩,hok⟩,hni⟩:=q;subst e1 e2;cases cd;dsimp only at hm hdel hok hni;subst hm hdel;have hsl:sl=⟨[k0,k1,k2,k3,some (.builtin n),k5]⟩:=by rw [<- hs]
   subst hsl;exact ⟨bm,_,_,_,_,_,_,_,_,_,dd,k0,k1,k2,k3,k5,_,KX _ _ ho,.of_isNs (PySem.W.isNs_of_in KX hok),PySem.W.nsMap_none_of_in KX hok hni,PySem.W.tail_of_in KX ht⟩
  ·cases q
 ·cases q
abbrev uI:List Value:=[.type "ValueError",.type "Exception",.type "BaseException",.type "object"]
def tRz (C:Addr) (E:XK) (t:TA):TS:=fun _ σ H=>t σ H fun vs H1=>vs.length<=10/\∀ x,E (.ref x) (some C) H1
def Du {cn:Str} {C:Addr} {np cpos pos:Pos} {a:Expr} {as:List Expr} {t:TA} (hm:X.mg cn=some (.ref C)) (hq:PySem.W.excIn X.K C uI "ValueError.__new__"=true) (hc:X.calm=true) (hx:i7 X) (ha:PA (X.may E) (a::as) t)
  (hg:Gl X cn) (hdb:(cn==("__debug__":Str))=false) (h1:(a::as).all aR=true):PS (X.may E) (.Raise (some (.Call (.Name cn np) (a::as) [] cpos)) none pos) (tRz C E t):=by
 intro af s σ H D I h;have n1:aR a=true:=by simp only [List.all_cons,Bool.and_eq_true] at h1;exact h1.1
 have n2:as.all aR=true:=by simp only [List.all_cons,Bool.and_eq_true] at h1;exact h1.2
 obtain ⟨bm,N,nm,qn,bs,hdct,sn,sub,ab,col,dd,k0,k1,k2,k3,k5,mN,hC,hN,hni,TL⟩:=yv I.ok.mod.kin hq;have kp:∀ {s2:Shared} {σ2:St} {H2:Hp},Inv (X.may E) af σ2 H2 s2->∀ b o,X.base.get? b=some o->s2.heap.get? b=some o:=fun J b o e=>(J.bs b o e).1;refine wpAny_Raise_call_subU (C:=C) (nm:=nm) (q:=qn) (N:=N) (bs:=bs) (bm:=bm) (hdct:=hdct) (sn:=sn) (sub:=sub) (ab:=ab) (col:=col) (dd:=dd) (k0:=k0) (k1:=k1) (k2:=k2) (k3:=k3) (k5:=k5) (mN:=mN)
  PySem.F.excBase_ValueError (by decide +kernel) PySem.F.excBase_ValueError (TL.hasType PySem.F.excBase_ValueError.hasBase) (I.ok.hd hc) (cY h1) hni (il I hg hm ⟨rfl,?_⟩ hdb)
 have hs:=ha cpos af s σ H _ I h;rw [b7 n1] at hs ⊢;refine Calls.evalArgs_plain (wpAny_mono hs (fun us s2 ⟨vs,H2,I2,r2,hl,hE⟩=>?_) fun _ _ z=>z);refine ⟨rfl,?_,kp I2 _ _ hC,hN.keeps (kp I2),TL.keeps (kp I2),fun h' x mk=>?_⟩
 ·show us.length<=sizeLine;rw [<- r2.length,sizeLine_eq];exact Nat.le_trans hl (by decide)
 ·have J:=I2.unwish;have J3:Inv X af σ H2 { s2 with heap:=h' }:=J.kept (t':=s2.toks) fun b o e=>mk.keeps b o e;obtain ⟨tp,ob,_,_⟩:=mk.there;have hfree:H2 x=none:=by
   cases q:H2 x with
   | none=>rfl
   | some u =>
    have hob:=J.hok x u q;obtain ⟨o,eo⟩:∃ o,s2.heap.get? x=some o:=by
     cases u <;> first
      | (obtain ⟨_,_,_,_,e⟩:=hob;exact ⟨_,e⟩)
      | (obtain ⟨_,_,_,o,e,_⟩:=hob;exact ⟨o,e⟩)
      | (obtain ⟨_,_,_,_,o,_,_,e,_⟩:=hob;exact ⟨o,e⟩)
      | (obtain ⟨o,_,_,_,e,_⟩:=hob;exact ⟨o,e⟩)
      | (obtain ⟨_,_,_,e,_⟩:=hob;exact ⟨_,e⟩)
      | (obtain ⟨o,e⟩:=hob;exact ⟨o,e⟩)
      | (obtain ⟨_,⟨o,_,_,e,_⟩,_⟩:=hob;exact ⟨o,e⟩)
      | (obtain ⟨_,_,_,e⟩:=hob;exact ⟨_,e⟩)
      | (obtain ⟨e,_⟩:=hob;exact ⟨_,e⟩)
      | exact ⟨_,hob⟩
      | (obtain ⟨_,⟨o,e⟩,_⟩:=hob;exact ⟨o,e⟩)
    rw [mk.new] at eo;cases eo
  exact ⟨σ,H2,x,C,none,rfl,J3.less,⟨(Nw.gone J hx mk.new).less,hfree,_,_,ob,⟨rfl,rfl⟩,rfl,⟨by simp,fun _=>rfl⟩,fun _=>rfl,fun v z=>(by cases z)⟩,hE x⟩
end
def rQ (K:PySem.W.Frag) (mg:Str->Option Value) (F:List D->R D):Sp:=fun vs H Q E=>∃ as ds,(∀ a∈as,H a≠none)/\aX K (aS as H) ds vs/\dJ ⟨K,mg,E⟩ as H (F ds) Q
section
variable {P:Program} {w:World} {K:PySem.W.Frag} {mg:Str->Option Value} {base:Heap}
def x6 {φ:FS} {N ps:List Str}:∀ vs H Q E,rQ K mg (bM φ N ps) vs H Q E->vs.length=ps.length:=fun vs H Q E h=>by
 obtain ⟨as,ds,ex,dv,h⟩:=h;unfold bM at h;split at h
 ·rename_i hl;rw [<- dv.len];exact hl
 ·exact h.elim
def ye {φ:FS} {N ps:List Str} {O':List Nat} {vs:List V} {H:Hp} {Q:VK} {E:XK} (h:rQ K mg (bM φ N ps) vs H Q E):sD ⟨K,mg,E⟩ [] [] O' φ { nx:=fun _ H'=>Q .non H',rt:=Q } (start N vs) H:=by
 obtain ⟨as,ds,ex,dv,h⟩:=h;unfold bM at h;split at h
 ·rename_i hl;refine ⟨as,H,[],hU N ds,⟨?_,rfl,List.nodup_nil,List.nodup_nil,fun a ha=>(nomatch ha),ex,aD.refl _,fun i d _ e=>?_,fun i a h=>(by simp at h)⟩,?_⟩
  ·unfold hU start;simp [dv.len]
  ·unfold hU at e;unfold start;rw [<- dv.len];exact pq dv e
  ·cases hr:φ (hU N ds) with
   | ok fl =>
    rw [hr] at h;cases fl with
    | rt d=>exact fun v H' s dv'=>h v H' s dv'
    | rn d=>exact fun p o H' s hp e od=>h (.ref p) H' s (od.den (fun z=>ex p z hp) e)
    | nx δ=>exact fun own σ H' I=>h .non H' I.same rfl
    | bk δ=>exact h.elim
    | ct δ=>exact h.elim
   | er x=>rw [hr] at h;exact fun e C H' s=>h e C H' s
   | no=>rw [hr] at h;exact h.elim
 ·exact h.elim
def Fun.okX {x qual:Str} {st:Stmt} {f:Addr} {fd:FuncData} {N ps:List Str} {k:Nat} {φ:FS} {O':List Nat} (F:Fun K x qual st f fd) (S:FnScope N ps (ap st))
  (hbody:∀ (cdv:Value) (A:Around) (outer:List Env) (s:Shared) (H:Hp) (E:XK),Room k (A.deeper (envOfC qual (ap st) s.heap.objs.size f cdv)) ->
   JB ((lc (oJ P w mg) P w K mg base N qual (ap st) f cdv A outer s H E).may E) (cR st) (sD ⟨K,mg,E⟩ [] [] O' φ)):FnOk P w K mg base (oJ P w mg) (k+1) f fd ps (rQ K mg (bM φ N ps)):=by
 obtain ⟨oc,od,kV,doc,pm,an,cdv,ct,osl,rfl,lk,hcd⟩:=F.ex;exact L8 lk hcd S x6 fun A outer s H vs Q E hr hsp=>⟨_,(hbody cdv A outer s H E hr).out,ye hsp⟩
def Fun.okX1 {x qual:Str} {st:Stmt} {f:Addr} {fd:FuncData} {N ps:List Str} {k:Nat} {φ:FS} {O':List Nat} (F:Fun K x qual st f fd) (S:FnScope N ps (ap st)) {p0:Str} {pr:List Str} (hp:ps=p0::pr) (hl0:(ap st).names.lookup p0=some .local)
  (hbody:∀ (cdv:Value) (A:Around) (outer:List Env) (s:Shared) (H:Hp) (E:XK),Room k (A.deeper (envOfC qual (ap st) s.heap.objs.size f cdv)) ->
   JB (((lc (oJ P w mg) P w K mg base N qual (ap st) f cdv A outer s H E).up 1).may E) (cR st) (sD ⟨K,mg,E⟩ [] [] O' φ)):FnOk P w K mg base (oJ P w mg) (k+1) f fd ps (rQ K mg (bM φ N ps)):=by
 obtain ⟨oc,od,kV,doc,pm,an,cdv,ct,osl,rfl,lk,hcd⟩:=F.ex;exact GT lk hcd S hp hl0 x6 fun A outer s H vs Q E hr hsp=>⟨_,(hbody cdv A outer s H E hr).out,ye hsp⟩
def aV (F:List D->R D):List D->R D:=fun ds=>(F ds).calm
def FnOk.mayX {k:Nat} {f:Addr} {fd:FuncData} {ps:List Str} {F:List D->R D} (G:FnOk P w K mg base gW k f fd ps (jH K mg F)):FnOk P w K mg base (oJ P w mg) k f fd ps (rQ K mg (aV F)):=by
 have im:∀ vs H Q E,rQ K mg (aV F) vs H Q E->jH K mg F vs H Q E:=fun vs H Q E ⟨as,ds,ex,dv,h⟩=>by
  refine ⟨as,ds,ex,dv,?_⟩;unfold aV at h;cases hr:F ds with
  | ok d=>rw [hr] at h;exact h
  | er x=>rw [hr] at h;exact h.elim
  | no=>rw [hr] at h;exact h.elim
 refine ⟨fun vs H Q E h=>G.len vs H Q E (im _ _ _ _ h),fun A outer s H args us vs Q E hr he hb hv hs=>codeAny_mono (G.run A outer s H args us vs Q E hr he hb hv (im _ _ _ _ hs)) fun r s' hq=>?_⟩;cases r with
 | error e=>exact hq.elim
 | ok fl=>cases fl <;> exact hq
end
section
variable {X:Cx} {K:PySem.W.Frag} {mg:Str->Option Value} {E:XK} {O:List Nat} {x:Str} {st:Stmt} {ps:List Str} {f:Addr} {fd:FuncData} {j k:Nat} {F:List D->R D} {p pos:Pos} {e:Expr} {es:List Expr} {α:FA}
def bi (D:Def X.K X.mg x st ps f fd) (G:FnOk X.prog X.w X.K X.mg X.base (oJ X.prog X.w X.mg) j f fd ps (rQ K mg F)) (hr:Room k X.A) (ha:JA (X.may E) (e::es) (tw ⟨K,mg,E⟩ O α)) (hj:j<=k:=by decide) (hx:i7 X:=by first|assumption|exact i7.nil rfl) (hg:Gl X x:=by rfl) (hdb:(x==("__debug__":Str))=false:=by decide)
  (h1:aR e=true:=by rfl) (h2:es.all aR=true:=by rfl):JE (X.may E) (.Call (.Name x p) (e::es) [] pos) (tD ⟨K,mg,E⟩ O (ak F α)) :=
 (JE.mk (pcX D G hr ha.out hx hj hg hdb h1 h2)).imp fun σ H Q hh=>g4 hh fun as0 B own δ I h=>⟨as0,B,own,δ,I,fe h fun ds vs H1 s1 d1 h1=>⟨own++as0,ds,(I.mono s1).exi,d1,h1⟩⟩
variable {Ob O':List Nat} {cn:Str} {C:Addr} {np cpos:Pos}
def vw (cn:Str) (α:FA):FS:=fun δ=>(α δ).bind fun ds=>if ds.length<=10 then .er cn else .no
def bS (hm:X.mg cn=some (.ref C)) (hq:PySem.W.excIn X.K C uI "ValueError.__new__"=true) (ha:JA (X.may E) (e::es) (tw ⟨K,X.mg,E⟩ O α)) (hc:X.calm=true:=by rfl) (hx:i7 X:=by first|assumption|exact i7.nil rfl) (hg:Gl X cn:=by rfl) (hdb:(cn==("__debug__":Str))=false:=by decide)
  (h1:(e::es).all aR=true:=by rfl):JS (X.may E) (.Raise (some (.Call (.Name cn np) (e::es) [] cpos)) none pos) (sD ⟨K,X.mg,E⟩ Ob O O' (vw cn α)) :=
 (JS.mk (Du hm hq hc hx ha.out hg hdb h1)).imp fun D' σ H hh=>g4 hh fun as0 B own δ I h=>⟨as0,B,own,δ,I,by
  unfold vw at h;cases hr:α δ with
  | ok ds =>
   rw [hr,ah] at h;intro vs H' s dv;split at h
   ·rename_i hl;exact ⟨by rw [<- dv.len];exact hl,fun x=>h _ C H' (I.same.trans s) hm⟩
   ·exact h.elim
  | er y=>rw [hr] at h;exact fun e C' H' s hy=>h e C' H' (I.same.trans s) hy
  | no=>rw [hr] at h;exact h.elim⟩
end
section
variable {X:Cx} {W:Wd} {O:List Nat} {φ:FE}
def tFs (c:Str) (ta:TE):TE:=fun σ H Q=>ta σ H fun v H1=>∃ z,v=.str z/\c.length+10*z.length+2<=1000000/\(∀ k∈z.cps.toList,k < 16 ^ 8)/\Q (.str (c++reprText z)) H1
def empty_app (c:Str):Str.empty++c=c:=by
 obtain ⟨a⟩:=c;show (⟨#[]++a⟩:Str)=⟨a⟩;simp
def HQ {c:Str} {j:Nat} {p1 p2 pos:Pos} {a:Expr} {ta:TE} (ha:PE X a ta) (hcl:c.length<=1000):PE X (.JoinedStr [.Constant (.str c) j p1,.FormattedValue a 114 none p2] pos) (tFs c ta):=by
 intro af s σ H Q I h;refine wpAny_JoinedStr ?_;refine Calls.Constant_str (k:=j) (pos:=p1) ⟨c,s.toks,rfl,?_,?_⟩
 ·rw [empty_app,sizeLine_eq];exact Nat.le_trans hcl (by decide)
 have I1:Inv X af σ H { s with toks:=s.toks+1 }:=I.tok (s.toks+1);refine wpAny_FormattedValue_repr (eB (ha af _ σ H _ I1 h) fun v s1 hh=>mP hh fun x H1 I2 r1 q1=>?_);obtain ⟨z,rfl,hl,hk,q⟩:=q1;obtain ⟨tk,rfl⟩:=r1;have hr:=StrLaws.reprText_len z hk;refine wpAny_pyReprObj_str ?_ (by rw [sizeLine_eq];omega);have fin:∀ (t0:Nat) (t1:Tok),X.tn<=t0->∃ y t,Value.str (reprText z) t1=.str y t/\(Str.empty++c++y).length<=sizeLine/\(Str.empty++c++y).length<=sizeLine/\EP X af σ Q (.str (Str.empty++c++y) t0) { s1 with toks:=t0+1 }:=fun t0 t1 ht=>by
  have e:Str.empty++c++reprText z=c++reprText z:=by rw [empty_app]
  have hz:(Str.empty++c++reprText z).length<=sizeLine:=by
   rw [e,strLen_append,sizeLine_eq];omega
  exact ⟨_,t1,rfl,hz,hz,.str (c++reprText z),H1,I2.tok (t0+1) (Nat.le_succ_of_le ht),⟨t0,by rw [e]⟩,q⟩
 refine wpAny_formatField_str ?_ ?_ (by rw [sizeLine_eq];omega)
 ·exact fin (s1.toks+1) s1.toks (Nat.le_succ_of_le I2.tk)
 ·exact fin (s1.toks+1+1) (s1.toks+1) (Nat.le_succ_of_le (Nat.le_succ_of_le I2.tk))
def sA (c:Str) (φ:FE):FE:=fun δ=>(φ δ).bind fun d=>match d with
 | .str z=>if c.length+10*z.length+2<=1000000/\(∀ k∈z.cps.toList,k < 16 ^ 8) then .ok (.str (c++reprText z)) else .no
 | _=>.no
def g6 {c:Str} {j:Nat} {p1 p2 pos:Pos} {a:Expr} (ha:JE X a (tD W O φ)) (hcl:c.length<=1000:=by decide +kernel):JE X (.JoinedStr [.Constant (.str c) j p1,.FormattedValue a 114 none p2] pos) (tD W O (sA c φ)) :=
 (JE.mk (HQ (c:=c) (j:=j) (p1:=p1) (p2:=p2) (pos:=pos) ha.out hcl)).imp fun σ H Q hh=>g4 hh fun as0 B own δ I h=>⟨as0,B,own,δ,I,bG h fun x v H1 s1 d1 h1=>by
  split at h1
  ·cases d1;split at h1
   ·rename_i hl;exact ⟨_,rfl,hl.1,hl.2,aP h1 rfl⟩
   ·exact h1.elim
  ·exact h1.elim⟩
end
section
variable {X:Cx} {osc:Scope} {ON N:List Str} {ix:List (Option Nat)} {scope:Scope} {tg elt iter:Expr} {ifs:List Expr} {pos:Pos} {wi:TI} {g:TG} {tt:TT} {te:TE}
def Iq {cl:List (Str×Addr)} {C:Addr} {s0:Shared} {H0:Hp} {fp:List Addr} {af pl:List (Addr×Obj)} {σ:St} {H:Hp} {s:Shared} (I:Inv (jL X N scope ⟨cl,C,s0,H0,fp,af⟩) ([]++pl) σ H s):Inv (jL X N scope ⟨cl,C,s0,H0,fp,af++pl⟩) [] σ H s :=
 ⟨⟨I.ok.mod,I.ok.kind,I.ok.glob,I.ok.blt,I.ok.above,I.ok.inj,I.ok.has,I.ok.cab,I.ok.hd,I.ok.frames,I.ok.stk,I.ok.exf,I.ok.bs,I.ok.bsz,I.ok.noex,I.ok.exfs,I.ok.funs,I.ok.frf⟩,I.os,I.bare,I.base,I.loc,I.cell,I.free,I.freeC,fun p hp=>I.pin p (by
  have hp:p∈(X.pn++(af++pl))++[]:=hp;show p∈(X.pn++af)++([]++pl);simpa using hp),I.hok,I.len,I.tk⟩
def yO {cl:List (Str×Addr)} {C:Addr} {s0:Shared} {H0:Hp} {fp:List Addr} {af pl:List (Addr×Obj)} {σ:St} {H:Hp} {s:Shared} (I:Inv (jL X N scope ⟨cl,C,s0,H0,fp,af++pl⟩) [] σ H s):Inv (jL X N scope ⟨cl,C,s0,H0,fp,af⟩) ([]++pl) σ H s :=
 ⟨⟨I.ok.mod,I.ok.kind,I.ok.glob,I.ok.blt,I.ok.above,I.ok.inj,I.ok.has,I.ok.cab,I.ok.hd,I.ok.frames,I.ok.stk,I.ok.exf,I.ok.bs,I.ok.bsz,I.ok.noex,I.ok.exfs,I.ok.funs,I.ok.frf⟩,I.os,I.bare,I.base,I.loc,I.cell,I.free,I.freeC,fun p hp=>I.pin p (by
  have hp:p∈(X.pn++af)++([]++pl):=hp;show p∈(X.pn++(af++pl))++[];simpa using hp),I.hok,I.len,I.tk⟩
def KL {b:Bk} {af:List (Addr×Obj)} {σ:St} {H:Hp} {s:Shared} (I:Inv (jL X N scope b) af σ H s):Inv (jL (X.up 0) N scope b) af σ H s:=I
def KS {af:List (Addr×Obj)} {H:Hp} {h:Heap} {x C:Addr} {fl:Option Value} (e:ExcAt (X.up 0) af H h x C fl):ExcAt X af H h x C fl:=by
 obtain ⟨oe,vs,b1,b2,b3,b4,b5,b6⟩:=e.ob;have nw:∀ {b:Addr},Nw (X.up 0) af b->Nw X af b:=fun n=>⟨n.base,n.loc,n.fs,n.cell,n.pin⟩;exact ⟨nw e.nx,e.hx,oe,vs,b1,b2,b3,b4,b5,fun v q=>let ⟨T',oT,ts,c1,c2,c3⟩:=b6 v q;⟨T',oT,ts,c1,nw c2,c3⟩⟩
def A0 {E1:XK} {af:List (Addr×Obj)} {σ:St} {H:Hp} {s:Shared} {it:Addr} {fp:List Addr} {tn:Nat->Heap->Prop} {J:It} {Q:VK} {E:Value->Shared->Prop} {RR:Value->Addr->Result->Shared->Prop}
  (S:CScope osc ON N ix scope) (hE:X.env.scope=osc) (hO:X.N=ON) (hc:X.calm=true) (hg:∀ b,PG (jL X N scope b) tg g) (ht:∀ b,Il (jL X N scope b) ifs tt) (he:∀ b,i7 (jL X N scope b)->PE ((jL X N scope b).may E1) elt te) (hpn:i7 X) (hst:X.stack=X.env::X.outer) (hfX:X.env.frame=some X.env.locals)
  (I:Inv X af σ H s) (T:Turn X.prog X.w X.K tg J fp it tn) (st:tn 0 s.heap) (hfp:∀ b∈fp,iV X af H b) (q:uw g tt te J (jp ix σ) H Q)
  (hRR:∀ (acc C:Addr) (H':Hp) (s':Shared),Inv X af σ H' s'->(∃ m,s'.heap.Ns C m)->H' C=none->iV X af H' C->Q (.ref acc) H'->RR (.ref acc) C (.ok .next) s')
  (hEE:∀ (acc Cc x C:Addr) (H':Hp) (s':Shared) (v:Value),Inv X af σ H' s'->(∃ m,s'.heap.Ns Cc m)->H' Cc=none->iV X af H' Cc->x≠Cc->ExcAt X (af++eH [Cc] s'.heap) H' s'.heap x C (some v)->E1 (.ref x) (some C) H'->RR (.ref acc) Cc (.error (.ref x)) s') :
  wpAny (model X.prog X.w) X.A (newList []) (fun acc s₃=>wpAny (model X.prog X.w) X.A (newFunctionEnv scope X.env.globals (fc X.env.cells scope.names []) [] X.env.qual none .none (some X.env)) (fun cenv s₄ =>
   codeAny (model X.prog X.w) X.A (.compStart (.ListComp elt [⟨tg,iter,ifs,0⟩] scope pos) 0 (.ref it) acc { cenv with scope:=relabel scope X.env }) (RR acc cenv.locals) s₄) E s₃) E s:=by
 refine wpAny_newObj_type (wpAny_newFunctionEnv S.nocell (by intro y hy;simp at hy) (fun h₁ hns₁ hsb₁=>?_) S.kind);dsimp only at hns₁ hsb₁ ⊢
 -- the list,tracked
 have I3:Inv X af σ (dE H s.heap.objs.size (.lst [])) { s with heap:=s.heap.push { cls:=.type "list",dict:=none,data:=.seq ([]:List Value).toArray } } :=
  I.laid (t':=s.toks) (fun b o e=>Heap.get?_push_of_some _ e) (Nat.le_refl _) (show eO X.prog X.w _ _ _ (.lst []) from ⟨Nat.zero_le _,[],_,.nil,Heap.get?_push_size _ rfl⟩)
 have hacc:H s.heap.objs.size=none:=I.hok.fresh (Nat.le_refl _);have hfo:∀ b∈fp,∃ o,s.heap.get? b=some o:=fun b hb=>let ⟨o,e,_⟩:=T.obj 0 _ st b hb;⟨o,e⟩;have fne:∀ b∈fp,b≠s.heap.objs.size:=fun b hb=>let ⟨o,e⟩:=hfo b hb;Nat.ne_of_lt (Heap.lt_size e);have hfp3:∀ b∈fp,iV X af (dE H s.heap.objs.size (.lst [])) b:=fun b hb=>⟨by rw [bn (fne b hb)];exact (hfp b hb).1,(hfp b hb).2⟩;obtain ⟨W,⟨m0,w0⟩,turn⟩:=q s.heap.objs.size hacc;generalize hH2:s.heap.push { cls:=.type "list",dict:=none,data:=.seq ([]:List Value).toArray }=h2 at *;have hk1:∀ b o,h2.get? b=some o->h₁.get? b=some o:=fun b o e=>hsb₁.extBut b o (Nat.ne_of_lt (Heap.lt_size e)) (Heap.get?_push_of_some _ e);have old:∀ b o,s.heap.get? b=some o->h2.get? b=some o:=fun b o e=>by rw [<- hH2];exact Heap.get?_push_of_some _ e
 have fin:∀ s₄:Shared,s₄={ s with heap:=h₁,toks:=s₄.toks }->X.tn<=s₄.toks->codeAny (model X.prog X.w) X.A (.compLoop (.ListComp elt [⟨tg,iter,ifs,0⟩] scope pos) 0 (.ref it) (.ref s.heap.objs.size) (compEnvC scope (fc X.env.cells scope.names []) h2.objs.size X.env))
   (RR (.ref s.heap.objs.size) h2.objs.size) s₄:=by
  intro s₄ e4 ht4;refine fP ht4 ?_;have J0:Inv (jL X N scope ⟨fc X.env.cells scope.names [],h2.objs.size,{ s with heap:=h2 },dE H s.heap.objs.size (.lst []),fp,af⟩) [] (jp ix σ) (dE H s.heap.objs.size (.lst [])) s₄ :=
   CV (s:={ s with heap:=h2 }) I3 hE hO S hfp3 (fun b hb=>let ⟨o,e⟩:=hfo b hb;⟨o,old b o e⟩) hns₁ hk1 e4
  generalize hX:jL X N scope ⟨fc X.env.cells scope.names [],h2.objs.size,{ s with heap:=h2 },dE H s.heap.objs.size (.lst []),fp,af⟩=Y at J0;have eE:compEnvC scope (fc X.env.cells scope.names []) h2.objs.size X.env=Y.env:=by rw [<- hX];rfl
  have eP:X.prog=Y.prog:=by rw [<- hX];rfl
  have eW:X.w=Y.w:=by rw [<- hX];rfl
  have eA:X.A=Y.A:=by rw [<- hX];rfl
  have eK:X.K=Y.K:=by rw [<- hX];rfl
  have eC:Y.calm=true:=by rw [<- hX];exact hc
  have T':Turn Y.prog Y.w Y.K tg J fp it tn:=by rw [<- eP,<- eW,<- eK];exact T
  have st0:tn 0 s₄.heap:=T.keep _ _ _ st fun b hb o e=>by rw [e4];exact hk1 b o (old b o e)
  have fpY:∀ {H':Hp},(∀ b∈fp,H' b=none)->∀ b∈fp,iV Y [] H' b:=fun {H'} hn b hb=>by
   rw [<- hX];have f:=hfp b hb;refine ⟨hn b hb,?_,?_,.inl hb,?_,?_⟩
   ·have:=J0.ok.exf b (by rw [<- hX];exact hb)
    rw [<- hX] at this;exact this.1
   ·have:=J0.ok.exfs b (by rw [<- hX];exact hb)
    rw [<- hX] at this;exact this
   ·have:=J0.ok.exf b (by rw [<- hX];exact hb)
    rw [<- hX] at this;exact this.2
   ·intro p hp;have hp':p∈X.pn++af:=by
     rcases List.mem_append.mp hp with z|z
     ·exact z
     ·cases z
    exact f.2.2.2.2.2 p hp'
  have accne:s.heap.objs.size∉fp:=fun z=>fne _ z rfl;have never:∀ e s',Y.xe e s'->False:=by rw [<- hX];exact fun _ _ z=>z
  have hgY:PG Y tg g:=by rw [<- hX];exact hg _
  have htY:Il Y ifs tt:=by rw [<- hX];exact ht _
  rw [eE,eP,eW,eA];refine pI (fun n s'=>∃ i σ' H',Inv Y [] σ' H' s'/\tn i s'.heap/\(∀ b∈fp,H' b=none)/\W i n σ' H') ?_ m0 ⟨0,jp ix σ,_,J0,st0,fun b hb=>(hfp3 b hb).1,w0⟩;rintro n s5 ⟨i,σ5,H5,I5,st5,fr5,w5⟩;rcases turn i n σ5 H5 w5 with ⟨stop,qn⟩|⟨go,M,hM,step⟩
  ·refine eB (T'.done Y rfl rfl rfl eC i [] s5 σ5 H5 _ I5 (fpY fr5) st5 stop) fun r s6 ⟨hr,I6⟩=>?_;subst hr;have I6':=I6;rw [<- hX] at I6';intro htk;obtain ⟨a1,a2,a3,a4⟩:=ux (s:={ s with heap:=h2 }) I3 hfp3 I6' htk;exact hRR _ _ H5 s6 a1 a2 a3 a4 qn
  ·refine eB (T'.item Y rfl rfl rfl eC i [] s5 σ5 H5 _ I5 (fpY fr5) st5 go) fun r s6 ⟨u,hr,h6⟩=>?_;subst hr;refine eB h6 fun _ s7 ⟨x,H7,I7,r7,y7,st7,fr7⟩=>?_;have I7':=I7.pinned (fpY fr7) (T.obj _ _ st7);refine wpAny_mono (hgY _ s7 σ5 H7 x u _ I7' r7 (step x H7 y7)) (fun _ s8 ⟨σ8,H8,I8,q8⟩=>?_) fun e s' z=>(never e s' z).elim;refine wpAny_mono (htY _ s8 σ8 H8 _ I8 q8) (fun ok s9 ⟨H9,I9,q9⟩=>?_) fun e s' z=>(never e s' z).elim;have again:∀ {σa:St} {Ha:Hp} {sa:Shared},Inv Y ([]++eH fp s7.heap) σa Ha sa->M σa Ha->∃ m,m < n/\∃ i σ' H',Inv Y [] σ' H' sa/\tn i sa.heap/\(∀ b∈fp,H' b=none)/\W i m σ' H':=fun {σa Ha sa} Ia na=>by
    obtain ⟨m',hm,wa⟩:=hM σa Ha na;refine ⟨m',hm,i+1,σa,Ha,Ia.unpinned,T.keep _ _ _ st7 fun b hb o e=>(Ia.pin (b,o) (List.mem_append_right _ (List.mem_append_right _ (cN hb e)))).1,fun b hb=>?_,wa⟩;obtain ⟨o,e,d⟩:=T.obj _ _ st7 b hb;exact (Ia.pin (b,o) (List.mem_append_right _ (List.mem_append_right _ (cN hb e)))).2.1
   cases ok with
   | false =>
    rw [if_neg Bool.false_ne_true] at q9 ⊢;exact again I9 q9
   | true =>
    rw [if_pos rfl] at q9 ⊢;have I9':Inv (jL X N scope ⟨fc X.env.cells scope.names [],h2.objs.size,{ s with heap:=h2 },dE H s.heap.objs.size (.lst []),fp,af++eH fp s7.heap⟩) [] σ8 H9 s9:=by
     rw [<- hX] at I9;exact Iq I9
    have hex:i7 (jL X N scope ⟨fc X.env.cells scope.names [],h2.objs.size,{ s with heap:=h2 },dE H s.heap.objs.size (.lst []),fp,af++eH fp s7.heap⟩):=fun b hb=>by
     obtain ⟨o,e,d⟩:=T.obj _ _ st7 b hb;exact ⟨o,List.mem_append_right _ (List.mem_append_right _ (cN hb e))⟩
    rw [<- eP,<- eW,<- eA,<- eE];refine wpAny_mono (he _ hex [] s9 σ8 H9 _ (I9'.wish _) q9) (fun y sb ⟨vb,Hb,Ib',rb,xs,hx,hz,nb⟩=>?_) fun e s' z=>?_
    rotate_left
    ·obtain ⟨σz,Hz,x,Cz,fl,rfl,Iz,ez,hE⟩:=z;have Jz:=yO Iz;obtain ⟨a1,⟨m,hn⟩,a3,a4⟩:=ux (X:=X.up 0) (s:={ s with heap:=h2 }) (I3.up (Nat.zero_le _)) hfp3 (KL Jz.unpinned) (Nat.zero_le _);have hCo:∃ o,s'.heap.get? h2.objs.size=some o/\∀ v,o.data≠.cell v:=by
      obtain ⟨o,es,ep,ho,hd,_⟩:=hn;exact ⟨o,ho,fun v z=>by rw [hd] at z;cases z⟩
     have only:∀ b∈[h2.objs.size],b=h2.objs.size:=fun b hb=>by simpa using hb
     have P1:=a1.pinned (fp:=[h2.objs.size]) (fun b hb=>(only b hb) ▸ a4) (fun b hb=>(only b hb) ▸ hCo);have nwX:∀ {b:Addr},Nw (jL X N scope ⟨fc X.env.cells scope.names [],h2.objs.size,{ s with heap:=h2 },dE H s.heap.objs.size (.lst []),fp,af++eH fp s7.heap⟩) [] b->Nw (X.up 0) (af++eH [h2.objs.size] s'.heap) b:=fun {b} n=>by
      have g:=Nw.gone (X:=X.up 0) (I3.up (Nat.zero_le _)) hpn (b:=b) n.base;refine ⟨g.base,g.loc,g.fs,g.cell,fun p hp z=>?_⟩;rcases List.mem_append.mp hp with q|q
      ·exact g.pin p (List.mem_append_left _ q) z
      ·rcases List.mem_append.mp q with q|q
       ·exact g.pin p (List.mem_append_right _ q) z
       ·exact n.loc (z ▸ (only _ (wA q).1))
     have ezX:ExcAt (X.up 0) (af++eH [h2.objs.size] s'.heap) Hz s'.heap x Cz fl:=by
      obtain ⟨oe,vs,b1,b2,b3,b4,b5,b6⟩:=ez.ob;exact ⟨nwX ez.nx,ez.hx,oe,vs,b1,b2,b3,b4,b5,fun v q=>let ⟨T',oT,ts,c1,c2,c3⟩:=b6 v q;⟨T',oT,ts,c1,nwX c2,c3⟩⟩
     have hfr:X.A.frames=some (X.env::X.outer):=by rw [<- hst];exact I.ok.frames
     refine jY (X:=X.up 0) (ev:=compEnvC scope (fc X.env.cells scope.names []) h2.objs.size X.env) hfX hfr hst hfX P1 ezX fun h' J1 e1=>fun htk=>?_;obtain ⟨oC,hoC,hdC⟩:=hCo;have pC:=J1.pin (h2.objs.size,oC) (List.mem_append_right _ (List.mem_append_right _ (cN (by simp) hoC)));have K1:Inv X af σ Hz { s' with heap:=h' }:=(J1.unpinned.up (n:=X.tn) htk);have eqp:eH [h2.objs.size] h'=eH [h2.objs.size] s'.heap:=by
      unfold eH;simp only [List.filterMap_cons,List.filterMap_nil];rw [pC.1,hoC]
     refine hEE s.heap.objs.size h2.objs.size x Cz Hz { s' with heap:=h' } (rawInt X.env.locals) K1 ⟨m,?_⟩ a3 a4 ez.nx.loc ?_ hE
     ·obtain ⟨o,es,ep,ho,hd,r⟩:=hn;rw [hoC] at ho;cases ho;exact ⟨oC,es,ep,pC.1,hd,r⟩
     ·rw [eqp];exact KS e1
    have Ib:Inv Y ([]++eH fp s7.heap) σ8 Hb sb:=by
     rw [<- hX];exact yO Ib'.unwish
    rw [eP,eW,eA];refine wpAny_mono (qO (X:=Y) _ sb σ8 Hb (.ref s.heap.objs.size) [vb] (.ref s.heap.objs.size) [y] (fun v H'=>M σ8 H') Ib rfl (.cons rb .nil) ⟨s.heap.objs.size,xs,vb,rfl,rfl,hx,hz,nb⟩) (fun _ sc ⟨vc,Hc,Ic,rc,nc⟩=>?_) fun e s' z=>(never e s' z).elim;exact again Ic nc
 exact codeAny_compStart_list (fin _ rfl (by walk_at "tok")) (T.self _ 0 _ _ _ (T.keep _ _ _ st fun b hb o e=>hk1 b o (old b o e)) (fin _ rfl (by walk_at "tok")))
def DN {E:XK} (S:CScope osc ON N ix scope) (hE:X.env.scope=osc) (hO:X.N=ON) (hc:X.calm=true) (hi:PI (X.may E) tg iter wi) (hg:∀ b,PG (jL X N scope b) tg g) (ht:∀ b,Il (jL X N scope b) ifs tt) (he:∀ b,i7 (jL X N scope b)->PE ((jL X N scope b).may E) elt te)
  (hpn:i7 X) (hst:X.stack=X.env::X.outer) (hfX:X.env.frame=some X.env.locals) (hs:∀ x,foldedSetIterable iter X.env x=pure x):PE (X.may E) (.ListComp elt [⟨tg,iter,ifs,0⟩] scope pos) (zO ix wi g tt te):=by
 intro af s σ H Q I h;rw [eval_ListComp];have hcells:∀ y∈scope.names,y.2=.free->∃ c,X.env.cells.lookup y.1=some c:=fun y hy e=>I.ok.has y.1 (by subst hE;exact S.outs y hy e);refine wpAny_comprehension_free (use:=none) rfl hs (jh hcells) S.kind S.names (eB (hi af s σ H _ I h) fun v s1 h1=>eB h1 fun itv s2 h2=>?_);obtain ⟨it,fp,tn,J,H2,e,I2,T,st2,f2,q⟩:=h2;subst e;refine A0 (X:=X) (E1:=E) (RR:=fun acc C=>compPost (model X.prog X.w) X.A (XE X E) none (EP (X.may E) af σ Q) acc C) S hE hO hc hg ht he hpn hst hfX I2.unwish T st2 f2 q (fun acc C H' s' I' hn hC fC q'=>?_) fun acc Cc x C H' s' v I' hn hC fC hxC ea hEx=>?_
 ·obtain ⟨m,hn⟩:=hn;refine ⟨m,hn,fun h' sb=>⟨.ref acc,H',Inv.wish ?_ _,rfl,q'⟩⟩;obtain ⟨f0,f1,f2',f3,f4,f5⟩:=fC;exact I'.turned (t':=s'.toks) (fun b o hb e=>(sb.2 b hb).trans e) f0 f1 f3 f4 f5
 ·obtain ⟨m,hn⟩:=hn;refine ⟨m,hn,fun h' sb cenv hcl=>?_⟩;obtain ⟨f0,f1,f2',f3,f4,f5⟩:=fC;have I3:Inv X af σ H' { s' with heap:=h' }:=I'.turned (t':=s'.toks) (fun b o hb e=>(sb.2 b hb).trans e) f0 f1 f3 f4 f5;obtain ⟨oe,vs,b1,b2,b3,b4,b5,b6⟩:=ea.ob;obtain ⟨T',oT,ts,c1,c2,c3,c4,c5,c6,c7⟩:=b6 v rfl;have hoC:∃ o,s'.heap.get? Cc=some o:=let ⟨o,_,_,ho,_⟩:=hn;⟨o,ho⟩;obtain ⟨oC,hoC⟩:=hoC;have hTC:T'≠Cc:=fun z=>c2.pin (Cc,oC) (List.mem_append_right _ (List.mem_append_right _ (cN (by simp) hoC))) z.symm;have cut:∀ {b:Addr},Nw X (af++eH [Cc] s'.heap) b->Nw X af b:=fun n=>⟨n.base,n.loc,n.fs,n.cell,fun p hp=>n.pin p (by
   rcases List.mem_append.mp hp with z|z
   ·exact List.mem_append_left _ z
   ·exact List.mem_append_right _ (List.mem_append_left _ z))⟩
  have e3:ExcAt X af H' h' x C (some v):=⟨cut ea.nx,ea.hx,oe,vs,(sb.2 x hxC).trans b1,b2,b3,b4,fun z=>(by cases z),fun v' z=>(by
   cases z;exact ⟨T',oT,ts,c1,cut c2,c3,c4,(sb.2 T' hTC).trans c5,c6,c7⟩)⟩
  unfold PySem.passOn;refine wpAny_bind (wpAny_field (s:={ s' with heap:=h' }) ((sb.2 x hxC).trans b1) b3 c1 ?_);have hne:¬ ((Value.ref T'==Value.none)=true):=by simp
  rw [if_neg hne];refine wpAny_bind (dF (s:={ s' with heap:=h' }) I3 e3 cenv.frame fun h4 I4 e4=>?_);exact wpAny_throw ⟨σ,H',x,C,_,rfl,I4.less,e4.less,hEx⟩
end
def oq (tg:TgD) (τ:FT) (ε:FE) (δ0:Sd) (xs:List D):R D:=if sw tg δ0=true/\xs.length<=1000000 then (dq tg τ ε δ0 xs).bind fun ys=>.ok (.lst ys) else .no
def ui (ix:List (Option Nat)) (ι:FA) (tg:TgD) (τ:FT) (ε:FE):FE:=fun δ=>(ι δ).bind fun xs=>oq tg τ ε (cf ix δ) xs
section
variable {X:Cx} {W Wb:Wd} {O:List Nat} {osc:Scope} {ON N:List Str} {ix:List (Option Nat)} {scope:Scope} {tg elt iter:Expr} {ifs:List Expr} {pos:Pos} {ι:FA} {t:TgD} {τ:FT} {ε:FE}
def Dz {tg:TgD} {d:D} {δ:Sd} {x:Str} (h:gY tg d δ=.er x):False:=by
 cases tg with
 | one i=>cases h
 | tup is =>
  cases d with
  | tup ds =>
   have h':(if ds.length=is.length then R.ok (ka is ds δ) else .no)=.er x:=h;split at h' <;> cases h'
  | _=>cases h
def Eu {K:PySem.W.Frag} {as0 own:List Addr} {B H:Hp} {σ:St} {δ:Sd} {xs:List D} {J:It} {Q:VK} (hWb:Wb.K=K) (I:DI K as0 B O own σ δ H) (hO:∀ j∈ix,∀ k,j=some k->k∉O) (G:GivesC K (own++as0) H J xs)
  (hq:match oq t τ ε (cf ix δ) xs with
   | .ok d=>∀ p o H',aD H H'->H p=none->H' p=some o->l9 K (aS (p::(own++as0)) H') o d->Q (.ref p) H'
   | .er x=>∀ e C H',aD H H'->Wb.mg x=some (.ref C)->Wb.E e (some C) H'
   | .no=>False):uw (gD Wb [] t) (sV Wb [] τ) (tD Wb [] ε) J (jp ix σ) H Q:=by
 intro acc hacc;unfold oq at hq;by_cases hc:sw t (cf ix δ)=true/\xs.length<=1000000
 ·rw [if_pos hc] at hq;obtain ⟨hf,hlen⟩:=hc;generalize hall:dq t τ ε (cf ix δ) xs=ra at hq;have hq':∀ (es:List D) (r:R (List D)),ra=(r.bind fun rest=>.ok (es++rest))->match r with
    | .ok rest=>∀ p o H',aD H H'->H p=none->H' p=some o->l9 K (aS (p::(own++as0)) H') o (.lst (es++rest))->Q (.ref p) H'
    | .er x=>∀ e C H',aD H H'->Wb.mg x=some (.ref C)->Wb.E e (some C) H'
    | .no=>False:=fun es r e=>by
   subst e;cases r with
   | ok rest=>exact hq
   | er x=>exact hq
   | no=>exact hq
  clear hq;generalize hδ0:cf ix δ=δ0 at hf hall;have cl:δ0.length=(jp ix σ).length:=by rw [<- hδ0];unfold cf jp;simp
  have cv:∀ (i:Nat) (d:D),δ0[i]?=some (some d)->∃ v,(jp ix σ)[i]?=some (some v)/\gy K (aS (own++as0) H) d v:=by rw [<- hδ0];exact CY I hO
  generalize jp ix σ=σ0 at cl cv;have exM0:=I.exi;generalize hM:own++as0=M at cv hq' G exM0;have exM:∀ a∈M,H a≠none:=exM0;have naM:acc∉M:=fun z=>exM acc z hacc
  -- heaps of the turns
  have exA:∀ {H':Hp},aD H H'->(∃ o,H' acc=some o)->∀ a∈acc::M,H' a≠none:=fun {H'} s ⟨o,e⟩ a ha=>by
   rcases List.mem_cons.mp ha with rfl|ha
   ·rw [e];simp
   ·cases q:H a with
    | none=>exact absurd q (exM a ha)
    | some u=>rw [s a u q];simp
  have s0:aD H (dE H acc (.lst [])):=bo hacc _;have start:ra=((dq t τ ε δ0 (xs.drop 0)).bind fun rest=>.ok ([]++rest)):=by
   rw [<- hall,List.drop_zero];cases dq t τ ε δ0 xs <;> rfl
  refine ⟨fun i m σ' H'=>m=xs.length - i/\i<=xs.length/\∃ ys es,H' acc=some (.lst ys)/\ys.length<=i/\aD H H'/\aX K (aS (acc::M) H') es ys/\ra=((dq t τ ε δ0 (xs.drop i)).bind fun rest=>.ok (es++rest))/\DI K (acc::M) H' [] [] σ' δ0 H',
   ⟨xs.length,by simp,Nat.zero_le _,[],[],br,Nat.zero_le _,s0,rfl,start,DI.plain cl (exA s0 ⟨_,br⟩) fun i d e=>let ⟨v,h1,h2⟩:=cv i d e;⟨v,h1,h2.mono (qd hacc s0)⟩⟩,?_⟩
  rintro i m σ1 H1 ⟨rfl,hi,ys,es,e1,hl1,s1,d1,c1,I1⟩;have sB:aD H H1:=s1;by_cases hlt:i < xs.length
  ·refine .inr ⟨G.go i H1 sB hlt,fun σ' H'=>∃ ys es,H' acc=some (.lst ys)/\ys.length<=i+1/\aD H H'/\aX K (aS (acc::M) H') es ys/\ra=((dq t τ ε δ0 (xs.drop (i+1))).bind fun rest=>.ok (es++rest))/\DI K (acc::M) H' [] [] σ' δ0 H',
    fun σ' H' ⟨ys,es,q⟩=>⟨xs.length - (i+1),by omega,rfl,hlt,ys,es,q⟩,fun v H2 y=>?_⟩
   obtain ⟨s2,d,hd,dv⟩:=G.yl i H1 v H2 acc sB hacc (exA s1 ⟨_,e1⟩) hlt y;have ed:xs.drop i=d::xs.drop (i+1):=by
    rw [List.drop_eq_getElem_cons hlt];rw [List.getElem?_eq_getElem hlt] at hd;cases hd;rfl
   rw [ed] at c1;have c1:ra=(((gY t d δ0).bind fun δ1=>(τ δ1).bind fun b=>if b=true then (ε δ1).bind fun y=>(dq t τ ε δ0 (xs.drop (i+1))).bind fun ys=>.ok (y::ys) else dq t τ ε δ0 (xs.drop (i+1))).bind fun rest=>.ok (es++rest)):=c1;cases b1:gY t d δ0 with
   | er x=>exact (Dz b1).elim
   | no=>rw [b1] at c1;exact (hq' es .no c1).elim
   | ok δ1 =>
    rw [b1,ah] at c1;have I2:DI K (acc::M) H2 [] [] σ1 δ0 H2:=DI.plain I1.len (exA (s1.trans s2) ⟨_,s2 _ _ e1⟩) fun i d e=>let ⟨v,h1,h2⟩:=I1.var i d (by simp) e;⟨v,h1,h2.mono (a8 s2)⟩;have again:∀ {σ3:St} {H3 H4:Hp},DI K (acc::M) H2 [] [] σ3 δ1 H3->aD (aS (acc::M) H3) (aS (acc::M) H4)->(∀ a∈acc::M,H4 a≠none)->DI K (acc::M) H4 [] [] σ3 δ0 H4:=fun {σ3 H3 H4} I3 s34 ex4 =>
     DI.plain (by rw [<- zf b1];exact I3.len) ex4 fun i d e=>let ⟨v,h1,h2⟩:=I3.var i d (by simp) (wv hf b1 i d e);⟨v,h1,h2.mono s34⟩
    refine ⟨acc::M,H2,[],δ0,d,by rw [hWb];exact I2,by rw [hWb];exact dv,?_⟩;rw [b1];refine fun σ3 I3=>⟨acc::M,H2,[],δ1,I3,?_⟩;rw [hWb] at I3;cases b2:τ δ1 with
    | er x=>rw [b2] at c1;exact fun e C H' s' hm=>hq' es (.er x) c1 e C H' ((s1.trans s2).trans (I3.same.trans s')) hm
    | no=>rw [b2] at c1;exact (hq' es .no c1).elim
    | ok b =>
     rw [b2,ah] at c1;refine fun H3 s3=>?_;have I3':=I3.mono s3;have s13:aD H1 H3:=s2.trans (I3.same.trans s3);cases b with
     | false =>
      rw [if_neg Bool.false_ne_true] at c1;exact ⟨ys,es,s13 _ _ e1,by omega,s1.trans s13,d1.mono (a8 s13),c1,again I3' (aD.refl _) (exA (s1.trans s13) ⟨_,s13 _ _ e1⟩)⟩
     | true =>
      rw [if_pos rfl] at c1;refine ⟨acc::M,H2,[],δ1,by rw [hWb];exact I3',?_⟩;cases b3:ε δ1 with
      | er x=>rw [b3] at c1;exact fun e C H' s' hm=>hq' es (.er x) c1 e C H' ((s1.trans s13).trans s') hm
      | no=>rw [b3] at c1;exact (hq' es .no c1).elim
      | ok y' =>
       rw [b3,ah] at c1;refine fun v4 H4 s4 d4=>?_;rw [hWb] at d4;have s14:aD H1 H4:=s13.trans s4;have e4:=s14 _ _ e1;have hm:=fY;have same5:aD (aS (acc::M) H4) (aS (acc::M) (dE H4 acc (.lst (ys++[v4])))):=fun b o e=>by
        by_cases hb:b∈acc::M
        ·rw [kt hb] at e;cases e
        ·rw [bp hb] at e ⊢;rw [bn (fun z=>hb (by rw [z];exact List.mem_cons_self))];exact e
       have s5:aD H (dE H4 acc (.lst (ys++[v4]))):=fun b o e=>by
        rw [bn (bK e hacc)];exact (s1.trans s14) b o e
       refine ⟨ys,e4,by omega,ys++[v4],es++[y'],br,by simp;omega,s5,?_,?_,again I3' ((a8 s4).trans same5) (exA s5 ⟨_,br⟩)⟩
       ·exact (aX.append (d1.mono (a8 s14)) (aX.cons d4 aX.nil)).mono same5
       ·rw [c1];cases dq t τ ε δ0 (xs.drop (i+1)) with
        | ok r=>show R.ok _=R.ok _;simp
        | er x=>rfl
        | no=>rfl
  ·have e':i=xs.length:=by omega
   subst e';rw [List.drop_length] at c1;have this:∀ (p:Addr) (o:HO) (H':Hp),aD H H'->H p=none->H' p=some o->l9 K (aS (p::M) H') o (D.lst (es++[]))->Q (V.ref p) H':=hq' es (.ok []) c1;rw [List.append_nil] at this;exact .inl ⟨G.stop H1 sB,this acc _ H1 s1 hacc e1 ⟨ys,rfl,d1⟩⟩
 ·rw [if_neg hc] at hq;exact hq.elim
def HM {K:PySem.W.Frag} {mg:Str->Option Value} {E:XK} (hcs:Bz osc ON N ix scope=true) (hi:JI (X.may E) tg iter (iD ⟨K,mg,E⟩ O ι)) (hg:∀ b,JG (jL X N scope b) tg (gD ⟨K,mg,E⟩ [] t)) (ht:∀ b,JTs (jL X N scope b) ifs (sV ⟨K,mg,E⟩ [] τ)) (he:∀ b,i7 (jL X N scope b)->JE ((jL X N scope b).may E) elt (tD ⟨K,mg,E⟩ [] ε))
  (hO:∀ j∈ix,∀ k,j=some k->k∉O) (hpn:i7 X:=by exact i7.nil rfl) (hst:X.stack=X.env::X.outer:=by rfl) (hfX:X.env.frame=some X.env.locals:=by rfl) (hE:X.env.scope=osc:=by rfl) (hON:X.N=ON:=by rfl) (hc:X.calm=true:=by rfl)
  (hs:∀ x,foldedSetIterable iter X.env x=pure x:=by intro _;rfl):JE (X.may E) (.ListComp elt [⟨tg,iter,ifs,0⟩] scope pos) (tN ⟨K,mg,E⟩ O (ui ix ι t τ ε)) :=
 (JE.mk (DN (pos:=pos) (Fi hcs) hE hON hc hi.out (fun b=>(hg b).out) (fun b=>(ht b).out) (fun b hb=>(he b hb).out) hpn hst hfX hs)).imp fun σ H Q hh=>g4 hh fun as0 B own δ I h=>⟨as0,B,own,δ,I,by
  unfold ui at h;cases hr:ι δ with
  | no=>rw [hr] at h;exact h.elim
  | er x=>rw [hr] at h;exact h
  | ok xs =>
   rw [hr] at h;refine fun J H1 s1 G=>Eu rfl (I.mono s1) hO G.comp ?_;have h':mJ ⟨K,mg,E⟩ (own++as0) H (oq t τ ε (cf ix δ) xs) Q:=h;cases hq:oq t τ ε (cf ix δ) xs with
   | ok d=>rw [hq] at h';exact fun p o H' s hp=>h' p o H' (s1.trans s) (s1.free hp)
   | er x=>rw [hq] at h';exact fun e C H' s=>h' e C H' (s1.trans s)
   | no=>rw [hq] at h';exact h'.elim⟩
end
section
variable {X:Cx} {x:Str} {st:Stmt} {ps:List Str} {f:Addr} {fd:FuncData} {j k:Nat} {sp:Sp} {p pos:Pos} {e:Expr} {es:List Expr} {t:TA} {E:XK}
def qr {af:List (Addr×Obj)} {s:Shared} {σ:St} {H:Hp} {Q:VK} {E':Value->Shared->Prop} (D:Def X.K X.mg x st ps f fd) (G:FnOk X.prog X.w X.K X.mg X.base (oJ X.prog X.w X.mg) j f fd ps sp) (hr:Room k X.A) (ha:PA (X.wish E') (e::es) t) (hx:i7 X) (hj:j<=k) (hg:Gl X x) (hdb:(x==("__debug__":Str))=false)
  (h1:aR e=true) (h2:es.all aR=true) (I:Inv X af σ H s) (h:t σ H fun vs H1=>sp vs H1 Q E)
  (hE:∀ y C H' s',Inv X af σ H' s'->ExcAt X af H' s'.heap y C (some .none)->E (.ref y) (some C) H'->E' (.ref y) s') :
  wpAny (model X.prog X.w) X.A (eval (.Call (.Name x p) (e::es) [] pos) X.env) (EP X af σ Q) E' s:=by
 have I0:Inv (X.wish E') af σ H s:=I.wish E';refine wpAny_Call_Name_kw (il I hg D.m ?_ hdb);refine PySem.W.callWith_K (h₀:=X.base) I.ok.mod.kin D.F.kp (eB (ha pos af s σ H _ I0 h) fun us s1 hh=>mP hh fun vs H1 I1 r q=>⟨I1.kIn,?_⟩) (b7 h1) (cY h2);have I2:=I1.unwish;refine CI (E:=E) G (hr.mono hj) D.b (fun e s' ht hq=>?_) I2 r q;obtain ⟨y,C,H',rfl,os,bare,un,hok,⟨f1,f2,oe,vs',a1,a2,a3,a4,T,oT,ts,b1,b2,b3,b4⟩,hE0⟩:=hq;have I3:Inv X af σ H' s':=I2.call' os un hok bare (ch:=[]) (fun b z=>nomatch z) ht
 exact hE y C H' s' I3 ⟨Nw.gone I2 hx f1,f2,oe,vs',a1,a2,a3,a4,fun z=>(by cases z),fun v z=>(by cases z;exact ⟨T,oT,ts,b1,Nw.gone I2 hx b2,b3,b4⟩)⟩ hE0
end
abbrev Cx.hand (X:Cx) (e:Value):Cx:={ X with A:=X.A.mark (some e),calm:=false }
section
variable {X:Cx} {af:List (Addr×Obj)} {σ:St} {H:Hp} {s:Shared} {e:Value}
def Inv.hand (I:Inv X af σ H s) (e:Value):Inv (X.hand e) af σ H s :=
 ⟨⟨I.ok.mod,I.ok.kind,I.ok.glob,I.ok.blt,I.ok.above,I.ok.inj,I.ok.has,I.ok.cab,(fun z=>nomatch z),I.ok.frames,I.ok.stk,I.ok.exf,I.ok.bs,I.ok.bsz,I.ok.noex,I.ok.exfs,I.ok.funs,I.ok.frf⟩,I.os,I.bare,I.base,I.loc,I.cell,I.free,I.freeC,I.pin,I.hok,I.len,I.tk⟩
def Inv.unhand (ok:X.Ok) (I:Inv (X.hand e) af σ H s):Inv X af σ H s:=⟨ok,I.os,I.bare,I.base,I.loc,I.cell,I.free,I.freeC,I.pin,I.hok,I.len,I.tk⟩
def SP.unhand (ok:X.Ok) {D:Ends} {f:Flow} {s':Shared} (h:SP (X.hand e) af D f s'):SP X af D f s':=by
 cases f with
 | next=>obtain ⟨σ',H',I,q⟩:=h;exact ⟨σ',H',I.unhand ok,q⟩
 | brk=>obtain ⟨σ',H',I,q⟩:=h;exact ⟨σ',H',I.unhand ok,q⟩
 | cont=>obtain ⟨σ',H',I,q⟩:=h;exact ⟨σ',H',I.unhand ok,q⟩
 | ret u=>obtain ⟨v,σ',H',I,r,q⟩:=h;exact ⟨v,σ',H',I.unhand ok,r,q⟩
end
section
variable {X:Cx} {af:List (Addr×Obj)} {σ:St} {H:Hp} {s:Shared}
def Inv.track {y:Addr} {o:HO} (I:Inv X af σ H s) (n:Nw X af y) (hy:H y=none) (new:eO X.prog X.w (dE H y o) s.heap y o):Inv X af σ (dE H y o) s:=by
 have hs:aD H (dE H y o):=bo hy o;refine ⟨I.ok,I.os,I.bare,⟨I.base.keep,I.base.slot,fun b ob e n0 hx=>?_,I.base.there,fun b xs e=>hs _ _ (I.base.tups b xs e),fun b ob u e=>hs _ _ (I.base.frzs b ob u e),fun b ps e=>?_⟩,I.loc,I.cell,?_,fun x c e=>?_,fun p hp=>?_,fun a u e=>?_,I.len,I.tk⟩
 ·have:b≠y:=fun z=>by rw [z,n.base] at e;cases e
  rw [bn this];exact I.base.free b ob e n0 hx
 ·obtain ⟨more,q⟩:=I.base.tbls b ps e;exact ⟨more,hs _ _ q⟩
 ·rw [bn (Ne.symm n.loc)];exact I.free
 ·rw [bn (n.cell x c e)];exact I.freeC x c e
 ·obtain ⟨h1,h2,h3⟩:=I.pin p hp;exact ⟨h1,by rw [bn (n.pin p hp)];exact h2,h3⟩
 ·by_cases ha:a=y
  ·subst ha;have e':u=o:=by unfold dE at e;rw [if_pos rfl] at e;exact (Option.some.inj e).symm
   rw [e'];exact new
  ·rw [bn ha] at e;exact (I.hok a u e).stay (fun _ _ _ q=>q) (fun b q=>hs _ _ q) fun b xs q=>hs _ _ q
def Inv.locGone {h':Heap} {m':Str->Option Value} (I:Inv X af σ H s) (hn':h'.Ns X.env.locals m') (hs:Heap.SameBut X.env.locals s.heap h'):Inv X af (σ.map fun _=>none) H { s with heap:=h',toks:=s.toks+1 }:=by
 obtain ⟨m,hn,hl⟩:=id I.loc;have cne:=I.cne;obtain ⟨oL,_,_,hoL,_⟩:=id hn;have tracked:r8 X.prog X.w H h':=fun b ob e=>by
  refine (I.hok b ob e).stay (fun c w' hc q=>(hs.2 c ?_).trans q) (fun _ q=>q) fun _ _ q=>q;rintro rfl;rcases hc with hc|hc
  ·rw [<- hc,I.free] at e;cases e
  ·rw [I.free] at hc;cases hc
 refine ⟨I.ok,I.os,I.bare,⟨fun b o e n hb hx=>?_,fun b o e n hb hx=>?_,I.base.free,fun b o e hx=>?_,I.base.tups,I.base.frzs,I.base.tbls⟩,⟨_,hn',fun j y v' e1 e2 e3=>?_⟩,fun y c e=>?_,I.free,I.freeC,fun p hp=>?_,tracked,by simpa using I.len,by walk_at "tok"⟩
 ·exact (hs.2 b (Nat.ne_of_lt (Nat.lt_of_lt_of_le (Heap.lt_size e) I.ok.above))).trans (I.base.keep b o e n hb hx)
 ·obtain ⟨sl,e1⟩:=I.base.slot b o e n hb hx;exact ⟨sl,(hs.2 b (Nat.ne_of_lt (Nat.lt_of_lt_of_le (Heap.lt_size e) I.ok.above))).trans e1⟩
 ·obtain ⟨o',e1⟩:=I.base.there b o e hx;exact ⟨o',(hs.2 b (Nat.ne_of_lt (Nat.lt_of_lt_of_le (Heap.lt_size e) I.ok.above))).trans e1⟩
 ·rw [List.getElem?_map] at e2;cases q:σ[j]? <;> rw [q] at e2 <;> cases e2
 ·obtain ⟨w',z⟩:=I.cell y c e;exact ⟨w',z.sameBut hs (cne y c e)⟩
 ·obtain ⟨e,n,ne,nf,d⟩:=I.pin p hp;exact ⟨(hs.2 p.1 ne).trans e,n,ne,nf,d⟩
def ExcAt.inst {h:Heap} {y C:Addr} {fl:Option Value} (e:ExcAt X af H h y C fl):∃ ox,PySem.W.InstAt h y ox C none:=by
 obtain ⟨oe,vs,h1,⟨h2,h2'⟩,h3,_⟩:=e.ob;exact ⟨oe,h1,h2,by unfold PySem.W.notCls;rw [h3],by rw [h2'];trivial⟩
def ExcAt.obj {y C:Addr} {fl:Option Value} (e:ExcAt X af H s.heap y C fl):eO X.prog X.w (dE H y (AO y C)) s.heap y (AO y C):=by
 obtain ⟨oe,vs,h1,⟨h2,h2'⟩,h3,_⟩:=e.ob;exact ⟨⟨oe,vs,h1,h2,h2',h3⟩,⟨_,h1⟩,fun a b ⟨o,us,q1,q⟩ k=>⟨o,us,k _ q1,q⟩⟩
end
section
variable {X:Cx} {af:List (Addr×Obj)} {σ:St} {H:Hp} {s:Shared} {Q:Flow->Shared->Prop} {y C CT:Addr} {T:Str} {tp hpos:Pos} {b₀:Stmt} {bs:List Stmt}
def Cj {E:Value->Shared->Prop} {fl:Option Value} {n:Str} {i:Nat} (hst:X.stack=X.env::X.outer) (hf:X.env.frame=some X.env.locals) (hm:X.mg T=some (.ref CT)) (hq:PySem.W.exmOne X.K (.ref C) (.ref CT)=some true) (hg:Gl X T) (hdb:(T==("__debug__":Str))=false)
  (hN:X.N.Nodup) (hi:X.N[i]?=some n) (hl:X.env.scope.names.lookup n=some .local) {D:Ends}
  (I:Inv X af σ H s) (e:ExcAt X af H s.heap y C fl)
  (hsuite:∀ s',Inv X af (σ.set i (some (.ref y))) (dE H y (AO y C)) s'->wpAny (model X.prog X.w) (X.A.mark (some (.ref y))) (execs (b₀::bs) X.env) (fun f s2=>∃ u v σ' H',f=.ret u/\Inv X af σ' H' s2/\bw v u/\D.rt v H') (fun _ _=>False) s') :
  wpAny (model X.prog X.w) X.A (noteFrame (.ref y) X.env) (fun _ s₂=>wpAny (model X.prog X.w) X.A (setFlight (.ref y) none) (fun _ s₃=>wpAny (model X.prog X.w) X.A (handleBy (.ref y) X.env [.ExceptHandler (some (.Name T tp)) (some n) (b₀::bs) hpos]) (SP X af D) E s₃) E s₂) E s:=by
 have hfr:X.A.frames=some (X.env::X.outer):=by rw [<- hst];exact I.ok.frames
 refine jY hf hfr hst hf I e fun h1 I1 e1=>?_;refine dF I1 e1 none fun h2 I2 e2=>?_;have I2h:=I2.hand (.ref y);refine wpAny_handleBy_cons (codeAny_handlers_test (il I2h hg hm ?_ hdb)) (by intro q;cases q);obtain ⟨ox,IA⟩:=e2.inst;refine (PySem.W.exm_one (M:=model X.prog X.w) I2.kIn IA.type hq).at ?_;show codeAny _ _ _ _ _;refine codeAny_handlers_suite_as ?_;refine dF (A:=X.A.mark (some (.ref y))) I2 e2 none fun h3 I3 e3=>?_;have I4:=I3.track e3.nx e3.hx e3.obj;refine lG (v:=.ref y) I4 hN hi (.inl hl) rfl (fun s5 I5=>?_) (.inr hl);refine wpAny_mono (hsuite s5 I5) (fun f s6 ⟨u,v,σ',H',hu,I6,rv,hD⟩=>?_) fun _ _ z=>z.elim;subst hu;obtain ⟨m,hn,_⟩:=id I6.loc;have hcls:(X.env.scope.kind==.class||(X.env.scope.kind==.module&&X.env.locals != X.env.globals))=false:=by rw [I.ok.kind];rfl
 refine wpAny_nameGoes hl hn hcls fun h' m' hn' hs=>?_;exact ⟨v,_,H',I6.locGone hn' hs,rv,hD⟩
end
def rtOnly:R Fl->R Fl
 | .ok (.rt d)=>.ok (.rt d)
 | _=>.no
def qw (i:Nat) (F:List D->R D) (α:FA) (mt:Str->Bool) (n:Nat) (ψ:FS):FS:=fun δ=>match α δ with
 | .ok ds=>match F ds with
  | .ok d=>.ok (.nx (δ.set i (some d)))
  | .er x=>if mt x then rtOnly (ψ (δ.set n (some (.exn x)))) else .no
  | .no=>.no
 | _=>.no
section
variable {as0 own:List Addr} {B H:Hp} {Ob O O':List Nat} {σ:St} {δ:Sd} {D':Ends}
def fH.rtOnly {W W':Wd} {r:R Fl} (hK:W.K=W'.K) (h:fH W as0 B Ob O' (rtOnly r) D'):fH W' as0 B Ob O' r { nx:=fun _ _=>False,bk:=fun _ _=>False,ct:=fun _ _=>False,rt:=D'.rt }:=by
 cases r with
 | ok fl =>
  cases fl with
  | rt d=>unfold L2.rtOnly at h;unfold fH at h ⊢;rw [<- hK];exact h
  | _=>exact h.elim
 | er x=>exact h.elim
 | no=>exact h.elim
end
section
variable {X:Cx} {K:PySem.W.Frag} {mg:Str->Option Value} {E1:XK} {Ob O O':List Nat} {fn:Str} {st:Stmt} {ps:List Str} {f:Addr} {fd:FuncData} {j k i n:Nat} {F:List D->R D} {p pos apos xp tp hpos tpos:Pos} {e:Expr} {es:List Expr} {α:FA} {x T nm:Str} {CT:Addr} {mt:Str->Bool}
 {b₀:Stmt} {bs:List Stmt} {ψ:FS}
def C8 (K:PySem.W.Frag) (mg:Str->Option Value) (mt:Str->Bool) (CT:Addr):Prop:=∀ x C,mt x=true->mg x=some (.ref C)->PySem.W.nsIn K mainGlobals x=some (some (.ref C))/\PySem.W.exmOne K (.ref C) (.ref CT)=some true
def HA (Df:Def X.K X.mg fn st ps f fd) (G:FnOk X.prog X.w X.K X.mg X.base (oJ X.prog X.w X.mg) j f fd ps (rQ K mg F)) (hr:Room k X.A) (hO:i∉O) (hnO:n∉O) (hN:X.N.Nodup) (hx:Ct X.env.scope x) (ha:∀ E',JA (X.wish E') (e::es) (tw ⟨K,mg,E0⟩ O α))
  (hm:X.mg T=some (.ref CT)) (hmt:C8 X.K mg mt CT) (hs:∀ y,JB ((X.hand y).nox) (b₀::bs) (sD ⟨K,mg,fun _ _ _=>False⟩ Ob O O ψ))
  (hKK:X.K=K:=by rfl) (hi:X.N[i]?=some x:=by rfl) (hin:X.N[n]?=some nm:=by rfl) (hln:X.env.scope.names.lookup nm=some .local:=by rfl) (hsw:swapsWith (.Call (.Name fn p) (e::es) [] pos) (some (.Name x xp)) apos.line X.env=pure false:=by rfl) (hf:X.fn x=true\/X.env.scope.names.lookup x=some .local:=by first|exact .inl rfl|exact .inr rfl|assumption)
  (hj:j<=k:=by decide) (hex:i7 X:=by first|assumption|exact i7.nil rfl) (hg:Gl X fn:=by rfl) (hdb:(fn==("__debug__":Str))=false:=by decide)
  (h1:aR e=true:=by rfl) (h2:es.all aR=true:=by rfl) (hst:X.stack=X.env::X.outer:=by rfl) (hfr:X.env.frame=some X.env.locals:=by rfl) (hgT:Gl X T:=by rfl) (hdT:(T==("__debug__":Str))=false:=by decide) :
  JS X (.Try [.Assign [.Name x xp] (.Call (.Name fn p) (e::es) [] pos) apos] [.ExceptHandler (some (.Name T tp)) (some nm) (b₀::bs) hpos] [] [] tpos) (sD ⟨K,mg,E1⟩ Ob O O (qw i F α mt n ψ)):=by
 subst hKK;refine ⟨fun af s σ H D' I ⟨as0,B,own,δ,DIh,h⟩=>?_⟩;refine wpAny_Try_except (wpAny_execs_cons (wpAny_Assign_Name ?_ hsw));cases hα:α δ with
 | er y=>unfold qw at h;rw [hα] at h;exact h.elim
 | no=>unfold qw at h;rw [hα] at h;exact h.elim
 | ok ds =>
  unfold qw at h;rw [hα] at h;dsimp only at h;have hth:∀ (Q:VK) (E:XK),(∀ vs H1,aD H H1->aX X.K (aS (own++as0) H1) ds vs->rQ X.K mg F vs H1 Q E)->tw ⟨X.K,mg,E0⟩ O α σ H fun vs H1=>rQ X.K mg F vs H1 Q E:=fun Q E q=>⟨as0,B,own,δ,DIh,by
   unfold gX;rw [hα];exact fun v H' s1 dv=>q v H' s1 dv⟩
  cases hF:F ds with
  | no=>rw [hF] at h;exact h.elim
  | ok d =>
   rw [hF] at h;refine eB (qr (E:=fun _ _ _=>False) (Q:=fun v H1=>aD H H1/\gy X.K (aS (own++as0) H1) d v) Df G hr (ha _).out hex hj hg hdb h1 h2 I (hth _ _ fun vs H1 s1 dv=>⟨own++as0,ds,(DIh.mono s1).exi,dv,by
    unfold dJ;rw [hF];exact fun v H' s2 dv'=>⟨s1.trans s2,dv'⟩⟩) fun _ _ _ _ _ _ z=>z.elim) fun v s1 ⟨y,H1,I1,r1,sm,dv⟩=>?_
   refine lG I1 hN hi hx r1 (fun s2 I2=>?_) hf;exact wpAny_execs_nil (wpAny_execs_nil ⟨_,H1,I2,h own _ H1 ((DIh.mono sm).set (W:=⟨X.K,mg,E1⟩) hO dv)⟩)
  | er y =>
   rw [hF] at h;dsimp only at h;by_cases hy:mt y=true
   ·rw [if_pos hy] at h;refine eB (qr (E:=fun _ C H'=>aD H H'/\∃ C',C=some C'/\mg y=some (.ref C')) (Q:=fun _ _=>False) Df G hr (ha _).out hex hj hg hdb h1 h2 I (hth _ _ fun vs H1 s1 dv=>⟨own++as0,ds,(DIh.mono s1).exi,dv,by
     unfold dJ;rw [hF];exact fun e C H' s2 hC=>⟨s1.trans s2,C,rfl,hC⟩⟩) fun z C H' s' I' ea ⟨sm,C',eC,hC⟩=>?_) fun v s1 hh=>mP hh fun y H1 I1 r1 q=>q.elim
    cases eC;obtain ⟨hns,hex1⟩:=hmt y C hy hC;refine Cj (D:=D') hst hfr hm hex1 hgT hdT hN hin hln I' ea fun s2 I2=>?_;have su:aD H' (dE H' z (AO z C)):=bo ea.hx _;have dI:=((DIh.mono (sm.trans su)).set (W:=⟨X.K,mg,E1⟩) (i:=n) (d:=.exn y) (v:=.ref z) hnO ⟨z,C,rfl,hns,by
     rw [bp fun q=>(DIh.mono sm).exi z q ea.hx];unfold dE;rw [if_pos rfl]⟩)
    have hsx:=(hs (.ref z)).out af _ _ _ _ ((I2.hand (.ref z)).wish _) ⟨as0,B,own,_,dI,fH.rtOnly (W:=⟨X.K,mg,E1⟩) (W':=⟨X.K,mg,fun _ _ _=>False⟩) rfl h⟩;refine wpAny_mono hsx (fun f s3 q=>?_) fun _ _ z=>z;have q2:=q.unwish.unhand I.ok;cases f with
    | ret u=>obtain ⟨v,σ',H2,I3,rv,hD⟩:=q2;exact ⟨u,v,σ',H2,rfl,I3,rv,hD⟩
    | next=>obtain ⟨_,_,_,z⟩:=q2;exact z.elim
    | brk=>obtain ⟨_,_,_,z⟩:=q2;exact z.elim
    | cont=>obtain ⟨_,_,_,z⟩:=q2;exact z.elim
   ·rw [if_neg hy] at h;exact h.elim
end
end L2
namespace L2
open PySem PySem.Spec PySem.W PyProof.Rows
structure ExcC (K:Frag) (C:Addr):Prop where
 ga:findIn K (.ref C) "__getattribute__"=some (some (.builtin "BaseException.__getattribute__"))
 gh:findIn K (.ref C) "__getattr__"=some none
 cl:findIn K (.ref C) "__class__"=some (some (.builtin "object.__class__"))
 sp:specialIn K (.builtin "object.__class__") "__get__"=some (some (.builtin "getset_descriptor.__get__"))
 tk:takesIn K (.builtin "object.__class__")=some true
 ob:mroIn K C (.type "object")=some true
 be:mroIn K C (.type "BaseException")=some true
section
variable {prog:Program} {w:World} {A:Around} {E:Value->Shared->Prop} {s:Shared} {K:Frag} {x C:Addr} {ox:Obj}
def ExcC.cls (c:ExcC K C):∃ cd,clsIn K C=some cd:=by
 obtain ⟨cd,h,_⟩:=Option.bind_eq_some_iff.mp c.ob;exact ⟨cd,h⟩
def ExcC.found (c:ExcC K C):findObj K C none "__class__"=some (.bind (.builtin "getset_descriptor.__get__") (.builtin "object.__class__")):=by
 obtain ⟨cd,hc⟩:=c.cls;unfold findObj;rw [hc,Option.bind_some,c.cl,Option.bind_some];simp [c.sp,c.tk]
def FG {tk:Tok} {Q:Fin->Shared->Prop} (c:ExcC K C) (X:K.In s.heap) (I:InstAt s.heap x ox C none) (h:Q (.done (.ret (.ref C))) s) :
  wpAny (model prog w) A (Builtin.«object.__getattribute__» ⟨[.ref x,.str "__class__" tk],[]⟩) Q E s:=by
 obtain ⟨hh,gg,d,t,os⟩:=s;have L0:=I.type (M:=model prog w);have L1:=looks_find (M:=model prog w) X I c.found;unfold Builtin.«object.__getattribute__»;refine wpAny_bind (wpAny_pure (wpAny_bind (wpAny_pure (wpAny_bind (L0.at (wpAny_bind (L1.at ?_)))))));show wpAny _ _ (holding [Value.builtin "object.__class__"] (call (.builtin "getset_descriptor.__get__") [.builtin "object.__class__",.ref x,.ref C]) >>= ret) _ _ _;refine wpAny_bind (wpAny_holding (wpAny_call (class_get (ox:=ox) (od:=none) X I c.ob ?_)));exact wpAny_pure h
def Fj {tk:Tok} {R:Result->Shared->Prop} (c:ExcC K C) (X:K.In s.heap) (I:InstAt s.heap x ox C none) (h:R (.ok (.ret (.ref C))) s) :
  codeAny (model prog w) A (.call (.builtin "BaseException.__getattribute__") ⟨[.ref x,.str "__class__" tk],[]⟩) R s:=by
 have L0:=I.type (M:=model prog w);have L1:=looks_mroIn (M:=model prog w) X c.be;refine codeAny_call_builtin F.attr_ValueError.ga.plain F.entry_bexc_ga ?_;have hk:builtinKind "BaseException.__getattribute__"=some .slot:=by decide +kernel
 have hsplit:splitId "BaseException.__getattribute__"=some ("BaseException","__getattribute__"):=by decide +kernel
 have ha:=F.args_bexc_ga (.ref x) (.str "__class__" tk);simp only [checkBuiltinCall,hk,hsplit];refine wpAny_bind ?_;unfold isInstance;refine wpAny_bind (L0.at (L1.at ?_));simp only [Bool.not_true,Bool.false_eq_true,if_false];unfold argsOk at ha;generalize Manifest.signature? "BaseException.__getattribute__"=sg at ha ⊢;cases sg with
 | none=>exact wpAny_pure (FG c X I h)
 | some sig =>
  dsimp only at ha ⊢;rw [ha];exact wpAny_pure (FG c X I h)
def DU {Q:Option Value->Shared->Prop} (c:ExcC K C) (X:K.In s.heap) (I:InstAt s.heap x ox C none) (h:Q (some (.ref C)) { s with toks:=s.toks+1 }) :
  wpAny (model prog w) A (getAttr? (.ref x) "__class__") Q E s:=by
 obtain ⟨hh,g,d,t,os⟩:=s;have L0:=I.type (M:=model prog w);have L1:=looks_findIn (M:=model prog w) X c.ga;have L2:=looks_findIn (M:=model prog w) X c.gh;unfold getAttr? getAttrBy? getAttrBy;refine wpAny_bind (wpAny_mkText (wpAny_bind (wpAny_attempt (wpAny_holding (wpAny_bind (L0.at (wpAny_bind (L1.at ?_))))))));have hne:(Value.builtin "BaseException.__getattribute__"==Value.builtin "object.__getattribute__")=false:=by decide +kernel
 simp only [hne,Bool.and_false,Bool.false_eq_true,if_false];unfold getAttrByItsOwn hookBefore;have hth:onTheHeap (.ref C)=true:=rfl;simp only [hth,if_true];refine wpAny_bind (L2.at (wpAny_bind (wpAny_attempt (wpAny_holding ?_))));unfold callGetattribute;simp only [Bool.false_and,Bool.false_eq_true,if_false];unfold boundAndCalled;rw [F.attr_ValueError.ga.bind];refine wpAny_bind (wpAny_pure (wpAny_call (Fj c X I ?_)));exact handed_on rfl (wpAny_pure h)
def Mg {M:Model} {h:Heap} (c:ExcC K C) (X:K.In h):Looks M h (isType (.ref C)) true:=by
 obtain ⟨cd,hcD⟩:=c.cls;unfold clsIn at hcD;split at hcD
 ·rename_i c' d' cd' sl' ho;intro A' Q' E' s' k q;unfold isType loadHead;exact wpAny_bind (wpAny_loadPart (k _ _ (X _ _ ho)) (wpAny_pure q))
 ·cases hcD
def CC (c:ExcC K C):KitX K (.ref x) (.ref C) (fun h=>∃ o,InstAt h x o C none) where
 ty:=fun M h _ ⟨o,I⟩=>I.type
 it:=fun M h X _=>Mg c X
 ne:=fun h tp dd its n sl X e=>by
  refine Bool.eq_false_iff.mpr fun q=>?_
  have:C=tp:=by have:=beq_iff_eq.mp q;cases this;rfl
  subst this;obtain ⟨cd,hcD⟩:=c.cls;unfold clsIn at hcD;split at hcD
  ·rename_i c' d' cd' sl' ho;rw [X _ _ ho] at e;cases e
  ·cases hcD
 ca:=fun X ⟨o,I⟩ h=>DU c X I h
end
end L2
namespace L2
open PySem PySem.Spec PyProof.Rows
abbrev vF:=List (Str×Str×Bool)
def Ny (l:vF) (x c:Str):Option Bool:=(l.find? fun p=>decide (p.1=x)&&decide (p.2.1=c)).map (·.2.2)
def Ff (l:vF) (x:Str):List D->Option Bool
 | []=>some false
 | .cls c::r=>match Ny l x c with
  | some true=>some true
  | some false=>Ff l x r
  | none=>none
 | _::_=>none
def SR:Option Bool->R D
 | some b=>.ok (.bl b)
 | none=>.no
def jf (l:vF) (ve:List Str) (ds:List D):R D:=match ds with
 | [.exn x,.cls c]=>SR (Ny l x c)
 | [.exn x,.ty C]=>if C="ValueError"/\x∈ve then .ok (.bl true) else .no
 | [.exn x,.tup cs]=>if x∈ve then SR (Ff l x cs) else .no
 | _=>.no
abbrev tE (K:PySem.W.Frag) (x:Str) (C:Addr):Prop:=PySem.W.nsIn K mainGlobals x=some (some (.ref C))
structure TabOk (K:PySem.W.Frag) (l:vF) (ve:List Str):Prop where
 cl:∀ p∈l,∀ C C2,tE K p.1 C->tE K p.2.1 C2->PySem.W.kitOne K (.ref C) (.ref C2)=some p.2.2
 ec:∀ p∈l,∀ C,tE K p.1 C->ExcC K C
 ve:∀ x∈ve,∀ C,tE K x C->ExcC K C/\PySem.W.kitOne K (.ref C) (.type "ValueError")=some true
def RS (K:PySem.W.Frag) (xs:List V) (H:Hp) (Q:VK):Prop:=∃ a C v2 b,xs=[.ref a,v2]/\H a=some (AO a C)/\ExcC K C/\Q (.bl b) H /\
 ((∃ u:Value,(∀ w,bw v2 w->w=u)/\PySem.W.kitOne K (.ref C) u=some b)\/∃ tp vs,v2=.ref tp/\mT K H tp vs/\∀ us,bC vs us->PySem.W.kitAny K (.ref C) us=some b)
def tG {l:vF} {x c:Str} {b:Bool} (h:Ny l x c=some b):(x,c,b)∈l:=by
 unfold Ny at h;obtain ⟨p,e,rfl⟩:=Option.map_eq_some_iff.mp h;have h1:=List.find?_some e;simp only [Bool.and_eq_true,decide_eq_true_eq] at h1;obtain ⟨rfl,rfl⟩:=h1;exact List.mem_of_find?_eq_some e
section
variable {X:Cx} {W:Wd}
def fT (K:PySem.W.Frag) (hK:X.K=K:=by rfl):bX X (.builtin "isinstance") (RS K):=by
 subst hK;intro af s σ H xs us Q I r ⟨a,C,v2,b,hxs,ha,hC,hQ,h⟩;subst hxs;obtain ⟨u1,u2,rfl,r1,r2⟩:=FO r;cases r1;obtain ⟨⟨o,vs,h1,h2,h3,h4⟩,_,_⟩:=I.hok a _ ha;have hI:∃ o,PySem.W.InstAt s.heap a o C none:=⟨o,h1,h2,by unfold PySem.W.notCls;rw [h4],by rw [h3];trivial⟩;refine bf I.tk ?_;rcases h with ⟨u,hu,hk⟩|⟨tp,ws,rfl,hs,hk⟩
 ·rw [hu u2 r2];exact PySem.W.kia_one (CC hC) I.kIn hI hk (fun z=>nomatch z) fun tk htk=>⟨.bl b,H,I.tok tk,rfl,hQ⟩
 ·cases r2;obtain ⟨its,rv,⟨o2,g1,g2,n,g3⟩,_⟩:=I.tuple hs;obtain ⟨oc,od,odt,osl⟩:=o2;dsimp only at g2 g3;subst g2 g3;exact PySem.W.kia_tup (CC hC) I.kIn hI g1 (hk its rv) (fun z=>nomatch z) fun tk htk=>⟨.bl b,H,I.tok tk,rfl,hQ⟩
def BX {K:PySem.W.Frag} {l:vF} {ve:List Str} (T:TabOk K l ve) {x:Str} {C:Addr} (hx:tE K x C) {H:Hp}:∀ {cs:List D} {vs:List V} {us:List Value} {b:Bool},aX K H cs vs->bC vs us->Ff l x cs=some b->PySem.W.kitAny K (.ref C) us=some b
 | [],_,_,_,d,r,e=>by cases d;cases r;exact e
 | c::cs,_,_,b,⟨v,vs,rfl,d1,d2⟩,.cons r1 r2,e=>by
  unfold Ff at e;split at e
  ·rename_i h;cases h
  ·rename_i c' r' h;cases h;obtain ⟨C2,rfl,hc⟩:=d1;cases r1;unfold PySem.W.kitAny;split at e
   ·rename_i q;rw [T.cl _ (tG q) C C2 hx hc];exact e
   ·rename_i q;rw [T.cl _ (tG q) C C2 hx hc];exact BX T hx d2 r2 e
   ·cases e
  ·cases e
def fL {K:PySem.W.Frag} {l:vF} {ve:List Str} (T:TabOk K l ve) (hW:W.K=K:=by rfl):lH W (RS K) (jf l ve):=by
 subst hW;intro as H xs ds Q hn dv h;unfold jf at h;split at h
 ·rename_i x c;obtain ⟨v,u,rfl,d1,d2⟩:=zD dv;obtain ⟨a,C,rfl,h1,h2⟩:=d1;obtain ⟨C2,rfl,h3⟩:=d2;cases hl:Ny l x c with
  | none=>rw [hl] at h;exact h.elim
  | some b =>
   rw [hl] at h;exact ⟨a,C,_,b,rfl,aQ _ _ _ _ h2,T.ec _ (tG hl) C h1,aP h rfl,.inl ⟨.ref C2,fun w r=>r,T.cl _ (tG hl) C C2 h1 h3⟩⟩
 ·rename_i x C0;obtain ⟨v,u,rfl,d1,d2⟩:=zD dv;obtain ⟨a,C,rfl,h1,h2⟩:=d1;cases d2;split at h
  ·rename_i hc;obtain ⟨rfl,hv⟩:=hc;obtain ⟨q1,q2⟩:=T.ve _ hv C h1;exact ⟨a,C,_,true,rfl,aQ _ _ _ _ h2,q1,aP h rfl,.inl ⟨.type "ValueError",fun w r=>r,q2⟩⟩
  ·exact h.elim
 ·rename_i x cs;obtain ⟨v,u,rfl,d1,d2⟩:=zD dv;obtain ⟨a,C,rfl,h1,h2⟩:=d1;obtain ⟨tp,vs,rfl,q1,q2⟩:=d2;split at h
  ·rename_i hv;cases hl:Ff l x cs with
   | none=>rw [hl] at h;exact h.elim
   | some b =>
    rw [hl] at h;exact ⟨a,C,_,b,rfl,aQ _ _ _ _ h2,(T.ve _ hv C h1).1,aP h rfl,.inr ⟨tp,vs,rfl,(aQ _ _).seqT q1,fun us r=>BX T h1 q2 r hl⟩⟩
  ·exact h.elim
 ·exact h.elim
def cz {O:List Nat} {x:Str} {C:Addr} {p:Pos} (hm:X.mg x=some (.ref C)) (hn:tE W.K x C) (hg:Gl X x:=by rfl) (hdb:(x==("__debug__":Str))=false:=by decide):JE X (.Name x p) (tD W O (vC (.cls x))) :=
 ⟨fun af s σ H Q I ⟨as0,B,own,δ,_,h⟩=>il I hg hm ⟨.ref C,H,I,rfl,h _ H (aD.refl _) ⟨C,rfl,hn⟩⟩ hdb⟩
end
def rJ (l:List Str):Str->Bool:=fun x=>decide (x∈l)
section
variable {K:PySem.W.Frag} {mg:Str->Option Value}
def KC {l:List Str} {CT:Addr} (h:∀ x∈l,∃ C,tE K x C/\mg x=some (.ref C)/\PySem.W.exmOne K (.ref C) (.ref CT)=some true):C8 K mg (rJ l) CT:=fun x C hx hm=>by
 obtain ⟨C',h1,h2,h3⟩:=h x (of_decide_eq_true hx);rw [h2] at hm;cases hm;exact ⟨h1,h3⟩
def oQ:bootBuiltins "ValueError"=some (.type "ValueError"):=by decide +kernel
end
structure RoomU (k:Nat) (A:Around):Prop where
 dp:A.depth+3*k+5 < recursionLimit
 un:A.units+16*k+200 < cLine
def RoomU.mono {j k:Nat} {A:Around} (r:RoomU k A) (h:j<=k):RoomU j A:=⟨by have:=r.dp;omega,by have:=r.un;omega⟩
def RoomU.deeper {k:Nat} {A:Around} (r:RoomU (k+1) A) (env:Env):RoomU k (A.deeper env) :=
 ⟨by have:=r.dp;show A.depth+1+3*k+5 < _;omega,by have:=r.un;show A.units+3+16*k+200 < _;omega⟩
def RoomU.depth {k:Nat} {A:Around} (r:RoomU k A):A.depth < recursionLimit:=by have:=r.dp;omega
def RoomU.units {k:Nat} {A:Around} (r:RoomU k A):A.units+64 < cLine:=by have:=r.un;omega
def Room.u {k:Nat} {A:Around} (r:Room k A) (e:Value):RoomU k (A.mark (some e)):=⟨r.dp,r.un⟩
structure FnOkU (P:Program) (w:World) (K:PySem.W.Frag) (mg:Str->Option Value) (base:Heap) (CX:yJ) (k:Nat) (f:Addr) (fd:FuncData) (ps:List Str) (sp:Sp):Prop where
 len:∀ vs H Q E,sp vs H Q E->vs.length=ps.length
 run:∀ (A:Around) (outer:List Env) (s:Shared) (H:Hp) (args:Args) (us:List Value) (vs:List V) (Q:VK) (E:XK),RoomU k A->Env0 P w K mg base A outer s H->BindsTo s fd args (ps.zip us)->bC vs us->sp vs H Q E ->
  codeAny (model P w) A (.call (.ref f) args) (CR CX outer P w H s Q E) s
abbrev UL (CX:yJ) (P:Program) (w:World) (K:PySem.W.Frag) (mg:Str->Option Value) (base:Heap) (N:List Str) (qual:Str) (scope:Scope) (f:Addr) (cd:Value) (A:Around) (outer:List Env) (s:Shared) (H:Hp) (E:XK):Cx :=
 { lc CX P w K mg base N qual scope f cd A outer s H E with calm:=false }
section
variable {P:Program} {w:World} {K:PySem.W.Frag} {mg:Str->Option Value} {base:Heap}
def Lf {CX:yJ} {k:Nat} {f:Addr} {name qual:Str} {params:Arguments} {body:List Stmt} {scope:Scope} {dV kV doc pm cdv ct oc:Value} {an od:Option Addr}
  {osl:Array (Option Value)} {N ps:List Str} {sp:Sp} (lk:K.lookup f=some ⟨oc,od,.func (PySem.W.fnOf name qual params body scope dV kV doc pm an cdv ct),osl⟩) (hcd:PySem.W.codeIn K cdv qual=true) (S:FnScope N ps scope)
  (len:∀ vs H Q E,sp vs H Q E->vs.length=ps.length)
  (hbody:∀ (A:Around) (outer:List Env) (s:Shared) (H:Hp) (vs:List V) (Q:VK) (E:XK),RoomU k (A.deeper (envOfC qual scope s.heap.objs.size f cdv))->sp vs H Q E ->
   ∃ t,Ag (UL CX P w K mg base N qual scope f cdv A outer s H E) body t/\t { nx:=fun _ H'=>Q .non H',rt:=Q } (start N vs) H) :
  FnOkU P w K mg base CX (k+1) f (PySem.W.fnOf name qual params body scope dV kV doc pm an cdv ct) ps sp:=by
 refine ⟨len,fun A outer s H args us vs Q E hr e0 hb r hsp=>?_⟩;have hl:=len _ _ _ _ hsp;have KX:K.In s.heap:=e0.mod.kin.keeps fun b o e=>(e0.bs b o e).1;have lim:s.heap.NoLimit:=e0.mod.nolimit.keeps fun b o e=>(e0.bs b o e).1;have hkind:∀ y∈ps.zip us,scope.names.lookup y.1=some .local\/(scope.names.lookup y.1=some .cell/\((cellsFrom (s.heap.objs.size+1) scope.names []).lookup y.1).isSome=true):=fun ⟨n,v⟩ hy=>by
  rcases S.par n (List.of_mem_zip hy).1 with q|q
  ·exact .inl q
  ·exact .inr ⟨q,PySem.W.cellsFrom_some _ _ _ (.inl q)⟩
 refine codeAny_call_function hr.depth (KX _ _ lk) rfl S.co S.gen rfl (PySem.W.codeRec_of KX hcd) (hb _ _ _ _ ?_);refine wpAny_newFunctionEnv_cells S.kind hkind fun env he s1 x=>?_;subst he;refine ⟨lim.keeps x.toInCall.keep,codeAny_func ?_⟩;obtain ⟨t,ht,hq⟩:=hbody A outer s H vs Q E (hr.deeper _) hsp;have e1:Env0 P w K mg base { A with handled:=none } outer s H:=⟨e0.frames,e0.mod,e0.bs,e0.bsz,e0.funs,e0.frf,e0.hok,e0.bare⟩;have I0:Inv (lc CX P w K mg base N qual scope f cdv { A with handled:=none } outer s H E) [] (start N vs) H s1:=rN S rfl e1 hl r x;have I:Inv (UL CX P w K mg base N qual scope f cdv A outer s H E) [] (start N vs) H s1 :=
  ⟨⟨I0.ok.mod,I0.ok.kind,I0.ok.glob,I0.ok.blt,I0.ok.above,I0.ok.inj,I0.ok.has,I0.ok.cab,(fun z=>nomatch z),I0.ok.frames,I0.ok.stk,I0.ok.exf,I0.ok.bs,I0.ok.bsz,I0.ok.noex,I0.ok.exfs,I0.ok.funs,I0.ok.frf⟩,I0.os,I0.bare,I0.base,I0.loc,I0.cell,I0.free,I0.freeC,I0.pin,I0.hok,I0.len,I0.tk⟩
 refine wpAny_mono (ht [] s1 (start N vs) H _ I hq) (fun fl s' hs=>?_) fun e s' hs=>hs;have fin:∀ {σ':St} {H':Hp} {v:V} {u:Value},Inv (UL CX P w K mg base N qual scope f cdv A outer s H E) [] σ' H' s'->bw v u->Q v H'->CE outer P w H s Q u s' :=
  fun {σ' H' v u} J rv q=>⟨v,H',J.os,J.bare,J.base,J.hok,rv,q⟩
 cases fl with
 | ret u =>
  obtain ⟨v,σ',H',J,rv,q⟩:=hs;exact fin J rv q
 | next =>
  obtain ⟨σ',H',J,q⟩:=hs;exact fin (v:=V.non) (u:=Value.none) J rfl q
 | brk =>
  obtain ⟨_,_,_,q⟩:=hs;exact False.elim q
 | cont =>
  obtain ⟨_,_,_,q⟩:=hs;exact False.elim q
def Fun.okU {x qual:Str} {st:Stmt} {f:Addr} {fd:FuncData} {N ps:List Str} {k:Nat} {φ:FS} {O':List Nat} (F:Fun K x qual st f fd) (S:FnScope N ps (ap st))
  (hbody:∀ (cdv:Value) (A:Around) (outer:List Env) (s:Shared) (H:Hp) (E:XK),RoomU k (A.deeper (envOfC qual (ap st) s.heap.objs.size f cdv)) ->
   JB (UL gW P w K mg base N qual (ap st) f cdv A outer s H E).nox (cR st) (sD ⟨K,mg,E0⟩ [] [] O' φ)):FnOkU P w K mg base gW (k+1) f fd ps (jH K mg (bM φ N ps)):=by
 obtain ⟨oc,od,kV,doc,pm,an,cdv,ct,osl,rfl,lk,hcd⟩:=F.ex;refine Lf lk hcd S (fun vs H Q E h=>x6 vs H Q E0 h) fun A outer s H vs Q E hr hsp=>⟨_,fun af s1 σ H1 D I hw=>?_,ye (E:=E0) (O':=O') hsp⟩;exact wpAny_mono ((hbody cdv A outer s H E hr).out af s1 σ H1 D (I.wish _) hw) (fun _ _ q=>q.unwish) fun e s2 z=>z.elim
end
section
variable {X:Cx} {K:PySem.W.Frag} {mg:Str->Option Value} {O:List Nat} {x:Str} {st:Stmt} {ps:List Str} {f:Addr} {fd:FuncData} {j k:Nat} {F:List D->R D} {p pos:Pos} {e:Expr} {es:List Expr} {α:FA}
def G7 {af:List (Addr×Obj)} {σ:St} {H:Hp} {s:Shared} {sp:Sp} {Q:VK} {us:List Value} {vs:List V} (F:FnOkU X.prog X.w X.K X.mg X.base gW k f fd ps sp) (hr:RoomU k X.A) (hb:uz X.K fd ps [])
  (I:Inv X af σ H s) (r:bC vs us) (h:sp vs H Q E0):wpAny (model X.prog X.w) X.A (call (.ref f) us) (EP X af σ Q) X.xe s:=by
 have hl:(us++[]).length=ps.length:=by rw [List.append_nil,<- r.length];exact F.len _ _ _ _ h
 have hb':=hb s us I.kIn hl;rw [List.append_nil] at hb';refine wpAny_call (fP I.tk (codeAny_mono (F.run X.A X.stack s H ⟨us,[]⟩ us vs Q E0 hr I.env0 hb' r h) fun r s' hq htk=>?_));cases r with
 | error e=>exact hq.elim
 | ok fl =>
  cases fl with
  | ret u=>exact I.after hq
  | next=>exact hq.elim
  | brk=>exact hq.elim
  | cont=>exact hq.elim
def BW (D:Def X.K X.mg x st ps f fd) (G:FnOkU X.prog X.w X.K X.mg X.base gW j f fd ps (jH K mg F)) (hr:RoomU k X.A) (ha:JA X (e::es) (tw ⟨K,mg,E0⟩ O α)) (hj:j<=k:=by decide) (hg:Gl X x:=by rfl) (hdb:(x==("__debug__":Str))=false:=by decide)
  (h1:aR e=true:=by rfl) (h2:es.all aR=true:=by rfl):JE X (.Call (.Name x p) (e::es) [] pos) (tD ⟨K,mg,E0⟩ O (ak F α)):=by
 refine ⟨fun af s σ H Q I ⟨as0,B,own,δ,DIh,h⟩=>?_⟩;refine wpAny_Call_Name_kw (il I hg D.m ?_ hdb);have hth:tw ⟨K,mg,E0⟩ O α σ H fun vs H1=>jH K mg F vs H1 Q E0:=⟨as0,B,own,δ,DIh,fe h fun ds vs H1 s1 d1 h1=>⟨own++as0,ds,(DIh.mono s1).exi,d1,h1⟩⟩;refine PySem.W.callWith_K (h₀:=X.base) I.ok.mod.kin D.F.kp (eB (ha.out pos af s σ H _ I hth) fun us s1 hh=>mP hh fun vs H1 I1 r q=>⟨I1.kIn,?_⟩) (b7 h1) (cY h2);exact G7 G (hr.mono hj) D.b I1 r q
end
section
variable {X:Cx} {W:Wd} {O:List Nat} {a b c:Expr} {φ ψ χ:FE} {pos:Pos}
def uj (g g':D->D->R D) (φ ψ χ:FE):FE:=fun δ=>(φ δ).bind fun x=>(ψ δ).bind fun y=>(g x y).bind fun z=>GN z fun b=>if b=true then (χ δ).bind fun w=>g' y w else .ok (.bl false)
def Dw {r r':R2} {g g':D->D->R D} (hd:rX W r g) (hd':rX W r' g') {as0 own:List Addr} {B H:Hp} {σ:St} {δ:Sd} {Q:VK} (I:DI W.K as0 B O own σ δ H) (h:dJ W (own++as0) H (uj g g' φ ψ χ δ) Q):Bc r r' (tD W O φ) (tD W O ψ) (tD W O χ) σ H Q:=by
 refine ⟨as0,B,own,δ,I,bG h fun x v H1 s1 d1 h1=>⟨as0,B,own,δ,I.mono s1,bG h1 fun y u H2 s2 d2 h2=>?_⟩⟩;refine hd (own++as0) H2 v u x y _ (fun p hp=>((I.mono s1).mono s2).new hp) (d1.mono (a8 s2)) d2 (bG h2 fun z w H3 s3 d3 h3=>?_);cases z with
 | bl k =>
  cases d3;refine ⟨k,rfl,?_⟩;cases k with
  | true =>
   rw [if_pos rfl];have I3:=((I.mono s1).mono s2).mono s3;exact ⟨as0,B,own,δ,I3,bG (show dJ W (own++as0) H3 ((χ δ).bind fun w=>g' y w) Q from h3) fun w0 u4 H4 s4 d4 h4=>hd' (own++as0) H4 u u4 y w0 Q (fun p hp=>(I3.mono s4).new hp) (d2.mono (a8 (s3.trans s4))) d4 h4⟩
  | false =>
   rw [if_neg Bool.false_ne_true];exact h3 _ H3 (aD.refl _) rfl
 | _=>exact h3.elim
def EH {op op':CmpOp} {r r':R2} {g g':D->D->R D} (ho:gf X (compareOp op) r) (hd:rX W r g) (ho':gf X (compareOp op') r') (hd':rX W r' g') (ha:JE X a (tD W O φ)) (hb:JE X b (tD W O ψ)) (hc:JE X c (tD W O χ)) (hm:lastMarks [op,op'] [b,c]=false:=by with_unfolding_all rfl) :
  JT X (.Compare a [op,op'] [b,c] pos) (sV W O (bP (uj g g' φ ψ χ))) :=
 (⟨EY ho ho' ha.out hb.out hc.out hm⟩:JT X (.Compare a [op,op'] [b,c] pos) (JX (Bc r r' (tD W O φ) (tD W O ψ) (tD W O χ)))).imp fun σ H Q hh=>g4 hh fun as0 B own δ I h=>Dw hd hd' I (g5 h fun d v H' s dv h'=>by
  cases d with
  | bl k=>cases dv;exact ⟨k,rfl,h' H' (aD.refl _)⟩
  | _=>exact h'.elim)
end
end L2
namespace L2
open PySem PySem.Spec PyProof.Rows PySem.Builtin PySem.Builtin.Str
def uC (F:List D->R D) (α:FA) (mt:Str->Bool) (n:Nat) (ψ:FS):FS:=fun δ=>match α δ with
 | .ok ds=>match F ds with
  | .ok _=>.no
  | .er x=>if mt x then rtOnly (ψ (δ.set n (some (.exn x)))) else .no
  | .no=>.no
 | _=>.no
section
variable {X:Cx} {K:PySem.W.Frag} {mg:Str->Option Value} {E1:XK} {Ob O O':List Nat} {fn:Str} {st:Stmt} {ps:List Str} {f:Addr} {fd:FuncData} {j k i n:Nat} {F:List D->R D} {p pos apos xp tp hpos tpos:Pos} {e:Expr} {es:List Expr} {α:FA} {x T nm:Str} {CT:Addr} {mt:Str->Bool}
 {b₀:Stmt} {bs:List Stmt} {ψ:FS}
def Jw (Df:Def X.K X.mg fn st ps f fd) (G:FnOk X.prog X.w X.K X.mg X.base (oJ X.prog X.w X.mg) j f fd ps (rQ K mg F)) (hr:Room k X.A) (hnO:n∉O) (hN:X.N.Nodup) (ha:∀ E',JA (X.wish E') (e::es) (tw ⟨K,mg,E0⟩ O α))
  (hm:X.mg T=some (.ref CT)) (hmt:C8 X.K mg mt CT) (hs:∀ y,JB ((X.hand y).nox) (b₀::bs) (sD ⟨K,mg,fun _ _ _=>False⟩ Ob O O ψ))
  (hKK:X.K=K:=by rfl) (hin:X.N[n]?=some nm:=by rfl) (hln:X.env.scope.names.lookup nm=some .local:=by rfl)
  (hj:j<=k:=by decide) (hex:i7 X:=by first|assumption|exact i7.nil rfl) (hg:Gl X fn:=by rfl) (hdb:(fn==("__debug__":Str))=false:=by decide)
  (h1:aR e=true:=by rfl) (h2:es.all aR=true:=by rfl) (hst:X.stack=X.env::X.outer:=by rfl) (hfr:X.env.frame=some X.env.locals:=by rfl) (hgT:Gl X T:=by rfl) (hdT:(T==("__debug__":Str))=false:=by decide) :
  JS X (.Try [.Expr (.Call (.Name fn p) (e::es) [] pos) apos] [.ExceptHandler (some (.Name T tp)) (some nm) (b₀::bs) hpos] [] [] tpos) (sD ⟨K,mg,E1⟩ Ob O O (uC F α mt n ψ)):=by
 subst hKK;refine ⟨fun af s σ H D' I ⟨as0,B,own,δ,DIh,h⟩=>?_⟩;refine wpAny_Try_except (wpAny_execs_cons (wpAny_Expr ?_ I.quiet));cases hα:α δ with
 | er y=>unfold uC at h;rw [hα] at h;exact h.elim
 | no=>unfold uC at h;rw [hα] at h;exact h.elim
 | ok ds =>
  unfold uC at h;rw [hα] at h;dsimp only at h;have hth:∀ (Q:VK) (E:XK),(∀ vs H1,aD H H1->aX X.K (aS (own++as0) H1) ds vs->rQ X.K mg F vs H1 Q E)->tw ⟨X.K,mg,E0⟩ O α σ H fun vs H1=>rQ X.K mg F vs H1 Q E:=fun Q E q=>⟨as0,B,own,δ,DIh,by
   unfold gX;rw [hα];exact fun v H' s1 dv=>q v H' s1 dv⟩
  cases hF:F ds with
  | no=>rw [hF] at h;exact h.elim
  | ok d=>rw [hF] at h;exact h.elim
  | er y =>
   rw [hF] at h;dsimp only at h;by_cases hy:mt y=true
   ·rw [if_pos hy] at h;refine eB (qr (E:=fun _ C H'=>aD H H'/\∃ C',C=some C'/\mg y=some (.ref C')) (Q:=fun _ _=>False) Df G hr (ha _).out hex hj hg hdb h1 h2 I (hth _ _ fun vs H1 s1 dv=>⟨own++as0,ds,(DIh.mono s1).exi,dv,by
     unfold dJ;rw [hF];exact fun e C H' s2 hC=>⟨s1.trans s2,C,rfl,hC⟩⟩) fun z C H' s' I' ea ⟨sm,C',eC,hC⟩=>?_) fun v s1 hh=>mP hh fun y H1 I1 r1 q=>q.elim
    cases eC;obtain ⟨hns,hex1⟩:=hmt y C hy hC;refine Cj (D:=D') hst hfr hm hex1 hgT hdT hN hin hln I' ea fun s2 I2=>?_;have su:aD H' (dE H' z (AO z C)):=bo ea.hx _;have dI:=((DIh.mono (sm.trans su)).set (W:=⟨X.K,mg,E1⟩) (i:=n) (d:=.exn y) (v:=.ref z) hnO ⟨z,C,rfl,hns,by
     rw [bp fun q=>(DIh.mono sm).exi z q ea.hx];unfold dE;rw [if_pos rfl]⟩)
    have hsx:=(hs (.ref z)).out af _ _ _ _ ((I2.hand (.ref z)).wish _) ⟨as0,B,own,_,dI,fH.rtOnly (W:=⟨X.K,mg,E1⟩) (W':=⟨X.K,mg,fun _ _ _=>False⟩) rfl h⟩;refine wpAny_mono hsx (fun f s3 q=>?_) fun _ _ z=>z;have q2:=q.unwish.unhand I.ok;cases f with
    | ret u=>obtain ⟨v,σ',H2,I3,rv,hD⟩:=q2;exact ⟨u,v,σ',H2,rfl,I3,rv,hD⟩
    | next=>obtain ⟨_,_,_,z⟩:=q2;exact z.elim
    | brk=>obtain ⟨_,_,_,z⟩:=q2;exact z.elim
    | cont=>obtain ⟨_,_,_,z⟩:=q2;exact z.elim
   ·rw [if_neg hy] at h;exact h.elim
end
def B3 {X:Cx} {E:XK} (hst:X.stack=X.env::X.outer:=by rfl) (hf:X.env.frame=some X.env.locals:=by rfl):PassesOwn (model (X.may E).prog (X.may E).w) (X.may E).A (X.may E).env (X.may E).xe:=by
 rintro e s' ⟨σ,H,x,C,fl,rfl,I,ea,hE⟩;have hfr:X.A.frames=some (X.env::X.outer):=by rw [<- hst];exact I.ok.frames
 show notedBy (model X.prog X.w) X.A X.env (cameBackBy (model X.prog X.w) X.A X.env (XE X E)) (.ref x) s';refine jY (X:=X) hf hfr hst hf I ea fun h1 I1 e1=>?_;obtain ⟨oe,vs,b1,b2,b3,b4,b5,b6⟩:=e1.ob;obtain ⟨T',oT,ts,c1,c2,c3,c4,c5,c6,c7⟩:=b6 _ rfl;refine wpAny_bind (wpAny_field (s:={ s' with heap:=h1 }) b1 b3 c1 ?_);have hne:¬ ((Value.ref T'==Value.none)=true):=by simp
 rw [if_neg hne];exact dF (s:={ s' with heap:=h1 }) I1 e1 X.env.frame fun h4 I4 e4=>⟨σ,H,x,C,_,rfl,I4,e4,hE⟩
def vS:entryFor table "proto.unchain"=some Builtin.«proto.unchain»:=entryFor_of_tree (by kernel_rfl)
section
variable {prog:Program} {w:World} {A:Around} {E:Value->Shared->Prop} {s:Shared} {env:Env}
variable {nm q nm2 q2:Str} {C N C2 N2:Addr} {bs bm bs2 bm2:List Value} {hdct hdct2:Bool} {sn sn2:List Str} {sub sub2:List Value} {ab ab2:Bool} {col col2:Option Bool} {dd dd2:Option Addr} {k0 k1 k2 k3 k5 l0 l1 l2 l3 l5:Option Value} {newId newId2:String}
def Ah {α:Type} {e y:Addr} {oe oy:Obj} {vs ws:Array Value} {Q:α->Shared->Prop} (hh:A.handled=some (.ref y)) (hne:e≠y) (he:s.heap.get? e=some oe) (hd:oe.data=.fields vs) (h2:2 < vs.size) (hy:s.heap.get? y=some oy) (hyd:oy.data=.fields ws) (hy2:ws[2]?=some .none)
  (h:E (.ref e) { s with heap:=s.heap.update e (Obj.mapFields (·.setIfInBounds 2 (.ref y))) }):wpAny (model prog w) A (raiseNew (.ref e):Sem α) Q E s:=by
 unfold raiseNew;refine wpAny_bind (wpAny_handled ?_);rw [hh];dsimp only;have hn:(Value.ref y != Value.ref e)=true:=by
  rw [bne_iff_ne];intro z;exact hne (Value.ref.inj z).symm
 rw [if_pos hn];refine wpAny_bind (wpAny_holding (wpAny_runValue (codeAny_builtin vS ?_)));unfold Builtin.«proto.unchain»;dsimp only;refine wpAny_bind (wpAny_field hy hyd hy2 ?_);rw [if_pos (by decide)];refine wpAny_bind (wpAny_pure (wpAny_pure ?_));dsimp only;refine wpAny_bind ?_;show wpAny _ _ (setField (.ref e) 2 (.ref y)) _ _ _;exact wpAny_setField he hd h2 (wpAny_throw h)
def oH {a:Addr} {oa:Obj} {vs:Array Value} {Q:Bool->Shared->Prop} (ha:s.heap.get? a=some oa) (had:oa.data=.fields vs) (h:Q false s):wpAny (model prog w) A (isType (.ref a)) Q E s:=by
 simp only [isType,loadHead];refine wpAny_bind (wpAny_loadPart ha ?_);rw [had];exact wpAny_pure h
def tQ {a:Addr} {oa:Obj} {vs:Array Value} {msg:String} {Q:Value->Shared->Prop} (hbase:bm.contains (.type "BaseException")=true) (ha:s.heap.get? a=some oa) (hac:oa.cls=.ref C) (had:oa.data=.fields vs)
  (hC:s.heap.get? C=some (excClassObj nm q C N bs bm hdct sn sub ab col dd k0 k1 k2 k3 k5 newId)) (h:Q (.ref a) s):wpAny (model prog w) A (excFromValue (.ref a) msg) Q E s:=by
 have hcB:(Value.ref C::bm).contains (.type "BaseException")=true:=by rw [List.contains_cons,hbase,Bool.or_true]
 obtain ⟨hp,g,d,tk,os⟩:=s;unfold excFromValue isExcClass;refine wpAny_bind (wpAny_bind (oH ha had ?_));simp only [Bool.false_eq_true,if_false];refine wpAny_pure ?_;simp only [Bool.false_eq_true,if_false];unfold isInstance;repeat (first|(with_reducible refine wpAny_loadPart_at ha ?_;rw [hac])|(with_reducible refine wpAny_isSubtype_exc hC ?_;rw [hcB])|wp_step)
 exact h
def vH {a:Addr} {oa:Obj} {Q:Value->Shared->Prop} (ha:s.heap.get? a=some oa) (hac:oa.cls=.ref C)
  (hC:s.heap.get? C=some (excClassObj nm q C N bs bm hdct sn sub ab col dd k0 k1 k2 k3 k5 newId)) (h:Q (.ref a) s):wpAny (model prog w) A (raisedInstance (.ref a)) Q E s:=by
 obtain ⟨hp,g,d,tk,os⟩:=s;unfold raisedInstance;repeat (first|(with_reducible refine wpAny_loadPart_at ha ?_;rw [hac])|(with_reducible refine wpAny_loadPart_at hC ?_)|wp_step)
 exact h
def ul {x c:Sem Value} {y:Addr} {Q:Flow->Shared->Prop} (hbase:bm.contains (.type "BaseException")=true) (hbase2:bm2.contains (.type "BaseException")=true) (hh:A.handled=some (.ref y))
  (h:wpAny (model prog w) A x (fun v s₁=>∃ e t oy ws,v=.ref e/\e≠y/\s₁.heap.get? C=some (excClassObj nm q C N bs bm hdct sn sub ab col dd k0 k1 k2 k3 k5 newId) /\
   s₁.heap.get? e=some { cls:=.ref C,data:=.fields #[.ref t,.none,.none,.none,.bool false,.none] }/\s₁.heap.get? y=some oy/\oy.cls=.ref C2/\oy.data=.fields ws/\ws[2]?=some .none /\
   s₁.heap.get? C2=some (excClassObj nm2 q2 C2 N2 bs2 bm2 hdct2 sn2 sub2 ab2 col2 dd2 l0 l1 l2 l3 l5 newId2) /\
   wpAny (model prog w) A c (fun cv s₂=>cv=.ref y/\s₂=s₁/\∀ h',(∀ b o,b≠e->s₁.heap.get? b=some o->h'.get? b=some o)->h'.get? e=some { cls:=.ref C,data:=.fields #[.ref t,.none,.ref y,.ref y,.bool true,.none] }->E (.ref e) { s₁ with heap:=h' }) E s₁) E s) :
  wpAny (model prog w) A (raiseStmt env (some x) (some c)) Q E s:=by
 have hcB:(Value.ref C::bm).contains (.type "BaseException")=true:=by rw [List.contains_cons,hbase,Bool.or_true]
 have hcB2:(Value.ref C2::bm2).contains (.type "BaseException")=true:=by rw [List.contains_cons,hbase2,Bool.or_true]
 unfold raiseStmt;refine wpAny_bind (wpAny_mono h (fun v s₁ h₁=>?_) fun _ _ x=>x);obtain ⟨e,t,oy,ws,rfl,hne,hC,he,hy,hyc,hyd,hy2,hC2,hc⟩:=h₁;dsimp only;refine wpAny_bind (wpAny_holding (wpAny_mono hc (fun cv s₂ h₂=>?_) fun _ _ x=>x));obtain ⟨rfl,rfl,hE⟩:=h₂;refine wpAny_bind (wpAny_pure ?_);refine wpAny_bind (wpAny_holding (tQ hbase he rfl rfl hC ?_));dsimp only;rw [if_neg (by simp)];refine wpAny_bind (wpAny_holding (tQ hbase2 hy hyc hyd hC2 ?_));have neC:C≠e:=fun z=>by rw [z,he] at hC;cases hC
 refine wpAny_bind (wpAny_setField he rfl (by simp) ?_);have e1:=Heap.get?_update_self (Obj.mapFields (·.setIfInBounds 3 (Value.ref y))) he (Obj.isFreed_of_fields (Obj.data_mapFields rfl _));refine wpAny_bind (wpAny_setField e1 (Obj.data_mapFields rfl _) (by simp) ?_);have e2:=Heap.get?_update_self (Obj.mapFields (·.setIfInBounds 4 (Value.bool true))) e1 (Obj.isFreed_of_fields (Obj.data_mapFields (Obj.data_mapFields rfl _) _));have k2:∀ b o,b≠e->s₂.heap.get? b=some o->((s₂.heap.update e (Obj.mapFields (·.setIfInBounds 3 (Value.ref y)))).update e (Obj.mapFields (·.setIfInBounds 4 (Value.bool true)))).get? b=some o:=fun b o hb z=>by
  rw [Heap.get?_update_other _ _ (Ne.symm hb),Heap.get?_update_other _ _ (Ne.symm hb)];exact z
 refine wpAny_bind (oH e2 (Obj.data_mapFields (Obj.data_mapFields rfl _) _) ?_);simp only [Bool.false_eq_true,if_false];refine wpAny_bind (vH e2 rfl (k2 _ _ neC hC) ?_);unfold setFlight;refine wpAny_bind (wpAny_bind (wpAny_field e2 (Obj.data_mapFields (Obj.data_mapFields rfl _) _) (i:=1) (x:=.none) rfl ?_));rw [if_neg (by decide)];refine wpAny_pure ?_;refine Ah hh hne e2 (Obj.data_mapFields (Obj.data_mapFields rfl _) _) (by simp) (k2 _ _ (Ne.symm hne) hy) hyd hy2 ?_;refine hE _ (fun b o hb z=>?_) ?_
 ·rw [Heap.get?_update_other _ _ (Ne.symm hb)];exact k2 b o hb z
 ·rw [Heap.get?_update_self (Obj.mapFields (·.setIfInBounds 2 (Value.ref y))) e2 (Obj.isFreed_of_fields (Obj.data_mapFields (Obj.data_mapFields (Obj.data_mapFields rfl _) _) _))];rfl
end
def Gz (a C:Addr):HO:=.ext fun h=>∃ o vs,h.get? a=some o/\o.cls=.ref C/\o.dict=none/\o.data=.fields vs/\vs[2]?=some .none
section
variable {X:Cx} {af:List (Addr×Obj)} {σ:St} {H:Hp} {s:Shared}
def M0 {E:Value->Shared->Prop} {Q:Value->Shared->Prop} {i:Nat} {x:Str} {v:V} {pos:Pos} (hN:X.N[i]?=some x) (hv:Em X.env.scope x) (I:Inv X af σ H s) (e:σ[i]?=some (some v)) (h:∀ u,bw v u->Q u s)
  (hd:(x==("__debug__":Str))=false:=by decide) (hcd:(x==("__classdict__":Str))=false:=by decide):wpAny (model X.prog X.w) X.A (eval (.Name x pos) X.env) Q E s:=by
 obtain ⟨m,hn,hl⟩:=I.loc;obtain ⟨u,r,l⟩:=hl i x v hN e hv;rcases l with ⟨hk,hm⟩|⟨hk,c,hc,hcell⟩
 ·exact wpAny_Name (wpAny_loadName_local I.ok.kind hk hn hm (h u r)) hd
 ·rcases hk with hk|hk
  ·exact wpAny_Name (wpAny_loadName_cell I.ok.kind hk hc hcell (h u r)) hd
  ·exact wpAny_Name (wpAny_loadName_free I.ok.kind hk hc hcell (h u r) hcd) hd
def Fn (J:Inv X af σ H s) {x:Addr} (hx:s.heap.get? x=none):H x=none:=by
 cases q:H x with
 | none=>rfl
 | some u =>
  have hob:=J.hok x u q;obtain ⟨o,eo⟩:∃ o,s.heap.get? x=some o:=by
   cases u <;> first
    | (obtain ⟨_,_,_,_,e⟩:=hob;exact ⟨_,e⟩)
    | (obtain ⟨_,_,_,o,e,_⟩:=hob;exact ⟨o,e⟩)
    | (obtain ⟨_,_,_,_,o,_,_,e,_⟩:=hob;exact ⟨o,e⟩)
    | (obtain ⟨o,_,_,_,e,_⟩:=hob;exact ⟨o,e⟩)
    | (obtain ⟨_,_,_,e,_⟩:=hob;exact ⟨_,e⟩)
    | (obtain ⟨o,e⟩:=hob;exact ⟨o,e⟩)
    | (obtain ⟨_,⟨o,_,_,e,_⟩,_⟩:=hob;exact ⟨o,e⟩)
    | (obtain ⟨_,_,_,e⟩:=hob;exact ⟨_,e⟩)
    | (obtain ⟨e,_⟩:=hob;exact ⟨_,e⟩)
    | exact ⟨_,hob⟩
    | (obtain ⟨_,⟨o,e⟩,_⟩:=hob;exact ⟨o,e⟩)
  rw [hx] at eo;cases eo
def Lb {E:XK} {cn nm:Str} {C C2 y:Addr} {n:Nat} {np cpos pos ep:Pos} {a:Expr} {as:List Expr} {t:TA} {Q:Flow->Shared->Prop} (hcn:cn=r6) (hm:X.mg cn=some (.ref C)) (hq:PySem.W.excIn X.K C uI "ValueError.__new__"=true) (hq2:PySem.W.excIn X.K C2 uI "ValueError.__new__"=true) (hx:i7 X)
  (hg:Gl X cn) (hdb:(cn==("__debug__":Str))=false) (h1:(a::as).all aR=true) (hN:X.N[n]?=some nm) (hv:Em X.env.scope nm) (hd:(nm==("__debug__":Str))=false) (hcd:(nm==("__classdict__":Str))=false)
  (ha:PA ((X.hand (.ref y)).nox) (a::as) t) (I:Inv X af σ H s) (hσ:σ[n]?=some (some (.ref y)))
  (h:t σ H fun vs H1=>vs.length<=10/\H1 y=some (Gz y C2)/\∀ x,E (.ref x) (some C) H1) :
  wpAny (model X.prog X.w) (X.A.mark (some (.ref y))) (exec (.Raise (some (.Call (.Name cn np) (a::as) [] cpos)) (some (.Name nm ep)) pos) X.env) Q
   (fun e s'=>∃ H' x,e=.ref x/\Inv X af σ H' s'/\ExcAt X af H' s'.heap x C none/\E (.ref x) (some C) H') s:=by
 have n1:aR a=true:=by simp only [List.all_cons,Bool.and_eq_true] at h1;exact h1.1
 obtain ⟨bm,N,nmC,qn,bs,hdct,sn,sub,ab,col,dd,k0,k1,k2,k3,k5,mN,hC,hNs,hni,TL⟩:=yv I.ok.mod.kin hq;obtain ⟨bm',N',nm',qn',bs',hdct',sn',sub',ab',col',dd',l0,l1,l2,l3,l5,mN',hC',_,_,TL'⟩:=yv I.ok.mod.kin hq2;have kp:∀ {s2:Shared} {σ2:St} {H2:Hp},Inv X af σ2 H2 s2->∀ b o,X.base.get? b=some o->s2.heap.get? b=some o:=fun J b o e=>(J.bs b o e).1;have hplain:=cY h1 (env:=X.env) (pos:=cpos);rw [arm_exec_Raise];refine wpAny_bind (wpAny_standAt ?_);refine ul (C:=C) (nm:=nmC) (q:=qn) (N:=N) (bs:=bs) (bm:=bm) (hdct:=hdct) (sn:=sn) (sub:=sub) (ab:=ab) (col:=col) (dd:=dd) (k0:=k0) (k1:=k1) (k2:=k2) (k3:=k3) (k5:=k5)
  (C2:=C2) (nm2:=nm') (q2:=qn') (N2:=N') (bs2:=bs') (bm2:=bm') (hdct2:=hdct') (sn2:=sn') (sub2:=sub') (ab2:=ab') (col2:=col') (dd2:=dd') (l0:=l0) (l1:=l1) (l2:=l2) (l3:=l3) (l5:=l5) (newId:="ValueError.__new__") (newId2:="ValueError.__new__")
  (TL.hasType PySem.F.excBase_ValueError.hasBase) (TL'.hasType PySem.F.excBase_ValueError.hasBase) rfl ?_
 have Ih:=I.hand (.ref y);refine wpAny_bind (wpAny_mono (wpAny_Call_ofName (il (X:=X.hand (.ref y)) Ih hg hm ?_ hdb)) (fun v s₃ h₃=>wpAny_bind (wpAny_standAt (wpAny_pure h₃))) fun _ _ x=>x);unfold callWith;have hs:=ha cpos af s σ H _ (Ih.wish _) h;rw [b7 n1] at hs hplain ⊢;refine wpAny_bind (wpAny_holding (Calls.evalArgs_plain (wpAny_mono hs (fun us s2 ⟨vs,H2,I2,r2,hl,hHy,hE⟩=>wpAny_bind (wpAny_standAt ?_)) fun _ _ z=>z.elim)));have hlen:us.length<=sizeLine:=by
  rw [<- r2.length,sizeLine_eq];exact Nat.le_trans hl (by decide)
 have J:Inv X af σ H2 s2:=I2.unwish.unhand I.ok;have J0:=J;obtain ⟨hp,g,d,tk,os⟩:=s2;simp only [hplain];refine wpAny_bind (wpAny_keeperOf_exc (kp J _ _ hC) ?_);refine wpAny_bind (wpAny_call_exc_subU (hrest:=hlen) PySem.F.excBase_ValueError (by decide +kernel) PySem.F.excBase_ValueError (TL.keeps (kp J)) (kp J _ _ hC) (hNs.keeps (kp J)) hni fun h' e hmk=>wpAny_bind (wpAny_holding (wpAny_point (wpAny_pure ?_))));have J3:Inv X af σ H2 ⟨h',g,d,tk,os⟩:=J.kept (t':=tk) fun b o e=>hmk.keeps b o e;obtain ⟨tp,ob,_,_⟩:=hmk.there;have hfree:H2 e=none:=Fn J hmk.new;have hye:=J.hok y _ hHy;obtain ⟨⟨oy,ws,y1,y2,y3,y4,y5⟩,_⟩:=hye;have hne:e≠y:=fun z=>by have w:=hmk.new;rw [z] at w;cases w.symm.trans y1
 have hnw:=Nw.gone J hx hmk.new;refine ⟨e,tp,oy,ws,rfl,hne,kp J3 _ _ hC,ob,hmk.keeps _ _ y1,y2,y4,y5,kp J3 _ _ hC',?_⟩;refine wpAny_bind (M0 (X:=X.hand (.ref y)) hN hv (J3.hand _) hσ (fun u ru=>?_) hd hcd);refine wpAny_bind (wpAny_standAt (wpAny_pure ?_));refine ⟨ru,rfl,fun h2 kk ee=>⟨H2,e,rfl,?_,⟨hnw,hfree,_,_,ee,⟨rfl,rfl⟩,rfl,⟨by simp,fun z=>absurd (hcn ▸ hm) z⟩,fun _=>rfl,fun v z=>by cases z⟩,hE e⟩⟩;exact J3.recs (ch:=[e]) (fun b hb=>by rw [List.mem_singleton.mp hb];exact ⟨hnw,hfree⟩) (fun b o _ _ hb z=>kk b o (fun y=>hb (by simp [y])) z) (fun b o hb z=>⟨o.slots,kk b o (fun y=>hb (by simp [y])) z⟩)
end
section
variable {X:Cx} {af:List (Addr×Obj)} {σ:St} {H:Hp} {s:Shared} {y C CT:Addr} {T:Str} {tp hpos:Pos} {b₀:Stmt} {bs:List Stmt}
def ExcAt.objZ {fl:Option Value} (e:ExcAt X af H s.heap y C fl) (hl:X.mg r6≠some (.ref C)):eO X.prog X.w (dE H y (Gz y C)) s.heap y (Gz y C):=by
 obtain ⟨oe,vs,h1,⟨h2,h2'⟩,h3,h4,_⟩:=e.ob;exact ⟨⟨oe,vs,h1,h2,h2',h3,h4.2 hl⟩,⟨_,h1⟩,fun a b ⟨o,us,q1,q⟩ k=>⟨o,us,k _ q1,q⟩⟩
def ExcAt.but {h h':Heap} {x:Addr} {fl:Option Value} (e:ExcAt X af H h x C fl) (hs:Heap.SameBut X.env.locals h h'):ExcAt X af H h' x C fl:=by
 obtain ⟨oe,vs,h1,h2,h3,h4,h5,h6⟩:=e.ob;exact ⟨e.nx,e.hx,oe,vs,(hs.2 x e.nx.loc).trans h1,h2,h3,h4,h5,fun v z=>let ⟨T,oT,ts,a,b,c,d,e,f⟩:=h6 v z;⟨T,oT,ts,a,b,c,d,(hs.2 T b.loc).trans e,f⟩⟩
def Hx {E0:XK} {Q:Flow->Shared->Prop} {fl:Option Value} {n:Str} {i:Nat} (hst:X.stack=X.env::X.outer) (hf:X.env.frame=some X.env.locals) (hm:X.mg T=some (.ref CT)) (hq:PySem.W.exmOne X.K (.ref C) (.ref CT)=some true) (hg:Gl X T) (hdb:(T==("__debug__":Str))=false)
  (hN:X.N.Nodup) (hi:X.N[i]?=some n) (hl:X.env.scope.names.lookup n=some .local) (hlate:X.mg r6≠some (.ref C))
  (I:Inv X af σ H s) (e:ExcAt X af H s.heap y C fl)
  (hsuite:∀ s',Inv X af (σ.set i (some (.ref y))) (dE H y (Gz y C)) s'->wpAny (model X.prog X.w) (X.A.mark (some (.ref y))) (execs (b₀::bs) X.env) (fun _ _=>False) (fun e s'=>∃ σ' H' x C' fl',e=.ref x/\Inv X af σ' H' s'/\ExcAt X af H' s'.heap x C' fl'/\E0 (.ref x) (some C') H') s') :
  wpAny (model X.prog X.w) X.A (noteFrame (.ref y) X.env) (fun _ s₂=>wpAny (model X.prog X.w) X.A (setFlight (.ref y) none) (fun _ s₃=>wpAny (model X.prog X.w) X.A (handleBy (.ref y) X.env [.ExceptHandler (some (.Name T tp)) (some n) (b₀::bs) hpos]) Q (XE X E0) s₃) (XE X E0) s₂) (XE X E0) s:=by
 have hfr:X.A.frames=some (X.env::X.outer):=by rw [<- hst];exact I.ok.frames
 refine jY hf hfr hst hf I e fun h1 I1 e1=>?_;refine dF I1 e1 none fun h2 I2 e2=>?_;have I2h:=I2.hand (.ref y);refine wpAny_handleBy_cons (codeAny_handlers_test (il I2h hg hm ?_ hdb)) (by intro q;cases q);obtain ⟨ox,IA⟩:=e2.inst;refine (PySem.W.exm_one (M:=model X.prog X.w) I2.kIn IA.type hq).at ?_;show codeAny _ _ _ _ _;refine codeAny_handlers_suite_as ?_;refine dF (A:=X.A.mark (some (.ref y))) I2 e2 none fun h3 I3 e3=>?_;have I4:=I3.track e3.nx e3.hx (e3.objZ hlate);refine lG (v:=.ref y) I4 hN hi (.inl hl) rfl (fun s5 I5=>?_) (.inr hl);refine wpAny_mono (hsuite s5 I5) (fun f s6 z=>z.elim) fun x s6 ⟨σ',H',z,C',fl',hz,I6,e6,hE⟩=>?_;subst hz;refine jY (A:=X.A.mark (some (.ref y))) hf hfr hst hf I6 e6 fun h7 I7 e7=>?_;obtain ⟨m,hn,_⟩:=id I7.loc;have hcls:(X.env.scope.kind==.class||(X.env.scope.kind==.module&&X.env.locals != X.env.globals))=false:=by rw [I.ok.kind];rfl
 refine wpAny_nameGoes hl hn hcls fun h8 m' hn' hs=>?_;have I8:=I7.locGone hn' hs;have e8:=e7.but hs;unfold PySem.passOn;obtain ⟨oe,vs,b1,b2,b3,b4,b5,b6⟩:=e8.ob;obtain ⟨T',oT,ts,c1,c2,c3,c4,c5,c6,c7⟩:=b6 _ rfl;refine wpAny_bind (wpAny_field b1 b3 c1 ?_);have hne:¬ ((Value.ref T'==Value.none)=true):=by simp
 rw [if_neg hne];refine wpAny_bind (dF (A:=X.A.mark (some (.ref y))) I8 e8 X.env.frame fun h9 I9 e9=>wpAny_throw ?_);show notedBy _ _ _ _ _ _;refine jY (A:=X.A.mark (some (.ref y))) hf hfr hst hf I9 e9 fun h10 I10 e10=>?_;show cameBackBy _ _ _ _ _ _;obtain ⟨oe',vs',b1',b2',b3',b4',b5',b6'⟩:=e10.ob;obtain ⟨T'',oT',ts',c1',_⟩:=b6' _ rfl;refine wpAny_bind (wpAny_field b1' b3' c1' ?_);have hne':¬ ((Value.ref T''==Value.none)=true):=by simp
 rw [if_neg hne'];exact dF I10 e10 X.env.frame fun h11 I11 e11=>⟨_,H',z,C',_,rfl,I11.less,e11.less,hE⟩
end
section
variable {W:Wd} {as0 own:List Addr} {B H:Hp} {O:List Nat} {σ:St} {δ:Sd}
def DI.unset {i:Nat} {v:V} (I:DI W.K as0 B O own σ δ H) (hO:i∉O):DI W.K as0 B O own (σ.set i (some v)) (δ.set i none) H:=by
 refine ⟨by simp [I.len],I.olen,I.nd,I.ond,I.fresh,I.ex0,I.same,fun j e hj q=>?_,fun j a hj=>?_⟩
 ·rw [getElem?_set'] at q ⊢;split at q
  ·split at q
   ·cases q
   ·cases q
  ·rename_i hij;rw [if_neg hij];exact I.var j e hj q
 ·have hji:i≠j:=fun z=>hO (by rw [z];exact (List.of_mem_zip hj).1);obtain ⟨d',o,h1,h2,h3,h4⟩:=I.owns j a hj;exact ⟨d',o,by rw [getElem?_set',if_neg hji];exact h1,by rw [getElem?_set',if_neg hji];exact h2,h3,h4⟩
end
def pJ (i:Nat) (F:List D->R D) (α:FA) (mt:Str->Bool) (n:Nat) (cn:Str) (β:FA):FS:=fun δ=>match α δ with
 | .ok ds=>match F ds with
  | .ok d=>.ok (.nx (δ.set i (some d)))
  | .er x=>if mt x then (match β (δ.set n none) with
   | .ok es=>if es.length<=10 then .er cn else .no
   | _=>.no) else .no
  | .no=>.no
 | _=>.no
def Vs (K:PySem.W.Frag) (mg:Str->Option Value) (mt:Str->Bool):Prop:=∀ x C,mt x=true->mg x=some (.ref C)->PySem.W.excIn K C uI "ValueError.__new__"=true/\mg r6≠some (.ref C)
section
variable {X:Cx} {E:XK} {Ob O O':List Nat} {fn:Str} {st:Stmt} {ps:List Str} {f:Addr} {fd:FuncData} {j k i n:Nat} {F:List D->R D} {p pos apos xp tp hpos tpos np cpos rpos ep:Pos} {e b:Expr} {es bs:List Expr} {α β:FA} {x T nm cn:Str} {CT C2:Addr} {mt:Str->Bool}
def Ju (Df:Def X.K X.mg fn st ps f fd) (G:FnOk X.prog X.w X.K X.mg X.base (oJ X.prog X.w X.mg) j f fd ps (rQ X.K X.mg F)) (hr:Room k X.A) (hO:i∉O) (hnO:n∉O) (hN:X.N.Nodup) (hx:Ct X.env.scope x) (ha:∀ E',JA (X.wish E') (e::es) (tw ⟨X.K,X.mg,E0⟩ O α))
  (hm:X.mg T=some (.ref CT)) (hmt:C8 X.K X.mg mt CT) (hmz:Vs X.K X.mg mt) (hm2:X.mg cn=some (.ref C2)) (hq2:PySem.W.excIn X.K C2 uI "ValueError.__new__"=true) (hb:∀ y,JA ((X.hand y).nox) (b::bs) (tw ⟨X.K,X.mg,fun _ _ _=>False⟩ O β))
  (hcn:cn=r6:=by rfl) (hi:X.N[i]?=some x:=by rfl) (hin:X.N[n]?=some nm:=by rfl) (hln:X.env.scope.names.lookup nm=some .local:=by rfl) (hvn:Em X.env.scope nm:=by first|exact .inl rfl|exact .inr (.inl rfl)|exact .inr (.inr rfl)) (hsw:swapsWith (.Call (.Name fn p) (e::es) [] pos) (some (.Name x xp)) apos.line X.env=pure false:=by rfl) (hf:X.fn x=true\/X.env.scope.names.lookup x=some .local:=by first|exact .inl rfl|exact .inr rfl|assumption)
  (hj:j<=k:=by decide) (hex:i7 X:=by first|assumption|exact i7.nil rfl) (hg:Gl X fn:=by rfl) (hdb:(fn==("__debug__":Str))=false:=by decide)
  (h1:aR e=true:=by rfl) (h2:es.all aR=true:=by rfl) (h3:(b::bs).all aR=true:=by rfl) (hst:X.stack=X.env::X.outer:=by rfl) (hfr:X.env.frame=some X.env.locals:=by rfl) (hgT:Gl X T:=by rfl) (hdT:(T==("__debug__":Str))=false:=by decide)
  (hgc:Gl X cn:=by rfl) (hdc:(cn==("__debug__":Str))=false:=by decide) (hdn:(nm==("__debug__":Str))=false:=by decide) (hdn2:(nm==("__classdict__":Str))=false:=by decide) :
  JS (X.may E) (.Try [.Assign [.Name x xp] (.Call (.Name fn p) (e::es) [] pos) apos] [.ExceptHandler (some (.Name T tp)) (some nm) [.Raise (some (.Call (.Name cn np) (b::bs) [] cpos)) (some (.Name nm ep)) rpos] hpos] [] [] tpos) (sD ⟨X.K,X.mg,E⟩ Ob O O (pJ i F α mt n cn β)):=by
 refine ⟨fun af s σ H D' I ⟨as0,B,own,δ,DIh,h⟩=>?_⟩;refine wpAny_Try_except (wpAny_execs_cons (wpAny_Assign_Name ?_ hsw));have IX:=I.unwish;cases hα:α δ with
 | er y=>unfold pJ at h;rw [hα] at h;exact h.elim
 | no=>unfold pJ at h;rw [hα] at h;exact h.elim
 | ok ds =>
  unfold pJ at h;rw [hα] at h;dsimp only at h;have hth:∀ (Q:VK) (E:XK),(∀ vs H1,aD H H1->aX X.K (aS (own++as0) H1) ds vs->rQ X.K X.mg F vs H1 Q E)->tw ⟨X.K,X.mg,E0⟩ O α σ H fun vs H1=>rQ X.K X.mg F vs H1 Q E:=fun Q E q=>⟨as0,B,own,δ,DIh,by
   unfold gX;rw [hα];exact fun v H' s1 dv=>q v H' s1 dv⟩
  cases hF:F ds with
  | no=>rw [hF] at h;exact h.elim
  | ok d =>
   rw [hF] at h;refine eB (qr (X:=X) (E:=fun _ _ _=>False) (Q:=fun v H1=>aD H H1/\gy X.K (aS (own++as0) H1) d v) Df G hr (ha _).out hex hj hg hdb h1 h2 IX (hth _ _ fun vs H1 s1 dv=>⟨own++as0,ds,(DIh.mono s1).exi,dv,by
    unfold dJ;rw [hF];exact fun v H' s2 dv'=>⟨s1.trans s2,dv'⟩⟩) fun _ _ _ _ _ _ z=>z.elim) fun v s1 ⟨y,H1,I1,r1,sm,dv⟩=>?_
   refine lG (X:=X) I1 hN hi hx r1 (fun s2 I2=>?_) hf;exact wpAny_execs_nil (wpAny_execs_nil ⟨_,H1,I2.wish _,h own _ H1 ((DIh.mono sm).set (W:=⟨X.K,X.mg,E⟩) hO dv)⟩)
  | er y =>
   rw [hF] at h;dsimp only at h;by_cases hy:mt y=true
   ·rw [if_pos hy] at h;refine eB (qr (X:=X) (E:=fun _ C H'=>aD H H'/\∃ C',C=some C'/\X.mg y=some (.ref C')) (Q:=fun _ _=>False) Df G hr (ha _).out hex hj hg hdb h1 h2 IX (hth _ _ fun vs H1 s1 dv=>⟨own++as0,ds,(DIh.mono s1).exi,dv,by
     unfold dJ;rw [hF];exact fun e C H' s2 hC=>⟨s1.trans s2,C,rfl,hC⟩⟩) fun z C H' s' I' ea ⟨sm,C',eC,hC⟩=>?_) fun v s1 hh=>mP hh fun y H1 I1 r1 q=>q.elim
    cases eC;obtain ⟨hns,hex1⟩:=hmt y C hy hC;obtain ⟨hqz,hlz⟩:=hmz y C hy hC;refine Hx (X:=X) (E0:=E) hst hfr hm hex1 hgT hdT hN hin hln hlz I' ea fun s2 I2=>?_;have su:aD H' (dE H' z (Gz z C)):=bo ea.hx _;have dI:=(DIh.mono (sm.trans su)).unset (W:=⟨X.K,X.mg,E⟩) (i:=n) (v:=.ref z) hnO;cases hβ:β (δ.set n none) with
    | er y=>rw [hβ] at h;exact h.elim
    | no=>rw [hβ] at h;exact h.elim
    | ok es' =>
     rw [hβ] at h;dsimp only at h;split at h
     ·rename_i hl10;refine wpAny_execs_cons (wpAny_mono (Lb (Q:=fun _ _=>False) (E:=E) (C:=C2) (C2:=C) (y:=z) (n:=n) hcn hm2 hq2 hqz hex hgc hdc h3 hin hvn hdn hdn2 (hb (.ref z)).out I2 ?_ ⟨as0,B,own,_,dI,?_⟩) (fun _ _ q=>q.elim) fun e s3 ⟨H3,x3,he3,I3,e3,hE3⟩=>⟨_,H3,x3,C2,none,he3,I3,e3,hE3⟩)
      ·have hlen:σ.length=X.N.length:=I.len;rw [List.getElem?_set_self (by rw [hlen];exact (List.getElem?_eq_some_iff.mp hin).1)]
      ·unfold gX;rw [hβ];intro vs H4 s4 dv;refine ⟨by rw [<- dv.len];exact hl10,s4 _ _ (by unfold dE;rw [if_pos rfl]),fun x=>h _ C2 H4 (dI.same.trans s4) hm2⟩
     ·exact h.elim
   ·rw [if_neg hy] at h;exact h.elim
end
def Ou {K:PySem.W.Frag} {mg:Str->Option Value} {l:List Str} {CL:Addr} (hL:mg r6=some (.ref CL)) (hk:PySem.W.kitOne K (.ref CL) (.ref CL)=some true)
  (h:∀ x∈l,∃ C,mg x=some (.ref C)/\PySem.W.excIn K C uI "ValueError.__new__"=true/\PySem.W.kitOne K (.ref C) (.ref CL)=some false):Vs K mg (rJ l):=fun x C hx hm=>by
 obtain ⟨C',h1,h2,h3⟩:=h x (of_decide_eq_true hx);rw [h1] at hm;cases hm;refine ⟨h2,fun z=>?_⟩;rw [hL] at z;cases z;rw [hk] at h3;cases h3
end L2
namespace L2
open PySem PySem.Spec PyProof.Rows
section
variable {X:Cx} {W:Wd} {O:List Nat} {o e:Expr} {φ ψ:FE} {apos cpos:Pos}
def RN {x:V}:∀ {xs:List V} {us:List Value},bC xs us->xs.all iO=true->us.countP (zI x)=xs.countP (fun y=>En y x)
 | _,_,.nil,_=>rfl
 | y::xs,u::us,.cons r t,f=>by
  rw [List.all_cons,Bool.and_eq_true] at f;rw [List.countP_cons,List.countP_cons,RN t f.2,Bm (x:=x) r f.1]
def UU (K:PySem.W.Frag):V->List V->Hp->VK->Prop:=fun x vs H Q=>∃ p xs y,x=.ref p/\vs=[y]/\jl K H p xs/\iO y=true/\xs.all iO=true/\Q (.int (xs.countP (fun z=>En z y):Nat)) H
def DA (K:PySem.W.Frag) (hK:X.K=K:=by rfl):U5 X "list.count" (UU K):=by
 subst hK;intro af s σ H x vs v us Q I rx rv h;obtain ⟨p,xs,y,rfl,rfl,hl,fy,fs,q⟩:=h;cases rx;obtain ⟨u,rfl,ru⟩:=gM rv;obtain ⟨its,r,⟨ob,n,e,hc,hd,hs⟩,hz⟩:=I.list hl;obtain ⟨c,dd,da,sl⟩:=ob;cases hc;cases hd;cases hs;refine call_meets PySem.F.slot_list_count ⟨_,e,rfl⟩ PySem.F.entry_list_count (PySem.F.args_list_count_2 _ _) (SeqAt.list_countAt p its.toArray n _ _ u (zI y))
  ⟨e,fun w hw=>lv ru fy r fs w (by simpa using hw),.int _,H,I.tok _,⟨_,rfl⟩,?_⟩
 rw [show its.toArray.toList=its from rfl,RN r fs];exact q
def Rh (a b:D):R D:=match a with
 | .lst ds=>(match eY b,md ds with
  | some v,some vs=>.ok (.int (vs.countP (fun z=>En z v):Nat))
  | _,_=>.no)
 | _=>.no
def NS (φ ψ:FE):FE:=fun δ=>(φ δ).bind fun x=>match x with
 | .lst ds=>(ψ δ).bind fun y=>Rh (.lst ds) y
 | _=>.no
def y6 (K:PySem.W.Frag) (ho:JE X o (tD W O φ)) (ha:JE X e (tD W O ψ)) (hK:X.K=K:=by rfl) (hW:W.K=K:=by rfl) (hbase:attributeBase o "count" X.env (eval o X.env)=eval o X.env:=by rfl) (hline:(apos.endLine==cpos.line)=true:=by rfl) (hn:aR e=true:=by rfl) :
  JE X (.Call (.Attribute o "count" apos) [e] [] cpos) (tD W O (NS φ ψ)) :=
 (RI PySem.F.plainAttrs_list PySem.F.slot_list_count PySem.F.type_list_count (DA K hK) ho (tz ha yC hn) hbase hline (by rw [List.all_cons,hn];rfl) (by show 1 < 29;decide)).imp fun σ H Q hh=>g4 hh fun as0 B own δ I h=>⟨as0,B,own,δ,I,bG h fun x v H1 s1 d1 h1=>by
  subst hK;cases x with
  | lst ds =>
   obtain ⟨p,xs,rfl,q1,q2⟩:=d1;have q1':jl X.K H1 p xs:=by rw [<- hW];exact (aQ _ _).seq q1
   refine ⟨.inl ⟨rfl,xs,q1'⟩,?_⟩;refine ⟨as0,B,own,δ,I.mono s1,bG h1 fun y u H2 s2 d2 h2=>?_⟩;unfold Rh at h2;dsimp only at h2;cases e1:eY y with
   | none=>rw [e1] at h2;exact h2.elim
   | some v =>
    rw [e1] at h2;cases e2:md ds with
    | none=>rw [e2] at h2;exact h2.elim
    | some ws =>
     rw [e2] at h2;dsimp only at h2
     have:=g9 d2 e1
     subst this;obtain ⟨h3,h4⟩:=pd q2 e2;subst h3;exact ⟨p,xs,u,rfl,rfl,s2.seq q1',uO e1,h4,aP h2 rfl⟩
  | _=>exact h1.elim⟩
end
def FnOk.still {P:Program} {w:World} {K:PySem.W.Frag} {mg:Str->Option Value} {base:Heap} {k:Nat} {f:Addr} {fd:FuncData} {ps:List Str} {F:List D->R D} (G:FnOk P w K mg base (oJ P w mg) k f fd ps (rQ K mg F)):FnOk P w K mg base gW k f fd ps (jH K mg (aV F)):=by
 have im:∀ vs H Q E,jH K mg (aV F) vs H Q E->rQ K mg F vs H Q (fun _ _ _=>False):=fun vs H Q E ⟨as,ds,ex,dv,h⟩=>by
  refine ⟨as,ds,ex,dv,?_⟩;unfold aV at h;cases hr:F ds with
  | ok d=>rw [hr] at h;exact h
  | er x=>rw [hr] at h;exact h.elim
  | no=>rw [hr] at h;exact h.elim
 refine ⟨fun vs H Q E h=>G.len vs H Q _ (im _ _ _ _ h),fun A outer s H args us vs Q E hr he hb hv hs=>codeAny_mono (G.run A outer s H args us vs Q _ hr he hb hv (im _ _ _ _ hs)) fun r s' hq=>?_⟩;cases r with
 | error e =>
  obtain ⟨_,_,_,_,_,_,_,_,_,z⟩:=hq;exact z.elim
 | ok fl=>cases fl <;> exact hq
def Pc (K:PySem.W.Frag) (x:Str) (f:Addr->Bool):Bool:=match PySem.W.nsIn K mainGlobals x with
 | some (some (.ref C))=>f C
 | _=>false
def xm {K:PySem.W.Frag} {x:Str} {f:Addr->Bool} {C:Addr} (h:Pc K x f=true) (e:tE K x C):f C=true:=by
 unfold Pc at h;unfold tE at e;rw [e] at h;exact h
def Hy (K:PySem.W.Frag) (C:Addr):Bool :=
 (PySem.W.findIn K (.ref C) "__getattribute__"==some (some (.builtin "BaseException.__getattribute__")))&&((PySem.W.findIn K (.ref C) "__getattr__"==some none)&&((PySem.W.findIn K (.ref C) "__class__"==some (some (.builtin "object.__class__"))) &&
 ((PySem.W.specialIn K (.builtin "object.__class__") "__get__"==some (some (.builtin "getset_descriptor.__get__")))&&((PySem.W.takesIn K (.builtin "object.__class__")==some true)&&((PySem.W.mroIn K C (.type "object")==some true)&&(PySem.W.mroIn K C (.type "BaseException")==some true))))))
def Ce {K:PySem.W.Frag} {C:Addr} (h:Hy K C=true):ExcC K C:=by
 unfold Hy at h;simp only [Bool.and_eq_true,beq_iff_eq] at h;exact ⟨h.1,h.2.1,h.2.2.1,h.2.2.2.1,h.2.2.2.2.1,h.2.2.2.2.2.1,h.2.2.2.2.2.2⟩
def Nb (K:PySem.W.Frag) (l:vF) (ve:List Str):Bool :=
 (l.all fun p=>Pc K p.1 fun C=>Hy K C&&Pc K p.2.1 fun C2=>PySem.W.kitOne K (.ref C) (.ref C2)==some p.2.2)&&ve.all fun x=>Pc K x fun C=>Hy K C&&(PySem.W.kitOne K (.ref C) (.type "ValueError")==some true)
def Jn {K:PySem.W.Frag} {l:vF} {ve:List Str} (h:Nb K l ve=true):TabOk K l ve:=by
 unfold Nb at h;rw [Bool.and_eq_true,List.all_eq_true,List.all_eq_true] at h;refine ⟨fun p hp C C2 e e2=>?_,fun p hp C e=>?_,fun x hx C e=>?_⟩
 ·have:=xm (h.1 p hp) e
  rw [Bool.and_eq_true] at this;exact beq_iff_eq.mp (xm this.2 e2)
 ·have:=xm (h.1 p hp) e
  rw [Bool.and_eq_true] at this;exact Ce this.1
 ·have:=xm (h.2 x hx) e
  rw [Bool.and_eq_true,beq_iff_eq] at this;exact ⟨Ce this.1,this.2⟩
end L2
namespace T51
open PySem L2
def eh:D:=(.str "0123456789")
def lY:D:=(.int 40)
def cx:D:=(.int 18)
def gN:D:=(.int 1000000000)
def pb:D:=(.tup [(.str "and"),(.str "by"),(.str "down"),(.str "from"),(.str "none"),(.str "not"),(.str "or"),(.str "order"),(.str "show"),(.str "take"),(.str "where")])
def nO:D:=(.tup [(.str "number"),(.str "text")])
def jU:D:=(.int 8)
def gR:D:=(.int 8)
def bF:D:=(.int 10)
def iw:D:=(.int 8)
def dU:vF:=[(("BadValue":Str),("BadValue":Str),true),(("BadValue":Str),("BadShape":Str),false),(("BadValue":Str),("BadChange":Str),false),(("BadValue":Str),("BadRow":Str),false),(("BadValue":Str),("NoTable":Str),false),(("BadValue":Str),("TableThere":Str),false),(("BadValue":Str),("NoColumn":Str),false),(("BadValue":Str),("IndexThere":Str),false),(("BadValue":Str),("NoRow":Str),false),(("BadValue":Str),("Over":Str),false),(("BadValue":Str),("Clash":Str),false),(("BadValue":Str),("BadLog":Str),false),(("BadValue":Str),("BadQuestion":Str),false),(("BadValue":Str),("BadDesk":Str),false),(("BadLog":Str),("BadValue":Str),false),(("BadLog":Str),("BadShape":Str),false),(("BadLog":Str),("BadChange":Str),false),(("BadLog":Str),("BadRow":Str),false),(("BadLog":Str),("NoTable":Str),false),(("BadLog":Str),("TableThere":Str),false),(("BadLog":Str),("NoColumn":Str),false),(("BadLog":Str),("IndexThere":Str),false),(("BadLog":Str),("NoRow":Str),false),(("BadLog":Str),("Over":Str),false),(("BadLog":Str),("Clash":Str),false),(("BadLog":Str),("BadLog":Str),true),(("BadLog":Str),("BadQuestion":Str),false),(("BadLog":Str),("BadDesk":Str),false)]
def jt:List Str:=["BadValue","BadLog"]
abbrev wj:List Str:=["sign"]
abbrev lN:List Str:=["sign"]
def ou:FS:=(aW (ji (ao MR (ae 0) (vC (.str " "))) (ao Av (ae 0) (vC (.str "~")))))
def jK:List D->R D:=bM ou wj lN
def C7 (a0:D):jK [a0]=fin (ou [some a0]):=rfl
abbrev oV:List Str:=["thing"]
abbrev j8:List Str:=["thing"]
def mh:FS:=(aF (cp (cj (ak jr (ac (ae 0) (ac (vC (.ty "str")) aj)))) (aW (ji (ao Av (ak bO (ac (ae 0) aj)) (vC lY)) (ak qj (ac (dm [none] (iR (ae 0)) (.one 0) dX (ak jK (ac (ae 0) aj))) aj)))) aI) (aF (cp (qN (cj (ak jr (ac (ae 0) (ac (vC (.ty "int")) aj)))) (eI (cj (ak jr (ac (ae 0) (ac (vC (.ty "bool")) aj)))))) (aW (ao D6 (ak Jp (ac (ae 0) aj)) (ao kR (vC (.int 10)) (vC (.int 18))))) aI) (aW (ao Nq (ae 0) (vC .non)))))
def j6:List D->R D:=bM mh oV j8
def Br (a0:D):j6 [a0]=fin (mh [some a0]):=rfl
abbrev rZ:List Str:=["line","inner","text"]
abbrev iT:List Str:=["line"]
def iQ:FS:=(aF (cp (vp (bP (ao D6 (ak bO (ac (ae 0) aj)) (vC (.int 2)))) (eI (cj (oD (uf fun x y=>.bl (Txt.endswith x y)) (ae 0) (ac (vC (.str "\"")) aj))))) (vw "BadValue" (ac (sA "a text without its end: " (ae 0)) aj)) aI) (aF (aJ 1 (qe jP (ae 0) (bR (vC (.int 1))) (bR (L4 Iu (vC (.int 1)))))) (aF (cp (bP (ao vo (vC (.str "\"")) (L4 (qg "\"\"" "") (ae 1)))) (vw "BadValue" (ac (sA "a sign behind a text's end, or no end: " (ae 0)) aj)) aI) (aF (aJ 2 (L4 (qg "\"\"" "\"") (ae 1))) (aF (cp (eI (cj (ak (aV j6) (ac (ae 2) aj)))) (vw "BadValue" (ac (sA "a text too long, or of signs that no value has: " (ae 0)) aj)) aI) (aW (ae 2)))))))
def gx:List D->R D:=bM iQ rZ iT
def sJ (a0:D):gx [a0]=fin (iQ [some a0,none,none]):=rfl
abbrev kT:List Str:=["line","figures"]
abbrev fQ:List Str:=["line"]
def ij:FS:=(aF (aJ 1 (UD (cj (oD (uf fun x y=>.bl (Txt.startswith x y)) (ae 0) (ac (vC (.str "-")) aj))) (qe jP (ae 0) (bR (vC (.int 1))) eN) (ae 0))) (aF (cp (vp (bP (ao cq (ae 1) (vC (.str "")))) (eI (cj (ak qj (ac (dm [none] (iR (ae 1)) (.one 0) dX (ao vo (ae 0) (vC eh))) aj))))) (vw "BadValue" (ac (sA "neither none nor a number nor a text: " (ae 0)) aj)) aI) (aF (cp (qN (cj (oD (uf fun x y=>.bl (Txt.startswith x y)) (ae 1) (ac (vC (.str "0")) aj))) (bP (ao wW (ae 0) (vC (.str "0"))))) (vw "BadValue" (ac (sA "a nought ahead, or -0: " (ae 0)) aj)) aI) (aF (cp (bP (ao vn (ak bO (ac (ae 1) aj)) (vC cx))) (vw "BadValue" (ac (sA "a number beyond the bounds: " (ae 0)) aj)) aI) (aW (ak qa (ac (ae 0) aj)))))))
def ir:List D->R D:=bM ij kT fQ
def vJ (a0:D):ir [a0]=fin (ij [some a0,none]):=rfl
abbrev qf:List Str:=["line"]
abbrev gP:List Str:=["line"]
def jo:FS:=(aF (cp (bP (ao cq (ae 0) (vC (.str "none")))) (aW (vC .non)) aI) (aF (cp (cj (oD (uf fun x y=>.bl (Txt.startswith x y)) (ae 0) (ac (vC (.str "\"")) aj))) (aW (ak gx (ac (ae 0) aj))) aI) (aW (ak ir (ac (ae 0) aj)))))
def bL:List D->R D:=bM jo qf gP
def yg (a0:D):bL [a0]=fin (jo [some a0]):=rfl
abbrev si:List Str:=["line","pieces","start","in_text","place","sign"]
abbrev iP:List Str:=["line"]
def kF:FS:=(aF (vD 1 (dj aj)) (aF (aJ 2 (vC (.int 0))) (aF (aJ 3 (vC (.bl false))) (aF (sQ (lX (ac (ae 0) aj)) (.tup [4,5]) (aF (cp (bP (ao cq (ae 5) (vC (.str "\"")))) (aJ 3 (AS (ae 3))) aI) (cp (qN (bP (ao cq (ae 5) (vC (.str " ")))) (eI (cj (ae 3)))) (aF (cT 1 (qe jP (ae 0) (bR (ae 2)) (bR (ae 4)))) (aJ 2 (ao aC (ae 4) (vC (.int 1))))) aI))) (aF (cT 1 (qe jP (ae 0) (bR (ae 2)) eN)) (aW (ae 1)))))))
def gz:List D->R D:=bM kF si iP
def Al (a0:D):gz [a0]=fin (kF [some a0,none,none,none,none,none]):=rfl
abbrev kW:List Str:=["line"]
abbrev fU:List Str:=["line"]
def ic:FS:=(aF (cp (bP (ao cq (ae 0) (vC (.str "")))) (aW (dj aj)) aI) (aW (ui [none] (iR (ak (aV gz) (ac (ae 0) aj))) (.one 0) dX (ak bL (ac (ae 0) aj)))))
def fR:List D->R D:=bM ic kW fU
def vx (a0:D):fR [a0]=fin (ic [some a0]):=rfl
abbrev mG:List Str:=["thing"]
abbrev dR:List Str:=["thing"]
def fZ:FS:=(aW (ji (ak jr (ac (ae 0) (ac (vC (.ty "int")) aj))) (ji (AS (ak jr (ac (ae 0) (ac (vC (.ty "bool")) aj)))) (ji (ao MR (ae 0) (vC (.int 1))) (ao Av (ae 0) (vC gN))))))
def dM:List D->R D:=bM fZ mG dR
def sX (a0:D):dM [a0]=fin (fZ [some a0]):=rfl
abbrev sE:List Str:=["sign"]
abbrev iL:List Str:=["sign"]
def ku:FS:=(aW (ji (ao MR (ae 0) (vC (.str "a"))) (ao Av (ae 0) (vC (.str "z")))))
def gv:List D->R D:=bM ku sE iL
def z5 (a0:D):gv [a0]=fin (ku [some a0]):=rfl
abbrev rp:List Str:=["thing"]
abbrev ll:List Str:=["thing"]
def n5:FS:=(aF (cp (vp (eI (cj (ak jr (ac (ae 0) (ac (vC (.ty "str")) aj))))) (vp (bP (ao cq (ae 0) (vC (.str "")))) (bP (ao vn (ak bO (ac (ae 0) aj)) (vC jU))))) (aW (vC (.bl false))) aI) (aW (ji (ak qj (ac (dm [none] (iR (ae 0)) (.one 0) dX (ak gv (ac (ae 0) aj))) aj)) (ao BL (ae 0) (vC pb)))))
def ck:List D->R D:=bM n5 rp ll
def Dk (a0:D):ck [a0]=fin (n5 [some a0]):=rfl
abbrev lu:List Str:=["thing"]
abbrev cW:List Str:=["thing"]
def fm:FS:=(aW (ji (ak jr (ac (ae 0) (ac (vC (.ty "str")) aj))) (ao vo (ae 0) (vC nO))))
def cX:List D->R D:=bM fm lu cW
def rV (a0:D):cX [a0]=fin (fm [some a0]):=rfl
abbrev wf:List Str:=["thing"]
abbrev lM:List Str:=["thing"]
def lJ:FS:=(aW (ji (ak jr (ac (ae 0) (ac (vC (.ty "tuple")) aj))) (ao cq (ak bO (ac (ae 0) aj)) (vC (.int 2)))))
def hV:List D->R D:=bM lJ wf lM
def wK (a0:D):hV [a0]=fin (lJ [some a0]):=rfl
abbrev sL:List Str:=["thing"]
abbrev iU:List Str:=["thing"]
def kH:FS:=(aW (ji (ak hV (ac (ae 0) aj)) (ji (ak ck (ac (ao aU (ae 0) (vC (.int 0))) aj)) (ak cX (ac (ao aU (ae 0) (vC (.int 1))) aj)))))
def dt:List D->R D:=bM kH sL iU
def yK (a0:D):dt [a0]=fin (kH [some a0]):=rfl
abbrev ip:List Str:=["thing","names"]
abbrev fO:List Str:=["thing"]
def fN:FS:=(aF (cp (vp (eI (cj (ak jr (ac (ae 0) (ac (vC (.ty "tuple")) aj))))) (vp (bP (ao D6 (ak bO (ac (ae 0) aj)) (vC (.int 1)))) (bP (ao vn (ak bO (ac (ae 0) aj)) (vC gR))))) (aW (vC (.bl false))) aI) (aF (cp (eI (cj (ak qj (ac (dm [none] (iR (ae 0)) (.one 0) dX (ak dt (ac (ae 0) aj))) aj)))) (aW (vC (.bl false))) aI) (aF (aJ 1 (dm [none] (iR (ae 0)) (.one 0) dX (ao aU (ae 0) (vC (.int 0))))) (aW (ao cq (ak oj (ac (ae 1) aj)) (ak bO (ac (ae 1) aj)))))))
def bx:List D->R D:=bM fN ip fO
def oN (a0:D):bx [a0]=fin (fN [some a0,none]):=rfl
abbrev tO:List Str:=["thing"]
abbrev jN:List Str:=["thing"]
def mv:FS:=(aW (ji (ak hV (ac (ae 0) aj)) (ji (ak ck (ac (ao aU (ae 0) (vC (.int 0))) aj)) (ak bx (ac (ao aU (ae 0) (vC (.int 1))) aj)))))
def j9:List D->R D:=bM mv tO jN
def Bt (a0:D):j9 [a0]=fin (mv [some a0]):=rfl
abbrev l6:List Str:=["words","columns","shape"]
abbrev gK:List Str:=["words"]
def ju:FS:=(aF (aJ 1 (dm [none,some 0] (ut (ac (vC (.int 2)) (ac (ao jj (ak bO (ac (ae 0) aj)) (vC (.int 1))) (ac (vC (.int 2)) aj)))) (.one 0) dX (kl (ac (ao aU (ae 1) (ae 0)) (ac (ao aU (ae 1) (ao aC (ae 0) (vC (.int 1)))) aj))))) (aF (cp (bP (ao wW (ak bO (ac (ae 0) aj)) (ao aC (vC (.int 2)) (ao dC (vC (.int 2)) (ak bO (ac (ae 1) aj)))))) (vw "BadLog" (ac (vC (.str "a column without a kind, or a table without a name")) aj)) aI) (aF (aJ 2 (kl (ac (ao aU (ae 0) (vC (.int 1))) (ac (ak rM (ac (ae 1) aj)) aj)))) (aF (cp (eI (cj (ak (aV j9) (ac (ae 2) aj)))) (vw "BadLog" (ac (vC (.str "no shape")) aj)) aI) (aW (kl (ac (vC (.str "table")) (ac (ae 2) aj))))))))
def gG:List D->R D:=bM ju l6 gK
def ym (a0:D):gG [a0]=fin (ju [some a0,none,none]):=rfl
abbrev gS:List Str:=["word","number"]
abbrev cJ:List Str:=["word"]
def eJ:FS:=(aF (cp (vp (bP (ao cq (ae 0) (vC (.str "")))) (vp (bP (ao vn (ak bO (ac (ae 0) aj)) (vC bF))) (eI (cj (ak qj (ac (dm [none] (iR (ae 0)) (.one 0) dX (ao vo (ae 0) (vC eh))) aj)))))) (vw "BadLog" (ac (sA "no number of a row: " (ae 0)) aj)) aI) (aF (aJ 1 (ak qa (ac (ae 0) aj))) (aF (cp (vp (cj (oD (uf fun x y=>.bl (Txt.startswith x y)) (ae 0) (ac (vC (.str "0")) aj))) (eI (cj (ak (aV dM) (ac (ae 1) aj))))) (vw "BadLog" (ac (sA "a nought ahead, or a number beyond the bounds: " (ae 0)) aj)) aI) (aW (ae 1)))))
def bU:List D->R D:=bM eJ gS cJ
def qq (a0:D):bU [a0]=fin (eJ [some a0,none]):=rfl
abbrev uU:List Str:=["line","named","numbered","number","values","error"]
abbrev jR:List Str:=["line"]
def ml:FS:=(aF (aJ 1 (oD sd (qe jP (ae 0) (bR (ak bO (ac (vC (.str "put ")) aj))) eN) (ac (vC (.str " ")) aj))) (aF (aJ 2 (oD sd (ao aU (ae 1) (vC (.int 2))) (ac (vC (.str " ")) aj))) (aF (cp (eI (cj (ak (aV ck) (ac (ao aU (ae 1) (vC (.int 0))) aj)))) (vw "BadLog" (ac (sA "no name of a table: " (ae 0)) aj)) aI) (aF (aJ 3 (ak bU (ac (ao aU (ae 2) (vC (.int 0))) aj))) (aF (pJ 4 fR (ac (ao aU (ae 2) (vC (.int 2))) aj) (rJ ["BadValue"]) 5 "BadLog" (ac (sA "no values: " (ae 0)) aj)) (aF (cp (vp (bP (ao D6 (ak bO (ac (ae 4) aj)) (vC (.int 1)))) (bP (ao vn (ak bO (ac (ae 4) aj)) (vC iw)))) (vw "BadLog" (ac (sA "no values, or too many: " (ae 0)) aj)) aI) (aW (kl (ac (vC (.str "put")) (ac (ao aU (ae 1) (vC (.int 0))) (ac (ae 3) (ac (ak rM (ac (ae 4) aj)) aj))))))))))))
def jT:List D->R D:=bM ml uU jR
def A7 (a0:D):jT [a0]=fin (ml [some a0,none,none,none,none,none]):=rfl
abbrev oO:List Str:=["line","words"]
abbrev fK:List Str:=["line"]
def ii:FS:=(aF (aJ 1 (oD m7 (ae 0) (ac (vC (.str " ")) aj))) (aF (cp (bP (ao cq (ao aU (ae 1) (vC (.int 0))) (vC (.str "table")))) (aW (ak gG (ac (ae 1) aj))) aI) (aF (cp (bP (ao cq (ao aU (ae 1) (vC (.int 0))) (vC (.str "put")))) (aW (ak jT (ac (ae 0) aj))) aI) (aF (cp (vp (bP (ao wW (ak bO (ac (ae 1) aj)) (vC (.int 3)))) (eI (cj (ak (aV ck) (ac (ao aU (ae 1) (vC (.int 1))) aj))))) (vw "BadLog" (ac (sA "no line of a change: " (ae 0)) aj)) aI) (aF (cp (qN (bP (ao cq (ao aU (ae 1) (vC (.int 0))) (vC (.str "index")))) (cj (ak (aV ck) (ac (ao aU (ae 1) (vC (.int 2))) aj)))) (aW (kl (ac (vC (.str "index")) (ac (ao aU (ae 1) (vC (.int 1))) (ac (ao aU (ae 1) (vC (.int 2))) aj))))) aI) (aF (cp (bP (ao cq (ao aU (ae 1) (vC (.int 0))) (vC (.str "drop")))) (aW (kl (ac (vC (.str "drop")) (ac (ao aU (ae 1) (vC (.int 1))) (ac (ak bU (ac (ao aU (ae 1) (vC (.int 2))) aj)) aj))))) aI) (vw "BadLog" (ac (sA "no line of a change: " (ae 0)) aj))))))))
def bE:List D->R D:=bM ii oO fK
def vt (a0:D):bE [a0]=fin (ii [some a0,none]):=rfl
abbrev wb:List Str:=["_law_found"]
abbrev lO:List Str:=["_law_found"]
def n9:FS:=(aW (ji (ak jr (ac (ae 0) (ac (vC (.ty "int")) aj))) (AS (ak jr (ac (ae 0) (ac (vC (.ty "bool")) aj))))))
def om:List D->R D:=bM n9 wb lO
def DL (a0:D):om [a0]=fin (n9 [some a0]):=rfl
abbrev r9:List Str:=["_law_script","_law_k"]
abbrev iS:List Str:=["_law_script","_law_k"]
def ky:FS:=(aF (cp (bP (ao D6 (ae 1) (ak bO (ac (ae 0) aj)))) (aW (ao aU (ae 0) (ae 1))) aI) (aW (vC (.int 0))))
def bj:List D->R D:=bM ky r9 iS
def yR (a0 a1:D):bj [a0,a1]=fin (ky [some a0,some a1]):=rfl
abbrev v7:List Str:=["_law_number"]
abbrev lh:List Str:=["_law_number"]
def oh:FS:=(aW (ao bq (ao aC (ao dC (ae 0) (vC (.int 48271))) (vC (.int 7919))) (vC (.int 2147483647))))
def bu:List D->R D:=bM oh v7 lh
def Db (a0:D):bu [a0]=fin (oh [some a0]):=rfl
abbrev sj:List Str:=["_law_cell","_law_some","_law_found","_law_number","_law_k"]
abbrev iH:List Str:=["_law_cell"]
def kn:FS:=(aF (aJ 1 (vC (.str "abcdefghijklmnopqrstuvwxyz"))) (aF (aJ 2 (vC (.str ""))) (aF (aJ 3 (ae 0)) (aF (sQ (g8 (ac (ao aC (vC (.int 1)) (ao bq (ae 0) (vC (.int 8)))) aj)) (.one 4) (aF (aJ 3 (ak bu (ac (ae 3) aj))) (aJ 2 (ao aC (ae 2) (ao aU (ae 1) (ao bq (ae 3) (vC (.int 26)))))))) (aF (cp (bP (ao vo (ae 2) (dj (ac (vC (.str "and")) (ac (vC (.str "by")) (ac (vC (.str "down")) (ac (vC (.str "from")) (ac (vC (.str "none")) (ac (vC (.str "not")) (ac (vC (.str "or")) (ac (vC (.str "order")) (ac (vC (.str "show")) (ac (vC (.str "take")) (ac (vC (.str "where")) aj)))))))))))))) (aW (ao aC (ae 2) (vC (.str "z")))) aI) (aW (ae 2)))))))
def dl:List D->R D:=bM kn sj iH
def zG (a0:D):dl [a0]=fin (kn [some a0,none,none,none,none]):=rfl
abbrev zF:List Str:=["_law_name","_law_cell","_law_some","_law_at","_law_step","_law_found"]
abbrev m4:List Str:=["_law_name","_law_cell"]
def qo:FS:=(aF (aJ 2 (vC (.str "abcdefghijklmnopqrstuvwxyz"))) (aF (aJ 3 (ao bq (ae 1) (ak bO (ac (ae 0) aj)))) (aF (aJ 4 (ao aC (ao aC (oD (uf fun x y=>.int (Bs x y)) (ae 2) (ac (ao aU (ae 0) (ae 3)) aj)) (vC (.int 1))) (ao bq (ao cC (ae 1) (vC (.int 8))) (vC (.int 25))))) (aF (aJ 5 (ao aC (ao aC (qe jP (ae 0) eN (bR (ae 3))) (ao aU (ae 2) (ao bq (ae 4) (vC (.int 26))))) (qe jP (ae 0) (bR (ao aC (ae 3) (vC (.int 1)))) eN))) (aF (cp (bP (ao vo (ae 5) (dj (ac (vC (.str "and")) (ac (vC (.str "by")) (ac (vC (.str "down")) (ac (vC (.str "from")) (ac (vC (.str "none")) (ac (vC (.str "not")) (ac (vC (.str "or")) (ac (vC (.str "order")) (ac (vC (.str "show")) (ac (vC (.str "take")) (ac (vC (.str "where")) aj)))))))))))))) (aW (ao aC (ae 5) (vC (.str "z")))) aI) (aW (ae 5)))))))
def mW:List D->R D:=bM qo zF m4
def Fs (a0 a1:D):mW [a0,a1]=fin (qo [some a0,some a1,none,none,none,none]):=rfl
abbrev qc:List Str:=["_law_name","_law_cell","_law_base","_law_many","_law_columns","_law_more","_law_j","_law_column"]
abbrev gH:List Str:=["_law_name","_law_cell"]
def jy:FS:=(aF (aJ 2 (qe jP (ak dl (ac (ao cC (ae 1) (vC (.int 7))) aj)) eN (bR (vC (.int 5))))) (aF (aJ 3 (ao aU (dj (ac (vC (.int 1)) (ac (vC (.int 2)) (ac (vC (.int 3)) (ac (vC (.int 4)) (ac (vC (.int 2)) (ac (vC (.int 3)) (ac (vC (.int 1)) (ac (vC (.int 8)) aj))))))))) (ao bq (ae 1) (vC (.int 8))))) (aF (vD 4 (dj aj)) (aF (aJ 5 (ae 1)) (aF (sQ (g8 (ac (ae 3) aj)) (.one 6) (aF (aJ 5 (ak bu (ac (ae 5) aj))) (aF (aJ 7 (ao aC (ao aC (ae 2) (vC (.str "z"))) (ao aU (vC (.str "abcdefgh")) (ae 6)))) (aF (cp (bP (ao cq (ao bq (ao cC (ae 1) (vC (.int 8))) (vC (.int 2))) (vC (.int 1)))) (aJ 7 (ao aC (ao aC (ao aU (vC (.str "abcdefgh")) (ae 6)) (vC (.str "z"))) (ae 2))) aI) (cT 4 (kl (ac (ae 7) (ac (ao aU (dj (ac (vC (.str "number")) (ac (vC (.str "text")) aj))) (ao bq (ao cC (ae 5) (vC (.int 7))) (vC (.int 2)))) aj)))))))) (aW (kl (ac (ae 0) (ac (ak rM (ac (ae 4) aj)) aj)))))))))
def gE:List D->R D:=bM jy qc gH
def xb (a0 a1:D):gE [a0,a1]=fin (jy [some a0,some a1,none,none,none,none,none,none]):=rfl
abbrev ss:List Str:=["_law_cell","_law_some","_law_size","_law_found","_law_number","_law_k"]
abbrev iZ:List Str:=["_law_cell"]
def kw:FS:=(aF (aJ 1 (vC (.str " !\"#$&'()*+,-./0123456789:;<=>?@ABCDEFGHIJKLMNOPQRSTUVWXYZ[\\]^_`abcdefghijklmnopqrstuvwxyz{|}~"))) (aF (aJ 2 (ao bq (ae 0) (vC (.int 6)))) (aF (cp (bP (ao cq (ao bq (ao cC (ae 0) (vC (.int 6))) (vC (.int 8))) (vC (.int 1)))) (aJ 2 (ao bq (ao cC (ae 0) (vC (.int 48))) (vC (.int 41)))) aI) (aF (aJ 3 (vC (.str ""))) (aF (aJ 4 (ae 0)) (aF (sQ (g8 (ac (ae 2) aj)) (.one 5) (aF (aJ 4 (ak bu (ac (ae 4) aj))) (aJ 3 (ao aC (ae 3) (ao aU (ae 1) (ao bq (ae 4) (vC (.int 94)))))))) (aW (ae 3))))))))
def gu:List D->R D:=bM kw ss iZ
def zA (a0:D):gu [a0]=fin (kw [some a0,none,none,none,none,none]):=rfl
abbrev qb:List Str:=["_law_kind","_law_cell"]
abbrev gC:List Str:=["_law_kind","_law_cell"]
def jq:FS:=(aF (cp (bP (ao cq (ao bq (ae 1) (vC (.int 5))) (vC (.int 0)))) (aW (vC .non)) aI) (aF (cp (bP (ao cq (ae 0) (vC (.str "text")))) (aW (ak gu (ac (ao cC (ae 1) (vC (.int 5))) aj))) aI) (aF (cp (bP (ao cq (ao bq (ae 1) (vC (.int 5))) (vC (.int 1)))) (aW (ao jj (ao bq (ao dC (ao dC (ae 1) (ae 1)) (vC (.int 48271))) (ao jj (ao dC (vC (.int 2)) (ao kR (vC (.int 10)) (vC (.int 18)))) (vC (.int 1)))) (ao jj (ao kR (vC (.int 10)) (vC (.int 18))) (vC (.int 1))))) aI) (aW (ao jj (ao bq (ao cC (ae 1) (vC (.int 5))) (vC (.int 9))) (vC (.int 3)))))))
def gT:List D->R D:=bM jq qb gC
def yj (a0 a1:D):gT [a0,a1]=fin (jq [some a0,some a1]):=rfl
abbrev tS:List Str:=["_law_shape","_law_cell","_law_found","_law_column"]
abbrev jZ:List Str:=["_law_shape","_law_cell"]
def ms:FS:=(aF (vD 2 (dj aj)) (aF (sQ (iR (ao aU (ae 0) (vC (.int 1)))) (.one 3) (aF (aJ 1 (ak bu (ac (ae 1) aj))) (cT 2 (ak gT (ac (ao aU (ae 3) (vC (.int 1))) (ac (ao cC (ae 1) (vC (.int 3))) aj)))))) (aW (ak rM (ac (ae 2) aj)))))
def lW:List D->R D:=bM ms tS jZ
def AF (a0 a1:D):lW [a0,a1]=fin (ms [some a0,some a1,none,none]):=rfl
abbrev sv:List Str:=["_law_value"]
abbrev i3:List Str:=["_law_value"]
def km:FS:=(aF (cp (bP (ao Nq (ae 0) (vC .non))) (aW (vC (.str "none"))) aI) (aF (cp (cj (ak jr (ac (ae 0) (ac (vC (.ty "str")) aj)))) (aW (ao aC (ao aC (vC (.str "\"")) (L4 (qg "\"" "\"\"") (ae 0))) (vC (.str "\"")))) aI) (aW (ak Cw (ac (ae 0) aj)))))
def ff:List D->R D:=bM km sv i3
def yP (a0:D):ff [a0]=fin (km [some a0]):=rfl
abbrev pO:List Str:=["_law_change"]
abbrev nI:List Str:=["_law_change"]
def jX:FS:=(aF (cp (bP (ao cq (ao aU (ae 0) (vC (.int 0))) (vC (.str "table")))) (aW (oD fG (vC (.str " ")) (ac (ao aC (dj (ac (vC (.str "table")) (ac (ao aU (ao aU (ae 0) (vC (.int 1))) (vC (.int 0))) aj))) (dm [none] (iR (ao aU (ao aU (ae 0) (vC (.int 1))) (vC (.int 1)))) (.one 0) dX (ao aC (ao aC (ao aU (ae 0) (vC (.int 0))) (vC (.str " "))) (ao aU (ae 0) (vC (.int 1)))))) aj))) aI) (aF (cp (bP (ao cq (ao aU (ae 0) (vC (.int 0))) (vC (.str "put")))) (aW (oD fG (vC (.str " ")) (ac (ao aC (dj (ac (vC (.str "put")) (ac (ao aU (ae 0) (vC (.int 1))) (ac (ak p5 (ac (ao aU (ae 0) (vC (.int 2))) aj)) aj)))) (dm [none] (iR (ao aU (ae 0) (vC (.int 3)))) (.one 0) dX (ak ff (ac (ae 0) aj)))) aj))) aI) (aW (oD fG (vC (.str " ")) (ac (dj (ac (ao aU (ae 0) (vC (.int 0))) (ac (ao aU (ae 0) (vC (.int 1))) (ac (ak p5 (ac (ao aU (ae 0) (vC (.int 2))) aj)) aj)))) aj)))))
def b8:List D->R D:=bM jX pO nI
def qm (a0:D):b8 [a0]=fin (jX [some a0]):=rfl
abbrev oM:List Str:=["_law_names","_law_cell","_law_name","_law_shape","_law_number"]
abbrev fS:List Str:=["_law_names","_law_cell"]
def ig:FS:=(aF (aJ 2 (ao aU (ae 0) (ao bq (ao cC (ae 1) (vC (.int 5))) (vC (.int 2))))) (aF (aJ 3 (ak gE (ac (ae 2) (ac (ao cC (ae 1) (vC (.int 10))) aj)))) (aF (aJ 4 (ao aC (vC (.int 1)) (ao bq (ao cC (ae 1) (vC (.int 10))) (vC (.int 9))))) (aF (cp (bP (ao cq (ao bq (ao cC (ae 1) (vC (.int 90))) (vC (.int 4))) (vC (.int 1)))) (aJ 4 (ao aC (vC (.int 1)) (ao bq (ao cC (ae 1) (vC (.int 360))) (ao kR (vC (.int 10)) (vC (.int 9)))))) aI) (aF (cp (bP (ao cq (ao bq (ao cC (ae 1) (vC (.int 90))) (vC (.int 16))) (vC (.int 2)))) (aJ 4 (ao kR (vC (.int 10)) (vC (.int 9)))) aI) (aF (cp (bP (ao cq (ao bq (ae 1) (vC (.int 5))) (vC (.int 0)))) (aW (kl (ac (vC (.str "table")) (ac (ae 3) aj)))) aI) (aF (cp (bP (ao cq (ao bq (ae 1) (vC (.int 5))) (vC (.int 1)))) (aW (kl (ac (vC (.str "index")) (ac (ae 2) (ac (ao aU (ao aU (ao aU (ae 3) (vC (.int 1))) (ao bq (ao cC (ae 1) (vC (.int 10))) (ak bO (ac (ao aU (ae 3) (vC (.int 1))) aj)))) (vC (.int 0))) aj))))) aI) (aF (cp (bP (ao cq (ao bq (ae 1) (vC (.int 5))) (vC (.int 2)))) (aW (kl (ac (vC (.str "drop")) (ac (ae 2) (ac (ae 4) aj))))) aI) (aW (kl (ac (vC (.str "put")) (ac (ae 2) (ac (ae 4) (ac (ak lW (ac (ae 3) (ac (ao cC (ae 1) (vC (.int 7))) aj))) aj))))))))))))))
def eu:List D->R D:=bM ig oM fS
def vN (a0 a1:D):eu [a0,a1]=fin (ig [some a0,some a1,none,none,none]):=rfl
abbrev wL:List Str:=["_law_e","_law_told"]
abbrev jI:List Str:=["_law_e"]
def lp:FS:=(aF (aJ 1 (dj (ac (ak (jf dU jt) (ac (ae 0) (ac (vC (.cls "BadValue")) aj))) (ac (ak (jf dU jt) (ac (ae 0) (ac (vC (.cls "BadShape")) aj))) (ac (ak (jf dU jt) (ac (ae 0) (ac (vC (.cls "BadChange")) aj))) (ac (ak (jf dU jt) (ac (ae 0) (ac (vC (.cls "BadRow")) aj))) aj)))))) (aF (aJ 1 (ao aC (ae 1) (dj (ac (ak (jf dU jt) (ac (ae 0) (ac (vC (.cls "NoTable")) aj))) (ac (ak (jf dU jt) (ac (ae 0) (ac (vC (.cls "TableThere")) aj))) (ac (ak (jf dU jt) (ac (ae 0) (ac (vC (.cls "NoColumn")) aj))) aj)))))) (aF (aJ 1 (ao aC (ae 1) (dj (ac (ak (jf dU jt) (ac (ae 0) (ac (vC (.cls "IndexThere")) aj))) (ac (ak (jf dU jt) (ac (ae 0) (ac (vC (.cls "NoRow")) aj))) (ac (ak (jf dU jt) (ac (ae 0) (ac (vC (.cls "Over")) aj))) (ac (ak (jf dU jt) (ac (ae 0) (ac (vC (.cls "Clash")) aj))) aj))))))) (aF (aJ 1 (ao aC (ae 1) (dj (ac (ak (jf dU jt) (ac (ae 0) (ac (vC (.cls "BadLog")) aj))) (ac (ak (jf dU jt) (ac (ae 0) (ac (vC (.cls "BadQuestion")) aj))) (ac (ak (jf dU jt) (ac (ae 0) (ac (vC (.cls "BadDesk")) aj))) aj)))))) (aW (ji (ak (jf dU jt) (ac (ae 0) (ac (vC (.ty "ValueError")) aj))) (ao cq (NS (ae 1) (vC (.bl true))) (vC (.int 1)))))))))
def gA:List D->R D:=bM lp wL jI
def Dc (a0:D):gA [a0]=fin (lp [some a0,none]):=rfl
abbrev mL:List Str:=["_law_change","_law_way","_law_words"]
abbrev dY:List Str:=["_law_change","_law_way"]
def gb:FS:=(aF (aJ 2 (oD m7 (ak b8 (ac (ae 0) aj)) (ac (vC (.str " ")) aj))) (aF (cp (bP (ao cq (ae 1) (vC (.int 0)))) (aW (ao aC (vC (.str " ")) (oD fG (vC (.str " ")) (ac (ae 2) aj)))) aI) (aF (cp (bP (ao cq (ae 1) (vC (.int 1)))) (aW (ao aC (ao aC (oD fG (vC (.str " ")) (ac (qe jP (ae 2) eN (bR (vC (.int 1)))) aj)) (vC (.str "  "))) (oD fG (vC (.str " ")) (ac (qe jP (ae 2) (bR (vC (.int 1))) eN) aj)))) aI) (aF (cp (bP (ao cq (ae 1) (vC (.int 2)))) (aW (ao aC (oD fG (vC (.str " ")) (ac (ae 2) aj)) (vC (.str " ")))) aI) (aF (cp (bP (ao cq (ae 1) (vC (.int 3)))) (aW (ao aC (vC (.str "P")) (qe jP (oD fG (vC (.str " ")) (ac (ae 2) aj)) (bR (vC (.int 1))) eN))) aI) (aF (cp (bP (ao cq (ae 1) (vC (.int 4)))) (aW (ao aC (vC (.str "a")) (oD fG (vC (.str " ")) (ac (ae 2) aj)))) aI) (aW (oD fG (vC (.str " ")) (ac (ao aC (dj (ac (ao aU (ae 2) (vC (.int 0))) (ac (ao aU (dj (ac (vC (.str "")) (ac (vC (.str "and")) (ac (vC (.str "A")) (ac (vC (.str "abcdefghi")) (ac (vC (.str "a1")) (ac (vC (.str "none")) aj))))))) (ao jj (ae 1) (vC (.int 5)))) aj))) (qe jP (ae 2) (bR (vC (.int 2))) eN)) aj)))))))))
def ge:List D->R D:=bM gb mL dY
def sW (a0 a1:D):ge [a0,a1]=fin (gb [some a0,some a1,none]):=rfl
abbrev jk:List Str:=["_law_change","_law_way","_law_line_here","_law_columns"]
abbrev dZ:List Str:=["_law_change","_law_way"]
def gi:FS:=(aF (aJ 2 (ao aC (vC (.str "table ")) (ao aU (ao aU (ae 0) (vC (.int 1))) (vC (.int 0))))) (aF (aJ 3 (oD fG (vC (.str " ")) (ac (dm [none] (iR (ao aU (ao aU (ae 0) (vC (.int 1))) (vC (.int 1)))) (.one 0) dX (ao aC (ao aC (ao aU (ae 0) (vC (.int 0))) (vC (.str " "))) (ao aU (ae 0) (vC (.int 1))))) aj))) (aF (cp (bP (ao cq (ae 1) (vC (.int 11)))) (aW (ae 2)) aI) (aF (cp (bP (ao cq (ae 1) (vC (.int 12)))) (aW (ao aC (ao aC (ao aC (ao aC (ao aC (ae 2) (vC (.str " "))) (ae 3)) (vC (.str " "))) (ao aU (ao aU (ao aU (ao aU (ae 0) (vC (.int 1))) (vC (.int 1))) (vC (.int 0))) (vC (.int 0)))) (vC (.str " text")))) aI) (aF (cp (bP (ao cq (ae 1) (vC (.int 13)))) (aW (ao aC (ao aC (ao aC (ae 2) (vC (.str " "))) (ae 3)) (vC (.str " zz")))) aI) (aF (cp (bP (ao cq (ae 1) (vC (.int 14)))) (aW (ao aC (ao aC (ao aC (ae 2) (vC (.str " "))) (ae 3)) (vC (.str " zz none")))) aI) (aF (cp (bP (ao cq (ae 1) (vC (.int 15)))) (aW (ao aC (ae 2) (vC (.str " a text b text c text d text e text f text g text h text i text")))) aI) (aW (ao aC (ao aC (ao aC (ae 2) (vC (.str " "))) (ae 3)) (vC (.str " zz texts")))))))))))
def gc:List D->R D:=bM gi jk dZ
def sY (a0 a1:D):gc [a0,a1]=fin (gi [some a0,some a1,none,none]):=rfl
abbrev lB:List Str:=["_law_change","_law_way","_law_great","_law_number","_law_line_here"]
abbrev cV:List Str:=["_law_change","_law_way"]
def fw:FS:=(aF (aJ 2 (ao aU (dj (ac (vC (.str "1000000001")) (ac (vC (.str "10000000000")) aj))) (ao bq (ak bO (ac (ao aU (ae 0) (vC (.int 1))) aj)) (vC (.int 2))))) (aF (aJ 3 (ao aU (dj (ac (vC (.str "0")) (ac (vC (.str "007")) (ac (vC (.str "+5")) (ac (ae 2) (ac (vC (.str "x")) (ac (vC (.str "")) aj))))))) (ao jj (ao jj (ae 1) (vC (.int 11))) (ao dC (vC (.int 6)) (ak ze (ac (ao vn (ae 1) (vC (.int 16))) aj)))))) (aF (aJ 4 (ao aC (ao aC (ao aC (ao aC (ao aU (ae 0) (vC (.int 0))) (vC (.str " "))) (ao aU (ae 0) (vC (.int 1)))) (vC (.str " "))) (ae 3))) (aF (cp (bP (ao cq (ao aU (ae 0) (vC (.int 0))) (vC (.str "put")))) (aJ 4 (ao aC (ae 4) (vC (.str " 1")))) aI) (aW (ae 4))))))
def fz:List D->R D:=bM fw lB cV
def rO (a0 a1:D):fz [a0,a1]=fin (fw [some a0,some a1,none,none,none]):=rfl
abbrev oS:List Str:=["_law_change","_law_way","_law_line_here","_law_rows"]
abbrev fV:List Str:=["_law_change","_law_way"]
def iu:FS:=(aF (aJ 2 (ao aC (ao aC (ao aC (vC (.str "put ")) (ao aU (ae 0) (vC (.int 1)))) (vC (.str " "))) (ak p5 (ac (ao aU (ae 0) (vC (.int 2))) aj)))) (aF (aJ 3 (dj (ac (vC (.str "")) (ac (vC (.str " ")) (ac (vC (.str " 1 2 3 4 5 6 7 8 9")) (ac (vC (.str " -0")) (ac (vC (.str " 01")) (ac (vC (.str " \"ab")) (ac (vC (.str " \"ab\"c")) (ac (vC (.str " NONE")) aj)))))))))) (aF (aJ 3 (ao aC (ae 3) (dj (ac (vC (.str " 1  2")) (ac (vC (.str " 1 ")) (ac (vC (.str " 1000000000000000000")) aj)))))) (aW (ao aC (ae 2) (ao aU (ae 3) (ao bq (ae 1) (vC (.int 11)))))))))
def iq:List D->R D:=bM iu oS fV
def vL (a0 a1:D):iq [a0,a1]=fin (iu [some a0,some a1,none,none]):=rfl
abbrev wU:List Str:=["_law_change","_law_way","_law_line_here"]
abbrev lF:List Str:=["_law_change","_law_way"]
def on:FS:=(aF (cp (bP (ao D6 (ae 1) (vC (.int 11)))) (aW (ak ge (ac (ae 0) (ac (ae 1) aj)))) aI) (aF (cp (bP (ao cq (ao aU (ae 0) (vC (.int 0))) (vC (.str "table")))) (aW (ak gc (ac (ae 0) (ac (ae 1) aj)))) aI) (aF (cp (bP (ao cq (ao aU (ae 0) (vC (.int 0))) (vC (.str "index")))) (aF (aJ 2 (ao aC (vC (.str "index ")) (ao aU (ae 0) (vC (.int 1))))) (aW (ao aU (dj (ac (ae 2) (ac (ao aC (ae 2) (vC (.str " A"))) (ac (ao aC (ao aC (ao aC (ae 2) (vC (.str " "))) (ao aU (ae 0) (vC (.int 2)))) (vC (.str " x"))) (ac (ao aC (ae 2) (vC (.str " by"))) (ac (ao aC (ae 2) (vC (.str " abcdefghi"))) aj)))))) (ao bq (ae 1) (vC (.int 5)))))) aI) (aF (cp (qN (bP (ao cq (ao aU (ae 0) (vC (.int 0))) (vC (.str "put")))) (bP (ao vn (ae 1) (vC (.int 15))))) (aW (ak iq (ac (ae 0) (ac (ae 1) aj)))) aI) (aW (ak fz (ac (ae 0) (ac (ak BI (ac (ae 1) (ac (vC (.int 16)) aj))) aj))))))))
def jJ:List D->R D:=bM on wU lF
def DD (a0 a1:D):jJ [a0,a1]=fin (on [some a0,some a1,none]):=rfl
abbrev se:List Str:=["_law_line_here","_law_e"]
abbrev iM:List Str:=["_law_line_here"]
def kv:FS:=(aF (uC bE (ac (ae 0) aj) (rJ ["BadValue","BadLog"]) 1 (aW (ji (ak (jf dU jt) (ac (ae 1) (ac (vC (.cls "BadLog")) aj))) (ak gA (ac (ae 1) aj))))) (aW (vC (.bl false))))
def cH:List D->R D:=bM kv se iM
def Aq (a0:D):cH [a0]=fin (kv [some a0,none]):=rfl
abbrev sG:List Str:=["_law_line_here","_law_cell","_law_some","_law_at","_law_sign"]
abbrev iJ:List Str:=["_law_line_here","_law_cell"]
def kE:FS:=(aF (aJ 2 (vC (.str " !\"#$&'()*+,-./0123456789:;<=>?@ABCDEFGHIJKLMNOPQRSTUVWXYZ[\\]^_`"))) (aF (aJ 2 (ao aC (ae 2) (vC (.str "abcdefghijklmnopqrstuvwxyz{|}~\t")))) (aF (aJ 3 (ao bq (ao cC (ae 1) (vC (.int 3))) (ao aC (ak bO (ac (ae 0) aj)) (vC (.int 1))))) (aF (cp (bP (ao cq (ao bq (ao cC (ae 1) (vC (.int 3))) (vC (.int 2))) (vC (.int 1)))) (aJ 3 (ao bq (ao cC (ae 1) (vC (.int 6))) (ak BI (ac (ak bO (ac (ae 0) aj)) (ac (vC (.int 12)) aj))))) aI) (aF (aJ 4 (ao aU (ae 2) (ao bq (ao cC (ae 1) (vC (.int 48271))) (vC (.int 95))))) (aF (cp (bP (ao cq (ao bq (ae 1) (vC (.int 3))) (vC (.int 0)))) (aW (ao aC (ao aC (qe jP (ae 0) eN (bR (ae 3))) (ae 4)) (qe jP (ae 0) (bR (ae 3)) eN))) aI) (aF (cp (bP (ao cq (ao bq (ae 1) (vC (.int 3))) (vC (.int 1)))) (aW (ao aC (ao aC (qe jP (ae 0) eN (bR (ae 3))) (ae 4)) (qe jP (ae 0) (bR (ao aC (ae 3) (vC (.int 1)))) eN))) aI) (aW (ao aC (qe jP (ae 0) eN (bR (ae 3))) (qe jP (ae 0) (bR (ao aC (ae 3) (vC (.int 1)))) eN))))))))))
def eZ:List D->R D:=bM kE sG iJ
def za (a0 a1:D):eZ [a0,a1]=fin (kE [some a0,some a1,none,none,none]):=rfl
abbrev ls:List Str:=["_law_line_here","_law_change","_law_e"]
abbrev de:List Str:=["_law_line_here"]
def c9:FS:=(aF (qw 1 bE (ac (ae 0) aj) (rJ ["BadValue","BadLog"]) 2 (aW (ji (ak (jf dU jt) (ac (ae 2) (ac (vC (.cls "BadLog")) aj))) (ak gA (ac (ae 2) aj))))) (aF (cp (vp (eI (cj (ak jr (ac (ae 1) (ac (vC (.ty "tuple")) aj))))) (eI (cj (ak jr (ac (ao aU (ae 1) (vC (.int 0))) (ac (vC (.ty "str")) aj)))))) (aW (vC (.bl false))) aI) (aF (cp (qN (bP (ao vo (ao aU (ae 1) (vC (.int 0))) (kl (ac (vC (.str "put")) (ac (vC (.str "drop")) aj))))) (vp (eI (cj (ak om (ac (ao aU (ae 1) (vC (.int 2))) aj)))) (eI (bP (uj Av Av (vC (.int 1)) (ao aU (ae 1) (vC (.int 2))) (ao kR (vC (.int 10)) (vC (.int 9)))))))) (aW (vC (.bl false))) aI) (aW (ji (ao vo (ao aU (ae 1) (vC (.int 0))) (kl (ac (vC (.str "table")) (ac (vC (.str "index")) (ac (vC (.str "put")) (ac (vC (.str "drop")) aj)))))) (ao cq (ak b8 (ac (ae 1) aj)) (ae 0)))))))
def bJ:List D->R D:=bM c9 ls de
def lA (a0:D):bJ [a0]=fin (c9 [some a0,none,none]):=rfl
abbrev Kh:List Str:=["_law_script","_law_names","_law_j","_law_change","_law_way","_law_line_here","_law_k","_law_more"]
abbrev uD:List Str:=["_law_script"]
def B4:FS:=(aF (vD 1 (dj (ac (ak (aV dl) (ac (ak (aV bj) (ac (ae 0) (ac (vC (.int 0)) aj))) aj)) aj))) (aF (cT 1 (ak (aV mW) (ac (ao aU (ae 1) (vC (.int 0))) (ac (ak (aV bj) (ac (ae 0) (ac (vC (.int 1)) aj))) aj)))) (aF (cp (eI (cj (ak (aV cH) (ac (vC (.str "")) aj)))) (aW (vC (.bl false))) aI) (aF (sQ (g8 (ac (vC (.int 6)) aj)) (.one 2) (aF (aJ 3 (ak (aV eu) (ac (ae 1) (ac (ak (aV bu) (ac (ao aC (ak (aV bj) (ac (ae 0) (ac (ao aC (vC (.int 2)) (ao dC (vC (.int 2)) (ae 2))) aj))) (ae 2)) aj)) aj)))) (aF (aJ 4 (ao bq (ak (aV bj) (ac (ae 0) (ac (ao aC (vC (.int 3)) (ao dC (vC (.int 2)) (ae 2))) aj))) (vC (.int 40)))) (aF (aJ 5 (ak (aV b8) (ac (ae 3) aj))) (aF (sQ (g8 (ac (vC (.int 4)) aj)) (.one 6) (aF (aJ 7 (ak (aV bu) (ac (ao aC (ak (aV bj) (ac (ae 0) (ac (ao aC (vC (.int 3)) (ao dC (vC (.int 2)) (ae 2))) aj))) (ao dC (vC (.int 7919)) (ae 6))) aj))) (cp (eI (cj (ak (aV bJ) (ac (ak (aV eZ) (ac (ae 5) (ac (ae 7) aj))) aj)))) (aW (vC (.bl false))) aI))) (cp (bP (ao vn (ae 4) (vC (.int 28)))) (cp (bP (ao wW (ak bE (ac (ak (aV b8) (ac (ae 3) aj)) aj)) (ae 3))) (aW (vC (.bl false))) aI) (cp (eI (cj (ak (aV cH) (ac (ak (aV jJ) (ac (ae 3) (ac (ae 4) aj))) aj)))) (aW (vC (.bl false))) aI))))))) (aW (vC (.bl true)))))))
def wt:List D->R D:=bM B4 Kh uD
def Tx (a0:D):wt [a0]=fin (B4 [some a0,none,none,none,none,none,none,none]):=rfl
def lj (i:Nat):Stmt:=PySem.Challenge.pw_tablestore_k51_lines_refused.main.body.getD i (.Pass ⟨0,0,0,0⟩)
abbrev rL:Stmt:=lj 21
local macro_rules | `(tactic| walk_at "sc") => `(tactic| exact ⟨rfl, rfl, rfl, by decide +kernel, rfl, by decide +kernel, by decide +kernel⟩)
def Bx:FnScope wj lN (ap rL):=by walk_at "sc"
abbrev mw:Stmt:=lj 20
def Ao:FnScope oV j8 (ap mw):=by walk_at "sc"
abbrev m6:Stmt:=lj 23
def lV:FnScope rZ iT (ap m6):=by walk_at "sc"
abbrev iy:Stmt:=lj 24
def nz:FnScope kT fQ (ap iy):=by walk_at "sc"
abbrev mo:Stmt:=lj 22
def vG:FnScope qf gP (ap mo):=by walk_at "sc"
abbrev nM:Stmt:=lj 26
def cF:FnScope si iP (ap nM):=by walk_at "sc"
abbrev ie:Stmt:=lj 25
def uP:FnScope kW fU (ap ie):=by walk_at "sc"
abbrev je:Stmt:=lj 29
def rP:FnScope mG dR (ap je):=by walk_at "sc"
abbrev mU:Stmt:=lj 36
def xy:FnScope sE iL (ap mU):=by walk_at "sc"
abbrev og:Stmt:=lj 35
def AV:FnScope rp ll (ap og):=by walk_at "sc"
abbrev hJ:Stmt:=lj 41
def ql:FnScope lu cW (ap hJ):=by walk_at "sc"
abbrev qQ:Stmt:=lj 38
def Ay:FnScope wf lM (ap qQ):=by walk_at "sc"
abbrev nq:Stmt:=lj 40
def xN:FnScope sL iU (ap nq):=by walk_at "sc"
abbrev fM:Stmt:=lj 39
def nW:FnScope ip fO (ap fM):=by walk_at "sc"
abbrev oW:Stmt:=lj 37
def yX:FnScope tO jN (ap oW):=by walk_at "sc"
abbrev jx:Stmt:=lj 46
def kP:FnScope l6 gK (ap jx):=by walk_at "sc"
abbrev eR:Stmt:=lj 48
def j3:FnScope gS cJ (ap eR):=by walk_at "sc"
abbrev oZ:Stmt:=lj 47
def iY:FnScope uU jR (ap oZ):=by walk_at "sc"
abbrev kZ:Stmt:=lj 45
def nH:FnScope oO fK (ap kZ):=by walk_at "sc"
abbrev qP:Stmt:=lj 50
def AI:FnScope wb lO (ap qP):=by walk_at "sc"
abbrev nQ:Stmt:=lj 51
def xB:FnScope r9 iS (ap nQ):=by walk_at "sc"
abbrev qL:Stmt:=lj 52
def AC:FnScope v7 lh (ap qL):=by walk_at "sc"
abbrev nT:Stmt:=lj 53
def dD:FnScope sj iH (ap nT):=by walk_at "sc"
abbrev tM:Stmt:=lj 54
def lC:FnScope zF m4 (ap tM):=by walk_at "sc"
abbrev l7:Stmt:=lj 55
def bN:FnScope qc gH (ap l7):=by walk_at "sc"
abbrev mZ:Stmt:=lj 56
def cb:FnScope ss iZ (ap mZ):=by walk_at "sc"
abbrev mn:Stmt:=lj 57
def vq:FnScope qb gC (ap mn):=by walk_at "sc"
abbrev pv:Stmt:=lj 58
def kC:FnScope tS jZ (ap pv):=by walk_at "sc"
abbrev nN:Stmt:=lj 59
def yp:FnScope sv i3 (ap nN):=by walk_at "sc"
abbrev nS:Stmt:=lj 60
def DG:FnScope pO nI (ap nS):=by walk_at "sc"
abbrev la:Stmt:=lj 61
def df:FnScope oM fS (ap la):=by walk_at "sc"
abbrev rg:Stmt:=lj 62
def cO:FnScope wL jI (ap rg):=by walk_at "sc"
abbrev jc:Stmt:=lj 63
def lI:FnScope mL dY (ap jc):=by walk_at "sc"
abbrev gd:Stmt:=lj 64
def ia:FnScope jk dZ (ap gd):=by walk_at "sc"
abbrev gZ:Stmt:=lj 65
def cI:FnScope lB cV (ap gZ):=by walk_at "sc"
abbrev kX:Stmt:=lj 66
def gI:FnScope oS fV (ap kX):=by walk_at "sc"
abbrev rE:Stmt:=lj 67
def u3:FnScope wU lF (ap rE):=by walk_at "sc"
abbrev nJ:Stmt:=lj 68
def pD:FnScope se iM (ap nJ):=by walk_at "sc"
abbrev nD:Stmt:=lj 69
def fv:FnScope sG iJ (ap nD):=by walk_at "sc"
abbrev hG:Stmt:=lj 70
def kq:FnScope ls de (ap hG):=by walk_at "sc"
abbrev wd:Stmt:=lj 71
def nP:FnScope Kh uD (ap wd):=by walk_at "sc"
structure Txt (w:World) (K:PySem.W.Frag) (mg:Str->Option Value) (f1 f2 f3 f4 f5 f6 f7 f8 f9 f10 f11 f12 f13 f14 f15 f16 f17 f18 f19 f20 f21 f22 f23 f24 f25 f26 f27 f28 f29 f30 f31 f32 f33 f34 f35 f36 f37 f38 f39 f40 f41:Addr) (d1 d2 d3 d4 d5 d6 d7 d8 d9 d10 d11 d12 d13 d14 d15 d16 d17 d18 d19 d20 d21 d22 d23 d24 d25 d26 d27 d28 d29 d30 d31 d32 d33 d34 d35 d36 d37 d38 d39 d40 d41:FuncData) (tk_FIGURES:Tok) (tk_MOST_SIGNS:Tok) (tk_MOST_FIGURES_values:Tok) (tk_MOST_ROW_NUMBER:Tok) (a_NO_NAMES:Addr) (a_COLUMN_KINDS:Addr) (tk_MOST_LETTERS:Tok) (tk_MOST_COLUMNS:Tok) (tk_MOST_FIGURES_records:Tok) (tk_MOST_VALUES:Tok) (a_BadValue:Addr) (a_BadLog:Addr) (a_TableError:Addr) (a_BadShape:Addr) (a_BadChange:Addr) (a_BadRow:Addr) (a_NoTable:Addr) (a_TableThere:Addr) (a_NoColumn:Addr) (a_IndexThere:Addr) (a_NoRow:Addr) (a_Over:Addr) (a_Clash:Addr) (a_BadQuestion:Addr) (a_BadDesk:Addr):Prop where
 ov:Def K mg "is_sign" rL lN f1 d1
 mx:Def K mg "is_value" mw j8 f2 d2
 kI:Def K mg "read_text" m6 iT f3 d3
 iz:Def K mg "read_number" iy fQ f4 d4
 jz:Def K mg "read_value" mo gP f5 d5
 kJ:Def K mg "pieces_of" nM iP f6 d6
 iA:Def K mg "read_values" ie fU f7 d7
 gj:Def K mg "is_row_number" je dR f8 d8
 kK:Def K mg "is_letter" mU iL f9 d9
 gB:Def K mg "is_name" og ll f10 d10
 fA:Def K mg "is_column_kind" hJ cW f11 d11
 lQ:Def K mg "is_pair" qQ lM f12 d12
 kL:Def K mg "is_column" nq iU f13 d13
 iC:Def K mg "are_columns" fM fO f14 d14
 my:Def K mg "is_shape" oW jN f15 d15
 jE:Def K mg "read_table" jx gK f16 d16
 cL:Def K mg "read_row_number" eR cJ f17 d17
 mz:Def K mg "read_put" oZ jR f18 d18
 eD:Def K mg "read_change" kZ fK f19 d19
 ow:Def K mg "_law_whole" qP lO f20 d20
 du:Def K mg "_law_cell_at" nQ iS f21 d21
 fB:Def K mg "_law_mixed" qL lh f22 d22
 i8:Def K mg "_law_name_by" nT iH f23 d23
 qy:Def K mg "_law_twin" tM m4 f24 d24
 jF:Def K mg "_law_shape_by" l7 gH f25 d25
 kM:Def K mg "_law_text_by" mZ iZ f26 d26
 jG:Def K mg "_law_value_by" mn gC f27 d27
 mB:Def K mg "_law_row_by" pv jZ f28 d28
 kN:Def K mg "_law_written" nN i3 f29 d29
 kb:Def K mg "_law_line" nS nI f30 d30
 iE:Def K mg "_law_change_by" la fS f31 d31
 jM:Def K mg "_law_alone" rg jI f32 d32
 gk:Def K mg "_law_wrong_words" jc dY f33 d33
 gm:Def K mg "_law_wrong_table" gd dZ f34 d34
 fD:Def K mg "_law_wrong_number" gZ cV f35 d35
 iG:Def K mg "_law_wrong_row" kX fV f36 d36
 oz:Def K mg "_law_wrong" rE lF f37 d37
 i9:Def K mg "_law_refused" nJ iM f38 d38
 kO:Def K mg "_law_mutated" nD iJ f39 d39
 fE:Def K mg "_law_only_its_own" hG de f40 d40
 GJ:Def K mg "law" wd uD f41 d41
 wZ:mg "FIGURES"=some (.str "0123456789" tk_FIGURES)
 w4:bw (.str "0123456789") (.str "0123456789" tk_FIGURES)
 w6:∀ H,gy K H eh (.str "0123456789")
 yE:mg "MOST_SIGNS"=some (.int 40 tk_MOST_SIGNS)
 yF:bw (.int 40) (.int 40 tk_MOST_SIGNS)
 yG:∀ H,gy K H lY (.int 40)
 mQ:mg "MOST_FIGURES_values"=some (.int 18 tk_MOST_FIGURES_values)
 mR:bw (.int 18) (.int 18 tk_MOST_FIGURES_values)
 mS:∀ H,gy K H cx (.int 18)
 qz:mg "MOST_ROW_NUMBER"=some (.int 1000000000 tk_MOST_ROW_NUMBER)
 qA:bw (.int 1000000000) (.int 1000000000 tk_MOST_ROW_NUMBER)
 qB:∀ H,gy K H gN (.int 1000000000)
 Nn:∃ ob,K.lookup a_NO_NAMES=some ob/\ob.cls=.type "tuple"/\ob.dict=none
 BO:mg "NO_NAMES"=some (.ref a_NO_NAMES)
 BP:bw (.ref a_NO_NAMES) (.ref a_NO_NAMES)
 BQ:∀ H,gy K H pb (.ref a_NO_NAMES)
 GK:∃ ob,K.lookup a_COLUMN_KINDS=some ob/\ob.cls=.type "tuple"/\ob.dict=none
 u5:mg "COLUMN_KINDS"=some (.ref a_COLUMN_KINDS)
 u6:bw (.ref a_COLUMN_KINDS) (.ref a_COLUMN_KINDS)
 u7:∀ H,gy K H nO (.ref a_COLUMN_KINDS)
 u8:mg "MOST_LETTERS"=some (.int 8 tk_MOST_LETTERS)
 u9:bw (.int 8) (.int 8 tk_MOST_LETTERS)
 vd:∀ H,gy K H jU (.int 8)
 vf:mg "MOST_COLUMNS"=some (.int 8 tk_MOST_COLUMNS)
 vg:bw (.int 8) (.int 8 tk_MOST_COLUMNS)
 vh:∀ H,gy K H gR (.int 8)
 mC:mg "MOST_FIGURES_records"=some (.int 10 tk_MOST_FIGURES_records)
 mD:bw (.int 10) (.int 10 tk_MOST_FIGURES_records)
 mE:∀ H,gy K H bF (.int 10)
 v0:mg "MOST_VALUES"=some (.int 8 tk_MOST_VALUES)
 v1:bw (.int 8) (.int 8 tk_MOST_VALUES)
 v5:∀ H,gy K H iw (.int 8)
 dG:mg "BadValue"=some (.ref a_BadValue)
 cg:tE K "BadValue" a_BadValue
 di:mg "BadLog"=some (.ref a_BadLog)
 eF:tE K "BadLog" a_BadLog
 qC:mg "TableError"=some (.ref a_TableError)
 lg:tE K "TableError" a_TableError
 vi:mg "BadShape"=some (.ref a_BadShape)
 ja:tE K "BadShape" a_BadShape
 sN:mg "BadChange"=some (.ref a_BadChange)
 gU:tE K "BadChange" a_BadChange
 Ar:mg "BadRow"=some (.ref a_BadRow)
 lR:tE K "BadRow" a_BadRow
 w8:mg "NoTable"=some (.ref a_NoTable)
 kc:tE K "NoTable" a_NoTable
 qD:mg "TableThere"=some (.ref a_TableThere)
 fW:tE K "TableThere" a_TableThere
 vj:mg "NoColumn"=some (.ref a_NoColumn)
 jb:tE K "NoColumn" a_NoColumn
 qE:mg "IndexThere"=some (.ref a_IndexThere)
 fX:tE K "IndexThere" a_IndexThere
 C3:mg "NoRow"=some (.ref a_NoRow)
 nX:tE K "NoRow" a_NoRow
 GL:mg "Over"=some (.ref a_Over)
 qF:tE K "Over" a_Over
 C4:mg "Clash"=some (.ref a_Clash)
 nY:tE K "Clash" a_Clash
 oU:mg "BadQuestion"=some (.ref a_BadQuestion)
 fh:tE K "BadQuestion" a_BadQuestion
 w9:mg "BadDesk"=some (.ref a_BadDesk)
 kf:tE K "BadDesk" a_BadDesk
 dH:PySem.W.excIn K a_BadValue uI "ValueError.__new__"=true
 fj:PySem.W.excIn K a_BadLog uI "ValueError.__new__"=true
 BR:C8 K mg (rJ ["BadValue"]) a_BadValue
 v6:Vs K mg (rJ ["BadValue"])
 qG:C8 K mg (rJ ["BadValue","BadLog"]) a_TableError
 bz:TabOk K dU jt
 aw:mg "isinstance"=none
 qH:mg "str"=none
 As:mg "all"=none
 fk:mg "len"=none
 BS:mg "bool"=none
 xa:mg "int"=none
 UB:mg "abs"=none
 Au:mg "enumerate"=none
 mF:mg "tuple"=none
 UC:mg "set"=none
 oA:mg "range"=none
 qI:mg "ValueError"=none
 KI:mg "min"=none
section
variable {P:Program} {w:World} {K:PySem.W.Frag} {mg:Str->Option Value} {base:Heap} {f1 f2 f3 f4 f5 f6 f7 f8 f9 f10 f11 f12 f13 f14 f15 f16 f17 f18 f19 f20 f21 f22 f23 f24 f25 f26 f27 f28 f29 f30 f31 f32 f33 f34 f35 f36 f37 f38 f39 f40 f41:Addr} {d1 d2 d3 d4 d5 d6 d7 d8 d9 d10 d11 d12 d13 d14 d15 d16 d17 d18 d19 d20 d21 d22 d23 d24 d25 d26 d27 d28 d29 d30 d31 d32 d33 d34 d35 d36 d37 d38 d39 d40 d41:FuncData} {tk_FIGURES:Tok} {tk_MOST_SIGNS:Tok} {tk_MOST_FIGURES_values:Tok} {tk_MOST_ROW_NUMBER:Tok} {a_NO_NAMES:Addr} {a_COLUMN_KINDS:Addr} {tk_MOST_LETTERS:Tok} {tk_MOST_COLUMNS:Tok} {tk_MOST_FIGURES_records:Tok} {tk_MOST_VALUES:Tok} {a_BadValue:Addr} {a_BadLog:Addr} {a_TableError:Addr} {a_BadShape:Addr} {a_BadChange:Addr} {a_BadRow:Addr} {a_NoTable:Addr} {a_TableThere:Addr} {a_NoColumn:Addr} {a_IndexThere:Addr} {a_NoRow:Addr} {a_Over:Addr} {a_Clash:Addr} {a_BadQuestion:Addr} {a_BadDesk:Addr}
variable (T:Txt w K mg f1 f2 f3 f4 f5 f6 f7 f8 f9 f10 f11 f12 f13 f14 f15 f16 f17 f18 f19 f20 f21 f22 f23 f24 f25 f26 f27 f28 f29 f30 f31 f32 f33 f34 f35 f36 f37 f38 f39 f40 f41 d1 d2 d3 d4 d5 d6 d7 d8 d9 d10 d11 d12 d13 d14 d15 d16 d17 d18 d19 d20 d21 d22 d23 d24 d25 d26 d27 d28 d29 d30 d31 d32 d33 d34 d35 d36 d37 d38 d39 d40 d41 tk_FIGURES tk_MOST_SIGNS tk_MOST_FIGURES_values tk_MOST_ROW_NUMBER a_NO_NAMES a_COLUMN_KINDS tk_MOST_LETTERS tk_MOST_COLUMNS tk_MOST_FIGURES_records tk_MOST_VALUES a_BadValue a_BadLog a_TableError a_BadShape a_BadChange a_BadRow a_NoTable a_TableThere a_NoColumn a_IndexThere a_NoRow a_Over a_Clash a_BadQuestion a_BadDesk)
include T
def BJ:FnOk P w K mg base gW 1 f1 d1 lN (jH K mg jK):=by
 exact T.ov.F.okD (φ:=ou) (O':=[]) Bx (fun cdv A outer s H E hr=>(ar (aB (gL (gt V5 UV (ag 0) av (aH _)) (jV (gt No Nv (ag 0) av (aH _)))))))
def zm:FnOk P w K mg base gW 2 f2 d2 j8 (jH K mg j6):=by
 exact T.mx.F.okD (φ:=mh) (O':=[]) Ao (fun cdv A outer s H E hr=>(al (aZ (bg K (az (kr K) (pG K) T.aw aq (aa (ag 0) (aa (oF T.qH ma) ai)))) (ar (aB (gL (gt No Nv (az (ki K) (kh K) T.fk cu (aa (ag 0) ai)) (j0 T.yE T.yF T.yG) (aH _)) (jV (az (nk K rfl) (Gj K) T.As ua (aa (cc (nj (Wb:=⟨K,mg,E0⟩) (osc:=ap mw) (ON:=oV) (N:=["sign"]) (ix:=[none]) (by decide +kernel) (j7 K (ag 0)) (fun _=>(dz (i:=0) (by decide) (by decide +kernel:(["sign"]:List Str).Nodup) rfl (Or.inl rfl))) (fun _=>gQ) (fun _=>(bQ T.ov (BJ T) hr (aa (ag 0) ai))) (fb (by decide)))) ai)))))) aL) (al (aZ (cU (qY (bg K (az (kr K) (pG K) T.aw aq (aa (ag 0) (aa (oF T.xa rR) ai)))) (oo (dh (bg K (az (kr K) (pG K) T.aw aq (aa (ag 0) (aa (oF T.BS yA) ai)))))))) (ar (aB (gt Nz Nr (az V9 VB T.UB K6 (aa (ag 0) ai)) (aE DC D9 am am) (aH _)))) aL) (ar (aB (gt Xd WQ (ag 0) Ca (aH _)))))))
def xW:FnOk P w K mg base (oJ P w mg) 3 f3 d3 iT (rQ K mg gx):=by
 have GX_is_value:=(zm (P:=P) (base:=base) T).mayX;exact T.kI.F.okX1 (φ:=iQ) (O':=[]) lV rfl rfl (fun cdv A outer s H E hr=>(al (aZ (cU (lr (aN Nz Nr (az (ki K) (kh K) T.fk cu (aa (ag 0) ai)) am (aH _)) (ld (dh (bg K (kS PySem.F.slot_str_endswith PySem.F.type_str_endswith zr Ud (ag 0) (aa av ai))))))) (ar (bS T.dG T.dH (aa (g6 (c:="a text without its end: ") (ag 0)) ai))) aL) (al (aK (i:=1) (by decide) lV.nd (Or.inl rfl) (cy (yI K) (yH K) (ag 0) (bT am) (bT (UZ VV U9 am)))) (al (aZ (aN (zo K) (J7 K) av (re (y:="\"\"") (w:="") (Nat.le_refl _) (ag 1)) (by with_unfolding_all rfl)) (ar (bS T.dG T.dH (aa (g6 (c:="a sign behind a text's end, or no end: ") (ag 0)) ai))) aL) (al (aK (i:=2) (by decide) lV.nd (Or.inl rfl) (re (y:="\"\"") (w:="\"") (Nat.le_refl _) (ag 1))) (al (aZ (dh (bg K (bi T.mx GX_is_value hr (aa (ag 2) ai)))) (ar (bS T.dG T.dH (aa (g6 (c:="a text too long, or of signs that no value has: ") (ag 0)) ai))) aL) (ar (aB (ag 2)))))))))
def tZ:FnOk P w K mg base (oJ P w mg) 1 f4 d4 fQ (rQ K mg ir):=by
 exact T.iz.F.okX (φ:=ij) (O':=[]) nz (fun cdv A outer s H E hr=>(al (aK (i:=1) (by decide) nz.nd (Or.inl rfl) (SA (bg K (kS PySem.F.slot_str_startswith PySem.F.type_str_startswith io tq (ag 0) (aa av ai))) (cy (yI K) (yH K) (ag 0) (bT am) cS) (ag 0))) (al (aZ (cU (lr (aN (cD K hr.units) (kj K) (ag 1) av (aH _)) (ld (dh (bg K (az (nk K rfl) (Gj K) T.As ua (aa (cc (nj (Wb:=⟨K,mg,E0⟩) (osc:=ap iy) (ON:=kT) (N:=["sign"]) (ix:=[none]) (by decide +kernel) (j7 K (ag 1)) (fun _=>(dz (i:=0) (by decide) (by decide +kernel:(["sign"]:List Str).Nodup) rfl (Or.inl rfl))) (fun _=>gQ) (fun _=>(gt (zo K) (J7 K) (ag 0) (j0 T.wZ T.w4 T.w6) (by with_unfolding_all rfl))) (fb (by decide)))) ai))))))) (ar (bS T.dG T.dH (aa (g6 (c:="neither none nor a number nor a text: ") (ag 0)) ai))) aL) (al (aZ (cU (qY (bg K (kS PySem.F.slot_str_startswith PySem.F.type_str_startswith io tq (ag 1) (aa av ai))) (oo (aN (IZ K hr.units) (UH K) (ag 0) av (aH _))))) (ar (bS T.dG T.dH (aa (g6 (c:="a nought ahead, or -0: ") (ag 0)) ai))) aL) (al (aZ (aN KA JN (az (ki K) (kh K) T.fk cu (aa (ag 1) ai)) (j0 T.mQ T.mR T.mS) (aH _)) (ar (bS T.dG T.dH (aa (g6 (c:="a number beyond the bounds: ") (ag 0)) ai))) aL) (ar (aB (jn Kz KF T.xa rR (aa (ag 0) ai)))))))))
def vR:FnOk P w K mg base (oJ P w mg) 4 f5 d5 gP (rQ K mg bL):=by
 have GX_read_text:=xW (P:=P) (base:=base) T;have GX_read_number:=tZ (P:=P) (base:=base) T;exact T.jz.F.okX (φ:=jo) (O':=[]) vG (fun cdv A outer s H E hr=>(al (aZ (aN (cD K hr.units) (kj K) (ag 0) av (aH _)) (ar (aB Ca)) aL) (al (aZ (bg K (kS PySem.F.slot_str_startswith PySem.F.type_str_startswith io tq (ag 0) (aa av ai))) (ar (aB (bi T.kI GX_read_text hr (aa (ag 0) ai)))) aL) (ar (aB (bi T.iz GX_read_number hr (aa (ag 0) ai)))))))
def yn:FnOk P w K mg base gW 1 f6 d6 iP (jH K mg gz):=by
 exact T.kJ.F.okD (φ:=kF) (O':=[]) cF (fun cdv A outer s H E hr=>(al (xx (i:=1) (by decide) cF.nd (Or.inl rfl) (dc ai)) (al (aK (i:=2) (by decide) cF.nd (Or.inl rfl) am) (al (aK (i:=3) (by decide) cF.nd (Or.inl rfl) qt) (al (pk PassesOwn.never (x5 T.Au (aa (ag 0) ai)) (ML K (z0 (dz (i:=4) (by decide) cF.nd rfl (Or.inl rfl)) (z0 (dz (i:=5) (by decide) cF.nd rfl (Or.inl rfl)) Ht))) (al (aZ (aN (cD K hr.units) (kj K) (ag 5) av (aH _)) (ar (aK (i:=3) (by decide) cF.nd (Or.inl rfl) (EM (ag 3)))) aL) (ar (aZ (cU (qY (aN (cD K hr.units) (kj K) (ag 5) av (aH _)) (oo (dh (bg K (ag 3)))))) (al (lm (i:=1) (by decide) (cy (yI K) (yH K) (ag 0) (bT (ag 2)) (bT (ag 4)))) (ar (aK (i:=2) (by decide) cF.nd (Or.inl rfl) (aE (aM K) (bb K) (ag 4) am)))) aL)))) (al (lm (i:=1) (by decide) (cy (yI K) (yH K) (ag 0) (bT (ag 2)) cS)) (FY (O:=[1]) (O2:=[]) (ar (aB (ag 1))))))))))
def uK:FnOk P w K mg base (oJ P w mg) 5 f7 d7 fU (rQ K mg fR):=by
 have GX_pieces_of:=(yn (P:=P) (base:=base) T).mayX;have GX_read_value:=vR (P:=P) (base:=base) T;exact T.iA.F.okX (φ:=ic) (O':=[]) uP (fun cdv A outer s H E hr=>(al (aZ (aN (cD K hr.units) (kj K) (ag 0) av (aH _)) (ar (aB (cc (dc ai)))) aL) (ar (aB (cc (HM (osc:=ap ie) (ON:=kW) (N:=["piece"]) (ix:=[none]) (by decide +kernel) (j7 K (bi T.kJ GX_pieces_of hr (aa (ag 0) ai))) (fun _=>(dz (i:=0) (by decide) (by decide +kernel:(["piece"]:List Str).Nodup) rfl (Or.inl rfl))) (fun _=>gQ) (fun _ hb=>(bi T.jz GX_read_value hr (aa (ag 0) ai))) (fb (by decide))))))))
def rT:FnOk P w K mg base gW 1 f8 d8 dR (jH K mg dM):=by
 exact T.gj.F.okD (φ:=fZ) (O':=[]) rP (fun cdv A outer s H E hr=>(ar (aB (gL (az (kr K) (pG K) T.aw aq (aa (ag 0) (aa (oF T.xa rR) ai))) (gL (EM (az (kr K) (pG K) T.aw aq (aa (ag 0) (aa (oF T.BS yA) ai)))) (gL (gt V5 UV (ag 0) am (aH _)) (jV (gt No Nv (ag 0) (j0 T.qz T.qA T.qB) (aH _)))))))))
def xq:FnOk P w K mg base gW 1 f9 d9 iL (jH K mg gv):=by
 exact T.kK.F.okD (φ:=ku) (O':=[]) xy (fun cdv A outer s H E hr=>(ar (aB (gL (gt V5 UV (ag 0) av (aH _)) (jV (gt No Nv (ag 0) av (aH _)))))))
def mj:FnOk P w K mg base gW 2 f10 d10 ll (jH K mg ck):=by
 exact T.gB.F.okD (φ:=n5) (O':=[]) AV (fun cdv A outer s H E hr=>(al (aZ (cU (lr (dh (bg K (az (kr K) (pG K) T.aw aq (aa (ag 0) (aa (oF T.qH ma) ai))))) (lr (aN (cD K hr.units) (kj K) (ag 0) av (aH _)) (ld (aN KA JN (az (ki K) (kh K) T.fk cu (aa (ag 0) ai)) (j0 T.u8 T.u9 T.vd) (aH _)))))) (ar (aB qt)) aL) (ar (aB (gL (az (nk K rfl) (Gj K) T.As ua (aa (cc (nj (Wb:=⟨K,mg,E0⟩) (osc:=ap og) (ON:=rp) (N:=["sign"]) (ix:=[none]) (by decide +kernel) (j7 K (ag 0)) (fun _=>(dz (i:=0) (by decide) (by decide +kernel:(["sign"]:List Str).Nodup) rfl (Or.inl rfl))) (fun _=>gQ) (fun _=>(bQ T.kK (xq T) hr (aa (ag 0) ai))) (fb (by decide)))) ai)) (jV (gt (Jv K) (Nd K) (ag 0) (j0 T.BO T.BP T.BQ) (by with_unfolding_all rfl))))))))
def qx:FnOk P w K mg base gW 1 f11 d11 cW (jH K mg cX):=by
 exact T.fA.F.okD (φ:=fm) (O':=[]) ql (fun cdv A outer s H E hr=>(ar (aB (gL (az (kr K) (pG K) T.aw aq (aa (ag 0) (aa (oF T.qH ma) ai))) (jV (gt (zo K) (J7 K) (ag 0) (j0 T.u5 T.u6 T.u7) (by with_unfolding_all rfl)))))))
def ud:FnOk P w K mg base gW 1 f12 d12 lM (jH K mg hV):=by
 exact T.lQ.F.okD (φ:=lJ) (O':=[]) Ay (fun cdv A outer s H E hr=>(ar (aB (gL (az (kr K) (pG K) T.aw aq (aa (ag 0) (aa (oF T.mF ly) ai))) (jV (gt (cD K hr.units) (kj K) (az (ki K) (kh K) T.fk cu (aa (ag 0) ai)) am (aH _)))))))
def xi:FnOk P w K mg base gW 3 f13 d13 iU (jH K mg dt):=by
 exact T.kL.F.okD (φ:=kH) (O':=[]) xN (fun cdv A outer s H E hr=>(ar (aB (gL (bQ T.lQ (ud T) hr (aa (ag 0) ai)) (gL (bQ T.gB (mj T) hr (aa (bc (cM K) (cP K) (ag 0) am) ai)) (jV (bQ T.fA (qx T) hr (aa (bc (cM K) (cP K) (ag 0) am) ai))))))))
def t9:FnOk P w K mg base gW 4 f14 d14 fO (jH K mg bx):=by
 exact T.iC.F.okD (φ:=fN) (O':=[]) nW (fun cdv A outer s H E hr=>(al (aZ (cU (lr (dh (bg K (az (kr K) (pG K) T.aw aq (aa (ag 0) (aa (oF T.mF ly) ai))))) (lr (aN Nz Nr (az (ki K) (kh K) T.fk cu (aa (ag 0) ai)) am (aH _)) (ld (aN KA JN (az (ki K) (kh K) T.fk cu (aa (ag 0) ai)) (j0 T.vf T.vg T.vh) (aH _)))))) (ar (aB qt)) aL) (al (aZ (dh (bg K (az (nk K rfl) (Gj K) T.As ua (aa (cc (nj (Wb:=⟨K,mg,E0⟩) (osc:=ap fM) (ON:=ip) (N:=["column"]) (ix:=[none]) (by decide +kernel) (j7 K (ag 0)) (fun _=>(dz (i:=0) (by decide) (by decide +kernel:(["column"]:List Str).Nodup) rfl (Or.inl rfl))) (fun _=>gQ) (fun _=>(bQ T.kL (xi T) hr (aa (ag 0) ai))) (fb (by decide)))) ai)))) (ar (aB qt)) aL) (al (Ci (by decide) (Cp (i:=1) nW.nd (Or.inl rfl) (Wb:=⟨K,mg,E0⟩) (osc:=ap fM) (ON:=ip) (N:=["column"]) (ix:=[none]) (by decide +kernel) (j7 K (ag 0)) (fun _=>(dz (i:=0) (by decide) (by decide +kernel:(["column"]:List Str).Nodup) rfl (Or.inl rfl))) (fun _=>gQ) (fun _=>(bc (cM K) (cP K) (ag 0) am)) (fb (by decide)))) (ar (aB (gt (cD K hr.units) (kj K) (EB T.fk T.UC (aa (ag 1) ai)) (az (ki K) (kh K) T.fk cu (aa (ag 1) ai)) (aH _))))))))
def z9:FnOk P w K mg base gW 5 f15 d15 jN (jH K mg j9):=by
 exact T.my.F.okD (φ:=mv) (O':=[]) yX (fun cdv A outer s H E hr=>(ar (aB (gL (bQ T.lQ (ud T) hr (aa (ag 0) ai)) (gL (bQ T.gB (mj T) hr (aa (bc (cM K) (cP K) (ag 0) am) ai)) (jV (bQ T.iC (t9 T) hr (aa (bc (cM K) (cP K) (ag 0) am) ai))))))))
def vT:FnOk P w K mg base (oJ P w mg) 6 f16 d16 gK (rQ K mg gG):=by
 have GX_is_shape:=(z9 (P:=P) (base:=base) T).mayX;exact T.jE.F.okX (φ:=ju) (O':=[]) kP (fun cdv A outer s H E hr=>(al (Ci (by decide) (Cp (i:=1) kP.nd (Or.inl rfl) (Wb:=⟨K,mg,E0⟩) (osc:=ap jx) (ON:=l6) (N:=["place","words"]) (ix:=[none,some 0]) (by decide +kernel) (Dy T.oA (aa am (aa (aE Ad zx (az (ki K) (kh K) T.fk cu (aa (ag 0) ai)) am) (aa am ai)))) (fun _=>(dz (i:=0) (by decide) (by decide +kernel:(["place","words"]:List Str).Nodup) rfl (Or.inl rfl))) (fun _=>gQ) (fun _=>(kG (aa (bc (cM K) (cP K) (ag 1) (ag 0)) (aa (bc (cM K) (cP K) (ag 1) (aE (aM K) (bb K) (ag 0) am)) ai)))) (fb (by decide)))) (al (aZ (aN (IZ K hr.units) (UH K) (az (ki K) (kh K) T.fk cu (aa (ag 0) ai)) (aE (aM K) (bb K) am (aE oG vU am (az (ki K) (kh K) T.fk cu (aa (ag 1) ai)))) (aH _)) (ar (bS T.di T.fj (aa av ai))) aL) (al (aK (i:=2) (by decide) kP.nd (Or.inl rfl) (kG (aa (bc (cM K) (cP K) (ag 0) am) (aa (jn (AR K) (QU K) T.mF ly (aa (ag 1) ai)) ai)))) (al (aZ (dh (bg K (bi T.my GX_is_shape hr (aa (ag 2) ai)))) (ar (bS T.di T.fj (aa av ai))) aL) (ar (aB (kG (aa av (aa (ag 2) ai))))))))))
def j5:FnOk P w K mg base (oJ P w mg) 2 f17 d17 cJ (rQ K mg bU):=by
 have GX_is_row_number:=(rT (P:=P) (base:=base) T).mayX;exact T.cL.F.okX (φ:=eJ) (O':=[]) j3 (fun cdv A outer s H E hr=>(al (aZ (cU (lr (aN (cD K hr.units) (kj K) (ag 0) av (aH _)) (lr (aN KA JN (az (ki K) (kh K) T.fk cu (aa (ag 0) ai)) (j0 T.mC T.mD T.mE) (aH _)) (ld (dh (bg K (az (nk K rfl) (Gj K) T.As ua (aa (cc (nj (Wb:=⟨K,mg,E0⟩) (osc:=ap eR) (ON:=gS) (N:=["sign"]) (ix:=[none]) (by decide +kernel) (j7 K (ag 0)) (fun _=>(dz (i:=0) (by decide) (by decide +kernel:(["sign"]:List Str).Nodup) rfl (Or.inl rfl))) (fun _=>gQ) (fun _=>(gt (zo K) (J7 K) (ag 0) (j0 T.wZ T.w4 T.w6) (by with_unfolding_all rfl))) (fb (by decide)))) ai)))))))) (ar (bS T.di T.fj (aa (g6 (c:="no number of a row: ") (ag 0)) ai))) aL) (al (aK (i:=1) (by decide) j3.nd (Or.inl rfl) (jn Kz KF T.xa rR (aa (ag 0) ai))) (al (aZ (cU (lr (bg K (kS PySem.F.slot_str_startswith PySem.F.type_str_startswith io tq (ag 0) (aa av ai))) (ld (dh (bg K (bi T.gj GX_is_row_number hr (aa (ag 1) ai))))))) (ar (bS T.di T.fj (aa (g6 (c:="a nought ahead, or a number beyond the bounds: ") (ag 0)) ai))) aL) (ar (aB (ag 1)))))))
def yZ:FnOk P w K mg base (oJ P w mg) 6 f18 d18 jR (rQ K mg jT):=by
 have GX_is_name:=(mj (P:=P) (base:=base) T).mayX;have GX_read_row_number:=j5 (P:=P) (base:=base) T;have GX_read_values:=uK (P:=P) (base:=base) T;exact T.mz.F.okX (φ:=ml) (O':=[]) iY (fun cdv A outer s H E hr=>(al (aK (i:=1) (by decide) iY.nd (Or.inl rfl) (kS PySem.F.slot_str_partition PySem.F.type_str_partition pY Kv (cy (yI K) (yH K) (ag 0) (bT (az (ki K) (kh K) T.fk cu (aa av ai))) cS) (aa av ai))) (al (aK (i:=2) (by decide) iY.nd (Or.inl rfl) (kS PySem.F.slot_str_partition PySem.F.type_str_partition pY Kv (bc (cM K) (cP K) (ag 1) am) (aa av ai))) (al (aZ (dh (bg K (bi T.gB GX_is_name hr (aa (bc (cM K) (cP K) (ag 1) am) ai)))) (ar (bS T.di T.fj (aa (g6 (c:="no name of a table: ") (ag 0)) ai))) aL) (al (aK (i:=3) (by decide) iY.nd (Or.inl rfl) (bi T.cL GX_read_row_number hr (aa (bc (cM K) (cP K) (ag 2) am) ai))) (al (Ju (i:=4) (n:=5) (F:=fR) (mt:=rJ ["BadValue"]) T.iA GX_read_values hr (by decide) (by decide) iY.nd (Or.inl rfl) (fun _=>(aa (bc (cM K) (cP K) (ag 2) am) ai)) T.dG T.BR T.v6 T.di T.fj (fun y=>(aa (g6 (c:="no values: ") (ag 0)) ai))) (al (aZ (cU (lr (aN Nz Nr (az (ki K) (kh K) T.fk cu (aa (ag 4) ai)) am (aH _)) (ld (aN KA JN (az (ki K) (kh K) T.fk cu (aa (ag 4) ai)) (j0 T.v0 T.v1 T.v5) (aH _))))) (ar (bS T.di T.fj (aa (g6 (c:="no values, or too many: ") (ag 0)) ai))) aL) (ar (aB (kG (aa av (aa (bc (cM K) (cP K) (ag 1) am) (aa (ag 3) (aa (jn (AR K) (QU K) T.mF ly (aa (ag 4) ai)) ai))))))))))))))
def j4:FnOk P w K mg base (oJ P w mg) 7 f19 d19 fK (rQ K mg bE):=by
 have GX_read_table:=vT (P:=P) (base:=base) T;have GX_read_put:=yZ (P:=P) (base:=base) T;have GX_is_name:=(mj (P:=P) (base:=base) T).mayX;have GX_read_row_number:=j5 (P:=P) (base:=base) T;exact T.eD.F.okX (φ:=ii) (O':=[]) nH (fun cdv A outer s H E hr=>(al (aK (i:=1) (by decide) nH.nd (Or.inl rfl) (kS PySem.F.slot_str_split PySem.F.type_str_split zC F1 (ag 0) (aa av ai))) (al (aZ (aN (cD K hr.units) (kj K) (bc (cM K) (cP K) (ag 1) am) av (aH _)) (ar (aB (bi T.jE GX_read_table hr (aa (ag 1) ai)))) aL) (al (aZ (aN (cD K hr.units) (kj K) (bc (cM K) (cP K) (ag 1) am) av (aH _)) (ar (aB (bi T.mz GX_read_put hr (aa (ag 0) ai)))) aL) (al (aZ (cU (lr (aN (IZ K hr.units) (UH K) (az (ki K) (kh K) T.fk cu (aa (ag 1) ai)) am (aH _)) (ld (dh (bg K (bi T.gB GX_is_name hr (aa (bc (cM K) (cP K) (ag 1) am) ai))))))) (ar (bS T.di T.fj (aa (g6 (c:="no line of a change: ") (ag 0)) ai))) aL) (al (aZ (cU (qY (aN (cD K hr.units) (kj K) (bc (cM K) (cP K) (ag 1) am) av (aH _)) (oo (bg K (bi T.gB GX_is_name hr (aa (bc (cM K) (cP K) (ag 1) am) ai)))))) (ar (aB (kG (aa av (aa (bc (cM K) (cP K) (ag 1) am) (aa (bc (cM K) (cP K) (ag 1) am) ai)))))) aL) (al (aZ (aN (cD K hr.units) (kj K) (bc (cM K) (cP K) (ag 1) am) av (aH _)) (ar (aB (kG (aa av (aa (bc (cM K) (cP K) (ag 1) am) (aa (bi T.cL GX_read_row_number hr (aa (bc (cM K) (cP K) (ag 1) am) ai)) ai)))))) aL) (ar (bS T.di T.fj (aa (g6 (c:="no line of a change: ") (ag 0)) ai))))))))))
def Bn:FnOk P w K mg base gW 1 f20 d20 lO (jH K mg om):=by
 exact T.ow.F.okD (φ:=n9) (O':=[]) AI (fun cdv A outer s H E hr=>(ar (aB (gL (az (kr K) (pG K) T.aw aq (aa (ag 0) (aa (oF T.xa rR) ai))) (jV (EM (az (kr K) (pG K) T.aw aq (aa (ag 0) (aa (oF T.BS yA) ai)))))))))
def xI:FnOk P w K mg base gW 1 f21 d21 iS (jH K mg bj):=by
 exact T.du.F.okD (φ:=ky) (O':=[]) xB (fun cdv A outer s H E hr=>(al (aZ (aN Nz Nr (ag 1) (az (ki K) (kh K) T.fk cu (aa (ag 0) ai)) (aH _)) (ar (aB (bc (cM K) (cP K) (ag 0) (ag 1)))) aL) (ar (aB am))))
def jW:FnOk P w K mg base gW 1 f22 d22 lh (jH K mg bu):=by
 exact T.fB.F.okD (φ:=oh) (O':=[]) AC (fun cdv A outer s H E hr=>(ar (aB (aE eV eU (aE (aM K) (bb K) (aE oG vU (ag 0) am) am) am))))
def pU:FnOk P w K mg base gW 2 f23 d23 iH (jH K mg dl):=by
 exact T.i8.F.okD (φ:=kn) (O':=[]) dD (fun cdv A outer s H E hr=>(al (aK (i:=1) (by decide) dD.nd (Or.inl rfl) av) (al (aK (i:=2) (by decide) dD.nd (Or.inl rfl) av) (al (aK (i:=3) (by decide) dD.nd (Or.inl rfl) (ag 0)) (al (pk PassesOwn.never (lP T.oA (aa (aE (aM K) (bb K) am (aE eV eU (ag 0) am)) ai)) (dz (i:=4) (by decide) dD.nd rfl (Or.inl rfl)) (al (aK (i:=3) (by decide) dD.nd (Or.inl rfl) (bQ T.fB (jW T) hr (aa (ag 3) ai))) (ar (aK (i:=2) (by decide) dD.nd (Or.inl rfl) (aE (aM K) (bb K) (ag 2) (bc (cM K) (cP K) (ag 1) (aE eV eU (ag 3) am))))))) (al (aZ (aN (zo K) (J7 K) (ag 2) (cc (dc (aa av (aa av (aa av (aa av (aa av (aa av (aa av (aa av (aa av (aa av (aa av ai))))))))))))) (by with_unfolding_all rfl)) (ar (aB (aE (aM K) (bb K) (ag 2) av))) aL) (ar (aB (ag 2)))))))))
def Dg:FnOk P w K mg base gW 1 f24 d24 m4 (jH K mg mW):=by
 exact T.qy.F.okD (φ:=qo) (O':=[]) lC (fun cdv A outer s H E hr=>(al (aK (i:=2) (by decide) lC.nd (Or.inl rfl) av) (al (aK (i:=3) (by decide) lC.nd (Or.inl rfl) (aE eV eU (ag 1) (az (ki K) (kh K) T.fk cu (aa (ag 0) ai)))) (al (aK (i:=4) (by decide) lC.nd (Or.inl rfl) (aE (aM K) (bb K) (aE (aM K) (bb K) (kS PySem.F.slot_str_find PySem.F.type_str_find Iv OH (ag 2) (aa (bc (cM K) (cP K) (ag 0) (ag 3)) ai)) am) (aE eV eU (aE kU lb (ag 1) am) am))) (al (aK (i:=5) (by decide) lC.nd (Or.inl rfl) (aE (aM K) (bb K) (aE (aM K) (bb K) (cy (yI K) (yH K) (ag 0) cS (bT (ag 3))) (bc (cM K) (cP K) (ag 2) (aE eV eU (ag 4) am))) (cy (yI K) (yH K) (ag 0) (bT (aE (aM K) (bb K) (ag 3) am)) cS))) (al (aZ (aN (zo K) (J7 K) (ag 5) (cc (dc (aa av (aa av (aa av (aa av (aa av (aa av (aa av (aa av (aa av (aa av (aa av ai))))))))))))) (by with_unfolding_all rfl)) (ar (aB (aE (aM K) (bb K) (ag 5) av))) aL) (ar (aB (ag 5)))))))))
def vy:FnOk P w K mg base gW 3 f25 d25 gH (jH K mg gE):=by
 exact T.jF.F.okD (φ:=jy) (O':=[]) bN (fun cdv A outer s H E hr=>(al (aK (i:=2) (by decide) bN.nd (Or.inl rfl) (cy (yI K) (yH K) (bQ T.i8 (pU T) hr (aa (aE kU lb (ag 1) am) ai)) cS (bT am))) (al (aK (i:=3) (by decide) bN.nd (Or.inl rfl) (bc (cM K) (cP K) (cc (dc (aa am (aa am (aa am (aa am (aa am (aa am (aa am (aa am ai)))))))))) (aE eV eU (ag 1) am))) (al (xx (i:=4) (by decide) bN.nd (Or.inl rfl) (dc ai)) (al (aK (i:=5) (by decide) bN.nd (Or.inl rfl) (ag 1)) (al (pk PassesOwn.never (lP T.oA (aa (ag 3) ai)) (dz (i:=6) (by decide) bN.nd rfl (Or.inl rfl)) (al (aK (i:=5) (by decide) bN.nd (Or.inl rfl) (bQ T.fB (jW T) hr (aa (ag 5) ai))) (al (aK (i:=7) (by decide) bN.nd (Or.inl rfl) (aE (aM K) (bb K) (aE (aM K) (bb K) (ag 2) av) (bc (cM K) (cP K) av (ag 6)))) (al (aZ (aN (cD K hr.units) (kj K) (aE eV eU (aE kU lb (ag 1) am) am) am (aH _)) (ar (aK (i:=7) (by decide) bN.nd (Or.inl rfl) (aE (aM K) (bb K) (aE (aM K) (bb K) (bc (cM K) (cP K) av (ag 6)) av) (ag 2)))) aL) (ar (lm (i:=4) (by decide) (kG (aa (ag 7) (aa (bc (cM K) (cP K) (cc (dc (aa av (aa av ai)))) (aE eV eU (aE kU lb (ag 5) am) am)) ai))))))))) (ar (aB (kG (aa (ag 0) (aa (Fd K (i:=4) (by decide) T.mF) ai)))))))))))
def yt:FnOk P w K mg base gW 2 f26 d26 iZ (jH K mg gu):=by
 exact T.kM.F.okD (φ:=kw) (O':=[]) cb (fun cdv A outer s H E hr=>(al (aK (i:=1) (by decide) cb.nd (Or.inl rfl) av) (al (aK (i:=2) (by decide) cb.nd (Or.inl rfl) (aE eV eU (ag 0) am)) (al (aZ (aN (cD K hr.units) (kj K) (aE eV eU (aE kU lb (ag 0) am) am) am (aH _)) (ar (aK (i:=2) (by decide) cb.nd (Or.inl rfl) (aE eV eU (aE kU lb (ag 0) am) am))) aL) (al (aK (i:=3) (by decide) cb.nd (Or.inl rfl) av) (al (aK (i:=4) (by decide) cb.nd (Or.inl rfl) (ag 0)) (al (pk PassesOwn.never (lP T.oA (aa (ag 2) ai)) (dz (i:=5) (by decide) cb.nd rfl (Or.inl rfl)) (al (aK (i:=4) (by decide) cb.nd (Or.inl rfl) (bQ T.fB (jW T) hr (aa (ag 4) ai))) (ar (aK (i:=3) (by decide) cb.nd (Or.inl rfl) (aE (aM K) (bb K) (ag 3) (bc (cM K) (cP K) (ag 1) (aE eV eU (ag 4) am))))))) (ar (aB (ag 3))))))))))
def vz:FnOk P w K mg base gW 3 f27 d27 gC (jH K mg gT):=by
 exact T.jG.F.okD (φ:=jq) (O':=[]) vq (fun cdv A outer s H E hr=>(al (aZ (aN (cD K hr.units) (kj K) (aE eV eU (ag 1) am) am (aH _)) (ar (aB Ca)) aL) (al (aZ (aN (cD K hr.units) (kj K) (ag 0) av (aH _)) (ar (aB (bQ T.kM (yt T) hr (aa (aE kU lb (ag 1) am) ai)))) aL) (al (aZ (aN (cD K hr.units) (kj K) (aE eV eU (ag 1) am) am (aH _)) (ar (aB (aE Ad zx (aE eV eU (aE oG vU (aE oG vU (ag 1) (ag 1)) am) (aE Ad zx (aE oG vU am (aE DC D9 am am)) am)) (aE Ad zx (aE DC D9 am am) am)))) aL) (ar (aB (aE Ad zx (aE eV eU (aE kU lb (ag 1) am) am) am)))))))
def Ae:FnOk P w K mg base gW 4 f28 d28 jZ (jH K mg lW):=by
 exact T.mB.F.okD (φ:=ms) (O':=[]) kC (fun cdv A outer s H E hr=>(al (xx (i:=2) (by decide) kC.nd (Or.inl rfl) (dc ai)) (al (pk PassesOwn.never (j7 K (bc (cM K) (cP K) (ag 0) am)) (dz (i:=3) (by decide) kC.nd rfl (Or.inl rfl)) (al (aK (i:=1) (by decide) kC.nd (Or.inl rfl) (bQ T.fB (jW T) hr (aa (ag 1) ai))) (ar (lm (i:=2) (by decide) (bQ T.jG (vz T) hr (aa (bc (cM K) (cP K) (ag 3) am) (aa (aE kU lb (ag 1) am) ai))))))) (ar (aB (Fd K (i:=2) (by decide) T.mF))))))
def xQ:FnOk P w K mg base gW 1 f29 d29 i3 (jH K mg ff):=by
 exact T.kN.F.okD1 (φ:=km) (O':=[]) yp rfl rfl (fun cdv A outer s H E hr=>(al (aZ (aN Xd WQ (ag 0) Ca (aH _)) (ar (aB av)) aL) (al (aZ (bg K (az (kr K) (pG K) T.aw aq (aa (ag 0) (aa (oF T.qH ma) ai)))) (ar (aB (aE (aM K) (bb K) (aE (aM K) (bb K) av (re (y:="\"") (w:="\"\"") (Nat.le_refl _) (ag 0))) av))) aL) (ar (aB (jn Kk T3 T.qH ma (aa (ag 0) ai)))))))
def qU:FnOk P w K mg base gW 2 f30 d30 nI (jH K mg b8):=by
 exact T.kb.F.okD (φ:=jX) (O':=[]) DG (fun cdv A outer s H E hr=>(al (aZ (aN (cD K hr.units) (kj K) (bc (cM K) (cP K) (ag 0) am) av (aH _)) (ar (aB (kS PySem.F.slot_str_join PySem.F.type_str_join (gF K) (nU K) av (aa (aE (aM K) (bb K) (cc (dc (aa av (aa (bc (cM K) (cP K) (bc (cM K) (cP K) (ag 0) am) am) ai)))) (cc (nj (Wb:=⟨K,mg,E0⟩) (osc:=ap nS) (ON:=pO) (N:=["_law_column"]) (ix:=[none]) (by decide +kernel) (j7 K (bc (cM K) (cP K) (bc (cM K) (cP K) (ag 0) am) am)) (fun _=>(dz (i:=0) (by decide) (by decide +kernel:(["_law_column"]:List Str).Nodup) rfl (Or.inl rfl))) (fun _=>gQ) (fun _=>(aE (aM K) (bb K) (aE (aM K) (bb K) (bc (cM K) (cP K) (ag 0) am) av) (bc (cM K) (cP K) (ag 0) am))) (fb (by decide))))) ai)))) aL) (al (aZ (aN (cD K hr.units) (kj K) (bc (cM K) (cP K) (ag 0) am) av (aH _)) (ar (aB (kS PySem.F.slot_str_join PySem.F.type_str_join (gF K) (nU K) av (aa (aE (aM K) (bb K) (cc (dc (aa av (aa (bc (cM K) (cP K) (ag 0) am) (aa (jn FW Gy T.qH ma (aa (bc (cM K) (cP K) (ag 0) am) ai)) ai))))) (cc (nj (Wb:=⟨K,mg,E0⟩) (osc:=ap nS) (ON:=pO) (N:=["_law_value"]) (ix:=[none]) (by decide +kernel) (j7 K (bc (cM K) (cP K) (ag 0) am)) (fun _=>(dz (i:=0) (by decide) (by decide +kernel:(["_law_value"]:List Str).Nodup) rfl (Or.inl rfl))) (fun _=>gQ) (fun _=>(bQ T.kN (xQ T) hr (aa (ag 0) ai))) (fb (by decide))))) ai)))) aL) (ar (aB (kS PySem.F.slot_str_join PySem.F.type_str_join (gF K) (nU K) av (aa (cc (dc (aa (bc (cM K) (cP K) (ag 0) am) (aa (bc (cM K) (cP K) (ag 0) am) (aa (jn FW Gy T.qH ma (aa (bc (cM K) (cP K) (ag 0) am) ai)) ai))))) ai)))))))
def tR:FnOk P w K mg base gW 5 f31 d31 fS (jH K mg eu):=by
 exact T.iE.F.okD (φ:=ig) (O':=[]) df (fun cdv A outer s H E hr=>(al (aK (i:=2) (by decide) df.nd (Or.inl rfl) (bc (cM K) (cP K) (ag 0) (aE eV eU (aE kU lb (ag 1) am) am))) (al (aK (i:=3) (by decide) df.nd (Or.inl rfl) (bQ T.jF (vy T) hr (aa (ag 2) (aa (aE kU lb (ag 1) am) ai)))) (al (aK (i:=4) (by decide) df.nd (Or.inl rfl) (aE (aM K) (bb K) am (aE eV eU (aE kU lb (ag 1) am) am))) (al (aZ (aN (cD K hr.units) (kj K) (aE eV eU (aE kU lb (ag 1) am) am) am (aH _)) (ar (aK (i:=4) (by decide) df.nd (Or.inl rfl) (aE (aM K) (bb K) am (aE eV eU (aE kU lb (ag 1) am) (aE DC D9 am am))))) aL) (al (aZ (aN (cD K hr.units) (kj K) (aE eV eU (aE kU lb (ag 1) am) am) am (aH _)) (ar (aK (i:=4) (by decide) df.nd (Or.inl rfl) (aE DC D9 am am))) aL) (al (aZ (aN (cD K hr.units) (kj K) (aE eV eU (ag 1) am) am (aH _)) (ar (aB (kG (aa av (aa (ag 3) ai))))) aL) (al (aZ (aN (cD K hr.units) (kj K) (aE eV eU (ag 1) am) am (aH _)) (ar (aB (kG (aa av (aa (ag 2) (aa (bc (cM K) (cP K) (bc (cM K) (cP K) (bc (cM K) (cP K) (ag 3) am) (aE eV eU (aE kU lb (ag 1) am) (az (ki K) (kh K) T.fk cu (aa (bc (cM K) (cP K) (ag 3) am) ai)))) am) ai)))))) aL) (al (aZ (aN (cD K hr.units) (kj K) (aE eV eU (ag 1) am) am (aH _)) (ar (aB (kG (aa av (aa (ag 2) (aa (ag 4) ai)))))) aL) (ar (aB (kG (aa av (aa (ag 2) (aa (ag 4) (aa (bQ T.mB (Ae T) hr (aa (ag 3) (aa (aE kU lb (ag 1) am) ai))) ai))))))))))))))))
def K5:FnOk P w K mg base gW 1 f32 d32 jI (jH K mg gA):=by
 exact T.jM.F.okD (φ:=lp) (O':=[]) cO (fun cdv A outer s H E hr=>(al (aK (i:=1) (by decide) cO.nd (Or.inl rfl) (cc (dc (aa (az (fT K) (fL T.bz) T.aw aq (aa (ag 0) (aa (cz T.dG T.cg) ai))) (aa (az (fT K) (fL T.bz) T.aw aq (aa (ag 0) (aa (cz T.vi T.ja) ai))) (aa (az (fT K) (fL T.bz) T.aw aq (aa (ag 0) (aa (cz T.sN T.gU) ai))) (aa (az (fT K) (fL T.bz) T.aw aq (aa (ag 0) (aa (cz T.Ar T.lR) ai))) ai))))))) (al (aK (i:=1) (by decide) cO.nd (Or.inl rfl) (aE (aM K) (bb K) (ag 1) (cc (dc (aa (az (fT K) (fL T.bz) T.aw aq (aa (ag 0) (aa (cz T.w8 T.kc) ai))) (aa (az (fT K) (fL T.bz) T.aw aq (aa (ag 0) (aa (cz T.qD T.fW) ai))) (aa (az (fT K) (fL T.bz) T.aw aq (aa (ag 0) (aa (cz T.vj T.jb) ai))) ai))))))) (al (aK (i:=1) (by decide) cO.nd (Or.inl rfl) (aE (aM K) (bb K) (ag 1) (cc (dc (aa (az (fT K) (fL T.bz) T.aw aq (aa (ag 0) (aa (cz T.qE T.fX) ai))) (aa (az (fT K) (fL T.bz) T.aw aq (aa (ag 0) (aa (cz T.C3 T.nX) ai))) (aa (az (fT K) (fL T.bz) T.aw aq (aa (ag 0) (aa (cz T.GL T.qF) ai))) (aa (az (fT K) (fL T.bz) T.aw aq (aa (ag 0) (aa (cz T.C4 T.nY) ai))) ai)))))))) (al (aK (i:=1) (by decide) cO.nd (Or.inl rfl) (aE (aM K) (bb K) (ag 1) (cc (dc (aa (az (fT K) (fL T.bz) T.aw aq (aa (ag 0) (aa (cz T.di T.eF) ai))) (aa (az (fT K) (fL T.bz) T.aw aq (aa (ag 0) (aa (cz T.oU T.fh) ai))) (aa (az (fT K) (fL T.bz) T.aw aq (aa (ag 0) (aa (cz T.w9 T.kf) ai))) ai))))))) (ar (aB (gL (az (fT K) (fL T.bz) T.aw aq (aa (ag 0) (aa (oF T.qI oQ) ai))) (jV (gt (cD K hr.units) (kj K) (y6 K (ag 1) qt) am (aH _)))))))))))
def sy:FnOkU P w K mg base gW 1 f32 d32 jI (jH K mg gA):=by
 exact T.jM.F.okU (φ:=lp) (O':=[]) cO (fun cdv A outer s H E hr=>(al (aK (i:=1) (by decide) cO.nd (Or.inl rfl) (cc (dc (aa (az (fT K) (fL T.bz) T.aw aq (aa (ag 0) (aa (cz T.dG T.cg) ai))) (aa (az (fT K) (fL T.bz) T.aw aq (aa (ag 0) (aa (cz T.vi T.ja) ai))) (aa (az (fT K) (fL T.bz) T.aw aq (aa (ag 0) (aa (cz T.sN T.gU) ai))) (aa (az (fT K) (fL T.bz) T.aw aq (aa (ag 0) (aa (cz T.Ar T.lR) ai))) ai))))))) (al (aK (i:=1) (by decide) cO.nd (Or.inl rfl) (aE (aM K) (bb K) (ag 1) (cc (dc (aa (az (fT K) (fL T.bz) T.aw aq (aa (ag 0) (aa (cz T.w8 T.kc) ai))) (aa (az (fT K) (fL T.bz) T.aw aq (aa (ag 0) (aa (cz T.qD T.fW) ai))) (aa (az (fT K) (fL T.bz) T.aw aq (aa (ag 0) (aa (cz T.vj T.jb) ai))) ai))))))) (al (aK (i:=1) (by decide) cO.nd (Or.inl rfl) (aE (aM K) (bb K) (ag 1) (cc (dc (aa (az (fT K) (fL T.bz) T.aw aq (aa (ag 0) (aa (cz T.qE T.fX) ai))) (aa (az (fT K) (fL T.bz) T.aw aq (aa (ag 0) (aa (cz T.C3 T.nX) ai))) (aa (az (fT K) (fL T.bz) T.aw aq (aa (ag 0) (aa (cz T.GL T.qF) ai))) (aa (az (fT K) (fL T.bz) T.aw aq (aa (ag 0) (aa (cz T.C4 T.nY) ai))) ai)))))))) (al (aK (i:=1) (by decide) cO.nd (Or.inl rfl) (aE (aM K) (bb K) (ag 1) (cc (dc (aa (az (fT K) (fL T.bz) T.aw aq (aa (ag 0) (aa (cz T.di T.eF) ai))) (aa (az (fT K) (fL T.bz) T.aw aq (aa (ag 0) (aa (cz T.oU T.fh) ai))) (aa (az (fT K) (fL T.bz) T.aw aq (aa (ag 0) (aa (cz T.w9 T.kf) ai))) ai))))))) (ar (aB (gL (az (fT K) (fL T.bz) T.aw aq (aa (ag 0) (aa (oF T.qI oQ) ai))) (jV (gt (cD K hr.units) (kj K) (y6 K (ag 1) qt) am (aH _)))))))))))
def ro:FnOk P w K mg base gW 3 f33 d33 dY (jH K mg ge):=by
 exact T.gk.F.okD (φ:=gb) (O':=[]) lI (fun cdv A outer s H E hr=>(al (aK (i:=2) (by decide) lI.nd (Or.inl rfl) (kS PySem.F.slot_str_split PySem.F.type_str_split zC F1 (bQ T.kb (qU T) hr (aa (ag 0) ai)) (aa av ai))) (al (aZ (aN (cD K hr.units) (kj K) (ag 1) am (aH _)) (ar (aB (aE (aM K) (bb K) av (kS PySem.F.slot_str_join PySem.F.type_str_join (gF K) (nU K) av (aa (ag 2) ai))))) aL) (al (aZ (aN (cD K hr.units) (kj K) (ag 1) am (aH _)) (ar (aB (aE (aM K) (bb K) (aE (aM K) (bb K) (kS PySem.F.slot_str_join PySem.F.type_str_join (gF K) (nU K) av (aa (cy (yI K) (yH K) (ag 2) cS (bT am)) ai)) av) (kS PySem.F.slot_str_join PySem.F.type_str_join (gF K) (nU K) av (aa (cy (yI K) (yH K) (ag 2) (bT am) cS) ai))))) aL) (al (aZ (aN (cD K hr.units) (kj K) (ag 1) am (aH _)) (ar (aB (aE (aM K) (bb K) (kS PySem.F.slot_str_join PySem.F.type_str_join (gF K) (nU K) av (aa (ag 2) ai)) av))) aL) (al (aZ (aN (cD K hr.units) (kj K) (ag 1) am (aH _)) (ar (aB (aE (aM K) (bb K) av (cy (yI K) (yH K) (kS PySem.F.slot_str_join PySem.F.type_str_join (gF K) (nU K) av (aa (ag 2) ai)) (bT am) cS)))) aL) (al (aZ (aN (cD K hr.units) (kj K) (ag 1) am (aH _)) (ar (aB (aE (aM K) (bb K) av (kS PySem.F.slot_str_join PySem.F.type_str_join (gF K) (nU K) av (aa (ag 2) ai))))) aL) (ar (aB (kS PySem.F.slot_str_join PySem.F.type_str_join (gF K) (nU K) av (aa (aE (aM K) (bb K) (cc (dc (aa (bc (cM K) (cP K) (ag 2) am) (aa (bc (cM K) (cP K) (cc (dc (aa av (aa av (aa av (aa av (aa av (aa av ai)))))))) (aE Ad zx (ag 1) am)) ai)))) (cy (yI K) (yH K) (ag 2) (bT am) cS)) ai)))))))))))
def rh:FnOk P w K mg base gW 1 f34 d34 dZ (jH K mg gc):=by
 exact T.gm.F.okD (φ:=gi) (O':=[]) ia (fun cdv A outer s H E hr=>(al (aK (i:=2) (by decide) ia.nd (Or.inl rfl) (aE (aM K) (bb K) av (bc (cM K) (cP K) (bc (cM K) (cP K) (ag 0) am) am))) (al (aK (i:=3) (by decide) ia.nd (Or.inl rfl) (kS PySem.F.slot_str_join PySem.F.type_str_join (gF K) (nU K) av (aa (cc (nj (Wb:=⟨K,mg,E0⟩) (osc:=ap gd) (ON:=jk) (N:=["_law_column"]) (ix:=[none]) (by decide +kernel) (j7 K (bc (cM K) (cP K) (bc (cM K) (cP K) (ag 0) am) am)) (fun _=>(dz (i:=0) (by decide) (by decide +kernel:(["_law_column"]:List Str).Nodup) rfl (Or.inl rfl))) (fun _=>gQ) (fun _=>(aE (aM K) (bb K) (aE (aM K) (bb K) (bc (cM K) (cP K) (ag 0) am) av) (bc (cM K) (cP K) (ag 0) am))) (fb (by decide)))) ai))) (al (aZ (aN (cD K hr.units) (kj K) (ag 1) am (aH _)) (ar (aB (ag 2))) aL) (al (aZ (aN (cD K hr.units) (kj K) (ag 1) am (aH _)) (ar (aB (aE (aM K) (bb K) (aE (aM K) (bb K) (aE (aM K) (bb K) (aE (aM K) (bb K) (aE (aM K) (bb K) (ag 2) av) (ag 3)) av) (bc (cM K) (cP K) (bc (cM K) (cP K) (bc (cM K) (cP K) (bc (cM K) (cP K) (ag 0) am) am) am) am)) av))) aL) (al (aZ (aN (cD K hr.units) (kj K) (ag 1) am (aH _)) (ar (aB (aE (aM K) (bb K) (aE (aM K) (bb K) (aE (aM K) (bb K) (ag 2) av) (ag 3)) av))) aL) (al (aZ (aN (cD K hr.units) (kj K) (ag 1) am (aH _)) (ar (aB (aE (aM K) (bb K) (aE (aM K) (bb K) (aE (aM K) (bb K) (ag 2) av) (ag 3)) av))) aL) (al (aZ (aN (cD K hr.units) (kj K) (ag 1) am (aH _)) (ar (aB (aE (aM K) (bb K) (ag 2) av))) aL) (ar (aB (aE (aM K) (bb K) (aE (aM K) (bb K) (aE (aM K) (bb K) (ag 2) av) (ag 3)) av)))))))))))
def qi:FnOk P w K mg base gW 1 f35 d35 cV (jH K mg fz):=by
 exact T.fD.F.okD (φ:=fw) (O':=[]) cI (fun cdv A outer s H E hr=>(al (aK (i:=2) (by decide) cI.nd (Or.inl rfl) (bc (cM K) (cP K) (cc (dc (aa av (aa av ai)))) (aE eV eU (az (ki K) (kh K) T.fk cu (aa (bc (cM K) (cP K) (ag 0) am) ai)) am))) (al (aK (i:=3) (by decide) cI.nd (Or.inl rfl) (bc (cM K) (cP K) (cc (dc (aa av (aa av (aa av (aa (ag 2) (aa av (aa av ai)))))))) (aE Ad zx (aE Ad zx (ag 1) am) (aE oG vU am (jn We U2 T.xa rR (aa (gt KA JN (ag 1) am (aH _)) ai)))))) (al (aK (i:=4) (by decide) cI.nd (Or.inl rfl) (aE (aM K) (bb K) (aE (aM K) (bb K) (aE (aM K) (bb K) (aE (aM K) (bb K) (bc (cM K) (cP K) (ag 0) am) av) (bc (cM K) (cP K) (ag 0) am)) av) (ag 3))) (al (aZ (aN (cD K hr.units) (kj K) (bc (cM K) (cP K) (ag 0) am) av (aH _)) (ar (aK (i:=4) (by decide) cI.nd (Or.inl rfl) (aE (aM K) (bb K) (ag 4) av))) aL) (ar (aB (ag 4))))))))
def ue:FnOk P w K mg base gW 1 f36 d36 fV (jH K mg iq):=by
 exact T.iG.F.okD (φ:=iu) (O':=[]) gI (fun cdv A outer s H E hr=>(al (aK (i:=2) (by decide) gI.nd (Or.inl rfl) (aE (aM K) (bb K) (aE (aM K) (bb K) (aE (aM K) (bb K) av (bc (cM K) (cP K) (ag 0) am)) av) (jn FW Gy T.qH ma (aa (bc (cM K) (cP K) (ag 0) am) ai)))) (al (aK (i:=3) (by decide) gI.nd (Or.inl rfl) (cc (dc (aa av (aa av (aa av (aa av (aa av (aa av (aa av (aa av ai))))))))))) (al (aK (i:=3) (by decide) gI.nd (Or.inl rfl) (aE (aM K) (bb K) (ag 3) (cc (dc (aa av (aa av (aa av ai))))))) (ar (aB (aE (aM K) (bb K) (ag 2) (bc (cM K) (cP K) (ag 3) (aE eV eU (ag 1) am)))))))))
def BA:FnOk P w K mg base gW 4 f37 d37 lF (jH K mg jJ):=by
 exact T.oz.F.okD (φ:=on) (O':=[]) u3 (fun cdv A outer s H E hr=>(al (aZ (aN Nz Nr (ag 1) am (aH _)) (ar (aB (bQ T.gk (ro T) hr (aa (ag 0) (aa (ag 1) ai))))) aL) (al (aZ (aN (cD K hr.units) (kj K) (bc (cM K) (cP K) (ag 0) am) av (aH _)) (ar (aB (bQ T.gm (rh T) hr (aa (ag 0) (aa (ag 1) ai))))) aL) (al (aZ (aN (cD K hr.units) (kj K) (bc (cM K) (cP K) (ag 0) am) av (aH _)) (al (aK (i:=2) (by decide) u3.nd (Or.inl rfl) (aE (aM K) (bb K) av (bc (cM K) (cP K) (ag 0) am))) (ar (aB (bc (cM K) (cP K) (cc (dc (aa (ag 2) (aa (aE (aM K) (bb K) (ag 2) av) (aa (aE (aM K) (bb K) (aE (aM K) (bb K) (aE (aM K) (bb K) (ag 2) av) (bc (cM K) (cP K) (ag 0) am)) av) (aa (aE (aM K) (bb K) (ag 2) av) (aa (aE (aM K) (bb K) (ag 2) av) ai))))))) (aE eV eU (ag 1) am))))) aL) (al (aZ (cU (qY (aN (cD K hr.units) (kj K) (bc (cM K) (cP K) (ag 0) am) av (aH _)) (oo (aN KA JN (ag 1) am (aH _))))) (ar (aB (bQ T.iG (ue T) hr (aa (ag 0) (aa (ag 1) ai))))) aL) (ar (aB (bQ T.fD (qi T) hr (aa (ag 0) (aa (az (QR rfl) QJ T.KI Ex (aa (ag 1) (aa am ai))) ai))))))))))
def yu:FnOk P w K mg base gW 8 f38 d38 iM (jH K mg cH):=by
 have GX_read_change:=j4 (P:=P) (base:=base) T;have GU_l_alone:=sy (P:=P) (base:=base) T;exact T.i9.F.okD (φ:=kv) (O':=[]) pD (fun cdv A outer s H E hr=>(al (Jw (n:=1) (F:=bE) (mt:=rJ ["BadValue","BadLog"]) T.eD GX_read_change hr (by decide) pD.nd (fun _=>(aa (ag 0) ai)) T.qC T.qG (fun y=>(ar (aB (gL (az (fT K) (fL T.bz) T.aw aq (aa (ag 1) (aa (cz T.di T.eF) ai))) (jV (BW T.jM GU_l_alone (hr.u y) (aa (ag 1) ai)))))))) (ar (aB qt))))
def xL:FnOk P w K mg base gW 1 f39 d39 iJ (jH K mg eZ):=by
 exact T.kO.F.okD (φ:=kE) (O':=[]) fv (fun cdv A outer s H E hr=>(al (aK (i:=2) (by decide) fv.nd (Or.inl rfl) av) (al (aK (i:=2) (by decide) fv.nd (Or.inl rfl) (aE (aM K) (bb K) (ag 2) av)) (al (aK (i:=3) (by decide) fv.nd (Or.inl rfl) (aE eV eU (aE kU lb (ag 1) am) (aE (aM K) (bb K) (az (ki K) (kh K) T.fk cu (aa (ag 0) ai)) am))) (al (aZ (aN (cD K hr.units) (kj K) (aE eV eU (aE kU lb (ag 1) am) am) am (aH _)) (ar (aK (i:=3) (by decide) fv.nd (Or.inl rfl) (aE eV eU (aE kU lb (ag 1) am) (az (QR rfl) QJ T.KI Ex (aa (az (ki K) (kh K) T.fk cu (aa (ag 0) ai)) (aa am ai)))))) aL) (al (aK (i:=4) (by decide) fv.nd (Or.inl rfl) (bc (cM K) (cP K) (ag 2) (aE eV eU (aE kU lb (ag 1) am) am))) (al (aZ (aN (cD K hr.units) (kj K) (aE eV eU (ag 1) am) am (aH _)) (ar (aB (aE (aM K) (bb K) (aE (aM K) (bb K) (cy (yI K) (yH K) (ag 0) cS (bT (ag 3))) (ag 4)) (cy (yI K) (yH K) (ag 0) (bT (ag 3)) cS)))) aL) (al (aZ (aN (cD K hr.units) (kj K) (aE eV eU (ag 1) am) am (aH _)) (ar (aB (aE (aM K) (bb K) (aE (aM K) (bb K) (cy (yI K) (yH K) (ag 0) cS (bT (ag 3))) (ag 4)) (cy (yI K) (yH K) (ag 0) (bT (aE (aM K) (bb K) (ag 3) am)) cS)))) aL) (ar (aB (aE (aM K) (bb K) (cy (yI K) (yH K) (ag 0) cS (bT (ag 3))) (cy (yI K) (yH K) (ag 0) (bT (aE (aM K) (bb K) (ag 3) am)) cS))))))))))))
def pF:FnOk P w K mg base gW 8 f40 d40 de (jH K mg bJ):=by
 have GX_read_change:=j4 (P:=P) (base:=base) T;have GU_l_alone:=sy (P:=P) (base:=base) T;exact T.fE.F.okD (φ:=c9) (O':=[]) kq (fun cdv A outer s H E hr=>(al (HA (i:=1) (n:=2) (F:=bE) (mt:=rJ ["BadValue","BadLog"]) T.eD GX_read_change hr (by decide) (by decide) kq.nd (Or.inl rfl) (fun _=>(aa (ag 0) ai)) T.qC T.qG (fun y=>(ar (aB (gL (az (fT K) (fL T.bz) T.aw aq (aa (ag 2) (aa (cz T.di T.eF) ai))) (jV (BW T.jM GU_l_alone (hr.u y) (aa (ag 2) ai)))))))) (al (aZ (cU (lr (dh (bg K (az (kr K) (pG K) T.aw aq (aa (ag 1) (aa (oF T.mF ly) ai))))) (ld (dh (bg K (az (kr K) (pG K) T.aw aq (aa (bc (cM K) (cP K) (ag 1) am) (aa (oF T.qH ma) ai)))))))) (ar (aB qt)) aL) (al (aZ (cU (qY (aN (zo K) (J7 K) (bc (cM K) (cP K) (ag 1) am) (kG (aa av (aa av ai))) (by with_unfolding_all rfl)) (oo (cU (lr (dh (bg K (bQ T.ow (Bn T) hr (aa (bc (cM K) (cP K) (ag 1) am) ai)))) (ld (dh (EH No Nv No Nv am (bc (cM K) (cP K) (ag 1) am) (aE DC D9 am am))))))))) (ar (aB qt)) aL) (ar (aB (gL (gt (zo K) (J7 K) (bc (cM K) (cP K) (ag 1) am) (kG (aa av (aa av (aa av (aa av ai))))) (by with_unfolding_all rfl)) (jV (gt (cD K hr.units) (kj K) (bQ T.kb (qU T) hr (aa (ag 1) ai)) (ag 0) (aH _))))))))))
def My:FnOk P w K mg base (oJ P w mg) 9 f41 d41 uD (rQ K mg wt):=by
 have GX_l_name_by:=(pU (P:=P) (base:=base) T).mayX;have GX_l_cell_at:=(xI (P:=P) (base:=base) T).mayX;have GX_l_twin:=(Dg (P:=P) (base:=base) T).mayX;have GX_l_refused:=(yu (P:=P) (base:=base) T).mayX;have GX_l_change_by:=(tR (P:=P) (base:=base) T).mayX;have GX_l_mixed:=(jW (P:=P) (base:=base) T).mayX;have GX_l_line:=(qU (P:=P) (base:=base) T).mayX;have GX_l_only_its_own:=(pF (P:=P) (base:=base) T).mayX;have GX_l_mutated:=(xL (P:=P) (base:=base) T).mayX;have GX_read_change:=j4 (P:=P) (base:=base) T;have GX_l_wrong:=(BA (P:=P) (base:=base) T).mayX;exact T.GJ.F.okX (φ:=B4) (O':=[]) nP (fun cdv A outer s H E hr=>(al (xx (i:=1) (by decide) nP.nd (Or.inl rfl) (dc (aa (bi T.i8 GX_l_name_by hr (aa (bi T.du GX_l_cell_at hr (aa (ag 0) (aa am ai))) ai)) ai))) (al (lm (i:=1) (by decide) (bi T.qy GX_l_twin hr (aa (N8 K (i:=1) (by decide) am) (aa (bi T.du GX_l_cell_at hr (aa (ag 0) (aa am ai))) ai)))) (al (aZ (dh (bg K (bi T.i9 GX_l_refused hr (aa av ai)))) (ar (aB qt)) aL) (FY (O:=[1]) (O2:=[]) (al (pk B3 (lP T.oA (aa am ai)) (dz (i:=2) (by decide) nP.nd rfl (Or.inl rfl)) (al (aK (i:=3) (by decide) nP.nd (Or.inl rfl) (bi T.iE GX_l_change_by hr (aa (ag 1) (aa (bi T.fB GX_l_mixed hr (aa (aE (aM K) (bb K) (bi T.du GX_l_cell_at hr (aa (ag 0) (aa (aE (aM K) (bb K) am (aE oG vU am (ag 2))) ai))) (ag 2)) ai)) ai)))) (al (aK (i:=4) (by decide) nP.nd (Or.inl rfl) (aE eV eU (bi T.du GX_l_cell_at hr (aa (ag 0) (aa (aE (aM K) (bb K) am (aE oG vU am (ag 2))) ai))) am)) (al (aK (i:=5) (by decide) nP.nd (Or.inl rfl) (bi T.kb GX_l_line hr (aa (ag 3) ai))) (al (pk B3 (lP T.oA (aa am ai)) (dz (i:=6) (by decide) nP.nd rfl (Or.inl rfl)) (al (aK (i:=7) (by decide) nP.nd (Or.inl rfl) (bi T.fB GX_l_mixed hr (aa (aE (aM K) (bb K) (bi T.du GX_l_cell_at hr (aa (ag 0) (aa (aE (aM K) (bb K) am (aE oG vU am (ag 2))) ai))) (aE oG vU am (ag 6))) ai))) (ar (aZ (dh (bg K (bi T.fE GX_l_only_its_own hr (aa (bi T.kO GX_l_mutated hr (aa (ag 5) (aa (ag 7) ai))) ai)))) (ar (aB qt)) aL)))) (ar (aZ (aN KA JN (ag 4) am (aH _)) (ar (aZ (aN (IZ K hr.units) (UH K) (bi T.eD GX_read_change hr (aa (bi T.kb GX_l_line hr (aa (ag 3) ai)) ai)) (ag 3) (aH _)) (ar (aB qt)) aL)) (ar (aZ (dh (bg K (bi T.i9 GX_l_refused hr (aa (bi T.oz GX_l_wrong hr (aa (ag 3) (aa (ag 4) ai))) ai)))) (ar (aB qt)) aL))))))))) (ar (aB qt))))))))
end
local macro_rules | `(tactic| walk_at "ew") => `(tactic| (try simp only [not_true_eq_false, not_false_eq_true, Int.reduceEq, eq_self, List.nil_append, List.cons_append, KB, JR, Kr, JL, Sh, RA, OQ, SK, Uc, Q4, Gb, Ft, RH, Sx, wH, v9, Fc, F6, kQ, Gv, K9, La, aG, aA, Az, M1, LW, bV, kB, qp, eX, eG, wN, Cl, Qu, Ot, wY, wk, Jj, Gk, jm, JH, Ie, GS, Ez, wF, Sk, R4, KQ, Tr, LA, v_var, sK, v_c, jd, g7, Ve, v_not, SQ, v_and, Pq, sO, tY, Fw, P0, Rm, TD, Kn, EJ, Da, wo, Ew, KW, Qs, Uq, SE, um, o9, o8, mi, Qw, Op, K0, Md, xh, M5, Lm, o_k, Vt, Os, Pu, Qh, LG, Nf, FI, Ul, Hq, Jb, Co, MZ, Nl, Kx, add_l, uA, Uf, QN, Vh, VQ, Vd, Vy, VU, VF, VZ, UT, Wk, V4, Rp, Uz, Tq, Rx, Pj, T8, QS, Ue, P5, TK, Oj, Ty, Su, Hs, Cb, PL, Q5, S0, Qk, QC, OF, Tm, Um, SG, T7, OZ, SW, TH, NK, QQ, mul_r, BZ, Qm, Cd, Fk, Sz, Gq, Oo, Ro, Ug, NQ, Rk, SD, Qc, Ps, Kd, Sb, NL, sS, sZ, rG, qR, qk, rS, Aa, yW, xO, yd, vW, xu, A4, Bj, zc, zv, yr, zK, A9, BC, zb, Ai, xr, zw, y8, zS, yo, xH, vA, xk, xY, xj, vM, vQ, tK, vB, zJ, zl, xF, xw, vZ, xt, M6, Mo, HY, GW, F0, IM, i4, ah, Jg, IQ, List.getElem?_cons_zero, List.getElem?_cons_succ, List.set_cons_zero, List.set_cons_succ, if_true, if_false, Bool.false_eq_true, Bool.true_eq_false, decide_eq_true_eq, Bool.not_true, Bool.not_false, Bool.not_eq_true', decide_eq_false_iff_not, List.length_cons, List.length_nil, Nat.zero_add, Nat.reduceAdd, Nat.reduceLeDiff, Nat.reduceLT, beq_self_eq_true, and_self, and_true, true_and, Int.reduceNeg, Int.reducePow, Int.reduceLT, Int.reduceLE, Int.reduceToNat, Int.reduceAdd, Int.reduceSub, Int.reduceMul, Nat.reducePow, Nat.reduceMul]))
local macro_rules | `(tactic| walk_at "ev") => `(tactic| (walk_at "ew"; (try simp only [DH, pV]); walk_at "ew"; (try simp only [DH, pV]); walk_at "ew"))
def cell (ns:List Int) (k:Int):Int:=ns.getD k.toNat 0
def pP (ns:List Int) (k:Int) (h0:0<=k):bj [.lst (ns.map D.int),.int k]=.ok (.int (cell ns k)):=by
 rw [yR,ky];walk_at "ev";rw [List.length_map];by_cases h:k < (ns.length:Int)
 ·rw [if_pos h];have hk:k.toNat < ns.length:=by omega
  have ek:k=((k.toNat:Nat):Int):=by omega
  have e:atI (ns.map D.int) k=some (.int (cell ns k)):=by
   rw [ek];refine bt ?_;unfold cell;rw [List.getElem?_map,List.getElem?_eq_getElem hk,List.getD_eq_getElem?_getD,Int.toNat_natCast,List.getElem?_eq_getElem hk];rfl
  rw [sR e];rfl
 ·rw [if_neg h];have e:cell ns k=0:=by
   unfold cell;rw [List.getD_eq_getElem?_getD,List.getElem?_eq_none (by omega)];rfl
  walk_at "ev";rw [e]
abbrev l4:Str:=Str.ofString " !\"#$&'()*+,-./0123456789:;<=>?@ABCDEFGHIJKLMNOPQRSTUVWXYZ[\\]^_`abcdefghijklmnopqrstuvwxyz{|}~"
def Hm:List Nat:=l4.cps.toList
def B0:Hm.length=94:=by decide +kernel
def uB (i:Int):Nat:=Hm.getD (i % 94).toNat 0
def Mb (i:Int):atI l4.cps.toList (i % 94)=some (uB i):=by
 have h0:0<=i % 94:=Int.emod_nonneg _ (by decide);have h1:i % 94 < 94:=Int.emod_lt_of_pos _ (by decide);have hk:(i % 94).toNat < Hm.length:=by rw [B0];omega
 have ek:i % 94=(((i % 94).toNat:Nat):Int):=by omega
 have h:=bt (xs:=Hm) (j:=(i % 94).toNat) (List.getElem?_eq_getElem hk);rw [<- ek] at h;unfold uB;rw [List.getD_eq_getElem?_getD,List.getElem?_eq_getElem hk];exact h
def Iw (i:Int):uB i∈Hm:=by
 have h0:0<=i % 94:=Int.emod_nonneg _ (by decide);have h1:i % 94 < 94:=Int.emod_lt_of_pos _ (by decide);have hk:(i % 94).toNat < Hm.length:=by rw [B0];omega
 unfold uB;rw [List.getD_eq_getElem?_getD,List.getElem?_eq_getElem hk];exact List.getElem_mem hk
def CO:D->Bool
 | .non=>true
 | .int i=>decide (-(10 ^ 18) < i/\i < 10 ^ 18)
 | .str z=>decide (z.length<=40)&&z.cps.toList.all fun c=>decide (32<=c)&&decide (c<=126)
 | _=>false
def Okd:D->Prop
 | .exn _=>False
 | .cls _=>False
 | .str z=>z.length<=1000
 | .ty _=>False
 | .obj _ _=>False
 | _=>True
theorem E9 (a b:Nat):(([a]:List Nat) < [b]) ↔ a < b:=by
 constructor
 ·intro h;cases h with
  | rel h=>exact h
  | cons h=>cases h
 ·intro h;exact List.Lex.rel h
def Ii (c:Nat):jK [.str ⟨#[c]⟩]=.ok (.bl (decide (32<=c)&&decide (c<=126))):=by
 rw [C7,ou];walk_at "ev";have e1:(Str.ofString " ").cps.toList=[32]:=by decide +kernel
 have e2:(Str.ofString "~").cps.toList=[126]:=by decide +kernel
 rw [e1,e2];simp only [E9];by_cases h:c < 32
 ·have h1:¬ 32<=c:=by omega
  simp [h,h1,ah,qp,kQ]
 ·have h1:32<=c:=by omega
  by_cases h2:126 < c
  ·have h3:¬ c<=126:=by omega
   simp [h,h1,h2,h3,ah,qp,kQ]
  ·have h3:c<=126:=by omega
   simp [h,h1,h2,h3,ah,qp,kQ]
def yY (z:Str):z.cps.toList.length=z.length:=by simp [Str.length]
def FJ (d:D) (ok:Okd d):j6 [d]=.ok (.bl (CO d)):=by
 rw [Br,mh];cases d with
 | str z =>
  have hz:z.length<=1000:=ok;have hz':z.length<=1000000:=by omega
  walk_at "ev";rw [if_pos hz'];unfold lY;walk_at "ev";by_cases h:(z.length:Int)<=40
  ·have h':z.length<=40:=by omega
   rw [if_pos h];have e:cA (.one 0) dX (ak jK (ac (ae 0) aj)) (cf [none] [some (D.str z)]) (pe z)=.ok (.lst (z.cps.toList.map fun c=>D.bl (decide (32<=c)&&decide (c<=126)))):=by
    refine gr _ _ rfl (by rw [yY];exact hz') fun c hc=>?_;show ak jK (ac (ae 0) aj) [some (D.str ⟨#[c]⟩)]=_;walk_at "ev";exact Ii c
   rw [e];walk_at "ev";rw [B6 (p4 _ _)];walk_at "ev";simp [CO,h',List.all_map,Function.comp_def]
  ·have h':¬ z.length<=40:=by omega
   rw [if_neg h];walk_at "ev";simp [CO,h']
 | int i =>
  walk_at "ev";show R.ok (D.bl _)=.ok (.bl (decide _));congr 2;refine decide_eq_decide.mpr ?_;split <;> omega
 | non=>walk_at "ev";rfl
 | bl b=>walk_at "ev";rfl
 | lst xs=>walk_at "ev";rfl
 | tup xs=>walk_at "ev";rfl
 | dct xs=>walk_at "ev";rfl
 | ty _=>exact ok.elim
 | obj _ _=>exact ok.elim
 | exn _=>exact ok.elim
 | cls _=>exact ok.elim
def au (l:List Nat):Str:=⟨l.toArray⟩
theorem ax (l:List Nat):(au l).cps.toList=l:=by simp [au]
theorem a9 (l:List Nat):(au l).length=l.length:=by simp [au,Str.length]
def tJ {a b:Str} (h:a.cps.toList=b.cps.toList):a=b:=by
 cases a;cases b;congr 1;exact Array.toList_inj.mp h
def tV (z:Str):z=au z.cps.toList:=tJ (ax _).symm
def mk_eq {z:Str} {l:List Nat} (h:z.cps.toList=l):z=au l:=tJ (h.trans (ax l).symm)
theorem mk_inj {a b:List Nat}:au a=au b ↔ a=b:=⟨fun h=>by have:=congrArg (fun z:Str=>z.cps.toList) h;simpa [ax] using this,fun h=>by rw [h]⟩
theorem bI (a b:Str):(a++b).cps.toList=a.cps.toList++b.cps.toList:=by
 show (a.cps++b.cps).toList=_;simp
def FV (a b:List Nat):au a++au b=au (a++b):=tJ (by rw [bI,ax,ax,ax])
def bv (a b:List Nat) (h:a.length+b.length<=1000000):aC (.str (au a)) (.str (au b))=.ok (.str (au (a++b))):=by
 rw [JY,a9,a9,if_pos h,FV]
def Nu:Str.ofString "\""=au [34]:=by decide +kernel
def F9:Str.ofString "\"\""=au [34,34]:=by decide +kernel
def l0:Str.ofString ""=au []:=by decide +kernel
def Ep:Str.ofString " "=au [32]:=by decide +kernel
def l45:Str.ofString "-"=au [45]:=by decide +kernel
def W7:Str.ofString "0"=au [48]:=by decide +kernel
def JQ:Str.ofString "none"=au [110,111,110,101]:=by decide +kernel
def VY:Str.ofString "0123456789"=au [48,49,50,51,52,53,54,55,56,57]:=by decide +kernel
def BE (c:Nat):(⟨#[c]⟩:Str)=au [c]:=rfl
def xC (x:Str) (c:Nat):Txt.startswith x (au [c])=decide (x.cps.toList[0]?=some c):=by
 have h:=PySem.StrLaws.subAt_one x c 0;rw [BE] at h;rw [Bool.eq_iff_iff,decide_eq_true_eq,<- h];unfold Txt.startswith
 rw [Bool.and_eq_true,decide_eq_true_eq]
def QA (x:Str) (c:Nat):Txt.endswith x (au [c])=decide (x.cps.toList[x.length - 1]?=some c):=by
 have h:=PySem.StrLaws.subAt_one x c (x.length - 1);rw [BE] at h;rw [Bool.eq_iff_iff,decide_eq_true_eq,<- h];unfold Txt.endswith
 rw [Bool.and_eq_true,decide_eq_true_eq,a9];show (0+1<=x.length/\_) ↔ (x.length - 1+1<=x.length/\_);constructor
 ·exact fun ⟨a,b⟩=>⟨by omega,b⟩
 ·exact fun ⟨a,b⟩=>⟨by omega,b⟩
theorem IC (x:Str) (c:Nat):HN x (au [c])=decide (c∈x.cps.toList):=PySem.StrLaws.found_one x c
def Fq (x:Str) (c:Nat):vo (.str (au [c])) (.str x)=.ok (.bl (decide (c∈x.cps.toList))):=by
 unfold vo UG;simp only [IC,kg];rfl
def SJ (z:Str) (h:z.length<=1000):qg "\"" "\"\"" (.str z)=.ok (.str (au (m8 z.cps.toList))):=by
 unfold qg;simp only;rw [if_pos ⟨by decide +kernel,h,by decide +kernel⟩];congr 2;refine mk_eq ?_;rw [sC _ _ _ (by decide +kernel),Nu,F9,ax,ax,Cf]
def Vw:D->Prop
 | .non=>True
 | .int i=>i.natAbs < 10 ^ 18
 | .str z=>z.length<=40/\∀ c∈z.cps.toList,32<=c/\c<=126
 | _=>False
def IG:∀ c∈Hm,32<=c/\c<=126:=by decide +kernel
def wl:D->List Nat
 | .non=>[110,111,110,101]
 | .int i=>gq i
 | .str z=>34::(m8 z.cps.toList++[34])
 | _=>[]
def dL (z:Str):z.cps.toList.length=z.length:=by simp [Str.length]
def FZ {i:Int} (h:i.natAbs < 10 ^ 18):(gq i).length<=19:=by
 have:=yz 17 _ h
 unfold gq;split <;> simp <;> omega
def FK {d:D} (h:Vw d):(wl d).length<=100:=by
 cases d with
 | non=>decide
 | int i=>have:=FZ h;show (gq i).length<=100;omega
 | str z =>
  have h1:=xX z.cps.toList;rw [dL] at h1;have h2:=h.1;show (34::(m8 z.cps.toList++[34])).length<=100;simp;omega
 | _=>exact h.elim
def DJ (d:D) (h:Vw d):ff [d]=.ok (.str (au (wl d))):=by
 rw [yP,km];cases d with
 | non =>
  walk_at "ev";rw [JQ];rfl
 | int i =>
  have h:i.natAbs < 10 ^ 18:=h;walk_at "ev";unfold Cw;simp only;rw [if_pos (by omega),mk_eq (str_int i)];rfl
 | str z =>
  have hz:z.length<=1000:=by have:=h.1;omega
  have h1:=xX z.cps.toList;rw [dL] at h1;walk_at "ev";rw [SJ z hz];walk_at "ev";rw [Nu,bv _ _ (by simp;omega)];walk_at "ev";rw [bv _ _ (by simp;omega)];walk_at "ev";rfl
 | _=>exact h.elim
def K2 (X:List Nat) (a b:Nat) (h:X.length<=900):jP (.str (au (a::(X++[b])))) (some 1) (some (-1))=.ok (.str (au X)):=by
 unfold jP;simp only;rw [a9,if_pos (by simp;omega)];congr 2;unfold bW;refine mk_eq ?_;rw [ax,a9];have e1:HT.sIx (a::(X++[b])).length 0 (some 1)=1:=by unfold HT.sIx;simp
 have e2:HT.sIx (a::(X++[b])).length (a::(X++[b])).length (some (-1))=X.length+1:=by
  unfold HT.sIx;simp;omega
 rw [e1,e2];simp
def Hk (X:List Nat) (a:Nat) (h:X.length<=900):jP (.str (au (a::X))) (some 1) none=.ok (.str (au X)):=by
 unfold jP;simp only;rw [a9,if_pos (by simp;omega)];congr 2;unfold bW;refine mk_eq ?_;rw [ax,a9];have e1:HT.sIx (a::X).length 0 (some 1)=1:=by unfold HT.sIx;simp
 have e2:HT.sIx (a::X).length (a::X).length none=X.length+1:=by unfold HT.sIx;simp
 rw [e1,e2];simp
def Ln (L:List Nat):Prop:=L.length<=850/\∀ c∈L,c=9\/32<=c/\c<=126
def Ln.sub {L M:List Nat} (h:Ln L) (hl:M.length<=L.length) (hm:∀ c∈M,c∈L):Ln M:=⟨Nat.le_trans hl h.1,fun c hc=>h.2 c (hm c hc)⟩
def bB {F:List D->R D} {ds:List D} {d:D} (h:F ds=.ok d):aV F ds=.ok d:=by unfold aV;rw [h];rfl
def jS (c:Str) (hc:c.length<=100) (L:List Nat) (hL:Ln L) (δ:Sd) (hv:ae 0 δ=.ok (.str (au L))):vw "BadValue" (ac (sA c (ae 0)) aj) δ=.er "BadValue":=by
 have e:sA c (ae 0) δ=.ok (.str (c++reprText (au L))):=by
  unfold sA;rw [hv];show (if _ then _ else _)=_;rw [if_pos ⟨by rw [a9];have:=hL.1;omega,by
   rw [ax];intro k hk
   have:=hL.2 k hk
   have:k < 127:=by omega
   exact Nat.lt_of_lt_of_le this (by decide)⟩]
 have e2:ac (sA c (ae 0)) aj δ=.ok [.str (c++reprText (au L))]:=by
  unfold ac aj;rw [e];rfl
 unfold vw;rw [e2];rfl
def JV (y z:Str) (w:List Nat) (L:List Nat) (hy:y=au [34,34]) (hz:z=au w) (hw:w.length<=1) (h:L.length<=1000):qg y z (.str (au L))=.ok (.str (au (rq w L))):=by
 subst hy hz;unfold qg;simp only;rw [if_pos ⟨Bool.eq_false_iff.mpr fun q=>by
  have q2:=mk_inj.mp (beq_iff_eq.mp q);rw [<- q2] at hw;simp at hw,by rw [a9];exact h,by rw [a9];omega⟩]
 congr 2;refine mk_eq ?_;rw [sC _ _ _ (by rw [a9];decide),ax,ax,ax];rfl
def Hj (X:List Nat):Bool:=!decide (34∈rq [] X)&&(decide ((rq [34] X).length<=40)&&!decide (9∈X))
def K8 (X:List Nat) (hX:Ln X):j6 [.str (au (rq [34] X))]=.ok (.bl (decide ((rq [34] X).length<=40)&&!decide (9∈X))):=by
 have h1:=JM [34] (by decide) X;have h2:=hX.1;rw [FJ (.str (au (rq [34] X))) (show (au (rq [34] X)).length<=1000 by rw [a9];omega)];unfold CO;dsimp only;rw [a9,ax];congr 3;rw [Bool.eq_iff_iff,List.all_eq_true,Bool.not_eq_true',decide_eq_false_iff_not];constructor
 ·intro h z
  have:=h 9 ((yk (by decide) X).mpr z)
  simp at this
 ·intro h c hc;by_cases h34:c=34
  ·subst h34;decide
  ·have hc':=(yk h34 X).mp hc;have h9:c≠9:=fun z=>h (z ▸ hc')
   have:=hX.2 c hc'
   simp;omega
def yy (X:List Nat) (hX:Ln X) (hl:X.length<=848):gx [.str (au (34::(X++[34])))]=if Hj X then .ok (.str (au (rq [34] X))) else .er "BadValue":=by
 have hL:Ln (34::(X++[34])):=⟨by simp;omega,fun c hc=>by
  simp only [List.mem_cons,List.mem_append,List.not_mem_nil,or_false] at hc;rcases hc with rfl|hc|rfl
  ·right;decide
  ·exact hX.2 c hc
  ·right;decide⟩
 have h1:=JM [34] (by decide) X;rw [sJ,iQ];have hlen:bO [.str (au (34::(X++[34])))]=.ok (.int ((X.length+2:Nat):Int)):=by
  rw [pV,a9,if_pos (by simp;omega)];simp;omega
 have hl2:¬ ((X.length+2:Nat):Int) < 2:=by omega
 have eb:(au (34::(X++[34]))).cps.toList[(au (34::(X++[34]))).length - 1]?=some 34:=by
  rw [ax,a9];simp
 walk_at "ew";rw [hlen];walk_at "ew";rw [if_neg hl2];walk_at "ew";unfold uf;simp only;rw [Nu,QA,decide_eq_true eb];walk_at "ew";rw [K2 _ _ _ (by omega)];walk_at "ew";rw [JV _ _ [] X F9 l0 (by decide) (by omega)];walk_at "ew";rw [Fq,ax];by_cases h3:34∈rq [] X
 ·rw [decide_eq_true h3];walk_at "ew";rw [jS _ (by decide +kernel) _ hL _ rfl];unfold Hj;rw [decide_eq_true h3];rfl
 ·rw [decide_eq_false h3];walk_at "ew";rw [JV _ _ [34] X F9 rfl (by decide) (by omega)];walk_at "ew";rw [bB (K8 X hX)];unfold Hj;rw [decide_eq_false h3];cases (decide ((rq [34] X).length<=40)&&!decide (9∈X)) with
  | true=>walk_at "ew";rfl
  | false =>
   walk_at "ew";rw [jS _ (by decide +kernel) _ hL _ rfl];rfl
def GU {L:List Nat} (h0:L[0]?=some 34) (h2:2<=L.length) (h1:L[L.length - 1]?=some 34):∃ X,L=34::(X++[34]):=by
 cases L with
 | nil=>simp at h0
 | cons a r =>
  simp at h0;subst h0;have hr:r≠[]:=fun z=>by rw [z] at h2;simp at h2
  refine ⟨r.dropLast,?_⟩;have e:=List.dropLast_concat_getLast hr
  have:r.getLast hr=34:=by
   rw [List.getLast_eq_getElem];have h1':(34::r)[r.length]?=some 34:=by simpa using h1
   have hp:0 < r.length:=by cases r with|nil=>exact absurd rfl hr|cons _ _=>simp
   obtain ⟨q,e⟩:=List.getElem?_eq_some_iff.mp h1';rw [List.getElem_cons] at e;simp [Nat.ne_of_gt hp] at e;exact e
  rw [this] at e;rw [e]
def xJ (L:List Nat) (hL:Ln L) (h0:L[0]?=some 34) (hn:∀ X,L≠34::(X++[34])):gx [.str (au L)]=.er "BadValue":=by
 have h1:=hL.1;rw [sJ,iQ];have hlen:bO [.str (au L)]=.ok (.int (L.length:Int)):=by rw [pV,a9,if_pos (by omega)]
 walk_at "ew";rw [hlen];walk_at "ew";by_cases h2:(L.length:Int) < 2
 ·rw [if_pos h2];walk_at "ew";rw [jS _ (by decide +kernel) _ hL _ rfl];rfl
 ·rw [if_neg h2];walk_at "ew";unfold uf;simp only;rw [Nu,QA,ax,a9,decide_eq_false (fun z=>by
   obtain ⟨X,e⟩:=GU h0 (by omega) z;exact hn X e)]
  walk_at "ew";rw [jS _ (by decide +kernel) _ hL _ rfl];rfl
def vO (c:Nat):Bool:=decide (48<=c/\c<=57)
def fg (L:List Nat):List Nat:=if L[0]?=some 45 then L.drop 1 else L
def LN (L:List Nat):(fg L).length<=L.length:=by unfold fg;split <;> simp
def Dv (L:List Nat):Bool:=!(decide (fg L=[])||!(fg L).all vO)&&(!(decide ((fg L)[0]?=some 48)&&decide (L≠[48]))&&decide ((fg L).length<=18))
def ny (L:List Nat):Int:=if L[0]?=some 45 then -(NumText.digitsVal (fg L):Int) else (NumText.digitsVal (fg L):Int)
def MS (c:Nat):(decide (c∈[48,49,50,51,52,53,54,55,56,57]))=vO c:=by
 unfold vO;refine decide_eq_decide.mpr ?_;simp;omega
def HE (c:Nat):ao vo (ae 0) (vC eh) [some (.str ⟨#[c]⟩)]=.ok (.bl (vO c)):=by
 unfold eh;simp only [jd,v_var,sK,v_c,g7,ah,List.getElem?_cons_zero];rw [BE,VY,Fq,ax,MS]
def wR (L:List Nat) (hl:L.length<=900) (a:Option D):ak qj (ac (dm [none] (iR (ae 1)) (.one 0) dX (ao vo (ae 0) (vC eh))) aj) [a,some (.str (au L))]=.ok (.bl (L.all vO)):=by
 have e:cA (.one 0) dX (ao vo (ae 0) (vC eh)) (cf [none] [a,some (D.str (au L))]) (pe (au L))=.ok (.lst (L.map fun c=>D.bl (vO c))):=by
  have e0:pe (au L)=L.map fun c=>D.str ⟨#[c]⟩:=by
   show ((au L).cps.toList.map fun c=>D.str ⟨#[c]⟩)=_;rw [ax]
  rw [e0];exact gr _ _ rfl (by omega) fun c hc=>HE c
 walk_at "ev";rw [e];walk_at "ev";rw [B6 (p4 _ _)];simp [List.all_map,Function.comp_def]
def Vm (L:List Nat) (hl:L.length<=850):UD (cj (oD (uf fun x y=>.bl (Txt.startswith x y)) (ae 0) (ac (vC (.str "-")) aj))) (qe jP (ae 0) (bR (vC (.int 1))) eN) (ae 0) [some (.str (au L)),none]=.ok (.str (au (fg L))):=by
 walk_at "ew";unfold uf;simp only;rw [l45,xC,ax];unfold fg;by_cases h:L[0]?=some 45
 ·rw [decide_eq_true h,if_pos h];cases L with
  | nil=>simp at h
  | cons a r =>
   walk_at "ew";exact Hk r a (by simp at hl;omega)
 ·rw [decide_eq_false h,if_neg h];walk_at "ew"
def Jc (L:List Nat) (h:Dv L=true):qa [.str (au L)]=.ok (.int (ny L)):=by
 unfold Dv at h;simp only [Bool.and_eq_true,Bool.not_eq_true',Bool.or_eq_false_iff,decide_eq_false_iff_not,Bool.not_eq_false',List.all_eq_true,decide_eq_true_eq] at h;obtain ⟨⟨h1,h2⟩,h3,h4⟩:=h;have hd:∀ c∈fg L,48<=c/\c<=57:=fun c hc=>by have:=h2 c hc;unfold vO at this;exact of_decide_eq_true this
 have hl:L.length<=19:=by
  unfold fg at h4;split at h4
  ·simp at h4;omega
  ·omega
 have e:intText? (au L)=some (ny L):=by
  unfold ny;by_cases h0:L[0]?=some 45
  ·rw [if_pos h0];have ef:fg L=L.drop 1:=by unfold fg;rw [if_pos h0]
   refine intText_neg (cs:=fg L) ?_ hd h1 (by rw [a9];omega);rw [ax,ef];cases L with
   | nil=>simp at h0
   | cons a r=>simp at h0;simp [h0]
  ·rw [if_neg h0];have ef:fg L=L:=by unfold fg;rw [if_neg h0]
   rw [ef] at hd h1 ⊢
   have:=intText_digits (x:=au L) (by rw [ax];exact hd) (by rw [ax];exact h1) (by rw [a9];omega)
   rw [ax] at this;exact this
 unfold qa;simp only;rw [e];simp only;rw [a9,if_pos (by omega)]
def zT (L:List Nat) (hL:Ln L):ir [.str (au L)]=if Dv L then .ok (.int (ny L)) else .er "BadValue":=by
 have hl:=hL.1;have hf:=LN L;rw [vJ,ij,aG,wN,Vm L hl,ah,Cl,ah,aA];show fin (aF _ _ [some (.str (au L)),some (.str (au (fg L)))])=_;have e1:vp (bP (ao cq (ae 1) (vC (.str "")))) (eI (cj (ak qj (ac (dm [none] (iR (ae 1)) (.one 0) dX (ao vo (ae 0) (vC eh))) aj)))) [some (.str (au L)),some (.str (au (fg L)))]=.ok (decide (fg L=[])||!(fg L).all vO):=by
  have ea:ao cq (ae 1) (vC (.str "")) [some (.str (au L)),some (.str (au (fg L)))]=.ok (.bl (decide (fg L=[]))):=by
   simp only [jd,v_var,sK,v_c,g7,ah,List.getElem?_cons_zero,List.getElem?_cons_succ,Gq];rw [l0];congr 2;exact decide_eq_decide.mpr mk_inj
  rw [Da,sO,ea,ah,tY,ah,wo];cases decide (fg L=[]) with
  | true=>rfl
  | false =>
   rw [if_neg Bool.false_ne_true,Ew,Fw,wR _ (by omega) _];rfl
 unfold Dv;rw [aG,eX,e1,ah,eG];cases hb1:(decide (fg L=[])||!(fg L).all vO) with
 | true =>
  rw [if_pos rfl,jS _ (by decide +kernel) _ hL _ rfl];rfl
 | false =>
  rw [if_neg Bool.false_ne_true,bV,ah,aA];have e2:qN (cj (oD (uf fun x y=>.bl (Txt.startswith x y)) (ae 1) (ac (vC (.str "0")) aj))) (bP (ao wW (ae 0) (vC (.str "0")))) [some (.str (au L)),some (.str (au (fg L)))]=.ok (decide ((fg L)[0]?=some 48)&&decide (L≠[48])):=by
   walk_at "ew";unfold uf;simp only;rw [W7,xC,ax];cases decide ((fg L)[0]?=some 48) with
   | false=>rfl
   | true =>
    walk_at "ew";rw [Bool.true_and];congr 1;by_cases h:L=[48]
    ·rw [h];simp
    ·simp [h,mk_inj]
  rw [aG,eX,e2,ah,eG];cases hb2:(decide ((fg L)[0]?=some 48)&&decide (L≠[48])) with
  | true =>
   rw [if_pos rfl,jS _ (by decide +kernel) _ hL _ rfl];rfl
  | false =>
   rw [if_neg Bool.false_ne_true,bV,ah,aA];have e3:bP (ao vn (ak bO (ac (ae 1) aj)) (vC cx)) [some (.str (au L)),some (.str (au (fg L)))]=.ok (!decide ((fg L).length<=18)):=by
    unfold cx;walk_at "ew";rw [pV,a9,if_pos (by omega)];walk_at "ew";congr 1;by_cases h:(fg L).length<=18
    ·rw [decide_eq_true h,decide_eq_false (by omega)];rfl
    ·rw [decide_eq_false h,decide_eq_true (by omega)];rfl
   rw [aG,eX,e3,ah,eG];cases hb3:decide ((fg L).length<=18) with
   | false =>
    rw [Bool.not_false,if_pos rfl,jS _ (by decide +kernel) _ hL _ rfl];rfl
   | true =>
    have hok:Dv L=true:=by unfold Dv;rw [hb1,hb2,hb3];rfl
    rw [Bool.not_true,if_neg Bool.false_ne_true,bV,ah,aA];walk_at "ew";rw [Jc L hok];rfl
def p8 (L:List Nat):List Nat:=(L.drop 1).dropLast
def z6 (L:List Nat):Option D :=
 if L=[110,111,110,101] then some .non
 else if L[0]?=some 34 then (if L=34::(p8 L++[34])/\Hj (p8 L)=true then some (.str (au (rq [34] (p8 L)))) else none)
 else if Dv L=true then some (.int (ny L)) else none
def Gd (X:List Nat):p8 (34::(X++[34]))=X:=by unfold p8;simp
def Sc:Option D->R D
 | some d=>.ok d
 | none=>.er "BadValue"
def AK (L:List Nat) (hL:Ln L):bL [.str (au L)]=Sc (z6 L):=by
 have hl:=hL.1;rw [yg,jo];unfold z6;walk_at "ew";rw [JQ];by_cases h1:L=[110,111,110,101]
 ·rw [if_pos (by rw [h1]),if_pos h1];rfl
 ·rw [if_neg (fun z=>h1 (mk_inj.mp z)),if_neg h1];walk_at "ew";unfold uf;simp only;rw [Nu,xC,ax];by_cases h2:L[0]?=some 34
  ·rw [decide_eq_true h2,if_pos h2];walk_at "ew";by_cases h3:L=34::(p8 L++[34])
   ·have hX:Ln (p8 L):=hL.sub (by unfold p8;simp;omega) (fun c hc=>by
     unfold p8 at hc;exact List.mem_of_mem_drop ((List.dropLast_sublist _).subset hc))
    have e:gx [.str (au L)]=if Hj (p8 L) then .ok (.str (au (rq [34] (p8 L)))) else .er "BadValue":=by
     have:=yy (p8 L) hX (by
      have q:=congrArg List.length h3;simp at q;omega)
     rw [<- h3] at this;exact this
    rw [e];cases ht:Hj (p8 L) with
    | true=>rw [if_pos rfl,if_pos ⟨h3,rfl⟩];rfl
    | false=>rw [if_neg Bool.false_ne_true,if_neg (fun z=>Bool.false_ne_true z.2)];rfl
   ·rw [xJ L hL h2 (fun X e=>h3 (by rw [e,Gd];)),if_neg (fun z=>h3 z.1)];rfl
  ·rw [decide_eq_false h2,if_neg h2];walk_at "ew";rw [zT L hL];cases Dv L with
   | true=>rfl
   | false=>rfl
abbrev pB:FS:=(aF (cp (bP (ao cq (ae 5) (vC (.str "\"")))) (aJ 3 (AS (ae 3))) aI) (cp (qN (bP (ao cq (ae 5) (vC (.str " ")))) (eI (cj (ae 3)))) (aF (cT 1 (qe jP (ae 0) (bR (ae 2)) (bR (ae 4)))) (aJ 2 (ao aC (ae 4) (vC (.int 1))))) aI))
def HB (W:List Nat) (a b:Nat) (hab:a<=b) (hb:b<=W.length) (hW:W.length<=100000):jP (.str (au W)) (some (a:Int)) (some (b:Int))=.ok (.str (au ((W.drop a).take (b - a)))):=by
 unfold jP;simp only;rw [a9,if_pos (by omega)];congr 2;unfold bW;refine mk_eq ?_;rw [ax,a9];have e1:HT.sIx W.length 0 (some (a:Int))=a:=by rw [HT.mm];omega
 have e2:HT.sIx W.length W.length (some (b:Int))=b:=by rw [HT.mm];omega
 rw [e1,e2]
def Cy (W:List Nat) (a:Nat) (ha:a<=W.length) (hW:W.length<=100000):jP (.str (au W)) (some (a:Int)) none=.ok (.str (au (W.drop a))):=by
 unfold jP;simp only;rw [a9,if_pos (by omega)];congr 2;unfold bW;refine mk_eq ?_;rw [ax,a9];have e1:HT.sIx W.length 0 (some (a:Int))=a:=by rw [HT.mm];omega
 have e2:HT.sIx W.length W.length none=W.length:=rfl;rw [e1,e2,List.take_of_length_le (by simp)]
def take_snoc (W:List Nat) (a i:Nat) (c:Nat) (r:List Nat) (hai:a<=i) (hd:W.drop i=c::r):(W.drop a).take (i+1 - a)=(W.drop a).take (i - a)++[c]:=by
 have hi:i < W.length:=by
  rcases Nat.lt_or_ge i W.length with z|z
  ·exact z
  ·rw [List.drop_eq_nil_iff.mpr z] at hd;cases hd
 have hc:W[i]=c:=by
  rw [List.drop_eq_getElem_cons hi] at hd;injection hd
 rw [show i+1 - a=(i - a)+1 by omega,List.take_succ_eq_append_getElem (by rw [List.length_drop];omega)];congr 2;rw [List.getElem_drop,<- hc];congr 1;omega
def pj (W:List Nat) (hW:W.length<=100000):∀ (r:List Nat) (i a:Nat) (b:Bool) (ps:List D) (o4 o5:Option D),W.drop i=r->a<=i->i<=W.length->ps.length<=i ->
  ∃ (ps':List D) (a':Nat) (b':Bool) (o4' o5':Option D),a'<=W.length/\ps'.length<=W.length/\iX (.tup [4,5]) pB (cK i (r.map fun c=>D.str ⟨#[c]⟩)) [some (.str (au W)),some (.lst ps),some (.int (a:Int)),some (.bl b),o4,o5]=.ok (.nx [some (.str (au W)),some (.lst ps'),some (.int (a':Int)),some (.bl b'),o4',o5']) /\
   ps'++[D.str (au (W.drop a'))]=ps++(cQ ((W.drop a).take (i - a)) b r).map fun w=>D.str (au w)
 | [],i,a,b,ps,o4,o5,hd,hai,hi,hp=>by
  refine ⟨ps,a,b,o4,o5,by omega,by omega,rfl,?_⟩;have hi':W.length<=i:=List.drop_eq_nil_iff.mp hd;rw [cQ,List.take_of_length_le (by rw [List.length_drop];omega)];rfl
 | c::r,i,a,b,ps,o4,o5,hd,hai,hi,hp=>by
  have hil:i < W.length:=by
   rcases Nat.lt_or_ge i W.length with z|z
   ·exact z
   ·rw [List.drop_eq_nil_iff.mpr z] at hd;cases hd
  have hd':W.drop (i+1)=r:=by
   rw [List.drop_eq_getElem_cons hil] at hd;injection hd
  rw [List.map_cons];show ∃ (ps':List D) (a':Nat) (b':Bool) (o4' o5':Option D),a'<=W.length/\ps'.length<=W.length/\iX (.tup [4,5]) pB (D.tup [.int (i:Int),.str ⟨#[c]⟩]::cK (i+1) (r.map fun c=>D.str ⟨#[c]⟩)) _=_/\_;rw [i4,wF,ah,Gk];show ∃ (ps':List D) (a':Nat) (b':Bool) (o4' o5':Option D),a'<=W.length/\ps'.length<=W.length/\((pB [some (.str (au W)),some (.lst ps),some (.int (a:Int)),some (.bl b),some (.int (i:Int)),some (.str (au [c]))]).bind _)=_/\_;have e1:cp (bP (ao cq (ae 5) (vC (.str "\"")))) (aJ 3 (AS (ae 3))) aI [some (.str (au W)),some (.lst ps),some (.int (a:Int)),some (.bl b),some (.int (i:Int)),some (.str (au [c]))]=.ok (.nx [some (.str (au W)),some (.lst ps),some (.int (a:Int)),some (.bl (if c=34 then !b else b)),some (.int (i:Int)),some (.str (au [c]))]):=by
   walk_at "ev";rw [Nu];by_cases hc:c=34
   ·rw [if_pos (by rw [hc]),if_pos hc];walk_at "ev"
   ·rw [if_neg (fun z=>hc (by have:=mk_inj.mp z;simpa using this)),if_neg hc];walk_at "ev"
  rw [cQ];generalize hb':(if c=34 then !b else b)=b' at e1;unfold pB;rw [aG,e1,ah,aA];by_cases hq:c=32/\b'=false
  ·rw [if_pos hq];have e2:cp (qN (bP (ao cq (ae 5) (vC (.str " ")))) (eI (cj (ae 3)))) (aF (cT 1 (qe jP (ae 0) (bR (ae 2)) (bR (ae 4)))) (aJ 2 (ao aC (ae 4) (vC (.int 1))))) aI [some (.str (au W)),some (.lst ps),some (.int (a:Int)),some (.bl b'),some (.int (i:Int)),some (.str (au [c]))]=.ok (.nx [some (.str (au W)),some (.lst (ps++[D.str (au ((W.drop a).take (i - a)))])),some (.int ((i+1:Nat):Int)),some (.bl b'),some (.int (i:Int)),some (.str (au [c]))]):=by
    obtain ⟨h1,h2⟩:=hq;subst h1 h2;walk_at "ev";rw [Ep,if_pos rfl];walk_at "ew";rw [HB W a i hai hi hW];walk_at "ew";rw [if_pos (by omega)];walk_at "ev";rfl
   rw [e2,ah,jm];obtain ⟨ps',a',b'',o4',o5',q1,q2,q3,q4⟩:=pj W hW r (i+1) (i+1) b' (ps++[D.str (au ((W.drop a).take (i - a)))]) (some (.int (i:Int))) (some (.str (au [c]))) hd' (Nat.le_refl _) hil (by simp;omega);refine ⟨ps',a',b'',o4',o5',q1,q2,q3,?_⟩;rw [q4,Nat.sub_self,List.take_zero];simp
  ·rw [if_neg hq];have e2:cp (qN (bP (ao cq (ae 5) (vC (.str " ")))) (eI (cj (ae 3)))) (aF (cT 1 (qe jP (ae 0) (bR (ae 2)) (bR (ae 4)))) (aJ 2 (ao aC (ae 4) (vC (.int 1))))) aI [some (.str (au W)),some (.lst ps),some (.int (a:Int)),some (.bl b'),some (.int (i:Int)),some (.str (au [c]))]=.ok (.nx [some (.str (au W)),some (.lst ps),some (.int (a:Int)),some (.bl b'),some (.int (i:Int)),some (.str (au [c]))]):=by
    walk_at "ev";rw [Ep];by_cases hc:c=32
    ·have hb:b'=true:=by
      cases b' with
      | true=>rfl
      | false=>exact absurd ⟨hc,rfl⟩ hq
     subst hc hb;rw [if_pos rfl];walk_at "ev"
    ·rw [if_neg (fun z=>hc (by have:=mk_inj.mp z;simpa using this))];walk_at "ev"
   rw [e2,ah,jm];obtain ⟨ps',a',b'',o4',o5',q1,q2,q3,q4⟩:=pj W hW r (i+1) a b' ps (some (.int (i:Int))) (some (.str (au [c]))) hd' (by omega) hil (by omega);refine ⟨ps',a',b'',o4',o5',q1,q2,q3,?_⟩;rw [q4,take_snoc W a i c r hai hd]
def DK (W:List Nat) (hW:W.length<=100000):gz [.str (au W)]=.ok (.lst ((cQ [] false W).map fun w=>D.str (au w))):=by
 obtain ⟨ps',a',b',o4',o5',h1,h2,h3,h4⟩:=pj W hW W 0 0 false [] none none rfl (Nat.le_refl _) (Nat.zero_le _) (Nat.zero_le _);rw [List.nil_append,Nat.sub_self,List.take_zero] at h4;rw [Al,kF];have ei:lX (ac (ae 0) aj) [some (.str (au W)),some (.lst []),some (.int 0),some (.bl false),none,none]=.ok (cK 0 (W.map fun c=>D.str ⟨#[c]⟩)):=by
  walk_at "ev";have e0:lf (.str (au W))=.ok (W.map fun c=>D.str ⟨#[c]⟩):=by
   rw [Co];show R.ok ((au W).cps.toList.map fun c=>D.str ⟨#[c]⟩)=_;rw [ax]
  exact MT e0
 have E1:vD 1 (dj aj) [some (.str (au W)),none,none,none,none,none]=.ok (.nx [some (.str (au W)),some (.lst []),none,none,none,none]):=by walk_at "ew"
 have E2:aJ 2 (vC (.int 0)) [some (.str (au W)),some (.lst []),none,none,none,none]=.ok (.nx [some (.str (au W)),some (.lst []),some (.int 0),none,none,none]):=by walk_at "ew"
 have E3:aJ 3 (vC (.bl false)) [some (.str (au W)),some (.lst []),some (.int 0),none,none,none]=.ok (.nx [some (.str (au W)),some (.lst []),some (.int 0),some (.bl false),none,none]):=by walk_at "ew"
 rw [aG,E1,ah,aA,aG,E2,ah,aA,aG,E3,ah,aA,aG,wY,ei,ah,wk];have h3':iX (.tup [4,5]) pB (cK 0 (W.map fun c=>D.str ⟨#[c]⟩)) [some (.str (au W)),some (.lst []),some (.int 0),some (.bl false),none,none]=.ok (.nx [some (.str (au W)),some (.lst ps'),some (.int (a':Int)),some (.bl b'),o4',o5']):=h3;rw [h3',ah,aA];have E4:cT 1 (qe jP (ae 0) (bR (ae 2)) eN) [some (.str (au W)),some (.lst ps'),some (.int (a':Int)),some (.bl b'),o4',o5']=.ok (.nx [some (.str (au W)),some (.lst (ps'++[D.str (au (W.drop a'))])),some (.int (a':Int)),some (.bl b'),o4',o5']):=by
  walk_at "ew";rw [Cy W a' h1 hW];walk_at "ew";rw [if_pos (by omega)]
 rw [aG,E4,ah,aA,h4];walk_at "ew"
def xM:∀ (l cur:List Nat) (b:Bool),∀ p∈cQ cur b l,(∀ c∈p,c∈cur\/c∈l)/\p.length<=cur.length+l.length
 | [],cur,b,p,hp=>by
  simp [cQ] at hp;subst hp;exact ⟨fun c hc=>.inl hc,by simp⟩
 | c::r,cur,b,p,hp=>by
  rw [cQ] at hp;by_cases q:c=32/\(if c=34 then !b else b)=false
  ·rw [if_pos q] at hp;rcases List.mem_cons.mp hp with rfl|hp
   ·exact ⟨fun c hc=>.inl hc,by omega⟩
   ·obtain ⟨h1,h2⟩:=xM r [] _ p hp;refine ⟨fun d hd=>.inr ?_,by simp at h2 ⊢;omega⟩;rcases h1 d hd with z|z
    ·cases z
    ·exact List.mem_cons_of_mem _ z
  ·rw [if_neg q] at hp;obtain ⟨h1,h2⟩:=xM r (cur++[c]) _ p hp;refine ⟨fun d hd=>?_,by simp at h2 ⊢;omega⟩;rcases h1 d hd with z|z
   ·rcases List.mem_append.mp z with z|z
    ·exact .inl z
    ·exact .inr (by rw [List.mem_singleton.mp z];simp)
   ·exact .inr (List.mem_cons_of_mem _ z)
def ES {L:List Nat} (hL:Ln L):∀ p∈cQ [] false L,Ln p:=fun p hp=>by
 obtain ⟨h1,h2⟩:=xM L [] false p hp;refine hL.sub (by simpa using h2) fun c hc=>?_;rcases h1 c hc with z|z
 ·cases z
 ·exact z
def tF:∀ (l cur:List Nat) (b:Bool),(cQ cur b l).length<=l.length+1
 | [],_,_=>by simp [cQ]
 | c::r,cur,b=>by
  rw [cQ];by_cases q:c=32/\(if c=34 then !b else b)=false
  ·rw [if_pos q];have:=tF r [] (if c=34 then !b else b);simp;omega
  ·rw [if_neg q];have:=tF r (cur++[c]) (if c=34 then !b else b);simp;omega
def ce:List (List Nat)->Option (List D)
 | []=>some []
 | w::r=>match z6 w with
  | some d=>(match ce r with
   | some ds=>some (d::ds)
   | none=>none)
  | none=>none
def J6:Option (List D)->R D
 | some ds=>.ok (.lst ds)
 | none=>.er "BadValue"
def wy:∀ (ws:List (List Nat)),(∀ w∈ws,Ln w)->dq (.one 0) dX (ak bL (ac (ae 0) aj)) [none] (ws.map fun w=>D.str (au w))=(match ce ws with|some ds=>.ok ds|none=>.er "BadValue")
 | [],_=>rfl
 | w::r,h=>by
  have ih:=wy r fun x hx=>h x (List.mem_cons_of_mem _ hx);have e:ak bL (ac (ae 0) aj) [some (D.str (au w))]=Sc (z6 w):=by
   show (R.ok [D.str (au w)]).bind bL=_;rw [ah];exact AK w (h w (by simp))
  rw [List.map_cons];show (ak bL (ac (ae 0) aj) [some (D.str (au w))]).bind _=_;rw [e];unfold ce;cases z6 w with
  | none=>rfl
  | some d =>
   show (dq _ _ _ _ _).bind _=_;rw [ih];cases ce r with
   | none=>rfl
   | some ds=>rfl
def zN (L:List Nat) (hL:Ln L):fR [.str (au L)]=if L=[] then .ok (.lst []) else J6 (ce (cQ [] false L)):=by
 have hl:=hL.1;rw [vx,ic];walk_at "ew";rw [l0];by_cases h:L=[]
 ·rw [if_pos (by rw [h]),if_pos h];walk_at "ew"
 ·rw [if_neg (fun z=>h (mk_inj.mp z)),if_neg h];walk_at "ew";have e:ui [none] (iR (ak (aV gz) (ac (ae 0) aj))) (.one 0) dX (ak bL (ac (ae 0) aj)) [some (.str (au L))]=J6 (ce (cQ [] false L)):=by
   unfold ui;have ei:iR (ak (aV gz) (ac (ae 0) aj)) [some (.str (au L))]=.ok ((cQ [] false L).map fun w=>D.str (au w)):=by
    walk_at "ew";rw [bB (DK L (by omega))];rfl
   rw [ei,ah];unfold oq;rw [if_pos ⟨rfl,by rw [List.length_map];have:=tF L [] false;omega⟩];show (dq (.one 0) dX (ak bL (ac (ae 0) aj)) [none] ((cQ [] false L).map fun w=>D.str (au w))).bind _=_;rw [wy _ (ES hL)];cases ce (cQ [] false L) with
   | none=>rfl
   | some ds=>rfl
  rw [e];cases ce (cQ [] false L) with
  | none=>rfl
  | some ds=>rfl
def low (c:Nat):Bool:=decide (97<=c)&&decide (c<=122)
def D0 (c:Nat):gv [.str ⟨#[c]⟩]=.ok (.bl (low c)):=by
 rw [z5,ku];walk_at "ev";have e1:(Str.ofString "a").cps.toList=[97]:=by decide +kernel
 have e2:(Str.ofString "z").cps.toList=[122]:=by decide +kernel
 rw [e1,e2];simp only [E9];unfold low;by_cases h:c < 97
 ·have h1:¬ 97<=c:=by omega
  simp [h,h1,ah,qp,kQ]
 ·have h1:97<=c:=by omega
  by_cases h2:122 < c
  ·have h3:¬ c<=122:=by omega
   simp [h,h1,h2,h3,ah,qp,kQ]
  ·have h3:c<=122:=by omega
   simp [h,h1,h2,h3,ah,qp,kQ]
def Hl:List V:=[.str "and",.str "by",.str "down",.str "from",.str "none",.str "not",.str "or",.str "order",.str "show",.str "take",.str "where"]
def vY (z:Str):Bool:=FL (.str z) Hl
def FU (z:Str):BL (.str z) pb=.ok (.bl (!vY z)):=rfl
def ng (z:Str):Bool:=!decide (z="")&&(decide (z.length<=8)&&(z.cps.toList.all low&&!vY z))
def wx:D->Bool
 | .str z=>ng z
 | _=>false
def GO:D->Prop
 | .str z=>z.length<=1000
 | .ty _=>False
 | .obj _ _=>False
 | .exn _=>False
 | .cls _=>False
 | _=>True
def x8 (d:D) (ok:GO d):ck [d]=.ok (.bl (wx d)):=by
 rw [Dk,n5];cases d with
 | str z =>
  have hz:z.length<=1000000:=Nat.le_trans ok (by decide);unfold jU;walk_at "ev";show _=R.ok (D.bl (ng z));unfold ng;by_cases h0:z=Str.ofString ""
  ·rw [if_pos h0];simp [h0,ah,eG,kB,v_c,qp,Az,kQ]
  ·rw [if_neg h0,if_pos hz];walk_at "ev";by_cases h:(8:Int) < (z.length:Int)
   ·have h':¬ z.length<=8:=by omega
    rw [if_pos h];simp [h0,h',ah,Az,kQ]
   ·have h':z.length<=8:=by omega
    rw [if_neg h];walk_at "ev";have e:cA (.one 0) dX (ak gv (ac (ae 0) aj)) (cf [none] [some (D.str z)]) (pe z)=.ok (.lst (z.cps.toList.map fun c=>D.bl (low c))):=by
     refine gr _ _ rfl (by rw [<- str_len];exact hz) fun c hc=>?_;show ak gv (ac (ae 0) aj) [some (D.str ⟨#[c]⟩)]=_;walk_at "ev";exact D0 c
    rw [e];walk_at "ev";rw [B6 (p4 _ _)];walk_at "ev";rw [FU];simp only [List.all_map,Function.comp_def,id];cases h1:z.cps.toList.all low <;> simp [h0,h',ah,qp,kQ]
 | ty _=>exact ok.elim
 | obj _ _=>exact ok.elim
 | exn _=>exact ok.elim
 | cls _=>exact ok.elim
 | _=>walk_at "ev";rfl
def bD (a b:Str):(a++b).length=a.length+b.length:=by
 rw [str_len,str_len,str_len,bI,List.length_append]
def uX {z:Str} {lo hi:Option Int} {c:Nat} (h:c∈(bW z lo hi).cps.toList):c∈z.cps.toList:=by
 unfold bW at h;exact List.mem_of_mem_drop (List.mem_of_mem_take (by simpa using h))
def uN (z:Str) (n:Nat) (h:n<=z.length):(bW z none (some (n:Int))).length=n:=by
 show (bW z none (some (n:Int))).cps.size=n;unfold bW;rw [HT.zh,HT.mm,Nat.min_eq_left h]
 have:z.length=z.cps.size:=rfl
 simp;omega
def yc (z:Str) (n:Nat) (h:n<=z.length):(bW z (some (n:Int)) none).length=z.length - n:=by
 show (bW z (some (n:Int)) none).cps.size=_;unfold bW;rw [HT.zh,HT.mm,Nat.min_eq_left h]
 have:z.length=z.cps.size:=rfl
 simp;omega
def abc:List Nat:=(Str.ofString "abcdefghijklmnopqrstuvwxyz").cps.toList
def IT:abc.length=26:=by decide +kernel
def HU:∀ c∈abc,low c=true:=by decide +kernel
def sk (i:Int):Nat:=abc.getD (i % 26).toNat 0
def AH (i:Int):atI (Str.ofString "abcdefghijklmnopqrstuvwxyz").cps.toList (i % 26)=some (sk i)/\low (sk i)=true:=by
 have h0:0<=i % 26:=Int.emod_nonneg _ (by decide);have h1:i % 26 < 26:=Int.emod_lt_of_pos _ (by decide);have hk:(i % 26).toNat < abc.length:=by rw [IT];omega
 have ek:i % 26=(((i % 26).toNat:Nat):Int):=by omega
 have h:=bt (xs:=abc) (j:=(i % 26).toNat) (List.getElem?_eq_getElem hk);rw [<- ek] at h;unfold sk;rw [List.getD_eq_getElem?_getD,List.getElem?_eq_getElem hk];exact ⟨h,HU _ (List.getElem_mem hk)⟩
structure Nm (z:Str):Prop where
 l0:1<=z.length
 l1:z.length<=8
 lw:z.cps.toList.all low=true
def EF (i:Int):aU (.str "abcdefghijklmnopqrstuvwxyz") (.int (i % 26))=.ok (.str ⟨#[sk i]⟩):=Jq (by decide +kernel) (AH i).1
def Nm.name {z:Str} (h:Nm z) (hr:vY z=false):ng z=true:=by
 have h0:z≠Str.ofString "":=fun e=>by
  have:=h.l0
  rw [e] at this;exact absurd this (by decide +kernel)
 simp [ng,h0,h.l1,h.lw,hr]
def NB:List V:=[.str "number",.str "text"]
def sF:D->Bool
 | .str k=>FL (.str k) NB
 | _=>false
def uV (d:D) (ok:GO d):cX [d]=.ok (.bl (sF d)):=by
 rw [rV,fm];cases d with
 | str z=>walk_at "ev";rfl
 | ty _=>exact ok.elim
 | obj _ _=>exact ok.elim
 | exn _=>exact ok.elim
 | cls _=>exact ok.elim
 | _=>walk_at "ev";rfl
def GH (ds:List D):hV [.tup ds]=.ok (.bl (decide (ds.length=2))):=by
 rw [wK,lJ];walk_at "ev";congr 2;refine decide_eq_decide.mpr ?_;omega
def HZ (d:D) (ok:GO d) (h:∀ ds,d≠.tup ds):hV [d]=.ok (.bl false):=by
 rw [wK,lJ];cases d with
 | tup ds=>exact absurd rfl (h ds)
 | ty _=>exact ok.elim
 | obj _ _=>exact ok.elim
 | exn _=>exact ok.elim
 | cls _=>exact ok.elim
 | _=>walk_at "ev"
def colB:D->Bool
 | .tup [a,b]=>wx a&&sF b
 | _=>false
def OB:D->Prop
 | .tup [a,b]=>GO a/\GO b
 | d=>GO d
def Ed (d:D) (ok:OB d):dt [d]=.ok (.bl (colB d)):=by
 rw [yK,kH];have no:∀ d,GO d->(∀ ds,d≠.tup ds)->fin ((hV [d]).bind (Nj (ji (ak ck (ac (ao aU (ae 0) (vC (.int 0))) aj)) (ak cX (ac (ao aU (ae 0) (vC (.int 1))) aj))) [some d]) |>.bind Me)=.ok (.bl false):=by
  intro d h1 h2;rw [HZ d h1 h2];rfl
 cases d with
 | tup ds =>
  walk_at "ev";rw [GH]
  match ds,ok with
  | [],_=>rfl
  | [_],_=>rfl
  | [a,b],ok =>
   obtain ⟨oa,ob⟩:GO a/\GO b:=ok;walk_at "ev";rw [x8 a oa];walk_at "ev";rw [uV b ob];walk_at "ev";show _=R.ok (D.bl (wx a&&sF b));cases wx a <;> rfl
  | a::b::c::r,_ =>
   have:¬ (a::b::c::r).length=2:=by simp
   simp only [this,decide_false];rfl
 | ty n=>exact (show False from ok).elim
 | obj C fs=>exact (show False from ok).elim
 | exn _=>exact (show False from ok).elim
 | cls _=>exact (show False from ok).elim
 | str z=>exact no (.str z) ok (fun ds e=>by cases e)
 | non=>exact no .non ok (fun ds e=>by cases e)
 | int i=>exact no (.int i) ok (fun ds e=>by cases e)
 | bl b=>exact no (.bl b) ok (fun ds e=>by cases e)
 | lst xs=>exact no (.lst xs) ok (fun ds e=>by cases e)
 | dct xs=>exact no (.dct xs) ok (fun ds e=>by cases e)
def x9 (ds:List D) (h:ds.length < 1\/8 < ds.length):bx [.tup ds]=.ok (.bl false):=by
 rw [oN,fN];unfold gR;walk_at "ev";by_cases h1:(ds.length:Int) < 1
 ·rw [if_pos h1];rfl
 ·rw [if_neg h1,decide_eq_true (show (8:Int) < (ds.length:Int) by omega)];rfl
def D4 (ds:List D) (hl:ds.length<=1000) (h:∀ d∈ds,OB d):cA (.one 0) dX (ak dt (ac (ae 0) aj)) (cf [none] [some (D.tup ds),none]) ds=.ok (.lst (ds.map fun d=>D.bl (colB d))):=by
 have:=gr (k:=0) (ε:=ak dt (ac (ae 0) aj)) (δ0:=cf [none] [some (D.tup ds),none]) (as:=ds) id (fun d=>D.bl (colB d)) rfl (by omega) fun d hd=>by
  show ak dt (ac (ae 0) aj) [some d]=_;walk_at "ev";exact Ed d (h d hd)
 rwa [List.map_id] at this
def BU (ds:List D) (hl:1<=ds.length/\ds.length<=8) (h:∀ d∈ds,OB d):bx [.tup ds]=if (ds.all colB)=true then fin (aF (aJ 1 (dm [none] (iR (ae 0)) (.one 0) dX (ao aU (ae 0) (vC (.int 0))))) (aW (ao cq (ak oj (ac (ae 1) aj)) (ak bO (ac (ae 1) aj)))) [some (.tup ds),none]) else .ok (.bl false):=by
 rw [oN,fN];unfold gR;rw [aG,eX];have e1:vp (eI (cj (ak jr (ac (ae 0) (ac (vC (.ty "tuple")) aj))))) (vp (bP (ao D6 (ak bO (ac (ae 0) aj)) (vC (.int 1)))) (bP (ao vn (ak bO (ac (ae 0) aj)) (vC (.int 8))))) [some (D.tup ds),none]=.ok false:=by
  walk_at "ev";rw [if_neg (by omega)];simp;omega
 rw [e1,ah,eG,if_neg (by decide),bV,ah,aA,aG,eX];have e2:eI (cj (ak qj (ac (dm [none] (iR (ae 0)) (.one 0) dX (ak dt (ac (ae 0) aj))) aj))) [some (D.tup ds),none]=.ok (!ds.all colB):=by
  walk_at "ev";rw [D4 ds (by omega) h];walk_at "ev";rw [B6 (p4 _ _)];walk_at "ev";simp [List.all_map,Function.comp_def]
 rw [e2];cases ds.all colB <;> rfl
def G9 (ds:List D) (hl:ds.length<=1000) (h:∀ d∈ds,OB d) (hb:∃ d∈ds,colB d=false):bx [.tup ds]=.ok (.bl false):=by
 by_cases hlen:ds.length < 1\/8 < ds.length
 ·exact x9 ds hlen
 ·rw [BU ds (by omega) h]
  have:ds.all colB=false:=by
   rw [List.all_eq_false];obtain ⟨d,h1,h2⟩:=hb;exact ⟨d,h1,by rw [h2];decide⟩
  rw [this,if_neg (by decide)]
def ci (c:Str×Str):D:=.tup [.str c.1,.str c.2]
structure Col (c:Str×Str):Prop where
 nm:Nm c.1
 nr:vY c.1=false
 kd:c.2="number"\/c.2="text"
def Col.okc {c:Str×Str} (h:Col c):OB (ci c):=by
 refine ⟨Nat.le_trans h.nm.l1 (by decide),?_⟩;show c.2.length<=1000;rcases h.kd with e|e <;> rw [e] <;> decide +kernel
def B2 {k:Str} (h:k="number"\/k="text"):sF (.str k)=true:=by
 rcases h with e|e <;> rw [e] <;> decide +kernel
def Col.colB {c:Str×Str} (h:Col c):colB (ci c)=true:=by
 show (ng c.1&&sF (.str c.2))=true;rw [h.nm.name h.nr,B2 h.kd];rfl
def Ac (cs:List (Str×Str)) (hl:1<=cs.length/\cs.length<=8) (h:∀ c∈cs,Col c):bx [.tup (cs.map ci)]=.ok (.bl (decide ((dQ (cs.map (·.1))).length=cs.length))):=by
 rw [BU _ (by simpa using hl) (fun d hd=>by obtain ⟨c,hc,rfl⟩:=List.mem_map.mp hd;exact (h c hc).okc)]
 have:(cs.map ci).all T51.colB=true:=by
  rw [List.all_eq_true];intro d hd;obtain ⟨c,hc,rfl⟩:=List.mem_map.mp hd;exact (h c hc).colB
 rw [if_pos this];walk_at "ev";have e:cA (.one 0) dX (ao aU (ae 0) (vC (.int 0))) (cf [none] [some (D.tup (cs.map ci)),none]) (cs.map ci)=.ok (.lst (cs.map fun c=>D.str c.1)):=by
  refine gr ci _ rfl (by omega) fun c hc=>?_;show ao aU (ae 0) (vC (.int 0)) [some (.tup [.str c.1,.str c.2])]=_;walk_at "ev"
 rw [e];walk_at "ev";have es:mH (cs.map fun c=>D.str c.1)=some (cs.map (·.1)):=strs_map _ _;have el:oj [.lst (cs.map fun c=>D.str c.1)]=.ok (.int ((dQ (cs.map (·.1))).length:Nat)):=by
  unfold oj;simp only [es];rw [if_pos (by simp;omega)]
 rw [el];walk_at "ev";rw [List.length_map];congr 2;refine decide_eq_decide.mpr ?_;omega
def wM {ks:List Str}:∀ n,n<=ks.length->((dQ (ks.take n)).length=n ↔ (ks.take n).Nodup)
 | 0,_=>by simp [dQ]
 | n+1,hn=>by
  have ih:=wM (ks:=ks) n (by omega);have hle:(dQ (ks.take n)).length<=n:=by have:=CN (ks.take n);rw [List.length_take] at this;omega
  rw [List.take_succ_eq_append_getElem (by omega),n6,List.nodup_append];by_cases hk:ks[n]∈dQ (ks.take n)
  ·rw [if_pos hk];have hk':=(Am _ _).mp hk;constructor
   ·intro e;omega
   ·rintro ⟨_,_,h3⟩;exact absurd rfl (h3 _ hk' _ List.mem_cons_self)
  ·rw [if_neg hk,List.length_append,List.length_singleton];have hk':ks[n]∉ks.take n:=fun z=>hk ((Am _ _).mpr z);constructor
   ·intro e;refine ⟨ih.mp (by omega),by simp,fun a ha b hb=>?_⟩;rw [List.mem_singleton.mp hb];exact fun z=>hk' (by rw [<- z];exact ha)
   ·rintro ⟨h1,_,_⟩;rw [ih.mpr h1]
def uZ (ks:List Str):(dQ ks).length=ks.length ↔ ks.Nodup:=by
 have:=wM (ks:=ks) ks.length (Nat.le_refl _)
 rwa [List.take_length] at this
def Jy (cs:List (Str×Str)) (hl:1<=cs.length/\cs.length<=8) (h:∀ c∈cs,Col c) (hn:(cs.map (·.1)).Nodup):bx [.tup (cs.map ci)]=.ok (.bl true):=by
 rw [Ac cs hl h]
 have:=(uZ (cs.map (·.1))).mpr hn
 rw [List.length_map] at this;simp [this]
def HH (cs:List (Str×Str)) (h:∀ c∈cs,Col c) (hn:¬ (cs.map (·.1)).Nodup):bx [.tup (cs.map ci)]=.ok (.bl false):=by
 by_cases hl:1<=cs.length/\cs.length<=8
 ·rw [Ac cs hl h]
  have:¬ (dQ (cs.map (·.1))).length=cs.length:=fun e=>hn ((uZ (cs.map (·.1))).mp (by rw [List.length_map];exact e))
  simp [this]
 ·exact x9 _ (by rw [List.length_map];omega)
def EK (a b:D) (oa:GO a) (r:Bool) (hb:bx [b]=.ok (.bl r)):j9 [.tup [a,b]]=.ok (.bl (wx a&&r)):=by
 rw [Bt,mv];walk_at "ev";rw [GH];walk_at "ev";rw [x8 a oa];walk_at "ev";rw [hb];cases wx a <;> rfl
structure Cols (cs:List (Str×Str)):Prop where
 l0:1<=cs.length
 l1:cs.length<=8
 col:∀ c∈cs,Col c
 nd:(cs.map (·.1)).Nodup
def nG (a b:Str) (h:a.length+b.length<=1000000):aC (.str a) (.str b)=.ok (.str (a++b)):=by rw [JY,if_pos h]
def ik (c:Nat):(⟨#[c]⟩:Str).length=1:=rfl
def wV:∀ (n:Nat) (i:Int),(fJ i n).length=n
 | 0,i=>rfl
 | n+1,i=>by simp [fJ]
def wm (p:Int):∃ m,bu [.int p]=.ok (.int m)/\0<=m/\m < 2147483647:=by
 rw [Db,oh];walk_at "ew";exact ⟨_,rfl,Int.emod_nonneg _ (by decide),Int.emod_lt_of_pos _ (by decide)⟩
def m5 (x:Str):∀ ys:List Str,FL (.str x) (ys.map V.str)=decide (x∈ys)
 | []=>rfl
 | y::ys=>by
  have ih:=m5 x ys;unfold FL at ih ⊢;rw [List.map_cons,List.any_cons,ih]
  have:En (.str y) (.str x)=decide (y=x):=rfl
  rw [this];by_cases h:y=x
  ·subst h;simp
  ·have h':¬ x=y:=fun z=>h z.symm;simp [h,h']
abbrev kD:List Str:=["and","by","down","from","none","not","or","order","show","take","where"]
def yM (z:Str):vY z=decide (z∈kD):=m5 z kD
structure Gn (z:Str):Prop where
 nm:Nm z
 nr:vY z=false
def Lw (z:Str):Prop:=∀ c∈z.cps.toList,low c=true
def Lw.app {a b:Str} (ha:Lw a) (hb:Lw b):Lw (a++b):=fun c hc=>by
 rw [bI] at hc;exact (List.mem_append.mp hc).elim (ha c) (hb c)
def Lw.one {c:Nat} (h:low c=true):Lw ⟨#[c]⟩:=fun d hd=>by
 have:d=c:=by simpa using hd
 rw [this];exact h
def Nm.of {z:Str} (h0:1<=z.length) (h1:z.length<=8) (h:Lw z):Nm z:=⟨h0,h1,by rw [List.all_eq_true];exact h⟩
def Nm.lw' {z:Str} (h:Nm z):Lw z:=by have:=h.lw;rw [List.all_eq_true] at this;exact this
def lz:Lw (Str.ofString "z"):=by unfold Lw;decide +kernel
def z1:(Str.ofString "z").length=1:=by decide +kernel
def Fa:∀ z∈kD,z.length<=5:=by decide +kernel
def K7:∀ z∈kD,vY (z++Str.ofString "z")=false:=by decide +kernel
abbrev E8:FE:=(dj (ac (vC (.str "and")) (ac (vC (.str "by")) (ac (vC (.str "down")) (ac (vC (.str "from")) (ac (vC (.str "none")) (ac (vC (.str "not")) (ac (vC (.str "or")) (ac (vC (.str "order")) (ac (vC (.str "show")) (ac (vC (.str "take")) (ac (vC (.str "where")) aj))))))))))))
def Ga (δ:Sd):E8 δ=.ok (.lst (kD.map D.str)):=rfl
def in_words (z:Str):vo (.str z) (.lst (kD.map D.str))=.ok (.bl (vY z)):=rfl
def y0 (i:Nat) (δ:Sd) (z:Str) (hz:Nm z) (hi:δ[i]?=some (some (.str z))):∃ y,fin (aF (cp (bP (ao vo (ae i) E8)) (aW (ao aC (ae i) (vC (.str "z")))) aI) (aW (ae i)) δ)=.ok (.str y)/\Gn y:=by
 have ev:ae i δ=.ok (.str z):=by unfold ae;rw [hi]
 have eb:bP (ao vo (ae i) E8) δ=.ok (vY z):=by
  rw [sO,jd,ev,ah,g7,Ga,ah,in_words];rfl
 rw [aG,eX,eb,ah,eG];cases hr:vY z with
 | true =>
  rw [if_pos rfl,kB,jd,ev,ah,g7];have hm:z∈kD:=by rw [yM] at hr;exact of_decide_eq_true hr
  have hl:=Fa z hm;show ∃ y,fin ((((vC (.str "z") δ).bind fun y=>aC (.str z) y).bind _).bind _)=_/\_;rw [v_c,ah,nG _ _ (by rw [z1];omega)];refine ⟨z++Str.ofString "z",rfl,Nm.of (by rw [bD];have:=hz.l0;omega) (by rw [bD,z1];omega) (hz.lw'.app lz),K7 z hm⟩
 | false =>
  rw [if_neg Bool.false_ne_true,bV,ah,aA,kB,ev];exact ⟨z,rfl,hz,hr⟩
abbrev nB:FS:=(aF (aJ 3 (ak bu (ac (ae 3) aj))) (aJ 2 (ao aC (ae 2) (ao aU (ae 1) (ao bq (ae 3) (vC (.int 26)))))))
abbrev lx:Str:=Str.ofString "abcdefghijklmnopqrstuvwxyz"
def Mh (C:D) (p:Int) (z:Str) (o:Option D) (h:z.length<=100) (hz:Lw z):∃ p' z',nB [some C,some (.str lx),some (.str z),some (.int p),o]=.ok (.nx [some C,some (.str lx),some (.str z'),some (.int p'),o])/\z'.length=z.length+1/\Lw z':=by
 obtain ⟨m,em,_⟩:=wm p;unfold nB;walk_at "ew";rw [em];walk_at "ew";rw [EF];walk_at "ew";rw [nG _ _ (by rw [ik];omega)];exact ⟨m,_,rfl,by rw [bD,ik],hz.app (.one (AH _).2)⟩
def EG (C:D):∀ (xs:List D) (p:Int) (z:Str) (o:Option D),z.length+xs.length<=100->Lw z->∃ p' z' o',iX (.one 4) nB xs [some C,some (.str lx),some (.str z),some (.int p),o]=.ok (.nx [some C,some (.str lx),some (.str z'),some (.int p'),o'])/\z'.length=z.length+xs.length/\Lw z'
 | [],p,z,o,h,hz=>⟨p,z,o,rfl,rfl,hz⟩
 | x::r,p,z,o,h,hz=>by
  simp only [List.length_cons] at h;obtain ⟨p1,z1,e1,h1,hz1⟩:=Mh C p z (some x) (by omega) hz;obtain ⟨p2,z2,o2,e2,h2,hz2⟩:=EG C r p1 z1 (some x) (by omega) hz1;refine ⟨p2,z2,o2,?_,by simp;omega,hz2⟩;rw [i4];show (nB [some C,some (.str lx),some (.str z),some (.int p),some x]).bind _=_;rw [e1,ah,jm,e2]
def CU (c:Int):∃ z,dl [.int c]=.ok (.str z)/\Gn z:=by
 rw [zG,kn];have b0:0<=c % 8:=Int.emod_nonneg _ (by decide);have b1:c % 8 < 8:=Int.emod_lt_of_pos _ (by decide);have ei:g8 (ac (ao aC (vC (.int 1)) (ao bq (ae 0) (vC (.int 8)))) aj) [some (.int c),some (.str lx),some (.str (Str.ofString "")),some (.int c),none]=.ok (fJ 0 (1+c % 8).toNat):=by
  walk_at "ew";exact Gx (by omega)
 have e0:(Str.ofString "").length=0:=by decide +kernel
 have hr:=wV (1+c % 8).toNat 0;obtain ⟨p',z',o',e2,h2,hz'⟩:=EG (.int c) (fJ 0 (1+c % 8).toNat) c (Str.ofString "") none (by rw [hr,e0];omega) (show Lw (Str.ofString "") by unfold Lw;decide +kernel);rw [hr,e0] at h2;have E1:aJ 1 (vC (.str "abcdefghijklmnopqrstuvwxyz")) [some (.int c),none,none,none,none]=.ok (.nx [some (.int c),some (.str lx),none,none,none]):=rfl;have E2:aJ 2 (vC (.str "")) [some (.int c),some (.str lx),none,none,none]=.ok (.nx [some (.int c),some (.str lx),some (.str (Str.ofString "")),none,none]):=rfl;have E3:aJ 3 (ae 0) [some (.int c),some (.str lx),some (.str (Str.ofString "")),none,none]=.ok (.nx [some (.int c),some (.str lx),some (.str (Str.ofString "")),some (.int c),none]):=rfl;rw [aG,E1,ah,aA,aG,E2,ah,aA,aG,E3,ah,aA,aG,wY,ei,ah,wk,e2,ah,aA];exact y0 2 _ z' (Nm.of (by omega) (by omega) hz') rfl
def Vr (z:Str) (c:Int) (hz:Gn z):∃ y,mW [.str z,.int c]=.ok (.str y)/\Gn y:=by
 rw [Fs,qo];have l0:=hz.nm.l0;have l1:=hz.nm.l1;have b0:0<=c % (z.length:Int):=Int.emod_nonneg _ (by omega);have b1:c % (z.length:Int) < (z.length:Int):=Int.emod_lt_of_pos _ (by omega);obtain ⟨p,hp⟩:∃ p:Nat,c % (z.length:Int)=(p:Int):=⟨(c % (z.length:Int)).toNat,by omega⟩;have hpl:p < z.length:=by omega
 have ezl:=yY z;have E1:aJ 2 (vC (.str "abcdefghijklmnopqrstuvwxyz")) [some (.str z),some (.int c),none,none,none,none]=.ok (.nx [some (.str z),some (.int c),some (.str lx),none,none,none]):=rfl;have E2:aJ 3 (ao bq (ae 1) (ak bO (ac (ae 0) aj))) [some (.str z),some (.int c),some (.str lx),none,none,none]=.ok (.nx [some (.str z),some (.int c),some (.str lx),some (.int (p:Int)),none,none]):=by
  walk_at "ew";rw [pV,if_pos (by omega)];walk_at "ew";rw [Kt,if_pos (by omega)];walk_at "ew";rw [hp]
 have hg:∃ ch,atI z.cps.toList (p:Int)=some ch:=⟨_,bt (List.getElem?_eq_getElem (by omega))⟩;obtain ⟨ch,hg⟩:=hg;have E3:∃ st:Int,aJ 4 (ao aC (ao aC (oD (uf fun x y=>.int (Bs x y)) (ae 2) (ac (ao aU (ae 0) (ae 3)) aj)) (vC (.int 1))) (ao bq (ao cC (ae 1) (vC (.int 8))) (vC (.int 25)))) [some (.str z),some (.int c),some (.str lx),some (.int (p:Int)),none,none]=.ok (.nx [some (.str z),some (.int c),some (.str lx),some (.int (p:Int)),some (.int st),none]):=by
  walk_at "ew";rw [Jq (by omega) hg];walk_at "ew";rw [show uf (fun x y=>D.int (Bs x y)) lx [.str ⟨#[ch]⟩]=.ok (.int (Bs lx ⟨#[ch]⟩)) from rfl];walk_at "ew";exact ⟨_,rfl⟩
 obtain ⟨st,E3⟩:=E3;have k1:=uN z p (by omega);have hp1:(p:Int)+1=((p+1:Nat):Int):=by omega
 have k2:=yc z (p+1) (by omega);have k3:(bW z none (some (p:Int))++(⟨#[sk st]⟩:Str)).length=p+1:=by rw [bD,k1];rfl
 have k4:(bW z none (some (p:Int))++(⟨#[sk st]⟩:Str)++bW z (some ((p+1:Nat):Int)) none).length=z.length:=by rw [bD,k3,k2];omega
 have E4:aJ 5 (ao aC (ao aC (qe jP (ae 0) eN (bR (ae 3))) (ao aU (ae 2) (ao bq (ae 4) (vC (.int 26))))) (qe jP (ae 0) (bR (ao aC (ae 3) (vC (.int 1)))) eN)) [some (.str z),some (.int c),some (.str lx),some (.int (p:Int)),some (.int st),none]=.ok (.nx [some (.str z),some (.int c),some (.str lx),some (.int (p:Int)),some (.int st),some (.str (bW z none (some (p:Int))++(⟨#[sk st]⟩:Str)++bW z (some ((p+1:Nat):Int)) none))]):=by
  walk_at "ew";rw [DH,if_pos (by omega)];walk_at "ew";rw [EF];walk_at "ew";rw [nG _ _ (by rw [k1,ik];omega)];walk_at "ew";rw [DH,if_pos (by omega)];walk_at "ew";rw [hp1,nG _ _ (by rw [k3,k2];omega)];walk_at "ew"
 have hlw:Lw (bW z none (some (p:Int))++(⟨#[sk st]⟩:Str)++bW z (some ((p+1:Nat):Int)) none) :=
  Lw.app (Lw.app (fun x hx=>hz.nm.lw' x (uX hx)) (.one (AH _).2)) (fun x hx=>hz.nm.lw' x (uX hx))
 rw [aG,E1,ah,aA,aG,E2,ah,aA,aG,E3,ah,aA,aG,E4,ah,aA];exact y0 5 _ _ (Nm.of (by omega) (by omega) hlw) rfl
def cn (b:Str) (f:Bool) (j:Nat):Str:=if f=true then (⟨#[97+j]⟩:Str)++Str.ofString "z"++b else b++Str.ofString "z"++(⟨#[97+j]⟩:Str)
def Ky (j:Nat) (h:j < 8):aU (.str "abcdefgh") (.int (j:Int))=.ok (.str ⟨#[97+j]⟩):=by
 have:j=0\/j=1\/j=2\/j=3\/j=4\/j=5\/j=6\/j=7:=by omega
 rcases this with rfl|rfl|rfl|rfl|rfl|rfl|rfl|rfl <;> with_unfolding_all rfl
def FM:(Str.ofString "z").cps.toList=[122]:=by decide +kernel
def EU:∀ z∈kD,122∉z.cps.toList:=by decide +kernel
def M2 (b:Str) (f:Bool) (j:Nat):(cn b f j).length=b.length+2:=by
 unfold cn;split
 ·rw [bD,bD,ik,z1];omega
 ·rw [bD,bD,ik,z1]
def Ov {b:Str} (hb:Lw b) (hl:b.length<=5) (f:Bool) {j:Nat} (hj:j < 8):Gn (cn b f j):=by
 have hlow:low (97+j)=true:=by unfold low;simp;omega
 have h1:Lw (cn b f j):=by
  unfold cn;split
  ·exact ((Lw.one hlow).app lz).app hb
  ·exact (hb.app lz).app (Lw.one hlow)
 have h2:=M2 b f j;refine ⟨Nm.of (by omega) (by omega) h1,?_⟩;rw [yM,decide_eq_false_iff_not];intro hm;refine EU _ hm ?_;unfold cn;split
 ·rw [bI,bI,FM];simp
 ·rw [bI,bI,FM];simp
def KM (b:Str) (f:Bool) {i j:Nat} (h:cn b f i=cn b f j):i=j:=by
 have h:=congrArg (fun z:Str=>z.cps.toList) h;unfold cn at h;cases f with
 | true =>
  simp only [if_true,bI] at h;simp at h;omega
 | false =>
  simp only [Bool.false_eq_true,if_false,bI] at h;simp at h;omega
def kk (i:Int):∃ k:Str,aU (.lst [.str "number",.str "text"]) (.int (i % 2))=.ok (.str k)/\(k="number"\/k="text"):=by
 have h0:0<=i % 2:=Int.emod_nonneg _ (by decide);have h1:i % 2 < 2:=Int.emod_lt_of_pos _ (by decide);generalize i % 2=i at h0 h1;have hi:i=0\/i=1:=by omega
 rcases hi with rfl|rfl
 ·exact ⟨_,wH,.inl rfl⟩
 ·exact ⟨_,v9,.inr rfl⟩
abbrev cB:FS:=(aF (aJ 5 (ak bu (ac (ae 5) aj))) (aF (aJ 7 (ao aC (ao aC (ae 2) (vC (.str "z"))) (ao aU (vC (.str "abcdefgh")) (ae 6)))) (aF (cp (bP (ao cq (ao bq (ao cC (ae 1) (vC (.int 8))) (vC (.int 2))) (vC (.int 1)))) (aJ 7 (ao aC (ao aC (ao aU (vC (.str "abcdefgh")) (ae 6)) (vC (.str "z"))) (ae 2))) aI) (cT 4 (kl (ac (ae 7) (ac (ao aU (dj (ac (vC (.str "number")) (ac (vC (.str "text")) aj))) (ao bq (ao cC (ae 5) (vC (.int 7))) (vC (.int 2)))) aj)))))))
abbrev Mc (N:D) (c:Int) (b:Str) (M:D) (cs:List (Str×Str)) (m:Int) (o6 o7:Option D):Sd:=[some N,some (.int c),some (.str b),some M,some (.lst (cs.map ci)),some (.int m),o6,o7]
def Lv (N:D) (c:Int) (b:Str) (M:D) (cs:List (Str×Str)) (m:Int) (j:Nat) (o7:Option D) (hb:b.length<=5) (hj:j < 8) (hl:cs.length<=8) :
  ∃ (k:Str) (m':Int) (q7:Option D),cB (Mc N c b M cs m (some (.int (j:Int))) o7)=.ok (.nx (Mc N c b M (cs++[(cn b (decide (c/8 % 2=1)) j,k)]) m' (some (.int (j:Int))) q7))/\(k="number"\/k="text"):=by
 obtain ⟨m',em,_⟩:=wm m;obtain ⟨k,ek,hk⟩:=kk (m'/7);refine ⟨k,m',some (.str (cn b (decide (c/8 % 2=1)) j)),?_,hk⟩;unfold cB;walk_at "ew";rw [em];walk_at "ew";rw [nG _ _ (by rw [z1];omega)];walk_at "ew";rw [Ky j hj];walk_at "ew";rw [nG _ _ (by rw [bD,z1,ik];omega)];walk_at "ew";by_cases hq:c/8 % 2=1
 ·rw [if_pos hq];walk_at "ew";rw [Ky j hj];walk_at "ew";rw [nG _ _ (by rw [z1,ik];omega)];walk_at "ew";rw [nG _ _ (by rw [bD,z1,ik];omega)];walk_at "ew";rw [ek];walk_at "ew";rw [if_pos (by rw [List.length_map];omega)];unfold cn;rw [if_pos (decide_eq_true hq)];simp [ci]
 ·rw [if_neg hq];walk_at "ew";rw [ek];walk_at "ew";rw [if_pos (by rw [List.length_map];omega)];unfold cn;rw [if_neg (by simpa using hq)];simp [ci]
def Ev (N:D) (c:Int) (b:Str) (M:D) (hb:b.length<=5):∀ (n i:Nat) (cs:List (Str×Str)) (m:Int) (o6 o7:Option D),i+n<=8->cs.length=i->(∀ x∈cs,x.2="number"\/x.2="text")->cs.map (·.1)=(List.range i).map (cn b (decide (c/8 % 2=1))) ->
  ∃ cs' m' q6 q7,iX (.one 6) cB ((List.range' i n).map fun (k:Nat)=>D.int (k:Int)) (Mc N c b M cs m o6 o7)=.ok (.nx (Mc N c b M cs' m' q6 q7))/\cs'.length=i+n/\(∀ x∈cs',x.2="number"\/x.2="text")/\cs'.map (·.1)=(List.range (i+n)).map (cn b (decide (c/8 % 2=1)))
 | 0,i,cs,m,o6,o7,_,hl,hk,hn=>⟨cs,m,o6,o7,rfl,hl,hk,hn⟩
 | n+1,i,cs,m,o6,o7,hi,hl,hk,hn=>by
  obtain ⟨k,m1,q7,e1,hk1⟩:=Lv N c b M cs m i o7 hb (by omega) (by omega);obtain ⟨cs',m',p6,p7,e2,h2,h3,h4⟩:=Ev N c b M hb n (i+1) (cs++[(cn b (decide (c/8 % 2=1)) i,k)]) m1 (some (.int (i:Int))) q7 (by omega) (by simp [hl]) (fun x hx=>by
   rcases List.mem_append.mp hx with z|z
   ·exact hk x z
   ·rw [List.mem_singleton.mp z];exact hk1) (by rw [List.map_append,hn,List.range_succ,List.map_append];rfl)
  refine ⟨cs',m',p6,p7,?_,by omega,h3,by rw [h4];congr 2;omega⟩;rw [List.range'_succ,List.map_cons,i4];show (cB (Mc N c b M cs m (some (.int (i:Int))) o7)).bind _=_;rw [e1,ah,jm,e2]
def GA (n:Nat):fJ 0 n=(List.range' 0 n).map fun (k:Nat)=>D.int (k:Int):=by
 unfold fJ;rw [List.range_eq_range'];exact List.map_congr_left fun k _=>by simp
def ix8 (i:Int):∃ n:Int,aU (.lst [.int 1,.int 2,.int 3,.int 4,.int 2,.int 3,.int 1,.int 8]) (.int (i % 8))=.ok (.int n)/\1<=n/\n<=8:=by
 have h0:0<=i % 8:=Int.emod_nonneg _ (by decide);have h1:i % 8 < 8:=Int.emod_lt_of_pos _ (by decide)
 have:i % 8=0\/i % 8=1\/i % 8=2\/i % 8=3\/i % 8=4\/i % 8=5\/i % 8=6\/i % 8=7:=by omega
 rcases this with e|e|e|e|e|e|e|e <;> rw [e]
 ·exact ⟨1,wH,by decide,by decide⟩
 ·exact ⟨2,v9,by decide,by decide⟩
 ·exact ⟨3,Fc,by decide,by decide⟩
 ·exact ⟨4,F6,by decide,by decide⟩
 ·exact ⟨2,KB,by decide,by decide⟩
 ·exact ⟨3,JR,by decide,by decide⟩
 ·exact ⟨1,Kr,by decide,by decide⟩
 ·exact ⟨8,JL,by decide,by decide⟩
def Fb (b:Str) (f:Bool) (n:Nat):((List.range n).map (cn b f)).Nodup:=by
 unfold List.Nodup;rw [List.pairwise_map];exact (List.nodup_range (n:=n)).imp fun h e=>h (KM b f e)
def U3 (z:Str) (h:z.length<=8):(bW z none (some 5)).length<=5:=by
 by_cases h:5<=z.length
 ·have:=uN z 5 h
  have e5:((5:Nat):Int)=5:=rfl;rw [e5] at this;omega
 ·have h2:(bW z none (some 5)).length<=z.length:=by
   rw [<- dL,<- dL];unfold bW;simp;omega
  omega
def sh1 (N:D) (c:Int) (z b:Str) (ez:dl [.int (c/7)]=.ok (.str z)) (hl:z.length<=8) (hbb:bW z none (some 5)=b):aJ 2 (qe jP (ak dl (ac (ao cC (ae 1) (vC (.int 7))) aj)) eN (bR (vC (.int 5)))) [some N,some (.int c),none,none,none,none,none,none]=.ok (.nx [some N,some (.int c),some (.str b),none,none,none,none,none]):=by
 walk_at "ew";rw [ez];walk_at "ew";rw [DH,if_pos (by omega),hbb];walk_at "ew"
def sh2 (N:D) (c:Int) (b:Str) (n:Int) (en:aU (.lst [.int 1,.int 2,.int 3,.int 4,.int 2,.int 3,.int 1,.int 8]) (.int (c % 8))=.ok (.int n)):aJ 3 (ao aU (dj (ac (vC (.int 1)) (ac (vC (.int 2)) (ac (vC (.int 3)) (ac (vC (.int 4)) (ac (vC (.int 2)) (ac (vC (.int 3)) (ac (vC (.int 1)) (ac (vC (.int 8)) aj))))))))) (ao bq (ae 1) (vC (.int 8)))) [some N,some (.int c),some (.str b),none,none,none,none,none]=.ok (.nx [some N,some (.int c),some (.str b),some (.int n),none,none,none,none]):=by
 walk_at "ew";rw [en];walk_at "ew"
def sh5 (N:D) (c:Int) (b:Str) (n:Int) (hn:1<=n/\n<=8):g8 (ac (ae 3) aj) (Mc N c b (.int n) [] c none none)=.ok ((List.range' 0 n.toNat).map fun (k:Nat)=>D.int (k:Int)):=by
 walk_at "ew";rw [Gx (by omega),GA]
def Fg (N:D) (c:Int):∃ cs,gE [N,.int c]=.ok (.tup [N,.tup (cs.map ci)])/\Cols cs:=by
 rw [xb,jy];obtain ⟨z,ez,hz⟩:=CU (c/7);obtain ⟨n,en,n1,n8⟩:=ix8 c;have hlz:=hz.nm.l1;have hb:=U3 z hlz;have hbl:Lw (bW z none (some 5)):=fun x hx=>hz.nm.lw' x (uX hx);generalize hbb:bW z none (some 5)=b at hb hbl;have E1:=sh1 N c z b ez hlz hbb;have E2:=sh2 N c b n en;have E3:vD 4 (dj aj) [some N,some (.int c),some (.str b),some (.int n),none,none,none,none]=.ok (.nx [some N,some (.int c),some (.str b),some (.int n),some (.lst []),none,none,none]):=by walk_at "ew"
 have E4:aJ 5 (ae 1) [some N,some (.int c),some (.str b),some (.int n),some (.lst []),none,none,none]=.ok (.nx (Mc N c b (.int n) [] c none none)):=rfl;have ei:=sh5 N c b n ⟨n1,n8⟩;obtain ⟨cs,m',q6,q7,e5,h1,h2,h3⟩:=Ev N c b (.int n) hb n.toNat 0 [] c none none (by omega) rfl (fun x hx=>by simp at hx) rfl;rw [Nat.zero_add] at h1 h3;refine ⟨cs,?_,by omega,by omega,fun x hx=>?_,by rw [h3];exact Fb _ _ _⟩
 ·rw [aG,E1,ah,aA,aG,E2,ah,aA,aG,E3,ah,aA,aG,E4,ah,aA,aG,wY,ei,ah,wk,e5,ah,aA];walk_at "ew"
 ·have hm:x.1∈cs.map (·.1):=List.mem_map.mpr ⟨x,hx,rfl⟩;rw [h3] at hm;obtain ⟨j,hj,e⟩:=List.mem_map.mp hm;have hj:=List.mem_range.mp hj
  have:=Ov hbl hb (decide (c/8 % 2=1)) (j:=j) (by omega)
  rw [e] at this;exact ⟨this.nm,this.nr,h2 x hx⟩
abbrev tB:FS:=(aF (aJ 4 (ak bu (ac (ae 4) aj))) (aJ 3 (ao aC (ae 3) (ao aU (ae 1) (ao bq (ae 4) (vC (.int 94)))))))
def L6 (i:Int):aU (.str l4) (.int (i % 94))=.ok (.str ⟨#[uB i]⟩):=Jq (by decide +kernel) (Mb i)
def Tb (z:Str):Prop:=∀ c∈z.cps.toList,c∈Hm
def Tb.app {a b:Str} (ha:Tb a) (hb:Tb b):Tb (a++b):=fun c hc=>by
 rw [bI] at hc;exact (List.mem_append.mp hc).elim (ha c) (hb c)
def Tb.one {c:Nat} (h:c∈Hm):Tb ⟨#[c]⟩:=fun d hd=>by
 have:d=c:=by simpa using hd
 rw [this];exact h
def LF (C M:D) (p:Int) (z:Str) (o:Option D) (h:z.length<=100) (hz:Tb z):∃ p' z',tB [some C,some (.str l4),some M,some (.str z),some (.int p),o]=.ok (.nx [some C,some (.str l4),some M,some (.str z'),some (.int p'),o])/\z'.length=z.length+1/\Tb z':=by
 obtain ⟨m,em,_⟩:=wm p;unfold tB;walk_at "ew";rw [em];walk_at "ew";rw [L6];walk_at "ew";rw [nG _ _ (by rw [ik];omega)];exact ⟨m,_,rfl,by rw [bD,ik],hz.app (.one (Iw _))⟩
def FX (C M:D):∀ (xs:List D) (p:Int) (z:Str) (o:Option D),z.length+xs.length<=100->Tb z->∃ p' z' o',iX (.one 5) tB xs [some C,some (.str l4),some M,some (.str z),some (.int p),o]=.ok (.nx [some C,some (.str l4),some M,some (.str z'),some (.int p'),o'])/\z'.length=z.length+xs.length/\Tb z'
 | [],p,z,o,h,hz=>⟨p,z,o,rfl,rfl,hz⟩
 | x::r,p,z,o,h,hz=>by
  simp only [List.length_cons] at h;obtain ⟨p1,z1,e1,h1,hz1⟩:=LF C M p z (some x) (by omega) hz;obtain ⟨p2,z2,o2,e2,h2,hz2⟩:=FX C M r p1 z1 (some x) (by omega) hz1;refine ⟨p2,z2,o2,?_,by simp;omega,hz2⟩;rw [i4];show (tB [some C,some (.str l4),some M,some (.str z),some (.int p),some x]).bind _=_;rw [e1,ah,jm,e2]
def GX (c:Int):∃ z:Str,gu [.int c]=.ok (.str z)/\z.length<=40/\Tb z:=by
 rw [zA,kw];have E1:aJ 1 (vC (.str l4)) [some (.int c),none,none,none,none,none]=.ok (.nx [some (.int c),some (.str l4),none,none,none,none]):=rfl;have E2:aJ 2 (ao bq (ae 0) (vC (.int 6))) [some (.int c),some (.str l4),none,none,none,none]=.ok (.nx [some (.int c),some (.str l4),some (.int (c % 6)),none,none,none]):=by walk_at "ew"
 have b0:0<=c % 6:=Int.emod_nonneg _ (by decide);have b1:c % 6 < 6:=Int.emod_lt_of_pos _ (by decide);generalize c % 6=m at E2 b0 b1;have E3:∃ s:Int,cp (bP (ao cq (ao bq (ao cC (ae 0) (vC (.int 6))) (vC (.int 8))) (vC (.int 1)))) (aJ 2 (ao bq (ao cC (ae 0) (vC (.int 48))) (vC (.int 41)))) aI [some (.int c),some (.str l4),some (.int m),none,none,none]=.ok (.nx [some (.int c),some (.str l4),some (.int s),none,none,none])/\0<=s/\s<=40:=by
  walk_at "ew";by_cases h:c/6 % 8=1
  ·rw [if_pos h];exact ⟨_,rfl,Int.emod_nonneg _ (by decide),by have:=Int.emod_lt_of_pos (c/48) (show (0:Int) < 41 by decide);omega⟩
  ·rw [if_neg h];exact ⟨m,rfl,by omega,by omega⟩
 obtain ⟨s,E3,s0,s1⟩:=E3;have E4:aJ 3 (vC (.str "")) [some (.int c),some (.str l4),some (.int s),none,none,none]=.ok (.nx [some (.int c),some (.str l4),some (.int s),some (.str (Str.ofString "")),none,none]):=rfl;have E5:aJ 4 (ae 0) [some (.int c),some (.str l4),some (.int s),some (.str (Str.ofString "")),none,none]=.ok (.nx [some (.int c),some (.str l4),some (.int s),some (.str (Str.ofString "")),some (.int c),none]):=rfl;have ei:g8 (ac (ae 2) aj) [some (.int c),some (.str l4),some (.int s),some (.str (Str.ofString "")),some (.int c),none]=.ok (fJ 0 s.toNat):=by
  walk_at "ew";exact Gx (by omega)
 have e0:(Str.ofString "").length=0:=by decide +kernel
 have hr:=wV s.toNat 0;obtain ⟨p',z',o',e2,h2,hz'⟩:=FX (.int c) (.int s) (fJ 0 s.toNat) c (Str.ofString "") none (by rw [hr,e0];omega) (show Tb (Str.ofString "") by unfold Tb;decide +kernel);rw [hr,e0] at h2;refine ⟨z',?_,by omega,hz'⟩;rw [aG,E1,ah,aA,aG,E2,ah,aA,aG,E3,ah,aA,aG,E4,ah,aA,aG,E5,ah,aA,aG,wY,ei,ah,wk,e2,ah,aA];walk_at "ew"
def Mu (c:Int) (k:D) (h0:0<=c) (h1:c < 2147483647):∃ i:Int,ao jj (ao bq (ao dC (ao dC (ae 1) (ae 1)) (vC (.int 48271))) (ao jj (ao dC (vC (.int 2)) (ao kR (vC (.int 10)) (vC (.int 18)))) (vC (.int 1)))) (ao jj (ao kR (vC (.int 10)) (vC (.int 18))) (vC (.int 1))) [some k,some (.int c)]=.ok (.int i)/\i.natAbs < 10 ^ 18:=by
 have e1:ao dC (ae 1) (ae 1) [some k,some (.int c)]=.ok (.int (c*c)):=by
  simp only [jd,v_var,sK,g7,ah,List.getElem?_cons_zero,List.getElem?_cons_succ];exact BZ (by omega)
 have e2:ao dC (ao dC (ae 1) (ae 1)) (vC (.int 48271)) [some k,some (.int c)]=.ok (.int (c*c*48271)):=by
  rw [jd,e1,ah,g7,v_c,ah];exact mul_r (by decide)
 have e3:ao jj (ao dC (vC (.int 2)) (ao kR (vC (.int 10)) (vC (.int 18)))) (vC (.int 1)) [some k,some (.int c)]=.ok (.int 1999999999999999999):=by
  have:ao kR (vC (.int 10)) (vC (.int 18)) [some k,some (.int c)]=.ok (.int 1000000000000000000):=by
   rw [jd,v_c,ah,g7,v_c,ah,Fk (by decide)];rfl
  rw [jd,jd,v_c,ah,g7,this,ah,BZ (by decide),ah,g7,v_c,ah,uA];rfl
 have e4:ao jj (ao kR (vC (.int 10)) (vC (.int 18))) (vC (.int 1)) [some k,some (.int c)]=.ok (.int 999999999999999999):=by
  rw [jd,jd,v_c,ah,g7,v_c,ah,Fk (by decide),ah,g7,v_c,ah,uA];rfl
 generalize c*c*48271=x at e2;have e5:ao bq (ao dC (ao dC (ae 1) (ae 1)) (vC (.int 48271))) (ao jj (ao dC (vC (.int 2)) (ao kR (vC (.int 10)) (vC (.int 18)))) (vC (.int 1))) [some k,some (.int c)]=.ok (.int (x % 1999999999999999999)):=by
  rw [jd,e2,ah,g7,e3,ah];exact Cd (by decide)
 refine ⟨x % 1999999999999999999 - 999999999999999999,?_,?_⟩
 ·rw [jd,e5,ah,g7,e4,ah,uA]
 ·have b0:0<=x % 1999999999999999999:=Int.emod_nonneg _ (by decide);have b1:x % 1999999999999999999 < 1999999999999999999:=Int.emod_lt_of_pos _ (by decide);omega
def EW (k:Str) (c:Int) (h0:0<=c) (h1:c < 2147483647):∃ d,gT [.str k,.int c]=.ok d/\Vw d:=by
 rw [yj,jq];have E1:∀ T:FS,aF (cp (bP (ao cq (ao bq (ae 1) (vC (.int 5))) (vC (.int 0)))) (aW (vC .non)) aI) T [some (.str k),some (.int c)]=if c % 5=0 then .ok (.rt .non) else T [some (.str k),some (.int c)]:=fun T=>by
  rw [aG];by_cases h:c % 5=0
  ·rw [if_pos h]
   have:cp (bP (ao cq (ao bq (ae 1) (vC (.int 5))) (vC (.int 0)))) (aW (vC .non)) aI [some (.str k),some (.int c)]=.ok (.rt .non):=by
    walk_at "ew";rw [if_pos h];walk_at "ew"
   rw [this];rfl
  ·rw [if_neg h]
   have:cp (bP (ao cq (ao bq (ae 1) (vC (.int 5))) (vC (.int 0)))) (aW (vC .non)) aI [some (.str k),some (.int c)]=.ok (.nx [some (.str k),some (.int c)]):=by
    walk_at "ew";rw [if_neg h]
   rw [this];rfl
 rw [E1];by_cases h:c % 5=0
 ·rw [if_pos h];exact ⟨.non,rfl,trivial⟩
 ·rw [if_neg h];obtain ⟨z,ez,hz,ht⟩:=GX (c/5);by_cases hk:k=Str.ofString "text"
  ·have:cp (bP (ao cq (ae 0) (vC (.str "text")))) (aW (ak gu (ac (ao cC (ae 1) (vC (.int 5))) aj))) aI [some (.str k),some (.int c)]=.ok (.rt (.str z)):=by
    walk_at "ew";rw [if_pos hk];walk_at "ew";rw [ez];walk_at "ew"
   rw [aG,this];exact ⟨.str z,rfl,hz,fun c hc=>IG c (ht c hc)⟩
  ·have:cp (bP (ao cq (ae 0) (vC (.str "text")))) (aW (ak gu (ac (ao cC (ae 1) (vC (.int 5))) aj))) aI [some (.str k),some (.int c)]=.ok (.nx [some (.str k),some (.int c)]):=by
    walk_at "ew";rw [if_neg hk]
   rw [aG,this,ah,aA,aG];obtain ⟨i,ei,hi⟩:=Mu c (.str k) h0 h1;by_cases h1':c % 5=1
   ·have eb:bP (ao cq (ao bq (ae 1) (vC (.int 5))) (vC (.int 1))) [some (.str k),some (.int c)]=.ok true:=by
     walk_at "ew";rw [decide_eq_true h1']
    rw [eX,eb,ah,eG,if_pos rfl,kB,ei];exact ⟨.int i,rfl,hi⟩
   ·have eb:bP (ao cq (ao bq (ae 1) (vC (.int 5))) (vC (.int 1))) [some (.str k),some (.int c)]=.ok false:=by
     walk_at "ew";rw [decide_eq_false h1']
    rw [eX,eb,ah,eG,if_neg Bool.false_ne_true,bV,ah,aA];walk_at "ew";refine ⟨_,rfl,?_⟩;show (c/5 % 9 - 3).natAbs < 10 ^ 18;have b0:0<=c/5 % 9:=Int.emod_nonneg _ (by decide);have b1:c/5 % 9 < 9:=Int.emod_lt_of_pos _ (by decide);omega
abbrev rB:FS:=(aF (aJ 1 (ak bu (ac (ae 1) aj))) (cT 2 (ak gT (ac (ao aU (ae 3) (vC (.int 1))) (ac (ao cC (ae 1) (vC (.int 3))) aj)))))
def Lg (S:D) (c:Int) (ds:List D) (hl:ds.length<=100) (x:Str×Str):∃ d c',rB [some S,some (.int c),some (.lst ds),some (ci x)]=.ok (.nx [some S,some (.int c'),some (.lst (ds++[d])),some (ci x)])/\Vw d:=by
 obtain ⟨m,em,m0,m1⟩:=wm c;obtain ⟨d,ed,hd⟩:=EW x.2 (m/3) (by omega) (by omega);refine ⟨d,m,?_,hd⟩;unfold rB ci;walk_at "ew";rw [em];walk_at "ew";rw [ed];walk_at "ew";rw [if_pos (by omega)]
def Gi (S:D):∀ (cs:List (Str×Str)) (c:Int) (ds:List D) (o3:Option D),ds.length+cs.length<=100->(∀ d∈ds,Vw d) ->
  ∃ ds' c' q3,iX (.one 3) rB (cs.map ci) [some S,some (.int c),some (.lst ds),o3]=.ok (.nx [some S,some (.int c'),some (.lst ds'),q3])/\(∀ d∈ds',Vw d)/\ds'.length=ds.length+cs.length
 | [],c,ds,o3,_,hd=>⟨ds,c,o3,rfl,hd,rfl⟩
 | x::r,c,ds,o3,hl,hd=>by
  simp only [List.length_cons] at hl;obtain ⟨d,c1,e1,h1⟩:=Lg S c ds (by omega) x;obtain ⟨ds',c',q3,e2,h2,h3⟩:=Gi S r c1 (ds++[d]) (some (ci x)) (by simp;omega) (fun y hy=>by
   rcases List.mem_append.mp hy with z|z
   ·exact hd y z
   ·rw [List.mem_singleton.mp z];exact h1)
  refine ⟨ds',c',q3,?_,h2,by rw [h3];simp;omega⟩;rw [List.map_cons,i4];show (rB [some S,some (.int c),some (.lst ds),some (ci x)]).bind _=_;rw [e1,ah,jm,e2]
def Nc (N:D) (cs:List (Str×Str)) (c:Int) (hl:cs.length<=8):∃ ds,lW [.tup [N,.tup (cs.map ci)],.int c]=.ok (.tup ds)/\(∀ d∈ds,Vw d)/\ds.length=cs.length:=by
 rw [AF,ms];obtain ⟨ds,c',q3,e,h1,h2⟩:=Gi (.tup [N,.tup (cs.map ci)]) cs c [] none (by simp;omega) (fun d hd=>by simp at hd);refine ⟨ds,?_,h1,by simpa using h2⟩;have E1:vD 2 (dj aj) [some (.tup [N,.tup (cs.map ci)]),some (.int c),none,none]=.ok (.nx [some (.tup [N,.tup (cs.map ci)]),some (.int c),some (.lst []),none]):=by walk_at "ew"
 have ei:iR (ao aU (ae 0) (vC (.int 1))) [some (.tup [N,.tup (cs.map ci)]),some (.int c),some (.lst []),none]=.ok (cs.map ci):=by walk_at "ew"
 rw [aG,E1,ah,aA,aG,wY,ei,ah,wk,e,ah,aA];walk_at "ew"
inductive Chg:D->Prop
 | table {nm:Str} {cs:List (Str×Str)} (hn:Gn nm) (hc:Cols cs):Chg (.tup [.str "table",.tup [.str nm,.tup (cs.map ci)]])
 | index {nm cl:Str} (hn:Gn nm) (hc:Gn cl):Chg (.tup [.str "index",.str nm,.str cl])
 | drop {nm:Str} {n:Int} (hn:Gn nm) (h1:1<=n) (h2:n<=1000000000):Chg (.tup [.str "drop",.str nm,.int n])
 | put {nm:Str} {n:Int} {ds:List D} (hn:Gn nm) (h1:1<=n) (h2:n<=1000000000) (hd:∀ d∈ds,Vw d) (l1:1<=ds.length) (l8:ds.length<=8):Chg (.tup [.str "put",.str nm,.int n,.tup ds])
def DB (x y:Str) (c:Int) (hx:Gn x) (hy:Gn y):∃ d,eu [.lst [.str x,.str y],.int c]=.ok d/\Chg d:=by
 rw [vN,ig];have hnm:∃ nm:Str,aU (.lst [.str x,.str y]) (.int (c/5 % 2))=.ok (.str nm)/\Gn nm:=by
  have i0:0<=c/5 % 2:=Int.emod_nonneg _ (by decide);have i1:c/5 % 2 < 2:=Int.emod_lt_of_pos _ (by decide)
  have:c/5 % 2=0\/c/5 % 2=1:=by omega
  rcases this with e|e <;> rw [e]
  ·exact ⟨_,wH,hx⟩
  ·exact ⟨_,v9,hy⟩
 obtain ⟨nm,en,hn⟩:=hnm;obtain ⟨cs,es,hc⟩:=Fg (.str nm) (c/10);have c0:=hc.l0;have c8:=hc.l1;generalize hB:D.lst [.str x,.str y]=B at en;have E1:aJ 2 (ao aU (ae 0) (ao bq (ao cC (ae 1) (vC (.int 5))) (vC (.int 2)))) [some B,some (.int c),none,none,none]=.ok (.nx [some B,some (.int c),some (.str nm),none,none]):=by
  walk_at "ew";rw [en];walk_at "ew"
 have E2:aJ 3 (ak gE (ac (ae 2) (ac (ao cC (ae 1) (vC (.int 10))) aj))) [some B,some (.int c),some (.str nm),none,none]=.ok (.nx [some B,some (.int c),some (.str nm),some (.tup [.str nm,.tup (cs.map ci)]),none]):=by
  walk_at "ew";rw [es];walk_at "ew"
 generalize hS:D.tup [.str nm,.tup (cs.map ci)]=S at E2;have E3:aJ 4 (ao aC (vC (.int 1)) (ao bq (ao cC (ae 1) (vC (.int 10))) (vC (.int 9)))) [some B,some (.int c),some (.str nm),some S,none]=.ok (.nx [some B,some (.int c),some (.str nm),some S,some (.int (1+c/10 % 9))]):=by walk_at "ew"
 have a0:0<=c/10 % 9:=Int.emod_nonneg _ (by decide);have a1:c/10 % 9 < 9:=Int.emod_lt_of_pos _ (by decide);have E4:∃ n:Int,cp (bP (ao cq (ao bq (ao cC (ae 1) (vC (.int 90))) (vC (.int 4))) (vC (.int 1)))) (aJ 4 (ao aC (vC (.int 1)) (ao bq (ao cC (ae 1) (vC (.int 360))) (ao kR (vC (.int 10)) (vC (.int 9)))))) aI [some B,some (.int c),some (.str nm),some S,some (.int (1+c/10 % 9))]=.ok (.nx [some B,some (.int c),some (.str nm),some S,some (.int n)])/\1<=n/\n<=1000000000:=by
  walk_at "ew";by_cases h:c/90 % 4=1
  ·rw [if_pos h];walk_at "ew";have d0:0<=c/360 % 1000000000:=Int.emod_nonneg _ (by decide);have d1:c/360 % 1000000000 < 1000000000:=Int.emod_lt_of_pos _ (by decide);exact ⟨_,rfl,by omega,by omega⟩
  ·rw [if_neg h];exact ⟨_,rfl,by omega,by omega⟩
 obtain ⟨n,E4,n1,n2⟩:=E4;have E5:∃ n':Int,cp (bP (ao cq (ao bq (ao cC (ae 1) (vC (.int 90))) (vC (.int 16))) (vC (.int 2)))) (aJ 4 (ao kR (vC (.int 10)) (vC (.int 9)))) aI [some B,some (.int c),some (.str nm),some S,some (.int n)]=.ok (.nx [some B,some (.int c),some (.str nm),some S,some (.int n')])/\1<=n'/\n'<=1000000000:=by
  walk_at "ew";by_cases h:c/90 % 16=2
  ·rw [if_pos h];walk_at "ew";exact ⟨_,rfl,by decide,by decide⟩
  ·rw [if_neg h];exact ⟨_,rfl,n1,n2⟩
 obtain ⟨m,E5,m1,m2⟩:=E5;rw [aG,E1,ah,aA,aG,E2,ah,aA,aG,E3,ah,aA,aG,E4,ah,aA,aG,E5,ah,aA];have i0:0<=c % 5:=Int.emod_nonneg _ (by decide);have i1:c % 5 < 5:=Int.emod_lt_of_pos _ (by decide)
 have:c % 5=0\/c % 5=1\/c % 5=2\/(c % 5≠0/\c % 5≠1/\c % 5≠2):=by omega
 rcases this with e|e|e|⟨e0,e1,e2⟩
 ·walk_at "ew";rw [e];walk_at "ew";subst hS;exact ⟨_,rfl,.table hn hc⟩
 ·walk_at "ew";rw [e];walk_at "ew";rw [e];walk_at "ew";subst hS;walk_at "ew";rw [List.length_map,Kt,if_pos (by omega)];walk_at "ew";have q0:0<=c/10 % (cs.length:Int):=Int.emod_nonneg _ (by omega);have q1:c/10 % (cs.length:Int) < (cs.length:Int):=Int.emod_lt_of_pos _ (by omega);have hx:∃ p:Str×Str,p∈cs/\aU (.tup (cs.map ci)) (.int (c/10 % (cs.length:Int)))=.ok (ci p):=by
   generalize c/10 % (cs.length:Int)=q at q0 q1;obtain ⟨j,rfl⟩:∃ j:Nat,q=(j:Int):=⟨q.toNat,by omega⟩;have hj:j < cs.length:=by omega
   exact ⟨cs[j],List.getElem_mem hj,vE (bt (by rw [List.getElem?_map,List.getElem?_eq_getElem hj];rfl))⟩
  obtain ⟨p,hp,ep⟩:=hx;rw [ep];unfold ci;walk_at "ew";exact ⟨_,rfl,.index hn ⟨(hc.col p hp).nm,(hc.col p hp).nr⟩⟩
 ·walk_at "ew"
  iterate 3 (rw [e];walk_at "ew")
  exact ⟨_,rfl,.drop hn m1 m2⟩
 ·subst hS;obtain ⟨ds,er,hd,hl⟩:=Nc (.str nm) cs (c/7) c8;walk_at "ew";rw [if_neg e0];walk_at "ew";rw [if_neg e1];walk_at "ew";rw [if_neg e2];walk_at "ew";rw [er];walk_at "ew";exact ⟨_,rfl,.put hn m1 m2 hd (by omega) (by omega)⟩
def yV {d:D} (h:Vw d):quiet false (wl d)=some false:=by
 cases d with
 | non=>rfl
 | int i=>exact sq (fun c hc=>by have:=uq hc;omega) false
 | str z=>exact A2 _
 | _=>exact h.elim
def Sl {d:D} (h:Vw d):wl d≠[]:=by
 cases d with
 | non=>simp [wl]
 | int i =>
  show gq i≠[];unfold gq;split
  ·simp
  ·exact CQ _
 | str z=>simp [wl]
 | _=>exact h.elim
def zp:∀ (ws:List (List Nat)),ay ws=(ws.intersperse [32]).flatten
 | []=>rfl
 | [w]=>by simp [ay]
 | w::w'::ws=>by
  rw [ay,zp (w'::ws)];simp [List.intersperse]
def tU (ws:List (List Nat)):Txt.join (au [32]) (ws.map au)=au (ay ws):=by
 refine mk_eq ?_;rw [rf,ax,List.map_map,zp];congr 2
 conv=>rhs;rw [<- List.map_id ws]
 exact List.map_congr_left fun w _=>ax w
abbrev wS (z:Str):List Nat:=z.cps.toList
def jO (z:Str):au (wS z)=z:=(tV z).symm
def Ld (zs:List Str):(zs.map wS).map au=zs:=by
 rw [List.map_map]
 conv=>rhs;rw [<- List.map_id zs]
 exact List.map_congr_left fun z _=>jO z
def IW (zs:List Str):mH (zs.map D.str)=some zs:=by
 have:=strs_map (fun z:Str=>z) zs
 simpa using this
def F2 (b:Nat):∀ (ws:List Str),(∀ w∈ws,w.length<=b)->(ws.map (·.length)).sum<=b*ws.length
 | [],_=>by simp
 | w::r,h=>by
  have h1:=h w (by simp);have h2:=F2 b r fun x hx=>h x (List.mem_cons_of_mem _ hx);simp only [List.map_cons,List.sum_cons,List.length_cons,Nat.mul_add,Nat.mul_one];omega
def rK:(Str.ofString " ").length=1:=by decide +kernel
def rf (zs:List Str):Txt.join (Str.ofString " ") zs=au (ay (zs.map wS)):=by
 have:=tU (zs.map wS)
 rw [Ld,<- Ep] at this;exact this
def js (zs:List Str) (h:∀ z∈zs,z.length<=1000) (hl:zs.length<=100):fG (Str.ofString " ") [.lst (zs.map D.str)]=.ok (.str (au (ay (zs.map wS)))):=by
 have:=F2 1000 zs h
 rw [FQ (IW zs) (by rw [rK];omega),rf]
def qV (A ws:List (List Nat)) (h:ws≠[]):∀ (a:List Nat),ay (a::A++ws)=ay (a::A)++32::ay ws:=by
 induction A with
 | nil=>intro a;exact aO a ws h
 | cons b B ih =>
  intro a;show a++32::ay (b::B++ws)=(a++32::ay (b::B))++32::ay ws;rw [ih b];simp
def uQ (f g:Str×Str->List Nat):∀ (cs:List (Str×Str)),ay (cs.flatMap fun c=>[f c,g c])=ay (cs.map fun c=>f c++32::g c)
 | []=>rfl
 | [c]=>rfl
 | c::d::r=>by
  have ih:=uQ f g (d::r);show ay (f c::g c::((d::r).flatMap fun c=>[f c,g c]))=(f c++32::g c)++32::ay ((d::r).map fun c=>f c++32::g c);rw [<- ih];show f c++32::(g c++32::ay ((d::r).flatMap fun c=>[f c,g c]))=_;simp
def jg (cs:List (Str×Str)):List Str:=cs.flatMap fun c=>[c.1,c.2]
def rd (c:Str×Str) (cs:List (Str×Str)):jg (c::cs)=c.1::c.2::jg cs:=rfl
def t4 {cs:List (Str×Str)} {z:Str} (h:z∈jg cs):∃ c∈cs,z=c.1\/z=c.2:=by
 obtain ⟨c,hc,hz⟩:=List.mem_flatMap.mp h;exact ⟨c,hc,by simpa using hz⟩
theorem lL:∀ (cs:List (Str×Str)),(jg cs).length=2*cs.length
 | []=>rfl
 | c::r=>by rw [rd];simp [lL r];omega
def E6 {c:Nat} (h:low c=true):c≠32:=by
 intro e;subst e;exact absurd h (by decide)
def Gn.free {z:Str} (h:Gn z):32∉wS z:=fun hm=>E6 (h.nm.lw' 32 hm) rfl
def kind_free {k:Str} (h:k="number"\/k="text"):32∉wS k:=by rcases h with rfl|rfl <;> decide +kernel
def kind_len {k:Str} (h:k="number"\/k="text"):k.length<=6:=by rcases h with rfl|rfl <;> decide +kernel
def Col.gn {c:Str×Str} (h:Col c):Gn c.1:=⟨h.nm,h.nr⟩
def uE {n:Int} (h1:1<=n) (h2:n<=1000000000):p5 [.int n]=.ok (.str (au (dg n.natAbs))):=by
 unfold p5;simp only;rw [if_pos (by omega),mk_eq (str_int n)];unfold gq;rw [if_neg (by omega)]
def qS {n:Int} (h1:1<=n) (h2:n<=1000000000):(dg n.natAbs).length<=10:=yz 9 _ (by omega)
theorem i_t:(Str.ofString "index"=Str.ofString "table")=False:=by simp;decide +kernel
theorem d_t:(Str.ofString "drop"=Str.ofString "table")=False:=by simp;decide +kernel
theorem p_t:(Str.ofString "put"=Str.ofString "table")=False:=by simp;decide +kernel
theorem d_i:(Str.ofString "drop"=Str.ofString "index")=False:=by simp;decide +kernel
theorem p_i:(Str.ofString "put"=Str.ofString "index")=False:=by simp;decide +kernel
theorem d_p:(Str.ofString "drop"=Str.ofString "put")=False:=by simp;decide +kernel
theorem i_p:(Str.ofString "index"=Str.ofString "put")=False:=by simp;decide +kernel
abbrev vm (nm:Str) (cs:List (Str×Str)):D:=.tup [.str "table",.tup [.str nm,.tup (cs.map ci)]]
abbrev tW (nm:Str) (cs:List (Str×Str)):List Str:=Str.ofString "table"::nm::jg cs
def cw (c:Str×Str):Str:=c.1++Str.ofString " "++c.2
def Ji (c:Str×Str):wS (cw c)=wS c.1++32::wS c.2:=by
 unfold cw wS;rw [bI,bI,Ep,ax];simp
def CK {cs:List (Str×Str)} (hc:Cols cs) (δ:Sd):cA (.one 0) dX (ao aC (ao aC (ao aU (ae 0) (vC (.int 0))) (vC (.str " "))) (ao aU (ae 0) (vC (.int 1)))) (cf [none] δ) (cs.map ci)=.ok (.lst ((cs.map cw).map D.str)):=by
 have h8:=hc.l1;rw [List.map_map];refine gr ci _ rfl (by omega) fun c hcc=>?_;show ao aC (ao aC (ao aU (ae 0) (vC (.int 0))) (vC (.str " "))) (ao aU (ae 0) (vC (.int 1))) [some (.tup [.str c.1,.str c.2])]=_;have h1:=(hc.col c hcc).nm.l1;have h2:=kind_len (hc.col c hcc).kd;walk_at "ew";rw [nG _ _ (by rw [rK];omega)];walk_at "ew";rw [nG _ _ (by rw [bD,rK];omega)];rfl
def uy {α β:Type} {f:α->β} {l:List α} (h:1<=l.length):l.map f≠[]:=by
 cases l with
 | nil=>simp at h
 | cons _ _=>simp
def CH (nm:Str) {cs:List (Str×Str)} (h:1<=cs.length):ay ((Str.ofString "table"::nm::cs.map cw).map wS)=ay ((tW nm cs).map wS):=by
 have e1:(tW nm cs).map wS=(wS (Str.ofString "table"))::[wS nm]++cs.flatMap (fun c=>[wS c.1,wS c.2]):=by
  show _=wS (Str.ofString "table")::wS nm::_;rw [List.map_cons,List.map_cons];congr 2;unfold jg;rw [List.map_flatMap];rfl
 have e2:(Str.ofString "table"::nm::cs.map cw).map wS=(wS (Str.ofString "table"))::[wS nm]++cs.map (fun c=>wS c.1++32::wS c.2):=by
  show _=wS (Str.ofString "table")::wS nm::_;rw [List.map_cons,List.map_cons];congr 2;rw [List.map_map];exact List.map_congr_left fun c _=>Ji c
 rw [e1,e2,qV _ _ (uy h),qV _ _ (by
  cases cs with
  | nil=>simp at h
  | cons c r=>simp),uQ (fun c=>wS c.1) (fun c=>wS c.2)]
def Fh {nm:Str} {cs:List (Str×Str)} (hn:Gn nm) (hc:Cols cs):b8 [vm nm cs]=.ok (.str (au (ay ((tW nm cs).map wS)))):=by
 rw [qm,jX];have h8:=hc.l1;have ej:=js (Str.ofString "table"::nm::cs.map cw) (fun z hz=>by
  rcases List.mem_cons.mp hz with rfl|hz
  ·decide +kernel
  ·rcases List.mem_cons.mp hz with rfl|hz
   ·have:=hn.nm.l1;omega
   ·obtain ⟨c,hcc,rfl⟩:=List.mem_map.mp hz;have h1:=(hc.col c hcc).nm.l1;have h2:=kind_len (hc.col c hcc).kd;unfold cw;rw [bD,bD,rK];omega) (by simp;omega)
 rw [CH nm hc.l0] at ej;have e1:ao aC (dj (ac (vC (.str "table")) (ac (ao aU (ao aU (ae 0) (vC (.int 1))) (vC (.int 0))) aj))) (dm [none] (iR (ao aU (ao aU (ae 0) (vC (.int 1))) (vC (.int 1)))) (.one 0) dX (ao aC (ao aC (ao aU (ae 0) (vC (.int 0))) (vC (.str " "))) (ao aU (ae 0) (vC (.int 1))))) [some (vm nm cs)]=.ok (.lst ((Str.ofString "table"::nm::cs.map cw).map D.str)):=by
  walk_at "ew";rw [CK hc];walk_at "ew";rw [if_pos (by simp;omega)];rfl
 have e2:oD fG (vC (.str " ")) (ac (ao aC (dj (ac (vC (.str "table")) (ac (ao aU (ao aU (ae 0) (vC (.int 1))) (vC (.int 0))) aj))) (dm [none] (iR (ao aU (ao aU (ae 0) (vC (.int 1))) (vC (.int 1)))) (.one 0) dX (ao aC (ao aC (ao aU (ae 0) (vC (.int 0))) (vC (.str " "))) (ao aU (ae 0) (vC (.int 1)))))) aj) [some (vm nm cs)]=.ok (.str (au (ay ((tW nm cs).map wS)))):=by
  rw [LG,v_c,ah,Nf,o9,e1];simp only [ah,o8,um,mi];exact ej
 have eb:bP (ao cq (ao aU (ae 0) (vC (.int 0))) (vC (.str "table"))) [some (vm nm cs)]=.ok true:=by
  walk_at "ew";simp
 rw [aG,eX,eb,ah,eG,if_pos rfl,kB,e2];rfl
abbrev iW (nm cl:Str):List Str:=[Str.ofString "index",nm,cl]
def IL {nm cl:Str} (hn:Gn nm) (hc:Gn cl):∀ z∈iW nm cl,z.length<=1000:=fun z hz=>by
 simp only [List.mem_cons,List.not_mem_nil,or_false] at hz;rcases hz with rfl|rfl|rfl
 ·decide +kernel
 ·have:=hn.nm.l1;omega
 ·have:=hc.nm.l1;omega
def Gr {nm cl:Str} (hn:Gn nm) (hc:Gn cl):b8 [.tup [.str "index",.str nm,.str cl]]=.ok (.str (au (ay ((iW nm cl).map wS)))):=by
 rw [qm,jX];have ej:=js (iW nm cl) (IL hn hc) (by simp);have ej:fG (Str.ofString " ") [.lst [.str (Str.ofString "index"),.str nm,.str cl]]=.ok (.str (au (ay ((iW nm cl).map wS)))):=ej;have es:p5 [.str cl]=.ok (.str cl):=rfl;walk_at "ew";simp only [i_t,if_false];walk_at "ew";simp only [i_p,if_false];walk_at "ew";rw [es];walk_at "ew";rw [ej];walk_at "ew"
abbrev dW (nm:Str) (n:Int):List Str:=[Str.ofString "drop",nm,au (dg n.natAbs)]
def HW {w nm:Str} {n:Int} (hw:w.length<=1000) (hn:Gn nm) (h1:1<=n) (h2:n<=1000000000):∀ z∈[w,nm,au (dg n.natAbs)],z.length<=1000:=fun z hz=>by
 simp only [List.mem_cons,List.not_mem_nil,or_false] at hz;rcases hz with rfl|rfl|rfl
 ·exact hw
 ·have:=hn.nm.l1;omega
 ·have:=qS h1 h2;rw [a9];omega
def NO:(Str.ofString "drop").length<=1000:=by decide +kernel
def US:(Str.ofString "put").length<=1000:=by decide +kernel
def IY {nm:Str} {n:Int} (hn:Gn nm) (h1:1<=n) (h2:n<=1000000000):b8 [.tup [.str "drop",.str nm,.int n]]=.ok (.str (au (ay ((dW nm n).map wS)))):=by
 rw [qm,jX];have ej:=js (dW nm n) (HW NO hn h1 h2) (by simp);have ej:fG (Str.ofString " ") [.lst [.str (Str.ofString "drop"),.str nm,.str (au (dg n.natAbs))]]=.ok (.str (au (ay ((dW nm n).map wS)))):=ej;walk_at "ew";simp only [d_t,if_false];walk_at "ew";simp only [d_p,if_false];walk_at "ew";rw [uE h1 h2];walk_at "ew";rw [ej];walk_at "ew"
abbrev pW (nm:Str) (n:Int) (ds:List D):List (List Nat):=wS (Str.ofString "put")::wS nm::dg n.natAbs::ds.map wl
def MX {nm:Str} {n:Int} {ds:List D} (hn:Gn nm) (h1:1<=n) (h2:n<=1000000000) (hd:∀ d∈ds,Vw d) (l1:1<=ds.length) (l8:ds.length<=8):b8 [.tup [.str "put",.str nm,.int n,.tup ds]]=.ok (.str (au (ay (pW nm n ds)))):=by
 rw [qm,jX];have ej:=js (Str.ofString "put"::nm::au (dg n.natAbs)::ds.map fun d=>au (wl d)) (fun z hz=>by
  rcases List.mem_cons.mp hz with rfl|hz
  ·exact US
  ·rcases List.mem_cons.mp hz with rfl|hz
   ·have:=hn.nm.l1;omega
   ·rcases List.mem_cons.mp hz with rfl|hz
    ·have:=qS h1 h2;rw [a9];omega
    ·obtain ⟨d,hdd,rfl⟩:=List.mem_map.mp hz
     have:=FK (hd d hdd)
     rw [a9];omega) (by simp;omega)
 have e:(Str.ofString "put"::nm::au (dg n.natAbs)::ds.map fun d=>au (wl d)).map wS=pW nm n ds:=by
  rw [List.map_cons,List.map_cons,List.map_cons,List.map_map];unfold pW;congr 2
 rw [e,List.map_cons,List.map_cons,List.map_cons,List.map_map] at ej;have ec:cA (.one 0) dX (ak ff (ac (ae 0) aj)) (cf [none] [some (.tup [.str "put",.str nm,.int n,.tup ds])]) ds=.ok (.lst (ds.map (D.str ∘ fun d=>au (wl d)))):=by
  have:=MH (k:=0) (ε:=ak ff (ac (ae 0) aj)) (δ0:=[none]) (xs:=ds) (D.str ∘ fun d=>au (wl d)) rfl (by omega) fun x hx=>by
   show ak ff (ac (ae 0) aj) [some x]=_;walk_at "ew";exact DJ x (hd x hx)
  exact this
 walk_at "ew";simp only [p_t,if_false];walk_at "ew";rw [uE h1 h2];walk_at "ew";rw [ec];walk_at "ew";rw [if_pos (by simp;omega)];walk_at "ew";rw [ej];walk_at "ew"
def eS:List Nat->List (List Nat)
 | []=>[[]]
 | c::r=>if c=32 then []::eS r else match eS r with
  | w::ws=>(c::w)::ws
  | []=>[[c]]
def lZ (L:List Nat):eS L≠[]:=by
 cases L with
 | nil=>simp [eS]
 | cons c r =>
  unfold eS;split
  ·simp
  ·split <;> simp
def jQ (c:Nat) (r w:List Nat) (ws:List (List Nat)) (h:c≠32) (e:eS r=w::ws):eS (c::r)=(c::w)::ws:=by
 rw [eS,if_neg h,e]
def jw:∀ L:List Nat,ay (eS L)=L
 | []=>rfl
 | c::r=>by
  have ih:=jw r;by_cases h:c=32
  ·subst h;rw [eS,if_pos rfl,aO _ _ (lZ r),ih];rfl
  ·cases e:eS r with
   | nil=>exact absurd e (lZ r)
   | cons w ws =>
    rw [jQ c r w ws h e];rw [e] at ih;cases ws with
    | nil=>show c::w=_;rw [<- ih];rfl
    | cons w' ws' =>
     show (c::w)++32::ay (w'::ws')=_;rw [<- ih];rfl
def iv:∀ (L w:List Nat),w∈eS L->32∉w
 | [],w,h=>by simp [eS] at h;subst h;simp
 | c::r,w,h=>by
  by_cases hc:c=32
  ·rw [eS,if_pos hc] at h;rcases List.mem_cons.mp h with rfl|h
   ·simp
   ·exact iv r w h
  ·cases e:eS r with
   | nil=>exact absurd e (lZ r)
   | cons v ws =>
    rw [jQ c r v ws hc e] at h;rcases List.mem_cons.mp h with rfl|h
    ·intro z;rcases List.mem_cons.mp z with z|z
     ·exact hc z.symm
     ·exact iv r v (by rw [e];simp) z
    ·exact iv r w (by rw [e];simp [h])
def mq {ws:List (List Nat)} (h0:ws≠[]) (hn:∀ w∈ws,32∉w):eS (ay ws)=ws :=
 rH _ _ (fun w hw=>iv _ w hw) hn (lZ _) h0 (jw _)
def uS:∀ (L w:List Nat),w∈eS L->w.length<=L.length/\∀ c∈w,c∈L
 | [],w,h=>by simp [eS] at h;subst h;simp
 | c::r,w,h=>by
  by_cases hc:c=32
  ·rw [eS,if_pos hc] at h;rcases List.mem_cons.mp h with rfl|h
   ·simp
   ·obtain ⟨a,b⟩:=uS r w h;exact ⟨by simp;omega,fun d hd=>List.mem_cons_of_mem _ (b d hd)⟩
  ·cases e:eS r with
   | nil=>exact absurd e (lZ r)
   | cons v ws =>
    rw [jQ c r v ws hc e] at h;rcases List.mem_cons.mp h with rfl|h
    ·obtain ⟨a,b⟩:=uS r v (by rw [e];simp);refine ⟨by simp;omega,fun d hd=>?_⟩;rcases List.mem_cons.mp hd with rfl|hd
     ·simp
     ·exact List.mem_cons_of_mem _ (b d hd)
    ·obtain ⟨a,b⟩:=uS r w (by rw [e];simp [h]);exact ⟨by simp;omega,fun d hd=>List.mem_cons_of_mem _ (b d hd)⟩
def Ku {L:List Nat} (hL:Ln L) {w:List Nat} (h:w∈eS L):Ln w:=hL.sub (uS L w h).1 (uS L w h).2
def uH:∀ L:List Nat,(eS L).length<=L.length+1
 | []=>by simp [eS]
 | c::r=>by
  have ih:=uH r;by_cases hc:c=32
  ·rw [eS,if_pos hc];simp;omega
  ·cases e:eS r with
   | nil=>exact absurd e (lZ r)
   | cons v ws=>rw [jQ c r v ws hc e];rw [e] at ih;simp at ih ⊢;omega
def FF:Str.ofString " "=mO:=by decide +kernel
abbrev ds_ (ws:List (List Nat)):List D:=ws.map fun w=>D.str (au w)
def wn (L:List Nat) (hl:L.length<=1000000):m7 (au L) [.str (Str.ofString " ")]=.ok (.lst (ds_ (eS L))):=by
 have h:=zu (z:=au L) (ws:=eS L) ((ax L).trans (jw L).symm) (lZ L) (fun w hw=>iv L w hw);have h2:Txt.split (au L) mO=(eS L).map au:=by
  have:=congrArg (List.map au) h
  rw [List.map_map] at this;rw [<- this];have e:(au ∘ fun p:Str=>p.cps.toList)=id:=by funext z;exact (tV z).symm
  rw [e,List.map_id]
 unfold m7;simp only;rw [FF,if_pos ⟨rfl,by rw [a9];exact hl⟩,h2,List.map_map];rfl
def nu:Option D->R D
 | some d=>.ok d
 | none=>.er "BadLog"
def ft (c:Str) (hc:c.length<=100) (L:List Nat) (hL:Ln L) (δ:Sd) (hv:ae 0 δ=.ok (.str (au L))):vw "BadLog" (ac (sA c (ae 0)) aj) δ=.er "BadLog":=by
 have e:sA c (ae 0) δ=.ok (.str (c++reprText (au L))):=by
  unfold sA;rw [hv];show (if _ then _ else _)=_;rw [if_pos ⟨by rw [a9];have:=hL.1;omega,by
   rw [ax];intro k hk
   have:=hL.2 k hk
   have:k < 127:=by omega
   exact Nat.lt_of_lt_of_le this (by decide)⟩]
 have e2:ac (sA c (ae 0)) aj δ=.ok [.str (c++reprText (au L))]:=by
  unfold ac aj;rw [e];rfl
 unfold vw;rw [e2];rfl
def dv (w:List Nat):Int:=(NumText.digitsVal w:Int)
abbrev VM (w:List Nat):Prop:=w≠[]/\w.length<=10/\w.all vO=true/\w[0]?≠some 48/\1<=dv w/\dv w<=1000000000
def rn (w:List Nat):Option Int:=if VM w then some (dv w) else none
def HG (n:Int):dM [.int n]=.ok (.bl (decide (1<=n/\n<=1000000000))):=by
 rw [sX,fZ];unfold gN;walk_at "ew";by_cases h1:1<=n
 ·rw [if_pos h1];walk_at "ew";simp [h1]
 ·rw [if_neg h1];walk_at "ew";simp [h1]
def Fm (L:List Nat) (hl:L.length<=900) (o:Option D):ak qj (ac (dm [none] (iR (ae 0)) (.one 0) dX (ao vo (ae 0) (vC eh))) aj) [some (.str (au L)),o]=.ok (.bl (L.all vO)):=by
 have:=wR L hl none
 exact this
def mI (w:List Nat) (hL:Ln w):bU [.str (au w)]=nu ((rn w).map D.int):=by
 have hl:=hL.1;rw [qq,eJ];have e1:vp (bP (ao cq (ae 0) (vC (.str "")))) (vp (bP (ao vn (ak bO (ac (ae 0) aj)) (vC bF))) (eI (cj (ak qj (ac (dm [none] (iR (ae 0)) (.one 0) dX (ao vo (ae 0) (vC eh))) aj))))) [some (.str (au w)),none]=.ok (decide (w=[])||(decide (10 < w.length)||!w.all vO)):=by
  have ea:ao cq (ae 0) (vC (.str "")) [some (.str (au w)),none]=.ok (.bl (decide (w=[]))):=by
   simp only [jd,v_var,sK,v_c,g7,ah,List.getElem?_cons_zero,List.getElem?_cons_succ,Gq];rw [l0];congr 2;exact decide_eq_decide.mpr mk_inj
  have eb:ao vn (ak bO (ac (ae 0) aj)) (vC bF) [some (.str (au w)),none]=.ok (.bl (decide (10 < w.length))):=by
   unfold bF;walk_at "ew";rw [pV,a9,if_pos (by omega)];walk_at "ew";congr 2;exact decide_eq_decide.mpr (by omega)
  rw [Da,sO,ea,ah,tY,ah,wo];cases decide (w=[]) with
  | true=>rfl
  | false =>
   rw [if_neg Bool.false_ne_true,Da,sO,eb,ah,tY,ah,wo];cases decide (10 < w.length) with
   | true=>rfl
   | false =>
    rw [if_neg Bool.false_ne_true,Ew,Fw,Fm _ (by omega)];rfl
 rw [aG,eX,e1,ah,eG];by_cases h0:w=[]
 ·rw [decide_eq_true h0,Bool.true_or,if_pos rfl,ft _ (by decide +kernel) _ hL _ rfl];unfold rn;rw [if_neg (fun z=>z.1 h0)];rfl
 by_cases h10:10 < w.length
 ·rw [decide_eq_true h10,Bool.true_or,Bool.or_true,if_pos rfl,ft _ (by decide +kernel) _ hL _ rfl];unfold rn;rw [if_neg (fun z=>absurd z.2.1 (by omega))];rfl
 by_cases hd0:¬ w.all vO=true
 ·have hd:=hd0;rw [Bool.eq_false_iff.mpr hd,Bool.not_false,Bool.or_true,Bool.or_true,if_pos rfl,ft _ (by decide +kernel) _ hL _ rfl];unfold rn;rw [if_neg (fun z=>hd z.2.2.1)];rfl
 have hd:w.all vO=true:=Classical.not_not.mp hd0;rw [decide_eq_false h0,decide_eq_false h10,hd];rw [if_neg (by decide),bV,ah,aA];have hd':∀ c∈w,48<=c/\c<=57:=fun c hc=>by
  have:=List.all_eq_true.mp hd c hc
  unfold vO at this;exact of_decide_eq_true this
 have hint:qa [.str (au w)]=.ok (.int (dv w)):=by
  have:=intText_digits (x:=au w) (by rw [ax];exact hd') (by rw [ax];exact h0) (by rw [a9];omega)
  rw [ax] at this;unfold qa;simp only;rw [this];simp only;rw [a9,if_pos (by omega)];rfl
 have E2:aJ 1 (ak qa (ac (ae 0) aj)) [some (.str (au w)),none]=.ok (.nx [some (.str (au w)),some (.int (dv w))]):=by
  walk_at "ew";rw [hint];walk_at "ew"
 rw [aG,E2,ah,aA];have e3:vp (cj (oD (uf fun x y=>.bl (Txt.startswith x y)) (ae 0) (ac (vC (.str "0")) aj))) (eI (cj (ak (aV dM) (ac (ae 1) aj)))) [some (.str (au w)),some (.int (dv w))]=.ok (decide (w[0]?=some 48)||!decide (1<=dv w/\dv w<=1000000000)):=by
  walk_at "ew";unfold uf;simp only;rw [W7,xC,ax];cases decide (w[0]?=some 48) with
  | true=>rfl
  | false =>
   walk_at "ew";rw [bB (HG _)];rfl
 rw [aG,eX,e3,ah,eG];by_cases h4:w[0]?=some 48
 ·rw [decide_eq_true h4,Bool.true_or,if_pos rfl,ft _ (by decide +kernel) _ hL _ rfl];unfold rn;rw [if_neg (fun z=>z.2.2.2.1 h4)];rfl
 by_cases h5:1<=dv w/\dv w<=1000000000
 ·rw [decide_eq_false h4,decide_eq_true h5,if_neg (by decide),bV,ah,aA];unfold rn;rw [if_pos ⟨h0,by omega,hd,h4,h5.1,h5.2⟩];rfl
 ·rw [decide_eq_false h4,decide_eq_false h5,if_pos (by decide),ft _ (by decide +kernel) _ hL _ rfl];unfold rn;rw [if_neg (fun z=>h5 z.2.2.2.2)];rfl
def hZ:List Nat->List Nat
 | []=>[]
 | c::r=>if c=32 then [] else c::hZ r
def fI:List Nat->List Nat
 | []=>[]
 | c::r=>if c=32 then r else fI r
def xc:∀ L:List Nat,32∉hZ L
 | []=>by simp [hZ]
 | c::r=>by
  unfold hZ;by_cases hc:c=32
  ·rw [if_pos hc];simp
  ·rw [if_neg hc];intro z;rcases List.mem_cons.mp z with z|z
   ·exact hc z.symm
   ·exact xc r z
def zQ:∀ (L:List Nat),32∈L->L=hZ L++32::fI L
 | [],h=>by cases h
 | c::r,h=>by
  unfold hZ fI;by_cases hc:c=32
  ·rw [if_pos hc,if_pos hc,hc];rfl
  ·have hr:32∈r:=by
    rcases List.mem_cons.mp h with z|z
    ·exact absurd z.symm hc
    ·exact z
   rw [if_neg hc,if_neg hc,List.cons_append,<- zQ r hr]
def AY:∀ {L:List Nat},32∉L->hZ L=L
 | [],_=>rfl
 | c::r,h=>by
  have hc:c≠32:=fun z=>h (by simp [z]);unfold hZ;rw [if_neg hc,AY fun z=>h (List.mem_cons_of_mem _ z)]
def pX:∀ {L:List Nat},32∉L->fI L=[]
 | [],_=>rfl
 | c::r,h=>by
  have hc:c≠32:=fun z=>h (by simp [z]);unfold fI;rw [if_neg hc,pX fun z=>h (List.mem_cons_of_mem _ z)]
def pp (w r:List Nat) (h:32∉w):hZ (w++32::r)=w/\fI (w++32::r)=r:=by
 have h2:=zQ (w++32::r) (by simp);obtain ⟨e1,e2⟩:=ri _ _ _ _ (xc _) h h2.symm;exact ⟨e1,e2⟩
def t7:∀ {L:List Nat},(hZ L).length<=L.length/\∀ c∈hZ L,c∈L
 | []=>⟨Nat.le_refl _,fun c hc=>hc⟩
 | d::r=>by
  obtain ⟨h1,h2⟩:=t7 (L:=r);unfold hZ;by_cases hc:d=32
  ·rw [if_pos hc];simp
  ·rw [if_neg hc];refine ⟨by simp;exact h1,fun c hc=>?_⟩;rcases List.mem_cons.mp hc with rfl|z
   ·simp
   ·exact List.mem_cons_of_mem _ (h2 c z)
def me:∀ {L:List Nat},(fI L).length<=L.length/\∀ c∈fI L,c∈L
 | []=>⟨Nat.le_refl _,fun c hc=>hc⟩
 | d::r=>by
  obtain ⟨h1,h2⟩:=me (L:=r);unfold fI;by_cases hc:d=32
  ·rw [if_pos hc];exact ⟨by simp,fun c hc=>List.mem_cons_of_mem _ hc⟩
  ·rw [if_neg hc];exact ⟨by simp;omega,fun c hc=>List.mem_cons_of_mem _ (h2 c hc)⟩
def DW {z:Str} (h:32∉z.cps.toList):(Txt.partition z mO).1.cps.toList=z.cps.toList/\(Txt.partition z mO).2.2.cps.toList=[]:=by
 rcases StrLaws.occ_head z mO 1 (Nat.le_refl 1) with ⟨h1,_⟩|⟨i,q,e,h2,h3⟩
 ·unfold Txt.partition;rw [h1];exact ⟨rfl,rfl⟩
 ·have:=(StrLaws.subAt_one z 32 i).mp h2
  exact absurd (List.mem_of_getElem? this) h
def Ab (L:List Nat) (hl:L.length<=1000):∃ x,sd (au L) [.str (Str.ofString " ")]=.ok (.tup [.str (au (hZ L)),x,.str (au (fI L))]):=by
 unfold sd;simp only;rw [FF,if_pos ⟨rfl,by rw [a9];omega⟩];by_cases h:32∈L
 ·obtain ⟨p1,p2,p3⟩:=Bg (z:=au L) ((ax L).trans (zQ L h)) (xc L);rw [mk_eq p1,mk_eq p3];exact ⟨_,rfl⟩
 ·obtain ⟨p1,p3⟩:=DW (z:=au L) (by rw [ax];exact h);rw [ax] at p1;rw [mk_eq p1,mk_eq p3,AY h,pX h];exact ⟨_,rfl⟩
def zB (L:List Nat) (a:Nat) (hl:L.length<=1000):jP (.str (au L)) (some (a:Int)) none=.ok (.str (au (L.drop a))):=by
 by_cases h:a<=L.length
 ·exact Cy L a h (by omega)
 ·unfold jP;simp only;rw [a9,if_pos (by omega)];congr 2;unfold bW;refine mk_eq ?_;rw [ax,a9];have e1:HT.sIx L.length 0 (some (a:Int))=L.length:=by unfold HT.sIx;simp;rw [if_neg (by omega)];omega
  have e2:HT.sIx L.length L.length none=L.length:=by unfold HT.sIx;simp
  rw [e1,e2,List.drop_eq_nil_of_le (by omega:L.length<=a)];simp
def bZ (w:List Nat):Bool:=ng (au w)
def xG (w:List Nat) (hw:w.length<=1000):ck [.str (au w)]=.ok (.bl (bZ w)):=x8 (.str (au w)) (show (au w).length<=1000 by rw [a9];exact hw)
def DR (L:List Nat):Option D :=
 if bZ (hZ (L.drop 4))=true then match rn (hZ (fI (L.drop 4))) with
  | some n=>if fI (fI (L.drop 4))=[] then none else match ce (cQ [] false (fI (fI (L.drop 4)))) with
   | some ds=>if ds.length<=8 then some (.tup [.str "put",.str (au (hZ (L.drop 4))),.int n,.tup ds]) else none
   | none=>none
  | none=>none
 else none
def lD:∀ (ws:List (List Nat)) (ds:List D),ce ws=some ds->ws.length=ds.length/\∀ w∈ws,∃ d,z6 w=some d
 | [],ds,h=>by simp [ce] at h;subst h;exact ⟨rfl,fun w hw=>nomatch hw⟩
 | w::r,ds,h=>by
  unfold ce at h;cases e1:z6 w with
  | none=>rw [e1] at h;cases h
  | some d =>
   rw [e1] at h;dsimp only at h;cases e2:ce r with
   | none=>rw [e2] at h;cases h
   | some es =>
    rw [e2] at h;cases h;obtain ⟨h1,h2⟩:=lD r es e2;refine ⟨by simp [h1],fun x hx=>?_⟩;rcases List.mem_cons.mp hx with rfl|hx
    ·exact ⟨d,e1⟩
    ·exact h2 x hx
def CZ {i n:Nat} {F:List D->R D} {α β:FA} {mt:Str->Bool} {cn:Str} {δ:Sd} {ds:List D} {d:D} (ha:α δ=.ok ds) (hF:F ds=.ok d):pJ i F α mt n cn β δ=.ok (.nx (δ.set i (some d))):=by
 unfold pJ;rw [ha];dsimp only;rw [hF]
def IJ {i n:Nat} {F:List D->R D} {α β:FA} {mt:Str->Bool} {cn x:Str} {δ:Sd} {ds es:List D} (ha:α δ=.ok ds) (hF:F ds=.er x) (hm:mt x=true) (hb:β (δ.set n none)=.ok es) (hl:es.length<=10):pJ i F α mt n cn β δ=.er cn:=by
 unfold pJ;rw [ha];dsimp only;rw [hF];dsimp only;rw [if_pos hm,hb];dsimp only;rw [if_pos hl]
def PV:rJ ["BadValue"] "BadValue"=true:=by decide +kernel
def TC:bO [.str (Str.ofString "put ")]=.ok (.int 4):=by with_unfolding_all rfl
def KN (c:Str) (hc:c.length<=100) (L:List Nat) (hL:Ln L) (δ:Sd) (hv:ae 0 δ=.ok (.str (au L))):∃ d,ac (sA c (ae 0)) aj δ=.ok [d]:=by
 have e:sA c (ae 0) δ=.ok (.str (c++reprText (au L))):=by
  unfold sA;rw [hv];show (if _ then _ else _)=_;rw [if_pos ⟨by rw [a9];have:=hL.1;omega,by
   rw [ax];intro k hk
   have:=hL.2 k hk
   have:k < 127:=by omega
   exact Nat.lt_of_lt_of_le this (by decide)⟩]
 unfold ac aj;rw [e];exact ⟨_,rfl⟩
def GC (L:List Nat) (hL:Ln L):jT [.str (au L)]=nu (DR L):=by
 have hl:=hL.1;have h4:Ln (L.drop 4):=hL.sub (by simp) fun c hc=>List.mem_of_mem_drop hc;have hw1:Ln (hZ (L.drop 4)):=h4.sub t7.1 t7.2;have hr1:Ln (fI (L.drop 4)):=h4.sub me.1 me.2;have hw2:Ln (hZ (fI (L.drop 4))):=hr1.sub t7.1 t7.2;have hr2:Ln (fI (fI (L.drop 4))):=hr1.sub me.1 me.2;obtain ⟨x1,ep1⟩:=Ab (L.drop 4) (by have:=h4.1;omega);obtain ⟨x2,ep2⟩:=Ab (fI (L.drop 4)) (by have:=hr1.1;omega);have ec:jP (.str (au L)) (some 4) none=.ok (.str (au (L.drop 4))):=zB L 4 (by omega);have en:=xG (hZ (L.drop 4)) (by have:=hw1.1;omega);have em:=mI _ hw2;have er:=zN _ hr2;unfold DR;generalize hZ (L.drop 4)=w1 at *;generalize fI (L.drop 4)=r1 at *;generalize hZ r1=w2 at *;generalize fI r1=r2 at *;rw [A7,ml];have E1:aJ 1 (oD sd (qe jP (ae 0) (bR (ak bO (ac (vC (.str "put ")) aj))) eN) (ac (vC (.str " ")) aj)) [some (.str (au L)),none,none,none,none,none]=.ok (.nx [some (.str (au L)),some (.tup [.str (au w1),x1,.str (au r1)]),none,none,none,none]):=by
  walk_at "ew";rw [TC];walk_at "ew";rw [ec];walk_at "ew";rw [ep1];walk_at "ew"
 have E2:aJ 2 (oD sd (ao aU (ae 1) (vC (.int 2))) (ac (vC (.str " ")) aj)) [some (.str (au L)),some (.tup [.str (au w1),x1,.str (au r1)]),none,none,none,none]=.ok (.nx [some (.str (au L)),some (.tup [.str (au w1),x1,.str (au r1)]),some (.tup [.str (au w2),x2,.str (au r2)]),none,none,none]):=by
  walk_at "ew";rw [ep2];walk_at "ew"
 rw [aG,E1,ah,aA,aG,E2,ah,aA];have e3:eI (cj (ak (aV ck) (ac (ao aU (ae 1) (vC (.int 0))) aj))) [some (.str (au L)),some (.tup [.str (au w1),x1,.str (au r1)]),some (.tup [.str (au w2),x2,.str (au r2)]),none,none,none]=.ok (!bZ w1):=by
  walk_at "ew";rw [bB en];rfl
 rw [aG,eX,e3,ah,eG];cases bZ w1 with
 | false =>
  rw [if_pos (show (!false)=true from rfl),ft _ (by decide +kernel) _ hL _ rfl];rfl
 | true =>
  rw [if_neg (by decide),bV,ah,aA,if_pos rfl];have e4:aJ 3 (ak bU (ac (ao aU (ae 2) (vC (.int 0))) aj)) [some (.str (au L)),some (.tup [.str (au w1),x1,.str (au r1)]),some (.tup [.str (au w2),x2,.str (au r2)]),none,none,none]=(nu ((rn w2).map D.int)).bind fun d=>.ok (.nx [some (.str (au L)),some (.tup [.str (au w1),x1,.str (au r1)]),some (.tup [.str (au w2),x2,.str (au r2)]),some d,none,none]):=by
   walk_at "ew";rw [em];rfl
  rw [aG,e4];cases rn w2 with
  | none=>rfl
  | some n =>
   show fin ((R.ok _).bind _)=nu (if r2=[] then none else match ce (cQ [] false r2) with
    | some ds=>if ds.length<=8 then some (.tup [.str "put",.str (au w1),.int n,.tup ds]) else none
    | none=>none)
   rw [ah,aA,aG];have ha:ac (ao aU (ae 2) (vC (.int 2))) aj [some (.str (au L)),some (.tup [.str (au w1),x1,.str (au r1)]),some (.tup [.str (au w2),x2,.str (au r2)]),some (.int n),none,none]=.ok [.str (au r2)]:=by
    walk_at "ew"
   have e6:∀ (ds:List D) (h:ds.length<=1000),vp (bP (ao D6 (ak bO (ac (ae 4) aj)) (vC (.int 1)))) (bP (ao vn (ak bO (ac (ae 4) aj)) (vC iw))) [some (.str (au L)),some (.tup [.str (au w1),x1,.str (au r1)]),some (.tup [.str (au w2),x2,.str (au r2)]),some (.int n),some (.lst ds),none]=.ok (decide (ds.length < 1)||decide (8 < ds.length)):=fun ds h=>by
    unfold iw;walk_at "ew";by_cases h1:ds.length < 1
    ·rw [if_pos (by omega),decide_eq_true h1];rfl
    ·rw [if_neg (by omega),decide_eq_false h1,Bool.false_or];walk_at "ew";congr 1;exact decide_eq_decide.mpr (by omega)
   by_cases hr:r2=[]
   ·rw [if_pos hr] at er;rw [if_pos hr,CZ ha er,ah,aA];show fin (aF _ _ [some (.str (au L)),some (.tup [.str (au w1),x1,.str (au r1)]),some (.tup [.str (au w2),x2,.str (au r2)]),some (.int n),some (.lst []),none])=_;rw [aG,eX,e6 [] (by simp),ah,eG,if_pos (by decide),ft _ (by decide +kernel) _ hL _ rfl];rfl
   ·rw [if_neg hr] at er;rw [if_neg hr];cases hq:ce (cQ [] false r2) with
    | none =>
     rw [hq] at er;obtain ⟨d,hb⟩:=KN "no values: " (by decide +kernel) L hL (List.set [some (.str (au L)),some (.tup [.str (au w1),x1,.str (au r1)]),some (.tup [.str (au w2),x2,.str (au r2)]),some (.int n),none,none] 5 none) rfl;rw [IJ ha er PV hb (by simp)];rfl
    | some ds =>
     rw [hq] at er;have hlen:ds.length<=900:=by
      have h1:=(lD _ _ hq).1;have h2:=tF r2 [] false
      have:=hr2.1
      omega
     have h1:¬ ds.length < 1:=by
      have h1:=(lD _ _ hq).1;have h2:=tm r2 [] false;intro z
      have:(cQ [] false r2).length=0:=by omega
      exact h2 (List.length_eq_zero_iff.mp this)
     rw [CZ ha er,ah,aA];show fin (aF _ _ [some (.str (au L)),some (.tup [.str (au w1),x1,.str (au r1)]),some (.tup [.str (au w2),x2,.str (au r2)]),some (.int n),some (.lst ds),none])=_;rw [aG,eX,e6 ds (by omega),ah,eG,decide_eq_false h1,Bool.false_or];dsimp only;by_cases h8:ds.length<=8
     ·rw [if_neg (by rw [decide_eq_false (by omega)];decide),bV,ah,aA,if_pos h8];walk_at "ew";rfl
     ·rw [if_pos (by rw [decide_eq_true (by omega)]),ft _ (by decide +kernel) _ hL _ rfl,if_neg h8];rfl
def bh:List (List Nat)->List (Str×Str)
 | a::b::r=>(au a,au b)::bh r
 | _=>[]
def pairs_len:∀ r:List (List Nat),(bh r).length=r.length/2
 | []=>rfl
 | [_]=>by simp [bh]
 | a::b::r=>by
  have ih:=pairs_len r;show (bh r).length+1=(r.length+1+1)/2;omega
def pairs_at:∀ (r:List (List Nat)) (k:Nat),k < (bh r).length->∃ a b,r[2*k]?=some a/\r[2*k+1]?=some b/\(bh r)[k]?=some (au a,au b)
 | [],k,h=>by simp [bh] at h
 | [_],k,h=>by simp [bh] at h
 | a::b::r,0,h=>⟨a,b,rfl,rfl,rfl⟩
 | a::b::r,k+1,h=>by
  obtain ⟨x,y,h1,h2,h3⟩:=pairs_at r k (by simp [bh] at h;exact h);have e1:2*(k+1)=2*k+2:=by omega
  have e2:2*(k+1)+1=2*k+1+2:=by omega
  exact ⟨x,y,by rw [e1];exact h1,by rw [e2];exact h2,h3⟩
def wX:∀ (r:List (List Nat)) (c:Str×Str),c∈bh r->∃ a b,a∈r/\b∈r/\c=(au a,au b)
 | [],c,h=>by simp [bh] at h
 | [_],c,h=>by simp [bh] at h
 | a::b::r,c,h=>by
  rcases List.mem_cons.mp h with rfl|h
  ·exact ⟨a,b,by simp,by simp,rfl⟩
  ·obtain ⟨x,y,h1,h2,h3⟩:=wX r c h;exact ⟨x,y,by simp [h1],by simp [h2],h3⟩
def pR (c:Str×Str):Bool:=ng c.1&&sF (.str c.2)
def colsB (cs:List (Str×Str)):Bool:=decide (1<=cs.length/\cs.length<=8)&&(cs.all pR&&decide ((cs.map (·.1)).Nodup))
def uM {z:Str} (h:ng z=true):Gn z:=by
 unfold ng at h;simp only [Bool.and_eq_true,Bool.not_eq_true',decide_eq_false_iff_not,decide_eq_true_eq] at h;obtain ⟨h1,h2,h3,h4⟩:=h;refine ⟨⟨?_,h2,h3⟩,h4⟩;rcases Nat.eq_zero_or_pos z.length with h|h
 ·refine absurd (tJ ?_) h1
  have:z.cps.toList.length=0:=by rw [dL];exact h
  rw [List.length_eq_zero_iff.mp this];decide +kernel
 ·exact h
def D2 {k:Str} (h:sF (.str k)=true):k="number"\/k="text":=by
 have:decide (k∈([Str.ofString "number",Str.ofString "text"]:List Str))=true:=by
  rw [<- m5];exact h
 simpa using this
def F3 {c:Str×Str} (h:pR c=true):Col c:=by
 unfold pR at h;rw [Bool.and_eq_true] at h;exact ⟨(uM h.1).nm,(uM h.1).nr,D2 h.2⟩
def Gn.name' {z:Str} (h:Gn z):ng z=true:=h.nm.name h.nr
def Hf (cs:List (Str×Str)) (hl:∀ c∈cs,c.1.length<=1000/\c.2.length<=1000):bx [.tup (cs.map ci)]=.ok (.bl (colsB cs)):=by
 unfold colsB;by_cases h1:1<=cs.length/\cs.length<=8
 ·rw [decide_eq_true h1,Bool.true_and];by_cases h2:cs.all pR=true
  ·have hc:∀ c∈cs,Col c:=fun c hc=>F3 (List.all_eq_true.mp h2 c hc);rw [h2,Bool.true_and];by_cases h3:(cs.map (·.1)).Nodup
   ·rw [Jy cs h1 hc h3,decide_eq_true h3]
   ·rw [HH cs hc h3,decide_eq_false h3]
  ·rw [Bool.eq_false_iff.mpr h2,Bool.false_and];refine G9 _ (by rw [List.length_map];omega) (fun d hd=>?_) ?_
   ·obtain ⟨c,hc,rfl⟩:=List.mem_map.mp hd;exact ⟨(hl c hc).1,(hl c hc).2⟩
   ·obtain ⟨c,hc,h⟩:=List.all_eq_false.mp (Bool.eq_false_iff.mpr h2);exact ⟨ci c,List.mem_map_of_mem hc,Bool.eq_false_iff.mpr h⟩
 ·rw [decide_eq_false h1,Bool.false_and];exact x9 _ (by rw [List.length_map];omega)
def Cols.colsB {cs:List (Str×Str)} (h:Cols cs):colsB cs=true:=by
 unfold T51.colsB
 have:cs.all pR=true:=by
  rw [List.all_eq_true];intro c hc;have k:=h.col c hc;unfold pR;rw [k.gn.name',B2 k.kd];rfl
 rw [decide_eq_true ⟨h.l0,h.l1⟩,this,decide_eq_true h.nd];rfl
def II {cs:List (Str×Str)} (h:colsB cs=true):Cols cs:=by
 unfold colsB at h;simp only [Bool.and_eq_true,decide_eq_true_eq] at h;exact ⟨h.1.1,h.1.2,fun c hc=>F3 (List.all_eq_true.mp h.2.1 c hc),h.2.2⟩
def PM {i j c:Int} (h:-(2 ^ 40)<=i/\i < 2 ^ 40/\-(2 ^ 40)<=j/\j < 2 ^ 40/\0 < c/\c<=1000):Gm [.int i,.int j,.int c]=.ok (pL i c (mY i j c)):=if_pos h
def step_eq (L:Nat) (h2:L<=1000):Gm [.int 2,.int ((L:Int) - 1),.int 2]=.ok (pL 2 2 ((L - 2)/2)):=by
 have e:mY 2 ((L:Int) - 1) 2=(L - 2)/2:=by
  unfold mY Builtin.Range.rangeSize;rw [if_pos (by decide)];by_cases h:(2:Int) < (L:Int) - 1
  ·rw [if_pos h]
   have:((L:Int) - 1 - 2 - 1)/2+1=(((L - 2)/2:Nat):Int):=by omega
   rw [this];exact Int.toNat_natCast _
  ·rw [if_neg h];omega
 have h:=PM (i:=2) (j:=(L:Int) - 1) (c:=2) ⟨by decide,by decide,by omega,by omega,by decide,by decide⟩;rw [e] at h;exact h
def LK (ws:List (List Nat)):Option D:=match ws with
 | _::nm::r=>if r.length=2*(bh r).length/\bZ nm=true/\colsB (bh r)=true then some (vm (au nm) (bh r)) else none
 | _=>none
def AM (ws:List (List Nat)) (h0:ws≠[]) (hl:ws.length<=900) (hw:∀ w∈ws,w.length<=1000):gG [.lst (ds_ ws)]=nu (LK ws):=by
 rw [ym,ju];obtain ⟨cs,hcs⟩:∃ cs,cs=bh (ws.drop 2):=⟨_,rfl⟩;have hcl:cs.length=(ws.length - 2)/2:=by rw [hcs,pairs_len,List.length_drop]
 have eL:bO [.lst (ds_ ws)]=.ok (.int (ws.length:Int)):=by rw [Cb,List.length_map]
 have e1:ut (ac (vC (.int 2)) (ac (ao jj (ak bO (ac (ae 0) aj)) (vC (.int 1))) (ac (vC (.int 2)) aj))) [some (.lst (ds_ ws)),none,none]=.ok (pL 2 2 cs.length):=by
  have ea:(ac (vC (.int 2)) (ac (ao jj (ak bO (ac (ae 0) aj)) (vC (.int 1))) (ac (vC (.int 2)) aj))) [some (.lst (ds_ ws)),none,none]=.ok [.int 2,.int ((ws.length:Int) - 1),.int 2]:=by
   simp only [o9,um,v_c,jd,xh,v_var,sK,List.getElem?_cons_zero,ah,o8,mi,g7];rw [eL];simp only [ah,g7,o8,mi,uA,v_c,o9,um]
  rw [Mr,ea,ah,hcl];exact step_eq ws.length (by omega)
 have e2:cA (.one 0) dX (kl (ac (ao aU (ae 1) (ae 0)) (ac (ao aU (ae 1) (ao aC (ae 0) (vC (.int 1)))) aj))) (cf [none,some 0] [some (.lst (ds_ ws)),none,none]) (pL 2 2 cs.length)=.ok (.lst (cs.map ci)):=by
  have:=gr (k:=0) (ε:=kl (ac (ao aU (ae 1) (ae 0)) (ac (ao aU (ae 1) (ao aC (ae 0) (vC (.int 1)))) aj))) (δ0:=[none,some (.lst (ds_ ws))]) (as:=List.range cs.length) (fun (k:Nat)=>D.int (2+(k:Nat)*2)) (fun k=>((cs[k]?).map ci).getD .non) rfl (by rw [List.length_range];omega) fun k hk=>by
   have hk:=List.mem_range.mp hk;obtain ⟨a,b,g1,g2,g3⟩:=pairs_at (ws.drop 2) k (by rw [<- hcs];exact hk);rw [List.getElem?_drop] at g1 g2;rw [<- hcs] at g3;have i1:aU (.lst (ds_ ws)) (.int (2+(k:Nat)*2))=.ok (.str (au a)):=by
    have:(2+(k:Nat)*2:Int)=((2+2*k:Nat):Int):=by omega
    rw [this];refine sR (bt ?_);rw [List.getElem?_map,g1];rfl
   have i2:aU (.lst (ds_ ws)) (.int (2+(k:Nat)*2+1))=.ok (.str (au b)):=by
    have:(2+(k:Nat)*2+1:Int)=((2+(2*k+1):Nat):Int):=by omega
    rw [this];refine sR (bt ?_);rw [List.getElem?_map,g2];rfl
   show kl (ac (ao aU (ae 1) (ae 0)) (ac (ao aU (ae 1) (ao aC (ae 0) (vC (.int 1)))) aj)) [some (.int (2+(k:Nat)*2)),some (.lst (ds_ ws))]=_;generalize D.lst (ds_ ws)=Wd at i1 i2;walk_at "ew";rw [i1];walk_at "ew";rw [i2];walk_at "ew";rw [g3];rfl
  have e3:(List.range cs.length).map (fun k=>((cs[k]?).map ci).getD .non)=cs.map ci:=by
   apply List.ext_getElem?
   intro j;rw [List.getElem?_map,List.getElem?_map];by_cases hj:j < cs.length
   ·rw [List.getElem?_range hj,List.getElem?_eq_getElem hj];simp [List.getElem?_eq_getElem hj]
   ·rw [List.getElem?_eq_none (by simpa using hj),List.getElem?_eq_none (by omega)];rfl
  rw [e3] at this;exact this
 have E1:aJ 1 (dm [none,some 0] (ut (ac (vC (.int 2)) (ac (ao jj (ak bO (ac (ae 0) aj)) (vC (.int 1))) (ac (vC (.int 2)) aj)))) (.one 0) dX (kl (ac (ao aU (ae 1) (ae 0)) (ac (ao aU (ae 1) (ao aC (ae 0) (vC (.int 1)))) aj)))) [some (.lst (ds_ ws)),none,none]=.ok (.nx [some (.lst (ds_ ws)),some (.lst (cs.map ci)),none]):=by
  rw [wN,FI,e1,ah,e2,ah,Cl];rfl
 have eb:ao wW (ak bO (ac (ae 0) aj)) (ao aC (vC (.int 2)) (ao dC (vC (.int 2)) (ak bO (ac (ae 1) aj)))) [some (.lst (ds_ ws)),some (.lst (cs.map ci)),none]=.ok (.bl (!decide (ws.length=2+2*cs.length))):=by
  simp only [jd,xh,o9,um,v_var,sK,List.getElem?_cons_zero,List.getElem?_cons_succ,ah,o8,mi,g7,v_c];rw [eL,ah,g7];simp only [jd,xh,o9,um,v_var,sK,List.getElem?_cons_zero,List.getElem?_cons_succ,ah,o8,mi,g7,v_c,Cb];rw [BZ (by decide),ah,Kx,ah,List.length_map,Kd];congr 3;exact decide_eq_decide.mpr (by omega)
 rw [aG,E1,ah,aA,aG,eX,sO,eb,ah,tY,ah,eG];clear e1 e2 E1 eb eL;rcases ws with _|⟨w,_|⟨nm,r⟩⟩
 ·exact absurd rfl h0
 ·have:cs=[]:=by rw [hcs];rfl
  subst this;rfl
 ·have hcs:cs=bh r:=hcs;have hnm:nm.length<=1000:=hw nm (by simp);show _=nu (if r.length=2*(bh r).length/\bZ nm=true/\colsB (bh r)=true then some (vm (au nm) (bh r)) else none);rw [<- hcs];by_cases h1:r.length=2*cs.length
  ·have h1':(w::nm::r).length=2+2*cs.length:=by simp;omega
   rw [decide_eq_true h1',if_neg (by decide),bV,ah,aA];have i1:aU (.lst (ds_ (w::nm::r))) (.int 1)=.ok (.str (au nm)):=v9;have es:j9 [.tup [.str (au nm),.tup (cs.map ci)]]=.ok (.bl (bZ nm&&colsB cs)):=by
    refine EK (.str (au nm)) _ (show (au nm).length<=1000 by rw [a9];exact hnm) _ (Hf cs fun c hc=>?_);rw [hcs] at hc;obtain ⟨a,b,ha,hb,rfl⟩:=wX r c hc;exact ⟨by rw [a9];exact hw a (by simp [ha]),by rw [a9];exact hw b (by simp [hb])⟩
   have E3:aJ 2 (kl (ac (ao aU (ae 0) (vC (.int 1))) (ac (ak rM (ac (ae 1) aj)) aj))) [some (.lst (ds_ (w::nm::r))),some (.lst (cs.map ci)),none]=.ok (.nx [some (.lst (ds_ (w::nm::r))),some (.lst (cs.map ci)),some (.tup [.str (au nm),.tup (cs.map ci)])]):=by
    generalize D.lst (ds_ (w::nm::r))=Wd at i1;walk_at "ew";rw [i1];walk_at "ew"
   rw [aG,E3,ah,aA];generalize D.lst (ds_ (w::nm::r))=Wd;walk_at "ew";rw [bB es];by_cases h2:bZ nm=true/\colsB cs=true
   ·rw [if_pos ⟨h1,h2⟩,h2.1,h2.2];walk_at "ew";rfl
   ·rw [if_neg (fun z=>h2 z.2)]
    have:(bZ nm&&colsB cs)=false:=by
     rw [Bool.eq_false_iff];intro z;rw [Bool.and_eq_true] at z;exact h2 z
    rw [this];rfl
  ·have h1':¬ (w::nm::r).length=2+2*cs.length:=by simp;omega
   rw [decide_eq_false h1',if_pos (show (!false)=true from rfl),if_neg (fun z=>h1 z.1)];rfl
abbrev wT:List Nat:=[116,97,98,108,101]
abbrev wP:List Nat:=[112,117,116]
abbrev wI:List Nat:=[105,110,100,101,120]
abbrev wD:List Nat:=[100,114,111,112]
def sT:Str.ofString "table"=au wT:=by decide +kernel
def sP:Str.ofString "put"=au wP:=by decide +kernel
def sI:Str.ofString "index"=au wI:=by decide +kernel
def sD_:Str.ofString "drop"=au wD:=by decide +kernel
def AA (w0:List Nat) (rest:List (List Nat)):Option D:=match rest with
 | [w1,w2]=>if bZ w1=true then (if w0=wI/\bZ w2=true then some (.tup [.str "index",.str (au w1),.str (au w2)]) else if w0=wD then (rn w2).map fun n=>.tup [.str "drop",.str (au w1),.int n] else none) else none
 | _=>none
def Wm (L:List Nat) (ws:List (List Nat)):Option D:=match ws with
 | w0::rest=>if w0=wT then LK (w0::rest) else if w0=wP then DR L else AA w0 rest
 | []=>none
def px (L:List Nat):Option D:=Wm L (eS L)
def kA (L:List Nat) (hL:Ln L):bE [.str (au L)]=nu (px L):=by
 have hl:=hL.1;have hlw:∀ w∈eS L,Ln w:=fun w hw=>Ku hL hw;have hc:=uH L;have h0:=lZ L;have es:=wn L (by omega);unfold px;rw [vt,ii];have E1:aJ 1 (oD m7 (ae 0) (ac (vC (.str " ")) aj)) [some (.str (au L)),none]=.ok (.nx [some (.str (au L)),some (.lst (ds_ (eS L)))]):=by
  generalize D.lst (ds_ (eS L))=Wd at es;walk_at "ew";rw [es];walk_at "ew"
 rw [aG,E1,ah,aA];generalize eS L=ws at *;cases ws with
 | nil=>exact absurd rfl h0
 | cons w0 rest =>
  have eT:=AM (w0::rest) (by simp) (by omega) (fun w hw=>by have:=(hlw w hw).1;omega);have eP:=GC L hL;have i0:aU (.lst (ds_ (w0::rest))) (.int 0)=.ok (.str (au w0)):=wH;have eq0:∀ (z:Str) (w:List Nat),z=au w->ao cq (ao aU (ae 1) (vC (.int 0))) (vC (.str z)) [some (.str (au L)),some (.lst (ds_ (w0::rest)))]=.ok (.bl (decide (w0=w))):=fun z w hz=>by
   generalize D.lst (ds_ (w0::rest))=Wd at i0;walk_at "ew";rw [i0];walk_at "ew";rw [hz];congr 2;exact decide_eq_decide.mpr mk_inj
  show _=nu (if w0=wT then LK (w0::rest) else if w0=wP then DR L else AA w0 rest);rw [aG,eX,sO,eq0 _ _ sT,ah,tY,ah,eG];by_cases hT:w0=wT
  ·rw [if_pos hT,if_pos (decide_eq_true hT),kB];generalize D.lst (ds_ (w0::rest))=Wd at eT
   have:ak gG (ac (ae 1) aj) [some (.str (au L)),some Wd]=nu (LK (w0::rest)):=eT
   rw [this];cases LK (w0::rest) <;> rfl
  ·rw [if_neg hT,if_neg (by rw [decide_eq_false hT];decide),bV,ah,aA,aG,eX,sO,eq0 _ _ sP,ah,tY,ah,eG];by_cases hP:w0=wP
   ·rw [if_pos hP,if_pos (decide_eq_true hP),kB]
    have:ak jT (ac (ae 0) aj) [some (.str (au L)),some (.lst (ds_ (w0::rest)))]=nu (DR L):=eP
    rw [this];cases DR L <;> rfl
   ·rw [if_neg hP,if_neg (by rw [decide_eq_false hP];decide),bV,ah,aA,aG,eX];have bad:∀ (m:Str),m.length<=100->vw "BadLog" (ac (sA m (ae 0)) aj) [some (.str (au L)),some (.lst (ds_ (w0::rest)))]=.er "BadLog":=fun m hm=>ft _ hm _ hL _ rfl;have eL:ao wW (ak bO (ac (ae 1) aj)) (vC (.int 3)) [some (.str (au L)),some (.lst (ds_ (w0::rest)))]=.ok (.bl (!decide (rest.length=2))):=by
     have:bO [.lst (ds_ (w0::rest))]=.ok (.int ((rest.length+1:Nat):Int)):=by rw [Cb,List.length_map];rfl
     generalize D.lst (ds_ (w0::rest))=Wd at this;walk_at "ew";rw [this];walk_at "ew";congr 3;exact decide_eq_decide.mpr (by omega)
    by_cases h3:rest.length=2
    ·rcases rest with _|⟨w1,_|⟨w2,_|⟨w3,r3⟩⟩⟩
     ·exact absurd h3 (by decide)
     ·exact absurd h3 (by simp)
     ·have l1:Ln w1:=hlw w1 (by simp);have l2:Ln w2:=hlw w2 (by simp);have n1:=xG w1 (by have:=l1.1;omega);have n2:=xG w2 (by have:=l2.1;omega);have hr:=mI w2 l2;show _=nu (if bZ w1=true then (if w0=wI/\bZ w2=true then some (.tup [.str "index",.str (au w1),.str (au w2)]) else if w0=wD then (rn w2).map fun n=>.tup [.str "drop",.str (au w1),.int n] else none) else none);have i1:aU (.lst (ds_ [w0,w1,w2])) (.int 1)=.ok (.str (au w1)):=v9;have i2:aU (.lst (ds_ [w0,w1,w2])) (.int 2)=.ok (.str (au w2)):=Fc;rw [Da,sO,eL,ah,tY,ah,wo,if_neg (by simp)];generalize D.lst (ds_ [w0,w1,w2])=Wd at *;have e4:eI (cj (ak (aV ck) (ac (ao aU (ae 1) (vC (.int 1))) aj))) [some (.str (au L)),some Wd]=.ok (!bZ w1):=by
       walk_at "ew";rw [i1];walk_at "ew";rw [bB n1];rfl
      rw [e4,ah,eG];cases bZ w1 with
      | false=>rw [if_pos (show (!false)=true from rfl),bad _ (by decide +kernel)];rfl
      | true =>
       rw [if_neg (by decide),bV,ah,aA,if_pos rfl,aG,eX];have e5:qN (bP (ao cq (ao aU (ae 1) (vC (.int 0))) (vC (.str "index")))) (cj (ak (aV ck) (ac (ao aU (ae 1) (vC (.int 2))) aj))) [some (.str (au L)),some Wd]=.ok (decide (w0=wI)&&bZ w2):=by
        rw [Kn,sO,eq0 _ _ sI,ah,tY,ah,EJ];cases decide (w0=wI) with
        | false=>rfl
        | true =>
         rw [if_pos rfl];walk_at "ew";rw [i2];walk_at "ew";rw [bB n2];rfl
       rw [e5,ah,eG];by_cases h5:w0=wI/\bZ w2=true
       ·rw [if_pos h5,decide_eq_true h5.1,h5.2,if_pos (by decide)];walk_at "ew";rw [i1];walk_at "ew";rw [i2];walk_at "ew";rfl
       ·have:(decide (w0=wI)&&bZ w2)=false:=by
         rw [Bool.eq_false_iff];intro z;rw [Bool.and_eq_true,decide_eq_true_eq] at z;exact h5 z
        rw [if_neg h5,this,if_neg (by decide),bV,ah,aA,aG,eX,sO,eq0 _ _ sD_,ah,tY,ah,eG];by_cases h6:w0=wD
        ·rw [if_pos h6,if_pos (decide_eq_true h6)];walk_at "ew";rw [i1];walk_at "ew";rw [i2];walk_at "ew";rw [hr];cases rn w2 <;> rfl
        ·rw [if_neg h6,if_neg (by rw [decide_eq_false h6];decide),bV,ah,aA,bad _ (by decide +kernel)];rfl
     ·exact absurd h3 (by simp)
    ·rw [Da,sO,eL,decide_eq_false h3,ah,tY,ah,wo,if_pos (by decide),ah,eG,if_pos rfl,bad _ (by decide +kernel)]
     have:AA w0 rest=none:=by
      unfold AA;split
      ·exact absurd rfl h3
      ·rfl
     rw [this];rfl
def rC (v:List Nat) (c:Nat):NumText.digitsVal (v++[c])=NumText.digitsVal v*10+(c - 48):=by
 unfold NumText.digitsVal;rw [List.foldl_append];rfl
def snoc_ind {P:List Nat->Prop} (h0:P []) (h1:∀ v c,P v->P (v++[c])) (w:List Nat):P w:=by
 have:∀ n (w:List Nat),w.length=n->P w:=by
  intro n;induction n with
  | zero=>intro w h;rw [List.length_eq_zero_iff.mp h];exact h0
  | succ n ih =>
   intro w h;have hne:w≠[]:=fun z=>by rw [z] at h;simp at h
   rw [<- List.dropLast_concat_getLast hne];exact h1 _ _ (ih _ (by simp [h]))
 exact this _ w rfl
def HP:∀ w:List Nat,(∀ c∈w,48<=c/\c<=57)->NumText.digitsVal w < 10 ^ w.length:=by
 refine snoc_ind (fun _=>by decide) fun v c ih h=>?_;have h1:=ih fun x hx=>h x (by simp [hx]);have h2:=h c (by simp);rw [rC,List.length_append,List.length_singleton,Nat.pow_succ];omega
def Ak:∀ w:List Nat,(∀ c∈w,48<=c/\c<=57)->w≠[]->w[0]?≠some 48->0 < NumText.digitsVal w:=by
 refine snoc_ind (fun _ h=>absurd rfl h) fun v c ih h _ h48=>?_;have h2:=h c (by simp);rw [rC];cases v with
 | nil =>
  simp at h48;omega
 | cons a r =>
  have:=ih (fun x hx=>h x (List.mem_append_left _ hx)) (by simp) (by simpa using h48)
  omega
def Bw:∀ w:List Nat,(∀ c∈w,48<=c/\c<=57)->w≠[]->(w[0]?=some 48->w=[48])->dg (NumText.digitsVal w)=w:=by
 refine snoc_ind (fun _ h=>absurd rfl h) fun v c ih h _ h48=>?_;have h2:=h c (by simp);have hv:∀ x∈v,48<=x/\x<=57:=fun x hx=>h x (List.mem_append_left _ hx);rw [rC];cases v with
 | nil =>
  have e0:NumText.digitsVal []=0:=rfl;rw [e0,gJ (by omega)];show [48+(0*10+(c - 48))]=[c];congr 1;omega
 | cons a r =>
  have ha:(a::r)[0]?≠some 48:=fun z=>by
   have:=h48 (by simpa using z)
   simp at this
  have hp:=Ak (a::r) hv (by simp) ha;have ih:=ih hv (by simp) (fun z=>absurd z ha);generalize NumText.digitsVal (a::r)=n at *;rw [oX (by omega)];have e1:(n*10+(c - 48))/10=n:=by omega
  have e2:48+(n*10+(c - 48)) % 10=c:=by omega
  rw [e1,e2,ih]
def BV {w:List Nat} {n:Int} (h:rn w=some n):1<=n/\n<=1000000000/\dg n.natAbs=w:=by
 unfold rn at h;split at h
 ·rename_i hk;cases h;obtain ⟨h0,_,hd,h48,h1,h2⟩:=hk;refine ⟨h1,h2,?_⟩;have e:(dv w).natAbs=NumText.digitsVal w:=by unfold dv;omega
  rw [e];exact Bw w (fun c hc=>by have:=List.all_eq_true.mp hd c hc;unfold vO at this;exact of_decide_eq_true this) h0 (fun z=>absurd z h48)
 ·cases h
def BK {n c:Nat} (h:c∈dg n):vO c=true:=by
 have:=nF h
 unfold vO;exact decide_eq_true this
def Kj {n:Int} (h1:1<=n) (h2:n<=1000000000):rn (dg n.natAbs)=some n:=by
 have e:dv (dg n.natAbs)=n:=by unfold dv;rw [Bf];omega
 unfold rn;rw [if_pos ⟨CQ _,qS h1 h2,List.all_eq_true.mpr fun c hc=>BK hc,by
  obtain ⟨c,r,f1,f2⟩:=xo n.natAbs (by omega);rw [f1];simp;exact f2,by rw [e];exact h1,by rw [e];exact h2⟩,e]
def Lj:∀ X:List Nat,34∉rq [] X->m8 (rq [34] X)=X:=by
 refine AJ (fun _=>rfl) (fun r ih h=>?_) (fun r hr ih h=>?_) (fun c r hc ih h=>?_)
 ·rw [AU] at h ⊢;show m8 (34::rq [34] r)=_;rw [m8,if_pos rfl,ih h]
 ·rw [xK _ _ hr] at h;exact absurd (by simp) h
 ·rw [tX _ _ hc] at h ⊢;rw [m8,if_neg hc,ih (fun z=>h (List.mem_cons_of_mem _ z))]
def EO {w:List Nat} {d:D} (hw:Ln w) (h:z6 w=some d):Vw d/\wl d=w:=by
 unfold z6 at h;split at h
 ·rename_i e;cases h;exact ⟨trivial,e.symm⟩
 ·split at h
  ·split at h
   ·rename_i h1;obtain ⟨e,ht⟩:=h1;cases h;unfold Hj at ht;simp only [Bool.and_eq_true,Bool.not_eq_true',decide_eq_false_iff_not,decide_eq_true_eq] at ht;obtain ⟨t1,t2,t3⟩:=ht;refine ⟨⟨by rw [a9];exact t2,fun c hc=>?_⟩,?_⟩
    ·rw [ax] at hc;by_cases h34:c=34
     ·subst h34;decide
     ·have hm:=(yk h34 _).mp hc;have h9:c≠9:=fun z=>t3 (z ▸ hm)
      have:c∈w:=by rw [e];simp [hm]
      have:=hw.2 c this
      omega
    ·show 34::(m8 (au (rq [34] (p8 w))).cps.toList++[34])=w;rw [ax,Lj _ t1];exact e.symm
   ·cases h
  ·split at h
   ·rename_i hn;cases h;unfold Dv at hn;simp only [Bool.and_eq_true,Bool.not_eq_true',Bool.or_eq_false_iff,decide_eq_false_iff_not,Bool.not_eq_false',List.all_eq_true,decide_eq_true_eq,Bool.and_eq_false_iff] at hn;obtain ⟨⟨n1,n2⟩,n3,n4⟩:=hn;have hd:∀ c∈fg w,48<=c/\c<=57:=fun c hc=>by have:=n2 c hc;unfold vO at this;exact of_decide_eq_true this
    have hlt:=HP (fg w) hd;have hlt18:NumText.digitsVal (fg w) < 10 ^ 18:=Nat.lt_of_lt_of_le hlt (Nat.pow_le_pow_right (by decide) n4);by_cases h45:w[0]?=some 45
    ·have ef:fg w=w.drop 1:=by unfold fg;rw [if_pos h45]
     have ev:ny w=-(NumText.digitsVal (fg w):Int):=by unfold ny;rw [if_pos h45]
     have h48:(fg w)[0]?≠some 48:=fun z=>by
      rcases n3 with q|q
      ·exact q z
      ·have:w=[48]:=Classical.not_not.mp q
       rw [this] at h45;simp at h45
     have hp:=Ak (fg w) hd n1 h48;refine ⟨?_,?_⟩
     ·show (ny w).natAbs < 10 ^ 18;rw [ev];omega
     ·show gq (ny w)=w;rw [ev];unfold gq;rw [if_pos (by omega)]
      have:(-(NumText.digitsVal (fg w):Int)).natAbs=NumText.digitsVal (fg w):=by omega
      rw [this,Bw (fg w) hd n1 (fun z=>absurd z h48),ef];cases w with
      | nil=>simp at h45
      | cons a r=>simp at h45;rw [h45];rfl
    ·have ef:fg w=w:=by unfold fg;rw [if_neg h45]
     have ev:ny w=(NumText.digitsVal (fg w):Int):=by unfold ny;rw [if_neg h45]
     refine ⟨?_,?_⟩
     ·show (ny w).natAbs < 10 ^ 18;rw [ev];omega
     ·show gq (ny w)=w;rw [ev];unfold gq;rw [if_neg (by omega)]
      have:((NumText.digitsVal (fg w):Int)).natAbs=NumText.digitsVal (fg w):=by omega
      rw [this];rw [ef] at n1 hd n3 ⊢;refine Bw w hd n1 fun z=>?_;rcases n3 with q|q
      ·exact absurd z q
      ·exact Classical.not_not.mp q
   ·cases h
def Mf {d:D} (h:Vw d):z6 (wl d)=some d:=by
 cases d with
 | non=>rfl
 | int i =>
  have h:i.natAbs < 10 ^ 18:=h;show z6 (gq i)=_;have hm:∀ c∈gq i,45<=c/\c<=57:=fun c hc=>uq hc;have hl:=yz 17 _ h;unfold z6;rw [if_neg (fun z=>by have:=hm 110 (by rw [z];simp);omega),if_neg (fun z=>by have:=hm 34 (List.mem_of_getElem? z);omega)];by_cases hn:i < 0
  ·have e:gq i=45::dg i.natAbs:=by unfold gq;rw [if_pos hn]
   have ef:fg (gq i)=dg i.natAbs:=by unfold fg;rw [e];rfl
   obtain ⟨c,r,f1,f2⟩:=xo i.natAbs (by omega);have hk:Dv (gq i)=true:=by
    unfold Dv;rw [ef];have a1:(dg i.natAbs).all vO=true:=List.all_eq_true.mpr fun c hc=>BK hc;have a2:decide ((dg i.natAbs)[0]?=some 48)=false:=decide_eq_false (by rw [f1];simp;exact f2);rw [decide_eq_false (CQ _),a1,a2,decide_eq_true (show (dg i.natAbs).length<=18 by omega)];rfl
   rw [if_pos hk]
   have:ny (gq i)=i:=by
    unfold ny;rw [ef,Bf,e];simp;omega
   rw [this]
  ·have e:gq i=dg i.natAbs:=by unfold gq;rw [if_neg hn]
   have h45:¬ (gq i)[0]?=some 45:=fun z=>by
    rw [e] at z
    have:=nF (List.mem_of_getElem? z)
    omega
   have ef:fg (gq i)=dg i.natAbs:=by unfold fg;rw [if_neg h45,e]
   have hk:Dv (gq i)=true:=by
    unfold Dv;rw [ef];have a1:(dg i.natAbs).all vO=true:=List.all_eq_true.mpr fun c hc=>BK hc;rw [decide_eq_false (CQ _),a1,decide_eq_true (show (dg i.natAbs).length<=18 by omega)];by_cases h0:i=0
    ·subst h0;have e0:gq 0=[48]:=by rw [e];exact gJ (by decide)
     rw [e0];simp
    ·obtain ⟨c,r,f1,f2⟩:=xo i.natAbs (by omega);have a2:decide ((dg i.natAbs)[0]?=some 48)=false:=decide_eq_false (by rw [f1];simp;exact f2);rw [a2];rfl
   rw [if_pos hk]
   have:ny (gq i)=i:=by
    unfold ny;rw [if_neg h45,ef,Bf];omega
   rw [this]
 | str z =>
  show z6 (34::(m8 z.cps.toList++[34]))=_;unfold z6;rw [if_neg (by simp),if_pos (by simp),Gd];have t1:rq [34] (m8 z.cps.toList)=z.cps.toList:=by unfold rq;rw [ot,tL]
  have t2:rq [] (m8 z.cps.toList)=oI [] z.cps.toList:=by unfold rq;rw [ot]
  have ht:Hj (m8 z.cps.toList)=true:=by
   unfold Hj;have h9:9∉m8 z.cps.toList:=fun hm=>by
    rw [<- yk (by decide),t1] at hm
    have:=h.2 9 hm
    omega
   rw [t1,t2,decide_eq_false (t6 _),decide_eq_true (by rw [dL];exact h.1),decide_eq_false h9];rfl
  rw [if_pos ⟨rfl,ht⟩,t1,jO]
 | _=>exact h.elim
def ub:∀ (ws:List (List Nat)) (ds:List D),(∀ w∈ws,Ln w)->ce ws=some ds->ds.map wl=ws/\∀ d∈ds,Vw d
 | [],ds,_,h=>by simp [ce] at h;subst h;exact ⟨rfl,fun d hd=>nomatch hd⟩
 | w::r,ds,hw,h=>by
  unfold ce at h;cases e1:z6 w with
  | none=>rw [e1] at h;cases h
  | some d =>
   rw [e1] at h;dsimp only at h;cases e2:ce r with
   | none=>rw [e2] at h;cases h
   | some es =>
    rw [e2] at h;cases h;obtain ⟨h1,h2⟩:=ub r es (fun x hx=>hw x (List.mem_cons_of_mem _ hx)) e2;obtain ⟨h3,h4⟩:=EO (hw w (by simp)) e1;refine ⟨by rw [List.map_cons,h1,h4],fun x hx=>?_⟩;rcases List.mem_cons.mp hx with rfl|hx
    ·exact h3
    ·exact h2 x hx
def zP:∀ (ds:List D),(∀ d∈ds,Vw d)->ce (ds.map wl)=some ds
 | [],_=>rfl
 | d::r,h=>by
  rw [List.map_cons];unfold ce;rw [Mf (h d (by simp)),zP r fun x hx=>h x (List.mem_cons_of_mem _ hx)]
def uT:∀ (L cur:List Nat) (b:Bool),ay (cQ cur b L)=cur++L
 | [],cur,b=>by simp [cQ,ay]
 | c::r,cur,b=>by
  rw [cQ];by_cases q:c=32/\(if c=34 then !b else b)=false
  ·rw [if_pos q,aO _ _ (tm _ _ _),uT r [] _,q.1];rfl
  ·rw [if_neg q,uT r (cur++[c]) _];simp
def Jm {d:D} (h:Vw d):∀ c∈wl d,32<=c/\c<=126:=by
 intro c hc;cases d with
 | non =>
  have hc:c∈[110,111,110,101]:=hc;simp at hc;omega
 | int i =>
  have hc:c∈gq i:=hc
  have:=uq hc
  omega
 | str z =>
  have hc:c∈34::(m8 z.cps.toList++[34]):=hc;have hd:∀ (L:List Nat),c∈m8 L->c=34\/c∈L:=by
   intro L;induction L with
   | nil=>intro q;cases q
   | cons a r ih =>
    intro q;rw [m8] at q;split at q
    ·simp at q;rcases q with q|q
     ·exact .inl q
     ·rcases ih q with z|z
      ·exact .inl z
      ·exact .inr (List.mem_cons_of_mem _ z)
    ·rcases List.mem_cons.mp q with z|z
     ·exact .inr (by rw [z];simp)
     ·rcases ih z with z|z
      ·exact .inl z
      ·exact .inr (List.mem_cons_of_mem _ z)
  simp only [List.mem_cons,List.mem_append,List.not_mem_nil,or_false] at hc;rcases hc with rfl|hc|rfl
  ·decide
  ·rcases hd _ hc with rfl|z
   ·decide
   ·exact h.2 c z
  ·decide
 | _=>exact h.elim
def wB:∀ (ws:List (List Nat)) (c:Nat),c∈ay ws->c=32\/∃ w∈ws,c∈w
 | [],c,h=>by cases h
 | [w],c,h=>.inr ⟨w,by simp,h⟩
 | w::w'::ws,c,h=>by
  have h:c∈w++32::ay (w'::ws):=h;rcases List.mem_append.mp h with z|z
  ·exact .inr ⟨w,by simp,z⟩
  ·rcases List.mem_cons.mp z with z|z
   ·exact .inl z
   ·rcases wB (w'::ws) c z with z|⟨x,hx,z⟩
    ·exact .inl z
    ·exact .inr ⟨x,List.mem_cons_of_mem _ hx,z⟩
def lK (b:Nat):∀ (ws:List (List Nat)),(∀ w∈ws,w.length<=b)->(ay ws).length<=(b+1)*ws.length
 | [],_=>by simp [ay]
 | [w],h=>by have:=h w (by simp);simp [ay];omega
 | w::w'::ws,h=>by
  have h1:=h w (by simp);have h2:=lK b (w'::ws) fun x hx=>h x (List.mem_cons_of_mem _ hx);have e:ay (w::w'::ws)=w++32::ay (w'::ws):=rfl;rw [e];simp only [List.length_append,List.length_cons,Nat.mul_add,Nat.add_mul,Nat.mul_one,Nat.one_mul] at h2 ⊢;omega
def cZ:∀ (w r:List Nat),32∉w->eS (w++32::r)=w::eS r
 | [],r,_=>by
  show eS (32::r)=_;rw [eS,if_pos rfl]
 | c::w,r,h=>by
  have hc:c≠32:=fun z=>h (by simp [z]);exact jQ c _ w _ hc (cZ w r fun z=>h (List.mem_cons_of_mem _ z))
def xV {w:List Nat} (h:32∉w):eS w=[w]:=mq (ws:=[w]) (by simp) (fun x hx=>by rw [List.mem_singleton.mp hx];exact h)
inductive Li:D->List Nat->Prop
 | table {nm:Str} {cs:List (Str×Str)} (hn:Gn nm) (hc:Cols cs):Li (vm nm cs) (ay ((tW nm cs).map wS))
 | index {nm cl:Str} (hn:Gn nm) (hc:Gn cl):Li (.tup [.str "index",.str nm,.str cl]) (ay ((iW nm cl).map wS))
 | drop {nm:Str} {n:Int} (hn:Gn nm) (h1:1<=n) (h2:n<=1000000000):Li (.tup [.str "drop",.str nm,.int n]) (ay ((dW nm n).map wS))
 | put {nm:Str} {n:Int} {ds:List D} (hn:Gn nm) (h1:1<=n) (h2:n<=1000000000) (hd:∀ d∈ds,Vw d) (l1:1<=ds.length) (l8:ds.length<=8):Li (.tup [.str "put",.str nm,.int n,.tup ds]) (ay (pW nm n ds))
def Chg.li {d:D} (h:Chg d):∃ L,Li d L:=by
 cases h with
 | table hn hc=>exact ⟨_,.table hn hc⟩
 | index hn hc=>exact ⟨_,.index hn hc⟩
 | drop hn h1 h2=>exact ⟨_,.drop hn h1 h2⟩
 | put hn h1 h2 hd l1 l8=>exact ⟨_,.put hn h1 h2 hd l1 l8⟩
def Li.line {d:D} {L:List Nat} (h:Li d L):b8 [d]=.ok (.str (au L)):=by
 cases h with
 | table hn hc=>exact Fh hn hc
 | index hn hc=>exact Gr hn hc
 | drop hn h1 h2=>exact IY hn h1 h2
 | put hn h1 h2 hd l1 l8=>exact MX hn h1 h2 hd l1 l8
def Jx {c:Nat} (h:low c=true):32<=c/\c<=126:=by
 unfold low at h;simp at h;omega
def Gn.sg {z:Str} (h:Gn z):∀ c∈wS z,32<=c/\c<=126:=fun c hc=>Jx (h.nm.lw' c hc)
def Hd {k:Str} (h:k="number"\/k="text"):∀ c∈wS k,32<=c/\c<=126:=by rcases h with rfl|rfl <;> decide +kernel
theorem Gn.len {z:Str} (h:Gn z):(wS z).length<=8:=by rw [dL];exact h.nm.l1
def Li.words {d:D} {L:List Nat} (h:Li d L):∃ ws,L=ay ws/\ws≠[]/\(∀ w∈ws,∀ c∈w,32<=c/\c<=126)/\L.length<=840:=by
 cases h with
 | table hn hc =>
  rename_i nm cs;have hw:∀ w∈(tW nm cs).map wS,w.length<=8/\∀ c∈w,32<=c/\c<=126:=fun w hw=>by
   obtain ⟨z,hz,rfl⟩:=List.mem_map.mp hw;rcases List.mem_cons.mp hz with rfl|hz
   ·decide +kernel
   ·rcases List.mem_cons.mp hz with rfl|hz
    ·exact ⟨hn.len,hn.sg⟩
    ·obtain ⟨c,hcc,e|e⟩:=t4 hz
     ·rw [e];exact ⟨(hc.col c hcc).gn.len,(hc.col c hcc).gn.sg⟩
     ·rw [e];exact ⟨by rw [dL];have:=kind_len (hc.col c hcc).kd;omega,Hd (hc.col c hcc).kd⟩
  have hl:=lK 8 _ fun w h=>(hw w h).1;have h8:=hc.l1;refine ⟨_,rfl,by simp,fun w h=>(hw w h).2,?_⟩
  have:((tW nm cs).map wS).length<=18:=by rw [List.length_map];simp [lL];omega
  omega
 | index hn hc =>
  rename_i nm cl;have hw:∀ w∈(iW nm cl).map wS,w.length<=8/\∀ c∈w,32<=c/\c<=126:=fun w hw=>by
   obtain ⟨z,hz,rfl⟩:=List.mem_map.mp hw;simp only [List.mem_cons,List.not_mem_nil,or_false] at hz;rcases hz with rfl|rfl|rfl
   ·decide +kernel
   ·exact ⟨hn.len,hn.sg⟩
   ·exact ⟨hc.len,hc.sg⟩
  have hl:=lK 8 _ fun w h=>(hw w h).1;refine ⟨_,rfl,by simp,fun w h=>(hw w h).2,?_⟩
  have:((iW nm cl).map wS).length=3:=rfl
  omega
 | drop hn h1 h2 =>
  rename_i nm n;have hw:∀ w∈(dW nm n).map wS,w.length<=10/\∀ c∈w,32<=c/\c<=126:=fun w hw=>by
   obtain ⟨z,hz,rfl⟩:=List.mem_map.mp hw;simp only [List.mem_cons,List.not_mem_nil,or_false] at hz;rcases hz with rfl|rfl|rfl
   ·decide +kernel
   ·exact ⟨by have:=hn.len;omega,hn.sg⟩
   ·unfold wS;rw [ax];exact ⟨qS h1 h2,fun c hc=>by have:=nF hc;omega⟩
  have hl:=lK 10 _ fun w h=>(hw w h).1;refine ⟨_,rfl,by simp,fun w h=>(hw w h).2,?_⟩
  have:((dW nm n).map wS).length=3:=rfl
  omega
 | put hn h1 h2 hd l1 l8 =>
  rename_i nm n ds;have hw:∀ w∈ds.map wl,w.length<=100/\∀ c∈w,32<=c/\c<=126:=fun w hw=>by
   obtain ⟨d,hdd,rfl⟩:=List.mem_map.mp hw;exact ⟨FK (hd d hdd),Jm (hd d hdd)⟩
  have hl:=lK 100 _ fun w h=>(hw w h).1;rw [List.length_map] at hl;have h10:=qS h1 h2;have h8:=hn.len;refine ⟨_,rfl,by simp,fun w h=>?_,?_⟩
  ·rcases List.mem_cons.mp h with rfl|h
   ·decide +kernel
   ·rcases List.mem_cons.mp h with rfl|h
    ·exact hn.sg
    ·rcases List.mem_cons.mp h with rfl|h
     ·exact fun c hc=>by have:=nF hc;omega
     ·exact (hw w h).2
  ·show (ay (wS (Str.ofString "put")::wS nm::dg n.natAbs::ds.map wl)).length<=840;rw [aO _ _ (by simp),aO _ _ (by simp),aO _ _ (uy l1)];have e3:(wS (Str.ofString "put")).length=3:=by decide +kernel
   simp only [List.length_append,List.length_cons,e3];omega
def Li.sg {d:D} {L:List Nat} (h:Li d L):L.length<=840/\∀ c∈L,32<=c/\c<=126:=by
 obtain ⟨ws,e,_,h2,h3⟩:=h.words;refine ⟨h3,fun c hc=>?_⟩;rw [e] at hc;rcases wB _ _ hc with rfl|⟨w,hw,hcw⟩
 ·decide
 ·exact h2 w hw c hcw
def Li.ln {d:D} {L:List Nat} (h:Li d L):Ln L:=⟨by have:=h.sg.1;omega,fun c hc=>.inr (h.sg.2 c hc)⟩
def uv:∀ r:List (List Nat),r.length=2*(bh r).length->(jg (bh r)).map wS=r
 | [],_=>rfl
 | [_],h=>by simp [bh] at h
 | a::b::r,h=>by
  have ih:=uv r (by simp [bh] at h;omega);show (jg ((au a,au b)::bh r)).map wS=_;rw [rd,List.map_cons,List.map_cons,ih];show wS (au a)::wS (au b)::r=_;unfold wS;rw [ax,ax]
def mr:∀ cs:List (Str×Str),bh ((jg cs).map wS)=cs
 | []=>rfl
 | c::r=>by
  rw [rd,List.map_cons,List.map_cons];show (au (wS c.1),au (wS c.2))::bh ((jg r).map wS)=_;rw [mr r,jO,jO]
def CW {nm:Str} {n:Int} {ds:List D} (l1:1<=ds.length):ay (pW nm n ds)=wP++32::(wS nm++32::(dg n.natAbs++32::ay (ds.map wl))):=by
 show ay (wS (Str.ofString "put")::wS nm::dg n.natAbs::ds.map wl)=_;rw [aO _ _ (by simp),aO _ _ (by simp),aO _ _ (uy l1)];have e3:wS (Str.ofString "put")=wP:=by decide +kernel
 rw [e3]
def nZ (n:Nat):32∉dg n:=fun h=>by have:=nF h;omega
def zd:wS (Str.ofString "table")=wT:=by decide +kernel
def Ki:wS (Str.ofString "index")=wI:=by decide +kernel
def J8:wS (Str.ofString "drop")=wD:=by decide +kernel
def DE:bZ []=false:=by decide +kernel
def PD {L:List Nat} {d:D} (hL:Ln L) (h:px L=some d):Li d L:=by
 have hj:=jw L;have hlw:∀ w∈eS L,Ln w:=fun w hw=>Ku hL hw;have hfr:∀ w∈eS L,32∉w:=fun w hw=>iv L w hw;unfold px at h;generalize eS L=ws at *;cases ws with
 | nil=>cases h
 | cons w0 rest =>
  have h:(if w0=wT then LK (w0::rest) else if w0=wP then DR L else AA w0 rest)=some d:=h;split at h
  ·rename_i e0;cases rest with
   | nil=>cases h
   | cons nm r =>
    have h:(if r.length=2*(bh r).length/\bZ nm=true/\colsB (bh r)=true then some (vm (au nm) (bh r)) else none)=some d:=h;split at h
    ·rename_i hk;cases h
     have:=Li.table (uM hk.2.1) (II hk.2.2)
     have e:(tW (au nm) (bh r)).map wS=w0::nm::r:=by
      show wS (Str.ofString "table")::wS (au nm)::(jg (bh r)).map wS=_;rw [zd,uv r hk.1,e0];unfold wS;rw [ax]
     rw [e,hj] at this;exact this
    ·cases h
  ·split at h
   ·rename_i _ e0;unfold DR at h;split at h
    ·rename_i hn;have hne:rest≠[]:=fun z=>by
      rw [z] at hj;have hj:w0=L:=hj;rw [<- hj,e0] at hn;exact absurd hn (by decide +kernel)
     rw [aO _ _ hne,e0] at hj;have h4:L.drop 4=ay rest:=by rw [<- hj];rfl
     rw [h4] at h hn;have hM:Ln (ay rest):=by rw [<- h4];exact hL.sub (by simp) fun c hc=>List.mem_of_mem_drop hc
     generalize ay rest=M at *;cases hr:rn (hZ (fI M)) with
     | none=>rw [hr] at h;cases h
     | some n =>
      rw [hr] at h;dsimp only at h;split at h
      ·cases h
      ·rename_i h2;have hin2:32∈fI M:=Classical.byContradiction fun z=>h2 (pX z);have hin1:32∈M:=Classical.byContradiction fun z=>by rw [pX z] at hin2;cases hin2
       have c1:=zQ M hin1;have c2:=zQ (fI M) hin2;have hr2:Ln (fI (fI M)):=(hM.sub me.1 me.2).sub me.1 me.2;split at h
       ·rename_i ds hq;split at h
        ·rename_i h8;cases h;obtain ⟨b1,b2⟩:=ub _ _ (ES hr2) hq;obtain ⟨r1,r2,r3⟩:=BV hr;have hl1:1<=ds.length:=by
          have h1:=(lD _ _ hq).1;have h2:=tm (fI (fI M)) [] false;rcases Nat.eq_zero_or_pos ds.length with z|z
          ·rw [z] at h1;exact absurd (List.length_eq_zero_iff.mp h1) h2
          ·exact z
         have:=Li.put (uM hn) r1 r2 b2 hl1 h8
         rw [CW hl1,r3,b1,uT] at this;have e:wS (au (hZ M))=hZ M:=ax _;rw [e,List.nil_append,<- c2,<- c1,hj] at this;exact this
        ·cases h
       ·cases h
    ·cases h
   ·unfold AA at h;split at h
    ·rename_i w1 w2 _;split at h
     ·rename_i hn;split at h
      ·rename_i hk;cases h
       have:=Li.index (uM hn) (uM hk.2)
       have e:(iW (au w1) (au w2)).map wS=[w0,w1,w2]:=by
        show [wS (Str.ofString "index"),wS (au w1),wS (au w2)]=_;rw [Ki,hk.1];unfold wS;rw [ax,ax]
       rw [e,hj] at this;exact this
      ·split at h
       ·rename_i e0;cases hr:rn w2 with
        | none=>rw [hr] at h;cases h
        | some n =>
         rw [hr] at h;cases h;obtain ⟨r1,r2,r3⟩:=BV hr
         have:=Li.drop (uM hn) r1 r2
         have e:(dW (au w1) n).map wS=[w0,w1,w2]:=by
          show [wS (Str.ofString "drop"),wS (au w1),wS (au (dg n.natAbs))]=_;rw [J8,e0];unfold wS;rw [ax,ax,r3]
         rw [e,hj] at this;exact this
       ·cases h
     ·cases h
    ·cases h
def i6 (L w0:List Nat) (rest:List (List Nat)):Wm L (w0::rest)=if w0=wT then LK (w0::rest) else if w0=wP then DR L else AA w0 rest:=rfl
def i5 {nm:Str} (h:Gn nm):bZ (wS nm)=true:=by
 unfold bZ;rw [jO];exact h.name'
def tI {nm:Str} {cs:List (Str×Str)} (hn:Gn nm) (hc:Cols cs):eS (ay ((tW nm cs).map wS))=wT::wS nm::(jg cs).map wS:=by
 rw [mq (by simp) fun w hw=>?_]
 ·show wS (Str.ofString "table")::_=_;rw [zd];rfl
 ·obtain ⟨z,hz,rfl⟩:=List.mem_map.mp hw;rcases List.mem_cons.mp hz with rfl|hz
  ·decide +kernel
  ·rcases List.mem_cons.mp hz with rfl|hz
   ·exact hn.free
   ·obtain ⟨c,hcc,e|e⟩:=t4 hz
    ·rw [e];exact (hc.col c hcc).gn.free
    ·rw [e];exact kind_free (hc.col c hcc).kd
def xR {nm cl:Str} (hn:Gn nm) (hc:Gn cl):eS (ay ((iW nm cl).map wS))=[wI,wS nm,wS cl]:=by
 rw [mq (by simp) fun w hw=>?_]
 ·show [wS (Str.ofString "index"),_,_]=_;rw [Ki]
 ·obtain ⟨z,hz,rfl⟩:=List.mem_map.mp hw;simp only [List.mem_cons,List.not_mem_nil,or_false] at hz;rcases hz with rfl|rfl|rfl
  ·decide +kernel
  ·exact hn.free
  ·exact hc.free
def yw {nm:Str} {n:Int} (hn:Gn nm):eS (ay ((dW nm n).map wS))=[wD,wS nm,dg n.natAbs]:=by
 rw [mq (by simp) fun w hw=>?_]
 ·show [wS (Str.ofString "drop"),_,wS (au (dg n.natAbs))]=_;rw [J8];unfold wS;rw [ax]
 ·obtain ⟨z,hz,rfl⟩:=List.mem_map.mp hw;simp only [List.mem_cons,List.not_mem_nil,or_false] at hz;rcases hz with rfl|rfl|rfl
  ·decide +kernel
  ·exact hn.free
  ·unfold wS;rw [ax];exact nZ _
def Cs {nm:Str} {n:Int} {ds:List D} (hn:Gn nm) (l1:1<=ds.length):eS (ay (pW nm n ds))=wP::wS nm::dg n.natAbs::eS (ay (ds.map wl)):=by
 rw [CW l1,cZ _ _ (by decide),cZ _ _ hn.free,cZ _ _ (nZ _)]
def Li.read {d:D} {L:List Nat} (h:Li d L):px L=some d:=by
 unfold px;cases h with
 | table hn hc =>
  rename_i nm cs;rw [tI hn hc];rw [i6,if_pos rfl];show (if ((jg cs).map wS).length=2*(bh ((jg cs).map wS)).length/\bZ (wS nm)=true/\colsB (bh ((jg cs).map wS))=true then some (vm (au (wS nm)) (bh ((jg cs).map wS))) else none)=_;rw [mr,if_pos ⟨by rw [List.length_map,lL],i5 hn,hc.colsB⟩,jO]
 | index hn hc =>
  rename_i nm cl;rw [xR hn hc];show AA wI [wS nm,wS cl]=_;unfold AA;dsimp only;rw [if_pos (i5 hn),if_pos ⟨rfl,i5 hc⟩,jO,jO]
 | drop hn h1 h2 =>
  rename_i nm n;rw [yw hn];show AA wD [wS nm,dg n.natAbs]=_;unfold AA;dsimp only;rw [if_pos (i5 hn),if_neg (fun z=>absurd z.1 (by decide)),if_pos rfl,Kj h1 h2,jO];rfl
 | put hn h1 h2 hd l1 l8 =>
  rename_i nm n ds;rw [Cs hn l1];show DR (ay (pW nm n ds))=_;have e4:(ay (pW nm n ds)).drop 4=wS nm++32::(dg n.natAbs++32::ay (ds.map wl)):=by rw [CW l1];rfl
  obtain ⟨a1,a2⟩:=pp (wS nm) (dg n.natAbs++32::ay (ds.map wl)) hn.free;obtain ⟨b1,b2⟩:=pp (dg n.natAbs) (ay (ds.map wl)) (nZ _);unfold DR;rw [e4,a1,a2,b1,b2,if_pos (i5 hn),Kj h1 h2];dsimp only;cases ds with
  | nil=>simp at l1
  | cons d0 dr =>
   have hne:ay ((d0::dr).map wl)≠[]:=by
    have h0:=Sl (hd d0 (by simp));rw [List.map_cons];cases hm:dr.map wl with
    | nil=>exact h0
    | cons a b =>
     rw [aO _ _ (by simp)];simp
   have hc:cQ [] false (ay ((d0::dr).map wl))=(d0::dr).map wl:=by
    rw [List.map_cons];refine ug _ _ fun x hx=>?_;rw [<- List.map_cons] at hx;obtain ⟨d,hdd,rfl⟩:=List.mem_map.mp hx;exact yV (hd d hdd)
   rw [if_neg hne,hc,zP _ hd];dsimp only;rw [if_pos l8,jO]
def yf:jf dU jt [.exn "BadLog",.cls "BadLog"]=.ok (.bl true):=by with_unfolding_all rfl
def L3:jf dU jt [.exn "BadLog",.ty "ValueError"]=.ok (.bl true):=by with_unfolding_all rfl
def ib (c:Str) (h:Ny dU "BadLog" c=some false):jf dU jt [.exn "BadLog",.cls c]=.ok (.bl false):=by
 unfold jf;simp only [h];rfl
def Kc:gA [.exn "BadLog"]=.ok (.bl true):=by
 rw [Dc,lp];walk_at "ew";rw [ib "BadValue" (by decide +kernel)];walk_at "ew";rw [ib "BadShape" (by decide +kernel)];walk_at "ew";rw [ib "BadChange" (by decide +kernel)];walk_at "ew";rw [ib "BadRow" (by decide +kernel)];walk_at "ew";rw [ib "NoTable" (by decide +kernel)];walk_at "ew";rw [ib "TableThere" (by decide +kernel)];walk_at "ew";rw [ib "NoColumn" (by decide +kernel)];walk_at "ew";rw [ib "IndexThere" (by decide +kernel)];walk_at "ew";rw [ib "NoRow" (by decide +kernel)];walk_at "ew";rw [ib "Over" (by decide +kernel)];walk_at "ew";rw [ib "Clash" (by decide +kernel)];walk_at "ew";rw [yf];walk_at "ew";rw [ib "BadQuestion" (by decide +kernel)];walk_at "ew";rw [ib "BadDesk" (by decide +kernel)];walk_at "ew";rw [L3];walk_at "ew";rfl
def EI:rJ ["BadValue","BadLog"] "BadLog"=true:=by decide +kernel
def Jr {n:Nat} {F:List D->R D} {α:FA} {mt:Str->Bool} {ψ:FS} {δ:Sd} {ds:List D} {x:Str} (ha:α δ=.ok ds) (hF:F ds=.er x) (hm:mt x=true):uC F α mt n ψ δ=rtOnly (ψ (δ.set n (some (.exn x)))):=by
 unfold uC;rw [ha];dsimp only;rw [hF];dsimp only;rw [if_pos hm]
def Jo {i n:Nat} {F:List D->R D} {α:FA} {mt:Str->Bool} {ψ:FS} {δ:Sd} {ds:List D} {x:Str} (ha:α δ=.ok ds) (hF:F ds=.er x) (hm:mt x=true):qw i F α mt n ψ δ=rtOnly (ψ (δ.set n (some (.exn x)))):=by
 unfold qw;rw [ha];dsimp only;rw [hF];dsimp only;rw [if_pos hm]
def JJ {i n:Nat} {F:List D->R D} {α:FA} {mt:Str->Bool} {ψ:FS} {δ:Sd} {ds:List D} {d:D} (ha:α δ=.ok ds) (hF:F ds=.ok d):qw i F α mt n ψ δ=.ok (.nx (δ.set i (some d))):=by
 unfold qw;rw [ha];dsimp only;rw [hF]
def Cr {L:List Nat} (hL:Ln L) (h:px L=none):cH [.str (au L)]=.ok (.bl true):=by
 have hr:=kA L hL;rw [h] at hr;rw [Aq,kv,aG];rw [Jr (ds:=[.str (au L)]) rfl hr EI];have e:ji (ak (jf dU jt) (ac (ae 1) (ac (vC (.cls "BadLog")) aj))) (ak gA (ac (ae 1) aj)) [some (.str (au L)),some (.exn "BadLog")]=.ok (.bl true):=by
  walk_at "ew";rw [yf];walk_at "ew";exact Kc
 show fin ((rtOnly ((ji _ _ [some (.str (au L)),some (.exn "BadLog")]).bind _)).bind _)=_;rw [e];rfl
def Cu (n:Int):om [.int n]=.ok (.bl true):=by
 rw [DL,n9];walk_at "ew"
def UI (z:Str):vo (.str z) (.tup [.str "put",.str "drop"])=.ok (.bl (decide (z∈([Str.ofString "put",Str.ofString "drop"]:List Str)))):=by
 rw [<- m5];rfl
def UJ (z:Str):vo (.str z) (.tup [.str "table",.str "index",.str "put",.str "drop"])=.ok (.bl (decide (z∈([Str.ofString "table",Str.ofString "index",Str.ofString "put",Str.ofString "drop"]:List Str)))):=by
 rw [<- m5];rfl
def J4 {n:Int} (h1:1<=n) (h2:n<=1000000000) (δ:Sd) (e:ao aU (ae 1) (vC (.int 2)) δ=.ok (.int n)):uj Av Av (vC (.int 1)) (ao aU (ae 1) (vC (.int 2))) (ao kR (vC (.int 10)) (vC (.int 9))) δ=.ok (.bl true):=by
 have l1:Av (.int 1) (.int n)=.ok (.bl true):=by
  show R.ok (D.bl (decide (1<=n)))=_;rw [decide_eq_true h1]
 have l2:Av (.int n) (.int 1000000000)=.ok (.bl true):=by
  show R.ok (D.bl (decide (n<=1000000000)))=_;rw [decide_eq_true h2]
 have p9:kR (.int 10) (.int 9)=.ok (.int 1000000000):=by with_unfolding_all rfl
 unfold uj;rw [e,v_c,ah,ah,l1,ah];show (if true=true then (ao kR (vC (.int 10)) (vC (.int 9)) δ).bind fun w=>Av (.int n) w else R.ok (D.bl false))=_;rw [if_pos rfl];show ((kR (.int 10) (.int 9)).bind fun w=>Av (.int n) w)=_;rw [p9,ah,l2]
def GG {L:List Nat} {d:D} (h:Li d L):bJ [.str (au L)]=.ok (.bl true):=by
 have hr:=kA L h.ln;rw [h.read] at hr;have hl:=h.line;rw [lA,c9,aG];rw [JJ (ds:=[.str (au L)]) rfl hr,ah,aA];show fin (aF _ _ [some (.str (au L)),some d,none])=_;cases h with
 | table hn hc =>
  generalize au _=Z at *;walk_at "ew";rw [UI,decide_eq_false (by decide +kernel)];walk_at "ew";rw [UJ,decide_eq_true (by decide +kernel)];walk_at "ew";rw [hl];walk_at "ew";simp
 | index hn hc =>
  generalize au _=Z at *;walk_at "ew";rw [UI,decide_eq_false (by decide +kernel)];walk_at "ew";rw [UJ,decide_eq_true (by decide +kernel)];walk_at "ew";rw [hl];walk_at "ew";simp
 | drop hn h1 h2 =>
  generalize au (ay _)=Z at *;walk_at "ew";rw [UI,decide_eq_true (by decide +kernel)];walk_at "ew";rw [Cu];walk_at "ew";rw [J4 h1 h2 _ rfl];walk_at "ew";rw [UJ,decide_eq_true (by decide +kernel)];walk_at "ew";rw [hl];walk_at "ew";simp
 | put hn h1 h2 hd l1 l8 =>
  generalize au (ay _)=Z at *;walk_at "ew";rw [UI,decide_eq_true (by decide +kernel)];walk_at "ew";rw [Cu];walk_at "ew";rw [J4 h1 h2 _ rfl];walk_at "ew";rw [UJ,decide_eq_true (by decide +kernel)];walk_at "ew";rw [hl];walk_at "ew";simp
def Js {L:List Nat} (hL:Ln L):bJ [.str (au L)]=.ok (.bl true):=by
 cases h:px L with
 | some d=>exact GG (PD hL h)
 | none =>
  have hr:=kA L hL;rw [h] at hr;rw [lA,c9,aG];rw [Jo (ds:=[.str (au L)]) rfl hr EI];have e:ji (ak (jf dU jt) (ac (ae 2) (ac (vC (.cls "BadLog")) aj))) (ak gA (ac (ae 2) aj)) [some (.str (au L)),none,some (.exn "BadLog")]=.ok (.bl true):=by
   walk_at "ew";rw [yf];walk_at "ew";exact Kc
  show fin ((rtOnly ((ji _ _ [some (.str (au L)),none,some (.exn "BadLog")]).bind _)).bind _)=_;rw [e];rfl
def EA (z:Str) (lo hi:Option Int):(bW z lo hi).length<=z.length/\∀ c∈(bW z lo hi).cps.toList,c∈z.cps.toList:=by
 unfold bW;constructor
 ·simp [Str.length];omega
 ·intro c hc;exact List.mem_of_mem_drop (List.mem_of_mem_take (by simpa using hc))
abbrev Sg (c:Nat):Prop:=c=9\/32<=c/\c<=126
def rm (a b:Str) (h:a.length+b.length<=1000000):aC (.str a) (.str b)=.ok (.str (a++b)):=by
 rw [tV a,tV b,bv _ _ (by rw [dL,dL];exact h),FV]
def Mj (L:List Nat) (a:Nat):(bW (au L) none (some (a:Int))).length=min a L.length:=by
 unfold bW HT.sIx;simp [Str.length,au];rw [if_neg (by omega)];omega
def LZ (L:List Nat) (b:Nat):(bW (au L) (some (b:Int)) none).length=L.length - min b L.length:=by
 unfold bW HT.sIx;simp [Str.length,au];rw [if_neg (by omega)]
abbrev uL:Str:=Str.ofString " !\"#$&'()*+,-./0123456789:;<=>?@ABCDEFGHIJKLMNOPQRSTUVWXYZ[\\]^_`"++Str.ofString "abcdefghijklmnopqrstuvwxyz{|}~\t"
def Af:uL.cps.toList.length=95/\∀ c∈uL.cps.toList,c=9\/32<=c/\c<=126:=by decide +kernel
def MI (i:Int):∃ c,aU (.str uL) (.int (i % 95))=.ok (.str ⟨#[c]⟩)/\Sg c:=by
 have h0:0<=i % 95:=Int.emod_nonneg _ (by decide);have h1:i % 95 < 95:=Int.emod_lt_of_pos _ (by decide);have hk:(i % 95).toNat < uL.cps.toList.length:=by rw [Af.1];omega
 have ek:i % 95=(((i % 95).toNat:Nat):Int):=by omega
 have h:=bt (xs:=uL.cps.toList) (j:=(i % 95).toNat) (List.getElem?_eq_getElem hk);rw [<- ek] at h;exact ⟨_,Jq (by decide +kernel) h,Af.2 _ (List.getElem_mem hk)⟩
def Sg.app {a b:Str} (ha:∀ c∈a.cps.toList,Sg c) (hb:∀ c∈b.cps.toList,Sg c):∀ c∈(a++b).cps.toList,Sg c:=fun c hc=>by
 rw [bI] at hc;rcases List.mem_append.mp hc with h|h
 ·exact ha c h
 ·exact hb c h
def G1 (L:List Nat) (h1:1<=L.length) (hL:L.length<=840) (hs:∀ c∈L,Sg c) (m:Int) (hm:0<=m):∃ M,eZ [.str (au L),.int m]=.ok (.str (au M))/\Ln M:=by
 have key:∃ z:Str,eZ [.str (au L),.int m]=.ok (.str z)/\z.length<=850/\∀ c∈z.cps.toList,Sg c:=by
  rw [za,kE];obtain ⟨c,ec,hc⟩:=MI (m/48271);have eL:bO [.str (au L)]=.ok (.int (L.length:Int)):=by rw [pV,a9,if_pos (by omega)]
  have E1:aJ 2 (vC (.str " !\"#$&'()*+,-./0123456789:;<=>?@ABCDEFGHIJKLMNOPQRSTUVWXYZ[\\]^_`")) [some (.str (au L)),some (.int m),none,none,none]=.ok (.nx [some (.str (au L)),some (.int m),some (.str (Str.ofString " !\"#$&'()*+,-./0123456789:;<=>?@ABCDEFGHIJKLMNOPQRSTUVWXYZ[\\]^_`")),none,none]):=rfl;have E2:aJ 2 (ao aC (ae 2) (vC (.str "abcdefghijklmnopqrstuvwxyz{|}~\t"))) [some (.str (au L)),some (.int m),some (.str (Str.ofString " !\"#$&'()*+,-./0123456789:;<=>?@ABCDEFGHIJKLMNOPQRSTUVWXYZ[\\]^_`")),none,none]=.ok (.nx [some (.str (au L)),some (.int m),some (.str uL),none,none]):=by
   walk_at "ew";rw [rm _ _ (by decide +kernel)];rfl
  rw [aG,E1,ah,aA,aG,E2,ah,aA];generalize uL=TT at ec;have E3:aJ 3 (ao bq (ao cC (ae 1) (vC (.int 3))) (ao aC (ak bO (ac (ae 0) aj)) (vC (.int 1)))) [some (.str (au L)),some (.int m),some (.str TT),none,none]=.ok (.nx [some (.str (au L)),some (.int m),some (.str TT),some (.int (m/3 % ((L.length:Int)+1))),none]):=by
   walk_at "ew";rw [eL];walk_at "ew";rw [Cd (by omega)];rfl
  rw [aG,E3,ah,aA];have E4:∃ at':Int,0<=at'/\cp (bP (ao cq (ao bq (ao cC (ae 1) (vC (.int 3))) (vC (.int 2))) (vC (.int 1)))) (aJ 3 (ao bq (ao cC (ae 1) (vC (.int 6))) (ak BI (ac (ak bO (ac (ae 0) aj)) (ac (vC (.int 12)) aj))))) aI [some (.str (au L)),some (.int m),some (.str TT),some (.int (m/3 % ((L.length:Int)+1))),none]=.ok (.nx [some (.str (au L)),some (.int m),some (.str TT),some (.int at'),none]):=by
   have e0:bP (ao cq (ao bq (ao cC (ae 1) (vC (.int 3))) (vC (.int 2))) (vC (.int 1))) [some (.str (au L)),some (.int m),some (.str TT),some (.int (m/3 % ((L.length:Int)+1))),none]=.ok (decide (m/3 % 2=1)):=by
    walk_at "ew"
   rw [eX,e0,ah,eG];by_cases h:m/3 % 2=1
   ·rw [if_pos (decide_eq_true h)];have e5:ak BI (ac (ak bO (ac (ae 0) aj)) (ac (vC (.int 12)) aj)) [some (.str (au L)),some (.int m),some (.str TT),some (.int (m/3 % ((L.length:Int)+1))),none]=.ok (.int (if (12:Int) < (L.length:Int) then 12 else (L.length:Int))):=by
     walk_at "ew";rw [eL];walk_at "ew"
    obtain ⟨q,hq,hq1⟩:∃ q:Int,(if (12:Int) < (L.length:Int) then 12 else (L.length:Int))=q/\0 < q:=⟨_,rfl,by split <;> omega⟩;rw [hq] at e5;refine ⟨m/6 % q,Int.emod_nonneg _ (by omega),?_⟩;have e6:ao cC (ae 1) (vC (.int 6)) [some (.str (au L)),some (.int m),some (.str TT),some (.int (m/3 % ((L.length:Int)+1))),none]=.ok (.int (m/6)):=by
     walk_at "ew"
    rw [wN,jd,e6,ah,g7,e5,ah,Cd hq1];rfl
   ·rw [if_neg (by rw [decide_eq_false h];decide)];exact ⟨_,Int.emod_nonneg _ (by omega),rfl⟩
  obtain ⟨at',ha0,E4⟩:=E4;rw [aG,E4,ah,aA];have E5:aJ 4 (ao aU (ae 2) (ao bq (ao cC (ae 1) (vC (.int 48271))) (vC (.int 95)))) [some (.str (au L)),some (.int m),some (.str TT),some (.int at'),none]=.ok (.nx [some (.str (au L)),some (.int m),some (.str TT),some (.int at'),some (.str ⟨#[c]⟩)]):=by
   walk_at "ew";rw [ec];walk_at "ew"
  rw [aG,E5,ah,aA];have qs:∀ k:Nat,(bW (au L) none (some at')).length+(bW (au L) (some (at'+(k:Int))) none).length<=L.length:=fun k=>by
   have e1:at'=((at'.toNat:Nat):Int):=by omega
   have e2:at'+(k:Int)=(((at'+(k:Int)).toNat:Nat):Int):=by omega
   rw [e2,LZ,e1,Mj];omega
  have q0:=qs 0;have q1:=qs 1;have e0:at'+((0:Nat):Int)=at':=by omega
  have e1:at'+((1:Nat):Int)=at'+1:=rfl;rw [e0] at q0;rw [e1] at q1;have sl0:∀ lo hi,jP (.str (au L)) lo hi=.ok (.str (bW (au L) lo hi)):=fun lo hi=>by rw [DH,if_pos (by rw [a9];omega)]
  have sub:=fun lo hi=>(EA (au L) lo hi).2;have sb:∀ lo hi,∀ c∈(bW (au L) lo hi).cps.toList,Sg c:=fun lo hi c hc=>hs c (by have:=sub lo hi c hc;rwa [ax] at this);have one:∀ d∈(⟨#[c]⟩:Str).cps.toList,Sg d:=fun d hd=>by
   have:d=c:=by simpa using hd
   rw [this];exact hc
  have l1:(⟨#[c]⟩:Str).length=1:=rfl;by_cases h0:m % 3=0
  ·refine ⟨bW (au L) none (some at')++⟨#[c]⟩++bW (au L) (some at') none,?_,?_,Sg.app (Sg.app (sb _ _) one) (sb _ _)⟩
   ·walk_at "ew";rw [if_pos h0,sl0];walk_at "ew";rw [rm _ _ (by rw [l1];omega)];walk_at "ew";rw [sl0];walk_at "ew";rw [rm _ _ (by rw [bD,l1];omega)];rfl
   ·rw [bD,bD,l1];omega
  ·by_cases h2:m % 3=1
   ·refine ⟨bW (au L) none (some at')++⟨#[c]⟩++bW (au L) (some (at'+1)) none,?_,?_,Sg.app (Sg.app (sb _ _) one) (sb _ _)⟩
    ·walk_at "ew";rw [if_neg h0];walk_at "ew";rw [if_pos h2,sl0];walk_at "ew";rw [rm _ _ (by rw [l1];omega)];walk_at "ew";rw [sl0];walk_at "ew";rw [rm _ _ (by rw [bD,l1];omega)];rfl
    ·rw [bD,bD,l1];omega
   ·refine ⟨bW (au L) none (some at')++bW (au L) (some (at'+1)) none,?_,?_,Sg.app (sb _ _) (sb _ _)⟩
    ·walk_at "ew";rw [if_neg h0];walk_at "ew";rw [if_neg h2];walk_at "ew";rw [sl0];walk_at "ew";rw [sl0];walk_at "ew";rw [rm _ _ (by omega)];rfl
    ·rw [bD];omega
 obtain ⟨z,e,hz,hzs⟩:=key;refine ⟨z.cps.toList,?_,by rw [dL];exact hz,hzs⟩;rw [<- tV z];exact e
def Nk {w0:List Nat} (h1:w0≠wI) (h2:w0≠wD) (rest:List (List Nat)):AA w0 rest=none:=by
 unfold AA;split
 ·split
  ·rw [if_neg (fun z=>h1 z.1)]
   first|done|rw [if_neg h2]
  ·rfl
 ·rfl
def uo {M w0:List Nat} {rest:List (List Nat)} (h:eS M=w0::rest) (h1:w0≠wT) (h2:w0≠wP) (h3:w0≠wI) (h4:w0≠wD):px M=none:=by
 unfold px;rw [h,i6,if_neg h1,if_neg h2,Nk h3 h4]
def GV {w:List Nat} (h:32∉w) (rest:List (List Nat)):hZ (ay (w::rest))=w:=by
 cases rest with
 | nil=>exact AY h
 | cons a r=>rw [aO _ _ (by simp)];exact (pp _ _ h).1
def zg {M w0 w1:List Nat} {rest:List (List Nat)} (h:eS M=w0::w1::rest) (hn:bZ w1=false):px M=none:=by
 have hj:=jw M;have hf:=iv M;unfold px;rw [h] at hj hf ⊢;rw [i6];split
 ·show (if rest.length=2*(bh rest).length/\bZ w1=true/\colsB (bh rest)=true then some (vm (au w1) (bh rest)) else none)=none;rw [if_neg (fun z=>by rw [hn] at z;exact Bool.false_ne_true z.2.1)]
 ·split
  ·rename_i _ e0;rw [aO _ _ (by simp),e0] at hj;have h4:M.drop 4=ay (w1::rest):=by rw [<- hj];rfl
   unfold DR;rw [h4,GV (hf w1 (by simp)),hn,if_neg Bool.false_ne_true]
  ·unfold AA;split
   ·rename_i w1' w2 e
    have:w1'=w1:=by cases e;rfl
    rw [this,hn,if_neg Bool.false_ne_true]
   ·rfl
def AN {ws:List (List Nat)} {w:List Nat} (h:w∈ws) (hw:z6 w=none):ce ws=none:=by
 cases e:ce ws with
 | none=>rfl
 | some ds =>
  obtain ⟨d,hd⟩:=(lD ws ds e).2 w h;rw [hw] at hd;cases hd
def uR:∀ (ws:List (List Nat)) (w:List Nat),ws≠[]->ay (ws++[w])=ay ws++32::w
 | [],w,h=>absurd rfl h
 | [a],w,_=>rfl
 | a::b::r,w,_=>by
  have ih:=uR (b::r) w (by simp);show a++32::ay (b::r++[w])=(a++32::ay (b::r))++32::w;rw [ih];simp
def Di (ws xs:List (List Nat)) (h1:ws≠[]) (h2:xs≠[]):ay (ws++xs)=ay ws++32::ay xs:=by
 cases ws with
 | nil=>exact absurd rfl h1
 | cons a r=>exact qV r xs h2 a
def we:∀ (r xs:List (List Nat)),r.length=2*(bh r).length->bh (r++xs)=bh r++bh xs
 | [],xs,_=>rfl
 | [_],xs,h=>by simp [bh] at h
 | a::b::r,xs,h=>by
  have ih:=we r xs (by simp [bh] at h;omega);show (au a,au b)::bh (r++xs)=_;rw [ih];rfl
def C1 (cs:List (Str×Str)):((jg cs).map wS).length=2*(bh ((jg cs).map wS)).length:=by rw [mr,List.length_map,lL]
def yh {nm:Str} {cs:List (Str×Str)} {M:List Nat} {xs:List (List Nat)} (hs:eS M=wT::wS nm::((jg cs).map wS++xs)) (hx:xs.length=2*(bh xs).length->colsB (cs++bh xs)=false):px M=none:=by
 unfold px;rw [hs,i6,if_pos rfl];show (if ((jg cs).map wS++xs).length=2*(bh ((jg cs).map wS++xs)).length/\bZ (wS nm)=true/\colsB (bh ((jg cs).map wS++xs))=true then some (vm (au (wS nm)) (bh ((jg cs).map wS++xs))) else none)=none;have e:=we ((jg cs).map wS) xs (C1 cs);have hl:=C1 cs;rw [mr] at e hl;rw [e,if_neg];rintro ⟨a,_,b⟩;rw [List.length_append,List.length_append,hl] at a;rw [hx (by omega)] at b;cases b
def Fo {nm:Str} {cs:List (Str×Str)} (hn:Gn nm) (hc:Cols cs) (xs:List (List Nat)) (hx:∀ x∈xs,32∉x):eS (ay ((tW nm cs).map wS++xs))=wT::wS nm::((jg cs).map wS++xs):=by
 rw [mq (by simp) fun w hw=>?_]
 ·show wS (Str.ofString "table")::_=_;rw [zd];rfl
 ·rcases List.mem_append.mp hw with hw|hw
  ·have:=tI hn hc
   have hf:=iv (ay ((tW nm cs).map wS));rw [this] at hf;refine hf w ?_;rw [<- zd];exact hw
  ·exact hx w hw
def wE {cs:List (Str×Str)} {a b:List Nat} (h:sF (.str (au b))=false):colsB (cs++[(au a,au b)])=false:=by
 unfold colsB
 have:(cs++[(au a,au b)]).all pR=false:=by
  rw [List.all_append,Bool.and_eq_false_iff];right
  show (pR (au a,au b)&&true)=false;unfold pR;rw [h,Bool.and_false,Bool.and_true]
 rw [this,Bool.false_and,Bool.and_false]
def Bd {cs:List (Str×Str)} {c:Str×Str} {k:Str} (h:c∈cs):colsB (cs++[(c.1,k)])=false:=by
 unfold colsB
 have:decide (((cs++[(c.1,k)]).map (·.1)).Nodup)=false:=by
  refine decide_eq_false fun z=>?_;rw [List.map_append,List.nodup_append] at z;exact z.2.2 c.1 (List.mem_map_of_mem h) c.1 (by simp) rfl
 rw [this,Bool.and_false,Bool.and_false]
def BF {nm:Str} {M x:List Nat} (hn:Gn nm) (hM:M=wP++32::(wS nm++32::x)) (hx:rn (hZ x)=none\/fI x=[]\/ce (cQ [] false (fI x))=none\/∃ ds,ce (cQ [] false (fI x))=some ds/\8 < ds.length):px M=none:=by
 have hs:eS M=wP::wS nm::eS x:=by rw [hM,cZ _ _ (by decide),cZ _ _ hn.free]
 unfold px;rw [hs,i6,if_neg (by decide),if_pos rfl];have h4:M.drop 4=wS nm++32::x:=by rw [hM];rfl
 obtain ⟨a1,a2⟩:=pp (wS nm) x hn.free;unfold DR;rw [h4,a1,a2,if_pos (i5 hn)];cases hr:rn (hZ x) with
 | none=>rfl
 | some n =>
  dsimp only;by_cases ht:fI x=[]
  ·rw [if_pos ht]
  ·rw [if_neg ht];rcases hx with z|z|z|⟨ds,z,h8⟩
   ·rw [hr] at z;cases z
   ·exact absurd z ht
   ·rw [z]
   ·rw [z];dsimp only;rw [if_neg (by omega)]
def HR {nm:Str} {M x:List Nat} (hn:Gn nm) (hM:M=wD++32::(wS nm++32::x)) (hx:32∉x) (hr:rn x=none):px M=none:=by
 have hs:eS M=[wD,wS nm,x]:=by rw [hM,cZ _ _ (by decide),cZ _ _ hn.free,xV hx]
 unfold px;rw [hs,i6,if_neg (by decide),if_neg (by decide)];show (if bZ (wS nm)=true then (if wD=wI/\bZ x=true then some (.tup [.str "index",.str (au (wS nm)),.str (au x)]) else if wD=wD then (rn x).map fun n=>D.tup [.str "drop",.str (au (wS nm)),.int n] else none) else none)=none;rw [if_pos (i5 hn),if_neg (fun z=>absurd z.1 (by decide)),if_pos rfl,hr];rfl
def AQ {nm:Str} {M x:List Nat} (hn:Gn nm) (hM:M=wI++32::(wS nm++32::x)) (hx:32∉x) (hr:bZ x=false):px M=none:=by
 have hs:eS M=[wI,wS nm,x]:=by rw [hM,cZ _ _ (by decide),cZ _ _ hn.free,xV hx]
 unfold px;rw [hs,i6,if_neg (by decide),if_neg (by decide)];show (if bZ (wS nm)=true then (if wI=wI/\bZ x=true then some (.tup [.str "index",.str (au (wS nm)),.str (au x)]) else if wI=wD then (rn x).map fun n=>D.tup [.str "drop",.str (au (wS nm)),.int n] else none) else none)=none;rw [if_pos (i5 hn),if_neg (fun z=>by rw [hr] at z;exact Bool.false_ne_true z.2),if_neg (by decide)]
def xS {M w0:List Nat} {rest:List (List Nat)} (h:eS M=w0::rest) (h1:w0≠wT) (h2:w0≠wP) (hl:rest.length≠2):px M=none:=by
 unfold px;rw [h,i6,if_neg h1,if_neg h2];unfold AA;split
 ·exact absurd rfl hl
 ·rfl
def Li.ws {d:D} {L:List Nat} (h:Li d L):∃ w0 nm rest,eS L=w0::wS nm::rest/\rest≠[]/\Gn nm/\(w0=wT\/w0=wP\/w0=wI\/w0=wD):=by
 cases h with
 | table hn hc =>
  rename_i nm cs;refine ⟨_,_,_,tI hn hc,fun z=>?_,hn,.inl rfl⟩
  have:=congrArg List.length z
  rw [List.length_map,lL] at this
  have:=hc.l0
  simp at *;omega
 | index hn hc=>exact ⟨_,_,_,xR hn hc,by simp,hn,.inr (.inr (.inl rfl))⟩
 | drop hn h1 h2=>exact ⟨_,_,_,yw hn,by simp,hn,.inr (.inr (.inr rfl))⟩
 | put hn h1 h2 hd l1 l8=>exact ⟨_,_,_,Cs hn l1,by simp,hn,.inr (.inl rfl)⟩
def Vp {L:List Nat}:px (32::L)=none:=by
 refine uo (w0:=[]) (rest:=eS L) ?_ (by decide) (by decide) (by decide) (by decide);rw [eS,if_pos rfl]
def Vb {d:D} {L:List Nat} (h:Li d L):px (80::L.drop 1)=none:=by
 obtain ⟨w0,nm,rest,hs,hr,hn,hw⟩:=h.ws;have hj:=jw L;rw [hs,aO _ _ (by simp)] at hj;have hf:32∉w0:=iv L w0 (by rw [hs];simp);rcases hw with rfl|rfl|rfl|rfl
 all_goals
  rw [<- hj];refine uo (rest:=eS (ay (wS nm::rest))) (cZ (80::_) _ (by decide)) (by decide) (by decide) (by decide) (by decide)
def VI {d:D} {L:List Nat} (h:Li d L):px (97::L)=none:=by
 obtain ⟨w0,nm,rest,hs,hr,hn,hw⟩:=h.ws;have hj:=jw L;rw [hs,aO _ _ (by simp)] at hj;rcases hw with rfl|rfl|rfl|rfl
 all_goals
  rw [<- hj];refine uo (rest:=eS (ay (wS nm::rest))) (cZ (97::_) _ (by decide)) (by decide) (by decide) (by decide) (by decide)
def FR:∀ L:List Nat,eS (L++[32])=eS L++[[]]
 | []=>rfl
 | c::r=>by
  have ih:=FR r;show eS (c::(r++[32]))=_;by_cases hc:c=32
  ·rw [eS,if_pos hc,eS,if_pos hc,ih];rfl
  ·cases e:eS r with
   | nil=>exact absurd e (lZ r)
   | cons w ws =>
    rw [e] at ih;rw [jQ c r w ws hc e,jQ c _ w (ws++[[]]) hc ih];rfl
def Ig:z6 []=none:=by decide +kernel
def Vx {d:D} {L:List Nat} (h:Li d L):px (L++[32])=none:=by
 have he:=FR L;cases h with
 | table hn hc =>
  rename_i nm cs;rw [tI hn hc] at he;exact yh (nm:=nm) (cs:=cs) (xs:=[[]]) he (fun z=>by simp [bh] at z)
 | index hn hc =>
  rw [xR hn hc] at he;exact xS he (by decide) (by decide) (by simp)
 | drop hn h1 h2 =>
  rw [yw hn] at he;exact xS he (by decide) (by decide) (by simp)
 | put hn h1 h2 hd l1 l8 =>
  rename_i nm n ds;have e:ay (ds.map wl)++[32]=ay (ds.map wl++[[]]):=by rw [uR _ _ (uy l1)]
  refine BF (x:=dg n.natAbs++32::(ay (ds.map wl)++[32])) hn (by rw [CW l1];simp) (.inr (.inr (.inl ?_)));rw [(pp _ _ (nZ _)).2,e];cases ds with
  | nil=>simp at l1
  | cons d0 dr =>
   rw [List.map_cons,List.cons_append,ug _ _ fun x hx=>?_]
   ·exact AN (w:=[]) (by simp) Ig
   ·rw [<- List.cons_append,<- List.map_cons] at hx;rcases List.mem_append.mp hx with hx|hx
    ·obtain ⟨d,hdd,rfl⟩:=List.mem_map.mp hx;exact yV (hd d hdd)
    ·rw [List.mem_singleton.mp hx];rfl
def U0 {w0:List Nat} {rest:List (List Nat)} (hf:32∉w0):px (w0++32::32::ay rest)=none:=by
 refine zg (w0:=w0) (w1:=[]) (rest:=eS (ay rest)) ?_ DE;rw [cZ _ _ hf,eS,if_pos rfl]
def UX {w0 x:List Nat} {rest:List (List Nat)} (hf:∀ w∈w0::x::rest,32∉w) (hx:bZ x=false):px (ay (w0::x::rest))=none :=
 zg (mq (by simp) hf) hx
def An:∀ ws:List (List Nat),ws≠[]->((ws.map au).map (·.length)).sum+ws.length=(ay ws).length+1
 | [],h=>absurd rfl h
 | [w],_=>by simp [ay,a9]
 | w::w'::r,_=>by
  have ih:=An (w'::r) (by simp);rw [aO _ _ (by simp)];simp only [List.map_cons,List.sum_cons,List.length_cons,List.length_append,a9] at ih ⊢;omega
def tf (ws:List (List Nat)) (h0:ws≠[]) (hl:(ay ws).length<=1000):fG (Str.ofString " ") [.lst (ds_ ws)]=.ok (.str (au (ay ws))):=by
 have e:mH (ds_ ws)=some (ws.map au):=strs_map au ws;have hs:=An ws h0;rw [FQ e (by rw [rK,List.length_map];omega),Ep,tU]
def Rz (w:List Nat) (r:List (List Nat)):jP (.lst (ds_ (w::r))) none (some 1)=.ok (.lst (ds_ [w])):=by
 rw [Hs];rfl
def OT (w:List Nat) (r:List (List Nat)):jP (.lst (ds_ (w::r))) (some 1) none=.ok (.lst (ds_ r)):=by
 rw [Hs];congr 2;unfold AZ;have e1:HT.sIx (ds_ (w::r)).length 0 (some 1)=1:=by unfold HT.sIx;simp
 have e2:HT.sIx (ds_ (w::r)).length (ds_ (w::r)).length none=r.length+1:=by unfold HT.sIx;simp
 rw [e1,e2];simp;exact List.take_of_length_le (by simp)
def Qr (w w':List Nat) (r:List (List Nat)):jP (.lst (ds_ (w::w'::r))) (some 2) none=.ok (.lst (ds_ r)):=by
 rw [Hs];congr 2;unfold AZ;have e1:HT.sIx (ds_ (w::w'::r)).length 0 (some 2)=2:=by unfold HT.sIx;simp
 have e2:HT.sIx (ds_ (w::w'::r)).length (ds_ (w::w'::r)).length none=r.length+2:=by unfold HT.sIx;simp
 rw [e1,e2];simp;exact List.take_of_length_le (by simp)
def Mq (r:R D):Prop:=∃ M,r=.ok (.str (au M))/\Ln M/\px M=none
def Ma {a b:List Nat} (ha:∀ c∈a,c=9\/32<=c/\c<=126) (hb:∀ c∈b,c=9\/32<=c/\c<=126) (hl:a.length+b.length<=850):Ln (a++b):=⟨by rw [List.length_append];exact hl,fun c hc=>by
 rcases List.mem_append.mp hc with h|h
 ·exact ha c h
 ·exact hb c h⟩
def six (i:Int) (h0:0<=i) (h5:i<=5):∃ x:List Nat,aU (.lst [.str "",.str "and",.str "A",.str "abcdefghi",.str "a1",.str "none"]) (.int i)=.ok (.str (au x))/\bZ x=false/\x.length<=9/\∀ c∈x,33<=c/\c<=126:=by
 have hi:i=0\/i=1\/i=2\/i=3\/i=4\/i=5:=by omega
 rcases hi with rfl|rfl|rfl|rfl|rfl|rfl
 ·exact ⟨[],by with_unfolding_all rfl,by decide +kernel,by decide,by decide⟩
 ·exact ⟨[97,110,100],by with_unfolding_all rfl,by decide +kernel,by decide,by decide⟩
 ·exact ⟨[65],by with_unfolding_all rfl,by decide +kernel,by decide,by decide⟩
 ·exact ⟨[97,98,99,100,101,102,103,104,105],by with_unfolding_all rfl,by decide +kernel,by decide,by decide⟩
 ·exact ⟨[97,49],by with_unfolding_all rfl,by decide +kernel,by decide,by decide⟩
 ·exact ⟨[110,111,110,101],by with_unfolding_all rfl,by decide +kernel,by decide,by decide⟩
def l80:Str.ofString "P"=au [80]:=by decide +kernel
def l97:Str.ofString "a"=au [97]:=by decide +kernel
def To:Str.ofString "  "=au [32,32]:=by decide +kernel
def yT {d:D} {L:List Nat} (h:Li d L) (way:Int) (h0:0<=way) (h1:way < 11):Mq (ge [d,.int way]):=by
 obtain ⟨w0,nm,rest,hs,hr,hn,hw⟩:=h.ws;have hj:=jw L;have hf:=iv L;have hll:=h.sg.1;have hsg:=h.sg.2;have hsg':∀ c∈L,c=9\/32<=c/\c<=126:=fun c hc=>.inr (hsg c hc);have hsp:=wn L (by omega);have hl:=h.line;rw [hs] at hj hf hsp;have f0:32∉w0:=hf w0 (by simp);have hjl:(ay (w0::wS nm::rest)).length<=840:=by rw [hj];exact hll
 have jA:=tf (w0::wS nm::rest) (by simp) (by omega);rw [hj] at jA;rw [sW,gb];have E1:aJ 2 (oD m7 (ak b8 (ac (ae 0) aj)) (ac (vC (.str " ")) aj)) [some d,some (.int way),none]=.ok (.nx [some d,some (.int way),some (.lst (ds_ (w0::wS nm::rest)))]):=by
  generalize D.lst (ds_ (w0::wS nm::rest))=Wd at hsp;walk_at "ew";rw [hl];walk_at "ew";rw [hsp];walk_at "ew"
 rw [aG,E1,ah,aA];have t1:=Rz w0 (wS nm::rest);have d1:=OT w0 (wS nm::rest);have d2:=Qr w0 (wS nm) rest;have i0:aU (.lst (ds_ (w0::wS nm::rest))) (.int 0)=.ok (.str (au w0)):=wH;generalize hWd:D.lst (ds_ (w0::wS nm::rest))=Wd at *;have hcase:way=0\/way=1\/way=2\/way=3\/way=4\/5<=way:=by omega
 rcases hcase with rfl|rfl|rfl|rfl|rfl|h5
 ·refine ⟨32::L,?_,⟨by simp;omega,fun c hc=>?_⟩,Vp⟩
  ·walk_at "ew";rw [jA];walk_at "ew";rw [Ep,bv _ _ (by simp;omega)];rfl
  ·rcases List.mem_cons.mp hc with rfl|hc
   ·exact .inr (by decide)
   ·exact hsg' c hc
 ·have jB:=tf [w0] (by simp) (by have:=congrArg List.length hj;rw [aO _ _ (by simp)] at this;simp at this;show w0.length<=1000;omega);have jC:=tf (wS nm::rest) (by simp) (by rw [aO _ _ (by simp)] at hjl;simp at hjl;omega);have hL2:L=w0++32::ay (wS nm::rest):=by rw [<- hj,aO _ _ (by simp)]
  have hlen:w0.length+1+(ay (wS nm::rest)).length<=840:=by rw [hL2] at hll;simp only [List.length_append,List.length_cons] at hll;omega
  refine ⟨w0++32::32::ay (wS nm::rest),?_,⟨by simp;omega,fun c hc=>?_⟩,U0 f0⟩
  ·walk_at "ew";rw [t1];walk_at "ew";rw [jB];walk_at "ew";rw [To,show ay [w0]=w0 from rfl,bv _ _ (by simp;omega)];walk_at "ew";rw [d1];walk_at "ew";rw [jC];walk_at "ew";rw [bv _ _ (by simp;omega)];walk_at "ew";simp
  ·simp only [List.mem_append,List.mem_cons] at hc;rcases hc with hc|rfl|rfl|hc
   ·exact hsg' c (by rw [hL2];simp [hc])
   ·exact .inr (by decide)
   ·exact .inr (by decide)
   ·exact hsg' c (by rw [hL2];simp [hc])
 ·refine ⟨L++[32],?_,Ma hsg' (by simp) (by simp;omega),Vx h⟩;walk_at "ew";rw [jA];walk_at "ew";rw [Ep,bv _ _ (by simp;omega)];rfl
 ·refine ⟨80::L.drop 1,?_,⟨by simp;omega,fun c hc=>?_⟩,Vb h⟩
  ·walk_at "ew";rw [jA];walk_at "ew";rw [show jP (.str (au L)) (some 1) none=.ok (.str (au (L.drop 1))) from zB L 1 (by omega)];walk_at "ew";rw [l80,bv _ _ (by simp;omega)];rfl
  ·rcases List.mem_cons.mp hc with rfl|hc
   ·exact .inr (by decide)
   ·exact hsg' c (List.mem_of_mem_drop hc)
 ·refine ⟨97::L,?_,⟨by simp;omega,fun c hc=>?_⟩,VI h⟩
  ·walk_at "ew";rw [jA];walk_at "ew";rw [l97,bv _ _ (by simp;omega)];rfl
  ·rcases List.mem_cons.mp hc with rfl|hc
   ·exact .inr (by decide)
   ·exact hsg' c hc
 ·obtain ⟨x,ex,xn,xl,xs⟩:=six (way - 5) (by omega) (by omega);have xf:32∉x:=fun z=>by have:=xs 32 z;omega
  have hL2:L=w0++32::(wS nm++32::ay rest):=by rw [<- hj,aO _ _ (by simp),aO _ _ hr]
  have hlen:w0.length+1+(wS nm).length+1+(ay rest).length<=840:=by rw [hL2] at hll;simp only [List.length_append,List.length_cons] at hll;omega
  have hM:ay (w0::x::rest)=w0++32::(x++32::ay rest):=by rw [aO _ _ (by simp),aO _ _ hr]
  have hMl:(ay (w0::x::rest)).length<=850:=by rw [hM];simp only [List.length_append,List.length_cons];omega
  have jD:=tf (w0::x::rest) (by simp) (by omega);refine ⟨ay (w0::x::rest),?_,⟨hMl,fun c hc=>?_⟩,UX (fun w hw=>?_) xn⟩
  ·have n0:¬ way=0:=by omega
   have n1:¬ way=1:=by omega
   have n2:¬ way=2:=by omega
   have n3:¬ way=3:=by omega
   have n4:¬ way=4:=by omega
   walk_at "ew";rw [if_neg n0];walk_at "ew";rw [if_neg n1];walk_at "ew";rw [if_neg n2];walk_at "ew";rw [if_neg n3];walk_at "ew";rw [if_neg n4];walk_at "ew";rw [i0];walk_at "ew";rw [ex];walk_at "ew";rw [d2];walk_at "ew";rw [if_pos (by
    have h1:(eS L).length=rest.length+2:=by rw [hs];rfl
    have h2:=uH L;simp;omega)]
   walk_at "ew";rw [show fG (Str.ofString " ") [D.lst (D.str (au w0)::D.str (au x)::ds_ rest)]=_ from jD];rfl
  ·rw [hM] at hc;simp only [List.mem_append,List.mem_cons] at hc;rcases hc with hc|rfl|hc|rfl|hc
   ·exact hsg' c (by rw [hL2];simp [hc])
   ·exact .inr (by decide)
   ·have:=xs c hc
    exact .inr (by omega)
   ·exact .inr (by decide)
   ·exact hsg' c (by rw [hL2];simp [hc])
  ·rcases List.mem_cons.mp hw with rfl|hw
   ·exact f0
   ·rcases List.mem_cons.mp hw with rfl|hw
    ·exact xf
    ·exact hf w (by simp [hw])
def Wj:Str.ofString "table "=au (wT++[32]):=by decide +kernel
def Vk:Str.ofString " zz"=au (32::ay [[122,122]]):=by decide +kernel
def Vf:Str.ofString " zz none"=au (32::ay [[122,122],[110,111,110,101]]):=by decide +kernel
def Wg:Str.ofString " zz texts"=au (32::ay [[122,122],[116,101,120,116,115]]):=by decide +kernel
def VA:Str.ofString " text"=au (32::[116,101,120,116]):=by decide +kernel
abbrev GM:List (List Nat):=[[97],[116,101,120,116],[98],[116,101,120,116],[99],[116,101,120,116],[100],[116,101,120,116],[101],[116,101,120,116],[102],[116,101,120,116],[103],[116,101,120,116],[104],[116,101,120,116],[105],[116,101,120,116]]
def VO:Str.ofString " a text b text c text d text e text f text g text h text i text"=au (32::ay GM):=by decide +kernel
def W0:∀ c∈wT,32<=c/\c<=126:=by decide
def sgX:∀ c∈[116,101,120,116],32<=c/\c<=126:=by decide
def Vu:∀ c∈32::ay GM,32<=c/\c<=126:=by decide
def Vc {w:List Nat} {nm:Str} (hw:∀ c∈w,32<=c/\c<=126) (hn:Gn nm):∀ c∈w++32::wS nm,c=9\/32<=c/\c<=126:=fun c hc=>by
 rcases List.mem_append.mp hc with hc|hc
 ·exact .inr (hw c hc)
 ·rcases List.mem_cons.mp hc with rfl|hc
  ·exact .inr (by decide)
  ·exact .inr (hn.sg c hc)
def Pn:(32::ay GM).length=63:=by decide
def Vl (nm:Str) {cs:List (Str×Str)} (h:1<=cs.length):ay ((tW nm cs).map wS)=(wT++32::wS nm)++32::ay ((cs.map cw).map wS):=by
 rw [<- CH nm h];show ay (wS (Str.ofString "table")::wS nm::(cs.map cw).map wS)=_;have hne:(cs.map cw).map wS≠[]:=by rw [List.map_map];exact uy h
 rw [aO _ _ (by simp),aO _ _ hne,zd];simp
def pK {nm:Str} {cs:List (Str×Str)} (hn:Gn nm) (hc:Cols cs) (xs:List (List Nat)) (h0:xs≠[]) (hf:∀ x∈xs,32∉x) (hl:(ay xs).length<=100) (hg:∀ c∈ay xs,c=9\/32<=c/\c<=126) (hx:xs.length=2*(bh xs).length->colsB (cs++bh xs)=false) :
  Ln (ay ((tW nm cs).map wS)++32::ay xs)/\px (ay ((tW nm cs).map wS)++32::ay xs)=none:=by
 have hli:=Li.table hn hc;have hsg:=hli.sg;constructor
 ·refine ⟨?_,fun c hc=>?_⟩
  ·obtain ⟨ws,e,h1,h2,h3⟩:=hli.words;have hw:∀ w∈(tW nm cs).map wS,w.length<=8:=fun w hw=>by
    obtain ⟨z,hz,rfl⟩:=List.mem_map.mp hw;rcases List.mem_cons.mp hz with rfl|hz
    ·decide +kernel
    ·rcases List.mem_cons.mp hz with rfl|hz
     ·exact hn.len
     ·obtain ⟨c,hcc,e|e⟩:=t4 hz
      ·rw [e];exact (hc.col c hcc).gn.len
      ·rw [e];rw [dL];have:=kind_len (hc.col c hcc).kd;omega
   have hl2:=lK 8 _ hw;have h8:=hc.l1
   have:((tW nm cs).map wS).length<=18:=by rw [List.length_map];simp [lL];omega
   simp only [List.length_append,List.length_cons];omega
  ·simp only [List.mem_append,List.mem_cons] at hc;rcases hc with hc|rfl|hc
   ·exact .inr (hsg.2 c hc)
   ·exact .inr (by decide)
   ·exact hg c hc
 ·rw [<- Di _ _ (by simp) h0];exact yh (Fo hn hc xs hf) hx
def zq {nm:Str} {cs:List (Str×Str)} (hn:Gn nm) (hc:Cols cs) (way:Int) (h11:11<=way):Mq (gc [vm nm cs,.int way]):=by
 have h8:=hc.l1;have hnl:=hn.len;have hli:=Li.table hn hc;have hll:=hli.sg.1;obtain ⟨c0,cr,ecs⟩:∃ c0 cr,cs=c0::cr:=by
  cases cs with
  | nil=>have:=hc.l0;simp at this
  | cons a b=>exact ⟨a,b,rfl⟩
 have hc0:c0∈cs:=by rw [ecs];simp
 have g0:=(hc.col c0 hc0).gn;obtain ⟨C,hC⟩:∃ C,ay ((cs.map cw).map wS)=C:=⟨_,rfl⟩;have hL:=Vl nm hc.l0;rw [hC] at hL;have hCl:(wT++32::wS nm).length+1+C.length<=840:=by rw [hL] at hll;simp only [List.length_append,List.length_cons] at hll ⊢;omega
 have ej:=js (cs.map cw) (fun z hz=>by
  obtain ⟨c,hcc,rfl⟩:=List.mem_map.mp hz;have h1:=(hc.col c hcc).nm.l1;have h2:=kind_len (hc.col c hcc).kd;unfold cw;rw [bD,bD,rK];omega) (by simp;omega)
 rw [hC] at ej;rw [sY,gi];have E1:aJ 2 (ao aC (vC (.str "table ")) (ao aU (ao aU (ae 0) (vC (.int 1))) (vC (.int 0)))) [some (vm nm cs),some (.int way),none,none]=.ok (.nx [some (vm nm cs),some (.int way),some (.str (au (wT++32::wS nm))),none]):=by
  walk_at "ew";rw [Wj,tV nm,bv _ _ (by simp at hnl ⊢;omega)];walk_at "ew";simp [ax]
 have e2:oD fG (vC (.str " ")) (ac (dm [none] (iR (ao aU (ao aU (ae 0) (vC (.int 1))) (vC (.int 1)))) (.one 0) dX (ao aC (ao aC (ao aU (ae 0) (vC (.int 0))) (vC (.str " "))) (ao aU (ae 0) (vC (.int 1))))) aj) [some (vm nm cs),some (.int way),some (.str (au (wT++32::wS nm))),none]=.ok (.str (au C)):=by
  have e1:dm [none] (iR (ao aU (ao aU (ae 0) (vC (.int 1))) (vC (.int 1)))) (.one 0) dX (ao aC (ao aC (ao aU (ae 0) (vC (.int 0))) (vC (.str " "))) (ao aU (ae 0) (vC (.int 1)))) [some (vm nm cs),some (.int way),some (.str (au (wT++32::wS nm))),none]=.ok (.lst ((cs.map cw).map D.str)):=by
   walk_at "ew";rw [CK hc]
  rw [LG,v_c,ah,Nf,o9,e1];simp only [ah,o8,um,mi];exact ej
 rw [aG,E1,ah,aA,aG,wN,e2,ah,Cl,ah,aA];show Mq (fin (aF _ _ [some (vm nm cs),some (.int way),some (.str (au (wT++32::wS nm))),some (.str (au C))]));have eLC:ao aC (ao aC (ae 2) (vC (.str " "))) (ae 3) [some (vm nm cs),some (.int way),some (.str (au (wT++32::wS nm))),some (.str (au C))]=.ok (.str (au (ay ((tW nm cs).map wS)))):=by
  generalize wT++32::wS nm=B at *;walk_at "ew";rw [Ep,bv _ _ (by simp;omega)];walk_at "ew";rw [bv _ _ (by simp;omega),hL];simp
 have eM:∀ (z:Str) (x:List Nat),z=au x->x.length<=100->ao aC (ao aC (ao aC (ae 2) (vC (.str " "))) (ae 3)) (vC (.str z)) [some (vm nm cs),some (.int way),some (.str (au (wT++32::wS nm))),some (.str (au C))]=.ok (.str (au (ay ((tW nm cs).map wS)++x))):=fun z x hz hx=>by
  rw [jd,eLC,ah,g7,v_c,ah,hz,bv _ _ (by omega)]
 have q:∀ k:Int,bP (ao cq (ae 1) (vC (.int k))) [some (vm nm cs),some (.int way),some (.str (au (wT++32::wS nm))),some (.str (au C))]=.ok (decide (way=k)):=fun k=>by
  walk_at "ew"
 by_cases h:way=11
 ·rw [aG,eX,q,ah,eG,if_pos (decide_eq_true h)];refine ⟨wT++32::wS nm,rfl,⟨by omega,Vc W0 hn⟩,?_⟩
  ·have hs:eS (wT++32::wS nm)=[wT,wS nm]:=by rw [cZ _ _ (by decide),xV hn.free]
   refine yh (nm:=nm) (cs:=[]) (xs:=[]) hs fun _=>by decide +kernel
 rw [aG,eX,q,ah,eG,if_neg (by rw [decide_eq_false h];decide),bV,ah,aA];by_cases h:way=12
 ·rw [aG,eX,q,ah,eG,if_pos (decide_eq_true h),kB];have gl:=g0.len;have gl':c0.1.cps.toList.length<=8:=gl;obtain ⟨b1,b2⟩:=pK hn hc [wS c0.1,[116,101,120,116]] (by simp) (fun x hx=>by
   rcases List.mem_cons.mp hx with rfl|hx
   ·exact g0.free
   ·rw [List.mem_singleton.mp hx];decide) (by rw [aO _ _ (by simp)];simp only [ay,List.length_append,List.length_cons,List.length_nil];omega) (fun c hc=>by
   rw [aO _ _ (by simp)] at hc;rcases List.mem_append.mp hc with hc|hc
   ·exact .inr (g0.sg c hc)
   ·rcases List.mem_cons.mp hc with rfl|hc
    ·exact .inr (by decide)
    ·exact .inr (sgX c hc)) (fun _=>by
   show colsB (cs++[(au (wS c0.1),au [116,101,120,116])])=false;rw [jO];exact Bd hc0)
  refine ⟨_,?_,b1,b2⟩;have i0:ao aU (ao aU (ao aU (ao aU (ae 0) (vC (.int 1))) (vC (.int 1))) (vC (.int 0))) (vC (.int 0)) [some (vm nm cs),some (.int way),some (.str (au (wT++32::wS nm))),some (.str (au C))]=.ok (.str c0.1):=by
   subst ecs
   have:ci c0=.tup [.str c0.1,.str c0.2]:=rfl
   walk_at "ew";rw [List.map_cons];walk_at "ew";rw [this];walk_at "ew"
  rw [jd,jd,eM (Str.ofString " ") [32] Ep (by simp),ah,g7,i0,ah,tV c0.1,bv _ _ (by rw [List.length_append,List.length_singleton];omega),ah,g7,v_c,ah,VA,bv _ _ (by rw [List.length_append,List.length_append,List.length_singleton];simp only [List.length_cons,List.length_nil];omega),ah];rw [aO _ _ (by simp)];show R.ok (D.str (au _))=R.ok (D.str (au _));congr 3;simp [ay,ax]
 rw [aG,eX,q,ah,eG,if_neg (by rw [decide_eq_false h];decide),bV,ah,aA];by_cases h:way=13
 ·rw [aG,eX,q,ah,eG,if_pos (decide_eq_true h),kB,eM _ _ Vk (by decide)];obtain ⟨b1,b2⟩:=pK hn hc [[122,122]] (by simp) (by decide) (by decide) (by decide) (fun z=>by simp [bh] at z);exact ⟨_,rfl,b1,b2⟩
 rw [aG,eX,q,ah,eG,if_neg (by rw [decide_eq_false h];decide),bV,ah,aA];by_cases h:way=14
 ·rw [aG,eX,q,ah,eG,if_pos (decide_eq_true h),kB,eM _ _ Vf (by decide)];obtain ⟨b1,b2⟩:=pK hn hc [[122,122],[110,111,110,101]] (by simp) (by decide) (by decide) (by decide) (fun z=>wE (by decide +kernel));exact ⟨_,rfl,b1,b2⟩
 rw [aG,eX,q,ah,eG,if_neg (by rw [decide_eq_false h];decide),bV,ah,aA];by_cases h:way=15
 ·rw [aG,eX,q,ah,eG,if_pos (decide_eq_true h),kB];have e:ao aC (ae 2) (vC (.str " a text b text c text d text e text f text g text h text i text")) [some (vm nm cs),some (.int way),some (.str (au (wT++32::wS nm))),some (.str (au C))]=.ok (.str (au ((wT++32::wS nm)++32::ay GM))):=by
   generalize wT++32::wS nm=B at *;walk_at "ew";rw [VO,bv _ _ (by rw [Pn];omega)]
  rw [e];refine ⟨_,rfl,⟨?_,fun c hc=>?_⟩,?_⟩
  ·have:(32::ay GM).length<=100:=by decide
   rw [List.length_append]
   have:(wT++32::wS nm).length<=14:=by simp only [List.length_append,List.length_cons,List.length_nil];omega
   omega
  ·rcases List.mem_append.mp hc with hc|hc
   ·exact Vc W0 hn c hc
   ·exact .inr (Vu c hc)
  ·have hs:eS ((wT++32::wS nm)++32::ay GM)=wT::wS nm::GM:=by
    have e:(wT++32::wS nm)++32::ay GM=wT++32::(wS nm++32::ay GM):=by simp
    rw [e,cZ wT _ (by decide),cZ _ _ hn.free,mq (by simp) (by decide)]
   refine yh (nm:=nm) (cs:=[]) (xs:=GM) hs fun _=>by decide +kernel
 rw [aG,eX,q,ah,eG,if_neg (by rw [decide_eq_false h];decide),bV,ah,aA,kB,eM _ _ Wg (by decide)];obtain ⟨b1,b2⟩:=pK hn hc [[122,122],[116,101,120,116,115]] (by simp) (by decide) (by decide) (by decide) (fun z=>wE (by decide +kernel));exact ⟨_,rfl,b1,b2⟩
def zZ (ws:List (List Nat)) (h:(ce ws).isNone=true):ce ws=none:=Option.isNone_iff_eq_none.mp h
def UW (ws:List (List Nat)) (h:(ce ws).map List.length=some 9):∃ ds,ce ws=some ds/\8 < ds.length:=by
 cases e:ce ws with
 | none=>rw [e] at h;cases h
 | some ds =>
  rw [e] at h
  have:ds.length=9:=by simpa using h
  exact ⟨ds,rfl,by omega⟩
def PX (i:Int):∃ x:List Nat,aU (.lst [.str "1000000001",.str "10000000000"]) (.int (i % 2))=.ok (.str (au x))/\rn x=none/\x.length<=11/\∀ c∈x,33<=c/\c<=126:=by
 have h0:0<=i % 2:=Int.emod_nonneg _ (by decide);have h1:i % 2 < 2:=Int.emod_lt_of_pos _ (by decide);have hi:i % 2=0\/i % 2=1:=by omega
 rcases hi with e|e <;> rw [e]
 ·exact ⟨[49,48,48,48,48,48,48,48,48,49],by with_unfolding_all rfl,by decide +kernel,by decide,by decide⟩
 ·exact ⟨[49,48,48,48,48,48,48,48,48,48,48],by with_unfolding_all rfl,by decide +kernel,by decide,by decide⟩
def Jf (i:Int) (h0:0<=i) (h5:i<=5) (g:List Nat) (hg:rn g=none/\g.length<=11/\∀ c∈g,33<=c/\c<=126):∃ x:List Nat,aU (.lst [.str "0",.str "007",.str "+5",.str (au g),.str "x",.str ""]) (.int i)=.ok (.str (au x))/\rn x=none/\x.length<=11/\∀ c∈x,33<=c/\c<=126:=by
 have hi:i=0\/i=1\/i=2\/i=3\/i=4\/i=5:=by omega
 rcases hi with rfl|rfl|rfl|rfl|rfl|rfl
 ·exact ⟨[48],by with_unfolding_all rfl,by decide +kernel,by decide,by decide⟩
 ·exact ⟨[48,48,55],by with_unfolding_all rfl,by decide +kernel,by decide,by decide⟩
 ·exact ⟨[43,53],by with_unfolding_all rfl,by decide +kernel,by decide,by decide⟩
 ·exact ⟨g,F6,hg⟩
 ·exact ⟨[120],by with_unfolding_all rfl,by decide +kernel,by decide,by decide⟩
 ·exact ⟨[],by with_unfolding_all rfl,by decide +kernel,by decide,by decide⟩
def LH (i:Int):∃ r:List Nat,aU (.lst [.str "",.str " ",.str " 1 2 3 4 5 6 7 8 9",.str " -0",.str " 01",.str " \"ab",.str " \"ab\"c",.str " NONE",.str " 1  2",.str " 1 ",.str " 1000000000000000000"]) (.int (i % 11))=.ok (.str (au r))/\r.length<=25/\(∀ c∈r,32<=c/\c<=126)/\(r=[]\/∃ y,r=32::y/\(y=[]\/ce (cQ [] false y)=none\/∃ ds,ce (cQ [] false y)=some ds/\8 < ds.length)):=by
 have h0:0<=i % 11:=Int.emod_nonneg _ (by decide);have h1:i % 11 < 11:=Int.emod_lt_of_pos _ (by decide);generalize i % 11=k at h0 h1;have hi:k=0\/k=1\/k=2\/k=3\/k=4\/k=5\/k=6\/k=7\/k=8\/k=9\/k=10:=by omega
 rcases hi with rfl|rfl|rfl|rfl|rfl|rfl|rfl|rfl|rfl|rfl|rfl
 ·exact ⟨[],by with_unfolding_all rfl,by decide,by decide,.inl rfl⟩
 ·exact ⟨[32],by with_unfolding_all rfl,by decide,by decide,.inr ⟨[],rfl,.inl rfl⟩⟩
 ·exact ⟨[32,49,32,50,32,51,32,52,32,53,32,54,32,55,32,56,32,57],by with_unfolding_all rfl,by decide,by decide,.inr ⟨[49,32,50,32,51,32,52,32,53,32,54,32,55,32,56,32,57],rfl,.inr (.inr (UW _ (by decide +kernel)))⟩⟩
 ·exact ⟨[32,45,48],by with_unfolding_all rfl,by decide,by decide,.inr ⟨[45,48],rfl,.inr (.inl (zZ _ (by decide +kernel)))⟩⟩
 ·exact ⟨[32,48,49],by with_unfolding_all rfl,by decide,by decide,.inr ⟨[48,49],rfl,.inr (.inl (zZ _ (by decide +kernel)))⟩⟩
 ·exact ⟨[32,34,97,98],by with_unfolding_all rfl,by decide,by decide,.inr ⟨[34,97,98],rfl,.inr (.inl (zZ _ (by decide +kernel)))⟩⟩
 ·exact ⟨[32,34,97,98,34,99],by with_unfolding_all rfl,by decide,by decide,.inr ⟨[34,97,98,34,99],rfl,.inr (.inl (zZ _ (by decide +kernel)))⟩⟩
 ·exact ⟨[32,78,79,78,69],by with_unfolding_all rfl,by decide,by decide,.inr ⟨[78,79,78,69],rfl,.inr (.inl (zZ _ (by decide +kernel)))⟩⟩
 ·exact ⟨[32,49,32,32,50],by with_unfolding_all rfl,by decide,by decide,.inr ⟨[49,32,32,50],rfl,.inr (.inl (zZ _ (by decide +kernel)))⟩⟩
 ·exact ⟨[32,49,32],by with_unfolding_all rfl,by decide,by decide,.inr ⟨[49,32],rfl,.inr (.inl (zZ _ (by decide +kernel)))⟩⟩
 ·exact ⟨[32,49,48,48,48,48,48,48,48,48,48,48,48,48,48,48,48,48,48,48],by with_unfolding_all rfl,by decide,by decide,.inr ⟨[49,48,48,48,48,48,48,48,48,48,48,48,48,48,48,48,48,48,48],rfl,.inr (.inl (zZ _ (by decide +kernel)))⟩⟩
def W8:∀ c∈wP,32<=c/\c<=126:=by decide
def sgD:∀ c∈wD,32<=c/\c<=126:=by decide
def QP:∀ c∈wI,32<=c/\c<=126:=by decide
def U6:Str.ofString "put "=au (wP++[32]):=by decide +kernel
def Rf:Str.ofString " 1"=au (32::[49]):=by decide +kernel
def lS {w x:List Nat} {nm:Str} (hn:Gn nm) (hw:∀ c∈w,32<=c/\c<=126) (hl:w.length<=5) (hx:∀ c∈x,32<=c/\c<=126) (hxl:x.length<=100):Ln (w++32::(wS nm++32::x)):=by
 have hnl:=hn.len;refine ⟨by simp only [List.length_append,List.length_cons];omega,fun c hc=>?_⟩;rcases List.mem_append.mp hc with hc|hc
 ·exact .inr (hw c hc)
 ·rcases List.mem_cons.mp hc with rfl|hc
  ·exact .inr (by decide)
  ·rcases List.mem_append.mp hc with hc|hc
   ·exact .inr (hn.sg c hc)
   ·rcases List.mem_cons.mp hc with rfl|hc
    ·exact .inr (by decide)
    ·exact .inr (hx c hc)
def pH {d:D} {nm:Str} {w:Str} {wl0:List Nat} (hn:Gn nm) (i0:aU d (.int 0)=.ok (.str w)) (i1:aU d (.int 1)=.ok (.str nm)) (hw:w=au wl0) (hd:wl0=wD\/wl0=wP) (way:Int) (h11:11<=way) (h16:way<=16):Mq (fz [d,.int way]):=by
 have hnl:=hn.len;have hnl':nm.length<=8:=hn.nm.l1;have hwl:wl0.length<=4:=by rcases hd with rfl|rfl <;> decide
 obtain ⟨g,eg,hg⟩:=PX (nm.length:Int);obtain ⟨x,ex,xn,xl,xs⟩:=Jf (way - 11) (by omega) (by omega) g hg;have xf:32∉x:=fun z=>by have:=xs 32 z;omega
 rw [rO,fw];have E1:aJ 2 (ao aU (dj (ac (vC (.str "1000000001")) (ac (vC (.str "10000000000")) aj))) (ao bq (ak bO (ac (ao aU (ae 0) (vC (.int 1))) aj)) (vC (.int 2)))) [some d,some (.int way),none,none,none]=.ok (.nx [some d,some (.int way),some (.str (au g)),none,none]):=by
  walk_at "ew";rw [i1];walk_at "ew";rw [pV,if_pos (by omega)];walk_at "ew";rw [eg];walk_at "ew"
 have E2:aJ 3 (ao aU (dj (ac (vC (.str "0")) (ac (vC (.str "007")) (ac (vC (.str "+5")) (ac (ae 2) (ac (vC (.str "x")) (ac (vC (.str "")) aj))))))) (ao jj (ao jj (ae 1) (vC (.int 11))) (ao dC (vC (.int 6)) (ak ze (ac (ao vn (ae 1) (vC (.int 16))) aj))))) [some d,some (.int way),some (.str (au g)),none,none]=.ok (.nx [some d,some (.int way),some (.str (au g)),some (.str (au x)),none]):=by
  have eg:ao dC (vC (.int 6)) (ak ze (ac (ao vn (ae 1) (vC (.int 16))) aj)) [some d,some (.int way),some (.str (au g)),none,none]=.ok (.int 0):=by
   walk_at "ew";rw [if_neg (show ¬ 16 < way by omega)];rfl
  have es:ao jj (ao jj (ae 1) (vC (.int 11))) (ao dC (vC (.int 6)) (ak ze (ac (ao vn (ae 1) (vC (.int 16))) aj))) [some d,some (.int way),some (.str (au g)),none,none]=.ok (.int (way - 11)):=by
   rw [jd];show ((jj (.int way) (.int 11)).bind _)=_;rw [uA,ah,g7,eg,ah,uA,Int.sub_zero]
  rw [wN,jd];show ((R.ok (D.lst [.str "0",.str "007",.str "+5",.str (au g),.str "x",.str ""])).bind _).bind _=_;rw [ah,g7,es,ah,ex];rfl
 have E3:aJ 4 (ao aC (ao aC (ao aC (ao aC (ao aU (ae 0) (vC (.int 0))) (vC (.str " "))) (ao aU (ae 0) (vC (.int 1)))) (vC (.str " "))) (ae 3)) [some d,some (.int way),some (.str (au g)),some (.str (au x)),none]=.ok (.nx [some d,some (.int way),some (.str (au g)),some (.str (au x)),some (.str (au (wl0++32::(wS nm++32::x))))]):=by
  walk_at "ew";rw [i0];walk_at "ew";rw [hw,Ep,bv _ _ (by simp;omega)];walk_at "ew";rw [i1];walk_at "ew";rw [show D.str nm=D.str (au (wS nm)) by rw [jO],bv _ _ (by simp only [List.length_append,List.length_cons,List.length_nil];omega)];walk_at "ew";rw [bv _ _ (by simp only [List.length_append,List.length_cons,List.length_nil];omega)];walk_at "ew";rw [bv _ _ (by simp only [List.length_append,List.length_cons,List.length_nil];omega)];walk_at "ew";simp
 rw [aG,E1,ah,aA,aG,E2,ah,aA,aG,E3,ah,aA];have q:bP (ao cq (ao aU (ae 0) (vC (.int 0))) (vC (.str "put"))) [some d,some (.int way),some (.str (au g)),some (.str (au x)),some (.str (au (wl0++32::(wS nm++32::x))))]=.ok (decide (wl0=wP)):=by
  walk_at "ew";rw [i0];walk_at "ew";rw [hw,sP];congr 1;exact decide_eq_decide.mpr mk_inj
 rw [aG,eX,q,ah,eG];rcases hd with e|e
 ·rw [if_neg (by rw [e];decide),bV,ah,aA];refine ⟨_,rfl,?_,?_⟩
  ·exact lS hn (by rw [e];exact sgD) (by omega) (fun c hc=>by have:=xs c hc;omega) (by omega)
  ·exact HR hn (by rw [e]) xf xn
 ·rw [if_pos (decide_eq_true e)];have E4:aJ 4 (ao aC (ae 4) (vC (.str " 1"))) [some d,some (.int way),some (.str (au g)),some (.str (au x)),some (.str (au (wl0++32::(wS nm++32::x))))]=.ok (.nx [some d,some (.int way),some (.str (au g)),some (.str (au x)),some (.str (au (wl0++32::(wS nm++32::(x++32::[49])))))]):=by
   walk_at "ew";rw [Rf,bv _ _ (by simp only [List.length_append,List.length_cons,List.length_nil];omega)];walk_at "ew";simp
  rw [E4,ah,aA];refine ⟨_,rfl,?_,?_⟩
  ·refine lS hn (by rw [e];exact W8) (by omega) (fun c hc=>?_) (by simp only [List.length_append,List.length_cons,List.length_nil];omega);rcases List.mem_append.mp hc with hc|hc
   ·have:=xs c hc;omega
   ·exact (by decide:∀ c∈[32,49],32<=c/\c<=126) c hc
  ·refine BF (x:=x++32::[49]) hn (by rw [e]) (.inl ?_);rw [(pp _ _ xf).1];exact xn
def Dq {nm:Str} {n:Int} {ds:List D} (hn:Gn nm) (h1:1<=n) (h2:n<=1000000000) (way:Int):Mq (iq [.tup [.str "put",.str nm,.int n,.tup ds],.int way]):=by
 have hnl:=hn.len;have h10:=qS h1 h2;obtain ⟨r,er,rl,rs,rk⟩:=LH way;have nt:=uE h1 h2;rw [vL,iu];have E1:aJ 2 (ao aC (ao aC (ao aC (vC (.str "put ")) (ao aU (ae 0) (vC (.int 1)))) (vC (.str " "))) (ak p5 (ac (ao aU (ae 0) (vC (.int 2))) aj))) [some (.tup [.str "put",.str nm,.int n,.tup ds]),some (.int way),none,none]=.ok (.nx [some (.tup [.str "put",.str nm,.int n,.tup ds]),some (.int way),some (.str (au (wP++32::(wS nm++32::dg n.natAbs)))),none]):=by
  walk_at "ew";rw [show D.str nm=D.str (au (wS nm)) by rw [jO],U6,bv _ _ (by simp only [List.length_append,List.length_cons,List.length_nil];omega)];walk_at "ew";rw [Ep,bv _ _ (by simp only [List.length_append,List.length_cons,List.length_nil];omega)];walk_at "ew";rw [nt];walk_at "ew";rw [bv _ _ (by simp only [List.length_append,List.length_cons,List.length_nil];omega)];walk_at "ew";simp
 rw [aG,E1,ah,aA];generalize D.tup [.str "put",.str nm,.int n,.tup ds]=P;generalize hB:wP++32::(wS nm++32::dg n.natAbs)=B;have hBl:B.length<=30:=by rw [<- hB];simp only [List.length_append,List.length_cons,List.length_nil];omega
 have E2:aJ 3 (dj (ac (vC (.str "")) (ac (vC (.str " ")) (ac (vC (.str " 1 2 3 4 5 6 7 8 9")) (ac (vC (.str " -0")) (ac (vC (.str " 01")) (ac (vC (.str " \"ab")) (ac (vC (.str " \"ab\"c")) (ac (vC (.str " NONE")) aj))))))))) [some P,some (.int way),some (.str (au B)),none]=.ok (.nx [some P,some (.int way),some (.str (au B)),some (.lst [.str "",.str " ",.str " 1 2 3 4 5 6 7 8 9",.str " -0",.str " 01",.str " \"ab",.str " \"ab\"c",.str " NONE"])]):=rfl;have E3:aJ 3 (ao aC (ae 3) (dj (ac (vC (.str " 1  2")) (ac (vC (.str " 1 ")) (ac (vC (.str " 1000000000000000000")) aj))))) [some P,some (.int way),some (.str (au B)),some (.lst [.str "",.str " ",.str " 1 2 3 4 5 6 7 8 9",.str " -0",.str " 01",.str " \"ab",.str " \"ab\"c",.str " NONE"])]=.ok (.nx [some P,some (.int way),some (.str (au B)),some (.lst [.str "",.str " ",.str " 1 2 3 4 5 6 7 8 9",.str " -0",.str " 01",.str " \"ab",.str " \"ab\"c",.str " NONE",.str " 1  2",.str " 1 ",.str " 1000000000000000000"])]):=rfl;rw [aG,E2,ah,aA,aG,E3,ah,aA];generalize D.lst [.str "",.str " ",.str " 1 2 3 4 5 6 7 8 9",.str " -0",.str " 01",.str " \"ab",.str " \"ab\"c",.str " NONE",.str " 1  2",.str " 1 ",.str " 1000000000000000000"]=RR at er;refine ⟨wP++32::(wS nm++32::(dg n.natAbs++r)),?_,?_,?_⟩
 ·walk_at "ew";rw [er];walk_at "ew";rw [bv _ _ (by omega),<- hB];walk_at "ew";simp
 ·refine lS hn W8 (by decide) (fun c hc=>?_) (by rw [List.length_append];omega);rcases List.mem_append.mp hc with hc|hc
  ·have:=nF hc;omega
  ·exact rs c hc
 ·refine BF (x:=dg n.natAbs++r) hn rfl ?_;rcases rk with rfl|⟨y,rfl,hy⟩
  ·rw [List.append_nil];exact .inr (.inl (pX (nZ _)))
  ·rw [(pp _ _ (nZ _)).2];exact .inr hy
def lIx:Str.ofString "index "=au (wI++[32]):=by decide +kernel
def l_A:Str.ofString " A"=au (32::[65]):=by decide +kernel
def l_x:Str.ofString " x"=au (32::[120]):=by decide +kernel
def VS:Str.ofString " by"=au (32::[98,121]):=by decide +kernel
def UR:Str.ofString " abcdefghi"=au (32::[97,98,99,100,101,102,103,104,105]):=by decide +kernel
def zi {nm cl:Str} (hn:Gn nm) (hc:Gn cl) (way:Int):Mq (fin (aF (aJ 2 (ao aC (vC (.str "index ")) (ao aU (ae 0) (vC (.int 1))))) (aW (ao aU (dj (ac (ae 2) (ac (ao aC (ae 2) (vC (.str " A"))) (ac (ao aC (ao aC (ao aC (ae 2) (vC (.str " "))) (ao aU (ae 0) (vC (.int 2)))) (vC (.str " x"))) (ac (ao aC (ae 2) (vC (.str " by"))) (ac (ao aC (ae 2) (vC (.str " abcdefghi"))) aj)))))) (ao bq (ae 1) (vC (.int 5))))) [some (.tup [.str "index",.str nm,.str cl]),some (.int way),none])):=by
 have hnl:=hn.len;have hcl:=hc.len;have E1:aJ 2 (ao aC (vC (.str "index ")) (ao aU (ae 0) (vC (.int 1)))) [some (.tup [.str "index",.str nm,.str cl]),some (.int way),none]=.ok (.nx [some (.tup [.str "index",.str nm,.str cl]),some (.int way),some (.str (au (wI++32::wS nm)))]):=by
  walk_at "ew";rw [show D.str nm=D.str (au (wS nm)) by rw [jO],lIx,bv _ _ (by simp only [List.length_append,List.length_cons,List.length_nil];omega)];walk_at "ew";try simp
 rw [aG,E1,ah,aA,kB];generalize hB:wI++32::wS nm=B;have hBl:B.length<=20:=by rw [<- hB];simp only [List.length_append,List.length_cons,List.length_nil];omega
 have eW:dj (ac (ae 2) (ac (ao aC (ae 2) (vC (.str " A"))) (ac (ao aC (ao aC (ao aC (ae 2) (vC (.str " "))) (ao aU (ae 0) (vC (.int 2)))) (vC (.str " x"))) (ac (ao aC (ae 2) (vC (.str " by"))) (ac (ao aC (ae 2) (vC (.str " abcdefghi"))) aj))))) [some (.tup [.str "index",.str nm,.str cl]),some (.int way),some (.str (au B))]=.ok (.lst [.str (au B),.str (au (B++32::[65])),.str (au (B++32::(wS cl++32::[120]))),.str (au (B++32::[98,121])),.str (au (B++32::[97,98,99,100,101,102,103,104,105]))]):=by
  walk_at "ew";rw [l_A,bv _ _ (by simp only [List.length_append,List.length_cons,List.length_nil];omega)];walk_at "ew";rw [Ep,bv _ _ (by simp only [List.length_append,List.length_cons,List.length_nil];omega)];walk_at "ew";rw [show D.str cl=D.str (au (wS cl)) by rw [jO],bv _ _ (by simp only [List.length_append,List.length_cons,List.length_nil];omega)];walk_at "ew";rw [l_x,bv _ _ (by simp only [List.length_append,List.length_cons,List.length_nil];omega)];walk_at "ew";rw [VS,bv _ _ (by simp only [List.length_append,List.length_cons,List.length_nil];omega)];walk_at "ew";rw [UR,bv _ _ (by simp only [List.length_append,List.length_cons,List.length_nil];omega)];walk_at "ew";simp
 have eK:ao bq (ae 1) (vC (.int 5)) [some (.tup [.str "index",.str nm,.str cl]),some (.int way),some (.str (au B))]=.ok (.int (way % 5)):=by
  walk_at "ew"
 rw [jd,eW,ah,g7,eK,ah];have h0:0<=way % 5:=Int.emod_nonneg _ (by decide);have h5:way % 5 < 5:=Int.emod_lt_of_pos _ (by decide);have hi:way % 5=0\/way % 5=1\/way % 5=2\/way % 5=3\/way % 5=4:=by omega
 have as3:∀ x:List Nat,B++32::x=wI++32::(wS nm++32::x):=fun x=>by rw [<- hB];simp
 rcases hi with e|e|e|e|e <;> rw [e]
 ·refine ⟨B,rfl,⟨by omega,?_⟩,?_⟩
  ·rw [<- hB];exact Vc QP hn
  ·have hs:eS B=[wI,wS nm]:=by rw [<- hB,cZ wI _ (by decide),xV hn.free]
   exact xS hs (by decide) (by decide) (by simp)
 ·refine ⟨B++32::[65],rfl,?_,?_⟩
  ·rw [as3];exact lS hn QP (by decide) (by decide) (by decide)
  ·exact AQ hn (as3 _) (by decide) (by decide +kernel)
 ·refine ⟨B++32::(wS cl++32::[120]),rfl,?_,?_⟩
  ·rw [as3];refine lS hn QP (by decide) (fun c hcc=>?_) (by simp only [List.length_append,List.length_cons,List.length_nil];omega);rcases List.mem_append.mp hcc with h|h
   ·exact hc.sg c h
   ·exact (by decide:∀ c∈[32,120],32<=c/\c<=126) c h
  ·have hs:eS (B++32::(wS cl++32::[120]))=[wI,wS nm,wS cl,[120]]:=by rw [as3,cZ wI _ (by decide),cZ _ _ hn.free,cZ _ _ hc.free];rfl
   exact xS hs (by decide) (by decide) (by simp)
 ·refine ⟨B++32::[98,121],rfl,?_,?_⟩
  ·rw [as3];exact lS hn QP (by decide) (by decide) (by decide)
  ·exact AQ hn (as3 _) (by decide) (by decide +kernel)
 ·refine ⟨B++32::[97,98,99,100,101,102,103,104,105],rfl,?_,?_⟩
  ·rw [as3];exact lS hn QP (by decide) (by decide) (by decide)
  ·exact AQ hn (as3 _) (by decide) (by decide +kernel)
def N5 {d:D} {L:List Nat} (h:Li d L) (way:Int) (h0:0<=way) (h28:way<=28):Mq (jJ [d,.int way]):=by
 rw [DD,on];by_cases h11:way < 11
 ·have e:=yT h way h0 h11;obtain ⟨M,eM,b⟩:=e;refine ⟨M,?_,b⟩;walk_at "ew";rw [if_pos h11];walk_at "ew";rw [eM];rfl
 ·cases h with
  | table hn hc =>
   obtain ⟨M,eM,b⟩:=zq hn hc way (by omega);refine ⟨M,?_,b⟩;walk_at "ew";rw [if_neg h11];walk_at "ew";rw [eM];rfl
  | index hn hc =>
   rename_i nm cl;obtain ⟨M,eM,b⟩:=zi hn hc way;refine ⟨M,?_,b⟩;have q1:bP (ao D6 (ae 1) (vC (.int 11))) [some (.tup [.str "index",.str nm,.str cl]),some (.int way),none]=.ok false:=by
    walk_at "ew";rw [decide_eq_false h11]
   have q2:bP (ao cq (ao aU (ae 0) (vC (.int 0))) (vC (.str "table"))) [some (.tup [.str "index",.str nm,.str cl]),some (.int way),none]=.ok false:=by
    walk_at "ew";simp only [i_t,decide_false]
   have q3:bP (ao cq (ao aU (ae 0) (vC (.int 0))) (vC (.str "index"))) [some (.tup [.str "index",.str nm,.str cl]),some (.int way),none]=.ok true:=by
    walk_at "ew";simp
   rw [aG,eX,q1,ah,eG,if_neg Bool.false_ne_true,bV,ah,aA,aG,eX,q2,ah,eG,if_neg Bool.false_ne_true,bV,ah,aA,aG,eX,q3,ah,eG,if_pos rfl];generalize hS:aF (aJ 2 (ao aC (vC (.str "index ")) (ao aU (ae 0) (vC (.int 1))))) _ [some (.tup [.str "index",.str nm,.str cl]),some (.int way),none]=S at eM ⊢;cases S with
   | no=>cases eM
   | er x=>cases eM
   | ok f =>
    cases f with
    | rt v=>exact eM
    | nx δ=>rw [Gv] at eM;cases eM
    | bk δ=>cases eM
    | ct δ=>cases eM
    | rn v=>exact eM
  | drop hn h1 h2 =>
   rename_i nm n;obtain ⟨M,eM,b⟩:=pH (d:=.tup [.str "drop",.str nm,.int n]) hn Gb Ft sD_ (.inl rfl) (if (16:Int) < way then 16 else way) (by split <;> omega) (by split <;> omega);refine ⟨M,?_,b⟩;walk_at "ew";rw [if_neg h11];walk_at "ew";simp only [d_t,if_false];walk_at "ew";simp only [d_i,if_false];walk_at "ew";simp only [d_p,if_false];walk_at "ew";rw [eM];rfl
  | put hn h1 h2 hd l1 l8 =>
   rename_i nm n ds;by_cases h15:15 < way
   ·obtain ⟨M,eM,b⟩:=Dq (ds:=ds) hn h1 h2 way;refine ⟨M,?_,b⟩;walk_at "ew";rw [if_neg h11];walk_at "ew";simp only [p_t,if_false];walk_at "ew";simp only [p_i,if_false];walk_at "ew";rw [if_pos h15];walk_at "ew";rw [eM];rfl
   ·obtain ⟨M,eM,b⟩:=pH (d:=.tup [.str "put",.str nm,.int n,.tup ds]) hn Gb Ft sP (.inr rfl) (if (16:Int) < way then 16 else way) (by split <;> omega) (by split <;> omega);refine ⟨M,?_,b⟩;walk_at "ew";rw [if_neg h11];walk_at "ew";simp only [p_t,if_false];walk_at "ew";simp only [p_i,if_false];walk_at "ew";rw [if_neg h15];walk_at "ew";rw [eM];rfl
def Lo (z:Str):Prop:=∀ c∈z.cps.toList,c < 200
theorem Lo.ok {z:Str} (h:Lo z):PyData.strOk z=true:=by
 show z.cps.all (· < 0x110000)=true;rw [<- Array.all_toList,List.all_eq_true];intro c hc
 have:=h c hc
 simp;omega
def Py (k:Nat) (d:D):Prop:=∃ p,rD d=some p/\p.canLay0=true/\p.depth<=k
def Py.list {k:Nat}:∀ {ds:List D},(∀ d∈ds,Py k d)->∃ ps,nn ds=some ps/\PyData.canLayAll0 ps=true/\PyData.depthAll ps<=k/\ps.length=ds.length
 | [],_=>⟨[],rfl,rfl,Nat.zero_le _,rfl⟩
 | d::r,h=>by
  obtain ⟨p,h1,h2,h3⟩:=h d (by simp);obtain ⟨ps,e1,e2,e3,e4⟩:=Py.list fun x hx=>h x (List.mem_cons_of_mem _ hx);refine ⟨p::ps,?_,?_,?_,by simp [e4]⟩
  ·rw [nn,h1,e1];rfl
  ·rw [PyData.canLayAll0,h2,e2];rfl
  ·rw [PyData.depthAll];exact Nat.max_le.mpr ⟨h3,e3⟩
def Py.tup {k:Nat} {ds:List D} (h:∀ d∈ds,Py k d):Py (k+1) (.tup ds):=by
 obtain ⟨ps,e1,e2,e3,e4⟩:=Py.list h;exact ⟨.tuple ps,by rw [rD,e1];rfl,e2,by rw [PyData.depth];omega⟩
def Py.mono {k l:Nat} {d:D} (h:Py k d) (hk:k<=l):Py l d:=let ⟨p,a,b,c⟩:=h;⟨p,a,b,Nat.le_trans c hk⟩
def Py.str {z:Str} (h:Lo z):Py 0 (.str z):=⟨.str z,rfl,h.ok,Nat.le_refl _⟩
def Py.non:Py 0 .non:=⟨.none,rfl,rfl,Nat.le_refl _⟩
def Py.int (i:Int):Py 0 (.int i):=⟨.int i,rfl,rfl,Nat.le_refl _⟩
def Eh {k:Nat} {p:PyData} (h1:p.canLay0=true) (h2:p.depth<=k) (hk:k<=64):SeqAt.shaped p=true:=by
 unfold SeqAt.shaped;rw [h1,decide_eq_true (by omega)];rfl
def C9 {k:Nat} {ds:List D} (h:∀ d∈ds,Py k d) (hk:k<=60):rY (.tup ds) (.tup ds)=some true:=by
 obtain ⟨ps,e1,e2,e3,e4⟩:=Py.list h;have et:rD (.tup ds)=some (.tuple ps):=by rw [rD,e1];rfl
 have hs:SeqAt.shaped (.tuple ps)=true:=Eh (k:=k+1) e2 (by rw [PyData.depth];omega) (by omega);unfold rY;rw [et];simp only;rw [if_pos ⟨hs,hs⟩];congr 1;exact SeqAt.eqv_refl _ e2
def xU {k:Nat} {ds:List D} (h:∀ d∈ds,Py k d) (hk:k<=60):wW (.tup ds) (.tup ds)=.ok (.bl false):=by
 have eo:vk (.tup ds) (.tup ds)=rY (.tup ds) (.tup ds):=rfl;unfold wW;rw [eo,C9 h hk];rfl
def Lc {c:Nat} (h:low c=true):c < 200:=by
 unfold low at h;simp at h;omega
def Gn.lo {z:Str} (h:Gn z):Lo z:=fun c hc=>Lc (h.nm.lw' c hc)
def Vw.py {d:D} (h:Vw d):Py 0 d:=by
 cases d with
 | non=>exact Py.non
 | int i=>exact Py.int i
 | str z=>exact Py.str fun c hc=>by have:=h.2 c hc;omega
 | _=>exact h.elim
def JF {k:Str} (h:k="number"\/k="text"):Lo k:=by rcases h with rfl|rfl <;> (unfold Lo;decide +kernel)
def Col.py {c:Str×Str} (h:Col c):Py 1 (ci c):=Py.tup fun d hd=>by
 simp only [List.mem_cons,List.not_mem_nil,or_false] at hd;rcases hd with rfl|rfl
 ·exact Py.str h.gn.lo
 ·exact Py.str (JF h.kd)
def Li.ne {d:D} {L:List Nat} (h:Li d L):wW d d=.ok (.bl false):=by
 cases h with
 | table hn hc =>
  refine xU (k:=5) (fun x hx=>?_) (by decide);simp only [List.mem_cons,List.not_mem_nil,or_false] at hx;rcases hx with rfl|rfl
  ·exact (Py.str (by unfold Lo;decide +kernel)).mono (by decide)
  ·refine (Py.tup (k:=3) fun y hy=>?_).mono (by decide);simp only [List.mem_cons,List.not_mem_nil,or_false] at hy;rcases hy with rfl|rfl
   ·exact (Py.str hn.lo).mono (by decide)
   ·refine (Py.tup (k:=2) fun z hz=>?_);obtain ⟨c,hcc,rfl⟩:=List.mem_map.mp hz;exact (hc.col c hcc).py.mono (by decide)
 | index hn hc =>
  refine xU (k:=0) (fun x hx=>?_) (by decide);simp only [List.mem_cons,List.not_mem_nil,or_false] at hx;rcases hx with rfl|rfl|rfl
  ·exact Py.str (by unfold Lo;decide +kernel)
  ·exact Py.str hn.lo
  ·exact Py.str hc.lo
 | drop hn h1 h2 =>
  refine xU (k:=0) (fun x hx=>?_) (by decide);simp only [List.mem_cons,List.not_mem_nil,or_false] at hx;rcases hx with rfl|rfl|rfl
  ·exact Py.str (by unfold Lo;decide +kernel)
  ·exact Py.str hn.lo
  ·exact Py.int _
 | put hn h1 h2 hd l1 l8 =>
  refine xU (k:=1) (fun x hx=>?_) (by decide);simp only [List.mem_cons,List.not_mem_nil,or_false] at hx;rcases hx with rfl|rfl|rfl|rfl
  ·exact (Py.str (by unfold Lo;decide +kernel)).mono (by decide)
  ·exact (Py.str hn.lo).mono (by decide)
  ·exact (Py.int _).mono (by decide)
  ·exact Py.tup fun y hy=>(hd y hy).py
abbrev iB:FS:=(aF (aJ 7 (ak (aV bu) (ac (ao aC (ak (aV bj) (ac (ae 0) (ac (ao aC (vC (.int 3)) (ao dC (vC (.int 2)) (ae 2))) aj))) (ao dC (vC (.int 7919)) (ae 6))) aj))) (cp (eI (cj (ak (aV bJ) (ac (ak (aV eZ) (ac (ae 5) (ac (ae 7) aj))) aj)))) (aW (vC (.bl false))) aI))
abbrev oB:FS:=(aF (aJ 3 (ak (aV eu) (ac (ae 1) (ac (ak (aV bu) (ac (ao aC (ak (aV bj) (ac (ae 0) (ac (ao aC (vC (.int 2)) (ao dC (vC (.int 2)) (ae 2))) aj))) (ae 2)) aj)) aj)))) (aF (aJ 4 (ao bq (ak (aV bj) (ac (ae 0) (ac (ao aC (vC (.int 3)) (ao dC (vC (.int 2)) (ae 2))) aj))) (vC (.int 40)))) (aF (aJ 5 (ak (aV b8) (ac (ae 3) aj))) (aF (sQ (g8 (ac (vC (.int 4)) aj)) (.one 6) (aF (aJ 7 (ak (aV bu) (ac (ao aC (ak (aV bj) (ac (ae 0) (ac (ao aC (vC (.int 3)) (ao dC (vC (.int 2)) (ae 2))) aj))) (ao dC (vC (.int 7919)) (ae 6))) aj))) (cp (eI (cj (ak (aV bJ) (ac (ak (aV eZ) (ac (ae 5) (ac (ae 7) aj))) aj)))) (aW (vC (.bl false))) aI))) (cp (bP (ao vn (ae 4) (vC (.int 28)))) (cp (bP (ao wW (ak bE (ac (ak (aV b8) (ac (ae 3) aj)) aj)) (ae 3))) (aW (vC (.bl false))) aI) (cp (eI (cj (ak (aV cH) (ac (ak (aV jJ) (ac (ae 3) (ac (ae 4) aj))) aj)))) (aW (vC (.bl false))) aI))))))
def Li.pos {d:D} {L:List Nat} (h:Li d L):1<=L.length:=by
 obtain ⟨w0,nm,rest,hs,hr,hn,hw⟩:=h.ws;have hj:=jw L;rw [hs,aO _ _ (by simp)] at hj;rw [<- hj];simp only [List.length_append,List.length_cons];omega
def MM {S N d:D} {L:List Nat} {w:Int} (h:Li d L) (j k:Int) (h0:0<=j) (hk:0<=k/\k < 100) (o7:Option D) (ns:List Int) (hS:S=.lst (ns.map D.int)):∃ m,iB [some S,some N,some (.int j),some d,some (.int w),some (.str (au L)),some (.int k),o7]=.ok (.nx [some S,some N,some (.int j),some d,some (.int w),some (.str (au L)),some (.int k),some m]):=by
 have c0:=pP ns (3+2*j) (by omega);rw [<- hS] at c0;obtain ⟨m,em,m0,_⟩:=wm (cell ns (3+2*j)+7919*k);obtain ⟨M,eM,hM⟩:=G1 L h.pos h.sg.1 (fun c hc=>.inr (h.sg.2 c hc)) m m0;have ho:=Js hM;refine ⟨.int m,?_⟩;have E1:aJ 7 (ak (aV bu) (ac (ao aC (ak (aV bj) (ac (ae 0) (ac (ao aC (vC (.int 3)) (ao dC (vC (.int 2)) (ae 2))) aj))) (ao dC (vC (.int 7919)) (ae 6))) aj)) [some S,some N,some (.int j),some d,some (.int w),some (.str (au L)),some (.int k),o7]=.ok (.nx [some S,some N,some (.int j),some d,some (.int w),some (.str (au L)),some (.int k),some (.int m)]):=by
  walk_at "ew";rw [bB c0];walk_at "ew";rw [bB em];walk_at "ew"
 unfold iB;rw [aG,E1,ah,aA];walk_at "ew";rw [bB eM];walk_at "ew";rw [bB ho];walk_at "ew"
def Fx {S N d:D} {L:List Nat} {w:Int} (h:Li d L) (j:Int) (h0:0<=j) (ns:List Int) (hS:S=.lst (ns.map D.int)):∀ (xs:List D) (o6 o7:Option D),(∀ x∈xs,∃ k:Int,x=.int k/\0<=k/\k < 100)->∃ p6 p7,iX (.one 6) iB xs [some S,some N,some (.int j),some d,some (.int w),some (.str (au L)),o6,o7]=.ok (.nx [some S,some N,some (.int j),some d,some (.int w),some (.str (au L)),p6,p7])
 | [],o6,o7,_=>⟨o6,o7,rfl⟩
 | x::r,o6,o7,hx=>by
  obtain ⟨k,rfl,k0,k1⟩:=hx x (by simp);obtain ⟨m,e⟩:=MM (N:=N) (w:=w) h j k h0 ⟨k0,k1⟩ o7 ns hS;obtain ⟨p6,p7,e2⟩:=Fx h j h0 ns hS r (some (.int k)) (some m) fun y hy=>hx y (List.mem_cons_of_mem _ hy);refine ⟨p6,p7,?_⟩;rw [i4];show (iB [some S,some N,some (.int j),some d,some (.int w),some (.str (au L)),some (.int k),o7]).bind _=_;rw [e,ah,jm,e2]
def K4 {S:D} {x y:Str} (hx:Gn x) (hy:Gn y) (j:Int) (h0:0<=j) (hj:j < 100) (ns:List Int) (hS:S=.lst (ns.map D.int)) (o3 o4 o5 o6 o7:Option D):∃ q3 q4 q5 q6 q7,oB [some S,some (.lst [.str x,.str y]),some (.int j),o3,o4,o5,o6,o7]=.ok (.nx [some S,some (.lst [.str x,.str y]),some (.int j),q3,q4,q5,q6,q7]):=by
 have c2:=pP ns (2+2*j) (by omega);have c3:=pP ns (3+2*j) (by omega);rw [<- hS] at c2 c3;obtain ⟨m,em,_⟩:=wm (cell ns (2+2*j)+j);obtain ⟨d,ed,hd⟩:=DB x y m hx hy;obtain ⟨L,hl⟩:=hd.li;have el:=hl.line;have E1:aJ 3 (ak (aV eu) (ac (ae 1) (ac (ak (aV bu) (ac (ao aC (ak (aV bj) (ac (ae 0) (ac (ao aC (vC (.int 2)) (ao dC (vC (.int 2)) (ae 2))) aj))) (ae 2)) aj)) aj))) [some S,some (.lst [.str x,.str y]),some (.int j),o3,o4,o5,o6,o7]=.ok (.nx [some S,some (.lst [.str x,.str y]),some (.int j),some d,o4,o5,o6,o7]):=by
  walk_at "ew";rw [bB c2];walk_at "ew";rw [bB em];walk_at "ew";rw [bB ed];walk_at "ew"
 obtain ⟨w,hw⟩:∃ w,cell ns (3+2*j) % 40=w:=⟨_,rfl⟩;have w0:0<=w:=by rw [<- hw];exact Int.emod_nonneg _ (by decide)
 have E2:aJ 4 (ao bq (ak (aV bj) (ac (ae 0) (ac (ao aC (vC (.int 3)) (ao dC (vC (.int 2)) (ae 2))) aj))) (vC (.int 40))) [some S,some (.lst [.str x,.str y]),some (.int j),some d,o4,o5,o6,o7]=.ok (.nx [some S,some (.lst [.str x,.str y]),some (.int j),some d,some (.int w),o5,o6,o7]):=by
  walk_at "ew";rw [bB c3];walk_at "ew";rw [hw]
 have E3:aJ 5 (ak (aV b8) (ac (ae 3) aj)) [some S,some (.lst [.str x,.str y]),some (.int j),some d,some (.int w),o5,o6,o7]=.ok (.nx [some S,some (.lst [.str x,.str y]),some (.int j),some d,some (.int w),some (.str (au L)),o6,o7]):=by
  walk_at "ew";rw [bB el];walk_at "ew"
 obtain ⟨q6,q7,e4⟩:=Fx (S:=S) (N:=.lst [.str x,.str y]) (w:=w) hl j h0 ns hS [.int 0,.int 1,.int 2,.int 3] o6 o7 (fun z hz=>by
  simp only [List.mem_cons,List.not_mem_nil,or_false] at hz;rcases hz with rfl|rfl|rfl|rfl
  ·exact ⟨0,rfl,by decide,by decide⟩
  ·exact ⟨1,rfl,by decide,by decide⟩
  ·exact ⟨2,rfl,by decide,by decide⟩
  ·exact ⟨3,rfl,by decide,by decide⟩)
 have E4:sQ (g8 (ac (vC (.int 4)) aj)) (.one 6) iB [some S,some (.lst [.str x,.str y]),some (.int j),some d,some (.int w),some (.str (au L)),o6,o7]=.ok (.nx [some S,some (.lst [.str x,.str y]),some (.int j),some d,some (.int w),some (.str (au L)),q6,q7]):=by
  show (R.ok (fJ 0 4)).bind _=_;exact e4
 have E5:cp (bP (ao vn (ae 4) (vC (.int 28)))) (cp (bP (ao wW (ak bE (ac (ak (aV b8) (ac (ae 3) aj)) aj)) (ae 3))) (aW (vC (.bl false))) aI) (cp (eI (cj (ak (aV cH) (ac (ak (aV jJ) (ac (ae 3) (ac (ae 4) aj))) aj)))) (aW (vC (.bl false))) aI) [some S,some (.lst [.str x,.str y]),some (.int j),some d,some (.int w),some (.str (au L)),q6,q7]=.ok (.nx [some S,some (.lst [.str x,.str y]),some (.int j),some d,some (.int w),some (.str (au L)),q6,q7]):=by
  by_cases h28:28 < w
  ·have hr:=kA L hl.ln;rw [hl.read] at hr;walk_at "ew";rw [if_pos h28];walk_at "ew";rw [bB el];walk_at "ew";rw [hr];show ((wW d d).bind _).bind _=_;rw [hl.ne];walk_at "ew"
  ·obtain ⟨M,eM,hM,hn⟩:=N5 hl w w0 (by omega);have hf:=Cr hM hn;walk_at "ew";rw [if_neg h28];walk_at "ew";rw [bB eM];walk_at "ew";rw [bB hf];walk_at "ew"
 unfold oB;refine ⟨some d,some (.int w),some (.str (au L)),q6,q7,?_⟩;rw [aG,E1,ah,aA,aG,E2,ah,aA,aG,E3,ah,aA,aG,E4,ah,aA,E5]
def F4 {S:D} {x y:Str} (hx:Gn x) (hy:Gn y) (ns:List Int) (hS:S=.lst (ns.map D.int)):∀ (xs:List D) (o2 o3 o4 o5 o6 o7:Option D),(∀ x∈xs,∃ k:Int,x=.int k/\0<=k/\k < 100)->∃ q2 q3 q4 q5 q6 q7,iX (.one 2) oB xs [some S,some (.lst [.str x,.str y]),o2,o3,o4,o5,o6,o7]=.ok (.nx [some S,some (.lst [.str x,.str y]),q2,q3,q4,q5,q6,q7])
 | [],o2,o3,o4,o5,o6,o7,_=>⟨o2,o3,o4,o5,o6,o7,rfl⟩
 | z::r,o2,o3,o4,o5,o6,o7,h=>by
  obtain ⟨k,rfl,k0,k1⟩:=h z (by simp);obtain ⟨a3,a4,a5,a6,a7,e⟩:=K4 hx hy k k0 k1 ns hS o3 o4 o5 o6 o7;obtain ⟨q2,q3,q4,q5,q6,q7,e2⟩:=F4 hx hy ns hS r (some (.int k)) a3 a4 a5 a6 a7 fun y hy=>h y (List.mem_cons_of_mem _ hy);refine ⟨q2,q3,q4,q5,q6,q7,?_⟩;rw [i4];show (oB [some S,some (.lst [.str x,.str y]),some (.int k),o3,o4,o5,o6,o7]).bind _=_;rw [e,ah,jm,e2]
def law_true (ns:List Int) (hns:ns.length<=63):wt [.lst (ns.map D.int)]=.ok (.bl true):=by
 rw [Tx,B4];obtain ⟨x,ex,hx⟩:=CU (cell ns 0);obtain ⟨y,ey,hy⟩:=Vr x (cell ns 1) hx;have c0:=pP ns 0 (by decide);have c1:=pP ns 1 (by decide);obtain ⟨S,hS⟩:∃ S,S=D.lst (ns.map D.int):=⟨_,rfl⟩;rw [<- hS] at c0 c1 ⊢;have E1:vD 1 (dj (ac (ak (aV dl) (ac (ak (aV bj) (ac (ae 0) (ac (vC (.int 0)) aj))) aj)) aj)) [some S,none,none,none,none,none,none,none]=.ok (.nx [some S,some (.lst [.str x]),none,none,none,none,none,none]):=by
  walk_at "ew";rw [bB c0];walk_at "ew";rw [bB ex];walk_at "ew"
 have E2:cT 1 (ak (aV mW) (ac (ao aU (ae 1) (vC (.int 0))) (ac (ak (aV bj) (ac (ae 0) (ac (vC (.int 1)) aj))) aj))) [some S,some (.lst [.str x]),none,none,none,none,none,none]=.ok (.nx [some S,some (.lst [.str x,.str y]),none,none,none,none,none,none]):=by
  walk_at "ew";rw [bB c1];walk_at "ew";rw [bB ey];walk_at "ew"
 have e3:cH [.str (Str.ofString "")]=.ok (.bl true):=by
  rw [l0];exact Cr ⟨by simp,fun c hc=>nomatch hc⟩ (by decide +kernel)
 have E3:cp (eI (cj (ak (aV cH) (ac (vC (.str "")) aj)))) (aW (vC (.bl false))) aI [some S,some (.lst [.str x,.str y]),none,none,none,none,none,none]=.ok (.nx [some S,some (.lst [.str x,.str y]),none,none,none,none,none,none]):=by
  walk_at "ew";rw [bB e3];walk_at "ew"
 obtain ⟨q2,q3,q4,q5,q6,q7,e4⟩:=F4 hx hy ns hS [.int 0,.int 1,.int 2,.int 3,.int 4,.int 5] none none none none none none (fun z hz=>by
  simp only [List.mem_cons,List.not_mem_nil,or_false] at hz;rcases hz with rfl|rfl|rfl|rfl|rfl|rfl
  ·exact ⟨0,rfl,by decide,by decide⟩
  ·exact ⟨1,rfl,by decide,by decide⟩
  ·exact ⟨2,rfl,by decide,by decide⟩
  ·exact ⟨3,rfl,by decide,by decide⟩
  ·exact ⟨4,rfl,by decide,by decide⟩
  ·exact ⟨5,rfl,by decide,by decide⟩)
 have E4:sQ (g8 (ac (vC (.int 6)) aj)) (.one 2) oB [some S,some (.lst [.str x,.str y]),none,none,none,none,none,none]=.ok (.nx [some S,some (.lst [.str x,.str y]),q2,q3,q4,q5,q6,q7]):=by
  show (R.ok (fJ 0 6)).bind _=_;exact e4
 rw [aG,E1,ah,aA,aG,E2,ah,aA,aG,E3,ah,aA,aG,E4,ah,aA];rfl
end T51
noncomputable section
namespace HD
open PySem PySem.W PySem.Calls PyProof.Rows
abbrev p:Program:=PySem.Challenge.pw_tablestore_k51_lines_refused
def bd:List Stmt:=behindTheImports p
def S (i:Nat):Stmt:=match p.main.body[i]? with|some s=>s|none=>.Pass default
def dA (s:Stmt):Arguments:=match s with
 | .FunctionDef _ a _ _ _ _ _ _ _ _=>a
 | _=>⟨[],[],none,[],[],none,[]⟩
def dB (s:Stmt):List Stmt:=match s with
 | .FunctionDef _ _ b _ _ _ _ _ _ _=>b
 | _=>[]
def dS (s:Stmt):Scope:=match s with
 | .FunctionDef _ _ _ _ _ _ sc _ _ _=>sc
 | _=>{ kind:=.function,names:=[],isGenerator:=false,isCoroutine:=false }
def fn (s:Stmt) (n qn:Str) (g:Addr) (cl:List (Str×Addr)) (d kd doc pm:Value) (an:Option Addr) (cd ct:Value) (bl:Addr):FuncData:=⟨n,qn,dA s,.stmts (dB s),dS s,g,cl,d,kd,doc,pm,an,cd,ct,bl⟩
def dN (s:Stmt):Str:=match s with
 | .FunctionDef n _ _ _ _ _ _ _ _ _=>n
 | _=>""
def tu (l:List Value):Obj:=⟨.type "tuple",none,.seq l.toArray 0,#[]⟩
def tn (t:Nat):List Str->List Value
 | []=>[]
 | x::r=>.str x t::tn (t+1) r
def tr (k:Int):List (Int×Nat)->List Value
 | []=>[]
 | x::r=>.int x.1 0::.int k 0::.ref x.2::tr k r
def fi (l:List Value):Obj:=⟨.none,none,.fields l.toArray,#[]⟩
def fu (s:Stmt) (m:Value) (c:Nat):Obj:=⟨.type "function",none,.func (fn s (dN s) (dN s) 3 [] .none .none .none m none (.ref c) .none 0),#[]⟩
def pr (s:Stmt):Obj:=⟨.none,none,.func (fn s (dN s) (dN s) 0 [] .none .none .none .none none .none .none 0),#[]⟩
def co (n q:Str) (t:Nat) (l a b c d:Int) (v:Nat) (o:Bool) (u:Nat) (x y z:Value) (k:Nat):Obj:=⟨.type "code",none,.fields #[.str n t,.str q (t+1),.str "/claim/cut.py" (t+2),.int l 0,.int a 0,.int b 0,.int c 0,.int d 0,.ref v,.bool o,.int 181 0,.ref u,.none,x,y,z,.int k 0,.int l 0,.str "/claim/cut.py" (k+1)],#[]⟩
abbrev nd:=BT.node
def ke (P:Params) (x:Str) (t:Nat) (v:Value):DictEntry:=⟨PyData.keyHash P x,.str x t,v⟩
def en:Env:={ scope:=p.main.scope,locals:=mainNs,globals:=mainNs,cells:=[],code:=(.ref 13),frame:=some 14 }
def cE:Code:=.body bd en
abbrev fq:Pos:=⟨0,0,0,0⟩
def aY:Obj:=tu []
def bH:Obj:=fi []
def U4:Obj:=co "<module>" "<module>" 182 1 0 0 0 0 11 false 12 .none .none .none 185
def Aw (x0:Nat) (x1:Nat) (x2:Str) (x3:Nat):Obj:=⟨(.type "frame"),none,.plain,#[(some (.ref x0)),(some (.ref 3)),(some (.ref x1)),none,(some (.str x2 x3)),none,(some (.ref 0))]⟩
def V3:Obj:=Aw 13 3 "__main__" 164
def T0 (P:Params):BT:=nd (boot_o_0 P) (nd (boot_o_1 P) (nd (boot_o_3 P) (nd (boot_o_7 P) .nil .nil) (nd aY .nil .nil)) (nd (boot_o_5 P) (nd (boot_o_9 P) .nil .nil) (nd U4 .nil .nil))) (nd (boot_o_2 P) (nd (boot_o_4 P) (nd (boot_o_8 P) .nil .nil) (nd bH .nil .nil)) (nd (boot_o_6 P) (nd (boot_o_10 P) .nil .nil) (nd V3 .nil .nil)))
def rA (w:World) (os:OsState):topGo treeTable p w 11 (some (.ref 6)) 12 ⟨boot_heap w.params,Array.mk [],boot_drawn,boot_toks,os⟩ (topStub p)=some ((⟨T0 w.params,15,{},#[],{},187,os⟩:SharedT).abs,⟨denote treeTable cE,cE,⟨0,0,0,0⟩,[topFrame fq]⟩):=by
 rw [PySem.W.Fast.te15667345088766844465,PySem.W.Fast.te14364793385576792824,PySem.W.Fast.te11892475500146522536];kernel_rfl
def rB (w:World) (os:OsState):segRunT treeTable p w 11 (some (.ref 6)) 1 1 (⟨T0 w.params,15,{},#[],{},187,os⟩:SharedT) (blockOf bd en cE ⟨0,0,0,0⟩ [topFrame fq])=some (.next,(⟨T0 w.params,15,{},#[],{},187,os⟩:SharedT),cE,⟨0,0,0,0⟩):=by
 rw [PySem.W.Fast.te10110043849684766642,PySem.W.Fast.te14364793385576792824];kernel_rfl
def Qg (P:Params):Obj:=⟨(.type "dict"),none,(.dict #[ke P "__name__" 165 (.str "law_tablestore_k51_lines_refused" 609),ke P "__doc__" 166 .none,ke P "__package__" 167 .none,ke P "__loader__" 168 (.builtin "__main__.__loader__#opaque"),ke P "__spec__" 169 .none,ke P "__annotations__" 170 (.ref 6),ke P "__builtins__" 171 (.ref 4),ke P "__file__" 173 (.str "/claim/cut.py" 172),ke P "__cached__" 174 .none,ke P "TableError" 206 (.ref 24),ke P "BadValue" 222 (.ref 37),ke P "BadShape" 238 (.ref 49),ke P "BadChange" 254 (.ref 61),ke P "BadRow" 270 (.ref 73),ke P "NoTable" 286 (.ref 85),ke P "TableThere" 302 (.ref 97),ke P "NoColumn" 318 (.ref 109),ke P "IndexThere" 334 (.ref 121),ke P "NoRow" 350 (.ref 133),ke P "Over" 366 (.ref 145),ke P "Clash" 382 (.ref 157),ke P "BadLog" 398 (.ref 169),ke P "BadQuestion" 414 (.ref 181),ke P "BadDesk" 430 (.ref 193),ke P "FIGURES" 434 (.str "0123456789" 433),ke P "MOST_SIGNS" 436 (.int 40 435),ke P "MOST_FIGURES_values" 438 (.int 18 437),ke P "is_value" 444 (.ref 200),ke P "is_sign" 451 (.ref 207),ke P "read_value" 458 (.ref 214),ke P "read_text" 467 (.ref 221),ke P "read_number" 473 (.ref 226),ke P "read_values" 479 (.ref 231),ke P "pieces_of" 491 (.ref 238),ke P "MOST_ROW_NUMBER" 495 (.int 1000000000 494),ke P "is_row_number" 502 (.ref 245),ke P "NO_NAMES" 516 (.ref 246),ke P "COLUMN_KINDS" 519 (.ref 247),ke P "MOST_LETTERS" 521 (.int 8 520),ke P "MOST_COLUMNS" 523 (.int 8 522),ke P "is_name" 529 (.ref 252),ke P "is_letter" 536 (.ref 259),ke P "is_shape" 543 (.ref 266),ke P "is_pair" 550 (.ref 273),ke P "are_columns" 556 (.ref 278),ke P "is_column" 563 (.ref 285),ke P "is_column_kind" 570 (.ref 292),ke P "MOST_FIGURES_records" 574 (.int 10 573),ke P "MOST_VALUES" 576 (.int 8 575),ke P "read_change" 584 (.ref 299),ke P "read_table" 590 (.ref 304),ke P "read_put" 602 (.ref 311),ke P "read_row_number" 608 (.ref 316),ke P "_law_whole" 617 (.ref 323),ke P "_law_cell_at" 625 (.ref 330),ke P "_law_mixed" 632 (.ref 337),ke P "_law_name_by" 643 (.ref 344),ke P "_law_twin" 655 (.ref 351),ke P "_law_shape_by" 669 (.ref 358),ke P "_law_text_by" 681 (.ref 365),ke P "_law_value_by" 689 (.ref 372),ke P "_law_row_by" 699 (.ref 379),ke P "_law_written" 706 (.ref 386),ke P "_law_line" 712 (.ref 391),ke P "_law_change_by" 723 (.ref 398),ke P "_law_alone" 731 (.ref 405),ke P "_law_wrong_words" 740 (.ref 412),ke P "_law_wrong_table" 746 (.ref 417),ke P "_law_wrong_number" 757 (.ref 424),ke P "_law_wrong_row" 767 (.ref 431),ke P "_law_wrong" 776 (.ref 438),ke P "_law_refused" 784 (.ref 445),ke P "_law_mutated" 795 (.ref 452),ke P "_law_only_its_own" 804 (.ref 459),ke P "law" 818 (.ref 466)] 75),#[]⟩
def Km:Obj:=fi (tr 0 [(2,20),(4,33),(6,45),(8,57),(10,69),(12,81),(14,93),(16,105),(18,117),(20,129),(22,141),(24,153),(26,165),(28,177),(30,189),(36,199),(42,206),(44,213),(50,220),(60,225),(69,230),(73,237),(87,244),(94,251),(98,258),(100,265),(102,272),(104,277),(111,284),(113,291),(118,298),(131,303),(139,310),(152,315),(160,322),(162,329),(166,336),(168,343),(178,350),(186,357),(198,364),(209,371),(217,378),(223,385),(229,390),(235,397),(250,404),(256,411),(269,416),(283,423),(290,430),(295,437),(306,444),(312,451),(324,458),(334,465)])
def Xj:Obj:=tu [.type "ValueError"]
def pz:Obj:=⟨(.type "builtin_function_or_method"),none,(.fields #[(.builtin "type.__prepare__"),(.type "type")]),#[]⟩
def BD (P:Params) (x0:Nat) (x1:Str) (x2:Int) (x3:Nat):Obj:=⟨(.type "dict"),none,(.dict #[ke P "__module__" x0 (.str "tablestore.errors" 187),ke P "__qualname__" (x0+2) (.str x1 (x0+1)),ke P "__firstlineno__" (x0+4) (.int x2 (x0+3)),ke P "__static_attributes__" (x0+5) (.ref x3)] 4),#[]⟩
def Xp (P:Params):Obj:=BD P 196 "TableError" 2 22
def W4:Obj:=co "TableError" "TableError" 191 2 0 0 0 0 18 false 19 .none .none .none 194
def Wl:Obj:=Aw 20 17 "tablestore.errors" 187
def Xs (P:Params):Obj:=⟨(.type "dict"),none,(.dict #[ke P "__module__" 196 (.str "tablestore.errors" 187),ke P "__firstlineno__" 200 (.int 2 199),ke P "__static_attributes__" 201 (.ref 22),ke P "__weakref__" 203 (.ref 25),ke P "__doc__" 204 .none] 3),#[]⟩
def WS:Obj:=⟨(.type "type"),none,(.cls { name:="TableError",bases:=[(.type "ValueError")],mro:=[(.ref 24),(.type "ValueError"),(.type "Exception"),(.type "BaseException"),(.type "object")],ns:=23,qualname:="TableError",hasDict:=true,slotNames:=[],subclasses:=[(.ref 37),(.ref 49),(.ref 61),(.ref 73),(.ref 85),(.ref 97),(.ref 109),(.ref 121),(.ref 133),(.ref 145),(.ref 157),(.ref 169),(.ref 181),(.ref 193)],abstract:=false,collection:=none,hasDel:=false }),#[(some (.ref 15)),none,(some (.str "TableError" 189)),(some (.str "TableError" 197)),(some (.builtin "ValueError.__new__")),(some (.bool true))]⟩
def Xe:Obj:=⟨(.type "getset_descriptor"),none,(.fields #[(.str "__weakref__" 202),(.ref 24),(.builtin "ExceptionGroup.__weakref__"),.none]),#[]⟩
def BB (x0:Nat):Obj:=⟨(.type "super"),none,(.fields #[(.ref x0),(.ref x0),(.ref x0)]),#[]⟩
def Xi:Obj:=BB 24
def AW (x0:Nat):Obj:=⟨(.type "builtin_function_or_method"),none,(.fields #[(.builtin "object.__init_subclass__"),(.ref x0)]),#[]⟩
def WI:Obj:=AW 24
def qJ:Obj:=tu [.ref 24]
def WF (P:Params):Obj:=BD P 214 "BadValue" 4 35
def WX:Obj:=co "BadValue" "BadValue" 209 4 0 0 0 0 31 false 32 .none .none .none 212
def Wv:Obj:=Aw 33 30 "tablestore.errors" 187
def B8 (P:Params) (x0:Nat) (x1:Int) (x2:Nat):Obj:=⟨(.type "dict"),none,(.dict #[ke P "__module__" x0 (.str "tablestore.errors" 187),ke P "__firstlineno__" (x0+4) (.int x1 (x0+3)),ke P "__static_attributes__" (x0+5) (.ref x2),ke P "__doc__" (x0+6) .none] 2),#[]⟩
def Xo (P:Params):Obj:=B8 P 214 4 35
def CM (x0:Str) (x1:Nat) (x2:Nat) (x3:Nat) (x4:Nat):Obj:=⟨(.type "type"),none,(.cls { name:=x0,bases:=[(.ref 24)],mro:=[(.ref x1),(.ref 24),(.type "ValueError"),(.type "Exception"),(.type "BaseException"),(.type "object")],ns:=x2,qualname:=x0,hasDict:=true,slotNames:=[],subclasses:=[],abstract:=false,collection:=none,hasDel:=false }),#[(some (.ref x3)),none,(some (.str x0 x4)),(some (.str x0 (x4+8))),(some (.builtin "ValueError.__new__")),(some (.bool true))]⟩
def Wo:Obj:=CM "BadValue" 37 36 28 207
def WR:Obj:=BB 37
def WM:Obj:=AW 37
def Wt (P:Params):Obj:=BD P 230 "BadShape" 6 47
def WJ:Obj:=co "BadShape" "BadShape" 225 6 0 0 0 0 43 false 44 .none .none .none 228
def WO:Obj:=Aw 45 42 "tablestore.errors" 187
def WD (P:Params):Obj:=B8 P 230 6 47
def Ww:Obj:=CM "BadShape" 49 48 40 223
def WH:Obj:=BB 49
def Wn:Obj:=AW 49
def WE (P:Params):Obj:=BD P 246 "BadChange" 8 59
def W5:Obj:=co "BadChange" "BadChange" 241 8 0 0 0 0 55 false 56 .none .none .none 244
def Xg:Obj:=Aw 57 54 "tablestore.errors" 187
def WV (P:Params):Obj:=B8 P 246 8 59
def Ws:Obj:=CM "BadChange" 61 60 52 239
def WZ:Obj:=BB 61
def WY:Obj:=AW 61
def Wz (P:Params):Obj:=BD P 262 "BadRow" 10 71
def WA:Obj:=co "BadRow" "BadRow" 257 10 0 0 0 0 67 false 68 .none .none .none 260
def WB:Obj:=Aw 69 66 "tablestore.errors" 187
def Wp (P:Params):Obj:=B8 P 262 10 71
def W3:Obj:=CM "BadRow" 73 72 64 255
def WK:Obj:=BB 73
def WG:Obj:=AW 73
def Xb (P:Params):Obj:=BD P 278 "NoTable" 12 83
def Xq:Obj:=co "NoTable" "NoTable" 273 12 0 0 0 0 79 false 80 .none .none .none 276
def Xn:Obj:=Aw 81 78 "tablestore.errors" 187
def WL (P:Params):Obj:=B8 P 278 12 83
def W1:Obj:=CM "NoTable" 85 84 76 271
def Wx:Obj:=BB 85
def Xc:Obj:=AW 85
def Xl (P:Params):Obj:=BD P 294 "TableThere" 14 95
def Xa:Obj:=co "TableThere" "TableThere" 289 14 0 0 0 0 91 false 92 .none .none .none 292
def WP:Obj:=Aw 93 90 "tablestore.errors" 187
def Wu (P:Params):Obj:=B8 P 294 14 95
def Xm:Obj:=CM "TableThere" 97 96 88 287
def Xk:Obj:=BB 97
def WT:Obj:=AW 97
def Tu (P:Params):Obj:=BD P 310 "NoColumn" 16 107
def Of:Obj:=co "NoColumn" "NoColumn" 305 16 0 0 0 0 103 false 104 .none .none .none 308
def Pg:Obj:=Aw 105 102 "tablestore.errors" 187
def T4 (P:Params):Obj:=B8 P 310 16 107
def SZ:Obj:=CM "NoColumn" 109 108 100 303
def Rq:Obj:=BB 109
def Tv:Obj:=AW 109
def NW (P:Params):Obj:=BD P 326 "IndexThere" 18 119
def Oi:Obj:=co "IndexThere" "IndexThere" 321 18 0 0 0 0 115 false 116 .none .none .none 324
def S9:Obj:=Aw 117 114 "tablestore.errors" 187
def Tg (P:Params):Obj:=B8 P 326 18 119
def SO:Obj:=CM "IndexThere" 121 120 112 319
def SH:Obj:=BB 121
def P8:Obj:=AW 121
def RD (P:Params):Obj:=BD P 342 "NoRow" 20 131
def Ts:Obj:=co "NoRow" "NoRow" 337 20 0 0 0 0 127 false 128 .none .none .none 340
def R0:Obj:=Aw 129 126 "tablestore.errors" 187
def NI (P:Params):Obj:=B8 P 342 20 131
def Pt:Obj:=CM "NoRow" 133 132 124 335
def NX:Obj:=BB 133
def TQ:Obj:=AW 133
def R3 (P:Params):Obj:=BD P 358 "Over" 22 143
def TJ:Obj:=co "Over" "Over" 353 22 0 0 0 0 139 false 140 .none .none .none 356
def Sy:Obj:=Aw 141 138 "tablestore.errors" 187
def QG (P:Params):Obj:=B8 P 358 22 143
def NZ:Obj:=CM "Over" 145 144 136 351
def Si:Obj:=BB 145
def Tk:Obj:=AW 145
def Pw (P:Params):Obj:=BD P 374 "Clash" 24 155
def Qq:Obj:=co "Clash" "Clash" 369 24 0 0 0 0 151 false 152 .none .none .none 372
def Qf:Obj:=Aw 153 150 "tablestore.errors" 187
def R6 (P:Params):Obj:=B8 P 374 24 155
def QM:Obj:=CM "Clash" 157 156 148 367
def O6:Obj:=BB 157
def Pa:Obj:=AW 157
def QL (P:Params):Obj:=BD P 390 "BadLog" 26 167
def NV:Obj:=co "BadLog" "BadLog" 385 26 0 0 0 0 163 false 164 .none .none .none 388
def N7:Obj:=Aw 165 162 "tablestore.errors" 187
def Rb (P:Params):Obj:=B8 P 390 26 167
def PB:Obj:=CM "BadLog" 169 168 160 383
def Ux:Obj:=BB 169
def Sv:Obj:=AW 169
def Ry (P:Params):Obj:=BD P 406 "BadQuestion" 28 179
def Pd:Obj:=co "BadQuestion" "BadQuestion" 401 28 0 0 0 0 175 false 176 .none .none .none 404
def SN:Obj:=Aw 177 174 "tablestore.errors" 187
def PF (P:Params):Obj:=B8 P 406 28 179
def O0:Obj:=CM "BadQuestion" 181 180 172 399
def NR:Obj:=BB 181
def NA:Obj:=AW 181
def Ta (P:Params):Obj:=BD P 422 "BadDesk" 30 191
def PQ:Obj:=co "BadDesk" "BadDesk" 417 30 0 0 0 0 187 false 188 .none .none .none 420
def Uk:Obj:=Aw 189 186 "tablestore.errors" 187
def Te (P:Params):Obj:=B8 P 422 30 191
def NM:Obj:=CM "BadDesk" 193 192 184 415
def QZ:Obj:=BB 193
def S2:Obj:=AW 193
def Oe:Obj:=pr (S 20)
def OO:Obj:=co "is_value" "is_value" 439 36 1 0 0 3 196 true 197 .none .none (.ref 198) 442
def m431:Value:=.str "tablestore.values" 431
def ST:Obj:=fu (S 20) m431 199
def TM:Obj:=tu (tn 448 ["sign"])
def S3:Obj:=pr (S 21)
def Oz:Obj:=co "is_sign" "is_sign" 445 42 1 0 0 3 201 true 202 (.ref 203) (.ref 204) (.ref 205) 449
def TW:Obj:=fu (S 21) m431 206
def On:Obj:=tu (tn 455 ["line"])
def OY:Obj:=pr (S 22)
def N1:Obj:=co "read_value" "read_value" 452 44 1 0 0 3 208 true 209 (.ref 210) (.ref 211) (.ref 212) 456
def Tz:Obj:=fu (S 22) m431 213
def Oc:Obj:=tu (tn 462 ["line","inner","text"])
def Us:Obj:=pr (S 23)
def Th:Obj:=co "read_text" "read_text" 459 50 1 0 0 3 215 true 216 (.ref 217) (.ref 218) (.ref 219) 465
def QT:Obj:=fu (S 23) m431 220
def Up:Obj:=pr (S 24)
def R1:Obj:=co "read_number" "read_number" 468 60 1 0 0 3 222 true 223 .none .none (.ref 224) 471
def T2:Obj:=fu (S 24) m431 225
def RE:Obj:=pr (S 25)
def Ph:Obj:=co "read_values" "read_values" 474 69 1 0 0 3 227 true 228 .none .none (.ref 229) 477
def PR:Obj:=fu (S 25) m431 230
def SL:Obj:=tu (tn 483 ["line","pieces","start","in_text","place","sign"])
def P7:Obj:=pr (S 26)
def Sm:Obj:=co "pieces_of" "pieces_of" 480 73 1 0 0 3 232 true 233 (.ref 234) (.ref 235) (.ref 236) 489
def QF:Obj:=fu (S 26) m431 237
def R8:Obj:=tu (tn 499 ["thing"])
def Qo:Obj:=pr (S 29)
def TX:Obj:=co "is_row_number" "is_row_number" 496 87 1 0 0 3 239 true 240 (.ref 241) (.ref 242) (.ref 243) 500
def m492:Value:=.str "tablestore.ordered" 492
def Ur:Obj:=fu (S 29) m492 244
def P9:Obj:=tu (tn 505 ["and","by","down","from","none","not","or","order","show","take","where"])
def PJ:Obj:=tu (tn 517 ["number","text"])
def QW:Obj:=pr (S 35)
def NJ:Obj:=co "is_name" "is_name" 524 94 1 0 0 3 248 true 249 .none .none (.ref 250) 527
def m503:Value:=.str "tablestore.shapes" 503
def Pz:Obj:=fu (S 35) m503 251
def RM:Obj:=tu (tn 533 ["sign"])
def O9:Obj:=pr (S 36)
def QO:Obj:=co "is_letter" "is_letter" 530 98 1 0 0 3 253 true 254 (.ref 255) (.ref 256) (.ref 257) 534
def OC:Obj:=fu (S 36) m503 258
def RU:Obj:=tu (tn 540 ["thing"])
def N0:Obj:=pr (S 37)
def Q2:Obj:=co "is_shape" "is_shape" 537 100 1 0 0 3 260 true 261 (.ref 262) (.ref 263) (.ref 264) 541
def Se:Obj:=fu (S 37) m503 265
def Qd:Obj:=tu (tn 547 ["thing"])
def Td:Obj:=pr (S 38)
def Tw:Obj:=co "is_pair" "is_pair" 544 102 1 0 0 3 267 true 268 (.ref 269) (.ref 270) (.ref 271) 548
def TR:Obj:=fu (S 38) m503 272
def NU:Obj:=pr (S 39)
def SI:Obj:=co "are_columns" "are_columns" 551 104 1 0 0 3 274 true 275 .none .none (.ref 276) 554
def OI:Obj:=fu (S 39) m503 277
def Rj:Obj:=tu (tn 560 ["thing"])
def OD:Obj:=pr (S 40)
def S4:Obj:=co "is_column" "is_column" 557 111 1 0 0 3 279 true 280 (.ref 281) (.ref 282) (.ref 283) 561
def TU:Obj:=fu (S 40) m503 284
def Sf:Obj:=tu (tn 567 ["thing"])
def OW:Obj:=pr (S 41)
def P6:Obj:=co "is_column_kind" "is_column_kind" 564 113 1 0 0 3 286 true 287 (.ref 288) (.ref 289) (.ref 290) 568
def O7:Obj:=fu (S 41) m503 291
def Og:Obj:=tu (tn 580 ["line","words"])
def Rl:Obj:=pr (S 45)
def OG:Obj:=co "read_change" "read_change" 577 118 1 0 0 3 293 true 294 (.ref 295) (.ref 296) (.ref 297) 582
def m571:Value:=.str "tablestore.records" 571
def SM:Obj:=fu (S 45) m571 298
def Rn:Obj:=pr (S 46)
def O5:Obj:=co "read_table" "read_table" 585 131 1 0 0 3 300 true 301 .none .none (.ref 302) 588
def RZ:Obj:=fu (S 46) m571 303
def N4:Obj:=tu (tn 594 ["line","named","numbered","number","values","error"])
def Tt:Obj:=pr (S 47)
def RP:Obj:=co "read_put" "read_put" 591 139 1 0 0 3 305 true 306 (.ref 307) (.ref 308) (.ref 309) 600
def R7:Obj:=fu (S 47) m571 310
def QK:Obj:=pr (S 48)
def TN:Obj:=co "read_row_number" "read_row_number" 603 152 1 0 0 3 312 true 313 .none .none (.ref 314) 606
def N9:Obj:=fu (S 48) m571 315
def OS:Obj:=tu (tn 614 ["_law_found"])
def Ox:Obj:=pr (S 50)
def Qx:Obj:=co "_law_whole" "_law_whole" 611 160 1 0 0 3 317 true 318 (.ref 319) (.ref 320) (.ref 321) 615
def m609:Value:=.str "law_tablestore_k51_lines_refused" 609
def RY:Obj:=fu (S 50) m609 322
def Sr:Obj:=tu (tn 621 ["_law_script","_law_k"])
def PZ:Obj:=pr (S 51)
def Tl:Obj:=co "_law_cell_at" "_law_cell_at" 618 162 2 0 0 3 324 true 325 (.ref 326) (.ref 327) (.ref 328) 623
def Pr:Obj:=fu (S 51) m609 329
def Rc:Obj:=tu (tn 629 ["_law_number"])
def RT:Obj:=pr (S 52)
def Oh:Obj:=co "_law_mixed" "_law_mixed" 626 166 1 0 0 3 331 true 332 (.ref 333) (.ref 334) (.ref 335) 630
def Oa:Obj:=fu (S 52) m609 336
def S7:Obj:=tu (tn 636 ["_law_cell","_law_some","_law_found","_law_number","_law_k"])
def Rg:Obj:=pr (S 53)
def Qt:Obj:=co "_law_name_by" "_law_name_by" 633 168 1 0 0 3 338 true 339 (.ref 340) (.ref 341) (.ref 342) 641
def Uw:Obj:=fu (S 53) m609 343
def Ql:Obj:=tu (tn 647 ["_law_name","_law_cell","_law_some","_law_at","_law_step","_law_found"])
def Om:Obj:=pr (S 54)
def Q0:Obj:=co "_law_twin" "_law_twin" 644 178 2 0 0 3 345 true 346 (.ref 347) (.ref 348) (.ref 349) 653
def T5:Obj:=fu (S 54) m609 350
def RV:Obj:=tu (tn 659 ["_law_name","_law_cell","_law_base","_law_many","_law_columns","_law_more","_law_j","_law_column"])
def RQ:Obj:=pr (S 55)
def Qp:Obj:=co "_law_shape_by" "_law_shape_by" 656 186 2 0 0 3 352 true 353 (.ref 354) (.ref 355) (.ref 356) 667
def OU:Obj:=fu (S 55) m609 357
def S8:Obj:=tu (tn 673 ["_law_cell","_law_some","_law_size","_law_found","_law_number","_law_k"])
def SU:Obj:=pr (S 56)
def Qj:Obj:=co "_law_text_by" "_law_text_by" 670 198 1 0 0 3 359 true 360 (.ref 361) (.ref 362) (.ref 363) 679
def Ow:Obj:=fu (S 56) m609 364
def Qa:Obj:=tu (tn 685 ["_law_kind","_law_cell"])
def So:Obj:=pr (S 57)
def Qy:Obj:=co "_law_value_by" "_law_value_by" 682 209 2 0 0 3 366 true 367 (.ref 368) (.ref 369) (.ref 370) 687
def Sj:Obj:=fu (S 57) m609 371
def O4:Obj:=tu (tn 693 ["_law_shape","_law_cell","_law_found","_law_column"])
def Oq:Obj:=pr (S 58)
def NC:Obj:=co "_law_row_by" "_law_row_by" 690 217 2 0 0 3 373 true 374 (.ref 375) (.ref 376) (.ref 377) 697
def QY:Obj:=fu (S 58) m609 378
def S6:Obj:=tu (tn 703 ["_law_value"])
def Qv:Obj:=pr (S 59)
def Qz:Obj:=co "_law_written" "_law_written" 700 223 1 0 0 3 380 true 381 (.ref 382) (.ref 383) (.ref 384) 704
def ND:Obj:=fu (S 59) m609 385
def RK:Obj:=pr (S 60)
def TY:Obj:=co "_law_line" "_law_line" 707 229 1 0 0 3 387 true 388 .none .none (.ref 389) 710
def RF:Obj:=fu (S 60) m609 390
def Ra:Obj:=tu (tn 716 ["_law_names","_law_cell","_law_name","_law_shape","_law_number"])
def Uj:Obj:=pr (S 61)
def NH:Obj:=co "_law_change_by" "_law_change_by" 713 235 2 0 0 3 392 true 393 (.ref 394) (.ref 395) (.ref 396) 721
def Rr:Obj:=fu (S 61) m609 397
def OE:Obj:=tu (tn 727 ["_law_e","_law_told"])
def Pb:Obj:=pr (S 62)
def RC:Obj:=co "_law_alone" "_law_alone" 724 250 1 0 0 3 399 true 400 (.ref 401) (.ref 402) (.ref 403) 729
def TZ:Obj:=fu (S 62) m609 404
def Ut:Obj:=tu (tn 735 ["_law_change","_law_way","_law_words"])
def T9:Obj:=pr (S 63)
def Q9:Obj:=co "_law_wrong_words" "_law_wrong_words" 732 256 2 0 0 3 406 true 407 (.ref 408) (.ref 409) (.ref 410) 738
def TB:Obj:=fu (S 63) m609 411
def N3:Obj:=pr (S 64)
def O3:Obj:=co "_law_wrong_table" "_law_wrong_table" 741 269 2 0 0 3 413 true 414 .none .none (.ref 415) 744
def Pi:Obj:=fu (S 64) m609 416
def SF:Obj:=tu (tn 750 ["_law_change","_law_way","_law_great","_law_number","_law_line_here"])
def QV:Obj:=pr (S 65)
def SY:Obj:=co "_law_wrong_number" "_law_wrong_number" 747 283 2 0 0 3 418 true 419 (.ref 420) (.ref 421) (.ref 422) 755
def OJ:Obj:=fu (S 65) m609 423
def Uv:Obj:=tu (tn 761 ["_law_change","_law_way","_law_line_here","_law_rows"])
def OX:Obj:=pr (S 66)
def OL:Obj:=co "_law_wrong_row" "_law_wrong_row" 758 290 2 0 0 3 425 true 426 (.ref 427) (.ref 428) (.ref 429) 765
def Pk:Obj:=fu (S 66) m609 430
def Pm:Obj:=tu (tn 771 ["_law_change","_law_way","_law_line_here"])
def O8:Obj:=pr (S 67)
def Ui:Obj:=co "_law_wrong" "_law_wrong" 768 295 2 0 0 3 432 true 433 (.ref 434) (.ref 435) (.ref 436) 774
def OP:Obj:=fu (S 67) m609 437
def Px:Obj:=tu (tn 780 ["_law_line_here","_law_e"])
def Sq:Obj:=pr (S 68)
def PP:Obj:=co "_law_refused" "_law_refused" 777 306 1 0 0 3 439 true 440 (.ref 441) (.ref 442) (.ref 443) 782
def Oy:Obj:=fu (S 68) m609 444
def Po:Obj:=tu (tn 788 ["_law_line_here","_law_cell","_law_some","_law_at","_law_sign"])
def Q1:Obj:=pr (S 69)
def SS:Obj:=co "_law_mutated" "_law_mutated" 785 312 2 0 0 3 446 true 447 (.ref 448) (.ref 449) (.ref 450) 793
def NT:Obj:=fu (S 69) m609 451
def Rt:Obj:=tu (tn 799 ["_law_line_here","_law_change","_law_e"])
def R5:Obj:=pr (S 70)
def PY:Obj:=co "_law_only_its_own" "_law_only_its_own" 796 324 1 0 0 3 453 true 454 (.ref 455) (.ref 456) (.ref 457) 802
def Tj:Obj:=fu (S 70) m609 458
def P4:Obj:=tu (tn 808 ["_law_script","_law_names","_law_j","_law_change","_law_way","_law_line_here","_law_k","_law_more"])
def SX:Obj:=pr (S 71)
def RB:Obj:=co "law" "law" 805 334 1 0 0 3 460 true 461 (.ref 462) (.ref 463) (.ref 464) 816
def Sa:Obj:=fu (S 71) m609 465
def g0:List Stmt:=(bd.drop 0).take 72
def T1 (P:Params):BT:=nd (boot_o_0 P) (nd (boot_o_1 P) (nd (Qg P) (nd (boot_o_7 P) (nd Xj (nd aY (nd WY (nd aY (nd RM .nil .nil) (nd aY .nil .nil)) (nd aY (nd OS .nil .nil) (nd bH .nil .nil))) (nd aY (nd Pa (nd bH .nil .nil) (nd N3 .nil .nil)) (nd bH (nd T5 .nil .nil) .nil))) (nd aY (nd aY (nd aY (nd Td .nil .nil) (nd aY .nil .nil)) (nd TW (nd RT .nil .nil) (nd aY .nil .nil))) (nd Tv (nd aY (nd O5 .nil .nil) (nd Pk .nil .nil)) (nd aY (nd bH .nil .nil) .nil)))) (nd (Xs P) (nd WM (nd aY (nd TQ (nd aY .nil .nil) (nd RF .nil .nil)) (nd OO (nd aY .nil .nil) (nd Rt .nil .nil))) (nd aY (nd aY (nd Og .nil .nil) (nd SY .nil .nil)) (nd PR (nd aY .nil .nil) .nil))) (nd aY (nd Xc (nd aY (nd aY .nil .nil) (nd bH .nil .nil)) (nd aY (nd Qt .nil .nil) .nil)) (nd aY (nd NA (nd R7 .nil .nil) (nd aY .nil .nil)) (nd PJ (nd O4 .nil .nil) .nil))))) (nd aY (nd bH (nd aY (nd aY (nd aY (nd OC .nil .nil) (nd aY .nil .nil)) (nd S2 (nd RY .nil .nil) (nd SS .nil .nil))) (nd WT (nd aY (nd P6 .nil .nil) (nd bH .nil .nil)) (nd aY (nd aY .nil .nil) .nil))) (nd Wn (nd aY (nd Tk (nd bH .nil .nil) (nd Pb .nil .nil)) (nd aY (nd bH .nil .nil) .nil)) (nd aY (nd aY (nd N4 .nil .nil) (nd aY .nil .nil)) (nd Qo (nd Qy .nil .nil) .nil)))) (nd WI (nd aY (nd WG (nd aY (nd aY .nil .nil) (nd aY .nil .nil)) (nd TM (nd aY .nil .nil) (nd Tj .nil .nil))) (nd aY (nd Sv (nd SM .nil .nil) (nd Uv .nil .nil)) (nd aY (nd SU .nil .nil) .nil))) (nd aY (nd aY (nd aY (nd OD .nil .nil) (nd Q9 .nil .nil)) (nd Us (nd Ql .nil .nil) .nil)) (nd P8 (nd aY (nd TN .nil .nil) (nd Sq .nil .nil)) (nd NJ (nd QY .nil .nil) .nil)))))) (nd (boot_o_5 P) (nd (boot_o_9 P) (nd (Xp P) (nd WX (nd pz (nd Ts (nd O9 .nil .nil) (nd Qz .nil .nil)) (nd NM (nd Ox .nil .nil) (nd aY .nil .nil))) (nd Xm (nd pz (nd aY .nil .nil) (nd Pi .nil .nil)) (nd R1 (nd bH .nil .nil) .nil))) (nd Ww (nd Xq (nd NZ (nd TR .nil .nil) (nd OE .nil .nil)) (nd bH (nd Oa .nil .nil) (nd RB .nil .nil))) (nd pz (nd Pd (nd aY .nil .nil) (nd bH .nil .nil)) (nd R8 (nd aY .nil .nil) .nil)))) (nd Xe (nd pz (nd W3 (nd pz (nd Q2 .nil .nil) (nd bH .nil .nil)) (nd aY (nd Tl .nil .nil) (nd R5 .nil .nil))) (nd Of (nd PB (nd Rl .nil .nil) (nd aY .nil .nil)) (nd bH (nd S8 .nil .nil) .nil))) (nd W5 (nd pz (nd Qq (nd Rj .nil .nil) (nd aY .nil .nil)) (nd Oc (nd aY .nil .nil) .nil)) (nd SO (nd pz (nd bH .nil .nil) (nd Px .nil .nil)) (nd bH (nd Oq .nil .nil) .nil))))) (nd U4 (nd Wl (nd Wo (nd WA (nd Pt (nd bH .nil .nil) (nd RK .nil .nil)) (nd bH (nd bH .nil .nil) (nd aY .nil .nil))) (nd pz (nd NV (nd aY .nil .nil) (nd aY .nil .nil)) (nd RE (nd Qp .nil .nil) .nil))) (nd pz (nd W1 (nd pz (nd SI .nil .nil) (nd TZ .nil .nil)) (nd N1 (nd aY .nil .nil) .nil)) (nd Oi (nd O0 (nd Tt .nil .nil) (nd Ui .nil .nil)) (nd Ur (nd aY .nil .nil) .nil)))) (nd pz (nd WJ (nd pz (nd TJ (nd Qd .nil .nil) (nd NH .nil .nil)) (nd S3 (nd Rc .nil .nil) (nd bH .nil .nil))) (nd SZ (nd pz (nd bH .nil .nil) (nd OX .nil .nil)) (nd Sm (nd Ow .nil .nil) .nil))) (nd Ws (nd Xa (nd QM (nd TU .nil .nil) (nd aY .nil .nil)) (nd QT (nd Om .nil .nil) .nil)) (nd pz (nd PQ (nd aY .nil .nil) (nd Oy .nil .nil)) (nd aY (nd bH .nil .nil) .nil))))))) (nd (boot_o_2 P) (nd (boot_o_4 P) (nd (boot_o_8 P) (nd pz (nd bH (nd qJ (nd bH (nd aY .nil .nil) (nd Qv .nil .nil)) (nd (Te P) (nd aY .nil .nil) (nd Po .nil .nil))) (nd (Wu P) (nd qJ (nd Sf .nil .nil) (nd O3 .nil .nil)) (nd Up (nd aY .nil .nil) .nil))) (nd (WD P) (nd bH (nd (QG P) (nd Tw .nil .nil) (nd bH .nil .nil)) (nd aY (nd Oh .nil .nil) (nd SX .nil .nil))) (nd qJ (nd bH (nd RZ .nil .nil) (nd aY .nil .nil)) (nd bH (nd Qa .nil .nil) .nil)))) (nd WS (nd qJ (nd (Wp P) (nd qJ (nd N0 .nil .nil) (nd aY .nil .nil)) (nd ST (nd PZ .nil .nil) (nd aY .nil .nil))) (nd bH (nd (Rb P) (nd aY .nil .nil) (nd OJ .nil .nil)) (nd aY (nd bH .nil .nil) .nil))) (nd bH (nd qJ (nd bH (nd bH .nil .nil) (nd Ut .nil .nil)) (nd bH (nd Uw .nil .nil) .nil)) (nd (Tg P) (nd qJ (nd aY .nil .nil) (nd bH .nil .nil)) (nd aY (nd aY .nil .nil) .nil))))) (nd Km (nd W4 (nd (Xo P) (nd bH (nd (NI P) (nd aY .nil .nil) (nd bH .nil .nil)) (nd aY (nd aY .nil .nil) (nd NT .nil .nil))) (nd qJ (nd bH (nd O7 .nil .nil) (nd SF .nil .nil)) (nd bH (nd RQ .nil .nil) .nil))) (nd qJ (nd (WL P) (nd qJ (nd NU .nil .nil) (nd RC .nil .nil)) (nd OY (nd S7 .nil .nil) .nil)) (nd bH (nd (PF P) (nd aY .nil .nil) (nd O8 .nil .nil)) (nd TX (nd Sj .nil .nil) .nil)))) (nd qJ (nd bH (nd qJ (nd bH (nd bH .nil .nil) (nd Uj .nil .nil)) (nd aY (nd bH .nil .nil) (nd aY .nil .nil))) (nd (T4 P) (nd qJ (nd aY .nil .nil) (nd aY .nil .nil)) (nd P7 (nd Qj .nil .nil) .nil))) (nd (WV P) (nd bH (nd (R6 P) (nd S4 .nil .nil) (nd TB .nil .nil)) (nd Th (nd aY .nil .nil) .nil)) (nd qJ (nd bH (nd N9 .nil .nil) (nd PP .nil .nil)) (nd Pz (nd aY .nil .nil) .nil)))))) (nd (boot_o_6 P) (nd (boot_o_10 P) (nd aY (nd Wv (nd (Wz P) (nd R0 (nd QO .nil .nil) (nd ND .nil .nil)) (nd QZ (nd Qx .nil .nil) (nd Q1 .nil .nil))) (nd Xk (nd (QL P) (nd OW .nil .nil) (nd aY .nil .nil)) (nd T2 (nd RV .nil .nil) .nil))) (nd WH (nd Xn (nd Si (nd aY .nil .nil) (nd aY .nil .nil)) (nd On (nd aY .nil .nil) (nd Sa .nil .nil))) (nd (NW P) (nd SN (nd bH .nil .nil) (nd Pm .nil .nil)) (nd aY (nd So .nil .nil) .nil)))) (nd Xi (nd (Wt P) (nd WK (nd (R3 P) (nd Se .nil .nil) (nd Ra .nil .nil)) (nd bH (nd Pr .nil .nil) (nd PY .nil .nil))) (nd Pg (nd Ux (nd OG .nil .nil) (nd bH .nil .nil)) (nd SL (nd aY .nil .nil) .nil))) (nd Xg (nd (Xl P) (nd Qf (nd aY .nil .nil) (nd T9 .nil .nil)) (nd aY (nd bH .nil .nil) .nil)) (nd SH (nd (Ta P) (nd QK .nil .nil) (nd aY .nil .nil)) (nd QW (nd NC .nil .nil) .nil))))) (nd V3 (nd aY (nd WR (nd WB (nd NX (nd RU .nil .nil) (nd TY .nil .nil)) (nd Oe (nd Sr .nil .nil) (nd bH .nil .nil))) (nd (Tu P) (nd N7 (nd bH .nil .nil) (nd QV .nil .nil)) (nd Ph (nd OU .nil .nil) .nil))) (nd (WE P) (nd Wx (nd (Pw P) (nd OI .nil .nil) (nd aY .nil .nil)) (nd Tz (nd Rg .nil .nil) .nil)) (nd S9 (nd NR (nd RP .nil .nil) (nd OP .nil .nil)) (nd P9 (nd bH .nil .nil) .nil)))) (nd (WF P) (nd WO (nd (Xb P) (nd Sy (nd aY .nil .nil) (nd Rr .nil .nil)) (nd Oz (nd aY .nil .nil) (nd P4 .nil .nil))) (nd Rq (nd (Ry P) (nd Rn .nil .nil) (nd OL .nil .nil)) (nd QF (nd aY .nil .nil) .nil))) (nd WZ (nd WP (nd O6 (nd aY .nil .nil) (nd bH .nil .nil)) (nd aY (nd Q0 .nil .nil) .nil)) (nd (RD P) (nd Uk (nd bH .nil .nil) (nd aY .nil .nil)) (nd bH (nd S6 .nil .nil) .nil)))))))
def rG0 (w:World) (os:OsState):segRunT treeTable p w 11 (some (.ref 6)) 1 4559 (⟨T0 w.params,15,{},#[],{},187,os⟩:SharedT) (piecesOf g0 en cE ⟨0,0,0,0⟩ [topFrame fq])=some (.next,(⟨T1 w.params,467,{},#[],{},819,os⟩:SharedT),cE,⟨334,0,352,15⟩):=by
 rw [PySem.W.Fast.te10110043849684766642,PySem.W.Fast.te14364793385576792824];kernel_rfl
def L1 (P:Params):List Obj:=[boot_o_0 P,boot_o_1 P,boot_o_2 P,Qg P,boot_o_4 P,boot_o_5 P,boot_o_6 P,boot_o_7 P,boot_o_8 P,boot_o_9 P,boot_o_10 P,aY,Km,U4,V3,Xj,pz,Xp P,aY,bH,W4,Wl,aY,Xs P,WS,Xe,Xi,WI,qJ,pz,WF P,aY,bH,WX,Wv,aY,Xo P,Wo,WR,WM,qJ,pz,Wt P,aY,bH,WJ,WO,aY,WD P,Ww,WH,Wn,qJ,pz,WE P,aY,bH,W5,Xg,aY,WV P,Ws,WZ,WY,qJ,pz,Wz P,aY,bH,WA,WB,aY,Wp P,W3,WK,WG,qJ,pz,Xb P,aY,bH,Xq,Xn,aY,WL P,W1,Wx,Xc,qJ,pz,Xl P,aY,bH,Xa,WP,aY,Wu P,Xm,Xk,WT,qJ,pz,Tu P,aY,bH,Of,Pg,aY,T4 P,SZ,Rq,Tv,qJ,pz,NW P,aY,bH,Oi,S9,aY,Tg P,SO,SH,P8,qJ,pz,RD P,aY,bH,Ts,R0,aY,NI P,Pt,NX,TQ,qJ,pz,R3 P,aY,bH,TJ,Sy,aY,QG P,NZ,Si,Tk,qJ,pz,Pw P,aY,bH,Qq,Qf,aY,R6 P,QM,O6,Pa,qJ,pz,QL P,aY,bH,NV,N7,aY,Rb P,PB,Ux,Sv,qJ,pz,Ry P,aY,bH,Pd,SN,aY,PF P,O0,NR,NA,qJ,pz,Ta P,aY,bH,PQ,Uk,aY,Te P,NM,QZ,S2,aY,bH,Oe,OO,ST,aY,bH,TM,aY,S3,Oz,TW,aY,bH,On,aY,OY,N1,Tz,aY,bH,Oc,aY,Us,Th,QT,aY,bH,Up,R1,T2,aY,bH,RE,Ph,PR,aY,bH,SL,aY,P7,Sm,QF,aY,bH,R8,aY,Qo,TX,Ur,P9,PJ,aY,bH,QW,NJ,Pz,aY,bH,RM,aY,O9,QO,OC,aY,bH,RU,aY,N0,Q2,Se,aY,bH,Qd,aY,Td,Tw,TR,aY,bH,NU,SI,OI,aY,bH,Rj,aY,OD,S4,TU,aY,bH,Sf,aY,OW,P6,O7,aY,bH,Og,aY,Rl,OG,SM,aY,bH,Rn,O5,RZ,aY,bH,N4,aY,Tt,RP,R7,aY,bH,QK,TN,N9,aY,bH,OS,aY,Ox,Qx,RY,aY,bH,Sr,aY,PZ,Tl,Pr,aY,bH,Rc,aY,RT,Oh,Oa,aY,bH,S7,aY,Rg,Qt,Uw,aY,bH,Ql,aY,Om,Q0,T5,aY,bH,RV,aY,RQ,Qp,OU,aY,bH,S8,aY,SU,Qj,Ow,aY,bH,Qa,aY,So,Qy,Sj,aY,bH,O4,aY,Oq,NC,QY,aY,bH,S6,aY,Qv,Qz,ND,aY,bH,RK,TY,RF,aY,bH,Ra,aY,Uj,NH,Rr,aY,bH,OE,aY,Pb,RC,TZ,aY,bH,Ut,aY,T9,Q9,TB,aY,bH,N3,O3,Pi,aY,bH,SF,aY,QV,SY,OJ,aY,bH,Uv,aY,OX,OL,Pk,aY,bH,Pm,aY,O8,Ui,OP,aY,bH,Px,aY,Sq,PP,Oy,aY,bH,Po,aY,Q1,SS,NT,aY,bH,Rt,aY,R5,PY,Tj,aY,bH,P4,aY,SX,RB,Sa]
def H1 (P:Params):Heap:=⟨Array.mk (L1 P),{}⟩
abbrev sf (w:World) (os:OsState):Shared:=⟨H1 w.params,#[],{},819,os⟩
def rF (w:World) (os:OsState):topRun treeTable p w 11 (some (.ref 6)) 2 (⟨T1 w.params,467,{},#[],{},819,os⟩:SharedT).abs ⟨doneF .next,cE,⟨334,0,352,15⟩,[topFrame fq]⟩=some (sf w os):=by
 rw [PySem.W.Fast.te14082659384304107361,PySem.W.Fast.te14364793385576792824];kernel_rfl
def QD:bd=g0++([]):=by kernel_rfl
def run (w:World) (os:OsState):topRun treeTable p w 11 (some (.ref 6)) (12+(1+(4559+2))) ⟨boot_heap w.params,Array.mk [],boot_drawn,boot_toks,os⟩ (topStub p)=some (sf w os) :=
 go_top (n:=12) (rA w os) (piece_block (n:=1) (segRun_of (rB w os)) (QD ▸ piece_app (n:=4559) (l:=g0) (segRun_of (rG0 w os)) (piece_nil (rF w os))))
def q:Program:=view p [1,2,3,4,5,6,7,8,9,10,11,12,13,14,15,17,18,19,20,21,22,23,24,25,26,28,29,31,32,33,34,35,36,37,38,39,40,41,43,44,45,46,47,48,50,51,52,53,54,55,56,57,58,59,60,61,62,63,64,65,66,67,68,69,70,71]
def PH (w:World):(fencedOpening treeTable p w 9242).map (fun s=>(s.heap,s.gens,s.drawn,s.toks))=some (boot_heap w.params,Array.mk [],boot_drawn,boot_toks) :=
 boot_open (by kernel_rfl) (by decide) (fun s=>by kernel_rfl) w
def size (w:World):((boot_heap w.params).isNs mainGlobals&&(Array.mk []:Array GenState).size==0,(boot_heap w.params).objs.size,(boot_heap w.params).nsMap mainGlobals "__annotations__")=(true,11,(some (.ref 6))):=by
 kernel_rfl
def k0 (w:World) (os:OsState):(staticsOk (importedModules p.main.body) (boot_heap w.params) (H1 w.params)&&namesBound p (H1 w.params)&&gensDone (sf w os)&&laidKept (boot_heap w.params) (H1 w.params))=true:=by kernel_rfl
def k1 (w:World) (os:OsState):seen ((recsOf q).map (·.name)) (ownsOf q) [] { (sf w os) with gens:=#[] }=expectedOf q:=by
 kernel_rfl
def k2 (w:World) (os:OsState):(sf w os).heap.bltView=bltViewBooted:=by
 kernel_rfl
theorem k3 (w:World) (os:OsState):((sf w os).heap.keysOk (looseW q []) ((recsOf q).map (·.name)) ((litsOf q).map (·.1)) ((clssOf q (looseW q [])).map (·.name))&&(sf w os).heap.accountedOkI (importedModules p.main.body)&&(sf w os).heap.isNs mainGlobals&&(sf w os).heap.isNs builtinsNs&&tablesOk q (sf w os).heap&&(xlAt q [] (sf w os)&&recOk [] (sf w os))&&(if true then (sf w os).gens.size==0 else !leftWithCleanup (sf w os).gens))=true:=by
 kernel_rfl
theorem k4 (w:World) (os:OsState):tabsOk q (sf w os)=true:=by
 kernel_rfl
def k5 (w:World) (os:OsState):pinSeenD q (drecsOf q) (sf w os)=pinGoodD (drecsOf q):=by
 kernel_rfl
def k6 (w:World) (os:OsState):plainSeenE q (looseW q []) (sf w os)=plainGoodE q (looseW q []):=by
 kernel_rfl
def k7 (w:World) (os:OsState):plainSeenD q [] (sf w os)=plainGoodD q []:=by
 kernel_rfl
def k8 (w:World) (os:OsState):wideSeen q (sf w os)=wideGood q:=by
 kernel_rfl
def k9 (w:World) (os:OsState):clsSeenW q [] (sf w os)=clsGoodW q []:=by
 kernel_rfl
def ad:List Addr:=List.range 467
def K (P:Params):Frag:=ad.zip (L1 P)
def kY (w:World) (os:OsState):X.obsZ ad (sf w os)=X.valZ K 467 819 w:=by kernel_rfl
def left:LeftO p q [] (fun s=>xlAt q [] s&&recOk [] s) (X.obsZ ad) (X.valZ K 467 819) 9242 :=
 LeftO.of_pieces (H₀:=boot_heap) (H₁:=H1) (gs₀:=Array.mk []) (gs₁:=#[]) (d₀:=boot_drawn) (d₁:={}) (k₀:=boot_toks) (k₁:=819) (m₀:=11) (ann:=(some (.ref 6))) (M:=(12+(1+(4559+2)))) PH size run (by decide) fun w=>funext fun os=>looks_pair (k0 w os) (looks_pair (looks_pair (k1 w os) (looks_pair (k2 w os) (looks_pair (k3 w os) (looks_pair (k4 w os) (looks_pair (k5 w os) (looks_pair (k6 w os) (looks_pair (k7 w os) (looks_pair (k8 w os) (k9 w os))))))))) (kY w os))
def dP (s:Stmt):Pos:=match s with
 | .FunctionDef _ _ _ _ _ _ _ _ _ x=>x
 | _=>default
def d:DefRec:=⟨"law",dA (S 71),dB (S 71),dS (S 71),dP (S 71)⟩
def ws:PySem.Challenge.rw_tablestore_k51_lines_refused.wellSaid=true:=by kernel_rfl
def hold (hc:WalkX q [] (XL q []) (X.obsZ ad) (X.valZ K 467 819) PySem.Challenge.rw_tablestore_k51_lines_refused.row.toRowW d [] fun f vs=>PySem.call f vs):PySem.Challenge.rw_tablestore_k51_lines_refused.Holds:=by
 refine holds_law ws fun said=>?_;refine holds_openX (q:=q) (loose:=[]) (Xt:=fun s=>xlAt q [] s&&recOk [] s) (XP:=XL q []) (N:=9242) left (fun s e=>xl_of s (Bool.and_eq_true_iff.mp e).1) XL.keeps (d:=d) (kwd:=[]) (by kernel_rfl) (by kernel_rfl) (by kernel_rfl) (fun s e=>recFacts_of (Bool.and_eq_true_iff.mp e).2) (by rfl) said (by decide +kernel) ⟨rfl,rfl,rfl,rfl,rfl,by decide +kernel⟩ ?hw hc
 case hw=>w_witness2
end HD
end
namespace T51
open PySem L2
def dk {w:World} {h:Heap} {mg:Str->Option Value} (X:(HD.K w.params).In h) (G:h.Ns mainGlobals mg) {n:Str} {st:Stmt} {f:Nat} (c:Nat) (m:Value) {ps:List Str}
  (a:PySem.W.nsIn (HD.K w.params) mainGlobals n=some (some (.ref f))/\(HD.K w.params).lookup f=some ⟨.type "function",none,.func (PySem.W.fnOf n n (kx st) (cR st) (ap st) .none .none .none m none (.ref c) .none),#[]⟩/\PySem.W.codeIn (HD.K w.params) (.ref c) n=true/\PySem.W.keepIn (HD.K w.params) (.ref f)=true)
  (b:∀ (kV doc pm:Value) (an:Option Addr) (cdv ct:Value) (us:List Value),us.length=ps.length->bindArgs (PySem.W.fnOf n n (kx st) (cR st) (ap st) .none kV doc pm an cdv ct) ⟨us,[]⟩=pure (ps.zip us)) :
  Def (HD.K w.params) mg n st ps f (PySem.W.fnOf n n (kx st) (cR st) (ap st) .none .none .none m none (.ref c) .none) :=
 have F:=LJ (st:=st) a.2.1 a.2.2.1 a.2.2.2
 ⟨F,F.binds b,PySem.W.mg_of X G a.1⟩
local macro_rules | `(tactic| walk_at "kk") => `(tactic| exact ⟨by kernel_rfl, by kernel_rfl, by kernel_rfl, by kernel_rfl⟩)
local macro_rules | `(tactic| walk_at "kz") => `(tactic| kernel_rfl)
def all_mk {l:PySem.W.OpenLaw} {w:World} {h:Heap} {mg:Str->Option Value} {fa:Addr} (X:(HD.K w.params).In h) (G:h.Ns mainGlobals mg) (hfa:mg "law"=some (.ref fa)) :
  ∃ fd:FuncData,(∀ (s:Shared) (v:Value),BindsTo s fd ⟨[v],[]⟩ [("_law_script",v)])/\∀ base:Heap,(HD.K w.params).In base->base.Ns mainGlobals mg->FnOk l.prog w (HD.K w.params) mg base gW 9 fa fd uD (jH (HD.K w.params) mg (aV wt)):=by
 have a41:PySem.W.nsIn (HD.K w.params) mainGlobals "law"=some (some (.ref 466)):=by kernel_rfl
 have v_FIGURES:PySem.W.nsIn (HD.K w.params) mainGlobals "FIGURES"=some (some (.str "0123456789" 433)):=by kernel_rfl
 have v_MOST_SIGNS:PySem.W.nsIn (HD.K w.params) mainGlobals "MOST_SIGNS"=some (some (.int 40 435)):=by kernel_rfl
 have v_MOST_FIGURES_values:PySem.W.nsIn (HD.K w.params) mainGlobals "MOST_FIGURES_values"=some (some (.int 18 437)):=by kernel_rfl
 have v_MOST_ROW_NUMBER:PySem.W.nsIn (HD.K w.params) mainGlobals "MOST_ROW_NUMBER"=some (some (.int 1000000000 494)):=by kernel_rfl
 have v_NO_NAMES:PySem.W.nsIn (HD.K w.params) mainGlobals "NO_NAMES"=some (some (.ref 246)):=by kernel_rfl
 have w_NO_NAMES:(HD.K w.params).lookup 246=some ⟨.type "tuple",none,.seq #[.str "and" 505,.str "by" 506,.str "down" 507,.str "from" 508,.str "none" 509,.str "not" 510,.str "or" 511,.str "order" 512,.str "show" 513,.str "take" 514,.str "where" 515] 0,#[]⟩:=by kernel_rfl
 have v_COLUMN_KINDS:PySem.W.nsIn (HD.K w.params) mainGlobals "COLUMN_KINDS"=some (some (.ref 247)):=by kernel_rfl
 have w_COLUMN_KINDS:(HD.K w.params).lookup 247=some ⟨.type "tuple",none,.seq #[.str "number" 517,.str "text" 518] 0,#[]⟩:=by kernel_rfl
 have v_MOST_LETTERS:PySem.W.nsIn (HD.K w.params) mainGlobals "MOST_LETTERS"=some (some (.int 8 520)):=by kernel_rfl
 have v_MOST_COLUMNS:PySem.W.nsIn (HD.K w.params) mainGlobals "MOST_COLUMNS"=some (some (.int 8 522)):=by kernel_rfl
 have v_MOST_FIGURES_records:PySem.W.nsIn (HD.K w.params) mainGlobals "MOST_FIGURES_records"=some (some (.int 10 573)):=by kernel_rfl
 have v_MOST_VALUES:PySem.W.nsIn (HD.K w.params) mainGlobals "MOST_VALUES"=some (some (.int 8 575)):=by kernel_rfl
 have cg:PySem.W.nsIn (HD.K w.params) mainGlobals "BadValue"=some (some (.ref 37)):=by kernel_rfl
 have eF:PySem.W.nsIn (HD.K w.params) mainGlobals "BadLog"=some (some (.ref 169)):=by kernel_rfl
 have lg:PySem.W.nsIn (HD.K w.params) mainGlobals "TableError"=some (some (.ref 24)):=by kernel_rfl
 have ja:PySem.W.nsIn (HD.K w.params) mainGlobals "BadShape"=some (some (.ref 49)):=by kernel_rfl
 have gU:PySem.W.nsIn (HD.K w.params) mainGlobals "BadChange"=some (some (.ref 61)):=by kernel_rfl
 have lR:PySem.W.nsIn (HD.K w.params) mainGlobals "BadRow"=some (some (.ref 73)):=by kernel_rfl
 have kc:PySem.W.nsIn (HD.K w.params) mainGlobals "NoTable"=some (some (.ref 85)):=by kernel_rfl
 have fW:PySem.W.nsIn (HD.K w.params) mainGlobals "TableThere"=some (some (.ref 97)):=by kernel_rfl
 have jb:PySem.W.nsIn (HD.K w.params) mainGlobals "NoColumn"=some (some (.ref 109)):=by kernel_rfl
 have fX:PySem.W.nsIn (HD.K w.params) mainGlobals "IndexThere"=some (some (.ref 121)):=by kernel_rfl
 have nX:PySem.W.nsIn (HD.K w.params) mainGlobals "NoRow"=some (some (.ref 133)):=by kernel_rfl
 have qF:PySem.W.nsIn (HD.K w.params) mainGlobals "Over"=some (some (.ref 145)):=by kernel_rfl
 have nY:PySem.W.nsIn (HD.K w.params) mainGlobals "Clash"=some (some (.ref 157)):=by kernel_rfl
 have fh:PySem.W.nsIn (HD.K w.params) mainGlobals "BadQuestion"=some (some (.ref 181)):=by kernel_rfl
 have kf:PySem.W.nsIn (HD.K w.params) mainGlobals "BadDesk"=some (some (.ref 193)):=by kernel_rfl
 have dH:PySem.W.excIn (HD.K w.params) 37 uI "ValueError.__new__"=true:=by kernel_rfl
 have fj:PySem.W.excIn (HD.K w.params) 169 uI "ValueError.__new__"=true:=by kernel_rfl
 have ex_BadValue_BadValue:PySem.W.exmOne (HD.K w.params) (.ref 37) (.ref 37)=some true:=by kernel_rfl
 have ex_BadLog_TableError:PySem.W.exmOne (HD.K w.params) (.ref 169) (.ref 24)=some true:=by kernel_rfl
 have ex_BadValue_TableError:PySem.W.exmOne (HD.K w.params) (.ref 37) (.ref 24)=some true:=by kernel_rfl
 have kt_BadLog_BadLog:PySem.W.kitOne (HD.K w.params) (.ref 169) (.ref 169)=some true:=by kernel_rfl
 have kt_BadValue_BadLog:PySem.W.kitOne (HD.K w.params) (.ref 37) (.ref 169)=some false:=by kernel_rfl
 have tb_x:Nb (HD.K w.params) dU jt=true:=by kernel_rfl
 have zn:∀ {n:Str},PySem.W.nsIn (HD.K w.params) mainGlobals n=some none->mg n=none:=fun e=>PySem.W.mg_none_of X G e;have e:=hfa.symm.trans (PySem.W.mg_of X G a41);cases e;have ov:Def _ mg "is_sign" rL lN 207 _:=dk X G 206 HD.m431 (by walk_at "kk") fun _ _ _ _ _ _=>pw (fun _=>rfl);have mx:Def _ mg "is_value" mw j8 200 _:=dk X G 199 HD.m431 (by walk_at "kk") fun _ _ _ _ _ _=>pw (fun _=>rfl);have kI:Def _ mg "read_text" m6 iT 221 _:=dk X G 220 HD.m431 (by walk_at "kk") fun _ _ _ _ _ _=>pw (fun _=>rfl);have iz:Def _ mg "read_number" iy fQ 226 _:=dk X G 225 HD.m431 (by walk_at "kk") fun _ _ _ _ _ _=>pw (fun _=>rfl);have jz:Def _ mg "read_value" mo gP 214 _:=dk X G 213 HD.m431 (by walk_at "kk") fun _ _ _ _ _ _=>pw (fun _=>rfl);have kJ:Def _ mg "pieces_of" nM iP 238 _:=dk X G 237 HD.m431 (by walk_at "kk") fun _ _ _ _ _ _=>pw (fun _=>rfl);have iA:Def _ mg "read_values" ie fU 231 _:=dk X G 230 HD.m431 (by walk_at "kk") fun _ _ _ _ _ _=>pw (fun _=>rfl);have gj:Def _ mg "is_row_number" je dR 245 _:=dk X G 244 HD.m492 (by walk_at "kk") fun _ _ _ _ _ _=>pw (fun _=>rfl);have kK:Def _ mg "is_letter" mU iL 259 _:=dk X G 258 HD.m503 (by walk_at "kk") fun _ _ _ _ _ _=>pw (fun _=>rfl);have gB:Def _ mg "is_name" og ll 252 _:=dk X G 251 HD.m503 (by walk_at "kk") fun _ _ _ _ _ _=>pw (fun _=>rfl);have fA:Def _ mg "is_column_kind" hJ cW 292 _:=dk X G 291 HD.m503 (by walk_at "kk") fun _ _ _ _ _ _=>pw (fun _=>rfl);have lQ:Def _ mg "is_pair" qQ lM 273 _:=dk X G 272 HD.m503 (by walk_at "kk") fun _ _ _ _ _ _=>pw (fun _=>rfl);have kL:Def _ mg "is_column" nq iU 285 _:=dk X G 284 HD.m503 (by walk_at "kk") fun _ _ _ _ _ _=>pw (fun _=>rfl);have iC:Def _ mg "are_columns" fM fO 278 _:=dk X G 277 HD.m503 (by walk_at "kk") fun _ _ _ _ _ _=>pw (fun _=>rfl);have my:Def _ mg "is_shape" oW jN 266 _:=dk X G 265 HD.m503 (by walk_at "kk") fun _ _ _ _ _ _=>pw (fun _=>rfl);have jE:Def _ mg "read_table" jx gK 304 _:=dk X G 303 HD.m571 (by walk_at "kk") fun _ _ _ _ _ _=>pw (fun _=>rfl);have cL:Def _ mg "read_row_number" eR cJ 316 _:=dk X G 315 HD.m571 (by walk_at "kk") fun _ _ _ _ _ _=>pw (fun _=>rfl);have mz:Def _ mg "read_put" oZ jR 311 _:=dk X G 310 HD.m571 (by walk_at "kk") fun _ _ _ _ _ _=>pw (fun _=>rfl);have eD:Def _ mg "read_change" kZ fK 299 _:=dk X G 298 HD.m571 (by walk_at "kk") fun _ _ _ _ _ _=>pw (fun _=>rfl);have ow:Def _ mg "_law_whole" qP lO 323 _:=dk X G 322 HD.m609 (by walk_at "kk") fun _ _ _ _ _ _=>pw (fun _=>rfl);have du:Def _ mg "_law_cell_at" nQ iS 330 _:=dk X G 329 HD.m609 (by walk_at "kk") fun _ _ _ _ _ _=>Er (fun _ _=>rfl);have fB:Def _ mg "_law_mixed" qL lh 337 _:=dk X G 336 HD.m609 (by walk_at "kk") fun _ _ _ _ _ _=>pw (fun _=>rfl);have i8:Def _ mg "_law_name_by" nT iH 344 _:=dk X G 343 HD.m609 (by walk_at "kk") fun _ _ _ _ _ _=>pw (fun _=>rfl);have qy:Def _ mg "_law_twin" tM m4 351 _:=dk X G 350 HD.m609 (by walk_at "kk") fun _ _ _ _ _ _=>Er (fun _ _=>rfl);have jF:Def _ mg "_law_shape_by" l7 gH 358 _:=dk X G 357 HD.m609 (by walk_at "kk") fun _ _ _ _ _ _=>Er (fun _ _=>rfl);have kM:Def _ mg "_law_text_by" mZ iZ 365 _:=dk X G 364 HD.m609 (by walk_at "kk") fun _ _ _ _ _ _=>pw (fun _=>rfl);have jG:Def _ mg "_law_value_by" mn gC 372 _:=dk X G 371 HD.m609 (by walk_at "kk") fun _ _ _ _ _ _=>Er (fun _ _=>rfl);have mB:Def _ mg "_law_row_by" pv jZ 379 _:=dk X G 378 HD.m609 (by walk_at "kk") fun _ _ _ _ _ _=>Er (fun _ _=>rfl);have kN:Def _ mg "_law_written" nN i3 386 _:=dk X G 385 HD.m609 (by walk_at "kk") fun _ _ _ _ _ _=>pw (fun _=>rfl);have kb:Def _ mg "_law_line" nS nI 391 _:=dk X G 390 HD.m609 (by walk_at "kk") fun _ _ _ _ _ _=>pw (fun _=>rfl);have iE:Def _ mg "_law_change_by" la fS 398 _:=dk X G 397 HD.m609 (by walk_at "kk") fun _ _ _ _ _ _=>Er (fun _ _=>rfl);have jM:Def _ mg "_law_alone" rg jI 405 _:=dk X G 404 HD.m609 (by walk_at "kk") fun _ _ _ _ _ _=>pw (fun _=>rfl);have gk:Def _ mg "_law_wrong_words" jc dY 412 _:=dk X G 411 HD.m609 (by walk_at "kk") fun _ _ _ _ _ _=>Er (fun _ _=>rfl);have gm:Def _ mg "_law_wrong_table" gd dZ 417 _:=dk X G 416 HD.m609 (by walk_at "kk") fun _ _ _ _ _ _=>Er (fun _ _=>rfl);have fD:Def _ mg "_law_wrong_number" gZ cV 424 _:=dk X G 423 HD.m609 (by walk_at "kk") fun _ _ _ _ _ _=>Er (fun _ _=>rfl);have iG:Def _ mg "_law_wrong_row" kX fV 431 _:=dk X G 430 HD.m609 (by walk_at "kk") fun _ _ _ _ _ _=>Er (fun _ _=>rfl);have oz:Def _ mg "_law_wrong" rE lF 438 _:=dk X G 437 HD.m609 (by walk_at "kk") fun _ _ _ _ _ _=>Er (fun _ _=>rfl);have i9:Def _ mg "_law_refused" nJ iM 445 _:=dk X G 444 HD.m609 (by walk_at "kk") fun _ _ _ _ _ _=>pw (fun _=>rfl);have kO:Def _ mg "_law_mutated" nD iJ 452 _:=dk X G 451 HD.m609 (by walk_at "kk") fun _ _ _ _ _ _=>Er (fun _ _=>rfl);have fE:Def _ mg "_law_only_its_own" hG de 459 _:=dk X G 458 HD.m609 (by walk_at "kk") fun _ _ _ _ _ _=>pw (fun _=>rfl);have GJ:Def _ mg "law" wd uD 466 _:=dk X G 465 HD.m609 (by walk_at "kk") fun _ _ _ _ _ _=>pw (fun _=>rfl);refine ⟨PySem.W.fnOf "law" "law" (kx wd) (cR wd) (ap wd) .none .none .none (.str "law_tablestore_k51_lines_refused" 609) none (.ref 465) .none,fun s v=>.of_eq rfl,fun base _ _=>?_⟩;exact (My ⟨ov,mx,kI,iz,jz,kJ,iA,gj,kK,gB,fA,lQ,kL,iC,my,jE,cL,mz,eD,ow,du,fB,i8,qy,jF,kM,jG,mB,kN,kb,iE,jM,gk,gm,fD,iG,oz,i9,kO,fE,GJ,PySem.W.mg_of X G v_FIGURES,⟨_,rfl⟩,fun H=>rfl,PySem.W.mg_of X G v_MOST_SIGNS,⟨_,rfl⟩,fun H=>rfl,PySem.W.mg_of X G v_MOST_FIGURES_values,⟨_,rfl⟩,fun H=>rfl,PySem.W.mg_of X G v_MOST_ROW_NUMBER,⟨_,rfl⟩,fun H=>rfl,⟨_,w_NO_NAMES,rfl,rfl⟩,PySem.W.mg_of X G v_NO_NAMES,rfl,fun H=>⟨246,[V.str "and",V.str "by",V.str "down",V.str "from",V.str "none",V.str "not",V.str "or",V.str "order",V.str "show",V.str "take",V.str "where"],rfl,.inr ⟨_,_,_,w_NO_NAMES,rfl,rfl,(by rw [sizeLine_eq];exact Nat.le_trans (show 11<=1000 by decide) (by decide)),(.cons ⟨_,rfl⟩ (.cons ⟨_,rfl⟩ (.cons ⟨_,rfl⟩ (.cons ⟨_,rfl⟩ (.cons ⟨_,rfl⟩ (.cons ⟨_,rfl⟩ (.cons ⟨_,rfl⟩ (.cons ⟨_,rfl⟩ (.cons ⟨_,rfl⟩ (.cons ⟨_,rfl⟩ (.cons ⟨_,rfl⟩ .nil)))))))))))⟩,(aX.cons rfl (aX.cons rfl (aX.cons rfl (aX.cons rfl (aX.cons rfl (aX.cons rfl (aX.cons rfl (aX.cons rfl (aX.cons rfl (aX.cons rfl (aX.cons rfl aX.nil)))))))))))⟩,⟨_,w_COLUMN_KINDS,rfl,rfl⟩,PySem.W.mg_of X G v_COLUMN_KINDS,rfl,fun H=>⟨247,[V.str "number",V.str "text"],rfl,.inr ⟨_,_,_,w_COLUMN_KINDS,rfl,rfl,(by rw [sizeLine_eq];exact Nat.le_trans (show 2<=1000 by decide) (by decide)),(.cons ⟨_,rfl⟩ (.cons ⟨_,rfl⟩ .nil))⟩,(aX.cons rfl (aX.cons rfl aX.nil))⟩,PySem.W.mg_of X G v_MOST_LETTERS,⟨_,rfl⟩,fun H=>rfl,PySem.W.mg_of X G v_MOST_COLUMNS,⟨_,rfl⟩,fun H=>rfl,PySem.W.mg_of X G v_MOST_FIGURES_records,⟨_,rfl⟩,fun H=>rfl,PySem.W.mg_of X G v_MOST_VALUES,⟨_,rfl⟩,fun H=>rfl,PySem.W.mg_of X G cg,cg,PySem.W.mg_of X G eF,eF,PySem.W.mg_of X G lg,lg,PySem.W.mg_of X G ja,ja,PySem.W.mg_of X G gU,gU,PySem.W.mg_of X G lR,lR,PySem.W.mg_of X G kc,kc,PySem.W.mg_of X G fW,fW,PySem.W.mg_of X G jb,jb,PySem.W.mg_of X G fX,fX,PySem.W.mg_of X G nX,nX,PySem.W.mg_of X G qF,qF,PySem.W.mg_of X G nY,nY,PySem.W.mg_of X G fh,fh,PySem.W.mg_of X G kf,kf,dH,fj,KC (List.forall_mem_cons.mpr ⟨⟨37,cg,PySem.W.mg_of X G cg,ex_BadValue_BadValue⟩,(fun _ h=>nomatch h)⟩),Ou (PySem.W.mg_of X G eF) kt_BadLog_BadLog (List.forall_mem_cons.mpr ⟨⟨37,PySem.W.mg_of X G cg,dH,kt_BadValue_BadLog⟩,(fun _ h=>nomatch h)⟩),KC (List.forall_mem_cons.mpr ⟨⟨37,cg,PySem.W.mg_of X G cg,ex_BadValue_TableError⟩,(List.forall_mem_cons.mpr ⟨⟨169,eF,PySem.W.mg_of X G eF,ex_BadLog_TableError⟩,(fun _ h=>nomatch h)⟩)⟩),Jn tb_x,zn (by kernel_rfl),zn (by kernel_rfl),zn (by kernel_rfl),zn (by kernel_rfl),zn (by kernel_rfl),zn (by kernel_rfl),zn (by kernel_rfl),zn (by kernel_rfl),zn (by kernel_rfl),zn (by kernel_rfl),zn (by kernel_rfl),zn (by kernel_rfl),zn (by kernel_rfl)⟩).still
def walk {l:PySem.W.OpenLaw} {q:Program} {loose:List Str} {XP:(Str->Option Value)->Heap->Prop} {YP:World->Heap->Prop} {d:DefRec} {K:Params->PySem.W.Frag} (hn:l.most=some 63) (hdf:d.params.defaults=[])
  (hY:∀ (w:World) (h:Heap),YP w h->(K w.params).In h)
  (F:∀ (w:World) (mg:Str->Option Value) (fa:Addr) (h:Heap),(K w.params).In h->h.Ns mainGlobals mg->mg d.name=some (.ref fa) ->
   ∃ fd:FuncData,(∀ (s:Shared) (u:Value),BindsTo s fd ⟨[u],[]⟩ [("_law_script",u)])/\∀ base:Heap,(K w.params).In base->base.Ns mainGlobals mg->FnOk l.prog w (K w.params) mg base gW 9 fa fd uD (jH (K w.params) mg (aV wt))) :
  PySem.W.WalkO q loose XP YP l.row.toRowW d [] (fun f vs=>PySem.call f vs) :=
 L2.G4 (n:=63) (k:=9) (x:="_law_script") (CX:=fun _=>gW) (sp:=fun w=>Ge (K w.params) (aV wt)) hn (by decide) hdf ⟨rfl,by decide,by decide⟩ hY (fun w mg fa h h1 h2 h3=>Hv (F w mg fa h h1 h2 h3)) (fun _ _ a ns hl _ hS=>Jt hS (bB (law_true ns hl)) fun _=>rfl) fun _ _ _ _ _ z=>z
end T51
open PySem PySem.W PyProof.Rows
set_option maxRecDepth 100000 in
set_option maxHeartbeats 0 in
theorem PySem.Challenge.cw_tablestore_k51_lines_refused_holds : PySem.Challenge.rw_tablestore_k51_lines_refused.Holds := by
 refine HD.hold (L2.walkX (fun _=>by kernel_rfl) ?_);exact T51.walk (l:=PySem.Challenge.rw_tablestore_k51_lines_refused) (K:=HD.K) rfl (by kernel_rfl) (fun w h Y=>Y) fun w mg fa h KX G hmg=>T51.all_mk KX G hmg
